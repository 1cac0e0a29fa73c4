import PyProof.Rows.All
import Wide.All
import OpenK.AllK
import Wide.FinOn
import Lean
import PyProof.EqAt
import PyProof.EqKinds
import PyProof.TupleCall
import PyProof.FString
import PyProof.Rows.TupIter
import KE.KDictList
import PyProof.ZipIter
import PyProof.ListNew
import PyProof.RulesAssignMore
import PyProof.ReprRoads
import PyProof.FitsInt
import PyProof.Rows.Range3
import KE.KSortKey
import KE.KLam
import PyProof.CallFns
import PyProof.StrWalks
import KE.KIntText
import PyProof.ListStr
import PySem.Challenge.RW_rayround_k57_parted_by_bends_alone
set_option maxRecDepth 100000
set_option linter.all false
set_option Elab.async false
set_option maxHeartbeats 4000000
local macro_rules|`(⋯)=>`(by lia)
noncomputable section
set_option bootstrap.genMatcherCode false
set_option genSizeOf false
set_option genSizeOfSpec false
set_option compiler.extract_closed false
open And renaming intro→lh
open Array renaming getElem?_eq_some_iff→cU,getElem?_eq_getElem→dN,forIn_toList→eQ,getElem?_setIfInBounds_self_of_lt→fz,length_toList→fM,toList_append→fR,perm_iff_toList_perm→i7,getElem?_toList→kc
open Bool renaming false_eq_true→aS,and_eq_true→bg,false_ne_true→bV,not_true→d9,and_eq_true_iff→kX
open Classical renaming byContradiction→cX
open False renaming elim→gm
open Int renaming emod_lt_of_pos→aX,natAbs_mul→a7,mul_nonneg→a8,toNat_natCast→be,emod_eq_of_lt→bf,emod_nonneg→bF,add_zero→cF,mul_le_mul_of_nonneg_right→eL,gcd→ft,emod_add_emod→fv,natAbs_sub_le→fw,lt_or_le→fJ,toNat_of_nonneg→fV,natAbs_add_le→gP,natCast_ediv→hG,emod_emod_of_dvd→ic,le_of_lt→iJ,fmod_eq_emod_of_nonneg→i9,fdiv_eq_ediv_of_nonneg→ja,add_emod_right→jb,natAbs_natCast→jd,neg_mul→jp,dvd_mul_of_dvd_right→jA,dvd_mul_of_dvd_left→jK,natCast_dvd_natCast→jL,mul_neg→kW,dvd_refl→lY,one_mul→mh,mul_pos→mA
open List renaming getElem?_append_left→ac,length_map→af,getElem?_set_ne→ah,size_toArray→am,mem_cons→ar,getElem?_eq_some_iff→au,getElem?_eq_getElem→av,getElem?_set_self→ay,replicate→aB,range→aC,length_append→aI,mem_cons_of_mem→aJ,getD_eq_getElem?_getD→aK,getElem?_eq_none→aL,map_cons→aR,getElem?_append_right→aT,length_pos_iff→aV,mem_append_right→aW,getElem?_eq_none_iff→bw,Nodup→bA,getElem?_map→bC,not_mem_nil→bD,take_succ_eq_append_getElem→bE,cons_append→bI,getElem_mem→bJ,length_replicate→bO,length_cons→bS,zipWith→bT,take_of_length_le→bU,mem_cons_self→bW,mem_append→bZ,lookup_cons→b8,mem_range→cu,map_append→cw,mem_map→cx,append_nil→cD,range_succ→cE,getElem_of_mem→cH,length_take→cQ,length_set→cV,mem_singleton→da,getElem?_take_of_lt→db,eq_nil_of_length_eq_zero→dg,length_range→dk,getElem?_cons_succ→dm,filterMap_cons→dq,drop_eq_nil_of_le→dz,take_length→dG,getElem?_toArray→dK,drop_eq_getElem_cons→dM,find?_cons→dR,mem_of_getElem?→dZ,append_assoc→d6,ext_getElem?→d7,Pairwise→js,map_congr_left→eI,all_eq_true→eK,ext_getElem→eN,nodup_cons→eV,length_nil→eX,length_singleton→fk,length_drop→fF,getElem_map→fI,getElem_append_left→fZ,mem_filter→f8,of_mem_zip→gf,forIn_cons→gg,forIn_nil→gJ,zipWith_cons_cons→gK,map_map→gN,pairwise_map→gS,mem_append_left→hW,getElem_zipWith→ig,mem_of_mem_take→ii,nil_append→ip,zipIdx_nil→ir,foldl_cons→iA,take_succ_cons→iB,map_nil→iC,set_set→iI,zip_cons_cons→iR,mem_replicate→i5,pairwise_cons→i8,pairwise_iff_getElem→jg,getElem_append_right→jh,filter_congr→jr,getElem?_replicate→jE,zipIdx_cons→jG,getElem?_cons_zero→jI,length_eq_zero_iff→jJ,mem_flatMap→jO,map_const'→j8,getElem?_zipWith→ke,take_append_drop→kh,getElem_set_self→kj,length_filter_le→ko,take_zero→kP,mem_of_mem_drop→kR,flatMap_append→lx,getElem_set_ne→lC,map_set→lX
open List.Pairwise renaming imp_of_mem→eF
open List.Perm renaming eq_of_pairwise→jy
open List.cons renaming injEq→f7
open Nat renaming le_refl→ae,lt_of_lt_of_le→aj,ne_of_lt→az,ne_of_gt→aQ,le_trans→aU,mul_le_mul→bG,lt_irrefl→b9,pow_le_pow_right→cg,le_of_lt→cM,zero_le→dB,lt_succ_self→dF,pos_of_ne_zero→dJ,lt_of_le_of_lt→eS,mul_ne_zero→eZ,not_lt_of_le→fG,zero_add→fH,lt_trans→gB,sub_self→gG,lt_succ_of_lt→gI,lcm→gR,mul_le_mul_right→im,min_eq_left→iu,strongRecOn→iy,div_le_self→iz,add_comm→iF,gcd→iH,le_succ→ji,add_assoc→ju,le_of_not_lt→jF,min_self→jV,gcd_comm→jX,pow_succ→jY,eq_one_of_dvd_one→ki,mul_le_mul_left→ly,le_of_eq→lW,pow_add→mo
open Ne renaming symm→bh
open Option renaming isSome_iff_exists→eB,isNone_iff_eq_none→fK,map_eq_some_iff→gA,isSome_some→iZ
open Option.some renaming injEq→aw,inj→aO
open Or renaming inl→c8,inr→kz
open Prod renaming ext→gy
open Prod.mk renaming injEq→lD
open PyProof.Rows renaming seqObj→bB,wpS_bind→bM,callWith_type1→bY,wpS_pure→cL,IsTupIter→dH,SortSt→dO,slot_tuple_getitem→eG,slot_tupleiter_next→fP,setPending→gn,IntsAre→gz,wpS_forRange→gL,Keyed→gY,AllBare→hO,IsTup→hV,get?_update_seq→iw,listItems_at→iG,assignInOrder_cons→iT,envOfC→iV,mirror→jw,listUpdate_at→jz,pendingOf→jH,subscriptTail_builtinR→jT,entry_tupleiter_next→kI,mirror_perm→kJ,wpS_reverse→kM,failedOf→kO,args_tupleiter_next→lq,firstOfTuple'→lE,size_push'→lL,wpS_get→lU,tuples'→lV
open PySem renaming Value→aa,starEach→aA,model→aE,Shared→aH,Builtin→cW,mainGlobals→aM,wpAny_field→aZ,NameKind→cJ,Heap→mB,wpAny_newObj_type→bK,bootBuiltins→bN,cellsFrom→bR,assignEach→bX,wpAny_call_entry→b7,wpAny_callSpecial?_slot→cA,Program→cB,Around→cZ,World→cO,backTo→cR,wpAny_setField→cS,rawInt→cT,wpAny_isInstance→c7,sizeLine_eq→df,wpAny_typeNameOfWhole_keyiter→dh,codeAmong→dj,compareOp→dE,wpAny_setField_rec→dI,wpAny_passesOwn→dP,wpAny_truthy_bool→dY,wpAny_attempt→d8,swappedStores→eA,wpAny_typeNameOf_keyiter→eE,binaryOp→eU,importedModules→eW,wpAny_updateSeq→eY,pyNext→fj,codeAny→fm,keywordEach→fA,compTurn→fB,TriplesOk→fC,PassesOwn→fE,swapsWithSole→fW,behindInMarks→fX,wpAny_specialOf→f6,letOwnedTupleGo→f9,builtinsNs→gk,IsRangeIter→gp,sliceBounds→gq,tupleKeyHash→gx,wpAny_pyIter_list→gH,isSubtype_tuple_tuple→gU,Scope→gW,wpAny_isOneOf_keyiter→gX,wpAny_forIn_list→gZ,attributeBase→hU,FuncData→hX,bindArgs→hZ,IsZip→ia,wpAny_letGo→ib,wpAny_execs_nil→io,preSum→iq,Keyword→iD,swapsWith→iK,pushCells→iL,firstArgMember→iM,field→iN,cLine→iO,wpAny_tupleItemsOf→iQ,sysModules→iS,recursionLimit→iU,backToKw→iX,Thread→iY,wpAny_fieldsOf→i6,wpAny_letOwnedTupleGo_zip→jf,wpAny_pyIter_slot→jl,wpAny_dictEntries→jo,plainId_quiet→jv,seqItems?→jB,wpAny_pyNext_range_item→jD,wpAny_pyNext_list_item→jR,wpAny_pyIter_rangeiter→jS,denote→jU,wpAny_nextOf_list_item→jW,codeAny_builtin→jZ,wpAny_loadPart'→j3,pushCells_keeps→j4,wpAny_dictEpoch→j5,wpAny_throw→kq,wpAny_of_eq→kr,Params→kC,newFunctionEnv→kG,BindsTo→kZ,callerA→k7,DictEntry→k8,treeTable→lf,noteFrame→lg,isInstance→lF,IsPart→lI,closureFor→lK,codeAny_mono→lN,seqIndex_neg→lO,valueAt→lR,relabel→lS,eqIsQuiet→lZ,seqIndex_of→l8,atKey→ma,leaving→mC,getItem→mD
open PySem.Around renaming frames_deeper→kx,under_plainId→kH
open PySem.Builtin.Dict renaming showsAll→j9
open PySem.Builtin.Int renaming intBits→fN
open PySem.Builtin.List renaming listTooLong→fY,listItems→gM
open PySem.Builtin.Range renaming rangeSize→eJ
open PySem.Builtin.Slice renaming slicePlaces→dL,sliceAdjust→fL,sliceApplied→iW
open PySem.Builtin.SmallTypes renaming nextOf→bQ,ownedTupleIsFree→cK,ownedTupleHandOut→fQ
open PySem.Builtin.Tuple renaming tupleHashOf→cG,tupleExact→eD,tupleItemsOf→iP
open PySem.Data renaming fields→ku,dict→k9
open PySem.EntryCells renaming newEntry→lj
open PySem.Heap renaming get?_push_size→aF,get?_update_other→aG,get?_update_self→bz,SameBut→dw,size_push→cC,ExtBut→eO
open PySem.Heap.SameBut renaming update→cI
open PySem.NameKind renaming free→dc,cell→dC
open PySem.Obj renaming mapSeq→bv,data_mapFields→cN,isFreed_of_fields→cY,mapFields→dA,cls_mapFields→gv
open PySem.SeqAt renaming EqAt→lG
open PySem.Str renaming ofString→a9,empty→l6
open PySem.Value renaming ref→aN,none→bp,type→bL,builtin→jt,int→jC,str→kY,bool→lH
open PySem.W renaming boot_heap→dQ,SharedT→eH,specialIn→gu,findIn→gD,takesIn→jj,stepOk→kD,mroIn→kE,looks_mroIn→kF,boot_drawn→lJ,through→lP,stepT→lQ,boot_toks→l4,clsIn→mf
open Rat renaming intCast_mul→aP,intCast_natCast→aY,normalize→bH,mul_le_mul_of_nonneg_left→cj,le_refl→dD,intCast_sub→dW,intCast_pos→dX,natCast_mul→fg,mul_lt_mul_left→fU,intCast_add→gj,intCast_lt_intCast→gQ,mul_pos→il,intCast_nonpos→jc,mul_inv_cancel→je,div_def→jq,natCast_eq_zero_iff→jM,intCast_eq_zero_iff→jN,natCast_pos→j6,intCast_neg→j7,add_def→mq,mul_def→mw,neg_num→my,neg_den→mz
open Sum renaming inl→jP,inr→jQ
open True renaming intro→c9
open PySem PySem.Spec
theorem Qrf(h:0=0:=by rfl):True:=trivial
theorem Qde(h:0=0:=by decide):True:=trivial
theorem Qin(h:0=0:=by intro _;rfl):True:=trivial
noncomputable abbrev Fg:=PySem.W.Frag
noncomputable abbrev Vp:=aa->aH->Prop
noncomputable abbrev Pn:=List (Addr×Obj)
noncomputable abbrev Wb:=@wpAny_bind
noncomputable abbrev Hq:=@mB.get?_push_of_some
noncomputable abbrev Hz:=@mB.lt_size
noncomputable abbrev Wp:=@wpAny_pure
noncomputable abbrev Gq:=@av
namespace DQ
open PyProof.Rows
noncomputable def ZaU(A:cZ)(h:Heap):Prop:=A.handled=none\/∃ea oe vs,A.handled=some (.ref ea)/\h.get? ea=some oe/\oe.data=.fields vs/\vs[2]?=some .none
theorem ZaU.keeps(q:ZaU A h)(k:∀b o,h.get? b=some o->h'.get? b=some o):ZaU A h':=by
 rcases q with q|⟨ea,oe,vs,e1,e2,e3,e4⟩
 .exact .inl q
 .exact .inr ⟨ea,oe,vs,e1,k _ _ e2,e3,e4⟩
theorem Zdu:entryFor table "proto.unchain"=some cW.«proto.unchain» :=entryFor_of_fast (by kernel_rfl)
theorem ZeT{Q:α->aH->Prop}(q:ZaU A s.heap)(he:s.heap.get? e=some oe)(hd:oe.data=.fields vs)(hz:2<vs.size)(h:∀h',(∀b o,b≠e->s.heap.get? b=some o->h'.get? b=some o)->(∃o,h'.get? e=some o/\o.cls=oe.cls)->E (.ref e) {s with heap:=h'}):wpAny (aE prog w) A (raiseNew (.ref e):Sem α) Q E s:=by
 have same:E (.ref e) s:=h s.heap (λ_ _ _ x=>x) ⟨oe,he,rfl⟩;unfold raiseNew;refine Wb (wpAny_handled ?_);rcases q with q|⟨ea,oa,ws,q1,q2,q3,q4⟩
 .rw[q];exact Wb (Wp (kq same))
 .rw[q1];dsimp only;by_cases c:(aN ea != aN e)=true
  .rw[if_pos c];refine Wb (wpAny_holding (wpAny_runValue (jZ Zdu ?_)));unfold cW.«proto.unchain»;refine Wb (aZ q2 q3 q4 ?_);refine Wb (Wp ?_);have sf:wpAny (aE prog w) A (setField (.ref e) 2 (.ref ea)) (λ_ s'=>wpAny (aE prog w) A (throw (aN e):Sem α) Q E s') E s:=by
    refine cS he hd hz (kq (h _ (λb o hb x=>?_) ⟨_,bz _ he (cY (cN hd _)),gv _ _⟩));rw[aG _ _ (bh hb)];exact x
   exact Wp (Wb sf)
  .rw[if_neg c];exact kq same
theorem Zbm{Q:α->aH->Prop}(q:ZaU A s.heap)(h:∀h' e,(∀b o,s.heap.get? b=some o->h'.get? b=some o)->(∃o,h'.get? e=some o/\o.cls=.type "StopIteration")->E (.ref e) {s with heap:=h'}):wpAny (aE prog w) A (newExc (.type "StopIteration") [] >>= λx=>(raiseNew x:Sem α)) Q E s:=by
 refine Wb ?_;simp only[newExc,newTuple];refine Wb (bK ?_ (by size_fits))
 refine Wb (m:=iM _ _) (kr (a:=bp) (by first|rfl|(simp only[iM];rfl)) ?_)
 refine bK ?_ (by size_fits)
 refine ZeT (q.keeps λb o x=>Hq _ (Hq _ x)) (aF _ rfl) rfl (by rw[Array.size_append];exact aj (by decide:2<6) (Nat.le_add_right _ _)) λh' k he=>?_
 exact h h' _ (λb o x=>k b o (az (aj (Hz x) (by rw[cC];exact ji _))) (Hq _ (Hq _ x))) he
theorem ZlY(he:∃o,s.heap.get? e=some o/\o.cls=.type "StopIteration")(h:Q true s):wpAny (aE prog w) A (lF (.ref e) (.type "StopIteration")) Q E s:=
 let ⟨o,e1,e2⟩:=he
 c7 (T:="StopIteration") (b:=true) ⟨o,e1,e2⟩ isSubtype_stop h
theorem ZaU.in1(q:ZaU A h):ZaU A.in1 h:=q
noncomputable def ZfC(it:Addr)(s:aH)(e:aa)(s':aH):Prop:=∃a,e=.ref a/\(∃o,s'.heap.get? a=some o/\o.cls=.type "StopIteration")/\∃h',eO it s.heap h'/\s'={s with heap:=h'}
theorem ZfD{id:String}(hT:s.TypeIs (.ref it) T)(sl:Slot T (a9 "__next__") id)(hb:entryFor table id=some b)(ha:argsOk id ⟨[.ref it],[]⟩)(h:wpAny (aE prog w) A.in1 (b ⟨[.ref it],[]⟩) (λ_ _=>False) (ZfC it s) s)(hQ:∀h',eO it s.heap h'->Q none {s with heap:=h'}):wpAny (aE prog w) A (fj (.ref it)) Q E s:=by
 unfold fj;refine Wb (d8 (cA (name:=a9 "__next__") hT sl (b7 sl hT hb (wpAny_mono h (λ_ _ z=>z.elim) λe s' z=>?_) ha)));obtain⟨a,rfl,ho,h',eb,rfl⟩:=z;exact Wb (ZlY ho (Wp (hQ h' eb)))
theorem Zd0{step:Int}(q:ZaU A s.heap)(hit:gp s.heap it x left step)(hl:left<=0)(hQ:∀h',eO it s.heap h'->Q none {s with heap:=h'}):wpAny (aE prog w) A (fj (.ref it)) Q E s:=by
 refine ZfD ⟨_,hit,rfl⟩ F.slot_range_iterator_next F.entry_range_iterator_next (F.args_range_iterator_next_1 _) ?_ hQ;refine Wb (m:=iN (.ref it) 0) (aZ hit rfl (x:=cT x) rfl ?_);refine Wb (m:=iN (.ref it) 1) (aZ hit rfl (x:=cT left) rfl ?_);refine Wb (m:=iN (.ref it) 2) (aZ hit rfl (x:=cT step) rfl ?_);dsimp only[cT];rw[if_pos hl];refine Wb (wpAny_rule (Wb ?_));exact Zbm q.in1 λh' e k ho=>⟨e,rfl,ho,h',λb o _ z=>k b o z,rfl⟩
theorem Zoo{i:Nat}(q:ZaU A s.heap)(ho:s.heap.get? it=some o)(hd:o.data=.fields #[.ref l,.int i 0])(hol:s.heap.get? l=some ol)(hdl:ol.data=.seq items n)(hx:items[i]?=none):wpAny (aE prog w) A.in1 (cW.«list_iterator.__next__» ⟨[.ref it],[]⟩) (λ_ _=>False) (ZfC it s) s:=by
 refine Wb (m:=iN (.ref it) 0) (aZ ho hd (x:=.ref l) rfl ?_);dsimp only;rw[if_neg (show ¬((aN l==bp)=true)from bV)];refine Wb (m:=iN (.ref it) 1) (aZ ho hd (x:=.int i 0) rfl ?_);refine Wb (m:=jB (.ref l)) (wpAny_seqItems hol hdl ?_);simp only[be,hx];refine Wb (wpAny_rule (Wb (cS ho hd (by simp) ?_)))
 have q2:ZaU A.in1 (s.heap.update it (dA (·.setIfInBounds 0 bp))):=by
  rcases q with q|⟨ea,oe,vs,e1,e2,e3,e4⟩
  .exact .inl q
  .refine .inr ⟨ea,oe,vs,e1,?_,e3,e4⟩;rw[aG _ _ (λz=>?_)]
   .exact e2
   .rw[<-z,ho]at e2;cases e2;rw[hd]at e3;cases e3;simp at e4
 refine Zbm q2 λh' e k ho=>⟨e,rfl,ho,h',λb o hb z=>k b o ?_,rfl⟩;rw[aG _ _ (bh hb)];exact z
theorem Zop{i:Nat}(q:ZaU A s.heap)(ho:s.heap.get? it=some o)(hd:o.data=.fields #[.ref l,.int i 0])(hol:s.heap.get? l=some ol)(hdl:ol.data=.seq items n)(hx:items[i]?=none):wpAny (aE prog w) A.in1 (cW.«tuple_iterator.__next__» ⟨[.ref it],[]⟩) (λ_ _=>False) (ZfC it s) s:=by
 refine Wb (m:=iN (.ref it) 0) (aZ ho hd (x:=.ref l) rfl ?_);dsimp only;rw[if_neg (show ¬((aN l==bp)=true)from bV)];refine Wb (m:=iN (.ref it) 1) (aZ ho hd (x:=.int i 0) rfl ?_);refine Wb (m:=jB (.ref l)) (wpAny_seqItems hol hdl ?_);simp only[be,hx];refine Wb (wpAny_rule (Wb (cS ho hd (by simp) ?_)))
 have q2:ZaU A.in1 (s.heap.update it (dA (·.setIfInBounds 0 bp))):=by
  rcases q with q|⟨ea,oe,vs,e1,e2,e3,e4⟩
  .exact .inl q
  .refine .inr ⟨ea,oe,vs,e1,?_,e3,e4⟩;rw[aG _ _ (λz=>?_)]
   .exact e2
   .rw[<-z,ho]at e2;cases e2;rw[hd]at e3;cases e3;simp at e4
 refine Zbm q2 λh' e k ho=>⟨e,rfl,ho,h',λb o hb z=>k b o ?_,rfl⟩;rw[aG _ _ (bh hb)];exact z
theorem ZjR{items}(q:ZaU A s.heap)(hit:s.heap.IsListIter it l i)(hl:s.heap.IsList l items)(hx:items[i]?=none)(hQ:∀h',eO it s.heap h'->Q none {s with heap:=h'}):wpAny (aE prog w) A (fj (.ref it)) Q E s:=by
 obtain⟨o,ho,hc,hd⟩:=id hit;obtain⟨ol,hol,_,nl,hdl⟩:=hl;exact ZfD hit.typeIs slot_listiter_next entry_listiter_next (args_listiter_next _) (Zoo q ho hd hol hdl hx) hQ
theorem Zg6{items}(q:ZaU A s.heap)(hit:s.heap.IsTupleIter it l i)(hl:s.heap.IsTuple l items)(hx:items[i]?=none)(hQ:∀h',eO it s.heap h'->Q none {s with heap:=h'}):wpAny (aE prog w) A (fj (.ref it)) Q E s:=by
 obtain⟨o,ho,hc,hd⟩:=id hit;obtain⟨ol,hol,_,nl,hdl⟩:=hl;exact ZfD hit.typeIs F.slot_tuple_iterator_next F.entry_tuple_iterator_next (F.args_tuple_iterator_next_1 _) (Zop q ho hd hol hdl hx) hQ
end DQ
namespace PySem
namespace NK
variable {prog:cB}{w:cO}{K:Type}[DecidableEq K](knd:KeyKind prog w K)
inductive ItemsT(h:Heap):List (List K)->List aa->Prop where
 |nil:ItemsT h [] []
 |cons {k:List K} {a:Addr} {ks:List (List K)} {vs:List aa}:IsTupleKey knd h k a->ItemsT h ks vs->ItemsT h (k::ks) (.ref a::vs)
noncomputable def Zao(h:Heap)(ks:List (List K))(a:Addr):Prop:=∃o items n,h.get? a=some o/\o.cls=.type "tuple"/\o.data=.seq items n/\ItemsT knd h ks items.toList
variable {knd}
theorem ItemsT.inj{h:Heap}{x y:List (List K)}{vs:List aa}(hx:ItemsT knd h x vs):ItemsT knd h y vs->x=y:=by
 intro hy
 induction hx generalizing y with
 |nil=>cases hy;rfl
 |cons k1 _ ih=>
  cases hy with
  |cons k2 t=>rw[k1.inj k2,ih t]
theorem Zao.typeIs{s:aH}{ks:List (List K)}{a:Addr}(x:Zao knd s.heap ks a):s.TypeIs (.ref a) "tuple":=let ⟨o,_,_,ho,hc,_⟩:=x;⟨o,ho,hc⟩
theorem Zao.inj{h:Heap}{a:Addr}{x y:List (List K)}(hx:Zao knd h x a)(hy:Zao knd h y a):x=y:=by
 obtain⟨o,i1,n1,e1,_,d1,q1⟩:=hx;obtain⟨o2,i2,n2,e2,_,d2,q2⟩:=hy;rw[e1]at e2;cases e2;rw[d1]at d2;cases d2;exact q1.inj q2
theorem ItemsT.keeps{h h':Heap}{ks:List (List K)}{vs:List aa}{d:Addr}{o:Obj}{es ep}(x:ItemsT knd h ks vs)(ho:h.get? d=some o)(hd:o.data=.dict es ep)(hs:dw d h h'):ItemsT knd h' ks vs:=by
 induction x with
 |nil=>exact .nil
 |cons k _ ih=>exact .cons (k.keeps ho hd hs) ih
theorem Zao.keeps{h h':Heap}{ks:List (List K)}{a d:Addr}{o:Obj}{es ep}(x:Zao knd h ks a)(ho:h.get? d=some o)(hd:o.data=.dict es ep)(hs:dw d h h'):Zao knd h' ks a:=by
 obtain⟨o1,items,n,e1,c1,d1,q⟩:=x;have ne:a≠d:=by
  intro z;subst z;rw[e1]at ho;cases ho;rw[d1]at hd;cases hd
 exact⟨o1,items,n,by rw[hs.2 a ne];exact e1,c1,d1,q.keeps ho hd hs⟩
noncomputable def ZlZ(knd:KeyKind prog w K)(ks:List (List K)):Int:=reduceHash (cG (ks.map (gx knd)))
noncomputable def Zdd(ks:List (List K)):Nat:=(ks.map λk=>k.length+1).sum
variable {A:cZ}{E:Vp}{s:aH}
theorem Zg7{ks:List (List K)}{a:Addr}{Q:Int->aH->Prop}(hu:A.units+1<iO)(hk:Zao knd s.heap ks a)(h:Q (ZlZ knd ks) {s with toks:=s.toks+(Zdd ks+1)}):wpAny (aE prog w) A (pyHash (.ref a)) Q E s:=by
 have hT:=hk.typeIs;obtain⟨o,items,n,ho,_,hd,hi⟩:=hk;unfold pyHash
 first|unfold pyHashByItsType|skip
 first|refine Wb (wpAny_cRoomFor_or (.inr ⋯) ?_)|skip
 refine Wb (f6 hT F.slot_tuple_hash.lookup ?_);show wpAny _ _ (if(some (jt "tuple.__hash__")==some bp)=true then _ else _) Q E s
 rw[if_neg (by rw[beq_builtin_none];exact bV)]
 refine Wb (f6 hT F.slot_tuple_hash.lookup ?_);show wpAny _ _ (callSpecialIfBoundUnlessNone? (.ref a) "__hash__" _ >>= _) Q E s;refine Wb (wpAny_callSpecialIfBoundUnlessNone?_slot hT F.slot_tuple_hash (b7 F.slot_tuple_hash hT F.entry_tuple_hash ?_ (F.args_tuple_hash_1 _)));show wpAny _ _ (iP (.ref a) >>= _) _ _ s;refine Wb (iQ ho hd ?_);refine Wb ?_;rw[<-eQ];refine gZ _
  (λrest (b:Array Int) s'=>∃done left,ks=done++left/\ItemsT knd s.heap left rest/\b.toList=done.map (gx knd)/\s'={s with toks:=s.toks+Zdd done})
  _ ?_ ?_ _ _ ⟨[],ks,rfl,hi,rfl,rfl⟩
 .rintro x rest b s' ⟨done,left,rfl,hl,hb,rfl⟩;cases hl with
  |@cons k a' ks' _ h1 hl'=>
   refine Wb (wpAny_pyHash_tuple (knd:=knd) (ks:=k) (s:={s with toks:=s.toks+Zdd done}) (by exact hu) h1 ?_)
   first
    |exact Wp ⟨done++[k],ks',by simp,hl',by simp[hb],by simp[Zdd,ju]⟩
    |exact Wb (Wp (Wp ⟨done++[k],ks',by simp,hl',by simp[hb],by simp[Zdd,ju]⟩))
 .rintro b s' ⟨done,left,rfl,hl,hb,rfl⟩;cases hl;rw[cD]at h;show wpAny _ _ (retInt (cG b.toList)) _ _ _;rw[hb];refine wpAny_ret_mkInt ?_;show wpAny _ _ (if(decide (-(2:Int)^63<=cG (done.map (gx knd)))&&decide (cG (done.map (gx knd))<2^63))=true then _ else _) Q E _
  unfold ZlZ reduceHash at h;by_cases hr:(decide (-(2:Int)^63<=cG (done.map (gx knd)))&&decide (cG (done.map (gx knd))<2^63))=true
  .rw[if_pos hr];rw[if_pos hr]at h;exact Wp (by simpa [ju]using h)
  .rw[if_neg hr];rw[if_neg hr]at h;exact Wb (wpAny_rule (Wp (by simpa [ju]using h)))
theorem Zl0{x y:List (List K)}{a b:Addr}{P:Fin->aH->Prop}(hu:A.units<iO)(hx:Zao knd s.heap x a)(hy:Zao knd s.heap y b)(h:P (.done (.ret (.bool (decide (x=y))))) s):wpAny (aE prog w) A (cW.«tuple.__eq__» ⟨[.ref a,.ref b],[]⟩) P E s:=by
 have hTb:=hy.typeIs;obtain⟨oa,xs,na,hoa,_,hda,hia⟩:=hx;obtain⟨ob,ys,nb,hob,_,hdb,hib⟩:=hy;show wpAny _ _ (lF (.ref b) (.type "tuple") >>= _) _ _ s;refine Wb (c7 hTb gU ?_);simp only[d9,aS,if_false];refine Wb (iQ hoa hda ?_);refine Wb (iQ hob hdb ?_);refine Wb ?_;refine gZ _
  (λrest r s'=>r.1=none/\s'=s/\∃x' y' xs' ys',rest=List.zip xs' ys'/\ItemsT knd s.heap x' xs'/\ItemsT knd s.heap y' ys'/\decide (x'=y')=decide (x=y)/\(xs'.length==ys'.length)=(xs.size==ys.size))
  _ ?_ ?_ _ _ ⟨rfl,rfl,x,y,xs.toList,ys.toList,rfl,hia,hib,rfl,by simp⟩
 .rintro⟨u,v⟩ rest r s' ⟨hr,rfl,x',y',xs',ys',hz,hx',hy',hdec,hlen⟩;cases hx' with
  |nil=>simp at hz
  |@cons k1 u' x'' xs'' h1 hx''=>
   cases hy' with
   |nil=>simp at hz
   |@cons k2 v' y'' ys'' h2 hy''=>
    simp only[iR,f7,lD]at hz;obtain⟨⟨rfl,rfl⟩,rfl⟩:=hz;refine Wb (wpAny_eqBool_tuple (knd:=knd) (x:=k1) (y:=k2) hu h1 h2 ?_);by_cases hk:k1=k2
    .subst hk;rw[decide_eq_true rfl];simp only[d9,aS,if_false];refine Wp ⟨rfl,rfl,x'',y'',xs'',ys'',rfl,hx'',hy'',?_,by simpa using hlen⟩
     rw[<-hdec];by_cases hxy:x''=y''
     .simp[hxy]
     .simp[hxy]
    .rw[decide_eq_false hk];simp only[Bool.not_false,if_true];have hf:decide (x=y)=false:=by rw[<-hdec];simp[hk]
     rw[hf]at h;exact Wb (Wp (Wp (Wp h)))
 .rintro⟨r1,r2⟩ s' ⟨hr,rfl,x',y',xs',ys',hz,hx',hy',hdec,hlen⟩;simp only at hr;subst hr;refine Wp ?_;have hfin:(xs.size==ys.size)=decide (x=y):=by
   rw[<-hdec,<-hlen];cases hx' with
   |nil=>
    cases hy' with
    |nil=>simp
    |cons _ _=>simp
   |cons _ _=>
    cases hy' with
    |nil=>simp
    |cons _ _=>simp at hz
  show P (.done (.ret (.bool (xs.size==ys.size)))) s';rw[hfin];exact h
theorem Zl1{x y:List (List K)}{a b:Addr}{Q:Bool->aH->Prop}(hu:A.units+1<iO)(hx:Zao knd s.heap x a)(hy:Zao knd s.heap y b)(h:Q (decide (x=y)) s):wpAny (aE prog w) A (eqBool (.ref a) (.ref b)) Q E s:=by
 unfold eqBool
 try with_reducible refine wpAny_holding ?_
 show wpAny _ _ (if(aN a==aN b)=true then _ else _) Q E s
 by_cases hab:(aN a==aN b)=true
 .rw[if_pos hab];have e:a=b:=by have:=eq_of_beq hab;injection this
  subst e;obtain rfl:=hx.inj hy;exact Wb (wpAny_rule (Wp (by simpa using h)))
 .rw[if_neg hab];exact Wb (wpAny_richCompare_same_room (op:=.Eq) hx.typeIs hy.typeIs F.slot_tuple_eq
   (b7 F.slot_tuple_eq hx.typeIs F.entry_tuple_eq (Zl0 (by exact hu) hx hy ⟨_,rfl,(λe=>nomatch e),dY h⟩) (F.args_tuple_eq_2 _ _)) ⋯)
theorem Zg8{ks:List K}{a:Addr}{Q:Bool->aH->Prop}(m:Nat)(hk:IsTupleKey knd s.heap ks a)(h:Q true s):wpAny (aE prog w) A (lZ (m+1) (.ref a)) Q E s:=by
 have hT:=hk.typeIs;obtain⟨o,items,n,ho,_,hd,hi⟩:=hk;unfold lZ;refine Wb (f6 hT F.slot_tuple_eq.lookup ?_);show wpAny _ _ (lF (.ref a) (.type "tuple") >>= _) _ _ s;refine Wb (c7 hT gU ?_);simp only[d9,aS,if_false];refine Wb (wpAny_seqItems ho hd ?_);refine Wb ?_;show wpAny _ _ (forIn items _ _) _ _ s;rw[<-eQ];refine gZ _ (λrest r s'=>r.1=none/\s'=s/\∀v∈rest,carriedByValue v=true) _ ?_ ?_ _ _ ⟨rfl,rfl,hi.byValue⟩
 .rintro v rest r s' ⟨hr,rfl,hall⟩;rw[eqIsQuiet_byValue _ (hall v bW)];refine Wb (Wp ?_);simp only[d9,aS,if_false];exact Wp ⟨rfl,rfl,λu hu'=>hall u (aJ _ hu')⟩
 .rintro⟨r1,r2⟩ s' ⟨hr,rfl,_⟩;simp only at hr;subst hr;exact Wp h
theorem ZgE{ks:List (List K)}{a:Addr}{Q:Bool->aH->Prop}(hk:Zao knd s.heap ks a)(h:Q true s):wpAny (aE prog w) A (lZ 8 (.ref a)) Q E s:=by
 have hT:=hk.typeIs;obtain⟨o,items,n,ho,_,hd,hi⟩:=hk;unfold lZ;refine Wb (f6 hT F.slot_tuple_eq.lookup ?_);show wpAny _ _ (lF (.ref a) (.type "tuple") >>= _) _ _ s;refine Wb (c7 hT gU ?_);simp only[d9,aS,if_false];refine Wb (wpAny_seqItems ho hd ?_);refine Wb ?_;show wpAny _ _ (forIn items _ _) _ _ s;rw[<-eQ];refine gZ _ (λrest r s'=>r.1=none/\s'=s/\∃ks',ItemsT knd s.heap ks' rest) _ ?_ ?_ _ _ ⟨rfl,rfl,ks,hi⟩
 .rintro v rest r s' ⟨hr,rfl,ks',hall⟩;cases hall with
  |cons k1 t=>
   refine Wb (Zg8 6 k1 ?_);simp only[d9,aS,if_false];exact Wp ⟨rfl,rfl,_,t⟩
 .rintro⟨r1,r2⟩ s' ⟨hr,rfl,_⟩;simp only at hr;subst hr;exact Wp h
end NK
def Zco{prog:cB}{w:cO}{K:Type}[DecidableEq K](knd:KeyKind prog w K):HeapKind prog w (List (List K)) where
 is:=NK.Zao knd
 hash:=NK.ZlZ knd
 draws:=λks=>NK.Zdd ks+1
 room:=λA=>A.units+1<iO
 inj:=λhx hy=>hx.inj hy
 keeps:=λx ho hd hs=>x.keeps ho hd hs
 pyHash:=λhu hk h=>NK.Zg7 hu hk h
 eqBool:=λhu hx hy h=>NK.Zl1 hu hx hy h
 quiet:=λhk h=>NK.ZgE hk h
end PySem
namespace L2
open PyProof.Rows
noncomputable abbrev Key:=Sum Int Str
noncomputable def ZgF:Key->aa->Bool
 |.inl k,v=>aa.isInt k v
 |.inr x,v=>aa.isStrOf x v
noncomputable def Zvm(w:cO):Key->Int
 |.inl k=>hashInt k
 |.inr x=>hashStr w x
theorem ZO:∀{k:Key}{v:aa},ZgF k v=true->(∃i t,k=jP i/\v=jC i t)\/(∃x t,k=jQ x/\v=kY x t)
 |.inl i,v,h=>by
  obtain⟨t,e⟩:=aa.isInt_shape (k:=i) (v:=v) h;exact .inl ⟨i,t,rfl,e⟩
 |.inr x,v,h=>by
  obtain⟨t,e⟩:=aa.isStrOf_shape (x:=x) (v:=v) h;exact .inr ⟨x,t,rfl,e⟩
theorem Zg9(i:Int)(t:Tok):ZgF (.inl i) (.int i t)=true:=by simp[ZgF,aa.isInt]
theorem Zha(x:Str)(t:Tok):ZgF (.inr x) (.str x t)=true:=by simp[ZgF,aa.isStrOf]
theorem Zoq(a b:Int):decide ((jP a:Key)=jP b)=(a==b):=by
 by_cases e:a=b
 .subst e;simp
 .have h:¬(jP a:Key)=jP b:=λq=>e (jP.inj q);rw[decide_eq_false h];exact(beq_eq_false_iff_ne.mpr e).symm
theorem Zor(a b:Str):decide ((jQ a:Key)=jQ b)=decide (a=b):=by
 by_cases e:a=b
 .subst e;simp
 .have h:¬(jQ a:Key)=jQ b:=λq=>e (jQ.inj q);rw[decide_eq_false h,decide_eq_false e]
theorem Zos(a:Int)(b:Str):decide ((jP a:Key)=jQ b)=false:=decide_eq_false (λq=>nomatch q)
theorem Zot(a:Str)(b:Int):decide ((jQ a:Key)=jP b)=false:=decide_eq_false (λq=>nomatch q)
def ZaJ(prog:cB)(w:cO):PySem.KeyKind prog w Key where
 is:=ZgF
 hash:=Zvm w
 inj:=λv a b ha hb=>by
  rcases ZO ha with⟨i,t,rfl,rfl⟩|⟨x,t,rfl,rfl⟩
  .rcases ZO hb with⟨j,u,rfl,e⟩|⟨y,u,rfl,e⟩
   .injection e with e1 _;rw[e1]
   .exact nomatch e
  .rcases ZO hb with⟨j,u,rfl,e⟩|⟨y,u,rfl,e⟩
   .exact nomatch e
   .injection e with e1 _;rw[e1]
 byValue:=λk v h=>by
  rcases ZO h with⟨i,t,rfl,rfl⟩|⟨x,t,rfl,rfl⟩<;>rfl
 pyHash:=λhv h=>by
  rcases ZO hv with⟨i,t,rfl,rfl⟩|⟨x,t,rfl,rfl⟩
  .exact wpAny_pyHash_int h
  .exact wpAny_pyHash_str h
 eqBool:=λhu hv h=>by
  rcases ZO hu with⟨i,t,rfl,rfl⟩|⟨x,t,rfl,rfl⟩
  .rcases ZO hv with⟨j,u,rfl,rfl⟩|⟨y,u,rfl,rfl⟩
   .rw[Zoq]at h;exact wpAny_eqBool_int h
   .rw[Zos]at h;exact lG.int_str i t y u _ _ _ _ h
  .rcases ZO hv with⟨j,u,rfl,rfl⟩|⟨y,u,rfl,rfl⟩
   .rw[Zot]at h;exact lG.str_int x t j u _ _ _ _ h
   .rw[Zor]at h;exact wpAny_eqBool_str h
 «strs» :=λk x t v h=>by
  rcases ZO h with⟨i,u,rfl,e⟩|⟨y,u,rfl,e⟩
  .exact nomatch e
  .injection e with e1 _;subst e1;cases v<;>rfl
theorem ZeU(prog:cB)(w:cO)(i:Int)(t:Tok):(ZaJ prog w).is (.inl i) (.int i t)=true:=Zg9 i t
theorem ZeV(prog:cB)(w:cO)(x:Str)(t:Tok):(ZaJ prog w).is (.inr x) (.str x t)=true:=Zha x t
inductive V where
 |non|bl (b:Bool)|int (i:Int)|str (x:Str)|byt (b:Array UInt8)|flt (b:UInt64)|ref (a:Addr)|ty (n:String)
 deriving DecidableEq
noncomputable def ZT:V->aa->Prop
 |.non,u=>u=bp
 |.bl b,u=>u=lH b
 |.int i,u=>∃t,u=jC i t
 |.str x,u=>∃t,u=kY x t
 |.byt b,u=>∃t,u=aa.bytes b t
 |.flt b,u=>∃t,u=aa.float b t
 |.ref a,u=>u=aN a
 |.ty n,u=>u=bL n
abbrev ZU:List V->List aa->Prop:=Paired ZT
theorem ZU.length(r:ZU xs us):xs.length=us.length:=Paired.length r
theorem ZU.get:∀{xs:List V}{us:List aa}{i:Nat}{x:V},ZU xs us->xs[i]?=some x->∃u,us[i]?=some u/\ZT x u
 |_,_,_,_,.nil,e=>by simp at e
 |_,_,0,_,.cons r _,e=>by simp at e;subst e;exact⟨_,rfl,r⟩
 |_,_,i+1,x,.cons _ t,e=>by
  obtain⟨u,h1,h2⟩:=ZU.get (i:=i) (x:=x) t (by simpa using e)
  exact⟨u,by simpa using h1,h2⟩
theorem ZU.set{x:V}{u:aa}(r:ZT x u):∀{xs:List V}{us:List aa}(i:Nat),ZU xs us->ZU (xs.set i x) (us.set i u)
 |_,_,_,.nil=>.nil
 |_,_,0,.cons _ t=>.cons r t
 |_,_,i+1,.cons q t=>.cons q (ZU.set r i t)
theorem ZU.append:∀{xs ys:List V}{us ws:List aa},ZU xs us->ZU ys ws->ZU (xs++ys) (us++ws)
 |_,_,_,_,.nil,s=>s
 |_,_,_,_,.cons r t,s=>.cons r (ZU.append t s)
theorem ZU.take:∀{xs:List V}{us:List aa}(n:Nat),ZU xs us->ZU (xs.take n) (us.take n)
 |_,_,0,_=>.nil
 |_,_,_+1,.nil=>.nil
 |_,_,n+1,.cons r t=>.cons r (ZU.take n t)
theorem ZU.drop:∀{xs:List V}{us:List aa}(n:Nat),ZU xs us->ZU (xs.drop n) (us.drop n)
 |_,_,0,r=>r
 |_,_,_+1,.nil=>.nil
 |_,_,n+1,.cons _ t=>ZU.drop n t
def ZrL:Option V->Option aa->Prop
 |some v,some u=>ZT v u
 |none,none=>True
 |_,_=>False
def KV{κ:Type}:List (κ×V)->List (κ×aa)->Prop:=Paired λ(p:κ×V) (q:κ×aa)=>p.1=q.1/\ZT p.2 q.2
noncomputable def kV:Key->V
 |.inl i=>.int i
 |.inr x=>.str x
inductive HO where
 |lst (xs:List V)
 |tup (xs:List V)
 |dU (kvs:List ((List (List Key))×V))
 |own (x:Addr)
 |frz (o:Obj) (u:HO)
 |tbl (ps:Array aa)
 |ext (φ:Heap->Prop)
noncomputable abbrev Hp:=Addr->Option HO
noncomputable def upd(H:Hp)(a:Addr)(o:HO):Hp:=λb=>if b=a then some o else H b
theorem Zx:upd H a o a=some o:=by unfold upd;rw[if_pos rfl]
theorem ZH(h:b≠a):upd H a o b=H b:=by unfold upd;rw[if_neg h]
theorem Zr1{H:Hp}(h:H a=some o)(h':H b=some u)(d:o≠u):a≠b:=by
 intro e;subst e;rw[h]at h';exact d (aO h')
theorem ZR{H:Hp}(h:H a=some o)(h':H b=none):a≠b:=by
 intro e;subst e;rw[h]at h';cases h'
def Zap(H:Hp)(ks:List (List Key))(b:Addr):Prop:=∃cs:List Addr,H b=some (.tup (cs.map V.ref))/\Paired (λ(k:List Key) (c:Addr)=>H c=some (.tup (k.map kV))) ks cs
section
variable (P:cB)(w:cO)
def ZaT(H:Hp)(h:Heap)(a:Addr):HO->Prop
 |.lst xs=>xs.length<=sizeLine/\∃(its:List aa) (n:Nat),ZU xs its/\h.get? a=some {cls:=.type "list",data:=.seq its.toArray n}
 |.tup xs=>xs.length<=sizeLine/\∃its:List aa,ZU xs its/\hV h a its.toArray
 |.dU kvs=>kvs.length<=sizeLine/\(a==iS)=false/\∃xs:List (List (List Key)×Addr×aa),
   Paired (λ(p:List (List Key)×V) (q:List (List Key)×Addr×aa)=>p.1=q.1/\Zap H p.1 q.2.1/\ZT p.2 q.2.2) kvs xs/\
   ∃o es ep,h.get? a=some o/\o.ExactDict/\o.data=.dict es ep/\es.toList=xs.map (entryOfKey (Zco (ZaJ P w)))/\(xs.map (·.1)).Nodup
 |.own _=>∃o,h.get? a=some o
 |.frz o u=>h.get? a=some o/\ZaT H h a u
 |.tbl ps=>h.get? a=some {cls:=.none,data:=.fields ps}/\fC ps.toList/\∀pos cv,dj pos ps.toList=some cv->∃c' o vs q t,cv=.ref c'/\H c'=some (.own a)/\h.get? c'=some o/\o.data=.fields vs/\vs[1]?=some (.str q t)
 |.ext φ=>φ h/\(∃o,h.get? a=some o)/\∀h1 h2:Heap,φ h1->(∀o,h1.get? a=some o->h2.get? a=some o)->φ h2
def HOk(H:Hp)(h:Heap):Prop:=∀a o,H a=some o->ZaT P w H h a o
end
section
variable {a:Addr}
theorem ZaT.lt(x:ZaT P w H h a o):a<h.objs.size:=by
 cases o with
 |lst xs=>obtain⟨_,_,_,_,e⟩:=x;exact Hz e
 |tup xs=>obtain⟨_,_,_,p⟩:=x;exact p.lt
 |dU kvs=>obtain⟨_,_,_,_,o,_,_,e,_⟩:=x;exact Hz e
 |own y=>obtain⟨_,e⟩:=x;exact Hz e
 |frz ob u=>obtain⟨e,_⟩:=x;exact Hz e
 |tbl ps=>exact Hz x.1
 |ext φ=>obtain⟨_,⟨_,e⟩,_⟩:=x;exact Hz e
theorem Paired.mapP{α β:Type}{F G:α->β->Prop}:∀{l₁:List α}{l₂:List β},Paired F l₁ l₂->(∀a b,F a b->G a b)->Paired G l₁ l₂
 |_,_,.nil,_=>.nil
 |_,_,.cons r t,f=>.cons (f _ _ r) (Paired.mapP t f)
theorem ZaT.stay(x:ZaT P w H h a o)(k:∀b u,(b=a\/H b=some (.own a))->h.get? b=some u->h'.get? b=some u)(ho:∀b,H b=some (.own a)->H' b=some (.own a))(ht:∀b xs,H b=some (.tup xs)->H' b=some (.tup xs)):ZaT P w H' h' a o:=by
 induction o with
 |lst xs=>obtain⟨z,its,n,r,e⟩:=x;exact⟨z,its,n,r,k _ _ (.inl rfl) e⟩
 |tup xs=>obtain⟨z,its,r,ob,e,c⟩:=x;exact⟨z,its,r,ob,k _ _ (.inl rfl) e,c⟩
 |dU kvs=>
  obtain⟨z,y,xs,r,ob,es,ep,e,c⟩:=x;exact⟨z,y,xs,Paired.mapP r λp q z=>⟨z.1,let ⟨cs,z1,z2⟩:=z.2.1;⟨cs,ht _ _ z1,Paired.mapP z2 λ_ _ t=>ht _ _ t⟩,z.2.2⟩,ob,es,ep,k _ _ (.inl rfl) e,c⟩
 |own y=>obtain⟨ob,e⟩:=x;exact⟨ob,k _ _ (.inl rfl) e⟩
 |frz ob u ih=>obtain⟨e,q⟩:=x;exact⟨k _ _ (.inl rfl) e,ih q⟩
 |tbl ps=>
  exact⟨k a _ (.inl rfl) x.1,x.2.1,λpos cv e=>let ⟨c',ob,vs,q,t,e1,e2,e3,e4⟩:=x.2.2 pos cv e;⟨c',ob,vs,q,t,e1,ho _ e2,k _ _ (.inr e2) e3,e4⟩⟩
 |ext φ=>obtain⟨p,⟨o,e⟩,st⟩:=x;exact⟨st _ _ p λo q=>k _ _ (.inl rfl) q,⟨o,k _ _ (.inl rfl) e⟩,st⟩
theorem HOk.lt(x:HOk P w H h)(e:H a=some o):a<h.objs.size:=(x a o e).lt
theorem HOk.fresh(x:HOk P w H h)(e:h.objs.size<=a):H a=none:=by
 cases q:H a with
 |none=>rfl
 |some u=>exact absurd (aj (x.lt q) e) (b9 _)
theorem HOk.kept(x:HOk P w H h)(k:∀b u,h.get? b=some u->h'.get? b=some u):HOk P w H h':=λa o e=>
 (x a o e).stay (λb u _ q=>k b u q) (λ_ q=>q) λ_ _ q=>q
theorem HOk.laid(x:HOk P w H h)(k:∀b u,h.get? b=some u->h'.get? b=some u)(hp:h.objs.size<=a)(new:ZaT P w (upd H a o) h' a o):HOk P w (upd H a o) h':=λb u e=>by
 have hn:=x.fresh hp;by_cases hb:b=a
 .subst hb;rw[Zx]at e;cases e;exact new
 .rw[ZH hb]at e;exact(x b u e).stay (λc v _ q=>k c v q) (λc q=>by rw[ZH (ZR q hn)];exact q) λc xs q=>by rw[ZH (ZR q hn)];exact q
end
noncomputable def Rd(H:Hp)(a:Addr)(u:HO):Prop:=H a=some u\/∃o,H a=some (.frz o u)
theorem Rd.ok(r:Rd H a u)(x:HOk P w H h):ZaT P w H h a u:=by
 rcases r with r|⟨o,r⟩
 .exact x a u r
 .obtain⟨_,q⟩:=x a _ r;exact q
noncomputable def Mut:Option HO->Prop
 |some (.lst _)=>True
 |some (.dU _)=>True
 |some (.ext _)=>True
 |_=>False
theorem HOk.write(ok:HOk P w H h)(mu:Mut (H x))(he:e=x\/H e=some (.own x))(k:∀b u,b≠e->h.get? b=some u->h'.get? b=some u)(heo:∃u,h'.get? e=some u)(new:ZaT P w (upd H x o') h' x o'):HOk P w (upd H x o') h':=λb u q=>by
 have nown:∀c y,H c=some (.own y)->c≠x:=λc y r z=>by subst z;rw[r]at mu;exact mu
 have ntup:∀c xs,H c=some (.tup xs)->c≠x:=λc xs r z=>by subst z;rw[r]at mu;exact mu
 by_cases hb:b=x
 .subst hb;rw[Zx]at q;cases q;exact new
 .rw[ZH hb]at q;by_cases hbe:b=e
  .have q':H b=some (.own x):=by
    rcases he with z|z
    .exact absurd (hbe.trans z) hb
    .rw[hbe];exact z
   rw[q]at q';cases q';obtain⟨v,hv⟩:=heo;exact⟨v,by rw[hbe];exact hv⟩
  .refine(ok b u q).stay (λc v hc r=>k c v ?_ r) (λc r=>by rw[ZH (nown c b r)];exact r) λc xs r=>by rw[ZH (ntup c xs r)];exact r
   rcases hc with rfl|hc
   .exact hbe
   .rintro rfl;rcases he with z|z
    .exact nown c b hc z
    .rw[hc]at z;cases z;exact hb rfl
structure Un(fs ex:List Addr) (H H':Hp) (h h':Heap):Prop where
 keep:∀b o,h.get? b=some o->H b=none->b∉fs->b∉ex->h'.get? b=some o
 slot:∀b o,h.get? b=some o->H b=none->b∈fs->b∉ex->∃sl,h'.get? b=some {o with slots:=sl}
 free:∀b o,h.get? b=some o->H b=none->b∉ex->H' b=none
 there:∀b o,h.get? b=some o->b∉ex->∃o',h'.get? b=some o'
 tups:∀b xs,H b=some (.tup xs)->H' b=some (.tup xs)
 frzs:∀b o u,H b=some (.frz o u)->H' b=some (.frz o u)
 tbls:∀b ps,H b=some (.tbl ps)->∃more,H' b=some (.tbl (ps++more))
theorem Un.any(u:Un fs ex H H1 h h1)(q:h.get? b=some ob)(n:H b=none)(hx:b∉ex):∃sl,h1.get? b=some {ob with slots:=sl}:=by
 by_cases hb:b∈fs
 .exact u.slot b ob q n hb hx
 .exact⟨ob.slots,u.keep b ob q n hb hx⟩
theorem Un.kept(k:∀b u,h.get? b=some u->h'.get? b=some u):Un fs ex H H h h':=
 ⟨λb ob q _ _ _=>k b ob q,λb ob q _ _ _=>⟨ob.slots,k b ob q⟩,λ_ _ _ n _=>n,λb ob q _=>⟨ob,k b ob q⟩,λ_ _ q=>q,λ_ _ _ q=>q,λ_ ps q=>⟨#[],by rw[q];simp⟩⟩
theorem Un.refl:Un fs ex H H h h:=Un.kept λ_ _ q=>q
theorem Un.laid(k:∀b u,h.get? b=some u->h'.get? b=some u)(hp:h.objs.size<=a)(hn:H a=none):Un fs ex H (upd H a o) h h' where
 keep:=λb u q _ _ _=>k b u q
 slot:=λb u q _ _ _=>⟨u.slots,k b u q⟩
 free:=λb u q n _=>by rw[ZH (az (aj (Hz q) hp))];exact n
 there:=λb u q _=>⟨u,k b u q⟩
 tups:=λb xs q=>by rw[ZH (ZR q hn)];exact q
 frzs:=λb u xs q=>by rw[ZH (ZR q hn)];exact q
 tbls:=λb ps q=>⟨#[],by rw[ZH (ZR q hn),q];simp⟩
theorem Un.write(mu:Mut (H x))(he:e=x\/H e=some (.own x))(k:∀b u,b≠e->h.get? b=some u->h'.get? b=some u)(heo:∃u,h'.get? e=some u):Un fs ex H (upd H x o) h h':=by
 have hx:∀b,H b=none->b≠x:=λb n z=>by subst z;rw[n]at mu;exact mu
 have hb:∀b,H b=none->b≠e:=λb n z=>by
  subst z;rcases he with r|r
  .exact hx b n r
  .rw[n]at r;cases r
 have hm:∀b u,H b=some u->¬Mut (some u)->b≠x:=λb u q nm z=>by subst z;rw[q]at mu;exact nm mu
 refine⟨λb u q n _ _=>k b u (hb b n) q,λb u q n _ _=>⟨u.slots,k b u (hb b n) q⟩,λb u q n _=>by rw[ZH (hx b n)];exact n,λb u q _=>?_,
  λb xs q=>by rw[ZH (hm b _ q λz=>z)];exact q,λb u xs q=>by rw[ZH (hm b _ q λz=>z)];exact q,λb ps q=>⟨#[],by rw[ZH (hm b _ q λz=>z),q];simp⟩⟩
 by_cases hbe:b=e
 .subst hbe;exact heo
 .exact⟨u,k b u hbe q⟩
noncomputable def trk(h:Heap)(H:Hp):List Addr:=(aC h.objs.size).filter λa=>(H a).isSome
def ZjN(h:Heap)(H:Hp):Heap:=PySem.W.hideAll h (trk h H)
theorem Zhb(h:Heap)(H:Hp):(ZjN h H).objs.size=h.objs.size:=PySem.W.hideAll_size _ _
theorem ZfE(e:h.get? b=some o)(n:H b=none):(ZjN h H).get? b=some o:=
 PySem.W.hideAll_get _ e λhm=>by
  have q:(H b).isSome=true:=(f8.mp hm).2;rw[n]at q;simp at q
theorem Zhc(e:(ZjN h H).get? b=some o):h.get? b=some o/\H b=none:=by
 have e':h.get? b=some o:=PySem.W.of_hideAll (trk h H) e;refine⟨e',?_⟩;cases q:H b with
 |none=>rfl
 |some x=>
  have hm:b∈trk h H:=f8.mpr ⟨cu.mpr (Hz e'),by simp[q]⟩
  have z:(ZjN h H).get? b=none:=PySem.W.hideAll_none (trk h H) hm;rw[z]at e;cases e
structure Mod(K:Fg) (mg:Str->Option aa) (base:Heap):Prop where
 kin:K.In base
 glob:base.Ns aM mg
 blt:∃mb,base.Ns gk mb/\∀x:Str,x≠"__name__"->mb x=bN x
 nolimit:base.NoLimit
structure Cx where
 prog:cB
 w:cO
 K:Fg
 mg:Str->Option aa
 base:Heap
 A:cZ
 N:List Str
 s₀:aH
 H₀:Hp
 env:Env
 outer:List Env
 stack:List Env
 ex:List Addr
 fn:Str->Bool
 calm:Bool
 pn:Pn
 xe:Vp
 fxs:Option (List Bool×List (Option V))
noncomputable def frs(l:List Env):List Addr:=l.filterMap (·.frame)
abbrev Cx.fs(X:Cx):List Addr:=frs X.outer
noncomputable def Vis(sc:gW)(x:Str):Prop:=sc.names.lookup x=some .local\/sc.names.lookup x=some .cell\/sc.names.lookup x=some .free
noncomputable def Loc(sc:gW)(x:Str):Prop:=sc.names.lookup x=some .local\/sc.names.lookup x=some .cell
noncomputable def Zvn(env:Env)(h:Heap)(m:Str->Option aa)(x:Str)(u:aa):Prop:=
 (env.kindOf x=some .local/\m x=some u)\/((env.kindOf x=some .cell\/env.kindOf x=some .free)/\∃c,env.cells.lookup x=some c/\h.IsCell c (some u))
noncomputable def TbP(K:Fg)(P:Addr):Prop:=∃(c:Addr) (o:Obj) (vs:Array aa),K.lookup c=some o/\o.cls=.type "code"/\o.data=.fields vs/\vs[11]?=some (.ref P)
def Tbs(K:Fg)(H:Hp):Prop:=∀P,TbP K P->∃ps,H P=some (.tbl ps)
theorem Tbs.un{K:Fg}(t:Tbs K H)(u:Un fs ex H H' h h'):Tbs K H':=λP z=>let ⟨ps,e⟩:=t P z;let ⟨m,e'⟩:=u.tbls P ps e;⟨_,e'⟩
structure Cx.Ok(X:Cx):Prop where
 mod:Mod X.K X.mg X.base
 kind:X.env.scope.kind=.function
 glob:X.env.globals=aM
 blt:X.env.builtins=gk
 above:X.s₀.heap.objs.size<=X.env.locals
 inj:∀x y c,X.env.cells.lookup x=some c->X.env.cells.lookup y=some c->x=y
 has:∀x,(X.env.kindOf x=some .cell\/X.env.kindOf x=some .free)->∃c,X.env.cells.lookup x=some c
 cab:∀x c,X.fn x=true->X.env.cells.lookup x=some c->X.s₀.heap.objs.size<=c
 hd:X.calm=true->X.A.handled=none
 frames:X.A.frames=some X.stack
 stk:X.stack=X.outer\/(X.stack=X.env::X.outer/\X.env.frame=some X.env.locals)
 exf:∀b∈X.ex,b≠X.env.locals/\∀x c,X.env.cells.lookup x=some c->c≠b
 bs:∀b o,X.base.get? b=some o->X.s₀.heap.get? b=some o/\X.H₀ b=none
 bsz:X.base.objs.size<=X.s₀.heap.objs.size
 noex:∀b o,X.base.get? b=some o->b∉X.ex
 exfs:∀b∈X.ex,b∉X.fs
 funs:X.s₀.heap.FunFrames X.base X.outer
 frf:∀b∈X.fs,X.H₀ b=none
 tb:Tbs X.K X.H₀
noncomputable def Qd(A:cZ)(H:Hp):Prop:=A.handled=none\/∃ea oe u vs,A.handled=some (.ref ea)/\H ea=some (.frz oe u)/\oe.data=.fields vs/\vs[2]?=some .none
theorem Qd.mono(q:Qd A H)(k:∀b o u,H b=some (.frz o u)->H' b=some (.frz o u)):Qd A H':=by
 rcases q with q|⟨ea,oe,u,vs,e1,e2,e3,e4⟩
 .exact .inl q
 .exact .inr ⟨ea,oe,u,vs,e1,k _ _ _ e2,e3,e4⟩
noncomputable def Cx.may(X:Cx)(i:Nat):Bool:=match X.fxs with|none=>true|some (W,_)=>W[i]? == some true
noncomputable def Cx.Fx(X:Cx)(σ:List (Option V)):Prop:=∀W σ0,X.fxs=some (W,σ0)->∀j:Nat,W[j]?=some false->σ[j]?=σ0[j]?
theorem Cx.Fx.free {X:Cx}(h:X.fxs=none):X.Fx σ:=λW σ0 e=>by rw[h]at e;cases e
theorem Cx.Fx.set {X:Cx}(h:X.Fx σ)(m:X.may i=true):X.Fx (σ.set i v):=λW σ0 e j hj=>by
 have ne:i≠j:=λz=>by
  unfold Cx.may at m;rw[e,z]at m;have m':(W[j]? == some true)=true:=m;rw[hj]at m';cases m'
 rw[ah ne];exact h W σ0 e j hj
structure Inv(X:Cx) (pins:Pn) (σ:List (Option V)) (H:Hp) (s:aH):Prop where
 ok:X.Ok
 os:s.os=X.s₀.os
 bare:hO s.gens
 base:Un X.fs X.ex X.H₀ H X.s₀.heap s.heap
 loc:∃m,s.heap.Ns X.env.locals m/\∀(i:Nat)(x:Str)(v:V),X.N[i]?=some x->σ[i]?=some (some v)->Vis X.env.scope x->∃u,ZT v u/\Zvn X.env s.heap m x u
 cell:∀x c,X.env.cells.lookup x=some c->∃v,s.heap.IsCell c v
 free:H X.env.locals=none
 freeC:∀x c,X.env.cells.lookup x=some c->H c=none
 pin:∀p∈X.pn++pins,s.heap.get? p.1=some p.2/\H p.1=none/\p.1≠X.env.locals/\p.1∉X.fs/\∀v,p.2.data≠ .cell v
 hok:HOk X.prog X.w H s.heap
 len:σ.length=X.N.length
 qd:Qd X.A H
 fx:X.Fx σ
section
variable {X:Cx}
theorem Cx.Ok.nofr (ok:X.Ok)(e:X.base.get? b=some o):b∉X.fs:=λhb=>by
 have:=(ok.funs.mem hb).1
 rw[e]at this;cases this
theorem Inv.bs(I:Inv X pins σ H s):∀b o,X.base.get? b=some o->s.heap.get? b=some o/\H b=none:=λb o e=>
 ⟨I.base.keep b o (I.ok.bs b o e).1 (I.ok.bs b o e).2 (I.ok.nofr e) (I.ok.noex b o e),I.base.free b o (I.ok.bs b o e).1 (I.ok.bs b o e).2 (I.ok.noex b o e)⟩
theorem Inv.qh(I:Inv X pins σ H s):DQ.ZaU X.A s.heap:=by
 rcases I.qd with q|⟨ea,oe,u,vs,e1,e2,e3,e4⟩
 .exact .inl q
 .exact .inr ⟨ea,oe,vs,e1,(I.hok _ _ e2).1,e3,e4⟩
theorem Inv.bk(I:Inv X pins σ H s):∀b o,X.base.get? b=some o->s.heap.get? b=some o:=λb o e=>(I.bs b o e).1
theorem Inv.mod(I:Inv X pins σ H s):Mod X.K X.mg X.base:=I.ok.mod
theorem Inv.kIn(I:Inv X pins σ H s):X.K.In s.heap:=I.ok.mod.kin.keeps I.bk
theorem Inv.nolimit(I:Inv X pins σ H s):s.heap.NoLimit:=I.ok.mod.nolimit.keeps I.bk
theorem Inv.fr(I:Inv X pins σ H s):∃m,Fr X.base X.env.locals s.heap m:=
 let ⟨m,hn,_⟩:=I.loc
 ⟨m,hn,I.bk,aU I.ok.bsz I.ok.above⟩
theorem Inv.lt(I:Inv X pins σ H s):X.env.locals<s.heap.objs.size:=let ⟨_,hn,_⟩:=I.loc;hn.lt
theorem Inv.sz(I:Inv X pins σ H s):X.s₀.heap.objs.size<=s.heap.objs.size:=aU I.ok.above (cM I.lt)
theorem Inv.nofs(I:Inv X pins σ H s){a:Addr}(h:s.heap.objs.size<=a):a∉X.fs:=λhb=>by
 obtain⟨_,o,ho,_⟩:=I.ok.funs.mem hb;exact absurd (aj (Hz ho) (aU I.sz h)) (b9 _)
theorem Inv.cne(I:Inv X pins σ H s):∀x c,X.env.cells.lookup x=some c->c≠X.env.locals:=λx c e z=>by
 obtain⟨v,o,ho,hd⟩:=I.cell x c e;obtain⟨m,⟨o',es,ep,ho',hd',_⟩,_⟩:=I.loc;rw[z,ho']at ho;cases ho;rw[hd']at hd;cases hd
theorem Inv.funs(I:Inv X pins σ H s):s.heap.FunFrames X.base X.outer:=by
 have all:∀(l:List Env),(∀b∈frs l,b∈X.fs)->X.s₀.heap.FunFrames X.base l->s.heap.FunFrames X.base l:=by
  intro l
  induction l with
  |nil=>intro _ _;trivial
  |cons env r ih=>
   intro hs hl;obtain⟨hk,⟨L,o,hf,hn,ho,hd⟩,hr⟩:=hl;have hL:L∈X.fs:=hs L (by unfold frs;rw[dq,hf];exact bW)
   obtain⟨sl,e⟩:=I.base.slot L o ho (I.ok.frf L hL) hL λz=>I.ok.exfs L z hL;exact⟨hk,⟨L,_,hf,hn,e,hd⟩,ih (λb hb=>hs b (by unfold frs;rw[dq,hf];exact aJ _ hb)) hr⟩
 exact all X.outer (λ_ hb=>hb) I.ok.funs
theorem Inv.stack(I:Inv X pins σ H s):s.heap.FunFrames X.base X.stack:=by
 rcases I.ok.stk with e|⟨e,hf⟩
 .rw[e];exact I.funs
 .rw[e];obtain⟨m,hn,_⟩:=I.loc;refine .cons (by rw[I.ok.kind];decide) hf hn ?_ I.funs
  exact mB.get?_none_of_le (aU I.ok.bsz I.ok.above)
theorem Inv.stkSub(I:Inv X pins σ H s):∀b∈frs X.stack,b∈X.env.locals::X.fs:=λb hb=>by
 rcases I.ok.stk with e|⟨e,hf⟩
 .rw[e]at hb;exact aJ _ hb
 .rw[e]at hb;unfold frs at hb;rw[dq,hf]at hb;exact hb
theorem Inv.stkFree(I:Inv X pins σ H s):∀b∈frs X.stack,H b=none:=λb hb=>by
 rcases ar.mp (I.stkSub b hb)with e|hb
 .rw[e];exact I.free
 .obtain⟨_,o,ho,_⟩:=I.ok.funs.mem hb;exact I.base.free b o ho (I.ok.frf b hb) λz=>I.ok.exfs b z hb
theorem Inv.step{ch:List Addr}(I:Inv X pins σ H s)(hch:∀b∈ch,(b∈X.ex\/X.s₀.heap.objs.size<=b)/\b≠X.env.locals/\(∀x c,X.env.cells.lookup x=some c->c≠b)/\∀p∈X.pn++pins,p.1≠b)(keep:∀b o,b≠X.env.locals->b∉X.fs->b∉ch->s.heap.get? b=some o->H b=none->h'.get? b=some o)(slot:∀b o,b≠X.env.locals->b∈X.fs->b∉ch->s.heap.get? b=some o->H b=none->∃sl,h'.get? b=some {o with slots:=sl})(free:∀b o,b∉ch->s.heap.get? b=some o->H b=none->H' b=none)(there:∀b o,b∉ch->s.heap.get? b=some o->∃o',h'.get? b=some o')(tups:∀b xs,H b=some (.tup xs)->H' b=some (.tup xs))(frzs:∀b o u,H b=some (.frz o u)->H' b=some (.frz o u))(tbls:∀b ps,H b=some (.tbl ps)->∃more,H' b=some (.tbl (ps++more)))(ns:∀m,s.heap.Ns X.env.locals m->h'.Ns X.env.locals m)(hok:HOk X.prog X.w H' h')(hg:hO g'):Inv X pins σ H' {s with heap:=h',gens:=g',drawn:=d',toks:=t'}:=by
 have neL:∀b o,X.s₀.heap.get? b=some o->b≠X.env.locals:=λb o e=>az (aj (Hz e) I.ok.above);have neC:∀b o,X.s₀.heap.get? b=some o->b∉X.ex->b∉ch:=λb o e hx hb=>by
  rcases(hch b hb).1 with z|z
  .exact hx z
  .exact absurd (aj (Hz e) z) (b9 _)
 have cellK:∀x c,X.env.cells.lookup x=some c->∀v,s.heap.IsCell c v->h'.IsCell c v:=λx c e v ⟨o,ho,hd⟩=>by
  have nch:c∉ch:=λz=>(hch c z).2.2.1 x c e rfl;by_cases hc:c∈X.fs
  .obtain⟨sl,q⟩:=slot c o (I.cne x c e) hc nch ho (I.freeC x c e);exact⟨_,q,hd⟩
  .exact⟨o,keep c o (I.cne x c e) hc nch ho (I.freeC x c e),hd⟩
 refine⟨I.ok,I.os,hg,⟨λb o e n hb hx=>?_,λb o e n hb hx=>?_,λb o e n hx=>?_,λb o e hx=>?_,λb xs e=>tups b xs (I.base.tups b xs e),λb o xs e=>frzs b o xs (I.base.frzs b o xs e),λb ps e=>?_⟩,?_,λx c e=>?_,?_,λx c e=>?_,λp hp=>?_,hok,I.len,I.qd.mono frzs,I.fx⟩
 .exact keep b o (neL b o e) hb (neC b o e hx) (I.base.keep b o e n hb hx) (I.base.free b o e n hx)
 .obtain⟨sl,e1⟩:=I.base.slot b o e n hb hx;obtain⟨sl',e2⟩:=slot b _ (neL b o e) hb (neC b o e hx) e1 (I.base.free b o e n hx);exact⟨sl',e2⟩
 .obtain⟨o',e1⟩:=I.base.there b o e hx;exact free b o' (neC b o e hx) e1 (I.base.free b o e n hx)
 .obtain⟨o',e1⟩:=I.base.there b o e hx;exact there b o' (neC b o e hx) e1
 .obtain⟨m1,e1⟩:=I.base.tbls b ps e;obtain⟨m2,e2⟩:=tbls b _ e1;exact⟨m1++m2,by rw[e2,Array.append_assoc]⟩
 .obtain⟨m,hn,hl⟩:=I.loc;refine⟨m,ns m hn,λi x v e1 e2 e3=>?_⟩;obtain⟨u,r,l⟩:=hl i x v e1 e2 e3;refine⟨u,r,?_⟩;rcases l with l|⟨k,c,e,z⟩
  .exact .inl l
  .exact .inr ⟨k,c,e,cellK x c e _ z⟩
 .obtain⟨v,z⟩:=I.cell x c e;exact⟨v,cellK x c e v z⟩
 .obtain⟨m,⟨o,_,_,ho,_⟩,_⟩:=I.loc;exact free _ o (λz=>(hch _ z).2.1 rfl) ho I.free
 .obtain⟨v,o,ho,hd⟩:=I.cell x c e;exact free c o (λz=>(hch c z).2.2.1 x c e rfl) ho (I.freeC x c e)
 .obtain⟨e,n,ne,nf,d⟩:=I.pin p hp;have nch:p.1∉ch:=λz=>(hch p.1 z).2.2.2 p hp rfl;exact⟨keep p.1 p.2 ne nf nch e n,free p.1 p.2 nch e n,ne,nf,d⟩
theorem Inv.un(I:Inv X pins σ H s)(u:Un X.fs [] H H' s.heap h')(hok:HOk X.prog X.w H' h'):Inv X pins σ H' {s with heap:=h',toks:=t'}:=by
 obtain⟨m,⟨o,es,ep,ho,r⟩,_⟩:=id I.loc;obtain⟨sl,hL⟩:=u.any ho I.free (by simp)
 exact I.step (g':=s.gens) (d':=s.drawn) (ch:=[]) (λ_ z=>nomatch z) (λb o _ hb _ e n=>u.keep b o e n hb (by simp)) (λb o _ hb _ e n=>u.slot b o e n hb (by simp)) (λb o _ e n=>u.free b o e n (by simp)) (λb o _ e=>u.there b o e (by simp)) u.tups u.frzs u.tbls (λm' hm=>by
  obtain⟨o',es',ep',ho',r'⟩:=hm;rw[ho]at ho';cases ho';exact⟨_,es',ep',hL,r'⟩) hok I.bare
theorem Inv.call(I:Inv X pins σ H s)(u:Un (frs X.stack) ch H H' s.heap h')(hok:HOk X.prog X.w H' h')(hg:hO g')(hch:∀b∈ch,(b∈X.ex\/X.s₀.heap.objs.size<=b)/\b≠X.env.locals/\(∀x c,X.env.cells.lookup x=some c->c≠b)/\∀p∈X.pn++pins,p.1≠b):Inv X pins σ H' {s with heap:=h',gens:=g',drawn:=d',toks:=t'}:=by
 obtain⟨m,⟨o,es,ep,ho,r⟩,_⟩:=id I.loc;obtain⟨sl,hL⟩:=u.any ho I.free λz=>(hch _ z).2.1 rfl;exact I.step (ch:=ch) hch (λb o hL hb hc e n=>u.keep b o e n (λz=>(ar.mp (I.stkSub b z)).elim hL hb) hc) (λb o _ _ hc e n=>u.any e n hc) (λb o hc e n=>u.free b o e n hc) (λb o hc e=>u.there b o e hc) u.tups u.frzs u.tbls (λm' hm=>by
  obtain⟨o',es',ep',ho',r'⟩:=hm;rw[ho]at ho';cases ho';exact⟨_,es',ep',hL,r'⟩) hok hg
theorem Inv.turned(I:Inv X pins σ H s)(k:∀b o,b≠it->s.heap.get? b=some o->h'.get? b=some o)(hn:H it=none)(hL:it≠X.env.locals)(h1:it∈X.ex\/X.s₀.heap.objs.size<=it)(h2:∀x c,X.env.cells.lookup x=some c->c≠it)(h3:∀p∈X.pn++pins,p.1≠it):Inv X pins σ H {s with heap:=h',toks:=t'}:=by
 have nit:∀b u,H b=some u->b≠it:=λb u e z=>by rw[z,hn]at e;cases e
 refine I.step (g':=s.gens) (d':=s.drawn) (ch:=[it]) (λb hb=>?_) (λb o _ _ hc e _=>k b o (λz=>hc (by simp[z])) e) (λb o _ _ hc e _=>⟨o.slots,k b o (λz=>hc (by simp[z])) e⟩) (λ_ _ _ _ n=>n)
  (λb o hc e=>⟨o,k b o (λz=>hc (by simp[z])) e⟩) (λ_ _ e=>e) (λ_ _ _ e=>e) (λb ps e=>⟨#[],by rw[e];simp⟩) (λm hm=>?_) (λb u e=>?_) I.bare
 .have e:b=it:=by simpa using hb
  subst e;exact⟨h1,hL,h2,h3⟩
 .obtain⟨o,es,ep,ho,r⟩:=hm;exact⟨o,es,ep,k _ o (bh hL) ho,r⟩
 .refine(I.hok b u e).stay (λc v hc q=>k c v ?_ q) (λ_ q=>q) λ_ _ q=>q;rcases hc with z|z
  .rw[z];exact nit b u e
  .exact nit c _ z
theorem Inv.tok(I:Inv X pins σ H s)(t:Nat):Inv X pins σ H {s with toks:=t}:=I.un (h':=s.heap) (t':=t) Un.refl I.hok
theorem Inv.kept(I:Inv X pins σ H s)(k:∀b u,s.heap.get? b=some u->h'.get? b=some u):Inv X pins σ H {s with heap:=h',toks:=t'}:=I.un (Un.kept k) (I.hok.kept k)
theorem Inv.laid(I:Inv X pins σ H s)(k:∀b u,s.heap.get? b=some u->h'.get? b=some u)(hp:s.heap.objs.size<=a)(new:ZaT X.prog X.w (upd H a o) h' a o):Inv X pins σ (upd H a o) {s with heap:=h',toks:=t'}:=I.un (Un.laid k hp (I.hok.fresh hp)) (I.hok.laid k hp new)
theorem Inv.write(I:Inv X pins σ H s)(mu:Mut (H x))(he:e=x\/H e=some (.own x))(k:∀b u,b≠e->s.heap.get? b=some u->h'.get? b=some u)(heo:∃u,h'.get? e=some u)(new:ZaT X.prog X.w (upd H x o) h' x o):Inv X pins σ (upd H x o) {s with heap:=h',toks:=t'}:=I.un (Un.write mu he k heo) (I.hok.write mu he k heo new)
theorem Inv.pins_of(I:Inv X pins σ H s)(h:∀p∈pins',s.heap.get? p.1=some p.2/\H p.1=none/\p.1≠X.env.locals/\p.1∉X.fs/\∀v,p.2.data≠ .cell v):Inv X pins' σ H s:=
 ⟨I.ok,I.os,I.bare,I.base,I.loc,I.cell,I.free,I.freeC,λp hp=>(bZ.mp hp).elim (λz=>I.pin p (hW _ z)) (h p),I.hok,I.len,I.qd,I.fx⟩
theorem ZfF{N:List Str}(hN:N.Nodup){i:Nat}(a:N[i]?=some x)(b:N[j]?=some x):i=j:=by
 obtain⟨h1,e1⟩:=au.mp a;obtain⟨h2,e2⟩:=au.mp b;exact(List.getElem_inj hN).mp (e1.trans e2.symm)
theorem Zd1(I:Inv X pins σ H s)(hN:X.N.Nodup)(hi:X.N[i]?=some x)(hx:Loc X.env.scope x)(hm:X.may i=true)(r:ZT v u)(h:∀s',Inv X pins (σ.set i (some v)) H s'->(∃a,dw a s.heap s'.heap/\(a=X.env.locals\/X.env.cells.lookup x=some a))->Q () s')(hf:X.fn x=true\/X.env.scope.names.lookup x=some .local:=by first|exact .inl rfl|exact .inr rfl|assumption):wpAny M A (storeName X.env x u) Q E s:=by
 obtain⟨m,hn,hl⟩:=id I.loc;have hcls:(X.env.scope.kind == .class||(X.env.scope.kind == .module&&X.env.locals != X.env.globals))=false:=by rw[I.ok.kind];rfl
 have hiσ:i<σ.length:=by rw[I.len];exact(au.mp hi).1
 have cne:=I.cne;have tracked:∀{a:Addr}{h':Heap},(∃o,s.heap.get? a=some o/\H a=none)->dw a s.heap h'->HOk X.prog X.w H h':=λ{a h'} ha hs b ob e=>by
  obtain⟨_,_,hfree⟩:=ha;refine(I.hok b ob e).stay (λc w' hc q=>(hs.2 c ?_).trans q) (λ_ q=>q) λ_ _ q=>q;rintro rfl;rcases hc with rfl|hc
  .rw[hfree]at e;cases e
  .rw[hfree]at hc;cases hc
 rcases hx with hk|hk
 .refine wpAny_storeName_local hk hn (λh' hn' hs=>?_) hcls;obtain⟨oL,_,_,hoL,_⟩:=id hn;refine h _ ⟨I.ok,I.os,I.bare,⟨λb o e n hb hx=>?_,λb o e n hb hx=>?_,I.base.free,λb o e hx=>?_,I.base.tups,I.base.frzs,I.base.tbls⟩,⟨_,hn',λj y v' e1 e2 e3=>?_⟩,λy c e=>?_,I.free,I.freeC,λp hp=>?_,tracked ⟨oL,hoL,I.free⟩ hs,by simpa using I.len,I.qd,I.fx.set hm⟩ ⟨_,hs,.inl rfl⟩
  .exact(hs.2 b (az (aj (Hz e) I.ok.above))).trans (I.base.keep b o e n hb hx)
  .obtain⟨sl,e1⟩:=I.base.slot b o e n hb hx;exact⟨sl,(hs.2 b (az (aj (Hz e) I.ok.above))).trans e1⟩
  .obtain⟨o',e1⟩:=I.base.there b o e hx;exact⟨o',(hs.2 b (az (aj (Hz e) I.ok.above))).trans e1⟩
  .by_cases hj:j=i
   .subst hj;rw[hi]at e1;cases e1;rw[ay hiσ]at e2;cases e2;exact⟨u,r,.inl ⟨hk,by simp⟩⟩
   .rw[ah (bh hj)]at e2;obtain⟨u',r',q⟩:=hl j y v' e1 e2 e3;refine⟨u',r',?_⟩;rcases q with⟨k,e⟩|⟨k,c,e,z⟩
    .refine .inl ⟨k,?_⟩
     have:y≠x:=λe=>hj (ZfF hN e1 (e▸hi))
     simp[this,e]
    .exact .inr ⟨k,c,e,z.sameBut hs (cne y c e)⟩
  .obtain⟨w',z⟩:=I.cell y c e;exact⟨w',z.sameBut hs (cne y c e)⟩
  .obtain⟨e,n,ne,nf,d⟩:=I.pin p hp;exact⟨(hs.2 p.1 ne).trans e,n,ne,nf,d⟩
 .have hfn:X.fn x=true:=by
   rcases hf with z|z
   .exact z
   .rw[z]at hk;cases hk
  obtain⟨c,hc⟩:=I.ok.has x (.inl hk);obtain⟨w',z⟩:=I.cell x c hc;refine wpAny_storeName_cell I.ok.kind hk hc z (λh' hc' hs=>?_);obtain⟨oc,hoc,hocd⟩:=id z;refine h {s with heap:=h'} ⟨I.ok,I.os,I.bare,⟨λb o e n hb hx=>?_,λb o e n hb hx=>?_,I.base.free,λb o e hx=>?_,I.base.tups,I.base.frzs,I.base.tbls⟩,⟨m,hn.sameBut hs (bh (cne x c hc)),λj y v' e1 e2 e3=>?_⟩,λy c' e=>?_,I.free,I.freeC,λp hp=>?_,tracked ⟨oc,hoc,I.freeC x c hc⟩ hs,by simpa using I.len,I.qd,I.fx.set hm⟩ ⟨c,hs,.inr hc⟩
  .exact(hs.2 b (az (aj (Hz e) (I.ok.cab x c hfn hc)))).trans (I.base.keep b o e n hb hx)
  .obtain⟨sl,e1⟩:=I.base.slot b o e n hb hx;exact⟨sl,(hs.2 b (az (aj (Hz e) (I.ok.cab x c hfn hc)))).trans e1⟩
  .obtain⟨o',e1⟩:=I.base.there b o e hx;exact⟨o',(hs.2 b (az (aj (Hz e) (I.ok.cab x c hfn hc)))).trans e1⟩
  .by_cases hj:j=i
   .subst hj;rw[hi]at e1;cases e1;rw[ay hiσ]at e2;cases e2;exact⟨u,r,.inr ⟨.inl hk,c,hc,hc'⟩⟩
   .rw[ah (bh hj)]at e2;obtain⟨u',r',q⟩:=hl j y v' e1 e2 e3;refine⟨u',r',?_⟩;rcases q with q|⟨k,c',e,z'⟩
    .exact .inl q
    .refine .inr ⟨k,c',e,z'.sameBut hs ?_⟩;rintro rfl;exact hj (ZfF hN e1 (I.ok.inj _ _ _ e hc▸hi))
  .by_cases hcc:c'=c
   .subst hcc;exact⟨_,hc'⟩
   .obtain⟨w2,z2⟩:=I.cell y c' e;exact⟨w2,z2.sameBut hs hcc⟩
  .obtain⟨e,n,ne,nf,d⟩:=I.pin p hp;refine⟨(hs.2 p.1 ?_).trans e,n,ne,nf,d⟩;intro q;rw[q,hoc]at e;have q':oc=p.2:=aO e;exact d w' (by rw[<-q'];exact hocd)
theorem Zcp(I:Inv X pins σ H s)(hN:X.N.Nodup)(hi:X.N[i]?=some x)(hx:Loc X.env.scope x)(hm:X.may i=true)(r:ZT v u)(h:∀s',Inv X pins (σ.set i (some v)) H s'->Q () s')(hf:X.fn x=true\/X.env.scope.names.lookup x=some .local:=by first|exact .inl rfl|exact .inr rfl|assumption):wpAny M A (storeName X.env x u) Q E s:=
 Zd1 I hN hi hx hm r (λs' I' _=>h s' I') hf
theorem Inv.call'(I:Inv X pins σ H s)(ho:s'.os=s.os)(u:Un (frs X.stack) ch H H' s.heap s'.heap)(hok:HOk X.prog X.w H' s'.heap)(hg:hO s'.gens)(hch:∀b∈ch,(b∈X.ex\/X.s₀.heap.objs.size<=b)/\b≠X.env.locals/\(∀x c,X.env.cells.lookup x=some c->c≠b)/\∀p∈X.pn++pins,p.1≠b):Inv X pins σ H' s':=by
 obtain⟨h',g',d',t',o'⟩:=s';have e:o'=s.os:=ho;subst e;exact I.call (g':=g') (t':=t') (d':=d') u hok hg hch
end
abbrev XK:=aa->Option Addr->Hp->Prop
noncomputable abbrev St:=List (Option V)
abbrev VK:=V->Hp->Prop
abbrev TE:=St->Hp->VK->Prop
abbrev TT:=St->Hp->(Bool->Hp->Prop)->Prop
abbrev TA:=St->Hp->(List V->Hp->Prop)->Prop
structure Ends where
 nx:St->Hp->Prop
 rt:VK
 bk:St->Hp->Prop:=λ_ _=>False
 ct:St->Hp->Prop:=λ_ _=>False
abbrev TS:=Ends->St->Hp->Prop
def EP(X:Cx)(pins:Pn)(σ:St)(Q:VK)(u:aa)(s':aH):Prop:=∃v H',Inv X pins σ H' s'/\ZT v u/\Q v H'
noncomputable def TP(X:Cx)(pins:Pn)(σ:St)(Q:Bool->Hp->Prop)(b:Bool)(s':aH):Prop:=∃H',Inv X pins σ H' s'/\Q b H'
def AP(X:Cx)(pins:Pn)(σ:St)(Q:List V->Hp->Prop)(us:List aa)(s':aH):Prop:=∃vs H',Inv X pins σ H' s'/\ZU vs us/\Q vs H'
def SP(X:Cx)(pins:Pn)(D:Ends)(f:Flow)(s':aH):Prop:=
 match f with
 |.next=>∃σ' H',Inv X pins σ' H' s'/\D.nx σ' H'
 |.brk=>∃σ' H',Inv X pins σ' H' s'/\D.bk σ' H'
 |.cont=>∃σ' H',Inv X pins σ' H' s'/\D.ct σ' H'
 |.ret u=>∃v σ' H',Inv X pins σ' H' s'/\ZT v u/\D.rt v H'
def PE(X:Cx)(e:Expr)(t:TE):Prop:=
 ∀(pins:Pn)(s:aH)(σ:St)(H:Hp)(Q:VK),Inv X pins σ H s->t σ H Q->wpAny (aE X.prog X.w) X.A (eval e X.env) (EP X pins σ Q) X.xe s
def PT(X:Cx)(e:Expr)(t:TT):Prop:=
 ∀(pins:Pn)(s:aH)(σ:St)(H:Hp)(Q:Bool->Hp->Prop),Inv X pins σ H s->t σ H Q->wpAny (aE X.prog X.w) X.A (isTrue e X.env (eval e X.env)) (TP X pins σ Q) X.xe s
def PW(X:Cx)(e:Expr)(t:TT):Prop:=
 ∀(whole:Sem aa)(pins:Pn)(s:aH)(σ:St)(H:Hp)(Q:Bool->Hp->Prop),Inv X pins σ H s->t σ H Q->wpAny (aE X.prog X.w) X.A (isTrue e X.env whole) (TP X pins σ Q) X.xe s
theorem PW.pt(h:PW X e t):PT X e t:=h _
def PA(X:Cx)(es:List Expr)(t:TA):Prop:=
 ∀(pos:Pos)(pins:Pn)(s:aH)(σ:St)(H:Hp)(Q:List V->Hp->Prop),Inv X pins σ H s->t σ H Q->wpAny (aE X.prog X.w) X.A (spliced (cR pos (aA es X.env))) (AP X pins σ Q) X.xe s
def PS(X:Cx)(st:Stmt)(t:TS):Prop:=
 ∀(pins:Pn)(s:aH)(σ:St)(H:Hp)(D:Ends),Inv X pins σ H s->t D σ H->wpAny (aE X.prog X.w) X.A (exec st X.env) (SP X pins D) X.xe s
def PSs(X:Cx)(st:List Stmt)(t:TS):Prop:=
 ∀(pins:Pn)(s:aH)(σ:St)(H:Hp)(D:Ends),Inv X pins σ H s->t D σ H->wpAny (aE X.prog X.w) X.A (execs st X.env) (SP X pins D) X.xe s
theorem thn{t:Sem α}{Q Q':α->aH->Prop}(h:wpAny M A t Q E s)(hQ:∀a s,Q a s->Q' a s):wpAny M A t Q' E s:=wpAny_mono h hQ λ_ _ x=>x
noncomputable def Zuq(i:Nat):TE:=λσ H Q=>∃v,σ[i]?=some (some v)/\Q v H
noncomputable def tC(v:V):TE:=λ_ H Q=>Q v H
theorem Zk9(hN:X.N[i]?=some x)(hv:Vis X.env.scope x)(hd:autoParam ((x==("__debug__":Str))=false) Qde._auto_1)(hcd:autoParam ((x==("__classdict__":Str))=false) Qde._auto_1):PE X (.Name x pos) (Zuq i):=by
 intro pins s σ H Q I h;obtain⟨v,e,h⟩:=h;obtain⟨m,hn,hl⟩:=I.loc;obtain⟨u,r,l⟩:=hl i x v hN e hv;have fin:EP X pins σ Q u s:=⟨v,H,I,r,h⟩;rcases l with⟨hk,hm⟩|⟨hk,c,hc,hcell⟩
 .exact wpAny_Name (wpAny_loadName_local I.ok.kind hk hn hm fin) hd
 .rcases hk with hk|hk
  .exact wpAny_Name (wpAny_loadName_cell I.ok.kind hk hc hcell fin) hd
  .exact wpAny_Name (wpAny_loadName_free I.ok.kind hk hc hcell fin hcd) hd
theorem Zou{i j pos}:PE X (.Constant (.int i) j pos) (tC (.int i)):=λ_ _ _ H _ I h=>wpAny_Constant_int ⟨.int i,H,I.tok _,⟨_,rfl⟩,h⟩
theorem Zr2{b j pos}:PE X (.Constant (.bool b) j pos) (tC (.bl b)):=λ_ _ _ H _ I h=>Constant_bool ⟨.bl b,H,I,rfl,h⟩
theorem Zov{j pos}:PE X (.Constant .none j pos) (tC .non):=λ_ _ _ H _ I h=>Constant_none ⟨.non,H,I,rfl,h⟩
theorem Zow{x j pos}:PE X (.Constant (.str x) j pos) (tC (.str x)):=λ_ _ _ H _ I h=>Calls.Constant_str ⟨.str x,H,I.tok _,⟨_,rfl⟩,h⟩
noncomputable def Gl(X:Cx)(x:Str):Prop:=X.env.kindOf x=some .globalImplicit
theorem Zhd(I:Inv X pins σ H s)(hg:Gl X x)(hm:X.mg x=some u)(h:Q u s)(hd:autoParam ((x==("__debug__":Str))=false) Qde._auto_1):wpAny (aE X.prog X.w) X.A (eval (.Name x pos) X.env) Q E s:=
 Calls.Name_function_global I.ok.kind hg (Calls.loadGlobal_global (by rw[I.ok.glob];exact I.mod.glob.keeps I.bk) hm h) hd
theorem Zbs(I:Inv X pins σ H s)(hg:Gl X x)(hm:X.mg x=none)(hv:bN x=some u)(h:Q u s)(hn:autoParam (x≠"__name__") Qde._auto_1)(hd:autoParam ((x==("__debug__":Str))=false) Qde._auto_1):wpAny (aE X.prog X.w) X.A (eval (.Name x pos) X.env) Q E s:=by
 obtain⟨mb,h1,h2⟩:=I.mod.blt;exact Calls.Name_function_global I.ok.kind hg (Calls.loadGlobal_builtin (by rw[I.ok.glob];exact I.mod.glob.keeps I.bk) hm (by rw[I.ok.blt];exact h1.keeps I.bk) ((h2 x hn).trans hv) h) hd
theorem Zl2(hg:Gl X x)(hm:X.mg x=none)(hv:bN x=some u)(r:ZT v u)(hn:autoParam (x≠"__name__") Qde._auto_1)(hd:autoParam ((x==("__debug__":Str))=false) Qde._auto_1):PE X (.Name x pos) (tC v):=
 λ_ _ _ H _ I h=>Zbs I hg hm hv ⟨v,H,I,r,h⟩ hn hd
noncomputable def tB(t:TE):TT:=λσ H Q=>t σ H λx H1=>∃c,x=.bl c/\Q c H1
theorem Zox(h:PE X e t)(he:autoParam (∀whole,isTrue e X.env whole=(do let v <-whole;standAt e.pos;holding [v] (truthy v))) Qin._auto_1):PT X e (tB t):=by
 intro pins s σ H Q I hw;refine isTrue_plain (thn (h pins s σ H _ I hw) λv s1 hz=>?_) (he _);obtain⟨x,H1,I1,r1,q1⟩:=hz;obtain⟨d,rfl,q⟩:=q1;cases r1;exact dY ⟨H1,I1,q⟩
noncomputable def Zvo(t u:TT):TT:=λσ H Q=>t σ H λc H1=>if c=true then u σ H1 Q else Q false H1
noncomputable def tOr(t u:TT):TT:=λσ H Q=>t σ H λc H1=>if c=true then Q true H1 else u σ H1 Q
noncomputable def Zvp(t:TT):TT:=λσ H Q=>t σ H λc H1=>Q (!c) H1
theorem pw_and1(ha:PT X a tA):PW X (.BoolOp .And [a] pos) tA:=by
 intro wh pins s σ H Q I h;refine isTrue_and (thn (ha pins s σ H Q I h) λc s1 e=>?_);cases c with
 |true=>exact isTrue_and_nil e
 |false=>exact e
theorem pw_or1(ha:PT X a tA):PW X (.BoolOp .Or [a] pos) tA:=by
 intro wh pins s σ H Q I h;refine isTrue_or (thn (ha pins s σ H Q I h) λc s1 e=>?_);cases c with
 |false=>exact isTrue_or_nil e
 |true=>exact e
theorem pw_and(ha:PT X a tA)(hb:PW X (.BoolOp .And (b::rest) pos) tB'):PW X (.BoolOp .And (a::b::rest) pos) (Zvo tA tB'):=by
 intro wh pins s σ H Q I h;refine isTrue_and (thn (ha pins s σ H _ I h) λc s1 hz=>?_);obtain⟨H1,I1,q1⟩:=hz;cases c with
 |true=>exact hb wh pins s1 σ H1 Q I1 q1
 |false=>exact⟨H1,I1,q1⟩
theorem pw_or(ha:PT X a tA)(hb:PW X (.BoolOp .Or (b::rest) pos) tB'):PW X (.BoolOp .Or (a::b::rest) pos) (tOr tA tB'):=by
 intro wh pins s σ H Q I h;refine isTrue_or (thn (ha pins s σ H _ I h) λc s1 hz=>?_);obtain⟨H1,I1,q1⟩:=hz;cases c with
 |true=>exact⟨H1,I1,q1⟩
 |false=>exact hb wh pins s1 σ H1 Q I1 q1
theorem Zoy(ha:PT X a tA):PT X (.UnaryOp .Not a pos) (Zvp tA):=by
 intro pins s σ H Q I h;exact isTrue_not (ha pins s σ H (λc H1=>Q (!c) H1) I h)
noncomputable def Zr3(ta tb:TE):TE:=λσ H Q=>ta σ H λx H1=>∃c,x=.bl c/\if c=true then tb σ H1 Q else Q (.bl false) H1
noncomputable def Zr4(ta:TE):TE:=λσ H Q=>ta σ H λx H1=>∃c,x=.bl c/\Q (.bl (!c)) H1
theorem Zoz{op}(h:PE X a t):PE X (.BoolOp op [a] pos) t:=λpins s σ H Q I hw=>BoolOp_one (h pins s σ H Q I hw)
theorem ZoA(ha:PE X a ta)(hb:PE X (.BoolOp .And (b::rest) pos) tb):PE X (.BoolOp .And (a::b::rest) pos) (Zr3 ta tb):=by
 intro pins s σ H Q I h;refine BoolOp_and (thn (ha pins s σ H _ I h) λv s1 hz=>?_);obtain⟨x,H1,I1,r1,q1⟩:=hz;obtain⟨c,rfl,q1⟩:=q1;cases r1;refine dY ?_;cases c with
 |true=>exact hb pins s1 σ H1 Q I1 q1
 |false=>exact⟨.bl false,H1,I1,rfl,q1⟩
theorem ZoB(ha:PE X a ta):PE X (.UnaryOp .Not a pos) (Zr4 ta):=by
 intro pins s σ H Q I h;refine UnaryOp_ (thn (ha pins s σ H _ I h) λv s1 hz=>?_);obtain⟨x,H1,I1,r1,q1⟩:=hz;obtain⟨c,rfl,q1⟩:=q1;cases r1;exact not_of (dY ⟨.bl (!c),H1,I1,rfl,q1⟩)
noncomputable def tIf(t:TT)(ta tb:TE):TE:=λσ H Q=>t σ H λc H1=>if c=true then ta σ H1 Q else tb σ H1 Q
theorem ZjS(hc:PT X c tA)(ha:PE X a ta)(hb:PE X b tb):PE X (.IfExp c a b pos) (tIf tA ta tb):=by
 intro pins s σ H Q I h;refine wpAny_IfExp (thn (hc pins s σ H _ I h) λd s1 hz=>?_);obtain⟨H1,I1,q1⟩:=hz;cases d with
 |true=>exact ha pins s1 σ H1 Q I1 q1
 |false=>exact hb pins s1 σ H1 Q I1 q1
def SqL(K:Fg)(H:Hp)(a:Addr)(xs:List V):Prop:=
 Rd H a (.lst xs)\/
  ∃(o:Obj) (its:Array aa) (n:Nat),K.lookup a=some o/\o.cls=.type "list"/\o.dict=none/\o.data=.seq its n/\its.size<=sizeLine/\ZU xs its.toList
def SqT(K:Fg)(H:Hp)(a:Addr)(xs:List V):Prop:=
 Rd H a (.tup xs)\/
  ∃(o:Obj) (its:Array aa) (n:Nat),K.lookup a=some o/\o.cls=.type "tuple"/\o.data=.seq its n/\its.size<=sizeLine/\ZU xs its.toList
noncomputable def Zvq:aa->Option V
 |.none=>some .non
 |.bool b=>some (.bl b)
 |.int i _=>some (.int i)
 |.str x _=>some (.str x)
 |.bytes b _=>some (.byt b)
 |.float b _=>some (.flt b)
 |.ref a=>some (.ref a)
 |.type n=>some (.ty n)
 |_=>none
theorem ZT.abs(r:ZT x u):Zvq u=some x:=by
 cases x with
 |non=>cases r;rfl
 |bl _=>cases r;rfl
 |int _=>obtain⟨t,rfl⟩:=r;rfl
 |str _=>obtain⟨t,rfl⟩:=r;rfl
 |byt _=>obtain⟨t,rfl⟩:=r;rfl
 |flt _=>obtain⟨t,rfl⟩:=r;rfl
 |ref _=>cases r;rfl
 |ty _=>cases r;rfl
theorem ZT.inj(r:ZT x u)(q:ZT y u):x=y:=aO (r.abs.symm.trans q.abs)
theorem ZU.inj:∀{xs ys:List V}{us:List aa},ZU xs us->ZU ys us->xs=ys:=by
 intro xs ys us h
 induction h generalizing ys with
 |nil=>intro h;cases h;rfl
 |cons r t ih=>intro h;cases h with|cons r2 t2=>rw[r.inj r2,ih t2]
theorem SqL.of{K:Fg}(h:H a=some (.lst xs)):SqL K H a xs:=.inl (.inl h)
theorem SqT.of{K:Fg}(h:H a=some (.tup xs)):SqT K H a xs:=.inl (.inl h)
theorem Inv.list(I:Inv X pins σ H s)(h:SqL X.K H a xs):∃its:List aa,ZU xs its/\PlainL s.heap a its.toArray/\xs.length<=sizeLine:=by
 rcases h with h|⟨o,its,n,hk,hc,hd,hs,hz,r⟩
 .obtain⟨z,its,n,r,e⟩:=h.ok I.hok;exact⟨its,r,⟨_,n,e,rfl,rfl,rfl⟩,z⟩
 .refine⟨its.toList,r,⟨o,n,I.kIn a o hk,hc,hd,by simpa using hs⟩,?_⟩
  have e:=r.length;simp only[fM]at e;lia
theorem Inv.tuple(I:Inv X pins σ H s)(h:SqT X.K H a xs):∃its:List aa,ZU xs its/\hV s.heap a its.toArray/\xs.length<=sizeLine:=by
 rcases h with h|⟨o,its,n,hk,hc,hs,hz,r⟩
 .obtain⟨z,its,r,p⟩:=h.ok I.hok;exact⟨its,r,p,z⟩
 .refine⟨its.toList,r,⟨o,I.kIn a o hk,hc,n,by simpa using hs⟩,?_⟩
  have e:=r.length;simp only[fM]at e;lia
theorem Inv.list_inj(I:Inv X pins σ H s)(h:SqL X.K H a xs)(h':SqL X.K H a ys):xs=ys:=by
 obtain⟨its,r,⟨o,n,e,_,_,d⟩,_⟩:=I.list h;obtain⟨its',r',⟨o',n',e',_,_,d'⟩,_⟩:=I.list h';rw[e]at e';cases e';rw[d]at d';injection d' with d1 _
 have:its=its':=by simpa using congrArg Array.toList d1
 subst this;exact r.inj r'
theorem Inv.tuple_inj(I:Inv X pins σ H s)(h:SqT X.K H a xs)(h':SqT X.K H a ys):xs=ys:=by
 obtain⟨its,r,⟨o,e,_,n,d⟩,_⟩:=I.tuple h;obtain⟨its',r',⟨o',e',_,n',d'⟩,_⟩:=I.tuple h';rw[e]at e';cases e';rw[d]at d';injection d' with d1 _
 have:its=its':=by simpa using congrArg Array.toList d1
 subst this;exact r.inj r'
section
variable {st:Stmt}{u:TS}
noncomputable def tNext:TS:=λD σ H=>D.nx σ H
noncomputable def Zvr(t u:TS):TS:=λD σ H=>t {D with nx:=u D} σ H
theorem Zl3:PSs X [] tNext:=λ_ _ σ H _ I h=>io ⟨σ,H,I,h⟩
theorem ZjT(h1:PS X st t)(h2:PSs X rest u):PSs X (st::rest) (Zvr t u):=by
 intro pins s σ H D I h;refine wpAny_execs_cons (thn (h1 pins s σ H {D with nx:=u D} I h) λf s1 q=>?_);cases f with
 |next=>
  obtain⟨σ',H',I',q⟩:=q;exact h2 pins s1 σ' H' D I' q
 |ret v=>exact q
 |brk=>exact q
 |cont=>exact q
theorem Zl4(h1:PS X st t):PSs X [st] t:=by
 intro pins s σ H D I h;refine wpAny_execs_cons (thn (h1 pins s σ H D I h) λf s1 q=>?_);cases f with
 |next=>exact io q
 |ret v=>exact q
 |brk=>exact q
 |cont=>exact q
theorem Inv.quiet(I:Inv X pins σ H s):interactive X.env=false:=by simp[interactive,I.ok.kind]
noncomputable def Zr5(te:TE):TS:=λD σ H=>te σ H λ_ H1=>D.nx σ H1
theorem Zl5(he:PE X e te)(hs:autoParam (iK e none pos.line X.env=pure false) Qrf._auto_1):PS X (.Expr e pos) (Zr5 te):=by
 intro pins s σ H D I h;exact wpAny_Expr_any (thn (he pins s σ H _ I h) λv s1 ⟨x,H1,I1,r1,q1⟩=>⟨σ,H1,I1,q1⟩) I.quiet hs
noncomputable def Zvs(te:TE):TS:=λD σ H=>te σ H D.rt
theorem ZoC(he:PE X e te):PS X (.Return (some e) pos) (Zvs te):=by
 intro pins s σ H D I h;exact wpAny_Return_some (thn (he pins s σ H _ I h) λv s1 ⟨x,H1,I1,r1,q1⟩=>⟨x,σ,H1,I1,r1,q1⟩)
noncomputable def Zvt(c:TT)(t u:TS):TS:=λD σ H=>c σ H λb H1=>if b=true then t D σ H1 else u D σ H1
theorem Zr6(hc:PT X c tc)(ha:PSs X a t)(hb:PSs X b u):PS X (.If c a b pos) (Zvt tc t u):=by
 intro pins s σ H D I h;refine wpAny_If (thn (hc pins s σ H _ I h) λd s1 hz=>?_);obtain⟨H1,I1,q1⟩:=hz;cases d with
 |true=>exact ha pins s1 σ H1 D I1 q1
 |false=>exact hb pins s1 σ H1 D I1 q1
end
abbrev TG:=V->St->Hp->(St->Hp->Prop)->Prop
abbrev TGs:=List V->St->Hp->(St->Hp->Prop)->Prop
def PG(X:Cx)(target:Expr)(t:TG):Prop:=
 ∀(pins:Pn)(s:aH)(σ:St)(H:Hp)(v:V)(u:aa)(Q:St->Hp->Prop),Inv X pins σ H s->ZT v u->t v σ H Q->
  wpAny (aE X.prog X.w) X.A (assign target X.env u) (λ_ s'=>∃σ' H',Inv X pins σ' H' s'/\Q σ' H') X.xe s
def PGs(X:Cx)(ts:List Expr)(t:TGs):Prop:=
 ∀(pins:Pn)(s:aH)(σ:St)(H:Hp)(vs:List V)(us:List aa)(Q:St->Hp->Prop),Inv X pins σ H s->ZU vs us->t vs σ H Q->
  wpAny (aE X.prog X.w) X.A (assignInOrder ((bX ts X.env).map (·.2)) us) (λ_ s'=>∃σ' H',Inv X pins σ' H' s'/\Q σ' H') X.xe s
abbrev Zr7:=V->V->V->Hp->(Hp->Prop)->Prop
def Zur(X:Cx)(t:Zr7):Prop:=
 ∀(pins:Pn)(s:aH)(σ:St)(H:Hp)(o i v:V)(ov iv u:aa)(Q:Hp->Prop),Inv X pins σ H s->ZT o ov->ZT i iv->ZT v u->t o i v H Q->
  wpAny (aE X.prog X.w) X.A (setItem ov iv u) (λ_ s'=>∃H',Inv X pins σ H' s'/\Q H') X.xe s
noncomputable def ZoD(i:Nat):TG:=λv σ H Q=>Q (σ.set i (some v)) H
theorem Zl6(hN:X.N.Nodup)(hi:X.N[i]?=some x)(hx:Loc X.env.scope x)(hm:X.may i=true)(hf:X.fn x=true\/X.env.scope.names.lookup x=some .local:=by first|exact .inl rfl|exact .inr rfl|assumption):PG X (.Name x pos) (ZoD i):=by
 intro pins s σ H v u Q I r h;exact wpAny_assign_Name (Zcp I hN hi hx hm r (λs' I'=>⟨_,H,I',h⟩) hf)
noncomputable def gNil:TGs:=λvs σ H Q=>vs=[]/\Q σ H
noncomputable def Zr8(t:TG)(u:TGs):TGs:=λvs σ H Q=>∃v r,vs=v::r/\t v σ H λσ' H'=>u r σ' H' Q
theorem Zl7:PGs X [] gNil:=by
 intro pins s σ H vs us Q I r h;obtain⟨e,h⟩:=h;subst e;cases r;exact assignInOrder_nil ⟨σ,H,I,h⟩
theorem ZjU(h1:PG X e t)(h2:PGs X es u)(hs:autoParam ((bX (e::es) X.env).map (·.2)=assign e X.env::(bX es X.env).map (·.2)) Qrf._auto_1):PGs X (e::es) (Zr8 t u):=by
 intro pins s σ H vs us Q I r h;obtain⟨v,vr,e1,h⟩:=h;subst e1;cases r with
 |cons r rr=>
  rw[hs];refine iT (thn (h1 pins s σ H _ _ _ I r h) λ_ s1 hz=>?_);obtain⟨σ1,H1,I1,q1⟩:=hz;exact h2 pins s1 σ1 H1 _ _ Q I1 rr q1
def Zvu(K:Fg)(n:Nat)(t:TGs):TG:=λv σ H Q=>∃a xs,v=.ref a/\SqT K H a xs/\xs.length=n/\t xs σ H Q
theorem ZoE(hc:X.calm=true)(h:PGs X es t)(hn:autoParam ((bX es X.env).length=n) Qrf._auto_1)(hst:autoParam ((bX es X.env).findIdx? (·.1)=none) Qrf._auto_1):PG X (.Tuple es k pos) (Zvu X.K n t):=by
 intro pins s σ H v u Q I r hw;obtain⟨a,xs,e1,hq,hl,hw⟩:=hw;subst e1;cases r;obtain⟨its,rv,ht,hz⟩:=I.tuple hq;refine assign_Tuple_tuple (I.ok.hd hc) ht (by simp[hn,<-hl,rv.length]) hst λh' hx=>?_
 have I1:Inv X pins σ H {s with heap:=h'}:=I.kept (t':=s.toks) λb o e=>hx b o (az (Hz e)) e;exact h pins _ σ H xs _ Q I1 (by simpa using rv) hw
noncomputable def Zvv(to ti:TE)(t:Zr7):TG:=λv σ H Q=>to σ H λo H1=>ti σ H1 λi H2=>t o i v H2 λH3=>Q σ H3
theorem ZoF(ho:PE X o to)(hi:PE X i ti)(hs:Zur X t)(ha:∀v,assign (.Subscript o i pos) X.env v=(do
   let ov <-holding [v] (eval o X.env)
   let iv <-holding [v,ov] (eval i X.env)
   standAt pos
   holding [v,ov,iv] (setItem ov iv v)
   release [v,ov,iv] []):=by intro _;rfl):PG X (.Subscript o i pos) (Zvv to ti t):=by
 intro pins s σ H v u Q I r h;rw[ha];refine Wb (wpAny_holding (thn (ho pins s σ H _ I h) λov s1 hz=>?_));obtain⟨x,H1,I1,r1,q1⟩:=hz;refine Wb (wpAny_holding (thn (hi pins s1 σ H1 _ I1 q1) λiv s2 hz=>?_));obtain⟨y,H2,I2,r2,q2⟩:=hz;refine Wb (wpAny_standAt (Wb (wpAny_holding (thn (hs pins s2 σ H2 x y v ov iv u _ I2 r1 r2 r q2) λ_ s3 hz=>?_))));obtain⟨H3,I3,q3⟩:=hz;exact wpAny_release ⟨σ,H3,I3,q3⟩
noncomputable def Zus(te:TE)(g:TG):TS:=λD σ H=>te σ H λx H1=>g x σ H1 D.nx
theorem Zhe(he:PE X e te)(hg:PG X tg g)(hs:autoParam (fW [tg] e pos.line X.env=pure false) Qrf._auto_1)(hw:autoParam (eA [tg] e X.env=pure none) Qrf._auto_1)(h1:autoParam ((bX [tg] X.env).map (·.2)=[assign tg X.env]) Qrf._auto_1):PS X (.Assign [tg] e pos) (Zus te g):=by
 intro pins s σ H D I h;refine wpAny_Assign_stores (thn (he pins s σ H _ I h) λv s1 hz=>?_) hs hw;obtain⟨x,H1,I1,r1,q1⟩:=hz;rw[h1];exact thn (hg pins s1 σ H1 x v _ I1 r1 q1) λ_ s2 q=>q
theorem ZoG(hN:X.N.Nodup)(hi:X.N[i]?=some x)(hx:Loc X.env.scope x)(hm:X.may i=true)(he:PE X e te)(hs:autoParam (iK e (some (.Name x pos')) pos.line X.env=pure false) Qrf._auto_1)(hf:X.fn x=true\/X.env.scope.names.lookup x=some .local:=by first|exact .inl rfl|exact .inr rfl|assumption) :
  PS X (.Assign [.Name x pos'] e pos) (Zus te (ZoD i)):=by
 intro pins s σ H D I h;refine wpAny_Assign_Name (thn (he pins s σ H _ I h) λv s1 hz=>?_) hs;obtain⟨y,H1,I1,r1,q1⟩:=hz;exact Zcp I1 hN hi hx hm r1 (λs2 I2=>⟨_,H1,I2,q1⟩) hf
noncomputable def Zvw(i j:Nat)(ta:TA):TS:=λD σ H=>ta σ H λvs H1=>∃v w,vs=[v,w]/\D.nx ((σ.set i (some v)).set j (some w)) H1
theorem ZoH{kt k2 pt2}(hc:X.calm=true)(mi:X.may i=true)(mj:X.may j=true)(hN:X.N.Nodup)(hi:X.N[i]?=some x)(hj:X.N[j]?=some y)(hij:i≠j)(hx:X.env.scope.names.lookup x=some .local)(hy:X.env.scope.names.lookup y=some .local)(ha:PA X [a,b] ta)(hw:eA [.Tuple [.Name x px,.Name y py] kt pt] (.Tuple [a,b] k2 pt2) X.env=pure (some [x,y]))(hs:autoParam (fW [.Tuple [.Name x px,.Name y py] kt pt] (.Tuple [a,b] k2 pt2) pos.line X.env=pure false) Qrf._auto_1) :
  PS X (.Assign [.Tuple [.Name x px,.Name y py] kt pt] (.Tuple [a,b] k2 pt2) pos) (Zvw i j ta):=by
 intro pins s σ H D I h;rw[exec_Assign_arm];refine Wb (wpAny_standAt ?_);rw[hs];refine Wb (Wp ?_);rw[if_neg (by decide)]
 refine Wb (Tuple_ (thn (ha _ pins s σ H _ I h) λus s1 hz=>?_));obtain⟨vs,H1,I1,r1,q1⟩:=hz;obtain⟨v,w,e1,q1⟩:=q1;subst e1;obtain⟨u1,u2,rfl,rv,rw'⟩:∃u1 u2,us=[u1,u2]/\ZT v u1/\ZT w u2:=by
  cases r1 with
  |cons p q=>
   cases q with
   |cons p' q'=>
    cases q';exact⟨_,_,rfl,p,p'⟩
 refine bK ?_ (by show 2<=sizeLine;decide)
 have I2:Inv X pins σ H1 {s1 with heap:=s1.heap.push {cls:=.type "tuple",data:=.seq [u1,u2].toArray}}:=I1.kept (t':=s1.toks) λb o e=>Hq _ e;rw[hw];refine Wb (Wp ?_);show wpAny (aE X.prog X.w) X.A (do rule "assign.swapped-stores";let items <-unpackItems (.ref s1.heap.objs.size) 2 none;assignInOrder [λv=>bindName X.env y v,λv=>bindName X.env x v] items.reverse;pure Flow.next) _ _ _
 refine Wb (wpAny_rule (Wb (unpackItems_tuple (items:= #[u1,u2]) (I.ok.hd hc) (hV.new s1.heap _) λh' hx'=>?_)));have I3:=I2.kept (h':=h') (t':=s1.toks) λb o e=>hx' b o (az (Hz e)) e;show wpAny _ _ (assignInOrder [λv=>bindName X.env y v,λv=>bindName X.env x v] [u2,u1] >>= λ_=>pure Flow.next) _ _ _
 refine Wb (iT (wpAny_bindName (Zcp I3 hN hj (.inl hy) mj rw' (λs2 I4=>?_) (.inr hy))));refine iT (wpAny_bindName (Zcp I4 hN hi (.inl hx) mi rv (λs3 I5=>assignInOrder_nil (Wp ?_)) (.inr hx)));rw[List.set_comm _ _ (bh hij)]at I5;exact⟨_,H1,I5,q1⟩
def ZoI(c:TT)(tb:TS):TS:=λD σ H=>∃W:Nat->St->Hp->Prop,(∃m,W m σ H)/\∀m σ H,W m σ H->
 c σ H λb H1=>if b=true then ∃N:St->Hp->Prop,(∀σ' H',N σ' H'->∃m',m'<m/\W m' σ' H')/\tb {D with nx:=N,ct:=N,bk:=D.nx} σ H1 else D.nx σ H1
theorem ZjV(hp:fE (aE X.prog X.w) X.A X.env X.xe)(hc:PT X c tc)(hb:PSs X body tb):PS X (.While c body [] pos) (ZoI tc tb):=by
 intro pins s σ H D I h;obtain⟨W,⟨m0,w0⟩,turn⟩:=h;refine wpAny_While (codeAny_whileLoop (λn s'=>∃σ' H',Inv X pins σ' H' s'/\W n σ' H') ?_ m0 ⟨σ,H,I,w0⟩);rintro n s1 ⟨σ1,H1,I1,w1⟩;refine dP hp (thn (hc pins s1 σ1 H1 _ I1 (turn n σ1 H1 w1)) λb s2 hz=>?_);obtain⟨H2,I2,q2⟩:=hz;cases b with
 |true=>
  obtain⟨N,hN,q2⟩:=q2;rw[if_pos rfl];refine dP hp (thn (hb pins s2 σ1 H2 _ I2 q2) λf s3 q3=>?_);cases f with
  |next=>
   obtain⟨σ3,H3,I3,n3⟩:=q3;obtain⟨m',hm,w3⟩:=hN σ3 H3 n3;exact⟨m',hm,σ3,H3,I3,w3⟩
  |cont=>
   obtain⟨σ3,H3,I3,n3⟩:=q3;obtain⟨m',hm,w3⟩:=hN σ3 H3 n3;exact⟨m',hm,σ3,H3,I3,w3⟩
  |brk=>exact q3
  |ret v=>exact q3
 |false=>
  rw[if_neg bV];exact io ⟨σ1,H2,I2,q2⟩
structure It where
 go:Nat->Hp->Prop
 yld:Nat->Hp->V->Hp->Prop
 stop:Nat->Hp->Prop
def ZeR(X:Cx)(pins:Pn)(H:Hp)(b:Addr):Prop:=
 H b=none/\b≠X.env.locals/\b∉X.fs/\(b∈X.ex\/X.s₀.heap.objs.size<=b)/\(∀x c,X.env.cells.lookup x=some c->c≠b)/\∀p∈X.pn++pins,p.1≠b
theorem Inv.fpOk(I:Inv X pins σ H s)(hb:s.heap.objs.size<=b)(hn:H' b=none):ZeR X pins H' b:=by
 refine⟨hn,aQ (aj I.lt hb),I.nofs hb,.inr (aU I.sz hb),λx c e z=>?_,λp hp z=>?_⟩
 .obtain⟨v,q⟩:=I.cell x c e;exact absurd (aj q.lt (by rw[z];exact hb)) (b9 _)
 .exact absurd (aj (Hz (I.pin p hp).1) (by rw[z];exact hb)) (b9 _)
structure Turn(P:cB) (w:cO) (K:Fg) (B:cZ) (tg:Expr) (J:It) (fp:List Addr) (it:Addr) (tn:Nat->Heap->Prop):Prop where
 mem:it∈fp
 obj:∀i h,tn i h->∀b∈fp,∃o,h.get? b=some o/\∀v,o.data≠ .cell v
 keep:∀i h h',tn i h->(∀b∈fp,∀o,h.get? b=some o->h'.get? b=some o)->tn i h'
 item:∀(X:Cx),X.prog=P->X.w=w->X.K=K->X.A=B->∀(i:Nat)(pins:Pn)(s:aH)(σ:St)(H:Hp)(E:Vp),Inv X pins σ H s->(∀b∈fp,ZeR X pins H b)->tn i s.heap->J.go i H->
  wpAny (aE P w) X.A (fj (.ref it)) (λr s1=>∃u,r=some u/\ wpAny (aE P w) X.A (f9 tg (.ref it) u) (λ_ s2=>∃x H',Inv X pins σ H' s2/\ZT x u/\J.yld i H x H'/\tn (i+1) s2.heap/\∀b∈fp,H' b=none) E s1) E s
 done:∀(X:Cx),X.prog=P->X.w=w->X.K=K->X.A=B->∀(i:Nat)(pins:Pn)(s:aH)(σ:St)(H:Hp)(E:Vp),Inv X pins σ H s->(∀b∈fp,ZeR X pins H b)->tn i s.heap->J.stop i H->
  wpAny (aE P w) X.A (fj (.ref it)) (λr s1=>r=none/\Inv X pins σ H s1) E s
 self:∀(A:cZ)(i:Nat)(s:aH)(Q:Vp)(E:Vp),tn i s.heap->Q (.ref it) s->wpAny (aE P w) A (pyIter (.ref it)) Q E s
abbrev TI:=St->Hp->(It->Hp->Prop)->Prop
def PIE(X:Cx)(pins:Pn)(σ:St)(tg:Expr)(R:It->Hp->Prop)(itv:aa)(s2:aH):Prop:=
 ∃(it:Addr) (fp:List Addr) (tn:Nat->Heap->Prop) (J:It) (H':Hp),itv=.ref it/\Inv X pins σ H' s2/\Turn X.prog X.w X.K X.A tg J fp it tn/\tn 0 s2.heap/\(∀b∈fp,ZeR X pins H' b)/\R J H'
def PI(X:Cx)(tg iter:Expr)(wi:TI):Prop:=
 ∀(pins:Pn)(s:aH)(σ:St)(H:Hp)(R:It->Hp->Prop),Inv X pins σ H s->wi σ H R->
  wpAny (aE X.prog X.w) X.A (eval iter X.env) (λv s1=>wpAny (aE X.prog X.w) X.A (pyIter v) (PIE X pins σ tg R) X.xe s1) X.xe s
theorem ZjW(ho:s.heap.get? it=some o)(hc:o.cls=.type n)(hd:o.data=.fields vs)(hn:["enumerate","zip","dict_itemiterator","dict_reverseitemiterator","odict_iterator","itertools.zip_longest","itertools.pairwise"].contains n=false)(hQ:Q () s):wpAny M A (f9 tg (.ref it) u) Q E s:=by
 unfold f9;cases tg<;>first
  |exact Wp hQ
  | (cases u<;>first
    |exact Wp hQ
    | (refine Wb (wpAny_load ho ?_)
       rw[hc,hd];show wpAny M A (if(["enumerate","zip","dict_itemiterator","dict_reverseitemiterator","odict_iterator","itertools.zip_longest","itertools.pairwise"].contains n&&vs[0]? == some (cT _))=true then _ else _) Q E s
       rw[if_neg (by intro h;rw[hn,Bool.false_and]at h;cases h)]
       exact Wp hQ))
def Itl(K:Fg)(a:Addr):It:=
 ⟨λi H=>∃xs x,SqL K H a xs/\xs[i]?=some x,λi H x H'=>H'=H/\∀xs,SqL K H a xs->xs[i]?=some x,λi H=>∃xs,SqL K H a xs/\xs.length<=i⟩
def Itt(K:Fg)(a:Addr):It:=
 ⟨λi H=>∃xs x,SqT K H a xs/\xs[i]?=some x,λi H x H'=>H'=H/\∀xs,SqT K H a xs->xs[i]?=some x,λi H=>∃xs,SqT K H a xs/\xs.length<=i⟩
noncomputable def Itr(lo:Int)(n:Nat):It:=⟨λi _=>i<n,λi H x H'=>H'=H/\x=.int (lo+i),λi _=>n<=i⟩
theorem Zhf{K:Fg}(a it:Addr):Turn P w K B tg (Itl K a) [it] it (λi h=>h.IsListIter it a i) where
 mem:=by simp
 obj:=λi h st b hb=>by
  have e:b=it:=by simpa using hb
  subst e;obtain⟨o,e,c,d⟩:=st;exact⟨o,e,λv z=>by rw[d]at z;cases z⟩
 keep:=λi h h' st k=>st.at λo e=>k it (by simp) o e
 item:=by
  intro X hP hw hK hB i pins s σ H E I hf st hg;subst hP hw hK;obtain⟨xs,x,hq,hx⟩:=hg;obtain⟨its,rv,p,hz⟩:=I.list hq;obtain⟨u,hu,ru⟩:=rv.get hx;obtain⟨f0,f1,f2,f3,f4,f5⟩:=hf it (by simp)
  refine jR st p.isList (x:=u) (by simpa using hu) λh' st' sb=>?_
  have I1:Inv X pins σ H {s with heap:=h'}:=I.turned (t':=s.toks) (λb o hb e=>(sb.2 b hb).trans e) f0 f1 f3 f4 f5;obtain⟨o,e,c,d⟩:=id st';exact⟨u,rfl,ZjW (s:={s with heap:=h'}) e c d (by decide) ⟨x,H,I1,ru,⟨rfl,λys hy=>by rw[I.list_inj hy hq];exact hx⟩,st',λb hb=>(hf b hb).1⟩⟩
 done:=by
  intro X hP hw hK hB i pins s σ H E I hf st hg;subst hP hw hK;obtain⟨xs,hq,hx⟩:=hg;obtain⟨its,rv,p,hz⟩:=I.list hq;obtain⟨f0,f1,f2,f3,f4,f5⟩:=hf it (by simp)
  have hl:=rv.length;exact DQ.ZjR I.qh st p.isList (by simp;lia) λh' eb=>⟨rfl,I.turned (t':=s.toks) (λb o hb e=>eb b o hb e) f0 f1 f3 f4 f5⟩
 self:=λ_ _ _ _ _ st h=>wpAny_pyIter_listiter st h
theorem ZgG{K:Fg}(a it:Addr):Turn P w K B tg (Itt K a) [it] it (λi h=>h.IsTupleIter it a i) where
 mem:=by simp
 obj:=λi h st b hb=>by
  have e:b=it:=by simpa using hb
  subst e;obtain⟨o,e,c,d⟩:=st;exact⟨o,e,λv z=>by rw[d]at z;cases z⟩
 keep:=λi h h' st k=>st.at λo e=>k it (by simp) o e
 item:=by
  intro X hP hw hK hB i pins s σ H E I hf st hg;subst hP hw hK;obtain⟨xs,x,hq,hx⟩:=hg;obtain⟨its,rv,p,hz⟩:=I.tuple hq;obtain⟨u,hu,ru⟩:=rv.get hx;obtain⟨f0,f1,f2,f3,f4,f5⟩:=hf it (by simp)
  refine wpAny_pyNext_tuple_item st (show s.heap.IsTuple a its.toArray from p) (x:=u) (by simpa using hu) λh' st' sb=>?_
  have I1:Inv X pins σ H {s with heap:=h'}:=I.turned (t':=s.toks) (λb o hb e=>(sb.2 b hb).trans e) f0 f1 f3 f4 f5;obtain⟨o,e,c,d⟩:=id st';exact⟨u,rfl,ZjW (s:={s with heap:=h'}) e c d (by decide) ⟨x,H,I1,ru,⟨rfl,λys hy=>by rw[I.tuple_inj hy hq];exact hx⟩,st',λb hb=>(hf b hb).1⟩⟩
 done:=by
  intro X hP hw hK hB i pins s σ H E I hf st hg;subst hP hw hK;obtain⟨xs,hq,hx⟩:=hg;obtain⟨its,rv,p,hz⟩:=I.tuple hq;obtain⟨f0,f1,f2,f3,f4,f5⟩:=hf it (by simp)
  have hl:=rv.length;exact DQ.Zg6 I.qh st (show s.heap.IsTuple a its.toArray from p) (by simp;lia) λh' eb=>⟨rfl,I.turned (t':=s.toks) (λb o hb e=>eb b o hb e) f0 f1 f3 f4 f5⟩
 self:=λ_ _ _ _ _ st h=>wpAny_pyIter_tupleiter st h
theorem ZgH{K:Fg}(it:Addr)(lo:Int)(n:Nat):Turn P w K B tg (Itr lo n) [it] it (λi h=>gp h it (lo+(i:Nat)*1) ((n:Int)-(i:Nat)) 1) where
 mem:=by simp
 obj:=λi h st b hb=>by
  have e:b=it:=by simpa using hb
  subst e;exact⟨_,st,λv z=>by
   have z':ku _=Data.cell v:=z;cases z'⟩
 keep:=λi h h' st k=>k it (by simp) _ st
 item:=by
  intro X hP hw hK hB i pins s σ H E I hf st hg;subst hP hw hK;obtain⟨f0,f1,f2,f3,f4,f5⟩:=hf it (by simp)
  have hlt:i<n:=hg;refine jD st ⋯ λh' st' sb=>?_
  have I1:Inv X pins σ H {s with heap:=h',toks:=s.toks+1}:=I.turned (λb o hb e=>(sb.2 b hb).trans e) f0 f1 f3 f4 f5;have st2:gp h' it (lo+((i+1:Nat):Int)*1) ((n:Int)-((i+1:Nat):Int)) 1:=by
   have e1:lo+((i+1:Nat):Int)*1=lo+(i:Nat)*1+1:=⋯
   have e2:(n:Int)-((i+1:Nat):Int)=(n:Int)-(i:Nat)-1:=⋯
   rw[e1,e2];exact st'
  refine⟨_,rfl,ZjW (s:={s with heap:=h',toks:=s.toks+1}) (n:="range_iterator") st2 rfl rfl (by decide) ⟨.int (lo+i),H,I1,⟨s.toks,?_⟩,⟨rfl,rfl⟩,st2,λb hb=>(hf b hb).1⟩⟩
  rw[Int.mul_one]
 done:=by
  intro X hP hw hK hB i pins s σ H E I hf st hg;subst hP hw hK;obtain⟨f0,f1,f2,f3,f4,f5⟩:=hf it (by simp)
  exact DQ.Zd0 I.qh st (by have:n<=i:=hg;lia) λh' eb=>⟨rfl,I.turned (t':=s.toks) (λb o hb e=>eb b o hb e) f0 f1 f3 f4 f5⟩
 self:=λ_ _ _ _ _ st h=>jS st h
theorem ZfG{lo:Int}(I:Inv X pins σ H s)(h1: -(2^62)<=lo)(h2:lo<2^62)(h3: -(2^62)<=hi)(h4:hi<2^62)(q:R (Itr lo (hi-lo).toNat) H):wpAny (aE X.prog X.w) X.A (pyIter (.ref s.heap.objs.size)) (PIE X pins σ tg R) E {s with heap:=s.heap.push {cls:=.type "range",data:=.fields #[.int lo t,.int hi u,.int 1 v]},toks:=tk}:=by
 refine wpAny_pyIter_range (IsRange.new ..) (small_one h1 h2 h3 h4) ?_;have I1:Inv X pins σ H {s with heap:=s.heap.push {cls:=.type "range",data:=.fields #[.int lo t,.int hi u,.int 1 v]},toks:=tk}:=I.kept λb o e=>Hq _ e;refine⟨(s.heap.push {cls:=.type "range",data:=.fields #[.int lo t,.int hi u,.int 1 v]}).objs.size,[(s.heap.push {cls:=.type "range",data:=.fields #[.int lo t,.int hi u,.int 1 v]}).objs.size],_,_,H,rfl,I1.kept (t':=tk) λb o e=>Hq _ e,ZgH _ lo (hi-lo).toNat,?_,λb hb=>?_,q⟩
 .have e1:lo+((0:Nat):Int)*1=lo:=by simp
  have e2:(((hi-lo).toNat:Nat):Int)-((0:Nat):Int)=eJ lo hi 1:=by rw[rangeSize_one];split<;>lia
  show gp _ _ (lo+((0:Nat):Int)*1) ((((hi-lo).toNat:Nat):Int)-((0:Nat):Int)) 1;rw[e1,e2];exact aF _ rfl
 .have e:b=(s.heap.push {cls:=.type "range",data:=.fields #[.int lo t,.int hi u,.int 1 v]}).objs.size:=by simpa using hb
  subst e;exact I1.fpOk (ae _) (I1.hok.fresh (ae _))
def Zr9(ta:TA):TI:=λσ H R=>ta σ H λvs H1=>∃j:Int,vs=[.int j]/\ -(2^62)<=j/\j<2^62/\R (Itr 0 j.toNat) H1
def Zsa(ta:TA):TI:=λσ H R=>ta σ H λvs H1=>∃i j:Int,vs=[.int i,.int j]/\(-(2^62)<=i/\i<2^62/\ -(2^62)<=j/\j<2^62)/\R (Itr i (j-i).toNat) H1
theorem Zd2(hg:Gl X "range")(hm:X.mg "range"=none)(ha:PA X [a] ta)(hs:autoParam (aA [a] X.env=[(false,eval a X.env)]) Qrf._auto_1):PI X tg (.Call (.Name "range" p) [a] [] pos) (Zr9 ta):=by
 intro pins s σ H R I h;refine Call_ (Zbs I hg hm boot_range (bY (thn (ha pos pins s σ H _ I h) λus s1 hz=>?_) hs rfl));obtain⟨vs,H1,I1,r1,q1⟩:=hz;obtain⟨j,e,q1,q2,q⟩:=q1;subst e;cases r1 with
 |cons r rr=>
  cases rr;obtain⟨t,rfl⟩:=r;exact call_range_1 (ZfG I1 ⋯ ⋯ q1 q2 (by simpa using q))
theorem Zhg(hg:Gl X "range")(hm:X.mg "range"=none)(ha:PA X [a,b] ta)(hs:autoParam (aA [a,b] X.env=[(false,eval a X.env),(false,eval b X.env)]) Qrf._auto_1)(hs2:autoParam (aA [b] X.env=[(false,eval b X.env)]) Qrf._auto_1) :
  PI X tg (.Call (.Name "range" p) [a,b] [] pos) (Zsa ta):=by
 intro pins s σ H R I h;refine Call_ (Zbs I hg hm boot_range (bY (thn (ha pos pins s σ H _ I h) λus s1 hz=>?_) (by rw[hs,hs2]) (by rw[hs2];rfl)))
 obtain⟨vs,H1,I1,r1,q1⟩:=hz;obtain⟨i,j,e,⟨q1,q2,q3,q4⟩,q⟩:=q1;subst e;cases r1 with
 |cons r rr=>
  cases rr with
  |cons r' rr=>
   cases rr;obtain⟨t,rfl⟩:=r;obtain⟨t',rfl⟩:=r';exact call_range_2 (ZfG I1 q1 q2 q3 q4 q)
def Zvx(wi:TI)(g:TG)(tb:TS):TS:=λD σ H=>wi σ H λJ H1=>∃W:Nat->Nat->St->Hp->Prop,(∃m,W 0 m σ H1)/\∀i m σ H,W i m σ H->
 (J.stop i H/\D.nx σ H)\/(J.go i H/\∃N:St->Hp->Prop,(∀σ' H',N σ' H'->∃m',m'<m/\W (i+1) m' σ' H')/\∀x H',J.yld i H x H'->g x σ H' λσ2 H2=>tb {D with nx:=N,ct:=N,bk:=D.nx} σ2 H2)
noncomputable def Zde(fp:List Addr)(h:Heap):Pn:=fp.filterMap λb=>(h.get? b).map λo=>(b,o)
theorem Zbn(hb:b∈fp)(e:h.get? b=some o):(b,o)∈Zde fp h:=List.mem_filterMap.mpr ⟨b,hb,by rw[e];rfl⟩
theorem Zhh(hp:p∈Zde fp h):p.1∈fp/\h.get? p.1=some p.2:=by
 obtain⟨b,hb,e⟩:=List.mem_filterMap.mp hp;cases q:h.get? b with
 |none=>rw[q]at e;cases e
 |some o=>
  rw[q]at e;have e':(b,o)=p:=aO e;subst e';exact⟨hb,q⟩
theorem Inv.pinned(I:Inv X pins σ H s)(hf:∀b∈fp,ZeR X pins H b)(ho:∀b∈fp,∃o,s.heap.get? b=some o/\∀v,o.data≠ .cell v):Inv X (pins++Zde fp s.heap) σ H s:=
 I.pins_of λp hp=>(bZ.mp hp).elim (λz=>I.pin p (aW _ z)) λz=>by
  obtain⟨hb,e⟩:=Zhh z;obtain⟨f0,f1,f2,_⟩:=hf p.1 hb;obtain⟨o,e',d⟩:=ho p.1 hb;rw[e]at e';cases e';exact⟨e,f0,f1,f2,d⟩
theorem Inv.unpinned(I:Inv X (pins++pl) σ H s):Inv X pins σ H s:=I.pins_of λp hp=>I.pin p (aW _ (hW _ hp))
theorem Zhi(hp:fE (aE X.prog X.w) X.A X.env X.xe)(hi:PI X tg iter wi)(hg:PG X tg g)(hb:PSs X body tb)(hs:autoParam (∀x,foldedSetIterable iter X.env x=pure x) Qin._auto_1):PS X (.For tg iter body [] pos) (Zvx wi g tb):=by
 intro pins s σ H D I h;refine wpAny_For (thn (hi pins s σ H _ I h) λv s1 h1=>thn h1 λitv s2 h2=>?_) hs;obtain⟨it,fp,tn,J,H2,e,I2,T,st2,f2,W,⟨m0,w0⟩,turn⟩:=h2;subst e;have stat:∀{H':Hp},(∀b∈fp,H' b=none)->∀b∈fp,ZeR X pins H' b:=λhn b hb=>⟨hn b hb,(f2 b hb).2⟩;refine codeAny_forLoop_any (λn s'=>∃i σ' H',Inv X pins σ' H' s'/\tn i s'.heap/\(∀b∈fp,H' b=none)/\W i n σ' H') ?_ m0 ⟨0,σ,H2,I2,st2,λb hb=>(f2 b hb).1,w0⟩;rintro n s3 ⟨i,σ3,H3,I3,st3,fr3,w3⟩;rcases turn i n σ3 H3 w3 with⟨stop,qn⟩|⟨go,N,hN,step⟩
 .refine dP hp (thn (T.done X rfl rfl rfl rfl i pins s3 σ3 H3 X.xe I3 (stat fr3) st3 stop) λr s4 hz=>?_);obtain⟨hr,I4⟩:=hz;subst hr;exact io ⟨σ3,H3,I4,qn⟩
 .refine dP hp (thn (T.item X rfl rfl rfl rfl i pins s3 σ3 H3 X.xe I3 (stat fr3) st3 go) λr s4 hz=>?_);obtain⟨u,hr,h4⟩:=hz;subst hr;refine dP hp (thn h4 λ_ s5 hz=>?_);obtain⟨x,H5,I5,r5,y5,st5,fr5⟩:=hz;have I5':=I5.pinned (stat fr5) (T.obj _ _ st5);refine dP hp (thn (hg _ s5 σ3 H5 x u _ I5' r5 (step x H5 y5)) λ_ s6 hz=>?_);obtain⟨σ6,H6,I6,q6⟩:=hz;refine dP hp (thn (hb _ s6 σ6 H6 _ I6 q6) λf s7 q7=>?_);have again:∀{σ7:St}{H7:Hp},Inv X (pins++Zde fp s5.heap) σ7 H7 s7->N σ7 H7->∃m,m<n/\∃i σ' H',Inv X pins σ' H' s7/\tn i s7.heap/\(∀b∈fp,H' b=none)/\W i m σ' H':=λ{σ7 H7} I7 n7=>by
   obtain⟨m',hm,w7⟩:=hN σ7 H7 n7;refine⟨m',hm,i+1,σ7,H7,I7.unpinned,T.keep _ _ _ st5 λb hb o e=>(I7.pin (b,o) (aW _ (aW _ (Zbn hb e)))).1,λb hb=>?_,w7⟩;obtain⟨o,e,d⟩:=T.obj _ _ st5 b hb;exact(I7.pin (b,o) (aW _ (aW _ (Zbn hb e)))).2.1
  cases f with
  |next=>obtain⟨σ7,H7,I7,n7⟩:=q7;exact again I7 n7
  |cont=>obtain⟨σ7,H7,I7,n7⟩:=q7;exact again I7 n7
  |brk=>obtain⟨σ7,H7,I7,q7⟩:=q7;exact⟨σ7,H7,I7.unpinned,q7⟩
  |ret v=>obtain⟨x7,σ7,H7,I7,r7,q7⟩:=q7;exact⟨x7,σ7,H7,I7.unpinned,r7,q7⟩
theorem ZjX{K:Fg}{g:TG}{tb:TS}{D:Ends}(Pv:Nat->St->Hp->Prop)(h0:Pv 0 σ H)(hl:∀i σ H,i<=xs.length->Pv i σ H->SqL K H a xs)(hs:∀i x σ H,xs[i]?=some x->Pv i σ H->g x σ H λσ2 H2=>tb {D with nx:=Pv (i+1),ct:=Pv (i+1),bk:=D.nx} σ2 H2)(hd:∀σ H,Pv xs.length σ H->D.nx σ H):∃W:Nat->Nat->St->Hp->Prop,(∃m,W 0 m σ H)/\∀i m σ H,W i m σ H->((Itl K a).stop i H/\D.nx σ H)\/((Itl K a).go i H/\∃N:St->Hp->Prop,(∀σ' H',N σ' H'->∃m',m'<m/\W (i+1) m' σ' H')/\∀x H',(Itl K a).yld i H x H'->g x σ H' λσ2 H2=>tb {D with nx:=N,ct:=N,bk:=D.nx} σ2 H2):=by
 refine⟨λi m σ H=>m=xs.length-i/\i<=xs.length/\Pv i σ H,⟨xs.length,by simp,dB _,h0⟩,?_⟩
 rintro i m σ H ⟨rfl,hi,p⟩;have q:=hl i σ H hi p;by_cases hlt:i<xs.length
 .refine .inr ⟨⟨xs,xs[i],q,by simp[hlt]⟩,Pv (i+1),λσ' H' p'=>⟨xs.length-(i+1),⋯,rfl,hlt,p'⟩,λx H' y=>?_⟩
  obtain⟨e,y⟩:=y;subst e;exact hs i x σ _ (y xs q) p
 .have e:i=xs.length:=⋯
  subst e;exact .inl ⟨⟨xs,q,ae _⟩,hd σ H p⟩
theorem Zl8{K:Fg}{g:TG}{tb:TS}{D:Ends}(Pv:Nat->St->Hp->Prop)(h0:Pv 0 σ H)(hl:∀i σ H,i<=xs.length->Pv i σ H->SqT K H a xs)(hs:∀i x σ H,xs[i]?=some x->Pv i σ H->g x σ H λσ2 H2=>tb {D with nx:=Pv (i+1),ct:=Pv (i+1),bk:=D.nx} σ2 H2)(hd:∀σ H,Pv xs.length σ H->D.nx σ H):∃W:Nat->Nat->St->Hp->Prop,(∃m,W 0 m σ H)/\∀i m σ H,W i m σ H->((Itt K a).stop i H/\D.nx σ H)\/((Itt K a).go i H/\∃N:St->Hp->Prop,(∀σ' H',N σ' H'->∃m',m'<m/\W (i+1) m' σ' H')/\∀x H',(Itt K a).yld i H x H'->g x σ H' λσ2 H2=>tb {D with nx:=N,ct:=N,bk:=D.nx} σ2 H2):=by
 refine⟨λi m σ H=>m=xs.length-i/\i<=xs.length/\Pv i σ H,⟨xs.length,by simp,dB _,h0⟩,?_⟩
 rintro i m σ H ⟨rfl,hi,p⟩;have q:=hl i σ H hi p;by_cases hlt:i<xs.length
 .refine .inr ⟨⟨xs,xs[i],q,by simp[hlt]⟩,Pv (i+1),λσ' H' p'=>⟨xs.length-(i+1),⋯,rfl,hlt,p'⟩,λx H' y=>?_⟩
  obtain⟨e,y⟩:=y;subst e;exact hs i x σ _ (y xs q) p
 .have e:i=xs.length:=⋯
  subst e;exact .inl ⟨⟨xs,q,ae _⟩,hd σ H p⟩
theorem Zhj{lo:Int}{g:TG}{tb:TS}{D:Ends}(Pv:Nat->St->Hp->Prop)(h0:Pv 0 σ H)(hs:∀i σ H,i<n->Pv i σ H->g (.int (lo+i)) σ H λσ2 H2=>tb {D with nx:=Pv (i+1),ct:=Pv (i+1),bk:=D.nx} σ2 H2)(hd:∀σ H,Pv n σ H->D.nx σ H):∃W:Nat->Nat->St->Hp->Prop,(∃m,W 0 m σ H)/\∀i m σ H,W i m σ H->((Itr lo n).stop i H/\D.nx σ H)\/((Itr lo n).go i H/\∃N:St->Hp->Prop,(∀σ' H',N σ' H'->∃m',m'<m/\W (i+1) m' σ' H')/\∀x H',(Itr lo n).yld i H x H'->g x σ H' λσ2 H2=>tb {D with nx:=N,ct:=N,bk:=D.nx} σ2 H2):=by
 refine⟨λi m σ H=>m=n-i/\i<=n/\Pv i σ H,⟨n,by simp,dB _,h0⟩,?_⟩
 rintro i m σ H ⟨rfl,hi,p⟩;by_cases hlt:i<n
 .refine .inr ⟨hlt,Pv (i+1),λσ' H' p'=>⟨n-(i+1),⋯,rfl,hlt,p'⟩,λx H' y=>?_⟩
  obtain⟨e,y⟩:=y;subst e y;exact hs i σ _ hlt p
 .have e:i=n:=⋯
  subst e;exact .inl ⟨ae _,hd σ H p⟩
abbrev R2:=V->V->Hp->VK->Prop
def OpR(X:Cx)(f:aa->aa->Sem aa)(r:R2):Prop:=
 ∀(pins:Pn)(s:aH)(σ:St)(H:Hp)(x y:V)(v u:aa)(Q:VK),Inv X pins σ H s->ZT x v->ZT y u->r x y H Q->
  wpAny (aE X.prog X.w) X.A (f v u) (EP X pins σ Q) X.xe s
def UnR(X:Cx)(f:aa->Sem aa)(r:V->Hp->VK->Prop):Prop:=
 ∀(pins:Pn)(s:aH)(σ:St)(H:Hp)(x:V)(v:aa)(Q:VK),Inv X pins σ H s->ZT x v->r x H Q->
  wpAny (aE X.prog X.w) X.A (f v) (EP X pins σ Q) X.xe s
def Zbq(X:Cx)(f:aa)(r:List V->Hp->VK->Prop):Prop:=
 ∀(pins:Pn)(s:aH)(σ:St)(H:Hp)(xs:List V)(us:List aa)(Q:VK),Inv X pins σ H s->ZU xs us->r xs H Q->
  wpAny (aE X.prog X.w) X.A (call f us) (EP X pins σ Q) X.xe s
noncomputable def tOp(r:R2)(ta tb:TE):TE:=λσ H Q=>ta σ H λx H1=>tb σ H1 λy H2=>r x y H2 Q
noncomputable def tUn(r:V->Hp->VK->Prop)(ta:TE):TE:=λσ H Q=>ta σ H λx H1=>r x H1 Q
noncomputable def rI(C:Int->Int->Prop)(g:Int->Int->V):R2:=λx y H Q=>∃i j,x=.int i/\y=.int j/\C i j/\Q (g i j) H
noncomputable def rI0(g:Int->Int->V):R2:=λx y H Q=>∃i j,x=.int i/\y=.int j/\Q (g i j) H
noncomputable def rU(g:Int->V):V->Hp->VK->Prop:=λx H Q=>∃i,x=.int i/\Q (g i) H
theorem Zsb(ha:PE X a ta)(hb:PE X b tb){R:V->V->Hp->Prop}(I:Inv X pins σ H s)(h:ta σ H λx H1=>tb σ H1 λy H2=>R x y H2){f:aa->aa->Sem aa}(hf:∀v u s2 x y H2,Inv X pins σ H2 s2->ZT x v->ZT y u->R x y H2->wpAny (aE X.prog X.w) X.A (f v u) Q X.xe s2):wpAny (aE X.prog X.w) X.A (eval a X.env) (λv s₁=>wpAny (aE X.prog X.w) X.A (eval b X.env) (λu s₂=>wpAny (aE X.prog X.w) X.A (f v u) Q X.xe s₂) X.xe s₁) X.xe s:=by
 refine thn (ha pins s σ H _ I h) λv s1 hz=>?_;obtain⟨x,H1,I1,r1,q1⟩:=hz;refine thn (hb pins s1 σ H1 _ I1 q1) λu s2 hz=>?_;obtain⟨y,H2,I2,r2,q2⟩:=hz;exact hf v u s2 x y H2 I2 r1 r2 q2
theorem Zsc(ho:OpR X (eU op) r)(ha:PE X a ta)(hb:PE X b tb):PE X (.BinOp a op b pos) (tOp r ta tb):=by
 intro pins s σ H Q I h;exact wpAny_BinOp (Zsb ha hb I h λv u s2 x y H2 I2 rx ry q=>ho pins s2 σ H2 x y v u Q I2 rx ry q)
theorem Zsd(ho:UnR X (unaryOp op) r)(ha:PE X a ta):PE X (.UnaryOp op a pos) (tUn r ta):=by
 intro pins s σ H Q I h;exact UnaryOp_ (thn (ha pins s σ H _ I h) λv s1 ⟨x,H1,I1,r1,q1⟩=>ho pins s1 σ H1 x v Q I1 r1 q1)
theorem opI{g:Int->Int->Int}(rule:∀(i j:Int)(t u:Tok)(s:aH)(Q:Vp)(E:Vp),C i j->Q (.int (g i j) s.toks) {s with toks:=s.toks+1}->wpAny (aE X.prog X.w) X.A (f (.int i t) (.int j u)) Q E s):OpR X f (rI C λi j=>.int (g i j)):=by
 intro pins s σ H x y v u Q I rx ry h;obtain⟨i,j,rfl,rfl,hc,q⟩:=h;obtain⟨t,rfl⟩:=rx;obtain⟨t',rfl⟩:=ry;exact rule i j t t' s _ _ hc ⟨.int (g i j),H,I.tok _,⟨_,rfl⟩,q⟩
theorem Zut{g:Int->Int->Int}(rule:∀(i j:Int)(t u:Tok)(s:aH)(Q:Vp)(E:Vp),Q (.int (g i j) s.toks) {s with toks:=s.toks+1}->wpAny (aE X.prog X.w) X.A (f (.int i t) (.int j u)) Q E s):OpR X f (rI0 λi j=>.int (g i j)):=by
 intro pins s σ H x y v u Q I rx ry h;obtain⟨i,j,rfl,rfl,q⟩:=h;obtain⟨t,rfl⟩:=rx;obtain⟨t',rfl⟩:=ry;exact rule i j t t' s _ _ ⟨.int (g i j),H,I.tok _,⟨_,rfl⟩,q⟩
theorem ZrM{g:Int->Int->Bool}(rule:∀(i j:Int)(t u:Tok)(s:aH)(Q:Vp)(E:Vp),Q (.bool (g i j)) s->wpAny (aE X.prog X.w) X.A (f (.int i t) (.int j u)) Q E s):OpR X f (rI0 λi j=>.bl (g i j)):=by
 intro pins s σ H x y v u Q I rx ry h;obtain⟨i,j,rfl,rfl,q⟩:=h;obtain⟨t,rfl⟩:=rx;obtain⟨t',rfl⟩:=ry;exact rule i j t t' s _ _ ⟨.bl (g i j),H,I,rfl,q⟩
noncomputable def Zuu(i j:Int):Prop:=0<=j/\j<=1000000/\i.natAbs<2^64
theorem ZoJ:OpR X (eU .Add) (rI0 λi j=>.int (i+j)):=Zut λ_ _ _ _ _ _ _ q=>add_int q
theorem ZoK:OpR X (eU .Sub) (rI0 λi j=>.int (i-j)):=Zut λ_ _ _ _ _ _ _ q=>sub_int q
theorem Zl9:OpR X (eU .Mod) (rI (λ_ j=>j≠0) λi j=>.int (i.fmod j)):=opI λ_ _ _ _ _ _ _ hc q=>mod_int' hc q
theorem ZoL:OpR X (eU .Pow) (rI Zuu λi j=>.int (i^j.toNat)):=opI λ_ _ _ _ _ _ _ hc q=>pow_int_small hc.1 hc.2.1 hc.2.2 q
theorem unI{g:Int->Int}(rule:∀(i:Int)(t:Tok)(s:aH)(Q:Vp)(E:Vp),Q (.int (g i) s.toks) {s with toks:=s.toks+1}->wpAny (aE X.prog X.w) X.A (f (.int i t)) Q E s):UnR X f (rU λi=>.int (g i)):=by
 intro pins s σ H x v Q I rx h;obtain⟨i,rfl,q⟩:=h;obtain⟨t,rfl⟩:=rx;exact rule i t s _ _ ⟨.int (g i),H,I.tok _,⟨_,rfl⟩,q⟩
theorem ZoM:UnR X (unaryOp .USub) (rU λi=>.int (-i)):=unI λ_ _ _ _ _ q=>neg_int q
theorem ZeW:OpR X (dE .Lt) (rI0 λi j=>.bl (decide (i<j))):=ZrM λ_ _ _ _ _ _ _ q=>lt_int q
theorem Zma:OpR X (dE .LtE) (rI0 λi j=>.bl (decide (i<=j))):=ZrM λ_ _ _ _ _ _ _ q=>le_int q
theorem ZgI:OpR X (dE .Gt) (rI0 λi j=>.bl (decide (j<i))):=ZrM λ_ _ _ _ _ _ _ q=>gt_int q
theorem Zse:OpR X (dE .GtE) (rI0 λi j=>.bl (decide (j<=i))):=ZrM λ_ _ _ _ _ _ _ q=>ge_int q
theorem OpR.or(h:OpR X f r)(h':OpR X f r'):OpR X f (λx y H Q=>r x y H Q\/r' x y H Q):=by
 intro pins s σ H x y v u Q I rx ry q;rcases q with q|q
 .exact h pins s σ H x y v u Q I rx ry q
 .exact h' pins s σ H x y v u Q I rx ry q
theorem Zla(b:Expr)(h:autoParam (op≠ .In) Qde._auto_1)(h2:autoParam (op≠ .NotIn) Qde._auto_1):fX op b=false:=by
 have e1:(op==CmpOp.In)=false:=by cases op<;>first|rfl|exact absurd rfl h
 have e2:(op==CmpOp.NotIn)=false:=by cases op<;>first|rfl|exact absurd rfl h2
 cases b<;>simp[fX,e1,e2]
theorem Zmb(ho:OpR X (dE op) r)(ha:PE X a ta)(hb:PE X b tb)(hm:fX op b=false):PE X (.Compare a [op] [b] pos) (tOp r ta tb):=by
 intro pins s σ H Q I h;exact wpAny_Compare1 (Zsb ha hb I h λv u s2 x y H2 I2 rx ry q=>ho pins s2 σ H2 x y v u Q I2 rx ry q) hm
noncomputable def ZoN(t:TE):TT:=λσ H Q=>t σ H λx H'=>∃k,x=.bl k/\Q k H'
theorem Zmc(ho:OpR X (dE op) r)(ha:PE X a ta)(hb:PE X b tb)(hm:fX op b=false):PT X (.Compare a [op] [b] pos) (ZoN (tOp r ta tb)):=by
 intro pins s σ H Q I h;refine wpAny_isTrue_Compare1 (thn (ha pins s σ H _ I h) λv s1 ⟨x,H1,I1,r1,q1⟩=>thn (hb pins s1 σ H1 _ I1 q1) λu s2 ⟨y,H2,I2,r2,q2⟩=>thn (ho pins s2 σ H2 x y v u _ I2 r1 r2 q2) λc s3 ⟨z,H3,I3,r3,k,e,q3⟩=>?_) hm
 subst e;cases r3;exact dY ⟨H3,I3,q3⟩
theorem ZfH:(sizeLine:Nat)<2^63:=by rw[df];decide
theorem ZgJ:OpR X (eU .Add) (λx y H Q=>∃i j,x=.str i/\y=.str j/\i.length+j.length<=sizeLine/\Q (.str (i++j)) H):=by
 intro pins s σ H x y v u Q I rx ry h;obtain⟨i,j,rfl,rfl,hz,q⟩:=h;obtain⟨t,rfl⟩:=rx;obtain⟨t',rfl⟩:=ry;exact add_str (λt' tk=>⟨.str (i++j),H,I.tok _,⟨_,rfl⟩,q⟩) hz
theorem Zck(r:ZU [x] us):∃u,us=[u]/\ZT x u:=by
 cases r with
 |cons r1 r2=>cases r2;exact⟨_,rfl,r1⟩
theorem ZjY(r:ZU [x,y] us):∃u w',us=[u,w']/\ZT x u/\ZT y w':=by
 cases r with
 |cons r1 r2=>
  cases r2 with
  |cons r3 r4=>cases r4;exact⟨_,_,rfl,r1,r3⟩
theorem Zak:Zbq X (.builtin "abs") (λxs H Q=>∃i,xs=[.int i]/\Q (.int (if i<0 then -i else i)) H):=by
 intro pins s σ H xs us Q I r h;obtain⟨i,rfl,q⟩:=h;obtain⟨u,rfl,t,rfl⟩:=Zck r;exact call_abs_int λu tk=>⟨.int (if i<0 then -i else i),H,I.tok _,⟨_,rfl⟩,q⟩
theorem Zhk(hc:X.calm=true):Zbq X (.builtin "max") (λxs H Q=>∃i j,xs=[.int i,.int j]/\Q (.int (if j>i then j else i)) H):=by
 intro pins s σ H xs us Q I r h;obtain⟨i,j,rfl,q⟩:=h;obtain⟨u,w',rfl,⟨t,rfl⟩,⟨t',rfl⟩⟩:=ZjY r;refine max_two_ints (I.ok.hd hc) λh' tk k=>⟨_,H,I.kept k,?_,q⟩;by_cases hj:j>i
 .rw[if_pos hj,if_pos hj];exact⟨_,rfl⟩
 .rw[if_neg hj,if_neg hj];exact⟨_,rfl⟩
theorem Zhl(hc:X.calm=true):Zbq X (.builtin "min") (λxs H Q=>∃i j,xs=[.int i,.int j]/\Q (.int (if j<i then j else i)) H):=by
 intro pins s σ H xs us Q I r h;obtain⟨i,j,rfl,q⟩:=h;obtain⟨u,w',rfl,⟨t,rfl⟩,⟨t',rfl⟩⟩:=ZjY r;refine min_two_ints (I.ok.hd hc) λh' tk k=>⟨_,H,I.kept k,?_,q⟩;by_cases hj:j<i
 .rw[if_pos hj,if_pos hj];exact⟨_,rfl⟩
 .rw[if_neg hj,if_neg hj];exact⟨_,rfl⟩
theorem Zd3:Zbq X (.type "int") (λxs H Q=>(∃i,xs=[.int i]/\Q (.int i) H)\/∃k,xs=[.bl k]/\Q (.int (if k then 1 else 0)) H):=by
 intro pins s σ H xs us Q I r h;rcases h with⟨i,rfl,q⟩|⟨k,rfl,q⟩
 .obtain⟨u,rfl,t,rfl⟩:=Zck r;exact call_int_int ⟨.int i,H,I,⟨_,rfl⟩,q⟩
 .obtain⟨u,rfl,r1⟩:=Zck r;cases r1;exact call_int_bool ⟨.int (if k then 1 else 0),H,I.tok _,⟨_,rfl⟩,q⟩
structure Room(k:Nat) (A:cZ):Prop where
 hd:100<=k->A.handled=none
 gd:A.guards=some []
 dp:A.depth+3*k+5<iU
 un:A.units+16*k+200<iO
theorem Room.mono(r:Room k A)(h:j<=k):Room j A:=⟨λz=>r.hd (aU z h),r.gd,by have:=r.dp;lia,by have:=r.un;lia⟩
theorem Room.deeper(r:Room (k+1) A)(env:Env):Room k (A.deeper env):=
 ⟨λz=>r.hd (Nat.le_succ_of_le z),r.gd,by have:=r.dp;show A.depth+1+3*k+5<_;lia,by have:=r.un;show A.units+3+16*k+200<_;lia⟩
theorem Room.in1(r:Room (k+1) A):Room k A.in1:=
 ⟨λz=>r.hd (Nat.le_succ_of_le z),r.gd,by have:=r.dp;show A.depth+3*k+5<_;lia,by have:=r.un;show A.units+1+16*k+200<_;lia⟩
theorem Room.depth(r:Room k A):A.depth<iU:=by have:=r.dp;lia
theorem Room.units(r:Room k A):A.units+64<iO:=by have:=r.un;lia
noncomputable def tNil:TA:=λ_ H Q=>Q [] H
noncomputable def Zsf(ta:TE)(tr:TA):TA:=λσ H Q=>ta σ H λx H1=>tr σ H1 λxs H2=>Q (x::xs) H2
theorem Zlb:PA X [] tNil:=λ_ _ _ _ H Q I h=>Calls.spliced_nil ⟨[],H,I,.nil,h⟩
theorem ZeX(ha:PE X e te)(hr:PA X es t)(hs:autoParam (aA (e::es) X.env=(false,eval e X.env)::aA es X.env) Qrf._auto_1):PA X (e::es) (Zsf te t):=by
 intro pos pins s σ H Q I h;rw[hs];show wpAny _ _ (spliced ((false,eval e X.env)::cR pos (aA es X.env))) _ _ s;refine Calls.spliced_cons (thn (ha pins s σ H _ I h) λu s1 hz=>?_);obtain⟨x,H1,I1,r1,q1⟩:=hz;exact thn (hr pos pins s1 σ H1 _ I1 q1) λus s2 ⟨xs,H2,I2,r2,q2⟩=>⟨x::xs,H2,I2,.cons r1 r2,q2⟩
def Zvy(t:TA):TE:=λσ H Q=>t σ H λxs H1=>xs.length<=sizeLine/\∀p,H1 p=none->Q (.ref p) (upd H1 p (.tup xs))
def Zvz(t:TA):TE:=λσ H Q=>t σ H λxs H1=>xs.length<=sizeLine/\∀p,H1 p=none->Q (.ref p) (upd H1 p (.lst xs))
theorem ZoO{x1}(h:PA X es t):PE X (.Tuple es x1 pos) (Zvy t):=by
 intro pins s σ H Q I hq;refine wpAny_Tuple_spliced (thn (h pos pins s σ H _ I hq) λus s1 ⟨xs,H1,I1,r,z,q⟩=>⟨by rw[<-r.length];exact z,?_⟩)
 have hf:H1 s1.heap.objs.size=none:=I1.hok.fresh (ae _);refine⟨.ref s1.heap.objs.size,upd H1 s1.heap.objs.size (.tup xs),I1.laid (t':=s1.toks) (λb u e=>Hq _ e) (ae _) ?_,rfl,q _ hf⟩;exact⟨z,us,r,⟨_,aF _ rfl,rfl,_,rfl⟩⟩
theorem ZoP(h:PA X es t):PE X (.List es pos) (Zvz t):=by
 intro pins s σ H Q I hq;refine wpAny_List_spliced (thn (h pos pins s σ H _ I hq) λus s1 ⟨xs,H1,I1,r,z,q⟩=>⟨by rw[<-r.length];exact z,?_⟩)
 have hf:H1 s1.heap.objs.size=none:=I1.hok.fresh (ae _);refine⟨.ref s1.heap.objs.size,upd H1 s1.heap.objs.size (.lst xs),I1.laid (t':=s1.toks) (λb u e=>Hq _ e) (ae _) ?_,rfl,q _ hf⟩;exact⟨z,us,0,r,aF _ rfl⟩
abbrev Sp:=List V->Hp->VK->XK->Prop
abbrev CXT:=List Env->Hp->aH->XK->aa->aH->Prop
structure Env0(P:cB) (w:cO) (K:Fg) (mg:Str->Option aa) (base:Heap) (A:cZ) (outer:List Env) (s:aH) (H:Hp):Prop where
 frames:A.frames=some outer
 mod:Mod K mg base
 bs:∀b o,base.get? b=some o->s.heap.get? b=some o/\H b=none
 bsz:base.objs.size<=s.heap.objs.size
 funs:s.heap.FunFrames base outer
 frf:∀b∈frs outer,H b=none
 hok:HOk P w H s.heap
 bare:hO s.gens
 qd:Qd A H
 tb:Tbs K H
def CE(outer:List Env)(P:cB)(w:cO)(H:Hp)(s:aH)(Q:VK)(u:aa)(s':aH):Prop:=
 ∃v H',s'.os=s.os/\hO s'.gens/\Un (frs outer) [] H H' s.heap s'.heap/\HOk P w H' s'.heap/\ZT v u/\Q v H'
def CR(CX:CXT)(outer:List Env)(P:cB)(w:cO)(H:Hp)(s:aH)(Q:VK)(E:XK)(r:Result)(s':aH):Prop:=
 match r with
 |.ok (.ret u)=>CE outer P w H s Q u s'
 |.ok _=>False
 |.error e=>CX outer H s E e s'
structure FnOk(P:cB) (w:cO) (K:Fg) (mg:Str->Option aa) (base:Heap) (CX:CXT) (k:Nat) (f:Addr) (fd:hX) (ps:List Str) (sp:Sp):Prop where
 len:∀vs H Q E,sp vs H Q E->vs.length=ps.length
 run:∀(A:cZ)(outer:List Env)(s:aH)(H:Hp)(args:Args)(us:List aa)(vs:List V)(Q:VK)(E:XK),Room k A->Env0 P w K mg base A outer s H->kZ s fd args (ps.zip us)->ZU vs us->sp vs H Q E->
  fm (aE P w) A (.call (.ref f) args) (CR CX outer P w H s Q E) s
theorem Inv.env0(I:Inv X pins σ H s):Env0 X.prog X.w X.K X.mg X.base X.A X.stack s H:=
 ⟨I.ok.frames,I.ok.mod,I.bs,aU I.ok.bsz I.sz,I.stack,I.stkFree,I.hok,I.bare,I.qd,I.ok.tb.un I.base⟩
theorem Inv.after(I:Inv X pins σ H s)(h:CE X.stack X.prog X.w H s Q u s'):EP X pins σ Q u s':=by
 obtain⟨v,H',os,bare,un,hok,r,q⟩:=h;obtain⟨hh,g,d,t,os'⟩:=s';obtain rfl:os'=s.os:=os;exact⟨v,H',I.call (h':=hh) (g':=g) (d':=d) (t':=t) (ch:=[]) un hok bare (λb z=>absurd z (by simp)),r,q⟩
noncomputable def Zsg(sp:Sp)(dvs:List V)(E:XK)(t:TA):TE:=λσ H Q=>t σ H λvs H1=>sp (vs++dvs) H1 Q E
noncomputable def ZeY(K:Fg)(fd:hX)(ps:List Str)(ds:List aa):Prop:=
 ∀(s:aH)(us:List aa),K.In s.heap->(us++ds).length=ps.length->kZ s fd ⟨us,[]⟩ (ps.zip (us++ds))
theorem ZeY.all{K:Fg}(h:∀us:List aa,us.length=ps.length->hZ fd ⟨us,[]⟩=pure (ps.zip us)):ZeY K fd ps []:=λs us _ hl=>by
 rw[cD]at hl ⊢;exact .of_eq (h us hl)
def Zhm(CX:CXT)(X:Cx)(E:XK):Prop:=∀(pins:Pn)(σ:St)(H:Hp)(s:aH)(e:aa)(s':aH),Inv X pins σ H s->CX X.stack H s E e s'->X.xe e s'
theorem ZoQ(F:FnOk X.prog X.w X.K X.mg X.base CX k f fd ps sp)(hr:Room k X.A)(hb:ZeY X.K fd ps ds)(hd:ZU dvs ds)(hx:Zhm CX X E)(I:Inv X pins σ H s)(r:ZU vs us)(h:sp (vs++dvs) H Q E):wpAny (aE X.prog X.w) X.A (call (.ref f) us) (EP X pins σ Q) X.xe s:=by
 have r2:ZU (vs++dvs) (us++ds):=r.append hd;have hl:(us++ds).length=ps.length:=by rw[<-r2.length];exact F.len _ _ _ _ h
 refine wpAny_call (lN (F.run X.A X.stack s H ⟨us,[]⟩ (us++ds) (vs++dvs) Q E hr I.env0 (hb s us I.kIn hl) r2 h) λr s' hq=>?_);cases r with
 |error e=>exact hx pins σ H s e s' I hq
 |ok fl=>
  cases fl with
  |ret u=>exact I.after hq
  |next=>exact gm hq
  |brk=>exact gm hq
  |cont=>exact gm hq
theorem Zmd(F:FnOk X.prog X.w X.K X.mg X.base CX k f fd ps sp)(hr:Room k X.A)(hg:Gl X x)(hm:X.mg x=some (.ref f))(hk:PySem.W.keepIn X.K (.ref f)=true)(hb:ZeY X.K fd ps ds)(hd:ZU dvs ds)(hx:Zhm CX X E)(ha:PA X (e::es) t)(hdb:autoParam ((x==("__debug__":Str))=false) Qde._auto_1)(he:autoParam (aA (e::es) X.env=(false,eval e X.env)::aA es X.env) Qrf._auto_1)(hpl:autoParam ((cR pos (aA es X.env)).any (·.1)=false) Qrf._auto_1):
  PE X (.Call (.Name x p) (e::es) [] pos) (Zsg sp dvs E t):=by
 intro pins s σ H Q I h;refine wpAny_Call_Name_kw (Zhd I hg hm ?_ hdb);refine PySem.W.callWith_K (h₀:=X.base) I.ok.mod.kin hk (thn (ha pos pins s σ H _ I h) λus s1 ⟨vs,H1,I1,r,q⟩=>⟨I1.kIn,?_⟩) he hpl;exact ZoQ F hr hb hd hx I1 r q
structure FnScope(N P:List Str) (sc:gW):Prop where
 kind:sc.kind=.function
 co:sc.isCoroutine=false
 gen:sc.isGenerator=false
 nd:N.Nodup
 pre:N.take P.length=P
 par:∀x∈P,sc.names.lookup x=some .local\/sc.names.lookup x=some .cell
 nofree:∀y∈sc.names,y.2≠ .free
theorem Zd4{kindOf:Str->Option cJ}{x:Str}:∀{binds:List (Str×aa)} {m:Str->Option aa},(∀v,(x,v)∉binds)->bindL kindOf binds m x=m x
 |[],_,_=>rfl
 | (n,v)::r,m,h=>by
  unfold bindL;rw[Zd4 λw hw=>h w (aJ _ hw)];split
  .have:x≠n:=by rintro rfl;exact h v bW
   simp[this]
  .rfl
theorem Zd5{kindOf:Str->Option cJ}{x:Str}:∀{binds:List (Str×aa)} {m:Str->Option aa},(∀v,(x,v)∉binds)->bindC kindOf binds m x=m x
 |[],_,_=>rfl
 | (n,v)::r,m,h=>by
  unfold bindC;rw[Zd5 λw hw=>h w (aJ _ hw)];split
  .rfl
  .have:x≠n:=by rintro rfl;exact h v bW
   simp[this]
theorem Zd6{kindOf:Str->Option cJ}{x:Str}{v:aa}:∀{P:List Str}{vs:List aa}{i:Nat}{m:Str->Option aa},P.Nodup->P[i]?=some x->vs[i]?=some v->kindOf x=some .local->bindL kindOf (P.zip vs) m x=some v
 |[],_,_,_,_,h,_,_=>by simp at h
 |_::_,[],_,_,_,_,h,_=>by simp at h
 |p::P,w::vs,0,m,nd,h1,h2,hk=>by
  simp at h1 h2;subst h1;subst h2;show bindL kindOf ((p,w)::P.zip vs) m p=_;unfold bindL;rw[Zd4 λv hv=>(eV.mp nd).1 (gf hv).1,if_pos hk];simp
 |p::P,w::vs,i+1,m,nd,h1,h2,hk=>by
  show bindL kindOf ((p,w)::P.zip vs) m x=_;unfold bindL;exact Zd6 (i:=i) (eV.mp nd).2 (by simpa using h1) (by simpa using h2) hk
theorem Zd7{kindOf:Str->Option cJ}{x:Str}{v:aa}:∀{P:List Str}{vs:List aa}{i:Nat}{m:Str->Option aa},P.Nodup->P[i]?=some x->vs[i]?=some v->kindOf x≠some .local->bindC kindOf (P.zip vs) m x=some v
 |[],_,_,_,_,h,_,_=>by simp at h
 |_::_,[],_,_,_,_,h,_=>by simp at h
 |p::P,w::vs,0,m,nd,h1,h2,hk=>by
  simp at h1 h2;subst h1;subst h2;show bindC kindOf ((p,w)::P.zip vs) m p=_;unfold bindC;rw[Zd5 λv hv=>(eV.mp nd).1 (gf hv).1,if_neg hk];simp
 |p::P,w::vs,i+1,m,nd,h1,h2,hk=>by
  show bindC kindOf ((p,w)::P.zip vs) m x=_;unfold bindC;exact Zd7 (i:=i) (eV.mp nd).2 (by simpa using h1) (by simpa using h2) hk
noncomputable def start(N:List Str)(vs:List V):St:=vs.map some++aB (N.length-vs.length) none
noncomputable def ZfI(CX:CXT)(P:cB)(w:cO)(K:Fg)(mg:Str->Option aa)(base:Heap)(N:List Str)(qual:Str)(scope:gW)(f:Addr)(cd:aa)(A:cZ)(outer:List Env)(s:aH)(H:Hp)(E:XK):Cx where
 prog:=P
 w:=w
 K:=K
 mg:=mg
 base:=base
 A:=A.deeper (iV qual scope s.heap.objs.size f cd)
 N:=N
 s₀:=s
 H₀:=H
 env:=iV qual scope s.heap.objs.size f cd
 outer:=outer
 stack:=iV qual scope s.heap.objs.size f cd::outer
 ex:=[]
 calm:=A.handled.isNone
 fxs:=none
 fn:=λ_=>true
 pn:=[]
 xe:=λe s'=>wpAny (aE P w) (A.deeper (iV qual scope s.heap.objs.size f cd)) (mC (iV qual scope s.heap.objs.size f cd) e) (λ_ s''=>CX outer H s E e s'') (λe' s''=>CX outer H s E e' s'') s'
theorem ZfJ{sc:gW}(h:sc.names.lookup x=some .cell):∃c,(bR n sc.names []).lookup x=some c:=by
 have q:=PySem.W.cellsFrom_some sc.names n [] (.inl h);exact eB.mp q
theorem Zhn{K:Fg}(S:FnScope N ps scope)(e0:Env0 P w K mg base A outer s H)(hl:vs.length=ps.length)(r:ZU vs us)(x:InCallC s s.heap.objs.size (bindL (iV qual scope s.heap.objs.size f cd).kindOf (ps.zip us) λ_=>none) (bR (s.heap.objs.size+1) scope.names []) (bindC (iV qual scope s.heap.objs.size f cd).kindOf (ps.zip us) λ_=>none) s1):Inv (ZfI CX P w K mg base N qual scope f cd A outer s H E) [] (start N vs) H s1:=by
 have hpl:ps.length<=N.length:=by have:=congrArg List.length S.pre;rw[cQ]at this;lia
 obtain⟨h1,tk,rfl,hk⟩:=x.done;have noA:∀b:Addr,b∉(ZfI CX P w K mg base N qual scope f cd A outer s H E).ex:=λb z=>absurd (show b∈([]:List Addr)from z) (by simp)
 refine⟨⟨e0.mod,S.kind,rfl,rfl,ae _,λy z c h1 h2=>?_,λy hy=>?_,λy c _ h=>?_,λz=>fK.mp z,kx e0.frames,.inr ⟨rfl,rfl⟩,λb z=>absurd z (noA b),e0.bs,e0.bsz,λb _ _=>noA b,λb z=>absurd z (noA b),e0.funs,e0.frf,e0.tb⟩,rfl,e0.bare,Un.kept hk,⟨_,x.toInCall.ns,λi y v h1 h2 h3=>?_⟩,λy c h=>⟨_,x.cell y c h⟩,e0.hok.fresh (ae _),λy c h=>?_,λp hp=>absurd (show p∈([]:Pn)from hp) (by simp),e0.hok.kept hk,?_,e0.qd,.free rfl⟩
 .exact name_of_addr x.apart (PySem.mem_of_lookup h1) (PySem.mem_of_lookup h2)
 .have hy:scope.names.lookup y=some .cell\/scope.names.lookup y=some .free:=hy;rcases hy with hy|hy
  .exact ZfJ hy
  .exact absurd rfl (S.nofree _ (PySem.mem_of_lookup hy))
 .exact cM (x.above y c (PySem.mem_of_lookup h))
 .have hi:i<vs.length:=by
   unfold start at h2;by_cases hi:i<vs.length
   .exact hi
   .rw[aT (by simpa using hi)]at h2
    rw[jE]at h2
    split at h2<;>cases h2
  have ha:vs[i]?=some v:=by
   unfold start at h2;rw[ac (by simpa using hi),bC]at h2
   cases e:vs[i]? with
   |none=>rw[e]at h2;cases h2
   |some a=>rw[e]at h2;cases h2;rfl
  obtain⟨u,hu,rv⟩:=r.get ha;have hp:ps[i]?=some y:=by
   rw[<-S.pre,db ⋯];exact h1
  have ndP:ps.Nodup:=by rw[<-S.pre];exact S.nd.sublist (List.take_sublist _ _)
  refine⟨u,rv,?_⟩;rcases S.par y (dZ hp)with k|k
  .exact .inl ⟨k,Zd6 ndP hp hu k⟩
  .obtain⟨c,e⟩:=ZfJ (n:=s.heap.objs.size+1) k;refine .inr ⟨.inl k,c,e,?_⟩;have q:=x.cell y c e;rw[Zd7 ndP hp hu (by show scope.names.lookup y≠_;rw[k];decide)]at q
   exact q
 .exact e0.hok.fresh (cM (x.above y c (PySem.mem_of_lookup h)))
 .unfold start;show _=N.length;rw[aI,af,bO];lia
theorem ZoR{K:Fg}{kV:aa}(lk:K.lookup f=some ⟨oc,od,.func (PySem.W.fnOf name qual params body scope dV kV doc pm an cdv ct),osl⟩)(hcd:PySem.W.codeIn K cdv qual=true)(S:FnScope N ps scope)(len:∀vs H Q E,sp vs H Q E->vs.length=ps.length)(hbody:∀(A:cZ)(outer:List Env)(s:aH)(H:Hp)(vs:List V)(Q:VK)(E:XK),Room k (A.deeper (iV qual scope s.heap.objs.size f cdv))->sp vs H Q E->∃t,PSs (ZfI CX P w K mg base N qual scope f cdv A outer s H E) body t/\t {nx:=λ_ H'=>Q .non H',rt:=Q} (start N vs) H):FnOk P w K mg base CX (k+1) f (PySem.W.fnOf name qual params body scope dV kV doc pm an cdv ct) ps sp:=by
 refine⟨len,λA outer s H args us vs Q E hr e0 hb r hsp=>?_⟩;have hl:=len _ _ _ _ hsp;have KX:K.In s.heap:=e0.mod.kin.keeps λb o e=>(e0.bs b o e).1;have lim:s.heap.NoLimit:=e0.mod.nolimit.keeps λb o e=>(e0.bs b o e).1;have hkind:∀y∈ps.zip us,scope.names.lookup y.1=some .local\/(scope.names.lookup y.1=some .cell/\((bR (s.heap.objs.size+1) scope.names []).lookup y.1).isSome=true):=λ⟨n,v⟩ hy=>by
  rcases S.par n (gf hy).1 with q|q
  .exact .inl q
  .exact .inr ⟨q,PySem.W.cellsFrom_some _ _ _ (.inl q)⟩
 refine codeAny_call_function hr.depth (KX _ _ lk) rfl S.co S.gen rfl (PySem.W.codeRec_of KX hcd) (hb _ _ _ _ ?_);refine wpAny_newFunctionEnv_cells S.kind hkind λenv he s1 x=>?_;subst he;refine⟨lim.keeps x.toInCall.keep,codeAny_func ?_⟩;obtain⟨t,ht,hq⟩:=hbody A outer s H vs Q E (hr.deeper _) hsp;have I:Inv (ZfI CX P w K mg base N qual scope f cdv A outer s H E) [] (start N vs) H s1:=Zhn S e0 hl r x;refine wpAny_mono (ht [] s1 (start N vs) H _ I hq) (λfl s' hs=>?_) λe s' hs=>hs;have fin:∀{σ':St}{H':Hp}{v:V}{u:aa},Inv (ZfI CX P w K mg base N qual scope f cdv A outer s H E) [] σ' H' s'->ZT v u->Q v H'->CE outer P w H s Q u s':=
  λ{σ' H' v u} J rv q=>⟨v,H',J.os,J.bare,J.base,J.hok,rv,q⟩
 cases fl with
 |ret u=>
  obtain⟨v,σ',H',J,rv,q⟩:=hs;exact fin J rv q
 |next=>
  obtain⟨σ',H',J,q⟩:=hs;exact fin (v:=V.non) (u:=bp) J rfl q
 |brk=>
  obtain⟨_,_,_,q⟩:=hs;exact gm q
 |cont=>
  obtain⟨_,_,_,q⟩:=hs;exact gm q
section
variable {pos:Pos}{id:String}
noncomputable def tCB(r:List V->Hp->VK->Prop)(t:TA):TE:=λσ H Q=>t σ H λvs H1=>r vs H1 Q
theorem ZfK(hc:Zbq X (.builtin id) r)(hg:Gl X x)(hm:X.mg x=none)(hv:bN x=some (.builtin id))(ha:PA X (e::es) t)(hn:autoParam (x≠"__name__") Qde._auto_1)(hdb:autoParam ((x==("__debug__":Str))=false) Qde._auto_1)
  (he:aA (e::es) X.env=(false,eval e X.env)::aA es X.env:=by rfl) (hpl:(cR pos (aA es X.env)).any (·.1)=false:=by rfl):PE X (.Call (.Name x p) (e::es) [] pos) (tCB r t):=by
 intro pins s σ H Q I h;refine wpAny_Call_Name_kw (Zbs I hg hm hv ?_ hn hdb);exact PyProof.Rows.callWith_builtin1 (thn (ha pos pins s σ H _ I h) λus s1 ⟨vs,H1,I1,r1,q1⟩=>hc pins s1 σ H1 vs us Q I1 r1 q1) he hpl
theorem Zho(hc:Zbq X (.type T) r)(hg:Gl X x)(hm:X.mg x=none)(hv:bN x=some (.type T))(ha:PA X (e::es) t)(hn:autoParam (x≠"__name__") Qde._auto_1)(hdb:autoParam ((x==("__debug__":Str))=false) Qde._auto_1)
  (he:aA (e::es) X.env=(false,eval e X.env)::aA es X.env:=by rfl) (hpl:(cR pos (aA es X.env)).any (·.1)=false:=by rfl):PE X (.Call (.Name x p) (e::es) [] pos) (tCB r t):=by
 intro pins s σ H Q I h;refine wpAny_Call_Name_kw (Zbs I hg hm hv ?_ hn hdb);exact bY (thn (ha pos pins s σ H _ I h) λus s1 ⟨vs,H1,I1,r1,q1⟩=>hc pins s1 σ H1 vs us Q I1 r1 q1) he hpl
end
end L2
namespace HT
open PyProof.Rows
noncomputable def Za8:List Int->List Int->Bool
 |[],[]=>false
 |[],_::_=>true
 |_::_,[]=>false
 |x::xs,y::ys=>if x=y then Za8 xs ys else decide (x<y)
theorem Z2(x y:Int)(xs ys:List Int):Za8 (x::xs) (y::ys)=if x=y then Za8 xs ys else decide (x<y):=rfl
theorem ZjZ(A:cZ)(s:aH)(a:Int)(t:Tok)(c:Int)(u:Tok):∃e,lG A s (.int a t) (.int c u) e/\(e=true↔a=c):=
 ⟨(a==c),lG.int_int a t c u,by simp⟩
theorem Zj0(A:cZ)(s:aH)(a:Int)(t:Tok)(c:Int)(u:Tok)(prog:cB)(w:cO)(E:Vp)(Q:Vp)(h:Q (.bool (decide (a<c))) s):wpAny (aE prog w) A (richCompare .Lt (.int a t) (.int c u)) Q E s:=
 (PyProof.Rows.lt_int h:wpAny (aE prog w) A (dE .Lt (.int a t) (.int c u)) Q E s)
section
open PySem.SeqAt
open PySem.AutoSeq1 (wpAny_loadPart')
open PySem.MeetsSeq PySem.MeetsSeq2 PySem.MeetsSeq3
end
theorem Zme(ht:hV s.heap t vs.toArray)(hb:hV s.heap b ws.toArray)(hv:vs≠[])(h1:ws=[]->Q (.ref t) s)(h2:ws≠[]->Q (.ref s.heap.objs.size) {s with heap:=s.heap.push {cls:=.type "tuple",data:=.seq (vs++ws).toArray}})(hsz:vs.length+ws.length<=sizeLine):wpAny (aE prog w) A (eU .Add (.ref t) (.ref b)) Q E s:=by
 obtain⟨⟨cls,dd,data,sl⟩,ho,hc,n,hd⟩:=id ht;obtain⟨⟨cls2,dd2,data2,sl2⟩,ho2,hc2,n2,hd2⟩:=id hb;simp only at hc hd hc2 hd2;subst hc hd hc2 hd2;have e:vs.toArray++ws.toArray=(vs++ws).toArray:=by simp
 by_cases hw:ws=[]
 .exact concat_meets ⟨_,ho,rfl⟩ ⟨_,ho2,rfl⟩ noFill_tuple_add seq_tuple_add PySem.F.slot_tuple_add PySem.F.entry_tuple_add (PySem.F.args_tuple_add_2 _ _)
   (tuple_addW1 t b vs.toArray ws.toArray n n2 dd dd2 sl sl2 (by simpa using hv) (by simp[hw])) ⟨ho,ho2,h1 hw⟩
 .refine concat_meets ⟨_,ho,rfl⟩ ⟨_,ho2,rfl⟩ noFill_tuple_add seq_tuple_add PySem.F.slot_tuple_add PySem.F.entry_tuple_add (PySem.F.args_tuple_add_2 _ _)
   (tuple_addW2 t b vs.toArray ws.toArray n n2 dd dd2 sl sl2 (by simpa using hv) (by simpa using hw) (by rw[am,am];exact hsz)) ⟨ho,ho2,?_⟩
  rw[e];exact h2 hw
noncomputable def sIx(n d:Nat):Option Int->Nat
 |none=>d
 |some v=>if v<0 then(v+(n:Int)).toNat else min v.toNat n
theorem ZoS(n d:Nat)(hd:d<=n)(o:Option Int):sIx n d o<=n:=by
 cases o with
 |none=>exact hd
 |some v=>
  show(if v<0 then(v+(n:Int)).toNat else min v.toNat n)<=n
  by_cases hv:v<0
  .rw[if_pos hv];lia
  .rw[if_neg hv];exact Nat.min_le_right _ _
theorem Zhp(v:Int)(n d:Nat):(if v<0 then max (v+(n:Int)) 0 else min v (n:Int))=((sIx n d (some v):Nat):Int):=by
 show(if v<0 then max (v+(n:Int)) 0 else min v (n:Int))=(((if v<0 then(v+(n:Int)).toNat else min v.toNat n):Nat):Int)
 by_cases hv:v<0
 .simp only[if_pos hv];lia
 .simp only[if_neg hv];lia
theorem ZgK(lo hi:Option Int)(n:Nat):fL lo hi 1 (n:Int)=(((sIx n 0 lo:Nat):Int),((sIx n n hi:Nat):Int)):=by
 have h1:¬((1:Int)<0):=⋯
 unfold fL;simp only[h1,if_false];refine gy ?_ ?_
 .cases lo with
  |none=>rfl
  |some v=>exact Zhp v n 0
 .cases hi with
  |none=>rfl
  |some v=>exact Zhp v n n
theorem ZgL(i j:Nat):dL (i:Int) (j:Int) 1=j-i:=by
 unfold dL;have h1:(1:Int)>0:=⋯
 simp only[h1,if_true,Int.ediv_one]
 split<;>lia
theorem Zdf(p:lI v o)(h:Q o s):wpAny (aE prog w) A (cW.Slice.slicePartIndex v) Q E s:=by
 cases p with
 |none=>exact slicePart_none h
 |int i t=>exact slicePart_int h
theorem Zcl{lo:Option Int}{n:Nat}(hs:s.heap.IsSliceOf sl vl vu .none)(pl:lI vl lo)(pu:lI vu hi)(h:Q (((sIx n 0 lo:Nat):Int),1,sIx n n hi-sIx n 0 lo) s):wpAny (aE prog w) A (iW (.ref sl) (pure (n:Int))) Q E s:=by
 obtain⟨os,hos,hcs,hds⟩:=id hs;unfold iW cW.Slice.sliceFields;refine Wb (Wb (aZ hos hds (x:=vl) rfl (Wb (aZ hos hds (x:=vu) rfl (Wb (aZ hos hds (x:=.none) rfl (Wp ?_)))))));refine Wb (slicePart_none ?_);show wpAny _ _ (if((1:Int)==0)=true then _ else _) _ _ s
 rw[if_neg (by decide)]
 refine Wb (Zdf pl (Wb (Zdf pu (Wb (Wp ?_)))));show wpAny _ _ (match fL lo hi 1 (n:Int)with|(lo,hi)=>pure (lo,(1:Int),dL lo hi 1)) _ _ s
 rw[ZgK lo hi n];show wpAny _ _ (pure (((sIx n 0 lo:Nat):Int),(1:Int),dL ((sIx n 0 lo:Nat):Int) ((sIx n n hi:Nat):Int) 1)) _ _ s;rw[ZgL];exact Wp h
theorem Zj1(xs:Array aa)(i k:Nat):((aC k).filterMap λ(m:Nat)=>xs[((i:Int)+(m:Int)*1).toNat]?).toArray=((xs.toList.drop i).take k).toArray:=by
 have e:(λ(m:Nat)=>xs[((i:Int)+(m:Int)*1).toNat]?)=λm=>xs[i+m]?:=by
  funext m
  have:((i:Int)+(m:Int)*1).toNat=i+m:=⋯
  rw[this]
 rw[e]
 have:=pick_run xs i k
 rw[List.filterMap_map]at this;have e2:((λx=>xs[x]?)∘λx=>i+x)=λm=>xs[i+m]?:=rfl;rw[e2]at this;rw[this]
theorem ZbX{lo:Option Int}(ht:hV s.heap t items)(hs:s.heap.IsSliceOf sl vl vu .none)(pl:lI vl lo)(pu:lI vu hi)(hw:¬(sIx items.size 0 lo=0/\sIx items.size items.size hi=items.size))(h:Q (.ref s.heap.objs.size) {s with heap:=s.heap.push {cls:=.type "tuple",data:=.seq ((items.toList.drop (sIx items.size 0 lo)).take (sIx items.size items.size hi-sIx items.size 0 lo)).toArray}})(hsz:items.size<=sizeLine):wpAny (aE prog w) A (mD (.ref t) (.ref sl)) Q E s:=by
 have htake:sizeOk (.seq ((items.toList.drop (sIx items.size 0 lo)).take (sIx items.size items.size hi-sIx items.size 0 lo)).toArray):=by
  show((items.toList.drop (sIx items.size 0 lo)).take (sIx items.size items.size hi-sIx items.size 0 lo)).toArray.size<=sizeLine;rw[am,cQ,fF,fM]
  omega
 have hj:sIx items.size items.size hi<=items.size:=ZoS _ _ (ae _) hi;obtain⟨os,hos,hcs,hds⟩:=id hs;have hTs:s.TypeIs (.ref sl) "slice":=⟨os,hos,hcs⟩;unfold mD
 try with_reducible refine wpAny_holding ?_
 first|refine Wb (Wp ?_)|skip
 refine Wb (wpAny_sequenceKey ht.typeIs (by decide) ?_)
 refine Wb (cA (name:=a9 "__getitem__") ht.typeIs eG (b7 eG ht.typeIs entry_tuple_getitem ?_ (args_tuple_getitem _ _)))
 show wpAny _ _ (iP (.ref t) >>= _) _ _ s;refine Wb (tupleItemsOf_ ht ?_);refine Wb (wpAny_typeOf hTs ?_);rw[if_pos (by decide)]
 refine Wb (Zcl hs pl pu ?_);have hno:¬((((sIx items.size 0 lo:Nat):Int)==0&&(1:Int)==1&&(sIx items.size items.size hi-sIx items.size 0 lo)==items.size)=true):=by
  intro q;rw[bg,bg]at q;have q1:((sIx items.size 0 lo:Nat):Int)=0:=eq_of_beq q.1.1;have q2:sIx items.size items.size hi-sIx items.size 0 lo=items.size:=eq_of_beq q.2;exact hw ⟨by omega,by omega⟩
 show wpAny _ _ (if(((sIx items.size 0 lo:Nat):Int)==0&&(1:Int)==1&&(sIx items.size items.size hi-sIx items.size 0 lo)==items.size)=true then _ else _) _ _ s
 rw[if_neg hno,Zj1]
 first
  |exact Wb (m:=eD _) (bK (Wp ⟨_,rfl,Wp h⟩) htake)
  |exact Wb (m:=eD _) (bK (Wb (Wp (Wp ⟨_,rfl,Wp h⟩))) htake)
  |exact Wb (Wb (m:=eD _) (bK (Wp (Wp ⟨_,rfl,Wp h⟩)) htake))
  |exact Wb (Wb (m:=eD _) (bK (Wp ⟨_,rfl,Wp h⟩) htake))
end HT
namespace L2
open PyProof.Rows
abbrev TO:=St->Hp->(Option Int->Hp->Prop)->Prop
def PO(X:Cx)(e:Option Expr)(t:TO):Prop:=
 ∀(pins:Pn)(s:aH)(σ:St)(H:Hp)(Q:Option Int->Hp->Prop),Inv X pins σ H s->t σ H Q->
  wpAny (aE X.prog X.w) X.A (evalPart e X.env) (λu s'=>∃o H',Inv X pins σ H' s'/\lI u o/\Q o H') X.xe s
noncomputable def tNoPart:TO:=λ_ H Q=>Q none H
noncomputable def Zsh(t:TE):TO:=λσ H Q=>t σ H λx H1=>∃i,x=.int i/\Q (some i) H1
theorem Zdg:∀{us:List aa},ZU (ns.map V.int) us->gz us ns:=by
 induction ns with
 |nil=>intro us r;rw[iC]at r;cases r;exact .nil
 |cons n ns ih=>
  intro us r;rw[aR]at r;cases r with
  |cons r1 r2=>
   obtain⟨t,e⟩:=r1;subst e;exact .cons n t (ih r2)
section
variable {lo hi:Option Expr}
theorem Zmf:PO X none tNoPart:=by
 intro pins s σ H Q I h;rw[evalPart_none];exact Wp ⟨none,H,I,.none,h⟩
theorem Zmg(h:PE X e te):PO X (some e) (Zsh te):=by
 intro pins s σ H Q I hw;rw[evalPart_some];refine thn (h pins s σ H _ I hw) λu s1 hz=>?_;obtain⟨x,H1,I1,r1,q1⟩:=hz;obtain⟨i,rfl,q⟩:=q1;obtain⟨t,rfl⟩:=r1;exact⟨some i,H1,I1,.int i t,q⟩
def SlR(X:Cx)(r:V->Option Int->Option Int->Hp->VK->Prop):Prop:=
 ∀(pins:Pn)(s:aH)(σ:St)(H:Hp)(x:V)(v vl vu:aa)(lo hi:Option Int)(sl:Addr)(Q:VK),Inv X pins σ H s->ZT x v->s.heap.IsSliceOf sl vl vu .none->lI vl lo->lI vu hi->r x lo hi H Q->
  ∃T id,typeLookup (.type T) "__getitem__"=pure (some (.builtin id))/\s.TypeIs v T/\wpAny (aE X.prog X.w) X.A (mD v (.ref sl)) (EP X pins σ Q) X.xe s
theorem SlR.or(h:SlR X r)(h':SlR X r'):SlR X (λx lo hi H Q=>r x lo hi H Q\/r' x lo hi H Q):=by
 intro pins s σ H x v vl vu lo hi sl Q I rx hs pl pu q;rcases q with q|q
 .exact h pins s σ H x v vl vu lo hi sl Q I rx hs pl pu q
 .exact h' pins s σ H x v vl vu lo hi sl Q I rx hs pl pu q
noncomputable def tSl(r:V->Option Int->Option Int->Hp->VK->Prop)(te:TE)(tl th:TO):TE:=λσ H Q=>te σ H λx H1=>tl σ H1 λl H2=>th σ H2 λu H3=>r x l u H3 Q
theorem Zj2(hr:SlR X r)(he:PE X e te)(hl:PO X lo tl)(hu:PO X hi th):PE X (.Subscript e (.Slice lo hi none p2) pos) (tSl r te tl th):=by
 intro pins s σ H Q I h;refine Subscript_ (thn (he pins s σ H _ I h) λv s1 hz=>?_);obtain⟨x,H1,I1,r1,q1⟩:=hz;refine wpAny_Slice (thn (hl pins s1 σ H1 _ I1 q1) λvl s2 ⟨l,H2,I2,pl,q2⟩=>thn (hu pins s2 σ H2 _ I2 q2) λvu s3 hz=>?_);obtain⟨u,H3,I3,pu,q3⟩:=hz;rw[evalPart_none];refine Wp ?_;have I4:Inv X pins σ H3 {s3 with heap:=s3.heap.push {cls:=.type "slice",data:=.fields #[vl,vu,.none]}}:=I3.kept (t':=s3.toks) λb ob q=>Hq _ q;obtain⟨T,id,hT,ht,hg⟩:=hr pins {s3 with heap:=s3.heap.push {cls:=.type "slice",data:=.fields #[vl,vu,.none]}} σ H3 x v vl vu l u s3.heap.objs.size Q I4 r1 (mB.IsSliceOf.new ..) pl pu q3;show wpAny (aE X.prog X.w) X.A (subscriptTail e (.Slice lo hi none p2) v (.ref s3.heap.objs.size)) (EP X pins σ Q) X.xe {s3 with heap:=s3.heap.push {cls:=.type "slice",data:=.fields #[vl,vu,.none]}};exact tail_any (ops:=[.ref s3.heap.objs.size,v]) ht hT hg (by with_unfolding_all rfl)
def Zlc(xs:List V)(lo hi:Option Int):List V:=(xs.drop (HT.sIx xs.length 0 lo)).take (HT.sIx xs.length xs.length hi-HT.sIx xs.length 0 lo)
theorem ZcB(xs:List V)(lo hi:Option Int):(Zlc xs lo hi).length<=xs.length:=by
 unfold Zlc;rw[cQ,fF];lia
def ZvA(K:Fg):V->Option Int->Option Int->Hp->VK->Prop:=λx lo hi H Q=>∃a xs,x=.ref a/\SqT K H a xs/\
 ¬(HT.sIx xs.length 0 lo=0/\HT.sIx xs.length xs.length hi=xs.length)/\∀p,H p=none->Q (.ref p) (upd H p (.tup (Zlc xs lo hi)))
theorem ZoT:SlR X (ZvA X.K):=by
 intro pins s σ H x v vl vu lo hi sl Q I rx hs pl pu h;obtain⟨a,xs,rfl,hx,hw,q⟩:=h;cases rx;obtain⟨its,r,ht,hz⟩:=I.tuple hx;have hlen:its.toArray.size=xs.length:=by rw[am];exact r.length.symm
 refine⟨"tuple",_,eG.lookup,ht.typeIs,?_⟩;refine HT.ZbX ht hs pl pu (by rw[hlen];exact hw) ?_ (by rw[hlen];exact hz)
 rw[hlen];refine⟨.ref s.heap.objs.size,_,I.laid (t':=s.toks) (o:=.tup (Zlc xs lo hi)) (λb ob q=>Hq _ q) (ae _) ?_,rfl,q _ (I.hok.fresh (ae _))⟩;exact⟨aU (ZcB xs lo hi) hz,_,(r.drop (HT.sIx xs.length 0 lo)).take (HT.sIx xs.length xs.length hi-HT.sIx xs.length 0 lo),hV.new _ _⟩
def Zmh(K:Fg):R2:=λx y H Q=>∃a b xs ys,x=.ref a/\y=.ref b/\SqT K H a xs/\SqT K H b ys/\xs≠[]/\xs.length+ys.length<=sizeLine/\
 (ys=[]->Q (.ref a) H)/\(ys≠[]->∀p,H p=none->Q (.ref p) (upd H p (.tup (xs++ys))))
theorem ZU.nil_iff(r:ZU xs us):us=[]↔xs=[]:=by
 cases r with
 |nil=>simp
 |cons _ _=>simp
theorem Zmi:OpR X (eU .Add) (Zmh X.K):=by
 intro pins s σ H x y v u Q I rx ry h;obtain⟨a,b,xs,ys,rfl,rfl,ha,hb,hx,hz,q1,q2⟩:=h;cases rx;cases ry;obtain⟨its,r1,p1,_⟩:=I.tuple ha;obtain⟨its2,r2,p2,_⟩:=I.tuple hb;refine HT.Zme p1 p2 (λz=>hx (r1.nil_iff.mp z)) (λz=>⟨.ref a,H,I,rfl,q1 (r2.nil_iff.mp z)⟩) (λz=>?_) (by rw[<-r1.length,<-r2.length];exact hz)
 refine⟨.ref s.heap.objs.size,_,I.laid (t':=s.toks) (o:=.tup (xs++ys)) (λb ob q=>Hq _ q) (ae _) ?_,rfl,q2 (λw=>z (r2.nil_iff.mpr w)) _ (I.hok.fresh (ae _))⟩;exact⟨by rw[aI];exact hz,_,r1.append r2,hV.new _ _⟩
end
noncomputable def ixN(n:Nat)(i:Int):Option Nat:=if 0<=i then(if i<n then some i.toNat else none)else if -(n:Int)<=i then some (i+n).toNat else none
def atI{α:Type}(xs:List α)(i:Int):Option α:=(ixN xs.length i).bind λj=>xs[j]?
theorem Zhq(h:ixN n i=some j):seqIndex? i n=some j/\j<n/\ -(n:Int)<=i/\i<n:=by
 unfold ixN at h;by_cases h0:0<=i
 .rw[if_pos h0]at h;by_cases h1:i<n
  .rw[if_pos h1]at h;have e:i.toNat=j:=aO h;exact⟨by rw[l8 h0 h1,e],⋯,⋯,h1⟩
  .rw[if_neg h1]at h;cases h
 .rw[if_neg h0]at h;by_cases h1: -(n:Int)<=i
  .rw[if_pos h1]at h;have e:(i+n).toNat=j:=aO h;exact⟨by rw[lO ⋯ h1,e],⋯,h1,⋯⟩
  .rw[if_neg h1]at h;cases h
theorem Zhr{xs:List α}{v:α}(h:atI xs i=some v):∃j,seqIndex? i xs.length=some j/\xs[j]?=some v/\j<xs.length/\ -(xs.length:Int)<=i/\i<xs.length:=by
 unfold atI at h;cases e:ixN xs.length i with
 |none=>rw[e]at h;cases h
 |some j=>
  rw[e]at h;obtain⟨h1,h2,h3,h4⟩:=Zhq e;exact⟨j,h1,h,h2,h3,h4⟩
theorem Zmj{xs:List α}{j:Nat}{v:α}(h:xs[j]?=some v):atI xs (j:Int)=some v:=by
 have hj:j<xs.length:=(au.mp h).1;have e:ixN xs.length (j:Int)=some j:=by
  unfold ixN;rw[if_pos ⋯,if_pos ⋯];simp
 unfold atI;rw[e];exact h
noncomputable def Zhs(b:Expr):Prop:=∀o i,subscripted b false o i=operate [o,i] (mD o i)
def IxR(X:Cx)(r:R2):Prop:=
 ∀(value slice:Expr)(pins:Pn)(s:aH)(σ:St)(H:Hp)(x y:V)(v u:aa)(Q:VK),Inv X pins σ H s->ZT x v->ZT y u->r x y H Q->
  subscripted slice false v u=operate [v,u] (mD v u)->wpAny (aE X.prog X.w) X.A (subscriptTail value slice v u) (EP X pins σ Q) X.xe s
def MtR(X:Cx)(id:String)(r:V->List V->Hp->VK->Prop):Prop:=
 ∀(pins:Pn)(s:aH)(σ:St)(H:Hp)(x:V)(xs:List V)(v:aa)(us:List aa)(Q:VK),Inv X pins σ H s->ZT x v->ZU xs us->r x xs H Q->
  wpAny (aE X.prog X.w) X.A (call (.builtin id) (v::us)) (EP X pins σ Q) X.xe s
section
variable {X:Cx}{a:Expr}
theorem IxR.or(h:IxR X r)(h':IxR X r'):IxR X (λx y H Q=>r x y H Q\/r' x y H Q):=by
 intro value slice pins s σ H x y v u Q I rx ry q hs;rcases q with q|q
 .exact h value slice pins s σ H x y v u Q I rx ry q hs
 .exact h' value slice pins s σ H x y v u Q I rx ry q hs
theorem Zsi(hr:IxR X r)(ha:PE X a ta)(hb:PE X b tb)(hs:Zhs b):PE X (.Subscript a b pos) (tOp r ta tb):=by
 intro pins s σ H Q I h;exact Subscript_ (Zsb ha hb I h λv u s2 x y H2 I2 rx ry q=>hr a b pins s2 σ H2 x y v u Q I2 rx ry q (hs _ _))
def Zuv(K:Fg):R2:=λx y H Q=>∃p xs i v,x=.ref p/\y=.int i/\SqL K H p xs/\atI xs i=some v/\Q v H
def Zuw(K:Fg):R2:=λx y H Q=>∃p xs i v,x=.ref p/\y=.int i/\SqT K H p xs/\atI xs i=some v/\Q v H
theorem Zmk:IxR X (Zuv X.K):=by
 intro value slice pins s σ H x y v u Q I rx ry h hs;obtain⟨p,xs,i,z,rfl,rfl,hq,he,q⟩:=h;cases rx;obtain⟨t,rfl⟩:=ry;obtain⟨its,r,pl,hz⟩:=I.list hq;obtain⟨j,h1,h2,h3,h4,h5⟩:=Zhr he;obtain⟨w,ew,rw'⟩:=r.get h2;have hl:=r.length;have hn:=ZfH;have fin:EP X pins σ Q w s:=⟨z,H,I,rw',q⟩;by_cases h0:0<=i
 .have hj:i.toNat=j:=by
   rw[l8 h0 h5]at h1;exact aO h1
  exact item_listR pl.isList h0 ⋯ (by rw[hj];simpa using ew) fin hs
 .have hj:(i+(its.toArray.size:Int)).toNat=j:=by
   rw[lO ⋯ h4]at h1
   rw[am,<-hl];exact aO h1
  exact jT (x:=w) pl.isList.typeIs slot_list_getitem.lookup
   (wpAny_getItem_list_neg (Q:=λr s'=>r=w/\EP X pins σ Q r s') pl.isList ⋯ (by rw[am]<;>lia) ⋯ (by rw[hj];simpa using ew) ⟨rfl,fin⟩) hs
theorem ZoU:IxR X (Zuw X.K):=by
 intro value slice pins s σ H x y v u Q I rx ry h hs;obtain⟨p,xs,i,z,rfl,rfl,hq,he,q⟩:=h;cases rx;obtain⟨t,rfl⟩:=ry;obtain⟨its,r,pl,hz⟩:=I.tuple hq;obtain⟨j,h1,h2,h3,h4,h5⟩:=Zhr he;obtain⟨w,ew,rw'⟩:=r.get h2;have hl:=r.length;have hn:=ZfH;have fin:EP X pins σ Q w s:=⟨z,H,I,rw',q⟩;exact jT (x:=w) pl.typeIs slot_tuple_getitem.lookup
  (getItem_tuple (j:=j) (Q:=λr s'=>r=w/\EP X pins σ Q r s') pl ⋯ ⋯ (by rw[am,<-hl];exact h1) (by simpa using ew) ⟨rfl,fin⟩) hs
theorem ZgM(its:List aa)(n j:Nat)(u:aa):bv (·.setIfInBounds j u) {cls:=.type "list",data:=.seq its.toArray n}={cls:=.type "list",data:=.seq (its.set j u).toArray n}:=by
 simp[bv]
theorem Inv.lst{pins:Pn}{σ:St}{H:Hp}{s:aH}{p:Addr}{xs:List V}(I:Inv X pins σ H s)(h:H p=some (.lst xs)):∃(its:List aa) (n:Nat),ZU xs its/\s.heap.get? p=some {cls:=.type "list",data:=.seq its.toArray n}/\xs.length<=sizeLine:=by
 obtain⟨z,its,n,r,e⟩:=I.hok p _ h;exact⟨its,n,r,e,z⟩
theorem Inv.lstUpd{its:List aa}(I:Inv X pins σ H s)(h:H p=some (.lst xs))(ho:s.heap.get? p=some {cls:=.type "list",data:=.seq its.toArray n})(hf:f {cls:=.type "list",data:=.seq its.toArray n}={cls:=.type "list",data:=.seq its'.toArray n'})(r:ZU ys its')(hz:ys.length<=sizeLine)(t:Nat):Inv X pins σ (upd H p (.lst ys)) {s with heap:=s.heap.update p f,toks:=t}:=by
 have e:(s.heap.update p f).get? p=some {cls:=.type "list",data:=.seq its'.toArray n'}:=by
  rw[bz f ho (by rw[hf]<;>rfl),hf]
 refine I.write (x:=p) (e:=p) (by rw[h];trivial) (.inl rfl) (λb u hb q=>(aG _ _ (bh hb)).trans q) ⟨_,e⟩ ?_
 exact⟨hz,its',n',r,e⟩
def rSetL:V->V->V->Hp->(Hp->Prop)->Prop:=λo i v H Q=>∃p xs k j,o=.ref p/\i=.int k/\H p=some (.lst xs)/\ixN xs.length k=some j/\Q (upd H p (.lst (xs.set j v)))
theorem Zj3:Zur X rSetL:=by
 intro pins s σ H o i v ov iv u Q I ro ri rv h;obtain⟨p,xs,k,j,rfl,rfl,hp,hj,q⟩:=h;cases ro;obtain⟨t,rfl⟩:=ri;obtain⟨its,n,r,ho,hz⟩:=I.lst hp;obtain⟨h1,h2,h3,h4⟩:=Zhq hj;have hl:=r.length;have hn:=ZfH;have I':Inv X pins σ (upd H p (.lst (xs.set j v))) {s with heap:=s.heap.update p (bv (·.setIfInBounds j u))}:=
  I.lstUpd hp ho (ZgM its n j u) (r.set rv j) (by rw[cV];exact hz) s.toks
 by_cases h0:0<=k
 .have hk:k.toNat=j:=by
   rw[l8 h0 h4]at h1;exact aO h1
  exact PySem.W.ki_setAt ho h0 ⋯ (by rw[am,<-hl];exact h4) (by rw[hk];exact⟨_,I',q⟩)
 .have hk:(k+(its.toArray.size:Int)).toNat=j:=by
   rw[lO ⋯ h3]at h1
   rw[am,<-hl];exact aO h1
  exact PySem.W.ki_setBack ho ⋯ (by rw[am,<-hl];exact h3) ⋯ (by rw[hk];exact⟨_,I',q⟩)
theorem Zd8(lo hi:Option Int)(n:Nat):(gq lo hi none n).1=((HT.sIx n 0 lo:Nat):Int)/\(gq lo hi none n).2.1=((HT.sIx n n hi:Nat):Int)/\(gq lo hi none n).2.2=1:=by
 refine⟨?_,?_,rfl⟩
 .cases lo with
  |none=>simp[gq,HT.sIx]
  |some i=>
   simp only[gq,HT.sIx,Option.getD_none,show(1:Int)>0 by decide,if_true]
   by_cases h:i<0
   .simp only[h,if_true]<;>lia
   .simp only[h,if_false]<;>lia
 .cases hi with
  |none=>simp[gq,HT.sIx]
  |some i=>
   simp only[gq,HT.sIx,Option.getD_none,show(1:Int)>0 by decide,if_true]
   by_cases h:i<0
   .simp only[h,if_true]<;>lia
   .simp only[h,if_false]<;>lia
theorem Zdv(its:List aa)(lo hi:Option Int):slicePick its.toArray lo hi none=((its.drop (HT.sIx its.length 0 lo)).take (HT.sIx its.length its.length hi-HT.sIx its.length 0 lo)).toArray:=by
 obtain⟨h1,h2,h3⟩:=Zd8 lo hi its.toArray.size;unfold slicePick;rw[h1,h2,h3];simp only[sliceRange_one,pick_run,am]<;>rfl
def ZvB(K:Fg):V->Option Int->Option Int->Hp->VK->Prop:=λx lo hi H Q=>∃a xs,x=.ref a/\SqL K H a xs/\∀p,H p=none->Q (.ref p) (upd H p (.lst (Zlc xs lo hi)))
theorem Zml:SlR X (ZvB X.K):=by
 intro pins s σ H x v vl vu lo hi sl Q I rx hs pl pu h;obtain⟨a,xs,rfl,hx,q⟩:=h;cases rx;obtain⟨its,r,ht,hz⟩:=I.list hx;have hlen:=r.length;refine⟨"list",_,slot_list_getitem.lookup,ht.isList.typeIs,?_⟩;refine wpAny_getItem_list_slice ht.isList hs pl pu .none (by simp) ?_ (by rw[am]<;>lia)
 rw[Zdv,<-hlen];refine⟨.ref s.heap.objs.size,_,I.laid (t':=s.toks) (o:=.lst (Zlc xs lo hi)) (λb ob q=>Hq _ q) (ae _) ?_,rfl,q _ (I.hok.fresh (ae _))⟩;exact⟨aU (ZcB xs lo hi) hz,_,0,(r.drop (HT.sIx xs.length 0 lo)).take (HT.sIx xs.length xs.length hi-HT.sIx xs.length 0 lo),aF _ rfl⟩
theorem Zr:Zbq X (.builtin "len") (λxs H Q=>∃p ys,xs=[.ref p]/\(SqL X.K H p ys\/SqT X.K H p ys)/\Q (.int ys.length) H):=by
 intro pins s σ H xs us Q I r h;obtain⟨p,ys,rfl,hq,q⟩:=h;obtain⟨u,rfl,rx⟩:=Zck r;cases rx;have hn:=ZfH;rcases hq with hq|hq
 .obtain⟨its,r',pl,hz⟩:=I.list hq;have hlen:=r'.length;exact Calls.call_len_list pl.isList (by simp only[am]<;>lia) ⟨.int ys.length,H,I.tok _,⟨s.toks+1,by rw[am,hlen]⟩,q⟩
 .obtain⟨its,r',pl,hz⟩:=I.tuple hq;have hlen:=r'.length;exact len_tuple pl (by simp only[am]<;>lia) ⟨.int ys.length,H,I.tok _,⟨s.toks+1,by rw[am,hlen]⟩,q⟩
theorem ZaD:Zbq X (.type "list") (λxs H Q=>∃p ys,xs=[.ref p]/\(SqL X.K H p ys\/SqT X.K H p ys)/\∀l,H l=none->Q (.ref l) (upd H l (.lst ys))):=by
 intro pins s σ H xs us Q I r h;obtain⟨p,ys,rfl,hq,q⟩:=h;obtain⟨u,rfl,rx⟩:=Zck r;cases rx;have fin:∀(its:List aa),ZU ys its->ys.length<=sizeLine->∀(h':Heap)(c':Nat),(∀b o',s.heap.get? b=some o'->h'.get? b=some o')->
   h'.get? s.heap.objs.size=some {cls:=.type "list",dict:=none,data:=.seq its.toArray c',slots:= #[]}->EP X pins σ Q (.ref s.heap.objs.size) {s with heap:=h'}:=λits r' hz h' c' kp e=>
  ⟨.ref s.heap.objs.size,_,I.laid (t':=s.toks) kp (ae _) (show ZaT X.prog X.w _ h' _ (.lst ys)from⟨hz,its,c',r',e⟩),rfl,q _ (I.hok.fresh (ae _))⟩
 rcases hq with hq|hq
 .obtain⟨its,r',pl,hz⟩:=I.list hq;have hlen:=r'.length;obtain⟨o,ho,hc,n,hd⟩:=pl.isList;exact call_list_seq p (.inl rfl) ho hc hd (λh' c' kp e=>fin its r' hz h' c' kp e) (by simp only[am]<;>lia)
 .obtain⟨its,r',pl,hz⟩:=I.tuple hq;have hlen:=r'.length;obtain⟨o,ho,hc,n,hd⟩:=pl;exact call_list_seq p (.inr rfl) ho hc hd (λh' c' kp e=>fin its r' hz h' c' kp e) (by simp only[am]<;>lia)
def tyV(K:Fg)(T:String)(x:V)(H:Hp):Prop:=match x with
 |.str _=>T="str"
 |.ref p=>(T="list"/\∃xs,SqL K H p xs)\/T="tuple"/\∃o,K.lookup p=some o/\o.cls=.type "tuple"/\o.dict=none
 |_=>False
theorem ZoV(I:Inv X pins σ H s)(r:ZT x v)(ty:tyV X.K T x H):s.TypeIs v T/\∀a,v=.ref a->∃ob,s.heap.get? a=some ob/\ob.dict=none:=by
 cases x with
 |str z=>
  obtain⟨t,rfl⟩:=r;cases(show T="str" from ty);exact⟨typeIs_str s z t,λ_ e=>nomatch e⟩
 |ref p=>
  cases r;rcases ty with⟨rfl,xs,hq⟩|⟨rfl,o,hk,hc,hd⟩
  .obtain⟨its,_,pl,_⟩:=I.list hq;refine⟨pl.isList.typeIs,λa e=>?_⟩;cases e;obtain⟨o,n,e,c,hd,_⟩:=pl;exact⟨o,e,hd⟩
  .refine⟨⟨o,I.kIn p o hk,hc⟩,λa e=>?_⟩;cases e;exact⟨o,I.kIn _ o hk,hd⟩
 |_=>exact ty.elim
def tBM(K:Fg)(T:String)(r:V->List V->Hp->VK->Prop)(to:TE)(t:TA):TE:=λσ H Q=>to σ H λx H1=>tyV K T x H1/\t σ H1 λxs H2=>r x xs H2 Q
variable {e:Expr}{id:String}
theorem Zsj(pa:PlainAttrs T)(slot:Slot T name id)(hty:typeOf (.builtin id)=pure (.type "method_descriptor"))(hm:MtR X id r)(ho:PE X o to)(ha:PA X (e::es) t)(hbase:autoParam (hU o name X.env (eval o X.env)=eval o X.env) Qrf._auto_1)
  (hfew:((cR cpos (aA (e::es) X.env)).all (λx=> !x.1)&&(iX cpos (fA [] X.env)).all (λx=>x.1.isSome) && decide ((e::es).length+([]:List iD).length+(if([]:List iD).isEmpty then 0 else 1)<30))=true:=by rfl)
  (hline:(apos.endLine==cpos.line)=true:=by rfl) (hs:aA (e::es) X.env=(false,eval e X.env)::aA es X.env:=by rfl) (hplain:(cR cpos (aA es X.env)).any (·.1)=false:=by rfl):
  PE X (.Call (.Attribute o name apos) (e::es) [] cpos) (tBM X.K T r to t):=by
 intro pins s σ H Q I h;refine wpAny_Call_method_late hbase hfew hline rfl (thn (ho pins s σ H _ I h) λv s1 hz=>?_);obtain⟨x,H1,I1,r1,ty,q1⟩:=hz;obtain⟨h1,h2⟩:=ZoV I1 r1 ty;refine⟨T,id,pa,slot,hty,h1,h2,?_⟩;have hA:=ha cpos pins s1 σ H1 _ I1 q1;rw[hs]at hA ⊢;refine Calls.callWith_builtin (by show(false||(cR cpos (aA es X.env)).any (·.1))=false;rw[hplain]<;>rfl) (Calls.evalArgs_plain ?_)
 exact thn hA λus s2 ⟨vs,H2,I2,r2,q2⟩=>hm pins s2 σ H2 x vs v us Q I2 r1 r2 q2
end
def MtM(X:Cx)(id:String)(r:V->List V->Hp->VK->Prop):Prop:=
 ∀(pins:Pn)(s:aH)(σ:St)(H:Hp)(x:V)(xs:List V)(v:aa)(us:List aa)(Q:VK),Inv X pins σ H s->ZT x v->ZU xs us->r x xs H Q->
  wpAny (aE X.prog X.w) X.A (call (.builtin id) (v::us)) (EP X pins σ Q) X.xe s
theorem ZU.one:∀{x:V}{us:List aa},ZU [x] us->∃u,us=[u]/\ZT x u:=by
 intro _ _ h;cases h with|cons r t=>cases t;exact⟨_,rfl,r⟩
theorem Inv.lset{its:List aa}(I:Inv X pins σ H s)(hH:H l=some (.lst xs))(e:s.heap.get? l=some {cls:=.type "list",data:=.seq its.toArray n})(hf:f its.toArray=its'.toArray)(hv:ZU ys its')(hz:ys.length<=sizeLine):Inv X pins σ (upd H l (.lst ys)) {s with heap:=s.heap.update l (bv f),toks:=t'}:=by
 have q:=PySem.IsL.update e f;rw[hf]at q;refine I.write (x:=l) (e:=l) (by rw[hH];exact trivial) (.inl rfl) (λb' u hb hu=>(aG s.heap (bv f) (bh hb)).trans hu) ⟨_,q⟩ ?_
 exact⟨hz,its',_,hv,q⟩
theorem Inv.lnew(I:Inv X pins σ H s)(hv:ZU ys its)(hz:ys.length<=sizeLine):Inv X pins σ (upd H s.heap.objs.size (.lst ys)) {s with heap:=s.heap.push {cls:=.type "list",data:=.seq its.toArray},toks:=t'}:=
 I.laid (λ_ _ q=>Hq _ q) (ae _) ⟨hz,its,0,hv,aF _ rfl⟩
theorem Inv.fresh(I:Inv X pins σ H s):H s.heap.objs.size=none:=I.hok.fresh (ae _)
theorem Inv.lstM(I:Inv X pins σ H s)(hH:H l=some (.lst xs)):xs.length<=sizeLine/\∃(its:List aa) (n:Nat),ZU xs its/\xs.length=its.length/\s.heap.get? l=some {cls:=.type "list",data:=.seq its.toArray n}:=by
 obtain⟨z,its,n,r,e⟩:=I.hok l _ hH;exact⟨z,its,n,r,r.length,e⟩
theorem Zj4(h:n<=sizeLine):fY n=false:=by
 unfold fY;exact decide_eq_false ⋯
def rAppend:V->List V->Hp->VK->Prop:=λx vs H Q=>∃l xs y,x=.ref l/\vs=[y]/\H l=some (.lst xs)/\xs.length<sizeLine/\Q .non (upd H l (.lst (xs++[y])))
theorem Zd9:MtM X "list.append" rAppend:=by
 intro pins s σ H x vs v us Q I rx rv h;obtain⟨l,xs,y,rfl,rfl,hH,hz,q⟩:=h;cases rx;obtain⟨u,rfl,ru⟩:=rv.one;obtain⟨z,its,n,r,hl,e⟩:=I.lstM hH;refine call_meets F.slot_list_append ⟨_,e,rfl⟩ F.entry_list_append (F.args_list_append_2 _ _) (PySem.list_append l its.toArray n u (by rw[am];lia)) ⟨e,?_⟩
 refine⟨.non,_,I.lset (its':=its++[u]) hH e (by simp) (r.append (.cons ru .nil)) ?_,rfl,q⟩
 rw[aI,fk];lia
def rExtend:V->List V->Hp->VK->Prop:=λx vs H Q=>∃l b xs zs,x=.ref l/\vs=[.ref b]/\H l=some (.lst xs)/\H b=some (.lst zs)/\xs.length+zs.length<=sizeLine/\Q .non (upd H l (.lst (xs++zs)))
theorem ZoW:MtM X "list.extend" rExtend:=by
 intro pins s σ H x vs v us Q I rx rv h;obtain⟨l,b,xs,zs,rfl,rfl,hH,hB,hz,q⟩:=h;cases rx;obtain⟨u,rfl,ru⟩:=rv.one;cases ru;obtain⟨z,its,n,r,hl,e⟩:=I.lstM hH;obtain⟨z2,its2,n2,r2,hl2,e2⟩:=I.lstM hB;have hsz:its.toArray.size+its2.toArray.size<=sizeLine:=by rw[am,am];lia
 have hlong:¬(!its.toArray.isEmpty&&fY (its.toArray.size+its2.toArray.size))=true:=by
  rw[Zj4 hsz,Bool.and_false];exact bV
 refine call_meets F.slot_list_extend ⟨_,e,rfl⟩ F.entry_list_extend (F.args_list_extend_2 _ _)
  (AutoSeq1.list_extend_list_list_0 l its.toArray n b its2.toArray n2 hlong (by rw[am];lia) ⋯) ⟨e,e2,?_⟩
 refine⟨.non,_,I.lset (its':=its++its2) hH e (by simp) (r.append r2) ?_,rfl,q⟩
 rw[aI];lia
def rCat:R2:=λx y H Q=>∃l b xs zs,x=.ref l/\y=.ref b/\H l=some (.lst xs)/\H b=some (.lst zs)/\xs.length+zs.length<=sizeLine/\∀p,H p=none->Q (.ref p) (upd H p (.lst (xs++zs)))
theorem ZoX:OpR X (eU .Add) rCat:=by
 intro pins s σ H x y v u Q I rx ry h;obtain⟨l,b,xs,zs,rfl,rfl,hH,hB,hz,q⟩:=h;cases rx;cases ry;obtain⟨z,its,n,r,hl,e⟩:=I.lstM hH;obtain⟨z2,its2,n2,r2,hl2,e2⟩:=I.lstM hB;refine PySem.P.add_list e e2 ?_ (by rw[am,am];lia)
 have ea:its.toArray++its2.toArray=(its++its2).toArray:=by simp
 rw[ea];exact⟨.ref _,_,I.lnew (t':=s.toks) (r.append r2) (by rw[aI];lia),rfl,q _ I.fresh⟩
end L2
namespace Att
open PySem.W PySem.Calls PyProof.Rows
theorem ZcC:∀(ns:List Int)(vs:List aa),WellAll P h vs (ns.map WData.int)->gz vs ns:=by
 intro ns
 induction ns with
 |nil=>
  intro vs w;rw[iC]at w;cases w;exact .nil
 |cons n ns ih=>
  intro vs w;rw[aR]at w;cases w with
  |cons a b=>
   cases a;exact .cons _ _ (ih _ b)
theorem Zht{l:OpenLaw}(hn:l.most=some n)(hpre:l.row.toRowW.claim.pre args=true)(hwl:WellAll P h vals args):∃a vs ns,vals=[aN a]/\args=[WData.list (ns.map WData.int)]/\h.get? a=some {cls:=.type "list",data:=.seq vs.toArray}/\gz vs ns/\ns.length<=n:=by
 have hsh:WShape.hasAll [] args [.list .int]=true:=(pre_splitW hpre).1;have hc:l.pre.holds [] {args:=args}=true:=(pre_splitW hpre).2;obtain⟨d,r,rfl,h1,h2⟩:=hasAllW_cons hsh;obtain rfl:=hasAllW_nil h2;obtain⟨xs,rfl,h3⟩:=hasW_list h1;obtain⟨ns,rfl⟩:=items_int h3;have hlen:ns.length<=n:=by
  unfold OpenLaw.pre at hc;have h4:(WTm.not (.lt (.lit (.int (n:Int))) (.len (.arg 0)))).holds [] {args:=[.list (ns.map .int)]}=true:=by
   have h4:=(holds_andW hc).1;rw[hn]at h4;exact h4
  have h5:=condW_of h4 (w_not (w_lt w_lit (w_len_list (w_arg rfl))));rw[af]at h5;refine jF λq=>?_;have q':(n:Int)<((ns.length:Nat):Int):=⋯
  first
   | (rw[decide_eq_true q']at h5;exact absurd h5 (by decide))
   | (simp at h5;lia)
 cases hwl with
 |cons w1 w2=>
  cases w2;cases w1 with
  |list ho hall=>exact⟨_,_,ns,rfl,rfl,ho,ZcC ns _ hall,hlen⟩
theorem Zhu(l:OpenLaw)(args:List WData):l.row.toRowW.claim.post args (.bool true) args=true:=
 postW_of (r:=l.row.toRowW) (X:=(true==true))
  (show WShape.has [] (.bool true) .bool=true by first|rfl|decide|simp[WShape.has,WShape.arms,WShape.armsAll])
  (show(WTm.eq .res (.lit (.bool true))).value [] {args:=args,res:=some (.bool true),after:=args}=some (.bool (true==true))from w_eq_bool (w_res rfl) w_lit) rfl
theorem ZeZ{l:OpenLaw}(hn:l.most=some n)(hdf:d.params.defaults=[])(call:∀(w:cO)(s₀ s₁:aH)(mg mb:Str->Option aa)(fa:Addr)(o:Obj)(pm cd doc:aa)(a:Addr)(vs:List aa)(ns:List Int),Ground q loose [] XP w s₀ mg mb s₁.heap->YP w s₁.heap->s₁.heap.get? fa=some o->o.data=.func (docDef d.name d.params d.body d.scope pm cd doc)->s₁.heap.CodeRec cd d.name->mg d.name=some (.ref fa)->s₁.heap.get? a=some {cls:=.type "list",data:=.seq vs.toArray}->gz vs ns->ns.length<=n->s₁.gens= #[]->fm (aE l.prog w) k7 (.call (.ref fa) ⟨[.ref a],[]⟩) (λr s'=>r=.ok (.ret (.bool true))/\OldK s₁.heap s'.heap/\s'.os=s₁.os/\hO s'.gens) s₁):WalkO q loose XP YP l.row.toRowW d [] (λf vs=>PySem.call f vs):=by
 intro w s₀ s₁ mg mb G Y fa o pm cd doc dV kV ho hd hcd hD hmg hg args vals as hpre hlay hrd hwl hlo;obtain rfl:dV=.none:=Dflts.none hD hdf;obtain rfl:kV=.none:=Dflts.noKw hD;obtain⟨a,vs,ns,rfl,rfl,hobj,hints,hlen⟩:=Zht hn hpre hwl;refine enter_call (lN (call w s₀ s₁ mg mb fa o pm cd doc a vs ns G Y ho (fd_plain hd) hcd hmg hobj hints hlen hg) λr s' hq=>?_);obtain⟨rfl,h2,h3,h4⟩:=hq;exact⟨.inl ⟨.bool true,.bool true,[],rfl,λ_=>rfl,.bool true,Zhu l _,λ_=>⟨js.nil,λ_ hm=>(nomatch hm)⟩⟩,h2,h3,h4⟩
end Att
namespace L2
open PyProof.Rows
theorem ZcD:∀{vs:List aa}{ns:List Int},gz vs ns->ZU (ns.map V.int) vs
 |_,_,.nil=>.nil
 |_,_,.cons n t h=>.cons ⟨t,rfl⟩ (ZcD h)
noncomputable def Za9(s:Stmt):Arguments:=match s with
 |.FunctionDef _ a _ _ _ _ _ _ _ _=>a
 |_=>{posonlyargs:=[],args:=[],vararg:=none,kwonlyargs:=[],kw_defaults:=[],kwarg:=none,defaults:=[]}
noncomputable def Zai(s:Stmt):List Stmt:=match s with
 |.FunctionDef _ _ b _ _ _ _ _ _ _=>b
 |_=>[]
noncomputable def Zq(s:Stmt):gW:=match s with
 |.FunctionDef _ _ _ _ _ _ sc _ _ _=>sc
 |_=>{kind:=.function,names:=[],isGenerator:=false,isCoroutine:=false}
noncomputable abbrev E0:XK:=λ_ _ _=>False
structure Fun(K:Fg) (x qual:Str) (st:Stmt) (f:Addr) (fd:hX):Prop where
 ex:∃(oc:aa) (od:Option Addr) (kV doc pm:aa) (an:Option Addr) (cdv ct:aa) (osl:Array (Option aa)),
  fd=PySem.W.fnOf x qual (Za9 st) (Zai st) (Zq st) .none kV doc pm an cdv ct/\K.lookup f=some ⟨oc,od,.func fd,osl⟩/\PySem.W.codeIn K cdv qual=true
 kp:PySem.W.keepIn K (.ref f)=true
section
variable {K:Fg}
theorem Fun.binds{st:Stmt}(F:Fun K x qual st f fd)(h:∀(kV doc pm:aa)(an:Option Addr)(cdv ct:aa)(us:List aa),us.length=ps.length->hZ (PySem.W.fnOf x qual (Za9 st) (Zai st) (Zq st) .none kV doc pm an cdv ct) ⟨us,[]⟩=pure (ps.zip us)):ZeY K fd ps []:=by
 obtain⟨oc,od,kV,doc,pm,an,cdv,ct,osl,rfl,lk,hcd⟩:=F.ex;exact .all (h kV doc pm an cdv ct)
theorem ZoY{st:Stmt}{kV:aa}(l:K.lookup f=some ⟨oc,od,.func (PySem.W.fnOf x qual (Za9 st) (Zai st) (Zq st) .none kV doc pm an cdv ct),osl⟩)(c:PySem.W.codeIn K cdv qual=true)(k:PySem.W.keepIn K (.ref f)=true):Fun K x qual st f (PySem.W.fnOf x qual (Za9 st) (Zai st) (Zq st) .none kV doc pm an cdv ct):=⟨⟨oc,od,kV,doc,pm,an,cdv,ct,osl,rfl,l,c⟩,k⟩
end
theorem Zhv(h:n<=1000):n<sizeLine:=eS h (by decide)
theorem pv(i:Nat)(hN:autoParam (X.N[i]?=some x) Qrf._auto_1)(hv:Vis X.env.scope x:=by first|exact c8 rfl|exact kz (c8 rfl)|exact kz (kz rfl))(hd:autoParam ((x==("__debug__":Str))=false) Qde._auto_1)(hcd:autoParam ((x==("__classdict__":Str))=false) Qde._auto_1):PE X (.Name x pos) (Zuq i):=Zk9 hN hv hd hcd
theorem Zmm{A:Prop}(h:B):if false=true then A else B:=by
 rw[if_neg bV];exact h
theorem Zmn{A:Prop}(h:A):if true=true then A else B:=by
 rw[if_pos rfl];exact h
end L2
namespace DL
open PyProof.Rows L2
structure Rw where
 n:String
 i:Nat
 f:Nat
 m:String
 t:Nat
 u:Nat
 ln:Nat
 na:Nat
 b:Bool
 v:Nat
noncomputable def zz1(P:kC)(s:String)(n:Nat)(v:aa):k8:={hash:=PyData.keyHash P (a9 s),key:=kY (a9 s) n,val:=v}
noncomputable def zz3(s:String)(n:Nat):aa:=kY (a9 s) n
noncomputable def zz4(n:Int):aa:=jC n 0
noncomputable def zz6(b:Bool)(n:Nat):aa:=if b then .ref n else .none
def Rw.fo(p:Nat->Stmt)(r:Rw):Obj:=⟨.type "function",none,.func (PySem.W.fnOf r.n r.n (Za9 (p r.i)) (Zai (p r.i)) (Zq (p r.i)) .none .none .none (.str r.m r.t) none (.ref (r.f-1)) .none),#[]⟩
def Rw.co(r:Rw):Obj:={cls:=bL "code",data:=ku #[zz3 r.n r.u,zz3 r.n (r.u+1),zz3 "/claim/cut.py" (r.u+2),zz4 r.ln,zz4 r.na,zz4 0,zz4 0,zz4 3,.ref (r.f-(if r.b then 6 else 4)),.bool true,zz4 181,.ref (r.f-(if r.b then 5 else 3)),.none,zz6 r.b (r.f-4),zz6 r.b (r.f-3),.ref (r.f-2),zz4 r.v,zz4 r.ln,zz3 "/claim/cut.py" (r.v+1)]}
def Rw.de(P:kC)(r:Rw):k8:=zz1 P r.n (r.v+2) (.ref r.f)
def Rw.en(p:Nat->Stmt)(r:Rw):Fg:=[(r.f,r.fo p),(r.f-1,r.co)]
structure Cw where
 n:String
 f:Nat
 t:Nat
 ln:Nat
def Cw.cls(r:Cw):Obj:={cls:=bL "type",data:=Data.cls {name:=a9 r.n,bases:=[aN 24],mro:=[aN r.f,aN 24,bL "ValueError",bL "Exception",bL "BaseException",bL "object"],ns:=r.f-1,qualname:=a9 r.n},slots:= #[some (aN (r.f-9)),none,some (zz3 r.n r.t),some (zz3 r.n (r.t+8)),some (jt "ValueError.__new__"),some (lH true)]}
def Cw.ns(P:kC)(r:Cw):Obj:={cls:=bL "dict",data:=k9 #[zz1 P "__module__" (r.t+7) (zz3 "rayround.errors" 187),zz1 P "__firstlineno__" (r.t+11) (jC r.ln (r.t+10)),zz1 P "__static_attributes__" (r.t+12) (aN (r.f-2)),zz1 P "__doc__" (r.t+13) bp] 2}
def Cw.de(P:kC)(r:Cw):k8:=zz1 P r.n (r.t+15) (.ref r.f)
def Cw.en(P:kC)(r:Cw):Fg:=[(r.f,r.cls),(r.f-1,r.ns P)]
end DL
namespace HD
open PySem.W PyProof.Rows
noncomputable def ZrN(thr:iY->Bool)(stp:eH->iY->Option (eH×iY))(n:Nat):eH->iY->Option eH:=
 Nat.rec (motive:=λ_=>eH->iY->Option eH) (λ_ _=>none) (λ_ ih s t=>Bool.rec (motive:=λ_=>Option eH) (Option.rec (motive:=λ_=>Option eH) none (λr=>ih r.1 r.2) (stp s t)) (some s) (thr t)) n
noncomputable def Zj5(ok:iY->Bool)(stp:eH->iY->Option (eH×iY))(s:eH)(t:iY):Option (eH×iY):=Bool.rec (motive:=λ_=>Option (eH×iY)) none (stp s t) (ok t)
section
variable {tb:String->Option cW}{p:cB}{w:cO}{n₀:Nat}{ann:Option aa}
theorem Zld:∀{n:Nat}{s s':eH}{t:iY},ZrN lP (Zj5 (kD n₀ ann) (lQ (jU tb) p w)) n s t=some s'->topRun tb p w n₀ ann n s.abs t=some s'.abs
 |0,s,s',t,h=>by cases h
 |n+1,s,s',t,h=>by
  unfold topRun
  change Bool.rec (motive:=λ_=>Option eH) (Option.rec (motive:=λ_=>Option eH) none (λr=>ZrN lP (Zj5 (kD n₀ ann) (lQ (jU tb) p w)) n r.1 r.2) (Zj5 (kD n₀ ann) (lQ (jU tb) p w) s t)) (some s) (lP t)=some s' at h
  cases ht:lP t with
  |true=>
   rw[ht]at h;have h':some s=some s':=h;cases h';rfl
  |false=>
   rw[ht]at h;cases hk:kD n₀ ann t with
   |false=>
    have e:Zj5 (kD n₀ ann) (lQ (jU tb) p w) s t=none:=by unfold Zj5;rw[hk]
    rw[e]at h;cases h
   |true=>
    have e:Zj5 (kD n₀ ann) (lQ (jU tb) p w) s t=lQ (jU tb) p w s t:=by unfold Zj5;rw[hk]
    rw[e]at h;cases hs:lQ (jU tb) p w s t with
    |none=>rw[hs]at h;cases h
    |some r=>
     obtain⟨s2,t2⟩:=r;rw[hs]at h
     have:=stepT_spec hs
     rw[this];exact Zld (n:=n) h
end
noncomputable def T0(w:cO)(os:OsState):eH:=
 ⟨[boot_o_0,boot_o_1,boot_o_2,boot_o_3,boot_o_4,boot_o_5,boot_o_6,boot_o_7,boot_o_8,boot_o_9,boot_o_10].foldl (λ(r:Nat×BT) o=>(r.1+1,r.2.ins r.1 (o w.params))) (0,.nil) |>.2,11,(dQ w.params).life,#[],lJ,l4,os⟩
theorem ZoZ(w:cO)(os:OsState):(T0 w os).abs=⟨dQ w.params,#[],lJ,l4,os⟩:=by kernel_rfl
theorem Zmo:a9 "__annotations__"=⟨#[95,95,97,110,110,111,116,97,116,105,111,110,115,95,95]⟩:=by decide +kernel
theorem Zhw{Yf:aH->α}{Ya:cO->α}(e:opening p=plainProg p.main.scope.names)(hN:Nat.ble 600 N=true)(f:∀s,fenceModules? p s=some s)(le:Nat.ble M N=true)(Zsk:∀(w:cO)(os:OsState),(ZrN lP (Zj5 (kD 11 (some (.ref 6))) (lQ (jU lf) p w)) M (T0 w os) (topStub p)).map (λs=>((staticsOk (eW p.main.body) (dQ w.params) s.abs.heap&&namesBound p s.abs.heap&&gensDone s.abs&&laidKept (dQ w.params) s.abs.heap),openSeen q loose (eW p.main.body) Xt true s.abs,Yf s.abs))=some (true,openGood q loose,Ya w)):LeftO p q loose Xt Yf Ya N:=λw=>by
 obtain⟨⟨h,gs,d,k,os⟩,e1,e2⟩:=gA.mp (boot_open e hN f w);obtain⟨rfl,rfl,rfl,rfl⟩:h=dQ w.params/\gs=Array.mk []/\d=lJ/\k=l4:=by simpa using e2
 obtain⟨s',r1,r2⟩:=gA.mp (Zsk w os);obtain⟨l1,l2,l3⟩:_/\_/\_:=by simpa only[lD]using r2
 have r:=Zld r1;rw[ZoZ]at r;have r:=topRun_mono (N-M) _ _ _ _ r;rw[show M+(N-M)=N by have:=Nat.le_of_ble_eq_true le;lia]at r
 have z1:((dQ w.params).isNs aM&&(Array.mk []:Array GenState).size==0)=true:=by kernel_rfl
 have z2:(dQ w.params).objs.size=11:=rfl;have z3:(dQ w.params).nsMap aM "__annotations__"=some (.ref 6):=by
  rw[Zmo]
  kernel_rfl
 have t:topFrom lf p w N ⟨dQ w.params,Array.mk [],lJ,l4,os⟩=some s'.abs:=by
  unfold topFrom;dsimp only;rw[z1,z2,z3,r];show(match staticsOk (eW p.main.body) (dQ w.params) s'.abs.heap&&namesBound p s'.abs.heap&&gensDone s'.abs&&laidKept (dQ w.params) s'.abs.heap with|true=>_|false=>_)=_
  rw[l1]
 unfold openEnds;rw[e1];show(topFrom lf p w N _).map _=_;rw[t];exact congrArg some (gy l2 l3)
end HD
namespace HD
open PySem.W
theorem Zsl:@kD=@PySem.W.Fast.tw6613529449190102663:=PySem.W.Fast.te6613529449190102663
theorem Zmp:@lQ=@PySem.W.Fast.tw10156331382660048174:=PySem.W.Fast.te10156331382660048174
theorem Zo0:@jU=@PySem.W.Fast.tw11892475500146522536:=PySem.W.Fast.te11892475500146522536
theorem Zo1:@lf=@PySem.W.Fast.tw14364793385576792824:=PySem.W.Fast.te14364793385576792824
theorem Zmq:@openSeen=@PySem.W.Fast.tw4187177175401517315:=PySem.W.Fast.te4187177175401517315
theorem Zo2:@eW=@PySem.W.Fast.tw5923862056798008813:=PySem.W.Fast.te5923862056798008813
end HD
namespace K57
open L2 DL
noncomputable def top(i:Nat):Stmt:=PySem.Challenge.pw_rayround_k57_parted_by_bends_alone.main.body.getD i (.Pass ⟨0,0,0,0⟩)
def dS(i:Nat):List (Str×cJ):=(Zq (top i)).names
noncomputable abbrev rw0(n:String)(i f u ln na:Nat)(b:Bool)(v:Nat):Rw:=⟨n,i,f,"rayround.wholes",255,u,ln,na,b,v⟩
noncomputable abbrev rw1(n:String)(i f u ln na:Nat)(b:Bool)(v:Nat):Rw:=⟨n,i,f,"rayround.pairs",274,u,ln,na,b,v⟩
noncomputable abbrev rw2(n:String)(i f u ln na:Nat)(b:Bool)(v:Nat):Rw:=⟨n,i,f,"rayround.rounds",284,u,ln,na,b,v⟩
noncomputable abbrev rw3(n:String)(i f u ln na:Nat)(b:Bool)(v:Nat):Rw:=⟨n,i,f,"rayround.ratios",311,u,ln,na,b,v⟩
noncomputable abbrev rw4(n:String)(i f u ln na:Nat)(b:Bool)(v:Nat):Rw:=⟨n,i,f,"rayround.heights",380,u,ln,na,b,v⟩
noncomputable abbrev rw5(n:String)(i f u ln na:Nat)(b:Bool)(v:Nat):Rw:=⟨n,i,f,"rayround.bodies",412,u,ln,na,b,v⟩
noncomputable abbrev rw6(n:String)(i f u ln na:Nat)(b:Bool)(v:Nat):Rw:=⟨n,i,f,"rayround.corners",437,u,ln,na,b,v⟩
noncomputable abbrev rw7(n:String)(i f u ln na:Nat)(b:Bool)(v:Nat):Rw:=⟨n,i,f,"rayround.partings",452,u,ln,na,b,v⟩
noncomputable abbrev rw8(n:String)(i f u ln na:Nat)(b:Bool)(v:Nat):Rw:=⟨n,i,f,"law_rayround_k57_parted_by_bends_alone",478,u,ln,na,b,v⟩
def tab:List Rw:=[rw0 "is_whole" 6 70 257 11 1 true 261,rw0 "greatest_divisor" 7 77 264 13 2 true 271,rw1 "crossed" 9 84 276 19 2 true 281,rw2 "following" 11 91 286 22 2 true 291,rw2 "unspanned" 12 98 294 24 1 true 300,rw2 "ask_smooth" 13 105 303 29 1 true 308,rw3 "ratio" 15 112 313 34 2 true 319,rw3 "plus" 16 119 322 43 2 true 327,rw3 "minus" 17 126 330 45 2 true 335,rw3 "times" 18 133 338 47 2 true 343,rw3 "less" 19 140 346 49 2 true 351,rw3 "greatest" 20 147 354 51 1 true 360,rw3 "common_bottom" 21 154 363 57 1 true 369,rw3 "stretched" 22 161 372 62 2 true 377,rw4 "ask_height" 24 168 382 65 2 true 387,rw4 "sloped" 25 175 390 68 2 true 395,rw4 "slope_through" 26 182 398 70 2 true 409,rw5 "edge" 28 187 414 75 3 false 417,rw5 "in_order" 29 192 420 92 1 false 423,rw5 "body" 30 199 426 95 2 true 434,rw6 "contrary" 32 206 439 104 1 true 443,rw6 "height_of" 33 211 446 106 2 false 449,rw7 "balance" 35 216 454 110 2 false 457,rw7 "threes" 36 221 460 114 1 false 463,rw7 "emptying" 37 226 466 116 2 false 469,rw7 "parting" 38 231 472 127 2 false 475,rw8 "_law_cell_at" 40 238 480 134 2 true 487,rw8 "_law_cross" 41 245 490 142 2 true 495,rw8 "_law_turn" 42 250 498 144 2 false 501,rw8 "_law_smooth" 43 257 504 164 2 true 517,rw8 "_law_ratio" 44 264 520 183 2 true 527,rw8 "_law_sum" 45 271 530 189 2 true 535,rw8 "_law_times" 46 278 538 191 2 true 543,rw8 "_law_height" 47 285 546 193 3 true 557,rw8 "_law_bends" 48 292 560 205 2 true 570,rw8 "_law_sized" 49 299 573 213 3 true 581,rw8 "_law_solved" 50 304 584 220 2 false 587,rw8 "_law_table" 51 311 590 240 2 true 601,rw8 "_law_stuck" 52 316 604 252 2 false 607,rw8 "law" 53 323 610 276 1 true 618]
noncomputable def Zux(p:cB)(i:Nat):Stmt:=p.main.body.getD i (.Pass ⟨0,0,0,0⟩)
noncomputable def Zsm:List Cw:=[⟨"NoRatio",37,207,4⟩,⟨"NotSmooth",49,223,6⟩,⟨"NoHeight",61,239,8⟩]
def Kf(p:cB)(P:kC):Fg:=(3,{cls:=bL "dict",data:=k9 ([zz1 P "__name__" 165 (zz3 "law_rayround_k57_parted_by_bends_alone" 478),zz1 P "__doc__" 166 (bp),zz1 P "__package__" 167 (bp),zz1 P "__loader__" 168 (jt "__main__.__loader__#opaque"),zz1 P "__spec__" 169 (bp),zz1 P "__annotations__" 170 (aN 6),zz1 P "__builtins__" 171 (aN 4),zz1 P "__file__" 173 (zz3 "/claim/cut.py" 172),zz1 P "__cached__" 174 (bp),zz1 P "RayError" 206 (aN 24)]++Zsm.map (·.de P)++tab.map (·.de P)).toArray 53})::tab.flatMap (·.en (Zux p))++Zsm.flatMap (·.en P)++[(4,{cls:=bL "module",dict:=some 0}),
 (23,{cls:=bL "dict",data:=k9 #[zz1 P "__module__" 196 (zz3 "rayround.errors" 187),zz1 P "__firstlineno__" 200 (jC 2 199),zz1 P "__static_attributes__" 201 (aN 22),zz1 P "__weakref__" 203 (aN 25),zz1 P "__doc__" 204 (bp)] 3}),
 (24,{cls:=bL "type",data:=Data.cls {name:=a9 "RayError",bases:=[bL "ValueError"],mro:=[aN 24,bL "ValueError",bL "Exception",bL "BaseException",bL "object"],ns:=23,qualname:=a9 "RayError",subclasses:=[aN 37,aN 49,aN 61]},slots:= #[some (aN 15),none,some (zz3 "RayError" 189),some (zz3 "RayError" 197),some (jt "ValueError.__new__"),some (lH true)]})]
def asK:List Addr:=3::tab.flatMap (λr=>[r.f,r.f-1])++Zsm.flatMap (λr=>[r.f,r.f-1])++[4,23,24]
def Tf:Fg:=tab.map (λr=>(r.f-(if r.b then 5 else 3),{cls:=.none,data:=.fields #[]}))++[]
def asT:List Addr:=asK++tab.map (λr=>r.f-(if r.b then 5 else 3))++[]
theorem Zo3(p:cB)(P:kC):asT=(Kf p P++Tf).map (·.1):=by kernel_rfl
def qf(p:cB):cB:={p with main:={p.main with body:=[Zux p 53]}}
noncomputable def lo:List Str:=(["__name__","RayError","NoRatio","NotSmooth","NoHeight","is_whole","greatest_divisor","crossed","following","unspanned","ask_smooth","ratio","plus","minus","times","less","greatest","common_bottom","stretched","ask_height","sloped","slope_through","edge","in_order","body","contrary","height_of","balance","threes","emptying","parting","_law_cell_at","_law_cross","_law_turn","_law_smooth","_law_ratio","_law_sum","_law_times","_law_height","_law_bends","_law_sized","_law_solved","_law_table","_law_stuck"]:List String).map a9
open PySem.W
noncomputable abbrev pw:=PySem.Challenge.pw_rayround_k57_parted_by_bends_alone
abbrev Hk:Hook:=kHook (λP=>Kf pw P++Tf) asT (Zo3 pw)
set_option maxRecDepth 1000000 in
set_option maxHeartbeats 0 in
theorem Zsk(w:cO)(os:OsState):(HD.ZrN lP (HD.Zj5 (kD 11 (some (.ref 6))) (lQ (jU lf) PySem.Challenge.pw_rayround_k57_parted_by_bends_alone w)) 2166 (HD.T0 w os) (topStub PySem.Challenge.pw_rayround_k57_parted_by_bends_alone)).map (λs=>((staticsOk (eW PySem.Challenge.pw_rayround_k57_parted_by_bends_alone.main.body) (dQ w.params) s.abs.heap&&namesBound PySem.Challenge.pw_rayround_k57_parted_by_bends_alone s.abs.heap&&gensDone s.abs&&laidKept (dQ w.params) s.abs.heap),openSeen (qf PySem.Challenge.pw_rayround_k57_parted_by_bends_alone) lo (eW PySem.Challenge.pw_rayround_k57_parted_by_bends_alone.main.body) (λs=>xlAt (qf PySem.Challenge.pw_rayround_k57_parted_by_bends_alone) [] s&&recOk [] s) true s.abs,asT.map s.abs.heap.get?))=some (true,openGood (qf PySem.Challenge.pw_rayround_k57_parted_by_bends_alone) lo,(Kf PySem.Challenge.pw_rayround_k57_parted_by_bends_alone w.params++Tf).map λx=>some x.2):=by
 rw[HD.Zsl,HD.Zmp,HD.Zo0,HD.Zo1,HD.Zmq,HD.Zo2]
 kernel_rfl
set_option maxRecDepth 1000000 in
set_option maxHeartbeats 0 in
theorem ZvC:PySem.W.OpenLaw.wellSaid PySem.Challenge.rw_rayround_k57_parted_by_bends_alone=true:=by kernel_rfl
end K57
namespace L2
open PyProof.Rows
section
variable (P:cB)(w:cO)
end
section
variable {κ:Type}[DecidableEq κ]
noncomputable def Zg2(kvs:List (κ×V))(k:κ):Option V:=(kvs.find? λkv=>decide (kv.1=k)).map (·.2)
noncomputable def ZjO(kvs:List (κ×V))(k:κ)(v:V):List (κ×V):=
 if(kvs.any λkv=>decide (kv.1=k))=true then kvs.map (λkv=>if kv.1=k then(kv.1,v)else kv)else kvs++[(k,v)]
theorem Zcq{p:κ×V}{r:List (κ×V)}{k:κ}(e:p.1=k):Zg2 (p::r) k=some p.2:=by simp[Zg2,dR,e]
theorem Zcr{p:κ×V}{r:List (κ×V)}{k:κ}(e:¬p.1=k):Zg2 (p::r) k=Zg2 r k:=by simp[Zg2,dR,e]
theorem ZfL(k:κ):∀kvs:List (κ×V),(kvs.any λkv=>decide (kv.1=k))=(Zg2 kvs k).isSome
 |[]=>rfl
 |p::r=>by
  rw[List.any_cons];by_cases e:p.1=k
  .simp only[Zcq e,decide_eq_true e,Bool.true_or,iZ]
  .rw[Zcr e,decide_eq_false e,Bool.false_or];exact ZfL k r
theorem Ze0(kvs:List (κ×V))(k:κ)(v:V):(ZjO kvs k v).length<=kvs.length+1:=by
 unfold ZjO;split
 .rw[af];lia
 .rw[aI,bS,eX];lia
theorem ZrL.getD(r:ZrL o u)(rd:ZT d d'):ZT (o.getD d) (u.getD d'):=by
 cases o with
 |none=>cases u with
  |none=>exact rd
  |some _=>exact(show False from r).elim
 |some _=>cases u with
  |none=>exact(show False from r).elim
  |some _=>exact r
theorem KV.val{kvs:List (κ×V)}{vs:List (κ×aa)}(r:KV kvs vs)(k:κ):ZrL (Zg2 kvs k) (lR vs k):=by
 unfold KV at r
 induction r with
 |nil=>exact c9
 |@cons p q ps qs h t ih=>
  obtain⟨h1,h2⟩:=h;by_cases e:p.1=k
  .have e':q.1=k:=h1.symm.trans e;have b:lR (q::qs) k=some q.2:=by simp[lR,dR,e']
   rw[Zcq e,b];exact h2
  .have e':¬q.1=k:=λz=>e (h1.trans z);have b:lR (q::qs) k=lR qs k:=by simp[lR,dR,e']
   rw[Zcr e,b];exact ih
theorem KV.keys{kvs:List (κ×V)}{vs:List (κ×aa)}(r:KV kvs vs):kvs.map (·.1)=vs.map (·.1):=by
 unfold KV at r
 induction r with
 |nil=>rfl
 |cons h t ih=>rw[aR,aR,ih,h.1]
end
theorem Zsn(r:ZT (kV k) u):(ZaJ P w).is k u=true:=by
 cases k with
 |inl i=>obtain⟨t,e⟩:=(show ∃t,u=jC i t from r);subst e;exact ZeU P w i t
 |inr x=>obtain⟨t,e⟩:=(show ∃t,u=kY x t from r);subst e;exact ZeV P w x t
theorem Zea{P:cB}{w:cO}:∀{ks:List Key}{us:List aa},ZU (ks.map kV) us->ItemsAre (ZaJ P w) ks us
 |[],_,r=>by rw[iC]at r;cases r;exact .nil
 |k::ks,_,r=>by
  rw[aR]at r;cases r with
  |cons h t=>exact .cons (Zsn h) (Zea t)
abbrev KT(H:Hp):List (List Key×V)->List (List Key×Addr×aa)->Prop:=Paired λp q=>p.1=q.1/\H q.2.1=some (.tup (p.1.map kV))/\ZT p.2 q.2.2
theorem KT.val(r:KT H kvs xs)(k:List Key):ZrL (Zg2 kvs k) ((ma xs k).map (·.2)):=by
 induction r with
 |nil=>exact c9
 |@cons p q ps qs h t ih=>
  obtain⟨h1,_,h2⟩:=h;by_cases e:p.1=k
  .have e':q.1=k:=h1.symm.trans e;have b:ma (q::qs) k=some q.2:=by simp[ma,dR,e']
   rw[Zcq e,b];exact h2
  .have e':¬q.1=k:=λz=>e (h1.trans z);have b:ma (q::qs) k=ma qs k:=by simp[ma,dR,e']
   rw[Zcr e,b];exact ih
theorem Zo4(ok:HOk P w H h)(e:H a=some (.tup (ks.map kV))):(tupleKind (ZaJ P w)).is h ks a:=by
 obtain⟨_,its,r,o,h1,h2,n,h3⟩:=(show ZaT P w H h a (.tup (ks.map kV))from ok a _ e);exact⟨o,its.toArray,n,h1,h2,h3,by simpa using Zea r⟩
theorem Inv.big(I:Inv X pins σ H s):iS<s.heap.objs.size:=by
 have h:aM<s.heap.objs.size:=(I.mod.glob.keeps I.bk).lt;exact gB (by decide) h
theorem Zmr(I:Inv X pins σ H s)(mu:Mut (H a))(hs:dw a s.heap h')(he:∃q,h'.get? a=some q)(new:ZaT X.prog X.w (upd H a ob) h' a ob):Inv X pins σ (upd H a ob) {s with heap:=h',toks:=t'}:=
 I.write (x:=a) (e:=a) mu (.inl rfl) (λb q hb z=>(hs.2 b hb).trans z) he new
structure M1(X:Cx) (o:Expr) (m:Str) (apos:Pos) (e:Expr) (cpos:Pos):Prop where
 base:hU o m X.env (eval o X.env)=eval o X.env
 few:((cR cpos (aA [e] X.env)).all (λx=> !x.1)&&(iX cpos (fA [] X.env)).all (λx=>x.1.isSome) && decide (([e]:List Expr).length+([]:List iD).length+(if([]:List iD).isEmpty then 0 else 1)<30))=true
 line:(apos.endLine==cpos.line)=true
 trees:cR cpos (aA [e] X.env)=[(false,eval e X.env)]
structure M2(X:Cx) (o:Expr) (m:Str) (apos:Pos) (e f:Expr) (cpos:Pos):Prop where
 base:hU o m X.env (eval o X.env)=eval o X.env
 few:((cR cpos (aA [e,f] X.env)).all (λx=> !x.1)&&(iX cpos (fA [] X.env)).all (λx=>x.1.isSome) && decide (([e,f]:List Expr).length+([]:List iD).length+(if([]:List iD).isEmpty then 0 else 1)<30))=true
 line:(apos.endLine==cpos.line)=true
 trees:cR cpos (aA [e,f] X.env)=[(false,eval e X.env),(false,eval f X.env)]
end L2
namespace Att
open PySem.W PySem.Calls PyProof.Rows
end Att
namespace L2
open PyProof.Rows
section
variable {κ:Type}[DecidableEq κ]
end
end L2
namespace DQ
open PyProof.Rows
structure Fly(B:Heap) (l:List Env) (e:Addr) (cls:aa) (dct:Option Addr) (fl:aa) (h:Heap):Prop where
 stay:B.StaysIn h
 new:B.get? e=none
 frames:h.FunFrames B l
 obj:∃oe vs T oT ts,h.get? e=some oe/\oe.cls=cls/\oe.dict=dct/\oe.data=.fields vs/\vs[2]?=some .none/\vs[1]?=some (.ref T)/\B.get? T=none/\T≠e/\h.get? T=some oT/\oT.data=.fields ts/\ts[3]?=some fl
theorem Fly.tail(f:Fly B (env::l) e cls dct fl h):Fly B l e cls dct fl h:=⟨f.stay,f.new,f.frames.2.2,f.obj⟩
section
variable {env:Env}
theorem apart{h:Heap}(hl:h.FunFrames B l)(he:h.get? e=some oe)(hd:oe.data=.fields vs):e∉l.filterMap (·.frame):=λz=>by
 obtain⟨_,o,h1,h2⟩:=hl.mem z;rw[he]at h1;cases h1;exact h2 vs hd
theorem Zeb(hfr:A.frames=some (env::outer))(hl:s.heap.FunFrames B (env::outer))(hf:env.frame=some L)(he:s.heap.get? e=some oe)(hs:B.StaysIn s.heap)(hb:B.get? e=none)(hd:oe.data=.fields vs)(hz:2<vs.size)(h2:vs[2]?=some .none)(h:∀h',Fly B (env::outer) e oe.cls oe.dict (cT L) h'->s.heap.UpToSlots h'->Q () {s with heap:=h'}):wpAny M A (frameOf env >>= λa=>entryPlaceOf L hn >>= λpl=>lj Zso a .none (cT L) .none pl >>= λb=>setField (.ref e) 1 b) Q E s:=by
 have ne:=apart hl he hd;refine Wb (wpAny_frameOf_fun hfr hl hf λh1 k1=>Wb (wpAny_entryPlaceOf λpl hpl=>Wb ?_));unfold lj newFields;refine bK ?_ (hpl.sizeOk5 _ _ _ _ _);generalize hT:([Zso,aN L,bp,cT L,bp]++(if pl.isEmpty then aB 6 bp else pl)).toArray=ts;have h3:ts[3]?=some (cT L):=by
  rw[<-hT];rcases hpl with rfl|⟨_,_,_,_,_,_,_,rfl⟩<;>simp
 have e1:h1.get? e=some oe:=(k1.2.1 e ne).trans he;have s1:B.StaysIn h1:=λb o hbo=>(k1.2.1 b λz=>by rw[(hl.mem z).1]at hbo;cases hbo).trans (hs b o hbo)
 generalize hoT:({cls:=.type "traceback",dict:=none,data:=.fields ts}:Obj)=oT;have dT:oT.data=.fields ts:=by rw[<-hoT]
 have fT:oT.isFreed=false:=cY dT;have e2:(h1.push oT).get? e=some oe:=Hq _ e1;have nT:h1.objs.size≠e:=aQ (Hz e1);refine cS e2 hd (gB (by decide) hz) (h _ ?_ ?_)
 .have d3:=cN hd (·.setIfInBounds 1 (aN h1.objs.size));have e3:=bz (dA (·.setIfInBounds 1 (aN h1.objs.size))) e2 (cY d3);have keep:∀b o,b≠e->h1.get? b=some o->((h1.push oT).update e (dA (·.setIfInBounds 1 (aN h1.objs.size)))).get? b=some o:=λb o hbe x=>by
   rw[aG _ _ (bh hbe)];exact Hq _ x
  have gT:(h1.push oT).get? h1.objs.size=some oT:=aF _ fT;refine⟨λb o x=>keep b o (λz=>by rw[z,hb]at x;cases x) (s1 b o x),hb,hl.of_keeps λb o x y=>?_,_,_,h1.objs.size,oT,ts,e3,gv _ _,?_,d3,?_,?_,s1.fresh,nT,?_,dT,h3⟩
  .obtain⟨sl,z⟩:=k1.2.2 b o x;exact⟨_,keep b _ (λw=>y vs (by rw[w,he]at x;cases x;exact hd)) z,rfl⟩
  .obtain⟨c,d,dd,sl⟩:=oe;cases hd;rfl
  .rw[Array.getElem?_setIfInBounds_ne (by decide)]
   exact h2
  .rw[fz (gB (by decide) hz)]
  .rw[aG _ _ (bh nT)];exact gT
 .intro b o x y;obtain⟨sl,z⟩:=k1.2.2 b o x;refine⟨sl,?_⟩;rw[aG _ _ (λw=>y vs (by rw[<-w,he]at x;cases x;exact hd))]
  exact Hq _ z
theorem ZfM(f:Fly B l e cls dct fl s.heap)(h:∀h',Fly B l e cls dct .none h'->s.heap.UpToSlots h'->Q () {s with heap:=h'}):wpAny M A (setFlight (.ref e) none) Q E s:=by
 obtain⟨st,nw,fr,oe,vs,T,oT,ts,g1,g2,g3,g4,g5,g6,g7,g8,g9,g10,g11⟩:=f;have hz:3<ts.size:=(cU.mp g11).1;unfold setFlight;refine Wb (aZ g1 g4 g6 ?_);rw[if_pos (by simp)]
 have oth:∀b o,b≠T->s.heap.get? b=some o->(s.heap.update T (dA (·.setIfInBounds 3 bp))).get? b=some o:=λb o hb x=>by
  rw[aG _ _ (bh hb)];exact x
 have nr:∀b o,s.heap.get? b=some o->(∀vs,o.data≠ .fields vs)->b≠T:=λb o x y z=>by
  rw[z,g9]at x;cases x;exact y ts g10
 refine cS g9 g10 hz (h _ ⟨λb o x=>oth b o (λz=>by rw[z,g7]at x;cases x) (st b o x),nw,fr.of_keeps λb o x y=>⟨o,oth b o (nr b o x y) x,rfl⟩,?_⟩ λb o x y=>⟨o.slots,oth b o (nr b o x y) x⟩)
 exact⟨oe,vs,T,_,_,oth e oe (bh g8) g1,g2,g3,g4,g5,g6,g7,g8,bz _ g9 (cY (cN g10 _)),cN g10 _,by rw[fz hz];rfl⟩
theorem Zj6(hfr:A.frames=some (env::outer))(hf:env.frame=some L)(f:Fly B (env::outer) e cls dct .none s.heap)(h:∀h',Fly B (env::outer) e cls dct (cT L) h'->s.heap.UpToSlots h'->Q () {s with heap:=h'}):wpAny M A (lg (.ref e) env) Q E s:=by
 obtain⟨st,nw,fr,oe,vs,T,oT,ts,g1,g2,g3,g4,g5,g6,g7,g8,g9,g10,g11⟩:=f;unfold lg;simp only[hf];refine Wb (aZ g1 g4 g6 ?_);rw[if_pos (by simp)]
 refine Wb (aZ g9 g10 g11 ?_);rw[if_neg (by simp[cT])]
 have oth:∀b o,b≠T->s.heap.get? b=some o->(s.heap.update T (dA (·.setIfInBounds 3 bp))).get? b=some o:=λb o hb x=>by
  rw[aG _ _ (bh hb)];exact x
 have nr:∀b o,s.heap.get? b=some o->(∀vs,o.data≠ .fields vs)->b≠T:=λb o x y z=>by
  rw[z,g9]at x;cases x;exact y ts g10
 refine Wb (cS g9 g10 (cU.mp g11).1 ?_);refine Zeb hfr (fr.of_keeps λb o x y=>⟨o,oth b o (nr b o x y) x,rfl⟩) hf (oth e oe (bh g8) g1) (λb o x=>oth b o (λz=>by rw[z,g7]at x;cases x) (st b o x)) nw g4 (cU.mp g5).1 g5 λh' k1 k2=>h h' (g2▸g3▸k1) ?_
 intro b o x y;exact k2 b o (oth b o (nr b o x y) x) y
theorem Zhx(hfr:A.frames=some (env::outer))(hf:env.frame=some L)(f:Fly B (env::outer) e cls dct .none s.heap)(h:∀h',Fly B outer e cls dct .none h'->s.heap.UpToSlots h'->Q () {s with heap:=h'}):wpAny M A (mC env (.ref e)) Q E s:=by
 unfold mC;refine Wb (Zj6 hfr hf f λh1 k1 u1=>?_);exact ZfM (s:={s with heap:=h1}) k1 λh2 k2 u2=>h h2 k2.tail (u1.trans u2)
theorem Zhy(hfr:A.frames=some (env::outer))(hf:env.frame=some L)(hl:s.heap.FunFrames B (env::outer))(he:s.heap.get? e=some oe)(hs:B.StaysIn s.heap)(hb:B.get? e=none)(hd:oe.data=.fields vs)(h1:vs[1]?=some .none)(h2:vs[2]?=some .none)(h:∀h',Fly B outer e oe.cls oe.dict .none h'->s.heap.UpToSlots h'->Q () {s with heap:=h'}):wpAny M A (mC env (.ref e)) Q E s:=by
 unfold mC lg;simp only[hf];refine Wb (Wb (aZ he hd h1 ?_));rw[if_neg (by decide)]
 refine Zeb hfr hl hf he hs hb hd (cU.mp h2).1 h2 λh' k1 u1=>?_;exact ZfM (s:={s with heap:=h'}) k1 λh2 k2 u2=>h h2 k2.tail (u1.trans u2)
end
end DQ
namespace DQ
open PyProof.Rows
open PySem.W (Looks findIn mroIn specialIn takesIn clsIn looks_findIn looks_mroIn looks_find findObj KitX)
structure ExcC(K:Fg) (C:Addr):Prop where
 ga:gD K (.ref C) "__getattribute__"=some (some (.builtin "BaseException.__getattribute__"))
 gt:gD K (.ref C) "__getattr__"=some none
 cl:gD K (.ref C) "__class__"=some (some (.builtin "object.__class__"))
 gs:gu K (.builtin "object.__class__") "__get__"=some (some (.builtin "getset_descriptor.__get__"))
 tk:jj K (.builtin "object.__class__")=some true
 bx:kE K C (.type "BaseException")=some true
 ob:kE K C (.type "object")=some true
 is:(mf K C).isSome=true
end DQ
namespace DL
open PyProof.Rows L2
inductive D where
 |non
 |bl (b:Bool)
 |int (i:Int)
 |str (x:Str)
 |tup (xs:List D)
 |rol (xs:List D)
 |ref (n:Nat)
 |du (n:Nat)
inductive SO where
 |lst (xs:List D)
noncomputable abbrev Sto:=List SO
noncomputable abbrev Ro:=List (Option D)
abbrev W2:=Str->Sto->Prop
abbrev W1:=Ro->Sto->Prop
abbrev W0:=D->Sto->Prop
def SqF(K:Fg)(H:Hp)(a:Addr)(xs:List V):Prop:=
 (∃o,H a=some (.frz o (.lst xs)))\/∃(o:Obj) (its:Array aa) (n:Nat),K.lookup a=some o/\o.cls=.type "list"/\o.dict=none/\o.data=.seq its n/\its.size<=sizeLine/\ZU xs its.toList
theorem SqF.sq{K:Fg}(h:SqF K H a xs):SqL K H a xs:=by
 rcases h with⟨o,h⟩|h
 .exact .inl (.inr ⟨o,h⟩)
 .exact .inr h
def SqK(K:Fg)(a:Addr)(xs:List V):Prop:=∃(o:Obj) (its:Array aa) (n:Nat),K.lookup a=some o/\o.cls=.type "tuple"/\o.data=.seq its n/\its.size<=sizeLine/\ZU xs its.toList/\o.dict=none
theorem SqK.sq{K:Fg}(h:SqK K a xs):SqT K H a xs:=by
 obtain⟨o,its,n,h1,h2,h3,h4,h5,_⟩:=h;exact .inr ⟨o,its,n,h1,h2,h3,h4,h5⟩
noncomputable def ZwM:List Str:=[PySem.Str.ofString "where",PySem.Str.ofString "at"]
noncomputable def kn:HO->Option Nat
 |.lst _=>some 0
 |.dU _=>some 3
 |_=>none
def Kn(H:Hp)(p:Addr):Option Nat:=(H p).bind kn
theorem Zle:Kn (upd H p u) p=kn u:=by unfold Kn;rw[Zx];rfl
structure RefK(H:Hp) (α:List Addr) (j n:Nat) (p:Addr):Prop where
 at':α[n]?=some p
 kn:Kn H p=some j
theorem Kn.lst{H:Hp}{p:Addr}{xs:List V}(h:H p=some (.lst xs)):Kn H p=some 0:=by unfold Kn;rw[h];rfl
theorem Kn.ne(h:Kn H p=some j)(hq:H q=none):Kn (upd H q o) p=some j:=by
 have:p≠q:=by
  intro z;unfold Kn at h;rw[z,hq]at h;cases h
 unfold Kn;rw[ZH this];exact h
mutual
inductive Rep(K:Fg) (H:Hp) (α:List Addr):V->D->Prop where
 |non:Rep K H α .non .non
 |bl (b:Bool):Rep K H α (.bl b) (.bl b)
 |int (i:Int):Rep K H α (.int i) (.int i)
 |str (x:Str):Rep K H α (.str x) (.str x)
 |tup {p:Addr} {xs:List V} {ds:List D}:H p=some (.tup xs)->Reps K H α xs ds->Rep K H α (.ref p) (.tup ds)
 |rol {p:Addr} {xs:List V} {ds:List D}:SqF K H p xs->Reps K H α xs ds->Rep K H α (.ref p) (.rol ds)
 |ref {p:Addr} {n:Nat}:RefK H α 0 n p->Rep K H α (.ref p) (.ref n)
 |du {p:Addr} {n:Nat}:RefK H α 3 n p->Rep K H α (.ref p) (.du n)
inductive Reps(K:Fg) (H:Hp) (α:List Addr):List V->List D->Prop where
 |nil:Reps K H α [] []
 |cons {v:V} {d:D} {vs:List V} {ds:List D}:Rep K H α v d->Reps K H α vs ds->Reps K H α (v::vs) (d::ds)
end
noncomputable def stb:HO->Bool
 |.tup _=>true
 |.frz _ _=>true
 |_=>false
structure Ext(K:Fg) (H H':Hp) (α α':List Addr):Prop where
 kp:∀p u,H p=some u->stb u=true->H' p=some u
 kn:∀p j,Kn H p=some j->Kn H' p=some j
 al:∃β,α'=α++β
section
variable {K:Fg}{H H':Hp}{α α1 α':List Addr}
theorem Ext.refl:Ext K H H α α:=⟨λ_ _ h _=>h,λ_ _ h=>h,[],(cD _).symm⟩
theorem Ext.trans(a:Ext K H H1 α α1)(b:Ext K H1 H2 α1 α2):Ext K H H2 α α2:=by
 obtain⟨b1,e1⟩:=a.al;obtain⟨b2,e2⟩:=b.al;exact⟨λp u h t=>b.kp p u (a.kp p u h t) t,λp j h=>b.kn p j (a.kn p j h),b1++b2,by rw[e2,e1,d6]⟩
theorem Ext.tup(e:Ext K H H' α α')(p:Addr)(xs:List V)(h:H p=some (.tup xs)):H' p=some (.tup xs):=e.kp p _ h rfl
theorem Ext.rol(e:Ext K H H' α α')(p:Addr)(xs:List V)(h:SqF K H p xs):SqF K H' p xs:=by
 rcases h with⟨o,h⟩|h
 .exact .inl ⟨o,e.kp p _ h rfl⟩
 .exact .inr h
theorem Ext.get0(e:Ext K H H' α α'){n:Nat}(h:α[n]?=some p):α'[n]?=some p:=by
 obtain⟨β,e1⟩:=e.al;have hl:n<α.length:=(au.mp h).1;rw[e1,ac hl];exact h
theorem Ext.get(e:Ext K H H' α α')(h:RefK H α j n p):RefK H' α' j n p:=⟨e.get0 h.at',e.kn _ _ h.kn⟩
theorem Rep.mono(e:Ext K H H' α α')(h:Rep K H α v d):Rep K H' α' v d:=
 Rep.rec (motive_1:=λv d _=>Rep K H' α' v d) (motive_2:=λv d _=>Reps K H' α' v d) (non:=.non) (bl:=.bl) (int:=.int) (str:=.str) (tup:=λh _ r=>.tup (e.tup _ _ h) r) (rol:=λh _ r=>.rol (e.rol _ _ h) r)
  (ref:=λh=>.ref (e.get h))
  (du:=λh=>.du (e.get h))
  (nil:=.nil) (cons:=λ_ _ r t=>.cons r t) h
theorem Reps.mono(e:Ext K H H' α α')(h:Reps K H α v d):Reps K H' α' v d:=by
 induction d generalizing v with
 |nil=>cases h;exact .nil
 |cons _ _ ih=>cases h with|cons r t=>exact .cons (r.mono e) (ih t)
theorem Reps.length:∀{vs:List V}{ds:List D},Reps K H α vs ds->vs.length=ds.length:=by
 intro vs
 induction vs with
 |nil=>intro ds h;cases h;rfl
 |cons v vs ih=>
  intro ds h;cases h with
  |cons _ t=>rw[bS,bS,ih t]
theorem Reps.get:∀{vs:List V}{ds:List D}{i:Nat}{d:D},Reps K H α vs ds->ds[i]?=some d->∃v,vs[i]?=some v/\Rep K H α v d
 |_,_,_,_,.nil,e=>by simp at e
 |_,_,0,_,.cons r _,e=>by simp at e;subst e;exact⟨_,rfl,r⟩
 |_,_,i+1,d,.cons _ t,e=>by
  obtain⟨u,h1,h2⟩:=Reps.get (i:=i) (d:=d) t (by simpa using e)
  exact⟨u,by simpa using h1,h2⟩
theorem Reps.set{v:V}{d:D}(r:Rep K H α v d):∀{vs:List V}{ds:List D}(i:Nat),Reps K H α vs ds->Reps K H α (vs.set i v) (ds.set i d)
 |_,_,_,.nil=>.nil
 |_,_,0,.cons _ t=>.cons r t
 |_,_,i+1,.cons q t=>.cons q (Reps.set r i t)
theorem Reps.append:∀{vs ws:List V}{ds es:List D},Reps K H α vs ds->Reps K H α ws es->Reps K H α (vs++ws) (ds++es):=by
 intro vs
 induction vs with
 |nil=>intro ws ds es h s;cases h;exact s
 |cons v vs ih=>
  intro ws ds es h s;cases h with
  |cons r t=>exact .cons r (ih t s)
theorem Reps.ints:∀(ns:List Int),Reps K H α (ns.map V.int) (ns.map D.int)
 |[]=>.nil
 |n::r=>.cons (.int n) (Reps.ints r)
theorem Ext.new(h:H p=none):Ext K H (upd H p o) α (α++β):=
 ⟨λq u z _=>by rw[ZH (ZR z h)];exact z,λq j z=>Kn.ne z h,β,rfl⟩
theorem Ext.new0(h:H p=none):Ext K H (upd H p o) α α:=by
 have e:=Ext.new (K:=K) (H:=H) (α:=α) (o:=o) h (β:=[]);rw[cD]at e;exact e
theorem Ext.wrK(h:Kn H p=some j)(nf:∀ob w,H p≠some (.frz ob w))(h':Kn (upd H p o) p=some j):Ext K H (upd H p o) α α:=by
 refine⟨λq u z t=>?_,λq i z=>?_,[],(cD _).symm⟩
 .rw[ZH λc=>?_]
  .exact z
  .subst c;unfold Kn at h;rw[z]at h;cases u with
   |frz ob w=>exact nf _ _ z
   |tup _=>cases h
   |_=>cases t
 .by_cases c:q=p
  .subst c;rw[h]at z;cases z;exact h'
  .unfold Kn;rw[ZH c];exact z
theorem Ext.wr(h:H p=some (.lst xs)):Ext K H (upd H p (.lst ys)) α α:=Ext.wrK (Kn.lst h) (λob w z=>by rw[h]at z;cases z) (Kn.lst Zx)
noncomputable def Zob:Key->D
 |.inl i=>.int i
 |.inr x=>.str x
def Ze1(ks:List Key):D:=.tup (ks.map Zob)
def Zms(ks:List (List Key)):D:=.tup (ks.map Ze1)
noncomputable def Zca(K:Fg)(H:Hp)(α:List Addr){κ:Type}(key:κ->D)(kvs:List (κ×V))(ds:List D):Prop:=
 ∃es:List D,ds=bT (λkv e=>D.tup [key kv.1,e]) kvs es/\Reps K H α (kvs.map (·.2)) es
theorem Zdh{key:κ->D}{kvs:List (κ×V)}(h:Zca K H α key kvs ds)(e:Ext K H H' α α'):Zca K H' α' key kvs ds:=by
 obtain⟨es,h1,h2⟩:=h;exact⟨es,h1,Reps.mono e h2⟩
inductive Hd(K:Fg) (H:Hp) (α:List Addr):HO->List D->Prop where
 |lst {xs:List V} {ds:List D}:Reps K H α xs ds->Hd K H α (.lst xs) ds
 |dU {kvs:List (List (List Key)×V)} {ds:List D}:Zca K H α Zms kvs ds->Hd K H α (.dU kvs) ds
theorem Hd.mono(ex:Ext K H H' α α')(h:Hd K H α u ds):Hd K H' α' u ds:=by
 cases h with
 |lst r=>exact .lst (Reps.mono ex r)
 |dU r=>exact .dU (Zdh r ex)
noncomputable def SOk(K:Fg)(H:Hp)(α:List Addr)(p:Addr):SO->Prop
 |.lst ds=>∃u,H p=some u/\Hd K H α u ds
theorem SOk.there(h:SOk K H α p o):∃u,H p=some u:=by
 cases o with
 |lst ds=>obtain⟨u,e,_⟩:=h;exact⟨u,e⟩
theorem SOk.mono(h:SOk K H α p o)(ex:Ext K H H' α α')(e:H' p=H p):SOk K H' α' p o:=by
 cases o with
 |lst ds=>obtain⟨u,h1,h2⟩:=h;exact⟨u,e.trans h1,h2.mono ex⟩
structure HR(K:Fg) (H:Hp) (α:List Addr) (M:Sto):Prop where
 len:α.length=M.length
 nd:α.Nodup
 ob:∀(n:Nat)(p:Addr)(o:SO),α[n]?=some p->M[n]?=some o->SOk K H α p o
theorem HR.nil:HR K H [] []:=⟨rfl,List.nodup_nil,λn p o h=>by simp at h⟩
theorem Kn.at{H:Hp}(k:Kn H p=some j)(e:H p=some u):DL.kn u=some j:=by
 unfold Kn at k;rw[e]at k;exact k
theorem HR.at(h:HR K H α M)(e:RefK H α 0 n p)(m:M[n]?=some (.lst ds)):∃xs,H p=some (.lst xs)/\Reps K H α xs ds:=by
 obtain⟨u,h1,h2⟩:=h.ob n p _ e.at' m;have k:=Kn.at e.kn h1;cases h2 with
 |lst r=>exact⟨_,h1,r⟩
 |_=>cases k
theorem HR.atU(h:HR K H α M)(e:RefK H α 3 n p)(m:M[n]?=some (.lst ds)):∃kvs,H p=some (.dU kvs)/\Zca K H α Zms kvs ds:=by
 obtain⟨u,h1,h2⟩:=h.ob n p _ e.at' m;have k:=Kn.at e.kn h1;cases h2 with
 |dU r=>exact⟨_,h1,r⟩
 |_=>cases k
theorem RefK.lst{n:Nat}{p:Addr}(e:RefK H α 0 n p):∃xs,H p=some (.lst xs):=by
 cases z:H p with
 |none=>
  have:=e.kn
  unfold Kn at this;rw[z]at this;cases this
 |some u=>
  have k:=Kn.at e.kn z;unfold DL.kn at k
  split at k
  .exact⟨_,rfl⟩
  all_goals cases k
theorem HR.some_at(h:HR K H α M)(e:RefK H α 0 n p):∃xs,H p=some (.lst xs):=e.lst
theorem HR.there(h:HR K H α M){n:Nat}(e:α[n]?=some p):∃u,H p=some u:=by
 have hl:n<α.length:=(au.mp e).1;have hm:n<M.length:=by rw[<-h.len];exact hl
 exact(h.ob n p M[n] e (Gq hm)).there
theorem HR.tup{M:Sto}{p:Addr}{o:HO}(h:HR K H α M)(hp:H p=none):HR K (upd H p o) α M:=
 ⟨h.len,h.nd,λn q so e m=>by
  obtain⟨u,hu⟩:=h.there e;exact(h.ob n q so e m).mono (Ext.new0 hp) (ZH (ZR hu hp))⟩
theorem HR.newO(h:HR K H α M)(hp:H p=none)(r:SOk K (upd H p o) (α++[p]) p so):HR K (upd H p o) (α++[p]) (M++[so]):=by
 have ex:Ext K H (upd H p o) α (α++[p]):=Ext.new hp;refine⟨by rw[aI,aI,h.len];rfl,?_,λn q so' e m=>?_⟩
 .refine List.nodup_append.mpr ⟨h.nd,by simp,λa ha b hb=>?_⟩
  have hb':b=p:=by simpa using hb
  obtain⟨n,hn,e⟩:=cH ha;obtain⟨u,z⟩:=h.there (n:=n) (p:=a) (by rw[av hn,e])
  rw[hb'];exact ZR z hp
 .by_cases hn:n<α.length
  .rw[ac hn]at e;rw[ac (by rw[<-h.len];exact hn)]at m
   obtain⟨u,hu⟩:=h.there e;exact(h.ob n q so' e m).mono ex (ZH (ZR hu hp))
  .have en:n=α.length:=by
    have:n<(α++[p]).length:=(au.mp e).1
    rw[aI,fk]at this;lia
   subst en;rw[aT (ae _),gG]at e;rw[h.len,aT (ae _),gG]at m;cases e;cases m;exact r
theorem HR.new(h:HR K H α M)(hp:H p=none)(r:Reps K H α xs ds):HR K (upd H p (.lst xs)) (α++[p]) (M++[.lst ds]):=
 h.newO hp ⟨_,Zx,.lst (Reps.mono (Ext.new hp) r)⟩
theorem Zj7{n:Nat}(h:α.Nodup)(a:α[n]?=some p)(b:α[m]?=some p):n=m:=by
 obtain⟨h1,e1⟩:=au.mp a;obtain⟨h2,e2⟩:=au.mp b;exact(List.getElem_inj h).mp (e1.trans e2.symm)
theorem HR.wrO(h:HR K H α M)(e:α[n]?=some p)(ex:Ext K H (upd H p o) α α)(r:SOk K (upd H p o) α p so):HR K (upd H p o) α (M.set n so):=by
 have hn:n<M.length:=by rw[<-h.len];exact(au.mp e).1
 refine⟨by rw[cV];exact h.len,h.nd,λk q so' e' m=>?_⟩
 by_cases hk:k=n
 .subst hk;rw[e]at e';cases e';rw[ay hn]at m;cases m;exact r
 .rw[ah (bh hk)]at m;have hq:q≠p:=λz=>hk (Zj7 h.nd (z▸e') e);exact(h.ob k q so' e' m).mono ex (ZH hq)
theorem HR.wr(h:HR K H α M)(e:RefK H α 0 n p)(hp:H p=some (.lst ys))(r:Reps K H α xs ds):HR K (upd H p (.lst xs)) α (M.set n (.lst ds)):=
 h.wrO e.at' (Ext.wr hp) ⟨_,Zx,.lst (Reps.mono (Ext.wr hp) r)⟩
end
inductive Out(β:Type) where
 |ok (a:β) (M:Sto)
 |exc (c:Str) (M:Sto)
 |bad
abbrev W3:=List D->Sto->Out D
noncomputable def Out.bind(o:Out β)(f:β->Sto->Out γ):Out γ:=match o with
 |.ok a M=>f a M
 |.exc c M=>.exc c M
 |.bad=>.bad
inductive Fl where
 |nx (ρ:Ro) (M:Sto)
 |ret (d:D) (M:Sto)
 |brk (ρ:Ro) (M:Sto)
 |cnt (ρ:Ro) (M:Sto)
 |exc (c:Str) (M:Sto)
 |bad
noncomputable def Zoc(c:Str):Bool:=c==PySem.Str.ofString "NoRound"
inductive XO(K:Fg) (H:Hp) (α:List Addr) (c:Str) (M:Sto) (dct:Option Addr):Prop where
 |no (h:Zoc c=false) (hr:HR K H α M) (e:dct=none):XO K H α c M dct
noncomputable def OG{β γ:Type}(K:Fg)(R:Hp->List Addr->γ->β->Prop)(H:Hp)(α:List Addr)(ξ:XK)(Q:γ->Hp->Prop):Out β->Prop
 |.ok d M'=>∀v H' α',Ext K H H' α α'->HR K H' α' M'->R H' α' v d->Q v H'
 |.exc c M'=>∀C H' α',PySem.W.nsIn K aM c=some (some (.ref C))->Ext K H H' α α'->∀dct,XO K H' α' c M' dct->ξ (.ref C) dct H'
 |.bad=>False
theorem OG.ext{K:Fg}{R:Hp->List Addr->γ->β->Prop}{Q:γ->Hp->Prop}{o:Out β}(h:OG K R H α ξ Q o)(e:Ext K H H1 α α1):OG K R H1 α1 ξ Q o:=by
 cases o with
 |ok d M'=>exact λv H' α' e'=>h v H' α' (e.trans e')
 |exc c M'=>exact λC H' α' n e'=>h C H' α' n (e.trans e')
 |bad=>exact h
abbrev OP(K:Fg):=OG K (Rep K)
abbrev OT(K:Fg):=OG (β:=Bool) (γ:=Bool) K (λ_ _ v d=>v=d)
abbrev OA(K:Fg):=OG K (Reps K)
noncomputable def SR(K:Fg)(H:Hp)(α:List Addr)(σ:L2.St)(ρ:Ro):Prop:=σ.length=ρ.length/\∀(i:Nat)(d:D),ρ[i]?=some (some d)->∃v,σ[i]?=some (some v)/\Rep K H α v d
theorem SR.mono{K:Fg}(h:SR K H α σ ρ)(e:Ext K H H' α α'):SR K H' α' σ ρ:=
 ⟨h.1,λi d q=>let ⟨v,a,b⟩:=h.2 i d q;⟨v,a,Rep.mono e b⟩⟩
theorem SR.set{K:Fg}(h:SR K H α σ ρ)(i:Nat)(r:Rep K H α v d):SR K H α (σ.set i (some v)) (ρ.set i (some d)):=by
 refine⟨by rw[cV,cV];exact h.1,λj e q=>?_⟩
 by_cases hj:j=i
 .subst hj;have hl:j<ρ.length:=by
   have:=(au.mp q).1
   rw[cV]at this;exact this
  rw[ay hl]at q;cases q;exact⟨v,by rw[ay (by rw[h.1];exact hl)],r⟩
 .rw[ah (bh hj)]at q;rw[ah (bh hj)];exact h.2 j e q
abbrev Ev:=Ro->Sto->Out D
abbrev Tv:=Ro->Sto->Out Bool
abbrev Av:=Ro->Sto->Out (List D)
abbrev Sv:=Ro->Sto->Fl
def DE(X:Cx)(ξ:XK)(e:Expr)(f:Ev):Prop:=∃t:TE,PE X e t/\∀σ ρ H α M Q,SR X.K H α σ ρ->HR X.K H α M->OP X.K H α ξ Q (f ρ M)->t σ H Q
def DT(X:Cx)(ξ:XK)(e:Expr)(f:Tv):Prop:=∃t:TT,PT X e t/\∀σ ρ H α M Q,SR X.K H α σ ρ->HR X.K H α M->OT X.K H α ξ Q (f ρ M)->t σ H Q
def DW(X:Cx)(ξ:XK)(e:Expr)(f:Tv):Prop:=∃t:TT,PW X e t/\∀σ ρ H α M Q,SR X.K H α σ ρ->HR X.K H α M->OT X.K H α ξ Q (f ρ M)->t σ H Q
def DA(X:Cx)(ξ:XK)(es:List Expr)(f:Av):Prop:=∃t:TA,PA X es t/\∀σ ρ H α M Q,SR X.K H α σ ρ->HR X.K H α M->OA X.K H α ξ Q (f ρ M)->t σ H Q
theorem OG.seq{K:Fg}{R:Hp->List Addr->γ->β->Prop}{R':Hp->List Addr->γ'->β'->Prop}{Q:γ'->Hp->Prop}{Q1:γ->Hp->Prop}{o:Out β}{f:β->Sto->Out β'}(h:OG K R' H α ξ Q (o.bind f))(k:∀d M' v H' α',Ext K H H' α α'->HR K H' α' M'->R H' α' v d->OG K R' H' α' ξ Q (f d M')->Q1 v H'):OG K R H α ξ Q1 o:=by
 cases o with
 |ok d M'=>exact λv H' α' e hr r=>k d M' v H' α' e hr r (OG.ext (o:=f d M') h e)
 |exc c M'=>exact h
 |bad=>exact h
section
variable {X:Cx}{ξ:XK}{fa fb:Ev}
noncomputable def Zg(i:Nat):Ev:=λρ M=>match ρ[i]? with|some (some d)=>.ok d M|_=>.bad
noncomputable def eC(d:D):Ev:=λ_ M=>.ok d M
theorem Za(i:Nat)(hN:autoParam (X.N[i]?=some x) Qrf._auto_1)(hv:Vis X.env.scope x:=by first|exact c8 rfl|exact kz (c8 rfl)|exact kz (kz rfl))(hd:autoParam ((x==("__debug__":Str))=false) Qde._auto_1)(hcd:autoParam ((x==("__classdict__":Str))=false) Qde._auto_1):DE X ξ (.Name x pos) (Zg i):=by
 refine⟨_,Zk9 hN hv hd hcd,λσ ρ H α M Q s h q=>?_⟩;unfold Zg at q;cases e:ρ[i]? with
 |none=>rw[e]at q;exact q.elim
 |some o=>
  cases o with
  |none=>rw[e]at q;exact q.elim
  |some d=>
   rw[e]at q;obtain⟨v,h1,h2⟩:=s.2 i d e;exact⟨v,h1,q v H α Ext.refl h h2⟩
theorem Zd{j pos}:DE X ξ (.Constant (.int i) j pos) (eC (.int i)):=⟨_,Zou,λ_ _ H α M _ _ h q=>q _ H α Ext.refl h (.int i)⟩
theorem Zmt{j pos}:DE X ξ (.Constant (.bool i) j pos) (eC (.bl i)):=⟨_,Zr2,λ_ _ H α M _ _ h q=>q _ H α Ext.refl h (.bl i)⟩
theorem Za4{j pos}:DE X ξ (.Constant .none j pos) (eC .non):=⟨_,Zov,λ_ _ H α M _ _ h q=>q _ H α Ext.refl h .non⟩
theorem Zbt{j pos}:DE X ξ (.Constant (.str x) j pos) (eC (.str x)):=⟨_,Zow,λ_ _ H α M _ _ h q=>q _ H α Ext.refl h (.str x)⟩
abbrev Bo:=D->D->Sto->Out D
def e2(f:Bo)(fa fb:Ev):Ev:=λρ M=>(fa ρ M).bind λx M1=>(fb ρ M1).bind λy M2=>f x y M2
def BO(X:Cx)(ξ:XK)(r:R2)(f:Bo):Prop:=∀H α M v w x y Q,HR X.K H α M->Rep X.K H α v x->Rep X.K H α w y->OP X.K H α ξ Q (f x y M)->r v w H Q
theorem two{r:R2}{f:Bo}(hb:BO X ξ r f){ta tb:TE}(qa:∀σ ρ H α M Q,SR X.K H α σ ρ->HR X.K H α M->OP X.K H α ξ Q (fa ρ M)->ta σ H Q)(qb:∀σ ρ H α M Q,SR X.K H α σ ρ->HR X.K H α M->OP X.K H α ξ Q (fb ρ M)->tb σ H Q):∀σ ρ H α M Q,SR X.K H α σ ρ->HR X.K H α M->OP X.K H α ξ Q (e2 f fa fb ρ M)->tOp r ta tb σ H Q:=by
 intro σ ρ H α M Q s h q;refine qa σ ρ H α M _ s h (OG.seq q λx M1 v H1 α1 e1 h1 r1 q1=>?_);refine qb σ ρ H1 α1 M1 _ (s.mono e1) h1 (OG.seq q1 λy M2 w H2 α2 e2 h2 r2 q2=>?_);exact hb H2 α2 M2 v w x y Q h2 (Rep.mono e2 r1) r2 q2
theorem ZgN(ho:OpR X (eU op) r)(hf:BO X ξ r f)(ha:DE X ξ a fa)(hb:DE X ξ b fb):DE X ξ (.BinOp a op b pos) (e2 f fa fb):=by
 obtain⟨ta,ha,qa⟩:=ha;obtain⟨tb,hb,qb⟩:=hb;exact⟨_,Zsc ho ha hb,two hf qa qb⟩
theorem Zhz(ho:OpR X (dE op) r)(hf:BO X ξ r f)(ha:DE X ξ a fa)(hb:DE X ξ b fb)(hm:fX op b=false:=by first|exact Zla _|with_unfolding_all rfl):DE X ξ (.Compare a [op] [b] pos) (e2 f fa fb):=by
 obtain⟨ta,ha,qa⟩:=ha;obtain⟨tb,hb,qb⟩:=hb;exact⟨_,Zmb ho ha hb hm,two hf qa qb⟩
def tv(f:Ev):Tv:=λρ M=>(f ρ M).bind λx M1=>match x with|.bl k=>.ok k M1|_=>.bad
theorem Zo5{t:TE}{f:Ev}(qa:∀σ ρ H α M Q,SR X.K H α σ ρ->HR X.K H α M->OP X.K H α ξ Q (f ρ M)->t σ H Q):∀σ ρ H α M Q,SR X.K H α σ ρ->HR X.K H α M->OT X.K H α ξ Q (tv f ρ M)->ZoN t σ H Q:=by
 intro σ ρ H α M Q s h q;refine qa σ ρ H α M _ s h (OG.seq q λx M1 v H1 α1 e1 h1 r1 q1=>?_);cases r1 with
 |bl k=>exact⟨k,rfl,q1 k H1 α1 Ext.refl h1 rfl⟩
 |_=>exact q1.elim
theorem ZB(ho:OpR X (dE op) r)(hf:BO X ξ r f)(ha:DE X ξ a fa)(hb:DE X ξ b fb)(hm:fX op b=false:=by first|exact Zla _|with_unfolding_all rfl):DT X ξ (.Compare a [op] [b] pos) (tv (e2 f fa fb)):=by
 obtain⟨ta,ha,qa⟩:=ha;obtain⟨tb,hb,qb⟩:=hb;exact⟨_,Zmc ho ha hb hm,Zo5 (two hf qa qb)⟩
theorem Zdi(h:DE X ξ e fa)(he:autoParam (∀whole,isTrue e X.env whole=(do let v <-whole;standAt e.pos;holding [v] (truthy v))) Qin._auto_1):DT X ξ e (tv fa):=by
 obtain⟨ta,ha,qa⟩:=h;exact⟨_,Zox ha he,Zo5 qa⟩
def ZbY(f g:Tv):Tv:=λρ M=>(f ρ M).bind λk M1=>if k=true then g ρ M1 else .ok false M1
def Zmu(f g:Tv):Tv:=λρ M=>(f ρ M).bind λk M1=>if k=true then .ok true M1 else g ρ M1
def Ze2(f:Tv):Tv:=λρ M=>(f ρ M).bind λk M1=>.ok (!k) M1
theorem ZaV(ha:DT X ξ a ga):DW X ξ (.BoolOp .And [a] pos) ga:=let ⟨_,h,q⟩:=ha;⟨_,pw_and1 h,q⟩
theorem ZhA(ha:DT X ξ a ga):DW X ξ (.BoolOp .Or [a] pos) ga:=let ⟨_,h,q⟩:=ha;⟨_,pw_or1 h,q⟩
theorem ZbK(ha:DT X ξ a ga)(hb:DW X ξ (.BoolOp .And (b::rest) pos) gb):DW X ξ (.BoolOp .And (a::b::rest) pos) (ZbY ga gb):=by
 obtain⟨ta,ha,qa⟩:=ha;obtain⟨tb,hb,qb⟩:=hb;refine⟨_,pw_and ha hb,λσ ρ H α M Q s h q=>?_⟩;refine qa σ ρ H α M _ s h (OG.seq q λk M1 v H1 α1 e1 h1 r1 q1=>?_);cases r1;cases k with
 |true=>exact Zmn (qb σ ρ H1 α1 M1 Q (s.mono e1) h1 q1)
 |false=>exact Zmm (q1 false H1 α1 Ext.refl h1 rfl)
theorem Zmv(ha:DT X ξ a ga)(hb:DW X ξ (.BoolOp .Or (b::rest) pos) gb):DW X ξ (.BoolOp .Or (a::b::rest) pos) (Zmu ga gb):=by
 obtain⟨ta,ha,qa⟩:=ha;obtain⟨tb,hb,qb⟩:=hb;refine⟨_,pw_or ha hb,λσ ρ H α M Q s h q=>?_⟩;refine qa σ ρ H α M _ s h (OG.seq q λk M1 v H1 α1 e1 h1 r1 q1=>?_);cases r1;cases k with
 |true=>exact Zmn (q1 true H1 α1 Ext.refl h1 rfl)
 |false=>exact Zmm (qb σ ρ H1 α1 M1 Q (s.mono e1) h1 q1)
theorem Zg3(h:DW X ξ e ga):DT X ξ e ga:=let ⟨_,h,q⟩:=h;⟨_,h.pt,q⟩
theorem Zlf(ha:DT X ξ a ga):DT X ξ (.UnaryOp .Not a pos) (Ze2 ga):=by
 obtain⟨ta,ha,qa⟩:=ha;refine⟨_,Zoy ha,λσ ρ H α M Q s h q=>?_⟩;refine qa σ ρ H α M _ s h (OG.seq q λk M1 v H1 α1 e1 h1 r1 q1=>?_);cases r1;exact q1 (!k) H1 α1 Ext.refl h1 rfl
def ZhB(f g:Ev):Ev:=λρ M=>(f ρ M).bind λx M1=>match x with|.bl k=>if k=true then g ρ M1 else .ok (.bl false) M1|_=>.bad
def ZvD(f g:Ev):Ev:=λρ M=>(f ρ M).bind λx M1=>match x with|.bl k=>if k=true then .ok (.bl true) M1 else g ρ M1|_=>.bad
def ZhC(f:Ev):Ev:=λρ M=>(f ρ M).bind λx M1=>match x with|.bl k=>.ok (.bl (!k)) M1|_=>.bad
theorem Zo6{op}(ha:DE X ξ a fa):DE X ξ (.BoolOp op [a] pos) fa:=let ⟨_,h,q⟩:=ha;⟨_,Zoz h,q⟩
theorem Zo7(ha:DE X ξ a fa)(hb:DE X ξ (.BoolOp .And (b::rest) pos) fb):DE X ξ (.BoolOp .And (a::b::rest) pos) (ZhB fa fb):=by
 obtain⟨ta,ha,qa⟩:=ha;obtain⟨tb,hb,qb⟩:=hb;refine⟨_,ZoA ha hb,λσ ρ H α M Q s h q=>?_⟩;refine qa σ ρ H α M _ s h (OG.seq q λx M1 v H1 α1 e1 h1 r1 q1=>?_);cases r1 with
 |bl k=>
  refine⟨k,rfl,?_⟩;cases k with
  |true=>exact Zmn (qb σ ρ H1 α1 M1 Q (s.mono e1) h1 q1)
  |false=>exact Zmm (q1 _ H1 α1 Ext.refl h1 (.bl false))
 |_=>exact q1.elim
theorem Zo8(ha:DE X ξ a fa):DE X ξ (.UnaryOp .Not a pos) (ZhC fa):=by
 obtain⟨ta,ha,qa⟩:=ha;refine⟨_,ZoB ha,λσ ρ H α M Q s h q=>?_⟩;refine qa σ ρ H α M _ s h (OG.seq q λx M1 v H1 α1 e1 h1 r1 q1=>?_);cases r1 with
 |bl k=>exact⟨k,rfl,q1 _ H1 α1 Ext.refl h1 (.bl (!k))⟩
 |_=>exact q1.elim
def eIf(c:Tv)(f g:Ev):Ev:=λρ M=>(c ρ M).bind λk M1=>if k=true then f ρ M1 else g ρ M1
theorem Zsp(hc:DT X ξ c ga)(ha:DE X ξ a fa)(hb:DE X ξ b fb):DE X ξ (.IfExp c a b pos) (eIf ga fa fb):=by
 obtain⟨tc,hc,qc⟩:=hc;obtain⟨ta,ha,qa⟩:=ha;obtain⟨tb,hb,qb⟩:=hb;refine⟨_,ZjS hc ha hb,λσ ρ H α M Q s h q=>?_⟩;refine qc σ ρ H α M _ s h (OG.seq q λk M1 v H1 α1 e1 h1 r1 q1=>?_);cases r1;cases k with
 |true=>exact Zmn (qa σ ρ H1 α1 M1 Q (s.mono e1) h1 q1)
 |false=>exact Zmm (qb σ ρ H1 α1 M1 Q (s.mono e1) h1 q1)
noncomputable def aNil:Av:=λ_ M=>.ok [] M
def Zc(f:Ev)(g:Av):Av:=λρ M=>(f ρ M).bind λx M1=>(g ρ M1).bind λxs M2=>.ok (x::xs) M2
theorem Ze:DA X ξ [] aNil:=⟨_,Zlb,λ_ _ H α M _ _ h q=>q _ H α Ext.refl h .nil⟩
theorem Zb(ha:DE X ξ e fa)(hr:DA X ξ es fs)(hs:autoParam (aA (e::es) X.env=(false,eval e X.env)::aA es X.env) Qrf._auto_1):DA X ξ (e::es) (Zc fa fs):=by
 obtain⟨ta,ha,qa⟩:=ha;obtain⟨tb,hb,qb⟩:=hr;refine⟨_,ZeX ha hb hs,λσ ρ H α M Q s h q=>?_⟩;refine qa σ ρ H α M _ s h (OG.seq q λx M1 v H1 α1 e1 h1 r1 q1=>?_);refine qb σ ρ H1 α1 M1 _ (s.mono e1) h1 (OG.seq q1 λy M2 w H2 α2 e2 h2 r2 q2=>?_);exact q2 _ H2 α2 Ext.refl h2 (.cons (Rep.mono e2 r1) r2)
def Zal(f:Av):Ev:=λρ M=>(f ρ M).bind λxs M1=>if xs.length<=1000 then .ok (.tup xs) M1 else .bad
def ZbI(f:Av):Ev:=λρ M=>(f ρ M).bind λxs M1=>if xs.length<=1000 then .ok (.ref M1.length) (M1++[.lst xs])else .bad
theorem small(h:n<=1000):n<=sizeLine:=cM (Zhv h)
theorem ZC{x1}(ha:DA X ξ es fs):DE X ξ (.Tuple es x1 pos) (Zal fs):=by
 obtain⟨ta,ha,qa⟩:=ha;refine⟨_,ZoO ha,λσ ρ H α M Q s h q=>?_⟩;refine qa σ ρ H α M _ s h (OG.seq q λxs M1 vs H1 α1 e1 h1 r1 q1=>?_);by_cases hl:xs.length<=1000
 .rw[if_pos hl]at q1;refine⟨by rw[r1.length];exact small hl,λp hp=>q1 _ _ α1 (Ext.new0 hp) (h1.tup hp) (.tup Zx (Reps.mono (Ext.new0 hp) r1))⟩
 .rw[if_neg hl]at q1;exact q1.elim
theorem HR.last{K:Fg}(h:HR K H α M)(p:Addr):(α++[p])[M.length]?=some p:=by
 rw[<-h.len,aT (ae _),gG];rfl
theorem ZS(ha:DA X ξ es fs):DE X ξ (.List es pos) (ZbI fs):=by
 obtain⟨ta,ha,qa⟩:=ha;refine⟨_,ZoP ha,λσ ρ H α M Q s h q=>?_⟩;refine qa σ ρ H α M _ s h (OG.seq q λxs M1 vs H1 α1 e1 h1 r1 q1=>?_);by_cases hl:xs.length<=1000
 .rw[if_pos hl]at q1;refine⟨by rw[r1.length];exact small hl,λp hp=>q1 _ _ (α1++[p]) (Ext.new hp) (h1.new hp r1) (.ref ⟨h1.last p,Kn.lst Zx⟩)⟩
 .rw[if_neg hl]at q1;exact q1.elim
end
end DL
namespace DL
open PyProof.Rows L2
open PySem.SeqAt (EqAt RcAt RcNeAt)
noncomputable def Zs(i j:Int):Prop:=fN i<=64\/fN j<=64\/(fN i<=60000000/\fN j<=60000000)
instance (i j:Int):Decidable (Zs i j):=by unfold Zs;infer_instance
theorem Zs.ok(h:Zs i j):IntMulOk i j:=by
 rcases h with h|h|⟨h1,h2⟩
 .exact .of_left h
 .exact .of_right h
 .exact .of_le h1 h2 (by decide)
theorem Zn(m n:Nat)(h1:i.natAbs<2^m)(h2:j.natAbs<2^n)(hm:autoParam (m<=60000000) Qde._auto_1)(hn:autoParam (n<=60000000) Qde._auto_1):Zs i j:=
 .inr (.inr ⟨aU (intBits_le_iff.mpr h1) hm,aU (intBits_le_iff.mpr h2) hn⟩)
noncomputable def ZaK(j:Int):Prop:=j≠0/\j.natAbs.log2<9000
instance (j:Int):Decidable (ZaK j):=by unfold ZaK;infer_instance
theorem Zmw:OpR X (eU .Mult) (rI Zs λi j=>.int (i*j)):=opI λ_ _ _ _ _ _ _ hc q=>mul_int q hc.ok
theorem Zj8:OpR X (eU .FloorDiv) (rI (λ_ j=>ZaK j) λi j=>.int (i.fdiv j)):=opI λ_ _ _ _ _ _ _ hc q=>floordiv_int hc.1 q (.inl (PyProof.noPylong_of_log2 hc.2))
noncomputable def dAdd:Bo:=λx y M=>match x,y with
 |.int i,.int j=>.ok (.int (i+j)) M
 |.str i,.str j=>if i.length+j.length<=100000 then .ok (.str (i++j)) M else .bad
 |.ref n,.ref m=>match M[n]?,M[m]? with
  |some (.lst xs),some (.lst ys)=>if xs.length+ys.length<=10000000 then .ok (.ref M.length) (M++[.lst (xs++ys)])else .bad
  |_,_=>.bad
 |.tup xs,.tup ys=>if xs.length+ys.length<=100000/\xs≠[]then .ok (.tup (xs++ys)) M else .bad
 |_,_=>.bad
noncomputable def dSub:Bo:=λx y M=>match x,y with|.int i,.int j=>.ok (.int (i-j)) M|_,_=>.bad
def dMul:Bo:=λx y M=>match x,y with|.int i,.int j=>if Zs i j then .ok (.int (i*j)) M else .bad|_,_=>.bad
def dDiv:Bo:=λx y M=>match x,y with|.int i,.int j=>if ZaK j then .ok (.int (i.fdiv j)) M else .bad|_,_=>.bad
noncomputable def dMod:Bo:=λx y M=>match x,y with|.int i,.int j=>if j≠0 then .ok (.int (i.fmod j)) M else .bad|_,_=>.bad
noncomputable def dPow:Bo:=λx y M=>match x,y with|.int i,.int j=>if 0<=j/\j<=1000000/\i.natAbs<2^64 then .ok (.int (i^j.toNat)) M else .bad|_,_=>.bad
noncomputable def dLt:Bo:=λx y M=>match x,y with|.int i,.int j=>.ok (.bl (decide (i<j))) M|_,_=>.bad
noncomputable def dLe:Bo:=λx y M=>match x,y with|.int i,.int j=>.ok (.bl (decide (i<=j))) M|_,_=>.bad
noncomputable def dGt:Bo:=λx y M=>match x,y with|.int i,.int j=>.ok (.bl (decide (j<i))) M|_,_=>.bad
noncomputable def dGe:Bo:=λx y M=>match x,y with|.int i,.int j=>.ok (.bl (decide (j<=i))) M|_,_=>.bad
theorem Zo9(h:n<=100000):n<=sizeLine:=aU h (by decide)
section
variable {X:Cx}{ξ:XK}
theorem ZbL{r:R2}{f:Bo}{C:Int->Int->Prop}[∀i j,Decidable (C i j)]{g:Int->Int->D}{gV:Int->Int->V}(hg:∀H α i j,Rep X.K H α (gV i j) (g i j))(hf:∀x y M,f x y M=match x,y with|.int i,.int j=>if C i j then .ok (g i j) M else .bad|_,_=>.bad)(hr:∀i j H Q,C i j->Q (gV i j) H->r (.int i) (.int j) H Q):BO X ξ r f:=by
 intro H α M v w x y Q h rv rw' q;rw[hf]at q;cases rv<;>first|exact q.elim|skip
 cases rw'<;>first|exact q.elim|skip
 rename_i i j;by_cases c:C i j
 .simp only[if_pos c]at q;exact hr i j H Q c (q _ H α Ext.refl h (hg H α i j))
 .simp only[if_neg c]at q;exact q.elim
theorem Zpa:BO X ξ (rI0 λi j=>.int (i-j)) dSub:=ZbL (C:=λ_ _=>True) (λ_ _ i j=>.int (i-j)) (λx y M=>by cases x<;>cases y<;>simp[dSub]) λi j H Q _ q=>⟨i,j,rfl,rfl,q⟩
theorem Zpb:BO X ξ (rI Zs λi j=>.int (i*j)) dMul:=ZbL (C:=Zs) (λ_ _ i j=>.int (i*j)) (λx y M=>by cases x<;>cases y<;>rfl) λi j H Q c q=>⟨i,j,rfl,rfl,c,q⟩
theorem Zpc:BO X ξ (rI (λ_ j=>ZaK j) λi j=>.int (i.fdiv j)) dDiv:=ZbL (C:=λ_ j=>ZaK j) (λ_ _ i j=>.int (i.fdiv j)) (λx y M=>by cases x<;>cases y<;>rfl) λi j H Q c q=>⟨i,j,rfl,rfl,c,q⟩
theorem Zpd:BO X ξ (rI (λ_ j=>j≠0) λi j=>.int (i.fmod j)) dMod:=ZbL (C:=λ_ j=>j≠0) (λ_ _ i j=>.int (i.fmod j)) (λx y M=>by cases x<;>cases y<;>rfl) λi j H Q c q=>⟨i,j,rfl,rfl,c,q⟩
theorem Zpe:BO X ξ (rI Zuu λi j=>.int (i^j.toNat)) dPow:=ZbL (C:=λi j=>0<=j/\j<=1000000/\i.natAbs<2^64) (λ_ _ i j=>.int (i^j.toNat)) (λx y M=>by cases x<;>cases y<;>rfl) λi j H Q c q=>⟨i,j,rfl,rfl,c,q⟩
theorem Ze3:BO X ξ (rI0 λi j=>.bl (decide (i<j))) dLt:=ZbL (C:=λ_ _=>True) (λ_ _ i j=>.bl _) (λx y M=>by cases x<;>cases y<;>simp[dLt]) λi j H Q _ q=>⟨i,j,rfl,rfl,q⟩
theorem Zmx:BO X ξ (rI0 λi j=>.bl (decide (i<=j))) dLe:=ZbL (C:=λ_ _=>True) (λ_ _ i j=>.bl _) (λx y M=>by cases x<;>cases y<;>simp[dLe]) λi j H Q _ q=>⟨i,j,rfl,rfl,q⟩
theorem ZgO:BO X ξ (rI0 λi j=>.bl (decide (j<i))) dGt:=ZbL (C:=λ_ _=>True) (λ_ _ i j=>.bl _) (λx y M=>by cases x<;>cases y<;>simp[dGt]) λi j H Q _ q=>⟨i,j,rfl,rfl,q⟩
theorem Zsq:BO X ξ (rI0 λi j=>.bl (decide (j<=i))) dGe:=ZbL (C:=λ_ _=>True) (λ_ _ i j=>.bl _) (λx y M=>by cases x<;>cases y<;>simp[dGe]) λi j H Q _ q=>⟨i,j,rfl,rfl,q⟩
theorem Zmy:OpR X (eU .Add) (λx y H Q=>(rI0 (λi j=>.int (i+j)) x y H Q\/(∃i j,x=.str i/\y=.str j/\i.length+j.length<=sizeLine/\Q (.str (i++j)) H))\/(rCat x y H Q\/Zmh X.K x y H Q)):=
 OpR.or (OpR.or ZoJ ZgJ) (OpR.or ZoX Zmi)
theorem Zpf:BO X ξ (λx y H Q=>(rI0 (λi j=>.int (i+j)) x y H Q\/(∃i j,x=.str i/\y=.str j/\i.length+j.length<=sizeLine/\Q (.str (i++j)) H))\/(rCat x y H Q\/Zmh X.K x y H Q)) dAdd:=by
 intro H α M v w x y Q h rv rw' q;unfold dAdd at q
 split at q
 .rename_i i j;cases rv;cases rw';exact .inl (.inl ⟨i,j,rfl,rfl,q _ H α Ext.refl h (.int (i+j))⟩)
 .rename_i i j;cases rv;cases rw'
  split at q
  .rename_i c;exact .inl (.inr ⟨i,j,rfl,rfl,Zo9 c,q _ H α Ext.refl h (.str _)⟩)
  .exact q.elim
 .rename_i n m;cases rv with
  |@ref p _ hp=>
   cases rw' with
   |@ref p2 _ hp2=>
    split at q
    .rename_i ds ds2 e1 e2
     split at q
     .rename_i c;obtain⟨xs,g1,r1⟩:=h.at hp e1;obtain⟨ys,g2,r2⟩:=h.at hp2 e2;refine .inr (.inl ⟨p,p2,xs,ys,rfl,rfl,g1,g2,by rw[r1.length,r2.length];exact aU c (by decide),λl hl=>?_⟩)
      exact q _ _ (α++[l]) (Ext.new hl) (h.new hl (r1.append r2)) (.ref ⟨h.last l,Kn.lst Zx⟩)
     .exact q.elim
    .exact q.elim
 .rename_i ds ds2;cases rv with
  |@tup p xs _ hp rp=>
   cases rw' with
   |@tup p2 xs2 _ hp2 rp2=>
    split at q
    .rename_i c;have nx:xs≠[]:=λz=>c.2 (by have:=rp.length;rw[z]at this;exact dg this.symm)
     refine .inr (.inr ⟨p,p2,xs,xs2,rfl,rfl,(SqT.of hp),(SqT.of hp2),nx,by rw[rp.length,rp2.length];exact Zo9 c.1,λz=>?_,λ_ l hl=>?_⟩)
     .subst z;cases rp2;rw[cD]at q;exact q _ H α Ext.refl h (.tup hp rp)
     .exact q _ _ α (Ext.new0 hl) (h.tup hl) (.tup Zx (Reps.mono (Ext.new0 hl) (rp.append rp2)))
    .exact q.elim
 .exact q.elim
theorem ZL(ha:DE X ξ a fa)(hb:DE X ξ b fb):DE X ξ (.BinOp a .Add b pos) (e2 dAdd fa fb):=ZgN Zmy Zpf ha hb
theorem Zad(ha:DE X ξ a fa)(hb:DE X ξ b fb):DE X ξ (.BinOp a .Sub b pos) (e2 dSub fa fb):=ZgN ZoK Zpa ha hb
theorem ZE(ha:DE X ξ a fa)(hb:DE X ξ b fb):DE X ξ (.BinOp a .Mult b pos) (e2 dMul fa fb):=ZgN Zmw Zpb ha hb
theorem ZM(ha:DE X ξ a fa)(hb:DE X ξ b fb):DE X ξ (.BinOp a .FloorDiv b pos) (e2 dDiv fa fb):=ZgN Zj8 Zpc ha hb
theorem ZN(ha:DE X ξ a fa)(hb:DE X ξ b fb):DE X ξ (.BinOp a .Mod b pos) (e2 dMod fa fb):=ZgN Zl9 Zpd ha hb
theorem ZcE(ha:DE X ξ a fa)(hb:DE X ξ b fb):DE X ξ (.BinOp a .Pow b pos) (e2 dPow fa fb):=ZgN ZoL Zpe ha hb
def Ze4(f:Ev):Ev:=λρ M=>(f ρ M).bind λx M1=>match x with|.int i=>.ok (.int (-i)) M1|_=>.bad
theorem Zba(ha:DE X ξ a fa):DE X ξ (.UnaryOp .USub a pos) (Ze4 fa):=by
 obtain⟨ta,ha,qa⟩:=ha;refine⟨_,Zsd ZoM ha,λσ ρ H α M Q s h q=>?_⟩;refine qa σ ρ H α M _ s h (OG.seq q λx M1 v H1 α1 e1 h1 r1 q1=>?_);cases r1 with
 |int i=>exact⟨i,rfl,q1 _ H1 α1 Ext.refl h1 (.int (-i))⟩
 |_=>exact q1.elim
def atD(xs:List D)(i:Int)(M:Sto):Out D:=match atI xs i with|some d=>.ok d M|none=>.bad
def dIx:Bo:=λx y M=>match x,y with
 |.tup xs,.int i=>atD xs i M
 |.rol xs,.int i=>atD xs i M
 |.ref n,.int i=>match M[n]? with|some (.lst xs)=>atD xs i M|_=>.bad
 |_,_=>.bad
theorem Reps.atI{K:Fg}(r:Reps K H α vs ds)(h:L2.atI ds i=some d):∃v,L2.atI vs i=some v/\Rep K H α v d:=by
 unfold L2.atI at h ⊢;rw[r.length];cases e:ixN ds.length i with
 |none=>rw[e]at h;cases h
 |some j=>
  rw[e]at h;exact r.get h
theorem Zsr:BO X ξ (λx y H Q=>Zuv X.K x y H Q\/Zuw X.K x y H Q) dIx:=by
 intro H α M v w x y Q h rv rw' q;have at':∀{ds:List D}{i:Int},OP X.K H α ξ Q (atD ds i M)->∃d,L2.atI ds i=some d/\OP X.K H α ξ Q (.ok d M):=λ{ds i} q=>by
  unfold atD at q;cases e:L2.atI ds i with
  |none=>rw[e]at q;exact q.elim
  |some d=>rw[e]at q;exact⟨d,rfl,q⟩
 unfold dIx at q
 split at q
 .rename_i ds i;cases rw';cases rv with
  |@tup p xs _ hp rp=>
   obtain⟨d,e,q⟩:=at' q;obtain⟨v,h1,h2⟩:=rp.atI e;exact .inr ⟨p,xs,i,v,rfl,rfl,(SqT.of hp),h1,q v H α Ext.refl h h2⟩
 .rename_i ds i;cases rw';cases rv with
  |@rol p xs _ hp rp=>
   obtain⟨d,e,q⟩:=at' q;obtain⟨v,h1,h2⟩:=rp.atI e;exact .inl ⟨p,xs,i,v,rfl,rfl,hp.sq,h1,q v H α Ext.refl h h2⟩
 .rename_i n i;cases rw';cases rv with
  |@ref p _ hp=>
   split at q
   .rename_i ds e1;obtain⟨d,e,q⟩:=at' q;obtain⟨xs,g1,r1⟩:=h.at hp e1;obtain⟨v,h1,h2⟩:=r1.atI e;exact .inl ⟨p,xs,i,v,rfl,rfl,SqL.of g1,h1,q v H α Ext.refl h h2⟩
   .exact q.elim
 .exact q.elim
theorem Zm(ha:DE X ξ a fa)(hb:DE X ξ b fb)(hs:Zhs b:=by exact λ_ _=>rfl):DE X ξ (.Subscript a b pos) (e2 dIx fa fb):=by
 obtain⟨ta,ha,qa⟩:=ha;obtain⟨tb,hb,qb⟩:=hb;exact⟨_,Zsi (IxR.or Zmk ZoU) ha hb hs,two Zsr qa qb⟩
end
inductive Kd where
 |non|bl (b:Bool)|int (i:Int)|str (x:Str)|tup (xs:List D)|lst (xs:List D)
noncomputable def kd(M:Sto):D->Option Kd
 |.non=>some .non
 |.bl b=>some (.bl b)
 |.int i=>some (.int i)
 |.str x=>some (.str x)
 |.tup xs=>some (.tup xs)
 |.rol xs=>some (.lst xs)
 |.ref n=>match M[n]? with|some (.lst xs)=>some (.lst xs)|_=>none
 |.du _=>none
noncomputable def eqL(f:D->D->Option Bool):List D->List D->Option Bool
 |[],[]=>some true
 |x::xs,y::ys=>match f x y with|some a=>(match eqL f xs ys with|some b=>some (a&&b)|none=>none)|none=>none
 |_,_=>some false
def eqK(f:D->D->Option Bool):Kd->Kd->Option Bool
 |.non,.non=>some true
 |.bl a,.bl b=>some (a==b)
 |.bl a,.int b=>some ((if a then 1 else 0)==b)
 |.int a,.bl b=>some (a==(if b then 1 else 0))
 |.int a,.int b=>some (a==b)
 |.str a,.str b=>some (a==b)
 |.tup xs,.tup ys=>eqL f xs ys
 |.lst xs,.lst ys=>if xs.length=ys.length then eqL f xs ys else some false
 |_,_=>some false
def eqF:Nat->Sto->D->D->Option Bool
 |0,_,_,_=>none
 |n+1,M,x,y=>match kd M x,kd M y with|some a,some b=>eqK (eqF n M) a b|_,_=>none
inductive Vw(X:Cx) (H:Hp) (α:List Addr) (s:aH):Kd->aa->Prop where
 |non:Vw X H α s .non .none
 |bl (b:Bool):Vw X H α s (.bl b) (.bool b)
 |int (i:Int) (t:Tok):Vw X H α s (.int i) (.int i t)
 |str (x:Str) (t:Tok):Vw X H α s (.str x) (.str x t)
 |tup {p:Addr} {xs:List V} {ds:List D} {its:List aa}:s.heap.IsTuple p its.toArray->ZU xs its->Reps X.K H α xs ds->Vw X H α s (.tup ds) (.ref p)
 |lst {p:Addr} {xs:List V} {ds:List D} {its:List aa}:s.heap.IsList p its.toArray->ZU xs its->Reps X.K H α xs ds->Vw X H α s (.lst ds) (.ref p)
section
variable {X:Cx}{pins:Pn}{σ:L2.St}{H:Hp}{s:aH}{α:List Addr}{M:Sto}
theorem vw(I:Inv X pins σ H s)(h:HR X.K H α M)(r:Rep X.K H α v x)(ru:ZT v u)(e:kd M x=some k):Vw X H α s k u:=by
 cases r with
 |non=>cases e;cases ru;exact .non
 |bl b=>cases e;cases ru;exact .bl b
 |int i=>cases e;obtain⟨t,rfl⟩:=ru;exact .int i t
 |str x=>cases e;obtain⟨t,rfl⟩:=ru;exact .str x t
 |du _=>cases e
 |@tup p xs ds hp rp=>
  cases e;cases ru;obtain⟨its,h1,h2,_⟩:=I.tuple (SqT.of hp);exact .tup h2 h1 rp
 |@rol p xs ds hp rp=>
  cases e;cases ru;obtain⟨its,h1,h2,_⟩:=I.list hp.sq;exact .lst h2.isList h1 rp
 |@ref p n hp=>
  cases ru;cases e1:M[n]? with
  |none=>simp only[kd,e1]at e;cases e
  |some o=>
   cases o with
   |lst ds=>
    simp only[kd,e1]at e;cases e;obtain⟨xs,g1,r1⟩:=h.at hp e1;obtain⟨its,h1,h2,_⟩:=I.list (SqL.of g1);exact .lst h2.isList h1 r1
noncomputable def Eq3(A:cZ)(s:aH)(u z:aa)(b:Bool):Prop:=EqAt A s u z b/\RcAt A s u z b/\RcNeAt A s u z (!b)
theorem ZhD{f:D->D->Option Bool}:∀{xs ys:List D}{b:Bool},eqL f xs ys=some b->(∀(j:Nat) x y,xs[j]?=some x->ys[j]?=some y->∃c,f x y=some c)/\b=((aC (min xs.length ys.length)).all (λj=>match xs[j]?,ys[j]? with|some x,some y=>(f x y).getD false|_,_=>false)&&xs.length==ys.length)
 |[],[],b,e=>by
  simp only[eqL,aw]at e;subst e;exact⟨λj x y h=>(by simp at h),(by simp)⟩
 |x::xs,[],b,e=>by
  simp only[eqL,aw]at e;subst e;exact⟨λj x y h1 h2=>(by simp at h2),(by simp)⟩
 |[],y::ys,b,e=>by
  simp only[eqL,aw]at e;subst e;exact⟨λj x y h1 h2=>(by simp at h1),(by simp)⟩
 |x::xs,y::ys,b,e=>by
  cases e1:f x y with
  |none=>simp only[eqL,e1]at e;cases e
  |some a=>
   cases e2:eqL f xs ys with
   |none=>simp only[eqL,e1,e2]at e;cases e
   |some c=>
    simp only[eqL,e1,e2,aw]at e;subst e;obtain⟨h1,h2⟩:=ZhD e2;refine⟨λj x' y' g1 g2=>?_,?_⟩
    .cases j with
     |zero=>
      simp at g1 g2;subst g1 g2;exact⟨a,e1⟩
     |succ j=>
      simp at g1 g2;exact h1 j x' y' g1 g2
    .have em:min (x::xs).length (y::ys).length=min xs.length ys.length+1:=by simp only[bS];lia
     rw[em,List.range_succ_eq_map,List.all_cons,List.all_map,h2];simp[e1,Bool.and_assoc,Function.comp_def]
theorem Zj9(I:Inv X pins σ H s)(h:HR X.K H α M):∀(n:Nat){v:V}{x y:D}{b:Bool},Rep X.K H α v x->Rep X.K H α v y->eqF n M x y=some b->b=true:=by
 intro n
 induction n with
 |zero=>intro v x y b _ _ e;simp only[eqF]at e;cases e
 |succ n ih=>
  have lists:∀(vs:List V)(xs ys:List D)(b:Bool),Reps X.K H α vs xs->Reps X.K H α vs ys->eqL (eqF n M) xs ys=some b->b=true:=by
   intro vs
   induction vs with
   |nil=>
    intro xs ys b r1 r2 e;cases r1;cases r2;simp only[eqL,aw]at e;exact e.symm
   |cons v vs iv=>
    intro xs ys b r1 r2 e;cases r1 with
    |cons p1 t1=>
     cases r2 with
     |cons p2 t2=>
      rename_i d1 ds1 d2 ds2;cases e1:eqF n M d1 d2 with
      |none=>simp only[eqL,e1]at e;cases e
      |some a=>
       cases e2:eqL (eqF n M) ds1 ds2 with
       |none=>simp only[eqL,e1,e2]at e;cases e
       |some c=>
        simp only[eqL,e1,e2,aw]at e;rw[<-e,ih p1 p2 e1,iv _ _ _ t1 t2 e2];rfl
  intro v x y b r1 r2 e;have nl:∀{p:Addr}{xs ys:List V},SqT X.K H p xs->SqL X.K H p ys->False:=λ{p xs ys} a c=>by
   obtain⟨i1,_,⟨o1,g1,c1,_⟩,_⟩:=I.tuple a;obtain⟨i2,_,⟨o2,_,g2,c2,_⟩,_⟩:=I.list c;rw[g1]at g2;cases g2;rw[c1]at c2;exact absurd c2 (by decide)
  have ll:∀{p:Addr}{n:Nat}{ds:List D},RefK H α 0 n p->M[n]?=some (.lst ds)->∃vs,SqL X.K H p vs/\Reps X.K H α vs ds:=λ{p n ds} a c=>by
   obtain⟨xs,g1,r1⟩:=h.at a c;exact⟨xs,SqL.of g1,r1⟩
  cases r1 with
  |non=>cases r2;simp only[eqF,kd,eqK,aw]at e;exact e.symm
  |bl c=>cases r2;simp only[eqF,kd,eqK,aw,beq_self_eq_true]at e;exact e.symm
  |int c=>cases r2;simp only[eqF,kd,eqK,aw,beq_self_eq_true]at e;exact e.symm
  |str c=>cases r2;simp only[eqF,kd,eqK,aw,beq_self_eq_true]at e;exact e.symm
  |du _=>simp[eqF,kd]at e
  |@tup p xs ds hp rp=>
   cases r2 with
   |@tup _ xs2 ds2 hp2 rp2=>
    cases I.tuple_inj (SqT.of hp) (SqT.of hp2);simp only[eqF,kd,eqK]at e;exact lists _ _ _ _ rp rp2 e
   |@rol _ xs2 ds2 hp2 rp2=>exact(nl (SqT.of hp) hp2.sq).elim
   |du _=>simp[eqF,kd]at e
   |@ref _ n2 hp2=>
    obtain⟨ys,g⟩:=h.some_at hp2;exact(nl (SqT.of hp) (SqL.of g)).elim
  |@rol p xs ds hp rp=>
   cases r2 with
   |@tup _ xs2 ds2 hp2 rp2=>exact(nl (SqT.of hp2) hp.sq).elim
   |du _=>simp[eqF,kd]at e
   |@rol _ xs2 ds2 hp2 rp2=>
    cases I.list_inj hp.sq hp2.sq;simp only[eqF,kd,eqK,if_pos (rp.length.symm.trans rp2.length)]at e;exact lists _ _ _ _ rp rp2 e
   |@ref _ n2 hp2=>
    cases e1:M[n2]? with
    |none=>simp only[eqF,kd,e1]at e;cases e
    |some o=>
     cases o with
     |lst ds2=>
      obtain⟨ys,g,r⟩:=ll hp2 e1;cases I.list_inj hp.sq g;simp only[eqF,kd,e1,eqK,if_pos (rp.length.symm.trans r.length)]at e;exact lists _ _ _ _ rp r e
  |@ref p n1 hp=>
   cases e0:M[n1]? with
   |none=>simp only[eqF,kd,e0]at e;cases e
   |some o0=>
    cases o0 with
    |lst ds=>
     obtain⟨xs,g0,rp⟩:=ll hp e0;cases r2 with
     |@tup _ xs2 ds2 hp2 rp2=>exact(nl (SqT.of hp2) g0).elim
     |du _=>simp[eqF,kd,e0]at e
     |@rol _ xs2 ds2 hp2 rp2=>
      cases I.list_inj g0 hp2.sq;simp only[eqF,kd,e0,eqK,if_pos (rp.length.symm.trans rp2.length)]at e;exact lists _ _ _ _ rp rp2 e
     |@ref _ n2 hp2=>
      cases e1:M[n2]? with
      |none=>simp only[eqF,kd,e0,e1]at e;cases e
      |some o=>
       cases o with
       |lst ds2=>
        obtain⟨ys,g,r⟩:=ll hp2 e1;cases I.list_inj g0 g;simp only[eqF,kd,e0,e1,eqK,if_pos (rp.length.symm.trans r.length)]at e;exact lists _ _ _ _ rp r e
end
end DL
namespace DL
open PyProof.Rows L2
open PySem.SeqAt (EqAt RcAt RcNeAt)
section
variable {X:Cx}{pins:Pn}{σ:L2.St}{H:Hp}{s:aH}{α:List Addr}{M:Sto}
theorem ZfN(v1:ZU xs1 i1)(v2:ZU xs2 i2)(r1:Reps X.K H α xs1 ds1)(r2:Reps X.K H α xs2 ds2)(ih:∀(x y:D)(v w:V)(u z:aa)(b:Bool),eqF n M x y=some b->Rep X.K H α v x->Rep X.K H α w y->ZT v u->ZT w z->EqAt A s u z b)(e:eqL (eqF n M) ds1 ds2=some b):∃f:Nat->Bool,(∀(j:Nat)(h1:j<i1.toArray.size)(h2:j<i2.toArray.size),EqAt A s i1.toArray[j] i2.toArray[j] (f j))/\b=((aC (min i1.toArray.size i2.toArray.size)).all f&&i1.toArray.size==i2.toArray.size):=by
 obtain⟨g1,g2⟩:=ZhD e;have l1:i1.toArray.size=ds1.length:=by rw[am,<-v1.length,r1.length]
 have l2:i2.toArray.size=ds2.length:=by rw[am,<-v2.length,r2.length]
 refine⟨_,λj h1 h2=>?_,by rw[l1,l2];exact g2⟩
 have k1:j<ds1.length:=by rw[<-l1];exact h1
 have k2:j<ds2.length:=by rw[<-l2];exact h2
 obtain⟨c,hc⟩:=g1 j _ _ (Gq k1) (Gq k2);obtain⟨v,a1,a2⟩:=r1.get (Gq k1);obtain⟨w,b1,b2⟩:=r2.get (Gq k2);obtain⟨u,a3,a4⟩:=v1.get a1;obtain⟨z,b3,b4⟩:=v2.get b1;have q:=ih _ _ v w u z c hc a2 b2 a4 b4;simp only[av k1,av k2,hc,Option.getD_some];have e1:i1.toArray[j]=u:=by
  have:=au.mp a3
  obtain⟨_,z⟩:=this
  simpa using z
 have e2:i2.toArray[j]=z:=by
  have:=au.mp b3
  obtain⟨_,z⟩:=this
  simpa using z
 rw[e1,e2];exact q
theorem ZhE(I:Inv X pins σ H s)(h:HR X.K H α M)(e:eqF n M x y=some b)(rx:Rep X.K H α v x)(ry:Rep X.K H α w y)(rv:ZT v (.ref p))(rw':ZT w (.ref q))(k:RcAt A s (.ref p) (.ref q) b)(k':RcNeAt A s (.ref p) (.ref q) (!b)):Eq3 A s (.ref p) (.ref q) b:=by
 refine⟨?_,k,k'⟩;by_cases c:p=q
 .subst c;cases ZT.inj rv rw';rw[Zj9 I h n rx ry e];exact EqAt.same _
 .exact EqAt.of_refs c k
theorem eq3(I:Inv X pins σ H s)(h:HR X.K H α M):∀(n:Nat)(x y:D)(v w:V)(u z:aa)(b:Bool)(A:cZ),A.units+n<iO->eqF n M x y=some b->Rep X.K H α v x->Rep X.K H α w y->ZT v u->ZT w z->Eq3 A s u z b:=by
 intro n
 induction n with
 |zero=>intro x y v w u z b A _ e;simp only[eqF]at e;cases e
 |succ n ih=>
  intro x y v w u z b A hn e rx ry rv rw';have hu:A.units<iO:=⋯
  have e0:=e;unfold eqF at e;cases ka:kd M x with
  |none=>rw[ka]at e;cases e
  |some ka'=>
   cases kb:kd M y with
   |none=>rw[ka,kb]at e;cases e
   |some kb'=>
    rw[ka,kb]at e;have va:=vw I h rx rv ka;have vb:=vw I h ry rw' kb;have deep:∀(x y:D)(v w:V)(u z:aa)(b:Bool),eqF n M x y=some b->Rep X.K H α v x->Rep X.K H α w y->ZT v u->ZT w z->EqAt A.in1 s u z b:=λx y v w u z b e a1 a2 a3 a4=>
     (ih x y v w u z b A.in1 (by rw[cZ.in1_units];lia) e a1 a2 a3 a4).1
    cases va with
    |non=>
     cases vb<;>simp only[eqK,aw]at e<;>subst e
     .exact⟨EqAt.same _,.none_none,.none_none⟩
     .exact⟨.none_bool _,.none_bool _,.none_bool _⟩
     .exact⟨.none_int _ _,.none_int _ _,.none_int _ _⟩
     .exact⟨.none_str _ _,.none_str _ _,.none_str _ _⟩
     .rename_i g _ _;exact⟨.none_tuple g hu,.none_tuple g hu,.none_tuple g hu⟩
     .rename_i g _ _;exact⟨.none_list g hu,.none_list g hu,.none_list g hu⟩
    |bl c=>
     cases vb<;>simp only[eqK,aw]at e<;>subst e
     .exact⟨.bool_none _,.bool_none _,.bool_none _⟩
     .exact⟨.bool_bool _ _,.bool_bool _ _,.bool_bool _ _⟩
     .exact⟨.bool_int _ _ _,.bool_int _ _ _,.bool_int _ _ _⟩
     .exact⟨.bool_str _ _ _,.bool_str _ _ _,.bool_str _ _ _⟩
     .rename_i g _ _;exact⟨.bool_tuple _ g hu,.bool_tuple _ g hu,.bool_tuple _ g hu⟩
     .rename_i g _ _;exact⟨.bool_list _ g hu,.bool_list _ g hu,.bool_list _ g hu⟩
    |int c t=>
     cases vb<;>simp only[eqK,aw]at e<;>subst e
     .exact⟨.int_none _ _,.int_none _ _,.int_none _ _⟩
     .exact⟨.int_bool _ _ _,.int_bool _ _ _,.int_bool _ _ _⟩
     .exact⟨.int_int _ _ _ _,.int_int _ _ _ _,.int_int _ _ _ _⟩
     .exact⟨.int_str _ _ _ _,.int_str _ _ _ _,.int_str _ _ _ _⟩
     .rename_i g _ _;exact⟨.int_tuple _ _ g hu,.int_tuple _ _ g hu,.int_tuple _ _ g hu⟩
     .rename_i g _ _;exact⟨.int_list _ _ g hu,.int_list _ _ g hu,.int_list _ _ g hu⟩
    |str c t=>
     cases vb<;>simp only[eqK,aw]at e<;>subst e
     .exact⟨.str_none _ _,.str_none _ _,.str_none _ _⟩
     .exact⟨.str_bool _ _ _,.str_bool _ _ _,.str_bool _ _ _⟩
     .exact⟨.str_int _ _ _ _,.str_int _ _ _ _,.str_int _ _ _ _⟩
     .exact⟨.str_str _ _ _ _,.str_str _ _ _ _,.str_str _ _ _ _⟩
     .rename_i g _ _;exact⟨.str_tuple _ _ g hu,.str_tuple _ _ g hu,.str_tuple _ _ g hu⟩
     .rename_i g _ _;exact⟨.str_list _ _ g hu,.str_list _ _ g hu,.str_list _ _ g hu⟩
    |@tup p xs ds its g1 w1 q1=>
     cases vb with
     |@tup p2 xs2 ds2 its2 g2 w2 q2=>
      simp only[eqK]at e;obtain⟨f,hf,hb⟩:=ZfN w1 w2 q1 q2 deep e;subst hb;exact ZhE I h e0 rx ry rv rw' (.tuples g1 g2 hu hf) (.tuples g1 g2 hu hf)
     |@lst p2 xs2 ds2 its2 g2 w2 q2=>
      simp only[eqK,aw]at e;subst e;exact ZhE I h e0 rx ry rv rw' (.tuple_list g1 g2 hu) (.tuple_list g1 g2 hu)
     |non=>simp only[eqK,aw]at e;subst e;exact⟨.tuple_none g1 hu,.tuple_none g1 hu,.tuple_none g1 hu⟩
     |bl c=>simp only[eqK,aw]at e;subst e;exact⟨.tuple_bool _ g1 hu,.tuple_bool _ g1 hu,.tuple_bool _ g1 hu⟩
     |int c t=>simp only[eqK,aw]at e;subst e;exact⟨.tuple_int _ _ g1 hu,.tuple_int _ _ g1 hu,.tuple_int _ _ g1 hu⟩
     |str c t=>simp only[eqK,aw]at e;subst e;exact⟨.tuple_str _ _ g1 hu,.tuple_str _ _ g1 hu,.tuple_str _ _ g1 hu⟩
    |@lst p xs ds its g1 w1 q1=>
     cases vb with
     |@lst p2 xs2 ds2 its2 g2 w2 q2=>
      simp only[eqK]at e;have l1:its.toArray.size=ds.length:=by rw[am,<-w1.length,q1.length]
      have l2:its2.toArray.size=ds2.length:=by rw[am,<-w2.length,q2.length]
      by_cases c:ds.length=ds2.length
      .rw[if_pos c]at e;have hs:its.toArray.size=its2.toArray.size:=by rw[l1,l2,c]
       obtain⟨f,hf,hb⟩:=ZfN w1 w2 q1 q2 deep e;rw[hs,jV,beq_self_eq_true,Bool.and_true,<-hs]at hb;subst hb;exact ZhE I h e0 rx ry rv rw' (.lists g1 g2 hs hu hf) (.lists g1 g2 hs hu hf)
      .rw[if_neg c]at e;have e':false=b:=aO e;subst e';have hs:(its.toArray.size != its2.toArray.size)=true:=by rw[l1,l2];simpa using c
       exact ZhE I h e0 rx ry rv rw' (.lists_lengths g1 g2 hs hu) (.lists_lengths g1 g2 hs hu)
     |@tup p2 xs2 ds2 its2 g2 w2 q2=>
      simp only[eqK,aw]at e;subst e;exact ZhE I h e0 rx ry rv rw' (.list_tuple g1 g2 hu) (.list_tuple g1 g2 hu)
     |non=>simp only[eqK,aw]at e;subst e;exact⟨.list_none g1 hu,.list_none g1 hu,.list_none g1 hu⟩
     |bl c=>simp only[eqK,aw]at e;subst e;exact⟨.list_bool _ g1 hu,.list_bool _ g1 hu,.list_bool _ g1 hu⟩
     |int c t=>simp only[eqK,aw]at e;subst e;exact⟨.list_int _ _ g1 hu,.list_int _ _ g1 hu,.list_int _ _ g1 hu⟩
     |str c t=>simp only[eqK,aw]at e;subst e;exact⟨.list_str _ _ g1 hu,.list_str _ _ g1 hu,.list_str _ _ g1 hu⟩
end
section
def ZrO(X:Cx)(neg:Bool):R2:=λv w H Q=>∃α M x y b,HR X.K H α M/\Rep X.K H α v x/\Rep X.K H α w y/\eqF 12 M x y=some b/\Q (.bl (neg ^^ b)) H
theorem Zaq(hu:X.A.units+64<iO):OpR X (dE .Eq) (ZrO X false):=by
 intro pins s σ H v w u z Q I rv rw' hz;obtain⟨α,M,x,y,b,h,rx,ry,e,q⟩:=hz;refine(eq3 I h 12 x y v w u z b X.A ⋯ e rx ry rv rw').2.1 _ _ _ _ ⟨.bl b,H,I,rfl,?_⟩
 simpa using q
theorem Zec(hu:X.A.units+64<iO):OpR X (dE .NotEq) (ZrO X true):=by
 intro pins s σ H v w u z Q I rv rw' hz;obtain⟨α,M,x,y,b,h,rx,ry,e,q⟩:=hz;refine(eq3 I h 12 x y v w u z b X.A ⋯ e rx ry rv rw').2.2 _ _ _ _ ⟨.bl (!b),H,I,rfl,?_⟩
 simpa using q
def dEq:Bo:=λx y M=>match eqF 12 M x y with|some b=>.ok (.bl b) M|none=>.bad
def dNe:Bo:=λx y M=>match eqF 12 M x y with|some b=>.ok (.bl (!b)) M|none=>.bad
theorem Zby:BO X ξ (ZrO X false) dEq:=by
 intro H α M v w x y Q h rv rw' q;unfold dEq at q;cases e:eqF 12 M x y with
 |none=>rw[e]at q;exact q.elim
 |some b=>rw[e]at q;exact⟨α,M,x,y,b,h,rv,rw',e,by simpa using q _ H α Ext.refl h (.bl b)⟩
theorem ZhF:BO X ξ (ZrO X true) dNe:=by
 intro H α M v w x y Q h rv rw' q;unfold dNe at q;cases e:eqF 12 M x y with
 |none=>rw[e]at q;exact q.elim
 |some b=>rw[e]at q;exact⟨α,M,x,y,b,h,rv,rw',e,by simpa using q _ H α Ext.refl h (.bl (!b))⟩
noncomputable def ZhG:V->Bool
 |.non=>true
 |.bl _=>true
 |_=>false
def rIs(neg:Bool):R2:=λv w H Q=>ZhG w=true/\Q (.bl (neg ^^ decide (v=w))) H
theorem ZfO(rv:ZT v u)(rw':ZT w z)(p:ZhG w=true):plainIs u z=true/\(u==z)=decide (v=w):=by
 cases w with
 |non=>
  cases rw';cases v with
  |non=>cases rv;exact⟨rfl,rfl⟩
  |bl b=>cases rv;exact⟨rfl,by rw[decide_eq_false (λz=>(nomatch z))];rfl⟩
  |int b=>obtain⟨t,rfl⟩:=rv;exact⟨rfl,by rw[decide_eq_false (λz=>(nomatch z))];rfl⟩
  |str b=>obtain⟨t,rfl⟩:=rv;exact⟨rfl,by rw[decide_eq_false (λz=>(nomatch z))];rfl⟩
  |byt b=>obtain⟨t,rfl⟩:=rv;exact⟨rfl,by rw[decide_eq_false (λz=>(nomatch z))];rfl⟩
  |flt b=>obtain⟨t,rfl⟩:=rv;exact⟨rfl,by rw[decide_eq_false (λz=>(nomatch z))];rfl⟩
  |ref b=>cases rv;exact⟨rfl,by rw[decide_eq_false (λz=>(nomatch z))];rfl⟩
  |ty b=>cases rv;exact⟨rfl,by rw[decide_eq_false (λz=>(nomatch z))];rfl⟩
 |bl c=>
  cases rw';cases v with
  |non=>cases rv;exact⟨rfl,by rw[decide_eq_false (λz=>(nomatch z))];rfl⟩
  |bl b=>cases rv;refine⟨rfl,?_⟩;cases b<;>cases c<;>rfl
  |int b=>obtain⟨t,rfl⟩:=rv;exact⟨rfl,by rw[decide_eq_false (λz=>(nomatch z))];rfl⟩
  |str b=>obtain⟨t,rfl⟩:=rv;exact⟨rfl,by rw[decide_eq_false (λz=>(nomatch z))];rfl⟩
  |byt b=>obtain⟨t,rfl⟩:=rv;exact⟨rfl,by rw[decide_eq_false (λz=>(nomatch z))];rfl⟩
  |flt b=>obtain⟨t,rfl⟩:=rv;exact⟨rfl,by rw[decide_eq_false (λz=>(nomatch z))];rfl⟩
  |ref b=>cases rv;exact⟨rfl,by rw[decide_eq_false (λz=>(nomatch z))];rfl⟩
  |ty b=>cases rv;exact⟨rfl,by rw[decide_eq_false (λz=>(nomatch z))];rfl⟩
 |_=>cases p
theorem ZhH:OpR X (dE .Is) (rIs false):=by
 intro pins s σ H v w u z Q I rv rw' hz;obtain⟨p,q⟩:=hz;obtain⟨h1,h2⟩:=ZfO rv rw' p;refine wpAny_is_plain h1 ⟨.bl (u==z),H,I,rfl,?_⟩;rw[h2]
 simpa using q
theorem Zed:OpR X (dE .IsNot) (rIs true):=by
 intro pins s σ H v w u z Q I rv rw' hz;obtain⟨p,q⟩:=hz;obtain⟨h1,h2⟩:=ZfO rv rw' p;refine wpAny_isNot_plain h1 ⟨.bl (!(u==z)),H,I,rfl,?_⟩;rw[h2]
 simpa using q
noncomputable def isP:D->D->Option Bool
 |.non,.non=>some true
 |.bl a,.bl b=>some (a==b)
 |_,.non=>some false
 |_,.bl _=>some false
 |_,_=>none
def dIs:Bo:=λx y M=>match isP x y with|some b=>.ok (.bl b) M|none=>.bad
def dIsNot:Bo:=λx y M=>match isP x y with|some b=>.ok (.bl (!b)) M|none=>.bad
theorem Zlg{K:Fg}(rv:Rep K H α v x)(rw':Rep K H α w y)(e:isP x y=some b):ZhG w=true/\decide (v=w)=b:=by
 unfold isP at e
 split at e
 .cases rv;cases rw';cases e;exact⟨rfl,rfl⟩
 .rename_i c d;cases rv;cases rw';cases e;refine⟨rfl,?_⟩;cases c<;>cases d<;>rfl
 .rename_i hx;cases rw';cases e;refine⟨rfl,decide_eq_false λz=>?_⟩;subst z;cases rv;exact hx rfl
 .rename_i c hx;cases rw';cases e;refine⟨rfl,decide_eq_false λz=>?_⟩;subst z;cases rv;exact hx _ rfl
 .cases e
theorem Zmz:BO X ξ (rIs false) dIs:=by
 intro H α M v w x y Q h rv rw' q;unfold dIs at q;cases e:isP x y with
 |none=>rw[e]at q;exact q.elim
 |some b=>
  rw[e]at q;obtain⟨p,d⟩:=Zlg rv rw' e;exact⟨p,by rw[d];simpa using q _ H α Ext.refl h (.bl b)⟩
theorem ZfP:BO X ξ (rIs true) dIsNot:=by
 intro H α M v w x y Q h rv rw' q;unfold dIsNot at q;cases e:isP x y with
 |none=>rw[e]at q;exact q.elim
 |some b=>
  rw[e]at q;obtain⟨p,d⟩:=Zlg rv rw' e;exact⟨p,by rw[d];simpa using q _ H α Ext.refl h (.bl (!b))⟩
noncomputable def Zpg:D->Bool
 |.non=>true
 |.bl _=>true
 |.int _=>true
 |.str _=>true
 |_=>false
noncomputable def ZvE:D->D->Bool
 |.non,.non=>true
 |.bl a,.bl b=>a==b
 |.bl a,.int b=>(if a then 1 else 0)==b
 |.int a,.bl b=>a==(if b then 1 else 0)
 |.int a,.int b=>a==b
 |.str a,.str b=>a==b
 |_,_=>false
noncomputable def Zee(M:Sto):D->Option (List D)
 |.tup xs=>some xs
 |.rol xs=>some xs
 |.ref n=>match M[n]? with|some (.lst xs)=>some xs|_=>none
 |_=>none
theorem Ze5{K:Fg}(h:HR K H α M)(r:Rep K H α v x)(e:Zee M x=some ds):∃p xs,v=.ref p/\(SqL K H p xs\/SqT K H p xs)/\Reps K H α xs ds:=by
 cases r with
 |@tup p xs ds hp rp=>cases e;exact⟨p,xs,rfl,.inr (SqT.of hp),rp⟩
 |@rol p xs ds hp rp=>cases e;exact⟨p,xs,rfl,.inl hp.sq,rp⟩
 |@ref p n hp=>
  cases e1:M[n]? with
  |none=>simp only[Zee,e1]at e;cases e
  |some o=>
   cases o with
   |lst es=>
    simp only[Zee,e1]at e;cases e;obtain⟨xs,g1,r1⟩:=h.at hp e1;exact⟨p,xs,rfl,.inl (SqL.of g1),r1⟩
 |_=>cases e
def inD(x y:D)(M:Sto):Option Bool:=match Zee M y with|some ds=>if Zpg x=true/\ds.all Zpg=true then some (ds.any λy=>ZvE y x)else none|none=>none
variable {fs:Av}{x:Str}{id T:String}
def Zj(f:W3)(fs:Av):Ev:=λρ M=>(fs ρ M).bind f
def CO(X:Cx)(ξ:XK)(r:List V->Hp->VK->Prop)(f:W3):Prop:=∀H α M vs ds Q,HR X.K H α M->Reps X.K H α vs ds->OP X.K H α ξ Q (f ds M)->r vs H Q
theorem Zt(hc:Zbq X (.builtin id) r)(hf:CO X ξ r f)(hm:X.mg x=none)(hv:bN x=some (.builtin id))(ha:DA X ξ (e::es) fs)(hg:autoParam (Gl X x) Qrf._auto_1)(hn:autoParam (x≠"__name__") Qde._auto_1)(hdb:autoParam ((x==("__debug__":Str))=false) Qde._auto_1)
  (he:aA (e::es) X.env=(false,eval e X.env)::aA es X.env:=by rfl) (hpl:(cR pos (aA es X.env)).any (·.1)=false:=by rfl):DE X ξ (.Call (.Name x p) (e::es) [] pos) (Zj f fs):=by
 obtain⟨ta,ha,qa⟩:=ha;refine⟨_,ZfK hc hg hm hv ha hn hdb he hpl,λσ ρ H α M Q s h q=>?_⟩;exact qa σ ρ H α M _ s h (OG.seq q λds M1 vs H1 α1 e1 h1 r1 q1=>hf H1 α1 M1 vs ds Q h1 r1 q1)
theorem Zar(hc:Zbq X (.type T) r)(hf:CO X ξ r f)(hm:X.mg x=none)(hv:bN x=some (.type T))(ha:DA X ξ (e::es) fs)(hg:autoParam (Gl X x) Qrf._auto_1)(hn:autoParam (x≠"__name__") Qde._auto_1)(hdb:autoParam ((x==("__debug__":Str))=false) Qde._auto_1)
  (he:aA (e::es) X.env=(false,eval e X.env)::aA es X.env:=by rfl) (hpl:(cR pos (aA es X.env)).any (·.1)=false:=by rfl):DE X ξ (.Call (.Name x p) (e::es) [] pos) (Zj f fs):=by
 obtain⟨ta,ha,qa⟩:=ha;refine⟨_,Zho hc hg hm hv ha hn hdb he hpl,λσ ρ H α M Q s h q=>?_⟩;exact qa σ ρ H α M _ s h (OG.seq q λds M1 vs H1 α1 e1 h1 r1 q1=>hf H1 α1 M1 vs ds Q h1 r1 q1)
def bLen:W3:=λds M=>match ds with
 |[x]=>match Zee M x with|some xs=>.ok (.int xs.length) M|none=>.bad
 |_=>.bad
theorem Z3:CO X ξ (λxs H Q=>∃p ys,xs=[.ref p]/\(SqL X.K H p ys\/SqT X.K H p ys)/\Q (.int ys.length) H) bLen:=by
 intro H α M vs ds Q h rs q;unfold bLen at q;cases rs with
 |nil=>exact q.elim
 |@cons v x vs ds r t=>
  cases t with
  |cons _ _=>exact q.elim
  |nil=>
  cases e:Zee M x with
  |none=>simp only[e]at q;exact q.elim
  |some ys=>
   simp only[e]at q;obtain⟨p,xs,rfl,h2,h3⟩:=Ze5 h r e;exact⟨p,xs,rfl,h2,by rw[h3.length];exact q _ H α Ext.refl h (.int _)⟩
noncomputable def bAbs:W3:=λds M=>match ds with|[.int i]=>.ok (.int (if i<0 then -i else i)) M|_=>.bad
theorem ZbM:CO X ξ (λxs H Q=>∃i,xs=[.int i]/\Q (.int (if i<0 then -i else i)) H) bAbs:=by
 intro H α M vs ds Q h rs q;unfold bAbs at q
 split at q
 .cases rs with
  |cons r t=>
   cases t;cases r;exact⟨_,rfl,q _ H α Ext.refl h (.int _)⟩
 .exact q.elim
noncomputable def bMax:W3:=λds M=>match ds with|[.int i,.int j]=>.ok (.int (if j>i then j else i)) M|_=>.bad
noncomputable def bMin:W3:=λds M=>match ds with|[.int i,.int j]=>.ok (.int (if j<i then j else i)) M|_=>.bad
theorem Zlh{g:Int->Int->Int}(hf:∀ds M,f ds M=match ds with|[.int i,.int j]=>.ok (.int (g i j)) M|_=>.bad):CO X ξ (λxs H Q=>∃i j,xs=[.int i,.int j]/\Q (.int (g i j)) H) f:=by
 intro H α M vs ds Q h rs q;rw[hf]at q
 split at q
 .rename_i i j;cases rs with
  |cons r t=>
   cases t with
   |cons r' t'=>
    cases t';cases r;cases r';exact⟨i,j,rfl,q _ H α Ext.refl h (.int _)⟩
 .exact q.elim
theorem Zph:CO X ξ (λxs H Q=>∃i j,xs=[.int i,.int j]/\Q (.int (if j>i then j else i)) H) bMax:=Zlh (g:=λi j=>if j>i then j else i) λds M=>rfl
theorem Zpi:CO X ξ (λxs H Q=>∃i j,xs=[.int i,.int j]/\Q (.int (if j<i then j else i)) H) bMin:=Zlh (g:=λi j=>if j<i then j else i) λds M=>rfl
noncomputable def bInt:W3:=λds M=>match ds with|[.int i]=>.ok (.int i) M|[.bl k]=>.ok (.int (if k then 1 else 0)) M|_=>.bad
theorem Zli:CO X ξ (λxs H Q=>(∃i,xs=[.int i]/\Q (.int i) H)\/∃k,xs=[.bl k]/\Q (.int (if k then 1 else 0)) H) bInt:=by
 intro H α M vs ds Q h rs q;unfold bInt at q
 split at q
 .cases rs with
  |cons r t=>
   cases t;cases r;exact .inl ⟨_,rfl,q _ H α Ext.refl h (.int _)⟩
 .cases rs with
  |cons r t=>
   cases t;cases r;exact .inr ⟨_,rfl,q _ H α Ext.refl h (.int _)⟩
 .exact q.elim
def bList:W3:=λds M=>match ds with
 |[x]=>match Zee M x with|some xs=>.ok (.ref M.length) (M++[.lst xs])|none=>.bad
 |_=>.bad
theorem Zdw:CO X ξ (λxs H Q=>∃p ys,xs=[.ref p]/\(SqL X.K H p ys\/SqT X.K H p ys)/\∀l,H l=none->Q (.ref l) (upd H l (.lst ys))) bList:=by
 intro H α M vs ds Q h rs q;unfold bList at q;cases rs with
 |nil=>exact q.elim
 |@cons v x vs ds r t=>
  cases t with
  |cons _ _=>exact q.elim
  |nil=>
  cases e:Zee M x with
  |none=>simp only[e]at q;exact q.elim
  |some ys=>
   simp only[e]at q;obtain⟨p,xs,rfl,h2,h3⟩:=Ze5 h r e;exact⟨p,xs,rfl,h2,λl hl=>q _ _ (α++[l]) (Ext.new hl) (h.new hl h3) (.ref ⟨h.last l,Kn.lst Zx⟩)⟩
def Za5(M:Sto)(x:D):Option String:=match kd M x with
 |some .non=>some "NoneType"
 |some (.bl _)=>some "bool"
 |some (.int _)=>some "int"
 |some (.str _)=>some "str"
 |some (.tup _)=>some "tuple"
 |some (.lst _)=>some "list"
 |none=>none
noncomputable def Zcs(t T:String):Bool:=t==T||(t=="bool"&&T=="int")
def Zod(T:String)(f:Ev):Ev:=λρ M=>(f ρ M).bind λx M1=>match Za5 M1 x with|some t=>.ok (.bl (Zcs t T)) M1|none=>.bad
def ZvF(X:Cx)(T:String):List V->Hp->VK->Prop:=λvs H Q=>∃v α M x t,vs=[v,.ty T]/\HR X.K H α M/\Rep X.K H α v x/\Za5 M x=some t/\Q (.bl (Zcs t T)) H
structure Kit(K:Fg) (T:String):Prop where
 non:PySem.W.kitOne K (.type "NoneType") (.type T)=some (Zcs "NoneType" T)
 bl:PySem.W.kitOne K (.type "bool") (.type T)=some (Zcs "bool" T)
 int:PySem.W.kitOne K (.type "int") (.type T)=some (Zcs "int" T)
 str:PySem.W.kitOne K (.type "str") (.type T)=some (Zcs "str" T)
 tup:PySem.W.kitOne K (.type "tuple") (.type T)=some (Zcs "tuple" T)
 lst:PySem.W.kitOne K (.type "list") (.type T)=some (Zcs "list" T)
theorem ZmA{K:Fg}:Kit K "int":=⟨rfl,rfl,rfl,rfl,rfl,rfl⟩
theorem Zka{K:Fg}:Kit K "bool":=⟨rfl,rfl,rfl,rfl,rfl,rfl⟩
theorem Zkb(kt:Kit X.K T):Zbq X (.builtin "isinstance") (ZvF X T):=by
 intro pins s σ H vs us Q I rs hz;obtain⟨v,α,M,x,t,e1,h,rx,et,q⟩:=hz;subst e1;obtain⟨u,w,rfl,ru,rw'⟩:=ZjY rs;cases rw';unfold Za5 at et;cases ek:kd M x with
 |none=>rw[ek]at et;cases et
 |some k=>
  rw[ek]at et;have va:=vw I h rx ru ek;have fin:∀tk,EP X pins σ Q (.bool (Zcs t T)) {s with toks:=tk}:=λtk=>⟨.bl _,H,I.tok tk,rfl,q⟩;cases va with
  |non=>cases et;exact PySem.W.kia_one PySem.W.kitx_none I.kIn c9 kt.non (λz=>nomatch z) fin
  |bl b=>cases et;exact PySem.W.kia_one PySem.W.kitx_bool I.kIn c9 kt.bl (λz=>nomatch z) fin
  |int i t=>cases et;exact PySem.W.kia_one PySem.W.kitx_int I.kIn c9 kt.int (λz=>nomatch z) fin
  |str i t=>cases et;exact PySem.W.kia_one PySem.W.kitx_str I.kIn c9 kt.str (λz=>nomatch z) fin
  |tup g _ _=>cases et;obtain⟨o,h1,h2,_⟩:=g;exact PySem.W.kia_one PySem.W.kitx_tuple I.kIn ⟨o,h1,h2⟩ kt.tup (λz=>nomatch z) fin
  |lst g _ _=>cases et;obtain⟨o,h1,h2,_⟩:=g;exact PySem.W.kia_one PySem.W.kitx_list I.kIn ⟨o,h1,h2⟩ kt.lst (λz=>nomatch z) fin
theorem Zlj(kt:Kit X.K T)(hm:X.mg "isinstance"=none)(hmT:X.mg y=none)(hvT:bN y=some (.type T))(ha:DE X ξ e fa)(hg:autoParam (Gl X "isinstance") Qrf._auto_1)(hgT:autoParam (Gl X y) Qrf._auto_1)(hn:autoParam (y≠"__name__") Qde._auto_1)(hdb:autoParam ((y==("__debug__":Str))=false) Qde._auto_1)(he:autoParam (aA [e,.Name y p2] X.env=(false,eval e X.env)::aA [.Name y p2] X.env) Qrf._auto_1)(he2:autoParam (aA [.Name y p2] X.env=(false,eval (.Name y p2) X.env)::aA [] X.env) Qrf._auto_1)(hpl:autoParam ((cR pos (aA [.Name y p2] X.env)).any (·.1)=false) Qrf._auto_1):DE X ξ (.Call (.Name "isinstance" p) [e,.Name y p2] [] pos) (Zod T fa):=by
 obtain⟨ta,ha,qa⟩:=ha;refine⟨_,ZfK (Zkb kt) hg hm (by with_unfolding_all rfl) (ZeX ha (ZeX (Zl2 hgT hmT hvT (v:=.ty T) rfl hn hdb) Zlb he2) he) (by decide) (by decide) he hpl,λσ ρ H α M Q s h q=>?_⟩
 refine qa σ ρ H α M _ s h (OG.seq q λx M1 v H1 α1 e1 h1 r1 q1=>?_);cases et:Za5 M1 x with
 |none=>simp only[et]at q1;exact q1.elim
 |some t=>
  simp only[et]at q1;exact⟨v,α1,M1,x,t,rfl,h1,r1,et,q1 _ H1 α1 Ext.refl h1 (.bl _)⟩
end
end DL
namespace DL
open PyProof.Rows L2
def CXE(P:cB)(w:cO):CXT:=λouter H s E e s'=>∃(ea C:Addr) (dct:Option Addr) (B:Heap) (H':Hp),e=.ref ea/\s'.os=s.os/\hO s'.gens/\Un (frs outer) [] H H' s.heap s'.heap/\HOk P w H' s'.heap/\
 DQ.Fly B outer ea (.ref C) dct .none s'.heap/\(∀b u,H' b=some u->∃o,B.get? b=some o)/\(∀b o,s.heap.get? b=some o->b∉frs outer->∃o',B.get? b=some o')/\E (.ref C) dct H'
structure Thr(X:Cx) (ξ:XK):Prop where
 own:fE (aE X.prog X.w) X.A X.env X.xe
 ps:Zhm (CXE X.prog X.w) X ξ
 mak:∀(pins:Pn)(σ:L2.St)(H H':Hp)(s s':aH)(e:Addr)(oe:Obj)(vs:Array aa)(C:Addr),Inv X pins σ H s->s'.os=s.os->hO s'.gens->Un (frs X.stack) [] H H' s.heap s'.heap->HOk X.prog X.w H' s'.heap->s.heap.get? e=none->s'.heap.get? e=some oe->oe.cls=.ref C->
  oe.data=.fields vs->vs[1]?=some .none->vs[2]?=some .none->H' e=none->ξ (.ref C) oe.dict H'->X.xe (.ref e) s'
theorem Zef{h b1 b2:Heap}:∀{l:List Env},h.FunFrames b1 l->(∀b∈frs l,b2.get? b=none)->h.FunFrames b2 l
 |[],_,_=>trivial
 |env::r,⟨h1,⟨L,o,h2,h3,h4,h5⟩,h6⟩,k=>⟨h1,⟨L,o,h2,k L (by unfold frs;rw[dq,h2];exact bW),h4,h5⟩,Zef h6 λb hb=>k b (by
   unfold frs;rw[dq,h2];exact aJ _ hb)⟩
section
variable {s:aH}{B:Heap}
theorem Zlk(hx:X.ex=[])(I:Inv X pins σ H s)(u:Un (frs X.stack) [] H H' s.heap h1)(hok:HOk X.prog X.w H' h1)(t1:∀b q,H' b=some q->∃o,B.get? b=some o)(t2:∀b o,s.heap.get? b=some o->b∉frs X.stack->∃o',B.get? b=some o')(st1:B.StaysIn h1)(st2:B.StaysIn h2)(up:h1.UpToSlots h2):Un X.fs [] X.H₀ H' X.s₀.heap h2/\HOk X.prog X.w H' h2/\∀b o,X.s₀.heap.get? b=some o->b∉X.fs->∃o',B.get? b=some o':=by
 have kB:∀b ob o,B.get? b=some ob->h1.get? b=some o->h2.get? b=some o:=λb ob o e x=>by
  have z:=st1 b ob e;rw[x]at z;cases z;exact st2 b _ e
 have nx:∀b,b∉X.ex:=λb=>by rw[hx];simp
 have nL:∀b o,X.s₀.heap.get? b=some o->b∉X.fs->b∉frs X.stack:=λb o e n z=>by
  rcases ar.mp (I.stkSub b z)with q|q
  .exact absurd (Hz e) (by rw[q];exact fG I.ok.above)
  .exact n q
 have th:∀b o,X.s₀.heap.get? b=some o->b∉X.fs->∃o',B.get? b=some o':=λb o e n=>by
  obtain⟨o',e'⟩:=I.base.there b o e (nx b);exact t2 b o' e' (nL b o e n)
 have sl:∀b o,X.s₀.heap.get? b=some o->X.H₀ b=none->b∈X.fs->∃sl,h2.get? b=some {o with slots:=sl}:=λb o e n hb=>by
  obtain⟨s1,e1⟩:=I.base.slot b o e n hb (nx b);obtain⟨s2,e2⟩:=u.any e1 (I.base.free b o e n (nx b)) (by simp)
  obtain⟨_,o',g1,g2⟩:=I.ok.funs.mem hb;rw[e]at g1;cases g1;obtain⟨s3,e3⟩:=up b _ e2 g2;exact⟨s3,e3⟩
 refine⟨⟨λb o e n hb _=>?_,λb o e n hb _=>sl b o e n hb,λb o e n _=>?_,λb o e _=>?_,λb xs e=>u.tups b xs (I.base.tups b xs e),λb o xs e=>u.frzs b o xs (I.base.frzs b o xs e),λb ps e=>?_⟩,λa o e=>?_,th⟩
 .obtain⟨ob,g⟩:=th b o e hb;exact kB b ob o g (u.keep b o (I.base.keep b o e n hb (nx b)) (I.base.free b o e n (nx b)) (nL b o e hb) (by simp))
 .obtain⟨o',e'⟩:=I.base.there b o e (nx b);exact u.free b o' e' (I.base.free b o e n (nx b)) (by simp)
 .by_cases hb:b∈X.fs
  .obtain⟨s1,e1⟩:=sl b o e (I.ok.frf b hb) hb;exact⟨_,e1⟩
  .obtain⟨ob,g⟩:=th b o e hb;exact⟨ob,st2 b ob g⟩
 .obtain⟨m1,e1⟩:=I.base.tbls b ps e;obtain⟨m2,e2⟩:=u.tbls b _ e1;exact⟨m1++m2,by rw[e2,Array.append_assoc]⟩
 .refine(hok a o e).stay (λb q hb x=>?_) (λ_ q=>q) λ_ _ q=>q;have tr:∃q,H' b=some q:=by
   rcases hb with z|z
   .exact⟨o,z▸e⟩
   .exact⟨_,z⟩
  obtain⟨q',z⟩:=tr;obtain⟨ob,g⟩:=t1 b q' z;exact kB b ob q g x
end
theorem ZfQ(x:ZaT P w H h a o):∃ob,h.get? a=some ob:=by
 cases o with
 |lst xs=>obtain⟨_,_,_,_,e⟩:=x;exact⟨_,e⟩
 |tup xs=>obtain⟨_,_,_,ob,e,_⟩:=x;exact⟨_,e⟩
 |dU kvs=>obtain⟨_,_,_,_,o,_,_,e,_⟩:=x;exact⟨_,e⟩
 |own y=>exact x
 |frz ob u=>obtain⟨e,_⟩:=x;exact⟨_,e⟩
 |tbl ps=>exact⟨_,x.1⟩
 |ext φ=>obtain⟨_,e,_⟩:=x;exact e
def Zkc(h:Heap)(l:List Addr):Heap:=ZjN h λb=>if b∈l then some (.own 0)else none
theorem ZfR(e:h.get? b=some o)(n:b∉l):(Zkc h l).get? b=some o:=ZfE e (if_neg n)
theorem ZhI(e:(Zkc h l).get? b=some o):h.get? b=some o/\b∉l:=by
 obtain⟨a,n⟩:=Zhc e;refine⟨a,λz=>?_⟩;simp only[if_pos z]at n;cases n
theorem Zeg(n:b∈l):(Zkc h l).get? b=none:=by
 cases q:(Zkc h l).get? b with
 |none=>rfl
 |some o=>exact absurd n (ZhI q).2
theorem Zeh{h h' b1:Heap}:∀{l:List Env},h.FunFrames b1 l->(∀b o,b∈frs l->h.get? b=some o->∃o',h'.get? b=some o'/\o'.data=o.data)->h'.FunFrames b1 l
 |[],_,_=>trivial
 |env::r,⟨h1,⟨L,o,h2,h3,h4,h5⟩,h6⟩,k=>by
  have m:frs (env::r)=L::frs r:=by unfold frs;rw[dq,h2]
  obtain⟨o',g1,g2⟩:=k L o (by rw[m];exact bW) h4
  exact⟨h1,⟨L,o',h2,h3,g1,λvs=>g2▸h5 vs⟩,Zeh h6 λb o hb=>k b o (by rw[m];exact aJ _ hb)⟩
theorem ZhJ{s':aH}(I:Inv X pins σ H s)(un:Un (frs X.stack) [] H H' s.heap s'.heap)(hok:HOk X.prog X.w H' s'.heap)(hn:s.heap.get? e=none)(he:s'.heap.get? e=some oe)(hne:H' e=none):(∀b u,H' b=some u->∃o,(Zkc s'.heap (e::frs X.stack)).get? b=some o)/\(∀b o,s.heap.get? b=some o->b∉frs X.stack->∃o',(Zkc s'.heap (e::frs X.stack)).get? b=some o')/\(Zkc s'.heap (e::frs X.stack)).StaysIn s'.heap/\s'.heap.FunFrames (Zkc s'.heap (e::frs X.stack)) X.stack/\(Zkc s'.heap (e::frs X.stack)).get? e=none:=by
 have nfr:∀b∈frs X.stack,H' b=none:=λb hb=>by
  obtain⟨_,o',g1,g2⟩:=I.stack.mem hb;exact un.free b o' g1 (I.stkFree b hb) (by simp)
 refine⟨λb u x=>?_,λb o x n=>?_,λb o x=>(ZhI x).1,Zeh (Zef I.stack λb hb=>Zeg (aJ _ hb)) λb o hb x=>?_,Zeg (by simp)⟩
 .obtain⟨o,g⟩:=ZfQ (hok b u x);refine⟨o,ZfR g λz=>?_⟩;rcases ar.mp z with z|z
  .rw[z,hne]at x;cases x
  .rw[nfr b z]at x;cases x
 .obtain⟨o',g⟩:=un.there b o x (by simp)
  refine⟨o',ZfR g λz=>?_⟩;rcases ar.mp z with z|z
  .rw[z,hn]at x;cases x
  .exact n z
 .obtain⟨sl,g⟩:=un.any x (I.stkFree b hb) (by simp)
  exact⟨_,g,rfl⟩
theorem Zll{K:Fg}:Thr (ZfI (CXE P w) P w K mg base N qual scope f cd A outer s H E) E:=by
 refine⟨fE.leaving,λpins σ H1 s1 e s2 I h=>?_,λpins σ H1 H' s1 s' e oe vs C I os bare un hok hn he hc hd v1 v2 hne q=>?_⟩
 .obtain⟨ea,C,dct,B,H2,rfl,os,bare,un,hok,fl,t1,t2,q⟩:=h;refine DQ.Zhx (outer:=outer) I.ok.frames rfl fl λh3 f3 up=>?_;obtain⟨a1,a2,a3⟩:=Zlk rfl I un hok t1 t2 fl.stay f3.stay up;exact⟨ea,C,dct,B,H2,rfl,os.trans I.os,bare,a1,a2,f3,t1,a3,q⟩
 .obtain⟨t1,t2,hs,hl,hb⟩:=ZhJ I un hok hn he hne;refine DQ.Zhy (s:=s') (outer:=outer) I.ok.frames rfl hl he hs hb hd v1 v2 λh3 f3 up=>?_;obtain⟨a1,a2,a3⟩:=Zlk rfl I un hok t1 t2 hs f3.stay up;rw[hc]at f3;exact⟨e,C,oe.dict,_,H',rfl,os.trans I.os,bare,a1,a2,f3,t1,a3,q⟩
end DL
namespace DL
open PyProof.Rows L2
def FP(K:Fg)(H:Hp)(α:List Addr)(ξ:XK)(Dn:Ends):Fl->Prop
 |.nx ρ' M'=>∀σ' H' α',Ext K H H' α α'->HR K H' α' M'->SR K H' α' σ' ρ'->Dn.nx σ' H'
 |.brk ρ' M'=>∀σ' H' α',Ext K H H' α α'->HR K H' α' M'->SR K H' α' σ' ρ'->Dn.bk σ' H'
 |.cnt ρ' M'=>∀σ' H' α',Ext K H H' α α'->HR K H' α' M'->SR K H' α' σ' ρ'->Dn.ct σ' H'
 |.ret d M'=>∀v H' α',Ext K H H' α α'->HR K H' α' M'->Rep K H' α' v d->Dn.rt v H'
 |.exc c M'=>∀C H' α',PySem.W.nsIn K aM c=some (some (.ref C))->Ext K H H' α α'->∀dct,XO K H' α' c M' dct->ξ (.ref C) dct H'
 |.bad=>False
theorem FP.ext{K:Fg}(h:FP K H α ξ Dn o)(e:Ext K H H1 α α1):FP K H1 α1 ξ Dn o:=by
 cases o with
 |nx ρ M=>exact λσ' H' α' e'=>h σ' H' α' (e.trans e')
 |brk ρ M=>exact λσ' H' α' e'=>h σ' H' α' (e.trans e')
 |cnt ρ M=>exact λσ' H' α' e'=>h σ' H' α' (e.trans e')
 |ret d M=>exact λv H' α' e'=>h v H' α' (e.trans e')
 |exc c M=>exact λC H' α' n e'=>h C H' α' n (e.trans e')
 |bad=>exact h
def DS(X:Cx)(ξ:XK)(st:Stmt)(g:Sv):Prop:=∃t:TS,PS X st t/\∀σ ρ H α M Dn,SR X.K H α σ ρ->HR X.K H α M->FP X.K H α ξ Dn (g ρ M)->t Dn σ H
def DSs(X:Cx)(ξ:XK)(st:List Stmt)(g:Sv):Prop:=∃t:TS,PSs X st t/\∀σ ρ H α M Dn,SR X.K H α σ ρ->HR X.K H α M->FP X.K H α ξ Dn (g ρ M)->t Dn σ H
noncomputable def Zas(o:Out β)(k:β->Sto->Fl):Fl:=match o with
 |.ok a M=>k a M
 |.exc c M=>.exc c M
 |.bad=>.bad
theorem FP.seq{K:Fg}{R:Hp->List Addr->γ->β->Prop}{Q1:γ->Hp->Prop}{o:Out β}{f:β->Sto->Fl}(h:FP K H α ξ Dn (Zas o f))(k:∀d M' v H' α',Ext K H H' α α'->HR K H' α' M'->R H' α' v d->FP K H' α' ξ Dn (f d M')->Q1 v H'):OG K R H α ξ Q1 o:=by
 cases o with
 |ok d M'=>exact λv H' α' e hr r=>k d M' v H' α' e hr r (FP.ext (o:=f d M') h e)
 |exc c M'=>exact h
 |bad=>exact h
noncomputable def Zy(g h:Sv):Sv:=λρ M=>match g ρ M with
 |.nx ρ1 M1=>h ρ1 M1
 |o=>o
noncomputable def sNil:Sv:=λρ M=>.nx ρ M
def Zae(f:Ev):Sv:=λρ M=>Zas (f ρ M) λd M1=>.ret d M1
noncomputable def Zpj:Sv:=λ_ M=>.ret .non M
def Za7(f:Ev):Sv:=λρ M=>Zas (f ρ M) λ_ M1=>.nx ρ M1
def sIf(c:Tv)(g h:Sv):Sv:=λρ M=>Zas (c ρ M) λk M1=>if k=true then g ρ M1 else h ρ M1
abbrev Tg:=D->Ro->Option Ro
abbrev Tgs:=List D->Ro->Option Ro
noncomputable def gNm(i:Nat):Tg:=λd ρ=>some (ρ.set i (some d))
noncomputable def gNl:Tgs:=λds ρ=>match ds with|[]=>some ρ|_=>none
noncomputable def gCs(g:Tg)(gs:Tgs):Tgs:=λds ρ=>match ds with|d::r=>(match g d ρ with|some ρ1=>gs r ρ1|none=>none)|[]=>none
noncomputable def gTp(gs:Tgs):Tg:=λd ρ=>match d with|.tup ds=>gs ds ρ|_=>none
def ZF(g:Tg)(f:Ev):Sv:=λρ M=>Zas (f ρ M) λd M1=>match g d ρ with|some ρ1=>.nx ρ1 M1|none=>.bad
def ZgP(i j:Nat)(fs:Av):Sv:=λρ M=>Zas (fs ρ M) λds M1=>match ds with|[v,w]=>.nx ((ρ.set i (some v)).set j (some w)) M1|_=>.bad
def Zkd(fo fi fe:Ev):Sv:=λρ M=>Zas (fe ρ M) λd M1=>Zas (fo ρ M1) λo M2=>Zas (fi ρ M2) λi M3=>match o,i with
 |.ref n,.int k=>(match M3[n]? with
  |some (.lst xs)=>(match ixN xs.length k with|some j=>.nx ρ (M3.set n (.lst (xs.set j d)))|none=>.bad)
  |_=>.bad)
 |_,_=>.bad
section
variable {X:Cx}{ξ:XK}{st:Stmt}{sts:List Stmt}{g:Sv}{e:Expr}{f:Ev}{c:Expr}
theorem ZD:DSs X ξ [] sNil:=⟨_,Zl3,λσ ρ H α M Dn s h q=>q σ H α Ext.refl h s⟩
theorem Zf(h1:DS X ξ st g)(h2:DSs X ξ sts h):DSs X ξ (st::sts) (Zy g h):=by
 obtain⟨t1,p1,q1⟩:=h1;obtain⟨t2,p2,q2⟩:=h2;refine⟨_,ZjT p1 p2,λσ ρ H α M Dn s hh q=>q1 σ ρ H α M {Dn with nx:=t2 Dn} s hh ?_⟩;unfold Zy at q;cases e:g ρ M with
 |nx ρ1 M1=>rw[e]at q;exact λσ' H' α' ex hr sr=>q2 σ' ρ1 H' α' M1 Dn sr hr (FP.ext q ex)
 |brk ρ1 M1=>rw[e]at q;exact q
 |cnt ρ1 M1=>rw[e]at q;exact q
 |ret d M1=>rw[e]at q;exact q
 |exc c M1=>rw[e]at q;exact q
 |bad=>rw[e]at q;exact q
theorem Zh(h1:DS X ξ st g):DSs X ξ [st] g:=let ⟨_,p,q⟩:=h1;⟨_,Zl4 p,q⟩
theorem Zw(he:DE X ξ e f):DS X ξ (.Return (some e) pos) (Zae f):=by
 obtain⟨t,p,q⟩:=he;exact⟨_,ZoC p,λσ ρ H α M Dn s hh w=>q σ ρ H α M _ s hh (FP.seq w λd M1 v H1 α1 e1 h1 r1 w1=>w1 v H1 α1 Ext.refl h1 r1)⟩
theorem Z6(he:DE X ξ e f)(hs:autoParam (iK e none pos.line X.env=pure false) Qrf._auto_1):DS X ξ (.Expr e pos) (Za7 f):=by
 obtain⟨t,p,q⟩:=he;exact⟨_,Zl5 p hs,λσ ρ H α M Dn s hh w=>q σ ρ H α M _ s hh (FP.seq w λd M1 v H1 α1 e1 h1 r1 w1=>w1 σ H1 α1 Ext.refl h1 (s.mono e1))⟩
theorem Z1(hc:DT X ξ c fc)(ha:DSs X ξ a g)(hb:DSs X ξ b h):DS X ξ (.If c a b pos) (sIf fc g h):=by
 obtain⟨tc,pc,qc⟩:=hc;obtain⟨ta,pa,qa⟩:=ha;obtain⟨tb,pb,qb⟩:=hb;refine⟨_,Zr6 pc pa pb,λσ ρ H α M Dn s hh w=>qc σ ρ H α M _ s hh (FP.seq w λk M1 v H1 α1 e1 h1 r1 w1=>?_)⟩;cases r1;cases k with
 |true=>exact Zmn (qa σ ρ H1 α1 M1 Dn (s.mono e1) h1 w1)
 |false=>exact Zmm (qb σ ρ H1 α1 M1 Dn (s.mono e1) h1 w1)
def DG(X:Cx)(tg:Expr)(g:Tg):Prop:=∃t:TG,PG X tg t/\∀v d σ ρ H α ρ' Q,SR X.K H α σ ρ->Rep X.K H α v d->g d ρ=some ρ'->(∀σ',SR X.K H α σ' ρ'->Q σ' H)->t v σ H Q
def DGs(X:Cx)(tgs:List Expr)(g:Tgs):Prop:=∃t:TGs,PGs X tgs t/\∀vs ds σ ρ H α ρ' Q,SR X.K H α σ ρ->Reps X.K H α vs ds->g ds ρ=some ρ'->(∀σ',SR X.K H α σ' ρ'->Q σ' H)->t vs σ H Q
theorem Zk(i:Nat)(hN:X.N.Nodup)(hi:autoParam (X.N[i]?=some x) Qrf._auto_1)(hx:Loc X.env.scope x:=by first|exact c8 rfl|exact kz rfl)(hm:autoParam (X.may i=true) Qrf._auto_1)(hf:X.fn x=true\/X.env.scope.names.lookup x=some .local:=by first|exact .inl rfl|exact .inr rfl|assumption):DG X (.Name x pos) (gNm i):=by
 refine⟨_,Zl6 hN hi hx hm hf,λv d σ ρ H α ρ' Q s r e k=>?_⟩;cases e;exact k _ (s.set i r)
theorem ZY:DGs X [] gNl:=by
 refine⟨_,Zl7,λvs ds σ ρ H α ρ' Q s r e k=>?_⟩;cases r with
 |nil=>cases e;exact⟨rfl,k _ s⟩
 |cons _ _=>cases e
theorem Zv{g:Tg}(h1:DG X e g)(h2:DGs X es gs)(hs:autoParam ((bX (e::es) X.env).map (·.2)=assign e X.env::(bX es X.env).map (·.2)) Qrf._auto_1):DGs X (e::es) (gCs g gs):=by
 obtain⟨t1,p1,q1⟩:=h1;obtain⟨t2,p2,q2⟩:=h2;refine⟨_,ZjU p1 p2 hs,λvs ds σ ρ H α ρ' Q s r e k=>?_⟩;cases r with
 |nil=>cases e
 |cons r rr=>
  rename_i v d vs ds;cases e1:g d ρ with
  |none=>simp only[gCs,e1]at e;cases e
  |some ρ1=>
   simp only[gCs,e1]at e;exact⟨v,vs,rfl,q1 v d σ ρ H α ρ1 _ s r e1 λσ' s'=>q2 vs ds σ' ρ1 H α ρ' Q s' rr e k⟩
theorem Zat(hc:X.calm=true)(h:DGs X es gs)(hn:autoParam ((bX es X.env).length=n) Qrf._auto_1)(hlen:∀ds ρ ρ',gs ds ρ=some ρ'->ds.length=n)(hst:autoParam ((bX es X.env).findIdx? (·.1)=none) Qrf._auto_1):DG X (.Tuple es k pos) (gTp gs):=by
 obtain⟨t,p,q⟩:=h;refine⟨_,ZoE hc p hn hst,λv d σ ρ H α ρ' Q s r e k=>?_⟩;cases r with
 |@tup a xs ds hp rp=>
  have e':gs ds ρ=some ρ':=e;exact⟨a,xs,rfl,(SqT.of hp),by rw[rp.length];exact hlen ds ρ ρ' e',q xs ds σ ρ H α ρ' Q s rp e' k⟩
 |_=>cases e
theorem ZZ(h:gNl ds ρ=some ρ'):ds.length=0:=by cases ds with|nil=>rfl|cons _ _=>cases h
theorem Zz{g:Tg}(h:∀ds ρ ρ',gs ds ρ=some ρ'->ds.length=n)(ds:List D)(ρ ρ':Ro)(e:gCs g gs ds ρ=some ρ'):ds.length=n+1:=by
 cases ds with
 |nil=>cases e
 |cons d r=>
  cases e1:g d ρ with
  |none=>simp only[gCs,e1]at e;cases e
  |some ρ1=>simp only[gCs,e1]at e;rw[bS,h r ρ1 ρ' e]
theorem Zl(i:Nat)(hN:X.N.Nodup)(he:DE X ξ e f)(hi:autoParam (X.N[i]?=some x) Qrf._auto_1)(hx:Loc X.env.scope x:=by first|exact c8 rfl|exact kz rfl)(hm:autoParam (X.may i=true) Qrf._auto_1)(hs:autoParam (iK e (some (.Name x pos')) pos.line X.env=pure false) Qrf._auto_1)(hf:X.fn x=true\/X.env.scope.names.lookup x=some .local:=by first|exact .inl rfl|exact .inr rfl|assumption) :
  DS X ξ (.Assign [.Name x pos'] e pos) (ZF (gNm i) f):=by
 obtain⟨t,p,q⟩:=he;exact⟨_,ZoG hN hi hx hm p hs hf,λσ ρ H α M Dn s hh w=>q σ ρ H α M _ s hh (FP.seq w λd M1 v H1 α1 e1 h1 r1 w1=>w1 _ H1 α1 Ext.refl h1 ((s.mono e1).set i r1))⟩
theorem ZhK(he:DE X ξ e f)(hg:DG X tg gt)(hs:autoParam (fW [tg] e pos.line X.env=pure false) Qrf._auto_1)(hw:autoParam (eA [tg] e X.env=pure none) Qrf._auto_1)(h1:autoParam ((bX [tg] X.env).map (·.2)=[assign tg X.env]) Qrf._auto_1):DS X ξ (.Assign [tg] e pos) (ZF gt f):=by
 obtain⟨t,p,q⟩:=he;obtain⟨tt,pt,qt⟩:=hg;refine⟨_,Zhe p pt hs hw h1,λσ ρ H α M Dn s hh w=>q σ ρ H α M _ s hh (FP.seq w λd M1 v H1 α1 e1 h1 r1 w1=>?_)⟩;cases eg:gt d ρ with
 |none=>simp only[eg]at w1;exact w1.elim
 |some ρ1=>
  simp only[eg]at w1;exact qt v d σ ρ H1 α1 ρ1 _ (s.mono e1) r1 eg λσ' s'=>w1 σ' H1 α1 Ext.refl h1 s'
theorem ZfS(i j:Nat){kt k2 pt2}(hc:X.calm=true)(hN:X.N.Nodup)(ha:DA X ξ [a,b] fs)(hi:autoParam (X.N[i]?=some x) Qrf._auto_1)(hj:autoParam (X.N[j]?=some y) Qrf._auto_1)(mi:autoParam (X.may i=true) Qrf._auto_1)(mj:autoParam (X.may j=true) Qrf._auto_1)(hij:autoParam (i≠j) Qde._auto_1)(hx:autoParam (X.env.scope.names.lookup x=some .local) Qrf._auto_1)(hy:autoParam (X.env.scope.names.lookup y=some .local) Qrf._auto_1)(hw:autoParam (eA [.Tuple [.Name x px,.Name y py] kt pt] (.Tuple [a,b] k2 pt2) X.env=pure (some [x,y])) Qrf._auto_1)(hs:autoParam (fW [.Tuple [.Name x px,.Name y py] kt pt] (.Tuple [a,b] k2 pt2) pos.line X.env=pure false) Qrf._auto_1) :
  DS X ξ (.Assign [.Tuple [.Name x px,.Name y py] kt pt] (.Tuple [a,b] k2 pt2) pos) (ZgP i j fs):=by
 obtain⟨t,p,q⟩:=ha;refine⟨_,ZoH hc mi mj hN hi hj hij hx hy p hw hs,λσ ρ H α M Dn s hh w=>q σ ρ H α M _ s hh (FP.seq w λds M1 vs H1 α1 e1 h1 r1 w1=>?_)⟩;cases r1 with
 |nil=>exact w1.elim
 |cons r t=>
  cases t with
  |nil=>exact w1.elim
  |cons r' t=>
   cases t with
   |cons _ _=>exact w1.elim
   |nil=>exact⟨_,_,rfl,w1 _ H1 α1 Ext.refl h1 (((s.mono e1).set i r).set j r')⟩
theorem ZfT(ho:DE X ξ o fo)(hi:DE X ξ i fi)(he:DE X ξ e f)(ha:∀v,assign (.Subscript o i pos') X.env v=(do
   let ov <-holding [v] (eval o X.env)
   let iv <-holding [v,ov] (eval i X.env)
   standAt pos'
   holding [v,ov,iv] (setItem ov iv v)
   release [v,ov,iv] []):=by intro _;rfl) (hs:fW [.Subscript o i pos'] e pos.line X.env=pure false:=by rfl) (hw:eA [.Subscript o i pos'] e X.env=pure none:=by rfl) (h1:(bX [.Subscript o i pos'] X.env).map (·.2)=[assign (.Subscript o i pos') X.env]:=by rfl):DS X ξ (.Assign [.Subscript o i pos'] e pos) (Zkd fo fi f):=by
 obtain⟨t,p,q⟩:=he;obtain⟨to,po,qo⟩:=ho;obtain⟨ti,pi,qi⟩:=hi;refine⟨_,Zhe p (ZoF po pi Zj3 ha) hs hw h1,λσ ρ H α M Dn s hh w=>q σ ρ H α M _ s hh (FP.seq w λd M1 v H1 α1 e1 h1 r1 w1=>?_)⟩;refine qo σ ρ H1 α1 M1 _ (s.mono e1) h1 (FP.seq w1 λod M2 ov H2 α2 e2 h2 r2 w2=>?_);refine qi σ ρ H2 α2 M2 _ ((s.mono e1).mono e2) h2 (FP.seq w2 λkd M3 kv H3 α3 e3 h3 r3 w3=>?_);cases Rep.mono e3 r2 with
 |@ref p n hp=>
  cases r3 with
  |int k=>
   cases em:M3[n]? with
   |none=>simp only[em]at w3;exact w3.elim
   |some so=>
    cases so with
    |lst ds=>
     cases ej:ixN ds.length k with
     |none=>simp only[em,ej]at w3;exact w3.elim
     |some j=>
      simp only[em,ej]at w3;obtain⟨xs,g1,g2⟩:=h3.at hp em;refine⟨p,xs,k,j,rfl,rfl,g1,by rw[g2.length];exact ej,?_⟩
      exact w3 σ _ α3 (Ext.wr g1) (h3.wr hp g1 (Reps.set (Rep.mono e3 (Rep.mono e2 r1)) j g2)) ((((s.mono e1).mono e2).mono e3).mono (Ext.wr g1))
  |_=>exact w3.elim
 |_=>exact w3.elim
noncomputable def whN(c:Tv)(g:Sv):Nat->Ro->Sto->Option Fl
 |0,_,_=>none
 |n+1,ρ,M=>match c ρ M with
  |.ok true M1=>(match g ρ M1 with
   |.nx ρ2 M2=>whN c g n ρ2 M2
   |.cnt ρ2 M2=>whN c g n ρ2 M2
   |.brk ρ2 M2=>some (.nx ρ2 M2)
   |o=>some o)
  |.ok false M1=>some (.nx ρ M1)
  |.exc e M1=>some (.exc e M1)
  |.bad=>some .bad
theorem Zct{c:Tv}{g:Sv}:∀{n:Nat}{ρ:Ro}{M:Sto}{o:Fl},whN c g n ρ M=some o->∀k,whN c g (n+k) ρ M=some o
 |0,_,_,_,e,_=>by simp only[whN]at e;cases e
 |n+1,ρ,M,o,e,k=>by
  have ek:n+1+k=(n+k)+1:=⋯
  rw[ek];unfold whN at e ⊢;cases ec:c ρ M with
  |bad=>rw[ec]at e;exact e
  |exc x M1=>rw[ec]at e;exact e
  |ok b M1=>
   rw[ec]at e;cases b with
   |false=>exact e
   |true=>
    cases eg:g ρ M1 with
    |nx ρ2 M2=>simp only[eg]at e ⊢;exact Zct e k
    |cnt ρ2 M2=>simp only[eg]at e ⊢;exact Zct e k
    |brk ρ2 M2=>simp only[eg]at e ⊢;exact e
    |ret d M2=>simp only[eg]at e ⊢;exact e
    |exc x M2=>simp only[eg]at e ⊢;exact e
    |bad=>simp only[eg]at e ⊢;exact e
open Classical in
def sWh(c:Tv)(g:Sv):Sv:=λρ M=>if h:∃o n,whN c g n ρ M=some o then Classical.choose h else .bad
theorem Zcb{c:Tv}{g:Sv}(e:whN c g n ρ M=some o):sWh c g ρ M=o:=by
 have hx:∃o n,whN c g n ρ M=some o:=⟨o,n,e⟩;unfold sWh;rw[dif_pos hx];obtain⟨m,em⟩:=Classical.choose_spec hx;have h1:=Zct em n;have h2:=Zct e m;rw[iF]at h2;rw[h1]at h2;exact aO h2
theorem ZhL{c:Tv}{g:Sv}(e:sWh c g ρ M≠ .bad):∃n,whN c g n ρ M=some (sWh c g ρ M):=by
 by_cases hx:∃o n,whN c g n ρ M=some o
 .obtain⟨o,n,h⟩:=hx;exact⟨n,by rw[Zcb h];exact h⟩
 .unfold sWh at e;rw[dif_neg hx]at e;exact absurd rfl e
theorem Zei{c:Tv}{g:Sv}{M1:Sto}(h:c ρ M=.ok false M1):sWh c g ρ M=.nx ρ M1:=Zcb (n:=1) (by simp only[whN,h])
theorem ZfU{c:Tv}{g:Sv}{M1 M2:Sto}(h:c ρ M=.ok true M1)(h2:g ρ M1=.nx ρ2 M2)(hb:sWh c g ρ2 M2≠ .bad):sWh c g ρ M=sWh c g ρ2 M2:=by
 obtain⟨n,e⟩:=ZhL hb;exact Zcb (n:=n+1) (by simp only[whN,h,h2];exact e)
theorem ZfV(hp:fE (aE X.prog X.w) X.A X.env X.xe)(hc:DT X ξ c fc)(hb:DSs X ξ body g):DS X ξ (.While c body [] pos) (sWh fc g):=by
 obtain⟨tc,pc,qc⟩:=hc;obtain⟨tb,pb,qb⟩:=hb;refine⟨_,ZjV hp pc pb,λσ ρ H α M Dn s hh w=>?_⟩;have nb:sWh fc g ρ M≠ .bad:=λz=>by rw[z]at w;exact w
 obtain⟨n,en⟩:=ZhL nb;generalize sWh fc g ρ M=o at w en;refine⟨λm σ' H'=>∃ρ' α' M',Ext X.K H H' α α'/\SR X.K H' α' σ' ρ'/\HR X.K H' α' M'/\whN fc g m ρ' M'=some o,⟨n,ρ,α,M,Ext.refl,s,hh,en⟩,?_⟩;rintro m σ1 H1 ⟨ρ1,α1,M1,e1,s1,h1,en1⟩;cases m with
 |zero=>simp only[whN]at en1;cases en1
 |succ m=>
  refine qc σ1 ρ1 H1 α1 M1 _ s1 h1 ?_;unfold whN at en1;cases ec:fc ρ1 M1 with
  |bad=>rw[ec]at en1;cases en1;exact w.elim
  |exc x M2=>
   rw[ec]at en1;cases en1;exact λC H' α' nn ex hr=>w C H' α' nn (e1.trans ex) hr
  |ok b M2=>
   rw[ec]at en1;intro v H2 α2 e2 h2 ev;cases ev;cases b with
   |false=>
    cases en1;exact Zmm (w σ1 H2 α2 (e1.trans e2) h2 (s1.mono e2))
   |true=>
    refine Zmn ⟨λσ' H'=>∃ρ' α' M',Ext X.K H H' α α'/\SR X.K H' α' σ' ρ'/\HR X.K H' α' M'/\whN fc g m ρ' M'=some o,λσ' H' z=>⟨m,dF m,z⟩,?_⟩;refine qb σ1 ρ1 H2 α2 M2 _ (s1.mono e2) h2 ?_;have e12:=e1.trans e2;cases eg:g ρ1 M2 with
    |nx ρ2 M3=>simp only[eg]at en1;exact λσ' H' α' ex hr sr=>⟨ρ2,α',M3,e12.trans ex,sr,hr,en1⟩
    |cnt ρ2 M3=>simp only[eg]at en1;exact λσ' H' α' ex hr sr=>⟨ρ2,α',M3,e12.trans ex,sr,hr,en1⟩
    |brk ρ2 M3=>simp only[eg]at en1;cases en1;exact λσ' H' α' ex hr sr=>w σ' H' α' (e12.trans ex) hr sr
    |ret d M3=>simp only[eg]at en1;cases en1;exact λv H' α' ex hr sr=>w v H' α' (e12.trans ex) hr sr
    |exc x M3=>simp only[eg]at en1;cases en1;exact λC H' α' nn ex hr=>w C H' α' nn (e12.trans ex) hr
    |bad=>simp only[eg]at en1;cases en1;exact w.elim
noncomputable def Zbr(tg:Tg)(g:Sv):List D->Ro->Sto->Fl
 |[],ρ,M=>.nx ρ M
 |d::r,ρ,M=>match tg d ρ with
  |none=>.bad
  |some ρ1=>(match g ρ1 M with
   |.nx ρ2 M2=>Zbr tg g r ρ2 M2
   |.cnt ρ2 M2=>Zbr tg g r ρ2 M2
   |.brk ρ2 M2=>.nx ρ2 M2
   |o=>o)
noncomputable def Zg4(tg:Tg)(g:Sv)(n:Nat):Nat->Nat->Ro->Sto->Fl
 |f,i,ρ,M=>match M[n]? with
  |some (.lst xs)=>(match xs[i]? with
   |none=>.nx ρ M
   |some d=>(match f with
    |0=>.bad
    |f+1=>(match tg d ρ with
     |none=>.bad
     |some ρ1=>(match g ρ1 M with
      |.nx ρ2 M2=>Zg4 tg g n f (i+1) ρ2 M2
      |.cnt ρ2 M2=>Zg4 tg g n f (i+1) ρ2 M2
      |.brk ρ2 M2=>.nx ρ2 M2
      |o=>o))))
  |none=>.bad
def Zah(lo:Int)(n:Nat):List D:=(aC n).map λ(i:Nat)=>D.int (lo+i)
def Zke(tg:Tg)(g:Sv)(d:D)(ρ:Ro)(M:Sto):Fl:=match d with
 |.tup xs=>Zbr tg g xs ρ M
 |.rol xs=>Zbr tg g xs ρ M
 |.ref n=>(match M[n]? with|some (.lst xs)=>Zg4 tg g n xs.length 0 ρ M|none=>.bad)
 |_=>.bad
def Zg5(tg:Tg)(f:Ev)(g:Sv):Sv:=λρ M=>Zas (f ρ M) λd M1=>Zke tg g d ρ M1
def ZaE(tg:Tg)(fs:Av)(g:Sv):Sv:=λρ M=>Zas (fs ρ M) λds M1=>match ds with
 |[.int j]=>if -(2^62)<=j/\j<2^62 then Zbr tg g (Zah 0 j.toNat) ρ M1 else .bad
 |_=>.bad
theorem ZfW{lo:Int}(h:i<n):(Zah lo n)[i]?=some (.int (lo+i)):=by
 unfold Zah;rw[bC,List.getElem?_range h];rfl
theorem Zdx{lo:Int}:(Zah lo n).length=n:=by unfold Zah;rw[af,dk]
theorem ZhM{lo:Int}(h:i<n):(Zah lo n).drop i=.int (lo+i)::(Zah lo n).drop (i+1):=by
 have hl:i<(Zah lo n).length:=by rw[Zdx];exact h
 have e:=ZfW (lo:=lo) h;rw[av hl]at e;rw[dM hl,aO e]
theorem Zkf{tg:Expr}{gt:Tg}{tt:TG}{tb:TS}{k:Ro->Sto->Fl}(w:FP X.K H α ξ Dn o)(qt:∀v d σ ρ H α ρ' Q,SR X.K H α σ ρ->Rep X.K H α v d->gt d ρ=some ρ'->(∀σ',SR X.K H α σ' ρ'->Q σ' H)->tt v σ H Q)(qb:∀σ ρ H α M Dn,SR X.K H α σ ρ->HR X.K H α M->FP X.K H α ξ Dn (g ρ M)->tb Dn σ H){M1:Sto}(e1:Ext X.K H H1 α α1)(s1:SR X.K H1 α1 σ1 ρ1)(h1:HR X.K H1 α1 M1)(r:Rep X.K H1 α1 v d)(en:(match gt d ρ1 with|none=>Fl.bad|some ρ2=>(match g ρ2 M1 with|.nx ρ3 M3=>k ρ3 M3|.cnt ρ3 M3=>k ρ3 M3|.brk ρ3 M3=>.nx ρ3 M3|o=>o))=o)(hN:∀σ' H',(∃ρ' α' M',Ext X.K H H' α α'/\SR X.K H' α' σ' ρ'/\HR X.K H' α' M'/\k ρ' M'=o)->N σ' H'):tt v σ1 H1 λσ2 H2=>tb {Dn with nx:=N,ct:=N,bk:=Dn.nx} σ2 H2:=by
 cases eg:gt d ρ1 with
 |none=>rw[eg]at en;cases en;exact w.elim
 |some ρ2=>
  simp only[eg]at en;refine qt v d σ1 ρ1 H1 α1 ρ2 _ s1 r eg λσ2 s2=>qb σ2 ρ2 H1 α1 M1 _ s2 h1 ?_;cases ex:g ρ2 M1 with
  |nx ρ3 M3=>simp only[ex]at en;exact λσ' H' α' e2 hr sr=>hN _ _ ⟨ρ3,α',M3,e1.trans e2,sr,hr,en⟩
  |cnt ρ3 M3=>simp only[ex]at en;exact λσ' H' α' e2 hr sr=>hN _ _ ⟨ρ3,α',M3,e1.trans e2,sr,hr,en⟩
  |brk ρ3 M3=>simp only[ex]at en;cases en;exact λσ' H' α' e2 hr sr=>w σ' H' α' (e1.trans e2) hr sr
  |ret d M3=>simp only[ex]at en;cases en;exact λv H' α' e2 hr sr=>w v H' α' (e1.trans e2) hr sr
  |exc x M3=>simp only[ex]at en;cases en;exact λC H' α' nn e2 hr=>w C H' α' nn (e1.trans e2) hr
  |bad=>simp only[ex]at en;cases en;exact w.elim
theorem Zpk{tg:Expr}{tt:TG}{tb:TS}{lo:Int}(qt:∀v d σ ρ H α ρ' Q,SR X.K H α σ ρ->Rep X.K H α v d->gt d ρ=some ρ'->(∀σ',SR X.K H α σ' ρ'->Q σ' H)->tt v σ H Q)(qb:∀σ ρ H α M Dn,SR X.K H α σ ρ->HR X.K H α M->FP X.K H α ξ Dn (g ρ M)->tb Dn σ H)(s:SR X.K H α σ ρ)(hh:HR X.K H α M)(w:FP X.K H α ξ Dn (Zbr gt g (Zah lo n) ρ M)):∃W:Nat->Nat->L2.St->Hp->Prop,(∃m,W 0 m σ H)/\∀i m σ H,W i m σ H->((Itr lo n).stop i H/\Dn.nx σ H)\/((Itr lo n).go i H/\∃N:L2.St->Hp->Prop,(∀σ' H',N σ' H'->∃m',m'<m/\W (i+1) m' σ' H')/\∀x H',(Itr lo n).yld i H x H'->tt x σ H' λσ2 H2=>tb {Dn with nx:=N,ct:=N,bk:=Dn.nx} σ2 H2):=by
 generalize ho:Zbr gt g (Zah lo n) ρ M=o at w;refine Zhj (λi σ' H'=>∃ρ' α' M',Ext X.K H H' α α'/\SR X.K H' α' σ' ρ'/\HR X.K H' α' M'/\Zbr gt g ((Zah lo n).drop i) ρ' M'=o) ⟨ρ,α,M,Ext.refl,s,hh,ho⟩ ?_ ?_
 .rintro i σ1 H1 hi ⟨ρ1,α1,M1,e1,s1,h1,en⟩;rw[ZhM hi]at en;exact Zkf (tg:=tg) w qt qb e1 s1 h1 (.int (lo+i)) en (λσ' H' z=>z)
 .rintro σ1 H1 ⟨ρ1,α1,M1,e1,s1,h1,en⟩;rw[dz (by rw[Zdx];exact ae _)]at en
  cases en;exact w σ1 H1 α1 e1 h1 s1
theorem Zaa(hp:fE (aE X.prog X.w) X.A X.env X.xe)(hm:X.mg "range"=none)(ha:DA X ξ [a] fs)(hg:DG X tg gt)(hb:DSs X ξ body g)(hgl:autoParam (Gl X "range") Qrf._auto_1)(hs:autoParam (aA [a] X.env=[(false,eval a X.env)]) Qrf._auto_1)(hf:autoParam (∀x,foldedSetIterable (.Call (.Name "range" p) [a] [] p2) X.env x=pure x) Qin._auto_1):DS X ξ (.For tg (.Call (.Name "range" p) [a] [] p2) body [] pos) (ZaE gt fs g):=by
 obtain⟨ta,pa,qa⟩:=ha;obtain⟨tt,pt,qt⟩:=hg;obtain⟨tb,pb,qb⟩:=hb;refine⟨_,Zhi hp (Zd2 hgl hm pa hs) pt pb hf,λσ ρ H α M Dn s hh w=>qa σ ρ H α M _ s hh (FP.seq w λds M1 vs H1 α1 e1 h1 r1 w1=>?_)⟩;cases r1 with
 |nil=>exact w1.elim
 |cons r tz=>
  cases tz with
  |cons _ _=>cases r<;>exact w1.elim
  |nil=>
   cases r with
   |int j=>
    by_cases c: -(2^62)<=j/\j<2^62
    .simp only[if_pos c]at w1;exact⟨j,rfl,c.1,c.2,Zpk (tg:=tg) qt qb (s.mono e1) h1 w1⟩
    .simp only[if_neg c]at w1;exact w1.elim
   |_=>exact w1.elim
def ZvG(K:Fg)(tl:TE):TI:=λσ H R=>tl σ H λx H1=>∃a,x=.ref a/\(((∃xs,SqL K H1 a xs)/\R (Itl K a) H1)\/((∃xs,SqT K H1 a xs)/\R (Itt K a) H1))
theorem Zlm(hl:PE X l tl):PI X tg l (ZvG X.K tl):=by
 intro pins s σ H R I h;refine thn (hl pins s σ H _ I h) λv s1 hz=>?_;obtain⟨x,H1,I1,r1,q1⟩:=hz;obtain⟨a,e,q⟩:=q1;subst e;cases r1;have fp:∀b∈[s1.heap.objs.size],ZeR X pins H1 b:=λb hb=>by
  have e:b=s1.heap.objs.size:=by simpa using hb
  subst e;exact I1.fpOk (ae _) (I1.hok.fresh (ae _))
 rcases q with⟨⟨xs,hq⟩,q⟩|⟨⟨xs,hq⟩,q⟩
 .obtain⟨its,rv,p,hz⟩:=I1.list hq;refine gH p.isList ?_;exact⟨s1.heap.objs.size,[s1.heap.objs.size],_,_,H1,rfl,I1.kept (t':=s1.toks) λb o e=>Hq _ e,Zhf a _,⟨_,aF _ rfl,rfl,rfl⟩,fp,q⟩
 .obtain⟨its,rv,p,hz⟩:=I1.tuple hq;refine wpAny_pyIter_tuple (show s1.heap.IsTuple a its.toArray from p) ?_;exact⟨s1.heap.objs.size,[s1.heap.objs.size],_,_,H1,rfl,I1.kept (t':=s1.toks) λb o e=>Hq _ e,ZgG a _,⟨_,aF _ rfl,rfl,rfl⟩,fp,q⟩
theorem Zcc{f:Ev}(hp:fE (aE X.prog X.w) X.A X.env X.xe)(hl:DE X ξ l f)(hg:DG X tg gt)(hb:DSs X ξ body g)(hf:autoParam (∀x,foldedSetIterable l X.env x=pure x) Qin._auto_1):DS X ξ (.For tg l body [] pos) (Zg5 gt f g):=by
 obtain⟨ta,pa,qa⟩:=hl;obtain⟨tt,pt,qt⟩:=hg;obtain⟨tb,pb,qb⟩:=hb;refine⟨_,Zhi hp (Zlm pa) pt pb hf,λσ ρ H α M Dn s hh w=>qa σ ρ H α M _ s hh (FP.seq w λd M1 v H1 α1 e1 h1 r1 w1=>?_)⟩;have s1:=s.mono e1;have pure_:∀(ds:List D)(xs:List V),Reps X.K H1 α1 xs ds->FP X.K H1 α1 ξ Dn (Zbr gt g ds ρ M1)->∀(i:Nat) σ' H',(∃ρ' α' M',Ext X.K H1 H' α1 α'/\SR X.K H' α' σ' ρ'/\HR X.K H' α' M'/\Zbr gt g (ds.drop i) ρ' M'=Zbr gt g ds ρ M1)->
   (∀x,xs[i]?=some x->tt x σ' H' λσ2 H2=>tb {Dn with nx:=λσ H=>∃ρ' α' M',Ext X.K H1 H α1 α'/\SR X.K H α' σ ρ'/\HR X.K H α' M'/\Zbr gt g (ds.drop (i+1)) ρ' M'=Zbr gt g ds ρ M1,ct:=λσ H=>∃ρ' α' M',Ext X.K H1 H α1 α'/\SR X.K H α' σ ρ'/\HR X.K H α' M'/\Zbr gt g (ds.drop (i+1)) ρ' M'=Zbr gt g ds ρ M1,bk:=Dn.nx} σ2 H2)/\
   (i=xs.length->Dn.nx σ' H'):=by
  intro ds xs r w1 i σ' H' hz;obtain⟨ρ',α',M',ex,sr,hr,en⟩:=hz;refine⟨λx hx=>?_,λhi=>?_⟩
  .have hi:i<ds.length:=by rw[<-r.length];exact(au.mp hx).1
   obtain⟨v,g1,g2⟩:=r.get (Gq hi);rw[hx]at g1;cases g1;rw[dM hi]at en;exact Zkf (tg:=tg) w1 qt qb ex sr hr (Rep.mono ex g2) en (λσ' H' z=>z)
  .rw[hi,r.length,List.drop_length]at en;have en':Fl.nx ρ' M'=Zbr gt g ds ρ M1:=en;rw[<-en']at w1;exact w1 σ' H' α' ex hr sr
 cases r1 with
 |@tup p xs ds hp rp=>
  have w2:FP X.K H1 α1 ξ Dn (Zbr gt g ds ρ M1):=w1;refine⟨p,rfl,.inr ⟨⟨xs,(SqT.of hp)⟩,Zl8 (K:=X.K) (a:=p) (xs:=xs) (λi σ' H'=>∃ρ' α' M',Ext X.K H1 H' α1 α'/\SR X.K H' α' σ' ρ'/\HR X.K H' α' M'/\Zbr gt g (ds.drop i) ρ' M'=Zbr gt g ds ρ M1) ⟨ρ,α1,M1,Ext.refl,s1,h1,rfl⟩ ?_ ?_ ?_⟩⟩
  .rintro i σ' H' _ ⟨ρ',α',M',ex,_⟩;exact SqT.of (ex.tup _ _ hp)
  .intro i x σ' H' hx z;exact(pure_ ds xs rp w2 i σ' H' z).1 x hx
  .intro σ' H' z;exact(pure_ ds xs rp w2 _ σ' H' z).2 rfl
 |@rol p xs ds hp rp=>
  have w2:FP X.K H1 α1 ξ Dn (Zbr gt g ds ρ M1):=w1;refine⟨p,rfl,.inl ⟨⟨xs,hp.sq⟩,ZjX (K:=X.K) (a:=p) (xs:=xs) (λi σ' H'=>∃ρ' α' M',Ext X.K H1 H' α1 α'/\SR X.K H' α' σ' ρ'/\HR X.K H' α' M'/\Zbr gt g (ds.drop i) ρ' M'=Zbr gt g ds ρ M1) ⟨ρ,α1,M1,Ext.refl,s1,h1,rfl⟩ ?_ ?_ ?_⟩⟩
  .rintro i σ' H' _ ⟨ρ',α',M',ex,_⟩;exact(ex.rol _ _ hp).sq
  .intro i x σ' H' hx z;exact(pure_ ds xs rp w2 i σ' H' z).1 x hx
  .intro σ' H' z;exact(pure_ ds xs rp w2 _ σ' H' z).2 rfl
 |@ref p n hp=>
  cases em:M1[n]? with
  |none=>simp only[Zke,em]at w1;exact w1.elim
  |some so=>
   cases so with
   |lst ds=>
    simp only[Zke,em]at w1;obtain⟨xs0,g0,r0⟩:=h1.at hp em;generalize eo:Zg4 gt g n ds.length 0 ρ M1=o at w1;refine⟨p,rfl,.inl ⟨⟨xs0,SqL.of g0⟩,λi m σ' H'=>∃ρ' α' M',Ext X.K H1 H' α1 α'/\SR X.K H' α' σ' ρ'/\HR X.K H' α' M'/\Zg4 gt g n m i ρ' M'=o,⟨ds.length,ρ,α1,M1,Ext.refl,s1,h1,eo⟩,?_⟩⟩;rintro i m σ' H' ⟨ρ',α',M',ex,sr,hr,en⟩;unfold Zg4 at en;cases em2:M'[n]? with
    |none=>simp only[em2]at en;cases en;exact w1.elim
    |some so2=>
     cases so2 with
     |lst ds2=>
      simp only[em2]at en;obtain⟨xs,g1,g2⟩:=hr.at (ex.get hp) em2;cases ei:ds2[i]? with
      |none=>
       simp only[ei]at en;cases en;refine .inl ⟨⟨xs,SqL.of g1,?_⟩,w1 σ' H' α' ex hr sr⟩;rw[g2.length];exact bw.mp ei
      |some d=>
       simp only[ei]at en;obtain⟨v,k1,k2⟩:=g2.get ei;cases m with
       |zero=>cases en;exact w1.elim
       |succ m=>
        refine .inr ⟨⟨xs,v,SqL.of g1,k1⟩,λσ2 H2=>∃ρ' α' M',Ext X.K H1 H2 α1 α'/\SR X.K H2 α' σ2 ρ'/\HR X.K H2 α' M'/\Zg4 gt g n m (i+1) ρ' M'=o,λσ2 H2 z=>⟨m,dF m,z⟩,λx H2 y=>?_⟩;obtain⟨ey,y⟩:=y;subst ey;have ev:=y xs (SqL.of g1);rw[k1]at ev;cases ev;exact Zkf (tg:=tg) w1 qt qb ex sr hr k2 en (λσ' H' z=>z)
 |_=>exact w1.elim
end
noncomputable def fnF(g:Sv)(n k:Nat):W3:=λds M=>if ds.length=n then(match g (ds.map some++aB k none) M with
 |.ret d M'=>.ok d M'
 |.nx _ M'=>.ok .non M'
 |.exc c M'=>.exc c M'
 |_=>.bad)else .bad
def spD(K:Fg)(F:W3):Sp:=λvs H Q E=>∃ds α M,Reps K H α vs ds/\HR K H α M/\OP K H α E Q (F ds M)
theorem Zej:∀{ds:List D}{k i:Nat}{d:D},(ds.map some++aB k none)[i]?=some (some d)->ds[i]?=some d
 |[],k,i,d,h=>by
  rw[iC,ip]at h
  have:=dZ h
  rw[i5]at this;cases this.2
 |x::r,k,0,d,h=>by simpa using h
 |x::r,k,i+1,d,h=>by
  rw[aR,bI,dm]at h;rw[dm];exact Zej h
theorem SR.start{K:Fg}{H:Hp}{α:List Addr}{N:List Str}{vs:List V}{ds:List D}{k:Nat}(r:Reps K H α vs ds)(hk:k=N.length-ds.length):SR K H α (start N vs) (ds.map some++aB k none):=by
 unfold L2.start;refine⟨by simp only[aI,af,bO,r.length,hk],λi d h=>?_⟩
 obtain⟨v,h1,h2⟩:=r.get (Zej h);refine⟨v,?_,h2⟩;have hl:i<vs.length:=(au.mp h1).1;rw[ac (by rw[af];exact hl),bC,h1]
 rfl
section
variable {K:Fg}{base:Heap}
theorem Zpl{st:Stmt}(F:Fun K x qual st f fd)(S:FnScope N ps (Zq st))(hn:n=ps.length)(hm:m=N.length-n)(hb:∀(cdv:aa)(A:cZ)(outer:List Env)(s:aH)(H:Hp)(E:XK),Room k (A.deeper (iV qual (Zq st) s.heap.objs.size f cdv))->Thr (ZfI (CXE P w) P w K mg base N qual (Zq st) f cdv A outer s H E) E->DSs (ZfI (CXE P w) P w K mg base N qual (Zq st) f cdv A outer s H E) E (Zai st) g):FnOk P w K mg base (CXE P w) (k+1) f fd ps (spD K (fnF g n m)):=by
 obtain⟨oc,od,kV,doc,pm,an,cdv,ct,osl,rfl,lk,hcd⟩:=F.ex;refine ZoR lk hcd S (λvs H Q E h=>?_) (λA outer s H vs Q E hr h=>?_)
 .obtain⟨ds,α,M,r,_,q⟩:=h;by_cases c:ds.length=n
  .rw[r.length,c,hn]
  .simp only[fnF,if_neg c]at q;exact q.elim
 .obtain⟨ds,α,M,r,hh,q⟩:=h;obtain⟨t,p,w'⟩:=hb cdv A outer s H E hr Zll;by_cases c:ds.length=n
  .simp only[fnF,if_pos c]at q;refine⟨t,p,w' _ _ H α M _ (SR.start (N:=N) r (k:=m) (by rw[hm,c])) hh ?_⟩
   cases e:g (ds.map some++aB m none) M with
   |nx ρ' M'=>simp only[e]at q;exact λσ' H' α' ex hr sr=>q _ H' α' ex hr .non
   |ret d M'=>simp only[e]at q;exact q
   |exc x M'=>simp only[e]at q;exact q
   |brk ρ' M'=>simp only[e]at q;exact q.elim
   |cnt ρ' M'=>simp only[e]at q;exact q.elim
   |bad=>simp only[e]at q;exact q.elim
  .simp only[fnF,if_neg c]at q;exact q.elim
end
theorem ZmB(G:FnOk X.prog X.w X.K X.mg X.base (CXE X.prog X.w) k f fd ps (spD X.K F))(T:Thr X ξ)(hr:Room k X.A)(hm:X.mg x=some (.ref f))(hk:PySem.W.keepIn X.K (.ref f)=true)(hb:ZeY X.K fd ps [])(ha:DA X ξ (e::es) fs)(hg:autoParam (Gl X x) Qrf._auto_1)
  (hdb:(x==("__debug__":Str))=false:=by decide) (he:aA (e::es) X.env=(false,eval e X.env)::aA es X.env:=by rfl) (hpl:(cR pos (aA es X.env)).any (·.1)=false:=by rfl):DE X ξ (.Call (.Name x p) (e::es) [] pos) (Zj F fs):=by
 obtain⟨t,pa,qa⟩:=ha;refine⟨_,Zmd G hr hg hm hk hb .nil T.ps pa hdb he hpl,λσ ρ H α M Q s hh q=>qa σ ρ H α M _ s hh (OG.seq q λds M1 vs H1 α1 e1 h1 r1 q1=>?_)⟩;rw[cD];exact⟨ds,α1,M1,r1,h1,q1⟩
end DL
namespace DL
open PyProof.Rows L2
theorem ZbN:bN "abs"=some (.builtin "abs"):=by decide +kernel
theorem ZhN:bN "int"=some (.type "int"):=by decide +kernel
theorem ZmC:bN "bool"=some (.type "bool"):=by decide +kernel
theorem ZcF:bN "list"=some (.type "list"):=by decide +kernel
theorem Zln:bN "max"=some (.builtin "max"):=by decide +kernel
theorem Zlo:bN "min"=some (.builtin "min"):=by decide +kernel
def Cal(P:cB)(w:cO)(K:Fg)(mg:Str->Option aa)(base:Heap)(x:Str)(k n:Nat)(F:W3):Prop:=
 ∃(f:Addr) (fd:hX) (ps:List Str),FnOk P w K mg base (CXE P w) k f fd ps (spD K F)/\mg x=some (.ref f)/\PySem.W.keepIn K (.ref f)=true/\ps.length=n/\ZeY K fd ps []
theorem Zkg(C:Cal X.prog X.w X.K X.mg X.base x k n F)(T:Thr X ξ)(hr:Room k X.A)(ha:DA X ξ (e::es) fs)(hg:autoParam (Gl X x) Qrf._auto_1)(hdb:autoParam ((x==("__debug__":Str))=false) Qde._auto_1)(he:autoParam (aA (e::es) X.env=(false,eval e X.env)::aA es X.env) Qrf._auto_1)(hpl:autoParam ((cR pos (aA es X.env)).any (·.1)=false) Qrf._auto_1):DE X ξ (.Call (.Name x p) (e::es) [] pos) (Zj F fs):=by
 obtain⟨f,fd,ps,G,hm,hk,_,hb⟩:=C;exact ZmB G T hr hm hk hb ha hg hdb he hpl
end DL
namespace DL
open PyProof.Rows L2
noncomputable def bl:List Str:=["ValueError","abs","all","any","bool","dict","enumerate","int","isinstance","len","list","max","min","range","repr","reversed","sorted","str","sum","tuple","zip"]
structure Bs(mg:Str->Option aa):Prop where
 b_ValueError:mg "ValueError"=none
 b_abs:mg "abs"=none
 b_all:mg "all"=none
 b_any:mg "any"=none
 b_bool:mg "bool"=none
 b_dict:mg "dict"=none
 b_enumerate:mg "enumerate"=none
 b_int:mg "int"=none
 b_isinstance:mg "isinstance"=none
 b_len:mg "len"=none
 b_list:mg "list"=none
 b_max:mg "max"=none
 b_min:mg "min"=none
 b_range:mg "range"=none
 b_repr:mg "repr"=none
 b_reversed:mg "reversed"=none
 b_sorted:mg "sorted"=none
 b_str:mg "str"=none
 b_sum:mg "sum"=none
 b_tuple:mg "tuple"=none
 b_zip:mg "zip"=none
theorem Bs.of{K:Fg}(X:K.In h)(G:h.Ns aM mg)(z:bl.map (PySem.W.nsIn K aM)=bl.map λ_=>some none):Bs mg:=by
 have q (x:Str) (m:x∈bl):mg x=none:=PySem.W.mg_none_of X G (List.map_inj_left.mp z x m)
 constructor<;>exact q _ (by decide +kernel)
noncomputable def Df(K:Fg)(x:Str)(st:Stmt):Prop:=∃f fd,PySem.W.nsIn K aM x=some (some (.ref f))/\Fun K x x st f fd
def Dfs(K:Fg)(p:Nat->Stmt)(L:List Rw):Prop:=
 L.map (λr=>(PySem.W.nsIn K aM r.n,K.lookup r.f,PySem.W.codeIn K (.ref (r.f-1)) r.n,PySem.W.keepIn K (.ref r.f)))=L.map λr=>(some (some (.ref r.f)),some (r.fo p),true,true)
theorem Dfs.of{K:Fg}(h:L.map (λr=>(PySem.W.nsIn K aM r.n,K.lookup r.f,PySem.W.codeIn K (.ref (r.f-1)) r.n,PySem.W.keepIn K (.ref r.f)))=L.map λr=>(some (some (.ref r.f)),some (r.fo p),true,true)):Dfs K p L:=h
theorem Dfs.at{K:Fg}(h:Dfs K p L)(j i:Nat)(e:autoParam ((L[j]?).map (λr=>(a9 r.n,r.i))=some (x,i)) Qrf._auto_1):Df K x (p i):=by
 obtain⟨r,m,e⟩:=gA.mp e;have q:=List.map_inj_left.mp h r (dZ m);cases e;simp only[lD]at q;exact⟨_,_,q.1,ZoY q.2.1 q.2.2.1 q.2.2.2⟩
section
variable {P:cB}{w:cO}{K:Fg}
theorem ZvH{α:Type}{P:List α->Prop}(h:P []):∀us:List α,us.length=0->P us
 |[],_=>h
theorem Zuy{α:Type}{P:List α->Prop}(h:∀x0,P [x0]):∀us:List α,us.length=1->P us
 |[x0],_=>h x0
theorem Zuz{α:Type}{P:List α->Prop}(h:∀x0 x1,P [x0,x1]):∀us:List α,us.length=2->P us
 |[x0,x1],_=>h x0 x1
theorem ZuA{α:Type}{P:List α->Prop}(h:∀x0 x1 x2,P [x0,x1,x2]):∀us:List α,us.length=3->P us
 |[x0,x1,x2],_=>h x0 x1 x2
theorem ZvI{α:Type}{P:List α->Prop}(h:∀x0 x1 x2 x3,P [x0,x1,x2,x3]):∀us:List α,us.length=4->P us
 |[x0,x1,x2,x3],_=>h x0 x1 x2 x3
theorem ZvJ{α:Type}{P:List α->Prop}(h:∀x0 x1 x2 x3 x4,P [x0,x1,x2,x3,x4]):∀us:List α,us.length=5->P us
 |[x0,x1,x2,x3,x4],_=>h x0 x1 x2 x3 x4
theorem ZvK{α:Type}{P:List α->Prop}(h:∀x0 x1 x2 x3 x4 x5,P [x0,x1,x2,x3,x4,x5]):∀us:List α,us.length=6->P us
 |[x0,x1,x2,x3,x4,x5],_=>h x0 x1 x2 x3 x4 x5
theorem ZP{st:Stmt}(D:Df K x st)(gl:∀c v,PySem.W.nsIn K aM c=some (some v)->mg c=some v)(hb:∀(cdv:aa)(A:cZ)(outer:List Env)(s:aH)(H:Hp)(E:XK)(f:Addr),N.Nodup->Room k (A.deeper (iV x (Zq st) s.heap.objs.size f cdv))->Thr (ZfI (CXE P w) P w K mg base N x (Zq st) f cdv A outer s H E) E->DSs (ZfI (CXE P w) P w K mg base N x (Zq st) f cdv A outer s H E) E (Zai st) g)(h1:autoParam ((Zq st).kind=.function) Qrf._auto_1)(h2:autoParam ((Zq st).isCoroutine=false) Qrf._auto_1)(h3:autoParam ((Zq st).isGenerator=false) Qrf._auto_1)(h4:N.Nodup:=by decide +kernel)(h5:autoParam ((N.take n).length=n) Qrf._auto_1)(h6:∀y∈N.take n,(Zq st).names.lookup y=some .local\/(Zq st).names.lookup y=some .cell:=by decide +kernel)(h7:∀y∈(Zq st).names,y.2≠ .free:=by decide +kernel)(hm:autoParam (m=N.length-n) Qrf._auto_1)(bi:∀(kV doc pm:aa)(an:Option Addr)(cdv ct:aa)(us:List aa),us.length=n->hZ (PySem.W.fnOf x x (Za9 st) (Zai st) (Zq st) .none kV doc pm an cdv ct) ⟨us,[]⟩=pure ((N.take n).zip us):=by first|exact λ_ _ _ _ _ _=>Zuy λ_=>rfl|exact λ_ _ _ _ _ _=>Zuz λ_ _=>rfl|exact λ_ _ _ _ _ _=>ZuA λ_ _ _=>rfl|exact λ_ _ _ _ _ _=>ZvI λ_ _ _ _=>rfl|exact λ_ _ _ _ _ _=>ZvJ λ_ _ _ _ _=>rfl|exact λ_ _ _ _ _ _=>ZvK λ_ _ _ _ _ _=>rfl|exact λ_ _ _ _ _ _=>ZvH rfl):Cal P w K mg base x (k+1) n (fnF g n m):=by
 obtain⟨f,fd,a,F⟩:=D;have S:FnScope N (N.take n) (Zq st):=⟨h1,h2,h3,h4,by rw[h5],h6,h7⟩
 exact⟨f,fd,N.take n,Zpl F S h5.symm hm (λcdv A outer s H E hr θ=>hb cdv A outer s H E f h4 hr θ),gl _ _ a,F.kp,h5,F.binds (λkV doc pm an cdv ct us hu=>bi kV doc pm an cdv ct us (hu.trans h5))⟩
theorem Zi(C:Cal X.prog X.w X.K X.mg X.base x k n F)(T:Thr X ξ)(hr:Room j X.A)(ha:DA X ξ (e::es) fs)(hj:autoParam (k<=j) Qde._auto_1)(hg:autoParam (Gl X x) Qrf._auto_1)(hdb:autoParam ((x==("__debug__":Str))=false) Qde._auto_1)(he:autoParam (aA (e::es) X.env=(false,eval e X.env)::aA es X.env) Qrf._auto_1)(hpl:autoParam ((cR pos (aA es X.env)).any (·.1)=false) Qrf._auto_1):DE X ξ (.Call (.Name x p) (e::es) [] pos) (Zj F fs):=Zkg C T (hr.mono hj) ha hg hdb he hpl
theorem Zpm{l:PySem.W.OpenLaw}{st:Stmt}(X:K.In h)(G:h.Ns aM mg)(hfa:mg "law"=some (.ref fa))(D:Df K "law" st)(b:∀(kV doc pm:aa)(an:Option Addr)(cdv ct:aa)(v:aa),hZ (PySem.W.fnOf "law" "law" (Za9 st) (Zai st) (Zq st) .none kV doc pm an cdv ct) ⟨[v],[]⟩=pure [(y,v)])(q:∀base fd,Fun K "law" "law" st fa fd->FnOk l.prog w K mg base (CXE l.prog w) k fa fd [y] (spD K F)):∃fd:hX,(∀(s:aH)(v:aa),kZ s fd ⟨[v],[]⟩ [(y,v)])/\∀base:Heap,K.In base->base.Ns aM mg->FnOk l.prog w K mg base (CXE l.prog w) k fa fd [y] (spD K F):=by
 obtain⟨f,fd,a,F⟩:=D;have e:=hfa.symm.trans (PySem.W.mg_of X G a);cases e;refine⟨fd,?_,λbase _ _=>q base fd F⟩;obtain⟨oc,od,kV,doc,pm,an,cdv,ct,osl,rfl,lk,hcd⟩:=F.ex;exact λs v=>.of_eq (b kV doc pm an cdv ct v)
end
end DL
namespace DL
open PyProof.Rows L2
inductive Src where
 |pur (ds:List D)
 |sto (n:Nat)
 |zip (n m:Nat)
 |enu (n:Nat)
 |rev (n l:Nat)
 |zips (ns:List Nat)
 |dct (n:Nat)
 |zipT (n:Nat) (es:List D)
def ZhO(M:Sto)(i:Nat):List Nat->Option (Option (List D))
 |[]=>some (some [])
 |n::ns=>match M[n]? with
  |none=>none
  |some (.lst xs)=>match ZhO M i ns with
   |none=>none
   |some r=>match xs[i]?,r with|some x,some ds=>some (some (x::ds))|_,_=>some none
def nxt(src:Src)(i:Nat)(M:Sto):Option (Option D):=match src with
 |.pur ds=>some ds[i]?
 |.sto n=>match M[n]? with|some (.lst xs)=>some xs[i]?|none=>none
 |.zip n m=>match M[n]?,M[m]? with
  |some (.lst xs),some (.lst ys)=>(match xs[i]?,ys[i]? with|some x,some y=>some (some (.tup [x,y]))|_,_=>some none)
  |_,_=>none
 |.enu n=>match M[n]? with|some (.lst xs)=>(match xs[i]? with|some x=>some (some (.tup [.int i,x]))|none=>some none)|none=>none
 |.zipT n es=>match M[n]? with|some (.lst xs)=>(match xs[i]?,es[i]? with|some x,some y=>some (some (.tup [x,y]))|_,_=>some none)|none=>none
 |.dct n=>match M[n]? with|some (.lst (.non::r))=>(match r[i]? with|some (.tup (k::_))=>some (some k)|some _=>none|none=>some none)|_=>none
 |.zips ns=>match ZhO M i ns with|some (some ds)=>some (some (.tup ds))|some none=>some none|none=>none
 |.rev n l=>match M[n]? with|some (.lst xs)=>if i<l then(match xs[l-1-i]? with|some x=>some (some x)|none=>none)else(if i=l then some none else none)|none=>none
def cnt(src:Src)(M:Sto):Nat:=match src with
 |.pur ds=>ds.length
 |.sto n=>match M[n]? with|some (.lst xs)=>xs.length|none=>0
 |.zip n _=>match M[n]? with|some (.lst xs)=>xs.length|none=>0
 |.enu n=>match M[n]? with|some (.lst xs)=>xs.length|none=>0
 |.rev _ l=>l
 |.zipT n _=>match M[n]? with|some (.lst xs)=>xs.length|none=>0
 |.dct n=>match M[n]? with|some (.lst xs)=>xs.length|none=>0
 |.zips ns=>match ns with|n::_=>(match M[n]? with|some (.lst xs)=>xs.length|none=>0)|[]=>0
def Ats(H:Hp)(α:List Addr):List Nat->List Addr->Prop
 |[],[]=>True
 |n::ns,l::ls=>RefK H α 0 n l/\Ats H α ns ls
 |_,_=>False
def Zoe(K:Fg)(H:Hp)(α:List Addr)(J:It)(src:Src):Prop:=∀(i:Nat) H' α' M',Ext K H H' α α'->HR K H' α' M'->match nxt src i M' with
 |some none=>J.stop i H'
 |some (some d)=>J.go i H'/\∀x H'',J.yld i H' x H''->Ext K H' H'' α' α'/\HR K H'' α' M'/\Rep K H'' α' x d
 |none=>True
def DI(X:Cx)(ξ:XK)(tg iter:Expr)(f:Ro->Sto->Out Src):Prop:=∃wi:TI,PI X tg iter wi/\∀σ ρ H α M R,SR X.K H α σ ρ->HR X.K H α M->OG X.K (Zoe X.K) H α ξ R (f ρ M)->wi σ H R
def iR1(fs:Av):Ro->Sto->Out Src:=λρ M=>(fs ρ M).bind λds M1=>match ds with
 |[.int j]=>if -(2^62)<=j/\j<2^62 then .ok (.pur (Zah 0 j.toNat)) M1 else .bad
 |_=>.bad
theorem Zdj{K:Fg}{lo:Int}:Zoe K H α (Itr lo n) (.pur (Zah lo n)):=by
 intro i H' α' M' ex hr;show match some (Zah lo n)[i]? with|some none=>_|some (some d)=>_|none=>True
 by_cases h:i<n
 .rw[ZfW h];refine⟨h,λx H'' y=>?_⟩;obtain⟨e1,e2⟩:=y;subst e1 e2;exact⟨Ext.refl,hr,.int _⟩
 .rw[aL (by rw[Zdx];lia)]
  exact jF h
theorem ZhP(hm:X.mg "range"=none)(ha:DA X ξ [a] fs)(hgl:autoParam (Gl X "range") Qrf._auto_1)(hs:autoParam (aA [a] X.env=[(false,eval a X.env)]) Qrf._auto_1):DI X ξ tg (.Call (.Name "range" p) [a] [] pos) (iR1 fs):=by
 obtain⟨ta,pa,qa⟩:=ha;refine⟨_,Zd2 hgl hm pa hs,λσ ρ H α M R s hh q=>qa σ ρ H α M _ s hh (OG.seq q λds M1 vs H1 α1 e1 h1 r1 w1=>?_)⟩;cases r1 with
 |nil=>exact w1.elim
 |cons r tz=>
  cases tz with
  |cons _ _=>cases r<;>exact w1.elim
  |nil=>
   cases r with
   |int j=>
    by_cases c: -(2^62)<=j/\j<2^62
    .simp only[if_pos c]at w1;exact⟨j,rfl,c.1,c.2,w1 _ H1 α1 Ext.refl h1 Zdj⟩
    .simp only[if_neg c]at w1;exact w1.elim
   |_=>exact w1.elim
def iSq(f:Ev):Ro->Sto->Out Src:=λρ M=>(f ρ M).bind λd M1=>match d with
 |.tup ds=>.ok (.pur ds) M1
 |.rol ds=>.ok (.pur ds) M1
 |.ref n=>.ok (.sto n) M1
 |_=>.bad
theorem Zau(ha:DE X ξ a f):DI X ξ tg a (iSq f):=by
 obtain⟨ta,pa,qa⟩:=ha;refine⟨_,Zlm pa,λσ ρ H α M R s hh q=>qa σ ρ H α M _ s hh (OG.seq q λd M1 v H1 α1 e1 h1 r1 w1=>?_)⟩;cases r1 with
 |@tup p xs ds hp rp=>
  refine⟨p,rfl,.inr ⟨⟨xs,(SqT.of hp)⟩,w1 (Itt X.K p) H1 α1 Ext.refl h1 ?_⟩⟩;intro i H' α' M' ex hr;show match some ds[i]? with|some none=>_|some (some d)=>_|none=>True
  cases ei:ds[i]? with
  |none=>exact⟨xs,SqT.of (ex.tup _ _ hp),by rw[rp.length];exact bw.mp ei⟩
  |some d=>
   obtain⟨v,k1,k2⟩:=rp.get ei;refine⟨⟨xs,v,SqT.of (ex.tup _ _ hp),k1⟩,λx H'' y=>?_⟩;obtain⟨ey,y⟩:=y;have z:=y xs (SqT.of (ex.tup _ _ hp));rw[k1]at z;cases z;subst ey;exact⟨Ext.refl,hr,Rep.mono ex k2⟩
 |@rol p xs ds hp rp=>
  refine⟨p,rfl,.inl ⟨⟨xs,hp.sq⟩,w1 (Itl X.K p) H1 α1 Ext.refl h1 ?_⟩⟩;intro i H' α' M' ex hr;show match some ds[i]? with|some none=>_|some (some d)=>_|none=>True
  have hq:=(ex.rol _ _ hp).sq;cases ei:ds[i]? with
  |none=>exact⟨xs,hq,by rw[rp.length];exact bw.mp ei⟩
  |some d=>
   obtain⟨v,k1,k2⟩:=rp.get ei;refine⟨⟨xs,v,hq,k1⟩,λx H'' y=>?_⟩;obtain⟨ey,y⟩:=y;have z:=y xs hq;rw[k1]at z;cases z;subst ey;exact⟨Ext.refl,hr,Rep.mono ex k2⟩
 |@ref p n hp=>
  obtain⟨xs0,g0⟩:=h1.some_at hp;refine⟨p,rfl,.inl ⟨⟨xs0,SqL.of g0⟩,w1 (Itl X.K p) H1 α1 Ext.refl h1 ?_⟩⟩;intro i H' α' M' ex hr;show match(match M'[n]? with|some (.lst xs)=>some xs[i]?|none=>none)with|some none=>_|some (some d)=>_|none=>True
  cases em:M'[n]? with
  |none=>exact c9
  |some so=>
   cases so with
   |lst ds=>
    obtain⟨xs,g1,g2⟩:=hr.at (ex.get hp) em;show match some ds[i]? with|some none=>_|some (some d)=>_|none=>True
    cases ei:ds[i]? with
    |none=>exact⟨xs,SqL.of g1,by rw[g2.length];exact bw.mp ei⟩
    |some d=>
     obtain⟨v,k1,k2⟩:=g2.get ei;refine⟨⟨xs,v,SqL.of g1,k1⟩,λx H'' y=>?_⟩;obtain⟨ey,y⟩:=y;have z:=y xs (SqL.of g1);rw[k1]at z;cases z;subst ey;exact⟨Ext.refl,hr,k2⟩
 |_=>exact w1.elim
theorem Zaf:∀(names:List (Str×cJ)) (n:Nat) (acc:List (Str×Addr)),bR n names acc=bR n names []++acc
 |[],_,_=>rfl
 | (x,kd)::r,n,acc=>by
  unfold bR;split
  .rw[Zaf r (n+1) ((x,n)::acc),Zaf r (n+1) [(x,n)]];simp
  .exact Zaf r n acc
theorem ZaW:∀(names:List (Str×cJ)) (n:Nat) (x:Str) (c:Addr),(x,c)∈bR n names []->(x,dC)∈names
 |[],_,_,_,h=>by simp[bR]at h
 | (y,kd)::r,n,x,c,h=>by
  unfold bR at h
  split at h
  .rename_i hk;rw[Zaf]at h;rcases bZ.mp h with h|h
   .exact aJ _ (ZaW r (n+1) x c h)
   .have e:=da.mp h;cases e
    have:kd=.cell:=by simpa using hk
    rw[this];exact bW
  .exact aJ _ (ZaW r n x c h)
theorem Zcu{α:Type}:∀{l r:List (Str×α)} {x:Str} {c:α},(l++r).lookup x=some c->l.lookup x=some c\/(l.lookup x=none/\r.lookup x=some c)
 |[],r,x,c,h=>.inr ⟨rfl,h⟩
 | (y,d)::l,r,x,c,h=>by
  rw[bI,b8]at h;rw[b8];cases e:x==y with
  |true=>rw[e]at h;exact .inl h
  |false=>rw[e]at h;exact Zcu h
theorem Zdk{α:Type}:∀{l r:List (Str×α)} {x:Str},(∀c,(x,c)∉l)->(l++r).lookup x=r.lookup x
 |[],_,_,_=>rfl
 | (y,d)::l,r,x,h=>by
  rw[bI,b8];cases e:x==y with
  |true=>
   have:x=y:=by simpa using e
   exact absurd (by rw[this];exact bW) (h d)
  |false=>exact Zdk λc hc=>h c (aJ _ hc)
theorem ZhQ(hQ:Q (newEnv scope s.heap.objs.size globals (bR (s.heap.objs.size+1) scope.names cl) qual none .none (some env) gk) {s with heap:=iL (s.heap.push {cls:=.type "dict",data:=.dict #[]}) scope.names}):wpAny M A (kG scope globals cl [] qual none .none (some env)) Q E s:=by
 simp only[kG,iZ,if_true];refine Wb (wpAny_alloc ?_);refine Wb (wpAny_layCells _ (λname kind cells=>by cases hkc:kind==dC<;>simp[hkc]) _ _ _ _ ?_)
 rw[show({s with heap:=s.heap.push {cls:=.type "dict",data:=.dict #[]}}:aH).heap.objs.size=s.heap.objs.size+1 from cC ..];exact Wb (Wp (Wp hQ))
theorem _root_.PySem.W.cellsFrom_mem {x:Str}:∀(names:List (Str×cJ)) (n:Nat) (acc:List (Str×Addr)),(x,dC)∈names->((bR n names acc).lookup x).isSome=true
 |[],_,_,h=>by simp at h
 | (y,kd)::r,n,acc,h=>by
  have acc_some:∀(names:List (Str×cJ)) (n:Nat) (acc:List (Str×Addr)),(acc.lookup x).isSome=true->((bR n names acc).lookup x).isSome=true:=λnames n acc h=>PySem.W.cellsFrom_some names n acc (.inr h);unfold bR;split
  .rcases ar.mp h with e|e
   .cases e;refine acc_some _ _ _ ?_;rw[b8];simp
   .exact PySem.W.cellsFrom_mem r _ _ e
  .rename_i hk;rcases ar.mp h with e|e
   .cases e;simp at hk
   .exact PySem.W.cellsFrom_mem r _ _ e
noncomputable def blk(X:Cx)(scope:gW)(cl:List (Str×Addr))(N:List Str)(C:Addr)(fp:List Addr)(s:aH)(H:Hp):Cx:=
 {X with N:=N,s₀:=s,H₀:=H,env:=compEnvC scope (bR (C+1) scope.names cl) C X.env,outer:=X.stack,stack:=X.stack,ex:=fp,fn:=λx=>scope.names.any λy=>y.1==x&&y.2 == .cell,pn:=[],xe:=λ_ _=>False,fxs:=none}
theorem Zbb:Thr (blk X scope cl N C fp s H) E0:=
 ⟨fE.never,λ_ _ _ _ _ _ _ h=>by obtain⟨_,_,_,_,_,_,_,_,_,_,_,_,_,q⟩:=h;exact q,λ_ _ _ _ _ _ _ _ _ _ _ _ _ _ _ _ _ _ _ _ _ _ q=>q⟩
def ZfX(src:Src)(tg:Tg)(c:Tv)(f:Ev)(n:Nat):Nat->Nat->Ro->Sto->Out Unit
 |fuel,i,ρ,M=>match nxt src i M with
  |none=>.bad
  |some none=>.ok () M
  |some (some d)=>(match fuel with
   |0=>.bad
   |fuel+1=>(match tg d ρ with
    |none=>.bad
    |some ρ1=>(match c ρ1 M with
     |.ok true M1=>(match f ρ1 M1 with
      |.ok x M2=>(match M2[n]? with
       |some (.lst xs)=>if xs.length<10000000 then ZfX src tg c f n fuel (i+1) ρ1 (M2.set n (.lst (xs++[x])))else .bad
       |none=>.bad)
      |_=>.bad)
     |.ok false M1=>ZfX src tg c f n fuel (i+1) ρ1 M1
     |_=>.bad)))
noncomputable def roB(k:Nat)(fr:List Nat)(ρ:Ro):Ro:=aB k none++fr.map λi=>(ρ[i]?).join
def Zam(fi:Ro->Sto->Out Src)(k:Nat)(fr:List Nat)(tg:Tg)(c:Tv)(f:Ev):Ev:=λρ M=>(fi ρ M).bind λsrc M1=>match ZfX src tg c f M1.length (cnt src M1) 0 (roB k fr ρ) (M1++[.lst []])with
 |.ok _ M2=>.ok (.ref M1.length) M2
 |_=>.bad
structure Blk(X:Cx) (scope:gW) (cl:List (Str×Addr)) (N:List Str) (k:Nat) (fr:List Nat):Prop where
 clos:lK scope X.env=pure cl
 kind:scope.kind=.function
 names:∀y∈scope.names,y.2=.local->scope.names.lookup y.1=some .local
 sub:∀x c,cl.lookup x=some c->X.env.cells.lookup x=some c
 has:∀n x,((lS scope X.env).names.lookup x=some .cell\/(lS scope X.env).names.lookup x=some .free)->∃c,(bR n scope.names cl).lookup x=some c
 len:N.length=k+fr.length
 at_:∀(j i:Nat),fr[j]?=some i->∃x,N[k+j]?=some x/\X.N[i]?=some x/\X.env.kindOf x=some .cell/\((lS scope X.env).names.lookup x=some .cell\/(lS scope X.env).names.lookup x=some .free)/\cl.lookup x=X.env.cells.lookup x/\(x,dC)∉scope.names
noncomputable def Zcm(target iter:Expr)(ifs:List Expr)(it:aa)(env:Env)(body ag:Sem Fin):Sem Fin:=do
 standAt iter.pos
 match <-fj it with
 |none=>pure (.done .next)
 |some v=>
  f9 target it v
  assign target env v
  let mut ok:=true
  for c in ifs do
   if ok then ok <-isTrue c env (eval c env)
  if ok then body else ag
noncomputable def Ze6(e elt:Expr)(d:Nat)(it acc:aa)(env:Env):Sem Fin:=do
 (do let _ <-call (.builtin "list.append") [acc,<-eval elt env])
 again (.compLoop e d it acc env)
theorem ZfY(elt t0 i0:Expr)(f0:List Expr)(sc:gW)(pos:Pos)(it acc:aa)(env:Env):fB (.ListComp elt [⟨t0,i0,f0,0⟩] sc pos) 0 it acc env=Zcm t0 i0 f0 it env (Ze6 (.ListComp elt [⟨t0,i0,f0,0⟩] sc pos) elt 0 it acc env) (again (.compLoop (.ListComp elt [⟨t0,i0,f0,0⟩] sc pos) 0 it acc env)):=by rfl
theorem ZgQ(he:fB (.ListComp elt gens scope pos) d it acc env=Zcm target iter ifs it env body (again (.compLoop (.ListComp elt gens scope pos) d it acc env)))(I:Nat->aH->Prop)(turn:∀n s,I n s->wpAny (aE prog w) A (fj it) (λr s₁=>match r with
   |none=>R (.ok .next) s₁
   |some v=>wpAny (aE prog w) A (f9 target it v) (λ_ s₁=>wpAny (aE prog w) A (assign target env v) (λ_ s₂=>
     wpAny (aE prog w) A (forIn ifs true λc r=>if r=true then do let ok <-isTrue c env (eval c env);pure (ForInStep.yield ok)else pure (ForInStep.yield r)) (λok s₃=>
      if ok=true then wpAny (aE prog w) A body (λfin s₅=>fin=.again (.compLoop (.ListComp elt gens scope pos) d it acc env)/\∃m,m<n/\I m s₅) (λ_ _=>False) s₃
      else ∃m,m<n/\I m s₃) (λ_ _=>False) s₂) (λ_ _=>False) s₁) (λ_ _=>False) s₁) (λ_ _=>False) s)
  (n:Nat) (h:I n s):
  fm (aE prog w) A (.compLoop (.ListComp elt gens scope pos) d it acc env) R s:=by
 refine codeAny_loop rfl I (λn s hI=>?_) n h;show wpAny _ A ((fB (.ListComp elt gens scope pos) d it acc env).onRaise (λx=>do lg x env;theTreesLotGoes x)) _ _ s
 refine wpAny_noted ?_;rw[he];unfold Zcm;refine Wb (wpAny_standAt (Wb (wpAny_mono (turn n s hI) (λr s₁ h₁=>?_) λ_ _ h'=>h'.elim)));cases r with
 |none=>exact Wp h₁
 |some v=>
  refine Wb (wpAny_mono h₁ (λ_ s₁ h₁=>?_) λ_ _ h'=>h'.elim);refine Wb (wpAny_mono h₁ (λ_ s₂ h₂=>Wb (wpAny_mono h₂ (λok s₃ h₃=>?_) λ_ _ h'=>h'.elim)) λ_ _ h'=>h'.elim);cases ok with
  |false=>exact Wp ⟨rfl,h₃⟩
  |true=>
   refine wpAny_mono h₃ (λfin s₅ h₅=>?_) λ_ _ h'=>h'.elim;obtain⟨rfl,h5⟩:=h₅;exact⟨rfl,h5⟩
def DC(X:Cx)(ifs:List Expr)(c:Tv):Prop:=(ifs=[]/\c=λ_ M=>.ok true M)\/∃e,ifs=[e]/\DT X E0 e c
def Zcd(src:Src)(tg:Tg)(c:Tv)(g:Ro->Sto->Out Ro):Nat->Nat->Ro->Sto->Out Ro
 |fuel,i,ρ,M=>match nxt src i M with
  |none=>.bad
  |some none=>.ok ρ M
  |some (some d)=>(match fuel with
   |0=>.bad
   |fuel+1=>(match tg d ρ with
    |none=>.bad
    |some ρ1=>(match c ρ1 M with
     |.ok true M1=>(match g ρ1 M1 with
      |.ok ρ2 M2=>Zcd src tg c g fuel (i+1) ρ2 M2
      |_=>.bad)
     |.ok false M1=>Zcd src tg c g fuel (i+1) ρ1 M1
     |_=>.bad)))
noncomputable def gEm(f:Ev)(n:Nat):Ro->Sto->Out Ro:=λρ M=>match f ρ M with
 |.ok x M2=>(match M2[n]? with
  |some (.lst xs)=>if xs.length<10000000 then .ok ρ (M2.set n (.lst (xs++[x])))else .bad
  |none=>.bad)
 |_=>.bad
def Za6(fi:Ro->Sto->Out Src)(k:Nat)(fr:List Nat)(tg:Tg)(c:Tv)(g:Nat->Ro->Sto->Out Ro):Ev:=λρ M=>(fi ρ M).bind λsrc M1=>match Zcd src tg c (g M1.length) (cnt src M1) 0 (roB k fr ρ) (M1++[.lst []])with
 |.ok _ M2=>.ok (.ref M1.length) M2
 |_=>.bad
def Zdl(Y:Cx)(D:Addr)(n0:Nat)(c:Code)(m:Sem Fin)(g:Ro->Sto->Out Ro):Prop:=∀pins s σ ρ H α M ρ' M',Inv Y pins σ H s->SR Y.K H α σ ρ->HR Y.K H α M->RefK H α 0 n0 D->g ρ M=.ok ρ' M'->
 wpAny (aE Y.prog Y.w) Y.A m (λfin s'=>fin=.again c/\∃σ' H' α',Inv Y pins σ' H' s'/\Ext Y.K H H' α α'/\SR Y.K H' α' σ' ρ'/\HR Y.K H' α' M') (λ_ _=>False) s
def CmP(Y:Cx)(pins:Pn)(fp:List Addr)(tn:Nat->Heap->Prop)(H3:Hp)(α3:List Addr)(g:Nat->Nat->Ro->Sto->Prop)(n:Nat)(s':aH):Prop:=
 ∃i σ' ρ' H' α' M',Inv Y pins σ' H' s'/\tn i s'.heap/\(∀b∈fp,H' b=none)/\SR Y.K H' α' σ' ρ'/\HR Y.K H' α' M'/\Ext Y.K H3 H' α3 α'/\g n i ρ' M'
theorem Zek{D:Addr}(hct:fB (.ListComp elt gens scope pos) d0 (.ref it) (.ref D) Y.env=Zcm tg iter ifs (.ref it) Y.env body (again (.compLoop (.ListComp elt gens scope pos) d0 (.ref it) (.ref D) Y.env)))(T:Turn Y.prog Y.w Y.K Y.A tg J fp it tn)(hxe:∀x y,Y.xe x y->False)(fp5:∀{H':Hp},(∀b∈fp,H' b=none)->∀b∈fp,ZeR Y pins H' b)(hg:DG Y tg gt)(tst:DC Y ifs c)(hb:Zdl Y D n0 (.compLoop (.ListComp elt gens scope pos) d0 (.ref it) (.ref D) Y.env) body g)(sc:Zoe Y.K H3 α3 J src)(aD:RefK H3 α3 0 n0 D)(I4:Inv Y pins σ0 H3 s4)(st4:tn 0 s4.heap)(fr4:∀b∈fp,H3 b=none)(sr:SR Y.K H3 α3 σ0 ρ0)(h3:HR Y.K H3 α3 M3)(er:Zcd src gt c g fuel 0 ρ0 M3=.ok ρ9 M9)(post:∀σ5 H5 α5 s6,Inv Y pins σ5 H5 s6->Ext Y.K H3 H5 α3 α5->SR Y.K H5 α5 σ5 ρ9->HR Y.K H5 α5 M9->R (.ok .next) s6):fm (aE Y.prog Y.w) Y.A (.compLoop (.ListComp elt gens scope pos) d0 (.ref it) (.ref D) Y.env) R s4:=by
 obtain⟨tt,pt,qt⟩:=hg;refine ZgQ hct (CmP Y pins fp tn H3 α3 λn i ρ' M'=>Zcd src gt c g n i ρ' M'=.ok ρ9 M9) ?_ fuel ⟨0,σ0,ρ0,H3,α3,M3,I4,st4,fr4,sr,h3,Ext.refl,er⟩;rintro n s5 ⟨i,σ5,ρ5,H5,α5,M5,I5,st5,fr5,sr5,hr5,ex5,en⟩;have src5:=sc i H5 α5 M5 ex5 hr5;rw[Zcd]at en;cases ex:nxt src i M5 with
 |none=>rw[ex]at en;cases en
 |some od=>
  rw[ex]at src5 en;cases od with
  |none=>
   cases en;have fin:=T.done Y rfl rfl rfl rfl i pins s5 σ5 H5 (λ_ _=>False) I5 (fp5 fr5) st5 src5;refine thn fin λr s6 w6=>?_;obtain⟨hr6,I6⟩:=w6;subst hr6;exact post σ5 H5 α5 s6 I6 ex5 sr5 hr5
  |some d=>
   obtain⟨go,yl⟩:=src5;cases n with
   |zero=>cases en
   |succ n=>
    simp only at en;have itm:=T.item Y rfl rfl rfl rfl i pins s5 σ5 H5 (λ_ _=>False) I5 (fp5 fr5) st5 go;refine thn itm λr s6 hz=>?_;obtain⟨u,hr6,w6⟩:=hz;subst hr6;refine thn w6 λ_ s7 hz=>?_;obtain⟨x,H7,I7,r7,y7,st7,fr7⟩:=hz;obtain⟨ex7,hr7,rp7⟩:=yl x H7 y7;have sr5:=sr5.mono ex7;have hr5:=hr7;have ex5:=ex5.trans ex7;have I7':=I7.pinned (fp5 fr7) (T.obj _ _ st7);cases eg:gt d ρ5 with
    |none=>rw[eg]at en;cases en
    |some ρ6=>
     rw[eg]at en;simp only at en;have asg:=pt _ s7 σ5 H7 x u _ I7' r7 (qt x d σ5 ρ5 H7 α5 ρ6 (λσ' H'=>H'=H7/\SR Y.K H7 α5 σ' ρ6) sr5 rp7 eg λσ' s'=>⟨rfl,s'⟩);refine wpAny_mono asg (λ_ s8 hz=>?_) (λx y z=>hxe x y z);obtain⟨σ8,H8,I8,z8,sr8⟩:=hz;subst z8;have again':∀{σ9:L2.St}{H9:Hp}{s9:aH},Inv Y (pins++Zde fp s7.heap) σ9 H9 s9->Inv Y pins σ9 H9 s9/\tn (i+1) s9.heap/\∀b∈fp,H9 b=none:=λ{σ9 H9 s9} I9=>by
      refine⟨I9.unpinned,T.keep _ _ _ st7 λb hb o e=>(I9.pin (b,o) (aW _ (aW _ (Zbn hb e)))).1,λb hb=>?_⟩;obtain⟨o,e,_⟩:=T.obj _ _ st7 b hb;exact(I9.pin (b,o) (aW _ (aW _ (Zbn hb e)))).2.1
     have after:∀(kk:Bool)(M8:Sto)(H9:Hp)(α9:List Addr)(s9:aH),Inv Y (pins++Zde fp s7.heap) σ8 H9 s9->Ext Y.K H8 H9 α5 α9->HR Y.K H9 α9 M8->c ρ6 M5=.ok kk M8->
       (if kk=true then wpAny (aE Y.prog Y.w) Y.A body (λfin s₅=>fin=.again (.compLoop (.ListComp elt gens scope pos) d0 (.ref it) (.ref D) Y.env)/\∃m,m<n+1/\CmP Y pins fp tn H3 α3 (λn i ρ' M'=>Zcd src gt c g n i ρ' M'=.ok ρ9 M9) m s₅) (λ_ _=>False) s9 else ∃m,m<n+1/\CmP Y pins fp tn H3 α3 (λn i ρ' M'=>Zcd src gt c g n i ρ' M'=.ok ρ9 M9) m s9):=by
      intro kk M8 H9 α9 s9 I9 ex9 hr9 ec;rw[ec]at en;cases kk with
      |false=>
       obtain⟨a1,a2,a3⟩:=again' I9;exact Zmm ⟨n,dF n,i+1,σ8,ρ6,H9,α9,M8,a1,a2,a3,sr8.mono ex9,hr9,ex5.trans ex9,en⟩
      |true=>
       simp only at en;refine Zmn ?_;cases ef:g ρ6 M8 with
       |exc x9 M10=>rw[ef]at en;cases en
       |bad=>rw[ef]at en;cases en
       |ok ρ10 M10=>
        rw[ef]at en;simp only at en;refine thn (hb _ s9 σ8 ρ6 H9 α9 M8 ρ10 M10 I9 (sr8.mono ex9) hr9 (ex9.get (ex5.get aD)) ef) λfin s10 hz=>?_;obtain⟨hf,σ10,H10,α10,I10,ex10,sr10,hr10⟩:=hz;obtain⟨a1,a2,a3⟩:=again' I10;exact⟨hf,n,dF n,i+1,σ10,ρ10,H10,α10,M10,a1,a2,a3,sr10,hr10,(ex5.trans ex9).trans ex10,en⟩
     rcases tst with⟨rfl,ec⟩|⟨e,rfl,tt',ptt,qtt⟩
     .refine wpAny_tests_nil ?_;exact after true M5 H8 α5 s8 I8 Ext.refl hr5 (by rw[ec])
     .refine wpAny_tests_one ?_;cases ec:c ρ6 M5 with
      |exc x9 M10=>rw[ec]at en;cases en
      |bad=>rw[ec]at en;cases en
      |ok kk M8=>
       have tv':=ptt _ s8 σ8 H8 (λb H'=>b=kk/\∃α',Ext Y.K H8 H' α5 α'/\HR Y.K H' α' M8) I8 (qtt σ8 ρ6 H8 α5 M5 _ sr8 hr5 (by
        rw[ec];exact λv H' α' e h r=>⟨r,α',e,h⟩))
       refine wpAny_mono tv' (λb s9 hz=>?_) (λx y z=>hxe x y z);obtain⟨H9,I9,zb,α9,ex9,hr9⟩:=hz;subst zb;exact after b M8 H9 α9 s9 I9 ex9 hr9 ec
theorem ZbO{D:Addr}(hxe:∀x y,Y.xe x y->False)(he:DE Y E0 elt f):Zdl Y D n0 (.compLoop e d0 (.ref it) (.ref D) Y.env) (Ze6 e elt d0 (.ref it) (.ref D) Y.env) (gEm f n0):=by
 obtain⟨te,pe,qe⟩:=he;intro pins s σ ρ H α M ρ' M' I sr hr aD en;unfold gEm at en;cases ef:f ρ M with
 |exc x9 M10=>rw[ef]at en;cases en
 |bad=>rw[ef]at en;cases en
 |ok y M10=>
  rw[ef]at en;simp only at en;have ev:=pe _ s σ H (λv H'=>∃α',Ext Y.K H H' α α'/\HR Y.K H' α' M10/\Rep Y.K H' α' v y) I (qe σ ρ H α M _ sr hr (by
   rw[ef];exact λv H' α' e h r=>⟨α',e,h,r⟩))
  unfold Ze6;refine Wb (Wb (wpAny_mono ev (λyv s10 hz=>?_) (λx y z=>hxe x y z)));obtain⟨v,H10,I10,r10,α10,ex10,hr10,rp10⟩:=hz;cases em:M10[n0]? with
  |none=>rw[em]at en;cases en
  |some so=>
   cases so with
   |lst ds=>
    rw[em]at en;simp only at en;by_cases cz:ds.length<10000000
    .rw[if_pos cz]at en;cases en;have aD10:=ex10.get aD;obtain⟨xs,g1,g2⟩:=hr10.at aD10 em;have ap:=Zd9 (X:=Y) _ s10 σ H10 (.ref D) [v] (.ref D) [yv] (λ_ H'=>H'=upd H10 D (.lst (xs++[v]))) I10 rfl (.cons r10 .nil) ⟨D,xs,v,rfl,rfl,g1,by rw[g2.length];exact aj cz (by decide),rfl⟩
     refine Wb (wpAny_mono ap (λ_ s11 hz=>?_) (λx y z=>hxe x y z));obtain⟨v11,H11,I11,_,z11⟩:=hz;subst z11;have exw:Ext Y.K H10 (upd H10 D (.lst (xs++[v]))) α10 α10:=Ext.wr g1;exact Wp (Wp ⟨rfl,σ,_,α10,I11,ex10.trans exw,(sr.mono ex10).mono exw,hr10.wr aD10 g1 (g2.append (.cons rp10 .nil))⟩)
    .rw[if_neg cz]at en;cases en
section
variable {iter:Expr}{scope:gW}{c:Tv}{g:Nat->Ro->Sto->Out Ro}{bd:aa->aa->Env->Sem Fin}
theorem join_some{α:Type}{o:Option (Option α)}{v:α}(h:o.join=some v):o=some (some v):=by
 cases o with
 |none=>cases h
 |some x=>cases x with
  |none=>cases h
  |some y=>cases h;rfl
theorem ZmD(h:(roB k fr ρ)[i]?=some (some d)):∃j r,i=k+j/\fr[j]?=some r/\ρ[r]?=some (some d):=by
 unfold roB at h;by_cases hi:i<k
 .rw[ac (by rw[bO];exact hi)]at h
  have:=dZ h
  rw[i5]at this;cases this.2
 .rw[aT (by rw[bO];lia),bO,bC]at h
  cases e:fr[i-k]? with
  |none=>rw[e]at h;cases h
  |some r=>
   rw[e]at h;exact⟨i-k,r,⋯,e,join_some (aO h)⟩
noncomputable def stB(k:Nat)(fr:List Nat)(σ:L2.St):L2.St:=aB k none++fr.map λi=>(σ[i]?).join
theorem ZmE(h:(stB k fr σ)[i]?=some (some d)):∃j r,i=k+j/\fr[j]?=some r/\σ[r]?=some (some d):=by
 unfold stB at h;by_cases hi:i<k
 .rw[ac (by rw[bO];exact hi)]at h
  have:=dZ h
  rw[i5]at this;cases this.2
 .rw[aT (by rw[bO];lia),bO,bC]at h
  cases e:fr[i-k]? with
  |none=>rw[e]at h;cases h
  |some r=>
   rw[e]at h;exact⟨i-k,r,⋯,e,join_some (aO h)⟩
theorem SR.blk{K:Fg}(h:SR K H α σ ρ):SR K H α (stB k fr σ) (roB k fr ρ):=by
 refine⟨by simp[stB,roB],λi d e=>?_⟩
 obtain⟨j,r,rfl,e1,e2⟩:=ZmD e;obtain⟨v,e3,e4⟩:=h.2 r d e2;refine⟨v,?_,e4⟩;unfold stB;rw[aT (by rw[bO];lia),bO,bC,Nat.add_sub_cancel_left,e1]
 show some (σ[r]?).join=_;rw[e3];rfl
theorem Zkh(h:Heap):CellsOk (iL (h.push {cls:=.type "dict",data:=.dict #[]}) scope.names) (h.objs.size+1) (bR (h.objs.size+1) scope.names []):=by
 have:=cellsFrom_ok scope.names (h.push {cls:=.type "dict",data:=.dict #[]}) (h.objs.size+1) [] ⟨λ_ _ hm=>(nomatch hm),js.nil⟩ (by rw[cC];exact ae _)
 rw[cC]at this;exact this
theorem ZbP(B:Blk X scope cl N k fr){h:Heap}{c:Addr}(e:(bR (h.objs.size+1) scope.names cl).lookup x=some c):(X.env.cells.lookup x=some c)\/((x,c)∈bR (h.objs.size+1) scope.names []/\h.objs.size+1<=c):=by
 rw[Zaf]at e;rcases Zcu e with z|⟨_,z⟩
 .have m:=PySem.mem_of_lookup z;exact .inr ⟨m,((Zkh h).empty x c m).2⟩
 .exact .inl (B.sub x c z)
theorem Zlp(B:Blk X scope cl N k fr){fp:List Addr}(I:Inv X pins σ H s)(hf:∀b∈fp,ZeR X pins H b)(hlt:∀b∈fp,b<s.heap.objs.size)(hb:b∈fp){c:Addr}(h:(bR (s.heap.objs.size+1) scope.names cl).lookup x=some c):c≠b:=by
 rcases ZbP B h with z|⟨_,z⟩
 .exact(hf b hb).2.2.2.2.1 x c z
 .exact aQ (gB (hlt b hb) z)
theorem Zlq(B:Blk X scope cl N k fr)(I:Inv X pins σ H s)(hf:∀b∈fp,ZeR X pins H b)(hlt:∀b∈fp,b<s.heap.objs.size):(blk X scope cl N s.heap.objs.size fp s H).Ok where
 mod:=I.ok.mod
 kind:=B.kind
 glob:=I.ok.glob
 blt:=I.ok.blt
 above:=ae _
 inj:=λx y c h1 h2=>by
  have old:∀{x c},X.env.cells.lookup x=some c->c<s.heap.objs.size:=λ{x c} e=>by
   obtain⟨v,q⟩:=I.cell x c e;exact q.lt
  rcases ZbP B h1 with z|⟨m1,z⟩<;>rcases ZbP B h2 with w|⟨m2,w⟩
  .exact I.ok.inj x y c z w
  .exact absurd (gB (old z) w) (b9 _)
  .exact absurd (gB (old w) z) (b9 _)
  .exact name_of_addr (Zkh (scope:=scope) s.heap).apart m1 m2
 has:=λx h=>B.has _ x h
 cab:=λx c h e=>by
  obtain⟨y,hy,hz⟩:=List.any_eq_true.mp h;simp only[bg,beq_iff_eq]at hz;have e':(bR (s.heap.objs.size+1) scope.names []++cl).lookup x=some c:=by rw[<-Zaf];exact e
  have hs:=PySem.W.cellsFrom_mem scope.names (s.heap.objs.size+1) [] (x:=x) (by rw[<-hz.1,<-hz.2];exact hy)
  rcases Zcu e' with z|⟨z,_⟩
  .exact cM ((Zkh (scope:=scope) s.heap).empty x c (PySem.mem_of_lookup z)).2
  .rw[z]at hs;cases hs
 hd:=I.ok.hd
 frames:=I.ok.frames
 stk:=.inl rfl
 exf:=λb hb=>⟨az (hlt b hb),λx c h=>Zlp B I hf hlt hb h⟩
 bs:=I.bs
 bsz:=aU I.ok.bsz I.sz
 noex:=λb o e hb=>by
  rcases(hf b hb).2.2.2.1 with z|z
  .exact I.ok.noex b o e z
  .exact absurd (aj (Hz (I.ok.bs b o e).1) z) (b9 _)
 exfs:=λb hb z=>by
  rcases ar.mp (I.stkSub b z)with e|e
  .exact(hf b hb).2.1 e
  .exact(hf b hb).2.2.1 e
 funs:=I.stack
 frf:=I.stkFree
 tb:=I.ok.tb.un I.base
theorem ZmF(B:Blk X scope cl N k fr)(I:Inv X pins σ H s)(hf:∀b∈fp,ZeR X pins H b)(hlt:∀b∈fp,b<s.heap.objs.size):Inv (blk X scope cl N s.heap.objs.size fp s H) [] (stB k fr σ) H {s with heap:=iL (s.heap.push {cls:=.type "dict",data:=.dict #[]}) scope.names}:=by
 have hk:∀b o,s.heap.get? b=some o->(iL (s.heap.push {cls:=.type "dict",data:=.dict #[]}) scope.names).get? b=some o:=λb o e=>j4 _ _ b o (Hq _ e);have hn:(iL (s.heap.push {cls:=.type "dict",data:=.dict #[]}) scope.names).Ns s.heap.objs.size (λ_=>none):=(mB.Ns.new s.heap (.type "dict")).keeps (j4 _ _);have nw:=Zkh (scope:=scope) s.heap;exact {
  ok:=Zlq B I hf hlt
  os:=rfl
  bare:=I.bare
  base:=Un.kept hk
  loc:=by
   refine⟨_,hn,λi x v e1 e2 e3=>?_⟩;obtain⟨j,r,rfl,g1,g2⟩:=ZmE e2;obtain⟨y,k1,k2,k3,k4,k5,k6⟩:=B.at_ j r g1;have exy:x=y:=aO (e1.symm.trans k1);subst exy;obtain⟨m0,hm0,hl⟩:=I.loc;obtain⟨u,ru,lk⟩:=hl r x v k2 g2 (.inr (.inl k3));refine⟨u,ru,?_⟩;rcases lk with⟨z,_⟩|⟨_,c,z1,⟨o,z2,z3⟩⟩
   .rw[k3]at z;cases z
   .refine .inr ⟨k4,c,?_,⟨o,hk _ _ z2,z3⟩⟩;show(bR (s.heap.objs.size+1) scope.names cl).lookup x=some c;rw[Zaf,Zdk λc' hc'=>k6 (ZaW _ _ _ _ hc')];exact k5.trans z1
  cell:=λx c h=>by
   rcases ZbP B h with z|⟨m,_⟩
   .obtain⟨v,o,e1,e2⟩:=I.cell x c z;exact⟨v,o,hk _ _ e1,e2⟩
   .exact⟨none,(nw.empty x c m).1⟩
  free:=I.fresh
  freeC:=λx c h=>by
   rcases ZbP B h with z|⟨_,z⟩
   .exact I.freeC x c z
   .exact I.hok.fresh (cM z)
  pin:=λp hp=>(by simp[blk]at hp)
  hok:=I.hok.kept hk
  len:=by
   show(stB k fr σ).length=N.length;rw[B.len];simp[stB]
  qd:=I.qd
  fx:=.free rfl}
theorem Zki(B:Blk X scope cl N k fr)(I3:Inv X pins σ H3 s3)(f3:∀b∈fp,ZeR X pins H3 b)(I6:Inv (blk X scope cl N s3.heap.objs.size fp s3 H3) [] σ5 H5 s6):Inv X pins σ H5 s6/\∀(σ':L2.St)(s8:aH)(h':Heap),Inv X pins σ' H5 s8->(∀b o,b≠s3.heap.objs.size->s8.heap.get? b=some o->h'.get? b=some o)->Inv X pins σ' H5 {s8 with heap:=h',toks:=s8.toks}:=by
 refine⟨I3.call' (s':=s6) (ch:=fp) I6.os I6.base I6.hok I6.bare λb hb=>?_,λσ' s8 h' I8 sb=>?_⟩
 .obtain⟨_,z1,z2,z3,z4,z5⟩:=f3 b hb;exact⟨z3,z1,z4,z5⟩
 .exact I8.turned (it:=s3.heap.objs.size) sb I6.free (aQ I3.lt) (.inr I3.sz)
   (λx c h z=>by
    obtain⟨v,o,e,_⟩:=I3.cell x c h;exact absurd (Hz e) (by rw[z];exact b9 _)) (λp hp z=>by
    have:=(I3.pin p hp).1
    exact absurd (Hz this) (by rw[z];exact b9 _))
theorem ZfZ(B:Blk X scope cl N k fr)(pi:PI X tg iter wi)(hg:∀C fp s H,DG (blk X scope cl N C fp s H) tg gt)(ht:∀C fp s H,DC (blk X scope cl N C fp s H) ifs c)(hct:∀it acc env,fB (.ListComp elt (⟨tg,iter,ifs,0⟩::rest) scope pos) 0 it acc env=Zcm tg iter ifs it env (bd it acc env) (again (.compLoop (.ListComp elt (⟨tg,iter,ifs,0⟩::rest) scope pos) 0 it acc env)))(he:∀C fp s H (D n0:Nat) (it:Addr),Zdl (blk X scope cl N C fp s H) D n0 (.compLoop (.ListComp elt (⟨tg,iter,ifs,0⟩::rest) scope pos) 0 (.ref it) (.ref D) (blk X scope cl N C fp s H).env) (bd (.ref it) (.ref D) (blk X scope cl N C fp s H).env) (g n0))(hs:∀x,foldedSetIterable iter X.env x=pure x)(sr:SR X.K H α σ ρ)(I:Inv X pins σ H s)(w:wi σ H λJ H2=>∃α2 M2 src ρ9 M9,Ext X.K H H2 α α2/\HR X.K H2 α2 M2/\Zoe X.K H2 α2 J src/\Zcd src gt c (g M2.length) (cnt src M2) 0 (roB k fr ρ) (M2++[.lst []])=.ok ρ9 M9/\∀(D C:Addr) H5 α5 s6 m6,Ext X.K H2 H5 α2 α5->HR X.K H5 α5 M9->RefK H5 α5 0 M2.length D->Inv X pins σ H5 s6->s6.heap.Ns C m6->C≠X.env.locals->(∀x,X.env.cells.lookup x≠some C)->(∀(σ':L2.St)(s8:aH)(h':Heap),Inv X pins σ' H5 s8->(∀b o,b≠C->s8.heap.get? b=some o->h'.get? b=some o)->Inv X pins σ' H5 {s8 with heap:=h',toks:=s8.toks})->compPost (aE X.prog X.w) X.A X.xe use P (.ref D) C (.ok .next) s6):wpAny (aE X.prog X.w) X.A (comprehension (.ListComp elt (⟨tg,iter,ifs,0⟩::rest) scope pos) scope X.env pos' (newList []) false (eval iter X.env) use) P X.xe s:=by
 refine wpAny_comprehension_free rfl hs B.clos B.kind B.names ?_;refine thn (pi pins s σ H _ I w) λv s1 w1=>thn w1 λitv s2 w2=>?_;obtain⟨it,fp,tn,J,H2,rfl,I2,T,st2,f2,α2,M2,src,ρ9,M9,e2,h2,sc,er,op2⟩:=w2;have srI:=sr.mono e2;refine bK ?_;have I3:Inv X pins σ (upd H2 s2.heap.objs.size (.lst [])) {s2 with heap:=s2.heap.push {cls:=.type "list",data:=.seq ([]:List aa).toArray}}:=I2.lnew (its:=[]) (t':=s2.toks) .nil (dB _);have fD:H2 s2.heap.objs.size=none:=I2.fresh;generalize hD:s2.heap.objs.size=D at I3 fD;generalize hs3:({s2 with heap:=s2.heap.push {cls:=.type "list",data:=.seq ([]:List aa).toArray}}:aH)=s3 at I3;generalize hH3:upd H2 D (.lst [])=H3 at I3;have h3:HR X.K H3 (α2++[D]) (M2++[.lst []]):=by rw[<-hH3];exact h2.new fD .nil
 have e3:Ext X.K H2 H3 α2 (α2++[D]):=by rw[<-hH3];exact Ext.new fD
 have aD:RefK H3 (α2++[D]) 0 M2.length D:=⟨h2.last D,by first|exact Kn.lst Zx|(rw[<-hH3];exact Kn.lst Zx)⟩
 have lt2:∀b∈fp,b<s2.heap.objs.size:=λb hb=>let ⟨o,e,_⟩:=T.obj _ _ st2 b hb;Hz e;have keep3:∀b o,s2.heap.get? b=some o->s3.heap.get? b=some o:=λb o e=>by rw[<-hs3];exact Hq _ e
 have f3:∀b∈fp,ZeR X pins H3 b:=λb hb=>⟨by rw[<-hH3,ZH (by rw[<-hD];exact az (lt2 b hb))];exact(f2 b hb).1,(f2 b hb).2⟩
 have lt3:∀b∈fp,b<s3.heap.objs.size:=λb hb=>let ⟨o,e,_⟩:=T.obj _ _ st2 b hb;Hz (keep3 b o e);have st3:tn 0 s3.heap:=T.keep _ _ _ st2 λb _ o e=>keep3 b o e;refine ZhQ ?_;have keep4:∀b o,s3.heap.get? b=some o->(iL (s3.heap.push {cls:=.type "dict",data:=.dict #[]}) scope.names).get? b=some o:=λb o e=>j4 _ _ b o (Hq _ e);have I4:=ZmF B I3 f3 lt3;generalize iL (s3.heap.push {cls:=.type "dict",data:=.dict #[]}) scope.names=h₁ at keep4 I4;have st4:tn 0 h₁:=T.keep _ _ _ st3 λb _ o e=>keep4 b o e;have fp5:∀{H':Hp},(∀b∈fp,H' b=none)->∀b∈fp,ZeR (blk X scope cl N s3.heap.objs.size fp s3 H3) [] H' b:=λhn b hb=>⟨hn b hb,az (lt3 b hb),(Zlq B I3 f3 lt3).exfs b hb,.inl hb,λx c h=>Zlp B I3 f3 lt3 hb h,λp hp=>(by simp[blk]at hp)⟩
 have loop:fm (aE X.prog X.w) X.A (.compLoop (.ListComp elt (⟨tg,iter,ifs,0⟩::rest) scope pos) 0 (.ref it) (.ref D) (compEnvC scope (bR (s3.heap.objs.size+1) scope.names cl) s3.heap.objs.size X.env)) (compPost (aE X.prog X.w) X.A X.xe use P (.ref D) s3.heap.objs.size) {s3 with heap:=h₁}:=by
  refine Zek (Y:=blk X scope cl N s3.heap.objs.size fp s3 H3) (hct _ _ _) T (λ_ _ z=>z) fp5 (hg _ fp s3 H3) (ht _ fp s3 H3) (he _ fp s3 H3 D M2.length it) (λi H' α' M' ex hr=>sc i H' α' M' (e3.trans ex) hr) aD I4 st4 (λb hb=>(f3 b hb).1) ((srI.blk).mono e3) h3 er ?_;intro σ5 H5 α5 s6 I6 ex5 sr5 hr5;obtain⟨I7,I8⟩:=Zki B I3 f3 I6;obtain⟨m6,hm6,_⟩:=id I6.loc;exact op2 D _ H5 α5 s6 m6 (e3.trans ex5) hr5 (ex5.get aD) I7 hm6 (aQ I3.lt) (λx h=>by
   obtain⟨v,o,e,_⟩:=I3.cell x _ h;exact absurd (Hz e) (b9 _)) I8
 exact codeAny_compStart_list loop (T.self X.A 0 _ _ _ st4 loop)
theorem Zdy(B:Blk X scope cl N k fr)(hi:DI X ξ tg iter fi)(hg:∀C fp s H,DG (blk X scope cl N C fp s H) tg gt)(ht:∀C fp s H,DC (blk X scope cl N C fp s H) ifs c)(hct:∀it acc env,fB (.ListComp elt (⟨tg,iter,ifs,0⟩::rest) scope pos) 0 it acc env=Zcm tg iter ifs it env (bd it acc env) (again (.compLoop (.ListComp elt (⟨tg,iter,ifs,0⟩::rest) scope pos) 0 it acc env)))(he:∀C fp s H (D n0:Nat) (it:Addr),Zdl (blk X scope cl N C fp s H) D n0 (.compLoop (.ListComp elt (⟨tg,iter,ifs,0⟩::rest) scope pos) 0 (.ref it) (.ref D) (blk X scope cl N C fp s H).env) (bd (.ref it) (.ref D) (blk X scope cl N C fp s H).env) (g n0))(hs:∀x,foldedSetIterable iter X.env x=pure x):DE X ξ (.ListComp elt (⟨tg,iter,ifs,0⟩::rest) scope pos) (Za6 fi k fr gt c g):=by
 obtain⟨wi,pi,qi⟩:=hi;refine⟨λσ H Q=>∃ρ α M,SR X.K H α σ ρ/\HR X.K H α M/\OP X.K H α ξ Q (Za6 fi k fr gt c g ρ M),?_,λσ ρ H α M Q s h q=>⟨ρ,α,M,s,h,q⟩⟩;rintro pins s σ H Q I ⟨ρ,α,M,sr,hr,op⟩;rw[eval_ListComp];refine ZfZ B pi hg ht hct he hs sr I (qi σ ρ H α M _ sr hr (OG.seq op λsrc M1 J H1 α1 e1 h1 r1 q1=>?_));cases er:Zcd src gt c (g M1.length) (cnt src M1) 0 (roB k fr ρ) (M1++[.lst []])with
 |ok u9 M9=>
  rw[er]at q1;exact⟨α1,M1,src,u9,M9,e1,h1,r1,er,λD C H5 α5 s6 m6 ex5 hr5 aD I7 hm6 _ _ I8=>⟨m6,hm6,λh' sb=>⟨.ref D,H5,I8 σ s6 h' I7 (λb o hb e=>(sb.2 b hb).trans e),rfl,q1 _ H5 α5 ex5 hr5 (.ref aD)⟩⟩⟩
 |_=>rw[er]at q1;exact q1.elim
theorem Zpn{c:Tv}:∀(fuel i:Nat)(ρ:Ro)(M:Sto),ZfX src tg c f n fuel i ρ M=(Zcd src tg c (gEm f n) fuel i ρ M).bind λ_ M=>.ok () M:=by
 intro fuel
 induction fuel with
 |zero=>
  intro i ρ M;rw[ZfX,Zcd];rcases nxt src i M with _|_|d<;>rfl
 |succ fuel ih=>
  intro i ρ M;rw[ZfX,Zcd];rcases nxt src i M with _|_|d
  .rfl
  .rfl
  .dsimp only;cases tg d ρ with
   |none=>rfl
   |some ρ1=>
    dsimp only;rcases c ρ1 M with⟨_|_,M1⟩|_|_
    .exact ih _ _ _
    .dsimp only[gEm];rcases f ρ1 M1 with⟨x,M2⟩|_|_
     .dsimp only;rcases M2[n]? with _|⟨xs⟩
      .rfl
      .dsimp only;split
       .exact ih _ _ _
       .rfl
     .rfl
     .rfl
    .rfl
    .rfl
theorem Zf0:Zam fi k fr gt c f=Za6 fi k fr gt c (gEm f):=by
 funext ρ M;unfold Zam Za6;congr 1;funext src M1;rw[Zpn];cases Zcd src gt c (gEm f M1.length) (cnt src M1) 0 (roB k fr ρ) (M1++[.lst []])<;>rfl
theorem Zaj(B:Blk X scope cl N k fr)(hi:DI X ξ tg iter fi)(h:Blk X scope cl N k fr->∀C fp s H,DG (blk X scope cl N C fp s H) tg gt/\DC (blk X scope cl N C fp s H) ifs c/\DE (blk X scope cl N C fp s H) E0 elt f)(hs:autoParam (∀x,foldedSetIterable iter X.env x=pure x) Qin._auto_1):DE X ξ (.ListComp elt [⟨tg,iter,ifs,0⟩] scope pos) (Zam fi k fr gt c f):=
 Zf0▸Zdy B hi (λC fp s H=>(h B C fp s H).1) (λC fp s H=>(h B C fp s H).2.1) (ZfY elt tg iter ifs scope pos) (λC fp s H D n0 it=>ZbO (λ_ _ z=>z) (h B C fp s H).2.2) hs
end
end DL
namespace DL
open PyProof.Rows L2
theorem ZrP{names:List (Str×cJ)}{env:Env}(h:names.all (λy=>y.2 != .cell&&y.2 != .free)=true):(names.map λ(n,k)=>if(k==dc&&env.scope.kind == .function&&env.kindOf n==some .cell)then(n,dC)else(n,k))=names:=by
 induction names with
 |nil=>rfl
 |cons y r ih=>
  rw[List.all_cons,bg]at h;obtain⟨n,kd⟩:=y;have hk:(kd==dc)=false:=by
   have h1:=h.1;rw[bg]at h1;have h2:=h1.2;cases kd<;>first|rfl|simp at h2
  rw[aR,ih h.2];simp[hk]
theorem Ze7{env:Env}:∀(names:List (Str×cJ)) (acc:List (Str×Addr)),(∀y∈names,y.2=.free->∃c,env.cells.lookup y.1=some c)->(forIn names acc λ(x:Str×cJ) (cs:List (Str×Addr))=>if x.2==dc then(do let a <-cellOf env x.1;pure (ForInStep.yield ((x.1,a)::cs)))else(pure (ForInStep.yield cs):Sem _))=
   (pure (((names.filter λy=>y.2 == .free).map λy=>(y.1,(env.cells.lookup y.1).getD 0)).reverse++acc):Sem (List (Str×Addr)))
 |[],acc,_=>by simp
 | (n,kd)::r,acc,h=>by
  rw[gg];by_cases hk:(kd==dc)=true
  .obtain⟨c,hc⟩:=h (n,kd) bW (by simpa using hk)
   have e1:cellOf env n=pure c:=by unfold cellOf;rw[hc]
   have ih:=Ze7 r ((n,c)::acc) λy hy=>h y (aJ _ hy);simp only[hk,if_true,e1,pure_bind];refine Eq.trans ih ?_;simp[List.filter_cons,hk,hc]
  .have ih:=Ze7 r acc λy hy=>h y (aJ _ hy);simp only[hk,if_false,pure_bind];refine Eq.trans ih ?_;simp[List.filter_cons,hk]
noncomputable def clF(scope:gW)(env:Env):List (Str×Addr):=((scope.names.filter λy=>y.2 == .free).map λy=>(y.1,(env.cells.lookup y.1).getD 0)).reverse
theorem Zdm{env:Env}:∀{l:List (Str×cJ)} {x:Str} {c:Addr},(l.map λy=>(y.1,(env.cells.lookup y.1).getD 0)).lookup x=some c->c=(env.cells.lookup x).getD 0/\∃y∈l,y.1=x
 |[],x,c,h=>by simp at h
 |y::r,x,c,h=>by
  rw[aR,b8]at h;cases e:x==y.1 with
  |true=>
   rw[e]at h;have ex:x=y.1:=by simpa using e
   cases h;exact⟨by rw[ex],y,bW,ex.symm⟩
  |false=>
   rw[e]at h;obtain⟨h1,z,h2,h3⟩:=Zdm h;exact⟨h1,z,aJ _ h2,h3⟩
theorem ZbQ{α:Type}:∀{l:List (Str×α)} {x:Str},(∃y∈l,y.1=x)->∃c,l.lookup x=some c
 |[],x,h=>by obtain⟨y,h1,_⟩:=h;simp at h1
 |z::r,x,h=>by
  rw[b8];cases e:x==z.1 with
  |true=>exact⟨_,rfl⟩
  |false=>
   obtain⟨y,h1,h2⟩:=h;rcases ar.mp h1 with q|q
   .subst q;rw[h2]at e;simp at e
   .exact ZbQ ⟨y,q,h2⟩
theorem Zab{env:Env}(nc:∀n,env.scope.names.lookup n=env.kindOf n):∀{names:List (Str×cJ)} {x:Str} {kd:cJ},(names.map λ(n,k)=>if(k==dc&&env.scope.kind == .function&&env.kindOf n==some .cell)then(n,dC)else(n,k)).lookup x=some kd->names.lookup x=some kd\/(names.lookup x=some .free/\kd=.cell)
 |[],x,kd,h=>by simp at h
 | (n,q)::r,x,kd,h=>by
  rw[aR,b8]at h;rw[b8];dsimp only at h ⊢;by_cases c:(q==dc&&env.scope.kind == .function&&env.kindOf n==some .cell)=true
  .rw[if_pos c]at h;dsimp only at h;cases e:x==n with
   |true=>
    rw[e]at h;cases h;simp only[bg,beq_iff_eq]at c;exact .inr ⟨by rw[c.1.1],rfl⟩
   |false=>rw[e]at h;exact Zab nc h
  .rw[if_neg c]at h;dsimp only at h;cases e:x==n with
   |true=>rw[e]at h;exact .inl h
   |false=>rw[e]at h;exact Zab nc h
theorem ZaF{env:Env}:∀{names:List (Str×cJ)} {x:Str},names.lookup x=some .free->(∃kd,(kd=dC\/kd=dc)/\(names.map λ(n,k)=>if(k==dc&&env.scope.kind == .function&&env.kindOf n==some .cell)then(n,dC)else(n,k)).lookup x=some kd)
 |[],x,h=>by simp at h
 | (n,q)::r,x,h=>by
  rw[b8]at h;rw[aR,b8];by_cases c:(q==dc&&env.scope.kind == .function&&env.kindOf n==some .cell)=true
  .dsimp only;rw[if_pos c];cases e:x==n with
   |true=>exact⟨_,.inl rfl,rfl⟩
   |false=>rw[e]at h;exact ZaF h
  .dsimp only;rw[if_neg c];cases e:x==n with
   |true=>rw[e]at h;exact⟨q,.inr (aO h),rfl⟩
   |false=>rw[e]at h;exact ZaF h
noncomputable def Zof(XN N:List Str)(dn sn:List (Str×cJ))(k:Nat)(fr:List Nat):Bool:=
 (sn.all λy=>(y.2 != .free||dn.lookup y.1==some .cell)&&(y.2 != .local||sn.lookup y.1==some .local))&&N.length==k+fr.length &&
  (aC fr.length).all λj=>match fr[j]? with
   |some i=>(match N[k+j]?,XN[i]? with|some x,some y=>x==y&&dn.lookup x==some .cell&&sn.lookup x==some .free&&sn.all (λy=> !(y.1==x&&y.2 == .cell))|_,_=>false)
   |none=>false
theorem ZuB(hN:X.N=XN)(hd:X.env.scope.names=dn)(cel:∀x,dn.lookup x=some .cell->∃c,X.env.cells.lookup x=some c)(hk:scope.kind=.function)(h:Zof XN N dn scope.names k fr=true):Blk X scope (clF scope X.env) N k fr:=by
 unfold Zof at h;simp only[bg,eK,bne_iff_ne,ne_eq,Bool.or_eq_true,beq_iff_eq]at h;obtain⟨⟨h1,h2⟩,h3⟩:=h;have kind:∀x,X.env.kindOf x=dn.lookup x:=λx=>by rw[<-hd];rfl
 have frc:∀y∈scope.names,y.2=.free->∃c,X.env.cells.lookup y.1=some c:=λy hy e=>by
  rcases(h1 y hy).1 with z|z
  .exact absurd e z
  .exact cel _ z
 have sub:∀x c,(clF scope X.env).lookup x=some c->X.env.cells.lookup x=some c:=λx c e=>by
  unfold clF at e;rw[<-List.map_reverse]at e;obtain⟨e1,y,e2,e3⟩:=Zdm e;have e4:=f8.mp (List.mem_reverse.mp e2);obtain⟨c',g⟩:=frc y e4.1 (by simpa using e4.2)
  rw[e3]at g;rw[g]at e1 ⊢;rw[e1];rfl
 have has:∀x,scope.names.lookup x=some .free->∃c,(clF scope X.env).lookup x=some c:=λx e=>by
  refine ZbQ ?_;have m:=PySem.mem_of_lookup e;exact⟨(x,(X.env.cells.lookup x).getD 0),List.mem_reverse.mpr (cx.mpr ⟨(x,.free),f8.mpr ⟨m,by simp⟩,rfl⟩),rfl⟩
 refine⟨?_,hk,λy hy e=>?_,sub,λn x z=>?_,h2,λj i e=>?_⟩
 .have:=Ze7 (env:=X.env) scope.names [] frc
  rw[cD]at this;unfold lK;exact(congrArg (λ(m:Sem (List (Str×Addr)))=>m >>= λcs=>(pure cs:Sem (List (Str×Addr)))) this).trans (pure_bind _ _)
 .rcases(h1 y hy).2 with z|z
  .exact absurd e z
  .exact z
 .have nc:∀m,X.env.scope.names.lookup m=X.env.kindOf m:=λm=>rfl;have own:scope.names.lookup x=some .cell->∃c,(bR n scope.names (clF scope X.env)).lookup x=some c:=λe=>eB.mp (PySem.W.cellsFrom_some scope.names n _ (.inl e));have oth:scope.names.lookup x=some .free->∃c,(bR n scope.names (clF scope X.env)).lookup x=some c:=λe=>by
   obtain⟨c,hc⟩:=has x e;exact eB.mp (PySem.W.cellsFrom_some scope.names n _ (.inr (by rw[hc];rfl)))
  rcases z with z|z
  .rcases Zab nc z with q|q
   .exact own q
   .exact oth q.1
  .rcases Zab nc z with q|q
   .exact oth q
   .cases q.2
 .have hj:j<fr.length:=(au.mp e).1;have q:=h3 j (cu.mpr hj);rw[e]at q;dsimp only at q;cases e1:N[k+j]? with
  |none=>rw[e1]at q;cases q
  |some x=>
   cases e2:XN[i]? with
   |none=>rw[e1,e2]at q;cases q
   |some y=>
    rw[e1,e2]at q;simp only[bg,beq_iff_eq]at q;obtain⟨⟨⟨q1,q2⟩,q3⟩,q4⟩:=q;subst q1;obtain⟨kd,r1,r2⟩:=ZaF (env:=X.env) q3;obtain⟨c,r3⟩:=has x q3;refine⟨x,rfl,by rw[hN];exact e2,by rw[kind];exact q2,?_,r3.trans (sub x c r3).symm,λhm=>?_⟩
    .rcases r1 with r1|r1
     .exact .inl (r1▸r2)
     .exact .inr (r1▸r2)
    .have:=eK.mp q4 _ hm
     simp at this
theorem ZdZ(XN N:List Str)(dn:List (Str×cJ))(k:Nat)(fr:List Nat)(hN:autoParam (X.N=XN) Qrf._auto_1)(hd:autoParam (X.env.scope.names=dn) Qrf._auto_1)(hc:autoParam (X.env.cells=bR n dn []) Qrf._auto_1)(hk:autoParam (scope.kind=.function) Qrf._auto_1)(h:Zof XN N dn scope.names k fr=true:=by decide +kernel):Blk X scope (clF scope X.env) N k fr:=
 ZuB hN hd (λx e=>by
  have:=PySem.W.cellsFrom_some dn n [] (.inl e)
  rw[hc];exact eB.mp this) hk h
def ZcG:List D->Option (List Bool)
 |[]=>some []
 |.bl b::r=>match ZcG r with|some bs=>some (b::bs)|none=>none
 |_::_=>none
def ZvL:W3:=λds M=>match ds with
 |[.ref n]=>(match M[n]? with|some (.lst xs)=>(match ZcG xs with|some bs=>.ok (.bl (bs.all id)) M|none=>.bad)|none=>.bad)
 |_=>.bad
end DL
namespace DL
open PyProof.Rows L2
end DL
namespace DL
open PyProof.Rows L2
noncomputable def Zss(names dn:List (Str×cJ)):List (Str×cJ):=names.map λ(n,k)=>if(k==dc&&dn.lookup n==some .cell)then(n,dC)else(n,k)
theorem ZhR{X:Cx}(hd:X.env.scope.names=dn)(hk:X.env.scope.kind=.function):(lS scope X.env).names=Zss scope.names dn:=by
 unfold lS Zss;rw[<-hd];show scope.names.map _=_;apply eI;rintro⟨n,k⟩ _;have e:(ScopeKind.function==ScopeKind.function)=true:=by decide
 simp only[hk,e,Bool.and_true];rfl
theorem Zst(B0:Blk X scope0 cl0 N0 k0 fr0)(N:List Str)(dn:List (Str×cJ))(k:Nat)(fr:List Nat)(hd:autoParam (X.env.scope.names=dn) Qrf._auto_1)(hk0:autoParam (X.env.scope.kind=.function) Qrf._auto_1)(hk:autoParam (scope.kind=.function) Qrf._auto_1)(h:Zof N0 N (Zss scope0.names dn) scope.names k fr=true:=by decide +kernel):Blk (blk X scope0 cl0 N0 C fp s H) scope (clF scope (blk X scope0 cl0 N0 C fp s H).env) N k fr:=
 ZuB rfl (ZhR hd hk0) (λx e=>B0.has _ x (.inl (by rw[ZhR hd hk0];exact e))) hk h
end DL
namespace DL
open PyProof.Rows L2
open PySem.W (nsIn excIn tailIn nsOkIn mroIn clsIn typeIn findIn specialIn takesIn kitOne Looks)
noncomputable abbrev bmV:List aa:=[.type "ValueError",.type "Exception",.type "BaseException",.type "object"]
noncomputable def Zkj(K:Fg)(c:Str):Option Addr:=match nsIn K aM c with|some (some (.ref C))=>some C|_=>none
theorem Zf1{K:Fg}(h:Zkj K c=some C):nsIn K aM c=some (some (.ref C)):=by
 unfold Zkj at h
 split at h
 .rename_i C' e;cases h;exact e
 .cases h
def Zog(K:Fg)(c:Str):Bool:=match Zkj K c with
 |some C=>excIn K C bmV "ValueError.__new__"&&gD K (.ref C) "__getattribute__"==some (some (.builtin "BaseException.__getattribute__"))&&gD K (.ref C) "__getattr__"==some none&&gD K (.ref C) "__class__"==some (some (.builtin "object.__class__")) &&
  gu K (.builtin "object.__class__") "__get__"==some (some (.builtin "getset_descriptor.__get__"))&&jj K (.builtin "object.__class__")==some true&&kE K C (.type "BaseException")==some true&&kE K C (.type "object")==some true&&(mf K C).isSome
 |none=>false
def Zpo(K:Fg)(c:Str):Bool:=match Zkj K c with
 |some C=>gD K (.ref C) "__getattribute__"==some (some (.builtin "BaseException.__getattribute__"))&&gD K (.ref C) "__getattr__"==some none&&gD K (.ref C) "__class__"==some (some (.builtin "object.__class__")) &&
  gu K (.builtin "object.__class__") "__get__"==some (some (.builtin "getset_descriptor.__get__"))&&jj K (.builtin "object.__class__")==some true&&kE K C (.type "BaseException")==some true&&kE K C (.type "object")==some true&&(mf K C).isSome
 |none=>false
theorem ZrQ{K:Fg}(h:Zpo K c=true):∃C,nsIn K aM c=some (some (.ref C))/\DQ.ExcC K C:=by
 unfold Zpo at h
 split at h
 .rename_i C e;simp only[bg,beq_iff_eq]at h;obtain⟨⟨⟨⟨⟨⟨⟨h2,h3⟩,h4⟩,h5⟩,h6⟩,h7⟩,h8⟩,h9⟩:=h;exact⟨C,Zf1 e,h2,h3,h4,h5,h6,h7,h8,h9⟩
 .cases h
theorem ZmG{K:Fg}(h:Zog K c=true):∃C,nsIn K aM c=some (some (.ref C))/\excIn K C bmV "ValueError.__new__"=true/\DQ.ExcC K C:=by
 unfold Zog at h
 split at h
 .rename_i C e;simp only[bg,beq_iff_eq]at h;obtain⟨⟨⟨⟨⟨⟨⟨⟨h1,h2⟩,h3⟩,h4⟩,h5⟩,h6⟩,h7⟩,h8⟩,h9⟩:=h;exact⟨C,Zf1 e,h1,h2,h3,h4,h5,h6,h7,h8,h9⟩
 .cases h
theorem ZmH{K:Fg}(X:K.In h)(q:excIn K C bmB newId=true):∃bm N nm q bs hdct sn sub ab col dd k0 k1 k2 k3 k5 mN,h.get? C=some (excClassObj nm q C N bs bm hdct sn sub ab col dd k0 k1 k2 k3 k5 newId)/\h.Ns N mN/\mN "__init__"=none/\OwnTail h bmB bm:=by
 unfold excIn at q
 split at q
 .rename_i dd cd sl ho
  split at q
  .rename_i C' bm k0 k1 k2 k3 n k5 hm hs;simp only[bg,beq_iff_eq,Bool.not_eq_true']at q;obtain⟨⟨⟨⟨⟨rfl,rfl⟩,hdel⟩,ht⟩,hok⟩,hni⟩:=q;obtain⟨nm,bs,mro,ns,qn,hd,sn,sub,ab,col,del⟩:=cd;dsimp only at hm hdel hok hni;subst hm hdel;obtain⟨l⟩:=sl;simp only at hs;subst hs;exact⟨bm,ns,nm,qn,bs,hd,sn,sub,ab,col,dd,k0,k1,k2,k3,k5,_,X _ _ ho,.of_isNs (PySem.W.isNs_of_in X hok),PySem.W.nsMap_none_of_in X hok hni,PySem.W.tail_of_in X ht⟩
  .cases q
 .cases q
theorem Zpp(k:HOk P w H h)(hn:h.get? e=none):H e=none:=by
 cases z:H e with
 |none=>rfl
 |some u=>obtain⟨o,g⟩:=ZfQ (k e u z);rw[hn]at g;cases g
def Zel(c:Str)(fs:Av):Sv:=λρ M=>Zas (fs ρ M) λds M1=>if ds.length<=1000 then .exc c M1 else .bad
theorem Zcv(T:Thr X ξ)(hx:Zog X.K x=true)(gl:∀c v,nsIn X.K aM c=some (some v)->X.mg c=some v)(hh:X.A.handled=none)(ha:DA X ξ (a::as) fs)(hg:autoParam (Gl X x) Qrf._auto_1)(hdb:autoParam ((x==("__debug__":Str))=false) Qde._auto_1)(hf:autoParam (Zoc x=false) Qde._auto_1)(he:autoParam (aA (a::as) X.env=(false,eval a X.env)::aA as X.env) Qrf._auto_1)(hpl:autoParam ((cR cpos (aA as X.env)).any (·.1)=false) Qrf._auto_1):DS X ξ (.Raise (some (.Call (.Name x np) (a::as) [] cpos)) none pos) (Zel x fs):=by
 obtain⟨ta,pa,qa⟩:=ha;obtain⟨C,hC,hq,_⟩:=ZmG hx;refine⟨λDn σ H=>ta σ H λvs H1=>vs.length<=sizeLine/\ξ (.ref C) none H1,λpins s σ H Dn I h=>?_,λσ ρ H α M Dn s h q=>?_⟩
 .obtain⟨tl,N,nm,q,bs,hdct,sn,sub,ab,col,dd,k0,k1,k2,k3,k5,mN,gC,hN,hni,TL⟩:=ZmH I.ok.mod.kin hq;refine wpAny_Raise_call_subT (C:=C) (nm:=nm) (q:=q) (N:=N) (bs:=bs) (bm:=tl) (hdct:=hdct) (sn:=sn) (sub:=sub) (ab:=ab) (col:=col) (dd:=dd) (k0:=k0) (k1:=k1) (k2:=k2) (k3:=k3) (k5:=k5) F.excBase_ValueError (mN:=mN)
   (TL.hasType F.excBase_ValueError.hasBase) hh (by rw[he];show(false||(cR cpos (aA as X.env)).any (·.1))=false;rw[hpl];rfl) hni (Zhd I hg (gl x _ hC) ⟨rfl,?_⟩ hdb)
  have hs:=pa cpos pins s σ H _ I h;rw[he]at hs ⊢;refine Calls.evalArgs_plain (wpAny_mono hs (λus s2 ⟨vs,H1,I1,r1,z1,z2⟩=>⟨rfl,by rw[<-r1.length];exact z1,I1.bk _ _ gC,hN.keeps I1.bk,TL.keeps I1.bk,λh' e m=>?_⟩) λ_ _ y=>y)
  obtain⟨t,g1,g2,g3⟩:=m.there;exact T.mak pins σ H1 H1 s2 {s2 with heap:=h'} e _ _ C I1 rfl I1.bare (Un.kept m.keeps) (I1.hok.kept m.keeps) m.new g1 rfl rfl rfl rfl (Zpp I1.hok m.new) z2
 .refine qa σ ρ H α M _ s h (FP.seq q λds M1 vs H1 α1 e1 h1 r1 w1=>?_);by_cases hl:ds.length<=1000
  .rw[if_pos hl]at w1;exact⟨by rw[r1.length];exact small hl,w1 C H1 α1 hC Ext.refl none (.no hf h1 rfl)⟩
  .rw[if_neg hl]at w1;exact w1.elim
end DL
namespace DL
open PyProof.Rows L2
open PySem.W (nsIn excIn tailIn nsOkIn mroIn clsIn typeIn findIn specialIn takesIn kitOne Looks looks_mroIn looks_typeIn)
noncomputable def kpR:List Bool->Ro->Ro
 |b::m,x::r=>(bif b then none else x)::kpR m r
 |_,[]=>[]
 |[],_::r=>none::kpR [] r
def fsE(c:Str)(M:Sto):List D:=if Zoc c=true then(match M.getLast? with|some (.lst xs)=>xs|none=>[])else[]
def stE(c:Str)(M:Sto):Sto:=if Zoc c=true then M.dropLast else M
theorem Zsu(h:Zoc c=false):stE c M=M:=by unfold stE;rw[h];rfl
theorem Zsv(h:Zoc c=true):stE c (M++[.lst ds])=M:=by unfold stE;rw[if_pos h,List.dropLast_concat]
theorem XO.hr{K:Fg}(h:XO K H α c M dct):HR K H α (stE c M):=by
 obtain⟨h1,h2,_⟩:=h;rw[Zsu h1];exact h2
theorem ZJ{A:cZ}(hr:Room k (A.deeper env))(h:100<=k):A.handled.isNone=true:=by
 have e:A.handled=none:=hr.hd h;rw[e];rfl
end DL
namespace DL
open PyProof.Rows L2
abbrev Me:=D->List D->Sto->Out D
def MO(X:Cx)(ξ:XK)(r:V->List V->Hp->VK->Prop)(g:Me):Prop:=∀H α M v vs x ds Q,HR X.K H α M->Rep X.K H α v x->Reps X.K H α vs ds->OP X.K H α ξ Q (g x ds M)->r v vs H Q
theorem HR.wrE{K:Fg}(h:HR K H α M)(e:RefK H α 0 n p)(hp:H p=some (.lst ys))(r:Reps K H α xs ds):Ext K H (upd H p (.lst xs)) α α/\HR K (upd H p (.lst xs)) α (M.set n (.lst ds)):=
 ⟨Ext.wr hp,h.wr e hp r⟩
section
variable {fs:Av}{id:String}{r:V->List V->Hp->VK->Prop}
noncomputable def ZmI(x:D)(M:Sto):Bool:=match x with|.ref n=>M[n]?.isSome|_=>false
def ZeS(g:Me)(fo:Ev)(fs:Av):Ev:=λρ M=>(fo ρ M).bind λx M1=>if ZmI x M1=true then(fs ρ M1).bind λds M2=>g x ds M2 else .bad
theorem ZmJ{K:Fg}(h:HR K H α M)(rx:Rep K H α v x)(k:ZmI x M=true):tyV K "list" v H:=by
 cases rx with
 |@ref p n hp=>
  obtain⟨xs,g⟩:=h.some_at hp;exact .inl ⟨rfl,_,SqL.of g⟩
 |_=>cases k
theorem Zsw(slot:Slot "list" name id)(hty:typeOf (.builtin id)=pure (.type "method_descriptor"))(hm:MtR X id r)(hf:MO X ξ r g)(ho:DE X ξ o fo)(ha:DA X ξ (e::es) fs)(hbase:autoParam (hU o name X.env (eval o X.env)=eval o X.env) Qrf._auto_1)
  (hfew:((cR cpos (aA (e::es) X.env)).all (λx=> !x.1)&&(iX cpos (fA [] X.env)).all (λx=>x.1.isSome) && decide ((e::es).length+([]:List iD).length+(if([]:List iD).isEmpty then 0 else 1)<30))=true:=by rfl)
  (hline:(apos.endLine==cpos.line)=true:=by rfl) (hs:aA (e::es) X.env=(false,eval e X.env)::aA es X.env:=by rfl) (hplain:(cR cpos (aA es X.env)).any (·.1)=false:=by rfl):
  DE X ξ (.Call (.Attribute o name apos) (e::es) [] cpos) (ZeS g fo fs):=by
 obtain⟨to,po,qo⟩:=ho;obtain⟨ta,pa,qa⟩:=ha;refine⟨_,Zsj PySem.F.plainAttrs_list slot hty hm po pa hbase hfew hline hs hplain,λσ ρ H α M Q s h q=>?_⟩;refine qo σ ρ H α M _ s h (OG.seq q λx M1 v H1 α1 e1 h1 r1 q1=>?_);by_cases k:ZmI x M1=true
 .rw[if_pos k]at q1;exact⟨ZmJ h1 r1 k,qa σ ρ H1 α1 M1 _ (s.mono e1) h1 (OG.seq q1 λds M2 vs H2 α2 e2 h2 r2 q2=>hf H2 α2 M2 v vs x ds Q h2 (Rep.mono e2 r1) r2 q2)⟩
 .rw[if_neg k]at q1;exact q1.elim
noncomputable def mApp:Me:=λx ds M=>match x,ds with
 |.ref n,[d]=>(match M[n]? with|some (.lst xs)=>if xs.length<10000000 then .ok .non (M.set n (.lst (xs++[d])))else .bad|none=>.bad)
 |_,_=>.bad
theorem Zpq:MO X ξ rAppend mApp:=by
 intro H α M v vs x ds Q h rx rs q;cases rx with
 |@ref p n hp=>
  cases rs with
  |nil=>exact q.elim
  |@cons u d _ _ ru tz=>
   cases tz with
   |cons _ _=>exact q.elim
   |nil=>
    cases em:M[n]? with
    |none=>simp only[mApp,em]at q;exact q.elim
    |some so=>
     cases so with
     |lst es=>
      obtain⟨xs,g1,g2⟩:=h.at hp em;by_cases c:es.length<10000000
      .simp only[mApp,em,if_pos c]at q;obtain⟨k1,k2⟩:=h.wrE hp g1 (g2.append (.cons ru .nil));exact⟨p,xs,u,rfl,rfl,g1,by rw[g2.length];exact aj c (by decide),q _ _ α k1 k2 .non⟩
      .simp only[mApp,em,if_neg c]at q;exact q.elim
 |_=>cases rs<;>exact q.elim
theorem ZV(ho:DE X ξ o fo)(ha:DE X ξ e fa)(hbase:autoParam (hU o "append" X.env (eval o X.env)=eval o X.env) Qrf._auto_1)
  (hfew:((cR cpos (aA [e] X.env)).all (λx=> !x.1)&&(iX cpos (fA [] X.env)).all (λx=>x.1.isSome) && decide ([e].length+([]:List iD).length+(if([]:List iD).isEmpty then 0 else 1)<30))=true:=by rfl)
  (hline:(apos.endLine==cpos.line)=true:=by rfl) (hs:aA [e] X.env=(false,eval e X.env)::aA [] X.env:=by rfl) (hplain:(cR cpos (aA [] X.env)).any (·.1)=false:=by rfl):
  DE X ξ (.Call (.Attribute o "append" apos) [e] [] cpos) (ZeS mApp fo (Zc fa aNil)):=Zsw PySem.F.slot_list_append PySem.F.type_list_append Zd9 Zpq ho (Zb ha Ze hs) hbase hfew hline hs hplain
def DO(X:Cx)(ξ:XK)(e:Option Expr)(f:Ro->Sto->Out (Option Int)):Prop:=∃t:TO,PO X e t/\∀σ ρ H α M (Q:Option Int->Hp->Prop),SR X.K H α σ ρ->HR X.K H α M->OG X.K (λ_ _ v d=>v=d) H α ξ Q (f ρ M)->t σ H Q
noncomputable def oNo:Ro->Sto->Out (Option Int):=λ_ M=>.ok none M
def oSo(f:Ev):Ro->Sto->Out (Option Int):=λρ M=>(f ρ M).bind λx M1=>match x with|.int i=>.ok (some i) M1|_=>.bad
theorem Zkk:DO X ξ none oNo:=⟨_,Zmf,λσ ρ H α M Q s h q=>q none H α Ext.refl h rfl⟩
theorem Zkl(ha:DE X ξ e fa):DO X ξ (some e) (oSo fa):=by
 obtain⟨ta,pa,qa⟩:=ha;refine⟨_,Zmg pa,λσ ρ H α M Q s h q=>?_⟩;refine qa σ ρ H α M _ s h (OG.seq q λx M1 v H1 α1 e1 h1 r1 q1=>?_);cases r1 with
 |int i=>exact⟨i,rfl,q1 (some i) H1 α1 Ext.refl h1 rfl⟩
 |_=>exact q1.elim
def Ze8(xs:List D)(lo hi:Option Int):List D:=(xs.drop (HT.sIx xs.length 0 lo)).take (HT.sIx xs.length xs.length hi-HT.sIx xs.length 0 lo)
theorem Reps.drop{K:Fg}{H:Hp}{α:List Addr}:∀(n:Nat){vs:List V}{ds:List D},Reps K H α vs ds->Reps K H α (vs.drop n) (ds.drop n)
 |0,_,_,h=>h
 |_+1,_,_,.nil=>.nil
 |n+1,_,_,.cons _ t=>Reps.drop n t
theorem Reps.take{K:Fg}{H:Hp}{α:List Addr}:∀(n:Nat){vs:List V}{ds:List D},Reps K H α vs ds->Reps K H α (vs.take n) (ds.take n)
 |0,_,_,_=>.nil
 |_+1,_,_,.nil=>.nil
 |n+1,_,_,.cons r t=>.cons r (Reps.take n t)
theorem Reps.cut{K:Fg}(r:Reps K H α vs ds)(lo hi:Option Int):Reps K H α (Zlc vs lo hi) (Ze8 ds lo hi):=by
 unfold Zlc Ze8;rw[r.length];exact(r.drop _).take _
def eSl(f:Ev)(lo hi:Ro->Sto->Out (Option Int)):Ev:=λρ M=>(f ρ M).bind λx M1=>(lo ρ M1).bind λl M2=>(hi ρ M2).bind λu M3=>match x with
 |.ref n=>(match M3[n]? with|some (.lst xs)=>.ok (.ref M3.length) (M3++[.lst (Ze8 xs l u)])|none=>.bad)
 |.rol xs=>.ok (.ref M3.length) (M3++[.lst (Ze8 xs l u)])
 |.tup xs=>if HT.sIx xs.length 0 l=0/\HT.sIx xs.length xs.length u=xs.length then .bad else .ok (.tup (Ze8 xs l u)) M3
 |_=>.bad
theorem Zkm{lo:Option Expr}(he:DE X ξ e fa)(hl:DO X ξ lo fl)(hh:DO X ξ hi fh):DE X ξ (.Subscript e (.Slice lo hi none p2) pos) (eSl fa fl fh):=by
 obtain⟨ta,pa,qa⟩:=he;obtain⟨tl,pl,ql⟩:=hl;obtain⟨th,ph,qh⟩:=hh;refine⟨_,Zj2 (SlR.or Zml ZoT) pa pl ph,λσ ρ H α M Q s h q=>?_⟩;refine qa σ ρ H α M _ s h (OG.seq q λx M1 v H1 α1 e1 h1 r1 q1=>?_);refine ql σ ρ H1 α1 M1 _ (s.mono e1) h1 (OG.seq q1 λl M2 l' H2 α2 e2 h2 r2 q2=>?_);refine qh σ ρ H2 α2 M2 _ ((s.mono e1).mono e2) h2 (OG.seq q2 λu M3 u' H3 α3 e3 h3 r3 q3=>?_);cases r2;cases r3;cases Rep.mono e3 (Rep.mono e2 r1)with
 |@ref p n hp=>
  cases em:M3[n]? with
  |none=>simp only[em]at q3;exact q3.elim
  |some so=>
   cases so with
   |lst es=>
    simp only[em]at q3;obtain⟨xs,g1,g2⟩:=h3.at hp em;exact .inl ⟨p,xs,rfl,SqL.of g1,λa ha=>q3 _ _ (α3++[a]) (Ext.new ha) (h3.new ha (g2.cut l u)) (.ref ⟨h3.last a,Kn.lst Zx⟩)⟩
 |@rol p xs ds hp rp=>
  have q4:OP X.K H3 α3 ξ Q (.ok (.ref M3.length) (M3++[.lst (Ze8 ds l u)])):=q3;exact .inl ⟨p,xs,rfl,hp.sq,λa ha=>q4 _ _ (α3++[a]) (Ext.new ha) (h3.new ha (rp.cut l u)) (.ref ⟨h3.last a,Kn.lst Zx⟩)⟩
 |@tup p xs ds hp rp=>
  by_cases c:HT.sIx ds.length 0 l=0/\HT.sIx ds.length ds.length u=ds.length
  .simp only[if_pos c]at q3;exact q3.elim
  .simp only[if_neg c]at q3;exact .inr ⟨p,xs,rfl,(SqT.of hp),by rw[rp.length];exact c,λa ha=>q3 _ _ α3 (Ext.new0 ha) (h3.tup ha) (.tup Zx (Reps.mono (Ext.new0 ha) (rp.cut l u)))⟩
 |_=>exact q3.elim
def iR2(fs:Av):Ro->Sto->Out Src:=λρ M=>(fs ρ M).bind λds M1=>match ds with
 |[.int i,.int j]=>if -(2^62)<=i/\i<2^62/\ -(2^62)<=j/\j<2^62 then .ok (.pur (Zah i (j-i).toNat)) M1 else .bad
 |_=>.bad
theorem Zem(hm:X.mg "range"=none)(ha:DA X ξ [a,b] fs)(hgl:autoParam (Gl X "range") Qrf._auto_1)(hs:autoParam (aA [a,b] X.env=[(false,eval a X.env),(false,eval b X.env)]) Qrf._auto_1)(hs2:autoParam (aA [b] X.env=[(false,eval b X.env)]) Qrf._auto_1):DI X ξ tg (.Call (.Name "range" p) [a,b] [] pos) (iR2 fs):=by
 obtain⟨ta,pa,qa⟩:=ha;refine⟨_,Zhg hgl hm pa hs hs2,λσ ρ H α M R s hh q=>qa σ ρ H α M _ s hh (OG.seq q λds M1 vs H1 α1 e1 h1 r1 w1=>?_)⟩
 split at w1
 .rename_i i j;cases r1 with
  |cons r t=>
   cases t with
   |cons r' t=>
    cases t;cases r;cases r';by_cases c: -(2^62)<=i/\i<2^62/\ -(2^62)<=j/\j<2^62
    .simp only[if_pos c]at w1;exact⟨i,j,rfl,c,w1 _ H1 α1 Ext.refl h1 Zdj⟩
    .simp only[if_neg c]at w1;exact w1.elim
 .exact w1.elim
end
end DL
namespace DL
open PyProof.Rows L2
def Zen(tg:Tg)(g:Sv)(src:Src):Nat->Nat->Ro->Sto->Fl
 |f,i,ρ,M=>match nxt src i M with
  |none=>.bad
  |some none=>.nx ρ M
  |some (some d)=>(match f with
   |0=>.bad
   |f+1=>(match tg d ρ with
    |none=>.bad
    |some ρ1=>(match g ρ1 M with
     |.nx ρ2 M2=>Zen tg g src f (i+1) ρ2 M2
     |.cnt ρ2 M2=>Zen tg g src f (i+1) ρ2 M2
     |.brk ρ2 M2=>.nx ρ2 M2
     |o=>o)))
def Zeo(tg:Tg)(fi:Ro->Sto->Out Src)(g:Sv):Sv:=λρ M=>Zas (fi ρ M) λsrc M1=>Zen tg g src (cnt src M1) 0 ρ M1
theorem ZcH(hp:fE (aE X.prog X.w) X.A X.env X.xe)(hi:DI X ξ tg iter fi)(hg:DG X tg gt)(hb:DSs X ξ body g)(hf:autoParam (∀x,foldedSetIterable iter X.env x=pure x) Qin._auto_1):DS X ξ (.For tg iter body [] pos) (Zeo gt fi g):=by
 obtain⟨wi,pi,qi⟩:=hi;obtain⟨tt,pt,qt⟩:=hg;obtain⟨tb,pb,qb⟩:=hb;refine⟨_,Zhi hp pi pt pb hf,λσ ρ H α M Dn s hh w=>qi σ ρ H α M _ s hh (FP.seq w λsrc M1 J H1 α1 e1 h1 sc w1=>?_)⟩;generalize eo:Zen gt g src (cnt src M1) 0 ρ M1=o at w1;refine⟨λi m σ' H'=>∃ρ' α' M',Ext X.K H1 H' α1 α'/\SR X.K H' α' σ' ρ'/\HR X.K H' α' M'/\Zen gt g src m i ρ' M'=o,⟨cnt src M1,ρ,α1,M1,Ext.refl,s.mono e1,h1,eo⟩,?_⟩;rintro i m σ' H' ⟨ρ',α',M',ex,sr,hr,en⟩;have s5:=sc i H' α' M' ex hr;unfold Zen at en;cases en1:nxt src i M' with
 |none=>rw[en1]at en;cases en;exact w1.elim
 |some od=>
  rw[en1]at en s5;cases od with
  |none=>cases en;exact .inl ⟨s5,w1 σ' H' α' ex hr sr⟩
  |some d=>
   obtain⟨go,yl⟩:=s5;cases m with
   |zero=>cases en;exact w1.elim
   |succ m=>
    simp only at en;refine .inr ⟨go,λσ2 H2=>∃ρ' α' M',Ext X.K H1 H2 α1 α'/\SR X.K H2 α' σ2 ρ'/\HR X.K H2 α' M'/\Zen gt g src m (i+1) ρ' M'=o,λσ2 H2 z=>⟨m,dF m,z⟩,λx H2 y=>?_⟩;obtain⟨ex7,hr7,rp7⟩:=yl x H2 y;exact Zkf (tg:=tg) w1 qt qb (ex.trans ex7) (sr.mono ex7) hr7 rp7 en (λσ' H' z=>z)
theorem Ze9{ch:List Addr}(I:Inv X pins σ H s)(k:∀b o,b∉ch->s.heap.get? b=some o->h'.get? b=some o)(hf:∀b∈ch,ZeR X pins H b):Inv X pins σ H {s with heap:=h',toks:=t'}:=by
 have nit:∀b u,H b=some u->b∉ch:=λb u e z=>by rw[(hf b z).1]at e;cases e
 have hL:X.env.locals∉ch:=λz=>(hf _ z).2.1 rfl;refine I.step (g':=s.gens) (d':=s.drawn) (ch:=ch) (λb hb=>?_) (λb o _ _ hc e _=>k b o hc e) (λb o _ _ hc e _=>⟨o.slots,k b o hc e⟩) (λ_ _ _ _ n=>n)
  (λb o hc e=>⟨o,k b o hc e⟩) (λ_ _ e=>e) (λ_ _ _ e=>e) (λb ps e=>⟨#[],by rw[e];simp⟩) (λm hm=>?_) (λb u e=>?_) I.bare
 .obtain⟨_,z1,_,z3,z4,z5⟩:=hf b hb;exact⟨z3,z1,z4,z5⟩
 .obtain⟨o,es,ep,ho,r⟩:=hm;exact⟨o,es,ep,k _ o hL ho,r⟩
 .refine(I.hok b u e).stay (λc v hc q=>k c v ?_ q) (λ_ q=>q) λ_ _ q=>q;rcases hc with z|z
  .rw[z];exact nit b u e
  .exact nit c _ z
theorem ZhS{ch:List Addr}(I:Inv X pins σ H s)(hf:∀b∈ch,ZeR X pins H b)(hlt:∀b∈ch,b<s.heap.objs.size)(rv:ZU vs us)(hz:vs.length<=sizeLine)(k:∀b o,b∉ch->s.heap.get? b=some o->h'.get? b=some o)(ht:h'.get? s.heap.objs.size=some {cls:=.type "tuple",data:=.seq us.toArray}):Inv X pins σ (upd H s.heap.objs.size (.tup vs)) {s with heap:=h',toks:=t'}/\H s.heap.objs.size=none/\∀b∈ch,upd H s.heap.objs.size (.tup vs) b=none:=by
 have fr:H s.heap.objs.size=none:=I.hok.fresh (ae _);have hn:∀b∈ch,upd H s.heap.objs.size (.tup vs) b=none:=λb hb=>by rw[ZH (az (hlt b hb))];exact(hf b hb).1
 have I1:Inv X pins σ (upd H s.heap.objs.size (.tup vs)) {s with heap:=s.heap.push {cls:=.type "tuple",data:=.seq us.toArray},toks:=t'}:=
  I.laid (t':=t') (o:=.tup vs) (λ_ _ q=>Hq _ q) (ae _) ⟨hz,us,rv,_,aF _ rfl,rfl,_,rfl⟩
 refine⟨Ze9 (s:={s with heap:=s.heap.push {cls:=.type "tuple",data:=.seq us.toArray},toks:=t'}) (t':=t') (ch:=ch) I1 (λb o hb e=>?_) (λb hb=>⟨hn b hb,(hf b hb).2⟩),fr,hn⟩;by_cases c:b=s.heap.objs.size
 .subst c;have e':(s.heap.push {cls:=.type "tuple",data:=.seq us.toArray}).get? s.heap.objs.size=some o:=e;rw[aF _ rfl]at e';cases e';exact ht
 .refine k b o hb ?_;have e':(s.heap.push {cls:=.type "tuple",data:=.seq us.toArray}).get? b=some o:=e;have hl:b<s.heap.objs.size:=by
   have q:b<s.heap.objs.size+1:=by
    have z:=Hz e'
    rwa [cC]at z
   exact Nat.lt_of_le_of_ne (Nat.le_of_lt_succ q) c
  have q:(s.heap.push {cls:=.type "tuple",data:=.seq us.toArray}).get? b=s.heap.get? b:=by
   unfold mB.get? mB.push;simp only[Array.getElem?_push];rw[if_neg (az hl)]
  rwa [q]at e'
def Ite(K:Fg)(a:Addr):It:=
 ⟨λi H=>∃xs x,SqL K H a xs/\xs[i]?=some x,λi H y H'=>∃p,H p=none/\y=.ref p/\∀xs x,SqL K H a xs->xs[i]?=some x->H'=upd H p (.tup [.int i,x]),λi H=>∃xs,SqL K H a xs/\xs.length<=i⟩
def Itz(K:Fg)(a b:Addr):It:=
 ⟨λi H=>∃xs ys x y,SqL K H a xs/\SqL K H b ys/\xs[i]?=some x/\ys[i]?=some y,λi H v H'=>∃p,H p=none/\v=.ref p/\∀xs ys x y,SqL K H a xs->SqL K H b ys->xs[i]?=some x->ys[i]?=some y->H'=upd H p (.tup [x,y]),λi H=>∃xs ys,SqL K H a xs/\SqL K H b ys/\(xs.length<=i\/ys.length<=i)⟩
theorem ZhT{K:Fg}(hB:B.handled=none)(a e it:Addr)(hne:e≠it):Turn P w K B (.Tuple elts k0 tp) (Ite K a) [e,it] e (λi h=>(∃old,IsEnum h e it (i:Int) old)/\h.IsListIter it a i) where
 mem:=by simp
 obj:=λi h st b hb=>by
  obtain⟨⟨old,h1⟩,o,e2,c2,d2⟩:=st;rcases ar.mp hb with z|z
  .subst z;exact⟨_,h1,λv z=>by cases z⟩
  .have z':b=it:=by simpa using z
   subst z';exact⟨o,e2,λv z=>by rw[d2]at z;cases z⟩
 keep:=λi h h' st k=>⟨let ⟨old,z⟩:=st.1;⟨old,k e (by simp) _ z⟩,st.2.at λo z=>k it (by simp) o z⟩
 item:=by
  intro X hP hw hK hA i pins s σ H E I hf st hg;subst hP hw hK hA;obtain⟨⟨old,h1⟩,h2⟩:=st;obtain⟨xs,x,hq,hx⟩:=hg;obtain⟨its,rv,p,hz⟩:=I.list hq;obtain⟨u,hu,ru⟩:=rv.get hx;have lt:∀b∈[e,it],b<s.heap.objs.size:=λb hb=>by
   rcases ar.mp hb with z|z
   .subst z;exact Hz h1
   .have z':b=it:=by simpa using z
    subst z';obtain⟨o,e2,_⟩:=h2;exact Hz e2
  refine wpAny_pyNext_enum_item h1 h2 p.isList (x:=u) (by simpa using hu) hne λh' o1 o2 o3 o4 o5=>⟨_,rfl,?_⟩
  refine wpAny_letOwnedTupleGo_enum (s:={s with heap:=h',toks:=s.toks+1}) o1 λh'' q1 q2=>?_;have pe:s.heap.objs.size≠e:=aQ (lt e (by simp))
  have ie:it≠e:=bh hne;obtain⟨J1,J2,J3⟩:=ZhS (h':=h'') (t':=s.toks+1) (ch:=[e,it]) (vs:=[.int i,x]) (us:=[.int i s.toks,u]) I hf lt (.cons ⟨_,rfl⟩ (.cons ru .nil)) (by show 2<=sizeLine;decide)
   (λb o hb z=>by
    have n1:b≠e:=λy=>hb (by simp[y])
    have n2:b≠it:=λy=>hb (by simp[y])
    exact(q2.2 b n1).trans (o5 b o n1 n2 z)) ((q2.2 _ pe).trans o3)
  refine⟨.ref s.heap.objs.size,_,J1,rfl,⟨_,J2,rfl,λys y hy hy2=>?_⟩,⟨⟨u,by simpa using q1⟩,o2.at λo z=>(q2.2 it ie).trans z⟩,J3⟩
  rw[I.list_inj hy hq,hx]at hy2;cases hy2;rfl
 done:=by
  intro X hP hw hK hA i pins s σ H E I hf st hg;subst hP hw hK hA;obtain⟨⟨old,h1⟩,h2⟩:=st;obtain⟨xs,hq,hx⟩:=hg;obtain⟨its,rv,p,hz⟩:=I.list hq;obtain⟨f0,f1,f2,f3,f4,f5⟩:=hf it (by simp)
  refine wpAny_pyNext_enum_end hB h1 h2 p.isList (by simp only[dK];exact aL (by rw[<-rv.length];exact hx)) λh' ext=>⟨rfl,?_⟩
  exact I.turned (t':=s.toks) (it:=it) (λb o hb z=>ext b o hb z) f0 f1 f3 f4 f5
 self:=λA i s Q E st q=>by
  obtain⟨⟨old,h1⟩,_⟩:=st;have hT:s.TypeIs (.ref e) "enumerate":=⟨_,h1,rfl⟩;refine jl hT F.slot_enumerate_iter (b7 F.slot_enumerate_iter hT F.entry_enumerate_iter ?_ (F.args_enumerate_iter_1 _));show wpAny _ _ (ret (.ref e)) _ _ s;exact Wp ⟨_,rfl,"enumerate",_,hT,F.slot_enumerate_next.lookup,q⟩
theorem Zdz{K:Fg}(hB:B.handled=none){TI TO:Addr}(D:ZipApart z TI TO i1 i2 a b):Turn P w K B (.Tuple elts k0 tp) (Itz K a b) [z,TI,TO,i1,i2] z (λi h=>ia h z TI TO .none/\IsPair h TI (.ref i1) (.ref i2)/\(∃x y,IsPair h TO x y)/\h.IsListIter i1 a i/\h.IsListIter i2 b i) where
 mem:=by simp
 obj:=λi h st c hc=>by
  obtain⟨h1,h2,⟨x,y,h3⟩,⟨o4,e4,c4,d4⟩,⟨o5,e5,c5,d5⟩⟩:=st;simp only[ar,bD,or_false]at hc;rcases hc with rfl|rfl|rfl|rfl|rfl
  .exact⟨_,h1,λv q=>by cases q⟩
  .exact⟨_,h2,λv q=>by cases q⟩
  .exact⟨_,h3,λv q=>by cases q⟩
  .exact⟨o4,e4,λv q=>by rw[d4]at q;cases q⟩
  .exact⟨o5,e5,λv q=>by rw[d5]at q;cases q⟩
 keep:=λi h h' st k=>by
  obtain⟨h1,h2,⟨x,y,h3⟩,h4,h5⟩:=st;exact⟨k z (by simp) _ h1,k TI (by simp) _ h2,⟨x,y,k TO (by simp) _ h3⟩,h4.at λo q=>k i1 (by simp) o q,h5.at λo q=>k i2 (by simp) o q⟩
 item:=by
  intro X hP hw hK hA i pins s σ H E I hf st hg;subst hP hw hK hA;obtain⟨h1,h2,⟨x0,y0,h3⟩,h4,h5⟩:=st;obtain⟨xs,ys,x,y,hq,hq2,hx,hy⟩:=hg;obtain⟨its,rv,p,hz⟩:=I.list hq;obtain⟨its2,rv2,p2,hz2⟩:=I.list hq2;obtain⟨u,hu,ru⟩:=rv.get hx;obtain⟨u2,hu2,ru2⟩:=rv2.get hy;have lt:∀c∈[z,TI,TO,i1,i2],c<s.heap.objs.size:=λc hc=>by
   simp only[ar,bD,or_false]at hc;rcases hc with rfl|rfl|rfl|rfl|rfl
   .exact Hz h1
   .exact Hz h2
   .exact Hz h3
   .obtain⟨o,e2,_⟩:=h4;exact Hz e2
   .obtain⟨o,e2,_⟩:=h5;exact Hz e2
  refine wpAny_pyNext_zip_item D h1 h2 h3 h4 h5 p.isList p2.isList (x:=u) (y:=u2) (by simpa using hu) (by simpa using hu2) λh' o1 o2 o3 o4 o5 o6 o7=>⟨_,rfl,?_⟩
  refine jf (s:={s with heap:=h'}) o1 λh'' q1 q2=>?_;have pe:s.heap.objs.size≠z:=aQ (lt z (by simp))
  obtain⟨J1,J2,J3⟩:=ZhS (h':=h'') (t':=s.toks) (ch:=[z,TI,TO,i1,i2]) (vs:=[x,y]) (us:=[u,u2]) I hf lt (.cons ru (.cons ru2 .nil)) (by show 2<=sizeLine;decide)
   (λc o hc q=>by
    simp only[ar,bD,or_false,not_or]at hc;exact(q2.2 c hc.1).trans (o7 c o hc.1 hc.2.2.1 hc.2.2.2.1 hc.2.2.2.2 q)) ((q2.2 _ pe).trans o5)
  refine⟨.ref s.heap.objs.size,_,J1,rfl,⟨_,J2,rfl,λxs' ys' x' y' hx1 hy1 hx2 hy2=>?_⟩,⟨q1,(q2.2 TI D.TIz).trans (o7 TI _ D.TIz D.TITO D.TIi1 D.TIi2 h2),⟨u,u2,(q2.2 TO D.TOz).trans o2⟩,o3.at λo q=>(q2.2 i1 D.i1z).trans q,o4.at λo q=>(q2.2 i2 D.i2z).trans q⟩,J3⟩;rw[I.list_inj hx1 hq,hx]at hx2;rw[I.list_inj hy1 hq2,hy]at hy2;cases hx2;cases hy2;rfl
 done:=by
  intro X hP hw hK hA i pins s σ H E I hf st hg;subst hP hw hK hA;obtain⟨h1,h2,⟨x0,y0,h3⟩,h4,h5⟩:=st;obtain⟨xs,ys,hq,hq2,hx⟩:=hg;obtain⟨its,rv,p,hz⟩:=I.list hq;obtain⟨its2,rv2,p2,hz2⟩:=I.list hq2;have he:its.toArray[i]?=none\/its2.toArray[i]?=none:=by
   rcases hx with hx|hx
   .exact .inl (by simp only[dK];exact aL (by rw[<-rv.length];exact hx))
   .exact .inr (by simp only[dK];exact aL (by rw[<-rv2.length];exact hx))
  refine wpAny_pyNext_zip_end hB D h1 h2 h3 h4 h5 p.isList p2.isList he λh' keep=>⟨rfl,?_⟩;refine Ze9 (t':=s.toks) (ch:=[z,TI,TO,i1,i2]) I (λc o hc q=>?_) hf;simp only[ar,bD,or_false,not_or]at hc;exact keep c o hc.1 hc.2.2.1 hc.2.2.2.1 hc.2.2.2.2 q
 self:=λA i s Q E st q=>wpAny_pyIter_zip st.1 q
theorem ZhU{n:Nat}(h1:a<n)(h2:b<n):ZipApart (n+4) (n+2) (n+3) n (n+1) a b:=⟨az ⋯,az ⋯,az ⋯,az ⋯,az ⋯,aQ ⋯,aQ ⋯,aQ ⋯,aQ ⋯,az ⋯,az ⋯,az ⋯,az ⋯,az ⋯,az ⋯,az ⋯,az ⋯,az ⋯⟩
theorem Zlr:bN "zip"=some (.type "zip"):=by decide +kernel
theorem Zep:bN "enumerate"=some (.type "enumerate"):=by decide +kernel
def Zsx(K:Fg)(t:TA):TI:=λσ H R=>t σ H λvs H1=>∃l xs,vs=[.ref l]/\SqL K H1 l xs/\R (Ite K l) H1
def Zsy(K:Fg)(t:TA):TI:=λσ H R=>t σ H λvs H1=>∃l l2 xs ys,vs=[.ref l,.ref l2]/\SqL K H1 l xs/\SqL K H1 l2 ys/\R (Itz K l l2) H1
theorem ZmK(hc:X.A.handled=none)(hg:Gl X "enumerate")(hm:X.mg "enumerate"=none)(ha:PA X [a] ta)(hs:autoParam (aA [a] X.env=(false,eval a X.env)::aA [] X.env) Qrf._auto_1)(hpl:autoParam ((cR pos (aA [] X.env)).any (·.1)=false) Qrf._auto_1):
  PI X (.Tuple elts k0 tp) (.Call (.Name "enumerate" p) [a] [] pos) (Zsx X.K ta):=by
 intro pins s σ H R I h;refine wpAny_Call_Name_kw (Zbs I hg hm Zep (bY (thn (ha pos pins s σ H _ I h) λus s1 hz=>?_) hs hpl) (by decide) (by decide))
 obtain⟨vs,H1,I1,r1,q1⟩:=hz;obtain⟨l,xs,rfl,hq,q⟩:=q1;obtain⟨u,rfl,ru⟩:=Zck r1;cases ru;obtain⟨its,rv,pl,hz⟩:=I1.list hq;refine call_enumerate_list pl.isList λh' e1 e2 e3 e4=>?_;have T:=ZhT (P:=X.prog) (w:=X.w) (K:=X.K) (B:=X.A) (elts:=elts) (k0:=k0) (tp:=tp) hc l (s1.heap.objs.size+1) s1.heap.objs.size (aQ (dF _));have I2:Inv X pins σ H1 {s1 with heap:=h',toks:=s1.toks}:=I1.kept (t':=s1.toks) e4;refine T.self X.A 0 {s1 with heap:=h'} _ _ ⟨⟨_,e1⟩,e2⟩ ⟨_,_,_,_,H1,rfl,I2,T,⟨⟨_,e1⟩,e2⟩,λb hb=>?_,q⟩;have hb':s1.heap.objs.size<=b:=by
  simp only[ar,bD,or_false]at hb;rcases hb with rfl|rfl<;>lia
 exact I1.fpOk hb' (I1.hok.fresh hb')
theorem ZhV(hc:X.A.handled=none)(hg:Gl X "zip")(hm:X.mg "zip"=none)(ha:PA X [a,b] ta)(hs:autoParam (aA [a,b] X.env=(false,eval a X.env)::aA [b] X.env) Qrf._auto_1)(hpl:autoParam ((cR pos (aA [b] X.env)).any (·.1)=false) Qrf._auto_1):
  PI X (.Tuple elts k0 tp) (.Call (.Name "zip" p) [a,b] [] pos) (Zsy X.K ta):=by
 intro pins s σ H R I h;refine wpAny_Call_Name_kw (Zbs I hg hm Zlr (bY (thn (ha pos pins s σ H _ I h) λus s1 hz=>?_) hs hpl) (by decide) (by decide))
 obtain⟨vs,H1,I1,r1,q1⟩:=hz;obtain⟨l,l2,xs,ys,rfl,hq,hq2,q⟩:=q1;obtain⟨u,u2,rfl,ru,ru2⟩:=ZjY r1;cases ru;cases ru2;obtain⟨its,rv,pl,hz⟩:=I1.list hq;obtain⟨its2,rv2,pl2,hz2⟩:=I1.list hq2;have lt1:l<s1.heap.objs.size:=by obtain⟨_,e,_⟩:=pl.isList;exact Hz e
 have lt2:l2<s1.heap.objs.size:=by obtain⟨_,e,_⟩:=pl2.isList;exact Hz e
 refine call_zip_2 pl.isList pl2.isList λh' e1 e2 e3 e4 e5 e6 e7=>?_;have D:=ZhU lt1 lt2;have T:=Zdz (P:=X.prog) (w:=X.w) (K:=X.K) (B:=X.A) (elts:=elts) (k0:=k0) (tp:=tp) hc D;have I2:Inv X pins σ H1 {s1 with heap:=h',toks:=s1.toks}:=I1.kept (t':=s1.toks) e7;refine T.self X.A 0 {s1 with heap:=h'} _ _ ⟨e1,e2,⟨_,_,e3⟩,e4,e5⟩ ⟨_,_,_,_,H1,rfl,I2,T,⟨e1,e2,⟨_,_,e3⟩,e4,e5⟩,λc hc=>?_,q⟩;have hb':s1.heap.objs.size<=c:=by
  simp only[ar,bD,or_false]at hc;rcases hc with rfl|rfl|rfl|rfl|rfl<;>lia
 exact I1.fpOk hb' (I1.hok.fresh hb')
def iEn(fs:Av):Ro->Sto->Out Src:=λρ M=>(fs ρ M).bind λds M1=>match ds with|[.ref n]=>.ok (.enu n) M1|_=>.bad
def iZp(fs:Av):Ro->Sto->Out Src:=λρ M=>(fs ρ M).bind λds M1=>match ds with|[.ref n,.ref m]=>.ok (.zip n m) M1|_=>.bad
theorem ZmL(hc:X.A.handled=none)(hm:X.mg "enumerate"=none)(ha:DA X ξ [a] fs)(hg:autoParam (Gl X "enumerate") Qrf._auto_1)(hs:autoParam (aA [a] X.env=(false,eval a X.env)::aA [] X.env) Qrf._auto_1)(hpl:autoParam ((cR pos (aA [] X.env)).any (·.1)=false) Qrf._auto_1):
  DI X ξ (.Tuple elts k0 tp) (.Call (.Name "enumerate" p) [a] [] pos) (iEn fs):=by
 obtain⟨ta,pa,qa⟩:=ha;refine⟨_,ZmK hc hg hm pa hs hpl,λσ ρ H α M R s hh q=>qa σ ρ H α M _ s hh (OG.seq q λds M1 vs H1 α1 e1 h1 r1 w1=>?_)⟩;cases r1 with
 |nil=>exact w1.elim
 |cons r tz=>
  cases tz with
  |cons _ _=>cases r<;>exact w1.elim
  |nil=>
   cases r with
   |@ref l n hp=>
    obtain⟨xs0,g0⟩:=h1.some_at hp;refine⟨l,xs0,rfl,SqL.of g0,w1 _ H1 α1 Ext.refl h1 λi H' α' M' ex hr=>?_⟩;cases em:M'[n]? with
    |none=>rw[show nxt (.enu n) i M'=none by simp only[nxt,em]];exact c9
    |some so=>
     cases so with
     |lst es=>
      obtain⟨xs,g1,g2⟩:=hr.at (ex.get hp) em;cases ei:es[i]? with
      |none=>rw[show nxt (.enu n) i M'=some none by simp only[nxt,em,ei]];exact⟨xs,SqL.of g1,by rw[g2.length];exact bw.mp ei⟩
      |some d=>
       obtain⟨v,k1,k2⟩:=g2.get ei;rw[show nxt (.enu n) i M'=some (some (D.tup [D.int i,d]))by simp only[nxt,em,ei]]
       refine⟨⟨xs,v,SqL.of g1,k1⟩,λx H'' y=>?_⟩;obtain⟨pp,y1,rfl,y3⟩:=y;have y4:=y3 xs v (SqL.of g1) k1;subst y4;exact⟨Ext.new0 y1,hr.tup y1,.tup Zx (.cons (.int i) (.cons (Rep.mono (Ext.new0 y1) k2) .nil))⟩
   |_=>exact w1.elim
theorem ZcI(hc:X.A.handled=none)(hm:X.mg "zip"=none)(ha:DA X ξ [a,b] fs)(hg:autoParam (Gl X "zip") Qrf._auto_1)(hs:autoParam (aA [a,b] X.env=(false,eval a X.env)::aA [b] X.env) Qrf._auto_1)(hpl:autoParam ((cR pos (aA [b] X.env)).any (·.1)=false) Qrf._auto_1):
  DI X ξ (.Tuple elts k0 tp) (.Call (.Name "zip" p) [a,b] [] pos) (iZp fs):=by
 obtain⟨ta,pa,qa⟩:=ha;refine⟨_,ZhV hc hg hm pa hs hpl,λσ ρ H α M R s hh q=>qa σ ρ H α M _ s hh (OG.seq q λds M1 vs H1 α1 e1 h1 r1 w1=>?_)⟩
 split at w1
 .rename_i n m;cases r1 with
  |cons r t=>
   cases t with
   |cons r' t=>
    cases t;cases r with
    |ref hp=>
    cases r' with
    |ref hp2=>
    rename_i l l2;obtain⟨xs0,g0⟩:=h1.some_at hp;obtain⟨ys0,g0'⟩:=h1.some_at hp2;refine⟨l,l2,xs0,ys0,rfl,SqL.of g0,SqL.of g0',w1 _ H1 α1 Ext.refl h1 λi H' α' M' ex hr=>?_⟩;cases em:M'[n]? with
    |none=>rw[show nxt (.zip n m) i M'=none by simp only[nxt,em]];exact c9
    |some so=>
     cases em2:M'[m]? with
     |none=>cases so;rw[show nxt (.zip n m) i M'=none by simp only[nxt,em,em2]];exact c9
     |some so2=>
      cases so with
      |lst es=>
       cases so2 with
       |lst es2=>
        obtain⟨xs,g1,g2⟩:=hr.at (ex.get hp) em;obtain⟨ys,g3,g4⟩:=hr.at (ex.get hp2) em2;cases ei:es[i]? with
        |none=>rw[show nxt (.zip n m) i M'=some none by simp only[nxt,em,em2,ei]];exact⟨xs,ys,SqL.of g1,SqL.of g3,.inl (by rw[g2.length];exact bw.mp ei)⟩
        |some d=>
         cases ej:es2[i]? with
         |none=>rw[show nxt (.zip n m) i M'=some none by simp only[nxt,em,em2,ei,ej]];exact⟨xs,ys,SqL.of g1,SqL.of g3,.inr (by rw[g4.length];exact bw.mp ej)⟩
         |some d2=>
          obtain⟨v,k1,k2⟩:=g2.get ei;obtain⟨v2,k3,k4⟩:=g4.get ej;rw[show nxt (.zip n m) i M'=some (some (D.tup [d,d2]))by simp only[nxt,em,em2,ei,ej]]
          refine⟨⟨xs,ys,v,v2,SqL.of g1,SqL.of g3,k1,k3⟩,λx H'' y=>?_⟩;obtain⟨pp,y1,rfl,y3⟩:=y;have y4:=y3 xs ys v v2 (SqL.of g1) (SqL.of g3) k1 k3;subst y4;exact⟨Ext.new0 y1,hr.tup y1,.tup Zx (.cons (Rep.mono (Ext.new0 y1) k2) (.cons (Rep.mono (Ext.new0 y1) k4) .nil))⟩
 .exact w1.elim
end DL
namespace DL
open PyProof.Rows L2
open PySem.SeqAt (EqAt RcAt RcNeAt)
inductive Ks(X:Cx) (H:Hp) (α:List Addr):Kd->Kd->Prop where
 |non:Ks X H α .non .non
 |bl (b:Bool):Ks X H α (.bl b) (.bl b)
 |int (i:Int):Ks X H α (.int i) (.int i)
 |str (x:Str):Ks X H α (.str x) (.str x)
 |tup {vs:List V} {ds es:List D}:Reps X.K H α vs ds->Reps X.K H α vs es->Ks X H α (.tup ds) (.tup es)
 |lst {vs:List V} {ds es:List D}:Reps X.K H α vs ds->Reps X.K H α vs es->Ks X H α (.lst ds) (.lst es)
section
variable {X:Cx}{pins:Pn}{σ:L2.St}{H:Hp}{s:aH}{α:List Addr}{M:Sto}
theorem Zpr(h:HR X.K H α M){x:D}(r:Rep X.K H α v x)(e:kd M x=some k):(match k with|.tup ds=>∃p vs,v=.ref p/\SqT X.K H p vs/\Reps X.K H α vs ds|.lst ds=>∃p vs,v=.ref p/\SqL X.K H p vs/\Reps X.K H α vs ds|.non=>v=.non|.bl b=>v=.bl b|.int i=>v=.int i|.str x=>v=.str x):=by
 cases r with
 |non=>cases e;rfl
 |bl b=>cases e;rfl
 |int i=>cases e;rfl
 |str x=>cases e;rfl
 |du _=>cases e
 |@tup p xs ds hp rp=>cases e;exact⟨p,xs,rfl,(SqT.of hp),rp⟩
 |@rol p xs ds hp rp=>cases e;exact⟨p,xs,rfl,hp.sq,rp⟩
 |@ref p n hp=>
  cases e1:M[n]? with
  |none=>simp only[kd,e1]at e;cases e
  |some o=>
   cases o with
   |lst ds=>
    simp only[kd,e1]at e;cases e;obtain⟨xs,g1,r1⟩:=h.at hp e1;exact⟨p,xs,rfl,SqL.of g1,r1⟩
theorem ZhW(I:Inv X pins σ H s)(h:HR X.K H α M)(rx:Rep X.K H α v x)(ry:Rep X.K H α v y)(ex:kd M x=some k)(ey:kd M y=some l):Ks X H α k l:=by
 have a:=Zpr h rx ex;have b:=Zpr h ry ey;have nl:∀{p:Addr}{xs ys:List V},SqT X.K H p xs->SqL X.K H p ys->False:=λ{p xs ys} a c=>by
  obtain⟨i1,_,⟨o1,g1,c1,_⟩,_⟩:=I.tuple a;obtain⟨i2,_,⟨o2,_,g2,c2,_⟩,_⟩:=I.list c;rw[g1]at g2;cases g2;rw[c1]at c2;exact absurd c2 (by decide)
 cases k with
 |non=>cases a;cases l<;>first|(cases b;done)|exact .non|(obtain⟨_,_,q,_⟩:=b;cases q)
 |bl c=>cases a;cases l<;>first|(cases b;done)|(cases b;exact .bl c)|(obtain⟨_,_,q,_⟩:=b;cases q)
 |int c=>cases a;cases l<;>first|(cases b;done)|(cases b;exact .int c)|(obtain⟨_,_,q,_⟩:=b;cases q)
 |str c=>cases a;cases l<;>first|(cases b;done)|(cases b;exact .str c)|(obtain⟨_,_,q,_⟩:=b;cases q)
 |tup ds=>
  obtain⟨p,vs,rfl,q1,q2⟩:=a;cases l with
  |tup es=>
   obtain⟨p2,vs2,e2,q3,q4⟩:=b;cases e2;cases I.tuple_inj q1 q3;exact .tup q2 q4
  |lst es=>
   obtain⟨p2,vs2,e2,q3,q4⟩:=b;cases e2;exact(nl q1 q3).elim
  |_=>cases b
 |lst ds=>
  obtain⟨p,vs,rfl,q1,q2⟩:=a;cases l with
  |lst es=>
   obtain⟨p2,vs2,e2,q3,q4⟩:=b;cases e2;cases I.list_inj q1 q3;exact .lst q2 q4
  |tup es=>
   obtain⟨p2,vs2,e2,q3,q4⟩:=b;cases e2;exact(nl q3 q1).elim
  |_=>cases b
theorem Zls(I:Inv X pins σ H s)(h:HR X.K H α M):∀(n:Nat){v w:V}{x x' y y':D}{b b':Bool},Rep X.K H α v x->Rep X.K H α v x'->Rep X.K H α w y->Rep X.K H α w y'->eqF n M x y=some b->eqF n M x' y'=some b'->b=b':=by
 intro n
 induction n with
 |zero=>intro v w x x' y y' b b' _ _ _ _ e;simp only[eqF]at e;cases e
 |succ n ih=>
  have lists:∀(vs ws:List V)(xs xs' ys ys':List D)(b b':Bool),Reps X.K H α vs xs->Reps X.K H α vs xs'->Reps X.K H α ws ys->Reps X.K H α ws ys'->eqL (eqF n M) xs ys=some b->eqL (eqF n M) xs' ys'=some b'->b=b':=by
   intro vs
   induction vs with
   |nil=>
    intro ws xs xs' ys ys' b b' r1 r2 r3 r4 e e';cases r1;cases r2;cases r3 with
    |nil=>cases r4;simp only[eqL,aw]at e e';rw[<-e,<-e']
    |cons _ _=>cases r4;simp only[eqL,aw]at e e';rw[<-e,<-e']
   |cons v vs iv=>
    intro ws xs xs' ys ys' b b' r1 r2 r3 r4 e e';cases r1 with
    |cons p1 t1=>
     cases r2 with
     |cons p2 t2=>
      cases r3 with
      |nil=>cases r4;simp only[eqL,aw]at e e';rw[<-e,<-e']
      |cons p3 t3=>
       cases r4 with
       |cons p4 t4=>
        rename_i d1 ds1 d2 ds2 w d3 ws ds3 d4 ds4;cases a1:eqF n M d1 d3 with
        |none=>simp only[eqL,a1]at e;cases e
        |some a=>
         cases a2:eqF n M d2 d4 with
         |none=>simp only[eqL,a2]at e';cases e'
         |some a'=>
          cases c1:eqL (eqF n M) ds1 ds3 with
          |none=>simp only[eqL,a1,c1]at e;cases e
          |some c=>
           cases c2:eqL (eqF n M) ds2 ds4 with
           |none=>simp only[eqL,a2,c2]at e';cases e'
           |some c'=>
            simp only[eqL,a1,c1,aw]at e;simp only[eqL,a2,c2,aw]at e';rw[<-e,<-e',ih p1 p2 p3 p4 a1 a2,iv _ _ _ _ _ _ _ t1 t2 t3 t4 c1 c2]
  intro v w x x' y y' b b' rx rx' ry ry' e e';unfold eqF at e e';cases k1:kd M x with
  |none=>rw[k1]at e;cases e
  |some ka=>
   cases k2:kd M y with
   |none=>rw[k1,k2]at e;cases e
   |some kb=>
    cases k3:kd M x' with
    |none=>rw[k3]at e';cases e'
    |some ka'=>
     cases k4:kd M y' with
     |none=>rw[k3,k4]at e';cases e'
     |some kb'=>
      rw[k1,k2]at e;rw[k3,k4]at e';have s1:=ZhW I h rx rx' k1 k3;have s2:=ZhW I h ry ry' k2 k4;cases s1 with
      |tup a1 a2=>
       cases s2 with
       |tup b1 b2=>simp only[eqK]at e e';exact lists _ _ _ _ _ _ _ _ a1 a2 b1 b2 e e'
       |_=>simp only[eqK,aw]at e e';rw[<-e,<-e']
      |lst a1 a2=>
       cases s2 with
       |lst b1 b2=>
        simp only[eqK]at e e';rw[<-a1.length,<-b1.length]at e;rw[<-a2.length,<-b2.length]at e'
        split at e
        .rename_i c;rw[if_pos c]at e';exact lists _ _ _ _ _ _ _ _ a1 a2 b1 b2 e e'
        .rename_i c;rw[if_neg c]at e';cases e;cases e';rfl
       |_=>simp only[eqK,aw]at e e';rw[<-e,<-e']
      |_=>cases s2<;>(simp only[eqK,aw]at e e';rw[<-e,<-e'])
def eqs(M:Sto)(d:D):List D->Option (List Bool)
 |[]=>some []
 |x::r=>match eqF 12 M x d with|some b=>(match eqs M d r with|some bs=>some (b::bs)|none=>none)|none=>none
theorem ZhX:∀{M:Sto}{d:D}{xs:List D}{bs:List Bool},eqs M d xs=some bs->bs.length=xs.length
 |_,_,[],_,e=>by cases e;rfl
 |M,d,x::r,bs,e=>by
  cases e1:eqF 12 M x d with
  |none=>simp only[eqs,e1]at e;cases e
  |some b=>
   cases e2:eqs M d r with
   |none=>simp only[eqs,e1,e2]at e;cases e
   |some cs=>simp only[eqs,e1,e2,aw]at e;subst e;rw[bS,bS,ZhX e2]
theorem ZhY:∀{M:Sto}{d:D}{xs:List D}{bs:List Bool}{i:Nat}{x:D},eqs M d xs=some bs->xs[i]?=some x->∃b,bs[i]?=some b/\eqF 12 M x d=some b
 |_,_,[],_,i,x,e,hx=>by simp at hx
 |M,d,y::r,bs,i,x,e,hx=>by
  cases e1:eqF 12 M y d with
  |none=>simp only[eqs,e1]at e;cases e
  |some b=>
   cases e2:eqs M d r with
   |none=>simp only[eqs,e1,e2]at e;cases e
   |some cs=>
    simp only[eqs,e1,e2,aw]at e;subst e;cases i with
    |zero=>simp at hx;subst hx;exact⟨b,rfl,e1⟩
    |succ i=>simp at hx;obtain⟨b',q1,q2⟩:=ZhY e2 hx;exact⟨b',by simpa using q1,q2⟩
open Classical in
theorem ZhZ{A:cZ}(hu:A.units+64<iO)(I:Inv X pins σ H s)(h:HR X.K H α M)(rv:ZU vs us)(rp:Reps X.K H α vs ds)(ru:ZT v u)(rd:Rep X.K H α v d)(e:eqs M d ds=some bs):∃f:aa->Bool,(∀y,y∈us.toArray->EqAt A.in1 s y u (f y))/\us.map f=bs:=by
 have ll:us.length=ds.length:=by rw[<-rv.length,rp.length]
 have at_:∀(i:Nat) y,us[i]?=some y->∃w x b,ZT w y/\Rep X.K H α w x/\bs[i]?=some b/\eqF 12 M x d=some b:=λi y hy=>by
  have hi:i<ds.length:=by rw[<-ll];exact(au.mp hy).1
  obtain⟨w,a1,a2⟩:=rp.get (Gq hi);obtain⟨y',a3,a4⟩:=rv.get a1;rw[hy]at a3;cases a3;obtain⟨b,a5,a6⟩:=ZhY e (Gq hi);exact⟨w,_,b,a4,a2,a5,a6⟩
 refine⟨λy=>decide (∃w x,ZT w y/\Rep X.K H α w x/\eqF 12 M x d=some true),λy hy=>?_,?_⟩
 .obtain⟨i,hi,ey⟩:=cH (by simpa using hy)
  obtain⟨w,x,b,q1,q2,q3,q4⟩:=at_ i y (by rw[av hi,ey])
  have hb:decide (∃w x,ZT w y/\Rep X.K H α w x/\eqF 12 M x d=some true)=b:=by
   cases b with
   |true=>exact decide_eq_true ⟨w,x,q1,q2,q4⟩
   |false=>
    refine decide_eq_false λhz=>?_;obtain⟨w',x',z1,z2,z3⟩:=hz;cases ZT.inj z1 q1
    have:=Zls I h 12 z2 q2 rd rd z3 q4
    cases this
  show EqAt A.in1 s y u (decide (∃w x,ZT w y/\Rep X.K H α w x/\eqF 12 M x d=some true));rw[hb];exact(eq3 I h 12 x d w v y u b A.in1 (by rw[cZ.in1_units];lia) q4 q2 rd q1 ru).1
 .apply d7;intro i;rw[bC];cases hy:us[i]? with
  |none=>
   have:bs[i]?=none:=aL (by rw[ZhX e,<-ll];exact bw.mp hy)
   rw[this];rfl
  |some y=>
   obtain⟨w,x,b,q1,q2,q3,q4⟩:=at_ i y hy;rw[q3];show some _=some b;congr 1;cases b with
   |true=>exact decide_eq_true ⟨w,x,q1,q2,q4⟩
   |false=>
    refine decide_eq_false λhz=>?_;obtain⟨w',x',z1,z2,z3⟩:=hz;cases ZT.inj z1 q1
    have:=Zls I h 12 z2 q2 rd rd z3 q4
    cases this
end
def ZuC(X:Cx)(neg:Bool):R2:=λv w H Q=>∃α M d x ds bs p vs,HR X.K H α M/\Rep X.K H α v d/\w=.ref p/\(SqL X.K H p vs\/SqT X.K H p vs)/\Reps X.K H α vs ds/\Zee M x=some ds/\eqs M d ds=some bs/\Q (.bl (neg ^^ bs.any id)) H
theorem any_map{us:List aa}(e:us.map f=bs):us.toArray.any f=bs.any id:=by
 rw[<-e,List.any_toArray,List.any_map];rfl
theorem Zh0(hu:X.A.units+64<iO):OpR X (dE .NotIn) (ZuC X true):=by
 intro pins s σ H v w u z Q I rv rw' hh;obtain⟨α,M,d,x,ds,bs,p,vs,h,rd,e1,hq,rp,_,e,q⟩:=hh;subst e1;cases rw';rcases hq with hq|hq
 .obtain⟨its,r,pl,hz⟩:=I.list hq;obtain⟨f,f1,f2⟩:=ZhZ (A:=X.A) hu I h r rp rv rd e;refine SeqAt.notIn_listAt f pl.isList f1 ⟨.bl _,H,I,rfl,?_⟩;rw[any_map f2]
  simpa using q
 .obtain⟨its,r,pl,hz⟩:=I.tuple hq;obtain⟨f,f1,f2⟩:=ZhZ (A:=X.A) hu I h r rp rv rd e;refine SeqAt.notIn_tupleAt f pl f1 ⟨.bl _,H,I,rfl,?_⟩;rw[any_map f2]
  simpa using q
def inE(x y:D)(M:Sto):Option Bool:=match Zee M y with|some ds=>(match eqs M x ds with|some bs=>some (bs.any id)|none=>none)|none=>none
def dNotInE:Bo:=λx y M=>match inE x y M with|some b=>.ok (.bl (!b)) M|none=>.bad
theorem Zh1:BO X ξ (ZuC X true) dNotInE:=by
 intro H α M v w x y Q h rv rw' q;unfold dNotInE inE at q;cases e1:Zee M y with
 |none=>simp only[e1]at q;exact q.elim
 |some ds=>
  cases e2:eqs M x ds with
  |none=>simp only[e1,e2]at q;exact q.elim
  |some bs=>
   simp only[e1,e2]at q;obtain⟨p,vs,k1,k2,k3⟩:=Ze5 h rw' e1;exact⟨α,M,x,y,ds,bs,p,vs,h,rv,k1,k2,k3,e1,e2,by simpa using q _ H α Ext.refl h (.bl _)⟩
def ZwN:Me:=λx ds M=>match x,ds with
 |.ref n,[d]=>(match M[n]? with|some (.lst xs)=>(match eqs M d xs with|some bs=>(match bs.findIdx? id with|some j=>.ok (.int (j:Nat)) M|none=>.bad)|none=>.bad)|none=>.bad)
 |_,_=>.bad
noncomputable def ZaC:List D->Option (List Int)
 |[]=>some []
 |.int b::r=>match ZaC r with|some bs=>some (b::bs)|none=>none
 |_::_=>none
theorem Zf2{K:Fg}(h:Reps K H α vs ds)(e:ZaC ds=some bs):vs=bs.map V.int:=by
 induction ds generalizing vs bs with
 |nil=>cases h;cases e;rfl
 |cons d ds ih=>
  cases h with
  |cons r t=>
   cases r with
   |int b=>
    cases e1:ZaC ds with
    |none=>simp only[ZaC,e1]at e;cases e
    |some cs=>
     simp only[ZaC,e1,aw]at e;subst e;rw[ih t e1];rfl
   |_=>cases e
def Zeq(X:Cx)(g:List Int->Option V):List V->Hp->VK->Prop:=λvs H Q=>∃(p:Addr) (ns:List Int) (v:V),vs=[.ref p]/\SqL X.K H p (ns.map V.int)/\g ns=some v/\Q v H
theorem Zbo:∀{ns:List Int}{us:List aa}{i:Nat}{u:aa},ZU (ns.map V.int) us->us[i]?=some u->∃t,u=.int (ns.getD i 0) t
 |[],us,i,u,h,e=>by cases h;simp at e
 |b::r,us,i,u,h,e=>by
  cases h with
  |cons h1 h2=>
   cases i with
   |zero=>simp at e;subst e;exact h1
   |succ i=>simp at e;obtain⟨t,g⟩:=Zbo h2 e;exact⟨t,by simpa using g⟩
theorem ZcJ(hc:X.calm=true){ns:List Int}(I:Inv X pins σ H s)(hl:SqL X.K H p (ns.map V.int))(q:∀(its:List aa)(it:Addr),ZU (ns.map V.int) its->its.length=ns.length->it=s.heap.objs.size->Walks X.prog X.w X.A.in1 it [it,p] [it] its.toArray.size (λi v=>its.toArray[i]?=some v) (λi h=>h.IsListIter it p i/\h.IsList p its.toArray)->(∀b∈[it,p],b<(s.heap.push {cls:=.type "list_iterator",data:=.fields #[.ref p,.int 0 0]}).objs.size)->((s.heap.push {cls:=.type "list_iterator",data:=.fields #[.ref p,.int 0 0]}).IsListIter it p 0/\(s.heap.push {cls:=.type "list_iterator",data:=.fields #[.ref p,.int 0 0]}).IsList p its.toArray)->(∀h' tk,(∀b o,b∉[it]->(s.heap.push {cls:=.type "list_iterator",data:=.fields #[.ref p,.int 0 0]}).get? b=some o->h'.get? b=some o)->Inv X pins σ H {s with heap:=h',toks:=tk})->Q (.ref it) {s with heap:=s.heap.push {cls:=.type "list_iterator",data:=.fields #[.ref p,.int 0 0]}}):wpAny (aE X.prog X.w) X.A.in1 (pyIter (.ref p)) Q E s:=by
 obtain⟨its,hv,hp,hz⟩:=I.list hl;have hlt:p<s.heap.objs.size:=by obtain⟨_,e,_⟩:=hp.isList;exact Hz e
 refine gH hp.isList ?_;refine q its s.heap.objs.size hv (by rw[<-hv.length,af]) rfl (Walks.list (A:=X.A.in1) (I.ok.hd hc) _ p (az hlt) its.toArray) (λb hb=>?_) ⟨⟨_,aF _ rfl,rfl,rfl⟩,hp.isList.push _⟩ λh' tk hk=>?_
 .rw[cC];simp only[ar,bD,or_false]at hb;rcases hb with rfl|rfl
  .exact dF _
  .exact gI hlt
 .exact I.kept λb o e=>hk b o (λhm=>by rw[da.mp hm]at e;exact b9 _ (Hz e)) (Hq _ e)
theorem ZcK(ns:List Int):∀j,iq (λi=>ns.getD i 0) j=(ns.take j).sum
 |0=>rfl
 |j+1=>by
  show iq (λi=>ns.getD i 0) j+ns.getD j 0=_;rw[ZcK ns j];by_cases h:j<ns.length
  .rw[bE h,List.sum_append_int];simp[h]
  .rw[bU ⋯,bU ⋯]
   simp[h]
theorem Zkn{ns:List Int}(h:0<ns.length):ns.max?=some (ns.getD (argBest (λi j=>decide (ns.getD i 0>ns.getD j 0)) (ns.length-1)) 0):=by
 obtain⟨h1,h2⟩:=argBest_gt (λi=>ns.getD i 0) (ns.length-1);refine List.max?_eq_some_iff.mpr ⟨?_,λb hb=>?_⟩
 .have hl:argBest (λi j=>decide (ns.getD i 0>ns.getD j 0)) (ns.length-1)<ns.length:=by omega
  rw[aK,av hl];exact bJ hl
 .obtain⟨j,hj,rfl⟩:=cH hb
  have:=h2 j (by omega)
  rwa [show ns.getD j 0=ns[j]by rw[aK,av hj];rfl]at this
theorem Zko{ns:List Int}(h:0<ns.length):ns.min?=some (ns.getD (argBest (λi j=>decide (ns.getD i 0<ns.getD j 0)) (ns.length-1)) 0):=by
 obtain⟨h1,h2⟩:=argBest_lt (λi=>ns.getD i 0) (ns.length-1);refine List.min?_eq_some_iff.mpr ⟨?_,λb hb=>?_⟩
 .have hl:argBest (λi j=>decide (ns.getD i 0<ns.getD j 0)) (ns.length-1)<ns.length:=⋯
  rw[aK,av hl];exact bJ hl
 .obtain⟨j,hj,rfl⟩:=cH hb
  have:=h2 j ⋯
  rwa [show ns.getD j 0=ns[j]by rw[aK,av hj];rfl]at this
def ZrR(ns:List Int):Option V:=ns.max?.map V.int
def ZrS(ns:List Int):Option V:=ns.min?.map V.int
theorem Zh2(hc:X.calm=true):Zbq X (.builtin "max") (Zeq X ZrR):=by
 intro pins s σ H vs us Q I rs hh;obtain⟨p,ns,v,e,hl,hg,q⟩:=hh;subst e;obtain⟨u,rfl,ru⟩:=Zck rs;cases ru;have hn:0<ns.length:=by cases ns with|nil=>cases hg|cons _ _=>simp
 unfold ZrR at hg;rw[Zkn hn]at hg;cases hg;refine call_max_walk (ZcJ hc I hl λits it hv hlen ei W hfp st back=>?_);refine⟨it,_,_,_,_,_,_,rfl,W,st,hfp,by rw[am,hlen];exact hn,CmpOf.ints_gt (λi=>ns.getD i 0) (λi v hP=>Zbo hv (by simpa using hP)),λv h' tk hP hk=>⟨_,H,back h' tk hk,?_,q⟩⟩
 rw[am,hlen]at hP;exact Zbo hv (by simpa using hP)
theorem Zh3(hc:X.calm=true):Zbq X (.builtin "min") (Zeq X ZrS):=by
 intro pins s σ H vs us Q I rs hh;obtain⟨p,ns,v,e,hl,hg,q⟩:=hh;subst e;obtain⟨u,rfl,ru⟩:=Zck rs;cases ru;have hn:0<ns.length:=by cases ns with|nil=>cases hg|cons _ _=>simp
 unfold ZrS at hg;rw[Zko hn]at hg;cases hg;refine call_min_walk (ZcJ hc I hl λits it hv hlen ei W hfp st back=>?_);refine⟨it,_,_,_,_,_,_,rfl,W,st,hfp,by rw[am,hlen];exact hn,CmpOf.ints_lt (λi=>ns.getD i 0) (λi v hP=>Zbo hv (by simpa using hP)),λv h' tk hP hk=>⟨_,H,back h' tk hk,?_,q⟩⟩
 rw[am,hlen]at hP;exact Zbo hv (by simpa using hP)
def Zdb(g:List Int->Option Int):W3:=λds M=>match ds with
 |[x]=>(match Zee M x with|some xs=>(match x with|.tup _=>.bad|_=>(match ZaC xs with|some ns=>(match g ns with|some i=>.ok (.int i) M|none=>.bad)|none=>.bad))|none=>.bad)
 |_=>.bad
theorem Zfa(hg:∀ns i,g ns=some i->gV ns=some (.int i)):CO X ξ (Zeq X gV) (Zdb g):=by
 intro H α M vs ds Q h rs q;unfold Zdb at q;cases rs with
 |nil=>exact q.elim
 |@cons _ x _ _ r tz=>
  cases tz with
  |cons _ _=>exact q.elim
  |nil=>
   have fin:∀(p:Addr)(xs:List V)(ys:List D),SqL X.K H p xs->Reps X.K H α xs ys->OP X.K H α ξ Q (match ZaC ys with|some ns=>(match g ns with|some i=>.ok (.int i) M|none=>.bad)|none=>.bad)->Zeq X gV [.ref p] H Q:=λp xs ys k1 k2 q=>by
    cases e1:ZaC ys with
    |none=>rw[e1]at q;exact q.elim
    |some ns=>
     cases e2:g ns with
     |none=>simp only[e1,e2]at q;exact q.elim
     |some i=>
      simp only[e1,e2]at q
      have:=Zf2 k2 e1
      subst this;exact⟨p,ns,.int i,rfl,k1,hg _ _ e2,q _ H α Ext.refl h (.int i)⟩
   cases r with
   |@rol p xs ds hp rp=>exact fin p xs ds hp.sq rp q
   |@ref p n hp=>
    cases em:M[n]? with
    |none=>simp only[Zee,em]at q;exact q.elim
    |some so=>
     cases so with
     |lst es=>
      simp only[Zee,em]at q;obtain⟨xs,g1,g2⟩:=h.at hp em;exact fin p xs es (SqL.of g1) g2 q
   |tup _ _=>exact q.elim
   |_=>exact q.elim
theorem ZmM:CO X ξ (Zeq X ZrR) (Zdb List.max?):=Zfa λns i e=>by unfold ZrR;rw[e];rfl
theorem ZmN:CO X ξ (Zeq X ZrS) (Zdb List.min?):=Zfa λns i e=>by unfold ZrS;rw[e];rfl
theorem Zps:bN "sum"=some (.builtin "sum"):=by decide +kernel
end DL
namespace DL
open PyProof.Rows L2
section
variable {prog:cB}{w:cO}{A:cZ}{R:Result->aH->Prop}{I:Addr}{fp wr:List Addr}{n:Nat}{P:Nat->aa->Prop}{St:Nat->Heap->Prop}
theorem Zh4(W:Walks prog w A.in1 I fp wr n P St)(val:Nat->Int)(hval:∀i v,P i v->∃t,v=.int (val i) t)(S:Addr)(hSf:S∉fp):∀(k i:Nat)(g:Int)(s:aH)(tA:Tok)(c:Nat),(g=0\/g=2)->n-i=k->i<=n->St i s.heap->s.heap.get? S=some {cls:=.type "list",dict:=none,data:=.seq #[.int (iq val i) tA] c,slots:= #[]}->(∀h' tk t',(∀b o,b∉wr->b≠S->s.heap.get? b=some o->h'.get? b=some o)->R (.ok (.ret (.int (iq val n) t'))) {s with heap:=h',toks:=tk})->fm (aE prog w) A (.builtin "sum.loop" ⟨[.ref I,.ref S,cT g,cT 0],[]⟩) R s:=by
 have hSw:S∉wr:=λh=>hSf (W.sub _ h);intro k
 induction k with
 |zero=>
  intro i g s tA c hg hk hi hst hS hR;have hin:i=n:=⋯
  subst hin;refine jZ F.entry_sum_loop ?_;rw[kH F.plain_sum_loop _];show wpAny _ A.in1 (jB (.ref S) >>= _) _ _ s;refine Wb (wpAny_seqItems hS rfl ?_);show wpAny _ A.in1 (tryCatch (fj (.ref I)) _ >>= _) _ _ s;refine Wb (wpAny_tryCatch (W.done s _ _ hst λh' tk hk'=>?_));exact Wp (hR h' tk tA λb o hbw _ e=>hk' b o hbw e)
 |succ k ih=>
  intro i g s tA c hg hk hi hst hS hR;have hlt:i<n:=⋯
  refine jZ F.entry_sum_loop ?_;rw[kH F.plain_sum_loop _];show wpAny _ A.in1 (jB (.ref S) >>= _) _ _ s;refine Wb (wpAny_seqItems hS rfl ?_);show wpAny _ A.in1 (tryCatch (fj (.ref I)) _ >>= _) _ _ s;refine Wb (wpAny_tryCatch (W.item i s _ _ hlt hst λv h' tk hP hst' hk'=>?_));obtain⟨t,rfl⟩:=hval i v hP;have hS':=hk' S _ hSw hS;rcases hg with rfl|rfl
  .show wpAny _ A.in1 (if(_:Bool)=true then(mkInt (iq val i+val i) >>= _)else _) _ _ _
   split
   .refine Wb (wpAny_mkInt ?_);show wpAny _ A.in1 (updateSeq S (λ_=> #[.int (iq val i+val i) tk]) >>= _) _ _ _;refine Wb ?_;refine eY hS' rfl (Wp ⟨jv F.plain_sum_loop _,ih (i+1) 0 _ tk _ (.inl rfl) ⋯ hlt (W.frame _ _ _ hst' λb hb o e=>?_) (bz _ hS' rfl) λh'' tk'' t'' hk''=>?_⟩)
    .exact(aG _ _ (λh:S=b=>hSf (by rw[h];exact hb))).trans e
    .exact hR h'' tk'' t'' λb o hbw hbS e=>hk'' b o hbw hbS ((aG _ _ (bh hbS)).trans (hk' b o hbw e))
   .refine Wb (wpAny_rule ?_);refine Wb (d8 (wpAny_holding (add_int ?_)));show wpAny _ A.in1 (updateSeq S (λ_=> #[.int (iq val i+val i) tk]) >>= _) _ _ _;refine Wb (eY hS' rfl ?_);refine Wb (ib ?_);show wpAny _ A.in1 (updateSeq S (λ_=> #[.int (iq val i+val i) tk]) >>= _) _ _ _;have hS2:=bz (bv λ_=>(#[.int (iq val i+val i) tk]:Array aa)) hS' rfl;refine Wb (eY hS2 rfl (Wp ⟨jv F.plain_sum_loop _,ih (i+1) 2 _ tk _ (.inr rfl) ⋯ hlt (W.frame _ _ _ hst' λb hb o e=>?_) (bz _ hS2 rfl) λh'' tk'' t'' hk''=>?_⟩))
    .have nb:S≠b:=λh:S=b=>hSf (by rw[h];exact hb)
     exact(aG _ _ nb).trans ((aG _ _ nb).trans e)
    .exact hR h'' tk'' t'' λb o hbw hbS e=>hk'' b o hbw hbS ((aG _ _ (bh hbS)).trans ((aG _ _ (bh hbS)).trans (hk' b o hbw e)))
  .show wpAny _ A.in1 (if((2:Int) != 0)=true then _ else _) _ _ _
   rw[if_pos (by decide)]
   refine Wb (d8 (wpAny_holding (add_int ?_)));show wpAny _ A.in1 (updateSeq S (λ_=> #[.int (iq val i+val i) tk]) >>= _) _ _ _;refine Wb (eY hS' rfl ?_);refine Wb (ib ?_);show wpAny _ A.in1 (updateSeq S (λ_=> #[.int (iq val i+val i) tk]) >>= _) _ _ _;have hS2:=bz (bv λ_=>(#[.int (iq val i+val i) tk]:Array aa)) hS' rfl;refine Wb (eY hS2 rfl (Wp ⟨jv F.plain_sum_loop _,ih (i+1) 2 _ tk _ (.inr rfl) ⋯ hlt (W.frame _ _ _ hst' λb hb o e=>?_) (bz _ hS2 rfl) λh'' tk'' t'' hk''=>?_⟩))
   .have nb:S≠b:=λh:S=b=>hSf (by rw[h];exact hb)
    exact(aG _ _ nb).trans ((aG _ _ nb).trans e)
   .exact hR h'' tk'' t'' λb o hbw hbS e=>hk'' b o hbw hbS ((aG _ _ (bh hbS)).trans ((aG _ _ (bh hbS)).trans (hk' b o hbw e)))
end
theorem Zh5(h:wpAny (aE prog w) A.in1 (pyIter x) (λit s₂=>∃I fp wr n P St val,it=.ref I/\Walks prog w A.in1 I fp wr n P St/\St 0 s₂.heap/\(∀b∈fp,b<s₂.heap.objs.size)/\(∀i v,P i v->∃t,v=.int (val i) t)/\∀h' tk t',(∀b o,b∉wr->s₂.heap.get? b=some o->h'.get? b=some o)->Q (.int (iq val n) t') {s₂ with heap:=h',toks:=tk}) E s):wpAny (aE prog w) A (call (.builtin "sum") [x]) Q E s:=by
 refine call_function_tree F.kind_sum F.plain_sum F.entry_sum (F.args_sum1 _) ?_;unfold cW.«sum»;simp only[bS,eX];rw[if_neg (by decide)]
 refine Wb (kr (show cW.Builtins.bindParams "sum" ["start"] 0 {}=pure [none]from rfl) ?_);refine Wb (wpAny_mono h (λit s₂ h₂=>?_) λ_ _ e=>e);obtain⟨I,fp,wr,n,P,St,val,rfl,W,hst,hfp,hval,hQ⟩:=h₂;refine Wb (wpAny_mkInt ?_);refine Wb (Wp ?_);simp only[gg,gJ];refine Wb (Wb (Wb (c7 (T:="int") (b:=false) (typeIs_int _ _ _) PySem.sub_int_str ?_)));simp only[aS,if_false];refine Wp (Wb (Wb (c7 (T:="int") (b:=false) (typeIs_int _ _ _) PySem.sub_int_bytes ?_)));simp only[aS,if_false];refine Wp (Wb (Wb (c7 (T:="int") (b:=false) (typeIs_int _ _ _) PySem.sub_int_bytearray ?_)));simp only[aS,if_false];refine Wp (Wp ?_);refine Wb (bK ?_);have hSf:s₂.heap.objs.size∉fp:=λhm=>b9 _ (hfp _ hm);refine Wp ⟨jv F.plain_sum_loop _,Zh4 W val hval s₂.heap.objs.size hSf n 0 0 _ s₂.toks 0 (.inl rfl) rfl (dB _) (W.frame _ _ _ hst λb _ o e=>Hq _ e) (aF _ rfl) λh' tk t' hk=>?_⟩
 exact hQ h' tk t' λb o hbw e=>hk b o hbw (az (Hz e)) (Hq _ e)
def Zpt(ns:List Int):Option V:=some (.int ns.sum)
def Zsz(ns:List Int):Option Int:=some ns.sum
theorem Zh6(hc:X.calm=true):Zbq X (.builtin "sum") (Zeq X Zpt):=by
 intro pins s σ H vs us Q I rs hh;obtain⟨p,ns,v,e,hl,hg,q⟩:=hh;subst e;obtain⟨u,rfl,ru⟩:=Zck rs;cases ru;cases hg;refine Zh5 (ZcJ hc I hl λits it hv hlen ei W hfp st back=>?_);refine⟨it,_,_,_,_,_,λi=>ns.getD i 0,rfl,W,st,hfp,λi v hP=>Zbo hv (by simpa using hP),λh' tk t' hk=>⟨.int ns.sum,H,back h' tk hk,⟨t',?_⟩,q⟩⟩
 rw[ZcK,am,hlen,dG]
theorem ZmO:CO X ξ (Zeq X Zpt) (Zdb Zsz):=Zfa λns i e=>by
 cases e;rfl
end DL
namespace DL
open PyProof.Rows L2
noncomputable def kK:D->Option Key
 |.int i=>some (.inl i)
 |.str x=>some (.inr x)
 |_=>none
def kKs:List D->Option (List Key)
 |[]=>some []
 |d::r=>match kK d,kKs r with|some k,some ks=>some (k::ks)|_,_=>none
def kT:D->Option (List Key)
 |.tup ds=>kKs ds
 |_=>none
theorem Zpu(h:kK d=some k):d=Zob k:=by
 cases d<;>first|(cases h;rfl)|cases h
theorem ZmP(k:Key):kK (Zob k)=some k:=by cases k<;>rfl
theorem Zh7:∀{ds:List D}{ks:List Key},kKs ds=some ks->ds=ks.map Zob
 |[],ks,h=>by cases h;rfl
 |d::r,ks,h=>by
  unfold kKs at h
  split at h
  .rename_i k ks' e1 e2;cases h;rw[aR,<-Zpu e1,<-Zh7 e2]
  .cases h
theorem Zf3:∀(ks:List Key),kKs (ks.map Zob)=some ks
 |[]=>rfl
 |k::ks=>by rw[aR,kKs,ZmP,Zf3 ks]
theorem Zpv(h:kT d=some ks):d=Ze1 ks:=by
 cases d with
 |tup ds=>rw[Ze1,<-Zh7 h]
 |_=>cases h
theorem Zkp(ks:List Key):kT (Ze1 ks)=some ks:=Zf3 ks
section
variable {κ:Type}[DecidableEq κ]
noncomputable def Zkq(dec:D->Option κ)(k:κ):List D->Option D
 |[]=>none
 |.tup [a,v]::r=>if dec a=some k then some v else Zkq dec k r
 |_::r=>Zkq dec k r
noncomputable def ZmQ(dec:D->Option κ)(k:κ)(v:D)(ds:List D):List D:=ds.map λe=>match e with|.tup [a,w]=>if dec a=some k then .tup [a,v]else e|e=>e
def Zoh(dec:D->Option κ)(k:κ)(kd v:D)(ds:List D):List D:=if(Zkq dec k ds).isSome then ZmQ dec k v ds else ds++[.tup [kd,v]]
variable {K:Fg}{H:Hp}{α α':List Addr}{key:κ->D}{dec:D->Option κ}
theorem Zh8:Zca K H α key [] []:=⟨[],rfl,.nil⟩
theorem Zer(hd:∀k,dec (key k)=some k):∀{kvs:List (κ×V)} {es:List D} (k:κ),Reps K H α (kvs.map (·.2)) es->
  match Zkq dec k (bT (λkv e=>D.tup [key kv.1,e]) kvs es)with|none=>Zg2 kvs k=none|some d=>∃v,Zg2 kvs k=some v/\Rep K H α v d
 |[],es,k,h=>by cases h;rfl
 | (k',v)::kvs,_,k,.cons r t=>by
  simp only[gK,Zkq,hd,aw];by_cases c:k'=k
  .rw[if_pos c];exact⟨v,Zcq (p:=(k',v)) c,r⟩
  .rw[if_neg c]
   have:=Zer hd k t
   have e:Zg2 ((k',v)::kvs) k=Zg2 kvs k:=Zcr (p:=(k',v)) c;rw[e];exact this
theorem Zes(hd:∀k,dec (key k)=some k){w:V}{d:D}(rw':Rep K H α w d):∀{kvs:List (κ×V)} {es:List D} (k:κ),Reps K H α (kvs.map (·.2)) es->
  ∃es',ZmQ dec k d (bT (λkv e=>D.tup [key kv.1,e]) kvs es)=bT (λkv e=>D.tup [key kv.1,e]) (kvs.map λkv=>if kv.1=k then(kv.1,w)else kv) es'/\Reps K H α ((kvs.map λkv=>if kv.1=k then(kv.1,w)else kv).map (·.2)) es'
 |[],es,k,h=>by cases h;exact⟨[],rfl,.nil⟩
 | (k',v)::kvs,_,k,.cons (d:=dv) (ds:=es) r t=>by
  obtain⟨es',h1,h2⟩:=Zes hd rw' k t;unfold ZmQ at h1;by_cases c:k'=k
  .refine⟨d::es',?_,?_⟩
   .simp only[ZmQ,gK,aR,hd,aw,if_pos c,h1]
   .simp only[aR,if_pos c];exact .cons rw' h2
  .refine⟨dv::es',?_,?_⟩
   .simp only[ZmQ,gK,aR,hd,aw,if_neg c,h1]
   .simp only[aR,if_neg c];exact .cons r h2
theorem Zf4{α' β γ:Type}{f:α'->β->γ}{x:α'}{y:β}:∀{xs:List α'}{ys:List β},xs.length=ys.length->bT f (xs++[x]) (ys++[y])=bT f xs ys++[f x y]
 |[],[],_=>rfl
 |a::xs,b::ys,h=>by simp[Zf4 (xs:=xs) (ys:=ys) (by simpa using h)]
theorem Zh9(hd:∀k,dec (key k)=some k){kvs:List (κ×V)}{ds:List D}{w:V}{d:D}(k:κ)(h:Zca K H α key kvs ds)(r:Rep K H α w d):Zca K H α key (ZjO kvs k w) (Zoh dec k (key k) d ds):=by
 obtain⟨es,rfl,hr⟩:=h;have pv:=Zer hd k hr;have an:=ZfL k kvs;unfold ZjO Zoh;cases e:Zkq dec k (bT (λkv e=>D.tup [key kv.1,e]) kvs es)with
 |none=>
  rw[e]at pv;rw[if_neg (by rw[an,pv];simp),if_neg (by simp)]
  refine⟨es++[d],?_,?_⟩
  .rw[Zf4 (by rw[<-hr.length,af])]
  .rw[cw];exact hr.append (.cons r .nil)
 |some x=>
  rw[e]at pv;obtain⟨v,hv,_⟩:=pv;rw[if_pos (by rw[an,hv];rfl),if_pos (show(some x).isSome=true from rfl)]
  exact Zes hd r k hr
theorem Zia{kvs:List (κ×V)}{ds:List D}(h:Zca K H α key kvs ds):kvs.length=ds.length:=by
 obtain⟨es,rfl,hr⟩:=h
 have:=hr.length
 rw[af]at this;simp[this]
end
end DL
namespace DL
open PyProof.Rows L2
end DL
namespace DL
open PyProof.Rows L2
section
variable {ξ:XK}{e2:Expr}
def eFm(f:Ev):Ev:=λρ M=>(f ρ M).bind λx M1=>match x with
 |.int i=>if i.natAbs.log2<1900 then .ok (.str (a9 (toString i))) M1 else .bad
 |.str y=>if y.length<=100000 then .ok (.str y) M1 else .bad
 |_=>.bad
theorem ZmR(ha:DE X ξ e f):DE X ξ (.FormattedValue e (-1) none pos) (eFm f):=by
 obtain⟨ta,pa,qa⟩:=ha;refine⟨λσ H Q=>ta σ H λx H1=>(∃i,x=.int i/\i.natAbs.log2<1900/\Q (.str (a9 (toString i))) H1)\/∃y,x=.str y/\y.length<=100000/\Q (.str y) H1,λpins s σ H Q I h=>?_,λσ ρ H α M Q s h q=>?_⟩
 .refine wpAny_FormattedValue_plain (wpAny_mono (pa pins s σ H _ I h) (λv s1 hz=>?_) λ_ _ z=>z);obtain⟨x,H1,I1,r1,q1⟩:=hz;rcases q1 with⟨i,rfl,hi,q⟩|⟨y,rfl,hy,q⟩
  .obtain⟨t,rfl⟩:=r1;exact wpAny_formatField_int ⋯ ⟨.str (a9 (toString i)),H1,I1.tok _,⟨_,rfl⟩,q⟩
  .obtain⟨t,rfl⟩:=r1;exact wpAny_formatField_str ⟨.str y,H1,I1,⟨_,rfl⟩,q⟩ ⟨.str y,H1,I1.tok _,⟨_,rfl⟩,q⟩ (aU hy (by rw[df];decide))
 .refine qa σ ρ H α M _ s h (OG.seq q λx M1 v H1 α1 e1 h1 r1 q1=>?_);cases r1 with
  |int i=>
   by_cases hi:i.natAbs.log2<1900
   .simp only[hi,if_true]at q1;exact .inl ⟨i,rfl,hi,q1 _ H1 α1 Ext.refl h1 (.str _)⟩
   .simp only[hi,if_false]at q1;exact q1.elim
  |str y=>
   by_cases hi:y.length<=100000
   .simp only[hi,if_true]at q1;exact .inr ⟨y,rfl,hi,q1 _ H1 α1 Ext.refl h1 (.str _)⟩
   .simp only[hi,if_false]at q1;exact q1.elim
  |_=>exact q1.elim
abbrev Jv:=Str->Ro->Sto->Out Str
def PJ(X:Cx)(es:List Expr)(t:L2.St->Hp->Str->(Str->Hp->Prop)->Prop):Prop:=
 ∀(pins:Pn)(s:aH)(σ:L2.St)(H:Hp)(acc:Str)(Q:Str->Hp->Prop),Inv X pins σ H s->t σ H acc Q->Joins (aE X.prog X.w) X.A X.xe (evalEach es X.env) acc (λout s1=>out.length<=100000/\∃H',Inv X pins σ H' s1/\Q out H') s
def DJ(X:Cx)(ξ:XK)(es:List Expr)(g:Jv):Prop:=∃t,PJ X es t/\∀σ ρ H α M acc (Q:Str->Hp->Prop),SR X.K H α σ ρ->HR X.K H α M->OG X.K (λ_ _ v d=>v=d) H α ξ Q (g acc ρ M)->t σ H acc Q
noncomputable def jNil:Jv:=λacc _ M=>if acc.length<=100000 then .ok acc M else .bad
def ZdA(f:Ev)(g:Jv):Jv:=λacc ρ M=>(f ρ M).bind λx M1=>match x with
 |.str y=>if(acc++y).length<=100000 then g (acc++y) ρ M1 else .bad
 |_=>.bad
def eFs(g:Jv):Ev:=λρ M=>(g l6 ρ M).bind λx M1=>.ok (.str x) M1
theorem Zlt:DJ X ξ [] jNil:=by
 refine⟨λσ H acc Q=>acc.length<=100000/\Q acc H,λpins s σ H acc Q I h=>⟨h.1,H,I,h.2⟩,λσ ρ H α M acc Q s h q=>?_⟩;unfold jNil at q;by_cases hl:acc.length<=100000
 .rw[if_pos hl]at q;exact⟨hl,q acc H α Ext.refl h rfl⟩
 .rw[if_neg hl]at q;exact q.elim
theorem Zbc(ha:DE X ξ e f)(hr:DJ X ξ es g):DJ X ξ (e::es) (ZdA f g):=by
 obtain⟨ta,pa,qa⟩:=ha;obtain⟨tr,pr',qr⟩:=hr;refine⟨λσ H acc Q=>ta σ H λx H1=>∃y,x=.str y/\(acc++y).length<=100000/\tr σ H1 (acc++y) Q,λpins s σ H acc Q I h=>?_,λσ ρ H α M acc Q s h q=>?_⟩
 .show wpAny _ _ (eval e X.env) _ _ s;refine wpAny_mono (pa pins s σ H _ I h) (λv s1 hz=>?_) λ_ _ z=>z;obtain⟨x,H1,I1,r1,q1⟩:=hz;obtain⟨y,rfl,hy,q⟩:=q1;obtain⟨t,rfl⟩:=r1;exact⟨y,t,rfl,aU hy (by rw[df];decide),pr' pins s1 σ H1 (acc++y) Q I1 q⟩
 .refine qa σ ρ H α M _ s h (OG.seq q λx M1 v H1 α1 e1 h1 r1 q1=>?_);cases r1 with
  |str y=>
   by_cases hi:(acc++y).length<=100000
   .simp only[hi,if_true]at q1;exact⟨y,rfl,hi,qr σ ρ H1 α1 M1 (acc++y) Q (s.mono e1) h1 q1⟩
   .simp only[hi,if_false]at q1;exact q1.elim
  |_=>exact q1.elim
theorem Zpw(h:DJ X ξ (e1::e2::es) g):DE X ξ (.JoinedStr (e1::e2::es) pos) (eFs g):=by
 obtain⟨t,pj,qj⟩:=h;refine⟨λσ H Q=>t σ H l6 λx H1=>Q (.str x) H1,λpins s σ H Q I h=>?_,λσ ρ H α M Q s h q=>?_⟩
 .refine wpAny_JoinedStr ?_
  have:=pj pins s σ H l6 _ I h
  have mono:∀(ms:List (Sem aa)) (acc:Str) (P R:Str->aH->Prop) (s:aH),(∀o s,P o s->R o s)->Joins (aE X.prog X.w) X.A X.xe ms acc P s->Joins (aE X.prog X.w) X.A X.xe ms acc R s:=by
   intro ms
   induction ms with
   |nil=>intro acc P R s hp hj;exact hp _ _ hj
   |cons m r ih=>
    intro acc P R s hp hj;exact wpAny_mono hj (λv s1 ⟨y,t,e,l,k⟩=>⟨y,t,e,l,ih _ P R s1 hp k⟩) λ_ _ z=>z
  refine mono _ _ _ _ s (λo s1 hz=>?_) this;obtain⟨hl,H',I',q⟩:=hz;exact⟨aU hl (by rw[df];decide),.str o,H',I'.tok _,⟨_,rfl⟩,q⟩
 .refine qj σ ρ H α M l6 _ s h (OG.seq q λx M1 v H1 α1 e1 h1 r1 q1=>?_);cases r1;exact q1 _ H1 α1 Ext.refl h1 (.str x)
end
end DL
namespace DL
open PyProof.Rows L2
theorem ZgR{o:Out β}{f:β->Sto->Out γ}{g:γ->Sto->Fl}:Zas (o.bind f) g=Zas o λx M=>Zas (f x M) g:=by cases o<;>rfl
theorem ZdB(iv:Nat)(hN:X.N.Nodup)(B:Blk X scope cl N k fr)(hi:DI X ξ tg iter fi)(h:Blk X scope cl N k fr->∀C fp s H,DG (blk X scope cl N C fp s H) tg gt/\DC (blk X scope cl N C fp s H) ifs c/\DE (blk X scope cl N C fp s H) E0 elt f)(hiv:autoParam (X.N[iv]?=some x) Qrf._auto_1)(hxl:Loc X.env.scope x:=by first|exact c8 rfl|exact kz rfl)(hm:autoParam (X.may iv=true) Qrf._auto_1)(hsw:autoParam (iK (.ListComp elt [⟨tg,iter,ifs,0⟩] scope pos) (some (.Name x pos')) spos.line X.env=pure true) Qrf._auto_1)(hf:X.fn x=true\/X.env.scope.names.lookup x=some .local:=by first|exact .inl rfl|exact .inr rfl|assumption)(hs:autoParam (∀x,foldedSetIterable iter X.env x=pure x) Qin._auto_1):DS X ξ (.Assign [.Name x pos'] (.ListComp elt [⟨tg,iter,ifs,0⟩] scope pos) spos) (ZF (gNm iv) (Zam fi k fr gt c f)):=by
 rw[Zf0];obtain⟨wi,pi,qi⟩:=hi;refine⟨λDn σ H=>∃ρ α M,SR X.K H α σ ρ/\HR X.K H α M/\FP X.K H α ξ Dn (ZF (gNm iv) (Za6 fi k fr gt c (gEm f)) ρ M),?_,λσ ρ H α M Dn s h q=>⟨ρ,α,M,s,h,q⟩⟩;rintro pins s σ H Dn I ⟨ρ,α,M,sr,hr,op⟩;rw[exec_Assign_Name_used _ _ _ _ hsw];refine Wb (wpAny_standAt (Wb ?_));show wpAny _ X.A (do let _ <-comprehension (.ListComp elt [⟨tg,iter,ifs,0⟩] scope pos) scope X.env _ (newList []) false (eval iter X.env) (some (assign (.Name x pos') X.env))) _ _ s
 unfold ZF Za6 at op;rw[ZgR]at op;refine Wb (wpAny_mono (ZfZ (P:=λ_ s'=>SP X pins Dn .next s') (g:=gEm f) B pi (λC fp s H=>(h B C fp s H).1) (λC fp s H=>(h B C fp s H).2.1) (ZfY elt tg iter ifs scope pos) (λC fp s H D n0 it=>ZbO (λ_ _ z=>z) (h B C fp s H).2.2) hs sr I (qi σ ρ H α M _ sr hr (FP.seq op λsrc M1 J H1 α1 e1 h1 r1 q1=>?_))) (λ_ s' hq=>Wp (Wp hq)) λ_ _ e=>e)
 cases er:Zcd src gt c (gEm f M1.length) (cnt src M1) 0 (roB k fr ρ) (M1++[.lst []])with
 |ok u9 M9=>
  rw[er]at q1;refine⟨α1,M1,src,u9,M9,e1,h1,r1,er,λD C H5 α5 s6 m6 ex5 hr5 aD I7 hm6 nl nc tu=>?_⟩;refine wpAny_assign_Name (Zd1 (v:=.ref D) I7 hN hiv hxl hm rfl (λs8 I8 hz=>?_) hf);obtain⟨a,sb8,ha⟩:=hz;have nca:C≠a:=by
   rcases ha with e|e
   .rw[e];exact nl
   .intro z;exact nc x (z▸e)
  exact⟨m6,hm6.sameBut sb8 nca,λh' sb=>⟨_,H5,tu _ s8 h' I8 (λb o hb e=>(sb.2 b hb).trans e),q1 _ H5 α5 ex5 hr5 (((sr.mono e1).mono ex5).set iv (.ref aD))⟩⟩
 |_=>rw[er]at q1;exact q1.elim
end DL
namespace DQ
open PyProof.Rows
end DQ
namespace DL
open PyProof.Rows L2
end DL
namespace DL
open PyProof.Rows L2
end DL
namespace DL
open L2
open PySem.W
end DL
namespace DL3
open PyProof.Rows L2 DL
open PySem.Sem (wp)
end DL3
namespace DL4
open PyProof.Rows L2 DL
open PySem.Sem (wp)
end DL4
namespace DLy2
open PyProof.Rows L2 DL
open PySem.Sem (wp)
structure Ap(z TI TO i1 i2 l1 l2:Addr):Prop where
 z_TI:z≠TI
 z_TO:z≠TO
 z_i1:z≠i1
 z_i2:z≠i2
 TI_TO:TI≠TO
 TI_i1:TI≠i1
 TI_i2:TI≠i2
 TO_i1:TO≠i1
 TO_i2:TO≠i2
 i1_i2:i1≠i2
 l1_z:l1≠z
 l1_TO:l1≠TO
 l1_i1:l1≠i1
 l1_i2:l1≠i2
 l2_z:l2≠z
 l2_TO:l2≠TO
 l2_i1:l2≠i1
 l2_i2:l2≠i2
abbrev Zcn(h:Heap)(T:Addr)(vs:List aa):Prop:=h.get? T=some {cls:=.type "tuple",data:=.seq vs.toArray}
theorem tat(x:dH h a t i)(k:∀o,h.get? a=some o->h'.get? a=some o):dH h' a t i:=let ⟨o,e,r⟩:=x;⟨o,k o e,r⟩
theorem ZmS(hit:dH s.heap it t i)(hl:hV s.heap t vs)(hx:vs[i]?=some x)(hQ:∀h',dH h' it t (i+1)->dw it s.heap h'->Q x {s with heap:=h'}):wpAny (aE prog w) A (bQ (.ref it)) Q E s:=by
 obtain⟨o,ho,hc,hd⟩:=id hit;obtain⟨ol,hol,_,nl,hdl⟩:=hl;unfold bQ;refine Wb (cA (name:=a9 "__next__") hit.typeIs fP (b7 fP hit.typeIs kI ?_ (lq _)));show wpAny _ _ (iN (.ref it) 0 >>= _) _ _ s;refine Wb (aZ ho hd (x:=.ref t) rfl ?_);show wpAny _ _ (if(aN t==bp)=true then _ else _) _ _ s
 rw[if_neg (show ¬((aN t==bp)=true)from bV)];show wpAny _ _ (iN (.ref it) 1 >>= _) _ _ s;refine Wb (aZ ho hd (x:=.int i 0) rfl ?_);show wpAny _ _ (jB (.ref t) >>= _) _ _ s;refine Wb (wpAny_seqItems hol hdl ?_);simp only[be,hx];refine Wb (cS ho hd (by simp) (Wp ⟨x,rfl,Wp (hQ _ ?_ (cI ..))⟩))
 exact⟨_,bz _ ho (cY (cN hd _)),(gv ..).trans hc,by rw[cN hd];simp[cT]⟩
theorem Zpx{items}(hh:A.handled=none)(hit:dH s.heap it l i)(hl:hV s.heap l items)(hx:items[i]?=none)(hE:∀h' e,eO it s.heap h'->(∃o,h'.get? e=some o/\o.cls=.type "StopIteration")->E (.ref e) {s with heap:=h'}):wpAny (aE prog w) A (bQ (.ref it)) Q E s:=by
 obtain⟨o,ho,hc,hd⟩:=id hit;obtain⟨ol,hol,_,nl,hdl⟩:=hl;unfold bQ;refine Wb (cA (name:=a9 "__next__") hit.typeIs fP (b7 fP hit.typeIs kI ?_ (lq _)))
 show wpAny _ _ (iN (.ref it) 0 >>= _) _ _ s;refine Wb (aZ ho hd (x:=.ref l) rfl ?_);show wpAny _ _ (if(aN l==bp)=true then _ else _) _ _ s
 rw[if_neg (show ¬((aN l==bp)=true)from bV)];show wpAny _ _ (iN (.ref it) 1 >>= _) _ _ s;refine Wb (aZ ho hd (x:=.int i 0) rfl ?_);show wpAny _ _ (jB (.ref l) >>= _) _ _ s;refine Wb (wpAny_seqItems hol hdl ?_);simp only[be,hx];refine Wb (wpAny_rule (Wb (cS ho hd (by simp) ?_)))
 show wpAny _ _ (newExc (.type "StopIteration") [] >>= _) _ _ _;refine Wb ?_;simp only[newExc,newTuple];refine Wb (bK ?_ (by size_fits))
 refine Wb (m:=iM _ _) (kr (a:=bp) (by first|rfl|(simp only[iM];rfl)) ?_)
 refine bK ?_ (by size_fits)
 simp only[raiseNew];refine Wb (wpAny_handled ?_)
 first|rw[show A.in1.handled=none from hh]|rw[hh]
 refine Wb (Wp (kq ?_));exact hE _ _ (((cI ..).extBut.push _).push _) ⟨_,aF _ rfl,rfl⟩
theorem Zib(hT:Zcn s.heap T [a1,a2])(h:∀h',Zcn h' T ([a1,a2].set k x)->dw T s.heap h'->Q () {s with heap:=h'}):wpAny (aE prog w) A (updateSeq T (·.setIfInBounds k x)) Q E s:=by
 refine eY hT rfl (h _ ?_ (cI ..));show _=_;rw[bz _ hT rfl];simp[bv]
theorem Zic{TI TO:Addr}{Q:Vp}(D:Ap z TI TO i1 i2 l1 l2)(hz:ia s.heap z TI TO .none)(hTI:Zcn s.heap TI [.ref i1,.ref i2])(hTO:Zcn s.heap TO [a1,a2])(h1:s.heap.IsListIter i1 l1 k)(h2:dH s.heap i2 l2 k)(hl1:s.heap.IsList l1 xs1)(hl2:hV s.heap l2 xs2)(e1:xs1[k]?=some x1)(e2:xs2[k]?=some x2)(hQ:∀h',ia h' z TI TO (cT s.heap.objs.size)->Zcn h' TO [x1,x2]->h'.IsListIter i1 l1 (k+1)->dH h' i2 l2 (k+1)->Zcn h' s.heap.objs.size [x1,x2]->h'.objs.size=s.heap.objs.size+1->(∀c o,c≠z->c≠TO->c≠i1->c≠i2->s.heap.get? c=some o->h'.get? c=some o)->Q (.ref s.heap.objs.size) {s with heap:=h'}):wpAny (aE prog w) A (cW.«zip.__next__» ⟨[.ref z],[]⟩) (λfin s'=>∃v,fin=.done (.ret v)/\Q v s') E s:=by
 show wpAny _ _ (iN (.ref z) 2 >>= _) _ _ _;refine Wb (aZ hz rfl (x:=.bool false) rfl ?_);show wpAny _ _ (iN (.ref z) 3 >>= _) _ _ _;refine Wb (aZ hz rfl (x:=.ref TI) rfl ?_);refine Wb (wpAny_seqItems hTI rfl ?_);show wpAny _ _ (cK (.ref z) >>= _) _ _ _;refine Wb ?_;unfold cK;refine Wb (aZ hz rfl (x:=.none) rfl (Wp ?_));simp only[if_true];refine Wb (wpAny_rule ?_);refine Wb (aZ hz rfl (x:=.ref TO) rfl ?_);refine Wb (dI hz (by simp) λg1 hz1 hs1=>?_)
 replace hz1:ia g1 z TI TO .ellipsis:=hz1
 refine Wb ?_;simp only[jG,ir,gg,gJ];refine Wb (Wb (wpAny_onRaise ?_));show wpAny _ _ (bQ (.ref i1) >>= _) _ _ _;refine Wb (jW ((h1).extBut hs1.extBut D.z_i1.symm) ((hl1).extBut hs1.extBut D.l1_z) e1 λg2 it1 hs2=>Wp ?_);have to2:Zcn g2 TO [a1,a2]:=hs2.extBut _ _ D.TO_i1 (hs1.extBut _ _ D.z_TO.symm (hTO));refine Wb (wpAny_seqItems to2 rfl ?_);refine Wb (Zib to2 λg3 to3 hs3=>?_)
 replace to3:Zcn g3 TO [x1,a2]:=to3
 refine Wb (ib (Wp ?_));refine Wb (Wb (wpAny_onRaise ?_));show wpAny _ _ (bQ (.ref i2) >>= _) _ _ _;refine Wb (ZmS ((((h2).extBut hs1.extBut D.z_i2.symm).extBut hs2.extBut D.i1_i2.symm).extBut hs3.extBut D.TO_i2.symm) ((((hl2).extBut hs1.extBut D.l2_z).extBut hs2.extBut D.l2_i1).extBut hs3.extBut D.l2_TO) e2 λg4 it2 hs4=>Wp ?_);have to4:Zcn g4 TO [x1,a2]:=hs4.extBut _ _ D.TO_i2 (to3);refine Wb (wpAny_seqItems to4 rfl ?_);refine Wb (Zib to4 λg5 to5 hs5=>?_)
 replace to5:Zcn g5 TO [x1,x2]:=to5
 refine Wb (ib (Wp (Wp ?_)));refine Wb (wpAny_seqItems to5 rfl ?_);refine Wb (wpAny_newTuple ?_);have hsz:g5.objs.size=s.heap.objs.size:=by rw[hs5.1,hs4.1,hs3.1,hs2.1,hs1.1]
 have hzF:ia g5 z TI TO .ellipsis:=hs5.extBut _ _ D.z_TO (hs4.extBut _ _ D.z_i2 (hs3.extBut _ _ D.z_TO (hs2.extBut _ _ D.z_i1 (hz1))));have hkF:∀c o,c≠z->c≠TO->c≠i1->c≠i2->s.heap.get? c=some o->g5.get? c=some o:=λc o c1 c2 d1 d2 e=>hs5.extBut _ _ c2 (hs4.extBut _ _ d2 (hs3.extBut _ _ c2 (hs2.extBut _ _ d1 (hs1.extBut _ _ c1 (e)))));have f1:g5.IsListIter i1 l1 (k+1):=(((it1).extBut hs3.extBut D.TO_i1.symm).extBut hs4.extBut D.i1_i2).extBut hs5.extBut D.TO_i1.symm;have f2:dH g5 i2 l2 (k+1):=(it2).extBut hs5.extBut D.TO_i2.symm;have hzlt:z<g5.objs.size:=Hz hzF;show wpAny _ _ (fQ (.ref z) (.ref g5.objs.size) >>= _) _ _ _;refine Wb ?_;unfold fQ;have hzP:ia (g5.push {cls:=.type "tuple",data:=.seq #[x1,x2]}) z TI TO .ellipsis:=Hq _ hzF;refine Wb (dI hzP (by simp) λh7 hz7 hs7=>?_)
 replace hz7:ia h7 z TI TO (cT g5.objs.size):=hz7
 refine dI hz7 (by simp) λh8 hz8 hs8=>?_
 replace hz8:ia h8 z TI TO (cT g5.objs.size):=hz8
 have up:∀c o,c≠z->g5.get? c=some o->h8.get? c=some o:=λc o c1 e=>hs8.extBut _ _ c1 (hs7.extBut _ _ c1 (Hq _ e));have hT8:Zcn h8 g5.objs.size [x1,x2]:=hs8.extBut _ _ (aQ hzlt) (hs7.extBut _ _ (aQ hzlt) (aF _ rfl));have h8z:h8.objs.size=g5.objs.size+1:=by rw[hs8.1,hs7.1,cC]
 rw[hsz]at hz8 hT8 h8z;refine Wp ⟨_,rfl,?_⟩;show Q (.ref g5.objs.size) _;rw[hsz];exact hQ h8 hz8 (up _ _ D.z_TO.symm to5) (f1.at λo e=>up _ o D.z_i1.symm e) (tat f2 λo e=>up _ o D.z_i2.symm e) hT8 h8z λc o c1 c2 d1 d2 e=>up c o c1 (hkF c o c1 c2 d1 d2 e)
theorem Zkr{TI TO:Addr}(hh:A.handled=none)(D:Ap z TI TO i1 i2 l1 l2)(hz:ia s.heap z TI TO .none)(hTI:Zcn s.heap TI [.ref i1,.ref i2])(hTO:Zcn s.heap TO [a1,a2])(h1:s.heap.IsListIter i1 l1 k)(h2:dH s.heap i2 l2 k)(hl1:s.heap.IsList l1 xs1)(hl2:hV s.heap l2 xs2)(hend:xs1[k]?=none\/xs2[k]?=none)(hE:∀h' e,(∀c o,c≠z->c≠TO->c≠i1->c≠i2->s.heap.get? c=some o->h'.get? c=some o)->(∃o,h'.get? e=some o/\o.cls=.type "StopIteration")->E (.ref e) {s with heap:=h'}):wpAny (aE prog w) A (cW.«zip.__next__» ⟨[.ref z],[]⟩) Q E s:=by
 show wpAny _ _ (iN (.ref z) 2 >>= _) _ _ _;refine Wb (aZ hz rfl (x:=.bool false) rfl ?_);show wpAny _ _ (iN (.ref z) 3 >>= _) _ _ _;refine Wb (aZ hz rfl (x:=.ref TI) rfl ?_);refine Wb (wpAny_seqItems hTI rfl ?_);show wpAny _ _ (cK (.ref z) >>= _) _ _ _;refine Wb ?_;unfold cK;refine Wb (aZ hz rfl (x:=.none) rfl (Wp ?_));simp only[if_true];refine Wb (wpAny_rule ?_);refine Wb (aZ hz rfl (x:=.ref TO) rfl ?_);refine Wb (dI hz (by simp) λg1 hz1 hs1=>?_)
 replace hz1:ia g1 z TI TO .ellipsis:=hz1
 refine Wb ?_;simp only[jG,ir,gg,gJ];refine Wb (Wb (wpAny_onRaise ?_));show wpAny _ _ (bQ (.ref i1) >>= _) _ _ _;cases hx1:xs1[k]? with
 |none=>
  refine Wb (wpAny_nextOf_list_end hh ((h1).extBut hs1.extBut D.z_i1.symm) ((hl1).extBut hs1.extBut D.l1_z) hx1 λgE e hsE he=>?_);obtain⟨oe,hoe,hce⟩:=he;have hzE:ia gE z TI TO .ellipsis:=hsE _ _ D.z_i1 (hz1);have hez:e≠z:=λx=>by subst x;rw[hzE]at hoe;cases hoe;simp at hce
  refine dI hzE (by simp) λgF _ hsF=>hE gF e (λc o c1 c2 d1 d2 x=>hsF.extBut _ _ c1 (hsE _ _ d1 (hs1.extBut _ _ c1 (x)))) ⟨oe,hsF.extBut _ _ hez hoe,hce⟩
 |some x1=>
  have hend1:xs2[k]?=none:=by rcases hend with h|h;rw[hx1]at h;cases h;exact h
  refine Wb (jW ((h1).extBut hs1.extBut D.z_i1.symm) ((hl1).extBut hs1.extBut D.l1_z) hx1 λg2 it1 hs2=>Wp ?_);have to2:Zcn g2 TO [a1,a2]:=hs2.extBut _ _ D.TO_i1 (hs1.extBut _ _ D.z_TO.symm (hTO));refine Wb (wpAny_seqItems to2 rfl ?_);refine Wb (Zib to2 λg3 to3 hs3=>?_)
  replace to3:Zcn g3 TO [x1,a2]:=to3
  refine Wb (ib (Wp ?_));refine Wb (Wb (wpAny_onRaise ?_));show wpAny _ _ (bQ (.ref i2) >>= _) _ _ _;refine Wb (Zpx hh ((((h2).extBut hs1.extBut D.z_i2.symm).extBut hs2.extBut D.i1_i2.symm).extBut hs3.extBut D.TO_i2.symm) ((((hl2).extBut hs1.extBut D.l2_z).extBut hs2.extBut D.l2_i1).extBut hs3.extBut D.l2_TO) hend1 λgE e hsE he=>?_);obtain⟨oe,hoe,hce⟩:=he;have hzE:ia gE z TI TO .ellipsis:=hsE _ _ D.z_i2 (hs3.extBut _ _ D.z_TO (hs2.extBut _ _ D.z_i1 (hz1)));have hez:e≠z:=λx=>by subst x;rw[hzE]at hoe;cases hoe;simp at hce
  refine dI hzE (by simp) λgF _ hsF=>hE gF e (λc o c1 c2 d1 d2 x=>hsF.extBut _ _ c1 (hsE _ _ d2 (hs3.extBut _ _ c2 (hs2.extBut _ _ d1 (hs1.extBut _ _ c1 (x)))))) ⟨oe,hsF.extBut _ _ hez hoe,hce⟩
theorem ZmT{TI TO:Addr}(D:Ap z TI TO i1 i2 l1 l2)(hz:ia s.heap z TI TO .none)(hTI:Zcn s.heap TI [.ref i1,.ref i2])(hTO:Zcn s.heap TO [a1,a2])(h1:s.heap.IsListIter i1 l1 k)(h2:dH s.heap i2 l2 k)(hl1:s.heap.IsList l1 xs1)(hl2:hV s.heap l2 xs2)(e1:xs1[k]?=some x1)(e2:xs2[k]?=some x2)(hQ:∀h',ia h' z TI TO (cT s.heap.objs.size)->Zcn h' TO [x1,x2]->h'.IsListIter i1 l1 (k+1)->dH h' i2 l2 (k+1)->Zcn h' s.heap.objs.size [x1,x2]->h'.objs.size=s.heap.objs.size+1->(∀c o,c≠z->c≠TO->c≠i1->c≠i2->s.heap.get? c=some o->h'.get? c=some o)->Q (some (.ref s.heap.objs.size)) {s with heap:=h'}):wpAny (aE prog w) A (fj (.ref z)) Q E s:=by
 have hT:s.TypeIs (.ref z) "zip":=⟨_,hz,rfl⟩;unfold fj;exact Wb (d8 (cA (name:=a9 "__next__") hT F.slot_zip_next (b7 F.slot_zip_next hT F.entry_zip_next (Zic D hz hTI hTO h1 h2 hl1 hl2 e1 e2 λh' b0 b1 b2 b3 b4 b5 b6=>Wp (hQ h' b0 b1 b2 b3 b4 b5 b6)) (F.args_zip_next_1 _))))
theorem Zpy{TI TO:Addr}(hh:A.handled=none)(D:Ap z TI TO i1 i2 l1 l2)(hz:ia s.heap z TI TO .none)(hTI:Zcn s.heap TI [.ref i1,.ref i2])(hTO:Zcn s.heap TO [a1,a2])(h1:s.heap.IsListIter i1 l1 k)(h2:dH s.heap i2 l2 k)(hl1:s.heap.IsList l1 xs1)(hl2:hV s.heap l2 xs2)(hend:xs1[k]?=none\/xs2[k]?=none)(hQ:∀h',(∀c o,c≠z->c≠TO->c≠i1->c≠i2->s.heap.get? c=some o->h'.get? c=some o)->Q none {s with heap:=h'}):wpAny (aE prog w) A (fj (.ref z)) Q E s:=by
 have hT:s.TypeIs (.ref z) "zip":=⟨_,hz,rfl⟩;unfold fj;refine Wb (d8 (cA (name:=a9 "__next__") hT F.slot_zip_next (b7 F.slot_zip_next hT F.entry_zip_next (Zkr hh D hz hTI hTO h1 h2 hl1 hl2 hend λh' e hk he=>?_) (F.args_zip_next_1 _))))
 obtain⟨o,ho,hc⟩:=he;refine Wb (c7 (T:="StopIteration") (b:=true) ⟨o,ho,hc⟩ isSubtype_stop ?_);exact Wp (hQ _ hk)
theorem Zks(a1 a2:aa):checkTypeCall "zip" ⟨[a1,a2],[]⟩=pure ():=by kernel_rfl
theorem ZmU(a1 a2:aa):checkBuiltinCall "zip.__new__" ⟨[.type "zip",a1,a2],[]⟩=pure ():=by kernel_rfl
theorem Zid(a0 a1 a2:aa):argsOk "object.__init__" ⟨[a0,a1,a2],[]⟩:=by
 unfold argsOk;rw[signature?_of (id:="object.__init__") (n:=['_','_','t','i','n','i','_','_']) (o:=['t','c','e','j','b','o']) (by kernel_rfl) F.owner_object];kernel_rfl
abbrev zH1(h:Heap)(l1:Addr):Heap:=h.push {cls:=.type "list_iterator",data:=.fields #[.ref l1,.int 0 0]}
abbrev zH2(h:Heap)(l1 l2:Addr):Heap:=(zH1 h l1).push {cls:=.type "tuple_iterator",data:=.fields #[.ref l2,.int 0 0]}
abbrev zH3(h:Heap)(l1 l2:Addr):Heap:=(zH2 h l1 l2).push {cls:=.type "tuple",data:=.seq #[.ref h.objs.size,.ref (zH1 h l1).objs.size]}
abbrev zH4(h:Heap)(l1 l2:Addr):Heap:=(zH3 h l1 l2).push {cls:=.type "tuple",data:=.seq #[.none,.none]}
abbrev zH5(h:Heap)(l1 l2:Addr):Heap:=(zH4 h l1 l2).push {cls:=.type "zip",data:=.fields #[.none,.bool false,.bool false,.ref (zH2 h l1 l2).objs.size,.ref (zH3 h l1 l2).objs.size]}
theorem ZsA(l1 l2:Addr)(xs1 xs2:Array aa):Meets (cW.«zip.__new__» ⟨[.type "zip",.ref l1,.ref l2],[]⟩) (λ_ R s=>s.heap.IsList l1 xs1/\hV s.heap l2 xs2/\R (.ok (.ret (.ref (zH4 s.heap l1 l2).objs.size))) {s with heap:=zH5 s.heap l1 l2}):=
 .of_wp λprog w A R s h=>by
  obtain⟨hp,g,d,tk,os⟩:=s;obtain⟨hl1,hl2,h⟩:=h;have hsub:=sub_zip;have hL1:mB.IsList (aH.heap ⟨hp,g,d,tk,os⟩) l1 xs1:=hl1;have hL2:hV (aH.heap ⟨(hp.push {cls:=.type "list_iterator",data:=.fields #[.ref l1,.int 0 0]}),g,d,tk,os⟩) l2 xs2:=hV.push hl2 _
  wp_walk using gH hL1,iter_tuple hL2
  exact⟨_,rfl,h⟩
theorem Zkt(hl1:s.heap.IsList l1 xs1)(hl2:hV s.heap l2 xs2)(h:∀h',ia h' (s.heap.objs.size+4) (s.heap.objs.size+2) (s.heap.objs.size+3) .none->Zcn h' (s.heap.objs.size+2) [.ref s.heap.objs.size,.ref (s.heap.objs.size+1)]->Zcn h' (s.heap.objs.size+3) [.none,.none]->h'.IsListIter s.heap.objs.size l1 0->dH h' (s.heap.objs.size+1) l2 0->h'.objs.size=s.heap.objs.size+5->(∀c o,s.heap.get? c=some o->h'.get? c=some o)->Q (.ref (s.heap.objs.size+4)) {s with heap:=h'}):wpAny (aE prog w) A (call (.type "zip") [.ref l1,.ref l2]) Q E s:=by
 refine callType_new F.called_zip (by decide) (Zks _ _) (ZmU _ _) (λobj=>Zid obj _ _) F.entry_zip_new
  (ZsA l1 l2 xs1 xs2) ⟨hl1,hl2,?_⟩
 have z1:(zH1 s.heap l1).objs.size=s.heap.objs.size+1:=cC ..;have z2:(zH2 s.heap l1 l2).objs.size=s.heap.objs.size+2:=by rw[cC,z1]
 have z3:(zH3 s.heap l1 l2).objs.size=s.heap.objs.size+3:=by rw[cC,z2]
 have z4:(zH4 s.heap l1 l2).objs.size=s.heap.objs.size+4:=by rw[cC,z3]
 have z5:(zH5 s.heap l1 l2).objs.size=s.heap.objs.size+5:=by rw[cC,z4]
 have g5:(zH5 s.heap l1 l2).get? (zH4 s.heap l1 l2).objs.size=some _:=aF _ rfl;have g4:(zH5 s.heap l1 l2).get? (zH3 s.heap l1 l2).objs.size=some _:=Hq _ (aF _ rfl);have g3:(zH5 s.heap l1 l2).get? (zH2 s.heap l1 l2).objs.size=some _:=Hq _ (Hq _ (aF _ rfl));have g2:(zH5 s.heap l1 l2).get? (zH1 s.heap l1).objs.size=some _:=Hq _ (Hq _ (Hq _ (aF _ rfl)));have g1:(zH5 s.heap l1 l2).get? s.heap.objs.size=some _:=Hq _ (Hq _ (Hq _ (Hq _ (aF _ rfl))));show _/\_;rw[z2,z3,z4]at g5;rw[z1,z2]at g3;rw[z3]at g4;rw[z1]at g2;rw[z4];exact⟨⟨_,g5,rfl⟩,h _ g5 g3 g4 ⟨_,g1,rfl,rfl⟩ ⟨_,g2,rfl,rfl⟩ z5 λc o x=>Hq _ (Hq _ (Hq _ (Hq _ (Hq _ (x)))))⟩
def Itz(K:Fg)(l1 l2:Addr):It:=
 ⟨λi H=>∃xs1 xs2 v1 v2,SqL K H l1 xs1/\SqT K H l2 xs2/\xs1[i]?=some v1/\xs2[i]?=some v2,λi H x H'=>∃p,H p=none/\(x=.ref p/\∀xs1 xs2 v1 v2,SqL K H l1 xs1->SqT K H l2 xs2->xs1[i]?=some v1->xs2[i]?=some v2->H'=upd H p (.tup [v1,v2])),λi H=>∃xs1 xs2,SqL K H l1 xs1/\SqT K H l2 xs2/\(xs1.length<=i\/xs2.length<=i)⟩
theorem Zdz{K:Fg}(hB:B.handled=none){TI TO:Addr}(D:Ap z TI TO i1 i2 l1 l2):Turn P w K B (.Tuple elts k0 tp) (Itz K l1 l2) [z,TI,TO,i1,i2] z (λi h=>ia h z TI TO .none/\Zcn h TI [.ref i1,.ref i2]/\(∃a1 a2,Zcn h TO [a1,a2])/\h.IsListIter i1 l1 i/\dH h i2 l2 i) where
 mem:=by simp
 obj:=λi h st c hc=>by
  obtain⟨h1,h2,⟨a1,a2,h3⟩,⟨o1,e1,c1,d1⟩,⟨o2,e2,c2,d2⟩⟩:=st;simp only[ar,bD,or_false]at hc;rcases hc with rfl|rfl|rfl|rfl|rfl
  .exact⟨_,h1,λv q=>by cases q⟩
  .exact⟨_,h2,λv q=>by cases q⟩
  .exact⟨_,h3,λv q=>by cases q⟩
  .exact⟨o1,e1,λv q=>by rw[d1]at q;cases q⟩
  .exact⟨o2,e2,λv q=>by rw[d2]at q;cases q⟩
 keep:=λi h h' st k=>by
  obtain⟨h1,h2,⟨a1,a2,h3⟩,t1,t2⟩:=st;exact⟨k z (by simp) _ h1,k TI (by simp) _ h2,⟨a1,a2,k TO (by simp) _ h3⟩,t1.at λo q=>k i1 (by simp) o q,tat t2 λo q=>k i2 (by simp) o q⟩
 item:=by
  intro X hP hw hK hA i pins s σ H E I hf st hg;subst hP hw hK hA;obtain⟨h1,h2,⟨a1,a2,h3⟩,t1,t2⟩:=st;obtain⟨xs1,xs2,v1,v2,q1,q2,m1,m2⟩:=hg;obtain⟨its1,rv1,p1,hz1⟩:=I.list q1;obtain⟨u1,hu1,ru1⟩:=rv1.get m1;obtain⟨its2,rv2,p2,hz2⟩:=I.tuple q2;obtain⟨u2,hu2,ru2⟩:=rv2.get m2;have lt:∀c∈[z,TI,TO,i1,i2],c<s.heap.objs.size:=λc hc=>by
   simp only[ar,bD,or_false]at hc;rcases hc with rfl|rfl|rfl|rfl|rfl
   .exact Hz h1
   .exact Hz h2
   .exact Hz h3
   .obtain⟨o,e2,_⟩:=t1;exact Hz e2
   .obtain⟨o,e2,_⟩:=t2;exact Hz e2
  refine ZmT D h1 h2 h3 t1 t2 p1.isList p2 (x1:=u1) (x2:=u2) (by simpa using hu1) (by simpa using hu2) λh' o1 o2 w1 w2 o5 o6 o7=>⟨_,rfl,?_⟩
  refine jf (s:={s with heap:=h'}) o1 λh'' r1 r2=>?_;have pe:s.heap.objs.size≠z:=aQ (lt z (by simp))
  obtain⟨J1,J2,J3⟩:=ZhS (h':=h'') (t':=s.toks) (ch:=[z,TI,TO,i1,i2]) (vs:=[v1,v2]) (us:=[u1,u2]) I hf lt (.cons ru1 (.cons ru2 .nil)) (by show 2<=sizeLine;decide)
   (λc o hc q=>by
    simp only[ar,bD,or_false,not_or]at hc;exact(r2.2 c hc.1).trans (o7 c o hc.1 hc.2.2.1 hc.2.2.2.1 hc.2.2.2.2 q)) ((r2.2 _ pe).trans o5)
  refine⟨.ref s.heap.objs.size,_,J1,rfl,⟨_,J2,rfl,λxs1' xs2' v1' v2' s1 s2 n1 n2=>?_⟩,⟨r1,(r2.2 TI D.z_TI.symm).trans (o7 TI _ D.z_TI.symm D.TI_TO D.TI_i1 D.TI_i2 h2),⟨u1,u2,(r2.2 TO D.z_TO.symm).trans o2⟩,w1.at λo q=>(r2.2 i1 D.z_i1.symm).trans q,tat w2 λo q=>(r2.2 i2 D.z_i2.symm).trans q⟩,J3⟩;rw[I.list_inj s1 q1,m1]at n1;cases n1;rw[I.tuple_inj s2 q2,m2]at n2;cases n2;rfl
 done:=by
  intro X hP hw hK hA i pins s σ H E I hf st hg;subst hP hw hK hA;obtain⟨h1,h2,⟨a1,a2,h3⟩,t1,t2⟩:=st;obtain⟨xs1,xs2,q1,q2,hx⟩:=hg;obtain⟨its1,rv1,p1,hz1⟩:=I.list q1;obtain⟨its2,rv2,p2,hz2⟩:=I.tuple q2;have he:its1.toArray[i]?=none\/its2.toArray[i]?=none:=by
   rcases hx with hx|hx
   .exact(.inl (by simp only[dK];exact aL (by rw[<-rv1.length];exact hx)))
   .exact(.inr (by simp only[dK];exact aL (by rw[<-rv2.length];exact hx)))
  refine Zpy hB D h1 h2 h3 t1 t2 p1.isList p2 he λh' keep=>⟨rfl,?_⟩;refine Ze9 (t':=s.toks) (ch:=[z,TI,TO,i1,i2]) I (λc o hc q=>?_) hf;simp only[ar,bD,or_false,not_or]at hc;exact keep c o hc.1 hc.2.2.1 hc.2.2.2.1 hc.2.2.2.2 q
 self:=λA i s Q E st q=>wpAny_pyIter_zip st.1 q
theorem ZhU{n:Nat}(h1:l1<n)(h2:l2<n):Ap (n+4) (n+2) (n+3) n (n+1) l1 l2:=⟨aQ ⋯,aQ ⋯,aQ ⋯,aQ ⋯,az ⋯,aQ ⋯,aQ ⋯,aQ ⋯,aQ ⋯,az ⋯,az ⋯,az ⋯,az ⋯,az ⋯,az ⋯,az ⋯,az ⋯,az ⋯⟩
def Zsy(K:Fg)(t:TA):TI:=λσ H R=>t σ H λvs H1=>∃l1 l2 xs1 xs2,vs=[.ref l1,.ref l2]/\SqL K H1 l1 xs1/\SqT K H1 l2 xs2/\R (Itz K l1 l2) H1
theorem ZhV(hc:X.A.handled=none)(hg:Gl X "zip")(hm:X.mg "zip"=none)(ha:PA X [y1,y2] ta)(hs:autoParam (aA [y1,y2] X.env=(false,eval y1 X.env)::aA [y2] X.env) Qrf._auto_1)(hpl:autoParam ((cR pos (aA [y2] X.env)).any (·.1)=false) Qrf._auto_1):
  PI X (.Tuple elts k0 tp) (.Call (.Name "zip" p) [y1,y2] [] pos) (Zsy X.K ta):=by
 intro pins s σ H R I h;refine wpAny_Call_Name_kw (Zbs I hg hm Zlr (bY (thn (ha pos pins s σ H _ I h) λus s1 hz=>?_) hs hpl) (by decide) (by decide))
 obtain⟨vs,H1,I1,r1,q1⟩:=hz;obtain⟨l1,l2,xs1,xs2,rfl,hq1,hq2,q⟩:=q1;cases r1 with
 |cons ru1 rr1=>
 cases rr1 with
 |cons ru2 rr2=>
 cases rr2 with
 |nil=>
 cases ru1;cases ru2;obtain⟨its1,rv1,pl1,hz1⟩:=I1.list hq1;have lt1:l1<s1.heap.objs.size:=by obtain⟨_,e,_⟩:=pl1.isList;exact Hz e
 obtain⟨its2,rv2,pl2,hz2⟩:=I1.tuple hq2;have lt2:l2<s1.heap.objs.size:=by obtain⟨_,e,_⟩:=pl2;exact Hz e
 refine Zkt pl1.isList pl2 λh' ez eti eto ei1 ei2 esz ek=>?_;have D:=ZhU lt1 lt2;have T:=Zdz (P:=X.prog) (w:=X.w) (K:=X.K) (B:=X.A) (elts:=elts) (k0:=k0) (tp:=tp) hc D;have I2:Inv X pins σ H1 {s1 with heap:=h',toks:=s1.toks}:=I1.kept (t':=s1.toks) ek;refine T.self X.A 0 {s1 with heap:=h'} _ _ ⟨ez,eti,⟨_,_,eto⟩,ei1,ei2⟩ ⟨_,_,_,_,H1,rfl,I2,T,⟨ez,eti,⟨_,_,eto⟩,ei1,ei2⟩,λc hc=>?_,q⟩;have hb':s1.heap.objs.size<=c:=by
  simp only[ar,bD,or_false]at hc;rcases hc with rfl|rfl|rfl|rfl|rfl<;>lia
 exact I1.fpOk hb' (I1.hok.fresh hb')
def iZt(fs:Av):Ro->Sto->Out Src:=λρ M=>(fs ρ M).bind λds M1=>match ds with|[.ref n,.tup es]=>.ok (.zipT n es) M1|_=>.bad
theorem ZcI(hc:X.A.handled=none)(hm:X.mg "zip"=none)(ha:DA X ξ [y1,y2] fs)(hg:autoParam (Gl X "zip") Qrf._auto_1)(hs:autoParam (aA [y1,y2] X.env=(false,eval y1 X.env)::aA [y2] X.env) Qrf._auto_1)(hpl:autoParam ((cR pos (aA [y2] X.env)).any (·.1)=false) Qrf._auto_1):
  DI X ξ (.Tuple elts k0 tp) (.Call (.Name "zip" p) [y1,y2] [] pos) (iZt fs):=by
 obtain⟨ta,pa,qa⟩:=ha;refine⟨_,ZhV hc hg hm pa hs hpl,λσ ρ H α M R s hh q=>qa σ ρ H α M _ s hh (OG.seq q λds M1 vs H1 α1 e1 h1 r1 w1=>?_)⟩
 split at w1
 .rename_i n es;cases r1 with
  |cons r t=>
   cases t with
   |cons r' t=>
    cases t;cases r with
    |@ref l1 _ hp=>
     have rr:=r';cases r' with
     |@tup l2 zs2 _ hp2 rp2=>
      obtain⟨zs1,g1⟩:=h1.some_at hp;refine⟨l1,l2,zs1,zs2,rfl,SqL.of g1,SqT.of hp2,w1 _ H1 α1 Ext.refl h1 λi H' α' M' ex hr=>?_⟩;have rm:=Rep.mono ex rr;cases em:M'[n]? with
      |none=>rw[show nxt (.zipT n es) i M'=none by simp only[nxt,em]];exact c9
      |some so=>
       cases so with
       |lst es1=>
        obtain⟨xs1,g11,g21⟩:=hr.at (ex.get hp) em;cases rm with
        |@tup _ xs2 _ hp2' rp2'=>
         cases ei1:es1[i]? with
         |none=>
          rw[show nxt (.zipT n es) i M'=some none by simp only[nxt,em,ei1]]
          exact⟨xs1,xs2,SqL.of g11,SqT.of hp2',.inl (by rw[g21.length];exact bw.mp ei1)⟩
         |some d1=>
          cases ei2:es[i]? with
          |none=>
           rw[show nxt (.zipT n es) i M'=some none by simp only[nxt,em,ei1,ei2]]
           exact⟨xs1,xs2,SqL.of g11,SqT.of hp2',.inr (by rw[rp2'.length];exact bw.mp ei2)⟩
          |some d2=>
           obtain⟨v1,k11,k21⟩:=g21.get ei1;obtain⟨v2,k12,k22⟩:=rp2'.get ei2;rw[show nxt (.zipT n es) i M'=some (some (D.tup [d1,d2]))by simp only[nxt,em,ei1,ei2]]
           refine⟨⟨xs1,xs2,v1,v2,SqL.of g11,SqT.of hp2',k11,k12⟩,λx H'' y=>?_⟩;obtain⟨pp,y1,rfl,y3⟩:=y;have y4:=y3 xs1 xs2 v1 v2 (SqL.of g11) (SqT.of hp2') k11 k12;subst y4;exact⟨Ext.new0 y1,hr.tup y1,.tup Zx (.cons (Rep.mono (Ext.new0 y1) k21) (.cons (Rep.mono (Ext.new0 y1) k22) .nil))⟩
     |_=>exact w1.elim
    |_=>exact w1.elim
 .exact w1.elim
end DLy2
namespace PySem.SeqAt
open PySem.AutoSeq1 (wpAny_loadPart')
open MeetsSeq MeetsSeq2 MeetsSeq3 SeqRoads2
end PySem.SeqAt
namespace DL
open PyProof.Rows L2
open PySem.SeqAt
noncomputable def Zfb:List D->Option (List Int)
 |[]=>some []
 |.int i::r=>match Zfb r with|some is=>some (i::is)|none=>none
 |_::_=>none
theorem Zie{K:Fg}(h9:Reps K H α vs ds):Zfb ds=some a->vs=a.map V.int:=by
 induction ds generalizing vs a with
 |nil=>intro e;cases h9;cases e;rfl
 |cons d ds ih9=>
  intro e;cases h9 with
  |cons r t=>
   cases r with
   |int i=>
    unfold Zfb at e
    split at e
    .rename_i is e1;cases e;rw[ih9 t e1];rfl
    .cases e
   |_=>cases e
section
variable {H:Hp}{α:List Addr}
theorem Zif:∀{xs:List V}{us:List aa}{j:Nat}{u:aa},ZU xs us->us[j]?=some u->∃x,xs[j]?=some x/\ZT x u
 |[],us,j,u,h,e=>by cases h;simp at e
 |x::xs,us,j,u,h,e=>by
  cases h with
  |cons h1 h2=>
   cases j with
   |zero=>simp at e;subst e;exact⟨x,rfl,h1⟩
   |succ j=>simp at e;obtain⟨y,g1,g2⟩:=Zif h2 e;exact⟨y,by simpa using g1,g2⟩
theorem Zig{K:Fg}:∀{xs:List V}{ds:List D}{j:Nat}{x:V},Reps K H α xs ds->xs[j]?=some x->∃d,ds[j]?=some d/\Rep K H α x d
 |_,_,j,x,.nil,e=>by simp at e
 |_,_,0,x,.cons r _,e=>by simp at e;subst e;exact⟨_,rfl,r⟩
 |_,_,j+1,x,.cons _ t,e=>by
  obtain⟨d,g1,g2⟩:=Zig (j:=j) t (by simpa using e)
  exact⟨d,by simpa using g1,g2⟩
end
end DL
namespace PySem
open PySem.Sem (wp)
end PySem
namespace DL
open PyProof.Rows L2
open PySem.SeqAt
end DL
namespace HT
open PyProof.Rows
section
open PySem.SeqAt
open PySem.AutoSeq1 (wpAny_loadPart')
open PySem.MeetsSeq PySem.MeetsSeq2 PySem.MeetsSeq3
end
end HT
namespace DL
open PyProof.Rows L2
end DL
namespace DL
open PyProof.Rows L2
end DL
namespace DL
open PyProof.Rows L2
end DL
namespace DL
open PyProof.Rows L2
theorem ZmV(nd:(d==iS)=false)(gd:s.heap.get? d=some od)(cd:od.cls=.type "dict")(ed:od.data=.dict es ep)(q:Q (.ref s.heap.objs.size) {s with heap:=s.heap.push {cls:=.type "dict_keyiterator",data:=.fields #[.ref d,.int 0 0,.int es.size 0,.int ep 0]}}):wpAny (aE prog w) A (pyIter (.ref d)) Q E s:=by
 have ty:s.TypeIs (.ref d) "dict":=⟨od,gd,cd⟩;have nm:¬(d==iS)=true:=by rw[nd];exact bV
 refine jl ty F.slot_dict_iter (b7 F.slot_dict_iter ty F.entry_dict_iter ?_ (F.args_dict_iter_1 _));unfold cW.«dict.__iter__» cW.Dict.dictSlotNone;refine Wb (Wb (wpAny_notOrdered_dict ty (show wpAny (aE prog w) _ (pure (aN d)) _ _ s from Wp ?_)));show wpAny (aE prog w) _ (j9 d >>= _) _ _ s;unfold j9;rw[if_neg nm];refine Wb (Wp (Wb (jo gd ed (Wb (j5 gd ed (Wb (bK (Wp ⟨_,rfl,"dict_keyiterator",_,⟨_,aF _ rfl,rfl⟩,F.slot_dict_keyiterator_next.lookup,?_⟩))))))))
 simpa [cT]using q
theorem Zih:cW.Dict_items.ownsTuple "dict_keyiterator"=false:=by decide
theorem Zpz(hi:s.heap.IsKeyIter it d i es.size ep)(gd:s.heap.get? d=some od)(ed:od.data=.dict es ep)(he:es[i]?=some e)(q:∀h',h'.IsKeyIter it d (i+1) es.size ep->dw it s.heap h'->Q (some e.key) {s with heap:=h'}):wpAny (aE prog w) A (fj (.ref it)) Q E s:=by
 obtain⟨oi,gi,ci,di⟩:=id hi;obtain⟨lt,ee⟩:=cU.mp he;have sl:=F.slot_dict_keyiterator_next;have n1:¬((aN d==bp)=true):=bV;have n2:¬((i:Int)<0):=⋯
 unfold fj;refine Wb (d8 (cA (name:=a9 "__next__") hi.typeIs sl (b7 sl hi.typeIs F.entry_dict_keyiterator_next ?_ (F.args_dict_keyiterator_next_1 _))));refine Wb (Wp (Wb (Wb ?_)))
 first|refine Wb (dh hi.typeIs (Wp (Wb (i6 gi di ?_))))|refine Wb (eE hi.typeIs (Wp (Wb (i6 gi di ?_))))
 simp only[Zih,aS,if_false];show wpAny (aE prog w) _ (if(aN d==bp)=true then _ else _) _ _ s
 rw[if_neg n1];refine Wb (Wp (Wb (jo gd ed ?_)));rw[if_neg (by simp)]
 refine Wb (Wp (Wb (j5 gd ed ?_)));rw[if_neg (by simp)]
 refine Wp ?_;simp only[n2,if_false,be,he];refine Wb ?_;have st:(s.heap.update it (dA (·.setIfInBounds 1 (cT ((i:Int)+1))))).IsKeyIter it d (i+1) es.size ep:=⟨_,bz _ gi (cY (cN di _)),(gv ..).trans ci,by rw[cN di];simp[cT]⟩
 first|refine Wb (dh hi.typeIs (Wp (Wb (gX hi.typeIs ?_))))|refine Wb (eE hi.typeIs (Wp (Wb (gX hi.typeIs ?_))))
 show wpAny (aE prog w) _ (setField (.ref it) 1 (cT ((i:Int)+1)) >>= _) _ _ s;refine Wb (cS gi di (by simp) (Wb (wpAny_holding (Wb (gX (s:={s with heap:=s.heap.update it (dA (·.setIfInBounds 1 (cT ((i:Int)+1))))}) st.typeIs ?_)))))
 show wpAny (aE prog w) _ (pure e.key) _ _ _;exact Wp (Wp ⟨_,rfl,Wp (q _ st (cI ..))⟩)
theorem ZpA(qq:DQ.ZaU A s.heap)(hi:s.heap.IsKeyIter it d i es.size ep)(gd:s.heap.get? d=some od)(ed:od.data=.dict es ep)(he:es[i]?=none):wpAny (aE prog w) A.in1 (cW.«dict_keyiterator.__next__» ⟨[.ref it],[]⟩) (λ_ _=>False) (DQ.ZfC it s) s:=by
 obtain⟨oi,gi,ci,di⟩:=id hi;have n1:¬((aN d==bp)=true):=bV;have n2:¬((i:Int)<0):=⋯
 refine Wb (Wp (Wb (Wb ?_)))
 first|refine Wb (dh hi.typeIs (Wp (Wb (i6 gi di ?_))))|refine Wb (eE hi.typeIs (Wp (Wb (i6 gi di ?_))))
 simp only[Zih,aS,if_false];show wpAny (aE prog w) _ (if(aN d==bp)=true then _ else _) _ _ s
 rw[if_neg n1];refine Wb (Wp (Wb (jo gd ed ?_)));rw[if_neg (by simp)]
 refine Wb (Wp (Wb (j5 gd ed ?_)));rw[if_neg (by simp)]
 refine Wp ?_;simp only[n2,if_false,be,he];refine Wb ?_
 first|refine Wb (dh hi.typeIs (Wp ?_))|refine Wb (eE hi.typeIs (Wp ?_))
 show wpAny (aE prog w) _ (setField (.ref it) 0 .none >>= _) _ _ s;refine Wb (cS gi di (by simp) ?_)
 have q2:DQ.ZaU A.in1 (s.heap.update it (dA (·.setIfInBounds 0 bp))):=by
  rcases qq with qq|⟨ea,oe,vs,e1,e2,e3,e4⟩
  .exact .inl qq
  .refine .inr ⟨ea,oe,vs,e1,?_,e3,e4⟩;rw[aG _ _ (λz=>?_)]
   .exact e2
   .rw[<-z,gi]at e2;cases e2;rw[di]at e3;cases e3;simp at e4
 refine DQ.Zbm q2 λh' e k ho=>⟨e,rfl,ho,h',λb o hb z=>k b o ?_,rfl⟩;rw[aG _ _ (bh hb)];exact z
theorem ZgS(qq:DQ.ZaU A s.heap)(hi:s.heap.IsKeyIter it d i es.size ep)(gd:s.heap.get? d=some od)(ed:od.data=.dict es ep)(he:es[i]?=none)(q:∀h',eO it s.heap h'->Q none {s with heap:=h'}):wpAny (aE prog w) A (fj (.ref it)) Q E s:=
 DQ.ZfD hi.typeIs F.slot_dict_keyiterator_next F.entry_dict_keyiterator_next (F.args_dict_keyiterator_next_1 _) (ZpA qq hi gd ed he) q
end DL
namespace DL
open PyProof.Rows L2 PySem.W
theorem Zku(lo:(d==iS)=false):KdlSrc prog w "dict" d d es.size (λi v=>∃e:k8,es[i]?=some e/\v=e.key) (λh=>∃o,h.get? d=some o/\o.cls=.type "dict"/\o.data=.dict es ep) where
 type:=λ_ ⟨o,e,c,_⟩=>⟨o,e,c⟩
 there:=λ_ ⟨o,e,_⟩=>⟨Hz e,Hz e⟩
 keep:=λ_ _ ⟨o,e,r⟩ hk=>⟨o,hk d (.inl rfl) o e,r⟩
 notList:=by decide
 notTuple:=by decide
 hint:=λ_ _ _ _ ⟨o,e,c,_⟩ hq=>kdl_hint_dict ⟨o,e,c⟩ hq
 iter:=λA s hh ⟨o,e,c,dd⟩=>⟨_,λi h=>h.IsKeyIter s.heap.objs.size d i es.size ep/\∃o,h.get? d=some o/\o.cls=.type "dict"/\o.data=.dict es ep,λ_ _ hq=>ZmV lo e c dd hq,{
  sub:=λb hb=>by simp at hb;simp[hb]
  frame:=λ_ _ _ st hk=>⟨st.1.at λo e=>hk _ (by simp) o e,let ⟨o,e,r⟩:=st.2;⟨o,hk d (by simp) o e,r⟩⟩
  item:=λi s' Q E hi st hQ=>by
   obtain⟨o',e',c',d'⟩:=st.2;have ne:d≠s.heap.objs.size:=az (Hz e);refine Zpz st.1 e' d' (dN hi) λh' it' sb=>hQ _ h' s'.toks ⟨_,dN hi,rfl⟩ ⟨it',o',by rw[sb.2 d ne];exact e',c',d'⟩ λb ob hb eb=>?_
   rw[sb.2 b (λz=>hb (by simp[z]))]
   exact eb
  done:=λs' Q E st hQ=>by
   obtain⟨o',e',c',d'⟩:=st.2;exact ZgS (.inl hh) st.1 e' d' (by simp) λh' he'=>hQ h' s'.toks λb ob hb eb=>he' b ob (λz=>hb (by simp[z])) eb
  self:=λ_ _ _ _ st hQ=>wpAny_pyIter_keyiter st.1 hQ},⟨_,aF _ rfl,rfl,rfl⟩,o,Hq _ e,c,dd⟩
def ZjP:List D->Option (List (List Key))
 |[]=>some []
 |d::r=>match kT d,ZjP r with|some k,some ks=>some (k::ks)|_,_=>none
def kyU:D->Option (List (List Key))
 |.tup ds=>ZjP ds
 |_=>none
theorem Zcw:∀{ds:List D}{ks:List (List Key)},ZjP ds=some ks->ds=ks.map Ze1
 |[],ks,h=>by cases h;rfl
 |d::r,ks,h=>by
  unfold ZjP at h
  split at h
  .rename_i k ks' e1 e2;cases h;rw[aR,<-Zpv e1,<-Zcw e2]
  .cases h
theorem Zet:∀(ks:List (List Key)),ZjP (ks.map Ze1)=some ks
 |[]=>rfl
 |k::ks=>by rw[aR,ZjP,Zkp,Zet ks]
theorem ZmW(h:kyU d=some ks):d=Zms ks:=by
 cases d with
 |tup ds=>rw[Zms,<-Zcw h]
 |_=>cases h
theorem Zkv(ks:List (List Key)):kyU (Zms ks)=some ks:=Zet ks
section
variable {K:Fg}{H:Hp}{α:List Addr}
theorem Zii(h9:Reps K H α vs ds):kKs ds=some ks->vs=ks.map kV:=by
 induction ds generalizing vs ks with
 |nil=>intro e;cases h9;cases e;rfl
 |cons d ds ih9=>
  intro e;cases h9 with
  |cons r t=>
   unfold kKs at e
   split at e
   .rename_i k ks' e1 e2;cases e;rw[aR,ih9 t e2];congr 1;cases r with
    |int i=>cases e1;rfl
    |str x=>cases e1;rfl
    |_=>cases e1
   .cases e
theorem Zdn:∀{xs:List V}{ds:List D}{ks:List (List Key)},Reps K H α xs ds->ZjP ds=some ks->∃cs:List Addr,xs=cs.map V.ref/\Paired (λ(k:List Key) (c:Addr)=>H c=some (.tup (k.map kV))) ks cs
 |_,_,ks,.nil,h=>by cases h;exact⟨[],rfl,.nil⟩
 |_,_,ks,.cons (v:=v) (d:=d) (ds:=ds) r t,h=>by
  unfold ZjP at h
  split at h
  .rename_i k ks' e1 e2;cases h;obtain⟨cs,h1,h2⟩:=Zdn t e2;cases r with
   |@tup p xs ds' hb rb=>exact⟨p::cs,by rw[h1];rfl,.cons (by rw[hb,Zii rb e1]) h2⟩
   |_=>cases e1
  .cases h
theorem ZmX(r:Rep K H α (.ref b) d)(e:kyU d=some ks):Zap H ks b:=by
 cases r with
 |@tup p xs ds hb rb=>
  obtain⟨cs,h1,h2⟩:=Zdn rb e;exact⟨cs,by rw[hb,h1],h2⟩
 |_=>cases e
theorem Zfc:∀(ks:List Key),Reps K H α (ks.map kV) (ks.map Zob)
 |[]=>.nil
 |.inl i::ks=>.cons (.int i) (Zfc ks)
 |.inr x::ks=>.cons (.str x) (Zfc ks)
theorem Zeu:∀{ks:List (List Key)} {cs:List Addr},Paired (λ(k:List Key) (c:Addr)=>H c=some (.tup (k.map kV))) ks cs->Reps K H α (cs.map V.ref) (ks.map Ze1)
 |_,_,.nil=>.nil
 |_,_,.cons h t=>.cons (.tup h (Zfc _)) (Zeu t)
theorem Zkw(h:Zap H ks b):Rep K H α (.ref b) (Zms ks):=by
 obtain⟨cs,h1,h2⟩:=h;exact .tup h1 (Zeu h2)
theorem Zap.up(h:Zap H ks b)(ht:∀b ys,H b=some (.tup ys)->H' b=some (.tup ys)):Zap H' ks b:=by
 obtain⟨cs,h1,h2⟩:=h;exact⟨cs,ht _ _ h1,Paired.mapP h2 λ_ _ z=>ht _ _ z⟩
end
abbrev KU(H:Hp):List (List (List Key)×V)->List (List (List Key)×Addr×aa)->Prop:=Paired λp q=>p.1=q.1/\Zap H p.1 q.2.1/\ZT p.2 q.2.2
theorem KU.any(r:KU H kvs xs)(k:List (List Key)):(kvs.any λkv=>decide (kv.1=k))=(ma xs k).isSome:=by
 induction r with
 |nil=>rfl
 |@cons p q ps qs h t ih=>
  unfold ma at ih ⊢;rw[List.any_cons,ih,dR,<-h.1];by_cases e:p.1=k
  .simp[e]
  .simp[e]
theorem KU.put(r:KU H kvs xs)(k:List (List Key))(hb:Zap H k b)(ry:ZT y u):KU H (ZjO kvs k y) (storedH xs k b u):=by
 have e:=r.any k;unfold ZjO storedH;rw[e];by_cases q:(ma xs k).isSome=true
 .rw[if_pos q,if_pos q];clear e q
  induction r with
  |nil=>exact .nil
  |@cons p q ps qs h t ih=>
   rw[aR,aR];refine .cons ?_ ih;unfold putAt;by_cases c:p.1=k
   .rw[if_pos c,if_pos (h.1.symm.trans c)];exact⟨h.1,h.2.1,ry⟩
   .rw[if_neg c,if_neg (λz=>c (h.1.trans z))];exact h
 .rw[if_neg q,if_neg q];exact Paired.snoc r ⟨rfl,hb,ry⟩
theorem Zij(ok:HOk P w H h)(e:Zap H ks a):(Zco (ZaJ P w)).is h ks a:=by
 obtain⟨cs,h1,h2⟩:=e;obtain⟨_,its,r,o,g1,g2,n,g3⟩:=(show ZaT P w H h a (.tup (cs.map V.ref))from ok a _ h1);refine⟨o,its.toArray,n,g1,g2,g3,?_⟩
 have:∀{ks:List (List Key)} {cs:List Addr} {vs:List aa},Paired (λ(k:List Key) (c:Addr)=>H c=some (.tup (k.map kV))) ks cs->ZU (cs.map V.ref) vs->NK.ItemsT (ZaJ P w) h ks vs:=by
  intro ks cs vs q
  induction q generalizing vs with
  |nil=>intro z;cases z;exact .nil
  |cons hk _ ih=>
   intro z;cases z with
   |cons z1 z2=>
    cases z1;exact .cons (Zo4 ok hk) (ih z2)
 simpa using this h2 r
theorem ZsB(ok:HOk P w H h)(e:H a=some (.dU kvs)):kvs.length<=sizeLine/\(a==iS)=false/\∃xs,KU H kvs xs/\h.DictOfH (Zco (ZaJ P w)) a xs:=by
 obtain⟨z,y,xs,r,o,es,ep,h1,h2,h3,h4,h5⟩:=(show ZaT P w H h a (.dU kvs)from ok a _ e);refine⟨z,y,xs,r,o,es,ep,h1,h2,h3,h4,λx hx=>?_,h5⟩;clear h4 h5 z e
 induction r with
 |nil=>cases hx
 |@cons p q ps qs hq t ih=>
  rcases ar.mp hx with z|hx
  .subst z
   have:=Zij ok hq.2.1
   rw[hq.1]at this;exact this
  .exact ih hx
section
variable {e:Expr}{tv:TE}
def tDNewU:TE:=λ_ H Q=>∀p,H p=none->Q (.ref p) (upd H p (.dU []))
theorem Zkx:PE X (.Dict [] [] pos) tDNewU:=λpins s σ H Q I h=>
 wpAny_Dict_empty ⟨.ref s.heap.objs.size,_,I.laid (a:=s.heap.objs.size) (o:=.dU []) (t':=s.toks) (λ_ _ q=>Hq _ q) (ae _) ⟨dB _,beq_eq_false_iff_ne.mpr (bh (az I.big)),[],.nil,_,#[],0,aF _ rfl,⟨rfl,rfl,rfl⟩,rfl,rfl,List.nodup_nil⟩,rfl,h _ (I.hok.fresh (ae _))⟩
noncomputable def eDnU:Ev:=λ_ M=>.ok (.du M.length) (M++[.lst []])
theorem ZpB:DE X ξ (.Dict [] [] pos) eDnU:=by
 refine⟨_,Zkx,λσ ρ H α M Q s h q p hp=>?_⟩;have kn:Kn (upd H p (.dU [])) p=some 3:=Zle;exact q (.ref p) _ (α++[p]) (Ext.new hp) (h.newO hp ⟨_,Zx,.dU Zh8⟩) (.du ⟨h.last p,kn⟩)
def ZsC(td ty tv:TE):TS:=λD σ H=>tv σ H λv H1=>td σ H1 λx H2=>ty σ H2 λy H3=>∃a kvs k b,x=.ref a/\H3 a=some (.dU kvs)/\y=.ref b/\Zap H3 k b/\kvs.length<sizeLine/\D.nx σ (upd H3 a (.dU (ZjO kvs k v)))
theorem ZmY(hu:X.A.units+2<iO)(ho:PE X o td)(hi:PE X i ty)(hv:PE X e tv)(hs:iK e (some (.Subscript o i pos')) pos.line X.env=pure false):PS X (.Assign [.Subscript o i pos'] e pos) (ZsC td ty tv):=by
 intro pins s σ H D I h;refine wpAny_Assign_Subscript (thn (hv pins s σ H _ I h) λr s1 ⟨v,H1,I1,rv,q1⟩=>thn (ho pins s1 σ H1 _ I1 q1) λu s2 ⟨x,H2,I2,rx,q2⟩=>thn (hi pins s2 σ H2 _ I2 q2) λiv s3 hz=>?_) hs;obtain⟨y,H3,I3,ry,a,kvs,k,b,ex,g1,ey,g2,l,q3⟩:=hz;subst ex ey;obtain rfl:u=aN a:=rx;obtain rfl:iv=aN b:=ry;obtain⟨z,hd,xs,rel,dd⟩:=ZsB I3.hok g1;have hz:xs.length<=sizeLine:=by rw[<-Paired.length rel];exact z
 have hl:(ZjO kvs k v).length<=sizeLine:=by have:=Ze0 kvs k v;lia
 refine wpAny_setItem_heap (hsz:=hz) (knd:=Zco (ZaJ X.prog X.w)) (by first|(show X.A.units+1+1<iO;lia)|(show X.A.units+1<iO;lia)) (Zij I3.hok g2) dd λh' dd' hs=>⟨σ,_,?_,q3⟩
 obtain⟨q,es,ep,hq,h2,h3,h4,_,h5⟩:=dd';refine Zmr I3 (by rw[g1];exact c9) hs ⟨q,hq⟩ ⟨hl,hd,_,Paired.mapP (rel.put k g2 rv) λp c t=>⟨t.1,Zap.up t.2.1 (λc ys ec=>?_),t.2.2⟩,q,es,ep,hq,h2,h3,h4,h5⟩
 rw[ZH (Zr1 ec g1 (λz=>nomatch z))];exact ec
def Zky(fo fi f:Ev):Sv:=λρ M=>Zas (f ρ M) λd M1=>Zas (fo ρ M1) λx M2=>Zas (fi ρ M2) λk M3=>match x with
 |.du n=>(match kyU k,M3[n]? with|some kk,some (.lst ds)=>if ds.length<10000000 then .nx ρ (M3.set n (.lst (Zoh kyU kk k d ds)))else .bad|_,_=>.bad)
 |_=>.bad
theorem ZmZ(hu:X.A.units+64<iO)(ho:DE X ξ o fo)(hi:DE X ξ i fi)(he:DE X ξ e f)(hs:autoParam (iK e (some (.Subscript o i pos')) pos.line X.env=pure false) Qrf._auto_1):DS X ξ (.Assign [.Subscript o i pos'] e pos) (Zky fo fi f):=by
 obtain⟨t,p,q⟩:=he;obtain⟨to,po,qo⟩:=ho;obtain⟨ti,pi,qi⟩:=hi;refine⟨_,ZmY ⋯ po pi p hs,λσ ρ H α M Dn s hh w=>q σ ρ H α M _ s hh (FP.seq w λd M1 v H1 α1 e1 h1 r1 w1=>?_)⟩
 refine qo σ ρ H1 α1 M1 _ (s.mono e1) h1 (FP.seq w1 λod M2 ov H2 α2 e2 h2 r2 w2=>?_);refine qi σ ρ H2 α2 M2 _ ((s.mono e1).mono e2) h2 (FP.seq w2 λkd M3 kv H3 α3 e3 h3 r3 w3=>?_);have sr:=((s.mono e1).mono e2).mono e3;have rv:=Rep.mono e3 (Rep.mono e2 r1);cases Rep.mono e3 r2 with
 |@du a n hp=>
  cases e5:kyU kd with
  |none=>simp only[e5]at w3;exact w3.elim
  |some kk=>
   cases em:M3[n]? with
   |none=>simp only[e5,em]at w3;exact w3.elim
   |some so=>
    cases so with
    |lst ds=>
     simp only[e5,em]at w3;by_cases hl:ds.length<10000000
     .simp only[if_pos hl]at w3;obtain⟨kvs,g1,g2⟩:=h3.atU hp em;have kn:Kn (upd H3 a (.dU (ZjO kvs kk v))) a=some 3:=Zle;have ex:Ext X.K H3 (upd H3 a (.dU (ZjO kvs kk v))) α3 α3:=Ext.wrK hp.kn (λ_ _ z=>by rw[g1]at z;cases z) kn
      have eg:=Zh9 Zkv kk g2 rv;rw[<-ZmW e5]at eg;obtain⟨b,rfl⟩:∃b,kv=.ref b:=by
       cases r3 with
       |@tup b xs ds' hb rb=>exact⟨b,rfl⟩
       |_=>cases e5
      refine⟨a,kvs,kk,b,rfl,g1,rfl,ZmX r3 e5,by rw[Zia g2];exact aj hl (by decide),?_⟩
      exact w3 σ _ α3 ex (h3.wrO hp.at' ex ⟨_,Zx,.dU (Zdh eg ex)⟩) (sr.mono ex)
     .simp only[if_neg hl]at w3;exact w3.elim
 |_=>exact w3.elim
theorem ZgT(hc:X.A.handled=none):Zbq X (.type "list") (λxs H Q=>∃d kvs,xs=[.ref d]/\H d=some (.dU kvs)/\∀l (bs:List Addr),H l=none->Paired (λ(p:List (List Key)×V) (b:Addr)=>Zap H p.1 b) kvs bs->Q (.ref l) (upd H l (.lst (bs.map V.ref)))):=by
 intro pins s σ H xs us Q I r h;obtain⟨d,kvs,rfl,g,q⟩:=h;obtain⟨u,rfl,ru⟩:=Zck r;cases ru;obtain⟨z,y,ys,rel,o,es,ep,h1,h2,h3,h4,h5⟩:=(show ZaT X.prog X.w H s.heap d (.dU kvs)from I.hok d _ g);have hl:es.size=kvs.length:=by rw[<-fM,h4,af,Paired.length rel]
 refine kdl_call (Zku (es:=es) (ep:=ep) y) hc ⟨o,h1,h2.1,h3⟩ (by rw[hl];exact z) λh' tk acc c keep hS hacc=>?_
 have ea:acc=((ys.map λx=>aN x.2.1):List aa).toArray:=by
  obtain⟨a1,a2⟩:=hacc;apply Array.ext';apply d7;intro j;rw[kc,bC];by_cases hj:j<acc.size
  .obtain⟨en,e1,e2⟩:=a2 j _ (dN hj);rw[dN hj,e2];rw[<-kc,h4,bC]at e1;cases ey:ys[j]? with
   |none=>rw[ey]at e1;cases e1
   |some x=>rw[ey]at e1;cases e1;rfl
  .rw[Array.getElem?_eq_none ⋯,aL (by rw[<-Paired.length rel,<-hl,<-a1];lia)]
   rfl
 refine⟨.ref s.heap.objs.size,_,I.laid (t':=tk) (o:=.lst ((ys.map (·.2.1)).map V.ref)) keep (ae _) ⟨?_,ys.map λx=>aN x.2.1,c,?_,by rw[ea]at hS;exact hS⟩,rfl,q _ (ys.map (·.2.1)) (I.hok.fresh (ae _)) ?_⟩
 .rw[af,af,<-Paired.length rel];exact z
 .have:∀l:List (List (List Key)×Addr×aa),ZU ((l.map (·.2.1)).map V.ref) (l.map λx=>aN x.2.1):=by
   intro l
   induction l with
   |nil=>exact .nil
   |cons a l ih=>exact .cons rfl ih
  exact this ys
 .have:∀{a:List (List (List Key)×V)} {b:List (List (List Key)×Addr×aa)},KU H a b->Paired (λ(p:List (List Key)×V) (c:Addr)=>Zap H p.1 c) a (b.map (·.2.1)):=by
   intro a b q
   induction q with
   |nil=>exact .nil
   |cons h _ ih=>exact .cons h.2.1 ih
  exact this rel
noncomputable def Zik:D->D|.tup [k,_]=>k|e=>e
def bLisU:W3:=λds M=>match ds with
 |[.du n]=>(match M[n]? with|some (.lst es)=>.ok (.ref M.length) (M++[.lst (es.map Zik)])|none=>.bad)
 |_=>.bad
theorem Zm0:CO X ξ (λxs H Q=>∃d kvs,xs=[.ref d]/\H d=some (.dU kvs)/\∀l (bs:List Addr),H l=none->Paired (λ(p:List (List Key)×V) (b:Addr)=>Zap H p.1 b) kvs bs->Q (.ref l) (upd H l (.lst (bs.map V.ref)))) bLisU:=by
 intro H α M vs ds Q h rs q;unfold bLisU at q
 split at q
 .rename_i n;cases rs with
  |cons r t=>
   cases t;cases r with
   |@du p _ hp=>
    cases em:M[n]? with
    |none=>rw[em]at q;exact q.elim
    |some so=>
     cases so with
     |lst es=>
      rw[em]at q;obtain⟨kvs,g1,es',rfl,g2⟩:=h.atU hp em;refine⟨p,kvs,rfl,g1,λl bs hl pr=>?_⟩;refine q _ _ (α++[l]) (Ext.new hl) (h.new hl ?_) (.ref ⟨h.last l,Kn.lst Zx⟩)
      have:∀{kvs:List (List (List Key)×V)} {bs:List Addr} {es':List D},kvs.length=es'.length->Paired (λ(p:List (List Key)×V) (b:Addr)=>Zap H p.1 b) kvs bs->Reps X.K H α (bs.map V.ref) ((bT (λkv e=>D.tup [Zms kv.1,e]) kvs es').map Zik):=by
       intro kvs bs es' hz q
       induction q generalizing es' with
       |nil=>exact .nil
       |cons hq _ ih=>
        cases es' with
        |nil=>cases hz
        |cons e es'=>exact .cons (Zkw hq) (ih (by simpa using hz))
      exact this (by have:=g2.length;rw[af]at this;exact this) pr
 .exact q.elim
end
end DL
namespace DL
open PyProof.Rows L2 PySem.W
end DL
namespace DL
open PyProof.Rows L2 PySem.W
abbrev IsZ(h:Heap)(z TI TO:Addr)(f0:aa)(f1:Bool):Prop:=
 h.get? z=some {cls:=.type "zip",dict:=none,data:=.fields #[f0,.bool f1,.bool false,.ref TI,.ref TO],slots:= #[]}
section
variable {s:aH}
def ZSt(z TI TO i1 i2 l1 l2:Addr)(xs ys:Array aa)(i:Nat)(h:Heap):Prop:=
 ((ia h z TI TO .none/\∃a b,IsPair h TO a b)\/∃(T:Addr) (f1:Bool) (oT:Obj),IsZ h z TI TO (cT T) f1/\h.get? T=some oT/\T≠z/\T≠i1/\T≠i2/\oT.cls=.type "tuple")/\IsPair h TI (.ref i1) (.ref i2)/\h.IsListIter i1 l1 i/\h.IsListIter i2 l2 i/\h.IsList l1 xs/\h.IsList l2 ys
theorem ZSt.type{TI TO:Addr}(st:ZSt z TI TO i1 i2 l1 l2 xs ys i s.heap):s.TypeIs (.ref z) "zip":=by
 rcases st.1 with⟨hz,_⟩|⟨T,f1,oT,hz,_⟩
 .exact⟨_,hz,rfl⟩
 .exact⟨_,hz,rfl⟩
theorem ZSt.iter{TI TO:Addr}(st:ZSt z TI TO i1 i2 l1 l2 xs ys i s.heap)(h:Q (.ref z) s):wpAny (aE prog w) A (pyIter (.ref z)) Q E s:=by
 have hT:=st.type;refine jl hT F.slot_zip_iter (b7 F.slot_zip_iter hT F.entry_zip_iter ?_ (F.args_zip_iter_1 _));show wpAny _ _ (ret (.ref z)) _ _ s;exact Wp ⟨_,rfl,"zip",_,hT,F.slot_zip_next.lookup,h⟩
end
end DL
namespace DL
open PyProof.Rows L2 PySem.W
noncomputable def ZsD(te:TE)(g1 g2:TG):TS:=λD σ H=>te σ H λx H1=>g1 x σ H1 λσ' H2=>g2 x σ' H2 D.nx
theorem Zm1(he:PE X e te)(h1:PG X t1 g1)(h2:PG X t2 g2)(hw:autoParam (eA [t1,t2] e X.env=pure none) Qrf._auto_1)(ha:autoParam ((bX [t1,t2] X.env).map (·.2)=[assign t1 X.env,assign t2 X.env]) Qrf._auto_1):PS X (.Assign [t1,t2] e pos) (ZsD te g1 g2):=by
 intro pins s σ H D I h;refine wpAny_Assign_two (thn (he pins s σ H _ I h) λv s1 hz=>?_) ha hw;obtain⟨x,H1,I1,r1,q1⟩:=hz;exact thn (h1 pins s1 σ H1 x v _ I1 r1 q1) λ_ s2 ⟨σ2,H2,I2,q2⟩=>thn (h2 pins s2 σ2 H2 x v _ I2 r1 q2) λ_ s3 q=>q
noncomputable def ZrT(g1 g2:Tg):Tg:=λd ρ=>match g1 d ρ with|some ρ1=>g2 d ρ1|none=>none
theorem Zm2(he:DE X ξ e f)(h1:DG X t1 g1)(h2:DG X t2 g2)(hw:autoParam (eA [t1,t2] e X.env=pure none) Qrf._auto_1)(ha:autoParam ((bX [t1,t2] X.env).map (·.2)=[assign t1 X.env,assign t2 X.env]) Qrf._auto_1):DS X ξ (.Assign [t1,t2] e pos) (ZF (ZrT g1 g2) f):=by
 obtain⟨t,p,q⟩:=he;obtain⟨tt1,pt1,qt1⟩:=h1;obtain⟨tt2,pt2,qt2⟩:=h2;refine⟨_,Zm1 p pt1 pt2 hw ha,λσ ρ H α M Dn s hh w=>q σ ρ H α M _ s hh (FP.seq w λd M1 v H1 α1 e1 h1 r1 w1=>?_)⟩;unfold ZrT at w1;cases eg:g1 d ρ with
 |none=>simp only[eg]at w1;exact w1.elim
 |some ρ1=>
  simp only[eg]at w1;cases eh:g2 d ρ1 with
  |none=>simp only[eh]at w1;exact w1.elim
  |some ρ2=>
   simp only[eh]at w1;exact qt1 v d σ ρ H1 α1 ρ1 _ (s.mono e1) r1 eg λσ' s'=>qt2 v d σ' ρ1 H1 α1 ρ2 _ s' r1 eh λσ2 s2=>w1 σ2 H1 α1 Ext.refl h1 s2
end DL
namespace DL
open PyProof.Rows L2
section
variable {prog:cB}{w:cO}{A:cZ}{E:Vp}{s:aH}
theorem Zm3{it l:Addr}{vs:Array aa}(ne:l≠it)(n:Nat):∀(i:Nat)(s:aH)(Q:List aa->aH->Prop),s.heap.IsListIter it l i->s.heap.IsList l vs->i+n<=vs.size->(∀h',h'.IsListIter it l (i+n)->dw it s.heap h'->Q ((vs.toList.drop i).take n) {s with heap:=h'})->wpAny (aE prog w) A (draw (.ref it) n) Q E s:=by
 induction n with
 |zero=>
  intro i s Q hit hl le hQ;refine Wp ?_
  simpa using hQ s.heap hit (dw.refl ..)
 |succ n ih=>
  intro i s Q hit hl le hQ;have lt:i<vs.size:=⋯
  show wpAny _ _ (fj (.ref it) >>= _) Q E s;refine Wb (jR hit hl (x:=vs[i]) (by simp[lt]) λg1 it1 s1=>?_)
  refine Wb (wpAny_holding (ih (i+1) _ _ it1 (hl.extBut s1.extBut ne) ⋯ λg2 it2 s2=>Wp ?_))
  have e:vs.toList.drop i=vs[i]::vs.toList.drop (i+1):=by simp[dM,lt]
  have q:=hQ g2 (by rw[show i+(n+1)=i+1+n by lia];exact it2) (s1.trans s2)
  rw[e,iB]at q;exact q
theorem Zm4(hh:A.handled=none)(hl:s.heap.IsList l vs)(hQ:∀h',eO s.heap.objs.size s.heap h'->Q vs.toList {s with heap:=h'}):wpAny (aE prog w) A (unpackItems (.ref l) vs.size none) Q E s:=by
 have ne:l≠s.heap.objs.size:=by obtain⟨o,ho,_⟩:=hl;exact az (Hz ho)
 unfold unpackItems;refine Wb ?_;unfold notIterableAtAll;refine Wb (f6 hl.typeIs slot_list_iter.lookup ?_);refine Wp ?_;simp only[aS,if_false];refine Wb (wpAny_holding (gH hl ?_));refine Wb (wpAny_holding (Zm3 ne vs.size 0 _ _ ⟨_,aF _ rfl,rfl,rfl⟩ (hl.push _) ⋯ λg1 it1 s1=>?_))
 have e:List.take vs.size (List.drop 0 vs.toList)=vs.toList:=by
  rw[List.drop_zero];exact bU (by simp)
 rw[e,if_neg (by simp)]
 have hl1:g1.IsList l vs:=(hl.push _).extBut s1.extBut ne;refine Wb (wpAny_holding (wpAny_pyNext_list_end hh it1 hl1 (by simp) λg2 e2=>?_))
 simp only[Option.isSome_none,aS,if_false];exact Wp (hQ g2 λb o hb q=>e2 b o hb (s1.extBut b o hb (Hq _ q)))
theorem Zm5{x1}(hh:A.handled=none)(hl:s.heap.IsList l vs)(hn:(bX elts env).length=vs.size)(hst:(bX elts env).findIdx? (·.1)=none)(h:∀h',eO s.heap.objs.size s.heap h'->wpAny (aE prog w) A (assignInOrder ((bX elts env).map (·.2)) vs.toList) Q E {s with heap:=h'}) :
  wpAny (aE prog w) A (assign (.Tuple elts x1 pos) env (.ref l)) Q E s:=by
 rw[assign_Tuple];refine Wb (wpAny_standAt ?_);unfold unpack;rw[hn,hst];exact Wb (wpAny_holding (Zm4 hh hl h))
end
def ZsE(K:Fg)(n:Nat)(t:TGs):TG:=λv σ H Q=>∃a xs,v=.ref a/\SqL K H a xs/\xs.length=n/\t xs σ H Q
theorem ZpC(hc:X.calm=true)(h:PGs X es t)(hn:autoParam ((bX es X.env).length=n) Qrf._auto_1)(hst:autoParam ((bX es X.env).findIdx? (·.1)=none) Qrf._auto_1):PG X (.Tuple es k pos) (ZsE X.K n t):=by
 intro pins s σ H v u Q I r hw;obtain⟨a,xs,e1,hq,hl,hw⟩:=hw;subst e1;cases r;obtain⟨its,rv,pl,hz⟩:=I.list hq;refine Zm5 (I.ok.hd hc) pl.isList (by simp[hn,<-hl,rv.length]) hst λh' hx=>?_
 have I1:Inv X pins σ H {s with heap:=h'}:=I.kept (t':=s.toks) λb o e=>hx b o (az (Hz e)) e;exact h pins _ σ H xs _ Q I1 (by simpa using rv) hw
def Zkz(gs:Tgs)(f:Ev):Sv:=λρ M=>Zas (f ρ M) λd M1=>match d with
 |.ref n=>(match M1[n]? with
  |some (.lst ds)=>(match gs ds ρ with|some ρ1=>.nx ρ1 M1|none=>.bad)
  |none=>.bad)
 |_=>.bad
theorem Zm6(hc:X.calm=true)(he:DE X ξ e f)(hg:DGs X es gs)(hlen:∀ds ρ ρ',gs ds ρ=some ρ'->ds.length=n)(hn:autoParam ((bX es X.env).length=n) Qrf._auto_1)(hst:autoParam ((bX es X.env).findIdx? (·.1)=none) Qrf._auto_1)(hs:autoParam (fW [.Tuple es k tp] e pos.line X.env=pure false) Qrf._auto_1)(hw:autoParam (eA [.Tuple es k tp] e X.env=pure none) Qrf._auto_1)(h1:autoParam ((bX [.Tuple es k tp] X.env).map (·.2)=[assign (.Tuple es k tp) X.env]) Qrf._auto_1):DS X ξ (.Assign [.Tuple es k tp] e pos) (Zkz gs f):=by
 obtain⟨t,p,q⟩:=he;obtain⟨tt,pt,qt⟩:=hg;refine⟨_,Zhe p (ZpC hc pt hn hst) hs hw h1,λσ ρ H α M Dn s hh w=>q σ ρ H α M _ s hh (FP.seq w λd M1 v H1 α1 e1 h1 r1 w1=>?_)⟩;cases r1 with
 |@ref l n' hp=>
  cases em:M1[n']? with
  |none=>simp only[em]at w1;exact w1.elim
  |some so=>
   cases so with
   |lst ds=>
    cases eg:gs ds ρ with
    |none=>simp only[em,eg]at w1;exact w1.elim
    |some ρ1=>
     simp only[em,eg]at w1;obtain⟨xs,g1,g2⟩:=h1.at hp em;exact⟨l,xs,rfl,SqL.of g1,by rw[g2.length];exact hlen ds ρ ρ1 eg,qt xs ds σ ρ H1 α1 ρ1 _ (s.mono e1) g2 eg λσ' s'=>w1 σ' H1 α1 Ext.refl h1 s'⟩
 |_=>exact w1.elim
end DL
namespace DL
open PyProof.Rows L2 PySem.W
noncomputable def Zoi(e iter':Expr)(d:Nat)(it acc:aa)(env:Env):Sem Fin:=do
 let x <-eval iter' env
 standAt iter'.pos
 let x <-foldedSetIterable iter' env x
 let _ <-runOwn (.compStart e (d+1) (<-holding [x] (pyIter x)) acc env) env
 again (.compLoop e d it acc env)
theorem Zil(elt t0 i0 t1 i1:Expr)(f0 f1:List Expr)(sc:gW)(pos:Pos)(it acc:aa)(env:Env):fB (.ListComp elt [⟨t0,i0,f0,0⟩,⟨t1,i1,f1,0⟩] sc pos) 0 it acc env=Zcm t0 i0 f0 it env (Zoi (.ListComp elt [⟨t0,i0,f0,0⟩,⟨t1,i1,f1,0⟩] sc pos) i1 0 it acc env) (again (.compLoop (.ListComp elt [⟨t0,i0,f0,0⟩,⟨t1,i1,f1,0⟩] sc pos) 0 it acc env)):=by rfl
theorem Zim(elt t0 i0 t1 i1:Expr)(f0 f1:List Expr)(sc:gW)(pos:Pos)(it acc:aa)(env:Env):fB (.ListComp elt [⟨t0,i0,f0,0⟩,⟨t1,i1,f1,0⟩] sc pos) 1 it acc env=Zcm t1 i1 f1 it env (Ze6 (.ListComp elt [⟨t0,i0,f0,0⟩,⟨t1,i1,f1,0⟩] sc pos) elt 1 it acc env) (again (.compLoop (.ListComp elt [⟨t0,i0,f0,0⟩,⟨t1,i1,f1,0⟩] sc pos) 1 it acc env)):=by rfl
theorem Zin(elt t0 i0 t1 i1 t2 i2:Expr)(f0 f1 f2:List Expr)(sc:gW)(pos:Pos)(it acc:aa)(env:Env):fB (.ListComp elt [⟨t0,i0,f0,0⟩,⟨t1,i1,f1,0⟩,⟨t2,i2,f2,0⟩] sc pos) 0 it acc env=Zcm t0 i0 f0 it env (Zoi (.ListComp elt [⟨t0,i0,f0,0⟩,⟨t1,i1,f1,0⟩,⟨t2,i2,f2,0⟩] sc pos) i1 0 it acc env) (again (.compLoop (.ListComp elt [⟨t0,i0,f0,0⟩,⟨t1,i1,f1,0⟩,⟨t2,i2,f2,0⟩] sc pos) 0 it acc env)):=by rfl
theorem Zio(elt t0 i0 t1 i1 t2 i2:Expr)(f0 f1 f2:List Expr)(sc:gW)(pos:Pos)(it acc:aa)(env:Env):fB (.ListComp elt [⟨t0,i0,f0,0⟩,⟨t1,i1,f1,0⟩,⟨t2,i2,f2,0⟩] sc pos) 1 it acc env=Zcm t1 i1 f1 it env (Zoi (.ListComp elt [⟨t0,i0,f0,0⟩,⟨t1,i1,f1,0⟩,⟨t2,i2,f2,0⟩] sc pos) i2 1 it acc env) (again (.compLoop (.ListComp elt [⟨t0,i0,f0,0⟩,⟨t1,i1,f1,0⟩,⟨t2,i2,f2,0⟩] sc pos) 1 it acc env)):=by rfl
theorem Zip(elt t0 i0 t1 i1 t2 i2:Expr)(f0 f1 f2:List Expr)(sc:gW)(pos:Pos)(it acc:aa)(env:Env):fB (.ListComp elt [⟨t0,i0,f0,0⟩,⟨t1,i1,f1,0⟩,⟨t2,i2,f2,0⟩] sc pos) 2 it acc env=Zcm t2 i2 f2 it env (Ze6 (.ListComp elt [⟨t0,i0,f0,0⟩,⟨t1,i1,f1,0⟩,⟨t2,i2,f2,0⟩] sc pos) elt 2 it acc env) (again (.compLoop (.ListComp elt [⟨t0,i0,f0,0⟩,⟨t1,i1,f1,0⟩,⟨t2,i2,f2,0⟩] sc pos) 2 it acc env)):=by rfl
theorem Zfd(hd:gens[d]?=some ⟨target,iter,ifs,0⟩)(h0:fm (aE prog w) A (.compLoop (.ListComp elt gens scope pos) d it acc env) R s)(h:wpAny (aE prog w) A (pyIter it) (λit' s'=>fm (aE prog w) A (.compLoop (.ListComp elt gens scope pos) d it' acc env) R s') (notedBy (aE prog w) A env λx s'=>R (.error x) s') s):fm (aE prog w) A (.compStart (.ListComp elt gens scope pos) d it acc env) R s:=by
 have hc:(clausesOf (.ListComp elt gens scope pos))[d]?=some ⟨target,iter,ifs,0⟩:=hd;refine codeAny_of_tree ?_;show wpAny _ _ ((compStart (.ListComp elt gens scope pos) d it acc env).onRaise (λx=>do lg x env;standAt theWindowsPlace)) _ _ s
 refine wpAny_notedAt ?_;unfold compStart;rw[hc];show wpAny _ _ (ask >>= _) _ _ s;refine Wb (wpAny_askSetting (wpAny_ite ?_));split
 .first
   |exact Wb (Wp (Wp (lh rfl h0)))
   |exact Wp (lh rfl h0)
 .first
   |exact Wb (wpAny_rule (Wb (wpAny_standAt (Wb (wpAny_mono h (λit' s' h'=>Wp (lh rfl h')) λ_ _ x=>x)))))
   | (refine Wb (wpAny_rule ?_);show wpAny _ _ (standAt iter.pos >>= _) _ _ s;exact Wb (wpAny_standAt (Wb (wpAny_mono h (λit' s' h'=>Wp (lh rfl h')) λ_ _ x=>x))))
def gIn(fi:Ro->Sto->Out Src)(tg:Tg)(c:Tv)(g:Ro->Sto->Out Ro):Ro->Sto->Out Ro:=λρ M=>match fi ρ M with
 |.ok src M1=>Zcd src tg c g (cnt src M1) 0 ρ M1
 |_=>.bad
theorem ZdC{D:Addr}{bd:aa->Sem Fin}(hd:gens[d0+1]?=some ⟨tg,iter,ifs,0⟩)(hct:∀it',fB (.ListComp elt gens scope pos) (d0+1) it' (.ref D) Y.env=Zcm tg iter ifs it' Y.env (bd it') (again (.compLoop (.ListComp elt gens scope pos) (d0+1) it' (.ref D) Y.env)))(hxe:∀x y,Y.xe x y->False)(hi:DI Y E0 tg iter fi)(hg:DG Y tg gt)(tst:DC Y ifs c)(hb:∀it':Addr,Zdl Y D n0 (.compLoop (.ListComp elt gens scope pos) (d0+1) (.ref it') (.ref D) Y.env) (bd (.ref it')) g)(hs:autoParam (∀x,foldedSetIterable iter Y.env x=pure x) Qin._auto_1) :
  Zdl Y D n0 (.compLoop (.ListComp elt gens scope pos) d0 (.ref it) (.ref D) Y.env) (Zoi (.ListComp elt gens scope pos) iter d0 (.ref it) (.ref D) Y.env) (gIn fi gt c g):=by
 obtain⟨wi,pi,qi⟩:=hi;intro pins s σ ρ H α M ρ' M' I sr hr aD en;unfold gIn at en;cases ef:fi ρ M with
 |exc x9 M10=>rw[ef]at en;cases en
 |bad=>rw[ef]at en;cases en
 |ok src M1=>
  rw[ef]at en;simp only at en;have pv:=pi pins s σ H (λJ H2=>∃α2,Ext Y.K H H2 α α2/\HR Y.K H2 α2 M1/\Zoe Y.K H2 α2 J src) I (qi σ ρ H α M _ sr hr (by
   rw[ef];exact λJ H2 α2 e h r=>⟨α2,e,h,r⟩))
  unfold Zoi;refine Wb (wpAny_mono pv (λx s1 w1=>?_) (λx y z=>hxe x y z));refine Wb (wpAny_standAt (Wb (kr (hs x) ?_)));refine Wb (wpAny_holding (wpAny_mono w1 (λitv s2 w2=>?_) (λx y z=>hxe x y z)));obtain⟨it',fp,tn,J,H2,rfl,I2,T,st2,f2,α2,e2,h2,sc⟩:=w2;have loop:fm (aE Y.prog Y.w) Y.A (.compLoop (.ListComp elt gens scope pos) (d0+1) (.ref it') (.ref D) Y.env) (λr s'=>match r with|.ok f=>wpAny (aE Y.prog Y.w) Y.A (again (.compLoop (.ListComp elt gens scope pos) d0 (.ref it) (.ref D) Y.env)) (λfin s'=>fin=.again (.compLoop (.ListComp elt gens scope pos) d0 (.ref it) (.ref D) Y.env)/\∃σ' H' α',Inv Y pins σ' H' s'/\Ext Y.K H H' α α'/\SR Y.K H' α' σ' ρ'/\HR Y.K H' α' M') (λ_ _=>False) s'|.error e=>cameBackBy (aE Y.prog Y.w) Y.A Y.env (λ_ _=>False) e s') s2:=by
   refine Zek (hct (.ref it')) T hxe (λ{H'} hn b hb'=>⟨hn b hb',(f2 b hb').2⟩) hg tst (hb it') sc (e2.get aD) I2 st2 (λb hb'=>(f2 b hb').1) (sr.mono e2) h2 en ?_;intro σ5 H5 α5 s6 I6 ex5 sr5 hr5;exact Wp ⟨rfl,σ5,H5,α5,I6,e2.trans ex5,sr5,hr5⟩
  refine Wb (wpAny_runOwn (h:=none) ?_);exact Zfd hd loop (T.self Y.A 0 _ _ _ st2 loop)
theorem ZkA(B:Blk X scope cl N k fr)(hi:DI X ξ tg iter fi)(h:Blk X scope cl N k fr->∀C fp s H,DG (blk X scope cl N C fp s H) tg gt/\DC (blk X scope cl N C fp s H) ifs c/\DI (blk X scope cl N C fp s H) E0 tg1 iter1 fi1/\DG (blk X scope cl N C fp s H) tg1 gt1/\DC (blk X scope cl N C fp s H) ifs1 c1/\DE (blk X scope cl N C fp s H) E0 elt f)(hs:autoParam (∀x,foldedSetIterable iter X.env x=pure x) Qin._auto_1)(hs1:∀env x,foldedSetIterable iter1 env x=pure x:=by intro _ _;rfl):
  DE X ξ (.ListComp elt [⟨tg,iter,ifs,0⟩,⟨tg1,iter1,ifs1,0⟩] scope pos) (Za6 fi k fr gt c λn=>gIn fi1 gt1 c1 (gEm f n)):=
 Zdy B hi (λC fp s H=>(h B C fp s H).1) (λC fp s H=>(h B C fp s H).2.1) (Zil elt tg iter tg1 iter1 ifs ifs1 scope pos) (λC fp s H D n0 it=>let ⟨_,_,h1,h2,h3,h4⟩:=h B C fp s H;ZdC (bd:=λit'=>Ze6 (.ListComp elt [⟨tg,iter,ifs,0⟩,⟨tg1,iter1,ifs1,0⟩] scope pos) elt 1 it' (.ref D) (blk X scope cl N C fp s H).env) rfl (λit'=>Zim elt tg iter tg1 iter1 ifs ifs1 scope pos it' _ _) (λ_ _ z=>z) h1 h2 h3 (λit'=>ZbO (λ_ _ z=>z) h4) (hs1 _)) hs
theorem ZkB(B:Blk X scope cl N k fr)(hi:DI X ξ tg iter fi)(h:Blk X scope cl N k fr->∀C fp s H,DG (blk X scope cl N C fp s H) tg gt/\DC (blk X scope cl N C fp s H) ifs c/\DI (blk X scope cl N C fp s H) E0 tg1 iter1 fi1/\DG (blk X scope cl N C fp s H) tg1 gt1/\DC (blk X scope cl N C fp s H) ifs1 c1/\DI (blk X scope cl N C fp s H) E0 tg2 iter2 fi2/\DG (blk X scope cl N C fp s H) tg2 gt2/\DC (blk X scope cl N C fp s H) ifs2 c2/\DE (blk X scope cl N C fp s H) E0 elt f)(hs:autoParam (∀x,foldedSetIterable iter X.env x=pure x) Qin._auto_1)(hs1:∀env x,foldedSetIterable iter1 env x=pure x:=by intro _ _;rfl)(hs2:∀env x,foldedSetIterable iter2 env x=pure x:=by intro _ _;rfl):
  DE X ξ (.ListComp elt [⟨tg,iter,ifs,0⟩,⟨tg1,iter1,ifs1,0⟩,⟨tg2,iter2,ifs2,0⟩] scope pos) (Za6 fi k fr gt c λn=>gIn fi1 gt1 c1 (gIn fi2 gt2 c2 (gEm f n))):=
 Zdy B hi (λC fp s H=>(h B C fp s H).1) (λC fp s H=>(h B C fp s H).2.1) (Zin elt tg iter tg1 iter1 tg2 iter2 ifs ifs1 ifs2 scope pos) (λC fp s H D n0 it=>let ⟨_,_,h1,h2,h3,h4,h5,h6,h7⟩:=h B C fp s H;ZdC (bd:=λit'=>Zoi (.ListComp elt [⟨tg,iter,ifs,0⟩,⟨tg1,iter1,ifs1,0⟩,⟨tg2,iter2,ifs2,0⟩] scope pos) iter2 1 it' (.ref D) (blk X scope cl N C fp s H).env) rfl (λit'=>Zio elt tg iter tg1 iter1 tg2 iter2 ifs ifs1 ifs2 scope pos it' _ _) (λ_ _ z=>z) h1 h2 h3 (λit'=>ZdC (bd:=λit2=>Ze6 (.ListComp elt [⟨tg,iter,ifs,0⟩,⟨tg1,iter1,ifs1,0⟩,⟨tg2,iter2,ifs2,0⟩] scope pos) elt 2 it2 (.ref D) (blk X scope cl N C fp s H).env) rfl (λit2=>Zip elt tg iter tg1 iter1 tg2 iter2 ifs ifs1 ifs2 scope pos it2 _ _) (λ_ _ z=>z) h4 h5 h6 (λit2=>ZbO (λ_ _ z=>z) h7) (hs2 _)) (hs1 _)) hs
end DL
namespace DL
open PyProof.Rows L2
end DL
namespace DL
open PyProof.Rows L2
end DL
namespace DL
open PyProof.Rows L2
def Its(lo c:Int)(n:Nat):It:=⟨λi _=>i<n,λi H x H'=>H'=H/\x=.int (lo+(i:Nat)*c),λi _=>n<=i⟩
theorem Ziq{K:Fg}(it:Addr)(lo c:Int)(n:Nat):Turn P w K B tg (Its lo c n) [it] it (λi h=>gp h it (lo+(i:Nat)*c) ((n:Int)-(i:Nat)) c) where
 mem:=by simp
 obj:=λi h st b hb=>by
  have e:b=it:=by simpa using hb
  subst e;exact⟨_,st,λv z=>by
   have z':ku _=Data.cell v:=z;cases z'⟩
 keep:=λi h h' st k=>k it (by simp) _ st
 item:=by
  intro X hP hw hK hB i pins s σ H E I hf st hg;subst hP hw hK;obtain⟨f0,f1,f2,f3,f4,f5⟩:=hf it (by simp)
  have hlt:i<n:=hg;refine jD st ⋯ λh' st' sb=>?_
  have I1:Inv X pins σ H {s with heap:=h',toks:=s.toks+1}:=I.turned (λb o hb e=>(sb.2 b hb).trans e) f0 f1 f3 f4 f5;have st2:gp h' it (lo+((i+1:Nat):Int)*c) ((n:Int)-((i+1:Nat):Int)) c:=by
   have e1:lo+((i+1:Nat):Int)*c=lo+(i:Nat)*c+c:=by rw[Int.natCast_add,Int.add_mul];simp;lia
   have e2:(n:Int)-((i+1:Nat):Int)=(n:Int)-(i:Nat)-1:=⋯
   rw[e1,e2];exact st'
  exact⟨_,rfl,ZjW (s:={s with heap:=h',toks:=s.toks+1}) (n:="range_iterator") st2 rfl rfl (by decide) ⟨.int (lo+(i:Nat)*c),H,I1,⟨s.toks,rfl⟩,⟨rfl,rfl⟩,st2,λb hb=>(hf b hb).1⟩⟩
 done:=by
  intro X hP hw hK hB i pins s σ H E I hf st hg;subst hP hw hK;obtain⟨f0,f1,f2,f3,f4,f5⟩:=hf it (by simp)
  exact DQ.Zd0 I.qh st (by have:n<=i:=hg;lia) λh' eb=>⟨rfl,I.turned (t':=s.toks) (λb o hb e=>eb b o hb e) f0 f1 f3 f4 f5⟩
 self:=λ_ _ _ _ _ st h=>jS st h
def stN(lo hi c:Int):Nat:=if lo<hi then((hi-lo-1)/c+1).toNat else 0
theorem Zm7{lo:Int}(I:Inv X pins σ H s)(h1: -(2^62)<=lo)(h2:lo<2^62)(h3: -(2^62)<=hi)(h4:hi<2^62)(c1:1<=c)(c2:c<=1000)(q:R (Its lo c (stN lo hi c)) H):wpAny (aE X.prog X.w) X.A (pyIter (.ref s.heap.objs.size)) (PIE X pins σ tg R) E {s with heap:=s.heap.push {cls:=.type "range",data:=.fields #[.int lo t,.int hi u,.int c v]},toks:=tk}:=by
 have hdiv:∀z:Int,0<=z->0<=z/c/\z/c<=z:=λz hz=>⟨Int.ediv_nonneg hz ⋯,Int.ediv_le_self _ hz⟩
 refine wpAny_pyIter_range (IsRange.new ..) ?_ ?_
 .have cp:0<c:=⋯
  have e:(2:Int)^62=4611686018427387904:=by decide
  unfold cW.Range.small eJ cW.Range.rangeFitsLong;rw[if_pos (show c>0 from cp)];by_cases z:lo<hi
  .obtain⟨g1,g2⟩:=hdiv (hi-lo-1) ⋯
   rw[if_pos z];have g3:(hi-lo-1)/c*c<=hi-lo-1:=Int.ediv_mul_le _ ⋯
   generalize (hi-lo-1)/c=m at *;simp;refine⟨⋯,.inr ?_⟩
   rw[if_pos cp];lia
  .rw[if_neg z];simp;lia
 have I1:Inv X pins σ H {s with heap:=s.heap.push {cls:=.type "range",data:=.fields #[.int lo t,.int hi u,.int c v]},toks:=tk}:=I.kept λb o e=>Hq _ e;refine⟨(s.heap.push {cls:=.type "range",data:=.fields #[.int lo t,.int hi u,.int c v]}).objs.size,[(s.heap.push {cls:=.type "range",data:=.fields #[.int lo t,.int hi u,.int c v]}).objs.size],_,_,H,rfl,I1.kept (t':=tk) λb o e=>Hq _ e,Ziq _ lo c (stN lo hi c),?_,λb hb=>?_,q⟩
 .have e1:lo+((0:Nat):Int)*c=lo:=by simp
  have e2:((stN lo hi c:Nat):Int)-((0:Nat):Int)=eJ lo hi c:=by
   unfold stN eJ;by_cases z:lo<hi
   .have:=hdiv (hi-lo-1) ⋯
    rw[if_pos z,if_pos (show c>0 by lia),if_pos z]
    lia
   .rw[if_neg z,if_pos (show c>0 by lia),if_neg z]
    rfl
  show gp _ _ (lo+((0:Nat):Int)*c) (((stN lo hi c:Nat):Int)-((0:Nat):Int)) c;rw[e1,e2];exact aF _ rfl
 .have e:b=(s.heap.push {cls:=.type "range",data:=.fields #[.int lo t,.int hi u,.int c v]}).objs.size:=by simpa using hb
  subst e;exact I1.fpOk (ae _) (I1.hok.fresh (ae _))
def ZsF(ta:TA):TI:=λσ H R=>ta σ H λvs H1=>∃i j c:Int,vs=[.int i,.int j,.int c]/\(-(2^62)<=i/\i<2^62/\ -(2^62)<=j/\j<2^62/\1<=c/\c<=1000)/\R (Its i c (stN i j c)) H1
theorem Zir(hg:Gl X "range")(hm:X.mg "range"=none)(ha:PA X [a,b,c] ta)(hs:autoParam (aA [a,b,c] X.env=[(false,eval a X.env),(false,eval b X.env),(false,eval c X.env)]) Qrf._auto_1)(hs2:autoParam (aA [b,c] X.env=[(false,eval b X.env),(false,eval c X.env)]) Qrf._auto_1) :
  PI X tg (.Call (.Name "range" p) [a,b,c] [] pos) (ZsF ta):=by
 intro pins s σ H R I h;refine Call_ (Zbs I hg hm boot_range (bY (thn (ha pos pins s σ H _ I h) λus s1 hz=>?_) (by rw[hs,hs2]) (by rw[hs2];rfl)))
 obtain⟨vs,H1,I1,r1,q1⟩:=hz;obtain⟨i,j,c,e,⟨q1,q2,q3,q4,q5,q6⟩,q⟩:=q1;subst e;cases r1 with
 |cons r rr=>
  cases rr with
  |cons r' rr=>
   cases rr with
   |cons r'' rr=>
    cases rr;obtain⟨t,rfl⟩:=r;obtain⟨t',rfl⟩:=r';obtain⟨t'',rfl⟩:=r'';exact call_range_3 ⋯ (Zm7 I1 q1 q2 q3 q4 q5 q6 q) (.inl (PyProof.noPylong_small ⋯))
def Zis(lo c:Int)(n:Nat):List D:=(aC n).map λ(i:Nat)=>D.int (lo+(i:Int)*c)
theorem ZkC{lo:Int}:(Zis lo c n).length=n:=by simp[Zis]
def iR3(fs:Av):Ro->Sto->Out Src:=λρ M=>(fs ρ M).bind λds M1=>match ds with
 |[.int i,.int j,.int c]=>if -(2^62)<=i/\i<2^62/\ -(2^62)<=j/\j<2^62/\1<=c/\c<=1000 then .ok (.pur (Zis i c (stN i j c))) M1 else .bad
 |_=>.bad
theorem Zit{K:Fg}{lo:Int}:Zoe K H α (Its lo c n) (.pur (Zis lo c n)):=by
 intro i H' α' M' ex hr;show match some (Zis lo c n)[i]? with|some none=>_|some (some d)=>_|none=>True
 by_cases h:i<n
 .have e:(Zis lo c n)[i]?=some (.int (lo+(i:Int)*c)):=by simp[Zis,h]
  rw[e];refine⟨h,λx H'' y=>?_⟩;obtain⟨e1,e2⟩:=y;subst e1 e2;exact⟨Ext.refl,hr,.int _⟩
 .rw[aL (by rw[ZkC];lia)]
  exact jF h
theorem Ziu(hm:X.mg "range"=none)(ha:DA X ξ [a,b,c] fs)(hgl:autoParam (Gl X "range") Qrf._auto_1)(hs:autoParam (aA [a,b,c] X.env=[(false,eval a X.env),(false,eval b X.env),(false,eval c X.env)]) Qrf._auto_1)(hs2:autoParam (aA [b,c] X.env=[(false,eval b X.env),(false,eval c X.env)]) Qrf._auto_1):DI X ξ tg (.Call (.Name "range" p) [a,b,c] [] pos) (iR3 fs):=by
 obtain⟨ta,pa,qa⟩:=ha;refine⟨_,Zir hgl hm pa hs hs2,λσ ρ H α M R s hh q=>qa σ ρ H α M _ s hh (OG.seq q λds M1 vs H1 α1 e1 h1 r1 w1=>?_)⟩
 split at w1
 .rename_i i j c;cases r1 with
  |cons r t=>
   cases t with
   |cons r' t=>
    cases t with
    |cons r'' t=>
     cases t;cases r;cases r';cases r'';by_cases z: -(2^62)<=i/\i<2^62/\ -(2^62)<=j/\j<2^62/\1<=c/\c<=1000
     .simp only[if_pos z]at w1;exact⟨i,j,c,rfl,z,w1 _ H1 α1 Ext.refl h1 Zit⟩
     .simp only[if_neg z]at w1;exact w1.elim
 .exact w1.elim
end DL
namespace DL
open L2
end DL
namespace DL
open PyProof.Rows L2 PySem.W
end DL
namespace PySem.SeqAt
open MeetsSeq MeetsSeq2 MeetsSeq3 SeqRoads2
end PySem.SeqAt
namespace DL
open PyProof.Rows L2 PySem.W
end DL
namespace ST
open PyProof.Rows
abbrev lt(a b:List Int):Bool:=HT.Za8 a b
def le(a b:List Int):Prop:=lt b a=false
theorem Ziv:∀a:List Int,lt a a=false
 |[]=>rfl
 |x::r=>by
  show HT.Za8 (x::r) (x::r)=false;rw[HT.Z2,if_pos rfl];exact Ziv r
theorem Zm8:∀{a b c:List Int},lt a b=true->lt b c=true->lt a c=true
 |[],[],_,h,_=>by cases h
 |[],_::_,[],_,h=>by cases h
 |[],_::_,_::_,_,_=>rfl
 |_::_,[],_,h,_=>by cases h
 |_::_,_::_,[],_,h=>by cases h
 |x::a,y::b,z::c,h,g=>by
  show HT.Za8 (x::a) (z::c)=true;have h:HT.Za8 (x::a) (y::b)=true:=h;have g:HT.Za8 (y::b) (z::c)=true:=g;rw[HT.Z2]at h g ⊢;by_cases e1:x=y
  .subst e1;rw[if_pos rfl]at h;by_cases e2:x=z
   .rw[if_pos e2]at g ⊢;exact Zm8 h g
   .rw[if_neg e2]at g ⊢;exact g
  .rw[if_neg e1]at h;have h:=of_decide_eq_true h;by_cases e2:y=z
   .subst e2;rw[if_neg e1];exact decide_eq_true h
   .rw[if_neg e2]at g;have g:=of_decide_eq_true g;rw[if_neg ⋯]
    exact decide_eq_true ⋯
theorem Zev:∀{a b:List Int},lt a b=false->lt b a=false->a=b
 |[],[],_,_=>rfl
 |[],_::_,h,_=>by cases h
 |_::_,[],_,h=>by cases h
 |x::a,y::b,h,g=>by
  have h:HT.Za8 (x::a) (y::b)=false:=h;have g:HT.Za8 (y::b) (x::a)=false:=g;rw[HT.Z2]at h g;by_cases e:x=y
  .subst e;rw[if_pos rfl]at h g;rw[Zev h g]
  .rw[if_neg e]at h;rw[if_neg (bh e)]at g
   have:=of_decide_eq_false h
   have:=of_decide_eq_false g
   lia
theorem ZdD(a:List Int):le a a:=Ziv a
theorem Ziw(h:lt a b=true):le a b:=by
 unfold le;cases e:lt b a with
 |false=>rfl
 |true=>have:=Zm8 h e;rw[Ziv]at this;cases this
theorem ZgU(h:le a b)(g:le b c):le a c:=by
 unfold le at *;cases e:lt c a with
 |false=>rfl
 |true=>
  cases e2:lt b a with
  |true=>rw[e2]at h;cases h
  |false=>
   cases e3:lt a b with
   |true=>rw[Zm8 e e3]at g;cases g
   |false=>
    have:=Zev e3 e2
    subst this;rw[e]at g;cases g
theorem Zfe(h:lt a b=true)(g:le b c):lt a c=true:=by
 cases e:lt a c with
 |true=>rfl
 |false=>have:=ZgU g e;unfold le at this;rw[h]at this;cases this
variable (kf:gY->List Int)
noncomputable def ky(xs:Array gY)(i:Nat):List Int:=match xs[i]? with|some p=>kf p|none=>[]
def Up(xs:Array gY)(n:Nat):Prop:=∀i j,i<=j->j<n->le (ky kf xs i) (ky kf xs j)
def Dn(xs:Array gY)(n:Nat):Prop:=∀i j,i<=j->j<n->le (ky kf xs j) (ky kf xs i)
variable {kf}
theorem Zix{xs ys:Array gY}{i j:Nat}(h:xs[i]?=ys[j]?):ky kf xs i=ky kf ys j:=by unfold ky;rw[h]
theorem Ziy{xs:Array gY}{i j:Nat}(hj:j<=xs.size)(k:Nat):ky kf (jw xs i j ((j-i)/2)) k=if i<=k/\k<j then ky kf xs (i+j-1-k)else ky kf xs k:=by
 have g:=getElem?_mirror_all (i:=i) hj k;split
 .rename_i c;rw[if_pos c]at g;exact Zix g
 .rename_i c;rw[if_neg c]at g;exact Zix g
theorem Z9{xs:Array gY}{i j:Nat}(hj:j<=xs.size)(hs:∀k,i<=k->k<j->ky kf xs k=ky kf xs (j-1))(k:Nat):ky kf (jw xs i j ((j-i)/2)) k=ky kf xs k:=by
 rw[Ziy hj];split
 .rename_i c;rw[hs k c.1 c.2,hs (i+j-1-k) (by omega) (by omega)]
 .rfl
theorem Zlu{xs:Array gY}{p d:Nat}(hp:p<xs.size)(hd:d<=p)(k:Nat):ky kf (bubble xs p d) k=if k=p-d then ky kf xs p else if p-d<k/\k<=p then ky kf xs (k-1)else ky kf xs k:=by
 have g:=getElem?_bubble hp d hd k;by_cases c1:k=p-d
 .rw[if_pos c1]at g ⊢;exact Zix g
 .rw[if_neg c1]at g ⊢;by_cases c2:p-d<k/\k<=p
  .rw[if_pos c2]at g ⊢;exact Zix g
  .rw[if_neg c2]at g ⊢;exact Zix g
structure Cm(M:Model) (A:cZ) (E:Vp) (s:aH) (kf:gY->List Int) (B:dO->Prop) (N:Nat):Prop where
 sz:∀st,B st->(arrOf st).size=N
 put:∀st xs,B st->xs.Perm (arrOf st)->B (setArr st xs)
 cmp:∀st i j (Q:Option Bool->dO->Prop),B st->i<N->j<N->Q (some (lt (ky kf (arrOf st) i) (ky kf (arrOf st) j))) st->wpS M A E s (ltAt' i j) Q st
section
variable {prog:cB}{w:cO}{A:cZ}{E:Vp}{s:aH}{B:dO->Prop}{N:Nat}
theorem Up.more{xs:Array gY}{n:Nat}(h:Up kf xs n)(h1:1<=n)(hl:le (ky kf xs (n-1)) (ky kf xs n)):Up kf xs (n+1):=by
 intro i j ij jn;by_cases c:j<n
 .exact h i j ij c
 .have:j=n:=⋯
  subst this;by_cases c2:i=j
  .subst c2;exact ZdD _
  .exact ZgU (h i (j-1) ⋯ ⋯) hl
theorem Dn.more{xs:Array gY}{n:Nat}(h:Dn kf xs n)(h1:1<=n)(hl:le (ky kf xs n) (ky kf xs (n-1))):Dn kf xs (n+1):=by
 intro i j ij jn;by_cases c:j<n
 .exact h i j ij c
 .have:j=n:=⋯
  subst this;by_cases c2:i=j
  .subst c2;exact ZdD _
  .exact ZgU hl (h i (j-1) ⋯ ⋯)
theorem ZpD(C:Cm (aE prog w) A E s kf B N){st:dO}{a n:Nat}{Q:AscSt->dO->Prop}(hn:n<=N)(ha:1<=a)(an:a<=n)(hB:B st)(hu:Up kf (arrOf st) a)(q:∀m,a<=m->m<=n->Up kf (arrOf st) m->(m=n\/lt (ky kf (arrOf st) m) (ky kf (arrOf st) (m-1))=true)->Q (none,m) st):wpS (aE prog w) A E s (ascLoop a n) Q st:=by
 unfold ascLoop;refine gL (λx c t=>t=st/\c=(none,x)/\Up kf (arrOf st) x) (λx c t ax xn hI=>?_) (λc t hI=>?_) ⟨rfl,rfl,hu⟩
 .obtain⟨rfl,rfl,h⟩:=hI;refine bM (C.cmp t x (x-1) _ hB ⋯ ⋯ ?_)
  cases z:lt (ky kf (arrOf t) x) (ky kf (arrOf t) (x-1))with
  |true=>exact cL (q x ax ⋯ h (.inr z))
  |false=>exact cL ⟨rfl,rfl,h.more ⋯ z⟩
 .obtain⟨rfl,rfl,h⟩:=hI;rw[Nat.max_eq_right an]at h ⊢;exact q n an (ae _) h (.inl rfl)
theorem Zlv(C:Cm (aE prog w) A E s kf B N){st:dO}{m n:Nat}{Q:Option Nat->dO->Prop}(hn:n<=N)(h1:1<=m)(mn:m<=n)(hB:B st)(hd:Dn kf (arrOf st) m)(q:∀m t,B t->1<=m->m<=n->Up kf (arrOf t) m->Q (some m) t):wpS (aE prog w) A E s (tail3 m n) Q st:=by
 have sz:=C.sz st hB;have hB':=C.put st (jw (arrOf st) 0 m ((m-0)/2)) hB (kJ ..);refine bM (kM (bM (ZpD C hn h1 mn hB' (λi j ij jm=>?_) λk k1 k2 hu _=>cL (q k _ hB' ⋯ k2 hu))))
 show le (ky kf (jw (arrOf st) 0 m ((m-0)/2)) i) (ky kf (jw (arrOf st) 0 m ((m-0)/2)) j);rw[Ziy ⋯,Ziy ⋯,if_pos ⟨⋯,⋯⟩,if_pos ⟨⋯,jm⟩]
 exact hd _ _ ⋯ ⋯
def Eqs(kf:gY->List Int)(xs:Array gY)(x e:Nat):Prop:=e+1<=x/\∀i,x-(e+1)<=i->i<x->ky kf xs i=ky kf xs (x-1)
theorem ZsG{xs:Array gY}{x:Nat}(h:1<=x):Eqs kf xs x 0:=⟨⋯,λi a b=>by rw[show i=x-1 by lia]⟩
theorem ZpE(C:Cm (aE prog w) A E s kf B N){st:dO}{m n:Nat}{Q:DescSt->dO->Prop}(hn:n<=N)(h1:1<=m)(mn:m<=n)(hB:B st)(hd:Dn kf (arrOf st) m)(q:∀x e t,B t->m<=x->x<=n->Dn kf (arrOf t) x->Eqs kf (arrOf t) x e->Q (none,x,e) t):wpS (aE prog w) A E s (descLoop m n) Q st:=by
 unfold descLoop;refine gL (λx c t=>∃e,c=(none,x,e)/\B t/\Dn kf (arrOf t) x/\Eqs kf (arrOf t) x e) (λx c t ax xn hI=>?_) (λc t hI=>?_) ⟨0,rfl,hB,hd,ZsG h1⟩
 .obtain⟨e,rfl,hB,hd,he⟩:=hI;have sz:=C.sz t hB;refine bM (C.cmp t x (x-1) _ hB ⋯ ⋯ ?_)
  cases z:lt (ky kf (arrOf t) x) (ky kf (arrOf t) (x-1))with
  |true=>
   have up1:=hd.more ⋯ (Ziw z)
   show wpS _ _ _ _ (if e>0 then _ else _) _ _
   by_cases c:e>0
   .rw[if_pos c];refine bM (kM (cL ⟨0,rfl,C.put t _ hB (kJ ..),λi j ij jx=>?_,ZsG ⋯⟩))
    show le (ky kf (jw (arrOf t) (x-(e+1)) x ((x-(x-(e+1)))/2)) j) (ky kf (jw (arrOf t) (x-(e+1)) x ((x-(x-(e+1)))/2)) i);rw[Z9 ⋯ he.2,Z9 ⋯ he.2]
    exact up1 i j ij jx
   .rw[if_neg c];exact cL ⟨0,rfl,hB,up1,ZsG ⋯⟩
  |false=>
   refine bM (C.cmp t (x-1) x _ hB ⋯ ⋯ ?_)
   cases z2:lt (ky kf (arrOf t) (x-1)) (ky kf (arrOf t) x)with
   |true=>exact cL (q x e t hB ax ⋯ hd he)
   |false=>
    have ee:ky kf (arrOf t) x=ky kf (arrOf t) (x-1):=Zev z z2;refine cL ⟨e+1,rfl,hB,hd.more ⋯ z2,by have:=he.1;lia,λi a b=>?_⟩
    rw[show x+1-1=x by lia]
    by_cases c:i=x
    .rw[c]
    .rw[ee];exact he.2 i ⋯ ⋯
 .obtain⟨e,rfl,hB,hd,he⟩:=hI;rw[Nat.max_eq_right mn]at hd he ⊢;exact q n e t hB mn (ae _) hd he
theorem Zlw(C:Cm (aE prog w) A E s kf B N){st:dO}{m n:Nat}{Q:Option Nat->dO->Prop}(hn:n<=N)(mn:m+1<=n)(hB:B st)(hd:Dn kf (arrOf st) (m+1))(q:∀m t,B t->1<=m->m<=n->Up kf (arrOf t) m->Q (some m) t):wpS (aE prog w) A E s (descPart m n) Q st:=by
 refine bM (wpS_lift (wpAny_rule ⟨rfl,bM (ZpE C hn ⋯ mn hB hd λx e t hB hx xn hd he=>?_)⟩))
 have sz:=C.sz t hB;show wpS _ _ _ _ (if e>0 then _ else _) _ _
 by_cases c:e>0
 .rw[if_pos c];refine bM (kM (Zlv (m:=x) C hn ⋯ xn (C.put t _ hB (kJ ..)) (λi j ij jx=>?_) q))
  show le (ky kf (jw (arrOf t) (x-(e+1)) x ((x-(x-(e+1)))/2)) j) (ky kf (jw (arrOf t) (x-(e+1)) x ((x-(x-(e+1)))/2)) i);rw[Z9 ⋯ he.2,Z9 ⋯ he.2]
  exact hd i j ij jx
 .rw[if_neg c];exact Zlv (m:=x) C hn ⋯ xn hB hd q
theorem ZsH(C:Cm (aE prog w) A E s kf B N){st:dO}{n:Nat}{Q:Option Nat->dO->Prop}(hn:n<=N)(h1:1<=n)(hB:B st)(q:∀m t,B t->1<=m->m<=n->Up kf (arrOf t) m->Q (some m) t):wpS (aE prog w) A E s (countRun' 0 n) Q st:=by
 have sz:=C.sz st hB;rw[countRun0_eq];refine bM (ZpD C hn (ae 1) h1 hB (λi j ij j1=>by rw[show i=j by lia];exact ZdD _) λm m1 m2 hu ho=>?_)
 show wpS _ _ _ _ (if(m==n)=true then _ else _) _ _
 by_cases c:m=n
 .rw[if_pos (by simpa using c)]
  exact cL (q m st hB m1 m2 hu)
 .rw[if_neg (by simpa using c)]
  have hl:=ho.resolve_left c;by_cases c1:m>1
  .rw[if_pos c1];refine bM (C.cmp st 0 (m-1) _ hB ⋯ ⋯ ?_)
   cases z:lt (ky kf (arrOf st) 0) (ky kf (arrOf st) (m-1))with
   |true=>exact cL (q m st hB m1 m2 hu)
   |false=>
    have al:∀k,0<=k->k<m->ky kf (arrOf st) k=ky kf (arrOf st) (m-1):=λk _ km=>
     Zev (ZgU z (hu 0 k ⋯ km)) (hu k (m-1) ⋯ ⋯)
    refine bM (kM (Zlw C hn ⋯ (C.put st _ hB (kJ ..)) (λi j ij jx=>?_) q))
    show le (ky kf (jw (arrOf st) 0 m ((m-0)/2)) j) (ky kf (jw (arrOf st) 0 m ((m-0)/2)) i);rw[Z9 ⋯ al,Z9 ⋯ al]
    by_cases d:j<m
    .rw[al i ⋯ ⋯,al j ⋯ d];exact ZdD _
    .have:j=m:=⋯
     subst this;by_cases d2:i=j
     .rw[d2];exact ZdD _
     .rw[al i ⋯ ⋯];exact Ziw hl
  .rw[if_neg c1]
   have:m=1:=⋯
   subst this;refine Zlw C hn ⋯ hB (λi j ij jx=>?_) q
   by_cases d2:i=j
   .rw[d2];exact ZdD _
   .rw[show i=0 by lia,show j=1 by lia];exact Ziw hl
theorem ZsI(C:Cm (aE prog w) A E s kf B N){st:dO}{n ok:Nat}{Q:Bool->dO->Prop}(hn:n<=N)(hk:ok<=n)(hB:B st)(hu:Up kf (arrOf st) ok)(q:∀t,B t->Up kf (arrOf t) n->Q true t):wpS (aE prog w) A E s (binarySort' 0 n ok) Q st:=by
 rw[binarySort'_eq];simp only[fH];refine bM (wpS_mono (gL (λk c t=>c=(none,())/\B t/\Up kf (arrOf t) (min k n)) (Q:=λc t=>c=(none,())/\B t/\Up kf (arrOf t) n) (λk c t ak kn hI=>?_) (λc t hI=>?_) ⟨rfl,hB,λi j ij jn=>?_⟩) λc t hI=>?_)
 .obtain⟨rfl,hB,hu⟩:=hI;rw[iu ⋯]at hu
  have sz:=C.sz t hB;have kN:k<N:=⋯
  refine bM (wpS_mono (gL (λx c t'=>t'=t/\∃l r,c=(none,l,r)/\(l<=r/\r<=k/\r-l<=k-x)/\(∀i,i<l->le (ky kf (arrOf t) i) (ky kf (arrOf t) k))/\∀i,r<=i->i<k->lt (ky kf (arrOf t) k) (ky kf (arrOf t) i)=true) (Q:=λc t'=>t'=t/\∃l r,c=(none,l,r)/\l<=k/\(∀i,i<l->le (ky kf (arrOf t) i) (ky kf (arrOf t) k))/\∀i,l<=i->i<k->lt (ky kf (arrOf t) k) (ky kf (arrOf t) i)=true) (λx c t' _ xk hI=>?_) (λc t' hI=>?_) ⟨rfl,0,k,rfl,⋯,λi hi=>⋯,λi a b=>⋯⟩) λc t' hI=>?_)
  .obtain⟨rfl,l,r,rfl,⟨lr,rk,hm⟩,lo,hi⟩:=hI;show wpS _ _ _ _ (if l ≥ r then _ else _) _ _
   by_cases c:l ≥ r
   .rw[if_pos c]
    have:l=r:=⋯
    subst this;exact cL ⟨rfl,l,l,rfl,rk,lo,hi⟩
   .rw[if_neg c];refine bM (C.cmp t' k ((l+r)/2) _ hB kN ⋯ ?_)
    cases z:lt (ky kf (arrOf t') k) (ky kf (arrOf t') ((l+r)/2))with
    |true=>exact cL ⟨rfl,l,(l+r)/2,rfl,⋯,lo,λi a b=>Zfe z (hu _ _ a b)⟩
    |false=>exact cL ⟨rfl,(l+r)/2+1,r,rfl,⋯,λi a=>ZgU (hu i ((l+r)/2) ⋯ ⋯) z,hi⟩
  .obtain⟨rfl,l,r,rfl,⟨lr,rk,hm⟩,lo,hi⟩:=hI
   have:l=r:=⋯
   subst this;exact⟨rfl,l,l,rfl,rk,lo,hi⟩
  .obtain⟨rfl,l,r,rfl,lk,lo,hi⟩:=hI;show wpS _ _ _ _ (moveDown' k l >>= λ_=>pure (ForInStep.yield (none,()))) _ _;rw[moveDown'_eq];refine bM (wpS_modify (cL ⟨rfl,C.put t' _ hB (bubble_perm ..),?_⟩));rw[iu ⋯]
   intro i j ij jk;show le (ky kf (bubble (arrOf t') k (k-l)) i) (ky kf (bubble (arrOf t') k (k-l)) j);rw[Zlu ⋯ ⋯,Zlu ⋯ ⋯,show k-(k-l)=l by lia]
   by_cases i1:i=l
   .rw[if_pos i1];by_cases j1:j=l
    .rw[if_pos j1];exact ZdD _
    .rw[if_neg j1,if_pos ⋯];exact Ziw (hi _ ⋯ ⋯)
   .rw[if_neg i1];by_cases i2:l<i/\i<=k
    .rw[if_pos i2,if_neg ⋯,if_pos ⋯];exact hu _ _ ⋯ ⋯
    .rw[if_neg i2];by_cases j1:j=l
     .rw[if_pos j1];exact lo _ ⋯
     .rw[if_neg j1];by_cases j2:l<j/\j<=k
      .rw[if_pos j2];exact hu _ _ ⋯ ⋯
      .rw[if_neg j2];exact hu _ _ ⋯ ⋯
 .obtain⟨rfl,hB,hu⟩:=hI;rw[show min (max (max ok 1) n) n=n by lia]at hu
  exact⟨rfl,hB,hu⟩
 .by_cases c:ok=0
  .rw[show i=j by lia];exact ZdD _
  .exact hu i j ij ⋯
 .obtain⟨rfl,hB,hu⟩:=hI;exact cL (q t hB hu)
structure Cn(B:dO->Prop):Prop where
 fail:∀st,B st->kO st=none
 pend:∀st,B st->jH st= #[]
theorem ZpF(C:Cm (aE prog w) A E s kf B N)(D:Cn B){st:dO}{Q:Unit->dO->Prop}(h2:2<=N)(h64:N<64)(hB:B st)(q:∀t t',B t->arrOf t'=arrOf t->kO t'=none->Up kf (arrOf t) N->Q () t'):wpS (aE prog w) A E s sortRuns' Q st:=by
 rw[sortRuns'_eq];refine bM (lU ?_);have mr:minRun' N N 0=N:=by
  have:minRun' ((N-1)+1) N 0=N:=by rw[minRun'_succ,if_pos h64];rfl
  rwa [show N-1+1=N by lia]at this
 simp only[C.sz st hB,mr];refine bM (wpS_mono (gL (λx c t=>(x=0/\c=(none,0)/\B t)\/(1<=x/\c=(none,N)/\∃t0,B t0/\t=gn t0 #[(0,N,0)]/\Up kf (arrOf t0) N)) (Q:=λc t=>c=(none,N)/\∃t0,B t0/\t=gn t0 #[(0,N,0)]/\Up kf (arrOf t0) N) (λx c t _ xN hI=>?_) (λc t hI=>?_) (.inl ⟨rfl,rfl,hB⟩)) λc t hI=>?_)
 .rcases hI with⟨rfl,rfl,hB⟩|⟨x1,rfl,hD⟩
  .show wpS _ _ _ _ (if 0 ≥ N then _ else _) _ _
   rw[if_neg ⋯]
   simp only[Nat.sub_zero,jV,fH];refine bM (ZsH C (ae _) ⋯ hB λm t1 hB1 m1 m2 hu=>?_)
   have fin:∀t1,B t1->Up kf (arrOf t1) N->(jH t1).back?=none/\((0=0/\((none,N):Option Unit×Nat)=(none,0)/\B (gn t1 ((jH t1).push (0,N,0))))\/(1<=0+1/\((none,N):Option Unit×Nat)=(none,N)/\∃t0,B t0/\gn t1 ((jH t1).push (0,N,0))=gn t0 #[(0,N,0)]/\Up kf (arrOf t0) N)):=λt1 hB1 hu=>by
    rw[D.pend t1 hB1];exact⟨rfl,.inr ⟨⋯,rfl,t1,hB1,rfl,hu⟩⟩
   show wpS _ _ _ _ (if m<N then _ else _) _ _
   by_cases c:m<N
   .rw[if_pos c];refine bM (wpS_lift (wpAny_rule ⟨rfl,bM (ZsI C (ae _) m2 hB1 hu λt2 hB2 hu2=>?_)⟩));simp only[d9,aS,if_false];refine bM (lU ?_);rw[(fin t2 hB2 hu2).1];refine bM (wpS_modify (cL (.inr ⟨⋯,rfl,t2,hB2,?_,hu2⟩)))
    rw[D.pend t2 hB2];rfl
   .rw[if_neg c]
    have:m=N:=⋯
    subst this;refine bM (lU ?_);rw[(fin t1 hB1 hu).1];refine bM (wpS_modify (cL (.inr ⟨⋯,rfl,t1,hB1,?_,hu⟩)))
    rw[D.pend t1 hB1];rfl
  .show wpS _ _ _ _ (if N ≥ N then _ else _) _ _
   rw[if_pos (ae _)];exact cL ⟨rfl,hD⟩
 .rcases hI with⟨x0,_,_⟩|⟨_,hc,hD⟩
  .lia
  .exact⟨hc,hD⟩
 .obtain⟨rfl,t0,hB0,rfl,hu⟩:=hI;refine bM (wpS_mono (gL (λ_ c t=>t=gn t0 #[(0,N,0)]/\c=(none,())) (Q:=λc t=>t=gn t0 #[(0,N,0)]/\c=(none,())) (λx c t _ _ hI=>?_) (λ_ _ h=>h) ⟨rfl,rfl⟩) λc t hI=>?_)
  .obtain⟨rfl,rfl⟩:=hI;refine bM (lU ?_);rw[if_pos (show(jH (gn t0 #[(0,N,0)])).size<=1 from ae 1)];exact cL ⟨rfl,rfl⟩
  .obtain⟨rfl,rfl⟩:=hI;exact cL (q t0 _ hB0 rfl (D.fail t0 hB0) hu)
theorem Ziz(x y:aa):keyLt' (lV true) x y=(do
  let xs <-gM x
  let ys <-gM y
  for ((p,q),i)in (xs.toList.zip ys.toList).zipIdx do
   if !(<-eqBool p q)then return <-oneLt' (true&&i==0) p q
  return decide (xs.size<ys.size)):=rfl
noncomputable def ZpG(x:(aa×aa)×Nat)(_:Option Bool×Unit):Sem (ForInStep (Option Bool×Unit)):=match x with
 | ((p,q),i)=>do
  let b <-eqBool p q
  if(!b)=true then do
   let r <-oneLt' (true&&i==0) p q
   pure (ForInStep.done (some r,()))
  else pure (ForInStep.yield (none,()))
theorem ZiA{f:Bool}{a b:Int}{t u:Tok}{Q:Bool->aH->Prop}(h:Q (decide (a<b)) s):wpAny (aE prog w) A (oneLt' f (.int a t) (.int b u)) Q E s:=by
 cases f with
 |true=>exact oneLt_int h
 |false=>
  rw[oneLt'_eq];simp only[aS,if_false];exact Wb (HT.Zj0 _ _ _ _ _ _ _ _ _ _ (dY h))
theorem ZkD:∀{us vs:List aa}{ns ms:List Int},gz us ns->gz vs ms->∀(k:Nat)(Q:Option Bool×Unit->aH->Prop),(∀b,b=HT.Za8 ns ms->Q (some b,()) s)->(HT.Za8 ns ms=decide (us.length<vs.length)->Q (none,()) s)->wpAny (aE prog w) A (forIn ((us.zip vs).zipIdx k) (none,()) ZpG) Q E s:=by
 intro us vs ns ms hu
 induction hu generalizing vs ms with
 |nil=>
  intro hv k Q _ h2;simp only[List.zip_nil_left,ir,gJ];refine Wp (h2 ?_);cases hv<;>simp[HT.Za8]
 |@cons n t us ns hu ih=>
  intro hv k Q h1 h2;cases hv with
  |nil=>
   simp only[List.zip_nil_right,ir,gJ];exact Wp (h2 (by simp[HT.Za8]))
  |@cons m u vs ms hv=>
   rw[iR,jG,gg];obtain⟨e,he,hi⟩:=HT.ZjZ A s n t m u;refine Wb (Wb (he prog w _ _ ?_));cases e with
   |true=>
    have:n=m:=hi.mp rfl
    subst this;refine Wp (ih hv (k+1) Q (λb hb=>h1 b ?_) λz=>h2 ?_)
    .rw[HT.Z2,if_pos rfl];exact hb
    .rw[HT.Z2,if_pos rfl,z];simp
   |false=>
    have:n≠m:=λz=>by have:=hi.mpr z;cases this
    refine Wb (ZiA (Wp (Wp (h1 _ ?_))));rw[HT.Z2,if_neg this]
def Zbz(h:Heap)(v:aa)(ns:List Int):Prop:=∃a o its n,v=.ref a/\h.get? a=some o/\o.cls=.type "tuple"/\o.data=.seq its n/\gz its.toList ns
theorem ZiB:∀{us:List aa}{ns ms:List Int},gz us ns->gz us ms->ns=ms:=by
 intro us ns ms h
 induction h generalizing ms with
 |nil=>intro g;cases g;rfl
 |cons n t h ih=>
  intro g;cases g with
  |cons _ _ g=>rw[ih g]
theorem Zbz.uniq{h:Heap}{v:aa}{ns ms:List Int}(a:Zbz h v ns)(b:Zbz h v ms):ns=ms:=by
 obtain⟨p,o,its,n,rfl,e1,e2,e3,e4⟩:=a;obtain⟨p',o',its',n',e5,f1,f2,f3,f4⟩:=b;cases e5;rw[e1]at f1;cases f1;rw[e3]at f3;cases f3;exact ZiB e4 f4
theorem ZsJ{x y:aa}{ns ms:List Int}{Q:Bool->aH->Prop}(hx:Zbz s.heap x ns)(hy:Zbz s.heap y ms)(q:Q (HT.Za8 ns ms) s):wpAny (aE prog w) A (keyLt' (lV true) x y) Q E s:=by
 obtain⟨a,o,its,n,rfl,e1,e2,e3,e4⟩:=hx;obtain⟨b,o',its',n',rfl,f1,f2,f3,f4⟩:=hy;rw[Ziz];refine Wb (iG e1 e3 (Wb (iG f1 f3 ?_)));show wpAny _ _ (forIn ((its.toList.zip its'.toList).zipIdx 0) (none,()) ZpG >>= _) _ _ _;refine Wb (ZkD e4 f4 0 _ (λb hb=>?_) λz=>?_)
 .rw[hb];exact Wp q
 .show wpAny _ _ (pure (decide (its.size<its'.size))) _ _ _;rw[show decide (its.size<its'.size)=HT.Za8 ns ms by rw[z];simp]
  exact Wp q
open Classical in
def kfH(h:Heap)(p:gY):List Int:=if e:∃ns,Zbz h p.1 ns then e.choose else[]
theorem Zlx{h:Heap}{p:gY}{ns:List Int}(e:Zbz h p.1 ns):kfH h p=ns:=by
 unfold kfH;rw[dif_pos ⟨ns,e⟩];exact(Exists.choose_spec (⟨ns,e⟩:∃ns,Zbz h p.1 ns)).uniq e
structure TB(a₀:Array gY) (st:dO):Prop where
 perm:(arrOf st).Perm a₀
 kind:kindOf st=lV true
 fail:kO st=none
 pend:jH st= #[]
theorem ZsK{a₀:Array gY}(hk:∀p∈a₀.toList,∃ns,Zbz s.heap p.1 ns):Cm (aE prog w) A E s (kfH s.heap) (TB a₀) a₀.size where
 sz st h:=h.perm.size_eq
 put st xs h hp:=⟨hp.trans h.perm,h.kind,h.fail,h.pend⟩
 cmp st i j Q h hi hj q:=by
  have sz:=h.perm.size_eq;have gt:∀k,k<a₀.size->∃x p ns,(arrOf st)[k]?=some (x,p)/\Zbz s.heap x ns/\ky (kfH s.heap) (arrOf st) k=ns:=λk kk=>by
   have kl:k<(arrOf st).size:=⋯
   have e:(arrOf st)[k]?=some (arrOf st)[k]:=getElem?_pos _ k kl;obtain⟨ns,ht⟩:=hk _ ((i7.mp h.perm).mem_iff.mp (show(arrOf st)[k]∈(arrOf st).toList by simp))
   refine⟨(arrOf st)[k].1,(arrOf st)[k].2,ns,e,ht,?_⟩;unfold ky;rw[e];exact Zlx ht
  obtain⟨x,p,ns,e1,t1,k1⟩:=gt i hi;obtain⟨y,p',ms,e2,t2,k2⟩:=gt j hj;rw[k1,k2]at q;rw[ltAt'_eq];refine bM (lU ?_);show wpS _ _ _ _ (elem' (arrOf st) i >>= λx=>elem' (arrOf st) j >>= λy=>lt' x y) Q st;rw[elem'_eq,elem'_eq,e1,e2];refine bM (cL (bM (cL ?_)));rw[lt'_eq];refine bM (lU ?_);rw[h.kind];exact bM (wpS_lift (d8 (ZsJ t1 t2 ⟨rfl,cL q⟩)))
theorem ZsL{a₀:Array gY}:Cn (TB a₀):=⟨λ_ h=>h.fail,λ_ h=>h.pend⟩
theorem Zm9{v:aa}{n:Int}{ns:List Int}{Q:Option aa->aH->Prop}(h:Zbz s.heap v (n::ns))(q:∀t,Q (some (.int n t)) s):wpAny (aE prog w) A (lE v) Q E s:=by
 obtain⟨a,o,its,m,rfl,e1,e2,e3,e4⟩:=h;have e:lE (.ref a)=(do
  if(<-typeOf (.ref a)) != .type "tuple" then return none
  return (<-gM (.ref a))[0]?):=rfl
 rw[e];refine Wb (wpAny_typeOf ⟨o,e1,e2⟩ ?_);rw[if_neg (by decide)]
 refine Wb (iG e1 e3 (Wp ?_));cases its with
 |mk l=>
  cases e4 with
  |cons n t h=>exact q t
theorem Zf5:∀{vs:List aa},(∀v∈vs,∃n ns,Zbz s.heap v (n::ns))->∀(Q:List (Option aa)->aH->Prop),(∀us ns,gz us ns->us.length=vs.length->Q (us.map some) s)->wpAny (aE prog w) A (vs.mapM lE) Q E s
 |[],_,Q,q=>by
  rw[List.mapM_nil];exact Wp (q [] [] .nil rfl)
 |v::vs,h,Q,q=>by
  obtain⟨n,ns,hv⟩:=h v (by simp)
  rw[List.mapM_cons];refine Wb (Zm9 hv λt=>Wb (Zf5 (λx hx=>h x (aJ _ hx)) _ λus ms hi hl=>Wp ?_));exact q (.int n t::us) (n::ms) (.cons n t hi) (by simp[hl])
theorem ZpH{vs:List aa}{Q:SortKind->aH->Prop}(h:∀v∈vs,∃n ns,Zbz s.heap v (n::ns))(ne:vs≠[])(q:Q (lV true) s):wpAny (aE prog w) A (keyKind' vs.toArray) Q E s:=by
 rw[keyKind'_eq,List.mapM_toArray];simp only[map_eq_pure_bind,bind_assoc,pure_bind];refine Wb (Zf5 h _ λus ns hi hl=>?_);have a1:((us.map some).toArray.all λx=>x.isSome)=true:=by simp
 rw[if_pos a1];refine Wb (wpAny_rule ?_);have a2:(us.map some).toArray.filterMap id=us.toArray:=by simp
 rw[a2,oneTypeOnly'_eq,List.mapM_toArray,mapM_typeOf_ints hi];cases us with
 |nil=>exact absurd (dg hl.symm) ne
 |cons u us=>
  simp only[map_pure,pure_bind];have b0:(List.map (λ_=>bL "int") (u::us)).toArray[0]?=some (bL "int"):=by simp
  have b1:((List.map (λ_=>bL "int") (u::us)).toArray.all λx=>x==bL "int")=true:=by
   rw[List.all_toArray,List.all_map,eK];exact λ_ _=>rfl
  rw[b0];show wpAny _ _ (pure (if((List.map (λ_=>bL "int") (u::us)).toArray.all λx=>x==bL "int")=true then some (bL "int")else none) >>= _) _ _ _
  rw[if_pos b1];exact Wb (Wp (Wp q))
end
end ST
namespace ST
def ins(x:List Int):List (List Int)->List (List Int)
 |[]=>[x]
 |y::r=>if lt y x=true then y::ins x r else x::y::r
def srt:List (List Int)->List (List Int)
 |[]=>[]
 |x::r=>ins x (srt r)
theorem ZdE(x:List Int):∀l,(ins x l).Perm (x::l)
 |[]=>.refl _
 |y::r=>by
  unfold ins;split
  .exact((ZdE x r).cons y).trans (.swap x y r)
  .exact .refl _
theorem ZbR:∀l,(srt l).Perm l
 |[]=>.refl _
 |x::r=>(ZdE x (srt r)).trans ((ZbR r).cons x)
theorem Zly(x:List Int):∀l,l.Pairwise le->(ins x l).Pairwise le
 |[],_=>List.pairwise_singleton _ _
 |y::r,h=>by
  obtain⟨h1,h2⟩:=i8.mp h;unfold ins;split
  .rename_i c;refine i8.mpr ⟨λz hz=>?_,Zly x r h2⟩;rcases ar.mp ((ZdE x r).mem_iff.mp hz)with rfl|hz
   .exact Ziw c
   .exact h1 z hz
  .rename_i c;have c:le x y:=by unfold le;simpa using c
   refine i8.mpr ⟨λz hz=>?_,h⟩;rcases ar.mp hz with rfl|hz
   .exact c
   .exact ZgU c (h1 z hz)
theorem ZiC:∀l,(srt l).Pairwise le
 |[]=>.nil
 |x::r=>Zly x _ (ZiC r)
theorem ZkE(hp:a.Perm b)(h:a.Pairwise le):a=srt b:=
 jy (λx y _ _ h1 h2=>Zev h2 h1) h (ZiC b) (hp.trans (ZbR b).symm)
end ST
namespace DL
open PyProof.Rows L2 PySem.W
theorem Zff{F:α->β->Prop}{us us':List β}(hp:us'.Perm us):∀{xs:List α},Paired F xs us->∃xs',xs'.Perm xs/\Paired F xs' us':=by
 induction hp with
 |nil=>intro xs h;exact⟨xs,.refl _,h⟩
 |@cons a l1 l2 h ih=>
  intro xs r;cases r with
  |cons r1 r2=>
   obtain⟨xs',p1,p2⟩:=ih r2;exact⟨_::xs',p1.cons _,.cons r1 p2⟩
 |swap a b l=>
  intro xs r;cases r with
  |cons r1 r2=>
   cases r2 with
   |cons r2 r3=>exact⟨_::_::_,.swap _ _ _,.cons r2 (.cons r1 r3)⟩
 |trans h1 h2 i1 i2=>
  intro xs r;obtain⟨x1,p1,q1⟩:=i2 r;obtain⟨x2,p2,q2⟩:=i1 q1;exact⟨x2,p2.trans p1,q2⟩
def ZuD(K:Fg)(H:Hp)(x:V)(ns:List Int):Prop:=∃q,x=.ref q/\SqT K H q (ns.map V.int)
section
variable {X:Cx}
theorem Zf6(I:Inv X pins σ H s)(h:ZuD X.K H x ns)(r:ZT x u):ST.Zbz s.heap u ns:=by
 obtain⟨q,rfl,hq⟩:=h;cases r;obtain⟨its,r2,⟨o,k1,k2,n,k3⟩,_⟩:=I.tuple hq;exact⟨q,o,its.toArray,n,rfl,k1,k2,k3,by simpa using Zdg r2⟩
theorem Zew:bN "sorted"=some (.builtin "sorted"):=by decide +kernel
def Zlz(ns:List Int):D:=.tup (ns.map D.int)
theorem ZbS:∀a:List Int,Zfb (a.map D.int)=some a
 |[]=>rfl
 |i::r=>by rw[aR,Zfb,ZbS r]
theorem ZkF(h:Zlz a=Zlz b):a=b:=by
 have:Zfb (a.map D.int)=Zfb (b.map D.int):=by unfold Zlz at h;rw[D.tup.inj h]
 rw[ZbS,ZbS]at this;exact aO this
theorem ZiD(r:Rep X.K H α v (Zlz ns)):ZuD X.K H v ns:=by
 cases r with
 |tup hp rp=>
  have:=Zie rp (ZbS ns)
  subst this;exact⟨_,rfl,SqT.of hp⟩
end
end DL
namespace DL
open PyProof.Rows L2 PySem.W
theorem Zf7{a:List Int}(hp:a.Perm b)(h:a.Pairwise (· <= ·))(g:b.Pairwise (· <= ·)):a=b:=
 jy (λ_ _ _ _ h1 h2=>Int.le_antisymm h1 h2) h g hp
def Zna(ns:List Int):List Int:=ns.mergeSort
theorem ZcL(ns:List Int):(Zna ns).Perm ns:=List.mergeSort_perm ns _
theorem ZiE(ns:List Int):(Zna ns).Pairwise (· <= ·):=by
 have:=List.pairwise_mergeSort (le:=λa b:Int=>decide (a<=b)) (λa b c h g=>by simp at *;lia) (λa b=>by simp;lia) ns
 exact this.imp λh=>of_decide_eq_true h
def ZpI(X:Cx):List V->Hp->VK->Prop:=λvs H Q=>∃p ns,vs=[.ref p]/\SqL X.K H p (ns.map V.int)/\ns.length<64/\∀l,H l=none->Q (.ref l) (upd H l (.lst ((Zna ns).map V.int)))
theorem Zex:Zbq X (.builtin "sorted") (ZpI X):=by
 intro pins s σ H vs us Q I rs hh;obtain⟨p,ns,e,hl,h64,q⟩:=hh;subst e;obtain⟨u,rfl,ru⟩:=Zck rs;cases ru;obtain⟨its,rv,pl,hz⟩:=I.list hl;have li:its.length=ns.length:=by rw[<-rv.length,af]
 refine sorted_ints pl.isList (Zdg rv) ⋯ λout ms a1 a2 a3=>?_
 obtain⟨n,hn⟩:=sortedAll_at s.heap its out;rw[Zf7 (a2.trans (ZcL ns).symm) a3 (ZiE ns)]at a1;refine⟨.ref _,_,I.laid (t':=s.toks) (o:=.lst ((Zna ns).map V.int)) (λ_ _ h=>sortedAll_old h) (ji _) ⟨by rw[af,(ZcL ns).length_eq];simpa using hz,out.toList,n,ZcD a1,hn⟩,rfl,q _ (I.hok.fresh (ji _))⟩
def bSrtI:W3:=λds M=>match ds with
 |[.ref n]=>(match M[n]? with|some (.lst xs)=>(match ZaC xs with|some ns=>if ns.length<64 then .ok (.ref M.length) (M++[.lst ((Zna ns).map D.int)])else .bad|none=>.bad)|none=>.bad)
 |_=>.bad
theorem ZgV:CO X ξ (ZpI X) bSrtI:=by
 intro H α M vs ds Q h rs q;cases rs with
 |nil=>exact q.elim
 |@cons _ x _ _ r tz=>
  cases tz with
  |cons _ _=>cases r<;>exact q.elim
  |nil=>
   cases r with
   |@ref p n hp=>
    cases em:M[n]? with
    |none=>simp only[bSrtI,em]at q;exact q.elim
    |some so=>
     cases so with
     |lst es=>
      simp only[bSrtI,em]at q;obtain⟨xs,g1,g2⟩:=h.at hp em;cases e1:ZaC es with
      |none=>rw[e1]at q;exact q.elim
      |some ns=>
       simp only[e1]at q
       have:=Zf2 g2 e1
       subst this
       split at q
       .rename_i c;exact⟨p,ns,rfl,SqL.of g1,c,λl hl=>q _ _ (α++[l]) (Ext.new hl) (h.new hl (Reps.ints _)) (.ref ⟨h.last l,Kn.lst Zx⟩)⟩
       .exact q.elim
   |_=>exact q.elim
end DL
namespace ST
open PyProof.Rows
section
variable {e:Nat}{vs:List aa}
theorem Znb{st:dO}(ho:s.heap.get? a=some (bB "list" #[] e1))(hk:s.heap.get? kS=some (bB "list" keys e))(hka:kS≠a)(hsz:keys.size=vs.length)(h64:vs.length<64)(hp:(arrOf st).Perm (keys.zip vs.toArray))(hfl:kO st=none)(h:∀h' c,(∀b o,b≠a->b≠kS->s.heap.get? b=some o->h'.get? b=some o)->(∃o,h'.get? kS=some o)->h'.get? a=some (bB "list" ((arrOf st).map (·.2)) c)->P (.done (.ret .none)) {s with heap:=h'}):
  wpAny (aE prog w) A (ksk_tail a false e1 (.ref kS) st) P E s:=by
 have hsz2:(arrOf st).size=vs.length:=by rw[hp.size_eq,Array.size_zip,hsz,am,jV]
 have s1:=cI s.heap kS (bv λ_=>(#[]:Array aa));have na1:(s.heap.update kS (bv λ_=>(#[]:Array aa))).get? a=some (bB "list" #[] e1):=(s1.2 a hka.symm).trans ho;obtain⟨ck,hck⟩:∃ck,(s.heap.update kS (bv λ_=>(#[]:Array aa))).get? kS=some (bB "list" #[] ck):=⟨_,iw hk λ_=> #[]⟩;have s2:=cI (s.heap.update kS (bv λ_=>(#[]:Array aa))) a (bv λ_=>(arrOf st).map (·.2));obtain⟨c2,hc2⟩:∃c2,((s.heap.update kS (bv λ_=>(#[]:Array aa))).update a (bv λ_=>(arrOf st).map (·.2))).get? a=some (bB "list" ((arrOf st).map (·.2)) c2):=⟨_,iw na1 λ_=>(arrOf st).map (·.2)⟩;unfold ksk_tail
 try dsimp only
 refine Wb (jz hk rfl ?_ (by rw[hsz,df];lia) (dB _))
 refine Wb (ib ?_);refine Wb (seqEpoch_at na1 rfl ?_);simp only[aS,if_false];refine Wb (jz na1 rfl ?_ (dB _) (by rw[Array.size_map,hsz2,df];lia))
 rw[hfl];simp only[bne_self_eq_false,aS,if_false];refine Wp (h _ c2 (λb o n1 n2 q=>?_) ⟨_,(s2.2 kS hka).trans hck⟩ hc2);exact(s2.2 b n1).trans ((s1.2 b n2).trans q)
theorem ZpJ(ho:s.heap.get? a=some (bB "list" #[] e1))(hk:s.heap.get? kS=some (bB "list" keys e))(hka:kS≠a)(hsz:keys.size=vs.length)(h64:vs.length<64)(hu:∀u∈keys.toList,∃n ns,Zbz s.heap u (n::ns))(h:∀(out:List (aa×aa)) h' c,out.Perm (keys.toList.zip vs)->(∀i j (hi:i<out.length) (hj:j<out.length),i<=j->∀ns ms,Zbz s.heap out[i].1 ns->Zbz s.heap out[j].1 ms->le ns ms)->(∀b o,b≠a->b≠kS->s.heap.get? b=some o->h'.get? b=some o)->(∃o,h'.get? kS=some o)->h'.get? a=some (bB "list" (out.map (·.2)).toArray c)->P (.done (.ret .none)) {s with heap:=h'}):
  wpAny (aE prog w) A (ksk_end a false vs.toArray e1 (.ref kS) keys) P E s:=by
 have hzs:(keys.zip vs.toArray).size=vs.length:=by rw[Array.size_zip,hsz,am,jV]
 have fin:∀st':dO,(arrOf st').Perm (keys.zip vs.toArray)->kO st'=none->(∀i j,i<=j->j<vs.length->le (ky (kfH s.heap) (arrOf st') i) (ky (kfH s.heap) (arrOf st') j))->wpAny (aE prog w) A (ksk_tail a false e1 (.ref kS) st') P E s:=λst' hp hf hs=>by
  refine Znb ho hk hka hsz h64 hp hf λh' c k1 k2 k3=>?_;have hl:(arrOf st').toList.Perm (keys.toList.zip vs):=by
   have:=i7.mp hp
   rwa [ksk_zip]at this
  have lz:(arrOf st').size=vs.length:=by rw[hp.size_eq,hzs]
  refine h (arrOf st').toList h' c hl (λi j hi hj ij ns ms t1 t2=>?_) k1 k2 (by
   have:(arrOf st').map (·.2)=((arrOf st').toList.map (·.2)).toArray:=by apply Array.toList_inj.mp;simp
   rw[<-this];exact k3)
  have hi':i<(arrOf st').size:=by simpa using hi
  have hj':j<(arrOf st').size:=by simpa using hj
  have kk:∀k (hk:k<(arrOf st').size) (ns:List Int),Zbz s.heap ((arrOf st')[k]).1 ns->ky (kfH s.heap) (arrOf st') k=ns:=λk hk ns ht=>by
   unfold ky;rw[getElem?_pos (arrOf st') k hk];exact Zlx ht
  have q:=hs i j ij ⋯
  rw[kk i hi' ns (by simpa using t1),kk j hj' ms (by simpa using t2)]at q
  exact q
 unfold ksk_end;simp only[aS,if_false];by_cases h2:vs.toArray.size<2
 .rw[if_pos h2,if_pos h2];refine Wb (Wp ?_);rw[StateT.run_pure];refine Wb (Wp ?_);rw[am]at h2;exact fin (dO.mk' general' (keys.zip vs.toArray) #[] 7 none) (Array.Perm.refl _) rfl λi j ij jn=>by rw[show i=j by lia];exact ZdD _
 .rw[if_neg h2,if_neg h2];rw[am]at h2;have ek:keys=keys.toList.toArray:=by simp
  have kw:wpAny (aE prog w) A (keyKind' keys) (λk s'=>k=lV true/\s'=s) E s:=by
   rw[ek];exact ZpH hu (λz=>by have:=congrArg List.length z;simp at this;rw[this]at hsz;simp at hsz;lia) ⟨rfl,rfl⟩
  refine Wb (wpAny_mono kw (λk s' hk'=>?_) λ_ _ e=>e);obtain⟨rfl,rfl⟩:=hk';refine Wb (wpAny_mono (ZpF (N:=(keys.zip vs.toArray).size) (st:=dO.mk' (lV true) (keys.zip vs.toArray) #[] 7 none) (Q:=λ_ t'=>∃t,TB (keys.zip vs.toArray) t/\arrOf t'=arrOf t/\kO t'=none/\Up (kfH s'.heap) (arrOf t) (keys.zip vs.toArray).size) (ZsK λp hp=>?_) ZsL (by rw[hzs];lia) (by rw[hzs];exact h64) ⟨Array.Perm.refl _,rfl,rfl,rfl⟩ λt t' b1 b2 b3 b4=>⟨t,b1,b2,b3,b4⟩) ?_ λ_ _ e=>e)
  .rw[ksk_zip]at hp;obtain⟨x,y⟩:=p;obtain⟨n,ns,ht⟩:=hu x (gf hp).1;exact⟨_,ht⟩
  .rintro⟨⟨⟩,t'⟩ s2 ⟨rfl,t,tb,ea,ef,hup⟩;rw[hzs]at hup;exact fin t' (by rw[ea];exact tb.perm) ef (by rw[ea];exact hup)
theorem Znc(J:List aa->aH->Prop)(ho:s.heap.get? a=some (bB "list" #[] e1))(hk:s.heap.get? kS=some (bB "list" #[] 0))(hka:kS≠a)(h64:vs.length<64)(hJ:J [] s)(turn:∀i v kL s' na ea nk ek,vs[i]?=some v->kL.length=i->J kL s'->s'.heap.get? a=some (bB "list" na ea)->s'.heap.get? kS=some (bB "list" nk ek)->wpAny (aE prog w) A (call f [v]) (λu s''=>J (kL++[u]) s''/\s''.heap.get? a=some (bB "list" na ea)/\s''.heap.get? kS=some (bB "list" nk ek)) (λ_ _=>False) s')(upd:∀kL s' h',J kL s'->(∀b o,b≠kS->s'.heap.get? b=some o->h'.get? b=some o)->(∃o,h'.get? kS=some o)->J kL {s' with heap:=h'})(key:∀kL s',J kL s'->∀u∈kL,∃n ns,Zbz s'.heap u (n::ns))(h:∀kL s' (out:List (aa×aa)) h' c,J kL s'->kL.length=vs.length->out.Perm (kL.zip vs)->(∀i j (hi:i<out.length) (hj:j<out.length),i<=j->∀ns ms,Zbz s'.heap out[i].1 ns->Zbz s'.heap out[j].1 ms->le ns ms)->(∀b o,b≠a->b≠kS->s'.heap.get? b=some o->h'.get? b=some o)->(∃o,h'.get? kS=some o)->h'.get? a=some (bB "list" (out.map (·.2)).toArray c)->P (.done (.ret .none)) {s' with heap:=h'}) :
  wpAny (aE prog w) A (ksk_rest a f false vs.toArray e1 (.ref kS)) P E s:=by
 unfold ksk_rest;refine Wb (wpAny_rule ?_)
 first
  |rw[List.forIn_toArray]
  | (rw[<-eQ];simp only[List.toList_toArray])
  |rw[<-eQ]
 refine Wb (ksk_fold (λi s'=>∃kA e,J kA.toList s'/\s'.heap.get? a=some (bB "list" #[] e1)/\s'.heap.get? kS=some (bB "list" kA e)/\kA.size=i) vs 0 s ⟨#[],0,hJ,ho,hk,rfl⟩ ?step ?done)
 case step=>
  rintro j x s' hx ⟨kA,e,hJ',ho',hk',hz⟩;rw[fH]at hz;have hj:j<vs.length:=(au.mp hx).1;refine Wb (d8 (wpAny_mono (turn j x kA.toList s' _ _ _ _ hx (by simpa using hz) hJ' ho' hk') (λu s'' he=>?_) λ_ _ hF=>hF.elim))
  obtain⟨g1,g2,g3⟩:=he
  try dsimp only
  have s1:=cI s''.heap kS (bv (·.push u));obtain⟨c2,hc2⟩:∃c2,(s''.heap.update kS (bv (·.push u))).get? kS=some (bB "list" (kA.push u) c2):=⟨_,iw g3 (·.push u)⟩;refine Wb (jz g3 rfl ?_ (by rw[hz,df];lia) (aU (lW (Array.size_push ..)) (by rw[df];lia)))
  refine Wp ⟨rfl,kA.push u,c2,?_,(s1.2 a hka.symm).trans g2,hc2,by rw[Array.size_push,hz];lia⟩
  have ea:(kA.push u).toList=kA.toList++[u]:=by simp
  rw[ea];exact upd _ _ _ g1 (λb o nb q=>(s1.2 b nb).trans q) ⟨_,hc2⟩
 case done=>
  rintro s' ⟨kA,e,hJ',ho',hk',hz⟩;rw[fH]at hz
  try dsimp only
  refine Wb (iG hk' rfl ?_);exact ZpJ ho' hk' hka hz h64 (key _ _ hJ') λout h' c k1 k2 k3 k4 k5=>h kA.toList s' out h' c hJ' (by simpa using hz) k1 k2 k3 k4 k5
theorem Znd(J:Addr->List aa->aH->Prop)(ho:s.heap.get? a=some (bB "list" vs.toArray n))(h64:vs.length<64)(hJ:∀kS h1,s.heap.objs.size<=kS->(∀b o,b≠a->s.heap.get? b=some o->h1.get? b=some o)->(∃o,h1.get? a=some o)->(∃o,h1.get? kS=some o)->J kS [] {s with heap:=h1})(turn:∀kS i v kL s' na ea nk ek,vs[i]?=some v->kL.length=i->J kS kL s'->s'.heap.get? a=some (bB "list" na ea)->s'.heap.get? kS=some (bB "list" nk ek)->wpAny (aE prog w) A (call f [v]) (λu s''=>J kS (kL++[u]) s''/\s''.heap.get? a=some (bB "list" na ea)/\s''.heap.get? kS=some (bB "list" nk ek)) (λ_ _=>False) s')(upd:∀kS kL s' h',J kS kL s'->(∀b o,b≠kS->s'.heap.get? b=some o->h'.get? b=some o)->(∃o,h'.get? kS=some o)->J kS kL {s' with heap:=h'})(key:∀kS kL s',J kS kL s'->∀u∈kL,∃n ns,Zbz s'.heap u (n::ns))(h:∀kS kL s' (out:List (aa×aa)) h' c,J kS kL s'->kL.length=vs.length->out.Perm (kL.zip vs)->(∀i j (hi:i<out.length) (hj:j<out.length),i<=j->∀ns ms,Zbz s'.heap out[i].1 ns->Zbz s'.heap out[j].1 ms->le ns ms)->(∀b o,b≠a->b≠kS->s'.heap.get? b=some o->h'.get? b=some o)->(∃o,h'.get? kS=some o)->h'.get? a=some (bB "list" (out.map (·.2)).toArray c)->P (.done (.ret .none)) {s' with heap:=h'}) :
  wpAny (aE prog w) A (ksk_tree a f false) P E s:=by
 have ha:a<s.heap.objs.size:=Hz ho;have s1:=cI s.heap a (bv λ_=>(#[]:Array aa));obtain⟨e1,ho1⟩:∃e1,(s.heap.update a (bv λ_=>(#[]:Array aa))).get? a=some (bB "list" #[] e1):=⟨_,iw ho λ_=> #[]⟩;have hkS:((s.heap.update a (bv λ_=>(#[]:Array aa))).push (bB "tuple" vs.toArray 0)).objs.size=s.heap.objs.size+1:=by rw[lL,mB.size_update]
 unfold ksk_tree;refine Wb (iG ho rfl ?_);refine Wb (jz ho rfl ?_ (by rw[am,df];lia) (dB _))
 refine Wb (seqEpoch_at ho1 rfl ?_);refine Wb (wpAny_newTuple ?_ (by show vs.length<=_;rw[df];lia))
 refine Wb (wpAny_newList ?_ (dB _));refine wpAny_holding ?_;have hn:=aF ((s.heap.update a (bv λ_=>(#[]:Array aa))).push (bB "tuple" vs.toArray 0)) (o:=bB "list" #[] 0) rfl;exact Znc (s:={s with heap:=((s.heap.update a (bv λ_=>(#[]:Array aa))).push (bB "tuple" vs.toArray 0)).push (bB "list" #[] 0)}) (kS:=((s.heap.update a (bv λ_=>(#[]:Array aa))).push (bB "tuple" vs.toArray 0)).objs.size) (J _) (Hq _ (Hq _ ho1)) hn (by rw[hkS];exact aQ (gI ha)) h64
  (hJ _ _ (by rw[hkS];exact ji _) (λb o nb q=>Hq _ (Hq _ ((s1.2 b nb).trans q))) ⟨_,Hq _ (Hq _ ho1)⟩ ⟨_,hn⟩) (turn _) (upd _) (key _) (h _)
theorem ZiF(J:Addr->Addr->List aa->aH->Prop)(hl:s.heap.IsList l vs.toArray)(h64:vs.length<64)(hJ:∀a kS h1,s.heap.objs.size<=a->s.heap.objs.size<=kS->kS≠a->(∀b o,s.heap.get? b=some o->h1.get? b=some o)->(∃o,h1.get? a=some o)->(∃o,h1.get? kS=some o)->J a kS [] {s with heap:=h1})(turn:∀a kS i v kL s' na ea nk ek,vs[i]?=some v->kL.length=i->J a kS kL s'->s'.heap.get? a=some (bB "list" na ea)->s'.heap.get? kS=some (bB "list" nk ek)->wpAny (aE prog w) A.in1.in1 (call (.ref fq) [v]) (λu s''=>J a kS (kL++[u]) s''/\s''.heap.get? a=some (bB "list" na ea)/\s''.heap.get? kS=some (bB "list" nk ek)) (λ_ _=>False) s')(upd:∀a kS kL s' h',J a kS kL s'->(∀b o,b≠kS->s'.heap.get? b=some o->h'.get? b=some o)->(∃o,h'.get? kS=some o)->J a kS kL {s' with heap:=h'})(key:∀a kS kL s',J a kS kL s'->∀u∈kL,∃n ns,Zbz s'.heap u (n::ns))(h:∀a kS kL s' (out:List (aa×aa)) h' c,J a kS kL s'->kL.length=vs.length->out.Perm (kL.zip vs)->(∀i j (hi:i<out.length) (hj:j<out.length),i<=j->∀ns ms,Zbz s'.heap out[i].1 ns->Zbz s'.heap out[j].1 ms->le ns ms)->(∀b o,b≠a->b≠kS->s'.heap.get? b=some o->h'.get? b=some o)->(∃o,h'.get? kS=some o)->h'.get? a=some (bB "list" (out.map (·.2)).toArray c)->Q (.ref a) {s' with heap:=h'}) :
  wpAny (aE prog w) A (call (.builtin "sorted") [.ref l] [(a9 "key",.ref fq)]) Q E s:=by
 refine call_function_entry_kw kind_sorted plain_sorted entry_sorted (ksk_s1 _ _) ?_;unfold cW.«sorted»;refine Wb (m:=checkCount "sorted" 1 1 _) (Wp ?_);refine Wb (collect_list hl ?_ (by rw[df];lia))
 refine Wb (wpAny_newList ?_ (by rw[df];lia))
 have hsz:((s.heap.push (bB "list" #[] 0)).update s.heap.objs.size (bv (· ++ vs.toArray))).objs.size=s.heap.objs.size+1:=by
  rw[mB.size_update,lL]
 have hoL:(((s.heap.push (bB "list" #[] 0)).update s.heap.objs.size (bv (· ++ vs.toArray))).push (bB "list" vs.toArray 0)).get? (s.heap.objs.size+1)=some (bB "list" vs.toArray 0):=by
  rw[<-hsz];exact aF _ rfl
 have keep:∀b o,s.heap.get? b=some o->(((s.heap.push (bB "list" #[] 0)).update s.heap.objs.size (bv (· ++ vs.toArray))).push (bB "list" vs.toArray 0)).get? b=some o:=λb o q=>by
  have hlt:b<s.heap.objs.size:=Hz q;rw[mB.get?_push_ne _ _ _ (by rw[hsz];exact az (gI hlt)),mB.get?_update_ne _ _ _ _ (az hlt),mB.get?_push_ne _ _ _ (az hlt)]
  exact q
 show wpAny _ _ _ _ _ {s with heap:=((s.heap.push (bB "list" #[] 0)).update s.heap.objs.size (bv (· ++ vs.toArray))).push (bB "list" vs.toArray 0)};rw[hsz];refine Wb (wpAny_holding (wpAny_call_entry_kw slot_list_sort ⟨_,hoL,rfl⟩ entry_list_sort ?body (ksk_l1 _ _)))
 case body=>
  show wpAny (aE prog w) A.in1.in1 (cW.«list.sort» ⟨[.ref (s.heap.objs.size+1)],[(a9 "key",.ref fq)]⟩) _ _ _;rw[ksk_t1];have h2:(((s.heap.push (bB "list" #[] 0)).update s.heap.objs.size (bv (· ++ vs.toArray))).push (bB "list" vs.toArray 0)).objs.size=s.heap.objs.size+2:=by rw[lL,hsz]
  refine Znd (J (s.heap.objs.size+1)) (s:={s with heap:=((s.heap.push (bB "list" #[] 0)).update s.heap.objs.size (bv (· ++ vs.toArray))).push (bB "list" vs.toArray 0)}) hoL h64
   (λkS h1 k1 k2 k3 k4=>by
    have k1':s.heap.objs.size+2<=kS:=by rw[<-h2];exact k1
    exact hJ _ kS h1 (ji _) (aU (Nat.le_add_right _ 2) k1') (aQ k1') (λb o q=>k2 b o (az (gI (Hz q))) (keep b o q)) k3 k4) (turn _) (upd _) (key _) λkS kL s' out h' c g1 g2 g3 g4 g5 g6 g7=>⟨_,rfl,?_⟩
  exact Wp ⟨_,rfl,h _ kS kL s' out h' c g1 g2 g3 g4 g5 g6 g7⟩
end
end ST
namespace DL
open PyProof.Rows L2
def Zoj(K:Fg)(v:aa)(c P:Addr):Prop:=v=.ref c/\c≠P/\∃(o:Obj) (vs:Array aa) (file:Str) (tf:Tok) (flags:Int) (tg:Tok) (inF:Bool) (text:Int) (tt:Tok),K.lookup c=some o/\o.cls=.type "code"/\o.data=.fields vs/\vs[11]?=some (.ref P)/\vs.getD 11 .none=.ref P/\vs.getD 18 .none=.str file tf/\vs.getD 7 .none=.int flags tg/\vs.getD 9 .none=.bool inF/\vs.getD 10 .none=.int text tt
def ZsM(K:Fg):Prop:=∃bm o,PySem.W.nsIn K aM "__builtins__"=some (some (.ref bm))/\K.lookup bm=some o/\o.cls=.type "module"/\o.dict=some gk/\o.data=.plain/\bm≠gk/\bm≠aM
noncomputable def ZpK(c:Addr)(vs:Array aa):Bool:=match(vs[11]? :Option aa)with
 |some (.ref P)=>(match vs.getD 11 .none with
  |.ref P'=>(match vs.getD 18 .none with
   |.str _ _=>(match vs.getD 7 .none with
    |.int _ _=>(match vs.getD 9 .none with
     |.bool _=>(match vs.getD 10 .none with
      |.int _ _=>decide (P=P')&&decide (c≠P)
      |_=>false)
     |_=>false)
    |_=>false)
   |_=>false)
  |_=>false)
 |_=>false
def Zey(K:Fg)(v:aa):Bool:=match v with
 |.ref c=>(match K.lookup c with
  |some ⟨.type n,_,.fields vs,_⟩=>decide (n="code")&&ZpK c vs
  |_=>false)
 |_=>false
theorem ZkG{K:Fg}(h:Zey K v=true):∃c P,Zoj K v c P:=by
 unfold Zey at h
 split at h
 .rename_i c
  split at h
  .rename_i n od vs sl e;simp only[bg,decide_eq_true_eq]at h;obtain⟨rfl,h⟩:=h;unfold ZpK at h
   split at h
   .rename_i P e1
    split at h
    .rename_i P' e2
     split at h
     .rename_i f tf e3
      split at h
      .rename_i fl tg e4
       split at h
       .rename_i b e5
        split at h
        .rename_i tx tt e6;simp only[bg,decide_eq_true_eq]at h;obtain⟨rfl,ne⟩:=h;exact⟨c,P,rfl,ne,_,vs,_,_,_,_,_,_,_,e,rfl,rfl,e1,e2,e3,e4,e5,e6⟩
        .cases h
       .cases h
      .cases h
     .cases h
    .cases h
   .cases h
  .cases h
 .cases h
theorem Zoj.tb{K:Fg}(h:Zoj K v c P):TbP K P:=by
 obtain⟨_,_,o,vs,_,_,_,_,_,_,_,e1,e2,e3,e4,_⟩:=h;exact⟨c,o,vs,e1,e2,e3,e4⟩
theorem Zoj.hd{K:Fg}(x:Zoj K v c P)(k:K.In h):PySem.W.CodeHd h c P:=by
 obtain⟨_,ne,o,vs,file,tf,flags,tg,inF,text,tt,e1,e2,e3,e4,e5,e6,e7,e8,e9⟩:=x;exact⟨o,vs,file,tf,flags,tg,inF,text,tt,k _ _ e1,e2,e3,e4,e5,e6,e7,e8,e9,ne⟩
theorem Zcx{P:List aa->Prop}(h0:P [])(h1:∀i t j u x rest,fC rest->P rest->P (.int i t::.int j u::x::rest)):∀l,fC l->P l
 |[],_=>h0
 |.int i t::.int j u::x::rest,ht=>h1 i t j u x rest ht (Zcx h0 h1 rest ht)
 |[.int _ _],ht=>ht.elim
 |[.int _ _,.int _ _],ht=>ht.elim
theorem ZiG(l:List aa)(ht:fC l):dj pos (l++r)=some c->dj pos l=some c\/dj pos r=some c:=
 Zcx (P:=λl=>dj pos (l++r)=some c->dj pos l=some c\/dj pos r=some c) .inr (λi t j u x rest _ ih h=>by
  simp only[bI,dj]at h ⊢;by_cases q:(i == ↑pos.line&&j == ↑pos.col)=true
  .rw[if_pos q]at h ⊢;exact .inl h
  .rw[if_neg q]at h ⊢;exact ih h) l ht
theorem ZiH(l:List aa)(ht:fC l):dj pos l=some c->dj pos (l++r)=some c:=
 Zcx (P:=λl=>dj pos l=some c->dj pos (l++r)=some c) (λh=>by cases h) (λi t j u x rest _ ih h=>by
  simp only[bI,dj]at h ⊢;by_cases q:(i == ↑pos.line&&j == ↑pos.col)=true
  .rw[if_pos q]at h ⊢;exact h
  .rw[if_neg q]at h ⊢;exact ih h) l ht
theorem Zfg(l:List aa)(ht:fC l)(hr:fC r):fC (l++r):=Zcx (P:=λl=>fC (l++r)) hr (λ_ _ _ _ _ _ _ ih=>ih) l ht
noncomputable abbrev ZjQ(qual:Str)(params:Arguments)(body:Expr)(scope:gW)(cl:List (Str×Addr))(pm:aa)(c':Addr)(ctv:aa):Obj:=PySem.W.kla_obj "<lambda>" qual params body scope cl pm c' ctv
theorem ZsN(hP:H P=some (.tbl ps))(hc:H c'=none)(e:∀b,b≠P->b≠c'->H' b=H b):(∀K α,Ext K H H' α α)/\∀K α M,HR K H α M->HR K H' α M:=by
 have k:∀b u,H b=some u->(∀q,u≠ .tbl q)->H' b=some u:=λb u q nt=>by
  rw[e b (λz=>by subst z;rw[hP]at q;cases q;exact nt _ rfl) (ZR q hc)]
  exact q
 have ex:∀K α,Ext K H H' α α:=λK α=>by
  refine⟨λp u q t=>k p _ q (λ_ z=>by subst z;cases t),λp j q=>?_,[],(cD _).symm⟩
  have q':=q;cases z:H p with
  |none=>unfold Kn at q;rw[z]at q;cases q
  |some u=>
   have e:=Kn.at q z
   have:∀t,u≠ .tbl t:=λt y=>by subst y;cases e
   unfold Kn;rw[k p u z this,<-z];exact q'
 refine⟨ex,λK α M hr=>⟨hr.len,hr.nd,λn q so e1 m=>?_⟩⟩;have so':=hr.ob n q so e1 m;refine so'.mono (ex K α) ?_;cases so with
 |lst ds=>
  obtain⟨u,z,hd⟩:=so';rw[k q _ z (λ_ y=>by subst y;cases hd)]
  exact z.symm
noncomputable def ZpL(H:Hp)(P c':Addr):Prop:=∃ps pos,H P=some (.tbl ps)/\dj pos ps.toList=some (.ref c')
theorem ZkH(I:Inv X pins σ H s)(hm:ZsM X.K)(hc:Zoj X.K X.env.code c P)(hcl:lK scope X.env=pure cl)(h:∀f c' pm ctv H' s',s.heap.objs.size<=f->Inv X (pins++[(f,ZjQ qual params body scope cl pm c' ctv)]) σ H' s'->ZpL H' P c'->(∀K α,Ext K H H' α α)->(∀K α M,HR K H α M->HR K H' α M)->Q (.ref f) s'):wpAny (aE X.prog X.w) X.A (makeFunction "<lambda>" qual params (.expr body) scope X.env [] [] [] pos fl) Q E s:=by
 obtain⟨ps,hP⟩:=I.ok.tb.un I.base P hc.tb;obtain⟨oP,tP,cP⟩:=I.hok P _ hP;have hg:=I.mod.glob.keeps I.bk;have ng:∀b o,X.base.get? b=some o->b≠P:=λb o e z=>by
  have:=(I.bs b o e).2
  rw[z,hP]at this;cases this
 have hgP:aM≠P:=by
  obtain⟨o,es,ep,e,_⟩:=I.mod.glob;exact ng _ _ e
 have hb:s.heap.BuiltinsAt X.mg P:=by
  obtain⟨bm,o,e1,e2,e3,e4,e5,e6,e7⟩:=hm;exact⟨bm,o,PySem.W.mg_of I.mod.kin I.mod.glob e1,e6,e7,ng _ _ (I.mod.kin _ _ e2),I.kIn _ _ e2,e3,e4,e5⟩
 have pinf:∀{H':Hp}{s':aH}{f:Addr}{o:Obj},Inv X pins σ H' s'->s.heap.objs.size<=f->s'.heap.get? f=some o->H' f=none->(∀v,o.data≠ .cell v)->Inv X (pins++[(f,o)]) σ H' s':=λ{H' s' f o} I' hf e n nc=>I'.pins_of λp hp=>by
  rcases bZ.mp hp with hp|hp
  .exact I'.pin p (aW _ hp)
  .rw[da.mp hp];exact⟨e,n,aQ (aj I.lt hf),I.nofs hf,nc⟩
 cases hn:dj pos ps.toList with
 |some cv=>
  obtain⟨c',oc,vs,q,t,rfl,own,e1,e2,e3⟩:=cP pos cv hn;refine PySem.W.kla_makeFunctionHit hcl I.ok.glob hg hc.1 (hc.hd I.kIn) oP tP hn hb λctv h' tk hk hz=>?_;have kk:∀b o,s.heap.get? b=some o->(h'.push (ZjQ qual params body scope cl ((X.mg "__name__").getD .none) c' ctv)).get? b=some o:=λb o e=>Hq _ (hk b o e);have I':=I.kept (t':=tk) kk;refine h _ c' _ ctv H _ hz (pinf I' hz (aF _ rfl) (I.hok.fresh hz) (λv z=>by cases z)) ⟨ps,pos,hP,hn⟩ (λK α=>Ext.refl) λK α M hr=>hr
 |none=>
  refine PySem.W.kla_makeFunction hcl I.ok.glob hg hc.1 (hc.hd I.kIn) oP tP hn hgP hb λc' ctv h' tk hx hge hlt hrec htb=>?_;obtain⟨c2,oc,vs,t,e2,hoc,hd,hv⟩:=hrec;cases e2;have hc0:H c'=none:=I.hok.fresh hge;have cP':c'≠P:=λz=>by rw[z,hP]at hc0;cases hc0
  let H':Hp:=upd (upd H P (.tbl (ps ++ #[cT pos.line,cT pos.col,.ref c']))) c' (.own P)
  have e0:∀b,b≠P->b≠c'->H' b=H b:=λb n1 n2=>by show upd (upd H P _) c' _ b=_;rw[ZH n2,ZH n1]
  have eP:H' P=some (.tbl (ps ++ #[cT pos.line,cT pos.col,.ref c'])):=by show upd (upd H P _) c' _ P=_;rw[ZH (bh cP'),Zx]
  have eC:H' c'=some (.own P):=Zx;have kp:∀b o,b≠P->s.heap.get? b=some o->(h'.push (ZjQ qual params body scope cl ((X.mg "__name__").getD .none) c' ctv)).get? b=some o:=λb o n e=>Hq _ (hx b o n e);have nP:∀b,H b=none->b≠P:=λb n z=>by rw[z,hP]at n;cases n
  have nC:∀b o,s.heap.get? b=some o->b≠c':=λb o e=>az (aj (Hz e) hge);have nC':∀b u,H b=some u->b≠c':=λb u e=>az (aj (I.hok.lt e) hge);have same:∀b u,H b=some u->(∀q,u≠ .tbl q)->H' b=some u:=λb u e nt=>by
   rw[e0 b (λz=>by subst z;rw[hP]at e;cases e;exact nt _ rfl) (nC' b u e)]
   exact e
  have tP':fC (ps ++ #[cT pos.line,cT pos.col,.ref c']).toList:=by
   rw[fR];exact Zfg _ tP c9
  have hok:HOk X.prog X.w H' (h'.push (ZjQ qual params body scope cl ((X.mg "__name__").getD .none) c' ctv)):=λb u e=>by
   by_cases bc:b=c'
   .subst bc;rw[eC]at e;cases e;exact⟨_,Hq _ hoc⟩
   .by_cases bP:b=P
    .subst bP;rw[eP]at e;cases e;refine⟨Hq _ htb,tP',λpos' cv z=>?_⟩;rw[fR]at z;rcases ZiG _ tP z with z|z
     .obtain⟨c1,o1,vs1,q1,t1,r1,r2,r3,r4⟩:=cP pos' cv z;exact⟨c1,o1,vs1,q1,t1,r1,same _ _ r2 (λ_ y=>by cases y),kp _ _ (λy=>by rw[y,hP]at r2;cases r2) r3,r4⟩
     .have z':(if((pos.line:Int) == ↑pos'.line&&(pos.col:Int) == ↑pos'.col)=true then some (aN c')else none)=some cv:=z
      split at z'
      .cases z';exact⟨c',oc,vs,_,t,rfl,eC,Hq _ hoc,hd,hv⟩
      .cases z'
    .rw[e0 b bP bc]at e;refine(I.hok b u e).stay (λx v hx' r=>kp x v ?_ r) (λx r=>same _ _ r (λ_ y=>by cases y)) λx xs r=>same _ _ r (λ_ y=>by cases y)
     rcases hx' with rfl|hx'
     .exact bP
     .exact λy=>by rw[y,hP]at hx';cases hx'
  have I':Inv X pins σ H' {s with heap:=h'.push (ZjQ qual params body scope cl ((X.mg "__name__").getD .none) c' ctv),toks:=tk}:=
   I.step (g':=s.gens) (d':=s.drawn) (t':=tk) (ch:=[]) (λ_ z=>nomatch z) (λb o _ _ _ e n=>kp b o (nP b n) e) (λb o _ _ _ e n=>⟨o.slots,kp b o (nP b n) e⟩) (λb o _ e n=>by rw[e0 b (nP b n) (nC b o e)];exact n)
    (λb o _ e=>by
     by_cases bP:b=P
     .subst bP;exact⟨_,Hq _ htb⟩
     .exact⟨o,kp b o bP e⟩)
    (λb xs e=>same _ _ e (λ_ y=>by cases y)) (λb o u e=>same _ _ e (λ_ y=>by cases y))
    (λb q e=>by
     by_cases bP:b=P
     .subst bP;rw[hP]at e;cases e;exact⟨_,eP⟩
     .exact⟨#[],by rw[e0 b bP (nC' b _ e),e];simp⟩)
    (λm hm=>(hm.extBut hx (nP _ I.free)).push _) hok I.bare
  have up:=ZsN (H':=H') hP hc0 e0;have hz:s.heap.objs.size<=h'.objs.size:=cM (eS hge hlt);refine h _ c' _ ctv H' _ hz (pinf I' hz (aF _ rfl) ?_ (λv z=>by cases z)) ⟨_,pos,eP,?_⟩ up.1 up.2
  .have fr:=hok.fresh (a:=h'.objs.size+1) (by rw[lL];exact ae _)
   rw[e0 h'.objs.size (λz=>by have:=Hz htb;rw[<-z]at this;exact b9 _ this) (aQ hlt)]
   exact I.hok.fresh hz
  .rw[fR];exact codeAmong_snoc _ tP hn
theorem Zfh(hroom:A.depth<iU)(ho:s.heap.get? a=some o)(hd':o.data=.func fd)(hco:fd.scope.isCoroutine=false)(hgen:fd.scope.isGenerator=false)(hbody:fd.body=.expr body)(hc:fd.code=.ref c)(hoc:s.heap.get? c=some oc)(hdc:oc.data=.fields vs)(hq:vs[1]?=some (.str q tq))(h:wpAny (aE prog w) A.in1 (hZ fd args) (λbinds s₁=>wpAny (aE prog w) A.in1 (kG fd.scope fd.globals fd.closure binds (q++".<locals>.") (some a) fd.code none fd.builtins) (λenv s₂=>s₂.heap.NoLimit/\fm (aE prog w) A (.expr body env) R s₂) (λe s'=>R (.error e) s') s₁) (λe s'=>R (.error e) s') s):fm (aE prog w) A (.call (.ref a) args) R s:=by
 refine codeAny_of_tree ?_;show wpAny _ A.in1 (callAny (.ref a) args) _ _ s;simp only[callAny];refine Wb (wpAny_load ho ?_);simp only[hd',callFunction,hco,hgen,hbody,hc];rw[hc]at h;refine Wb (m:=iN (.ref c) 1) (aZ hoc hdc hq (Wb (Wp ?_)));exact Wb (wpAny_mono h (λbinds s₁ h₁=>Wb (wpAny_mono h₁ (λenv s₂ h₂=>Wb (wpAny_enterFrame h₂.1 hroom (Wp (lh rfl h₂.2)))) λ_ _ h'=>h')) λ_ _ h'=>h')
noncomputable def lam(X:Cx)(A:cZ)(q:Str)(scope:gW)(cl:List (Str×Addr))(N:List Str)(f:Addr)(cd:aa)(s:aH)(H:Hp):Cx:=
 {X with A:=A.deeper (PySem.W.envX q scope s.heap.objs.size f cd cl),N:=N,s₀:=s,H₀:=H,env:=PySem.W.envX q scope s.heap.objs.size f cd cl,outer:=X.stack,stack:=PySem.W.envX q scope s.heap.objs.size f cd cl::X.stack,ex:=[],fn:=λ_=>false,pn:=[],xe:=λ_ _=>False,fxs:=none}
theorem ZiI:Thr (lam X A q scope cl N f cd s H) E0:=
 ⟨fE.never,λ_ _ _ _ _ _ _ h=>by obtain⟨_,_,_,_,_,_,_,_,_,_,_,_,_,q⟩:=h;exact q,λ_ _ _ _ _ _ _ _ _ _ _ _ _ _ _ _ _ _ _ _ _ _ q=>q⟩
structure Lms(X:Cx) (scope:gW) (cl:List (Str×Addr)) (x:Str) (N:List Str) (fr:List Nat):Prop where
 clos:lK scope X.env=pure cl
 kind:scope.kind=.function
 co:scope.isCoroutine=false
 gen:scope.isGenerator=false
 cell:∀y∈scope.names,y.2≠ .cell
 par:scope.names.lookup x=some .local
 sub:∀y c,cl.lookup y=some c->X.env.cells.lookup y=some c
 has:∀y,(scope.names.lookup y=some .cell\/scope.names.lookup y=some .free)->∃c,cl.lookup y=some c
 n0:N[0]?=some x
 len:N.length=1+fr.length
 at_:∀(j i:Nat),fr[j]?=some i->∃y,N[1+j]?=some y/\X.N[i]?=some y/\X.env.kindOf y=some .cell/\scope.names.lookup y=some .free/\cl.lookup y=X.env.cells.lookup y
noncomputable def stL(v:V)(fr:List Nat)(σ:L2.St):L2.St:=some v::fr.map λi=>(σ[i]?).join
noncomputable def roL(d:D)(fr:List Nat)(ρ:Ro):Ro:=some d::fr.map λi=>(ρ[i]?).join
theorem SR.lam{K:Fg}(h:SR K H α σ ρ)(r:Rep K H α v d):SR K H α (stL v fr σ) (roL d fr ρ):=by
 refine⟨by simp[stL,roL],λi d' e=>?_⟩
 cases i with
 |zero=>
  have e':some (some d)=some (some d'):=e;cases e';exact⟨v,rfl,r⟩
 |succ i=>
  have e':(fr.map λi=>(ρ[i]?).join)[i]?=some (some d'):=e;rw[bC]at e';cases z:fr[i]? with
  |none=>rw[z]at e';cases e'
  |some r0=>
   rw[z]at e';obtain⟨v',e3,e4⟩:=h.2 r0 d' (join_some (aO e'));refine⟨v',?_,e4⟩;show(fr.map λi=>(σ[i]?).join)[i]?=some (some v');rw[bC,z];show some (σ[r0]?).join=_;rw[e3];rfl
theorem ZpM(L:Lms X scope cl x N fr)(I:Inv X pins σ H s)(hA:A.frames=some X.stack)(hh:A.handled=X.A.handled):(lam X A q scope cl N f cd s H).Ok where
 mod:=I.ok.mod
 kind:=L.kind
 glob:=rfl
 blt:=rfl
 above:=ae _
 inj:=λy z c h1 h2=>I.ok.inj y z c (L.sub y c h1) (L.sub z c h2)
 has:=λy h=>L.has y h
 cab:=λy c h=>(by cases h)
 hd:=λz=>hh.trans (I.ok.hd z)
 frames:=kx hA
 stk:=.inr ⟨rfl,rfl⟩
 exf:=λb hb=>absurd (show b∈([]:List Addr)from hb) (by simp)
 bs:=I.bs
 bsz:=aU I.ok.bsz I.sz
 noex:=λb o e hb=>absurd (show b∈([]:List Addr)from hb) (by simp)
 exfs:=λb hb=>absurd (show b∈([]:List Addr)from hb) (by simp)
 funs:=I.stack
 frf:=I.stkFree
 tb:=I.ok.tb.un I.base
theorem Zne(L:Lms X scope cl x N fr)(I:Inv X pins σ H s)(hA:A.frames=some X.stack)(hh:A.handled=X.A.handled)(hn:h1.Ns s.heap.objs.size m)(hm:m x=some u)(ru:ZT v u)(hk:∀b o,s.heap.get? b=some o->h1.get? b=some o):Inv (lam X A q scope cl N f cd s H) [] (stL v fr σ) H {s with heap:=h1,toks:=tk} where
 ok:=ZpM L I hA hh
 os:=rfl
 bare:=I.bare
 base:=Un.kept hk
 loc:=by
  refine⟨m,hn,λi y v' e1 e2 e3=>?_⟩;cases i with
  |zero=>
   have exy:y=x:=aO (e1.symm.trans L.n0);subst exy;have ev:some (some v)=some (some v'):=e2;cases ev;exact⟨u,ru,.inl ⟨L.par,hm⟩⟩
  |succ i=>
   have e2':(fr.map λi=>(σ[i]?).join)[i]?=some (some v'):=e2;rw[bC]at e2';cases z:fr[i]? with
   |none=>rw[z]at e2';cases e2'
   |some r0=>
    rw[z]at e2';obtain⟨y',k1,k2,k3,k4,k5⟩:=L.at_ i r0 z;have exy:y=y':=by
     have e1':N[i+1]?=some y:=e1;rw[iF]at e1';exact aO (e1'.symm.trans k1)
    subst exy;obtain⟨m0,hm0,hl⟩:=I.loc;obtain⟨u',ru',lk⟩:=hl r0 y v' k2 (join_some (aO e2')) (.inr (.inl k3));refine⟨u',ru',?_⟩;rcases lk with⟨z,_⟩|⟨_,c,z1,⟨o,z2,z3⟩⟩
    .rw[k3]at z;cases z
    .exact .inr ⟨.inr k4,c,k5.trans z1,⟨o,hk _ _ z2,z3⟩⟩
 cell:=λy c h=>by
  obtain⟨v,o,e1,e2⟩:=I.cell y c (L.sub y c h);exact⟨v,o,hk _ _ e1,e2⟩
 free:=I.fresh
 freeC:=λy c h=>I.freeC y c (L.sub y c h)
 pin:=λp hp=>(by simp[lam]at hp)
 hok:=I.hok.kept hk
 len:=by
  show(stL v fr σ).length=N.length;rw[L.len];simp[stL];lia
 qd:=by
  rcases I.qd with z|⟨ea,oe,u,vs,z1,z2⟩
  .exact .inl (hh.trans z)
  .exact .inr ⟨ea,oe,u,vs,hh.trans z1,z2⟩
 fx:=.free rfl
theorem Znf(L:Lms X scope cl x N fr)(I:Inv X pins σ H s)(hA:A.frames=some X.stack)(hh:A.handled=X.A.handled)(hroom:A.depth<iU)(hp:(f,ZjQ qual params body scope cl pm c' ctv)∈X.pn++pins)(cd:ZpL H P c')(hbind:hZ (PySem.W.kla_fn "<lambda>" qual params body scope cl pm (.ref c') ctv) ⟨[u],[]⟩=pure [(x,u)])(ru:ZT v u)(hb:∀q,∃t,PE (lam X A q scope cl N f (.ref c') s H) body t/\t (stL v fr σ) H Q):wpAny (aE X.prog X.w) A (call (.ref f) [u]) (λr s'=>∃v H',Inv X pins σ H' s'/\ZT v r/\Q v H'/\ZpL H' P c') (λ_ _=>False) s:=by
 obtain⟨ps,pos,hP,hcd⟩:=cd;obtain⟨oP,tP,cP⟩:=I.hok P _ hP;obtain⟨c2,oc,vs,q,tq,ec,own,hoc,hdc,hq⟩:=cP pos _ hcd;cases ec;refine wpAny_call (Zfh hroom (I.pin _ hp).1 rfl L.co L.gen rfl rfl hoc hdc hq ?_);rw[hbind];refine Wp (wpAny_newFunctionEnv L.cell (λy hy=>by rw[da.mp hy];exact L.par) (λh1 hns hsb=>?_) L.kind)
 have hk:∀b o,s.heap.get? b=some o->h1.get? b=some o:=λb o e=>hsb.extBut b o (az (Hz e)) (Hq _ e);refine⟨I.nolimit.keeps hk,?_⟩;obtain⟨t,pt,qt⟩:=hb q;have J:Inv (lam X A q scope cl N f (.ref c') s H) [] (stL v fr σ) H {s with heap:=h1,toks:=s.toks+1}:=Zne L I hA hh hns (by simp) ru hk
 show fm _ _ (.expr body (PySem.W.envX q scope s.heap.objs.size f (.ref c') cl)) _ _;refine PySem.W.kla_codeExpr (wpAny_mono (pt [] _ _ H Q J qt) (λr s' hs=>?_) λ_ _ z=>z.elim);obtain⟨v',H',J',rv,qv⟩:=hs;have ce:CE X.stack X.prog X.w H s (λv'' H''=>v''=v'/\H''=H') r s':=⟨v',H',J'.os,J'.bare,J'.base,J'.hok,rv,rfl,rfl⟩;obtain⟨v2,H2,I2,r2,rfl,rfl⟩:=I.after ce;obtain⟨more,hm⟩:=J'.base.tbls P ps hP;exact⟨v2,H2,I2,r2,qv,_,pos,hm,by rw[fR];exact ZiH _ tP hcd⟩
end DL
namespace DL
open PyProof.Rows L2
def Zdo(g:Ev)(fr:List Nat)(ρ:Ro)(M:Sto)(xs:List D)(ks:List (List Int)):Prop:=Paired (λd k=>g (roL d fr ρ) M=.ok (Zlz k) M/\k≠[]) xs ks
def ZlA(ks:List (List Int))(xs:List D):List D:=(ST.srt ks).map λk=>((ks.zip xs).lookup k).getD .non
def ZiJ(g:Ev)(fr:List Nat)(ρ:Ro)(M:Sto)(xs:List D)(ks:List (List Int)):Prop:=xs.length<64/\ks.Nodup/\Zdo g fr ρ M xs ks
open Classical in
def ZdF(g:Ev)(fr:List Nat)(ρ:Ro)(ds:List D)(M:Sto):Out D:=match ds with
 |[.ref n]=>(match M[n]? with
  |some (.lst xs)=>if h:∃ks,ZiJ g fr ρ M xs ks then .ok (.ref M.length) (M++[.lst (ZlA h.choose xs)])else .bad
  |none=>.bad)
 |_=>.bad
def ZiK(fs:Av)(fr:List Nat)(g:Ev):Ev:=λρ M=>(fs ρ M).bind λds M1=>ZdF g fr ρ ds M1
theorem Zdo.uniq{g:Ev}{fr:List Nat}{ρ:Ro}{M:Sto}:∀{xs:List D}{ks ks':List (List Int)},Zdo g fr ρ M xs ks->Zdo g fr ρ M xs ks'->ks=ks':=by
 intro xs
 induction xs with
 |nil=>intro ks ks' h h';cases h;cases h';rfl
 |cons x xs ih=>
  intro ks ks' h h';cases h with
  |cons a b=>
   cases h' with
   |cons c d=>
    have e:=a.1.symm.trans c.1;injection e with e1 e2;rw[ZkF e1,ih b d]
theorem Zf8(h:M[n]?=some (.lst xs))(k:ZiJ g fr ρ M xs ks):ZdF g fr ρ [.ref n] M=.ok (.ref M.length) (M++[.lst (ZlA ks xs)]):=by
 have hx:∃ks,ZiJ g fr ρ M xs ks:=⟨ks,k⟩;simp only[ZdF,h,dif_pos hx];rw[hx.choose_spec.2.2.uniq k.2.2]
theorem Zdp{ks:List (List Int)}:∀{xs:List D}{k:List Int}{d:D},ks.Nodup->(k,d)∈ks.zip xs->(ks.zip xs).lookup k=some d:=by
 induction ks with
 |nil=>intro xs k d _ h;cases h
 |cons a r ih=>
  intro xs k d nd h;cases xs with
  |nil=>cases h
  |cons x xs=>
   rw[iR]at h ⊢;rw[b8];rcases ar.mp h with e|h2
   .cases e;simp
   .have ne:k≠a:=λz=>(eV.mp nd).1 (z▸(gf h2).1)
    have:(k==a)=false:=by simpa using ne
    rw[this];exact ih (eV.mp nd).2 h2
def ZuE(K:Fg)(H:Hp)(α:List Addr)(h:Heap)(t:List Int×D×V)(p:aa×aa):Prop:=ST.Zbz h p.1 t.1/\ZT t.2.2 p.2/\Rep K H α t.2.2 t.2.1
theorem ZsO{K:Fg}{H:Hp}{α:List Addr}{h:Heap}:∀{ks:List (List Int)} {xs:List D} {vs:List V} {kL its:List aa},Paired (λk u=>ST.Zbz h u k) ks kL->Reps K H α vs xs->ZU vs its->ks.length=xs.length->∃T:List (List Int×D×V),Paired (ZuE K H α h) T (kL.zip its)/\T.map (λt=>(t.1,t.2.1))=ks.zip xs:=by
 intro ks
 induction ks with
 |nil=>
  intro xs vs kL its hk _ _ e;cases hk
  have:xs=[]:=dg e.symm
  subst this;exact⟨[],.nil,rfl⟩
 |cons k ks ih=>
  intro xs vs kL its hk hr hv e;cases hk with
  |cons a b=>
   cases hr with
   |nil=>cases e
   |cons c d=>
    cases hv with
    |cons p q=>
     obtain⟨T,t1,t2⟩:=ih b d q (Nat.succ.inj e);exact⟨(k,_,_)::T,.cons ⟨a,p,c⟩ t1,by rw[aR,t2];rfl⟩
theorem ZcM{F:α->β->Prop}:∀{xs:List α}{ys:List β},Paired F xs ys->∀(i:Nat)(h:i<xs.length),∃h':i<ys.length,F xs[i] ys[i]:=by
 intro xs ys p
 induction p with
 |nil=>intro i h;exact absurd h (by simp)
 |cons a b ih=>
  intro i h;cases i with
  |zero=>exact⟨by simp,a⟩
  |succ i=>
   obtain⟨h',q⟩:=ih i (by simpa using h)
   exact⟨by simpa using h',by simpa using q⟩
theorem ZbZ{F:α->β->Prop}{xs:List α}{ys:List β}(h9:Paired F xs ys):xs.length=ys.length:=by
 induction h9 with
 |nil=>exact rfl
 |cons _ b ih9=>exact congrArg Nat.succ ih9
theorem Zez{K:Fg}{out:List (aa×aa)}(nd:ks.Nodup)(hl:ks.length=xs.length)(hT:Paired (ZuE K H α h) T prs)(eT:T.map (λt=>(t.1,t.2.1))=ks.zip xs)(hp:out.Perm prs)(hs:∀i j (hi:i<out.length) (hj:j<out.length),i<=j->∀ns ms,ST.Zbz h out[i].1 ns->ST.Zbz h out[j].1 ms->ST.le ns ms):∃ys:List V,ZU ys (out.map (·.2))/\Reps K H α ys (ZlA ks xs):=by
 obtain⟨T',p1,p2⟩:=Zff hp hT;have lT:=ZbZ p2;have ek:T.map (·.1)=ks:=by
  have:=congrArg (List.map Prod.fst) eT
  rw[gN,List.map_fst_zip (lW hl)]at this;exact this
 have pk:(T'.map (·.1)).Perm ks:=by rw[<-ek];exact p1.map _
 have up:(T'.map (·.1)).Pairwise ST.le:=by
  refine jg.mpr λi j hi hj ij=>?_;rw[af]at hi hj;obtain⟨a1,a2⟩:=ZcM p2 i hi;obtain⟨b1,b2⟩:=ZcM p2 j hj;rw[fI,fI];exact hs i j a1 b1 (cM ij) _ _ a2.1 b2.1
 have es:=ST.ZkE pk up;refine⟨T'.map (·.2.2),?_,?_⟩
 .clear es up pk p1 hs hp lT
  induction p2 with
  |nil=>exact .nil
  |cons a _ ih=>exact .cons a.2.1 ih
 .unfold ZlA;rw[<-es,gN];have md:∀t∈T',((ks.zip xs).lookup t.1).getD .non=t.2.1:=λt ht=>by
   have m:t∈T:=p1.mem_iff.mp ht;have m2:(t.1,t.2.1)∈ks.zip xs:=by rw[<-eT];exact List.mem_map_of_mem (f:=λt:List Int×D×V=>(t.1,t.2.1)) m
   rw[Zdp nd m2];rfl
  have:T'.map ((λk=>((ks.zip xs).lookup k).getD .non)∘λt=>t.1)=T'.map (·.2.1):=eI λt ht=>md t ht
  rw[this];clear es up pk p1 hs hp lT md this
  induction p2 with
  |nil=>exact .nil
  |cons a _ ih=>exact .cons a.2.2 ih
def JK(X:Cx)(pins:Pn)(σ:L2.St)(P c':Addr)(H2:Hp)(α:List Addr)(M:Sto)(n0:Nat)(ks:List (List Int))(a kS:Addr)(kL:List aa)(s':aH):Prop:=
 n0<=a/\n0<=kS/\kS≠a/\∃H',Inv X pins σ H' s'/\ZpL H' P c'/\H' a=none/\H' kS=none/\(∃o,s'.heap.get? a=some o)/\(∃o,s'.heap.get? kS=some o)/\Ext X.K H2 H' α α/\HR X.K H' α M/\kL.length<=ks.length/\Paired (λk u=>∃kv,ZT kv u/\Rep X.K H' α kv (Zlz k)) (ks.take kL.length) kL
theorem Zfi{F:α->β->Prop}{a:α}{b:β}{xs:List α}{ys:List β}(h9:Paired F xs ys):F a b->Paired F (xs++[a]) (ys++[b]):=by
 induction h9 with
 |nil=>exact λh=>.cons h .nil
 |cons c d ih9=>exact λh=>.cons c (ih9 h)
theorem Zdq{F G:α->β->Prop}(h:∀a b,F a b->G a b){xs:List α}{ys:List β}(h9:Paired F xs ys):Paired G xs ys:=by
 induction h9 with
 |nil=>exact .nil
 |cons c d ih9=>exact .cons (h _ _ c) ih9
theorem ZpN{K:Fg}(e:Ext K H H' α α')(h:HR K H' α' M)(l:α.length=M.length):α'=α:=by
 obtain⟨β,rfl⟩:=e.al
 have:=h.len
 rw[aI,l]at this
 have:β=[]:=dg ⋯
 rw[this,cD]
theorem ZeA{id:String}(hplain:(args.any (·.1)||kws.any (·.1.isNone))=false)(h:wpAny M A (evalArgs (.builtin id) true args kws) (λa s₁=>wpAny M A (call (.builtin id) a.pos a.kw) Q E s₁) E s):wpAny M A (callWith pos (.builtin id) [] args kws) Q E s:=by
 unfold callWith;refine Wb (wpAny_holding (wpAny_mono h (λa s₁ h₁=>Wb (wpAny_standAt ?_)) λ_ _ x=>x));simp only[hplain];refine Wb (Wp ?_);exact Wb (wpAny_mono h₁ (λr s₂ hr=>Wb (wpAny_holding (wpAny_point (Wp hr)))) λ_ _ x=>x)
theorem ZiL{n:Nat}(hr:Room (k+3) X.A)(L:Lms X scope cl x N fr)(hb:∀q f cd s H,Room k (X.A.in1.in1.deeper (PySem.W.envX q scope s.heap.objs.size f cd cl))->DE (lam X X.A.in1.in1 q scope cl N f cd s H) E0 body g)(hbind:∀(u:aa),hZ (PySem.W.kla_fn "<lambda>" qual params body scope cl pm (.ref c') ctv) ⟨[u],[]⟩=pure [(x,u)])(I:Inv X (pins++[(f,ZjQ qual params body scope cl pm c' ctv)]) σ H s)(cd:ZpL H P c')(sr:SR X.K H α σ ρ)(h:HR X.K H α M)(hx:M[n]?=some (.lst xs))(hp:H p0=some (.lst ws))(rp:Reps X.K H α ws xs)(l64:xs.length<64)(nd:ks.Nodup)(keys:Zdo g fr ρ M xs ks)(q:∀v H' α',Ext X.K H H' α α'->HR X.K H' α' (M++[.lst (ZlA ks xs)])->Rep X.K H' α' v (.ref M.length)->Q v H'):wpAny (aE X.prog X.w) X.A (call (.builtin "sorted") [.ref p0] [(a9 "key",.ref f)]) (EP X pins σ Q) X.xe s:=by
 have lks:ks.length=xs.length:=(ZbZ keys).symm;obtain⟨its,rv,pl,hz⟩:=I.list (SqL.of hp);have lit:its.length=xs.length:=by rw[<-rv.length,rp.length]
 refine ST.ZiF (JK X (pins++[(f,ZjQ qual params body scope cl pm c' ctv)]) σ P c' H α M s.heap.objs.size ks) pl.isList ⋯ ?_ ?_ ?_ ?_ ?_
 .
  intro a kS h1 ha hS ne kk oa ok;exact⟨ha,hS,ne,H,I.kept (t':=s.toks) kk,cd,I.hok.fresh ha,I.hok.fresh hS,oa,ok,Ext.refl,h,dB _,by rw[eX,kP];exact .nil⟩
 .
  rintro a kS i v kL s' na ea nk ek hv hi ⟨ha,hS,ne,H',I',cd',fa,fS,_,_,ex,hr',lk,pk⟩ oa ok;have hil:i<xs.length:=by have:=(au.mp hv).1;lia
  obtain⟨xv,e1,e2⟩:=Zif rv hv;obtain⟨d,d1,d2⟩:=Zig rp e1;have hki:i<ks.length:=⋯
  obtain⟨_,kg⟩:=ZcM keys i hil;have ed:xs[i]=d:=by
   rw[av hil]at d1;exact aO d1
  rw[ed]at kg;have d2:=Rep.mono ex d2;have I2:Inv X (pins++[(f,ZjQ qual params body scope cl pm c' ctv)]++[(a,bB "list" na ea),(kS,bB "list" nk ek)]) σ H' s':=I'.pins_of λp hp=>by
   rcases bZ.mp hp with hp|hp
   .exact I'.pin p (aW _ hp)
   .rcases ar.mp hp with rfl|hp
    .exact⟨oa,fa,aQ (aj I.lt ha),I.nofs ha,λv z=>by cases z⟩
    .rw[da.mp hp];exact⟨ok,fS,aQ (aj I.lt hS),I.nofs hS,λv z=>by cases z⟩
  have run:=Znf (f:=f) (A:=X.A.in1.in1) (u:=v) (v:=xv) (Q:=λv' H''=>∃α'',Ext X.K H' H'' α α''/\HR X.K H'' α'' M/\Rep X.K H'' α'' v' (Zlz ks[i])) L I2 I.ok.frames rfl (by have:=hr.dp;show X.A.depth<_;lia) (aW _ (hW _ (aW _ (da.mpr rfl)))) cd' (hbind v) e2 λq'=>by
   obtain⟨t,pt,qt⟩:=hb q' f (.ref c') s' H' ((hr.in1.in1).deeper _);exact⟨t,pt,qt _ (roL d fr ρ) H' α M _ (SR.lam (sr.mono ex) d2) hr' (by
    rw[kg.1];exact λv' H'' α'' e'' h'' r''=>⟨α'',e'',h'',r''⟩)⟩
  refine wpAny_mono run (λu s2 hs=>?_) λ_ _ z=>z;obtain⟨v',H2,I3,r3,⟨α2,ex2,hr2,rp2⟩,cd2⟩:=hs;have ea2:=ZpN ex2 hr2 hr'.len;subst ea2;have pa:=I3.pin (a,bB "list" na ea) (by simp)
  have pS:=I3.pin (kS,bB "list" nk ek) (by simp)
  refine⟨⟨ha,hS,ne,H2,I3.unpinned,cd2,pa.2.1,pS.2.1,⟨_,pa.1⟩,⟨_,pS.1⟩,ex.trans ex2,hr2,by rw[aI,fk];lia,?_⟩,pa.1,pS.1⟩
  have et:ks.take (kL++[u]).length=ks.take kL.length++[ks[i]]:=by
   rw[aI,fk,hi,List.take_add_one,av hki];rfl
  rw[et];exact Zfi (Zdq (λk u ⟨kv,z1,z2⟩=>⟨kv,z1,Rep.mono ex2 z2⟩) pk) ⟨v',r3,rp2⟩
 .
  rintro a kS kL s' h' ⟨ha,hS,ne,H',I',cd',fa,fS,⟨oa,ea⟩,_,ex,hr',lk,pk⟩ kk oS;refine⟨ha,hS,ne,H',I'.turned (t':=s'.toks) (it:=kS) kk fS (aQ (aj I.lt hS)) (.inr (aU I.sz hS)) (λy c hc z=>?_) (λp hp z=>?_),cd',fa,fS,⟨oa,kk a oa (bh ne) ea⟩,oS,ex,hr',lk,pk⟩
  .obtain⟨v,o,e,_⟩:=I.cell y c hc;exact absurd (Hz e) (by rw[z];exact fG hS)
  .have:=(I.pin p hp).1
   exact absurd (Hz this) (by rw[z];exact fG hS)
 .
  rintro a kS kL s' ⟨_,_,_,H',I',_,_,_,_,_,_,_,lk,pk⟩ u hu;obtain⟨i,hi,rfl⟩:=cH hu;have hi':i<(ks.take kL.length).length:=by rw[ZbZ pk];exact hi
  obtain⟨_,kv,z1,z2⟩:=ZcM pk i hi';have t:=Zf6 I' (ZiD z2) z1;have hik:i<ks.length:=⋯
  obtain⟨_,kg⟩:=ZcM keys i ⋯
  have e1:(ks.take kL.length)[i]=ks[i]:=List.getElem_take;rw[e1]at t;cases e2:ks[i]with
  |nil=>exact absurd e2 kg.2
  |cons b r=>rw[e2]at t;exact⟨b,r,t⟩
 .
  rintro a kS kL s' out h' c ⟨ha,hS,ne,H',I',cd',fa,fS,_,_,ex,hr',lk,pk⟩ hl po hs kk oS oa;have ek:ks.take kL.length=ks:=bU ⋯
  rw[ek]at pk;obtain⟨T,t1,t2⟩:=ZsO (K:=X.K) (H:=H') (α:=α) (Zdq (λk u ⟨kv,z1,z2⟩=>Zf6 I' (ZiD z2) z1) pk) (Reps.mono ex rp) rv lks;obtain⟨ys,v1,v2⟩:=Zez nd lks t1 t2 po hs;have lo:(out.map (·.2)).length=xs.length:=by rw[af,po.length_eq,List.length_zip,hl,lit];simp
  have hyz:ys.length<=sizeLine:=by rw[v1.length,lo];exact aU (cM l64) (by decide)
  have nS:∀b u,H' b=some u->b≠kS:=λb u z y=>by rw[y,fS]at z;cases z
  have nA:∀b u,H' b=some u->b≠a:=λb u z y=>by rw[y,fa]at z;cases z
  have hok:HOk X.prog X.w (upd H' a (.lst ys)) h':=λb u e=>by
   by_cases ba:b=a
   .subst ba;rw[Zx]at e;cases e;exact⟨hyz,out.map (·.2),c,v1,oa⟩
   .rw[ZH ba]at e;refine(I'.hok b u e).stay (λy v hy r=>kk y v ?_ ?_ r) (λy r=>by rw[ZH (nA _ _ r)];exact r) λy zs r=>by rw[ZH (nA _ _ r)];exact r
    .rcases hy with rfl|hy
     .exact ba
     .exact nA _ _ hy
    .rcases hy with rfl|hy
     .exact nS _ _ e
     .exact nS _ _ hy
  have cellN:∀b,s.heap.objs.size<=b->∀y c,X.env.cells.lookup y=some c->c≠b:=λb hb y c hc z=>by
   obtain⟨v,o,e,_⟩:=I.cell y c hc;exact absurd (Hz e) (by rw[z];exact fG hb)
  have pinN:∀b,s.heap.objs.size<=b->∀p∈X.pn++(pins++[(f,ZjQ qual params body scope cl pm c' ctv)]),p.1≠b:=λb hb p hp z=>by
   have:=(I.pin p hp).1
   exact absurd (Hz this) (by rw[z];exact fG hb)
  have J:=I'.step (H':=upd H' a (.lst ys)) (h':=h') (g':=s'.gens) (d':=s'.drawn) (t':=s'.toks) (ch:=[a,kS]) (λb hb=>by
    have hb':s.heap.objs.size<=b:=by
     rcases ar.mp hb with rfl|hb
     .exact ha
     .rw[da.mp hb];exact hS
    exact⟨.inr (aU I.sz hb'),aQ (aj I.lt hb'),cellN b hb',pinN b hb'⟩)
   (λb o _ _ hb e _=>kk b o (λz=>hb (by simp[z])) (λz=>hb (by simp[z])) e)
   (λb o _ _ hb e _=>⟨o.slots,kk b o (λz=>hb (by simp[z])) (λz=>hb (by simp[z])) e⟩)
   (λb o hb e n=>by rw[ZH (λz=>hb (by simp[z]))];exact n)
   (λb o hb e=>⟨o,kk b o (λz=>hb (by simp[z])) (λz=>hb (by simp[z])) e⟩)
   (λb zs e=>by rw[ZH (nA _ _ e)];exact e) (λb o u e=>by rw[ZH (nA _ _ e)];exact e)
   (λb zs e=>⟨#[],by rw[ZH (nA _ _ e),e];simp⟩)
   (λm hm=>by
    obtain⟨o,es,ep,e,r⟩:=hm;exact⟨o,es,ep,kk _ _ (az (aj I.lt ha)) (az (aj I.lt hS)) e,r⟩) hok I'.bare
  exact⟨.ref a,_,J.unpinned,rfl,q _ _ (α++[a]) (ex.trans (Ext.new fa)) (hr'.new fa v2) (.ref ⟨by rw[<-h.len];simp,Kn.lst Zx⟩)⟩
theorem ZkI(hm:ZsM X.K)(hc:Zey X.K X.env.code=true)(hr:Room (k+3) X.A)(L:Lms X scope cl x N fr)(hmg:X.mg "sorted"=none)(ha:DA X ξ [e] fs)(hb:∀q f cd s H,Room k (X.A.in1.in1.deeper (PySem.W.envX q scope s.heap.objs.size f cd cl))->DE (lam X X.A.in1.in1 q scope cl N f cd s H) E0 body g)(hbind:∀(qual:Str)(pm:aa)(c':Addr)(ctv u:aa),hZ (PySem.W.kla_fn "<lambda>" qual params body scope cl pm (.ref c') ctv) ⟨[u],[]⟩=pure [(x,u)]:=by intros;rfl)(hdef:autoParam (defaultsOf params X.env=([],[])) Qrf._auto_1)(hg:autoParam (Gl X "sorted") Qrf._auto_1)(he:autoParam (aA [e] X.env=(false,eval e X.env)::aA [] X.env) Qrf._auto_1)(hpl:autoParam (((cR pos (aA [e] X.env)).any (·.1)||(iX pos (fA [⟨some "key",.Lambda params body scope lpos,kpos⟩] X.env)).any (·.1.isNone))=false) Qrf._auto_1) :
  DE X ξ (.Call (.Name "sorted" p) [e] [⟨some "key",.Lambda params body scope lpos,kpos⟩] pos) (ZiK fs fr g):=by
 obtain⟨ta,pa,qa⟩:=ha;obtain⟨c,P,lc⟩:=ZkG hc;refine⟨λσ H Q=>∃ρ α M,SR X.K H α σ ρ/\HR X.K H α M/\OP X.K H α ξ Q (ZiK fs fr g ρ M),?_,λσ ρ H α M Q s h q=>⟨ρ,α,M,s,h,q⟩⟩;rintro pins s σ H Q I ⟨ρ,α,M,sr,hr0,op⟩;refine wpAny_Call_Name_kw (Zbs I hg hmg Zew ?_ (by decide) (by decide))
 refine ZeA hpl (evalArgs_kw2 rfl (thn (pa pos pins s σ H (λvs H1=>∃α1 M1 ds,Ext X.K H H1 α α1/\HR X.K H1 α1 M1/\Reps X.K H1 α1 vs ds/\OP X.K H1 α1 ξ Q (ZdF g fr ρ ds M1)) I (qa σ ρ H α M _ sr hr0 (OG.seq op λds M1 vs H1 α1 e1 h1 r1 q1=>⟨α1,M1,ds,e1,h1,r1,q1⟩))) λus s1 hz=>?_) he)
 obtain⟨vs,H1,I1,rv,α1,M1,ds,e1,h1,r1,op1⟩:=hz;have sr1:=sr.mono e1;have key:∀n,ds=[.ref n]->wpAny (aE X.prog X.w) X.A (evalAll ((iX pos (fA [⟨some "key",.Lambda params body scope lpos,kpos⟩] X.env)).map (·.2))) (λks s₂=>wpAny (aE X.prog X.w) X.A (call (.builtin "sorted") us (((iX pos (fA [⟨some "key",.Lambda params body scope lpos,kpos⟩] X.env)).filterMap (·.1)).zip ks)) (EP X pins σ Q) X.xe s₂) X.xe s1:=λn en=>by
  subst en;cases hx:M1[n]? with
  |none=>simp only[ZdF,hx]at op1;exact op1.elim
  |some so=>
   cases so with
   |lst xs=>
    by_cases hk:∃ks,ZiJ g fr ρ M1 xs ks
    .obtain⟨ks,sk⟩:=hk;rw[Zf8 hx sk]at op1;obtain⟨l64,nd,keys⟩:=sk;cases r1 with
     |cons r1 r0=>
      cases r0;cases r1 with
      |@ref p0 _ hp0=>
       obtain⟨u0,rfl,ru⟩:=Zck rv;cases ru;obtain⟨ws,g1,g2⟩:=h1.at hp0 hx;show wpAny _ _ (evalAll [(do let v <-eval (.Lambda params body scope lpos) X.env;standAt pos;pure v)]) _ _ s1
       refine wpAny_evalAll_cons (Wb (PySem.W.kla_eval hdef (ZkH I1 hm lc L.clos λf c' pm ctv H2 s2 hf I2 cd2 ex2 hr2=>Wb (wpAny_standAt (Wp (wpAny_evalAll_nil ?_))))));have h2:=hr2 X.K α1 M1 h1;obtain⟨ws2,g3,g4⟩:=h2.at ((ex2 X.K α1).get hp0) hx;exact ZiL hr L hb (λu=>hbind _ pm c' ctv u) I2 cd2 (sr1.mono (ex2 X.K α1)) h2 hx g3 g4 l64 nd keys λv H' α' ex' h' r'=>op1 v H' α' ((ex2 X.K α1).trans ex') h' r'
    .simp only[ZdF,hx,dif_neg hk]at op1;exact op1.elim
 by_cases hd:∃n,ds=[.ref n]
 .obtain⟨n,hd⟩:=hd;exact key n hd
 .have e:ZdF g fr ρ ds M1=.bad:=by
   unfold ZdF;split
   .exact absurd ⟨_,rfl⟩ hd
   .rfl
  rw[e]at op1;exact op1.elim
end DL
namespace L2
open PyProof.Rows
noncomputable def ZsP(o:Option Obj):Bool:=match o with
 |some ⟨.none,none,.fields ⟨[]⟩,⟨[]⟩⟩=>true
 |_=>false
theorem Zng(h:ZsP o=true):o=some {cls:=.none,data:=.fields #[]}:=by
 unfold ZsP at h
 split at h
 .rfl
 .cases h
theorem ZiM{o:Obj}{a:Addr}:∀{l:Pn},l.lookup a=some o->(a,o)∈l
 |[],h=>by cases h
 | (b,u)::r,h=>by
  rw[b8]at h;cases e:a==b with
  |true=>
   rw[e]at h
   have:a=b:=by simpa using e
   cases h;rw[this];exact bW
  |false=>
   rw[e]at h;exact aJ _ (ZiM h)
def Zf9(K T:Fg):Bool:=K.all λp=>match p.2 with
 |⟨.type n,_,.fields vs,_⟩=>if n="code" then(match(vs[11]? :Option aa)with
  |some (.ref P)=>(K.lookup P).isNone&&ZsP (T.lookup P)
  |_=>true)else true
 |_=>true
theorem ZiN{K:Fg}(h:Zf9 K T=true)(t:TbP K P):K.lookup P=none/\T.lookup P=some {cls:=.none,data:=.fields #[]}:=by
 obtain⟨c,⟨oc,od,dt,sl⟩,vs,e1,e2,e3,e4⟩:=t;have q:=eK.mp h _ (ZiM e1);cases e2;cases e3;dsimp only at q;rw[if_pos rfl,e4]at q;simp only[bg,fK]at q;exact⟨q.1,Zng q.2⟩
theorem ZiO{K:Fg}(KX:K.In s₁.heap)(TX:T.In s₁.heap)(hT:Zf9 K T=true)(hns:s₁.heap.Ns aM mg)(hb:s₁.heap.Ns gk mb)(hbb:∀x:Str,x≠"__name__"->mb x=bN x)(hlim:s₁.heap.NoLimit)(hg:s₁.gens= #[])(ha:s₁.heap.get? a=some {cls:=.type "list",data:=.seq vs.toArray})(hi:gz vs ns)(hl:ns.length<=sizeLine)(hr:Room k k7)(F:∀base:Heap,K.In base->base.Ns aM mg->FnOk P w K mg base CX k fa fd [x] sp)(hbind:∀(s:aH)(u:aa),kZ s fd ⟨[u],[]⟩ [(x,u)])(hsp:∀H:Hp,DL.SqF K H a (ns.map V.int)->sp [.ref a] H (λv _=>v=.bl true) λ_ _ _=>False)(hCX:∀H e s',CX [] H s₁ (λ_ _ _=>False) e s'->False):fm (aE P w) k7 (.call (.ref fa) ⟨[.ref a],[]⟩) (λr s'=>r=.ok (.ret (.bool true))/\OldK s₁.heap s'.heap/\s'.os=s₁.os/\hO s'.gens) s₁:=by
 have rv:=ZcD hi;have lenV:=hi.length;have tb:∀{b:Addr},TbP K b->s₁.heap.get? b=some {cls:=.none,data:=.fields #[]}:=λt=>TX _ _ (ZiN hT t).2;have core:∀H:Hp,DL.SqF K H a (ns.map V.int)->HOk P w H s₁.heap->(∀b u,H b=some u->(b=a/\K.lookup a=none/\∃o xs,u=.frz o (.lst xs))\/(TbP K b/\u=.tbl #[]))->Tbs K H->
   fm (aE P w) k7 (.call (.ref fa) ⟨[.ref a],[]⟩) (λr s'=>r=.ok (.ret (.bool true))/\OldK s₁.heap s'.heap/\s'.os=s₁.os/\hO s'.gens) s₁:=by
  intro H hS hok hA hTb;have base_of:∀{b:Addr}{o:Obj},s₁.heap.get? b=some o->H b=none->(ZjN s₁.heap H).get? b=some o:=λe n=>ZfE e n;have noA:∀{b:Addr}{o:Obj}{es:Array k8}{ep:Nat},s₁.heap.get? b=some o->o.data=.dict es ep->H b=none:=λ{b o es ep} e d=>by
   cases q:H b with
   |none=>rfl
   |some u=>
    rcases hA b u q with⟨rfl,_⟩|⟨t,_⟩
    .rw[ha]at e;cases e;have d':Data.seq vs.toArray _=k9 es ep:=d;cases d'
    .rw[tb t]at e;cases e;have d':ku _=k9 es ep:=d;cases d'
  have nsK:∀{b:Addr}{m:Str->Option aa},s₁.heap.Ns b m->(ZjN s₁.heap H).Ns b m:=λ{b m} ⟨o,es,ep,e,d,r⟩=>⟨o,es,ep,base_of e (noA e d),d,r⟩;have hKb:K.In (ZjN s₁.heap H):=λb o e=>base_of (KX b o e) (by
   cases q:H b with
   |none=>rfl
   |some u=>
    rcases hA b u q with⟨rfl,z,_⟩|⟨t,_⟩
    .rw[z]at e;cases e
    .rw[(ZiN hT t).1]at e;cases e)
  have hM:Mod K mg (ZjN s₁.heap H):=⟨hKb,nsK hns,⟨mb,nsK hb,hbb⟩,let ⟨mc,h1,h2⟩:=hlim;⟨mc,nsK h1,h2⟩⟩;have e0:Env0 P w K mg (ZjN s₁.heap H) k7 [] s₁ H:=⟨rfl,hM,λb o e=>Zhc e,lW (Zhb _ _),trivial,λb hb=>absurd (show b∈([]:List Addr)from hb) (by simp),hok,.of_eq hg,.inl rfl,hTb⟩
  refine lN ((F _ hKb (nsK hns)).run k7 [] s₁ H ⟨[.ref a],[]⟩ [.ref a] [.ref a] _ _ hr e0 (hbind s₁ (.ref a)) (.cons rfl .nil) (hsp H hS)) λr s' h=>?_;cases r with
  |error e=>exact(hCX H e s' h).elim
  |ok fl=>
   cases fl with
   |next=>exact gm h
   |brk=>exact gm h
   |cont=>exact gm h
   |ret u=>
    obtain⟨v,H',os,bare,un,hok',r',q⟩:=h;have q':v=.bl true:=q;subst q';obtain rfl:u=lH true:=r';have fin:∀b o,s₁.heap.get? b=some o->asItWas s₁.heap s'.heap b o:=λb o e=>by
     cases q:H b with
     |none=>exact .inl (un.keep b o e q (by intro z;exact absurd (show b∈([]:List Addr)from z) (by simp)) (by simp))
     |some u=>
      rcases hA b u q with⟨_,_,ob,xs,rfl⟩|⟨t,rfl⟩
      .have z2:=un.frzs b ob _ q;obtain⟨e1,_⟩:=hok b _ q;obtain⟨e2,_⟩:=hok' b _ z2;rw[e]at e1;cases e1;exact .inl e2
      .obtain⟨more,z2⟩:=un.tbls b _ q;have e2:=(hok' b _ z2).1;have e1:=tb t;rw[e]at e1;cases e1;obtain⟨c,oc,vs',f1,f2,f3,f4⟩:=t;exact .inr (.inl ⟨⟨c,oc,vs',KX _ _ f1,f2,f3,f4⟩,rfl,#[],more,rfl,e2⟩)
    refine⟨rfl,⟨fin,λb o e=>?_⟩,os,bare⟩;rcases fin b o e with z|⟨_,_,vs',m,_,z⟩|⟨_,_,⟨o',_,_,z,_⟩,_⟩
    .exact⟨_,z⟩
    .exact⟨_,z⟩
    .exact⟨_,z⟩
 have tok:∀H:Hp,∀b,TbP K b->H b=some (.tbl #[])->ZaT P w H s₁.heap b (.tbl #[]):=λH b t _=>⟨tb t,c9,λpos cv z=>by cases z⟩
 have na:¬TbP K a:=λt=>by
  have:=tb t
  rw[ha]at this;cases this
 cases hk:K.lookup a with
 |some o=>
  have e:=KX a o hk;rw[ha]at e;cases e
  classical
  refine core (λb=>if TbP K b then some (.tbl #[])else none) (.inr ⟨_,vs.toArray,_,hk,rfl,rfl,rfl,by rw[am,lenV];exact hl,by simpa using rv⟩) (λb u z=>?_) (λb u z=>?_) (λb t=>⟨_,if_pos t⟩)
  .by_cases t:TbP K b
   .have z':=(if_pos t).symm.trans z;cases z';exact tok _ b t (if_pos t)
   .have z':=(if_neg t).symm.trans z;cases z'
  .by_cases t:TbP K b
   .have z':=(if_pos t).symm.trans z;cases z';exact .inr ⟨t,rfl⟩
   .have z':=(if_neg t).symm.trans z;cases z'
 |none=>
  classical
  let H:Hp:=λb=>if b=a then some (.frz {cls:=.type "list",data:=.seq vs.toArray} (.lst (ns.map V.int)))else if TbP K b then some (.tbl #[])else none
  have hHa:H a=some (.frz {cls:=.type "list",data:=.seq vs.toArray} (.lst (ns.map V.int))):=if_pos rfl;have hHt:∀b,TbP K b->H b=some (.tbl #[]):=λb t=>by
   show(if b=a then _ else if TbP K b then _ else _)=_
   have nb:b≠a:=λz=>na (z▸t);rw[if_neg nb,if_pos t]
  have hHn:∀b,b≠a->¬TbP K b->H b=none:=λb n t=>by
   show(if b=a then _ else if TbP K b then _ else _)=_
   rw[if_neg n,if_neg t]
  refine core H (.inl ⟨_,hHa⟩) (λb u z=>?_) (λb u z=>?_) (λb t=>⟨_,hHt b t⟩)
  .by_cases hb:b=a
   .subst hb;rw[hHa]at z;cases z;exact⟨ha,by rw[af];exact hl,vs,_,rv,ha⟩
   .by_cases t:TbP K b
    .rw[hHt b t]at z;cases z;exact tok _ b t (hHt b t)
    .rw[hHn b hb t]at z;cases z
  .by_cases hb:b=a
   .subst hb;rw[hHa]at z;cases z;exact .inl ⟨rfl,hk,_,_,rfl⟩
   .by_cases t:TbP K b
    .rw[hHt b t]at z;cases z;exact .inr ⟨t,rfl⟩
    .rw[hHn b hb t]at z;cases z
theorem ZkJ{l:PySem.W.OpenLaw}{K T:kC->Fg}{CX:cO->CXT}{sp:cO->Sp}(hn:l.most=some n)(hn2:n<=sizeLine)(hdf:d.params.defaults=[])(hr:Room k k7)(hY:∀(w:cO)(h:Heap),YP w h->(K w.params).In h/\(T w.params).In h)(hT:∀w:cO,Zf9 (K w.params) (T w.params)=true)(F:∀(w:cO)(mg:Str->Option aa)(fa:Addr)(h:Heap),(K w.params).In h->h.Ns aM mg->mg d.name=some (.ref fa)->∃fd:hX,(∀(s:aH)(u:aa),kZ s fd ⟨[u],[]⟩ [(x,u)])/\∀base:Heap,(K w.params).In base->base.Ns aM mg->FnOk l.prog w (K w.params) mg base (CX w) k fa fd [x] (sp w))(hsp:∀(w:cO)(H:Hp)(a:Addr)(ns:List Int),ns.length<=n->DL.SqF (K w.params) H a (ns.map V.int)->sp w [.ref a] H (λv _=>v=.bl true) λ_ _ _=>False)(hCX:∀(w:cO)(H:Hp)(s:aH)(e:aa)(s':aH),CX w [] H s (λ_ _ _=>False) e s'->False):PySem.W.WalkO q loose XP YP l.row.toRowW d [] (λf vs=>PySem.call f vs):=by
 refine Att.ZeZ hn hdf λw s₀ s₁ mg mb fa o pm cd doc a vs ns G Y ho hd hcd hmg hobj hints hlen hg=>?_;obtain⟨KX,TX⟩:=hY w _ Y;obtain⟨fd,hb,hF⟩:=F w mg fa _ KX G.T.g hmg;exact ZiO KX TX (hT w) G.T.g G.T.b G.T.builtins G.T.nolimit hg hobj hints (aU hlen hn2) hr hF hb (λH hS=>hsp w H a ns hlen hS) λH e s'=>hCX w H s₁ e s'
end L2
namespace DL
open PyProof.Rows L2
theorem Znh{K:Fg}{ns:List Int}(hF:SqF K H a (ns.map V.int))(h:∃M',F [.rol (ns.map D.int)] []=.ok (.bl true) M'):spD K F [.ref a] H (λv _=>v=.bl true) (λ_ _ _=>False):=by
 obtain⟨M',e⟩:=h;refine⟨[.rol (ns.map D.int)],[],[],.cons (.rol hF (Reps.ints ns)) .nil,HR.nil,?_⟩;rw[e];intro v H' α' _ _ r;cases r;rfl
theorem Zni{K:Fg}(x:PySem.W.Frag.In (K++T) h):K.In h:=λb o e=>x b o (by rw[List.lookup_append,e];rfl)
theorem ZkK{K:Fg}(x:PySem.W.Frag.In (K++T) h)(d:T.all (λp=>(K.lookup p.1).isNone)=true):T.In h:=λb o e=>x b o (by
 have q:=eK.mp d _ (ZiM e);rw[List.lookup_append,fK.mp q];exact e)
def ZsQ(K:Fg)(x:Str):Bool:=match PySem.W.nsIn K aM x with
 |some (some (.ref f))=>(match K.lookup f with
  |some ⟨_,_,.func fd,_⟩=>Zey K fd.code
  |_=>false)
 |_=>false
noncomputable def Znj(K:Fg):Bool:=match PySem.W.nsIn K aM "__builtins__" with
 |some (some (.ref bm))=>(match K.lookup bm with
  |some ⟨.type n,some d,.plain,_⟩=>decide (n="module")&&decide (d=gk)&&decide (bm≠gk)&&decide (bm≠aM)
  |_=>false)
 |_=>false
theorem ZkL{K:Fg}(h:Znj K=true):ZsM K:=by
 unfold Znj at h
 split at h
 .rename_i bm e1
  split at h
  .rename_i n d sl e2;simp only[bg,decide_eq_true_eq]at h;obtain⟨⟨⟨rfl,rfl⟩,h3⟩,h4⟩:=h;exact⟨bm,_,e1,e2,rfl,rfl,rfl,h3,h4⟩
  .cases h
 .cases h
section
variable {w:cO}{K:Fg}
theorem ZpO{st:Stmt}(F:Fun K x qual st f fd)(hl:Zey K fd.code=true)(S:FnScope N ps (Zq st))(hn:n=ps.length)(hm:m=N.length-n)(hb:∀(cdv:aa)(A:cZ)(outer:List Env)(s:aH)(H:Hp)(E:XK),Zey K cdv=true->Room k (A.deeper (iV qual (Zq st) s.heap.objs.size f cdv))->Thr (ZfI (CXE P w) P w K mg base N qual (Zq st) f cdv A outer s H E) E->DSs (ZfI (CXE P w) P w K mg base N qual (Zq st) f cdv A outer s H E) E (Zai st) g):FnOk P w K mg base (CXE P w) (k+1) f fd ps (spD K (fnF g n m)):=by
 obtain⟨oc,od,kV,doc,pm,an,cdv,ct,osl,rfl,lk,hcd⟩:=F.ex;refine ZoR lk hcd S (λvs H Q E h=>?_) (λA outer s H vs Q E hr h=>?_)
 .obtain⟨ds,α,M,r,_,q⟩:=h;by_cases c:ds.length=n
  .rw[r.length,c,hn]
  .simp only[fnF,if_neg c]at q;exact q.elim
 .obtain⟨ds,α,M,r,hh,q⟩:=h;obtain⟨t,p,w'⟩:=hb cdv A outer s H E hl hr Zll;by_cases c:ds.length=n
  .simp only[fnF,if_pos c]at q;refine⟨t,p,w' _ _ H α M _ (SR.start (N:=N) r (k:=m) (by rw[hm,c])) hh ?_⟩
   cases e:g (ds.map some++aB m none) M with
   |nx ρ' M'=>simp only[e]at q;exact λσ' H' α' ex hr sr=>q _ H' α' ex hr .non
   |ret d M'=>simp only[e]at q;exact q
   |exc x M'=>simp only[e]at q;exact q
   |brk ρ' M'=>simp only[e]at q;exact q.elim
   |cnt ρ' M'=>simp only[e]at q;exact q.elim
   |bad=>simp only[e]at q;exact q.elim
  .simp only[fnF,if_neg c]at q;exact q.elim
theorem ZpP{st:Stmt}(D:Df K x st)(hl:ZsQ K x=true)(gl:∀c v,PySem.W.nsIn K aM c=some (some v)->mg c=some v)(hb:∀(cdv:aa)(A:cZ)(outer:List Env)(s:aH)(H:Hp)(E:XK)(f:Addr),Zey K cdv=true->N.Nodup->Room k (A.deeper (iV x (Zq st) s.heap.objs.size f cdv))->Thr (ZfI (CXE P w) P w K mg base N x (Zq st) f cdv A outer s H E) E->DSs (ZfI (CXE P w) P w K mg base N x (Zq st) f cdv A outer s H E) E (Zai st) g)(h1:autoParam ((Zq st).kind=.function) Qrf._auto_1)(h2:autoParam ((Zq st).isCoroutine=false) Qrf._auto_1)(h3:autoParam ((Zq st).isGenerator=false) Qrf._auto_1)(h4:N.Nodup:=by decide +kernel)(h5:autoParam ((N.take n).length=n) Qrf._auto_1)(h6:∀y∈N.take n,(Zq st).names.lookup y=some .local\/(Zq st).names.lookup y=some .cell:=by decide +kernel)(h7:∀y∈(Zq st).names,y.2≠ .free:=by decide +kernel)(hm:autoParam (m=N.length-n) Qrf._auto_1)(bi:∀(kV doc pm:aa)(an:Option Addr)(cdv ct:aa)(us:List aa),us.length=n->hZ (PySem.W.fnOf x x (Za9 st) (Zai st) (Zq st) .none kV doc pm an cdv ct) ⟨us,[]⟩=pure ((N.take n).zip us):=by first|exact λ_ _ _ _ _ _=>Zuy λ_=>rfl|exact λ_ _ _ _ _ _=>Zuz λ_ _=>rfl|exact λ_ _ _ _ _ _=>ZuA λ_ _ _=>rfl):Cal P w K mg base x (k+1) n (fnF g n m):=by
 obtain⟨f,fd,a,F⟩:=D;have S:FnScope N (N.take n) (Zq st):=⟨h1,h2,h3,h4,by rw[h5],h6,h7⟩
 have hl':Zey K fd.code=true:=by
  obtain⟨oc,od,kV,doc,pm,an,cdv,ct,osl,e,lk,hcd⟩:=F.ex;unfold ZsQ at hl;rw[a]at hl;dsimp only at hl;rw[lk]at hl;exact hl
 exact⟨f,fd,N.take n,ZpO F hl' S h5.symm hm (λcdv A outer s H E hc hr θ=>hb cdv A outer s H E f hc h4 hr θ),gl _ _ a,F.kp,h5,F.binds (λkV doc pm an cdv ct us hu=>bi kV doc pm an cdv ct us (hu.trans h5))⟩
end
theorem ZvM(XN N:List Str)(dn:List (Str×cJ))(fr:List Nat)(hN:autoParam (X.N=XN) Qrf._auto_1)(hd:autoParam (X.env.scope.names=dn) Qrf._auto_1)(hc:autoParam (X.env.cells=bR n dn []) Qrf._auto_1)(hk:autoParam (scope.kind=.function) Qrf._auto_1)(h:Zof XN N dn scope.names 1 fr=true:=by decide +kernel)(hl:scope.names.all (λy=>y.2 != .cell)=true:=by decide +kernel)(co:autoParam (scope.isCoroutine=false) Qrf._auto_1)(gen:autoParam (scope.isGenerator=false) Qrf._auto_1)(hx:scope.names.lookup x=some .local:=by decide +kernel)(n0:autoParam (N[0]?=some x) Qrf._auto_1):Lms X scope (clF scope X.env) x N fr:=by
 have B:=ZdZ XN N dn 1 fr hN hd hc hk h;unfold Zof at h;simp only[bg,eK,bne_iff_ne,ne_eq,Bool.or_eq_true,beq_iff_eq]at h hl;obtain⟨⟨h1,h2⟩,h3⟩:=h;refine⟨B.clos,hk,co,gen,hl,hx,B.sub,λy z=>?_,n0,B.len,λj i e=>?_⟩
 .rcases z with z|z
  .exact absurd rfl (hl _ (PySem.mem_of_lookup z))
  .obtain⟨kd,r1,r2⟩:=ZaF (env:=X.env) z;obtain⟨c,hc⟩:=B.has 0 y (by
    rcases r1 with r1|r1
    .exact .inl (r1▸r2)
    .exact .inr (r1▸r2))
   rw[Zaf]at hc;rcases Zcu hc with q|q
   .exact absurd rfl (hl _ (ZaW _ _ _ _ (PySem.mem_of_lookup q)))
   .exact⟨c,q.2⟩
 .obtain⟨y,a1,a2,a3,a4,a5,_⟩:=B.at_ j i e;refine⟨y,a1,a2,a3,?_,a5⟩;have q:=h3 j (cu.mpr (au.mp e).1);rw[e]at q;dsimp only at q;rw[a1,<-hN,a2]at q;simp only[bg,beq_iff_eq]at q;exact q.1.2
end DL
namespace DL
open PyProof.Rows L2
theorem Reps.tk{K:Fg}{H:Hp}{α:List Addr}:∀{vs:List V}{ds:List D}(i:Nat),Reps K H α vs ds->Reps K H α (vs.take i) (ds.take i)
 |_,_,0,_=>.nil
 |_,_,_+1,.nil=>.nil
 |_,_,i+1,.cons r t=>.cons r (Reps.tk i t)
end DL
namespace DL
open PyProof.Rows L2
end DL
namespace DL
open L2
end DL
namespace DQ
open PyProof.Rows
end DQ
namespace DL
open PyProof.Rows L2
end DL
namespace SX
open PySem.Builtin.Str DL
noncomputable def stp(s:Str)(c L:Nat)(b:Array Nat×Nat)(a:Nat):Array Nat×Nat:=if(decide (b.1.size<L)&&decide (b.2<=a)&&decide (a+1<=s.length)&&subAt s ⟨#[c]⟩ a)=true then(b.1.push a,a+1)else(b.1,b.2)
end SX
namespace DL
open PyProof.Rows L2 SX
def okT(z:Str)(lo hi:Option Int):Prop:=0<=lo.getD 0/\lo.getD 0<=hi.getD z.cps.toList.length/\lo.getD 0<=z.cps.toList.length
instance (z:Str) (lo hi:Option Int):Decidable (okT z lo hi):=by unfold okT;infer_instance
end DL
namespace DL
open PyProof.Rows L2
end DL
namespace DQ
open PyProof.Rows
open Builtin Builtin.ObjectAttr
open PySem.W (Looks findIn mroIn specialIn takesIn clsIn looks_findIn looks_mroIn looks_find findObj handedIn hasDictIn lookIn)
end DQ
namespace DL
open PyProof.Rows L2
open PySem.W (nsIn excIn tailIn nsOkIn mroIn clsIn typeIn findIn specialIn takesIn hasDictIn readsIn findCls handedIn)
end DL
namespace DL
open PyProof.Rows L2
open PySem.W (nsIn excIn tailIn nsOkIn mroIn clsIn typeIn findIn specialIn takesIn kitOne Looks looks_mroIn looks_typeIn exmAny exm_tup2)
end DL
namespace DL
open PyProof.Rows L2
noncomputable def Bag(n:Nat)(M:Sto):Prop:=∃a b:Int,0<=a/\M[n]?=some (.lst [.int a,.int b])
structure Gr(n:Nat) (M M':Sto):Prop where
 len:M.length<=M'.length
 bag:Bag n M'
 keep:∀k,k≠n->k<M.length->M'[k]?=M[k]?
theorem Znk(hl:ds.length=n)(h:g (ds.map some++aB k none) M=.ret d M'):fnF g n k ds M=.ok d M':=by
 unfold fnF;rw[if_pos hl,h]
theorem ZiP{M1:Sto}(e:g ρ M=.nx ρ1 M1):Zy g h ρ M=h ρ1 M1:=by
 unfold Zy;rw[e]
theorem ZiQ(h1: -(2^64)<j)(h2:j<2^64):Zs i j:=.inr (.inl (intBits_le_64 h1 h2))
theorem ZiR(h1: -(2^64)<i)(h2:i<2^64):Zs i j:=.inl (intBits_le_64 h1 h2)
theorem at0{x:D}:atI (x::r) 0=some x:=by
 show(ixN (r.length+1) 0).bind _=_;unfold ixN;rw[if_pos (by decide),if_pos ⋯]
 rfl
theorem at1{x:D}:atI (x::y::r) 1=some y:=by
 show(ixN (r.length+2) 1).bind _=_;unfold ixN;rw[if_pos (by decide),if_pos ⋯]
 rfl
theorem ix0:ixN (n+1) 0=some 0:=by
 unfold ixN;rw[if_pos (by decide),if_pos ⋯]
 rfl
theorem ix1:ixN (n+2) 1=some 1:=by
 unfold ixN;rw[if_pos (by decide),if_pos ⋯]
 rfl
theorem Bag.lt(h:Bag n M):n<M.length:=let ⟨_,_,_,e⟩:=h;(au.mp e).1
theorem ZkM{ns:List Int}(h:k<ns.length):atI (ns.map D.int) (k:Int)=some (.int ns[k]):=Zmj (by rw[bC,av h];rfl)
theorem Zga{ρ:Ro}(h:ρ[i]?=some x):ρ.set i x=ρ:=by
 apply d7;intro k;by_cases hk:k=i
 .subst hk;rw[ay (au.mp h).1,h]
 .rw[ah (bh hk)]
def cEu(i j:Nat):Sv:=ZgP i j (Zc (Zg j) (Zc (e2 dMod (Zg i) (Zg j)) aNil))
theorem ZpQ{c:Tv}{i j:Nat}{M:Sto}(hij:i≠j)(hc:∀(ρ:Ro)(b:Nat),ρ[j]?=some (some (.int b))->c ρ M=.ok (decide (b≠0)) M):∀(b a:Nat)(ρ:Ro),ρ[i]?=some (some (.int a))->ρ[j]?=some (some (.int b))->sWh c (cEu i j) ρ M=.nx ((ρ.set i (some (.int (iH a b:Nat)))).set j (some (.int 0))) M:=by
 intro b
 induction b using iy with
 |ind b ih=>
  intro a ρ hi hj;by_cases h0:b=0
  .subst h0;rw[Zei (M1:=M) (by rw[hc ρ 0 hj];rfl),Nat.gcd_zero_right,Zga hi,Zga (x:=some (.int 0)) hj]
  .have hl:i<ρ.length:=(au.mp hi).1;have hl2:j<ρ.length:=(au.mp hj).1;have ht:c ρ M=.ok true M:=by rw[hc ρ b hj,decide_eq_true h0]
   have hb:cEu i j ρ M=.nx ((ρ.set i (some (.int b))).set j (some (.int (a%b:Nat)))) M:=by
    have hb0:¬(b:Int)=0:=⋯
    have hm:(a:Int).fmod (b:Int)=((a%b:Nat):Int):=by rw[i9 _ ⋯];rfl
    simp[cEu,ZgP,Zc,aNil,Zg,e2,dMod,Out.bind,Zas,hi,hj,hb0,hm,h0]
   have g1:((ρ.set i (some (.int b))).set j (some (.int (a%b:Nat))))[i]?=some (some (.int b)):=by
    rw[ah (bh hij),ay hl]
   have g2:((ρ.set i (some (.int b))).set j (some (.int (a%b:Nat))))[j]?=some (some (.int (a%b:Nat))):=by
    rw[ay (by simpa using hl2)]
   have q:=ih (a%b) (Nat.mod_lt _ ⋯) b _ g1 g2
   rw[ZfU ht hb (by rw[q];intro z;cases z),q]
   have eg:iH b (a%b)=iH a b:=by rw[jX b,<-Nat.gcd_rec,jX]
   rw[eg,List.set_comm _ _ (bh hij),iI,iI]
theorem ZpR:eqF 12 M (.int a) (.int b)=some (a==b):=rfl
theorem ne0(ρ:Ro)(b:Nat)(h:ρ[j]?=some (some (.int b))):tv (e2 dNe (Zg j) (eC (.int 0))) ρ M=.ok (decide (b≠0)) M:=by
 simp[tv,e2,Zg,eC,h,Out.bind,dNe,ZpR];by_cases c:b=0
 .subst c;rfl
 .have:¬(b:Int)=0:=⋯
  simp[c,this]
theorem ZiS(a:Int):(if a<0 then -a else a)=(a.natAbs:Int):=by split<;>lia
def ZvN:Sv:=(Zy (ZgP 2 3 (Zc (Zj bAbs (Zc (Zg 0) aNil)) (Zc (Zj bAbs (Zc (Zg 1) aNil)) aNil))) (Zy (sWh (tv (e2 dNe (Zg 3) (eC (.int 0)))) (ZgP 2 3 (Zc (Zg 3) (Zc (e2 dMod (Zg 2) (Zg 3)) aNil)))) (Zae (Zg 2))))
def FGcd:W3:=fnF ZvN 2 2
theorem ZlB(a b:Int)(M:Sto):FGcd [.int a,.int b] M=.ok (.int (ft a b:Nat)) M:=by
 refine Znk rfl ?_;refine(ZiP (ρ1:=[some (.int a),some (.int b),some (.int (a.natAbs:Nat)),some (.int (b.natAbs:Nat))]) (M1:=M) ?_).trans ?_
 .simp[fnF,Zy,sNil,Zae,Zpj,Za7,sIf,ZF,ZgP,Zkd,Zas,gNm,gNl,gCs,gTp,DL.e2,Zg,eC,Zal,ZbI,Zj,Zc,aNil,tv,ZbY,Zmu,Ze2,ZhB,ZvD,ZhC,eIf,Ze4,Zod,Out.bind,dAdd,dSub,dMul,dDiv,dMod,dPow,dLt,dLe,dGt,dGe,dIx,atD,at0,at1,ix0,ix1,bLen,bAbs,bMax,bMin,bInt,bList,Zee,Za5,kd,Zcs,dIs,dIsNot,isP,ZiS]
 .have q:=ZpQ (c:=tv (e2 dNe (Zg 3) (eC (.int 0)))) (i:=2) (j:=3) (M:=M) (by decide) ne0 b.natAbs a.natAbs [some (.int a),some (.int b),some (.int (a.natAbs:Nat)),some (.int (b.natAbs:Nat))] rfl rfl
  refine(ZiP q).trans ?_;rfl
end DL
namespace DL
open PyProof.Rows L2
noncomputable def wO(o:Out β)(Q:β->Sto->Prop)(E:W2):Prop:=match o with
 |.ok a M=>Q a M
 |.exc c M=>E c M
 |.bad=>False
def wS(f:Fl)(N:W1)(R:W0)(B C:W1)(E:W2):Prop:=match f with
 |.nx ρ M=>N ρ M
 |.ret d M=>R d M
 |.brk ρ M=>B ρ M
 |.cnt ρ M=>C ρ M
 |.exc c M=>E c M
 |.bad=>False
noncomputable def Br(k:Bool)(A B:Prop):Prop:=(k=true->A)/\(k=false->B)
noncomputable def wG{β:Type}(o:Option β)(N:β->Prop):Prop:=match o with|some ρ=>N ρ|none=>False
noncomputable def wV(o:Option (Option D))(Q:D->Prop):Prop:=match o with|some (some d)=>Q d|_=>False
noncomputable def wI(x:D)(Q:Int->Prop):Prop:=match x with|.int i=>Q i|_=>False
noncomputable def wR(x:D)(Q:Nat->Prop):Prop:=match x with|.ref i=>Q i|_=>False
noncomputable def w1(x:List D)(Q:D->Prop):Prop:=match x with|[v]=>Q v|_=>False
noncomputable def w2(x:List D)(Q:D->D->Prop):Prop:=match x with|[v,w]=>Q v w|_=>False
noncomputable def wL(o:Option SO)(Q:List D->Prop):Prop:=match o with|some (.lst xs)=>Q xs|none=>False
section
variable {β:Type}{QG:β->Prop}{y:β}
theorem ZvO:w1 [d] Q=Q d:=rfl
theorem ZvP:w2 [d,x] Q2=Q2 d x:=rfl
theorem ZvQ:wV (some (some d)) Q=Q d:=rfl
theorem ZvR:wI (.int i) QI=QI i:=rfl
theorem ZvS:wR (.ref n) QR=QR n:=rfl
theorem ZvT:wL (some (.lst xs)) QL=QL xs:=rfl
theorem ZvU:wG (some y) QG=QG y:=rfl
end
section
variable {β:Type}{Q:β->Sto->Prop}{A A':Prop}
theorem Zp{d:β}:wO (.ok d M) Q E=Q d M:=rfl
theorem ZpS:wO (.exc c M:Out β) Q E=E c M:=rfl
theorem Zok:Br true A A'=A:=by simp[Br]
theorem ZuF:Br false A A'=A':=by simp[Br]
theorem br(h1:k=true->A)(h2:k=false->A'):Br k A A':=⟨h1,h2⟩
theorem brD{p:Prop}[Decidable p](h1:p->A)(h2:¬p->A'):Br (decide p) A A':=⟨λh=>h1 (of_decide_eq_true h),λh=>h2 (of_decide_eq_false h)⟩
theorem Zb0{o:Out β}{Q':β->Sto->Prop}(h:wO o Q E)(hq:∀d M,Q d M->Q' d M)(he:∀c M,E c M->E' c M):wO o Q' E':=by
 cases o with
 |ok d M=>exact hq d M h
 |exc c M=>exact he c M h
 |bad=>exact h
theorem Zce{o:Out β}(h:wO o Q (λ_ _=>False)):∃d M',o=.ok d M'/\Q d M':=by
 cases o with
 |ok d M=>exact⟨d,M,rfl,h⟩
 |exc c M=>exact h.elim
 |bad=>exact h.elim
theorem ZA{o:Out γ}{f:γ->Sto->Out β}:wO (o.bind f) Q E=wO o (λx M1=>wO (f x M1) Q E) E:=by cases o<;>rfl
end
section
variable {E:W2}{N B C:W1}{R:W0}{ρ:Ro}{M:Sto}{e f:Ev}
theorem ZsR:wO (e2 op f g ρ M) Q E=wO (f ρ M) (λx M1=>wO (g ρ M1) (λy M2=>wO (op x y M2) Q E) E) E:=by
 unfold e2;rw[ZA];congr 1;funext x M1;rw[ZA]
theorem ZvV:wO (Zg i ρ M) Q E=wV ρ[i]? (λd=>Q d M):=by
 unfold Zg;cases ρ[i]? with
 |none=>rfl
 |some o=>cases o<;>rfl
theorem Znl:wO (Zj F fs ρ M) Q E=wO (fs ρ M) (λds M1=>wO (F ds M1) Q E) E:=ZA
theorem Znm:wO (Zc f fs ρ M) Q E=wO (f ρ M) (λx M1=>wO (fs ρ M1) (λxs M2=>Q (x::xs) M2) E) E:=by
 unfold Zc;rw[ZA];congr 1;funext x M1;rw[ZA];congr 1
theorem ZpT:wO (Zal fs ρ M) Q E=wO (fs ρ M) (λxs M1=>xs.length<=1000/\Q (.tup xs) M1) E:=by
 unfold Zal;rw[ZA];congr 1;funext x M1;by_cases h:x.length<=1000
 .rw[if_pos h];simp[h,wO]
 .rw[if_neg h];simp[h,wO]
theorem ZpU:wO (ZbI fs ρ M) Q E=wO (fs ρ M) (λxs M1=>xs.length<=1000/\Q (.ref M1.length) (M1++[.lst xs])) E:=by
 unfold ZbI;rw[ZA];congr 1;funext x M1;by_cases h:x.length<=1000
 .rw[if_pos h];simp[h,wO]
 .rw[if_neg h];simp[h,wO]
theorem ZpV:wO (Ze2 t ρ M) Q E=wO (t ρ M) (λk M1=>Q (!k) M1) E:=by
 unfold Ze2;rw[ZA];congr 1
theorem ZpW:wS (Zy a b ρ M) N R B C E=wS (a ρ M) (λρ1 M1=>wS (b ρ1 M1) N R B C E) R B C E:=by
 unfold Zy;cases a ρ M<;>rfl
theorem ZW{o:Out β}{k:β->Sto->Fl}:wS (Zas o k) N R B C E=wO o (λx M1=>wS (k x M1) N R B C E) E:=by cases o<;>rfl
theorem ZpX:wS (Zae f ρ M) N R B C E=wO (f ρ M) R E:=ZW
theorem Znn:wS (Za7 f ρ M) N R B C E=wO (f ρ M) (λ_ M1=>N ρ M1) E:=ZW
theorem ZpY:wS (ZF (gNm i) f ρ M) N R B C E=wO (f ρ M) (λd M1=>N (ρ.set i (some d)) M1) E:=ZW
theorem Zno:wS (ZF (gTp gs) f ρ M) N R B C E=wO (f ρ M) (λd M1=>wG (gTp gs d ρ) (λr=>N r M1)) E:=by
 unfold ZF;rw[ZW];congr 1;funext d M1;cases gTp gs d ρ<;>rfl
theorem ZpZ:wS (ZgP i j fs ρ M) N R B C E=wO (fs ρ M) (λds M1=>w2 ds λv w=>N ((ρ.set i (some v)).set j (some w)) M1) E:=by
 unfold ZgP;rw[ZW];congr 1;funext ds M1;rcases ds with _|⟨v,_|⟨w,_|⟨z,r⟩⟩⟩<;>rfl
theorem Zp0:wS (Zkd fo fi f ρ M) N R B C E=wO (f ρ M) (λd M1=>wO (fo ρ M1) (λo M2=>wO (fi ρ M2) (λi M3=>wR o λn=>wI i λk=>wL M3[n]? λxs=>wG (ixN xs.length k) λj=>N ρ (M3.set n (.lst (xs.set j d)))) E) E) E:=by
 unfold Zkd;rw[ZW];congr 1;funext d M1;rw[ZW];congr 1;funext o M2;rw[ZW];congr 1;funext i M3;cases o<;>cases i<;>try rfl
 rename_i n k;cases e:M3[n]? with
 |none=>simp only[e,wR,wI,wL,wS]
 |some s=>
  cases s with
  |lst xs=>
   cases e2:ixN xs.length k<;>simp only[e,e2,wR,wI,wL,wG,wS]
theorem wF(hl:ds.length=n):wO (fnF a n k ds M) Q E=wS (a (ds.map some++aB k none) M) (λ_ M1=>Q .non M1) Q (λ_ _=>False) (λ_ _=>False) E:=by
 unfold fnF;rw[if_pos hl];cases a (ds.map some++aB k none) M<;>rfl
theorem ZiT(h:wS o N R B C E)(hn:∀ρ M,N ρ M->N' ρ M)(hr:∀d M,R d M->R' d M)(hb:∀ρ M,B ρ M->B' ρ M)(hc:∀ρ M,C ρ M->C' ρ M)(he:∀c M,E c M->E' c M):wS o N' R' B' C' E':=by
 cases o with
 |nx ρ M=>exact hn _ _ h
 |ret ρ M=>exact hr _ _ h
 |brk ρ M=>exact hb _ _ h
 |cnt ρ M=>exact hc _ _ h
 |exc ρ M=>exact he _ _ h
 |bad=>exact h
variable {tg:Tg}{bd:Sv}
theorem ZiU(I:Nat->Ro->Sto->Prop):∀(xs:List D)(k:Nat)(ρ:Ro)(M:Sto),I k ρ M->(∀i ρ M (h:i<xs.length),I (k+i) ρ M->wG (tg xs[i] ρ) λr=>wS (bd r M) (I (k+i+1)) R N (I (k+i+1)) E)->(∀ρ M,I (k+xs.length) ρ M->N ρ M)->wS (Zbr tg bd xs ρ M) N R B C E
 |[],k,ρ,M,h,_,hn=>hn ρ M h
 |x::xs,k,ρ,M,h,st,hn=>by
  have s:=st 0 ρ M (by simp) h
  unfold Zbr;simp only[List.getElem_cons_zero,Nat.add_zero]at s;cases e:tg x ρ with
  |none=>rw[e]at s;exact s.elim
  |some ρ1=>
   rw[e]at s;simp only[wG]at s;have rc:∀ρ2 M2,I (k+1) ρ2 M2->wS (Zbr tg bd xs ρ2 M2) N R B C E:=λρ2 M2 h2=>ZiU I xs (k+1) ρ2 M2 h2 (λi ρ M hi hI=>by
    have z:=st (i+1) ρ M (by simp;lia) (by rw[show k+(i+1)=k+1+i by lia];exact hI)
    simp only[List.getElem_cons_succ]at z;rw[show k+(i+1)+1=k+1+i+1 by lia]at z
    exact z) (λρ M hI=>hn ρ M (by rw[show k+(x::xs).length=k+1+xs.length by simp;lia];exact hI))
   cases eg:bd ρ1 M<;>rw[eg]at s<;>simp only[eg]
   .exact rc _ _ s
   .exact s
   .exact s
   .exact rc _ _ s
   .exact s
   .exact s
theorem Znp:wS (ZaE tg fs bd ρ M) N R B C E=wO (fs ρ M) (λds M1=>w1 ds λd=>wI d λj=>(-(2^62)<=j/\j<2^62)/\wS (Zbr tg bd (Zah 0 j.toNat) ρ M1) N R B C E) E:=by
 unfold ZaE;rw[ZW];congr 1;funext ds M1;rcases ds with _|⟨v,_|⟨w,r⟩⟩
 .rfl
 .cases v<;>try rfl
  rename_i j;by_cases h: -(2^62)<=j/\j<2^62
  .simp only[w1,wI,eq_true h,true_and,if_true]
  .simp only[w1,wI,eq_false h,false_and,if_false];rfl
 .cases v<;>rfl
theorem Zbu(I:Nat->Ro->Sto->Prop){lo:Int}(h0:I 0 ρ M)(st:∀i ρ M,i<n->I i ρ M->wG (tg (.int (lo+i)) ρ) λr=>wS (bd r M) (I (i+1)) R N (I (i+1)) E)(hn:∀ρ M,I n ρ M->N ρ M):wS (Zbr tg bd (Zah lo n) ρ M) N R B C E:=by
 have hl:(Zah lo n).length=n:=by simp[Zah]
 refine ZiU I _ 0 ρ M h0 (λi ρ M h hI=>?_) (λρ M hI=>hn ρ M (by rw[hl,fH]at hI;exact hI))
 have:(Zah lo n)[i]=.int (lo+i):=by simp[Zah]
 rw[this];rw[fH]at *;exact st i ρ M (by rw[hl]at h;exact h) hI
theorem Zp1:wS (Zg5 tg f bd ρ M) N R B C E=wO (f ρ M) (λd M1=>wS (Zke tg bd d ρ M1) N R B C E) E:=ZW
theorem Znq(I:Nat->Ro->Sto->Prop){n:Nat}{xs:List D}:∀(f i:Nat)(ρ:Ro)(M:Sto),i+f=xs.length->I i ρ M->(∀i ρ M,I i ρ M->M[n]?=some (.lst xs))->(∀i ρ M (h:i<xs.length),I i ρ M->wG (tg xs[i] ρ) λr=>wS (bd r M) (I (i+1)) R N (I (i+1)) E)->(∀ρ M,I xs.length ρ M->N ρ M)->wS (Zg4 tg bd n f i ρ M) N R B C E:=by
  intro f
  induction f with
  |zero=>
   intro i ρ M e h hm st hn;have hx:=hm _ _ _ h;unfold Zg4;rw[hx]
   have:xs[i]?=none:=aL ⋯
   simp only[this];exact hn ρ M (by rw[show xs.length=i by lia];exact h)
  |succ f ih=>
   intro i ρ M e h hm st hn;have hx:=hm _ _ _ h;unfold Zg4;rw[hx];have hi:i<xs.length:=⋯
   have:xs[i]?=some xs[i]:=Gq hi
   simp only[this];have s:=st i ρ M hi h;cases e:tg xs[i] ρ with
   |none=>rw[e]at s;exact s.elim
   |some ρ1=>
    rw[e]at s;simp only[wG]at s;have rc:∀ρ2 M2,I (i+1) ρ2 M2->wS (Zg4 tg bd n f (i+1) ρ2 M2) N R B C E:=λρ2 M2 h2=>ih (i+1) ρ2 M2 ⋯ h2 hm st hn
    cases eg:bd ρ1 M<;>rw[eg]at s<;>simp only[eg]
    .exact rc _ _ s
    .exact s
    .exact s
    .exact rc _ _ s
    .exact s
    .exact s
theorem Zbd(I:Nat->Ro->Sto->Prop)(hM:M[n]?=some (.lst xs))(h0:I 0 ρ M)(hm:∀i ρ M,I i ρ M->M[n]?=some (.lst xs))(st:∀i ρ M (h:i<xs.length),I i ρ M->wG (tg xs[i] ρ) λr=>wS (bd r M) (I (i+1)) R N (I (i+1)) E)(hn:∀ρ M,I xs.length ρ M->N ρ M):wS (Zke tg bd (.ref n) ρ M) N R B C E:=by
 show wS (match M[n]? with|some (.lst xs)=>Zg4 tg bd n xs.length 0 ρ M|none=>.bad) N R B C E
 rw[hM];exact Znq I xs.length 0 ρ M ⋯ h0 hm st hn
theorem Znr:wS (Zeo tg fi bd ρ M) N R B C E=wO (fi ρ M) (λsrc M1=>wS (Zen tg bd src (cnt src M1) 0 ρ M1) N R B C E) E:=ZW
theorem Zgb(I:Nat->Ro->Sto->Prop){src:Src}{xs:List D}:∀(f i:Nat)(ρ:Ro)(M:Sto),i<=xs.length->xs.length<=i+f->I i ρ M->(∀i ρ M,i<=xs.length->I i ρ M->nxt src i M=some xs[i]?)->(∀i ρ M (h:i<xs.length),I i ρ M->wG (tg xs[i] ρ) λr=>wS (bd r M) (I (i+1)) R N (I (i+1)) E)->(∀ρ M,I xs.length ρ M->N ρ M)->wS (Zen tg bd src f i ρ M) N R B C E:=by
  intro f
  induction f with
  |zero=>
   intro i ρ M le e h hm st hn;have hx:=hm _ _ _ le h;unfold Zen;rw[hx];have hi:¬i<xs.length:=⋯
   have:xs[i]?=none:=aL ⋯
   simp only[this];exact hn ρ M (by rw[show xs.length=i by lia];exact h)
  |succ f ih=>
   intro i ρ M le e h hm st hn;have hx:=hm _ _ _ le h;unfold Zen;rw[hx];by_cases hi:i<xs.length
   .have:xs[i]?=some xs[i]:=Gq hi
    simp only[this];have s:=st i ρ M hi h;cases e:tg xs[i] ρ with
    |none=>rw[e]at s;exact s.elim
    |some ρ1=>
     rw[e]at s;simp only[wG]at s;have rc:∀ρ2 M2,I (i+1) ρ2 M2->wS (Zen tg bd src f (i+1) ρ2 M2) N R B C E:=λρ2 M2 h2=>ih (i+1) ρ2 M2 ⋯ ⋯ h2 hm st hn
     cases eg:bd ρ1 M<;>rw[eg]at s<;>simp only[eg]
     .exact rc _ _ s
     .exact s
     .exact s
     .exact rc _ _ s
     .exact s
     .exact s
   .have:xs[i]?=none:=aL ⋯
    simp only[this];exact hn ρ M (by rw[show xs.length=i by lia];exact h)
theorem ZkN{c:Tv}(I:Nat->Ro->Sto->Prop)(st:∀n ρ M,I n ρ M->wO (c ρ M) (λk M1=>Br k (wS (bd ρ M1) (λρ2 M2=>∃m,m<n/\I m ρ2 M2) R N (λρ2 M2=>∃m,m<n/\I m ρ2 M2) E) (N ρ M1)) E):∀(n:Nat)(ρ:Ro)(M:Sto),I n ρ M->wS (sWh c bd ρ M) N R B C E:=by
 intro n
 induction n using iy with
 |ind n ih=>
  intro ρ M h;have s:=st n ρ M h;cases ec:c ρ M with
  |bad=>rw[ec]at s;exact s.elim
  |exc x M1=>rw[ec]at s;rw[Zcb (n:=1) (o:=.exc x M1) (by simp only[whN,ec])];exact s
  |ok k M1=>
   rw[ec]at s;cases k with
   |false=>
    rw[Zp,ZuF]at s;rw[Zei ec];exact s
   |true=>
    rw[Zp,Zok]at s;cases eg:bd ρ M1 with
    |nx ρ2 M2=>
     rw[eg]at s;obtain⟨m,hm,hI⟩:=s;have r:=ih m hm ρ2 M2 hI;rw[ZfU ec eg (by intro z;rw[z]at r;exact r)]
     exact r
    |cnt ρ2 M2=>
     rw[eg]at s;obtain⟨m,hm,hI⟩:=s;have r:=ih m hm ρ2 M2 hI;have nb:sWh c bd ρ2 M2≠ .bad:=by intro z;rw[z]at r;exact r
     obtain⟨j,ej⟩:=ZhL nb;rw[Zcb (n:=j+1) (o:=sWh c bd ρ2 M2) (by simp only[whN,ec,eg];exact ej)]
     exact r
    |brk ρ2 M2=>rw[eg]at s;rw[Zcb (n:=1) (o:=.nx ρ2 M2) (by simp only[whN,ec,eg])];exact s
    |ret d M2=>rw[eg]at s;rw[Zcb (n:=1) (o:=.ret d M2) (by simp only[whN,ec,eg])];exact s
    |exc d M2=>rw[eg]at s;rw[Zcb (n:=1) (o:=.exc d M2) (by simp only[whN,ec,eg])];exact s
    |bad=>rw[eg]at s;exact s.elim
theorem Zns:wO (Zam fi k fr tg c f ρ M) Q E=wO (fi ρ M) (λsrc M1=>wO (ZfX src tg c f M1.length (cnt src M1) 0 (roB k fr ρ) (M1++[.lst []])) (λ_ M2=>Q (.ref M1.length) M2) (λ_ _=>False)) E:=by
 unfold Zam;rw[ZA];congr 1;funext src M1;cases ZfX src tg c f M1.length (cnt src M1) 0 (roB k fr ρ) (M1++[.lst []])<;>rfl
theorem Zgc(I:Nat->Ro->Sto->Prop){src:Src}{xs:List D}{c:Tv}{m:Nat}{Q:Sto->Prop}:∀(fu i:Nat)(ρ:Ro)(M:Sto),i<=xs.length->xs.length<=i+fu->I i ρ M->(∀i ρ M,i<=xs.length->I i ρ M->nxt src i M=some xs[i]?)->(∀i ρ M (h:i<xs.length),I i ρ M->wG (tg xs[i] ρ) λr=>wO (c r M) (λk M1=>Br k (wO (f r M1) (λy M2=>wL M2[m]? λys=>ys.length<10000000/\I (i+1) r (M2.set m (.lst (ys++[y])))) (λ_ _=>False)) (I (i+1) r M1)) (λ_ _=>False))->(∀ρ M,I xs.length ρ M->Q M)->wO (ZfX src tg c f m fu i ρ M) (λ_ M2=>Q M2) (λ_ _=>False):=by
  intro fu
  induction fu with
  |zero=>
   intro i ρ M le e h hm st hn;have hx:=hm _ _ _ le h;unfold ZfX;rw[hx];have hi:¬i<xs.length:=⋯
   have:xs[i]?=none:=aL ⋯
   simp only[this];exact hn ρ M (by rw[show xs.length=i by lia];exact h)
  |succ fu ih=>
   intro i ρ M le e h hm st hn;have hx:=hm _ _ _ le h;unfold ZfX;rw[hx];by_cases hi:i<xs.length
   .have:xs[i]?=some xs[i]:=Gq hi
    simp only[this];have s:=st i ρ M hi h;cases e:tg xs[i] ρ with
    |none=>rw[e]at s;exact s.elim
    |some ρ1=>
     rw[e]at s;simp only[wG]at s;have rc:∀ρ2 M2,I (i+1) ρ2 M2->wO (ZfX src tg c f m fu (i+1) ρ2 M2) (λ_ M2=>Q M2) (λ_ _=>False):=λρ2 M2 h2=>ih (i+1) ρ2 M2 ⋯ ⋯ h2 hm st hn
     cases ec:c ρ1 M with
     |bad=>rw[ec]at s;exact s.elim
     |exc _ _=>rw[ec]at s;exact s.elim
     |ok k M1=>
      rw[ec]at s;rw[Zp]at s;cases k with
      |false=>
       rw[ZuF]at s;simp only[ec];exact rc _ _ s
      |true=>
       rw[Zok]at s;simp only[ec];cases ef:f ρ1 M1 with
       |bad=>rw[ef]at s;exact s.elim
       |exc _ _=>rw[ef]at s;exact s.elim
       |ok y M2=>
        rw[ef,Zp]at s;simp only[ef];cases ey:M2[m]? with
        |none=>rw[ey]at s;exact s.elim
        |some o=>
         cases o with
         |lst ys=>
          rw[ey]at s;simp only[wL,ey]at s ⊢;rw[if_pos s.1];exact rc _ _ s.2
   .have:xs[i]?=none:=aL ⋯
    simp only[this];exact hn ρ M (by rw[show xs.length=i by lia];exact h)
end
end DL
namespace DL
open PyProof.Rows L2
section
variable {M:Sto}{n:Nat}{x:D}{lo:Ro->Sto->Out (Option Int)}
theorem ZeB(h: -(18446744073709551616)<i/\i<18446744073709551616):Zs i j:=ZiR h.1 h.2
theorem ZdG(h: -(18446744073709551616)<j/\j<18446744073709551616):Zs i j:=ZiQ h.1 h.2
theorem ZeC(h:0<j/\j<18446744073709551616):ZaK j:=by
 refine⟨⋯,?_⟩
 have:j.natAbs.log2<64:=(Nat.log2_lt ⋯).mpr ⋯
 lia
theorem ZsS:wO (dAdd (.int i) (.int j) M) Q E=Q (.int (i+j)) M:=rfl
theorem ZsT:wO (dSub (.int i) (.int j) M) Q E=Q (.int (i-j)) M:=rfl
theorem ZK(h:Zs i j):wO (dMul (.int i) (.int j) M) Q E=Q (.int (i*j)) M:=by
 show wO (if Zs i j then _ else _) Q E=_
 rw[if_pos h];rfl
theorem ZsU(h: -(18446744073709551616)<i/\i<18446744073709551616):wO (dMul (.int i) (.int j) M) Q E=Q (.int (i*j)) M:=ZK (ZeB h)
theorem Zp2(h: -(18446744073709551616)<j/\j<18446744073709551616):wO (dMul (.int i) (.int j) M) Q E=Q (.int (i*j)) M:=ZK (ZdG h)
theorem ZsV(h:0<j/\j<18446744073709551616):wO (dDiv (.int i) (.int j) M) Q E=Q (.int (i/j)) M:=by
 show wO (if ZaK j then _ else _) Q E=_
 rw[if_pos (ZeC h),ja _ ⋯];rfl
theorem ZsW(h:0<j):wO (dMod (.int i) (.int j) M) Q E=Q (.int (i%j)) M:=by
 show wO (if j≠0 then _ else _) Q E=_
 rw[if_pos ⋯,i9 _ ⋯];rfl
theorem ZsX(h:0<=j/\j<=1000000/\i.natAbs<18446744073709551616):wO (dPow (.int i) (.int j) M) Q E=Q (.int (i^j.toNat)) M:=by
 show wO (if 0<=j/\j<=1000000/\i.natAbs<2^64 then _ else _) Q E=_
 rw[if_pos ⟨h.1,h.2.1,⋯⟩];rfl
theorem ZvW:wO (dLt (.int i) (.int j) M) Q E=Q (.bl (decide (i<j))) M:=rfl
theorem ZvX:wO (dLe (.int i) (.int j) M) Q E=Q (.bl (decide (i<=j))) M:=rfl
theorem ZvY:wO (dGt (.int i) (.int j) M) Q E=Q (.bl (decide (j<i))) M:=rfl
theorem ZvZ:wO (dGe (.int i) (.int j) M) Q E=Q (.bl (decide (j<=i))) M:=rfl
theorem ZsY:wO (dAdd (.ref n) (.ref m) M) Q E=wL M[n]? λxs=>wL M[m]? λys=>xs.length+ys.length<=10000000/\Q (.ref M.length) (M++[.lst (xs++ys)]):=by
 show wO (match M[n]?,M[m]? with|some (.lst xs),some (.lst ys)=>_|_,_=>_) Q E=_
 cases e1:M[n]? with
 |none=>rfl
 |some o=>
  cases o with
  |lst xs=>
   cases e2:M[m]? with
   |none=>rfl
   |some p=>
    cases p with
    |lst ys=>
     by_cases h:xs.length+ys.length<=10000000
     .simp[wL,h,wO]
     .simp[wL,h,wO]
theorem Zv0:wO (dEq x y M) Q E=wG (eqF 12 M x y) λb=>Q (.bl b) M:=by
 show wO (match eqF 12 M x y with|some b=>_|none=>_) Q E=_
 cases eqF 12 M x y<;>rfl
theorem Zv1:wO (dNe x y M) Q E=wG (eqF 12 M x y) λb=>Q (.bl (!b)) M:=by
 show wO (match eqF 12 M x y with|some b=>_|none=>_) Q E=_
 cases eqF 12 M x y<;>rfl
theorem Zv2:wO (dIs x y M) Q E=wG (isP x y) λb=>Q (.bl b) M:=by
 show wO (match isP x y with|some b=>_|none=>_) Q E=_
 cases isP x y<;>rfl
theorem ZsZ:wO (dIsNot x y M) Q E=wG (isP x y) λb=>Q (.bl (!b)) M:=by
 show wO (match isP x y with|some b=>_|none=>_) Q E=_
 cases isP x y<;>rfl
theorem Znt:wO (atD xs i M) Q E=wG (atI xs i) λd=>Q d M:=by
 unfold atD;cases atI xs i<;>rfl
theorem Zs0:wO (dIx (.tup xs) (.int i) M) Q E=wG (atI xs i) λd=>Q d M:=Znt
theorem Zs1:wO (dIx (.rol xs) (.int i) M) Q E=wG (atI xs i) λd=>Q d M:=Znt
theorem Zs2:wO (dIx (.ref n) (.int i) M) Q E=wL M[n]? λxs=>wG (atI xs i) λd=>Q d M:=by
 show wO (match M[n]? with|some (.lst xs)=>atD xs i M|_=>.bad) Q E=_
 cases e1:M[n]? with
 |none=>rfl
 |some o=>cases o with|lst xs=>exact Znt
theorem Zp3:wO (bLen [.ref n] M) Q E=wL M[n]? λxs=>Q (.int xs.length) M:=by
 show wO (match(match M[n]? with|some (.lst xs)=>some xs|_=>none)with|some xs=>_|none=>_) Q E=_
 cases e1:M[n]? with
 |none=>rfl
 |some o=>cases o with|lst xs=>rfl
theorem Zp4:wO (bLen [.tup xs] M) Q E=Q (.int xs.length) M:=rfl
theorem Zp5:wO (bLen [.rol xs] M) Q E=Q (.int xs.length) M:=rfl
theorem Zs3:wO (bAbs [.int i] M) Q E=Q (.int (i.natAbs:Int)) M:=by rw[<-ZiS];rfl
theorem Zs4:wO (bMax [.int i,.int j] M) Q E=Q (.int (max i j)) M:=by
 have:max i j=if j>i then j else i:=by split<;>lia
 rw[this];rfl
theorem Zs5:wO (bMin [.int i,.int j] M) Q E=Q (.int (min i j)) M:=by
 have:min i j=if j<i then j else i:=by split<;>lia
 rw[this];rfl
theorem Zp6:wO (bInt [.bl k] M) Q E=Q (.int (if k then 1 else 0)) M:=rfl
theorem Zp7:wO (bInt [.int i] M) Q E=Q (.int i) M:=rfl
theorem Znu:wO (bList [.ref n] M) Q E=wL M[n]? λxs=>Q (.ref M.length) (M++[.lst xs]):=by
 show wO (match(match M[n]? with|some (.lst xs)=>some xs|_=>none)with|some xs=>_|none=>_) Q E=_
 cases e1:M[n]? with
 |none=>rfl
 |some o=>cases o with|lst xs=>rfl
theorem Znv:wO (bList [.tup xs] M) Q E=Q (.ref M.length) (M++[.lst xs]):=rfl
theorem Zv3:wO (ZvL [.ref n] M) Q E=wL M[n]? λxs=>wG (ZcG xs) λbs=>Q (.bl (bs.all id)) M:=by
 show wO (match M[n]? with|some (.lst xs)=>(match ZcG xs with|some bs=>Out.ok (.bl (bs.all id)) M|none=>.bad)|none=>.bad) Q E=_
 cases e1:M[n]? with
 |none=>rfl
 |some o=>
  cases o with
  |lst xs=>
   show wO (match ZcG xs with|some bs=>Out.ok (.bl (bs.all id)) M|none=>.bad) Q E=wG (ZcG xs) _
   cases ZcG xs<;>rfl
theorem Zp8:wO (Zdb g [.ref n] M) Q E=wL M[n]? λxs=>wG (ZaC xs) λns=>wG (g ns) λi=>Q (.int i) M:=by
 show wO (match(match M[n]? with|some (.lst xs)=>some xs|_=>none)with|some xs=>(match ZaC xs with|some ns=>(match g ns with|some i=>Out.ok (.int i) M|none=>.bad)|none=>.bad)|none=>.bad) Q E=_
 cases e1:M[n]? with
 |none=>rfl
 |some o=>
  cases o with
  |lst xs=>
   show wO (match ZaC xs with|some ns=>(match g ns with|some i=>Out.ok (.int i) M|none=>.bad)|none=>.bad) Q E=wG (ZaC xs) _
   cases ZaC xs with
   |none=>rfl
   |some ns=>
    show wO (match g ns with|some i=>Out.ok (.int i) M|none=>.bad) Q E=wG (g ns) _
    cases g ns<;>rfl
theorem Zv4:wO (ZeS g fo fs ρ M) Q E=wO (fo ρ M) (λx M1=>ZmI x M1=true/\wO (fs ρ M1) (λds M2=>wO (g x ds M2) Q E) E) E:=by
 unfold ZeS;rw[ZA];congr 1;funext x M1;by_cases h:ZmI x M1=true
 .simp only[h,if_true,true_and];rw[ZA]
 .simp[h,wO]
theorem Zp9:ZmI (.ref n) M=M[n]?.isSome:=rfl
theorem Zs6:wO (mApp (.ref n) [d] M) Q E=wL M[n]? λxs=>xs.length<10000000/\Q .non (M.set n (.lst (xs++[d]))):=by
 show wO (match M[n]? with|some (.lst xs)=>if xs.length<10000000 then _ else _|none=>_) Q E=_
 cases e1:M[n]? with
 |none=>rfl
 |some o=>
  cases o with
  |lst xs=>
   by_cases h:xs.length<10000000
   .simp[wL,h,wO]
   .simp[wL,h,wO]
def slR(x:D)(l u:Option Int)(M3:Sto):Out D:=match x with
 |.ref n=>(match M3[n]? with|some (.lst xs)=>.ok (.ref M3.length) (M3++[.lst (Ze8 xs l u)])|none=>.bad)
 |.rol xs=>.ok (.ref M3.length) (M3++[.lst (Ze8 xs l u)])
 |.tup xs=>if HT.sIx xs.length 0 l=0/\HT.sIx xs.length xs.length u=xs.length then .bad else .ok (.tup (Ze8 xs l u)) M3
 |_=>.bad
theorem Zs7:wO (eSl f lo hi ρ M) Q E=wO (f ρ M) (λx M1=>wO (lo ρ M1) (λl M2=>wO (hi ρ M2) (λu M3=>wO (slR x l u M3) Q E) E) E) E:=by
 unfold eSl;rw[ZA];congr 1;funext x M1;rw[ZA];congr 1;funext l M2;rw[ZA];congr 1
theorem Zs8:wO (slR (.ref n) l u M) Q E=wL M[n]? λxs=>Q (.ref M.length) (M++[.lst (Ze8 xs l u)]):=by
 unfold slR;cases e1:M[n]? with
 |none=>simp only[e1];rfl
 |some o=>cases o with|lst xs=>simp only[e1];rfl
theorem Zs9:wO (oSo f ρ M) Q E=wO (f ρ M) (λx M1=>wI x λi=>Q (some i) M1) E:=by
 unfold oSo;rw[ZA];congr 1;funext x M1;cases x<;>rfl
theorem Zqa(h:0<=i):Ze8 xs none (some i)=xs.take i.toNat:=by
 unfold Ze8;simp only[HT.sIx];rw[if_neg ⋯,List.drop_zero,Nat.sub_zero]
 by_cases c:i.toNat<=xs.length
 .rw[iu c]
 .rw[Nat.min_eq_right ⋯,bU (ae _),bU ⋯]
theorem ZkO(h:0<=i):Ze8 xs (some i) none=xs.drop i.toNat:=by
 unfold Ze8;simp only[HT.sIx];rw[if_neg ⋯]
 by_cases c:i.toNat<=xs.length
 .rw[iu c,bU (by simp)]
 .rw[Nat.min_eq_right ⋯,dz (ae _),dz ⋯,List.take_nil]
theorem Znw{L:Sto}:(M++L)[M.length]?=L[0]?:=by rw[aT (ae _),gG]
theorem ZrU{L:Sto}:(M++L)[M.length+i]?=L[i]?:=by rw[aT ⋯];congr 1;lia
theorem ZeD{L:Sto}(h:n<M.length):(M++L)[n]?=M[n]?:=ac h
theorem ZlC{L:Sto}:(M++L).set M.length o=M++L.set 0 o:=by rw[List.set_append_right _ _ (ae _),gG]
theorem Zqb(h:k≠n):(M.set n o)[k]?=M[k]?:=ah (bh h)
theorem Zqc(h:n<M.length):(M.set n o)[n]?=some o:=ay h
theorem Zo(h:M[n]?=some o):n<M.length:=(au.mp h).1
noncomputable abbrev pr(x y:Int):D:=.tup [.int x,.int y]
def prs(rs:List (Int×Int)):List D:=rs.map λp=>pr p.1 p.2
def nts(ns:List Int):List D:=ns.map D.int
theorem ZG:(prs rs).length=rs.length:=af _
theorem ZdH:(nts rs).length=rs.length:=af _
theorem Zfj:prs a++prs b=prs (a++b):=(cw).symm
theorem ZiV:nts a++nts b=nts (a++b):=(cw).symm
theorem ZdI:(prs a).take n=prs (a.take n):=List.map_take.symm
theorem ZdJ:(prs a).drop n=prs (a.drop n):=List.map_drop.symm
theorem ZkP:pr a b::prs r=prs ((a,b)::r):=rfl
theorem Znx:(nts a).set n (.int b)=nts (a.set n b):=by unfold nts;rw[lX]
noncomputable def cy(rs:List (Int×Int))(i:Int):Int×Int:=rs.getD (i%rs.length).toNat (0,0)
noncomputable def cn(rs:List Int)(i:Int):Int:=rs.getD (i%rs.length).toNat 0
theorem ZiW{n:Nat}(h: -(n:Int)<=i/\i<n):ixN n i=some (i%n).toNat:=by
 unfold ixN;by_cases c:0<=i
 .rw[if_pos c,if_pos h.2,bf c h.2]
 .rw[if_neg c,if_pos h.1]
  have:i%n=i+n:=by
   rw[<-jb,bf ⋯ ⋯]
  rw[this]
theorem ZcN(h: -(rs.length:Int)<=i/\i<rs.length):atI (prs rs) i=some (pr (cy rs i).1 (cy rs i).2):=by
 unfold atI;rw[ZG,ZiW h];have hp:(i%rs.length).toNat<rs.length:=by
  have:=aX i (show(0:Int)<rs.length by lia)
  have:=bF i (show(rs.length:Int)≠0 by lia)
  lia
 simp[prs,cy,av hp]
theorem ZlD(h: -(rs.length:Int)<=i/\i<rs.length):atI (nts rs) i=some (.int (cn rs i)):=by
 unfold atI;rw[ZdH,ZiW h];have hp:(i%rs.length).toNat<rs.length:=by
  have:=aX i (show(0:Int)<rs.length by lia)
  have:=bF i (show(rs.length:Int)≠0 by lia)
  lia
 simp[nts,cn,av hp]
theorem Zbe:cy rs (i%rs.length)=cy rs i:=by unfold cy;rw[ic _ (lY _)]
theorem Zqd:cy rs (i+rs.length)=cy rs i:=by unfold cy;rw[jb]
theorem ZeE:cy rs (i-rs.length)=cy rs i:=by unfold cy;rw[Int.sub_emod_right]
theorem ZeF{rs:List (Int×Int)}(h:k<rs.length):cy rs k=rs[k]:=by
 unfold cy;rw[bf ⋯ ⋯]
 simp[av h]
theorem ZlE{rs:List Int}(h:k<rs.length):cn rs k=rs[k]:=by
 unfold cn;rw[bf ⋯ ⋯]
 simp[av h]
theorem Zta:eqF (n+1) M (.int a) (.int b)=some (decide (a=b)):=rfl
theorem Zv5:eqF (n+1) M (.bl a) (.bl b)=some (a==b):=rfl
theorem ZuG:eqF (n+2) M (pr a b) (pr c d)=some (decide ((a,b)=(c,d))):=by
 show some ((a==c)&&((b==d)&&true))=_;congr 1;rw[Bool.eq_iff_iff];simp
theorem Zqe:eqL (eqF (n+2) M) (prs rs) (prs ss)=some (decide (rs=ss)):=by
 induction rs generalizing ss with
 |nil=>cases ss<;>rfl
 |cons r rs ih=>
  cases ss with
  |nil=>rfl
  |cons s ss=>
   show(match eqF (n+2) M (pr r.1 r.2) (pr s.1 s.2)with|some a=>(match eqL _ (prs rs) (prs ss)with|some b=>some (a&&b)|none=>none)|none=>none)=_
   rw[ZuG,ih];simp only[];congr 1;rw[Bool.eq_iff_iff];obtain⟨r1,r2⟩:=r;obtain⟨s1,s2⟩:=s;simp
theorem Zny(h1:M[n]?=some (.lst xs))(h2:M[m]?=some (.lst ys)):eqF (k+1) M (.ref n) (.ref m)=if xs.length=ys.length then eqL (eqF k M) xs ys else some false:=by
 show(match kd M (.ref n),kd M (.ref m)with|some a,some b=>eqK (eqF k M) a b|_,_=>none)=_
 have e1:kd M (.ref n)=some (.lst xs):=by show(match M[n]? with|some (.lst xs)=>some (Kd.lst xs)|_=>none)=_;rw[h1]
 have e2:kd M (.ref m)=some (.lst ys):=by show(match M[m]? with|some (.lst xs)=>some (Kd.lst xs)|_=>none)=_;rw[h2]
 rw[e1,e2];rfl
theorem Zqf:Za5 M (.int i)=some "int":=rfl
theorem Ztb:Za5 M (.bl b)=some "bool":=rfl
theorem Zqg:Za5 M (.tup xs)=some "tuple":=rfl
theorem Zqh:Za5 M .non=some "NoneType":=rfl
end
end DL
namespace DL
open PyProof.Rows L2
section
variable {ρ:Ro}{xs:List D}
theorem Zv6:wO (iR1 fs ρ M) QS E=wO (fs ρ M) (λds M1=>w1 ds λd=>wI d λj=>(-(2^62)<=j/\j<2^62)/\QS (.pur (Zah 0 j.toNat)) M1) E:=by
 unfold iR1;rw[ZA];congr 1;funext ds M1;rcases ds with _|⟨v,_|⟨w,r⟩⟩
 .rfl
 .cases v<;>try rfl
  rename_i j;by_cases h: -(2^62)<=j/\j<2^62
  .simp only[w1,wI,eq_true h,true_and,if_true,Zp]
  .simp only[w1,wI,eq_false h,false_and,if_false];rfl
 .cases v<;>rfl
theorem Zv7:wO (iR2 fs ρ M) QS E=wO (fs ρ M) (λds M1=>w2 ds λx y=>wI x λi=>wI y λj=>(-(2^62)<=i/\i<2^62/\ -(2^62)<=j/\j<2^62)/\QS (.pur (Zah i (j-i).toNat)) M1) E:=by
 unfold iR2;rw[ZA];congr 1;funext ds M1;rcases ds with _|⟨v,_|⟨w,_|⟨w',r⟩⟩⟩
 .rfl
 .cases v<;>rfl
 .cases v<;>try rfl
  cases w<;>try rfl
  rename_i i j;by_cases h: -(2^62)<=i/\i<2^62/\ -(2^62)<=j/\j<2^62
  .simp only[w2,wI,eq_true h,true_and,if_true,Zp]
  .simp only[w2,wI,eq_false h,false_and,if_false];rfl
 .cases v<;>cases w<;>rfl
theorem Zv8:wO (iEn fs ρ M) QS E=wO (fs ρ M) (λds M1=>w1 ds λd=>wR d λn=>QS (.enu n) M1) E:=by
 unfold iEn;rw[ZA];congr 1;funext ds M1;rcases ds with _|⟨v,_|⟨w,r⟩⟩<;>try rfl
 .cases v<;>rfl
 .cases v<;>rfl
theorem Zv9:wO (iZp fs ρ M) QS E=wO (fs ρ M) (λds M1=>w2 ds λx y=>wR x λn=>wR y λm=>QS (.zip n m) M1) E:=by
 unfold iZp;rw[ZA];congr 1;funext ds M1;rcases ds with _|⟨v,_|⟨w,_|⟨w',r⟩⟩⟩<;>try rfl
 .cases v<;>rfl
 .cases v<;>cases w<;>rfl
 .cases v<;>cases w<;>rfl
noncomputable def ZrV(Q:W0)(ρ:Ro)(M:Sto):Prop:=Q .non M
theorem wF1:wO (fnF bd 1 k [x] M) Q E=wS (bd (some x::aB k none) M) (ZrV Q) Q (λ_ _=>False) (λ_ _=>False) E:=wF rfl
theorem wF2:wO (fnF bd 2 k [x,y] M) Q E=wS (bd (some x::some y::aB k none) M) (ZrV Q) Q (λ_ _=>False) (λ_ _=>False) E:=wF rfl
theorem wF3:wO (fnF bd 3 k [x,y,z] M) Q E=wS (bd (some x::some y::some z::aB k none) M) (ZrV Q) Q (λ_ _=>False) (λ_ _=>False) E:=wF rfl
theorem Zgd:prs a++[pr b c]=prs (a++[(b,c)]):=by simp[prs]
theorem ZkQ:nts a++[D.int b]=nts (a++[b]):=by simp[nts]
theorem ZkR:D.int b::nts r=nts (b::r):=rfl
theorem Ztc:isP .non .non=some true:=rfl
theorem Ztd:isP (.int i) .non=some false:=rfl
theorem Zte:isP (.tup xs) .non=some false:=rfl
theorem Ztf:isP (.ref n) .non=some false:=rfl
theorem Zfk(h:M[n]?=some (.lst xs)):cnt (.sto n) M=xs.length:=by show(match M[n]? with|some (.lst xs)=>xs.length|none=>0)=_;rw[h]
theorem Znz(h:M[n]?=some (.lst xs)):cnt (.enu n) M=xs.length:=by show(match M[n]? with|some (.lst xs)=>xs.length|none=>0)=_;rw[h]
theorem Zfl(h:M[n]?=some (.lst xs)):cnt (.zip n m) M=xs.length:=by show(match M[n]? with|some (.lst xs)=>xs.length|none=>0)=_;rw[h]
theorem at2{r:List D}:atI (x::y::z::r) 2=some z:=by
 show(ixN (r.length+3) 2).bind _=_;unfold ixN;rw[if_pos (by decide),if_pos ⋯]
 rfl
theorem Zqi:Zcs "int" "int"=true:=rfl
theorem Zqj:Zcs "int" "bool"=false:=rfl
theorem Zqk:Zcs "bool" "int"=true:=rfl
theorem Zql:Zcs "bool" "bool"=true:=rfl
theorem Zqm:Zcs "tuple" "tuple"=true:=rfl
theorem Zqn:Zcs "list" "list"=true:=rfl
theorem Zqo:Zcs "tuple" "int"=false:=rfl
theorem Zqp:Zcs "tuple" "list"=false:=rfl
theorem Zqq:Zcs "list" "tuple"=false:=rfl
theorem Zqr:Zcs "list" "int"=false:=rfl
theorem Zqs:Zcs "NoneType" "tuple"=false:=rfl
theorem Zqt:Zcs "NoneType" "list"=false:=rfl
theorem Zqu(h:M[n]?=some (.lst xs)):nxt (.enu n) k M=some ((xs[k]?).map λd=>D.tup [.int k,d]):=by
 show(match M[n]? with|some (.lst xs)=>(match xs[k]? with|some x=>some (some (D.tup [.int k,x]))|none=>some none)|none=>none)=_
 rw[h];simp only[];cases xs[k]?<;>rfl
theorem Zge(h:M[n]?=some (.lst xs)):nxt (.sto n) k M=some xs[k]?:=by
 show(match M[n]? with|some (.lst xs)=>some xs[k]?|none=>none)=_
 rw[h]
theorem Zqv(I:Nat->Ro->Sto->Prop)(hM:M[n]?=some (.lst xs))(h0:I 0 ρ M)(hm:∀i ρ M,I i ρ M->M[n]?=some (.lst xs))(st:∀(i:Nat) ρ M (h:i<xs.length),I i ρ M->wG (tg (.tup [.int i,xs[i]]) ρ) λr=>wS (bd r M) (I (i+1)) R N (I (i+1)) E)(hn:∀ρ M,I xs.length ρ M->N ρ M):wS (Zen tg bd (.enu n) (cnt (.enu n) M) 0 ρ M) N R B C E:=by
 rw[Znz hM];have hl:(xs.mapIdx λ(k:Nat) d=>D.tup [.int k,d]).length=xs.length:=by simp
 refine Zgb I (xs:=xs.mapIdx λ(k:Nat) d=>D.tup [.int k,d]) _ 0 ρ M (by simp) (by simp) h0 (λi ρ M _ hI=>?_) (λi ρ M h hI=>?_) (λρ M hI=>hn ρ M (by rw[hl]at hI;exact hI))
 .rw[Zqu (hm _ _ _ hI),List.getElem?_mapIdx]
 .rw[List.getElem_mapIdx];exact st i ρ M (by rw[hl]at h;exact h) hI
theorem ZiX(h:M[n]?=some (.lst xs))(h':M[m]?=some (.lst ys)):nxt (.zip n m) k M=some ((bT (λa b=>D.tup [a,b]) xs ys)[k]?):=by
 show(match M[n]?,M[m]? with|some (.lst xs),some (.lst ys)=>(match xs[k]?,ys[k]? with|some x,some y=>some (some (D.tup [x,y]))|_,_=>some none)|_,_=>none)=_
 rw[h,h',ke];simp only[];cases xs[k]?<;>cases ys[k]?<;>rfl
theorem ZlF(I:Nat->Ro->Sto->Prop)(hM:M[n]?=some (.lst xs))(hl:xs.length<=ys.length)(h0:I 0 ρ M)(hm:∀i ρ M,I i ρ M->M[n]?=some (.lst xs)/\M[m]?=some (.lst ys))(st:∀(i:Nat) ρ M (h:i<xs.length),I i ρ M->wG (tg (.tup [xs[i],ys[i]]) ρ) λr=>wS (bd r M) (I (i+1)) R N (I (i+1)) E)(hn:∀ρ M,I xs.length ρ M->N ρ M):wS (Zen tg bd (.zip n m) (cnt (.zip n m) M) 0 ρ M) N R B C E:=by
 rw[Zfl hM];have hz:(bT (λa b=>D.tup [a,b]) xs ys).length=xs.length:=by simp;lia
 refine Zgb I (xs:=bT (λa b=>D.tup [a,b]) xs ys) _ 0 ρ M (by simp) (by simp;lia) h0 (λi ρ M _ hI=>?_) (λi ρ M h hI=>?_) (λρ M hI=>hn ρ M (by rw[hz]at hI;exact hI))
 .rw[ZiX (hm _ _ _ hI).1 (hm _ _ _ hI).2]
 .rw[ig];exact st i ρ M (by rw[hz]at h;exact h) hI
theorem ZnA(Inv:Ro->Prop)(F:Nat->D){Q:Sto->Prop}(hl:xs.length<10000000)(hcnt:xs.length<=cnt src M)(h0:Inv ρ)(hs:∀(L:Sto)(i:Nat),i<=xs.length->nxt src i (M++L)=some xs[i]?)(st:∀(i:Nat)(h:i<xs.length)(ρ:Ro)(L:Sto),Inv ρ->wG (tg xs[i] ρ) λr=>Inv r/\wO (f r (M++L)) (λy M2=>y=F i/\M2=M++L) (λ_ _=>False))(hq:Q (M++[.lst ((aC xs.length).map F)])):wO (ZfX src tg (λ_ M=>.ok true M) f M.length (cnt src M) 0 ρ (M++[.lst []])) (λ_ M2=>Q M2) (λ_ _=>False):=by
 refine Zgc (λi ρ M'=>Inv ρ/\M'=M++[.lst ((aC i).map F)]) (xs:=xs) _ 0 ρ _ (by simp) ⋯ ⟨h0,rfl⟩ (λi ρ M' hi hI=>by rw[hI.2];exact hs _ i hi) (λi ρ M' h hI=>?_) (λρ M' hI=>by rw[hI.2];exact hq)
 obtain⟨hI,rfl⟩:=hI;have s:=st i h ρ [.lst ((aC i).map F)] hI;cases e:tg xs[i] ρ with
 |none=>rw[e]at s;exact s.elim
 |some r=>
  rw[e]at s;obtain⟨hr,s⟩:=s;show Br true _ _;rw[Zok];refine Zb0 s (λy M2 ⟨h1,h2⟩=>?_) (λ_ _ z=>z);subst h1 h2;rw[Znw];refine⟨by simp;lia,hr,?_⟩
  rw[ZlC,cE,cw];rfl
theorem ZnB:(aC n).map (λi=>D.int (F i))=nts ((aC n).map F):=by simp[nts]
end
end DL
namespace DL
open PyProof.Rows L2
section
variable {E:W2}{N B C:W1}{R:W0}{ρ:Ro}{M:Sto}{xs:List D}{a bd:Sv}
def kU{β:Type}(u:β->Sto->Out γ)(Q:γ->Sto->Prop)(E:W2)(x:β)(M:Sto):Prop:=wO (u x M) Q E
noncomputable def kQ{β γ:Type}(Q:γ->Sto->Prop)(c:β->γ)(M:Sto)(x:β):Prop:=Q (c x) M
def kB2(op:Bo)(x:D)(Q:W0)(E:W2)(y:D)(M:Sto):Prop:=wO (op x y M) Q E
def kB1(op:Bo)(g:Ev)(ρ:Ro)(Q:W0)(E:W2)(x:D)(M:Sto):Prop:=wO (g ρ M) (kB2 op x Q E) E
theorem Zwa:wO (e2 op f g ρ M) Q E=wO (f ρ M) (kB1 op g ρ Q E) E:=ZsR
theorem y_c:wO (eC d ρ M) Q E=Q d M:=rfl
theorem y_v:wO (Zg k ρ M) Q E=wV ρ[k]? (kQ Q id M):=ZvV
theorem Zqw:wO (Zj F fs ρ M) Q E=wO (fs ρ M) (kU F Q E) E:=Znl
noncomputable def kA2(x:D)(Q:List D->Sto->Prop)(xs:List D)(M:Sto):Prop:=Q (x::xs) M
def kA1(fs:Av)(ρ:Ro)(Q:List D->Sto->Prop)(E:W2)(x:D)(M:Sto):Prop:=wO (fs ρ M) (kA2 x Q) E
theorem Ztg:wO (aNil ρ M) QL E=QL [] M:=rfl
theorem Zqx:wO (Zc f fs ρ M) QL E=wO (f ρ M) (kA1 fs ρ QL E) E:=Znm
noncomputable def kTu(Q:W0)(xs:List D)(M:Sto):Prop:=xs.length<=1000/\Q (.tup xs) M
noncomputable def kLs(Q:W0)(xs:List D)(M:Sto):Prop:=xs.length<=1000/\Q (.ref M.length) (M++[.lst xs])
theorem Zth:wO (Zal fs ρ M) Q E=wO (fs ρ M) (kTu Q) E:=ZpT
theorem Zti:wO (ZbI fs ρ M) Q E=wO (fs ρ M) (kLs Q) E:=ZpU
noncomputable def ZuH(x:D)(M:Sto):Out D:=match x with|.int i=>.ok (.int (-i)) M|_=>.bad
theorem Ztj:wO (Ze4 f ρ M) Q E=wO (f ρ M) (kU ZuH Q E) E:=by unfold Ze4;exact ZA
theorem Zqy:wO (ZuH (.int i) M) Q E=Q (.int (-i)) M:=rfl
def Ztk(T:String)(x:D)(M:Sto):Out D:=match Za5 M x with|some t=>.ok (.bl (Zcs t T)) M|none=>.bad
theorem Ztl:wO (Zod T f ρ M) Q E=wO (f ρ M) (kU (Ztk T) Q E) E:=by unfold Zod;exact ZA
def kTy(T:String)(Q:W0)(M:Sto)(t:String):Prop:=Q (.bl (Zcs t T)) M
theorem Zqz:wO (Ztk T x M) Q E=wG (Za5 M x) (kTy T Q M):=by unfold Ztk;cases Za5 M x<;>rfl
noncomputable def tC(b:Bool):Tv:=λ_ M=>.ok b M
def BrO(k:Bool)(f g:Ro->Sto->Out β)(ρ:Ro)(M:Sto)(Q:β->Sto->Prop)(E:W2):Prop:=wO ((if k=true then f else g) ρ M) Q E
theorem Zwb{fO gO:Ro->Sto->Out β}{QO:β->Sto->Prop}:BrO true fO gO ρ M QO E=wO (fO ρ M) QO E:=rfl
theorem Zwc{fO gO:Ro->Sto->Out β}{QO:β->Sto->Prop}:BrO false fO gO ρ M QO E=wO (gO ρ M) QO E:=rfl
theorem brO{β:Type}{fO gO:Ro->Sto->Out β}{QO:β->Sto->Prop}{p:Prop}[Decidable p](h1:p->wO (fO ρ M) QO E)(h2:¬p->wO (gO ρ M) QO E):BrO (decide p) fO gO ρ M QO E:=by
 by_cases h:p
 .rw[decide_eq_true h];exact h1 h
 .rw[decide_eq_false h];exact h2 h
theorem ZuI{fO gO:Ro->Sto->Out β}{QO:β->Sto->Prop}(P:β->Sto->Prop)(h:BrO b fO gO ρ M P E)(hn:∀x M,P x M->QO x M):BrO b fO gO ρ M QO E:=by
 cases b
 .exact Zb0 h hn (λ_ _ z=>z)
 .exact Zb0 h hn (λ_ _ z=>z)
def kIf(f g:Ev)(ρ:Ro)(Q:W0)(E:W2)(k:Bool)(M:Sto):Prop:=BrO k f g ρ M Q E
theorem Zwd:wO (eIf t f g ρ M) Q E=wO (t ρ M) (kIf f g ρ Q E) E:=by unfold eIf;rw[ZA];congr 1;funext k M1;cases k<;>rfl
def ZuJ(g:Ev)(ρ:Ro)(x:D)(M:Sto):Out D:=match x with|.bl k=>if k=true then g ρ M else .ok (.bl false) M|_=>.bad
def ZuK(x:D)(M:Sto):Out D:=match x with|.bl k=>.ok (.bl (!k)) M|_=>.bad
def oTv(x:D)(M:Sto):Out Bool:=match x with|.bl k=>.ok k M|_=>.bad
theorem Ztm:wO (ZhB f g ρ M) Q E=wO (f ρ M) (kU (ZuJ g ρ) Q E) E:=by unfold ZhB;exact ZA
theorem Ztn:wO (ZhC f ρ M) Q E=wO (f ρ M) (kU ZuK Q E) E:=by unfold ZhC;exact ZA
theorem ZqA:wO (ZuJ g ρ (.bl b) M) Q E=BrO b g (eC (.bl false)) ρ M Q E:=by cases b<;>rfl
theorem ZqB:wO (ZuK (.bl b) M) Q E=Q (.bl (!b)) M:=rfl
theorem Zwe:wO (tv f ρ M) QB E=wO (f ρ M) (kU oTv QB E) E:=by unfold tv;exact ZA
theorem Zto:wO (oTv (.bl b) M) QB E=QB b M:=rfl
def kTA(u:Tv)(ρ:Ro)(Q:Bool->Sto->Prop)(E:W2)(k:Bool)(M:Sto):Prop:=BrO k u (tC false) ρ M Q E
def kTO(u:Tv)(ρ:Ro)(Q:Bool->Sto->Prop)(E:W2)(k:Bool)(M:Sto):Prop:=BrO k (tC true) u ρ M Q E
noncomputable def kTN(Q:Bool->Sto->Prop)(k:Bool)(M:Sto):Prop:=Q (!k) M
theorem Zwf:wO (tC b ρ M) QB E=QB b M:=rfl
theorem ZqC:wO (ZbY t u ρ M) QB E=wO (t ρ M) (kTA u ρ QB E) E:=by unfold ZbY;rw[ZA];congr 1;funext k M1;cases k<;>rfl
theorem Ztp:wO (Zmu t u ρ M) QB E=wO (t ρ M) (kTO u ρ QB E) E:=by unfold Zmu;rw[ZA];congr 1;funext k M1;cases k<;>rfl
theorem ZqD:wO (Ze2 t ρ M) QB E=wO (t ρ M) (kTN QB) E:=ZpV
def kSq(b:Sv)(N:W1)(R:W0)(B C:W1)(E:W2)(ρ:Ro)(M:Sto):Prop:=wS (b ρ M) N R B C E
theorem Ztq:wS (Zy a bd ρ M) N R B C E=wS (a ρ M) (kSq bd N R B C E) R B C E:=ZpW
theorem ZqE:wS (sNil ρ M) N R B C E=N ρ M:=rfl
theorem Ztr:wS (Zae f ρ M) N R B C E=wO (f ρ M) R E:=ZpX
theorem ZqF:wS (Zpj ρ M) N R B C E=R .non M:=rfl
noncomputable def kDr(ρ:Ro)(N:W1)(d:D)(M:Sto):Prop:=N ρ M
theorem ZqG:wS (Za7 f ρ M) N R B C E=wO (f ρ M) (kDr ρ N) E:=Znn
def BrS(k:Bool)(a b:Sv)(ρ:Ro)(M:Sto)(N:W1)(R:W0)(B C:W1)(E:W2):Prop:=wS ((if k=true then a else b) ρ M) N R B C E
theorem Zwg:BrS true a bd ρ M N R B C E=wS (a ρ M) N R B C E:=rfl
theorem Zwh:BrS false a bd ρ M N R B C E=wS (bd ρ M) N R B C E:=rfl
theorem brS{p:Prop}[Decidable p](h1:p->wS (a ρ M) N R B C E)(h2:¬p->wS (bd ρ M) N R B C E):BrS (decide p) a bd ρ M N R B C E:=by
 by_cases h:p
 .rw[decide_eq_true h];exact h1 h
 .rw[decide_eq_false h];exact h2 h
theorem Zts(h1:b=true->wS (a ρ M) N R B C E)(h2:b=false->wS (bd ρ M) N R B C E):BrS b a bd ρ M N R B C E:=by
 cases b
 .exact h2 rfl
 .exact h1 rfl
theorem ZuL(P:W1)(h:BrS b a bd ρ M P R B C E)(hn:∀ρ M,P ρ M->N ρ M):BrS b a bd ρ M N R B C E:=by
 cases b
 .exact ZiT h hn (λ_ _ z=>z) (λ_ _ z=>z) (λ_ _ z=>z) (λ_ _ z=>z)
 .exact ZiT h hn (λ_ _ z=>z) (λ_ _ z=>z) (λ_ _ z=>z) (λ_ _ z=>z)
def kSi(a b:Sv)(ρ:Ro)(N:W1)(R:W0)(B C:W1)(E:W2)(k:Bool)(M:Sto):Prop:=BrS k a b ρ M N R B C E
theorem Ztt:wS (sIf t a bd ρ M) N R B C E=wO (t ρ M) (kSi a bd ρ N R B C E) E:=by unfold sIf;rw[ZW];congr 1;funext k M1;cases k<;>rfl
noncomputable def kAs(i:Nat)(ρ:Ro)(N:W1)(d:D)(M:Sto):Prop:=N (ρ.set i (some d)) M
theorem Ztu:wS (ZF (gNm k) f ρ M) N R B C E=wO (f ρ M) (kAs k ρ N) E:=ZpY
def kAt(gs:Tgs)(ρ:Ro)(N:W1)(d:D)(M:Sto):Prop:=wG (gTp gs d ρ) (kQ N id M)
theorem ZqH:wS (ZF (gTp gs) f ρ M) N R B C E=wO (f ρ M) (kAt gs ρ N) E:=Zno
noncomputable def ZuM(i j:Nat)(ρ:Ro)(N:W1)(M:Sto)(v w:D):Prop:=N ((ρ.set i (some v)).set j (some w)) M
def kPa(i j:Nat)(ρ:Ro)(N:W1)(ds:List D)(M:Sto):Prop:=w2 ds (ZuM i j ρ N M)
theorem Ztv:wS (ZgP k m fs ρ M) N R B C E=wO (fs ρ M) (kPa k m ρ N) E:=ZpZ
noncomputable def ZuN(n:Nat)(d:D)(xs:List D)(ρ:Ro)(N:W1)(M:Sto)(j:Nat):Prop:=N ρ (M.set n (.lst (xs.set j d)))
def ZuO(n:Nat)(k:Int)(d:D)(ρ:Ro)(N:W1)(M:Sto)(xs:List D):Prop:=wG (ixN xs.length k) (ZuN n d xs ρ N M)
def ZuP(n:Nat)(d:D)(ρ:Ro)(N:W1)(M:Sto)(k:Int):Prop:=wL M[n]? (ZuO n k d ρ N M)
def ZuQ(i:D)(d:D)(ρ:Ro)(N:W1)(M:Sto)(n:Nat):Prop:=wI i (ZuP n d ρ N M)
def ZuR(o:D)(d:D)(ρ:Ro)(N:W1)(i:D)(M:Sto):Prop:=wR o (ZuQ i d ρ N M)
def ZuS(fi:Ev)(d:D)(ρ:Ro)(N:W1)(E:W2)(o:D)(M:Sto):Prop:=wO (fi ρ M) (ZuR o d ρ N) E
def kPu(fo fi:Ev)(ρ:Ro)(N:W1)(E:W2)(d:D)(M:Sto):Prop:=wO (fo ρ M) (ZuS fi d ρ N E) E
theorem Ztw:wS (Zkd fo fi f ρ M) N R B C E=wO (f ρ M) (kPu fo fi ρ N E) E:=Zp0
def ZuT(tg:Tg)(bd:Sv)(ρ:Ro)(N:W1)(R:W0)(B C:W1)(E:W2)(M:Sto)(j:Int):Prop:=(-(2^62)<=j/\j<2^62)/\wS (Zbr tg bd (Zah 0 j.toNat) ρ M) N R B C E
def ZuU(tg:Tg)(bd:Sv)(ρ:Ro)(N:W1)(R:W0)(B C:W1)(E:W2)(M:Sto)(d:D):Prop:=wI d (ZuT tg bd ρ N R B C E M)
def kR1(tg:Tg)(bd:Sv)(ρ:Ro)(N:W1)(R:W0)(B C:W1)(E:W2)(ds:List D)(M:Sto):Prop:=w1 ds (ZuU tg bd ρ N R B C E M)
theorem ZqI:wS (ZaE tg fs bd ρ M) N R B C E=wO (fs ρ M) (kR1 tg bd ρ N R B C E) E:=Znp
def kFo(tg:Tg)(bd:Sv)(ρ:Ro)(N:W1)(R:W0)(B C:W1)(E:W2)(d:D)(M:Sto):Prop:=wS (Zke tg bd d ρ M) N R B C E
theorem Ztx:wS (Zg5 tg f bd ρ M) N R B C E=wO (f ρ M) (kFo tg bd ρ N R B C E) E:=Zp1
theorem ZqJ:wS (Zke tg bd (.tup xs) ρ M) N R B C E=wS (Zbr tg bd xs ρ M) N R B C E:=rfl
theorem ZqK:wS (Zke tg bd (.rol xs) ρ M) N R B C E=wS (Zbr tg bd xs ρ M) N R B C E:=rfl
def kFs(tg:Tg)(bd:Sv)(ρ:Ro)(N:W1)(R:W0)(B C:W1)(E:W2)(src:Src)(M:Sto):Prop:=wS (Zen tg bd src (cnt src M) 0 ρ M) N R B C E
theorem ZqL:wS (Zeo tg fi bd ρ M) N R B C E=wO (fi ρ M) (kFs tg bd ρ N R B C E) E:=Znr
noncomputable def Zwi(Q:W0)(M1:Sto)(u:Unit)(M:Sto):Prop:=Q (.ref M1.length) M
def kCo(tg:Tg)(c:Tv)(f:Ev)(k:Nat)(fr:List Nat)(ρ:Ro)(Q:W0)(src:Src)(M:Sto):Prop:=wO (ZfX src tg c f M.length (cnt src M) 0 (roB k fr ρ) (M++[.lst []])) (Zwi Q M) (λ_ _=>False)
theorem ZqM:wO (Zam fi k fr tg t f ρ M) Q E=wO (fi ρ M) (kCo tg t f k fr ρ Q) E:=Zns
def ZuV(QS:Src->Sto->Prop)(M:Sto)(j:Int):Prop:=(-(2^62)<=j/\j<2^62)/\QS (.pur (Zah 0 j.toNat)) M
def ZuW(QS:Src->Sto->Prop)(M:Sto)(d:D):Prop:=wI d (ZuV QS M)
def kS1(QS:Src->Sto->Prop)(ds:List D)(M:Sto):Prop:=w1 ds (ZuW QS M)
theorem Zwj:wO (iR1 fs ρ M) QS E=wO (fs ρ M) (kS1 QS) E:=Zv6
def ZuX(QS:Src->Sto->Prop)(M:Sto)(i:Int)(j:Int):Prop:=(-(2^62)<=i/\i<2^62/\ -(2^62)<=j/\j<2^62)/\QS (.pur (Zah i (j-i).toNat)) M
def ZuY(QS:Src->Sto->Prop)(M:Sto)(y:D)(i:Int):Prop:=wI y (ZuX QS M i)
def ZuZ(QS:Src->Sto->Prop)(M:Sto)(x y:D):Prop:=wI x (ZuY QS M y)
def kS2(QS:Src->Sto->Prop)(ds:List D)(M:Sto):Prop:=w2 ds (ZuZ QS M)
theorem Zwk:wO (iR2 fs ρ M) QS E=wO (fs ρ M) (kS2 QS) E:=Zv7
noncomputable def oSq(d:D)(M:Sto):Out Src:=match d with|.tup ds=>.ok (.pur ds) M|.rol ds=>.ok (.pur ds) M|.ref n=>.ok (.sto n) M|_=>.bad
theorem Zwl:wO (iSq f ρ M) QS E=wO (f ρ M) (kU oSq QS E) E:=by unfold iSq;exact ZA
theorem Zty:wO (oSq (.tup xs) M) QS E=QS (.pur xs) M:=rfl
theorem Ztz:wO (oSq (.rol xs) M) QS E=QS (.pur xs) M:=rfl
theorem ZtA:wO (oSq (.ref n) M) QS E=QS (.sto n) M:=rfl
def Zu0(QS:Src->Sto->Prop)(M:Sto)(d:D):Prop:=wR d (kQ QS .enu M)
def kEn(QS:Src->Sto->Prop)(ds:List D)(M:Sto):Prop:=w1 ds (Zu0 QS M)
theorem Zwm:wO (iEn fs ρ M) QS E=wO (fs ρ M) (kEn QS) E:=Zv8
def Zu1(QS:Src->Sto->Prop)(M:Sto)(y:D)(n:Nat):Prop:=wR y (kQ QS (.zip n) M)
def Zu2(QS:Src->Sto->Prop)(M:Sto)(x y:D):Prop:=wR x (Zu1 QS M y)
def kZp(QS:Src->Sto->Prop)(ds:List D)(M:Sto):Prop:=w2 ds (Zu2 QS M)
theorem Zwn:wO (iZp fs ρ M) QS E=wO (fs ρ M) (kZp QS) E:=Zv9
noncomputable def ZqN(xs:List D)(M:Sto)(Q:W0)(ys:List D):Prop:=xs.length+ys.length<=10000000/\Q (.ref M.length) (M++[.lst (xs++ys)])
def Zu3(m:Nat)(M:Sto)(Q:W0)(xs:List D):Prop:=wL M[m]? (ZqN xs M Q)
theorem ZtB:wO (dAdd (.ref n) (.ref m) M) Q E=wL M[n]? (Zu3 m M Q):=ZsY
def kEq(Q:W0)(M:Sto)(b:Bool):Prop:=Q (.bl b) M
def kNe(Q:W0)(M:Sto)(b:Bool):Prop:=Q (.bl (!b)) M
theorem Zwo:wO (dEq x y M) Q E=wG (eqF 12 M x y) (kEq Q M):=Zv0
theorem Zwp:wO (dNe x y M) Q E=wG (eqF 12 M x y) (kNe Q M):=Zv1
theorem Zwq:wO (dIs x y M) Q E=wG (isP x y) (kEq Q M):=Zv2
theorem ZtC:wO (dIsNot x y M) Q E=wG (isP x y) (kNe Q M):=ZsZ
theorem ZkS:wO (dNotInE x y M) Q E=wG (inE x y M) (kNe Q M):=by unfold dNotInE;cases inE x y M<;>rfl
theorem ZtD:wO (dIx (.tup xs) (.int i) M) Q E=wG (atI xs i) (kQ Q id M):=Zs0
theorem ZtE:wO (dIx (.rol xs) (.int i) M) Q E=wG (atI xs i) (kQ Q id M):=Zs1
def kIx(i:Int)(Q:W0)(M:Sto)(xs:List D):Prop:=wG (atI xs i) (kQ Q id M)
theorem ZtF:wO (dIx (.ref n) (.int i) M) Q E=wL M[n]? (kIx i Q M):=Zs2
noncomputable def Zu4(Q:W0)(M:Sto)(xs:List D):Prop:=Q (.int xs.length) M
theorem ZqO:wO (bLen [.ref n] M) Q E=wL M[n]? (Zu4 Q M):=Zp3
noncomputable def kLi(Q:W0)(M:Sto)(xs:List D):Prop:=Q (.ref M.length) (M++[.lst xs])
theorem ZnC:wO (bList [.ref n] M) Q E=wL M[n]? (kLi Q M):=Znu
def ZrW(g:List Int->Option Int)(Q:W0)(M:Sto)(ns:List Int):Prop:=wG (g ns) (kQ Q .int M)
def ZrX(g:List Int->Option Int)(Q:W0)(M:Sto)(xs:List D):Prop:=wG (ZaC xs) (ZrW g Q M)
theorem ZqP:wO (Zdb gi [.ref n] M) Q E=wL M[n]? (ZrX gi Q M):=Zp8
def kMt(g:Me)(fs:Av)(ρ:Ro)(Q:W0)(E:W2)(x:D)(M:Sto):Prop:=ZmI x M=true/\wO (fs ρ M) (kU (g x) Q E) E
theorem Zwr:wO (ZeS me fo fs ρ M) Q E=wO (fo ρ M) (kMt me fs ρ Q E) E:=Zv4
noncomputable def Zu5(n:Nat)(d:D)(Q:W0)(M:Sto)(xs:List D):Prop:=xs.length<10000000/\Q .non (M.set n (.lst (xs++[d])))
theorem ZtG:wO (mApp (.ref n) [d] M) Q E=wL M[n]? (Zu5 n d Q M):=Zs6
def Zu6(l u:Option Int)(Q:W0)(M:Sto)(xs:List D):Prop:=Q (.ref M.length) (M++[.lst (Ze8 xs l u)])
def Zu7(x:D)(l:Option Int)(Q:W0)(E:W2)(u:Option Int)(M:Sto):Prop:=wO (slR x l u M) Q E
def Zu8(x:D)(hi:Ro->Sto->Out (Option Int))(ρ:Ro)(Q:W0)(E:W2)(l:Option Int)(M:Sto):Prop:=wO (hi ρ M) (Zu7 x l Q E) E
def Zu9(lo hi:Ro->Sto->Out (Option Int))(ρ:Ro)(Q:W0)(E:W2)(x:D)(M:Sto):Prop:=wO (lo ρ M) (Zu8 x hi ρ Q E) E
theorem Zws{lo:Ro->Sto->Out (Option Int)}:wO (eSl f lo hi ρ M) Q E=wO (f ρ M) (Zu9 lo hi ρ Q E) E:=Zs7
theorem ZtH:wO (slR (.ref n) l u' M) Q E=wL M[n]? (Zu6 l u' Q M):=Zs8
theorem ZtI:wO (oNo ρ M) QI E=QI none M:=rfl
def Zva(Q:Option Int->Sto->Prop)(x:D)(M:Sto):Prop:=wI x (kQ Q some M)
theorem ZtJ:wO (oSo f ρ M) QI E=wO (f ρ M) (Zva QI) E:=Zs9
def kWh(bd:Sv)(ρ:Ro)(I:W1)(N:W1)(R:W0)(B C:W1)(E:W2)(k:Bool)(M:Sto):Prop:=Br k (wS (bd ρ M) I R N I E) (N ρ M)
theorem ZtK(I:Nat->Ro->Sto->Prop)(st:∀n ρ M,I n ρ M->wO (c ρ M) (kWh bd ρ (λρ2 M2=>∃m,m<n/\I m ρ2 M2) N R B C E) E)(n:Nat)(ρ:Ro)(M:Sto)(h:I n ρ M):wS (sWh c bd ρ M) N R B C E:=ZkN I st n ρ M h
theorem ZtL{I:W1}{p:Prop}[Decidable p](h1:p->wS (bd ρ M) I R N I E)(h2:¬p->N ρ M):kWh bd ρ I N R B C E (decide p) M:=brD h1 h2
theorem ZcO(h:k<n):ixN n (k:Int)=some k:=by
 unfold ixN;rw[if_pos ⋯,if_pos ⋯]
 simp
theorem ZrY(Inv:Ro->Prop)(F:Nat->D)(hl:xs.length<10000000)(hcnt:xs.length<=cnt src M)(h0:Inv (roB k fr ρ))(hs:∀(L:Sto)(i:Nat),i<=xs.length->nxt src i (M++L)=some xs[i]?)(st:∀(i:Nat)(h:i<xs.length)(ρ:Ro)(L:Sto),Inv ρ->wG (tg xs[i] ρ) λr=>Inv r/\wO (f r (M++L)) (λy M2=>y=F i/\M2=M++L) (λ_ _=>False))(hq:Q (.ref M.length) (M++[.lst ((aC xs.length).map F)])):kCo tg (λ_ M=>.ok true M) f k fr ρ Q src M:=ZnA (Q:=λM2=>Q (.ref M.length) M2) Inv F hl hcnt h0 hs st hq
theorem ZkT(Inv:Ro->Prop)(F:Nat->D)(hM:M[n]?=some (.lst xs))(hl:xs.length<10000000)(h0:Inv (roB k fr ρ))(st:∀(i:Nat)(h:i<xs.length)(ρ:Ro)(L:Sto),Inv ρ->wG (tg xs[i] ρ) λr=>Inv r/\wO (f r (M++L)) (λy M2=>y=F i/\M2=M++L) (λ_ _=>False))(hq:Q (.ref M.length) (M++[.lst ((aC xs.length).map F)])):kCo tg (λ_ M=>.ok true M) f k fr ρ Q (.sto n) M:=
 ZrY (xs:=xs) Inv F hl (by rw[Zfk hM];exact ae _) h0 (λL i hi=>by rw[Zge];rw[ac (Zo hM)];exact hM) st hq
end
end DL
namespace DL
open L2
end DL
namespace DL
open L2
noncomputable def Zvb(i j:Nat)(ρ:Ro)(N:W1)(d:D)(M:Sto):Prop:=N ((ρ.set i (some d)).set j (some d)) M
theorem ZqQ:wS (ZF (ZrT (gNm k) (gNm m)) f ρ M) N R B C E=wO (f ρ M) (Zvb k m ρ N) E:=ZW
section
variable {src:Src}{tg:Tg}{c:Tv}{g:Ro->Sto->Out Ro}{P:Nat->Ro->Sto->Prop}
theorem Zcy(n:Nat)(step:∀i ρ M,i<n->P i ρ M->∃d ρ1 M1,nxt src i M=some (some d)/\tg d ρ=some ρ1/\((c ρ1 M=.ok false M1/\P (i+1) ρ1 M1)\/∃ρ2 M2,c ρ1 M=.ok true M1/\g ρ1 M1=.ok ρ2 M2/\P (i+1) ρ2 M2))(stop:∀ρ M,P n ρ M->nxt src n M=some none):∀(fuel i:Nat)(ρ:Ro)(M:Sto),i<=n->n-i<=fuel->P i ρ M->∃ρ' M',Zcd src tg c g fuel i ρ M=.ok ρ' M'/\P n ρ' M':=by
 intro fuel
 induction fuel with
 |zero=>
  intro i ρ M hi hf h;have e:i=n:=⋯
  subst e;exact⟨ρ,M,by rw[Zcd,stop ρ M h],h⟩
 |succ fuel ih=>
  intro i ρ M hi hf h;by_cases q:i=n
  .subst q;exact⟨ρ,M,by rw[Zcd,stop ρ M h],h⟩
  .obtain⟨d,ρ1,M1,e1,e2,e3⟩:=step i ρ M ⋯ h
   rcases e3 with⟨e3,h3⟩|⟨ρ2,M2,e3,e4,h3⟩
   .obtain⟨ρ',M',z1,z2⟩:=ih (i+1) ρ1 M1 ⋯ ⋯ h3
    exact⟨ρ',M',by rw[Zcd,e1];simp only[e2,e3];exact z1,z2⟩
   .obtain⟨ρ',M',z1,z2⟩:=ih (i+1) ρ2 M2 ⋯ ⋯ h3
    exact⟨ρ',M',by rw[Zcd,e1];simp only[e2,e3,e4];exact z1,z2⟩
def ZtM(tg:Tg)(c:Tv)(g:Nat->Ro->Sto->Out Ro)(k:Nat)(fr:List Nat)(ρ:Ro)(Q:W0)(src:Src)(M1:Sto):Prop:=∃ρ' M',Zcd src tg c (g M1.length) (cnt src M1) 0 (roB k fr ρ) (M1++[.lst []])=.ok ρ' M'/\Q (.ref M1.length) M'
theorem ZiY{g:Nat->Ro->Sto->Out Ro}:wO (Za6 fi k fr tg c g ρ M) Q E=wO (fi ρ M) (ZtM tg c g k fr ρ Q) E:=by
 unfold Za6;rw[ZA];congr 1;funext src M1;unfold ZtM;cases e:Zcd src tg c (g M1.length) (cnt src M1) 0 (roB k fr ρ) (M1++[.lst []])with
 |ok ρ' M'=>exact propext ⟨λh=>⟨ρ',M',rfl,h⟩,λ⟨_,_,z,h⟩=>by cases z;exact h⟩
 |exc x M'=>exact propext ⟨λh=>h.elim,λ⟨_,_,z,_⟩=>by cases z⟩
 |bad=>exact propext ⟨λh=>h.elim,λ⟨_,_,z,_⟩=>by cases z⟩
end
end DL
namespace DL
open L2
def ZnD(gs:Tgs)(ρ:Ro)(N:W1)(M:Sto)(ds:List D):Prop:=wG (gs ds ρ) (kQ N id M)
def ZqR(gs:Tgs)(ρ:Ro)(N:W1)(M:Sto)(n:Nat):Prop:=wL M[n]? (ZnD gs ρ N M)
def Zvc(gs:Tgs)(ρ:Ro)(N:W1)(d:D)(M:Sto):Prop:=wR d (ZqR gs ρ N M)
theorem ZqS:wS (Zkz gs f ρ M) N R B C E=wO (f ρ M) (Zvc gs ρ N) E:=by
 unfold Zkz;rw[ZW];congr 1;funext d M1;cases d with
 |ref n=>
  show wS (match M1[n]? with|some (.lst ds)=>(match gs ds ρ with|some ρ1=>Fl.nx ρ1 M1|none=>.bad)|none=>.bad) N R B C E=wL M1[n]? (ZnD gs ρ N M1)
  cases M1[n]? with
  |none=>rfl
  |some o=>
   cases o with
   |lst ds=>
    show wS (match gs ds ρ with|some ρ1=>Fl.nx ρ1 M1|none=>.bad) N R B C E=wG (gs ds ρ) (kQ N id M1)
    cases gs ds ρ<;>rfl
 |_=>rfl
noncomputable def kZt(QS:Src->Sto->Prop)(ds:List D)(M:Sto):Prop:=∃n es,ds=[.ref n,.tup es]/\QS (.zipT n es) M
theorem Zvd:wO (DLy2.iZt fs ρ M) QS E=wO (fs ρ M) (kZt QS) E:=by
 unfold DLy2.iZt;rw[ZA];congr 1;funext ds M1;refine propext ⟨λh=>?_,λh=>?_⟩
 .split at h
  .exact⟨_,_,rfl,h⟩
  .exact h.elim
 .obtain⟨n,es,rfl,h⟩:=h;exact h
noncomputable def zpT(xs es:List D):List D:=bT (λx y=>D.tup [x,y]) xs es
theorem ZiZ(h:es.length<=xs.length):(zpT xs es).length=es.length:=by simp[zpT];lia
theorem Zi0(h:M[n]?=some (.lst xs))(i:Nat):nxt (.zipT n es) i M=some (zpT xs es)[i]?:=by
 simp only[nxt,h,zpT,ke];cases xs[i]?<;>cases es[i]?<;>rfl
theorem ZnE(I:Nat->Ro->Sto->Prop)(hM:M[n]?=some (.lst xs))(hl:es.length<=xs.length)(h0:I 0 ρ M)(hm:∀i ρ M,I i ρ M->M[n]?=some (.lst xs))(st:∀(i:Nat) ρ M (h:i<es.length),I i ρ M->wG (tg (.tup [xs[i],es[i]]) ρ) λr=>wS (bd r M) (I (i+1)) R N (I (i+1)) E)(hn:∀ρ M,I es.length ρ M->N ρ M):wS (Zen tg bd (.zipT n es) (cnt (.zipT n es) M) 0 ρ M) N R B C E:=by
 have hz:=ZiZ hl;refine Zgb I (xs:=zpT xs es) _ 0 ρ M ⋯ (by simp only[cnt,hM];lia) h0 (λi ρ M _ hI=>Zi0 (hm i ρ M hI) i) (λi ρ M h hI=>?_) (λρ M hI=>hn ρ M (by rw[hz]at hI;exact hI))
 have e:(zpT xs es)[i]=.tup [xs[i]'⋯,es[i]'⋯]:=by simp[zpT]
 rw[e];exact st i ρ M ⋯ hI
theorem Zwt(Inv:Ro->Prop)(F:Nat->D)(hM:M[n]?=some (.lst xs))(hl:es.length<=xs.length)(hb:es.length<10000000)(h0:Inv (roB k fr ρ))(st:∀(i:Nat)(h:i<es.length)(ρ:Ro)(L:Sto),Inv ρ->wG (tg (.tup [xs[i],es[i]]) ρ) λr=>Inv r/\wO (f r (M++L)) (λy M2=>y=F i/\M2=M++L) (λ_ _=>False))(hq:Q (.ref M.length) (M++[.lst ((aC es.length).map F)])):kCo tg (λ_ M=>.ok true M) f k fr ρ Q (.zipT n es) M:=by
 have hz:=ZiZ hl;refine ZrY (xs:=zpT xs es) Inv F ⋯ (by simp only[cnt,hM];lia) h0 (λL i _=>Zi0 (by rw[ac (Zo hM)];exact hM) i) (λi hi ρ L hI=>?_) (by rw[hz];exact hq)
 have e:(zpT xs es)[i]=.tup [xs[i]'⋯,es[i]'⋯]:=by simp[zpT]
 rw[e];exact st i ⋯ ρ L hI
end DL
namespace DL
open L2
def Zwu(n:Nat)(d k:D)(kk:List (List Key))(ρ:Ro)(N:W1)(M:Sto)(ds:List D):Prop:=ds.length<10000000/\N ρ (M.set n (.lst (Zoh kyU kk k d ds)))
def Zve(d x:D)(ρ:Ro)(N:W1)(k:D)(M:Sto):Prop:=∃n kk,x=.du n/\kyU k=some kk/\wL M[n]? (Zwu n d k kk ρ N M)
def ZtN(fi:Ev)(d:D)(ρ:Ro)(N:W1)(E:W2)(x:D)(M:Sto):Prop:=wO (fi ρ M) (Zve d x ρ N) E
def ZtO(fo fi:Ev)(ρ:Ro)(N:W1)(E:W2)(d:D)(M:Sto):Prop:=wO (fo ρ M) (ZtN fi d ρ N E) E
theorem ZqT:wS (Zky fo fi f ρ M) N R B C E=wO (f ρ M) (ZtO fo fi ρ N E) E:=by
 unfold Zky;rw[ZW];congr 1;funext d M1;rw[ZW];unfold ZtO;congr 1;funext x M2;rw[ZW];unfold ZtN;congr 1;funext k M3;unfold Zve;cases x with
 |du n=>
  cases e:kyU k with
  |none=>exact propext ⟨λh=>h.elim,λ⟨_,_,_,z,_⟩=>by cases z⟩
  |some kk=>
   cases em:M3[n]? with
   |none=>simp only[em];exact propext ⟨λh=>h.elim,λ⟨n',_,z,_,h⟩=>by cases z;rw[em]at h;exact h.elim⟩
   |some o=>
    cases o with
    |lst ds=>
     by_cases c:ds.length<10000000
     .simp only[em,if_pos c];exact propext ⟨λh=>⟨n,kk,rfl,rfl,by rw[em];exact⟨c,h⟩⟩,λ⟨n',kk',z,z',h⟩=>by cases z;cases z';rw[em]at h;exact h.2⟩
     .simp only[em,if_neg c];exact propext ⟨λh=>h.elim,λ⟨n',kk',z,z',h⟩=>by cases z;cases z';rw[em]at h;exact absurd h.1 c⟩
 |_=>exact propext ⟨λh=>h.elim,λ⟨_,_,z,_⟩=>by cases z⟩
def Zvf(Q:W0)(M:Sto)(es:List D):Prop:=Q (.ref M.length) (M++[.lst (es.map Zik)])
theorem ZtP:wO (bLisU [.du n] M) Q E=wL M[n]? (Zvf Q M):=by
 show wO (match M[n]? with|some (.lst es)=>Out.ok (.ref M.length) (M++[.lst (es.map Zik)])|none=>.bad) Q E=_
 cases M[n]? with
 |none=>rfl
 |some o=>cases o with|lst xs=>rfl
theorem ZtQ:wO (eDnU ρ M) Q E=Q (.du M.length) (M++[.lst []]):=rfl
end DL
namespace DL
noncomputable abbrev Pt:=Int×Int
noncomputable def X(p q:Pt):Int:=p.1*q.2-p.2*q.1
section
variable {rs:List Pt}{i j:Int}{k:Nat}{p:Pt}
theorem ZbT{α:Type}{l:List α}{d:α}(h:n<l.length):l.getD n d=l[n]:=by simp[av h]
theorem Zb1(h:0<=i/\i<rs.length):cy rs i=rs.getD i.toNat (0,0):=by
 unfold cy;rw[bf h.1 h.2]
theorem ZaL{m:Nat}(h:m≠0):(i%m).toNat<m/\0<=i%m:=by
 have:=aX i (show(0:Int)<m by lia)
 have:=bF i (show(m:Int)≠0 by lia)
 lia
theorem ZQ(h:rs≠[]):cy rs i∈rs:=by
 have hl:rs.length≠0:=by simpa using h
 unfold cy;rw[ZbT (ZaL hl).1];exact bJ _
theorem Zgf{f:Pt->Pt}(h:rs≠[]):cy (rs.map f) i=f (cy rs i):=by
 have hl:rs.length≠0:=by simpa using h
 unfold cy;rw[af,ZbT (by rw[af];exact(ZaL hl).1),ZbT (ZaL hl).1,fI]
theorem ZlG(hk:k<=rs.length):cy (rs.drop k++rs.take k) i=cy rs (i+k):=by
 by_cases h:rs.length=0
 .have:rs=[]:=by simpa using h
  subst this;simp[cy]
 have hL:(rs.drop k++rs.take k).length=rs.length:=by simp;lia
 have e1:cy (rs.drop k++rs.take k) i=cy (rs.drop k++rs.take k) (i%rs.length):=by
  conv=>rhs;rw[<-hL,Zbe]
 have e2:cy rs (i+k)=cy rs (i%rs.length+k):=by
  unfold cy;rw[fv]
 rw[e1,e2];obtain⟨a,b⟩:=ZaL (i:=i) h;generalize hm:i%(rs.length:Int)=m at *;have hm2:m<rs.length:=⋯
 rw[Zb1 (by rw[hL];lia)]
 by_cases c:m+k<rs.length
 .rw[Zb1 ⋯]
  rw[aK,aK,ac (by simp;lia),List.getElem?_drop]
  congr 2;lia
 .rw[<-ZeE,Zb1 ⋯]
  rw[aK,aK,aT (by simp;lia),db (by simp;lia)]
  congr 2;simp;lia
noncomputable def ins(rs:List Pt)(k:Nat)(p:Pt):List Pt:=rs.take (k+1)++p::rs.drop (k+1)
theorem Zfm(hk:k<rs.length):(ins rs k p).length=rs.length+1:=by simp[ins];lia
theorem ZlH(hk:k<rs.length)(h0:0<=j)(h1:j<=rs.length+1):cy (ins rs k p) j=if j<=k then cy rs j else if j=k+1 then p else cy rs (j-1):=by
 have hL:=Zfm (p:=p) hk;by_cases e:j=rs.length+1
 .subst e;rw[if_neg ⋯,if_neg ⋯]
  have e1:cy (ins rs k p) (rs.length+1)=cy (ins rs k p) 0:=by
   have:=ZeE (rs:=ins rs k p) (i:=(rs.length:Int)+1)
   rw[hL]at this;rw[<-this];congr 1;lia
  have e2:cy rs ((rs.length:Int)+1-1)=cy rs 0:=by
   rw[<-ZeE];congr 1;lia
  rw[e1,e2,Zb1 (by rw[hL];lia),Zb1 ⋯]
  unfold ins;rw[aK,aK,ac (by simp;lia),db (by simp)]
 .have hj:j<rs.length+1:=⋯
  rw[Zb1 (by rw[hL];lia)]
  unfold ins;rw[aK];by_cases c1:j<=k
  .rw[if_pos c1,Zb1 ⋯,aK,ac (by simp;lia),db ⋯]
  .rw[if_neg c1,aT (by simp;lia)]
   have hl:(rs.take (k+1)).length=k+1:=by simp;lia
   rw[hl];by_cases c2:j=k+1
   .rw[if_pos c2]
    have:j.toNat-(k+1)=0:=⋯
    rw[this];rfl
   .rw[if_neg c2,Zb1 ⋯,aK]
    obtain⟨z,hz⟩:∃z,j.toNat-(k+1)=z+1:=⟨j.toNat-(k+1)-1,⋯⟩
    rw[hz,dm,List.getElem?_drop];congr 2;lia
theorem ZdK{P:Pt->Pt->Prop}(hn:rs.length≠0)(h:∀i:Int,0<=i->i<rs.length->P (cy rs i) (cy rs (i+1)))(i:Int):P (cy rs i) (cy rs (i+1)):=by
 have e1:cy rs i=cy rs (i%rs.length):=Zbe.symm;have e2:cy rs (i+1)=cy rs (i%rs.length+1):=by
  unfold cy;rw[fv]
 rw[e1,e2];obtain⟨a,b⟩:=ZaL (i:=i) hn;exact h _ b ⋯
noncomputable def cc(f:Pt->Pt->Nat):List Pt->Nat
 |a::b::r=>f a b+cc f (b::r)
 |_=>0
def cyc(f:Pt->Pt->Nat)(rs:List Pt):Nat:=cc f (rs++rs.take 1)
theorem ZeG{f:Pt->Pt->Nat}:∀(L:List Pt)(a:Pt)(R:List Pt),cc f (L++a::R)=cc f (L++[a])+cc f (a::R)
 |[],a,R=>by simp[cc]
 |[b],a,R=>by simp[cc]
 |b::c::L,a,R=>by
  have:=ZeG (f:=f) (c::L) a R
  simp only[bI,cc]at this ⊢;lia
theorem ZlI{f:Pt->Pt->Nat}{g:Pt->Pt}:∀(L:List Pt),cc f (L.map g)=cc (λa b=>f (g a) (g b)) L
 |[]=>rfl
 |[_]=>rfl
 |a::b::L=>by
  have:=ZlI (f:=f) (g:=g) (b::L)
  simp only[aR,cc]at this ⊢;lia
theorem Zcz:cyc f (a::r)=cc f (a::(r++[a])):=by simp[cyc]
theorem ZdL(A B:List Pt):cyc f (A++B)=cyc f (B++A):=by
 cases A with
 |nil=>simp
 |cons a A=>
  cases B with
  |nil=>simp
  |cons b B=>
   rw[bI,Zcz,bI,Zcz];have e1:a::(A++b::B++[a])=(a::A)++b::(B++[a]):=by simp
   have e2:b::(B++a::A++[b])=(b::B)++a::(A++[b]):=by simp
   rw[e1,e2,ZeG (a::A) b,ZeG (b::B) a];simp only[bI];lia
theorem Zi1(L:List Pt):cyc f (L.map g)=cyc (λa b=>f (g a) (g b)) L:=by
 unfold cyc;rw[<-List.map_take,<-cw,ZlI]
def in1(w a b:Pt):Nat:=if 0<=X a w/\0<X w b then 1 else 0
def in2(w a b:Pt):Nat:=if 0<X a w/\0<=X w b then 1 else 0
def Fan(rs:List Pt):Prop:=∀w:Pt,w≠(0,0)->cyc (in1 w) rs=1/\cyc (in2 w) rs=1
theorem ZqU:X w (a.1+b.1,a.2+b.2)=X w a+X w b/\X (a.1+b.1,a.2+b.2) w=X a w+X b w:=by unfold X;constructor<;>grind
theorem Zol{p:Pt}:X p q=0-X q p:=by unfold X;grind
theorem ZnF:in1 w a b=in1 w a (a.1+b.1,a.2+b.2)+in1 w (a.1+b.1,a.2+b.2) b:=by
 have s:=ZqU (a:=a) (b:=b) (w:=w);have e1:=Zol (p:=w) (q:=a);have e2:=Zol (p:=b) (q:=w);unfold in1;rw[s.1,s.2,e1,e2];generalize X a w=p;generalize X w b=q
 repeat' split
 all_goals lia
theorem ZnG:in2 w a b=in2 w a (a.1+b.1,a.2+b.2)+in2 w (a.1+b.1,a.2+b.2) b:=by
 have s:=ZqU (a:=a) (b:=b) (w:=w);have e1:=Zol (p:=w) (q:=a);have e2:=Zol (p:=b) (q:=w);unfold in2;rw[s.1,s.2,e1,e2];generalize X a w=p;generalize X w b=q
 repeat' split
 all_goals lia
theorem ZqV{L R:List Pt}:cy (L++a::R) L.length=a:=by
 rw[Zb1 (by simp;lia)]
 simp
theorem ZtR{L R:List Pt}:cy (L++a::b::R) (L.length+1)=b:=by
 rw[Zb1 (by simp;lia)]
 rw[show((L.length:Int)+1).toNat=L.length+1 by lia]
 simp
theorem Zi2{r:List Pt}:cy (a::r) (r.length+1)=a:=by
 have:=ZeE (rs:=a::r) (i:=(r.length:Int)+1)
 rw[<-this,bS,show(r.length:Int)+1-((r.length+1:Nat):Int)=0 by lia,Zb1 (by simp)]
 rfl
theorem Zi3(hk:k<rs.length)(hf:f (cy rs k) (cy rs (k+1))=f (cy rs k) p+f p (cy rs (k+1))):cyc f (ins rs k p)=cyc f rs:=by
 obtain⟨L,a,R,e,hl⟩:∃L a R,rs=L++a::R/\L.length=k:=⟨rs.take k,rs[k],rs.drop (k+1),by rw[List.getElem_cons_drop,kh],by simp;lia⟩
 have ei:ins rs k p=L++a::p::R:=by
  unfold ins;rw[e,<-hl,List.take_append,List.drop_append,bU ⋯,dz ⋯]
  simp
 have ca:cy rs k=a:=by rw[e,<-hl];exact ZqV
 cases R with
 |cons b R=>
  have cb:cy rs (k+1)=b:=by rw[e,<-hl];exact ZtR
  rw[ca,cb]at hf;rw[ei,e,ZdL,ZdL L];simp only[bI,Zcz,cc];lia
 |nil=>
  cases L with
  |nil=>
   have cb:cy rs (k+1)=a:=by
    rw[e,<-hl];exact Zi2 (r:=[]) (a:=a)
   rw[ca,cb]at hf;rw[ei,e];simp[cyc,cc];lia
  |cons b L=>
   have cb:cy rs (k+1)=b:=by
    rw[e,<-hl]
    have:=Zi2 (r:=L++[a]) (a:=b)
    simp only[aI,bS,eX]at this ⊢;exact this
   rw[ca,cb]at hf;rw[ei,e];simp only[bI,Zcz];have e1:b::(L++[a,p]++[b])=(b::L)++a::[p,b]:=by simp
   have e2:b::(L++[a]++[b])=(b::L)++a::[b]:=by simp
   rw[e1,e2,ZeG,ZeG (b::L) a [b]];simp only[cc];lia
theorem Fan.rot(h:Fan rs):Fan (rs.drop k++rs.take k):=λw hw=>by
 rw[ZdL,ZdL (rs.drop k),kh];exact h w hw
theorem Fan.ins(h:Fan rs)(hk:k<rs.length):Fan (ins rs k ((cy rs k).1+(cy rs (k+1)).1,(cy rs k).2+(cy rs (k+1)).2)):=λw hw=>by
 rw[Zi3 hk ZnF,Zi3 hk ZnG];exact h w hw
theorem ZqW{f:Pt->Pt}(hs:s=1\/s= -1)(hf:∀p q,X (f p) (f q)=s*X p q)(w:Pt)(hw:w≠(0,0)):∃w':Pt,w'≠(0,0)/\∀a,X (f a) w=s*X a w':=by
 have d:=hf (1,0) (0,1);have d1:X (f (1,0)) (f (0,1))=s:=by rw[d];simp[X]
 have lin:∀a,(f a).1=a.1*(f (1,0)).1+a.2*(f (0,1)).1/\(f a).2=a.1*(f (1,0)).2+a.2*(f (0,1)).2:=by
  intro a;have h1:=hf a (1,0);have h2:=hf a (0,1);generalize f a=u at *;generalize f (1,0)=e1 at *;generalize f (0,1)=e2 at *;unfold X at *;rcases hs with rfl|rfl<;>constructor<;>grind
 refine⟨(X w (f (0,1))*s,X (f (1,0)) w*s),?_,?_⟩
 .intro z;apply hw;have z1:=congrArg Prod.fst z;have z2:=congrArg Prod.snd z;simp only at z1 z2;generalize f (1,0)=e1 at *;generalize f (0,1)=e2 at *;unfold X at *;apply gy
  .rcases hs with rfl|rfl<;>simp only[]<;>grind
  .rcases hs with rfl|rfl<;>simp only[]<;>grind
 .intro a;obtain⟨l1,l2⟩:=lin a;unfold X;rw[l1,l2];rcases hs with rfl|rfl<;>simp only[]<;>grind
theorem Fan.map(h:Fan rs)(hf:∀p q,X (f p) (f q)=X p q):Fan (rs.map f):=λw hw=>by
 obtain⟨w',hw',e⟩:=ZqW (s:=1) (.inl rfl) (λp q=>by rw[hf,mh]) w hw
 have e2:∀a,X w (f a)=X w' a:=λa=>by rw[Zol,e,Zol (p:=w')];lia
 have c1:∀a b,in1 w (f a) (f b)=in1 w' a b:=λa b=>by unfold in1;rw[e,e2,mh]
 have c2:∀a b,in2 w (f a) (f b)=in2 w' a b:=λa b=>by unfold in2;rw[e,e2,mh]
 rw[Zi1,Zi1,show(λa b=>in1 w (f a) (f b))=in1 w' from funext λa=>funext λb=>c1 a b,show(λa b=>in2 w (f a) (f b))=in2 w' from funext λa=>funext λb=>c2 a b];exact h w' hw'
structure Smo(rs:List Pt):Prop where
 len:3<=rs.length
 one:∀i:Int,X (cy rs i) (cy rs (i+1))=1
 fan:Fan rs
noncomputable def Nr(b:Int)(rs:List Pt):Prop:=∀p∈rs,(-b<=p.1/\p.1<=b)/\ -b<=p.2/\p.2<=b
theorem Smo.ne(h:Smo rs):rs≠[]:=by
 intro z
 have:=h.len
 rw[z]at this;simp at this
theorem Nr.cy{b:Int}(h:Nr b rs)(hn:rs≠[])(i:Int):(-b<=(cy rs i).1/\(cy rs i).1<=b)/\ -b<=(cy rs i).2/\(cy rs i).2<=b:=h _ (ZQ hn)
theorem Smo.ins(h:Smo rs)(hk:k<rs.length):Smo (ins rs k ((cy rs k).1+(cy rs (k+1)).1,(cy rs k).2+(cy rs (k+1)).2)):=by
 have hL:=Zfm (p:=((cy rs k).1+(cy rs (k+1)).1,(cy rs k).2+(cy rs (k+1)).2)) hk;refine⟨by rw[hL];have:=h.len;lia,?_,h.fan.ins hk⟩
 refine ZdK (P:=λa b=>X a b=1) ⋯ ?_
 intro i h0 h1;rw[hL]at h1;rw[ZlH hk h0 ⋯,ZlH hk ⋯ ⋯]
 have ok:=h.one k;by_cases c1:i+1<=k
 .rw[if_pos ⋯,if_pos c1];exact h.one i
 .rw[if_neg c1];by_cases c2:i=k
  .subst c2;rw[if_pos ⋯,if_pos rfl]
   unfold X at *;grind
  .rw[if_neg (by lia:¬i<=(k:Int)),if_neg (by lia:¬i+1=(k:Int)+1)]
   by_cases c3:i=k+1
   .subst c3;rw[if_pos rfl]
    have:(k:Int)+1+1-1=k+1:=⋯
    rw[this];unfold X at *;grind
   .rw[if_neg c3]
    have:=h.one (i-1)
    have e:i-1+1=i+1-1:=⋯
    rw[e]at this;exact this
theorem Smo.rot(h:Smo rs)(hk:k<=rs.length):Smo (rs.drop k++rs.take k):=by
 refine⟨by have:=h.len;simp;lia,λi=>?_,h.fan.rot⟩
 rw[ZlG hk,ZlG hk]
 have:=h.one (i+k)
 have e:i+(k:Int)+1=i+1+k:=⋯
 rw[e]at this;exact this
theorem Smo.map(h:Smo rs)(hf:∀p q,X (f p) (f q)=X p q):Smo (rs.map f):=by
 refine⟨by have:=h.len;simp;lia,λi=>?_,h.fan.map hf⟩
 rw[Zgf h.ne,Zgf h.ne,hf];exact h.one i
theorem Nr.ins{b:Int}(h:Nr b rs)(hp:(-b<=p.1/\p.1<=b)/\ -b<=p.2/\p.2<=b):Nr b (ins rs k p):=by
 intro q hq;rcases bZ.mp hq with hq|hq
 .exact h q (ii hq)
 .rcases ar.mp hq with hq|hq
  .subst hq;exact hp
  .exact h q (kR hq)
theorem Nr.rot(h:Nr b rs):Nr b (rs.drop k++rs.take k):=by
 intro q hq;rcases bZ.mp hq with hq|hq
 .exact h q (kR hq)
 .exact h q (ii hq)
end
end DL
namespace CC
open L2 DL
def ZbU:Sv:=(Zae (e2 dSub (e2 dMul (e2 dIx (Zg 0) (eC (.int 0))) (e2 dIx (Zg 1) (eC (.int 1)))) (e2 dMul (e2 dIx (Zg 0) (eC (.int 1))) (e2 dIx (Zg 1) (eC (.int 0))))))
def F_crossed:W3:=fnF ZbU 2 0
def ZaX:Sv:=(Zae (e2 dIx (Zg 0) (e2 dMod (e2 dAdd (Zg 1) (eC (.int 1))) (Zj bLen (Zc (Zg 0) aNil)))))
def F_following:W3:=fnF ZaX 2 0
def Zac:Sv:=(sIf (tv (e2 dNe (Zj F_crossed (Zc (Zg 2) (Zc (Zj F_following (Zc (Zg 0) (Zc (Zg 1) aNil))) aNil))) (eC (.int 1)))) (Zae (Zg 1)) sNil)
def ZaY:Sv:=(Zy (Zeo (gTp (gCs (gNm 1) (gCs (gNm 2) gNl))) (iEn (Zc (Zg 0) aNil)) Zac) (Zae (eC .non)))
def F_unspanned:W3:=fnF ZaY 1 2
def ZaG:Sv:=(Zy (ZF (gNm 1) (Zj F_unspanned (Zc (Zg 0) aNil))) (sIf (tv (e2 dIsNot (Zg 1) (eC .non))) (Zel (PySem.Str.ofString "NotSmooth") (Zc (eFs (ZdA (eC (.str (PySem.Str.ofString "ray "))) (ZdA (eFm (Zg 1)) (ZdA (eC (.str (PySem.Str.ofString " does not cross the next one in 1"))) jNil)))) aNil)) sNil))
def F_ask_smooth:W3:=fnF ZaG 1 1
def ZaZ:Sv:=(Zy (ZF (gNm 2) (eC (.int 0))) (Zy (sIf (tv (e2 dLt (Zg 1) (Zj bLen (Zc (Zg 0) aNil)))) (ZF (gNm 2) (e2 dMod (e2 dIx (Zg 0) (Zg 1)) (e2 dPow (eC (.int 10)) (eC (.int 60))))) sNil) (Zy (sIf (tv (e2 dLt (Zg 2) (e2 dPow (eC (.int 10)) (eC (.int 18))))) (Zy (ZF (gNm 3) (e2 dMod (e2 dMul (e2 dAdd (Zg 2) (e2 dMul (eC (.int 1442695040888963407)) (e2 dAdd (Zg 1) (eC (.int 1))))) (eC (.int 6364136223846793005))) (e2 dPow (eC (.int 10)) (eC (.int 37))))) (ZF (gNm 2) (e2 dMod (e2 dDiv (e2 dMul (Zg 3) (Zg 3)) (e2 dPow (eC (.int 10)) (eC (.int 17)))) (e2 dPow (eC (.int 10)) (eC (.int 56)))))) sNil) (Zae (Zg 2)))))
def F_law_cell_at:W3:=fnF ZaZ 2 2
def ZcP:Sv:=(Zae (e2 dSub (e2 dMul (e2 dIx (Zg 0) (eC (.int 0))) (e2 dIx (Zg 1) (eC (.int 1)))) (e2 dMul (e2 dIx (Zg 0) (eC (.int 1))) (e2 dIx (Zg 1) (eC (.int 0))))))
def F_law_cross:W3:=fnF ZcP 2 0
def Za0:Sv:=(sIf (tv (e2 dEq (Zg 4) (eC (.int 0)))) (Za7 (ZeS mApp (Zg 5) (Zc (Zal (Zc (e2 dAdd (Zg 6) (e2 dMul (Zg 3) (Zg 7))) (Zc (Zg 7) aNil))) aNil))) (sIf (tv (e2 dEq (Zg 4) (eC (.int 1)))) (Za7 (ZeS mApp (Zg 5) (Zc (Zal (Zc (Zg 6) (Zc (e2 dAdd (Zg 7) (e2 dMul (Zg 3) (Zg 6))) aNil))) aNil))) (sIf (tv (e2 dEq (Zg 4) (eC (.int 2)))) (Za7 (ZeS mApp (Zg 5) (Zc (Zal (Zc (e2 dSub (eC (.int 0)) (Zg 7)) (Zc (Zg 6) aNil))) aNil))) (Za7 (ZeS mApp (Zg 5) (Zc (Zal (Zc (Zg 6) (Zc (Zg 7) aNil))) aNil))))))
def Za1:Sv:=(Zy (ZF (gNm 3) (e2 dSub (e2 dMod (e2 dDiv (Zg 1) (eC (.int 4))) (eC (.int 5))) (eC (.int 2)))) (Zy (sIf (tv (e2 dEq (e2 dMod (e2 dDiv (Zg 1) (eC (.int 20))) (eC (.int 8))) (eC (.int 0)))) (ZF (gNm 3) (e2 dSub (e2 dMod (e2 dDiv (Zg 1) (eC (.int 160))) (eC (.int 19))) (eC (.int 9)))) sNil) (Zy (ZF (gNm 4) (e2 dMod (Zg 1) (eC (.int 4)))) (Zy (ZF (gNm 1) (e2 dDiv (Zg 1) (eC (.int 3040)))) (Zy (ZF (gNm 5) (ZbI aNil)) (Zy (Zg5 (gTp (gCs (gNm 6) (gCs (gNm 7) gNl))) (Zg 0) Za0) (sIf (tv (e2 dLe (Zj (Zdb List.max?) (Zc (e2 dAdd (Zam (iSq (Zg 5)) 2 [] (gTp (gCs (gNm 0) (gCs (gNm 1) gNl))) (λ_ M=>.ok true M) (Zj bAbs (Zc (Zg 0) aNil))) (Zam (iSq (Zg 5)) 2 [] (gTp (gCs (gNm 0) (gCs (gNm 1) gNl))) (λ_ M=>.ok true M) (Zj bAbs (Zc (Zg 1) aNil)))) aNil)) (eC (.int 200)))) (ZF (gNm 0) (Zg 5)) sNil)))))))
def Zb2:Sv:=(Zy (ZaE (gNm 2) (Zc (eC (.int 3)) aNil) Za1) (Zae (Zg 0)))
def F_law_turn:W3:=fnF Zb2 2 6
def Zav:Sv:=(Zy (ZF (gNm 6) (e2 dMod (Zg 0) (Zj bLen (Zc (Zg 3) aNil)))) (Zy (ZF (gNm 0) (e2 dDiv (Zg 0) (eC (.int 17)))) (Zy (ZF (gNm 7) (e2 dIx (Zg 3) (Zg 6))) (Zy (ZF (gNm 8) (e2 dIx (Zg 3) (e2 dMod (e2 dAdd (Zg 6) (eC (.int 1))) (Zj bLen (Zc (Zg 3) aNil))))) (Zy (ZF (gNm 9) (Zal (Zc (e2 dAdd (e2 dIx (Zg 7) (eC (.int 0))) (e2 dIx (Zg 8) (eC (.int 0)))) (Zc (e2 dAdd (e2 dIx (Zg 7) (eC (.int 1))) (e2 dIx (Zg 8) (eC (.int 1)))) aNil)))) (sIf (ZbY (tv (e2 dLe (Zj bAbs (Zc (e2 dIx (Zg 9) (eC (.int 0))) aNil)) (eC (.int 200)))) (tv (e2 dLe (Zj bAbs (Zc (e2 dIx (Zg 9) (eC (.int 1))) aNil)) (eC (.int 200))))) (ZF (gNm 3) (e2 dAdd (e2 dAdd (eSl (Zg 3) oNo (oSo (e2 dAdd (Zg 6) (eC (.int 1))))) (ZbI (Zc (Zg 9) aNil))) (eSl (Zg 3) (oSo (e2 dAdd (Zg 6) (eC (.int 1)))) oNo))) sNil))))))
def Zbf:Sv:=(Zy (ZF (gNm 2) (e2 dAdd (eC (.int 3)) (e2 dMod (Zg 0) (e2 dSub (Zg 1) (eC (.int 2)))))) (Zy (ZF (gNm 0) (e2 dDiv (Zg 0) (e2 dSub (Zg 1) (eC (.int 2))))) (Zy (ZF (gNm 3) (ZbI (Zc (Zal (Zc (eC (.int 1)) (Zc (eC (.int 0)) aNil))) (Zc (Zal (Zc (eC (.int 0)) (Zc (eC (.int 1)) aNil))) (Zc (Zal (Zc (Ze4 (eC (.int 1))) (Zc (Ze4 (eC (.int 1))) aNil))) aNil))))) (Zy (sIf (ZbY (tv (e2 dGt (Zg 2) (eC (.int 3)))) (tv (e2 dGt (e2 dMod (Zg 0) (eC (.int 4))) (eC (.int 0))))) (Zy (ZF (gNm 4) (e2 dMod (e2 dDiv (Zg 0) (eC (.int 4))) (e2 dIx (ZbI (Zc (eC (.int 3)) (Zc (eC (.int 4)) (Zc (eC (.int 6)) (Zc (eC (.int 40)) aNil))))) (e2 dMod (e2 dDiv (Zg 0) (eC (.int 512))) (eC (.int 4)))))) (ZF (gNm 3) (ZbI (Zc (Zal (Zc (eC (.int 1)) (Zc (eC (.int 0)) aNil))) (Zc (Zal (Zc (eC (.int 0)) (Zc (eC (.int 1)) aNil))) (Zc (Zal (Zc (Ze4 (eC (.int 1))) (Zc (Zg 4) aNil))) (Zc (Zal (Zc (eC (.int 0)) (Zc (Ze4 (eC (.int 1))) aNil))) aNil))))))) sNil) (Zy (ZF (gNm 0) (e2 dDiv (Zg 0) (eC (.int 2048)))) (Zy (ZaE (gNm 5) (Zc (e2 dSub (Zg 2) (Zj bLen (Zc (Zg 3) aNil))) aNil) Zav) (Zy (ZF (gNm 3) (Zj F_law_turn (Zc (Zg 3) (Zc (Zg 0) aNil)))) (Zy (ZF (gNm 6) (e2 dMod (e2 dDiv (Zg 0) (e2 dPow (eC (.int 10)) (eC (.int 12)))) (Zj bLen (Zc (Zg 3) aNil)))) (Zae (e2 dAdd (eSl (Zg 3) (oSo (Zg 6)) oNo) (eSl (Zg 3) oNo (oSo (Zg 6)))))))))))))
def F_law_smooth:W3:=fnF Zbf 2 8
end CC
open L2 DL
set_option hygiene false
set_option compiler.extract_closed false
local macro_rules|`(tactic|simp! $c:optConfig [$ls,*])=>do let x←("Zwa y_c y_v Zqw Ztg Zqx Zth Zti Ztj Zqy Ztl Zqz Zwb Zwc Zwd Ztm Ztn ZqA ZqB Zwe Zto Zwf ZqC Ztp ZqD Ztq ZqE Ztr ZqF ZqG Zwg Zwh Ztt Ztu ZqH Ztv Ztw ZqI Ztx ZqJ ZqK ZqL ZqM Zwj Zwk Zwl Zty Ztz ZtA Zwm Zwn ZtB Zwo Zwp Zwq ZtC ZkS ZtD ZtE ZtF ZqO ZnC ZqP Zwr ZtG Zws ZtH ZtI ZtJ kU kQ kB2 kB1 kA2 kA1 kTu kLs kTy kIf kTA kTO kTN kSq kDr kSi kAs kAt ZuM kPa ZuN ZuO ZuP ZuQ ZuR ZuS kPu ZuT ZuU kR1 kFo kFs ZuV ZuW kS1 ZuX ZuY ZuZ kS2 Zu0 kEn Zu1 Zu2 kZp ZqN Zu3 kEq kNe kIx Zu4 kLi ZrW ZrX kMt Zu5 Zu6 Zu7 Zu8 Zu9 Zva ZdI ZdJ Zfj ZkP Zgd ZiV ZkR ZkQ Znx ZrV decide_eq_true decide_eq_false wF1 wF2 wF3 Zp ZpS ZvQ ZvR ZvS ZvT ZvU ZvO ZvP ZsS ZsT ZsU Zp2 ZsV ZsW ZsX ZvW ZvX ZvY ZvZ Zp4 Zp5 Zs3 Zs4 Zs5 Zp6 Zp7 Znv Zp9 Zqa ZkO Ztc Ztd Zte Ztf id roB kpR cond_true cond_false at0 at1 at2 gTp gCs gNl gNm List.set_cons_zero List.set_cons_succ jI dm bS eX aI af aR iC bI ip d6 cD List.replicate_succ List.replicate_zero Option.join_some iZ Znw ZrU ZeD ZlC Zqb Zqc ZG ZdH Zta Zv5 ZuG Zqf Ztb Zqg Zqh Zqi Zqj Zqk Zql Zqm Zqn Zqo Zqp Zqq Zqr Zqs Zqt true_and and_true d9 Bool.not_false decide_true decide_false Nat.reduceAdd Nat.reduceLeDiff Nat.reduceLT Nat.add_zero fH Int.reducePow Int.reduceToNat Int.reduceNeg Int.reduceMod Int.reduceDiv Int.reduceAdd Int.reduceSub Int.reduceMul Int.cast_ofNat_Int Int.reduceEq Int.reduceLT Int.reduceLE".splitOn " ").toArray.mapM fun s=>`(Lean.Parser.Tactic.simpLemma|$(Lean.mkIdent s.toName):ident);`(tactic|simp $c:optConfig (disch := lia) only [$x,*,$ls,*])
set_option hygiene true
namespace CC
open L2 DL
section
variable {E:W2}
theorem ZcQ(ha: -(18446744073709551616)<a/\a<18446744073709551616)(hb: -(18446744073709551616)<b/\b<18446744073709551616):wO (F_crossed [pr a b,pr c d] M) Q E=Q (.int (a*d-b*c)) M:=by
 simp![F_crossed,ZbU]
theorem Zi4(ha: -(18446744073709551616)<a/\a<18446744073709551616)(hb: -(18446744073709551616)<b/\b<18446744073709551616):wO (F_law_cross [pr a b,pr c d] M) Q E=Q (.int (a*d-b*c)) M:=ZcQ ha hb
theorem ZcR(h:M[n]?=some (.lst (prs rs)))(hi:0<=i/\i<rs.length):wO (F_following [.ref n,.int i] M) Q E=Q (pr (cy rs (i+1)).1 (cy rs (i+1)).2) M:=by
 have e:=ZaL (i:=i+1) (m:=rs.length) ⋯
 simp![F_following,ZaX,h,ZcN,Zbe]
theorem ZcS(h:i<(prs rs).length):(prs rs)[i]=pr (cy rs i).1 (cy rs i).2:=by
 have h':i<rs.length:=by rw[ZG]at h;exact h
 rw[ZeF h'];simp[prs]
theorem Nr.big(h:Nr b rs)(hb:b<=18446744073709551615)(hn:rs≠[])(i:Int):(-(18446744073709551616)<(cy rs i).1/\(cy rs i).1<18446744073709551616)/\(-(18446744073709551616)<(cy rs i).2/\(cy rs i).2<18446744073709551616):=by
 have:=Nr.cy h hn i
 omega
theorem Zfn(h:M[n]?=some (.lst (prs rs)))(hs:Smo rs)(hb:Nr 18446744073709551615 rs)(k:Q .non M):wO (F_unspanned [.ref n] M) Q E:=by
 simp![F_unspanned,ZaY];refine Zqv (λi ρ M'=>M'=M/\∃x y,ρ=[some (.ref n),x,y]) h ⟨rfl,_,_,rfl⟩ (λi ρ M' hI=>by rw[hI.1];exact h) ?_ ?_
 .rintro i ρ M' hi ⟨rfl,x,y,rfl⟩;have b1:=Nr.big hb (by decide) hs.ne i
  have o1:=hs.one i;have hi':i<rs.length:=by rw[ZG]at hi;exact hi
  rw[ZcS];simp![Zac,ZcR h,ZcQ];unfold X at o1;rw[o1];simp![Zp];exact⟨_,_,rfl⟩
 .rintro ρ M' ⟨rfl,x,y,rfl⟩;simp![Zp];exact k
theorem Zcf(h:M[n]?=some (.lst (prs rs)))(hs:Smo rs)(hb:Nr 18446744073709551615 rs)(k:Q .non M):wO (F_ask_smooth [.ref n] M) Q E:=by
 simp![F_ask_smooth,ZaG];refine Zfn h hs hb ?_;simp![Zp];exact k
theorem ZqX(hi:0<=i/\i<10^60)(hj:0<=j/\j<10^60):Zs i j:=Zn 200 200 (show i.natAbs<2^200 by lia) (show j.natAbs<2^200 by lia) (by decide) (by decide)
theorem ZbV{ns:List Int}{k:Nat}(q:∀c:Int,0<=c->Q (.int c) M):wO (F_law_cell_at [.rol (ns.map D.int),.int k] M) Q E:=by
 have tail:∀v:Int,0<=v->Q (.int v) M:=q;simp! -implicitDefEqProofs [F_law_cell_at,ZaZ];refine brS (λh1=>?_) (λh1=>?_)
 .have h2:k<ns.length:=by simpa using h1
  simp! -implicitDefEqProofs [ZkM h2];obtain⟨c,hc,c0⟩:∃c:Int,ns[k]%1000000000000000000000000000000000000000000000000000000000000=c/\0<=c:=⟨_,rfl,⋯⟩
  rw[hc];refine brS (λh1=>?_) (λh1=>?_)
  .simp! -implicitDefEqProofs [];rw[ZK (ZqX ⋯ ⋯)]
   simp! -implicitDefEqProofs [];exact q _ ⋯
  .simp! -implicitDefEqProofs [];exact q _ c0
 .obtain⟨c,hc,c0⟩:∃c:Int,0=c/\0<=c:=⟨_,rfl,⋯⟩
  rw[hc];simp! -implicitDefEqProofs [];rw[ZK (ZqX ⋯ ⋯)]
  simp! -implicitDefEqProofs [];exact q _ ⋯
noncomputable def tf(w m:Int)(p:Pt):Pt:=if w=0 then(p.1+m*p.2,p.2)else if w=1 then(p.1,p.2+m*p.1)else if w=2 then(0-p.2,p.1)else p
theorem Zvg(p q:Pt):X (tf w m p) (tf w m q)=X p q:=by
 unfold tf X;split
 .grind
 .split
  .grind
  .split
   .grind
   .rfl
theorem Zi5:ZaC (nts xs)=some xs:=by
 induction xs with
 |nil=>rfl
 |cons x r ih=>show(match ZaC (nts r)with|some bs=>some (x::bs)|none=>none)=_;rw[ih]
theorem ZqY{xs:List Int}(h:xs.max?=some v)(hv:v<=b):∀x∈xs,x<=b:=by
 intro x hx;exact Int.le_trans ((List.max?_le_iff h).mp (Int.le_refl v) x hx) hv
theorem Zgg(k:Nat)(hk:k=0\/k=1)(h:M[m]?=some (.lst (prs ss)))(hl:ss.length<=1000)(q:Q (.ref M.length) (M++[.lst (nts ((aC ss.length).map λ(i:Nat)=>(if k=0 then(cy ss i).1.natAbs else(cy ss i).2.natAbs:Int)))])):kCo (gTp (gCs (gNm 0) (gCs (gNm 1) gNl))) (λ_ M=>.ok true M) (Zj bAbs (Zc (Zg k) aNil)) 2 [] ρ Q (.sto m) M:=by
 refine ZkT (λρ=>∃x y,ρ=[x,y]) (λ(i:Nat)=>.int (if k=0 then(cy ss i).1.natAbs else(cy ss i).2.natAbs:Int)) h (by rw[ZG];lia) ⟨_,_,rfl⟩ ?_ (by rw[ZnB,ZG];exact q)
 rintro i hi ρ L ⟨x,y,rfl⟩;rw[ZcS];rcases hk with rfl|rfl
 .simp![Zp];exact⟨⟨_,_,rfl⟩,rfl⟩
 .simp![Zp];exact⟨⟨_,_,rfl⟩,rfl⟩
theorem ZnH(h:M[n]?=some (.lst (prs rs)))(hs:Smo rs)(hb:Nr 200 rs)(hl:rs.length<=1000)(q:∀ss m M',(∀i j:Int,X (cy ss i) (cy ss j)=X (cy rs i) (cy rs j))->Smo ss->Nr 200 ss->ss.length=rs.length->M'[m]?=some (.lst (prs ss))->M.length<=M'.length->(∀k,k<M.length->M'[k]?=M[k]?)->Q (.ref m) M'):wO (F_law_turn [.ref n,.int c] M) Q E:=by
 simp![F_law_turn,Zb2];refine Zbu (λi ρ M'=>∃ss m c x1 x2 x3 x4 x5 x6,ρ=[some (.ref m),some (.int c),x1,x2,x3,x4,x5,x6]/\(∀i j:Int,X (cy ss i) (cy ss j)=X (cy rs i) (cy rs j))/\Smo ss/\Nr 200 ss/\ss.length=rs.length/\M'[m]?=some (.lst (prs ss))/\M.length<=M'.length/\(∀k,k<M.length->M'[k]?=M[k]?)) ⟨rs,n,c,_,_,_,_,_,_,rfl,λ_ _=>rfl,hs,hb,rfl,h,ae _,λ_ _=>rfl⟩ ?_ ?_
 .rintro i ρ M1 hi ⟨ss,m,c,x1,x2,x3,x4,x5,x6,rfl,s0,s1,s2,s3,s4,s5,s6⟩;have hm:=Zo s4;simp![Za1];refine ZuL (λρ M'=>M'=M1/\∃u:Int,(-9<=u/\u<=9)/\ρ=[some (D.ref m),some (D.int c),some (D.int (0 + ↑i)),some (D.int u),x3,x4,x5,x6]) ?_ ?_
  .refine brS (λ_=>?_) (λ_=>?_)
   .simp![Zp];exact⟨_,⟨⋯,⋯⟩,rfl⟩
   .simp![Zp];exact⟨_,⟨⋯,⋯⟩,rfl⟩
  rintro _ M1 ⟨rfl,u,hu,rfl⟩;simp![Zp];generalize c%4=w;have hm1:(M1++[SO.lst []])[m]?=some (.lst (prs ss)):=by rw[ac hm];exact s4
  refine Zbd (λi ρ M'=>M'=M1++[.lst (prs ((ss.map (tf w u)).take i))]/\∃y x x',ρ=[some (D.ref m),some (D.int (c/3040)),y,some (D.int u),some (D.int w),some (D.ref M1.length),x,x']) hm1 ⟨by simp[prs],_,_,_,rfl⟩ (λi ρ M' hI=>by rw[hI.1,ac hm];exact s4) ?_ ?_
  .rintro i ρ M' hi ⟨rfl,y,x,x',rfl⟩;rw[ZcS];rw[ZG]at hi;have b1:=Nr.cy s2 s1.ne i;have tk:prs ((ss.map (tf w u)).take i)++[pr (tf w u (cy ss i)).1 (tf w u (cy ss i)).2]=prs ((ss.map (tf w u)).take (i+1)):=by
    rw[List.take_succ,bC,av hi,<-Zfj,ZeF hi];rfl
   have tl:((ss.map (tf w u)).take i).length<10000000:=by simp;lia
   have fin:∀a b:Int,tf w u (cy ss i)=(a,b)->M1++[.lst (prs ((ss.map (tf w u)).take i++[(a,b)]))]=M1++[.lst (prs ((ss.map (tf w u)).take (i+1)))]:=by
    intro a b e;rw[e]at tk;rw[<-Zgd,tk]
   simp![Za0];refine brS (λh1=>?_) (λh1=>?_)
   .simp![tl];exact⟨fin _ _ (by rw[tf,if_pos h1]),_,_,_,rfl⟩
   simp![Zp];refine brS (λh2=>?_) (λh2=>?_)
   .simp![tl];exact⟨fin _ _ (by rw[tf,if_neg h1,if_pos h2]),_,_,_,rfl⟩
   simp![Zp];refine brS (λh3=>?_) (λh3=>?_)
   .simp![tl];exact⟨fin _ _ (by rw[tf,if_neg h1,if_neg h2,if_pos h3]),_,_,_,rfl⟩
   .simp![tl];exact⟨fin _ _ (by rw[tf,if_neg h1,if_neg h2,if_neg h3]),_,_,_,rfl⟩
  .rintro ρ M' ⟨rfl,y,x,x',rfl⟩;rw[bU (by simp[ZG])]
   have e1:Smo (ss.map (tf w u)):=s1.map Zvg;have e0:∀i j:Int,X (cy (ss.map (tf w u)) i) (cy (ss.map (tf w u)) j)=X (cy rs i) (cy rs j):=λi j=>by rw[Zgf s1.ne,Zgf s1.ne,Zvg,s0]
   have e2:(ss.map (tf w u)).length=rs.length:=by simp;exact s3
   generalize ss.map (tf w u)=ts at *;have t4:(M1++[SO.lst (prs ts)])[M1.length]?=some (.lst (prs ts)):=by simp
   have l2:(M1++[SO.lst (prs ts)]).length=M1.length+1:=by simp
   have k2:∀k,k<M1.length->(M1++[SO.lst (prs ts)])[k]?=M1[k]?:=λk hk=>ac hk;generalize M1++[SO.lst (prs ts)]=M2 at *;simp![Zp];refine Zgg 0 (.inl rfl) t4 ⋯ ?_
   generalize hA:((aC ts.length).map λ(i:Nat)=>(if 0=0 then(cy ts i).1.natAbs else(cy ts i).2.natAbs:Int))=A
   have lA:A.length=ts.length:=by subst hA;simp
   simp![Zp];refine Zgg 1 (.inr rfl) (by rw[ac ⋯];exact t4) ⋯ ?_
   generalize hB:((aC ts.length).map λ(i:Nat)=>(if 1=0 then(cy ts i).1.natAbs else(cy ts i).2.natAbs:Int))=B
   have lB:B.length=ts.length:=by subst hB;simp
   simp![Zp];refine⟨⋯,?_⟩
   obtain⟨v,hv⟩:∃v,(A++B).max?=some v:=by
    cases e:(A++B).max? with
    |some v=>exact⟨v,rfl⟩
    |none=>
     rw[List.max?_eq_none_iff]at e;have h0:(A++B).length=0:=by rw[e];rfl
     have:=e1.len
     rw[aI]at h0;lia
   simp![ZiV,Zi5,hv];have hx:=λb (hb:v<=b)=>ZqY hv hb;refine brS (λh=>?_) (λh=>?_)
   .simp![Zp];have nr:Nr 200 ts:=by
     intro p hp;obtain⟨k,hk,rfl⟩:=cH hp;have a1:=hx 200 h (cy ts k).1.natAbs (by
      rw[bZ];left;subst hA;exact cx.mpr ⟨k,cu.mpr hk,rfl⟩)
     have a2:=hx 200 h (cy ts k).2.natAbs (by
      rw[bZ];right;subst hB;exact cx.mpr ⟨k,cu.mpr hk,rfl⟩)
     rw[ZeF hk]at a1 a2;lia
    exact⟨ts,_,_,_,_,_,_,_,_,rfl,e0,e1,nr,e2,by rw[ac ⋯];exact t4,⋯,λk hk=>by rw[ac ⋯,k2 k ⋯];exact s6 k hk⟩
   .simp![Zp];exact⟨ss,_,_,_,_,_,_,_,_,rfl,s0,s1,s2,s3,by rw[ac ⋯,k2 _ hm];exact s4,⋯,λk hk=>by rw[ac ⋯,k2 k ⋯];exact s6 k hk⟩
 .rintro ρ M1 ⟨ss,m,c,x1,x2,x3,x4,x5,x6,rfl,s0,s1,s2,s3,s4,s5,s6⟩;simp![Zp];exact q ss m M1 s0 s1 s2 s3 s4 s5 s6
theorem Zi6(h:M[n]?=some (.lst (prs rs)))(hs:Smo rs)(hb:Nr 200 rs)(hl:rs.length<=1000)(q:∀ss m M',Smo ss->Nr 200 ss->ss.length=rs.length->M'[m]?=some (.lst (prs ss))->M.length<=M'.length->(∀k,k<M.length->M'[k]?=M[k]?)->Q (.ref m) M'):wO (F_law_turn [.ref n,.int c] M) Q E:=
 ZnH h hs hb hl λss m M' _ a b c d e f=>q ss m M' a b c d e f
theorem ZcT(h1:X a w=p)(h2:X w b=q):in1 w a b=if 0<=p/\0<q then 1 else 0:=by unfold in1;rw[h1,h2]
theorem ZcU(h1:X a w=p)(h2:X w b=q):in2 w a b=if 0<p/\0<=q then 1 else 0:=by unfold in2;rw[h1,h2]
theorem Zwv:Fan [(1,0),(0,1),(-1,-1)]:=by
 rintro⟨x,y⟩ hw;have hw':¬(x=0/\y=0):=λz=>hw (by rw[z.1,z.2])
 have a1:X (1,0) (x,y)=y:=by simp[X]
 have a2:X (0,1) (x,y)= -x:=by simp[X]
 have a3:X (-1,-1) (x,y)=x-y:=by simp[X];lia
 have b1:X (x,y) (0,1)=x:=by simp[X]
 have b2:X (x,y) (-1,-1)=y-x:=by simp[X];lia
 have b3:X (x,y) (1,0)= -y:=by simp[X]
 simp only[cyc,iB,kP,bI,ip,cc];rw[ZcT a1 b1,ZcT a2 b2,ZcT a3 b3,ZcU a1 b1,ZcU a2 b2,ZcU a3 b3];clear a1 a2 a3 b1 b2 b3 hw;constructor
 all_goals
  repeat' split
  all_goals lia
theorem Zww(f:Int):Fan [(1,0),(0,1),(-1,f),(0,-1)]:=by
 rintro⟨x,y⟩ hw;have hw':¬(x=0/\y=0):=λz=>hw (by rw[z.1,z.2])
 have h0:x=0->x*f=0:=λz=>by rw[z,Int.zero_mul]
 have a1:X (1,0) (x,y)=y:=by simp[X]
 have a2:X (0,1) (x,y)= -x:=by simp[X]
 have a3:X (-1,f) (x,y)= -y-x*f:=by unfold X;simp only;grind
 have a4:X (0,-1) (x,y)=x:=by simp[X]
 have b1:X (x,y) (0,1)=x:=by simp[X]
 have b2:X (x,y) (-1,f)=x*f+y:=by unfold X;simp only;grind
 have b3:X (x,y) (0,-1)= -x:=by simp[X]
 have b4:X (x,y) (1,0)= -y:=by simp[X]
 simp only[cyc,iB,kP,bI,ip,cc];rw[ZcT a1 b1,ZcT a2 b2,ZcT a3 b3,ZcT a4 b4,ZcU a1 b1,ZcU a2 b2,ZcU a3 b3,ZcU a4 b4];clear a1 a2 a3 a4 b1 b2 b3 b4 hw;generalize x*f=z at *;constructor
 all_goals
  repeat' split
  all_goals lia
theorem Zwx:Smo [(1,0),(0,1),(-1,-1)]:=by
 refine⟨by decide,ZdK (P:=λa b=>X a b=1) (by decide) ?_,Zwv⟩
 intro i h0 h1
 have:i=0\/i=1\/i=2:=by simp at h1;lia
 rcases this with rfl|rfl|rfl<;>rfl
theorem Zwy(f:Int):Smo [(1,0),(0,1),(-1,f),(0,-1)]:=by
 refine⟨by simp,ZdK (P:=λa b=>X a b=1) (by simp) ?_,Zww f⟩
 intro i h0 h1
 have:i=0\/i=1\/i=2\/i=3:=by simp at h1;lia
 rcases this with rfl|rfl|rfl|rfl<;>simp[X,cy]
theorem Zgh{t:Int}(hc:0<=c)(ht:3<=t/\t<=1000)(q:∀ss m M',Smo ss->Nr 200 ss->ss.length<=t->M'[m]?=some (.lst (prs ss))->M.length<=M'.length->(∀k,k<M.length->M'[k]?=M[k]?)->Q (.ref m) M'):wO (F_law_smooth [.int c,.int t] M) Q E:=by
 simp![F_law_smooth,Zbf];have r0:=bF c (show t-2≠0 by lia)
 have r1:=aX c (show 0<t-2 by lia)
 have d0:0<=c/(t-2):=Int.ediv_nonneg hc ⋯
 generalize c%(t-2)=r at *;generalize c/(t-2)=c1 at *;refine ZuI (λk M'=>M'=(M++[SO.lst [D.tup [D.int 1,D.int 0],D.tup [D.int 0,D.int 1],D.tup [D.int (-1),D.int (-1)]]])/\(k=true->3<3+r)) ?_ ?_
 .refine brO (λh=>?_) (λh=>?_)
  .simp![Zp];exact λ_=>h
  .simp![Zp];exact λz=>by cases z
 rintro k _ ⟨rfl,hk⟩;simp![Zp];refine ZuL (λρ M'=>∃ss m x4,ρ=[some (D.int c1),some (D.int t),some (D.int (3+r)),some (D.ref m),x4,none,none,none,none,none]/\Smo ss/\Nr 200 ss/\(ss.length:Int)<=3+r/\M'[m]?=some (.lst (prs ss))/\M.length<=M'.length/\(∀k,k<M.length->M'[k]?=M[k]?)) ?_ ?_
 .refine Zts (λh=>?_) (λh=>?_)
  .have h3:=hk h;simp![Zp];obtain⟨z,hz,z0⟩:∃z:Int,c1/512%4=z/\(z=0\/z=1\/z=2\/z=3):=⟨_,rfl,⋯⟩
   rw[hz];obtain⟨f,hf,f0⟩:∃f:Int,atI [D.int 3,D.int 4,D.int 6,D.int 40] z=some (.int f)/\(0<f/\f<=40):=by
    rcases z0 with rfl|rfl|rfl|rfl
    .exact⟨3,rfl,by decide,by decide⟩
    .exact⟨4,rfl,by decide,by decide⟩
    .exact⟨6,rfl,by decide,by decide⟩
    .exact⟨40,rfl,by decide,by decide⟩
   simp![hf];have g0:=bF (c1/4) (show f≠0 by lia)
   have g1:=aX (c1/4) (show 0<f by lia)
   generalize c1/4%f=far at *;refine⟨[(1,0),(0,1),(-1,far),(0,-1)],_,_,rfl,Zwy far,?_,by simp;lia,?_,⋯,?_⟩
   .intro p hp;simp at hp;rcases hp with rfl|rfl|rfl|rfl<;>simp<;>lia
   .rw[ZrU];rfl
   .intro k hk;rw[ZeD hk]
  .simp![Zp];refine⟨[(1,0),(0,1),(-1,-1)],_,_,rfl,Zwx,?_,by simp;lia,?_,⋯,?_⟩
   .intro p hp;simp at hp;rcases hp with rfl|rfl|rfl<;>simp
   .rw[Znw];rfl
   .intro k hk;rw[ZeD hk]
 rintro _ M1 ⟨ss,m,x4,rfl,s1,s2,s3,s4,s5,s6⟩;have hl3:=s1.len;simp![s4];refine⟨⋯,?_⟩
 refine Zbu (λi ρ M'=>∃tt m c x4 x5 x6 x7 x8 x9,ρ=[some (D.int c),some (D.int t),some (D.int (3+r)),some (D.ref m),x4,x5,x6,x7,x8,x9]/\0<=c/\Smo tt/\Nr 200 tt/\tt.length<=ss.length+i/\M'[m]?=some (.lst (prs tt))/\M.length<=M'.length/\(∀k,k<M.length->M'[k]?=M[k]?)) ?_ ?_ ?_
 .exact⟨ss,m,_,_,_,_,_,_,_,rfl,⋯,s1,s2,⋯,s4,s5,s6⟩
 .rintro i ρ M2 hi ⟨tt,m,c,x4,x5,x6,x7,x8,x9,rfl,c0,t1,t2,t3,t4,t5,t6⟩;have tl:=t1.len;have hm:=Zo t4;simp![Zav,t4];obtain⟨a,ha,a0⟩:∃a:Nat,c%(tt.length:Int)=a/\a<tt.length:=by
   have:=ZaL (i:=c) (m:=tt.length) ⋯
   exact⟨(c%(tt.length:Int)).toNat,⋯,this.1⟩
  rw[ha];have e1:=ZaL (i:=(a:Int)+1) (m:=tt.length) ⋯
  simp![t4,ZcN,Zbe];have b1:=Nr.cy t2 t1.ne a;have b2:=Nr.cy t2 t1.ne (a+1);have sm:=t1.ins a0;have nr:=λh=>Nr.ins (k:=a) (p:=((cy tt a).1+(cy tt (a+1)).1,(cy tt a).2+(cy tt (a+1)).2)) t2 h;generalize hx:(cy tt a).1+(cy tt (a+1)).1=x at *;generalize hy:(cy tt a).2+(cy tt (a+1)).2=y at *;refine ZuI (λk M'=>M'=M2/\(k=true->(-200<=x/\x<=200)/\ -200<=y/\y<=200)) ?_ ?_
  .refine brO (λh=>?_) (λh=>?_)
   .simp![Zp];intro h2
    have:=of_decide_eq_true h2
    lia
   .simp![Zp];exact λz=>by cases z
  rintro k M2 ⟨rfl,hk⟩;simp![Zp];refine Zts (λh=>?_) (λh=>?_)
  .have le:((a:Int)+1).toNat=a+1:=⋯
   simp![t4,le,ZdI,ZdJ];refine⟨by rw[cQ];lia,by rw[cQ,fF];lia,ins tt a (x,y),_,_,_,_,_,_,_,_,rfl,⋯,sm,nr (hk h),by rw[Zfm a0];lia,?_,⋯,?_⟩
   .rw[ZrU];rfl
   .intro k hk;rw[ZeD ⋯]
    exact t6 k hk
  .simp![Zp];exact⟨tt,_,_,_,_,_,_,_,_,rfl,⋯,t1,t2,⋯,t4,t5,t6⟩
 .rintro ρ M2 ⟨tt,m,c,x4,x5,x6,x7,x8,x9,rfl,c0,t1,t2,t3,t4,t5,t6⟩;simp![Zp];refine Zi6 t4 t1 t2 ⋯ ?_
  intro uu m' M3 u1 u2 u3 u4 u5 u6;have ul:=u1.len;have hm':=Zo u4;simp![u4];obtain⟨a,ha,a0⟩:∃a:Nat,c/1000000000000%(uu.length:Int)=a/\a<uu.length:=by
   have:=ZaL (i:=c/1000000000000) (m:=uu.length) ⋯
   exact⟨(c/1000000000000%(uu.length:Int)).toNat,⋯,this.1⟩
  rw[ha];have le:(a:Int).toNat=a:=⋯
  simp![u4,le,ZdI,ZdJ,Zfj];refine⟨by rw[cQ,fF];lia,?_⟩
  refine q (uu.drop a++uu.take a) _ _ (u1.rot ⋯) (Nr.rot u2) (by rw[aI,cQ,fF];lia) (by rw[ZrU];rfl) (by rw[aI];lia) (λk hk=>?_)
  rw[ZeD ⋯,u6 k ⋯,t6 k hk]
end
end CC
namespace DL
def T(rs:List Pt)(i:Int):Int:=0-X (cy rs (i-1)) (cy rs (i+1))
def ZtS(rs:List Pt):List Int:=(aC rs.length).map λ(i:Nat)=>T rs i
end DL
namespace CC
open L2 DL
end CC
namespace DL
noncomputable def del(rs:List Pt)(k:Nat):List Pt:=rs.take k++rs.drop (k+1)
noncomputable def nm(p:Pt):Int:=p.1*p.1+p.2*p.2
theorem Zi7(h1:0<=X a w)(h2:0<X w b):in1 w a b=1:=by unfold in1;rw[if_pos ⟨h1,h2⟩]
theorem XX(p:Pt):X p p=0:=by unfold X;grind
end DL
namespace CE
open L2 DL
open CC (ZbU F_crossed ZaX F_following Zac ZaY F_unspanned ZaG F_ask_smooth)
end CE
namespace CE
open L2 DL
end CE
namespace CF
open L2 DL CC
end CF
namespace CF
open L2 DL
end CF
namespace DL
open L2 DL
end DL
namespace CB
open L2 DL
end CB
namespace DL
noncomputable def hj(t b:Int):List Int:=if h:0<b then -((-t)/b)::hj b (-((-t)/b)*b-t)else[]
termination_by b.toNat
decreasing_by
 have h1:=bF (-t) (show b≠0 by lia)
 have h2:=aX (-t) h;have h3:=Int.emod_add_mul_ediv (-t) b;rw[jp,Int.mul_comm];lia
end DL
namespace CB
open L2 DL
section
variable {a:Int}{u v w:Pt}
structure Fb(u v w:Pt):Prop where
 one:X u w=1
 lo:0<=X w v
 hi:X w v<X u v
theorem Fb.uniq{w:Pt}(h:Fb u v w)(k:Fb u v w'):w=w':=by
 obtain⟨h1,a1,a2⟩:=h;obtain⟨h2,b1,b2⟩:=k;have e1:w'.1=X w' w*u.1+w.1/\w'.2=X w' w*u.2+w.2:=by unfold X at *;constructor<;>grind
 have e2:X w' v=X w' w*X u v+X w v:=by
  have:X w' v=X (X w' w*u.1+w.1,X w' w*u.2+w.2) v:=by rw[<-e1.1,<-e1.2]
  rw[this];unfold X;simp only;grind
 generalize X w' w=k at *;have k0:k=0:=by
  apply cX;intro c;by_cases p:1<=k
  .have:1*X u v<=k*X u v:=eL p ⋯
   lia
  .have:k*X u v<=(-1)*X u v:=eL ⋯ ⋯
   lia
 rw[k0]at e1;apply gy<;>lia
noncomputable def btw:Pt->Pt->List Int->List Pt
 |_,_,[]=>[]
 |a,r,k::ks=>r::btw r (k*r.1-a.1,k*r.2-a.2) ks
end
end CB
namespace CB
open L2 DL
section
variable {a b d:Int}
def Ch:List Pt->Prop
 |a::b::r=>X a b=1/\Ch (b::r)
 |_=>True
noncomputable def Tr(a b d:Pt):Prop:=∃k:Int,2<=k/\a.1+d.1=k*b.1/\a.2+d.2=k*b.2
def Cv:List Pt->Prop
 |a::b::d::r=>Tr a b d/\Cv (b::d::r)
 |_=>True
noncomputable def dt(f p:Pt):Int:=f.1*p.1+f.2*p.2
end
end CB
namespace CA
open L2 DL
end CA
namespace CA
open L2 DL
end CA
namespace CY
open L2 DL CA
end CY
namespace CY
open L2 DL
theorem Gr.of(hb:Bag n M)(l:M.length<=M'.length)(g:∀k,k<M.length->M'[k]?=M[k]?):Gr n M M':=by
 refine⟨l,?_,λk _ hk=>g k hk⟩;obtain⟨a,b,h,e⟩:=id hb;exact⟨a,b,h,(g n hb.lt).trans e⟩
end CY
namespace CR
open L2 DL
def Zb3:Sv:=(Zae (ZhB (Zod "int" (Zg 0)) (ZhC (Zod "bool" (Zg 0)))))
def F_is_whole:W3:=fnF Zb3 1 0
def Zag:Sv:=(ZgP 2 3 (Zc (Zg 3) (Zc (e2 dMod (Zg 2) (Zg 3)) aNil)))
def ZaH:Sv:=(Zy (ZgP 2 3 (Zc (Zj bAbs (Zc (Zg 0) aNil)) (Zc (Zj bAbs (Zc (Zg 1) aNil)) aNil))) (Zy (sWh (tv (e2 dNe (Zg 3) (eC (.int 0)))) Zag) (Zae (Zg 2))))
def F_greatest_divisor:W3:=fnF ZaH 2 2
def Zfo:Sv:=(Zy (sIf (Zmu (Ze2 (tv (Zj F_is_whole (Zc (Zg 0) aNil)))) (Ze2 (tv (Zj F_is_whole (Zc (Zg 1) aNil))))) (Zel (PySem.Str.ofString "NoRatio") (Zc (eC (.str (PySem.Str.ofString "a ratio is made of two whole numbers"))) aNil)) sNil) (Zy (sIf (tv (e2 dEq (Zg 1) (eC (.int 0)))) (Zel (PySem.Str.ofString "NoRatio") (Zc (eC (.str (PySem.Str.ofString "the bottom of a ratio is not 0"))) aNil)) sNil) (Zy (ZF (gNm 2) (Zj F_greatest_divisor (Zc (Zg 0) (Zc (Zg 1) aNil)))) (Zy (sIf (tv (e2 dLt (Zg 1) (eC (.int 0)))) (ZF (gNm 2) (Ze4 (Zg 2))) sNil) (Zae (Zal (Zc (e2 dDiv (Zg 0) (Zg 2)) (Zc (e2 dDiv (Zg 1) (Zg 2)) aNil))))))))
def F_ratio:W3:=fnF Zfo 2 1
def Zi8:Sv:=(Zae (Zj F_ratio (Zc (e2 dAdd (e2 dMul (e2 dIx (Zg 0) (eC (.int 0))) (e2 dIx (Zg 1) (eC (.int 1)))) (e2 dMul (e2 dIx (Zg 1) (eC (.int 0))) (e2 dIx (Zg 0) (eC (.int 1))))) (Zc (e2 dMul (e2 dIx (Zg 0) (eC (.int 1))) (e2 dIx (Zg 1) (eC (.int 1)))) aNil))))
def F_plus:W3:=fnF Zi8 2 0
def Zfp:Sv:=(Zae (Zj F_ratio (Zc (e2 dMul (e2 dIx (Zg 0) (eC (.int 0))) (e2 dIx (Zg 1) (eC (.int 0)))) (Zc (e2 dMul (e2 dIx (Zg 0) (eC (.int 1))) (e2 dIx (Zg 1) (eC (.int 1)))) aNil))))
def F_times:W3:=fnF Zfp 2 0
end CR
namespace CR
open L2 DL
abbrev rt(q:Rat):D:=pr q.num (q.den:Int)
noncomputable def Sz(k:Nat)(q:Rat):Prop:=q.num.natAbs<2^k/\q.den<2^k
theorem ZqZ:F_greatest_divisor=FGcd:=rfl
theorem ZcV(h:0<j)(hk:j.natAbs<2^k)(hk2:k<=8000):wO (dDiv (.int i) (.int j) M) Q E=Q (.int (i/j)) M:=by
 have:ZaK j:=⟨⋯,by
  have:j.natAbs.log2<k:=(Nat.log2_lt ⋯).mpr hk
  lia⟩
 show wO (if ZaK j then _ else _) Q E=_
 rw[if_pos this,ja _ ⋯];rfl
theorem Zi9(hb:b≠0):rt (bH t b hb)=pr (t/(ft t b:Nat)) ((b:Int)/(ft t b:Nat)):=by
 unfold rt;rw[Rat.num_normalize,Rat.den_normalize,hG];rfl
theorem ZlJ{b:Nat}(hb:b≠0)(h:b<2^k):0<ft t b/\ft t b<2^k:=by
 have h1:ft t b ∣ b:=Int.gcd_dvd_natAbs_right t b;have h2:=Nat.le_of_dvd ⋯ h1
 have h3:ft t b≠0:=λz=>by
  rw[z]at h1;exact hb (Nat.eq_zero_of_zero_dvd h1)
 lia
theorem ZdM{b:Nat}(hb:b≠0)(h:b<2^k)(hk:k<=8000):wO (F_ratio [.int t,.int b] M) Q E=Q (rt (bH t b hb)) M:=by
 obtain⟨g0,g1⟩:=ZlJ (t:=t) hb h;have gw:∀{Q:W0},wO (FGcd [.int t,.int b] M) Q E=Q (.int (ft t b:Nat)) M:=by
  intro Q;rw[ZlB];rfl
 rw[Zi9 hb];generalize ft t b=g at *;simp![F_ratio,Zfo,F_is_whole,Zb3,ZqZ,gw];rw[ZcV (k:=k) ⋯ (by simpa using g1) hk]
 simp![Zp];rw[ZcV (k:=k) ⋯ (by simpa using g1) hk]
 simp![Zp]
theorem ZbA(hb:b≠0)(ht:t.natAbs<2^k)(h:b<2^k):Sz k (bH t b hb):=by
 refine⟨?_,?_⟩
 .rw[Rat.num_normalize];exact eS (Int.natAbs_ediv_le_natAbs _ _) ht
 .rw[Rat.den_normalize];exact eS (iz _ _) h
theorem Z0(hx:x<2^k)(hy:y<2^l):x*y<2^(k+l):=by
 rw[mo];exact Nat.mul_lt_mul'' hx hy
theorem Zq0(hp:Sz k p)(hq:Sz l q)(hk:k+l<=8000):wO (F_plus [rt p,rt q] M) Q E=Q (rt (p+q)) M:=by
 have nz:p.den*q.den≠0:=eZ p.den_nz q.den_nz;have f1:Zs p.num (q.den:Int):=Zn k l hp.1 (by simpa using hq.2) ⋯ ⋯
 have f2:Zs q.num (p.den:Int):=Zn l k hq.1 (by simpa using hp.2) ⋯ ⋯
 have f3:Zs (p.den:Int) (q.den:Int):=Zn k l (by simpa using hp.2) (by simpa using hq.2) ⋯ ⋯
 simp![F_plus,Zi8,ZK f1,ZK f2,ZK f3];rw[show(p.den:Int)*(q.den:Int)=((p.den*q.den:Nat):Int)by simp,ZdM nz (Z0 hp.2 hq.2) hk,<-mq]
theorem Zb4(hp:Sz k p)(hq:Sz l q)(hk:k+l<=8000):wO (F_times [rt p,rt q] M) Q E=Q (rt (p*q)) M:=by
 have nz:p.den*q.den≠0:=eZ p.den_nz q.den_nz;have f1:Zs p.num q.num:=Zn k l hp.1 hq.1 ⋯ ⋯
 have f3:Zs (p.den:Int) (q.den:Int):=Zn k l (by simpa using hp.2) (by simpa using hq.2) ⋯ ⋯
 simp![F_times,Zfp,ZK f1,ZK f3];rw[show(p.den:Int)*(q.den:Int)=((p.den*q.den:Nat):Int)by simp,ZdM nz (Z0 hp.2 hq.2) hk,<-mw]
theorem ZaI(hp:Sz k p)(hq:Sz l q):Sz (k+l) (p*q):=by
 rw[mw];exact ZbA _ (by rw[a7];exact Z0 hp.1 hq.1) (Z0 hp.2 hq.2)
theorem Zja(hp:Sz k p)(hq:Sz l q):Sz (k+l+1) (p+q):=by
 rw[mq];have h1:=Z0 hp.1 hq.2;have h2:=Z0 hq.1 hp.2;have h3:=Z0 hp.2 hq.2;rw[iF l k]at h2;refine ZbA _ ?_ ?_
 .have e1:(p.num*(q.den:Int)).natAbs=p.num.natAbs*q.den:=by rw[a7];rfl
  have e2:(q.num*(p.den:Int)).natAbs=q.num.natAbs*p.den:=by rw[a7];rfl
  have:=gP (p.num*(q.den:Int)) (q.num*(p.den:Int))
  rw[jY];lia
 .rw[jY];lia
end CR
namespace CH
open L2 DL CA CR
end CH
namespace CH
open L2 DL
open CR (rt Sz)
def rts(hs:List Rat):List D:=hs.map rt
theorem Zu:(rts hs).length=hs.length:=af _
theorem ZI:rts hs++[rt q]=rts (hs++[q]):=by simp[rts]
end CH
namespace CS
open L2 DL CC CR
def Zfq:Sv:=(Zae (Zj F_ratio (Zc (e2 dSub (e2 dMul (e2 dIx (Zg 0) (eC (.int 0))) (e2 dIx (Zg 1) (eC (.int 1)))) (e2 dMul (e2 dIx (Zg 1) (eC (.int 0))) (e2 dIx (Zg 0) (eC (.int 1))))) (Zc (e2 dMul (e2 dIx (Zg 0) (eC (.int 1))) (e2 dIx (Zg 1) (eC (.int 1)))) aNil))))
def F_minus:W3:=fnF Zfq 2 0
def ZdN:Sv:=(Zae (Zj F_plus (Zc (Zj F_times (Zc (e2 dIx (Zg 0) (eC (.int 0))) (Zc (Zal (Zc (e2 dIx (Zg 1) (eC (.int 0))) (Zc (eC (.int 1)) aNil))) aNil))) (Zc (Zj F_times (Zc (e2 dIx (Zg 0) (eC (.int 1))) (Zc (Zal (Zc (e2 dIx (Zg 1) (eC (.int 1))) (Zc (eC (.int 1)) aNil))) aNil))) aNil))))
def F_sloped:W3:=fnF ZdN 2 0
def Zaw:Sv:=(Zy (ZF (gTp (gCs (gTp (gCs (gNm 2) (gCs (gNm 3) gNl))) (gCs (gTp (gCs (gNm 4) (gCs (gNm 5) gNl))) gNl))) (Zal (Zc (e2 dIx (Zg 0) (eC (.int 0))) (Zc (e2 dIx (Zg 0) (eC (.int 1))) aNil)))) (Zy (ZgP 6 7 (Zc (e2 dIx (Zg 1) (eC (.int 0))) (Zc (e2 dIx (Zg 1) (eC (.int 1))) aNil))) (Zae (Zal (Zc (Zj F_minus (Zc (Zj F_times (Zc (Zg 6) (Zc (Zal (Zc (Zg 5) (Zc (eC (.int 1)) aNil))) aNil))) (Zc (Zj F_times (Zc (Zg 7) (Zc (Zal (Zc (Zg 3) (Zc (eC (.int 1)) aNil))) aNil))) aNil))) (Zc (Zj F_minus (Zc (Zj F_times (Zc (Zg 7) (Zc (Zal (Zc (Zg 2) (Zc (eC (.int 1)) aNil))) aNil))) (Zc (Zj F_times (Zc (Zg 6) (Zc (Zal (Zc (Zg 4) (Zc (eC (.int 1)) aNil))) aNil))) aNil))) aNil))))))
def F_slope_through:W3:=fnF Zaw 2 6
def Zbg:Sv:=(sIf (tv (e2 dNe (Zj bLen (Zc (Zg 1) aNil)) (Zj bLen (Zc (Zg 0) aNil)))) (Zel (PySem.Str.ofString "NoHeight") (Zc (eFs (ZdA (eC (.str (PySem.Str.ofString "a height of "))) (ZdA (eFm (Zj bLen (Zc (Zg 0) aNil))) (ZdA (eC (.str (PySem.Str.ofString " rays has not "))) (ZdA (eFm (Zj bLen (Zc (Zg 1) aNil))) (ZdA (eC (.str (PySem.Str.ofString " ratios"))) jNil)))))) aNil)) sNil)
def F_ask_height:W3:=fnF Zbg 2 0
end CS
namespace CS
open L2 DL
open CR (rt Sz)
theorem ZcW(z:Int):pr z 1=rt (z:Rat):=by
 unfold rt;rw[Rat.num_intCast,Rat.den_intCast];rfl
theorem Zax{z:Int}(h:z.natAbs<2^k)(hk:1<=k):Sz k (z:Rat):=by
 refine⟨by rw[Rat.num_intCast];exact h,by rw[Rat.den_intCast];exact Nat.one_lt_two_pow ⋯⟩
theorem ZdO(hp:Sz k p)(hq:Sz l q)(hk:k+l<=8000):wO (F_minus [rt p,rt q] M) Q E=Q (rt (p-q)) M:=by
 have nz:p.den*q.den≠0:=eZ p.den_nz q.den_nz;have f1:Zs p.num (q.den:Int):=Zn k l hp.1 (by simpa using hq.2) ⋯ ⋯
 have f2:Zs q.num (p.den:Int):=Zn l k hq.1 (by simpa using hp.2) ⋯ ⋯
 have f3:Zs (p.den:Int) (q.den:Int):=Zn k l (by simpa using hp.2) (by simpa using hq.2) ⋯ ⋯
 simp![F_minus,Zfq,ZK f1,ZK f2,ZK f3];rw[show(p.den:Int)*(q.den:Int)=((p.den*q.den:Nat):Int)by simp,CR.ZdM nz (CR.Z0 hp.2 hq.2) hk,<-Rat.sub_def]
theorem Zcg(hp:Sz k p)(hq:Sz l q):Sz (k+l+1) (p-q):=by
 rw[Rat.sub_def];have h1:=CR.Z0 hp.1 hq.2;have h2:=CR.Z0 hq.1 hp.2;have h3:=CR.Z0 hp.2 hq.2;rw[iF l k]at h2;refine CR.ZbA _ ?_ ?_
 .have e1:(p.num*(q.den:Int)).natAbs=p.num.natAbs*q.den:=by rw[a7];rfl
  have e2:(q.num*(p.den:Int)).natAbs=q.num.natAbs*p.den:=by rw[a7];rfl
  have:=fw (p.num*(q.den:Int)) (q.num*(p.den:Int))
  rw[jY];lia
 .rw[jY];lia
noncomputable def slp(m:Rat×Rat)(r:Pt):Rat:=m.1*(r.1:Rat)+m.2*(r.2:Rat)
theorem ZkU(h1:Sz k m.1)(h2:Sz k m.2)(hr:(-B<=r.1/\r.1<=B)/\ -B<=r.2/\r.2<=B)(hk:k<=3000)(hB:B<=400:=by first|decide|assumption):wO (F_sloped [.tup [rt m.1,rt m.2],pr r.1 r.2] M) Q E=Q (rt (slp m r)) M:=by
 have s1:Sz 9 (r.1:Rat):=Zax ⋯ (by decide)
 have s2:Sz 9 (r.2:Rat):=Zax ⋯ (by decide)
 simp![F_sloped,ZdN];rw[show D.tup [D.int r.1,D.int 1]=rt (r.1:Rat)from ZcW r.1,CR.Zb4 h1 s1 ⋯]
 simp![Zp];rw[show D.tup [D.int r.2,D.int 1]=rt (r.2:Rat)from ZcW r.2,CR.Zb4 h2 s2 ⋯]
 simp![Zp];rw[CR.Zq0 (CR.ZaI h1 s1) (CR.ZaI h2 s2) ⋯]
 rfl
end CS
namespace CN
open L2 DL
open CC (F_following)
open CR (F_plus F_times)
open CS (F_ask_height)
end CN
namespace CN
open L2 DL
open CR (rt Sz)
open CH (rts Zu ZI)
noncomputable def cq(hs:List Rat)(i:Int):Rat:=hs.getD (i%hs.length).toNat 0
theorem Zbv(h: -(hs.length:Int)<=i/\i<hs.length):atI (rts hs) i=some (rt (cq hs i)):=by
 unfold atI;rw[Zu,ZiW h];have hp:(i%hs.length).toNat<hs.length:=by
  have:=aX i (show(0:Int)<hs.length by lia)
  have:=bF i (show(hs.length:Int)≠0 by lia)
  lia
 simp[rts,cq,av hp]
theorem Zch:cq hs (i%hs.length)=cq hs i:=by unfold cq;rw[ic _ (lY _)]
theorem Z4{hs:List Rat}(h:k<hs.length):cq hs k=hs[k]:=by
 unfold cq;rw[bf ⋯ ⋯]
 simp[av h]
theorem Zbh(h:∀x∈hs,Sz k x)(hn:hs.length≠0):Sz k (cq hs i):=by
 unfold cq
 have:=(ZaL (i:=i) hn).1
 rw[aK,av this];exact h _ (bJ this)
theorem Zay(h:i<(rts hs).length):(rts hs)[i]=rt (cq hs i):=by
 rw[Zu]at h;rw[Z4 h];simp[rts]
def bnd(rs:List Pt)(hs:List Rat)(i:Int):Rat:=cq hs (i-1)+cq hs (i+1)+(T rs i:Rat)*cq hs i
theorem ZeH(h:M[n]?=some (.lst (prs rs)))(h':M[m]?=some (.lst (rts hs)))(e:hs.length=rs.length)(q:Q .non M):wO (CS.F_ask_height [.ref n,.ref m] M) Q E:=by
 simp![CS.F_ask_height,CS.Zbg,h,h',Zu,e];exact q
end CN
namespace CN
open L2 DL
open CR (rt Sz)
open CH (rts Zu ZI)
theorem ZnI(h:i<(nts ts).length):(nts ts)[i]=.int (cn ts i):=by
 rw[ZdH]at h;rw[ZlE h];simp[nts]
theorem Zgi(t:Int)(x:Rat):bH (t*x.num) x.den x.den_nz=(t:Rat)*x:=by
 rw[mw];simp
end CN
namespace CN
open L2 DL
open CR (rt Sz)
open CH (rts Zu ZI)
end CN
namespace CU
open L2 DL
open CC (F_ask_smooth)
open CS (F_ask_height F_minus F_slope_through F_sloped)
end CU
namespace CU
open L2 DL
open CR (rt Sz)
open CH (rts Zu ZI)
open CN CS
noncomputable def ZcX(xs ys:List Rat):List Rat:=bT (· - ·) xs ys
def thr(rs:List Pt)(hs:List Rat):Rat×Rat:=(cq hs 0*(cy rs 1).2-cq hs 1*(cy rs 0).2,cq hs 1*(cy rs 0).1-cq hs 0*(cy rs 1).1)
abbrev rp(m:Rat×Rat):D:=.tup [rt m.1,rt m.2]
theorem Zjb(h:rt p=rt q):p=q:=by
 unfold rt pr at h;injection h with h;injection h with h1 h;injection h with h2;injection h1 with h1;injection h2 with h2;exact Rat.ext h1 ⋯
theorem ZnJ:rts xs=rts ys↔xs=ys:=by
 refine⟨λh=>?_,λh=>by rw[h]⟩
 induction xs generalizing ys with
 |nil=>cases ys with
  |nil=>rfl
  |cons y ys=>simp[rts]at h
 |cons x xs ih=>
  cases ys with
  |nil=>simp[rts]at h
  |cons y ys=>
   simp only[rts,aR,f7]at h;rw[Zjb h.1,ih h.2]
theorem ZdP:rts hs=prs (hs.map λq=>(q.num,(q.den:Int))):=by
 simp[rts,prs]
theorem Zq1{xs:List Rat}:xs.map (λq=>(q.num,(q.den:Int)))=ys.map (λq=>(q.num,(q.den:Int)))↔xs=ys:=by
 refine⟨λh=>?_,λh=>by rw[h]⟩
 rw[<-ZnJ,ZdP,ZdP,h]
section
variable {n:Nat}
theorem ZtT(h1:M[n]?=some (.lst (rts xs)))(h2:M[m]?=some (.lst (rts ys))):eqF (k+3) M (.ref n) (.ref m)=some (decide (xs=ys)):=by
 rw[Zny h1 h2,ZdP,ZdP,Zqe];by_cases e:xs=ys
 .subst e;simp
 .rw[decide_eq_false e];split
  .rw[decide_eq_false (λz=>e (Zq1.mp z))]
  .rfl
theorem Zjc(h:M[n]?=some (.lst (prs rs)))(hb:Nr B rs)(h2:2<=rs.length)(h':M[m]?=some (.lst (rts hs)))(e:2<=hs.length)(hz:∀x∈hs,Sz k x)(hk:k<=2000)(hB:B<=400:=by first|decide|assumption):wO (F_slope_through [.ref n,.ref m] M) Q E=Q (rp (thr rs hs)) M:=by
 have hn:rs≠[]:=by intro z;rw[z]at h2;simp at h2
 have a:=hb _ (ZQ (i:=0) hn);have b:=hb _ (ZQ (i:=1) hn);have z0:=Zbh (i:=0) hz ⋯
 have z1:=Zbh (i:=1) hz ⋯
 simp![F_slope_through,Zaw,h,h',ZcN,Zbv];have sz (z:Int) (hz: -B<=z/\z<=B):Sz 9 (z:Rat):=Zax ⋯ (by decide)
 have re (z:Int):D.tup [D.int z,D.int 1]=rt (z:Rat):=ZcW z;rw[re,CR.Zb4 z0 (sz _ b.2) ⋯]
 simp![Zp];rw[re,CR.Zb4 z1 (sz _ a.2) ⋯]
 simp![Zp];rw[ZdO (CR.ZaI z0 (sz _ b.2)) (CR.ZaI z1 (sz _ a.2)) ⋯]
 simp![Zp];rw[re,CR.Zb4 z1 (sz _ a.1) ⋯]
 simp![Zp];rw[re,CR.Zb4 z0 (sz _ b.1) ⋯]
 simp![Zp];rw[ZdO (CR.ZaI z1 (sz _ a.1)) (CR.ZaI z0 (sz _ b.1)) ⋯]
 simp![Zp];rfl
theorem Zbp(h1:xs.length=n)(h2:ys.length=n):(ZcX xs ys).length=n:=by simp[ZcX,h1,h2]
theorem ZnK(h1:∀x∈xs,Sz k x)(h2:∀x∈ys,Sz l x):∀x∈ZcX xs ys,Sz (k+l+1) x:=by
 intro x hx;obtain⟨i,hi,rfl⟩:=cH hx;simp[ZcX]at hi ⊢;exact Zcg (h1 _ (bJ _)) (h2 _ (bJ _))
theorem Zgj(ex:xs.length=n)(ey:ys.length=n)(h:k<n):cq (ZcX xs ys) k=cq xs k-cq ys k:=by
 have l:(ZcX xs ys).length=n:=Zbp ex ey;rw[Z4 ⋯,Z4 ⋯,Z4 ⋯]
 simp[ZcX]
theorem Zfr{F:Nat->Rat}(h1:xs.length=n)(h:∀i<n,F i=cq xs i):(aC n).map (λ(i:Nat)=>rt (F i))=rts xs:=by
 apply eN
 .rw[Zu,h1];simp
 .intro i hi hi';simp at hi;rw[Zay];simp[h i hi]
end
end CU
namespace CV
open L2 DL
open CR (rt Sz)
open CH (rts Zu ZI)
open CN CU CS
noncomputable def Kp(M M':Sto):Prop:=M.length<=M'.length/\∀j<M.length,M'[j]?=M[j]?
section
variable {M M1 M2:Sto}{j:Nat}
theorem Kp.of(l:M.length<=M'.length)(g:∀j<M.length,M'[j]?=M[j]?):Kp M M':=⟨l,g⟩
theorem Kp.get(k:Kp M M')(h:M[j]?=some o):M'[j]?=some o:=(k.2 _ (Zo h)).trans h
theorem Kp.refl:Kp M M:=⟨ae _,λ_ _=>rfl⟩
theorem Kp.trans(a:Kp M M1)(b:Kp M1 M2):Kp M M2:=⟨aU a.1 b.1,λj h=>(b.2 j (aj h a.1)).trans (a.2 j h)⟩
theorem Kp.app:Kp M (M++L):=⟨by simp,λj h=>ZeD h⟩
theorem Kp.set(a:Kp M M1)(h:M.length<=j):Kp M (M1.set j o):=⟨by rw[cV];exact a.1,λi hi=>by rw[ah ⋯];exact a.2 i hi⟩
theorem Kp.gr(k:Kp M M')(b:Bag n M):Gr n M M':=CY.Gr.of b k.1 k.2
end
theorem ZeJ(h:Sz a x)(hab:a<=b):Sz b x:=⟨aj h.1 (cg (by decide) hab),aj h.2 (cg (by decide) hab)⟩
theorem Zq2(h1:a.length=n)(h2:b.length=n)(h:∀i:Nat,i<n->cq a i=cq b i):a=b:=by
 apply eN ⋯
 intro i h1 h2
 have:=h i ⋯
 rw[Z4 h1,Z4 h2]at this;exact this
theorem ZtU(ru:M[mu]?=some (.lst (rts u)))(rv:M[mv]?=some (.lst (rts v)))(lu:u.length=N)(lv:v.length=N)(hN:N<=1000)(lz:zs.length=N)(hf:∀(i:Nat),i<N->∀L,wO (f [some (rt (cq u i)),some (rt (cq v i))] (M++L)) (λy M2=>y=rt (cq zs i)/\M2=M++L) (λ_ _=>False))(q:Q (.ref M.length) (M++[.lst (rts zs)])):kCo (gTp (gCs (gNm 0) (gCs (gNm 1) gNl))) (λ_ M=>.ok true M) f 2 [] ρ Q (.zip mu mv) M:=by
 have hz:(bT (λa b=>D.tup [a,b]) (rts u) (rts v)).length=N:=by simp[Zu];lia
 have hu:=Zo ru;have hv:=Zo rv;refine ZrY (xs:=bT (λa b=>D.tup [a,b]) (rts u) (rts v)) (λρ=>∃x y,ρ=[x,y]) (λ(i:Nat)=>rt (cq zs i)) ⋯ (by rw[Zfl ru,hz,Zu];lia) ⟨_,_,rfl⟩ (λL i hi=>?_) ?_ (by rw[hz,Zfr (xs:=zs) lz (λi hi=>rfl)];exact q)
 .rw[ZiX (by rw[ZeD hu];exact ru) (by rw[ZeD hv];exact rv)]
 .rintro i hi ρ L ⟨x,y,rfl⟩;rw[hz]at hi;rw[ig,Zay,Zay];simp![Zp];exact⟨⟨_,_,rfl⟩,hf i hi L⟩
end CV
namespace CW
open L2 DL
end CW
namespace CW
open L2 DL
open CV
def fx(rs:List Pt):Nat:=((ZtS rs).findIdx? (λt=>decide (t= -1))).getD 0
def wk:Nat->List Pt->List Int×List Pt
 |0,rs=>([],rs)
 |n+1,rs=>if 5<=rs.length then((fx rs:Int)::(wk n (del rs (fx rs))).1,(wk n (del rs (fx rs))).2)else([],rs)
def wl(rs:List Pt):List Pt:=(wk rs.length rs).2
end CW
namespace CB
open L2 DL
end CB
namespace CL
open L2 DL
open CC (F_following)
end CL
namespace CL
open L2 DL
open CV CB
end CL
namespace TW
open DL
noncomputable def nx(b:Int)(p q:Pt):Pt:=(0-b*q.1-p.1,0-b*q.2-p.2)
noncomputable def ng(p:Pt):Pt:=(0-p.1,0-p.2)
def run(p q:Pt):List Int->Pt×Pt
 |[]=>(p,q)
 |b::bs=>run q (nx b p q) bs
def ew(p q:Pt):Nat:=in1 (1,0) p q+in1 (-1,0) p q
noncomputable def st(a:Pt):Int:=if 0<a.2\/(a.2=0/\a.1<0)then 1 else 0
end TW
namespace TW
open DL
section
variable {rs:List Pt}
def Zwz(rs:List Pt):Int->Nat->List Int
 |_,0=>[]
 |i,k+1=>T rs (i+1)::Zwz rs (i+1) k
def sf(f:Pt->Pt->Nat)(rs:List Pt):Int->Nat->Nat
 |_,0=>0
 |i,k+1=>f (cy rs i) (cy rs (i+1))+sf f rs (i+1) k
theorem ZtV(hn:rs≠[]):∀(k i:Nat),i+k=rs.length->cc f ((rs++rs.take 1).drop i)=sf f rs i k:=by
 have l0:0<rs.length:=aV.mpr hn;have ga:∀i:Nat,i<=rs.length->(rs++rs.take 1)[i]?=some (cy rs i):=by
  intro i hi;by_cases c:i<rs.length
  .rw[ac c,Zb1 ⋯,ZbT ⋯,av c]
   simp
  .have:i=rs.length:=⋯
   subst this;rw[aT (ae _),gG,<-ZeE,Int.sub_self,Zb1 ⋯,ZbT ⋯]
   rw[db (by decide),av ⋯]
   simp
 have lch:(rs++rs.take 1).length=rs.length+1:=by simp;lia
 have dr:∀i:Nat,i<=rs.length->(rs++rs.take 1).drop i=cy rs i::(rs++rs.take 1).drop (i+1):=by
  intro i hi;rw[dM ⋯]
  have:=ga i hi
  rw[av ⋯]at this
  rw[aO this]
 intro k
 induction k with
 |zero=>
  intro i hi;rw[dr i ⋯,dz ⋯]
  rfl
 |succ k ih=>
  intro i hi
  have:=ih (i+1) ⋯
  rw[dr i ⋯]
  rw[dr (i+1) ⋯]at this ⊢
  rw[cc,this,sf];rfl
theorem Zjd(hn:rs≠[]):cyc f rs=sf f rs 0 rs.length:=by
 have:=ZtV (f:=f) hn rs.length 0 ⋯
 exact this
end
end TW
namespace CT
open L2 DL
end CT
namespace CT
open L2 DL
open CV TW
def rl0(p q:Pt):List Int->List Pt
 |[]=>[]
 |b::bs=>p::rl0 q (nx b p q) bs
def rl(p q:Pt)(bs:List Int):List Pt:=rl0 p q bs++[(run p q bs).1,(run p q bs).2]
section
variable {L:List Int}
def Cl(L:List Int):Prop:=run (1,0) (0,1) L=((1,0),(0,1))
instance (L:List Int):Decidable (Cl L):=by unfold Cl;infer_instance
end
end CT
namespace CT
open L2 DL
open CV
open TW (nx)
end CT
namespace DL
section
variable {rs:List Pt}
theorem ZkV(hl:rs≠[])(h:cyc f rs=0)(i:Int):f (cy rs i) (cy rs (i+1))=0:=by
 have l0:rs.length≠0:=λz=>hl (jJ.mp z);refine ZdK (P:=λa b=>f a b=0) l0 ?_ i;intro i h0 h1;rw[TW.Zjd hl]at h
 have:∀(k:Nat)(j:Int),TW.sf f rs j k=0->∀m:Nat,m<k->f (cy rs (j+m)) (cy rs (j+m+1))=0:=by
  intro k
  induction k with
  |zero=>intro j _ m hm;lia
  |succ k ih=>
   intro j h m hm;rw[TW.sf]at h;cases m with
   |zero=>
    rw[show j+((0:Nat):Int)=j by lia]
    lia
   |succ m=>
    have:=ih (j+1) ⋯ m ⋯
    rw[show j+((m+1:Nat):Int)=j+1+m by lia]
    exact this
 have:=this rs.length 0 h i.toNat ⋯
 rw[show(0:Int)+(i.toNat:Nat)=i by lia]at this
 exact this
theorem Zfs(hl:rs≠[])(h:∀i:Int,f (cy rs i) (cy rs (i+1))=0):cyc f rs=0:=by
 rw[TW.Zjd hl]
 have:∀(k:Nat)(j:Int),TW.sf f rs j k=0:=by
  intro k
  induction k with
  |zero=>intro j;rfl
  |succ k ih=>intro j;rw[TW.sf,h,ih]
 exact this _ _
def nxp(a b:Pt):Nat:=if 0<X a b then 0 else 1
theorem ZtW(h:nxp a b=0):0<X a b:=by
 unfold nxp at h
 split at h
 .assumption
 .lia
theorem Zq3(h:0<X a b):nxp a b=0:=by unfold nxp;rw[if_pos h]
structure Rn(rs:List Pt):Prop where
 len:3<=rs.length
 ps:cyc nxp rs=0
 gc:∀p∈rs,ft p.1 p.2=1
 fan:Fan rs
theorem Rn.ne(h:Rn rs):rs≠[]:=by
 intro z
 have:=h.len
 rw[z]at this;simp at this
theorem Rn.pos(h:Rn rs)(i:Int):0<X (cy rs i) (cy rs (i+1)):=ZtW (ZkV h.ne h.ps i)
theorem ZtX(h:X a b=1):ft a.1 a.2=1/\ft b.1 b.2=1:=by
 unfold X at h;constructor
 .have d1:((ft a.1 a.2:Nat):Int) ∣ a.1*b.2-a.2*b.1:=Int.dvd_sub (jK (Int.gcd_dvd_left _ _)) (jK (Int.gcd_dvd_right _ _));rw[h]at d1;exact ki (jL.mp d1)
 .have d1:((ft b.1 b.2:Nat):Int) ∣ a.1*b.2-a.2*b.1:=Int.dvd_sub (jA (Int.gcd_dvd_right _ _)) (jA (Int.gcd_dvd_left _ _));rw[h]at d1;exact ki (jL.mp d1)
theorem Zq4{p:Pt}(h:p∈rs):∃i:Int,p=cy rs i:=by
 obtain⟨L,R,rfl⟩:=List.append_of_mem h;exact⟨L.length,ZqV.symm⟩
theorem Smo.rn(h:Smo rs):Rn rs:=by
 refine⟨h.len,Zfs h.ne λi=>Zq3 (by rw[h.one i];decide),λp hp=>?_,h.fan⟩
 obtain⟨i,rfl⟩:=Zq4 hp;exact(ZtX (h.one i)).1
end
open TW
open CT (rl0 Cl)
section
variable {rs:List Pt}
theorem Zq5{f:Pt->Pt->Nat}:∀(k:Nat)(j:Int)(m:Nat),m<k->f (cy rs (j+m)) (cy rs (j+m+1))<=sf f rs j k
 |0,_,_,h=>absurd h (Nat.not_lt_zero _)
 |k+1,j,0,_=>by rw[sf];simp
 |k+1,j,m+1,h=>by
  have:=Zq5 (f:=f) k (j+1) m ⋯
  rw[sf,show j+((m+1:Nat):Int)=j+1+m by lia]
  lia
theorem Zje{f:Pt->Pt->Nat}:∀(k:Nat)(j:Int)(m l:Nat),m<l->l<k->f (cy rs (j+m)) (cy rs (j+m+1))+f (cy rs (j+l)) (cy rs (j+l+1))<=sf f rs j k
 |0,_,_,_,_,h=>absurd h (Nat.not_lt_zero _)
 |k+1,j,0,l+1,_,h=>by
  have:=Zq5 (f:=f) (rs:=rs) k (j+1) l ⋯
  rw[sf,show j+((l+1:Nat):Int)=j+1+l by lia]
  simp;lia
 |k+1,j,m+1,l+1,h1,h=>by
  have:=Zje (f:=f) k (j+1) m l ⋯ ⋯
  rw[sf,show j+((m+1:Nat):Int)=j+1+m by lia,show j+((l+1:Nat):Int)=j+1+l by lia]
  lia
noncomputable abbrev sw(p:Pt):Pt:=(p.2,p.1)
end
end DL
namespace CB
open DL
section
variable {u v w:Pt}
def kl:List Pt->List Int
 |a::b::d::r=>X a d::kl (b::d::r)
 |_=>[]
theorem Xvv(p:Pt):X p p=0:=by unfold X;grind
theorem ZtY:∀(r:List Pt)(a b:Pt)(v:Pt),Ch (a::b::r)->Cv (a::b::r)->(b::r).getLast (by simp)=v->0<=X b v/\X b v<X a v
 |[],a,b,v,h,_,e=>by
  have:b=v:=e
  subst this;rw[Xvv,h.1];lia
 |c::r,a,b,v,h,k,e=>by
  have ih:=ZtY r b c v h.2 k.2 (by rw[<-e];simp[List.getLast_cons])
  obtain⟨m,m2,e1,e2⟩:=k.1;have ex:X a v+X c v=m*X b v:=by unfold X;grind
  have:2*X b v<=m*X b v:=eL m2 ⋯
  lia
theorem ZnL(hb:0<b)(h0:0<=c)(h1:c<b)(e:t+c=k*b): -((-t)/b)=k:=by
 have: -t=c+b*(-k):=by grind
 rw[this,Int.add_mul_ediv_left _ _ ⋯,Int.ediv_eq_zero_of_lt h0 h1]
 lia
theorem only:∀(ws:List Pt)(u v w:Pt),Ch (u::(ws++[v]))->Cv (u::(ws++[v]))->Fb u v w->ws=btw u w (hj (X u v) (X w v))/\kl (u::(ws++[v]))=hj (X u v) (X w v)
 |[],u,v,w,h,k,f=>by
  have h1:X u v=1:=h.1;have l:=f.lo;have l2:=f.hi;have w0:X w v=0:=⋯
  rw[w0];unfold hj;rw[dif_neg (by decide)]
  exact⟨rfl,rfl⟩
 |x::ws,u,v,w,h,k,f=>by
  have hl:(x::(ws++[v])).getLast (by simp)=v:=by simp[List.getLast_cons]
  have d:=ZtY (ws++[v]) u x v h k hl;have fx:Fb u v x:=⟨h.1,d.1,d.2⟩;have ew:=fx.uniq f;subst ew;obtain⟨y,R,eR⟩:∃y R,ws++[v]=y::R:=by
   cases ws with
   |nil=>exact⟨v,[],rfl⟩
   |cons y R=>exact⟨y,R++[v],rfl⟩
  have h':Ch (x::y::R):=by rw[<-eR];exact h.2
  have kk:Cv (u::x::y::R):=by rw[<-eR];exact k
  have hl2:(y::R).getLast (by simp)=v:=by
   have:(ws++[v]).getLast (by simp)=v:=by simp
   simpa [eR]using this
  have d2:=ZtY R x y v h' kk.2 hl2;obtain⟨m,m2,e1,e2⟩:=kk.1;have ex:X u v+X y v=m*X x v:=by unfold X;grind
  have hc:=ZnL ⋯ d2.1 d2.2 ex
  have ey:(m*x.1-u.1,m*x.2-u.2)=y:=by apply gy<;>simp only<;>lia
  have m3:X u y=m:=by
   have:=h.1
   rw[<-ey];unfold X at *;simp only;grind
  have fy:Fb x v y:=⟨h'.1,d2.1,d2.2⟩;have ih:=only ws x v y (by rw[eR];exact h') (by rw[eR];exact kk.2) fy
  have ej:hj (X u v) (X x v)=m::hj (X x v) (X y v):=by
   rw[hj,dif_pos ⋯,hc]
   congr 2;lia
  rw[ej];constructor
  .rw[btw,ey,<-ih.1]
  .show kl (u::x::(ws++[v]))=_;rw[eR,kl,m3,<-eR,ih.2]
end
end CB
namespace CD
open L2 DL
open CC (F_ask_smooth)
open CS (F_minus F_sloped)
def Zgk:Sv:=(Zae (e2 dLt (e2 dMul (e2 dIx (Zg 0) (eC (.int 0))) (e2 dIx (Zg 1) (eC (.int 1)))) (e2 dMul (e2 dIx (Zg 1) (eC (.int 0))) (e2 dIx (Zg 0) (eC (.int 1))))))
def F_less:W3:=fnF Zgk 2 0
def Za2:Sv:=(sIf (tv (Zj F_less (Zc (Zg 1) (Zc (Zg 2) aNil)))) (ZF (gNm 1) (Zg 2)) sNil)
def Zb5:Sv:=(Zy (ZF (gNm 1) (e2 dIx (Zg 0) (eC (.int 0)))) (Zy (Zg5 (gNm 2) (Zg 0) Za2) (Zae (Zg 1))))
def F_greatest:W3:=fnF Zb5 1 2
def Zb6:Sv:=(Zae (Zj F_minus (Zc (Zal (Zc (eC (.int 0)) (Zc (eC (.int 1)) aNil))) (Zc (Zg 0) aNil))))
def F_contrary:W3:=fnF Zb6 1 0
def ZbB:Sv:=(Zy (Za7 (Zj F_ask_smooth (Zc (Zg 0) aNil))) (Zae (Zam (iSq (Zg 0)) 1 [1] (gNm 0) (λ_ M=>.ok true M) (Zj F_greatest (Zc (Zam (iSq (Zg 1)) 1 [0] (gNm 0) (λ_ M=>.ok true M) (Zj F_contrary (Zc (Zj F_sloped (Zc (Zg 0) (Zc (Zg 1) aNil))) aNil))) aNil)))))
def F_height_of:W3:=fnF ZbB 2 0
end CD
namespace CD
open L2 DL
open CV
open CR (rt Sz)
open CH (rts Zu ZI)
theorem ZwA(I:Ro->Prop)(F:Nat->D)(hM:M[n]?=some (.lst xs))(hl:xs.length<10000000)(h0:I (roB k fr ρ))(st:∀(i:Nat)(h:i<xs.length)(ρ:Ro)(M':Sto),Kp M M'->I ρ->wG (tg xs[i] ρ) λr=>I r/\wO (f r M') (λy M2=>y=F i/\Kp M' M2) (λ_ _=>False))(hq:∀M',Kp M M'->M'[M.length]?=some (.lst ((aC xs.length).map F))->Q (.ref M.length) M'):kCo tg (λ_ M=>.ok true M) f k fr ρ Q (.sto n) M:=by
 refine Zgc (xs:=xs) (Q:=λM2=>Q (.ref M.length) M2) (λi ρ M'=>I ρ/\Kp M M'/\M'[M.length]?=some (.lst ((aC i).map F))) _ 0 _ _ (by simp) (by rw[Zfk hM];lia) ⟨h0,Kp.app,by simp⟩ (λi ρ M' hi hI=>by rw[Zge];exact hI.2.1.get hM) ?_ (λρ M' hI=>hq M' hI.2.1 hI.2.2)
 rintro i ρ M' hi ⟨hI,K,r⟩;have s:=st i hi ρ M' K hI;cases e:tg xs[i] ρ with
 |none=>rw[e]at s;exact s.elim
 |some r'=>
  rw[e]at s;obtain⟨hr,s⟩:=s;show Br true _ _;rw[Zok];refine Zb0 s (λy M2 ⟨h1,h2⟩=>?_) (λ_ _ z=>z);subst h1;rw[h2.get r];have hl2:=Zo (h2.get r);refine⟨by simp;lia,hr,(K.trans h2).set (ae _),?_⟩
  rw[ay hl2,cE,cw];rfl
end CD
namespace CD
open L2 DL
open CV
open CR (rt Sz)
open CH (rts Zu ZI)
noncomputable def sg{α:Type}(neg:Bool)(k:Nat)(L:List α):List α:=(if neg then L.reverse else L).drop k++(if neg then L.reverse else L).take k
def zp(us:List Pt)(xs:List D):List D:=bT (λu x=>D.tup [pr u.1 u.2,x]) us xs
end CD
namespace CD
open L2 DL
open CV CN CU CS
open CR (rt Sz)
open CH (rts Zu ZI)
noncomputable def mxr(xs:List Rat):Rat:=xs.foldl (λb x=>if b<x then x else b) (xs.headD 0)
theorem ZdQ:∀(xs:List Rat)(b:Rat),(xs.foldl (λb x=>if b<x then x else b) b=b\/xs.foldl (λb x=>if b<x then x else b) b∈xs)/\b<=xs.foldl (λb x=>if b<x then x else b) b/\∀x∈xs,x<=xs.foldl (λb x=>if b<x then x else b) b
 |[],b=>⟨.inl rfl,dD,λx h=>by cases h⟩
 |x::xs,b=>by
  rw[iA];by_cases h:b<x
  .rw[if_pos h];obtain⟨h1,h2,h3⟩:=ZdQ xs x;refine⟨.inr ?_,by grind,λy hy=>?_⟩
   .rcases h1 with e|e
    .rw[e];simp
    .exact aJ _ e
   .rcases ar.mp hy with rfl|hy
    .exact h2
    .exact h3 y hy
  .rw[if_neg h];obtain⟨h1,h2,h3⟩:=ZdQ xs b;refine⟨?_,h2,λy hy=>?_⟩
   .rcases h1 with e|e
    .exact .inl e
    .exact .inr (aJ _ e)
   .rcases ar.mp hy with rfl|hy
    .grind
    .exact h3 y hy
theorem ZcY(h:xs≠[]):mxr xs∈xs:=by
 cases xs with
 |nil=>exact absurd rfl h
 |cons x r=>
  rcases(ZdQ (x::r) x).1 with e|e
  .unfold mxr;rw[show(x::r).headD 0=x from rfl,e];simp
  .exact e
theorem Zgl(h:x∈xs):x<=mxr xs:=(ZdQ xs _).2.2 x h
theorem Zjf(h:g∈xs)(hl:∀x∈xs,x<=g):mxr xs=g:=by
 have h1:=Zgl h;have h2:=hl _ (ZcY (List.ne_nil_of_mem h));exact Rat.le_antisymm h2 h1
def pts(ms:List (Rat×Rat)):List D:=ms.map λm=>D.tup [rt m.1,rt m.2]
theorem ZX:(pts ms).length=ms.length:=af _
theorem Zbi(h:i<(pts ms).length):(pts ms)[i]=D.tup [rt (ms[i]'(by rw[ZX]at h;exact h)).1,rt (ms[i]'(by rw[ZX]at h;exact h)).2]:=by simp[pts]
def hts(rs:List Pt)(ms:List (Rat×Rat)):List Rat:=rs.map λr=>mxr (ms.map λm=>0-slp m r)
theorem Zq6(hp:Sz k p)(hq:Sz l q)(hk:k+l<=8000):wO (F_less [rt p,rt q] M) Q E=Q (.bl (decide (p<q))) M:=by
 have f1:Zs p.num (q.den:Int):=Zn k l hp.1 (by simpa using hq.2) ⋯ ⋯
 have f2:Zs q.num (p.den:Int):=Zn l k hq.1 (by simpa using hp.2) ⋯ ⋯
 simp![F_less,Zgk,ZK f1,ZK f2];rw[show decide (p.num*(q.den:Int)<q.num*(p.den:Int))=decide (p<q)from decide_eq_decide.mpr (Rat.lt_iff p q).symm]
theorem ZgW(h:M[n]?=some (.lst (rts xs)))(hx:xs≠[])(hz:∀x∈xs,Sz k x)(hk:k<=4000):wO (F_greatest [.ref n] M) Q E=Q (rt (mxr xs)) M:=by
 have main (Q:W0) (E:W2) (q:Q (rt (mxr xs)) M):wO (F_greatest [.ref n] M) Q E:=by
  have hn:=Zo h;have hl:xs.length≠0:=by simpa using hx
  have c0:cq xs 0=xs.headD 0:=by
   cases xs with
   |nil=>exact absurd rfl hx
   |cons a r=>unfold cq;simp
  simp![F_greatest,Zb5,h,Zbv,c0];refine Zbd (xs:=rts xs) (λi ρ M'=>M'=M/\∃b x,ρ=[some (.ref n),some (rt b),x]/\Sz k b/\b=(xs.take i).foldl (λb x=>if b<x then x else b) (xs.headD 0)) h ⟨rfl,_,_,rfl,by rw[<-c0];exact Zbh hz hl,rfl⟩ (λi ρ M' hI=>hI.1▸h) ?_ ?_
  .rintro i ρ _ hi ⟨rfl,b,x,rfl,hb,e⟩;rw[Zay];have hi':i<xs.length:=by rw[Zu]at hi;exact hi
   have z:=Zbh (i:=i) hz hl;simp![Za2];rw[Zq6 hb z ⋯]
   have tk:xs.take (i+1)=xs.take i++[cq xs i]:=by rw[bE hi',Z4 hi']
   refine brS (λc=>?_) (λc=>?_)
   .simp![Zp];refine⟨_,_,rfl,z,?_⟩;rw[tk,List.foldl_append,<-e,iA,List.foldl_nil,if_pos c]
   .simp![Zp];refine⟨_,_,rfl,hb,?_⟩;rw[tk,List.foldl_append,<-e,iA,List.foldl_nil,if_neg c]
  .rintro ρ _ ⟨rfl,b,x,rfl,hb,e⟩;simp![Zp];rw[Zu,dG]at e;rw[e];exact q
 obtain⟨d,M',e,e1,e2⟩:=Zce (main (λd M'=>d=rt (mxr xs)/\M'=M) (λ_ _=>False) ⟨rfl,rfl⟩);rw[e,e1,e2];rfl
theorem ZgX(hp:Sz k p)(hk:k<=7000):wO (F_contrary [rt p] M) Q E=Q (rt (0-p)) M:=by
 simp![F_contrary,Zb6];rw[show D.tup [D.int 0,D.int 1]=rt ((0:Int):Rat)from CS.ZcW 0,CS.ZdO (CS.Zax (k:=1) (by decide) (by decide)) hp ⋯]
 rfl
theorem Zft(h1:Sz k mm.1)(h2:Sz k mm.2)(hr:(-B<=r.1/\r.1<=B)/\ -B<=r.2/\r.2<=B)(hB:B<=400:=by first|decide|assumption):Sz (2*k+19) (slp mm r):=by
 have e:k+9+(k+9)+1=2*k+19:=⋯
 exact e▸CR.Zja (CR.ZaI h1 (Zax (k:=9) ⋯ (by decide))) (CR.ZaI h2 (Zax (k:=9) ⋯ (by decide)))
theorem Zfu(h:M[n]?=some (.lst (prs rs)))(hs:Smo rs)(hb:Nr B rs)(hl:rs.length<=1000)(hm:M[m]?=some (.lst (pts ms)))(hne:ms≠[])(lm:ms.length<=1000)(hz:∀x∈ms,Sz k x.1/\Sz k x.2)(hk:k<=1300)(q:∀M',Kp M M'->M'[M.length]?=some (.lst (rts (hts rs ms)))->Q (.ref M.length) M')(hB:B<=400:=by first|decide|assumption):wO (F_height_of [.ref n,.ref m] M) Q E:=by
 have hn:=Zo h;have hm':=Zo hm;simp![F_height_of,ZbB];refine CC.Zcf h hs (λx hx=>by have:=hb x hx;lia) ?_
 simp![Zp];refine ZwA (λρ=>∃x,ρ=[x,some (.ref m)]) (λ(i:Nat)=>rt (cq (hts rs ms) i)) h (by rw[ZG];lia) ⟨_,rfl⟩ ?_ ?_
 .rintro i hi ρ M1 K1 ⟨x,rfl⟩;rw[CC.ZcS];rw[ZG]at hi;have hm1:=K1.get hm;have hml:=Zo hm1;have hr:=hb _ (ZQ (i:=i) hs.ne);simp![Zp];refine⟨⟨_,rfl⟩,?_⟩;have hxs:(hts rs ms).length=rs.length:=af _;have e:cq (hts rs ms) i=mxr (ms.map λm=>0-slp m (cy rs i)):=by
   rw[Z4 ⋯,ZeF hi]
   simp[hts]
  generalize hv:(ms.map λm=>0-slp m (cy rs i))=vs at *;have lv:vs.length=ms.length:=by rw[<-hv,af]
  have hzv:∀x∈vs,Sz (2*k+21) x:=by
   intro x hx;rw[<-hv]at hx;obtain⟨mm,hmm,rfl⟩:=cx.mp hx
   have:=CS.Zcg (CS.Zax (z:=0) (k:=1) (by decide) (by decide)) (Zft (hz mm hmm).1 (hz mm hmm).2 hr)
   exact ZeJ this ⋯
  refine ZkT (λρ=>∃y,ρ=[y,some (pr (cy rs i).1 (cy rs i).2)]) (λ(j:Nat)=>rt (cq vs j)) hm1 (by rw[ZX];lia) ⟨_,rfl⟩ ?_ ?_
  .rintro j hj ρ L ⟨y,rfl⟩;have hj':j<ms.length:=by rw[ZX]at hj;exact hj
   rw[Zbi];have hzj:=hz _ (bJ hj');have ev:cq vs j=0-slp ms[j] (cy rs i):=by
    rw[Z4 ⋯]
    simp[<-hv]
   simp![ZkU hzj.1 hzj.2 hr ⋯,ZgX (Zft hzj.1 hzj.2 hr) ⋯]
   refine⟨⟨_,rfl⟩,by rw[ev]⟩
  rw[ZX,Zfr lv (λi hi=>rfl)];have r2:(M1++[SO.lst (rts vs)])[M1.length]?=some (.lst (rts vs)):=by simp
  simp![ZgW r2 (λz=>by rw[z]at lv;simp at lv;exact hne (jJ.mp lv.symm)) hzv ⋯]
  exact⟨by rw[e],Kp.app⟩
 .intro M' K' r';rw[ZG,Zfr (xs:=hts rs ms) (af _) (λi hi=>rfl)]at r';exact q M' K' r'
end CD
namespace Rb
open L2 DL
open CN (cq)
open CS (slp)
noncomputable abbrev RP:=Rat×Rat
def Win(rs:List Pt)(hs:List Rat)(p:RP):Prop:=∀i:Nat,i<rs.length-> -(cq hs i)<=slp p (cy rs i)
def On(rs:List Pt)(hs:List Rat)(p:RP)(i:Nat):Prop:=i<rs.length/\slp p (cy rs i)= -(cq hs i)
def Cor(rs:List Pt)(hs:List Rat)(p:RP):Prop:=Win rs hs p/\∃i j,On rs hs p i/\On rs hs p j/\X (cy rs i) (cy rs j)≠0
theorem Zbw(u v:Pt):((X u v:Int):Rat)=(u.1:Rat)*v.2-u.2*v.1:=by
 unfold X;rw[dW,aP,aP]
theorem ZeK(h:X r b=1):slp p o=(X o b:Rat)*slp p r+(X r o:Rat)*slp p b:=by
 have e:(r.1:Rat)*b.2-r.2*b.1=1:=by rw[<-Zbw,h];rfl
 rw[Zbw,Zbw];unfold slp;generalize (r.1:Rat)=r1 at *;generalize (r.2:Rat)=r2 at *;generalize (b.1:Rat)=b1 at *;generalize (b.2:Rat)=b2 at *;generalize (o.1:Rat)=o1 at *;generalize (o.2:Rat)=o2 at *;generalize p.1=p1 at *;generalize p.2=p2 at *;grind
noncomputable def ptE(r b:Pt)(h t:Rat):RP:=((-h)*b.2-t*r.2,t*r.1-(-h)*b.1)
theorem ZnM(e:X r b=1):slp (ptE r b h t) r= -h:=by
 have e:(r.1:Rat)*b.2-r.2*b.1=1:=by rw[<-Zbw,e];rfl
 unfold slp ptE;simp only;grind
theorem Zq7(e:X r b=1):slp (ptE r b h t) b=t:=by
 have e:(r.1:Rat)*b.2-r.2*b.1=1:=by rw[<-Zbw,e];rfl
 unfold slp ptE;simp only;grind
theorem ZlK{p:RP}(e:X r b=1)(q:slp p r= -h):p=ptE r b h (slp p b):=by
 have e:(r.1:Rat)*b.2-r.2*b.1=1:=by rw[<-Zbw,e];rfl
 unfold slp at *;unfold ptE;refine gy ?_ ?_
 .simp only;grind
 .simp only;grind
def co(r o:Pt):Rat:=(X r o:Rat)
def as'(b o:Pt)(h g:Rat):Rat:=(X o b:Rat)*h-g
theorem Zjg(e:X r b=1):(-g<=slp (ptE r b h t) o)↔as' b o h g<=co r o*t:=by
 rw[ZeK (o:=o) e,ZnM e,Zq7 e];unfold as' co
 constructor<;>intro z<;>grind
theorem Zjh(e:X r b=1):(slp (ptE r b h t) o= -g)↔as' b o h g=co r o*t:=by
 rw[ZeK (o:=o) e,ZnM e,Zq7 e];unfold as' co
 constructor<;>intro z<;>grind
theorem Z5{c:Rat}(hc:0<c):c*a<=c*b↔a<=b:=⟨λh=>Rat.le_of_mul_le_mul_left h hc,λh=>cj h (by grind)⟩
theorem Zgm{c:Rat}(hc:0<c)(h:a<=c*t)(h2:t<=u):a<=c*u:=Rat.le_trans h ((Z5 hc).mpr h2)
theorem ZcZ{c:Rat}(hc:c<0)(h:a<=c*t)(h2:u<=t):a<=c*u:=by
 refine Rat.le_trans h ?_
 have:(-c)*u<=(-c)*t:=(Z5 (by grind)).mpr h2
 grind
def LoI(rs:List Pt)(hs:List Rat)(i n:Nat)(t:Rat):Prop:=(∃j<n,0<co (cy rs i) (cy rs j)/\as' (cy rs (i+1)) (cy rs j) (cq hs i) (cq hs j)=co (cy rs i) (cy rs j)*t)/\∀j<n,0<co (cy rs i) (cy rs j)->as' (cy rs (i+1)) (cy rs j) (cq hs i) (cq hs j)<=co (cy rs i) (cy rs j)*t
def HiI(rs:List Pt)(hs:List Rat)(i n:Nat)(t:Rat):Prop:=(∃j<n,co (cy rs i) (cy rs j)<0/\as' (cy rs (i+1)) (cy rs j) (cq hs i) (cq hs j)=co (cy rs i) (cy rs j)*t)/\∀j<n,co (cy rs i) (cy rs j)<0->as' (cy rs (i+1)) (cy rs j) (cq hs i) (cq hs j)<=co (cy rs i) (cy rs j)*t
def ZeI(rs:List Pt)(hs:List Rat)(i n:Nat):Prop:=∀j<n,co (cy rs i) (cy rs j)=0->as' (cy rs (i+1)) (cy rs j) (cq hs i) (cq hs j)<=0
def Zji(rs:List Pt)(hs:List Rat)(i:Nat)(ps:List RP):Prop:=(∀p∈ps,Cor rs hs p)/\∀p j,Win rs hs p->On rs hs p i->On rs hs p j->X (cy rs i) (cy rs j)≠0->p∈ps
section
variable {rs:List Pt}{hs:List Rat}{i n:Nat}{t u:Rat}
theorem LoI.new(ha:as' (cy rs (i+1)) (cy rs n) (cq hs i) (cq hs n)=co (cy rs i) (cy rs n)*u)(hc:0<co (cy rs i) (cy rs n))(h:∀j<n,0<co (cy rs i) (cy rs j)->as' (cy rs (i+1)) (cy rs j) (cq hs i) (cq hs j)<=co (cy rs i) (cy rs j)*u):LoI rs hs i (n+1) u:=by
 refine⟨⟨n,⋯,hc,ha⟩,λj hj c=>?_⟩
 by_cases e:j=n
 .subst e;rw[ha];exact dD
 .exact h j ⋯ c
theorem LoI.keep(h:LoI rs hs i n t)(h2:0<co (cy rs i) (cy rs n)->as' (cy rs (i+1)) (cy rs n) (cq hs i) (cq hs n)<=co (cy rs i) (cy rs n)*t):LoI rs hs i (n+1) t:=by
 obtain⟨⟨j,hj,c⟩,h1⟩:=h;refine⟨⟨j,⋯,c⟩,λj hj c=>?_⟩
 by_cases e:j=n
 .subst e;exact h2 c
 .exact h1 j ⋯ c
theorem HiI.new(ha:as' (cy rs (i+1)) (cy rs n) (cq hs i) (cq hs n)=co (cy rs i) (cy rs n)*u)(hc:co (cy rs i) (cy rs n)<0)(h:∀j<n,co (cy rs i) (cy rs j)<0->as' (cy rs (i+1)) (cy rs j) (cq hs i) (cq hs j)<=co (cy rs i) (cy rs j)*u):HiI rs hs i (n+1) u:=by
 refine⟨⟨n,⋯,hc,ha⟩,λj hj c=>?_⟩
 by_cases e:j=n
 .subst e;rw[ha];exact dD
 .exact h j ⋯ c
theorem HiI.keep(h:HiI rs hs i n t)(h2:co (cy rs i) (cy rs n)<0->as' (cy rs (i+1)) (cy rs n) (cq hs i) (cq hs n)<=co (cy rs i) (cy rs n)*t):HiI rs hs i (n+1) t:=by
 obtain⟨⟨j,hj,c⟩,h1⟩:=h;refine⟨⟨j,⋯,c⟩,λj hj c=>?_⟩
 by_cases e:j=n
 .subst e;exact h2 c
 .exact h1 j ⋯ c
theorem ZeI.keep(h:ZeI rs hs i n)(h2:co (cy rs i) (cy rs n)=0->as' (cy rs (i+1)) (cy rs n) (cq hs i) (cq hs n)<=0):ZeI rs hs i (n+1):=λj hj c=>by
 by_cases e:j=n
 .subst e;exact h2 c
 .exact h j ⋯ c
theorem ZnN:co r o≠0↔X r o≠0:=by
 unfold co;constructor
 .intro h z;rw[z]at h;exact h rfl
 .intro h z;exact h (by have:((X r o:Int):Rat)=((0:Int):Rat):=z;exact Rat.intCast_inj.mp this)
theorem Zfv(hs':Smo rs):Win rs hs (ptE (cy rs i) (cy rs (i+1)) (cq hs i) t)↔∀j<rs.length,as' (cy rs (i+1)) (cy rs j) (cq hs i) (cq hs j)<=co (cy rs i) (cy rs j)*t:=by
 unfold Win;constructor
 .intro h j hj;exact(Zjg (hs'.one i)).mp (h j hj)
 .intro h j hj;exact(Zjg (hs'.one i)).mpr (h j hj)
theorem Zq8(hs':Smo rs)(lo:LoI rs hs i rs.length t)(hi:HiI rs hs i rs.length u)(ze:ZeI rs hs i rs.length)(h1:t<=v)(h2:v<=u):Win rs hs (ptE (cy rs i) (cy rs (i+1)) (cq hs i) v):=by
 refine(Zfv hs').mpr λj hj=>?_;by_cases c:0<co (cy rs i) (cy rs j)
 .exact Zgm c (lo.2 j hj c) h1
 .by_cases c2:co (cy rs i) (cy rs j)<0
  .exact ZcZ c2 (hi.2 j hj c2) h2
  .have e:co (cy rs i) (cy rs j)=0:=by grind
   have:=ze j hj e
   rw[e];grind
theorem Zq9(hs':Smo rs)(lo:LoI rs hs i rs.length t)(hi:HiI rs hs i rs.length u)(h:Win rs hs (ptE (cy rs i) (cy rs (i+1)) (cq hs i) v)):t<=v/\v<=u:=by
 have h:=(Zfv hs').mp h;obtain⟨⟨j,hj,c,e⟩,_⟩:=lo;obtain⟨⟨k,hk,d,f⟩,_⟩:=hi;have h1:=h j hj;have h2:=h k hk;rw[e]at h1;rw[f]at h2;refine⟨(Z5 c).mp h1,?_⟩
 have:(-co (cy rs i) (cy rs k))*v<=(-co (cy rs i) (cy rs k))*u:=by grind
 exact(Z5 (by grind)).mp this
theorem ZkW(hs':Smo rs)(hi':i<rs.length)(lo:LoI rs hs i rs.length t)(hi:HiI rs hs i rs.length u)(ze:ZeI rs hs i rs.length)(h:t<=u):Zji rs hs i [ptE (cy rs i) (cy rs (i+1)) (cq hs i) t,ptE (cy rs i) (cy rs (i+1)) (cq hs i) u]:=by
 have on (v:Rat):On rs hs (ptE (cy rs i) (cy rs (i+1)) (cq hs i) v) i:=⟨hi',ZnM (hs'.one i)⟩;refine⟨λp hp=>?_,λp j w oi oj ne=>?_⟩
 .obtain⟨⟨j,hj,c,e⟩,_⟩:=id lo;obtain⟨⟨k,hk,d,f⟩,_⟩:=id hi;rcases ar.mp hp with rfl|hp
  .exact⟨Zq8 hs' lo hi ze dD h,i,j,on _,⟨hj,(Zjh (hs'.one i)).mpr e⟩,ZnN.mp (by grind)⟩
  .rcases ar.mp hp with rfl|hp
   .exact⟨Zq8 hs' lo hi ze h dD,i,k,on _,⟨hk,(Zjh (hs'.one i)).mpr f⟩,ZnN.mp (by grind)⟩
   .cases hp
 .have ep:=ZlK (hs'.one i) oi.2;generalize slp p (cy rs (i+1))=v at ep;subst ep;obtain⟨b1,b2⟩:=Zq9 hs' lo hi w;have ea:=(Zjh (hs'.one i)).mp oj.2;have nz:=ZnN.mpr ne;by_cases c:0<co (cy rs i) (cy rs j)
  .have:=lo.2 j oj.1 c
   rw[ea]at this
   have:=(Z5 c).mp this
   have:v=t:=by grind
   rw[this];simp
  .have c2:co (cy rs i) (cy rs j)<0:=by grind
   have:=hi.2 j oj.1 c2
   rw[ea]at this
   have:(-co (cy rs i) (cy rs j))*u<=(-co (cy rs i) (cy rs j))*v:=by grind
   have:=(Z5 (by grind)).mp this
   have:v=u:=by grind
   rw[this];simp
theorem Zjj(hs':Smo rs)(h:∀v,¬Win rs hs (ptE (cy rs i) (cy rs (i+1)) (cq hs i) v)):Zji rs hs i []:=by
 refine⟨λp hp=>(by cases hp),λp j w oi oj ne=>?_⟩
 have ep:=ZlK (hs'.one i) oi.2;rw[ep]at w;exact absurd w (h _)
theorem ZnO(hs':Smo rs)(hj:j<rs.length)(c:co (cy rs i) (cy rs j)=0)(h:0<as' (cy rs (i+1)) (cy rs j) (cq hs i) (cq hs j)):Zji rs hs i []:=Zjj hs' λv w=>by
 have:=(Zfv hs').mp w j hj
 rw[c]at this;grind
theorem ZnP(hs':Smo rs)(lo:LoI rs hs i rs.length t)(hi:HiI rs hs i rs.length u)(h:u<t):Zji rs hs i []:=Zjj hs' λv w=>by
 obtain⟨b1,b2⟩:=Zq9 hs' lo hi w;grind
end
end Rb
namespace BD
open L2 DL
open CC (F_crossed F_following F_ask_smooth)
open CR (F_greatest_divisor F_ratio)
open CD (F_less)
open CS (F_slope_through F_ask_height)
def Z7:Sv:=(ZF (gNm 1) (e2 dMul (Zg 1) (e2 dDiv (e2 dIx (Zg 2) (eC (.int 1))) (Zj F_greatest_divisor (Zc (Zg 1) (Zc (e2 dIx (Zg 2) (eC (.int 1))) aNil))))))
def Zaz:Sv:=(Zy (ZF (gNm 1) (eC (.int 1))) (Zy (Zg5 (gNm 2) (Zg 0) Z7) (Zae (Zg 1))))
def F_common_bottom:W3:=fnF Zaz 1 2
def ZbC:Sv:=(Zae (e2 dMul (e2 dIx (Zg 0) (eC (.int 0))) (e2 dDiv (Zg 1) (e2 dIx (Zg 0) (eC (.int 1))))))
def F_stretched:W3:=fnF ZbC 2 0
def Zc0:Sv:=(Zy (ZF (gNm 10) (Zj F_crossed (Zc (Zg 3) (Zc (Zg 8) aNil)))) (Zy (ZF (gNm 11) (e2 dSub (e2 dMul (e2 dMul (Zj F_crossed (Zc (Zg 8) (Zc (Zg 4) aNil))) (e2 dIx (Zg 5) (eC (.int 0)))) (e2 dIx (Zg 9) (eC (.int 1)))) (e2 dMul (e2 dIx (Zg 9) (eC (.int 0))) (e2 dIx (Zg 5) (eC (.int 1)))))) (Zy (ZF (gNm 12) (e2 dMul (e2 dMul (Zg 10) (e2 dIx (Zg 5) (eC (.int 1)))) (e2 dIx (Zg 9) (eC (.int 1))))) (Zy (sIf (ZbY (tv (e2 dEq (Zg 10) (eC (.int 0)))) (tv (e2 dGt (Zg 11) (eC (.int 0))))) (Zae (ZbI aNil)) sNil) (Zy (sIf (ZbY (tv (e2 dGt (Zg 10) (eC (.int 0)))) (Zmu (tv (e2 dIs (Zg 6) (eC .non))) (tv (Zj F_less (Zc (Zg 6) (Zc (Zal (Zc (Zg 11) (Zc (Zg 12) aNil))) aNil)))))) (ZF (gNm 6) (Zal (Zc (Zg 11) (Zc (Zg 12) aNil)))) sNil) (sIf (ZbY (tv (e2 dLt (Zg 10) (eC (.int 0)))) (Zmu (tv (e2 dIs (Zg 7) (eC .non))) (tv (Zj F_less (Zc (Zal (Zc (Ze4 (Zg 11)) (Zc (Ze4 (Zg 12)) aNil))) (Zc (Zg 7) aNil)))))) (ZF (gNm 7) (Zal (Zc (Ze4 (Zg 11)) (Zc (Ze4 (Zg 12)) aNil)))) sNil))))))
def Zjk:Sv:=(Zy (ZF (gTp (gCs (gNm 3) (gCs (gNm 4) gNl))) (Zal (Zc (e2 dIx (Zg 0) (Zg 2)) (Zc (Zj F_following (Zc (Zg 0) (Zc (Zg 2) aNil))) aNil)))) (Zy (ZF (gNm 5) (e2 dIx (Zg 1) (Zg 2))) (Zy (ZF (ZrT (gNm 6) (gNm 7)) (eC .non)) (Zy (Zeo (gTp (gCs (gNm 8) (gCs (gNm 9) gNl))) (iZp (Zc (Zg 0) (Zc (Zg 1) aNil))) Zc0) (Zy (sIf (tv (Zj F_less (Zc (Zg 7) (Zc (Zg 6) aNil)))) (Zae (ZbI aNil)) sNil) (Zae (Zam (iSq (Zal (Zc (Zg 6) (Zc (Zg 7) aNil)))) 1 [3,4,5] (gNm 0) (λ_ M=>.ok true M) (Zj F_slope_through (Zc (ZbI (Zc (Zg 1) (Zc (Zg 2) aNil))) (Zc (ZbI (Zc (Zal (Zc (Ze4 (e2 dIx (Zg 3) (eC (.int 0)))) (Zc (e2 dIx (Zg 3) (eC (.int 1))) aNil))) (Zc (Zj F_ratio (Zc (e2 dIx (Zg 0) (eC (.int 0))) (Zc (e2 dIx (Zg 0) (eC (.int 1))) aNil))) aNil))) aNil))))))))))
def F_edge:W3:=fnF Zjk 3 10
def Zb7:Sv:=(Zy (ZF (gNm 1) (Zj F_common_bottom (Zc (Za6 (iSq (Zg 0)) 2 [] (gNm 0) (λ_ M=>.ok true M) λn=>(gIn (iSq (Zg 0)) (gNm 1) (λ_ M=>.ok true M) (gEm (Zg 1) n))) aNil))) (Zae (ZiK (Zc (Zg 0) aNil) [1] (Zal (Zc (Zj F_stretched (Zc (e2 dIx (Zg 0) (eC (.int 0))) (Zc (Zg 1) aNil))) (Zc (Zj F_stretched (Zc (e2 dIx (Zg 0) (eC (.int 1))) (Zc (Zg 1) aNil))) aNil))))))
def F_in_order:W3:=fnF Zb7 1 1
def Zc1:Sv:=(Zky (Zg 2) (Zg 4) (eC (.bl true)))
def Zc2:Sv:=(Zg5 (gNm 4) (Zj F_edge (Zc (Zg 0) (Zc (Zg 1) (Zc (Zg 3) aNil)))) Zc1)
def Zjl:Sv:=(Zy (Za7 (Zj F_ask_smooth (Zc (Zg 0) aNil))) (Zy (Za7 (Zj F_ask_height (Zc (Zg 0) (Zc (Zg 1) aNil)))) (Zy (ZF (gNm 2) eDnU) (Zy (ZaE (gNm 3) (Zc (Zj bLen (Zc (Zg 0) aNil)) aNil) Zc2) (Zae (Zj F_in_order (Zc (Zj bLisU (Zc (Zg 2) aNil)) aNil)))))))
def F_body:W3:=fnF Zjl 2 3
end BD
namespace BD
open L2 DL
open CV CN CU CS
open CR (rt Sz)
open CH (rts Zu ZI)
open CD (pts ZX Zbi)
open Rb
theorem Zci(x:Rat):(x.num:Rat)=x*(x.den:Rat):=by
 have h:=Zgi (x.den:Int) x;have h2:=Rat.normalize_mul_left (d:=1) (n:=x.num) (a:=x.den) (by decide) x.den_nz
 have h3:bH x.num 1 (by decide)=(x.num:Rat):=by
  have:=ZcW x.num
  have e:=Rat.normalize_self (x.num:Rat);exact e
 have h4:bH ((x.den:Int)*x.num) x.den x.den_nz=bH ((x.den:Int)*x.num) (x.den*1) (by have:=x.den_nz;lia):=by congr 1;lia
 rw[h4,h2,h3]at h;rw[h,Rat.mul_comm,aY]
theorem Zc3{a:Int}{b:Nat}(hb:b≠0)(h:(a:Rat)=t*(b:Rat)):bH a b hb=t:=by
 obtain⟨d,d0,e1,e2⟩:=Rat.normalize_num_den' a b hb;generalize bH a b hb=x at *
 have:(a:Rat)=x*(b:Rat):=by
  rw[e1,aP,Zci x,e2,fg,aY];grind
 have nz:(b:Rat)≠0:=λz=>hb (jM.mp z);grind
def Tp(K:Nat)(t:Rat)(d:D):Prop:=∃a b:Int,d=pr a b/\0<b/\(a:Rat)=t*(b:Rat)/\a.natAbs<2^K/\b.natAbs<2^K
section
variable {rs:List Pt}
theorem Zfw(h:Tp K t d)(h':Tp K u d')(hK:K<=8000):wO (CD.F_less [d,d'] M) Q E=Q (.bl (decide (t<u))) M:=by
 obtain⟨a,b,rfl,b0,e,s1,s2⟩:=h;obtain⟨a',b',rfl,b0',e',s1',s2'⟩:=h';have f1:Zs a b':=Zn K K s1 s2' ⋯ ⋯
 have f2:Zs a' b:=Zn K K s1' s2 ⋯ ⋯
 simp![CD.F_less,CD.Zgk,ZK f1,ZK f2];have p:(0:Rat)<(b:Rat):=dX.mpr b0;have p':(0:Rat)<(b':Rat):=dX.mpr b0';have hlt:a*b'<a'*b↔t<u:=by
  rw[<-gQ,aP,aP,e,e'];have e3:t*(b:Rat)*(b':Rat)=((b:Rat)*b')*t:=by grind
  have e4:u*(b':Rat)*(b:Rat)=((b:Rat)*b')*u:=by grind
  rw[e3,e4];exact fU (il p p')
 rw[show decide (a*b'<a'*b)=decide (t<u)from decide_eq_decide.mpr hlt]
theorem ZkX{a b:Int}(b0:0<b)(e:(a:Rat)=t*(b:Rat))(s2:b.natAbs<2^K)(hK:K<=8000):wO (CR.F_ratio [.int a,.int b] M) Q E=Q (rt t) M:=by
 obtain⟨c,rfl⟩:∃c:Nat,b=c:=⟨b.toNat,⋯⟩
 rw[CR.ZdM (k:=K) (show c≠0 by lia) (by simpa using s2) hK,Zc3 (t:=t) ⋯ (by rw[e,aY])]
theorem ZtZ{a b:Int}(b0:0<b)(e:(a:Rat)=t*(b:Rat))(s1:a.natAbs<2^K)(s2:b.natAbs<2^K):Sz K t:=by
 obtain⟨c,rfl⟩:∃c:Nat,b=c:=⟨b.toNat,⋯⟩
 rw[<-Zc3 (t:=t) (show c≠0 by lia) (by rw[e,aY])]
 exact CR.ZbA _ s1 (by simpa using s2)
def LoD(rs:List Pt)(hs:List Rat)(i K n:Nat)(d:D):Prop:=(d=.non/\∀j<n,¬0<co (cy rs i) (cy rs j))\/∃t,Tp K t d/\LoI rs hs i n t
def HiD(rs:List Pt)(hs:List Rat)(i K n:Nat)(d:D):Prop:=(d=.non/\∀j<n,¬co (cy rs i) (cy rs j)<0)\/∃t,Tp K t d/\HiI rs hs i n t
theorem Zgn(h:LoD rs hs i K n d)(c:¬0<co (cy rs i) (cy rs n)):LoD rs hs i K (n+1) d:=by
 rcases h with⟨e,h⟩|⟨t,tp,h⟩
 .refine .inl ⟨e,λj hj=>?_⟩;by_cases e:j=n
  .subst e;exact c
  .exact h j ⋯
 .exact .inr ⟨t,tp,h.keep λz=>absurd z c⟩
theorem Zgo(h:HiD rs hs i K n d)(c:¬co (cy rs i) (cy rs n)<0):HiD rs hs i K (n+1) d:=by
 rcases h with⟨e,h⟩|⟨t,tp,h⟩
 .refine .inl ⟨e,λj hj=>?_⟩;by_cases e:j=n
  .subst e;exact c
  .exact h j ⋯
 .exact .inr ⟨t,tp,h.keep λz=>absurd z c⟩
theorem ZkY{r:Pt}:((X o b*x.num*(y.den:Int)-y.num*(x.den:Int):Int):Rat)=as' b o x y*((x.den:Rat)*(y.den:Rat)):=by
 rw[dW,aP,aP,aP,Zci x,Zci y,aY,aY];unfold as';generalize ((X o b:Int):Rat)=z;generalize (x.den:Rat)=a;generalize (y.den:Rat)=c;grind
theorem ZkZ{x y:Rat}:((X r o*(x.den:Int)*(y.den:Int):Int):Rat)=co r o*((x.den:Rat)*(y.den:Rat)):=by
 rw[aP,aP,aY,aY];unfold co;generalize ((X r o:Int):Rat)=z;grind
theorem Zjm{x y:Rat}:(0:Rat)<(x.den:Rat)*(y.den:Rat):=il (j6.mpr (dJ x.den_nz)) (j6.mpr (dJ y.den_nz))
theorem Zdr{a:Rat}(h:c≠0):a=c*(a/c):=by
 have:=Rat.div_mul_cancel (a:=a) h
 grind
theorem Zt0{a bt:Int}(ea:(a:Rat)=as' b o x y*((x.den:Rat)*(y.den:Rat)))(eb:(bt:Rat)=co r o*((x.den:Rat)*(y.den:Rat)))(c:0<co r o)(s1:a.natAbs<2^K)(s2:bt.natAbs<2^K):Tp K (as' b o x y/co r o) (pr a bt):=by
 have hd:=Zjm (x:=x) (y:=y);have h:=Zdr (a:=as' b o x y) (c:=co r o) (by grind)
 have hp:(0:Rat)<(bt:Rat):=by rw[eb];exact il c hd
 refine⟨a,bt,rfl,dX.mp hp,?_,s1,s2⟩;rw[ea,eb];generalize as' b o x y/co r o=u at *;grind
theorem Zt1{a bt:Int}(ea:(a:Rat)=as' b o x y*((x.den:Rat)*(y.den:Rat)))(eb:(bt:Rat)=co r o*((x.den:Rat)*(y.den:Rat)))(c:co r o<0)(s1:a.natAbs<2^K)(s2:bt.natAbs<2^K):Tp K (as' b o x y/co r o) (pr (-a) (-bt)):=by
 have hd:=Zjm (x:=x) (y:=y);have h:=Zdr (a:=as' b o x y) (c:=co r o) (by grind)
 have hp:(0:Rat)<((-bt:Int):Rat):=by
  rw[j7,eb]
  have:=il (a:= -co r o) (by grind) hd
  grind
 refine⟨-a,-bt,rfl,dX.mp hp,?_,by omega,by omega⟩
 rw[j7,j7,ea,eb];generalize as' b o x y/co r o=u at *;grind
theorem ZrZ(hu:(-200<=u.1/\u.1<=200)/\ -200<=u.2/\u.2<=200)(hv:(-200<=v.1/\v.1<=200)/\ -200<=v.2/\v.2<=200):(X u v).natAbs<2^17:=by
 unfold X;have h1:=a7 u.1 v.2;have h2:=a7 u.2 v.1;have b1:u.1.natAbs*v.2.natAbs<=200*200:=bG ⋯ ⋯
 have b2:u.2.natAbs*v.1.natAbs<=200*200:=bG ⋯ ⋯
 have:=fw (u.1*v.2) (u.2*v.1)
 lia
theorem Zjn(hu:(-B<=u.1/\u.1<=B)/\ -B<=u.2/\u.2<=B)(hv:(-B<=v.1/\v.1<=B)/\ -B<=v.2/\v.2<=B)(hB:B<=400:=by first|decide|assumption):(X u v).natAbs<2^19:=by
 unfold X;have h1:=a7 u.1 v.2;have h2:=a7 u.2 v.1;have b1:u.1.natAbs*v.2.natAbs<=400*400:=bG (by omega) (by omega)
 have b2:u.2.natAbs*v.1.natAbs<=400*400:=bG (by omega) (by omega)
 have:=fw (u.1*v.2) (u.2*v.1)
 omega
theorem ZnQ(hb:Nr B rs)(hn:rs≠[])(hz:∀x∈hs,Sz k x)(hh:hs.length≠0)(hB:B<=400:=by first|decide|assumption):Sz (2*k+19) (thr rs hs).1/\Sz (2*k+19) (thr rs hs).2:=by
 have a:=hb _ (ZQ (i:=0) hn);have b:=hb _ (ZQ (i:=1) hn);have z0:=Zbh (i:=0) hz hh;have z1:=Zbh (i:=1) hz hh;have e:k+9+(k+9)+1=2*k+19:=by omega
 exact⟨e▸Zcg (CR.ZaI z0 (Zax (k:=9) (by omega) (by decide))) (CR.ZaI z1 (Zax (k:=9) (by omega) (by decide))),e▸Zcg (CR.ZaI z1 (Zax (k:=9) (by omega) (by decide))) (CR.ZaI z0 (Zax (k:=9) (by omega) (by decide)))⟩
theorem Zra(hu:(-B<=u.1/\u.1<=B)/\ -B<=u.2/\u.2<=B)(hB:B<=400:=by first|decide|assumption):wO (CC.F_crossed [pr u.1 u.2,pr v.1 v.2] M) Q E=Q (.int (X u v)) M:=CC.ZcQ (by omega) (by omega)
theorem Zjo(h:rs≠[]):∃j:Nat,j<rs.length/\cy rs j=cy rs z:=by
 have l:0<rs.length:=aV.mpr h;refine⟨(z%rs.length).toNat,?_,?_⟩
 .have:=aX z (show(0:Int)<rs.length by lia)
  lia
 .have:=bF z (show(rs.length:Int)≠0 by lia)
  rw[fV this,Zbe]
theorem Zt2(I:Ro->Prop)(F:Nat->D)(hl:xs.length<10000000)(h0:I (roB k fr ρ))(st:∀(i:Nat)(h:i<xs.length)(ρ:Ro)(M':Sto),Kp M M'->I ρ->wG (tg xs[i] ρ) λr=>I r/\wO (f r M') (λy M2=>y=F i/\Kp M' M2) (λ_ _=>False))(hq:∀M',Kp M M'->M'[M.length]?=some (.lst ((aC xs.length).map F))->Q (.ref M.length) M'):kCo tg (λ_ M=>.ok true M) f k fr ρ Q (.pur xs) M:=by
 refine Zgc (xs:=xs) (Q:=λM2=>Q (.ref M.length) M2) (λi ρ M'=>I ρ/\Kp M M'/\M'[M.length]?=some (.lst ((aC i).map F))) _ 0 _ _ (by simp) (by simp[cnt]) ⟨h0,Kp.app,by simp⟩ (λi ρ M' hi hI=>rfl) ?_ (λρ M' hI=>hq M' hI.2.1 hI.2.2)
 rintro i ρ M' hi ⟨hI,K,r⟩;have s:=st i hi ρ M' K hI;cases e:tg xs[i] ρ with
 |none=>rw[e]at s;exact s.elim
 |some r'=>
  rw[e]at s;obtain⟨hr,s⟩:=s;show Br true _ _;rw[Zok];refine Zb0 s (λy M2 ⟨h1,h2⟩=>?_) (λ_ _ z=>z);subst h1;rw[h2.get r];have hl2:=Zo (h2.get r);refine⟨by simp;lia,hr,(K.trans h2).set (ae _),?_⟩
  rw[ay hl2,cE,cw];rfl
theorem Zjp:thr [r,b] [-x,t]=ptE r b x t:=by
 unfold thr ptE;rfl
def EdI(rs:List Pt)(hs:List Rat)(n m i K:Nat)(j:Nat)(ρ:Ro):Prop:=∃lo hi x8 x9 x10 x11 x12,ρ=[some (.ref n),some (.ref m),some (.int i),some (pr (cy rs i).1 (cy rs i).2),some (pr (cy rs (i+1)).1 (cy rs (i+1)).2),some (rt (cq hs i)),some lo,some hi,x8,x9,x10,x11,x12]/\LoD rs hs i K j lo/\HiD rs hs i K j hi/\ZeI rs hs i j
theorem Zrb(h:M[n]?=some (.lst (prs rs)))(hs':Smo rs)(hb:Nr B rs)(hl:rs.length<=1000)(h':M[m]?=some (.lst (rts hs)))(e:hs.length=rs.length)(hz:∀x∈hs,Sz k x)(hk:k<=900)(hi:i<rs.length)(q:∀ps o M',Zji rs hs i ps->ps.length<=2->(∀p∈ps,Sz (4*k+61) p.1/\Sz (4*k+61) p.2)->Kp M M'->M.length<=o->M'[o]?=some (.lst (pts ps))->Q (.ref o) M')(hB:B<=400:=by first|decide|assumption):wO (F_edge [.ref n,.ref m,.int i] M) Q E:=by
 have hn:=Zo h;have hm:=Zo h';have hne:=hs'.ne;have zi:=Zbh (i:=i) hz ⋯
 have br:=hb _ (ZQ (i:=i) hne);have bb:=hb _ (ZQ (i:=i+1) hne);simp![F_edge,Zjk,h,h',ZcN,Zbv,CC.ZcR h (show 0<=(i:Int)/\(i:Int)<rs.length by lia),ZqQ,Zvb]
 refine ZlF (xs:=prs rs) (ys:=rts hs) (λj ρ M'=>M'=M/\EdI rs hs n m i (2*k+21) j ρ) h (by rw[ZG,Zu];lia) ⟨rfl,_,_,_,_,_,_,_,rfl,.inl ⟨rfl,λj hj=>⋯⟩,.inl ⟨rfl,λj hj=>⋯⟩,λj hj=>⋯⟩ (λj ρ M' hI=>hI.1▸⟨h,h'⟩) ?_ ?_
 .rintro j ρ _ hj ⟨rfl,lo,hg,x8,x9,x10,x11,x12,rfl,hlo,hhi,hze⟩;rw[ZG]at hj;rw[CC.ZcS,Zay];have zj:=Zbh (i:=j) hz ⋯
  have bj:=hb _ (ZQ (i:=j) hne);generalize hx:cq hs i=x at *;generalize hy:cq hs j=y at *;generalize hr:cy rs i=r at *;generalize hbb:cy rs (i+1)=b at *;generalize ho:cy rs j=o at *;have sX:=Zjn br bj;have sY:=Zjn bj bb;have dx:((x.den:Int)).natAbs<2^k:=by simpa using zi.2
  have dy:((y.den:Int)).natAbs<2^k:=by simpa using zj.2
  have g1:(X o b*x.num).natAbs<2^(19+k):=by rw[a7];exact CR.Z0 sY zi.1
  have g2:(X r o*(x.den:Int)).natAbs<2^(19+k):=by rw[a7];exact CR.Z0 sX dx
  have f1:Zs (X o b) x.num:=Zn 19 k sY zi.1 ⋯ ⋯
  have f2:Zs (X o b*x.num) (y.den:Int):=Zn (19+k) k g1 dy ⋯ ⋯
  have f3:Zs y.num (x.den:Int):=Zn k k zj.1 dx ⋯ ⋯
  have f4:Zs (X r o) (x.den:Int):=Zn 19 k sX dx ⋯ ⋯
  have f5:Zs (X r o*(x.den:Int)) (y.den:Int):=Zn (19+k) k g2 dy ⋯ ⋯
  have ea:=ZkY (r:=r) (b:=b) (o:=o) (x:=x) (y:=y);have eb:=ZkZ (r:=r) (o:=o) (x:=x) (y:=y);have sa:(X o b*x.num*(y.den:Int)-y.num*(x.den:Int)).natAbs<2^(2*k+21):=by
   have a1:(X o b*x.num*(y.den:Int)).natAbs<2^(19+k+k):=by rw[a7];exact CR.Z0 g1 dy
   have a2:(y.num*(x.den:Int)).natAbs<2^(k+k):=by rw[a7];exact CR.Z0 zj.1 dx
   have a3:2^(k+k)<=2^(19+k+k):=cg (by decide) ⋯
   have a4:2^(2*k+21)=4*2^(19+k+k):=by rw[show 2*k+21=(19+k+k)+2 by lia,mo];lia
   have:=fw (X o b*x.num*(y.den:Int)) (y.num*(x.den:Int))
   lia
  have sb:(X r o*(x.den:Int)*(y.den:Int)).natAbs<2^(2*k+21):=by
   rw[a7];exact aj (CR.Z0 g2 dy) (cg (by decide) ⋯)
  simp![Zc0,Zra br,Zra bj,ZK f1,ZK f2,ZK f3,ZK f4,ZK f5];have ci:(X r o=0↔co r o=0)/\(0<X r o↔0<co r o)/\(X r o<0↔co r o<0):=⟨jN.symm,dX.symm,Rat.intCast_neg_iff.symm⟩;generalize X o b*x.num*(y.den:Int)-y.num*(x.den:Int)=ak at *;generalize X r o*(x.den:Int)*(y.den:Int)=bt at *;generalize X r o=c at *;have ec:co (cy rs i) (cy rs j)=co r o:=by rw[hr,ho]
  have eas:as' (cy rs (i+1)) (cy rs j) (cq hs i) (cq hs j)=as' b o x y:=by rw[hbb,ho,hx,hy]
  have hd:=Zjm (x:=x) (y:=y);have mk:∀{lo hi:D}{x8 x9 x10 x11 x12:Option D},LoD rs hs i (2*k+21) (j+1) lo->HiD rs hs i (2*k+21) (j+1) hi->ZeI rs hs i (j+1)->EdI rs hs n m i (2*k+21) (j+1) [some (.ref n),some (.ref m),some (.int i),some (pr r.1 r.2),some (pr b.1 b.2),some (rt x),some lo,some hi,x8,x9,x10,x11,x12]:=λa b' c'=>by
   rw[<-hr,<-hbb,<-hx];exact⟨_,_,_,_,_,_,_,rfl,a,b',c'⟩
  rcases(show c=0\/0<c\/c<0 by lia)with c0|c0|c0
  .have cz:=ci.1.mp c0;simp![Zp];refine brS (λhp=>?_) (λhp=>?_)
   .simp![Zp];have hp':(0:Rat)<(ak:Rat):=dX.mpr hp;rw[ea]at hp';refine q [] _ _ (ZnO hs' hj (ec▸cz) ?_) (by simp) (λp hp=>by cases hp) Kp.app (ae _) (by simp[pts])
    rw[eas]
    have:as' b o x y*0<as' b o x y*((x.den:Rat)*(y.den:Rat)):=by grind
    by_cases z:0<as' b o x y
    .exact z
    .have:=Rat.mul_le_mul_of_nonneg_right (c:=(x.den:Rat)*(y.den:Rat)) (show as' b o x y<=0 by grind) (by grind)
     grind
   .simp![Zp];refine mk (Zgn hlo (by rw[ec];grind)) (Zgo hhi (by rw[ec];grind)) (hze.keep λ_=>?_)
    rw[eas];have hp':(ak:Rat)<=0:=jc.mpr ⋯
    rw[ea]at hp';by_cases z:0<as' b o x y
    .have:=il z hd
     grind
    .grind
  .have cz:=ci.2.1.mp c0;have tu:=Zt0 (K:=2*k+21) ea eb cz sa sb;have eu:=Zdr (a:=as' b o x y) (c:=co r o) (by grind)
   generalize as' b o x y/co r o=u at *;have hz':ZeI rs hs i (j+1):=hze.keep λz=>by rw[ec]at z;grind
   have hh':=Zgo hhi (show ¬co (cy rs i) (cy rs j)<0 by rw[ec];grind)
   rcases hlo with⟨rfl,hlo⟩|⟨t,tp,hlo⟩
   .simp![Zp];exact mk (.inr ⟨u,tu,.new (by rw[eas,ec,eu]) (by rw[ec];exact cz) λj' hj' z=>absurd z (hlo j' hj')⟩) hh' hz'
   .have tp':=tp;obtain⟨a',b',rfl,_⟩:=tp';simp![Zfw tp tu ⋯]
    refine brS (λhlt=>?_) (λhlt=>?_)
    .simp![Zp];exact mk (.inr ⟨u,tu,.new (by rw[eas,ec,eu]) (by rw[ec];exact cz) λj' hj' z=>Zgm z (hlo.2 j' hj' z) (by grind)⟩) hh' hz'
    .simp![Zp];exact mk (.inr ⟨t,tp,hlo.keep λz=>by rw[eas,ec,eu];exact(Z5 cz).mpr (by grind)⟩) hh' hz'
  .have cz:=ci.2.2.mp c0;have tu:=Zt1 (K:=2*k+21) ea eb cz sa sb;have eu:=Zdr (a:=as' b o x y) (c:=co r o) (by grind)
   generalize as' b o x y/co r o=u at *;have hz':ZeI rs hs i (j+1):=hze.keep λz=>by rw[ec]at z;grind
   have hh':=Zgn hlo (show ¬0<co (cy rs i) (cy rs j)by rw[ec];grind)
   rcases hhi with⟨rfl,hhi⟩|⟨t,tp,hhi⟩
   .simp![Zp];exact mk hh' (.inr ⟨u,tu,.new (by rw[eas,ec,eu]) (by rw[ec];exact cz) λj' hj' z=>absurd z (hhi j' hj')⟩) hz'
   .have tp':=tp;obtain⟨a',b',rfl,_⟩:=tp';simp![Zfw tu tp ⋯]
    refine brS (λhlt=>?_) (λhlt=>?_)
    .simp![Zp];exact mk hh' (.inr ⟨u,tu,.new (by rw[eas,ec,eu]) (by rw[ec];exact cz) λj' hj' z=>ZcZ z (hhi.2 j' hj' z) (by grind)⟩) hz'
    .simp![Zp];exact mk hh' (.inr ⟨t,tp,hhi.keep λz=>by rw[eas,ec,eu];exact ZcZ cz dD (by grind)⟩) hz'
 .rintro ρ _ ⟨rfl,lo,hg,x8,x9,x10,x11,x12,rfl,hlo,hhi,hze⟩;rw[ZG]at hlo hhi hze;have one:=hs'.one i;have lt':∃t,Tp (2*k+21) t lo/\LoI rs hs i rs.length t:=by
   rcases hlo with⟨_,hlo⟩|hlo
   .obtain⟨j,hj,ej⟩:=Zjo (rs:=rs) (z:=i+1) hne;refine absurd ?_ (hlo j hj);unfold co;rw[ej,one]
    decide +kernel
   .exact hlo
  have ht':∃t,Tp (2*k+21) t hg/\HiI rs hs i rs.length t:=by
   rcases hhi with⟨_,hhi⟩|hhi
   .obtain⟨j,hj,ej⟩:=Zjo (rs:=rs) (z:=i-1) hne;refine absurd ?_ (hhi j hj);have o2:=hs'.one (i-1);rw[show(i:Int)-1+1=i by lia]at o2
    unfold co;rw[ej,show X (cy rs i) (cy rs (i-1))= -1 by unfold X at *;grind]
    decide +kernel
   .exact hhi
  obtain⟨t,tl,hlo⟩:=lt';obtain⟨u,th,hhi⟩:=ht';simp![Zfw th tl ⋯]
  refine brS (λhlt=>?_) (λhlt=>?_)
  .simp![Zp];exact q [] _ _ (ZnP hs' hlo hhi hlt) (by simp) (λp hp=>by cases hp) Kp.app (ae _) (by simp[pts])
  .simp![Zp];have ed:=ZkW hs' hi hlo hhi hze (by grind)
   have st:∀v,Sz (2*k+21) v->Sz (4*k+61) (ptE (cy rs i) (cy rs (i+1)) (cq hs i) v).1/\Sz (4*k+61) (ptE (cy rs i) (cy rs (i+1)) (cq hs i) v).2:=λv hv=>by
    rw[<-Zjp]
    have:=ZnQ (rs:=[cy rs i,cy rs (i+1)]) (hs:=[-(cq hs i),v]) (k:=2*k+21) (λp hp=>by
     rcases ar.mp hp with rfl|hp
     .exact br
     .rcases ar.mp hp with rfl|hp
      .exact bb
      .cases hp) (by simp) (λp hp=>by
     rcases ar.mp hp with rfl|hp
     .exact⟨by rw[my,Int.natAbs_neg];exact aj zi.1 (cg (by decide) ⋯),by rw[mz];exact aj zi.2 (cg (by decide) ⋯)⟩
     .rcases ar.mp hp with rfl|hp
      .exact hv
      .cases hp) (by simp)
    exact⟨ZeJ this.1 ⋯,ZeJ this.2 ⋯⟩
   have tsz:∀{v:Rat}{d:D},Tp (2*k+21) v d->Sz (2*k+21) v:=λ⟨a,b,_,b0,e1,s1,s2⟩=>ZtZ b0 e1 s1 s2;refine Zt2 (λρ=>∃x,ρ=[x,some (pr (cy rs i).1 (cy rs i).2),some (pr (cy rs (i+1)).1 (cy rs (i+1)).2),some (rt (cq hs i))]) (λj=>rp (ptE (cy rs i) (cy rs (i+1)) (cq hs i) (if j=0 then t else u))) (by simp) ⟨_,rfl⟩ ?_ ?_
   .rintro j hj ρ M1 K1 ⟨y,rfl⟩;obtain⟨d,v,e1,e2,tv'⟩:∃d v,[lo,hg][j]=d/\(if j=0 then t else u)=v/\Tp (2*k+21) v d:=by
     match j,hj with
     |0,_=>exact⟨_,_,rfl,rfl,tl⟩
     |1,_=>exact⟨_,_,rfl,rfl,th⟩
    rw[e1,e2];have sv:=tsz tv';obtain⟨a,b,rfl,b0,e3,s1,s2⟩:=tv';simp![ZkX b0 e3 s2 ⋯]
    refine⟨⟨_,rfl⟩,?_⟩;have l1:M1.length<(M1++[SO.lst [pr (cy rs i).1 (cy rs i).2,pr (cy rs (i+1)).1 (cy rs (i+1)).2]]).length:=by simp
    rw[Zjc (k:=2*k+21) (rs:=[cy rs i,cy rs (i+1)]) (hs:=[-(cq hs i),v]) (by simp[prs]) (λp hp=>by
     rcases ar.mp hp with rfl|hp
     .exact br
     .rcases ar.mp hp with rfl|hp
      .exact bb
      .cases hp) (by simp) (by simp[rts,rt,my,mz]) (by simp) (λp hp=>by
     rcases ar.mp hp with rfl|hp
     .exact⟨by rw[my,Int.natAbs_neg];exact aj zi.1 (cg (by decide) ⋯),by rw[mz];exact aj zi.2 (cg (by decide) ⋯)⟩
     .rcases ar.mp hp with rfl|hp
      .exact sv
      .cases hp) ⋯]
    exact⟨by rw[Zjp],Kp.app⟩
   .intro M1 K1 r1;refine q _ _ _ ed (by simp) (λp hp=>?_) K1 (ae _) (by rw[r1];rfl)
    rcases ar.mp hp with rfl|hp
    .exact st _ (tsz tl)
    .rcases ar.mp hp with rfl|hp
     .exact st _ (tsz th)
     .cases hp
end
end BD
namespace BD
open L2 DL
open CV CN CU CS
open CR (rt Sz)
open CH (rts Zu ZI)
open CD (pts ZX Zbi)
open Rb
noncomputable def ZcA(xs:List Rat):Nat:=xs.foldl (λb x=>gR b x.den) 1
theorem Zk0(b d:Nat)(hd:d≠0):b*(d/iH b d)=gR b d:=by
 unfold gR;rw[Nat.mul_div_assoc _ (Nat.gcd_dvd_right b d)]
theorem Zjq:ZcA (xs++[x])=gR (ZcA xs) x.den:=by simp[ZcA]
theorem Zgp:∀(xs:List Rat),0<ZcA xs:=by
 have:∀(xs:List Rat)(b:Nat),0<b->0<xs.foldl (λb x=>gR b x.den) b:=by
  intro xs
  induction xs with
  |nil=>intro b h;exact h
  |cons x r ih=>intro b h;exact ih _ (Nat.lcm_pos h (dJ x.den_nz))
 exact λxs=>this xs 1 (by decide)
theorem Zgq(h:x∈xs):x.den ∣ ZcA xs:=by
 have up:∀(xs:List Rat)(b:Nat),b ∣ xs.foldl (λb x=>gR b x.den) b:=by
  intro xs
  induction xs with
  |nil=>intro b;exact Nat.dvd_refl _
  |cons x r ih=>intro b;exact Nat.dvd_trans (Nat.dvd_lcm_left _ _) (ih _)
 have:∀(xs:List Rat)(b:Nat),x∈xs->x.den ∣ xs.foldl (λb x=>gR b x.den) b:=by
  intro xs
  induction xs with
  |nil=>intro b h;cases h
  |cons y r ih=>
   intro b h;rcases ar.mp h with rfl|h
   .exact Nat.dvd_trans (Nat.dvd_lcm_right _ _) (up _ _)
   .exact ih _ h
 exact this xs 1 h
section
variable {M:Sto}{k l K i:Nat}{rs:List Pt}{hs:List Rat}{d:D}{ms:List RP}{p:RP}
theorem Zfx(hz:∀x∈xs,Sz k x):ZcA xs<2^(xs.length*k+1):=by
 have:∀(xs:List Rat)(b e:Nat),(∀x∈xs,Sz k x)->b<2^e->xs.foldl (λb x=>gR b x.den) b<2^(e+xs.length*k):=by
  intro xs
  induction xs with
  |nil=>intro b e _ h;simpa using h
  |cons x r ih=>
   intro b e hz h;have l1:gR b x.den<=b*x.den:=by
    unfold gR;exact iz _ _
   have l2:=CR.Z0 h (hz x (by simp)).2
   have:=ih (gR b x.den) (e+k) (λy hy=>hz y (aJ _ hy)) ⋯
   rw[iA,bS,Nat.add_mul,Nat.one_mul,show e+(r.length*k+k)=e+k+r.length*k by lia]
   exact this
 have:=this xs 1 1 hz (by decide)
 rw[iF]at this;exact this
theorem Zgr(h:M[n]?=some (.lst (rts xs)))(hl:xs.length<=1000)(hz:∀x∈xs,Sz k x)(hk:k<=8000):wO (F_common_bottom [.ref n] M) Q E=Q (.int (ZcA xs:Nat)) M:=by
 have main (Q:W0) (E:W2) (q:Q (.int (ZcA xs:Nat)) M):wO (F_common_bottom [.ref n] M) Q E:=by
  have hn:=Zo h;simp![F_common_bottom,Zaz];refine Zbd (xs:=rts xs) (λi ρ M'=>M'=M/\∃x,ρ=[some (.ref n),some (.int (ZcA (xs.take i):Nat)),x]) h ⟨rfl,_,rfl⟩ (λi ρ M' hI=>hI.1▸h) ?_ ?_
  .rintro i ρ _ hi ⟨rfl,x,rfl⟩;rw[Zay];have hi':i<xs.length:=by rw[Zu]at hi;exact hi
   have z:=Zbh (i:=i) hz ⋯
   have b:=Zfx (xs:=xs.take i) (k:=k) (λx hx=>hz x (ii hx));have p0:=Zgp (xs.take i);have tk:ZcA (xs.take (i+1))=gR (ZcA (xs.take i)) (cq xs i).den:=by rw[bE hi',Zjq,Z4 hi']
   generalize cq xs i=y at *;have gl:(xs.take i).length*k+1<=10000000:=by
    have:(xs.take i).length<=1000:=by simp;lia
    have:=bG this hk
    lia
   generalize (xs.take i).length*k+1=e at *;generalize ZcA (xs.take i)=c at *;have gw:∀{Q:W0}{E:W2}{M:Sto},wO (CR.F_greatest_divisor [.int (c:Int),.int (y.den:Int)] M) Q E=Q (.int ((iH c y.den:Nat):Int)) M:=by
    intro Q E M;rw[CR.ZqZ,ZlB];rfl
   have g0:0<iH c y.den:=Nat.gcd_pos_of_pos_left _ p0;have g1:iH c y.den<=y.den:=Nat.le_of_dvd (dJ y.den_nz) (Nat.gcd_dvd_right c y.den);have st:=Zk0 c y.den y.den_nz;have dv:y.den/iH c y.den<=y.den:=iz _ _;have z2:=z.2;generalize iH c y.den=g at *;simp![Z7,gw];rw[CR.ZcV (k:=k) ⋯ (by simp;lia) hk]
   have f1:Zs (c:Int) ((y.den:Int)/(g:Int)):=Zn e k (by simpa using b) (by rw[<-hG,jd];lia) ⋯ ⋯
   simp![ZK f1];refine⟨some (rt y),?_⟩;rw[tk,<-st];simp
  .rintro ρ _ ⟨rfl,x,rfl⟩;rw[Zu,dG];simp![Zp];exact q
 obtain⟨d,M',e,e1,e2⟩:=Zce (main (λd M'=>d=.int (ZcA xs:Nat)/\M'=M) (λ_ _=>False) ⟨rfl,rfl⟩);rw[e,e1,e2];rfl
noncomputable def stc(B:Nat)(x:Rat):Int:=x.num*((B/x.den:Nat):Int)
theorem Zgs(h:x.den ∣ B):(stc B x:Rat)=x*(B:Rat):=by
 obtain⟨c,rfl⟩:=h;unfold stc;rw[Nat.mul_div_cancel_left _ (dJ x.den_nz),aP,Zci x,fg,aY];grind
theorem ZbD{B:Nat}(hx:Sz k x)(hk:k<=8000)(hB:B<2^l)(hl:l<=50000000):wO (F_stretched [rt x,.int (B:Int)] M) Q E=Q (.int (stc B x)) M:=by
 have dn:=dJ x.den_nz;simp![F_stretched,ZbC];rw[CR.ZcV (k:=k) ⋯ (by simpa using hx.2) hk]
 have:B/x.den<=B:=iz _ _
 have f1:Zs x.num ((B:Int)/(x.den:Int)):=Zn k l hx.1 (by rw[<-hG,jd];lia) ⋯ ⋯
 simp![ZK f1];unfold stc;rw[hG]
theorem Zgt(h0:0<B)(hx:x.den ∣ B)(hy:y.den ∣ B):stc B x<stc B y↔x<y:=by
 rw[<-gQ,Zgs hx,Zgs hy];exact Rat.mul_lt_mul_right (j6.mpr h0)
theorem ZdR(h0:0<B)(hx:x.den ∣ B)(hy:y.den ∣ B)(h:stc B x=stc B y):x=y:=by
 have:=Zgt h0 hx hy
 have:=Zgt h0 hy hx
 grind
noncomputable def pl(p q:RP):Prop:=p.1<q.1\/(p.1=q.1/\p.2<q.2)
def ent(m:RP):D:=.tup [rp m,.bl true]
theorem Zt3(m:RP):∃kk,kyU (rp m)=some kk:=⟨_,rfl⟩
theorem Zrc{a:RP}(h1:kyU (rp a)=some kk)(h2:kyU (rp b)=some kk):a=b:=by
 have e1:=Zcw (show ZjP [rt a.1,rt a.2]=some kk from h1);have e2:=Zcw (show ZjP [rt b.1,rt b.2]=some kk from h2);have e:=e1.trans e2.symm;simp only[f7,and_true]at e;exact gy (Zjb e.1) (Zjb e.2)
theorem Zrd{a:RP}(h2:kyU (rp b)=some kk):kyU (rp a)=some kk↔a=b:=⟨λh=>Zrc h h2,λh=>h▸h2⟩
theorem Zjr{kk:List (List Key)}(h:kyU (rp p)=some kk):∀ms:List RP,(Zkq kyU kk (ms.map ent)).isSome=decide (p∈ms)
 |[]=>by simp[Zkq]
 |a::r=>by
  have ih:=Zjr h r;rw[aR,show ent a=.tup [rp a,.bl true]from rfl,Zkq];by_cases e:a=p
  .subst e;rw[if_pos h];simp
  .rw[if_neg (λz=>e ((Zrd h).mp z)),ih]
   have:p≠a:=λz=>e z.symm
   simp[this]
theorem ZnR(ms:List RP):ZmQ kyU kk (.bl true) (ms.map ent)=ms.map ent:=by
 unfold ZmQ;rw[gN];refine eI λa _=>?_;simp only[Function.comp,ent];split
 .rfl
 .rfl
theorem ZnS(h:kyU (rp p)=some kk)(ms:List RP):Zoh kyU kk (rp p) (.bl true) (ms.map ent)=(if p∈ms then ms else ms++[p]).map ent:=by
 unfold Zoh;rw[Zjr h,ZnR];by_cases e:p∈ms
 .simp[e]
 .simp[e];rfl
def key(B:Nat)(m:RP):List Int:=[stc B m.1,stc B m.2]
noncomputable def Dv(B:Nat)(ms:List RP):Prop:=∀m∈ms,m.1.den ∣ B/\m.2.den ∣ B
theorem Zjs(h0:0<B)(h:Dv B ms)(ha:a∈ms)(hb:b∈ms)(e:key B a=key B b):a=b:=by
 unfold key at e;simp only[f7,and_true]at e;exact gy (ZdR h0 (h a ha).1 (h b hb).1 e.1) (ZdR h0 (h a ha).2 (h b hb).2 e.2)
theorem Zre(h0:0<B)(h:Dv B ms)(ha:a∈ms)(hb:b∈ms)(ne:a≠b)(e:ST.le (key B a) (key B b)):pl a b:=by
 have e:HT.Za8 (key B b) (key B a)=false:=e;unfold key at e;rw[HT.Z2]at e;have l1:=Zgt h0 (h a ha).1 (h b hb).1;by_cases c:stc B b.1=stc B a.1
 .rw[if_pos c,HT.Z2]at e;have c1:=ZdR h0 (h b hb).1 (h a ha).1 c;have l2:=Zgt h0 (h a ha).2 (h b hb).2;by_cases d:stc B b.2=stc B a.2
  .exact absurd (gy c1 (ZdR h0 (h b hb).2 (h a ha).2 d)).symm ne
  .rw[if_neg d]at e;refine .inr ⟨c1.symm,l2.mp ?_⟩
   have:=of_decide_eq_false e
   lia
 .rw[if_neg c]at e;refine .inl (l1.mp ?_)
  have:=of_decide_eq_false e
  lia
theorem ZnT(h0:0<B)(h:Dv B ms)(nd:ms.Nodup):(ms.map (key B)).Nodup:=by
 refine gS.mpr ?_;refine eF (λha hb ne e=>ne (Zjs h0 h ha hb e)) nd
theorem Zk1{α:Type}(d0:α){f:α->List Int}{g:α->D}{ms:List α}(inj:∀a∈ms,∀b∈ms,f a=f b->a=b)(nd:ms.Nodup):∃ms':List α,ms'.Perm ms/\ms'.Pairwise (λa b=>f a≠f b/\ST.le (f a) (f b))/\ZlA (ms.map f) (ms.map g)=ms'.map g:=by
 have kn:(ms.map f).Nodup:=gS.mpr (eF (λha hb ne e=>ne (inj _ ha _ hb e)) nd)
 let inv (k:List Int):α:=(ms.find? (λm=>decide (f m=k))).getD d0
 have hinv:∀a∈ms,inv (f a)=a:=by
  intro a ha;show(ms.find? (λm=>decide (f m=f a))).getD d0=a;cases e:ms.find? (λm=>decide (f m=f a))with
  |none=>
   have:=List.find?_eq_none.mp e a ha
   simp at this
  |some b=>
   have h1:=List.find?_some e;have h2:=List.mem_of_find?_eq_some e;exact inj b h2 a ha (of_decide_eq_true h1)
 have hk:∀k∈ST.srt (ms.map f),∃a∈ms,f a=k:=λk hk=>by
  have:=(ST.ZbR _).mem_iff.mp hk
  obtain⟨a,ha,e⟩:=cx.mp this;exact⟨a,ha,e⟩
 refine⟨(ST.srt (ms.map f)).map inv,?_,?_,?_⟩
 .refine((ST.ZbR _).map inv).trans ?_;rw[gN]
  have:ms.map (inv∘f)=ms:=by
   conv=>rhs;rw[<-List.map_id ms]
   exact eI λa ha=>hinv a ha
  rw[this]
 .refine gS.mpr ?_;have nd2:(ST.srt (ms.map f)).Nodup:=(ST.ZbR _).nodup_iff.mpr kn;have both:=js.and nd2 (ST.ZiC (ms.map f));refine eF (λ{x y} hx hy hb=>?_) both;obtain⟨a,ha,rfl⟩:=hk x hx;obtain⟨b,hb',rfl⟩:=hk y hy;rw[hinv a ha,hinv b hb'];exact hb
 .unfold ZlA;rw[gN];refine eI λk hk'=>?_;obtain⟨a,ha,rfl⟩:=hk k hk';rw[Zdp (d:=g a) kn (by
   rw[List.zip_map'];exact cx.mpr ⟨a,ha,rfl⟩)]
  simp only[Function.comp,hinv a ha];rfl
theorem ZnU(h0:0<B)(h:Dv B ms)(nd:ms.Nodup):∃ms',ms'.Perm ms/\ms'.Pairwise pl/\ZlA (ms.map (key B)) (pts ms)=pts ms':=by
 obtain⟨ms',pm,pw,e⟩:=Zk1 (g:=rp) (0,0) (λa ha b hb=>Zjs h0 h ha hb) nd;exact⟨ms',pm,eF (λ{x y} hx hy hb=>Zre h0 h (pm.mem_iff.mp hx) (pm.mem_iff.mp hy) (λz=>hb.1 (by rw[z])) hb.2) pw,e⟩
theorem Zrf:wO (ZiK fs fr g ρ M) Q E=wO (fs ρ M) (kU (ZdF g fr ρ) Q E) E:=by unfold ZiK;exact ZA
noncomputable def Zdc(ms:List RP):List Rat:=ms.flatMap λm=>[m.1,m.2]
theorem Zjt:Zdc (ms++[m])=Zdc ms++[m.1,m.2]:=by simp[Zdc]
theorem ZdS:(Zdc ms).length=2*ms.length:=by
 induction ms with
 |nil=>rfl
 |cons a r ih=>simp[Zdc]at ih ⊢;lia
theorem ZdT:x∈Zdc ms↔∃m∈ms,x=m.1\/x=m.2:=by simp[Zdc]
theorem Zrg(h:M[n]?=some (.lst (pts ms)))(hl:ms.length<=1000)(q:Q (.ref M.length) (M++[.lst (rts (Zdc ms))])):ZtM (gNm 0) (λ_ M=>.ok true M) (λn=>gIn (iSq (Zg 0)) (gNm 1) (λ_ M=>.ok true M) (gEm (Zg 1) n)) 2 [] ρ Q (.sto n) M:=by
 have hn:=Zo h;obtain⟨ρ',M',e,x,y,e1,e2⟩:=Zcy (src:=.sto n) (tg:=gNm 0) (c:=λ_ M=>.ok true M) (g:=gIn (iSq (Zg 0)) (gNm 1) (λ_ M=>.ok true M) (gEm (Zg 1) M.length)) (P:=λi ρ M'=>∃x y,ρ=[x,y]/\M'=M++[.lst (rts (Zdc (ms.take i)))]) ms.length (by
  rintro i ρ M' hi ⟨x,y,rfl,rfl⟩;have tk:ms.take (i+1)=ms.take i++[ms[i]]:=bE hi;refine⟨rp ms[i],[some (rp ms[i]),y],_,?_,rfl,.inr ⟨[some (rp ms[i]),some (rt ms[i].2)],M++[.lst (rts (Zdc (ms.take (i+1))))],rfl,?_,_,_,rfl,rfl⟩⟩
  .rw[Zge (xs:=pts ms) (by rw[ac hn];exact h),av (by rw[ZX];exact hi),Zbi]
  .have ln:((Zdc (ms.take i)).map rt).length<9999999:=by rw[af,ZdS,cQ];lia
   rw[tk,Zjt];simp only[gIn,iSq,Out.bind,Zg,jI,Zcd,nxt,cnt,gNm,gEm,List.set_cons_zero,List.set_cons_succ,dm,bS,eX];rw[af]at ln;simp[rts];rw[if_pos ⋯]
   simp;rw[if_pos ⋯]) (by
  rintro ρ M' ⟨x,y,rfl,rfl⟩;rw[Zge (xs:=pts ms) (by rw[ac hn];exact h),aL (by rw[ZX];exact ae _)]) (cnt (.sto n) M) 0 (roB 2 [] ρ) (M++[.lst []]) ⋯ (by rw[Zfk h,ZX];lia) ⟨_,_,rfl,by simp[Zdc,rts]⟩
 refine⟨ρ',M',e,?_⟩;rw[e2,dG];exact q
theorem ZlL{ρ:Ro}{B:Nat}(hρ:ρ[1]?=some (some (.int (B:Int))))(hB:B<2^l)(hl:l<=50000000)(hk:k<=8000):∀ms:List RP,(∀p∈ms,Sz k p.1/\Sz k p.2)->Zdo (Zal (Zc (Zj F_stretched (Zc (e2 dIx (Zg 0) (eC (.int 0))) (Zc (Zg 1) aNil))) (Zc (Zj F_stretched (Zc (e2 dIx (Zg 0) (eC (.int 1))) (Zc (Zg 1) aNil))) aNil))) [1] ρ M (pts ms) (ms.map (key B))
 |[],_=>.nil
 |a::r,hz=>by
  have ih:=ZlL hρ hB hl hk r (λp hp=>hz p (aJ _ hp));have za:=hz a (by simp)
  refine .cons ⟨?_,by simp[key]⟩ ih
  have e:roL (rp a) [1] ρ=[some (rp a),some (.int (B:Int))]:=by simp[roL,hρ]
  show(Zal _ (roL (rp a) [1] ρ) M)=_;rw[e]
  have:wO (Zal (Zc (Zj F_stretched (Zc (e2 dIx (Zg 0) (eC (.int 0))) (Zc (Zg 1) aNil))) (Zc (Zj F_stretched (Zc (e2 dIx (Zg 0) (eC (.int 1))) (Zc (Zg 1) aNil))) aNil)) [some (rp a),some (.int (B:Int))] M) (λd M'=>d=Zlz (key B a)/\M'=M) (λ_ _=>False):=by
   simp![ZbD za.1 hk hB hl,ZbD za.2 hk hB hl];rfl
  obtain⟨d,M',e,e1,e2⟩:=Zce this;rw[e,e1,e2]
theorem ZgY(h:M[n]?=some (.lst (pts ms)))(nd:ms.Nodup)(hl:ms.length<64)(hz:∀p∈ms,Sz k p.1/\Sz k p.2)(hk:k<=8000)(q:∀ms' M',ms'.Perm ms->ms'.Pairwise pl->Kp M M'->M.length<M'.length->M'[M'.length-1]?=some (.lst (pts ms'))->Q (.ref (M'.length-1)) M'):wO (F_in_order [.ref n] M) Q E:=by
 have hn:=Zo h;simp![F_in_order,Zb7,ZiY];refine Zrg h ⋯ ?_
 have zf:∀x∈Zdc ms,Sz k x:=λx hx=>by
  obtain⟨m,hm,e|e⟩:=ZdT.mp hx
  .rw[e];exact(hz m hm).1
  .rw[e];exact(hz m hm).2
 simp![Zgr (M:=M++[SO.lst (rts (Zdc ms))]) (n:=M.length) (xs:=Zdc ms) (k:=k) (by simp) (by rw[ZdS];lia) zf hk,Zrf]
 have h0:=Zgp (Zdc ms);have dv:Dv (ZcA (Zdc ms)) ms:=λm hm=>⟨Zgq (ZdT.mpr ⟨m,hm,.inl rfl⟩),Zgq (ZdT.mpr ⟨m,hm,.inr rfl⟩)⟩;have lb:=Zfx zf;rw[ZdS]at lb;have bl:2*ms.length*k+1<=50000000:=by
  have:=bG (show 2*ms.length<=128 by lia) hk
  lia
 obtain⟨ms',pm,pw,es⟩:=ZnU h0 dv nd;have ok:ZiJ (Zal (Zc (Zj F_stretched (Zc (e2 dIx (Zg 0) (eC (.int 0))) (Zc (Zg 1) aNil))) (Zc (Zj F_stretched (Zc (e2 dIx (Zg 0) (eC (.int 1))) (Zc (Zg 1) aNil))) aNil))) [1] [some (.ref n),some (.int (ZcA (Zdc ms):Nat))] (M++[SO.lst (rts (Zdc ms))]) (pts ms) (ms.map (key (ZcA (Zdc ms)))):=⟨by rw[ZX];lia,ZnT h0 dv nd,ZlL rfl lb bl hk ms hz⟩
 rw[Zf8 (by rw[ac hn];exact h) ok,es]
 refine(?_:Q _ _)
 have:=q ms' (M++[SO.lst (rts (Zdc ms))]++[SO.lst (pts ms')]) pm pw (by rw[d6];exact Kp.app) (by simp) (by simp)
 simpa using this
def Bod(rs:List Pt)(hs:List Rat)(ms:List RP):Prop:=(∀p,p∈ms↔Cor rs hs p)/\ms.Pairwise pl
structure Met(rs:List Pt) (hs:List Rat) (K i:Nat) (ms:List RP):Prop where
 nd:ms.Nodup
 sz:∀p∈ms,Sz K p.1/\Sz K p.2
 cor:∀p∈ms,Cor rs hs p
 all:∀p i' j,i'<i->Win rs hs p->On rs hs p i'->On rs hs p j->X (cy rs i') (cy rs j)≠0->p∈ms
 len:ms.length<=2*i
theorem Zrh(h:M[n]?=some (.lst (prs rs)))(hs':Smo rs)(hb:Nr B rs)(hl:rs.length<=31)(h':M[m]?=some (.lst (rts hs)))(e:hs.length=rs.length)(hz:∀x∈hs,Sz k x)(hk:k<=900)(q:∀ms o M',Bod rs hs ms->(∀p∈ms,Sz (4*k+61) p.1/\Sz (4*k+61) p.2)->ms.length<=2*rs.length->Kp M M'->M.length<=o->M'[o]?=some (.lst (pts ms))->Q (.ref o) M')(hB:B<=400:=by first|decide|assumption):wO (F_body [.ref n,.ref m] M) Q E:=by
 have hn:=Zo h;have hm:=Zo h';simp![F_body,Zjl];refine CC.Zcf h hs' (λx hx=>by have:=hb x hx;lia) ?_
 simp![Zp];refine ZeH h h' e ?_;have r0:(M++[SO.lst []])[M.length]?=some (.lst (([]:List RP).map ent)):=by simp
 simp![ZtQ,h];refine⟨⋯,?_⟩
 rw[be];refine Zbu (n:=rs.length) (lo:=0) (λi ρ M'=>Kp M M'/\∃ms x3 x4,ρ=[some (.ref n),some (.ref m),some (.du M.length),x3,x4]/\M'[M.length]?=some (.lst (ms.map ent))/\Met rs hs (4*k+61) i ms) ⟨Kp.app,[],_,_,rfl,r0,⟨.nil,λp hp=>(by cases hp),λp hp=>(by cases hp),λp i' j hi=>(by lia),by simp⟩⟩ ?_ ?_
 .rintro i ρ M1 hi ⟨K1,ms,x3,x4,rfl,r1,me⟩;rw[show(0:Int)+(i:Nat)=i by lia]
  simp![Zc2];refine Zrb (K1.get h) hs' hb ⋯ (K1.get h') e hz hk hi λps o M2 ed lp zp K2 lo r2=>?_
  have hd:=Zo r1;have hne:o≠M.length:=⋯
  refine Zbd (xs:=pts ps) (λj ρ M'=>Kp M M'/\M'[o]?=some (.lst (pts ps))/\∃ms' x4,ρ=[some (.ref n),some (.ref m),some (.du M.length),some (.int i),x4]/\M'[M.length]?=some (.lst (ms'.map ent))/\ms'.Nodup/\(∀p,p∈ms'↔p∈ms\/p∈ps.take j)/\ms'.length<=ms.length+j) r2 ⟨K1.trans K2,r2,ms,_,rfl,K2.get r1,me.nd,λp=>by simp,⋯⟩ (λj ρ M' hI=>hI.2.1) ?_ ?_
  .rintro j ρ M3 hj ⟨K3,r3,ms',x4',rfl,rd,nd',mem',len'⟩;have hj':j<ps.length:=by rw[ZX]at hj;exact hj
   rw[Zbi];have tk:ps.take (j+1)=ps.take j++[ps[j]]:=bE hj';generalize ps[j]=p at *;obtain⟨kk,ek⟩:=Zt3 p;have hl3:=Zo rd;have lm:=me.len;simp![Zc1,ZqT,ZtO,ZtN];refine⟨_,kk,rfl,ek,?_⟩;rw[rd];refine⟨by rw[af];lia,K3.set (ae _),by rw[ah ⋯];exact r3,(if p∈ms' then ms' else ms'++[p]),_,rfl,by rw[ay hl3,ZnS ek],?_,λp'=>?_,?_⟩
   .split
    .exact nd'
    .rename_i c;exact List.nodup_append.mpr ⟨nd',by simp,λa ha b hb=>by simp at hb;subst hb;exact λz=>c (z▸ha)⟩
   .rw[tk];by_cases c:p∈ms'
    .rw[if_pos c,mem'];have c':=(mem' p).mp c;simp only[bZ,ar,bD,or_false];constructor
     .rintro(z|z)
      .exact .inl z
      .exact .inr (.inl z)
     .rintro(z|z|z)
      .exact .inl z
      .exact .inr z
      .rw[z];exact c'
    .rw[if_neg c];simp only[bZ,mem',ar,bD,or_false,or_assoc]
   .split
    .lia
    .simp;lia
  .rintro ρ M3 ⟨K3,r3,ms',x4',rfl,rd,nd',mem',len'⟩;rw[ZX,dG]at mem';rw[ZX]at len';have lm:=me.len;refine⟨K3,ms',_,_,rfl,rd,⟨nd',λp hp=>?_,λp hp=>?_,λp i' j hi' w o1 o2 ne=>?_,⋯⟩⟩
   .rcases(mem' p).mp hp with z|z
    .exact me.sz p z
    .exact zp p z
   .rcases(mem' p).mp hp with z|z
    .exact me.cor p z
    .exact ed.1 p z
   .by_cases z:i'=i
    .subst z;exact(mem' p).mpr (.inr (ed.2 p j w o1 o2 ne))
    .exact(mem' p).mpr (.inl (me.all p i' j ⋯ w o1 o2 ne))
 .rintro ρ M1 ⟨K1,ms,x3,x4,rfl,r1,me⟩;have hd:=Zo r1;have lm:=me.len;simp![ZtP,Zvf,r1];have em:(ms.map ent).map Zik=pts ms:=by rw[gN];rfl
  rw[em];refine ZgY (k:=4*k+61) (ms:=ms) (M:=M1++[SO.lst (pts ms)]) (by simp) me.nd ⋯ me.sz ⋯ λms' M' pm pw K' l' r'=>?_
  refine q ms' _ M' ⟨λp=>⟨λhp=>me.cor p (pm.mem_iff.mp hp),λ⟨w,i,j,o1,o2,ne⟩=>pm.mem_iff.mpr (me.all p i j o1.1 w o1 o2 ne)⟩,pw⟩ (λp hp=>me.sz p (pm.mem_iff.mp hp)) (by rw[pm.length_eq];lia) (K1.trans (Kp.app.trans K')) ?_ r'
  have:=K1.1
  have:=K'.1
  simp at this;lia
theorem Zri(h:M[n]?=some (.lst (prs rs)))(hs':Smo rs)(hb:Nr B rs)(hl:rs.length<=31)(h':M[m]?=some (.lst (rts hs)))(e:hs.length=rs.length)(hz:∀x∈hs,Sz k x)(hk:k<=900)(q:∀ms o M',Bod rs hs ms->(∀p∈ms,Sz (4*k+61) p.1/\Sz (4*k+61) p.2)->ms.length<64->Kp M M'->M.length<=o->M'[o]?=some (.lst (pts ms))->Q (.ref o) M')(hB:B<=400:=by first|decide|assumption):wO (F_body [.ref n,.ref m] M) Q E:=Zrh h hs' hb hl h' e hz hk λms o M' b z l=>q ms o M' b z ⋯
end
end BD
namespace BL
open L2 DL
open CC (F_law_cell_at F_law_cross F_law_smooth)
def ZaM:Sv:=(ZgP 2 3 (Zc (Zg 3) (Zc (e2 dMod (Zg 2) (Zg 3)) aNil)))
def ZbE:Sv:=(Zy (ZF (gNm 2) (Zj bAbs (Zc (Zg 0) aNil))) (Zy (ZF (gNm 3) (Zg 1)) (Zy (sWh (tv (e2 dGt (Zg 3) (eC (.int 0)))) ZaM) (Zae (Zal (Zc (e2 dDiv (Zg 0) (Zg 2)) (Zc (e2 dDiv (Zg 1) (Zg 2)) aNil)))))))
def F_law_ratio:W3:=fnF ZbE 2 2
def Zc4:Sv:=(Zae (Zj F_law_ratio (Zc (e2 dAdd (e2 dMul (e2 dIx (Zg 0) (eC (.int 0))) (e2 dIx (Zg 1) (eC (.int 1)))) (e2 dMul (e2 dIx (Zg 1) (eC (.int 0))) (e2 dIx (Zg 0) (eC (.int 1))))) (Zc (e2 dMul (e2 dIx (Zg 0) (eC (.int 1))) (e2 dIx (Zg 1) (eC (.int 1)))) aNil))))
def F_law_sum:W3:=fnF Zc4 2 0
def ZbF:Sv:=(Zae (Zj F_law_ratio (Zc (e2 dMul (Zg 0) (e2 dIx (Zg 1) (eC (.int 0)))) (Zc (e2 dIx (Zg 1) (eC (.int 1))) aNil))))
def F_law_times:W3:=fnF ZbF 2 0
def ZaA:Sv:=(Zy (ZF (gNm 6) (e2 dSub (e2 dMod (Zg 0) (e2 dAdd (e2 dAdd (Zg 2) (e2 dDiv (Zg 2) (eC (.int 3)))) (eC (.int 1)))) (e2 dDiv (Zg 2) (eC (.int 3))))) (Zy (ZF (gNm 7) (e2 dIx (ZbI (Zc (eC (.int 1)) (Zc (eC (.int 1)) (Zc (e2 dAdd (eC (.int 1)) (e2 dMod (e2 dDiv (Zg 0) (eC (.int 1009))) (eC (.int 6)))) (Zc (eC (.int 1)) aNil))))) (Zg 3))) (Zy (ZF (gNm 0) (e2 dDiv (Zg 0) (eC (.int 31)))) (Zy (sIf (ZbY (tv (e2 dEq (Zg 3) (eC (.int 3)))) (tv (e2 dGt (e2 dMod (Zg 0) (eC (.int 3))) (eC (.int 0))))) (ZF (gNm 6) (e2 dDiv (Zg 2) (eC (.int 4)))) sNil) (Za7 (ZeS mApp (Zg 4) (Zc (Zj F_law_ratio (Zc (Zg 6) (Zc (Zg 7) aNil))) aNil)))))))
def Zbj:Sv:=(Zy (ZF (gNm 3) (e2 dMod (Zg 0) (eC (.int 4)))) (Zy (ZF (gNm 0) (e2 dDiv (Zg 0) (eC (.int 4)))) (Zy (ZF (gNm 4) (ZbI aNil)) (Zy (Zg5 (gNm 5) (Zg 1) ZaA) (Zae (Zg 4))))))
def F_law_height:W3:=fnF Zbj 3 5
def ZbG:Sv:=(Zy (ZF (gNm 3) (Zj F_law_cell_at (Zc (Zg 0) (Zc (Zg 1) aNil)))) (Zy (ZF (gNm 4) (Zj F_law_smooth (Zc (e2 dDiv (Zg 3) (eC (.int 64))) (Zc (e2 dIx (ZbI (Zc (eC (.int 9)) (Zc (eC (.int 9)) (Zc (eC (.int 9)) (Zc (eC (.int 9)) (Zc (eC (.int 9)) (Zc (eC (.int 9)) (Zc (eC (.int 9)) (Zc (eC (.int 14)) aNil))))))))) (e2 dMod (Zg 3) (eC (.int 8)))) aNil)))) (Zy (sIf (tv (e2 dEq (e2 dMod (e2 dDiv (Zg 3) (eC (.int 8))) (eC (.int 8))) (eC (.int 7)))) (Zy (ZF (gNm 4) (Zj F_law_smooth (Zc (e2 dDiv (Zg 3) (eC (.int 64))) (Zc (eC (.int 3)) aNil)))) (ZF (gNm 2) (e2 dPow (eC (.int 10)) (eC (.int 30))))) sNil) (Zae (Zal (Zc (Zg 4) (Zc (Zj F_law_height (Zc (Zj F_law_cell_at (Zc (Zg 0) (Zc (e2 dAdd (Zg 1) (eC (.int 1))) aNil))) (Zc (Zg 4) (Zc (Zg 2) aNil)))) aNil)))))))
def F_law_sized:W3:=fnF ZbG 3 2
end BL
namespace BL
open L2 DL
open CV CN CU CS
open CR (rt Sz)
open CH (rts Zu ZI)
open CD (pts ZX Zbi)
open Rb BD
theorem Zrj{b:Nat}(hb:b≠0)(h:b<2^k)(hk:k<=8000)(q':Q (rt (bH t b hb)) M):wO (F_law_ratio [.int t,.int b] M) Q E:=by
 obtain⟨g0,g1⟩:=CR.ZlJ (t:=t) hb h;rw[CR.Zi9 hb]at q';simp![F_law_ratio,ZbE];refine ZtK (λj ρ M'=>M'=M/\∃a c:Nat,ρ=[some (.int t),some (.int b),some (.int a),some (.int c)]/\j=c/\iH a c=ft t b) ?_ b _ _ ⟨rfl,t.natAbs,b,rfl,rfl,rfl⟩;rintro j ρ M ⟨rfl,a,c,rfl,rfl,g⟩;simp![Zp];refine ZtL (λh'=>?_) (λh'=>?_)
 .simp![ZaM];have hc:0<j:=⋯
  refine⟨a%j,Nat.mod_lt a hc,j,a%j,by rw[Int.natCast_emod],rfl,?_⟩
  rw[<-g,jX j,<-Nat.gcd_rec,jX]
 .have j0:j=0:=⋯
  subst j0;rw[Nat.gcd_zero_right]at g;rw[<-g]at q' g0 g1;simp![Zp];rw[CR.ZcV (k:=k) ⋯ (by simpa using g1) hk]
  simp![Zp];rw[CR.ZcV (k:=k) ⋯ (by simpa using g1) hk]
  simp![Zp];exact q'
theorem ZdU{b:Nat}(hb:b≠0)(h:b<2^k)(hk:k<=8000):wO (F_law_ratio [.int t,.int b] M) Q E=Q (rt (bH t b hb)) M:=by
 obtain⟨d,M',e,e1,e2⟩:=Zce (Zrj (M:=M) (Q:=λd M'=>d=rt (bH t b hb)/\M'=M) (E:=λ_ _=>False) hb h hk ⟨rfl,rfl⟩);rw[e,e1,e2];rfl
theorem Zgu{a:Int}{b:Nat}(hb:b≠0)(e:(a:Rat)=t*(b:Rat))(h:b<2^k)(hk:k<=8000):wO (F_law_ratio [.int a,.int b] M) Q E=Q (rt t) M:=by
 rw[ZdU hb h hk,Zc3 hb e]
theorem Zgv(hp:Sz k p)(hq:Sz l q)(hk:k+l<=8000):wO (F_law_sum [rt p,rt q] M) Q E=Q (rt (p+q)) M:=by
 have nz:p.den*q.den≠0:=eZ p.den_nz q.den_nz;have f1:Zs p.num (q.den:Int):=Zn k l hp.1 (by simpa using hq.2) ⋯ ⋯
 have f2:Zs q.num (p.den:Int):=Zn l k hq.1 (by simpa using hp.2) ⋯ ⋯
 have f3:Zs (p.den:Int) (q.den:Int):=Zn k l (by simpa using hp.2) (by simpa using hq.2) ⋯ ⋯
 simp![F_law_sum,Zc4,ZK f1,ZK f2,ZK f3];rw[show(p.den:Int)*(q.den:Int)=((p.den*q.den:Nat):Int)by simp,ZdU nz (CR.Z0 hp.2 hq.2) hk,<-mq]
theorem Zgw(hz:z.natAbs<2^l)(hq:Sz k q)(hl:l<=8000)(hk:k<=8000):wO (F_law_times [.int z,rt q] M) Q E=Q (rt ((z:Rat)*q)) M:=by
 have f1:Zs z q.num:=Zn l k hz hq.1 ⋯ ⋯
 simp![F_law_times,ZbF,ZK f1];rw[ZdU q.den_nz hq.2 hk,Zgi]
def crn(r s:Pt)(x y:Rat):RP:=(((r.2:Rat)*y-s.2*x)/(X r s:Rat),((s.1:Rat)*x-r.1*y)/(X r s:Rat))
theorem ZnV(ne:X r s≠0):p=crn r s x y↔slp p r= -x/\slp p s= -y:=by
 have nz:((X r s:Int):Rat)≠0:=λz=>ne (jN.mp z);have e1:=Zdr (a:=(r.2:Rat)*y-s.2*x) nz;have e2:=Zdr (a:=(s.1:Rat)*x-r.1*y) nz;have ex:=Zbw r s;unfold crn slp;generalize ((r.2:Rat)*y-s.2*x)/(X r s:Rat)=a at *;generalize ((s.1:Rat)*x-r.1*y)/(X r s:Rat)=b at *;generalize ((X r s:Int):Rat)=c at *;constructor
 .rintro rfl;constructor
  .simp only
   have:c*(a*r.1+b*r.2)=c*(-x):=by grind
   grind
  .simp only
   have:c*(a*s.1+b*s.2)=c*(-y):=by grind
   grind
 .rintro⟨h1,h2⟩;refine gy ?_ ?_
  .simp only
   have:c*p.1=c*a:=by grind
   grind
  .simp only
   have:c*p.2=c*b:=by grind
   grind
theorem Zt4(h0:c≠0):c/(c.natAbs:Int)=if 0<c then 1 else -1:=by
 split
 .rename_i h;rw[show(c.natAbs:Int)=c by lia]
  exact Int.ediv_self h0
 .rw[show(c.natAbs:Int)= -c by lia,Int.ediv_neg,Int.ediv_self h0]
def Hq(x:Rat):Prop:=Sz 102 x/\∃t:Int,t.natAbs<=60*2^102/\(60:Rat)*x=t
theorem ZnW(hb:b≠0)(ht:t.natAbs<2^102)(b6:b<=6):Hq (bH t b hb):=by
 refine⟨CR.ZbA hb ht ⋯,?_⟩
 obtain⟨c,hc,c6⟩:∃c:Nat,b*c=60/\c<=60:=by
  rcases(show b=1\/b=2\/b=3\/b=4\/b=5\/b=6 by lia)with rfl|rfl|rfl|rfl|rfl|rfl
  .exact⟨60,rfl,by decide⟩
  .exact⟨30,rfl,by decide⟩
  .exact⟨20,rfl,by decide⟩
  .exact⟨15,rfl,by decide⟩
  .exact⟨12,rfl,by decide⟩
  .exact⟨10,rfl,by decide⟩
 have nz:((b:Nat):Rat)≠0:=λz=>hb (jM.mp z);refine⟨c*t,?_,?_⟩
 .rw[a7];exact bG c6 (cM ht)
 .rw[Rat.normalize_eq_mkRat,Rat.mkRat_eq_div,aP,aY,show(60:Rat)=((b*c:Nat):Rat)by rw[hc];rfl,fg,jq]
  have:=je _ nz
  grind
theorem ZeL(h:M[n]?=some (.lst (prs rs)))(hl:rs.length<=1000)(hc:0<=c)(hf:0<=far/\far<=1000000000000000000000000000000)(q:∀hs M',hs.length=rs.length->(∀x∈hs,Hq x)->Kp M M'->M'[M.length]?=some (.lst (rts hs))->Q (.ref M.length) M'):wO (F_law_height [.int c,.ref n,.int far] M) Q E:=by
 have hn:=Zo h;simp![F_law_height,Zbj];have k0:=bF c (show(4:Int)≠0 by decide)
 have k1:=aX c (show(0:Int)<4 by decide)
 have c1:0<=c/4:=⋯
 generalize c%4=kd at *;generalize c/4=c' at *;have r0:(M++[SO.lst []])[M.length]?=some (.lst (rts [])):=by simp[rts]
 refine Zbd (xs:=prs rs) (λi ρ M'=>Kp M M'/\M'[n]?=some (.lst (prs rs))/\∃hs c x5 x6 x7,ρ=[some (.int c),some (.ref n),some (.int far),some (.int kd),some (.ref M.length),x5,x6,x7]/\0<=c/\M'[M.length]?=some (.lst (rts hs))/\hs.length=i/\∀x∈hs,Hq x) (by rw[ac hn];exact h) ⟨Kp.app,by rw[ac hn];exact h,[],c',_,_,_,rfl,c1,r0,rfl,λx hx=>(by cases hx)⟩ (λi ρ M' hI=>hI.2.1) ?_ ?_
 .rintro i ρ M1 hi ⟨K1,h1,hs,c,x5,x6,x7,rfl,hc,r1,len,sz⟩;rw[ZG]at hi;have hx:=Zo r1;simp![ZaA];have m0:=bF c (show far+far/3+1≠0 by lia)
  have m1:=aX c (show 0<far+far/3+1 by lia)
  obtain⟨b,eb,b1,b6⟩:∃b:Nat,atI [D.int 1,D.int 1,D.int (1+c/1009%6),D.int 1] kd=some (.int b)/\1<=b/\b<=6:=by
   rcases(show kd=0\/kd=1\/kd=2\/kd=3 by lia)with rfl|rfl|rfl|rfl
   .exact⟨1,rfl,by decide,by decide⟩
   .exact⟨1,rfl,by decide,by decide⟩
   .refine⟨(1+c/1009%6).toNat,?_,⋯,⋯⟩
    show some (D.int (1+c/1009%6))=_;rw[fV ⋯]
   .exact⟨1,rfl,by decide,by decide⟩
  have hb0:b≠0:=⋯
  have fin:∀t:Int,t.natAbs<2^102->Hq (bH t b hb0):=λt ht=>ZnW hb0 ht b6;have lr:∀{t:Int}{Q:W0}{E:W2}{M:Sto},wO (F_law_ratio [.int t,.int b] M) Q E=Q (rt (bH t b hb0)) M:=ZdU (k:=8) hb0 ⋯ ⋯
  have K1':=K1.trans (Kp.app (L:=[SO.lst [D.int 1,D.int 1,D.int (1+c/1009%6),D.int 1]]));have h1':=(Kp.app (L:=[SO.lst [D.int 1,D.int 1,D.int (1+c/1009%6),D.int 1]])).get h1;have r1':=(Kp.app (L:=[SO.lst [D.int 1,D.int 1,D.int (1+c/1009%6),D.int 1]])).get r1;simp![eb];generalize M1++[SO.lst [D.int 1,D.int 1,D.int (1+c/1009%6),D.int 1]]=M2 at K1' h1' r1' ⊢;have hx':=Zo r1';have done:∀(t:Int)(x5 x6 x7:Option D),t.natAbs<2^102->(rts hs).length<10000000/\Kp M (M2.set M.length (.lst (rts hs++[rt (bH t b hb0)])))/\M2[n]?=some (.lst (prs rs))/\∃hs' c' x5' x6' x7',[some (.int (c/31)),some (.ref n),some (.int far),some (.int kd),some (.ref M.length),x5,x6,x7]=[some (.int c'),some (.ref n),some (.int far),some (.int kd),some (.ref M.length),x5',x6',x7']/\0<=c'/\some (SO.lst (rts hs++[rt (bH t b hb0)]))=some (.lst (rts hs'))/\hs'.length=i+1/\∀x∈hs',Hq x:=by
   intro t x5 x6 x7 ht;refine⟨by rw[Zu];lia,K1'.set (ae _),h1',hs++[bH t b hb0],_,_,_,_,rfl,⋯,by rw[ZI],by simp[len],λx hx=>?_⟩
   rcases bZ.mp hx with z|z
   .exact sz x z
   .rcases ar.mp z with rfl|z
    .exact fin t ht
    .cases z
  have nem:M.length≠n:=⋯
  refine brO (λk3=>?_) (λk3=>?_)
  .simp![Zp];refine brS (λ_=>?_) (λ_=>?_)
   .simp![lr,r1',ay hx',ah nem];exact done (far/4) (some (prs rs)[i]) (some (.int (far/4))) (some (.int b)) ⋯
   .simp![lr,r1',ay hx',ah nem];exact done (c%(far+far/3+1)-far/3) (some (prs rs)[i]) (some (.int (c%(far+far/3+1)-far/3))) (some (.int b)) ⋯
  .simp![lr,r1',ay hx',ah nem];exact done (c%(far+far/3+1)-far/3) (some (prs rs)[i]) (some (.int (c%(far+far/3+1)-far/3))) (some (.int b)) ⋯
 .rintro ρ M1 ⟨K1,h1,hs,c,x5,x6,x7,rfl,hc,r1,len,sz⟩;simp![Zp];exact q hs M1 (by rw[len,ZG]) sz K1 r1
theorem Zk2{ns:List Int}{pl:Nat}(hf:0<=far/\far<=1000000000000000000000000000000)(q:∀rs hs n m M',Smo rs->Nr 200 rs->rs.length<=14->hs.length=rs.length->(∀x∈hs,Hq x)->Kp M M'->M'[n]?=some (.lst (prs rs))->M'[m]?=some (.lst (rts hs))->Q (.tup [.ref n,.ref m]) M'):wO (F_law_sized [.rol (ns.map D.int),.int pl,.int far] M) Q E:=by
 simp![F_law_sized,ZbG];refine CC.ZbV λc c0=>?_;simp![Zp];obtain⟨t,et,t1,t2⟩:∃t:Int,atI [D.int 9,D.int 9,D.int 9,D.int 9,D.int 9,D.int 9,D.int 9,D.int 14] (c%8)=some (.int t)/\3<=t/\t<=14:=by
  rcases(show c%8=0\/c%8=1\/c%8=2\/c%8=3\/c%8=4\/c%8=5\/c%8=6\/c%8=7 by lia)with e|e|e|e|e|e|e|e<;>rw[e]
  .exact⟨9,rfl,by decide,by decide⟩
  .exact⟨9,rfl,by decide,by decide⟩
  .exact⟨9,rfl,by decide,by decide⟩
  .exact⟨9,rfl,by decide,by decide⟩
  .exact⟨9,rfl,by decide,by decide⟩
  .exact⟨9,rfl,by decide,by decide⟩
  .exact⟨9,rfl,by decide,by decide⟩
  .exact⟨14,rfl,by decide,by decide⟩
 simp![et];refine CC.Zgh ⋯ ⋯ λss m M1 s1 s2 s3 r1 l1 g1=>?_
 have K1:=Kp.app.trans (Kp.of l1 g1);simp![Zp];refine brS (λ_=>?_) (λ_=>?_)
 .simp![Zp];refine CC.Zgh ⋯ ⋯ λss m M2 s1 s2 s3 r1 l2 g2=>?_
  have K2:=K1.trans (Kp.of l2 g2);simp![Zp];rw[show(pl:Int)+1=((pl+1:Nat):Int)by lia]
  refine CC.ZbV λc c0=>?_;simp![Zp];refine ZeL r1 ⋯ c0 (by decide) λhs M3 e z K3 r3=>?_
  simp![Zp];exact q ss hs _ _ M3 s1 s2 ⋯ e z (K2.trans K3) (K3.get r1) r3
 .simp![Zp];rw[show(pl:Int)+1=((pl+1:Nat):Int)by lia]
  refine CC.ZbV λc c0=>?_;simp![Zp];refine ZeL r1 ⋯ c0 hf λhs M3 e z K3 r3=>?_
  simp![Zp];exact q ss hs _ _ M3 s1 s2 ⋯ e z (K1.trans K3) (K3.get r1) r3
end BL
namespace Rb
open L2 DL
open CN (cq)
open CS (slp)
open TW
theorem ZnX(h:Smo rs)(hi:i<rs.length)(hj:j<rs.length)(ne:i≠j)(h1:0<=X (cy rs i) (cy rs j))(h2:0<X (cy rs j) (cy rs (i+1))):False:=by
 have hr:=h.rn;have p2:=hr.pos j;have w0:cy rs j≠(0,0):=by
  intro z;rw[z]at p2;unfold X at p2;simp at p2
 have c:=(hr.fan (cy rs j) w0).1;rw[Zjd hr.ne]at c;have a1:=Zi7 (w:=cy rs j) (a:=cy rs i) (b:=cy rs (i+1)) ⋯ h2
 have a2:=Zi7 (w:=cy rs j) (a:=cy rs j) (b:=cy rs (j+1)) (by rw[XX];lia) p2
 rcases(show i<j\/j<i by lia)with z|z
 .have g:=Zje (f:=in1 (cy rs j)) (rs:=rs) rs.length 0 i j z hj;rw[show(0:Int)+i=i by lia,show(0:Int)+j=j by lia,a1,a2]at g
  lia
 .have g:=Zje (f:=in1 (cy rs j)) (rs:=rs) rs.length 0 j i z hi;rw[show(0:Int)+i=i by lia,show(0:Int)+j=j by lia,a1,a2]at g
  lia
theorem free(h:Smo rs)(hi:i<rs.length)(hj:j<rs.length)(h1:0<X (cy rs i) (cy rs j))(h2:0<X (cy rs j) (cy rs (i+1))):False:=ZnX h hi hj (λz=>by subst z;rw[XX]at h1;lia) ⋯ h2
theorem ZgZ(p:RP)(s t v:Pt):(X s t:Rat)*slp p v=(X v t:Rat)*slp p s+(X s v:Rat)*slp p t:=by
 rw[Zbw,Zbw,Zbw];unfold slp;grind
structure Cn(s t r b:Pt):Prop where
 st:0<X s t
 sr:0<=X s r
 rt:0<=X r t
 sb:0<=X s b
 bt:0<=X b t
def vl(s t w:Pt)(x y:Rat):Rat:= -((X w t:Rat)*x+(X s w:Rat)*y)
theorem ge0{a:Int}(h:0<=a):(0:Rat)<=(a:Rat):=Rat.intCast_nonneg.mpr h
theorem gt0{a:Int}(h:0<a):(0:Rat)<(a:Rat):=dX.mpr h
theorem Zvh{α:Type}(P:α->Prop)(f:α->Rat):∀L:List α,(∃x∈L,P x)->∃x∈L,P x/\∀y∈L,P y->f y<=f x
 |[],⟨x,hx,_⟩=>by cases hx
 |a::L,h=>by
  classical
  by_cases hL:∃x∈L,P x
  .obtain⟨x,hx,px,mx⟩:=Zvh P f L hL;by_cases c:P a/\f x<f a
   .refine⟨a,by simp,c.1,λy hy py=>?_⟩
    rcases ar.mp hy with rfl|hy
    .exact dD
    .have:=mx y hy py
     grind
   .refine⟨x,aJ _ hx,px,λy hy py=>?_⟩;rcases ar.mp hy with rfl|hy
    .by_cases z:f y<=f x
     .exact z
     .exact absurd ⟨py,by grind⟩ c
    .exact mx y hy py
  .obtain⟨x,hx,px⟩:=h;rcases ar.mp hx with rfl|hx
   .refine⟨x,by simp,px,λy hy py=>?_⟩
    rcases ar.mp hy with rfl|hy
    .exact dD
    .exact absurd ⟨y,hy,py⟩ hL
   .exact absurd ⟨x,hx,px⟩ hL
theorem plk(r u s t:Pt):X r u*X s t=X r t*X s u-X s r*X u t:=by unfold X;grind
theorem swap(c:Cn s t r b)(rb:X r b=1)(fr:¬(0<X r u/\0<X u b))(no:¬(X u t<=0/\X s u<=0)):Cn s u r b\/Cn u t r b:=by
 obtain⟨st,sr,rt,sb,bt⟩:=c;have e1:=plk r u s t;have e2:=plk b u s t;have e3:=plk r b s t;rw[rb]at e3;have sw:∀p q:Pt,X p q= -(X q p):=λp q=>by unfold X;grind
 have u1:=sw u r;have u2:=sw u b;generalize g1:X r u=ru at *;generalize g2:X b u=bu at *;generalize g3:X r t=r1 at *;generalize g4:X s r=r2 at *;generalize hb1:X b t=b1 at *;generalize g5:X s b=b2 at *;generalize ha:X u t=a at *;generalize hc:X s u=c at *;generalize g6:X s t=k at *;have r1p:0<r1:=by
  rcases(show r1=0\/0<r1 by lia)with z|z
  .rw[z]at e3
   have:=a8 sr bt
   lia
  .exact z
 have b2p:0<b2:=by
  rcases(show b2=0\/0<b2 by lia)with z|z
  .rw[z]at e3
   have:=a8 sr bt
   simp at e3;lia
  .exact z
 have pos:∀{x:Int},0<=x*k->0<=x:=λ{x} h=>by
  by_cases z:0<=x
  .exact z
  .have:=mA (show 0 < -x by lia) st
   rw[jp]at this;lia
 have npos:∀{x:Int},x*k<=0->x<=0:=λ{x} h=>by
  by_cases z:x<=0
  .exact z
  .have:=mA (show 0<x by lia) st
   lia
 by_cases hc0:0<c
 .by_cases ha0:0<a
  .by_cases f:0<ru
   .
    have f2:¬0<X u b:=λz=>fr ⟨f,z⟩;have bu0:0<=bu:=⋯
    exact .inl ⟨⋯,⋯,⋯,⋯,⋯⟩
   .have ur:0<=X u r:=⋯
    refine .inr ⟨⋯,ur,⋯,?_,⋯⟩
    have h1:ru*k<=0:=by
     have:=a8 (show 0<= -ru by lia) (show 0<=k by lia)
     rw[jp]at this;lia
    have m1:r1*(b1*c-b2*a)<=0:=by
     have q1:=a8 (show 0<=r2*a-r1*c by lia) bt
     have q2:=a8 (show 0<=r1*b2-r2*b1 by lia) (show 0<=a by lia)
     have:r1*(b1*c-b2*a)= -((r2*a-r1*c)*b1)-(r1*b2-r2*b1)*a:=by grind
     lia
    have m2:b1*c-b2*a<=0:=by
     by_cases z:b1*c-b2*a<=0
     .exact z
     .have:=mA r1p (show 0<b1*c-b2*a by lia)
      lia
    have:=npos (x:=bu) ⋯
    lia
  .refine .inl ⟨⋯,⋯,?_,⋯,?_⟩
   .have q1:=a8 (show 0<=r1 by lia) (show 0<=c by lia)
    have q2:=a8 sr (show 0<= -a by lia)
    rw[kW]at q2
    have:=pos (x:=ru) ⋯
    lia
   .have q1:=a8 bt (show 0<=c by lia)
    have q2:=a8 sb (show 0<= -a by lia)
    rw[kW]at q2
    have:=pos (x:=bu) ⋯
    lia
 .have ha0:0<a:=⋯
  have q1:=a8 (show 0<=r1 by lia) (show 0<= -c by lia)
  have q2:=a8 sr (show 0<=a by lia)
  have q3:=a8 bt (show 0<= -c by lia)
  have q4:=a8 sb (show 0<=a by lia)
  rw[kW]at q1 q3;have z1:=npos (x:=ru) ⋯
  have z2:=npos (x:=bu) ⋯
  exact .inr ⟨⋯,⋯,⋯,⋯,⋯⟩
theorem Zju{a:Rat}(hc:0<c)(h:a<b):c*a<c*b:=(fU hc).mpr h
theorem more(c:Cn s u r b)(rb:X r b=1)(sb:0<X s r+X s b)(ps:slp p s= -x)(ps':slp p' s= -x)(pu:slp p u < -y)(pu':slp p' u= -y):slp p r+slp p b<slp p' r+slp p' b:=by
 have t1:=ZgZ p s u r;have t2:=ZgZ p s u b;have t3:=ZgZ p' s u r;have t4:=ZgZ p' s u b;have k:=gt0 c.st;have q:(0:Rat)<(X s r:Rat)+(X s b:Rat):=by rw[<-gj];exact gt0 sb
 have:=Zju q pu
 rw[ps]at t1 t2;rw[ps',pu']at t3 t4;generalize slp p r=a1 at *;generalize slp p b=a2 at *;generalize slp p' r=a3 at *;generalize slp p' b=a4 at *;generalize slp p u=z at *;have e:(X s u:Rat)*(a1+a2)<(X s u:Rat)*(a3+a4):=by grind
 exact(fU k).mp e
theorem Zt5(c:Cn u t r b)(rb:X r b=1)(sb:0<X r t+X b t)(ps:slp p t= -x)(ps':slp p' t= -x)(pu:slp p u < -y)(pu':slp p' u= -y):slp p r+slp p b<slp p' r+slp p' b:=by
 have t1:=ZgZ p u t r;have t2:=ZgZ p u t b;have t3:=ZgZ p' u t r;have t4:=ZgZ p' u t b;have k:=gt0 c.st;have q:(0:Rat)<(X r t:Rat)+(X b t:Rat):=by rw[<-gj];exact gt0 sb
 have:=Zju q pu
 rw[ps]at t1 t2;rw[ps',pu']at t3 t4;generalize slp p r=a1 at *;generalize slp p b=a2 at *;generalize slp p' r=a3 at *;generalize slp p' b=a4 at *;generalize slp p u=z at *;have e:(X u t:Rat)*(a1+a2)<(X u t:Rat)*(a3+a4):=by grind
 exact(fU k).mp e
theorem ZlM(c:Cn s t r b)(rb:X r b=1):0<X s r+X s b/\0<X r t+X b t:=by
 have e3:=plk r b s t;rw[rb]at e3;obtain⟨st,sr,rt,sb,bt⟩:=c;generalize X r t=r1 at *;generalize X s r=r2 at *;generalize X b t=b1 at *;generalize X s b=b2 at *;constructor
 .by_cases z:0<r2+b2
  .exact z
  .have e1:r2=0:=⋯
   have e2:b2=0:=⋯
   rw[e1,e2]at e3;simp at e3;lia
 .by_cases z:0<r1+b1
  .exact z
  .have e1:r1=0:=⋯
   have e2:b1=0:=⋯
   rw[e1,e2]at e3;simp at e3;lia
theorem wed(h:Smo rs)(hi:i<rs.length)(hq:Win rs hs q):∃p s t,Win rs hs p/\On rs hs p s/\On rs hs p t/\Cn (cy rs s) (cy rs t) (cy rs i) (cy rs (i+1)):=by
 have rb:=h.one i;obtain⟨j,hj,ej⟩:=BD.Zjo (rs:=rs) (z:=(i:Int)+1) h.ne
 let L:List (Nat×Nat):=(aC rs.length).flatMap λa=>(aC rs.length).map λb=>(a,b)
 have mem:∀a b,a<rs.length->b<rs.length->(a,b)∈L:=λa b ha hb=>jO.mpr ⟨a,cu.mpr ha,cx.mpr ⟨b,cu.mpr hb,rfl⟩⟩;have mem':∀x∈L,x.1<rs.length/\x.2<rs.length:=λx hx=>by
  obtain⟨a,ha,hb⟩:=jO.mp hx;obtain⟨b,hb2,rfl⟩:=cx.mp hb;exact⟨cu.mp ha,cu.mp hb2⟩
 let pt (x:Nat×Nat):RP:=BL.crn (cy rs x.1) (cy rs x.2) (cq hs x.1) (cq hs x.2)
 have xx:∀p:Pt,X p p=0:=λp=>by unfold X;grind
 obtain⟨⟨s,t⟩,hst,cn,mx⟩:=Zvh (λx:Nat×Nat=>Cn (cy rs x.1) (cy rs x.2) (cy rs i) (cy rs (i+1))) (λx=>slp (pt x) (cy rs i)+slp (pt x) (cy rs (i+1))) L ⟨(i,j),mem i j hi hj,by
  simp only[ej];exact⟨⋯,by rw[xx];lia,⋯,⋯,by rw[xx];lia⟩⟩
 obtain⟨hs0,ht0⟩:=mem' _ hst;simp only at cn hs0 ht0;have on:∀a b:Nat,X (cy rs a) (cy rs b)≠0->slp (pt (a,b)) (cy rs a)= -(cq hs a)/\slp (pt (a,b)) (cy rs b)= -(cq hs b):=λa b ne=>(BL.ZnV ne).mp rfl;obtain⟨o1,o2⟩:=on s t (by have:=cn.st;lia)
 have w:Win rs hs (pt (s,t)):=by
  intro u hu;by_cases z: -(cq hs u)<=slp (pt (s,t)) (cy rs u)
  .exact z
  .exfalso;have z:slp (pt (s,t)) (cy rs u) < -(cq hs u):=by grind
   by_cases no:X (cy rs u) (cy rs t)<=0/\X (cy rs s) (cy rs u)<=0
   .have t1:=ZgZ q (cy rs s) (cy rs t) (cy rs u);have t2:=ZgZ (pt (s,t)) (cy rs s) (cy rs t) (cy rs u);have a1:=hq s hs0;have a2:=hq t ht0;have a3:=hq u hu;have k:=gt0 cn.st;have n1:(X (cy rs u) (cy rs t):Rat)<=0:=jc.mpr no.1;have n2:(X (cy rs s) (cy rs u):Rat)<=0:=jc.mpr no.2;rw[o1,o2]at t2;have b1:=cj a1 (show 0<= -(X (cy rs u) (cy rs t):Rat)by grind)
    have b2:=cj a2 (show 0<= -(X (cy rs s) (cy rs u):Rat)by grind)
    have b3:=cj a3 (show 0<=(X (cy rs s) (cy rs t):Rat)by grind)
    have b4:=Zju k z;grind
   .rcases swap cn rb (λf=>free h hi hu f.1 f.2) no with c|c
    .obtain⟨o3,o4⟩:=on s u (by have:=c.st;lia)
     have:=more c rb (ZlM c rb).1 o1 o3 z o4
     have:=mx (s,u) (mem s u hs0 hu) c
     grind
    .obtain⟨o3,o4⟩:=on u t (by have:=c.st;lia)
     have:=Zt5 c rb (ZlM c rb).2 o2 o4 z o3
     have:=mx (u,t) (mem u t hu ht0) c
     grind
 exact⟨pt (s,t),s,t,w,⟨hs0,o1⟩,⟨ht0,o2⟩,cn⟩
theorem Zk3(os:On rs hs p s)(ot:On rs hs p t)(st:0<X (cy rs s) (cy rs t))(h1:0<=X v (cy rs t))(h2:0<=X (cy rs s) v)(hq:Win rs hs q):slp p v<=slp q v:=by
 have a1:=hq s os.1;have a2:=hq t ot.1;rw[<-os.2]at a1;rw[<-ot.2]at a2;have k:=gt0 st;have t1:=ZgZ q (cy rs s) (cy rs t) v;have t2:=ZgZ p (cy rs s) (cy rs t) v;have b1:=cj a1 (ge0 h1);have b2:=cj a2 (ge0 h2);refine(Z5 k).mp ?_;rw[t1,t2];grind
end Rb
namespace PT
open L2 DL
open CC (F_crossed)
open CS (F_minus)
open CD (F_height_of)
open BD (F_common_bottom F_stretched F_body)
def Zc5:Sv:=(Zy (Zkz (gCs (gNm 2) (gCs (gNm 3) (gCs (gNm 4) gNl))) (Zam (iSq (Zg 1)) 1 [0] (gNm 0) (λ_ M=>.ok true M) (e2 dIx (Zg 1) (Zg 0)))) (Zy (ZF (gNm 5) (ZbI (Zc (Zj F_crossed (Zc (Zg 3) (Zc (Zg 4) aNil))) (Zc (Zj F_crossed (Zc (Zg 4) (Zc (Zg 2) aNil))) (Zc (Zj F_crossed (Zc (Zg 2) (Zc (Zg 3) aNil))) aNil))))) (Zae (eIf (tv (e2 dGe (Zj (Zdb List.min?) (Zc (Zg 5) aNil)) (eC (.int 0)))) (Zg 5) (eC .non)))))
def F_balance:W3:=fnF Zc5 2 4
def ZdV:Sv:=(Zae (Za6 (iR1 (Zc (Zg 0) aNil)) 3 [0] (gNm 0) (λ_ M=>.ok true M) λn=>(gIn (iR2 (Zc (e2 dAdd (Zg 0) (eC (.int 1))) (Zc (Zg 3) aNil))) (gNm 1) (λ_ M=>.ok true M) (gIn (iR2 (Zc (e2 dAdd (Zg 1) (eC (.int 1))) (Zc (Zg 3) aNil))) (gNm 2) (λ_ M=>.ok true M) (gEm (Zal (Zc (Zg 0) (Zc (Zg 1) (Zc (Zg 2) aNil)))) n)))))
def F_threes:W3:=fnF ZdV 1 0
def Za3:Sv:=(Zkd (Zg 6) (Zg 8) (Zg 7))
def Zan:Sv:=(Zy (ZF (gNm 5) (Zj F_balance (Zc (Zg 0) (Zc (Zg 4) aNil)))) (sIf (ZbY (tv (e2 dIsNot (Zg 5) (eC .non))) (tv (e2 dLt (Zj (Zdb Zsz) (Zc (Zam (DLy2.iZt (Zc (Zg 5) (Zc (Zg 4) aNil))) 2 [3] (gTp (gCs (gNm 0) (gCs (gNm 1) gNl))) (λ_ M=>.ok true M) (e2 dMul (Zg 0) (e2 dIx (Zg 2) (Zg 1)))) aNil)) (eC (.int 0))))) (Zy (ZF (gNm 6) (Zam (iSq (Zg 0)) 1 [] (gNm 0) (λ_ M=>.ok true M) (eC (.int 0)))) (Zy (Zeo (gTp (gCs (gNm 7) (gCs (gNm 8) gNl))) (DLy2.iZt (Zc (Zg 5) (Zc (Zg 4) aNil))) Za3) (Zae (Zg 6)))) sNil))
def Zds:Sv:=(Zy (ZF (gNm 2) (Zj F_common_bottom (Zc (Zg 1) aNil))) (Zy (ZF (gNm 3) (Zam (iSq (Zg 1)) 1 [2] (gNm 0) (λ_ M=>.ok true M) (Zj F_stretched (Zc (Zg 0) (Zc (Zg 1) aNil))))) (Zy (Zg5 (gNm 4) (Zj F_threes (Zc (Zj bLen (Zc (Zg 0) aNil)) aNil)) Zan) (Zae (eC .non)))))
def F_emptying:W3:=fnF Zds 2 7
def Zc6:Sv:=(Zy (ZF (gNm 2) (Zj F_body (Zc (Zg 0) (Zc (Zg 1) aNil)))) (Zy (sIf (tv (e2 dEq (Zg 2) (ZbI aNil))) (Zae (Zal (Zc (eC (.str (PySem.Str.ofString "none"))) (Zc (Zj F_emptying (Zc (Zg 0) (Zc (Zg 1) aNil))) aNil)))) sNil) (Zy (ZF (gNm 3) (Zj F_height_of (Zc (Zg 0) (Zc (Zg 2) aNil)))) (Zae (Zal (Zc (eC (.str (PySem.Str.ofString "parted"))) (Zc (Zg 3) (Zc (Zam (iZp (Zc (Zg 1) (Zc (Zg 3) aNil))) 2 [] (gTp (gCs (gNm 0) (gCs (gNm 1) gNl))) (λ_ M=>.ok true M) (Zj F_minus (Zc (Zg 0) (Zc (Zg 1) aNil)))) aNil))))))))
def F_parting:W3:=fnF Zc6 2 2
end PT
namespace PT
open L2 DL
open CV CN CU CS
open CR (rt Sz)
open CH (rts Zu ZI)
open CD (pts ZX Zbi hts)
open Rb BD
noncomputable def tri(i j k:Nat):D:=.tup [.int i,.int j,.int k]
def t3(n i j:Nat)(m:Nat):List D:=(aC m).map λc=>tri i j (j+1+c)
def t2(n i:Nat)(m:Nat):List D:=(aC m).flatMap λb=>t3 n i (i+1+b) (n-(i+1+b+1))
def t1(n m:Nat):List D:=(aC m).flatMap λa=>t2 n a (n-(a+1))
theorem Zrk:d∈t3 n i j m↔∃c<m,d=tri i j (j+1+c):=by simp[t3,eq_comm]
theorem ZlN:d∈t1 n n↔∃i j k,i<j/\j<k/\k<n/\d=tri i j k:=by
 simp only[t1,t2,jO,cu,Zrk];constructor
 .rintro⟨i,hi,b,hb,c,hc,rfl⟩;exact⟨i,i+1+b,i+1+b+1+c,⋯,⋯,⋯,rfl⟩
 .rintro⟨i,j,k,h1,h2,h3,rfl⟩;exact⟨i,⋯,j-(i+1),⋯,k-(j+1),⋯,by congr 1<;>lia⟩
theorem ZlO:(t3 n i j m).length=m:=by simp[t3]
theorem ZwB:t3 n i j (m+1)=t3 n i j m++[tri i j (j+1+m)]:=by simp[t3,cE]
theorem ZwC:t2 n i (m+1)=t2 n i m++t3 n i (i+1+m) (n-(i+1+m+1)):=by simp[t2,cE]
theorem ZwD:t1 n (m+1)=t1 n m++t2 n m (n-(m+1)):=by simp[t1,cE]
theorem Zjv{n i:Nat}:∀m,(t2 n i m).length<=n*m
 |0=>by simp[t2]
 |m+1=>by
  have:=Zjv (n:=n) (i:=i) m
  unfold t2 at *;rw[cE,lx,aI,Nat.mul_succ];simp[ZlO]at *;lia
theorem ZlP{n:Nat}:∀m,(t1 n m).length<=n*n*m
 |0=>by simp[t1]
 |m+1=>by
  have:=ZlP (n:=n) m
  have h2:=Zjv (n:=n) (i:=m) (n-(m+1));have h3:n*(n-(m+1))<=n*n:=ly _ ⋯
  unfold t1 at *;rw[cE,lx,aI,Nat.mul_succ];simp at *;lia
section
variable {E:W2}{M:Sto}{n i j:Nat}{hs:List Rat}{L:List D}
theorem Zvi{b:Nat}(h1:∀Q E,wO (f ρ M) Q E=Q (.int (a+1:Nat)) M)(h2:∀Q E,wO (g ρ M) Q E=Q (.int b) M)(hb:a<=1000/\b<=1000):iR2 (Zc f (Zc g aNil)) ρ M=.ok (.pur (Zah ((a+1:Nat):Int) (b-(a+1)))) M:=by
 have:wO (iR2 (Zc f (Zc g aNil)) ρ M) (λsrc M'=>src=.pur (Zah ((a+1:Nat):Int) (b-(a+1)))/\M'=M) (λ_ _=>False):=by
  simp![h1,h2];refine⟨⋯,?_⟩
  rw[show((b:Int)-((a+1:Nat):Int)).toNat=b-(a+1)by lia]
 obtain⟨d,M',e,e1,e2⟩:=Zce this;rw[e,e1,e2]
theorem Zt6(h:∀Q E,wO (f ρ (M++[.lst L])) Q E=Q d (M++[.lst L]))(hl:L.length<10000000):gEm f M.length ρ (M++[.lst L])=.ok ρ (M++[.lst (L++[d])]):=by
 have:wO (f ρ (M++[.lst L])) (λd' M'=>d'=d/\M'=M++[.lst L]) (λ_ _=>False):=by rw[h];exact⟨rfl,rfl⟩
 obtain⟨d',M',e,e1,e2⟩:=Zce this;subst e1 e2;simp[gEm,e,hl]
theorem ZlQ{a:Nat}(h:c<m):nxt (.pur (Zah (a:Int) m)) c M=some (some (.int (a+c:Nat))):=by
 show some (Zah (a:Int) m)[c]?=_;simp[Zah,h]
theorem ZlR(h:fi ρ M=.ok (.pur (Zah a m)) M)(e:Zcd (.pur (Zah a m)) tg c g m 0 ρ M=.ok ρ' M'):gIn fi tg c g ρ M=.ok ρ' M':=by
 unfold gIn;rw[h];show Zcd _ _ _ _ (Zah a m).length 0 ρ M=_;rw[show(Zah a m).length=m by simp[Zah]]
 exact e
abbrev G3(o:Nat):Ro->Sto->Out Ro:=gIn (iR2 (Zc (e2 dAdd (Zg 1) (eC (.int 1))) (Zc (Zg 3) aNil))) (gNm 2) (λ_ M=>.ok true M) (gEm (Zal (Zc (Zg 0) (Zc (Zg 1) (Zc (Zg 2) aNil)))) o)
abbrev G2(o:Nat):Ro->Sto->Out Ro:=gIn (iR2 (Zc (e2 dAdd (Zg 0) (eC (.int 1))) (Zc (Zg 3) aNil))) (gNm 1) (λ_ M=>.ok true M) (G3 o)
theorem Zt7(hj:j<=1000)(hn:n<=1000)(hl:L.length+n<10000000):∃x2',G3 M.length [some (.int i),some (.int j),x2,some (.int n)] (M++[.lst L])=.ok [some (.int i),some (.int j),x2',some (.int n)] (M++[.lst (L++t3 n i j (n-(j+1)))]):=by
 have s:=Zvi (M:=M++[.lst L]) (f:=e2 dAdd (Zg 1) (eC (.int 1))) (g:=Zg 3) (ρ:=[some (.int i),some (.int j),x2,some (.int n)]) (a:=j) (b:=n) (λQ E=>by rw[show((j+1:Nat):Int)=(j:Int)+1 by lia];simp![Zp]) (λQ E=>by simp![Zp]) ⟨hj,hn⟩
 obtain⟨ρ',M',e,x2',e1,e2⟩:=Zcy (src:=.pur (Zah ((j+1:Nat):Int) (n-(j+1)))) (tg:=gNm 2) (c:=λ_ M=>.ok true M) (g:=gEm (Zal (Zc (Zg 0) (Zc (Zg 1) (Zc (Zg 2) aNil)))) M.length) (P:=λc ρ M'=>∃x2',ρ=[some (.int i),some (.int j),x2',some (.int n)]/\M'=M++[.lst (L++t3 n i j c)]) (n-(j+1)) (by
  rintro c ρ M' hc ⟨x2',rfl,rfl⟩;refine⟨.int (j+1+c:Nat),[some (.int i),some (.int j),some (.int (j+1+c:Nat)),some (.int n)],_,?_,rfl,.inr ⟨_,_,rfl,Zt6 (d:=tri i j (j+1+c)) (λQ E=>by simp![Zp];rfl) (by rw[aI,ZlO];lia),_,rfl,?_⟩⟩
  .exact ZlQ hc
  .rw[ZwB,d6]) (by
  rintro ρ M' ⟨x2',rfl,rfl⟩;show some (Zah ((j+1:Nat):Int) (n-(j+1)))[n-(j+1)]?=_;rw[aL (by simp[Zah])]) (n-(j+1)) 0 [some (.int i),some (.int j),x2,some (.int n)] (M++[.lst L]) ⋯ ⋯ ⟨_,rfl,by simp[t3]⟩
 refine⟨x2',?_⟩;subst e1 e2;exact ZlR s e
theorem Zt8(hi:i<=1000)(hn:n<=1000)(hl:L.length+n*n+n<10000000):∃x1' x2',G2 M.length [some (.int i),x1,x2,some (.int n)] (M++[.lst L])=.ok [some (.int i),x1',x2',some (.int n)] (M++[.lst (L++t2 n i (n-(i+1)))]):=by
 have s:=Zvi (M:=M++[.lst L]) (f:=e2 dAdd (Zg 0) (eC (.int 1))) (g:=Zg 3) (ρ:=[some (.int i),x1,x2,some (.int n)]) (a:=i) (b:=n) (λQ E=>by rw[show((i+1:Nat):Int)=(i:Int)+1 by lia];simp![Zp]) (λQ E=>by simp![Zp]) ⟨hi,hn⟩
 obtain⟨ρ',M',e,x1',x2',e1,e2⟩:=Zcy (src:=.pur (Zah ((i+1:Nat):Int) (n-(i+1)))) (tg:=gNm 1) (c:=λ_ M=>.ok true M) (g:=G3 M.length) (P:=λc ρ M'=>∃x1' x2',ρ=[some (.int i),x1',x2',some (.int n)]/\M'=M++[.lst (L++t2 n i c)]) (n-(i+1)) (by
  rintro c ρ M' hc ⟨x1',x2',rfl,rfl⟩;have tl:=Zjv (n:=n) (i:=i) c;have tm:=ly n (show c<=n by lia)
  obtain⟨x2'',e3⟩:=Zt7 (M:=M) (L:=L++t2 n i c) (i:=i) (j:=i+1+c) (n:=n) (x2:=x2') ⋯ hn (by rw[aI];lia)
  refine⟨.int (i+1+c:Nat),[some (.int i),some (.int (i+1+c:Nat)),x2',some (.int n)],_,?_,rfl,.inr ⟨_,_,rfl,e3,_,_,rfl,?_⟩⟩
  .exact ZlQ hc
  .rw[ZwC,d6]) (by
  rintro ρ M' ⟨x1',x2',rfl,rfl⟩;show some (Zah ((i+1:Nat):Int) (n-(i+1)))[n-(i+1)]?=_;rw[aL (by simp[Zah])]) (n-(i+1)) 0 [some (.int i),x1,x2,some (.int n)] (M++[.lst L]) ⋯ ⋯ ⟨_,_,rfl,by simp[t2]⟩
 refine⟨x1',x2',?_⟩;subst e1 e2;exact ZlR s e
theorem Zjw(hn:n<=31):F_threes [.int n] M=.ok (.ref M.length) (M++[SO.lst (t1 n n)]):=by
 generalize ho:F_threes [.int n] M=o9;have main:wO o9 (λd M'=>d=D.ref M.length/\M'=M++[SO.lst (t1 n n)]) (λ_ _=>False):=by
  rw[<-ho];simp![F_threes,ZdV,ZiY];refine⟨⋯,?_⟩
  rw[be];obtain⟨ρ',M',e,x0,x1,x2,e1,e2⟩:=Zcy (src:=.pur (Zah 0 n)) (tg:=gNm 0) (c:=λ_ M=>.ok true M) (g:=G2 M.length) (P:=λc ρ M'=>∃x0 x1 x2,ρ=[x0,x1,x2,some (.int n)]/\M'=M++[.lst (t1 n c)]) n (by
   rintro c ρ M' hc ⟨x0,x1,x2,rfl,rfl⟩;have tl:=ZlP (n:=n) c;have t1b:n*n*c<=31*31*31:=bG (bG hn hn) ⋯
   have t2b:n*n<=31*31:=bG hn hn;obtain⟨x1',x2',e3⟩:=Zt8 (M:=M) (L:=t1 n c) (i:=c) (n:=n) (x1:=x1) (x2:=x2) ⋯ ⋯ ⋯
   refine⟨.int (c:Nat),[some (.int (c:Nat)),x1,x2,some (.int n)],_,?_,rfl,.inr ⟨_,_,rfl,e3,_,_,_,rfl,?_⟩⟩
   .show some (Zah 0 n)[c]?=_;simp[Zah,hc]
   .rw[ZwD]) (by
   rintro ρ M' ⟨x0,x1,x2,rfl,rfl⟩;show some (Zah 0 n)[n]?=_;rw[aL (by simp[Zah])]) (cnt (.pur (Zah 0 n)) M) 0 (roB 3 [0] [some (.int n)]) (M++[.lst []]) ⋯ (by simp[cnt,Zah]) ⟨_,_,_,rfl,by simp[t1]⟩
  refine⟨ρ',M',e,?_⟩;rw[e2];exact⟨rfl,rfl⟩
 obtain⟨d,M',e,e1,e2⟩:=Zce main;rw[e,e1,e2]
def bal(rs:List Pt)(i j k:Nat):List Int:=[X (cy rs j) (cy rs k),X (cy rs k) (cy rs i),X (cy rs i) (cy rs j)]
noncomputable def Nn(l:List Int):Prop:=∀x∈l,0<=x
theorem Zjx(h:M[n]?=some (.lst (prs rs)))(hb:Nr B rs)(hi:i<rs.length)(hj:j<rs.length)(hk:k<rs.length)(q1:∀o M',Nn (bal rs i j k)->Kp M M'->M.length<=o->M'[o]?=some (.lst (nts (bal rs i j k)))->Q (.ref o) M')(q2:∀M',¬Nn (bal rs i j k)->Kp M M'->Q .non M')(hB:B<=400:=by first|decide|assumption):wO (F_balance [.ref n,tri i j k] M) Q E:=by
 have hn:=Zo h;have hne:rs≠[]:=λz=>by rw[z]at hi;simp at hi
 have bi:=hb _ (ZQ (i:=i) hne);have bj:=hb _ (ZQ (i:=j) hne);have bk:=hb _ (ZQ (i:=k) hne);unfold tri;simp![F_balance,Zc5,ZqS];refine ZrY (xs:=[.int i,.int j,.int k]) (λρ=>∃x,ρ=[x,some (.ref n)]) (λc=>pr (cy rs ([(i:Int),j,k].getD c 0)).1 (cy rs ([(i:Int),j,k].getD c 0)).2) (by simp) (by simp[cnt]) ⟨_,rfl⟩ (λL c hc=>rfl) ?_ ?_
 .rintro c hc ρ L ⟨x,rfl⟩;have hm:(M++L)[n]?=some (.lst (prs rs)):=by rw[ac hn];exact h
  obtain⟨z,hz,ez,eg⟩:∃z:Nat,z<rs.length/\[D.int (i:Int),D.int (j:Int),D.int (k:Int)][c]=D.int (z:Int)/\[(i:Int),j,k].getD c 0=(z:Int):=by
   match c,hc with
   |0,_=>exact⟨i,hi,rfl,rfl⟩
   |1,_=>exact⟨j,hj,rfl,rfl⟩
   |2,_=>exact⟨k,hk,rfl,rfl⟩
  rw[ez,eg];simp![hm,ZcN];exact⟨_,rfl⟩
 .have e:(aC [D.int (i:Int),D.int (j:Int),D.int (k:Int)].length).map (λc=>pr (cy rs ([(i:Int),j,k].getD c 0)).1 (cy rs ([(i:Int),j,k].getD c 0)).2)=[pr (cy rs i).1 (cy rs i).2,pr (cy rs j).1 (cy rs j).2,pr (cy rs k).1 (cy rs k).2]:=rfl;rw[e];simp![Zvc,ZqR,ZnD,Zra bi,Zra bj,Zra bk];have ei:ZaC [D.int (X (cy rs j) (cy rs k)),D.int (X (cy rs k) (cy rs i)),D.int (X (cy rs i) (cy rs j))]=some (bal rs i j k):=rfl;have em:(bal rs i j k).min?=some (min (min (X (cy rs j) (cy rs k)) (X (cy rs k) (cy rs i))) (X (cy rs i) (cy rs j))):=rfl;have en:[D.int (X (cy rs j) (cy rs k)),D.int (X (cy rs k) (cy rs i)),D.int (X (cy rs i) (cy rs j))]=nts (bal rs i j k):=rfl;have nn:Nn (bal rs i j k)↔0<=min (min (X (cy rs j) (cy rs k)) (X (cy rs k) (cy rs i))) (X (cy rs i) (cy rs j)):=by
   simp only[Nn,bal,ar,bD,or_false,forall_eq_or_imp,forall_eq];lia
  simp![ZrX,ZrW,ei,em];refine brO (λc=>?_) (λc=>?_)
  .simp![Zp];exact q1 _ _ (nn.mpr c) Kp.app (by simp) (by rw[<-en];simp)
  .simp![Zp];exact q2 _ (λz=>c (nn.mp z)) Kp.app
def Bl(rs:List Pt)(ws:List Int)(i j k:Nat):Prop:=Nn (bal rs i j k)/\X (cy rs j) (cy rs k)*cn ws i+X (cy rs k) (cy rs i)*cn ws j+X (cy rs i) (cy rs j)*cn ws k<0
def whl(B:Nat)(hs:List Rat):List Int:=hs.map (stc B)
def wts(rs:List Pt)(i j k:Nat):List Int:=(((aB rs.length 0).set i (X (cy rs j) (cy rs k))).set j (X (cy rs k) (cy rs i))).set k (X (cy rs i) (cy rs j))
theorem Zjy:(whl B hs).length=hs.length:=af _
theorem Zrl(h:i<hs.length):cn (whl B hs) i=stc B (cq hs i):=by
 unfold cn whl;rw[show((i:Int)%((hs.map (stc B)).length:Int)).toNat=i by rw[af,bf ⋯ ⋯];simp,Z4 h]
 simp[h]
theorem ZnY{F:Nat->Int}(h1:ts.length=n)(h:∀i<n,F i=cn ts i):(aC n).map (λ(i:Nat)=>D.int (F i))=nts ts:=by
 refine eN (by simp[ZdH,h1]) λi h2 h3=>?_
 rw[CN.ZnI h3];simp at h2;simp[h i h2]
theorem ZnZ:(nts l).set i (.int v)=nts (l.set i v):=by simp[nts]
def Em(rs:List Pt)(ws:List Int)(d:D)(M:Sto):Prop:=(d=.non/\∀i j k,i<j->j<k->k<rs.length->¬Bl rs ws i j k)\/∃i j k o,i<j/\j<k/\k<rs.length/\Bl rs ws i j k/\d=.ref o/\M[o]?=some (.lst (nts (wts rs i j k)))
def Zrm(F9:W3):Sv:=(Zy (ZF (gNm 2) (Zj F_common_bottom (Zc (Zg 1) aNil))) (Zy (ZF (gNm 3) (Zam (iSq (Zg 1)) 1 [2] (gNm 0) (λ_ M=>.ok true M) (Zj F_stretched (Zc (Zg 0) (Zc (Zg 1) aNil))))) (Zy (Zg5 (gNm 4) (Zj F9 (Zc (Zj bLen (Zc (Zg 0) aNil)) aNil)) Zan) (Zae (eC .non)))))
theorem Zg0(te:∀(n:Nat)(M:Sto),n<=31->F9 [.int n] M=.ok (.ref M.length) (M++[SO.lst (t1 n n)]))(h:M[n]?=some (.lst (prs rs)))(hb:Nr B rs)(hne:rs≠[])(hl:rs.length<=31)(h':M[m]?=some (.lst (rts hs)))(e:hs.length=rs.length)(hz:∀x∈hs,Sz l x)(hk:l<=4000)(q:∀d M',Em rs (whl (ZcA hs) hs) d M'->(∀o,d=.ref o->M.length<=o)->Kp M M'->Q d M')(hB:B<=400:=by first|decide|assumption):wO (fnF (Zrm F9) 2 7 [.ref n,.ref m] M) Q E:=by
 have hn:=Zo h;have hm:=Zo h';have lb:=Zfx (xs:=hs) hz;have lb2:hs.length*l+1<=50000000:=by
  have:=bG (show hs.length<=31 by lia) hk
  lia
 simp![Zrm,Zgr h' ⋯ hz ⋯]
 generalize hBB:((ZcA hs:Nat):Int)=B9;refine ZkT (λρ=>∃x,ρ=[x,some (.int B9)]) (λc=>.int (stc (ZcA hs) (cq hs c))) h' (by rw[Zu];lia) ⟨_,rfl⟩ ?_ ?_
 .rintro c hc ρ L ⟨x,rfl⟩;rw[Zay];have sw:∀{Q:W0}{E:W2}{M:Sto},wO (F_stretched [rt (cq hs c),.int B9] M) Q E=Q (.int (stc (ZcA hs) (cq hs c))) M:=by
   intro Q E M;rw[<-hBB];exact ZbD (Zbh (i:=c) hz (by have:=aV.mpr hne;lia)) ⋯ lb lb2
  simp![sw];exact⟨_,rfl⟩
 rw[Zu,ZnY (ts:=whl (ZcA hs) hs) Zjy (λi hi=>(Zrl hi).symm)];generalize hw:whl (ZcA hs) hs=ws at *;clear hBB;have lw:ws.length=rs.length:=by rw[<-hw,Zjy,e]
 have K1:Kp M (M++[SO.lst (nts ws)]):=Kp.app;have r1:(M++[SO.lst (nts ws)])[M.length]?=some (.lst (nts ws)):=by simp
 have h1:=K1.get h;simp![h1];rw[te _ _ hl];show wS (Zke _ _ _ _ _) _ _ _ _ _;have K2:Kp M (M++[SO.lst (nts ws)]++[SO.lst (t1 rs.length rs.length)]):=by rw[d6];exact Kp.app
 have r2:(M++[SO.lst (nts ws)]++[SO.lst (t1 rs.length rs.length)])[M.length]?=some (.lst (nts ws)):=by simp
 have r3:(M++[SO.lst (nts ws)]++[SO.lst (t1 rs.length rs.length)])[(M++[SO.lst (nts ws)]).length]?=some (.lst (t1 rs.length rs.length)):=by simp
 have hlt:=Zo r3;generalize M++[SO.lst (nts ws)]++[SO.lst (t1 rs.length rs.length)]=M2 at *;have o2lt:M.length<(M++[SO.lst (nts ws)]).length:=by simp
 generalize (M++[SO.lst (nts ws)]).length=o2 at *;refine Zbd (xs:=t1 rs.length rs.length) (λc ρ M'=>Kp M2 M'/\(∃x4 x5 x6 x7 x8,ρ=[some (.ref n),some (.ref m),some (.int B9),some (.ref M.length),x4,x5,x6,x7,x8])/\∀i j k,i<j->j<k->k<rs.length->tri i j k∈(t1 rs.length rs.length).take c->¬Bl rs ws i j k) r3 ⟨Kp.refl,⟨_,_,_,_,_,rfl⟩,λi j k _ _ _ z=>(by simp at z)⟩ (λc ρ M' hI=>hI.1.get r3) ?_ ?_
 .rintro c ρ M3 hc ⟨K3,⟨x4,x5,x6,x7,x8,rfl⟩,hI⟩;obtain⟨i,j,k,ij,jk,kn,et⟩:=ZlN.mp (bJ hc);have tk:(t1 rs.length rs.length).take (c+1)=(t1 rs.length rs.length).take c++[tri i j k]:=by rw[bE hc,et]
  rw[et];have hp:=(K2.trans K3).get h;have inj:∀a b d,tri a b d=tri i j k->a=i/\b=j/\d=k:=λa b d z=>by
   simp only[tri,D.tup.injEq,f7,D.int.injEq,and_true]at z;lia
  have nx:¬Bl rs ws i j k->∀a b d,a<b->b<d->d<rs.length->tri a b d∈(t1 rs.length rs.length).take (c+1)->¬Bl rs ws a b d:=λnb a b d h1 h2 h3 hm=>by
   rw[tk]at hm;rcases bZ.mp hm with z|z
   .exact hI a b d h1 h2 h3 z
   .simp at z;obtain⟨rfl,rfl,rfl⟩:=inj a b d z;exact nb
  simp![Zan];refine Zjx hp hb ⋯ ⋯ kn (λo M4 nn K4 lo ro=>?_) (λM4 nn K4=>?_)
  .have ho:=Zo ro;have r4:=(K3.trans K4).get r2;have h4:=K4.get hp;have bi:=hb _ (ZQ (i:=i) hne);have bj:=hb _ (ZQ (i:=j) hne);have bk:=hb _ (ZQ (i:=k) hne);have x1:=Zjn bj bk;have x2:=Zjn bk bi;have x3:=Zjn bi bj;simp![Zvd];refine⟨o,_,rfl,?_⟩;refine Zwt (λρ=>∃x y,ρ=[x,y,some (.ref M.length)]) (λc=>.int ((bal rs i j k).getD c 0*cn ws (([(i:Int),j,k]).getD c 0))) ro (by simp[nts,bal,tri]) (by simp) ⟨_,_,rfl⟩ ?_ ?_
   .rintro c hc ρ L ⟨x,y,rfl⟩;have hm4:(M4++L)[M.length]?=some (.lst (nts ws)):=(Kp.app (L:=L)).get r4;obtain⟨z,a,hz',ez,eg,ea,eb,al⟩:∃(z:Nat) (a:Int),z<rs.length/\[D.int (i:Int),D.int (j:Int),D.int (k:Int)][c]=D.int (z:Int)/\[(i:Int),j,k].getD c 0=(z:Int)/\(nts (bal rs i j k))[c]'(by simp[nts,bal];simpa using hc)=.int a/\(bal rs i j k).getD c 0=a/\a.natAbs<2^19:=by
     match c,hc with
     |0,_=>exact⟨i,_,⋯,rfl,rfl,rfl,rfl,x1⟩
     |1,_=>exact⟨j,_,⋯,rfl,rfl,rfl,rfl,x2⟩
     |2,_=>exact⟨k,_,kn,rfl,rfl,rfl,rfl,x3⟩
    rw[ez,ea,eg,eb];simp![hm4,ZlD];exact⟨_,_,rfl⟩
   .have e3:(aC [D.int (i:Int),D.int (j:Int),D.int (k:Int)].length).map (λc=>D.int ((bal rs i j k).getD c 0*cn ws (([(i:Int),j,k]).getD c 0)))=[D.int (X (cy rs j) (cy rs k)*cn ws i),D.int (X (cy rs k) (cy rs i)*cn ws j),D.int (X (cy rs i) (cy rs j)*cn ws k)]:=rfl;rw[e3];have ei:ZaC [D.int (X (cy rs j) (cy rs k)*cn ws i),D.int (X (cy rs k) (cy rs i)*cn ws j),D.int (X (cy rs i) (cy rs j)*cn ws k)]=some [X (cy rs j) (cy rs k)*cn ws i,X (cy rs k) (cy rs i)*cn ws j,X (cy rs i) (cy rs j)*cn ws k]:=rfl;have es:Zsz [X (cy rs j) (cy rs k)*cn ws i,X (cy rs k) (cy rs i)*cn ws j,X (cy rs i) (cy rs j)*cn ws k]=some (X (cy rs j) (cy rs k)*cn ws i+X (cy rs k) (cy rs i)*cn ws j+X (cy rs i) (cy rs j)*cn ws k):=by
     show some _=some _;congr 1;simp;lia
    simp![ZrX,ZrW,ei,es];refine brS (λc3=>?_) (λc3=>?_)
    .have K5:Kp M4 (M4++[SO.lst [D.int (X (cy rs j) (cy rs k)*cn ws i),D.int (X (cy rs k) (cy rs i)*cn ws j),D.int (X (cy rs i) (cy rs j)*cn ws k)]]):=Kp.app;simp![Zp];generalize M4++[SO.lst [D.int (X (cy rs j) (cy rs k)*cn ws i),D.int (X (cy rs k) (cy rs i)*cn ws j),D.int (X (cy rs i) (cy rs j)*cn ws k)]]=M5 at *;have h5:=K5.get h4;refine ZkT (λρ=>∃x,ρ=[x]) (λc=>.int 0) h5 (by rw[ZG];lia) ⟨_,rfl⟩ ?_ ?_
     .rintro c hc ρ L ⟨x,rfl⟩;simp![Zp];exact⟨_,rfl⟩
     rw[ZG];have e0:(aC rs.length).map (λ_=>D.int 0)=nts (aB rs.length 0):=by simp[nts,j8]
     rw[e0];have K6:=K5.trans (Kp.app (L:=[SO.lst (nts (aB rs.length 0))]));have r6:(M5++[SO.lst (nts (aB rs.length 0))])[M5.length]?=some (.lst (nts (aB rs.length 0))):=by simp
     have lM5:=K5.1;generalize M5++[SO.lst (nts (aB rs.length 0))]=M6 at *;generalize M5.length=o6 at *;have ro6:=K6.get ro;simp![Zvd];refine⟨o,_,rfl,?_⟩;have ne6:o6≠o:=⋯
     refine ZnE (λc ρ M'=>Kp M4 M'/\M'[o]?=some (.lst (nts (bal rs i j k)))/\(∃x7 x8,ρ=[some (.ref n),some (.ref m),some (.int B9),some (.ref M.length),some (tri i j k),some (.ref o),some (.ref o6),x7,x8])/\∃us:List Int,us.length=rs.length/\M'[o6]?=some (.lst (nts us))/\us=[aB rs.length 0,(aB rs.length 0).set i (X (cy rs j) (cy rs k)),((aB rs.length 0).set i (X (cy rs j) (cy rs k))).set j (X (cy rs k) (cy rs i)),wts rs i j k].getD c []) ro6 (by simp[nts,bal,tri]) ⟨K6,ro6,⟨_,_,rfl⟩,_,by simp,r6,rfl⟩ (λc ρ M' hI=>hI.2.1) ?_ ?_
     .rintro c ρ M7 hc ⟨K7,ro7,⟨x7,x8,rfl⟩,us,lu,ru,eu⟩;have hlu:=Zo ru;obtain⟨z,a,hz',ez,ea,eu2⟩:∃(z:Nat) (a:Int),z<rs.length/\[D.int (i:Int),D.int (j:Int),D.int (k:Int)][c]=D.int (z:Int)/\(nts (bal rs i j k))[c]'(by simp[nts,bal];simpa using hc)=.int a/\us.set z a=[aB rs.length 0,(aB rs.length 0).set i (X (cy rs j) (cy rs k)),((aB rs.length 0).set i (X (cy rs j) (cy rs k))).set j (X (cy rs k) (cy rs i)),wts rs i j k].getD (c+1) []:=by
       match c,hc with
       |0,_=>exact⟨i,_,⋯,rfl,rfl,by rw[eu];rfl⟩
       |1,_=>exact⟨j,_,⋯,rfl,rfl,by rw[eu];rfl⟩
       |2,_=>exact⟨k,_,kn,rfl,rfl,by rw[eu];rfl⟩
      rw[ez,ea];have ix:ixN us.length (z:Int)=some z:=ZcO ⋯
      simp![Za3,ru,ix,ZnZ];refine⟨K7.set ⋯,?_,⟨_,_,rfl⟩,us.set z a,by simp[lu],?_,eu2⟩
      .first|exact ro7|(rw[ah ne6];exact ro7)
      .first|rfl|rw[ay hlu]
     .rintro ρ M7 ⟨K7,ro7,⟨x7,x8,rfl⟩,us,lu,ru,eu⟩;simp![Zp];refine q _ _ (.inr ⟨i,j,k,o6,ij,jk,kn,⟨nn,c3⟩,rfl,?_⟩) (λo z=>by cases z;have:=K2.1;have:=K3.1;have:=K4.1;lia) (((K2.trans K3).trans K4).trans K7)
      rw[ru,eu];rfl
    .simp![Zp];exact⟨(K3.trans K4).trans Kp.app,⟨_,_,_,_,_,rfl⟩,nx λz=>c3 z.2⟩
  .simp![Zp];exact⟨K3.trans K4,⟨_,_,_,_,_,rfl⟩,nx λz=>nn z.1⟩
 .rintro ρ M3 ⟨K3,⟨x4,x5,x6,x7,x8,rfl⟩,hI⟩;simp![Zp];exact q _ _ (.inl ⟨rfl,λi j k h1 h2 h3=>hI i j k h1 h2 h3 (by rw[dG];exact ZlN.mpr ⟨i,j,k,h1,h2,h3,rfl⟩)⟩) (λo z=>by cases z) (K2.trans K3)
theorem Zg1(h:M[n]?=some (.lst (prs rs)))(hb:Nr B rs)(hne:rs≠[])(hl:rs.length<=31)(h':M[m]?=some (.lst (rts hs)))(e:hs.length=rs.length)(hz:∀x∈hs,Sz l x)(hk:l<=4000)(q:∀d M',Em rs (whl (ZcA hs) hs) d M'->(∀o,d=.ref o->M.length<=o)->Kp M M'->Q d M')(hB:B<=400:=by first|decide|assumption):wO (F_emptying [.ref n,.ref m] M) Q E:=Zg0 (F9:=F_threes) (λn M h=>Zjw h) h hb hne hl h' e hz hk q
theorem Zc7:(hts rs ms).length=rs.length:=af _
theorem Zrn(hne:ms≠[])(hb:Nr B rs)(hz:∀x∈ms,Sz k x.1/\Sz k x.2)(hB:B<=400:=by first|decide|assumption):∀x∈hts rs ms,Sz (2*k+21) x:=by
 intro x hx;obtain⟨r,hr,rfl⟩:=cx.mp hx
 have:=CD.ZcY (xs:=ms.map λm=>0-slp m r) (by simpa using hne)
 obtain⟨m,hm,e⟩:=cx.mp this;rw[<-e]
 have:=CS.Zcg (CS.Zax (z:=0) (k:=1) (by decide) (by decide)) (CD.Zft (hz m hm).1 (hz m hm).2 (hb r hr))
 exact ZeJ this ⋯
theorem Zjz(h:M[n]?=some (.lst (prs rs)))(hs':Smo rs)(hb:Nr B rs)(hl:rs.length<=31)(h':M[m]?=some (.lst (rts hs)))(e:hs.length=rs.length)(hz:∀x∈hs,Sz l x)(hk:l<=300)(qn:∀d M',(∀p,¬Cor rs hs p)->Em rs (whl (ZcA hs) hs) d M'->(∀o,d=.ref o->M.length<=o)->Kp M M'->Q (.tup [.str (PySem.Str.ofString "none"),d]) M')(qp:∀ms a b M',Bod rs hs ms->ms≠[]->(∀p∈ms,Sz (4*l+61) p.1/\Sz (4*l+61) p.2)->Kp M M'->M.length<=a->M.length<=b->M'[a]?=some (.lst (rts (hts rs ms)))->M'[b]?=some (.lst (rts (ZcX hs (hts rs ms))))->a≠b->Q (.tup [.str (PySem.Str.ofString "parted"),.ref a,.ref b]) M')(hB:B<=400:=by first|decide|assumption):wO (F_parting [.ref n,.ref m] M) Q E:=by
 have hn:=Zo h;have hm:=Zo h';simp![F_parting,Zc6];refine Zri h hs' hb hl h' e hz ⋯ λms o M1 bo zp lm K1 lo ro=>?_
 have eq0:eqF 12 (M1++[SO.lst []]) (.ref o) (.ref M1.length)=some (decide (ms=[])):=by
  have a1:=(Kp.app (L:=[SO.lst []])).get ro;rw[Zny a1 (show(M1++[SO.lst []])[M1.length]?=some (.lst [])by simp)]
  cases ms with
  |nil=>rfl
  |cons a r=>rfl
 simp![eq0];have K2:Kp M (M1++[SO.lst []]):=K1.trans Kp.app;refine brS (λc=>?_) (λc=>?_)
 .simp![Zp];refine Zg1 (K2.get h) hb hs'.ne hl (K2.get h') e hz ⋯ λd M3 em on K3=>?_
  simp![Zp];exact qn d M3 (λp hp=>by have:=(bo.1 p).mpr hp;rw[c]at this;cases this) em (λo z=>aU K2.1 (on o z)) (K2.trans K3)
 .simp![Zp];refine CD.Zfu (K2.get h) hs' hb ⋯ ((Kp.app (L:=[SO.lst []])).get ro) c ⋯ zp ⋯ λM3 K3 r3=>?_
  simp![Zp];rw[show(M1++[SO.lst []]).length=M1.length+1 by simp]at r3
  have K4:=K2.trans K3;have hsz:=Zrn (rs:=rs) c hb zp;have l0:0<rs.length:=aV.mpr hs'.ne;refine ZtU (u:=hs) (v:=hts rs ms) (N:=rs.length) (zs:=ZcX hs (hts rs ms)) (K4.get h') r3 e Zc7 ⋯ (Zbp e Zc7) (λi hi L=>?_) ?_
  .simp![ZdO (Zbh (i:=i) hz ⋯) (Zbh (i:=i) hsz (by rw[Zc7];lia)) ⋯]
   rw[Zgj e Zc7 hi]
  .simp![Zp];have lM:=K4.1;have l3:=Zo r3;have l2:=K2.1;exact qp ms _ _ _ bo c zp (K4.trans Kp.app) (by have:=K1.1;lia) ⋯ ((Kp.app (L:=[SO.lst (rts (ZcX hs (hts rs ms)))])).get r3) (by simp) ⋯
end
end PT
namespace Rb
open L2 DL
open CN CU CV CS
open CD (hts mxr Zjf Zgl ZcY)
section
variable {rs:List Pt}{ms:List RP}{i:Nat}
theorem ZjA(hi:i<rs.length):cq (hts rs ms) i=mxr (ms.map λm=>0-slp m (cy rs i)):=by
 rw[Z4 (by simpa [hts]using hi),ZeF hi]
 simp[hts]
theorem Zro(hi:i<rs.length)(h1:∃m∈ms,0-slp m (cy rs i)=g)(h2:∀m∈ms,0-slp m (cy rs i)<=g):cq (hts rs ms) i=g:=by
 rw[ZjA hi];refine Zjf ?_ λx hx=>?_
 .obtain⟨m,hm,e⟩:=h1;exact cx.mpr ⟨m,hm,e⟩
 .obtain⟨m,hm,rfl⟩:=cx.mp hx;exact h2 m hm
theorem ZjB(hi:i<rs.length)(ne:ms≠[]):∃m∈ms,0-slp m (cy rs i)=cq (hts rs ms) i:=by
 rw[ZjA hi];obtain⟨m,hm,e⟩:=cx.mp (ZcY (xs:=ms.map λm=>0-slp m (cy rs i)) (by simpa using ne))
 exact⟨m,hm,e⟩
theorem ZlS(hi:i<rs.length)(hm:m∈ms):0-slp m (cy rs i)<=cq (hts rs ms) i:=by
 rw[ZjA hi];exact Zgl (cx.mpr ⟨m,hm,rfl⟩)
theorem Zgx(hi:i<rs.length)(ne:ms≠[])(h:∀p∈ms,Cor rs hs p):cq (hts rs ms) i<=cq hs i:=by
 obtain⟨m,hm,e⟩:=ZjB (rs:=rs) hi ne
 have:=(h m hm).1 i hi
 grind
noncomputable def mv(p v:RP):RP:=(p.1+v.1,p.2+v.2)
noncomputable def st(k:Rat)(p:RP):RP:=(k*p.1,k*p.2)
end
end Rb
namespace Rb
open L2 DL
open CN CU CV CS
open CD (hts mxr Zjf Zgl ZcY)
section
variable {rs:List Pt}
theorem Zk4(hm:∀p,p∈ms↔Cor rs hs p)(w:Win rs hs p)(os:On rs hs p s)(ot:On rs hs p t)(st:0<X (cy rs s) (cy rs t))(hk:k<rs.length)(h1:0<=X (cy rs k) (cy rs t))(h2:0<=X (cy rs s) (cy rs k)):cq (hts rs ms) k=0-slp p (cy rs k):=by
 have c:Cor rs hs p:=⟨w,s,t,os,ot,⋯⟩
 refine Zro hk ⟨p,(hm p).mpr c,rfl⟩ λm hm'=>?_
 have:=Zk3 os ot st h1 h2 ((hm m).mp hm').1
 grind
theorem Zgy(ne:ms≠[])(hm:∀p,p∈ms↔Cor rs hs p)(c:Cor rs hs p)(o:On rs hs p i):cq (hts rs ms) i=cq hs i:=by
 have a:=Zgx o.1 ne (λp hp=>(hm p).mp hp);have b:=ZlS o.1 ((hm p).mpr c);rw[o.2]at b;grind
theorem Zgz(h:Smo rs)(p:RP)(z:Int):slp p (cy rs (z-1))+slp p (cy rs (z+1))+(T rs z:Rat)*slp p (cy rs z)=0:=by
 have o1:=h.one (z-1);have o2:=h.one z;rw[show z-1+1=z by lia]at o1
 have t:=ZgZ p (cy rs (z-1)) (cy rs (z+1)) (cy rs z);rw[o1,o2]at t;unfold T;rw[dW];have c0:((0:Int):Rat)=0:=rfl;have c1:((1:Int):Rat)=1:=rfl;rw[c1]at t;rw[c0];grind
theorem plu(a b c d:Pt):X a b*X c d-X a c*X b d+X a d*X b c=0:=by unfold X;grind
theorem Zr0(a b:Pt):X a b= - X b a:=by unfold X;grind
theorem Zn0(h:Smo rs){s:Nat}(hk:k<rs.length)(ht:t<rs.length)(st:0<X (cy rs s) (cy rs t))(h2:0<=X (cy rs s) (cy rs k))(h1:0<=X (cy rs k) (cy rs t))(ne:k≠t):0<X (cy rs k) (cy rs t):=by
 by_cases z:X (cy rs k) (cy rs t)=0
 .exfalso;have q:=plu (cy rs s) (cy rs k) (cy rs (k+1)) (cy rs t);rw[h.one,z]at q;have n:X (cy rs (k+1)) (cy rs t)<0:=by
   rcases fJ (X (cy rs (k+1)) (cy rs t)) 0 with c|c
   .exact c
   .have:=a8 h2 c
    lia
  exact ZnX h hk ht ne ⋯ (by rw[Zr0];lia)
 .lia
theorem Zt9(h:Smo rs)(hk:k<rs.length)(ht:t<rs.length)(hs':s<rs.length)(st:0<X (cy rs s) (cy rs t))(h2:0<=X (cy rs s) (cy rs k))(h1:0<=X (cy rs k) (cy rs t))(ne:k≠s):0<X (cy rs s) (cy rs k):=by
 by_cases z:X (cy rs s) (cy rs k)=0
 .exfalso;have nt:k≠t:=λe=>by rw[e]at z;lia
  have kt:=Zn0 h hk ht st h2 h1 nt;have q:=plu (cy rs s) (cy rs (s+1)) (cy rs k) (cy rs t);rw[h.one,z]at q;have n:X (cy rs (s+1)) (cy rs k)<0:=by
   rcases fJ (X (cy rs (s+1)) (cy rs k)) 0 with c|c
   .exact c
   .have:=a8 (iJ st) c
    lia
  exact ZnX h hs' hk (λe=>ne e.symm) ⋯ (by rw[Zr0];lia)
 .lia
theorem Zrp(h:Smo rs){s:Nat}(hk:k<rs.length)(ht:t<rs.length)(st:0<X (cy rs s) (cy rs t))(h2:0<=X (cy rs s) (cy rs k))(h1:0<X (cy rs k) (cy rs t)):0<X (cy rs s) (cy rs (k+1))/\0<=X (cy rs (k+1)) (cy rs t):=by
 have b:0<=X (cy rs (k+1)) (cy rs t):=by
  rcases fJ (X (cy rs (k+1)) (cy rs t)) 0 with c|c
  .exact(free h hk ht h1 (by rw[Zr0];lia)).elim
  .exact c
 refine⟨?_,b⟩;have q:=plu (cy rs s) (cy rs k) (cy rs (k+1)) (cy rs t);rw[h.one]at q;have m:=a8 h2 b;rcases fJ 0 (X (cy rs s) (cy rs (k+1)))with c|c
 .exact c
 .have:=a8 (show 0<= - X (cy rs s) (cy rs (k+1))by lia) (iJ h1)
  rw[jp]at this;lia
theorem Zom(h:rs≠[]):∃j:Nat,j<rs.length/\(∀d:Int,cy rs (j+d)=cy rs (z+d))/\∀u:List Rat,u.length=rs.length->cq u j=cq u z:=by
 have l:0<rs.length:=aV.mpr h;have a:=aX z (show(0:Int)<rs.length by lia)
 have b:=bF z (show(rs.length:Int)≠0 by lia)
 refine⟨(z%rs.length).toNat,⋯,λd=>?_,λu hu=>?_⟩
 .rw[fV b,<-Zbe,fv,Zbe]
 .rw[fV b,<-hu,Zch]
theorem Zua(h:Smo rs){t k:Nat}(ez:cy rs (z+1)=cy rs k)(hs':s<rs.length)(st:0<X (cy rs s) (cy rs t))(h2:0<X (cy rs s) (cy rs k))(h1:0<=X (cy rs k) (cy rs t)):0<=X (cy rs s) (cy rs z)/\0<X (cy rs z) (cy rs t):=by
 obtain⟨j,hj,ed,_⟩:=Zom (rs:=rs) (z:=z) h.ne;have e1:cy rs ((j:Int)+1)=cy rs k:=by rw[<-ez,ed]
 have ej:=ed 0;rw[cF,cF]at ej;rw[<-ej];have b:0<=X (cy rs s) (cy rs j):=by
  rcases fJ (X (cy rs s) (cy rs j)) 0 with c|c
  .exact(free h hj hs' (by rw[Zr0];lia) (by rw[e1];exact h2)).elim
  .exact c
 refine⟨b,?_⟩;have q:=plu (cy rs s) (cy rs j) (cy rs k) (cy rs t);have o:=h.one j;rw[e1]at o;rw[o]at q;have m:=a8 b h1;rcases fJ 0 (X (cy rs j) (cy rs t))with c|c
 .exact c
 .have:=a8 (iJ h2) (show 0<= - X (cy rs j) (cy rs t)by lia)
  rw[kW]at this;lia
theorem ZeM:(hts rs ms).length=rs.length:=af _
theorem ZdW(hm:∀p,p∈ms↔Cor rs hs p)(w:Win rs hs p)(os:On rs hs p s)(ot:On rs hs p t)(st:0<X (cy rs s) (cy rs t))(h1:0<=X (cy rs z) (cy rs t))(h2:0<=X (cy rs s) (cy rs z))(hn:rs≠[]):cq (hts rs ms) z=0-slp p (cy rs z):=by
 obtain⟨j,hj,ed,eq⟩:=Zom (rs:=rs) (z:=z) hn;have e0:=ed 0;rw[cF,cF]at e0;rw[<-eq _ ZeM,<-e0];rw[<-e0]at h1 h2;exact Zk4 hm w os ot st hj h1 h2
theorem Zn1(h:Smo rs)(ne:ms≠[])(z:Int):0<=bnd rs (hts rs ms) z:=by
 obtain⟨j,hj,ed,eq⟩:=Zom (rs:=rs) (z:=z) h.ne;have e0:=ed 0;rw[cF,cF]at e0;obtain⟨m,hm,e⟩:=ZjB (rs:=rs) hj ne;rw[eq _ ZeM,e0]at e;have ge:∀y:Int,0-slp m (cy rs y)<=cq (hts rs ms) y:=λy=>by
  obtain⟨j,hj,ed,eq⟩:=Zom (rs:=rs) (z:=y) h.ne;have e0:=ed 0;rw[cF,cF]at e0
  have:=ZlS hj hm
  rw[eq _ ZeM,e0]at this;exact this
 have g1:=ge (z-1);have g2:=ge (z+1);have b:=Zgz h m z;unfold bnd;rw[<-e];grind
theorem Zdt(h:Smo rs)(ne:ms≠[])(hm:∀p,p∈ms↔Cor rs hs p)(e:hs.length=rs.length)(st:cq (hts rs ms) z<cq hs z):∃p s t,Win rs hs p/\On rs hs p s/\On rs hs p t/\0<X (cy rs s) (cy rs t)/\0<X (cy rs s) (cy rs z)/\0<X (cy rs z) (cy rs t)/\0<=X (cy rs s) (cy rs (z-1))/\0<X (cy rs (z-1)) (cy rs t)/\0<=X (cy rs (z+1)) (cy rs t)/\0<X (cy rs s) (cy rs (z+1)):=by
 obtain⟨k,hk,ed,eq⟩:=Zom (rs:=rs) (z:=z) h.ne;have e0:=ed 0;have e1:=ed 1;rw[cF,cF]at e0;rw[<-eq _ ZeM,<-eq _ e]at st;obtain⟨p0,hp0⟩:=List.exists_mem_of_ne_nil ms ne;obtain⟨p,s,t,w,os,ot,cn⟩:=wed h hk ((hm p0).mp hp0).1;have c:Cor rs hs p:=⟨w,s,t,os,ot,by have:=cn.st;lia⟩
 have off:∀a,On rs hs p a->k≠a:=λa oa z=>by
  subst z;rw[Zgy ne hm c oa]at st;grind
 have kt:=Zn0 h hk ot.1 cn.st cn.sr cn.rt (off t ot);have sk:=Zt9 h hk ot.1 os.1 cn.st cn.sr cn.rt (off s os);have l:=Zua (z:=z-1) (k:=k) h (by rw[show z-1+1=z by lia,e0]) os.1 cn.st sk cn.rt
 have r:=Zrp h hk ot.1 cn.st cn.sr kt;rw[e1]at r;rw[e0]at sk kt;exact⟨p,s,t,w,os,ot,cn.st,sk,kt,l.1,l.2,r.2,r.1⟩
theorem Zrq(h:Smo rs)(ne:ms≠[])(hm:∀p,p∈ms↔Cor rs hs p)(e:hs.length=rs.length)(st:cq (hts rs ms) z<cq hs z):bnd rs (hts rs ms) z=0:=by
 obtain⟨p,s,t,w,os,ot,c,c1,c2,c3,c4,c5,c6⟩:=Zdt h ne hm e st;have b:=Zgz h p z;unfold bnd;rw[ZdW hm w os ot c ⋯ ⋯ h.ne,ZdW hm w os ot c c5 ⋯ h.ne,ZdW hm w os ot c ⋯ ⋯ h.ne]
 grind
theorem run(h:Smo rs)(ne:ms≠[])(hm:∀p,p∈ms↔Cor rs hs p)(e:hs.length=rs.length)(st:∀j:Nat,1<=j->j<=m->cq (hts rs ms) (a+j)<cq hs (a+j)):∀j:Nat,j<=m->0<X (cy rs a) (cy rs (a+j+1)):=by
 by_cases m0:m=0
 .intro j hj
  have:j=0:=⋯
  subst this;rw[show a+((0:Nat):Int)+1=a+1 by lia,h.one]
  decide
 .have st1:=st 1 ⋯ ⋯
  obtain⟨p,s,t,w,os,ot,c,c1,c2,c3,c4,c5,c6⟩:=Zdt h ne hm e st1;rw[show a+((1:Nat):Int)-1=a by lia]at c3 c4
  have cr:Cor rs hs p:=⟨w,s,t,os,ot,⋯⟩
  have main:∀j:Nat,j<=m->0<X (cy rs a) (cy rs (a+j+1))/\0<X (cy rs s) (cy rs (a+j+1))/\0<=X (cy rs (a+j+1)) (cy rs t):=by
   intro j
   induction j with
   |zero=>
    intro _;rw[show a+((0:Nat):Int)+1=a+((1:Nat):Int)by lia]
    refine⟨?_,c1,⋯⟩
    rw[show a+((1:Nat):Int)=a+1 by lia,h.one]
    decide
   |succ j ih=>
    intro hj;obtain⟨i1,i2,i3⟩:=ih ⋯
    have sj:=st (j+1) ⋯ hj
    have ej:a+((j+1:Nat):Int)=a+j+1:=⋯
    rw[ej]at sj ⊢;obtain⟨k,hk,ed,eq⟩:=Zom (rs:=rs) (z:=a+j+1) h.ne;have e0:=ed 0;have e1:=ed 1;rw[cF,cF]at e0;rw[<-eq _ ZeM,<-eq _ e]at sj;have off:k≠t:=λz=>by
     rw[z,Zgy ne hm cr ot]at sj;grind
    rw[<-e0]at i2 i3 i1;have kt:=Zn0 h hk ot.1 c ⋯ i3 off
    have r:=Zrp h hk ot.1 c ⋯ kt
    rw[<-e1];refine⟨?_,r.1,r.2⟩;have q:=plu (cy rs a) (cy rs k) (cy rs (k+1)) (cy rs t);rw[h.one]at q;have m1:=a8 (iJ i1) r.2;rcases fJ 0 (X (cy rs a) (cy rs (k+1)))with g|g
    .exact g
    .have:=a8 (show 0<= - X (cy rs a) (cy rs (k+1))by lia) (iJ kt)
     rw[jp]at this;lia
  exact λj hj=>(main j hj).1
end
end Rb
namespace BA
section
variable (b:Nat->Int)(ad:Nat->Bool)(wr:Prop)[Decidable wr](w:Nat)
noncomputable def D:Nat->Int
 |0=>1
 |1=>b 0
 |k+2=>b (k+1)*D (k+1)-(if ad k=true then D k else 0)
noncomputable def F:Nat->Int
 |0=>0
 |1=>1
 |k+2=>b (k+1)*F (k+1)-(if ad k=true then F k else 0)
noncomputable def ch:Nat->Bool
 |0=>true
 |k+1=>ch k&&ad k
noncomputable def A(i j:Nat):Int:=if i=j then b i else -(if i+1=j/\ad i=true then 1 else 0)-(if j+1=i/\ad j=true then 1 else 0)-(if wr/\(i=0/\j=w\/i=w/\j=0)then 1 else 0)
def e(k i j:Nat):Int:=D b ad k*A b ad wr w i j-(if 0<k/\i=k/\j=k/\ad (k-1)=true then D b ad (k-1)else 0)-(if wr/\0<k/\i=w/\j=w then F b ad k else 0)-(if wr/\0<k/\ch ad k=true/\k<w/\(i=k/\j=w\/i=w/\j=k)then 1 else 0)
theorem D_s(k:Nat)(h:0<k):D b ad (k+1)=b k*D b ad k-(if ad (k-1)=true then D b ad (k-1)else 0):=by
 obtain⟨k,rfl⟩:∃j,k=j+1:=⟨k-1,⋯⟩
 rfl
theorem Zso(k:Nat)(h:wr->k≠w):e b ad wr w k k k=D b ad (k+1):=by
 by_cases k0:k=0
 .subst k0;simp[e,D,A]
 .rw[D_s b ad k ⋯]
  unfold e A;have n1:¬(wr/\0<k/\k=w/\k=w):=λz=>h z.1 z.2.2.1;have n2:¬(wr/\0<k/\ch ad k=true/\k<w/\(k=k/\k=w\/k=w/\k=k)):=λz=>by have:=z.2.2.2;lia
  rw[if_neg n1,if_neg n2,if_pos rfl];have e1:(0<k/\k=k/\k=k/\ad (k-1)=true)↔ad (k-1)=true:=⟨λz=>z.2.2.2,λz=>⟨⋯,rfl,rfl,z⟩⟩
  simp only[e1];grind
noncomputable def iv(p:Prop)[Decidable p]:Int:=if p then 1 else 0
end
open L2 DL
open Rb CN
def Run(rs:List Pt)(St:Int->Prop):Prop:=∀(a:Int)(m:Nat),(∀j:Nat,1<=j->j<=m->St (a+j))->∀j:Nat,j<=m->0<X (cy rs a) (cy rs (a+j+1))
def bb(rs:List Pt)(z:Int):Int:=X (cy rs (z-1)) (cy rs (z+1))
theorem ZwE(h:Smo rs)(a z:Int):X (cy rs a) (cy rs (z+1))=bb rs z*X (cy rs a) (cy rs z)-X (cy rs a) (cy rs (z-1)):=by
 have q:=plu (cy rs a) (cy rs (z-1)) (cy rs z) (cy rs (z+1));have o1:=h.one (z-1);rw[show z-1+1=z by lia]at o1
 rw[h.one z,o1]at q;unfold bb;grind
end BA
namespace GA
open L2 DL
open Rb CN BA
open CR (Sz)
section
variable {rs:List Pt}{St:Int->Prop}{x:Int->Rat}{a z:Int}{m j:Nat}
def bd(rs:List Pt)(x:Int->Rat)(z:Int):Rat:=x (z-1)+x (z+1)+(T rs z:Rat)*x z
theorem ZgA(R:Run rs St)(h0:0<rs.length)(z:Int):∃d:Nat,1<=d/\d<rs.length/\¬St (z+d):=by
 refine cX λc=>?_
 have:=R z (rs.length-1) (λj h1 h2=>cX λn=>c ⟨j,h1,⋯,n⟩) (rs.length-1) (ae _)
 rw[show z+((rs.length-1:Nat):Int)+1=z+rs.length by lia,Zqd]at this
 have e:X (cy rs z) (cy rs z)=0:=by unfold X;grind
 lia
theorem Zk3(p:Nat->Prop):∀n,1<=n->p n->∃d,1<=d/\d<=n/\p d/\∀e,1<=e->e<d->¬p e:=by
 intro n
 induction n using iy with
 |_ n ih=>
  intro h1 hp;by_cases c:∃e,1<=e/\e<n/\p e
  .obtain⟨e,e1,e2,e3⟩:=c;obtain⟨d,d1,d2,d3⟩:=ih e e2 e1 e3;exact⟨d,d1,⋯,d3⟩
  .exact⟨n,h1,ae _,hp,λe e1 e2 e3=>c ⟨e,e1,e2,e3⟩⟩
theorem arc(R:Run rs St)(h0:0<rs.length)(hz:St z):∃(a:Int) (m j:Nat),1<=j/\j<=m/\z=a+j/\¬St a/\¬St (a+m+1)/\(∀i:Nat,1<=i->i<=m->St (a+i))/\m<rs.length:=by
 obtain⟨d0,d1,d2,d3⟩:=ZgA R h0 (z-rs.length);obtain⟨d,a1,a2,a3,a4⟩:=Zk3 (λd=>¬St (z-d)) (rs.length-d0) ⋯ (by rw[show z-((rs.length-d0:Nat):Int)=z-rs.length+d0 by lia];exact d3)
 obtain⟨e0,e1,e2,e3⟩:=ZgA R h0 z;obtain⟨e,b1,b2,b3,b4⟩:=Zk3 (λd=>¬St (z+d)) e0 e1 e3;have all:∀i:Nat,1<=i->i<=d+e-1->St (z-d+i):=λi i1 i2=>by
  refine cX λn=>?_;rcases(show i<d\/i=d\/d<i by lia)with c|c|c
  .exact a4 (d-i) ⋯ ⋯ (by rw[show z-((d-i:Nat):Int)=z-d+i by lia];exact n)
  .exact n (by rw[show z-(d:Int)+i=z by lia];exact hz)
  .exact b4 (i-d) ⋯ ⋯ (by rw[show z+((i-d:Nat):Int)=z-d+i by lia];exact n)
 refine⟨z-d,d+e-1,d,a1,⋯,⋯,a3,?_,all,Nat.lt_of_not_le λn=>?_⟩
 .rw[show z-(d:Int)+((d+e-1:Nat):Int)+1=z+e by lia]
  exact b3
 .obtain⟨i,i1,i2,i3⟩:=ZgA R h0 (z-d);exact i3 (all i i1 ⋯)
def ph(rs:List Pt)(a:Int)(j:Nat):Int:=X (cy rs a) (cy rs (a+j))
theorem Zvj:ph rs a 0=0:=by unfold ph;rw[show a+((0:Nat):Int)=a by lia];unfold X;grind
theorem ZwF(h:Smo rs):ph rs a 1=1:=h.one a
theorem ZwG(h:Smo rs)(j:Nat):ph rs a (j+2)=0-T rs (a+(j+1:Nat))*ph rs a (j+1)-ph rs a j:=by
 have:=ZwE h a (a+(j+1:Nat))
 unfold ph;rw[show a+((j+2:Nat):Int)=a+((j+1:Nat):Int)+1 by lia,this,show a+((j+1:Nat):Int)-1=a+(j:Int)by lia]
 unfold T bb;grind
theorem ZlT(R:Run rs St)(all:∀i:Nat,1<=i->i<=m->St (a+i))(j:Nat)(h:j<=m):0<ph rs a (j+1):=by
 have:=R a m all j h
 unfold ph;rw[show a+((j+1:Nat):Int)=a+j+1 by lia]
 exact this
theorem Zub(hb:Nr 200 rs)(hne:rs≠[]):(ph rs a j).natAbs<2^17:=BD.ZrZ (hb _ (ZQ hne)) (hb _ (ZQ hne))
def sb(rs:List Pt)(x:Int->Rat)(a:Int):Nat->Rat
 |0=>0-x a
 |j+1=>sb rs x a j+(ph rs a (j+1):Rat)*bd rs x (a+(j+1:Nat))
theorem Zn2(h:Smo rs):∀j:Nat,(ph rs a j:Rat)*x (a+(j+1:Nat))-(ph rs a (j+1):Rat)*x (a+j)=sb rs x a j
 |0=>by
  rw[Zvj,ZwF h];show _=0-x a;rw[show a+((0:Nat):Int)=a by lia]
  grind
 |j+1=>by
  have i:=Zn2 h j;show _=sb rs x a j+_;rw[<-i,ZwG h j];unfold bd;rw[show a+((j+1:Nat):Int)-1=a+j by lia,show a+((j+1:Nat):Int)+1=a+((j+1+1:Nat):Int)by lia,dW,dW,aP]
  generalize x (a+(j+1+1:Nat))=u;grind
theorem ci{z:Int}:(0:Rat)<z↔0<z:=by
 rw[show(0:Rat)=((0:Int):Rat)from rfl];exact gQ
theorem Zrr{c:Int}(hc:0<c)(h:0<=(c:Rat)*u):0<=u:=by
 have:=ci.mpr hc
 refine Rat.not_lt.mp λn=>?_
 have:=il (a:=(c:Rat)) (b:=0-u) this (by grind)
 grind
theorem nn(h:Smo rs)(R:Run rs St)(o:∀z,¬St z->0<=x z)(b:∀z,St z->bd rs x z<=0)(z:Int):0<=x z:=by
 by_cases hz:St z
 .obtain⟨a,m,j,j1,jm,rfl,ha,he,all,_⟩:=arc R (aV.mpr h.ne) hz;have pp:=ZlT R all;have sn:∀j,j<=m->sb rs x a j<=0:=by
   intro j
   induction j with
   |zero=>intro _;have:=o a ha;show 0-x a<=0;grind
   |succ j ih=>
    intro hj
    have:=ih ⋯
    have p:=ci.mpr (pp j ⋯)
    have q:=b _ (all (j+1) ⋯ hj)
    have:=Rat.mul_nonneg (a:=(ph rs a (j+1):Rat)) (b:=0-bd rs x (a+(j+1:Nat))) (Rat.le_of_lt p) (by grind)
    show sb rs x a j+_<=0;grind
  have bk:∀c j,j+c=m+1->0<=x (a+j):=by
   intro c
   induction c with
   |zero=>
    intro j e
    have:j=m+1:=⋯
    subst this;rw[show a+((m+1:Nat):Int)=a+m+1 by lia]
    exact o _ he
   |succ c ih=>
    intro j e;have i:=ih (j+1) ⋯
    have s:=Zn2 (x:=x) (a:=a) h j;have n:=sn j ⋯
    refine Zrr (pp j ⋯) ?_
    have:0<=(ph rs a j:Rat)*x (a+(j+1:Nat)):=by
     refine Rat.mul_nonneg ?_ i;cases j with
     |zero=>rw[Zvj];exact dD
     |succ j=>exact Rat.le_of_lt (ci.mpr (pp j ⋯))
    grind
  exact bk (m+1-j) j ⋯
 .exact o z hz
theorem Zrs:bd rs (λz=>0-x z) z=0-bd rs x z:=by unfold bd;grind
theorem uniq(h:Smo rs)(R:Run rs St)(o:∀z,¬St z->x z=0)(b:∀z,St z->bd rs x z=0)(z:Int):x z=0:=by
 have a1:=nn (x:=x) h R (λz n=>by rw[o z n];exact dD) (λz n=>by rw[b z n];exact dD) z
 have a2:=nn (x:=λz=>0-x z) h R (λz n=>by rw[o z n];grind) (λz n=>by rw[Zrs,b z n];grind) z
 grind
theorem sz(h:Smo rs)(R:Run rs St)(hb:Nr 200 rs)(hl:rs.length<=14)(o:∀z,¬St z->x z=0)(b:∀z,St z->∃I:Int,I.natAbs<=2^130/\(60:Rat)*bd rs x z=I)(z:Int):Sz 400 (x z):=by
 by_cases hz:St z
 .obtain⟨a,m,j,j1,jm,rfl,ha,he,all,mn⟩:=arc R (aV.mpr h.ne) hz;have pp:=ZlT R all;have pl:=λj=>Zub (rs:=rs) (a:=a) (j:=j) hb h.ne;obtain⟨v,hv⟩:∃v,v=2^17*2^130:=⟨_,rfl⟩;have sn:∀j,j<=m->∃S:Int,S.natAbs<=j*v/\(60:Rat)*sb rs x a j=S:=by
   intro j
   induction j with
   |zero=>
    intro _;refine⟨0,by simp,?_⟩
    show 60*(0-x a)=_;rw[o a ha,show((0:Int):Rat)=0 from rfl];grind
   |succ j ih=>
    intro hj;obtain⟨S,s1,s2⟩:=ih ⋯
    obtain⟨I,i1,i2⟩:=b _ (all (j+1) ⋯ hj)
    refine⟨S+ph rs a (j+1)*I,?_,?_⟩
    .have a1:=gP S (ph rs a (j+1)*I);rw[a7]at a1;have a2:=bG (cM (pl (j+1))) i1;rw[<-hv]at a2;rw[Nat.succ_mul];lia
    .show 60*(sb rs x a j+_)=_;rw[gj,aP,<-s2,<-i2];grind
  have bk:∀c j,j+c=m+1->∃(N:Int) (D:Nat),0<D/\D<=2^(17*c)/\N.natAbs<=c*(2^(17*c)*(14*v))/\(N:Rat)=x (a+j)*((60*D:Nat):Rat):=by
   intro c
   induction c with
   |zero=>
    intro j e
    have:j=m+1:=⋯
    subst this;refine⟨0,1,by decide,by simp,by simp,?_⟩
    rw[show a+((m+1:Nat):Int)=a+m+1 by lia,o _ he]
    simp
   |succ c ih=>
    intro j e;obtain⟨N,D,d0,d1,n1,e1⟩:=ih (j+1) ⋯
    obtain⟨S,s1,s2⟩:=sn j ⋯
    have s:=Zn2 (x:=x) (a:=a) h j;have p:=pp j ⋯
    have q:=pl (j+1);have q0:=pl j;have w:2^(17*(c+1))=2^17*2^(17*c):=by rw[show 17*(c+1)=17+17*c by lia,mo]
    refine⟨ph rs a j*N-D*S,D*(ph rs a (j+1)).natAbs,Nat.mul_pos d0 ⋯,?_,?_,?_⟩
    .rw[w,Nat.mul_comm (2^17)];exact bG d1 ⋯
    .have a1:=fw (ph rs a j*N) (D*S);rw[a7,a7,jd]at a1;have a2:=bG (cM q0) n1;have a3:=bG d1 (aU s1 (im _ (show j<=14 by lia)))
     rw[w];generalize 14*v=u at *;have a4:2^17*(c*(2^(17*c)*u))=c*(2^17*2^(17*c)*u):=by
      rw[Nat.mul_left_comm,Nat.mul_assoc]
     have a5:2^(17*c)*u<=2^17*2^(17*c)*u:=im _ (Nat.le_mul_of_pos_left _ (by decide))
     rw[Nat.succ_mul];lia
    .have e2:((ph rs a (j+1)).natAbs:Int)=ph rs a (j+1):=⋯
     rw[dW,aP,aP,e1,<-s2,<-s];have e3:(((60*(D*(ph rs a (j+1)).natAbs):Nat)):Rat)=60*(D:Rat)*(ph rs a (j+1):Rat):=by
      rw[<-aY,show((60*(D*(ph rs a (j+1)).natAbs):Nat):Int)=60*(D:Int)*ph rs a (j+1)by rw[Int.natCast_mul,Int.natCast_mul,e2,Int.mul_assoc];rfl,aP,aP,aY]
      rfl
     have e4:((60*D:Nat):Rat)=60*(D:Rat):=by rw[fg];rfl
     rw[e3,e4,aY];grind
  obtain⟨N,D,d0,d1,n1,e1⟩:=bk (m+1-j) j ⋯
  have nz:60*D≠0:=⋯
  rw[<-BD.Zc3 nz e1];have cc:m+1-j<=14:=⋯
  have p1:2^(17*(m+1-j))<=2^238:=cg (by decide) ⋯
  refine CR.ZbA nz ?_ ?_
  .have a1:=aU n1 (bG cc (im _ p1));refine eS a1 ?_;rw[hv]
   decide +kernel
  .have:60*2^238<2^400:=by decide +kernel
   lia
 .rw[o z hz];exact⟨by decide +kernel,by decide +kernel⟩
noncomputable def sm(f:Nat->Rat):Nat->Rat
 |0=>0
 |k+1=>sm f k+f k
variable {f g:Nat->Rat}{k n i l:Nat}{c:Rat}
theorem ZbW(h:∀l,l<k->f l=g l):sm f k=sm g k:=by
 induction k with
 |zero=>rfl
 |succ k ih=>
  show sm f k+f k=sm g k+g k;rw[ih λl hl=>h l ⋯,h k ⋯]
theorem ZjC:∀k,sm (λl=>f l-g l*c) k=sm f k-sm g k*c
 |0=>by show(0:Rat)=0-0*c;grind
 |k+1=>by
  show sm _ k+_=sm f k+f k-(sm g k+g k)*c;rw[ZjC k];grind
theorem Zuc(h:∀l,l<k->f l=0):sm f k=0:=by
 induction k with
 |zero=>rfl
 |succ k ih=>
  show sm f k+f k=0;rw[ih λl hl=>h l ⋯,h k ⋯]
  grind
theorem Zrt(hl:l<k)(h:∀i,i<k->i≠l->f i=0):sm f k=f l:=by
 induction k with
 |zero=>lia
 |succ k ih=>
  show sm f k+f k=f l;by_cases e:l=k
  .subst e;rw[Zuc λi hi=>h i ⋯ ⋯]
   grind
  .rw[ih ⋯ λi hi ne=>h i ⋯ ne,h k ⋯ ⋯]
   grind
def gs(A:Nat->Nat->Rat):Nat->Nat->Nat->Rat
 |0,i,j=>A i j
 |k+1,i,j=>if i=k then gs A k k j/gs A k k k else gs A k i j-gs A k i k*(gs A k k j/gs A k k k)
variable {A:Nat->Nat->Rat}
theorem ZjD{u:Rat}(h:u≠0):u/u=1:=by rw[jq,je _ h]
theorem Zru:∀k,(∀l,l<k->gs A l l l≠0)->∀i j,j<k->gs A k i j=if i=j then 1 else 0:=by
 intro k
 induction k with
 |zero=>intro _ i j h;lia
 |succ k ih=>
  intro hd i j hj;have i1:=ih λl hl=>hd l ⋯
  have hk:=hd k ⋯
  show(if i=k then gs A k k j/gs A k k k else gs A k i j-gs A k i k*(gs A k k j/gs A k k k))=_
  by_cases e:j=k
  .subst e;rw[ZjD hk];split
   .rfl
   .grind
  .rw[i1 i j ⋯,i1 k j ⋯,if_neg (bh e),jq,Rat.zero_mul]
   by_cases c:i=k
   .rw[if_pos c,if_neg ⋯]
   .rw[if_neg c];grind
theorem Zfy(hd:∀l,l<k->gs A l l l≠0):∀i j,k<=j->sm (λl=>A i l*gs A k l j) k+(if i<k then 0 else gs A k i j)=A i j:=by
 induction k with
 |zero=>
  intro i j _;show(0:Rat)+(if i<0 then 0 else A i j)=A i j
  rw[if_neg ⋯]
  grind
 |succ k ih=>
  intro i j hj;have i1:=ih (λl hl=>hd l ⋯) i
  have hk:=hd k ⋯
  have ij:=i1 j ⋯
  have ik:=i1 k (ae _);have e1:sm (λl=>A i l*gs A (k+1) l j) k=sm (λl=>A i l*gs A k l j) k-sm (λl=>A i l*gs A k l k) k*(gs A k k j/gs A k k k):=by
   rw[<-ZjC];refine ZbW λl hl=>?_;show A i l*(if l=k then _ else _)=_
   rw[if_neg ⋯]
   grind
  have e2:gs A (k+1) k j=gs A k k j/gs A k k k:=by
   show(if k=k then _ else _)=_
   rw[if_pos rfl]
  show sm (λl=>A i l*gs A (k+1) l j) k+A i k*gs A (k+1) k j+_=_;have e3:gs A (k+1) i j=if i=k then gs A k k j/gs A k k k else gs A k i j-gs A k i k*(gs A k k j/gs A k k k):=rfl
  have e4:gs A k k k*(gs A k k j/gs A k k k)=gs A k k j:=by
   rw[jq,Rat.mul_comm (gs A k k j),<-Rat.mul_assoc,je _ hk,Rat.one_mul]
  rw[e1,e2,e3];generalize gs A k k j/gs A k k k=t at *;generalize sm (λl=>A i l*gs A k l j) k=u at *;generalize sm (λl=>A i l*gs A k l k) k=v at *;rcases(show i<k\/i=k\/k<i by lia)with c|c|c
  .rw[if_pos c]at ij ik;rw[if_pos (show i<k+1 by lia)]
   grind
  .subst c;rw[if_neg ⋯]at ij ik
   rw[if_pos (show i<i+1 by lia)]
   grind
  .rw[if_neg (show ¬i<k by lia)]at ij ik
   rw[if_neg (show ¬i<k+1 by lia),if_neg (show ¬i=k by lia)]
   grind
theorem Zud(nd:∀k,k<n->∀x:Nat->Rat,(∀i,i<=k->sm (λl=>A i l*x l) (k+1)=0)->x k=0):∀k,k<n->gs A k k k≠0:=by
 intro k
 induction k using iy with
 |_ k ih=>
  intro hk z;have m:=Zfy (A:=A) (k:=k) λl hl=>ih l hl ⋯
  have:=nd k hk (λl=>if l<k then 0-gs A k l k else 1) λi hi=>by
   show sm _ k+A i k*(if k<k then _ else 1)=0
   rw[if_neg ⋯,ZbW (g:=λl=>0-A i l*gs A k l k*1) (λl hl=>by rw[if_pos hl];grind),ZjC (f:=λ_=>0),Zuc (f:=λ_=>0) (λ_ _=>rfl)]
   have:=m i k (ae _)
   rcases(show i<k\/i=k by lia)with c|c
   .rw[if_pos c]at this;grind
   .subst c;rw[if_neg ⋯,z]at this
    grind
  simp only[b9,if_false]at this;exact absurd this (by decide)
structure Pl(rs:List Pt) (p:Nat->Nat) (m:Nat):Prop where
 inc:∀i j,i<j->j<m->p i<p j
 lt:∀i,i<m->p i<rs.length
 run:Run rs λz=>∃l,l<m/\z%(rs.length:Int)=(p l:Int)
variable {p:Nat->Nat}
theorem Pl.mono(P:Pl rs p m)(h:k<=m):Pl rs p k:=⟨λi j a b=>P.inc i j a ⋯,λi a=>P.lt i ⋯,λa n st=>P.run a n λj h1 h2=>by
 obtain⟨l,l1,l2⟩:=st j h1 h2;exact⟨l,⋯,l2⟩⟩
theorem Pl.inj(P:Pl rs p m)(hi:i<m)(hj:j<m)(e:p i=p j):i=j:=by
 rcases Nat.lt_trichotomy i j with c|c|c
 .have:=P.inc i j c hj;lia
 .exact c
 .have:=P.inc j i c hi;lia
def ev(n:Nat)(p:Nat->Nat)(c:Nat->Rat)(m:Nat)(z:Int):Rat:=sm (λl=>if z%(n:Int)=(p l:Int)then c l else 0) m
def own(rs:List Pt)(a b:Nat):Int:=if a=b then T rs a else iv (((a:Int)+1)%(rs.length:Int)=b)+iv (((b:Int)+1)%(rs.length:Int)=a)
variable {c:Nat->Rat}
theorem Zvk(P:Pl rs p m)(hk:k<m){z:Int}(e:z%(rs.length:Int)=(p k:Int)):ev rs.length p c m z=c k:=by
 unfold ev;rw[Zrt hk λi hi ne=>?_]
 .exact if_pos e
 .refine if_neg λe2=>ne (P.inj hi hk ?_);lia
theorem ZeN{z:Int}(h:∀l,l<m->z%(rs.length:Int)≠(p l:Int)):ev rs.length p c m z=0:=Zuc λl hl=>if_neg (h l hl)
theorem Zn3{n a:Nat}(h:a<n):((a:Int)+1)%(n:Int)=if a+1=n then 0 else(a:Int)+1:=by
 split
 .rw[show(a:Int)+1=n by lia,Int.emod_self]
 .exact bf ⋯ ⋯
theorem Zue{n a:Nat}(h:a<n):((a:Int)-1)%(n:Int)=if a=0 then(n:Int)-1 else(a:Int)-1:=by
 split
 .rename_i z;rw[z,<-jb,show((0:Nat):Int)-1+n=n-1 by lia]
  exact bf ⋯ ⋯
 .exact bf ⋯ ⋯
theorem Zuf{a:Nat}(n3:3<=rs.length)(ha:a<rs.length)(hb:b<rs.length):(if((a:Int)-1)%(rs.length:Int)=(b:Int)then u else 0)+(if((a:Int)+1)%(rs.length:Int)=(b:Int)then u else 0)+(T rs a:Rat)*(if(a:Int)%(rs.length:Int)=(b:Int)then u else 0)=(own rs a b:Rat)*u:=by
 have e0:(a:Int)%(rs.length:Int)=a:=bf ⋯ ⋯
 rw[Zue ha,Zn3 ha,e0];unfold own iv;rw[Zn3 ha,Zn3 hb];by_cases c:a=b
 .subst c;rw[if_pos rfl,if_pos rfl];have c1:¬(if a=0 then(rs.length:Int)-1 else(a:Int)-1)=a:=by split<;>lia
  have c2:¬(if a+1=rs.length then 0 else(a:Int)+1)=a:=by split<;>lia
  rw[if_neg c1,if_neg c2];grind
 .have c0:¬(a:Int)=(b:Int):=⋯
  rw[if_neg c,if_neg c0];have q:((if a=0 then(rs.length:Int)-1 else(a:Int)-1)=b)↔((if b+1=rs.length then 0 else(b:Int)+1)=a):=by
   split<;>split<;>constructor<;>lia
  have i1:(((1:Int)+1:Int):Rat)=2:=rfl;have i2:(((0:Int)+1:Int):Rat)=1:=rfl;have i3:(((1:Int)+0:Int):Rat)=1:=rfl;have i4:(((0:Int)+0:Int):Rat)=0:=rfl;by_cases c1:(if a=0 then(rs.length:Int)-1 else(a:Int)-1)=b
  .rw[if_pos c1,if_pos (q.mp c1)];by_cases c2:(if a+1=rs.length then 0 else(a:Int)+1)=b
   .rw[if_pos c2,if_pos c2,i1];grind
   .rw[if_neg c2,if_neg c2,i2];grind
  .rw[if_neg c1,if_neg λz=>c1 (q.mpr z)];by_cases c2:(if a+1=rs.length then 0 else(a:Int)+1)=b
   .rw[if_pos c2,if_pos c2,i3];grind
   .rw[if_neg c2,if_neg c2,i4];grind
theorem Zk5(n3:3<=rs.length){a:Nat}(ha:a<rs.length):∀m,(∀l,l<m->p l<rs.length)->bd rs (ev rs.length p c m) a=sm (λl=>(own rs a (p l):Rat)*c l) m
 |0,_=>by
  show(0:Rat)+0+_*0=0;grind
 |m+1,h=>by
  have i:=Zk5 n3 ha m λl hl=>h l ⋯
  have t:=Zuf (u:=c m) n3 ha (h m ⋯)
  show bd rs (λz=>ev rs.length p c m z+if z%(rs.length:Int)=(p m:Int)then c m else 0) a=sm _ m+(own rs a (p m):Rat)*c m
  rw[<-i,<-t];unfold bd;grind
theorem ZeO{x:Int->Rat}(per:∀z,x (z%(rs.length:Int))=x z){z:Int}{a:Nat}(e:z%(rs.length:Int)=(a:Int)):bd rs x z=bd rs x a:=by
 have m1:∀d:Int,x (z+d)=x (a+d):=λd=>by rw[<-per,<-per (a+d),<-e,fv]
 have m2:∀d:Int,cy rs (z+d)=cy rs (a+d):=λd=>by rw[<-Zbe,<-Zbe (i:=(a:Int)+d),<-e,fv]
 have a1:=m1 (-1);have a2:=m1 1;have a3:=m1 0;have b1:=m2 (-1);have b2:=m2 1;unfold bd T;rw[show z-1=z + -1 by lia,show(a:Int)-1=a + -1 by lia,a1,a2,b1,b2]
 rw[cF,cF]at a3;rw[a3]
theorem ZgB{z:Int}:ev rs.length p c m (z%(rs.length:Int))=ev rs.length p c m z:=by unfold ev;rw[ic _ (lY _)]
def tA(rs:List Pt)(p:Nat->Nat)(m:Nat)(w:Nat->Rat)(i j:Nat):Rat:=if j<m then(own rs (p i) (p j):Rat)else w i
variable {w:Nat->Rat}
theorem ZdX(h:Smo rs)(P:Pl rs p m):∀k,k<m->gs (tA rs p m w) k k k≠0:=by
 have n3:=h.len;refine Zud λk hk x e=>?_;have P':=P.mono (show k+1<=m by lia)
 have:=uniq (x:=ev rs.length p x (k+1)) h P'.run (λz n=>ZeN λl hl e=>n ⟨l,hl,e⟩) (λz ⟨l,hl,ez⟩=>by
  rw[ZeO (λz=>ZgB) ez,Zk5 n3 (P'.lt l hl) _ P'.lt,<-e l ⋯]
  refine ZbW λi hi=>?_;unfold tA;rw[if_pos ⋯]) (p k)
 rw[Zvk P' ⋯ (bf ⋯ (by have:=P.lt k hk;lia))]at this
 exact this
theorem ZlU(h:Smo rs)(P:Pl rs p m)(hk:k<=m)(hi:i<k)(hj:k<=j):bd rs (ev rs.length p (λl=>gs (tA rs p m w) k l j) k) (p i)=tA rs p m w i j:=by
 have:=Zfy (A:=tA rs p m w) (k:=k) (λl hl=>ZdX h P l ⋯) i j hj
 rw[if_pos hi]at this;rw[Zk5 h.len (P.lt i ⋯) k λl hl=>P.lt l ⋯,<-this,Rat.add_zero]
 refine ZbW λl hl=>?_;show _=(if l<m then _ else _)*_
 rw[if_pos ⋯]
theorem Zrv(hb:Nr 200 rs)(hne:rs≠[]){a:Nat}:(own rs a b).natAbs<2^17:=by
 unfold own;split
 .have:=BD.ZrZ (hb _ (ZQ (i:=(a:Int)-1) hne)) (hb _ (ZQ (i:=(a:Int)+1) hne))
  unfold T;lia
 .unfold iv
  split<;>split<;>decide
theorem i60(h:∃I:Int,I.natAbs<=2^130/\(60:Rat)*u=I):Sz 131 u:=by
 obtain⟨I,i1,i2⟩:=h;rw[<-BD.Zc3 (a:=I) (b:=60) (t:=u) (by decide) (by rw[<-i2,show((60:Nat):Rat)=60 from rfl];grind)]
 refine CR.ZbA _ ?_ ?_
 .have:2^130<2^131:=by decide +kernel
  lia
 .decide +kernel
theorem Zrw(hb:Nr 200 rs)(hne:rs≠[])(W:∀i,i<m->∃I:Int,I.natAbs<=2^130/\(60:Rat)*w i=I)(hi:i<m):∃I:Int,I.natAbs<=2^130/\(60:Rat)*tA rs p m w i j=I:=by
 unfold tA;split
 .have:=Zrv (a:=p i) (b:=p j) hb hne
  refine⟨60*own rs (p i) (p j),?_,?_⟩
  .have q:60*2^17<=2^130:=by decide +kernel
   rw[a7];generalize 2^130=y at *;rw[show(60:Int).natAbs=60 from rfl];lia
  .rw[aP];rfl
 .exact W i hi
theorem Zn4(h:Smo rs)(hb:Nr 200 rs)(hl:rs.length<=14)(P:Pl rs p m)(W:∀i,i<m->∃I:Int,I.natAbs<=2^130/\(60:Rat)*w i=I)(hk:k<=m)(hj:k<=j)(z:Int):Sz 400 (ev rs.length p (λl=>gs (tA rs p m w) k l j) k z):=
 sz h (P.mono hk).run hb hl (λz n=>ZeN λl hl e=>n ⟨l,hl,e⟩) (λz ⟨l,hl,ez⟩=>by
  rw[ZeO (λz=>ZgB) ez,ZlU h P hk hl hj];exact Zrw hb h.ne W ⋯) z
theorem Zug(h:Smo rs)(hb:Nr 200 rs)(hl:rs.length<=14)(P:Pl rs p m)(W:∀i,i<m->∃I:Int,I.natAbs<=2^130/\(60:Rat)*w i=I)(hk:k<=m)(hi:i<k)(hj:k<=j):Sz 400 (gs (tA rs p m w) k i j):=by
 have:=Zn4 (j:=j) h hb hl P W hk hj (p i)
 rw[Zvk (P.mono hk) hi (bf ⋯ (by have:=P.lt i ⋯;lia))]at this
 exact this
theorem Zuh(h:Smo rs)(hb:Nr 200 rs)(hl:rs.length<=14)(P:Pl rs p m)(W:∀i,i<m->∃I:Int,I.natAbs<=2^130/\(60:Rat)*w i=I)(hk:k<=m)(hi:i<m):Sz 950 (gs (tA rs p m w) k i j):=by
 have hd:∀l,l<k->gs (tA rs p m w) l l l≠0:=λl hl=>ZdX h P l ⋯
 by_cases c:j<k
 .rw[Zru k hd i j c]
  split<;>exact⟨by decide +kernel,by decide +kernel⟩
 .by_cases c2:i<k
  .exact CV.ZeJ (Zug h hb hl P W hk c2 ⋯) ⋯
  .have q:=Zfy (A:=tA rs p m w) hd i j ⋯
   rw[if_neg c2]at q;have v:=Zn4 (j:=j) h hb hl P W hk ⋯
   have e:=Zk5 (c:=λl=>gs (tA rs p m w) k l j) h.len (P.lt i hi) k λl hl=>P.lt l ⋯
   rw[ZbW (g:=λl=>tA rs p m w i l*gs (tA rs p m w) k l j) λl hl=>by
    show _=(if l<m then _ else _)*_
    rw[if_pos ⋯]]at e
   unfold bd at e;have z0:ev rs.length p (λl=>gs (tA rs p m w) k l j) k (p i)=0:=ZeN λl hl z=>by
    rw[bf ⋯ (by have:=P.lt i hi;lia)]at z
    have:=P.inj hi (show l<m by lia) ⋯
    lia
   rw[z0]at e;have s1:=CR.Zja (v ((p i:Int)-1)) (v ((p i:Int)+1));have s2:=i60 (Zrw (p:=p) (j:=j) hb h.ne W hi);have s3:=CS.Zcg s2 s1;rw[show gs (tA rs p m w) k i j=tA rs p m w i j-(ev rs.length p (λl=>gs (tA rs p m w) k l j) k ((p i:Int)-1)+ev rs.length p (λl=>gs (tA rs p m w) k l j) k ((p i:Int)+1))by grind]
   exact CV.ZeJ s3 ⋯
variable {hf ff e:Int->Rat}
theorem ZeP{f g:Int->Rat}:bd rs (λz=>f z-g z) z=bd rs f z-bd rs g z:=by unfold bd;grind
structure Tk(rs:List Pt) (hf ff e:Int->Rat) (P:Int->Prop):Prop where
 le:∀z,ff z<=hf z
 bn:∀z,0<=bd rs ff z
 b0:∀z,ff z<hf z->bd rs ff z=0
 run:Run rs λz=>ff z<hf z
 sub:∀z,P z->ff z<hf z
 off:∀z,¬P z->e z=0
 on:∀z,P z->bd rs e z=bd rs hf z
theorem Tk.le_e(h:Smo rs)(t:Tk rs hf ff e P)(z:Int):e z<=hf z-ff z:=by
 have:=nn (x:=λz=>(hf z-ff z)-e z) h (St:=P) (λa m st=>t.run a m λj h1 h2=>t.sub _ (st j h1 h2)) (λz n=>by
  have a1:=t.off z n;have a2:=t.le z;grind) (λz n=>by
  rw[ZeP,ZeP,t.b0 z (t.sub z n),t.on z n];grind) z
 grind
theorem Tk.new(h:Smo rs)(t:Tk rs hf ff e P)(n:¬P z)(b:bd rs (λz=>hf z-e z) z<0):ff z<hf z:=by
 refine cX λc=>?_;have a0:=t.le z;have a1:=t.le_e h (z-1);have a2:=t.le_e h (z+1);have a3:=t.bn z;have a4:=t.off z n;have a5:hf z=ff z:=by grind
 unfold bd at b a3;simp only[a4,a5]at b;grind
theorem Tk.end_(h:Smo rs)(t:Tk rs hf ff e P)(b:∀z,¬P z->0<=bd rs (λz=>hf z-e z) z)(z:Int):e z=hf z-ff z:=by
 have:=nn (x:=λz=>e z-(hf z-ff z)) h t.run (λz n=>by
  have a1:=t.le_e h z;have a2:=t.le z;have a3:=t.off z λp=>n (t.sub z p);grind) (λz n=>by
  rw[ZeP,ZeP,t.b0 z n];by_cases p:P z
  .rw[t.on z p];grind
  .have:=b z p
   rw[ZeP]at this;grind) z
 have:=t.le_e h z
 grind
end
end GA
namespace K57
open CR (Zb3 F_is_whole Zag ZaH F_greatest_divisor Zfo F_ratio Zi8 F_plus Zfp F_times)
open CC (ZbU F_crossed ZaX F_following Zac ZaY F_unspanned ZaG F_ask_smooth ZaZ F_law_cell_at ZcP F_law_cross Za0 Za1 Zb2 F_law_turn Zav Zbf F_law_smooth)
open CS (Zfq F_minus Zbg F_ask_height ZdN F_sloped Zaw F_slope_through)
open CD (Zgk F_less Za2 Zb5 F_greatest Zb6 F_contrary ZbB F_height_of)
open BD (Z7 Zaz F_common_bottom ZbC F_stretched Zc0 Zjk F_edge Zb7 F_in_order Zc1 Zc2 Zjl F_body)
open PT (Zc5 F_balance ZdV F_threes Za3 Zan Zds F_emptying Zc6 F_parting)
open BL (ZaM ZbE F_law_ratio Zc4 F_law_sum ZbF F_law_times ZaA Zbj F_law_height ZbG F_law_sized)
open L2 DL
structure Txt(K:Fg) (mg:Str->Option aa):Prop extends Bs mg where
 gl:∀c v,PySem.W.nsIn K aM c=some (some v)->mg c=some v
 d:Dfs K top tab
 ex_NotSmooth:Zog K "NotSmooth"=true
 ex_NoRatio:Zog K "NoRatio"=true
 ex_NoHeight:Zog K "NoHeight"=true
 lm_m:Znj K=true
 lb_in_order:ZsQ K "in_order"=true
section
variable {P:cB}{w:cO}{K:Fg}{mg:Str->Option aa}{base:Heap}
def Zbx:Sv:=(Zy (ZF (gNm 5) (e2 dMod (e2 dAdd (Zg 4) (eC (.int 1))) (Zg 2))) (Zy (ZF (gNm 6) (Zj F_law_times (Zc (e2 dSub (eC (.int 0)) (Zj F_law_cross (Zc (e2 dIx (Zg 0) (e2 dSub (Zg 4) (eC (.int 1)))) (Zc (e2 dIx (Zg 0) (Zg 5)) aNil)))) (Zc (e2 dIx (Zg 1) (Zg 4)) aNil)))) (Za7 (ZeS mApp (Zg 3) (Zc (Zj F_law_sum (Zc (Zg 6) (Zc (Zj F_law_sum (Zc (e2 dIx (Zg 1) (e2 dSub (Zg 4) (eC (.int 1)))) (Zc (e2 dIx (Zg 1) (Zg 5)) aNil))) aNil))) aNil)))))
def Zc8:Sv:=(Zy (ZF (gNm 2) (Zj bLen (Zc (Zg 0) aNil))) (Zy (ZF (gNm 3) (ZbI aNil)) (Zy (ZaE (gNm 4) (Zc (Zg 2) aNil) Zbx) (Zae (Zg 3)))))
def F_law_bends:W3:=fnF Zc8 2 5
def Zbk:Sv:=(Zy (ZF (gNm 14) (Zj F_law_ratio (Zc (e2 dSub (eC (.int 0)) (e2 dMul (e2 dIx (Zg 10) (eC (.int 0))) (e2 dIx (Zg 13) (eC (.int 0))))) (Zc (e2 dMul (e2 dIx (Zg 10) (eC (.int 1))) (e2 dIx (Zg 13) (eC (.int 1)))) aNil)))) (Za7 (ZeS mApp (Zg 11) (Zc (Zj F_law_sum (Zc (Zg 12) (Zc (Zg 14) aNil))) aNil))))
def Z8:Sv:=(sIf (tv (e2 dNe (Zg 9) (Zg 4))) (Zy (ZF (gNm 10) (e2 dIx (e2 dIx (Zg 2) (Zg 9)) (Zg 4))) (Zy (ZF (gNm 11) (ZbI aNil)) (Zy (Zeo (gTp (gCs (gNm 12) (gCs (gNm 13) gNl))) (iZp (Zc (e2 dIx (Zg 2) (Zg 9)) (Zc (e2 dIx (Zg 2) (Zg 4)) aNil))) Zbk) (Zkd (Zg 2) (Zg 9) (Zg 11))))) sNil)
def ZaB:Sv:=(Zy (ZF (gNm 5) (e2 dIx (e2 dIx (Zg 2) (Zg 4)) (Zg 4))) (Zy (sIf (tv (e2 dEq (e2 dIx (Zg 5) (eC (.int 0))) (eC (.int 0)))) (Zae (eC .non)) sNil) (Zy (ZF (gNm 6) (e2 dDiv (e2 dIx (Zg 5) (eC (.int 0))) (Zj bAbs (Zc (e2 dIx (Zg 5) (eC (.int 0))) aNil)))) (Zy (ZF (gNm 7) (e2 dMul (Zg 6) (e2 dIx (Zg 5) (eC (.int 1))))) (Zy (ZF (gNm 8) (Zj bAbs (Zc (e2 dIx (Zg 5) (eC (.int 0))) aNil))) (Zy (Zkd (Zg 2) (Zg 4) (Zam (iSq (e2 dIx (Zg 2) (Zg 4))) 1 [7,8] (gNm 0) (λ_ M=>.ok true M) (Zj F_law_ratio (Zc (e2 dMul (Zg 1) (e2 dIx (Zg 0) (eC (.int 0)))) (Zc (e2 dMul (Zg 2) (e2 dIx (Zg 0) (eC (.int 1)))) aNil))))) (ZaE (gNm 9) (Zc (Zg 3) aNil) Z8)))))))
def Zcj:Sv:=(Zy (ZF (gNm 2) (Zam (iZp (Zc (Zg 0) (Zc (Zg 1) aNil))) 2 [] (gTp (gCs (gNm 0) (gCs (gNm 1) gNl))) (λ_ M=>.ok true M) (e2 dAdd (Zj bList (Zc (Zg 0) aNil)) (ZbI (Zc (Zg 1) aNil))))) (Zy (ZF (gNm 3) (Zj bLen (Zc (Zg 2) aNil))) (Zy (ZaE (gNm 4) (Zc (Zg 3) aNil) ZaB) (Zae (Zam (iSq (Zg 2)) 1 [3] (gNm 0) (λ_ M=>.ok true M) (e2 dIx (Zg 0) (Zg 1)))))))
def F_law_solved:W3:=fnF Zcj 2 13
def ZaN:Sv:=(Zy (ZF (gNm 7) (e2 dAdd (Zj bInt (Zc (e2 dEq (e2 dMod (e2 dAdd (Zg 4) (eC (.int 1))) (Zg 2)) (Zg 6)) aNil)) (Zj bInt (Zc (e2 dEq (e2 dMod (e2 dAdd (Zg 6) (eC (.int 1))) (Zg 2)) (Zg 4)) aNil)))) (Zy (sIf (tv (e2 dEq (Zg 4) (Zg 6))) (ZF (gNm 7) (e2 dSub (eC (.int 0)) (Zj F_law_cross (Zc (e2 dIx (Zg 0) (e2 dSub (Zg 4) (eC (.int 1)))) (Zc (e2 dIx (Zg 0) (e2 dMod (e2 dAdd (Zg 4) (eC (.int 1))) (Zg 2))) aNil))))) sNil) (Za7 (ZeS mApp (Zg 5) (Zc (Zal (Zc (Zg 7) (Zc (eC (.int 1)) aNil))) aNil)))))
def ZaO:Sv:=(Zy (ZF (gNm 5) (ZbI aNil)) (Zy (Zg5 (gNm 6) (Zg 1) ZaN) (Za7 (ZeS mApp (Zg 3) (Zc (Zg 5) aNil)))))
def Zc9:Sv:=(Zy (ZF (gNm 2) (Zj bLen (Zc (Zg 0) aNil))) (Zy (ZF (gNm 3) (ZbI aNil)) (Zy (Zg5 (gNm 4) (Zg 1) ZaO) (Zae (Zg 3)))))
def F_law_table:W3:=fnF Zc9 2 6
def ZaP:Sv:=(sIf (ZbY (tv (e2 dLt (e2 dIx (e2 dIx (Zg 4) (Zg 8)) (eC (.int 0))) (eC (.int 0)))) (tv (e2 dNotInE (Zg 8) (Zg 2)))) (Za7 (ZeS mApp (Zg 7) (Zc (Zg 8) aNil))) sNil)
def ZaQ:Sv:=(Zkd (Zg 3) (e2 dIx (Zg 2) (Zg 8)) (e2 dIx (Zg 9) (Zg 8)))
def ZaR:Sv:=(Za7 (ZeS mApp (Zg 10) (Zc (Zj F_law_sum (Zc (e2 dIx (Zg 1) (Zg 8)) (Zc (Zj F_law_times (Zc (Ze4 (eC (.int 1))) (Zc (e2 dIx (Zg 3) (Zg 8)) aNil))) aNil))) aNil)))
def ZaS:Sv:=(Zy (ZF (gNm 7) (ZbI aNil)) (Zy (ZaE (gNm 8) (Zc (Zj bLen (Zc (Zg 0) aNil)) aNil) ZaP) (Zy (sIf (tv (e2 dEq (Zg 7) (ZbI aNil))) (Zae (Zg 3)) sNil) (Zy (ZF (gNm 2) (Zj bSrtI (Zc (e2 dAdd (Zg 2) (Zg 7)) aNil))) (Zy (ZF (gNm 9) (Zj F_law_solved (Zc (Zj F_law_table (Zc (Zg 0) (Zc (Zg 2) aNil))) (Zc (Zam (iSq (Zg 2)) 1 [5] (gNm 0) (λ_ M=>.ok true M) (e2 dIx (Zg 1) (Zg 0))) aNil)))) (Zy (sIf (tv (e2 dIs (Zg 9) (eC .non))) (Zae (eC .non)) sNil) (Zy (ZF (gNm 3) (Zam (iSq (Zg 0)) 1 [] (gNm 0) (λ_ M=>.ok true M) (Zal (Zc (eC (.int 0)) (Zc (eC (.int 1)) aNil))))) (Zy (ZaE (gNm 8) (Zc (Zj bLen (Zc (Zg 2) aNil)) aNil) ZaQ) (Zy (ZF (gNm 10) (ZbI aNil)) (Zy (ZaE (gNm 8) (Zc (Zj bLen (Zc (Zg 0) aNil)) aNil) ZaR) (ZF (gNm 4) (Zj F_law_bends (Zc (Zg 0) (Zc (Zg 10) aNil))))))))))))))
def Zda:Sv:=(Zy (ZF (gNm 2) (ZbI aNil)) (Zy (ZF (gNm 3) (Zam (iSq (Zg 0)) 1 [] (gNm 0) (λ_ M=>.ok true M) (Zal (Zc (eC (.int 0)) (Zc (eC (.int 1)) aNil))))) (Zy (ZF (gNm 4) (Zj F_law_bends (Zc (Zg 0) (Zc (Zg 1) aNil)))) (Zy (ZF (gNm 5) (Zj bList (Zc (Zg 4) aNil))) (Zy (ZaE (gNm 6) (Zc (Zj bLen (Zc (Zg 0) aNil)) aNil) ZaS) (Zae (eC .non)))))))
def F_law_stuck:W3:=fnF Zda 2 9
def ZdY:Sv:=(Zy (ZF (gTp (gCs (gNm 2) (gCs (gNm 3) gNl))) (Zj F_law_sized (Zc (Zg 0) (Zc (Zg 1) (Zc (e2 dIx (ZbI (Zc (eC (.int 20)) (Zc (eC (.int 20)) (Zc (eC (.int 9)) (Zc (eC (.int 60)) aNil))))) (e2 dMod (e2 dDiv (Zj F_law_cell_at (Zc (Zg 0) (Zc (Zg 1) aNil))) (eC (.int 3))) (eC (.int 4)))) aNil))))) (Zy (ZF (gNm 4) (Zj F_parting (Zc (Zj bList (Zc (Zg 2) aNil)) (Zc (Zj bList (Zc (Zg 3) aNil)) aNil)))) (sIf (ZbY (tv (e2 dEq (e2 dIx (Zg 4) (eC (.int 0))) (eC (.str (PySem.Str.ofString "parted"))))) (tv (e2 dNe (e2 dIx (Zg 4) (eC (.int 2))) (Zj F_law_stuck (Zc (Zg 2) (Zc (Zg 3) aNil)))))) (Zae (eC (.bl false))) sNil)))
def Zrx:Sv:=(Zy (Zeo (gNm 1) (iR3 (Zc (eC (.int 0)) (Zc (Zj bMax (Zc (eC (.int 2)) (Zc (Zj bMin (Zc (Zj bLen (Zc (Zg 0) aNil)) (Zc (eC (.int 5)) aNil))) aNil))) (Zc (eC (.int 2)) aNil)))) ZdY) (Zae (eC (.bl true))))
def Zfz:W3:=fnF Zrx 1 4
variable (T:Txt K mg)
include T
theorem C1:Cal P w K mg base "is_whole" 1 1 F_is_whole:=ZP (N:=["thing"]) (T.d.at 0 6) T.gl λ_ _ _ _ _ _ _ nd hr θ=>(Zh (Zw (Zo7 (Zlj ZmA T.b_isinstance T.b_int ZhN (Za 0)) (Zo6 (Zo8 (Zlj Zka T.b_isinstance T.b_bool ZmC (Za 0)))))))
theorem C2:Cal P w K mg base "greatest_divisor" 101 2 F_greatest_divisor:=ZP (N:=["one","other","high","low"]) (T.d.at 1 7) T.gl λ_ _ _ _ _ _ _ nd hr θ=>(Zf (ZfS 2 3 (ZJ hr (by decide)) nd (Zb (Zt Zak ZbM T.b_abs ZbN (Zb (Za 0) Ze)) (Zb (Zt Zak ZbM T.b_abs ZbN (Zb (Za 1) Ze)) Ze)))
  (Zf (ZfV θ.own (ZB (Zec hr.units) ZhF (Za 3) Zd) (Zh (ZfS 2 3 (ZJ hr (by decide)) nd (Zb (Za 3) (Zb (ZN (Za 2) (Za 3)) Ze)))))
  (Zh (Zw (Za 2)))))
theorem C3:Cal P w K mg base "crossed" 1 2 F_crossed:=ZP (N:=["one","other"]) (T.d.at 2 9) T.gl λ_ _ _ _ _ _ _ nd hr θ=>(Zh (Zw (Zad (ZE (Zm (Za 0) Zd) (Zm (Za 1) Zd)) (ZE (Zm (Za 0) Zd) (Zm (Za 1) Zd)))))
theorem C4:Cal P w K mg base "following" 1 2 F_following:=ZP (N:=["things","at"]) (T.d.at 3 11) T.gl λ_ _ _ _ _ _ _ nd hr θ=>(Zh (Zw (Zm (Za 0) (ZN (ZL (Za 1) Zd) (Zt Zr Z3 T.b_len PySem.boot_len (Zb (Za 0) Ze))))))
theorem C5:Cal P w K mg base "unspanned" 101 1 F_unspanned:=ZP (N:=["rays","at","ray"]) (T.d.at 4 12) T.gl λ_ _ _ _ _ _ _ nd hr θ=>(Zf (ZcH θ.own (ZmL (hr.hd (by decide)) T.b_enumerate (Zb (Za 0) Ze)) (Zat (ZJ hr (by decide)) (Zv (Zk 1 nd) (Zv (Zk 2 nd) ZY)) (hlen:=(Zz (Zz (λ_ _ _ h=>ZZ h))))) (Zh (Z1 (ZB (Zec hr.units) ZhF (Zi (C3 T) θ hr (Zb (Za 2) (Zb (Zi (C4 T) θ hr (Zb (Za 0) (Zb (Za 1) Ze))) Ze))) Zd) (Zh (Zw (Za 1))) ZD)))
  (Zh (Zw Za4)))
theorem C6:Cal P w K mg base "ask_smooth" 102 1 F_ask_smooth:=ZP (N:=["rays","at"]) (T.d.at 5 13) T.gl λ_ _ _ _ _ _ _ nd hr θ=>(Zf (Zl 1 nd (Zi (C5 T) θ hr (Zb (Za 0) Ze))) (Zh (Z1 (ZB Zed ZfP (Za 1) Za4) (Zh (Zcv θ T.ex_NotSmooth T.gl (hr.hd (by decide)) (Zb (Zpw (Zbc Zbt (Zbc (ZmR (Za 1)) (Zbc Zbt Zlt)))) Ze))) ZD)))
theorem C7:Cal P w K mg base "ratio" 102 2 F_ratio:=ZP (N:=["top","bottom","part"]) (T.d.at 6 15) T.gl λ_ _ _ _ _ _ _ nd hr θ=>(Zf (Z1 (Zg3 (Zmv (Zlf (Zdi (Zi (C1 T) θ hr (Zb (Za 0) Ze)))) (ZhA (Zlf (Zdi (Zi (C1 T) θ hr (Zb (Za 1) Ze))))))) (Zh (Zcv θ T.ex_NoRatio T.gl (hr.hd (by decide)) (Zb Zbt Ze))) ZD)
  (Zf (Z1 (ZB (Zaq hr.units) Zby (Za 1) Zd) (Zh (Zcv θ T.ex_NoRatio T.gl (hr.hd (by decide)) (Zb Zbt Ze))) ZD)
  (Zf (Zl 2 nd (Zi (C2 T) θ hr (Zb (Za 0) (Zb (Za 1) Ze)))) (Zf (Z1 (ZB ZeW Ze3 (Za 1) Zd) (Zh (Zl 2 nd (Zba (Za 2)))) ZD) (Zh (Zw (ZC (Zb (ZM (Za 0) (Za 2)) (Zb (ZM (Za 1) (Za 2)) Ze)))))))))
theorem C8:Cal P w K mg base "plus" 103 2 F_plus:=ZP (N:=["one","other"]) (T.d.at 7 16) T.gl λ_ _ _ _ _ _ _ nd hr θ=>(Zh (Zw (Zi (C7 T) θ hr (Zb (ZL (ZE (Zm (Za 0) Zd) (Zm (Za 1) Zd)) (ZE (Zm (Za 1) Zd) (Zm (Za 0) Zd))) (Zb (ZE (Zm (Za 0) Zd) (Zm (Za 1) Zd)) Ze)))))
theorem C9:Cal P w K mg base "minus" 103 2 F_minus:=ZP (N:=["one","other"]) (T.d.at 8 17) T.gl λ_ _ _ _ _ _ _ nd hr θ=>(Zh (Zw (Zi (C7 T) θ hr (Zb (Zad (ZE (Zm (Za 0) Zd) (Zm (Za 1) Zd)) (ZE (Zm (Za 1) Zd) (Zm (Za 0) Zd))) (Zb (ZE (Zm (Za 0) Zd) (Zm (Za 1) Zd)) Ze)))))
theorem C10:Cal P w K mg base "times" 103 2 F_times:=ZP (N:=["one","other"]) (T.d.at 9 18) T.gl λ_ _ _ _ _ _ _ nd hr θ=>(Zh (Zw (Zi (C7 T) θ hr (Zb (ZE (Zm (Za 0) Zd) (Zm (Za 1) Zd)) (Zb (ZE (Zm (Za 0) Zd) (Zm (Za 1) Zd)) Ze)))))
theorem C11:Cal P w K mg base "less" 1 2 F_less:=ZP (N:=["one","other"]) (T.d.at 10 19) T.gl λ_ _ _ _ _ _ _ nd hr θ=>(Zh (Zw (Zhz ZeW Ze3 (ZE (Zm (Za 0) Zd) (Zm (Za 1) Zd)) (ZE (Zm (Za 1) Zd) (Zm (Za 0) Zd)))))
theorem C12:Cal P w K mg base "greatest" 2 1 F_greatest:=ZP (N:=["ones","best","one"]) (T.d.at 11 20) T.gl λ_ _ _ _ _ _ _ nd hr θ=>(Zf (Zl 1 nd (Zm (Za 0) Zd)) (Zf (Zcc θ.own (Za 0) (Zk 2 nd) (Zh (Z1 (Zdi (Zi (C11 T) θ hr (Zb (Za 1) (Zb (Za 2) Ze)))) (Zh (Zl 1 nd (Za 2))) ZD))) (Zh (Zw (Za 1)))))
theorem C13:Cal P w K mg base "common_bottom" 102 1 F_common_bottom:=ZP (N:=["ones","bottom","one"]) (T.d.at 12 21) T.gl λ_ _ _ _ _ _ _ nd hr θ=>(Zf (Zl 1 nd Zd) (Zf (Zcc θ.own (Za 0) (Zk 2 nd) (Zh (Zl 1 nd (ZE (Za 1) (ZM (Zm (Za 2) Zd) (Zi (C2 T) θ hr (Zb (Za 1) (Zb (Zm (Za 2) Zd) Ze)))))))) (Zh (Zw (Za 1)))))
theorem C14:Cal P w K mg base "stretched" 1 2 F_stretched:=ZP (N:=["one","bottom"]) (T.d.at 13 22) T.gl λ_ _ _ _ _ _ _ nd hr θ=>(Zh (Zw (ZE (Zm (Za 0) Zd) (ZM (Za 1) (Zm (Za 0) Zd)))))
theorem C15:Cal P w K mg base "ask_height" 101 2 F_ask_height:=ZP (N:=["rays","height"]) (T.d.at 14 24) T.gl λ_ _ _ _ _ _ _ nd hr θ=>(Zh (Z1 (ZB (Zec hr.units) ZhF (Zt Zr Z3 T.b_len PySem.boot_len (Zb (Za 1) Ze)) (Zt Zr Z3 T.b_len PySem.boot_len (Zb (Za 0) Ze))) (Zh (Zcv θ T.ex_NoHeight T.gl (hr.hd (by decide)) (Zb (Zpw (Zbc Zbt (Zbc (ZmR (Zt Zr Z3 T.b_len PySem.boot_len (Zb (Za 0) Ze))) (Zbc Zbt (Zbc (ZmR (Zt Zr Z3 T.b_len PySem.boot_len (Zb (Za 1) Ze))) (Zbc Zbt Zlt)))))) Ze))) ZD))
theorem C16:Cal P w K mg base "sloped" 104 2 F_sloped:=ZP (N:=["m","ray"]) (T.d.at 15 25) T.gl λ_ _ _ _ _ _ _ nd hr θ=>(Zh (Zw (Zi (C8 T) θ hr (Zb (Zi (C10 T) θ hr (Zb (Zm (Za 0) Zd) (Zb (ZC (Zb (Zm (Za 1) Zd) (Zb Zd Ze))) Ze))) (Zb (Zi (C10 T) θ hr (Zb (Zm (Za 0) Zd) (Zb (ZC (Zb (Zm (Za 1) Zd) (Zb Zd Ze))) Ze))) Ze)))))
theorem C17:Cal P w K mg base "slope_through" 104 2 F_slope_through:=ZP (N:=["rays","height","a","b","c","d","first","second"]) (T.d.at 16 26) T.gl λ_ _ _ _ _ _ _ nd hr θ=>(Zf (ZhK (ZC (Zb (Zm (Za 0) Zd) (Zb (Zm (Za 0) Zd) Ze))) (Zat (ZJ hr (by decide)) (Zv (Zat (ZJ hr (by decide)) (Zv (Zk 2 nd) (Zv (Zk 3 nd) ZY)) (hlen:=(Zz (Zz (λ_ _ _ h=>ZZ h))))) (Zv (Zat (ZJ hr (by decide)) (Zv (Zk 4 nd) (Zv (Zk 5 nd) ZY)) (hlen:=(Zz (Zz (λ_ _ _ h=>ZZ h))))) ZY)) (hlen:=(Zz (Zz (λ_ _ _ h=>ZZ h))))))
  (Zf (ZfS 6 7 (ZJ hr (by decide)) nd (Zb (Zm (Za 1) Zd) (Zb (Zm (Za 1) Zd) Ze)))
  (Zh (Zw (ZC (Zb (Zi (C9 T) θ hr (Zb (Zi (C10 T) θ hr (Zb (Za 6) (Zb (ZC (Zb (Za 5) (Zb Zd Ze))) Ze))) (Zb (Zi (C10 T) θ hr (Zb (Za 7) (Zb (ZC (Zb (Za 3) (Zb Zd Ze))) Ze))) Ze))) (Zb (Zi (C9 T) θ hr (Zb (Zi (C10 T) θ hr (Zb (Za 7) (Zb (ZC (Zb (Za 2) (Zb Zd Ze))) Ze))) (Zb (Zi (C10 T) θ hr (Zb (Za 6) (Zb (ZC (Zb (Za 4) (Zb Zd Ze))) Ze))) Ze))) Ze)))))))
theorem C18:Cal P w K mg base "edge" 105 3 F_edge:=ZP (N:=["rays","height","at","ray","behind","own","low","high","other","its","across","asked","bottom"]) (T.d.at 17 28) T.gl λ_ _ _ _ _ _ _ nd hr θ=>(Zf (ZhK (ZC (Zb (Zm (Za 0) (Za 2)) (Zb (Zi (C4 T) θ hr (Zb (Za 0) (Zb (Za 2) Ze))) Ze))) (Zat (ZJ hr (by decide)) (Zv (Zk 3 nd) (Zv (Zk 4 nd) ZY)) (hlen:=(Zz (Zz (λ_ _ _ h=>ZZ h))))))
  (Zf (Zl 5 nd (Zm (Za 1) (Za 2))) (Zf (Zm2 Za4 (Zk 6 nd) (Zk 7 nd)) (Zf (ZcH θ.own (ZcI (hr.hd (by decide)) T.b_zip (Zb (Za 0) (Zb (Za 1) Ze))) (Zat (ZJ hr (by decide)) (Zv (Zk 8 nd) (Zv (Zk 9 nd) ZY)) (hlen:=(Zz (Zz (λ_ _ _ h=>ZZ h))))) (Zf (Zl 10 nd (Zi (C3 T) θ hr (Zb (Za 3) (Zb (Za 8) Ze))))
  (Zf (Zl 11 nd (Zad (ZE (ZE (Zi (C3 T) θ hr (Zb (Za 8) (Zb (Za 4) Ze))) (Zm (Za 5) Zd)) (Zm (Za 9) Zd)) (ZE (Zm (Za 9) Zd) (Zm (Za 5) Zd)))) (Zf (Zl 12 nd (ZE (ZE (Za 10) (Zm (Za 5) Zd)) (Zm (Za 9) Zd))) (Zf (Z1 (Zg3 (ZbK (ZB (Zaq hr.units) Zby (Za 10) Zd) (ZaV (ZB ZgI ZgO (Za 11) Zd)))) (Zh (Zw (ZS Ze))) ZD) (Zf (Z1 (Zg3 (ZbK (ZB ZgI ZgO (Za 10) Zd) (ZaV (Zg3 (Zmv (ZB ZhH Zmz (Za 6) Za4) (ZhA (Zdi (Zi (C11 T) θ hr (Zb (Za 6) (Zb (ZC (Zb (Za 11) (Zb (Za 12) Ze))) Ze)))))))))) (Zh (Zl 6 nd (ZC (Zb (Za 11) (Zb (Za 12) Ze))))) ZD) (Zh (Z1 (Zg3 (ZbK (ZB ZeW Ze3 (Za 10) Zd) (ZaV (Zg3 (Zmv (ZB ZhH Zmz (Za 7) Za4) (ZhA (Zdi (Zi (C11 T) θ hr (Zb (ZC (Zb (Zba (Za 11)) (Zb (Zba (Za 12)) Ze))) (Zb (Za 7) Ze)))))))))) (Zh (Zl 7 nd (ZC (Zb (Zba (Za 11)) (Zb (Zba (Za 12)) Ze))))) ZD))))))))
  (Zf (Z1 (Zdi (Zi (C11 T) θ hr (Zb (Za 7) (Zb (Za 6) Ze)))) (Zh (Zw (ZS Ze))) ZD) (Zh (Zw (Zaj (ZdZ ["rays","height","at","ray","behind","own","low","high","other","its","across","asked","bottom"] ["end","ray","behind","own"] (dS 28) 1 [3,4,5]) (Zau (ZC (Zb (Za 6) (Zb (Za 7) Ze)))) λ_ _ _ _ _=>⟨(Zk 0 (show bA (["end","ray","behind","own"]:List Str)by decide +kernel)),(c8 ⟨rfl,rfl⟩),(Zi (C17 T) Zbb hr (Zb (ZS (Zb (Za 1) (Zb (Za 2) Ze))) (Zb (ZS (Zb (ZC (Zb (Zba (Zm (Za 3) Zd)) (Zb (Zm (Za 3) Zd) Ze))) (Zb (Zi (C7 T) Zbb hr (Zb (Zm (Za 0) Zd) (Zb (Zm (Za 0) Zd) Ze))) Ze))) Ze)))⟩))))))))
theorem C19:Cal P w K mg base "in_order" 106 1 F_in_order:=ZpP (N:=["points","bottom"]) (T.d.at 18 29) T.lb_in_order T.gl λ_ _ _ _ _ _ _ hc nd hr θ=>(Zf (Zl 1 nd (Zi (C13 T) θ hr (Zb (ZkA (ZdZ ["points","bottom"] ["point","part"] (dS 29) 2 []) (Zau (Za 0)) λ_ _ _ _ _=>⟨(Zk 0 (show bA (["point","part"]:List Str)by decide +kernel)),(c8 ⟨rfl,rfl⟩),(Zau (Za 0)),(Zk 1 (show bA (["point","part"]:List Str)by decide +kernel)),(c8 ⟨rfl,rfl⟩),(Za 1)⟩) Ze)))
  (Zh (Zw (ZkI (k:=102) (ZkL T.lm_m) hc (hr.mono (by decide)) (ZvM (x:="point") ["points","bottom"] ["point","bottom"] (dS 29) [1]) T.b_sorted (Zb (Za 0) Ze) (λ_ _ _ _ _ hr=>(ZC (Zb (Zi (C14 T) ZiI hr (Zb (Zm (Za 0) Zd) (Zb (Za 1) Ze))) (Zb (Zi (C14 T) ZiI hr (Zb (Zm (Za 0) Zd) (Zb (Za 1) Ze))) Ze))))))))
theorem C20:Cal P w K mg base "body" 107 2 F_body:=ZP (N:=["rays","height","met","at","point"]) (T.d.at 19 30) T.gl λ_ _ _ _ _ _ _ nd hr θ=>(Zf (Z6 (Zi (C6 T) θ hr (Zb (Za 0) Ze))) (Zf (Z6 (Zi (C15 T) θ hr (Zb (Za 0) (Zb (Za 1) Ze)))) (Zf (Zl 2 nd ZpB) (Zf (Zaa θ.own T.b_range (Zb (Zt Zr Z3 T.b_len PySem.boot_len (Zb (Za 0) Ze)) Ze) (Zk 3 nd) (Zh (Zcc θ.own (Zi (C18 T) θ hr (Zb (Za 0) (Zb (Za 1) (Zb (Za 3) Ze)))) (Zk 4 nd) (Zh (ZmZ hr.units (Za 2) (Za 4) Zmt))))) (Zh (Zw (Zi (C19 T) θ hr (Zb (Zar (ZgT (hr.hd (by decide))) Zm0 T.b_list ZcF (Zb (Za 2) Ze)) Ze))))))))
theorem C21:Cal P w K mg base "contrary" 104 1 F_contrary:=ZP (N:=["one"]) (T.d.at 20 32) T.gl λ_ _ _ _ _ _ _ nd hr θ=>(Zh (Zw (Zi (C9 T) θ hr (Zb (ZC (Zb Zd (Zb Zd Ze))) (Zb (Za 0) Ze)))))
theorem C22:Cal P w K mg base "height_of" 105 2 F_height_of:=ZP (N:=["rays","points"]) (T.d.at 21 33) T.gl λ_ _ _ _ _ _ _ nd hr θ=>(Zf (Z6 (Zi (C6 T) θ hr (Zb (Za 0) Ze))) (Zh (Zw (Zaj (ZdZ ["rays","points"] ["ray","points"] (dS 33) 1 [1]) (Zau (Za 0)) λB1 _ _ _ _=>⟨(Zk 0 (show bA (["ray","points"]:List Str)by decide +kernel)),(c8 ⟨rfl,rfl⟩),(Zi (C12 T) Zbb hr (Zb (Zaj (Zst B1 ["m","ray"] (dS 33) 1 [0]) (Zau (Za 1)) λ_ _ _ _ _=>⟨(Zk 0 (show bA (["m","ray"]:List Str)by decide +kernel)),(c8 ⟨rfl,rfl⟩),(Zi (C21 T) Zbb hr (Zb (Zi (C16 T) Zbb hr (Zb (Za 0) (Zb (Za 1) Ze))) Ze))⟩) Ze))⟩))))
theorem C23:Cal P w K mg base "balance" 101 2 F_balance:=ZP (N:=["rays","three","one","two","last","often"]) (T.d.at 22 35) T.gl λ_ _ _ _ _ _ _ nd hr θ=>(Zf (Zm6 (ZJ hr (by decide)) (Zaj (ZdZ ["rays","three","one","two","last","often"] ["at","rays"] (dS 35) 1 [0]) (Zau (Za 1)) λ_ _ _ _ _=>⟨(Zk 0 (show bA (["at","rays"]:List Str)by decide +kernel)),(c8 ⟨rfl,rfl⟩),(Zm (Za 1) (Za 0))⟩) (Zv (Zk 2 nd) (Zv (Zk 3 nd) (Zv (Zk 4 nd) ZY))) (hlen:=(Zz (Zz (Zz (λ_ _ _ h=>ZZ h))))))
  (Zf (Zl 5 nd (ZS (Zb (Zi (C3 T) θ hr (Zb (Za 3) (Zb (Za 4) Ze))) (Zb (Zi (C3 T) θ hr (Zb (Za 4) (Zb (Za 2) Ze))) (Zb (Zi (C3 T) θ hr (Zb (Za 2) (Zb (Za 3) Ze))) Ze))))) (Zh (Zw (Zsp (ZB Zse Zsq (Zt (Zh3 (ZJ hr (by decide))) ZmN T.b_min Zlo (Zb (Za 5) Ze)) Zd) (Za 5) Za4)))))
theorem C24:Cal P w K mg base "threes" 1 1 F_threes:=ZP (N:=["many"]) (T.d.at 23 36) T.gl λ_ _ _ _ _ _ _ nd hr θ=>(Zh (Zw (ZkB (ZdZ ["many"] ["i","j","k","many"] (dS 36) 3 [0]) (ZhP T.b_range (Zb (Za 0) Ze)) λ_ _ _ _ _=>⟨(Zk 0 (show bA (["i","j","k","many"]:List Str)by decide +kernel)),(c8 ⟨rfl,rfl⟩),(Zem T.b_range (Zb (ZL (Za 0) Zd) (Zb (Za 3) Ze))),(Zk 1 (show bA (["i","j","k","many"]:List Str)by decide +kernel)),(c8 ⟨rfl,rfl⟩),(Zem T.b_range (Zb (ZL (Za 1) Zd) (Zb (Za 3) Ze))),(Zk 2 (show bA (["i","j","k","many"]:List Str)by decide +kernel)),(c8 ⟨rfl,rfl⟩),(ZC (Zb (Za 0) (Zb (Za 1) (Zb (Za 2) Ze))))⟩)))
theorem C25:Cal P w K mg base "emptying" 103 2 F_emptying:=ZP (N:=["rays","height","bottom","wholes","three","often","weights","many","at"]) (T.d.at 24 37) T.gl λ_ _ _ _ _ _ _ nd hr θ=>(Zf (Zl 2 nd (Zi (C13 T) θ hr (Zb (Za 1) Ze))) (Zf (Zl 3 nd (Zaj (ZdZ ["rays","height","bottom","wholes","three","often","weights","many","at"] ["own","bottom"] (dS 37) 1 [2]) (Zau (Za 1)) λ_ _ _ _ _=>⟨(Zk 0 (show bA (["own","bottom"]:List Str)by decide +kernel)),(c8 ⟨rfl,rfl⟩),(Zi (C14 T) Zbb hr (Zb (Za 0) (Zb (Za 1) Ze)))⟩))
  (Zf (Zcc θ.own (Zi (C24 T) θ hr (Zb (Zt Zr Z3 T.b_len PySem.boot_len (Zb (Za 0) Ze)) Ze)) (Zk 4 nd) (Zf (Zl 5 nd (Zi (C23 T) θ hr (Zb (Za 0) (Zb (Za 4) Ze)))) (Zh (Z1 (Zg3 (ZbK (ZB Zed ZfP (Za 5) Za4) (ZaV (ZB ZeW Ze3 (Zt (Zh6 (ZJ hr (by decide))) ZmO T.b_sum Zps (Zb (Zaj (ZdZ ["rays","height","bottom","wholes","three","often","weights","many","at"] ["many","at","wholes"] (dS 37) 2 [3]) (DLy2.ZcI (hr.hd (by decide)) T.b_zip (Zb (Za 5) (Zb (Za 4) Ze))) λ_ _ _ _ _=>⟨(Zat (ZJ hr (by decide)) (Zv (Zk 0 (show bA (["many","at","wholes"]:List Str)by decide +kernel)) (Zv (Zk 1 (show bA (["many","at","wholes"]:List Str)by decide +kernel)) ZY)) (hlen:=(Zz (Zz (λ_ _ _ h=>ZZ h))))),(c8 ⟨rfl,rfl⟩),(ZE (Za 0) (Zm (Za 2) (Za 1)))⟩) Ze)) Zd)))) (Zf (ZdB 6 nd (ZdZ ["rays","height","bottom","wholes","three","often","weights","many","at"] ["ray"] (dS 37) 1 []) (Zau (Za 0)) λ_ _ _ _ _=>⟨(Zk 0 (show bA (["ray"]:List Str)by decide +kernel)),(c8 ⟨rfl,rfl⟩),Zd⟩)
  (Zf (ZcH θ.own (DLy2.ZcI (hr.hd (by decide)) T.b_zip (Zb (Za 5) (Zb (Za 4) Ze))) (Zat (ZJ hr (by decide)) (Zv (Zk 7 nd) (Zv (Zk 8 nd) ZY)) (hlen:=(Zz (Zz (λ_ _ _ h=>ZZ h))))) (Zh (ZfT (Za 6) (Za 8) (Za 7))))
  (Zh (Zw (Za 6))))) ZD))))
  (Zh (Zw Za4)))))
theorem C26:Cal P w K mg base "parting" 108 2 F_parting:=ZP (N:=["rays","height","points","first"]) (T.d.at 25 38) T.gl λ_ _ _ _ _ _ _ nd hr θ=>(Zf (Zl 2 nd (Zi (C20 T) θ hr (Zb (Za 0) (Zb (Za 1) Ze)))) (Zf (Z1 (ZB (Zaq hr.units) Zby (Za 2) (ZS Ze)) (Zh (Zw (ZC (Zb Zbt (Zb (Zi (C25 T) θ hr (Zb (Za 0) (Zb (Za 1) Ze))) Ze))))) ZD) (Zf (Zl 3 nd (Zi (C22 T) θ hr (Zb (Za 0) (Zb (Za 2) Ze)))) (Zh (Zw (ZC (Zb Zbt (Zb (Za 3) (Zb (Zaj (ZdZ (n:=0) ["rays","height","points","first"] ["own","part"] (dS 38) 2 []) (ZcI (hr.hd (by decide)) T.b_zip (Zb (Za 1) (Zb (Za 3) Ze))) λ_ _ _ _ _=>⟨(Zat (ZJ hr (by decide)) (Zv (Zk 0 (show bA (["own","part"]:List Str)by decide +kernel)) (Zv (Zk 1 (show bA (["own","part"]:List Str)by decide +kernel)) ZY)) (hlen:=(Zz (Zz (λ_ _ _ h=>ZZ h))))),(c8 ⟨rfl,rfl⟩),(Zi (C9 T) Zbb hr (Zb (Za 0) (Zb (Za 1) Ze)))⟩) Ze)))))))))
theorem C27:Cal P w K mg base "_law_cell_at" 1 2 F_law_cell_at:=ZP (N:=["_law_script","_law_k","_law_cell","_law_one"]) (T.d.at 26 40) T.gl λ_ _ _ _ _ _ _ nd hr θ=>(Zf (Zl 2 nd Zd) (Zf (Z1 (ZB ZeW Ze3 (Za 1) (Zt Zr Z3 T.b_len PySem.boot_len (Zb (Za 0) Ze))) (Zh (Zl 2 nd (ZN (Zm (Za 0) (Za 1)) (ZcE Zd Zd)))) ZD) (Zf (Z1 (ZB ZeW Ze3 (Za 2) (ZcE Zd Zd)) (Zf (Zl 3 nd (ZN (ZE (ZL (Za 2) (ZE Zd (ZL (Za 1) Zd))) Zd) (ZcE Zd Zd))) (Zh (Zl 2 nd (ZN (ZM (ZE (Za 3) (Za 3)) (ZcE Zd Zd)) (ZcE Zd Zd))))) ZD) (Zh (Zw (Za 2))))))
theorem C28:Cal P w K mg base "_law_cross" 1 2 F_law_cross:=ZP (N:=["_law_one","_law_other"]) (T.d.at 27 41) T.gl λ_ _ _ _ _ _ _ nd hr θ=>(Zh (Zw (Zad (ZE (Zm (Za 0) Zd) (Zm (Za 1) Zd)) (ZE (Zm (Za 0) Zd) (Zm (Za 1) Zd)))))
theorem C29:Cal P w K mg base "_law_turn" 101 2 F_law_turn:=ZP (N:=["_law_rays","_law_cell","_law_k","_law_much","_law_way","_law_new","_law_x","_law_y"]) (T.d.at 28 42) T.gl λ_ _ _ _ _ _ _ nd hr θ=>(Zf (Zaa θ.own T.b_range (Zb Zd Ze) (Zk 2 nd) (Zf (Zl 3 nd (Zad (ZN (ZM (Za 1) Zd) Zd) Zd)) (Zf (Z1 (ZB (Zaq hr.units) Zby (ZN (ZM (Za 1) Zd) Zd) Zd) (Zh (Zl 3 nd (Zad (ZN (ZM (Za 1) Zd) Zd) Zd))) ZD) (Zf (Zl 4 nd (ZN (Za 1) Zd)) (Zf (Zl 1 nd (ZM (Za 1) Zd)) (Zf (Zl 5 nd (ZS Ze)) (Zf (Zcc θ.own (Za 0) (Zat (ZJ hr (by decide)) (Zv (Zk 6 nd) (Zv (Zk 7 nd) ZY)) (hlen:=(Zz (Zz (λ_ _ _ h=>ZZ h))))) (Zh (Z1 (ZB (Zaq hr.units) Zby (Za 4) Zd) (Zh (Z6 (ZV (Za 5) (ZC (Zb (ZL (Za 6) (ZE (Za 3) (Za 7))) (Zb (Za 7) Ze)))))) (Zh (Z1 (ZB (Zaq hr.units) Zby (Za 4) Zd) (Zh (Z6 (ZV (Za 5) (ZC (Zb (Za 6) (Zb (ZL (Za 7) (ZE (Za 3) (Za 6))) Ze)))))) (Zh (Z1 (ZB (Zaq hr.units) Zby (Za 4) Zd) (Zh (Z6 (ZV (Za 5) (ZC (Zb (Zad Zd (Za 7)) (Zb (Za 6) Ze)))))) (Zh (Z6 (ZV (Za 5) (ZC (Zb (Za 6) (Zb (Za 7) Ze)))))))))))))
  (Zh (Z1 (ZB Zma Zmx (Zt (Zh2 (ZJ hr (by decide))) ZmM T.b_max Zln (Zb (ZL (Zaj (ZdZ (n:=0) ["_law_rays","_law_cell","_law_k","_law_much","_law_way","_law_new","_law_x","_law_y"] ["_law_x","_law_y"] (dS 42) 2 []) (Zau (Za 5)) λ_ _ _ _ _=>⟨(Zat (ZJ hr (by decide)) (Zv (Zk 0 (show bA (["_law_x","_law_y"]:List Str)by decide +kernel)) (Zv (Zk 1 (show bA (["_law_x","_law_y"]:List Str)by decide +kernel)) ZY)) (hlen:=(Zz (Zz (λ_ _ _ h=>ZZ h))))),(c8 ⟨rfl,rfl⟩),(Zt Zak ZbM T.b_abs ZbN (Zb (Za 0) Ze))⟩) (Zaj (ZdZ (n:=0) ["_law_rays","_law_cell","_law_k","_law_much","_law_way","_law_new","_law_x","_law_y"] ["_law_x","_law_y"] (dS 42) 2 []) (Zau (Za 5)) λ_ _ _ _ _=>⟨(Zat (ZJ hr (by decide)) (Zv (Zk 0 (show bA (["_law_x","_law_y"]:List Str)by decide +kernel)) (Zv (Zk 1 (show bA (["_law_x","_law_y"]:List Str)by decide +kernel)) ZY)) (hlen:=(Zz (Zz (λ_ _ _ h=>ZZ h))))),(c8 ⟨rfl,rfl⟩),(Zt Zak ZbM T.b_abs ZbN (Zb (Za 1) Ze))⟩)) Ze)) Zd) (Zh (Zl 0 nd (Za 5))) ZD)))))))))
  (Zh (Zw (Za 0))))
theorem C30:Cal P w K mg base "_law_smooth" 102 2 F_law_smooth:=ZP (N:=["_law_cell","_law_most","_law_count","_law_rays","_law_far","_law_k","_law_at","_law_one","_law_other","_law_more"]) (T.d.at 29 43) T.gl λ_ _ _ _ _ _ _ nd hr θ=>(Zf (Zl 2 nd (ZL Zd (ZN (Za 0) (Zad (Za 1) Zd)))) (Zf (Zl 0 nd (ZM (Za 0) (Zad (Za 1) Zd))) (Zf (Zl 3 nd (ZS (Zb (ZC (Zb Zd (Zb Zd Ze))) (Zb (ZC (Zb Zd (Zb Zd Ze))) (Zb (ZC (Zb (Zba Zd) (Zb (Zba Zd) Ze))) Ze))))) (Zf (Z1 (Zg3 (ZbK (ZB ZgI ZgO (Za 2) Zd) (ZaV (ZB ZgI ZgO (ZN (Za 0) Zd) Zd)))) (Zf (Zl 4 nd (ZN (ZM (Za 0) Zd) (Zm (ZS (Zb Zd (Zb Zd (Zb Zd (Zb Zd Ze))))) (ZN (ZM (Za 0) Zd) Zd)))) (Zh (Zl 3 nd (ZS (Zb (ZC (Zb Zd (Zb Zd Ze))) (Zb (ZC (Zb Zd (Zb Zd Ze))) (Zb (ZC (Zb (Zba Zd) (Zb (Za 4) Ze))) (Zb (ZC (Zb Zd (Zb (Zba Zd) Ze))) Ze)))))))) ZD) (Zf (Zl 0 nd (ZM (Za 0) Zd)) (Zf (Zaa θ.own T.b_range (Zb (Zad (Za 2) (Zt Zr Z3 T.b_len PySem.boot_len (Zb (Za 3) Ze))) Ze) (Zk 5 nd) (Zf (Zl 6 nd (ZN (Za 0) (Zt Zr Z3 T.b_len PySem.boot_len (Zb (Za 3) Ze)))) (Zf (Zl 0 nd (ZM (Za 0) Zd)) (Zf (Zl 7 nd (Zm (Za 3) (Za 6))) (Zf (Zl 8 nd (Zm (Za 3) (ZN (ZL (Za 6) Zd) (Zt Zr Z3 T.b_len PySem.boot_len (Zb (Za 3) Ze))))) (Zf (Zl 9 nd (ZC (Zb (ZL (Zm (Za 7) Zd) (Zm (Za 8) Zd)) (Zb (ZL (Zm (Za 7) Zd) (Zm (Za 8) Zd)) Ze)))) (Zh (Z1 (Zg3 (ZbK (ZB Zma Zmx (Zt Zak ZbM T.b_abs ZbN (Zb (Zm (Za 9) Zd) Ze)) Zd) (ZaV (ZB Zma Zmx (Zt Zak ZbM T.b_abs ZbN (Zb (Zm (Za 9) Zd) Ze)) Zd)))) (Zh (Zl 3 nd (ZL (ZL (Zkm (Za 3) Zkk (Zkl (ZL (Za 6) Zd))) (ZS (Zb (Za 9) Ze))) (Zkm (Za 3) (Zkl (ZL (Za 6) Zd)) Zkk)))) ZD)))))))) (Zf (Zl 3 nd (Zi (C29 T) θ hr (Zb (Za 3) (Zb (Za 0) Ze)))) (Zf (Zl 6 nd (ZN (ZM (Za 0) (ZcE Zd Zd)) (Zt Zr Z3 T.b_len PySem.boot_len (Zb (Za 3) Ze)))) (Zh (Zw (ZL (Zkm (Za 3) (Zkl (Za 6)) Zkk) (Zkm (Za 3) Zkk (Zkl (Za 6))))))))))))))
theorem C31:Cal P w K mg base "_law_ratio" 101 2 F_law_ratio:=ZP (N:=["_law_top","_law_bottom","_law_one","_law_other"]) (T.d.at 30 44) T.gl λ_ _ _ _ _ _ _ nd hr θ=>(Zf (Zl 2 nd (Zt Zak ZbM T.b_abs ZbN (Zb (Za 0) Ze))) (Zf (Zl 3 nd (Za 1)) (Zf (ZfV θ.own (ZB ZgI ZgO (Za 3) Zd) (Zh (ZfS 2 3 (ZJ hr (by decide)) nd (Zb (Za 3) (Zb (ZN (Za 2) (Za 3)) Ze)))))
  (Zh (Zw (ZC (Zb (ZM (Za 0) (Za 2)) (Zb (ZM (Za 1) (Za 2)) Ze))))))))
theorem C32:Cal P w K mg base "_law_sum" 102 2 F_law_sum:=ZP (N:=["_law_one","_law_other"]) (T.d.at 31 45) T.gl λ_ _ _ _ _ _ _ nd hr θ=>(Zh (Zw (Zi (C31 T) θ hr (Zb (ZL (ZE (Zm (Za 0) Zd) (Zm (Za 1) Zd)) (ZE (Zm (Za 1) Zd) (Zm (Za 0) Zd))) (Zb (ZE (Zm (Za 0) Zd) (Zm (Za 1) Zd)) Ze)))))
theorem C33:Cal P w K mg base "_law_times" 102 2 F_law_times:=ZP (N:=["_law_many","_law_one"]) (T.d.at 32 46) T.gl λ_ _ _ _ _ _ _ nd hr θ=>(Zh (Zw (Zi (C31 T) θ hr (Zb (ZE (Za 0) (Zm (Za 1) Zd)) (Zb (Zm (Za 1) Zd) Ze)))))
theorem C34:Cal P w K mg base "_law_height" 102 3 F_law_height:=ZP (N:=["_law_cell","_law_rays","_law_far","_law_kind","_law_height_here","_law_ray","_law_top","_law_bottom"]) (T.d.at 33 47) T.gl λ_ _ _ _ _ _ _ nd hr θ=>(Zf (Zl 3 nd (ZN (Za 0) Zd)) (Zf (Zl 0 nd (ZM (Za 0) Zd)) (Zf (Zl 4 nd (ZS Ze)) (Zf (Zcc θ.own (Za 1) (Zk 5 nd) (Zf (Zl 6 nd (Zad (ZN (Za 0) (ZL (ZL (Za 2) (ZM (Za 2) Zd)) Zd)) (ZM (Za 2) Zd))) (Zf (Zl 7 nd (Zm (ZS (Zb Zd (Zb Zd (Zb (ZL Zd (ZN (ZM (Za 0) Zd) Zd)) (Zb Zd Ze))))) (Za 3))) (Zf (Zl 0 nd (ZM (Za 0) Zd)) (Zf (Z1 (Zg3 (ZbK (ZB (Zaq hr.units) Zby (Za 3) Zd) (ZaV (ZB ZgI ZgO (ZN (Za 0) Zd) Zd)))) (Zh (Zl 6 nd (ZM (Za 2) Zd))) ZD) (Zh (Z6 (ZV (Za 4) (Zi (C31 T) θ hr (Zb (Za 6) (Zb (Za 7) Ze))))))))))) (Zh (Zw (Za 4)))))))
theorem C35:Cal P w K mg base "_law_bends" 103 2 F_law_bends:=ZP (N:=["_law_rays","_law_height_here","_law_many","_law_found","_law_k","_law_behind","_law_own"]) (T.d.at 34 48) T.gl λ_ _ _ _ _ _ _ nd hr θ=>(Zf (Zl 2 nd (Zt Zr Z3 T.b_len PySem.boot_len (Zb (Za 0) Ze))) (Zf (Zl 3 nd (ZS Ze)) (Zf (Zaa θ.own T.b_range (Zb (Za 2) Ze) (Zk 4 nd) (Zf (Zl 5 nd (ZN (ZL (Za 4) Zd) (Za 2))) (Zf (Zl 6 nd (Zi (C33 T) θ hr (Zb (Zad Zd (Zi (C28 T) θ hr (Zb (Zm (Za 0) (Zad (Za 4) Zd)) (Zb (Zm (Za 0) (Za 5)) Ze)))) (Zb (Zm (Za 1) (Za 4)) Ze)))) (Zh (Z6 (ZV (Za 3) (Zi (C32 T) θ hr (Zb (Za 6) (Zb (Zi (C32 T) θ hr (Zb (Zm (Za 1) (Zad (Za 4) Zd)) (Zb (Zm (Za 1) (Za 5)) Ze))) Ze))))))))) (Zh (Zw (Za 3))))))
theorem C36:Cal P w K mg base "_law_sized" 103 3 F_law_sized:=ZP (N:=["_law_script","_law_place","_law_far","_law_cell","_law_rays"]) (T.d.at 35 49) T.gl λ_ _ _ _ _ _ _ nd hr θ=>(Zf (Zl 3 nd (Zi (C27 T) θ hr (Zb (Za 0) (Zb (Za 1) Ze)))) (Zf (Zl 4 nd (Zi (C30 T) θ hr (Zb (ZM (Za 3) Zd) (Zb (Zm (ZS (Zb Zd (Zb Zd (Zb Zd (Zb Zd (Zb Zd (Zb Zd (Zb Zd (Zb Zd Ze))))))))) (ZN (Za 3) Zd)) Ze)))) (Zf (Z1 (ZB (Zaq hr.units) Zby (ZN (ZM (Za 3) Zd) Zd) Zd) (Zf (Zl 4 nd (Zi (C30 T) θ hr (Zb (ZM (Za 3) Zd) (Zb Zd Ze)))) (Zh (Zl 2 nd (ZcE Zd Zd)))) ZD) (Zh (Zw (ZC (Zb (Za 4) (Zb (Zi (C34 T) θ hr (Zb (Zi (C27 T) θ hr (Zb (Za 0) (Zb (ZL (Za 1) Zd) Ze))) (Zb (Za 4) (Zb (Za 2) Ze)))) Ze))))))))
theorem C37:Cal P w K mg base "_law_solved" 103 2 F_law_solved:=ZP (N:=["_law_table_here","_law_wished","_law_rows","_law_many","_law_k","_law_head","_law_side","_law_top","_law_bottom","_law_i","_law_by","_law_line","_law_x","_law_y","_law_part"]) (T.d.at 36 50) T.gl λ_ _ _ _ _ _ _ nd hr θ=>(Zf (ZdB 2 nd (ZdZ ["_law_table_here","_law_wished","_law_rows","_law_many","_law_k","_law_head","_law_side","_law_top","_law_bottom","_law_i","_law_by","_law_line","_law_x","_law_y","_law_part"] ["_law_line","_law_want"] (dS 50) 2 []) (ZcI (hr.hd (by decide)) T.b_zip (Zb (Za 0) (Zb (Za 1) Ze))) λ_ _ _ _ _=>⟨(Zat (ZJ hr (by decide)) (Zv (Zk 0 (show bA (["_law_line","_law_want"]:List Str)by decide +kernel)) (Zv (Zk 1 (show bA (["_law_line","_law_want"]:List Str)by decide +kernel)) ZY)) (hlen:=(Zz (Zz (λ_ _ _ h=>ZZ h))))),(c8 ⟨rfl,rfl⟩),(ZL (Zar ZaD Zdw T.b_list ZcF (Zb (Za 0) Ze)) (ZS (Zb (Za 1) Ze)))⟩)
  (Zf (Zl 3 nd (Zt Zr Z3 T.b_len PySem.boot_len (Zb (Za 2) Ze))) (Zf (Zaa θ.own T.b_range (Zb (Za 3) Ze) (Zk 4 nd) (Zf (Zl 5 nd (Zm (Zm (Za 2) (Za 4)) (Za 4))) (Zf (Z1 (ZB (Zaq hr.units) Zby (Zm (Za 5) Zd) Zd) (Zh (Zw Za4)) ZD) (Zf (Zl 6 nd (ZM (Zm (Za 5) Zd) (Zt Zak ZbM T.b_abs ZbN (Zb (Zm (Za 5) Zd) Ze)))) (Zf (Zl 7 nd (ZE (Za 6) (Zm (Za 5) Zd))) (Zf (Zl 8 nd (Zt Zak ZbM T.b_abs ZbN (Zb (Zm (Za 5) Zd) Ze))) (Zf (ZfT (Za 2) (Za 4) (Zaj (ZdZ ["_law_table_here","_law_wished","_law_rows","_law_many","_law_k","_law_head","_law_side","_law_top","_law_bottom","_law_i","_law_by","_law_line","_law_x","_law_y","_law_part"] ["_law_x","_law_top","_law_bottom"] (dS 50) 1 [7,8]) (Zau (Zm (Za 2) (Za 4))) λ_ _ _ _ _=>⟨(Zk 0 (show bA (["_law_x","_law_top","_law_bottom"]:List Str)by decide +kernel)),(c8 ⟨rfl,rfl⟩),(Zi (C31 T) Zbb hr (Zb (ZE (Za 1) (Zm (Za 0) Zd)) (Zb (ZE (Za 2) (Zm (Za 0) Zd)) Ze)))⟩))
  (Zh (Zaa θ.own T.b_range (Zb (Za 3) Ze) (Zk 9 nd) (Zh (Z1 (ZB (Zec hr.units) ZhF (Za 9) (Za 4)) (Zf (Zl 10 nd (Zm (Zm (Za 2) (Za 9)) (Za 4))) (Zf (Zl 11 nd (ZS Ze)) (Zf (ZcH θ.own (ZcI (hr.hd (by decide)) T.b_zip (Zb (Zm (Za 2) (Za 9)) (Zb (Zm (Za 2) (Za 4)) Ze))) (Zat (ZJ hr (by decide)) (Zv (Zk 12 nd) (Zv (Zk 13 nd) ZY)) (hlen:=(Zz (Zz (λ_ _ _ h=>ZZ h))))) (Zf (Zl 14 nd (Zi (C31 T) θ hr (Zb (Zad Zd (ZE (Zm (Za 10) Zd) (Zm (Za 13) Zd))) (Zb (ZE (Zm (Za 10) Zd) (Zm (Za 13) Zd)) Ze))))
  (Zh (Z6 (ZV (Za 11) (Zi (C32 T) θ hr (Zb (Za 12) (Zb (Za 14) Ze))))))))
  (Zh (ZfT (Za 2) (Za 9) (Za 11)))))) ZD)))))))))))
  (Zh (Zw (Zaj (ZdZ ["_law_table_here","_law_wished","_law_rows","_law_many","_law_k","_law_head","_law_side","_law_top","_law_bottom","_law_i","_law_by","_law_line","_law_x","_law_y","_law_part"] ["_law_line","_law_many"] (dS 50) 1 [3]) (Zau (Za 2)) λ_ _ _ _ _=>⟨(Zk 0 (show bA (["_law_line","_law_many"]:List Str)by decide +kernel)),(c8 ⟨rfl,rfl⟩),(Zm (Za 0) (Za 1))⟩))))))
theorem C38:Cal P w K mg base "_law_table" 2 2 F_law_table:=ZP (N:=["_law_rays","_law_places","_law_many","_law_table_here","_law_i","_law_line","_law_j","_law_own"]) (T.d.at 37 51) T.gl λ_ _ _ _ _ _ _ nd hr θ=>(Zf (Zl 2 nd (Zt Zr Z3 T.b_len PySem.boot_len (Zb (Za 0) Ze))) (Zf (Zl 3 nd (ZS Ze)) (Zf (Zcc θ.own (Za 1) (Zk 4 nd) (Zf (Zl 5 nd (ZS Ze)) (Zf (Zcc θ.own (Za 1) (Zk 6 nd) (Zf (Zl 7 nd (ZL (Zar Zd3 Zli T.b_int ZhN (Zb (Zhz (Zaq hr.units) Zby (ZN (ZL (Za 4) Zd) (Za 2)) (Za 6)) Ze)) (Zar Zd3 Zli T.b_int ZhN (Zb (Zhz (Zaq hr.units) Zby (ZN (ZL (Za 6) Zd) (Za 2)) (Za 4)) Ze)))) (Zf (Z1 (ZB (Zaq hr.units) Zby (Za 4) (Za 6)) (Zh (Zl 7 nd (Zad Zd (Zi (C28 T) θ hr (Zb (Zm (Za 0) (Zad (Za 4) Zd)) (Zb (Zm (Za 0) (ZN (ZL (Za 4) Zd) (Za 2))) Ze)))))) ZD) (Zh (Z6 (ZV (Za 5) (ZC (Zb (Za 7) (Zb Zd Ze))))))))) (Zh (Z6 (ZV (Za 3) (Za 5))))))) (Zh (Zw (Za 3))))))
theorem C39:Cal P w K mg base "_law_stuck" 104 2 F_law_stuck:=ZP (N:=["_law_rays","_law_height_here","_law_places","_law_stuck_here","_law_bent","_law_all_bends","_law_turn_here","_law_more","_law_k","_law_some","_law_rest"]) (T.d.at 38 52) T.gl λ_ _ _ _ _ _ _ nd hr θ=>(Zf (Zl 2 nd (ZS Ze)) (Zf (ZdB 3 nd (ZdZ ["_law_rays","_law_height_here","_law_places","_law_stuck_here","_law_bent","_law_all_bends","_law_turn_here","_law_more","_law_k","_law_some","_law_rest"] ["_law_ray"] (dS 52) 1 []) (Zau (Za 0)) λ_ _ _ _ _=>⟨(Zk 0 (show bA (["_law_ray"]:List Str)by decide +kernel)),(c8 ⟨rfl,rfl⟩),(ZC (Zb Zd (Zb Zd Ze)))⟩)
  (Zf (Zl 4 nd (Zi (C35 T) θ hr (Zb (Za 0) (Zb (Za 1) Ze)))) (Zf (Zl 5 nd (Zar ZaD Zdw T.b_list ZcF (Zb (Za 4) Ze))) (Zf (Zaa θ.own T.b_range (Zb (Zt Zr Z3 T.b_len PySem.boot_len (Zb (Za 0) Ze)) Ze) (Zk 6 nd) (Zf (Zl 7 nd (ZS Ze)) (Zf (Zaa θ.own T.b_range (Zb (Zt Zr Z3 T.b_len PySem.boot_len (Zb (Za 0) Ze)) Ze) (Zk 8 nd) (Zh (Z1 (Zg3 (ZbK (ZB ZeW Ze3 (Zm (Zm (Za 4) (Za 8)) Zd) Zd) (ZaV (ZB (Zh0 hr.units) Zh1 (Za 8) (Za 2))))) (Zh (Z6 (ZV (Za 7) (Za 8)))) ZD))) (Zf (Z1 (ZB (Zaq hr.units) Zby (Za 7) (ZS Ze)) (Zh (Zw (Za 3))) ZD) (Zf (Zl 2 nd (Zt Zex ZgV T.b_sorted Zew (Zb (ZL (Za 2) (Za 7)) Ze))) (Zf (Zl 9 nd (Zi (C37 T) θ hr (Zb (Zi (C38 T) θ hr (Zb (Za 0) (Zb (Za 2) Ze))) (Zb (Zaj (ZdZ ["_law_rays","_law_height_here","_law_places","_law_stuck_here","_law_bent","_law_all_bends","_law_turn_here","_law_more","_law_k","_law_some","_law_rest"] ["_law_k","_law_all_bends"] (dS 52) 1 [5]) (Zau (Za 2)) λ_ _ _ _ _=>⟨(Zk 0 (show bA (["_law_k","_law_all_bends"]:List Str)by decide +kernel)),(c8 ⟨rfl,rfl⟩),(Zm (Za 1) (Za 0))⟩) Ze))))
  (Zf (Z1 (ZB ZhH Zmz (Za 9) Za4) (Zh (Zw Za4)) ZD) (Zf (ZdB 3 nd (ZdZ ["_law_rays","_law_height_here","_law_places","_law_stuck_here","_law_bent","_law_all_bends","_law_turn_here","_law_more","_law_k","_law_some","_law_rest"] ["_law_ray"] (dS 52) 1 []) (Zau (Za 0)) λ_ _ _ _ _=>⟨(Zk 0 (show bA (["_law_ray"]:List Str)by decide +kernel)),(c8 ⟨rfl,rfl⟩),(ZC (Zb Zd (Zb Zd Ze)))⟩)
  (Zf (Zaa θ.own T.b_range (Zb (Zt Zr Z3 T.b_len PySem.boot_len (Zb (Za 2) Ze)) Ze) (Zk 8 nd) (Zh (ZfT (Za 3) (Zm (Za 2) (Za 8)) (Zm (Za 9) (Za 8))))) (Zf (Zl 10 nd (ZS Ze)) (Zf (Zaa θ.own T.b_range (Zb (Zt Zr Z3 T.b_len PySem.boot_len (Zb (Za 0) Ze)) Ze) (Zk 8 nd) (Zh (Z6 (ZV (Za 10) (Zi (C32 T) θ hr (Zb (Zm (Za 1) (Za 8)) (Zb (Zi (C33 T) θ hr (Zb (Zba Zd) (Zb (Zm (Za 3) (Za 8)) Ze))) Ze))))))) (Zh (Zl 4 nd (Zi (C35 T) θ hr (Zb (Za 0) (Zb (Za 10) Ze))))))))))))))))
  (Zh (Zw Za4)))))))
theorem Zry{f:Addr}{fd:hX}(F:Fun K "law" "law" (top 53) f fd):FnOk P w K mg base (CXE P w) 109 f fd ["_law_script"] (spD K Zfz):=
 have nd:bA (["_law_script","_law_place","_law_rays","_law_height_here","_law_found"]:List Str):=by decide +kernel
 Zpl (N:=["_law_script","_law_place","_law_rays","_law_height_here","_law_found"]) F ⟨rfl,rfl,rfl,nd,rfl,by decide +kernel,by decide +kernel⟩ rfl rfl λ_ _ _ _ _ _ hr θ=>(Zf (ZcH θ.own (Ziu T.b_range (Zb Zd (Zb (Zt (Zhk (ZJ hr (by decide))) Zph T.b_max Zln (Zb Zd (Zb (Zt (Zhl (ZJ hr (by decide))) Zpi T.b_min Zlo (Zb (Zt Zr Z3 T.b_len PySem.boot_len (Zb (Za 0) Ze)) (Zb Zd Ze))) Ze))) (Zb Zd Ze)))) (Zk 1 nd) (Zf (ZhK (Zi (C36 T) θ hr (Zb (Za 0) (Zb (Za 1) (Zb (Zm (ZS (Zb Zd (Zb Zd (Zb Zd (Zb Zd Ze))))) (ZN (ZM (Zi (C27 T) θ hr (Zb (Za 0) (Zb (Za 1) Ze))) Zd) Zd)) Ze)))) (Zat (ZJ hr (by decide)) (Zv (Zk 2 nd) (Zv (Zk 3 nd) ZY)) (hlen:=(Zz (Zz (λ_ _ _ h=>ZZ h))))))
  (Zf (Zl 4 nd (Zi (C26 T) θ hr (Zb (Zar ZaD Zdw T.b_list ZcF (Zb (Za 2) Ze)) (Zb (Zar ZaD Zdw T.b_list ZcF (Zb (Za 3) Ze)) Ze)))) (Zh (Z1 (Zg3 (ZbK (ZB (Zaq hr.units) Zby (Zm (Za 4) Zd) Zbt) (ZaV (ZB (Zec hr.units) ZhF (Zm (Za 4) Zd) (Zi (C39 T) θ hr (Zb (Za 2) (Zb (Za 3) Ze))))))) (Zh (Zw Zmt)) ZD)))))
  (Zh (Zw Zmt)))
end
theorem fin{l:PySem.W.OpenLaw}(X:K.In h)(G:h.Ns aM mg)(hfa:mg "law"=some (.ref fa))(T:Txt K mg):∃fd:hX,(∀(s:aH)(v:aa),kZ s fd ⟨[v],[]⟩ [("_law_script",v)])/\∀base:Heap,K.In base->base.Ns aM mg->FnOk l.prog w K mg base (CXE l.prog w) 109 fa fd ["_law_script"] (spD K Zfz):=
 Zpm (l:=l) (w:=w) X G hfa (T.d.at 39 53) (λ_ _ _ _ _ _ _=>rfl) λbase fd F=>Zry (base:=base) T F
end K57
section
set_option maxHeartbeats 400000
namespace K57
open L2 DL
open CV CN CU CS
open CR (rt Sz)
open CH (rts Zu ZI)
open CD (pts ZX Zbi hts)
open Rb BD BL PT GA
section
variable {M:Sto}{n m k i j o:Nat}{rs:List Pt}{hs:List Rat}{B:W1}{x:Rat}
theorem ZjE{fs:List Rat}(h:j<fs.length):cq (fs++[g]) j=cq fs j:=by
 rw[Z4 (by simp;lia),Z4 h,fZ h]
theorem ZjF:cq (fs++[g]) (fs.length:Nat)=g:=by
 rw[Z4 (by simp)]
 simp
theorem ZgC(h:M[n]?=some (.lst (prs rs)))(hne:rs≠[])(hb:Nr 200 rs)(hl:rs.length<=1000)(h':M[m]?=some (.lst (rts fx)))(e:fx.length=rs.length)(hz:∀x∈fx,Sz l x)(hk:l<=1000)(q:∀bs,bs.length=rs.length->(∀i:Nat,i<rs.length->cq bs i=bnd rs fx i)->Q (.ref M.length) (M++[.lst (rts bs)])):wO (F_law_bends [.ref n,.ref m] M) Q E:=by
 have hn:=Zo h;have hm:=Zo h';have l0:0<rs.length:=aV.mpr hne;simp! -implicitDefEqProofs [F_law_bends,Zc8,h];refine⟨⋯,?_⟩
 rw[be];refine Zbu (n:=rs.length) (lo:=0) (λi ρ M'=>∃bs x4 x5 x6,ρ=[some (.ref n),some (.ref m),some (.int rs.length),some (.ref M.length),x4,x5,x6]/\M'=M++[.lst (rts bs)]/\bs.length=i/\∀j:Nat,j<i->cq bs j=bnd rs fx j) ⟨[],_,_,_,rfl,rfl,rfl,λj hj=>⋯⟩ ?_ ?_
 .rintro i ρ M1 hi ⟨bs,x4,x5,x6,rfl,rfl,len,eqs⟩;rw[show(0:Int)+(i:Nat)=i by lia]
  have g1:(M++[SO.lst (rts bs)])[n]?=some (.lst (prs rs)):=Kp.app.get h;have g2:(M++[SO.lst (rts bs)])[m]?=some (.lst (rts fx)):=Kp.app.get h';have a0:=bF ((i:Int)+1) (show(rs.length:Int)≠0 by lia)
  have a1:=aX ((i:Int)+1) (show(0:Int)<rs.length by lia)
  have b1:=hb _ (ZQ (i:=(i:Int)-1) hne);have b2:=hb _ (ZQ (i:=(i:Int)+1) hne);have xl:=ZrZ b1 b2;have t1:(T rs i).natAbs<2^17:=by unfold T;lia
  have s0:=Zbh (i:=(i:Int)) hz ⋯
  have s1:=Zbh (i:=(i:Int)-1) hz ⋯
  have s2:=Zbh (i:=(i:Int)+1) hz ⋯
  have cm:cy rs (((i:Int)+1)%(rs.length:Int))=cy rs ((i:Int)+1):=Zbe;have cm2:cq fx (((i:Int)+1)%(rs.length:Int))=cq fx ((i:Int)+1):=by rw[<-e,Zch]
  simp! -implicitDefEqProofs [Zbx,g1,ZcN];rw[cm];simp! -implicitDefEqProofs [CC.Zi4 (a:=(cy rs ((i:Int)-1)).1) (b:=(cy rs ((i:Int)-1)).2) (c:=(cy rs ((i:Int)+1)).1) (d:=(cy rs ((i:Int)+1)).2) ⋯ ⋯,g2,Zbv]
  rw[show(0-((cy rs ((i:Int)-1)).1*(cy rs ((i:Int)+1)).2-(cy rs ((i:Int)-1)).2*(cy rs ((i:Int)+1)).1))=T rs i from rfl];have eb:bnd rs fx i=(T rs i:Rat)*cq fx i+(cq fx ((i:Int)-1)+cq fx ((i:Int)+1)):=by unfold bnd;grind
  generalize T rs i=t at *;have r1:(M++[SO.lst (rts bs)])[M.length]?=some (.lst (rts bs)):=by simp
  rw[Zgw t1 s0 ⋯ ⋯]
  simp! -implicitDefEqProofs [g2,Zbv];rw[cm2,Zgv s1 s2 ⋯]
  simp! -implicitDefEqProofs [];rw[Zgv (CR.ZaI (Zax t1 (by decide)) s0) (CR.Zja s1 s2) ⋯]
  simp! -implicitDefEqProofs [r1];refine⟨by rw[Zu];lia,bs++[(t:Rat)*cq fx i+(cq fx ((i:Int)-1)+cq fx ((i:Int)+1))],_,_,_,rfl,?_,by simp[len],λj hj=>?_⟩
  .rw[ZI]
  .rcases(show j<i\/j=i by lia)with c|c
   .rw[ZjE ⋯];exact eqs j c
   .rw[c]
    have:=ZjF (fs:=bs) (g:=(t:Rat)*cq fx i+(cq fx ((i:Int)-1)+cq fx ((i:Int)+1)))
    rw[len]at this;rw[this,eb]
 .rintro ρ M1 ⟨bs,x4,x5,x6,rfl,rfl,len,eqs⟩;simp! -implicitDefEqProofs [];exact q bs len eqs
structure Sl(g:Nat->Nat->Nat->Rat) (m:Nat):Prop where
 st:∀k i j,g (k+1) i j=if i=k then g k k j/g k k k else g k i j-g k i k*(g k k j/g k k k)
 hd:∀k,k<m->g k k k≠0
 sz:∀k i j,k<=m->i<m->Sz 950 (g k i j)
noncomputable def ZbJ(g:Nat->Nat->Nat->Rat)(m k i:Nat):List Rat:=(aC (m+1)).map (g k i)
variable {g:Nat->Nat->Nat->Rat}{tb a:Nat}{Rf:List Nat}{lv:Nat->Nat}
theorem Zbl:(ZbJ g m k i).length=m+1:=by simp[ZbJ]
theorem ZgD(h:j<=m):cq (ZbJ g m k i) j=g k i j:=by
 rw[Z4 (by rw[Zbl];lia)]
 simp[ZbJ]
theorem ZjG(h:j<=m):atI (rts (ZbJ g m k i)) (j:Int)=some (rt (g k i j)):=by
 rw[Zbv (by rw[Zbl];lia),ZgD h]
structure Tab(g:Nat->Nat->Nat->Rat) (M:Sto) (tb m:Nat) (lv:Nat->Nat) (Rf:List Nat):Prop where
 len:Rf.length=m
 tab:M[tb]?=some (.lst (Rf.map D.ref))
 ne:∀j:Nat,(h:j<Rf.length)->Rf[j]≠tb
 row:∀j:Nat,(h:j<Rf.length)->M[Rf[j]]?=some (.lst (rts (ZbJ g m (lv j) j)))
theorem Tab.up(t:Tab g M tb m lv Rf)(h:∀j,j<m->lv j=lv' j):Tab g M tb m lv' Rf:=⟨t.len,t.tab,t.ne,λj hj=>by rw[t.row j hj,h j (by rw[<-t.len];exact hj)]⟩
theorem Tab.app(t:Tab g M tb m lv Rf):Tab g (M++L) tb m lv Rf:=⟨t.len,Kp.app.get t.tab,t.ne,λj hj=>Kp.app.get (t.row j hj)⟩
theorem Tab.put(t:Tab g M tb m lv Rf)(ha:a<m)(ho:o<M.length)(ro:M[o]?=some (.lst (rts (ZbJ g m v a))))(no:o≠tb):Tab g (M.set tb (.lst ((Rf.map D.ref).set a (.ref o)))) tb m (λj=>if j=a then v else lv j) (Rf.set a o):=by
 have tt:=Zo t.tab;refine⟨by rw[cV];exact t.len,?_,λj hj=>?_,λj hj=>?_⟩
 .rw[ay tt,lX]
 .rw[cV]at hj;by_cases c:a=j
  .subst c;rw[kj];exact no
  .rw[lC c];exact t.ne j hj
 .rw[cV]at hj;by_cases c:a=j
  .subst c;rw[kj,ah (bh no),if_pos rfl];exact ro
  .rw[lC c,ah (bh (t.ne j hj)),if_neg (bh c)];exact t.row j hj
theorem ZjH(hj:j<Rf.length):atI (Rf.map D.ref) (j:Int)=some (.ref Rf[j]):=by
 unfold atI;rw[af,ZcO hj];simp[hj]
theorem Zk6:((0-u.num*w.num:Int):Rat)=(0-u*w)*((u.den*w.den:Nat):Rat):=by
 rw[dW,aP,Zci u,Zci w,fg,show((0:Int):Rat)=0 from rfl];grind
theorem Zrz(h:Sl g m)(hk:k<m)(hi:i<m)(ne:i≠k)(m1:m<=14)(t:Tab g M tb m lv Rf)(lk:lv k=k+1)(li:lv i=k)(q:∀Rf' M' x10 x11 x12 x13 x14,Tab g M' tb m (λj=>if j=i then k+1 else lv j) Rf'->(∀j,j<M.length->j≠tb->M'[j]?=M[j]?)->M.length<=M'.length->N [some (.ref n),some (.ref o),some (.ref tb),some (.int mn),some (.int k),x5,x6,x7,x8,some (.int i),x10,x11,x12,x13,x14] M'):wS (Z8 [some (.ref n),some (.ref o),some (.ref tb),some (.int mn),some (.int k),x5,x6,x7,x8,some (.int i),x10,x11,x12,x13,x14] M) N R B C E:=by
 have tl:=t.len;have ri:=t.row i ⋯
 have rk:=t.row k ⋯
 rw[li]at ri;rw[lk]at rk;have tt:=t.tab;have lt:=Zo tt;have ai:atI (Rf.map D.ref) (i:Int)=some (.ref (Rf[i]'⋯)):=ZjH ⋯
 have ak:atI (Rf.map D.ref) (k:Int)=some (.ref (Rf[k]'⋯)):=ZjH ⋯
 have ax:atI (rts (ZbJ g m k i)) (k:Int)=some (rt (g k i k)):=ZjG ⋯
 generalize ea:Rf[i]'(by lia)=a at *
 generalize eb:Rf[k]'(by lia)=b at *
 have la:=Zo ri;have lb:=Zo rk;have qe:∀{M:Sto}{u v:Int},eqF 12 M (.int u) (.int v)=some (decide (u=v)):=rfl;simp![Z8,qe,tt,ai,ak,ri,ax];refine ZlF (xs:=rts (ZbJ g m k i)) (ys:=rts (ZbJ g m (k+1) k)) (λj ρ M'=>M'=M++[SO.lst (rts ((aC j).map (g (k+1) i)))]/\∃x12 x13 x14,ρ=[some (D.ref n),some (D.ref o),some (D.ref tb),some (D.int mn),some (D.int k),x5,x6,x7,x8,some (D.int i),some (rt (g k i k)),some (D.ref M.length),x12,x13,x14]) (Kp.app.get ri) (by simp[Zu,Zbl]) ⟨by simp[rts],_,_,_,rfl⟩ (λj ρ M' hI=>hI.1▸⟨Kp.app.get ri,Kp.app.get rk⟩) ?_ ?_
 .rintro j ρ M' hj ⟨rfl,x12,x13,x14,rfl⟩;have hj':j<m+1:=by simpa [Zu,Zbl]using hj
  rw[Zay,Zay,ZgD ⋯,ZgD ⋯]
  have s1:=h.sz k i k ⋯ hi
  have s2:=h.sz (k+1) k j ⋯ hk
  have s3:=h.sz k i j ⋯ hi
  have e:g (k+1) i j=g k i j+(0-g k i k*g (k+1) k j):=by
   rw[h.st k i j,h.st k k j,if_neg ne,if_pos rfl];grind
  have el:(aC (j+1)).map (g (k+1) i)=(aC j).map (g (k+1) i)++[g (k+1) i j]:=by rw[cE,cw];rfl
  have ll:((aC j).map (g (k+1) i)).length=j:=by simp
  rw[el,e];generalize (aC j).map (g (k+1) i)=zs at *;generalize g k i k=by_ at *;generalize g (k+1) k j=y at *;generalize g k i j=x at *;clear e el;have f1:Zs by_.num y.num:=Zn 950 950 s1.1 s2.1 ⋯ ⋯
  have f2:Zs (by_.den:Int) (y.den:Int):=Zn 950 950 (by simpa using s1.2) (by simpa using s2.2) ⋯ ⋯
  have nz:by_.den*y.den≠0:=eZ by_.den_nz y.den_nz;have sp:Sz 1902 (0-by_*y):=ZeJ (Zcg (Zax (z:=0) (k:=1) (by decide) (by decide)) (CR.ZaI s1 s2)) ⋯
  simp![Zbk,ZK f1,ZK f2];rw[show(by_.den:Int)*(y.den:Int)=((by_.den*y.den:Nat):Int)by simp,Zgu (k:=1900) (t:=0-by_*y) nz Zk6 (CR.Z0 s1.2 s2.2) ⋯]
  have r1:(M++[SO.lst (rts zs)])[M.length]?=some (.lst (rts zs)):=by simp
  simp![Zgv s3 sp ⋯,r1]
  refine⟨by rw[Zu];lia,?_,_,_,_,rfl⟩
  rw[ZI]
 .rintro ρ M' ⟨rfl,x12,x13,x14,rfl⟩;rw[Zu,Zbl];have t2:=t.app (L:=[SO.lst (rts (ZbJ g m (k+1) i))]);have tt2:=t2.tab;have r2:(M++[SO.lst (rts (ZbJ g m (k+1) i))])[M.length]?=some (.lst (rts (ZbJ g m (k+1) i))):=by simp
  have t3:=t2.put (o:=M.length) hi (by simp) r2 ⋯
  have ix:ixN Rf.length (i:Int)=some i:=ZcO ⋯
  rw[show(aC (m+1)).map (g (k+1) i)=ZbJ g m (k+1) i from rfl];simp![tt2,ix];refine q _ _ _ _ _ _ _ t3 (λj hj ne=>?_) (by simp)
  rw[ah ⋯,ac hj]
theorem quo(h0:u≠0)(hs:s=if 0<u.num then 1 else -1):((s*(u.den:Int)*w.num:Int):Rat)=w/u*((u.num.natAbs*w.den:Nat):Rat):=by
 have e1:w/u*u=w:=by rw[jq,Rat.mul_assoc,Rat.inv_mul_cancel _ h0,Rat.mul_one]
 have nz:u.num≠0:=λz=>h0 (Rat.num_eq_zero.mp z);have e2:((u.num.natAbs:Nat):Rat)=(s:Rat)*(u*(u.den:Rat)):=by
  rw[<-Zci,<-aY,<-aP];congr 1;rw[hs]
  split<;>lia
 rw[aP,aP,Zci w,fg,e2,aY];generalize w/u=t at *;grind
theorem ZrA(h:Sl g m)(hk:k<m)(m1:m<=14)(t:Tab g M tb m (λ_=>k) Rf)(q:∀Rf' M' x5 x6 x7 x8 x9 x10 x11 x12 x13 x14,Tab g M' tb m (λ_=>k+1) Rf'->(∀j,j<M.length->j≠tb->M'[j]?=M[j]?)->M.length<=M'.length->N [some (.ref n),some (.ref o),some (.ref tb),some (.int m),some (.int k),x5,x6,x7,x8,x9,x10,x11,x12,x13,x14] M'):wS (ZaB [some (.ref n),some (.ref o),some (.ref tb),some (.int m),some (.int k),x5,x6,x7,x8,x9,x10,x11,x12,x13,x14] M) N R B C E:=by
 have tl:=t.len;have rk:=t.row k ⋯
 have tt:=t.tab;have lt:=Zo tt;have ak:atI (Rf.map D.ref) (k:Int)=some (.ref (Rf[k]'⋯)):=ZjH ⋯
 have ax:atI (rts (ZbJ g m k k)) (k:Int)=some (rt (g k k k)):=ZjG ⋯
 generalize eb:Rf[k]'(by lia)=b at *
 have lb:=Zo rk;have nz:=h.hd k hk;have nn:(g k k k).num≠0:=λz=>nz (Rat.num_eq_zero.mp z);have sg:=Zt4 nn;have s1:=h.sz k k k ⋯ hk
 have qe:∀{M:Sto}{u v:Int},eqF 12 M (.int u) (.int v)=some (decide (u=v)):=rfl;obtain⟨s,hs⟩:∃s:Int,s=if 0<(g k k k).num then 1 else -1:=⟨_,rfl⟩
 rw[<-hs]at sg;have sb:s.natAbs<2^1:=by rw[hs];split<;>decide
 have f0:Zs s ((g k k k).den:Int):=Zn 1 950 sb (by simpa using s1.2) ⋯ ⋯
 have f1:(s*((g k k k).den:Int)).natAbs<2^951:=by
  have:=CR.Z0 sb s1.2
  rw[a7]
  simpa using this
 have dv:∀{Q:W0}{E:W2}{M:Sto},wO (dDiv (.int (g k k k).num) (.int ((g k k k).num.natAbs:Nat)) M) Q E=Q (.int s) M:=by
  intro Q E M;rw[CR.ZcV (k:=950) ⋯ (by simpa using s1.1) ⋯,sg]
 simp! -implicitDefEqProofs [ZaB,tt,ak,rk,ax,qe,dv,ZK f0];refine ZkT (λρ=>∃x,ρ=[x,some (.int (s*((g k k k).den:Int))),some (.int ((g k k k).num.natAbs:Nat))]) (λj=>rt (g (k+1) k j)) rk (by rw[Zu,Zbl];lia) ⟨_,rfl⟩ ?_ ?_
 .rintro j hj ρ L ⟨x,rfl⟩;rw[Zu,Zbl]at hj;rw[Zay,ZgD ⋯]
  have s2:=h.sz k k j ⋯ hk
  have e:g (k+1) k j=g k k j/g k k k:=by rw[h.st k k j,if_pos rfl]
  rw[e];generalize g k k j=y at *;generalize g k k k=u at *;have f2:Zs (s*(u.den:Int)) y.num:=Zn 951 950 f1 s2.1 ⋯ ⋯
  have f3:Zs (u.num.natAbs:Int) (y.den:Int):=Zn 950 950 (by simpa using s1.1) (by simpa using s2.2) ⋯ ⋯
  have nz2:u.num.natAbs*y.den≠0:=eZ ⋯ y.den_nz
  simp! -implicitDefEqProofs [ZK f2,ZK f3];rw[show(u.num.natAbs:Int)*(y.den:Int)=((u.num.natAbs*y.den:Nat):Int)by simp,Zgu (k:=1900) (t:=y/u) nz2 (quo nz hs) (CR.Z0 s1.1 s2.2) ⋯]
  exact⟨⟨_,rfl⟩,rfl,rfl⟩
 rw[Zu,Zbl,show(aC (m+1)).map (λj=>rt (g (k+1) k j))=rts (ZbJ g m (k+1) k)by simp[rts,ZbJ]]
 have t2:=t.app (L:=[SO.lst (rts (ZbJ g m (k+1) k))]);have tt2:=t2.tab;have r2:(M++[SO.lst (rts (ZbJ g m (k+1) k))])[M.length]?=some (.lst (rts (ZbJ g m (k+1) k))):=by simp
 have t3:=t2.put (o:=M.length) hk (by simp) r2 ⋯
 have ix:ixN Rf.length (k:Int)=some k:=ZcO ⋯
 have g3:∀j,j<M.length->j≠tb->((M++[SO.lst (rts (ZbJ g m (k+1) k))]).set tb (.lst ((Rf.map D.ref).set k (.ref M.length))))[j]?=M[j]?:=λj hj ne=>by
  rw[ah ⋯,ac hj]
 have l3:M.length<=((M++[SO.lst (rts (ZbJ g m (k+1) k))]).set tb (.lst ((Rf.map D.ref).set k (.ref M.length)))).length:=by simp
 simp! -implicitDefEqProofs [tt2,ix];generalize (M++[SO.lst (rts (ZbJ g m (k+1) k))]).set tb (.lst ((Rf.map D.ref).set k (.ref M.length)))=M3 at *;generalize Rf.set k M.length=Rf3 at *;refine⟨⋯,?_⟩
 rw[be];refine Zbu (n:=m) (lo:=0) (λi ρ M'=>∃Rf' x9 x10 x11 x12 x13 x14,ρ=[some (.ref n),some (.ref o),some (.ref tb),some (.int m),some (.int k),some (rt (g k k k)),some (.int s),some (.int (s*((g k k k).den:Int))),some (.int ((g k k k).num.natAbs:Nat)),x9,x10,x11,x12,x13,x14]/\Tab g M' tb m (λj=>if j=k\/j<i then k+1 else k) Rf'/\(∀j,j<M.length->j≠tb->M'[j]?=M[j]?)/\M.length<=M'.length) ⟨Rf3,_,_,_,_,_,_,rfl,t3.up λj _=>by split<;>split<;>lia,g3,l3⟩ ?_ ?_
 .rintro i ρ M1 hi ⟨Rf1,x9,x10,x11,x12,x13,x14,rfl,t1,g1,l1⟩;rw[show(0:Int)+(i:Nat)=i by lia]
  by_cases c:i=k
  .subst c;simp! -implicitDefEqProofs [Z8,qe];exact⟨Rf1,_,_,_,_,_,_,rfl,t1.up λj _=>by split<;>split<;>lia,g1,l1⟩
  .simp![Zp];refine Zrz h hk hi c m1 t1 (by rw[if_pos (.inl rfl)]) (by rw[if_neg ⋯]) λRf2 M2 x10 x11 x12 x13 x14 t2 g2 l2=>?_
   exact⟨Rf2,_,_,_,_,_,_,rfl,t2.up λj _=>by split<;>split<;>(try split)<;>lia,λj hj ne=>(g2 j ⋯ ne).trans (g1 j hj ne),⋯⟩
 .rintro ρ M1 ⟨Rf1,x9,x10,x11,x12,x13,x14,rfl,t1,g1,l1⟩;exact q Rf1 M1 _ _ _ _ _ _ _ _ _ _ (t1.up λj hj=>by rw[if_pos (.inr hj)]) g1 l1
theorem ZrB{Tf:List Nat}(ht:M[n]?=some (.lst (Tf.map D.ref)))(tl:Tf.length=m)(hr:∀j:Nat,(h:j<Tf.length)->M[Tf[j]]?=some (.lst (rts ((aC m).map (g 0 j)))))(ho:M[o]?=some (.lst (rts ws)))(wl:ws.length=m)(hw:∀j:Nat,j<m->cq ws j=g 0 j m)(m1:m<=14)(q:∀Rf M',Kp M M'->Tab g M' M.length m (λ_=>0) Rf->Q (.ref M.length) M'):kCo (gTp (gCs (gNm 0) (gCs (gNm 1) gNl))) (λ_ M=>.ok true M) (e2 dAdd (Zj bList (Zc (Zg 0) aNil)) (ZbI (Zc (Zg 1) aNil))) 2 [] ρ Q (.zip n o) M:=by
 have hn:=Zo ht;have ho':=Zo ho;have hz:(bT (λa b=>D.tup [a,b]) (Tf.map D.ref) (rts ws)).length=m:=by simp[Zu];lia
 refine Zgc (xs:=bT (λa b=>D.tup [a,b]) (Tf.map D.ref) (rts ws)) (Q:=λM2=>Q (.ref M.length) M2) (λi ρ M'=>(∃x y,ρ=[x,y])/\∃Rf:List Nat,Rf.length=i/\Kp M M'/\M'[M.length]?=some (.lst (Rf.map D.ref))/\∀j:Nat,(h:j<Rf.length)->M.length<Rf[j]/\M'[Rf[j]]?=some (.lst (rts (ZbJ g m 0 j)))) _ 0 _ _ (by simp) (by rw[hz,Zfl ht];simp[tl]) ⟨⟨_,_,rfl⟩,[],rfl,Kp.app,by simp,λj h=>by simp at h⟩ (λi ρ M' hi hI=>?_) ?_ ?_
 .obtain⟨_,Rf,_,K1,_⟩:=hI;rw[ZiX (K1.get ht) (K1.get ho)]
 .rintro i ρ M1 hi ⟨⟨x,y,rfl⟩,Rf,len,K1,r1,rr⟩;rw[hz]at hi;rw[ig,fI,Zay,hw i hi];have rt_:=K1.get (hr i ⋯)
  generalize Tf[i]'(by lia)=a at *
  have la:=Zo rt_;have l1:=Zo r1;simp![Zp];show Br true _ _;rw[Zok];simp![rt_];have e:rts ((aC m).map (g 0 i))++[rt (g 0 i m)]=rts (ZbJ g m 0 i):=by rw[ZI];unfold ZbJ;rw[cE,cw];rfl
  refine⟨by rw[Zu,af,dk];lia,?_⟩
  rw[r1,e];have r2:(M1++[SO.lst (rts ((aC m).map (g 0 i))),SO.lst [rt (g 0 i m)],SO.lst (rts (ZbJ g m 0 i))])[M1.length+2]?=some (.lst (rts (ZbJ g m 0 i))):=by simp
  have K2:Kp M1 (M1++[SO.lst (rts ((aC m).map (g 0 i))),SO.lst [rt (g 0 i m)],SO.lst (rts (ZbJ g m 0 i))]):=Kp.app;generalize M1++[SO.lst (rts ((aC m).map (g 0 i))),SO.lst [rt (g 0 i m)],SO.lst (rts (ZbJ g m 0 i))]=M2 at *;have l2:=K2.1;refine⟨by rw[af];lia,⟨_,_,rfl⟩,Rf++[M1.length+2],by simp[len],(K1.trans K2).set (ae _),?_,λj hj=>?_⟩
  .rw[ay ⋯];simp
  .by_cases c:j<Rf.length
   .obtain⟨a1,a2⟩:=rr j c;rw[fZ c,ah ⋯]
    exact⟨a1,K2.get a2⟩
   .have:j=i:=by simp at hj;lia
    subst this;have ej:(Rf++[M1.length+2])[j]=M1.length+2:=by rw[jh ⋯];simp
    rw[ej,ah ⋯]
    exact⟨⋯,r2⟩
 .rintro ρ M1 ⟨_,Rf,len,K1,r1,rr⟩;rw[hz]at len;exact q Rf M1 K1 ⟨len,r1,λj h=>by have:=(rr j h).1;lia,λj h=>(rr j h).2⟩
theorem Zk7{Tf:List Nat}(h:Sl g m)(m0:0<m)(ht:M[n]?=some (.lst (Tf.map D.ref)))(tl:Tf.length=m)(hr:∀j:Nat,(h:j<Tf.length)->M[Tf[j]]?=some (.lst (rts ((aC m).map (g 0 j)))))(ho:M[o]?=some (.lst (rts ws)))(wl:ws.length=m)(hw:∀j:Nat,j<m->cq ws j=g 0 j m)(m1:m<=14)(q:∀r M',Kp M M'->M.length<=r->M'[r]?=some (.lst (rts ((aC m).map λi=>g m i m)))->Q (.ref r) M'):wO (F_law_solved [.ref n,.ref o] M) Q E:=by
 simp! -implicitDefEqProofs [F_law_solved,Zcj];refine ZrB ht tl hr ho wl hw m1 λRf M1 K1 t1=>?_;have tt:=t1.tab;have tl1:=t1.len;have l1:=Zo tt;simp! -implicitDefEqProofs [tt];rw[tl1];refine⟨⋯,?_⟩
 rw[be];refine Zbu (n:=m) (lo:=0) (λk ρ M'=>∃Rf' x4 x5 x6 x7 x8 x9 x10 x11 x12 x13 x14,ρ=[some (.ref n),some (.ref o),some (.ref M.length),some (.int m),x4,x5,x6,x7,x8,x9,x10,x11,x12,x13,x14]/\Tab g M' M.length m (λ_=>k) Rf'/\Kp M M') ⟨Rf,_,_,_,_,_,_,_,_,_,_,_,rfl,t1,K1⟩ ?_ ?_
 .rintro k ρ M2 hk ⟨Rf2,x4,x5,x6,x7,x8,x9,x10,x11,x12,x13,x14,rfl,t2,K2⟩;rw[show(0:Int)+(k:Nat)=k by lia]
  simp! -implicitDefEqProofs [];refine ZrA h hk m1 t2 λRf3 M3 x5 x6 x7 x8 x9 x10 x11 x12 x13 x14 t3 g3 l3=>?_;exact⟨Rf3,_,_,_,_,_,_,_,_,_,_,_,rfl,t3,by have:=K2.1;lia,λj hj=>(g3 j (by have:=K2.1;lia) ⋯).trans (K2.2 j hj)⟩
 .rintro ρ M2 ⟨Rf2,x4,x5,x6,x7,x8,x9,x10,x11,x12,x13,x14,rfl,t2,K2⟩;have tt2:=t2.tab;have l2:=t2.len;simp! -implicitDefEqProofs [];refine ZkT (λρ=>∃x,ρ=[x,some (.int m)]) (λi=>rt (g m i m)) tt2 (by rw[af];lia) ⟨_,rfl⟩ ?_ ?_
  .rintro i hi ρ L ⟨x,rfl⟩;rw[af]at hi;rw[fI];have ri:=(t2.app (L:=L)).row i hi;generalize Rf2[i]=a at *;simp! -implicitDefEqProofs [ri,ZjG (g:=g) (k:=m) (i:=i) (ae m)];exact⟨_,rfl⟩
  rw[af,l2,show(aC m).map (λi=>rt (g m i m))=rts ((aC m).map λi=>g m i m)by simp[rts]]
  exact q _ _ (K2.trans Kp.app) K2.1 (by simp)
theorem ZwH{a tb:Nat}(h:M[n]?=some (.lst (prs rs)))(hne:rs≠[])(hb:Nr 200 rs)(ha:a<rs.length)(hbb:b<rs.length)(hL:M[L]?=some (.lst (rts zs)))(zl:zs.length<=1000)(q:∀x7,N [some (.ref n),some (.ref o),some (.int rs.length),some (.ref tb),some (.int a),some (.ref L),some (.int b),x7] (M.set L (.lst (rts (zs++[(own rs a b:Rat)]))))):wS (ZaN [some (.ref n),some (.ref o),some (.int rs.length),some (.ref tb),some (.int a),some (.ref L),some (.int b),x7] M) N R B C E:=by
 have l0:0<rs.length:=aV.mpr hne;have a0:=bF ((a:Int)+1) (show(rs.length:Int)≠0 by lia)
 have a1:=aX ((a:Int)+1) (show(0:Int)<rs.length by lia)
 have b1:=hb _ (ZQ (i:=(a:Int)-1) hne);have b2:=hb _ (ZQ (i:=(a:Int)+1) hne);have cm:cy rs (((a:Int)+1)%(rs.length:Int))=cy rs ((a:Int)+1):=Zbe;have qe:∀{M:Sto}{u v:Int},eqF 12 M (.int u) (.int v)=some (decide (u=v)):=rfl;simp! -implicitDefEqProofs [ZaN,qe];refine brS (λc=>?_) (λc=>?_)
 .simp! -implicitDefEqProofs [h,ZcN];rw[cm];simp! -implicitDefEqProofs [CC.Zi4 (a:=(cy rs ((a:Int)-1)).1) (b:=(cy rs ((a:Int)-1)).2) (c:=(cy rs ((a:Int)+1)).1) (d:=(cy rs ((a:Int)+1)).2) ⋯ ⋯,hL]
  refine⟨by rw[Zu];lia,?_⟩
  have eo:own rs a b=0-((cy rs ((a:Int)-1)).1*(cy rs ((a:Int)+1)).2-(cy rs ((a:Int)-1)).2*(cy rs ((a:Int)+1)).1):=by
   unfold own;rw[if_pos ⋯]
   rfl
  rw[<-eo,show D.tup [D.int (own rs a b),D.int 1]=rt (own rs a b:Rat)from CS.ZcW _,ZI];exact q _
 .simp! -implicitDefEqProofs [hL];refine⟨by rw[Zu];lia,?_⟩
  have eo:own rs a b=(if decide (((a:Int)+1)%(rs.length:Int)=(b:Int))=true then 1 else 0)+if decide (((b:Int)+1)%(rs.length:Int)=(a:Int))=true then 1 else 0:=by
   unfold own BA.iv;rw[if_neg ⋯]
   simp only[decide_eq_true_eq]
  rw[<-eo,show D.tup [D.int (own rs a b),D.int 1]=rt (own rs a b:Rat)from CS.ZcW _,ZI];exact q _
theorem ZjI{P:List Nat}(h:i<(nts (P.map λz:Nat=>(z:Int))).length):(nts (P.map λz:Nat=>(z:Int)))[i]=D.int ((P[i]'(by simpa [nts]using h):Nat):Int):=by simp[nts]
theorem ZwI{P:List Nat}{tb a:Nat}{Tf:List Nat}(h:M[n]?=some (.lst (prs rs)))(hne:rs≠[])(hb:Nr 200 rs)(ho:M[o]?=some (.lst (nts (P.map λz:Nat=>(z:Int)))))(pl:P.length<=1000)(pn:∀z∈P,z<rs.length)(ha:a<rs.length)(ht:M[tb]?=some (.lst (Tf.map D.ref)))(rl:Tf.length<=1000)(q:∀M' x5 x6 x7,M'=(M++[SO.lst (rts (P.map λb=>(own rs a b:Rat)))]).set tb (.lst ((Tf++[M.length]).map D.ref))->N [some (.ref n),some (.ref o),some (.int rs.length),some (.ref tb),some (.int a),x5,x6,x7] M'):wS (ZaO [some (.ref n),some (.ref o),some (.int rs.length),some (.ref tb),some (.int a),x5,x6,x7] M) N R B C E:=by
 have hn:=Zo h;have ho':=Zo ho;have ht':=Zo ht;simp! -implicitDefEqProofs [ZaO];refine Zbd (xs:=nts (P.map λz:Nat=>(z:Int))) (λj ρ M'=>M'=M++[SO.lst (rts ((P.take j).map λb=>(own rs a b:Rat)))]/\∃x6 x7,ρ=[some (.ref n),some (.ref o),some (.int rs.length),some (.ref tb),some (.int a),some (.ref M.length),x6,x7]) (Kp.app.get ho) ⟨by simp[rts],_,_,rfl⟩ (λj ρ M' hI=>hI.1▸Kp.app.get ho) ?_ ?_
 .rintro j ρ M' hj ⟨rfl,x6,x7,rfl⟩;have hj':j<P.length:=by simpa [nts]using hj
  rw[ZjI];simp! -implicitDefEqProofs [];refine ZwH (zs:=(P.take j).map λb=>(own rs a b:Rat)) (Kp.app.get h) hne hb ha (pn _ (bJ hj')) (by simp) (by rw[af,cQ];lia) λx7=>?_
  refine⟨?_,_,_,rfl⟩;rw[bE hj',cw];simp
 .rintro ρ M' ⟨rfl,x6,x7,rfl⟩;rw[show(nts (P.map λz:Nat=>(z:Int))).length=P.length by simp[nts],dG]
  have t2:(M++[SO.lst (rts (P.map λb=>(own rs a b:Rat)))])[tb]?=some (.lst (Tf.map D.ref)):=Kp.app.get ht;simp! -implicitDefEqProofs [t2];refine⟨⋯,q _ _ _ _ ?_⟩
  rw[cw];rfl
theorem Zn5{P:List Nat}(h:M[n]?=some (.lst (prs rs)))(hne:rs≠[])(hb:Nr 200 rs)(hl:rs.length<=14)(ho:M[o]?=some (.lst (nts (P.map λz:Nat=>(z:Int)))))(pl:P.length<=14)(pn:∀z∈P,z<rs.length)(q:∀(Tf:List Nat) M',Kp M M'->M'[M.length]?=some (.lst (Tf.map D.ref))->Tf.length=P.length->(∀j:Nat,(hj:j<Tf.length)->(hp:j<P.length)->M'[Tf[j]]?=some (.lst (rts (P.map λb=>(own rs P[j] b:Rat)))))->Q (.ref M.length) M'):wO (F_law_table [.ref n,.ref o] M) Q E:=by
 have hn:=Zo h;have ho':=Zo ho;simp! -implicitDefEqProofs [F_law_table,Zc9,h,ZG];refine Zbd (xs:=nts (P.map λz:Nat=>(z:Int))) (λi ρ M'=>∃(Tf:List Nat),∃x4 x5 x6 x7,ρ=[some (.ref n),some (.ref o),some (.int rs.length),some (.ref M.length),x4,x5,x6,x7]/\Tf.length=i/\M'[M.length]?=some (.lst (Tf.map D.ref))/\Kp M M'/\∀j:Nat,(hj:j<Tf.length)->(hp:j<P.length)->M.length<Tf[j]/\M'[Tf[j]]?=some (.lst (rts (P.map λb=>(own rs P[j] b:Rat))))) (Kp.app.get ho) ⟨[],_,_,_,_,rfl,rfl,by simp,Kp.app,λj hj=>by simp at hj⟩ (λi ρ M' hI=>by obtain⟨_,_,_,_,_,_,_,_,K,_⟩:=hI;exact K.get ho) ?_ ?_
 .rintro i ρ M1 hi ⟨Tf,x4,x5,x6,x7,rfl,len,tt,K1,rw1⟩;have hi':i<P.length:=by simpa [nts]using hi
  rw[ZjI];simp! -implicitDefEqProofs [];have lt:=Zo tt;refine ZwI (K1.get h) hne hb (K1.get ho) ⋯ pn (pn _ (bJ hi')) tt ⋯ λM2 x5 x6 x7 e2=>?_
  subst e2;refine⟨Tf++[M1.length],_,_,_,_,rfl,by simp[len],ay (by simp;lia),(K1.trans Kp.app).set (ae _),λj hj hp=>?_⟩
  by_cases c:j<Tf.length
  .obtain⟨a1,a2⟩:=rw1 j c hp;rw[fZ c];exact⟨a1,by rw[ah ⋯];exact Kp.app.get a2⟩
  .have:j=i:=by simp at hj;lia
   subst this;have ej:(Tf++[M1.length])[j]=M1.length:=by rw[jh ⋯];simp
   rw[ej];exact⟨lt,by rw[ah ⋯];simp⟩
 .rintro ρ M1 ⟨Tf,x4,x5,x6,x7,rfl,len,tt,K1,rw1⟩;rw[show(nts (P.map λz:Nat=>(z:Int))).length=P.length by simp[nts]]at len
  simp! -implicitDefEqProofs [];exact q Tf M1 K1 tt len λj hj hp=>(rw1 j hj hp).2
theorem Zui{P:List Nat}(S:Smo rs)(hb:Nr 200 rs)(hl:rs.length<=14)(L:Pl rs (λk=>P.getD k 0) P.length)(W:∀i,i<P.length->∃I:Int,I.natAbs<=2^130/\(60:Rat)*w i=I):Sl (gs (tA rs (λk=>P.getD k 0) P.length w)) P.length:=
 ⟨λk i j=>rfl,ZdX S L,λk i j hk hi=>Zuh S hb hl L W hk hi⟩
abbrev nat(P:List Nat):List D:=nts (P.map λz:Nat=>(z:Int))
theorem ZjJ{u:Nat}:∀P:List Nat,eqs M (.int u) (nat P)=some (P.map λa=>decide (a=u))
 |[]=>rfl
 |a::r=>by
  have ih:=ZjJ (u:=u) r;have e:eqF 12 M (.int a) (.int u)=some (decide (a=u)):=by
   show some _=some _;congr 1;exact decide_eq_decide.mpr ⋯
  show(match eqF 12 M (.int a) (.int u)with|some b=>(match eqs M (.int u) (nat r)with|some bs=>some (b::bs)|none=>none)|none=>none)=_
  rw[e,ih];rfl
theorem ZrC{u:Nat}(h:M[n]?=some (.lst (nat P))):inE (.int u) (.ref n) M=some (P.any λa=>decide (a=u)):=by
 have e0:Zee M (.ref n)=some (nat P):=by simp[Zee,h]
 simp only[inE,e0,ZjJ,List.any_map];rfl
theorem Zvl{x:Rat}:x.num<0↔x<0:=by
 have:=Rat.num_nonneg (q:=x)
 constructor
 .intro h;refine Rat.not_le.mp λz=>?_
  have:=this.mpr z
  lia
 .intro h;exact Int.not_le.mp λz=>Rat.not_lt.mpr (this.mp z) h
def mor(bs:List Rat)(P:List Nat)(k:Nat):List Nat:=(aC k).filter λz=>decide (cq bs z<0) && !(P.any λa=>decide (a=z))
theorem Zuj:mor bs P (k+1)=if(decide (cq bs k<0) && !(P.any λa=>decide (a=k)))=true then mor bs P k++[k]else mor bs P k:=by
 unfold mor;rw[cE,List.filter_append]
 split<;>rename_i c<;>simp[c]
theorem ZjK:(mor bs P k).length<=k:=by
 have:=ko (λz:Nat=>decide (cq bs z<0) && !(P.any λa=>decide (a=z))) (aC k)
 rw[dk]at this;exact this
theorem ZrD{nn pl:Nat}(rp:M[pl]?=some (.lst (nat P)))(rb:M[bo]?=some (.lst (rts bs)))(hb:bs.length=nn)(hn:nn<=1000)(rl:M[L]?=some (.lst []))(n1:pl≠L)(n2:bo≠L)(q:∀x8,N [some (.ref n),some (.ref m),some (.ref pl),some (.ref so),some (.ref bo),some (.ref ao),x6,some (.ref L),x8,x9,x10] (M.set L (.lst (nat (mor bs P nn))))):wS (Zbr (gNm 8) ZaP (Zah 0 nn) [some (.ref n),some (.ref m),some (.ref pl),some (.ref so),some (.ref bo),some (.ref ao),x6,some (.ref L),x8,x9,x10] M) N R B C E:=by
 have hL:=Zo rl;refine Zbu (n:=nn) (lo:=0) (λk ρ M'=>M'=M.set L (.lst (nat (mor bs P k)))/\∃x8,ρ=[some (.ref n),some (.ref m),some (.ref pl),some (.ref so),some (.ref bo),some (.ref ao),x6,some (.ref L),x8,x9,x10]) ⟨?_,_,rfl⟩ ?_ ?_
 .show M=M.set L (.lst []);refine d7 λj=>?_;by_cases c:j=L
  .subst c;rw[rl,ay hL]
  .rw[ah (bh c)]
 .rintro k ρ M1 hk ⟨rfl,x8,rfl⟩;rw[show(0:Int)+(k:Nat)=k by lia]
  have ps:mor bs P (k+1)=if(decide (cq bs k<0) && !(P.any λa=>decide (a=k)))=true then mor bs P k++[k]else mor bs P k:=Zuj
  have ml:(mor bs P k).length<=k:=ZjK;generalize mor bs P k=Y at *;have g1:(M.set L (.lst (nat Y)))[pl]?=some (.lst (nat P)):=by rw[ah (bh n1)];exact rp
  have g2:(M.set L (.lst (nat Y)))[bo]?=some (.lst (rts bs)):=by rw[ah (bh n2)];exact rb
  have g3:(M.set L (.lst (nat Y)))[L]?=some (.lst (nat Y)):=ay hL;have iE:=ZrC (u:=k) g1;generalize eM:M.set L (.lst (nat Y))=M1 at *;simp! -implicitDefEqProofs [ZaP,g2,Zbv,iE];refine brO (λc=>?_) (λc=>?_)
  .have c':=Zvl.mp c;simp! -implicitDefEqProofs [iE];rw[decide_eq_true c',Bool.true_and]at ps;refine Zts (λc2=>?_) (λc2=>?_)
   .rw[if_pos c2]at ps;simp! -implicitDefEqProofs [g3];refine⟨⋯,?_,_,rfl⟩
    rw[ps,<-eM,iI,show nat (Y++[k])=nts (Y.map (λz:Nat=>(z:Int))++[(k:Int)])by simp[nat]]
   .rw[if_neg (by rw[c2];decide)]at ps
    simp! -implicitDefEqProofs [];rw[ps];exact⟨eM.symm,_,rfl⟩
  .have c':¬cq bs k<0:=λz=>c (Zvl.mpr z);simp! -implicitDefEqProofs [];rw[decide_eq_false c',Bool.false_and,if_neg (by decide)]at ps
   rw[ps];exact⟨eM.symm,_,rfl⟩
 .rintro ρ M1 ⟨rfl,x8,rfl⟩;exact q _
theorem Zn6{g:Nat->Bool}{l:List Nat}(d:∀z∈l,g z=true->f z=false):(l.filter f++l.filter g).Perm (l.filter λz=>f z||g z):=by
 have e1:(l.filter λz=>f z||g z).filter f=l.filter f:=by
  rw[List.filter_filter];exact jr λz _=>by cases f z<;>simp
 have e2:(l.filter λz=>f z||g z).filter (λz=> !f z)=l.filter g:=by
  rw[List.filter_filter];refine jr λz hz=>?_
  have:=d z hz
  cases hf:f z<;>cases hg:g z<;>simp_all
 have:=List.filter_append_perm f (l.filter λz=>f z||g z)
 rw[e1,e2]at this;exact this
theorem Zuk(h:M[n]?=some (.lst (nts xs)))(hl:xs.length<64):bSrtI [.ref n] M=.ok (.ref M.length) (M++[.lst (nts (Zna xs))]):=by
 have e:∀xs:List Int,ZaC (nts xs)=some xs:=λxs=>by
  induction xs with
  |nil=>rfl
  |cons a r ih=>
   show(match ZaC (nts r)with|some is=>some (a::is)|none=>none)=_
   rw[ih]
 simp only[bSrtI,h,e,if_pos hl];rfl
noncomputable def tkn(f:Nat->Bool)(n:Nat):List Nat:=(aC n).filter f
theorem Zb8:z∈tkn f n↔z<n/\f z=true:=by simp[tkn]
theorem ZjL:(tkn f n).Pairwise (· < ·):=js.filter _ List.pairwise_lt_range
theorem ZfA:(tkn f n).length<=n:=by
 have:=ko f (aC n)
 rw[dk]at this;exact this
theorem Zn7(h:z<n):(tkn f n).any (λa=>decide (a=z))=f z:=by
 cases e:f z with
 |true=>exact List.any_eq_true.mpr ⟨z,Zb8.mpr ⟨h,e⟩,by simp⟩
 |false=>
  refine List.any_eq_false.mpr λa ha c=>?_
  have:=of_decide_eq_true c
  subst this
  have:=(Zb8.mp ha).2
  rw[e]at this;cases this
def nxf(bs:List Rat)(f:Nat->Bool)(z:Nat):Bool:=f z||(decide (cq bs z<0) && !f z)
theorem ZlV:mor bs (tkn f n) n=(aC n).filter λz:Nat=>decide (cq bs z<0) && !f z:=by
 refine jr λz hz=>?_;rw[Zn7 (cu.mp hz)]
theorem ZjM:(tkn f n++mor bs (tkn f n) n).Perm (tkn (nxf bs f) n):=by
 rw[ZlV];exact Zn6 λz _=>by cases f z<;>simp
theorem ZrE:Zna ((tkn f n).map (λz:Nat=>(z:Int))++(mor bs (tkn f n) n).map (λz:Nat=>(z:Int)))=(tkn (nxf bs f) n).map λz:Nat=>(z:Int):=by
 refine Zf7 ((ZcL _).trans ?_) (ZiE _) ?_
 .rw[<-cw];exact ZjM.map _
 .exact gS.mpr (ZjL.imp λh=>⋯)
theorem Zb9{P:List Nat}(h:k<P.length):P.getD k 0=P[k]:=by simp[h]
theorem ZrF{St:Int->Prop}(R:BA.Run rs St)(st:∀z,z<rs.length->f z=true->St z)(per:∀z,St (z%(rs.length:Int))->St z):Pl rs (λk=>(tkn f rs.length).getD k 0) (tkn f rs.length).length:=by
 have mem:∀i,i<(tkn f rs.length).length->(tkn f rs.length).getD i 0<rs.length/\f ((tkn f rs.length).getD i 0)=true:=λi hi=>by
  rw[Zb9 hi];exact Zb8.mp (bJ hi)
 refine⟨λi j h hj=>?_,λi hi=>(mem i hi).1,λa m h=>R a m λj h1 h2=>?_⟩
 .have hi:i<(tkn f rs.length).length:=⋯
  simp only[Zb9 hj,Zb9 hi];exact jg.mp ZjL i j ⋯ hj h
 .obtain⟨l,l1,l2⟩:=h j h1 h2;obtain⟨m1,m2⟩:=mem l l1;exact per _ (by rw[l2];exact st _ m1 m2)
def evl(nn:Nat)(P:List Nat)(c:Nat->Rat)(k:Nat):List Rat:=(aC nn).map λt:Nat=>ev nn (λl=>P.getD l 0) c k t
theorem ZbH{nn:Nat}:(evl nn P c k).length=nn:=by simp[evl]
theorem ZfB{nn:Nat}(h:t<(evl nn P c k).length):(evl nn P c k)[t]=ev nn (λl=>P.getD l 0) c k (t:Int):=by simp[evl]
theorem ZrG(h0:0<rs.length)(z:Int):cq (evl rs.length P c k) z=ev rs.length (λl=>P.getD l 0) c k z:=by
 have a:=aX z (show(0:Int)<rs.length by lia)
 have b:=bF z (show(rs.length:Int)≠0 by lia)
 have m:cq (evl rs.length P c k) (z%(rs.length:Int))=cq (evl rs.length P c k) z:=by
  have:=Zch (hs:=evl rs.length P c k) (i:=z)
  rw[ZbH]at this;exact this
 obtain⟨t,et⟩:∃t:Nat,z%(rs.length:Int)=t:=⟨(z%(rs.length:Int)).toNat,⋯⟩
 rw[<-m,<-ZgB,et,Z4 (by rw[ZbH];lia)]
 simp[evl]
theorem Zul{nn:Nat}:evl nn P c 0=aB nn 0:=by
 refine eN (by simp[ZbH]) λt h1 h2=>?_
 rw[ZfB,List.getElem_replicate];rfl
theorem Zum(L:Pl rs (λk=>P.getD k 0) P.length)(hk:k<P.length):(evl rs.length P c k).set (P.getD k 0) (c k)=evl rs.length P c (k+1):=by
 refine eN (by simp[ZbH]) λt h1 h2=>?_
 rw[ZbH]at h2;have e0:(t:Int)%(rs.length:Int)=t:=bf ⋯ ⋯
 have es:∀k,ev rs.length (λl=>P.getD l 0) c (k+1) (t:Int)=ev rs.length (λl=>P.getD l 0) c k (t:Int)+if(t:Int)%(rs.length:Int)=((P.getD k 0:Nat):Int)then c k else 0:=λk=>rfl
 rw[List.getElem_set,ZfB,ZfB,es,e0];by_cases q:P.getD k 0=t
 .rw[if_pos q,if_pos ⋯,ZeN λl hl z=>?_]
  .grind
  .rw[e0]at z
   have:=L.inj (show l<P.length by lia) hk (by show P.getD l 0=P.getD k 0;lia)
   lia
 .rw[if_neg q,if_neg ⋯]
  grind
theorem ZrH{pl:Nat}(L:Pl rs (λk=>P.getD k 0) P.length)(p1:P.length<=1000)(rp:M[pl]?=some (.lst (nat P)))(ro:M[so]?=some (.lst (rts (aB rs.length 0))))(rc:M[sm_]?=some (.lst (rts cs)))(lc:cs.length=P.length)(ec:∀j:Nat,j<P.length->cq cs j=c j)(n1:pl≠so)(n2:sm_≠so)(q:∀x8,N [some (.ref n),some (.ref m),some (.ref pl),some (.ref so),x4,x5,x6,x7,x8,some (.ref sm_),x10] (M.set so (.lst (rts (evl rs.length P c P.length))))):wS (Zbr (gNm 8) ZaQ (Zah 0 P.length) [some (.ref n),some (.ref m),some (.ref pl),some (.ref so),x4,x5,x6,x7,x8,some (.ref sm_),x10] M) N R B C E:=by
 have hL:=Zo ro;refine Zbu (n:=P.length) (lo:=0) (λk ρ M'=>M'=M.set so (.lst (rts (evl rs.length P c k)))/\∃x8,ρ=[some (.ref n),some (.ref m),some (.ref pl),some (.ref so),x4,x5,x6,x7,x8,some (.ref sm_),x10]) ⟨?_,_,rfl⟩ ?_ ?_
 .rw[Zul];refine d7 λj=>?_;by_cases c:j=so
  .subst c;rw[ro,ay hL]
  .rw[ah (bh c)]
 .rintro k ρ M1 hk ⟨rfl,x8,rfl⟩;rw[show(0:Int)+(k:Nat)=k by lia]
  have es:=Zum (c:=c) L hk;have pk:=L.lt k hk;have ll:=ZbH (nn:=rs.length) (P:=P) (c:=c) (k:=k);have ek:=ec k hk;have ap:atI (nat P) (k:Int)=some (.int ((P.getD k 0:Nat):Int)):=by
   rw[ZlD (by rw[af];lia),ZlE (by rw[af];exact hk)]
   simp[hk]
  generalize evl rs.length P c k=Y at *;generalize P.getD k 0=t at *;have g1:(M.set so (.lst (rts Y)))[pl]?=some (.lst (nat P)):=by rw[ah (bh n1)];exact rp
  have g2:(M.set so (.lst (rts Y)))[sm_]?=some (.lst (rts cs)):=by rw[ah (bh n2)];exact rc
  have g3:(M.set so (.lst (rts Y)))[so]?=some (.lst (rts Y)):=ay hL;generalize eM:M.set so (.lst (rts Y))=M1 at *;have ix:ixN (rts Y).length (t:Int)=some t:=ZcO (by rw[Zu];lia)
  rw[Zu]at ix;simp! -implicitDefEqProofs [ZaQ,g1,g2,g3,ap,Zbv,ek,ix,Zu];refine⟨?_,_,rfl⟩;rw[<-eM,iI,<-es,show(rts Y).set t (rt (c k))=rts (Y.set t (c k))by simp[rts,lX]]
 .rintro ρ M1 ⟨rfl,x8,rfl⟩;exact q _
theorem ZwJ(y:Rat):(((-1:Int)):Rat)*y=0-y:=by
 rw[show((-1:Int):Rat)= -1 from rfl];grind
theorem Zun(hz:z= -1)(hy:Sz l y)(hl:l<=8000):wO (BL.F_law_times [.int z,rt y] M) Q E=Q (rt (0-y)) M:=by
 rw[Zgw (z:=z) (l:=1) ⋯ hy ⋯ hl,show(z:Rat)*y=0-y by rw[hz];exact ZwJ y]
theorem ZrI{nn:Nat}(h':M[m]?=some (.lst (rts hs)))(eh:hs.length=nn)(hz:∀x∈hs,Sz 102 x)(ro:M[so]?=some (.lst (rts es)))(ee:es.length=nn)(ez:∀x∈es,Sz 400 x)(hn:nn<=1000)(rl:M[L]?=some (.lst []))(n1:m≠L)(n2:so≠L)(q:∀x8,N [some (.ref n),some (.ref m),x2,some (.ref so),x4,x5,x6,x7,x8,x9,some (.ref L)] (M.set L (.lst (rts (ZcX hs es))))):wS (Zbr (gNm 8) ZaR (Zah 0 nn) [some (.ref n),some (.ref m),x2,some (.ref so),x4,x5,x6,x7,x8,x9,some (.ref L)] M) N R B C E:=by
 have hL:=Zo rl;refine Zbu (n:=nn) (lo:=0) (λk ρ M'=>∃fs,M'=M.set L (.lst (rts fs))/\(fs.length=k/\∀j:Nat,j<k->cq fs j=cq (ZcX hs es) j)/\∃x8,ρ=[some (.ref n),some (.ref m),x2,some (.ref so),x4,x5,x6,x7,x8,x9,some (.ref L)]) ⟨[],?_,⟨rfl,λj hj=>⋯⟩,_,rfl⟩ ?_ ?_
 .refine d7 λj=>?_;by_cases c:j=L
  .subst c;rw[rl,ay hL];rfl
  .rw[ah (bh c)]
 .rintro k ρ M1 hk ⟨Y,rfl,⟨len,eqs⟩,x8,rfl⟩;rw[show(0:Int)+(k:Nat)=k by lia]
  have g1:(M.set L (.lst (rts Y)))[m]?=some (.lst (rts hs)):=by rw[ah (bh n1)];exact h'
  have g2:(M.set L (.lst (rts Y)))[so]?=some (.lst (rts es)):=by rw[ah (bh n2)];exact ro
  have g3:(M.set L (.lst (rts Y)))[L]?=some (.lst (rts Y)):=ay hL;generalize eM:M.set L (.lst (rts Y))=M1 at *;have s1:=Zbh (i:=(k:Int)) hz ⋯
  have s2:=Zbh (i:=(k:Int)) ez ⋯
  have s3:Sz 402 (0-cq es k):=ZeJ (Zcg (Zax (z:=0) (k:=1) (by decide) (by decide)) s2) ⋯
  have zm:∃z:Int,z= -1:=⟨_,rfl⟩;obtain⟨z,zm⟩:=zm;have e:cq hs k+(0-cq es k)=cq (ZcX hs es) k:=by rw[Zgj eh ee hk];grind
  simp! -implicitDefEqProofs [ZaR,g1,g2,Zbv];rw[<-zm,Zun zm s2 ⋯]
  simp! -implicitDefEqProofs [Zgv s1 s3 ⋯,g3]
  rw[e,ZI];refine⟨by rw[Zu];lia,Y++[cq (ZcX hs es) k],by rw[<-eM,iI],⟨by simp[len],λj hj=>?_⟩,_,rfl⟩
  rcases(show j<k\/j=k by lia)with c|c
  .rw[ZjE ⋯];exact eqs j c
  .rw[c,<-len,ZjF,len]
 .rintro ρ M1 ⟨Y,rfl,⟨len,eqs⟩,x8,rfl⟩;rw[Zq2 len (Zbp eh ee) eqs];exact q _
theorem Zn8{a:List Rat}(ea:a.length=n)(eb:b.length=n)(h0:0<n)(z:Int):cq (ZcX a b) z=cq a z-cq b z:=by
 have l:=aX z (show(0:Int)<n by lia)
 have g:=bF z (show(n:Int)≠0 by lia)
 obtain⟨t,et⟩:∃t:Nat,z%(n:Int)=t:=⟨(z%(n:Int)).toNat,⋯⟩
 have m1:=Zch (hs:=ZcX a b) (i:=z);have m2:=Zch (hs:=a) (i:=z);have m3:=Zch (hs:=b) (i:=z);rw[Zbp ea eb,et]at m1;rw[ea,et]at m2;rw[eb,et]at m3;rw[<-m1,<-m2,<-m3];exact Zgj ea eb ⋯
noncomputable def Pf(rs:List Pt)(f:Nat->Bool)(z:Int):Prop:=f (z%(rs.length:Int)).toNat=true
structure St(rs:List Pt) (hs fx es bs:List Rat) (f:Nat->Bool) (M:Sto) (pl so bo:Nat):Prop where
 p:M[pl]?=some (.lst (nat (tkn f rs.length)))
 s:M[so]?=some (.lst (rts es))
 b:M[bo]?=some (.lst (rts bs))
 el:es.length=rs.length
 bl:bs.length=rs.length
 bq:∀k:Nat,k<rs.length->cq bs k=bd rs (λz=>cq hs z-cq es z) k
 tk:Tk rs (cq hs) (cq fx) (cq es) (Pf rs f)
structure Gv(rs:List Pt) (hs fx al:List Rat) (M:Sto) (n m ao:Nat):Prop where
 r:M[n]?=some (.lst (prs rs))
 h:M[m]?=some (.lst (rts hs))
 a:M[ao]?=some (.lst (rts al))
 S:Smo rs
 hb:Nr 200 rs
 hl:rs.length<=14
 e:hs.length=rs.length
 fl:fx.length=rs.length
 ll:al.length=rs.length
 aq:∀k:Nat,k<rs.length->cq al k=bd rs (cq hs) k
 hz:∀x∈hs,Sz 102 x
 w:∀k:Nat,k<rs.length->∃I:Int,I.natAbs<=2^130/\(60:Rat)*bd rs (cq hs) k=I
theorem Gv.up(g:Gv rs hs fx al M n m ao)(K:Kp M M'):Gv rs hs fx al M' n m ao:={g with r:=K.get g.r,h:=K.get g.h,a:=K.get g.a}
theorem Zon(h0:0<rs.length)(z:Int):∃t:Nat,t<rs.length/\z%(rs.length:Int)=t:=by
 have l:=aX z (show(0:Int)<rs.length by lia)
 have g:=bF z (show(rs.length:Int)≠0 by lia)
 exact⟨(z%(rs.length:Int)).toNat,⋯,⋯⟩
theorem Zn9{t:Nat}(e:z%(rs.length:Int)=t):Pf rs f z↔f t=true:=by
 unfold Pf;rw[e,be]
theorem ZrJ(h:u.length=rs.length){t:Nat}(e:z%(rs.length:Int)=t):cq u z=cq u t:=by
 have:=Zch (hs:=u) (i:=z)
 rw[h,e]at this;exact this.symm
theorem ZeQ(h:u.length=rs.length)(z:Int):cq u (z%(rs.length:Int))=cq u z:=by rw[<-h,Zch]
theorem ZlW{pl:Nat}(G:Gv rs hs fx al M n m ao)(T:St rs hs fx es bs f M pl so bo)(ht:t<rs.length)(h:nxf bs f t=true):cq fx t<cq hs t:=by
 have e0:((t:Nat):Int)%(rs.length:Int)=t:=bf ⋯ ⋯
 by_cases c:f t=true
 .exact T.tk.sub t ((Zn9 e0).mpr c)
 .have:cq bs t<0:=by
   unfold nxf at h;simp[c]at h;exact h
  rw[T.bq t ht]at this;exact T.tk.new G.S (λz=>c ((Zn9 e0).mp z)) this
theorem Zuo{pl:Nat}(G:Gv rs hs fx al M n m ao)(T:St rs hs fx es bs f M pl so bo):Pl rs (λk=>(tkn (nxf bs f) rs.length).getD k 0) (tkn (nxf bs f) rs.length).length:=
 ZrF T.tk.run (λz hz h=>ZlW G T hz h) λz h=>by rw[ZeQ G.fl,ZeQ G.e]at h;exact h
theorem Zup{pl:Nat}(G:Gv rs hs fx al M n m ao)(T:St rs hs fx es bs f M pl so bo)(hc:∀i,i<(tkn (nxf bs f) rs.length).length->bd rs (ev rs.length (λk=>(tkn (nxf bs f) rs.length).getD k 0) c (tkn (nxf bs f) rs.length).length) ((tkn (nxf bs f) rs.length).getD i 0:Nat)=bd rs (cq hs) ((tkn (nxf bs f) rs.length).getD i 0:Nat)):Tk rs (cq hs) (cq fx) (cq (evl rs.length (tkn (nxf bs f) rs.length) c (tkn (nxf bs f) rs.length).length)) (Pf rs (nxf bs f)):=by
 have l0:0<rs.length:=aV.mpr G.S.ne;rw[show cq (evl rs.length (tkn (nxf bs f) rs.length) c (tkn (nxf bs f) rs.length).length)=ev rs.length (λk=>(tkn (nxf bs f) rs.length).getD k 0) c (tkn (nxf bs f) rs.length).length from funext λz=>ZrG l0 z];refine {T.tk with sub:=λz h=>?_,off:=λz h=>?_,on:=λz h=>?_}
 .obtain⟨t,ht,e⟩:=Zon l0 z;rw[ZrJ G.fl e,ZrJ G.e e];exact ZlW G T ht ((Zn9 e).mp h)
 .refine ZeN λl hl e=>h ((Zn9 e).mpr ?_);rw[Zb9 hl];exact(Zb8.mp (bJ hl)).2
 .obtain⟨t,ht,e⟩:=Zon l0 z;obtain⟨i,hi,ei⟩:=cH (Zb8.mpr ⟨ht,(Zn9 e).mp h⟩)
  have:=hc i hi
  rw[Zb9 hi,ei]at this;rw[ZeO (λz=>ZgB) e,ZeO (λz=>ZeQ G.e z) e];exact this
theorem emp(h:M[n]?=some (.lst (nat P))):eqF 12 (M++[SO.lst []]) (.ref n) (.ref M.length)=some (decide (P=[])):=by
 rw[Zny ((Kp.app (L:=[SO.lst []])).get h) (show(M++[SO.lst []])[M.length]?=some (.lst [])by simp)]
 cases P with
 |nil=>rfl
 |cons a r=>rfl
theorem Zi6{pl:Nat}(G:Gv rs hs fx al M n m ao)(T:St rs hs fx es bs f M pl so bo)(qR:∀M',Kp M M'->mor bs (tkn f rs.length) rs.length=[]->R (.ref so) M')(qN:∀es bs f' pl so bo M' x7 x8 x9 x10,Kp M M'->(tkn f rs.length).length<(tkn f' rs.length).length->St rs hs fx es bs f' M' pl so bo->N [some (.ref n),some (.ref m),some (.ref pl),some (.ref so),some (.ref bo),some (.ref ao),x6,x7,x8,x9,x10] M'):wS (ZaS [some (.ref n),some (.ref m),some (.ref pl),some (.ref so),some (.ref bo),some (.ref ao),x6,x7,x8,x9,x10] M) N R B C E:=by
 have l0:0<rs.length:=aV.mpr G.S.ne;have hl:=G.hl;have hn:=Zo G.r;have hp:=Zo T.p;have hs_:=Zo T.s;have hb_:=Zo T.b;have gr:=G.r;simp! -implicitDefEqProofs [ZaS,gr,ZG];refine⟨⋯,?_⟩
 rw[be];refine ZrD (Kp.app.get T.p) (Kp.app.get T.b) T.bl ⋯ (by simp) ⋯ ⋯ λx8=>?_
 have K1:Kp M ((M++[SO.lst []]).set M.length (.lst (nat (mor bs (tkn f rs.length) rs.length)))):=Kp.app.set (ae _);have r1:((M++[SO.lst []]).set M.length (.lst (nat (mor bs (tkn f rs.length) rs.length))))[M.length]?=some (.lst (nat (mor bs (tkn f rs.length) rs.length))):=ay (by simp)
 have l1:M.length<((M++[SO.lst []]).set M.length (.lst (nat (mor bs (tkn f rs.length) rs.length)))).length:=by simp
 generalize (M++[SO.lst []]).set M.length (.lst (nat (mor bs (tkn f rs.length) rs.length)))=M1 at *;have em:=emp r1;simp! -implicitDefEqProofs [em];refine brS (λc=>?_) (λc=>?_)
 .simp! -implicitDefEqProofs [];exact qR _ (K1.trans Kp.app) c
 .have K2:Kp M (M1++[SO.lst []]):=K1.trans Kp.app;have r2:=(Kp.app (L:=[SO.lst []])).get r1;have l2:M.length<(M1++[SO.lst []]).length:=by simp;lia
  generalize M1++[SO.lst []]=M2 at *;have p2:=K2.get T.p;have tl:=ZfA (n:=rs.length) (f:=f);have ml:=ZjK (k:=rs.length) (bs:=bs) (P:=tkn f rs.length);simp! -implicitDefEqProofs [p2,r2];refine⟨⋯,?_⟩
  have r3:(M2++[SO.lst (nts ((tkn f rs.length).map (λz:Nat=>(z:Int))++(mor bs (tkn f rs.length) rs.length).map (λz:Nat=>(z:Int))))])[M2.length]?=some (.lst (nts ((tkn f rs.length).map (λz:Nat=>(z:Int))++(mor bs (tkn f rs.length) rs.length).map (λz:Nat=>(z:Int))))):=by simp
  have K3:=K2.trans (Kp.app (L:=[SO.lst (nts ((tkn f rs.length).map (λz:Nat=>(z:Int))++(mor bs (tkn f rs.length) rs.length).map (λz:Nat=>(z:Int))))]));rw[Zuk r3 (by rw[aI,af,af];lia),ZrE]
  clear r2;generalize M2++[SO.lst (nts ((tkn f rs.length).map (λz:Nat=>(z:Int))++(mor bs (tkn f rs.length) rs.length).map (λz:Nat=>(z:Int))))]=M3 at *;have L:=Zuo G T;have tk:=λc h=>Zup (c:=c) G T h;have lt:(tkn f rs.length).length<(tkn (nxf bs f) rs.length).length:=by
   have:=(ZjM (n:=rs.length) (bs:=bs) (f:=f)).length_eq
   rw[aI]at this
   have:=aV.mpr c
   lia
  have pn:∀z∈tkn (nxf bs f) rs.length,z<rs.length:=λz hz=>(Zb8.mp hz).1;have pm:=ZfA (n:=rs.length) (f:=nxf bs f);have qN':=λes bs' pl so bo M' x7 x8 x9 x10=>qN es bs' (nxf bs f) pl so bo M' x7 x8 x9 x10;clear qN qR c ml;generalize nxf bs f=f' at *;generalize hP:tkn f' rs.length=P at *;have K4:Kp M (M3++[SO.lst (nat P)]):=K3.trans Kp.app;have r4:(M3++[SO.lst (nat P)])[M3.length]?=some (.lst (nat P)):=by simp
  have l3:=K3.1;simp! -implicitDefEqProofs [];generalize M3++[SO.lst (nat P)]=M4 at *;refine Zn5 (K4.get G.r) G.S.ne G.hb hl r4 ⋯ pn λTf M5 K5 t5 tl5 tr5=>?_
  have K05:=K4.trans K5;have a5:=K05.get G.a;have all_:=G.ll;simp! -implicitDefEqProofs [];refine ZkT (λρ=>∃x,ρ=[x,some (.ref ao)]) (λi=>rt (cq al (P.getD i 0:Nat))) (K5.get r4) (by simp[nts];lia) ⟨_,rfl⟩ ?_ ?_
  .rintro i hi ρ L9 ⟨x,rfl⟩;have hi':i<P.length:=by simpa [nts]using hi
   have a6:=(Kp.app (L:=L9)).get a5;have pi:=pn _ (bJ hi');rw[ZjI,Zb9 hi'];generalize P[i]=t at *;simp! -implicitDefEqProofs [a6,Zbv];exact⟨_,rfl⟩
  rw[show(nat P).length=P.length by simp[nts],show(aC P.length).map (λi=>rt (cq al (P.getD i 0:Nat)))=rts ((aC P.length).map λi:Nat=>cq al (P.getD i 0:Nat))by simp[rts]]
  have W:∀i,i<P.length->∃I:Int,I.natAbs<=2^130/\(60:Rat)*cq al (P.getD i 0:Nat)=I:=λi hi=>by
   rw[G.aq _ (L.lt i hi)];exact G.w _ (L.lt i hi)
  have SL:=Zui (w:=λi=>cq al (P.getD i 0:Nat)) G.S G.hb hl L W;have t6:=(Kp.app (L:=[SO.lst (rts ((aC P.length).map λi:Nat=>cq al (P.getD i 0:Nat)))])).get t5;have r6:(M5++[SO.lst (rts ((aC P.length).map λi:Nat=>cq al (P.getD i 0:Nat)))])[M5.length]?=some (.lst (rts ((aC P.length).map λi:Nat=>cq al (P.getD i 0:Nat)))):=by simp
  simp! -implicitDefEqProofs [];refine Zk7 (g:=gs (tA rs (λk=>P.getD k 0) P.length λi=>cq al (P.getD i 0:Nat))) (m:=P.length) SL ⋯ t6 tl5 (λj hj=>?_) r6 (by simp) (λj hj=>?_) ⋯ λr M7 K7 lr r7=>?_
  .rw[(Kp.app (L:=[SO.lst (rts ((aC P.length).map λi:Nat=>cq al (P.getD i 0:Nat)))])).get (tr5 j hj ⋯)]
   congr 2;refine congrArg rts (eN (by simp) λa h1 h2=>?_)
   simp at h1
   have:j<P.length:=⋯
   simp[gs,tA,h1,this]
  .rw[Z4 (by simpa using hj)]
   simp[gs,tA]
  have sol:∀i,i<P.length->bd rs (ev rs.length (λk=>P.getD k 0) (λl=>gs (tA rs (λk=>P.getD k 0) P.length λi=>cq al (P.getD i 0:Nat)) P.length l P.length) P.length) (P.getD i 0:Nat)=bd rs (cq hs) (P.getD i 0:Nat):=λi hi=>by
   rw[<-G.aq _ (L.lt i hi),ZlU (p:=λk=>P.getD k 0) G.S L (ae _) hi (ae _)];unfold tA;rw[if_neg ⋯]
  have evz:=Zn4 (p:=λk=>P.getD k 0) (j:=P.length) G.S G.hb hl L W (ae _) (ae _);have TK:=tk _ sol;have ez:∀x∈evl rs.length P (λl=>gs (tA rs (λk=>P.getD k 0) P.length λi=>cq al (P.getD i 0:Nat)) P.length l P.length) P.length,Sz 400 x:=λx hx=>by
   obtain⟨t,_,rfl⟩:=cx.mp hx;exact evz t
  clear sol evz tk;have K07:=K05.trans (Kp.app.trans K7);generalize hc:(λl=>gs (tA rs (λk=>P.getD k 0) P.length λi=>cq al (P.getD i 0:Nat)) P.length l P.length)=cf at *;have p7:=(Kp.app.trans K7).get (K5.get r4);have l5:=K05.1;have l7:=(Kp.app.trans K7).1;simp! -implicitDefEqProofs [];refine ZkT (λρ=>∃x,ρ=[x]) (λ_=>rt 0) (K07.get G.r) (by rw[ZG];lia) ⟨_,rfl⟩ ?_ ?_
  .rintro i hi ρ L9 ⟨x,rfl⟩;simp! -implicitDefEqProofs [];exact⟨⟨_,rfl⟩,rfl⟩
  rw[ZG,show(aC rs.length).map (λ_=>rt 0)=rts (aB rs.length 0)by rw[rts,List.map_replicate,j8,dk]]
  have K8:Kp M7 (M7++[SO.lst (rts (aB rs.length 0))]):=Kp.app;have s8:(M7++[SO.lst (rts (aB rs.length 0))])[M7.length]?=some (.lst (rts (aB rs.length 0))):=by simp
  generalize M7++[SO.lst (rts (aB rs.length 0))]=M8 at *;have p8:=K8.get p7;have r8:=K8.get r7;have lr7:=Zo r7;have lp7:=Zo p7;simp! -implicitDefEqProofs [p8];refine⟨⋯,?_⟩
  rw[be];refine ZrH (c:=cf) L ⋯ p8 s8 r8 (by simp) (λj hj=>?_) ⋯ ⋯ λx8=>?_
  .rw[Z4 (by simpa using hj)]
   simp
  have K9:Kp M (M8.set M7.length (.lst (rts (evl rs.length P cf P.length)))):=(K07.trans K8).set ⋯
  have s9:(M8.set M7.length (.lst (rts (evl rs.length P cf P.length))))[M7.length]?=some (.lst (rts (evl rs.length P cf P.length))):=ay (Zo s8);have p9:(M8.set M7.length (.lst (rts (evl rs.length P cf P.length))))[M3.length]?=some (.lst (nat P)):=by rw[ah ⋯];exact p8
  have el9:=ZbH (nn:=rs.length) (P:=P) (c:=cf) (k:=P.length);generalize M8.set M7.length (.lst (rts (evl rs.length P cf P.length)))=M9 at *;generalize evl rs.length P cf P.length=es' at *;have h9:=(Kp.app (L:=[SO.lst []])).get (K9.get G.r);simp! -implicitDefEqProofs [h9,ZG];refine⟨⋯,?_⟩
  rw[be];have l9:=Zo s9;have lm9:=Zo (K9.get G.h);refine ZrI (Kp.app.get (K9.get G.h)) G.e G.hz (Kp.app.get s9) el9 ez ⋯ (by simp) ⋯ ⋯ λx8=>?_
  have K10:Kp M9 ((M9++[SO.lst []]).set M9.length (.lst (rts (ZcX hs es')))):=Kp.app.set (ae _);have r10:((M9++[SO.lst []]).set M9.length (.lst (rts (ZcX hs es'))))[M9.length]?=some (.lst (rts (ZcX hs es'))):=ay (by simp)
  generalize (M9++[SO.lst []]).set M9.length (.lst (rts (ZcX hs es')))=M10 at *;have K010:=K9.trans K10;simp! -implicitDefEqProofs [];refine ZgC (K010.get G.r) G.S.ne G.hb ⋯ r10 (Zbp G.e el9) (ZnK G.hz ez) ⋯ λbs' bl' bq'=>?_
  have K11:Kp M10 (M10++[SO.lst (rts bs')]):=Kp.app;refine qN' es' bs' _ _ _ _ _ _ _ _ (K010.trans K11) ⋯ ⟨by rw[hP];exact(K10.trans K11).get p9,(K10.trans K11).get s9,by simp,el9,bl',λk hk=>?_,TK⟩
  rw[bq' k hk,show(λz=>cq hs z-cq es' z)=cq (ZcX hs es')from funext λz=>(Zn8 G.e el9 l0 z).symm];rfl
theorem ZlX{nn:Nat}(z:Int):cq (aB nn 0) z=0:=by
 unfold cq;rw[aK,jE]
 split<;>rfl
theorem ZrK{pl:Nat}(G:Gv rs hs fx al M n m ao)(T:St rs hs fx es bs f M pl so bo)(c:mor bs (tkn f rs.length) rs.length=[]):es=ZcX hs fx:=by
 have l0:0<rs.length:=aV.mpr G.S.ne;have e:=T.tk.end_ G.S λz h=>by
  obtain⟨t,ht,et⟩:=Zon l0 z;rw[ZeO (λz=>by rw[ZeQ G.e,ZeQ T.el]) et,<-T.bq t ht]
  refine Rat.not_lt.mp λq=>?_
  have:t∈mor bs (tkn f rs.length) rs.length:=by
   rw[ZlV];refine f8.mpr ⟨cu.mpr ht,?_⟩;rw[decide_eq_true q];cases hf:f t with
   |true=>exact absurd ((Zn9 et).mpr hf) h
   |false=>rfl
  rw[c]at this;cases this
 exact Zq2 T.el (Zbp G.e G.fl) λi hi=>by rw[Zgj G.e G.fl hi,e]
theorem w60(hne:rs≠[])(hb:Nr 200 rs)(e:hs.length=rs.length)(hz:∀x∈hs,Hq x)(k:Int):∃I:Int,I.natAbs<=2^130/\(60:Rat)*bd rs (cq hs) k=I:=by
 have l0:0<rs.length:=aV.mpr hne;have m:∀z,Hq (cq hs z):=λz=>by
  obtain⟨t,ht,et⟩:=Zon l0 z;rw[ZrJ e et,Z4 ⋯]
  exact hz _ (bJ _)
 obtain⟨_,a,a1,a2⟩:=m (k-1);obtain⟨_,b,b1,b2⟩:=m (k+1);obtain⟨_,c,c1,c2⟩:=m k;have t1:(DL.T rs k).natAbs<2^17:=by
  have:=ZrZ (hb _ (ZQ (i:=k-1) hne)) (hb _ (ZQ (i:=k+1) hne))
  unfold DL.T;lia
 refine⟨a+b+DL.T rs k*c,?_,?_⟩
 .have h1:=gP (a+b) (DL.T rs k*c);have h2:=gP a b;have h3:=bG (cM t1) c1;rw[<-a7]at h3;have h4:2*(60*2^102)+2^17*(60*2^102)<=2^130:=by decide +kernel
  generalize 2^17*(60*2^102)=u at *;generalize 60*2^102=v at *;lia
 .rw[gj,gj,aP,<-a2,<-b2,<-c2];unfold bd;grind
theorem Zk8(h:M[n]?=some (.lst (prs rs)))(S:Smo rs)(hb:Nr 200 rs)(hl:rs.length<=14)(h':M[m]?=some (.lst (rts hs)))(e:hs.length=rs.length)(hz:∀x∈hs,Hq x)(fl:fx.length=rs.length)(le:∀z,cq fx z<=cq hs z)(bn:∀z,0<=bnd rs fx z)(b0:∀z,cq fx z<cq hs z->bnd rs fx z=0)(rn:BA.Run rs λz=>cq fx z<cq hs z)(q:∀r M',Kp M M'->M'[r]?=some (.lst (rts (ZcX hs fx)))->Q (.ref r) M'):wO (F_law_stuck [.ref n,.ref m] M) Q E:=by
 have l0:0<rs.length:=aV.mpr S.ne;have hn:=Zo h;have hm:=Zo h';have hz1:∀x∈hs,Sz 102 x:=λx hx=>(hz x hx).1;simp! -implicitDefEqProofs [F_law_stuck,Zda];refine ZkT (λρ=>∃x,ρ=[x]) (λ_=>rt 0) ((Kp.app (L:=[SO.lst []])).get h) (by rw[ZG];lia) ⟨_,rfl⟩ ?_ ?_
 .rintro i hi ρ L9 ⟨x,rfl⟩;simp! -implicitDefEqProofs [];exact⟨⟨_,rfl⟩,rfl⟩
 rw[ZG,show(aC rs.length).map (λ_=>rt 0)=rts (aB rs.length 0)by rw[rts,List.map_replicate,j8,dk]]
 have K1:Kp M (M++[SO.lst [],SO.lst (rts (aB rs.length 0))]):=Kp.app;have p1:(M++[SO.lst [],SO.lst (rts (aB rs.length 0))])[M.length]?=some (.lst (nat [])):=by simp[nts]
 have s1:(M++[SO.lst [],SO.lst (rts (aB rs.length 0))])[M.length+1]?=some (.lst (rts (aB rs.length 0))):=by simp
 simp! -implicitDefEqProofs [];generalize M++[SO.lst [],SO.lst (rts (aB rs.length 0))]=M1 at *;refine ZgC (K1.get h) S.ne hb ⋯ (K1.get h') e hz1 ⋯ λal ll aq=>?_
 have K2:=K1.trans (Kp.app (L:=[SO.lst (rts al)]));have b2:(M1++[SO.lst (rts al)])[M1.length]?=some (.lst (rts al)):=by simp
 have p2:=(Kp.app (L:=[SO.lst (rts al)])).get p1;have s2:=(Kp.app (L:=[SO.lst (rts al)])).get s1;have h2:=K2.get h;generalize M1++[SO.lst (rts al)]=M2 at *;simp! -implicitDefEqProofs [b2];have K3:=K2.trans (Kp.app (L:=[SO.lst (rts al)]));have a3:(M2++[SO.lst (rts al)])[M2.length]?=some (.lst (rts al)):=by simp
 have b3:=(Kp.app (L:=[SO.lst (rts al)])).get b2;have p3:=(Kp.app (L:=[SO.lst (rts al)])).get p2;have s3:=(Kp.app (L:=[SO.lst (rts al)])).get s2;have h3:=K3.get h;generalize M2++[SO.lst (rts al)]=M3 at *;have G:Gv rs hs fx al M3 n m M2.length:=⟨h3,K3.get h',a3,S,hb,hl,e,fl,ll,aq,hz1,λk _=>w60 S.ne hb e hz k⟩;have T:St rs hs fx (aB rs.length 0) al (λ_=>false) M3 M.length (M.length+1) M1.length:=by
  have e0:tkn (λ_=>false) rs.length=[]:=by simp[tkn]
  refine⟨by rw[e0];exact p3,s3,b3,by simp,ll,λk hk=>?_,⟨le,bn,b0,rn,λz h=>?_,λz _=>ZlX z,λz h=>?_⟩⟩
  .rw[aq k hk,show(λz=>cq hs z-cq (aB rs.length 0) z)=cq hs from funext λz=>by rw[ZlX];grind]
   rfl
  .cases h
  .cases h
 clear a3 b3 p3 s3 b2 p2 s2 h2;generalize M.length=pl at *;simp! -implicitDefEqProofs [h3,ZG];refine⟨⋯,?_⟩
 rw[be];refine Zbu (n:=rs.length) (lo:=0) (λi ρ M'=>∃f es bs pl so bo x6 x7 x8 x9 x10,ρ=[some (.ref n),some (.ref m),some (.ref pl),some (.ref so),some (.ref bo),some (.ref M2.length),x6,x7,x8,x9,x10]/\St rs hs fx es bs f M' pl so bo/\Kp M3 M'/\i<=(tkn f rs.length).length) ⟨_,_,_,_,_,_,_,_,_,_,_,rfl,T,Kp.refl,⋯⟩ ?_ ?_
 .rintro i ρ M4 hi ⟨f,es,bs,pl,so,bo,x6,x7,x8,x9,x10,rfl,T4,K4,le4⟩;simp! -implicitDefEqProofs [];refine Zi6 (G.up K4) T4 (λM5 K5 c=>?_) λes' bs' f' pl' so' bo' M5 x7 x8 x9 x10 K5 lt T5=>⟨f',es',bs',pl',so',bo',_,_,_,_,_,rfl,T5,K4.trans K5,⋯⟩
  have s5:=K5.get T4.s;rw[ZrK (G.up K4) T4 c]at s5;exact q so M5 (K3.trans (K4.trans K5)) s5
 .rintro ρ M4 ⟨f,es,bs,pl,so,bo,x6,x7,x8,x9,x10,rfl,T4,K4,le4⟩;exfalso;have all:∀a∈aC rs.length,f a=true:=by
   refine List.length_filter_eq_length_iff.mp ?_
   have:=ZfA (n:=rs.length) (f:=f)
   rw[dk];unfold tkn at *;lia
  obtain⟨d,d1,d2,d3⟩:=ZgA T4.tk.run l0 0;refine d3 (T4.tk.sub _ ?_);obtain⟨t,ht,et⟩:=Zon l0 (0+(d:Int));exact(Zn9 et).mpr (all t (cu.mpr ht))
theorem ZwK(h:wO (fs ρ M) (λds M1=>∃i j c,ds=[.int i,.int j,.int c]/\(-(2^62)<=i/\i<2^62/\ -(2^62)<=j/\j<2^62/\1<=c/\c<=1000)/\QS (.pur (Zis i c (stN i j c))) M1) E):wO (iR3 fs ρ M) QS E:=by
 unfold iR3;rw[ZA];refine Zb0 h (λds M1 k=>?_) (λ_ _ z=>z);obtain⟨i,j,c,rfl,b,q⟩:=k;show wO (if _ then _ else _) QS E
 rw[if_pos b];exact q
theorem q_s:eqF (l+1) M (.str t) (.str u)=some (decide (t=u)):=rfl
theorem Zoa{ns:List Int}{i:Nat}(hN:∀x1 x2 x3 x4 M',N [some (.rol (ns.map D.int)),x1,x2,x3,x4] M'):wS (ZdY [some (.rol (ns.map D.int)),some (.int i),x2,x3,x4] M) N R B C E:=by
 simp![ZdY];refine CC.ZbV λc c0=>?_;obtain⟨far,ef,f1⟩:∃far:Int,atI [D.int 20,D.int 20,D.int 9,D.int 60] (c/3%4)=some (.int far)/\0<=far/\far<=1000000000000000000000000000000:=by
  rcases(show c/3%4=0\/c/3%4=1\/c/3%4=2\/c/3%4=3 by lia)with e|e|e|e<;>rw[e]
  .exact⟨20,rfl,by decide,by decide⟩
  .exact⟨20,rfl,by decide,by decide⟩
  .exact⟨9,rfl,by decide,by decide⟩
  .exact⟨60,rfl,by decide,by decide⟩
 simp![ef];refine Zk2 f1 λrs hs n m M2 s1 s2 s3 e z K1 g1 r2=>?_;have z1:∀x∈hs,Sz 102 x:=λx hx=>(z x hx).1;have r2':=(Kp.app (L:=[SO.lst (prs rs)])).get r2;simp![g1,r2'];have A:(M2++[SO.lst (prs rs),SO.lst (rts hs)])[M2.length]?=some (.lst (prs rs)):=by simp
 have Bf:(M2++[SO.lst (prs rs),SO.lst (rts hs)])[M2.length+1]?=some (.lst (rts hs)):=by simp
 have K3:Kp M2 (M2++[SO.lst (prs rs),SO.lst (rts hs)]):=Kp.app;generalize M2++[SO.lst (prs rs),SO.lst (rts hs)]=M3 at *;have r1:=K3.get g1;have r3:=K3.get r2;generalize M2.length=o2 at *;have l0:0<rs.length:=aV.mpr s1.ne;have qs:∀M',eqF 12 M' (.str (PySem.Str.ofString "parted")) (.str (PySem.Str.ofString "parted"))=some true:=λM'=>by rw[q_s];simp
 have qn:∀M',eqF 12 M' (.str (PySem.Str.ofString "none")) (.str (PySem.Str.ofString "parted"))=some false:=λM'=>by rw[q_s];decide +kernel
 refine Zjz A s1 s2 ⋯ Bf e z1 ⋯ (λd M4 no em on4 K4=>?_) (λms a b M4 bo mne zp K4 la lb ra rb ab=>?_)
 .simp![qn];exact hN _ _ _ _ _
 .have fl:(hts rs ms).length=rs.length:=Zc7;simp![qs];have le:∀z:Int,cq (hts rs ms) z<=cq hs z:=λz=>by
   obtain⟨t,ht,et⟩:=Zon l0 z;rw[ZrJ fl et,ZrJ e et];exact Zgx ht mne λp hp=>(bo.1 p).mp hp
  refine Zk8 (K4.get r1) s1 s2 s3 (K4.get r3) e z fl le (Zn1 s1 mne) (λz h=>Zrq s1 mne bo.1 e h) (λa m st=>run s1 mne bo.1 e st) λr M5 K5 r5=>?_;have eq:=ZtT (k:=9) (K5.get rb) r5;rw[decide_eq_true rfl]at eq;simp![eq];exact hN _ _ _ _ _
theorem law_true(ns:List Int)(h:ns.length<=63):∃M',Zfz [.rol (ns.map D.int)] []=.ok (.bl true) M':=by
 have w:wO (Zfz [.rol (ns.map D.int)] []) (λd _=>d=.bl true) (λ_ _=>False):=by
  simp![Zfz,Zrx];refine ZwK ?_;simp![Zp];refine⟨_,_,_,rfl,⋯,?_⟩
  show wS (Zen _ _ _ _ _ _ _) _ _ _ _ _;refine Zgb (λ_ ρ _=>∃x1 x2 x3 x4,ρ=[some (.rol (ns.map D.int)),x1,x2,x3,x4]) (xs:=Zis 0 2 (stN 0 (max 2 (min (ns.length:Int) 5)) 2)) _ 0 _ _ (by simp) (by simp[cnt]) ⟨_,_,_,_,rfl⟩ (λi ρ M hi hI=>rfl) ?_ ?_
  .rintro i ρ M hi ⟨x1,x2,x3,x4,rfl⟩;have e:(Zis 0 2 (stN 0 (max 2 (min (ns.length:Int) 5)) 2))[i]=.int ((2*i:Nat):Int):=by simp[Zis];lia
   rw[e];simp![Zp];exact Zoa λ_ _ _ _ _=>⟨_,_,_,_,rfl⟩
  .rintro ρ M ⟨x1,x2,x3,x4,rfl⟩;simp![Zp]
 obtain⟨d,M',e,rfl⟩:=Zce w;exact⟨M',e⟩
end
end K57
end
namespace K57
open L2 DL
theorem ZwL{l:PySem.W.OpenLaw}{K:kC->Fg}{T:Fg}(hn:l.most=some 63)(hdf:d.params.defaults=[])(hY:∀(w:cO)(h:Heap),YP w h->(K w.params).In h/\T.In h)(hT:∀w:cO,Zf9 (K w.params) T=true)(F:∀(w:cO)(mg:Str->Option aa)(fa:Addr)(h:Heap),(K w.params).In h->h.Ns aM mg->mg d.name=some (.ref fa)->∃fd:hX,(∀(s:aH)(u:aa),kZ s fd ⟨[u],[]⟩ [("_law_script",u)])/\∀base:Heap,(K w.params).In base->base.Ns aM mg->FnOk l.prog w (K w.params) mg base (CXE l.prog w) 109 fa fd ["_law_script"] (spD (K w.params) Zfz)):PySem.W.WalkO q loose XP YP l.row.toRowW d [] (λf vs=>PySem.call f vs):=
 L2.ZkJ (T:=λ_=>T) (n:=63) (k:=109) (x:="_law_script") (CX:=λw=>CXE l.prog w) (sp:=λw=>spD (K w.params) Zfz) hn (by decide) hdf ⟨λ_=>rfl,rfl,by decide,by decide⟩ hY hT F (λ_ _ a ns hl hS=>DL.Znh hS (law_true ns hl)) λ_ _ _ _ _ h=>by obtain⟨_,_,_,_,_,_,_,_,_,_,_,_,_,q⟩:=h;exact q
end K57
open PySem.W PyProof.Rows
set_option maxRecDepth 1000000 in
set_option maxHeartbeats 0 in
theorem PySem.Challenge.cw_rayround_k57_parted_by_bends_alone_holds : PySem.Challenge.rw_rayround_k57_parted_by_bends_alone.Holds := by
 w_on
 refine holds_law K57.ZvC λ_=>?_;refine holds_open (q:=K57.qf PySem.Challenge.pw_rayround_k57_parted_by_bends_alone) (loose:=K57.lo) (Xt:=λs=>xlAt (K57.qf PySem.Challenge.pw_rayround_k57_parted_by_bends_alone) [] s&&recOk [] s) (XP:=XL (K57.qf PySem.Challenge.pw_rayround_k57_parted_by_bends_alone) []) (Yf:=Hook.obs K57.Hk) (Ya:=Hook.val K57.Hk) (YP:=Hook.says K57.Hk) (N:=2766) ?hl (Hook.of K57.Hk) (Hook.keeps K57.Hk) (λs e=>xl_of s (kX.mp e).1) XL.keeps (by rfl) (by rfl) (by rfl) (λs e=>recFacts_of (kX.mp e).2) (by rfl) (by first|assumption|decide +kernel) (by decide +kernel) ⟨rfl,rfl,rfl,rfl,rfl,by decide +kernel⟩ ?hw ?hc
 case hl=>exact HD.Zhw rfl (by decide) (λs=>rfl) (by decide) K57.Zsk
 case hw=>w_witness2
 case hc=>
  refine K57.ZwL (l:=PySem.Challenge.rw_rayround_k57_parted_by_bends_alone) (K:=K57.Kf PySem.Challenge.pw_rayround_k57_parted_by_bends_alone) (T:=K57.Tf) rfl rfl (λw h Y=>⟨DL.Zni (PySem.W.kIn_of Y),DL.ZkK (PySem.W.kIn_of Y) (by kernel_rfl)⟩) (λw=>by kernel_rfl) ?F
  intro w mg fa h KX G hmg;refine K57.fin KX G hmg ⟨DL.Bs.of KX G ?_,λc v e=>PySem.W.mg_of KX G e,DL.Dfs.of ?_,?_,?_,?_,?_,?_⟩
  all_goals kernel_rfl
