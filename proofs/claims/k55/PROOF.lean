import PyProof.Rows.All
import Wide.All
import OpenK.AllK
import Wide.FinOn
import Lean
import PyProof.EqAt
import PyProof.EqKinds
import PyProof.TupleCall
import PyProof.FString
import PyProof.Rows.TupIter
import KE.KDictList
import PyProof.ZipIter
import PyProof.ListNew
import PyProof.RulesAssignMore
import PyProof.ReprRoads
import PyProof.FitsInt
import PyProof.Rows.Range3
import KE.KSortKey
import KE.KLam
import PyProof.CallFns
import PyProof.StrWalks
import KE.KIntText
import PySem.Challenge.RW_rayround_k55_heights_parted
set_option maxRecDepth 100000
set_option linter.all false
set_option Elab.async false
set_option maxHeartbeats 4000000
noncomputable section
set_option bootstrap.genMatcherCode false
set_option genSizeOf false
set_option genSizeOfSpec false
set_option compiler.extract_closed false
open And renaming intro→kY
open Array renaming getElem?_eq_some_iff→cR,getElem?_eq_getElem→dO,forIn_toList→eL,getElem?_setIfInBounds_self_of_lt→fg,length_toList→fI,toList_append→fM,perm_iff_toList_perm→iP,getElem?_toList→jY
open Bool renaming false_eq_true→aQ,and_eq_true→aT,false_ne_true→bT,not_true→el,and_eq_true_iff→kI,and_true→lh
open False renaming elim→fj
open Int renaming mul_nonneg→aZ,emod_lt_of_pos→bA,natAbs_mul→bH,toNat_natCast→bR,emod_nonneg→bX,emod_eq_of_lt→cS,add_zero→cT,mul_le_mul_of_nonneg_right→eJ,gcd→eZ,natAbs_sub_le→ff,mul_comm→fC,lt_or_le→fE,toNat_of_nonneg→fP,le_of_lt→gL,natCast_ediv→gS,fmod_eq_emod_of_nonneg→iR,fdiv_eq_ediv_of_nonneg→iS,add_emod_right→iT,emod_add_emod→i8,neg_mul→i9,mul_pos→jb,dvd_mul_of_dvd_right→ji,dvd_mul_of_dvd_left→jz,natCast_dvd_natCast→jA,emod_emod_of_dvd→kD,mul_neg→kH,one_mul→lZ
open List renaming getElem?_append_left→ae,mem_cons→ah,getElem?_eq_getElem→am,size_toArray→ao,getElem?_eq_some_iff→ar,length_map→ay,mem_cons_of_mem→aA,getElem?_set_ne→aE,getElem?_set_self→aF,length_append→aG,replicate→aH,getElem?_eq_none→aJ,getD_eq_getElem?_getD→aK,range→aL,map_cons→aP,getElem?_append_right→aR,mem_append_right→aS,take_succ_eq_append_getElem→aV,getElem?_eq_none_iff→aW,getElem?_map→bp,mem_append→bq,not_mem_nil→bw,cons_append→bC,mem_cons_self→bE,length_replicate→bI,length_pos_iff→bK,length_cons→bO,getElem_mem→bQ,take_of_length_le→bS,lookup_cons→bZ,zipWith→b8,mem_singleton→b9,mem_map→cf,Nodup→cg,mem_range→cA,append_nil→cC,map_append→cD,range_succ→cJ,length_take→cM,getElem_of_mem→cU,take_length→cZ,getElem?_take_of_lt→c7,eq_nil_of_length_eq_zero→da,getElem?_cons_succ→df,length_set→dh,filterMap_cons→dj,map_congr_left→dm,drop_eq_nil_of_le→dz,getElem?_toArray→dJ,drop_eq_getElem_cons→dN,mem_append_left→dY,mem_of_getElem?→dZ,append_assoc→d6,all_eq_true→eI,nodup_cons→eN,length_nil→eQ,length_singleton→eX,mem_of_mem_take→ft,length_drop→fw,exists_mem_of_ne_nil→fH,Pairwise→jc,mem_filter→fX,of_mem_zip→fZ,forIn_cons→f6,forIn_nil→gB,zipWith_cons_cons→gD,map_map→gI,getElem_cons_zero→gJ,ext_getElem→gU,nil_append→hW,zipIdx_nil→ia,foldl_cons→ii,take_succ_cons→il,map_nil→im,zip_cons_cons→iF,mem_replicate→iN,pairwise_cons→iQ,pairwise_iff_getElem→iX,nodup_append→iZ,length_range→i4,ext_getElem?→i6,getElem_append_left→jl,zipIdx_cons→js,getElem_map→ju,getElem?_cons_zero→jv,length_eq_zero_iff→jy,mem_flatMap→jB,getElem_cons_succ→jM,find?_cons→jS,getElem?_zipWith→jZ,take_append_drop→j3,length_filter_le→j5,take_zero→kC,getElem_zipWith→kE,mem_of_mem_drop→kF,flatMap_append→k8,any_cons→lg,map→lP
open List.Pairwise renaming imp_of_mem→jj
open List.cons renaming injEq→fW
open Nat renaming le_refl→ac,lt_of_lt_of_le→aj,ne_of_lt→au,ne_of_gt→aO,le_trans→aU,pow_le_pow_right→aY,lt_irrefl→cj,mul_le_mul→cB,le_of_lt→dw,zero_le→dB,lt_succ_self→dE,pos_of_ne_zero→dI,mul_ne_zero→eU,not_lt_of_le→fA,zero_add→fB,lt_of_le_of_lt→gf,lt_trans→gv,sub_self→gy,lt_succ_of_lt→gA,lcm→gK,min_eq_left→ib,div_le_self→ig,add_comm→ip,gcd→ir,add_assoc→je,le_of_not_lt→jr,min_self→jJ,gcd_comm→jL,pow_succ→jN,eq_one_of_dvd_one→j4,mul_le_mul_right→kG,mul_le_mul_left→k9,le_of_eq→lQ,le_succ→lW,pow_add→l4
open Ne renaming symm→bW
open Option renaming isSome_iff_exists→eB,isNone_iff_eq_none→fF,map_eq_some_iff→gu,isSome_some→iM
open Option.some renaming injEq→aq,inj→aN
open Or renaming inl→dM,inr→jH
open Prod renaming ext→gq
open Prod.mk renaming injEq→lf
open PyProof.Rows renaming seqObj→bv,wpS_bind→bG,callWith_type1→bV,wpS_pure→cI,IsTupIter→dF,SortSt→dP,slot_tuple_getitem→eF,slot_tupleiter_next→fK,setPending→gg,IntsAre→gr,wpS_forRange→gG,Keyed→gQ,AllBare→gW,IsTup→gY,get?_update_seq→ic,listItems_at→iq,assignInOrder_cons→iG,envOfC→iI,mirror→jg,listUpdate_at→jh,pendingOf→jt,subscriptTail_builtinR→jG,entry_tupleiter_next→kr,mirror_perm→ku,wpS_reverse→kx,failedOf→kz,args_tupleiter_next→k7,firstOfTuple'→lj,size_push'→lG,wpS_get→lN,tuples'→lO
open PySem renaming Value→aa,starEach→av,model→aw,Shared→aC,Builtin→cV,mainGlobals→aI,wpAny_field→aX,NameKind→cG,Heap→ma,bootBuiltins→bB,wpAny_newObj_type→bD,cellsFrom→bN,assignEach→bU,wpAny_call_entry→bY,wpAny_callSpecial?_slot→cu,Program→cw,Around→cX,World→cL,backTo→cN,wpAny_setField→cO,rawInt→cQ,wpAny_isInstance→cY,sizeLine_eq→c9,wpAny_typeNameOfWhole_keyiter→dc,compareOp→dD,wpAny_setField_rec→dH,wpAny_passesOwn→dQ,wpAny_truthy_bool→dX,wpAny_attempt→d8,swappedStores→eA,wpAny_typeNameOf_keyiter→eE,binaryOp→eM,importedModules→eO,wpAny_updateSeq→eS,PassesOwn→eV,pyNext→eW,codeAny→eY,keywordEach→fk,compTurn→fm,codeAmong→fv,swapsWithSole→fQ,behindInMarks→fR,wpAny_specialOf→fV,letOwnedTupleGo→fY,sysModules→f8,builtinsNs→f9,IsRangeIter→gj,sliceBounds→gk,tupleKeyHash→gp,wpAny_pyIter_list→gz,isSubtype_tuple_tuple→gM,Scope→gN,wpAny_isOneOf_keyiter→gP,wpAny_forIn_list→gR,attributeBase→gX,FuncData→gZ,bindArgs→hG,IsZip→hO,wpAny_letGo→hU,wpAny_execs_nil→hV,preSum→hZ,Keyword→io,TriplesOk→iu,swapsWith→iy,pushCells→iz,firstArgMember→iA,field→iB,cLine→iC,wpAny_tupleItemsOf→iE,recursionLimit→iH,backToKw→iK,Thread→iL,wpAny_fieldsOf→iO,wpAny_letOwnedTupleGo_zip→iW,wpAny_pyIter_slot→i5,wpAny_dictEntries→i7,plainId_quiet→jf,seqItems?→jo,wpAny_pyNext_range_item→jq,wpAny_pyNext_list_item→jE,wpAny_pyIter_rangeiter→jF,denote→jI,wpAny_nextOf_list_item→jK,codeAny_builtin→jQ,wpAny_loadPart'→jR,pushCells_keeps→jT,wpAny_dictEpoch→jU,wpAny_throw→j6,wpAny_of_eq→j7,Params→kc,newFunctionEnv→ko,BindsTo→kM,callerA→kO,DictEntry→kP,treeTable→kW,noteFrame→kX,isInstance→lq,IsPart→lC,typeIs_int→lD,closureFor→lF,codeAny_mono→lH,seqIndex_neg→lI,relabel→lL,eqIsQuiet→lS,seqIndex_of→lX,leaving→mf,getItem→mh
open PySem.Around renaming frames_deeper→j9,under_plainId→kq
open PySem.Builtin.Dict renaming showsAll→jX
open PySem.Builtin.Int renaming intBits→fJ
open PySem.Builtin.List renaming listTooLong→fU,listItems→gH
open PySem.Builtin.Range renaming rangeSize→eH
open PySem.Builtin.Slice renaming slicePlaces→dL,sliceAdjust→fG,sliceApplied→iJ
open PySem.Builtin.SmallTypes renaming nextOf→bM,ownedTupleIsFree→cH,ownedTupleHandOut→fL
open PySem.Builtin.Tuple renaming tupleHashOf→cE,tupleExact→eD,tupleItemsOf→iD
open PySem.Data renaming fields→j8,dict→kR
open PySem.EntryCells renaming newEntry→kZ
open PySem.Heap renaming get?_push_size→az,get?_update_other→aB,get?_update_self→bh,SameBut→dq,size_push→cx,ExtBut→eK
open PySem.Heap.SameBut renaming update→cF
open PySem.NameKind renaming free→c8,cell→dC
open PySem.Obj renaming mapSeq→bg,data_mapFields→cK,isFreed_of_fields→cW,mapFields→dA,cls_mapFields→gn
open PySem.SeqAt renaming EqAt→lx
open PySem.Str renaming ofString→a7,empty→lV
open PySem.Value renaming ref→aM,none→a9,type→bF,builtin→jd,int→jp,str→kJ,bool→ly
open PySem.W renaming boot_heap→dR,SharedT→eG,specialIn→gm,findIn→gx,takesIn→iY,stepOk→ke,mroIn→kh,looks_mroIn→ki,boot_drawn→lE,through→lJ,stepT→lK,boot_toks→lU,clsIn→lY
open Rat renaming intCast_mul→a8,normalize→bJ,intCast_natCast→bL,mul_le_mul_of_nonneg_left→b7,intCast_eq_zero_iff→dg,intCast_pos→dW,le_refl→d7,mul_lt_mul_left→fN,intCast_sub→f7,natCast_mul→ik,intCast_nonpos→iU,num_nonneg→iV,mul_pos→ja,le_trans→jO,intCast_lt_intCast→jP,natCast_pos→jV,intCast_neg→jW,le_of_lt→lR,add_def→l5,mul_def→l7,neg_num→l8,neg_den→l9
open Sum renaming inl→jC,inr→jD
open True renaming intro→dG
open PySem PySem.Spec
theorem Qrf(h:0=0:=by rfl):True:=trivial
theorem Qde(h:0=0:=by decide):True:=trivial
theorem Qin(h:0=0:=by intro _;rfl):True:=trivial
noncomputable abbrev Fg:=PySem.W.Frag
noncomputable abbrev Vp:=aa->aC->Prop
noncomputable abbrev Pn:=List (Addr×Obj)
noncomputable abbrev Wb:=@wpAny_bind
noncomputable abbrev Hq:=@ma.get?_push_of_some
noncomputable abbrev Hz:=@ma.lt_size
noncomputable abbrev Wp:=@wpAny_pure
noncomputable abbrev Gq:=@am
namespace DQ
open PyProof.Rows
noncomputable def ZaX(A:cX)(h:Heap):Prop:=A.handled=none\/∃ea oe vs,A.handled=some (.ref ea)/\h.get? ea=some oe/\oe.data=.fields vs/\vs[2]?=some .none
theorem ZaX.keeps(q:ZaX A h)(k:∀b o,h.get? b=some o->h'.get? b=some o):ZaX A h':=by
 rcases q with q|⟨ea,oe,vs,e1,e2,e3,e4⟩
 ·exact .inl q
 ·exact .inr ⟨ea,oe,vs,e1,k _ _ e2,e3,e4⟩
theorem ZdJ:entryFor table "proto.unchain"=some cV.«proto.unchain» :=entryFor_of_fast (by kernel_rfl)
theorem Zfd{Q:α->aC->Prop}(q:ZaX A s.heap)(he:s.heap.get? e=some oe)(hd:oe.data=.fields vs)(hz:2<vs.size)(h:∀h',(∀b o,b≠e->s.heap.get? b=some o->h'.get? b=some o)->(∃o,h'.get? e=some o/\o.cls=oe.cls)->E (.ref e) {s with heap:=h'}):wpAny (aw prog w) A (raiseNew (.ref e):Sem α) Q E s:=by
 have same:E (.ref e) s:=h s.heap (fun _ _ _ x=>x) ⟨oe,he,rfl⟩;unfold raiseNew;refine Wb (wpAny_handled ?_);rcases q with q|⟨ea,oa,ws,q1,q2,q3,q4⟩
 ·rw[q];exact Wb (Wp (j6 same))
 ·rw[q1];dsimp only;by_cases c:(aM ea != aM e)=true
  ·rw[if_pos c];refine Wb (wpAny_holding (wpAny_runValue (jQ ZdJ ?_)));unfold cV.«proto.unchain»;refine Wb (aX q2 q3 q4 ?_);refine Wb (Wp ?_);have sf:wpAny (aw prog w) A (setField (.ref e) 2 (.ref ea)) (fun _ s'=>wpAny (aw prog w) A (throw (aM e):Sem α) Q E s') E s:=by
    refine cO he hd hz (j6 (h _ (fun b o hb x=>?_) ⟨_,bh _ he (cW (cK hd _)),gn _ _⟩));rw[aB _ _ (bW hb)];exact x
   exact Wp (Wb sf)
  ·rw[if_neg c];exact j6 same
theorem Zbu{Q:α->aC->Prop}(q:ZaX A s.heap)(h:∀h' e,(∀b o,s.heap.get? b=some o->h'.get? b=some o)->(∃o,h'.get? e=some o/\o.cls=.type "StopIteration")->E (.ref e) {s with heap:=h'}):wpAny (aw prog w) A (newExc (.type "StopIteration") [] >>= fun x=>(raiseNew x:Sem α)) Q E s:=by
 refine Wb ?_;simp only[newExc,newTuple];refine Wb (bD ?_ (by size_fits))
 refine Wb (m:=iA _ _) (j7 (a:=a9) (by first|rfl|(simp only[iA];rfl)) ?_)
 refine bD ?_ (by size_fits)
 refine Zfd (q.keeps fun b o x=>Hq _ (Hq _ x)) (az _ rfl) rfl (by rw[Array.size_append];exact aj (by decide:2<6) (Nat.le_add_right _ _)) fun h' k he=>?_
 exact h h' _ (fun b o x=>k b o (au (aj (Hz x) (by rw[cx];exact lW _))) (Hq _ (Hq _ x))) he
theorem Zmf(he:∃o,s.heap.get? e=some o/\o.cls=.type "StopIteration")(h:Q true s):wpAny (aw prog w) A (lq (.ref e) (.type "StopIteration")) Q E s:=
 let ⟨o,e1,e2⟩:=he
 cY (T:="StopIteration") (b:=true) ⟨o,e1,e2⟩ isSubtype_stop h
theorem ZaX.in1(q:ZaX A h):ZaX A.in1 h:=q
noncomputable def ZfP(it:Addr)(s:aC)(e:aa)(s':aC):Prop:=∃a,e=.ref a/\(∃o,s'.heap.get? a=some o/\o.cls=.type "StopIteration")/\∃h',eK it s.heap h'/\s'={s with heap:=h'}
theorem ZfQ{id:String}(hT:s.TypeIs (.ref it) T)(sl:Slot T (a7 "__next__") id)(hb:entryFor table id=some b)(ha:argsOk id ⟨[.ref it],[]⟩)(h:wpAny (aw prog w) A.in1 (b ⟨[.ref it],[]⟩) (fun _ _=>False) (ZfP it s) s)(hQ:∀h',eK it s.heap h'->Q none {s with heap:=h'}):wpAny (aw prog w) A (eW (.ref it)) Q E s:=by
 unfold eW;refine Wb (d8 (cu (name:=a7 "__next__") hT sl (bY sl hT hb (wpAny_mono h (fun _ _ z=>z.elim) fun e s' z=>?_) ha)));obtain⟨a,rfl,ho,h',eb,rfl⟩:=z;exact Wb (Zmf ho (Wp (hQ h' eb)))
theorem Zei{step:Int}(q:ZaX A s.heap)(hit:gj s.heap it x left step)(hl:left<=0)(hQ:∀h',eK it s.heap h'->Q none {s with heap:=h'}):wpAny (aw prog w) A (eW (.ref it)) Q E s:=by
 refine ZfQ ⟨_,hit,rfl⟩ F.slot_range_iterator_next F.entry_range_iterator_next (F.args_range_iterator_next_1 _) ?_ hQ;refine Wb (m:=iB (.ref it) 0) (aX hit rfl (x:=cQ x) rfl ?_);refine Wb (m:=iB (.ref it) 1) (aX hit rfl (x:=cQ left) rfl ?_);refine Wb (m:=iB (.ref it) 2) (aX hit rfl (x:=cQ step) rfl ?_);dsimp only[cQ];rw[if_pos hl];refine Wb (wpAny_rule (Wb ?_));exact Zbu q.in1 fun h' e k ho=>⟨e,rfl,ho,h',fun b o _ z=>k b o z,rfl⟩
theorem Zow{i:Nat}(q:ZaX A s.heap)(ho:s.heap.get? it=some o)(hd:o.data=.fields #[.ref l,.int i 0])(hol:s.heap.get? l=some ol)(hdl:ol.data=.seq items n)(hx:items[i]?=none):wpAny (aw prog w) A.in1 (cV.«list_iterator.__next__» ⟨[.ref it],[]⟩) (fun _ _=>False) (ZfP it s) s:=by
 refine Wb (m:=iB (.ref it) 0) (aX ho hd (x:=.ref l) rfl ?_);dsimp only;rw[if_neg (show ¬((aM l==a9)=true)from bT)];refine Wb (m:=iB (.ref it) 1) (aX ho hd (x:=.int i 0) rfl ?_);refine Wb (m:=jo (.ref l)) (wpAny_seqItems hol hdl ?_);simp only[bR,hx];refine Wb (wpAny_rule (Wb (cO ho hd (by simp) ?_)))
 have q2:ZaX A.in1 (s.heap.update it (dA (·.setIfInBounds 0 a9))):=by
  rcases q with q|⟨ea,oe,vs,e1,e2,e3,e4⟩
  ·exact .inl q
  ·refine .inr ⟨ea,oe,vs,e1,?_,e3,e4⟩;rw[aB _ _ (fun z=>?_)]
   ·exact e2
   ·rw[<-z,ho]at e2;cases e2;rw[hd]at e3;cases e3;simp at e4
 refine Zbu q2 fun h' e k ho=>⟨e,rfl,ho,h',fun b o hb z=>k b o ?_,rfl⟩;rw[aB _ _ (bW hb)];exact z
theorem Zox{i:Nat}(q:ZaX A s.heap)(ho:s.heap.get? it=some o)(hd:o.data=.fields #[.ref l,.int i 0])(hol:s.heap.get? l=some ol)(hdl:ol.data=.seq items n)(hx:items[i]?=none):wpAny (aw prog w) A.in1 (cV.«tuple_iterator.__next__» ⟨[.ref it],[]⟩) (fun _ _=>False) (ZfP it s) s:=by
 refine Wb (m:=iB (.ref it) 0) (aX ho hd (x:=.ref l) rfl ?_);dsimp only;rw[if_neg (show ¬((aM l==a9)=true)from bT)];refine Wb (m:=iB (.ref it) 1) (aX ho hd (x:=.int i 0) rfl ?_);refine Wb (m:=jo (.ref l)) (wpAny_seqItems hol hdl ?_);simp only[bR,hx];refine Wb (wpAny_rule (Wb (cO ho hd (by simp) ?_)))
 have q2:ZaX A.in1 (s.heap.update it (dA (·.setIfInBounds 0 a9))):=by
  rcases q with q|⟨ea,oe,vs,e1,e2,e3,e4⟩
  ·exact .inl q
  ·refine .inr ⟨ea,oe,vs,e1,?_,e3,e4⟩;rw[aB _ _ (fun z=>?_)]
   ·exact e2
   ·rw[<-z,ho]at e2;cases e2;rw[hd]at e3;cases e3;simp at e4
 refine Zbu q2 fun h' e k ho=>⟨e,rfl,ho,h',fun b o hb z=>k b o ?_,rfl⟩;rw[aB _ _ (bW hb)];exact z
theorem Zj2{items}(q:ZaX A s.heap)(hit:s.heap.IsListIter it l i)(hl:s.heap.IsList l items)(hx:items[i]?=none)(hQ:∀h',eK it s.heap h'->Q none {s with heap:=h'}):wpAny (aw prog w) A (eW (.ref it)) Q E s:=by
 obtain⟨o,ho,hc,hd⟩:=id hit;obtain⟨ol,hol,_,nl,hdl⟩:=hl;exact ZfQ hit.typeIs slot_listiter_next entry_listiter_next (args_listiter_next _) (Zow q ho hd hol hdl hx) hQ
theorem Zhj{items}(q:ZaX A s.heap)(hit:s.heap.IsTupleIter it l i)(hl:s.heap.IsTuple l items)(hx:items[i]?=none)(hQ:∀h',eK it s.heap h'->Q none {s with heap:=h'}):wpAny (aw prog w) A (eW (.ref it)) Q E s:=by
 obtain⟨o,ho,hc,hd⟩:=id hit;obtain⟨ol,hol,_,nl,hdl⟩:=hl;exact ZfQ hit.typeIs F.slot_tuple_iterator_next F.entry_tuple_iterator_next (F.args_tuple_iterator_next_1 _) (Zox q ho hd hol hdl hx) hQ
end DQ
namespace PySem
namespace NK
variable {prog:cw}{w:cL}{K:Type}[DecidableEq K](knd:KeyKind prog w K)
inductive ItemsT(h:Heap):List (List K)->List aa->Prop where
 |nil:ItemsT h [] []
 |cons {k:List K} {a:Addr} {ks:List (List K)} {vs:List aa}:IsTupleKey knd h k a->ItemsT h ks vs->ItemsT h (k::ks) (.ref a::vs)
noncomputable def Zax(h:Heap)(ks:List (List K))(a:Addr):Prop:=∃o items n,h.get? a=some o/\o.cls=.type "tuple"/\o.data=.seq items n/\ItemsT knd h ks items.toList
variable {knd}
theorem ItemsT.inj{h:Heap}{x y:List (List K)}{vs:List aa}(hx:ItemsT knd h x vs):ItemsT knd h y vs->x=y:=by
 intro hy
 induction hx generalizing y with
 |nil=>cases hy;rfl
 |cons k1 _ ih=>
  cases hy with
  |cons k2 t=>rw[k1.inj k2,ih t]
theorem Zax.typeIs{s:aC}{ks:List (List K)}{a:Addr}(x:Zax knd s.heap ks a):s.TypeIs (.ref a) "tuple":=let ⟨o,_,_,ho,hc,_⟩:=x;⟨o,ho,hc⟩
theorem Zax.inj{h:Heap}{a:Addr}{x y:List (List K)}(hx:Zax knd h x a)(hy:Zax knd h y a):x=y:=by
 obtain⟨o,i1,n1,e1,_,d1,q1⟩:=hx;obtain⟨o2,i2,n2,e2,_,d2,q2⟩:=hy;rw[e1]at e2;cases e2;rw[d1]at d2;cases d2;exact q1.inj q2
theorem ItemsT.keeps{h h':Heap}{ks:List (List K)}{vs:List aa}{d:Addr}{o:Obj}{es ep}(x:ItemsT knd h ks vs)(ho:h.get? d=some o)(hd:o.data=.dict es ep)(hs:dq d h h'):ItemsT knd h' ks vs:=by
 induction x with
 |nil=>exact .nil
 |cons k _ ih=>exact .cons (k.keeps ho hd hs) ih
theorem Zax.keeps{h h':Heap}{ks:List (List K)}{a d:Addr}{o:Obj}{es ep}(x:Zax knd h ks a)(ho:h.get? d=some o)(hd:o.data=.dict es ep)(hs:dq d h h'):Zax knd h' ks a:=by
 obtain⟨o1,items,n,e1,c1,d1,q⟩:=x;have ne:a≠d:=by
  intro z;subst z;rw[e1]at ho;cases ho;rw[d1]at hd;cases hd
 exact⟨o1,items,n,by rw[hs.2 a ne];exact e1,c1,d1,q.keeps ho hd hs⟩
noncomputable def Zmg(knd:KeyKind prog w K)(ks:List (List K)):Int:=reduceHash (cE (ks.map (gp knd)))
noncomputable def Zdn(ks:List (List K)):Nat:=(ks.map fun k=>k.length+1).sum
variable {A:cX}{E:Vp}{s:aC}
theorem Zhk{ks:List (List K)}{a:Addr}{Q:Int->aC->Prop}(hu:A.units+1<iC)(hk:Zax knd s.heap ks a)(h:Q (Zmg knd ks) {s with toks:=s.toks+(Zdn ks+1)}):wpAny (aw prog w) A (pyHash (.ref a)) Q E s:=by
 have hT:=hk.typeIs;obtain⟨o,items,n,ho,_,hd,hi⟩:=hk;unfold pyHash
 first|unfold pyHashByItsType|skip
 first|refine Wb (wpAny_cRoomFor_or (.inr (by lia)) ?_)|skip
 refine Wb (fV hT F.slot_tuple_hash.lookup ?_);show wpAny _ _ (if(some (jd "tuple.__hash__")==some a9)=true then _ else _) Q E s
 rw[if_neg (by rw[beq_builtin_none];exact bT)]
 refine Wb (fV hT F.slot_tuple_hash.lookup ?_);show wpAny _ _ (callSpecialIfBoundUnlessNone? (.ref a) "__hash__" _ >>= _) Q E s;refine Wb (wpAny_callSpecialIfBoundUnlessNone?_slot hT F.slot_tuple_hash (bY F.slot_tuple_hash hT F.entry_tuple_hash ?_ (F.args_tuple_hash_1 _)));show wpAny _ _ (iD (.ref a) >>= _) _ _ s;refine Wb (iE ho hd ?_);refine Wb ?_;rw[<-eL];refine gR _
  (fun rest (b:Array Int) s'=>∃done left,ks=done++left/\ItemsT knd s.heap left rest/\b.toList=done.map (gp knd)/\s'={s with toks:=s.toks+Zdn done})
  _ ?_ ?_ _ _ ⟨[],ks,rfl,hi,rfl,rfl⟩
 ·rintro x rest b s' ⟨done,left,rfl,hl,hb,rfl⟩;cases hl with
  |@cons k a' ks' _ h1 hl'=>
   refine Wb (wpAny_pyHash_tuple (knd:=knd) (ks:=k) (s:={s with toks:=s.toks+Zdn done}) (by exact hu) h1 ?_)
   first
    |exact Wp ⟨done++[k],ks',by simp,hl',by simp[hb],by simp[Zdn,je]⟩
    |exact Wb (Wp (Wp ⟨done++[k],ks',by simp,hl',by simp[hb],by simp[Zdn,je]⟩))
 ·rintro b s' ⟨done,left,rfl,hl,hb,rfl⟩;cases hl;rw[cC]at h;show wpAny _ _ (retInt (cE b.toList)) _ _ _;rw[hb];refine wpAny_ret_mkInt ?_;show wpAny _ _ (if(decide (-(2:Int)^63<=cE (done.map (gp knd)))&&decide (cE (done.map (gp knd))<2^63))=true then _ else _) Q E _
  unfold Zmg reduceHash at h;by_cases hr:(decide (-(2:Int)^63<=cE (done.map (gp knd)))&&decide (cE (done.map (gp knd))<2^63))=true
  ·rw[if_pos hr];rw[if_pos hr]at h;exact Wp (by simpa [je]using h)
  ·rw[if_neg hr];rw[if_neg hr]at h;exact Wb (wpAny_rule (Wp (by simpa [je]using h)))
theorem Zmh{x y:List (List K)}{a b:Addr}{P:Fin->aC->Prop}(hu:A.units<iC)(hx:Zax knd s.heap x a)(hy:Zax knd s.heap y b)(h:P (.done (.ret (.bool (decide (x=y))))) s):wpAny (aw prog w) A (cV.«tuple.__eq__» ⟨[.ref a,.ref b],[]⟩) P E s:=by
 have hTb:=hy.typeIs;obtain⟨oa,xs,na,hoa,_,hda,hia⟩:=hx;obtain⟨ob,ys,nb,hob,_,hdb,hib⟩:=hy;show wpAny _ _ (lq (.ref b) (.type "tuple") >>= _) _ _ s;refine Wb (cY hTb gM ?_);simp only[el,aQ,if_false];refine Wb (iE hoa hda ?_);refine Wb (iE hob hdb ?_);refine Wb ?_;refine gR _
  (fun rest r s'=>r.1=none/\s'=s/\∃x' y' xs' ys',rest=List.zip xs' ys'/\ItemsT knd s.heap x' xs'/\ItemsT knd s.heap y' ys'/\decide (x'=y')=decide (x=y)/\(xs'.length==ys'.length)=(xs.size==ys.size))
  _ ?_ ?_ _ _ ⟨rfl,rfl,x,y,xs.toList,ys.toList,rfl,hia,hib,rfl,by simp⟩
 ·rintro⟨u,v⟩ rest r s' ⟨hr,rfl,x',y',xs',ys',hz,hx',hy',hdec,hlen⟩;cases hx' with
  |nil=>simp at hz
  |@cons k1 u' x'' xs'' h1 hx''=>
   cases hy' with
   |nil=>simp at hz
   |@cons k2 v' y'' ys'' h2 hy''=>
    simp only[iF,fW,lf]at hz;obtain⟨⟨rfl,rfl⟩,rfl⟩:=hz;refine Wb (wpAny_eqBool_tuple (knd:=knd) (x:=k1) (y:=k2) hu h1 h2 ?_);by_cases hk:k1=k2
    ·subst hk;rw[decide_eq_true rfl];simp only[el,aQ,if_false];refine Wp ⟨rfl,rfl,x'',y'',xs'',ys'',rfl,hx'',hy'',?_,by simpa using hlen⟩
     rw[<-hdec];by_cases hxy:x''=y''
     ·simp[hxy]
     ·simp[hxy]
    ·rw[decide_eq_false hk];simp only[Bool.not_false,if_true];have hf:decide (x=y)=false:=by rw[<-hdec];simp[hk]
     rw[hf]at h;exact Wb (Wp (Wp (Wp h)))
 ·rintro⟨r1,r2⟩ s' ⟨hr,rfl,x',y',xs',ys',hz,hx',hy',hdec,hlen⟩;simp only at hr;subst hr;refine Wp ?_;have hfin:(xs.size==ys.size)=decide (x=y):=by
   rw[<-hdec,<-hlen];cases hx' with
   |nil=>
    cases hy' with
    |nil=>simp
    |cons _ _=>simp
   |cons _ _=>
    cases hy' with
    |nil=>simp
    |cons _ _=>simp at hz
  show P (.done (.ret (.bool (xs.size==ys.size)))) s';rw[hfin];exact h
theorem Zmi{x y:List (List K)}{a b:Addr}{Q:Bool->aC->Prop}(hu:A.units+1<iC)(hx:Zax knd s.heap x a)(hy:Zax knd s.heap y b)(h:Q (decide (x=y)) s):wpAny (aw prog w) A (eqBool (.ref a) (.ref b)) Q E s:=by
 unfold eqBool
 try with_reducible refine wpAny_holding ?_
 show wpAny _ _ (if(aM a==aM b)=true then _ else _) Q E s
 by_cases hab:(aM a==aM b)=true
 ·rw[if_pos hab];have e:a=b:=by have:=eq_of_beq hab;injection this
  subst e;obtain rfl:=hx.inj hy;exact Wb (wpAny_rule (Wp (by simpa using h)))
 ·rw[if_neg hab];exact Wb (wpAny_richCompare_same_room (op:=.Eq) hx.typeIs hy.typeIs F.slot_tuple_eq
   (bY F.slot_tuple_eq hx.typeIs F.entry_tuple_eq (Zmh (by exact hu) hx hy ⟨_,rfl,(fun e=>nomatch e),dX h⟩) (F.args_tuple_eq_2 _ _)) (by lia))
theorem Zhl{ks:List K}{a:Addr}{Q:Bool->aC->Prop}(m:Nat)(hk:IsTupleKey knd s.heap ks a)(h:Q true s):wpAny (aw prog w) A (lS (m+1) (.ref a)) Q E s:=by
 have hT:=hk.typeIs;obtain⟨o,items,n,ho,_,hd,hi⟩:=hk;unfold lS;refine Wb (fV hT F.slot_tuple_eq.lookup ?_);show wpAny _ _ (lq (.ref a) (.type "tuple") >>= _) _ _ s;refine Wb (cY hT gM ?_);simp only[el,aQ,if_false];refine Wb (wpAny_seqItems ho hd ?_);refine Wb ?_;show wpAny _ _ (forIn items _ _) _ _ s;rw[<-eL];refine gR _ (fun rest r s'=>r.1=none/\s'=s/\∀v∈rest,carriedByValue v=true) _ ?_ ?_ _ _ ⟨rfl,rfl,hi.byValue⟩
 ·rintro v rest r s' ⟨hr,rfl,hall⟩;rw[eqIsQuiet_byValue _ (hall v bE)];refine Wb (Wp ?_);simp only[el,aQ,if_false];exact Wp ⟨rfl,rfl,fun u hu'=>hall u (aA _ hu')⟩
 ·rintro⟨r1,r2⟩ s' ⟨hr,rfl,_⟩;simp only at hr;subst hr;exact Wp h
theorem ZgT{ks:List (List K)}{a:Addr}{Q:Bool->aC->Prop}(hk:Zax knd s.heap ks a)(h:Q true s):wpAny (aw prog w) A (lS 8 (.ref a)) Q E s:=by
 have hT:=hk.typeIs;obtain⟨o,items,n,ho,_,hd,hi⟩:=hk;unfold lS;refine Wb (fV hT F.slot_tuple_eq.lookup ?_);show wpAny _ _ (lq (.ref a) (.type "tuple") >>= _) _ _ s;refine Wb (cY hT gM ?_);simp only[el,aQ,if_false];refine Wb (wpAny_seqItems ho hd ?_);refine Wb ?_;show wpAny _ _ (forIn items _ _) _ _ s;rw[<-eL];refine gR _ (fun rest r s'=>r.1=none/\s'=s/\∃ks',ItemsT knd s.heap ks' rest) _ ?_ ?_ _ _ ⟨rfl,rfl,ks,hi⟩
 ·rintro v rest r s' ⟨hr,rfl,ks',hall⟩;cases hall with
  |cons k1 t=>
   refine Wb (Zhl 6 k1 ?_);simp only[el,aQ,if_false];exact Wp ⟨rfl,rfl,_,t⟩
 ·rintro⟨r1,r2⟩ s' ⟨hr,rfl,_⟩;simp only at hr;subst hr;exact Wp h
end NK
def ZcC{prog:cw}{w:cL}{K:Type}[DecidableEq K](knd:KeyKind prog w K):HeapKind prog w (List (List K)) where
 is:=NK.Zax knd
 hash:=NK.Zmg knd
 draws:=fun ks=>NK.Zdn ks+1
 room:=fun A=>A.units+1<iC
 inj:=fun hx hy=>hx.inj hy
 keeps:=fun x ho hd hs=>x.keeps ho hd hs
 pyHash:=fun hu hk h=>NK.Zhk hu hk h
 eqBool:=fun hu hx hy h=>NK.Zmi hu hx hy h
 quiet:=fun hk h=>NK.ZgT hk h
end PySem
namespace L2
open PyProof.Rows
noncomputable abbrev Key:=Sum Int Str
noncomputable def ZgU:Key->aa->Bool
 |.inl k,v=>aa.isInt k v
 |.inr x,v=>aa.isStrOf x v
noncomputable def Zvh(w:cL):Key->Int
 |.inl k=>hashInt k
 |.inr x=>hashStr w x
theorem ZV:∀{k:Key}{v:aa},ZgU k v=true->(∃i t,k=jC i/\v=jp i t)\/(∃x t,k=jD x/\v=kJ x t)
 |.inl i,v,h=>by
  obtain⟨t,e⟩:=aa.isInt_shape (k:=i) (v:=v) h;exact .inl ⟨i,t,rfl,e⟩
 |.inr x,v,h=>by
  obtain⟨t,e⟩:=aa.isStrOf_shape (x:=x) (v:=v) h;exact .inr ⟨x,t,rfl,e⟩
theorem Zhm(i:Int)(t:Tok):ZgU (.inl i) (.int i t)=true:=by simp[ZgU,aa.isInt]
theorem Zhn(x:Str)(t:Tok):ZgU (.inr x) (.str x t)=true:=by simp[ZgU,aa.isStrOf]
theorem Zoy(a b:Int):decide ((jC a:Key)=jC b)=(a==b):=by
 by_cases e:a=b
 ·subst e;simp
 ·have h:¬(jC a:Key)=jC b:=fun q=>e (jC.inj q);rw[decide_eq_false h];exact(beq_eq_false_iff_ne.mpr e).symm
theorem Zoz(a b:Str):decide ((jD a:Key)=jD b)=decide (a=b):=by
 by_cases e:a=b
 ·subst e;simp
 ·have h:¬(jD a:Key)=jD b:=fun q=>e (jD.inj q);rw[decide_eq_false h,decide_eq_false e]
theorem ZoA(a:Int)(b:Str):decide ((jC a:Key)=jD b)=false:=decide_eq_false (fun q=>nomatch q)
theorem ZoB(a:Str)(b:Int):decide ((jD a:Key)=jC b)=false:=decide_eq_false (fun q=>nomatch q)
def Zao(prog:cw)(w:cL):PySem.KeyKind prog w Key where
 is:=ZgU
 hash:=Zvh w
 inj:=fun v a b ha hb=>by
  rcases ZV ha with⟨i,t,rfl,rfl⟩|⟨x,t,rfl,rfl⟩
  ·rcases ZV hb with⟨j,u,rfl,e⟩|⟨y,u,rfl,e⟩
   ·injection e with e1 _;rw[e1]
   ·exact nomatch e
  ·rcases ZV hb with⟨j,u,rfl,e⟩|⟨y,u,rfl,e⟩
   ·exact nomatch e
   ·injection e with e1 _;rw[e1]
 byValue:=fun k v h=>by
  rcases ZV h with⟨i,t,rfl,rfl⟩|⟨x,t,rfl,rfl⟩<;>rfl
 pyHash:=fun hv h=>by
  rcases ZV hv with⟨i,t,rfl,rfl⟩|⟨x,t,rfl,rfl⟩
  ·exact wpAny_pyHash_int h
  ·exact wpAny_pyHash_str h
 eqBool:=fun hu hv h=>by
  rcases ZV hu with⟨i,t,rfl,rfl⟩|⟨x,t,rfl,rfl⟩
  ·rcases ZV hv with⟨j,u,rfl,rfl⟩|⟨y,u,rfl,rfl⟩
   ·rw[Zoy]at h;exact wpAny_eqBool_int h
   ·rw[ZoA]at h;exact lx.int_str i t y u _ _ _ _ h
  ·rcases ZV hv with⟨j,u,rfl,rfl⟩|⟨y,u,rfl,rfl⟩
   ·rw[ZoB]at h;exact lx.str_int x t j u _ _ _ _ h
   ·rw[Zoz]at h;exact wpAny_eqBool_str h
 «strs» :=fun k x t v h=>by
  rcases ZV h with⟨i,u,rfl,e⟩|⟨y,u,rfl,e⟩
  ·exact nomatch e
  ·injection e with e1 _;subst e1;cases v<;>rfl
theorem Zfe(prog:cw)(w:cL)(i:Int)(t:Tok):(Zao prog w).is (.inl i) (.int i t)=true:=Zhm i t
theorem Zff(prog:cw)(w:cL)(x:Str)(t:Tok):(Zao prog w).is (.inr x) (.str x t)=true:=Zhn x t
inductive V where
 |non|bl (b:Bool)|int (i:Int)|str (x:Str)|byt (b:Array UInt8)|flt (b:UInt64)|ref (a:Addr)|ty (n:String)
 deriving DecidableEq
noncomputable def Z0:V->aa->Prop
 |.non,u=>u=a9
 |.bl b,u=>u=ly b
 |.int i,u=>∃t,u=jp i t
 |.str x,u=>∃t,u=kJ x t
 |.byt b,u=>∃t,u=aa.bytes b t
 |.flt b,u=>∃t,u=aa.float b t
 |.ref a,u=>u=aM a
 |.ty n,u=>u=bF n
abbrev ZZ:List V->List aa->Prop:=Paired Z0
theorem ZZ.length(r:ZZ xs us):xs.length=us.length:=Paired.length r
theorem ZZ.get:∀{xs:List V}{us:List aa}{i:Nat}{x:V},ZZ xs us->xs[i]?=some x->∃u,us[i]?=some u/\Z0 x u
 |_,_,_,_,.nil,e=>by simp at e
 |_,_,0,_,.cons r _,e=>by simp at e;subst e;exact⟨_,rfl,r⟩
 |_,_,i+1,x,.cons _ t,e=>by
  obtain⟨u,h1,h2⟩:=ZZ.get (i:=i) (x:=x) t (by simpa using e)
  exact⟨u,by simpa using h1,h2⟩
theorem ZZ.set{x:V}{u:aa}(r:Z0 x u):∀{xs:List V}{us:List aa}(i:Nat),ZZ xs us->ZZ (xs.set i x) (us.set i u)
 |_,_,_,.nil=>.nil
 |_,_,0,.cons _ t=>.cons r t
 |_,_,i+1,.cons q t=>.cons q (ZZ.set r i t)
theorem ZZ.append:∀{xs ys:List V}{us ws:List aa},ZZ xs us->ZZ ys ws->ZZ (xs++ys) (us++ws)
 |_,_,_,_,.nil,s=>s
 |_,_,_,_,.cons r t,s=>.cons r (ZZ.append t s)
theorem ZZ.take:∀{xs:List V}{us:List aa}(n:Nat),ZZ xs us->ZZ (xs.take n) (us.take n)
 |_,_,0,_=>.nil
 |_,_,_+1,.nil=>.nil
 |_,_,n+1,.cons r t=>.cons r (ZZ.take n t)
theorem ZZ.drop:∀{xs:List V}{us:List aa}(n:Nat),ZZ xs us->ZZ (xs.drop n) (us.drop n)
 |_,_,0,r=>r
 |_,_,_+1,.nil=>.nil
 |_,_,n+1,.cons _ t=>ZZ.drop n t
def Zug:Option V->Option aa->Prop
 |some v,some u=>Z0 v u
 |none,none=>True
 |_,_=>False
def KV{κ:Type}:List (κ×V)->List (κ×aa)->Prop:=Paired fun(p:κ×V) (q:κ×aa)=>p.1=q.1/\Z0 p.2 q.2
noncomputable def kV:Key->V
 |.inl i=>.int i
 |.inr x=>.str x
inductive HO where
 |lst (xs:List V)
 |tup (xs:List V)
 |dK (kvs:List (Key×V))|dT (kvs:List (List Key×V))|dU (kvs:List (List (List Key)×V))
 |set (S:Int->Bool) (n:Nat)
 |ins (C dx:Addr) (fs:List (Str×V))
 |own (x:Addr)
 |xd (fs:List (Str×V))
 |met (f x:Addr)
 |rng (lo hi:Int)
 |frz (o:Obj) (u:HO)
 |tbl (ps:Array aa)
 |ext (φ:Heap->Prop)
noncomputable abbrev Hp:=Addr->Option HO
noncomputable def upd(H:Hp)(a:Addr)(o:HO):Hp:=fun b=>if b=a then some o else H b
theorem Zz:upd H a o a=some o:=by unfold upd;rw[if_pos rfl]
theorem ZF(h:b≠a):upd H a o b=H b:=by unfold upd;rw[if_neg h]
theorem ZrX{H:Hp}(h:H a=some o)(h':H b=some u)(d:o≠u):a≠b:=by
 intro e;subst e;rw[h]at h';exact d (aN h')
theorem Z3{H:Hp}(h:H a=some o)(h':H b=none):a≠b:=by
 intro e;subst e;rw[h]at h';cases h'
def Zay(H:Hp)(ks:List (List Key))(b:Addr):Prop:=∃cs:List Addr,H b=some (.tup (cs.map V.ref))/\Paired (fun(k:List Key) (c:Addr)=>H c=some (.tup (k.map kV))) ks cs
section
variable (P:cw)(w:cL)
def ZaS(H:Hp)(h:Heap)(a:Addr):HO->Prop
 |.lst xs=>xs.length<=sizeLine/\∃(its:List aa) (n:Nat),ZZ xs its/\h.get? a=some {cls:=.type "list",data:=.seq its.toArray n}
 |.tup xs=>xs.length<=sizeLine/\∃its:List aa,ZZ xs its/\gY h a its.toArray
 |.dK kvs=>kvs.length<=sizeLine/\(a==f8)=false/\∃vs,KV kvs vs/\h.DictOf (Zao P w) a vs
 |.dT kvs=>kvs.length<=sizeLine/\(a==f8)=false/\∃xs:List (List Key×Addr×aa),
   Paired (fun(p:List Key×V) (q:List Key×Addr×aa)=>p.1=q.1/\H q.2.1=some (.tup (p.1.map kV))/\Z0 p.2 q.2.2) kvs xs/\
   ∃o es ep,h.get? a=some o/\o.ExactDict/\o.data=.dict es ep/\es.toList=xs.map (entryOfKey (tupleKind (Zao P w)))/\(xs.map (·.1)).Nodup
 |.dU kvs=>kvs.length<=sizeLine/\(a==f8)=false/\∃xs:List (List (List Key)×Addr×aa),
   Paired (fun(p:List (List Key)×V) (q:List (List Key)×Addr×aa)=>p.1=q.1/\Zay H p.1 q.2.1/\Z0 p.2 q.2.2) kvs xs/\
   ∃o es ep,h.get? a=some o/\o.ExactDict/\o.data=.dict es ep/\es.toList=xs.map (entryOfKey (ZcC (Zao P w)))/\(xs.map (·.1)).Nodup
 |.set S n=>h.SetOf (intKind P w) a S n
 |.ins C dx fs=>H dx=some (.own a)/\fs.length<=1000/\dx≠a/\h.get? a=some (PySem.W.instObj C dx)/\
   ∃mA,h.Ns1 dx mA/\(∀f,Zug (fs.lookup f) (mA f))/\PySem.Within mA (fs.map (·.1))
 |.own _=>∃o,h.get? a=some o
 |.xd fs=>∃mA,h.Ns1 a mA/\∀f,Zug (fs.lookup f) (mA f)
 |.rng lo hi=>∃t u v,h.get? a=some {cls:=.type "range",data:=.fields #[.int lo t,.int hi u,.int 1 v]}
 |.frz o u=>h.get? a=some o/\ZaS H h a u
 |.tbl ps=>h.get? a=some {cls:=.none,data:=.fields ps}/\iu ps.toList/\∀pos cv,fv pos ps.toList=some cv->∃c' o vs q t,cv=.ref c'/\H c'=some (.own a)/\h.get? c'=some o/\o.data=.fields vs/\vs[1]?=some (.str q t)
 |.met f x=>h.get? a=some (PySem.W.methodObj (.ref f) (.ref x))
 |.ext φ=>φ h/\(∃o,h.get? a=some o)/\∀h1 h2:Heap,φ h1->(∀o,h1.get? a=some o->h2.get? a=some o)->φ h2
def HOk(H:Hp)(h:Heap):Prop:=∀a o,H a=some o->ZaS P w H h a o
end
section
variable {a:Addr}
theorem ZaS.lt(x:ZaS P w H h a o):a<h.objs.size:=by
 cases o with
 |lst xs=>obtain⟨_,_,_,_,e⟩:=x;exact Hz e
 |tup xs=>obtain⟨_,_,_,p⟩:=x;exact p.lt
 |dK kvs=>obtain⟨_,_,_,_,o,_,_,e,_⟩:=x;exact Hz e
 |dT kvs=>obtain⟨_,_,_,_,o,_,_,e,_⟩:=x;exact Hz e
 |dU kvs=>obtain⟨_,_,_,_,o,_,_,e,_⟩:=x;exact Hz e
 |set S n=>obtain⟨o,_,_,_,e,_⟩:=x;exact Hz e
 |ins C dx fs=>obtain⟨_,_,_,e,_⟩:=x;exact Hz e
 |own y=>obtain⟨_,e⟩:=x;exact Hz e
 |xd fs=>obtain⟨_,⟨_,_,_,e,_⟩,_⟩:=x;exact Hz e
 |rng lo hi=>obtain⟨_,_,_,e⟩:=x;exact Hz e
 |frz ob u=>obtain⟨e,_⟩:=x;exact Hz e
 |tbl ps=>exact Hz x.1
 |met f y=>exact Hz (show h.get? a=some _ from x)
 |ext φ=>obtain⟨_,⟨_,e⟩,_⟩:=x;exact Hz e
theorem Paired.mapP{α β:Type}{F G:α->β->Prop}:∀{l₁:List α}{l₂:List β},Paired F l₁ l₂->(∀a b,F a b->G a b)->Paired G l₁ l₂
 |_,_,.nil,_=>.nil
 |_,_,.cons r t,f=>.cons (f _ _ r) (Paired.mapP t f)
theorem ZaS.stay(x:ZaS P w H h a o)(k:∀b u,(b=a\/H b=some (.own a))->h.get? b=some u->h'.get? b=some u)(ho:∀b,H b=some (.own a)->H' b=some (.own a))(ht:∀b xs,H b=some (.tup xs)->H' b=some (.tup xs)):ZaS P w H' h' a o:=by
 induction o with
 |lst xs=>obtain⟨z,its,n,r,e⟩:=x;exact⟨z,its,n,r,k _ _ (.inl rfl) e⟩
 |tup xs=>obtain⟨z,its,r,ob,e,c⟩:=x;exact⟨z,its,r,ob,k _ _ (.inl rfl) e,c⟩
 |dK kvs=>obtain⟨z,y,vs,r,ob,es,ep,e,c⟩:=x;exact⟨z,y,vs,r,ob,es,ep,k _ _ (.inl rfl) e,c⟩
 |dT kvs=>
  obtain⟨z,y,xs,r,ob,es,ep,e,c⟩:=x;exact⟨z,y,xs,Paired.mapP r fun p q z=>⟨z.1,ht _ _ z.2.1,z.2.2⟩,ob,es,ep,k _ _ (.inl rfl) e,c⟩
 |dU kvs=>
  obtain⟨z,y,xs,r,ob,es,ep,e,c⟩:=x;exact⟨z,y,xs,Paired.mapP r fun p q z=>⟨z.1,let ⟨cs,z1,z2⟩:=z.2.1;⟨cs,ht _ _ z1,Paired.mapP z2 fun _ _ t=>ht _ _ t⟩,z.2.2⟩,ob,es,ep,k _ _ (.inl rfl) e,c⟩
 |set S n=>obtain⟨ob,es,ep,t,e,c⟩:=x;exact⟨ob,es,ep,t,k _ _ (.inl rfl) e,c⟩
 |ins C dx fs=>
  obtain⟨d,z,ne,e,mA,⟨od,es,ep,e2,c⟩,r⟩:=x;exact⟨ho _ d,z,ne,k _ _ (.inl rfl) e,mA,⟨od,es,ep,k _ _ (.inr d) e2,c⟩,r⟩
 |own y=>obtain⟨ob,e⟩:=x;exact⟨ob,k _ _ (.inl rfl) e⟩
 |xd fs=>obtain⟨mA,⟨od,es,ep,e,c⟩,r⟩:=x;exact⟨mA,⟨od,es,ep,k _ _ (.inl rfl) e,c⟩,r⟩
 |rng lo hi=>obtain⟨t,u,v,e⟩:=x;exact⟨t,u,v,k _ _ (.inl rfl) e⟩
 |frz ob u ih=>obtain⟨e,q⟩:=x;exact⟨k _ _ (.inl rfl) e,ih q⟩
 |tbl ps=>
  exact⟨k a _ (.inl rfl) x.1,x.2.1,fun pos cv e=>let ⟨c',ob,vs,q,t,e1,e2,e3,e4⟩:=x.2.2 pos cv e;⟨c',ob,vs,q,t,e1,ho _ e2,k _ _ (.inr e2) e3,e4⟩⟩
 |met f y=>
  have e:h.get? a=some (PySem.W.methodObj (.ref f) (.ref y)):=x;show h'.get? a=some (PySem.W.methodObj (.ref f) (.ref y));exact k a _ (.inl rfl) e
 |ext φ=>obtain⟨p,⟨o,e⟩,st⟩:=x;exact⟨st _ _ p fun o q=>k _ _ (.inl rfl) q,⟨o,k _ _ (.inl rfl) e⟩,st⟩
theorem HOk.lt(x:HOk P w H h)(e:H a=some o):a<h.objs.size:=(x a o e).lt
theorem HOk.fresh(x:HOk P w H h)(e:h.objs.size<=a):H a=none:=by
 cases q:H a with
 |none=>rfl
 |some u=>exact absurd (aj (x.lt q) e) (cj _)
theorem HOk.kept(x:HOk P w H h)(k:∀b u,h.get? b=some u->h'.get? b=some u):HOk P w H h':=fun a o e=>
 (x a o e).stay (fun b u _ q=>k b u q) (fun _ q=>q) fun _ _ q=>q
theorem HOk.laid(x:HOk P w H h)(k:∀b u,h.get? b=some u->h'.get? b=some u)(hp:h.objs.size<=a)(new:ZaS P w (upd H a o) h' a o):HOk P w (upd H a o) h':=fun b u e=>by
 have hn:=x.fresh hp;by_cases hb:b=a
 ·subst hb;rw[Zz]at e;cases e;exact new
 ·rw[ZF hb]at e;exact(x b u e).stay (fun c v _ q=>k c v q) (fun c q=>by rw[ZF (Z3 q hn)];exact q) fun c xs q=>by rw[ZF (Z3 q hn)];exact q
end
noncomputable def Rd(H:Hp)(a:Addr)(u:HO):Prop:=H a=some u\/∃o,H a=some (.frz o u)
theorem Rd.ok(r:Rd H a u)(x:HOk P w H h):ZaS P w H h a u:=by
 rcases r with r|⟨o,r⟩
 ·exact x a u r
 ·obtain⟨_,q⟩:=x a _ r;exact q
noncomputable def Mut:Option HO->Prop
 |some (.lst _)=>True
 |some (.dK _)=>True
 |some (.dT _)=>True
 |some (.dU _)=>True
 |some (.set _ _)=>True
 |some (.ins _ _ _)=>True
 |some (.ext _)=>True
 |_=>False
theorem HOk.write(ok:HOk P w H h)(mu:Mut (H x))(he:e=x\/H e=some (.own x))(k:∀b u,b≠e->h.get? b=some u->h'.get? b=some u)(heo:∃u,h'.get? e=some u)(new:ZaS P w (upd H x o') h' x o'):HOk P w (upd H x o') h':=fun b u q=>by
 have nown:∀c y,H c=some (.own y)->c≠x:=fun c y r z=>by subst z;rw[r]at mu;exact mu
 have ntup:∀c xs,H c=some (.tup xs)->c≠x:=fun c xs r z=>by subst z;rw[r]at mu;exact mu
 by_cases hb:b=x
 ·subst hb;rw[Zz]at q;cases q;exact new
 ·rw[ZF hb]at q;by_cases hbe:b=e
  ·have q':H b=some (.own x):=by
    rcases he with z|z
    ·exact absurd (hbe.trans z) hb
    ·rw[hbe];exact z
   rw[q]at q';cases q';obtain⟨v,hv⟩:=heo;exact⟨v,by rw[hbe];exact hv⟩
  ·refine(ok b u q).stay (fun c v hc r=>k c v ?_ r) (fun c r=>by rw[ZF (nown c b r)];exact r) fun c xs r=>by rw[ZF (ntup c xs r)];exact r
   rcases hc with rfl|hc
   ·exact hbe
   ·rintro rfl;rcases he with z|z
    ·exact nown c b hc z
    ·rw[hc]at z;cases z;exact hb rfl
structure Un(fs ex:List Addr) (H H':Hp) (h h':Heap):Prop where
 keep:∀b o,h.get? b=some o->H b=none->b∉fs->b∉ex->h'.get? b=some o
 slot:∀b o,h.get? b=some o->H b=none->b∈fs->b∉ex->∃sl,h'.get? b=some {o with slots:=sl}
 free:∀b o,h.get? b=some o->H b=none->b∉ex->H' b=none
 there:∀b o,h.get? b=some o->b∉ex->∃o',h'.get? b=some o'
 tups:∀b xs,H b=some (.tup xs)->H' b=some (.tup xs)
 frzs:∀b o u,H b=some (.frz o u)->H' b=some (.frz o u)
 tbls:∀b ps,H b=some (.tbl ps)->∃more,H' b=some (.tbl (ps++more))
theorem Un.any(u:Un fs ex H H1 h h1)(q:h.get? b=some ob)(n:H b=none)(hx:b∉ex):∃sl,h1.get? b=some {ob with slots:=sl}:=by
 by_cases hb:b∈fs
 ·exact u.slot b ob q n hb hx
 ·exact⟨ob.slots,u.keep b ob q n hb hx⟩
theorem Un.kept(k:∀b u,h.get? b=some u->h'.get? b=some u):Un fs ex H H h h':=
 ⟨fun b ob q _ _ _=>k b ob q,fun b ob q _ _ _=>⟨ob.slots,k b ob q⟩,fun _ _ _ n _=>n,fun b ob q _=>⟨ob,k b ob q⟩,fun _ _ q=>q,fun _ _ _ q=>q,fun _ ps q=>⟨#[],by rw[q];simp⟩⟩
theorem Un.refl:Un fs ex H H h h:=Un.kept fun _ _ q=>q
theorem Un.laid(k:∀b u,h.get? b=some u->h'.get? b=some u)(hp:h.objs.size<=a)(hn:H a=none):Un fs ex H (upd H a o) h h' where
 keep:=fun b u q _ _ _=>k b u q
 slot:=fun b u q _ _ _=>⟨u.slots,k b u q⟩
 free:=fun b u q n _=>by rw[ZF (au (aj (Hz q) hp))];exact n
 there:=fun b u q _=>⟨u,k b u q⟩
 tups:=fun b xs q=>by rw[ZF (Z3 q hn)];exact q
 frzs:=fun b u xs q=>by rw[ZF (Z3 q hn)];exact q
 tbls:=fun b ps q=>⟨#[],by rw[ZF (Z3 q hn),q];simp⟩
theorem Un.write(mu:Mut (H x))(he:e=x\/H e=some (.own x))(k:∀b u,b≠e->h.get? b=some u->h'.get? b=some u)(heo:∃u,h'.get? e=some u):Un fs ex H (upd H x o) h h':=by
 have hx:∀b,H b=none->b≠x:=fun b n z=>by subst z;rw[n]at mu;exact mu
 have hb:∀b,H b=none->b≠e:=fun b n z=>by
  subst z;rcases he with r|r
  ·exact hx b n r
  ·rw[n]at r;cases r
 have hm:∀b u,H b=some u->¬Mut (some u)->b≠x:=fun b u q nm z=>by subst z;rw[q]at mu;exact nm mu
 refine⟨fun b u q n _ _=>k b u (hb b n) q,fun b u q n _ _=>⟨u.slots,k b u (hb b n) q⟩,fun b u q n _=>by rw[ZF (hx b n)];exact n,fun b u q _=>?_,
  fun b xs q=>by rw[ZF (hm b _ q fun z=>z)];exact q,fun b u xs q=>by rw[ZF (hm b _ q fun z=>z)];exact q,fun b ps q=>⟨#[],by rw[ZF (hm b _ q fun z=>z),q];simp⟩⟩
 by_cases hbe:b=e
 ·subst hbe;exact heo
 ·exact⟨u,k b u hbe q⟩
noncomputable def trk(h:Heap)(H:Hp):List Addr:=(aL h.objs.size).filter fun a=>(H a).isSome
def ZjW(h:Heap)(H:Hp):Heap:=PySem.W.hideAll h (trk h H)
theorem Zho(h:Heap)(H:Hp):(ZjW h H).objs.size=h.objs.size:=PySem.W.hideAll_size _ _
theorem ZfR(e:h.get? b=some o)(n:H b=none):(ZjW h H).get? b=some o:=
 PySem.W.hideAll_get _ e fun hm=>by
  have q:(H b).isSome=true:=(fX.mp hm).2;rw[n]at q;simp at q
theorem Zhp(e:(ZjW h H).get? b=some o):h.get? b=some o/\H b=none:=by
 have e':h.get? b=some o:=PySem.W.of_hideAll (trk h H) e;refine⟨e',?_⟩;cases q:H b with
 |none=>rfl
 |some x=>
  have hm:b∈trk h H:=fX.mpr ⟨cA.mpr (Hz e'),by simp[q]⟩
  have z:(ZjW h H).get? b=none:=PySem.W.hideAll_none (trk h H) hm;rw[z]at e;cases e
structure Mod(K:Fg) (mg:Str->Option aa) (base:Heap):Prop where
 kin:K.In base
 glob:base.Ns aI mg
 blt:∃mb,base.Ns f9 mb/\∀x:Str,x≠"__name__"->mb x=bB x
 nolimit:base.NoLimit
structure Cx where
 prog:cw
 w:cL
 K:Fg
 mg:Str->Option aa
 base:Heap
 A:cX
 N:List Str
 s₀:aC
 H₀:Hp
 env:Env
 outer:List Env
 stack:List Env
 ex:List Addr
 fn:Str->Bool
 calm:Bool
 pn:Pn
 xe:Vp
 fxs:Option (List Bool×List (Option V))
noncomputable def frs(l:List Env):List Addr:=l.filterMap (·.frame)
abbrev Cx.fs(X:Cx):List Addr:=frs X.outer
noncomputable def Vis(sc:gN)(x:Str):Prop:=sc.names.lookup x=some .local\/sc.names.lookup x=some .cell\/sc.names.lookup x=some .free
noncomputable def Loc(sc:gN)(x:Str):Prop:=sc.names.lookup x=some .local\/sc.names.lookup x=some .cell
noncomputable def Zvi(env:Env)(h:Heap)(m:Str->Option aa)(x:Str)(u:aa):Prop:=
 (env.kindOf x=some .local/\m x=some u)\/((env.kindOf x=some .cell\/env.kindOf x=some .free)/\∃c,env.cells.lookup x=some c/\h.IsCell c (some u))
noncomputable def TbP(K:Fg)(P:Addr):Prop:=∃(c:Addr) (o:Obj) (vs:Array aa),K.lookup c=some o/\o.cls=.type "code"/\o.data=.fields vs/\vs[11]?=some (.ref P)
def Tbs(K:Fg)(H:Hp):Prop:=∀P,TbP K P->∃ps,H P=some (.tbl ps)
theorem Tbs.un{K:Fg}(t:Tbs K H)(u:Un fs ex H H' h h'):Tbs K H':=fun P z=>let ⟨ps,e⟩:=t P z;let ⟨m,e'⟩:=u.tbls P ps e;⟨_,e'⟩
structure Cx.Ok(X:Cx):Prop where
 mod:Mod X.K X.mg X.base
 kind:X.env.scope.kind=.function
 glob:X.env.globals=aI
 blt:X.env.builtins=f9
 above:X.s₀.heap.objs.size<=X.env.locals
 inj:∀x y c,X.env.cells.lookup x=some c->X.env.cells.lookup y=some c->x=y
 has:∀x,(X.env.kindOf x=some .cell\/X.env.kindOf x=some .free)->∃c,X.env.cells.lookup x=some c
 cab:∀x c,X.fn x=true->X.env.cells.lookup x=some c->X.s₀.heap.objs.size<=c
 hd:X.calm=true->X.A.handled=none
 frames:X.A.frames=some X.stack
 stk:X.stack=X.outer\/(X.stack=X.env::X.outer/\X.env.frame=some X.env.locals)
 exf:∀b∈X.ex,b≠X.env.locals/\∀x c,X.env.cells.lookup x=some c->c≠b
 bs:∀b o,X.base.get? b=some o->X.s₀.heap.get? b=some o/\X.H₀ b=none
 bsz:X.base.objs.size<=X.s₀.heap.objs.size
 noex:∀b o,X.base.get? b=some o->b∉X.ex
 exfs:∀b∈X.ex,b∉X.fs
 funs:X.s₀.heap.FunFrames X.base X.outer
 frf:∀b∈X.fs,X.H₀ b=none
 tb:Tbs X.K X.H₀
noncomputable def Qd(A:cX)(H:Hp):Prop:=A.handled=none\/∃ea oe u vs,A.handled=some (.ref ea)/\H ea=some (.frz oe u)/\oe.data=.fields vs/\vs[2]?=some .none
theorem Qd.mono(q:Qd A H)(k:∀b o u,H b=some (.frz o u)->H' b=some (.frz o u)):Qd A H':=by
 rcases q with q|⟨ea,oe,u,vs,e1,e2,e3,e4⟩
 ·exact .inl q
 ·exact .inr ⟨ea,oe,u,vs,e1,k _ _ _ e2,e3,e4⟩
noncomputable def Cx.may(X:Cx)(i:Nat):Bool:=match X.fxs with|none=>true|some (W,_)=>W[i]? == some true
noncomputable def Cx.Fx(X:Cx)(σ:List (Option V)):Prop:=∀W σ0,X.fxs=some (W,σ0)->∀j:Nat,W[j]?=some false->σ[j]?=σ0[j]?
theorem Cx.Fx.free {X:Cx}(h:X.fxs=none):X.Fx σ:=fun W σ0 e=>by rw[h]at e;cases e
theorem Cx.Fx.set {X:Cx}(h:X.Fx σ)(m:X.may i=true):X.Fx (σ.set i v):=fun W σ0 e j hj=>by
 have ne:i≠j:=fun z=>by
  unfold Cx.may at m;rw[e,z]at m;have m':(W[j]? == some true)=true:=m;rw[hj]at m';cases m'
 rw[aE ne];exact h W σ0 e j hj
structure Inv(X:Cx) (pins:Pn) (σ:List (Option V)) (H:Hp) (s:aC):Prop where
 ok:X.Ok
 os:s.os=X.s₀.os
 bare:gW s.gens
 base:Un X.fs X.ex X.H₀ H X.s₀.heap s.heap
 loc:∃m,s.heap.Ns X.env.locals m/\∀(i:Nat)(x:Str)(v:V),X.N[i]?=some x->σ[i]?=some (some v)->Vis X.env.scope x->∃u,Z0 v u/\Zvi X.env s.heap m x u
 cell:∀x c,X.env.cells.lookup x=some c->∃v,s.heap.IsCell c v
 free:H X.env.locals=none
 freeC:∀x c,X.env.cells.lookup x=some c->H c=none
 pin:∀p∈X.pn++pins,s.heap.get? p.1=some p.2/\H p.1=none/\p.1≠X.env.locals/\p.1∉X.fs/\∀v,p.2.data≠ .cell v
 hok:HOk X.prog X.w H s.heap
 len:σ.length=X.N.length
 qd:Qd X.A H
 fx:X.Fx σ
section
variable {X:Cx}
theorem Cx.Ok.nofr (ok:X.Ok)(e:X.base.get? b=some o):b∉X.fs:=fun hb=>by
 have:=(ok.funs.mem hb).1
 rw[e]at this;cases this
theorem Inv.bs(I:Inv X pins σ H s):∀b o,X.base.get? b=some o->s.heap.get? b=some o/\H b=none:=fun b o e=>
 ⟨I.base.keep b o (I.ok.bs b o e).1 (I.ok.bs b o e).2 (I.ok.nofr e) (I.ok.noex b o e),I.base.free b o (I.ok.bs b o e).1 (I.ok.bs b o e).2 (I.ok.noex b o e)⟩
theorem Inv.qh(I:Inv X pins σ H s):DQ.ZaX X.A s.heap:=by
 rcases I.qd with q|⟨ea,oe,u,vs,e1,e2,e3,e4⟩
 ·exact .inl q
 ·exact .inr ⟨ea,oe,vs,e1,(I.hok _ _ e2).1,e3,e4⟩
theorem Inv.bk(I:Inv X pins σ H s):∀b o,X.base.get? b=some o->s.heap.get? b=some o:=fun b o e=>(I.bs b o e).1
theorem Inv.mod(I:Inv X pins σ H s):Mod X.K X.mg X.base:=I.ok.mod
theorem Inv.kIn(I:Inv X pins σ H s):X.K.In s.heap:=I.ok.mod.kin.keeps I.bk
theorem Inv.nolimit(I:Inv X pins σ H s):s.heap.NoLimit:=I.ok.mod.nolimit.keeps I.bk
theorem Inv.fr(I:Inv X pins σ H s):∃m,Fr X.base X.env.locals s.heap m:=
 let ⟨m,hn,_⟩:=I.loc
 ⟨m,hn,I.bk,aU I.ok.bsz I.ok.above⟩
theorem Inv.lt(I:Inv X pins σ H s):X.env.locals<s.heap.objs.size:=let ⟨_,hn,_⟩:=I.loc;hn.lt
theorem Inv.sz(I:Inv X pins σ H s):X.s₀.heap.objs.size<=s.heap.objs.size:=aU I.ok.above (dw I.lt)
theorem Inv.nofs(I:Inv X pins σ H s){a:Addr}(h:s.heap.objs.size<=a):a∉X.fs:=fun hb=>by
 obtain⟨_,o,ho,_⟩:=I.ok.funs.mem hb;exact absurd (aj (Hz ho) (aU I.sz h)) (cj _)
theorem Inv.cne(I:Inv X pins σ H s):∀x c,X.env.cells.lookup x=some c->c≠X.env.locals:=fun x c e z=>by
 obtain⟨v,o,ho,hd⟩:=I.cell x c e;obtain⟨m,⟨o',es,ep,ho',hd',_⟩,_⟩:=I.loc;rw[z,ho']at ho;cases ho;rw[hd']at hd;cases hd
theorem Inv.funs(I:Inv X pins σ H s):s.heap.FunFrames X.base X.outer:=by
 have all:∀(l:List Env),(∀b∈frs l,b∈X.fs)->X.s₀.heap.FunFrames X.base l->s.heap.FunFrames X.base l:=by
  intro l
  induction l with
  |nil=>intro _ _;trivial
  |cons env r ih=>
   intro hs hl;obtain⟨hk,⟨L,o,hf,hn,ho,hd⟩,hr⟩:=hl;have hL:L∈X.fs:=hs L (by unfold frs;rw[dj,hf];exact bE)
   obtain⟨sl,e⟩:=I.base.slot L o ho (I.ok.frf L hL) hL fun z=>I.ok.exfs L z hL;exact⟨hk,⟨L,_,hf,hn,e,hd⟩,ih (fun b hb=>hs b (by unfold frs;rw[dj,hf];exact aA _ hb)) hr⟩
 exact all X.outer (fun _ hb=>hb) I.ok.funs
theorem Inv.stack(I:Inv X pins σ H s):s.heap.FunFrames X.base X.stack:=by
 rcases I.ok.stk with e|⟨e,hf⟩
 ·rw[e];exact I.funs
 ·rw[e];obtain⟨m,hn,_⟩:=I.loc;refine .cons (by rw[I.ok.kind];decide) hf hn ?_ I.funs
  exact ma.get?_none_of_le (aU I.ok.bsz I.ok.above)
theorem Inv.stkSub(I:Inv X pins σ H s):∀b∈frs X.stack,b∈X.env.locals::X.fs:=fun b hb=>by
 rcases I.ok.stk with e|⟨e,hf⟩
 ·rw[e]at hb;exact aA _ hb
 ·rw[e]at hb;unfold frs at hb;rw[dj,hf]at hb;exact hb
theorem Inv.stkFree(I:Inv X pins σ H s):∀b∈frs X.stack,H b=none:=fun b hb=>by
 rcases ah.mp (I.stkSub b hb)with e|hb
 ·rw[e];exact I.free
 ·obtain⟨_,o,ho,_⟩:=I.ok.funs.mem hb;exact I.base.free b o ho (I.ok.frf b hb) fun z=>I.ok.exfs b z hb
theorem Inv.step{ch:List Addr}(I:Inv X pins σ H s)(hch:∀b∈ch,(b∈X.ex\/X.s₀.heap.objs.size<=b)/\b≠X.env.locals/\(∀x c,X.env.cells.lookup x=some c->c≠b)/\∀p∈X.pn++pins,p.1≠b)(keep:∀b o,b≠X.env.locals->b∉X.fs->b∉ch->s.heap.get? b=some o->H b=none->h'.get? b=some o)(slot:∀b o,b≠X.env.locals->b∈X.fs->b∉ch->s.heap.get? b=some o->H b=none->∃sl,h'.get? b=some {o with slots:=sl})(free:∀b o,b∉ch->s.heap.get? b=some o->H b=none->H' b=none)(there:∀b o,b∉ch->s.heap.get? b=some o->∃o',h'.get? b=some o')(tups:∀b xs,H b=some (.tup xs)->H' b=some (.tup xs))(frzs:∀b o u,H b=some (.frz o u)->H' b=some (.frz o u))(tbls:∀b ps,H b=some (.tbl ps)->∃more,H' b=some (.tbl (ps++more)))(ns:∀m,s.heap.Ns X.env.locals m->h'.Ns X.env.locals m)(hok:HOk X.prog X.w H' h')(hg:gW g'):Inv X pins σ H' {s with heap:=h',gens:=g',drawn:=d',toks:=t'}:=by
 have neL:∀b o,X.s₀.heap.get? b=some o->b≠X.env.locals:=fun b o e=>au (aj (Hz e) I.ok.above);have neC:∀b o,X.s₀.heap.get? b=some o->b∉X.ex->b∉ch:=fun b o e hx hb=>by
  rcases(hch b hb).1 with z|z
  ·exact hx z
  ·exact absurd (aj (Hz e) z) (cj _)
 have cellK:∀x c,X.env.cells.lookup x=some c->∀v,s.heap.IsCell c v->h'.IsCell c v:=fun x c e v ⟨o,ho,hd⟩=>by
  have nch:c∉ch:=fun z=>(hch c z).2.2.1 x c e rfl;by_cases hc:c∈X.fs
  ·obtain⟨sl,q⟩:=slot c o (I.cne x c e) hc nch ho (I.freeC x c e);exact⟨_,q,hd⟩
  ·exact⟨o,keep c o (I.cne x c e) hc nch ho (I.freeC x c e),hd⟩
 refine⟨I.ok,I.os,hg,⟨fun b o e n hb hx=>?_,fun b o e n hb hx=>?_,fun b o e n hx=>?_,fun b o e hx=>?_,fun b xs e=>tups b xs (I.base.tups b xs e),fun b o xs e=>frzs b o xs (I.base.frzs b o xs e),fun b ps e=>?_⟩,?_,fun x c e=>?_,?_,fun x c e=>?_,fun p hp=>?_,hok,I.len,I.qd.mono frzs,I.fx⟩
 ·exact keep b o (neL b o e) hb (neC b o e hx) (I.base.keep b o e n hb hx) (I.base.free b o e n hx)
 ·obtain⟨sl,e1⟩:=I.base.slot b o e n hb hx;obtain⟨sl',e2⟩:=slot b _ (neL b o e) hb (neC b o e hx) e1 (I.base.free b o e n hx);exact⟨sl',e2⟩
 ·obtain⟨o',e1⟩:=I.base.there b o e hx;exact free b o' (neC b o e hx) e1 (I.base.free b o e n hx)
 ·obtain⟨o',e1⟩:=I.base.there b o e hx;exact there b o' (neC b o e hx) e1
 ·obtain⟨m1,e1⟩:=I.base.tbls b ps e;obtain⟨m2,e2⟩:=tbls b _ e1;exact⟨m1++m2,by rw[e2,Array.append_assoc]⟩
 ·obtain⟨m,hn,hl⟩:=I.loc;refine⟨m,ns m hn,fun i x v e1 e2 e3=>?_⟩;obtain⟨u,r,l⟩:=hl i x v e1 e2 e3;refine⟨u,r,?_⟩;rcases l with l|⟨k,c,e,z⟩
  ·exact .inl l
  ·exact .inr ⟨k,c,e,cellK x c e _ z⟩
 ·obtain⟨v,z⟩:=I.cell x c e;exact⟨v,cellK x c e v z⟩
 ·obtain⟨m,⟨o,_,_,ho,_⟩,_⟩:=I.loc;exact free _ o (fun z=>(hch _ z).2.1 rfl) ho I.free
 ·obtain⟨v,o,ho,hd⟩:=I.cell x c e;exact free c o (fun z=>(hch c z).2.2.1 x c e rfl) ho (I.freeC x c e)
 ·obtain⟨e,n,ne,nf,d⟩:=I.pin p hp;have nch:p.1∉ch:=fun z=>(hch p.1 z).2.2.2 p hp rfl;exact⟨keep p.1 p.2 ne nf nch e n,free p.1 p.2 nch e n,ne,nf,d⟩
theorem Inv.un(I:Inv X pins σ H s)(u:Un X.fs [] H H' s.heap h')(hok:HOk X.prog X.w H' h'):Inv X pins σ H' {s with heap:=h',toks:=t'}:=by
 obtain⟨m,⟨o,es,ep,ho,r⟩,_⟩:=id I.loc;obtain⟨sl,hL⟩:=u.any ho I.free (by simp)
 exact I.step (g':=s.gens) (d':=s.drawn) (ch:=[]) (fun _ z=>nomatch z) (fun b o _ hb _ e n=>u.keep b o e n hb (by simp)) (fun b o _ hb _ e n=>u.slot b o e n hb (by simp)) (fun b o _ e n=>u.free b o e n (by simp)) (fun b o _ e=>u.there b o e (by simp)) u.tups u.frzs u.tbls (fun m' hm=>by
  obtain⟨o',es',ep',ho',r'⟩:=hm;rw[ho]at ho';cases ho';exact⟨_,es',ep',hL,r'⟩) hok I.bare
theorem Inv.call(I:Inv X pins σ H s)(u:Un (frs X.stack) ch H H' s.heap h')(hok:HOk X.prog X.w H' h')(hg:gW g')(hch:∀b∈ch,(b∈X.ex\/X.s₀.heap.objs.size<=b)/\b≠X.env.locals/\(∀x c,X.env.cells.lookup x=some c->c≠b)/\∀p∈X.pn++pins,p.1≠b):Inv X pins σ H' {s with heap:=h',gens:=g',drawn:=d',toks:=t'}:=by
 obtain⟨m,⟨o,es,ep,ho,r⟩,_⟩:=id I.loc;obtain⟨sl,hL⟩:=u.any ho I.free fun z=>(hch _ z).2.1 rfl;exact I.step (ch:=ch) hch (fun b o hL hb hc e n=>u.keep b o e n (fun z=>(ah.mp (I.stkSub b z)).elim hL hb) hc) (fun b o _ _ hc e n=>u.any e n hc) (fun b o hc e n=>u.free b o e n hc) (fun b o hc e=>u.there b o e hc) u.tups u.frzs u.tbls (fun m' hm=>by
  obtain⟨o',es',ep',ho',r'⟩:=hm;rw[ho]at ho';cases ho';exact⟨_,es',ep',hL,r'⟩) hok hg
theorem Inv.turned(I:Inv X pins σ H s)(k:∀b o,b≠it->s.heap.get? b=some o->h'.get? b=some o)(hn:H it=none)(hL:it≠X.env.locals)(h1:it∈X.ex\/X.s₀.heap.objs.size<=it)(h2:∀x c,X.env.cells.lookup x=some c->c≠it)(h3:∀p∈X.pn++pins,p.1≠it):Inv X pins σ H {s with heap:=h',toks:=t'}:=by
 have nit:∀b u,H b=some u->b≠it:=fun b u e z=>by rw[z,hn]at e;cases e
 refine I.step (g':=s.gens) (d':=s.drawn) (ch:=[it]) (fun b hb=>?_) (fun b o _ _ hc e _=>k b o (fun z=>hc (by simp[z])) e) (fun b o _ _ hc e _=>⟨o.slots,k b o (fun z=>hc (by simp[z])) e⟩) (fun _ _ _ _ n=>n)
  (fun b o hc e=>⟨o,k b o (fun z=>hc (by simp[z])) e⟩) (fun _ _ e=>e) (fun _ _ _ e=>e) (fun b ps e=>⟨#[],by rw[e];simp⟩) (fun m hm=>?_) (fun b u e=>?_) I.bare
 ·have e:b=it:=by simpa using hb
  subst e;exact⟨h1,hL,h2,h3⟩
 ·obtain⟨o,es,ep,ho,r⟩:=hm;exact⟨o,es,ep,k _ o (bW hL) ho,r⟩
 ·refine(I.hok b u e).stay (fun c v hc q=>k c v ?_ q) (fun _ q=>q) fun _ _ q=>q;rcases hc with z|z
  ·rw[z];exact nit b u e
  ·exact nit c _ z
theorem Inv.tok(I:Inv X pins σ H s)(t:Nat):Inv X pins σ H {s with toks:=t}:=I.un (h':=s.heap) (t':=t) Un.refl I.hok
theorem Inv.kept(I:Inv X pins σ H s)(k:∀b u,s.heap.get? b=some u->h'.get? b=some u):Inv X pins σ H {s with heap:=h',toks:=t'}:=I.un (Un.kept k) (I.hok.kept k)
theorem Inv.laid(I:Inv X pins σ H s)(k:∀b u,s.heap.get? b=some u->h'.get? b=some u)(hp:s.heap.objs.size<=a)(new:ZaS X.prog X.w (upd H a o) h' a o):Inv X pins σ (upd H a o) {s with heap:=h',toks:=t'}:=I.un (Un.laid k hp (I.hok.fresh hp)) (I.hok.laid k hp new)
theorem Inv.write(I:Inv X pins σ H s)(mu:Mut (H x))(he:e=x\/H e=some (.own x))(k:∀b u,b≠e->s.heap.get? b=some u->h'.get? b=some u)(heo:∃u,h'.get? e=some u)(new:ZaS X.prog X.w (upd H x o) h' x o):Inv X pins σ (upd H x o) {s with heap:=h',toks:=t'}:=I.un (Un.write mu he k heo) (I.hok.write mu he k heo new)
theorem Inv.pins_of(I:Inv X pins σ H s)(h:∀p∈pins',s.heap.get? p.1=some p.2/\H p.1=none/\p.1≠X.env.locals/\p.1∉X.fs/\∀v,p.2.data≠ .cell v):Inv X pins' σ H s:=
 ⟨I.ok,I.os,I.bare,I.base,I.loc,I.cell,I.free,I.freeC,fun p hp=>(bq.mp hp).elim (fun z=>I.pin p (dY _ z)) (h p),I.hok,I.len,I.qd,I.fx⟩
theorem ZfS{N:List Str}(hN:N.Nodup){i:Nat}(a:N[i]?=some x)(b:N[j]?=some x):i=j:=by
 obtain⟨h1,e1⟩:=ar.mp a;obtain⟨h2,e2⟩:=ar.mp b;exact(List.getElem_inj hN).mp (e1.trans e2.symm)
theorem Zej(I:Inv X pins σ H s)(hN:X.N.Nodup)(hi:X.N[i]?=some x)(hx:Loc X.env.scope x)(hm:X.may i=true)(r:Z0 v u)(h:∀s',Inv X pins (σ.set i (some v)) H s'->(∃a,dq a s.heap s'.heap/\(a=X.env.locals\/X.env.cells.lookup x=some a))->Q () s')(hf:X.fn x=true\/X.env.scope.names.lookup x=some .local:=by first|exact .inl rfl|exact .inr rfl|assumption):wpAny M A (storeName X.env x u) Q E s:=by
 obtain⟨m,hn,hl⟩:=id I.loc;have hcls:(X.env.scope.kind == .class||(X.env.scope.kind == .module&&X.env.locals != X.env.globals))=false:=by rw[I.ok.kind];rfl
 have hiσ:i<σ.length:=by rw[I.len];exact(ar.mp hi).1
 have cne:=I.cne;have tracked:∀{a:Addr}{h':Heap},(∃o,s.heap.get? a=some o/\H a=none)->dq a s.heap h'->HOk X.prog X.w H h':=fun{a h'} ha hs b ob e=>by
  obtain⟨_,_,hfree⟩:=ha;refine(I.hok b ob e).stay (fun c w' hc q=>(hs.2 c ?_).trans q) (fun _ q=>q) fun _ _ q=>q;rintro rfl;rcases hc with rfl|hc
  ·rw[hfree]at e;cases e
  ·rw[hfree]at hc;cases hc
 rcases hx with hk|hk
 ·refine wpAny_storeName_local hk hn (fun h' hn' hs=>?_) hcls;obtain⟨oL,_,_,hoL,_⟩:=id hn;refine h _ ⟨I.ok,I.os,I.bare,⟨fun b o e n hb hx=>?_,fun b o e n hb hx=>?_,I.base.free,fun b o e hx=>?_,I.base.tups,I.base.frzs,I.base.tbls⟩,⟨_,hn',fun j y v' e1 e2 e3=>?_⟩,fun y c e=>?_,I.free,I.freeC,fun p hp=>?_,tracked ⟨oL,hoL,I.free⟩ hs,by simpa using I.len,I.qd,I.fx.set hm⟩ ⟨_,hs,.inl rfl⟩
  ·exact(hs.2 b (au (aj (Hz e) I.ok.above))).trans (I.base.keep b o e n hb hx)
  ·obtain⟨sl,e1⟩:=I.base.slot b o e n hb hx;exact⟨sl,(hs.2 b (au (aj (Hz e) I.ok.above))).trans e1⟩
  ·obtain⟨o',e1⟩:=I.base.there b o e hx;exact⟨o',(hs.2 b (au (aj (Hz e) I.ok.above))).trans e1⟩
  ·by_cases hj:j=i
   ·subst hj;rw[hi]at e1;cases e1;rw[aF hiσ]at e2;cases e2;exact⟨u,r,.inl ⟨hk,by simp⟩⟩
   ·rw[aE (bW hj)]at e2;obtain⟨u',r',q⟩:=hl j y v' e1 e2 e3;refine⟨u',r',?_⟩;rcases q with⟨k,e⟩|⟨k,c,e,z⟩
    ·refine .inl ⟨k,?_⟩
     have:y≠x:=fun e=>hj (ZfS hN e1 (e▸hi))
     simp[this,e]
    ·exact .inr ⟨k,c,e,z.sameBut hs (cne y c e)⟩
  ·obtain⟨w',z⟩:=I.cell y c e;exact⟨w',z.sameBut hs (cne y c e)⟩
  ·obtain⟨e,n,ne,nf,d⟩:=I.pin p hp;exact⟨(hs.2 p.1 ne).trans e,n,ne,nf,d⟩
 ·have hfn:X.fn x=true:=by
   rcases hf with z|z
   ·exact z
   ·rw[z]at hk;cases hk
  obtain⟨c,hc⟩:=I.ok.has x (.inl hk);obtain⟨w',z⟩:=I.cell x c hc;refine wpAny_storeName_cell I.ok.kind hk hc z (fun h' hc' hs=>?_);obtain⟨oc,hoc,hocd⟩:=id z;refine h {s with heap:=h'} ⟨I.ok,I.os,I.bare,⟨fun b o e n hb hx=>?_,fun b o e n hb hx=>?_,I.base.free,fun b o e hx=>?_,I.base.tups,I.base.frzs,I.base.tbls⟩,⟨m,hn.sameBut hs (bW (cne x c hc)),fun j y v' e1 e2 e3=>?_⟩,fun y c' e=>?_,I.free,I.freeC,fun p hp=>?_,tracked ⟨oc,hoc,I.freeC x c hc⟩ hs,by simpa using I.len,I.qd,I.fx.set hm⟩ ⟨c,hs,.inr hc⟩
  ·exact(hs.2 b (au (aj (Hz e) (I.ok.cab x c hfn hc)))).trans (I.base.keep b o e n hb hx)
  ·obtain⟨sl,e1⟩:=I.base.slot b o e n hb hx;exact⟨sl,(hs.2 b (au (aj (Hz e) (I.ok.cab x c hfn hc)))).trans e1⟩
  ·obtain⟨o',e1⟩:=I.base.there b o e hx;exact⟨o',(hs.2 b (au (aj (Hz e) (I.ok.cab x c hfn hc)))).trans e1⟩
  ·by_cases hj:j=i
   ·subst hj;rw[hi]at e1;cases e1;rw[aF hiσ]at e2;cases e2;exact⟨u,r,.inr ⟨.inl hk,c,hc,hc'⟩⟩
   ·rw[aE (bW hj)]at e2;obtain⟨u',r',q⟩:=hl j y v' e1 e2 e3;refine⟨u',r',?_⟩;rcases q with q|⟨k,c',e,z'⟩
    ·exact .inl q
    ·refine .inr ⟨k,c',e,z'.sameBut hs ?_⟩;rintro rfl;exact hj (ZfS hN e1 (I.ok.inj _ _ _ e hc▸hi))
  ·by_cases hcc:c'=c
   ·subst hcc;exact⟨_,hc'⟩
   ·obtain⟨w2,z2⟩:=I.cell y c' e;exact⟨w2,z2.sameBut hs hcc⟩
  ·obtain⟨e,n,ne,nf,d⟩:=I.pin p hp;refine⟨(hs.2 p.1 ?_).trans e,n,ne,nf,d⟩;intro q;rw[q,hoc]at e;have q':oc=p.2:=aN e;exact d w' (by rw[<-q'];exact hocd)
theorem ZcD(I:Inv X pins σ H s)(hN:X.N.Nodup)(hi:X.N[i]?=some x)(hx:Loc X.env.scope x)(hm:X.may i=true)(r:Z0 v u)(h:∀s',Inv X pins (σ.set i (some v)) H s'->Q () s')(hf:X.fn x=true\/X.env.scope.names.lookup x=some .local:=by first|exact .inl rfl|exact .inr rfl|assumption):wpAny M A (storeName X.env x u) Q E s:=
 Zej I hN hi hx hm r (fun s' I' _=>h s' I') hf
theorem Inv.call'(I:Inv X pins σ H s)(ho:s'.os=s.os)(u:Un (frs X.stack) ch H H' s.heap s'.heap)(hok:HOk X.prog X.w H' s'.heap)(hg:gW s'.gens)(hch:∀b∈ch,(b∈X.ex\/X.s₀.heap.objs.size<=b)/\b≠X.env.locals/\(∀x c,X.env.cells.lookup x=some c->c≠b)/\∀p∈X.pn++pins,p.1≠b):Inv X pins σ H' s':=by
 obtain⟨h',g',d',t',o'⟩:=s';have e:o'=s.os:=ho;subst e;exact I.call (g':=g') (t':=t') (d':=d') u hok hg hch
end
abbrev XK:=aa->Option Addr->Hp->Prop
noncomputable abbrev St:=List (Option V)
abbrev VK:=V->Hp->Prop
abbrev TE:=St->Hp->VK->Prop
abbrev TT:=St->Hp->(Bool->Hp->Prop)->Prop
abbrev TA:=St->Hp->(List V->Hp->Prop)->Prop
structure Ends where
 nx:St->Hp->Prop
 rt:VK
 bk:St->Hp->Prop:=fun _ _=>False
 ct:St->Hp->Prop:=fun _ _=>False
abbrev TS:=Ends->St->Hp->Prop
def EP(X:Cx)(pins:Pn)(σ:St)(Q:VK)(u:aa)(s':aC):Prop:=∃v H',Inv X pins σ H' s'/\Z0 v u/\Q v H'
noncomputable def TP(X:Cx)(pins:Pn)(σ:St)(Q:Bool->Hp->Prop)(b:Bool)(s':aC):Prop:=∃H',Inv X pins σ H' s'/\Q b H'
def AP(X:Cx)(pins:Pn)(σ:St)(Q:List V->Hp->Prop)(us:List aa)(s':aC):Prop:=∃vs H',Inv X pins σ H' s'/\ZZ vs us/\Q vs H'
def SP(X:Cx)(pins:Pn)(D:Ends)(f:Flow)(s':aC):Prop:=
 match f with
 |.next=>∃σ' H',Inv X pins σ' H' s'/\D.nx σ' H'
 |.brk=>∃σ' H',Inv X pins σ' H' s'/\D.bk σ' H'
 |.cont=>∃σ' H',Inv X pins σ' H' s'/\D.ct σ' H'
 |.ret u=>∃v σ' H',Inv X pins σ' H' s'/\Z0 v u/\D.rt v H'
def PE(X:Cx)(e:Expr)(t:TE):Prop:=
 ∀(pins:Pn)(s:aC)(σ:St)(H:Hp)(Q:VK),Inv X pins σ H s->t σ H Q->wpAny (aw X.prog X.w) X.A (eval e X.env) (EP X pins σ Q) X.xe s
def PT(X:Cx)(e:Expr)(t:TT):Prop:=
 ∀(pins:Pn)(s:aC)(σ:St)(H:Hp)(Q:Bool->Hp->Prop),Inv X pins σ H s->t σ H Q->wpAny (aw X.prog X.w) X.A (isTrue e X.env (eval e X.env)) (TP X pins σ Q) X.xe s
def PW(X:Cx)(e:Expr)(t:TT):Prop:=
 ∀(whole:Sem aa)(pins:Pn)(s:aC)(σ:St)(H:Hp)(Q:Bool->Hp->Prop),Inv X pins σ H s->t σ H Q->wpAny (aw X.prog X.w) X.A (isTrue e X.env whole) (TP X pins σ Q) X.xe s
theorem PW.pt(h:PW X e t):PT X e t:=h _
def PA(X:Cx)(es:List Expr)(t:TA):Prop:=
 ∀(pos:Pos)(pins:Pn)(s:aC)(σ:St)(H:Hp)(Q:List V->Hp->Prop),Inv X pins σ H s->t σ H Q->wpAny (aw X.prog X.w) X.A (spliced (cN pos (av es X.env))) (AP X pins σ Q) X.xe s
def PS(X:Cx)(st:Stmt)(t:TS):Prop:=
 ∀(pins:Pn)(s:aC)(σ:St)(H:Hp)(D:Ends),Inv X pins σ H s->t D σ H->wpAny (aw X.prog X.w) X.A (exec st X.env) (SP X pins D) X.xe s
def PSs(X:Cx)(st:List Stmt)(t:TS):Prop:=
 ∀(pins:Pn)(s:aC)(σ:St)(H:Hp)(D:Ends),Inv X pins σ H s->t D σ H->wpAny (aw X.prog X.w) X.A (execs st X.env) (SP X pins D) X.xe s
theorem thn{t:Sem α}{Q Q':α->aC->Prop}(h:wpAny M A t Q E s)(hQ:∀a s,Q a s->Q' a s):wpAny M A t Q' E s:=wpAny_mono h hQ fun _ _ x=>x
noncomputable def Zuh(i:Nat):TE:=fun σ H Q=>∃v,σ[i]?=some (some v)/\Q v H
noncomputable def tC(v:V):TE:=fun _ H Q=>Q v H
theorem Zlj(hN:X.N[i]?=some x)(hv:Vis X.env.scope x)(hd:autoParam ((x==("__debug__":Str))=false) Qde._auto_1)(hcd:autoParam ((x==("__classdict__":Str))=false) Qde._auto_1):PE X (.Name x pos) (Zuh i):=by
 intro pins s σ H Q I h;obtain⟨v,e,h⟩:=h;obtain⟨m,hn,hl⟩:=I.loc;obtain⟨u,r,l⟩:=hl i x v hN e hv;have fin:EP X pins σ Q u s:=⟨v,H,I,r,h⟩;rcases l with⟨hk,hm⟩|⟨hk,c,hc,hcell⟩
 ·exact wpAny_Name (wpAny_loadName_local I.ok.kind hk hn hm fin) hd
 ·rcases hk with hk|hk
  ·exact wpAny_Name (wpAny_loadName_cell I.ok.kind hk hc hcell fin) hd
  ·exact wpAny_Name (wpAny_loadName_free I.ok.kind hk hc hcell fin hcd) hd
theorem ZoC{i j pos}:PE X (.Constant (.int i) j pos) (tC (.int i)):=fun _ _ _ H _ I h=>wpAny_Constant_int ⟨.int i,H,I.tok _,⟨_,rfl⟩,h⟩
theorem ZrY{b j pos}:PE X (.Constant (.bool b) j pos) (tC (.bl b)):=fun _ _ _ H _ I h=>Constant_bool ⟨.bl b,H,I,rfl,h⟩
theorem ZoD{j pos}:PE X (.Constant .none j pos) (tC .non):=fun _ _ _ H _ I h=>Constant_none ⟨.non,H,I,rfl,h⟩
theorem ZoE{x j pos}:PE X (.Constant (.str x) j pos) (tC (.str x)):=fun _ _ _ H _ I h=>Calls.Constant_str ⟨.str x,H,I.tok _,⟨_,rfl⟩,h⟩
noncomputable def Gl(X:Cx)(x:Str):Prop:=X.env.kindOf x=some .globalImplicit
theorem Zhq(I:Inv X pins σ H s)(hg:Gl X x)(hm:X.mg x=some u)(h:Q u s)(hd:autoParam ((x==("__debug__":Str))=false) Qde._auto_1):wpAny (aw X.prog X.w) X.A (eval (.Name x pos) X.env) Q E s:=
 Calls.Name_function_global I.ok.kind hg (Calls.loadGlobal_global (by rw[I.ok.glob];exact I.mod.glob.keeps I.bk) hm h) hd
theorem ZbA(I:Inv X pins σ H s)(hg:Gl X x)(hm:X.mg x=none)(hv:bB x=some u)(h:Q u s)(hn:autoParam (x≠"__name__") Qde._auto_1)(hd:autoParam ((x==("__debug__":Str))=false) Qde._auto_1):wpAny (aw X.prog X.w) X.A (eval (.Name x pos) X.env) Q E s:=by
 obtain⟨mb,h1,h2⟩:=I.mod.blt;exact Calls.Name_function_global I.ok.kind hg (Calls.loadGlobal_builtin (by rw[I.ok.glob];exact I.mod.glob.keeps I.bk) hm (by rw[I.ok.blt];exact h1.keeps I.bk) ((h2 x hn).trans hv) h) hd
theorem Zmj(hg:Gl X x)(hm:X.mg x=none)(hv:bB x=some u)(r:Z0 v u)(hn:autoParam (x≠"__name__") Qde._auto_1)(hd:autoParam ((x==("__debug__":Str))=false) Qde._auto_1):PE X (.Name x pos) (tC v):=
 fun _ _ _ H _ I h=>ZbA I hg hm hv ⟨v,H,I,r,h⟩ hn hd
noncomputable def tB(t:TE):TT:=fun σ H Q=>t σ H fun x H1=>∃c,x=.bl c/\Q c H1
theorem ZoF(h:PE X e t)(he:autoParam (∀whole,isTrue e X.env whole=(do let v <-whole;standAt e.pos;holding [v] (truthy v))) Qin._auto_1):PT X e (tB t):=by
 intro pins s σ H Q I hw;refine isTrue_plain (thn (h pins s σ H _ I hw) fun v s1 ⟨x,H1,I1,r1,q1⟩=>?_) (he _);obtain⟨d,rfl,q⟩:=q1;cases r1;exact dX ⟨H1,I1,q⟩
noncomputable def Zvj(t u:TT):TT:=fun σ H Q=>t σ H fun c H1=>if c=true then u σ H1 Q else Q false H1
noncomputable def tOr(t u:TT):TT:=fun σ H Q=>t σ H fun c H1=>if c=true then Q true H1 else u σ H1 Q
noncomputable def Zvk(t:TT):TT:=fun σ H Q=>t σ H fun c H1=>Q (!c) H1
theorem pw_and1(ha:PT X a tA):PW X (.BoolOp .And [a] pos) tA:=by
 intro wh pins s σ H Q I h;refine isTrue_and (thn (ha pins s σ H Q I h) fun c s1 e=>?_);cases c with
 |true=>exact isTrue_and_nil e
 |false=>exact e
theorem pw_or1(ha:PT X a tA):PW X (.BoolOp .Or [a] pos) tA:=by
 intro wh pins s σ H Q I h;refine isTrue_or (thn (ha pins s σ H Q I h) fun c s1 e=>?_);cases c with
 |false=>exact isTrue_or_nil e
 |true=>exact e
theorem pw_and(ha:PT X a tA)(hb:PW X (.BoolOp .And (b::rest) pos) tB'):PW X (.BoolOp .And (a::b::rest) pos) (Zvj tA tB'):=by
 intro wh pins s σ H Q I h;refine isTrue_and (thn (ha pins s σ H _ I h) fun c s1 hz=>?_);obtain⟨H1,I1,q1⟩:=hz;cases c with
 |true=>exact hb wh pins s1 σ H1 Q I1 q1
 |false=>exact⟨H1,I1,q1⟩
theorem pw_or(ha:PT X a tA)(hb:PW X (.BoolOp .Or (b::rest) pos) tB'):PW X (.BoolOp .Or (a::b::rest) pos) (tOr tA tB'):=by
 intro wh pins s σ H Q I h;refine isTrue_or (thn (ha pins s σ H _ I h) fun c s1 hz=>?_);obtain⟨H1,I1,q1⟩:=hz;cases c with
 |true=>exact⟨H1,I1,q1⟩
 |false=>exact hb wh pins s1 σ H1 Q I1 q1
theorem ZoG(ha:PT X a tA):PT X (.UnaryOp .Not a pos) (Zvk tA):=by
 intro pins s σ H Q I h;exact isTrue_not (ha pins s σ H (fun c H1=>Q (!c) H1) I h)
noncomputable def ZrZ(ta tb:TE):TE:=fun σ H Q=>ta σ H fun x H1=>∃c,x=.bl c/\if c=true then tb σ H1 Q else Q (.bl false) H1
noncomputable def Zr0(ta:TE):TE:=fun σ H Q=>ta σ H fun x H1=>∃c,x=.bl c/\Q (.bl (!c)) H1
theorem ZoH{op}(h:PE X a t):PE X (.BoolOp op [a] pos) t:=fun pins s σ H Q I hw=>BoolOp_one (h pins s σ H Q I hw)
theorem ZoI(ha:PE X a ta)(hb:PE X (.BoolOp .And (b::rest) pos) tb):PE X (.BoolOp .And (a::b::rest) pos) (ZrZ ta tb):=by
 intro pins s σ H Q I h;refine BoolOp_and (thn (ha pins s σ H _ I h) fun v s1 hz=>?_);obtain⟨x,H1,I1,r1,q1⟩:=hz;obtain⟨c,rfl,q1⟩:=q1;cases r1;refine dX ?_;cases c with
 |true=>exact hb pins s1 σ H1 Q I1 q1
 |false=>exact⟨.bl false,H1,I1,rfl,q1⟩
theorem ZoJ(ha:PE X a ta):PE X (.UnaryOp .Not a pos) (Zr0 ta):=by
 intro pins s σ H Q I h;refine UnaryOp_ (thn (ha pins s σ H _ I h) fun v s1 hz=>?_);obtain⟨x,H1,I1,r1,q1⟩:=hz;obtain⟨c,rfl,q1⟩:=q1;cases r1;exact not_of (dX ⟨.bl (!c),H1,I1,rfl,q1⟩)
noncomputable def tIf(t:TT)(ta tb:TE):TE:=fun σ H Q=>t σ H fun c H1=>if c=true then ta σ H1 Q else tb σ H1 Q
theorem Zj3(hc:PT X c tA)(ha:PE X a ta)(hb:PE X b tb):PE X (.IfExp c a b pos) (tIf tA ta tb):=by
 intro pins s σ H Q I h;refine wpAny_IfExp (thn (hc pins s σ H _ I h) fun d s1 hz=>?_);obtain⟨H1,I1,q1⟩:=hz;cases d with
 |true=>exact ha pins s1 σ H1 Q I1 q1
 |false=>exact hb pins s1 σ H1 Q I1 q1
def SqL(K:Fg)(H:Hp)(a:Addr)(xs:List V):Prop:=
 Rd H a (.lst xs)\/
  ∃(o:Obj) (its:Array aa) (n:Nat),K.lookup a=some o/\o.cls=.type "list"/\o.dict=none/\o.data=.seq its n/\its.size<=sizeLine/\ZZ xs its.toList
def SqT(K:Fg)(H:Hp)(a:Addr)(xs:List V):Prop:=
 Rd H a (.tup xs)\/
  ∃(o:Obj) (its:Array aa) (n:Nat),K.lookup a=some o/\o.cls=.type "tuple"/\o.data=.seq its n/\its.size<=sizeLine/\ZZ xs its.toList
noncomputable def Zvl:aa->Option V
 |.none=>some .non
 |.bool b=>some (.bl b)
 |.int i _=>some (.int i)
 |.str x _=>some (.str x)
 |.bytes b _=>some (.byt b)
 |.float b _=>some (.flt b)
 |.ref a=>some (.ref a)
 |.type n=>some (.ty n)
 |_=>none
theorem Z0.abs(r:Z0 x u):Zvl u=some x:=by
 cases x with
 |non=>cases r;rfl
 |bl _=>cases r;rfl
 |int _=>obtain⟨t,rfl⟩:=r;rfl
 |str _=>obtain⟨t,rfl⟩:=r;rfl
 |byt _=>obtain⟨t,rfl⟩:=r;rfl
 |flt _=>obtain⟨t,rfl⟩:=r;rfl
 |ref _=>cases r;rfl
 |ty _=>cases r;rfl
theorem Z0.inj(r:Z0 x u)(q:Z0 y u):x=y:=aN (r.abs.symm.trans q.abs)
theorem ZZ.inj:∀{xs ys:List V}{us:List aa},ZZ xs us->ZZ ys us->xs=ys:=by
 intro xs ys us h
 induction h generalizing ys with
 |nil=>intro h;cases h;rfl
 |cons r t ih=>intro h;cases h with|cons r2 t2=>rw[r.inj r2,ih t2]
theorem SqL.of{K:Fg}(h:H a=some (.lst xs)):SqL K H a xs:=.inl (.inl h)
theorem SqT.of{K:Fg}(h:H a=some (.tup xs)):SqT K H a xs:=.inl (.inl h)
theorem Inv.list(I:Inv X pins σ H s)(h:SqL X.K H a xs):∃its:List aa,ZZ xs its/\PlainL s.heap a its.toArray/\xs.length<=sizeLine:=by
 rcases h with h|⟨o,its,n,hk,hc,hd,hs,hz,r⟩
 ·obtain⟨z,its,n,r,e⟩:=h.ok I.hok;exact⟨its,r,⟨_,n,e,rfl,rfl,rfl⟩,z⟩
 ·refine⟨its.toList,r,⟨o,n,I.kIn a o hk,hc,hd,by simpa using hs⟩,?_⟩
  have e:=r.length;simp only[fI]at e;lia
theorem Inv.tuple(I:Inv X pins σ H s)(h:SqT X.K H a xs):∃its:List aa,ZZ xs its/\gY s.heap a its.toArray/\xs.length<=sizeLine:=by
 rcases h with h|⟨o,its,n,hk,hc,hs,hz,r⟩
 ·obtain⟨z,its,r,p⟩:=h.ok I.hok;exact⟨its,r,p,z⟩
 ·refine⟨its.toList,r,⟨o,I.kIn a o hk,hc,n,by simpa using hs⟩,?_⟩
  have e:=r.length;simp only[fI]at e;lia
theorem Inv.list_inj(I:Inv X pins σ H s)(h:SqL X.K H a xs)(h':SqL X.K H a ys):xs=ys:=by
 obtain⟨its,r,⟨o,n,e,_,_,d⟩,_⟩:=I.list h;obtain⟨its',r',⟨o',n',e',_,_,d'⟩,_⟩:=I.list h';rw[e]at e';cases e';rw[d]at d';injection d' with d1 _
 have:its=its':=by simpa using congrArg Array.toList d1
 subst this;exact r.inj r'
theorem Inv.tuple_inj(I:Inv X pins σ H s)(h:SqT X.K H a xs)(h':SqT X.K H a ys):xs=ys:=by
 obtain⟨its,r,⟨o,e,_,n,d⟩,_⟩:=I.tuple h;obtain⟨its',r',⟨o',e',_,n',d'⟩,_⟩:=I.tuple h';rw[e]at e';cases e';rw[d]at d';injection d' with d1 _
 have:its=its':=by simpa using congrArg Array.toList d1
 subst this;exact r.inj r'
section
variable {st:Stmt}{rest:List Stmt}
noncomputable def tNext:TS:=fun D σ H=>D.nx σ H
noncomputable def Zvm(t u:TS):TS:=fun D σ H=>t {D with nx:=u D} σ H
theorem Zmk:PSs X [] tNext:=fun _ _ σ H _ I h=>hV ⟨σ,H,I,h⟩
theorem Zj4(h1:PS X st t)(h2:PSs X rest u):PSs X (st::rest) (Zvm t u):=by
 intro pins s σ H D I h;refine wpAny_execs_cons (thn (h1 pins s σ H {D with nx:=u D} I h) fun f s1 q=>?_);cases f with
 |next=>
  obtain⟨σ',H',I',q⟩:=q;exact h2 pins s1 σ' H' D I' q
 |ret v=>exact q
 |brk=>exact q
 |cont=>exact q
theorem Zml(h1:PS X st t):PSs X [st] t:=by
 intro pins s σ H D I h;refine wpAny_execs_cons (thn (h1 pins s σ H D I h) fun f s1 q=>?_);cases f with
 |next=>exact hV q
 |ret v=>exact q
 |brk=>exact q
 |cont=>exact q
theorem Inv.quiet(I:Inv X pins σ H s):interactive X.env=false:=by simp[interactive,I.ok.kind]
noncomputable def Zr1(te:TE):TS:=fun D σ H=>te σ H fun _ H1=>D.nx σ H1
theorem Zmm(he:PE X e te)(hs:autoParam (iy e none pos.line X.env=pure false) Qrf._auto_1):PS X (.Expr e pos) (Zr1 te):=by
 intro pins s σ H D I h;exact wpAny_Expr_any (thn (he pins s σ H _ I h) fun v s1 ⟨x,H1,I1,r1,q1⟩=>⟨σ,H1,I1,q1⟩) I.quiet hs
noncomputable def Zvn(te:TE):TS:=fun D σ H=>te σ H D.rt
theorem ZoK(he:PE X e te):PS X (.Return (some e) pos) (Zvn te):=by
 intro pins s σ H D I h;exact wpAny_Return_some (thn (he pins s σ H _ I h) fun v s1 ⟨x,H1,I1,r1,q1⟩=>⟨x,σ,H1,I1,r1,q1⟩)
noncomputable def Zvo(c:TT)(t u:TS):TS:=fun D σ H=>c σ H fun b H1=>if b=true then t D σ H1 else u D σ H1
theorem Zr2(hc:PT X c tc)(ha:PSs X a t)(hb:PSs X b u):PS X (.If c a b pos) (Zvo tc t u):=by
 intro pins s σ H D I h;refine wpAny_If (thn (hc pins s σ H _ I h) fun d s1 hz=>?_);obtain⟨H1,I1,q1⟩:=hz;cases d with
 |true=>exact ha pins s1 σ H1 D I1 q1
 |false=>exact hb pins s1 σ H1 D I1 q1
end
abbrev TG:=V->St->Hp->(St->Hp->Prop)->Prop
abbrev TGs:=List V->St->Hp->(St->Hp->Prop)->Prop
def PG(X:Cx)(target:Expr)(t:TG):Prop:=
 ∀(pins:Pn)(s:aC)(σ:St)(H:Hp)(v:V)(u:aa)(Q:St->Hp->Prop),Inv X pins σ H s->Z0 v u->t v σ H Q->
  wpAny (aw X.prog X.w) X.A (assign target X.env u) (fun _ s'=>∃σ' H',Inv X pins σ' H' s'/\Q σ' H') X.xe s
def PGs(X:Cx)(ts:List Expr)(t:TGs):Prop:=
 ∀(pins:Pn)(s:aC)(σ:St)(H:Hp)(vs:List V)(us:List aa)(Q:St->Hp->Prop),Inv X pins σ H s->ZZ vs us->t vs σ H Q->
  wpAny (aw X.prog X.w) X.A (assignInOrder ((bU ts X.env).map (·.2)) us) (fun _ s'=>∃σ' H',Inv X pins σ' H' s'/\Q σ' H') X.xe s
abbrev Zr3:=V->V->V->Hp->(Hp->Prop)->Prop
def Zui(X:Cx)(t:Zr3):Prop:=
 ∀(pins:Pn)(s:aC)(σ:St)(H:Hp)(o i v:V)(ov iv u:aa)(Q:Hp->Prop),Inv X pins σ H s->Z0 o ov->Z0 i iv->Z0 v u->t o i v H Q->
  wpAny (aw X.prog X.w) X.A (setItem ov iv u) (fun _ s'=>∃H',Inv X pins σ H' s'/\Q H') X.xe s
noncomputable def ZoL(i:Nat):TG:=fun v σ H Q=>Q (σ.set i (some v)) H
theorem Zmn(hN:X.N.Nodup)(hi:X.N[i]?=some x)(hx:Loc X.env.scope x)(hm:X.may i=true)(hf:X.fn x=true\/X.env.scope.names.lookup x=some .local:=by first|exact .inl rfl|exact .inr rfl|assumption):PG X (.Name x pos) (ZoL i):=by
 intro pins s σ H v u Q I r h;exact wpAny_assign_Name (ZcD I hN hi hx hm r (fun s' I'=>⟨_,H,I',h⟩) hf)
noncomputable def gNil:TGs:=fun vs σ H Q=>vs=[]/\Q σ H
noncomputable def Zr4(t:TG)(u:TGs):TGs:=fun vs σ H Q=>∃v r,vs=v::r/\t v σ H fun σ' H'=>u r σ' H' Q
theorem Zmo:PGs X [] gNil:=by
 intro pins s σ H vs us Q I r h;obtain⟨e,h⟩:=h;subst e;cases r;exact assignInOrder_nil ⟨σ,H,I,h⟩
theorem Zj5(h1:PG X e t)(h2:PGs X es u)(hs:autoParam ((bU (e::es) X.env).map (·.2)=assign e X.env::(bU es X.env).map (·.2)) Qrf._auto_1):PGs X (e::es) (Zr4 t u):=by
 intro pins s σ H vs us Q I r h;obtain⟨v,vr,e1,h⟩:=h;subst e1;cases r with
 |cons r rr=>
  rw[hs];refine iG (thn (h1 pins s σ H _ _ _ I r h) fun _ s1 hz=>?_);obtain⟨σ1,H1,I1,q1⟩:=hz;exact h2 pins s1 σ1 H1 _ _ Q I1 rr q1
def Zvp(K:Fg)(n:Nat)(t:TGs):TG:=fun v σ H Q=>∃a xs,v=.ref a/\SqT K H a xs/\xs.length=n/\t xs σ H Q
theorem ZoM(hc:X.calm=true)(h:PGs X es t)(hn:autoParam ((bU es X.env).length=n) Qrf._auto_1)(hst:autoParam ((bU es X.env).findIdx? (·.1)=none) Qrf._auto_1):PG X (.Tuple es k pos) (Zvp X.K n t):=by
 intro pins s σ H v u Q I r hw;obtain⟨a,xs,e1,hq,hl,hw⟩:=hw;subst e1;cases r;obtain⟨its,rv,ht,hz⟩:=I.tuple hq;refine assign_Tuple_tuple (I.ok.hd hc) ht (by simp[hn,<-hl,rv.length]) hst fun h' hx=>?_
 have I1:Inv X pins σ H {s with heap:=h'}:=I.kept (t':=s.toks) fun b o e=>hx b o (au (Hz e)) e;exact h pins _ σ H xs _ Q I1 (by simpa using rv) hw
noncomputable def Zvq(to ti:TE)(t:Zr3):TG:=fun v σ H Q=>to σ H fun o H1=>ti σ H1 fun i H2=>t o i v H2 fun H3=>Q σ H3
theorem ZoN(ho:PE X o to)(hi:PE X i ti)(hs:Zui X t)(ha:∀v,assign (.Subscript o i pos) X.env v=(do
   let ov <-holding [v] (eval o X.env)
   let iv <-holding [v,ov] (eval i X.env)
   standAt pos
   holding [v,ov,iv] (setItem ov iv v)
   release [v,ov,iv] []):=by intro _;rfl):PG X (.Subscript o i pos) (Zvq to ti t):=by
 intro pins s σ H v u Q I r h;rw[ha];refine Wb (wpAny_holding (thn (ho pins s σ H _ I h) fun ov s1 hz=>?_));obtain⟨x,H1,I1,r1,q1⟩:=hz;refine Wb (wpAny_holding (thn (hi pins s1 σ H1 _ I1 q1) fun iv s2 hz=>?_));obtain⟨y,H2,I2,r2,q2⟩:=hz;refine Wb (wpAny_standAt (Wb (wpAny_holding (thn (hs pins s2 σ H2 x y v ov iv u _ I2 r1 r2 r q2) fun _ s3 hz=>?_))));obtain⟨H3,I3,q3⟩:=hz;exact wpAny_release ⟨σ,H3,I3,q3⟩
noncomputable def Zuj(te:TE)(g:TG):TS:=fun D σ H=>te σ H fun x H1=>g x σ H1 D.nx
theorem Zhr(he:PE X e te)(hg:PG X tg g)(hs:autoParam (fQ [tg] e pos.line X.env=pure false) Qrf._auto_1)(hw:autoParam (eA [tg] e X.env=pure none) Qrf._auto_1)(h1:autoParam ((bU [tg] X.env).map (·.2)=[assign tg X.env]) Qrf._auto_1):PS X (.Assign [tg] e pos) (Zuj te g):=by
 intro pins s σ H D I h;refine wpAny_Assign_stores (thn (he pins s σ H _ I h) fun v s1 hz=>?_) hs hw;obtain⟨x,H1,I1,r1,q1⟩:=hz;rw[h1];exact thn (hg pins s1 σ H1 x v _ I1 r1 q1) fun _ s2 q=>q
theorem ZoO(hN:X.N.Nodup)(hi:X.N[i]?=some x)(hx:Loc X.env.scope x)(hm:X.may i=true)(he:PE X e te)(hs:autoParam (iy e (some (.Name x pos')) pos.line X.env=pure false) Qrf._auto_1)(hf:X.fn x=true\/X.env.scope.names.lookup x=some .local:=by first|exact .inl rfl|exact .inr rfl|assumption) :
  PS X (.Assign [.Name x pos'] e pos) (Zuj te (ZoL i)):=by
 intro pins s σ H D I h;refine wpAny_Assign_Name (thn (he pins s σ H _ I h) fun v s1 hz=>?_) hs;obtain⟨y,H1,I1,r1,q1⟩:=hz;exact ZcD I1 hN hi hx hm r1 (fun s2 I2=>⟨_,H1,I2,q1⟩) hf
noncomputable def Zvr(i j:Nat)(ta:TA):TS:=fun D σ H=>ta σ H fun vs H1=>∃v w,vs=[v,w]/\D.nx ((σ.set i (some v)).set j (some w)) H1
theorem ZoP{kt k2 pt2}(hc:X.calm=true)(mi:X.may i=true)(mj:X.may j=true)(hN:X.N.Nodup)(hi:X.N[i]?=some x)(hj:X.N[j]?=some y)(hij:i≠j)(hx:X.env.scope.names.lookup x=some .local)(hy:X.env.scope.names.lookup y=some .local)(ha:PA X [a,b] ta)(hw:eA [.Tuple [.Name x px,.Name y py] kt pt] (.Tuple [a,b] k2 pt2) X.env=pure (some [x,y]))(hs:autoParam (fQ [.Tuple [.Name x px,.Name y py] kt pt] (.Tuple [a,b] k2 pt2) pos.line X.env=pure false) Qrf._auto_1) :
  PS X (.Assign [.Tuple [.Name x px,.Name y py] kt pt] (.Tuple [a,b] k2 pt2) pos) (Zvr i j ta):=by
 intro pins s σ H D I h;rw[exec_Assign_arm];refine Wb (wpAny_standAt ?_);rw[hs];refine Wb (Wp ?_);rw[if_neg (by decide)]
 refine Wb (Tuple_ (thn (ha _ pins s σ H _ I h) fun us s1 hz=>?_));obtain⟨vs,H1,I1,r1,q1⟩:=hz;obtain⟨v,w,e1,q1⟩:=q1;subst e1;obtain⟨u1,u2,rfl,rv,rw'⟩:∃u1 u2,us=[u1,u2]/\Z0 v u1/\Z0 w u2:=by
  cases r1 with
  |cons p q=>
   cases q with
   |cons p' q'=>
    cases q';exact⟨_,_,rfl,p,p'⟩
 refine bD ?_ (by show 2<=sizeLine;decide)
 have I2:Inv X pins σ H1 {s1 with heap:=s1.heap.push {cls:=.type "tuple",data:=.seq [u1,u2].toArray}}:=I1.kept (t':=s1.toks) fun b o e=>Hq _ e;rw[hw];refine Wb (Wp ?_);show wpAny (aw X.prog X.w) X.A (do rule "assign.swapped-stores";let items <-unpackItems (.ref s1.heap.objs.size) 2 none;assignInOrder [fun v=>bindName X.env y v,fun v=>bindName X.env x v] items.reverse;pure Flow.next) _ _ _
 refine Wb (wpAny_rule (Wb (unpackItems_tuple (items:= #[u1,u2]) (I.ok.hd hc) (gY.new s1.heap _) fun h' hx'=>?_)));have I3:=I2.kept (h':=h') (t':=s1.toks) fun b o e=>hx' b o (au (Hz e)) e;show wpAny _ _ (assignInOrder [fun v=>bindName X.env y v,fun v=>bindName X.env x v] [u2,u1] >>= fun _=>pure Flow.next) _ _ _
 refine Wb (iG (wpAny_bindName (ZcD I3 hN hj (.inl hy) mj rw' (fun s2 I4=>?_) (.inr hy))));refine iG (wpAny_bindName (ZcD I4 hN hi (.inl hx) mi rv (fun s3 I5=>assignInOrder_nil (Wp ?_)) (.inr hx)));rw[List.set_comm _ _ (bW hij)]at I5;exact⟨_,H1,I5,q1⟩
def ZoQ(c:TT)(tb:TS):TS:=fun D σ H=>∃W:Nat->St->Hp->Prop,(∃m,W m σ H)/\∀m σ H,W m σ H->
 c σ H fun b H1=>if b=true then ∃N:St->Hp->Prop,(∀σ' H',N σ' H'->∃m',m'<m/\W m' σ' H')/\tb {D with nx:=N,ct:=N,bk:=D.nx} σ H1 else D.nx σ H1
theorem Zj6(hp:eV (aw X.prog X.w) X.A X.env X.xe)(hc:PT X c tc)(hb:PSs X body tb):PS X (.While c body [] pos) (ZoQ tc tb):=by
 intro pins s σ H D I h;obtain⟨W,⟨m0,w0⟩,turn⟩:=h;refine wpAny_While (codeAny_whileLoop (fun n s'=>∃σ' H',Inv X pins σ' H' s'/\W n σ' H') ?_ m0 ⟨σ,H,I,w0⟩);rintro n s1 ⟨σ1,H1,I1,w1⟩;refine dQ hp (thn (hc pins s1 σ1 H1 _ I1 (turn n σ1 H1 w1)) fun b s2 hz=>?_);obtain⟨H2,I2,q2⟩:=hz;cases b with
 |true=>
  obtain⟨N,hN,q2⟩:=q2;rw[if_pos rfl];refine dQ hp (thn (hb pins s2 σ1 H2 _ I2 q2) fun f s3 q3=>?_);cases f with
  |next=>
   obtain⟨σ3,H3,I3,n3⟩:=q3;obtain⟨m',hm,w3⟩:=hN σ3 H3 n3;exact⟨m',hm,σ3,H3,I3,w3⟩
  |cont=>
   obtain⟨σ3,H3,I3,n3⟩:=q3;obtain⟨m',hm,w3⟩:=hN σ3 H3 n3;exact⟨m',hm,σ3,H3,I3,w3⟩
  |brk=>exact q3
  |ret v=>exact q3
 |false=>
  rw[if_neg bT];exact hV ⟨σ1,H2,I2,q2⟩
structure It where
 go:Nat->Hp->Prop
 yld:Nat->Hp->V->Hp->Prop
 stop:Nat->Hp->Prop
def Zfa(X:Cx)(pins:Pn)(H:Hp)(b:Addr):Prop:=
 H b=none/\b≠X.env.locals/\b∉X.fs/\(b∈X.ex\/X.s₀.heap.objs.size<=b)/\(∀x c,X.env.cells.lookup x=some c->c≠b)/\∀p∈X.pn++pins,p.1≠b
theorem Inv.fpOk(I:Inv X pins σ H s)(hb:s.heap.objs.size<=b)(hn:H' b=none):Zfa X pins H' b:=by
 refine⟨hn,aO (aj I.lt hb),I.nofs hb,.inr (aU I.sz hb),fun x c e z=>?_,fun p hp z=>?_⟩
 ·obtain⟨v,q⟩:=I.cell x c e;exact absurd (aj q.lt (by rw[z];exact hb)) (cj _)
 ·exact absurd (aj (Hz (I.pin p hp).1) (by rw[z];exact hb)) (cj _)
structure Turn(P:cw) (w:cL) (K:Fg) (B:cX) (tg:Expr) (J:It) (fp:List Addr) (it:Addr) (tn:Nat->Heap->Prop):Prop where
 mem:it∈fp
 obj:∀i h,tn i h->∀b∈fp,∃o,h.get? b=some o/\∀v,o.data≠ .cell v
 keep:∀i h h',tn i h->(∀b∈fp,∀o,h.get? b=some o->h'.get? b=some o)->tn i h'
 item:∀(X:Cx),X.prog=P->X.w=w->X.K=K->X.A=B->∀(i:Nat)(pins:Pn)(s:aC)(σ:St)(H:Hp)(E:Vp),Inv X pins σ H s->(∀b∈fp,Zfa X pins H b)->tn i s.heap->J.go i H->
  wpAny (aw P w) X.A (eW (.ref it)) (fun r s1=>∃u,r=some u/\ wpAny (aw P w) X.A (fY tg (.ref it) u) (fun _ s2=>∃x H',Inv X pins σ H' s2/\Z0 x u/\J.yld i H x H'/\tn (i+1) s2.heap/\∀b∈fp,H' b=none) E s1) E s
 done:∀(X:Cx),X.prog=P->X.w=w->X.K=K->X.A=B->∀(i:Nat)(pins:Pn)(s:aC)(σ:St)(H:Hp)(E:Vp),Inv X pins σ H s->(∀b∈fp,Zfa X pins H b)->tn i s.heap->J.stop i H->
  wpAny (aw P w) X.A (eW (.ref it)) (fun r s1=>r=none/\Inv X pins σ H s1) E s
 self:∀(A:cX)(i:Nat)(s:aC)(Q:Vp)(E:Vp),tn i s.heap->Q (.ref it) s->wpAny (aw P w) A (pyIter (.ref it)) Q E s
abbrev TI:=St->Hp->(It->Hp->Prop)->Prop
def PIE(X:Cx)(pins:Pn)(σ:St)(tg:Expr)(R:It->Hp->Prop)(itv:aa)(s2:aC):Prop:=
 ∃(it:Addr) (fp:List Addr) (tn:Nat->Heap->Prop) (J:It) (H':Hp),itv=.ref it/\Inv X pins σ H' s2/\Turn X.prog X.w X.K X.A tg J fp it tn/\tn 0 s2.heap/\(∀b∈fp,Zfa X pins H' b)/\R J H'
def PI(X:Cx)(tg iter:Expr)(wi:TI):Prop:=
 ∀(pins:Pn)(s:aC)(σ:St)(H:Hp)(R:It->Hp->Prop),Inv X pins σ H s->wi σ H R->
  wpAny (aw X.prog X.w) X.A (eval iter X.env) (fun v s1=>wpAny (aw X.prog X.w) X.A (pyIter v) (PIE X pins σ tg R) X.xe s1) X.xe s
theorem Zj7(ho:s.heap.get? it=some o)(hc:o.cls=.type n)(hd:o.data=.fields vs)(hn:["enumerate","zip","dict_itemiterator","dict_reverseitemiterator","odict_iterator","itertools.zip_longest","itertools.pairwise"].contains n=false)(hQ:Q () s):wpAny M A (fY tg (.ref it) u) Q E s:=by
 unfold fY;cases tg<;>first
  |exact Wp hQ
  | (cases u<;>first
    |exact Wp hQ
    | (refine Wb (wpAny_load ho ?_)
       rw[hc,hd];show wpAny M A (if(["enumerate","zip","dict_itemiterator","dict_reverseitemiterator","odict_iterator","itertools.zip_longest","itertools.pairwise"].contains n&&vs[0]? == some (cQ _))=true then _ else _) Q E s
       rw[if_neg (by intro h;rw[hn,Bool.false_and]at h;cases h)]
       exact Wp hQ))
def Itl(K:Fg)(a:Addr):It:=
 ⟨fun i H=>∃xs x,SqL K H a xs/\xs[i]?=some x,fun i H x H'=>H'=H/\∀xs,SqL K H a xs->xs[i]?=some x,fun i H=>∃xs,SqL K H a xs/\xs.length<=i⟩
def Itt(K:Fg)(a:Addr):It:=
 ⟨fun i H=>∃xs x,SqT K H a xs/\xs[i]?=some x,fun i H x H'=>H'=H/\∀xs,SqT K H a xs->xs[i]?=some x,fun i H=>∃xs,SqT K H a xs/\xs.length<=i⟩
noncomputable def Itr(lo:Int)(n:Nat):It:=⟨fun i _=>i<n,fun i H x H'=>H'=H/\x=.int (lo+i),fun i _=>n<=i⟩
theorem Zhs{K:Fg}(a it:Addr):Turn P w K B tg (Itl K a) [it] it (fun i h=>h.IsListIter it a i) where
 mem:=by simp
 obj:=fun i h st b hb=>by
  have e:b=it:=by simpa using hb
  subst e;obtain⟨o,e,c,d⟩:=st;exact⟨o,e,fun v z=>by rw[d]at z;cases z⟩
 keep:=fun i h h' st k=>st.at fun o e=>k it (by simp) o e
 item:=by
  intro X hP hw hK hB i pins s σ H E I hf st hg;subst hP hw hK;obtain⟨xs,x,hq,hx⟩:=hg;obtain⟨its,rv,p,hz⟩:=I.list hq;obtain⟨u,hu,ru⟩:=rv.get hx;obtain⟨f0,f1,f2,f3,f4,f5⟩:=hf it (by simp)
  refine jE st p.isList (x:=u) (by simpa using hu) fun h' st' sb=>?_
  have I1:Inv X pins σ H {s with heap:=h'}:=I.turned (t':=s.toks) (fun b o hb e=>(sb.2 b hb).trans e) f0 f1 f3 f4 f5;obtain⟨o,e,c,d⟩:=id st';exact⟨u,rfl,Zj7 (s:={s with heap:=h'}) e c d (by decide) ⟨x,H,I1,ru,⟨rfl,fun ys hy=>by rw[I.list_inj hy hq];exact hx⟩,st',fun b hb=>(hf b hb).1⟩⟩
 done:=by
  intro X hP hw hK hB i pins s σ H E I hf st hg;subst hP hw hK;obtain⟨xs,hq,hx⟩:=hg;obtain⟨its,rv,p,hz⟩:=I.list hq;obtain⟨f0,f1,f2,f3,f4,f5⟩:=hf it (by simp)
  have hl:=rv.length;exact DQ.Zj2 I.qh st p.isList (by simp;lia) fun h' eb=>⟨rfl,I.turned (t':=s.toks) (fun b o hb e=>eb b o hb e) f0 f1 f3 f4 f5⟩
 self:=fun _ _ _ _ _ st h=>wpAny_pyIter_listiter st h
theorem ZgV{K:Fg}(a it:Addr):Turn P w K B tg (Itt K a) [it] it (fun i h=>h.IsTupleIter it a i) where
 mem:=by simp
 obj:=fun i h st b hb=>by
  have e:b=it:=by simpa using hb
  subst e;obtain⟨o,e,c,d⟩:=st;exact⟨o,e,fun v z=>by rw[d]at z;cases z⟩
 keep:=fun i h h' st k=>st.at fun o e=>k it (by simp) o e
 item:=by
  intro X hP hw hK hB i pins s σ H E I hf st hg;subst hP hw hK;obtain⟨xs,x,hq,hx⟩:=hg;obtain⟨its,rv,p,hz⟩:=I.tuple hq;obtain⟨u,hu,ru⟩:=rv.get hx;obtain⟨f0,f1,f2,f3,f4,f5⟩:=hf it (by simp)
  refine wpAny_pyNext_tuple_item st (show s.heap.IsTuple a its.toArray from p) (x:=u) (by simpa using hu) fun h' st' sb=>?_
  have I1:Inv X pins σ H {s with heap:=h'}:=I.turned (t':=s.toks) (fun b o hb e=>(sb.2 b hb).trans e) f0 f1 f3 f4 f5;obtain⟨o,e,c,d⟩:=id st';exact⟨u,rfl,Zj7 (s:={s with heap:=h'}) e c d (by decide) ⟨x,H,I1,ru,⟨rfl,fun ys hy=>by rw[I.tuple_inj hy hq];exact hx⟩,st',fun b hb=>(hf b hb).1⟩⟩
 done:=by
  intro X hP hw hK hB i pins s σ H E I hf st hg;subst hP hw hK;obtain⟨xs,hq,hx⟩:=hg;obtain⟨its,rv,p,hz⟩:=I.tuple hq;obtain⟨f0,f1,f2,f3,f4,f5⟩:=hf it (by simp)
  have hl:=rv.length;exact DQ.Zhj I.qh st (show s.heap.IsTuple a its.toArray from p) (by simp;lia) fun h' eb=>⟨rfl,I.turned (t':=s.toks) (fun b o hb e=>eb b o hb e) f0 f1 f3 f4 f5⟩
 self:=fun _ _ _ _ _ st h=>wpAny_pyIter_tupleiter st h
theorem ZgW{K:Fg}(it:Addr)(lo:Int)(n:Nat):Turn P w K B tg (Itr lo n) [it] it (fun i h=>gj h it (lo+(i:Nat)*1) ((n:Int)-(i:Nat)) 1) where
 mem:=by simp
 obj:=fun i h st b hb=>by
  have e:b=it:=by simpa using hb
  subst e;exact⟨_,st,fun v z=>by
   have z':j8 _=Data.cell v:=z;cases z'⟩
 keep:=fun i h h' st k=>k it (by simp) _ st
 item:=by
  intro X hP hw hK hB i pins s σ H E I hf st hg;subst hP hw hK;obtain⟨f0,f1,f2,f3,f4,f5⟩:=hf it (by simp)
  have hlt:i<n:=hg;refine jq st (by lia) fun h' st' sb=>?_
  have I1:Inv X pins σ H {s with heap:=h',toks:=s.toks+1}:=I.turned (fun b o hb e=>(sb.2 b hb).trans e) f0 f1 f3 f4 f5;have st2:gj h' it (lo+((i+1:Nat):Int)*1) ((n:Int)-((i+1:Nat):Int)) 1:=by
   have e1:lo+((i+1:Nat):Int)*1=lo+(i:Nat)*1+1:=by lia
   have e2:(n:Int)-((i+1:Nat):Int)=(n:Int)-(i:Nat)-1:=by lia
   rw[e1,e2];exact st'
  refine⟨_,rfl,Zj7 (s:={s with heap:=h',toks:=s.toks+1}) (n:="range_iterator") st2 rfl rfl (by decide) ⟨.int (lo+i),H,I1,⟨s.toks,?_⟩,⟨rfl,rfl⟩,st2,fun b hb=>(hf b hb).1⟩⟩
  rw[Int.mul_one]
 done:=by
  intro X hP hw hK hB i pins s σ H E I hf st hg;subst hP hw hK;obtain⟨f0,f1,f2,f3,f4,f5⟩:=hf it (by simp)
  exact DQ.Zei I.qh st (by have:n<=i:=hg;lia) fun h' eb=>⟨rfl,I.turned (t':=s.toks) (fun b o hb e=>eb b o hb e) f0 f1 f3 f4 f5⟩
 self:=fun _ _ _ _ _ st h=>jF st h
theorem ZfT{lo:Int}(I:Inv X pins σ H s)(h1: -(2^62)<=lo)(h2:lo<2^62)(h3: -(2^62)<=hi)(h4:hi<2^62)(q:R (Itr lo (hi-lo).toNat) H):wpAny (aw X.prog X.w) X.A (pyIter (.ref s.heap.objs.size)) (PIE X pins σ tg R) E {s with heap:=s.heap.push {cls:=.type "range",data:=.fields #[.int lo t,.int hi u,.int 1 v]},toks:=tk}:=by
 refine wpAny_pyIter_range (IsRange.new ..) (small_one h1 h2 h3 h4) ?_;have I1:Inv X pins σ H {s with heap:=s.heap.push {cls:=.type "range",data:=.fields #[.int lo t,.int hi u,.int 1 v]},toks:=tk}:=I.kept fun b o e=>Hq _ e;refine⟨(s.heap.push {cls:=.type "range",data:=.fields #[.int lo t,.int hi u,.int 1 v]}).objs.size,[(s.heap.push {cls:=.type "range",data:=.fields #[.int lo t,.int hi u,.int 1 v]}).objs.size],_,_,H,rfl,I1.kept (t':=tk) fun b o e=>Hq _ e,ZgW _ lo (hi-lo).toNat,?_,fun b hb=>?_,q⟩
 ·have e1:lo+((0:Nat):Int)*1=lo:=by simp
  have e2:(((hi-lo).toNat:Nat):Int)-((0:Nat):Int)=eH lo hi 1:=by rw[rangeSize_one];split<;>lia
  show gj _ _ (lo+((0:Nat):Int)*1) ((((hi-lo).toNat:Nat):Int)-((0:Nat):Int)) 1;rw[e1,e2];exact az _ rfl
 ·have e:b=(s.heap.push {cls:=.type "range",data:=.fields #[.int lo t,.int hi u,.int 1 v]}).objs.size:=by simpa using hb
  subst e;exact I1.fpOk (ac _) (I1.hok.fresh (ac _))
def Zr5(ta:TA):TI:=fun σ H R=>ta σ H fun vs H1=>∃j:Int,vs=[.int j]/\ -(2^62)<=j/\j<2^62/\R (Itr 0 j.toNat) H1
def Zr6(ta:TA):TI:=fun σ H R=>ta σ H fun vs H1=>∃i j:Int,vs=[.int i,.int j]/\(-(2^62)<=i/\i<2^62/\ -(2^62)<=j/\j<2^62)/\R (Itr i (j-i).toNat) H1
theorem Zek(hg:Gl X "range")(hm:X.mg "range"=none)(ha:PA X [a] ta)(hs:autoParam (av [a] X.env=[(false,eval a X.env)]) Qrf._auto_1):PI X tg (.Call (.Name "range" p) [a] [] pos) (Zr5 ta):=by
 intro pins s σ H R I h;refine Call_ (ZbA I hg hm boot_range (bV (thn (ha pos pins s σ H _ I h) fun us s1 ⟨vs,H1,I1,r1,q1⟩=>?_) hs rfl));obtain⟨j,e,q1,q2,q⟩:=q1;subst e;cases r1 with
 |cons r rr=>
  cases rr;obtain⟨t,rfl⟩:=r;exact call_range_1 (ZfT I1 (by lia) (by lia) q1 q2 (by simpa using q))
theorem Zel(hg:Gl X "range")(hm:X.mg "range"=none)(ha:PA X [a,b] ta)(hs:autoParam (av [a,b] X.env=[(false,eval a X.env),(false,eval b X.env)]) Qrf._auto_1)(hs2:autoParam (av [b] X.env=[(false,eval b X.env)]) Qrf._auto_1) :
  PI X tg (.Call (.Name "range" p) [a,b] [] pos) (Zr6 ta):=by
 intro pins s σ H R I h;refine Call_ (ZbA I hg hm boot_range (bV (thn (ha pos pins s σ H _ I h) fun us s1 ⟨vs,H1,I1,r1,q1⟩=>?_) (by rw[hs,hs2]) (by rw[hs2];rfl)))
 obtain⟨i,j,e,⟨q1,q2,q3,q4⟩,q⟩:=q1;subst e;cases r1 with
 |cons r rr=>
  cases rr with
  |cons r' rr=>
   cases rr;obtain⟨t,rfl⟩:=r;obtain⟨t',rfl⟩:=r';exact call_range_2 (ZfT I1 q1 q2 q3 q4 q)
def Zvs(wi:TI)(g:TG)(tb:TS):TS:=fun D σ H=>wi σ H fun J H1=>∃W:Nat->Nat->St->Hp->Prop,(∃m,W 0 m σ H1)/\∀i m σ H,W i m σ H->
 (J.stop i H/\D.nx σ H)\/(J.go i H/\∃N:St->Hp->Prop,(∀σ' H',N σ' H'->∃m',m'<m/\W (i+1) m' σ' H')/\∀x H',J.yld i H x H'->g x σ H' fun σ2 H2=>tb {D with nx:=N,ct:=N,bk:=D.nx} σ2 H2)
noncomputable def Zdo(fp:List Addr)(h:Heap):Pn:=fp.filterMap fun b=>(h.get? b).map fun o=>(b,o)
theorem Zbv(hb:b∈fp)(e:h.get? b=some o):(b,o)∈Zdo fp h:=List.mem_filterMap.mpr ⟨b,hb,by rw[e];rfl⟩
theorem Zht(hp:p∈Zdo fp h):p.1∈fp/\h.get? p.1=some p.2:=by
 obtain⟨b,hb,e⟩:=List.mem_filterMap.mp hp;cases q:h.get? b with
 |none=>rw[q]at e;cases e
 |some o=>
  rw[q]at e;have e':(b,o)=p:=aN e;subst e';exact⟨hb,q⟩
theorem Inv.pinned(I:Inv X pins σ H s)(hf:∀b∈fp,Zfa X pins H b)(ho:∀b∈fp,∃o,s.heap.get? b=some o/\∀v,o.data≠ .cell v):Inv X (pins++Zdo fp s.heap) σ H s:=
 I.pins_of fun p hp=>(bq.mp hp).elim (fun z=>I.pin p (aS _ z)) fun z=>by
  obtain⟨hb,e⟩:=Zht z;obtain⟨f0,f1,f2,_⟩:=hf p.1 hb;obtain⟨o,e',d⟩:=ho p.1 hb;rw[e]at e';cases e';exact⟨e,f0,f1,f2,d⟩
theorem Inv.unpinned(I:Inv X (pins++pl) σ H s):Inv X pins σ H s:=I.pins_of fun p hp=>I.pin p (aS _ (dY _ hp))
theorem ZfU(hp:eV (aw X.prog X.w) X.A X.env X.xe)(hi:PI X tg iter wi)(hg:PG X tg g)(hb:PSs X body tb)(hs:autoParam (∀x,foldedSetIterable iter X.env x=pure x) Qin._auto_1):PS X (.For tg iter body [] pos) (Zvs wi g tb):=by
 intro pins s σ H D I h;refine wpAny_For (thn (hi pins s σ H _ I h) fun v s1 h1=>thn h1 fun itv s2 h2=>?_) hs;obtain⟨it,fp,tn,J,H2,e,I2,T,st2,f2,W,⟨m0,w0⟩,turn⟩:=h2;subst e;have stat:∀{H':Hp},(∀b∈fp,H' b=none)->∀b∈fp,Zfa X pins H' b:=fun hn b hb=>⟨hn b hb,(f2 b hb).2⟩;refine codeAny_forLoop_any (fun n s'=>∃i σ' H',Inv X pins σ' H' s'/\tn i s'.heap/\(∀b∈fp,H' b=none)/\W i n σ' H') ?_ m0 ⟨0,σ,H2,I2,st2,fun b hb=>(f2 b hb).1,w0⟩;rintro n s3 ⟨i,σ3,H3,I3,st3,fr3,w3⟩;rcases turn i n σ3 H3 w3 with⟨stop,qn⟩|⟨go,N,hN,step⟩
 ·refine dQ hp (thn (T.done X rfl rfl rfl rfl i pins s3 σ3 H3 X.xe I3 (stat fr3) st3 stop) fun r s4 hz=>?_);obtain⟨hr,I4⟩:=hz;subst hr;exact hV ⟨σ3,H3,I4,qn⟩
 ·refine dQ hp (thn (T.item X rfl rfl rfl rfl i pins s3 σ3 H3 X.xe I3 (stat fr3) st3 go) fun r s4 hz=>?_);obtain⟨u,hr,h4⟩:=hz;subst hr;refine dQ hp (thn h4 fun _ s5 hz=>?_);obtain⟨x,H5,I5,r5,y5,st5,fr5⟩:=hz;have I5':=I5.pinned (stat fr5) (T.obj _ _ st5);refine dQ hp (thn (hg _ s5 σ3 H5 x u _ I5' r5 (step x H5 y5)) fun _ s6 hz=>?_);obtain⟨σ6,H6,I6,q6⟩:=hz;refine dQ hp (thn (hb _ s6 σ6 H6 _ I6 q6) fun f s7 q7=>?_);have again:∀{σ7:St}{H7:Hp},Inv X (pins++Zdo fp s5.heap) σ7 H7 s7->N σ7 H7->∃m,m<n/\∃i σ' H',Inv X pins σ' H' s7/\tn i s7.heap/\(∀b∈fp,H' b=none)/\W i m σ' H':=fun{σ7 H7} I7 n7=>by
   obtain⟨m',hm,w7⟩:=hN σ7 H7 n7;refine⟨m',hm,i+1,σ7,H7,I7.unpinned,T.keep _ _ _ st5 fun b hb o e=>(I7.pin (b,o) (aS _ (aS _ (Zbv hb e)))).1,fun b hb=>?_,w7⟩;obtain⟨o,e,d⟩:=T.obj _ _ st5 b hb;exact(I7.pin (b,o) (aS _ (aS _ (Zbv hb e)))).2.1
  cases f with
  |next=>obtain⟨σ7,H7,I7,n7⟩:=q7;exact again I7 n7
  |cont=>obtain⟨σ7,H7,I7,n7⟩:=q7;exact again I7 n7
  |brk=>obtain⟨σ7,H7,I7,q7⟩:=q7;exact⟨σ7,H7,I7.unpinned,q7⟩
  |ret v=>obtain⟨x7,σ7,H7,I7,r7,q7⟩:=q7;exact⟨x7,σ7,H7,I7.unpinned,r7,q7⟩
theorem Zj8{K:Fg}{g:TG}{tb:TS}{D:Ends}(Pv:Nat->St->Hp->Prop)(h0:Pv 0 σ H)(hl:∀i σ H,i<=xs.length->Pv i σ H->SqL K H a xs)(hs:∀i x σ H,xs[i]?=some x->Pv i σ H->g x σ H fun σ2 H2=>tb {D with nx:=Pv (i+1),ct:=Pv (i+1),bk:=D.nx} σ2 H2)(hd:∀σ H,Pv xs.length σ H->D.nx σ H):∃W:Nat->Nat->St->Hp->Prop,(∃m,W 0 m σ H)/\∀i m σ H,W i m σ H->((Itl K a).stop i H/\D.nx σ H)\/((Itl K a).go i H/\∃N:St->Hp->Prop,(∀σ' H',N σ' H'->∃m',m'<m/\W (i+1) m' σ' H')/\∀x H',(Itl K a).yld i H x H'->g x σ H' fun σ2 H2=>tb {D with nx:=N,ct:=N,bk:=D.nx} σ2 H2):=by
 refine⟨fun i m σ H=>m=xs.length-i/\i<=xs.length/\Pv i σ H,⟨xs.length,by simp,dB _,h0⟩,?_⟩
 rintro i m σ H ⟨rfl,hi,p⟩;have q:=hl i σ H hi p;by_cases hlt:i<xs.length
 ·refine .inr ⟨⟨xs,xs[i],q,by simp[hlt]⟩,Pv (i+1),fun σ' H' p'=>⟨xs.length-(i+1),by lia,rfl,hlt,p'⟩,fun x H' y=>?_⟩
  obtain⟨e,y⟩:=y;subst e;exact hs i x σ _ (y xs q) p
 ·have e:i=xs.length:=by lia
  subst e;exact .inl ⟨⟨xs,q,ac _⟩,hd σ H p⟩
theorem Zmp{K:Fg}{g:TG}{tb:TS}{D:Ends}(Pv:Nat->St->Hp->Prop)(h0:Pv 0 σ H)(hl:∀i σ H,i<=xs.length->Pv i σ H->SqT K H a xs)(hs:∀i x σ H,xs[i]?=some x->Pv i σ H->g x σ H fun σ2 H2=>tb {D with nx:=Pv (i+1),ct:=Pv (i+1),bk:=D.nx} σ2 H2)(hd:∀σ H,Pv xs.length σ H->D.nx σ H):∃W:Nat->Nat->St->Hp->Prop,(∃m,W 0 m σ H)/\∀i m σ H,W i m σ H->((Itt K a).stop i H/\D.nx σ H)\/((Itt K a).go i H/\∃N:St->Hp->Prop,(∀σ' H',N σ' H'->∃m',m'<m/\W (i+1) m' σ' H')/\∀x H',(Itt K a).yld i H x H'->g x σ H' fun σ2 H2=>tb {D with nx:=N,ct:=N,bk:=D.nx} σ2 H2):=by
 refine⟨fun i m σ H=>m=xs.length-i/\i<=xs.length/\Pv i σ H,⟨xs.length,by simp,dB _,h0⟩,?_⟩
 rintro i m σ H ⟨rfl,hi,p⟩;have q:=hl i σ H hi p;by_cases hlt:i<xs.length
 ·refine .inr ⟨⟨xs,xs[i],q,by simp[hlt]⟩,Pv (i+1),fun σ' H' p'=>⟨xs.length-(i+1),by lia,rfl,hlt,p'⟩,fun x H' y=>?_⟩
  obtain⟨e,y⟩:=y;subst e;exact hs i x σ _ (y xs q) p
 ·have e:i=xs.length:=by lia
  subst e;exact .inl ⟨⟨xs,q,ac _⟩,hd σ H p⟩
theorem Zhu{lo:Int}{g:TG}{tb:TS}{D:Ends}(Pv:Nat->St->Hp->Prop)(h0:Pv 0 σ H)(hs:∀i σ H,i<n->Pv i σ H->g (.int (lo+i)) σ H fun σ2 H2=>tb {D with nx:=Pv (i+1),ct:=Pv (i+1),bk:=D.nx} σ2 H2)(hd:∀σ H,Pv n σ H->D.nx σ H):∃W:Nat->Nat->St->Hp->Prop,(∃m,W 0 m σ H)/\∀i m σ H,W i m σ H->((Itr lo n).stop i H/\D.nx σ H)\/((Itr lo n).go i H/\∃N:St->Hp->Prop,(∀σ' H',N σ' H'->∃m',m'<m/\W (i+1) m' σ' H')/\∀x H',(Itr lo n).yld i H x H'->g x σ H' fun σ2 H2=>tb {D with nx:=N,ct:=N,bk:=D.nx} σ2 H2):=by
 refine⟨fun i m σ H=>m=n-i/\i<=n/\Pv i σ H,⟨n,by simp,dB _,h0⟩,?_⟩
 rintro i m σ H ⟨rfl,hi,p⟩;by_cases hlt:i<n
 ·refine .inr ⟨hlt,Pv (i+1),fun σ' H' p'=>⟨n-(i+1),by lia,rfl,hlt,p'⟩,fun x H' y=>?_⟩
  obtain⟨e,y⟩:=y;subst e y;exact hs i σ _ hlt p
 ·have e:i=n:=by lia
  subst e;exact .inl ⟨ac _,hd σ H p⟩
abbrev R2:=V->V->Hp->VK->Prop
def OpR(X:Cx)(f:aa->aa->Sem aa)(r:R2):Prop:=
 ∀(pins:Pn)(s:aC)(σ:St)(H:Hp)(x y:V)(v u:aa)(Q:VK),Inv X pins σ H s->Z0 x v->Z0 y u->r x y H Q->
  wpAny (aw X.prog X.w) X.A (f v u) (EP X pins σ Q) X.xe s
def UnR(X:Cx)(f:aa->Sem aa)(r:V->Hp->VK->Prop):Prop:=
 ∀(pins:Pn)(s:aC)(σ:St)(H:Hp)(x:V)(v:aa)(Q:VK),Inv X pins σ H s->Z0 x v->r x H Q->
  wpAny (aw X.prog X.w) X.A (f v) (EP X pins σ Q) X.xe s
def ZbM(X:Cx)(f:aa)(r:List V->Hp->VK->Prop):Prop:=
 ∀(pins:Pn)(s:aC)(σ:St)(H:Hp)(xs:List V)(us:List aa)(Q:VK),Inv X pins σ H s->ZZ xs us->r xs H Q->
  wpAny (aw X.prog X.w) X.A (call f us) (EP X pins σ Q) X.xe s
noncomputable def tOp(r:R2)(ta tb:TE):TE:=fun σ H Q=>ta σ H fun x H1=>tb σ H1 fun y H2=>r x y H2 Q
noncomputable def tUn(r:V->Hp->VK->Prop)(ta:TE):TE:=fun σ H Q=>ta σ H fun x H1=>r x H1 Q
noncomputable def rI(C:Int->Int->Prop)(g:Int->Int->V):R2:=fun x y H Q=>∃i j,x=.int i/\y=.int j/\C i j/\Q (g i j) H
noncomputable def rI0(g:Int->Int->V):R2:=fun x y H Q=>∃i j,x=.int i/\y=.int j/\Q (g i j) H
noncomputable def rU(g:Int->V):V->Hp->VK->Prop:=fun x H Q=>∃i,x=.int i/\Q (g i) H
theorem Zr7(ha:PE X a ta)(hb:PE X b tb){R:V->V->Hp->Prop}(I:Inv X pins σ H s)(h:ta σ H fun x H1=>tb σ H1 fun y H2=>R x y H2){f:aa->aa->Sem aa}(hf:∀v u s2 x y H2,Inv X pins σ H2 s2->Z0 x v->Z0 y u->R x y H2->wpAny (aw X.prog X.w) X.A (f v u) Q X.xe s2):wpAny (aw X.prog X.w) X.A (eval a X.env) (fun v s₁=>wpAny (aw X.prog X.w) X.A (eval b X.env) (fun u s₂=>wpAny (aw X.prog X.w) X.A (f v u) Q X.xe s₂) X.xe s₁) X.xe s:=by
 refine thn (ha pins s σ H _ I h) fun v s1 hz=>?_;obtain⟨x,H1,I1,r1,q1⟩:=hz;refine thn (hb pins s1 σ H1 _ I1 q1) fun u s2 hz=>?_;obtain⟨y,H2,I2,r2,q2⟩:=hz;exact hf v u s2 x y H2 I2 r1 r2 q2
theorem Zr8(ho:OpR X (eM op) r)(ha:PE X a ta)(hb:PE X b tb):PE X (.BinOp a op b pos) (tOp r ta tb):=by
 intro pins s σ H Q I h;exact wpAny_BinOp (Zr7 ha hb I h fun v u s2 x y H2 I2 rx ry q=>ho pins s2 σ H2 x y v u Q I2 rx ry q)
theorem Zr9(ho:UnR X (unaryOp op) r)(ha:PE X a ta):PE X (.UnaryOp op a pos) (tUn r ta):=by
 intro pins s σ H Q I h;exact UnaryOp_ (thn (ha pins s σ H _ I h) fun v s1 ⟨x,H1,I1,r1,q1⟩=>ho pins s1 σ H1 x v Q I1 r1 q1)
theorem opI{g:Int->Int->Int}(rule:∀(i j:Int)(t u:Tok)(s:aC)(Q:Vp)(E:Vp),C i j->Q (.int (g i j) s.toks) {s with toks:=s.toks+1}->wpAny (aw X.prog X.w) X.A (f (.int i t) (.int j u)) Q E s):OpR X f (rI C fun i j=>.int (g i j)):=by
 intro pins s σ H x y v u Q I rx ry h;obtain⟨i,j,rfl,rfl,hc,q⟩:=h;obtain⟨t,rfl⟩:=rx;obtain⟨t',rfl⟩:=ry;exact rule i j t t' s _ _ hc ⟨.int (g i j),H,I.tok _,⟨_,rfl⟩,q⟩
theorem Zuk{g:Int->Int->Int}(rule:∀(i j:Int)(t u:Tok)(s:aC)(Q:Vp)(E:Vp),Q (.int (g i j) s.toks) {s with toks:=s.toks+1}->wpAny (aw X.prog X.w) X.A (f (.int i t) (.int j u)) Q E s):OpR X f (rI0 fun i j=>.int (g i j)):=by
 intro pins s σ H x y v u Q I rx ry h;obtain⟨i,j,rfl,rfl,q⟩:=h;obtain⟨t,rfl⟩:=rx;obtain⟨t',rfl⟩:=ry;exact rule i j t t' s _ _ ⟨.int (g i j),H,I.tok _,⟨_,rfl⟩,q⟩
theorem ZrI{g:Int->Int->Bool}(rule:∀(i j:Int)(t u:Tok)(s:aC)(Q:Vp)(E:Vp),Q (.bool (g i j)) s->wpAny (aw X.prog X.w) X.A (f (.int i t) (.int j u)) Q E s):OpR X f (rI0 fun i j=>.bl (g i j)):=by
 intro pins s σ H x y v u Q I rx ry h;obtain⟨i,j,rfl,rfl,q⟩:=h;obtain⟨t,rfl⟩:=rx;obtain⟨t',rfl⟩:=ry;exact rule i j t t' s _ _ ⟨.bl (g i j),H,I,rfl,q⟩
noncomputable def Zul(i j:Int):Prop:=0<=j/\j<=1000000/\i.natAbs<2^64
theorem ZoR:OpR X (eM .Add) (rI0 fun i j=>.int (i+j)):=Zuk fun _ _ _ _ _ _ _ q=>add_int q
theorem ZoS:OpR X (eM .Sub) (rI0 fun i j=>.int (i-j)):=Zuk fun _ _ _ _ _ _ _ q=>sub_int q
theorem Zmq:OpR X (eM .Mod) (rI (fun _ j=>j≠0) fun i j=>.int (i.fmod j)):=opI fun _ _ _ _ _ _ _ hc q=>mod_int' hc q
theorem ZoT:OpR X (eM .Pow) (rI Zul fun i j=>.int (i^j.toNat)):=opI fun _ _ _ _ _ _ _ hc q=>pow_int_small hc.1 hc.2.1 hc.2.2 q
theorem unI{g:Int->Int}(rule:∀(i:Int)(t:Tok)(s:aC)(Q:Vp)(E:Vp),Q (.int (g i) s.toks) {s with toks:=s.toks+1}->wpAny (aw X.prog X.w) X.A (f (.int i t)) Q E s):UnR X f (rU fun i=>.int (g i)):=by
 intro pins s σ H x v Q I rx h;obtain⟨i,rfl,q⟩:=h;obtain⟨t,rfl⟩:=rx;exact rule i t s _ _ ⟨.int (g i),H,I.tok _,⟨_,rfl⟩,q⟩
theorem ZoU:UnR X (unaryOp .USub) (rU fun i=>.int (-i)):=unI fun _ _ _ _ _ q=>neg_int q
theorem ZdK:OpR X (dD .Lt) (rI0 fun i j=>.bl (decide (i<j))):=ZrI fun _ _ _ _ _ _ _ q=>lt_int q
theorem Zj9:OpR X (dD .LtE) (rI0 fun i j=>.bl (decide (i<=j))):=ZrI fun _ _ _ _ _ _ _ q=>le_int q
theorem Zfg:OpR X (dD .Gt) (rI0 fun i j=>.bl (decide (j<i))):=ZrI fun _ _ _ _ _ _ _ q=>gt_int q
theorem Zsa:OpR X (dD .GtE) (rI0 fun i j=>.bl (decide (j<=i))):=ZrI fun _ _ _ _ _ _ _ q=>ge_int q
theorem OpR.or(h:OpR X f r)(h':OpR X f r'):OpR X f (fun x y H Q=>r x y H Q\/r' x y H Q):=by
 intro pins s σ H x y v u Q I rx ry q;rcases q with q|q
 ·exact h pins s σ H x y v u Q I rx ry q
 ·exact h' pins s σ H x y v u Q I rx ry q
theorem Zlk(b:Expr)(h:autoParam (op≠ .In) Qde._auto_1)(h2:autoParam (op≠ .NotIn) Qde._auto_1):fR op b=false:=by
 have e1:(op==CmpOp.In)=false:=by cases op<;>first|rfl|exact absurd rfl h
 have e2:(op==CmpOp.NotIn)=false:=by cases op<;>first|rfl|exact absurd rfl h2
 cases b<;>simp[fR,e1,e2]
theorem Zmr(ho:OpR X (dD op) r)(ha:PE X a ta)(hb:PE X b tb)(hm:fR op b=false):PE X (.Compare a [op] [b] pos) (tOp r ta tb):=by
 intro pins s σ H Q I h;exact wpAny_Compare1 (Zr7 ha hb I h fun v u s2 x y H2 I2 rx ry q=>ho pins s2 σ H2 x y v u Q I2 rx ry q) hm
noncomputable def ZoV(t:TE):TT:=fun σ H Q=>t σ H fun x H'=>∃k,x=.bl k/\Q k H'
theorem Zms(ho:OpR X (dD op) r)(ha:PE X a ta)(hb:PE X b tb)(hm:fR op b=false):PT X (.Compare a [op] [b] pos) (ZoV (tOp r ta tb)):=by
 intro pins s σ H Q I h;refine wpAny_isTrue_Compare1 (thn (ha pins s σ H _ I h) fun v s1 ⟨x,H1,I1,r1,q1⟩=>thn (hb pins s1 σ H1 _ I1 q1) fun u s2 ⟨y,H2,I2,r2,q2⟩=>thn (ho pins s2 σ H2 x y v u _ I2 r1 r2 q2) fun c s3 ⟨z,H3,I3,r3,k,e,q3⟩=>?_) hm
 subst e;cases r3;exact dX ⟨H3,I3,q3⟩
theorem ZfV:(sizeLine:Nat)<2^63:=by rw[c9];decide
theorem ZgX:OpR X (eM .Add) (fun x y H Q=>∃i j,x=.str i/\y=.str j/\i.length+j.length<=sizeLine/\Q (.str (i++j)) H):=by
 intro pins s σ H x y v u Q I rx ry h;obtain⟨i,j,rfl,rfl,hz,q⟩:=h;obtain⟨t,rfl⟩:=rx;obtain⟨t',rfl⟩:=ry;exact add_str (fun t' tk=>⟨.str (i++j),H,I.tok _,⟨_,rfl⟩,q⟩) hz
theorem ZcM(r:ZZ [x] us):∃u,us=[u]/\Z0 x u:=by
 cases r with
 |cons r1 r2=>cases r2;exact⟨_,rfl,r1⟩
theorem Zka(r:ZZ [x,y] us):∃u w',us=[u,w']/\Z0 x u/\Z0 y w':=by
 cases r with
 |cons r1 r2=>
  cases r2 with
  |cons r3 r4=>cases r4;exact⟨_,_,rfl,r1,r3⟩
theorem Zai:ZbM X (.builtin "abs") (fun xs H Q=>∃i,xs=[.int i]/\Q (.int (if i<0 then -i else i)) H):=by
 intro pins s σ H xs us Q I r h;obtain⟨i,rfl,q⟩:=h;obtain⟨u,rfl,t,rfl⟩:=ZcM r;exact call_abs_int fun u tk=>⟨.int (if i<0 then -i else i),H,I.tok _,⟨_,rfl⟩,q⟩
theorem Zhv(hc:X.calm=true):ZbM X (.builtin "max") (fun xs H Q=>∃i j,xs=[.int i,.int j]/\Q (.int (if j>i then j else i)) H):=by
 intro pins s σ H xs us Q I r h;obtain⟨i,j,rfl,q⟩:=h;obtain⟨u,w',rfl,⟨t,rfl⟩,⟨t',rfl⟩⟩:=Zka r;refine max_two_ints (I.ok.hd hc) fun h' tk k=>⟨_,H,I.kept k,?_,q⟩;by_cases hj:j>i
 ·rw[if_pos hj,if_pos hj];exact⟨_,rfl⟩
 ·rw[if_neg hj,if_neg hj];exact⟨_,rfl⟩
theorem Zhw(hc:X.calm=true):ZbM X (.builtin "min") (fun xs H Q=>∃i j,xs=[.int i,.int j]/\Q (.int (if j<i then j else i)) H):=by
 intro pins s σ H xs us Q I r h;obtain⟨i,j,rfl,q⟩:=h;obtain⟨u,w',rfl,⟨t,rfl⟩,⟨t',rfl⟩⟩:=Zka r;refine min_two_ints (I.ok.hd hc) fun h' tk k=>⟨_,H,I.kept k,?_,q⟩;by_cases hj:j<i
 ·rw[if_pos hj,if_pos hj];exact⟨_,rfl⟩
 ·rw[if_neg hj,if_neg hj];exact⟨_,rfl⟩
theorem Zem:ZbM X (.type "int") (fun xs H Q=>(∃i,xs=[.int i]/\Q (.int i) H)\/∃k,xs=[.bl k]/\Q (.int (if k then 1 else 0)) H):=by
 intro pins s σ H xs us Q I r h;rcases h with⟨i,rfl,q⟩|⟨k,rfl,q⟩
 ·obtain⟨u,rfl,t,rfl⟩:=ZcM r;exact call_int_int ⟨.int i,H,I,⟨_,rfl⟩,q⟩
 ·obtain⟨u,rfl,r1⟩:=ZcM r;cases r1;exact call_int_bool ⟨.int (if k then 1 else 0),H,I.tok _,⟨_,rfl⟩,q⟩
structure Room(k:Nat) (A:cX):Prop where
 hd:100<=k->A.handled=none
 gd:A.guards=some []
 dp:A.depth+3*k+5<iH
 un:A.units+16*k+200<iC
theorem Room.mono(r:Room k A)(h:j<=k):Room j A:=⟨fun z=>r.hd (aU z h),r.gd,by have:=r.dp;lia,by have:=r.un;lia⟩
theorem Room.deeper(r:Room (k+1) A)(env:Env):Room k (A.deeper env):=
 ⟨fun z=>r.hd (Nat.le_succ_of_le z),r.gd,by have:=r.dp;show A.depth+1+3*k+5<_;lia,by have:=r.un;show A.units+3+16*k+200<_;lia⟩
theorem Room.in1(r:Room (k+1) A):Room k A.in1:=
 ⟨fun z=>r.hd (Nat.le_succ_of_le z),r.gd,by have:=r.dp;show A.depth+3*k+5<_;lia,by have:=r.un;show A.units+1+16*k+200<_;lia⟩
theorem Room.depth(r:Room k A):A.depth<iH:=by have:=r.dp;lia
theorem Room.units(r:Room k A):A.units+64<iC:=by have:=r.un;lia
noncomputable def tNil:TA:=fun _ H Q=>Q [] H
noncomputable def Zsb(ta:TE)(tr:TA):TA:=fun σ H Q=>ta σ H fun x H1=>tr σ H1 fun xs H2=>Q (x::xs) H2
theorem Zll:PA X [] tNil:=fun _ _ _ _ H Q I h=>Calls.spliced_nil ⟨[],H,I,.nil,h⟩
theorem Zfh(ha:PE X e te)(hr:PA X es t)(hs:autoParam (av (e::es) X.env=(false,eval e X.env)::av es X.env) Qrf._auto_1):PA X (e::es) (Zsb te t):=by
 intro pos pins s σ H Q I h;rw[hs];show wpAny _ _ (spliced ((false,eval e X.env)::cN pos (av es X.env))) _ _ s;refine Calls.spliced_cons (thn (ha pins s σ H _ I h) fun u s1 hz=>?_);obtain⟨x,H1,I1,r1,q1⟩:=hz;exact thn (hr pos pins s1 σ H1 _ I1 q1) fun us s2 ⟨xs,H2,I2,r2,q2⟩=>⟨x::xs,H2,I2,.cons r1 r2,q2⟩
def Zvt(t:TA):TE:=fun σ H Q=>t σ H fun xs H1=>xs.length<=sizeLine/\∀p,H1 p=none->Q (.ref p) (upd H1 p (.tup xs))
def Zvu(t:TA):TE:=fun σ H Q=>t σ H fun xs H1=>xs.length<=sizeLine/\∀p,H1 p=none->Q (.ref p) (upd H1 p (.lst xs))
theorem ZoW{x1}(h:PA X es t):PE X (.Tuple es x1 pos) (Zvt t):=by
 intro pins s σ H Q I hq;refine wpAny_Tuple_spliced (thn (h pos pins s σ H _ I hq) fun us s1 ⟨xs,H1,I1,r,z,q⟩=>⟨by rw[<-r.length];exact z,?_⟩)
 have hf:H1 s1.heap.objs.size=none:=I1.hok.fresh (ac _);refine⟨.ref s1.heap.objs.size,upd H1 s1.heap.objs.size (.tup xs),I1.laid (t':=s1.toks) (fun b u e=>Hq _ e) (ac _) ?_,rfl,q _ hf⟩;exact⟨z,us,r,⟨_,az _ rfl,rfl,_,rfl⟩⟩
theorem ZoX(h:PA X es t):PE X (.List es pos) (Zvu t):=by
 intro pins s σ H Q I hq;refine wpAny_List_spliced (thn (h pos pins s σ H _ I hq) fun us s1 ⟨xs,H1,I1,r,z,q⟩=>⟨by rw[<-r.length];exact z,?_⟩)
 have hf:H1 s1.heap.objs.size=none:=I1.hok.fresh (ac _);refine⟨.ref s1.heap.objs.size,upd H1 s1.heap.objs.size (.lst xs),I1.laid (t':=s1.toks) (fun b u e=>Hq _ e) (ac _) ?_,rfl,q _ hf⟩;exact⟨z,us,0,r,az _ rfl⟩
abbrev Sp:=List V->Hp->VK->XK->Prop
abbrev CXT:=List Env->Hp->aC->XK->aa->aC->Prop
structure Env0(P:cw) (w:cL) (K:Fg) (mg:Str->Option aa) (base:Heap) (A:cX) (outer:List Env) (s:aC) (H:Hp):Prop where
 frames:A.frames=some outer
 mod:Mod K mg base
 bs:∀b o,base.get? b=some o->s.heap.get? b=some o/\H b=none
 bsz:base.objs.size<=s.heap.objs.size
 funs:s.heap.FunFrames base outer
 frf:∀b∈frs outer,H b=none
 hok:HOk P w H s.heap
 bare:gW s.gens
 qd:Qd A H
 tb:Tbs K H
def CE(outer:List Env)(P:cw)(w:cL)(H:Hp)(s:aC)(Q:VK)(u:aa)(s':aC):Prop:=
 ∃v H',s'.os=s.os/\gW s'.gens/\Un (frs outer) [] H H' s.heap s'.heap/\HOk P w H' s'.heap/\Z0 v u/\Q v H'
def CR(CX:CXT)(outer:List Env)(P:cw)(w:cL)(H:Hp)(s:aC)(Q:VK)(E:XK)(r:Result)(s':aC):Prop:=
 match r with
 |.ok (.ret u)=>CE outer P w H s Q u s'
 |.ok _=>False
 |.error e=>CX outer H s E e s'
structure FnOk(P:cw) (w:cL) (K:Fg) (mg:Str->Option aa) (base:Heap) (CX:CXT) (k:Nat) (f:Addr) (fd:gZ) (ps:List Str) (sp:Sp):Prop where
 len:∀vs H Q E,sp vs H Q E->vs.length=ps.length
 run:∀(A:cX)(outer:List Env)(s:aC)(H:Hp)(args:Args)(us:List aa)(vs:List V)(Q:VK)(E:XK),Room k A->Env0 P w K mg base A outer s H->kM s fd args (ps.zip us)->ZZ vs us->sp vs H Q E->
  eY (aw P w) A (.call (.ref f) args) (CR CX outer P w H s Q E) s
theorem Inv.env0(I:Inv X pins σ H s):Env0 X.prog X.w X.K X.mg X.base X.A X.stack s H:=
 ⟨I.ok.frames,I.ok.mod,I.bs,aU I.ok.bsz I.sz,I.stack,I.stkFree,I.hok,I.bare,I.qd,I.ok.tb.un I.base⟩
theorem Inv.after(I:Inv X pins σ H s)(h:CE X.stack X.prog X.w H s Q u s'):EP X pins σ Q u s':=by
 obtain⟨v,H',os,bare,un,hok,r,q⟩:=h;obtain⟨hh,g,d,t,os'⟩:=s';obtain rfl:os'=s.os:=os;exact⟨v,H',I.call (h':=hh) (g':=g) (d':=d) (t':=t) (ch:=[]) un hok bare (fun b z=>absurd z (by simp)),r,q⟩
noncomputable def Zsc(sp:Sp)(dvs:List V)(E:XK)(t:TA):TE:=fun σ H Q=>t σ H fun vs H1=>sp (vs++dvs) H1 Q E
noncomputable def Zfi(K:Fg)(fd:gZ)(ps:List Str)(ds:List aa):Prop:=
 ∀(s:aC)(us:List aa),K.In s.heap->(us++ds).length=ps.length->kM s fd ⟨us,[]⟩ (ps.zip (us++ds))
theorem Zfi.all{K:Fg}(h:∀us:List aa,us.length=ps.length->hG fd ⟨us,[]⟩=pure (ps.zip us)):Zfi K fd ps []:=fun s us _ hl=>by
 rw[cC]at hl ⊢;exact .of_eq (h us hl)
def Zhx(CX:CXT)(X:Cx)(E:XK):Prop:=∀(pins:Pn)(σ:St)(H:Hp)(s:aC)(e:aa)(s':aC),Inv X pins σ H s->CX X.stack H s E e s'->X.xe e s'
theorem ZoY(F:FnOk X.prog X.w X.K X.mg X.base CX k f fd ps sp)(hr:Room k X.A)(hb:Zfi X.K fd ps ds)(hd:ZZ dvs ds)(hx:Zhx CX X E)(I:Inv X pins σ H s)(r:ZZ vs us)(h:sp (vs++dvs) H Q E):wpAny (aw X.prog X.w) X.A (call (.ref f) us) (EP X pins σ Q) X.xe s:=by
 have r2:ZZ (vs++dvs) (us++ds):=r.append hd;have hl:(us++ds).length=ps.length:=by rw[<-r2.length];exact F.len _ _ _ _ h
 refine wpAny_call (lH (F.run X.A X.stack s H ⟨us,[]⟩ (us++ds) (vs++dvs) Q E hr I.env0 (hb s us I.kIn hl) r2 h) fun r s' hq=>?_);cases r with
 |error e=>exact hx pins σ H s e s' I hq
 |ok fl=>
  cases fl with
  |ret u=>exact I.after hq
  |next=>exact fj hq
  |brk=>exact fj hq
  |cont=>exact fj hq
theorem Zmt(F:FnOk X.prog X.w X.K X.mg X.base CX k f fd ps sp)(hr:Room k X.A)(hg:Gl X x)(hm:X.mg x=some (.ref f))(hk:PySem.W.keepIn X.K (.ref f)=true)(hb:Zfi X.K fd ps ds)(hd:ZZ dvs ds)(hx:Zhx CX X E)(ha:PA X (e::es) t)(hdb:autoParam ((x==("__debug__":Str))=false) Qde._auto_1)(he:autoParam (av (e::es) X.env=(false,eval e X.env)::av es X.env) Qrf._auto_1)(hpl:autoParam ((cN pos (av es X.env)).any (·.1)=false) Qrf._auto_1):
  PE X (.Call (.Name x p) (e::es) [] pos) (Zsc sp dvs E t):=by
 intro pins s σ H Q I h;refine wpAny_Call_Name_kw (Zhq I hg hm ?_ hdb);refine PySem.W.callWith_K (h₀:=X.base) I.ok.mod.kin hk (thn (ha pos pins s σ H _ I h) fun us s1 ⟨vs,H1,I1,r,q⟩=>⟨I1.kIn,?_⟩) he hpl;exact ZoY F hr hb hd hx I1 r q
structure FnScope(N P:List Str) (sc:gN):Prop where
 kind:sc.kind=.function
 co:sc.isCoroutine=false
 gen:sc.isGenerator=false
 nd:N.Nodup
 pre:N.take P.length=P
 par:∀x∈P,sc.names.lookup x=some .local\/sc.names.lookup x=some .cell
 nofree:∀y∈sc.names,y.2≠ .free
theorem Zen{kindOf:Str->Option cG}{x:Str}:∀{binds:List (Str×aa)} {m:Str->Option aa},(∀v,(x,v)∉binds)->bindL kindOf binds m x=m x
 |[],_,_=>rfl
 | (n,v)::r,m,h=>by
  unfold bindL;rw[Zen fun w hw=>h w (aA _ hw)];split
  ·have:x≠n:=by rintro rfl;exact h v bE
   simp[this]
  ·rfl
theorem Zeo{kindOf:Str->Option cG}{x:Str}:∀{binds:List (Str×aa)} {m:Str->Option aa},(∀v,(x,v)∉binds)->bindC kindOf binds m x=m x
 |[],_,_=>rfl
 | (n,v)::r,m,h=>by
  unfold bindC;rw[Zeo fun w hw=>h w (aA _ hw)];split
  ·rfl
  ·have:x≠n:=by rintro rfl;exact h v bE
   simp[this]
theorem Zep{kindOf:Str->Option cG}{x:Str}{v:aa}:∀{P:List Str}{vs:List aa}{i:Nat}{m:Str->Option aa},P.Nodup->P[i]?=some x->vs[i]?=some v->kindOf x=some .local->bindL kindOf (P.zip vs) m x=some v
 |[],_,_,_,_,h,_,_=>by simp at h
 |_::_,[],_,_,_,_,h,_=>by simp at h
 |p::P,w::vs,0,m,nd,h1,h2,hk=>by
  simp at h1 h2;subst h1;subst h2;show bindL kindOf ((p,w)::P.zip vs) m p=_;unfold bindL;rw[Zen fun v hv=>(eN.mp nd).1 (fZ hv).1,if_pos hk];simp
 |p::P,w::vs,i+1,m,nd,h1,h2,hk=>by
  show bindL kindOf ((p,w)::P.zip vs) m x=_;unfold bindL;exact Zep (i:=i) (eN.mp nd).2 (by simpa using h1) (by simpa using h2) hk
theorem Zeq{kindOf:Str->Option cG}{x:Str}{v:aa}:∀{P:List Str}{vs:List aa}{i:Nat}{m:Str->Option aa},P.Nodup->P[i]?=some x->vs[i]?=some v->kindOf x≠some .local->bindC kindOf (P.zip vs) m x=some v
 |[],_,_,_,_,h,_,_=>by simp at h
 |_::_,[],_,_,_,_,h,_=>by simp at h
 |p::P,w::vs,0,m,nd,h1,h2,hk=>by
  simp at h1 h2;subst h1;subst h2;show bindC kindOf ((p,w)::P.zip vs) m p=_;unfold bindC;rw[Zeo fun v hv=>(eN.mp nd).1 (fZ hv).1,if_neg hk];simp
 |p::P,w::vs,i+1,m,nd,h1,h2,hk=>by
  show bindC kindOf ((p,w)::P.zip vs) m x=_;unfold bindC;exact Zeq (i:=i) (eN.mp nd).2 (by simpa using h1) (by simpa using h2) hk
noncomputable def start(N:List Str)(vs:List V):St:=vs.map some++aH (N.length-vs.length) none
noncomputable def ZfW(CX:CXT)(P:cw)(w:cL)(K:Fg)(mg:Str->Option aa)(base:Heap)(N:List Str)(qual:Str)(scope:gN)(f:Addr)(cd:aa)(A:cX)(outer:List Env)(s:aC)(H:Hp)(E:XK):Cx where
 prog:=P
 w:=w
 K:=K
 mg:=mg
 base:=base
 A:=A.deeper (iI qual scope s.heap.objs.size f cd)
 N:=N
 s₀:=s
 H₀:=H
 env:=iI qual scope s.heap.objs.size f cd
 outer:=outer
 stack:=iI qual scope s.heap.objs.size f cd::outer
 ex:=[]
 calm:=A.handled.isNone
 fxs:=none
 fn:=fun _=>true
 pn:=[]
 xe:=fun e s'=>wpAny (aw P w) (A.deeper (iI qual scope s.heap.objs.size f cd)) (mf (iI qual scope s.heap.objs.size f cd) e) (fun _ s''=>CX outer H s E e s'') (fun e' s''=>CX outer H s E e' s'') s'
theorem ZfX{sc:gN}(h:sc.names.lookup x=some .cell):∃c,(bN n sc.names []).lookup x=some c:=by
 have q:=PySem.W.cellsFrom_some sc.names n [] (.inl h);exact eB.mp q
theorem Zhy{K:Fg}(S:FnScope N ps scope)(e0:Env0 P w K mg base A outer s H)(hl:vs.length=ps.length)(r:ZZ vs us)(x:InCallC s s.heap.objs.size (bindL (iI qual scope s.heap.objs.size f cd).kindOf (ps.zip us) fun _=>none) (bN (s.heap.objs.size+1) scope.names []) (bindC (iI qual scope s.heap.objs.size f cd).kindOf (ps.zip us) fun _=>none) s1):Inv (ZfW CX P w K mg base N qual scope f cd A outer s H E) [] (start N vs) H s1:=by
 have hpl:ps.length<=N.length:=by have:=congrArg List.length S.pre;rw[cM]at this;lia
 obtain⟨h1,tk,rfl,hk⟩:=x.done;have noA:∀b:Addr,b∉(ZfW CX P w K mg base N qual scope f cd A outer s H E).ex:=fun b z=>absurd (show b∈([]:List Addr)from z) (by simp)
 refine⟨⟨e0.mod,S.kind,rfl,rfl,ac _,fun y z c h1 h2=>?_,fun y hy=>?_,fun y c _ h=>?_,fun z=>fF.mp z,j9 e0.frames,.inr ⟨rfl,rfl⟩,fun b z=>absurd z (noA b),e0.bs,e0.bsz,fun b _ _=>noA b,fun b z=>absurd z (noA b),e0.funs,e0.frf,e0.tb⟩,rfl,e0.bare,Un.kept hk,⟨_,x.toInCall.ns,fun i y v h1 h2 h3=>?_⟩,fun y c h=>⟨_,x.cell y c h⟩,e0.hok.fresh (ac _),fun y c h=>?_,fun p hp=>absurd (show p∈([]:Pn)from hp) (by simp),e0.hok.kept hk,?_,e0.qd,.free rfl⟩
 ·exact name_of_addr x.apart (PySem.mem_of_lookup h1) (PySem.mem_of_lookup h2)
 ·have hy:scope.names.lookup y=some .cell\/scope.names.lookup y=some .free:=hy;rcases hy with hy|hy
  ·exact ZfX hy
  ·exact absurd rfl (S.nofree _ (PySem.mem_of_lookup hy))
 ·exact dw (x.above y c (PySem.mem_of_lookup h))
 ·have hi:i<vs.length:=by
   unfold start at h2;by_cases hi:i<vs.length
   ·exact hi
   ·rw[aR (by simpa using hi)]at h2
    rw[List.getElem?_replicate]at h2
    split at h2<;>cases h2
  have ha:vs[i]?=some v:=by
   unfold start at h2;rw[ae (by simpa using hi),bp]at h2
   cases e:vs[i]? with
   |none=>rw[e]at h2;cases h2
   |some a=>rw[e]at h2;cases h2;rfl
  obtain⟨u,hu,rv⟩:=r.get ha;have hp:ps[i]?=some y:=by
   rw[<-S.pre,c7 (by lia)];exact h1
  have ndP:ps.Nodup:=by rw[<-S.pre];exact S.nd.sublist (List.take_sublist _ _)
  refine⟨u,rv,?_⟩;rcases S.par y (dZ hp)with k|k
  ·exact .inl ⟨k,Zep ndP hp hu k⟩
  ·obtain⟨c,e⟩:=ZfX (n:=s.heap.objs.size+1) k;refine .inr ⟨.inl k,c,e,?_⟩;have q:=x.cell y c e;rw[Zeq ndP hp hu (by show scope.names.lookup y≠_;rw[k];decide)]at q
   exact q
 ·exact e0.hok.fresh (dw (x.above y c (PySem.mem_of_lookup h)))
 ·unfold start;show _=N.length;rw[aG,ay,bI];lia
theorem ZoZ{K:Fg}{kV:aa}(lk:K.lookup f=some ⟨oc,od,.func (PySem.W.fnOf name qual params body scope dV kV doc pm an cdv ct),osl⟩)(hcd:PySem.W.codeIn K cdv qual=true)(S:FnScope N ps scope)(len:∀vs H Q E,sp vs H Q E->vs.length=ps.length)(hbody:∀(A:cX)(outer:List Env)(s:aC)(H:Hp)(vs:List V)(Q:VK)(E:XK),Room k (A.deeper (iI qual scope s.heap.objs.size f cdv))->sp vs H Q E->∃t,PSs (ZfW CX P w K mg base N qual scope f cdv A outer s H E) body t/\t {nx:=fun _ H'=>Q .non H',rt:=Q} (start N vs) H):FnOk P w K mg base CX (k+1) f (PySem.W.fnOf name qual params body scope dV kV doc pm an cdv ct) ps sp:=by
 refine⟨len,fun A outer s H args us vs Q E hr e0 hb r hsp=>?_⟩;have hl:=len _ _ _ _ hsp;have KX:K.In s.heap:=e0.mod.kin.keeps fun b o e=>(e0.bs b o e).1;have lim:s.heap.NoLimit:=e0.mod.nolimit.keeps fun b o e=>(e0.bs b o e).1;have hkind:∀y∈ps.zip us,scope.names.lookup y.1=some .local\/(scope.names.lookup y.1=some .cell/\((bN (s.heap.objs.size+1) scope.names []).lookup y.1).isSome=true):=fun⟨n,v⟩ hy=>by
  rcases S.par n (fZ hy).1 with q|q
  ·exact .inl q
  ·exact .inr ⟨q,PySem.W.cellsFrom_some _ _ _ (.inl q)⟩
 refine codeAny_call_function hr.depth (KX _ _ lk) rfl S.co S.gen rfl (PySem.W.codeRec_of KX hcd) (hb _ _ _ _ ?_);refine wpAny_newFunctionEnv_cells S.kind hkind fun env he s1 x=>?_;subst he;refine⟨lim.keeps x.toInCall.keep,codeAny_func ?_⟩;obtain⟨t,ht,hq⟩:=hbody A outer s H vs Q E (hr.deeper _) hsp;have I:Inv (ZfW CX P w K mg base N qual scope f cdv A outer s H E) [] (start N vs) H s1:=Zhy S e0 hl r x;refine wpAny_mono (ht [] s1 (start N vs) H _ I hq) (fun fl s' hs=>?_) fun e s' hs=>hs;have fin:∀{σ':St}{H':Hp}{v:V}{u:aa},Inv (ZfW CX P w K mg base N qual scope f cdv A outer s H E) [] σ' H' s'->Z0 v u->Q v H'->CE outer P w H s Q u s':=
  fun{σ' H' v u} J rv q=>⟨v,H',J.os,J.bare,J.base,J.hok,rv,q⟩
 cases fl with
 |ret u=>
  obtain⟨v,σ',H',J,rv,q⟩:=hs;exact fin J rv q
 |next=>
  obtain⟨σ',H',J,q⟩:=hs;exact fin (v:=V.non) (u:=a9) J rfl q
 |brk=>
  obtain⟨_,_,_,q⟩:=hs;exact fj q
 |cont=>
  obtain⟨_,_,_,q⟩:=hs;exact fj q
section
variable {e:Expr}{id:String}
noncomputable def tCB(r:List V->Hp->VK->Prop)(t:TA):TE:=fun σ H Q=>t σ H fun vs H1=>r vs H1 Q
theorem ZfY(hc:ZbM X (.builtin id) r)(hg:Gl X x)(hm:X.mg x=none)(hv:bB x=some (.builtin id))(ha:PA X (e::es) t)(hn:autoParam (x≠"__name__") Qde._auto_1)(hdb:autoParam ((x==("__debug__":Str))=false) Qde._auto_1)
  (he:av (e::es) X.env=(false,eval e X.env)::av es X.env:=by rfl) (hpl:(cN pos (av es X.env)).any (·.1)=false:=by rfl):PE X (.Call (.Name x p) (e::es) [] pos) (tCB r t):=by
 intro pins s σ H Q I h;refine wpAny_Call_Name_kw (ZbA I hg hm hv ?_ hn hdb);exact PyProof.Rows.callWith_builtin1 (thn (ha pos pins s σ H _ I h) fun us s1 ⟨vs,H1,I1,r1,q1⟩=>hc pins s1 σ H1 vs us Q I1 r1 q1) he hpl
theorem Zhz(hc:ZbM X (.type T) r)(hg:Gl X x)(hm:X.mg x=none)(hv:bB x=some (.type T))(ha:PA X (e::es) t)(hn:autoParam (x≠"__name__") Qde._auto_1)(hdb:autoParam ((x==("__debug__":Str))=false) Qde._auto_1)
  (he:av (e::es) X.env=(false,eval e X.env)::av es X.env:=by rfl) (hpl:(cN pos (av es X.env)).any (·.1)=false:=by rfl):PE X (.Call (.Name x p) (e::es) [] pos) (tCB r t):=by
 intro pins s σ H Q I h;refine wpAny_Call_Name_kw (ZbA I hg hm hv ?_ hn hdb);exact bV (thn (ha pos pins s σ H _ I h) fun us s1 ⟨vs,H1,I1,r1,q1⟩=>hc pins s1 σ H1 vs us Q I1 r1 q1) he hpl
end
end L2
namespace HT
open PyProof.Rows
noncomputable def Zbg:List Int->List Int->Bool
 |[],[]=>false
 |[],_::_=>true
 |_::_,[]=>false
 |x::xs,y::ys=>if x=y then Zbg xs ys else decide (x<y)
theorem Z9(x y:Int)(xs ys:List Int):Zbg (x::xs) (y::ys)=if x=y then Zbg xs ys else decide (x<y):=rfl
theorem Zkb(A:cX)(s:aC)(a:Int)(t:Tok)(c:Int)(u:Tok):∃e,lx A s (.int a t) (.int c u) e/\(e=true↔a=c):=
 ⟨(a==c),lx.int_int a t c u,by simp⟩
theorem Zkc(A:cX)(s:aC)(a:Int)(t:Tok)(c:Int)(u:Tok)(prog:cw)(w:cL)(E:Vp)(Q:Vp)(h:Q (.bool (decide (a<c))) s):wpAny (aw prog w) A (richCompare .Lt (.int a t) (.int c u)) Q E s:=
 (PyProof.Rows.lt_int h:wpAny (aw prog w) A (dD .Lt (.int a t) (.int c u)) Q E s)
section
open PySem.SeqAt
open PySem.AutoSeq1 (wpAny_loadPart')
open PySem.MeetsSeq PySem.MeetsSeq2 PySem.MeetsSeq3
end
theorem Zmu(ht:gY s.heap t vs.toArray)(hb:gY s.heap b ws.toArray)(hv:vs≠[])(h1:ws=[]->Q (.ref t) s)(h2:ws≠[]->Q (.ref s.heap.objs.size) {s with heap:=s.heap.push {cls:=.type "tuple",data:=.seq (vs++ws).toArray}})(hsz:vs.length+ws.length<=sizeLine):wpAny (aw prog w) A (eM .Add (.ref t) (.ref b)) Q E s:=by
 obtain⟨⟨cls,dd,data,sl⟩,ho,hc,n,hd⟩:=id ht;obtain⟨⟨cls2,dd2,data2,sl2⟩,ho2,hc2,n2,hd2⟩:=id hb;simp only at hc hd hc2 hd2;subst hc hd hc2 hd2;have e:vs.toArray++ws.toArray=(vs++ws).toArray:=by simp
 by_cases hw:ws=[]
 ·exact concat_meets ⟨_,ho,rfl⟩ ⟨_,ho2,rfl⟩ noFill_tuple_add seq_tuple_add PySem.F.slot_tuple_add PySem.F.entry_tuple_add (PySem.F.args_tuple_add_2 _ _)
   (tuple_addW1 t b vs.toArray ws.toArray n n2 dd dd2 sl sl2 (by simpa using hv) (by simp[hw])) ⟨ho,ho2,h1 hw⟩
 ·refine concat_meets ⟨_,ho,rfl⟩ ⟨_,ho2,rfl⟩ noFill_tuple_add seq_tuple_add PySem.F.slot_tuple_add PySem.F.entry_tuple_add (PySem.F.args_tuple_add_2 _ _)
   (tuple_addW2 t b vs.toArray ws.toArray n n2 dd dd2 sl sl2 (by simpa using hv) (by simpa using hw) (by rw[ao,ao];exact hsz)) ⟨ho,ho2,?_⟩
  rw[e];exact h2 hw
noncomputable def sIx(n d:Nat):Option Int->Nat
 |none=>d
 |some v=>if v<0 then(v+(n:Int)).toNat else min v.toNat n
theorem Zo0(n d:Nat)(hd:d<=n)(o:Option Int):sIx n d o<=n:=by
 cases o with
 |none=>exact hd
 |some v=>
  show(if v<0 then(v+(n:Int)).toNat else min v.toNat n)<=n
  by_cases hv:v<0
  ·rw[if_pos hv];lia
  ·rw[if_neg hv];exact Nat.min_le_right _ _
theorem ZhA(v:Int)(n d:Nat):(if v<0 then max (v+(n:Int)) 0 else min v (n:Int))=((sIx n d (some v):Nat):Int):=by
 show(if v<0 then max (v+(n:Int)) 0 else min v (n:Int))=(((if v<0 then(v+(n:Int)).toNat else min v.toNat n):Nat):Int)
 by_cases hv:v<0
 ·simp only[if_pos hv];lia
 ·simp only[if_neg hv];lia
theorem ZgY(lo hi:Option Int)(n:Nat):fG lo hi 1 (n:Int)=(((sIx n 0 lo:Nat):Int),((sIx n n hi:Nat):Int)):=by
 have h1:¬((1:Int)<0):=by lia
 unfold fG;simp only[h1,if_false];refine gq ?_ ?_
 ·cases lo with
  |none=>rfl
  |some v=>exact ZhA v n 0
 ·cases hi with
  |none=>rfl
  |some v=>exact ZhA v n n
theorem ZgZ(i j:Nat):dL (i:Int) (j:Int) 1=j-i:=by
 unfold dL;have h1:(1:Int)>0:=by lia
 simp only[h1,if_true,Int.ediv_one]
 split<;>lia
theorem Zdp(p:lC v o)(h:Q o s):wpAny (aw prog w) A (cV.Slice.slicePartIndex v) Q E s:=by
 cases p with
 |none=>exact slicePart_none h
 |int i t=>exact slicePart_int h
theorem Zcy{lo:Option Int}{n:Nat}(hs:s.heap.IsSliceOf sl vl vu .none)(pl:lC vl lo)(pu:lC vu hi)(h:Q (((sIx n 0 lo:Nat):Int),1,sIx n n hi-sIx n 0 lo) s):wpAny (aw prog w) A (iJ (.ref sl) (pure (n:Int))) Q E s:=by
 obtain⟨os,hos,hcs,hds⟩:=id hs;unfold iJ cV.Slice.sliceFields;refine Wb (Wb (aX hos hds (x:=vl) rfl (Wb (aX hos hds (x:=vu) rfl (Wb (aX hos hds (x:=.none) rfl (Wp ?_)))))));refine Wb (slicePart_none ?_);show wpAny _ _ (if((1:Int)==0)=true then _ else _) _ _ s
 rw[if_neg (by decide)]
 refine Wb (Zdp pl (Wb (Zdp pu (Wb (Wp ?_)))));show wpAny _ _ (match fG lo hi 1 (n:Int)with|(lo,hi)=>pure (lo,(1:Int),dL lo hi 1)) _ _ s
 rw[ZgY lo hi n];show wpAny _ _ (pure (((sIx n 0 lo:Nat):Int),(1:Int),dL ((sIx n 0 lo:Nat):Int) ((sIx n n hi:Nat):Int) 1)) _ _ s;rw[ZgZ];exact Wp h
theorem Zkd(xs:Array aa)(i k:Nat):((aL k).filterMap fun(m:Nat)=>xs[((i:Int)+(m:Int)*1).toNat]?).toArray=((xs.toList.drop i).take k).toArray:=by
 have e:(fun(m:Nat)=>xs[((i:Int)+(m:Int)*1).toNat]?)=fun m=>xs[i+m]?:=by
  funext m
  have:((i:Int)+(m:Int)*1).toNat=i+m:=by lia
  rw[this]
 rw[e]
 have:=pick_run xs i k
 rw[List.filterMap_map]at this;have e2:((fun x=>xs[x]?)∘fun x=>i+x)=fun m=>xs[i+m]?:=rfl;rw[e2]at this;rw[this]
theorem Zcf{lo:Option Int}(ht:gY s.heap t items)(hs:s.heap.IsSliceOf sl vl vu .none)(pl:lC vl lo)(pu:lC vu hi)(hw:¬(sIx items.size 0 lo=0/\sIx items.size items.size hi=items.size))(h:Q (.ref s.heap.objs.size) {s with heap:=s.heap.push {cls:=.type "tuple",data:=.seq ((items.toList.drop (sIx items.size 0 lo)).take (sIx items.size items.size hi-sIx items.size 0 lo)).toArray}})(hsz:items.size<=sizeLine):wpAny (aw prog w) A (mh (.ref t) (.ref sl)) Q E s:=by
 have htake:sizeOk (.seq ((items.toList.drop (sIx items.size 0 lo)).take (sIx items.size items.size hi-sIx items.size 0 lo)).toArray):=by
  show((items.toList.drop (sIx items.size 0 lo)).take (sIx items.size items.size hi-sIx items.size 0 lo)).toArray.size<=sizeLine;rw[ao,cM,fw,fI];lia
 have hj:sIx items.size items.size hi<=items.size:=Zo0 _ _ (ac _) hi;obtain⟨os,hos,hcs,hds⟩:=id hs;have hTs:s.TypeIs (.ref sl) "slice":=⟨os,hos,hcs⟩;unfold mh
 try with_reducible refine wpAny_holding ?_
 first|refine Wb (Wp ?_)|skip
 refine Wb (wpAny_sequenceKey ht.typeIs (by decide) ?_)
 refine Wb (cu (name:=a7 "__getitem__") ht.typeIs eF (bY eF ht.typeIs entry_tuple_getitem ?_ (args_tuple_getitem _ _)))
 show wpAny _ _ (iD (.ref t) >>= _) _ _ s;refine Wb (tupleItemsOf_ ht ?_);refine Wb (wpAny_typeOf hTs ?_);rw[if_pos (by decide)]
 refine Wb (Zcy hs pl pu ?_);have hno:¬((((sIx items.size 0 lo:Nat):Int)==0&&(1:Int)==1&&(sIx items.size items.size hi-sIx items.size 0 lo)==items.size)=true):=by
  intro q;rw[aT,aT]at q;have q1:((sIx items.size 0 lo:Nat):Int)=0:=eq_of_beq q.1.1;have q2:sIx items.size items.size hi-sIx items.size 0 lo=items.size:=eq_of_beq q.2;exact hw ⟨by lia,by lia⟩
 show wpAny _ _ (if(((sIx items.size 0 lo:Nat):Int)==0&&(1:Int)==1&&(sIx items.size items.size hi-sIx items.size 0 lo)==items.size)=true then _ else _) _ _ s
 rw[if_neg hno,Zkd]
 first
  |exact Wb (m:=eD _) (bD (Wp ⟨_,rfl,Wp h⟩) htake)
  |exact Wb (m:=eD _) (bD (Wb (Wp (Wp ⟨_,rfl,Wp h⟩))) htake)
  |exact Wb (Wb (m:=eD _) (bD (Wp (Wp ⟨_,rfl,Wp h⟩)) htake))
  |exact Wb (Wb (m:=eD _) (bD (Wp ⟨_,rfl,Wp h⟩) htake))
end HT
namespace L2
open PyProof.Rows
abbrev TO:=St->Hp->(Option Int->Hp->Prop)->Prop
def PO(X:Cx)(e:Option Expr)(t:TO):Prop:=
 ∀(pins:Pn)(s:aC)(σ:St)(H:Hp)(Q:Option Int->Hp->Prop),Inv X pins σ H s->t σ H Q->
  wpAny (aw X.prog X.w) X.A (evalPart e X.env) (fun u s'=>∃o H',Inv X pins σ H' s'/\lC u o/\Q o H') X.xe s
noncomputable def tNoPart:TO:=fun _ H Q=>Q none H
noncomputable def Zsd(t:TE):TO:=fun σ H Q=>t σ H fun x H1=>∃i,x=.int i/\Q (some i) H1
theorem Zg0:∀{us:List aa},ZZ (ns.map V.int) us->gr us ns:=by
 induction ns with
 |nil=>intro us r;rw[im]at r;cases r;exact .nil
 |cons n ns ih=>
  intro us r;rw[aP]at r;cases r with
  |cons r1 r2=>
   obtain⟨t,e⟩:=r1;subst e;exact .cons n t (ih r2)
section
variable {lo hi:Option Expr}
theorem Zmv:PO X none tNoPart:=by
 intro pins s σ H Q I h;rw[evalPart_none];exact Wp ⟨none,H,I,.none,h⟩
theorem Zmw(h:PE X e te):PO X (some e) (Zsd te):=by
 intro pins s σ H Q I hw;rw[evalPart_some];refine thn (h pins s σ H _ I hw) fun u s1 hz=>?_;obtain⟨x,H1,I1,r1,q1⟩:=hz;obtain⟨i,rfl,q⟩:=q1;obtain⟨t,rfl⟩:=r1;exact⟨some i,H1,I1,.int i t,q⟩
def SlR(X:Cx)(r:V->Option Int->Option Int->Hp->VK->Prop):Prop:=
 ∀(pins:Pn)(s:aC)(σ:St)(H:Hp)(x:V)(v vl vu:aa)(lo hi:Option Int)(sl:Addr)(Q:VK),Inv X pins σ H s->Z0 x v->s.heap.IsSliceOf sl vl vu .none->lC vl lo->lC vu hi->r x lo hi H Q->
  ∃T id,typeLookup (.type T) "__getitem__"=pure (some (.builtin id))/\s.TypeIs v T/\wpAny (aw X.prog X.w) X.A (mh v (.ref sl)) (EP X pins σ Q) X.xe s
theorem SlR.or(h:SlR X r)(h':SlR X r'):SlR X (fun x lo hi H Q=>r x lo hi H Q\/r' x lo hi H Q):=by
 intro pins s σ H x v vl vu lo hi sl Q I rx hs pl pu q;rcases q with q|q
 ·exact h pins s σ H x v vl vu lo hi sl Q I rx hs pl pu q
 ·exact h' pins s σ H x v vl vu lo hi sl Q I rx hs pl pu q
noncomputable def tSl(r:V->Option Int->Option Int->Hp->VK->Prop)(te:TE)(tl th:TO):TE:=fun σ H Q=>te σ H fun x H1=>tl σ H1 fun l H2=>th σ H2 fun u H3=>r x l u H3 Q
theorem Zke(hr:SlR X r)(he:PE X e te)(hl:PO X lo tl)(hu:PO X hi th):PE X (.Subscript e (.Slice lo hi none p2) pos) (tSl r te tl th):=by
 intro pins s σ H Q I h;refine Subscript_ (thn (he pins s σ H _ I h) fun v s1 hz=>?_);obtain⟨x,H1,I1,r1,q1⟩:=hz;refine wpAny_Slice (thn (hl pins s1 σ H1 _ I1 q1) fun vl s2 ⟨l,H2,I2,pl,q2⟩=>thn (hu pins s2 σ H2 _ I2 q2) fun vu s3 hz=>?_);obtain⟨u,H3,I3,pu,q3⟩:=hz;rw[evalPart_none];refine Wp ?_;have I4:Inv X pins σ H3 {s3 with heap:=s3.heap.push {cls:=.type "slice",data:=.fields #[vl,vu,.none]}}:=I3.kept (t':=s3.toks) fun b ob q=>Hq _ q;obtain⟨T,id,hT,ht,hg⟩:=hr pins {s3 with heap:=s3.heap.push {cls:=.type "slice",data:=.fields #[vl,vu,.none]}} σ H3 x v vl vu l u s3.heap.objs.size Q I4 r1 (ma.IsSliceOf.new ..) pl pu q3;show wpAny (aw X.prog X.w) X.A (subscriptTail e (.Slice lo hi none p2) v (.ref s3.heap.objs.size)) (EP X pins σ Q) X.xe {s3 with heap:=s3.heap.push {cls:=.type "slice",data:=.fields #[vl,vu,.none]}};exact tail_any (ops:=[.ref s3.heap.objs.size,v]) ht hT hg (by with_unfolding_all rfl)
def Zlm(xs:List V)(lo hi:Option Int):List V:=(xs.drop (HT.sIx xs.length 0 lo)).take (HT.sIx xs.length xs.length hi-HT.sIx xs.length 0 lo)
theorem ZcN(xs:List V)(lo hi:Option Int):(Zlm xs lo hi).length<=xs.length:=by
 unfold Zlm;rw[cM,fw];lia
def Zvv(K:Fg):V->Option Int->Option Int->Hp->VK->Prop:=fun x lo hi H Q=>∃a xs,x=.ref a/\SqT K H a xs/\
 ¬(HT.sIx xs.length 0 lo=0/\HT.sIx xs.length xs.length hi=xs.length)/\∀p,H p=none->Q (.ref p) (upd H p (.tup (Zlm xs lo hi)))
theorem Zo1:SlR X (Zvv X.K):=by
 intro pins s σ H x v vl vu lo hi sl Q I rx hs pl pu h;obtain⟨a,xs,rfl,hx,hw,q⟩:=h;cases rx;obtain⟨its,r,ht,hz⟩:=I.tuple hx;have hlen:its.toArray.size=xs.length:=by rw[ao];exact r.length.symm
 refine⟨"tuple",_,eF.lookup,ht.typeIs,?_⟩;refine HT.Zcf ht hs pl pu (by rw[hlen];exact hw) ?_ (by rw[hlen];exact hz)
 rw[hlen];refine⟨.ref s.heap.objs.size,_,I.laid (t':=s.toks) (o:=.tup (Zlm xs lo hi)) (fun b ob q=>Hq _ q) (ac _) ?_,rfl,q _ (I.hok.fresh (ac _))⟩;exact⟨aU (ZcN xs lo hi) hz,_,(r.drop (HT.sIx xs.length 0 lo)).take (HT.sIx xs.length xs.length hi-HT.sIx xs.length 0 lo),gY.new _ _⟩
def Zmx(K:Fg):R2:=fun x y H Q=>∃a b xs ys,x=.ref a/\y=.ref b/\SqT K H a xs/\SqT K H b ys/\xs≠[]/\xs.length+ys.length<=sizeLine/\
 (ys=[]->Q (.ref a) H)/\(ys≠[]->∀p,H p=none->Q (.ref p) (upd H p (.tup (xs++ys))))
theorem ZZ.nil_iff(r:ZZ xs us):us=[]↔xs=[]:=by
 cases r with
 |nil=>simp
 |cons _ _=>simp
theorem Zmy:OpR X (eM .Add) (Zmx X.K):=by
 intro pins s σ H x y v u Q I rx ry h;obtain⟨a,b,xs,ys,rfl,rfl,ha,hb,hx,hz,q1,q2⟩:=h;cases rx;cases ry;obtain⟨its,r1,p1,_⟩:=I.tuple ha;obtain⟨its2,r2,p2,_⟩:=I.tuple hb;refine HT.Zmu p1 p2 (fun z=>hx (r1.nil_iff.mp z)) (fun z=>⟨.ref a,H,I,rfl,q1 (r2.nil_iff.mp z)⟩) (fun z=>?_) (by rw[<-r1.length,<-r2.length];exact hz)
 refine⟨.ref s.heap.objs.size,_,I.laid (t':=s.toks) (o:=.tup (xs++ys)) (fun b ob q=>Hq _ q) (ac _) ?_,rfl,q2 (fun w=>z (r2.nil_iff.mpr w)) _ (I.hok.fresh (ac _))⟩;exact⟨by rw[aG];exact hz,_,r1.append r2,gY.new _ _⟩
end
noncomputable def ixN(n:Nat)(i:Int):Option Nat:=if 0<=i then(if i<n then some i.toNat else none)else if -(n:Int)<=i then some (i+n).toNat else none
def atI{α:Type}(xs:List α)(i:Int):Option α:=(ixN xs.length i).bind fun j=>xs[j]?
theorem ZhB(h:ixN n i=some j):seqIndex? i n=some j/\j<n/\ -(n:Int)<=i/\i<n:=by
 unfold ixN at h;by_cases h0:0<=i
 ·rw[if_pos h0]at h;by_cases h1:i<n
  ·rw[if_pos h1]at h;have e:i.toNat=j:=aN h;exact⟨by rw[lX h0 h1,e],by lia,by lia,h1⟩
  ·rw[if_neg h1]at h;cases h
 ·rw[if_neg h0]at h;by_cases h1: -(n:Int)<=i
  ·rw[if_pos h1]at h;have e:(i+n).toNat=j:=aN h;exact⟨by rw[lI (by lia) h1,e],by lia,h1,by lia⟩
  ·rw[if_neg h1]at h;cases h
theorem ZhC{xs:List α}{v:α}(h:atI xs i=some v):∃j,seqIndex? i xs.length=some j/\xs[j]?=some v/\j<xs.length/\ -(xs.length:Int)<=i/\i<xs.length:=by
 unfold atI at h;cases e:ixN xs.length i with
 |none=>rw[e]at h;cases h
 |some j=>
  rw[e]at h;obtain⟨h1,h2,h3,h4⟩:=ZhB e;exact⟨j,h1,h,h2,h3,h4⟩
theorem Zmz{xs:List α}{j:Nat}{v:α}(h:xs[j]?=some v):atI xs (j:Int)=some v:=by
 have hj:j<xs.length:=(ar.mp h).1;have e:ixN xs.length (j:Int)=some j:=by
  unfold ixN;rw[if_pos (by lia),if_pos (by lia)];simp
 unfold atI;rw[e];exact h
noncomputable def ZhD(b:Expr):Prop:=∀o i,subscripted b false o i=operate [o,i] (mh o i)
def IxR(X:Cx)(r:R2):Prop:=
 ∀(value slice:Expr)(pins:Pn)(s:aC)(σ:St)(H:Hp)(x y:V)(v u:aa)(Q:VK),Inv X pins σ H s->Z0 x v->Z0 y u->r x y H Q->
  subscripted slice false v u=operate [v,u] (mh v u)->wpAny (aw X.prog X.w) X.A (subscriptTail value slice v u) (EP X pins σ Q) X.xe s
def MtR(X:Cx)(id:String)(r:V->List V->Hp->VK->Prop):Prop:=
 ∀(pins:Pn)(s:aC)(σ:St)(H:Hp)(x:V)(xs:List V)(v:aa)(us:List aa)(Q:VK),Inv X pins σ H s->Z0 x v->ZZ xs us->r x xs H Q->
  wpAny (aw X.prog X.w) X.A (call (.builtin id) (v::us)) (EP X pins σ Q) X.xe s
section
variable {X:Cx}{a:Expr}
theorem IxR.or(h:IxR X r)(h':IxR X r'):IxR X (fun x y H Q=>r x y H Q\/r' x y H Q):=by
 intro value slice pins s σ H x y v u Q I rx ry q hs;rcases q with q|q
 ·exact h value slice pins s σ H x y v u Q I rx ry q hs
 ·exact h' value slice pins s σ H x y v u Q I rx ry q hs
theorem Zse(hr:IxR X r)(ha:PE X a ta)(hb:PE X b tb)(hs:ZhD b):PE X (.Subscript a b pos) (tOp r ta tb):=by
 intro pins s σ H Q I h;exact Subscript_ (Zr7 ha hb I h fun v u s2 x y H2 I2 rx ry q=>hr a b pins s2 σ H2 x y v u Q I2 rx ry q (hs _ _))
def Zum(K:Fg):R2:=fun x y H Q=>∃p xs i v,x=.ref p/\y=.int i/\SqL K H p xs/\atI xs i=some v/\Q v H
def Zun(K:Fg):R2:=fun x y H Q=>∃p xs i v,x=.ref p/\y=.int i/\SqT K H p xs/\atI xs i=some v/\Q v H
theorem ZmA:IxR X (Zum X.K):=by
 intro value slice pins s σ H x y v u Q I rx ry h hs;obtain⟨p,xs,i,z,rfl,rfl,hq,he,q⟩:=h;cases rx;obtain⟨t,rfl⟩:=ry;obtain⟨its,r,pl,hz⟩:=I.list hq;obtain⟨j,h1,h2,h3,h4,h5⟩:=ZhC he;obtain⟨w,ew,rw'⟩:=r.get h2;have hl:=r.length;have hn:=ZfV;have fin:EP X pins σ Q w s:=⟨z,H,I,rw',q⟩;by_cases h0:0<=i
 ·have hj:i.toNat=j:=by
   rw[lX h0 h5]at h1;exact aN h1
  exact item_listR pl.isList h0 (by lia) (by rw[hj];simpa using ew) fin hs
 ·have hj:(i+(its.toArray.size:Int)).toNat=j:=by
   rw[lI (by lia) h4]at h1
   rw[ao,<-hl];exact aN h1
  exact jG (x:=w) pl.isList.typeIs slot_list_getitem.lookup
   (wpAny_getItem_list_neg (Q:=fun r s'=>r=w/\EP X pins σ Q r s') pl.isList (by lia) (by rw[ao]<;>lia) (by lia) (by rw[hj];simpa using ew) ⟨rfl,fin⟩) hs
theorem Zo2:IxR X (Zun X.K):=by
 intro value slice pins s σ H x y v u Q I rx ry h hs;obtain⟨p,xs,i,z,rfl,rfl,hq,he,q⟩:=h;cases rx;obtain⟨t,rfl⟩:=ry;obtain⟨its,r,pl,hz⟩:=I.tuple hq;obtain⟨j,h1,h2,h3,h4,h5⟩:=ZhC he;obtain⟨w,ew,rw'⟩:=r.get h2;have hl:=r.length;have hn:=ZfV;have fin:EP X pins σ Q w s:=⟨z,H,I,rw',q⟩;exact jG (x:=w) pl.typeIs slot_tuple_getitem.lookup
  (getItem_tuple (j:=j) (Q:=fun r s'=>r=w/\EP X pins σ Q r s') pl (by lia) (by lia) (by rw[ao,<-hl];exact h1) (by simpa using ew) ⟨rfl,fin⟩) hs
theorem Zg1(its:List aa)(n j:Nat)(u:aa):bg (·.setIfInBounds j u) {cls:=.type "list",data:=.seq its.toArray n}={cls:=.type "list",data:=.seq (its.set j u).toArray n}:=by
 simp[bg]
theorem Inv.lst{pins:Pn}{σ:St}{H:Hp}{s:aC}{p:Addr}{xs:List V}(I:Inv X pins σ H s)(h:H p=some (.lst xs)):∃(its:List aa) (n:Nat),ZZ xs its/\s.heap.get? p=some {cls:=.type "list",data:=.seq its.toArray n}/\xs.length<=sizeLine:=by
 obtain⟨z,its,n,r,e⟩:=I.hok p _ h;exact⟨its,n,r,e,z⟩
theorem Inv.lstUpd{its:List aa}(I:Inv X pins σ H s)(h:H p=some (.lst xs))(ho:s.heap.get? p=some {cls:=.type "list",data:=.seq its.toArray n})(hf:f {cls:=.type "list",data:=.seq its.toArray n}={cls:=.type "list",data:=.seq its'.toArray n'})(r:ZZ ys its')(hz:ys.length<=sizeLine)(t:Nat):Inv X pins σ (upd H p (.lst ys)) {s with heap:=s.heap.update p f,toks:=t}:=by
 have e:(s.heap.update p f).get? p=some {cls:=.type "list",data:=.seq its'.toArray n'}:=by
  rw[bh f ho (by rw[hf]<;>rfl),hf]
 refine I.write (x:=p) (e:=p) (by rw[h];trivial) (.inl rfl) (fun b u hb q=>(aB _ _ (bW hb)).trans q) ⟨_,e⟩ ?_
 exact⟨hz,its',n',r,e⟩
def rSetL:V->V->V->Hp->(Hp->Prop)->Prop:=fun o i v H Q=>∃p xs k j,o=.ref p/\i=.int k/\H p=some (.lst xs)/\ixN xs.length k=some j/\Q (upd H p (.lst (xs.set j v)))
theorem Zkf:Zui X rSetL:=by
 intro pins s σ H o i v ov iv u Q I ro ri rv h;obtain⟨p,xs,k,j,rfl,rfl,hp,hj,q⟩:=h;cases ro;obtain⟨t,rfl⟩:=ri;obtain⟨its,n,r,ho,hz⟩:=I.lst hp;obtain⟨h1,h2,h3,h4⟩:=ZhB hj;have hl:=r.length;have hn:=ZfV;have I':Inv X pins σ (upd H p (.lst (xs.set j v))) {s with heap:=s.heap.update p (bg (·.setIfInBounds j u))}:=
  I.lstUpd hp ho (Zg1 its n j u) (r.set rv j) (by rw[dh];exact hz) s.toks
 by_cases h0:0<=k
 ·have hk:k.toNat=j:=by
   rw[lX h0 h4]at h1;exact aN h1
  exact PySem.W.ki_setAt ho h0 (by lia) (by rw[ao,<-hl];exact h4) (by rw[hk];exact⟨_,I',q⟩)
 ·have hk:(k+(its.toArray.size:Int)).toNat=j:=by
   rw[lI (by lia) h3]at h1
   rw[ao,<-hl];exact aN h1
  exact PySem.W.ki_setBack ho (by lia) (by rw[ao,<-hl];exact h3) (by lia) (by rw[hk];exact⟨_,I',q⟩)
theorem Zer(lo hi:Option Int)(n:Nat):(gk lo hi none n).1=((HT.sIx n 0 lo:Nat):Int)/\(gk lo hi none n).2.1=((HT.sIx n n hi:Nat):Int)/\(gk lo hi none n).2.2=1:=by
 refine⟨?_,?_,rfl⟩
 ·cases lo with
  |none=>simp[gk,HT.sIx]
  |some i=>
   simp only[gk,HT.sIx,Option.getD_none,show(1:Int)>0 by decide,if_true]
   by_cases h:i<0
   ·simp only[h,if_true]<;>lia
   ·simp only[h,if_false]<;>lia
 ·cases hi with
  |none=>simp[gk,HT.sIx]
  |some i=>
   simp only[gk,HT.sIx,Option.getD_none,show(1:Int)>0 by decide,if_true]
   by_cases h:i<0
   ·simp only[h,if_true]<;>lia
   ·simp only[h,if_false]<;>lia
theorem ZdL(its:List aa)(lo hi:Option Int):slicePick its.toArray lo hi none=((its.drop (HT.sIx its.length 0 lo)).take (HT.sIx its.length its.length hi-HT.sIx its.length 0 lo)).toArray:=by
 obtain⟨h1,h2,h3⟩:=Zer lo hi its.toArray.size;unfold slicePick;rw[h1,h2,h3];simp only[sliceRange_one,pick_run,ao]<;>rfl
def Zvw(K:Fg):V->Option Int->Option Int->Hp->VK->Prop:=fun x lo hi H Q=>∃a xs,x=.ref a/\SqL K H a xs/\∀p,H p=none->Q (.ref p) (upd H p (.lst (Zlm xs lo hi)))
theorem ZmB:SlR X (Zvw X.K):=by
 intro pins s σ H x v vl vu lo hi sl Q I rx hs pl pu h;obtain⟨a,xs,rfl,hx,q⟩:=h;cases rx;obtain⟨its,r,ht,hz⟩:=I.list hx;have hlen:=r.length;refine⟨"list",_,slot_list_getitem.lookup,ht.isList.typeIs,?_⟩;refine wpAny_getItem_list_slice ht.isList hs pl pu .none (by simp) ?_ (by rw[ao]<;>lia)
 rw[ZdL,<-hlen];refine⟨.ref s.heap.objs.size,_,I.laid (t':=s.toks) (o:=.lst (Zlm xs lo hi)) (fun b ob q=>Hq _ q) (ac _) ?_,rfl,q _ (I.hok.fresh (ac _))⟩;exact⟨aU (ZcN xs lo hi) hz,_,0,(r.drop (HT.sIx xs.length 0 lo)).take (HT.sIx xs.length xs.length hi-HT.sIx xs.length 0 lo),az _ rfl⟩
theorem Zn:ZbM X (.builtin "len") (fun xs H Q=>∃p ys,xs=[.ref p]/\(SqL X.K H p ys\/SqT X.K H p ys)/\Q (.int ys.length) H):=by
 intro pins s σ H xs us Q I r h;obtain⟨p,ys,rfl,hq,q⟩:=h;obtain⟨u,rfl,rx⟩:=ZcM r;cases rx;have hn:=ZfV;rcases hq with hq|hq
 ·obtain⟨its,r',pl,hz⟩:=I.list hq;have hlen:=r'.length;exact Calls.call_len_list pl.isList (by simp only[ao]<;>lia) ⟨.int ys.length,H,I.tok _,⟨s.toks+1,by rw[ao,hlen]⟩,q⟩
 ·obtain⟨its,r',pl,hz⟩:=I.tuple hq;have hlen:=r'.length;exact len_tuple pl (by simp only[ao]<;>lia) ⟨.int ys.length,H,I.tok _,⟨s.toks+1,by rw[ao,hlen]⟩,q⟩
theorem Zcs:ZbM X (.type "list") (fun xs H Q=>∃p ys,xs=[.ref p]/\(SqL X.K H p ys\/SqT X.K H p ys)/\∀l,H l=none->Q (.ref l) (upd H l (.lst ys))):=by
 intro pins s σ H xs us Q I r h;obtain⟨p,ys,rfl,hq,q⟩:=h;obtain⟨u,rfl,rx⟩:=ZcM r;cases rx;have fin:∀(its:List aa),ZZ ys its->ys.length<=sizeLine->∀(h':Heap)(c':Nat),(∀b o',s.heap.get? b=some o'->h'.get? b=some o')->
   h'.get? s.heap.objs.size=some {cls:=.type "list",dict:=none,data:=.seq its.toArray c',slots:= #[]}->EP X pins σ Q (.ref s.heap.objs.size) {s with heap:=h'}:=fun its r' hz h' c' kp e=>
  ⟨.ref s.heap.objs.size,_,I.laid (t':=s.toks) kp (ac _) (show ZaS X.prog X.w _ h' _ (.lst ys)from⟨hz,its,c',r',e⟩),rfl,q _ (I.hok.fresh (ac _))⟩
 rcases hq with hq|hq
 ·obtain⟨its,r',pl,hz⟩:=I.list hq;have hlen:=r'.length;obtain⟨o,ho,hc,n,hd⟩:=pl.isList;exact call_list_seq p (.inl rfl) ho hc hd (fun h' c' kp e=>fin its r' hz h' c' kp e) (by simp only[ao]<;>lia)
 ·obtain⟨its,r',pl,hz⟩:=I.tuple hq;have hlen:=r'.length;obtain⟨o,ho,hc,n,hd⟩:=pl;exact call_list_seq p (.inr rfl) ho hc hd (fun h' c' kp e=>fin its r' hz h' c' kp e) (by simp only[ao]<;>lia)
def tyV(K:Fg)(T:String)(x:V)(H:Hp):Prop:=match x with
 |.str _=>T="str"
 |.int _=>T="int"
 |.ref p=>(T="list"/\∃xs,SqL K H p xs)\/(T="tuple"/\∃o,K.lookup p=some o/\o.cls=.type "tuple"/\o.dict=none)\/
   (T="dict"/\((∃kvs,H p=some (.dK kvs))\/∃kvs,H p=some (.dT kvs)))\/(T="set"/\∃S n,H p=some (.set S n))
 |_=>False
theorem Zo3(I:Inv X pins σ H s)(r:Z0 x v)(ty:tyV X.K T x H):s.TypeIs v T/\∀a,v=.ref a->∃ob,s.heap.get? a=some ob/\ob.dict=none:=by
 cases x with
 |str z=>
  obtain⟨t,rfl⟩:=r;cases(show T="str" from ty);exact⟨typeIs_str s z t,fun _ e=>nomatch e⟩
 |int i=>
  obtain⟨t,rfl⟩:=r;cases(show T="int" from ty);exact⟨lD s i t,fun _ e=>nomatch e⟩
 |ref p=>
  cases r;rcases ty with⟨rfl,xs,hq⟩|⟨rfl,o,hk,hc,hd⟩|⟨rfl,hk⟩|⟨rfl,S,n,hk⟩
  ·obtain⟨its,_,pl,_⟩:=I.list hq;refine⟨pl.isList.typeIs,fun a e=>?_⟩;cases e;obtain⟨o,n,e,c,hd,_⟩:=pl;exact⟨o,e,hd⟩
  ·refine⟨⟨o,I.kIn p o hk,hc⟩,fun a e=>?_⟩;cases e;exact⟨o,I.kIn _ o hk,hd⟩
  ·have z:∃o,s.heap.get? p=some o/\o.ExactDict:=by
    rcases hk with⟨kvs,hk⟩|⟨kvs,hk⟩
    ·obtain⟨_,_,_,_,o,_,_,e,ex,_⟩:=I.hok p _ hk;exact⟨o,e,ex⟩
    ·obtain⟨_,_,_,_,o,_,_,e,ex,_⟩:=I.hok p _ hk;exact⟨o,e,ex⟩
   obtain⟨o,e,ex⟩:=z;refine⟨⟨o,e,ex.1⟩,fun a e2=>?_⟩;cases e2;exact⟨o,e,ex.2.1⟩
  ·obtain⟨o,_,_,_,e,ex,_⟩:=I.hok p _ hk;refine⟨⟨o,e,ex.1⟩,fun a e2=>?_⟩;cases e2;exact⟨o,e,ex.2.1⟩
 |_=>exact fj ty
def tBM(K:Fg)(T:String)(r:V->List V->Hp->VK->Prop)(to:TE)(t:TA):TE:=fun σ H Q=>to σ H fun x H1=>tyV K T x H1/\t σ H1 fun xs H2=>r x xs H2 Q
variable {name:Str}{id:String}
theorem Zsf(pa:PlainAttrs T)(slot:Slot T name id)(hty:typeOf (.builtin id)=pure (.type "method_descriptor"))(hm:MtR X id r)(ho:PE X o to)(ha:PA X (e::es) t)(hbase:autoParam (gX o name X.env (eval o X.env)=eval o X.env) Qrf._auto_1)
  (hfew:((cN cpos (av (e::es) X.env)).all (fun x=> !x.1)&&(iK cpos (fk [] X.env)).all (fun x=>x.1.isSome) && decide ((e::es).length+([]:List io).length+(if([]:List io).isEmpty then 0 else 1)<30))=true:=by rfl)
  (hline:(apos.endLine==cpos.line)=true:=by rfl) (hs:av (e::es) X.env=(false,eval e X.env)::av es X.env:=by rfl) (hplain:(cN cpos (av es X.env)).any (·.1)=false:=by rfl):
  PE X (.Call (.Attribute o name apos) (e::es) [] cpos) (tBM X.K T r to t):=by
 intro pins s σ H Q I h;refine wpAny_Call_method_late hbase hfew hline rfl (thn (ho pins s σ H _ I h) fun v s1 hz=>?_);obtain⟨x,H1,I1,r1,ty,q1⟩:=hz;obtain⟨h1,h2⟩:=Zo3 I1 r1 ty;refine⟨T,id,pa,slot,hty,h1,h2,?_⟩;have hA:=ha cpos pins s1 σ H1 _ I1 q1;rw[hs]at hA ⊢;refine Calls.callWith_builtin (by show(false||(cN cpos (av es X.env)).any (·.1))=false;rw[hplain]<;>rfl) (Calls.evalArgs_plain ?_)
 exact thn hA fun us s2 ⟨vs,H2,I2,r2,q2⟩=>hm pins s2 σ H2 x vs v us Q I2 r1 r2 q2
end
def MtM(X:Cx)(id:String)(r:V->List V->Hp->VK->Prop):Prop:=
 ∀(pins:Pn)(s:aC)(σ:St)(H:Hp)(x:V)(xs:List V)(v:aa)(us:List aa)(Q:VK),Inv X pins σ H s->Z0 x v->ZZ xs us->r x xs H Q->
  wpAny (aw X.prog X.w) X.A (call (.builtin id) (v::us)) (EP X pins σ Q) X.xe s
theorem ZZ.one:∀{x:V}{us:List aa},ZZ [x] us->∃u,us=[u]/\Z0 x u:=by
 intro _ _ h
 cases h with|cons r t=>cases t;exact ⟨_,rfl,r⟩
theorem Inv.lset{its:List aa}(I:Inv X pins σ H s)(hH:H l=some (.lst xs))(e:s.heap.get? l=some {cls:=.type "list",data:=.seq its.toArray n})(hf:f its.toArray=its'.toArray)(hv:ZZ ys its')(hz:ys.length<=sizeLine):Inv X pins σ (upd H l (.lst ys)) {s with heap:=s.heap.update l (bg f),toks:=t'}:=by
 have q:=PySem.IsL.update e f;rw[hf]at q;refine I.write (x:=l) (e:=l) (by rw[hH];exact trivial) (.inl rfl) (fun b' u hb hu=>(aB s.heap (bg f) (bW hb)).trans hu) ⟨_,q⟩ ?_
 exact⟨hz,its',_,hv,q⟩
theorem Inv.lnew(I:Inv X pins σ H s)(hv:ZZ ys its)(hz:ys.length<=sizeLine):Inv X pins σ (upd H s.heap.objs.size (.lst ys)) {s with heap:=s.heap.push {cls:=.type "list",data:=.seq its.toArray},toks:=t'}:=
 I.laid (fun _ _ q=>Hq _ q) (ac _) ⟨hz,its,0,hv,az _ rfl⟩
theorem Inv.fresh(I:Inv X pins σ H s):H s.heap.objs.size=none:=I.hok.fresh (ac _)
theorem Inv.lstM(I:Inv X pins σ H s)(hH:H l=some (.lst xs)):xs.length<=sizeLine/\∃(its:List aa) (n:Nat),ZZ xs its/\xs.length=its.length/\s.heap.get? l=some {cls:=.type "list",data:=.seq its.toArray n}:=by
 obtain⟨z,its,n,r,e⟩:=I.hok l _ hH;exact⟨z,its,n,r,r.length,e⟩
theorem Zkg(h:n<=sizeLine):fU n=false:=by
 unfold fU;exact decide_eq_false (by lia)
def rAppend:V->List V->Hp->VK->Prop:=fun x vs H Q=>∃l xs y,x=.ref l/\vs=[y]/\H l=some (.lst xs)/\xs.length<sizeLine/\Q .non (upd H l (.lst (xs++[y])))
theorem Zes:MtM X "list.append" rAppend:=by
 intro pins s σ H x vs v us Q I rx rv h;obtain⟨l,xs,y,rfl,rfl,hH,hz,q⟩:=h;cases rx;obtain⟨u,rfl,ru⟩:=rv.one;obtain⟨z,its,n,r,hl,e⟩:=I.lstM hH;refine call_meets F.slot_list_append ⟨_,e,rfl⟩ F.entry_list_append (F.args_list_append_2 _ _) (PySem.list_append l its.toArray n u (by rw[ao];lia)) ⟨e,?_⟩
 refine⟨.non,_,I.lset (its':=its++[u]) hH e (by simp) (r.append (.cons ru .nil)) ?_,rfl,q⟩
 rw[aG,eX];lia
def rExtend:V->List V->Hp->VK->Prop:=fun x vs H Q=>∃l b xs zs,x=.ref l/\vs=[.ref b]/\H l=some (.lst xs)/\H b=some (.lst zs)/\xs.length+zs.length<=sizeLine/\Q .non (upd H l (.lst (xs++zs)))
theorem Zo4:MtM X "list.extend" rExtend:=by
 intro pins s σ H x vs v us Q I rx rv h;obtain⟨l,b,xs,zs,rfl,rfl,hH,hB,hz,q⟩:=h;cases rx;obtain⟨u,rfl,ru⟩:=rv.one;cases ru;obtain⟨z,its,n,r,hl,e⟩:=I.lstM hH;obtain⟨z2,its2,n2,r2,hl2,e2⟩:=I.lstM hB;have hsz:its.toArray.size+its2.toArray.size<=sizeLine:=by rw[ao,ao];lia
 have hlong:¬(!its.toArray.isEmpty&&fU (its.toArray.size+its2.toArray.size))=true:=by
  rw[Zkg hsz,Bool.and_false];exact bT
 refine call_meets F.slot_list_extend ⟨_,e,rfl⟩ F.entry_list_extend (F.args_list_extend_2 _ _)
  (AutoSeq1.list_extend_list_list_0 l its.toArray n b its2.toArray n2 hlong (by rw[ao];lia) (by lia)) ⟨e,e2,?_⟩
 refine⟨.non,_,I.lset (its':=its++its2) hH e (by simp) (r.append r2) ?_,rfl,q⟩
 rw[aG];lia
def rCat:R2:=fun x y H Q=>∃l b xs zs,x=.ref l/\y=.ref b/\H l=some (.lst xs)/\H b=some (.lst zs)/\xs.length+zs.length<=sizeLine/\∀p,H p=none->Q (.ref p) (upd H p (.lst (xs++zs)))
theorem Zo5:OpR X (eM .Add) rCat:=by
 intro pins s σ H x y v u Q I rx ry h;obtain⟨l,b,xs,zs,rfl,rfl,hH,hB,hz,q⟩:=h;cases rx;cases ry;obtain⟨z,its,n,r,hl,e⟩:=I.lstM hH;obtain⟨z2,its2,n2,r2,hl2,e2⟩:=I.lstM hB;refine PySem.P.add_list e e2 ?_ (by rw[ao,ao];lia)
 have ea:its.toArray++its2.toArray=(its++its2).toArray:=by simp
 rw[ea];exact⟨.ref _,_,I.lnew (t':=s.toks) (r.append r2) (by rw[aG];lia),rfl,q _ I.fresh⟩
end L2
namespace Att
open PySem.W PySem.Calls PyProof.Rows
theorem ZcO:∀(ns:List Int)(vs:List aa),WellAll P h vs (ns.map WData.int)->gr vs ns:=by
 intro ns
 induction ns with
 |nil=>
  intro vs w;rw[im]at w;cases w;exact .nil
 |cons n ns ih=>
  intro vs w;rw[aP]at w;cases w with
  |cons a b=>
   cases a;exact .cons _ _ (ih _ b)
theorem ZhE{l:OpenLaw}(hn:l.most=some n)(hpre:l.row.toRowW.claim.pre args=true)(hwl:WellAll P h vals args):∃a vs ns,vals=[aM a]/\args=[WData.list (ns.map WData.int)]/\h.get? a=some {cls:=.type "list",data:=.seq vs.toArray}/\gr vs ns/\ns.length<=n:=by
 have hsh:WShape.hasAll [] args [.list .int]=true:=(pre_splitW hpre).1;have hc:l.pre.holds [] {args:=args}=true:=(pre_splitW hpre).2;obtain⟨d,r,rfl,h1,h2⟩:=hasAllW_cons hsh;obtain rfl:=hasAllW_nil h2;obtain⟨xs,rfl,h3⟩:=hasW_list h1;obtain⟨ns,rfl⟩:=items_int h3;have hlen:ns.length<=n:=by
  unfold OpenLaw.pre at hc;have h4:(WTm.not (.lt (.lit (.int (n:Int))) (.len (.arg 0)))).holds [] {args:=[.list (ns.map .int)]}=true:=by
   have h4:=(holds_andW hc).1;rw[hn]at h4;exact h4
  have h5:=condW_of h4 (w_not (w_lt w_lit (w_len_list (w_arg rfl))));rw[ay]at h5;refine jr fun q=>?_;have q':(n:Int)<((ns.length:Nat):Int):=by lia
  first
   | (rw[decide_eq_true q']at h5;exact absurd h5 (by decide))
   | (simp at h5;lia)
 cases hwl with
 |cons w1 w2=>
  cases w2;cases w1 with
  |list ho hall=>exact⟨_,_,ns,rfl,rfl,ho,ZcO ns _ hall,hlen⟩
theorem ZhF(l:OpenLaw)(args:List WData):l.row.toRowW.claim.post args (.bool true) args=true:=
 postW_of (r:=l.row.toRowW) (X:=(true==true))
  (show WShape.has [] (.bool true) .bool=true by first|rfl|decide|simp[WShape.has,WShape.arms,WShape.armsAll])
  (show(WTm.eq .res (.lit (.bool true))).value [] {args:=args,res:=some (.bool true),after:=args}=some (.bool (true==true))from w_eq_bool (w_res rfl) w_lit) rfl
theorem Zfj{l:OpenLaw}(hn:l.most=some n)(hdf:d.params.defaults=[])(call:∀(w:cL)(s₀ s₁:aC)(mg mb:Str->Option aa)(fa:Addr)(o:Obj)(pm cd doc:aa)(a:Addr)(vs:List aa)(ns:List Int),Ground q loose [] XP w s₀ mg mb s₁.heap->YP w s₁.heap->s₁.heap.get? fa=some o->o.data=.func (docDef d.name d.params d.body d.scope pm cd doc)->s₁.heap.CodeRec cd d.name->mg d.name=some (.ref fa)->s₁.heap.get? a=some {cls:=.type "list",data:=.seq vs.toArray}->gr vs ns->ns.length<=n->s₁.gens= #[]->eY (aw l.prog w) kO (.call (.ref fa) ⟨[.ref a],[]⟩) (fun r s'=>r=.ok (.ret (.bool true))/\OldK s₁.heap s'.heap/\s'.os=s₁.os/\gW s'.gens) s₁):WalkO q loose XP YP l.row.toRowW d [] (fun f vs=>PySem.call f vs):=by
 intro w s₀ s₁ mg mb G Y fa o pm cd doc dV kV ho hd hcd hD hmg hg args vals as hpre hlay hrd hwl hlo;obtain rfl:dV=.none:=Dflts.none hD hdf;obtain rfl:kV=.none:=Dflts.noKw hD;obtain⟨a,vs,ns,rfl,rfl,hobj,hints,hlen⟩:=ZhE hn hpre hwl;refine enter_call (lH (call w s₀ s₁ mg mb fa o pm cd doc a vs ns G Y ho (fd_plain hd) hcd hmg hobj hints hlen hg) fun r s' hq=>?_);obtain⟨rfl,h2,h3,h4⟩:=hq;exact⟨.inl ⟨.bool true,.bool true,[],rfl,fun _=>rfl,.bool true,ZhF l _,fun _=>⟨jc.nil,fun _ hm=>(nomatch hm)⟩⟩,h2,h3,h4⟩
end Att
namespace L2
open PyProof.Rows
theorem Zet:∀{vs:List aa}{ns:List Int},gr vs ns->ZZ (ns.map V.int) vs
 |_,_,.nil=>.nil
 |_,_,.cons n t h=>.cons ⟨t,rfl⟩ (Zet h)
noncomputable def Zbh(s:Stmt):Arguments:=match s with
 |.FunctionDef _ a _ _ _ _ _ _ _ _=>a
 |_=>{posonlyargs:=[],args:=[],vararg:=none,kwonlyargs:=[],kw_defaults:=[],kwarg:=none,defaults:=[]}
noncomputable def Zap(s:Stmt):List Stmt:=match s with
 |.FunctionDef _ _ b _ _ _ _ _ _ _=>b
 |_=>[]
noncomputable def Zt(s:Stmt):gN:=match s with
 |.FunctionDef _ _ _ _ _ _ sc _ _ _=>sc
 |_=>{kind:=.function,names:=[],isGenerator:=false,isCoroutine:=false}
noncomputable abbrev E0:XK:=fun _ _ _=>False
structure Fun(K:Fg) (x qual:Str) (st:Stmt) (f:Addr) (fd:gZ):Prop where
 ex:∃(oc:aa) (od:Option Addr) (kV doc pm:aa) (an:Option Addr) (cdv ct:aa) (osl:Array (Option aa)),
  fd=PySem.W.fnOf x qual (Zbh st) (Zap st) (Zt st) .none kV doc pm an cdv ct/\K.lookup f=some ⟨oc,od,.func fd,osl⟩/\PySem.W.codeIn K cdv qual=true
 kp:PySem.W.keepIn K (.ref f)=true
section
variable {K:Fg}
theorem Fun.binds{st:Stmt}(F:Fun K x qual st f fd)(h:∀(kV doc pm:aa)(an:Option Addr)(cdv ct:aa)(us:List aa),us.length=ps.length->hG (PySem.W.fnOf x qual (Zbh st) (Zap st) (Zt st) .none kV doc pm an cdv ct) ⟨us,[]⟩=pure (ps.zip us)):Zfi K fd ps []:=by
 obtain⟨oc,od,kV,doc,pm,an,cdv,ct,osl,rfl,lk,hcd⟩:=F.ex;exact .all (h kV doc pm an cdv ct)
theorem Zo6{st:Stmt}{kV:aa}(l:K.lookup f=some ⟨oc,od,.func (PySem.W.fnOf x qual (Zbh st) (Zap st) (Zt st) .none kV doc pm an cdv ct),osl⟩)(c:PySem.W.codeIn K cdv qual=true)(k:PySem.W.keepIn K (.ref f)=true):Fun K x qual st f (PySem.W.fnOf x qual (Zbh st) (Zap st) (Zt st) .none kV doc pm an cdv ct):=⟨⟨oc,od,kV,doc,pm,an,cdv,ct,osl,rfl,l,c⟩,k⟩
end
theorem ZhG(h:n<=1000):n<sizeLine:=gf h (by decide)
theorem pv(i:Nat)(hN:autoParam (X.N[i]?=some x) Qrf._auto_1)(hv:Vis X.env.scope x:=by first|exact dM rfl|exact jH (dM rfl)|exact jH (jH rfl))(hd:autoParam ((x==("__debug__":Str))=false) Qde._auto_1)(hcd:autoParam ((x==("__classdict__":Str))=false) Qde._auto_1):PE X (.Name x pos) (Zuh i):=Zlj hN hv hd hcd
theorem ZmC{A:Prop}(h:B):if false=true then A else B:=by
 rw[if_neg bT];exact h
theorem ZmD{A:Prop}(h:A):if true=true then A else B:=by
 rw[if_pos rfl];exact h
end L2
namespace DL
open PyProof.Rows L2
structure Rw where
 n:String
 i:Nat
 f:Nat
 m:String
 t:Nat
 u:Nat
 ln:Nat
 na:Nat
 b:Bool
 v:Nat
noncomputable def zz1(P:kc)(s:String)(n:Nat)(v:aa):kP:={hash:=PyData.keyHash P (a7 s),key:=kJ (a7 s) n,val:=v}
noncomputable def zz3(s:String)(n:Nat):aa:=kJ (a7 s) n
noncomputable def zz4(n:Int):aa:=jp n 0
noncomputable def zz6(b:Bool)(n:Nat):aa:=if b then .ref n else .none
def Rw.fo(p:Nat->Stmt)(r:Rw):Obj:=⟨.type "function",none,.func (PySem.W.fnOf r.n r.n (Zbh (p r.i)) (Zap (p r.i)) (Zt (p r.i)) .none .none .none (.str r.m r.t) none (.ref (r.f-1)) .none),#[]⟩
def Rw.co(r:Rw):Obj:={cls:=bF "code",data:=j8 #[zz3 r.n r.u,zz3 r.n (r.u+1),zz3 "/claim/cut.py" (r.u+2),zz4 r.ln,zz4 r.na,zz4 0,zz4 0,zz4 3,.ref (r.f-(if r.b then 6 else 4)),.bool true,zz4 181,.ref (r.f-(if r.b then 5 else 3)),.none,zz6 r.b (r.f-4),zz6 r.b (r.f-3),.ref (r.f-2),zz4 r.v,zz4 r.ln,zz3 "/claim/cut.py" (r.v+1)]}
def Rw.de(P:kc)(r:Rw):kP:=zz1 P r.n (r.v+2) (.ref r.f)
def Rw.en(p:Nat->Stmt)(r:Rw):Fg:=[(r.f,r.fo p),(r.f-1,r.co)]
structure Cw where
 n:String
 f:Nat
 t:Nat
 ln:Nat
def Cw.cls(r:Cw):Obj:={cls:=bF "type",data:=Data.cls {name:=a7 r.n,bases:=[aM 24],mro:=[aM r.f,aM 24,bF "ValueError",bF "Exception",bF "BaseException",bF "object"],ns:=r.f-1,qualname:=a7 r.n},slots:= #[some (aM (r.f-9)),none,some (zz3 r.n r.t),some (zz3 r.n (r.t+8)),some (jd "ValueError.__new__"),some (ly true)]}
def Cw.ns(P:kc)(r:Cw):Obj:={cls:=bF "dict",data:=kR #[zz1 P "__module__" (r.t+7) (zz3 "rayround.errors" 187),zz1 P "__firstlineno__" (r.t+11) (jp r.ln (r.t+10)),zz1 P "__static_attributes__" (r.t+12) (aM (r.f-2)),zz1 P "__doc__" (r.t+13) a9] 2}
def Cw.de(P:kc)(r:Cw):kP:=zz1 P r.n (r.t+15) (.ref r.f)
def Cw.en(P:kc)(r:Cw):Fg:=[(r.f,r.cls),(r.f-1,r.ns P)]
end DL
namespace HD
open PySem.W PyProof.Rows
noncomputable def ZrJ(thr:iL->Bool)(stp:eG->iL->Option (eG×iL))(n:Nat):eG->iL->Option eG:=
 Nat.rec (motive:=fun _=>eG->iL->Option eG) (fun _ _=>none) (fun _ ih s t=>Bool.rec (motive:=fun _=>Option eG) (Option.rec (motive:=fun _=>Option eG) none (fun r=>ih r.1 r.2) (stp s t)) (some s) (thr t)) n
noncomputable def Zkh(ok:iL->Bool)(stp:eG->iL->Option (eG×iL))(s:eG)(t:iL):Option (eG×iL):=Bool.rec (motive:=fun _=>Option (eG×iL)) none (stp s t) (ok t)
section
variable {tb:String->Option cV}{p:cw}{w:cL}{n₀:Nat}{ann:Option aa}
theorem Zln:∀{n:Nat}{s s':eG}{t:iL},ZrJ lJ (Zkh (ke n₀ ann) (lK (jI tb) p w)) n s t=some s'->topRun tb p w n₀ ann n s.abs t=some s'.abs
 |0,s,s',t,h=>by cases h
 |n+1,s,s',t,h=>by
  unfold topRun
  change Bool.rec (motive:=fun _=>Option eG) (Option.rec (motive:=fun _=>Option eG) none (fun r=>ZrJ lJ (Zkh (ke n₀ ann) (lK (jI tb) p w)) n r.1 r.2) (Zkh (ke n₀ ann) (lK (jI tb) p w) s t)) (some s) (lJ t)=some s' at h
  cases ht:lJ t with
  |true=>
   rw[ht]at h;have h':some s=some s':=h;cases h';rfl
  |false=>
   rw[ht]at h;cases hk:ke n₀ ann t with
   |false=>
    have e:Zkh (ke n₀ ann) (lK (jI tb) p w) s t=none:=by unfold Zkh;rw[hk]
    rw[e]at h;cases h
   |true=>
    have e:Zkh (ke n₀ ann) (lK (jI tb) p w) s t=lK (jI tb) p w s t:=by unfold Zkh;rw[hk]
    rw[e]at h;cases hs:lK (jI tb) p w s t with
    |none=>rw[hs]at h;cases h
    |some r=>
     obtain⟨s2,t2⟩:=r;rw[hs]at h
     have:=stepT_spec hs
     rw[this];exact Zln (n:=n) h
end
noncomputable def T0(w:cL)(os:OsState):eG:=
 ⟨[boot_o_0,boot_o_1,boot_o_2,boot_o_3,boot_o_4,boot_o_5,boot_o_6,boot_o_7,boot_o_8,boot_o_9,boot_o_10].foldl (fun(r:Nat×BT) o=>(r.1+1,r.2.ins r.1 (o w.params))) (0,.nil) |>.2,11,(dR w.params).life,#[],lE,lU,os⟩
theorem Zo7(w:cL)(os:OsState):(T0 w os).abs=⟨dR w.params,#[],lE,lU,os⟩:=by kernel_rfl
theorem ZmE:a7 "__annotations__"=⟨#[95,95,97,110,110,111,116,97,116,105,111,110,115,95,95]⟩:=by decide +kernel
theorem ZhH{Yf:aC->α}{Ya:cL->α}(e:opening p=plainProg p.main.scope.names)(hN:Nat.ble 600 N=true)(f:∀s,fenceModules? p s=some s)(le:Nat.ble M N=true)(Zsg:∀(w:cL)(os:OsState),(ZrJ lJ (Zkh (ke 11 (some (.ref 6))) (lK (jI kW) p w)) M (T0 w os) (topStub p)).map (fun s=>((staticsOk (eO p.main.body) (dR w.params) s.abs.heap&&namesBound p s.abs.heap&&gensDone s.abs&&laidKept (dR w.params) s.abs.heap),openSeen q loose (eO p.main.body) Xt true s.abs,Yf s.abs))=some (true,openGood q loose,Ya w)):LeftO p q loose Xt Yf Ya N:=fun w=>by
 obtain⟨⟨h,gs,d,k,os⟩,e1,e2⟩:=gu.mp (boot_open e hN f w);obtain⟨rfl,rfl,rfl,rfl⟩:h=dR w.params/\gs=Array.mk []/\d=lE/\k=lU:=by simpa using e2
 obtain⟨s',r1,r2⟩:=gu.mp (Zsg w os);obtain⟨l1,l2,l3⟩:_/\_/\_:=by simpa only[lf]using r2
 have r:=Zln r1;rw[Zo7]at r;have r:=topRun_mono (N-M) _ _ _ _ r;rw[show M+(N-M)=N by have:=Nat.le_of_ble_eq_true le;lia]at r
 have z1:((dR w.params).isNs aI&&(Array.mk []:Array GenState).size==0)=true:=by kernel_rfl
 have z2:(dR w.params).objs.size=11:=rfl;have z3:(dR w.params).nsMap aI "__annotations__"=some (.ref 6):=by
  rw[ZmE]
  kernel_rfl
 have t:topFrom kW p w N ⟨dR w.params,Array.mk [],lE,lU,os⟩=some s'.abs:=by
  unfold topFrom;dsimp only;rw[z1,z2,z3,r];show(match staticsOk (eO p.main.body) (dR w.params) s'.abs.heap&&namesBound p s'.abs.heap&&gensDone s'.abs&&laidKept (dR w.params) s'.abs.heap with|true=>_|false=>_)=_
  rw[l1]
 unfold openEnds;rw[e1];show(topFrom kW p w N _).map _=_;rw[t];exact congrArg some (gq l2 l3)
end HD
namespace HD
open PySem.W
theorem Zsh:@ke=@PySem.W.Fast.tw6613529449190102663:=PySem.W.Fast.te6613529449190102663
theorem ZmF:@lK=@PySem.W.Fast.tw10156331382660048174:=PySem.W.Fast.te10156331382660048174
theorem Zo8:@jI=@PySem.W.Fast.tw11892475500146522536:=PySem.W.Fast.te11892475500146522536
theorem Zo9:@kW=@PySem.W.Fast.tw14364793385576792824:=PySem.W.Fast.te14364793385576792824
theorem ZmG:@openSeen=@PySem.W.Fast.tw4187177175401517315:=PySem.W.Fast.te4187177175401517315
theorem Zpa:@eO=@PySem.W.Fast.tw5923862056798008813:=PySem.W.Fast.te5923862056798008813
end HD
namespace K55
open L2 DL
noncomputable def top(i:Nat):Stmt:=PySem.Challenge.pw_rayround_k55_heights_parted.main.body.getD i (.Pass ⟨0,0,0,0⟩)
def dS(i:Nat):List (Str×cG):=(Zt (top i)).names
noncomputable abbrev rw0(n:String)(i f u ln na:Nat)(b:Bool)(v:Nat):Rw:=⟨n,i,f,"rayround.wholes",255,u,ln,na,b,v⟩
noncomputable abbrev rw1(n:String)(i f u ln na:Nat)(b:Bool)(v:Nat):Rw:=⟨n,i,f,"rayround.pairs",274,u,ln,na,b,v⟩
noncomputable abbrev rw2(n:String)(i f u ln na:Nat)(b:Bool)(v:Nat):Rw:=⟨n,i,f,"rayround.rounds",284,u,ln,na,b,v⟩
noncomputable abbrev rw3(n:String)(i f u ln na:Nat)(b:Bool)(v:Nat):Rw:=⟨n,i,f,"rayround.ratios",311,u,ln,na,b,v⟩
noncomputable abbrev rw4(n:String)(i f u ln na:Nat)(b:Bool)(v:Nat):Rw:=⟨n,i,f,"rayround.heights",380,u,ln,na,b,v⟩
noncomputable abbrev rw5(n:String)(i f u ln na:Nat)(b:Bool)(v:Nat):Rw:=⟨n,i,f,"rayround.bodies",412,u,ln,na,b,v⟩
noncomputable abbrev rw6(n:String)(i f u ln na:Nat)(b:Bool)(v:Nat):Rw:=⟨n,i,f,"rayround.corners",437,u,ln,na,b,v⟩
noncomputable abbrev rw7(n:String)(i f u ln na:Nat)(b:Bool)(v:Nat):Rw:=⟨n,i,f,"rayround.partings",452,u,ln,na,b,v⟩
noncomputable abbrev rw8(n:String)(i f u ln na:Nat)(b:Bool)(v:Nat):Rw:=⟨n,i,f,"law_rayround_k55_heights_parted",478,u,ln,na,b,v⟩
def tab:List Rw:=[rw0 "is_whole" 6 70 257 11 1 true 261,rw0 "greatest_divisor" 7 77 264 13 2 true 271,rw1 "crossed" 9 84 276 19 2 true 281,rw2 "following" 11 91 286 22 2 true 291,rw2 "unspanned" 12 98 294 24 1 true 300,rw2 "ask_smooth" 13 105 303 29 1 true 308,rw3 "ratio" 15 112 313 34 2 true 319,rw3 "plus" 16 119 322 43 2 true 327,rw3 "minus" 17 126 330 45 2 true 335,rw3 "times" 18 133 338 47 2 true 343,rw3 "less" 19 140 346 49 2 true 351,rw3 "greatest" 20 147 354 51 1 true 360,rw3 "common_bottom" 21 154 363 57 1 true 369,rw3 "stretched" 22 161 372 62 2 true 377,rw4 "ask_height" 24 168 382 65 2 true 387,rw4 "sloped" 25 175 390 68 2 true 395,rw4 "slope_through" 26 182 398 70 2 true 409,rw5 "edge" 28 187 414 75 3 false 417,rw5 "in_order" 29 192 420 92 1 false 423,rw5 "body" 30 199 426 95 2 true 434,rw6 "contrary" 32 206 439 104 1 true 443,rw6 "height_of" 33 211 446 106 2 false 449,rw7 "balance" 35 216 454 110 2 false 457,rw7 "threes" 36 221 460 114 1 false 463,rw7 "emptying" 37 226 466 116 2 false 469,rw7 "parting" 38 231 472 127 2 false 475,rw8 "_law_cell_at" 40 238 480 134 2 true 487,rw8 "_law_cross" 41 245 490 142 2 true 495,rw8 "_law_turn" 42 250 498 144 2 false 501,rw8 "_law_smooth" 43 257 504 164 2 true 517,rw8 "_law_ratio" 44 264 520 183 2 true 527,rw8 "_law_sum" 45 271 530 189 2 true 535,rw8 "_law_times" 46 278 538 191 2 true 543,rw8 "_law_less" 47 285 546 193 2 true 551,rw8 "_law_height" 48 292 554 195 3 true 565,rw8 "_law_dotted" 49 299 568 207 2 true 573,rw8 "_law_within" 50 306 576 209 3 true 583,rw8 "_law_corners" 51 313 586 214 2 true 599,rw8 "_law_are_ratios" 52 320 602 227 1 true 608,rw8 "_law_bends" 53 327 611 237 2 true 621,rw8 "_law_first" 54 334 624 245 2 true 634,rw8 "_law_sized" 55 341 637 255 3 true 645,rw8 "_law_is_below" 56 348 648 262 2 true 665,rw8 "_law_five" 57 355 668 288 4 true 679,rw8 "_law_right" 58 362 682 302 3 true 690,rw8 "law" 59 369 693 316 1 true 702]
noncomputable def Zuo(p:cw)(i:Nat):Stmt:=p.main.body.getD i (.Pass ⟨0,0,0,0⟩)
noncomputable def Zsi:List Cw:=[⟨"NoRatio",37,207,4⟩,⟨"NotSmooth",49,223,6⟩,⟨"NoHeight",61,239,8⟩]
def Kf(p:cw)(P:kc):Fg:=(3,{cls:=bF "dict",data:=kR ([zz1 P "__name__" 165 (zz3 "law_rayround_k55_heights_parted" 478),zz1 P "__doc__" 166 (a9),zz1 P "__package__" 167 (a9),zz1 P "__loader__" 168 (jd "__main__.__loader__#opaque"),zz1 P "__spec__" 169 (a9),zz1 P "__annotations__" 170 (aM 6),zz1 P "__builtins__" 171 (aM 4),zz1 P "__file__" 173 (zz3 "/claim/cut.py" 172),zz1 P "__cached__" 174 (a9),zz1 P "RayError" 206 (aM 24)]++Zsi.map (·.de P)++tab.map (·.de P)).toArray 59})::tab.flatMap (·.en (Zuo p))++Zsi.flatMap (·.en P)++[(4,{cls:=bF "module",dict:=some 0}),
 (23,{cls:=bF "dict",data:=kR #[zz1 P "__module__" 196 (zz3 "rayround.errors" 187),zz1 P "__firstlineno__" 200 (jp 2 199),zz1 P "__static_attributes__" 201 (aM 22),zz1 P "__weakref__" 203 (aM 25),zz1 P "__doc__" 204 (a9)] 3}),
 (24,{cls:=bF "type",data:=Data.cls {name:=a7 "RayError",bases:=[bF "ValueError"],mro:=[aM 24,bF "ValueError",bF "Exception",bF "BaseException",bF "object"],ns:=23,qualname:=a7 "RayError",subclasses:=[aM 37,aM 49,aM 61]},slots:= #[some (aM 15),none,some (zz3 "RayError" 189),some (zz3 "RayError" 197),some (jd "ValueError.__new__"),some (ly true)]})]
def asK:List Addr:=3::tab.flatMap (fun r=>[r.f,r.f-1])++Zsi.flatMap (fun r=>[r.f,r.f-1])++[4,23,24]
def Tf:Fg:=tab.map (fun r=>(r.f-(if r.b then 5 else 3),{cls:=.none,data:=.fields #[]}))++[]
def asT:List Addr:=asK++tab.map (fun r=>r.f-(if r.b then 5 else 3))++[]
theorem Zpb(p:cw)(P:kc):asT=(Kf p P++Tf).map (·.1):=by kernel_rfl
def qf(p:cw):cw:={p with main:={p.main with body:=[Zuo p 59]}}
noncomputable def lo:List Str:=(["__name__","RayError","NoRatio","NotSmooth","NoHeight","is_whole","greatest_divisor","crossed","following","unspanned","ask_smooth","ratio","plus","minus","times","less","greatest","common_bottom","stretched","ask_height","sloped","slope_through","edge","in_order","body","contrary","height_of","balance","threes","emptying","parting","_law_cell_at","_law_cross","_law_turn","_law_smooth","_law_ratio","_law_sum","_law_times","_law_less","_law_height","_law_dotted","_law_within","_law_corners","_law_are_ratios","_law_bends","_law_first","_law_sized","_law_is_below","_law_five","_law_right"]:List String).map a7
open PySem.W
noncomputable abbrev pw:=PySem.Challenge.pw_rayround_k55_heights_parted
abbrev Hk:Hook:=kHook (fun P=>Kf pw P++Tf) asT (Zpb pw)
set_option maxRecDepth 1000000 in
set_option maxHeartbeats 0 in
theorem Zsg(w:cL)(os:OsState):(HD.ZrJ lJ (HD.Zkh (ke 11 (some (.ref 6))) (lK (jI kW) PySem.Challenge.pw_rayround_k55_heights_parted w)) 2386 (HD.T0 w os) (topStub PySem.Challenge.pw_rayround_k55_heights_parted)).map (fun s=>((staticsOk (eO PySem.Challenge.pw_rayround_k55_heights_parted.main.body) (dR w.params) s.abs.heap&&namesBound PySem.Challenge.pw_rayround_k55_heights_parted s.abs.heap&&gensDone s.abs&&laidKept (dR w.params) s.abs.heap),openSeen (qf PySem.Challenge.pw_rayround_k55_heights_parted) lo (eO PySem.Challenge.pw_rayround_k55_heights_parted.main.body) (fun s=>xlAt (qf PySem.Challenge.pw_rayround_k55_heights_parted) [] s&&recOk [] s) true s.abs,asT.map s.abs.heap.get?))=some (true,openGood (qf PySem.Challenge.pw_rayround_k55_heights_parted) lo,(Kf PySem.Challenge.pw_rayround_k55_heights_parted w.params++Tf).map fun x=>some x.2):=by
 rw[HD.Zsh,HD.ZmF,HD.Zo8,HD.Zo9,HD.ZmG,HD.Zpa]
 kernel_rfl
set_option maxRecDepth 1000000 in
set_option maxHeartbeats 0 in
theorem Zvx:PySem.W.OpenLaw.wellSaid PySem.Challenge.rw_rayround_k55_heights_parted=true:=by kernel_rfl
end K55
namespace L2
open PyProof.Rows
section
variable (P:cw)(w:cL)
end
section
variable {κ:Type}[DecidableEq κ]
noncomputable def ZjX(kvs:List (κ×V))(k:κ):Option V:=(kvs.find? fun kv=>decide (kv.1=k)).map (·.2)
noncomputable def ZjY(kvs:List (κ×V))(k:κ)(v:V):List (κ×V):=
 if(kvs.any fun kv=>decide (kv.1=k))=true then kvs.map (fun kv=>if kv.1=k then(kv.1,v)else kv)else kvs++[(k,v)]
theorem ZfZ{p:κ×V}{r:List (κ×V)}{k:κ}(e:p.1=k):ZjX (p::r) k=some p.2:=by simp[ZjX,jS,e]
theorem Zf0{p:κ×V}{r:List (κ×V)}{k:κ}(e:¬p.1=k):ZjX (p::r) k=ZjX r k:=by simp[ZjX,jS,e]
theorem Zf1(k:κ):∀kvs:List (κ×V),(kvs.any fun kv=>decide (kv.1=k))=(ZjX kvs k).isSome
 |[]=>rfl
 |p::r=>by
  rw[lg];by_cases e:p.1=k
  ·simp only[ZfZ e,decide_eq_true e,Bool.true_or,iM]
  ·rw[Zf0 e,decide_eq_false e,Bool.false_or];exact Zf1 k r
theorem Zfk(kvs:List (κ×V))(k:κ)(v:V):(ZjY kvs k v).length<=kvs.length+1:=by
 unfold ZjY;split
 ·rw[ay];lia
 ·rw[aG,bO,eQ];lia
theorem KV.keys{kvs:List (κ×V)}{vs:List (κ×aa)}(r:KV kvs vs):kvs.map (·.1)=vs.map (·.1):=by
 unfold KV at r
 induction r with
 |nil=>rfl
 |cons h t ih=>rw[aP,aP,ih,h.1]
end
theorem Zsj(r:Z0 (kV k) u):(Zao P w).is k u=true:=by
 cases k with
 |inl i=>obtain⟨t,e⟩:=(show ∃t,u=jp i t from r);subst e;exact Zfe P w i t
 |inr x=>obtain⟨t,e⟩:=(show ∃t,u=kJ x t from r);subst e;exact Zff P w x t
theorem Zeu{P:cw}{w:cL}:∀{ks:List Key}{us:List aa},ZZ (ks.map kV) us->ItemsAre (Zao P w) ks us
 |[],_,r=>by rw[im]at r;cases r;exact .nil
 |k::ks,_,r=>by
  rw[aP]at r;cases r with
  |cons h t=>exact .cons (Zsj h) (Zeu t)
theorem Zpc(ok:HOk P w H h)(e:H a=some (.tup (ks.map kV))):(tupleKind (Zao P w)).is h ks a:=by
 obtain⟨_,its,r,o,h1,h2,n,h3⟩:=(show ZaS P w H h a (.tup (ks.map kV))from ok a _ e);exact⟨o,its.toArray,n,h1,h2,h3,by simpa using Zeu r⟩
theorem Inv.big(I:Inv X pins σ H s):f8<s.heap.objs.size:=by
 have h:aI<s.heap.objs.size:=(I.mod.glob.keeps I.bk).lt;exact gv (by decide) h
theorem ZmH(I:Inv X pins σ H s)(mu:Mut (H a))(hs:dq a s.heap h')(he:∃q,h'.get? a=some q)(new:ZaS X.prog X.w (upd H a ob) h' a ob):Inv X pins σ (upd H a ob) {s with heap:=h',toks:=t'}:=
 I.write (x:=a) (e:=a) mu (.inl rfl) (fun b q hb z=>(hs.2 b hb).trans z) he new
structure M1(X:Cx) (o:Expr) (m:Str) (apos:Pos) (e:Expr) (cpos:Pos):Prop where
 base:gX o m X.env (eval o X.env)=eval o X.env
 few:((cN cpos (av [e] X.env)).all (fun x=> !x.1)&&(iK cpos (fk [] X.env)).all (fun x=>x.1.isSome) && decide (([e]:List Expr).length+([]:List io).length+(if([]:List io).isEmpty then 0 else 1)<30))=true
 line:(apos.endLine==cpos.line)=true
 trees:cN cpos (av [e] X.env)=[(false,eval e X.env)]
structure M2(X:Cx) (o:Expr) (m:Str) (apos:Pos) (e f:Expr) (cpos:Pos):Prop where
 base:gX o m X.env (eval o X.env)=eval o X.env
 few:((cN cpos (av [e,f] X.env)).all (fun x=> !x.1)&&(iK cpos (fk [] X.env)).all (fun x=>x.1.isSome) && decide (([e,f]:List Expr).length+([]:List io).length+(if([]:List io).isEmpty then 0 else 1)<30))=true
 line:(apos.endLine==cpos.line)=true
 trees:cN cpos (av [e,f] X.env)=[(false,eval e X.env),(false,eval f X.env)]
end L2
namespace Att
open PySem.W PySem.Calls PyProof.Rows
end Att
namespace L2
open PyProof.Rows
section
variable {κ:Type}[DecidableEq κ]
end
end L2
namespace DQ
open PyProof.Rows
structure Fly(B:Heap) (l:List Env) (e:Addr) (cls:aa) (dct:Option Addr) (fl:aa) (h:Heap):Prop where
 stay:B.StaysIn h
 new:B.get? e=none
 frames:h.FunFrames B l
 obj:∃oe vs T oT ts,h.get? e=some oe/\oe.cls=cls/\oe.dict=dct/\oe.data=.fields vs/\vs[2]?=some .none/\vs[1]?=some (.ref T)/\B.get? T=none/\T≠e/\h.get? T=some oT/\oT.data=.fields ts/\ts[3]?=some fl
theorem Fly.tail(f:Fly B (env::l) e cls dct fl h):Fly B l e cls dct fl h:=⟨f.stay,f.new,f.frames.2.2,f.obj⟩
section
variable {outer:List Env}
theorem apart{h:Heap}(hl:h.FunFrames B l)(he:h.get? e=some oe)(hd:oe.data=.fields vs):e∉l.filterMap (·.frame):=fun z=>by
 obtain⟨_,o,h1,h2⟩:=hl.mem z;rw[he]at h1;cases h1;exact h2 vs hd
theorem Zev(hfr:A.frames=some (env::outer))(hl:s.heap.FunFrames B (env::outer))(hf:env.frame=some L)(he:s.heap.get? e=some oe)(hs:B.StaysIn s.heap)(hb:B.get? e=none)(hd:oe.data=.fields vs)(hz:2<vs.size)(h2:vs[2]?=some .none)(h:∀h',Fly B (env::outer) e oe.cls oe.dict (cQ L) h'->s.heap.UpToSlots h'->Q () {s with heap:=h'}):wpAny M A (frameOf env >>= fun a=>entryPlaceOf L hn >>= fun pl=>kZ Zpd a .none (cQ L) .none pl >>= fun b=>setField (.ref e) 1 b) Q E s:=by
 have ne:=apart hl he hd;refine Wb (wpAny_frameOf_fun hfr hl hf fun h1 k1=>Wb (wpAny_entryPlaceOf fun pl hpl=>Wb ?_));unfold kZ newFields;refine bD ?_ (hpl.sizeOk5 _ _ _ _ _);generalize hT:([Zpd,aM L,a9,cQ L,a9]++(if pl.isEmpty then aH 6 a9 else pl)).toArray=ts;have h3:ts[3]?=some (cQ L):=by
  rw[<-hT];rcases hpl with rfl|⟨_,_,_,_,_,_,_,rfl⟩<;>simp
 have e1:h1.get? e=some oe:=(k1.2.1 e ne).trans he;have s1:B.StaysIn h1:=fun b o hbo=>(k1.2.1 b fun z=>by rw[(hl.mem z).1]at hbo;cases hbo).trans (hs b o hbo)
 generalize hoT:({cls:=.type "traceback",dict:=none,data:=.fields ts}:Obj)=oT;have dT:oT.data=.fields ts:=by rw[<-hoT]
 have fT:oT.isFreed=false:=cW dT;have e2:(h1.push oT).get? e=some oe:=Hq _ e1;have nT:h1.objs.size≠e:=aO (Hz e1);refine cO e2 hd (gv (by decide) hz) (h _ ?_ ?_)
 ·have d3:=cK hd (·.setIfInBounds 1 (aM h1.objs.size));have e3:=bh (dA (·.setIfInBounds 1 (aM h1.objs.size))) e2 (cW d3);have keep:∀b o,b≠e->h1.get? b=some o->((h1.push oT).update e (dA (·.setIfInBounds 1 (aM h1.objs.size)))).get? b=some o:=fun b o hbe x=>by
   rw[aB _ _ (bW hbe)];exact Hq _ x
  have gT:(h1.push oT).get? h1.objs.size=some oT:=az _ fT;refine⟨fun b o x=>keep b o (fun z=>by rw[z,hb]at x;cases x) (s1 b o x),hb,hl.of_keeps fun b o x y=>?_,_,_,h1.objs.size,oT,ts,e3,gn _ _,?_,d3,?_,?_,s1.fresh,nT,?_,dT,h3⟩
  ·obtain⟨sl,z⟩:=k1.2.2 b o x;exact⟨_,keep b _ (fun w=>y vs (by rw[w,he]at x;cases x;exact hd)) z,rfl⟩
  ·obtain⟨c,d,dd,sl⟩:=oe;cases hd;rfl
  ·rw[Array.getElem?_setIfInBounds_ne (by decide)]
   exact h2
  ·rw[fg (gv (by decide) hz)]
  ·rw[aB _ _ (bW nT)];exact gT
 ·intro b o x y;obtain⟨sl,z⟩:=k1.2.2 b o x;refine⟨sl,?_⟩;rw[aB _ _ (fun w=>y vs (by rw[<-w,he]at x;cases x;exact hd))]
  exact Hq _ z
theorem Zf2(f:Fly B l e cls dct fl s.heap)(h:∀h',Fly B l e cls dct .none h'->s.heap.UpToSlots h'->Q () {s with heap:=h'}):wpAny M A (setFlight (.ref e) none) Q E s:=by
 obtain⟨st,nw,fr,oe,vs,T,oT,ts,g1,g2,g3,g4,g5,g6,g7,g8,g9,g10,g11⟩:=f;have hz:3<ts.size:=(cR.mp g11).1;unfold setFlight;refine Wb (aX g1 g4 g6 ?_);rw[if_pos (by simp)]
 have oth:∀b o,b≠T->s.heap.get? b=some o->(s.heap.update T (dA (·.setIfInBounds 3 a9))).get? b=some o:=fun b o hb x=>by
  rw[aB _ _ (bW hb)];exact x
 have nr:∀b o,s.heap.get? b=some o->(∀vs,o.data≠ .fields vs)->b≠T:=fun b o x y z=>by
  rw[z,g9]at x;cases x;exact y ts g10
 refine cO g9 g10 hz (h _ ⟨fun b o x=>oth b o (fun z=>by rw[z,g7]at x;cases x) (st b o x),nw,fr.of_keeps fun b o x y=>⟨o,oth b o (nr b o x y) x,rfl⟩,?_⟩ fun b o x y=>⟨o.slots,oth b o (nr b o x y) x⟩)
 exact⟨oe,vs,T,_,_,oth e oe (bW g8) g1,g2,g3,g4,g5,g6,g7,g8,bh _ g9 (cW (cK g10 _)),cK g10 _,by rw[fg hz];rfl⟩
theorem Zki(hfr:A.frames=some (env::outer))(hf:env.frame=some L)(f:Fly B (env::outer) e cls dct .none s.heap)(h:∀h',Fly B (env::outer) e cls dct (cQ L) h'->s.heap.UpToSlots h'->Q () {s with heap:=h'}):wpAny M A (kX (.ref e) env) Q E s:=by
 obtain⟨st,nw,fr,oe,vs,T,oT,ts,g1,g2,g3,g4,g5,g6,g7,g8,g9,g10,g11⟩:=f;unfold kX;simp only[hf];refine Wb (aX g1 g4 g6 ?_);rw[if_pos (by simp)]
 refine Wb (aX g9 g10 g11 ?_);rw[if_neg (by simp[cQ])]
 have oth:∀b o,b≠T->s.heap.get? b=some o->(s.heap.update T (dA (·.setIfInBounds 3 a9))).get? b=some o:=fun b o hb x=>by
  rw[aB _ _ (bW hb)];exact x
 have nr:∀b o,s.heap.get? b=some o->(∀vs,o.data≠ .fields vs)->b≠T:=fun b o x y z=>by
  rw[z,g9]at x;cases x;exact y ts g10
 refine Wb (cO g9 g10 (cR.mp g11).1 ?_);refine Zev hfr (fr.of_keeps fun b o x y=>⟨o,oth b o (nr b o x y) x,rfl⟩) hf (oth e oe (bW g8) g1) (fun b o x=>oth b o (fun z=>by rw[z,g7]at x;cases x) (st b o x)) nw g4 (cR.mp g5).1 g5 fun h' k1 k2=>h h' (g2▸g3▸k1) ?_
 intro b o x y;exact k2 b o (oth b o (nr b o x y) x) y
theorem ZhI(hfr:A.frames=some (env::outer))(hf:env.frame=some L)(f:Fly B (env::outer) e cls dct .none s.heap)(h:∀h',Fly B outer e cls dct .none h'->s.heap.UpToSlots h'->Q () {s with heap:=h'}):wpAny M A (mf env (.ref e)) Q E s:=by
 unfold mf;refine Wb (Zki hfr hf f fun h1 k1 u1=>?_);exact Zf2 (s:={s with heap:=h1}) k1 fun h2 k2 u2=>h h2 k2.tail (u1.trans u2)
theorem ZhJ(hfr:A.frames=some (env::outer))(hf:env.frame=some L)(hl:s.heap.FunFrames B (env::outer))(he:s.heap.get? e=some oe)(hs:B.StaysIn s.heap)(hb:B.get? e=none)(hd:oe.data=.fields vs)(h1:vs[1]?=some .none)(h2:vs[2]?=some .none)(h:∀h',Fly B outer e oe.cls oe.dict .none h'->s.heap.UpToSlots h'->Q () {s with heap:=h'}):wpAny M A (mf env (.ref e)) Q E s:=by
 unfold mf kX;simp only[hf];refine Wb (Wb (aX he hd h1 ?_));rw[if_neg (by decide)]
 refine Zev hfr hl hf he hs hb hd (cR.mp h2).1 h2 fun h' k1 u1=>?_;exact Zf2 (s:={s with heap:=h'}) k1 fun h2 k2 u2=>h h2 k2.tail (u1.trans u2)
end
end DQ
namespace DQ
open PyProof.Rows
open PySem.W (Looks findIn mroIn specialIn takesIn clsIn looks_findIn looks_mroIn looks_find findObj KitX)
structure ExcC(K:Fg) (C:Addr):Prop where
 ga:gx K (.ref C) "__getattribute__"=some (some (.builtin "BaseException.__getattribute__"))
 gt:gx K (.ref C) "__getattr__"=some none
 cl:gx K (.ref C) "__class__"=some (some (.builtin "object.__class__"))
 gs:gm K (.builtin "object.__class__") "__get__"=some (some (.builtin "getset_descriptor.__get__"))
 tk:iY K (.builtin "object.__class__")=some true
 bx:kh K C (.type "BaseException")=some true
 ob:kh K C (.type "object")=some true
 is:(lY K C).isSome=true
end DQ
namespace DL
open PyProof.Rows L2
inductive D where
 |non
 |bl (b:Bool)
 |int (i:Int)
 |str (x:Str)
 |tup (xs:List D)
 |rol (xs:List D)
 |con (xs:List D)
 |ref (n:Nat)
 |err (c:Str) (xs:List D)
 |dk (n:Nat)
 |dt (n:Nat)
 |du (n:Nat)
 |fn (c:Str)
inductive SO where
 |lst (xs:List D)
noncomputable abbrev Sto:=List SO
noncomputable abbrev Ro:=List (Option D)
abbrev W2:=Str->Sto->Prop
abbrev W1:=Ro->Sto->Prop
abbrev W0:=D->Sto->Prop
def SqF(K:Fg)(H:Hp)(a:Addr)(xs:List V):Prop:=
 (∃o,H a=some (.frz o (.lst xs)))\/∃(o:Obj) (its:Array aa) (n:Nat),K.lookup a=some o/\o.cls=.type "list"/\o.dict=none/\o.data=.seq its n/\its.size<=sizeLine/\ZZ xs its.toList
theorem SqF.sq{K:Fg}(h:SqF K H a xs):SqL K H a xs:=by
 rcases h with⟨o,h⟩|h
 ·exact .inl (.inr ⟨o,h⟩)
 ·exact .inr h
def SqK(K:Fg)(a:Addr)(xs:List V):Prop:=∃(o:Obj) (its:Array aa) (n:Nat),K.lookup a=some o/\o.cls=.type "tuple"/\o.data=.seq its n/\its.size<=sizeLine/\ZZ xs its.toList/\o.dict=none
theorem SqK.sq{K:Fg}(h:SqK K a xs):SqT K H a xs:=
 let ⟨o,its,n,h1,h2,h3,h4,h5,_⟩:=h
 .inr ⟨o,its,n,h1,h2,h3,h4,h5⟩
noncomputable def Zup:List Str:=[PySem.Str.ofString "where",PySem.Str.ofString "at"]
def EOk(H:Hp)(p C:Addr)(xs:List V):Prop:=∃oe u vs,H p=some (.frz oe u)/\oe.cls=.ref C/\oe.data=.fields vs/\vs[2]?=some .none/\((xs=[]/\oe.dict=none)\/∃dx fs,oe.dict=some dx/\H dx=some (.xd fs)/\fs.map (·.2)=xs/\fs.map (·.1)=Zup)
noncomputable def Kn(H:Hp)(p:Addr):Option Nat:=match H p with|some (.lst _)=>some 0|some (.dK _)=>some 1|some (.dT _)=>some 2|some (.dU _)=>some 3|some (.frz _ (.dK _))=>some 1|some (.frz _ (.dT _))=>some 2|_=>none
structure RefK(H:Hp) (α:List Addr) (j n:Nat) (p:Addr):Prop where
 at':α[n]?=some p
 kn:Kn H p=some j
theorem Kn.lst{H:Hp}{p:Addr}{xs:List V}(h:H p=some (.lst xs)):Kn H p=some 0:=by unfold Kn;rw[h]
theorem Kn.ne(h:Kn H p=some j)(hq:H q=none):Kn (upd H q o) p=some j:=by
 have:p≠q:=by
  intro z;unfold Kn at h;rw[z,hq]at h;cases h
 unfold Kn;rw[ZF this];exact h
mutual
inductive Rep(K:Fg) (H:Hp) (α:List Addr):V->D->Prop where
 |non:Rep K H α .non .non
 |bl (b:Bool):Rep K H α (.bl b) (.bl b)
 |int (i:Int):Rep K H α (.int i) (.int i)
 |str (x:Str):Rep K H α (.str x) (.str x)
 |tup {p:Addr} {xs:List V} {ds:List D}:H p=some (.tup xs)->Reps K H α xs ds->Rep K H α (.ref p) (.tup ds)
 |rol {p:Addr} {xs:List V} {ds:List D}:SqF K H p xs->Reps K H α xs ds->Rep K H α (.ref p) (.rol ds)
 |con {p:Addr} {xs:List V} {ds:List D}:SqK K p xs->Reps K H α xs ds->Rep K H α (.ref p) (.con ds)
 |ref {p:Addr} {n:Nat}:RefK H α 0 n p->Rep K H α (.ref p) (.ref n)
 |dk {p:Addr} {n:Nat}:RefK H α 1 n p->Rep K H α (.ref p) (.dk n)
 |dt {p:Addr} {n:Nat}:RefK H α 2 n p->Rep K H α (.ref p) (.dt n)
 |du {p:Addr} {n:Nat}:RefK H α 3 n p->Rep K H α (.ref p) (.du n)
 |fn {p:Addr} {c:Str}:PySem.W.nsIn K aI c=some (some (.ref p))->Rep K H α (.ref p) (.fn c)
 |err {p C:Addr} {c:Str} {xs:List V} {ds:List D}:PySem.W.nsIn K aI c=some (some (.ref C))->EOk H p C xs->Reps K H α xs ds->Rep K H α (.ref p) (.err c ds)
inductive Reps(K:Fg) (H:Hp) (α:List Addr):List V->List D->Prop where
 |nil:Reps K H α [] []
 |cons {v:V} {d:D} {vs:List V} {ds:List D}:Rep K H α v d->Reps K H α vs ds->Reps K H α (v::vs) (d::ds)
end
structure Ext(K:Fg) (H H':Hp) (α α':List Addr):Prop where
 tup:∀p xs,H p=some (.tup xs)->H' p=some (.tup xs)
 rol:∀p xs,SqF K H p xs->SqF K H' p xs
 err:∀p C xs,EOk H p C xs->EOk H' p C xs
 kn:∀p j,Kn H p=some j->Kn H' p=some j
 fz:∀p o u,H p=some (.frz o u)->H' p=some (.frz o u)
 al:∃β,α'=α++β
section
variable {K:Fg}{H H':Hp}{α α':List Addr}
theorem Ext.refl:Ext K H H α α:=⟨fun _ _ h=>h,fun _ _ h=>h,fun _ _ _ h=>h,fun _ _ h=>h,fun _ _ _ h=>h,[],(cC _).symm⟩
theorem Ext.trans(a:Ext K H H1 α α1)(b:Ext K H1 H2 α1 α2):Ext K H H2 α α2:=by
 obtain⟨b1,e1⟩:=a.al;obtain⟨b2,e2⟩:=b.al;exact⟨fun p xs h=>b.tup p xs (a.tup p xs h),fun p xs h=>b.rol p xs (a.rol p xs h),fun p C xs h=>b.err p C xs (a.err p C xs h),fun p j h=>b.kn p j (a.kn p j h),fun p o u h=>b.fz p o u (a.fz p o u h),b1++b2,by rw[e2,e1,d6]⟩
theorem Ext.get0(e:Ext K H H' α α'){n:Nat}(h:α[n]?=some p):α'[n]?=some p:=by
 obtain⟨β,e1⟩:=e.al;have hl:n<α.length:=(ar.mp h).1;rw[e1,ae hl];exact h
theorem Ext.get(e:Ext K H H' α α')(h:RefK H α j n p):RefK H' α' j n p:=⟨e.get0 h.at',e.kn _ _ h.kn⟩
theorem Rep.mono(e:Ext K H H' α α'){v:V}{d:D}(h:Rep K H α v d):Rep K H' α' v d:=Rep.rec (motive_1:=fun v d _=>Rep K H' α' v d) (motive_2:=fun v d _=>Reps K H' α' v d) .non .bl .int .str (fun h _ r=>.tup (e.tup _ _ h) r) (fun h _ r=>.rol (e.rol _ _ h) r) (fun h _ r=>.con h r) (fun h=>.ref (e.get h)) (fun h=>.dk (e.get h)) (fun h=>.dt (e.get h)) (fun h=>.du (e.get h)) .fn (fun n h _ r=>.err n (e.err _ _ _ h) r) .nil (fun _ _ r t=>.cons r t) h
theorem Reps.mono(e:Ext K H H' α α'){v:List V}{d:List D}(h:Reps K H α v d):Reps K H' α' v d:=by
 induction d generalizing v with
 |nil=>cases h;exact .nil
 |cons _ _ ih=>cases h with|cons r t=>exact .cons (r.mono e) (ih t)
theorem Reps.length:∀{vs:List V}{ds:List D},Reps K H α vs ds->vs.length=ds.length:=by
 intro vs
 induction vs with
 |nil=>intro ds h;cases h;rfl
 |cons v vs ih=>
  intro ds h;cases h with
  |cons _ t=>rw[bO,bO,ih t]
theorem Reps.get:∀{vs:List V}{ds:List D}{i:Nat}{d:D},Reps K H α vs ds->ds[i]?=some d->∃v,vs[i]?=some v/\Rep K H α v d
 |_,_,_,_,.nil,e=>by simp at e
 |_,_,0,_,.cons r _,e=>by simp at e;subst e;exact⟨_,rfl,r⟩
 |_,_,i+1,d,.cons _ t,e=>by
  obtain⟨u,h1,h2⟩:=Reps.get (i:=i) (d:=d) t (by simpa using e)
  exact⟨u,by simpa using h1,h2⟩
theorem Reps.set{v:V}{d:D}(r:Rep K H α v d):∀{vs:List V}{ds:List D}(i:Nat),Reps K H α vs ds->Reps K H α (vs.set i v) (ds.set i d)
 |_,_,_,.nil=>.nil
 |_,_,0,.cons _ t=>.cons r t
 |_,_,i+1,.cons q t=>.cons q (Reps.set r i t)
theorem Reps.append:∀{vs ws:List V}{ds es:List D},Reps K H α vs ds->Reps K H α ws es->Reps K H α (vs++ws) (ds++es):=by
 intro vs
 induction vs with
 |nil=>intro ws ds es h s;cases h;exact s
 |cons v vs ih=>
  intro ws ds es h s;cases h with
  |cons r t=>exact .cons r (ih t s)
theorem Reps.ints:∀(ns:List Int),Reps K H α (ns.map V.int) (ns.map D.int)
 |[]=>.nil
 |n::r=>.cons (.int n) (Reps.ints r)
theorem ZhK(h:H q=some (.tup xs))(hp:∀u,H p=some u->(∀ys,u≠ .tup ys)/\∀ob w,u≠ .frz ob w):upd H p o q=some (.tup xs):=by
 rw[ZF (fun e=>(hp _ (e▸h)).1 _ rfl)];exact h
theorem ZhL(h:SqF K H q xs)(hp:∀u,H p=some u->∀ob w,u≠ .frz ob w):SqF K (upd H p o) q xs:=by
 rcases h with⟨ob,h⟩|h
 ·refine .inl ⟨ob,?_⟩;rw[ZF (fun e=>hp _ (e▸h) _ _ rfl)];exact h
 ·exact .inr h
theorem Zlo(h:H q=some (.frz ob u))(hp:∀u,H p=some u->∀ob w,u≠ .frz ob w):upd H p o q=some (.frz ob u):=by
 rw[ZF (fun e=>hp _ (e▸h) _ _ rfl)];exact h
theorem ZhM(h:EOk H q C xs)(hp:∀u,H p=some u->(∀ob w,u≠ .frz ob w)/\∀fs,u≠ .xd fs):EOk (upd H p o) q C xs:=by
 obtain⟨oe,u,vs,h1,h2,h3,h4,h5⟩:=h;refine⟨oe,u,vs,?_,h2,h3,h4,?_⟩
 ·rw[ZF (fun e=>(hp _ (e▸h1)).1 _ _ rfl)];exact h1
 ·rcases h5 with h5|⟨dx,fs,k1,k2,k3⟩
  ·exact .inl h5
  ·refine .inr ⟨dx,fs,k1,?_,k3⟩;rw[ZF (fun e=>(hp _ (e▸k2)).2 _ rfl)];exact k2
theorem Ext.new(h:H p=none):Ext K H (upd H p o) α (α++β):=
 ⟨fun q xs z=>ZhK z (fun u e=>(by rw[h]at e;cases e)),fun q xs z=>ZhL z (fun u e=>(by rw[h]at e;cases e)),fun q C xs z=>ZhM z (fun u e=>(by rw[h]at e;cases e)),fun q j z=>Kn.ne z h,fun q o u z=>Zlo z (fun u e=>(by rw[h]at e;cases e)),β,rfl⟩
theorem Ext.new0(h:H p=none):Ext K H (upd H p o) α α:=by
 have e:=Ext.new (K:=K) (H:=H) (α:=α) (o:=o) h (β:=[]);rw[cC]at e;exact e
theorem Ext.wrK(h:Kn H p=some j)(nf:∀ob w,H p≠some (.frz ob w))(h':Kn (upd H p o) p=some j):Ext K H (upd H p o) α α:=by
 have ne (u:HO) (e:H p=some u):(∀ys,u≠ .tup ys)/\(∀ob w,u≠ .frz ob w)/\∀fs,u≠ .xd fs:=by
  unfold Kn at h;rw[e]at h;refine⟨fun ys z=>?_,fun ob w z=>nf ob w (by rw[e,z]),fun fs z=>?_⟩<;>subst z<;>cases h
 refine⟨fun q xs z=>ZhK z fun u e=>⟨(ne u e).1,(ne u e).2.1⟩,fun q xs z=>ZhL z fun u e=>(ne u e).2.1,fun q C xs z=>ZhM z fun u e=>⟨(ne u e).2.1,(ne u e).2.2⟩,fun q i z=>?_,fun q ob u z=>Zlo z fun u e=>(ne u e).2.1,[],(cC _).symm⟩;by_cases c:q=p
 ·subst c;rw[h]at z;cases z;exact h'
 ·unfold Kn;rw[ZF c];exact z
theorem Ext.wr(h:H p=some (.lst xs)):Ext K H (upd H p (.lst ys)) α α:=Ext.wrK (Kn.lst h) (fun ob w z=>by rw[h]at z;cases z) (Kn.lst Zz)
noncomputable def Zlp:Key->D
 |.inl i=>.int i
 |.inr x=>.str x
def ZdM(ks:List Key):D:=.tup (ks.map Zlp)
def ZmI(ks:List (List Key)):D:=.tup (ks.map ZdM)
noncomputable def Za9(K:Fg)(H:Hp)(α:List Addr){κ:Type}(key:κ->D)(kvs:List (κ×V))(ds:List D):Prop:=
 ∃es:List D,ds=b8 (fun kv e=>D.tup [key kv.1,e]) kvs es/\Reps K H α (kvs.map (·.2)) es
def SOk(K:Fg)(H:Hp)(α:List Addr)(p:Addr):SO->Prop
 |.lst ds=>(∃xs,H p=some (.lst xs)/\Reps K H α xs ds)\/(∃kvs,H p=some (.dK kvs)/\Za9 K H α Zlp kvs ds)\/(∃kvs,H p=some (.dT kvs)/\Za9 K H α ZdM kvs ds)\/(∃o kvs r,H p=some (.frz o (.dK kvs))/\ds=.non::r/\Za9 K H α Zlp kvs r)\/(∃o kvs r,H p=some (.frz o (.dT kvs))/\ds=.non::r/\Za9 K H α ZdM kvs r)\/(∃kvs,H p=some (.dU kvs)/\Za9 K H α ZmI kvs ds)
theorem SOk.there(h:SOk K H α p o):∃u,H p=some u:=by
 cases o with
 |lst ds=>rcases h with⟨_,e,_⟩|⟨_,e,_⟩|⟨_,e,_⟩|⟨_,_,_,e,_⟩|⟨_,_,_,e,_⟩|⟨_,e,_⟩<;>exact⟨_,e⟩
theorem SOk.mono(h:SOk K H α p o)(ex:Ext K H H' α α')(e:H' p=H p):SOk K H' α' p o:=by
 cases o with
 |lst ds=>
  rcases h with⟨xs,h1,h2⟩|⟨kvs,h1,es,h2,h3⟩|⟨kvs,h1,es,h2,h3⟩|⟨o,kvs,r,h1,h0,es,h2,h3⟩|⟨o,kvs,r,h1,h0,es,h2,h3⟩|⟨kvs,h1,es,h2,h3⟩
  ·exact .inl ⟨xs,e.trans h1,Reps.mono ex h2⟩
  ·exact .inr (.inl ⟨kvs,e.trans h1,es,h2,Reps.mono ex h3⟩)
  ·exact .inr (.inr (.inl ⟨kvs,e.trans h1,es,h2,Reps.mono ex h3⟩))
  ·exact .inr (.inr (.inr (.inl ⟨o,kvs,r,e.trans h1,h0,es,h2,Reps.mono ex h3⟩)))
  ·exact .inr (.inr (.inr (.inr (.inl ⟨o,kvs,r,e.trans h1,h0,es,h2,Reps.mono ex h3⟩))))
  ·exact .inr (.inr (.inr (.inr (.inr ⟨kvs,e.trans h1,es,h2,Reps.mono ex h3⟩))))
structure HR(K:Fg) (H:Hp) (α:List Addr) (M:Sto):Prop where
 len:α.length=M.length
 nd:α.Nodup
 ob:∀(n:Nat)(p:Addr)(o:SO),α[n]?=some p->M[n]?=some o->SOk K H α p o
theorem HR.nil:HR K H [] []:=⟨rfl,List.nodup_nil,fun n p o h=>by simp at h⟩
theorem Kn.at{H:Hp}(k:Kn H p=some j)(e:H p=some u):(match some u with|some (.lst _)=>some 0|some (.dK _)=>some 1|some (.dT _)=>some 2|some (.dU _)=>some 3|some (.frz _ (.dK _))=>some 1|some (.frz _ (.dT _))=>some 2|_=>none)=some j:=by
 unfold Kn at k;rw[e]at k;exact k
theorem HR.at(h:HR K H α M)(e:RefK H α 0 n p)(m:M[n]?=some (.lst ds)):∃xs,H p=some (.lst xs)/\Reps K H α xs ds:=by
 rcases h.ob n p _ e.at' m with h1|⟨_,h1,_⟩|⟨_,h1,_⟩|⟨_,_,_,h1,_⟩|⟨_,_,_,h1,_⟩|⟨_,h1,_⟩
 ·exact h1
 all_goals exact absurd (Kn.at e.kn h1) (fun z=>nomatch z)
theorem HR.atU(h:HR K H α M)(e:RefK H α 3 n p)(m:M[n]?=some (.lst ds)):∃kvs,H p=some (.dU kvs)/\Za9 K H α ZmI kvs ds:=by
 rcases h.ob n p _ e.at' m with⟨_,h1,_⟩|⟨_,h1,_⟩|⟨_,h1,_⟩|⟨_,_,_,h1,_⟩|⟨_,_,_,h1,_⟩|h1
 ·exact absurd (Kn.at e.kn h1) (fun z=>nomatch z)
 ·exact absurd (Kn.at e.kn h1) (fun z=>nomatch z)
 ·exact absurd (Kn.at e.kn h1) (fun z=>nomatch z)
 ·exact absurd (Kn.at e.kn h1) (fun z=>nomatch z)
 ·exact absurd (Kn.at e.kn h1) (fun z=>nomatch z)
 ·exact h1
theorem RefK.lst{n:Nat}{p:Addr}(e:RefK H α 0 n p):∃xs,H p=some (.lst xs):=by
 have:=e.kn
 unfold Kn at this
 split at this
 ·rename_i xs h;exact⟨xs,h⟩
 all_goals cases this
theorem HR.some_at(h:HR K H α M)(e:RefK H α 0 n p):∃xs,H p=some (.lst xs):=e.lst
theorem HR.there(h:HR K H α M){n:Nat}(e:α[n]?=some p):∃u,H p=some u:=by
 have hl:n<α.length:=(ar.mp e).1;have hm:n<M.length:=by rw[<-h.len];exact hl
 exact(h.ob n p M[n] e (Gq hm)).there
theorem HR.tup{M:Sto}{p:Addr}{o:HO}(h:HR K H α M)(hp:H p=none):HR K (upd H p o) α M:=
 ⟨h.len,h.nd,fun n q so e m=>by
  obtain⟨u,hu⟩:=h.there e;exact(h.ob n q so e m).mono (Ext.new0 hp) (ZF (Z3 hu hp))⟩
theorem HR.newO(h:HR K H α M)(hp:H p=none)(r:SOk K (upd H p o) (α++[p]) p so):HR K (upd H p o) (α++[p]) (M++[so]):=by
 have ex:Ext K H (upd H p o) α (α++[p]):=Ext.new hp;refine⟨by rw[aG,aG,h.len];rfl,?_,fun n q so' e m=>?_⟩
 ·refine iZ.mpr ⟨h.nd,by simp,fun a ha b hb=>?_⟩
  have hb':b=p:=by simpa using hb
  obtain⟨n,hn,e⟩:=cU ha;obtain⟨u,z⟩:=h.there (n:=n) (p:=a) (by rw[am hn,e])
  rw[hb'];exact Z3 z hp
 ·by_cases hn:n<α.length
  ·rw[ae hn]at e;rw[ae (by rw[<-h.len];exact hn)]at m
   obtain⟨u,hu⟩:=h.there e;exact(h.ob n q so' e m).mono ex (ZF (Z3 hu hp))
  ·have en:n=α.length:=by
    have:n<(α++[p]).length:=(ar.mp e).1
    rw[aG,eX]at this;lia
   subst en;rw[aR (ac _),gy]at e;rw[h.len,aR (ac _),gy]at m;cases e;cases m;exact r
theorem HR.new(h:HR K H α M)(hp:H p=none)(r:Reps K H α xs ds):HR K (upd H p (.lst xs)) (α++[p]) (M++[.lst ds]):=
 h.newO hp (.inl ⟨xs,Zz,Reps.mono (Ext.new hp) r⟩)
theorem Zkj{n:Nat}(h:α.Nodup)(a:α[n]?=some p)(b:α[m]?=some p):n=m:=by
 obtain⟨h1,e1⟩:=ar.mp a;obtain⟨h2,e2⟩:=ar.mp b;exact(List.getElem_inj h).mp (e1.trans e2.symm)
theorem HR.wrO(h:HR K H α M)(e:α[n]?=some p)(ex:Ext K H (upd H p o) α α)(r:SOk K (upd H p o) α p so):HR K (upd H p o) α (M.set n so):=by
 have hn:n<M.length:=by rw[<-h.len];exact(ar.mp e).1
 refine⟨by rw[dh];exact h.len,h.nd,fun k q so' e' m=>?_⟩
 by_cases hk:k=n
 ·subst hk;rw[e]at e';cases e';rw[aF hn]at m;cases m;exact r
 ·rw[aE (bW hk)]at m;have hq:q≠p:=fun z=>hk (Zkj h.nd (z▸e') e);exact(h.ob k q so' e' m).mono ex (ZF hq)
theorem HR.wr(h:HR K H α M)(e:RefK H α 0 n p)(hp:H p=some (.lst ys))(r:Reps K H α xs ds):HR K (upd H p (.lst xs)) α (M.set n (.lst ds)):=
 h.wrO e.at' (Ext.wr hp) (.inl ⟨xs,Zz,Reps.mono (Ext.wr hp) r⟩)
end
inductive Out(β:Type) where
 |ok (a:β) (M:Sto)
 |exc (c:Str) (M:Sto)
 |bad
abbrev W3:=List D->Sto->Out D
noncomputable def Out.bind(o:Out β)(f:β->Sto->Out γ):Out γ:=match o with
 |.ok a M=>f a M
 |.exc c M=>.exc c M
 |.bad=>.bad
inductive Fl where
 |nx (ρ:Ro) (M:Sto)
 |ret (d:D) (M:Sto)
 |brk (ρ:Ro) (M:Sto)
 |cnt (ρ:Ro) (M:Sto)
 |exc (c:Str) (M:Sto)
 |bad
noncomputable def ZmJ(c:Str):Bool:=c==PySem.Str.ofString "NoRound"
def XO(K:Fg)(H:Hp)(α:List Addr)(c:Str)(M:Sto)(dct:Option Addr):Prop:=
 (ZmJ c=false/\HR K H α M/\dct=none)\/(ZmJ c=true/\∃(M0:Sto) (ds:List D) (dx:Addr) (fs:List (Str×V)),M=M0++[.lst ds]/\HR K H α M0/\dct=some dx/\H dx=some (.xd fs)/\fs.map (·.1)=Zup/\Reps K H α (fs.map (·.2)) ds)
def OG{β γ:Type}(K:Fg)(R:Hp->List Addr->γ->β->Prop)(H:Hp)(α:List Addr)(ξ:XK)(Q:γ->Hp->Prop):Out β->Prop
 |.ok d M'=>∀v H' α',Ext K H H' α α'->HR K H' α' M'->R H' α' v d->Q v H'
 |.exc c M'=>∀C H' α',PySem.W.nsIn K aI c=some (some (.ref C))->Ext K H H' α α'->∀dct,XO K H' α' c M' dct->ξ (.ref C) dct H'
 |.bad=>False
theorem OG.ext{K:Fg}{R:Hp->List Addr->γ->β->Prop}{Q:γ->Hp->Prop}{o:Out β}(h:OG K R H α ξ Q o)(e:Ext K H H1 α α1):OG K R H1 α1 ξ Q o:=by
 cases o with
 |ok d M'=>exact fun v H' α' e'=>h v H' α' (e.trans e')
 |exc c M'=>exact fun C H' α' n e'=>h C H' α' n (e.trans e')
 |bad=>exact h
abbrev OP(K:Fg):=OG K (Rep K)
abbrev OT(K:Fg):=OG (β:=Bool) (γ:=Bool) K (fun _ _ v d=>v=d)
abbrev OA(K:Fg):=OG K (Reps K)
noncomputable def SR(K:Fg)(H:Hp)(α:List Addr)(σ:L2.St)(ρ:Ro):Prop:=σ.length=ρ.length/\∀(i:Nat)(d:D),ρ[i]?=some (some d)->∃v,σ[i]?=some (some v)/\Rep K H α v d
theorem SR.mono{K:Fg}(h:SR K H α σ ρ)(e:Ext K H H' α α'):SR K H' α' σ ρ:=
 ⟨h.1,fun i d q=>let ⟨v,a,b⟩:=h.2 i d q;⟨v,a,Rep.mono e b⟩⟩
theorem SR.set{K:Fg}(h:SR K H α σ ρ)(i:Nat)(r:Rep K H α v d):SR K H α (σ.set i (some v)) (ρ.set i (some d)):=by
 refine⟨by rw[dh,dh];exact h.1,fun j e q=>?_⟩
 by_cases hj:j=i
 ·subst hj;have hl:j<ρ.length:=by
   have:=(ar.mp q).1
   rw[dh]at this;exact this
  rw[aF hl]at q;cases q;exact⟨v,by rw[aF (by rw[h.1];exact hl)],r⟩
 ·rw[aE (bW hj)]at q;rw[aE (bW hj)];exact h.2 j e q
abbrev Ev:=Ro->Sto->Out D
abbrev Tv:=Ro->Sto->Out Bool
abbrev Av:=Ro->Sto->Out (List D)
abbrev Sv:=Ro->Sto->Fl
def DE(X:Cx)(ξ:XK)(e:Expr)(f:Ev):Prop:=∃t:TE,PE X e t/\∀σ ρ H α M Q,SR X.K H α σ ρ->HR X.K H α M->OP X.K H α ξ Q (f ρ M)->t σ H Q
def DT(X:Cx)(ξ:XK)(e:Expr)(f:Tv):Prop:=∃t:TT,PT X e t/\∀σ ρ H α M Q,SR X.K H α σ ρ->HR X.K H α M->OT X.K H α ξ Q (f ρ M)->t σ H Q
def DW(X:Cx)(ξ:XK)(e:Expr)(f:Tv):Prop:=∃t:TT,PW X e t/\∀σ ρ H α M Q,SR X.K H α σ ρ->HR X.K H α M->OT X.K H α ξ Q (f ρ M)->t σ H Q
def DA(X:Cx)(ξ:XK)(es:List Expr)(f:Av):Prop:=∃t:TA,PA X es t/\∀σ ρ H α M Q,SR X.K H α σ ρ->HR X.K H α M->OA X.K H α ξ Q (f ρ M)->t σ H Q
theorem OG.seq{K:Fg}{R:Hp->List Addr->γ->β->Prop}{R':Hp->List Addr->γ'->β'->Prop}{Q:γ'->Hp->Prop}{Q1:γ->Hp->Prop}{o:Out β}{f:β->Sto->Out β'}(h:OG K R' H α ξ Q (o.bind f))(k:∀d M' v H' α',Ext K H H' α α'->HR K H' α' M'->R H' α' v d->OG K R' H' α' ξ Q (f d M')->Q1 v H'):OG K R H α ξ Q1 o:=by
 cases o with
 |ok d M'=>exact fun v H' α' e hr r=>k d M' v H' α' e hr r (OG.ext (o:=f d M') h e)
 |exc c M'=>exact h
 |bad=>exact h
section
variable {X:Cx}{ξ:XK}{fa fb:Ev}
noncomputable def Zg(i:Nat):Ev:=fun ρ M=>match ρ[i]? with|some (some d)=>.ok d M|_=>.bad
noncomputable def eC(d:D):Ev:=fun _ M=>.ok d M
theorem Zb(i:Nat)(hN:autoParam (X.N[i]?=some x) Qrf._auto_1)(hv:Vis X.env.scope x:=by first|exact dM rfl|exact jH (dM rfl)|exact jH (jH rfl))(hd:autoParam ((x==("__debug__":Str))=false) Qde._auto_1)(hcd:autoParam ((x==("__classdict__":Str))=false) Qde._auto_1):DE X ξ (.Name x pos) (Zg i):=by
 refine⟨_,Zlj hN hv hd hcd,fun σ ρ H α M Q s h q=>?_⟩;unfold Zg at q;cases e:ρ[i]? with
 |none=>rw[e]at q;exact q.elim
 |some o=>
  cases o with
  |none=>rw[e]at q;exact q.elim
  |some d=>
   rw[e]at q;obtain⟨v,h1,h2⟩:=s.2 i d e;exact⟨v,h1,q v H α Ext.refl h h2⟩
theorem Zd{j pos}:DE X ξ (.Constant (.int i) j pos) (eC (.int i)):=⟨_,ZoC,fun _ _ H α M _ _ h q=>q _ H α Ext.refl h (.int i)⟩
theorem ZaY{j pos}:DE X ξ (.Constant (.bool i) j pos) (eC (.bl i)):=⟨_,ZrY,fun _ _ H α M _ _ h q=>q _ H α Ext.refl h (.bl i)⟩
theorem Zct{j pos}:DE X ξ (.Constant .none j pos) (eC .non):=⟨_,ZoD,fun _ _ H α M _ _ h q=>q _ H α Ext.refl h .non⟩
theorem Zba{j pos}:DE X ξ (.Constant (.str x) j pos) (eC (.str x)):=⟨_,ZoE,fun _ _ H α M _ _ h q=>q _ H α Ext.refl h (.str x)⟩
abbrev Bo:=D->D->Sto->Out D
def e2(f:Bo)(fa fb:Ev):Ev:=fun ρ M=>(fa ρ M).bind fun x M1=>(fb ρ M1).bind fun y M2=>f x y M2
def BO(X:Cx)(ξ:XK)(r:R2)(f:Bo):Prop:=∀H α M v w x y Q,HR X.K H α M->Rep X.K H α v x->Rep X.K H α w y->OP X.K H α ξ Q (f x y M)->r v w H Q
theorem two{r:R2}{f:Bo}(hb:BO X ξ r f){ta tb:TE}(qa:∀σ ρ H α M Q,SR X.K H α σ ρ->HR X.K H α M->OP X.K H α ξ Q (fa ρ M)->ta σ H Q)(qb:∀σ ρ H α M Q,SR X.K H α σ ρ->HR X.K H α M->OP X.K H α ξ Q (fb ρ M)->tb σ H Q):∀σ ρ H α M Q,SR X.K H α σ ρ->HR X.K H α M->OP X.K H α ξ Q (e2 f fa fb ρ M)->tOp r ta tb σ H Q:=by
 intro σ ρ H α M Q s h q;refine qa σ ρ H α M _ s h (OG.seq q fun x M1 v H1 α1 e1 h1 r1 q1=>?_);refine qb σ ρ H1 α1 M1 _ (s.mono e1) h1 (OG.seq q1 fun y M2 w H2 α2 e2 h2 r2 q2=>?_);exact hb H2 α2 M2 v w x y Q h2 (Rep.mono e2 r1) r2 q2
theorem Zg2(ho:OpR X (eM op) r)(hf:BO X ξ r f)(ha:DE X ξ a fa)(hb:DE X ξ b fb):DE X ξ (.BinOp a op b pos) (e2 f fa fb):=by
 obtain⟨ta,ha,qa⟩:=ha;obtain⟨tb,hb,qb⟩:=hb;exact⟨_,Zr8 ho ha hb,two hf qa qb⟩
theorem Zdq(ho:OpR X (dD op) r)(hf:BO X ξ r f)(ha:DE X ξ a fa)(hb:DE X ξ b fb)(hm:fR op b=false:=by first|exact Zlk _|with_unfolding_all rfl):DE X ξ (.Compare a [op] [b] pos) (e2 f fa fb):=by
 obtain⟨ta,ha,qa⟩:=ha;obtain⟨tb,hb,qb⟩:=hb;exact⟨_,Zmr ho ha hb hm,two hf qa qb⟩
def tv(f:Ev):Tv:=fun ρ M=>(f ρ M).bind fun x M1=>match x with|.bl k=>.ok k M1|_=>.bad
theorem Zpe{t:TE}{f:Ev}(qa:∀σ ρ H α M Q,SR X.K H α σ ρ->HR X.K H α M->OP X.K H α ξ Q (f ρ M)->t σ H Q):∀σ ρ H α M Q,SR X.K H α σ ρ->HR X.K H α M->OT X.K H α ξ Q (tv f ρ M)->ZoV t σ H Q:=by
 intro σ ρ H α M Q s h q;refine qa σ ρ H α M _ s h (OG.seq q fun x M1 v H1 α1 e1 h1 r1 q1=>?_);cases r1 with
 |bl k=>exact⟨k,rfl,q1 k H1 α1 Ext.refl h1 rfl⟩
 |_=>exact q1.elim
theorem Zy(ho:OpR X (dD op) r)(hf:BO X ξ r f)(ha:DE X ξ a fa)(hb:DE X ξ b fb)(hm:fR op b=false:=by first|exact Zlk _|with_unfolding_all rfl):DT X ξ (.Compare a [op] [b] pos) (tv (e2 f fa fb)):=by
 obtain⟨ta,ha,qa⟩:=ha;obtain⟨tb,hb,qb⟩:=hb;exact⟨_,Zms ho ha hb hm,Zpe (two hf qa qb)⟩
theorem Zak(h:DE X ξ e fa)(he:autoParam (∀whole,isTrue e X.env whole=(do let v <-whole;standAt e.pos;holding [v] (truthy v))) Qin._auto_1):DT X ξ e (tv fa):=by
 obtain⟨ta,ha,qa⟩:=h;exact⟨_,ZoF ha he,Zpe qa⟩
def Zcz(f g:Tv):Tv:=fun ρ M=>(f ρ M).bind fun k M1=>if k=true then g ρ M1 else .ok false M1
def Zf3(f g:Tv):Tv:=fun ρ M=>(f ρ M).bind fun k M1=>if k=true then .ok true M1 else g ρ M1
def Zb0(f:Tv):Tv:=fun ρ M=>(f ρ M).bind fun k M1=>.ok (!k) M1
theorem Zbi(ha:DT X ξ a ga):DW X ξ (.BoolOp .And [a] pos) ga:=let ⟨_,h,q⟩:=ha;⟨_,pw_and1 h,q⟩
theorem ZbB(ha:DT X ξ a ga):DW X ξ (.BoolOp .Or [a] pos) ga:=let ⟨_,h,q⟩:=ha;⟨_,pw_or1 h,q⟩
theorem Zcu(ha:DT X ξ a ga)(hb:DW X ξ (.BoolOp .And (b::rest) pos) gb):DW X ξ (.BoolOp .And (a::b::rest) pos) (Zcz ga gb):=by
 obtain⟨ta,ha,qa⟩:=ha;obtain⟨tb,hb,qb⟩:=hb;refine⟨_,pw_and ha hb,fun σ ρ H α M Q s h q=>?_⟩;refine qa σ ρ H α M _ s h (OG.seq q fun k M1 v H1 α1 e1 h1 r1 q1=>?_);cases r1;cases k with
 |true=>exact ZmD (qb σ ρ H1 α1 M1 Q (s.mono e1) h1 q1)
 |false=>exact ZmC (q1 false H1 α1 Ext.refl h1 rfl)
theorem Zdk(ha:DT X ξ a ga)(hb:DW X ξ (.BoolOp .Or (b::rest) pos) gb):DW X ξ (.BoolOp .Or (a::b::rest) pos) (Zf3 ga gb):=by
 obtain⟨ta,ha,qa⟩:=ha;obtain⟨tb,hb,qb⟩:=hb;refine⟨_,pw_or ha hb,fun σ ρ H α M Q s h q=>?_⟩;refine qa σ ρ H α M _ s h (OG.seq q fun k M1 v H1 α1 e1 h1 r1 q1=>?_);cases r1;cases k with
 |true=>exact ZmD (q1 true H1 α1 Ext.refl h1 rfl)
 |false=>exact ZmC (qb σ ρ H1 α1 M1 Q (s.mono e1) h1 q1)
theorem Zeg(h:DW X ξ e ga):DT X ξ e ga:=let ⟨_,h,q⟩:=h;⟨_,h.pt,q⟩
theorem Zb1(ha:DT X ξ a ga):DT X ξ (.UnaryOp .Not a pos) (Zb0 ga):=by
 obtain⟨ta,ha,qa⟩:=ha;refine⟨_,ZoG ha,fun σ ρ H α M Q s h q=>?_⟩;refine qa σ ρ H α M _ s h (OG.seq q fun k M1 v H1 α1 e1 h1 r1 q1=>?_);cases r1;exact q1 (!k) H1 α1 Ext.refl h1 rfl
def Zg3(f g:Ev):Ev:=fun ρ M=>(f ρ M).bind fun x M1=>match x with|.bl k=>if k=true then g ρ M1 else .ok (.bl false) M1|_=>.bad
def Zvy(f g:Ev):Ev:=fun ρ M=>(f ρ M).bind fun x M1=>match x with|.bl k=>if k=true then .ok (.bl true) M1 else g ρ M1|_=>.bad
def ZhN(f:Ev):Ev:=fun ρ M=>(f ρ M).bind fun x M1=>match x with|.bl k=>.ok (.bl (!k)) M1|_=>.bad
theorem Zlq{op}(ha:DE X ξ a fa):DE X ξ (.BoolOp op [a] pos) fa:=let ⟨_,h,q⟩:=ha;⟨_,ZoH h,q⟩
theorem Zlr(ha:DE X ξ a fa)(hb:DE X ξ (.BoolOp .And (b::rest) pos) fb):DE X ξ (.BoolOp .And (a::b::rest) pos) (Zg3 fa fb):=by
 obtain⟨ta,ha,qa⟩:=ha;obtain⟨tb,hb,qb⟩:=hb;refine⟨_,ZoI ha hb,fun σ ρ H α M Q s h q=>?_⟩;refine qa σ ρ H α M _ s h (OG.seq q fun x M1 v H1 α1 e1 h1 r1 q1=>?_);cases r1 with
 |bl k=>
  refine⟨k,rfl,?_⟩;cases k with
  |true=>exact ZmD (qb σ ρ H1 α1 M1 Q (s.mono e1) h1 q1)
  |false=>exact ZmC (q1 _ H1 α1 Ext.refl h1 (.bl false))
 |_=>exact q1.elim
theorem Zpf(ha:DE X ξ a fa):DE X ξ (.UnaryOp .Not a pos) (ZhN fa):=by
 obtain⟨ta,ha,qa⟩:=ha;refine⟨_,ZoJ ha,fun σ ρ H α M Q s h q=>?_⟩;refine qa σ ρ H α M _ s h (OG.seq q fun x M1 v H1 α1 e1 h1 r1 q1=>?_);cases r1 with
 |bl k=>exact⟨k,rfl,q1 _ H1 α1 Ext.refl h1 (.bl (!k))⟩
 |_=>exact q1.elim
def eIf(c:Tv)(f g:Ev):Ev:=fun ρ M=>(c ρ M).bind fun k M1=>if k=true then f ρ M1 else g ρ M1
theorem Zsk(hc:DT X ξ c ga)(ha:DE X ξ a fa)(hb:DE X ξ b fb):DE X ξ (.IfExp c a b pos) (eIf ga fa fb):=by
 obtain⟨tc,hc,qc⟩:=hc;obtain⟨ta,ha,qa⟩:=ha;obtain⟨tb,hb,qb⟩:=hb;refine⟨_,Zj3 hc ha hb,fun σ ρ H α M Q s h q=>?_⟩;refine qc σ ρ H α M _ s h (OG.seq q fun k M1 v H1 α1 e1 h1 r1 q1=>?_);cases r1;cases k with
 |true=>exact ZmD (qa σ ρ H1 α1 M1 Q (s.mono e1) h1 q1)
 |false=>exact ZmC (qb σ ρ H1 α1 M1 Q (s.mono e1) h1 q1)
noncomputable def aNil:Av:=fun _ M=>.ok [] M
def Zc(f:Ev)(g:Av):Av:=fun ρ M=>(f ρ M).bind fun x M1=>(g ρ M1).bind fun xs M2=>.ok (x::xs) M2
theorem Ze:DA X ξ [] aNil:=⟨_,Zll,fun _ _ H α M _ _ h q=>q _ H α Ext.refl h .nil⟩
theorem Za(ha:DE X ξ e fa)(hr:DA X ξ es fs)(hs:autoParam (av (e::es) X.env=(false,eval e X.env)::av es X.env) Qrf._auto_1):DA X ξ (e::es) (Zc fa fs):=by
 obtain⟨ta,ha,qa⟩:=ha;obtain⟨tb,hb,qb⟩:=hr;refine⟨_,Zfh ha hb hs,fun σ ρ H α M Q s h q=>?_⟩;refine qa σ ρ H α M _ s h (OG.seq q fun x M1 v H1 α1 e1 h1 r1 q1=>?_);refine qb σ ρ H1 α1 M1 _ (s.mono e1) h1 (OG.seq q1 fun y M2 w H2 α2 e2 h2 r2 q2=>?_);exact q2 _ H2 α2 Ext.refl h2 (.cons (Rep.mono e2 r1) r2)
def Zaq(f:Av):Ev:=fun ρ M=>(f ρ M).bind fun xs M1=>if xs.length<=1000 then .ok (.tup xs) M1 else .bad
def ZbN(f:Av):Ev:=fun ρ M=>(f ρ M).bind fun xs M1=>if xs.length<=1000 then .ok (.ref M1.length) (M1++[.lst xs])else .bad
theorem small(h:n<=1000):n<=sizeLine:=dw (ZhG h)
theorem ZE{x1}(ha:DA X ξ es fs):DE X ξ (.Tuple es x1 pos) (Zaq fs):=by
 obtain⟨ta,ha,qa⟩:=ha;refine⟨_,ZoW ha,fun σ ρ H α M Q s h q=>?_⟩;refine qa σ ρ H α M _ s h (OG.seq q fun xs M1 vs H1 α1 e1 h1 r1 q1=>?_);by_cases hl:xs.length<=1000
 ·rw[if_pos hl]at q1;refine⟨by rw[r1.length];exact small hl,fun p hp=>q1 _ _ α1 (Ext.new0 hp) (h1.tup hp) (.tup Zz (Reps.mono (Ext.new0 hp) r1))⟩
 ·rw[if_neg hl]at q1;exact q1.elim
theorem HR.last{K:Fg}(h:HR K H α M)(p:Addr):(α++[p])[M.length]?=some p:=by
 rw[<-h.len,aR (ac _),gy];rfl
theorem ZT(ha:DA X ξ es fs):DE X ξ (.List es pos) (ZbN fs):=by
 obtain⟨ta,ha,qa⟩:=ha;refine⟨_,ZoX ha,fun σ ρ H α M Q s h q=>?_⟩;refine qa σ ρ H α M _ s h (OG.seq q fun xs M1 vs H1 α1 e1 h1 r1 q1=>?_);by_cases hl:xs.length<=1000
 ·rw[if_pos hl]at q1;refine⟨by rw[r1.length];exact small hl,fun p hp=>q1 _ _ (α1++[p]) (Ext.new hp) (h1.new hp r1) (.ref ⟨h1.last p,Kn.lst Zz⟩)⟩
 ·rw[if_neg hl]at q1;exact q1.elim
end
end DL
namespace DL
open PyProof.Rows L2
open PySem.SeqAt (EqAt RcAt RcNeAt)
noncomputable def Zu(i j:Int):Prop:=fJ i<=64\/fJ j<=64\/(fJ i<=60000000/\fJ j<=60000000)
instance (i j:Int):Decidable (Zu i j):=by unfold Zu;infer_instance
theorem Zu.ok(h:Zu i j):IntMulOk i j:=by
 rcases h with h|h|⟨h1,h2⟩
 ·exact .of_left h
 ·exact .of_right h
 ·exact .of_le h1 h2 (by decide)
theorem Zq(m n:Nat)(h1:i.natAbs<2^m)(h2:j.natAbs<2^n)(hm:autoParam (m<=60000000) Qde._auto_1)(hn:autoParam (n<=60000000) Qde._auto_1):Zu i j:=
 .inr (.inr ⟨aU (intBits_le_iff.mpr h1) hm,aU (intBits_le_iff.mpr h2) hn⟩)
noncomputable def ZaN(j:Int):Prop:=j≠0/\j.natAbs.log2<9000
instance (j:Int):Decidable (ZaN j):=by unfold ZaN;infer_instance
theorem ZmK:OpR X (eM .Mult) (rI Zu fun i j=>.int (i*j)):=opI fun _ _ _ _ _ _ _ hc q=>mul_int q hc.ok
theorem Zkk:OpR X (eM .FloorDiv) (rI (fun _ j=>ZaN j) fun i j=>.int (i.fdiv j)):=opI fun _ _ _ _ _ _ _ hc q=>floordiv_int hc.1 q (.inl (PyProof.noPylong_of_log2 hc.2))
noncomputable def dAdd:Bo:=fun x y M=>match x,y with
 |.int i,.int j=>.ok (.int (i+j)) M
 |.str i,.str j=>if i.length+j.length<=100000 then .ok (.str (i++j)) M else .bad
 |.ref n,.ref m=>match M[n]?,M[m]? with
  |some (.lst xs),some (.lst ys)=>if xs.length+ys.length<=10000000 then .ok (.ref M.length) (M++[.lst (xs++ys)])else .bad
  |_,_=>.bad
 |.tup xs,.tup ys=>if xs.length+ys.length<=100000/\xs≠[]then .ok (.tup (xs++ys)) M else .bad
 |_,_=>.bad
noncomputable def dSub:Bo:=fun x y M=>match x,y with|.int i,.int j=>.ok (.int (i-j)) M|_,_=>.bad
def dMul:Bo:=fun x y M=>match x,y with|.int i,.int j=>if Zu i j then .ok (.int (i*j)) M else .bad|_,_=>.bad
def dDiv:Bo:=fun x y M=>match x,y with|.int i,.int j=>if ZaN j then .ok (.int (i.fdiv j)) M else .bad|_,_=>.bad
noncomputable def dMod:Bo:=fun x y M=>match x,y with|.int i,.int j=>if j≠0 then .ok (.int (i.fmod j)) M else .bad|_,_=>.bad
noncomputable def dPow:Bo:=fun x y M=>match x,y with|.int i,.int j=>if 0<=j/\j<=1000000/\i.natAbs<2^64 then .ok (.int (i^j.toNat)) M else .bad|_,_=>.bad
noncomputable def dLt:Bo:=fun x y M=>match x,y with|.int i,.int j=>.ok (.bl (decide (i<j))) M|_,_=>.bad
noncomputable def dLe:Bo:=fun x y M=>match x,y with|.int i,.int j=>.ok (.bl (decide (i<=j))) M|_,_=>.bad
noncomputable def dGt:Bo:=fun x y M=>match x,y with|.int i,.int j=>.ok (.bl (decide (j<i))) M|_,_=>.bad
noncomputable def dGe:Bo:=fun x y M=>match x,y with|.int i,.int j=>.ok (.bl (decide (j<=i))) M|_,_=>.bad
theorem Zpg(h:n<=100000):n<=sizeLine:=aU h (by decide)
section
variable {X:Cx}{ξ:XK}
theorem Zb2{r:R2}{f:Bo}{C:Int->Int->Prop}[∀i j,Decidable (C i j)]{g:Int->Int->D}{gV:Int->Int->V}(hg:∀H α i j,Rep X.K H α (gV i j) (g i j))(hf:∀x y M,f x y M=match x,y with|.int i,.int j=>if C i j then .ok (g i j) M else .bad|_,_=>.bad)(hr:∀i j H Q,C i j->Q (gV i j) H->r (.int i) (.int j) H Q):BO X ξ r f:=by
 intro H α M v w x y Q h rv rw' q;rw[hf]at q;cases rv<;>first|exact q.elim|skip
 cases rw'<;>first|exact q.elim|skip
 rename_i i j;by_cases c:C i j
 ·simp only[if_pos c]at q;exact hr i j H Q c (q _ H α Ext.refl h (hg H α i j))
 ·simp only[if_neg c]at q;exact q.elim
theorem Zph:BO X ξ (rI0 fun i j=>.int (i-j)) dSub:=Zb2 (C:=fun _ _=>True) (fun _ _ i j=>.int (i-j)) (fun x y M=>by cases x<;>cases y<;>simp[dSub]) fun i j H Q _ q=>⟨i,j,rfl,rfl,q⟩
theorem Zpi:BO X ξ (rI Zu fun i j=>.int (i*j)) dMul:=Zb2 (C:=Zu) (fun _ _ i j=>.int (i*j)) (fun x y M=>by cases x<;>cases y<;>rfl) fun i j H Q c q=>⟨i,j,rfl,rfl,c,q⟩
theorem Zpj:BO X ξ (rI (fun _ j=>ZaN j) fun i j=>.int (i.fdiv j)) dDiv:=Zb2 (C:=fun _ j=>ZaN j) (fun _ _ i j=>.int (i.fdiv j)) (fun x y M=>by cases x<;>cases y<;>rfl) fun i j H Q c q=>⟨i,j,rfl,rfl,c,q⟩
theorem Zpk:BO X ξ (rI (fun _ j=>j≠0) fun i j=>.int (i.fmod j)) dMod:=Zb2 (C:=fun _ j=>j≠0) (fun _ _ i j=>.int (i.fmod j)) (fun x y M=>by cases x<;>cases y<;>rfl) fun i j H Q c q=>⟨i,j,rfl,rfl,c,q⟩
theorem Zpl:BO X ξ (rI Zul fun i j=>.int (i^j.toNat)) dPow:=Zb2 (C:=fun i j=>0<=j/\j<=1000000/\i.natAbs<2^64) (fun _ _ i j=>.int (i^j.toNat)) (fun x y M=>by cases x<;>cases y<;>rfl) fun i j H Q c q=>⟨i,j,rfl,rfl,c,q⟩
theorem ZdN:BO X ξ (rI0 fun i j=>.bl (decide (i<j))) dLt:=Zb2 (C:=fun _ _=>True) (fun _ _ i j=>.bl _) (fun x y M=>by cases x<;>cases y<;>simp[dLt]) fun i j H Q _ q=>⟨i,j,rfl,rfl,q⟩
theorem Zkl:BO X ξ (rI0 fun i j=>.bl (decide (i<=j))) dLe:=Zb2 (C:=fun _ _=>True) (fun _ _ i j=>.bl _) (fun x y M=>by cases x<;>cases y<;>simp[dLe]) fun i j H Q _ q=>⟨i,j,rfl,rfl,q⟩
theorem Zfl:BO X ξ (rI0 fun i j=>.bl (decide (j<i))) dGt:=Zb2 (C:=fun _ _=>True) (fun _ _ i j=>.bl _) (fun x y M=>by cases x<;>cases y<;>simp[dGt]) fun i j H Q _ q=>⟨i,j,rfl,rfl,q⟩
theorem Zsl:BO X ξ (rI0 fun i j=>.bl (decide (j<=i))) dGe:=Zb2 (C:=fun _ _=>True) (fun _ _ i j=>.bl _) (fun x y M=>by cases x<;>cases y<;>simp[dGe]) fun i j H Q _ q=>⟨i,j,rfl,rfl,q⟩
theorem ZmL:OpR X (eM .Add) (fun x y H Q=>(rI0 (fun i j=>.int (i+j)) x y H Q\/(∃i j,x=.str i/\y=.str j/\i.length+j.length<=sizeLine/\Q (.str (i++j)) H))\/(rCat x y H Q\/Zmx X.K x y H Q)):=
 OpR.or (OpR.or ZoR ZgX) (OpR.or Zo5 Zmy)
theorem Zpm:BO X ξ (fun x y H Q=>(rI0 (fun i j=>.int (i+j)) x y H Q\/(∃i j,x=.str i/\y=.str j/\i.length+j.length<=sizeLine/\Q (.str (i++j)) H))\/(rCat x y H Q\/Zmx X.K x y H Q)) dAdd:=by
 intro H α M v w x y Q h rv rw' q;unfold dAdd at q
 split at q
 ·rename_i i j;cases rv;cases rw';exact .inl (.inl ⟨i,j,rfl,rfl,q _ H α Ext.refl h (.int (i+j))⟩)
 ·rename_i i j;cases rv;cases rw'
  split at q
  ·rename_i c;exact .inl (.inr ⟨i,j,rfl,rfl,Zpg c,q _ H α Ext.refl h (.str _)⟩)
  ·exact q.elim
 ·rename_i n m;cases rv with
  |@ref p _ hp=>
   cases rw' with
   |@ref p2 _ hp2=>
    split at q
    ·rename_i ds ds2 e1 e2
     split at q
     ·rename_i c;obtain⟨xs,g1,r1⟩:=h.at hp e1;obtain⟨ys,g2,r2⟩:=h.at hp2 e2;refine .inr (.inl ⟨p,p2,xs,ys,rfl,rfl,g1,g2,by rw[r1.length,r2.length];exact aU c (by decide),fun l hl=>?_⟩)
      exact q _ _ (α++[l]) (Ext.new hl) (h.new hl (r1.append r2)) (.ref ⟨h.last l,Kn.lst Zz⟩)
     ·exact q.elim
    ·exact q.elim
 ·rename_i ds ds2;cases rv with
  |@tup p xs _ hp rp=>
   cases rw' with
   |@tup p2 xs2 _ hp2 rp2=>
    split at q
    ·rename_i c;have nx:xs≠[]:=fun z=>c.2 (by have:=rp.length;rw[z]at this;exact da this.symm)
     refine .inr (.inr ⟨p,p2,xs,xs2,rfl,rfl,(SqT.of hp),(SqT.of hp2),nx,by rw[rp.length,rp2.length];exact Zpg c.1,fun z=>?_,fun _ l hl=>?_⟩)
     ·subst z;cases rp2;rw[cC]at q;exact q _ H α Ext.refl h (.tup hp rp)
     ·exact q _ _ α (Ext.new0 hl) (h.tup hl) (.tup Zz (Reps.mono (Ext.new0 hl) (rp.append rp2)))
    ·exact q.elim
 ·exact q.elim
theorem ZL(ha:DE X ξ a fa)(hb:DE X ξ b fb):DE X ξ (.BinOp a .Add b pos) (e2 dAdd fa fb):=Zg2 ZmL Zpm ha hb
theorem Zaa(ha:DE X ξ a fa)(hb:DE X ξ b fb):DE X ξ (.BinOp a .Sub b pos) (e2 dSub fa fb):=Zg2 ZoS Zph ha hb
theorem ZD(ha:DE X ξ a fa)(hb:DE X ξ b fb):DE X ξ (.BinOp a .Mult b pos) (e2 dMul fa fb):=Zg2 ZmK Zpi ha hb
theorem ZM(ha:DE X ξ a fa)(hb:DE X ξ b fb):DE X ξ (.BinOp a .FloorDiv b pos) (e2 dDiv fa fb):=Zg2 Zkk Zpj ha hb
theorem ZO(ha:DE X ξ a fa)(hb:DE X ξ b fb):DE X ξ (.BinOp a .Mod b pos) (e2 dMod fa fb):=Zg2 Zmq Zpk ha hb
theorem ZcP(ha:DE X ξ a fa)(hb:DE X ξ b fb):DE X ξ (.BinOp a .Pow b pos) (e2 dPow fa fb):=Zg2 ZoT Zpl ha hb
def Zfb(f:Ev):Ev:=fun ρ M=>(f ρ M).bind fun x M1=>match x with|.int i=>.ok (.int (-i)) M1|_=>.bad
theorem Zbb(ha:DE X ξ a fa):DE X ξ (.UnaryOp .USub a pos) (Zfb fa):=by
 obtain⟨ta,ha,qa⟩:=ha;refine⟨_,Zr9 ZoU ha,fun σ ρ H α M Q s h q=>?_⟩;refine qa σ ρ H α M _ s h (OG.seq q fun x M1 v H1 α1 e1 h1 r1 q1=>?_);cases r1 with
 |int i=>exact⟨i,rfl,q1 _ H1 α1 Ext.refl h1 (.int (-i))⟩
 |_=>exact q1.elim
def atD(xs:List D)(i:Int)(M:Sto):Out D:=match atI xs i with|some d=>.ok d M|none=>.bad
def dIx:Bo:=fun x y M=>match x,y with
 |.tup xs,.int i=>atD xs i M
 |.rol xs,.int i=>atD xs i M
 |.ref n,.int i=>match M[n]? with|some (.lst xs)=>atD xs i M|_=>.bad
 |_,_=>.bad
theorem Reps.atI{K:Fg}(r:Reps K H α vs ds)(h:L2.atI ds i=some d):∃v,L2.atI vs i=some v/\Rep K H α v d:=by
 unfold L2.atI at h ⊢;rw[r.length];cases e:ixN ds.length i with
 |none=>rw[e]at h;cases h
 |some j=>
  rw[e]at h;exact r.get h
theorem Zsm:BO X ξ (fun x y H Q=>Zum X.K x y H Q\/Zun X.K x y H Q) dIx:=by
 intro H α M v w x y Q h rv rw' q;have at':∀{ds:List D}{i:Int},OP X.K H α ξ Q (atD ds i M)->∃d,L2.atI ds i=some d/\OP X.K H α ξ Q (.ok d M):=fun{ds i} q=>by
  unfold atD at q;cases e:L2.atI ds i with
  |none=>rw[e]at q;exact q.elim
  |some d=>rw[e]at q;exact⟨d,rfl,q⟩
 unfold dIx at q
 split at q
 ·rename_i ds i;cases rw';cases rv with
  |@tup p xs _ hp rp=>
   obtain⟨d,e,q⟩:=at' q;obtain⟨v,h1,h2⟩:=rp.atI e;exact .inr ⟨p,xs,i,v,rfl,rfl,(SqT.of hp),h1,q v H α Ext.refl h h2⟩
 ·rename_i ds i;cases rw';cases rv with
  |@rol p xs _ hp rp=>
   obtain⟨d,e,q⟩:=at' q;obtain⟨v,h1,h2⟩:=rp.atI e;exact .inl ⟨p,xs,i,v,rfl,rfl,hp.sq,h1,q v H α Ext.refl h h2⟩
 ·rename_i n i;cases rw';cases rv with
  |@ref p _ hp=>
   split at q
   ·rename_i ds e1;obtain⟨d,e,q⟩:=at' q;obtain⟨xs,g1,r1⟩:=h.at hp e1;obtain⟨v,h1,h2⟩:=r1.atI e;exact .inl ⟨p,xs,i,v,rfl,rfl,SqL.of g1,h1,q v H α Ext.refl h h2⟩
   ·exact q.elim
 ·exact q.elim
theorem Zk(ha:DE X ξ a fa)(hb:DE X ξ b fb)(hs:ZhD b:=by exact fun _ _=>rfl):DE X ξ (.Subscript a b pos) (e2 dIx fa fb):=by
 obtain⟨ta,ha,qa⟩:=ha;obtain⟨tb,hb,qb⟩:=hb;exact⟨_,Zse (IxR.or ZmA Zo2) ha hb hs,two Zsm qa qb⟩
end
inductive Kd where
 |non|bl (b:Bool)|int (i:Int)|str (x:Str)|tup (xs:List D)|lst (xs:List D)
noncomputable def kd(M:Sto):D->Option Kd
 |.non=>some .non
 |.bl b=>some (.bl b)
 |.int i=>some (.int i)
 |.str x=>some (.str x)
 |.tup xs=>some (.tup xs)
 |.rol xs=>some (.lst xs)
 |.con xs=>some (.tup xs)
 |.ref n=>match M[n]? with|some (.lst xs)=>some (.lst xs)|_=>none
 |.err _ _=>none
 |.dk _=>none
 |.dt _=>none
 |.du _=>none
 |.fn _=>none
noncomputable def eqL(f:D->D->Option Bool):List D->List D->Option Bool
 |[],[]=>some true
 |x::xs,y::ys=>match f x y with|some a=>(match eqL f xs ys with|some b=>some (a&&b)|none=>none)|none=>none
 |_,_=>some false
def eqK(f:D->D->Option Bool):Kd->Kd->Option Bool
 |.non,.non=>some true
 |.bl a,.bl b=>some (a==b)
 |.bl a,.int b=>some ((if a then 1 else 0)==b)
 |.int a,.bl b=>some (a==(if b then 1 else 0))
 |.int a,.int b=>some (a==b)
 |.str a,.str b=>some (a==b)
 |.tup xs,.tup ys=>eqL f xs ys
 |.lst xs,.lst ys=>if xs.length=ys.length then eqL f xs ys else some false
 |_,_=>some false
def eqF:Nat->Sto->D->D->Option Bool
 |0,_,_,_=>none
 |n+1,M,x,y=>match kd M x,kd M y with|some a,some b=>eqK (eqF n M) a b|_,_=>none
inductive Vw(X:Cx) (H:Hp) (α:List Addr) (s:aC):Kd->aa->Prop where
 |non:Vw X H α s .non .none
 |bl (b:Bool):Vw X H α s (.bl b) (.bool b)
 |int (i:Int) (t:Tok):Vw X H α s (.int i) (.int i t)
 |str (x:Str) (t:Tok):Vw X H α s (.str x) (.str x t)
 |tup {p:Addr} {xs:List V} {ds:List D} {its:List aa}:s.heap.IsTuple p its.toArray->ZZ xs its->Reps X.K H α xs ds->Vw X H α s (.tup ds) (.ref p)
 |lst {p:Addr} {xs:List V} {ds:List D} {its:List aa}:s.heap.IsList p its.toArray->ZZ xs its->Reps X.K H α xs ds->Vw X H α s (.lst ds) (.ref p)
section
variable {X:Cx}{pins:Pn}{σ:L2.St}{H:Hp}{s:aC}{α:List Addr}{M:Sto}
theorem vw(I:Inv X pins σ H s)(h:HR X.K H α M)(r:Rep X.K H α v x)(ru:Z0 v u)(e:kd M x=some k):Vw X H α s k u:=by
 cases r with
 |non=>cases e;cases ru;exact .non
 |bl b=>cases e;cases ru;exact .bl b
 |int i=>cases e;obtain⟨t,rfl⟩:=ru;exact .int i t
 |str x=>cases e;obtain⟨t,rfl⟩:=ru;exact .str x t
 |err _ _ _=>cases e
 |dk _=>cases e
 |dt _=>cases e
 |du _=>cases e
 |fn _=>cases e
 |@tup p xs ds hp rp=>
  cases e;cases ru;obtain⟨its,h1,h2,_⟩:=I.tuple (SqT.of hp);exact .tup h2 h1 rp
 |@con p xs ds hp rp=>
  cases e;cases ru;obtain⟨its,h1,h2,_⟩:=I.tuple hp.sq;exact .tup h2 h1 rp
 |@rol p xs ds hp rp=>
  cases e;cases ru;obtain⟨its,h1,h2,_⟩:=I.list hp.sq;exact .lst h2.isList h1 rp
 |@ref p n hp=>
  cases ru;cases e1:M[n]? with
  |none=>simp only[kd,e1]at e;cases e
  |some o=>
   cases o with
   |lst ds=>
    simp only[kd,e1]at e;cases e;obtain⟨xs,g1,r1⟩:=h.at hp e1;obtain⟨its,h1,h2,_⟩:=I.list (SqL.of g1);exact .lst h2.isList h1 r1
noncomputable def Eq3(A:cX)(s:aC)(u z:aa)(b:Bool):Prop:=EqAt A s u z b/\RcAt A s u z b/\RcNeAt A s u z (!b)
theorem ZhO{f:D->D->Option Bool}:∀{xs ys:List D}{b:Bool},eqL f xs ys=some b->(∀(j:Nat) x y,xs[j]?=some x->ys[j]?=some y->∃c,f x y=some c)/\b=((aL (min xs.length ys.length)).all (fun j=>match xs[j]?,ys[j]? with|some x,some y=>(f x y).getD false|_,_=>false)&&xs.length==ys.length)
 |[],[],b,e=>by
  simp only[eqL,aq]at e;subst e;exact⟨fun j x y h=>(by simp at h),(by simp)⟩
 |x::xs,[],b,e=>by
  simp only[eqL,aq]at e;subst e;exact⟨fun j x y h1 h2=>(by simp at h2),(by simp)⟩
 |[],y::ys,b,e=>by
  simp only[eqL,aq]at e;subst e;exact⟨fun j x y h1 h2=>(by simp at h1),(by simp)⟩
 |x::xs,y::ys,b,e=>by
  cases e1:f x y with
  |none=>simp only[eqL,e1]at e;cases e
  |some a=>
   cases e2:eqL f xs ys with
   |none=>simp only[eqL,e1,e2]at e;cases e
   |some c=>
    simp only[eqL,e1,e2,aq]at e;subst e;obtain⟨h1,h2⟩:=ZhO e2;refine⟨fun j x' y' g1 g2=>?_,?_⟩
    ·cases j with
     |zero=>
      simp at g1 g2;subst g1 g2;exact⟨a,e1⟩
     |succ j=>
      simp at g1 g2;exact h1 j x' y' g1 g2
    ·have em:min (x::xs).length (y::ys).length=min xs.length ys.length+1:=by simp only[bO];lia
     rw[em,List.range_succ_eq_map,List.all_cons,List.all_map,h2];simp[e1,Bool.and_assoc,Function.comp_def]
theorem Zkm(I:Inv X pins σ H s)(h:HR X.K H α M):∀(n:Nat){v:V}{x y:D}{b:Bool},Rep X.K H α v x->Rep X.K H α v y->eqF n M x y=some b->b=true:=by
 intro n
 induction n with
 |zero=>intro v x y b _ _ e;simp only[eqF]at e;cases e
 |succ n ih=>
  have lists:∀(vs:List V)(xs ys:List D)(b:Bool),Reps X.K H α vs xs->Reps X.K H α vs ys->eqL (eqF n M) xs ys=some b->b=true:=by
   intro vs
   induction vs with
   |nil=>
    intro xs ys b r1 r2 e;cases r1;cases r2;simp only[eqL,aq]at e;exact e.symm
   |cons v vs iv=>
    intro xs ys b r1 r2 e;cases r1 with
    |cons p1 t1=>
     cases r2 with
     |cons p2 t2=>
      rename_i d1 ds1 d2 ds2;cases e1:eqF n M d1 d2 with
      |none=>simp only[eqL,e1]at e;cases e
      |some a=>
       cases e2:eqL (eqF n M) ds1 ds2 with
       |none=>simp only[eqL,e1,e2]at e;cases e
       |some c=>
        simp only[eqL,e1,e2,aq]at e;rw[<-e,ih p1 p2 e1,iv _ _ _ t1 t2 e2];rfl
  intro v x y b r1 r2 e;have nl:∀{p:Addr}{xs ys:List V},SqT X.K H p xs->SqL X.K H p ys->False:=fun{p xs ys} a c=>by
   obtain⟨i1,_,⟨o1,g1,c1,_⟩,_⟩:=I.tuple a;obtain⟨i2,_,⟨o2,_,g2,c2,_⟩,_⟩:=I.list c;rw[g1]at g2;cases g2;rw[c1]at c2;exact absurd c2 (by decide)
  have ll:∀{p:Addr}{n:Nat}{ds:List D},RefK H α 0 n p->M[n]?=some (.lst ds)->∃vs,SqL X.K H p vs/\Reps X.K H α vs ds:=fun{p n ds} a c=>by
   obtain⟨xs,g1,r1⟩:=h.at a c;exact⟨xs,SqL.of g1,r1⟩
  cases r1 with
  |non=>cases r2;simp only[eqF,kd,eqK,aq]at e;exact e.symm
  |bl c=>cases r2;simp only[eqF,kd,eqK,aq,beq_self_eq_true]at e;exact e.symm
  |int c=>cases r2;simp only[eqF,kd,eqK,aq,beq_self_eq_true]at e;exact e.symm
  |str c=>cases r2;simp only[eqF,kd,eqK,aq,beq_self_eq_true]at e;exact e.symm
  |err _ _ _=>simp[eqF,kd]at e
  |dk _=>simp[eqF,kd]at e
  |dt _=>simp[eqF,kd]at e
  |du _=>simp[eqF,kd]at e
  |fn _=>simp[eqF,kd]at e
  |@tup p xs ds hp rp=>
   cases r2 with
   |@tup _ xs2 ds2 hp2 rp2=>
    cases I.tuple_inj (SqT.of hp) (SqT.of hp2);simp only[eqF,kd,eqK]at e;exact lists _ _ _ _ rp rp2 e
   |@con _ xs2 ds2 hp2 rp2=>
    cases I.tuple_inj (SqT.of hp) hp2.sq;simp only[eqF,kd,eqK]at e;exact lists _ _ _ _ rp rp2 e
   |@rol _ xs2 ds2 hp2 rp2=>exact(nl (SqT.of hp) hp2.sq).elim
   |err _ _ _=>simp[eqF,kd]at e
   |dk _=>simp[eqF,kd]at e
   |dt _=>simp[eqF,kd]at e
   |du _=>simp[eqF,kd]at e
   |fn _=>simp[eqF,kd]at e
   |@ref _ n2 hp2=>
    obtain⟨ys,g⟩:=h.some_at hp2;exact(nl (SqT.of hp) (SqL.of g)).elim
  |@con p xs ds hp rp=>
   cases r2 with
   |@tup _ xs2 ds2 hp2 rp2=>
    cases I.tuple_inj hp.sq (SqT.of hp2);simp only[eqF,kd,eqK]at e;exact lists _ _ _ _ rp rp2 e
   |@con _ xs2 ds2 hp2 rp2=>
    cases I.tuple_inj hp.sq hp2.sq;simp only[eqF,kd,eqK]at e;exact lists _ _ _ _ rp rp2 e
   |@rol _ xs2 ds2 hp2 rp2=>exact(nl hp.sq hp2.sq).elim
   |err _ _ _=>simp[eqF,kd]at e
   |dk _=>simp[eqF,kd]at e
   |dt _=>simp[eqF,kd]at e
   |du _=>simp[eqF,kd]at e
   |fn _=>simp[eqF,kd]at e
   |@ref _ n2 hp2=>
    obtain⟨ys,g⟩:=h.some_at hp2;exact(nl hp.sq (SqL.of g)).elim
  |@rol p xs ds hp rp=>
   cases r2 with
   |@tup _ xs2 ds2 hp2 rp2=>exact(nl (SqT.of hp2) hp.sq).elim
   |@con _ xs2 ds2 hp2 rp2=>exact(nl hp2.sq hp.sq).elim
   |err _ _ _=>simp[eqF,kd]at e
   |dk _=>simp[eqF,kd]at e
   |dt _=>simp[eqF,kd]at e
   |du _=>simp[eqF,kd]at e
   |fn _=>simp[eqF,kd]at e
   |@rol _ xs2 ds2 hp2 rp2=>
    cases I.list_inj hp.sq hp2.sq;simp only[eqF,kd,eqK,if_pos (rp.length.symm.trans rp2.length)]at e;exact lists _ _ _ _ rp rp2 e
   |@ref _ n2 hp2=>
    cases e1:M[n2]? with
    |none=>simp only[eqF,kd,e1]at e;cases e
    |some o=>
     cases o with
     |lst ds2=>
      obtain⟨ys,g,r⟩:=ll hp2 e1;cases I.list_inj hp.sq g;simp only[eqF,kd,e1,eqK,if_pos (rp.length.symm.trans r.length)]at e;exact lists _ _ _ _ rp r e
  |@ref p n1 hp=>
   cases e0:M[n1]? with
   |none=>simp only[eqF,kd,e0]at e;cases e
   |some o0=>
    cases o0 with
    |lst ds=>
     obtain⟨xs,g0,rp⟩:=ll hp e0;cases r2 with
     |@tup _ xs2 ds2 hp2 rp2=>exact(nl (SqT.of hp2) g0).elim
     |@con _ xs2 ds2 hp2 rp2=>exact(nl hp2.sq g0).elim
     |err _ _ _=>simp[eqF,kd,e0]at e
     |dk _=>simp[eqF,kd,e0]at e
     |dt _=>simp[eqF,kd,e0]at e
     |du _=>simp[eqF,kd,e0]at e
     |fn _=>simp[eqF,kd,e0]at e
     |@rol _ xs2 ds2 hp2 rp2=>
      cases I.list_inj g0 hp2.sq;simp only[eqF,kd,e0,eqK,if_pos (rp.length.symm.trans rp2.length)]at e;exact lists _ _ _ _ rp rp2 e
     |@ref _ n2 hp2=>
      cases e1:M[n2]? with
      |none=>simp only[eqF,kd,e0,e1]at e;cases e
      |some o=>
       cases o with
       |lst ds2=>
        obtain⟨ys,g,r⟩:=ll hp2 e1;cases I.list_inj g0 g;simp only[eqF,kd,e0,e1,eqK,if_pos (rp.length.symm.trans r.length)]at e;exact lists _ _ _ _ rp r e
end
end DL
namespace DL
open PyProof.Rows L2
open PySem.SeqAt (EqAt RcAt RcNeAt)
section
variable {X:Cx}{pins:Pn}{σ:L2.St}{H:Hp}{s:aC}{α:List Addr}{M:Sto}
theorem Zf4(v1:ZZ xs1 i1)(v2:ZZ xs2 i2)(r1:Reps X.K H α xs1 ds1)(r2:Reps X.K H α xs2 ds2)(ih:∀(x y:D)(v w:V)(u z:aa)(b:Bool),eqF n M x y=some b->Rep X.K H α v x->Rep X.K H α w y->Z0 v u->Z0 w z->EqAt A s u z b)(e:eqL (eqF n M) ds1 ds2=some b):∃f:Nat->Bool,(∀(j:Nat)(h1:j<i1.toArray.size)(h2:j<i2.toArray.size),EqAt A s i1.toArray[j] i2.toArray[j] (f j))/\b=((aL (min i1.toArray.size i2.toArray.size)).all f&&i1.toArray.size==i2.toArray.size):=by
 obtain⟨g1,g2⟩:=ZhO e;have l1:i1.toArray.size=ds1.length:=by rw[ao,<-v1.length,r1.length]
 have l2:i2.toArray.size=ds2.length:=by rw[ao,<-v2.length,r2.length]
 refine⟨_,fun j h1 h2=>?_,by rw[l1,l2];exact g2⟩
 have k1:j<ds1.length:=by rw[<-l1];exact h1
 have k2:j<ds2.length:=by rw[<-l2];exact h2
 obtain⟨c,hc⟩:=g1 j _ _ (Gq k1) (Gq k2);obtain⟨v,a1,a2⟩:=r1.get (Gq k1);obtain⟨w,b1,b2⟩:=r2.get (Gq k2);obtain⟨u,a3,a4⟩:=v1.get a1;obtain⟨z,b3,b4⟩:=v2.get b1;have q:=ih _ _ v w u z c hc a2 b2 a4 b4;simp only[am k1,am k2,hc,Option.getD_some];have e1:i1.toArray[j]=u:=by
  have:=ar.mp a3
  obtain⟨_,z⟩:=this
  simpa using z
 have e2:i2.toArray[j]=z:=by
  have:=ar.mp b3
  obtain⟨_,z⟩:=this
  simpa using z
 rw[e1,e2];exact q
theorem ZhP(I:Inv X pins σ H s)(h:HR X.K H α M)(e:eqF n M x y=some b)(rx:Rep X.K H α v x)(ry:Rep X.K H α w y)(rv:Z0 v (.ref p))(rw':Z0 w (.ref q))(k:RcAt A s (.ref p) (.ref q) b)(k':RcNeAt A s (.ref p) (.ref q) (!b)):Eq3 A s (.ref p) (.ref q) b:=by
 refine⟨?_,k,k'⟩;by_cases c:p=q
 ·subst c;cases Z0.inj rv rw';rw[Zkm I h n rx ry e];exact EqAt.same _
 ·exact EqAt.of_refs c k
theorem eq3(I:Inv X pins σ H s)(h:HR X.K H α M):∀(n:Nat)(x y:D)(v w:V)(u z:aa)(b:Bool)(A:cX),A.units+n<iC->eqF n M x y=some b->Rep X.K H α v x->Rep X.K H α w y->Z0 v u->Z0 w z->Eq3 A s u z b:=by
 intro n
 induction n with
 |zero=>intro x y v w u z b A _ e;simp only[eqF]at e;cases e
 |succ n ih=>
  intro x y v w u z b A hn e rx ry rv rw';have hu:A.units<iC:=by lia
  have e0:=e;unfold eqF at e;cases ka:kd M x with
  |none=>rw[ka]at e;cases e
  |some ka'=>
   cases kb:kd M y with
   |none=>rw[ka,kb]at e;cases e
   |some kb'=>
    rw[ka,kb]at e;have va:=vw I h rx rv ka;have vb:=vw I h ry rw' kb;have deep:∀(x y:D)(v w:V)(u z:aa)(b:Bool),eqF n M x y=some b->Rep X.K H α v x->Rep X.K H α w y->Z0 v u->Z0 w z->EqAt A.in1 s u z b:=fun x y v w u z b e a1 a2 a3 a4=>
     (ih x y v w u z b A.in1 (by rw[cX.in1_units];lia) e a1 a2 a3 a4).1
    cases va with
    |non=>
     cases vb<;>simp only[eqK,aq]at e<;>subst e
     ·exact⟨EqAt.same _,.none_none,.none_none⟩
     ·exact⟨.none_bool _,.none_bool _,.none_bool _⟩
     ·exact⟨.none_int _ _,.none_int _ _,.none_int _ _⟩
     ·exact⟨.none_str _ _,.none_str _ _,.none_str _ _⟩
     ·rename_i g _ _;exact⟨.none_tuple g hu,.none_tuple g hu,.none_tuple g hu⟩
     ·rename_i g _ _;exact⟨.none_list g hu,.none_list g hu,.none_list g hu⟩
    |bl c=>
     cases vb<;>simp only[eqK,aq]at e<;>subst e
     ·exact⟨.bool_none _,.bool_none _,.bool_none _⟩
     ·exact⟨.bool_bool _ _,.bool_bool _ _,.bool_bool _ _⟩
     ·exact⟨.bool_int _ _ _,.bool_int _ _ _,.bool_int _ _ _⟩
     ·exact⟨.bool_str _ _ _,.bool_str _ _ _,.bool_str _ _ _⟩
     ·rename_i g _ _;exact⟨.bool_tuple _ g hu,.bool_tuple _ g hu,.bool_tuple _ g hu⟩
     ·rename_i g _ _;exact⟨.bool_list _ g hu,.bool_list _ g hu,.bool_list _ g hu⟩
    |int c t=>
     cases vb<;>simp only[eqK,aq]at e<;>subst e
     ·exact⟨.int_none _ _,.int_none _ _,.int_none _ _⟩
     ·exact⟨.int_bool _ _ _,.int_bool _ _ _,.int_bool _ _ _⟩
     ·exact⟨.int_int _ _ _ _,.int_int _ _ _ _,.int_int _ _ _ _⟩
     ·exact⟨.int_str _ _ _ _,.int_str _ _ _ _,.int_str _ _ _ _⟩
     ·rename_i g _ _;exact⟨.int_tuple _ _ g hu,.int_tuple _ _ g hu,.int_tuple _ _ g hu⟩
     ·rename_i g _ _;exact⟨.int_list _ _ g hu,.int_list _ _ g hu,.int_list _ _ g hu⟩
    |str c t=>
     cases vb<;>simp only[eqK,aq]at e<;>subst e
     ·exact⟨.str_none _ _,.str_none _ _,.str_none _ _⟩
     ·exact⟨.str_bool _ _ _,.str_bool _ _ _,.str_bool _ _ _⟩
     ·exact⟨.str_int _ _ _ _,.str_int _ _ _ _,.str_int _ _ _ _⟩
     ·exact⟨.str_str _ _ _ _,.str_str _ _ _ _,.str_str _ _ _ _⟩
     ·rename_i g _ _;exact⟨.str_tuple _ _ g hu,.str_tuple _ _ g hu,.str_tuple _ _ g hu⟩
     ·rename_i g _ _;exact⟨.str_list _ _ g hu,.str_list _ _ g hu,.str_list _ _ g hu⟩
    |@tup p xs ds its g1 w1 q1=>
     cases vb with
     |@tup p2 xs2 ds2 its2 g2 w2 q2=>
      simp only[eqK]at e;obtain⟨f,hf,hb⟩:=Zf4 w1 w2 q1 q2 deep e;subst hb;exact ZhP I h e0 rx ry rv rw' (.tuples g1 g2 hu hf) (.tuples g1 g2 hu hf)
     |@lst p2 xs2 ds2 its2 g2 w2 q2=>
      simp only[eqK,aq]at e;subst e;exact ZhP I h e0 rx ry rv rw' (.tuple_list g1 g2 hu) (.tuple_list g1 g2 hu)
     |non=>simp only[eqK,aq]at e;subst e;exact⟨.tuple_none g1 hu,.tuple_none g1 hu,.tuple_none g1 hu⟩
     |bl c=>simp only[eqK,aq]at e;subst e;exact⟨.tuple_bool _ g1 hu,.tuple_bool _ g1 hu,.tuple_bool _ g1 hu⟩
     |int c t=>simp only[eqK,aq]at e;subst e;exact⟨.tuple_int _ _ g1 hu,.tuple_int _ _ g1 hu,.tuple_int _ _ g1 hu⟩
     |str c t=>simp only[eqK,aq]at e;subst e;exact⟨.tuple_str _ _ g1 hu,.tuple_str _ _ g1 hu,.tuple_str _ _ g1 hu⟩
    |@lst p xs ds its g1 w1 q1=>
     cases vb with
     |@lst p2 xs2 ds2 its2 g2 w2 q2=>
      simp only[eqK]at e;have l1:its.toArray.size=ds.length:=by rw[ao,<-w1.length,q1.length]
      have l2:its2.toArray.size=ds2.length:=by rw[ao,<-w2.length,q2.length]
      by_cases c:ds.length=ds2.length
      ·rw[if_pos c]at e;have hs:its.toArray.size=its2.toArray.size:=by rw[l1,l2,c]
       obtain⟨f,hf,hb⟩:=Zf4 w1 w2 q1 q2 deep e;rw[hs,jJ,beq_self_eq_true,lh,<-hs]at hb;subst hb;exact ZhP I h e0 rx ry rv rw' (.lists g1 g2 hs hu hf) (.lists g1 g2 hs hu hf)
      ·rw[if_neg c]at e;have e':false=b:=aN e;subst e';have hs:(its.toArray.size != its2.toArray.size)=true:=by rw[l1,l2];simpa using c
       exact ZhP I h e0 rx ry rv rw' (.lists_lengths g1 g2 hs hu) (.lists_lengths g1 g2 hs hu)
     |@tup p2 xs2 ds2 its2 g2 w2 q2=>
      simp only[eqK,aq]at e;subst e;exact ZhP I h e0 rx ry rv rw' (.list_tuple g1 g2 hu) (.list_tuple g1 g2 hu)
     |non=>simp only[eqK,aq]at e;subst e;exact⟨.list_none g1 hu,.list_none g1 hu,.list_none g1 hu⟩
     |bl c=>simp only[eqK,aq]at e;subst e;exact⟨.list_bool _ g1 hu,.list_bool _ g1 hu,.list_bool _ g1 hu⟩
     |int c t=>simp only[eqK,aq]at e;subst e;exact⟨.list_int _ _ g1 hu,.list_int _ _ g1 hu,.list_int _ _ g1 hu⟩
     |str c t=>simp only[eqK,aq]at e;subst e;exact⟨.list_str _ _ g1 hu,.list_str _ _ g1 hu,.list_str _ _ g1 hu⟩
end
section
def ZrK(X:Cx)(neg:Bool):R2:=fun v w H Q=>∃α M x y b,HR X.K H α M/\Rep X.K H α v x/\Rep X.K H α w y/\eqF 12 M x y=some b/\Q (.bl (neg ^^ b)) H
theorem Zau(hu:X.A.units+64<iC):OpR X (dD .Eq) (ZrK X false):=by
 intro pins s σ H v w u z Q I rv rw' ⟨α,M,x,y,b,h,rx,ry,e,q⟩;refine(eq3 I h 12 x y v w u z b X.A (by lia) e rx ry rv rw').2.1 _ _ _ _ ⟨.bl b,H,I,rfl,?_⟩
 simpa using q
theorem ZaT(hu:X.A.units+64<iC):OpR X (dD .NotEq) (ZrK X true):=by
 intro pins s σ H v w u z Q I rv rw' ⟨α,M,x,y,b,h,rx,ry,e,q⟩;refine(eq3 I h 12 x y v w u z b X.A (by lia) e rx ry rv rw').2.2 _ _ _ _ ⟨.bl (!b),H,I,rfl,?_⟩
 simpa using q
def dEq:Bo:=fun x y M=>match eqF 12 M x y with|some b=>.ok (.bl b) M|none=>.bad
def dNe:Bo:=fun x y M=>match eqF 12 M x y with|some b=>.ok (.bl (!b)) M|none=>.bad
theorem Zbz:BO X ξ (ZrK X false) dEq:=by
 intro H α M v w x y Q h rv rw' q;unfold dEq at q;cases e:eqF 12 M x y with
 |none=>rw[e]at q;exact q.elim
 |some b=>rw[e]at q;exact⟨α,M,x,y,b,h,rv,rw',e,by simpa using q _ H α Ext.refl h (.bl b)⟩
theorem Zcg:BO X ξ (ZrK X true) dNe:=by
 intro H α M v w x y Q h rv rw' q;unfold dNe at q;cases e:eqF 12 M x y with
 |none=>rw[e]at q;exact q.elim
 |some b=>rw[e]at q;exact⟨α,M,x,y,b,h,rv,rw',e,by simpa using q _ H α Ext.refl h (.bl (!b))⟩
noncomputable def ZhQ:V->Bool
 |.non=>true
 |.bl _=>true
 |_=>false
def rIs(neg:Bool):R2:=fun v w H Q=>ZhQ w=true/\Q (.bl (neg ^^ decide (v=w))) H
theorem Zf5(rv:Z0 v u)(rw':Z0 w z)(p:ZhQ w=true):plainIs u z=true/\(u==z)=decide (v=w):=by
 cases w with
 |non=>
  cases rw';cases v with
  |non=>cases rv;exact⟨rfl,rfl⟩
  |bl b=>cases rv;exact⟨rfl,by rw[decide_eq_false (fun z=>(nomatch z))];rfl⟩
  |int b=>obtain⟨t,rfl⟩:=rv;exact⟨rfl,by rw[decide_eq_false (fun z=>(nomatch z))];rfl⟩
  |str b=>obtain⟨t,rfl⟩:=rv;exact⟨rfl,by rw[decide_eq_false (fun z=>(nomatch z))];rfl⟩
  |byt b=>obtain⟨t,rfl⟩:=rv;exact⟨rfl,by rw[decide_eq_false (fun z=>(nomatch z))];rfl⟩
  |flt b=>obtain⟨t,rfl⟩:=rv;exact⟨rfl,by rw[decide_eq_false (fun z=>(nomatch z))];rfl⟩
  |ref b=>cases rv;exact⟨rfl,by rw[decide_eq_false (fun z=>(nomatch z))];rfl⟩
  |ty b=>cases rv;exact⟨rfl,by rw[decide_eq_false (fun z=>(nomatch z))];rfl⟩
 |bl c=>
  cases rw';cases v with
  |non=>cases rv;exact⟨rfl,by rw[decide_eq_false (fun z=>(nomatch z))];rfl⟩
  |bl b=>cases rv;refine⟨rfl,?_⟩;cases b<;>cases c<;>rfl
  |int b=>obtain⟨t,rfl⟩:=rv;exact⟨rfl,by rw[decide_eq_false (fun z=>(nomatch z))];rfl⟩
  |str b=>obtain⟨t,rfl⟩:=rv;exact⟨rfl,by rw[decide_eq_false (fun z=>(nomatch z))];rfl⟩
  |byt b=>obtain⟨t,rfl⟩:=rv;exact⟨rfl,by rw[decide_eq_false (fun z=>(nomatch z))];rfl⟩
  |flt b=>obtain⟨t,rfl⟩:=rv;exact⟨rfl,by rw[decide_eq_false (fun z=>(nomatch z))];rfl⟩
  |ref b=>cases rv;exact⟨rfl,by rw[decide_eq_false (fun z=>(nomatch z))];rfl⟩
  |ty b=>cases rv;exact⟨rfl,by rw[decide_eq_false (fun z=>(nomatch z))];rfl⟩
 |_=>cases p
theorem Zls:OpR X (dD .Is) (rIs false):=by
 intro pins s σ H v w u z Q I rv rw' ⟨p,q⟩;obtain⟨h1,h2⟩:=Zf5 rv rw' p;refine wpAny_is_plain h1 ⟨.bl (u==z),H,I,rfl,?_⟩;rw[h2]
 simpa using q
theorem Zew:OpR X (dD .IsNot) (rIs true):=by
 intro pins s σ H v w u z Q I rv rw' ⟨p,q⟩;obtain⟨h1,h2⟩:=Zf5 rv rw' p;refine wpAny_isNot_plain h1 ⟨.bl (!(u==z)),H,I,rfl,?_⟩;rw[h2]
 simpa using q
noncomputable def isP:D->D->Option Bool
 |.non,.non=>some true
 |.bl a,.bl b=>some (a==b)
 |_,.non=>some false
 |_,.bl _=>some false
 |_,_=>none
def dIs:Bo:=fun x y M=>match isP x y with|some b=>.ok (.bl b) M|none=>.bad
def dIsNot:Bo:=fun x y M=>match isP x y with|some b=>.ok (.bl (!b)) M|none=>.bad
theorem Zlt{K:Fg}(rv:Rep K H α v x)(rw':Rep K H α w y)(e:isP x y=some b):ZhQ w=true/\decide (v=w)=b:=by
 unfold isP at e
 split at e
 ·cases rv;cases rw';cases e;exact⟨rfl,rfl⟩
 ·rename_i c d;cases rv;cases rw';cases e;refine⟨rfl,?_⟩;cases c<;>cases d<;>rfl
 ·rename_i hx;cases rw';cases e;refine⟨rfl,decide_eq_false fun z=>?_⟩;subst z;cases rv;exact hx rfl
 ·rename_i c hx;cases rw';cases e;refine⟨rfl,decide_eq_false fun z=>?_⟩;subst z;cases rv;exact hx _ rfl
 ·cases e
theorem Zpn:BO X ξ (rIs false) dIs:=by
 intro H α M v w x y Q h rv rw' q;unfold dIs at q;cases e:isP x y with
 |none=>rw[e]at q;exact q.elim
 |some b=>
  rw[e]at q;obtain⟨p,d⟩:=Zlt rv rw' e;exact⟨p,by rw[d];simpa using q _ H α Ext.refl h (.bl b)⟩
theorem Zf6:BO X ξ (rIs true) dIsNot:=by
 intro H α M v w x y Q h rv rw' q;unfold dIsNot at q;cases e:isP x y with
 |none=>rw[e]at q;exact q.elim
 |some b=>
  rw[e]at q;obtain⟨p,d⟩:=Zlt rv rw' e;exact⟨p,by rw[d];simpa using q _ H α Ext.refl h (.bl (!b))⟩
noncomputable def Zpo:D->Bool
 |.non=>true
 |.bl _=>true
 |.int _=>true
 |.str _=>true
 |_=>false
noncomputable def Zvz:D->D->Bool
 |.non,.non=>true
 |.bl a,.bl b=>a==b
 |.bl a,.int b=>(if a then 1 else 0)==b
 |.int a,.bl b=>a==(if b then 1 else 0)
 |.int a,.int b=>a==b
 |.str a,.str b=>a==b
 |_,_=>false
noncomputable def Zex(M:Sto):D->Option (List D)
 |.tup xs=>some xs
 |.rol xs=>some xs
 |.con xs=>some xs
 |.ref n=>match M[n]? with|some (.lst xs)=>some xs|_=>none
 |_=>none
theorem Zfm{K:Fg}(h:HR K H α M)(r:Rep K H α v x)(e:Zex M x=some ds):∃p xs,v=.ref p/\(SqL K H p xs\/SqT K H p xs)/\Reps K H α xs ds:=by
 cases r with
 |@tup p xs ds hp rp=>cases e;exact⟨p,xs,rfl,.inr (SqT.of hp),rp⟩
 |@con p xs ds hp rp=>cases e;exact⟨p,xs,rfl,.inr hp.sq,rp⟩
 |@rol p xs ds hp rp=>cases e;exact⟨p,xs,rfl,.inl hp.sq,rp⟩
 |@ref p n hp=>
  cases e1:M[n]? with
  |none=>simp only[Zex,e1]at e;cases e
  |some o=>
   cases o with
   |lst es=>
    simp only[Zex,e1]at e;cases e;obtain⟨xs,g1,r1⟩:=h.at hp e1;exact⟨p,xs,rfl,.inl (SqL.of g1),r1⟩
 |_=>cases e
def inD(x y:D)(M:Sto):Option Bool:=match Zex M y with|some ds=>if Zpo x=true/\ds.all Zpo=true then some (ds.any fun y=>Zvz y x)else none|none=>none
variable {fs:Av}{x:Str}{id T:String}
def Zj(f:W3)(fs:Av):Ev:=fun ρ M=>(fs ρ M).bind f
def CO(X:Cx)(ξ:XK)(r:List V->Hp->VK->Prop)(f:W3):Prop:=∀H α M vs ds Q,HR X.K H α M->Reps X.K H α vs ds->OP X.K H α ξ Q (f ds M)->r vs H Q
theorem Zp(hc:ZbM X (.builtin id) r)(hf:CO X ξ r f)(hm:X.mg x=none)(hv:bB x=some (.builtin id))(ha:DA X ξ (e::es) fs)(hg:autoParam (Gl X x) Qrf._auto_1)(hn:autoParam (x≠"__name__") Qde._auto_1)(hdb:autoParam ((x==("__debug__":Str))=false) Qde._auto_1)
  (he:av (e::es) X.env=(false,eval e X.env)::av es X.env:=by rfl) (hpl:(cN pos (av es X.env)).any (·.1)=false:=by rfl):DE X ξ (.Call (.Name x p) (e::es) [] pos) (Zj f fs):=by
 obtain⟨ta,ha,qa⟩:=ha;refine⟨_,ZfY hc hg hm hv ha hn hdb he hpl,fun σ ρ H α M Q s h q=>?_⟩;exact qa σ ρ H α M _ s h (OG.seq q fun ds M1 vs H1 α1 e1 h1 r1 q1=>hf H1 α1 M1 vs ds Q h1 r1 q1)
theorem Zbj(hc:ZbM X (.type T) r)(hf:CO X ξ r f)(hm:X.mg x=none)(hv:bB x=some (.type T))(ha:DA X ξ (e::es) fs)(hg:autoParam (Gl X x) Qrf._auto_1)(hn:autoParam (x≠"__name__") Qde._auto_1)(hdb:autoParam ((x==("__debug__":Str))=false) Qde._auto_1)
  (he:av (e::es) X.env=(false,eval e X.env)::av es X.env:=by rfl) (hpl:(cN pos (av es X.env)).any (·.1)=false:=by rfl):DE X ξ (.Call (.Name x p) (e::es) [] pos) (Zj f fs):=by
 obtain⟨ta,ha,qa⟩:=ha;refine⟨_,Zhz hc hg hm hv ha hn hdb he hpl,fun σ ρ H α M Q s h q=>?_⟩;exact qa σ ρ H α M _ s h (OG.seq q fun ds M1 vs H1 α1 e1 h1 r1 q1=>hf H1 α1 M1 vs ds Q h1 r1 q1)
def bLen:W3:=fun ds M=>match ds with
 |[x]=>match Zex M x with|some xs=>.ok (.int xs.length) M|none=>.bad
 |_=>.bad
theorem ZU:CO X ξ (fun xs H Q=>∃p ys,xs=[.ref p]/\(SqL X.K H p ys\/SqT X.K H p ys)/\Q (.int ys.length) H) bLen:=by
 intro H α M vs ds Q h rs q;unfold bLen at q;cases rs with
 |nil=>exact q.elim
 |@cons v x vs ds r t=>
  cases t with
  |cons _ _=>exact q.elim
  |nil=>
  cases e:Zex M x with
  |none=>simp only[e]at q;exact q.elim
  |some ys=>
   simp only[e]at q;obtain⟨p,xs,rfl,h2,h3⟩:=Zfm h r e;exact⟨p,xs,rfl,h2,by rw[h3.length];exact q _ H α Ext.refl h (.int _)⟩
noncomputable def bAbs:W3:=fun ds M=>match ds with|[.int i]=>.ok (.int (if i<0 then -i else i)) M|_=>.bad
theorem ZbC:CO X ξ (fun xs H Q=>∃i,xs=[.int i]/\Q (.int (if i<0 then -i else i)) H) bAbs:=by
 intro H α M vs ds Q h rs q;unfold bAbs at q
 split at q
 ·cases rs with
  |cons r t=>
   cases t;cases r;exact⟨_,rfl,q _ H α Ext.refl h (.int _)⟩
 ·exact q.elim
noncomputable def bMax:W3:=fun ds M=>match ds with|[.int i,.int j]=>.ok (.int (if j>i then j else i)) M|_=>.bad
noncomputable def bMin:W3:=fun ds M=>match ds with|[.int i,.int j]=>.ok (.int (if j<i then j else i)) M|_=>.bad
theorem Zlu{g:Int->Int->Int}(hf:∀ds M,f ds M=match ds with|[.int i,.int j]=>.ok (.int (g i j)) M|_=>.bad):CO X ξ (fun xs H Q=>∃i j,xs=[.int i,.int j]/\Q (.int (g i j)) H) f:=by
 intro H α M vs ds Q h rs q;rw[hf]at q
 split at q
 ·rename_i i j;cases rs with
  |cons r t=>
   cases t with
   |cons r' t'=>
    cases t';cases r;cases r';exact⟨i,j,rfl,q _ H α Ext.refl h (.int _)⟩
 ·exact q.elim
theorem Zpp:CO X ξ (fun xs H Q=>∃i j,xs=[.int i,.int j]/\Q (.int (if j>i then j else i)) H) bMax:=Zlu (g:=fun i j=>if j>i then j else i) fun ds M=>rfl
theorem Zpq:CO X ξ (fun xs H Q=>∃i j,xs=[.int i,.int j]/\Q (.int (if j<i then j else i)) H) bMin:=Zlu (g:=fun i j=>if j<i then j else i) fun ds M=>rfl
noncomputable def bInt:W3:=fun ds M=>match ds with|[.int i]=>.ok (.int i) M|[.bl k]=>.ok (.int (if k then 1 else 0)) M|_=>.bad
theorem Zlv:CO X ξ (fun xs H Q=>(∃i,xs=[.int i]/\Q (.int i) H)\/∃k,xs=[.bl k]/\Q (.int (if k then 1 else 0)) H) bInt:=by
 intro H α M vs ds Q h rs q;unfold bInt at q
 split at q
 ·cases rs with
  |cons r t=>
   cases t;cases r;exact .inl ⟨_,rfl,q _ H α Ext.refl h (.int _)⟩
 ·cases rs with
  |cons r t=>
   cases t;cases r;exact .inr ⟨_,rfl,q _ H α Ext.refl h (.int _)⟩
 ·exact q.elim
def bList:W3:=fun ds M=>match ds with
 |[x]=>match Zex M x with|some xs=>.ok (.ref M.length) (M++[.lst xs])|none=>.bad
 |_=>.bad
theorem ZhR:CO X ξ (fun xs H Q=>∃p ys,xs=[.ref p]/\(SqL X.K H p ys\/SqT X.K H p ys)/\∀l,H l=none->Q (.ref l) (upd H l (.lst ys))) bList:=by
 intro H α M vs ds Q h rs q;unfold bList at q;cases rs with
 |nil=>exact q.elim
 |@cons v x vs ds r t=>
  cases t with
  |cons _ _=>exact q.elim
  |nil=>
  cases e:Zex M x with
  |none=>simp only[e]at q;exact q.elim
  |some ys=>
   simp only[e]at q;obtain⟨p,xs,rfl,h2,h3⟩:=Zfm h r e;exact⟨p,xs,rfl,h2,fun l hl=>q _ _ (α++[l]) (Ext.new hl) (h.new hl h3) (.ref ⟨h.last l,Kn.lst Zz⟩)⟩
def ZaH(M:Sto)(x:D):Option String:=match kd M x with
 |some .non=>some "NoneType"
 |some (.bl _)=>some "bool"
 |some (.int _)=>some "int"
 |some (.str _)=>some "str"
 |some (.tup _)=>some "tuple"
 |some (.lst _)=>some "list"
 |none=>none
noncomputable def ZcE(t T:String):Bool:=t==T||(t=="bool"&&T=="int")
def ZhS(T:String)(f:Ev):Ev:=fun ρ M=>(f ρ M).bind fun x M1=>match ZaH M1 x with|some t=>.ok (.bl (ZcE t T)) M1|none=>.bad
def ZvA(X:Cx)(T:String):List V->Hp->VK->Prop:=fun vs H Q=>∃v α M x t,vs=[v,.ty T]/\HR X.K H α M/\Rep X.K H α v x/\ZaH M x=some t/\Q (.bl (ZcE t T)) H
structure Kit(K:Fg) (T:String):Prop where
 non:PySem.W.kitOne K (.type "NoneType") (.type T)=some (ZcE "NoneType" T)
 bl:PySem.W.kitOne K (.type "bool") (.type T)=some (ZcE "bool" T)
 int:PySem.W.kitOne K (.type "int") (.type T)=some (ZcE "int" T)
 str:PySem.W.kitOne K (.type "str") (.type T)=some (ZcE "str" T)
 tup:PySem.W.kitOne K (.type "tuple") (.type T)=some (ZcE "tuple" T)
 lst:PySem.W.kitOne K (.type "list") (.type T)=some (ZcE "list" T)
theorem ZhT{K:Fg}:Kit K "int":=⟨rfl,rfl,rfl,rfl,rfl,rfl⟩
theorem Zf7{K:Fg}:Kit K "bool":=⟨rfl,rfl,rfl,rfl,rfl,rfl⟩
theorem Zey{K:Fg}:Kit K "tuple":=⟨rfl,rfl,rfl,rfl,rfl,rfl⟩
theorem Zkn{K:Fg}:Kit K "list":=⟨rfl,rfl,rfl,rfl,rfl,rfl⟩
theorem Zko(kt:Kit X.K T):ZbM X (.builtin "isinstance") (ZvA X T):=by
 intro pins s σ H vs us Q I rs ⟨v,α,M,x,t,e1,h,rx,et,q⟩;subst e1;obtain⟨u,w,rfl,ru,rw'⟩:=Zka rs;cases rw';unfold ZaH at et;cases ek:kd M x with
 |none=>rw[ek]at et;cases et
 |some k=>
  rw[ek]at et;have va:=vw I h rx ru ek;have fin:∀tk,EP X pins σ Q (.bool (ZcE t T)) {s with toks:=tk}:=fun tk=>⟨.bl _,H,I.tok tk,rfl,q⟩;cases va with
  |non=>cases et;exact PySem.W.kia_one PySem.W.kitx_none I.kIn dG kt.non (fun z=>nomatch z) fin
  |bl b=>cases et;exact PySem.W.kia_one PySem.W.kitx_bool I.kIn dG kt.bl (fun z=>nomatch z) fin
  |int i t=>cases et;exact PySem.W.kia_one PySem.W.kitx_int I.kIn dG kt.int (fun z=>nomatch z) fin
  |str i t=>cases et;exact PySem.W.kia_one PySem.W.kitx_str I.kIn dG kt.str (fun z=>nomatch z) fin
  |tup g _ _=>cases et;obtain⟨o,h1,h2,_⟩:=g;exact PySem.W.kia_one PySem.W.kitx_tuple I.kIn ⟨o,h1,h2⟩ kt.tup (fun z=>nomatch z) fin
  |lst g _ _=>cases et;obtain⟨o,h1,h2,_⟩:=g;exact PySem.W.kia_one PySem.W.kitx_list I.kIn ⟨o,h1,h2⟩ kt.lst (fun z=>nomatch z) fin
theorem ZcQ(kt:Kit X.K T)(hm:X.mg "isinstance"=none)(hmT:X.mg y=none)(hvT:bB y=some (.type T))(ha:DE X ξ e fa)(hg:autoParam (Gl X "isinstance") Qrf._auto_1)(hgT:autoParam (Gl X y) Qrf._auto_1)(hn:autoParam (y≠"__name__") Qde._auto_1)(hdb:autoParam ((y==("__debug__":Str))=false) Qde._auto_1)(he:autoParam (av [e,.Name y p2] X.env=(false,eval e X.env)::av [.Name y p2] X.env) Qrf._auto_1)(he2:autoParam (av [.Name y p2] X.env=(false,eval (.Name y p2) X.env)::av [] X.env) Qrf._auto_1)(hpl:autoParam ((cN pos (av [.Name y p2] X.env)).any (·.1)=false) Qrf._auto_1):DE X ξ (.Call (.Name "isinstance" p) [e,.Name y p2] [] pos) (ZhS T fa):=by
 obtain⟨ta,ha,qa⟩:=ha;refine⟨_,ZfY (Zko kt) hg hm (by with_unfolding_all rfl) (Zfh ha (Zfh (Zmj hgT hmT hvT (v:=.ty T) rfl hn hdb) Zll he2) he) (by decide) (by decide) he hpl,fun σ ρ H α M Q s h q=>?_⟩
 refine qa σ ρ H α M _ s h (OG.seq q fun x M1 v H1 α1 e1 h1 r1 q1=>?_);cases et:ZaH M1 x with
 |none=>simp only[et]at q1;exact q1.elim
 |some t=>
  simp only[et]at q1;exact⟨v,α1,M1,x,t,rfl,h1,r1,et,q1 _ H1 α1 Ext.refl h1 (.bl _)⟩
end
end DL
namespace DL
open PyProof.Rows L2
def CXE(P:cw)(w:cL):CXT:=fun outer H s E e s'=>∃(ea C:Addr) (dct:Option Addr) (B:Heap) (H':Hp),e=.ref ea/\s'.os=s.os/\gW s'.gens/\Un (frs outer) [] H H' s.heap s'.heap/\HOk P w H' s'.heap/\
 DQ.Fly B outer ea (.ref C) dct .none s'.heap/\(∀b u,H' b=some u->∃o,B.get? b=some o)/\(∀b o,s.heap.get? b=some o->b∉frs outer->∃o',B.get? b=some o')/\E (.ref C) dct H'
structure Thr(X:Cx) (ξ:XK):Prop where
 own:eV (aw X.prog X.w) X.A X.env X.xe
 ps:Zhx (CXE X.prog X.w) X ξ
 mak:∀(pins:Pn)(σ:L2.St)(H H':Hp)(s s':aC)(e:Addr)(oe:Obj)(vs:Array aa)(C:Addr),Inv X pins σ H s->s'.os=s.os->gW s'.gens->Un (frs X.stack) [] H H' s.heap s'.heap->HOk X.prog X.w H' s'.heap->s.heap.get? e=none->s'.heap.get? e=some oe->oe.cls=.ref C->
  oe.data=.fields vs->vs[1]?=some .none->vs[2]?=some .none->H' e=none->ξ (.ref C) oe.dict H'->X.xe (.ref e) s'
theorem Zez{h b1 b2:Heap}:∀{l:List Env},h.FunFrames b1 l->(∀b∈frs l,b2.get? b=none)->h.FunFrames b2 l
 |[],_,_=>trivial
 |env::r,⟨h1,⟨L,o,h2,h3,h4,h5⟩,h6⟩,k=>⟨h1,⟨L,o,h2,k L (by unfold frs;rw[dj,h2];exact bE),h4,h5⟩,Zez h6 fun b hb=>k b (by
   unfold frs;rw[dj,h2];exact aA _ hb)⟩
section
variable {s:aC}{B:Heap}
theorem Zlw(hx:X.ex=[])(I:Inv X pins σ H s)(u:Un (frs X.stack) [] H H' s.heap h1)(hok:HOk X.prog X.w H' h1)(t1:∀b q,H' b=some q->∃o,B.get? b=some o)(t2:∀b o,s.heap.get? b=some o->b∉frs X.stack->∃o',B.get? b=some o')(st1:B.StaysIn h1)(st2:B.StaysIn h2)(up:h1.UpToSlots h2):Un X.fs [] X.H₀ H' X.s₀.heap h2/\HOk X.prog X.w H' h2/\∀b o,X.s₀.heap.get? b=some o->b∉X.fs->∃o',B.get? b=some o':=by
 have kB:∀b ob o,B.get? b=some ob->h1.get? b=some o->h2.get? b=some o:=fun b ob o e x=>by
  have z:=st1 b ob e;rw[x]at z;cases z;exact st2 b _ e
 have nx:∀b,b∉X.ex:=fun b=>by rw[hx];simp
 have nL:∀b o,X.s₀.heap.get? b=some o->b∉X.fs->b∉frs X.stack:=fun b o e n z=>by
  rcases ah.mp (I.stkSub b z)with q|q
  ·exact absurd (Hz e) (by rw[q];exact fA I.ok.above)
  ·exact n q
 have th:∀b o,X.s₀.heap.get? b=some o->b∉X.fs->∃o',B.get? b=some o':=fun b o e n=>by
  obtain⟨o',e'⟩:=I.base.there b o e (nx b);exact t2 b o' e' (nL b o e n)
 have sl:∀b o,X.s₀.heap.get? b=some o->X.H₀ b=none->b∈X.fs->∃sl,h2.get? b=some {o with slots:=sl}:=fun b o e n hb=>by
  obtain⟨s1,e1⟩:=I.base.slot b o e n hb (nx b);obtain⟨s2,e2⟩:=u.any e1 (I.base.free b o e n (nx b)) (by simp)
  obtain⟨_,o',g1,g2⟩:=I.ok.funs.mem hb;rw[e]at g1;cases g1;obtain⟨s3,e3⟩:=up b _ e2 g2;exact⟨s3,e3⟩
 refine⟨⟨fun b o e n hb _=>?_,fun b o e n hb _=>sl b o e n hb,fun b o e n _=>?_,fun b o e _=>?_,fun b xs e=>u.tups b xs (I.base.tups b xs e),fun b o xs e=>u.frzs b o xs (I.base.frzs b o xs e),fun b ps e=>?_⟩,fun a o e=>?_,th⟩
 ·obtain⟨ob,g⟩:=th b o e hb;exact kB b ob o g (u.keep b o (I.base.keep b o e n hb (nx b)) (I.base.free b o e n (nx b)) (nL b o e hb) (by simp))
 ·obtain⟨o',e'⟩:=I.base.there b o e (nx b);exact u.free b o' e' (I.base.free b o e n (nx b)) (by simp)
 ·by_cases hb:b∈X.fs
  ·obtain⟨s1,e1⟩:=sl b o e (I.ok.frf b hb) hb;exact⟨_,e1⟩
  ·obtain⟨ob,g⟩:=th b o e hb;exact⟨ob,st2 b ob g⟩
 ·obtain⟨m1,e1⟩:=I.base.tbls b ps e;obtain⟨m2,e2⟩:=u.tbls b _ e1;exact⟨m1++m2,by rw[e2,Array.append_assoc]⟩
 ·refine(hok a o e).stay (fun b q hb x=>?_) (fun _ q=>q) fun _ _ q=>q;have tr:∃q,H' b=some q:=by
   rcases hb with z|z
   ·exact⟨o,z▸e⟩
   ·exact⟨_,z⟩
  obtain⟨q',z⟩:=tr;obtain⟨ob,g⟩:=t1 b q' z;exact kB b ob q g x
end
theorem Zf8(x:ZaS P w H h a o):∃ob,h.get? a=some ob:=by
 cases o with
 |lst xs=>obtain⟨_,_,_,_,e⟩:=x;exact⟨_,e⟩
 |tup xs=>obtain⟨_,_,_,ob,e,_⟩:=x;exact⟨_,e⟩
 |dK kvs=>obtain⟨_,_,_,_,o,_,_,e,_⟩:=x;exact⟨_,e⟩
 |dT kvs=>obtain⟨_,_,_,_,o,_,_,e,_⟩:=x;exact⟨_,e⟩
 |dU kvs=>obtain⟨_,_,_,_,o,_,_,e,_⟩:=x;exact⟨_,e⟩
 |set S n=>obtain⟨o,_,_,_,e,_⟩:=x;exact⟨_,e⟩
 |ins C dx fs=>obtain⟨_,_,_,e,_⟩:=x;exact⟨_,e⟩
 |own y=>exact x
 |xd fs=>obtain⟨_,⟨_,_,_,e,_⟩,_⟩:=x;exact⟨_,e⟩
 |rng lo hi=>obtain⟨_,_,_,e⟩:=x;exact⟨_,e⟩
 |frz ob u=>obtain⟨e,_⟩:=x;exact⟨_,e⟩
 |tbl ps=>exact⟨_,x.1⟩
 |met f y=>exact⟨_,(show h.get? a=some _ from x)⟩
 |ext φ=>obtain⟨_,e,_⟩:=x;exact e
def Zkp(h:Heap)(l:List Addr):Heap:=ZjW h fun b=>if b∈l then some (.own 0)else none
theorem Zf9(e:h.get? b=some o)(n:b∉l):(Zkp h l).get? b=some o:=ZfR e (if_neg n)
theorem ZhU(e:(Zkp h l).get? b=some o):h.get? b=some o/\b∉l:=by
 obtain⟨a,n⟩:=Zhp e;refine⟨a,fun z=>?_⟩;simp only[if_pos z]at n;cases n
theorem ZeA(n:b∈l):(Zkp h l).get? b=none:=by
 cases q:(Zkp h l).get? b with
 |none=>rfl
 |some o=>exact absurd n (ZhU q).2
theorem ZeB{h h' b1:Heap}:∀{l:List Env},h.FunFrames b1 l->(∀b o,b∈frs l->h.get? b=some o->∃o',h'.get? b=some o'/\o'.data=o.data)->h'.FunFrames b1 l
 |[],_,_=>trivial
 |env::r,⟨h1,⟨L,o,h2,h3,h4,h5⟩,h6⟩,k=>by
  have m:frs (env::r)=L::frs r:=by unfold frs;rw[dj,h2]
  obtain⟨o',g1,g2⟩:=k L o (by rw[m];exact bE) h4
  exact⟨h1,⟨L,o',h2,h3,g1,fun vs=>g2▸h5 vs⟩,ZeB h6 fun b o hb=>k b o (by rw[m];exact aA _ hb)⟩
theorem ZhV{s':aC}(I:Inv X pins σ H s)(un:Un (frs X.stack) [] H H' s.heap s'.heap)(hok:HOk X.prog X.w H' s'.heap)(hn:s.heap.get? e=none)(he:s'.heap.get? e=some oe)(hne:H' e=none):(∀b u,H' b=some u->∃o,(Zkp s'.heap (e::frs X.stack)).get? b=some o)/\(∀b o,s.heap.get? b=some o->b∉frs X.stack->∃o',(Zkp s'.heap (e::frs X.stack)).get? b=some o')/\(Zkp s'.heap (e::frs X.stack)).StaysIn s'.heap/\s'.heap.FunFrames (Zkp s'.heap (e::frs X.stack)) X.stack/\(Zkp s'.heap (e::frs X.stack)).get? e=none:=by
 have nfr:∀b∈frs X.stack,H' b=none:=fun b hb=>by
  obtain⟨_,o',g1,g2⟩:=I.stack.mem hb;exact un.free b o' g1 (I.stkFree b hb) (by simp)
 refine⟨fun b u x=>?_,fun b o x n=>?_,fun b o x=>(ZhU x).1,ZeB (Zez I.stack fun b hb=>ZeA (aA _ hb)) fun b o hb x=>?_,ZeA (by simp)⟩
 ·obtain⟨o,g⟩:=Zf8 (hok b u x);refine⟨o,Zf9 g fun z=>?_⟩;rcases ah.mp z with z|z
  ·rw[z,hne]at x;cases x
  ·rw[nfr b z]at x;cases x
 ·obtain⟨o',g⟩:=un.there b o x (by simp)
  refine⟨o',Zf9 g fun z=>?_⟩;rcases ah.mp z with z|z
  ·rw[z,hn]at x;cases x
  ·exact n z
 ·obtain⟨sl,g⟩:=un.any x (I.stkFree b hb) (by simp)
  exact⟨_,g,rfl⟩
theorem Zlx{K:Fg}:Thr (ZfW (CXE P w) P w K mg base N qual scope f cd A outer s H E) E:=by
 refine⟨eV.leaving,fun pins σ H1 s1 e s2 I h=>?_,fun pins σ H1 H' s1 s' e oe vs C I os bare un hok hn he hc hd v1 v2 hne q=>?_⟩
 ·obtain⟨ea,C,dct,B,H2,rfl,os,bare,un,hok,fl,t1,t2,q⟩:=h;refine DQ.ZhI (outer:=outer) I.ok.frames rfl fl fun h3 f3 up=>?_;obtain⟨a1,a2,a3⟩:=Zlw rfl I un hok t1 t2 fl.stay f3.stay up;exact⟨ea,C,dct,B,H2,rfl,os.trans I.os,bare,a1,a2,f3,t1,a3,q⟩
 ·obtain⟨t1,t2,hs,hl,hb⟩:=ZhV I un hok hn he hne;refine DQ.ZhJ (s:=s') (outer:=outer) I.ok.frames rfl hl he hs hb hd v1 v2 fun h3 f3 up=>?_;obtain⟨a1,a2,a3⟩:=Zlw rfl I un hok t1 t2 hs f3.stay up;rw[hc]at f3;exact⟨e,C,oe.dict,_,H',rfl,os.trans I.os,bare,a1,a2,f3,t1,a3,q⟩
end DL
namespace DL
open PyProof.Rows L2
def FP(K:Fg)(H:Hp)(α:List Addr)(ξ:XK)(Dn:Ends):Fl->Prop
 |.nx ρ' M'=>∀σ' H' α',Ext K H H' α α'->HR K H' α' M'->SR K H' α' σ' ρ'->Dn.nx σ' H'
 |.brk ρ' M'=>∀σ' H' α',Ext K H H' α α'->HR K H' α' M'->SR K H' α' σ' ρ'->Dn.bk σ' H'
 |.cnt ρ' M'=>∀σ' H' α',Ext K H H' α α'->HR K H' α' M'->SR K H' α' σ' ρ'->Dn.ct σ' H'
 |.ret d M'=>∀v H' α',Ext K H H' α α'->HR K H' α' M'->Rep K H' α' v d->Dn.rt v H'
 |.exc c M'=>∀C H' α',PySem.W.nsIn K aI c=some (some (.ref C))->Ext K H H' α α'->∀dct,XO K H' α' c M' dct->ξ (.ref C) dct H'
 |.bad=>False
theorem FP.ext{K:Fg}(h:FP K H α ξ Dn o)(e:Ext K H H1 α α1):FP K H1 α1 ξ Dn o:=by
 cases o with
 |nx ρ M=>exact fun σ' H' α' e'=>h σ' H' α' (e.trans e')
 |brk ρ M=>exact fun σ' H' α' e'=>h σ' H' α' (e.trans e')
 |cnt ρ M=>exact fun σ' H' α' e'=>h σ' H' α' (e.trans e')
 |ret d M=>exact fun v H' α' e'=>h v H' α' (e.trans e')
 |exc c M=>exact fun C H' α' n e'=>h C H' α' n (e.trans e')
 |bad=>exact h
def DS(X:Cx)(ξ:XK)(st:Stmt)(g:Sv):Prop:=∃t:TS,PS X st t/\∀σ ρ H α M Dn,SR X.K H α σ ρ->HR X.K H α M->FP X.K H α ξ Dn (g ρ M)->t Dn σ H
def DSs(X:Cx)(ξ:XK)(st:List Stmt)(g:Sv):Prop:=∃t:TS,PSs X st t/\∀σ ρ H α M Dn,SR X.K H α σ ρ->HR X.K H α M->FP X.K H α ξ Dn (g ρ M)->t Dn σ H
noncomputable def Zav(o:Out β)(k:β->Sto->Fl):Fl:=match o with
 |.ok a M=>k a M
 |.exc c M=>.exc c M
 |.bad=>.bad
theorem FP.seq{K:Fg}{R:Hp->List Addr->γ->β->Prop}{Q1:γ->Hp->Prop}{o:Out β}{f:β->Sto->Fl}(h:FP K H α ξ Dn (Zav o f))(k:∀d M' v H' α',Ext K H H' α α'->HR K H' α' M'->R H' α' v d->FP K H' α' ξ Dn (f d M')->Q1 v H'):OG K R H α ξ Q1 o:=by
 cases o with
 |ok d M'=>exact fun v H' α' e hr r=>k d M' v H' α' e hr r (FP.ext (o:=f d M') h e)
 |exc c M'=>exact h
 |bad=>exact h
noncomputable def Zx(g h:Sv):Sv:=fun ρ M=>match g ρ M with
 |.nx ρ1 M1=>h ρ1 M1
 |o=>o
noncomputable def sNil:Sv:=fun ρ M=>.nx ρ M
def Z1(f:Ev):Sv:=fun ρ M=>Zav (f ρ M) fun d M1=>.ret d M1
noncomputable def Zpr:Sv:=fun _ M=>.ret .non M
def ZaU(f:Ev):Sv:=fun ρ M=>Zav (f ρ M) fun _ M1=>.nx ρ M1
def sIf(c:Tv)(g h:Sv):Sv:=fun ρ M=>Zav (c ρ M) fun k M1=>if k=true then g ρ M1 else h ρ M1
abbrev Tg:=D->Ro->Option Ro
abbrev Tgs:=List D->Ro->Option Ro
noncomputable def gNm(i:Nat):Tg:=fun d ρ=>some (ρ.set i (some d))
noncomputable def gNl:Tgs:=fun ds ρ=>match ds with|[]=>some ρ|_=>none
noncomputable def gCs(g:Tg)(gs:Tgs):Tgs:=fun ds ρ=>match ds with|d::r=>(match g d ρ with|some ρ1=>gs r ρ1|none=>none)|[]=>none
noncomputable def gTp(gs:Tgs):Tg:=fun d ρ=>match d with|.tup ds=>gs ds ρ|_=>none
def ZG(g:Tg)(f:Ev):Sv:=fun ρ M=>Zav (f ρ M) fun d M1=>match g d ρ with|some ρ1=>.nx ρ1 M1|none=>.bad
def Zg4(i j:Nat)(fs:Av):Sv:=fun ρ M=>Zav (fs ρ M) fun ds M1=>match ds with|[v,w]=>.nx ((ρ.set i (some v)).set j (some w)) M1|_=>.bad
def Zly(fo fi fe:Ev):Sv:=fun ρ M=>Zav (fe ρ M) fun d M1=>Zav (fo ρ M1) fun o M2=>Zav (fi ρ M2) fun i M3=>match o,i with
 |.ref n,.int k=>(match M3[n]? with
  |some (.lst xs)=>(match ixN xs.length k with|some j=>.nx ρ (M3.set n (.lst (xs.set j d)))|none=>.bad)
  |_=>.bad)
 |_,_=>.bad
section
variable {X:Cx}{ξ:XK}{st:Stmt}{g:Sv}{e:Expr}{f:Ev}{c:Expr}
theorem Zv:DSs X ξ [] sNil:=⟨_,Zmk,fun σ ρ H α M Dn s h q=>q σ H α Ext.refl h s⟩
theorem Zf(h1:DS X ξ st g)(h2:DSs X ξ sts h):DSs X ξ (st::sts) (Zx g h):=by
 obtain⟨t1,p1,q1⟩:=h1;obtain⟨t2,p2,q2⟩:=h2;refine⟨_,Zj4 p1 p2,fun σ ρ H α M Dn s hh q=>q1 σ ρ H α M {Dn with nx:=t2 Dn} s hh ?_⟩;unfold Zx at q;cases e:g ρ M with
 |nx ρ1 M1=>rw[e]at q;exact fun σ' H' α' ex hr sr=>q2 σ' ρ1 H' α' M1 Dn sr hr (FP.ext q ex)
 |brk ρ1 M1=>rw[e]at q;exact q
 |cnt ρ1 M1=>rw[e]at q;exact q
 |ret d M1=>rw[e]at q;exact q
 |exc c M1=>rw[e]at q;exact q
 |bad=>rw[e]at q;exact q
theorem Zh(h1:DS X ξ st g):DSs X ξ [st] g:=let ⟨_,p,q⟩:=h1;⟨_,Zml p,q⟩
theorem Zr(he:DE X ξ e f):DS X ξ (.Return (some e) pos) (Z1 f):=by
 obtain⟨t,p,q⟩:=he;exact⟨_,ZoK p,fun σ ρ H α M Dn s hh w=>q σ ρ H α M _ s hh (FP.seq w fun d M1 v H1 α1 e1 h1 r1 w1=>w1 v H1 α1 Ext.refl h1 r1)⟩
theorem Z5(he:DE X ξ e f)(hs:autoParam (iy e none pos.line X.env=pure false) Qrf._auto_1):DS X ξ (.Expr e pos) (ZaU f):=by
 obtain⟨t,p,q⟩:=he;exact⟨_,Zmm p hs,fun σ ρ H α M Dn s hh w=>q σ ρ H α M _ s hh (FP.seq w fun d M1 v H1 α1 e1 h1 r1 w1=>w1 σ H1 α1 Ext.refl h1 (s.mono e1))⟩
theorem ZK(hc:DT X ξ c fc)(ha:DSs X ξ a g)(hb:DSs X ξ b h):DS X ξ (.If c a b pos) (sIf fc g h):=by
 obtain⟨tc,pc,qc⟩:=hc;obtain⟨ta,pa,qa⟩:=ha;obtain⟨tb,pb,qb⟩:=hb;refine⟨_,Zr2 pc pa pb,fun σ ρ H α M Dn s hh w=>qc σ ρ H α M _ s hh (FP.seq w fun k M1 v H1 α1 e1 h1 r1 w1=>?_)⟩;cases r1;cases k with
 |true=>exact ZmD (qa σ ρ H1 α1 M1 Dn (s.mono e1) h1 w1)
 |false=>exact ZmC (qb σ ρ H1 α1 M1 Dn (s.mono e1) h1 w1)
def DG(X:Cx)(tg:Expr)(g:Tg):Prop:=∃t:TG,PG X tg t/\∀v d σ ρ H α ρ' Q,SR X.K H α σ ρ->Rep X.K H α v d->g d ρ=some ρ'->(∀σ',SR X.K H α σ' ρ'->Q σ' H)->t v σ H Q
def DGs(X:Cx)(tgs:List Expr)(g:Tgs):Prop:=∃t:TGs,PGs X tgs t/\∀vs ds σ ρ H α ρ' Q,SR X.K H α σ ρ->Reps X.K H α vs ds->g ds ρ=some ρ'->(∀σ',SR X.K H α σ' ρ'->Q σ' H)->t vs σ H Q
theorem Zm(i:Nat)(hN:X.N.Nodup)(hi:autoParam (X.N[i]?=some x) Qrf._auto_1)(hx:Loc X.env.scope x:=by first|exact dM rfl|exact jH rfl)(hm:autoParam (X.may i=true) Qrf._auto_1)(hf:X.fn x=true\/X.env.scope.names.lookup x=some .local:=by first|exact .inl rfl|exact .inr rfl|assumption):DG X (.Name x pos) (gNm i):=by
 refine⟨_,Zmn hN hi hx hm hf,fun v d σ ρ H α ρ' Q s r e k=>?_⟩;cases e;exact k _ (s.set i r)
theorem Z6:DGs X [] gNl:=by
 refine⟨_,Zmo,fun vs ds σ ρ H α ρ' Q s r e k=>?_⟩;cases r with
 |nil=>cases e;exact⟨rfl,k _ s⟩
 |cons _ _=>cases e
theorem Zw{g:Tg}(h1:DG X e g)(h2:DGs X es gs)(hs:autoParam ((bU (e::es) X.env).map (·.2)=assign e X.env::(bU es X.env).map (·.2)) Qrf._auto_1):DGs X (e::es) (gCs g gs):=by
 obtain⟨t1,p1,q1⟩:=h1;obtain⟨t2,p2,q2⟩:=h2;refine⟨_,Zj5 p1 p2 hs,fun vs ds σ ρ H α ρ' Q s r e k=>?_⟩;cases r with
 |nil=>cases e
 |cons r rr=>
  rename_i v d vs ds;cases e1:g d ρ with
  |none=>simp only[gCs,e1]at e;cases e
  |some ρ1=>
   simp only[gCs,e1]at e;exact⟨v,vs,rfl,q1 v d σ ρ H α ρ1 _ s r e1 fun σ' s'=>q2 vs ds σ' ρ1 H α ρ' Q s' rr e k⟩
theorem ZaI(hc:X.calm=true)(h:DGs X es gs)(hn:autoParam ((bU es X.env).length=n) Qrf._auto_1)(hlen:∀ds ρ ρ',gs ds ρ=some ρ'->ds.length=n)(hst:autoParam ((bU es X.env).findIdx? (·.1)=none) Qrf._auto_1):DG X (.Tuple es k pos) (gTp gs):=by
 obtain⟨t,p,q⟩:=h;refine⟨_,ZoM hc p hn hst,fun v d σ ρ H α ρ' Q s r e k=>?_⟩;cases r with
 |@tup a xs ds hp rp=>
  have e':gs ds ρ=some ρ':=e;exact⟨a,xs,rfl,(SqT.of hp),by rw[rp.length];exact hlen ds ρ ρ' e',q xs ds σ ρ H α ρ' Q s rp e' k⟩
 |_=>cases e
theorem Z7(h:gNl ds ρ=some ρ'):ds.length=0:=by cases ds with|nil=>rfl|cons _ _=>cases h
theorem ZC{g:Tg}(h:∀ds ρ ρ',gs ds ρ=some ρ'->ds.length=n)(ds:List D)(ρ ρ':Ro)(e:gCs g gs ds ρ=some ρ'):ds.length=n+1:=by
 cases ds with
 |nil=>cases e
 |cons d r=>
  cases e1:g d ρ with
  |none=>simp only[gCs,e1]at e;cases e
  |some ρ1=>simp only[gCs,e1]at e;rw[bO,h r ρ1 ρ' e]
theorem Zl(i:Nat)(hN:X.N.Nodup)(he:DE X ξ e f)(hi:autoParam (X.N[i]?=some x) Qrf._auto_1)(hx:Loc X.env.scope x:=by first|exact dM rfl|exact jH rfl)(hm:autoParam (X.may i=true) Qrf._auto_1)(hs:autoParam (iy e (some (.Name x pos')) pos.line X.env=pure false) Qrf._auto_1)(hf:X.fn x=true\/X.env.scope.names.lookup x=some .local:=by first|exact .inl rfl|exact .inr rfl|assumption) :
  DS X ξ (.Assign [.Name x pos'] e pos) (ZG (gNm i) f):=by
 obtain⟨t,p,q⟩:=he;exact⟨_,ZoO hN hi hx hm p hs hf,fun σ ρ H α M Dn s hh w=>q σ ρ H α M _ s hh (FP.seq w fun d M1 v H1 α1 e1 h1 r1 w1=>w1 _ H1 α1 Ext.refl h1 ((s.mono e1).set i r1))⟩
theorem ZhW(he:DE X ξ e f)(hg:DG X tg gt)(hs:autoParam (fQ [tg] e pos.line X.env=pure false) Qrf._auto_1)(hw:autoParam (eA [tg] e X.env=pure none) Qrf._auto_1)(h1:autoParam ((bU [tg] X.env).map (·.2)=[assign tg X.env]) Qrf._auto_1):DS X ξ (.Assign [tg] e pos) (ZG gt f):=by
 obtain⟨t,p,q⟩:=he;obtain⟨tt,pt,qt⟩:=hg;refine⟨_,Zhr p pt hs hw h1,fun σ ρ H α M Dn s hh w=>q σ ρ H α M _ s hh (FP.seq w fun d M1 v H1 α1 e1 h1 r1 w1=>?_)⟩;cases eg:gt d ρ with
 |none=>simp only[eg]at w1;exact w1.elim
 |some ρ1=>
  simp only[eg]at w1;exact qt v d σ ρ H1 α1 ρ1 _ (s.mono e1) r1 eg fun σ' s'=>w1 σ' H1 α1 Ext.refl h1 s'
theorem Zga(i j:Nat){kt k2 pt2}(hc:X.calm=true)(hN:X.N.Nodup)(ha:DA X ξ [a,b] fs)(hi:autoParam (X.N[i]?=some x) Qrf._auto_1)(hj:autoParam (X.N[j]?=some y) Qrf._auto_1)(mi:autoParam (X.may i=true) Qrf._auto_1)(mj:autoParam (X.may j=true) Qrf._auto_1)(hij:autoParam (i≠j) Qde._auto_1)(hx:autoParam (X.env.scope.names.lookup x=some .local) Qrf._auto_1)(hy:autoParam (X.env.scope.names.lookup y=some .local) Qrf._auto_1)(hw:autoParam (eA [.Tuple [.Name x px,.Name y py] kt pt] (.Tuple [a,b] k2 pt2) X.env=pure (some [x,y])) Qrf._auto_1)(hs:autoParam (fQ [.Tuple [.Name x px,.Name y py] kt pt] (.Tuple [a,b] k2 pt2) pos.line X.env=pure false) Qrf._auto_1) :
  DS X ξ (.Assign [.Tuple [.Name x px,.Name y py] kt pt] (.Tuple [a,b] k2 pt2) pos) (Zg4 i j fs):=by
 obtain⟨t,p,q⟩:=ha;refine⟨_,ZoP hc mi mj hN hi hj hij hx hy p hw hs,fun σ ρ H α M Dn s hh w=>q σ ρ H α M _ s hh (FP.seq w fun ds M1 vs H1 α1 e1 h1 r1 w1=>?_)⟩;cases r1 with
 |nil=>exact w1.elim
 |cons r t=>
  cases t with
  |nil=>exact w1.elim
  |cons r' t=>
   cases t with
   |cons _ _=>exact w1.elim
   |nil=>exact⟨_,_,rfl,w1 _ H1 α1 Ext.refl h1 (((s.mono e1).set i r).set j r')⟩
theorem ZhX(ho:DE X ξ o fo)(hi:DE X ξ i fi)(he:DE X ξ e f)(ha:∀v,assign (.Subscript o i pos') X.env v=(do
   let ov <-holding [v] (eval o X.env)
   let iv <-holding [v,ov] (eval i X.env)
   standAt pos'
   holding [v,ov,iv] (setItem ov iv v)
   release [v,ov,iv] []):=by intro _;rfl) (hs:fQ [.Subscript o i pos'] e pos.line X.env=pure false:=by rfl) (hw:eA [.Subscript o i pos'] e X.env=pure none:=by rfl) (h1:(bU [.Subscript o i pos'] X.env).map (·.2)=[assign (.Subscript o i pos') X.env]:=by rfl):DS X ξ (.Assign [.Subscript o i pos'] e pos) (Zly fo fi f):=by
 obtain⟨t,p,q⟩:=he;obtain⟨to,po,qo⟩:=ho;obtain⟨ti,pi,qi⟩:=hi;refine⟨_,Zhr p (ZoN po pi Zkf ha) hs hw h1,fun σ ρ H α M Dn s hh w=>q σ ρ H α M _ s hh (FP.seq w fun d M1 v H1 α1 e1 h1 r1 w1=>?_)⟩;refine qo σ ρ H1 α1 M1 _ (s.mono e1) h1 (FP.seq w1 fun od M2 ov H2 α2 e2 h2 r2 w2=>?_);refine qi σ ρ H2 α2 M2 _ ((s.mono e1).mono e2) h2 (FP.seq w2 fun kd M3 kv H3 α3 e3 h3 r3 w3=>?_);cases Rep.mono e3 r2 with
 |@ref p n hp=>
  cases r3 with
  |int k=>
   cases em:M3[n]? with
   |none=>simp only[em]at w3;exact w3.elim
   |some so=>
    cases so with
    |lst ds=>
     cases ej:ixN ds.length k with
     |none=>simp only[em,ej]at w3;exact w3.elim
     |some j=>
      simp only[em,ej]at w3;obtain⟨xs,g1,g2⟩:=h3.at hp em;refine⟨p,xs,k,j,rfl,rfl,g1,by rw[g2.length];exact ej,?_⟩
      exact w3 σ _ α3 (Ext.wr g1) (h3.wr hp g1 (Reps.set (Rep.mono e3 (Rep.mono e2 r1)) j g2)) ((((s.mono e1).mono e2).mono e3).mono (Ext.wr g1))
  |_=>exact w3.elim
 |_=>exact w3.elim
noncomputable def whN(c:Tv)(g:Sv):Nat->Ro->Sto->Option Fl
 |0,_,_=>none
 |n+1,ρ,M=>match c ρ M with
  |.ok true M1=>(match g ρ M1 with
   |.nx ρ2 M2=>whN c g n ρ2 M2
   |.cnt ρ2 M2=>whN c g n ρ2 M2
   |.brk ρ2 M2=>some (.nx ρ2 M2)
   |o=>some o)
  |.ok false M1=>some (.nx ρ M1)
  |.exc e M1=>some (.exc e M1)
  |.bad=>some .bad
theorem ZcF{c:Tv}{g:Sv}:∀{n:Nat}{ρ:Ro}{M:Sto}{o:Fl},whN c g n ρ M=some o->∀k,whN c g (n+k) ρ M=some o
 |0,_,_,_,e,_=>by simp only[whN]at e;cases e
 |n+1,ρ,M,o,e,k=>by
  have ek:n+1+k=(n+k)+1:=by lia
  rw[ek];unfold whN at e ⊢;cases ec:c ρ M with
  |bad=>rw[ec]at e;exact e
  |exc x M1=>rw[ec]at e;exact e
  |ok b M1=>
   rw[ec]at e;cases b with
   |false=>exact e
   |true=>
    cases eg:g ρ M1 with
    |nx ρ2 M2=>simp only[eg]at e ⊢;exact ZcF e k
    |cnt ρ2 M2=>simp only[eg]at e ⊢;exact ZcF e k
    |brk ρ2 M2=>simp only[eg]at e ⊢;exact e
    |ret d M2=>simp only[eg]at e ⊢;exact e
    |exc x M2=>simp only[eg]at e ⊢;exact e
    |bad=>simp only[eg]at e ⊢;exact e
open Classical in
def sWh(c:Tv)(g:Sv):Sv:=fun ρ M=>if h:∃o n,whN c g n ρ M=some o then Classical.choose h else .bad
theorem Zcv{c:Tv}{g:Sv}(e:whN c g n ρ M=some o):sWh c g ρ M=o:=by
 have hx:∃o n,whN c g n ρ M=some o:=⟨o,n,e⟩;unfold sWh;rw[dif_pos hx];obtain⟨m,em⟩:=Classical.choose_spec hx;have h1:=ZcF em n;have h2:=ZcF e m;rw[ip]at h2;rw[h1]at h2;exact aN h2
theorem ZhY{c:Tv}{g:Sv}(e:sWh c g ρ M≠ .bad):∃n,whN c g n ρ M=some (sWh c g ρ M):=by
 by_cases hx:∃o n,whN c g n ρ M=some o
 ·obtain⟨o,n,h⟩:=hx;exact⟨n,by rw[Zcv h];exact h⟩
 ·unfold sWh at e;rw[dif_neg hx]at e;exact absurd rfl e
theorem ZeC{c:Tv}{g:Sv}{M1:Sto}(h:c ρ M=.ok false M1):sWh c g ρ M=.nx ρ M1:=Zcv (n:=1) (by simp only[whN,h])
theorem Zgb{c:Tv}{g:Sv}{M1 M2:Sto}(h:c ρ M=.ok true M1)(h2:g ρ M1=.nx ρ2 M2)(hb:sWh c g ρ2 M2≠ .bad):sWh c g ρ M=sWh c g ρ2 M2:=by
 obtain⟨n,e⟩:=ZhY hb;exact Zcv (n:=n+1) (by simp only[whN,h,h2];exact e)
theorem Zgc(hp:eV (aw X.prog X.w) X.A X.env X.xe)(hc:DT X ξ c fc)(hb:DSs X ξ body g):DS X ξ (.While c body [] pos) (sWh fc g):=by
 obtain⟨tc,pc,qc⟩:=hc;obtain⟨tb,pb,qb⟩:=hb;refine⟨_,Zj6 hp pc pb,fun σ ρ H α M Dn s hh w=>?_⟩;have nb:sWh fc g ρ M≠ .bad:=fun z=>by rw[z]at w;exact w
 obtain⟨n,en⟩:=ZhY nb;generalize sWh fc g ρ M=o at w en;refine⟨fun m σ' H'=>∃ρ' α' M',Ext X.K H H' α α'/\SR X.K H' α' σ' ρ'/\HR X.K H' α' M'/\whN fc g m ρ' M'=some o,⟨n,ρ,α,M,Ext.refl,s,hh,en⟩,?_⟩;rintro m σ1 H1 ⟨ρ1,α1,M1,e1,s1,h1,en1⟩;cases m with
 |zero=>simp only[whN]at en1;cases en1
 |succ m=>
  refine qc σ1 ρ1 H1 α1 M1 _ s1 h1 ?_;unfold whN at en1;cases ec:fc ρ1 M1 with
  |bad=>rw[ec]at en1;cases en1;exact w.elim
  |exc x M2=>
   rw[ec]at en1;cases en1;exact fun C H' α' nn ex hr=>w C H' α' nn (e1.trans ex) hr
  |ok b M2=>
   rw[ec]at en1;intro v H2 α2 e2 h2 ev;cases ev;cases b with
   |false=>
    cases en1;exact ZmC (w σ1 H2 α2 (e1.trans e2) h2 (s1.mono e2))
   |true=>
    refine ZmD ⟨fun σ' H'=>∃ρ' α' M',Ext X.K H H' α α'/\SR X.K H' α' σ' ρ'/\HR X.K H' α' M'/\whN fc g m ρ' M'=some o,fun σ' H' z=>⟨m,dE m,z⟩,?_⟩;refine qb σ1 ρ1 H2 α2 M2 _ (s1.mono e2) h2 ?_;have e12:=e1.trans e2;cases eg:g ρ1 M2 with
    |nx ρ2 M3=>simp only[eg]at en1;exact fun σ' H' α' ex hr sr=>⟨ρ2,α',M3,e12.trans ex,sr,hr,en1⟩
    |cnt ρ2 M3=>simp only[eg]at en1;exact fun σ' H' α' ex hr sr=>⟨ρ2,α',M3,e12.trans ex,sr,hr,en1⟩
    |brk ρ2 M3=>simp only[eg]at en1;cases en1;exact fun σ' H' α' ex hr sr=>w σ' H' α' (e12.trans ex) hr sr
    |ret d M3=>simp only[eg]at en1;cases en1;exact fun v H' α' ex hr sr=>w v H' α' (e12.trans ex) hr sr
    |exc x M3=>simp only[eg]at en1;cases en1;exact fun C H' α' nn ex hr=>w C H' α' nn (e12.trans ex) hr
    |bad=>simp only[eg]at en1;cases en1;exact w.elim
noncomputable def Zbw(tg:Tg)(g:Sv):List D->Ro->Sto->Fl
 |[],ρ,M=>.nx ρ M
 |d::r,ρ,M=>match tg d ρ with
  |none=>.bad
  |some ρ1=>(match g ρ1 M with
   |.nx ρ2 M2=>Zbw tg g r ρ2 M2
   |.cnt ρ2 M2=>Zbw tg g r ρ2 M2
   |.brk ρ2 M2=>.nx ρ2 M2
   |o=>o)
noncomputable def Zhh(tg:Tg)(g:Sv)(n:Nat):Nat->Nat->Ro->Sto->Fl
 |f,i,ρ,M=>match M[n]? with
  |some (.lst xs)=>(match xs[i]? with
   |none=>.nx ρ M
   |some d=>(match f with
    |0=>.bad
    |f+1=>(match tg d ρ with
     |none=>.bad
     |some ρ1=>(match g ρ1 M with
      |.nx ρ2 M2=>Zhh tg g n f (i+1) ρ2 M2
      |.cnt ρ2 M2=>Zhh tg g n f (i+1) ρ2 M2
      |.brk ρ2 M2=>.nx ρ2 M2
      |o=>o))))
  |none=>.bad
def Zal(lo:Int)(n:Nat):List D:=(aL n).map fun(i:Nat)=>D.int (lo+i)
def Zkq(tg:Tg)(g:Sv)(d:D)(ρ:Ro)(M:Sto):Fl:=match d with
 |.tup xs=>Zbw tg g xs ρ M
 |.rol xs=>Zbw tg g xs ρ M
 |.ref n=>(match M[n]? with|some (.lst xs)=>Zhh tg g n xs.length 0 ρ M|none=>.bad)
 |_=>.bad
def ZeD(tg:Tg)(f:Ev)(g:Sv):Sv:=fun ρ M=>Zav (f ρ M) fun d M1=>Zkq tg g d ρ M1
def Zbc(tg:Tg)(fs:Av)(g:Sv):Sv:=fun ρ M=>Zav (fs ρ M) fun ds M1=>match ds with
 |[.int j]=>if -(2^62)<=j/\j<2^62 then Zbw tg g (Zal 0 j.toNat) ρ M1 else .bad
 |_=>.bad
def Zdr(tg:Tg)(fs:Av)(g:Sv):Sv:=fun ρ M=>Zav (fs ρ M) fun ds M1=>match ds with
 |[.int i,.int j]=>if -(2^62)<=i/\i<2^62/\ -(2^62)<=j/\j<2^62 then Zbw tg g (Zal i (j-i).toNat) ρ M1 else .bad
 |_=>.bad
theorem Zgd{lo:Int}(h:i<n):(Zal lo n)[i]?=some (.int (lo+i)):=by
 unfold Zal;rw[bp,List.getElem?_range h];rfl
theorem ZdO{lo:Int}:(Zal lo n).length=n:=by unfold Zal;rw[ay,i4]
theorem ZhZ{lo:Int}(h:i<n):(Zal lo n).drop i=.int (lo+i)::(Zal lo n).drop (i+1):=by
 have hl:i<(Zal lo n).length:=by rw[ZdO];exact h
 have e:=Zgd (lo:=lo) h;rw[am hl]at e;rw[dN hl,aN e]
theorem Zkr{tg:Expr}{gt:Tg}{tt:TG}{tb:TS}{k:Ro->Sto->Fl}(w:FP X.K H α ξ Dn o)(qt:∀v d σ ρ H α ρ' Q,SR X.K H α σ ρ->Rep X.K H α v d->gt d ρ=some ρ'->(∀σ',SR X.K H α σ' ρ'->Q σ' H)->tt v σ H Q)(qb:∀σ ρ H α M Dn,SR X.K H α σ ρ->HR X.K H α M->FP X.K H α ξ Dn (g ρ M)->tb Dn σ H){M1:Sto}(e1:Ext X.K H H1 α α1)(s1:SR X.K H1 α1 σ1 ρ1)(h1:HR X.K H1 α1 M1)(r:Rep X.K H1 α1 v d)(en:(match gt d ρ1 with|none=>Fl.bad|some ρ2=>(match g ρ2 M1 with|.nx ρ3 M3=>k ρ3 M3|.cnt ρ3 M3=>k ρ3 M3|.brk ρ3 M3=>.nx ρ3 M3|o=>o))=o)(hN:∀σ' H',(∃ρ' α' M',Ext X.K H H' α α'/\SR X.K H' α' σ' ρ'/\HR X.K H' α' M'/\k ρ' M'=o)->N σ' H'):tt v σ1 H1 fun σ2 H2=>tb {Dn with nx:=N,ct:=N,bk:=Dn.nx} σ2 H2:=by
 cases eg:gt d ρ1 with
 |none=>rw[eg]at en;cases en;exact w.elim
 |some ρ2=>
  simp only[eg]at en;refine qt v d σ1 ρ1 H1 α1 ρ2 _ s1 r eg fun σ2 s2=>qb σ2 ρ2 H1 α1 M1 _ s2 h1 ?_;cases ex:g ρ2 M1 with
  |nx ρ3 M3=>simp only[ex]at en;exact fun σ' H' α' e2 hr sr=>hN _ _ ⟨ρ3,α',M3,e1.trans e2,sr,hr,en⟩
  |cnt ρ3 M3=>simp only[ex]at en;exact fun σ' H' α' e2 hr sr=>hN _ _ ⟨ρ3,α',M3,e1.trans e2,sr,hr,en⟩
  |brk ρ3 M3=>simp only[ex]at en;cases en;exact fun σ' H' α' e2 hr sr=>w σ' H' α' (e1.trans e2) hr sr
  |ret d M3=>simp only[ex]at en;cases en;exact fun v H' α' e2 hr sr=>w v H' α' (e1.trans e2) hr sr
  |exc x M3=>simp only[ex]at en;cases en;exact fun C H' α' nn e2 hr=>w C H' α' nn (e1.trans e2) hr
  |bad=>simp only[ex]at en;cases en;exact w.elim
theorem Zlz{tg:Expr}{tt:TG}{tb:TS}{lo:Int}(qt:∀v d σ ρ H α ρ' Q,SR X.K H α σ ρ->Rep X.K H α v d->gt d ρ=some ρ'->(∀σ',SR X.K H α σ' ρ'->Q σ' H)->tt v σ H Q)(qb:∀σ ρ H α M Dn,SR X.K H α σ ρ->HR X.K H α M->FP X.K H α ξ Dn (g ρ M)->tb Dn σ H)(s:SR X.K H α σ ρ)(hh:HR X.K H α M)(w:FP X.K H α ξ Dn (Zbw gt g (Zal lo n) ρ M)):∃W:Nat->Nat->L2.St->Hp->Prop,(∃m,W 0 m σ H)/\∀i m σ H,W i m σ H->((Itr lo n).stop i H/\Dn.nx σ H)\/((Itr lo n).go i H/\∃N:L2.St->Hp->Prop,(∀σ' H',N σ' H'->∃m',m'<m/\W (i+1) m' σ' H')/\∀x H',(Itr lo n).yld i H x H'->tt x σ H' fun σ2 H2=>tb {Dn with nx:=N,ct:=N,bk:=Dn.nx} σ2 H2):=by
 generalize ho:Zbw gt g (Zal lo n) ρ M=o at w;refine Zhu (fun i σ' H'=>∃ρ' α' M',Ext X.K H H' α α'/\SR X.K H' α' σ' ρ'/\HR X.K H' α' M'/\Zbw gt g ((Zal lo n).drop i) ρ' M'=o) ⟨ρ,α,M,Ext.refl,s,hh,ho⟩ ?_ ?_
 ·rintro i σ1 H1 hi ⟨ρ1,α1,M1,e1,s1,h1,en⟩;rw[ZhZ hi]at en;exact Zkr (tg:=tg) w qt qb e1 s1 h1 (.int (lo+i)) en (fun σ' H' z=>z)
 ·rintro σ1 H1 ⟨ρ1,α1,M1,e1,s1,h1,en⟩;rw[dz (by rw[ZdO];exact ac _)]at en
  cases en;exact w σ1 H1 α1 e1 h1 s1
theorem ZaJ(hp:eV (aw X.prog X.w) X.A X.env X.xe)(hm:X.mg "range"=none)(ha:DA X ξ [a] fs)(hg:DG X tg gt)(hb:DSs X ξ body g)(hgl:autoParam (Gl X "range") Qrf._auto_1)(hs:autoParam (av [a] X.env=[(false,eval a X.env)]) Qrf._auto_1)(hf:autoParam (∀x,foldedSetIterable (.Call (.Name "range" p) [a] [] p2) X.env x=pure x) Qin._auto_1):DS X ξ (.For tg (.Call (.Name "range" p) [a] [] p2) body [] pos) (Zbc gt fs g):=by
 obtain⟨ta,pa,qa⟩:=ha;obtain⟨tt,pt,qt⟩:=hg;obtain⟨tb,pb,qb⟩:=hb;refine⟨_,ZfU hp (Zek hgl hm pa hs) pt pb hf,fun σ ρ H α M Dn s hh w=>qa σ ρ H α M _ s hh (FP.seq w fun ds M1 vs H1 α1 e1 h1 r1 w1=>?_)⟩;cases r1 with
 |nil=>exact w1.elim
 |cons r tz=>
  cases tz with
  |cons _ _=>cases r<;>exact w1.elim
  |nil=>
   cases r with
   |int j=>
    by_cases c: -(2^62)<=j/\j<2^62
    ·simp only[if_pos c]at w1;exact⟨j,rfl,c.1,c.2,Zlz (tg:=tg) qt qb (s.mono e1) h1 w1⟩
    ·simp only[if_neg c]at w1;exact w1.elim
   |_=>exact w1.elim
theorem Zge(hp:eV (aw X.prog X.w) X.A X.env X.xe)(hm:X.mg "range"=none)(ha:DA X ξ [a,b] fs)(hg:DG X tg gt)(hb:DSs X ξ body g)(hgl:autoParam (Gl X "range") Qrf._auto_1)(hs:autoParam (av [a,b] X.env=[(false,eval a X.env),(false,eval b X.env)]) Qrf._auto_1)(hs2:autoParam (av [b] X.env=[(false,eval b X.env)]) Qrf._auto_1)(hf:autoParam (∀x,foldedSetIterable (.Call (.Name "range" p) [a,b] [] p2) X.env x=pure x) Qin._auto_1):DS X ξ (.For tg (.Call (.Name "range" p) [a,b] [] p2) body [] pos) (Zdr gt fs g):=by
 obtain⟨ta,pa,qa⟩:=ha;obtain⟨tt,pt,qt⟩:=hg;obtain⟨tb,pb,qb⟩:=hb;refine⟨_,ZfU hp (Zel hgl hm pa hs hs2) pt pb hf,fun σ ρ H α M Dn s hh w=>qa σ ρ H α M _ s hh (FP.seq w fun ds M1 vs H1 α1 e1 h1 r1 w1=>?_)⟩
 split at w1
 ·rename_i i j;cases r1 with
  |cons r t=>
   cases t with
   |cons r' t=>
    cases t;cases r;cases r';by_cases c: -(2^62)<=i/\i<2^62/\ -(2^62)<=j/\j<2^62
    ·simp only[if_pos c]at w1;exact⟨i,j,rfl,c,Zlz (tg:=tg) qt qb (s.mono e1) h1 w1⟩
    ·simp only[if_neg c]at w1;exact w1.elim
 ·exact w1.elim
def ZvB(K:Fg)(tl:TE):TI:=fun σ H R=>tl σ H fun x H1=>∃a,x=.ref a/\(((∃xs,SqL K H1 a xs)/\R (Itl K a) H1)\/((∃xs,SqT K H1 a xs)/\R (Itt K a) H1))
theorem ZlA(hl:PE X l tl):PI X tg l (ZvB X.K tl):=by
 intro pins s σ H R I h;refine thn (hl pins s σ H _ I h) fun v s1 hz=>?_;obtain⟨x,H1,I1,r1,q1⟩:=hz;obtain⟨a,e,q⟩:=q1;subst e;cases r1;have fp:∀b∈[s1.heap.objs.size],Zfa X pins H1 b:=fun b hb=>by
  have e:b=s1.heap.objs.size:=by simpa using hb
  subst e;exact I1.fpOk (ac _) (I1.hok.fresh (ac _))
 rcases q with⟨⟨xs,hq⟩,q⟩|⟨⟨xs,hq⟩,q⟩
 ·obtain⟨its,rv,p,hz⟩:=I1.list hq;refine gz p.isList ?_;exact⟨s1.heap.objs.size,[s1.heap.objs.size],_,_,H1,rfl,I1.kept (t':=s1.toks) fun b o e=>Hq _ e,Zhs a _,⟨_,az _ rfl,rfl,rfl⟩,fp,q⟩
 ·obtain⟨its,rv,p,hz⟩:=I1.tuple hq;refine wpAny_pyIter_tuple (show s1.heap.IsTuple a its.toArray from p) ?_;exact⟨s1.heap.objs.size,[s1.heap.objs.size],_,_,H1,rfl,I1.kept (t':=s1.toks) fun b o e=>Hq _ e,ZgV a _,⟨_,az _ rfl,rfl,rfl⟩,fp,q⟩
theorem ZaV{f:Ev}(hp:eV (aw X.prog X.w) X.A X.env X.xe)(hl:DE X ξ l f)(hg:DG X tg gt)(hb:DSs X ξ body g)(hf:autoParam (∀x,foldedSetIterable l X.env x=pure x) Qin._auto_1):DS X ξ (.For tg l body [] pos) (ZeD gt f g):=by
 obtain⟨ta,pa,qa⟩:=hl;obtain⟨tt,pt,qt⟩:=hg;obtain⟨tb,pb,qb⟩:=hb;refine⟨_,ZfU hp (ZlA pa) pt pb hf,fun σ ρ H α M Dn s hh w=>qa σ ρ H α M _ s hh (FP.seq w fun d M1 v H1 α1 e1 h1 r1 w1=>?_)⟩;have s1:=s.mono e1;have pure_:∀(ds:List D)(xs:List V),Reps X.K H1 α1 xs ds->FP X.K H1 α1 ξ Dn (Zbw gt g ds ρ M1)->∀(i:Nat) σ' H',(∃ρ' α' M',Ext X.K H1 H' α1 α'/\SR X.K H' α' σ' ρ'/\HR X.K H' α' M'/\Zbw gt g (ds.drop i) ρ' M'=Zbw gt g ds ρ M1)->
   (∀x,xs[i]?=some x->tt x σ' H' fun σ2 H2=>tb {Dn with nx:=fun σ H=>∃ρ' α' M',Ext X.K H1 H α1 α'/\SR X.K H α' σ ρ'/\HR X.K H α' M'/\Zbw gt g (ds.drop (i+1)) ρ' M'=Zbw gt g ds ρ M1,ct:=fun σ H=>∃ρ' α' M',Ext X.K H1 H α1 α'/\SR X.K H α' σ ρ'/\HR X.K H α' M'/\Zbw gt g (ds.drop (i+1)) ρ' M'=Zbw gt g ds ρ M1,bk:=Dn.nx} σ2 H2)/\
   (i=xs.length->Dn.nx σ' H'):=by
  intro ds xs r w1 i σ' H' ⟨ρ',α',M',ex,sr,hr,en⟩;refine⟨fun x hx=>?_,fun hi=>?_⟩
  ·have hi:i<ds.length:=by rw[<-r.length];exact(ar.mp hx).1
   obtain⟨v,g1,g2⟩:=r.get (Gq hi);rw[hx]at g1;cases g1;rw[dN hi]at en;exact Zkr (tg:=tg) w1 qt qb ex sr hr (Rep.mono ex g2) en (fun σ' H' z=>z)
  ·rw[hi,r.length,List.drop_length]at en;have en':Fl.nx ρ' M'=Zbw gt g ds ρ M1:=en;rw[<-en']at w1;exact w1 σ' H' α' ex hr sr
 cases r1 with
 |@tup p xs ds hp rp=>
  have w2:FP X.K H1 α1 ξ Dn (Zbw gt g ds ρ M1):=w1;refine⟨p,rfl,.inr ⟨⟨xs,(SqT.of hp)⟩,Zmp (K:=X.K) (a:=p) (xs:=xs) (fun i σ' H'=>∃ρ' α' M',Ext X.K H1 H' α1 α'/\SR X.K H' α' σ' ρ'/\HR X.K H' α' M'/\Zbw gt g (ds.drop i) ρ' M'=Zbw gt g ds ρ M1) ⟨ρ,α1,M1,Ext.refl,s1,h1,rfl⟩ ?_ ?_ ?_⟩⟩
  ·rintro i σ' H' _ ⟨ρ',α',M',ex,_⟩;exact SqT.of (ex.tup _ _ hp)
  ·intro i x σ' H' hx z;exact(pure_ ds xs rp w2 i σ' H' z).1 x hx
  ·intro σ' H' z;exact(pure_ ds xs rp w2 _ σ' H' z).2 rfl
 |@rol p xs ds hp rp=>
  have w2:FP X.K H1 α1 ξ Dn (Zbw gt g ds ρ M1):=w1;refine⟨p,rfl,.inl ⟨⟨xs,hp.sq⟩,Zj8 (K:=X.K) (a:=p) (xs:=xs) (fun i σ' H'=>∃ρ' α' M',Ext X.K H1 H' α1 α'/\SR X.K H' α' σ' ρ'/\HR X.K H' α' M'/\Zbw gt g (ds.drop i) ρ' M'=Zbw gt g ds ρ M1) ⟨ρ,α1,M1,Ext.refl,s1,h1,rfl⟩ ?_ ?_ ?_⟩⟩
  ·rintro i σ' H' _ ⟨ρ',α',M',ex,_⟩;exact(ex.rol _ _ hp).sq
  ·intro i x σ' H' hx z;exact(pure_ ds xs rp w2 i σ' H' z).1 x hx
  ·intro σ' H' z;exact(pure_ ds xs rp w2 _ σ' H' z).2 rfl
 |@ref p n hp=>
  cases em:M1[n]? with
  |none=>simp only[Zkq,em]at w1;exact w1.elim
  |some so=>
   cases so with
   |lst ds=>
    simp only[Zkq,em]at w1;obtain⟨xs0,g0,r0⟩:=h1.at hp em;generalize eo:Zhh gt g n ds.length 0 ρ M1=o at w1;refine⟨p,rfl,.inl ⟨⟨xs0,SqL.of g0⟩,fun i m σ' H'=>∃ρ' α' M',Ext X.K H1 H' α1 α'/\SR X.K H' α' σ' ρ'/\HR X.K H' α' M'/\Zhh gt g n m i ρ' M'=o,⟨ds.length,ρ,α1,M1,Ext.refl,s1,h1,eo⟩,?_⟩⟩;rintro i m σ' H' ⟨ρ',α',M',ex,sr,hr,en⟩;unfold Zhh at en;cases em2:M'[n]? with
    |none=>simp only[em2]at en;cases en;exact w1.elim
    |some so2=>
     cases so2 with
     |lst ds2=>
      simp only[em2]at en;obtain⟨xs,g1,g2⟩:=hr.at (ex.get hp) em2;cases ei:ds2[i]? with
      |none=>
       simp only[ei]at en;cases en;refine .inl ⟨⟨xs,SqL.of g1,?_⟩,w1 σ' H' α' ex hr sr⟩;rw[g2.length];exact aW.mp ei
      |some d=>
       simp only[ei]at en;obtain⟨v,k1,k2⟩:=g2.get ei;cases m with
       |zero=>cases en;exact w1.elim
       |succ m=>
        refine .inr ⟨⟨xs,v,SqL.of g1,k1⟩,fun σ2 H2=>∃ρ' α' M',Ext X.K H1 H2 α1 α'/\SR X.K H2 α' σ2 ρ'/\HR X.K H2 α' M'/\Zhh gt g n m (i+1) ρ' M'=o,fun σ2 H2 z=>⟨m,dE m,z⟩,fun x H2 y=>?_⟩;obtain⟨ey,y⟩:=y;subst ey;have ev:=y xs (SqL.of g1);rw[k1]at ev;cases ev;exact Zkr (tg:=tg) w1 qt qb ex sr hr k2 en (fun σ' H' z=>z)
 |_=>exact w1.elim
end
noncomputable def fnF(g:Sv)(n k:Nat):W3:=fun ds M=>if ds.length=n then(match g (ds.map some++aH k none) M with
 |.ret d M'=>.ok d M'
 |.nx _ M'=>.ok .non M'
 |.exc c M'=>.exc c M'
 |_=>.bad)else .bad
def spD(K:Fg)(F:W3):Sp:=fun vs H Q E=>∃ds α M,Reps K H α vs ds/\HR K H α M/\OP K H α E Q (F ds M)
theorem ZeE:∀{ds:List D}{k i:Nat}{d:D},(ds.map some++aH k none)[i]?=some (some d)->ds[i]?=some d
 |[],k,i,d,h=>by
  rw[im,hW]at h
  have:=dZ h
  rw[iN]at this;cases this.2
 |x::r,k,0,d,h=>by simpa using h
 |x::r,k,i+1,d,h=>by
  rw[aP,bC,df]at h;rw[df];exact ZeE h
theorem SR.start{K:Fg}{H:Hp}{α:List Addr}{N:List Str}{vs:List V}{ds:List D}{k:Nat}(r:Reps K H α vs ds)(hk:k=N.length-ds.length):SR K H α (start N vs) (ds.map some++aH k none):=by
 unfold L2.start;refine⟨by simp only[aG,ay,bI,r.length,hk],fun i d h=>?_⟩
 obtain⟨v,h1,h2⟩:=r.get (ZeE h);refine⟨v,?_,h2⟩;have hl:i<vs.length:=(ar.mp h1).1;rw[ae (by rw[ay];exact hl),bp,h1]
 rfl
section
variable {K:Fg}{base:Heap}
theorem Zps{st:Stmt}(F:Fun K x qual st f fd)(S:FnScope N ps (Zt st))(hn:n=ps.length)(hm:m=N.length-n)(hb:∀(cdv:aa)(A:cX)(outer:List Env)(s:aC)(H:Hp)(E:XK),Room k (A.deeper (iI qual (Zt st) s.heap.objs.size f cdv))->Thr (ZfW (CXE P w) P w K mg base N qual (Zt st) f cdv A outer s H E) E->DSs (ZfW (CXE P w) P w K mg base N qual (Zt st) f cdv A outer s H E) E (Zap st) g):FnOk P w K mg base (CXE P w) (k+1) f fd ps (spD K (fnF g n m)):=by
 obtain⟨oc,od,kV,doc,pm,an,cdv,ct,osl,rfl,lk,hcd⟩:=F.ex;refine ZoZ lk hcd S (fun vs H Q E h=>?_) (fun A outer s H vs Q E hr h=>?_)
 ·obtain⟨ds,α,M,r,_,q⟩:=h;by_cases c:ds.length=n
  ·rw[r.length,c,hn]
  ·simp only[fnF,if_neg c]at q;exact q.elim
 ·obtain⟨ds,α,M,r,hh,q⟩:=h;obtain⟨t,p,w'⟩:=hb cdv A outer s H E hr Zlx;by_cases c:ds.length=n
  ·simp only[fnF,if_pos c]at q;refine⟨t,p,w' _ _ H α M _ (SR.start (N:=N) r (k:=m) (by rw[hm,c])) hh ?_⟩
   cases e:g (ds.map some++aH m none) M with
   |nx ρ' M'=>simp only[e]at q;exact fun σ' H' α' ex hr sr=>q _ H' α' ex hr .non
   |ret d M'=>simp only[e]at q;exact q
   |exc x M'=>simp only[e]at q;exact q
   |brk ρ' M'=>simp only[e]at q;exact q.elim
   |cnt ρ' M'=>simp only[e]at q;exact q.elim
   |bad=>simp only[e]at q;exact q.elim
  ·simp only[fnF,if_neg c]at q;exact q.elim
end
theorem ZmM(G:FnOk X.prog X.w X.K X.mg X.base (CXE X.prog X.w) k f fd ps (spD X.K F))(T:Thr X ξ)(hr:Room k X.A)(hm:X.mg x=some (.ref f))(hk:PySem.W.keepIn X.K (.ref f)=true)(hb:Zfi X.K fd ps [])(ha:DA X ξ (e::es) fs)(hg:autoParam (Gl X x) Qrf._auto_1)
  (hdb:(x==("__debug__":Str))=false:=by decide) (he:av (e::es) X.env=(false,eval e X.env)::av es X.env:=by rfl) (hpl:(cN pos (av es X.env)).any (·.1)=false:=by rfl):DE X ξ (.Call (.Name x p) (e::es) [] pos) (Zj F fs):=by
 obtain⟨t,pa,qa⟩:=ha;refine⟨_,Zmt G hr hg hm hk hb .nil T.ps pa hdb he hpl,fun σ ρ H α M Q s hh q=>qa σ ρ H α M _ s hh (OG.seq q fun ds M1 vs H1 α1 e1 h1 r1 q1=>?_)⟩;rw[cC];exact⟨ds,α1,M1,r1,h1,q1⟩
end DL
namespace DL
open PyProof.Rows L2
theorem ZbD:bB "abs"=some (.builtin "abs"):=by decide +kernel
theorem Zgf:bB "int"=some (.type "int"):=by decide +kernel
theorem Zh0:bB "bool"=some (.type "bool"):=by decide +kernel
theorem ZdP:bB "list"=some (.type "list"):=by decide +kernel
theorem Zgg:bB "tuple"=some (.type "tuple"):=by decide +kernel
theorem ZlB:bB "max"=some (.builtin "max"):=by decide +kernel
theorem ZlC:bB "min"=some (.builtin "min"):=by decide +kernel
def Cal(P:cw)(w:cL)(K:Fg)(mg:Str->Option aa)(base:Heap)(x:Str)(k n:Nat)(F:W3):Prop:=
 ∃(f:Addr) (fd:gZ) (ps:List Str),FnOk P w K mg base (CXE P w) k f fd ps (spD K F)/\mg x=some (.ref f)/\PySem.W.keepIn K (.ref f)=true/\ps.length=n/\Zfi K fd ps []
theorem Zks(C:Cal X.prog X.w X.K X.mg X.base x k n F)(T:Thr X ξ)(hr:Room k X.A)(ha:DA X ξ (e::es) fs)(hg:autoParam (Gl X x) Qrf._auto_1)(hdb:autoParam ((x==("__debug__":Str))=false) Qde._auto_1)(he:autoParam (av (e::es) X.env=(false,eval e X.env)::av es X.env) Qrf._auto_1)(hpl:autoParam ((cN pos (av es X.env)).any (·.1)=false) Qrf._auto_1):DE X ξ (.Call (.Name x p) (e::es) [] pos) (Zj F fs):=by
 obtain⟨f,fd,ps,G,hm,hk,_,hb⟩:=C;exact ZmM G T hr hm hk hb ha hg hdb he hpl
end DL
namespace DL
open PyProof.Rows L2
noncomputable def bl:List Str:=["abs","all","any","bool","dict","enumerate","int","isinstance","len","list","max","min","range","repr","reversed","sorted","str","sum","tuple","zip"]
structure Bs(mg:Str->Option aa):Prop where
 b_abs:mg "abs"=none
 b_all:mg "all"=none
 b_any:mg "any"=none
 b_bool:mg "bool"=none
 b_dict:mg "dict"=none
 b_enumerate:mg "enumerate"=none
 b_int:mg "int"=none
 b_isinstance:mg "isinstance"=none
 b_len:mg "len"=none
 b_list:mg "list"=none
 b_max:mg "max"=none
 b_min:mg "min"=none
 b_range:mg "range"=none
 b_repr:mg "repr"=none
 b_reversed:mg "reversed"=none
 b_sorted:mg "sorted"=none
 b_str:mg "str"=none
 b_sum:mg "sum"=none
 b_tuple:mg "tuple"=none
 b_zip:mg "zip"=none
theorem Bs.of{K:Fg}(X:K.In h)(G:h.Ns aI mg)(z:bl.map (PySem.W.nsIn K aI)=bl.map fun _=>some none):Bs mg:=by
 have q (x:Str) (m:x∈bl):mg x=none:=PySem.W.mg_none_of X G (List.map_inj_left.mp z x m)
 constructor<;>exact q _ (by decide +kernel)
noncomputable def Df(K:Fg)(x:Str)(st:Stmt):Prop:=∃f fd,PySem.W.nsIn K aI x=some (some (.ref f))/\Fun K x x st f fd
def Dfs(K:Fg)(p:Nat->Stmt)(L:List Rw):Prop:=
 L.map (fun r=>(PySem.W.nsIn K aI r.n,K.lookup r.f,PySem.W.codeIn K (.ref (r.f-1)) r.n,PySem.W.keepIn K (.ref r.f)))=L.map fun r=>(some (some (.ref r.f)),some (r.fo p),true,true)
theorem Dfs.of{K:Fg}(h:L.map (fun r=>(PySem.W.nsIn K aI r.n,K.lookup r.f,PySem.W.codeIn K (.ref (r.f-1)) r.n,PySem.W.keepIn K (.ref r.f)))=L.map fun r=>(some (some (.ref r.f)),some (r.fo p),true,true)):Dfs K p L:=h
theorem Dfs.at{K:Fg}(h:Dfs K p L)(j i:Nat)(e:autoParam ((L[j]?).map (fun r=>(a7 r.n,r.i))=some (x,i)) Qrf._auto_1):Df K x (p i):=by
 obtain⟨r,m,e⟩:=gu.mp e;have q:=List.map_inj_left.mp h r (dZ m);cases e;simp only[lf]at q;exact⟨_,_,q.1,Zo6 q.2.1 q.2.2.1 q.2.2.2⟩
section
variable {P:cw}{w:cL}{K:Fg}{base:Heap}
theorem ZvC{α:Type}{P:List α->Prop}(h:P []):∀us:List α,us.length=0->P us
 |[],_=>h
theorem Zuq{α:Type}{P:List α->Prop}(h:∀x0,P [x0]):∀us:List α,us.length=1->P us
 |[x0],_=>h x0
theorem Zur{α:Type}{P:List α->Prop}(h:∀x0 x1,P [x0,x1]):∀us:List α,us.length=2->P us
 |[x0,x1],_=>h x0 x1
theorem Zus{α:Type}{P:List α->Prop}(h:∀x0 x1 x2,P [x0,x1,x2]):∀us:List α,us.length=3->P us
 |[x0,x1,x2],_=>h x0 x1 x2
theorem ZvD{α:Type}{P:List α->Prop}(h:∀x0 x1 x2 x3,P [x0,x1,x2,x3]):∀us:List α,us.length=4->P us
 |[x0,x1,x2,x3],_=>h x0 x1 x2 x3
theorem ZvE{α:Type}{P:List α->Prop}(h:∀x0 x1 x2 x3 x4,P [x0,x1,x2,x3,x4]):∀us:List α,us.length=5->P us
 |[x0,x1,x2,x3,x4],_=>h x0 x1 x2 x3 x4
theorem ZvF{α:Type}{P:List α->Prop}(h:∀x0 x1 x2 x3 x4 x5,P [x0,x1,x2,x3,x4,x5]):∀us:List α,us.length=6->P us
 |[x0,x1,x2,x3,x4,x5],_=>h x0 x1 x2 x3 x4 x5
theorem ZN{st:Stmt}(D:Df K x st)(gl:∀c v,PySem.W.nsIn K aI c=some (some v)->mg c=some v)(hb:∀(cdv:aa)(A:cX)(outer:List Env)(s:aC)(H:Hp)(E:XK)(f:Addr),N.Nodup->Room k (A.deeper (iI x (Zt st) s.heap.objs.size f cdv))->Thr (ZfW (CXE P w) P w K mg base N x (Zt st) f cdv A outer s H E) E->DSs (ZfW (CXE P w) P w K mg base N x (Zt st) f cdv A outer s H E) E (Zap st) g)(h1:autoParam ((Zt st).kind=.function) Qrf._auto_1)(h2:autoParam ((Zt st).isCoroutine=false) Qrf._auto_1)(h3:autoParam ((Zt st).isGenerator=false) Qrf._auto_1)(h4:N.Nodup:=by decide +kernel)(h5:autoParam ((N.take n).length=n) Qrf._auto_1)(h6:∀y∈N.take n,(Zt st).names.lookup y=some .local\/(Zt st).names.lookup y=some .cell:=by decide +kernel)(h7:∀y∈(Zt st).names,y.2≠ .free:=by decide +kernel)(hm:autoParam (m=N.length-n) Qrf._auto_1)(bi:∀(kV doc pm:aa)(an:Option Addr)(cdv ct:aa)(us:List aa),us.length=n->hG (PySem.W.fnOf x x (Zbh st) (Zap st) (Zt st) .none kV doc pm an cdv ct) ⟨us,[]⟩=pure ((N.take n).zip us):=by first|exact fun _ _ _ _ _ _=>Zuq fun _=>rfl|exact fun _ _ _ _ _ _=>Zur fun _ _=>rfl|exact fun _ _ _ _ _ _=>Zus fun _ _ _=>rfl|exact fun _ _ _ _ _ _=>ZvD fun _ _ _ _=>rfl|exact fun _ _ _ _ _ _=>ZvE fun _ _ _ _ _=>rfl|exact fun _ _ _ _ _ _=>ZvF fun _ _ _ _ _ _=>rfl|exact fun _ _ _ _ _ _=>ZvC rfl):Cal P w K mg base x (k+1) n (fnF g n m):=by
 obtain⟨f,fd,a,F⟩:=D;have S:FnScope N (N.take n) (Zt st):=⟨h1,h2,h3,h4,by rw[h5],h6,h7⟩
 exact⟨f,fd,N.take n,Zps F S h5.symm hm (fun cdv A outer s H E hr θ=>hb cdv A outer s H E f h4 hr θ),gl _ _ a,F.kp,h5,F.binds (fun kV doc pm an cdv ct us hu=>bi kV doc pm an cdv ct us (hu.trans h5))⟩
theorem Zi(C:Cal X.prog X.w X.K X.mg X.base x k n F)(T:Thr X ξ)(hr:Room j X.A)(ha:DA X ξ (e::es) fs)(hj:autoParam (k<=j) Qde._auto_1)(hg:autoParam (Gl X x) Qrf._auto_1)(hdb:autoParam ((x==("__debug__":Str))=false) Qde._auto_1)(he:autoParam (av (e::es) X.env=(false,eval e X.env)::av es X.env) Qrf._auto_1)(hpl:autoParam ((cN pos (av es X.env)).any (·.1)=false) Qrf._auto_1):DE X ξ (.Call (.Name x p) (e::es) [] pos) (Zj F fs):=Zks C T (hr.mono hj) ha hg hdb he hpl
theorem Zpt{l:PySem.W.OpenLaw}{st:Stmt}(X:K.In h)(G:h.Ns aI mg)(hfa:mg "law"=some (.ref fa))(D:Df K "law" st)(b:∀(kV doc pm:aa)(an:Option Addr)(cdv ct:aa)(v:aa),hG (PySem.W.fnOf "law" "law" (Zbh st) (Zap st) (Zt st) .none kV doc pm an cdv ct) ⟨[v],[]⟩=pure [(y,v)])(q:∀base fd,Fun K "law" "law" st fa fd->FnOk l.prog w K mg base (CXE l.prog w) k fa fd [y] (spD K F)):∃fd:gZ,(∀(s:aC)(v:aa),kM s fd ⟨[v],[]⟩ [(y,v)])/\∀base:Heap,K.In base->base.Ns aI mg->FnOk l.prog w K mg base (CXE l.prog w) k fa fd [y] (spD K F):=by
 obtain⟨f,fd,a,F⟩:=D;have e:=hfa.symm.trans (PySem.W.mg_of X G a);cases e;refine⟨fd,?_,fun base _ _=>q base fd F⟩;obtain⟨oc,od,kV,doc,pm,an,cdv,ct,osl,rfl,lk,hcd⟩:=F.ex;exact fun s v=>.of_eq (b kV doc pm an cdv ct v)
end
end DL
namespace DL
open PyProof.Rows L2
inductive Src where
 |pur (ds:List D)
 |sto (n:Nat)
 |zip (n m:Nat)
 |enu (n:Nat)
 |rev (n l:Nat)
 |zips (ns:List Nat)
 |dct (n:Nat)
 |zipT (n:Nat) (es:List D)
def Zh1(M:Sto)(i:Nat):List Nat->Option (Option (List D))
 |[]=>some (some [])
 |n::ns=>match M[n]? with
  |none=>none
  |some (.lst xs)=>match Zh1 M i ns with
   |none=>none
   |some r=>match xs[i]?,r with|some x,some ds=>some (some (x::ds))|_,_=>some none
def nxt(src:Src)(i:Nat)(M:Sto):Option (Option D):=match src with
 |.pur ds=>some ds[i]?
 |.sto n=>match M[n]? with|some (.lst xs)=>some xs[i]?|none=>none
 |.zip n m=>match M[n]?,M[m]? with
  |some (.lst xs),some (.lst ys)=>(match xs[i]?,ys[i]? with|some x,some y=>some (some (.tup [x,y]))|_,_=>some none)
  |_,_=>none
 |.enu n=>match M[n]? with|some (.lst xs)=>(match xs[i]? with|some x=>some (some (.tup [.int i,x]))|none=>some none)|none=>none
 |.zipT n es=>match M[n]? with|some (.lst xs)=>(match xs[i]?,es[i]? with|some x,some y=>some (some (.tup [x,y]))|_,_=>some none)|none=>none
 |.dct n=>match M[n]? with|some (.lst (.non::r))=>(match r[i]? with|some (.tup (k::_))=>some (some k)|some _=>none|none=>some none)|_=>none
 |.zips ns=>match Zh1 M i ns with|some (some ds)=>some (some (.tup ds))|some none=>some none|none=>none
 |.rev n l=>match M[n]? with|some (.lst xs)=>if i<l then(match xs[l-1-i]? with|some x=>some (some x)|none=>none)else(if i=l then some none else none)|none=>none
def cnt(src:Src)(M:Sto):Nat:=match src with
 |.pur ds=>ds.length
 |.sto n=>match M[n]? with|some (.lst xs)=>xs.length|none=>0
 |.zip n _=>match M[n]? with|some (.lst xs)=>xs.length|none=>0
 |.enu n=>match M[n]? with|some (.lst xs)=>xs.length|none=>0
 |.rev _ l=>l
 |.zipT n _=>match M[n]? with|some (.lst xs)=>xs.length|none=>0
 |.dct n=>match M[n]? with|some (.lst xs)=>xs.length|none=>0
 |.zips ns=>match ns with|n::_=>(match M[n]? with|some (.lst xs)=>xs.length|none=>0)|[]=>0
def Ats(H:Hp)(α:List Addr):List Nat->List Addr->Prop
 |[],[]=>True
 |n::ns,l::ls=>RefK H α 0 n l/\Ats H α ns ls
 |_,_=>False
def Zol(K:Fg)(H:Hp)(α:List Addr)(J:It)(src:Src):Prop:=∀(i:Nat) H' α' M',Ext K H H' α α'->HR K H' α' M'->match nxt src i M' with
 |some none=>J.stop i H'
 |some (some d)=>J.go i H'/\∀x H'',J.yld i H' x H''->Ext K H' H'' α' α'/\HR K H'' α' M'/\Rep K H'' α' x d
 |none=>True
def DI(X:Cx)(ξ:XK)(tg iter:Expr)(f:Ro->Sto->Out Src):Prop:=∃wi:TI,PI X tg iter wi/\∀σ ρ H α M R,SR X.K H α σ ρ->HR X.K H α M->OG X.K (Zol X.K) H α ξ R (f ρ M)->wi σ H R
def iR1(fs:Av):Ro->Sto->Out Src:=fun ρ M=>(fs ρ M).bind fun ds M1=>match ds with
 |[.int j]=>if -(2^62)<=j/\j<2^62 then .ok (.pur (Zal 0 j.toNat)) M1 else .bad
 |_=>.bad
theorem Zds{K:Fg}{lo:Int}:Zol K H α (Itr lo n) (.pur (Zal lo n)):=by
 intro i H' α' M' ex hr;show match some (Zal lo n)[i]? with|some none=>_|some (some d)=>_|none=>True
 by_cases h:i<n
 ·rw[Zgd h];refine⟨h,fun x H'' y=>?_⟩;obtain⟨e1,e2⟩:=y;subst e1 e2;exact⟨Ext.refl,hr,.int _⟩
 ·rw[aJ (by rw[ZdO];lia)]
  exact jr h
theorem Zh2(hm:X.mg "range"=none)(ha:DA X ξ [a] fs)(hgl:autoParam (Gl X "range") Qrf._auto_1)(hs:autoParam (av [a] X.env=[(false,eval a X.env)]) Qrf._auto_1):DI X ξ tg (.Call (.Name "range" p) [a] [] pos) (iR1 fs):=by
 obtain⟨ta,pa,qa⟩:=ha;refine⟨_,Zek hgl hm pa hs,fun σ ρ H α M R s hh q=>qa σ ρ H α M _ s hh (OG.seq q fun ds M1 vs H1 α1 e1 h1 r1 w1=>?_)⟩;cases r1 with
 |nil=>exact w1.elim
 |cons r tz=>
  cases tz with
  |cons _ _=>cases r<;>exact w1.elim
  |nil=>
   cases r with
   |int j=>
    by_cases c: -(2^62)<=j/\j<2^62
    ·simp only[if_pos c]at w1;exact⟨j,rfl,c.1,c.2,w1 _ H1 α1 Ext.refl h1 Zds⟩
    ·simp only[if_neg c]at w1;exact w1.elim
   |_=>exact w1.elim
def iSq(f:Ev):Ro->Sto->Out Src:=fun ρ M=>(f ρ M).bind fun d M1=>match d with
 |.tup ds=>.ok (.pur ds) M1
 |.rol ds=>.ok (.pur ds) M1
 |.con ds=>.ok (.pur ds) M1
 |.ref n=>.ok (.sto n) M1
 |_=>.bad
theorem ZbE(ha:DE X ξ a f):DI X ξ tg a (iSq f):=by
 obtain⟨ta,pa,qa⟩:=ha;refine⟨_,ZlA pa,fun σ ρ H α M R s hh q=>qa σ ρ H α M _ s hh (OG.seq q fun d M1 v H1 α1 e1 h1 r1 w1=>?_)⟩;cases r1 with
 |@tup p xs ds hp rp=>
  refine⟨p,rfl,.inr ⟨⟨xs,(SqT.of hp)⟩,w1 (Itt X.K p) H1 α1 Ext.refl h1 ?_⟩⟩;intro i H' α' M' ex hr;show match some ds[i]? with|some none=>_|some (some d)=>_|none=>True
  cases ei:ds[i]? with
  |none=>exact⟨xs,SqT.of (ex.tup _ _ hp),by rw[rp.length];exact aW.mp ei⟩
  |some d=>
   obtain⟨v,k1,k2⟩:=rp.get ei;refine⟨⟨xs,v,SqT.of (ex.tup _ _ hp),k1⟩,fun x H'' y=>?_⟩;obtain⟨ey,y⟩:=y;have z:=y xs (SqT.of (ex.tup _ _ hp));rw[k1]at z;cases z;subst ey;exact⟨Ext.refl,hr,Rep.mono ex k2⟩
 |@con p xs ds hp rp=>
  refine⟨p,rfl,.inr ⟨⟨xs,hp.sq⟩,w1 (Itt X.K p) H1 α1 Ext.refl h1 ?_⟩⟩;intro i H' α' M' ex hr;show match some ds[i]? with|some none=>_|some (some d)=>_|none=>True
  cases ei:ds[i]? with
  |none=>exact⟨xs,hp.sq,by rw[rp.length];exact aW.mp ei⟩
  |some d=>
   obtain⟨v,k1,k2⟩:=rp.get ei;refine⟨⟨xs,v,hp.sq,k1⟩,fun x H'' y=>?_⟩;obtain⟨ey,y⟩:=y;have z:=y xs hp.sq;rw[k1]at z;cases z;subst ey;exact⟨Ext.refl,hr,Rep.mono ex k2⟩
 |@rol p xs ds hp rp=>
  refine⟨p,rfl,.inl ⟨⟨xs,hp.sq⟩,w1 (Itl X.K p) H1 α1 Ext.refl h1 ?_⟩⟩;intro i H' α' M' ex hr;show match some ds[i]? with|some none=>_|some (some d)=>_|none=>True
  have hq:=(ex.rol _ _ hp).sq;cases ei:ds[i]? with
  |none=>exact⟨xs,hq,by rw[rp.length];exact aW.mp ei⟩
  |some d=>
   obtain⟨v,k1,k2⟩:=rp.get ei;refine⟨⟨xs,v,hq,k1⟩,fun x H'' y=>?_⟩;obtain⟨ey,y⟩:=y;have z:=y xs hq;rw[k1]at z;cases z;subst ey;exact⟨Ext.refl,hr,Rep.mono ex k2⟩
 |@ref p n hp=>
  obtain⟨xs0,g0⟩:=h1.some_at hp;refine⟨p,rfl,.inl ⟨⟨xs0,SqL.of g0⟩,w1 (Itl X.K p) H1 α1 Ext.refl h1 ?_⟩⟩;intro i H' α' M' ex hr;show match(match M'[n]? with|some (.lst xs)=>some xs[i]?|none=>none)with|some none=>_|some (some d)=>_|none=>True
  cases em:M'[n]? with
  |none=>exact dG
  |some so=>
   cases so with
   |lst ds=>
    obtain⟨xs,g1,g2⟩:=hr.at (ex.get hp) em;show match some ds[i]? with|some none=>_|some (some d)=>_|none=>True
    cases ei:ds[i]? with
    |none=>exact⟨xs,SqL.of g1,by rw[g2.length];exact aW.mp ei⟩
    |some d=>
     obtain⟨v,k1,k2⟩:=g2.get ei;refine⟨⟨xs,v,SqL.of g1,k1⟩,fun x H'' y=>?_⟩;obtain⟨ey,y⟩:=y;have z:=y xs (SqL.of g1);rw[k1]at z;cases z;subst ey;exact⟨Ext.refl,hr,k2⟩
 |_=>exact w1.elim
theorem Zam:∀(names:List (Str×cG)) (n:Nat) (acc:List (Str×Addr)),bN n names acc=bN n names []++acc
 |[],_,_=>rfl
 | (x,kd)::r,n,acc=>by
  unfold bN;split
  ·rw[Zam r (n+1) ((x,n)::acc),Zam r (n+1) [(x,n)]];simp
  ·exact Zam r n acc
theorem ZaZ:∀(names:List (Str×cG)) (n:Nat) (x:Str) (c:Addr),(x,c)∈bN n names []->(x,dC)∈names
 |[],_,_,_,h=>by simp[bN]at h
 | (y,kd)::r,n,x,c,h=>by
  unfold bN at h
  split at h
  ·rename_i hk;rw[Zam]at h;rcases bq.mp h with h|h
   ·exact aA _ (ZaZ r (n+1) x c h)
   ·have e:=b9.mp h;cases e
    have:kd=.cell:=by simpa using hk
    rw[this];exact bE
  ·exact aA _ (ZaZ r n x c h)
theorem ZcG{α:Type}:∀{l r:List (Str×α)} {x:Str} {c:α},(l++r).lookup x=some c->l.lookup x=some c\/(l.lookup x=none/\r.lookup x=some c)
 |[],r,x,c,h=>.inr ⟨rfl,h⟩
 | (y,d)::l,r,x,c,h=>by
  rw[bC,bZ]at h;rw[bZ];cases e:x==y with
  |true=>rw[e]at h;exact .inl h
  |false=>rw[e]at h;exact ZcG h
theorem Zdt{α:Type}:∀{l r:List (Str×α)} {x:Str},(∀c,(x,c)∉l)->(l++r).lookup x=r.lookup x
 |[],_,_,_=>rfl
 | (y,d)::l,r,x,h=>by
  rw[bC,bZ];cases e:x==y with
  |true=>
   have:x=y:=by simpa using e
   exact absurd (by rw[this];exact bE) (h d)
  |false=>exact Zdt fun c hc=>h c (aA _ hc)
theorem Zh3(hQ:Q (newEnv scope s.heap.objs.size globals (bN (s.heap.objs.size+1) scope.names cl) qual none .none (some env) f9) {s with heap:=iz (s.heap.push {cls:=.type "dict",data:=.dict #[]}) scope.names}):wpAny M A (ko scope globals cl [] qual none .none (some env)) Q E s:=by
 simp only[ko,iM,if_true];refine Wb (wpAny_alloc ?_);refine Wb (wpAny_layCells _ (fun name kind cells=>by cases hkc:kind==dC<;>simp[hkc]) _ _ _ _ ?_)
 rw[show({s with heap:=s.heap.push {cls:=.type "dict",data:=.dict #[]}}:aC).heap.objs.size=s.heap.objs.size+1 from cx ..];exact Wb (Wp (Wp hQ))
theorem _root_.PySem.W.cellsFrom_mem {x:Str}:∀(names:List (Str×cG)) (n:Nat) (acc:List (Str×Addr)),(x,dC)∈names->((bN n names acc).lookup x).isSome=true
 |[],_,_,h=>by simp at h
 | (y,kd)::r,n,acc,h=>by
  have acc_some:∀(names:List (Str×cG)) (n:Nat) (acc:List (Str×Addr)),(acc.lookup x).isSome=true->((bN n names acc).lookup x).isSome=true:=fun names n acc h=>PySem.W.cellsFrom_some names n acc (.inr h);unfold bN;split
  ·rcases ah.mp h with e|e
   ·cases e;refine acc_some _ _ _ ?_;rw[bZ];simp
   ·exact PySem.W.cellsFrom_mem r _ _ e
  ·rename_i hk;rcases ah.mp h with e|e
   ·cases e;simp at hk
   ·exact PySem.W.cellsFrom_mem r _ _ e
noncomputable def blk(X:Cx)(scope:gN)(cl:List (Str×Addr))(N:List Str)(C:Addr)(fp:List Addr)(s:aC)(H:Hp):Cx:=
 {X with N:=N,s₀:=s,H₀:=H,env:=compEnvC scope (bN (C+1) scope.names cl) C X.env,outer:=X.stack,stack:=X.stack,ex:=fp,fn:=fun x=>scope.names.any fun y=>y.1==x&&y.2 == .cell,pn:=[],xe:=fun _ _=>False,fxs:=none}
theorem ZbO:Thr (blk X scope cl N C fp s H) E0:=
 ⟨eV.never,fun _ _ _ _ _ _ _ h=>by obtain⟨_,_,_,_,_,_,_,_,_,_,_,_,_,q⟩:=h;exact q,fun _ _ _ _ _ _ _ _ _ _ _ _ _ _ _ _ _ _ _ _ _ _ q=>q⟩
def Zgh(src:Src)(tg:Tg)(c:Tv)(f:Ev)(n:Nat):Nat->Nat->Ro->Sto->Out Unit
 |fuel,i,ρ,M=>match nxt src i M with
  |none=>.bad
  |some none=>.ok () M
  |some (some d)=>(match fuel with
   |0=>.bad
   |fuel+1=>(match tg d ρ with
    |none=>.bad
    |some ρ1=>(match c ρ1 M with
     |.ok true M1=>(match f ρ1 M1 with
      |.ok x M2=>(match M2[n]? with
       |some (.lst xs)=>if xs.length<10000000 then Zgh src tg c f n fuel (i+1) ρ1 (M2.set n (.lst (xs++[x])))else .bad
       |none=>.bad)
      |_=>.bad)
     |.ok false M1=>Zgh src tg c f n fuel (i+1) ρ1 M1
     |_=>.bad)))
noncomputable def roB(k:Nat)(fr:List Nat)(ρ:Ro):Ro:=aH k none++fr.map fun i=>(ρ[i]?).join
def Zbe(fi:Ro->Sto->Out Src)(k:Nat)(fr:List Nat)(tg:Tg)(c:Tv)(f:Ev):Ev:=fun ρ M=>(fi ρ M).bind fun src M1=>match Zgh src tg c f M1.length (cnt src M1) 0 (roB k fr ρ) (M1++[.lst []])with
 |.ok _ M2=>.ok (.ref M1.length) M2
 |_=>.bad
structure Blk(X:Cx) (scope:gN) (cl:List (Str×Addr)) (N:List Str) (k:Nat) (fr:List Nat):Prop where
 clos:lF scope X.env=pure cl
 kind:scope.kind=.function
 names:∀y∈scope.names,y.2=.local->scope.names.lookup y.1=some .local
 sub:∀x c,cl.lookup x=some c->X.env.cells.lookup x=some c
 has:∀n x,((lL scope X.env).names.lookup x=some .cell\/(lL scope X.env).names.lookup x=some .free)->∃c,(bN n scope.names cl).lookup x=some c
 len:N.length=k+fr.length
 at_:∀(j i:Nat),fr[j]?=some i->∃x,N[k+j]?=some x/\X.N[i]?=some x/\X.env.kindOf x=some .cell/\((lL scope X.env).names.lookup x=some .cell\/(lL scope X.env).names.lookup x=some .free)/\cl.lookup x=X.env.cells.lookup x/\(x,dC)∉scope.names
noncomputable def ZcA(target iter:Expr)(ifs:List Expr)(it:aa)(env:Env)(body ag:Sem Fin):Sem Fin:=do
 standAt iter.pos
 match <-eW it with
 |none=>pure (.done .next)
 |some v=>
  fY target it v
  assign target env v
  let mut ok:=true
  for c in ifs do
   if ok then ok <-isTrue c env (eval c env)
  if ok then body else ag
noncomputable def Zfn(e elt:Expr)(d:Nat)(it acc:aa)(env:Env):Sem Fin:=do
 (do let _ <-call (.builtin "list.append") [acc,<-eval elt env])
 again (.compLoop e d it acc env)
theorem Zgi(elt t0 i0:Expr)(f0:List Expr)(sc:gN)(pos:Pos)(it acc:aa)(env:Env):fm (.ListComp elt [⟨t0,i0,f0,0⟩] sc pos) 0 it acc env=ZcA t0 i0 f0 it env (Zfn (.ListComp elt [⟨t0,i0,f0,0⟩] sc pos) elt 0 it acc env) (again (.compLoop (.ListComp elt [⟨t0,i0,f0,0⟩] sc pos) 0 it acc env)):=by rfl
theorem Zg5(he:fm (.ListComp elt gens scope pos) d it acc env=ZcA target iter ifs it env body (again (.compLoop (.ListComp elt gens scope pos) d it acc env)))(I:Nat->aC->Prop)(turn:∀n s,I n s->wpAny (aw prog w) A (eW it) (fun r s₁=>match r with
   |none=>R (.ok .next) s₁
   |some v=>wpAny (aw prog w) A (fY target it v) (fun _ s₁=>wpAny (aw prog w) A (assign target env v) (fun _ s₂=>
     wpAny (aw prog w) A (forIn ifs true fun c r=>if r=true then do let ok <-isTrue c env (eval c env);pure (ForInStep.yield ok)else pure (ForInStep.yield r)) (fun ok s₃=>
      if ok=true then wpAny (aw prog w) A body (fun fin s₅=>fin=.again (.compLoop (.ListComp elt gens scope pos) d it acc env)/\∃m,m<n/\I m s₅) (fun _ _=>False) s₃
      else ∃m,m<n/\I m s₃) (fun _ _=>False) s₂) (fun _ _=>False) s₁) (fun _ _=>False) s₁) (fun _ _=>False) s)
  (n:Nat) (h:I n s):
  eY (aw prog w) A (.compLoop (.ListComp elt gens scope pos) d it acc env) R s:=by
 refine codeAny_loop rfl I (fun n s hI=>?_) n h;show wpAny _ A ((fm (.ListComp elt gens scope pos) d it acc env).onRaise (fun x=>do kX x env;theTreesLotGoes x)) _ _ s
 refine wpAny_noted ?_;rw[he];unfold ZcA;refine Wb (wpAny_standAt (Wb (wpAny_mono (turn n s hI) (fun r s₁ h₁=>?_) fun _ _ h'=>h'.elim)));cases r with
 |none=>exact Wp h₁
 |some v=>
  refine Wb (wpAny_mono h₁ (fun _ s₁ h₁=>?_) fun _ _ h'=>h'.elim);refine Wb (wpAny_mono h₁ (fun _ s₂ h₂=>Wb (wpAny_mono h₂ (fun ok s₃ h₃=>?_) fun _ _ h'=>h'.elim)) fun _ _ h'=>h'.elim);cases ok with
  |false=>exact Wp ⟨rfl,h₃⟩
  |true=>
   refine wpAny_mono h₃ (fun fin s₅ h₅=>?_) fun _ _ h'=>h'.elim;obtain⟨rfl,h5⟩:=h₅;exact⟨rfl,h5⟩
def DC(X:Cx)(ifs:List Expr)(c:Tv):Prop:=(ifs=[]/\c=fun _ M=>.ok true M)\/∃e,ifs=[e]/\DT X E0 e c
def Zcw(src:Src)(tg:Tg)(c:Tv)(g:Ro->Sto->Out Ro):Nat->Nat->Ro->Sto->Out Ro
 |fuel,i,ρ,M=>match nxt src i M with
  |none=>.bad
  |some none=>.ok ρ M
  |some (some d)=>(match fuel with
   |0=>.bad
   |fuel+1=>(match tg d ρ with
    |none=>.bad
    |some ρ1=>(match c ρ1 M with
     |.ok true M1=>(match g ρ1 M1 with
      |.ok ρ2 M2=>Zcw src tg c g fuel (i+1) ρ2 M2
      |_=>.bad)
     |.ok false M1=>Zcw src tg c g fuel (i+1) ρ1 M1
     |_=>.bad)))
noncomputable def gEm(f:Ev)(n:Nat):Ro->Sto->Out Ro:=fun ρ M=>match f ρ M with
 |.ok x M2=>(match M2[n]? with
  |some (.lst xs)=>if xs.length<10000000 then .ok ρ (M2.set n (.lst (xs++[x])))else .bad
  |none=>.bad)
 |_=>.bad
def Zbd(fi:Ro->Sto->Out Src)(k:Nat)(fr:List Nat)(tg:Tg)(c:Tv)(g:Nat->Ro->Sto->Out Ro):Ev:=fun ρ M=>(fi ρ M).bind fun src M1=>match Zcw src tg c (g M1.length) (cnt src M1) 0 (roB k fr ρ) (M1++[.lst []])with
 |.ok _ M2=>.ok (.ref M1.length) M2
 |_=>.bad
def Zdu(Y:Cx)(D:Addr)(n0:Nat)(c:Code)(m:Sem Fin)(g:Ro->Sto->Out Ro):Prop:=∀pins s σ ρ H α M ρ' M',Inv Y pins σ H s->SR Y.K H α σ ρ->HR Y.K H α M->RefK H α 0 n0 D->g ρ M=.ok ρ' M'->
 wpAny (aw Y.prog Y.w) Y.A m (fun fin s'=>fin=.again c/\∃σ' H' α',Inv Y pins σ' H' s'/\Ext Y.K H H' α α'/\SR Y.K H' α' σ' ρ'/\HR Y.K H' α' M') (fun _ _=>False) s
def CmP(Y:Cx)(pins:Pn)(fp:List Addr)(tn:Nat->Heap->Prop)(H3:Hp)(α3:List Addr)(g:Nat->Nat->Ro->Sto->Prop)(n:Nat)(s':aC):Prop:=
 ∃i σ' ρ' H' α' M',Inv Y pins σ' H' s'/\tn i s'.heap/\(∀b∈fp,H' b=none)/\SR Y.K H' α' σ' ρ'/\HR Y.K H' α' M'/\Ext Y.K H3 H' α3 α'/\g n i ρ' M'
theorem ZeF{D:Addr}(hct:fm (.ListComp elt gens scope pos) d0 (.ref it) (.ref D) Y.env=ZcA tg iter ifs (.ref it) Y.env body (again (.compLoop (.ListComp elt gens scope pos) d0 (.ref it) (.ref D) Y.env)))(T:Turn Y.prog Y.w Y.K Y.A tg J fp it tn)(hxe:∀x y,Y.xe x y->False)(fp5:∀{H':Hp},(∀b∈fp,H' b=none)->∀b∈fp,Zfa Y pins H' b)(hg:DG Y tg gt)(tst:DC Y ifs c)(hb:Zdu Y D n0 (.compLoop (.ListComp elt gens scope pos) d0 (.ref it) (.ref D) Y.env) body g)(sc:Zol Y.K H3 α3 J src)(aD:RefK H3 α3 0 n0 D)(I4:Inv Y pins σ0 H3 s4)(st4:tn 0 s4.heap)(fr4:∀b∈fp,H3 b=none)(sr:SR Y.K H3 α3 σ0 ρ0)(h3:HR Y.K H3 α3 M3)(er:Zcw src gt c g fuel 0 ρ0 M3=.ok ρ9 M9)(post:∀σ5 H5 α5 s6,Inv Y pins σ5 H5 s6->Ext Y.K H3 H5 α3 α5->SR Y.K H5 α5 σ5 ρ9->HR Y.K H5 α5 M9->R (.ok .next) s6):eY (aw Y.prog Y.w) Y.A (.compLoop (.ListComp elt gens scope pos) d0 (.ref it) (.ref D) Y.env) R s4:=by
 obtain⟨tt,pt,qt⟩:=hg;refine Zg5 hct (CmP Y pins fp tn H3 α3 fun n i ρ' M'=>Zcw src gt c g n i ρ' M'=.ok ρ9 M9) ?_ fuel ⟨0,σ0,ρ0,H3,α3,M3,I4,st4,fr4,sr,h3,Ext.refl,er⟩;rintro n s5 ⟨i,σ5,ρ5,H5,α5,M5,I5,st5,fr5,sr5,hr5,ex5,en⟩;have src5:=sc i H5 α5 M5 ex5 hr5;rw[Zcw]at en;cases ex:nxt src i M5 with
 |none=>rw[ex]at en;cases en
 |some od=>
  rw[ex]at src5 en;cases od with
  |none=>
   cases en;have fin:=T.done Y rfl rfl rfl rfl i pins s5 σ5 H5 (fun _ _=>False) I5 (fp5 fr5) st5 src5;refine thn fin fun r s6 w6=>?_;obtain⟨hr6,I6⟩:=w6;subst hr6;exact post σ5 H5 α5 s6 I6 ex5 sr5 hr5
  |some d=>
   obtain⟨go,yl⟩:=src5;cases n with
   |zero=>cases en
   |succ n=>
    simp only at en;have itm:=T.item Y rfl rfl rfl rfl i pins s5 σ5 H5 (fun _ _=>False) I5 (fp5 fr5) st5 go;refine thn itm fun r s6 hz=>?_;obtain⟨u,hr6,w6⟩:=hz;subst hr6;refine thn w6 fun _ s7 hz=>?_;obtain⟨x,H7,I7,r7,y7,st7,fr7⟩:=hz;obtain⟨ex7,hr7,rp7⟩:=yl x H7 y7;have sr5:=sr5.mono ex7;have hr5:=hr7;have ex5:=ex5.trans ex7;have I7':=I7.pinned (fp5 fr7) (T.obj _ _ st7);cases eg:gt d ρ5 with
    |none=>rw[eg]at en;cases en
    |some ρ6=>
     rw[eg]at en;simp only at en;have asg:=pt _ s7 σ5 H7 x u _ I7' r7 (qt x d σ5 ρ5 H7 α5 ρ6 (fun σ' H'=>H'=H7/\SR Y.K H7 α5 σ' ρ6) sr5 rp7 eg fun σ' s'=>⟨rfl,s'⟩);refine wpAny_mono asg (fun _ s8 ⟨σ8,H8,I8,z8,sr8⟩=>?_) (fun x y z=>hxe x y z);subst z8;have again':∀{σ9:L2.St}{H9:Hp}{s9:aC},Inv Y (pins++Zdo fp s7.heap) σ9 H9 s9->Inv Y pins σ9 H9 s9/\tn (i+1) s9.heap/\∀b∈fp,H9 b=none:=fun{σ9 H9 s9} I9=>by
      refine⟨I9.unpinned,T.keep _ _ _ st7 fun b hb o e=>(I9.pin (b,o) (aS _ (aS _ (Zbv hb e)))).1,fun b hb=>?_⟩;obtain⟨o,e,_⟩:=T.obj _ _ st7 b hb;exact(I9.pin (b,o) (aS _ (aS _ (Zbv hb e)))).2.1
     have after:∀(kk:Bool)(M8:Sto)(H9:Hp)(α9:List Addr)(s9:aC),Inv Y (pins++Zdo fp s7.heap) σ8 H9 s9->Ext Y.K H8 H9 α5 α9->HR Y.K H9 α9 M8->c ρ6 M5=.ok kk M8->
       (if kk=true then wpAny (aw Y.prog Y.w) Y.A body (fun fin s₅=>fin=.again (.compLoop (.ListComp elt gens scope pos) d0 (.ref it) (.ref D) Y.env)/\∃m,m<n+1/\CmP Y pins fp tn H3 α3 (fun n i ρ' M'=>Zcw src gt c g n i ρ' M'=.ok ρ9 M9) m s₅) (fun _ _=>False) s9 else ∃m,m<n+1/\CmP Y pins fp tn H3 α3 (fun n i ρ' M'=>Zcw src gt c g n i ρ' M'=.ok ρ9 M9) m s9):=by
      intro kk M8 H9 α9 s9 I9 ex9 hr9 ec;rw[ec]at en;cases kk with
      |false=>
       obtain⟨a1,a2,a3⟩:=again' I9;exact ZmC ⟨n,dE n,i+1,σ8,ρ6,H9,α9,M8,a1,a2,a3,sr8.mono ex9,hr9,ex5.trans ex9,en⟩
      |true=>
       simp only at en;refine ZmD ?_;cases ef:g ρ6 M8 with
       |exc x9 M10=>rw[ef]at en;cases en
       |bad=>rw[ef]at en;cases en
       |ok ρ10 M10=>
        rw[ef]at en;simp only at en;refine thn (hb _ s9 σ8 ρ6 H9 α9 M8 ρ10 M10 I9 (sr8.mono ex9) hr9 (ex9.get (ex5.get aD)) ef) fun fin s10 hz=>?_;obtain⟨hf,σ10,H10,α10,I10,ex10,sr10,hr10⟩:=hz;obtain⟨a1,a2,a3⟩:=again' I10;exact⟨hf,n,dE n,i+1,σ10,ρ10,H10,α10,M10,a1,a2,a3,sr10,hr10,(ex5.trans ex9).trans ex10,en⟩
     rcases tst with⟨rfl,ec⟩|⟨e,rfl,tt',ptt,qtt⟩
     ·refine wpAny_tests_nil ?_;exact after true M5 H8 α5 s8 I8 Ext.refl hr5 (by rw[ec])
     ·refine wpAny_tests_one ?_;cases ec:c ρ6 M5 with
      |exc x9 M10=>rw[ec]at en;cases en
      |bad=>rw[ec]at en;cases en
      |ok kk M8=>
       have tv':=ptt _ s8 σ8 H8 (fun b H'=>b=kk/\∃α',Ext Y.K H8 H' α5 α'/\HR Y.K H' α' M8) I8 (qtt σ8 ρ6 H8 α5 M5 _ sr8 hr5 (by
        rw[ec];exact fun v H' α' e h r=>⟨r,α',e,h⟩))
       refine wpAny_mono tv' (fun b s9 ⟨H9,I9,zb,α9,ex9,hr9⟩=>?_) (fun x y z=>hxe x y z);subst zb;exact after b M8 H9 α9 s9 I9 ex9 hr9 ec
theorem Zb3{D:Addr}(hxe:∀x y,Y.xe x y->False)(he:DE Y E0 elt f):Zdu Y D n0 (.compLoop e d0 (.ref it) (.ref D) Y.env) (Zfn e elt d0 (.ref it) (.ref D) Y.env) (gEm f n0):=by
 obtain⟨te,pe,qe⟩:=he;intro pins s σ ρ H α M ρ' M' I sr hr aD en;unfold gEm at en;cases ef:f ρ M with
 |exc x9 M10=>rw[ef]at en;cases en
 |bad=>rw[ef]at en;cases en
 |ok y M10=>
  rw[ef]at en;simp only at en;have ev:=pe _ s σ H (fun v H'=>∃α',Ext Y.K H H' α α'/\HR Y.K H' α' M10/\Rep Y.K H' α' v y) I (qe σ ρ H α M _ sr hr (by
   rw[ef];exact fun v H' α' e h r=>⟨α',e,h,r⟩))
  unfold Zfn;refine Wb (Wb (wpAny_mono ev (fun yv s10 ⟨v,H10,I10,r10,α10,ex10,hr10,rp10⟩=>?_) (fun x y z=>hxe x y z)));cases em:M10[n0]? with
  |none=>rw[em]at en;cases en
  |some so=>
   cases so with
   |lst ds=>
    rw[em]at en;simp only at en;by_cases cz:ds.length<10000000
    ·rw[if_pos cz]at en;cases en;have aD10:=ex10.get aD;obtain⟨xs,g1,g2⟩:=hr10.at aD10 em;have ap:=Zes (X:=Y) _ s10 σ H10 (.ref D) [v] (.ref D) [yv] (fun _ H'=>H'=upd H10 D (.lst (xs++[v]))) I10 rfl (.cons r10 .nil) ⟨D,xs,v,rfl,rfl,g1,by rw[g2.length];exact aj cz (by decide),rfl⟩
     refine Wb (wpAny_mono ap (fun _ s11 ⟨v11,H11,I11,_,z11⟩=>?_) (fun x y z=>hxe x y z));subst z11;have exw:Ext Y.K H10 (upd H10 D (.lst (xs++[v]))) α10 α10:=Ext.wr g1;exact Wp (Wp ⟨rfl,σ,_,α10,I11,ex10.trans exw,(sr.mono ex10).mono exw,hr10.wr aD10 g1 (g2.append (.cons rp10 .nil))⟩)
    ·rw[if_neg cz]at en;cases en
section
variable {X:Cx}{iter elt:Expr}{rest:List Comprehension}{scope:gN}{cl:List (Str×Addr)}{N:List Str}{k:Nat}{fr:List Nat}{gt:Tg}{c:Tv}{g:Nat->Ro->Sto->Out Ro}{pos:Pos}{bd:aa->aa->Env->Sem Fin}
theorem join_some{α:Type}{o:Option (Option α)}{v:α}(h:o.join=some v):o=some (some v):=by
 cases o with
 |none=>cases h
 |some x=>cases x with
  |none=>cases h
  |some y=>cases h;rfl
theorem ZmN(h:(roB k fr ρ)[i]?=some (some d)):∃j r,i=k+j/\fr[j]?=some r/\ρ[r]?=some (some d):=by
 unfold roB at h;by_cases hi:i<k
 ·rw[ae (by rw[bI];exact hi)]at h
  have:=dZ h
  rw[iN]at this;cases this.2
 ·rw[aR (by rw[bI];lia),bI,bp]at h
  cases e:fr[i-k]? with
  |none=>rw[e]at h;cases h
  |some r=>
   rw[e]at h;exact⟨i-k,r,by lia,e,join_some (aN h)⟩
noncomputable def stB(k:Nat)(fr:List Nat)(σ:L2.St):L2.St:=aH k none++fr.map fun i=>(σ[i]?).join
theorem ZmO(h:(stB k fr σ)[i]?=some (some d)):∃j r,i=k+j/\fr[j]?=some r/\σ[r]?=some (some d):=by
 unfold stB at h;by_cases hi:i<k
 ·rw[ae (by rw[bI];exact hi)]at h
  have:=dZ h
  rw[iN]at this;cases this.2
 ·rw[aR (by rw[bI];lia),bI,bp]at h
  cases e:fr[i-k]? with
  |none=>rw[e]at h;cases h
  |some r=>
   rw[e]at h;exact⟨i-k,r,by lia,e,join_some (aN h)⟩
theorem SR.blk{K:Fg}(h:SR K H α σ ρ):SR K H α (stB k fr σ) (roB k fr ρ):=by
 refine⟨by simp[stB,roB],fun i d e=>?_⟩
 obtain⟨j,r,rfl,e1,e2⟩:=ZmN e;obtain⟨v,e3,e4⟩:=h.2 r d e2;refine⟨v,?_,e4⟩;unfold stB;rw[aR (by rw[bI];lia),bI,bp,Nat.add_sub_cancel_left,e1]
 show some (σ[r]?).join=_;rw[e3];rfl
theorem Zkt(h:Heap):CellsOk (iz (h.push {cls:=.type "dict",data:=.dict #[]}) scope.names) (h.objs.size+1) (bN (h.objs.size+1) scope.names []):=by
 have:=cellsFrom_ok scope.names (h.push {cls:=.type "dict",data:=.dict #[]}) (h.objs.size+1) [] ⟨fun _ _ hm=>(nomatch hm),jc.nil⟩ (by rw[cx];exact ac _)
 rw[cx]at this;exact this
theorem Zb4(B:Blk X scope cl N k fr){h:Heap}{c:Addr}(e:(bN (h.objs.size+1) scope.names cl).lookup x=some c):(X.env.cells.lookup x=some c)\/((x,c)∈bN (h.objs.size+1) scope.names []/\h.objs.size+1<=c):=by
 rw[Zam]at e;rcases ZcG e with z|⟨_,z⟩
 ·have m:=PySem.mem_of_lookup z;exact .inr ⟨m,((Zkt h).empty x c m).2⟩
 ·exact .inl (B.sub x c z)
theorem ZlD(B:Blk X scope cl N k fr){fp:List Addr}(I:Inv X pins σ H s)(hf:∀b∈fp,Zfa X pins H b)(hlt:∀b∈fp,b<s.heap.objs.size)(hb:b∈fp){c:Addr}(h:(bN (s.heap.objs.size+1) scope.names cl).lookup x=some c):c≠b:=by
 rcases Zb4 B h with z|⟨_,z⟩
 ·exact(hf b hb).2.2.2.2.1 x c z
 ·exact aO (gv (hlt b hb) z)
theorem ZlE(B:Blk X scope cl N k fr)(I:Inv X pins σ H s)(hf:∀b∈fp,Zfa X pins H b)(hlt:∀b∈fp,b<s.heap.objs.size):(blk X scope cl N s.heap.objs.size fp s H).Ok where
 mod:=I.ok.mod
 kind:=B.kind
 glob:=I.ok.glob
 blt:=I.ok.blt
 above:=ac _
 inj:=fun x y c h1 h2=>by
  have old:∀{x c},X.env.cells.lookup x=some c->c<s.heap.objs.size:=fun{x c} e=>by
   obtain⟨v,q⟩:=I.cell x c e;exact q.lt
  rcases Zb4 B h1 with z|⟨m1,z⟩<;>rcases Zb4 B h2 with w|⟨m2,w⟩
  ·exact I.ok.inj x y c z w
  ·exact absurd (gv (old z) w) (cj _)
  ·exact absurd (gv (old w) z) (cj _)
  ·exact name_of_addr (Zkt (scope:=scope) s.heap).apart m1 m2
 has:=fun x h=>B.has _ x h
 cab:=fun x c h e=>by
  obtain⟨y,hy,hz⟩:=List.any_eq_true.mp h;simp only[aT,beq_iff_eq]at hz;have e':(bN (s.heap.objs.size+1) scope.names []++cl).lookup x=some c:=by rw[<-Zam];exact e
  have hs:=PySem.W.cellsFrom_mem scope.names (s.heap.objs.size+1) [] (x:=x) (by rw[<-hz.1,<-hz.2];exact hy)
  rcases ZcG e' with z|⟨z,_⟩
  ·exact dw ((Zkt (scope:=scope) s.heap).empty x c (PySem.mem_of_lookup z)).2
  ·rw[z]at hs;cases hs
 hd:=I.ok.hd
 frames:=I.ok.frames
 stk:=.inl rfl
 exf:=fun b hb=>⟨au (hlt b hb),fun x c h=>ZlD B I hf hlt hb h⟩
 bs:=I.bs
 bsz:=aU I.ok.bsz I.sz
 noex:=fun b o e hb=>by
  rcases(hf b hb).2.2.2.1 with z|z
  ·exact I.ok.noex b o e z
  ·exact absurd (aj (Hz (I.ok.bs b o e).1) z) (cj _)
 exfs:=fun b hb z=>by
  rcases ah.mp (I.stkSub b z)with e|e
  ·exact(hf b hb).2.1 e
  ·exact(hf b hb).2.2.1 e
 funs:=I.stack
 frf:=I.stkFree
 tb:=I.ok.tb.un I.base
theorem ZmP(B:Blk X scope cl N k fr)(I:Inv X pins σ H s)(hf:∀b∈fp,Zfa X pins H b)(hlt:∀b∈fp,b<s.heap.objs.size):Inv (blk X scope cl N s.heap.objs.size fp s H) [] (stB k fr σ) H {s with heap:=iz (s.heap.push {cls:=.type "dict",data:=.dict #[]}) scope.names}:=by
 have hk:∀b o,s.heap.get? b=some o->(iz (s.heap.push {cls:=.type "dict",data:=.dict #[]}) scope.names).get? b=some o:=fun b o e=>jT _ _ b o (Hq _ e);have hn:(iz (s.heap.push {cls:=.type "dict",data:=.dict #[]}) scope.names).Ns s.heap.objs.size (fun _=>none):=(ma.Ns.new s.heap (.type "dict")).keeps (jT _ _);have nw:=Zkt (scope:=scope) s.heap;exact {
  ok:=ZlE B I hf hlt
  os:=rfl
  bare:=I.bare
  base:=Un.kept hk
  loc:=by
   refine⟨_,hn,fun i x v e1 e2 e3=>?_⟩;obtain⟨j,r,rfl,g1,g2⟩:=ZmO e2;obtain⟨y,k1,k2,k3,k4,k5,k6⟩:=B.at_ j r g1;have exy:x=y:=aN (e1.symm.trans k1);subst exy;obtain⟨m0,hm0,hl⟩:=I.loc;obtain⟨u,ru,lk⟩:=hl r x v k2 g2 (.inr (.inl k3));refine⟨u,ru,?_⟩;rcases lk with⟨z,_⟩|⟨_,c,z1,⟨o,z2,z3⟩⟩
   ·rw[k3]at z;cases z
   ·refine .inr ⟨k4,c,?_,⟨o,hk _ _ z2,z3⟩⟩;show(bN (s.heap.objs.size+1) scope.names cl).lookup x=some c;rw[Zam,Zdt fun c' hc'=>k6 (ZaZ _ _ _ _ hc')];exact k5.trans z1
  cell:=fun x c h=>by
   rcases Zb4 B h with z|⟨m,_⟩
   ·obtain⟨v,o,e1,e2⟩:=I.cell x c z;exact⟨v,o,hk _ _ e1,e2⟩
   ·exact⟨none,(nw.empty x c m).1⟩
  free:=I.fresh
  freeC:=fun x c h=>by
   rcases Zb4 B h with z|⟨_,z⟩
   ·exact I.freeC x c z
   ·exact I.hok.fresh (dw z)
  pin:=fun p hp=>(by simp[blk]at hp)
  hok:=I.hok.kept hk
  len:=by
   show(stB k fr σ).length=N.length;rw[B.len];simp[stB]
  qd:=I.qd
  fx:=.free rfl}
theorem Zku(B:Blk X scope cl N k fr)(I3:Inv X pins σ H3 s3)(f3:∀b∈fp,Zfa X pins H3 b)(I6:Inv (blk X scope cl N s3.heap.objs.size fp s3 H3) [] σ5 H5 s6):Inv X pins σ H5 s6/\∀(σ':L2.St)(s8:aC)(h':Heap),Inv X pins σ' H5 s8->(∀b o,b≠s3.heap.objs.size->s8.heap.get? b=some o->h'.get? b=some o)->Inv X pins σ' H5 {s8 with heap:=h',toks:=s8.toks}:=by
 refine⟨I3.call' (s':=s6) (ch:=fp) I6.os I6.base I6.hok I6.bare fun b hb=>?_,fun σ' s8 h' I8 sb=>?_⟩
 ·obtain⟨_,z1,z2,z3,z4,z5⟩:=f3 b hb;exact⟨z3,z1,z4,z5⟩
 ·exact I8.turned (it:=s3.heap.objs.size) sb I6.free (aO I3.lt) (.inr I3.sz)
   (fun x c h z=>by
    obtain⟨v,o,e,_⟩:=I3.cell x c h;exact absurd (Hz e) (by rw[z];exact cj _)) (fun p hp z=>by
    have:=(I3.pin p hp).1
    exact absurd (Hz this) (by rw[z];exact cj _))
theorem Zgj(B:Blk X scope cl N k fr)(pi:PI X tg iter wi)(hg:∀C fp s H,DG (blk X scope cl N C fp s H) tg gt)(ht:∀C fp s H,DC (blk X scope cl N C fp s H) ifs c)(hct:∀it acc env,fm (.ListComp elt (⟨tg,iter,ifs,0⟩::rest) scope pos) 0 it acc env=ZcA tg iter ifs it env (bd it acc env) (again (.compLoop (.ListComp elt (⟨tg,iter,ifs,0⟩::rest) scope pos) 0 it acc env)))(he:∀C fp s H (D n0:Nat) (it:Addr),Zdu (blk X scope cl N C fp s H) D n0 (.compLoop (.ListComp elt (⟨tg,iter,ifs,0⟩::rest) scope pos) 0 (.ref it) (.ref D) (blk X scope cl N C fp s H).env) (bd (.ref it) (.ref D) (blk X scope cl N C fp s H).env) (g n0))(hs:∀x,foldedSetIterable iter X.env x=pure x)(sr:SR X.K H α σ ρ)(I:Inv X pins σ H s)(w:wi σ H fun J H2=>∃α2 M2 src ρ9 M9,Ext X.K H H2 α α2/\HR X.K H2 α2 M2/\Zol X.K H2 α2 J src/\Zcw src gt c (g M2.length) (cnt src M2) 0 (roB k fr ρ) (M2++[.lst []])=.ok ρ9 M9/\∀(D C:Addr) H5 α5 s6 m6,Ext X.K H2 H5 α2 α5->HR X.K H5 α5 M9->RefK H5 α5 0 M2.length D->Inv X pins σ H5 s6->s6.heap.Ns C m6->C≠X.env.locals->(∀x,X.env.cells.lookup x≠some C)->(∀(σ':L2.St)(s8:aC)(h':Heap),Inv X pins σ' H5 s8->(∀b o,b≠C->s8.heap.get? b=some o->h'.get? b=some o)->Inv X pins σ' H5 {s8 with heap:=h',toks:=s8.toks})->compPost (aw X.prog X.w) X.A X.xe use P (.ref D) C (.ok .next) s6):wpAny (aw X.prog X.w) X.A (comprehension (.ListComp elt (⟨tg,iter,ifs,0⟩::rest) scope pos) scope X.env pos' (newList []) false (eval iter X.env) use) P X.xe s:=by
 refine wpAny_comprehension_free rfl hs B.clos B.kind B.names ?_;refine thn (pi pins s σ H _ I w) fun v s1 w1=>thn w1 fun itv s2 w2=>?_;obtain⟨it,fp,tn,J,H2,rfl,I2,T,st2,f2,α2,M2,src,ρ9,M9,e2,h2,sc,er,op2⟩:=w2;have srI:=sr.mono e2;refine bD ?_;have I3:Inv X pins σ (upd H2 s2.heap.objs.size (.lst [])) {s2 with heap:=s2.heap.push {cls:=.type "list",data:=.seq ([]:List aa).toArray}}:=I2.lnew (its:=[]) (t':=s2.toks) .nil (dB _);have fD:H2 s2.heap.objs.size=none:=I2.fresh;generalize hD:s2.heap.objs.size=D at I3 fD;generalize hs3:({s2 with heap:=s2.heap.push {cls:=.type "list",data:=.seq ([]:List aa).toArray}}:aC)=s3 at I3;generalize hH3:upd H2 D (.lst [])=H3 at I3;have h3:HR X.K H3 (α2++[D]) (M2++[.lst []]):=by rw[<-hH3];exact h2.new fD .nil
 have e3:Ext X.K H2 H3 α2 (α2++[D]):=by rw[<-hH3];exact Ext.new fD
 have aD:RefK H3 (α2++[D]) 0 M2.length D:=⟨h2.last D,by first|exact Kn.lst Zz|(rw[<-hH3];exact Kn.lst Zz)⟩
 have lt2:∀b∈fp,b<s2.heap.objs.size:=fun b hb=>let ⟨o,e,_⟩:=T.obj _ _ st2 b hb;Hz e;have keep3:∀b o,s2.heap.get? b=some o->s3.heap.get? b=some o:=fun b o e=>by rw[<-hs3];exact Hq _ e
 have f3:∀b∈fp,Zfa X pins H3 b:=fun b hb=>⟨by rw[<-hH3,ZF (by rw[<-hD];exact au (lt2 b hb))];exact(f2 b hb).1,(f2 b hb).2⟩
 have lt3:∀b∈fp,b<s3.heap.objs.size:=fun b hb=>let ⟨o,e,_⟩:=T.obj _ _ st2 b hb;Hz (keep3 b o e);have st3:tn 0 s3.heap:=T.keep _ _ _ st2 fun b _ o e=>keep3 b o e;refine Zh3 ?_;have keep4:∀b o,s3.heap.get? b=some o->(iz (s3.heap.push {cls:=.type "dict",data:=.dict #[]}) scope.names).get? b=some o:=fun b o e=>jT _ _ b o (Hq _ e);have I4:=ZmP B I3 f3 lt3;generalize iz (s3.heap.push {cls:=.type "dict",data:=.dict #[]}) scope.names=h₁ at keep4 I4;have st4:tn 0 h₁:=T.keep _ _ _ st3 fun b _ o e=>keep4 b o e;have fp5:∀{H':Hp},(∀b∈fp,H' b=none)->∀b∈fp,Zfa (blk X scope cl N s3.heap.objs.size fp s3 H3) [] H' b:=fun hn b hb=>⟨hn b hb,au (lt3 b hb),(ZlE B I3 f3 lt3).exfs b hb,.inl hb,fun x c h=>ZlD B I3 f3 lt3 hb h,fun p hp=>(by simp[blk]at hp)⟩
 have loop:eY (aw X.prog X.w) X.A (.compLoop (.ListComp elt (⟨tg,iter,ifs,0⟩::rest) scope pos) 0 (.ref it) (.ref D) (compEnvC scope (bN (s3.heap.objs.size+1) scope.names cl) s3.heap.objs.size X.env)) (compPost (aw X.prog X.w) X.A X.xe use P (.ref D) s3.heap.objs.size) {s3 with heap:=h₁}:=by
  refine ZeF (Y:=blk X scope cl N s3.heap.objs.size fp s3 H3) (hct _ _ _) T (fun _ _ z=>z) fp5 (hg _ fp s3 H3) (ht _ fp s3 H3) (he _ fp s3 H3 D M2.length it) (fun i H' α' M' ex hr=>sc i H' α' M' (e3.trans ex) hr) aD I4 st4 (fun b hb=>(f3 b hb).1) ((srI.blk).mono e3) h3 er ?_;intro σ5 H5 α5 s6 I6 ex5 sr5 hr5;obtain⟨I7,I8⟩:=Zku B I3 f3 I6;obtain⟨m6,hm6,_⟩:=id I6.loc;exact op2 D _ H5 α5 s6 m6 (e3.trans ex5) hr5 (ex5.get aD) I7 hm6 (aO I3.lt) (fun x h=>by
   obtain⟨v,o,e,_⟩:=I3.cell x _ h;exact absurd (Hz e) (cj _)) I8
 exact codeAny_compStart_list loop (T.self X.A 0 _ _ _ st4 loop)
theorem ZdQ(B:Blk X scope cl N k fr)(hi:DI X ξ tg iter fi)(hg:∀C fp s H,DG (blk X scope cl N C fp s H) tg gt)(ht:∀C fp s H,DC (blk X scope cl N C fp s H) ifs c)(hct:∀it acc env,fm (.ListComp elt (⟨tg,iter,ifs,0⟩::rest) scope pos) 0 it acc env=ZcA tg iter ifs it env (bd it acc env) (again (.compLoop (.ListComp elt (⟨tg,iter,ifs,0⟩::rest) scope pos) 0 it acc env)))(he:∀C fp s H (D n0:Nat) (it:Addr),Zdu (blk X scope cl N C fp s H) D n0 (.compLoop (.ListComp elt (⟨tg,iter,ifs,0⟩::rest) scope pos) 0 (.ref it) (.ref D) (blk X scope cl N C fp s H).env) (bd (.ref it) (.ref D) (blk X scope cl N C fp s H).env) (g n0))(hs:∀x,foldedSetIterable iter X.env x=pure x):DE X ξ (.ListComp elt (⟨tg,iter,ifs,0⟩::rest) scope pos) (Zbd fi k fr gt c g):=by
 obtain⟨wi,pi,qi⟩:=hi;refine⟨fun σ H Q=>∃ρ α M,SR X.K H α σ ρ/\HR X.K H α M/\OP X.K H α ξ Q (Zbd fi k fr gt c g ρ M),?_,fun σ ρ H α M Q s h q=>⟨ρ,α,M,s,h,q⟩⟩;rintro pins s σ H Q I ⟨ρ,α,M,sr,hr,op⟩;rw[eval_ListComp];refine Zgj B pi hg ht hct he hs sr I (qi σ ρ H α M _ sr hr (OG.seq op fun src M1 J H1 α1 e1 h1 r1 q1=>?_));cases er:Zcw src gt c (g M1.length) (cnt src M1) 0 (roB k fr ρ) (M1++[.lst []])with
 |ok u9 M9=>
  rw[er]at q1;exact⟨α1,M1,src,u9,M9,e1,h1,r1,er,fun D C H5 α5 s6 m6 ex5 hr5 aD I7 hm6 _ _ I8=>⟨m6,hm6,fun h' sb=>⟨.ref D,H5,I8 σ s6 h' I7 (fun b o hb e=>(sb.2 b hb).trans e),rfl,q1 _ H5 α5 ex5 hr5 (.ref aD)⟩⟩⟩
 |_=>rw[er]at q1;exact q1.elim
theorem Zpu{c:Tv}:∀(fuel i:Nat)(ρ:Ro)(M:Sto),Zgh src tg c f n fuel i ρ M=(Zcw src tg c (gEm f n) fuel i ρ M).bind fun _ M=>.ok () M:=by
 intro fuel
 induction fuel with
 |zero=>
  intro i ρ M;rw[Zgh,Zcw];rcases nxt src i M with _|_|d<;>rfl
 |succ fuel ih=>
  intro i ρ M;rw[Zgh,Zcw];rcases nxt src i M with _|_|d
  ·rfl
  ·rfl
  ·dsimp only;cases tg d ρ with
   |none=>rfl
   |some ρ1=>
    dsimp only;rcases c ρ1 M with⟨_|_,M1⟩|_|_
    ·exact ih _ _ _
    ·dsimp only[gEm];rcases f ρ1 M1 with⟨x,M2⟩|_|_
     ·dsimp only;rcases M2[n]? with _|⟨xs⟩
      ·rfl
      ·dsimp only;split
       ·exact ih _ _ _
       ·rfl
     ·rfl
     ·rfl
    ·rfl
    ·rfl
theorem Zgk:Zbe fi k fr gt c f=Zbd fi k fr gt c (gEm f):=by
 funext ρ M;unfold Zbe Zbd;congr 1;funext src M1;rw[Zpu];cases Zcw src gt c (gEm f M1.length) (cnt src M1) 0 (roB k fr ρ) (M1++[.lst []])<;>rfl
theorem Za0(B:Blk X scope cl N k fr)(hi:DI X ξ tg iter fi)(h:Blk X scope cl N k fr->∀C fp s H,DG (blk X scope cl N C fp s H) tg gt/\DC (blk X scope cl N C fp s H) ifs c/\DE (blk X scope cl N C fp s H) E0 elt f)(hs:autoParam (∀x,foldedSetIterable iter X.env x=pure x) Qin._auto_1):DE X ξ (.ListComp elt [⟨tg,iter,ifs,0⟩] scope pos) (Zbe fi k fr gt c f):=
 Zgk▸ZdQ B hi (fun C fp s H=>(h B C fp s H).1) (fun C fp s H=>(h B C fp s H).2.1) (Zgi elt tg iter ifs scope pos) (fun C fp s H D n0 it=>Zb3 (fun _ _ z=>z) (h B C fp s H).2.2) hs
end
end DL
namespace DL
open PyProof.Rows L2
theorem ZrL{names:List (Str×cG)}{env:Env}(h:names.all (fun y=>y.2 != .cell&&y.2 != .free)=true):(names.map fun(n,k)=>if(k==c8&&env.scope.kind == .function&&env.kindOf n==some .cell)then(n,dC)else(n,k))=names:=by
 induction names with
 |nil=>rfl
 |cons y r ih=>
  rw[List.all_cons,aT]at h;obtain⟨n,kd⟩:=y;have hk:(kd==c8)=false:=by
   have h1:=h.1;rw[aT]at h1;have h2:=h1.2;cases kd<;>first|rfl|simp at h2
  rw[aP,ih h.2];simp[hk]
theorem Zfo{env:Env}:∀(names:List (Str×cG)) (acc:List (Str×Addr)),(∀y∈names,y.2=.free->∃c,env.cells.lookup y.1=some c)->(forIn names acc fun(x:Str×cG) (cs:List (Str×Addr))=>if x.2==c8 then(do let a <-cellOf env x.1;pure (ForInStep.yield ((x.1,a)::cs)))else(pure (ForInStep.yield cs):Sem _))=
   (pure (((names.filter fun y=>y.2 == .free).map fun y=>(y.1,(env.cells.lookup y.1).getD 0)).reverse++acc):Sem (List (Str×Addr)))
 |[],acc,_=>by simp
 | (n,kd)::r,acc,h=>by
  rw[f6];by_cases hk:(kd==c8)=true
  ·obtain⟨c,hc⟩:=h (n,kd) bE (by simpa using hk)
   have e1:cellOf env n=pure c:=by unfold cellOf;rw[hc]
   have ih:=Zfo r ((n,c)::acc) fun y hy=>h y (aA _ hy);simp only[hk,if_true,e1,pure_bind];refine Eq.trans ih ?_;simp[List.filter_cons,hk,hc]
  ·have ih:=Zfo r acc fun y hy=>h y (aA _ hy);simp only[hk,if_false,pure_bind];refine Eq.trans ih ?_;simp[List.filter_cons,hk]
noncomputable def clF(scope:gN)(env:Env):List (Str×Addr):=((scope.names.filter fun y=>y.2 == .free).map fun y=>(y.1,(env.cells.lookup y.1).getD 0)).reverse
theorem Zdv{env:Env}:∀{l:List (Str×cG)} {x:Str} {c:Addr},(l.map fun y=>(y.1,(env.cells.lookup y.1).getD 0)).lookup x=some c->c=(env.cells.lookup x).getD 0/\∃y∈l,y.1=x
 |[],x,c,h=>by simp at h
 |y::r,x,c,h=>by
  rw[aP,bZ]at h;cases e:x==y.1 with
  |true=>
   rw[e]at h;have ex:x=y.1:=by simpa using e
   cases h;exact⟨by rw[ex],y,bE,ex.symm⟩
  |false=>
   rw[e]at h;obtain⟨h1,z,h2,h3⟩:=Zdv h;exact⟨h1,z,aA _ h2,h3⟩
theorem Zb5{α:Type}:∀{l:List (Str×α)} {x:Str},(∃y∈l,y.1=x)->∃c,l.lookup x=some c
 |[],x,h=>by obtain⟨y,h1,_⟩:=h;simp at h1
 |z::r,x,h=>by
  rw[bZ];cases e:x==z.1 with
  |true=>exact⟨_,rfl⟩
  |false=>
   obtain⟨y,h1,h2⟩:=h;rcases ah.mp h1 with q|q
   ·subst q;rw[h2]at e;simp at e
   ·exact Zb5 ⟨y,q,h2⟩
theorem Zaj{env:Env}(nc:∀n,env.scope.names.lookup n=env.kindOf n):∀{names:List (Str×cG)} {x:Str} {kd:cG},(names.map fun(n,k)=>if(k==c8&&env.scope.kind == .function&&env.kindOf n==some .cell)then(n,dC)else(n,k)).lookup x=some kd->names.lookup x=some kd\/(names.lookup x=some .free/\kd=.cell)
 |[],x,kd,h=>by simp at h
 | (n,q)::r,x,kd,h=>by
  rw[aP,bZ]at h;rw[bZ];dsimp only at h ⊢;by_cases c:(q==c8&&env.scope.kind == .function&&env.kindOf n==some .cell)=true
  ·rw[if_pos c]at h;dsimp only at h;cases e:x==n with
   |true=>
    rw[e]at h;cases h;simp only[aT,beq_iff_eq]at c;exact .inr ⟨by rw[c.1.1],rfl⟩
   |false=>rw[e]at h;exact Zaj nc h
  ·rw[if_neg c]at h;dsimp only at h;cases e:x==n with
   |true=>rw[e]at h;exact .inl h
   |false=>rw[e]at h;exact Zaj nc h
theorem ZaK{env:Env}:∀{names:List (Str×cG)} {x:Str},names.lookup x=some .free->(∃kd,(kd=dC\/kd=c8)/\(names.map fun(n,k)=>if(k==c8&&env.scope.kind == .function&&env.kindOf n==some .cell)then(n,dC)else(n,k)).lookup x=some kd)
 |[],x,h=>by simp at h
 | (n,q)::r,x,h=>by
  rw[bZ]at h;rw[aP,bZ];by_cases c:(q==c8&&env.scope.kind == .function&&env.kindOf n==some .cell)=true
  ·dsimp only;rw[if_pos c];cases e:x==n with
   |true=>exact⟨_,.inl rfl,rfl⟩
   |false=>rw[e]at h;exact ZaK h
  ·dsimp only;rw[if_neg c];cases e:x==n with
   |true=>rw[e]at h;exact⟨q,.inr (aN h),rfl⟩
   |false=>rw[e]at h;exact ZaK h
noncomputable def Zom(XN N:List Str)(dn sn:List (Str×cG))(k:Nat)(fr:List Nat):Bool:=
 (sn.all fun y=>(y.2 != .free||dn.lookup y.1==some .cell)&&(y.2 != .local||sn.lookup y.1==some .local))&&N.length==k+fr.length &&
  (aL fr.length).all fun j=>match fr[j]? with
   |some i=>(match N[k+j]?,XN[i]? with|some x,some y=>x==y&&dn.lookup x==some .cell&&sn.lookup x==some .free&&sn.all (fun y=> !(y.1==x&&y.2 == .cell))|_,_=>false)
   |none=>false
theorem Zut(hN:X.N=XN)(hd:X.env.scope.names=dn)(cel:∀x,dn.lookup x=some .cell->∃c,X.env.cells.lookup x=some c)(hk:scope.kind=.function)(h:Zom XN N dn scope.names k fr=true):Blk X scope (clF scope X.env) N k fr:=by
 unfold Zom at h;simp only[aT,eI,bne_iff_ne,ne_eq,Bool.or_eq_true,beq_iff_eq]at h;obtain⟨⟨h1,h2⟩,h3⟩:=h;have kind:∀x,X.env.kindOf x=dn.lookup x:=fun x=>by rw[<-hd];rfl
 have frc:∀y∈scope.names,y.2=.free->∃c,X.env.cells.lookup y.1=some c:=fun y hy e=>by
  rcases(h1 y hy).1 with z|z
  ·exact absurd e z
  ·exact cel _ z
 have sub:∀x c,(clF scope X.env).lookup x=some c->X.env.cells.lookup x=some c:=fun x c e=>by
  unfold clF at e;rw[<-List.map_reverse]at e;obtain⟨e1,y,e2,e3⟩:=Zdv e;have e4:=fX.mp (List.mem_reverse.mp e2);obtain⟨c',g⟩:=frc y e4.1 (by simpa using e4.2)
  rw[e3]at g;rw[g]at e1 ⊢;rw[e1];rfl
 have has:∀x,scope.names.lookup x=some .free->∃c,(clF scope X.env).lookup x=some c:=fun x e=>by
  refine Zb5 ?_;have m:=PySem.mem_of_lookup e;exact⟨(x,(X.env.cells.lookup x).getD 0),List.mem_reverse.mpr (cf.mpr ⟨(x,.free),fX.mpr ⟨m,by simp⟩,rfl⟩),rfl⟩
 refine⟨?_,hk,fun y hy e=>?_,sub,fun n x z=>?_,h2,fun j i e=>?_⟩
 ·have:=Zfo (env:=X.env) scope.names [] frc
  rw[cC]at this;unfold lF;exact(congrArg (fun(m:Sem (List (Str×Addr)))=>m >>= fun cs=>(pure cs:Sem (List (Str×Addr)))) this).trans (pure_bind _ _)
 ·rcases(h1 y hy).2 with z|z
  ·exact absurd e z
  ·exact z
 ·have nc:∀m,X.env.scope.names.lookup m=X.env.kindOf m:=fun m=>rfl;have own:scope.names.lookup x=some .cell->∃c,(bN n scope.names (clF scope X.env)).lookup x=some c:=fun e=>eB.mp (PySem.W.cellsFrom_some scope.names n _ (.inl e));have oth:scope.names.lookup x=some .free->∃c,(bN n scope.names (clF scope X.env)).lookup x=some c:=fun e=>by
   obtain⟨c,hc⟩:=has x e;exact eB.mp (PySem.W.cellsFrom_some scope.names n _ (.inr (by rw[hc];rfl)))
  rcases z with z|z
  ·rcases Zaj nc z with q|q
   ·exact own q
   ·exact oth q.1
  ·rcases Zaj nc z with q|q
   ·exact oth q
   ·cases q.2
 ·have hj:j<fr.length:=(ar.mp e).1;have q:=h3 j (cA.mpr hj);rw[e]at q;dsimp only at q;cases e1:N[k+j]? with
  |none=>rw[e1]at q;cases q
  |some x=>
   cases e2:XN[i]? with
   |none=>rw[e1,e2]at q;cases q
   |some y=>
    rw[e1,e2]at q;simp only[aT,beq_iff_eq]at q;obtain⟨⟨⟨q1,q2⟩,q3⟩,q4⟩:=q;subst q1;obtain⟨kd,r1,r2⟩:=ZaK (env:=X.env) q3;obtain⟨c,r3⟩:=has x q3;refine⟨x,rfl,by rw[hN];exact e2,by rw[kind];exact q2,?_,r3.trans (sub x c r3).symm,fun hm=>?_⟩
    ·rcases r1 with r1|r1
     ·exact .inl (r1▸r2)
     ·exact .inr (r1▸r2)
    ·have:=eI.mp q4 _ hm
     simp at this
theorem Zhi(XN N:List Str)(dn:List (Str×cG))(k:Nat)(fr:List Nat)(hN:autoParam (X.N=XN) Qrf._auto_1)(hd:autoParam (X.env.scope.names=dn) Qrf._auto_1)(hc:autoParam (X.env.cells=bN n dn []) Qrf._auto_1)(hk:autoParam (scope.kind=.function) Qrf._auto_1)(h:Zom XN N dn scope.names k fr=true:=by decide +kernel):Blk X scope (clF scope X.env) N k fr:=
 Zut hN hd (fun x e=>by
  have:=PySem.W.cellsFrom_some dn n [] (.inl e)
  rw[hc];exact eB.mp this) hk h
def ZcR:List D->Option (List Bool)
 |[]=>some []
 |.bl b::r=>match ZcR r with|some bs=>some (b::bs)|none=>none
 |_::_=>none
def ZvG:W3:=fun ds M=>match ds with
 |[.ref n]=>(match M[n]? with|some (.lst xs)=>(match ZcR xs with|some bs=>.ok (.bl (bs.all id)) M|none=>.bad)|none=>.bad)
 |_=>.bad
end DL
namespace DL
open PyProof.Rows L2
end DL
namespace DL
open PyProof.Rows L2
noncomputable def Zsn(names dn:List (Str×cG)):List (Str×cG):=names.map fun(n,k)=>if(k==c8&&dn.lookup n==some .cell)then(n,dC)else(n,k)
theorem Zh4{X:Cx}(hd:X.env.scope.names=dn)(hk:X.env.scope.kind=.function):(lL scope X.env).names=Zsn scope.names dn:=by
 unfold lL Zsn;rw[<-hd];show scope.names.map _=_;apply dm;rintro⟨n,k⟩ _;have e:(ScopeKind.function==ScopeKind.function)=true:=by decide
 simp only[hk,e,lh];rfl
theorem Zso(B0:Blk X scope0 cl0 N0 k0 fr0)(N:List Str)(dn:List (Str×cG))(k:Nat)(fr:List Nat)(hd:autoParam (X.env.scope.names=dn) Qrf._auto_1)(hk0:autoParam (X.env.scope.kind=.function) Qrf._auto_1)(hk:autoParam (scope.kind=.function) Qrf._auto_1)(h:Zom N0 N (Zsn scope0.names dn) scope.names k fr=true:=by decide +kernel):Blk (blk X scope0 cl0 N0 C fp s H) scope (clF scope (blk X scope0 cl0 N0 C fp s H).env) N k fr:=
 Zut rfl (Zh4 hd hk0) (fun x e=>B0.has _ x (.inl (by rw[Zh4 hd hk0];exact e))) hk h
end DL
namespace DL
open PyProof.Rows L2
open PySem.W (nsIn excIn tailIn nsOkIn mroIn clsIn typeIn findIn specialIn takesIn kitOne Looks)
noncomputable abbrev bmV:List aa:=[.type "ValueError",.type "Exception",.type "BaseException",.type "object"]
noncomputable def Zkv(K:Fg)(c:Str):Option Addr:=match nsIn K aI c with|some (some (.ref C))=>some C|_=>none
theorem Zgl{K:Fg}(h:Zkv K c=some C):nsIn K aI c=some (some (.ref C)):=by
 unfold Zkv at h
 split at h
 ·rename_i C' e;cases h;exact e
 ·cases h
def Zon(K:Fg)(c:Str):Bool:=match Zkv K c with
 |some C=>excIn K C bmV "ValueError.__new__"&&gx K (.ref C) "__getattribute__"==some (some (.builtin "BaseException.__getattribute__"))&&gx K (.ref C) "__getattr__"==some none&&gx K (.ref C) "__class__"==some (some (.builtin "object.__class__")) &&
  gm K (.builtin "object.__class__") "__get__"==some (some (.builtin "getset_descriptor.__get__"))&&iY K (.builtin "object.__class__")==some true&&kh K C (.type "BaseException")==some true&&kh K C (.type "object")==some true&&(lY K C).isSome
 |none=>false
def Zpv(K:Fg)(c:Str):Bool:=match Zkv K c with
 |some C=>gx K (.ref C) "__getattribute__"==some (some (.builtin "BaseException.__getattribute__"))&&gx K (.ref C) "__getattr__"==some none&&gx K (.ref C) "__class__"==some (some (.builtin "object.__class__")) &&
  gm K (.builtin "object.__class__") "__get__"==some (some (.builtin "getset_descriptor.__get__"))&&iY K (.builtin "object.__class__")==some true&&kh K C (.type "BaseException")==some true&&kh K C (.type "object")==some true&&(lY K C).isSome
 |none=>false
theorem ZrM{K:Fg}(h:Zpv K c=true):∃C,nsIn K aI c=some (some (.ref C))/\DQ.ExcC K C:=by
 unfold Zpv at h
 split at h
 ·rename_i C e;simp only[aT,beq_iff_eq]at h;obtain⟨⟨⟨⟨⟨⟨⟨h2,h3⟩,h4⟩,h5⟩,h6⟩,h7⟩,h8⟩,h9⟩:=h;exact⟨C,Zgl e,h2,h3,h4,h5,h6,h7,h8,h9⟩
 ·cases h
theorem ZmQ{K:Fg}(h:Zon K c=true):∃C,nsIn K aI c=some (some (.ref C))/\excIn K C bmV "ValueError.__new__"=true/\DQ.ExcC K C:=by
 unfold Zon at h
 split at h
 ·rename_i C e;simp only[aT,beq_iff_eq]at h;obtain⟨⟨⟨⟨⟨⟨⟨⟨h1,h2⟩,h3⟩,h4⟩,h5⟩,h6⟩,h7⟩,h8⟩,h9⟩:=h;exact⟨C,Zgl e,h1,h2,h3,h4,h5,h6,h7,h8,h9⟩
 ·cases h
theorem ZmR{K:Fg}(X:K.In h)(q:excIn K C bmB newId=true):∃bm N nm q bs hdct sn sub ab col dd k0 k1 k2 k3 k5 mN,h.get? C=some (excClassObj nm q C N bs bm hdct sn sub ab col dd k0 k1 k2 k3 k5 newId)/\h.Ns N mN/\mN "__init__"=none/\OwnTail h bmB bm:=by
 unfold excIn at q
 split at q
 ·rename_i dd cd sl ho
  split at q
  ·rename_i C' bm k0 k1 k2 k3 n k5 hm hs;simp only[aT,beq_iff_eq,Bool.not_eq_true']at q;obtain⟨⟨⟨⟨⟨rfl,rfl⟩,hdel⟩,ht⟩,hok⟩,hni⟩:=q;obtain⟨nm,bs,mro,ns,qn,hd,sn,sub,ab,col,del⟩:=cd;dsimp only at hm hdel hok hni;subst hm hdel;obtain⟨l⟩:=sl;simp only at hs;subst hs;exact⟨bm,ns,nm,qn,bs,hd,sn,sub,ab,col,dd,k0,k1,k2,k3,k5,_,X _ _ ho,.of_isNs (PySem.W.isNs_of_in X hok),PySem.W.nsMap_none_of_in X hok hni,PySem.W.tail_of_in X ht⟩
  ·cases q
 ·cases q
theorem Zpw(k:HOk P w H h)(hn:h.get? e=none):H e=none:=by
 cases z:H e with
 |none=>rfl
 |some u=>obtain⟨o,g⟩:=Zf8 (k e u z);rw[hn]at g;cases g
def ZeG(c:Str)(fs:Av):Sv:=fun ρ M=>Zav (fs ρ M) fun ds M1=>if ds.length<=1000 then .exc c M1 else .bad
theorem ZcH(T:Thr X ξ)(hx:Zon X.K x=true)(gl:∀c v,nsIn X.K aI c=some (some v)->X.mg c=some v)(hh:X.A.handled=none)(ha:DA X ξ (a::as) fs)(hg:autoParam (Gl X x) Qrf._auto_1)(hdb:autoParam ((x==("__debug__":Str))=false) Qde._auto_1)(hf:autoParam (ZmJ x=false) Qde._auto_1)(he:autoParam (av (a::as) X.env=(false,eval a X.env)::av as X.env) Qrf._auto_1)(hpl:autoParam ((cN cpos (av as X.env)).any (·.1)=false) Qrf._auto_1):DS X ξ (.Raise (some (.Call (.Name x np) (a::as) [] cpos)) none pos) (ZeG x fs):=by
 obtain⟨ta,pa,qa⟩:=ha;obtain⟨C,hC,hq,_⟩:=ZmQ hx;refine⟨fun Dn σ H=>ta σ H fun vs H1=>vs.length<=sizeLine/\ξ (.ref C) none H1,fun pins s σ H Dn I h=>?_,fun σ ρ H α M Dn s h q=>?_⟩
 ·obtain⟨tl,N,nm,q,bs,hdct,sn,sub,ab,col,dd,k0,k1,k2,k3,k5,mN,gC,hN,hni,TL⟩:=ZmR I.ok.mod.kin hq;refine wpAny_Raise_call_subT (C:=C) (nm:=nm) (q:=q) (N:=N) (bs:=bs) (bm:=tl) (hdct:=hdct) (sn:=sn) (sub:=sub) (ab:=ab) (col:=col) (dd:=dd) (k0:=k0) (k1:=k1) (k2:=k2) (k3:=k3) (k5:=k5) F.excBase_ValueError (mN:=mN)
   (TL.hasType F.excBase_ValueError.hasBase) hh (by rw[he];show(false||(cN cpos (av as X.env)).any (·.1))=false;rw[hpl];rfl) hni (Zhq I hg (gl x _ hC) ⟨rfl,?_⟩ hdb)
  have hs:=pa cpos pins s σ H _ I h;rw[he]at hs ⊢;refine Calls.evalArgs_plain (wpAny_mono hs (fun us s2 ⟨vs,H1,I1,r1,z1,z2⟩=>⟨rfl,by rw[<-r1.length];exact z1,I1.bk _ _ gC,hN.keeps I1.bk,TL.keeps I1.bk,fun h' e m=>?_⟩) fun _ _ y=>y)
  obtain⟨t,g1,g2,g3⟩:=m.there;exact T.mak pins σ H1 H1 s2 {s2 with heap:=h'} e _ _ C I1 rfl I1.bare (Un.kept m.keeps) (I1.hok.kept m.keeps) m.new g1 rfl rfl rfl rfl (Zpw I1.hok m.new) z2
 ·refine qa σ ρ H α M _ s h (FP.seq q fun ds M1 vs H1 α1 e1 h1 r1 w1=>?_);by_cases hl:ds.length<=1000
  ·rw[if_pos hl]at w1;exact⟨by rw[r1.length];exact small hl,w1 C H1 α1 hC Ext.refl none (.inl ⟨hf,h1,rfl⟩)⟩
  ·rw[if_neg hl]at w1;exact w1.elim
end DL
namespace DL
open PyProof.Rows L2
open PySem.W (nsIn excIn tailIn nsOkIn mroIn clsIn typeIn findIn specialIn takesIn kitOne Looks looks_mroIn looks_typeIn)
noncomputable def kpR:List Bool->Ro->Ro
 |b::m,x::r=>(bif b then none else x)::kpR m r
 |_,[]=>[]
 |[],_::r=>none::kpR [] r
def fsE(c:Str)(M:Sto):List D:=if ZmJ c=true then(match M.getLast? with|some (.lst xs)=>xs|none=>[])else[]
def stE(c:Str)(M:Sto):Sto:=if ZmJ c=true then M.dropLast else M
theorem Zsp(h:ZmJ c=false):stE c M=M:=by unfold stE;rw[h];rfl
theorem Zsq(h:ZmJ c=true):stE c (M++[.lst ds])=M:=by unfold stE;rw[if_pos h,List.dropLast_concat]
theorem XO.hr{K:Fg}(h:XO K H α c M dct):HR K H α (stE c M):=by
 rcases h with⟨h1,h2,_⟩|⟨h1,M0,ds,dx,fs,rfl,h2,_⟩
 ·rw[Zsp h1];exact h2
 ·rw[Zsq h1];exact h2
theorem ZH{A:cX}(hr:Room k (A.deeper env))(h:100<=k):A.handled.isNone=true:=by
 have e:A.handled=none:=hr.hd h;rw[e];rfl
end DL
namespace DL
open PyProof.Rows L2
abbrev Me:=D->List D->Sto->Out D
def MO(X:Cx)(ξ:XK)(r:V->List V->Hp->VK->Prop)(g:Me):Prop:=∀H α M v vs x ds Q,HR X.K H α M->Rep X.K H α v x->Reps X.K H α vs ds->OP X.K H α ξ Q (g x ds M)->r v vs H Q
theorem HR.wrE{K:Fg}(h:HR K H α M)(e:RefK H α 0 n p)(hp:H p=some (.lst ys))(r:Reps K H α xs ds):Ext K H (upd H p (.lst xs)) α α/\HR K (upd H p (.lst xs)) α (M.set n (.lst ds)):=
 ⟨Ext.wr hp,h.wr e hp r⟩
section
variable {X:Cx}{id:String}{r:V->List V->Hp->VK->Prop}
noncomputable def ZmS(x:D)(M:Sto):Bool:=match x with|.ref n=>M[n]?.isSome|_=>false
def Zeh(g:Me)(fo:Ev)(fs:Av):Ev:=fun ρ M=>(fo ρ M).bind fun x M1=>if ZmS x M1=true then(fs ρ M1).bind fun ds M2=>g x ds M2 else .bad
theorem ZmT{K:Fg}(h:HR K H α M)(rx:Rep K H α v x)(k:ZmS x M=true):tyV K "list" v H:=by
 cases rx with
 |@ref p n hp=>
  obtain⟨xs,g⟩:=h.some_at hp;exact .inl ⟨rfl,_,SqL.of g⟩
 |_=>cases k
theorem Zsr(slot:Slot "list" name id)(hty:typeOf (.builtin id)=pure (.type "method_descriptor"))(hm:MtR X id r)(hf:MO X ξ r g)(ho:DE X ξ o fo)(ha:DA X ξ (e::es) fs)(hbase:autoParam (gX o name X.env (eval o X.env)=eval o X.env) Qrf._auto_1)
  (hfew:((cN cpos (av (e::es) X.env)).all (fun x=> !x.1)&&(iK cpos (fk [] X.env)).all (fun x=>x.1.isSome) && decide ((e::es).length+([]:List io).length+(if([]:List io).isEmpty then 0 else 1)<30))=true:=by rfl)
  (hline:(apos.endLine==cpos.line)=true:=by rfl) (hs:av (e::es) X.env=(false,eval e X.env)::av es X.env:=by rfl) (hplain:(cN cpos (av es X.env)).any (·.1)=false:=by rfl):
  DE X ξ (.Call (.Attribute o name apos) (e::es) [] cpos) (Zeh g fo fs):=by
 obtain⟨to,po,qo⟩:=ho;obtain⟨ta,pa,qa⟩:=ha;refine⟨_,Zsf PySem.F.plainAttrs_list slot hty hm po pa hbase hfew hline hs hplain,fun σ ρ H α M Q s h q=>?_⟩;refine qo σ ρ H α M _ s h (OG.seq q fun x M1 v H1 α1 e1 h1 r1 q1=>?_);by_cases k:ZmS x M1=true
 ·rw[if_pos k]at q1;exact⟨ZmT h1 r1 k,qa σ ρ H1 α1 M1 _ (s.mono e1) h1 (OG.seq q1 fun ds M2 vs H2 α2 e2 h2 r2 q2=>hf H2 α2 M2 v vs x ds Q h2 (Rep.mono e2 r1) r2 q2)⟩
 ·rw[if_neg k]at q1;exact q1.elim
noncomputable def mApp:Me:=fun x ds M=>match x,ds with
 |.ref n,[d]=>(match M[n]? with|some (.lst xs)=>if xs.length<10000000 then .ok .non (M.set n (.lst (xs++[d])))else .bad|none=>.bad)
 |_,_=>.bad
theorem Zpx:MO X ξ rAppend mApp:=by
 intro H α M v vs x ds Q h rx rs q;cases rx with
 |@ref p n hp=>
  match rs with
  |.nil=>exact q.elim
  |.cons _ (.cons _ _)=>exact q.elim
  |.cons (v:=u) (d:=d) ru .nil=>
   cases em:M[n]? with
   |none=>simp only[mApp,em]at q;exact q.elim
   |some so=>
    cases so with
    |lst es=>
     obtain⟨xs,g1,g2⟩:=h.at hp em;by_cases c:es.length<10000000
     ·simp only[mApp,em,if_pos c]at q;obtain⟨k1,k2⟩:=h.wrE hp g1 (g2.append (.cons ru .nil));exact⟨p,xs,u,rfl,rfl,g1,by rw[g2.length];exact aj c (by decide),q _ _ α k1 k2 .non⟩
     ·simp only[mApp,em,if_neg c]at q;exact q.elim
 |_=>cases rs<;>exact q.elim
theorem ZQ(ho:DE X ξ o fo)(ha:DE X ξ e fa)(hbase:autoParam (gX o "append" X.env (eval o X.env)=eval o X.env) Qrf._auto_1)
  (hfew:((cN cpos (av [e] X.env)).all (fun x=> !x.1)&&(iK cpos (fk [] X.env)).all (fun x=>x.1.isSome) && decide ([e].length+([]:List io).length+(if([]:List io).isEmpty then 0 else 1)<30))=true:=by rfl)
  (hline:(apos.endLine==cpos.line)=true:=by rfl) (hs:av [e] X.env=(false,eval e X.env)::av [] X.env:=by rfl) (hplain:(cN cpos (av [] X.env)).any (·.1)=false:=by rfl):
  DE X ξ (.Call (.Attribute o "append" apos) [e] [] cpos) (Zeh mApp fo (Zc fa aNil)):=Zsr PySem.F.slot_list_append PySem.F.type_list_append Zes Zpx ho (Za ha Ze hs) hbase hfew hline hs hplain
def DO(X:Cx)(ξ:XK)(e:Option Expr)(f:Ro->Sto->Out (Option Int)):Prop:=∃t:TO,PO X e t/\∀σ ρ H α M (Q:Option Int->Hp->Prop),SR X.K H α σ ρ->HR X.K H α M->OG X.K (fun _ _ v d=>v=d) H α ξ Q (f ρ M)->t σ H Q
noncomputable def oNo:Ro->Sto->Out (Option Int):=fun _ M=>.ok none M
def oSo(f:Ev):Ro->Sto->Out (Option Int):=fun ρ M=>(f ρ M).bind fun x M1=>match x with|.int i=>.ok (some i) M1|_=>.bad
theorem Zh5:DO X ξ none oNo:=⟨_,Zmv,fun σ ρ H α M Q s h q=>q none H α Ext.refl h rfl⟩
theorem Zh6(ha:DE X ξ e fa):DO X ξ (some e) (oSo fa):=by
 obtain⟨ta,pa,qa⟩:=ha;refine⟨_,Zmw pa,fun σ ρ H α M Q s h q=>?_⟩;refine qa σ ρ H α M _ s h (OG.seq q fun x M1 v H1 α1 e1 h1 r1 q1=>?_);cases r1 with
 |int i=>exact⟨i,rfl,q1 (some i) H1 α1 Ext.refl h1 rfl⟩
 |_=>exact q1.elim
def Zfp(xs:List D)(lo hi:Option Int):List D:=(xs.drop (HT.sIx xs.length 0 lo)).take (HT.sIx xs.length xs.length hi-HT.sIx xs.length 0 lo)
theorem Reps.drop{K:Fg}{H:Hp}{α:List Addr}:∀(n:Nat){vs:List V}{ds:List D},Reps K H α vs ds->Reps K H α (vs.drop n) (ds.drop n)
 |0,_,_,h=>h
 |_+1,_,_,.nil=>.nil
 |n+1,_,_,.cons _ t=>Reps.drop n t
theorem Reps.take{K:Fg}{H:Hp}{α:List Addr}:∀(n:Nat){vs:List V}{ds:List D},Reps K H α vs ds->Reps K H α (vs.take n) (ds.take n)
 |0,_,_,_=>.nil
 |_+1,_,_,.nil=>.nil
 |n+1,_,_,.cons r t=>.cons r (Reps.take n t)
theorem Reps.cut{K:Fg}(r:Reps K H α vs ds)(lo hi:Option Int):Reps K H α (Zlm vs lo hi) (Zfp ds lo hi):=by
 unfold Zlm Zfp;rw[r.length];exact(r.drop _).take _
def eSl(f:Ev)(lo hi:Ro->Sto->Out (Option Int)):Ev:=fun ρ M=>(f ρ M).bind fun x M1=>(lo ρ M1).bind fun l M2=>(hi ρ M2).bind fun u M3=>match x with
 |.ref n=>(match M3[n]? with|some (.lst xs)=>.ok (.ref M3.length) (M3++[.lst (Zfp xs l u)])|none=>.bad)
 |.rol xs=>.ok (.ref M3.length) (M3++[.lst (Zfp xs l u)])
 |.tup xs=>if HT.sIx xs.length 0 l=0/\HT.sIx xs.length xs.length u=xs.length then .bad else .ok (.tup (Zfp xs l u)) M3
 |_=>.bad
theorem Zh7{lo:Option Expr}(he:DE X ξ e fa)(hl:DO X ξ lo fl)(hh:DO X ξ hi fh):DE X ξ (.Subscript e (.Slice lo hi none p2) pos) (eSl fa fl fh):=by
 obtain⟨ta,pa,qa⟩:=he;obtain⟨tl,pl,ql⟩:=hl;obtain⟨th,ph,qh⟩:=hh;refine⟨_,Zke (SlR.or ZmB Zo1) pa pl ph,fun σ ρ H α M Q s h q=>?_⟩;refine qa σ ρ H α M _ s h (OG.seq q fun x M1 v H1 α1 e1 h1 r1 q1=>?_);refine ql σ ρ H1 α1 M1 _ (s.mono e1) h1 (OG.seq q1 fun l M2 l' H2 α2 e2 h2 r2 q2=>?_);refine qh σ ρ H2 α2 M2 _ ((s.mono e1).mono e2) h2 (OG.seq q2 fun u M3 u' H3 α3 e3 h3 r3 q3=>?_);cases r2;cases r3;cases Rep.mono e3 (Rep.mono e2 r1)with
 |@ref p n hp=>
  cases em:M3[n]? with
  |none=>simp only[em]at q3;exact q3.elim
  |some so=>
   cases so with
   |lst es=>
    simp only[em]at q3;obtain⟨xs,g1,g2⟩:=h3.at hp em;exact .inl ⟨p,xs,rfl,SqL.of g1,fun a ha=>q3 _ _ (α3++[a]) (Ext.new ha) (h3.new ha (g2.cut l u)) (.ref ⟨h3.last a,Kn.lst Zz⟩)⟩
 |@rol p xs ds hp rp=>
  have q4:OP X.K H3 α3 ξ Q (.ok (.ref M3.length) (M3++[.lst (Zfp ds l u)])):=q3;exact .inl ⟨p,xs,rfl,hp.sq,fun a ha=>q4 _ _ (α3++[a]) (Ext.new ha) (h3.new ha (rp.cut l u)) (.ref ⟨h3.last a,Kn.lst Zz⟩)⟩
 |@tup p xs ds hp rp=>
  by_cases c:HT.sIx ds.length 0 l=0/\HT.sIx ds.length ds.length u=ds.length
  ·simp only[if_pos c]at q3;exact q3.elim
  ·simp only[if_neg c]at q3;exact .inr ⟨p,xs,rfl,(SqT.of hp),by rw[rp.length];exact c,fun a ha=>q3 _ _ α3 (Ext.new0 ha) (h3.tup ha) (.tup Zz (Reps.mono (Ext.new0 ha) (rp.cut l u)))⟩
 |_=>exact q3.elim
def iR2(fs:Av):Ro->Sto->Out Src:=fun ρ M=>(fs ρ M).bind fun ds M1=>match ds with
 |[.int i,.int j]=>if -(2^62)<=i/\i<2^62/\ -(2^62)<=j/\j<2^62 then .ok (.pur (Zal i (j-i).toNat)) M1 else .bad
 |_=>.bad
theorem ZeH(hm:X.mg "range"=none)(ha:DA X ξ [a,b] fs)(hgl:autoParam (Gl X "range") Qrf._auto_1)(hs:autoParam (av [a,b] X.env=[(false,eval a X.env),(false,eval b X.env)]) Qrf._auto_1)(hs2:autoParam (av [b] X.env=[(false,eval b X.env)]) Qrf._auto_1):DI X ξ tg (.Call (.Name "range" p) [a,b] [] pos) (iR2 fs):=by
 obtain⟨ta,pa,qa⟩:=ha;refine⟨_,Zel hgl hm pa hs hs2,fun σ ρ H α M R s hh q=>qa σ ρ H α M _ s hh (OG.seq q fun ds M1 vs H1 α1 e1 h1 r1 w1=>?_)⟩
 split at w1
 ·rename_i i j;cases r1 with
  |cons r t=>
   cases t with
   |cons r' t=>
    cases t;cases r;cases r';by_cases c: -(2^62)<=i/\i<2^62/\ -(2^62)<=j/\j<2^62
    ·simp only[if_pos c]at w1;exact⟨i,j,rfl,c,w1 _ H1 α1 Ext.refl h1 Zds⟩
    ·simp only[if_neg c]at w1;exact w1.elim
 ·exact w1.elim
end
end DL
namespace DL
open PyProof.Rows L2
def ZeJ(tg:Tg)(g:Sv)(src:Src):Nat->Nat->Ro->Sto->Fl
 |f,i,ρ,M=>match nxt src i M with
  |none=>.bad
  |some none=>.nx ρ M
  |some (some d)=>(match f with
   |0=>.bad
   |f+1=>(match tg d ρ with
    |none=>.bad
    |some ρ1=>(match g ρ1 M with
     |.nx ρ2 M2=>ZeJ tg g src f (i+1) ρ2 M2
     |.cnt ρ2 M2=>ZeJ tg g src f (i+1) ρ2 M2
     |.brk ρ2 M2=>.nx ρ2 M2
     |o=>o)))
def ZeK(tg:Tg)(fi:Ro->Sto->Out Src)(g:Sv):Sv:=fun ρ M=>Zav (fi ρ M) fun src M1=>ZeJ tg g src (cnt src M1) 0 ρ M1
theorem ZcS(hp:eV (aw X.prog X.w) X.A X.env X.xe)(hi:DI X ξ tg iter fi)(hg:DG X tg gt)(hb:DSs X ξ body g)(hf:autoParam (∀x,foldedSetIterable iter X.env x=pure x) Qin._auto_1):DS X ξ (.For tg iter body [] pos) (ZeK gt fi g):=by
 obtain⟨wi,pi,qi⟩:=hi;obtain⟨tt,pt,qt⟩:=hg;obtain⟨tb,pb,qb⟩:=hb;refine⟨_,ZfU hp pi pt pb hf,fun σ ρ H α M Dn s hh w=>qi σ ρ H α M _ s hh (FP.seq w fun src M1 J H1 α1 e1 h1 sc w1=>?_)⟩;generalize eo:ZeJ gt g src (cnt src M1) 0 ρ M1=o at w1;refine⟨fun i m σ' H'=>∃ρ' α' M',Ext X.K H1 H' α1 α'/\SR X.K H' α' σ' ρ'/\HR X.K H' α' M'/\ZeJ gt g src m i ρ' M'=o,⟨cnt src M1,ρ,α1,M1,Ext.refl,s.mono e1,h1,eo⟩,?_⟩;rintro i m σ' H' ⟨ρ',α',M',ex,sr,hr,en⟩;have s5:=sc i H' α' M' ex hr;unfold ZeJ at en;cases en1:nxt src i M' with
 |none=>rw[en1]at en;cases en;exact w1.elim
 |some od=>
  rw[en1]at en s5;cases od with
  |none=>cases en;exact .inl ⟨s5,w1 σ' H' α' ex hr sr⟩
  |some d=>
   obtain⟨go,yl⟩:=s5;cases m with
   |zero=>cases en;exact w1.elim
   |succ m=>
    simp only at en;refine .inr ⟨go,fun σ2 H2=>∃ρ' α' M',Ext X.K H1 H2 α1 α'/\SR X.K H2 α' σ2 ρ'/\HR X.K H2 α' M'/\ZeJ gt g src m (i+1) ρ' M'=o,fun σ2 H2 z=>⟨m,dE m,z⟩,fun x H2 y=>?_⟩;obtain⟨ex7,hr7,rp7⟩:=yl x H2 y;exact Zkr (tg:=tg) w1 qt qb (ex.trans ex7) (sr.mono ex7) hr7 rp7 en (fun σ' H' z=>z)
theorem Zfq{ch:List Addr}(I:Inv X pins σ H s)(k:∀b o,b∉ch->s.heap.get? b=some o->h'.get? b=some o)(hf:∀b∈ch,Zfa X pins H b):Inv X pins σ H {s with heap:=h',toks:=t'}:=by
 have nit:∀b u,H b=some u->b∉ch:=fun b u e z=>by rw[(hf b z).1]at e;cases e
 have hL:X.env.locals∉ch:=fun z=>(hf _ z).2.1 rfl;refine I.step (g':=s.gens) (d':=s.drawn) (ch:=ch) (fun b hb=>?_) (fun b o _ _ hc e _=>k b o hc e) (fun b o _ _ hc e _=>⟨o.slots,k b o hc e⟩) (fun _ _ _ _ n=>n)
  (fun b o hc e=>⟨o,k b o hc e⟩) (fun _ _ e=>e) (fun _ _ _ e=>e) (fun b ps e=>⟨#[],by rw[e];simp⟩) (fun m hm=>?_) (fun b u e=>?_) I.bare
 ·obtain⟨_,z1,_,z3,z4,z5⟩:=hf b hb;exact⟨z3,z1,z4,z5⟩
 ·obtain⟨o,es,ep,ho,r⟩:=hm;exact⟨o,es,ep,k _ o hL ho,r⟩
 ·refine(I.hok b u e).stay (fun c v hc q=>k c v ?_ q) (fun _ q=>q) fun _ _ q=>q;rcases hc with z|z
  ·rw[z];exact nit b u e
  ·exact nit c _ z
theorem Zh8{ch:List Addr}(I:Inv X pins σ H s)(hf:∀b∈ch,Zfa X pins H b)(hlt:∀b∈ch,b<s.heap.objs.size)(rv:ZZ vs us)(hz:vs.length<=sizeLine)(k:∀b o,b∉ch->s.heap.get? b=some o->h'.get? b=some o)(ht:h'.get? s.heap.objs.size=some {cls:=.type "tuple",data:=.seq us.toArray}):Inv X pins σ (upd H s.heap.objs.size (.tup vs)) {s with heap:=h',toks:=t'}/\H s.heap.objs.size=none/\∀b∈ch,upd H s.heap.objs.size (.tup vs) b=none:=by
 have fr:H s.heap.objs.size=none:=I.hok.fresh (ac _);have hn:∀b∈ch,upd H s.heap.objs.size (.tup vs) b=none:=fun b hb=>by rw[ZF (au (hlt b hb))];exact(hf b hb).1
 have I1:Inv X pins σ (upd H s.heap.objs.size (.tup vs)) {s with heap:=s.heap.push {cls:=.type "tuple",data:=.seq us.toArray},toks:=t'}:=
  I.laid (t':=t') (o:=.tup vs) (fun _ _ q=>Hq _ q) (ac _) ⟨hz,us,rv,_,az _ rfl,rfl,_,rfl⟩
 refine⟨Zfq (s:={s with heap:=s.heap.push {cls:=.type "tuple",data:=.seq us.toArray},toks:=t'}) (t':=t') (ch:=ch) I1 (fun b o hb e=>?_) (fun b hb=>⟨hn b hb,(hf b hb).2⟩),fr,hn⟩;by_cases c:b=s.heap.objs.size
 ·subst c;have e':(s.heap.push {cls:=.type "tuple",data:=.seq us.toArray}).get? s.heap.objs.size=some o:=e;rw[az _ rfl]at e';cases e';exact ht
 ·refine k b o hb ?_;have e':(s.heap.push {cls:=.type "tuple",data:=.seq us.toArray}).get? b=some o:=e;have hl:b<s.heap.objs.size:=by
   have q:b<s.heap.objs.size+1:=by
    have z:=Hz e'
    rwa [cx]at z
   exact Nat.lt_of_le_of_ne (Nat.le_of_lt_succ q) c
  have q:(s.heap.push {cls:=.type "tuple",data:=.seq us.toArray}).get? b=s.heap.get? b:=by
   unfold ma.get? ma.push;simp only[Array.getElem?_push];rw[if_neg (au hl)]
  rwa [q]at e'
def Ite(K:Fg)(a:Addr):It:=
 ⟨fun i H=>∃xs x,SqL K H a xs/\xs[i]?=some x,fun i H y H'=>∃p,H p=none/\y=.ref p/\∀xs x,SqL K H a xs->xs[i]?=some x->H'=upd H p (.tup [.int i,x]),fun i H=>∃xs,SqL K H a xs/\xs.length<=i⟩
def Itz(K:Fg)(a b:Addr):It:=
 ⟨fun i H=>∃xs ys x y,SqL K H a xs/\SqL K H b ys/\xs[i]?=some x/\ys[i]?=some y,fun i H v H'=>∃p,H p=none/\v=.ref p/\∀xs ys x y,SqL K H a xs->SqL K H b ys->xs[i]?=some x->ys[i]?=some y->H'=upd H p (.tup [x,y]),fun i H=>∃xs ys,SqL K H a xs/\SqL K H b ys/\(xs.length<=i\/ys.length<=i)⟩
theorem Zh9{K:Fg}(hB:B.handled=none)(a e it:Addr)(hne:e≠it):Turn P w K B (.Tuple elts k0 tp) (Ite K a) [e,it] e (fun i h=>(∃old,IsEnum h e it (i:Int) old)/\h.IsListIter it a i) where
 mem:=by simp
 obj:=fun i h st b hb=>by
  obtain⟨⟨old,h1⟩,o,e2,c2,d2⟩:=st;rcases ah.mp hb with z|z
  ·subst z;exact⟨_,h1,fun v z=>by cases z⟩
  ·have z':b=it:=by simpa using z
   subst z';exact⟨o,e2,fun v z=>by rw[d2]at z;cases z⟩
 keep:=fun i h h' st k=>⟨let ⟨old,z⟩:=st.1;⟨old,k e (by simp) _ z⟩,st.2.at fun o z=>k it (by simp) o z⟩
 item:=by
  intro X hP hw hK hA i pins s σ H E I hf st hg;subst hP hw hK hA;obtain⟨⟨old,h1⟩,h2⟩:=st;obtain⟨xs,x,hq,hx⟩:=hg;obtain⟨its,rv,p,hz⟩:=I.list hq;obtain⟨u,hu,ru⟩:=rv.get hx;have lt:∀b∈[e,it],b<s.heap.objs.size:=fun b hb=>by
   rcases ah.mp hb with z|z
   ·subst z;exact Hz h1
   ·have z':b=it:=by simpa using z
    subst z';obtain⟨o,e2,_⟩:=h2;exact Hz e2
  refine wpAny_pyNext_enum_item h1 h2 p.isList (x:=u) (by simpa using hu) hne fun h' o1 o2 o3 o4 o5=>⟨_,rfl,?_⟩
  refine wpAny_letOwnedTupleGo_enum (s:={s with heap:=h',toks:=s.toks+1}) o1 fun h'' q1 q2=>?_;have pe:s.heap.objs.size≠e:=aO (lt e (by simp))
  have ie:it≠e:=bW hne;obtain⟨J1,J2,J3⟩:=Zh8 (h':=h'') (t':=s.toks+1) (ch:=[e,it]) (vs:=[.int i,x]) (us:=[.int i s.toks,u]) I hf lt (.cons ⟨_,rfl⟩ (.cons ru .nil)) (by show 2<=sizeLine;decide)
   (fun b o hb z=>by
    have n1:b≠e:=fun y=>hb (by simp[y])
    have n2:b≠it:=fun y=>hb (by simp[y])
    exact(q2.2 b n1).trans (o5 b o n1 n2 z)) ((q2.2 _ pe).trans o3)
  refine⟨.ref s.heap.objs.size,_,J1,rfl,⟨_,J2,rfl,fun ys y hy hy2=>?_⟩,⟨⟨u,by simpa using q1⟩,o2.at fun o z=>(q2.2 it ie).trans z⟩,J3⟩
  rw[I.list_inj hy hq,hx]at hy2;cases hy2;rfl
 done:=by
  intro X hP hw hK hA i pins s σ H E I hf st hg;subst hP hw hK hA;obtain⟨⟨old,h1⟩,h2⟩:=st;obtain⟨xs,hq,hx⟩:=hg;obtain⟨its,rv,p,hz⟩:=I.list hq;obtain⟨f0,f1,f2,f3,f4,f5⟩:=hf it (by simp)
  refine wpAny_pyNext_enum_end hB h1 h2 p.isList (by simp only[dJ];exact aJ (by rw[<-rv.length];exact hx)) fun h' ext=>⟨rfl,?_⟩
  exact I.turned (t':=s.toks) (it:=it) (fun b o hb z=>ext b o hb z) f0 f1 f3 f4 f5
 self:=fun A i s Q E st q=>by
  obtain⟨⟨old,h1⟩,_⟩:=st;have hT:s.TypeIs (.ref e) "enumerate":=⟨_,h1,rfl⟩;refine i5 hT F.slot_enumerate_iter (bY F.slot_enumerate_iter hT F.entry_enumerate_iter ?_ (F.args_enumerate_iter_1 _));show wpAny _ _ (ret (.ref e)) _ _ s;exact Wp ⟨_,rfl,"enumerate",_,hT,F.slot_enumerate_next.lookup,q⟩
theorem ZdR{K:Fg}(hB:B.handled=none){TI TO:Addr}(D:ZipApart z TI TO i1 i2 a b):Turn P w K B (.Tuple elts k0 tp) (Itz K a b) [z,TI,TO,i1,i2] z (fun i h=>hO h z TI TO .none/\IsPair h TI (.ref i1) (.ref i2)/\(∃x y,IsPair h TO x y)/\h.IsListIter i1 a i/\h.IsListIter i2 b i) where
 mem:=by simp
 obj:=fun i h st c hc=>by
  obtain⟨h1,h2,⟨x,y,h3⟩,⟨o4,e4,c4,d4⟩,⟨o5,e5,c5,d5⟩⟩:=st;simp only[ah,bw,or_false]at hc;rcases hc with rfl|rfl|rfl|rfl|rfl
  ·exact⟨_,h1,fun v q=>by cases q⟩
  ·exact⟨_,h2,fun v q=>by cases q⟩
  ·exact⟨_,h3,fun v q=>by cases q⟩
  ·exact⟨o4,e4,fun v q=>by rw[d4]at q;cases q⟩
  ·exact⟨o5,e5,fun v q=>by rw[d5]at q;cases q⟩
 keep:=fun i h h' st k=>by
  obtain⟨h1,h2,⟨x,y,h3⟩,h4,h5⟩:=st;exact⟨k z (by simp) _ h1,k TI (by simp) _ h2,⟨x,y,k TO (by simp) _ h3⟩,h4.at fun o q=>k i1 (by simp) o q,h5.at fun o q=>k i2 (by simp) o q⟩
 item:=by
  intro X hP hw hK hA i pins s σ H E I hf st hg;subst hP hw hK hA;obtain⟨h1,h2,⟨x0,y0,h3⟩,h4,h5⟩:=st;obtain⟨xs,ys,x,y,hq,hq2,hx,hy⟩:=hg;obtain⟨its,rv,p,hz⟩:=I.list hq;obtain⟨its2,rv2,p2,hz2⟩:=I.list hq2;obtain⟨u,hu,ru⟩:=rv.get hx;obtain⟨u2,hu2,ru2⟩:=rv2.get hy;have lt:∀c∈[z,TI,TO,i1,i2],c<s.heap.objs.size:=fun c hc=>by
   simp only[ah,bw,or_false]at hc;rcases hc with rfl|rfl|rfl|rfl|rfl
   ·exact Hz h1
   ·exact Hz h2
   ·exact Hz h3
   ·obtain⟨o,e2,_⟩:=h4;exact Hz e2
   ·obtain⟨o,e2,_⟩:=h5;exact Hz e2
  refine wpAny_pyNext_zip_item D h1 h2 h3 h4 h5 p.isList p2.isList (x:=u) (y:=u2) (by simpa using hu) (by simpa using hu2) fun h' o1 o2 o3 o4 o5 o6 o7=>⟨_,rfl,?_⟩
  refine iW (s:={s with heap:=h'}) o1 fun h'' q1 q2=>?_;have pe:s.heap.objs.size≠z:=aO (lt z (by simp))
  obtain⟨J1,J2,J3⟩:=Zh8 (h':=h'') (t':=s.toks) (ch:=[z,TI,TO,i1,i2]) (vs:=[x,y]) (us:=[u,u2]) I hf lt (.cons ru (.cons ru2 .nil)) (by show 2<=sizeLine;decide)
   (fun c o hc q=>by
    simp only[ah,bw,or_false,not_or]at hc;exact(q2.2 c hc.1).trans (o7 c o hc.1 hc.2.2.1 hc.2.2.2.1 hc.2.2.2.2 q)) ((q2.2 _ pe).trans o5)
  refine⟨.ref s.heap.objs.size,_,J1,rfl,⟨_,J2,rfl,fun xs' ys' x' y' hx1 hy1 hx2 hy2=>?_⟩,⟨q1,(q2.2 TI D.TIz).trans (o7 TI _ D.TIz D.TITO D.TIi1 D.TIi2 h2),⟨u,u2,(q2.2 TO D.TOz).trans o2⟩,o3.at fun o q=>(q2.2 i1 D.i1z).trans q,o4.at fun o q=>(q2.2 i2 D.i2z).trans q⟩,J3⟩;rw[I.list_inj hx1 hq,hx]at hx2;rw[I.list_inj hy1 hq2,hy]at hy2;cases hx2;cases hy2;rfl
 done:=by
  intro X hP hw hK hA i pins s σ H E I hf st hg;subst hP hw hK hA;obtain⟨h1,h2,⟨x0,y0,h3⟩,h4,h5⟩:=st;obtain⟨xs,ys,hq,hq2,hx⟩:=hg;obtain⟨its,rv,p,hz⟩:=I.list hq;obtain⟨its2,rv2,p2,hz2⟩:=I.list hq2;have he:its.toArray[i]?=none\/its2.toArray[i]?=none:=by
   rcases hx with hx|hx
   ·exact .inl (by simp only[dJ];exact aJ (by rw[<-rv.length];exact hx))
   ·exact .inr (by simp only[dJ];exact aJ (by rw[<-rv2.length];exact hx))
  refine wpAny_pyNext_zip_end hB D h1 h2 h3 h4 h5 p.isList p2.isList he fun h' keep=>⟨rfl,?_⟩;refine Zfq (t':=s.toks) (ch:=[z,TI,TO,i1,i2]) I (fun c o hc q=>?_) hf;simp only[ah,bw,or_false,not_or]at hc;exact keep c o hc.1 hc.2.2.1 hc.2.2.2.1 hc.2.2.2.2 q
 self:=fun A i s Q E st q=>wpAny_pyIter_zip st.1 q
theorem Zia{n:Nat}(h1:a<n)(h2:b<n):ZipApart (n+4) (n+2) (n+3) n (n+1) a b:=⟨au (by lia),au (by lia),au (by lia),au (by lia),au (by lia),aO (by lia),aO (by lia),aO (by lia),aO (by lia),au (by lia),au (by lia),au (by lia),au (by lia),au (by lia),au (by lia),au (by lia),au (by lia),au (by lia)⟩
theorem ZlF:bB "zip"=some (.type "zip"):=by decide +kernel
theorem ZeL:bB "enumerate"=some (.type "enumerate"):=by decide +kernel
def Zss(K:Fg)(t:TA):TI:=fun σ H R=>t σ H fun vs H1=>∃l xs,vs=[.ref l]/\SqL K H1 l xs/\R (Ite K l) H1
def Zst(K:Fg)(t:TA):TI:=fun σ H R=>t σ H fun vs H1=>∃l l2 xs ys,vs=[.ref l,.ref l2]/\SqL K H1 l xs/\SqL K H1 l2 ys/\R (Itz K l l2) H1
theorem ZmU(hc:X.A.handled=none)(hg:Gl X "enumerate")(hm:X.mg "enumerate"=none)(ha:PA X [a] ta)(hs:autoParam (av [a] X.env=(false,eval a X.env)::av [] X.env) Qrf._auto_1)(hpl:autoParam ((cN pos (av [] X.env)).any (·.1)=false) Qrf._auto_1):
  PI X (.Tuple elts k0 tp) (.Call (.Name "enumerate" p) [a] [] pos) (Zss X.K ta):=by
 intro pins s σ H R I h;refine wpAny_Call_Name_kw (ZbA I hg hm ZeL (bV (thn (ha pos pins s σ H _ I h) fun us s1 ⟨vs,H1,I1,r1,q1⟩=>?_) hs hpl) (by decide) (by decide))
 obtain⟨l,xs,rfl,hq,q⟩:=q1;obtain⟨u,rfl,ru⟩:=ZcM r1;cases ru;obtain⟨its,rv,pl,hz⟩:=I1.list hq;refine call_enumerate_list pl.isList fun h' e1 e2 e3 e4=>?_;have T:=Zh9 (P:=X.prog) (w:=X.w) (K:=X.K) (B:=X.A) (elts:=elts) (k0:=k0) (tp:=tp) hc l (s1.heap.objs.size+1) s1.heap.objs.size (aO (dE _));have I2:Inv X pins σ H1 {s1 with heap:=h',toks:=s1.toks}:=I1.kept (t':=s1.toks) e4;refine T.self X.A 0 {s1 with heap:=h'} _ _ ⟨⟨_,e1⟩,e2⟩ ⟨_,_,_,_,H1,rfl,I2,T,⟨⟨_,e1⟩,e2⟩,fun b hb=>?_,q⟩;have hb':s1.heap.objs.size<=b:=by
  simp only[ah,bw,or_false]at hb;rcases hb with rfl|rfl<;>lia
 exact I1.fpOk hb' (I1.hok.fresh hb')
theorem Zib(hc:X.A.handled=none)(hg:Gl X "zip")(hm:X.mg "zip"=none)(ha:PA X [a,b] ta)(hs:autoParam (av [a,b] X.env=(false,eval a X.env)::av [b] X.env) Qrf._auto_1)(hpl:autoParam ((cN pos (av [b] X.env)).any (·.1)=false) Qrf._auto_1):
  PI X (.Tuple elts k0 tp) (.Call (.Name "zip" p) [a,b] [] pos) (Zst X.K ta):=by
 intro pins s σ H R I h;refine wpAny_Call_Name_kw (ZbA I hg hm ZlF (bV (thn (ha pos pins s σ H _ I h) fun us s1 ⟨vs,H1,I1,r1,q1⟩=>?_) hs hpl) (by decide) (by decide))
 obtain⟨l,l2,xs,ys,rfl,hq,hq2,q⟩:=q1;obtain⟨u,u2,rfl,ru,ru2⟩:=Zka r1;cases ru;cases ru2;obtain⟨its,rv,pl,hz⟩:=I1.list hq;obtain⟨its2,rv2,pl2,hz2⟩:=I1.list hq2;have lt1:l<s1.heap.objs.size:=by obtain⟨_,e,_⟩:=pl.isList;exact Hz e
 have lt2:l2<s1.heap.objs.size:=by obtain⟨_,e,_⟩:=pl2.isList;exact Hz e
 refine call_zip_2 pl.isList pl2.isList fun h' e1 e2 e3 e4 e5 e6 e7=>?_;have D:=Zia lt1 lt2;have T:=ZdR (P:=X.prog) (w:=X.w) (K:=X.K) (B:=X.A) (elts:=elts) (k0:=k0) (tp:=tp) hc D;have I2:Inv X pins σ H1 {s1 with heap:=h',toks:=s1.toks}:=I1.kept (t':=s1.toks) e7;refine T.self X.A 0 {s1 with heap:=h'} _ _ ⟨e1,e2,⟨_,_,e3⟩,e4,e5⟩ ⟨_,_,_,_,H1,rfl,I2,T,⟨e1,e2,⟨_,_,e3⟩,e4,e5⟩,fun c hc=>?_,q⟩;have hb':s1.heap.objs.size<=c:=by
  simp only[ah,bw,or_false]at hc;rcases hc with rfl|rfl|rfl|rfl|rfl<;>lia
 exact I1.fpOk hb' (I1.hok.fresh hb')
def iEn(fs:Av):Ro->Sto->Out Src:=fun ρ M=>(fs ρ M).bind fun ds M1=>match ds with|[.ref n]=>.ok (.enu n) M1|_=>.bad
def iZp(fs:Av):Ro->Sto->Out Src:=fun ρ M=>(fs ρ M).bind fun ds M1=>match ds with|[.ref n,.ref m]=>.ok (.zip n m) M1|_=>.bad
theorem ZmV(hc:X.A.handled=none)(hm:X.mg "enumerate"=none)(ha:DA X ξ [a] fs)(hg:autoParam (Gl X "enumerate") Qrf._auto_1)(hs:autoParam (av [a] X.env=(false,eval a X.env)::av [] X.env) Qrf._auto_1)(hpl:autoParam ((cN pos (av [] X.env)).any (·.1)=false) Qrf._auto_1):
  DI X ξ (.Tuple elts k0 tp) (.Call (.Name "enumerate" p) [a] [] pos) (iEn fs):=by
 obtain⟨ta,pa,qa⟩:=ha;refine⟨_,ZmU hc hg hm pa hs hpl,fun σ ρ H α M R s hh q=>qa σ ρ H α M _ s hh (OG.seq q fun ds M1 vs H1 α1 e1 h1 r1 w1=>?_)⟩;cases r1 with
 |nil=>exact w1.elim
 |cons r tz=>
  cases tz with
  |cons _ _=>cases r<;>exact w1.elim
  |nil=>
   cases r with
   |@ref l n hp=>
    obtain⟨xs0,g0⟩:=h1.some_at hp;refine⟨l,xs0,rfl,SqL.of g0,w1 _ H1 α1 Ext.refl h1 fun i H' α' M' ex hr=>?_⟩;cases em:M'[n]? with
    |none=>rw[show nxt (.enu n) i M'=none by simp only[nxt,em]];exact dG
    |some so=>
     cases so with
     |lst es=>
      obtain⟨xs,g1,g2⟩:=hr.at (ex.get hp) em;cases ei:es[i]? with
      |none=>rw[show nxt (.enu n) i M'=some none by simp only[nxt,em,ei]];exact⟨xs,SqL.of g1,by rw[g2.length];exact aW.mp ei⟩
      |some d=>
       obtain⟨v,k1,k2⟩:=g2.get ei;rw[show nxt (.enu n) i M'=some (some (D.tup [D.int i,d]))by simp only[nxt,em,ei]]
       refine⟨⟨xs,v,SqL.of g1,k1⟩,fun x H'' y=>?_⟩;obtain⟨pp,y1,rfl,y3⟩:=y;have y4:=y3 xs v (SqL.of g1) k1;subst y4;exact⟨Ext.new0 y1,hr.tup y1,.tup Zz (.cons (.int i) (.cons (Rep.mono (Ext.new0 y1) k2) .nil))⟩
   |_=>exact w1.elim
theorem Zdw(hc:X.A.handled=none)(hm:X.mg "zip"=none)(ha:DA X ξ [a,b] fs)(hg:autoParam (Gl X "zip") Qrf._auto_1)(hs:autoParam (av [a,b] X.env=(false,eval a X.env)::av [b] X.env) Qrf._auto_1)(hpl:autoParam ((cN pos (av [b] X.env)).any (·.1)=false) Qrf._auto_1):
  DI X ξ (.Tuple elts k0 tp) (.Call (.Name "zip" p) [a,b] [] pos) (iZp fs):=by
 obtain⟨ta,pa,qa⟩:=ha;refine⟨_,Zib hc hg hm pa hs hpl,fun σ ρ H α M R s hh q=>qa σ ρ H α M _ s hh (OG.seq q fun ds M1 vs H1 α1 e1 h1 r1 w1=>?_)⟩
 split at w1
 ·rename_i n m;cases r1 with
  |cons r t=>
   cases t with
   |cons r' t=>
    cases t;cases r with
    |ref hp=>
    cases r' with
    |ref hp2=>
    rename_i l l2;obtain⟨xs0,g0⟩:=h1.some_at hp;obtain⟨ys0,g0'⟩:=h1.some_at hp2;refine⟨l,l2,xs0,ys0,rfl,SqL.of g0,SqL.of g0',w1 _ H1 α1 Ext.refl h1 fun i H' α' M' ex hr=>?_⟩;cases em:M'[n]? with
    |none=>rw[show nxt (.zip n m) i M'=none by simp only[nxt,em]];exact dG
    |some so=>
     cases em2:M'[m]? with
     |none=>cases so;rw[show nxt (.zip n m) i M'=none by simp only[nxt,em,em2]];exact dG
     |some so2=>
      cases so with
      |lst es=>
       cases so2 with
       |lst es2=>
        obtain⟨xs,g1,g2⟩:=hr.at (ex.get hp) em;obtain⟨ys,g3,g4⟩:=hr.at (ex.get hp2) em2;cases ei:es[i]? with
        |none=>rw[show nxt (.zip n m) i M'=some none by simp only[nxt,em,em2,ei]];exact⟨xs,ys,SqL.of g1,SqL.of g3,.inl (by rw[g2.length];exact aW.mp ei)⟩
        |some d=>
         cases ej:es2[i]? with
         |none=>rw[show nxt (.zip n m) i M'=some none by simp only[nxt,em,em2,ei,ej]];exact⟨xs,ys,SqL.of g1,SqL.of g3,.inr (by rw[g4.length];exact aW.mp ej)⟩
         |some d2=>
          obtain⟨v,k1,k2⟩:=g2.get ei;obtain⟨v2,k3,k4⟩:=g4.get ej;rw[show nxt (.zip n m) i M'=some (some (D.tup [d,d2]))by simp only[nxt,em,em2,ei,ej]]
          refine⟨⟨xs,ys,v,v2,SqL.of g1,SqL.of g3,k1,k3⟩,fun x H'' y=>?_⟩;obtain⟨pp,y1,rfl,y3⟩:=y;have y4:=y3 xs ys v v2 (SqL.of g1) (SqL.of g3) k1 k3;subst y4;exact⟨Ext.new0 y1,hr.tup y1,.tup Zz (.cons (Rep.mono (Ext.new0 y1) k2) (.cons (Rep.mono (Ext.new0 y1) k4) .nil))⟩
 ·exact w1.elim
end DL
namespace DL
open PyProof.Rows L2
open PySem.SeqAt (EqAt RcAt RcNeAt)
inductive Ks(X:Cx) (H:Hp) (α:List Addr):Kd->Kd->Prop where
 |non:Ks X H α .non .non
 |bl (b:Bool):Ks X H α (.bl b) (.bl b)
 |int (i:Int):Ks X H α (.int i) (.int i)
 |str (x:Str):Ks X H α (.str x) (.str x)
 |tup {vs:List V} {ds es:List D}:Reps X.K H α vs ds->Reps X.K H α vs es->Ks X H α (.tup ds) (.tup es)
 |lst {vs:List V} {ds es:List D}:Reps X.K H α vs ds->Reps X.K H α vs es->Ks X H α (.lst ds) (.lst es)
section
variable {X:Cx}{pins:Pn}{σ:L2.St}{H:Hp}{s:aC}{α:List Addr}{M:Sto}
theorem Zpy(h:HR X.K H α M){x:D}(r:Rep X.K H α v x)(e:kd M x=some k):(match k with|.tup ds=>∃p vs,v=.ref p/\SqT X.K H p vs/\Reps X.K H α vs ds|.lst ds=>∃p vs,v=.ref p/\SqL X.K H p vs/\Reps X.K H α vs ds|.non=>v=.non|.bl b=>v=.bl b|.int i=>v=.int i|.str x=>v=.str x):=by
 cases r with
 |non=>cases e;rfl
 |bl b=>cases e;rfl
 |int i=>cases e;rfl
 |str x=>cases e;rfl
 |err _ _ _=>cases e
 |dk _=>cases e
 |dt _=>cases e
 |du _=>cases e
 |fn _=>cases e
 |@tup p xs ds hp rp=>cases e;exact⟨p,xs,rfl,(SqT.of hp),rp⟩
 |@con p xs ds hp rp=>cases e;exact⟨p,xs,rfl,hp.sq,rp⟩
 |@rol p xs ds hp rp=>cases e;exact⟨p,xs,rfl,hp.sq,rp⟩
 |@ref p n hp=>
  cases e1:M[n]? with
  |none=>simp only[kd,e1]at e;cases e
  |some o=>
   cases o with
   |lst ds=>
    simp only[kd,e1]at e;cases e;obtain⟨xs,g1,r1⟩:=h.at hp e1;exact⟨p,xs,rfl,SqL.of g1,r1⟩
theorem Zic(I:Inv X pins σ H s)(h:HR X.K H α M)(rx:Rep X.K H α v x)(ry:Rep X.K H α v y)(ex:kd M x=some k)(ey:kd M y=some l):Ks X H α k l:=by
 have a:=Zpy h rx ex;have b:=Zpy h ry ey;have nl:∀{p:Addr}{xs ys:List V},SqT X.K H p xs->SqL X.K H p ys->False:=fun{p xs ys} a c=>by
  obtain⟨i1,_,⟨o1,g1,c1,_⟩,_⟩:=I.tuple a;obtain⟨i2,_,⟨o2,_,g2,c2,_⟩,_⟩:=I.list c;rw[g1]at g2;cases g2;rw[c1]at c2;exact absurd c2 (by decide)
 cases k with
 |non=>cases a;cases l<;>first|(cases b;done)|exact .non|(obtain⟨_,_,q,_⟩:=b;cases q)
 |bl c=>cases a;cases l<;>first|(cases b;done)|(cases b;exact .bl c)|(obtain⟨_,_,q,_⟩:=b;cases q)
 |int c=>cases a;cases l<;>first|(cases b;done)|(cases b;exact .int c)|(obtain⟨_,_,q,_⟩:=b;cases q)
 |str c=>cases a;cases l<;>first|(cases b;done)|(cases b;exact .str c)|(obtain⟨_,_,q,_⟩:=b;cases q)
 |tup ds=>
  obtain⟨p,vs,rfl,q1,q2⟩:=a;cases l with
  |tup es=>
   obtain⟨p2,vs2,e2,q3,q4⟩:=b;cases e2;cases I.tuple_inj q1 q3;exact .tup q2 q4
  |lst es=>
   obtain⟨p2,vs2,e2,q3,q4⟩:=b;cases e2;exact(nl q1 q3).elim
  |_=>cases b
 |lst ds=>
  obtain⟨p,vs,rfl,q1,q2⟩:=a;cases l with
  |lst es=>
   obtain⟨p2,vs2,e2,q3,q4⟩:=b;cases e2;cases I.list_inj q1 q3;exact .lst q2 q4
  |tup es=>
   obtain⟨p2,vs2,e2,q3,q4⟩:=b;cases e2;exact(nl q3 q1).elim
  |_=>cases b
theorem ZlG(I:Inv X pins σ H s)(h:HR X.K H α M):∀(n:Nat){v w:V}{x x' y y':D}{b b':Bool},Rep X.K H α v x->Rep X.K H α v x'->Rep X.K H α w y->Rep X.K H α w y'->eqF n M x y=some b->eqF n M x' y'=some b'->b=b':=by
 intro n
 induction n with
 |zero=>intro v w x x' y y' b b' _ _ _ _ e;simp only[eqF]at e;cases e
 |succ n ih=>
  have lists:∀(vs ws:List V)(xs xs' ys ys':List D)(b b':Bool),Reps X.K H α vs xs->Reps X.K H α vs xs'->Reps X.K H α ws ys->Reps X.K H α ws ys'->eqL (eqF n M) xs ys=some b->eqL (eqF n M) xs' ys'=some b'->b=b':=by
   intro vs
   induction vs with
   |nil=>
    intro ws xs xs' ys ys' b b' r1 r2 r3 r4 e e';cases r1;cases r2;cases r3 with
    |nil=>cases r4;simp only[eqL,aq]at e e';rw[<-e,<-e']
    |cons _ _=>cases r4;simp only[eqL,aq]at e e';rw[<-e,<-e']
   |cons v vs iv=>
    intro ws xs xs' ys ys' b b' r1 r2 r3 r4 e e';cases r1 with
    |cons p1 t1=>
     cases r2 with
     |cons p2 t2=>
      cases r3 with
      |nil=>cases r4;simp only[eqL,aq]at e e';rw[<-e,<-e']
      |cons p3 t3=>
       cases r4 with
       |cons p4 t4=>
        rename_i d1 ds1 d2 ds2 w d3 ws ds3 d4 ds4;cases a1:eqF n M d1 d3 with
        |none=>simp only[eqL,a1]at e;cases e
        |some a=>
         cases a2:eqF n M d2 d4 with
         |none=>simp only[eqL,a2]at e';cases e'
         |some a'=>
          cases c1:eqL (eqF n M) ds1 ds3 with
          |none=>simp only[eqL,a1,c1]at e;cases e
          |some c=>
           cases c2:eqL (eqF n M) ds2 ds4 with
           |none=>simp only[eqL,a2,c2]at e';cases e'
           |some c'=>
            simp only[eqL,a1,c1,aq]at e;simp only[eqL,a2,c2,aq]at e';rw[<-e,<-e',ih p1 p2 p3 p4 a1 a2,iv _ _ _ _ _ _ _ t1 t2 t3 t4 c1 c2]
  intro v w x x' y y' b b' rx rx' ry ry' e e';unfold eqF at e e';cases k1:kd M x with
  |none=>rw[k1]at e;cases e
  |some ka=>
   cases k2:kd M y with
   |none=>rw[k1,k2]at e;cases e
   |some kb=>
    cases k3:kd M x' with
    |none=>rw[k3]at e';cases e'
    |some ka'=>
     cases k4:kd M y' with
     |none=>rw[k3,k4]at e';cases e'
     |some kb'=>
      rw[k1,k2]at e;rw[k3,k4]at e';have s1:=Zic I h rx rx' k1 k3;have s2:=Zic I h ry ry' k2 k4;cases s1 with
      |tup a1 a2=>
       cases s2 with
       |tup b1 b2=>simp only[eqK]at e e';exact lists _ _ _ _ _ _ _ _ a1 a2 b1 b2 e e'
       |_=>simp only[eqK,aq]at e e';rw[<-e,<-e']
      |lst a1 a2=>
       cases s2 with
       |lst b1 b2=>
        simp only[eqK]at e e';rw[<-a1.length,<-b1.length]at e;rw[<-a2.length,<-b2.length]at e'
        split at e
        ·rename_i c;rw[if_pos c]at e';exact lists _ _ _ _ _ _ _ _ a1 a2 b1 b2 e e'
        ·rename_i c;rw[if_neg c]at e';cases e;cases e';rfl
       |_=>simp only[eqK,aq]at e e';rw[<-e,<-e']
      |_=>cases s2<;>(simp only[eqK,aq]at e e';rw[<-e,<-e'])
def eqs(M:Sto)(d:D):List D->Option (List Bool)
 |[]=>some []
 |x::r=>match eqF 12 M x d with|some b=>(match eqs M d r with|some bs=>some (b::bs)|none=>none)|none=>none
theorem Zid:∀{M:Sto}{d:D}{xs:List D}{bs:List Bool},eqs M d xs=some bs->bs.length=xs.length
 |_,_,[],_,e=>by cases e;rfl
 |M,d,x::r,bs,e=>by
  cases e1:eqF 12 M x d with
  |none=>simp only[eqs,e1]at e;cases e
  |some b=>
   cases e2:eqs M d r with
   |none=>simp only[eqs,e1,e2]at e;cases e
   |some cs=>simp only[eqs,e1,e2,aq]at e;subst e;rw[bO,bO,Zid e2]
theorem Zie:∀{M:Sto}{d:D}{xs:List D}{bs:List Bool}{i:Nat}{x:D},eqs M d xs=some bs->xs[i]?=some x->∃b,bs[i]?=some b/\eqF 12 M x d=some b
 |_,_,[],_,i,x,e,hx=>by simp at hx
 |M,d,y::r,bs,i,x,e,hx=>by
  cases e1:eqF 12 M y d with
  |none=>simp only[eqs,e1]at e;cases e
  |some b=>
   cases e2:eqs M d r with
   |none=>simp only[eqs,e1,e2]at e;cases e
   |some cs=>
    simp only[eqs,e1,e2,aq]at e;subst e;cases i with
    |zero=>simp at hx;subst hx;exact⟨b,rfl,e1⟩
    |succ i=>simp at hx;obtain⟨b',q1,q2⟩:=Zie e2 hx;exact⟨b',by simpa using q1,q2⟩
open Classical in
theorem Zif{A:cX}(hu:A.units+64<iC)(I:Inv X pins σ H s)(h:HR X.K H α M)(rv:ZZ vs us)(rp:Reps X.K H α vs ds)(ru:Z0 v u)(rd:Rep X.K H α v d)(e:eqs M d ds=some bs):∃f:aa->Bool,(∀y,y∈us.toArray->EqAt A.in1 s y u (f y))/\us.map f=bs:=by
 have ll:us.length=ds.length:=by rw[<-rv.length,rp.length]
 have at_:∀(i:Nat) y,us[i]?=some y->∃w x b,Z0 w y/\Rep X.K H α w x/\bs[i]?=some b/\eqF 12 M x d=some b:=fun i y hy=>by
  have hi:i<ds.length:=by rw[<-ll];exact(ar.mp hy).1
  obtain⟨w,a1,a2⟩:=rp.get (Gq hi);obtain⟨y',a3,a4⟩:=rv.get a1;rw[hy]at a3;cases a3;obtain⟨b,a5,a6⟩:=Zie e (Gq hi);exact⟨w,_,b,a4,a2,a5,a6⟩
 refine⟨fun y=>decide (∃w x,Z0 w y/\Rep X.K H α w x/\eqF 12 M x d=some true),fun y hy=>?_,?_⟩
 ·obtain⟨i,hi,ey⟩:=cU (by simpa using hy)
  obtain⟨w,x,b,q1,q2,q3,q4⟩:=at_ i y (by rw[am hi,ey])
  have hb:decide (∃w x,Z0 w y/\Rep X.K H α w x/\eqF 12 M x d=some true)=b:=by
   cases b with
   |true=>exact decide_eq_true ⟨w,x,q1,q2,q4⟩
   |false=>
    refine decide_eq_false fun hz=>?_;obtain⟨w',x',z1,z2,z3⟩:=hz;cases Z0.inj z1 q1
    have:=ZlG I h 12 z2 q2 rd rd z3 q4
    cases this
  show EqAt A.in1 s y u (decide (∃w x,Z0 w y/\Rep X.K H α w x/\eqF 12 M x d=some true));rw[hb];exact(eq3 I h 12 x d w v y u b A.in1 (by rw[cX.in1_units];lia) q4 q2 rd q1 ru).1
 ·apply i6;intro i;rw[bp];cases hy:us[i]? with
  |none=>
   have:bs[i]?=none:=aJ (by rw[Zid e,<-ll];exact aW.mp hy)
   rw[this];rfl
  |some y=>
   obtain⟨w,x,b,q1,q2,q3,q4⟩:=at_ i y hy;rw[q3];show some _=some b;congr 1;cases b with
   |true=>exact decide_eq_true ⟨w,x,q1,q2,q4⟩
   |false=>
    refine decide_eq_false fun hz=>?_;obtain⟨w',x',z1,z2,z3⟩:=hz;cases Z0.inj z1 q1
    have:=ZlG I h 12 z2 q2 rd rd z3 q4
    cases this
end
def Zuu(X:Cx)(neg:Bool):R2:=fun v w H Q=>∃α M d x ds bs p vs,HR X.K H α M/\Rep X.K H α v d/\w=.ref p/\(SqL X.K H p vs\/SqT X.K H p vs)/\Reps X.K H α vs ds/\Zex M x=some ds/\eqs M d ds=some bs/\Q (.bl (neg ^^ bs.any id)) H
theorem any_map{us:List aa}(e:us.map f=bs):us.toArray.any f=bs.any id:=by
 rw[<-e,List.any_toArray,List.any_map];rfl
theorem Zig(hu:X.A.units+64<iC):OpR X (dD .NotIn) (Zuu X true):=by
 intro pins s σ H v w u z Q I rv rw' hh;obtain⟨α,M,d,x,ds,bs,p,vs,h,rd,e1,hq,rp,_,e,q⟩:=hh;subst e1;cases rw';rcases hq with hq|hq
 ·obtain⟨its,r,pl,hz⟩:=I.list hq;obtain⟨f,f1,f2⟩:=Zif (A:=X.A) hu I h r rp rv rd e;refine SeqAt.notIn_listAt f pl.isList f1 ⟨.bl _,H,I,rfl,?_⟩;rw[any_map f2]
  simpa using q
 ·obtain⟨its,r,pl,hz⟩:=I.tuple hq;obtain⟨f,f1,f2⟩:=Zif (A:=X.A) hu I h r rp rv rd e;refine SeqAt.notIn_tupleAt f pl f1 ⟨.bl _,H,I,rfl,?_⟩;rw[any_map f2]
  simpa using q
def inE(x y:D)(M:Sto):Option Bool:=match Zex M y with|some ds=>(match eqs M x ds with|some bs=>some (bs.any id)|none=>none)|none=>none
def dNotInE:Bo:=fun x y M=>match inE x y M with|some b=>.ok (.bl (!b)) M|none=>.bad
theorem Zih:BO X ξ (Zuu X true) dNotInE:=by
 intro H α M v w x y Q h rv rw' q;unfold dNotInE inE at q;cases e1:Zex M y with
 |none=>simp only[e1]at q;exact q.elim
 |some ds=>
  cases e2:eqs M x ds with
  |none=>simp only[e1,e2]at q;exact q.elim
  |some bs=>
   simp only[e1,e2]at q;obtain⟨p,vs,k1,k2,k3⟩:=Zfm h rw' e1;exact⟨α,M,x,y,ds,bs,p,vs,h,rv,k1,k2,k3,e1,e2,by simpa using q _ H α Ext.refl h (.bl _)⟩
def ZwL:Me:=fun x ds M=>match x,ds with
 |.ref n,[d]=>(match M[n]? with|some (.lst xs)=>(match eqs M d xs with|some bs=>(match bs.findIdx? id with|some j=>.ok (.int (j:Nat)) M|none=>.bad)|none=>.bad)|none=>.bad)
 |_,_=>.bad
noncomputable def Zbf:List D->Option (List Int)
 |[]=>some []
 |.int b::r=>match Zbf r with|some bs=>some (b::bs)|none=>none
 |_::_=>none
theorem Zgm{K:Fg}{H:Hp}{α:List Addr}:∀{vs:List V}{ds:List D}{bs:List Int},Reps K H α vs ds->Zbf ds=some bs->vs=bs.map V.int
 |_,_,_,.nil,e=>by cases e;rfl
 |_,_,bs,.cons (d:=d) (ds:=ds) r t,e=>by
  cases r with
  |int b=>
   cases e1:Zbf ds with
   |none=>simp only[Zbf,e1]at e;cases e
   |some cs=>
    simp only[Zbf,e1,aq]at e;subst e;rw[Zgm t e1];rfl
  |_=>cases e
def ZeM(X:Cx)(g:List Int->Option V):List V->Hp->VK->Prop:=fun vs H Q=>∃(p:Addr) (ns:List Int) (v:V),vs=[.ref p]/\SqL X.K H p (ns.map V.int)/\g ns=some v/\Q v H
theorem Zbx:∀{ns:List Int}{us:List aa}{i:Nat}{u:aa},ZZ (ns.map V.int) us->us[i]?=some u->∃t,u=.int (ns.getD i 0) t
 |[],us,i,u,h,e=>by cases h;simp at e
 |b::r,us,i,u,h,e=>by
  cases h with
  |cons h1 h2=>
   cases i with
   |zero=>simp at e;subst e;exact h1
   |succ i=>simp at e;obtain⟨t,g⟩:=Zbx h2 e;exact⟨t,by simpa using g⟩
theorem ZcT(hc:X.calm=true){ns:List Int}(I:Inv X pins σ H s)(hl:SqL X.K H p (ns.map V.int))(q:∀(its:List aa)(it:Addr),ZZ (ns.map V.int) its->its.length=ns.length->it=s.heap.objs.size->Walks X.prog X.w X.A.in1 it [it,p] [it] its.toArray.size (fun i v=>its.toArray[i]?=some v) (fun i h=>h.IsListIter it p i/\h.IsList p its.toArray)->(∀b∈[it,p],b<(s.heap.push {cls:=.type "list_iterator",data:=.fields #[.ref p,.int 0 0]}).objs.size)->((s.heap.push {cls:=.type "list_iterator",data:=.fields #[.ref p,.int 0 0]}).IsListIter it p 0/\(s.heap.push {cls:=.type "list_iterator",data:=.fields #[.ref p,.int 0 0]}).IsList p its.toArray)->(∀h' tk,(∀b o,b∉[it]->(s.heap.push {cls:=.type "list_iterator",data:=.fields #[.ref p,.int 0 0]}).get? b=some o->h'.get? b=some o)->Inv X pins σ H {s with heap:=h',toks:=tk})->Q (.ref it) {s with heap:=s.heap.push {cls:=.type "list_iterator",data:=.fields #[.ref p,.int 0 0]}}):wpAny (aw X.prog X.w) X.A.in1 (pyIter (.ref p)) Q E s:=by
 obtain⟨its,hv,hp,hz⟩:=I.list hl;have hlt:p<s.heap.objs.size:=by obtain⟨_,e,_⟩:=hp.isList;exact Hz e
 refine gz hp.isList ?_;refine q its s.heap.objs.size hv (by rw[<-hv.length,ay]) rfl (Walks.list (A:=X.A.in1) (I.ok.hd hc) _ p (au hlt) its.toArray) (fun b hb=>?_) ⟨⟨_,az _ rfl,rfl,rfl⟩,hp.isList.push _⟩ fun h' tk hk=>?_
 ·rw[cx];simp only[ah,bw,or_false]at hb;rcases hb with rfl|rfl
  ·exact dE _
  ·exact gA hlt
 ·exact I.kept fun b o e=>hk b o (fun hm=>by rw[b9.mp hm]at e;exact cj _ (Hz e)) (Hq _ e)
theorem ZcU(ns:List Int):∀j,hZ (fun i=>ns.getD i 0) j=(ns.take j).sum
 |0=>rfl
 |j+1=>by
  show hZ (fun i=>ns.getD i 0) j+ns.getD j 0=_;rw[ZcU ns j];by_cases h:j<ns.length
  ·rw[aV h,List.sum_append_int];simp[h]
  ·rw[bS (by lia),bS (by lia)]
   simp[h]
theorem Zkw{ns:List Int}(h:0<ns.length):ns.max?=some (ns.getD (argBest (fun i j=>decide (ns.getD i 0>ns.getD j 0)) (ns.length-1)) 0):=by
 obtain⟨h1,h2⟩:=argBest_gt (fun i=>ns.getD i 0) (ns.length-1);refine List.max?_eq_some_iff.mpr ⟨?_,fun b hb=>?_⟩
 ·have hl:argBest (fun i j=>decide (ns.getD i 0>ns.getD j 0)) (ns.length-1)<ns.length:=by lia
  rw[aK,am hl];exact bQ hl
 ·obtain⟨j,hj,rfl⟩:=cU hb
  have:=h2 j (by lia)
  rwa [show ns.getD j 0=ns[j]by rw[aK,am hj];rfl]at this
theorem Zkx{ns:List Int}(h:0<ns.length):ns.min?=some (ns.getD (argBest (fun i j=>decide (ns.getD i 0<ns.getD j 0)) (ns.length-1)) 0):=by
 obtain⟨h1,h2⟩:=argBest_lt (fun i=>ns.getD i 0) (ns.length-1);refine List.min?_eq_some_iff.mpr ⟨?_,fun b hb=>?_⟩
 ·have hl:argBest (fun i j=>decide (ns.getD i 0<ns.getD j 0)) (ns.length-1)<ns.length:=by lia
  rw[aK,am hl];exact bQ hl
 ·obtain⟨j,hj,rfl⟩:=cU hb
  have:=h2 j (by lia)
  rwa [show ns.getD j 0=ns[j]by rw[aK,am hj];rfl]at this
def ZrN(ns:List Int):Option V:=ns.max?.map V.int
def ZrO(ns:List Int):Option V:=ns.min?.map V.int
theorem Zii(hc:X.calm=true):ZbM X (.builtin "max") (ZeM X ZrN):=by
 intro pins s σ H vs us Q I rs hh;obtain⟨p,ns,v,e,hl,hg,q⟩:=hh;subst e;obtain⟨u,rfl,ru⟩:=ZcM rs;cases ru;have hn:0<ns.length:=by cases ns with|nil=>cases hg|cons _ _=>simp
 unfold ZrN at hg;rw[Zkw hn]at hg;cases hg;refine call_max_walk (ZcT hc I hl fun its it hv hlen ei W hfp st back=>?_);refine⟨it,_,_,_,_,_,_,rfl,W,st,hfp,by rw[ao,hlen];exact hn,CmpOf.ints_gt (fun i=>ns.getD i 0) (fun i v hP=>Zbx hv (by simpa using hP)),fun v h' tk hP hk=>⟨_,H,back h' tk hk,?_,q⟩⟩
 rw[ao,hlen]at hP;exact Zbx hv (by simpa using hP)
theorem Zij(hc:X.calm=true):ZbM X (.builtin "min") (ZeM X ZrO):=by
 intro pins s σ H vs us Q I rs hh;obtain⟨p,ns,v,e,hl,hg,q⟩:=hh;subst e;obtain⟨u,rfl,ru⟩:=ZcM rs;cases ru;have hn:0<ns.length:=by cases ns with|nil=>cases hg|cons _ _=>simp
 unfold ZrO at hg;rw[Zkx hn]at hg;cases hg;refine call_min_walk (ZcT hc I hl fun its it hv hlen ei W hfp st back=>?_);refine⟨it,_,_,_,_,_,_,rfl,W,st,hfp,by rw[ao,hlen];exact hn,CmpOf.ints_lt (fun i=>ns.getD i 0) (fun i v hP=>Zbx hv (by simpa using hP)),fun v h' tk hP hk=>⟨_,H,back h' tk hk,?_,q⟩⟩
 rw[ao,hlen]at hP;exact Zbx hv (by simpa using hP)
def Zdl(g:List Int->Option Int):W3:=fun ds M=>match ds with
 |[x]=>(match Zex M x with|some xs=>(match x with|.con _=>.bad|.tup _=>.bad|_=>(match Zbf xs with|some ns=>(match g ns with|some i=>.ok (.int i) M|none=>.bad)|none=>.bad))|none=>.bad)
 |_=>.bad
theorem Zfr(hg:∀ns i,g ns=some i->gV ns=some (.int i)):CO X ξ (ZeM X gV) (Zdl g):=by
 intro H α M vs ds Q h rs q;unfold Zdl at q
 match rs with
 |.nil=>exact q.elim
 |.cons _ (.cons _ _)=>exact q.elim
 |.cons (d:=x) r .nil=>
  have fin:∀(p:Addr)(xs:List V)(ys:List D),SqL X.K H p xs->Reps X.K H α xs ys->OP X.K H α ξ Q (match Zbf ys with|some ns=>(match g ns with|some i=>.ok (.int i) M|none=>.bad)|none=>.bad)->ZeM X gV [.ref p] H Q:=fun p xs ys k1 k2 q=>by
   cases e1:Zbf ys with
   |none=>rw[e1]at q;exact q.elim
   |some ns=>
    cases e2:g ns with
    |none=>simp only[e1,e2]at q;exact q.elim
    |some i=>
     simp only[e1,e2]at q
     have:=Zgm k2 e1
     subst this;exact⟨p,ns,.int i,rfl,k1,hg _ _ e2,q _ H α Ext.refl h (.int i)⟩
  cases r with
  |@rol p xs ds hp rp=>exact fin p xs ds hp.sq rp q
  |@ref p n hp=>
   cases em:M[n]? with
   |none=>simp only[Zex,em]at q;exact q.elim
   |some so=>
    cases so with
    |lst es=>
     simp only[Zex,em]at q;obtain⟨xs,g1,g2⟩:=h.at hp em;exact fin p xs es (SqL.of g1) g2 q
  |tup _ _=>exact q.elim
  |con _ _=>exact q.elim
  |_=>exact q.elim
theorem ZmW:CO X ξ (ZeM X ZrN) (Zdl List.max?):=Zfr fun ns i e=>by unfold ZrN;rw[e];rfl
theorem ZmX:CO X ξ (ZeM X ZrO) (Zdl List.min?):=Zfr fun ns i e=>by unfold ZrO;rw[e];rfl
theorem Zpz:bB "sum"=some (.builtin "sum"):=by decide +kernel
end DL
namespace DL
open PyProof.Rows L2
section
variable {prog:cw}{w:cL}{A:cX}{R:Result->aC->Prop}{I:Addr}{fp wr:List Addr}{n:Nat}{P:Nat->aa->Prop}{St:Nat->Heap->Prop}
theorem Zik(W:Walks prog w A.in1 I fp wr n P St)(val:Nat->Int)(hval:∀i v,P i v->∃t,v=.int (val i) t)(S:Addr)(hSf:S∉fp):∀(k i:Nat)(g:Int)(s:aC)(tA:Tok)(c:Nat),(g=0\/g=2)->n-i=k->i<=n->St i s.heap->s.heap.get? S=some {cls:=.type "list",dict:=none,data:=.seq #[.int (hZ val i) tA] c,slots:= #[]}->(∀h' tk t',(∀b o,b∉wr->b≠S->s.heap.get? b=some o->h'.get? b=some o)->R (.ok (.ret (.int (hZ val n) t'))) {s with heap:=h',toks:=tk})->eY (aw prog w) A (.builtin "sum.loop" ⟨[.ref I,.ref S,cQ g,cQ 0],[]⟩) R s:=by
 have hSw:S∉wr:=fun h=>hSf (W.sub _ h);intro k
 induction k with
 |zero=>
  intro i g s tA c hg hk hi hst hS hR;have hin:i=n:=by lia
  subst hin;refine jQ F.entry_sum_loop ?_;rw[kq F.plain_sum_loop _];show wpAny _ A.in1 (jo (.ref S) >>= _) _ _ s;refine Wb (wpAny_seqItems hS rfl ?_);show wpAny _ A.in1 (tryCatch (eW (.ref I)) _ >>= _) _ _ s;refine Wb (wpAny_tryCatch (W.done s _ _ hst fun h' tk hk'=>?_));exact Wp (hR h' tk tA fun b o hbw _ e=>hk' b o hbw e)
 |succ k ih=>
  intro i g s tA c hg hk hi hst hS hR;have hlt:i<n:=by lia
  refine jQ F.entry_sum_loop ?_;rw[kq F.plain_sum_loop _];show wpAny _ A.in1 (jo (.ref S) >>= _) _ _ s;refine Wb (wpAny_seqItems hS rfl ?_);show wpAny _ A.in1 (tryCatch (eW (.ref I)) _ >>= _) _ _ s;refine Wb (wpAny_tryCatch (W.item i s _ _ hlt hst fun v h' tk hP hst' hk'=>?_));obtain⟨t,rfl⟩:=hval i v hP;have hS':=hk' S _ hSw hS;rcases hg with rfl|rfl
  ·show wpAny _ A.in1 (if(_:Bool)=true then(mkInt (hZ val i+val i) >>= _)else _) _ _ _
   split
   ·refine Wb (wpAny_mkInt ?_);show wpAny _ A.in1 (updateSeq S (fun _=> #[.int (hZ val i+val i) tk]) >>= _) _ _ _;refine Wb ?_;refine eS hS' rfl (Wp ⟨jf F.plain_sum_loop _,ih (i+1) 0 _ tk _ (.inl rfl) (by lia) hlt (W.frame _ _ _ hst' fun b hb o e=>?_) (bh _ hS' rfl) fun h'' tk'' t'' hk''=>?_⟩)
    ·exact(aB _ _ (fun h:S=b=>hSf (by rw[h];exact hb))).trans e
    ·exact hR h'' tk'' t'' fun b o hbw hbS e=>hk'' b o hbw hbS ((aB _ _ (bW hbS)).trans (hk' b o hbw e))
   ·refine Wb (wpAny_rule ?_);refine Wb (d8 (wpAny_holding (add_int ?_)));show wpAny _ A.in1 (updateSeq S (fun _=> #[.int (hZ val i+val i) tk]) >>= _) _ _ _;refine Wb (eS hS' rfl ?_);refine Wb (hU ?_);show wpAny _ A.in1 (updateSeq S (fun _=> #[.int (hZ val i+val i) tk]) >>= _) _ _ _;have hS2:=bh (bg fun _=>(#[.int (hZ val i+val i) tk]:Array aa)) hS' rfl;refine Wb (eS hS2 rfl (Wp ⟨jf F.plain_sum_loop _,ih (i+1) 2 _ tk _ (.inr rfl) (by lia) hlt (W.frame _ _ _ hst' fun b hb o e=>?_) (bh _ hS2 rfl) fun h'' tk'' t'' hk''=>?_⟩))
    ·have nb:S≠b:=fun h:S=b=>hSf (by rw[h];exact hb)
     exact(aB _ _ nb).trans ((aB _ _ nb).trans e)
    ·exact hR h'' tk'' t'' fun b o hbw hbS e=>hk'' b o hbw hbS ((aB _ _ (bW hbS)).trans ((aB _ _ (bW hbS)).trans (hk' b o hbw e)))
  ·show wpAny _ A.in1 (if((2:Int) != 0)=true then _ else _) _ _ _
   rw[if_pos (by decide)]
   refine Wb (d8 (wpAny_holding (add_int ?_)));show wpAny _ A.in1 (updateSeq S (fun _=> #[.int (hZ val i+val i) tk]) >>= _) _ _ _;refine Wb (eS hS' rfl ?_);refine Wb (hU ?_);show wpAny _ A.in1 (updateSeq S (fun _=> #[.int (hZ val i+val i) tk]) >>= _) _ _ _;have hS2:=bh (bg fun _=>(#[.int (hZ val i+val i) tk]:Array aa)) hS' rfl;refine Wb (eS hS2 rfl (Wp ⟨jf F.plain_sum_loop _,ih (i+1) 2 _ tk _ (.inr rfl) (by lia) hlt (W.frame _ _ _ hst' fun b hb o e=>?_) (bh _ hS2 rfl) fun h'' tk'' t'' hk''=>?_⟩))
   ·have nb:S≠b:=fun h:S=b=>hSf (by rw[h];exact hb)
    exact(aB _ _ nb).trans ((aB _ _ nb).trans e)
   ·exact hR h'' tk'' t'' fun b o hbw hbS e=>hk'' b o hbw hbS ((aB _ _ (bW hbS)).trans ((aB _ _ (bW hbS)).trans (hk' b o hbw e)))
end
theorem Zil(h:wpAny (aw prog w) A.in1 (pyIter x) (fun it s₂=>∃I fp wr n P St val,it=.ref I/\Walks prog w A.in1 I fp wr n P St/\St 0 s₂.heap/\(∀b∈fp,b<s₂.heap.objs.size)/\(∀i v,P i v->∃t,v=.int (val i) t)/\∀h' tk t',(∀b o,b∉wr->s₂.heap.get? b=some o->h'.get? b=some o)->Q (.int (hZ val n) t') {s₂ with heap:=h',toks:=tk}) E s):wpAny (aw prog w) A (call (.builtin "sum") [x]) Q E s:=by
 refine call_function_tree F.kind_sum F.plain_sum F.entry_sum (F.args_sum1 _) ?_;unfold cV.«sum»;simp only[bO,eQ];rw[if_neg (by decide)]
 refine Wb (j7 (show cV.Builtins.bindParams "sum" ["start"] 0 {}=pure [none]from rfl) ?_);refine Wb (wpAny_mono h (fun it s₂ h₂=>?_) fun _ _ e=>e);obtain⟨I,fp,wr,n,P,St,val,rfl,W,hst,hfp,hval,hQ⟩:=h₂;refine Wb (wpAny_mkInt ?_);refine Wb (Wp ?_);simp only[f6,gB];refine Wb (Wb (Wb (cY (T:="int") (b:=false) (lD _ _ _) PySem.sub_int_str ?_)));simp only[aQ,if_false];refine Wp (Wb (Wb (cY (T:="int") (b:=false) (lD _ _ _) PySem.sub_int_bytes ?_)));simp only[aQ,if_false];refine Wp (Wb (Wb (cY (T:="int") (b:=false) (lD _ _ _) PySem.sub_int_bytearray ?_)));simp only[aQ,if_false];refine Wp (Wp ?_);refine Wb (bD ?_);have hSf:s₂.heap.objs.size∉fp:=fun hm=>cj _ (hfp _ hm);refine Wp ⟨jf F.plain_sum_loop _,Zik W val hval s₂.heap.objs.size hSf n 0 0 _ s₂.toks 0 (.inl rfl) rfl (dB _) (W.frame _ _ _ hst fun b _ o e=>Hq _ e) (az _ rfl) fun h' tk t' hk=>?_⟩
 exact hQ h' tk t' fun b o hbw e=>hk b o hbw (au (Hz e)) (Hq _ e)
def ZpA(ns:List Int):Option V:=some (.int ns.sum)
def Zsu(ns:List Int):Option Int:=some ns.sum
theorem Zim(hc:X.calm=true):ZbM X (.builtin "sum") (ZeM X ZpA):=by
 intro pins s σ H vs us Q I rs hh;obtain⟨p,ns,v,e,hl,hg,q⟩:=hh;subst e;obtain⟨u,rfl,ru⟩:=ZcM rs;cases ru;cases hg;refine Zil (ZcT hc I hl fun its it hv hlen ei W hfp st back=>?_);refine⟨it,_,_,_,_,_,fun i=>ns.getD i 0,rfl,W,st,hfp,fun i v hP=>Zbx hv (by simpa using hP),fun h' tk t' hk=>⟨.int ns.sum,H,back h' tk hk,⟨t',?_⟩,q⟩⟩
 rw[ZcU,ao,hlen,cZ]
theorem ZmY:CO X ξ (ZeM X ZpA) (Zdl Zsu):=Zfr fun ns i e=>by
 cases e;rfl
end DL
namespace DL
open PyProof.Rows L2
noncomputable def kK:D->Option Key
 |.int i=>some (.inl i)
 |.str x=>some (.inr x)
 |_=>none
def kKs:List D->Option (List Key)
 |[]=>some []
 |d::r=>match kK d,kKs r with|some k,some ks=>some (k::ks)|_,_=>none
def kT:D->Option (List Key)
 |.tup ds=>kKs ds
 |_=>none
theorem ZpB(h:kK d=some k):d=Zlp k:=by
 cases d<;>first|(cases h;rfl)|cases h
theorem ZmZ(k:Key):kK (Zlp k)=some k:=by cases k<;>rfl
theorem Zin:∀{ds:List D}{ks:List Key},kKs ds=some ks->ds=ks.map Zlp
 |[],ks,h=>by cases h;rfl
 |d::r,ks,h=>by
  unfold kKs at h
  split at h
  ·rename_i k ks' e1 e2;cases h;rw[aP,<-ZpB e1,<-Zin e2]
  ·cases h
theorem Zgn:∀(ks:List Key),kKs (ks.map Zlp)=some ks
 |[]=>rfl
 |k::ks=>by rw[aP,kKs,ZmZ,Zgn ks]
theorem ZpC(h:kT d=some ks):d=ZdM ks:=by
 cases d with
 |tup ds=>rw[ZdM,<-Zin h]
 |_=>cases h
theorem Zky(ks:List Key):kT (ZdM ks)=some ks:=Zgn ks
section
variable {κ:Type}[DecidableEq κ]
noncomputable def Zkz(dec:D->Option κ)(k:κ):List D->Option D
 |[]=>none
 |.tup [a,v]::r=>if dec a=some k then some v else Zkz dec k r
 |_::r=>Zkz dec k r
noncomputable def Zm0(dec:D->Option κ)(k:κ)(v:D)(ds:List D):List D:=ds.map fun e=>match e with|.tup [a,w]=>if dec a=some k then .tup [a,v]else e|e=>e
def Zoo(dec:D->Option κ)(k:κ)(kd v:D)(ds:List D):List D:=if(Zkz dec k ds).isSome then Zm0 dec k v ds else ds++[.tup [kd,v]]
variable {K:Fg}{H H':Hp}{α α':List Addr}{key:κ->D}{dec:D->Option κ}
theorem Zio:Za9 K H α key [] []:=⟨[],rfl,.nil⟩
theorem ZeN(hd:∀k,dec (key k)=some k):∀{kvs:List (κ×V)} {es:List D} (k:κ),Reps K H α (kvs.map (·.2)) es->
  match Zkz dec k (b8 (fun kv e=>D.tup [key kv.1,e]) kvs es)with|none=>ZjX kvs k=none|some d=>∃v,ZjX kvs k=some v/\Rep K H α v d
 |[],es,k,h=>by cases h;rfl
 | (k',v)::kvs,_,k,.cons r t=>by
  simp only[gD,Zkz,hd,aq];by_cases c:k'=k
  ·rw[if_pos c];exact⟨v,ZfZ (p:=(k',v)) c,r⟩
  ·rw[if_neg c]
   have:=ZeN hd k t
   have e:ZjX ((k',v)::kvs) k=ZjX kvs k:=Zf0 (p:=(k',v)) c;rw[e];exact this
theorem ZeO(hd:∀k,dec (key k)=some k){w:V}{d:D}(rw':Rep K H α w d):∀{kvs:List (κ×V)} {es:List D} (k:κ),Reps K H α (kvs.map (·.2)) es->
  ∃es',Zm0 dec k d (b8 (fun kv e=>D.tup [key kv.1,e]) kvs es)=b8 (fun kv e=>D.tup [key kv.1,e]) (kvs.map fun kv=>if kv.1=k then(kv.1,w)else kv) es'/\Reps K H α ((kvs.map fun kv=>if kv.1=k then(kv.1,w)else kv).map (·.2)) es'
 |[],es,k,h=>by cases h;exact⟨[],rfl,.nil⟩
 | (k',v)::kvs,_,k,.cons (d:=dv) (ds:=es) r t=>by
  obtain⟨es',h1,h2⟩:=ZeO hd rw' k t;unfold Zm0 at h1;by_cases c:k'=k
  ·refine⟨d::es',?_,?_⟩
   ·simp only[Zm0,gD,aP,hd,aq,if_pos c,h1]
   ·simp only[aP,if_pos c];exact .cons rw' h2
  ·refine⟨dv::es',?_,?_⟩
   ·simp only[Zm0,gD,aP,hd,aq,if_neg c,h1]
   ·simp only[aP,if_neg c];exact .cons r h2
theorem Zgo{α' β γ:Type}{f:α'->β->γ}{x:α'}{y:β}:∀{xs:List α'}{ys:List β},xs.length=ys.length->b8 f (xs++[x]) (ys++[y])=b8 f xs ys++[f x y]
 |[],[],_=>rfl
 |a::xs,b::ys,h=>by simp[Zgo (xs:=xs) (ys:=ys) (by simpa using h)]
theorem Zip(hd:∀k,dec (key k)=some k){kvs:List (κ×V)}{ds:List D}{w:V}{d:D}(k:κ)(h:Za9 K H α key kvs ds)(r:Rep K H α w d):Za9 K H α key (ZjY kvs k w) (Zoo dec k (key k) d ds):=by
 obtain⟨es,rfl,hr⟩:=h;have pv:=ZeN hd k hr;have an:=Zf1 k kvs;unfold ZjY Zoo;cases e:Zkz dec k (b8 (fun kv e=>D.tup [key kv.1,e]) kvs es)with
 |none=>
  rw[e]at pv;rw[if_neg (by rw[an,pv];simp),if_neg (by simp)]
  refine⟨es++[d],?_,?_⟩
  ·rw[Zgo (by rw[<-hr.length,ay])]
  ·rw[cD];exact hr.append (.cons r .nil)
 |some x=>
  rw[e]at pv;obtain⟨v,hv,_⟩:=pv;rw[if_pos (by rw[an,hv];rfl),if_pos (show(some x).isSome=true from rfl)]
  exact ZeO hd r k hr
theorem Ziq{kvs:List (κ×V)}{ds:List D}(h:Za9 K H α key kvs ds):kvs.length=ds.length:=by
 obtain⟨es,rfl,hr⟩:=h
 have:=hr.length
 rw[ay]at this;simp[this]
theorem Zg6{kvs:List (κ×V)}{ds:List D}(h:Za9 K H α key kvs ds)(e:Ext K H H' α α'):Za9 K H' α' key kvs ds:=by
 obtain⟨es,h1,h2⟩:=h;exact⟨es,h1,Reps.mono e h2⟩
end
end DL
namespace DL
open PyProof.Rows L2
end DL
namespace DL
open PyProof.Rows L2
section
variable {e2:Expr}
def eFm(f:Ev):Ev:=fun ρ M=>(f ρ M).bind fun x M1=>match x with
 |.int i=>if i.natAbs.log2<1900 then .ok (.str (a7 (toString i))) M1 else .bad
 |.str y=>if y.length<=100000 then .ok (.str y) M1 else .bad
 |_=>.bad
theorem Zm1(ha:DE X ξ e f):DE X ξ (.FormattedValue e (-1) none pos) (eFm f):=by
 obtain⟨ta,pa,qa⟩:=ha;refine⟨fun σ H Q=>ta σ H fun x H1=>(∃i,x=.int i/\i.natAbs.log2<1900/\Q (.str (a7 (toString i))) H1)\/∃y,x=.str y/\y.length<=100000/\Q (.str y) H1,fun pins s σ H Q I h=>?_,fun σ ρ H α M Q s h q=>?_⟩
 ·refine wpAny_FormattedValue_plain (wpAny_mono (pa pins s σ H _ I h) (fun v s1 ⟨x,H1,I1,r1,q1⟩=>?_) fun _ _ z=>z);rcases q1 with⟨i,rfl,hi,q⟩|⟨y,rfl,hy,q⟩
  ·obtain⟨t,rfl⟩:=r1;exact wpAny_formatField_int (by lia) ⟨.str (a7 (toString i)),H1,I1.tok _,⟨_,rfl⟩,q⟩
  ·obtain⟨t,rfl⟩:=r1;exact wpAny_formatField_str ⟨.str y,H1,I1,⟨_,rfl⟩,q⟩ ⟨.str y,H1,I1.tok _,⟨_,rfl⟩,q⟩ (aU hy (by rw[c9];decide))
 ·refine qa σ ρ H α M _ s h (OG.seq q fun x M1 v H1 α1 e1 h1 r1 q1=>?_);cases r1 with
  |int i=>
   by_cases hi:i.natAbs.log2<1900
   ·simp only[hi,if_true]at q1;exact .inl ⟨i,rfl,hi,q1 _ H1 α1 Ext.refl h1 (.str _)⟩
   ·simp only[hi,if_false]at q1;exact q1.elim
  |str y=>
   by_cases hi:y.length<=100000
   ·simp only[hi,if_true]at q1;exact .inr ⟨y,rfl,hi,q1 _ H1 α1 Ext.refl h1 (.str _)⟩
   ·simp only[hi,if_false]at q1;exact q1.elim
  |_=>exact q1.elim
abbrev Jv:=Str->Ro->Sto->Out Str
def PJ(X:Cx)(es:List Expr)(t:L2.St->Hp->Str->(Str->Hp->Prop)->Prop):Prop:=
 ∀(pins:Pn)(s:aC)(σ:L2.St)(H:Hp)(acc:Str)(Q:Str->Hp->Prop),Inv X pins σ H s->t σ H acc Q->Joins (aw X.prog X.w) X.A X.xe (evalEach es X.env) acc (fun out s1=>out.length<=100000/\∃H',Inv X pins σ H' s1/\Q out H') s
def DJ(X:Cx)(ξ:XK)(es:List Expr)(g:Jv):Prop:=∃t,PJ X es t/\∀σ ρ H α M acc (Q:Str->Hp->Prop),SR X.K H α σ ρ->HR X.K H α M->OG X.K (fun _ _ v d=>v=d) H α ξ Q (g acc ρ M)->t σ H acc Q
noncomputable def jNil:Jv:=fun acc _ M=>if acc.length<=100000 then .ok acc M else .bad
def ZdS(f:Ev)(g:Jv):Jv:=fun acc ρ M=>(f ρ M).bind fun x M1=>match x with
 |.str y=>if(acc++y).length<=100000 then g (acc++y) ρ M1 else .bad
 |_=>.bad
def eFs(g:Jv):Ev:=fun ρ M=>(g lV ρ M).bind fun x M1=>.ok (.str x) M1
theorem ZlH:DJ X ξ [] jNil:=by
 refine⟨fun σ H acc Q=>acc.length<=100000/\Q acc H,fun pins s σ H acc Q I h=>⟨h.1,H,I,h.2⟩,fun σ ρ H α M acc Q s h q=>?_⟩;unfold jNil at q;by_cases hl:acc.length<=100000
 ·rw[if_pos hl]at q;exact⟨hl,q acc H α Ext.refl h rfl⟩
 ·rw[if_neg hl]at q;exact q.elim
theorem Zbk(ha:DE X ξ e f)(hr:DJ X ξ es g):DJ X ξ (e::es) (ZdS f g):=by
 obtain⟨ta,pa,qa⟩:=ha;obtain⟨tr,pr',qr⟩:=hr;refine⟨fun σ H acc Q=>ta σ H fun x H1=>∃y,x=.str y/\(acc++y).length<=100000/\tr σ H1 (acc++y) Q,fun pins s σ H acc Q I h=>?_,fun σ ρ H α M acc Q s h q=>?_⟩
 ·show wpAny _ _ (eval e X.env) _ _ s;refine wpAny_mono (pa pins s σ H _ I h) (fun v s1 ⟨x,H1,I1,r1,q1⟩=>?_) fun _ _ z=>z;obtain⟨y,rfl,hy,q⟩:=q1;obtain⟨t,rfl⟩:=r1;exact⟨y,t,rfl,aU hy (by rw[c9];decide),pr' pins s1 σ H1 (acc++y) Q I1 q⟩
 ·refine qa σ ρ H α M _ s h (OG.seq q fun x M1 v H1 α1 e1 h1 r1 q1=>?_);cases r1 with
  |str y=>
   by_cases hi:(acc++y).length<=100000
   ·simp only[hi,if_true]at q1;exact⟨y,rfl,hi,qr σ ρ H1 α1 M1 (acc++y) Q (s.mono e1) h1 q1⟩
   ·simp only[hi,if_false]at q1;exact q1.elim
  |_=>exact q1.elim
theorem ZpD(h:DJ X ξ (e1::e2::es) g):DE X ξ (.JoinedStr (e1::e2::es) pos) (eFs g):=by
 obtain⟨t,pj,qj⟩:=h;refine⟨fun σ H Q=>t σ H lV fun x H1=>Q (.str x) H1,fun pins s σ H Q I h=>?_,fun σ ρ H α M Q s h q=>?_⟩
 ·refine wpAny_JoinedStr ?_
  have:=pj pins s σ H lV _ I h
  have mono:∀(ms:List (Sem aa)) (acc:Str) (P R:Str->aC->Prop) (s:aC),(∀o s,P o s->R o s)->Joins (aw X.prog X.w) X.A X.xe ms acc P s->Joins (aw X.prog X.w) X.A X.xe ms acc R s:=by
   intro ms
   induction ms with
   |nil=>intro acc P R s hp hj;exact hp _ _ hj
   |cons m r ih=>
    intro acc P R s hp hj;exact wpAny_mono hj (fun v s1 ⟨y,t,e,l,k⟩=>⟨y,t,e,l,ih _ P R s1 hp k⟩) fun _ _ z=>z
  refine mono _ _ _ _ s (fun o s1 hz=>?_) this;obtain⟨hl,H',I',q⟩:=hz;exact⟨aU hl (by rw[c9];decide),.str o,H',I'.tok _,⟨_,rfl⟩,q⟩
 ·refine qj σ ρ H α M lV _ s h (OG.seq q fun x M1 v H1 α1 e1 h1 r1 q1=>?_);cases r1;exact q1 _ H1 α1 Ext.refl h1 (.str x)
end
end DL
namespace DL
open PyProof.Rows L2
theorem Zg7{o:Out β}{f:β->Sto->Out γ}{g:γ->Sto->Fl}:Zav (o.bind f) g=Zav o fun x M=>Zav (f x M) g:=by cases o<;>rfl
theorem Zm2(iv:Nat)(hN:X.N.Nodup)(B:Blk X scope cl N k fr)(hi:DI X ξ tg iter fi)(h:Blk X scope cl N k fr->∀C fp s H,DG (blk X scope cl N C fp s H) tg gt/\DC (blk X scope cl N C fp s H) ifs c/\DE (blk X scope cl N C fp s H) E0 elt f)(hiv:autoParam (X.N[iv]?=some x) Qrf._auto_1)(hxl:Loc X.env.scope x:=by first|exact dM rfl|exact jH rfl)(hm:autoParam (X.may iv=true) Qrf._auto_1)(hsw:autoParam (iy (.ListComp elt [⟨tg,iter,ifs,0⟩] scope pos) (some (.Name x pos')) spos.line X.env=pure true) Qrf._auto_1)(hf:X.fn x=true\/X.env.scope.names.lookup x=some .local:=by first|exact .inl rfl|exact .inr rfl|assumption)(hs:autoParam (∀x,foldedSetIterable iter X.env x=pure x) Qin._auto_1):DS X ξ (.Assign [.Name x pos'] (.ListComp elt [⟨tg,iter,ifs,0⟩] scope pos) spos) (ZG (gNm iv) (Zbe fi k fr gt c f)):=by
 rw[Zgk];obtain⟨wi,pi,qi⟩:=hi;refine⟨fun Dn σ H=>∃ρ α M,SR X.K H α σ ρ/\HR X.K H α M/\FP X.K H α ξ Dn (ZG (gNm iv) (Zbd fi k fr gt c (gEm f)) ρ M),?_,fun σ ρ H α M Dn s h q=>⟨ρ,α,M,s,h,q⟩⟩;rintro pins s σ H Dn I ⟨ρ,α,M,sr,hr,op⟩;rw[exec_Assign_Name_used _ _ _ _ hsw];refine Wb (wpAny_standAt (Wb ?_));show wpAny _ X.A (do let _ <-comprehension (.ListComp elt [⟨tg,iter,ifs,0⟩] scope pos) scope X.env _ (newList []) false (eval iter X.env) (some (assign (.Name x pos') X.env))) _ _ s
 unfold ZG Zbd at op;rw[Zg7]at op;refine Wb (wpAny_mono (Zgj (P:=fun _ s'=>SP X pins Dn .next s') (g:=gEm f) B pi (fun C fp s H=>(h B C fp s H).1) (fun C fp s H=>(h B C fp s H).2.1) (Zgi elt tg iter ifs scope pos) (fun C fp s H D n0 it=>Zb3 (fun _ _ z=>z) (h B C fp s H).2.2) hs sr I (qi σ ρ H α M _ sr hr (FP.seq op fun src M1 J H1 α1 e1 h1 r1 q1=>?_))) (fun _ s' hq=>Wp (Wp hq)) fun _ _ e=>e)
 cases er:Zcw src gt c (gEm f M1.length) (cnt src M1) 0 (roB k fr ρ) (M1++[.lst []])with
 |ok u9 M9=>
  rw[er]at q1;refine⟨α1,M1,src,u9,M9,e1,h1,r1,er,fun D C H5 α5 s6 m6 ex5 hr5 aD I7 hm6 nl nc tu=>?_⟩;refine wpAny_assign_Name (Zej (v:=.ref D) I7 hN hiv hxl hm rfl (fun s8 I8 ⟨a,sb8,ha⟩=>?_) hf);have nca:C≠a:=by
   rcases ha with e|e
   ·rw[e];exact nl
   ·intro z;exact nc x (z▸e)
  exact⟨m6,hm6.sameBut sb8 nca,fun h' sb=>⟨_,H5,tu _ s8 h' I8 (fun b o hb e=>(sb.2 b hb).trans e),q1 _ H5 α5 ex5 hr5 (((sr.mono e1).mono ex5).set iv (.ref aD))⟩⟩
 |_=>rw[er]at q1;exact q1.elim
end DL
namespace DL
open PyProof.Rows L2
end DL
namespace DL
open L2
open PySem.W
end DL
namespace DL3
open PyProof.Rows L2 DL
open PySem.Sem (wp)
end DL3
namespace DL4
open PyProof.Rows L2 DL
open PySem.Sem (wp)
end DL4
namespace DLy2
open PyProof.Rows L2 DL
open PySem.Sem (wp)
structure Ap(z TI TO i1 i2 l1 l2:Addr):Prop where
 z_TI:z≠TI
 z_TO:z≠TO
 z_i1:z≠i1
 z_i2:z≠i2
 TI_TO:TI≠TO
 TI_i1:TI≠i1
 TI_i2:TI≠i2
 TO_i1:TO≠i1
 TO_i2:TO≠i2
 i1_i2:i1≠i2
 l1_z:l1≠z
 l1_TO:l1≠TO
 l1_i1:l1≠i1
 l1_i2:l1≠i2
 l2_z:l2≠z
 l2_TO:l2≠TO
 l2_i1:l2≠i1
 l2_i2:l2≠i2
abbrev ZcB(h:Heap)(T:Addr)(vs:List aa):Prop:=h.get? T=some {cls:=.type "tuple",data:=.seq vs.toArray}
theorem tat(x:dF h a t i)(k:∀o,h.get? a=some o->h'.get? a=some o):dF h' a t i:=let ⟨o,e,r⟩:=x;⟨o,k o e,r⟩
theorem Zm3(hit:dF s.heap it t i)(hl:gY s.heap t vs)(hx:vs[i]?=some x)(hQ:∀h',dF h' it t (i+1)->dq it s.heap h'->Q x {s with heap:=h'}):wpAny (aw prog w) A (bM (.ref it)) Q E s:=by
 obtain⟨o,ho,hc,hd⟩:=id hit;obtain⟨ol,hol,_,nl,hdl⟩:=hl;unfold bM;refine Wb (cu (name:=a7 "__next__") hit.typeIs fK (bY fK hit.typeIs kr ?_ (k7 _)));show wpAny _ _ (iB (.ref it) 0 >>= _) _ _ s;refine Wb (aX ho hd (x:=.ref t) rfl ?_);show wpAny _ _ (if(aM t==a9)=true then _ else _) _ _ s
 rw[if_neg (show ¬((aM t==a9)=true)from bT)];show wpAny _ _ (iB (.ref it) 1 >>= _) _ _ s;refine Wb (aX ho hd (x:=.int i 0) rfl ?_);show wpAny _ _ (jo (.ref t) >>= _) _ _ s;refine Wb (wpAny_seqItems hol hdl ?_);simp only[bR,hx];refine Wb (cO ho hd (by simp) (Wp ⟨x,rfl,Wp (hQ _ ?_ (cF ..))⟩))
 exact⟨_,bh _ ho (cW (cK hd _)),(gn ..).trans hc,by rw[cK hd];simp[cQ]⟩
theorem ZpE{items}(hh:A.handled=none)(hit:dF s.heap it l i)(hl:gY s.heap l items)(hx:items[i]?=none)(hE:∀h' e,eK it s.heap h'->(∃o,h'.get? e=some o/\o.cls=.type "StopIteration")->E (.ref e) {s with heap:=h'}):wpAny (aw prog w) A (bM (.ref it)) Q E s:=by
 obtain⟨o,ho,hc,hd⟩:=id hit;obtain⟨ol,hol,_,nl,hdl⟩:=hl;unfold bM;refine Wb (cu (name:=a7 "__next__") hit.typeIs fK (bY fK hit.typeIs kr ?_ (k7 _)))
 show wpAny _ _ (iB (.ref it) 0 >>= _) _ _ s;refine Wb (aX ho hd (x:=.ref l) rfl ?_);show wpAny _ _ (if(aM l==a9)=true then _ else _) _ _ s
 rw[if_neg (show ¬((aM l==a9)=true)from bT)];show wpAny _ _ (iB (.ref it) 1 >>= _) _ _ s;refine Wb (aX ho hd (x:=.int i 0) rfl ?_);show wpAny _ _ (jo (.ref l) >>= _) _ _ s;refine Wb (wpAny_seqItems hol hdl ?_);simp only[bR,hx];refine Wb (wpAny_rule (Wb (cO ho hd (by simp) ?_)))
 show wpAny _ _ (newExc (.type "StopIteration") [] >>= _) _ _ _;refine Wb ?_;simp only[newExc,newTuple];refine Wb (bD ?_ (by size_fits))
 refine Wb (m:=iA _ _) (j7 (a:=a9) (by first|rfl|(simp only[iA];rfl)) ?_)
 refine bD ?_ (by size_fits)
 simp only[raiseNew];refine Wb (wpAny_handled ?_)
 first|rw[show A.in1.handled=none from hh]|rw[hh]
 refine Wb (Wp (j6 ?_));exact hE _ _ (((cF ..).extBut.push _).push _) ⟨_,az _ rfl,rfl⟩
theorem Zir(hT:ZcB s.heap T [a1,a2])(h:∀h',ZcB h' T ([a1,a2].set k x)->dq T s.heap h'->Q () {s with heap:=h'}):wpAny (aw prog w) A (updateSeq T (·.setIfInBounds k x)) Q E s:=by
 refine eS hT rfl (h _ ?_ (cF ..));show _=_;rw[bh _ hT rfl];simp[bg]
theorem Zis{TI TO:Addr}{Q:Vp}(D:Ap z TI TO i1 i2 l1 l2)(hz:hO s.heap z TI TO .none)(hTI:ZcB s.heap TI [.ref i1,.ref i2])(hTO:ZcB s.heap TO [a1,a2])(h1:s.heap.IsListIter i1 l1 k)(h2:dF s.heap i2 l2 k)(hl1:s.heap.IsList l1 xs1)(hl2:gY s.heap l2 xs2)(e1:xs1[k]?=some x1)(e2:xs2[k]?=some x2)(hQ:∀h',hO h' z TI TO (cQ s.heap.objs.size)->ZcB h' TO [x1,x2]->h'.IsListIter i1 l1 (k+1)->dF h' i2 l2 (k+1)->ZcB h' s.heap.objs.size [x1,x2]->h'.objs.size=s.heap.objs.size+1->(∀c o,c≠z->c≠TO->c≠i1->c≠i2->s.heap.get? c=some o->h'.get? c=some o)->Q (.ref s.heap.objs.size) {s with heap:=h'}):wpAny (aw prog w) A (cV.«zip.__next__» ⟨[.ref z],[]⟩) (fun fin s'=>∃v,fin=.done (.ret v)/\Q v s') E s:=by
 show wpAny _ _ (iB (.ref z) 2 >>= _) _ _ _;refine Wb (aX hz rfl (x:=.bool false) rfl ?_);show wpAny _ _ (iB (.ref z) 3 >>= _) _ _ _;refine Wb (aX hz rfl (x:=.ref TI) rfl ?_);refine Wb (wpAny_seqItems hTI rfl ?_);show wpAny _ _ (cH (.ref z) >>= _) _ _ _;refine Wb ?_;unfold cH;refine Wb (aX hz rfl (x:=.none) rfl (Wp ?_));simp only[if_true];refine Wb (wpAny_rule ?_);refine Wb (aX hz rfl (x:=.ref TO) rfl ?_);refine Wb (dH hz (by simp) fun g1 hz1 hs1=>?_)
 replace hz1:hO g1 z TI TO .ellipsis:=hz1
 refine Wb ?_;simp only[js,ia,f6,gB];refine Wb (Wb (wpAny_onRaise ?_));show wpAny _ _ (bM (.ref i1) >>= _) _ _ _;refine Wb (jK ((h1).extBut hs1.extBut D.z_i1.symm) ((hl1).extBut hs1.extBut D.l1_z) e1 fun g2 it1 hs2=>Wp ?_);have to2:ZcB g2 TO [a1,a2]:=hs2.extBut _ _ D.TO_i1 (hs1.extBut _ _ D.z_TO.symm (hTO));refine Wb (wpAny_seqItems to2 rfl ?_);refine Wb (Zir to2 fun g3 to3 hs3=>?_)
 replace to3:ZcB g3 TO [x1,a2]:=to3
 refine Wb (hU (Wp ?_));refine Wb (Wb (wpAny_onRaise ?_));show wpAny _ _ (bM (.ref i2) >>= _) _ _ _;refine Wb (Zm3 ((((h2).extBut hs1.extBut D.z_i2.symm).extBut hs2.extBut D.i1_i2.symm).extBut hs3.extBut D.TO_i2.symm) ((((hl2).extBut hs1.extBut D.l2_z).extBut hs2.extBut D.l2_i1).extBut hs3.extBut D.l2_TO) e2 fun g4 it2 hs4=>Wp ?_);have to4:ZcB g4 TO [x1,a2]:=hs4.extBut _ _ D.TO_i2 (to3);refine Wb (wpAny_seqItems to4 rfl ?_);refine Wb (Zir to4 fun g5 to5 hs5=>?_)
 replace to5:ZcB g5 TO [x1,x2]:=to5
 refine Wb (hU (Wp (Wp ?_)));refine Wb (wpAny_seqItems to5 rfl ?_);refine Wb (wpAny_newTuple ?_);have hsz:g5.objs.size=s.heap.objs.size:=by rw[hs5.1,hs4.1,hs3.1,hs2.1,hs1.1]
 have hzF:hO g5 z TI TO .ellipsis:=hs5.extBut _ _ D.z_TO (hs4.extBut _ _ D.z_i2 (hs3.extBut _ _ D.z_TO (hs2.extBut _ _ D.z_i1 (hz1))));have hkF:∀c o,c≠z->c≠TO->c≠i1->c≠i2->s.heap.get? c=some o->g5.get? c=some o:=fun c o c1 c2 d1 d2 e=>hs5.extBut _ _ c2 (hs4.extBut _ _ d2 (hs3.extBut _ _ c2 (hs2.extBut _ _ d1 (hs1.extBut _ _ c1 (e)))));have f1:g5.IsListIter i1 l1 (k+1):=(((it1).extBut hs3.extBut D.TO_i1.symm).extBut hs4.extBut D.i1_i2).extBut hs5.extBut D.TO_i1.symm;have f2:dF g5 i2 l2 (k+1):=(it2).extBut hs5.extBut D.TO_i2.symm;have hzlt:z<g5.objs.size:=Hz hzF;show wpAny _ _ (fL (.ref z) (.ref g5.objs.size) >>= _) _ _ _;refine Wb ?_;unfold fL;have hzP:hO (g5.push {cls:=.type "tuple",data:=.seq #[x1,x2]}) z TI TO .ellipsis:=Hq _ hzF;refine Wb (dH hzP (by simp) fun h7 hz7 hs7=>?_)
 replace hz7:hO h7 z TI TO (cQ g5.objs.size):=hz7
 refine dH hz7 (by simp) fun h8 hz8 hs8=>?_
 replace hz8:hO h8 z TI TO (cQ g5.objs.size):=hz8
 have up:∀c o,c≠z->g5.get? c=some o->h8.get? c=some o:=fun c o c1 e=>hs8.extBut _ _ c1 (hs7.extBut _ _ c1 (Hq _ e));have hT8:ZcB h8 g5.objs.size [x1,x2]:=hs8.extBut _ _ (aO hzlt) (hs7.extBut _ _ (aO hzlt) (az _ rfl));have h8z:h8.objs.size=g5.objs.size+1:=by rw[hs8.1,hs7.1,cx]
 rw[hsz]at hz8 hT8 h8z;refine Wp ⟨_,rfl,?_⟩;show Q (.ref g5.objs.size) _;rw[hsz];exact hQ h8 hz8 (up _ _ D.z_TO.symm to5) (f1.at fun o e=>up _ o D.z_i1.symm e) (tat f2 fun o e=>up _ o D.z_i2.symm e) hT8 h8z fun c o c1 c2 d1 d2 e=>up c o c1 (hkF c o c1 c2 d1 d2 e)
theorem ZkA{TI TO:Addr}(hh:A.handled=none)(D:Ap z TI TO i1 i2 l1 l2)(hz:hO s.heap z TI TO .none)(hTI:ZcB s.heap TI [.ref i1,.ref i2])(hTO:ZcB s.heap TO [a1,a2])(h1:s.heap.IsListIter i1 l1 k)(h2:dF s.heap i2 l2 k)(hl1:s.heap.IsList l1 xs1)(hl2:gY s.heap l2 xs2)(hend:xs1[k]?=none\/xs2[k]?=none)(hE:∀h' e,(∀c o,c≠z->c≠TO->c≠i1->c≠i2->s.heap.get? c=some o->h'.get? c=some o)->(∃o,h'.get? e=some o/\o.cls=.type "StopIteration")->E (.ref e) {s with heap:=h'}):wpAny (aw prog w) A (cV.«zip.__next__» ⟨[.ref z],[]⟩) Q E s:=by
 show wpAny _ _ (iB (.ref z) 2 >>= _) _ _ _;refine Wb (aX hz rfl (x:=.bool false) rfl ?_);show wpAny _ _ (iB (.ref z) 3 >>= _) _ _ _;refine Wb (aX hz rfl (x:=.ref TI) rfl ?_);refine Wb (wpAny_seqItems hTI rfl ?_);show wpAny _ _ (cH (.ref z) >>= _) _ _ _;refine Wb ?_;unfold cH;refine Wb (aX hz rfl (x:=.none) rfl (Wp ?_));simp only[if_true];refine Wb (wpAny_rule ?_);refine Wb (aX hz rfl (x:=.ref TO) rfl ?_);refine Wb (dH hz (by simp) fun g1 hz1 hs1=>?_)
 replace hz1:hO g1 z TI TO .ellipsis:=hz1
 refine Wb ?_;simp only[js,ia,f6,gB];refine Wb (Wb (wpAny_onRaise ?_));show wpAny _ _ (bM (.ref i1) >>= _) _ _ _;cases hx1:xs1[k]? with
 |none=>
  refine Wb (wpAny_nextOf_list_end hh ((h1).extBut hs1.extBut D.z_i1.symm) ((hl1).extBut hs1.extBut D.l1_z) hx1 fun gE e hsE he=>?_);obtain⟨oe,hoe,hce⟩:=he;have hzE:hO gE z TI TO .ellipsis:=hsE _ _ D.z_i1 (hz1);have hez:e≠z:=fun x=>by subst x;rw[hzE]at hoe;cases hoe;simp at hce
  refine dH hzE (by simp) fun gF _ hsF=>hE gF e (fun c o c1 c2 d1 d2 x=>hsF.extBut _ _ c1 (hsE _ _ d1 (hs1.extBut _ _ c1 (x)))) ⟨oe,hsF.extBut _ _ hez hoe,hce⟩
 |some x1=>
  have hend1:xs2[k]?=none:=by rcases hend with h|h;rw[hx1]at h;cases h;exact h
  refine Wb (jK ((h1).extBut hs1.extBut D.z_i1.symm) ((hl1).extBut hs1.extBut D.l1_z) hx1 fun g2 it1 hs2=>Wp ?_);have to2:ZcB g2 TO [a1,a2]:=hs2.extBut _ _ D.TO_i1 (hs1.extBut _ _ D.z_TO.symm (hTO));refine Wb (wpAny_seqItems to2 rfl ?_);refine Wb (Zir to2 fun g3 to3 hs3=>?_)
  replace to3:ZcB g3 TO [x1,a2]:=to3
  refine Wb (hU (Wp ?_));refine Wb (Wb (wpAny_onRaise ?_));show wpAny _ _ (bM (.ref i2) >>= _) _ _ _;refine Wb (ZpE hh ((((h2).extBut hs1.extBut D.z_i2.symm).extBut hs2.extBut D.i1_i2.symm).extBut hs3.extBut D.TO_i2.symm) ((((hl2).extBut hs1.extBut D.l2_z).extBut hs2.extBut D.l2_i1).extBut hs3.extBut D.l2_TO) hend1 fun gE e hsE he=>?_);obtain⟨oe,hoe,hce⟩:=he;have hzE:hO gE z TI TO .ellipsis:=hsE _ _ D.z_i2 (hs3.extBut _ _ D.z_TO (hs2.extBut _ _ D.z_i1 (hz1)));have hez:e≠z:=fun x=>by subst x;rw[hzE]at hoe;cases hoe;simp at hce
  refine dH hzE (by simp) fun gF _ hsF=>hE gF e (fun c o c1 c2 d1 d2 x=>hsF.extBut _ _ c1 (hsE _ _ d2 (hs3.extBut _ _ c2 (hs2.extBut _ _ d1 (hs1.extBut _ _ c1 (x)))))) ⟨oe,hsF.extBut _ _ hez hoe,hce⟩
theorem Zm4{TI TO:Addr}(D:Ap z TI TO i1 i2 l1 l2)(hz:hO s.heap z TI TO .none)(hTI:ZcB s.heap TI [.ref i1,.ref i2])(hTO:ZcB s.heap TO [a1,a2])(h1:s.heap.IsListIter i1 l1 k)(h2:dF s.heap i2 l2 k)(hl1:s.heap.IsList l1 xs1)(hl2:gY s.heap l2 xs2)(e1:xs1[k]?=some x1)(e2:xs2[k]?=some x2)(hQ:∀h',hO h' z TI TO (cQ s.heap.objs.size)->ZcB h' TO [x1,x2]->h'.IsListIter i1 l1 (k+1)->dF h' i2 l2 (k+1)->ZcB h' s.heap.objs.size [x1,x2]->h'.objs.size=s.heap.objs.size+1->(∀c o,c≠z->c≠TO->c≠i1->c≠i2->s.heap.get? c=some o->h'.get? c=some o)->Q (some (.ref s.heap.objs.size)) {s with heap:=h'}):wpAny (aw prog w) A (eW (.ref z)) Q E s:=by
 have hT:s.TypeIs (.ref z) "zip":=⟨_,hz,rfl⟩;unfold eW;exact Wb (d8 (cu (name:=a7 "__next__") hT F.slot_zip_next (bY F.slot_zip_next hT F.entry_zip_next (Zis D hz hTI hTO h1 h2 hl1 hl2 e1 e2 fun h' b0 b1 b2 b3 b4 b5 b6=>Wp (hQ h' b0 b1 b2 b3 b4 b5 b6)) (F.args_zip_next_1 _))))
theorem ZpF{TI TO:Addr}(hh:A.handled=none)(D:Ap z TI TO i1 i2 l1 l2)(hz:hO s.heap z TI TO .none)(hTI:ZcB s.heap TI [.ref i1,.ref i2])(hTO:ZcB s.heap TO [a1,a2])(h1:s.heap.IsListIter i1 l1 k)(h2:dF s.heap i2 l2 k)(hl1:s.heap.IsList l1 xs1)(hl2:gY s.heap l2 xs2)(hend:xs1[k]?=none\/xs2[k]?=none)(hQ:∀h',(∀c o,c≠z->c≠TO->c≠i1->c≠i2->s.heap.get? c=some o->h'.get? c=some o)->Q none {s with heap:=h'}):wpAny (aw prog w) A (eW (.ref z)) Q E s:=by
 have hT:s.TypeIs (.ref z) "zip":=⟨_,hz,rfl⟩;unfold eW;refine Wb (d8 (cu (name:=a7 "__next__") hT F.slot_zip_next (bY F.slot_zip_next hT F.entry_zip_next (ZkA hh D hz hTI hTO h1 h2 hl1 hl2 hend fun h' e hk he=>?_) (F.args_zip_next_1 _))))
 obtain⟨o,ho,hc⟩:=he;refine Wb (cY (T:="StopIteration") (b:=true) ⟨o,ho,hc⟩ isSubtype_stop ?_);exact Wp (hQ _ hk)
theorem ZkB(a1 a2:aa):checkTypeCall "zip" ⟨[a1,a2],[]⟩=pure ():=by kernel_rfl
theorem Zm5(a1 a2:aa):checkBuiltinCall "zip.__new__" ⟨[.type "zip",a1,a2],[]⟩=pure ():=by kernel_rfl
theorem Zit(a0 a1 a2:aa):argsOk "object.__init__" ⟨[a0,a1,a2],[]⟩:=by
 unfold argsOk;rw[signature?_of (id:="object.__init__") (n:=['_','_','t','i','n','i','_','_']) (o:=['t','c','e','j','b','o']) (by kernel_rfl) F.owner_object];kernel_rfl
abbrev zH1(h:Heap)(l1:Addr):Heap:=h.push {cls:=.type "list_iterator",data:=.fields #[.ref l1,.int 0 0]}
abbrev zH2(h:Heap)(l1 l2:Addr):Heap:=(zH1 h l1).push {cls:=.type "tuple_iterator",data:=.fields #[.ref l2,.int 0 0]}
abbrev zH3(h:Heap)(l1 l2:Addr):Heap:=(zH2 h l1 l2).push {cls:=.type "tuple",data:=.seq #[.ref h.objs.size,.ref (zH1 h l1).objs.size]}
abbrev zH4(h:Heap)(l1 l2:Addr):Heap:=(zH3 h l1 l2).push {cls:=.type "tuple",data:=.seq #[.none,.none]}
abbrev zH5(h:Heap)(l1 l2:Addr):Heap:=(zH4 h l1 l2).push {cls:=.type "zip",data:=.fields #[.none,.bool false,.bool false,.ref (zH2 h l1 l2).objs.size,.ref (zH3 h l1 l2).objs.size]}
theorem Zsv(l1 l2:Addr)(xs1 xs2:Array aa):Meets (cV.«zip.__new__» ⟨[.type "zip",.ref l1,.ref l2],[]⟩) (fun _ R s=>s.heap.IsList l1 xs1/\gY s.heap l2 xs2/\R (.ok (.ret (.ref (zH4 s.heap l1 l2).objs.size))) {s with heap:=zH5 s.heap l1 l2}):=
 .of_wp fun prog w A R s h=>by
  obtain⟨hp,g,d,tk,os⟩:=s;obtain⟨hl1,hl2,h⟩:=h;have hsub:=sub_zip;have hL1:ma.IsList (aC.heap ⟨hp,g,d,tk,os⟩) l1 xs1:=hl1;have hL2:gY (aC.heap ⟨(hp.push {cls:=.type "list_iterator",data:=.fields #[.ref l1,.int 0 0]}),g,d,tk,os⟩) l2 xs2:=gY.push hl2 _
  wp_walk using gz hL1,iter_tuple hL2
  exact⟨_,rfl,h⟩
theorem ZkC(hl1:s.heap.IsList l1 xs1)(hl2:gY s.heap l2 xs2)(h:∀h',hO h' (s.heap.objs.size+4) (s.heap.objs.size+2) (s.heap.objs.size+3) .none->ZcB h' (s.heap.objs.size+2) [.ref s.heap.objs.size,.ref (s.heap.objs.size+1)]->ZcB h' (s.heap.objs.size+3) [.none,.none]->h'.IsListIter s.heap.objs.size l1 0->dF h' (s.heap.objs.size+1) l2 0->h'.objs.size=s.heap.objs.size+5->(∀c o,s.heap.get? c=some o->h'.get? c=some o)->Q (.ref (s.heap.objs.size+4)) {s with heap:=h'}):wpAny (aw prog w) A (call (.type "zip") [.ref l1,.ref l2]) Q E s:=by
 refine callType_new F.called_zip (by decide) (ZkB _ _) (Zm5 _ _) (fun obj=>Zit obj _ _) F.entry_zip_new
  (Zsv l1 l2 xs1 xs2) ⟨hl1,hl2,?_⟩
 have z1:(zH1 s.heap l1).objs.size=s.heap.objs.size+1:=cx ..;have z2:(zH2 s.heap l1 l2).objs.size=s.heap.objs.size+2:=by rw[cx,z1]
 have z3:(zH3 s.heap l1 l2).objs.size=s.heap.objs.size+3:=by rw[cx,z2]
 have z4:(zH4 s.heap l1 l2).objs.size=s.heap.objs.size+4:=by rw[cx,z3]
 have z5:(zH5 s.heap l1 l2).objs.size=s.heap.objs.size+5:=by rw[cx,z4]
 have g5:(zH5 s.heap l1 l2).get? (zH4 s.heap l1 l2).objs.size=some _:=az _ rfl;have g4:(zH5 s.heap l1 l2).get? (zH3 s.heap l1 l2).objs.size=some _:=Hq _ (az _ rfl);have g3:(zH5 s.heap l1 l2).get? (zH2 s.heap l1 l2).objs.size=some _:=Hq _ (Hq _ (az _ rfl));have g2:(zH5 s.heap l1 l2).get? (zH1 s.heap l1).objs.size=some _:=Hq _ (Hq _ (Hq _ (az _ rfl)));have g1:(zH5 s.heap l1 l2).get? s.heap.objs.size=some _:=Hq _ (Hq _ (Hq _ (Hq _ (az _ rfl))));show _/\_;rw[z2,z3,z4]at g5;rw[z1,z2]at g3;rw[z3]at g4;rw[z1]at g2;rw[z4];exact⟨⟨_,g5,rfl⟩,h _ g5 g3 g4 ⟨_,g1,rfl,rfl⟩ ⟨_,g2,rfl,rfl⟩ z5 fun c o x=>Hq _ (Hq _ (Hq _ (Hq _ (Hq _ (x)))))⟩
def Itz(K:Fg)(l1 l2:Addr):It:=
 ⟨fun i H=>∃xs1 xs2 v1 v2,SqL K H l1 xs1/\SqT K H l2 xs2/\xs1[i]?=some v1/\xs2[i]?=some v2,fun i H x H'=>∃p,H p=none/\(x=.ref p/\∀xs1 xs2 v1 v2,SqL K H l1 xs1->SqT K H l2 xs2->xs1[i]?=some v1->xs2[i]?=some v2->H'=upd H p (.tup [v1,v2])),fun i H=>∃xs1 xs2,SqL K H l1 xs1/\SqT K H l2 xs2/\(xs1.length<=i\/xs2.length<=i)⟩
theorem ZdR{K:Fg}(hB:B.handled=none){TI TO:Addr}(D:Ap z TI TO i1 i2 l1 l2):Turn P w K B (.Tuple elts k0 tp) (Itz K l1 l2) [z,TI,TO,i1,i2] z (fun i h=>hO h z TI TO .none/\ZcB h TI [.ref i1,.ref i2]/\(∃a1 a2,ZcB h TO [a1,a2])/\h.IsListIter i1 l1 i/\dF h i2 l2 i) where
 mem:=by simp
 obj:=fun i h st c hc=>by
  obtain⟨h1,h2,⟨a1,a2,h3⟩,⟨o1,e1,c1,d1⟩,⟨o2,e2,c2,d2⟩⟩:=st;simp only[ah,bw,or_false]at hc;rcases hc with rfl|rfl|rfl|rfl|rfl
  ·exact⟨_,h1,fun v q=>by cases q⟩
  ·exact⟨_,h2,fun v q=>by cases q⟩
  ·exact⟨_,h3,fun v q=>by cases q⟩
  ·exact⟨o1,e1,fun v q=>by rw[d1]at q;cases q⟩
  ·exact⟨o2,e2,fun v q=>by rw[d2]at q;cases q⟩
 keep:=fun i h h' st k=>by
  obtain⟨h1,h2,⟨a1,a2,h3⟩,t1,t2⟩:=st;exact⟨k z (by simp) _ h1,k TI (by simp) _ h2,⟨a1,a2,k TO (by simp) _ h3⟩,t1.at fun o q=>k i1 (by simp) o q,tat t2 fun o q=>k i2 (by simp) o q⟩
 item:=by
  intro X hP hw hK hA i pins s σ H E I hf st hg;subst hP hw hK hA;obtain⟨h1,h2,⟨a1,a2,h3⟩,t1,t2⟩:=st;obtain⟨xs1,xs2,v1,v2,q1,q2,m1,m2⟩:=hg;obtain⟨its1,rv1,p1,hz1⟩:=I.list q1;obtain⟨u1,hu1,ru1⟩:=rv1.get m1;obtain⟨its2,rv2,p2,hz2⟩:=I.tuple q2;obtain⟨u2,hu2,ru2⟩:=rv2.get m2;have lt:∀c∈[z,TI,TO,i1,i2],c<s.heap.objs.size:=fun c hc=>by
   simp only[ah,bw,or_false]at hc;rcases hc with rfl|rfl|rfl|rfl|rfl
   ·exact Hz h1
   ·exact Hz h2
   ·exact Hz h3
   ·obtain⟨o,e2,_⟩:=t1;exact Hz e2
   ·obtain⟨o,e2,_⟩:=t2;exact Hz e2
  refine Zm4 D h1 h2 h3 t1 t2 p1.isList p2 (x1:=u1) (x2:=u2) (by simpa using hu1) (by simpa using hu2) fun h' o1 o2 w1 w2 o5 o6 o7=>⟨_,rfl,?_⟩
  refine iW (s:={s with heap:=h'}) o1 fun h'' r1 r2=>?_;have pe:s.heap.objs.size≠z:=aO (lt z (by simp))
  obtain⟨J1,J2,J3⟩:=Zh8 (h':=h'') (t':=s.toks) (ch:=[z,TI,TO,i1,i2]) (vs:=[v1,v2]) (us:=[u1,u2]) I hf lt (.cons ru1 (.cons ru2 .nil)) (by show 2<=sizeLine;decide)
   (fun c o hc q=>by
    simp only[ah,bw,or_false,not_or]at hc;exact(r2.2 c hc.1).trans (o7 c o hc.1 hc.2.2.1 hc.2.2.2.1 hc.2.2.2.2 q)) ((r2.2 _ pe).trans o5)
  refine⟨.ref s.heap.objs.size,_,J1,rfl,⟨_,J2,rfl,fun xs1' xs2' v1' v2' s1 s2 n1 n2=>?_⟩,⟨r1,(r2.2 TI D.z_TI.symm).trans (o7 TI _ D.z_TI.symm D.TI_TO D.TI_i1 D.TI_i2 h2),⟨u1,u2,(r2.2 TO D.z_TO.symm).trans o2⟩,w1.at fun o q=>(r2.2 i1 D.z_i1.symm).trans q,tat w2 fun o q=>(r2.2 i2 D.z_i2.symm).trans q⟩,J3⟩;rw[I.list_inj s1 q1,m1]at n1;cases n1;rw[I.tuple_inj s2 q2,m2]at n2;cases n2;rfl
 done:=by
  intro X hP hw hK hA i pins s σ H E I hf st hg;subst hP hw hK hA;obtain⟨h1,h2,⟨a1,a2,h3⟩,t1,t2⟩:=st;obtain⟨xs1,xs2,q1,q2,hx⟩:=hg;obtain⟨its1,rv1,p1,hz1⟩:=I.list q1;obtain⟨its2,rv2,p2,hz2⟩:=I.tuple q2;have he:its1.toArray[i]?=none\/its2.toArray[i]?=none:=by
   rcases hx with hx|hx
   ·exact(.inl (by simp only[dJ];exact aJ (by rw[<-rv1.length];exact hx)))
   ·exact(.inr (by simp only[dJ];exact aJ (by rw[<-rv2.length];exact hx)))
  refine ZpF hB D h1 h2 h3 t1 t2 p1.isList p2 he fun h' keep=>⟨rfl,?_⟩;refine Zfq (t':=s.toks) (ch:=[z,TI,TO,i1,i2]) I (fun c o hc q=>?_) hf;simp only[ah,bw,or_false,not_or]at hc;exact keep c o hc.1 hc.2.2.1 hc.2.2.2.1 hc.2.2.2.2 q
 self:=fun A i s Q E st q=>wpAny_pyIter_zip st.1 q
theorem Zia{n:Nat}(h1:l1<n)(h2:l2<n):Ap (n+4) (n+2) (n+3) n (n+1) l1 l2:=⟨aO (by lia),aO (by lia),aO (by lia),aO (by lia),au (by lia),aO (by lia),aO (by lia),aO (by lia),aO (by lia),au (by lia),au (by lia),au (by lia),au (by lia),au (by lia),au (by lia),au (by lia),au (by lia),au (by lia)⟩
def Zst(K:Fg)(t:TA):TI:=fun σ H R=>t σ H fun vs H1=>∃l1 l2 xs1 xs2,vs=[.ref l1,.ref l2]/\SqL K H1 l1 xs1/\SqT K H1 l2 xs2/\R (Itz K l1 l2) H1
theorem Zib(hc:X.A.handled=none)(hg:Gl X "zip")(hm:X.mg "zip"=none)(ha:PA X [y1,y2] ta)(hs:autoParam (av [y1,y2] X.env=(false,eval y1 X.env)::av [y2] X.env) Qrf._auto_1)(hpl:autoParam ((cN pos (av [y2] X.env)).any (·.1)=false) Qrf._auto_1):
  PI X (.Tuple elts k0 tp) (.Call (.Name "zip" p) [y1,y2] [] pos) (Zst X.K ta):=by
 intro pins s σ H R I h;refine wpAny_Call_Name_kw (ZbA I hg hm ZlF (bV (thn (ha pos pins s σ H _ I h) fun us s1 ⟨vs,H1,I1,r1,q1⟩=>?_) hs hpl) (by decide) (by decide))
 obtain⟨l1,l2,xs1,xs2,rfl,hq1,hq2,q⟩:=q1;cases r1 with
 |cons ru1 rr1=>
 cases rr1 with
 |cons ru2 rr2=>
 cases rr2 with
 |nil=>
 cases ru1;cases ru2;obtain⟨its1,rv1,pl1,hz1⟩:=I1.list hq1;have lt1:l1<s1.heap.objs.size:=by obtain⟨_,e,_⟩:=pl1.isList;exact Hz e
 obtain⟨its2,rv2,pl2,hz2⟩:=I1.tuple hq2;have lt2:l2<s1.heap.objs.size:=by obtain⟨_,e,_⟩:=pl2;exact Hz e
 refine ZkC pl1.isList pl2 fun h' ez eti eto ei1 ei2 esz ek=>?_;have D:=Zia lt1 lt2;have T:=ZdR (P:=X.prog) (w:=X.w) (K:=X.K) (B:=X.A) (elts:=elts) (k0:=k0) (tp:=tp) hc D;have I2:Inv X pins σ H1 {s1 with heap:=h',toks:=s1.toks}:=I1.kept (t':=s1.toks) ek;refine T.self X.A 0 {s1 with heap:=h'} _ _ ⟨ez,eti,⟨_,_,eto⟩,ei1,ei2⟩ ⟨_,_,_,_,H1,rfl,I2,T,⟨ez,eti,⟨_,_,eto⟩,ei1,ei2⟩,fun c hc=>?_,q⟩;have hb':s1.heap.objs.size<=c:=by
  simp only[ah,bw,or_false]at hc;rcases hc with rfl|rfl|rfl|rfl|rfl<;>lia
 exact I1.fpOk hb' (I1.hok.fresh hb')
def iZt(fs:Av):Ro->Sto->Out Src:=fun ρ M=>(fs ρ M).bind fun ds M1=>match ds with|[.ref n,.tup es]=>.ok (.zipT n es) M1|_=>.bad
theorem Zdw(hc:X.A.handled=none)(hm:X.mg "zip"=none)(ha:DA X ξ [y1,y2] fs)(hg:autoParam (Gl X "zip") Qrf._auto_1)(hs:autoParam (av [y1,y2] X.env=(false,eval y1 X.env)::av [y2] X.env) Qrf._auto_1)(hpl:autoParam ((cN pos (av [y2] X.env)).any (·.1)=false) Qrf._auto_1):
  DI X ξ (.Tuple elts k0 tp) (.Call (.Name "zip" p) [y1,y2] [] pos) (iZt fs):=by
 obtain⟨ta,pa,qa⟩:=ha;refine⟨_,Zib hc hg hm pa hs hpl,fun σ ρ H α M R s hh q=>qa σ ρ H α M _ s hh (OG.seq q fun ds M1 vs H1 α1 e1 h1 r1 w1=>?_)⟩
 split at w1
 ·rename_i n es;cases r1 with
  |cons r t=>
   cases t with
   |cons r' t=>
    cases t;cases r with
    |@ref l1 _ hp=>
     have rr:=r';cases r' with
     |@tup l2 zs2 _ hp2 rp2=>
      obtain⟨zs1,g1⟩:=h1.some_at hp;refine⟨l1,l2,zs1,zs2,rfl,SqL.of g1,SqT.of hp2,w1 _ H1 α1 Ext.refl h1 fun i H' α' M' ex hr=>?_⟩;have rm:=Rep.mono ex rr;cases em:M'[n]? with
      |none=>rw[show nxt (.zipT n es) i M'=none by simp only[nxt,em]];exact dG
      |some so=>
       cases so with
       |lst es1=>
        obtain⟨xs1,g11,g21⟩:=hr.at (ex.get hp) em;cases rm with
        |@tup _ xs2 _ hp2' rp2'=>
         cases ei1:es1[i]? with
         |none=>
          rw[show nxt (.zipT n es) i M'=some none by simp only[nxt,em,ei1]]
          exact⟨xs1,xs2,SqL.of g11,SqT.of hp2',.inl (by rw[g21.length];exact aW.mp ei1)⟩
         |some d1=>
          cases ei2:es[i]? with
          |none=>
           rw[show nxt (.zipT n es) i M'=some none by simp only[nxt,em,ei1,ei2]]
           exact⟨xs1,xs2,SqL.of g11,SqT.of hp2',.inr (by rw[rp2'.length];exact aW.mp ei2)⟩
          |some d2=>
           obtain⟨v1,k11,k21⟩:=g21.get ei1;obtain⟨v2,k12,k22⟩:=rp2'.get ei2;rw[show nxt (.zipT n es) i M'=some (some (D.tup [d1,d2]))by simp only[nxt,em,ei1,ei2]]
           refine⟨⟨xs1,xs2,v1,v2,SqL.of g11,SqT.of hp2',k11,k12⟩,fun x H'' y=>?_⟩;obtain⟨pp,y1,rfl,y3⟩:=y;have y4:=y3 xs1 xs2 v1 v2 (SqL.of g11) (SqT.of hp2') k11 k12;subst y4;exact⟨Ext.new0 y1,hr.tup y1,.tup Zz (.cons (Rep.mono (Ext.new0 y1) k21) (.cons (Rep.mono (Ext.new0 y1) k22) .nil))⟩
     |_=>exact w1.elim
    |_=>exact w1.elim
 ·exact w1.elim
end DLy2
namespace PySem.SeqAt
open PySem.AutoSeq1 (wpAny_loadPart')
open MeetsSeq MeetsSeq2 MeetsSeq3 SeqRoads2
end PySem.SeqAt
namespace DL
open PyProof.Rows L2
open PySem.SeqAt
noncomputable def Zfs:List D->Option (List Int)
 |[]=>some []
 |.int i::r=>match Zfs r with|some is=>some (i::is)|none=>none
 |_::_=>none
theorem ZeP{K:Fg}{H:Hp}{α:List Addr}:∀{vs:List V}{ds:List D}{a:List Int},Reps K H α vs ds->Zfs ds=some a->vs=a.map V.int
 |_,_,a,.nil,e=>by cases e;rfl
 |_,_,a,.cons (d:=d) (ds:=ds) r t,e=>by
  cases r with
  |int i=>
   unfold Zfs at e
   split at e
   ·rename_i is e1;cases e;rw[ZeP t e1];rfl
   ·cases e
  |_=>cases e
section
variable {H:Hp}{α:List Addr}
theorem Ziu:∀{xs:List V}{us:List aa}{j:Nat}{u:aa},ZZ xs us->us[j]?=some u->∃x,xs[j]?=some x/\Z0 x u
 |[],us,j,u,h,e=>by cases h;simp at e
 |x::xs,us,j,u,h,e=>by
  cases h with
  |cons h1 h2=>
   cases j with
   |zero=>simp at e;subst e;exact⟨x,rfl,h1⟩
   |succ j=>simp at e;obtain⟨y,g1,g2⟩:=Ziu h2 e;exact⟨y,by simpa using g1,g2⟩
theorem Ziv{K:Fg}:∀{xs:List V}{ds:List D}{j:Nat}{x:V},Reps K H α xs ds->xs[j]?=some x->∃d,ds[j]?=some d/\Rep K H α x d
 |_,_,j,x,.nil,e=>by simp at e
 |_,_,0,x,.cons r _,e=>by simp at e;subst e;exact⟨_,rfl,r⟩
 |_,_,j+1,x,.cons _ t,e=>by
  obtain⟨d,g1,g2⟩:=Ziv (j:=j) t (by simpa using e)
  exact⟨d,by simpa using g1,g2⟩
end
end DL
namespace PySem
open PySem.Sem (wp)
end PySem
namespace DL
open PyProof.Rows L2
open PySem.SeqAt
end DL
namespace HT
open PyProof.Rows
section
open PySem.SeqAt
open PySem.AutoSeq1 (wpAny_loadPart')
open PySem.MeetsSeq PySem.MeetsSeq2 PySem.MeetsSeq3
end
end HT
namespace DL
open PyProof.Rows L2
end DL
namespace DL
open PyProof.Rows L2
end DL
namespace DL
open PyProof.Rows L2
end DL
namespace DL
open PyProof.Rows L2
theorem Zm6(nd:(d==f8)=false)(gd:s.heap.get? d=some od)(cd:od.cls=.type "dict")(ed:od.data=.dict es ep)(q:Q (.ref s.heap.objs.size) {s with heap:=s.heap.push {cls:=.type "dict_keyiterator",data:=.fields #[.ref d,.int 0 0,.int es.size 0,.int ep 0]}}):wpAny (aw prog w) A (pyIter (.ref d)) Q E s:=by
 have ty:s.TypeIs (.ref d) "dict":=⟨od,gd,cd⟩;have nm:¬(d==f8)=true:=by rw[nd];exact bT
 refine i5 ty F.slot_dict_iter (bY F.slot_dict_iter ty F.entry_dict_iter ?_ (F.args_dict_iter_1 _));unfold cV.«dict.__iter__» cV.Dict.dictSlotNone;refine Wb (Wb (wpAny_notOrdered_dict ty (show wpAny (aw prog w) _ (pure (aM d)) _ _ s from Wp ?_)));show wpAny (aw prog w) _ (jX d >>= _) _ _ s;unfold jX;rw[if_neg nm];refine Wb (Wp (Wb (i7 gd ed (Wb (jU gd ed (Wb (bD (Wp ⟨_,rfl,"dict_keyiterator",_,⟨_,az _ rfl,rfl⟩,F.slot_dict_keyiterator_next.lookup,?_⟩))))))))
 simpa [cQ]using q
theorem Ziw:cV.Dict_items.ownsTuple "dict_keyiterator"=false:=by decide
theorem ZpG(hi:s.heap.IsKeyIter it d i es.size ep)(gd:s.heap.get? d=some od)(ed:od.data=.dict es ep)(he:es[i]?=some e)(q:∀h',h'.IsKeyIter it d (i+1) es.size ep->dq it s.heap h'->Q (some e.key) {s with heap:=h'}):wpAny (aw prog w) A (eW (.ref it)) Q E s:=by
 obtain⟨oi,gi,ci,di⟩:=id hi;obtain⟨lt,ee⟩:=cR.mp he;have sl:=F.slot_dict_keyiterator_next;have n1:¬((aM d==a9)=true):=bT;have n2:¬((i:Int)<0):=by lia
 unfold eW;refine Wb (d8 (cu (name:=a7 "__next__") hi.typeIs sl (bY sl hi.typeIs F.entry_dict_keyiterator_next ?_ (F.args_dict_keyiterator_next_1 _))));refine Wb (Wp (Wb (Wb ?_)))
 first|refine Wb (dc hi.typeIs (Wp (Wb (iO gi di ?_))))|refine Wb (eE hi.typeIs (Wp (Wb (iO gi di ?_))))
 simp only[Ziw,aQ,if_false];show wpAny (aw prog w) _ (if(aM d==a9)=true then _ else _) _ _ s
 rw[if_neg n1];refine Wb (Wp (Wb (i7 gd ed ?_)));rw[if_neg (by simp)]
 refine Wb (Wp (Wb (jU gd ed ?_)));rw[if_neg (by simp)]
 refine Wp ?_;simp only[n2,if_false,bR,he];refine Wb ?_;have st:(s.heap.update it (dA (·.setIfInBounds 1 (cQ ((i:Int)+1))))).IsKeyIter it d (i+1) es.size ep:=⟨_,bh _ gi (cW (cK di _)),(gn ..).trans ci,by rw[cK di];simp[cQ]⟩
 first|refine Wb (dc hi.typeIs (Wp (Wb (gP hi.typeIs ?_))))|refine Wb (eE hi.typeIs (Wp (Wb (gP hi.typeIs ?_))))
 show wpAny (aw prog w) _ (setField (.ref it) 1 (cQ ((i:Int)+1)) >>= _) _ _ s;refine Wb (cO gi di (by simp) (Wb (wpAny_holding (Wb (gP (s:={s with heap:=s.heap.update it (dA (·.setIfInBounds 1 (cQ ((i:Int)+1))))}) st.typeIs ?_)))))
 show wpAny (aw prog w) _ (pure e.key) _ _ _;exact Wp (Wp ⟨_,rfl,Wp (q _ st (cF ..))⟩)
theorem ZpH(qq:DQ.ZaX A s.heap)(hi:s.heap.IsKeyIter it d i es.size ep)(gd:s.heap.get? d=some od)(ed:od.data=.dict es ep)(he:es[i]?=none):wpAny (aw prog w) A.in1 (cV.«dict_keyiterator.__next__» ⟨[.ref it],[]⟩) (fun _ _=>False) (DQ.ZfP it s) s:=by
 obtain⟨oi,gi,ci,di⟩:=id hi;have n1:¬((aM d==a9)=true):=bT;have n2:¬((i:Int)<0):=by lia
 refine Wb (Wp (Wb (Wb ?_)))
 first|refine Wb (dc hi.typeIs (Wp (Wb (iO gi di ?_))))|refine Wb (eE hi.typeIs (Wp (Wb (iO gi di ?_))))
 simp only[Ziw,aQ,if_false];show wpAny (aw prog w) _ (if(aM d==a9)=true then _ else _) _ _ s
 rw[if_neg n1];refine Wb (Wp (Wb (i7 gd ed ?_)));rw[if_neg (by simp)]
 refine Wb (Wp (Wb (jU gd ed ?_)));rw[if_neg (by simp)]
 refine Wp ?_;simp only[n2,if_false,bR,he];refine Wb ?_
 first|refine Wb (dc hi.typeIs (Wp ?_))|refine Wb (eE hi.typeIs (Wp ?_))
 show wpAny (aw prog w) _ (setField (.ref it) 0 .none >>= _) _ _ s;refine Wb (cO gi di (by simp) ?_)
 have q2:DQ.ZaX A.in1 (s.heap.update it (dA (·.setIfInBounds 0 a9))):=by
  rcases qq with qq|⟨ea,oe,vs,e1,e2,e3,e4⟩
  ·exact .inl qq
  ·refine .inr ⟨ea,oe,vs,e1,?_,e3,e4⟩;rw[aB _ _ (fun z=>?_)]
   ·exact e2
   ·rw[<-z,gi]at e2;cases e2;rw[di]at e3;cases e3;simp at e4
 refine DQ.Zbu q2 fun h' e k ho=>⟨e,rfl,ho,h',fun b o hb z=>k b o ?_,rfl⟩;rw[aB _ _ (bW hb)];exact z
theorem Zg8(qq:DQ.ZaX A s.heap)(hi:s.heap.IsKeyIter it d i es.size ep)(gd:s.heap.get? d=some od)(ed:od.data=.dict es ep)(he:es[i]?=none)(q:∀h',eK it s.heap h'->Q none {s with heap:=h'}):wpAny (aw prog w) A (eW (.ref it)) Q E s:=
 DQ.ZfQ hi.typeIs F.slot_dict_keyiterator_next F.entry_dict_keyiterator_next (F.args_dict_keyiterator_next_1 _) (ZpH qq hi gd ed he) q
end DL
namespace DL
open PyProof.Rows L2 PySem.W
theorem ZkD(lo:(d==f8)=false):KdlSrc prog w "dict" d d es.size (fun i v=>∃e:kP,es[i]?=some e/\v=e.key) (fun h=>∃o,h.get? d=some o/\o.cls=.type "dict"/\o.data=.dict es ep) where
 type:=fun _ ⟨o,e,c,_⟩=>⟨o,e,c⟩
 there:=fun _ ⟨o,e,_⟩=>⟨Hz e,Hz e⟩
 keep:=fun _ _ ⟨o,e,r⟩ hk=>⟨o,hk d (.inl rfl) o e,r⟩
 notList:=by decide
 notTuple:=by decide
 hint:=fun _ _ _ _ ⟨o,e,c,_⟩ hq=>kdl_hint_dict ⟨o,e,c⟩ hq
 iter:=fun A s hh ⟨o,e,c,dd⟩=>⟨_,fun i h=>h.IsKeyIter s.heap.objs.size d i es.size ep/\∃o,h.get? d=some o/\o.cls=.type "dict"/\o.data=.dict es ep,fun _ _ hq=>Zm6 lo e c dd hq,{
  sub:=fun b hb=>by simp at hb;simp[hb]
  frame:=fun _ _ _ st hk=>⟨st.1.at fun o e=>hk _ (by simp) o e,let ⟨o,e,r⟩:=st.2;⟨o,hk d (by simp) o e,r⟩⟩
  item:=fun i s' Q E hi st hQ=>by
   obtain⟨o',e',c',d'⟩:=st.2;have ne:d≠s.heap.objs.size:=au (Hz e);refine ZpG st.1 e' d' (dO hi) fun h' it' sb=>hQ _ h' s'.toks ⟨_,dO hi,rfl⟩ ⟨it',o',by rw[sb.2 d ne];exact e',c',d'⟩ fun b ob hb eb=>?_
   rw[sb.2 b (fun z=>hb (by simp[z]))]
   exact eb
  done:=fun s' Q E st hQ=>by
   obtain⟨o',e',c',d'⟩:=st.2;exact Zg8 (.inl hh) st.1 e' d' (by simp) fun h' he'=>hQ h' s'.toks fun b ob hb eb=>he' b ob (fun z=>hb (by simp[z])) eb
  self:=fun _ _ _ _ st hQ=>wpAny_pyIter_keyiter st.1 hQ},⟨_,az _ rfl,rfl,rfl⟩,o,Hq _ e,c,dd⟩
def ZjZ:List D->Option (List (List Key))
 |[]=>some []
 |d::r=>match kT d,ZjZ r with|some k,some ks=>some (k::ks)|_,_=>none
def kyU:D->Option (List (List Key))
 |.tup ds=>ZjZ ds
 |_=>none
theorem ZcI:∀{ds:List D}{ks:List (List Key)},ZjZ ds=some ks->ds=ks.map ZdM
 |[],ks,h=>by cases h;rfl
 |d::r,ks,h=>by
  unfold ZjZ at h
  split at h
  ·rename_i k ks' e1 e2;cases h;rw[aP,<-ZpC e1,<-ZcI e2]
  ·cases h
theorem ZeQ:∀(ks:List (List Key)),ZjZ (ks.map ZdM)=some ks
 |[]=>rfl
 |k::ks=>by rw[aP,ZjZ,Zky,ZeQ ks]
theorem Zm7(h:kyU d=some ks):d=ZmI ks:=by
 cases d with
 |tup ds=>rw[ZmI,<-ZcI h]
 |_=>cases h
theorem ZkE(ks:List (List Key)):kyU (ZmI ks)=some ks:=ZeQ ks
section
variable {K:Fg}{H:Hp}{α:List Addr}
theorem ZeR:∀{vs:List V}{ds:List D}{ks:List Key},Reps K H α vs ds->kKs ds=some ks->vs=ks.map kV
 |_,_,ks,.nil,e=>by cases e;rfl
 |_,_,ks,.cons (d:=d) (ds:=ds) r t,e=>by
  unfold kKs at e
  split at e
  ·rename_i k ks' e1 e2;cases e;rw[aP,ZeR t e2];congr 1;cases r with
   |int i=>cases e1;rfl
   |str x=>cases e1;rfl
   |_=>cases e1
  ·cases e
theorem Zdx:∀{xs:List V}{ds:List D}{ks:List (List Key)},Reps K H α xs ds->ZjZ ds=some ks->∃cs:List Addr,xs=cs.map V.ref/\Paired (fun(k:List Key) (c:Addr)=>H c=some (.tup (k.map kV))) ks cs
 |_,_,ks,.nil,h=>by cases h;exact⟨[],rfl,.nil⟩
 |_,_,ks,.cons (v:=v) (d:=d) (ds:=ds) r t,h=>by
  unfold ZjZ at h
  split at h
  ·rename_i k ks' e1 e2;cases h;obtain⟨cs,h1,h2⟩:=Zdx t e2;cases r with
   |@tup p xs ds' hb rb=>exact⟨p::cs,by rw[h1];rfl,.cons (by rw[hb,ZeR rb e1]) h2⟩
   |_=>cases e1
  ·cases h
theorem Zm8(r:Rep K H α (.ref b) d)(e:kyU d=some ks):Zay H ks b:=by
 cases r with
 |@tup p xs ds hb rb=>
  obtain⟨cs,h1,h2⟩:=Zdx rb e;exact⟨cs,by rw[hb,h1],h2⟩
 |_=>cases e
theorem Zft:∀(ks:List Key),Reps K H α (ks.map kV) (ks.map Zlp)
 |[]=>.nil
 |.inl i::ks=>.cons (.int i) (Zft ks)
 |.inr x::ks=>.cons (.str x) (Zft ks)
theorem ZeS:∀{ks:List (List Key)} {cs:List Addr},Paired (fun(k:List Key) (c:Addr)=>H c=some (.tup (k.map kV))) ks cs->Reps K H α (cs.map V.ref) (ks.map ZdM)
 |_,_,.nil=>.nil
 |_,_,.cons h t=>.cons (.tup h (Zft _)) (ZeS t)
theorem ZkF(h:Zay H ks b):Rep K H α (.ref b) (ZmI ks):=by
 obtain⟨cs,h1,h2⟩:=h;exact .tup h1 (ZeS h2)
theorem Zay.up(h:Zay H ks b)(ht:∀b ys,H b=some (.tup ys)->H' b=some (.tup ys)):Zay H' ks b:=by
 obtain⟨cs,h1,h2⟩:=h;exact⟨cs,ht _ _ h1,Paired.mapP h2 fun _ _ z=>ht _ _ z⟩
end
abbrev KU(H:Hp):List (List (List Key)×V)->List (List (List Key)×Addr×aa)->Prop:=Paired fun p q=>p.1=q.1/\Zay H p.1 q.2.1/\Z0 p.2 q.2.2
theorem KU.any(r:KU H kvs xs)(k:List (List Key)):(kvs.any fun kv=>decide (kv.1=k))=(atKey xs k).isSome:=by
 induction r with
 |nil=>rfl
 |@cons p q ps qs h t ih=>
  unfold atKey at ih ⊢;rw[lg,ih,jS,<-h.1];by_cases e:p.1=k
  ·simp[e]
  ·simp[e]
theorem KU.put(r:KU H kvs xs)(k:List (List Key))(hb:Zay H k b)(ry:Z0 y u):KU H (ZjY kvs k y) (storedH xs k b u):=by
 have e:=r.any k;unfold ZjY storedH;rw[e];by_cases q:(atKey xs k).isSome=true
 ·rw[if_pos q,if_pos q];clear e q
  induction r with
  |nil=>exact .nil
  |@cons p q ps qs h t ih=>
   rw[aP,aP];refine .cons ?_ ih;unfold putAt;by_cases c:p.1=k
   ·rw[if_pos c,if_pos (h.1.symm.trans c)];exact⟨h.1,h.2.1,ry⟩
   ·rw[if_neg c,if_neg (fun z=>c (h.1.trans z))];exact h
 ·rw[if_neg q,if_neg q];exact Paired.snoc r ⟨rfl,hb,ry⟩
theorem Zix(ok:HOk P w H h)(e:Zay H ks a):(ZcC (Zao P w)).is h ks a:=by
 obtain⟨cs,h1,h2⟩:=e;obtain⟨_,its,r,o,g1,g2,n,g3⟩:=(show ZaS P w H h a (.tup (cs.map V.ref))from ok a _ h1);refine⟨o,its.toArray,n,g1,g2,g3,?_⟩
 have:∀{ks:List (List Key)} {cs:List Addr} {vs:List aa},Paired (fun(k:List Key) (c:Addr)=>H c=some (.tup (k.map kV))) ks cs->ZZ (cs.map V.ref) vs->NK.ItemsT (Zao P w) h ks vs:=by
  intro ks cs vs q
  induction q generalizing vs with
  |nil=>intro z;cases z;exact .nil
  |cons hk _ ih=>
   intro z;cases z with
   |cons z1 z2=>
    cases z1;exact .cons (Zpc ok hk) (ih z2)
 simpa using this h2 r
theorem Zsw(ok:HOk P w H h)(e:H a=some (.dU kvs)):kvs.length<=sizeLine/\(a==f8)=false/\∃xs,KU H kvs xs/\h.DictOfH (ZcC (Zao P w)) a xs:=by
 obtain⟨z,y,xs,r,o,es,ep,h1,h2,h3,h4,h5⟩:=(show ZaS P w H h a (.dU kvs)from ok a _ e);refine⟨z,y,xs,r,o,es,ep,h1,h2,h3,h4,fun x hx=>?_,h5⟩;clear h4 h5 z e
 induction r with
 |nil=>cases hx
 |@cons p q ps qs hq t ih=>
  rcases ah.mp hx with z|hx
  ·subst z
   have:=Zix ok hq.2.1
   rw[hq.1]at this;exact this
  ·exact ih hx
section
variable {e:Expr}{pos:Pos}{tv:TE}
def tDNewU:TE:=fun _ H Q=>∀p,H p=none->Q (.ref p) (upd H p (.dU []))
theorem ZkG:PE X (.Dict [] [] pos) tDNewU:=fun pins s σ H Q I h=>
 wpAny_Dict_empty ⟨.ref s.heap.objs.size,_,I.laid (a:=s.heap.objs.size) (o:=.dU []) (t':=s.toks) (fun _ _ q=>Hq _ q) (ac _) ⟨dB _,beq_eq_false_iff_ne.mpr (bW (au I.big)),[],.nil,_,#[],0,az _ rfl,⟨rfl,rfl,rfl⟩,rfl,rfl,List.nodup_nil⟩,rfl,h _ (I.hok.fresh (ac _))⟩
noncomputable def eDnU:Ev:=fun _ M=>.ok (.du M.length) (M++[.lst []])
theorem ZpI:DE X ξ (.Dict [] [] pos) eDnU:=by
 refine⟨_,ZkG,fun σ ρ H α M Q s h q p hp=>?_⟩;have kn:Kn (upd H p (.dU [])) p=some 3:=by unfold Kn;rw[Zz]
 exact q (.ref p) _ (α++[p]) (Ext.new hp) (h.newO hp (.inr (.inr (.inr (.inr (.inr ⟨[],Zz,Zio⟩)))))) (.du ⟨h.last p,kn⟩)
def Zsx(td ty tv:TE):TS:=fun D σ H=>tv σ H fun v H1=>td σ H1 fun x H2=>ty σ H2 fun y H3=>∃a kvs k b,x=.ref a/\H3 a=some (.dU kvs)/\y=.ref b/\Zay H3 k b/\kvs.length<sizeLine/\D.nx σ (upd H3 a (.dU (ZjY kvs k v)))
theorem Zm9(hu:X.A.units+2<iC)(ho:PE X o td)(hi:PE X i ty)(hv:PE X e tv)(hs:iy e (some (.Subscript o i pos')) pos.line X.env=pure false):PS X (.Assign [.Subscript o i pos'] e pos) (Zsx td ty tv):=by
 intro pins s σ H D I h;refine wpAny_Assign_Subscript (thn (hv pins s σ H _ I h) fun r s1 ⟨v,H1,I1,rv,q1⟩=>thn (ho pins s1 σ H1 _ I1 q1) fun u s2 ⟨x,H2,I2,rx,q2⟩=>thn (hi pins s2 σ H2 _ I2 q2) fun iv s3 hz=>?_) hs;obtain⟨y,H3,I3,ry,a,kvs,k,b,ex,g1,ey,g2,l,q3⟩:=hz;subst ex ey;obtain rfl:u=aM a:=rx;obtain rfl:iv=aM b:=ry;obtain⟨z,hd,xs,rel,dd⟩:=Zsw I3.hok g1;have hz:xs.length<=sizeLine:=by rw[<-Paired.length rel];exact z
 have hl:(ZjY kvs k v).length<=sizeLine:=by have:=Zfk kvs k v;lia
 refine wpAny_setItem_heap (hsz:=hz) (knd:=ZcC (Zao X.prog X.w)) (by first|(show X.A.units+1+1<iC;lia)|(show X.A.units+1<iC;lia)) (Zix I3.hok g2) dd fun h' dd' hs=>⟨σ,_,?_,q3⟩
 obtain⟨q,es,ep,hq,h2,h3,h4,_,h5⟩:=dd';refine ZmH I3 (by rw[g1];exact dG) hs ⟨q,hq⟩ ⟨hl,hd,_,Paired.mapP (rel.put k g2 rv) fun p c t=>⟨t.1,Zay.up t.2.1 (fun c ys ec=>?_),t.2.2⟩,q,es,ep,hq,h2,h3,h4,h5⟩
 rw[ZF (ZrX ec g1 (fun z=>nomatch z))];exact ec
def ZkH(fo fi f:Ev):Sv:=fun ρ M=>Zav (f ρ M) fun d M1=>Zav (fo ρ M1) fun x M2=>Zav (fi ρ M2) fun k M3=>match x with
 |.du n=>(match kyU k,M3[n]? with|some kk,some (.lst ds)=>if ds.length<10000000 then .nx ρ (M3.set n (.lst (Zoo kyU kk k d ds)))else .bad|_,_=>.bad)
 |_=>.bad
theorem Zna(hu:X.A.units+64<iC)(ho:DE X ξ o fo)(hi:DE X ξ i fi)(he:DE X ξ e f)(hs:autoParam (iy e (some (.Subscript o i pos')) pos.line X.env=pure false) Qrf._auto_1):DS X ξ (.Assign [.Subscript o i pos'] e pos) (ZkH fo fi f):=by
 obtain⟨t,p,q⟩:=he;obtain⟨to,po,qo⟩:=ho;obtain⟨ti,pi,qi⟩:=hi;refine⟨_,Zm9 (by lia) po pi p hs,fun σ ρ H α M Dn s hh w=>q σ ρ H α M _ s hh (FP.seq w fun d M1 v H1 α1 e1 h1 r1 w1=>?_)⟩
 refine qo σ ρ H1 α1 M1 _ (s.mono e1) h1 (FP.seq w1 fun od M2 ov H2 α2 e2 h2 r2 w2=>?_);refine qi σ ρ H2 α2 M2 _ ((s.mono e1).mono e2) h2 (FP.seq w2 fun kd M3 kv H3 α3 e3 h3 r3 w3=>?_);have sr:=((s.mono e1).mono e2).mono e3;have rv:=Rep.mono e3 (Rep.mono e2 r1);cases Rep.mono e3 r2 with
 |@du a n hp=>
  cases e5:kyU kd with
  |none=>simp only[e5]at w3;exact w3.elim
  |some kk=>
   cases em:M3[n]? with
   |none=>simp only[e5,em]at w3;exact w3.elim
   |some so=>
    cases so with
    |lst ds=>
     simp only[e5,em]at w3;by_cases hl:ds.length<10000000
     ·simp only[if_pos hl]at w3;obtain⟨kvs,g1,g2⟩:=h3.atU hp em;have kn:Kn (upd H3 a (.dU (ZjY kvs kk v))) a=some 3:=by unfold Kn;rw[Zz]
      have ex:Ext X.K H3 (upd H3 a (.dU (ZjY kvs kk v))) α3 α3:=Ext.wrK hp.kn (fun _ _ z=>by rw[g1]at z;cases z) kn
      have eg:=Zip ZkE kk g2 rv;rw[<-Zm7 e5]at eg;obtain⟨b,rfl⟩:∃b,kv=.ref b:=by
       cases r3 with
       |@tup b xs ds' hb rb=>exact⟨b,rfl⟩
       |_=>cases e5
      refine⟨a,kvs,kk,b,rfl,g1,rfl,Zm8 r3 e5,by rw[Ziq g2];exact aj hl (by decide),?_⟩
      exact w3 σ _ α3 ex (h3.wrO hp.at' ex (.inr (.inr (.inr (.inr (.inr ⟨_,Zz,Zg6 eg ex⟩)))))) (sr.mono ex)
     ·simp only[if_neg hl]at w3;exact w3.elim
 |_=>exact w3.elim
theorem Zg9(hc:X.A.handled=none):ZbM X (.type "list") (fun xs H Q=>∃d kvs,xs=[.ref d]/\H d=some (.dU kvs)/\∀l (bs:List Addr),H l=none->Paired (fun(p:List (List Key)×V) (b:Addr)=>Zay H p.1 b) kvs bs->Q (.ref l) (upd H l (.lst (bs.map V.ref)))):=by
 intro pins s σ H xs us Q I r h;obtain⟨d,kvs,rfl,g,q⟩:=h;obtain⟨u,rfl,ru⟩:=ZcM r;cases ru;obtain⟨z,y,ys,rel,o,es,ep,h1,h2,h3,h4,h5⟩:=(show ZaS X.prog X.w H s.heap d (.dU kvs)from I.hok d _ g);have hl:es.size=kvs.length:=by rw[<-fI,h4,ay,Paired.length rel]
 refine kdl_call (ZkD (es:=es) (ep:=ep) y) hc ⟨o,h1,h2.1,h3⟩ (by rw[hl];exact z) fun h' tk acc c keep hS hacc=>?_
 have ea:acc=((ys.map fun x=>aM x.2.1):List aa).toArray:=by
  obtain⟨a1,a2⟩:=hacc;apply Array.ext';apply i6;intro j;rw[jY,bp];by_cases hj:j<acc.size
  ·obtain⟨en,e1,e2⟩:=a2 j _ (dO hj);rw[dO hj,e2];rw[<-jY,h4,bp]at e1;cases ey:ys[j]? with
   |none=>rw[ey]at e1;cases e1
   |some x=>rw[ey]at e1;cases e1;rfl
  ·rw[Array.getElem?_eq_none (by lia),aJ (by rw[<-Paired.length rel,<-hl,<-a1];lia)]
   rfl
 refine⟨.ref s.heap.objs.size,_,I.laid (t':=tk) (o:=.lst ((ys.map (·.2.1)).map V.ref)) keep (ac _) ⟨?_,ys.map fun x=>aM x.2.1,c,?_,by rw[ea]at hS;exact hS⟩,rfl,q _ (ys.map (·.2.1)) (I.hok.fresh (ac _)) ?_⟩
 ·rw[ay,ay,<-Paired.length rel];exact z
 ·have:∀l:List (List (List Key)×Addr×aa),ZZ ((l.map (·.2.1)).map V.ref) (l.map fun x=>aM x.2.1):=by
   intro l
   induction l with
   |nil=>exact .nil
   |cons a l ih=>exact .cons rfl ih
  exact this ys
 ·have:∀{a:List (List (List Key)×V)} {b:List (List (List Key)×Addr×aa)},KU H a b->Paired (fun(p:List (List Key)×V) (c:Addr)=>Zay H p.1 c) a (b.map (·.2.1)):=by
   intro a b q
   induction q with
   |nil=>exact .nil
   |cons h _ ih=>exact .cons h.2.1 ih
  exact this rel
noncomputable def Ziy:D->D|.tup [k,_]=>k|e=>e
def bLisU:W3:=fun ds M=>match ds with
 |[.du n]=>(match M[n]? with|some (.lst es)=>.ok (.ref M.length) (M++[.lst (es.map Ziy)])|none=>.bad)
 |_=>.bad
theorem Znb:CO X ξ (fun xs H Q=>∃d kvs,xs=[.ref d]/\H d=some (.dU kvs)/\∀l (bs:List Addr),H l=none->Paired (fun(p:List (List Key)×V) (b:Addr)=>Zay H p.1 b) kvs bs->Q (.ref l) (upd H l (.lst (bs.map V.ref)))) bLisU:=by
 intro H α M vs ds Q h rs q;unfold bLisU at q
 split at q
 ·rename_i n;cases rs with
  |cons r t=>
   cases t;cases r with
   |@du p _ hp=>
    cases em:M[n]? with
    |none=>rw[em]at q;exact q.elim
    |some so=>
     cases so with
     |lst es=>
      rw[em]at q;obtain⟨kvs,g1,es',rfl,g2⟩:=h.atU hp em;refine⟨p,kvs,rfl,g1,fun l bs hl pr=>?_⟩;refine q _ _ (α++[l]) (Ext.new hl) (h.new hl ?_) (.ref ⟨h.last l,Kn.lst Zz⟩)
      have:∀{kvs:List (List (List Key)×V)} {bs:List Addr} {es':List D},kvs.length=es'.length->Paired (fun(p:List (List Key)×V) (b:Addr)=>Zay H p.1 b) kvs bs->Reps X.K H α (bs.map V.ref) ((b8 (fun kv e=>D.tup [ZmI kv.1,e]) kvs es').map Ziy):=by
       intro kvs bs es' hz q
       induction q generalizing es' with
       |nil=>exact .nil
       |cons hq _ ih=>
        cases es' with
        |nil=>cases hz
        |cons e es'=>exact .cons (ZkF hq) (ih (by simpa using hz))
      exact this (by have:=g2.length;rw[ay]at this;exact this) pr
 ·exact q.elim
end
end DL
namespace DL
open PyProof.Rows L2 PySem.W
end DL
namespace DL
open PyProof.Rows L2 PySem.W
abbrev IsZ(h:Heap)(z TI TO:Addr)(f0:aa)(f1:Bool):Prop:=
 h.get? z=some {cls:=.type "zip",dict:=none,data:=.fields #[f0,.bool f1,.bool false,.ref TI,.ref TO],slots:= #[]}
section
variable {s:aC}
def ZSt(z TI TO i1 i2 l1 l2:Addr)(xs ys:Array aa)(i:Nat)(h:Heap):Prop:=
 ((hO h z TI TO .none/\∃a b,IsPair h TO a b)\/∃(T:Addr) (f1:Bool) (oT:Obj),IsZ h z TI TO (cQ T) f1/\h.get? T=some oT/\T≠z/\T≠i1/\T≠i2/\oT.cls=.type "tuple")/\IsPair h TI (.ref i1) (.ref i2)/\h.IsListIter i1 l1 i/\h.IsListIter i2 l2 i/\h.IsList l1 xs/\h.IsList l2 ys
theorem ZSt.type{TI TO:Addr}(st:ZSt z TI TO i1 i2 l1 l2 xs ys i s.heap):s.TypeIs (.ref z) "zip":=by
 rcases st.1 with⟨hz,_⟩|⟨T,f1,oT,hz,_⟩
 ·exact⟨_,hz,rfl⟩
 ·exact⟨_,hz,rfl⟩
theorem ZSt.iter{TI TO:Addr}(st:ZSt z TI TO i1 i2 l1 l2 xs ys i s.heap)(h:Q (.ref z) s):wpAny (aw prog w) A (pyIter (.ref z)) Q E s:=by
 have hT:=st.type;refine i5 hT F.slot_zip_iter (bY F.slot_zip_iter hT F.entry_zip_iter ?_ (F.args_zip_iter_1 _));show wpAny _ _ (ret (.ref z)) _ _ s;exact Wp ⟨_,rfl,"zip",_,hT,F.slot_zip_next.lookup,h⟩
end
end DL
namespace DL
open PyProof.Rows L2 PySem.W
noncomputable def Zsy(te:TE)(g1 g2:TG):TS:=fun D σ H=>te σ H fun x H1=>g1 x σ H1 fun σ' H2=>g2 x σ' H2 D.nx
theorem Znc(he:PE X e te)(h1:PG X t1 g1)(h2:PG X t2 g2)(hw:autoParam (eA [t1,t2] e X.env=pure none) Qrf._auto_1)(ha:autoParam ((bU [t1,t2] X.env).map (·.2)=[assign t1 X.env,assign t2 X.env]) Qrf._auto_1):PS X (.Assign [t1,t2] e pos) (Zsy te g1 g2):=by
 intro pins s σ H D I h;refine wpAny_Assign_two (thn (he pins s σ H _ I h) fun v s1 hz=>?_) ha hw;obtain⟨x,H1,I1,r1,q1⟩:=hz;exact thn (h1 pins s1 σ H1 x v _ I1 r1 q1) fun _ s2 ⟨σ2,H2,I2,q2⟩=>thn (h2 pins s2 σ2 H2 x v _ I2 r1 q2) fun _ s3 q=>q
noncomputable def ZrP(g1 g2:Tg):Tg:=fun d ρ=>match g1 d ρ with|some ρ1=>g2 d ρ1|none=>none
theorem Znd(he:DE X ξ e f)(h1:DG X t1 g1)(h2:DG X t2 g2)(hw:autoParam (eA [t1,t2] e X.env=pure none) Qrf._auto_1)(ha:autoParam ((bU [t1,t2] X.env).map (·.2)=[assign t1 X.env,assign t2 X.env]) Qrf._auto_1):DS X ξ (.Assign [t1,t2] e pos) (ZG (ZrP g1 g2) f):=by
 obtain⟨t,p,q⟩:=he;obtain⟨tt1,pt1,qt1⟩:=h1;obtain⟨tt2,pt2,qt2⟩:=h2;refine⟨_,Znc p pt1 pt2 hw ha,fun σ ρ H α M Dn s hh w=>q σ ρ H α M _ s hh (FP.seq w fun d M1 v H1 α1 e1 h1 r1 w1=>?_)⟩;unfold ZrP at w1;cases eg:g1 d ρ with
 |none=>simp only[eg]at w1;exact w1.elim
 |some ρ1=>
  simp only[eg]at w1;cases eh:g2 d ρ1 with
  |none=>simp only[eh]at w1;exact w1.elim
  |some ρ2=>
   simp only[eh]at w1;exact qt1 v d σ ρ H1 α1 ρ1 _ (s.mono e1) r1 eg fun σ' s'=>qt2 v d σ' ρ1 H1 α1 ρ2 _ s' r1 eh fun σ2 s2=>w1 σ2 H1 α1 Ext.refl h1 s2
end DL
namespace DL
open PyProof.Rows L2
section
variable {prog:cw}{w:cL}{A:cX}{E:Vp}{s:aC}
theorem Zne{it l:Addr}{vs:Array aa}(ne:l≠it)(n:Nat):∀(i:Nat)(s:aC)(Q:List aa->aC->Prop),s.heap.IsListIter it l i->s.heap.IsList l vs->i+n<=vs.size->(∀h',h'.IsListIter it l (i+n)->dq it s.heap h'->Q ((vs.toList.drop i).take n) {s with heap:=h'})->wpAny (aw prog w) A (draw (.ref it) n) Q E s:=by
 induction n with
 |zero=>
  intro i s Q hit hl le hQ;refine Wp ?_
  simpa using hQ s.heap hit (dq.refl ..)
 |succ n ih=>
  intro i s Q hit hl le hQ;have lt:i<vs.size:=by lia
  show wpAny _ _ (eW (.ref it) >>= _) Q E s;refine Wb (jE hit hl (x:=vs[i]) (by simp[lt]) fun g1 it1 s1=>?_)
  refine Wb (wpAny_holding (ih (i+1) _ _ it1 (hl.extBut s1.extBut ne) (by lia) fun g2 it2 s2=>Wp ?_))
  have e:vs.toList.drop i=vs[i]::vs.toList.drop (i+1):=by simp[dN,lt]
  have q:=hQ g2 (by rw[show i+(n+1)=i+1+n by lia];exact it2) (s1.trans s2)
  rw[e,il]at q;exact q
theorem Znf(hh:A.handled=none)(hl:s.heap.IsList l vs)(hQ:∀h',eK s.heap.objs.size s.heap h'->Q vs.toList {s with heap:=h'}):wpAny (aw prog w) A (unpackItems (.ref l) vs.size none) Q E s:=by
 have ne:l≠s.heap.objs.size:=by obtain⟨o,ho,_⟩:=hl;exact au (Hz ho)
 unfold unpackItems;refine Wb ?_;unfold notIterableAtAll;refine Wb (fV hl.typeIs slot_list_iter.lookup ?_);refine Wp ?_;simp only[aQ,if_false];refine Wb (wpAny_holding (gz hl ?_));refine Wb (wpAny_holding (Zne ne vs.size 0 _ _ ⟨_,az _ rfl,rfl,rfl⟩ (hl.push _) (by lia) fun g1 it1 s1=>?_))
 have e:List.take vs.size (List.drop 0 vs.toList)=vs.toList:=by
  rw[List.drop_zero];exact bS (by simp)
 rw[e,if_neg (by simp)]
 have hl1:g1.IsList l vs:=(hl.push _).extBut s1.extBut ne;refine Wb (wpAny_holding (wpAny_pyNext_list_end hh it1 hl1 (by simp) fun g2 e2=>?_))
 simp only[Option.isSome_none,aQ,if_false];exact Wp (hQ g2 fun b o hb q=>e2 b o hb (s1.extBut b o hb (Hq _ q)))
theorem Zng{x1}(hh:A.handled=none)(hl:s.heap.IsList l vs)(hn:(bU elts env).length=vs.size)(hst:(bU elts env).findIdx? (·.1)=none)(h:∀h',eK s.heap.objs.size s.heap h'->wpAny (aw prog w) A (assignInOrder ((bU elts env).map (·.2)) vs.toList) Q E {s with heap:=h'}) :
  wpAny (aw prog w) A (assign (.Tuple elts x1 pos) env (.ref l)) Q E s:=by
 rw[assign_Tuple];refine Wb (wpAny_standAt ?_);unfold unpack;rw[hn,hst];exact Wb (wpAny_holding (Znf hh hl h))
end
def Zsz(K:Fg)(n:Nat)(t:TGs):TG:=fun v σ H Q=>∃a xs,v=.ref a/\SqL K H a xs/\xs.length=n/\t xs σ H Q
theorem ZpJ(hc:X.calm=true)(h:PGs X es t)(hn:autoParam ((bU es X.env).length=n) Qrf._auto_1)(hst:autoParam ((bU es X.env).findIdx? (·.1)=none) Qrf._auto_1):PG X (.Tuple es k pos) (Zsz X.K n t):=by
 intro pins s σ H v u Q I r hw;obtain⟨a,xs,e1,hq,hl,hw⟩:=hw;subst e1;cases r;obtain⟨its,rv,pl,hz⟩:=I.list hq;refine Zng (I.ok.hd hc) pl.isList (by simp[hn,<-hl,rv.length]) hst fun h' hx=>?_
 have I1:Inv X pins σ H {s with heap:=h'}:=I.kept (t':=s.toks) fun b o e=>hx b o (au (Hz e)) e;exact h pins _ σ H xs _ Q I1 (by simpa using rv) hw
def ZkI(gs:Tgs)(f:Ev):Sv:=fun ρ M=>Zav (f ρ M) fun d M1=>match d with
 |.ref n=>(match M1[n]? with
  |some (.lst ds)=>(match gs ds ρ with|some ρ1=>.nx ρ1 M1|none=>.bad)
  |none=>.bad)
 |_=>.bad
theorem Znh(hc:X.calm=true)(he:DE X ξ e f)(hg:DGs X es gs)(hlen:∀ds ρ ρ',gs ds ρ=some ρ'->ds.length=n)(hn:autoParam ((bU es X.env).length=n) Qrf._auto_1)(hst:autoParam ((bU es X.env).findIdx? (·.1)=none) Qrf._auto_1)(hs:autoParam (fQ [.Tuple es k tp] e pos.line X.env=pure false) Qrf._auto_1)(hw:autoParam (eA [.Tuple es k tp] e X.env=pure none) Qrf._auto_1)(h1:autoParam ((bU [.Tuple es k tp] X.env).map (·.2)=[assign (.Tuple es k tp) X.env]) Qrf._auto_1):DS X ξ (.Assign [.Tuple es k tp] e pos) (ZkI gs f):=by
 obtain⟨t,p,q⟩:=he;obtain⟨tt,pt,qt⟩:=hg;refine⟨_,Zhr p (ZpJ hc pt hn hst) hs hw h1,fun σ ρ H α M Dn s hh w=>q σ ρ H α M _ s hh (FP.seq w fun d M1 v H1 α1 e1 h1 r1 w1=>?_)⟩;cases r1 with
 |@ref l n' hp=>
  cases em:M1[n']? with
  |none=>simp only[em]at w1;exact w1.elim
  |some so=>
   cases so with
   |lst ds=>
    cases eg:gs ds ρ with
    |none=>simp only[em,eg]at w1;exact w1.elim
    |some ρ1=>
     simp only[em,eg]at w1;obtain⟨xs,g1,g2⟩:=h1.at hp em;exact⟨l,xs,rfl,SqL.of g1,by rw[g2.length];exact hlen ds ρ ρ1 eg,qt xs ds σ ρ H1 α1 ρ1 _ (s.mono e1) g2 eg fun σ' s'=>w1 σ' H1 α1 Ext.refl h1 s'⟩
 |_=>exact w1.elim
end DL
namespace DL
open PyProof.Rows L2 PySem.W
noncomputable def Zop(e iter':Expr)(d:Nat)(it acc:aa)(env:Env):Sem Fin:=do
 let x <-eval iter' env
 standAt iter'.pos
 let x <-foldedSetIterable iter' env x
 let _ <-runOwn (.compStart e (d+1) (<-holding [x] (pyIter x)) acc env) env
 again (.compLoop e d it acc env)
theorem Ziz(elt t0 i0 t1 i1:Expr)(f0 f1:List Expr)(sc:gN)(pos:Pos)(it acc:aa)(env:Env):fm (.ListComp elt [⟨t0,i0,f0,0⟩,⟨t1,i1,f1,0⟩] sc pos) 0 it acc env=ZcA t0 i0 f0 it env (Zop (.ListComp elt [⟨t0,i0,f0,0⟩,⟨t1,i1,f1,0⟩] sc pos) i1 0 it acc env) (again (.compLoop (.ListComp elt [⟨t0,i0,f0,0⟩,⟨t1,i1,f1,0⟩] sc pos) 0 it acc env)):=by rfl
theorem ZiA(elt t0 i0 t1 i1:Expr)(f0 f1:List Expr)(sc:gN)(pos:Pos)(it acc:aa)(env:Env):fm (.ListComp elt [⟨t0,i0,f0,0⟩,⟨t1,i1,f1,0⟩] sc pos) 1 it acc env=ZcA t1 i1 f1 it env (Zfn (.ListComp elt [⟨t0,i0,f0,0⟩,⟨t1,i1,f1,0⟩] sc pos) elt 1 it acc env) (again (.compLoop (.ListComp elt [⟨t0,i0,f0,0⟩,⟨t1,i1,f1,0⟩] sc pos) 1 it acc env)):=by rfl
theorem ZiB(elt t0 i0 t1 i1 t2 i2:Expr)(f0 f1 f2:List Expr)(sc:gN)(pos:Pos)(it acc:aa)(env:Env):fm (.ListComp elt [⟨t0,i0,f0,0⟩,⟨t1,i1,f1,0⟩,⟨t2,i2,f2,0⟩] sc pos) 0 it acc env=ZcA t0 i0 f0 it env (Zop (.ListComp elt [⟨t0,i0,f0,0⟩,⟨t1,i1,f1,0⟩,⟨t2,i2,f2,0⟩] sc pos) i1 0 it acc env) (again (.compLoop (.ListComp elt [⟨t0,i0,f0,0⟩,⟨t1,i1,f1,0⟩,⟨t2,i2,f2,0⟩] sc pos) 0 it acc env)):=by rfl
theorem ZiC(elt t0 i0 t1 i1 t2 i2:Expr)(f0 f1 f2:List Expr)(sc:gN)(pos:Pos)(it acc:aa)(env:Env):fm (.ListComp elt [⟨t0,i0,f0,0⟩,⟨t1,i1,f1,0⟩,⟨t2,i2,f2,0⟩] sc pos) 1 it acc env=ZcA t1 i1 f1 it env (Zop (.ListComp elt [⟨t0,i0,f0,0⟩,⟨t1,i1,f1,0⟩,⟨t2,i2,f2,0⟩] sc pos) i2 1 it acc env) (again (.compLoop (.ListComp elt [⟨t0,i0,f0,0⟩,⟨t1,i1,f1,0⟩,⟨t2,i2,f2,0⟩] sc pos) 1 it acc env)):=by rfl
theorem ZiD(elt t0 i0 t1 i1 t2 i2:Expr)(f0 f1 f2:List Expr)(sc:gN)(pos:Pos)(it acc:aa)(env:Env):fm (.ListComp elt [⟨t0,i0,f0,0⟩,⟨t1,i1,f1,0⟩,⟨t2,i2,f2,0⟩] sc pos) 2 it acc env=ZcA t2 i2 f2 it env (Zfn (.ListComp elt [⟨t0,i0,f0,0⟩,⟨t1,i1,f1,0⟩,⟨t2,i2,f2,0⟩] sc pos) elt 2 it acc env) (again (.compLoop (.ListComp elt [⟨t0,i0,f0,0⟩,⟨t1,i1,f1,0⟩,⟨t2,i2,f2,0⟩] sc pos) 2 it acc env)):=by rfl
theorem Zfu(hd:gens[d]?=some ⟨target,iter,ifs,0⟩)(h0:eY (aw prog w) A (.compLoop (.ListComp elt gens scope pos) d it acc env) R s)(h:wpAny (aw prog w) A (pyIter it) (fun it' s'=>eY (aw prog w) A (.compLoop (.ListComp elt gens scope pos) d it' acc env) R s') (notedBy (aw prog w) A env fun x s'=>R (.error x) s') s):eY (aw prog w) A (.compStart (.ListComp elt gens scope pos) d it acc env) R s:=by
 have hc:(clausesOf (.ListComp elt gens scope pos))[d]?=some ⟨target,iter,ifs,0⟩:=hd;refine codeAny_of_tree ?_;show wpAny _ _ ((compStart (.ListComp elt gens scope pos) d it acc env).onRaise (fun x=>do kX x env;standAt theWindowsPlace)) _ _ s
 refine wpAny_notedAt ?_;unfold compStart;rw[hc];show wpAny _ _ (ask >>= _) _ _ s;refine Wb (wpAny_askSetting (wpAny_ite ?_));split
 ·first
   |exact Wb (Wp (Wp (kY rfl h0)))
   |exact Wp (kY rfl h0)
 ·first
   |exact Wb (wpAny_rule (Wb (wpAny_standAt (Wb (wpAny_mono h (fun it' s' h'=>Wp (kY rfl h')) fun _ _ x=>x)))))
   | (refine Wb (wpAny_rule ?_);show wpAny _ _ (standAt iter.pos >>= _) _ _ s;exact Wb (wpAny_standAt (Wb (wpAny_mono h (fun it' s' h'=>Wp (kY rfl h')) fun _ _ x=>x))))
def gIn(fi:Ro->Sto->Out Src)(tg:Tg)(c:Tv)(g:Ro->Sto->Out Ro):Ro->Sto->Out Ro:=fun ρ M=>match fi ρ M with
 |.ok src M1=>Zcw src tg c g (cnt src M1) 0 ρ M1
 |_=>.bad
theorem ZdT{D:Addr}{bd:aa->Sem Fin}(hd:gens[d0+1]?=some ⟨tg,iter,ifs,0⟩)(hct:∀it',fm (.ListComp elt gens scope pos) (d0+1) it' (.ref D) Y.env=ZcA tg iter ifs it' Y.env (bd it') (again (.compLoop (.ListComp elt gens scope pos) (d0+1) it' (.ref D) Y.env)))(hxe:∀x y,Y.xe x y->False)(hi:DI Y E0 tg iter fi)(hg:DG Y tg gt)(tst:DC Y ifs c)(hb:∀it':Addr,Zdu Y D n0 (.compLoop (.ListComp elt gens scope pos) (d0+1) (.ref it') (.ref D) Y.env) (bd (.ref it')) g)(hs:autoParam (∀x,foldedSetIterable iter Y.env x=pure x) Qin._auto_1) :
  Zdu Y D n0 (.compLoop (.ListComp elt gens scope pos) d0 (.ref it) (.ref D) Y.env) (Zop (.ListComp elt gens scope pos) iter d0 (.ref it) (.ref D) Y.env) (gIn fi gt c g):=by
 obtain⟨wi,pi,qi⟩:=hi;intro pins s σ ρ H α M ρ' M' I sr hr aD en;unfold gIn at en;cases ef:fi ρ M with
 |exc x9 M10=>rw[ef]at en;cases en
 |bad=>rw[ef]at en;cases en
 |ok src M1=>
  rw[ef]at en;simp only at en;have pv:=pi pins s σ H (fun J H2=>∃α2,Ext Y.K H H2 α α2/\HR Y.K H2 α2 M1/\Zol Y.K H2 α2 J src) I (qi σ ρ H α M _ sr hr (by
   rw[ef];exact fun J H2 α2 e h r=>⟨α2,e,h,r⟩))
  unfold Zop;refine Wb (wpAny_mono pv (fun x s1 w1=>?_) (fun x y z=>hxe x y z));refine Wb (wpAny_standAt (Wb (j7 (hs x) ?_)));refine Wb (wpAny_holding (wpAny_mono w1 (fun itv s2 w2=>?_) (fun x y z=>hxe x y z)));obtain⟨it',fp,tn,J,H2,rfl,I2,T,st2,f2,α2,e2,h2,sc⟩:=w2;have loop:eY (aw Y.prog Y.w) Y.A (.compLoop (.ListComp elt gens scope pos) (d0+1) (.ref it') (.ref D) Y.env) (fun r s'=>match r with|.ok f=>wpAny (aw Y.prog Y.w) Y.A (again (.compLoop (.ListComp elt gens scope pos) d0 (.ref it) (.ref D) Y.env)) (fun fin s'=>fin=.again (.compLoop (.ListComp elt gens scope pos) d0 (.ref it) (.ref D) Y.env)/\∃σ' H' α',Inv Y pins σ' H' s'/\Ext Y.K H H' α α'/\SR Y.K H' α' σ' ρ'/\HR Y.K H' α' M') (fun _ _=>False) s'|.error e=>cameBackBy (aw Y.prog Y.w) Y.A Y.env (fun _ _=>False) e s') s2:=by
   refine ZeF (hct (.ref it')) T hxe (fun{H'} hn b hb'=>⟨hn b hb',(f2 b hb').2⟩) hg tst (hb it') sc (e2.get aD) I2 st2 (fun b hb'=>(f2 b hb').1) (sr.mono e2) h2 en ?_;intro σ5 H5 α5 s6 I6 ex5 sr5 hr5;exact Wp ⟨rfl,σ5,H5,α5,I6,e2.trans ex5,sr5,hr5⟩
  refine Wb (wpAny_runOwn (h:=none) ?_);exact Zfu hd loop (T.self Y.A 0 _ _ _ st2 loop)
theorem ZkJ(B:Blk X scope cl N k fr)(hi:DI X ξ tg iter fi)(h:Blk X scope cl N k fr->∀C fp s H,DG (blk X scope cl N C fp s H) tg gt/\DC (blk X scope cl N C fp s H) ifs c/\DI (blk X scope cl N C fp s H) E0 tg1 iter1 fi1/\DG (blk X scope cl N C fp s H) tg1 gt1/\DC (blk X scope cl N C fp s H) ifs1 c1/\DE (blk X scope cl N C fp s H) E0 elt f)(hs:autoParam (∀x,foldedSetIterable iter X.env x=pure x) Qin._auto_1)(hs1:∀env x,foldedSetIterable iter1 env x=pure x:=by intro _ _;rfl):
  DE X ξ (.ListComp elt [⟨tg,iter,ifs,0⟩,⟨tg1,iter1,ifs1,0⟩] scope pos) (Zbd fi k fr gt c fun n=>gIn fi1 gt1 c1 (gEm f n)):=
 ZdQ B hi (fun C fp s H=>(h B C fp s H).1) (fun C fp s H=>(h B C fp s H).2.1) (Ziz elt tg iter tg1 iter1 ifs ifs1 scope pos) (fun C fp s H D n0 it=>let ⟨_,_,h1,h2,h3,h4⟩:=h B C fp s H;ZdT (bd:=fun it'=>Zfn (.ListComp elt [⟨tg,iter,ifs,0⟩,⟨tg1,iter1,ifs1,0⟩] scope pos) elt 1 it' (.ref D) (blk X scope cl N C fp s H).env) rfl (fun it'=>ZiA elt tg iter tg1 iter1 ifs ifs1 scope pos it' _ _) (fun _ _ z=>z) h1 h2 h3 (fun it'=>Zb3 (fun _ _ z=>z) h4) (hs1 _)) hs
theorem ZkK(B:Blk X scope cl N k fr)(hi:DI X ξ tg iter fi)(h:Blk X scope cl N k fr->∀C fp s H,DG (blk X scope cl N C fp s H) tg gt/\DC (blk X scope cl N C fp s H) ifs c/\DI (blk X scope cl N C fp s H) E0 tg1 iter1 fi1/\DG (blk X scope cl N C fp s H) tg1 gt1/\DC (blk X scope cl N C fp s H) ifs1 c1/\DI (blk X scope cl N C fp s H) E0 tg2 iter2 fi2/\DG (blk X scope cl N C fp s H) tg2 gt2/\DC (blk X scope cl N C fp s H) ifs2 c2/\DE (blk X scope cl N C fp s H) E0 elt f)(hs:autoParam (∀x,foldedSetIterable iter X.env x=pure x) Qin._auto_1)(hs1:∀env x,foldedSetIterable iter1 env x=pure x:=by intro _ _;rfl)(hs2:∀env x,foldedSetIterable iter2 env x=pure x:=by intro _ _;rfl):
  DE X ξ (.ListComp elt [⟨tg,iter,ifs,0⟩,⟨tg1,iter1,ifs1,0⟩,⟨tg2,iter2,ifs2,0⟩] scope pos) (Zbd fi k fr gt c fun n=>gIn fi1 gt1 c1 (gIn fi2 gt2 c2 (gEm f n))):=
 ZdQ B hi (fun C fp s H=>(h B C fp s H).1) (fun C fp s H=>(h B C fp s H).2.1) (ZiB elt tg iter tg1 iter1 tg2 iter2 ifs ifs1 ifs2 scope pos) (fun C fp s H D n0 it=>let ⟨_,_,h1,h2,h3,h4,h5,h6,h7⟩:=h B C fp s H;ZdT (bd:=fun it'=>Zop (.ListComp elt [⟨tg,iter,ifs,0⟩,⟨tg1,iter1,ifs1,0⟩,⟨tg2,iter2,ifs2,0⟩] scope pos) iter2 1 it' (.ref D) (blk X scope cl N C fp s H).env) rfl (fun it'=>ZiC elt tg iter tg1 iter1 tg2 iter2 ifs ifs1 ifs2 scope pos it' _ _) (fun _ _ z=>z) h1 h2 h3 (fun it'=>ZdT (bd:=fun it2=>Zfn (.ListComp elt [⟨tg,iter,ifs,0⟩,⟨tg1,iter1,ifs1,0⟩,⟨tg2,iter2,ifs2,0⟩] scope pos) elt 2 it2 (.ref D) (blk X scope cl N C fp s H).env) rfl (fun it2=>ZiD elt tg iter tg1 iter1 tg2 iter2 ifs ifs1 ifs2 scope pos it2 _ _) (fun _ _ z=>z) h4 h5 h6 (fun it2=>Zb3 (fun _ _ z=>z) h7) (hs2 _)) (hs1 _)) hs
end DL
namespace DL
open PyProof.Rows L2
end DL
namespace DL
open PyProof.Rows L2
end DL
namespace DL
open PyProof.Rows L2
def Its(lo c:Int)(n:Nat):It:=⟨fun i _=>i<n,fun i H x H'=>H'=H/\x=.int (lo+(i:Nat)*c),fun i _=>n<=i⟩
theorem ZiE{K:Fg}(it:Addr)(lo c:Int)(n:Nat):Turn P w K B tg (Its lo c n) [it] it (fun i h=>gj h it (lo+(i:Nat)*c) ((n:Int)-(i:Nat)) c) where
 mem:=by simp
 obj:=fun i h st b hb=>by
  have e:b=it:=by simpa using hb
  subst e;exact⟨_,st,fun v z=>by
   have z':j8 _=Data.cell v:=z;cases z'⟩
 keep:=fun i h h' st k=>k it (by simp) _ st
 item:=by
  intro X hP hw hK hB i pins s σ H E I hf st hg;subst hP hw hK;obtain⟨f0,f1,f2,f3,f4,f5⟩:=hf it (by simp)
  have hlt:i<n:=hg;refine jq st (by lia) fun h' st' sb=>?_
  have I1:Inv X pins σ H {s with heap:=h',toks:=s.toks+1}:=I.turned (fun b o hb e=>(sb.2 b hb).trans e) f0 f1 f3 f4 f5;have st2:gj h' it (lo+((i+1:Nat):Int)*c) ((n:Int)-((i+1:Nat):Int)) c:=by
   have e1:lo+((i+1:Nat):Int)*c=lo+(i:Nat)*c+c:=by rw[Int.natCast_add,Int.add_mul];simp;lia
   have e2:(n:Int)-((i+1:Nat):Int)=(n:Int)-(i:Nat)-1:=by lia
   rw[e1,e2];exact st'
  exact⟨_,rfl,Zj7 (s:={s with heap:=h',toks:=s.toks+1}) (n:="range_iterator") st2 rfl rfl (by decide) ⟨.int (lo+(i:Nat)*c),H,I1,⟨s.toks,rfl⟩,⟨rfl,rfl⟩,st2,fun b hb=>(hf b hb).1⟩⟩
 done:=by
  intro X hP hw hK hB i pins s σ H E I hf st hg;subst hP hw hK;obtain⟨f0,f1,f2,f3,f4,f5⟩:=hf it (by simp)
  exact DQ.Zei I.qh st (by have:n<=i:=hg;lia) fun h' eb=>⟨rfl,I.turned (t':=s.toks) (fun b o hb e=>eb b o hb e) f0 f1 f3 f4 f5⟩
 self:=fun _ _ _ _ _ st h=>jF st h
def stN(lo hi c:Int):Nat:=if lo<hi then((hi-lo-1)/c+1).toNat else 0
theorem Zni{lo:Int}(I:Inv X pins σ H s)(h1: -(2^62)<=lo)(h2:lo<2^62)(h3: -(2^62)<=hi)(h4:hi<2^62)(c1:1<=c)(c2:c<=1000)(q:R (Its lo c (stN lo hi c)) H):wpAny (aw X.prog X.w) X.A (pyIter (.ref s.heap.objs.size)) (PIE X pins σ tg R) E {s with heap:=s.heap.push {cls:=.type "range",data:=.fields #[.int lo t,.int hi u,.int c v]},toks:=tk}:=by
 have hdiv:∀z:Int,0<=z->0<=z/c/\z/c<=z:=fun z hz=>⟨Int.ediv_nonneg hz (by lia),Int.ediv_le_self _ hz⟩
 refine wpAny_pyIter_range (IsRange.new ..) ?_ ?_
 ·have cp:0<c:=by lia
  have e:(2:Int)^62=4611686018427387904:=by decide
  unfold cV.Range.small eH cV.Range.rangeFitsLong;rw[if_pos (show c>0 from cp)];by_cases z:lo<hi
  ·obtain⟨g1,g2⟩:=hdiv (hi-lo-1) (by lia)
   rw[if_pos z];have g3:(hi-lo-1)/c*c<=hi-lo-1:=Int.ediv_mul_le _ (by lia)
   generalize (hi-lo-1)/c=m at *;simp;refine⟨by lia,.inr ?_⟩
   rw[if_pos cp];lia
  ·rw[if_neg z];simp;lia
 have I1:Inv X pins σ H {s with heap:=s.heap.push {cls:=.type "range",data:=.fields #[.int lo t,.int hi u,.int c v]},toks:=tk}:=I.kept fun b o e=>Hq _ e;refine⟨(s.heap.push {cls:=.type "range",data:=.fields #[.int lo t,.int hi u,.int c v]}).objs.size,[(s.heap.push {cls:=.type "range",data:=.fields #[.int lo t,.int hi u,.int c v]}).objs.size],_,_,H,rfl,I1.kept (t':=tk) fun b o e=>Hq _ e,ZiE _ lo c (stN lo hi c),?_,fun b hb=>?_,q⟩
 ·have e1:lo+((0:Nat):Int)*c=lo:=by simp
  have e2:((stN lo hi c:Nat):Int)-((0:Nat):Int)=eH lo hi c:=by
   unfold stN eH;by_cases z:lo<hi
   ·have:=hdiv (hi-lo-1) (by lia)
    rw[if_pos z,if_pos (show c>0 by lia),if_pos z]
    lia
   ·rw[if_neg z,if_pos (show c>0 by lia),if_neg z]
    rfl
  show gj _ _ (lo+((0:Nat):Int)*c) (((stN lo hi c:Nat):Int)-((0:Nat):Int)) c;rw[e1,e2];exact az _ rfl
 ·have e:b=(s.heap.push {cls:=.type "range",data:=.fields #[.int lo t,.int hi u,.int c v]}).objs.size:=by simpa using hb
  subst e;exact I1.fpOk (ac _) (I1.hok.fresh (ac _))
def ZsA(ta:TA):TI:=fun σ H R=>ta σ H fun vs H1=>∃i j c:Int,vs=[.int i,.int j,.int c]/\(-(2^62)<=i/\i<2^62/\ -(2^62)<=j/\j<2^62/\1<=c/\c<=1000)/\R (Its i c (stN i j c)) H1
theorem ZiF(hg:Gl X "range")(hm:X.mg "range"=none)(ha:PA X [a,b,c] ta)(hs:autoParam (av [a,b,c] X.env=[(false,eval a X.env),(false,eval b X.env),(false,eval c X.env)]) Qrf._auto_1)(hs2:autoParam (av [b,c] X.env=[(false,eval b X.env),(false,eval c X.env)]) Qrf._auto_1) :
  PI X tg (.Call (.Name "range" p) [a,b,c] [] pos) (ZsA ta):=by
 intro pins s σ H R I h;refine Call_ (ZbA I hg hm boot_range (bV (thn (ha pos pins s σ H _ I h) fun us s1 ⟨vs,H1,I1,r1,q1⟩=>?_) (by rw[hs,hs2]) (by rw[hs2];rfl)))
 obtain⟨i,j,c,e,⟨q1,q2,q3,q4,q5,q6⟩,q⟩:=q1;subst e;cases r1 with
 |cons r rr=>
  cases rr with
  |cons r' rr=>
   cases rr with
   |cons r'' rr=>
    cases rr;obtain⟨t,rfl⟩:=r;obtain⟨t',rfl⟩:=r';obtain⟨t'',rfl⟩:=r'';exact call_range_3 (by lia) (Zni I1 q1 q2 q3 q4 q5 q6 q) (.inl (PyProof.noPylong_small (by lia)))
def ZiG(lo c:Int)(n:Nat):List D:=(aL n).map fun(i:Nat)=>D.int (lo+(i:Int)*c)
theorem ZkL{lo:Int}:(ZiG lo c n).length=n:=by simp[ZiG]
def iR3(fs:Av):Ro->Sto->Out Src:=fun ρ M=>(fs ρ M).bind fun ds M1=>match ds with
 |[.int i,.int j,.int c]=>if -(2^62)<=i/\i<2^62/\ -(2^62)<=j/\j<2^62/\1<=c/\c<=1000 then .ok (.pur (ZiG i c (stN i j c))) M1 else .bad
 |_=>.bad
theorem ZiH{K:Fg}{lo:Int}:Zol K H α (Its lo c n) (.pur (ZiG lo c n)):=by
 intro i H' α' M' ex hr;show match some (ZiG lo c n)[i]? with|some none=>_|some (some d)=>_|none=>True
 by_cases h:i<n
 ·have e:(ZiG lo c n)[i]?=some (.int (lo+(i:Int)*c)):=by simp[ZiG,h]
  rw[e];refine⟨h,fun x H'' y=>?_⟩;obtain⟨e1,e2⟩:=y;subst e1 e2;exact⟨Ext.refl,hr,.int _⟩
 ·rw[aJ (by rw[ZkL];lia)]
  exact jr h
theorem ZiI(hm:X.mg "range"=none)(ha:DA X ξ [a,b,c] fs)(hgl:autoParam (Gl X "range") Qrf._auto_1)(hs:autoParam (av [a,b,c] X.env=[(false,eval a X.env),(false,eval b X.env),(false,eval c X.env)]) Qrf._auto_1)(hs2:autoParam (av [b,c] X.env=[(false,eval b X.env),(false,eval c X.env)]) Qrf._auto_1):DI X ξ tg (.Call (.Name "range" p) [a,b,c] [] pos) (iR3 fs):=by
 obtain⟨ta,pa,qa⟩:=ha;refine⟨_,ZiF hgl hm pa hs hs2,fun σ ρ H α M R s hh q=>qa σ ρ H α M _ s hh (OG.seq q fun ds M1 vs H1 α1 e1 h1 r1 w1=>?_)⟩
 split at w1
 ·rename_i i j c;cases r1 with
  |cons r t=>
   cases t with
   |cons r' t=>
    cases t with
    |cons r'' t=>
     cases t;cases r;cases r';cases r'';by_cases z: -(2^62)<=i/\i<2^62/\ -(2^62)<=j/\j<2^62/\1<=c/\c<=1000
     ·simp only[if_pos z]at w1;exact⟨i,j,c,rfl,z,w1 _ H1 α1 Ext.refl h1 ZiH⟩
     ·simp only[if_neg z]at w1;exact w1.elim
 ·exact w1.elim
end DL
namespace DL
open L2
end DL
namespace DL
open PyProof.Rows L2 PySem.W
end DL
namespace PySem.SeqAt
open MeetsSeq MeetsSeq2 MeetsSeq3 SeqRoads2
end PySem.SeqAt
namespace DL
open PyProof.Rows L2 PySem.W
end DL
namespace ST
open PyProof.Rows
abbrev lt(a b:List Int):Bool:=HT.Zbg a b
def le(a b:List Int):Prop:=lt b a=false
theorem ZiJ:∀a:List Int,lt a a=false
 |[]=>rfl
 |x::r=>by
  show HT.Zbg (x::r) (x::r)=false;rw[HT.Z9,if_pos rfl];exact ZiJ r
theorem Znj:∀{a b c:List Int},lt a b=true->lt b c=true->lt a c=true
 |[],[],_,h,_=>by cases h
 |[],_::_,[],_,h=>by cases h
 |[],_::_,_::_,_,_=>rfl
 |_::_,[],_,h,_=>by cases h
 |_::_,_::_,[],_,h=>by cases h
 |x::a,y::b,z::c,h,g=>by
  show HT.Zbg (x::a) (z::c)=true;have h:HT.Zbg (x::a) (y::b)=true:=h;have g:HT.Zbg (y::b) (z::c)=true:=g;rw[HT.Z9]at h g ⊢;by_cases e1:x=y
  ·subst e1;rw[if_pos rfl]at h;by_cases e2:x=z
   ·rw[if_pos e2]at g ⊢;exact Znj h g
   ·rw[if_neg e2]at g ⊢;exact g
  ·rw[if_neg e1]at h;have h:=of_decide_eq_true h;by_cases e2:y=z
   ·subst e2;rw[if_neg e1];exact decide_eq_true h
   ·rw[if_neg e2]at g;have g:=of_decide_eq_true g;rw[if_neg (by lia)]
    exact decide_eq_true (by lia)
theorem ZeT:∀{a b:List Int},lt a b=false->lt b a=false->a=b
 |[],[],_,_=>rfl
 |[],_::_,h,_=>by cases h
 |_::_,[],_,h=>by cases h
 |x::a,y::b,h,g=>by
  have h:HT.Zbg (x::a) (y::b)=false:=h;have g:HT.Zbg (y::b) (x::a)=false:=g;rw[HT.Z9]at h g;by_cases e:x=y
  ·subst e;rw[if_pos rfl]at h g;rw[ZeT h g]
  ·rw[if_neg e]at h;rw[if_neg (bW e)]at g
   have:=of_decide_eq_false h
   have:=of_decide_eq_false g
   lia
theorem ZdU(a:List Int):le a a:=ZiJ a
theorem ZiK(h:lt a b=true):le a b:=by
 unfold le;cases e:lt b a with
 |false=>rfl
 |true=>have:=Znj h e;rw[ZiJ]at this;cases this
theorem Zha(h:le a b)(g:le b c):le a c:=by
 unfold le at *;cases e:lt c a with
 |false=>rfl
 |true=>
  cases e2:lt b a with
  |true=>rw[e2]at h;cases h
  |false=>
   cases e3:lt a b with
   |true=>rw[Znj e e3]at g;cases g
   |false=>
    have:=ZeT e3 e2
    subst this;rw[e]at g;cases g
theorem Zfv(h:lt a b=true)(g:le b c):lt a c=true:=by
 cases e:lt a c with
 |true=>rfl
 |false=>have:=Zha g e;unfold le at this;rw[h]at this;cases this
variable (kf:gQ->List Int)
noncomputable def ky(xs:Array gQ)(i:Nat):List Int:=match xs[i]? with|some p=>kf p|none=>[]
def Up(xs:Array gQ)(n:Nat):Prop:=∀i j,i<=j->j<n->le (ky kf xs i) (ky kf xs j)
def Dn(xs:Array gQ)(n:Nat):Prop:=∀i j,i<=j->j<n->le (ky kf xs j) (ky kf xs i)
variable {kf}
theorem ZiL{xs ys:Array gQ}{i j:Nat}(h:xs[i]?=ys[j]?):ky kf xs i=ky kf ys j:=by unfold ky;rw[h]
theorem ZiM{xs:Array gQ}{i j:Nat}(hj:j<=xs.size)(k:Nat):ky kf (jg xs i j ((j-i)/2)) k=if i<=k/\k<j then ky kf xs (i+j-1-k)else ky kf xs k:=by
 have g:=getElem?_mirror_all (i:=i) hj k;split
 ·rename_i c;rw[if_pos c]at g;exact ZiL g
 ·rename_i c;rw[if_neg c]at g;exact ZiL g
theorem Zae{xs:Array gQ}{i j:Nat}(hj:j<=xs.size)(hs:∀k,i<=k->k<j->ky kf xs k=ky kf xs (j-1))(k:Nat):ky kf (jg xs i j ((j-i)/2)) k=ky kf xs k:=by
 rw[ZiM hj];split
 ·rename_i c;rw[hs k c.1 c.2,hs (i+j-1-k) (by lia) (by lia)]
 ·rfl
theorem ZlI{xs:Array gQ}{p d:Nat}(hp:p<xs.size)(hd:d<=p)(k:Nat):ky kf (bubble xs p d) k=if k=p-d then ky kf xs p else if p-d<k/\k<=p then ky kf xs (k-1)else ky kf xs k:=by
 have g:=getElem?_bubble hp d hd k;by_cases c1:k=p-d
 ·rw[if_pos c1]at g ⊢;exact ZiL g
 ·rw[if_neg c1]at g ⊢;by_cases c2:p-d<k/\k<=p
  ·rw[if_pos c2]at g ⊢;exact ZiL g
  ·rw[if_neg c2]at g ⊢;exact ZiL g
structure Cm(M:Model) (A:cX) (E:Vp) (s:aC) (kf:gQ->List Int) (B:dP->Prop) (N:Nat):Prop where
 sz:∀st,B st->(arrOf st).size=N
 put:∀st xs,B st->xs.Perm (arrOf st)->B (setArr st xs)
 cmp:∀st i j (Q:Option Bool->dP->Prop),B st->i<N->j<N->Q (some (lt (ky kf (arrOf st) i) (ky kf (arrOf st) j))) st->wpS M A E s (ltAt' i j) Q st
section
variable {prog:cw}{w:cL}{A:cX}{E:Vp}{s:aC}{B:dP->Prop}{N:Nat}
theorem Up.more{xs:Array gQ}{n:Nat}(h:Up kf xs n)(h1:1<=n)(hl:le (ky kf xs (n-1)) (ky kf xs n)):Up kf xs (n+1):=by
 intro i j ij jn;by_cases c:j<n
 ·exact h i j ij c
 ·have:j=n:=by lia
  subst this;by_cases c2:i=j
  ·subst c2;exact ZdU _
  ·exact Zha (h i (j-1) (by lia) (by lia)) hl
theorem Dn.more{xs:Array gQ}{n:Nat}(h:Dn kf xs n)(h1:1<=n)(hl:le (ky kf xs n) (ky kf xs (n-1))):Dn kf xs (n+1):=by
 intro i j ij jn;by_cases c:j<n
 ·exact h i j ij c
 ·have:j=n:=by lia
  subst this;by_cases c2:i=j
  ·subst c2;exact ZdU _
  ·exact Zha hl (h i (j-1) (by lia) (by lia))
theorem ZpK(C:Cm (aw prog w) A E s kf B N){st:dP}{a n:Nat}{Q:AscSt->dP->Prop}(hn:n<=N)(ha:1<=a)(an:a<=n)(hB:B st)(hu:Up kf (arrOf st) a)(q:∀m,a<=m->m<=n->Up kf (arrOf st) m->(m=n\/lt (ky kf (arrOf st) m) (ky kf (arrOf st) (m-1))=true)->Q (none,m) st):wpS (aw prog w) A E s (ascLoop a n) Q st:=by
 unfold ascLoop;refine gG (fun x c t=>t=st/\c=(none,x)/\Up kf (arrOf st) x) (fun x c t ax xn hI=>?_) (fun c t hI=>?_) ⟨rfl,rfl,hu⟩
 ·obtain⟨rfl,rfl,h⟩:=hI;refine bG (C.cmp t x (x-1) _ hB (by lia) (by lia) ?_)
  cases z:lt (ky kf (arrOf t) x) (ky kf (arrOf t) (x-1))with
  |true=>exact cI (q x ax (by lia) h (.inr z))
  |false=>exact cI ⟨rfl,rfl,h.more (by lia) z⟩
 ·obtain⟨rfl,rfl,h⟩:=hI;rw[Nat.max_eq_right an]at h ⊢;exact q n an (ac _) h (.inl rfl)
theorem ZlJ(C:Cm (aw prog w) A E s kf B N){st:dP}{m n:Nat}{Q:Option Nat->dP->Prop}(hn:n<=N)(h1:1<=m)(mn:m<=n)(hB:B st)(hd:Dn kf (arrOf st) m)(q:∀m t,B t->1<=m->m<=n->Up kf (arrOf t) m->Q (some m) t):wpS (aw prog w) A E s (tail3 m n) Q st:=by
 have sz:=C.sz st hB;have hB':=C.put st (jg (arrOf st) 0 m ((m-0)/2)) hB (ku ..);refine bG (kx (bG (ZpK C hn h1 mn hB' (fun i j ij jm=>?_) fun k k1 k2 hu _=>cI (q k _ hB' (by lia) k2 hu))))
 show le (ky kf (jg (arrOf st) 0 m ((m-0)/2)) i) (ky kf (jg (arrOf st) 0 m ((m-0)/2)) j);rw[ZiM (by lia),ZiM (by lia),if_pos ⟨by lia,by lia⟩,if_pos ⟨by lia,jm⟩]
 exact hd _ _ (by lia) (by lia)
def Eqs(kf:gQ->List Int)(xs:Array gQ)(x e:Nat):Prop:=e+1<=x/\∀i,x-(e+1)<=i->i<x->ky kf xs i=ky kf xs (x-1)
theorem ZsB{xs:Array gQ}{x:Nat}(h:1<=x):Eqs kf xs x 0:=⟨by lia,fun i a b=>by rw[show i=x-1 by lia]⟩
theorem ZpL(C:Cm (aw prog w) A E s kf B N){st:dP}{m n:Nat}{Q:DescSt->dP->Prop}(hn:n<=N)(h1:1<=m)(mn:m<=n)(hB:B st)(hd:Dn kf (arrOf st) m)(q:∀x e t,B t->m<=x->x<=n->Dn kf (arrOf t) x->Eqs kf (arrOf t) x e->Q (none,x,e) t):wpS (aw prog w) A E s (descLoop m n) Q st:=by
 unfold descLoop;refine gG (fun x c t=>∃e,c=(none,x,e)/\B t/\Dn kf (arrOf t) x/\Eqs kf (arrOf t) x e) (fun x c t ax xn hI=>?_) (fun c t hI=>?_) ⟨0,rfl,hB,hd,ZsB h1⟩
 ·obtain⟨e,rfl,hB,hd,he⟩:=hI;have sz:=C.sz t hB;refine bG (C.cmp t x (x-1) _ hB (by lia) (by lia) ?_)
  cases z:lt (ky kf (arrOf t) x) (ky kf (arrOf t) (x-1))with
  |true=>
   have up1:=hd.more (by lia) (ZiK z)
   show wpS _ _ _ _ (if e>0 then _ else _) _ _
   by_cases c:e>0
   ·rw[if_pos c];refine bG (kx (cI ⟨0,rfl,C.put t _ hB (ku ..),fun i j ij jx=>?_,ZsB (by lia)⟩))
    show le (ky kf (jg (arrOf t) (x-(e+1)) x ((x-(x-(e+1)))/2)) j) (ky kf (jg (arrOf t) (x-(e+1)) x ((x-(x-(e+1)))/2)) i);rw[Zae (by lia) he.2,Zae (by lia) he.2]
    exact up1 i j ij jx
   ·rw[if_neg c];exact cI ⟨0,rfl,hB,up1,ZsB (by lia)⟩
  |false=>
   refine bG (C.cmp t (x-1) x _ hB (by lia) (by lia) ?_)
   cases z2:lt (ky kf (arrOf t) (x-1)) (ky kf (arrOf t) x)with
   |true=>exact cI (q x e t hB ax (by lia) hd he)
   |false=>
    have ee:ky kf (arrOf t) x=ky kf (arrOf t) (x-1):=ZeT z z2;refine cI ⟨e+1,rfl,hB,hd.more (by lia) z2,by have:=he.1;lia,fun i a b=>?_⟩
    rw[show x+1-1=x by lia]
    by_cases c:i=x
    ·rw[c]
    ·rw[ee];exact he.2 i (by lia) (by lia)
 ·obtain⟨e,rfl,hB,hd,he⟩:=hI;rw[Nat.max_eq_right mn]at hd he ⊢;exact q n e t hB mn (ac _) hd he
theorem ZlK(C:Cm (aw prog w) A E s kf B N){st:dP}{m n:Nat}{Q:Option Nat->dP->Prop}(hn:n<=N)(mn:m+1<=n)(hB:B st)(hd:Dn kf (arrOf st) (m+1))(q:∀m t,B t->1<=m->m<=n->Up kf (arrOf t) m->Q (some m) t):wpS (aw prog w) A E s (descPart m n) Q st:=by
 refine bG (wpS_lift (wpAny_rule ⟨rfl,bG (ZpL C hn (by lia) mn hB hd fun x e t hB hx xn hd he=>?_)⟩))
 have sz:=C.sz t hB;show wpS _ _ _ _ (if e>0 then _ else _) _ _
 by_cases c:e>0
 ·rw[if_pos c];refine bG (kx (ZlJ (m:=x) C hn (by lia) xn (C.put t _ hB (ku ..)) (fun i j ij jx=>?_) q))
  show le (ky kf (jg (arrOf t) (x-(e+1)) x ((x-(x-(e+1)))/2)) j) (ky kf (jg (arrOf t) (x-(e+1)) x ((x-(x-(e+1)))/2)) i);rw[Zae (by lia) he.2,Zae (by lia) he.2]
  exact hd i j ij jx
 ·rw[if_neg c];exact ZlJ (m:=x) C hn (by lia) xn hB hd q
theorem ZsC(C:Cm (aw prog w) A E s kf B N){st:dP}{n:Nat}{Q:Option Nat->dP->Prop}(hn:n<=N)(h1:1<=n)(hB:B st)(q:∀m t,B t->1<=m->m<=n->Up kf (arrOf t) m->Q (some m) t):wpS (aw prog w) A E s (countRun' 0 n) Q st:=by
 have sz:=C.sz st hB;rw[countRun0_eq];refine bG (ZpK C hn (ac 1) h1 hB (fun i j ij j1=>by rw[show i=j by lia];exact ZdU _) fun m m1 m2 hu ho=>?_)
 show wpS _ _ _ _ (if(m==n)=true then _ else _) _ _
 by_cases c:m=n
 ·rw[if_pos (by simpa using c)]
  exact cI (q m st hB m1 m2 hu)
 ·rw[if_neg (by simpa using c)]
  have hl:=ho.resolve_left c;by_cases c1:m>1
  ·rw[if_pos c1];refine bG (C.cmp st 0 (m-1) _ hB (by lia) (by lia) ?_)
   cases z:lt (ky kf (arrOf st) 0) (ky kf (arrOf st) (m-1))with
   |true=>exact cI (q m st hB m1 m2 hu)
   |false=>
    have al:∀k,0<=k->k<m->ky kf (arrOf st) k=ky kf (arrOf st) (m-1):=fun k _ km=>
     ZeT (Zha z (hu 0 k (by lia) km)) (hu k (m-1) (by lia) (by lia))
    refine bG (kx (ZlK C hn (by lia) (C.put st _ hB (ku ..)) (fun i j ij jx=>?_) q))
    show le (ky kf (jg (arrOf st) 0 m ((m-0)/2)) j) (ky kf (jg (arrOf st) 0 m ((m-0)/2)) i);rw[Zae (by lia) al,Zae (by lia) al]
    by_cases d:j<m
    ·rw[al i (by lia) (by lia),al j (by lia) d];exact ZdU _
    ·have:j=m:=by lia
     subst this;by_cases d2:i=j
     ·rw[d2];exact ZdU _
     ·rw[al i (by lia) (by lia)];exact ZiK hl
  ·rw[if_neg c1]
   have:m=1:=by lia
   subst this;refine ZlK C hn (by lia) hB (fun i j ij jx=>?_) q
   by_cases d2:i=j
   ·rw[d2];exact ZdU _
   ·rw[show i=0 by lia,show j=1 by lia];exact ZiK hl
theorem ZsD(C:Cm (aw prog w) A E s kf B N){st:dP}{n ok:Nat}{Q:Bool->dP->Prop}(hn:n<=N)(hk:ok<=n)(hB:B st)(hu:Up kf (arrOf st) ok)(q:∀t,B t->Up kf (arrOf t) n->Q true t):wpS (aw prog w) A E s (binarySort' 0 n ok) Q st:=by
 rw[binarySort'_eq];simp only[fB];refine bG (wpS_mono (gG (fun k c t=>c=(none,())/\B t/\Up kf (arrOf t) (min k n)) (Q:=fun c t=>c=(none,())/\B t/\Up kf (arrOf t) n) (fun k c t ak kn hI=>?_) (fun c t hI=>?_) ⟨rfl,hB,fun i j ij jn=>?_⟩) fun c t hI=>?_)
 ·obtain⟨rfl,hB,hu⟩:=hI;rw[ib (by lia)]at hu
  have sz:=C.sz t hB;have kN:k<N:=by lia
  refine bG (wpS_mono (gG (fun x c t'=>t'=t/\∃l r,c=(none,l,r)/\(l<=r/\r<=k/\r-l<=k-x)/\(∀i,i<l->le (ky kf (arrOf t) i) (ky kf (arrOf t) k))/\∀i,r<=i->i<k->lt (ky kf (arrOf t) k) (ky kf (arrOf t) i)=true) (Q:=fun c t'=>t'=t/\∃l r,c=(none,l,r)/\l<=k/\(∀i,i<l->le (ky kf (arrOf t) i) (ky kf (arrOf t) k))/\∀i,l<=i->i<k->lt (ky kf (arrOf t) k) (ky kf (arrOf t) i)=true) (fun x c t' _ xk hI=>?_) (fun c t' hI=>?_) ⟨rfl,0,k,rfl,by lia,fun i hi=>by lia,fun i a b=>by lia⟩) fun c t' hI=>?_)
  ·obtain⟨rfl,l,r,rfl,⟨lr,rk,hm⟩,lo,hi⟩:=hI;show wpS _ _ _ _ (if l ≥ r then _ else _) _ _
   by_cases c:l ≥ r
   ·rw[if_pos c]
    have:l=r:=by lia
    subst this;exact cI ⟨rfl,l,l,rfl,rk,lo,hi⟩
   ·rw[if_neg c];refine bG (C.cmp t' k ((l+r)/2) _ hB kN (by lia) ?_)
    cases z:lt (ky kf (arrOf t') k) (ky kf (arrOf t') ((l+r)/2))with
    |true=>exact cI ⟨rfl,l,(l+r)/2,rfl,by lia,lo,fun i a b=>Zfv z (hu _ _ a b)⟩
    |false=>exact cI ⟨rfl,(l+r)/2+1,r,rfl,by lia,fun i a=>Zha (hu i ((l+r)/2) (by lia) (by lia)) z,hi⟩
  ·obtain⟨rfl,l,r,rfl,⟨lr,rk,hm⟩,lo,hi⟩:=hI
   have:l=r:=by lia
   subst this;exact⟨rfl,l,l,rfl,rk,lo,hi⟩
  ·obtain⟨rfl,l,r,rfl,lk,lo,hi⟩:=hI;show wpS _ _ _ _ (moveDown' k l >>= fun _=>pure (ForInStep.yield (none,()))) _ _;rw[moveDown'_eq];refine bG (wpS_modify (cI ⟨rfl,C.put t' _ hB (bubble_perm ..),?_⟩));rw[ib (by lia)]
   intro i j ij jk;show le (ky kf (bubble (arrOf t') k (k-l)) i) (ky kf (bubble (arrOf t') k (k-l)) j);rw[ZlI (by lia) (by lia),ZlI (by lia) (by lia),show k-(k-l)=l by lia]
   by_cases i1:i=l
   ·rw[if_pos i1];by_cases j1:j=l
    ·rw[if_pos j1];exact ZdU _
    ·rw[if_neg j1,if_pos (by lia)];exact ZiK (hi _ (by lia) (by lia))
   ·rw[if_neg i1];by_cases i2:l<i/\i<=k
    ·rw[if_pos i2,if_neg (by lia),if_pos (by lia)];exact hu _ _ (by lia) (by lia)
    ·rw[if_neg i2];by_cases j1:j=l
     ·rw[if_pos j1];exact lo _ (by lia)
     ·rw[if_neg j1];by_cases j2:l<j/\j<=k
      ·rw[if_pos j2];exact hu _ _ (by lia) (by lia)
      ·rw[if_neg j2];exact hu _ _ (by lia) (by lia)
 ·obtain⟨rfl,hB,hu⟩:=hI;rw[show min (max (max ok 1) n) n=n by lia]at hu
  exact⟨rfl,hB,hu⟩
 ·by_cases c:ok=0
  ·rw[show i=j by lia];exact ZdU _
  ·exact hu i j ij (by lia)
 ·obtain⟨rfl,hB,hu⟩:=hI;exact cI (q t hB hu)
structure Cn(B:dP->Prop):Prop where
 fail:∀st,B st->kz st=none
 pend:∀st,B st->jt st= #[]
theorem ZpM(C:Cm (aw prog w) A E s kf B N)(D:Cn B){st:dP}{Q:Unit->dP->Prop}(h2:2<=N)(h64:N<64)(hB:B st)(q:∀t t',B t->arrOf t'=arrOf t->kz t'=none->Up kf (arrOf t) N->Q () t'):wpS (aw prog w) A E s sortRuns' Q st:=by
 rw[sortRuns'_eq];refine bG (lN ?_);have mr:minRun' N N 0=N:=by
  have:minRun' ((N-1)+1) N 0=N:=by rw[minRun'_succ,if_pos h64];rfl
  rwa [show N-1+1=N by lia]at this
 simp only[C.sz st hB,mr];refine bG (wpS_mono (gG (fun x c t=>(x=0/\c=(none,0)/\B t)\/(1<=x/\c=(none,N)/\∃t0,B t0/\t=gg t0 #[(0,N,0)]/\Up kf (arrOf t0) N)) (Q:=fun c t=>c=(none,N)/\∃t0,B t0/\t=gg t0 #[(0,N,0)]/\Up kf (arrOf t0) N) (fun x c t _ xN hI=>?_) (fun c t hI=>?_) (.inl ⟨rfl,rfl,hB⟩)) fun c t hI=>?_)
 ·rcases hI with⟨rfl,rfl,hB⟩|⟨x1,rfl,hD⟩
  ·show wpS _ _ _ _ (if 0 ≥ N then _ else _) _ _
   rw[if_neg (by lia)]
   simp only[Nat.sub_zero,jJ,fB];refine bG (ZsC C (ac _) (by lia) hB fun m t1 hB1 m1 m2 hu=>?_)
   have fin:∀t1,B t1->Up kf (arrOf t1) N->(jt t1).back?=none/\((0=0/\((none,N):Option Unit×Nat)=(none,0)/\B (gg t1 ((jt t1).push (0,N,0))))\/(1<=0+1/\((none,N):Option Unit×Nat)=(none,N)/\∃t0,B t0/\gg t1 ((jt t1).push (0,N,0))=gg t0 #[(0,N,0)]/\Up kf (arrOf t0) N)):=fun t1 hB1 hu=>by
    rw[D.pend t1 hB1];exact⟨rfl,.inr ⟨by lia,rfl,t1,hB1,rfl,hu⟩⟩
   show wpS _ _ _ _ (if m<N then _ else _) _ _
   by_cases c:m<N
   ·rw[if_pos c];refine bG (wpS_lift (wpAny_rule ⟨rfl,bG (ZsD C (ac _) m2 hB1 hu fun t2 hB2 hu2=>?_)⟩));simp only[el,aQ,if_false];refine bG (lN ?_);rw[(fin t2 hB2 hu2).1];refine bG (wpS_modify (cI (.inr ⟨by lia,rfl,t2,hB2,?_,hu2⟩)))
    rw[D.pend t2 hB2];rfl
   ·rw[if_neg c]
    have:m=N:=by lia
    subst this;refine bG (lN ?_);rw[(fin t1 hB1 hu).1];refine bG (wpS_modify (cI (.inr ⟨by lia,rfl,t1,hB1,?_,hu⟩)))
    rw[D.pend t1 hB1];rfl
  ·show wpS _ _ _ _ (if N ≥ N then _ else _) _ _
   rw[if_pos (ac _)];exact cI ⟨rfl,hD⟩
 ·rcases hI with⟨x0,_,_⟩|⟨_,hc,hD⟩
  ·lia
  ·exact⟨hc,hD⟩
 ·obtain⟨rfl,t0,hB0,rfl,hu⟩:=hI;refine bG (wpS_mono (gG (fun _ c t=>t=gg t0 #[(0,N,0)]/\c=(none,())) (Q:=fun c t=>t=gg t0 #[(0,N,0)]/\c=(none,())) (fun x c t _ _ hI=>?_) (fun _ _ h=>h) ⟨rfl,rfl⟩) fun c t hI=>?_)
  ·obtain⟨rfl,rfl⟩:=hI;refine bG (lN ?_);rw[if_pos (show(jt (gg t0 #[(0,N,0)])).size<=1 from ac 1)];exact cI ⟨rfl,rfl⟩
  ·obtain⟨rfl,rfl⟩:=hI;exact cI (q t0 _ hB0 rfl (D.fail t0 hB0) hu)
theorem ZiN(x y:aa):keyLt' (lO true) x y=(do
  let xs <-gH x
  let ys <-gH y
  for ((p,q),i)in (xs.toList.zip ys.toList).zipIdx do
   if !(<-eqBool p q)then return <-oneLt' (true&&i==0) p q
  return decide (xs.size<ys.size)):=rfl
noncomputable def ZpN(x:(aa×aa)×Nat)(_:Option Bool×Unit):Sem (ForInStep (Option Bool×Unit)):=match x with
 | ((p,q),i)=>do
  let b <-eqBool p q
  if(!b)=true then do
   let r <-oneLt' (true&&i==0) p q
   pure (ForInStep.done (some r,()))
  else pure (ForInStep.yield (none,()))
theorem ZiO{f:Bool}{a b:Int}{t u:Tok}{Q:Bool->aC->Prop}(h:Q (decide (a<b)) s):wpAny (aw prog w) A (oneLt' f (.int a t) (.int b u)) Q E s:=by
 cases f with
 |true=>exact oneLt_int h
 |false=>
  rw[oneLt'_eq];simp only[aQ,if_false];exact Wb (HT.Zkc _ _ _ _ _ _ _ _ _ _ (dX h))
theorem ZkM:∀{us vs:List aa}{ns ms:List Int},gr us ns->gr vs ms->∀(k:Nat)(Q:Option Bool×Unit->aC->Prop),(∀b,b=HT.Zbg ns ms->Q (some b,()) s)->(HT.Zbg ns ms=decide (us.length<vs.length)->Q (none,()) s)->wpAny (aw prog w) A (forIn ((us.zip vs).zipIdx k) (none,()) ZpN) Q E s:=by
 intro us vs ns ms hu
 induction hu generalizing vs ms with
 |nil=>
  intro hv k Q _ h2;simp only[List.zip_nil_left,ia,gB];refine Wp (h2 ?_);cases hv<;>simp[HT.Zbg]
 |@cons n t us ns hu ih=>
  intro hv k Q h1 h2;cases hv with
  |nil=>
   simp only[List.zip_nil_right,ia,gB];exact Wp (h2 (by simp[HT.Zbg]))
  |@cons m u vs ms hv=>
   rw[iF,js,f6];obtain⟨e,he,hi⟩:=HT.Zkb A s n t m u;refine Wb (Wb (he prog w _ _ ?_));cases e with
   |true=>
    have:n=m:=hi.mp rfl
    subst this;refine Wp (ih hv (k+1) Q (fun b hb=>h1 b ?_) fun z=>h2 ?_)
    ·rw[HT.Z9,if_pos rfl];exact hb
    ·rw[HT.Z9,if_pos rfl,z];simp
   |false=>
    have:n≠m:=fun z=>by have:=hi.mpr z;cases this
    refine Wb (ZiO (Wp (Wp (h1 _ ?_))));rw[HT.Z9,if_neg this]
def ZbP(h:Heap)(v:aa)(ns:List Int):Prop:=∃a o its n,v=.ref a/\h.get? a=some o/\o.cls=.type "tuple"/\o.data=.seq its n/\gr its.toList ns
theorem ZiP:∀{us:List aa}{ns ms:List Int},gr us ns->gr us ms->ns=ms:=by
 intro us ns ms h
 induction h generalizing ms with
 |nil=>intro g;cases g;rfl
 |cons n t h ih=>
  intro g;cases g with
  |cons _ _ g=>rw[ih g]
theorem ZbP.uniq{h:Heap}{v:aa}{ns ms:List Int}(a:ZbP h v ns)(b:ZbP h v ms):ns=ms:=by
 obtain⟨p,o,its,n,rfl,e1,e2,e3,e4⟩:=a;obtain⟨p',o',its',n',e5,f1,f2,f3,f4⟩:=b;cases e5;rw[e1]at f1;cases f1;rw[e3]at f3;cases f3;exact ZiP e4 f4
theorem ZsE{x y:aa}{ns ms:List Int}{Q:Bool->aC->Prop}(hx:ZbP s.heap x ns)(hy:ZbP s.heap y ms)(q:Q (HT.Zbg ns ms) s):wpAny (aw prog w) A (keyLt' (lO true) x y) Q E s:=by
 obtain⟨a,o,its,n,rfl,e1,e2,e3,e4⟩:=hx;obtain⟨b,o',its',n',rfl,f1,f2,f3,f4⟩:=hy;rw[ZiN];refine Wb (iq e1 e3 (Wb (iq f1 f3 ?_)));show wpAny _ _ (forIn ((its.toList.zip its'.toList).zipIdx 0) (none,()) ZpN >>= _) _ _ _;refine Wb (ZkM e4 f4 0 _ (fun b hb=>?_) fun z=>?_)
 ·rw[hb];exact Wp q
 ·show wpAny _ _ (pure (decide (its.size<its'.size))) _ _ _;rw[show decide (its.size<its'.size)=HT.Zbg ns ms by rw[z];simp]
  exact Wp q
open Classical in
def kfH(h:Heap)(p:gQ):List Int:=if e:∃ns,ZbP h p.1 ns then e.choose else[]
theorem ZlL{h:Heap}{p:gQ}{ns:List Int}(e:ZbP h p.1 ns):kfH h p=ns:=by
 unfold kfH;rw[dif_pos ⟨ns,e⟩];exact(Exists.choose_spec (⟨ns,e⟩:∃ns,ZbP h p.1 ns)).uniq e
structure TB(a₀:Array gQ) (st:dP):Prop where
 perm:(arrOf st).Perm a₀
 kind:kindOf st=lO true
 fail:kz st=none
 pend:jt st= #[]
theorem ZsF{a₀:Array gQ}(hk:∀p∈a₀.toList,∃ns,ZbP s.heap p.1 ns):Cm (aw prog w) A E s (kfH s.heap) (TB a₀) a₀.size where
 sz st h:=h.perm.size_eq
 put st xs h hp:=⟨hp.trans h.perm,h.kind,h.fail,h.pend⟩
 cmp st i j Q h hi hj q:=by
  have sz:=h.perm.size_eq;have gt:∀k,k<a₀.size->∃x p ns,(arrOf st)[k]?=some (x,p)/\ZbP s.heap x ns/\ky (kfH s.heap) (arrOf st) k=ns:=fun k kk=>by
   have kl:k<(arrOf st).size:=by lia
   have e:(arrOf st)[k]?=some (arrOf st)[k]:=getElem?_pos _ k kl;obtain⟨ns,ht⟩:=hk _ ((iP.mp h.perm).mem_iff.mp (show(arrOf st)[k]∈(arrOf st).toList by simp))
   refine⟨(arrOf st)[k].1,(arrOf st)[k].2,ns,e,ht,?_⟩;unfold ky;rw[e];exact ZlL ht
  obtain⟨x,p,ns,e1,t1,k1⟩:=gt i hi;obtain⟨y,p',ms,e2,t2,k2⟩:=gt j hj;rw[k1,k2]at q;rw[ltAt'_eq];refine bG (lN ?_);show wpS _ _ _ _ (elem' (arrOf st) i >>= fun x=>elem' (arrOf st) j >>= fun y=>lt' x y) Q st;rw[elem'_eq,elem'_eq,e1,e2];refine bG (cI (bG (cI ?_)));rw[lt'_eq];refine bG (lN ?_);rw[h.kind];exact bG (wpS_lift (d8 (ZsE t1 t2 ⟨rfl,cI q⟩)))
theorem ZsG{a₀:Array gQ}:Cn (TB a₀):=⟨fun _ h=>h.fail,fun _ h=>h.pend⟩
theorem Znk{v:aa}{n:Int}{ns:List Int}{Q:Option aa->aC->Prop}(h:ZbP s.heap v (n::ns))(q:∀t,Q (some (.int n t)) s):wpAny (aw prog w) A (lj v) Q E s:=by
 obtain⟨a,o,its,m,rfl,e1,e2,e3,e4⟩:=h;have e:lj (.ref a)=(do
  if(<-typeOf (.ref a)) != .type "tuple" then return none
  return (<-gH (.ref a))[0]?):=rfl
 rw[e];refine Wb (wpAny_typeOf ⟨o,e1,e2⟩ ?_);rw[if_neg (by decide)]
 refine Wb (iq e1 e3 (Wp ?_));cases its with
 |mk l=>
  cases e4 with
  |cons n t h=>exact q t
theorem Zgp:∀{vs:List aa},(∀v∈vs,∃n ns,ZbP s.heap v (n::ns))->∀(Q:List (Option aa)->aC->Prop),(∀us ns,gr us ns->us.length=vs.length->Q (us.map some) s)->wpAny (aw prog w) A (vs.mapM lj) Q E s
 |[],_,Q,q=>by
  rw[List.mapM_nil];exact Wp (q [] [] .nil rfl)
 |v::vs,h,Q,q=>by
  obtain⟨n,ns,hv⟩:=h v (by simp)
  rw[List.mapM_cons];refine Wb (Znk hv fun t=>Wb (Zgp (fun x hx=>h x (aA _ hx)) _ fun us ms hi hl=>Wp ?_));exact q (.int n t::us) (n::ms) (.cons n t hi) (by simp[hl])
theorem ZpO{vs:List aa}{Q:SortKind->aC->Prop}(h:∀v∈vs,∃n ns,ZbP s.heap v (n::ns))(ne:vs≠[])(q:Q (lO true) s):wpAny (aw prog w) A (keyKind' vs.toArray) Q E s:=by
 rw[keyKind'_eq,List.mapM_toArray];simp only[map_eq_pure_bind,bind_assoc,pure_bind];refine Wb (Zgp h _ fun us ns hi hl=>?_);have a1:((us.map some).toArray.all fun x=>x.isSome)=true:=by simp
 rw[if_pos a1];refine Wb (wpAny_rule ?_);have a2:(us.map some).toArray.filterMap id=us.toArray:=by simp
 rw[a2,oneTypeOnly'_eq,List.mapM_toArray,mapM_typeOf_ints hi];cases us with
 |nil=>exact absurd (da hl.symm) ne
 |cons u us=>
  simp only[map_pure,pure_bind];have b0:(lP (fun _=>bF "int") (u::us)).toArray[0]?=some (bF "int"):=by simp
  have b1:((lP (fun _=>bF "int") (u::us)).toArray.all fun x=>x==bF "int")=true:=by
   rw[List.all_toArray,List.all_map,eI];exact fun _ _=>rfl
  rw[b0];show wpAny _ _ (pure (if((lP (fun _=>bF "int") (u::us)).toArray.all fun x=>x==bF "int")=true then some (bF "int")else none) >>= _) _ _ _
  rw[if_pos b1];exact Wb (Wp (Wp q))
end
end ST
namespace ST
def ins(x:List Int):List (List Int)->List (List Int)
 |[]=>[x]
 |y::r=>if lt y x=true then y::ins x r else x::y::r
def srt:List (List Int)->List (List Int)
 |[]=>[]
 |x::r=>ins x (srt r)
theorem ZdV(x:List Int):∀l,(ins x l).Perm (x::l)
 |[]=>.refl _
 |y::r=>by
  unfold ins;split
  ·exact((ZdV x r).cons y).trans (.swap x y r)
  ·exact .refl _
theorem Zb6:∀l,(srt l).Perm l
 |[]=>.refl _
 |x::r=>(ZdV x (srt r)).trans ((Zb6 r).cons x)
theorem ZlM(x:List Int):∀l,l.Pairwise le->(ins x l).Pairwise le
 |[],_=>List.pairwise_singleton _ _
 |y::r,h=>by
  obtain⟨h1,h2⟩:=iQ.mp h;unfold ins;split
  ·rename_i c;refine iQ.mpr ⟨fun z hz=>?_,ZlM x r h2⟩;rcases ah.mp ((ZdV x r).mem_iff.mp hz)with rfl|hz
   ·exact ZiK c
   ·exact h1 z hz
  ·rename_i c;have c:le x y:=by unfold le;simpa using c
   refine iQ.mpr ⟨fun z hz=>?_,h⟩;rcases ah.mp hz with rfl|hz
   ·exact c
   ·exact Zha c (h1 z hz)
theorem ZiQ:∀l,(srt l).Pairwise le
 |[]=>.nil
 |x::r=>ZlM x _ (ZiQ r)
theorem ZkN(hp:a.Perm b)(h:a.Pairwise le):a=srt b:=
 List.Perm.eq_of_pairwise (fun x y _ _ h1 h2=>ZeT h2 h1) h (ZiQ b) (hp.trans (Zb6 b).symm)
end ST
namespace DL
open PyProof.Rows L2 PySem.W
theorem Zfw{F:α->β->Prop}{us us':List β}(hp:us'.Perm us):∀{xs:List α},Paired F xs us->∃xs',xs'.Perm xs/\Paired F xs' us':=by
 induction hp with
 |nil=>intro xs h;exact⟨xs,.refl _,h⟩
 |@cons a l1 l2 h ih=>
  intro xs r;cases r with
  |cons r1 r2=>
   obtain⟨xs',p1,p2⟩:=ih r2;exact⟨_::xs',p1.cons _,.cons r1 p2⟩
 |swap a b l=>
  intro xs r;cases r with
  |cons r1 r2=>
   cases r2 with
   |cons r2 r3=>exact⟨_::_::_,.swap _ _ _,.cons r2 (.cons r1 r3)⟩
 |trans h1 h2 i1 i2=>
  intro xs r;obtain⟨x1,p1,q1⟩:=i2 r;obtain⟨x2,p2,q2⟩:=i1 q1;exact⟨x2,p2.trans p1,q2⟩
def Zuv(K:Fg)(H:Hp)(x:V)(ns:List Int):Prop:=∃q,x=.ref q/\SqT K H q (ns.map V.int)
section
variable {X:Cx}
theorem Zgq(I:Inv X pins σ H s)(h:Zuv X.K H x ns)(r:Z0 x u):ST.ZbP s.heap u ns:=by
 obtain⟨q,rfl,hq⟩:=h;cases r;obtain⟨its,r2,⟨o,k1,k2,n,k3⟩,_⟩:=I.tuple hq;exact⟨q,o,its.toArray,n,rfl,k1,k2,k3,by simpa using Zg0 r2⟩
theorem ZiR:bB "sorted"=some (.builtin "sorted"):=by decide +kernel
def ZlN(ns:List Int):D:=.tup (ns.map D.int)
theorem Zb7:∀a:List Int,Zfs (a.map D.int)=some a
 |[]=>rfl
 |i::r=>by rw[aP,Zfs,Zb7 r]
theorem ZkO(h:ZlN a=ZlN b):a=b:=by
 have:Zfs (a.map D.int)=Zfs (b.map D.int):=by unfold ZlN at h;rw[D.tup.inj h]
 rw[Zb7,Zb7]at this;exact aN this
theorem ZiS(r:Rep X.K H α v (ZlN ns)):Zuv X.K H v ns:=by
 cases r with
 |tup hp rp=>
  have:=ZeP rp (Zb7 ns)
  subst this;exact⟨_,rfl,SqT.of hp⟩
end
end DL
namespace ST
open PyProof.Rows
section
variable {s:aC}{vs:List aa}
theorem Znl{st:dP}(ho:s.heap.get? a=some (bv "list" #[] e1))(hk:s.heap.get? kS=some (bv "list" keys e))(hka:kS≠a)(hsz:keys.size=vs.length)(h64:vs.length<64)(hp:(arrOf st).Perm (keys.zip vs.toArray))(hfl:kz st=none)(h:∀h' c,(∀b o,b≠a->b≠kS->s.heap.get? b=some o->h'.get? b=some o)->(∃o,h'.get? kS=some o)->h'.get? a=some (bv "list" ((arrOf st).map (·.2)) c)->P (.done (.ret .none)) {s with heap:=h'}):
  wpAny (aw prog w) A (ksk_tail a false e1 (.ref kS) st) P E s:=by
 have hsz2:(arrOf st).size=vs.length:=by rw[hp.size_eq,Array.size_zip,hsz,ao,jJ]
 have s1:=cF s.heap kS (bg fun _=>(#[]:Array aa));have na1:(s.heap.update kS (bg fun _=>(#[]:Array aa))).get? a=some (bv "list" #[] e1):=(s1.2 a hka.symm).trans ho;obtain⟨ck,hck⟩:∃ck,(s.heap.update kS (bg fun _=>(#[]:Array aa))).get? kS=some (bv "list" #[] ck):=⟨_,ic hk fun _=> #[]⟩;have s2:=cF (s.heap.update kS (bg fun _=>(#[]:Array aa))) a (bg fun _=>(arrOf st).map (·.2));obtain⟨c2,hc2⟩:∃c2,((s.heap.update kS (bg fun _=>(#[]:Array aa))).update a (bg fun _=>(arrOf st).map (·.2))).get? a=some (bv "list" ((arrOf st).map (·.2)) c2):=⟨_,ic na1 fun _=>(arrOf st).map (·.2)⟩;unfold ksk_tail
 try dsimp only
 refine Wb (jh hk rfl ?_ (by rw[hsz,c9];lia) (dB _))
 refine Wb (hU ?_);refine Wb (seqEpoch_at na1 rfl ?_);simp only[aQ,if_false];refine Wb (jh na1 rfl ?_ (dB _) (by rw[Array.size_map,hsz2,c9];lia))
 rw[hfl];simp only[bne_self_eq_false,aQ,if_false];refine Wp (h _ c2 (fun b o n1 n2 q=>?_) ⟨_,(s2.2 kS hka).trans hck⟩ hc2);exact(s2.2 b n1).trans ((s1.2 b n2).trans q)
theorem ZpP(ho:s.heap.get? a=some (bv "list" #[] e1))(hk:s.heap.get? kS=some (bv "list" keys e))(hka:kS≠a)(hsz:keys.size=vs.length)(h64:vs.length<64)(hu:∀u∈keys.toList,∃n ns,ZbP s.heap u (n::ns))(h:∀(out:List (aa×aa)) h' c,out.Perm (keys.toList.zip vs)->(∀i j (hi:i<out.length) (hj:j<out.length),i<=j->∀ns ms,ZbP s.heap out[i].1 ns->ZbP s.heap out[j].1 ms->le ns ms)->(∀b o,b≠a->b≠kS->s.heap.get? b=some o->h'.get? b=some o)->(∃o,h'.get? kS=some o)->h'.get? a=some (bv "list" (out.map (·.2)).toArray c)->P (.done (.ret .none)) {s with heap:=h'}):
  wpAny (aw prog w) A (ksk_end a false vs.toArray e1 (.ref kS) keys) P E s:=by
 have hzs:(keys.zip vs.toArray).size=vs.length:=by rw[Array.size_zip,hsz,ao,jJ]
 have fin:∀st':dP,(arrOf st').Perm (keys.zip vs.toArray)->kz st'=none->(∀i j,i<=j->j<vs.length->le (ky (kfH s.heap) (arrOf st') i) (ky (kfH s.heap) (arrOf st') j))->wpAny (aw prog w) A (ksk_tail a false e1 (.ref kS) st') P E s:=fun st' hp hf hs=>by
  refine Znl ho hk hka hsz h64 hp hf fun h' c k1 k2 k3=>?_;have hl:(arrOf st').toList.Perm (keys.toList.zip vs):=by
   have:=iP.mp hp
   rwa [ksk_zip]at this
  have lz:(arrOf st').size=vs.length:=by rw[hp.size_eq,hzs]
  refine h (arrOf st').toList h' c hl (fun i j hi hj ij ns ms t1 t2=>?_) k1 k2 (by
   have:(arrOf st').map (·.2)=((arrOf st').toList.map (·.2)).toArray:=by apply Array.toList_inj.mp;simp
   rw[<-this];exact k3)
  have hi':i<(arrOf st').size:=by simpa using hi
  have hj':j<(arrOf st').size:=by simpa using hj
  have kk:∀k (hk:k<(arrOf st').size) (ns:List Int),ZbP s.heap ((arrOf st')[k]).1 ns->ky (kfH s.heap) (arrOf st') k=ns:=fun k hk ns ht=>by
   unfold ky;rw[getElem?_pos (arrOf st') k hk];exact ZlL ht
  have q:=hs i j ij (by lia)
  rw[kk i hi' ns (by simpa using t1),kk j hj' ms (by simpa using t2)]at q
  exact q
 unfold ksk_end;simp only[aQ,if_false];by_cases h2:vs.toArray.size<2
 ·rw[if_pos h2,if_pos h2];refine Wb (Wp ?_);rw[StateT.run_pure];refine Wb (Wp ?_);rw[ao]at h2;exact fin (dP.mk' general' (keys.zip vs.toArray) #[] 7 none) (Array.Perm.refl _) rfl fun i j ij jn=>by rw[show i=j by lia];exact ZdU _
 ·rw[if_neg h2,if_neg h2];rw[ao]at h2;have ek:keys=keys.toList.toArray:=by simp
  have kw:wpAny (aw prog w) A (keyKind' keys) (fun k s'=>k=lO true/\s'=s) E s:=by
   rw[ek];exact ZpO hu (fun z=>by have:=congrArg List.length z;simp at this;rw[this]at hsz;simp at hsz;lia) ⟨rfl,rfl⟩
  refine Wb (wpAny_mono kw (fun k s' hk'=>?_) fun _ _ e=>e);obtain⟨rfl,rfl⟩:=hk';refine Wb (wpAny_mono (ZpM (N:=(keys.zip vs.toArray).size) (st:=dP.mk' (lO true) (keys.zip vs.toArray) #[] 7 none) (Q:=fun _ t'=>∃t,TB (keys.zip vs.toArray) t/\arrOf t'=arrOf t/\kz t'=none/\Up (kfH s'.heap) (arrOf t) (keys.zip vs.toArray).size) (ZsF fun p hp=>?_) ZsG (by rw[hzs];lia) (by rw[hzs];exact h64) ⟨Array.Perm.refl _,rfl,rfl,rfl⟩ fun t t' b1 b2 b3 b4=>⟨t,b1,b2,b3,b4⟩) ?_ fun _ _ e=>e)
  ·rw[ksk_zip]at hp;obtain⟨x,y⟩:=p;obtain⟨n,ns,ht⟩:=hu x (fZ hp).1;exact⟨_,ht⟩
  ·rintro⟨⟨⟩,t'⟩ s2 ⟨rfl,t,tb,ea,ef,hup⟩;rw[hzs]at hup;exact fin t' (by rw[ea];exact tb.perm) ef (by rw[ea];exact hup)
theorem Znm(J:List aa->aC->Prop)(ho:s.heap.get? a=some (bv "list" #[] e1))(hk:s.heap.get? kS=some (bv "list" #[] 0))(hka:kS≠a)(h64:vs.length<64)(hJ:J [] s)(turn:∀i v kL s' na ea nk ek,vs[i]?=some v->kL.length=i->J kL s'->s'.heap.get? a=some (bv "list" na ea)->s'.heap.get? kS=some (bv "list" nk ek)->wpAny (aw prog w) A (call f [v]) (fun u s''=>J (kL++[u]) s''/\s''.heap.get? a=some (bv "list" na ea)/\s''.heap.get? kS=some (bv "list" nk ek)) (fun _ _=>False) s')(upd:∀kL s' h',J kL s'->(∀b o,b≠kS->s'.heap.get? b=some o->h'.get? b=some o)->(∃o,h'.get? kS=some o)->J kL {s' with heap:=h'})(key:∀kL s',J kL s'->∀u∈kL,∃n ns,ZbP s'.heap u (n::ns))(h:∀kL s' (out:List (aa×aa)) h' c,J kL s'->kL.length=vs.length->out.Perm (kL.zip vs)->(∀i j (hi:i<out.length) (hj:j<out.length),i<=j->∀ns ms,ZbP s'.heap out[i].1 ns->ZbP s'.heap out[j].1 ms->le ns ms)->(∀b o,b≠a->b≠kS->s'.heap.get? b=some o->h'.get? b=some o)->(∃o,h'.get? kS=some o)->h'.get? a=some (bv "list" (out.map (·.2)).toArray c)->P (.done (.ret .none)) {s' with heap:=h'}) :
  wpAny (aw prog w) A (ksk_rest a f false vs.toArray e1 (.ref kS)) P E s:=by
 unfold ksk_rest;refine Wb (wpAny_rule ?_)
 first
  |rw[List.forIn_toArray]
  | (rw[<-eL];simp only[List.toList_toArray])
  |rw[<-eL]
 refine Wb (ksk_fold (fun i s'=>∃kA e,J kA.toList s'/\s'.heap.get? a=some (bv "list" #[] e1)/\s'.heap.get? kS=some (bv "list" kA e)/\kA.size=i) vs 0 s ⟨#[],0,hJ,ho,hk,rfl⟩ ?step ?done)
 case step=>
  rintro j x s' hx ⟨kA,e,hJ',ho',hk',hz⟩;rw[fB]at hz;have hj:j<vs.length:=(ar.mp hx).1;refine Wb (d8 (wpAny_mono (turn j x kA.toList s' _ _ _ _ hx (by simpa using hz) hJ' ho' hk') (fun u s'' he=>?_) fun _ _ hF=>hF.elim))
  obtain⟨g1,g2,g3⟩:=he
  try dsimp only
  have s1:=cF s''.heap kS (bg (·.push u));obtain⟨c2,hc2⟩:∃c2,(s''.heap.update kS (bg (·.push u))).get? kS=some (bv "list" (kA.push u) c2):=⟨_,ic g3 (·.push u)⟩;refine Wb (jh g3 rfl ?_ (by rw[hz,c9];lia) (aU (lQ (Array.size_push ..)) (by rw[c9];lia)))
  refine Wp ⟨rfl,kA.push u,c2,?_,(s1.2 a hka.symm).trans g2,hc2,by rw[Array.size_push,hz];lia⟩
  have ea:(kA.push u).toList=kA.toList++[u]:=by simp
  rw[ea];exact upd _ _ _ g1 (fun b o nb q=>(s1.2 b nb).trans q) ⟨_,hc2⟩
 case done=>
  rintro s' ⟨kA,e,hJ',ho',hk',hz⟩;rw[fB]at hz
  try dsimp only
  refine Wb (iq hk' rfl ?_);exact ZpP ho' hk' hka hz h64 (key _ _ hJ') fun out h' c k1 k2 k3 k4 k5=>h kA.toList s' out h' c hJ' (by simpa using hz) k1 k2 k3 k4 k5
theorem Znn(J:Addr->List aa->aC->Prop)(ho:s.heap.get? a=some (bv "list" vs.toArray n))(h64:vs.length<64)(hJ:∀kS h1,s.heap.objs.size<=kS->(∀b o,b≠a->s.heap.get? b=some o->h1.get? b=some o)->(∃o,h1.get? a=some o)->(∃o,h1.get? kS=some o)->J kS [] {s with heap:=h1})(turn:∀kS i v kL s' na ea nk ek,vs[i]?=some v->kL.length=i->J kS kL s'->s'.heap.get? a=some (bv "list" na ea)->s'.heap.get? kS=some (bv "list" nk ek)->wpAny (aw prog w) A (call f [v]) (fun u s''=>J kS (kL++[u]) s''/\s''.heap.get? a=some (bv "list" na ea)/\s''.heap.get? kS=some (bv "list" nk ek)) (fun _ _=>False) s')(upd:∀kS kL s' h',J kS kL s'->(∀b o,b≠kS->s'.heap.get? b=some o->h'.get? b=some o)->(∃o,h'.get? kS=some o)->J kS kL {s' with heap:=h'})(key:∀kS kL s',J kS kL s'->∀u∈kL,∃n ns,ZbP s'.heap u (n::ns))(h:∀kS kL s' (out:List (aa×aa)) h' c,J kS kL s'->kL.length=vs.length->out.Perm (kL.zip vs)->(∀i j (hi:i<out.length) (hj:j<out.length),i<=j->∀ns ms,ZbP s'.heap out[i].1 ns->ZbP s'.heap out[j].1 ms->le ns ms)->(∀b o,b≠a->b≠kS->s'.heap.get? b=some o->h'.get? b=some o)->(∃o,h'.get? kS=some o)->h'.get? a=some (bv "list" (out.map (·.2)).toArray c)->P (.done (.ret .none)) {s' with heap:=h'}) :
  wpAny (aw prog w) A (ksk_tree a f false) P E s:=by
 have ha:a<s.heap.objs.size:=Hz ho;have s1:=cF s.heap a (bg fun _=>(#[]:Array aa));obtain⟨e1,ho1⟩:∃e1,(s.heap.update a (bg fun _=>(#[]:Array aa))).get? a=some (bv "list" #[] e1):=⟨_,ic ho fun _=> #[]⟩;have hkS:((s.heap.update a (bg fun _=>(#[]:Array aa))).push (bv "tuple" vs.toArray 0)).objs.size=s.heap.objs.size+1:=by rw[lG,ma.size_update]
 unfold ksk_tree;refine Wb (iq ho rfl ?_);refine Wb (jh ho rfl ?_ (by rw[ao,c9];lia) (dB _))
 refine Wb (seqEpoch_at ho1 rfl ?_);refine Wb (wpAny_newTuple ?_ (by show vs.length<=_;rw[c9];lia))
 refine Wb (wpAny_newList ?_ (dB _));refine wpAny_holding ?_;have hn:=az ((s.heap.update a (bg fun _=>(#[]:Array aa))).push (bv "tuple" vs.toArray 0)) (o:=bv "list" #[] 0) rfl;exact Znm (s:={s with heap:=((s.heap.update a (bg fun _=>(#[]:Array aa))).push (bv "tuple" vs.toArray 0)).push (bv "list" #[] 0)}) (kS:=((s.heap.update a (bg fun _=>(#[]:Array aa))).push (bv "tuple" vs.toArray 0)).objs.size) (J _) (Hq _ (Hq _ ho1)) hn (by rw[hkS];exact aO (gA ha)) h64
  (hJ _ _ (by rw[hkS];exact lW _) (fun b o nb q=>Hq _ (Hq _ ((s1.2 b nb).trans q))) ⟨_,Hq _ (Hq _ ho1)⟩ ⟨_,hn⟩) (turn _) (upd _) (key _) (h _)
theorem ZiT(J:Addr->Addr->List aa->aC->Prop)(hl:s.heap.IsList l vs.toArray)(h64:vs.length<64)(hJ:∀a kS h1,s.heap.objs.size<=a->s.heap.objs.size<=kS->kS≠a->(∀b o,s.heap.get? b=some o->h1.get? b=some o)->(∃o,h1.get? a=some o)->(∃o,h1.get? kS=some o)->J a kS [] {s with heap:=h1})(turn:∀a kS i v kL s' na ea nk ek,vs[i]?=some v->kL.length=i->J a kS kL s'->s'.heap.get? a=some (bv "list" na ea)->s'.heap.get? kS=some (bv "list" nk ek)->wpAny (aw prog w) A.in1.in1 (call (.ref fq) [v]) (fun u s''=>J a kS (kL++[u]) s''/\s''.heap.get? a=some (bv "list" na ea)/\s''.heap.get? kS=some (bv "list" nk ek)) (fun _ _=>False) s')(upd:∀a kS kL s' h',J a kS kL s'->(∀b o,b≠kS->s'.heap.get? b=some o->h'.get? b=some o)->(∃o,h'.get? kS=some o)->J a kS kL {s' with heap:=h'})(key:∀a kS kL s',J a kS kL s'->∀u∈kL,∃n ns,ZbP s'.heap u (n::ns))(h:∀a kS kL s' (out:List (aa×aa)) h' c,J a kS kL s'->kL.length=vs.length->out.Perm (kL.zip vs)->(∀i j (hi:i<out.length) (hj:j<out.length),i<=j->∀ns ms,ZbP s'.heap out[i].1 ns->ZbP s'.heap out[j].1 ms->le ns ms)->(∀b o,b≠a->b≠kS->s'.heap.get? b=some o->h'.get? b=some o)->(∃o,h'.get? kS=some o)->h'.get? a=some (bv "list" (out.map (·.2)).toArray c)->Q (.ref a) {s' with heap:=h'}) :
  wpAny (aw prog w) A (call (.builtin "sorted") [.ref l] [(a7 "key",.ref fq)]) Q E s:=by
 refine call_function_entry_kw kind_sorted plain_sorted entry_sorted (ksk_s1 _ _) ?_;unfold cV.«sorted»;refine Wb (m:=checkCount "sorted" 1 1 _) (Wp ?_);refine Wb (collect_list hl ?_ (by rw[c9];lia))
 refine Wb (wpAny_newList ?_ (by rw[c9];lia))
 have hsz:((s.heap.push (bv "list" #[] 0)).update s.heap.objs.size (bg (· ++ vs.toArray))).objs.size=s.heap.objs.size+1:=by
  rw[ma.size_update,lG]
 have hoL:(((s.heap.push (bv "list" #[] 0)).update s.heap.objs.size (bg (· ++ vs.toArray))).push (bv "list" vs.toArray 0)).get? (s.heap.objs.size+1)=some (bv "list" vs.toArray 0):=by
  rw[<-hsz];exact az _ rfl
 have keep:∀b o,s.heap.get? b=some o->(((s.heap.push (bv "list" #[] 0)).update s.heap.objs.size (bg (· ++ vs.toArray))).push (bv "list" vs.toArray 0)).get? b=some o:=fun b o q=>by
  have hlt:b<s.heap.objs.size:=Hz q;rw[ma.get?_push_ne _ _ _ (by rw[hsz];exact au (gA hlt)),ma.get?_update_ne _ _ _ _ (au hlt),ma.get?_push_ne _ _ _ (au hlt)]
  exact q
 show wpAny _ _ _ _ _ {s with heap:=((s.heap.push (bv "list" #[] 0)).update s.heap.objs.size (bg (· ++ vs.toArray))).push (bv "list" vs.toArray 0)};rw[hsz];refine Wb (wpAny_holding (wpAny_call_entry_kw slot_list_sort ⟨_,hoL,rfl⟩ entry_list_sort ?body (ksk_l1 _ _)))
 case body=>
  show wpAny (aw prog w) A.in1.in1 (cV.«list.sort» ⟨[.ref (s.heap.objs.size+1)],[(a7 "key",.ref fq)]⟩) _ _ _;rw[ksk_t1];have h2:(((s.heap.push (bv "list" #[] 0)).update s.heap.objs.size (bg (· ++ vs.toArray))).push (bv "list" vs.toArray 0)).objs.size=s.heap.objs.size+2:=by rw[lG,hsz]
  refine Znn (J (s.heap.objs.size+1)) (s:={s with heap:=((s.heap.push (bv "list" #[] 0)).update s.heap.objs.size (bg (· ++ vs.toArray))).push (bv "list" vs.toArray 0)}) hoL h64
   (fun kS h1 k1 k2 k3 k4=>by
    have k1':s.heap.objs.size+2<=kS:=by rw[<-h2];exact k1
    exact hJ _ kS h1 (lW _) (aU (Nat.le_add_right _ 2) k1') (aO k1') (fun b o q=>k2 b o (au (gA (Hz q))) (keep b o q)) k3 k4) (turn _) (upd _) (key _) fun kS kL s' out h' c g1 g2 g3 g4 g5 g6 g7=>⟨_,rfl,?_⟩
  exact Wp ⟨_,rfl,h _ kS kL s' out h' c g1 g2 g3 g4 g5 g6 g7⟩
end
end ST
namespace DL
open PyProof.Rows L2
def Zoq(K:Fg)(v:aa)(c P:Addr):Prop:=v=.ref c/\c≠P/\∃(o:Obj) (vs:Array aa) (file:Str) (tf:Tok) (flags:Int) (tg:Tok) (inF:Bool) (text:Int) (tt:Tok),K.lookup c=some o/\o.cls=.type "code"/\o.data=.fields vs/\vs[11]?=some (.ref P)/\vs.getD 11 .none=.ref P/\vs.getD 18 .none=.str file tf/\vs.getD 7 .none=.int flags tg/\vs.getD 9 .none=.bool inF/\vs.getD 10 .none=.int text tt
def ZsH(K:Fg):Prop:=∃bm o,PySem.W.nsIn K aI "__builtins__"=some (some (.ref bm))/\K.lookup bm=some o/\o.cls=.type "module"/\o.dict=some f9/\o.data=.plain/\bm≠f9/\bm≠aI
noncomputable def ZpQ(c:Addr)(vs:Array aa):Bool:=match(vs[11]? :Option aa)with
 |some (.ref P)=>(match vs.getD 11 .none with
  |.ref P'=>(match vs.getD 18 .none with
   |.str _ _=>(match vs.getD 7 .none with
    |.int _ _=>(match vs.getD 9 .none with
     |.bool _=>(match vs.getD 10 .none with
      |.int _ _=>decide (P=P')&&decide (c≠P)
      |_=>false)
     |_=>false)
    |_=>false)
   |_=>false)
  |_=>false)
 |_=>false
def ZeU(K:Fg)(v:aa):Bool:=match v with
 |.ref c=>(match K.lookup c with
  |some ⟨.type n,_,.fields vs,_⟩=>decide (n="code")&&ZpQ c vs
  |_=>false)
 |_=>false
theorem ZkP{K:Fg}(h:ZeU K v=true):∃c P,Zoq K v c P:=by
 unfold ZeU at h
 split at h
 ·rename_i c
  split at h
  ·rename_i n od vs sl e;simp only[aT,decide_eq_true_eq]at h;obtain⟨rfl,h⟩:=h;unfold ZpQ at h
   split at h
   ·rename_i P e1
    split at h
    ·rename_i P' e2
     split at h
     ·rename_i f tf e3
      split at h
      ·rename_i fl tg e4
       split at h
       ·rename_i b e5
        split at h
        ·rename_i tx tt e6;simp only[aT,decide_eq_true_eq]at h;obtain⟨rfl,ne⟩:=h;exact⟨c,P,rfl,ne,_,vs,_,_,_,_,_,_,_,e,rfl,rfl,e1,e2,e3,e4,e5,e6⟩
        ·cases h
       ·cases h
      ·cases h
     ·cases h
    ·cases h
   ·cases h
  ·cases h
 ·cases h
theorem Zoq.tb{K:Fg}(h:Zoq K v c P):TbP K P:=by
 obtain⟨_,_,o,vs,_,_,_,_,_,_,_,e1,e2,e3,e4,_⟩:=h;exact⟨c,o,vs,e1,e2,e3,e4⟩
theorem Zoq.hd{K:Fg}(x:Zoq K v c P)(k:K.In h):PySem.W.CodeHd h c P:=by
 obtain⟨_,ne,o,vs,file,tf,flags,tg,inF,text,tt,e1,e2,e3,e4,e5,e6,e7,e8,e9⟩:=x;exact⟨o,vs,file,tf,flags,tg,inF,text,tt,k _ _ e1,e2,e3,e4,e5,e6,e7,e8,e9,ne⟩
theorem ZeV{pos:Pos}{c:aa}{r:List aa}:∀(l:List aa),iu l->fv pos (l++r)=some c->fv pos l=some c\/fv pos r=some c
 |[],_,h=>.inr h
 |.int i t::.int j u::x::rest,ht,h=>by
  have ih:=ZeV (pos:=pos) (c:=c) (r:=r) rest ht;simp only[bC,fv]at h ⊢;by_cases q:(i == ↑pos.line&&j == ↑pos.col)=true
  ·rw[if_pos q]at h ⊢;exact .inl h
  ·rw[if_neg q]at h ⊢;exact ih h
 |[.int _ _],ht,_=>ht.elim
 |[.int _ _,.int _ _],ht,_=>ht.elim
theorem ZeW{pos:Pos}{c:aa}{r:List aa}:∀(l:List aa),iu l->fv pos l=some c->fv pos (l++r)=some c
 |[],_,h=>by cases h
 |.int i t::.int j u::x::rest,ht,h=>by
  have ih:=ZeW (pos:=pos) (c:=c) (r:=r) rest ht;simp only[bC,fv]at h ⊢;by_cases q:(i == ↑pos.line&&j == ↑pos.col)=true
  ·rw[if_pos q]at h ⊢;exact h
  ·rw[if_neg q]at h ⊢;exact ih h
 |[.int _ _],ht,_=>ht.elim
 |[.int _ _,.int _ _],ht,_=>ht.elim
theorem ZcV{r:List aa}:∀(l:List aa),iu l->iu r->iu (l++r)
 |[],_,h=>h
 |.int i t::.int j u::x::rest,ht,h=>ZcV rest ht h
 |[.int _ _],ht,_=>ht.elim
 |[.int _ _,.int _ _],ht,_=>ht.elim
noncomputable abbrev Zj0(qual:Str)(params:Arguments)(body:Expr)(scope:gN)(cl:List (Str×Addr))(pm:aa)(c':Addr)(ctv:aa):Obj:=PySem.W.kla_obj "<lambda>" qual params body scope cl pm c' ctv
theorem ZsI(hP:H P=some (.tbl ps))(hc:H c'=none)(e:∀b,b≠P->b≠c'->H' b=H b):(∀K α,Ext K H H' α α)/\∀K α M,HR K H α M->HR K H' α M:=by
 have k:∀b u,H b=some u->(∀q,u≠ .tbl q)->H' b=some u:=fun b u q nt=>by
  rw[e b (fun z=>by subst z;rw[hP]at q;cases q;exact nt _ rfl) (Z3 q hc)]
  exact q
 have ex:∀K α,Ext K H H' α α:=fun K α=>by
  refine⟨fun p xs q=>k p _ q (fun _ z=>by cases z),fun p xs q=>?_,fun p C xs q=>?_,fun p j q=>?_,fun p o u q=>k p _ q (fun _ z=>by cases z),[],(cC _).symm⟩
  ·unfold SqF at q ⊢;rcases q with⟨o,q⟩|q
   ·exact .inl ⟨o,k p _ q (fun _ z=>by cases z)⟩
   ·exact .inr q
  ·obtain⟨oe,u,vs,q1,q2,q3,q4,q5⟩:=q;refine⟨oe,u,vs,k p _ q1 (fun _ z=>by cases z),q2,q3,q4,?_⟩
   rcases q5 with q5|⟨dx,fs,r1,r2,r3⟩
   ·exact .inl q5
   ·exact .inr ⟨dx,fs,r1,k dx _ r2 (fun _ z=>by cases z),r3⟩
  ·have q':=q;unfold Kn at q;cases z:H p with
   |none=>rw[z]at q;cases q
   |some u=>
    have:∀t,u≠ .tbl t:=fun t y=>by subst y;rw[z]at q;cases q
    unfold Kn;rw[k p u z this,<-z];exact q'
 refine⟨ex,fun K α M hr=>⟨hr.len,hr.nd,fun n q so e1 m=>?_⟩⟩;have so':=hr.ob n q so e1 m;refine so'.mono (ex K α) ?_;cases so with
 |lst ds=>
  rcases so' with⟨_,z,_⟩|⟨_,z,_⟩|⟨_,z,_⟩|⟨_,_,_,z,_⟩|⟨_,_,_,z,_⟩|⟨_,z,_⟩<;>(rw[k q _ z (fun _ y=>by cases y)];exact z.symm)
noncomputable def ZpR(H:Hp)(P c':Addr):Prop:=∃ps pos,H P=some (.tbl ps)/\fv pos ps.toList=some (.ref c')
theorem ZkQ(I:Inv X pins σ H s)(hm:ZsH X.K)(hc:Zoq X.K X.env.code c P)(hcl:lF scope X.env=pure cl)(h:∀f c' pm ctv H' s',s.heap.objs.size<=f->Inv X (pins++[(f,Zj0 qual params body scope cl pm c' ctv)]) σ H' s'->ZpR H' P c'->(∀K α,Ext K H H' α α)->(∀K α M,HR K H α M->HR K H' α M)->Q (.ref f) s'):wpAny (aw X.prog X.w) X.A (makeFunction "<lambda>" qual params (.expr body) scope X.env [] [] [] pos fl) Q E s:=by
 obtain⟨ps,hP⟩:=I.ok.tb.un I.base P hc.tb;obtain⟨oP,tP,cP⟩:=I.hok P _ hP;have hg:=I.mod.glob.keeps I.bk;have ng:∀b o,X.base.get? b=some o->b≠P:=fun b o e z=>by
  have:=(I.bs b o e).2
  rw[z,hP]at this;cases this
 have hgP:aI≠P:=by
  obtain⟨o,es,ep,e,_⟩:=I.mod.glob;exact ng _ _ e
 have hb:s.heap.BuiltinsAt X.mg P:=by
  obtain⟨bm,o,e1,e2,e3,e4,e5,e6,e7⟩:=hm;exact⟨bm,o,PySem.W.mg_of I.mod.kin I.mod.glob e1,e6,e7,ng _ _ (I.mod.kin _ _ e2),I.kIn _ _ e2,e3,e4,e5⟩
 have pinf:∀{H':Hp}{s':aC}{f:Addr}{o:Obj},Inv X pins σ H' s'->s.heap.objs.size<=f->s'.heap.get? f=some o->H' f=none->(∀v,o.data≠ .cell v)->Inv X (pins++[(f,o)]) σ H' s':=fun{H' s' f o} I' hf e n nc=>I'.pins_of fun p hp=>by
  rcases bq.mp hp with hp|hp
  ·exact I'.pin p (aS _ hp)
  ·rw[b9.mp hp];exact⟨e,n,aO (aj I.lt hf),I.nofs hf,nc⟩
 cases hn:fv pos ps.toList with
 |some cv=>
  obtain⟨c',oc,vs,q,t,rfl,own,e1,e2,e3⟩:=cP pos cv hn;refine PySem.W.kla_makeFunctionHit hcl I.ok.glob hg hc.1 (hc.hd I.kIn) oP tP hn hb fun ctv h' tk hk hz=>?_;have kk:∀b o,s.heap.get? b=some o->(h'.push (Zj0 qual params body scope cl ((X.mg "__name__").getD .none) c' ctv)).get? b=some o:=fun b o e=>Hq _ (hk b o e);have I':=I.kept (t':=tk) kk;refine h _ c' _ ctv H _ hz (pinf I' hz (az _ rfl) (I.hok.fresh hz) (fun v z=>by cases z)) ⟨ps,pos,hP,hn⟩ (fun K α=>Ext.refl) fun K α M hr=>hr
 |none=>
  refine PySem.W.kla_makeFunction hcl I.ok.glob hg hc.1 (hc.hd I.kIn) oP tP hn hgP hb fun c' ctv h' tk hx hge hlt hrec htb=>?_;obtain⟨c2,oc,vs,t,e2,hoc,hd,hv⟩:=hrec;cases e2;have hc0:H c'=none:=I.hok.fresh hge;have cP':c'≠P:=fun z=>by rw[z,hP]at hc0;cases hc0
  let H':Hp:=upd (upd H P (.tbl (ps ++ #[cQ pos.line,cQ pos.col,.ref c']))) c' (.own P)
  have e0:∀b,b≠P->b≠c'->H' b=H b:=fun b n1 n2=>by show upd (upd H P _) c' _ b=_;rw[ZF n2,ZF n1]
  have eP:H' P=some (.tbl (ps ++ #[cQ pos.line,cQ pos.col,.ref c'])):=by show upd (upd H P _) c' _ P=_;rw[ZF (bW cP'),Zz]
  have eC:H' c'=some (.own P):=Zz;have kp:∀b o,b≠P->s.heap.get? b=some o->(h'.push (Zj0 qual params body scope cl ((X.mg "__name__").getD .none) c' ctv)).get? b=some o:=fun b o n e=>Hq _ (hx b o n e);have nP:∀b,H b=none->b≠P:=fun b n z=>by rw[z,hP]at n;cases n
  have nC:∀b o,s.heap.get? b=some o->b≠c':=fun b o e=>au (aj (Hz e) hge);have nC':∀b u,H b=some u->b≠c':=fun b u e=>au (aj (I.hok.lt e) hge);have same:∀b u,H b=some u->(∀q,u≠ .tbl q)->H' b=some u:=fun b u e nt=>by
   rw[e0 b (fun z=>by subst z;rw[hP]at e;cases e;exact nt _ rfl) (nC' b u e)]
   exact e
  have tP':iu (ps ++ #[cQ pos.line,cQ pos.col,.ref c']).toList:=by
   rw[fM];exact ZcV _ tP dG
  have hok:HOk X.prog X.w H' (h'.push (Zj0 qual params body scope cl ((X.mg "__name__").getD .none) c' ctv)):=fun b u e=>by
   by_cases bc:b=c'
   ·subst bc;rw[eC]at e;cases e;exact⟨_,Hq _ hoc⟩
   ·by_cases bP:b=P
    ·subst bP;rw[eP]at e;cases e;refine⟨Hq _ htb,tP',fun pos' cv z=>?_⟩;rw[fM]at z;rcases ZeV _ tP z with z|z
     ·obtain⟨c1,o1,vs1,q1,t1,r1,r2,r3,r4⟩:=cP pos' cv z;exact⟨c1,o1,vs1,q1,t1,r1,same _ _ r2 (fun _ y=>by cases y),kp _ _ (fun y=>by rw[y,hP]at r2;cases r2) r3,r4⟩
     ·have z':(if((pos.line:Int) == ↑pos'.line&&(pos.col:Int) == ↑pos'.col)=true then some (aM c')else none)=some cv:=z
      split at z'
      ·cases z';exact⟨c',oc,vs,_,t,rfl,eC,Hq _ hoc,hd,hv⟩
      ·cases z'
    ·rw[e0 b bP bc]at e;refine(I.hok b u e).stay (fun x v hx' r=>kp x v ?_ r) (fun x r=>same _ _ r (fun _ y=>by cases y)) fun x xs r=>same _ _ r (fun _ y=>by cases y)
     rcases hx' with rfl|hx'
     ·exact bP
     ·exact fun y=>by rw[y,hP]at hx';cases hx'
  have I':Inv X pins σ H' {s with heap:=h'.push (Zj0 qual params body scope cl ((X.mg "__name__").getD .none) c' ctv),toks:=tk}:=
   I.step (g':=s.gens) (d':=s.drawn) (t':=tk) (ch:=[]) (fun _ z=>nomatch z) (fun b o _ _ _ e n=>kp b o (nP b n) e) (fun b o _ _ _ e n=>⟨o.slots,kp b o (nP b n) e⟩) (fun b o _ e n=>by rw[e0 b (nP b n) (nC b o e)];exact n)
    (fun b o _ e=>by
     by_cases bP:b=P
     ·subst bP;exact⟨_,Hq _ htb⟩
     ·exact⟨o,kp b o bP e⟩)
    (fun b xs e=>same _ _ e (fun _ y=>by cases y)) (fun b o u e=>same _ _ e (fun _ y=>by cases y))
    (fun b q e=>by
     by_cases bP:b=P
     ·subst bP;rw[hP]at e;cases e;exact⟨_,eP⟩
     ·exact⟨#[],by rw[e0 b bP (nC' b _ e),e];simp⟩)
    (fun m hm=>(hm.extBut hx (nP _ I.free)).push _) hok I.bare
  have up:=ZsI (H':=H') hP hc0 e0;have hz:s.heap.objs.size<=h'.objs.size:=dw (gf hge hlt);refine h _ c' _ ctv H' _ hz (pinf I' hz (az _ rfl) ?_ (fun v z=>by cases z)) ⟨_,pos,eP,?_⟩ up.1 up.2
  ·have fr:=hok.fresh (a:=h'.objs.size+1) (by rw[lG];exact ac _)
   rw[e0 h'.objs.size (fun z=>by have:=Hz htb;rw[<-z]at this;exact cj _ this) (aO hlt)]
   exact I.hok.fresh hz
  ·rw[fM];exact codeAmong_snoc _ tP hn
theorem Zfx(hroom:A.depth<iH)(ho:s.heap.get? a=some o)(hd':o.data=.func fd)(hco:fd.scope.isCoroutine=false)(hgen:fd.scope.isGenerator=false)(hbody:fd.body=.expr body)(hc:fd.code=.ref c)(hoc:s.heap.get? c=some oc)(hdc:oc.data=.fields vs)(hq:vs[1]?=some (.str q tq))(h:wpAny (aw prog w) A.in1 (hG fd args) (fun binds s₁=>wpAny (aw prog w) A.in1 (ko fd.scope fd.globals fd.closure binds (q++".<locals>.") (some a) fd.code none fd.builtins) (fun env s₂=>s₂.heap.NoLimit/\eY (aw prog w) A (.expr body env) R s₂) (fun e s'=>R (.error e) s') s₁) (fun e s'=>R (.error e) s') s):eY (aw prog w) A (.call (.ref a) args) R s:=by
 refine codeAny_of_tree ?_;show wpAny _ A.in1 (callAny (.ref a) args) _ _ s;simp only[callAny];refine Wb (wpAny_load ho ?_);simp only[hd',callFunction,hco,hgen,hbody,hc];rw[hc]at h;refine Wb (m:=iB (.ref c) 1) (aX hoc hdc hq (Wb (Wp ?_)));exact Wb (wpAny_mono h (fun binds s₁ h₁=>Wb (wpAny_mono h₁ (fun env s₂ h₂=>Wb (wpAny_enterFrame h₂.1 hroom (Wp (kY rfl h₂.2)))) fun _ _ h'=>h')) fun _ _ h'=>h')
noncomputable def lam(X:Cx)(A:cX)(q:Str)(scope:gN)(cl:List (Str×Addr))(N:List Str)(f:Addr)(cd:aa)(s:aC)(H:Hp):Cx:=
 {X with A:=A.deeper (PySem.W.envX q scope s.heap.objs.size f cd cl),N:=N,s₀:=s,H₀:=H,env:=PySem.W.envX q scope s.heap.objs.size f cd cl,outer:=X.stack,stack:=PySem.W.envX q scope s.heap.objs.size f cd cl::X.stack,ex:=[],fn:=fun _=>false,pn:=[],xe:=fun _ _=>False,fxs:=none}
theorem ZiU:Thr (lam X A q scope cl N f cd s H) E0:=
 ⟨eV.never,fun _ _ _ _ _ _ _ h=>by obtain⟨_,_,_,_,_,_,_,_,_,_,_,_,_,q⟩:=h;exact q,fun _ _ _ _ _ _ _ _ _ _ _ _ _ _ _ _ _ _ _ _ _ _ q=>q⟩
structure Lms(X:Cx) (scope:gN) (cl:List (Str×Addr)) (x:Str) (N:List Str) (fr:List Nat):Prop where
 clos:lF scope X.env=pure cl
 kind:scope.kind=.function
 co:scope.isCoroutine=false
 gen:scope.isGenerator=false
 cell:∀y∈scope.names,y.2≠ .cell
 par:scope.names.lookup x=some .local
 sub:∀y c,cl.lookup y=some c->X.env.cells.lookup y=some c
 has:∀y,(scope.names.lookup y=some .cell\/scope.names.lookup y=some .free)->∃c,cl.lookup y=some c
 n0:N[0]?=some x
 len:N.length=1+fr.length
 at_:∀(j i:Nat),fr[j]?=some i->∃y,N[1+j]?=some y/\X.N[i]?=some y/\X.env.kindOf y=some .cell/\scope.names.lookup y=some .free/\cl.lookup y=X.env.cells.lookup y
noncomputable def stL(v:V)(fr:List Nat)(σ:L2.St):L2.St:=some v::fr.map fun i=>(σ[i]?).join
noncomputable def roL(d:D)(fr:List Nat)(ρ:Ro):Ro:=some d::fr.map fun i=>(ρ[i]?).join
theorem SR.lam{K:Fg}(h:SR K H α σ ρ)(r:Rep K H α v d):SR K H α (stL v fr σ) (roL d fr ρ):=by
 refine⟨by simp[stL,roL],fun i d' e=>?_⟩
 cases i with
 |zero=>
  have e':some (some d)=some (some d'):=e;cases e';exact⟨v,rfl,r⟩
 |succ i=>
  have e':(fr.map fun i=>(ρ[i]?).join)[i]?=some (some d'):=e;rw[bp]at e';cases z:fr[i]? with
  |none=>rw[z]at e';cases e'
  |some r0=>
   rw[z]at e';obtain⟨v',e3,e4⟩:=h.2 r0 d' (join_some (aN e'));refine⟨v',?_,e4⟩;show(fr.map fun i=>(σ[i]?).join)[i]?=some (some v');rw[bp,z];show some (σ[r0]?).join=_;rw[e3];rfl
theorem ZpS(L:Lms X scope cl x N fr)(I:Inv X pins σ H s)(hA:A.frames=some X.stack)(hh:A.handled=X.A.handled):(lam X A q scope cl N f cd s H).Ok where
 mod:=I.ok.mod
 kind:=L.kind
 glob:=rfl
 blt:=rfl
 above:=ac _
 inj:=fun y z c h1 h2=>I.ok.inj y z c (L.sub y c h1) (L.sub z c h2)
 has:=fun y h=>L.has y h
 cab:=fun y c h=>(by cases h)
 hd:=fun z=>hh.trans (I.ok.hd z)
 frames:=j9 hA
 stk:=.inr ⟨rfl,rfl⟩
 exf:=fun b hb=>absurd (show b∈([]:List Addr)from hb) (by simp)
 bs:=I.bs
 bsz:=aU I.ok.bsz I.sz
 noex:=fun b o e hb=>absurd (show b∈([]:List Addr)from hb) (by simp)
 exfs:=fun b hb=>absurd (show b∈([]:List Addr)from hb) (by simp)
 funs:=I.stack
 frf:=I.stkFree
 tb:=I.ok.tb.un I.base
theorem Zno(L:Lms X scope cl x N fr)(I:Inv X pins σ H s)(hA:A.frames=some X.stack)(hh:A.handled=X.A.handled)(hn:h1.Ns s.heap.objs.size m)(hm:m x=some u)(ru:Z0 v u)(hk:∀b o,s.heap.get? b=some o->h1.get? b=some o):Inv (lam X A q scope cl N f cd s H) [] (stL v fr σ) H {s with heap:=h1,toks:=tk} where
 ok:=ZpS L I hA hh
 os:=rfl
 bare:=I.bare
 base:=Un.kept hk
 loc:=by
  refine⟨m,hn,fun i y v' e1 e2 e3=>?_⟩;cases i with
  |zero=>
   have exy:y=x:=aN (e1.symm.trans L.n0);subst exy;have ev:some (some v)=some (some v'):=e2;cases ev;exact⟨u,ru,.inl ⟨L.par,hm⟩⟩
  |succ i=>
   have e2':(fr.map fun i=>(σ[i]?).join)[i]?=some (some v'):=e2;rw[bp]at e2';cases z:fr[i]? with
   |none=>rw[z]at e2';cases e2'
   |some r0=>
    rw[z]at e2';obtain⟨y',k1,k2,k3,k4,k5⟩:=L.at_ i r0 z;have exy:y=y':=by
     have e1':N[i+1]?=some y:=e1;rw[ip]at e1';exact aN (e1'.symm.trans k1)
    subst exy;obtain⟨m0,hm0,hl⟩:=I.loc;obtain⟨u',ru',lk⟩:=hl r0 y v' k2 (join_some (aN e2')) (.inr (.inl k3));refine⟨u',ru',?_⟩;rcases lk with⟨z,_⟩|⟨_,c,z1,⟨o,z2,z3⟩⟩
    ·rw[k3]at z;cases z
    ·exact .inr ⟨.inr k4,c,k5.trans z1,⟨o,hk _ _ z2,z3⟩⟩
 cell:=fun y c h=>by
  obtain⟨v,o,e1,e2⟩:=I.cell y c (L.sub y c h);exact⟨v,o,hk _ _ e1,e2⟩
 free:=I.fresh
 freeC:=fun y c h=>I.freeC y c (L.sub y c h)
 pin:=fun p hp=>(by simp[lam]at hp)
 hok:=I.hok.kept hk
 len:=by
  show(stL v fr σ).length=N.length;rw[L.len];simp[stL];lia
 qd:=by
  rcases I.qd with z|⟨ea,oe,u,vs,z1,z2⟩
  ·exact .inl (hh.trans z)
  ·exact .inr ⟨ea,oe,u,vs,hh.trans z1,z2⟩
 fx:=.free rfl
theorem Znp(L:Lms X scope cl x N fr)(I:Inv X pins σ H s)(hA:A.frames=some X.stack)(hh:A.handled=X.A.handled)(hroom:A.depth<iH)(hp:(f,Zj0 qual params body scope cl pm c' ctv)∈X.pn++pins)(cd:ZpR H P c')(hbind:hG (PySem.W.kla_fn "<lambda>" qual params body scope cl pm (.ref c') ctv) ⟨[u],[]⟩=pure [(x,u)])(ru:Z0 v u)(hb:∀q,∃t,PE (lam X A q scope cl N f (.ref c') s H) body t/\t (stL v fr σ) H Q):wpAny (aw X.prog X.w) A (call (.ref f) [u]) (fun r s'=>∃v H',Inv X pins σ H' s'/\Z0 v r/\Q v H'/\ZpR H' P c') (fun _ _=>False) s:=by
 obtain⟨ps,pos,hP,hcd⟩:=cd;obtain⟨oP,tP,cP⟩:=I.hok P _ hP;obtain⟨c2,oc,vs,q,tq,ec,own,hoc,hdc,hq⟩:=cP pos _ hcd;cases ec;refine wpAny_call (Zfx hroom (I.pin _ hp).1 rfl L.co L.gen rfl rfl hoc hdc hq ?_);rw[hbind];refine Wp (wpAny_newFunctionEnv L.cell (fun y hy=>by rw[b9.mp hy];exact L.par) (fun h1 hns hsb=>?_) L.kind)
 have hk:∀b o,s.heap.get? b=some o->h1.get? b=some o:=fun b o e=>hsb.extBut b o (au (Hz e)) (Hq _ e);refine⟨I.nolimit.keeps hk,?_⟩;obtain⟨t,pt,qt⟩:=hb q;have J:Inv (lam X A q scope cl N f (.ref c') s H) [] (stL v fr σ) H {s with heap:=h1,toks:=s.toks+1}:=Zno L I hA hh hns (by simp) ru hk
 show eY _ _ (.expr body (PySem.W.envX q scope s.heap.objs.size f (.ref c') cl)) _ _;refine PySem.W.kla_codeExpr (wpAny_mono (pt [] _ _ H Q J qt) (fun r s' hs=>?_) fun _ _ z=>z.elim);obtain⟨v',H',J',rv,qv⟩:=hs;have ce:CE X.stack X.prog X.w H s (fun v'' H''=>v''=v'/\H''=H') r s':=⟨v',H',J'.os,J'.bare,J'.base,J'.hok,rv,rfl,rfl⟩;obtain⟨v2,H2,I2,r2,rfl,rfl⟩:=I.after ce;obtain⟨more,hm⟩:=J'.base.tbls P ps hP;exact⟨v2,H2,I2,r2,qv,_,pos,hm,by rw[fM];exact ZeW _ tP hcd⟩
end DL
namespace DL
open PyProof.Rows L2
def Zdy(g:Ev)(fr:List Nat)(ρ:Ro)(M:Sto)(xs:List D)(ks:List (List Int)):Prop:=Paired (fun d k=>g (roL d fr ρ) M=.ok (ZlN k) M/\k≠[]) xs ks
def Znq(ks:List (List Int))(xs:List D):List D:=(ST.srt ks).map fun k=>((ks.zip xs).lookup k).getD .non
def ZiV(g:Ev)(fr:List Nat)(ρ:Ro)(M:Sto)(xs:List D)(ks:List (List Int)):Prop:=xs.length<64/\ks.Nodup/\Zdy g fr ρ M xs ks
open Classical in
def ZdW(g:Ev)(fr:List Nat)(ρ:Ro)(ds:List D)(M:Sto):Out D:=match ds with
 |[.ref n]=>(match M[n]? with
  |some (.lst xs)=>if h:∃ks,ZiV g fr ρ M xs ks then .ok (.ref M.length) (M++[.lst (Znq h.choose xs)])else .bad
  |none=>.bad)
 |_=>.bad
def ZiW(fs:Av)(fr:List Nat)(g:Ev):Ev:=fun ρ M=>(fs ρ M).bind fun ds M1=>ZdW g fr ρ ds M1
theorem Zdy.uniq{g:Ev}{fr:List Nat}{ρ:Ro}{M:Sto}:∀{xs:List D}{ks ks':List (List Int)},Zdy g fr ρ M xs ks->Zdy g fr ρ M xs ks'->ks=ks':=by
 intro xs
 induction xs with
 |nil=>intro ks ks' h h';cases h;cases h';rfl
 |cons x xs ih=>
  intro ks ks' h h';cases h with
  |cons a b=>
   cases h' with
   |cons c d=>
    have e:=a.1.symm.trans c.1;injection e with e1 e2;rw[ZkO e1,ih b d]
theorem Zgr(h:M[n]?=some (.lst xs))(k:ZiV g fr ρ M xs ks):ZdW g fr ρ [.ref n] M=.ok (.ref M.length) (M++[.lst (Znq ks xs)]):=by
 have hx:∃ks,ZiV g fr ρ M xs ks:=⟨ks,k⟩;simp only[ZdW,h,dif_pos hx];rw[hx.choose_spec.2.2.uniq k.2.2]
theorem Zdz{ks:List (List Int)}:∀{xs:List D}{k:List Int}{d:D},ks.Nodup->(k,d)∈ks.zip xs->(ks.zip xs).lookup k=some d:=by
 induction ks with
 |nil=>intro xs k d _ h;cases h
 |cons a r ih=>
  intro xs k d nd h;cases xs with
  |nil=>cases h
  |cons x xs=>
   rw[iF]at h ⊢;rw[bZ];rcases ah.mp h with e|h2
   ·cases e;simp
   ·have ne:k≠a:=fun z=>(eN.mp nd).1 (z▸(fZ h2).1)
    have:(k==a)=false:=by simpa using ne
    rw[this];exact ih (eN.mp nd).2 h2
def Zuw(K:Fg)(H:Hp)(α:List Addr)(h:Heap)(t:List Int×D×V)(p:aa×aa):Prop:=ST.ZbP h p.1 t.1/\Z0 t.2.2 p.2/\Rep K H α t.2.2 t.2.1
theorem ZsJ{K:Fg}{H:Hp}{α:List Addr}{h:Heap}:∀{ks:List (List Int)} {xs:List D} {vs:List V} {kL its:List aa},Paired (fun k u=>ST.ZbP h u k) ks kL->Reps K H α vs xs->ZZ vs its->ks.length=xs.length->∃T:List (List Int×D×V),Paired (Zuw K H α h) T (kL.zip its)/\T.map (fun t=>(t.1,t.2.1))=ks.zip xs:=by
 intro ks
 induction ks with
 |nil=>
  intro xs vs kL its hk _ _ e;cases hk
  have:xs=[]:=da e.symm
  subst this;exact⟨[],.nil,rfl⟩
 |cons k ks ih=>
  intro xs vs kL its hk hr hv e;cases hk with
  |cons a b=>
   cases hr with
   |nil=>cases e
   |cons c d=>
    cases hv with
    |cons p q=>
     obtain⟨T,t1,t2⟩:=ih b d q (Nat.succ.inj e);exact⟨(k,_,_)::T,.cons ⟨a,p,c⟩ t1,by rw[aP,t2];rfl⟩
theorem ZcW{F:α->β->Prop}:∀{xs:List α}{ys:List β},Paired F xs ys->∀(i:Nat)(h:i<xs.length),∃h':i<ys.length,F xs[i] ys[i]:=by
 intro xs ys p
 induction p with
 |nil=>intro i h;exact absurd h (by simp)
 |cons a b ih=>
  intro i h;cases i with
  |zero=>exact⟨by simp,a⟩
  |succ i=>
   obtain⟨h',q⟩:=ih i (by simpa using h)
   exact⟨by simpa using h',by simpa using q⟩
theorem Zby{α β:Type}{F:α->β->Prop}:∀{xs:List α}{ys:List β},Paired F xs ys->xs.length=ys.length
 |_,_,.nil=>rfl
 |_,_,.cons _ b=>congrArg Nat.succ (Zby b)
theorem ZeX{K:Fg}{out:List (aa×aa)}(nd:ks.Nodup)(hl:ks.length=xs.length)(hT:Paired (Zuw K H α h) T prs)(eT:T.map (fun t=>(t.1,t.2.1))=ks.zip xs)(hp:out.Perm prs)(hs:∀i j (hi:i<out.length) (hj:j<out.length),i<=j->∀ns ms,ST.ZbP h out[i].1 ns->ST.ZbP h out[j].1 ms->ST.le ns ms):∃ys:List V,ZZ ys (out.map (·.2))/\Reps K H α ys (Znq ks xs):=by
 obtain⟨T',p1,p2⟩:=Zfw hp hT;have lT:=Zby p2;have ek:T.map (·.1)=ks:=by
  have:=congrArg (lP Prod.fst) eT
  rw[gI,List.map_fst_zip (lQ hl)]at this;exact this
 have pk:(T'.map (·.1)).Perm ks:=by rw[<-ek];exact p1.map _
 have up:(T'.map (·.1)).Pairwise ST.le:=by
  refine iX.mpr fun i j hi hj ij=>?_;rw[ay]at hi hj;obtain⟨a1,a2⟩:=ZcW p2 i hi;obtain⟨b1,b2⟩:=ZcW p2 j hj;rw[ju,ju];exact hs i j a1 b1 (dw ij) _ _ a2.1 b2.1
 have es:=ST.ZkN pk up;refine⟨T'.map (·.2.2),?_,?_⟩
 ·clear es up pk p1 hs hp lT
  induction p2 with
  |nil=>exact .nil
  |cons a _ ih=>exact .cons a.2.1 ih
 ·unfold Znq;rw[<-es,gI];have md:∀t∈T',((ks.zip xs).lookup t.1).getD .non=t.2.1:=fun t ht=>by
   have m:t∈T:=p1.mem_iff.mp ht;have m2:(t.1,t.2.1)∈ks.zip xs:=by rw[<-eT];exact List.mem_map_of_mem (f:=fun t:List Int×D×V=>(t.1,t.2.1)) m
   rw[Zdz nd m2];rfl
  have:T'.map ((fun k=>((ks.zip xs).lookup k).getD .non)∘fun t=>t.1)=T'.map (·.2.1):=dm fun t ht=>md t ht
  rw[this];clear es up pk p1 hs hp lT md this
  induction p2 with
  |nil=>exact .nil
  |cons a _ ih=>exact .cons a.2.2 ih
def JK(X:Cx)(pins:Pn)(σ:L2.St)(P c':Addr)(H2:Hp)(α:List Addr)(M:Sto)(n0:Nat)(ks:List (List Int))(a kS:Addr)(kL:List aa)(s':aC):Prop:=
 n0<=a/\n0<=kS/\kS≠a/\∃H',Inv X pins σ H' s'/\ZpR H' P c'/\H' a=none/\H' kS=none/\(∃o,s'.heap.get? a=some o)/\(∃o,s'.heap.get? kS=some o)/\Ext X.K H2 H' α α/\HR X.K H' α M/\kL.length<=ks.length/\Paired (fun k u=>∃kv,Z0 kv u/\Rep X.K H' α kv (ZlN k)) (ks.take kL.length) kL
theorem ZcX{α β:Type}{F:α->β->Prop}{a:α}{b:β}:∀{xs:List α}{ys:List β},Paired F xs ys->F a b->Paired F (xs++[a]) (ys++[b])
 |_,_,.nil,h=>.cons h .nil
 |_,_,.cons c d,h=>.cons c (ZcX d h)
theorem Zch{α β:Type}{F G:α->β->Prop}(h:∀a b,F a b->G a b):∀{xs:List α}{ys:List β},Paired F xs ys->Paired G xs ys
 |_,_,.nil=>.nil
 |_,_,.cons c d=>.cons (h _ _ c) (Zch h d)
theorem ZpT{K:Fg}(e:Ext K H H' α α')(h:HR K H' α' M)(l:α.length=M.length):α'=α:=by
 obtain⟨β,rfl⟩:=e.al
 have:=h.len
 rw[aG,l]at this
 have:β=[]:=da (by lia)
 rw[this,cC]
theorem ZeY{id:String}(hplain:(args.any (·.1)||kws.any (·.1.isNone))=false)(h:wpAny M A (evalArgs (.builtin id) true args kws) (fun a s₁=>wpAny M A (call (.builtin id) a.pos a.kw) Q E s₁) E s):wpAny M A (callWith pos (.builtin id) [] args kws) Q E s:=by
 unfold callWith;refine Wb (wpAny_holding (wpAny_mono h (fun a s₁ h₁=>Wb (wpAny_standAt ?_)) fun _ _ x=>x));simp only[hplain];refine Wb (Wp ?_);exact Wb (wpAny_mono h₁ (fun r s₂ hr=>Wb (wpAny_holding (wpAny_point (Wp hr)))) fun _ _ x=>x)
theorem ZiX{n:Nat}(hr:Room (k+3) X.A)(L:Lms X scope cl x N fr)(hb:∀q f cd s H,Room k (X.A.in1.in1.deeper (PySem.W.envX q scope s.heap.objs.size f cd cl))->DE (lam X X.A.in1.in1 q scope cl N f cd s H) E0 body g)(hbind:∀(u:aa),hG (PySem.W.kla_fn "<lambda>" qual params body scope cl pm (.ref c') ctv) ⟨[u],[]⟩=pure [(x,u)])(I:Inv X (pins++[(f,Zj0 qual params body scope cl pm c' ctv)]) σ H s)(cd:ZpR H P c')(sr:SR X.K H α σ ρ)(h:HR X.K H α M)(hx:M[n]?=some (.lst xs))(hp:H p0=some (.lst ws))(rp:Reps X.K H α ws xs)(l64:xs.length<64)(nd:ks.Nodup)(keys:Zdy g fr ρ M xs ks)(q:∀v H' α',Ext X.K H H' α α'->HR X.K H' α' (M++[.lst (Znq ks xs)])->Rep X.K H' α' v (.ref M.length)->Q v H'):wpAny (aw X.prog X.w) X.A (call (.builtin "sorted") [.ref p0] [(a7 "key",.ref f)]) (EP X pins σ Q) X.xe s:=by
 have lks:ks.length=xs.length:=(Zby keys).symm;obtain⟨its,rv,pl,hz⟩:=I.list (SqL.of hp);have lit:its.length=xs.length:=by rw[<-rv.length,rp.length]
 refine ST.ZiT (JK X (pins++[(f,Zj0 qual params body scope cl pm c' ctv)]) σ P c' H α M s.heap.objs.size ks) pl.isList (by lia) ?_ ?_ ?_ ?_ ?_
 ·
  intro a kS h1 ha hS ne kk oa ok;exact⟨ha,hS,ne,H,I.kept (t':=s.toks) kk,cd,I.hok.fresh ha,I.hok.fresh hS,oa,ok,Ext.refl,h,dB _,by rw[eQ,kC];exact .nil⟩
 ·
  rintro a kS i v kL s' na ea nk ek hv hi ⟨ha,hS,ne,H',I',cd',fa,fS,_,_,ex,hr',lk,pk⟩ oa ok;have hil:i<xs.length:=by have:=(ar.mp hv).1;lia
  obtain⟨xv,e1,e2⟩:=Ziu rv hv;obtain⟨d,d1,d2⟩:=Ziv rp e1;have hki:i<ks.length:=by lia
  obtain⟨_,kg⟩:=ZcW keys i hil;have ed:xs[i]=d:=by
   rw[am hil]at d1;exact aN d1
  rw[ed]at kg;have d2:=Rep.mono ex d2;have I2:Inv X (pins++[(f,Zj0 qual params body scope cl pm c' ctv)]++[(a,bv "list" na ea),(kS,bv "list" nk ek)]) σ H' s':=I'.pins_of fun p hp=>by
   rcases bq.mp hp with hp|hp
   ·exact I'.pin p (aS _ hp)
   ·rcases ah.mp hp with rfl|hp
    ·exact⟨oa,fa,aO (aj I.lt ha),I.nofs ha,fun v z=>by cases z⟩
    ·rw[b9.mp hp];exact⟨ok,fS,aO (aj I.lt hS),I.nofs hS,fun v z=>by cases z⟩
  have run:=Znp (f:=f) (A:=X.A.in1.in1) (u:=v) (v:=xv) (Q:=fun v' H''=>∃α'',Ext X.K H' H'' α α''/\HR X.K H'' α'' M/\Rep X.K H'' α'' v' (ZlN ks[i])) L I2 I.ok.frames rfl (by have:=hr.dp;show X.A.depth<_;lia) (aS _ (dY _ (aS _ (b9.mpr rfl)))) cd' (hbind v) e2 fun q'=>by
   obtain⟨t,pt,qt⟩:=hb q' f (.ref c') s' H' ((hr.in1.in1).deeper _);exact⟨t,pt,qt _ (roL d fr ρ) H' α M _ (SR.lam (sr.mono ex) d2) hr' (by
    rw[kg.1];exact fun v' H'' α'' e'' h'' r''=>⟨α'',e'',h'',r''⟩)⟩
  refine wpAny_mono run (fun u s2 hs=>?_) fun _ _ z=>z;obtain⟨v',H2,I3,r3,⟨α2,ex2,hr2,rp2⟩,cd2⟩:=hs;have ea2:=ZpT ex2 hr2 hr'.len;subst ea2;have pa:=I3.pin (a,bv "list" na ea) (by simp)
  have pS:=I3.pin (kS,bv "list" nk ek) (by simp)
  refine⟨⟨ha,hS,ne,H2,I3.unpinned,cd2,pa.2.1,pS.2.1,⟨_,pa.1⟩,⟨_,pS.1⟩,ex.trans ex2,hr2,by rw[aG,eX];lia,?_⟩,pa.1,pS.1⟩
  have et:ks.take (kL++[u]).length=ks.take kL.length++[ks[i]]:=by
   rw[aG,eX,hi,List.take_add_one,am hki];rfl
  rw[et];exact ZcX (Zch (fun k u ⟨kv,z1,z2⟩=>⟨kv,z1,Rep.mono ex2 z2⟩) pk) ⟨v',r3,rp2⟩
 ·
  rintro a kS kL s' h' ⟨ha,hS,ne,H',I',cd',fa,fS,⟨oa,ea⟩,_,ex,hr',lk,pk⟩ kk oS;refine⟨ha,hS,ne,H',I'.turned (t':=s'.toks) (it:=kS) kk fS (aO (aj I.lt hS)) (.inr (aU I.sz hS)) (fun y c hc z=>?_) (fun p hp z=>?_),cd',fa,fS,⟨oa,kk a oa (bW ne) ea⟩,oS,ex,hr',lk,pk⟩
  ·obtain⟨v,o,e,_⟩:=I.cell y c hc;exact absurd (Hz e) (by rw[z];exact fA hS)
  ·have:=(I.pin p hp).1
   exact absurd (Hz this) (by rw[z];exact fA hS)
 ·
  rintro a kS kL s' ⟨_,_,_,H',I',_,_,_,_,_,_,_,lk,pk⟩ u hu;obtain⟨i,hi,rfl⟩:=cU hu;have hi':i<(ks.take kL.length).length:=by rw[Zby pk];exact hi
  obtain⟨_,kv,z1,z2⟩:=ZcW pk i hi';have t:=Zgq I' (ZiS z2) z1;have hik:i<ks.length:=by lia
  obtain⟨_,kg⟩:=ZcW keys i (by lia)
  have e1:(ks.take kL.length)[i]=ks[i]:=List.getElem_take;rw[e1]at t;cases e2:ks[i]with
  |nil=>exact absurd e2 kg.2
  |cons b r=>rw[e2]at t;exact⟨b,r,t⟩
 ·
  rintro a kS kL s' out h' c ⟨ha,hS,ne,H',I',cd',fa,fS,_,_,ex,hr',lk,pk⟩ hl po hs kk oS oa;have ek:ks.take kL.length=ks:=bS (by lia)
  rw[ek]at pk;obtain⟨T,t1,t2⟩:=ZsJ (K:=X.K) (H:=H') (α:=α) (Zch (fun k u ⟨kv,z1,z2⟩=>Zgq I' (ZiS z2) z1) pk) (Reps.mono ex rp) rv lks;obtain⟨ys,v1,v2⟩:=ZeX nd lks t1 t2 po hs;have lo:(out.map (·.2)).length=xs.length:=by rw[ay,po.length_eq,List.length_zip,hl,lit];simp
  have hyz:ys.length<=sizeLine:=by rw[v1.length,lo];exact aU (dw l64) (by decide)
  have nS:∀b u,H' b=some u->b≠kS:=fun b u z y=>by rw[y,fS]at z;cases z
  have nA:∀b u,H' b=some u->b≠a:=fun b u z y=>by rw[y,fa]at z;cases z
  have hok:HOk X.prog X.w (upd H' a (.lst ys)) h':=fun b u e=>by
   by_cases ba:b=a
   ·subst ba;rw[Zz]at e;cases e;exact⟨hyz,out.map (·.2),c,v1,oa⟩
   ·rw[ZF ba]at e;refine(I'.hok b u e).stay (fun y v hy r=>kk y v ?_ ?_ r) (fun y r=>by rw[ZF (nA _ _ r)];exact r) fun y zs r=>by rw[ZF (nA _ _ r)];exact r
    ·rcases hy with rfl|hy
     ·exact ba
     ·exact nA _ _ hy
    ·rcases hy with rfl|hy
     ·exact nS _ _ e
     ·exact nS _ _ hy
  have cellN:∀b,s.heap.objs.size<=b->∀y c,X.env.cells.lookup y=some c->c≠b:=fun b hb y c hc z=>by
   obtain⟨v,o,e,_⟩:=I.cell y c hc;exact absurd (Hz e) (by rw[z];exact fA hb)
  have pinN:∀b,s.heap.objs.size<=b->∀p∈X.pn++(pins++[(f,Zj0 qual params body scope cl pm c' ctv)]),p.1≠b:=fun b hb p hp z=>by
   have:=(I.pin p hp).1
   exact absurd (Hz this) (by rw[z];exact fA hb)
  have J:=I'.step (H':=upd H' a (.lst ys)) (h':=h') (g':=s'.gens) (d':=s'.drawn) (t':=s'.toks) (ch:=[a,kS]) (fun b hb=>by
    have hb':s.heap.objs.size<=b:=by
     rcases ah.mp hb with rfl|hb
     ·exact ha
     ·rw[b9.mp hb];exact hS
    exact⟨.inr (aU I.sz hb'),aO (aj I.lt hb'),cellN b hb',pinN b hb'⟩)
   (fun b o _ _ hb e _=>kk b o (fun z=>hb (by simp[z])) (fun z=>hb (by simp[z])) e)
   (fun b o _ _ hb e _=>⟨o.slots,kk b o (fun z=>hb (by simp[z])) (fun z=>hb (by simp[z])) e⟩)
   (fun b o hb e n=>by rw[ZF (fun z=>hb (by simp[z]))];exact n)
   (fun b o hb e=>⟨o,kk b o (fun z=>hb (by simp[z])) (fun z=>hb (by simp[z])) e⟩)
   (fun b zs e=>by rw[ZF (nA _ _ e)];exact e) (fun b o u e=>by rw[ZF (nA _ _ e)];exact e)
   (fun b zs e=>⟨#[],by rw[ZF (nA _ _ e),e];simp⟩)
   (fun m hm=>by
    obtain⟨o,es,ep,e,r⟩:=hm;exact⟨o,es,ep,kk _ _ (au (aj I.lt ha)) (au (aj I.lt hS)) e,r⟩) hok I'.bare
  exact⟨.ref a,_,J.unpinned,rfl,q _ _ (α++[a]) (ex.trans (Ext.new fa)) (hr'.new fa v2) (.ref ⟨by rw[<-h.len];simp,Kn.lst Zz⟩)⟩
theorem ZkR(hm:ZsH X.K)(hc:ZeU X.K X.env.code=true)(hr:Room (k+3) X.A)(L:Lms X scope cl x N fr)(hmg:X.mg "sorted"=none)(ha:DA X ξ [e] fs)(hb:∀q f cd s H,Room k (X.A.in1.in1.deeper (PySem.W.envX q scope s.heap.objs.size f cd cl))->DE (lam X X.A.in1.in1 q scope cl N f cd s H) E0 body g)(hbind:∀(qual:Str)(pm:aa)(c':Addr)(ctv u:aa),hG (PySem.W.kla_fn "<lambda>" qual params body scope cl pm (.ref c') ctv) ⟨[u],[]⟩=pure [(x,u)]:=by intros;rfl)(hdef:autoParam (defaultsOf params X.env=([],[])) Qrf._auto_1)(hg:autoParam (Gl X "sorted") Qrf._auto_1)(he:autoParam (av [e] X.env=(false,eval e X.env)::av [] X.env) Qrf._auto_1)(hpl:autoParam (((cN pos (av [e] X.env)).any (·.1)||(iK pos (fk [⟨some "key",.Lambda params body scope lpos,kpos⟩] X.env)).any (·.1.isNone))=false) Qrf._auto_1) :
  DE X ξ (.Call (.Name "sorted" p) [e] [⟨some "key",.Lambda params body scope lpos,kpos⟩] pos) (ZiW fs fr g):=by
 obtain⟨ta,pa,qa⟩:=ha;obtain⟨c,P,lc⟩:=ZkP hc;refine⟨fun σ H Q=>∃ρ α M,SR X.K H α σ ρ/\HR X.K H α M/\OP X.K H α ξ Q (ZiW fs fr g ρ M),?_,fun σ ρ H α M Q s h q=>⟨ρ,α,M,s,h,q⟩⟩;rintro pins s σ H Q I ⟨ρ,α,M,sr,hr0,op⟩;refine wpAny_Call_Name_kw (ZbA I hg hmg ZiR ?_ (by decide) (by decide))
 refine ZeY hpl (evalArgs_kw2 rfl (thn (pa pos pins s σ H (fun vs H1=>∃α1 M1 ds,Ext X.K H H1 α α1/\HR X.K H1 α1 M1/\Reps X.K H1 α1 vs ds/\OP X.K H1 α1 ξ Q (ZdW g fr ρ ds M1)) I (qa σ ρ H α M _ sr hr0 (OG.seq op fun ds M1 vs H1 α1 e1 h1 r1 q1=>⟨α1,M1,ds,e1,h1,r1,q1⟩))) fun us s1 ⟨vs,H1,I1,rv,α1,M1,ds,e1,h1,r1,op1⟩=>?_) he)
 have sr1:=sr.mono e1;have key:∀n,ds=[.ref n]->wpAny (aw X.prog X.w) X.A (evalAll ((iK pos (fk [⟨some "key",.Lambda params body scope lpos,kpos⟩] X.env)).map (·.2))) (fun ks s₂=>wpAny (aw X.prog X.w) X.A (call (.builtin "sorted") us (((iK pos (fk [⟨some "key",.Lambda params body scope lpos,kpos⟩] X.env)).filterMap (·.1)).zip ks)) (EP X pins σ Q) X.xe s₂) X.xe s1:=fun n en=>by
  subst en;cases hx:M1[n]? with
  |none=>simp only[ZdW,hx]at op1;exact op1.elim
  |some so=>
   cases so with
   |lst xs=>
    by_cases hk:∃ks,ZiV g fr ρ M1 xs ks
    ·obtain⟨ks,sk⟩:=hk;rw[Zgr hx sk]at op1;obtain⟨l64,nd,keys⟩:=sk;cases r1 with
     |cons r1 r0=>
      cases r0;cases r1 with
      |@ref p0 _ hp0=>
       obtain⟨u0,rfl,ru⟩:=ZcM rv;cases ru;obtain⟨ws,g1,g2⟩:=h1.at hp0 hx;show wpAny _ _ (evalAll [(do let v <-eval (.Lambda params body scope lpos) X.env;standAt pos;pure v)]) _ _ s1
       refine wpAny_evalAll_cons (Wb (PySem.W.kla_eval hdef (ZkQ I1 hm lc L.clos fun f c' pm ctv H2 s2 hf I2 cd2 ex2 hr2=>Wb (wpAny_standAt (Wp (wpAny_evalAll_nil ?_))))));have h2:=hr2 X.K α1 M1 h1;obtain⟨ws2,g3,g4⟩:=h2.at ((ex2 X.K α1).get hp0) hx;exact ZiX hr L hb (fun u=>hbind _ pm c' ctv u) I2 cd2 (sr1.mono (ex2 X.K α1)) h2 hx g3 g4 l64 nd keys fun v H' α' ex' h' r'=>op1 v H' α' ((ex2 X.K α1).trans ex') h' r'
    ·simp only[ZdW,hx,dif_neg hk]at op1;exact op1.elim
 by_cases hd:∃n,ds=[.ref n]
 ·obtain⟨n,hd⟩:=hd;exact key n hd
 ·have e:ZdW g fr ρ ds M1=.bad:=by
   unfold ZdW;split
   ·exact absurd ⟨_,rfl⟩ hd
   ·rfl
  rw[e]at op1;exact op1.elim
end DL
namespace L2
open PyProof.Rows
noncomputable def ZsK(o:Option Obj):Bool:=match o with
 |some ⟨.none,none,.fields ⟨[]⟩,⟨[]⟩⟩=>true
 |_=>false
theorem Znr(h:ZsK o=true):o=some {cls:=.none,data:=.fields #[]}:=by
 unfold ZsK at h
 split at h
 ·rfl
 ·cases h
theorem ZiY{o:Obj}{a:Addr}:∀{l:Pn},l.lookup a=some o->(a,o)∈l
 |[],h=>by cases h
 | (b,u)::r,h=>by
  rw[bZ]at h;cases e:a==b with
  |true=>
   rw[e]at h
   have:a=b:=by simpa using e
   cases h;rw[this];exact bE
  |false=>
   rw[e]at h;exact aA _ (ZiY h)
def Zgs(K T:Fg):Bool:=K.all fun p=>match p.2 with
 |⟨.type n,_,.fields vs,_⟩=>if n="code" then(match(vs[11]? :Option aa)with
  |some (.ref P)=>(K.lookup P).isNone&&ZsK (T.lookup P)
  |_=>true)else true
 |_=>true
theorem ZiZ{K:Fg}(h:Zgs K T=true)(t:TbP K P):K.lookup P=none/\T.lookup P=some {cls:=.none,data:=.fields #[]}:=by
 obtain⟨c,⟨oc,od,dt,sl⟩,vs,e1,e2,e3,e4⟩:=t;have q:=eI.mp h _ (ZiY e1);cases e2;cases e3;dsimp only at q;rw[if_pos rfl,e4]at q;simp only[aT,fF]at q;exact⟨q.1,Znr q.2⟩
theorem Zi0{K:Fg}(KX:K.In s₁.heap)(TX:T.In s₁.heap)(hT:Zgs K T=true)(hns:s₁.heap.Ns aI mg)(hb:s₁.heap.Ns f9 mb)(hbb:∀x:Str,x≠"__name__"->mb x=bB x)(hlim:s₁.heap.NoLimit)(hg:s₁.gens= #[])(ha:s₁.heap.get? a=some {cls:=.type "list",data:=.seq vs.toArray})(hi:gr vs ns)(hl:ns.length<=sizeLine)(hr:Room k kO)(F:∀base:Heap,K.In base->base.Ns aI mg->FnOk P w K mg base CX k fa fd [x] sp)(hbind:∀(s:aC)(u:aa),kM s fd ⟨[u],[]⟩ [(x,u)])(hsp:∀H:Hp,DL.SqF K H a (ns.map V.int)->sp [.ref a] H (fun v _=>v=.bl true) fun _ _ _=>False)(hCX:∀H e s',CX [] H s₁ (fun _ _ _=>False) e s'->False):eY (aw P w) kO (.call (.ref fa) ⟨[.ref a],[]⟩) (fun r s'=>r=.ok (.ret (.bool true))/\OldK s₁.heap s'.heap/\s'.os=s₁.os/\gW s'.gens) s₁:=by
 have rv:=Zet hi;have lenV:=hi.length;have tb:∀{b:Addr},TbP K b->s₁.heap.get? b=some {cls:=.none,data:=.fields #[]}:=fun t=>TX _ _ (ZiZ hT t).2;have core:∀H:Hp,DL.SqF K H a (ns.map V.int)->HOk P w H s₁.heap->(∀b u,H b=some u->(b=a/\K.lookup a=none/\∃o xs,u=.frz o (.lst xs))\/(TbP K b/\u=.tbl #[]))->Tbs K H->
   eY (aw P w) kO (.call (.ref fa) ⟨[.ref a],[]⟩) (fun r s'=>r=.ok (.ret (.bool true))/\OldK s₁.heap s'.heap/\s'.os=s₁.os/\gW s'.gens) s₁:=by
  intro H hS hok hA hTb;have base_of:∀{b:Addr}{o:Obj},s₁.heap.get? b=some o->H b=none->(ZjW s₁.heap H).get? b=some o:=fun e n=>ZfR e n;have noA:∀{b:Addr}{o:Obj}{es:Array kP}{ep:Nat},s₁.heap.get? b=some o->o.data=.dict es ep->H b=none:=fun{b o es ep} e d=>by
   cases q:H b with
   |none=>rfl
   |some u=>
    rcases hA b u q with⟨rfl,_⟩|⟨t,_⟩
    ·rw[ha]at e;cases e;have d':Data.seq vs.toArray _=kR es ep:=d;cases d'
    ·rw[tb t]at e;cases e;have d':j8 _=kR es ep:=d;cases d'
  have nsK:∀{b:Addr}{m:Str->Option aa},s₁.heap.Ns b m->(ZjW s₁.heap H).Ns b m:=fun{b m} ⟨o,es,ep,e,d,r⟩=>⟨o,es,ep,base_of e (noA e d),d,r⟩;have hKb:K.In (ZjW s₁.heap H):=fun b o e=>base_of (KX b o e) (by
   cases q:H b with
   |none=>rfl
   |some u=>
    rcases hA b u q with⟨rfl,z,_⟩|⟨t,_⟩
    ·rw[z]at e;cases e
    ·rw[(ZiZ hT t).1]at e;cases e)
  have hM:Mod K mg (ZjW s₁.heap H):=⟨hKb,nsK hns,⟨mb,nsK hb,hbb⟩,let ⟨mc,h1,h2⟩:=hlim;⟨mc,nsK h1,h2⟩⟩;have e0:Env0 P w K mg (ZjW s₁.heap H) kO [] s₁ H:=⟨rfl,hM,fun b o e=>Zhp e,lQ (Zho _ _),trivial,fun b hb=>absurd (show b∈([]:List Addr)from hb) (by simp),hok,.of_eq hg,.inl rfl,hTb⟩
  refine lH ((F _ hKb (nsK hns)).run kO [] s₁ H ⟨[.ref a],[]⟩ [.ref a] [.ref a] _ _ hr e0 (hbind s₁ (.ref a)) (.cons rfl .nil) (hsp H hS)) fun r s' h=>?_;cases r with
  |error e=>exact(hCX H e s' h).elim
  |ok fl=>
   cases fl with
   |next=>exact fj h
   |brk=>exact fj h
   |cont=>exact fj h
   |ret u=>
    obtain⟨v,H',os,bare,un,hok',r',q⟩:=h;have q':v=.bl true:=q;subst q';obtain rfl:u=ly true:=r';have fin:∀b o,s₁.heap.get? b=some o->asItWas s₁.heap s'.heap b o:=fun b o e=>by
     cases q:H b with
     |none=>exact .inl (un.keep b o e q (by intro z;exact absurd (show b∈([]:List Addr)from z) (by simp)) (by simp))
     |some u=>
      rcases hA b u q with⟨_,_,ob,xs,rfl⟩|⟨t,rfl⟩
      ·have z2:=un.frzs b ob _ q;obtain⟨e1,_⟩:=hok b _ q;obtain⟨e2,_⟩:=hok' b _ z2;rw[e]at e1;cases e1;exact .inl e2
      ·obtain⟨more,z2⟩:=un.tbls b _ q;have e2:=(hok' b _ z2).1;have e1:=tb t;rw[e]at e1;cases e1;obtain⟨c,oc,vs',f1,f2,f3,f4⟩:=t;exact .inr (.inl ⟨⟨c,oc,vs',KX _ _ f1,f2,f3,f4⟩,rfl,#[],more,rfl,e2⟩)
    refine⟨rfl,⟨fin,fun b o e=>?_⟩,os,bare⟩;rcases fin b o e with z|⟨_,_,vs',m,_,z⟩|⟨_,_,⟨o',_,_,z,_⟩,_⟩
    ·exact⟨_,z⟩
    ·exact⟨_,z⟩
    ·exact⟨_,z⟩
 have tok:∀H:Hp,∀b,TbP K b->H b=some (.tbl #[])->ZaS P w H s₁.heap b (.tbl #[]):=fun H b t _=>⟨tb t,dG,fun pos cv z=>by cases z⟩
 have na:¬TbP K a:=fun t=>by
  have:=tb t
  rw[ha]at this;cases this
 cases hk:K.lookup a with
 |some o=>
  have e:=KX a o hk;rw[ha]at e;cases e
  classical
  refine core (fun b=>if TbP K b then some (.tbl #[])else none) (.inr ⟨_,vs.toArray,_,hk,rfl,rfl,rfl,by rw[ao,lenV];exact hl,by simpa using rv⟩) (fun b u z=>?_) (fun b u z=>?_) (fun b t=>⟨_,if_pos t⟩)
  ·by_cases t:TbP K b
   ·have z':=(if_pos t).symm.trans z;cases z';exact tok _ b t (if_pos t)
   ·have z':=(if_neg t).symm.trans z;cases z'
  ·by_cases t:TbP K b
   ·have z':=(if_pos t).symm.trans z;cases z';exact .inr ⟨t,rfl⟩
   ·have z':=(if_neg t).symm.trans z;cases z'
 |none=>
  classical
  let H:Hp:=fun b=>if b=a then some (.frz {cls:=.type "list",data:=.seq vs.toArray} (.lst (ns.map V.int)))else if TbP K b then some (.tbl #[])else none
  have hHa:H a=some (.frz {cls:=.type "list",data:=.seq vs.toArray} (.lst (ns.map V.int))):=if_pos rfl;have hHt:∀b,TbP K b->H b=some (.tbl #[]):=fun b t=>by
   show(if b=a then _ else if TbP K b then _ else _)=_
   have nb:b≠a:=fun z=>na (z▸t);rw[if_neg nb,if_pos t]
  have hHn:∀b,b≠a->¬TbP K b->H b=none:=fun b n t=>by
   show(if b=a then _ else if TbP K b then _ else _)=_
   rw[if_neg n,if_neg t]
  refine core H (.inl ⟨_,hHa⟩) (fun b u z=>?_) (fun b u z=>?_) (fun b t=>⟨_,hHt b t⟩)
  ·by_cases hb:b=a
   ·subst hb;rw[hHa]at z;cases z;exact⟨ha,by rw[ay];exact hl,vs,_,rv,ha⟩
   ·by_cases t:TbP K b
    ·rw[hHt b t]at z;cases z;exact tok _ b t (hHt b t)
    ·rw[hHn b hb t]at z;cases z
  ·by_cases hb:b=a
   ·subst hb;rw[hHa]at z;cases z;exact .inl ⟨rfl,hk,_,_,rfl⟩
   ·by_cases t:TbP K b
    ·rw[hHt b t]at z;cases z;exact .inr ⟨t,rfl⟩
    ·rw[hHn b hb t]at z;cases z
theorem ZkS{l:PySem.W.OpenLaw}{K T:kc->Fg}{CX:cL->CXT}{sp:cL->Sp}(hn:l.most=some n)(hn2:n<=sizeLine)(hdf:d.params.defaults=[])(hr:Room k kO)(hY:∀(w:cL)(h:Heap),YP w h->(K w.params).In h/\(T w.params).In h)(hT:∀w:cL,Zgs (K w.params) (T w.params)=true)(F:∀(w:cL)(mg:Str->Option aa)(fa:Addr)(h:Heap),(K w.params).In h->h.Ns aI mg->mg d.name=some (.ref fa)->∃fd:gZ,(∀(s:aC)(u:aa),kM s fd ⟨[u],[]⟩ [(x,u)])/\∀base:Heap,(K w.params).In base->base.Ns aI mg->FnOk l.prog w (K w.params) mg base (CX w) k fa fd [x] (sp w))(hsp:∀(w:cL)(H:Hp)(a:Addr)(ns:List Int),ns.length<=n->DL.SqF (K w.params) H a (ns.map V.int)->sp w [.ref a] H (fun v _=>v=.bl true) fun _ _ _=>False)(hCX:∀(w:cL)(H:Hp)(s:aC)(e:aa)(s':aC),CX w [] H s (fun _ _ _=>False) e s'->False):PySem.W.WalkO q loose XP YP l.row.toRowW d [] (fun f vs=>PySem.call f vs):=by
 refine Att.Zfj hn hdf fun w s₀ s₁ mg mb fa o pm cd doc a vs ns G Y ho hd hcd hmg hobj hints hlen hg=>?_;obtain⟨KX,TX⟩:=hY w _ Y;obtain⟨fd,hb,hF⟩:=F w mg fa _ KX G.T.g hmg;exact Zi0 KX TX (hT w) G.T.g G.T.b G.T.builtins G.T.nolimit hg hobj hints (aU hlen hn2) hr hF hb (fun H hS=>hsp w H a ns hlen hS) fun H e s'=>hCX w H s₁ e s'
end L2
namespace DL
open PyProof.Rows L2
theorem Zns{K:Fg}{ns:List Int}(hF:SqF K H a (ns.map V.int))(h:∃M',F [.rol (ns.map D.int)] []=.ok (.bl true) M'):spD K F [.ref a] H (fun v _=>v=.bl true) (fun _ _ _=>False):=by
 obtain⟨M',e⟩:=h;refine⟨[.rol (ns.map D.int)],[],[],.cons (.rol hF (Reps.ints ns)) .nil,HR.nil,?_⟩;rw[e];intro v H' α' _ _ r;cases r;rfl
theorem Znt{K:Fg}(x:PySem.W.Frag.In (K++T) h):K.In h:=fun b o e=>x b o (by rw[List.lookup_append,e];rfl)
theorem ZkT{K:Fg}(x:PySem.W.Frag.In (K++T) h)(d:T.all (fun p=>(K.lookup p.1).isNone)=true):T.In h:=fun b o e=>x b o (by
 have q:=eI.mp d _ (ZiY e);rw[List.lookup_append,fF.mp q];exact e)
def ZsL(K:Fg)(x:Str):Bool:=match PySem.W.nsIn K aI x with
 |some (some (.ref f))=>(match K.lookup f with
  |some ⟨_,_,.func fd,_⟩=>ZeU K fd.code
  |_=>false)
 |_=>false
noncomputable def Znu(K:Fg):Bool:=match PySem.W.nsIn K aI "__builtins__" with
 |some (some (.ref bm))=>(match K.lookup bm with
  |some ⟨.type n,some d,.plain,_⟩=>decide (n="module")&&decide (d=f9)&&decide (bm≠f9)&&decide (bm≠aI)
  |_=>false)
 |_=>false
theorem ZkU{K:Fg}(h:Znu K=true):ZsH K:=by
 unfold Znu at h
 split at h
 ·rename_i bm e1
  split at h
  ·rename_i n d sl e2;simp only[aT,decide_eq_true_eq]at h;obtain⟨⟨⟨rfl,rfl⟩,h3⟩,h4⟩:=h;exact⟨bm,_,e1,e2,rfl,rfl,rfl,h3,h4⟩
  ·cases h
 ·cases h
section
variable {w:cL}{K:Fg}{base:Heap}
theorem ZpU{st:Stmt}(F:Fun K x qual st f fd)(hl:ZeU K fd.code=true)(S:FnScope N ps (Zt st))(hn:n=ps.length)(hm:m=N.length-n)(hb:∀(cdv:aa)(A:cX)(outer:List Env)(s:aC)(H:Hp)(E:XK),ZeU K cdv=true->Room k (A.deeper (iI qual (Zt st) s.heap.objs.size f cdv))->Thr (ZfW (CXE P w) P w K mg base N qual (Zt st) f cdv A outer s H E) E->DSs (ZfW (CXE P w) P w K mg base N qual (Zt st) f cdv A outer s H E) E (Zap st) g):FnOk P w K mg base (CXE P w) (k+1) f fd ps (spD K (fnF g n m)):=by
 obtain⟨oc,od,kV,doc,pm,an,cdv,ct,osl,rfl,lk,hcd⟩:=F.ex;refine ZoZ lk hcd S (fun vs H Q E h=>?_) (fun A outer s H vs Q E hr h=>?_)
 ·obtain⟨ds,α,M,r,_,q⟩:=h;by_cases c:ds.length=n
  ·rw[r.length,c,hn]
  ·simp only[fnF,if_neg c]at q;exact q.elim
 ·obtain⟨ds,α,M,r,hh,q⟩:=h;obtain⟨t,p,w'⟩:=hb cdv A outer s H E hl hr Zlx;by_cases c:ds.length=n
  ·simp only[fnF,if_pos c]at q;refine⟨t,p,w' _ _ H α M _ (SR.start (N:=N) r (k:=m) (by rw[hm,c])) hh ?_⟩
   cases e:g (ds.map some++aH m none) M with
   |nx ρ' M'=>simp only[e]at q;exact fun σ' H' α' ex hr sr=>q _ H' α' ex hr .non
   |ret d M'=>simp only[e]at q;exact q
   |exc x M'=>simp only[e]at q;exact q
   |brk ρ' M'=>simp only[e]at q;exact q.elim
   |cnt ρ' M'=>simp only[e]at q;exact q.elim
   |bad=>simp only[e]at q;exact q.elim
  ·simp only[fnF,if_neg c]at q;exact q.elim
theorem ZpV{st:Stmt}(D:Df K x st)(hl:ZsL K x=true)(gl:∀c v,PySem.W.nsIn K aI c=some (some v)->mg c=some v)(hb:∀(cdv:aa)(A:cX)(outer:List Env)(s:aC)(H:Hp)(E:XK)(f:Addr),ZeU K cdv=true->N.Nodup->Room k (A.deeper (iI x (Zt st) s.heap.objs.size f cdv))->Thr (ZfW (CXE P w) P w K mg base N x (Zt st) f cdv A outer s H E) E->DSs (ZfW (CXE P w) P w K mg base N x (Zt st) f cdv A outer s H E) E (Zap st) g)(h1:autoParam ((Zt st).kind=.function) Qrf._auto_1)(h2:autoParam ((Zt st).isCoroutine=false) Qrf._auto_1)(h3:autoParam ((Zt st).isGenerator=false) Qrf._auto_1)(h4:N.Nodup:=by decide +kernel)(h5:autoParam ((N.take n).length=n) Qrf._auto_1)(h6:∀y∈N.take n,(Zt st).names.lookup y=some .local\/(Zt st).names.lookup y=some .cell:=by decide +kernel)(h7:∀y∈(Zt st).names,y.2≠ .free:=by decide +kernel)(hm:autoParam (m=N.length-n) Qrf._auto_1)(bi:∀(kV doc pm:aa)(an:Option Addr)(cdv ct:aa)(us:List aa),us.length=n->hG (PySem.W.fnOf x x (Zbh st) (Zap st) (Zt st) .none kV doc pm an cdv ct) ⟨us,[]⟩=pure ((N.take n).zip us):=by first|exact fun _ _ _ _ _ _=>Zuq fun _=>rfl|exact fun _ _ _ _ _ _=>Zur fun _ _=>rfl|exact fun _ _ _ _ _ _=>Zus fun _ _ _=>rfl):Cal P w K mg base x (k+1) n (fnF g n m):=by
 obtain⟨f,fd,a,F⟩:=D;have S:FnScope N (N.take n) (Zt st):=⟨h1,h2,h3,h4,by rw[h5],h6,h7⟩
 have hl':ZeU K fd.code=true:=by
  obtain⟨oc,od,kV,doc,pm,an,cdv,ct,osl,e,lk,hcd⟩:=F.ex;unfold ZsL at hl;rw[a]at hl;dsimp only at hl;rw[lk]at hl;exact hl
 exact⟨f,fd,N.take n,ZpU F hl' S h5.symm hm (fun cdv A outer s H E hc hr θ=>hb cdv A outer s H E f hc h4 hr θ),gl _ _ a,F.kp,h5,F.binds (fun kV doc pm an cdv ct us hu=>bi kV doc pm an cdv ct us (hu.trans h5))⟩
end
theorem ZvH(XN N:List Str)(dn:List (Str×cG))(fr:List Nat)(hN:autoParam (X.N=XN) Qrf._auto_1)(hd:autoParam (X.env.scope.names=dn) Qrf._auto_1)(hc:autoParam (X.env.cells=bN n dn []) Qrf._auto_1)(hk:autoParam (scope.kind=.function) Qrf._auto_1)(h:Zom XN N dn scope.names 1 fr=true:=by decide +kernel)(hl:scope.names.all (fun y=>y.2 != .cell)=true:=by decide +kernel)(co:autoParam (scope.isCoroutine=false) Qrf._auto_1)(gen:autoParam (scope.isGenerator=false) Qrf._auto_1)(hx:scope.names.lookup x=some .local:=by decide +kernel)(n0:autoParam (N[0]?=some x) Qrf._auto_1):Lms X scope (clF scope X.env) x N fr:=by
 have B:=Zhi XN N dn 1 fr hN hd hc hk h;unfold Zom at h;simp only[aT,eI,bne_iff_ne,ne_eq,Bool.or_eq_true,beq_iff_eq]at h hl;obtain⟨⟨h1,h2⟩,h3⟩:=h;refine⟨B.clos,hk,co,gen,hl,hx,B.sub,fun y z=>?_,n0,B.len,fun j i e=>?_⟩
 ·rcases z with z|z
  ·exact absurd rfl (hl _ (PySem.mem_of_lookup z))
  ·obtain⟨kd,r1,r2⟩:=ZaK (env:=X.env) z;obtain⟨c,hc⟩:=B.has 0 y (by
    rcases r1 with r1|r1
    ·exact .inl (r1▸r2)
    ·exact .inr (r1▸r2))
   rw[Zam]at hc;rcases ZcG hc with q|q
   ·exact absurd rfl (hl _ (ZaZ _ _ _ _ (PySem.mem_of_lookup q)))
   ·exact⟨c,q.2⟩
 ·obtain⟨y,a1,a2,a3,a4,a5,_⟩:=B.at_ j i e;refine⟨y,a1,a2,a3,?_,a5⟩;have q:=h3 j (cA.mpr (ar.mp e).1);rw[e]at q;dsimp only at q;rw[a1,<-hN,a2]at q;simp only[aT,beq_iff_eq]at q;exact q.1.2
end DL
namespace DL
open PyProof.Rows L2
theorem Reps.tk{K:Fg}{H:Hp}{α:List Addr}:∀{vs:List V}{ds:List D}(i:Nat),Reps K H α vs ds->Reps K H α (vs.take i) (ds.take i)
 |_,_,0,_=>.nil
 |_,_,_+1,.nil=>.nil
 |_,_,i+1,.cons r t=>.cons r (Reps.tk i t)
theorem Reps.dp{K:Fg}{H:Hp}{α:List Addr}:∀{vs:List V}{ds:List D}(i:Nat),Reps K H α vs ds->Reps K H α (vs.drop i) (ds.drop i)
 |_,_,0,h=>h
 |_,_,_+1,.nil=>.nil
 |_,_,i+1,.cons _ t=>Reps.dp i t
end DL
namespace DL
open PyProof.Rows L2
end DL
namespace DL
open L2
end DL
namespace DQ
open PyProof.Rows
end DQ
namespace DL
open PyProof.Rows L2
end DL
namespace SX
open PySem.Builtin.Str DL
noncomputable def stp(s:Str)(c L:Nat)(b:Array Nat×Nat)(a:Nat):Array Nat×Nat:=if(decide (b.1.size<L)&&decide (b.2<=a)&&decide (a+1<=s.length)&&subAt s ⟨#[c]⟩ a)=true then(b.1.push a,a+1)else(b.1,b.2)
end SX
namespace DL
open PyProof.Rows L2 SX
def okT(z:Str)(lo hi:Option Int):Prop:=0<=lo.getD 0/\lo.getD 0<=hi.getD z.cps.toList.length/\hi.getD z.cps.toList.length<=z.cps.toList.length
instance (z:Str) (lo hi:Option Int):Decidable (okT z lo hi):=by unfold okT;infer_instance
end DL
namespace DQ
open PyProof.Rows
open Builtin Builtin.ObjectAttr
open PySem.W (Looks findIn mroIn specialIn takesIn clsIn looks_findIn looks_mroIn looks_find findObj handedIn hasDictIn lookIn)
end DQ
namespace DL
open PyProof.Rows L2
open PySem.W (nsIn excIn tailIn nsOkIn mroIn clsIn typeIn findIn specialIn takesIn hasDictIn readsIn findCls handedIn)
end DL
namespace DL
open PyProof.Rows L2
open PySem.W (nsIn excIn tailIn nsOkIn mroIn clsIn typeIn findIn specialIn takesIn kitOne Looks looks_mroIn looks_typeIn exmAny exm_tup2)
end DL
namespace DL
open PyProof.Rows L2
theorem Znv(hl:ds.length=n)(h:g (ds.map some++aH k none) M=.ret d M'):fnF g n k ds M=.ok d M':=by
 unfold fnF;rw[if_pos hl,h]
theorem Zi1{M1:Sto}(e:g ρ M=.nx ρ1 M1):Zx g h ρ M=h ρ1 M1:=by
 unfold Zx;rw[e]
theorem Zi2(h1: -(2^64)<j)(h2:j<2^64):Zu i j:=.inr (.inl (intBits_le_64 h1 h2))
theorem Zi3(h1: -(2^64)<i)(h2:i<2^64):Zu i j:=.inl (intBits_le_64 h1 h2)
theorem at0{x:D}:atI (x::r) 0=some x:=by
 show(ixN (r.length+1) 0).bind _=_;unfold ixN;rw[if_pos (by decide),if_pos (by lia)]
 rfl
theorem at1{x:D}:atI (x::y::r) 1=some y:=by
 show(ixN (r.length+2) 1).bind _=_;unfold ixN;rw[if_pos (by decide),if_pos (by lia)]
 rfl
theorem ix0:ixN (n+1) 0=some 0:=by
 unfold ixN;rw[if_pos (by decide),if_pos (by lia)]
 rfl
theorem ix1:ixN (n+2) 1=some 1:=by
 unfold ixN;rw[if_pos (by decide),if_pos (by lia)]
 rfl
theorem ZkV{ns:List Int}(h:k<ns.length):atI (ns.map D.int) (k:Int)=some (.int ns[k]):=Zmz (by rw[bp,am h];rfl)
theorem Zgt{ρ:Ro}(h:ρ[i]?=some x):ρ.set i x=ρ:=by
 apply i6;intro k;by_cases hk:k=i
 ·subst hk;rw[aF (ar.mp h).1,h]
 ·rw[aE (bW hk)]
def cEu(i j:Nat):Sv:=Zg4 i j (Zc (Zg j) (Zc (e2 dMod (Zg i) (Zg j)) aNil))
theorem ZpW{c:Tv}{i j:Nat}{M:Sto}(hij:i≠j)(hc:∀(ρ:Ro)(b:Nat),ρ[j]?=some (some (.int b))->c ρ M=.ok (decide (b≠0)) M):∀(b a:Nat)(ρ:Ro),ρ[i]?=some (some (.int a))->ρ[j]?=some (some (.int b))->sWh c (cEu i j) ρ M=.nx ((ρ.set i (some (.int (ir a b:Nat)))).set j (some (.int 0))) M:=by
 intro b
 induction b using Nat.strongRecOn with
 |ind b ih=>
  intro a ρ hi hj;by_cases h0:b=0
  ·subst h0;rw[ZeC (M1:=M) (by rw[hc ρ 0 hj];rfl),Nat.gcd_zero_right,Zgt hi,Zgt (x:=some (.int 0)) hj]
  ·have hl:i<ρ.length:=(ar.mp hi).1;have hl2:j<ρ.length:=(ar.mp hj).1;have ht:c ρ M=.ok true M:=by rw[hc ρ b hj,decide_eq_true h0]
   have hb:cEu i j ρ M=.nx ((ρ.set i (some (.int b))).set j (some (.int (a%b:Nat)))) M:=by
    have hb0:¬(b:Int)=0:=by lia
    have hm:(a:Int).fmod (b:Int)=((a%b:Nat):Int):=by rw[iR _ (by lia)];rfl
    simp[cEu,Zg4,Zc,aNil,Zg,e2,dMod,Out.bind,Zav,hi,hj,hb0,hm,h0]
   have g1:((ρ.set i (some (.int b))).set j (some (.int (a%b:Nat))))[i]?=some (some (.int b)):=by
    rw[aE (bW hij),aF hl]
   have g2:((ρ.set i (some (.int b))).set j (some (.int (a%b:Nat))))[j]?=some (some (.int (a%b:Nat))):=by
    rw[aF (by simpa using hl2)]
   have q:=ih (a%b) (Nat.mod_lt _ (by lia)) b _ g1 g2
   rw[Zgb ht hb (by rw[q];intro z;cases z),q]
   have eg:ir b (a%b)=ir a b:=by rw[jL b,<-Nat.gcd_rec,jL]
   rw[eg,List.set_comm _ _ (bW hij),List.set_set,List.set_set]
theorem ZpX:eqF 12 M (.int a) (.int b)=some (a==b):=rfl
theorem ne0(ρ:Ro)(b:Nat)(h:ρ[j]?=some (some (.int b))):tv (e2 dNe (Zg j) (eC (.int 0))) ρ M=.ok (decide (b≠0)) M:=by
 simp[tv,e2,Zg,eC,h,Out.bind,dNe,ZpX];by_cases c:b=0
 ·subst c;rfl
 ·have:¬(b:Int)=0:=by lia
  simp[c,this]
theorem Zi4(a:Int):(if a<0 then -a else a)=(a.natAbs:Int):=by split<;>lia
def ZvI:Sv:=(Zx (Zg4 2 3 (Zc (Zj bAbs (Zc (Zg 0) aNil)) (Zc (Zj bAbs (Zc (Zg 1) aNil)) aNil))) (Zx (sWh (tv (e2 dNe (Zg 3) (eC (.int 0)))) (Zg4 2 3 (Zc (Zg 3) (Zc (e2 dMod (Zg 2) (Zg 3)) aNil)))) (Z1 (Zg 2))))
def FGcd:W3:=fnF ZvI 2 2
theorem ZlO(a b:Int)(M:Sto):FGcd [.int a,.int b] M=.ok (.int (eZ a b:Nat)) M:=by
 refine Znv rfl ?_;refine(Zi1 (ρ1:=[some (.int a),some (.int b),some (.int (a.natAbs:Nat)),some (.int (b.natAbs:Nat))]) (M1:=M) ?_).trans ?_
 ·simp[fnF,Zx,sNil,Z1,Zpr,ZaU,sIf,ZG,Zg4,Zly,Zav,gNm,gNl,gCs,gTp,DL.e2,Zg,eC,Zaq,ZbN,Zj,Zc,aNil,tv,Zcz,Zf3,Zb0,Zg3,Zvy,ZhN,eIf,Zfb,ZhS,Out.bind,dAdd,dSub,dMul,dDiv,dMod,dPow,dLt,dLe,dGt,dGe,dIx,atD,at0,at1,ix0,ix1,bLen,bAbs,bMax,bMin,bInt,bList,Zex,ZaH,kd,ZcE,dIs,dIsNot,isP,Zi4]
 ·have q:=ZpW (c:=tv (e2 dNe (Zg 3) (eC (.int 0)))) (i:=2) (j:=3) (M:=M) (by decide) ne0 b.natAbs a.natAbs [some (.int a),some (.int b),some (.int (a.natAbs:Nat)),some (.int (b.natAbs:Nat))] rfl rfl
  refine(Zi1 q).trans ?_;rfl
end DL
namespace DL
open PyProof.Rows L2
noncomputable def wO(o:Out β)(Q:β->Sto->Prop)(E:W2):Prop:=match o with
 |.ok a M=>Q a M
 |.exc c M=>E c M
 |.bad=>False
def wS(f:Fl)(N:W1)(R:W0)(B C:W1)(E:W2):Prop:=match f with
 |.nx ρ M=>N ρ M
 |.ret d M=>R d M
 |.brk ρ M=>B ρ M
 |.cnt ρ M=>C ρ M
 |.exc c M=>E c M
 |.bad=>False
noncomputable def Br(k:Bool)(A B:Prop):Prop:=(k=true->A)/\(k=false->B)
noncomputable def wG{β:Type}(o:Option β)(N:β->Prop):Prop:=match o with|some ρ=>N ρ|none=>False
noncomputable def wV(o:Option (Option D))(Q:D->Prop):Prop:=match o with|some (some d)=>Q d|_=>False
noncomputable def wI(x:D)(Q:Int->Prop):Prop:=match x with|.int i=>Q i|_=>False
noncomputable def wR(x:D)(Q:Nat->Prop):Prop:=match x with|.ref i=>Q i|_=>False
noncomputable def w1(x:List D)(Q:D->Prop):Prop:=match x with|[v]=>Q v|_=>False
noncomputable def w2(x:List D)(Q:D->D->Prop):Prop:=match x with|[v,w]=>Q v w|_=>False
noncomputable def wL(o:Option SO)(Q:List D->Prop):Prop:=match o with|some (.lst xs)=>Q xs|none=>False
section
variable {β:Type}{QG:β->Prop}{y:β}
theorem ZvJ:w1 [d] Q=Q d:=rfl
theorem ZvK:w2 [d,x] Q2=Q2 d x:=rfl
theorem ZvL:wV (some (some d)) Q=Q d:=rfl
theorem ZvM:wI (.int i) QI=QI i:=rfl
theorem ZvN:wR (.ref n) QR=QR n:=rfl
theorem ZvO:wL (some (.lst xs)) QL=QL xs:=rfl
theorem ZvP:wG (some y) QG=QG y:=rfl
end
section
variable {β:Type}{Q:β->Sto->Prop}{E:W2}{A A':Prop}
theorem Zo{d:β}:wO (.ok d M) Q E=Q d M:=rfl
theorem ZpY:wO (.exc c M:Out β) Q E=E c M:=rfl
theorem ZpZ:Br true A A'=A:=by simp[Br]
theorem Zux:Br false A A'=A':=by simp[Br]
theorem br(h1:k=true->A)(h2:k=false->A'):Br k A A':=⟨h1,h2⟩
theorem brD{p:Prop}[Decidable p](h1:p->A)(h2:¬p->A'):Br (decide p) A A':=⟨fun h=>h1 (of_decide_eq_true h),fun h=>h2 (of_decide_eq_false h)⟩
theorem Zci{o:Out β}{Q':β->Sto->Prop}(h:wO o Q E)(hq:∀d M,Q d M->Q' d M)(he:∀c M,E c M->E' c M):wO o Q' E':=by
 cases o with
 |ok d M=>exact hq d M h
 |exc c M=>exact he c M h
 |bad=>exact h
theorem Zb8{o:Out β}(h:wO o Q (fun _ _=>False)):∃d M',o=.ok d M'/\Q d M':=by
 cases o with
 |ok d M=>exact⟨d,M,rfl,h⟩
 |exc c M=>exact h.elim
 |bad=>exact h.elim
theorem ZB{o:Out γ}{f:γ->Sto->Out β}:wO (o.bind f) Q E=wO o (fun x M1=>wO (f x M1) Q E) E:=by cases o<;>rfl
end
section
variable {E:W2}{N B C:W1}{R:W0}{ρ:Ro}{M:Sto}{e f:Ev}
theorem ZsM:wO (e2 op f g ρ M) Q E=wO (f ρ M) (fun x M1=>wO (g ρ M1) (fun y M2=>wO (op x y M2) Q E) E) E:=by
 unfold e2;rw[ZB];congr 1;funext x M1;rw[ZB]
theorem ZvQ:wO (Zg i ρ M) Q E=wV ρ[i]? (fun d=>Q d M):=by
 unfold Zg;cases ρ[i]? with
 |none=>rfl
 |some o=>cases o<;>rfl
theorem Znw:wO (Zj F fs ρ M) Q E=wO (fs ρ M) (fun ds M1=>wO (F ds M1) Q E) E:=ZB
theorem Znx:wO (Zc f fs ρ M) Q E=wO (f ρ M) (fun x M1=>wO (fs ρ M1) (fun xs M2=>Q (x::xs) M2) E) E:=by
 unfold Zc;rw[ZB];congr 1;funext x M1;rw[ZB];congr 1
theorem Zp0:wO (Zaq fs ρ M) Q E=wO (fs ρ M) (fun xs M1=>xs.length<=1000/\Q (.tup xs) M1) E:=by
 unfold Zaq;rw[ZB];congr 1;funext x M1;by_cases h:x.length<=1000
 ·rw[if_pos h];simp[h,wO]
 ·rw[if_neg h];simp[h,wO]
theorem Zp1:wO (ZbN fs ρ M) Q E=wO (fs ρ M) (fun xs M1=>xs.length<=1000/\Q (.ref M1.length) (M1++[.lst xs])) E:=by
 unfold ZbN;rw[ZB];congr 1;funext x M1;by_cases h:x.length<=1000
 ·rw[if_pos h];simp[h,wO]
 ·rw[if_neg h];simp[h,wO]
theorem Zp2:wO (Zb0 t ρ M) Q E=wO (t ρ M) (fun k M1=>Q (!k) M1) E:=by
 unfold Zb0;rw[ZB];congr 1
theorem Zp3:wS (Zx a b ρ M) N R B C E=wS (a ρ M) (fun ρ1 M1=>wS (b ρ1 M1) N R B C E) R B C E:=by
 unfold Zx;cases a ρ M<;>rfl
theorem ZY{o:Out β}{k:β->Sto->Fl}:wS (Zav o k) N R B C E=wO o (fun x M1=>wS (k x M1) N R B C E) E:=by cases o<;>rfl
theorem Zp4:wS (Z1 f ρ M) N R B C E=wO (f ρ M) R E:=ZY
theorem Zny:wS (ZaU f ρ M) N R B C E=wO (f ρ M) (fun _ M1=>N ρ M1) E:=ZY
theorem Zp5:wS (ZG (gNm i) f ρ M) N R B C E=wO (f ρ M) (fun d M1=>N (ρ.set i (some d)) M1) E:=ZY
theorem Znz:wS (ZG (gTp gs) f ρ M) N R B C E=wO (f ρ M) (fun d M1=>wG (gTp gs d ρ) (fun r=>N r M1)) E:=by
 unfold ZG;rw[ZY];congr 1;funext d M1;cases gTp gs d ρ<;>rfl
theorem Zp6:wS (Zg4 i j fs ρ M) N R B C E=wO (fs ρ M) (fun ds M1=>w2 ds fun v w=>N ((ρ.set i (some v)).set j (some w)) M1) E:=by
 unfold Zg4;rw[ZY];congr 1;funext ds M1;rcases ds with _|⟨v,_|⟨w,_|⟨z,r⟩⟩⟩<;>rfl
theorem Zp7:wS (Zly fo fi f ρ M) N R B C E=wO (f ρ M) (fun d M1=>wO (fo ρ M1) (fun o M2=>wO (fi ρ M2) (fun i M3=>wR o fun n=>wI i fun k=>wL M3[n]? fun xs=>wG (ixN xs.length k) fun j=>N ρ (M3.set n (.lst (xs.set j d)))) E) E) E:=by
 unfold Zly;rw[ZY];congr 1;funext d M1;rw[ZY];congr 1;funext o M2;rw[ZY];congr 1;funext i M3;cases o<;>cases i<;>try rfl
 rename_i n k;cases e:M3[n]? with
 |none=>simp only[e,wR,wI,wL,wS]
 |some s=>
  cases s with
  |lst xs=>
   cases e2:ixN xs.length k<;>simp only[e,e2,wR,wI,wL,wG,wS]
theorem wF(hl:ds.length=n):wO (fnF a n k ds M) Q E=wS (a (ds.map some++aH k none) M) (fun _ M1=>Q .non M1) Q (fun _ _=>False) (fun _ _=>False) E:=by
 unfold fnF;rw[if_pos hl];cases a (ds.map some++aH k none) M<;>rfl
theorem Zi5(h:wS o N R B C E)(hn:∀ρ M,N ρ M->N' ρ M)(hr:∀d M,R d M->R' d M)(hb:∀ρ M,B ρ M->B' ρ M)(hc:∀ρ M,C ρ M->C' ρ M)(he:∀c M,E c M->E' c M):wS o N' R' B' C' E':=by
 cases o with
 |nx ρ M=>exact hn _ _ h
 |ret ρ M=>exact hr _ _ h
 |brk ρ M=>exact hb _ _ h
 |cnt ρ M=>exact hc _ _ h
 |exc ρ M=>exact he _ _ h
 |bad=>exact h
variable {tg:Tg}{bd:Sv}
theorem ZdX(I:Nat->Ro->Sto->Prop):∀(xs:List D)(k:Nat)(ρ:Ro)(M:Sto),I k ρ M->(∀i ρ M (h:i<xs.length),I (k+i) ρ M->wG (tg xs[i] ρ) fun r=>wS (bd r M) (I (k+i+1)) R N (I (k+i+1)) E)->(∀ρ M,I (k+xs.length) ρ M->N ρ M)->wS (Zbw tg bd xs ρ M) N R B C E
 |[],k,ρ,M,h,_,hn=>hn ρ M h
 |x::xs,k,ρ,M,h,st,hn=>by
  have s:=st 0 ρ M (by simp) h
  unfold Zbw;simp only[gJ,Nat.add_zero]at s;cases e:tg x ρ with
  |none=>rw[e]at s;exact s.elim
  |some ρ1=>
   rw[e]at s;simp only[wG]at s;have rc:∀ρ2 M2,I (k+1) ρ2 M2->wS (Zbw tg bd xs ρ2 M2) N R B C E:=fun ρ2 M2 h2=>ZdX I xs (k+1) ρ2 M2 h2 (fun i ρ M hi hI=>by
    have z:=st (i+1) ρ M (by simp;lia) (by rw[show k+(i+1)=k+1+i by lia];exact hI)
    simp only[jM]at z;rw[show k+(i+1)+1=k+1+i+1 by lia]at z
    exact z) (fun ρ M hI=>hn ρ M (by rw[show k+(x::xs).length=k+1+xs.length by simp;lia];exact hI))
   cases eg:bd ρ1 M<;>rw[eg]at s<;>simp only[eg]
   ·exact rc _ _ s
   ·exact s
   ·exact s
   ·exact rc _ _ s
   ·exact s
   ·exact s
theorem ZnA:wS (Zbc tg fs bd ρ M) N R B C E=wO (fs ρ M) (fun ds M1=>w1 ds fun d=>wI d fun j=>(-(2^62)<=j/\j<2^62)/\wS (Zbw tg bd (Zal 0 j.toNat) ρ M1) N R B C E) E:=by
 unfold Zbc;rw[ZY];congr 1;funext ds M1;rcases ds with _|⟨v,_|⟨w,r⟩⟩
 ·rfl
 ·cases v<;>try rfl
  rename_i j;by_cases h: -(2^62)<=j/\j<2^62
  ·simp only[w1,wI,eq_true h,true_and,if_true]
  ·simp only[w1,wI,eq_false h,false_and,if_false];rfl
 ·cases v<;>rfl
theorem ZbF(I:Nat->Ro->Sto->Prop){lo:Int}(h0:I 0 ρ M)(st:∀i ρ M,i<n->I i ρ M->wG (tg (.int (lo+i)) ρ) fun r=>wS (bd r M) (I (i+1)) R N (I (i+1)) E)(hn:∀ρ M,I n ρ M->N ρ M):wS (Zbw tg bd (Zal lo n) ρ M) N R B C E:=by
 have hl:(Zal lo n).length=n:=by simp[Zal]
 refine ZdX I _ 0 ρ M h0 (fun i ρ M h hI=>?_) (fun ρ M hI=>hn ρ M (by rw[hl,fB]at hI;exact hI))
 have:(Zal lo n)[i]=.int (lo+i):=by simp[Zal]
 rw[this];rw[fB]at *;exact st i ρ M (by rw[hl]at h;exact h) hI
theorem Zp8:wS (ZeD tg f bd ρ M) N R B C E=wO (f ρ M) (fun d M1=>wS (Zkq tg bd d ρ M1) N R B C E) E:=ZY
theorem ZnB(I:Nat->Ro->Sto->Prop){n:Nat}{xs:List D}:∀(f i:Nat)(ρ:Ro)(M:Sto),i+f=xs.length->I i ρ M->(∀i ρ M,I i ρ M->M[n]?=some (.lst xs))->(∀i ρ M (h:i<xs.length),I i ρ M->wG (tg xs[i] ρ) fun r=>wS (bd r M) (I (i+1)) R N (I (i+1)) E)->(∀ρ M,I xs.length ρ M->N ρ M)->wS (Zhh tg bd n f i ρ M) N R B C E:=by
  intro f
  induction f with
  |zero=>
   intro i ρ M e h hm st hn;have hx:=hm _ _ _ h;unfold Zhh;rw[hx]
   have:xs[i]?=none:=aJ (by lia)
   simp only[this];exact hn ρ M (by rw[show xs.length=i by lia];exact h)
  |succ f ih=>
   intro i ρ M e h hm st hn;have hx:=hm _ _ _ h;unfold Zhh;rw[hx];have hi:i<xs.length:=by lia
   have:xs[i]?=some xs[i]:=Gq hi
   simp only[this];have s:=st i ρ M hi h;cases e:tg xs[i] ρ with
   |none=>rw[e]at s;exact s.elim
   |some ρ1=>
    rw[e]at s;simp only[wG]at s;have rc:∀ρ2 M2,I (i+1) ρ2 M2->wS (Zhh tg bd n f (i+1) ρ2 M2) N R B C E:=fun ρ2 M2 h2=>ih (i+1) ρ2 M2 (by lia) h2 hm st hn
    cases eg:bd ρ1 M<;>rw[eg]at s<;>simp only[eg]
    ·exact rc _ _ s
    ·exact s
    ·exact s
    ·exact rc _ _ s
    ·exact s
    ·exact s
theorem Zaz(I:Nat->Ro->Sto->Prop)(hM:M[n]?=some (.lst xs))(h0:I 0 ρ M)(hm:∀i ρ M,I i ρ M->M[n]?=some (.lst xs))(st:∀i ρ M (h:i<xs.length),I i ρ M->wG (tg xs[i] ρ) fun r=>wS (bd r M) (I (i+1)) R N (I (i+1)) E)(hn:∀ρ M,I xs.length ρ M->N ρ M):wS (Zkq tg bd (.ref n) ρ M) N R B C E:=by
 show wS (match M[n]? with|some (.lst xs)=>Zhh tg bd n xs.length 0 ρ M|none=>.bad) N R B C E
 rw[hM];exact ZnB I xs.length 0 ρ M (by lia) h0 hm st hn
theorem ZnC:wS (ZeK tg fi bd ρ M) N R B C E=wO (fi ρ M) (fun src M1=>wS (ZeJ tg bd src (cnt src M1) 0 ρ M1) N R B C E) E:=ZY
theorem Zgu(I:Nat->Ro->Sto->Prop){src:Src}{xs:List D}:∀(f i:Nat)(ρ:Ro)(M:Sto),i<=xs.length->xs.length<=i+f->I i ρ M->(∀i ρ M,i<=xs.length->I i ρ M->nxt src i M=some xs[i]?)->(∀i ρ M (h:i<xs.length),I i ρ M->wG (tg xs[i] ρ) fun r=>wS (bd r M) (I (i+1)) R N (I (i+1)) E)->(∀ρ M,I xs.length ρ M->N ρ M)->wS (ZeJ tg bd src f i ρ M) N R B C E:=by
  intro f
  induction f with
  |zero=>
   intro i ρ M le e h hm st hn;have hx:=hm _ _ _ le h;unfold ZeJ;rw[hx];have hi:¬i<xs.length:=by lia
   have:xs[i]?=none:=aJ (by lia)
   simp only[this];exact hn ρ M (by rw[show xs.length=i by lia];exact h)
  |succ f ih=>
   intro i ρ M le e h hm st hn;have hx:=hm _ _ _ le h;unfold ZeJ;rw[hx];by_cases hi:i<xs.length
   ·have:xs[i]?=some xs[i]:=Gq hi
    simp only[this];have s:=st i ρ M hi h;cases e:tg xs[i] ρ with
    |none=>rw[e]at s;exact s.elim
    |some ρ1=>
     rw[e]at s;simp only[wG]at s;have rc:∀ρ2 M2,I (i+1) ρ2 M2->wS (ZeJ tg bd src f (i+1) ρ2 M2) N R B C E:=fun ρ2 M2 h2=>ih (i+1) ρ2 M2 (by lia) (by lia) h2 hm st hn
     cases eg:bd ρ1 M<;>rw[eg]at s<;>simp only[eg]
     ·exact rc _ _ s
     ·exact s
     ·exact s
     ·exact rc _ _ s
     ·exact s
     ·exact s
   ·have:xs[i]?=none:=aJ (by lia)
    simp only[this];exact hn ρ M (by rw[show xs.length=i by lia];exact h)
theorem ZkW{c:Tv}(I:Nat->Ro->Sto->Prop)(st:∀n ρ M,I n ρ M->wO (c ρ M) (fun k M1=>Br k (wS (bd ρ M1) (fun ρ2 M2=>∃m,m<n/\I m ρ2 M2) R N (fun ρ2 M2=>∃m,m<n/\I m ρ2 M2) E) (N ρ M1)) E):∀(n:Nat)(ρ:Ro)(M:Sto),I n ρ M->wS (sWh c bd ρ M) N R B C E:=by
 intro n
 induction n using Nat.strongRecOn with
 |ind n ih=>
  intro ρ M h;have s:=st n ρ M h;cases ec:c ρ M with
  |bad=>rw[ec]at s;exact s.elim
  |exc x M1=>rw[ec]at s;rw[Zcv (n:=1) (o:=.exc x M1) (by simp only[whN,ec])];exact s
  |ok k M1=>
   rw[ec]at s;cases k with
   |false=>
    rw[Zo,Zux]at s;rw[ZeC ec];exact s
   |true=>
    rw[Zo,ZpZ]at s;cases eg:bd ρ M1 with
    |nx ρ2 M2=>
     rw[eg]at s;obtain⟨m,hm,hI⟩:=s;have r:=ih m hm ρ2 M2 hI;rw[Zgb ec eg (by intro z;rw[z]at r;exact r)]
     exact r
    |cnt ρ2 M2=>
     rw[eg]at s;obtain⟨m,hm,hI⟩:=s;have r:=ih m hm ρ2 M2 hI;have nb:sWh c bd ρ2 M2≠ .bad:=by intro z;rw[z]at r;exact r
     obtain⟨j,ej⟩:=ZhY nb;rw[Zcv (n:=j+1) (o:=sWh c bd ρ2 M2) (by simp only[whN,ec,eg];exact ej)]
     exact r
    |brk ρ2 M2=>rw[eg]at s;rw[Zcv (n:=1) (o:=.nx ρ2 M2) (by simp only[whN,ec,eg])];exact s
    |ret d M2=>rw[eg]at s;rw[Zcv (n:=1) (o:=.ret d M2) (by simp only[whN,ec,eg])];exact s
    |exc d M2=>rw[eg]at s;rw[Zcv (n:=1) (o:=.exc d M2) (by simp only[whN,ec,eg])];exact s
    |bad=>rw[eg]at s;exact s.elim
theorem ZnD:wO (Zbe fi k fr tg c f ρ M) Q E=wO (fi ρ M) (fun src M1=>wO (Zgh src tg c f M1.length (cnt src M1) 0 (roB k fr ρ) (M1++[.lst []])) (fun _ M2=>Q (.ref M1.length) M2) (fun _ _=>False)) E:=by
 unfold Zbe;rw[ZB];congr 1;funext src M1;cases Zgh src tg c f M1.length (cnt src M1) 0 (roB k fr ρ) (M1++[.lst []])<;>rfl
theorem Zi6(I:Nat->Ro->Sto->Prop){src:Src}{xs:List D}{c:Tv}{m:Nat}{Q:Sto->Prop}:∀(fu i:Nat)(ρ:Ro)(M:Sto),i<=xs.length->xs.length<=i+fu->I i ρ M->(∀i ρ M,i<=xs.length->I i ρ M->nxt src i M=some xs[i]?)->(∀i ρ M (h:i<xs.length),I i ρ M->wG (tg xs[i] ρ) fun r=>wO (c r M) (fun k M1=>Br k (wO (f r M1) (fun y M2=>wL M2[m]? fun ys=>ys.length<10000000/\I (i+1) r (M2.set m (.lst (ys++[y])))) (fun _ _=>False)) (I (i+1) r M1)) (fun _ _=>False))->(∀ρ M,I xs.length ρ M->Q M)->wO (Zgh src tg c f m fu i ρ M) (fun _ M2=>Q M2) (fun _ _=>False):=by
  intro fu
  induction fu with
  |zero=>
   intro i ρ M le e h hm st hn;have hx:=hm _ _ _ le h;unfold Zgh;rw[hx];have hi:¬i<xs.length:=by lia
   have:xs[i]?=none:=aJ (by lia)
   simp only[this];exact hn ρ M (by rw[show xs.length=i by lia];exact h)
  |succ fu ih=>
   intro i ρ M le e h hm st hn;have hx:=hm _ _ _ le h;unfold Zgh;rw[hx];by_cases hi:i<xs.length
   ·have:xs[i]?=some xs[i]:=Gq hi
    simp only[this];have s:=st i ρ M hi h;cases e:tg xs[i] ρ with
    |none=>rw[e]at s;exact s.elim
    |some ρ1=>
     rw[e]at s;simp only[wG]at s;have rc:∀ρ2 M2,I (i+1) ρ2 M2->wO (Zgh src tg c f m fu (i+1) ρ2 M2) (fun _ M2=>Q M2) (fun _ _=>False):=fun ρ2 M2 h2=>ih (i+1) ρ2 M2 (by lia) (by lia) h2 hm st hn
     cases ec:c ρ1 M with
     |bad=>rw[ec]at s;exact s.elim
     |exc _ _=>rw[ec]at s;exact s.elim
     |ok k M1=>
      rw[ec]at s;rw[Zo]at s;cases k with
      |false=>
       rw[Zux]at s;simp only[ec];exact rc _ _ s
      |true=>
       rw[ZpZ]at s;simp only[ec];cases ef:f ρ1 M1 with
       |bad=>rw[ef]at s;exact s.elim
       |exc _ _=>rw[ef]at s;exact s.elim
       |ok y M2=>
        rw[ef,Zo]at s;simp only[ef];cases ey:M2[m]? with
        |none=>rw[ey]at s;exact s.elim
        |some o=>
         cases o with
         |lst ys=>
          rw[ey]at s;simp only[wL,ey]at s ⊢;rw[if_pos s.1];exact rc _ _ s.2
   ·have:xs[i]?=none:=aJ (by lia)
    simp only[this];exact hn ρ M (by rw[show xs.length=i by lia];exact h)
end
end DL
namespace DL
open PyProof.Rows L2
section
variable {M:Sto}{n:Nat}{lo:Ro->Sto->Out (Option Int)}
theorem ZeZ(h: -(18446744073709551616)<i/\i<18446744073709551616):Zu i j:=Zi3 h.1 h.2
theorem ZdY(h: -(18446744073709551616)<j/\j<18446744073709551616):Zu i j:=Zi2 h.1 h.2
theorem Ze0(h:0<j/\j<18446744073709551616):ZaN j:=by
 refine⟨by lia,?_⟩
 have:j.natAbs.log2<64:=(Nat.log2_lt (by lia)).mpr (by lia)
 lia
theorem ZsN:wO (dAdd (.int i) (.int j) M) Q E=Q (.int (i+j)) M:=rfl
theorem ZsO:wO (dSub (.int i) (.int j) M) Q E=Q (.int (i-j)) M:=rfl
theorem ZJ(h:Zu i j):wO (dMul (.int i) (.int j) M) Q E=Q (.int (i*j)) M:=by
 show wO (if Zu i j then _ else _) Q E=_
 rw[if_pos h];rfl
theorem ZsP(h: -(18446744073709551616)<i/\i<18446744073709551616):wO (dMul (.int i) (.int j) M) Q E=Q (.int (i*j)) M:=ZJ (ZeZ h)
theorem Zp9(h: -(18446744073709551616)<j/\j<18446744073709551616):wO (dMul (.int i) (.int j) M) Q E=Q (.int (i*j)) M:=ZJ (ZdY h)
theorem ZsQ(h:0<j/\j<18446744073709551616):wO (dDiv (.int i) (.int j) M) Q E=Q (.int (i/j)) M:=by
 show wO (if ZaN j then _ else _) Q E=_
 rw[if_pos (Ze0 h),iS _ (by lia)];rfl
theorem ZsR(h:0<j):wO (dMod (.int i) (.int j) M) Q E=Q (.int (i%j)) M:=by
 show wO (if j≠0 then _ else _) Q E=_
 rw[if_pos (by lia),iR _ (by lia)];rfl
theorem ZsS(h:0<=j/\j<=1000000/\i.natAbs<18446744073709551616):wO (dPow (.int i) (.int j) M) Q E=Q (.int (i^j.toNat)) M:=by
 show wO (if 0<=j/\j<=1000000/\i.natAbs<2^64 then _ else _) Q E=_
 rw[if_pos ⟨h.1,h.2.1,by lia⟩];rfl
theorem ZvR:wO (dLt (.int i) (.int j) M) Q E=Q (.bl (decide (i<j))) M:=rfl
theorem ZvS:wO (dLe (.int i) (.int j) M) Q E=Q (.bl (decide (i<=j))) M:=rfl
theorem ZvT:wO (dGt (.int i) (.int j) M) Q E=Q (.bl (decide (j<i))) M:=rfl
theorem ZvU:wO (dGe (.int i) (.int j) M) Q E=Q (.bl (decide (j<=i))) M:=rfl
theorem ZsT:wO (dAdd (.ref n) (.ref m) M) Q E=wL M[n]? fun xs=>wL M[m]? fun ys=>xs.length+ys.length<=10000000/\Q (.ref M.length) (M++[.lst (xs++ys)]):=by
 show wO (match M[n]?,M[m]? with|some (.lst xs),some (.lst ys)=>_|_,_=>_) Q E=_
 cases e1:M[n]? with
 |none=>rfl
 |some o=>
  cases o with
  |lst xs=>
   cases e2:M[m]? with
   |none=>rfl
   |some p=>
    cases p with
    |lst ys=>
     by_cases h:xs.length+ys.length<=10000000
     ·simp[wL,h,wO]
     ·simp[wL,h,wO]
theorem ZvV:wO (dEq x y M) Q E=wG (eqF 12 M x y) fun b=>Q (.bl b) M:=by
 show wO (match eqF 12 M x y with|some b=>_|none=>_) Q E=_
 cases eqF 12 M x y<;>rfl
theorem ZvW:wO (dNe x y M) Q E=wG (eqF 12 M x y) fun b=>Q (.bl (!b)) M:=by
 show wO (match eqF 12 M x y with|some b=>_|none=>_) Q E=_
 cases eqF 12 M x y<;>rfl
theorem ZvX:wO (dIs x y M) Q E=wG (isP x y) fun b=>Q (.bl b) M:=by
 show wO (match isP x y with|some b=>_|none=>_) Q E=_
 cases isP x y<;>rfl
theorem ZsU:wO (dIsNot x y M) Q E=wG (isP x y) fun b=>Q (.bl (!b)) M:=by
 show wO (match isP x y with|some b=>_|none=>_) Q E=_
 cases isP x y<;>rfl
theorem ZnE:wO (atD xs i M) Q E=wG (atI xs i) fun d=>Q d M:=by
 unfold atD;cases atI xs i<;>rfl
theorem ZsV:wO (dIx (.tup xs) (.int i) M) Q E=wG (atI xs i) fun d=>Q d M:=ZnE
theorem ZsW:wO (dIx (.rol xs) (.int i) M) Q E=wG (atI xs i) fun d=>Q d M:=ZnE
theorem ZsX:wO (dIx (.ref n) (.int i) M) Q E=wL M[n]? fun xs=>wG (atI xs i) fun d=>Q d M:=by
 show wO (match M[n]? with|some (.lst xs)=>atD xs i M|_=>.bad) Q E=_
 cases e1:M[n]? with
 |none=>rfl
 |some o=>cases o with|lst xs=>exact ZnE
theorem Zqa:wO (bLen [.ref n] M) Q E=wL M[n]? fun xs=>Q (.int xs.length) M:=by
 show wO (match(match M[n]? with|some (.lst xs)=>some xs|_=>none)with|some xs=>_|none=>_) Q E=_
 cases e1:M[n]? with
 |none=>rfl
 |some o=>cases o with|lst xs=>rfl
theorem Zqb:wO (bLen [.tup xs] M) Q E=Q (.int xs.length) M:=rfl
theorem Zqc:wO (bLen [.rol xs] M) Q E=Q (.int xs.length) M:=rfl
theorem ZsY:wO (bAbs [.int i] M) Q E=Q (.int (i.natAbs:Int)) M:=by rw[<-Zi4];rfl
theorem ZsZ:wO (bMax [.int i,.int j] M) Q E=Q (.int (max i j)) M:=by
 have:max i j=if j>i then j else i:=by split<;>lia
 rw[this];rfl
theorem Zs0:wO (bMin [.int i,.int j] M) Q E=Q (.int (min i j)) M:=by
 have:min i j=if j<i then j else i:=by split<;>lia
 rw[this];rfl
theorem Zqd:wO (bInt [.bl k] M) Q E=Q (.int (if k then 1 else 0)) M:=rfl
theorem Zqe:wO (bInt [.int i] M) Q E=Q (.int i) M:=rfl
theorem ZnF:wO (bList [.ref n] M) Q E=wL M[n]? fun xs=>Q (.ref M.length) (M++[.lst xs]):=by
 show wO (match(match M[n]? with|some (.lst xs)=>some xs|_=>none)with|some xs=>_|none=>_) Q E=_
 cases e1:M[n]? with
 |none=>rfl
 |some o=>cases o with|lst xs=>rfl
theorem ZnG:wO (bList [.tup xs] M) Q E=Q (.ref M.length) (M++[.lst xs]):=rfl
theorem ZvY:wO (ZvG [.ref n] M) Q E=wL M[n]? fun xs=>wG (ZcR xs) fun bs=>Q (.bl (bs.all id)) M:=by
 show wO (match M[n]? with|some (.lst xs)=>(match ZcR xs with|some bs=>Out.ok (.bl (bs.all id)) M|none=>.bad)|none=>.bad) Q E=_
 cases e1:M[n]? with
 |none=>rfl
 |some o=>
  cases o with
  |lst xs=>
   show wO (match ZcR xs with|some bs=>Out.ok (.bl (bs.all id)) M|none=>.bad) Q E=wG (ZcR xs) _
   cases ZcR xs<;>rfl
theorem Zqf:wO (Zdl g [.ref n] M) Q E=wL M[n]? fun xs=>wG (Zbf xs) fun ns=>wG (g ns) fun i=>Q (.int i) M:=by
 show wO (match(match M[n]? with|some (.lst xs)=>some xs|_=>none)with|some xs=>(match Zbf xs with|some ns=>(match g ns with|some i=>Out.ok (.int i) M|none=>.bad)|none=>.bad)|none=>.bad) Q E=_
 cases e1:M[n]? with
 |none=>rfl
 |some o=>
  cases o with
  |lst xs=>
   show wO (match Zbf xs with|some ns=>(match g ns with|some i=>Out.ok (.int i) M|none=>.bad)|none=>.bad) Q E=wG (Zbf xs) _
   cases Zbf xs with
   |none=>rfl
   |some ns=>
    show wO (match g ns with|some i=>Out.ok (.int i) M|none=>.bad) Q E=wG (g ns) _
    cases g ns<;>rfl
theorem ZvZ:wO (Zeh g fo fs ρ M) Q E=wO (fo ρ M) (fun x M1=>ZmS x M1=true/\wO (fs ρ M1) (fun ds M2=>wO (g x ds M2) Q E) E) E:=by
 unfold Zeh;rw[ZB];congr 1;funext x M1;by_cases h:ZmS x M1=true
 ·simp only[h,if_true,true_and];rw[ZB]
 ·simp[h,wO]
theorem Zqg:ZmS (.ref n) M=M[n]?.isSome:=rfl
theorem Zs1:wO (mApp (.ref n) [d] M) Q E=wL M[n]? fun xs=>xs.length<10000000/\Q .non (M.set n (.lst (xs++[d]))):=by
 show wO (match M[n]? with|some (.lst xs)=>if xs.length<10000000 then _ else _|none=>_) Q E=_
 cases e1:M[n]? with
 |none=>rfl
 |some o=>
  cases o with
  |lst xs=>
   by_cases h:xs.length<10000000
   ·simp[wL,h,wO]
   ·simp[wL,h,wO]
def slR(x:D)(l u:Option Int)(M3:Sto):Out D:=match x with
 |.ref n=>(match M3[n]? with|some (.lst xs)=>.ok (.ref M3.length) (M3++[.lst (Zfp xs l u)])|none=>.bad)
 |.rol xs=>.ok (.ref M3.length) (M3++[.lst (Zfp xs l u)])
 |.tup xs=>if HT.sIx xs.length 0 l=0/\HT.sIx xs.length xs.length u=xs.length then .bad else .ok (.tup (Zfp xs l u)) M3
 |_=>.bad
theorem Zs2:wO (eSl f lo hi ρ M) Q E=wO (f ρ M) (fun x M1=>wO (lo ρ M1) (fun l M2=>wO (hi ρ M2) (fun u M3=>wO (slR x l u M3) Q E) E) E) E:=by
 unfold eSl;rw[ZB];congr 1;funext x M1;rw[ZB];congr 1;funext l M2;rw[ZB];congr 1
theorem Zs3:wO (slR (.ref n) l u M) Q E=wL M[n]? fun xs=>Q (.ref M.length) (M++[.lst (Zfp xs l u)]):=by
 unfold slR;cases e1:M[n]? with
 |none=>simp only[e1];rfl
 |some o=>cases o with|lst xs=>simp only[e1];rfl
theorem Zs4:wO (oSo f ρ M) Q E=wO (f ρ M) (fun x M1=>wI x fun i=>Q (some i) M1) E:=by
 unfold oSo;rw[ZB];congr 1;funext x M1;cases x<;>rfl
theorem Zqh(h:0<=i):Zfp xs none (some i)=xs.take i.toNat:=by
 unfold Zfp;simp only[HT.sIx];rw[if_neg (by lia),List.drop_zero,Nat.sub_zero]
 by_cases c:i.toNat<=xs.length
 ·rw[ib c]
 ·rw[Nat.min_eq_right (by lia),bS (ac _),bS (by lia)]
theorem ZkX(h:0<=i):Zfp xs (some i) none=xs.drop i.toNat:=by
 unfold Zfp;simp only[HT.sIx];rw[if_neg (by lia)]
 by_cases c:i.toNat<=xs.length
 ·rw[ib c,bS (by simp)]
 ·rw[Nat.min_eq_right (by lia),dz (ac _),dz (by lia),List.take_nil]
theorem ZnH{L:Sto}:(M++L)[M.length]?=L[0]?:=by rw[aR (ac _),gy]
theorem ZrQ{L:Sto}:(M++L)[M.length+i]?=L[i]?:=by rw[aR (by lia)];congr 1;lia
theorem Ze1{L:Sto}(h:n<M.length):(M++L)[n]?=M[n]?:=ae h
theorem ZlP{L:Sto}:(M++L).set M.length o=M++L.set 0 o:=by rw[List.set_append_right _ _ (ac _),gy]
theorem Zqi(h:k≠n):(M.set n o)[k]?=M[k]?:=aE (bW h)
theorem Zqj(h:n<M.length):(M.set n o)[n]?=some o:=aF h
theorem Zs(h:M[n]?=some o):n<M.length:=(ar.mp h).1
noncomputable abbrev pr(x y:Int):D:=.tup [.int x,.int y]
def prs(rs:List (Int×Int)):List D:=rs.map fun p=>pr p.1 p.2
def nts(ns:List Int):List D:=ns.map D.int
theorem ZI:(prs rs).length=rs.length:=ay _
theorem ZdZ:(nts rs).length=rs.length:=ay _
theorem Zfy:prs a++prs b=prs (a++b):=(cD).symm
theorem Zi7:nts a++nts b=nts (a++b):=(cD).symm
theorem Zd0:(prs a).take n=prs (a.take n):=List.map_take.symm
theorem Zd1:(prs a).drop n=prs (a.drop n):=List.map_drop.symm
theorem ZkY:pr a b::prs r=prs ((a,b)::r):=rfl
theorem ZnI:(nts a).set n (.int b)=nts (a.set n b):=by unfold nts;rw[List.map_set]
noncomputable def cy(rs:List (Int×Int))(i:Int):Int×Int:=rs.getD (i%rs.length).toNat (0,0)
noncomputable def cn(rs:List Int)(i:Int):Int:=rs.getD (i%rs.length).toNat 0
theorem Zi8{n:Nat}(h: -(n:Int)<=i/\i<n):ixN n i=some (i%n).toNat:=by
 unfold ixN;by_cases c:0<=i
 ·rw[if_pos c,if_pos h.2,cS c h.2]
 ·rw[if_neg c,if_pos h.1]
  have:i%n=i+n:=by
   rw[<-iT,cS (by lia) (by lia)]
  rw[this]
theorem ZbG(h: -(rs.length:Int)<=i/\i<rs.length):atI (prs rs) i=some (pr (cy rs i).1 (cy rs i).2):=by
 unfold atI;rw[ZI,Zi8 h];have hp:(i%rs.length).toNat<rs.length:=by
  have:=bA i (show(0:Int)<rs.length by lia)
  have:=bX i (show(rs.length:Int)≠0 by lia)
  lia
 simp[prs,cy,am hp]
theorem Zi9(h: -(rs.length:Int)<=i/\i<rs.length):atI (nts rs) i=some (.int (cn rs i)):=by
 unfold atI;rw[ZdZ,Zi8 h];have hp:(i%rs.length).toNat<rs.length:=by
  have:=bA i (show(0:Int)<rs.length by lia)
  have:=bX i (show(rs.length:Int)≠0 by lia)
  lia
 simp[nts,cn,am hp]
theorem Zb9:cy rs (i%rs.length)=cy rs i:=by unfold cy;rw[kD _ (Int.dvd_refl _)]
theorem ZlQ:cy rs (i+rs.length)=cy rs i:=by unfold cy;rw[iT]
theorem Ze2:cy rs (i-rs.length)=cy rs i:=by unfold cy;rw[Int.sub_emod_right]
theorem Ze3{rs:List (Int×Int)}(h:k<rs.length):cy rs k=rs[k]:=by
 unfold cy;rw[cS (by lia) (by lia)]
 simp[am h]
theorem ZlR{rs:List Int}(h:k<rs.length):cn rs k=rs[k]:=by
 unfold cn;rw[cS (by lia) (by lia)]
 simp[am h]
theorem Zs5:eqF (n+1) M (.int a) (.int b)=some (decide (a=b)):=rfl
theorem Zv0:eqF (n+1) M (.bl a) (.bl b)=some (a==b):=rfl
theorem Zs6:eqF (n+2) M (pr a b) (pr c d)=some (decide ((a,b)=(c,d))):=by
 show some ((a==c)&&((b==d)&&true))=_;congr 1;rw[Bool.eq_iff_iff];simp
theorem ZlS:eqL (eqF (n+2) M) (prs rs) (prs ss)=some (decide (rs=ss)):=by
 induction rs generalizing ss with
 |nil=>cases ss<;>rfl
 |cons r rs ih=>
  cases ss with
  |nil=>rfl
  |cons s ss=>
   show(match eqF (n+2) M (pr r.1 r.2) (pr s.1 s.2)with|some a=>(match eqL _ (prs rs) (prs ss)with|some b=>some (a&&b)|none=>none)|none=>none)=_
   rw[Zs6,ih];simp only[];congr 1;rw[Bool.eq_iff_iff];obtain⟨r1,r2⟩:=r;obtain⟨s1,s2⟩:=s;simp
theorem Zja(h1:M[n]?=some (.lst xs))(h2:M[m]?=some (.lst ys)):eqF (k+1) M (.ref n) (.ref m)=if xs.length=ys.length then eqL (eqF k M) xs ys else some false:=by
 show(match kd M (.ref n),kd M (.ref m)with|some a,some b=>eqK (eqF k M) a b|_,_=>none)=_
 have e1:kd M (.ref n)=some (.lst xs):=by show(match M[n]? with|some (.lst xs)=>some (Kd.lst xs)|_=>none)=_;rw[h1]
 have e2:kd M (.ref m)=some (.lst ys):=by show(match M[m]? with|some (.lst xs)=>some (Kd.lst xs)|_=>none)=_;rw[h2]
 rw[e1,e2];rfl
theorem Zqk:ZaH M (.int i)=some "int":=rfl
theorem Zs7:ZaH M (.bl b)=some "bool":=rfl
theorem Zql:ZaH M (.tup xs)=some "tuple":=rfl
theorem Zqm:ZaH M .non=some "NoneType":=rfl
end
end DL
namespace DL
open PyProof.Rows L2
section
variable {xs:List D}
theorem ZnJ:wS (Zdr tg fs bd ρ M) N R B C E=wO (fs ρ M) (fun ds M1=>w2 ds fun x y=>wI x fun i=>wI y fun j=>(-(2^62)<=i/\i<2^62/\ -(2^62)<=j/\j<2^62)/\wS (Zbw tg bd (Zal i (j-i).toNat) ρ M1) N R B C E) E:=by
 unfold Zdr;rw[ZY];congr 1;funext ds M1;rcases ds with _|⟨v,_|⟨w,_|⟨w',r⟩⟩⟩
 ·rfl
 ·cases v<;>rfl
 ·cases v<;>try rfl
  cases w<;>try rfl
  rename_i i j;by_cases h: -(2^62)<=i/\i<2^62/\ -(2^62)<=j/\j<2^62
  ·simp only[w2,wI,eq_true h,true_and,if_true]
  ·simp only[w2,wI,eq_false h,false_and,if_false];rfl
 ·cases v<;>cases w<;>rfl
theorem Zv1:wO (iR1 fs ρ M) QS E=wO (fs ρ M) (fun ds M1=>w1 ds fun d=>wI d fun j=>(-(2^62)<=j/\j<2^62)/\QS (.pur (Zal 0 j.toNat)) M1) E:=by
 unfold iR1;rw[ZB];congr 1;funext ds M1;rcases ds with _|⟨v,_|⟨w,r⟩⟩
 ·rfl
 ·cases v<;>try rfl
  rename_i j;by_cases h: -(2^62)<=j/\j<2^62
  ·simp only[w1,wI,eq_true h,true_and,if_true,Zo]
  ·simp only[w1,wI,eq_false h,false_and,if_false];rfl
 ·cases v<;>rfl
theorem Zv2:wO (iR2 fs ρ M) QS E=wO (fs ρ M) (fun ds M1=>w2 ds fun x y=>wI x fun i=>wI y fun j=>(-(2^62)<=i/\i<2^62/\ -(2^62)<=j/\j<2^62)/\QS (.pur (Zal i (j-i).toNat)) M1) E:=by
 unfold iR2;rw[ZB];congr 1;funext ds M1;rcases ds with _|⟨v,_|⟨w,_|⟨w',r⟩⟩⟩
 ·rfl
 ·cases v<;>rfl
 ·cases v<;>try rfl
  cases w<;>try rfl
  rename_i i j;by_cases h: -(2^62)<=i/\i<2^62/\ -(2^62)<=j/\j<2^62
  ·simp only[w2,wI,eq_true h,true_and,if_true,Zo]
  ·simp only[w2,wI,eq_false h,false_and,if_false];rfl
 ·cases v<;>cases w<;>rfl
theorem Zv3:wO (iEn fs ρ M) QS E=wO (fs ρ M) (fun ds M1=>w1 ds fun d=>wR d fun n=>QS (.enu n) M1) E:=by
 unfold iEn;rw[ZB];congr 1;funext ds M1;rcases ds with _|⟨v,_|⟨w,r⟩⟩<;>try rfl
 ·cases v<;>rfl
 ·cases v<;>rfl
theorem Zv4:wO (iZp fs ρ M) QS E=wO (fs ρ M) (fun ds M1=>w2 ds fun x y=>wR x fun n=>wR y fun m=>QS (.zip n m) M1) E:=by
 unfold iZp;rw[ZB];congr 1;funext ds M1;rcases ds with _|⟨v,_|⟨w,_|⟨w',r⟩⟩⟩<;>try rfl
 ·cases v<;>rfl
 ·cases v<;>cases w<;>rfl
 ·cases v<;>cases w<;>rfl
noncomputable def Zqn(Q:W0)(ρ:Ro)(M:Sto):Prop:=Q .non M
theorem wF1:wO (fnF bd 1 k [x] M) Q E=wS (bd (some x::aH k none) M) (Zqn Q) Q (fun _ _=>False) (fun _ _=>False) E:=wF rfl
theorem wF2:wO (fnF bd 2 k [x,y] M) Q E=wS (bd (some x::some y::aH k none) M) (Zqn Q) Q (fun _ _=>False) (fun _ _=>False) E:=wF rfl
theorem wF3:wO (fnF bd 3 k [x,y,z] M) Q E=wS (bd (some x::some y::some z::aH k none) M) (Zqn Q) Q (fun _ _=>False) (fun _ _=>False) E:=wF rfl
theorem wF4:wO (fnF bd 4 k [x,y,z,d] M) Q E=wS (bd (some x::some y::some z::some d::aH k none) M) (Zqn Q) Q (fun _ _=>False) (fun _ _=>False) E:=wF rfl
theorem Zgv:prs a++[pr b c]=prs (a++[(b,c)]):=by simp[prs]
theorem ZkZ:nts a++[D.int b]=nts (a++[b]):=by simp[nts]
theorem Zk0:D.int b::nts r=nts (b::r):=rfl
theorem Zs8:isP .non .non=some true:=rfl
theorem Zs9:isP (.int i) .non=some false:=rfl
theorem Zta:isP (.tup xs) .non=some false:=rfl
theorem Ztb:isP (.ref n) .non=some false:=rfl
theorem Zfz(h:M[n]?=some (.lst xs)):cnt (.sto n) M=xs.length:=by show(match M[n]? with|some (.lst xs)=>xs.length|none=>0)=_;rw[h]
theorem ZnK(h:M[n]?=some (.lst xs)):cnt (.enu n) M=xs.length:=by show(match M[n]? with|some (.lst xs)=>xs.length|none=>0)=_;rw[h]
theorem Zjb(h:M[n]?=some (.lst xs)):cnt (.zip n m) M=xs.length:=by show(match M[n]? with|some (.lst xs)=>xs.length|none=>0)=_;rw[h]
theorem at2{r:List D}:atI (x::y::z::r) 2=some z:=by
 show(ixN (r.length+3) 2).bind _=_;unfold ixN;rw[if_pos (by decide),if_pos (by lia)]
 rfl
theorem Zqo:ZcE "int" "int"=true:=rfl
theorem Zqp:ZcE "int" "bool"=false:=rfl
theorem Zqq:ZcE "bool" "int"=true:=rfl
theorem Zqr:ZcE "bool" "bool"=true:=rfl
theorem Zqs:ZcE "tuple" "tuple"=true:=rfl
theorem Zqt:ZcE "list" "list"=true:=rfl
theorem Zqu:ZcE "tuple" "int"=false:=rfl
theorem Zqv:ZcE "tuple" "list"=false:=rfl
theorem Zqw:ZcE "list" "tuple"=false:=rfl
theorem Zqx:ZcE "list" "int"=false:=rfl
theorem Zqy:ZcE "NoneType" "tuple"=false:=rfl
theorem Zqz:ZcE "NoneType" "list"=false:=rfl
theorem ZqA(h:M[n]?=some (.lst xs)):nxt (.enu n) k M=some ((xs[k]?).map fun d=>D.tup [.int k,d]):=by
 show(match M[n]? with|some (.lst xs)=>(match xs[k]? with|some x=>some (some (D.tup [.int k,x]))|none=>some none)|none=>none)=_
 rw[h];simp only[];cases xs[k]?<;>rfl
theorem Zgw(h:M[n]?=some (.lst xs)):nxt (.sto n) k M=some xs[k]?:=by
 show(match M[n]? with|some (.lst xs)=>some xs[k]?|none=>none)=_
 rw[h]
theorem ZqB(I:Nat->Ro->Sto->Prop)(hM:M[n]?=some (.lst xs))(h0:I 0 ρ M)(hm:∀i ρ M,I i ρ M->M[n]?=some (.lst xs))(st:∀(i:Nat) ρ M (h:i<xs.length),I i ρ M->wG (tg (.tup [.int i,xs[i]]) ρ) fun r=>wS (bd r M) (I (i+1)) R N (I (i+1)) E)(hn:∀ρ M,I xs.length ρ M->N ρ M):wS (ZeJ tg bd (.enu n) (cnt (.enu n) M) 0 ρ M) N R B C E:=by
 rw[ZnK hM];have hl:(xs.mapIdx fun(k:Nat) d=>D.tup [.int k,d]).length=xs.length:=by simp
 refine Zgu I (xs:=xs.mapIdx fun(k:Nat) d=>D.tup [.int k,d]) _ 0 ρ M (by simp) (by simp) h0 (fun i ρ M _ hI=>?_) (fun i ρ M h hI=>?_) (fun ρ M hI=>hn ρ M (by rw[hl]at hI;exact hI))
 ·rw[ZqA (hm _ _ _ hI),List.getElem?_mapIdx]
 ·rw[List.getElem_mapIdx];exact st i ρ M (by rw[hl]at h;exact h) hI
theorem ZlT(h:M[n]?=some (.lst xs))(h':M[m]?=some (.lst ys)):nxt (.zip n m) k M=some ((b8 (fun a b=>D.tup [a,b]) xs ys)[k]?):=by
 show(match M[n]?,M[m]? with|some (.lst xs),some (.lst ys)=>(match xs[k]?,ys[k]? with|some x,some y=>some (some (D.tup [x,y]))|_,_=>some none)|_,_=>none)=_
 rw[h,h',jZ];simp only[];cases xs[k]?<;>cases ys[k]?<;>rfl
theorem ZlU(I:Nat->Ro->Sto->Prop)(hM:M[n]?=some (.lst xs))(hl:xs.length<=ys.length)(h0:I 0 ρ M)(hm:∀i ρ M,I i ρ M->M[n]?=some (.lst xs)/\M[m]?=some (.lst ys))(st:∀(i:Nat) ρ M (h:i<xs.length),I i ρ M->wG (tg (.tup [xs[i],ys[i]]) ρ) fun r=>wS (bd r M) (I (i+1)) R N (I (i+1)) E)(hn:∀ρ M,I xs.length ρ M->N ρ M):wS (ZeJ tg bd (.zip n m) (cnt (.zip n m) M) 0 ρ M) N R B C E:=by
 rw[Zjb hM];have hz:(b8 (fun a b=>D.tup [a,b]) xs ys).length=xs.length:=by simp;lia
 refine Zgu I (xs:=b8 (fun a b=>D.tup [a,b]) xs ys) _ 0 ρ M (by simp) (by simp;lia) h0 (fun i ρ M _ hI=>?_) (fun i ρ M h hI=>?_) (fun ρ M hI=>hn ρ M (by rw[hz]at hI;exact hI))
 ·rw[ZlT (hm _ _ _ hI).1 (hm _ _ _ hI).2]
 ·rw[kE];exact st i ρ M (by rw[hz]at h;exact h) hI
theorem ZnL(Inv:Ro->Prop)(F:Nat->D){Q:Sto->Prop}(hl:xs.length<10000000)(hcnt:xs.length<=cnt src M)(h0:Inv ρ)(hs:∀(L:Sto)(i:Nat),i<=xs.length->nxt src i (M++L)=some xs[i]?)(st:∀(i:Nat)(h:i<xs.length)(ρ:Ro)(L:Sto),Inv ρ->wG (tg xs[i] ρ) fun r=>Inv r/\wO (f r (M++L)) (fun y M2=>y=F i/\M2=M++L) (fun _ _=>False))(hq:Q (M++[.lst ((aL xs.length).map F)])):wO (Zgh src tg (fun _ M=>.ok true M) f M.length (cnt src M) 0 ρ (M++[.lst []])) (fun _ M2=>Q M2) (fun _ _=>False):=by
 refine Zi6 (fun i ρ M'=>Inv ρ/\M'=M++[.lst ((aL i).map F)]) (xs:=xs) _ 0 ρ _ (by simp) (by lia) ⟨h0,rfl⟩ (fun i ρ M' hi hI=>by rw[hI.2];exact hs _ i hi) (fun i ρ M' h hI=>?_) (fun ρ M' hI=>by rw[hI.2];exact hq)
 obtain⟨hI,rfl⟩:=hI;have s:=st i h ρ [.lst ((aL i).map F)] hI;cases e:tg xs[i] ρ with
 |none=>rw[e]at s;exact s.elim
 |some r=>
  rw[e]at s;obtain⟨hr,s⟩:=s;show Br true _ _;rw[ZpZ];refine Zci s (fun y M2 ⟨h1,h2⟩=>?_) (fun _ _ z=>z);subst h1 h2;rw[ZnH];refine⟨by simp;lia,hr,?_⟩
  rw[ZlP,cJ,cD];rfl
theorem ZnM:(aL n).map (fun i=>D.int (F i))=nts ((aL n).map F):=by simp[nts]
end
end DL
namespace DL
open PyProof.Rows L2
section
variable {E:W2}{N B C:W1}{R:W0}{ρ:Ro}{M:Sto}{xs:List D}{a bd:Sv}
def kU{β:Type}(u:β->Sto->Out γ)(Q:γ->Sto->Prop)(E:W2)(x:β)(M:Sto):Prop:=wO (u x M) Q E
noncomputable def kQ{β γ:Type}(Q:γ->Sto->Prop)(c:β->γ)(M:Sto)(x:β):Prop:=Q (c x) M
def kB2(op:Bo)(x:D)(Q:W0)(E:W2)(y:D)(M:Sto):Prop:=wO (op x y M) Q E
def kB1(op:Bo)(g:Ev)(ρ:Ro)(Q:W0)(E:W2)(x:D)(M:Sto):Prop:=wO (g ρ M) (kB2 op x Q E) E
theorem Zv5:wO (e2 op f g ρ M) Q E=wO (f ρ M) (kB1 op g ρ Q E) E:=ZsM
theorem y_c:wO (eC d ρ M) Q E=Q d M:=rfl
theorem y_v:wO (Zg k ρ M) Q E=wV ρ[k]? (kQ Q id M):=ZvQ
theorem ZqC:wO (Zj F fs ρ M) Q E=wO (fs ρ M) (kU F Q E) E:=Znw
noncomputable def kA2(x:D)(Q:List D->Sto->Prop)(xs:List D)(M:Sto):Prop:=Q (x::xs) M
def kA1(fs:Av)(ρ:Ro)(Q:List D->Sto->Prop)(E:W2)(x:D)(M:Sto):Prop:=wO (fs ρ M) (kA2 x Q) E
theorem Ztc:wO (aNil ρ M) QL E=QL [] M:=rfl
theorem ZqD:wO (Zc f fs ρ M) QL E=wO (f ρ M) (kA1 fs ρ QL E) E:=Znx
noncomputable def kTu(Q:W0)(xs:List D)(M:Sto):Prop:=xs.length<=1000/\Q (.tup xs) M
noncomputable def kLs(Q:W0)(xs:List D)(M:Sto):Prop:=xs.length<=1000/\Q (.ref M.length) (M++[.lst xs])
theorem Ztd:wO (Zaq fs ρ M) Q E=wO (fs ρ M) (kTu Q) E:=Zp0
theorem Zte:wO (ZbN fs ρ M) Q E=wO (fs ρ M) (kLs Q) E:=Zp1
noncomputable def Zuy(x:D)(M:Sto):Out D:=match x with|.int i=>.ok (.int (-i)) M|_=>.bad
theorem Ztf:wO (Zfb f ρ M) Q E=wO (f ρ M) (kU Zuy Q E) E:=by unfold Zfb;exact ZB
theorem ZqE:wO (Zuy (.int i) M) Q E=Q (.int (-i)) M:=rfl
def Ztg(T:String)(x:D)(M:Sto):Out D:=match ZaH M x with|some t=>.ok (.bl (ZcE t T)) M|none=>.bad
theorem Zth:wO (ZhS T f ρ M) Q E=wO (f ρ M) (kU (Ztg T) Q E) E:=by unfold ZhS;exact ZB
def kTy(T:String)(Q:W0)(M:Sto)(t:String):Prop:=Q (.bl (ZcE t T)) M
theorem ZqF:wO (Ztg T x M) Q E=wG (ZaH M x) (kTy T Q M):=by unfold Ztg;cases ZaH M x<;>rfl
noncomputable def tC(b:Bool):Tv:=fun _ M=>.ok b M
def BrO(k:Bool)(f g:Ro->Sto->Out β)(ρ:Ro)(M:Sto)(Q:β->Sto->Prop)(E:W2):Prop:=wO ((if k=true then f else g) ρ M) Q E
theorem Zv6{fO gO:Ro->Sto->Out β}{QO:β->Sto->Prop}:BrO true fO gO ρ M QO E=wO (fO ρ M) QO E:=rfl
theorem Zv7{fO gO:Ro->Sto->Out β}{QO:β->Sto->Prop}:BrO false fO gO ρ M QO E=wO (gO ρ M) QO E:=rfl
theorem brO{β:Type}{fO gO:Ro->Sto->Out β}{QO:β->Sto->Prop}{p:Prop}[Decidable p](h1:p->wO (fO ρ M) QO E)(h2:¬p->wO (gO ρ M) QO E):BrO (decide p) fO gO ρ M QO E:=by
 by_cases h:p
 ·rw[decide_eq_true h];exact h1 h
 ·rw[decide_eq_false h];exact h2 h
theorem Zv8{β:Type}{fO gO:Ro->Sto->Out β}{QO:β->Sto->Prop}{p:Prop}[Decidable p](h1:¬p->wO (fO ρ M) QO E)(h2:p->wO (gO ρ M) QO E):BrO (!decide p) fO gO ρ M QO E:=by
 by_cases h:p
 ·rw[decide_eq_true h];exact h2 h
 ·rw[decide_eq_false h];exact h1 h
theorem Zuz{fO gO:Ro->Sto->Out β}{QO:β->Sto->Prop}(P:β->Sto->Prop)(h:BrO b fO gO ρ M P E)(hn:∀x M,P x M->QO x M):BrO b fO gO ρ M QO E:=by
 cases b
 ·exact Zci h hn (fun _ _ z=>z)
 ·exact Zci h hn (fun _ _ z=>z)
def kIf(f g:Ev)(ρ:Ro)(Q:W0)(E:W2)(k:Bool)(M:Sto):Prop:=BrO k f g ρ M Q E
theorem Zv9:wO (eIf t f g ρ M) Q E=wO (t ρ M) (kIf f g ρ Q E) E:=by unfold eIf;rw[ZB];congr 1;funext k M1;cases k<;>rfl
def ZuA(g:Ev)(ρ:Ro)(x:D)(M:Sto):Out D:=match x with|.bl k=>if k=true then g ρ M else .ok (.bl false) M|_=>.bad
def ZuB(x:D)(M:Sto):Out D:=match x with|.bl k=>.ok (.bl (!k)) M|_=>.bad
def oTv(x:D)(M:Sto):Out Bool:=match x with|.bl k=>.ok k M|_=>.bad
theorem Zti:wO (Zg3 f g ρ M) Q E=wO (f ρ M) (kU (ZuA g ρ) Q E) E:=by unfold Zg3;exact ZB
theorem Ztj:wO (ZhN f ρ M) Q E=wO (f ρ M) (kU ZuB Q E) E:=by unfold ZhN;exact ZB
theorem ZqG:wO (ZuA g ρ (.bl b) M) Q E=BrO b g (eC (.bl false)) ρ M Q E:=by cases b<;>rfl
theorem ZqH:wO (ZuB (.bl b) M) Q E=Q (.bl (!b)) M:=rfl
theorem Zwa:wO (tv f ρ M) QB E=wO (f ρ M) (kU oTv QB E) E:=by unfold tv;exact ZB
theorem Ztk:wO (oTv (.bl b) M) QB E=QB b M:=rfl
def kTA(u:Tv)(ρ:Ro)(Q:Bool->Sto->Prop)(E:W2)(k:Bool)(M:Sto):Prop:=BrO k u (tC false) ρ M Q E
def kTO(u:Tv)(ρ:Ro)(Q:Bool->Sto->Prop)(E:W2)(k:Bool)(M:Sto):Prop:=BrO k (tC true) u ρ M Q E
noncomputable def kTN(Q:Bool->Sto->Prop)(k:Bool)(M:Sto):Prop:=Q (!k) M
theorem Zwb:wO (tC b ρ M) QB E=QB b M:=rfl
theorem ZqI:wO (Zcz t u ρ M) QB E=wO (t ρ M) (kTA u ρ QB E) E:=by unfold Zcz;rw[ZB];congr 1;funext k M1;cases k<;>rfl
theorem Ztl:wO (Zf3 t u ρ M) QB E=wO (t ρ M) (kTO u ρ QB E) E:=by unfold Zf3;rw[ZB];congr 1;funext k M1;cases k<;>rfl
theorem ZqJ:wO (Zb0 t ρ M) QB E=wO (t ρ M) (kTN QB) E:=Zp2
def kSq(b:Sv)(N:W1)(R:W0)(B C:W1)(E:W2)(ρ:Ro)(M:Sto):Prop:=wS (b ρ M) N R B C E
theorem Ztm:wS (Zx a bd ρ M) N R B C E=wS (a ρ M) (kSq bd N R B C E) R B C E:=Zp3
theorem ZqK:wS (sNil ρ M) N R B C E=N ρ M:=rfl
theorem Ztn:wS (Z1 f ρ M) N R B C E=wO (f ρ M) R E:=Zp4
theorem ZqL:wS (Zpr ρ M) N R B C E=R .non M:=rfl
noncomputable def kDr(ρ:Ro)(N:W1)(d:D)(M:Sto):Prop:=N ρ M
theorem ZqM:wS (ZaU f ρ M) N R B C E=wO (f ρ M) (kDr ρ N) E:=Zny
def BrS(k:Bool)(a b:Sv)(ρ:Ro)(M:Sto)(N:W1)(R:W0)(B C:W1)(E:W2):Prop:=wS ((if k=true then a else b) ρ M) N R B C E
theorem Zwc:BrS true a bd ρ M N R B C E=wS (a ρ M) N R B C E:=rfl
theorem Zwd:BrS false a bd ρ M N R B C E=wS (bd ρ M) N R B C E:=rfl
theorem brS{p:Prop}[Decidable p](h1:p->wS (a ρ M) N R B C E)(h2:¬p->wS (bd ρ M) N R B C E):BrS (decide p) a bd ρ M N R B C E:=by
 by_cases h:p
 ·rw[decide_eq_true h];exact h1 h
 ·rw[decide_eq_false h];exact h2 h
theorem Zwe{p:Prop}[Decidable p](h1:¬p->wS (a ρ M) N R B C E)(h2:p->wS (bd ρ M) N R B C E):BrS (!decide p) a bd ρ M N R B C E:=by
 by_cases h:p
 ·rw[decide_eq_true h];exact h2 h
 ·rw[decide_eq_false h];exact h1 h
theorem ZuC(h1:b=true->wS (a ρ M) N R B C E)(h2:b=false->wS (bd ρ M) N R B C E):BrS b a bd ρ M N R B C E:=by
 cases b
 ·exact h2 rfl
 ·exact h1 rfl
theorem ZuD(P:W1)(h:BrS b a bd ρ M P R B C E)(hn:∀ρ M,P ρ M->N ρ M):BrS b a bd ρ M N R B C E:=by
 cases b
 ·exact Zi5 h hn (fun _ _ z=>z) (fun _ _ z=>z) (fun _ _ z=>z) (fun _ _ z=>z)
 ·exact Zi5 h hn (fun _ _ z=>z) (fun _ _ z=>z) (fun _ _ z=>z) (fun _ _ z=>z)
def kSi(a b:Sv)(ρ:Ro)(N:W1)(R:W0)(B C:W1)(E:W2)(k:Bool)(M:Sto):Prop:=BrS k a b ρ M N R B C E
theorem Zto:wS (sIf t a bd ρ M) N R B C E=wO (t ρ M) (kSi a bd ρ N R B C E) E:=by unfold sIf;rw[ZY];congr 1;funext k M1;cases k<;>rfl
noncomputable def kAs(i:Nat)(ρ:Ro)(N:W1)(d:D)(M:Sto):Prop:=N (ρ.set i (some d)) M
theorem Ztp:wS (ZG (gNm k) f ρ M) N R B C E=wO (f ρ M) (kAs k ρ N) E:=Zp5
def kAt(gs:Tgs)(ρ:Ro)(N:W1)(d:D)(M:Sto):Prop:=wG (gTp gs d ρ) (kQ N id M)
theorem ZqN:wS (ZG (gTp gs) f ρ M) N R B C E=wO (f ρ M) (kAt gs ρ N) E:=Znz
noncomputable def ZuE(i j:Nat)(ρ:Ro)(N:W1)(M:Sto)(v w:D):Prop:=N ((ρ.set i (some v)).set j (some w)) M
def kPa(i j:Nat)(ρ:Ro)(N:W1)(ds:List D)(M:Sto):Prop:=w2 ds (ZuE i j ρ N M)
theorem Ztq:wS (Zg4 k m fs ρ M) N R B C E=wO (fs ρ M) (kPa k m ρ N) E:=Zp6
noncomputable def ZuF(n:Nat)(d:D)(xs:List D)(ρ:Ro)(N:W1)(M:Sto)(j:Nat):Prop:=N ρ (M.set n (.lst (xs.set j d)))
def ZuG(n:Nat)(k:Int)(d:D)(ρ:Ro)(N:W1)(M:Sto)(xs:List D):Prop:=wG (ixN xs.length k) (ZuF n d xs ρ N M)
def ZuH(n:Nat)(d:D)(ρ:Ro)(N:W1)(M:Sto)(k:Int):Prop:=wL M[n]? (ZuG n k d ρ N M)
def ZuI(i:D)(d:D)(ρ:Ro)(N:W1)(M:Sto)(n:Nat):Prop:=wI i (ZuH n d ρ N M)
def ZuJ(o:D)(d:D)(ρ:Ro)(N:W1)(i:D)(M:Sto):Prop:=wR o (ZuI i d ρ N M)
def ZuK(fi:Ev)(d:D)(ρ:Ro)(N:W1)(E:W2)(o:D)(M:Sto):Prop:=wO (fi ρ M) (ZuJ o d ρ N) E
def kPu(fo fi:Ev)(ρ:Ro)(N:W1)(E:W2)(d:D)(M:Sto):Prop:=wO (fo ρ M) (ZuK fi d ρ N E) E
theorem Ztr:wS (Zly fo fi f ρ M) N R B C E=wO (f ρ M) (kPu fo fi ρ N E) E:=Zp7
def ZuL(tg:Tg)(bd:Sv)(ρ:Ro)(N:W1)(R:W0)(B C:W1)(E:W2)(M:Sto)(j:Int):Prop:=(-(2^62)<=j/\j<2^62)/\wS (Zbw tg bd (Zal 0 j.toNat) ρ M) N R B C E
def ZuM(tg:Tg)(bd:Sv)(ρ:Ro)(N:W1)(R:W0)(B C:W1)(E:W2)(M:Sto)(d:D):Prop:=wI d (ZuL tg bd ρ N R B C E M)
def kR1(tg:Tg)(bd:Sv)(ρ:Ro)(N:W1)(R:W0)(B C:W1)(E:W2)(ds:List D)(M:Sto):Prop:=w1 ds (ZuM tg bd ρ N R B C E M)
theorem ZqO:wS (Zbc tg fs bd ρ M) N R B C E=wO (fs ρ M) (kR1 tg bd ρ N R B C E) E:=ZnA
def ZuN(tg:Tg)(bd:Sv)(ρ:Ro)(N:W1)(R:W0)(B C:W1)(E:W2)(M:Sto)(i:Int)(j:Int):Prop:=(-(2^62)<=i/\i<2^62/\ -(2^62)<=j/\j<2^62)/\wS (Zbw tg bd (Zal i (j-i).toNat) ρ M) N R B C E
def ZuO(tg:Tg)(bd:Sv)(ρ:Ro)(N:W1)(R:W0)(B C:W1)(E:W2)(M:Sto)(y:D)(i:Int):Prop:=wI y (ZuN tg bd ρ N R B C E M i)
def ZuP(tg:Tg)(bd:Sv)(ρ:Ro)(N:W1)(R:W0)(B C:W1)(E:W2)(M:Sto)(x y:D):Prop:=wI x (ZuO tg bd ρ N R B C E M y)
def kR2(tg:Tg)(bd:Sv)(ρ:Ro)(N:W1)(R:W0)(B C:W1)(E:W2)(ds:List D)(M:Sto):Prop:=w2 ds (ZuP tg bd ρ N R B C E M)
theorem ZqP:wS (Zdr tg fs bd ρ M) N R B C E=wO (fs ρ M) (kR2 tg bd ρ N R B C E) E:=ZnJ
def kFo(tg:Tg)(bd:Sv)(ρ:Ro)(N:W1)(R:W0)(B C:W1)(E:W2)(d:D)(M:Sto):Prop:=wS (Zkq tg bd d ρ M) N R B C E
theorem Zts:wS (ZeD tg f bd ρ M) N R B C E=wO (f ρ M) (kFo tg bd ρ N R B C E) E:=Zp8
theorem ZqQ:wS (Zkq tg bd (.tup xs) ρ M) N R B C E=wS (Zbw tg bd xs ρ M) N R B C E:=rfl
theorem ZqR:wS (Zkq tg bd (.rol xs) ρ M) N R B C E=wS (Zbw tg bd xs ρ M) N R B C E:=rfl
def kFs(tg:Tg)(bd:Sv)(ρ:Ro)(N:W1)(R:W0)(B C:W1)(E:W2)(src:Src)(M:Sto):Prop:=wS (ZeJ tg bd src (cnt src M) 0 ρ M) N R B C E
theorem ZqS:wS (ZeK tg fi bd ρ M) N R B C E=wO (fi ρ M) (kFs tg bd ρ N R B C E) E:=ZnC
def hT(cs:List Str)(gh:Sv)(W:List Bool)(i:Nat)(ρ:Ro)(c:Str)(M:Sto):Fl:=if cs.contains c=true then(match gh ((kpR W ρ).set i (some (.err c (fsE c M)))) (stE c M)with|.ret d M2=>.ret d M2|.nx _ M2=>.nx (aH ρ.length none) M2|_=>.bad)else .bad
noncomputable def Zwf(Q:W0)(M1:Sto)(u:Unit)(M:Sto):Prop:=Q (.ref M1.length) M
def kCo(tg:Tg)(c:Tv)(f:Ev)(k:Nat)(fr:List Nat)(ρ:Ro)(Q:W0)(src:Src)(M:Sto):Prop:=wO (Zgh src tg c f M.length (cnt src M) 0 (roB k fr ρ) (M++[.lst []])) (Zwf Q M) (fun _ _=>False)
theorem ZqT:wO (Zbe fi k fr tg t f ρ M) Q E=wO (fi ρ M) (kCo tg t f k fr ρ Q) E:=ZnD
def ZuQ(QS:Src->Sto->Prop)(M:Sto)(j:Int):Prop:=(-(2^62)<=j/\j<2^62)/\QS (.pur (Zal 0 j.toNat)) M
def ZuR(QS:Src->Sto->Prop)(M:Sto)(d:D):Prop:=wI d (ZuQ QS M)
def kS1(QS:Src->Sto->Prop)(ds:List D)(M:Sto):Prop:=w1 ds (ZuR QS M)
theorem Zwg:wO (iR1 fs ρ M) QS E=wO (fs ρ M) (kS1 QS) E:=Zv1
def ZuS(QS:Src->Sto->Prop)(M:Sto)(i:Int)(j:Int):Prop:=(-(2^62)<=i/\i<2^62/\ -(2^62)<=j/\j<2^62)/\QS (.pur (Zal i (j-i).toNat)) M
def ZuT(QS:Src->Sto->Prop)(M:Sto)(y:D)(i:Int):Prop:=wI y (ZuS QS M i)
def ZuU(QS:Src->Sto->Prop)(M:Sto)(x y:D):Prop:=wI x (ZuT QS M y)
def kS2(QS:Src->Sto->Prop)(ds:List D)(M:Sto):Prop:=w2 ds (ZuU QS M)
theorem Zwh:wO (iR2 fs ρ M) QS E=wO (fs ρ M) (kS2 QS) E:=Zv2
noncomputable def oSq(d:D)(M:Sto):Out Src:=match d with|.tup ds=>.ok (.pur ds) M|.rol ds=>.ok (.pur ds) M|.con ds=>.ok (.pur ds) M|.ref n=>.ok (.sto n) M|_=>.bad
theorem Zwi:wO (iSq f ρ M) QS E=wO (f ρ M) (kU oSq QS E) E:=by unfold iSq;exact ZB
theorem Ztt:wO (oSq (.tup xs) M) QS E=QS (.pur xs) M:=rfl
theorem Ztu:wO (oSq (.rol xs) M) QS E=QS (.pur xs) M:=rfl
theorem Ztv:wO (oSq (.ref n) M) QS E=QS (.sto n) M:=rfl
def ZuV(QS:Src->Sto->Prop)(M:Sto)(d:D):Prop:=wR d (kQ QS .enu M)
def kEn(QS:Src->Sto->Prop)(ds:List D)(M:Sto):Prop:=w1 ds (ZuV QS M)
theorem Zwj:wO (iEn fs ρ M) QS E=wO (fs ρ M) (kEn QS) E:=Zv3
def ZuW(QS:Src->Sto->Prop)(M:Sto)(y:D)(n:Nat):Prop:=wR y (kQ QS (.zip n) M)
def ZuX(QS:Src->Sto->Prop)(M:Sto)(x y:D):Prop:=wR x (ZuW QS M y)
def kZp(QS:Src->Sto->Prop)(ds:List D)(M:Sto):Prop:=w2 ds (ZuX QS M)
theorem Zwk:wO (iZp fs ρ M) QS E=wO (fs ρ M) (kZp QS) E:=Zv4
noncomputable def ZqU(xs:List D)(M:Sto)(Q:W0)(ys:List D):Prop:=xs.length+ys.length<=10000000/\Q (.ref M.length) (M++[.lst (xs++ys)])
def ZuY(m:Nat)(M:Sto)(Q:W0)(xs:List D):Prop:=wL M[m]? (ZqU xs M Q)
theorem Ztw:wO (dAdd (.ref n) (.ref m) M) Q E=wL M[n]? (ZuY m M Q):=ZsT
def kEq(Q:W0)(M:Sto)(b:Bool):Prop:=Q (.bl b) M
def kNe(Q:W0)(M:Sto)(b:Bool):Prop:=Q (.bl (!b)) M
theorem Zwl:wO (dEq x y M) Q E=wG (eqF 12 M x y) (kEq Q M):=ZvV
theorem Zwm:wO (dNe x y M) Q E=wG (eqF 12 M x y) (kNe Q M):=ZvW
theorem Zwn:wO (dIs x y M) Q E=wG (isP x y) (kEq Q M):=ZvX
theorem Ztx:wO (dIsNot x y M) Q E=wG (isP x y) (kNe Q M):=ZsU
theorem Zk1:wO (dNotInE x y M) Q E=wG (inE x y M) (kNe Q M):=by unfold dNotInE;cases inE x y M<;>rfl
theorem Zty:wO (dIx (.tup xs) (.int i) M) Q E=wG (atI xs i) (kQ Q id M):=ZsV
theorem Ztz:wO (dIx (.rol xs) (.int i) M) Q E=wG (atI xs i) (kQ Q id M):=ZsW
def kIx(i:Int)(Q:W0)(M:Sto)(xs:List D):Prop:=wG (atI xs i) (kQ Q id M)
theorem ZtA:wO (dIx (.ref n) (.int i) M) Q E=wL M[n]? (kIx i Q M):=ZsX
noncomputable def ZuZ(Q:W0)(M:Sto)(xs:List D):Prop:=Q (.int xs.length) M
theorem ZqV:wO (bLen [.ref n] M) Q E=wL M[n]? (ZuZ Q M):=Zqa
noncomputable def kLi(Q:W0)(M:Sto)(xs:List D):Prop:=Q (.ref M.length) (M++[.lst xs])
theorem ZnN:wO (bList [.ref n] M) Q E=wL M[n]? (kLi Q M):=ZnF
def ZrR(g:List Int->Option Int)(Q:W0)(M:Sto)(ns:List Int):Prop:=wG (g ns) (kQ Q .int M)
def ZrS(g:List Int->Option Int)(Q:W0)(M:Sto)(xs:List D):Prop:=wG (Zbf xs) (ZrR g Q M)
theorem ZqW:wO (Zdl gi [.ref n] M) Q E=wL M[n]? (ZrS gi Q M):=Zqf
def kMt(g:Me)(fs:Av)(ρ:Ro)(Q:W0)(E:W2)(x:D)(M:Sto):Prop:=ZmS x M=true/\wO (fs ρ M) (kU (g x) Q E) E
theorem Zwo:wO (Zeh me fo fs ρ M) Q E=wO (fo ρ M) (kMt me fs ρ Q E) E:=ZvZ
noncomputable def Zu0(n:Nat)(d:D)(Q:W0)(M:Sto)(xs:List D):Prop:=xs.length<10000000/\Q .non (M.set n (.lst (xs++[d])))
theorem ZtB:wO (mApp (.ref n) [d] M) Q E=wL M[n]? (Zu0 n d Q M):=Zs1
def Zu1(l u:Option Int)(Q:W0)(M:Sto)(xs:List D):Prop:=Q (.ref M.length) (M++[.lst (Zfp xs l u)])
def Zu2(x:D)(l:Option Int)(Q:W0)(E:W2)(u:Option Int)(M:Sto):Prop:=wO (slR x l u M) Q E
def Zu3(x:D)(hi:Ro->Sto->Out (Option Int))(ρ:Ro)(Q:W0)(E:W2)(l:Option Int)(M:Sto):Prop:=wO (hi ρ M) (Zu2 x l Q E) E
def Zu4(lo hi:Ro->Sto->Out (Option Int))(ρ:Ro)(Q:W0)(E:W2)(x:D)(M:Sto):Prop:=wO (lo ρ M) (Zu3 x hi ρ Q E) E
theorem Zwp{lo:Ro->Sto->Out (Option Int)}:wO (eSl f lo hi ρ M) Q E=wO (f ρ M) (Zu4 lo hi ρ Q E) E:=Zs2
theorem ZtC:wO (slR (.ref n) l u' M) Q E=wL M[n]? (Zu1 l u' Q M):=Zs3
theorem ZtD:wO (oNo ρ M) QI E=QI none M:=rfl
def Zu5(Q:Option Int->Sto->Prop)(x:D)(M:Sto):Prop:=wI x (kQ Q some M)
theorem ZtE:wO (oSo f ρ M) QI E=wO (f ρ M) (Zu5 QI) E:=Zs4
def kWh(bd:Sv)(ρ:Ro)(I:W1)(N:W1)(R:W0)(B C:W1)(E:W2)(k:Bool)(M:Sto):Prop:=Br k (wS (bd ρ M) I R N I E) (N ρ M)
theorem ZtF(I:Nat->Ro->Sto->Prop)(st:∀n ρ M,I n ρ M->wO (c ρ M) (kWh bd ρ (fun ρ2 M2=>∃m,m<n/\I m ρ2 M2) N R B C E) E)(n:Nat)(ρ:Ro)(M:Sto)(h:I n ρ M):wS (sWh c bd ρ M) N R B C E:=ZkW I st n ρ M h
theorem ZtG{I:W1}{p:Prop}[Decidable p](h1:p->wS (bd ρ M) I R N I E)(h2:¬p->N ρ M):kWh bd ρ I N R B C E (decide p) M:=brD h1 h2
theorem ZcY(h:k<n):ixN n (k:Int)=some k:=by
 unfold ixN;rw[if_pos (by lia),if_pos (by lia)]
 simp
theorem ZrT(Inv:Ro->Prop)(F:Nat->D)(hl:xs.length<10000000)(hcnt:xs.length<=cnt src M)(h0:Inv (roB k fr ρ))(hs:∀(L:Sto)(i:Nat),i<=xs.length->nxt src i (M++L)=some xs[i]?)(st:∀(i:Nat)(h:i<xs.length)(ρ:Ro)(L:Sto),Inv ρ->wG (tg xs[i] ρ) fun r=>Inv r/\wO (f r (M++L)) (fun y M2=>y=F i/\M2=M++L) (fun _ _=>False))(hq:Q (.ref M.length) (M++[.lst ((aL xs.length).map F)])):kCo tg (fun _ M=>.ok true M) f k fr ρ Q src M:=ZnL (Q:=fun M2=>Q (.ref M.length) M2) Inv F hl hcnt h0 hs st hq
theorem ZrU(Inv:Ro->Prop)(F:Nat->D)(hM:M[n]?=some (.lst xs))(hl:xs.length<10000000)(h0:Inv (roB k fr ρ))(st:∀(i:Nat)(h:i<xs.length)(ρ:Ro)(L:Sto),Inv ρ->wG (tg xs[i] ρ) fun r=>Inv r/\wO (f r (M++L)) (fun y M2=>y=F i/\M2=M++L) (fun _ _=>False))(hq:Q (.ref M.length) (M++[.lst ((aL xs.length).map F)])):kCo tg (fun _ M=>.ok true M) f k fr ρ Q (.sto n) M:=
 ZrT (xs:=xs) Inv F hl (by rw[Zfz hM];exact ac _) h0 (fun L i hi=>by rw[Zgw];rw[ae (Zs hM)];exact hM) st hq
end
end DL
namespace DL
open L2
end DL
namespace DL
open L2
noncomputable def Zu6(i j:Nat)(ρ:Ro)(N:W1)(d:D)(M:Sto):Prop:=N ((ρ.set i (some d)).set j (some d)) M
theorem ZqX:wS (ZG (ZrP (gNm k) (gNm m)) f ρ M) N R B C E=wO (f ρ M) (Zu6 k m ρ N) E:=ZY
section
variable {src:Src}{tg:Tg}{c:Tv}{g:Ro->Sto->Out Ro}{P:Nat->Ro->Sto->Prop}
theorem ZcJ(n:Nat)(step:∀i ρ M,i<n->P i ρ M->∃d ρ1 M1,nxt src i M=some (some d)/\tg d ρ=some ρ1/\((c ρ1 M=.ok false M1/\P (i+1) ρ1 M1)\/∃ρ2 M2,c ρ1 M=.ok true M1/\g ρ1 M1=.ok ρ2 M2/\P (i+1) ρ2 M2))(stop:∀ρ M,P n ρ M->nxt src n M=some none):∀(fuel i:Nat)(ρ:Ro)(M:Sto),i<=n->n-i<=fuel->P i ρ M->∃ρ' M',Zcw src tg c g fuel i ρ M=.ok ρ' M'/\P n ρ' M':=by
 intro fuel
 induction fuel with
 |zero=>
  intro i ρ M hi hf h;have e:i=n:=by lia
  subst e;exact⟨ρ,M,by rw[Zcw,stop ρ M h],h⟩
 |succ fuel ih=>
  intro i ρ M hi hf h;by_cases q:i=n
  ·subst q;exact⟨ρ,M,by rw[Zcw,stop ρ M h],h⟩
  ·obtain⟨d,ρ1,M1,e1,e2,e3⟩:=step i ρ M (by lia) h
   rcases e3 with⟨e3,h3⟩|⟨ρ2,M2,e3,e4,h3⟩
   ·obtain⟨ρ',M',z1,z2⟩:=ih (i+1) ρ1 M1 (by lia) (by lia) h3
    exact⟨ρ',M',by rw[Zcw,e1];simp only[e2,e3];exact z1,z2⟩
   ·obtain⟨ρ',M',z1,z2⟩:=ih (i+1) ρ2 M2 (by lia) (by lia) h3
    exact⟨ρ',M',by rw[Zcw,e1];simp only[e2,e3,e4];exact z1,z2⟩
def ZtH(tg:Tg)(c:Tv)(g:Nat->Ro->Sto->Out Ro)(k:Nat)(fr:List Nat)(ρ:Ro)(Q:W0)(src:Src)(M1:Sto):Prop:=∃ρ' M',Zcw src tg c (g M1.length) (cnt src M1) 0 (roB k fr ρ) (M1++[.lst []])=.ok ρ' M'/\Q (.ref M1.length) M'
theorem Zjc{g:Nat->Ro->Sto->Out Ro}:wO (Zbd fi k fr tg c g ρ M) Q E=wO (fi ρ M) (ZtH tg c g k fr ρ Q) E:=by
 unfold Zbd;rw[ZB];congr 1;funext src M1;unfold ZtH;cases e:Zcw src tg c (g M1.length) (cnt src M1) 0 (roB k fr ρ) (M1++[.lst []])with
 |ok ρ' M'=>exact propext ⟨fun h=>⟨ρ',M',rfl,h⟩,fun⟨_,_,z,h⟩=>by cases z;exact h⟩
 |exc x M'=>exact propext ⟨fun h=>h.elim,fun⟨_,_,z,_⟩=>by cases z⟩
 |bad=>exact propext ⟨fun h=>h.elim,fun⟨_,_,z,_⟩=>by cases z⟩
end
end DL
namespace DL
open L2
def ZnO(gs:Tgs)(ρ:Ro)(N:W1)(M:Sto)(ds:List D):Prop:=wG (gs ds ρ) (kQ N id M)
def ZqY(gs:Tgs)(ρ:Ro)(N:W1)(M:Sto)(n:Nat):Prop:=wL M[n]? (ZnO gs ρ N M)
def Zu7(gs:Tgs)(ρ:Ro)(N:W1)(d:D)(M:Sto):Prop:=wR d (ZqY gs ρ N M)
theorem ZqZ:wS (ZkI gs f ρ M) N R B C E=wO (f ρ M) (Zu7 gs ρ N) E:=by
 unfold ZkI;rw[ZY];congr 1;funext d M1;cases d with
 |ref n=>
  show wS (match M1[n]? with|some (.lst ds)=>(match gs ds ρ with|some ρ1=>Fl.nx ρ1 M1|none=>.bad)|none=>.bad) N R B C E=wL M1[n]? (ZnO gs ρ N M1)
  cases M1[n]? with
  |none=>rfl
  |some o=>
   cases o with
   |lst ds=>
    show wS (match gs ds ρ with|some ρ1=>Fl.nx ρ1 M1|none=>.bad) N R B C E=wG (gs ds ρ) (kQ N id M1)
    cases gs ds ρ<;>rfl
 |_=>rfl
noncomputable def kZt(QS:Src->Sto->Prop)(ds:List D)(M:Sto):Prop:=∃n es,ds=[.ref n,.tup es]/\QS (.zipT n es) M
theorem Zu8:wO (DLy2.iZt fs ρ M) QS E=wO (fs ρ M) (kZt QS) E:=by
 unfold DLy2.iZt;rw[ZB];congr 1;funext ds M1;refine propext ⟨fun h=>?_,fun h=>?_⟩
 ·split at h
  ·exact⟨_,_,rfl,h⟩
  ·exact h.elim
 ·obtain⟨n,es,rfl,h⟩:=h;exact h
noncomputable def zpT(xs es:List D):List D:=b8 (fun x y=>D.tup [x,y]) xs es
theorem Zjd(h:es.length<=xs.length):(zpT xs es).length=es.length:=by simp[zpT];lia
theorem Zje(h:M[n]?=some (.lst xs))(i:Nat):nxt (.zipT n es) i M=some (zpT xs es)[i]?:=by
 simp only[nxt,h,zpT,jZ];cases xs[i]?<;>cases es[i]?<;>rfl
theorem ZnP(I:Nat->Ro->Sto->Prop)(hM:M[n]?=some (.lst xs))(hl:es.length<=xs.length)(h0:I 0 ρ M)(hm:∀i ρ M,I i ρ M->M[n]?=some (.lst xs))(st:∀(i:Nat) ρ M (h:i<es.length),I i ρ M->wG (tg (.tup [xs[i],es[i]]) ρ) fun r=>wS (bd r M) (I (i+1)) R N (I (i+1)) E)(hn:∀ρ M,I es.length ρ M->N ρ M):wS (ZeJ tg bd (.zipT n es) (cnt (.zipT n es) M) 0 ρ M) N R B C E:=by
 have hz:=Zjd hl;refine Zgu I (xs:=zpT xs es) _ 0 ρ M (by lia) (by simp only[cnt,hM];lia) h0 (fun i ρ M _ hI=>Zje (hm i ρ M hI) i) (fun i ρ M h hI=>?_) (fun ρ M hI=>hn ρ M (by rw[hz]at hI;exact hI))
 have e:(zpT xs es)[i]=.tup [xs[i]'(by lia),es[i]'(by lia)]:=by simp[zpT]
 rw[e];exact st i ρ M (by lia) hI
theorem Zwq(Inv:Ro->Prop)(F:Nat->D)(hM:M[n]?=some (.lst xs))(hl:es.length<=xs.length)(hb:es.length<10000000)(h0:Inv (roB k fr ρ))(st:∀(i:Nat)(h:i<es.length)(ρ:Ro)(L:Sto),Inv ρ->wG (tg (.tup [xs[i],es[i]]) ρ) fun r=>Inv r/\wO (f r (M++L)) (fun y M2=>y=F i/\M2=M++L) (fun _ _=>False))(hq:Q (.ref M.length) (M++[.lst ((aL es.length).map F)])):kCo tg (fun _ M=>.ok true M) f k fr ρ Q (.zipT n es) M:=by
 have hz:=Zjd hl;refine ZrT (xs:=zpT xs es) Inv F (by lia) (by simp only[cnt,hM];lia) h0 (fun L i _=>Zje (by rw[ae (Zs hM)];exact hM) i) (fun i hi ρ L hI=>?_) (by rw[hz];exact hq)
 have e:(zpT xs es)[i]=.tup [xs[i]'(by lia),es[i]'(by lia)]:=by simp[zpT]
 rw[e];exact st i (by lia) ρ L hI
end DL
namespace DL
open L2
def Zwr(n:Nat)(d k:D)(kk:List (List Key))(ρ:Ro)(N:W1)(M:Sto)(ds:List D):Prop:=ds.length<10000000/\N ρ (M.set n (.lst (Zoo kyU kk k d ds)))
def Zu9(d x:D)(ρ:Ro)(N:W1)(k:D)(M:Sto):Prop:=∃n kk,x=.du n/\kyU k=some kk/\wL M[n]? (Zwr n d k kk ρ N M)
def ZtI(fi:Ev)(d:D)(ρ:Ro)(N:W1)(E:W2)(x:D)(M:Sto):Prop:=wO (fi ρ M) (Zu9 d x ρ N) E
def ZtJ(fo fi:Ev)(ρ:Ro)(N:W1)(E:W2)(d:D)(M:Sto):Prop:=wO (fo ρ M) (ZtI fi d ρ N E) E
theorem Zq0:wS (ZkH fo fi f ρ M) N R B C E=wO (f ρ M) (ZtJ fo fi ρ N E) E:=by
 unfold ZkH;rw[ZY];congr 1;funext d M1;rw[ZY];unfold ZtJ;congr 1;funext x M2;rw[ZY];unfold ZtI;congr 1;funext k M3;unfold Zu9;cases x with
 |du n=>
  cases e:kyU k with
  |none=>exact propext ⟨fun h=>h.elim,fun⟨_,_,_,z,_⟩=>by cases z⟩
  |some kk=>
   cases em:M3[n]? with
   |none=>simp only[em];exact propext ⟨fun h=>h.elim,fun⟨n',_,z,_,h⟩=>by cases z;rw[em]at h;exact h.elim⟩
   |some o=>
    cases o with
    |lst ds=>
     by_cases c:ds.length<10000000
     ·simp only[em,if_pos c];exact propext ⟨fun h=>⟨n,kk,rfl,rfl,by rw[em];exact⟨c,h⟩⟩,fun⟨n',kk',z,z',h⟩=>by cases z;cases z';rw[em]at h;exact h.2⟩
     ·simp only[em,if_neg c];exact propext ⟨fun h=>h.elim,fun⟨n',kk',z,z',h⟩=>by cases z;cases z';rw[em]at h;exact absurd h.1 c⟩
 |_=>exact propext ⟨fun h=>h.elim,fun⟨_,_,z,_⟩=>by cases z⟩
def Zva(Q:W0)(M:Sto)(es:List D):Prop:=Q (.ref M.length) (M++[.lst (es.map Ziy)])
theorem ZtK:wO (bLisU [.du n] M) Q E=wL M[n]? (Zva Q M):=by
 show wO (match M[n]? with|some (.lst es)=>Out.ok (.ref M.length) (M++[.lst (es.map Ziy)])|none=>.bad) Q E=_
 cases M[n]? with
 |none=>rfl
 |some o=>cases o with|lst xs=>rfl
theorem ZtL:wO (eDnU ρ M) Q E=Q (.du M.length) (M++[.lst []]):=rfl
end DL
namespace DL
noncomputable abbrev Pt:=Int×Int
noncomputable def X(p q:Pt):Int:=p.1*q.2-p.2*q.1
section
variable {rs:List Pt}{i j:Int}{k:Nat}{p:Pt}
theorem Zca{α:Type}{l:List α}{d:α}(h:n<l.length):l.getD n d=l[n]:=by simp[am h]
theorem Zcj(h:0<=i/\i<rs.length):cy rs i=rs.getD i.toNat (0,0):=by
 unfold cy;rw[cS h.1 h.2]
theorem ZaO{m:Nat}(h:m≠0):(i%m).toNat<m/\0<=i%m:=by
 have:=bA i (show(0:Int)<m by lia)
 have:=bX i (show(m:Int)≠0 by lia)
 lia
theorem ZR(h:rs≠[]):cy rs i∈rs:=by
 have hl:rs.length≠0:=by simpa using h
 unfold cy;rw[Zca (ZaO hl).1];exact bQ _
theorem Zgx{f:Pt->Pt}(h:rs≠[]):cy (rs.map f) i=f (cy rs i):=by
 have hl:rs.length≠0:=by simpa using h
 unfold cy;rw[ay,Zca (by rw[ay];exact(ZaO hl).1),Zca (ZaO hl).1,ju]
theorem ZlV(hk:k<=rs.length):cy (rs.drop k++rs.take k) i=cy rs (i+k):=by
 by_cases h:rs.length=0
 ·have:rs=[]:=by simpa using h
  subst this;simp[cy]
 have hL:(rs.drop k++rs.take k).length=rs.length:=by simp;lia
 have e1:cy (rs.drop k++rs.take k) i=cy (rs.drop k++rs.take k) (i%rs.length):=by
  conv=>rhs;rw[<-hL,Zb9]
 have e2:cy rs (i+k)=cy rs (i%rs.length+k):=by
  unfold cy;rw[i8]
 rw[e1,e2];obtain⟨a,b⟩:=ZaO (i:=i) h;generalize hm:i%(rs.length:Int)=m at *;have hm2:m<rs.length:=by lia
 rw[Zcj (by rw[hL];lia)]
 by_cases c:m+k<rs.length
 ·rw[Zcj (by lia)]
  rw[aK,aK,ae (by simp;lia),List.getElem?_drop]
  congr 2;lia
 ·rw[<-Ze2,Zcj (by lia)]
  rw[aK,aK,aR (by simp;lia),c7 (by simp;lia)]
  congr 2;simp;lia
noncomputable def ins(rs:List Pt)(k:Nat)(p:Pt):List Pt:=rs.take (k+1)++p::rs.drop (k+1)
theorem ZfA(hk:k<rs.length):(ins rs k p).length=rs.length+1:=by simp[ins];lia
theorem ZlW(hk:k<rs.length)(h0:0<=j)(h1:j<=rs.length+1):cy (ins rs k p) j=if j<=k then cy rs j else if j=k+1 then p else cy rs (j-1):=by
 have hL:=ZfA (p:=p) hk;by_cases e:j=rs.length+1
 ·subst e;rw[if_neg (by lia),if_neg (by lia)]
  have e1:cy (ins rs k p) (rs.length+1)=cy (ins rs k p) 0:=by
   have:=Ze2 (rs:=ins rs k p) (i:=(rs.length:Int)+1)
   rw[hL]at this;rw[<-this];congr 1;lia
  have e2:cy rs ((rs.length:Int)+1-1)=cy rs 0:=by
   rw[<-Ze2];congr 1;lia
  rw[e1,e2,Zcj (by rw[hL];lia),Zcj (by lia)]
  unfold ins;rw[aK,aK,ae (by simp;lia),c7 (by simp)]
 ·have hj:j<rs.length+1:=by lia
  rw[Zcj (by rw[hL];lia)]
  unfold ins;rw[aK];by_cases c1:j<=k
  ·rw[if_pos c1,Zcj (by lia),aK,ae (by simp;lia),c7 (by lia)]
  ·rw[if_neg c1,aR (by simp;lia)]
   have hl:(rs.take (k+1)).length=k+1:=by simp;lia
   rw[hl];by_cases c2:j=k+1
   ·rw[if_pos c2]
    have:j.toNat-(k+1)=0:=by lia
    rw[this];rfl
   ·rw[if_neg c2,Zcj (by lia),aK]
    obtain⟨z,hz⟩:∃z,j.toNat-(k+1)=z+1:=⟨j.toNat-(k+1)-1,by lia⟩
    rw[hz,df,List.getElem?_drop];congr 2;lia
theorem Zd2{P:Pt->Pt->Prop}(hn:rs.length≠0)(h:∀i:Int,0<=i->i<rs.length->P (cy rs i) (cy rs (i+1)))(i:Int):P (cy rs i) (cy rs (i+1)):=by
 have e1:cy rs i=cy rs (i%rs.length):=Zb9.symm;have e2:cy rs (i+1)=cy rs (i%rs.length+1):=by
  unfold cy;rw[i8]
 rw[e1,e2];obtain⟨a,b⟩:=ZaO (i:=i) hn;exact h _ b (by lia)
noncomputable def cc(f:Pt->Pt->Nat):List Pt->Nat
 |a::b::r=>f a b+cc f (b::r)
 |_=>0
def cyc(f:Pt->Pt->Nat)(rs:List Pt):Nat:=cc f (rs++rs.take 1)
theorem Ze4{f:Pt->Pt->Nat}:∀(L:List Pt)(a:Pt)(R:List Pt),cc f (L++a::R)=cc f (L++[a])+cc f (a::R)
 |[],a,R=>by simp[cc]
 |[b],a,R=>by simp[cc]
 |b::c::L,a,R=>by
  have:=Ze4 (f:=f) (c::L) a R
  simp only[bC,cc]at this ⊢;lia
theorem ZlX{f:Pt->Pt->Nat}{g:Pt->Pt}:∀(L:List Pt),cc f (L.map g)=cc (fun a b=>f (g a) (g b)) L
 |[]=>rfl
 |[_]=>rfl
 |a::b::L=>by
  have:=ZlX (f:=f) (g:=g) (b::L)
  simp only[aP,cc]at this ⊢;lia
theorem ZcK:cyc f (a::r)=cc f (a::(r++[a])):=by simp[cyc]
theorem Zd3(A B:List Pt):cyc f (A++B)=cyc f (B++A):=by
 cases A with
 |nil=>simp
 |cons a A=>
  cases B with
  |nil=>simp
  |cons b B=>
   rw[bC,ZcK,bC,ZcK];have e1:a::(A++b::B++[a])=(a::A)++b::(B++[a]):=by simp
   have e2:b::(B++a::A++[b])=(b::B)++a::(A++[b]):=by simp
   rw[e1,e2,Ze4 (a::A) b,Ze4 (b::B) a];simp only[bC];lia
theorem Zjf(L:List Pt):cyc f (L.map g)=cyc (fun a b=>f (g a) (g b)) L:=by
 unfold cyc;rw[<-List.map_take,<-cD,ZlX]
def in1(w a b:Pt):Nat:=if 0<=X a w/\0<X w b then 1 else 0
def in2(w a b:Pt):Nat:=if 0<X a w/\0<=X w b then 1 else 0
def Fan(rs:List Pt):Prop:=∀w:Pt,w≠(0,0)->cyc (in1 w) rs=1/\cyc (in2 w) rs=1
theorem Zq1:X w (a.1+b.1,a.2+b.2)=X w a+X w b/\X (a.1+b.1,a.2+b.2) w=X a w+X b w:=by unfold X;constructor<;>grind
theorem Zor{p:Pt}:X p q=0-X q p:=by unfold X;grind
theorem ZnQ:in1 w a b=in1 w a (a.1+b.1,a.2+b.2)+in1 w (a.1+b.1,a.2+b.2) b:=by
 have s:=Zq1 (a:=a) (b:=b) (w:=w);have e1:=Zor (p:=w) (q:=a);have e2:=Zor (p:=b) (q:=w);unfold in1;rw[s.1,s.2,e1,e2];generalize X a w=p;generalize X w b=q
 repeat' split
 all_goals lia
theorem ZnR:in2 w a b=in2 w a (a.1+b.1,a.2+b.2)+in2 w (a.1+b.1,a.2+b.2) b:=by
 have s:=Zq1 (a:=a) (b:=b) (w:=w);have e1:=Zor (p:=w) (q:=a);have e2:=Zor (p:=b) (q:=w);unfold in2;rw[s.1,s.2,e1,e2];generalize X a w=p;generalize X w b=q
 repeat' split
 all_goals lia
theorem Zq2{L R:List Pt}:cy (L++a::R) L.length=a:=by
 rw[Zcj (by simp;lia)]
 simp
theorem ZtM{L R:List Pt}:cy (L++a::b::R) (L.length+1)=b:=by
 rw[Zcj (by simp;lia)]
 rw[show((L.length:Int)+1).toNat=L.length+1 by lia]
 simp
theorem Zjg{r:List Pt}:cy (a::r) (r.length+1)=a:=by
 have:=Ze2 (rs:=a::r) (i:=(r.length:Int)+1)
 rw[<-this,bO,show(r.length:Int)+1-((r.length+1:Nat):Int)=0 by lia,Zcj (by simp)]
 rfl
theorem Zjh(hk:k<rs.length)(hf:f (cy rs k) (cy rs (k+1))=f (cy rs k) p+f p (cy rs (k+1))):cyc f (ins rs k p)=cyc f rs:=by
 obtain⟨L,a,R,e,hl⟩:∃L a R,rs=L++a::R/\L.length=k:=⟨rs.take k,rs[k],rs.drop (k+1),by rw[List.getElem_cons_drop,j3],by simp;lia⟩
 have ei:ins rs k p=L++a::p::R:=by
  unfold ins;rw[e,<-hl,List.take_append,List.drop_append,bS (by lia),dz (by lia)]
  simp
 have ca:cy rs k=a:=by rw[e,<-hl];exact Zq2
 cases R with
 |cons b R=>
  have cb:cy rs (k+1)=b:=by rw[e,<-hl];exact ZtM
  rw[ca,cb]at hf;rw[ei,e,Zd3,Zd3 L];simp only[bC,ZcK,cc];lia
 |nil=>
  cases L with
  |nil=>
   have cb:cy rs (k+1)=a:=by
    rw[e,<-hl];exact Zjg (r:=[]) (a:=a)
   rw[ca,cb]at hf;rw[ei,e];simp[cyc,cc];lia
  |cons b L=>
   have cb:cy rs (k+1)=b:=by
    rw[e,<-hl]
    have:=Zjg (r:=L++[a]) (a:=b)
    simp only[aG,bO,eQ]at this ⊢;exact this
   rw[ca,cb]at hf;rw[ei,e];simp only[bC,ZcK];have e1:b::(L++[a,p]++[b])=(b::L)++a::[p,b]:=by simp
   have e2:b::(L++[a]++[b])=(b::L)++a::[b]:=by simp
   rw[e1,e2,Ze4,Ze4 (b::L) a [b]];simp only[cc];lia
theorem Fan.rot(h:Fan rs):Fan (rs.drop k++rs.take k):=fun w hw=>by
 rw[Zd3,Zd3 (rs.drop k),j3];exact h w hw
theorem Fan.ins(h:Fan rs)(hk:k<rs.length):Fan (ins rs k ((cy rs k).1+(cy rs (k+1)).1,(cy rs k).2+(cy rs (k+1)).2)):=fun w hw=>by
 rw[Zjh hk ZnQ,Zjh hk ZnR];exact h w hw
theorem Zq3{f:Pt->Pt}(hs:s=1\/s= -1)(hf:∀p q,X (f p) (f q)=s*X p q)(w:Pt)(hw:w≠(0,0)):∃w':Pt,w'≠(0,0)/\∀a,X (f a) w=s*X a w':=by
 have d:=hf (1,0) (0,1);have d1:X (f (1,0)) (f (0,1))=s:=by rw[d];simp[X]
 have lin:∀a,(f a).1=a.1*(f (1,0)).1+a.2*(f (0,1)).1/\(f a).2=a.1*(f (1,0)).2+a.2*(f (0,1)).2:=by
  intro a;have h1:=hf a (1,0);have h2:=hf a (0,1);generalize f a=u at *;generalize f (1,0)=e1 at *;generalize f (0,1)=e2 at *;unfold X at *;rcases hs with rfl|rfl<;>constructor<;>grind
 refine⟨(X w (f (0,1))*s,X (f (1,0)) w*s),?_,?_⟩
 ·intro z;apply hw;have z1:=congrArg Prod.fst z;have z2:=congrArg Prod.snd z;simp only at z1 z2;generalize f (1,0)=e1 at *;generalize f (0,1)=e2 at *;unfold X at *;apply gq
  ·rcases hs with rfl|rfl<;>simp only[]<;>grind
  ·rcases hs with rfl|rfl<;>simp only[]<;>grind
 ·intro a;obtain⟨l1,l2⟩:=lin a;unfold X;rw[l1,l2];rcases hs with rfl|rfl<;>simp only[]<;>grind
theorem Fan.map(h:Fan rs)(hf:∀p q,X (f p) (f q)=X p q):Fan (rs.map f):=fun w hw=>by
 obtain⟨w',hw',e⟩:=Zq3 (s:=1) (.inl rfl) (fun p q=>by rw[hf,lZ]) w hw
 have e2:∀a,X w (f a)=X w' a:=fun a=>by rw[Zor,e,Zor (p:=w')];lia
 have c1:∀a b,in1 w (f a) (f b)=in1 w' a b:=fun a b=>by unfold in1;rw[e,e2,lZ]
 have c2:∀a b,in2 w (f a) (f b)=in2 w' a b:=fun a b=>by unfold in2;rw[e,e2,lZ]
 rw[Zjf,Zjf,show(fun a b=>in1 w (f a) (f b))=in1 w' from funext fun a=>funext fun b=>c1 a b,show(fun a b=>in2 w (f a) (f b))=in2 w' from funext fun a=>funext fun b=>c2 a b];exact h w' hw'
structure Smo(rs:List Pt):Prop where
 len:3<=rs.length
 one:∀i:Int,X (cy rs i) (cy rs (i+1))=1
 fan:Fan rs
noncomputable def Nr(b:Int)(rs:List Pt):Prop:=∀p∈rs,(-b<=p.1/\p.1<=b)/\ -b<=p.2/\p.2<=b
theorem Smo.ne(h:Smo rs):rs≠[]:=by
 intro z
 have:=h.len
 rw[z]at this;simp at this
theorem Nr.cy{b:Int}(h:Nr b rs)(hn:rs≠[])(i:Int):(-b<=(cy rs i).1/\(cy rs i).1<=b)/\ -b<=(cy rs i).2/\(cy rs i).2<=b:=h _ (ZR hn)
theorem Smo.ins(h:Smo rs)(hk:k<rs.length):Smo (ins rs k ((cy rs k).1+(cy rs (k+1)).1,(cy rs k).2+(cy rs (k+1)).2)):=by
 have hL:=ZfA (p:=((cy rs k).1+(cy rs (k+1)).1,(cy rs k).2+(cy rs (k+1)).2)) hk;refine⟨by rw[hL];have:=h.len;lia,?_,h.fan.ins hk⟩
 refine Zd2 (P:=fun a b=>X a b=1) (by lia) ?_
 intro i h0 h1;rw[hL]at h1;rw[ZlW hk h0 (by lia),ZlW hk (by lia) (by lia)]
 have ok:=h.one k;by_cases c1:i+1<=k
 ·rw[if_pos (by lia),if_pos c1];exact h.one i
 ·rw[if_neg c1];by_cases c2:i=k
  ·subst c2;rw[if_pos (by lia),if_pos rfl]
   unfold X at *;grind
  ·rw[if_neg (by lia:¬i<=(k:Int)),if_neg (by lia:¬i+1=(k:Int)+1)]
   by_cases c3:i=k+1
   ·subst c3;rw[if_pos rfl]
    have:(k:Int)+1+1-1=k+1:=by lia
    rw[this];unfold X at *;grind
   ·rw[if_neg c3]
    have:=h.one (i-1)
    have e:i-1+1=i+1-1:=by lia
    rw[e]at this;exact this
theorem Smo.rot(h:Smo rs)(hk:k<=rs.length):Smo (rs.drop k++rs.take k):=by
 refine⟨by have:=h.len;simp;lia,fun i=>?_,h.fan.rot⟩
 rw[ZlV hk,ZlV hk]
 have:=h.one (i+k)
 have e:i+(k:Int)+1=i+1+k:=by lia
 rw[e]at this;exact this
theorem Smo.map(h:Smo rs)(hf:∀p q,X (f p) (f q)=X p q):Smo (rs.map f):=by
 refine⟨by have:=h.len;simp;lia,fun i=>?_,h.fan.map hf⟩
 rw[Zgx h.ne,Zgx h.ne,hf];exact h.one i
theorem Nr.ins{b:Int}(h:Nr b rs)(hp:(-b<=p.1/\p.1<=b)/\ -b<=p.2/\p.2<=b):Nr b (ins rs k p):=by
 intro q hq;rcases bq.mp hq with hq|hq
 ·exact h q (ft hq)
 ·rcases ah.mp hq with hq|hq
  ·subst hq;exact hp
  ·exact h q (kF hq)
theorem Nr.rot(h:Nr b rs):Nr b (rs.drop k++rs.take k):=by
 intro q hq;rcases bq.mp hq with hq|hq
 ·exact h q (kF hq)
 ·exact h q (ft hq)
end
end DL
namespace CC
open L2 DL
def ZcZ:Sv:=(Z1 (e2 dSub (e2 dMul (e2 dIx (Zg 0) (eC (.int 0))) (e2 dIx (Zg 1) (eC (.int 1)))) (e2 dMul (e2 dIx (Zg 0) (eC (.int 1))) (e2 dIx (Zg 1) (eC (.int 0))))))
def F_crossed:W3:=fnF ZcZ 2 0
def ZbQ:Sv:=(Z1 (e2 dIx (Zg 0) (e2 dMod (e2 dAdd (Zg 1) (eC (.int 1))) (Zj bLen (Zc (Zg 0) aNil)))))
def F_following:W3:=fnF ZbQ 2 0
def ZaP:Sv:=(sIf (tv (e2 dNe (Zj F_crossed (Zc (Zg 2) (Zc (Zj F_following (Zc (Zg 0) (Zc (Zg 1) aNil))) aNil))) (eC (.int 1)))) (Z1 (Zg 1)) sNil)
def ZbR:Sv:=(Zx (ZeK (gTp (gCs (gNm 1) (gCs (gNm 2) gNl))) (iEn (Zc (Zg 0) aNil)) ZaP) (Z1 (eC .non)))
def F_unspanned:W3:=fnF ZbR 1 2
def Zbl:Sv:=(Zx (ZG (gNm 1) (Zj F_unspanned (Zc (Zg 0) aNil))) (sIf (tv (e2 dIsNot (Zg 1) (eC .non))) (ZeG (PySem.Str.ofString "NotSmooth") (Zc (eFs (ZdS (eC (.str (PySem.Str.ofString "ray "))) (ZdS (eFm (Zg 1)) (ZdS (eC (.str (PySem.Str.ofString " does not cross the next one in 1"))) jNil)))) aNil)) sNil))
def F_ask_smooth:W3:=fnF Zbl 1 1
def Za1:Sv:=(Zx (ZG (gNm 2) (eC (.int 0))) (Zx (sIf (tv (e2 dLt (Zg 1) (Zj bLen (Zc (Zg 0) aNil)))) (ZG (gNm 2) (e2 dMod (e2 dIx (Zg 0) (Zg 1)) (e2 dPow (eC (.int 10)) (eC (.int 60))))) sNil) (Zx (sIf (tv (e2 dLt (Zg 2) (e2 dPow (eC (.int 10)) (eC (.int 18))))) (Zx (ZG (gNm 3) (e2 dMod (e2 dMul (e2 dAdd (Zg 2) (e2 dMul (eC (.int 1442695040888963407)) (e2 dAdd (Zg 1) (eC (.int 1))))) (eC (.int 6364136223846793005))) (e2 dPow (eC (.int 10)) (eC (.int 37))))) (ZG (gNm 2) (e2 dMod (e2 dDiv (e2 dMul (Zg 3) (Zg 3)) (e2 dPow (eC (.int 10)) (eC (.int 17)))) (e2 dPow (eC (.int 10)) (eC (.int 56)))))) sNil) (Z1 (Zg 2)))))
def F_law_cell_at:W3:=fnF Za1 2 2
def Zc0:Sv:=(Z1 (e2 dSub (e2 dMul (e2 dIx (Zg 0) (eC (.int 0))) (e2 dIx (Zg 1) (eC (.int 1)))) (e2 dMul (e2 dIx (Zg 0) (eC (.int 1))) (e2 dIx (Zg 1) (eC (.int 0))))))
def F_law_cross:W3:=fnF Zc0 2 0
def Za2:Sv:=(sIf (tv (e2 dEq (Zg 4) (eC (.int 0)))) (ZaU (Zeh mApp (Zg 5) (Zc (Zaq (Zc (e2 dAdd (Zg 6) (e2 dMul (Zg 3) (Zg 7))) (Zc (Zg 7) aNil))) aNil))) (sIf (tv (e2 dEq (Zg 4) (eC (.int 1)))) (ZaU (Zeh mApp (Zg 5) (Zc (Zaq (Zc (Zg 6) (Zc (e2 dAdd (Zg 7) (e2 dMul (Zg 3) (Zg 6))) aNil))) aNil))) (sIf (tv (e2 dEq (Zg 4) (eC (.int 2)))) (ZaU (Zeh mApp (Zg 5) (Zc (Zaq (Zc (e2 dSub (eC (.int 0)) (Zg 7)) (Zc (Zg 6) aNil))) aNil))) (ZaU (Zeh mApp (Zg 5) (Zc (Zaq (Zc (Zg 6) (Zc (Zg 7) aNil))) aNil))))))
def Za3:Sv:=(Zx (ZG (gNm 3) (e2 dSub (e2 dMod (e2 dDiv (Zg 1) (eC (.int 4))) (eC (.int 5))) (eC (.int 2)))) (Zx (sIf (tv (e2 dEq (e2 dMod (e2 dDiv (Zg 1) (eC (.int 20))) (eC (.int 8))) (eC (.int 0)))) (ZG (gNm 3) (e2 dSub (e2 dMod (e2 dDiv (Zg 1) (eC (.int 160))) (eC (.int 19))) (eC (.int 9)))) sNil) (Zx (ZG (gNm 4) (e2 dMod (Zg 1) (eC (.int 4)))) (Zx (ZG (gNm 1) (e2 dDiv (Zg 1) (eC (.int 3040)))) (Zx (ZG (gNm 5) (ZbN aNil)) (Zx (ZeD (gTp (gCs (gNm 6) (gCs (gNm 7) gNl))) (Zg 0) Za2) (sIf (tv (e2 dLe (Zj (Zdl List.max?) (Zc (e2 dAdd (Zbe (iSq (Zg 5)) 2 [] (gTp (gCs (gNm 0) (gCs (gNm 1) gNl))) (fun _ M=>.ok true M) (Zj bAbs (Zc (Zg 0) aNil))) (Zbe (iSq (Zg 5)) 2 [] (gTp (gCs (gNm 0) (gCs (gNm 1) gNl))) (fun _ M=>.ok true M) (Zj bAbs (Zc (Zg 1) aNil)))) aNil)) (eC (.int 200)))) (ZG (gNm 0) (Zg 5)) sNil)))))))
def Zck:Sv:=(Zx (Zbc (gNm 2) (Zc (eC (.int 3)) aNil) Za3) (Z1 (Zg 0)))
def F_law_turn:W3:=fnF Zck 2 6
def ZaA:Sv:=(Zx (ZG (gNm 6) (e2 dMod (Zg 0) (Zj bLen (Zc (Zg 3) aNil)))) (Zx (ZG (gNm 0) (e2 dDiv (Zg 0) (eC (.int 17)))) (Zx (ZG (gNm 7) (e2 dIx (Zg 3) (Zg 6))) (Zx (ZG (gNm 8) (e2 dIx (Zg 3) (e2 dMod (e2 dAdd (Zg 6) (eC (.int 1))) (Zj bLen (Zc (Zg 3) aNil))))) (Zx (ZG (gNm 9) (Zaq (Zc (e2 dAdd (e2 dIx (Zg 7) (eC (.int 0))) (e2 dIx (Zg 8) (eC (.int 0)))) (Zc (e2 dAdd (e2 dIx (Zg 7) (eC (.int 1))) (e2 dIx (Zg 8) (eC (.int 1)))) aNil)))) (sIf (Zcz (tv (e2 dLe (Zj bAbs (Zc (e2 dIx (Zg 9) (eC (.int 0))) aNil)) (eC (.int 200)))) (tv (e2 dLe (Zj bAbs (Zc (e2 dIx (Zg 9) (eC (.int 1))) aNil)) (eC (.int 200))))) (ZG (gNm 3) (e2 dAdd (e2 dAdd (eSl (Zg 3) oNo (oSo (e2 dAdd (Zg 6) (eC (.int 1))))) (ZbN (Zc (Zg 9) aNil))) (eSl (Zg 3) (oSo (e2 dAdd (Zg 6) (eC (.int 1)))) oNo))) sNil))))))
def Zbm:Sv:=(Zx (ZG (gNm 2) (e2 dAdd (eC (.int 3)) (e2 dMod (Zg 0) (e2 dSub (Zg 1) (eC (.int 2)))))) (Zx (ZG (gNm 0) (e2 dDiv (Zg 0) (e2 dSub (Zg 1) (eC (.int 2))))) (Zx (ZG (gNm 3) (ZbN (Zc (Zaq (Zc (eC (.int 1)) (Zc (eC (.int 0)) aNil))) (Zc (Zaq (Zc (eC (.int 0)) (Zc (eC (.int 1)) aNil))) (Zc (Zaq (Zc (Zfb (eC (.int 1))) (Zc (Zfb (eC (.int 1))) aNil))) aNil))))) (Zx (sIf (Zcz (tv (e2 dGt (Zg 2) (eC (.int 3)))) (tv (e2 dGt (e2 dMod (Zg 0) (eC (.int 4))) (eC (.int 0))))) (Zx (ZG (gNm 4) (e2 dMod (e2 dDiv (Zg 0) (eC (.int 4))) (e2 dIx (ZbN (Zc (eC (.int 3)) (Zc (eC (.int 4)) (Zc (eC (.int 6)) (Zc (eC (.int 40)) aNil))))) (e2 dMod (e2 dDiv (Zg 0) (eC (.int 512))) (eC (.int 4)))))) (ZG (gNm 3) (ZbN (Zc (Zaq (Zc (eC (.int 1)) (Zc (eC (.int 0)) aNil))) (Zc (Zaq (Zc (eC (.int 0)) (Zc (eC (.int 1)) aNil))) (Zc (Zaq (Zc (Zfb (eC (.int 1))) (Zc (Zg 4) aNil))) (Zc (Zaq (Zc (eC (.int 0)) (Zc (Zfb (eC (.int 1))) aNil))) aNil))))))) sNil) (Zx (ZG (gNm 0) (e2 dDiv (Zg 0) (eC (.int 2048)))) (Zx (Zbc (gNm 5) (Zc (e2 dSub (Zg 2) (Zj bLen (Zc (Zg 3) aNil))) aNil) ZaA) (Zx (ZG (gNm 3) (Zj F_law_turn (Zc (Zg 3) (Zc (Zg 0) aNil)))) (Zx (ZG (gNm 6) (e2 dMod (e2 dDiv (Zg 0) (e2 dPow (eC (.int 10)) (eC (.int 12)))) (Zj bLen (Zc (Zg 3) aNil)))) (Z1 (e2 dAdd (eSl (Zg 3) (oSo (Zg 6)) oNo) (eSl (Zg 3) oNo (oSo (Zg 6)))))))))))))
def F_law_smooth:W3:=fnF Zbm 2 8
end CC
open L2 DL
set_option hygiene false
set_option compiler.extract_closed false
local macro_rules|`(tactic|simp! $c:optConfig [$ls,*])=>do let x←("Zv5 y_c y_v ZqC Ztc ZqD Ztd Zte Ztf ZqE Zth ZqF Zv6 Zv7 Zv9 Zti Ztj ZqG ZqH Zwa Ztk Zwb ZqI Ztl ZqJ Ztm ZqK Ztn ZqL ZqM Zwc Zwd Zto Ztp ZqN Ztq Ztr ZqO ZqP Zts ZqQ ZqR ZqS ZqT Zwg Zwh Zwi Ztt Ztu Ztv Zwj Zwk Ztw Zwl Zwm Zwn Ztx Zk1 Zty Ztz ZtA ZqV ZnN ZqW Zwo ZtB Zwp ZtC ZtD ZtE kU kQ kB2 kB1 kA2 kA1 kTu kLs kTy kIf kTA kTO kTN kSq kDr kSi kAs kAt ZuE kPa ZuF ZuG ZuH ZuI ZuJ ZuK kPu ZuL ZuM kR1 ZuN ZuO ZuP kR2 kFo kFs ZuQ ZuR kS1 ZuS ZuT ZuU kS2 ZuV kEn ZuW ZuX kZp ZqU ZuY kEq kNe kIx ZuZ kLi ZrR ZrS kMt Zu0 Zu1 Zu2 Zu3 Zu4 Zu5 Zd0 Zd1 Zfy ZkY Zgv Zi7 Zk0 ZkZ ZnI Zqn decide_eq_true decide_eq_false wF1 wF2 wF3 wF4 Zo ZpY ZvL ZvM ZvN ZvO ZvP ZvJ ZvK ZsN ZsO ZsP Zp9 ZsQ ZsR ZsS ZvR ZvS ZvT ZvU Zqb Zqc ZsY ZsZ Zs0 Zqd Zqe ZnG Zqg Zqh ZkX Zs8 Zs9 Zta Ztb id roB kpR cond_true cond_false at0 at1 at2 gTp gCs gNl gNm List.set_cons_zero List.set_cons_succ jv df bO eQ aG ay aP im bC hW d6 cC List.replicate_succ List.replicate_zero Option.join_some iM ZnH ZrQ Ze1 ZlP Zqi Zqj ZI ZdZ Zs5 Zv0 Zs6 Zqk Zs7 Zql Zqm Zqo Zqp Zqq Zqr Zqs Zqt Zqu Zqv Zqw Zqx Zqy Zqz true_and and_true el Bool.not_false decide_true decide_false Nat.reduceAdd Nat.reduceLeDiff Nat.reduceLT Nat.add_zero fB Int.reducePow Int.reduceToNat Int.reduceNeg Int.reduceMod Int.reduceDiv Int.reduceAdd Int.reduceSub Int.reduceMul Int.cast_ofNat_Int Int.reduceEq Int.reduceLT Int.reduceLE".splitOn " ").toArray.mapM fun s=>`(Lean.Parser.Tactic.simpLemma|$(Lean.mkIdent s.toName):ident);`(tactic|simp $c:optConfig (disch := lia) only [$x,*,$ls,*])
set_option hygiene true
namespace CC
open L2 DL
section
variable {M:Sto}
theorem Zc1(ha: -(18446744073709551616)<a/\a<18446744073709551616)(hb: -(18446744073709551616)<b/\b<18446744073709551616):wO (F_crossed [pr a b,pr c d] M) Q E=Q (.int (a*d-b*c)) M:=by
 simp![F_crossed,ZcZ]
theorem Zji(ha: -(18446744073709551616)<a/\a<18446744073709551616)(hb: -(18446744073709551616)<b/\b<18446744073709551616):wO (F_law_cross [pr a b,pr c d] M) Q E=Q (.int (a*d-b*c)) M:=Zc1 ha hb
theorem Zc2(h:M[n]?=some (.lst (prs rs)))(hi:0<=i/\i<rs.length):wO (F_following [.ref n,.int i] M) Q E=Q (pr (cy rs (i+1)).1 (cy rs (i+1)).2) M:=by
 have e:=ZaO (i:=i+1) (m:=rs.length) (by lia)
 simp![F_following,ZbQ,h,ZbG,Zb9]
theorem Zcl(h:i<(prs rs).length):(prs rs)[i]=pr (cy rs i).1 (cy rs i).2:=by
 have h':i<rs.length:=by rw[ZI]at h;exact h
 rw[Ze3 h'];simp[prs]
theorem Nr.big(h:Nr b rs)(hb:b<=18446744073709551615)(hn:rs≠[])(i:Int):(-(18446744073709551616)<(cy rs i).1/\(cy rs i).1<18446744073709551616)/\(-(18446744073709551616)<(cy rs i).2/\(cy rs i).2<18446744073709551616):=by
 have:=Nr.cy h hn i
 lia
theorem ZfB(h:M[n]?=some (.lst (prs rs)))(hs:Smo rs)(hb:Nr 18446744073709551615 rs)(k:Q .non M):wO (F_unspanned [.ref n] M) Q E:=by
 simp![F_unspanned,ZbR];refine ZqB (fun i ρ M'=>M'=M/\∃x y,ρ=[some (.ref n),x,y]) h ⟨rfl,_,_,rfl⟩ (fun i ρ M' hI=>by rw[hI.1];exact h) ?_ ?_
 ·rintro i ρ M' hi ⟨rfl,x,y,rfl⟩;have b1:=Nr.big hb (by decide) hs.ne i
  have o1:=hs.one i;have hi':i<rs.length:=by rw[ZI]at hi;exact hi
  rw[Zcl];simp![ZaP,Zc2 h,Zc1];unfold X at o1;rw[o1];simp![Zo];exact⟨_,_,rfl⟩
 ·rintro ρ M' ⟨rfl,x,y,rfl⟩;simp![Zo];exact k
theorem Zcx(h:M[n]?=some (.lst (prs rs)))(hs:Smo rs)(hb:Nr 18446744073709551615 rs)(k:Q .non M):wO (F_ask_smooth [.ref n] M) Q E:=by
 simp![F_ask_smooth,Zbl];refine ZfB h hs hb ?_;simp![Zo];exact k
theorem Zq4(hi:0<=i/\i<10^60)(hj:0<=j/\j<10^60):Zu i j:=Zq 200 200 (show i.natAbs<2^200 by lia) (show j.natAbs<2^200 by lia) (by decide) (by decide)
theorem Zcb{ns:List Int}{k:Nat}(q:∀c:Int,0<=c->Q (.int c) M):wO (F_law_cell_at [.rol (ns.map D.int),.int k] M) Q E:=by
 have tail:∀v:Int,0<=v->Q (.int v) M:=q;simp! -implicitDefEqProofs [F_law_cell_at,Za1];refine brS (fun h1=>?_) (fun h1=>?_)
 ·have h2:k<ns.length:=by simpa using h1
  simp! -implicitDefEqProofs [ZkV h2];obtain⟨c,hc,c0⟩:∃c:Int,ns[k]%1000000000000000000000000000000000000000000000000000000000000=c/\0<=c:=⟨_,rfl,by lia⟩
  rw[hc];refine brS (fun h1=>?_) (fun h1=>?_)
  ·simp! -implicitDefEqProofs [];rw[ZJ (Zq4 (by lia) (by lia))]
   simp! -implicitDefEqProofs [];exact q _ (by lia)
  ·simp! -implicitDefEqProofs [];exact q _ c0
 ·obtain⟨c,hc,c0⟩:∃c:Int,0=c/\0<=c:=⟨_,rfl,by lia⟩
  rw[hc];simp! -implicitDefEqProofs [];rw[ZJ (Zq4 (by lia) (by lia))]
  simp! -implicitDefEqProofs [];exact q _ (by lia)
noncomputable def tf(w m:Int)(p:Pt):Pt:=if w=0 then(p.1+m*p.2,p.2)else if w=1 then(p.1,p.2+m*p.1)else if w=2 then(0-p.2,p.1)else p
theorem Zvb(p q:Pt):X (tf w m p) (tf w m q)=X p q:=by
 unfold tf X;split
 ·grind
 ·split
  ·grind
  ·split
   ·grind
   ·rfl
theorem Zjj:Zbf (nts xs)=some xs:=by
 induction xs with
 |nil=>rfl
 |cons x r ih=>show(match Zbf (nts r)with|some bs=>some (x::bs)|none=>none)=_;rw[ih]
theorem Zq5{xs:List Int}(h:xs.max?=some v)(hv:v<=b):∀x∈xs,x<=b:=by
 intro x hx;exact Int.le_trans ((List.max?_le_iff h).mp (Int.le_refl v) x hx) hv
theorem Zgy{M:Sto}(k:Nat)(hk:k=0\/k=1)(h:M[m]?=some (.lst (prs ss)))(hl:ss.length<=1000)(q:Q (.ref M.length) (M++[.lst (nts ((aL ss.length).map fun(i:Nat)=>(if k=0 then(cy ss i).1.natAbs else(cy ss i).2.natAbs:Int)))])):kCo (gTp (gCs (gNm 0) (gCs (gNm 1) gNl))) (fun _ M=>.ok true M) (Zj bAbs (Zc (Zg k) aNil)) 2 [] ρ Q (.sto m) M:=by
 refine ZrU (fun ρ=>∃x y,ρ=[x,y]) (fun(i:Nat)=>.int (if k=0 then(cy ss i).1.natAbs else(cy ss i).2.natAbs:Int)) h (by rw[ZI];lia) ⟨_,_,rfl⟩ ?_ (by rw[ZnM,ZI];exact q)
 rintro i hi ρ L ⟨x,y,rfl⟩;rw[Zcl];rcases hk with rfl|rfl
 ·simp![Zo];exact⟨⟨_,_,rfl⟩,rfl⟩
 ·simp![Zo];exact⟨⟨_,_,rfl⟩,rfl⟩
theorem ZnS(h:M[n]?=some (.lst (prs rs)))(hs:Smo rs)(hb:Nr 200 rs)(hl:rs.length<=1000)(q:∀ss m M',(∀i j:Int,X (cy ss i) (cy ss j)=X (cy rs i) (cy rs j))->Smo ss->Nr 200 ss->ss.length=rs.length->M'[m]?=some (.lst (prs ss))->M.length<=M'.length->(∀k,k<M.length->M'[k]?=M[k]?)->Q (.ref m) M'):wO (F_law_turn [.ref n,.int c] M) Q E:=by
 simp![F_law_turn,Zck];refine ZbF (fun i ρ M'=>∃ss m c x1 x2 x3 x4 x5 x6,ρ=[some (.ref m),some (.int c),x1,x2,x3,x4,x5,x6]/\(∀i j:Int,X (cy ss i) (cy ss j)=X (cy rs i) (cy rs j))/\Smo ss/\Nr 200 ss/\ss.length=rs.length/\M'[m]?=some (.lst (prs ss))/\M.length<=M'.length/\(∀k,k<M.length->M'[k]?=M[k]?)) ⟨rs,n,c,_,_,_,_,_,_,rfl,fun _ _=>rfl,hs,hb,rfl,h,ac _,fun _ _=>rfl⟩ ?_ ?_
 ·rintro i ρ M1 hi ⟨ss,m,c,x1,x2,x3,x4,x5,x6,rfl,s0,s1,s2,s3,s4,s5,s6⟩;have hm:=Zs s4;simp![Za3];refine ZuD (fun ρ M'=>M'=M1/\∃u:Int,(-9<=u/\u<=9)/\ρ=[some (D.ref m),some (D.int c),some (D.int (0 + ↑i)),some (D.int u),x3,x4,x5,x6]) ?_ ?_
  ·refine brS (fun _=>?_) (fun _=>?_)
   ·simp![Zo];exact⟨_,⟨by lia,by lia⟩,rfl⟩
   ·simp![Zo];exact⟨_,⟨by lia,by lia⟩,rfl⟩
  rintro _ M1 ⟨rfl,u,hu,rfl⟩;simp![Zo];generalize c%4=w;have hm1:(M1++[SO.lst []])[m]?=some (.lst (prs ss)):=by rw[ae hm];exact s4
  refine Zaz (fun i ρ M'=>M'=M1++[.lst (prs ((ss.map (tf w u)).take i))]/\∃y x x',ρ=[some (D.ref m),some (D.int (c/3040)),y,some (D.int u),some (D.int w),some (D.ref M1.length),x,x']) hm1 ⟨by simp[prs],_,_,_,rfl⟩ (fun i ρ M' hI=>by rw[hI.1,ae hm];exact s4) ?_ ?_
  ·rintro i ρ M' hi ⟨rfl,y,x,x',rfl⟩;rw[Zcl];rw[ZI]at hi;have b1:=Nr.cy s2 s1.ne i;have tk:prs ((ss.map (tf w u)).take i)++[pr (tf w u (cy ss i)).1 (tf w u (cy ss i)).2]=prs ((ss.map (tf w u)).take (i+1)):=by
    rw[List.take_succ,bp,am hi,<-Zfy,Ze3 hi];rfl
   have tl:((ss.map (tf w u)).take i).length<10000000:=by simp;lia
   have fin:∀a b:Int,tf w u (cy ss i)=(a,b)->M1++[.lst (prs ((ss.map (tf w u)).take i++[(a,b)]))]=M1++[.lst (prs ((ss.map (tf w u)).take (i+1)))]:=by
    intro a b e;rw[e]at tk;rw[<-Zgv,tk]
   simp![Za2];refine brS (fun h1=>?_) (fun h1=>?_)
   ·simp![tl];exact⟨fin _ _ (by rw[tf,if_pos h1]),_,_,_,rfl⟩
   simp![Zo];refine brS (fun h2=>?_) (fun h2=>?_)
   ·simp![tl];exact⟨fin _ _ (by rw[tf,if_neg h1,if_pos h2]),_,_,_,rfl⟩
   simp![Zo];refine brS (fun h3=>?_) (fun h3=>?_)
   ·simp![tl];exact⟨fin _ _ (by rw[tf,if_neg h1,if_neg h2,if_pos h3]),_,_,_,rfl⟩
   ·simp![tl];exact⟨fin _ _ (by rw[tf,if_neg h1,if_neg h2,if_neg h3]),_,_,_,rfl⟩
  ·rintro ρ M' ⟨rfl,y,x,x',rfl⟩;rw[bS (by simp[ZI])]
   have e1:Smo (ss.map (tf w u)):=s1.map Zvb;have e0:∀i j:Int,X (cy (ss.map (tf w u)) i) (cy (ss.map (tf w u)) j)=X (cy rs i) (cy rs j):=fun i j=>by rw[Zgx s1.ne,Zgx s1.ne,Zvb,s0]
   have e2:(ss.map (tf w u)).length=rs.length:=by simp;exact s3
   generalize ss.map (tf w u)=ts at *;have t4:(M1++[SO.lst (prs ts)])[M1.length]?=some (.lst (prs ts)):=by simp
   have l2:(M1++[SO.lst (prs ts)]).length=M1.length+1:=by simp
   have k2:∀k,k<M1.length->(M1++[SO.lst (prs ts)])[k]?=M1[k]?:=fun k hk=>ae hk;generalize M1++[SO.lst (prs ts)]=M2 at *;simp![Zo];refine Zgy 0 (.inl rfl) t4 (by lia) ?_
   generalize hA:((aL ts.length).map fun(i:Nat)=>(if 0=0 then(cy ts i).1.natAbs else(cy ts i).2.natAbs:Int))=A
   have lA:A.length=ts.length:=by subst hA;simp
   simp![Zo];refine Zgy 1 (.inr rfl) (by rw[ae (by lia)];exact t4) (by lia) ?_
   generalize hB:((aL ts.length).map fun(i:Nat)=>(if 1=0 then(cy ts i).1.natAbs else(cy ts i).2.natAbs:Int))=B
   have lB:B.length=ts.length:=by subst hB;simp
   simp![Zo];refine⟨by lia,?_⟩
   obtain⟨v,hv⟩:∃v,(A++B).max?=some v:=by
    cases e:(A++B).max? with
    |some v=>exact⟨v,rfl⟩
    |none=>
     rw[List.max?_eq_none_iff]at e;have h0:(A++B).length=0:=by rw[e];rfl
     have:=e1.len
     rw[aG]at h0;lia
   simp![Zi7,Zjj,hv];have hx:=fun b (hb:v<=b)=>Zq5 hv hb;refine brS (fun h=>?_) (fun h=>?_)
   ·simp![Zo];have nr:Nr 200 ts:=by
     intro p hp;obtain⟨k,hk,rfl⟩:=cU hp;have a1:=hx 200 h (cy ts k).1.natAbs (by
      rw[bq];left;subst hA;exact cf.mpr ⟨k,cA.mpr hk,rfl⟩)
     have a2:=hx 200 h (cy ts k).2.natAbs (by
      rw[bq];right;subst hB;exact cf.mpr ⟨k,cA.mpr hk,rfl⟩)
     rw[Ze3 hk]at a1 a2;lia
    exact⟨ts,_,_,_,_,_,_,_,_,rfl,e0,e1,nr,e2,by rw[ae (by lia)];exact t4,by lia,fun k hk=>by rw[ae (by lia),k2 k (by lia)];exact s6 k hk⟩
   ·simp![Zo];exact⟨ss,_,_,_,_,_,_,_,_,rfl,s0,s1,s2,s3,by rw[ae (by lia),k2 _ hm];exact s4,by lia,fun k hk=>by rw[ae (by lia),k2 k (by lia)];exact s6 k hk⟩
 ·rintro ρ M1 ⟨ss,m,c,x1,x2,x3,x4,x5,x6,rfl,s0,s1,s2,s3,s4,s5,s6⟩;simp![Zo];exact q ss m M1 s0 s1 s2 s3 s4 s5 s6
theorem Zq6(h:M[n]?=some (.lst (prs rs)))(hs:Smo rs)(hb:Nr 200 rs)(hl:rs.length<=1000)(q:∀ss m M',Smo ss->Nr 200 ss->ss.length=rs.length->M'[m]?=some (.lst (prs ss))->M.length<=M'.length->(∀k,k<M.length->M'[k]?=M[k]?)->Q (.ref m) M'):wO (F_law_turn [.ref n,.int c] M) Q E:=
 ZnS h hs hb hl fun ss m M' _ a b c d e f=>q ss m M' a b c d e f
theorem Zc3(h1:X a w=p)(h2:X w b=q):in1 w a b=if 0<=p/\0<q then 1 else 0:=by unfold in1;rw[h1,h2]
theorem Zc4(h1:X a w=p)(h2:X w b=q):in2 w a b=if 0<p/\0<=q then 1 else 0:=by unfold in2;rw[h1,h2]
theorem Zws:Fan [(1,0),(0,1),(-1,-1)]:=by
 rintro⟨x,y⟩ hw;have hw':¬(x=0/\y=0):=fun z=>hw (by rw[z.1,z.2])
 have a1:X (1,0) (x,y)=y:=by simp[X]
 have a2:X (0,1) (x,y)= -x:=by simp[X]
 have a3:X (-1,-1) (x,y)=x-y:=by simp[X];lia
 have b1:X (x,y) (0,1)=x:=by simp[X]
 have b2:X (x,y) (-1,-1)=y-x:=by simp[X];lia
 have b3:X (x,y) (1,0)= -y:=by simp[X]
 simp only[cyc,il,kC,bC,hW,cc];rw[Zc3 a1 b1,Zc3 a2 b2,Zc3 a3 b3,Zc4 a1 b1,Zc4 a2 b2,Zc4 a3 b3];clear a1 a2 a3 b1 b2 b3 hw;constructor
 all_goals
  repeat' split
  all_goals lia
theorem Zwt(f:Int):Fan [(1,0),(0,1),(-1,f),(0,-1)]:=by
 rintro⟨x,y⟩ hw;have hw':¬(x=0/\y=0):=fun z=>hw (by rw[z.1,z.2])
 have h0:x=0->x*f=0:=fun z=>by rw[z,Int.zero_mul]
 have a1:X (1,0) (x,y)=y:=by simp[X]
 have a2:X (0,1) (x,y)= -x:=by simp[X]
 have a3:X (-1,f) (x,y)= -y-x*f:=by unfold X;simp only;grind
 have a4:X (0,-1) (x,y)=x:=by simp[X]
 have b1:X (x,y) (0,1)=x:=by simp[X]
 have b2:X (x,y) (-1,f)=x*f+y:=by unfold X;simp only;grind
 have b3:X (x,y) (0,-1)= -x:=by simp[X]
 have b4:X (x,y) (1,0)= -y:=by simp[X]
 simp only[cyc,il,kC,bC,hW,cc];rw[Zc3 a1 b1,Zc3 a2 b2,Zc3 a3 b3,Zc3 a4 b4,Zc4 a1 b1,Zc4 a2 b2,Zc4 a3 b3,Zc4 a4 b4];clear a1 a2 a3 a4 b1 b2 b3 b4 hw;generalize x*f=z at *;constructor
 all_goals
  repeat' split
  all_goals lia
theorem Zwu:Smo [(1,0),(0,1),(-1,-1)]:=by
 refine⟨by decide,Zd2 (P:=fun a b=>X a b=1) (by decide) ?_,Zws⟩
 intro i h0 h1
 have:i=0\/i=1\/i=2:=by simp at h1;lia
 rcases this with rfl|rfl|rfl<;>rfl
theorem Zwv(f:Int):Smo [(1,0),(0,1),(-1,f),(0,-1)]:=by
 refine⟨by simp,Zd2 (P:=fun a b=>X a b=1) (by simp) ?_,Zwt f⟩
 intro i h0 h1
 have:i=0\/i=1\/i=2\/i=3:=by simp at h1;lia
 rcases this with rfl|rfl|rfl|rfl<;>simp[X,cy]
theorem Zgz{t:Int}(hc:0<=c)(ht:3<=t/\t<=1000)(q:∀ss m M',Smo ss->Nr 200 ss->ss.length<=t->M'[m]?=some (.lst (prs ss))->M.length<=M'.length->(∀k,k<M.length->M'[k]?=M[k]?)->Q (.ref m) M'):wO (F_law_smooth [.int c,.int t] M) Q E:=by
 simp![F_law_smooth,Zbm];have r0:=bX c (show t-2≠0 by lia)
 have r1:=bA c (show 0<t-2 by lia)
 have d0:0<=c/(t-2):=Int.ediv_nonneg hc (by lia)
 generalize c%(t-2)=r at *;generalize c/(t-2)=c1 at *;refine Zuz (fun k M'=>M'=(M++[SO.lst [D.tup [D.int 1,D.int 0],D.tup [D.int 0,D.int 1],D.tup [D.int (-1),D.int (-1)]]])/\(k=true->3<3+r)) ?_ ?_
 ·refine brO (fun h=>?_) (fun h=>?_)
  ·simp![Zo];exact fun _=>h
  ·simp![Zo];exact fun z=>by cases z
 rintro k _ ⟨rfl,hk⟩;simp![Zo];refine ZuD (fun ρ M'=>∃ss m x4,ρ=[some (D.int c1),some (D.int t),some (D.int (3+r)),some (D.ref m),x4,none,none,none,none,none]/\Smo ss/\Nr 200 ss/\(ss.length:Int)<=3+r/\M'[m]?=some (.lst (prs ss))/\M.length<=M'.length/\(∀k,k<M.length->M'[k]?=M[k]?)) ?_ ?_
 ·refine ZuC (fun h=>?_) (fun h=>?_)
  ·have h3:=hk h;simp![Zo];obtain⟨z,hz,z0⟩:∃z:Int,c1/512%4=z/\(z=0\/z=1\/z=2\/z=3):=⟨_,rfl,by lia⟩
   rw[hz];obtain⟨f,hf,f0⟩:∃f:Int,atI [D.int 3,D.int 4,D.int 6,D.int 40] z=some (.int f)/\(0<f/\f<=40):=by
    rcases z0 with rfl|rfl|rfl|rfl
    ·exact⟨3,rfl,by decide,by decide⟩
    ·exact⟨4,rfl,by decide,by decide⟩
    ·exact⟨6,rfl,by decide,by decide⟩
    ·exact⟨40,rfl,by decide,by decide⟩
   simp![hf];have g0:=bX (c1/4) (show f≠0 by lia)
   have g1:=bA (c1/4) (show 0<f by lia)
   generalize c1/4%f=far at *;refine⟨[(1,0),(0,1),(-1,far),(0,-1)],_,_,rfl,Zwv far,?_,by simp;lia,?_,by lia,?_⟩
   ·intro p hp;simp at hp;rcases hp with rfl|rfl|rfl|rfl<;>simp<;>lia
   ·rw[ZrQ];rfl
   ·intro k hk;rw[Ze1 hk]
  ·simp![Zo];refine⟨[(1,0),(0,1),(-1,-1)],_,_,rfl,Zwu,?_,by simp;lia,?_,by lia,?_⟩
   ·intro p hp;simp at hp;rcases hp with rfl|rfl|rfl<;>simp
   ·rw[ZnH];rfl
   ·intro k hk;rw[Ze1 hk]
 rintro _ M1 ⟨ss,m,x4,rfl,s1,s2,s3,s4,s5,s6⟩;have hl3:=s1.len;simp![s4];refine⟨by lia,?_⟩
 refine ZbF (fun i ρ M'=>∃tt m c x4 x5 x6 x7 x8 x9,ρ=[some (D.int c),some (D.int t),some (D.int (3+r)),some (D.ref m),x4,x5,x6,x7,x8,x9]/\0<=c/\Smo tt/\Nr 200 tt/\tt.length<=ss.length+i/\M'[m]?=some (.lst (prs tt))/\M.length<=M'.length/\(∀k,k<M.length->M'[k]?=M[k]?)) ?_ ?_ ?_
 ·exact⟨ss,m,_,_,_,_,_,_,_,rfl,by lia,s1,s2,by lia,s4,s5,s6⟩
 ·rintro i ρ M2 hi ⟨tt,m,c,x4,x5,x6,x7,x8,x9,rfl,c0,t1,t2,t3,t4,t5,t6⟩;have tl:=t1.len;have hm:=Zs t4;simp![ZaA,t4];obtain⟨a,ha,a0⟩:∃a:Nat,c%(tt.length:Int)=a/\a<tt.length:=by
   have:=ZaO (i:=c) (m:=tt.length) (by lia)
   exact⟨(c%(tt.length:Int)).toNat,by lia,this.1⟩
  rw[ha];have e1:=ZaO (i:=(a:Int)+1) (m:=tt.length) (by lia)
  simp![t4,ZbG,Zb9];have b1:=Nr.cy t2 t1.ne a;have b2:=Nr.cy t2 t1.ne (a+1);have sm:=t1.ins a0;have nr:=fun h=>Nr.ins (k:=a) (p:=((cy tt a).1+(cy tt (a+1)).1,(cy tt a).2+(cy tt (a+1)).2)) t2 h;generalize hx:(cy tt a).1+(cy tt (a+1)).1=x at *;generalize hy:(cy tt a).2+(cy tt (a+1)).2=y at *;refine Zuz (fun k M'=>M'=M2/\(k=true->(-200<=x/\x<=200)/\ -200<=y/\y<=200)) ?_ ?_
  ·refine brO (fun h=>?_) (fun h=>?_)
   ·simp![Zo];intro h2
    have:=of_decide_eq_true h2
    lia
   ·simp![Zo];exact fun z=>by cases z
  rintro k M2 ⟨rfl,hk⟩;simp![Zo];refine ZuC (fun h=>?_) (fun h=>?_)
  ·have le:((a:Int)+1).toNat=a+1:=by lia
   simp![t4,le,Zd0,Zd1];refine⟨by rw[cM];lia,by rw[cM,fw];lia,ins tt a (x,y),_,_,_,_,_,_,_,_,rfl,by lia,sm,nr (hk h),by rw[ZfA a0];lia,?_,by lia,?_⟩
   ·rw[ZrQ];rfl
   ·intro k hk;rw[Ze1 (by lia)]
    exact t6 k hk
  ·simp![Zo];exact⟨tt,_,_,_,_,_,_,_,_,rfl,by lia,t1,t2,by lia,t4,t5,t6⟩
 ·rintro ρ M2 ⟨tt,m,c,x4,x5,x6,x7,x8,x9,rfl,c0,t1,t2,t3,t4,t5,t6⟩;simp![Zo];refine Zq6 t4 t1 t2 (by lia) ?_
  intro uu m' M3 u1 u2 u3 u4 u5 u6;have ul:=u1.len;have hm':=Zs u4;simp![u4];obtain⟨a,ha,a0⟩:∃a:Nat,c/1000000000000%(uu.length:Int)=a/\a<uu.length:=by
   have:=ZaO (i:=c/1000000000000) (m:=uu.length) (by lia)
   exact⟨(c/1000000000000%(uu.length:Int)).toNat,by lia,this.1⟩
  rw[ha];have le:(a:Int).toNat=a:=by lia
  simp![u4,le,Zd0,Zd1,Zfy];refine⟨by rw[cM,fw];lia,?_⟩
  refine q (uu.drop a++uu.take a) _ _ (u1.rot (by lia)) (Nr.rot u2) (by rw[aG,cM,fw];lia) (by rw[ZrQ];rfl) (by rw[aG];lia) (fun k hk=>?_)
  rw[Ze1 (by lia),u6 k (by lia),t6 k hk]
end
end CC
namespace DL
def T(rs:List Pt)(i:Int):Int:=0-X (cy rs (i-1)) (cy rs (i+1))
def ZtN(rs:List Pt):List Int:=(aL rs.length).map fun(i:Nat)=>T rs i
end DL
namespace CC
open L2 DL
end CC
namespace DL
noncomputable def nm(p:Pt):Int:=p.1*p.1+p.2*p.2
theorem Zjk(h1:0<=X a w)(h2:0<X w b):in1 w a b=1:=by unfold in1;rw[if_pos ⟨h1,h2⟩]
theorem XX(p:Pt):X p p=0:=by unfold X;grind
end DL
namespace CE
open L2 DL
end CE
namespace CE
open L2 DL
end CE
namespace CF
open L2 DL CC
end CF
namespace CF
open L2 DL
end CF
namespace DL
open L2 DL
end DL
namespace CB
open L2 DL
end CB
namespace DL
noncomputable def hj(t b:Int):List Int:=if h:0<b then -((-t)/b)::hj b (-((-t)/b)*b-t)else[]
termination_by b.toNat
decreasing_by
 have h1:=bX (-t) (show b≠0 by lia)
 have h2:=bA (-t) h;have h3:=Int.emod_add_mul_ediv (-t) b;rw[i9,fC];lia
end DL
namespace CB
open L2 DL
section
variable {a:Int}{u v w:Pt}
structure Fb(u v w:Pt):Prop where
 one:X u w=1
 lo:0<=X w v
 hi:X w v<X u v
theorem Fb.uniq{w:Pt}(h:Fb u v w)(k:Fb u v w'):w=w':=by
 obtain⟨h1,a1,a2⟩:=h;obtain⟨h2,b1,b2⟩:=k;have e1:w'.1=X w' w*u.1+w.1/\w'.2=X w' w*u.2+w.2:=by unfold X at *;constructor<;>grind
 have e2:X w' v=X w' w*X u v+X w v:=by
  have:X w' v=X (X w' w*u.1+w.1,X w' w*u.2+w.2) v:=by rw[<-e1.1,<-e1.2]
  rw[this];unfold X;simp only;grind
 generalize X w' w=k at *;have k0:k=0:=by
  apply Classical.byContradiction;intro c;by_cases p:1<=k
  ·have:1*X u v<=k*X u v:=eJ p (by lia)
   lia
  ·have:k*X u v<=(-1)*X u v:=eJ (by lia) (by lia)
   lia
 rw[k0]at e1;apply gq<;>lia
noncomputable def btw:Pt->Pt->List Int->List Pt
 |_,_,[]=>[]
 |a,r,k::ks=>r::btw r (k*r.1-a.1,k*r.2-a.2) ks
end
end CB
namespace CB
open L2 DL
section
variable {a b d:Int}
def Ch:List Pt->Prop
 |a::b::r=>X a b=1/\Ch (b::r)
 |_=>True
noncomputable def Tr(a b d:Pt):Prop:=∃k:Int,2<=k/\a.1+d.1=k*b.1/\a.2+d.2=k*b.2
def Cv:List Pt->Prop
 |a::b::d::r=>Tr a b d/\Cv (b::d::r)
 |_=>True
end
end CB
namespace CA
open L2 DL
end CA
namespace CA
open L2 DL
end CA
namespace CY
open L2 DL CA
end CY
namespace CY
open L2 DL
end CY
namespace CR
open L2 DL
def Zcm:Sv:=(Z1 (Zg3 (ZhS "int" (Zg 0)) (ZhN (ZhS "bool" (Zg 0)))))
def F_is_whole:W3:=fnF Zcm 1 0
def Zan:Sv:=(Zg4 2 3 (Zc (Zg 3) (Zc (e2 dMod (Zg 2) (Zg 3)) aNil)))
def ZaL:Sv:=(Zx (Zg4 2 3 (Zc (Zj bAbs (Zc (Zg 0) aNil)) (Zc (Zj bAbs (Zc (Zg 1) aNil)) aNil))) (Zx (sWh (tv (e2 dNe (Zg 3) (eC (.int 0)))) Zan) (Z1 (Zg 2))))
def F_greatest_divisor:W3:=fnF ZaL 2 2
def ZfC:Sv:=(Zx (sIf (Zf3 (Zb0 (tv (Zj F_is_whole (Zc (Zg 0) aNil)))) (Zb0 (tv (Zj F_is_whole (Zc (Zg 1) aNil))))) (ZeG (PySem.Str.ofString "NoRatio") (Zc (eC (.str (PySem.Str.ofString "a ratio is made of two whole numbers"))) aNil)) sNil) (Zx (sIf (tv (e2 dEq (Zg 1) (eC (.int 0)))) (ZeG (PySem.Str.ofString "NoRatio") (Zc (eC (.str (PySem.Str.ofString "the bottom of a ratio is not 0"))) aNil)) sNil) (Zx (ZG (gNm 2) (Zj F_greatest_divisor (Zc (Zg 0) (Zc (Zg 1) aNil)))) (Zx (sIf (tv (e2 dLt (Zg 1) (eC (.int 0)))) (ZG (gNm 2) (Zfb (Zg 2))) sNil) (Z1 (Zaq (Zc (e2 dDiv (Zg 0) (Zg 2)) (Zc (e2 dDiv (Zg 1) (Zg 2)) aNil))))))))
def F_ratio:W3:=fnF ZfC 2 1
def Zjl:Sv:=(Z1 (Zj F_ratio (Zc (e2 dAdd (e2 dMul (e2 dIx (Zg 0) (eC (.int 0))) (e2 dIx (Zg 1) (eC (.int 1)))) (e2 dMul (e2 dIx (Zg 1) (eC (.int 0))) (e2 dIx (Zg 0) (eC (.int 1))))) (Zc (e2 dMul (e2 dIx (Zg 0) (eC (.int 1))) (e2 dIx (Zg 1) (eC (.int 1)))) aNil))))
def F_plus:W3:=fnF Zjl 2 0
def ZfD:Sv:=(Z1 (Zj F_ratio (Zc (e2 dMul (e2 dIx (Zg 0) (eC (.int 0))) (e2 dIx (Zg 1) (eC (.int 0)))) (Zc (e2 dMul (e2 dIx (Zg 0) (eC (.int 1))) (e2 dIx (Zg 1) (eC (.int 1)))) aNil))))
def F_times:W3:=fnF ZfD 2 0
end CR
namespace CR
open L2 DL
abbrev rt(q:Rat):D:=pr q.num (q.den:Int)
noncomputable def Sz(k:Nat)(q:Rat):Prop:=q.num.natAbs<2^k/\q.den<2^k
theorem Zq7:F_greatest_divisor=FGcd:=rfl
theorem Zc5(h:0<j)(hk:j.natAbs<2^k)(hk2:k<=8000):wO (dDiv (.int i) (.int j) M) Q E=Q (.int (i/j)) M:=by
 have:ZaN j:=⟨by lia,by
  have:j.natAbs.log2<k:=(Nat.log2_lt (by lia)).mpr hk
  lia⟩
 show wO (if ZaN j then _ else _) Q E=_
 rw[if_pos this,iS _ (by lia)];rfl
theorem Zjm(hb:b≠0):rt (bJ t b hb)=pr (t/(eZ t b:Nat)) ((b:Int)/(eZ t b:Nat)):=by
 unfold rt;rw[Rat.num_normalize,Rat.den_normalize,gS];rfl
theorem ZlY{b:Nat}(hb:b≠0)(h:b<2^k):0<eZ t b/\eZ t b<2^k:=by
 have h1:eZ t b ∣ b:=Int.gcd_dvd_natAbs_right t b;have h2:=Nat.le_of_dvd (by lia) h1
 have h3:eZ t b≠0:=fun z=>by
  rw[z]at h1;exact hb (Nat.eq_zero_of_zero_dvd h1)
 lia
theorem Zd4{b:Nat}(hb:b≠0)(h:b<2^k)(hk:k<=8000):wO (F_ratio [.int t,.int b] M) Q E=Q (rt (bJ t b hb)) M:=by
 obtain⟨g0,g1⟩:=ZlY (t:=t) hb h;have gw:∀{Q:W0},wO (FGcd [.int t,.int b] M) Q E=Q (.int (eZ t b:Nat)) M:=by
  intro Q;rw[ZlO];rfl
 rw[Zjm hb];generalize eZ t b=g at *;simp![F_ratio,ZfC,F_is_whole,Zcm,Zq7,gw];rw[Zc5 (k:=k) (by lia) (by simpa using g1) hk]
 simp![Zo];rw[Zc5 (k:=k) (by lia) (by simpa using g1) hk]
 simp![Zo]
theorem ZbS(hb:b≠0)(ht:t.natAbs<2^k)(h:b<2^k):Sz k (bJ t b hb):=by
 refine⟨?_,?_⟩
 ·rw[Rat.num_normalize];exact gf (Int.natAbs_ediv_le_natAbs _ _) ht
 ·rw[Rat.den_normalize];exact gf (ig _ _) h
theorem Zab(hx:x<2^k)(hy:y<2^l):x*y<2^(k+l):=by
 rw[l4];exact Nat.mul_lt_mul'' hx hy
theorem Zq8(hp:Sz k p)(hq:Sz l q)(hk:k+l<=8000):wO (F_plus [rt p,rt q] M) Q E=Q (rt (p+q)) M:=by
 have nz:p.den*q.den≠0:=eU p.den_nz q.den_nz;have f1:Zu p.num (q.den:Int):=Zq k l hp.1 (by simpa using hq.2) (by lia) (by lia)
 have f2:Zu q.num (p.den:Int):=Zq l k hq.1 (by simpa using hp.2) (by lia) (by lia)
 have f3:Zu (p.den:Int) (q.den:Int):=Zq k l (by simpa using hp.2) (by simpa using hq.2) (by lia) (by lia)
 simp![F_plus,Zjl,ZJ f1,ZJ f2,ZJ f3];rw[show(p.den:Int)*(q.den:Int)=((p.den*q.den:Nat):Int)by simp,Zd4 nz (Zab hp.2 hq.2) hk,<-l5]
theorem Zcn(hp:Sz k p)(hq:Sz l q)(hk:k+l<=8000):wO (F_times [rt p,rt q] M) Q E=Q (rt (p*q)) M:=by
 have nz:p.den*q.den≠0:=eU p.den_nz q.den_nz;have f1:Zu p.num q.num:=Zq k l hp.1 hq.1 (by lia) (by lia)
 have f3:Zu (p.den:Int) (q.den:Int):=Zq k l (by simpa using hp.2) (by simpa using hq.2) (by lia) (by lia)
 simp![F_times,ZfD,ZJ f1,ZJ f3];rw[show(p.den:Int)*(q.den:Int)=((p.den*q.den:Nat):Int)by simp,Zd4 nz (Zab hp.2 hq.2) hk,<-l7]
theorem Z2(hp:Sz k p)(hq:Sz l q):Sz (k+l) (p*q):=by
 rw[l7];exact ZbS _ (by rw[bH];exact Zab hp.1 hq.1) (Zab hp.2 hq.2)
theorem Zc6(hp:Sz k p)(hq:Sz l q):Sz (k+l+1) (p+q):=by
 rw[l5];have h1:=Zab hp.1 hq.2;have h2:=Zab hq.1 hp.2;have h3:=Zab hp.2 hq.2;rw[ip l k]at h2;refine ZbS _ ?_ ?_
 ·have e1:(p.num*(q.den:Int)).natAbs=p.num.natAbs*q.den:=by rw[bH];rfl
  have e2:(q.num*(p.den:Int)).natAbs=q.num.natAbs*p.den:=by rw[bH];rfl
  have:=Int.natAbs_add_le (p.num*(q.den:Int)) (q.num*(p.den:Int))
  rw[jN];lia
 ·rw[jN];lia
end CR
namespace CH
open L2 DL CA CR
end CH
namespace CH
open L2 DL
open CR (rt Sz)
def rts(hs:List Rat):List D:=hs.map rt
theorem ZA:(rts hs).length=hs.length:=ay _
theorem ZP:rts hs++[rt q]=rts (hs++[q]):=by simp[rts]
end CH
namespace CS
open L2 DL CC CR
def ZfE:Sv:=(Z1 (Zj F_ratio (Zc (e2 dSub (e2 dMul (e2 dIx (Zg 0) (eC (.int 0))) (e2 dIx (Zg 1) (eC (.int 1)))) (e2 dMul (e2 dIx (Zg 1) (eC (.int 0))) (e2 dIx (Zg 0) (eC (.int 1))))) (Zc (e2 dMul (e2 dIx (Zg 0) (eC (.int 1))) (e2 dIx (Zg 1) (eC (.int 1)))) aNil))))
def F_minus:W3:=fnF ZfE 2 0
def Zd5:Sv:=(Z1 (Zj F_plus (Zc (Zj F_times (Zc (e2 dIx (Zg 0) (eC (.int 0))) (Zc (Zaq (Zc (e2 dIx (Zg 1) (eC (.int 0))) (Zc (eC (.int 1)) aNil))) aNil))) (Zc (Zj F_times (Zc (e2 dIx (Zg 0) (eC (.int 1))) (Zc (Zaq (Zc (e2 dIx (Zg 1) (eC (.int 1))) (Zc (eC (.int 1)) aNil))) aNil))) aNil))))
def F_sloped:W3:=fnF Zd5 2 0
def ZaB:Sv:=(Zx (ZG (gTp (gCs (gTp (gCs (gNm 2) (gCs (gNm 3) gNl))) (gCs (gTp (gCs (gNm 4) (gCs (gNm 5) gNl))) gNl))) (Zaq (Zc (e2 dIx (Zg 0) (eC (.int 0))) (Zc (e2 dIx (Zg 0) (eC (.int 1))) aNil)))) (Zx (Zg4 6 7 (Zc (e2 dIx (Zg 1) (eC (.int 0))) (Zc (e2 dIx (Zg 1) (eC (.int 1))) aNil))) (Z1 (Zaq (Zc (Zj F_minus (Zc (Zj F_times (Zc (Zg 6) (Zc (Zaq (Zc (Zg 5) (Zc (eC (.int 1)) aNil))) aNil))) (Zc (Zj F_times (Zc (Zg 7) (Zc (Zaq (Zc (Zg 3) (Zc (eC (.int 1)) aNil))) aNil))) aNil))) (Zc (Zj F_minus (Zc (Zj F_times (Zc (Zg 7) (Zc (Zaq (Zc (Zg 2) (Zc (eC (.int 1)) aNil))) aNil))) (Zc (Zj F_times (Zc (Zg 6) (Zc (Zaq (Zc (Zg 4) (Zc (eC (.int 1)) aNil))) aNil))) aNil))) aNil))))))
def F_slope_through:W3:=fnF ZaB 2 6
def Zbn:Sv:=(sIf (tv (e2 dNe (Zj bLen (Zc (Zg 1) aNil)) (Zj bLen (Zc (Zg 0) aNil)))) (ZeG (PySem.Str.ofString "NoHeight") (Zc (eFs (ZdS (eC (.str (PySem.Str.ofString "a height of "))) (ZdS (eFm (Zj bLen (Zc (Zg 0) aNil))) (ZdS (eC (.str (PySem.Str.ofString " rays has not "))) (ZdS (eFm (Zj bLen (Zc (Zg 1) aNil))) (ZdS (eC (.str (PySem.Str.ofString " ratios"))) jNil)))))) aNil)) sNil)
def F_ask_height:W3:=fnF Zbn 2 0
end CS
namespace CS
open L2 DL
open CR (rt Sz)
theorem ZdA(z:Int):pr z 1=rt (z:Rat):=by
 unfold rt;rw[Rat.num_intCast,Rat.den_intCast];rfl
theorem ZX{z:Int}(h:z.natAbs<2^k)(hk:1<=k):Sz k (z:Rat):=by
 refine⟨by rw[Rat.num_intCast];exact h,by rw[Rat.den_intCast];exact Nat.one_lt_two_pow (by lia)⟩
theorem Zd6(hp:Sz k p)(hq:Sz l q)(hk:k+l<=8000):wO (F_minus [rt p,rt q] M) Q E=Q (rt (p-q)) M:=by
 have nz:p.den*q.den≠0:=eU p.den_nz q.den_nz;have f1:Zu p.num (q.den:Int):=Zq k l hp.1 (by simpa using hq.2) (by lia) (by lia)
 have f2:Zu q.num (p.den:Int):=Zq l k hq.1 (by simpa using hp.2) (by lia) (by lia)
 have f3:Zu (p.den:Int) (q.den:Int):=Zq k l (by simpa using hp.2) (by simpa using hq.2) (by lia) (by lia)
 simp![F_minus,ZfE,ZJ f1,ZJ f2,ZJ f3];rw[show(p.den:Int)*(q.den:Int)=((p.den*q.den:Nat):Int)by simp,CR.Zd4 nz (CR.Zab hp.2 hq.2) hk,<-Rat.sub_def]
theorem ZdB(hp:Sz k p)(hq:Sz l q):Sz (k+l+1) (p-q):=by
 rw[Rat.sub_def];have h1:=CR.Zab hp.1 hq.2;have h2:=CR.Zab hq.1 hp.2;have h3:=CR.Zab hp.2 hq.2;rw[ip l k]at h2;refine CR.ZbS _ ?_ ?_
 ·have e1:(p.num*(q.den:Int)).natAbs=p.num.natAbs*q.den:=by rw[bH];rfl
  have e2:(q.num*(p.den:Int)).natAbs=q.num.natAbs*p.den:=by rw[bH];rfl
  have:=ff (p.num*(q.den:Int)) (q.num*(p.den:Int))
  rw[jN];lia
 ·rw[jN];lia
noncomputable def slp(m:Rat×Rat)(r:Pt):Rat:=m.1*(r.1:Rat)+m.2*(r.2:Rat)
theorem Zk2(h1:Sz k m.1)(h2:Sz k m.2)(hr:(-B<=r.1/\r.1<=B)/\ -B<=r.2/\r.2<=B)(hk:k<=3000)(hB:B<=400:=by first|decide|assumption):wO (F_sloped [.tup [rt m.1,rt m.2],pr r.1 r.2] M) Q E=Q (rt (slp m r)) M:=by
 have s1:Sz 9 (r.1:Rat):=ZX (by lia) (by decide)
 have s2:Sz 9 (r.2:Rat):=ZX (by lia) (by decide)
 simp![F_sloped,Zd5];rw[show D.tup [D.int r.1,D.int 1]=rt (r.1:Rat)from ZdA r.1,CR.Zcn h1 s1 (by lia)]
 simp![Zo];rw[show D.tup [D.int r.2,D.int 1]=rt (r.2:Rat)from ZdA r.2,CR.Zcn h2 s2 (by lia)]
 simp![Zo];rw[CR.Zq8 (CR.Z2 h1 s1) (CR.Z2 h2 s2) (by lia)]
 rfl
end CS
namespace CN
open L2 DL
open CC (F_following)
open CR (F_plus F_times)
open CS (F_ask_height)
end CN
namespace CN
open L2 DL
open CR (rt Sz)
open CH (rts ZA ZP)
noncomputable def cq(hs:List Rat)(i:Int):Rat:=hs.getD (i%hs.length).toNat 0
theorem Zbo(h: -(hs.length:Int)<=i/\i<hs.length):atI (rts hs) i=some (rt (cq hs i)):=by
 unfold atI;rw[ZA,Zi8 h];have hp:(i%hs.length).toNat<hs.length:=by
  have:=bA i (show(0:Int)<hs.length by lia)
  have:=bX i (show(hs.length:Int)≠0 by lia)
  lia
 simp[rts,cq,am hp]
theorem ZgA:cq hs (i%hs.length)=cq hs i:=by unfold cq;rw[kD _ (Int.dvd_refl _)]
theorem ZaC{hs:List Rat}(h:k<hs.length):cq hs k=hs[k]:=by
 unfold cq;rw[cS (by lia) (by lia)]
 simp[am h]
theorem ZaG(h:∀x∈hs,Sz k x)(hn:hs.length≠0):Sz k (cq hs i):=by
 unfold cq
 have:=(ZaO (i:=i) hn).1
 rw[aK,am this];exact h _ (bQ this)
theorem Zbp(h:i<(rts hs).length):(rts hs)[i]=rt (cq hs i):=by
 rw[ZA]at h;rw[ZaC h];simp[rts]
def bnd(rs:List Pt)(hs:List Rat)(i:Int):Rat:=cq hs (i-1)+cq hs (i+1)+(T rs i:Rat)*cq hs i
theorem Ze5(h:M[n]?=some (.lst (prs rs)))(h':M[m]?=some (.lst (rts hs)))(e:hs.length=rs.length)(q:Q .non M):wO (CS.F_ask_height [.ref n,.ref m] M) Q E:=by
 simp![CS.F_ask_height,CS.Zbn,h,h',ZA,e];exact q
end CN
namespace CN
open L2 DL
open CR (rt Sz)
open CH (rts ZA ZP)
theorem ZnT(h:i<(nts ts).length):(nts ts)[i]=.int (cn ts i):=by
 rw[ZdZ]at h;rw[ZlR h];simp[nts]
theorem ZgB(t:Int)(x:Rat):bJ (t*x.num) x.den x.den_nz=(t:Rat)*x:=by
 rw[l7];simp
end CN
namespace CN
open L2 DL
open CR (rt Sz)
open CH (rts ZA ZP)
end CN
namespace CU
open L2 DL
open CC (F_ask_smooth)
open CS (F_ask_height F_minus F_slope_through F_sloped)
end CU
namespace CU
open L2 DL
open CR (rt Sz)
open CH (rts ZA ZP)
open CN CS
noncomputable def Zfc(xs ys:List Rat):List Rat:=b8 (· - ·) xs ys
def thr(rs:List Pt)(hs:List Rat):Rat×Rat:=(cq hs 0*(cy rs 1).2-cq hs 1*(cy rs 0).2,cq hs 1*(cy rs 0).1-cq hs 0*(cy rs 1).1)
abbrev rp(m:Rat×Rat):D:=.tup [rt m.1,rt m.2]
theorem Zjn(h:rt p=rt q):p=q:=by
 unfold rt pr at h;injection h with h;injection h with h1 h;injection h with h2;injection h1 with h1;injection h2 with h2;exact Rat.ext h1 (by lia)
theorem ZnU:rts xs=rts ys↔xs=ys:=by
 refine⟨fun h=>?_,fun h=>by rw[h]⟩
 induction xs generalizing ys with
 |nil=>cases ys with
  |nil=>rfl
  |cons y ys=>simp[rts]at h
 |cons x xs ih=>
  cases ys with
  |nil=>simp[rts]at h
  |cons y ys=>
   simp only[rts,aP,fW]at h;rw[Zjn h.1,ih h.2]
theorem Zd7:rts hs=prs (hs.map fun q=>(q.num,(q.den:Int))):=by
 simp[rts,prs]
theorem Zq9{xs:List Rat}:xs.map (fun q=>(q.num,(q.den:Int)))=ys.map (fun q=>(q.num,(q.den:Int)))↔xs=ys:=by
 refine⟨fun h=>?_,fun h=>by rw[h]⟩
 rw[<-ZnU,Zd7,Zd7,h]
section
variable {k:Nat}{n:Nat}
theorem Zra(h1:M[n]?=some (.lst (rts xs)))(h2:M[m]?=some (.lst (rts ys))):eqF (k+3) M (.ref n) (.ref m)=some (decide (xs=ys)):=by
 rw[Zja h1 h2,Zd7,Zd7,ZlS];by_cases e:xs=ys
 ·subst e;simp
 ·rw[decide_eq_false e];split
  ·rw[decide_eq_false (fun z=>e (Zq9.mp z))]
  ·rfl
theorem ZtO(h1:M[n]?=some (.lst (prs rs))){ss:List Pt}(h2:M[m]?=some (.lst (prs ss))):eqF (k+3) M (.ref n) (.ref m)=some (decide (rs=ss)):=by
 rw[Zja h1 h2,ZlS];by_cases e:rs=ss
 ·subst e;simp
 ·rw[decide_eq_false e]
  split<;>rfl
theorem Zvc:eqF (k+2) M (rt p) (rt q)=some (decide (p=q)):=by
 rw[show eqF (k+2) M (rt p) (rt q)=some (decide ((p.num,(p.den:Int))=(q.num,(q.den:Int))))from Zs6];congr 1;apply decide_eq_decide.mpr;exact⟨fun h=>Rat.ext (congrArg (·.1) h) (by have:=congrArg (·.2) h;simp only at this;lia),fun h=>by subst h;rfl⟩
theorem Zww:eqF (k+3) M (rp a) (rp b)=some (decide (a=b)):=by
 show eqL (eqF (k+2) M) [rt a.1,rt a.2] [rt b.1,rt b.2]=_;simp only[eqL,Zvc];congr 1;obtain⟨a1,a2⟩:=a;obtain⟨b1,b2⟩:=b;by_cases h1:a1=b1<;>by_cases h2:a2=b2<;>simp[h1,h2]
theorem Zjo(h:M[n]?=some (.lst (prs rs)))(hb:Nr B rs)(h2:2<=rs.length)(h':M[m]?=some (.lst (rts hs)))(e:2<=hs.length)(hz:∀x∈hs,Sz k x)(hk:k<=2000)(hB:B<=400:=by first|decide|assumption):wO (F_slope_through [.ref n,.ref m] M) Q E=Q (rp (thr rs hs)) M:=by
 have hn:rs≠[]:=by intro z;rw[z]at h2;simp at h2
 have a:=hb _ (ZR (i:=0) hn);have b:=hb _ (ZR (i:=1) hn);have z0:=ZaG (i:=0) hz (by lia)
 have z1:=ZaG (i:=1) hz (by lia)
 simp![F_slope_through,ZaB,h,h',ZbG,Zbo];have sz (z:Int) (hz: -B<=z/\z<=B):Sz 9 (z:Rat):=ZX (by lia) (by decide)
 have re (z:Int):D.tup [D.int z,D.int 1]=rt (z:Rat):=ZdA z;rw[re,CR.Zcn z0 (sz _ b.2) (by lia)]
 simp![Zo];rw[re,CR.Zcn z1 (sz _ a.2) (by lia)]
 simp![Zo];rw[Zd6 (CR.Z2 z0 (sz _ b.2)) (CR.Z2 z1 (sz _ a.2)) (by lia)]
 simp![Zo];rw[re,CR.Zcn z1 (sz _ a.1) (by lia)]
 simp![Zo];rw[re,CR.Zcn z0 (sz _ b.1) (by lia)]
 simp![Zo];rw[Zd6 (CR.Z2 z1 (sz _ a.1)) (CR.Z2 z0 (sz _ b.1)) (by lia)]
 simp![Zo];rfl
theorem ZlZ(h1:Sz k mm.1)(h2:Sz k mm.2)(hr:(-200<=r.1/\r.1<=200)/\ -200<=r.2/\r.2<=200):Sz (2*k+17) (slp mm r):=by
 have e:k+8+(k+8)+1=2*k+17:=by lia
 exact e▸CR.Zc6 (CR.Z2 h1 (ZX (k:=8) (by lia) (by decide))) (CR.Z2 h2 (ZX (k:=8) (by lia) (by decide)))
theorem Zcc(h1:xs.length=n)(h2:ys.length=n):(Zfc xs ys).length=n:=by simp[Zfc,h1,h2]
theorem ZnV(h1:∀x∈xs,Sz k x)(h2:∀x∈ys,Sz l x):∀x∈Zfc xs ys,Sz (k+l+1) x:=by
 intro x hx;obtain⟨i,hi,rfl⟩:=cU hx;simp[Zfc]at hi ⊢;exact ZdB (h1 _ (bQ _)) (h2 _ (bQ _))
theorem ZgC(ex:xs.length=n)(ey:ys.length=n)(h:k<n):cq (Zfc xs ys) k=cq xs k-cq ys k:=by
 have l:(Zfc xs ys).length=n:=Zcc ex ey;rw[ZaC (by lia),ZaC (by lia),ZaC (by lia)]
 simp[Zfc]
theorem ZfF{F:Nat->Rat}(h1:xs.length=n)(h:∀i<n,F i=cq xs i):(aL n).map (fun(i:Nat)=>rt (F i))=rts xs:=by
 apply gU
 ·rw[ZA,h1];simp
 ·intro i hi hi';simp at hi;rw[Zbp];simp[h i hi]
end
end CU
namespace CV
open L2 DL
open CR (rt Sz)
open CH (rts ZA ZP)
open CN CU CS
noncomputable def Kp(M M':Sto):Prop:=M.length<=M'.length/\∀j<M.length,M'[j]?=M[j]?
section
variable {M M1 M2:Sto}{j:Nat}
theorem Kp.of(l:M.length<=M'.length)(g:∀j<M.length,M'[j]?=M[j]?):Kp M M':=⟨l,g⟩
theorem Kp.get(k:Kp M M')(h:M[j]?=some o):M'[j]?=some o:=(k.2 _ (Zs h)).trans h
theorem Kp.refl:Kp M M:=⟨ac _,fun _ _=>rfl⟩
theorem Kp.trans(a:Kp M M1)(b:Kp M1 M2):Kp M M2:=⟨aU a.1 b.1,fun j h=>(b.2 j (aj h a.1)).trans (a.2 j h)⟩
theorem Kp.app:Kp M (M++L):=⟨by simp,fun j h=>Ze1 h⟩
theorem Kp.set(a:Kp M M1)(h:M.length<=j):Kp M (M1.set j o):=⟨by rw[dh];exact a.1,fun i hi=>by rw[aE (by lia)];exact a.2 i hi⟩
end
theorem Zjp(h:Sz a x)(hab:a<=b):Sz b x:=⟨aj h.1 (aY (by decide) hab),aj h.2 (aY (by decide) hab)⟩
theorem Zrb(h1:a.length=n)(h2:b.length=n)(h:∀i:Nat,i<n->cq a i=cq b i):a=b:=by
 apply gU (by lia)
 intro i h1 h2
 have:=h i (by lia)
 rw[ZaC h1,ZaC h2]at this;exact this
theorem ZtP(ru:M[mu]?=some (.lst (rts u)))(rv:M[mv]?=some (.lst (rts v)))(lu:u.length=N)(lv:v.length=N)(hN:N<=1000)(lz:zs.length=N)(hf:∀(i:Nat),i<N->∀L,wO (f [some (rt (cq u i)),some (rt (cq v i))] (M++L)) (fun y M2=>y=rt (cq zs i)/\M2=M++L) (fun _ _=>False))(q:Q (.ref M.length) (M++[.lst (rts zs)])):kCo (gTp (gCs (gNm 0) (gCs (gNm 1) gNl))) (fun _ M=>.ok true M) f 2 [] ρ Q (.zip mu mv) M:=by
 have hz:(b8 (fun a b=>D.tup [a,b]) (rts u) (rts v)).length=N:=by simp[ZA];lia
 have hu:=Zs ru;have hv:=Zs rv;refine ZrT (xs:=b8 (fun a b=>D.tup [a,b]) (rts u) (rts v)) (fun ρ=>∃x y,ρ=[x,y]) (fun(i:Nat)=>rt (cq zs i)) (by lia) (by rw[Zjb ru,hz,ZA];lia) ⟨_,_,rfl⟩ (fun L i hi=>?_) ?_ (by rw[hz,ZfF (xs:=zs) lz (fun i hi=>rfl)];exact q)
 ·rw[ZlT (by rw[Ze1 hu];exact ru) (by rw[Ze1 hv];exact rv)]
 ·rintro i hi ρ L ⟨x,y,rfl⟩;rw[hz]at hi;rw[kE,Zbp,Zbp];simp![Zo];exact⟨⟨_,_,rfl⟩,hf i hi L⟩
end CV
namespace CW
open L2 DL
end CW
namespace CW
open L2 DL
open CV
def fx(rs:List Pt):Nat:=((ZtN rs).findIdx? (fun t=>decide (t= -1))).getD 0
end CW
namespace CB
open L2 DL
end CB
namespace CL
open L2 DL
open CC (F_following)
end CL
namespace CL
open L2 DL
open CV CB
end CL
namespace TW
open DL
noncomputable def nx(b:Int)(p q:Pt):Pt:=(0-b*q.1-p.1,0-b*q.2-p.2)
noncomputable def ng(p:Pt):Pt:=(0-p.1,0-p.2)
def run(p q:Pt):List Int->Pt×Pt
 |[]=>(p,q)
 |b::bs=>run q (nx b p q) bs
def ew(p q:Pt):Nat:=in1 (1,0) p q+in1 (-1,0) p q
noncomputable def st(a:Pt):Int:=if 0<a.2\/(a.2=0/\a.1<0)then 1 else 0
end TW
namespace TW
open DL
section
variable {rs:List Pt}
def Zwx(rs:List Pt):Int->Nat->List Int
 |_,0=>[]
 |i,k+1=>T rs (i+1)::Zwx rs (i+1) k
def sf(f:Pt->Pt->Nat)(rs:List Pt):Int->Nat->Nat
 |_,0=>0
 |i,k+1=>f (cy rs i) (cy rs (i+1))+sf f rs (i+1) k
theorem ZtQ(hn:rs≠[]):∀(k i:Nat),i+k=rs.length->cc f ((rs++rs.take 1).drop i)=sf f rs i k:=by
 have l0:0<rs.length:=bK.mpr hn;have ga:∀i:Nat,i<=rs.length->(rs++rs.take 1)[i]?=some (cy rs i):=by
  intro i hi;by_cases c:i<rs.length
  ·rw[ae c,Zcj (by lia),Zca (by lia),am c]
   simp
  ·have:i=rs.length:=by lia
   subst this;rw[aR (ac _),gy,<-Ze2,Int.sub_self,Zcj (by lia),Zca (by lia)]
   rw[c7 (by decide),am (by lia)]
   simp
 have lch:(rs++rs.take 1).length=rs.length+1:=by simp;lia
 have dr:∀i:Nat,i<=rs.length->(rs++rs.take 1).drop i=cy rs i::(rs++rs.take 1).drop (i+1):=by
  intro i hi;rw[dN (by lia)]
  have:=ga i hi
  rw[am (by lia)]at this
  rw[aN this]
 intro k
 induction k with
 |zero=>
  intro i hi;rw[dr i (by lia),dz (by lia)]
  rfl
 |succ k ih=>
  intro i hi
  have:=ih (i+1) (by lia)
  rw[dr i (by lia)]
  rw[dr (i+1) (by lia)]at this ⊢
  rw[cc,this,sf];rfl
theorem Zjq(hn:rs≠[]):cyc f rs=sf f rs 0 rs.length:=by
 have:=ZtQ (f:=f) hn rs.length 0 (by lia)
 exact this
end
end TW
namespace CT
open L2 DL
end CT
namespace CT
open L2 DL
open CV TW
def rl0(p q:Pt):List Int->List Pt
 |[]=>[]
 |b::bs=>p::rl0 q (nx b p q) bs
def rl(p q:Pt)(bs:List Int):List Pt:=rl0 p q bs++[(run p q bs).1,(run p q bs).2]
section
variable {L:List Int}
def Cl(L:List Int):Prop:=run (1,0) (0,1) L=((1,0),(0,1))
instance (L:List Int):Decidable (Cl L):=by unfold Cl;infer_instance
end
end CT
namespace CT
open L2 DL
open CV
open TW (nx)
end CT
namespace DL
section
variable {rs:List Pt}
theorem Zk3(hl:rs≠[])(h:cyc f rs=0)(i:Int):f (cy rs i) (cy rs (i+1))=0:=by
 have l0:rs.length≠0:=fun z=>hl (jy.mp z);refine Zd2 (P:=fun a b=>f a b=0) l0 ?_ i;intro i h0 h1;rw[TW.Zjq hl]at h
 have:∀(k:Nat)(j:Int),TW.sf f rs j k=0->∀m:Nat,m<k->f (cy rs (j+m)) (cy rs (j+m+1))=0:=by
  intro k
  induction k with
  |zero=>intro j _ m hm;lia
  |succ k ih=>
   intro j h m hm;rw[TW.sf]at h;cases m with
   |zero=>
    rw[show j+((0:Nat):Int)=j by lia]
    lia
   |succ m=>
    have:=ih (j+1) (by lia) m (by lia)
    rw[show j+((m+1:Nat):Int)=j+1+m by lia]
    exact this
 have:=this rs.length 0 h i.toNat (by lia)
 rw[show(0:Int)+(i.toNat:Nat)=i by lia]at this
 exact this
theorem ZfG(hl:rs≠[])(h:∀i:Int,f (cy rs i) (cy rs (i+1))=0):cyc f rs=0:=by
 rw[TW.Zjq hl]
 have:∀(k:Nat)(j:Int),TW.sf f rs j k=0:=by
  intro k
  induction k with
  |zero=>intro j;rfl
  |succ k ih=>intro j;rw[TW.sf,h,ih]
 exact this _ _
def nxp(a b:Pt):Nat:=if 0<X a b then 0 else 1
theorem ZtR(h:nxp a b=0):0<X a b:=by
 unfold nxp at h
 split at h
 ·assumption
 ·lia
theorem Zrc(h:0<X a b):nxp a b=0:=by unfold nxp;rw[if_pos h]
structure Rn(rs:List Pt):Prop where
 len:3<=rs.length
 ps:cyc nxp rs=0
 gc:∀p∈rs,eZ p.1 p.2=1
 fan:Fan rs
theorem Rn.ne(h:Rn rs):rs≠[]:=by
 intro z
 have:=h.len
 rw[z]at this;simp at this
theorem Rn.pos(h:Rn rs)(i:Int):0<X (cy rs i) (cy rs (i+1)):=ZtR (Zk3 h.ne h.ps i)
theorem ZtS(h:X a b=1):eZ a.1 a.2=1/\eZ b.1 b.2=1:=by
 unfold X at h;constructor
 ·have d1:((eZ a.1 a.2:Nat):Int) ∣ a.1*b.2-a.2*b.1:=Int.dvd_sub (jz (Int.gcd_dvd_left _ _)) (jz (Int.gcd_dvd_right _ _));rw[h]at d1;exact j4 (jA.mp d1)
 ·have d1:((eZ b.1 b.2:Nat):Int) ∣ a.1*b.2-a.2*b.1:=Int.dvd_sub (ji (Int.gcd_dvd_right _ _)) (ji (Int.gcd_dvd_left _ _));rw[h]at d1;exact j4 (jA.mp d1)
theorem Zrd{p:Pt}(h:p∈rs):∃i:Int,p=cy rs i:=by
 obtain⟨L,R,rfl⟩:=List.append_of_mem h;exact⟨L.length,Zq2.symm⟩
theorem Smo.rn(h:Smo rs):Rn rs:=by
 refine⟨h.len,ZfG h.ne fun i=>Zrc (by rw[h.one i];decide),fun p hp=>?_,h.fan⟩
 obtain⟨i,rfl⟩:=Zrd hp;exact(ZtS (h.one i)).1
end
open TW
open CT (rl0 Cl)
section
variable {rs:List Pt}
theorem Zre{f:Pt->Pt->Nat}:∀(k:Nat)(j:Int)(m:Nat),m<k->f (cy rs (j+m)) (cy rs (j+m+1))<=sf f rs j k
 |0,_,_,h=>absurd h (Nat.not_lt_zero _)
 |k+1,j,0,_=>by rw[sf];simp
 |k+1,j,m+1,h=>by
  have:=Zre (f:=f) k (j+1) m (by lia)
  rw[sf,show j+((m+1:Nat):Int)=j+1+m by lia]
  lia
theorem Zjr{f:Pt->Pt->Nat}:∀(k:Nat)(j:Int)(m l:Nat),m<l->l<k->f (cy rs (j+m)) (cy rs (j+m+1))+f (cy rs (j+l)) (cy rs (j+l+1))<=sf f rs j k
 |0,_,_,_,_,h=>absurd h (Nat.not_lt_zero _)
 |k+1,j,0,l+1,_,h=>by
  have:=Zre (f:=f) (rs:=rs) k (j+1) l (by lia)
  rw[sf,show j+((l+1:Nat):Int)=j+1+l by lia]
  simp;lia
 |k+1,j,m+1,l+1,h1,h=>by
  have:=Zjr (f:=f) k (j+1) m l (by lia) (by lia)
  rw[sf,show j+((m+1:Nat):Int)=j+1+m by lia,show j+((l+1:Nat):Int)=j+1+l by lia]
  lia
noncomputable abbrev sw(p:Pt):Pt:=(p.2,p.1)
end
end DL
namespace CB
open DL
section
variable {u v w:Pt}
def kl:List Pt->List Int
 |a::b::d::r=>X a d::kl (b::d::r)
 |_=>[]
theorem Xvv(p:Pt):X p p=0:=by unfold X;grind
theorem ZtT:∀(r:List Pt)(a b:Pt)(v:Pt),Ch (a::b::r)->Cv (a::b::r)->(b::r).getLast (by simp)=v->0<=X b v/\X b v<X a v
 |[],a,b,v,h,_,e=>by
  have:b=v:=e
  subst this;rw[Xvv,h.1];lia
 |c::r,a,b,v,h,k,e=>by
  have ih:=ZtT r b c v h.2 k.2 (by rw[<-e];simp[List.getLast_cons])
  obtain⟨m,m2,e1,e2⟩:=k.1;have ex:X a v+X c v=m*X b v:=by unfold X;grind
  have:2*X b v<=m*X b v:=eJ m2 (by lia)
  lia
theorem ZnW(hb:0<b)(h0:0<=c)(h1:c<b)(e:t+c=k*b): -((-t)/b)=k:=by
 have: -t=c+b*(-k):=by grind
 rw[this,Int.add_mul_ediv_left _ _ (by lia),Int.ediv_eq_zero_of_lt h0 h1]
 lia
theorem only:∀(ws:List Pt)(u v w:Pt),Ch (u::(ws++[v]))->Cv (u::(ws++[v]))->Fb u v w->ws=btw u w (hj (X u v) (X w v))/\kl (u::(ws++[v]))=hj (X u v) (X w v)
 |[],u,v,w,h,k,f=>by
  have h1:X u v=1:=h.1;have l:=f.lo;have l2:=f.hi;have w0:X w v=0:=by lia
  rw[w0];unfold hj;rw[dif_neg (by decide)]
  exact⟨rfl,rfl⟩
 |x::ws,u,v,w,h,k,f=>by
  have hl:(x::(ws++[v])).getLast (by simp)=v:=by simp[List.getLast_cons]
  have d:=ZtT (ws++[v]) u x v h k hl;have fx:Fb u v x:=⟨h.1,d.1,d.2⟩;have ew:=fx.uniq f;subst ew;obtain⟨y,R,eR⟩:∃y R,ws++[v]=y::R:=by
   cases ws with
   |nil=>exact⟨v,[],rfl⟩
   |cons y R=>exact⟨y,R++[v],rfl⟩
  have h':Ch (x::y::R):=by rw[<-eR];exact h.2
  have kk:Cv (u::x::y::R):=by rw[<-eR];exact k
  have hl2:(y::R).getLast (by simp)=v:=by
   have:(ws++[v]).getLast (by simp)=v:=by simp
   simpa [eR]using this
  have d2:=ZtT R x y v h' kk.2 hl2;obtain⟨m,m2,e1,e2⟩:=kk.1;have ex:X u v+X y v=m*X x v:=by unfold X;grind
  have hc:=ZnW (by lia) d2.1 d2.2 ex
  have ey:(m*x.1-u.1,m*x.2-u.2)=y:=by apply gq<;>simp only<;>lia
  have m3:X u y=m:=by
   have:=h.1
   rw[<-ey];unfold X at *;simp only;grind
  have fy:Fb x v y:=⟨h'.1,d2.1,d2.2⟩;have ih:=only ws x v y (by rw[eR];exact h') (by rw[eR];exact kk.2) fy
  have ej:hj (X u v) (X x v)=m::hj (X x v) (X y v):=by
   rw[hj,dif_pos (by lia),hc]
   congr 2;lia
  rw[ej];constructor
  ·rw[btw,ey,<-ih.1]
  ·show kl (u::x::(ws++[v]))=_;rw[eR,kl,m3,<-eR,ih.2]
end
end CB
namespace CD
open L2 DL
open CC (F_ask_smooth)
open CS (F_minus F_sloped)
def ZgD:Sv:=(Z1 (e2 dLt (e2 dMul (e2 dIx (Zg 0) (eC (.int 0))) (e2 dIx (Zg 1) (eC (.int 1)))) (e2 dMul (e2 dIx (Zg 1) (eC (.int 0))) (e2 dIx (Zg 0) (eC (.int 1))))))
def F_less:W3:=fnF ZgD 2 0
def Za4:Sv:=(sIf (tv (Zj F_less (Zc (Zg 1) (Zc (Zg 2) aNil)))) (ZG (gNm 1) (Zg 2)) sNil)
def Zco:Sv:=(Zx (ZG (gNm 1) (e2 dIx (Zg 0) (eC (.int 0)))) (Zx (ZeD (gNm 2) (Zg 0) Za4) (Z1 (Zg 1))))
def F_greatest:W3:=fnF Zco 1 2
def Zcp:Sv:=(Z1 (Zj F_minus (Zc (Zaq (Zc (eC (.int 0)) (Zc (eC (.int 1)) aNil))) (Zc (Zg 0) aNil))))
def F_contrary:W3:=fnF Zcp 1 0
def ZbT:Sv:=(Zx (ZaU (Zj F_ask_smooth (Zc (Zg 0) aNil))) (Z1 (Zbe (iSq (Zg 0)) 1 [1] (gNm 0) (fun _ M=>.ok true M) (Zj F_greatest (Zc (Zbe (iSq (Zg 1)) 1 [0] (gNm 0) (fun _ M=>.ok true M) (Zj F_contrary (Zc (Zj F_sloped (Zc (Zg 0) (Zc (Zg 1) aNil))) aNil))) aNil)))))
def F_height_of:W3:=fnF ZbT 2 0
end CD
namespace CD
open L2 DL
open CV
open CR (rt Sz)
open CH (rts ZA ZP)
theorem Zwy(I:Ro->Prop)(F:Nat->D)(hM:M[n]?=some (.lst xs))(hl:xs.length<10000000)(h0:I (roB k fr ρ))(st:∀(i:Nat)(h:i<xs.length)(ρ:Ro)(M':Sto),Kp M M'->I ρ->wG (tg xs[i] ρ) fun r=>I r/\wO (f r M') (fun y M2=>y=F i/\Kp M' M2) (fun _ _=>False))(hq:∀M',Kp M M'->M'[M.length]?=some (.lst ((aL xs.length).map F))->Q (.ref M.length) M'):kCo tg (fun _ M=>.ok true M) f k fr ρ Q (.sto n) M:=by
 refine Zi6 (xs:=xs) (Q:=fun M2=>Q (.ref M.length) M2) (fun i ρ M'=>I ρ/\Kp M M'/\M'[M.length]?=some (.lst ((aL i).map F))) _ 0 _ _ (by simp) (by rw[Zfz hM];lia) ⟨h0,Kp.app,by simp⟩ (fun i ρ M' hi hI=>by rw[Zgw];exact hI.2.1.get hM) ?_ (fun ρ M' hI=>hq M' hI.2.1 hI.2.2)
 rintro i ρ M' hi ⟨hI,K,r⟩;have s:=st i hi ρ M' K hI;cases e:tg xs[i] ρ with
 |none=>rw[e]at s;exact s.elim
 |some r'=>
  rw[e]at s;obtain⟨hr,s⟩:=s;show Br true _ _;rw[ZpZ];refine Zci s (fun y M2 ⟨h1,h2⟩=>?_) (fun _ _ z=>z);subst h1;rw[h2.get r];have hl2:=Zs (h2.get r);refine⟨by simp;lia,hr,(K.trans h2).set (ac _),?_⟩
  rw[aF hl2,cJ,cD];rfl
end CD
namespace CD
open L2 DL
open CV
open CR (rt Sz)
open CH (rts ZA ZP)
noncomputable def sg{α:Type}(neg:Bool)(k:Nat)(L:List α):List α:=(if neg then L.reverse else L).drop k++(if neg then L.reverse else L).take k
def zp(us:List Pt)(xs:List D):List D:=b8 (fun u x=>D.tup [pr u.1 u.2,x]) us xs
end CD
namespace CD
open L2 DL
open CV CN CU CS
open CR (rt Sz)
open CH (rts ZA ZP)
noncomputable def mxr(xs:List Rat):Rat:=xs.foldl (fun b x=>if b<x then x else b) (xs.headD 0)
theorem Zd8:∀(xs:List Rat)(b:Rat),(xs.foldl (fun b x=>if b<x then x else b) b=b\/xs.foldl (fun b x=>if b<x then x else b) b∈xs)/\b<=xs.foldl (fun b x=>if b<x then x else b) b/\∀x∈xs,x<=xs.foldl (fun b x=>if b<x then x else b) b
 |[],b=>⟨.inl rfl,d7,fun x h=>by cases h⟩
 |x::xs,b=>by
  rw[ii];by_cases h:b<x
  ·rw[if_pos h];obtain⟨h1,h2,h3⟩:=Zd8 xs x;refine⟨.inr ?_,by grind,fun y hy=>?_⟩
   ·rcases h1 with e|e
    ·rw[e];simp
    ·exact aA _ e
   ·rcases ah.mp hy with rfl|hy
    ·exact h2
    ·exact h3 y hy
  ·rw[if_neg h];obtain⟨h1,h2,h3⟩:=Zd8 xs b;refine⟨?_,h2,fun y hy=>?_⟩
   ·rcases h1 with e|e
    ·exact .inl e
    ·exact .inr (aA _ e)
   ·rcases ah.mp hy with rfl|hy
    ·grind
    ·exact h3 y hy
theorem Zcq(h:xs≠[]):mxr xs∈xs:=by
 cases xs with
 |nil=>exact absurd rfl h
 |cons x r=>
  rcases(Zd8 (x::r) x).1 with e|e
  ·unfold mxr;rw[show(x::r).headD 0=x from rfl,e];simp
  ·exact e
theorem ZgE(h:x∈xs):x<=mxr xs:=(Zd8 xs _).2.2 x h
theorem Zjs(h:g∈xs)(hl:∀x∈xs,x<=g):mxr xs=g:=by
 have h1:=ZgE h;have h2:=hl _ (Zcq (List.ne_nil_of_mem h));exact Rat.le_antisymm h2 h1
def pts(ms:List (Rat×Rat)):List D:=ms.map fun m=>D.tup [rt m.1,rt m.2]
theorem ZS:(pts ms).length=ms.length:=ay _
theorem Za5(h:i<(pts ms).length):(pts ms)[i]=D.tup [rt (ms[i]'(by rw[ZS]at h;exact h)).1,rt (ms[i]'(by rw[ZS]at h;exact h)).2]:=by simp[pts]
def hts(rs:List Pt)(ms:List (Rat×Rat)):List Rat:=rs.map fun r=>mxr (ms.map fun m=>0-slp m r)
theorem Zl0(hp:Sz k p)(hq:Sz l q)(hk:k+l<=8000):wO (F_less [rt p,rt q] M) Q E=Q (.bl (decide (p<q))) M:=by
 have f1:Zu p.num (q.den:Int):=Zq k l hp.1 (by simpa using hq.2) (by lia) (by lia)
 have f2:Zu q.num (p.den:Int):=Zq l k hq.1 (by simpa using hp.2) (by lia) (by lia)
 simp![F_less,ZgD,ZJ f1,ZJ f2];rw[show decide (p.num*(q.den:Int)<q.num*(p.den:Int))=decide (p<q)from decide_eq_decide.mpr (Rat.lt_iff p q).symm]
theorem Zhb(h:M[n]?=some (.lst (rts xs)))(hx:xs≠[])(hz:∀x∈xs,Sz k x)(hk:k<=4000):wO (F_greatest [.ref n] M) Q E=Q (rt (mxr xs)) M:=by
 have main (Q:W0) (E:W2) (q:Q (rt (mxr xs)) M):wO (F_greatest [.ref n] M) Q E:=by
  have hn:=Zs h;have hl:xs.length≠0:=by simpa using hx
  have c0:cq xs 0=xs.headD 0:=by
   cases xs with
   |nil=>exact absurd rfl hx
   |cons a r=>unfold cq;simp
  simp![F_greatest,Zco,h,Zbo,c0];refine Zaz (xs:=rts xs) (fun i ρ M'=>M'=M/\∃b x,ρ=[some (.ref n),some (rt b),x]/\Sz k b/\b=(xs.take i).foldl (fun b x=>if b<x then x else b) (xs.headD 0)) h ⟨rfl,_,_,rfl,by rw[<-c0];exact ZaG hz hl,rfl⟩ (fun i ρ M' hI=>hI.1▸h) ?_ ?_
  ·rintro i ρ _ hi ⟨rfl,b,x,rfl,hb,e⟩;rw[Zbp];have hi':i<xs.length:=by rw[ZA]at hi;exact hi
   have z:=ZaG (i:=i) hz hl;simp![Za4];rw[Zl0 hb z (by lia)]
   have tk:xs.take (i+1)=xs.take i++[cq xs i]:=by rw[aV hi',ZaC hi']
   refine brS (fun c=>?_) (fun c=>?_)
   ·simp![Zo];refine⟨_,_,rfl,z,?_⟩;rw[tk,List.foldl_append,<-e,ii,List.foldl_nil,if_pos c]
   ·simp![Zo];refine⟨_,_,rfl,hb,?_⟩;rw[tk,List.foldl_append,<-e,ii,List.foldl_nil,if_neg c]
  ·rintro ρ _ ⟨rfl,b,x,rfl,hb,e⟩;simp![Zo];rw[ZA,cZ]at e;rw[e];exact q
 obtain⟨d,M',e,e1,e2⟩:=Zb8 (main (fun d M'=>d=rt (mxr xs)/\M'=M) (fun _ _=>False) ⟨rfl,rfl⟩);rw[e,e1,e2];rfl
theorem Zhc(hp:Sz k p)(hk:k<=7000):wO (F_contrary [rt p] M) Q E=Q (rt (0-p)) M:=by
 simp![F_contrary,Zcp];rw[show D.tup [D.int 0,D.int 1]=rt ((0:Int):Rat)from CS.ZdA 0,CS.Zd6 (CS.ZX (k:=1) (by decide) (by decide)) hp (by lia)]
 rfl
theorem ZfH(h1:Sz k mm.1)(h2:Sz k mm.2)(hr:(-B<=r.1/\r.1<=B)/\ -B<=r.2/\r.2<=B)(hB:B<=400:=by first|decide|assumption):Sz (2*k+19) (slp mm r):=by
 have e:k+9+(k+9)+1=2*k+19:=by lia
 exact e▸CR.Zc6 (CR.Z2 h1 (ZX (k:=9) (by lia) (by decide))) (CR.Z2 h2 (ZX (k:=9) (by lia) (by decide)))
theorem ZfI(h:M[n]?=some (.lst (prs rs)))(hs:Smo rs)(hb:Nr B rs)(hl:rs.length<=1000)(hm:M[m]?=some (.lst (pts ms)))(hne:ms≠[])(lm:ms.length<=1000)(hz:∀x∈ms,Sz k x.1/\Sz k x.2)(hk:k<=1300)(q:∀M',Kp M M'->M'[M.length]?=some (.lst (rts (hts rs ms)))->Q (.ref M.length) M')(hB:B<=400:=by first|decide|assumption):wO (F_height_of [.ref n,.ref m] M) Q E:=by
 have hn:=Zs h;have hm':=Zs hm;simp![F_height_of,ZbT];refine CC.Zcx h hs (fun x hx=>by have:=hb x hx;lia) ?_
 simp![Zo];refine Zwy (fun ρ=>∃x,ρ=[x,some (.ref m)]) (fun(i:Nat)=>rt (cq (hts rs ms) i)) h (by rw[ZI];lia) ⟨_,rfl⟩ ?_ ?_
 ·rintro i hi ρ M1 K1 ⟨x,rfl⟩;rw[CC.Zcl];rw[ZI]at hi;have hm1:=K1.get hm;have hml:=Zs hm1;have hr:=hb _ (ZR (i:=i) hs.ne);simp![Zo];refine⟨⟨_,rfl⟩,?_⟩;have hxs:(hts rs ms).length=rs.length:=ay _;have e:cq (hts rs ms) i=mxr (ms.map fun m=>0-slp m (cy rs i)):=by
   rw[ZaC (by lia),Ze3 hi]
   simp[hts]
  generalize hv:(ms.map fun m=>0-slp m (cy rs i))=vs at *;have lv:vs.length=ms.length:=by rw[<-hv,ay]
  have hzv:∀x∈vs,Sz (2*k+21) x:=by
   intro x hx;rw[<-hv]at hx;obtain⟨mm,hmm,rfl⟩:=cf.mp hx
   have:=CS.ZdB (CS.ZX (z:=0) (k:=1) (by decide) (by decide)) (ZfH (hz mm hmm).1 (hz mm hmm).2 hr)
   exact Zjp this (by lia)
  refine ZrU (fun ρ=>∃y,ρ=[y,some (pr (cy rs i).1 (cy rs i).2)]) (fun(j:Nat)=>rt (cq vs j)) hm1 (by rw[ZS];lia) ⟨_,rfl⟩ ?_ ?_
  ·rintro j hj ρ L ⟨y,rfl⟩;have hj':j<ms.length:=by rw[ZS]at hj;exact hj
   rw[Za5];have hzj:=hz _ (bQ hj');have ev:cq vs j=0-slp ms[j] (cy rs i):=by
    rw[ZaC (by lia)]
    simp[<-hv]
   simp![Zk2 hzj.1 hzj.2 hr (by lia),Zhc (ZfH hzj.1 hzj.2 hr) (by lia)]
   refine⟨⟨_,rfl⟩,by rw[ev]⟩
  rw[ZS,ZfF lv (fun i hi=>rfl)];have r2:(M1++[SO.lst (rts vs)])[M1.length]?=some (.lst (rts vs)):=by simp
  simp![Zhb r2 (fun z=>by rw[z]at lv;simp at lv;exact hne (jy.mp lv.symm)) hzv (by lia)]
  exact⟨by rw[e],Kp.app⟩
 ·intro M' K' r';rw[ZI,ZfF (xs:=hts rs ms) (ay _) (fun i hi=>rfl)]at r';exact q M' K' r'
end CD
namespace Rb
open L2 DL
open CN (cq)
open CS (slp)
noncomputable abbrev RP:=Rat×Rat
def Win(rs:List Pt)(hs:List Rat)(p:RP):Prop:=∀i:Nat,i<rs.length-> -(cq hs i)<=slp p (cy rs i)
def On(rs:List Pt)(hs:List Rat)(p:RP)(i:Nat):Prop:=i<rs.length/\slp p (cy rs i)= -(cq hs i)
def Cor(rs:List Pt)(hs:List Rat)(p:RP):Prop:=Win rs hs p/\∃i j,On rs hs p i/\On rs hs p j/\X (cy rs i) (cy rs j)≠0
theorem ZbH(u v:Pt):((X u v:Int):Rat)=(u.1:Rat)*v.2-u.2*v.1:=by
 unfold X;rw[f7,a8,a8]
theorem Ze6(h:X r b=1):slp p o=(X o b:Rat)*slp p r+(X r o:Rat)*slp p b:=by
 have e:(r.1:Rat)*b.2-r.2*b.1=1:=by rw[<-ZbH,h];rfl
 rw[ZbH,ZbH];unfold slp;generalize (r.1:Rat)=r1 at *;generalize (r.2:Rat)=r2 at *;generalize (b.1:Rat)=b1 at *;generalize (b.2:Rat)=b2 at *;generalize (o.1:Rat)=o1 at *;generalize (o.2:Rat)=o2 at *;generalize p.1=p1 at *;generalize p.2=p2 at *;grind
noncomputable def ptE(r b:Pt)(h t:Rat):RP:=((-h)*b.2-t*r.2,t*r.1-(-h)*b.1)
theorem ZnX(e:X r b=1):slp (ptE r b h t) r= -h:=by
 have e:(r.1:Rat)*b.2-r.2*b.1=1:=by rw[<-ZbH,e];rfl
 unfold slp ptE;simp only;grind
theorem Zrf(e:X r b=1):slp (ptE r b h t) b=t:=by
 have e:(r.1:Rat)*b.2-r.2*b.1=1:=by rw[<-ZbH,e];rfl
 unfold slp ptE;simp only;grind
theorem Zl1{p:RP}(e:X r b=1)(q:slp p r= -h):p=ptE r b h (slp p b):=by
 have e:(r.1:Rat)*b.2-r.2*b.1=1:=by rw[<-ZbH,e];rfl
 unfold slp at *;unfold ptE;refine gq ?_ ?_
 ·simp only;grind
 ·simp only;grind
def co(r o:Pt):Rat:=(X r o:Rat)
def as'(b o:Pt)(h g:Rat):Rat:=(X o b:Rat)*h-g
theorem Zjt(e:X r b=1):(-g<=slp (ptE r b h t) o)↔as' b o h g<=co r o*t:=by
 rw[Ze6 (o:=o) e,ZnX e,Zrf e];unfold as' co
 constructor<;>intro z<;>grind
theorem Zju(e:X r b=1):(slp (ptE r b h t) o= -g)↔as' b o h g=co r o*t:=by
 rw[Ze6 (o:=o) e,ZnX e,Zrf e];unfold as' co
 constructor<;>intro z<;>grind
theorem Zac{c:Rat}(hc:0<c):c*a<=c*b↔a<=b:=⟨fun h=>Rat.le_of_mul_le_mul_left h hc,fun h=>b7 h (by grind)⟩
theorem ZgF{c:Rat}(hc:0<c)(h:a<=c*t)(h2:t<=u):a<=c*u:=jO h ((Zac hc).mpr h2)
theorem Zc7{c:Rat}(hc:c<0)(h:a<=c*t)(h2:u<=t):a<=c*u:=by
 refine jO h ?_
 have:(-c)*u<=(-c)*t:=(Zac (by grind)).mpr h2
 grind
def LoI(rs:List Pt)(hs:List Rat)(i n:Nat)(t:Rat):Prop:=(∃j<n,0<co (cy rs i) (cy rs j)/\as' (cy rs (i+1)) (cy rs j) (cq hs i) (cq hs j)=co (cy rs i) (cy rs j)*t)/\∀j<n,0<co (cy rs i) (cy rs j)->as' (cy rs (i+1)) (cy rs j) (cq hs i) (cq hs j)<=co (cy rs i) (cy rs j)*t
def HiI(rs:List Pt)(hs:List Rat)(i n:Nat)(t:Rat):Prop:=(∃j<n,co (cy rs i) (cy rs j)<0/\as' (cy rs (i+1)) (cy rs j) (cq hs i) (cq hs j)=co (cy rs i) (cy rs j)*t)/\∀j<n,co (cy rs i) (cy rs j)<0->as' (cy rs (i+1)) (cy rs j) (cq hs i) (cq hs j)<=co (cy rs i) (cy rs j)*t
def ZeI(rs:List Pt)(hs:List Rat)(i n:Nat):Prop:=∀j<n,co (cy rs i) (cy rs j)=0->as' (cy rs (i+1)) (cy rs j) (cq hs i) (cq hs j)<=0
def Zjv(rs:List Pt)(hs:List Rat)(i:Nat)(ps:List RP):Prop:=(∀p∈ps,Cor rs hs p)/\∀p j,Win rs hs p->On rs hs p i->On rs hs p j->X (cy rs i) (cy rs j)≠0->p∈ps
section
variable {rs:List Pt}{hs:List Rat}{i n:Nat}{u:Rat}
theorem LoI.new(ha:as' (cy rs (i+1)) (cy rs n) (cq hs i) (cq hs n)=co (cy rs i) (cy rs n)*u)(hc:0<co (cy rs i) (cy rs n))(h:∀j<n,0<co (cy rs i) (cy rs j)->as' (cy rs (i+1)) (cy rs j) (cq hs i) (cq hs j)<=co (cy rs i) (cy rs j)*u):LoI rs hs i (n+1) u:=by
 refine⟨⟨n,by lia,hc,ha⟩,fun j hj c=>?_⟩
 by_cases e:j=n
 ·subst e;rw[ha];exact d7
 ·exact h j (by lia) c
theorem LoI.keep(h:LoI rs hs i n t)(h2:0<co (cy rs i) (cy rs n)->as' (cy rs (i+1)) (cy rs n) (cq hs i) (cq hs n)<=co (cy rs i) (cy rs n)*t):LoI rs hs i (n+1) t:=by
 obtain⟨⟨j,hj,c⟩,h1⟩:=h;refine⟨⟨j,by lia,c⟩,fun j hj c=>?_⟩
 by_cases e:j=n
 ·subst e;exact h2 c
 ·exact h1 j (by lia) c
theorem HiI.new(ha:as' (cy rs (i+1)) (cy rs n) (cq hs i) (cq hs n)=co (cy rs i) (cy rs n)*u)(hc:co (cy rs i) (cy rs n)<0)(h:∀j<n,co (cy rs i) (cy rs j)<0->as' (cy rs (i+1)) (cy rs j) (cq hs i) (cq hs j)<=co (cy rs i) (cy rs j)*u):HiI rs hs i (n+1) u:=by
 refine⟨⟨n,by lia,hc,ha⟩,fun j hj c=>?_⟩
 by_cases e:j=n
 ·subst e;rw[ha];exact d7
 ·exact h j (by lia) c
theorem HiI.keep(h:HiI rs hs i n t)(h2:co (cy rs i) (cy rs n)<0->as' (cy rs (i+1)) (cy rs n) (cq hs i) (cq hs n)<=co (cy rs i) (cy rs n)*t):HiI rs hs i (n+1) t:=by
 obtain⟨⟨j,hj,c⟩,h1⟩:=h;refine⟨⟨j,by lia,c⟩,fun j hj c=>?_⟩
 by_cases e:j=n
 ·subst e;exact h2 c
 ·exact h1 j (by lia) c
theorem ZeI.keep(h:ZeI rs hs i n)(h2:co (cy rs i) (cy rs n)=0->as' (cy rs (i+1)) (cy rs n) (cq hs i) (cq hs n)<=0):ZeI rs hs i (n+1):=fun j hj c=>by
 by_cases e:j=n
 ·subst e;exact h2 c
 ·exact h j (by lia) c
theorem ZnY:co r o≠0↔X r o≠0:=by
 unfold co;constructor
 ·intro h z;rw[z]at h;exact h rfl
 ·intro h z;exact h (by have:((X r o:Int):Rat)=((0:Int):Rat):=z;exact Rat.intCast_inj.mp this)
theorem ZfJ(hs':Smo rs):Win rs hs (ptE (cy rs i) (cy rs (i+1)) (cq hs i) t)↔∀j<rs.length,as' (cy rs (i+1)) (cy rs j) (cq hs i) (cq hs j)<=co (cy rs i) (cy rs j)*t:=by
 unfold Win;constructor
 ·intro h j hj;exact(Zjt (hs'.one i)).mp (h j hj)
 ·intro h j hj;exact(Zjt (hs'.one i)).mpr (h j hj)
theorem Zrg(hs':Smo rs)(lo:LoI rs hs i rs.length t)(hi:HiI rs hs i rs.length u)(ze:ZeI rs hs i rs.length)(h1:t<=v)(h2:v<=u):Win rs hs (ptE (cy rs i) (cy rs (i+1)) (cq hs i) v):=by
 refine(ZfJ hs').mpr fun j hj=>?_;by_cases c:0<co (cy rs i) (cy rs j)
 ·exact ZgF c (lo.2 j hj c) h1
 ·by_cases c2:co (cy rs i) (cy rs j)<0
  ·exact Zc7 c2 (hi.2 j hj c2) h2
  ·have e:co (cy rs i) (cy rs j)=0:=by grind
   have:=ze j hj e
   rw[e];grind
theorem Zrh(hs':Smo rs)(lo:LoI rs hs i rs.length t)(hi:HiI rs hs i rs.length u)(h:Win rs hs (ptE (cy rs i) (cy rs (i+1)) (cq hs i) v)):t<=v/\v<=u:=by
 have h:=(ZfJ hs').mp h;obtain⟨⟨j,hj,c,e⟩,_⟩:=lo;obtain⟨⟨k,hk,d,f⟩,_⟩:=hi;have h1:=h j hj;have h2:=h k hk;rw[e]at h1;rw[f]at h2;refine⟨(Zac c).mp h1,?_⟩
 have:(-co (cy rs i) (cy rs k))*v<=(-co (cy rs i) (cy rs k))*u:=by grind
 exact(Zac (by grind)).mp this
theorem Zk4(hs':Smo rs)(hi':i<rs.length)(lo:LoI rs hs i rs.length t)(hi:HiI rs hs i rs.length u)(ze:ZeI rs hs i rs.length)(h:t<=u):Zjv rs hs i [ptE (cy rs i) (cy rs (i+1)) (cq hs i) t,ptE (cy rs i) (cy rs (i+1)) (cq hs i) u]:=by
 have on (v:Rat):On rs hs (ptE (cy rs i) (cy rs (i+1)) (cq hs i) v) i:=⟨hi',ZnX (hs'.one i)⟩;refine⟨fun p hp=>?_,fun p j w oi oj ne=>?_⟩
 ·obtain⟨⟨j,hj,c,e⟩,_⟩:=id lo;obtain⟨⟨k,hk,d,f⟩,_⟩:=id hi;rcases ah.mp hp with rfl|hp
  ·exact⟨Zrg hs' lo hi ze d7 h,i,j,on _,⟨hj,(Zju (hs'.one i)).mpr e⟩,ZnY.mp (by grind)⟩
  ·rcases ah.mp hp with rfl|hp
   ·exact⟨Zrg hs' lo hi ze h d7,i,k,on _,⟨hk,(Zju (hs'.one i)).mpr f⟩,ZnY.mp (by grind)⟩
   ·cases hp
 ·have ep:=Zl1 (hs'.one i) oi.2;generalize slp p (cy rs (i+1))=v at ep;subst ep;obtain⟨b1,b2⟩:=Zrh hs' lo hi w;have ea:=(Zju (hs'.one i)).mp oj.2;have nz:=ZnY.mpr ne;by_cases c:0<co (cy rs i) (cy rs j)
  ·have:=lo.2 j oj.1 c
   rw[ea]at this
   have:=(Zac c).mp this
   have:v=t:=by grind
   rw[this];simp
  ·have c2:co (cy rs i) (cy rs j)<0:=by grind
   have:=hi.2 j oj.1 c2
   rw[ea]at this
   have:(-co (cy rs i) (cy rs j))*u<=(-co (cy rs i) (cy rs j))*v:=by grind
   have:=(Zac (by grind)).mp this
   have:v=u:=by grind
   rw[this];simp
theorem Zjw(hs':Smo rs)(h:∀v,¬Win rs hs (ptE (cy rs i) (cy rs (i+1)) (cq hs i) v)):Zjv rs hs i []:=by
 refine⟨fun p hp=>(by cases hp),fun p j w oi oj ne=>?_⟩
 have ep:=Zl1 (hs'.one i) oi.2;rw[ep]at w;exact absurd w (h _)
theorem ZnZ(hs':Smo rs)(hj:j<rs.length)(c:co (cy rs i) (cy rs j)=0)(h:0<as' (cy rs (i+1)) (cy rs j) (cq hs i) (cq hs j)):Zjv rs hs i []:=Zjw hs' fun v w=>by
 have:=(ZfJ hs').mp w j hj
 rw[c]at this;grind
theorem Zn0(hs':Smo rs)(lo:LoI rs hs i rs.length t)(hi:HiI rs hs i rs.length u)(h:u<t):Zjv rs hs i []:=Zjw hs' fun v w=>by
 obtain⟨b1,b2⟩:=Zrh hs' lo hi w;grind
end
end Rb
namespace BD
open L2 DL
open CC (F_crossed F_following F_ask_smooth)
open CR (F_greatest_divisor F_ratio)
open CD (F_less)
open CS (F_slope_through F_ask_height)
def Zad:Sv:=(ZG (gNm 1) (e2 dMul (Zg 1) (e2 dDiv (e2 dIx (Zg 2) (eC (.int 1))) (Zj F_greatest_divisor (Zc (Zg 1) (Zc (e2 dIx (Zg 2) (eC (.int 1))) aNil))))))
def ZaD:Sv:=(Zx (ZG (gNm 1) (eC (.int 1))) (Zx (ZeD (gNm 2) (Zg 0) Zad) (Z1 (Zg 1))))
def F_common_bottom:W3:=fnF ZaD 1 2
def ZbU:Sv:=(Z1 (e2 dMul (e2 dIx (Zg 0) (eC (.int 0))) (e2 dDiv (Zg 1) (e2 dIx (Zg 0) (eC (.int 1))))))
def F_stretched:W3:=fnF ZbU 2 0
def Zc8:Sv:=(Zx (ZG (gNm 10) (Zj F_crossed (Zc (Zg 3) (Zc (Zg 8) aNil)))) (Zx (ZG (gNm 11) (e2 dSub (e2 dMul (e2 dMul (Zj F_crossed (Zc (Zg 8) (Zc (Zg 4) aNil))) (e2 dIx (Zg 5) (eC (.int 0)))) (e2 dIx (Zg 9) (eC (.int 1)))) (e2 dMul (e2 dIx (Zg 9) (eC (.int 0))) (e2 dIx (Zg 5) (eC (.int 1)))))) (Zx (ZG (gNm 12) (e2 dMul (e2 dMul (Zg 10) (e2 dIx (Zg 5) (eC (.int 1)))) (e2 dIx (Zg 9) (eC (.int 1))))) (Zx (sIf (Zcz (tv (e2 dEq (Zg 10) (eC (.int 0)))) (tv (e2 dGt (Zg 11) (eC (.int 0))))) (Z1 (ZbN aNil)) sNil) (Zx (sIf (Zcz (tv (e2 dGt (Zg 10) (eC (.int 0)))) (Zf3 (tv (e2 dIs (Zg 6) (eC .non))) (tv (Zj F_less (Zc (Zg 6) (Zc (Zaq (Zc (Zg 11) (Zc (Zg 12) aNil))) aNil)))))) (ZG (gNm 6) (Zaq (Zc (Zg 11) (Zc (Zg 12) aNil)))) sNil) (sIf (Zcz (tv (e2 dLt (Zg 10) (eC (.int 0)))) (Zf3 (tv (e2 dIs (Zg 7) (eC .non))) (tv (Zj F_less (Zc (Zaq (Zc (Zfb (Zg 11)) (Zc (Zfb (Zg 12)) aNil))) (Zc (Zg 7) aNil)))))) (ZG (gNm 7) (Zaq (Zc (Zfb (Zg 11)) (Zc (Zfb (Zg 12)) aNil)))) sNil))))))
def Zjx:Sv:=(Zx (ZG (gTp (gCs (gNm 3) (gCs (gNm 4) gNl))) (Zaq (Zc (e2 dIx (Zg 0) (Zg 2)) (Zc (Zj F_following (Zc (Zg 0) (Zc (Zg 2) aNil))) aNil)))) (Zx (ZG (gNm 5) (e2 dIx (Zg 1) (Zg 2))) (Zx (ZG (ZrP (gNm 6) (gNm 7)) (eC .non)) (Zx (ZeK (gTp (gCs (gNm 8) (gCs (gNm 9) gNl))) (iZp (Zc (Zg 0) (Zc (Zg 1) aNil))) Zc8) (Zx (sIf (tv (Zj F_less (Zc (Zg 7) (Zc (Zg 6) aNil)))) (Z1 (ZbN aNil)) sNil) (Z1 (Zbe (iSq (Zaq (Zc (Zg 6) (Zc (Zg 7) aNil)))) 1 [3,4,5] (gNm 0) (fun _ M=>.ok true M) (Zj F_slope_through (Zc (ZbN (Zc (Zg 1) (Zc (Zg 2) aNil))) (Zc (ZbN (Zc (Zaq (Zc (Zfb (e2 dIx (Zg 3) (eC (.int 0)))) (Zc (e2 dIx (Zg 3) (eC (.int 1))) aNil))) (Zc (Zj F_ratio (Zc (e2 dIx (Zg 0) (eC (.int 0))) (Zc (e2 dIx (Zg 0) (eC (.int 1))) aNil))) aNil))) aNil))))))))))
def F_edge:W3:=fnF Zjx 3 10
def Zcr:Sv:=(Zx (ZG (gNm 1) (Zj F_common_bottom (Zc (Zbd (iSq (Zg 0)) 2 [] (gNm 0) (fun _ M=>.ok true M) fun n=>(gIn (iSq (Zg 0)) (gNm 1) (fun _ M=>.ok true M) (gEm (Zg 1) n))) aNil))) (Z1 (ZiW (Zc (Zg 0) aNil) [1] (Zaq (Zc (Zj F_stretched (Zc (e2 dIx (Zg 0) (eC (.int 0))) (Zc (Zg 1) aNil))) (Zc (Zj F_stretched (Zc (e2 dIx (Zg 0) (eC (.int 1))) (Zc (Zg 1) aNil))) aNil))))))
def F_in_order:W3:=fnF Zcr 1 1
def Zc9:Sv:=(ZkH (Zg 2) (Zg 4) (eC (.bl true)))
def Zda:Sv:=(ZeD (gNm 4) (Zj F_edge (Zc (Zg 0) (Zc (Zg 1) (Zc (Zg 3) aNil)))) Zc9)
def Zjy:Sv:=(Zx (ZaU (Zj F_ask_smooth (Zc (Zg 0) aNil))) (Zx (ZaU (Zj F_ask_height (Zc (Zg 0) (Zc (Zg 1) aNil)))) (Zx (ZG (gNm 2) eDnU) (Zx (Zbc (gNm 3) (Zc (Zj bLen (Zc (Zg 0) aNil)) aNil) Zda) (Z1 (Zj F_in_order (Zc (Zj bLisU (Zc (Zg 2) aNil)) aNil)))))))
def F_body:W3:=fnF Zjy 2 3
end BD
namespace BD
open L2 DL
open CV CN CU CS
open CR (rt Sz)
open CH (rts ZA ZP)
open CD (pts ZS Za5)
open Rb
theorem ZdC(x:Rat):(x.num:Rat)=x*(x.den:Rat):=by
 have h:=ZgB (x.den:Int) x;have h2:=Rat.normalize_mul_left (d:=1) (n:=x.num) (a:=x.den) (by decide) x.den_nz
 have h3:bJ x.num 1 (by decide)=(x.num:Rat):=by
  have:=ZdA x.num
  have e:=Rat.normalize_self (x.num:Rat);exact e
 have h4:bJ ((x.den:Int)*x.num) x.den x.den_nz=bJ ((x.den:Int)*x.num) (x.den*1) (by have:=x.den_nz;lia):=by congr 1;lia
 rw[h4,h2,h3]at h;rw[h,Rat.mul_comm,bL]
theorem Zdb{a:Int}{b:Nat}(hb:b≠0)(h:(a:Rat)=t*(b:Rat)):bJ a b hb=t:=by
 obtain⟨d,d0,e1,e2⟩:=Rat.normalize_num_den' a b hb;generalize bJ a b hb=x at *
 have:(a:Rat)=x*(b:Rat):=by
  rw[e1,a8,ZdC x,e2,ik,bL];grind
 have nz:(b:Rat)≠0:=fun z=>hb (Rat.natCast_eq_zero_iff.mp z);grind
def Tp(K:Nat)(t:Rat)(d:D):Prop:=∃a b:Int,d=pr a b/\0<b/\(a:Rat)=t*(b:Rat)/\a.natAbs<2^K/\b.natAbs<2^K
section
variable {rs:List Pt}
theorem ZfK(h:Tp K t d)(h':Tp K u d')(hK:K<=8000):wO (CD.F_less [d,d'] M) Q E=Q (.bl (decide (t<u))) M:=by
 obtain⟨a,b,rfl,b0,e,s1,s2⟩:=h;obtain⟨a',b',rfl,b0',e',s1',s2'⟩:=h';have f1:Zu a b':=Zq K K s1 s2' (by lia) (by lia)
 have f2:Zu a' b:=Zq K K s1' s2 (by lia) (by lia)
 simp![CD.F_less,CD.ZgD,ZJ f1,ZJ f2];have p:(0:Rat)<(b:Rat):=dW.mpr b0;have p':(0:Rat)<(b':Rat):=dW.mpr b0';have hlt:a*b'<a'*b↔t<u:=by
  rw[<-jP,a8,a8,e,e'];have e3:t*(b:Rat)*(b':Rat)=((b:Rat)*b')*t:=by grind
  have e4:u*(b':Rat)*(b:Rat)=((b:Rat)*b')*u:=by grind
  rw[e3,e4];exact fN (ja p p')
 rw[show decide (a*b'<a'*b)=decide (t<u)from decide_eq_decide.mpr hlt]
theorem Zk5{a b:Int}(b0:0<b)(e:(a:Rat)=t*(b:Rat))(s2:b.natAbs<2^K)(hK:K<=8000):wO (CR.F_ratio [.int a,.int b] M) Q E=Q (rt t) M:=by
 obtain⟨c,rfl⟩:∃c:Nat,b=c:=⟨b.toNat,by lia⟩
 rw[CR.Zd4 (k:=K) (show c≠0 by lia) (by simpa using s2) hK,Zdb (t:=t) (by lia) (by rw[e,bL])]
theorem ZtU{a b:Int}(b0:0<b)(e:(a:Rat)=t*(b:Rat))(s1:a.natAbs<2^K)(s2:b.natAbs<2^K):Sz K t:=by
 obtain⟨c,rfl⟩:∃c:Nat,b=c:=⟨b.toNat,by lia⟩
 rw[<-Zdb (t:=t) (show c≠0 by lia) (by rw[e,bL])]
 exact CR.ZbS _ s1 (by simpa using s2)
def LoD(rs:List Pt)(hs:List Rat)(i K n:Nat)(d:D):Prop:=(d=.non/\∀j<n,¬0<co (cy rs i) (cy rs j))\/∃t,Tp K t d/\LoI rs hs i n t
def HiD(rs:List Pt)(hs:List Rat)(i K n:Nat)(d:D):Prop:=(d=.non/\∀j<n,¬co (cy rs i) (cy rs j)<0)\/∃t,Tp K t d/\HiI rs hs i n t
theorem ZgG(h:LoD rs hs i K n d)(c:¬0<co (cy rs i) (cy rs n)):LoD rs hs i K (n+1) d:=by
 rcases h with⟨e,h⟩|⟨t,tp,h⟩
 ·refine .inl ⟨e,fun j hj=>?_⟩;by_cases e:j=n
  ·subst e;exact c
  ·exact h j (by lia)
 ·exact .inr ⟨t,tp,h.keep fun z=>absurd z c⟩
theorem ZgH(h:HiD rs hs i K n d)(c:¬co (cy rs i) (cy rs n)<0):HiD rs hs i K (n+1) d:=by
 rcases h with⟨e,h⟩|⟨t,tp,h⟩
 ·refine .inl ⟨e,fun j hj=>?_⟩;by_cases e:j=n
  ·subst e;exact c
  ·exact h j (by lia)
 ·exact .inr ⟨t,tp,h.keep fun z=>absurd z c⟩
theorem Zk6{r:Pt}:((X o b*x.num*(y.den:Int)-y.num*(x.den:Int):Int):Rat)=as' b o x y*((x.den:Rat)*(y.den:Rat)):=by
 rw[f7,a8,a8,a8,ZdC x,ZdC y,bL,bL];unfold as';generalize ((X o b:Int):Rat)=z;generalize (x.den:Rat)=a;generalize (y.den:Rat)=c;grind
theorem Zk7{x y:Rat}:((X r o*(x.den:Int)*(y.den:Int):Int):Rat)=co r o*((x.den:Rat)*(y.den:Rat)):=by
 rw[a8,a8,bL,bL];unfold co;generalize ((X r o:Int):Rat)=z;grind
theorem Zjz{x y:Rat}:(0:Rat)<(x.den:Rat)*(y.den:Rat):=ja (jV.mpr (dI x.den_nz)) (jV.mpr (dI y.den_nz))
theorem Zcd{a:Rat}(h:c≠0):a=c*(a/c):=by
 have:=Rat.div_mul_cancel (a:=a) h
 grind
theorem ZtV{a bt:Int}(ea:(a:Rat)=as' b o x y*((x.den:Rat)*(y.den:Rat)))(eb:(bt:Rat)=co r o*((x.den:Rat)*(y.den:Rat)))(c:0<co r o)(s1:a.natAbs<2^K)(s2:bt.natAbs<2^K):Tp K (as' b o x y/co r o) (pr a bt):=by
 have hd:=Zjz (x:=x) (y:=y);have h:=Zcd (a:=as' b o x y) (c:=co r o) (by grind)
 have hp:(0:Rat)<(bt:Rat):=by rw[eb];exact ja c hd
 refine⟨a,bt,rfl,dW.mp hp,?_,s1,s2⟩;rw[ea,eb];generalize as' b o x y/co r o=u at *;grind
theorem ZtW{a bt:Int}(ea:(a:Rat)=as' b o x y*((x.den:Rat)*(y.den:Rat)))(eb:(bt:Rat)=co r o*((x.den:Rat)*(y.den:Rat)))(c:co r o<0)(s1:a.natAbs<2^K)(s2:bt.natAbs<2^K):Tp K (as' b o x y/co r o) (pr (-a) (-bt)):=by
 have hd:=Zjz (x:=x) (y:=y);have h:=Zcd (a:=as' b o x y) (c:=co r o) (by grind)
 have hp:(0:Rat)<((-bt:Int):Rat):=by
  rw[jW,eb]
  have:=ja (a:= -co r o) (by grind) hd
  grind
 refine⟨-a,-bt,rfl,dW.mp hp,?_,by lia,by lia⟩
 rw[jW,jW,ea,eb];generalize as' b o x y/co r o=u at *;grind
theorem Zos(hu:(-200<=u.1/\u.1<=200)/\ -200<=u.2/\u.2<=200)(hv:(-200<=v.1/\v.1<=200)/\ -200<=v.2/\v.2<=200):(X u v).natAbs<2^17:=by
 unfold X;have h1:=bH u.1 v.2;have h2:=bH u.2 v.1;have b1:u.1.natAbs*v.2.natAbs<=200*200:=cB (by lia) (by lia)
 have b2:u.2.natAbs*v.1.natAbs<=200*200:=cB (by lia) (by lia)
 have:=ff (u.1*v.2) (u.2*v.1)
 lia
theorem ZjA(hu:(-B<=u.1/\u.1<=B)/\ -B<=u.2/\u.2<=B)(hv:(-B<=v.1/\v.1<=B)/\ -B<=v.2/\v.2<=B)(hB:B<=400:=by first|decide|assumption):(X u v).natAbs<2^19:=by
 unfold X;have h1:=bH u.1 v.2;have h2:=bH u.2 v.1;have b1:u.1.natAbs*v.2.natAbs<=400*400:=cB (by lia) (by lia)
 have b2:u.2.natAbs*v.1.natAbs<=400*400:=cB (by lia) (by lia)
 have:=ff (u.1*v.2) (u.2*v.1)
 lia
theorem Zn1(hb:Nr B rs)(hn:rs≠[])(hz:∀x∈hs,Sz k x)(hh:hs.length≠0)(hB:B<=400:=by first|decide|assumption):Sz (2*k+19) (thr rs hs).1/\Sz (2*k+19) (thr rs hs).2:=by
 have a:=hb _ (ZR (i:=0) hn);have b:=hb _ (ZR (i:=1) hn);have z0:=ZaG (i:=0) hz hh;have z1:=ZaG (i:=1) hz hh;have e:k+9+(k+9)+1=2*k+19:=by lia
 exact⟨e▸ZdB (CR.Z2 z0 (ZX (k:=9) (by lia) (by decide))) (CR.Z2 z1 (ZX (k:=9) (by lia) (by decide))),e▸ZdB (CR.Z2 z1 (ZX (k:=9) (by lia) (by decide))) (CR.Z2 z0 (ZX (k:=9) (by lia) (by decide)))⟩
theorem Zot(hu:(-B<=u.1/\u.1<=B)/\ -B<=u.2/\u.2<=B)(hB:B<=400:=by first|decide|assumption):wO (CC.F_crossed [pr u.1 u.2,pr v.1 v.2] M) Q E=Q (.int (X u v)) M:=CC.Zc1 (by lia) (by lia)
theorem ZjB(h:rs≠[]):∃j:Nat,j<rs.length/\cy rs j=cy rs z:=by
 have l:0<rs.length:=bK.mpr h;refine⟨(z%rs.length).toNat,?_,?_⟩
 ·have:=bA z (show(0:Int)<rs.length by lia)
  lia
 ·have:=bX z (show(rs.length:Int)≠0 by lia)
  rw[fP this,Zb9]
theorem ZtX(I:Ro->Prop)(F:Nat->D)(hl:xs.length<10000000)(h0:I (roB k fr ρ))(st:∀(i:Nat)(h:i<xs.length)(ρ:Ro)(M':Sto),Kp M M'->I ρ->wG (tg xs[i] ρ) fun r=>I r/\wO (f r M') (fun y M2=>y=F i/\Kp M' M2) (fun _ _=>False))(hq:∀M',Kp M M'->M'[M.length]?=some (.lst ((aL xs.length).map F))->Q (.ref M.length) M'):kCo tg (fun _ M=>.ok true M) f k fr ρ Q (.pur xs) M:=by
 refine Zi6 (xs:=xs) (Q:=fun M2=>Q (.ref M.length) M2) (fun i ρ M'=>I ρ/\Kp M M'/\M'[M.length]?=some (.lst ((aL i).map F))) _ 0 _ _ (by simp) (by simp[cnt]) ⟨h0,Kp.app,by simp⟩ (fun i ρ M' hi hI=>rfl) ?_ (fun ρ M' hI=>hq M' hI.2.1 hI.2.2)
 rintro i ρ M' hi ⟨hI,K,r⟩;have s:=st i hi ρ M' K hI;cases e:tg xs[i] ρ with
 |none=>rw[e]at s;exact s.elim
 |some r'=>
  rw[e]at s;obtain⟨hr,s⟩:=s;show Br true _ _;rw[ZpZ];refine Zci s (fun y M2 ⟨h1,h2⟩=>?_) (fun _ _ z=>z);subst h1;rw[h2.get r];have hl2:=Zs (h2.get r);refine⟨by simp;lia,hr,(K.trans h2).set (ac _),?_⟩
  rw[aF hl2,cJ,cD];rfl
theorem ZjC:thr [r,b] [-x,t]=ptE r b x t:=by
 unfold thr ptE;rfl
def EdI(rs:List Pt)(hs:List Rat)(n m i K:Nat)(j:Nat)(ρ:Ro):Prop:=∃lo hi x8 x9 x10 x11 x12,ρ=[some (.ref n),some (.ref m),some (.int i),some (pr (cy rs i).1 (cy rs i).2),some (pr (cy rs (i+1)).1 (cy rs (i+1)).2),some (rt (cq hs i)),some lo,some hi,x8,x9,x10,x11,x12]/\LoD rs hs i K j lo/\HiD rs hs i K j hi/\ZeI rs hs i j
theorem Zri(h:M[n]?=some (.lst (prs rs)))(hs':Smo rs)(hb:Nr B rs)(hl:rs.length<=1000)(h':M[m]?=some (.lst (rts hs)))(e:hs.length=rs.length)(hz:∀x∈hs,Sz k x)(hk:k<=900)(hi:i<rs.length)(q:∀ps o M',Zjv rs hs i ps->ps.length<=2->(∀p∈ps,Sz (4*k+61) p.1/\Sz (4*k+61) p.2)->Kp M M'->M.length<=o->M'[o]?=some (.lst (pts ps))->Q (.ref o) M')(hB:B<=400:=by first|decide|assumption):wO (F_edge [.ref n,.ref m,.int i] M) Q E:=by
 have hn:=Zs h;have hm:=Zs h';have hne:=hs'.ne;have zi:=ZaG (i:=i) hz (by lia)
 have br:=hb _ (ZR (i:=i) hne);have bb:=hb _ (ZR (i:=i+1) hne);simp![F_edge,Zjx,h,h',ZbG,Zbo,CC.Zc2 h (show 0<=(i:Int)/\(i:Int)<rs.length by lia),ZqX,Zu6]
 refine ZlU (xs:=prs rs) (ys:=rts hs) (fun j ρ M'=>M'=M/\EdI rs hs n m i (2*k+21) j ρ) h (by rw[ZI,ZA];lia) ⟨rfl,_,_,_,_,_,_,_,rfl,.inl ⟨rfl,fun j hj=>by lia⟩,.inl ⟨rfl,fun j hj=>by lia⟩,fun j hj=>by lia⟩ (fun j ρ M' hI=>hI.1▸⟨h,h'⟩) ?_ ?_
 ·rintro j ρ _ hj ⟨rfl,lo,hg,x8,x9,x10,x11,x12,rfl,hlo,hhi,hze⟩;rw[ZI]at hj;rw[CC.Zcl,Zbp];have zj:=ZaG (i:=j) hz (by lia)
  have bj:=hb _ (ZR (i:=j) hne);generalize hx:cq hs i=x at *;generalize hy:cq hs j=y at *;generalize hr:cy rs i=r at *;generalize hbb:cy rs (i+1)=b at *;generalize ho:cy rs j=o at *;have sX:=ZjA br bj;have sY:=ZjA bj bb;have dx:((x.den:Int)).natAbs<2^k:=by simpa using zi.2
  have dy:((y.den:Int)).natAbs<2^k:=by simpa using zj.2
  have g1:(X o b*x.num).natAbs<2^(19+k):=by rw[bH];exact CR.Zab sY zi.1
  have g2:(X r o*(x.den:Int)).natAbs<2^(19+k):=by rw[bH];exact CR.Zab sX dx
  have f1:Zu (X o b) x.num:=Zq 19 k sY zi.1 (by lia) (by lia)
  have f2:Zu (X o b*x.num) (y.den:Int):=Zq (19+k) k g1 dy (by lia) (by lia)
  have f3:Zu y.num (x.den:Int):=Zq k k zj.1 dx (by lia) (by lia)
  have f4:Zu (X r o) (x.den:Int):=Zq 19 k sX dx (by lia) (by lia)
  have f5:Zu (X r o*(x.den:Int)) (y.den:Int):=Zq (19+k) k g2 dy (by lia) (by lia)
  have ea:=Zk6 (r:=r) (b:=b) (o:=o) (x:=x) (y:=y);have eb:=Zk7 (r:=r) (o:=o) (x:=x) (y:=y);have sa:(X o b*x.num*(y.den:Int)-y.num*(x.den:Int)).natAbs<2^(2*k+21):=by
   have a1:(X o b*x.num*(y.den:Int)).natAbs<2^(19+k+k):=by rw[bH];exact CR.Zab g1 dy
   have a2:(y.num*(x.den:Int)).natAbs<2^(k+k):=by rw[bH];exact CR.Zab zj.1 dx
   have a3:2^(k+k)<=2^(19+k+k):=aY (by decide) (by lia)
   have a4:2^(2*k+21)=4*2^(19+k+k):=by rw[show 2*k+21=(19+k+k)+2 by lia,l4];lia
   have:=ff (X o b*x.num*(y.den:Int)) (y.num*(x.den:Int))
   lia
  have sb:(X r o*(x.den:Int)*(y.den:Int)).natAbs<2^(2*k+21):=by
   rw[bH];exact aj (CR.Zab g2 dy) (aY (by decide) (by lia))
  simp![Zc8,Zot br,Zot bj,ZJ f1,ZJ f2,ZJ f3,ZJ f4,ZJ f5];have ci:(X r o=0↔co r o=0)/\(0<X r o↔0<co r o)/\(X r o<0↔co r o<0):=⟨dg.symm,dW.symm,Rat.intCast_neg_iff.symm⟩;generalize X o b*x.num*(y.den:Int)-y.num*(x.den:Int)=ak at *;generalize X r o*(x.den:Int)*(y.den:Int)=bt at *;generalize X r o=c at *;have ec:co (cy rs i) (cy rs j)=co r o:=by rw[hr,ho]
  have eas:as' (cy rs (i+1)) (cy rs j) (cq hs i) (cq hs j)=as' b o x y:=by rw[hbb,ho,hx,hy]
  have hd:=Zjz (x:=x) (y:=y);have mk:∀{lo hi:D}{x8 x9 x10 x11 x12:Option D},LoD rs hs i (2*k+21) (j+1) lo->HiD rs hs i (2*k+21) (j+1) hi->ZeI rs hs i (j+1)->EdI rs hs n m i (2*k+21) (j+1) [some (.ref n),some (.ref m),some (.int i),some (pr r.1 r.2),some (pr b.1 b.2),some (rt x),some lo,some hi,x8,x9,x10,x11,x12]:=fun a b' c'=>by
   rw[<-hr,<-hbb,<-hx];exact⟨_,_,_,_,_,_,_,rfl,a,b',c'⟩
  rcases(show c=0\/0<c\/c<0 by lia)with c0|c0|c0
  ·have cz:=ci.1.mp c0;simp![Zo];refine brS (fun hp=>?_) (fun hp=>?_)
   ·simp![Zo];have hp':(0:Rat)<(ak:Rat):=dW.mpr hp;rw[ea]at hp';refine q [] _ _ (ZnZ hs' hj (ec▸cz) ?_) (by simp) (fun p hp=>by cases hp) Kp.app (ac _) (by simp[pts])
    rw[eas]
    have:as' b o x y*0<as' b o x y*((x.den:Rat)*(y.den:Rat)):=by grind
    by_cases z:0<as' b o x y
    ·exact z
    ·have:=Rat.mul_le_mul_of_nonneg_right (c:=(x.den:Rat)*(y.den:Rat)) (show as' b o x y<=0 by grind) (by grind)
     grind
   ·simp![Zo];refine mk (ZgG hlo (by rw[ec];grind)) (ZgH hhi (by rw[ec];grind)) (hze.keep fun _=>?_)
    rw[eas];have hp':(ak:Rat)<=0:=iU.mpr (by lia)
    rw[ea]at hp';by_cases z:0<as' b o x y
    ·have:=ja z hd
     grind
    ·grind
  ·have cz:=ci.2.1.mp c0;have tu:=ZtV (K:=2*k+21) ea eb cz sa sb;have eu:=Zcd (a:=as' b o x y) (c:=co r o) (by grind)
   generalize as' b o x y/co r o=u at *;have hz':ZeI rs hs i (j+1):=hze.keep fun z=>by rw[ec]at z;grind
   have hh':=ZgH hhi (show ¬co (cy rs i) (cy rs j)<0 by rw[ec];grind)
   rcases hlo with⟨rfl,hlo⟩|⟨t,tp,hlo⟩
   ·simp![Zo];exact mk (.inr ⟨u,tu,.new (by rw[eas,ec,eu]) (by rw[ec];exact cz) fun j' hj' z=>absurd z (hlo j' hj')⟩) hh' hz'
   ·have tp':=tp;obtain⟨a',b',rfl,_⟩:=tp';simp![ZfK tp tu (by lia)]
    refine brS (fun hlt=>?_) (fun hlt=>?_)
    ·simp![Zo];exact mk (.inr ⟨u,tu,.new (by rw[eas,ec,eu]) (by rw[ec];exact cz) fun j' hj' z=>ZgF z (hlo.2 j' hj' z) (by grind)⟩) hh' hz'
    ·simp![Zo];exact mk (.inr ⟨t,tp,hlo.keep fun z=>by rw[eas,ec,eu];exact(Zac cz).mpr (by grind)⟩) hh' hz'
  ·have cz:=ci.2.2.mp c0;have tu:=ZtW (K:=2*k+21) ea eb cz sa sb;have eu:=Zcd (a:=as' b o x y) (c:=co r o) (by grind)
   generalize as' b o x y/co r o=u at *;have hz':ZeI rs hs i (j+1):=hze.keep fun z=>by rw[ec]at z;grind
   have hh':=ZgG hlo (show ¬0<co (cy rs i) (cy rs j)by rw[ec];grind)
   rcases hhi with⟨rfl,hhi⟩|⟨t,tp,hhi⟩
   ·simp![Zo];exact mk hh' (.inr ⟨u,tu,.new (by rw[eas,ec,eu]) (by rw[ec];exact cz) fun j' hj' z=>absurd z (hhi j' hj')⟩) hz'
   ·have tp':=tp;obtain⟨a',b',rfl,_⟩:=tp';simp![ZfK tu tp (by lia)]
    refine brS (fun hlt=>?_) (fun hlt=>?_)
    ·simp![Zo];exact mk hh' (.inr ⟨u,tu,.new (by rw[eas,ec,eu]) (by rw[ec];exact cz) fun j' hj' z=>Zc7 z (hhi.2 j' hj' z) (by grind)⟩) hz'
    ·simp![Zo];exact mk hh' (.inr ⟨t,tp,hhi.keep fun z=>by rw[eas,ec,eu];exact Zc7 cz d7 (by grind)⟩) hz'
 ·rintro ρ _ ⟨rfl,lo,hg,x8,x9,x10,x11,x12,rfl,hlo,hhi,hze⟩;rw[ZI]at hlo hhi hze;have one:=hs'.one i;have lt':∃t,Tp (2*k+21) t lo/\LoI rs hs i rs.length t:=by
   rcases hlo with⟨_,hlo⟩|hlo
   ·obtain⟨j,hj,ej⟩:=ZjB (rs:=rs) (z:=i+1) hne;refine absurd ?_ (hlo j hj);unfold co;rw[ej,one]
    decide +kernel
   ·exact hlo
  have ht':∃t,Tp (2*k+21) t hg/\HiI rs hs i rs.length t:=by
   rcases hhi with⟨_,hhi⟩|hhi
   ·obtain⟨j,hj,ej⟩:=ZjB (rs:=rs) (z:=i-1) hne;refine absurd ?_ (hhi j hj);have o2:=hs'.one (i-1);rw[show(i:Int)-1+1=i by lia]at o2
    unfold co;rw[ej,show X (cy rs i) (cy rs (i-1))= -1 by unfold X at *;grind]
    decide +kernel
   ·exact hhi
  obtain⟨t,tl,hlo⟩:=lt';obtain⟨u,th,hhi⟩:=ht';simp![ZfK th tl (by lia)]
  refine brS (fun hlt=>?_) (fun hlt=>?_)
  ·simp![Zo];exact q [] _ _ (Zn0 hs' hlo hhi hlt) (by simp) (fun p hp=>by cases hp) Kp.app (ac _) (by simp[pts])
  ·simp![Zo];have ed:=Zk4 hs' hi hlo hhi hze (by grind)
   have st:∀v,Sz (2*k+21) v->Sz (4*k+61) (ptE (cy rs i) (cy rs (i+1)) (cq hs i) v).1/\Sz (4*k+61) (ptE (cy rs i) (cy rs (i+1)) (cq hs i) v).2:=fun v hv=>by
    rw[<-ZjC]
    have:=Zn1 (rs:=[cy rs i,cy rs (i+1)]) (hs:=[-(cq hs i),v]) (k:=2*k+21) (fun p hp=>by
     rcases ah.mp hp with rfl|hp
     ·exact br
     ·rcases ah.mp hp with rfl|hp
      ·exact bb
      ·cases hp) (by simp) (fun p hp=>by
     rcases ah.mp hp with rfl|hp
     ·exact⟨by rw[l8,Int.natAbs_neg];exact aj zi.1 (aY (by decide) (by lia)),by rw[l9];exact aj zi.2 (aY (by decide) (by lia))⟩
     ·rcases ah.mp hp with rfl|hp
      ·exact hv
      ·cases hp) (by simp)
    exact⟨Zjp this.1 (by lia),Zjp this.2 (by lia)⟩
   have tsz:∀{v:Rat}{d:D},Tp (2*k+21) v d->Sz (2*k+21) v:=fun⟨a,b,_,b0,e1,s1,s2⟩=>ZtU b0 e1 s1 s2;refine ZtX (fun ρ=>∃x,ρ=[x,some (pr (cy rs i).1 (cy rs i).2),some (pr (cy rs (i+1)).1 (cy rs (i+1)).2),some (rt (cq hs i))]) (fun j=>rp (ptE (cy rs i) (cy rs (i+1)) (cq hs i) (if j=0 then t else u))) (by simp) ⟨_,rfl⟩ ?_ ?_
   ·rintro j hj ρ M1 K1 ⟨y,rfl⟩;obtain⟨d,v,e1,e2,tv'⟩:∃d v,[lo,hg][j]=d/\(if j=0 then t else u)=v/\Tp (2*k+21) v d:=by
     match j,hj with
     |0,_=>exact⟨_,_,rfl,rfl,tl⟩
     |1,_=>exact⟨_,_,rfl,rfl,th⟩
    rw[e1,e2];have sv:=tsz tv';obtain⟨a,b,rfl,b0,e3,s1,s2⟩:=tv';simp![Zk5 b0 e3 s2 (by lia)]
    refine⟨⟨_,rfl⟩,?_⟩;have l1:M1.length<(M1++[SO.lst [pr (cy rs i).1 (cy rs i).2,pr (cy rs (i+1)).1 (cy rs (i+1)).2]]).length:=by simp
    rw[Zjo (k:=2*k+21) (rs:=[cy rs i,cy rs (i+1)]) (hs:=[-(cq hs i),v]) (by simp[prs]) (fun p hp=>by
     rcases ah.mp hp with rfl|hp
     ·exact br
     ·rcases ah.mp hp with rfl|hp
      ·exact bb
      ·cases hp) (by simp) (by simp[rts,rt,l8,l9]) (by simp) (fun p hp=>by
     rcases ah.mp hp with rfl|hp
     ·exact⟨by rw[l8,Int.natAbs_neg];exact aj zi.1 (aY (by decide) (by lia)),by rw[l9];exact aj zi.2 (aY (by decide) (by lia))⟩
     ·rcases ah.mp hp with rfl|hp
      ·exact sv
      ·cases hp) (by lia)]
    exact⟨by rw[ZjC],Kp.app⟩
   ·intro M1 K1 r1;refine q _ _ _ ed (by simp) (fun p hp=>?_) K1 (ac _) (by rw[r1];rfl)
    rcases ah.mp hp with rfl|hp
    ·exact st _ (tsz tl)
    ·rcases ah.mp hp with rfl|hp
     ·exact st _ (tsz th)
     ·cases hp
end
end BD
namespace BD
open L2 DL
open CV CN CU CS
open CR (rt Sz)
open CH (rts ZA ZP)
open CD (pts ZS Za5)
open Rb
noncomputable def ZcL(xs:List Rat):Nat:=xs.foldl (fun b x=>gK b x.den) 1
theorem Zk8(b d:Nat)(hd:d≠0):b*(d/ir b d)=gK b d:=by
 unfold gK;rw[Nat.mul_div_assoc _ (Nat.gcd_dvd_right b d)]
theorem ZjD:ZcL (xs++[x])=gK (ZcL xs) x.den:=by simp[ZcL]
theorem ZgI:∀(xs:List Rat),0<ZcL xs:=by
 have:∀(xs:List Rat)(b:Nat),0<b->0<xs.foldl (fun b x=>gK b x.den) b:=by
  intro xs
  induction xs with
  |nil=>intro b h;exact h
  |cons x r ih=>intro b h;exact ih _ (Nat.lcm_pos h (dI x.den_nz))
 exact fun xs=>this xs 1 (by decide)
theorem ZgJ(h:x∈xs):x.den ∣ ZcL xs:=by
 have up:∀(xs:List Rat)(b:Nat),b ∣ xs.foldl (fun b x=>gK b x.den) b:=by
  intro xs
  induction xs with
  |nil=>intro b;exact Nat.dvd_refl _
  |cons x r ih=>intro b;exact Nat.dvd_trans (Nat.dvd_lcm_left _ _) (ih _)
 have:∀(xs:List Rat)(b:Nat),x∈xs->x.den ∣ xs.foldl (fun b x=>gK b x.den) b:=by
  intro xs
  induction xs with
  |nil=>intro b h;cases h
  |cons y r ih=>
   intro b h;rcases ah.mp h with rfl|h
   ·exact Nat.dvd_trans (Nat.dvd_lcm_right _ _) (up _ _)
   ·exact ih _ h
 exact this xs 1 h
section
variable {M:Sto}{k l K i:Nat}{rs:List Pt}{hs:List Rat}{d:D}{ms:List RP}{p:RP}
theorem ZfL(hz:∀x∈xs,Sz k x):ZcL xs<2^(xs.length*k+1):=by
 have:∀(xs:List Rat)(b e:Nat),(∀x∈xs,Sz k x)->b<2^e->xs.foldl (fun b x=>gK b x.den) b<2^(e+xs.length*k):=by
  intro xs
  induction xs with
  |nil=>intro b e _ h;simpa using h
  |cons x r ih=>
   intro b e hz h;have l1:gK b x.den<=b*x.den:=by
    unfold gK;exact ig _ _
   have l2:=CR.Zab h (hz x (by simp)).2
   have:=ih (gK b x.den) (e+k) (fun y hy=>hz y (aA _ hy)) (by lia)
   rw[ii,bO,Nat.add_mul,Nat.one_mul,show e+(r.length*k+k)=e+k+r.length*k by lia]
   exact this
 have:=this xs 1 1 hz (by decide)
 rw[ip]at this;exact this
theorem ZgK(h:M[n]?=some (.lst (rts xs)))(hl:xs.length<=1000)(hz:∀x∈xs,Sz k x)(hk:k<=8000):wO (F_common_bottom [.ref n] M) Q E=Q (.int (ZcL xs:Nat)) M:=by
 have main (Q:W0) (E:W2) (q:Q (.int (ZcL xs:Nat)) M):wO (F_common_bottom [.ref n] M) Q E:=by
  have hn:=Zs h;simp![F_common_bottom,ZaD];refine Zaz (xs:=rts xs) (fun i ρ M'=>M'=M/\∃x,ρ=[some (.ref n),some (.int (ZcL (xs.take i):Nat)),x]) h ⟨rfl,_,rfl⟩ (fun i ρ M' hI=>hI.1▸h) ?_ ?_
  ·rintro i ρ _ hi ⟨rfl,x,rfl⟩;rw[Zbp];have hi':i<xs.length:=by rw[ZA]at hi;exact hi
   have z:=ZaG (i:=i) hz (by lia)
   have b:=ZfL (xs:=xs.take i) (k:=k) (fun x hx=>hz x (ft hx));have p0:=ZgI (xs.take i);have tk:ZcL (xs.take (i+1))=gK (ZcL (xs.take i)) (cq xs i).den:=by rw[aV hi',ZjD,ZaC hi']
   generalize cq xs i=y at *;have gl:(xs.take i).length*k+1<=10000000:=by
    have:(xs.take i).length<=1000:=by simp;lia
    have:=cB this hk
    lia
   generalize (xs.take i).length*k+1=e at *;generalize ZcL (xs.take i)=c at *;have gw:∀{Q:W0}{E:W2}{M:Sto},wO (CR.F_greatest_divisor [.int (c:Int),.int (y.den:Int)] M) Q E=Q (.int ((ir c y.den:Nat):Int)) M:=by
    intro Q E M;rw[CR.Zq7,ZlO];rfl
   have g0:0<ir c y.den:=Nat.gcd_pos_of_pos_left _ p0;have g1:ir c y.den<=y.den:=Nat.le_of_dvd (dI y.den_nz) (Nat.gcd_dvd_right c y.den);have st:=Zk8 c y.den y.den_nz;have dv:y.den/ir c y.den<=y.den:=ig _ _;have z2:=z.2;generalize ir c y.den=g at *;simp![Zad,gw];rw[CR.Zc5 (k:=k) (by lia) (by simp;lia) hk]
   have f1:Zu (c:Int) ((y.den:Int)/(g:Int)):=Zq e k (by simpa using b) (by rw[<-gS,Int.natAbs_natCast];lia) (by lia) (by lia)
   simp![ZJ f1];refine⟨some (rt y),?_⟩;rw[tk,<-st];simp
  ·rintro ρ _ ⟨rfl,x,rfl⟩;rw[ZA,cZ];simp![Zo];exact q
 obtain⟨d,M',e,e1,e2⟩:=Zb8 (main (fun d M'=>d=.int (ZcL xs:Nat)/\M'=M) (fun _ _=>False) ⟨rfl,rfl⟩);rw[e,e1,e2];rfl
noncomputable def stc(B:Nat)(x:Rat):Int:=x.num*((B/x.den:Nat):Int)
theorem ZgL(h:x.den ∣ B):(stc B x:Rat)=x*(B:Rat):=by
 obtain⟨c,rfl⟩:=h;unfold stc;rw[Nat.mul_div_cancel_left _ (dI x.den_nz),a8,ZdC x,ik,bL];grind
theorem ZbV{B:Nat}(hx:Sz k x)(hk:k<=8000)(hB:B<2^l)(hl:l<=50000000):wO (F_stretched [rt x,.int (B:Int)] M) Q E=Q (.int (stc B x)) M:=by
 have dn:=dI x.den_nz;simp![F_stretched,ZbU];rw[CR.Zc5 (k:=k) (by lia) (by simpa using hx.2) hk]
 have:B/x.den<=B:=ig _ _
 have f1:Zu x.num ((B:Int)/(x.den:Int)):=Zq k l hx.1 (by rw[<-gS,Int.natAbs_natCast];lia) (by lia) (by lia)
 simp![ZJ f1];unfold stc;rw[gS]
theorem ZgM(h0:0<B)(hx:x.den ∣ B)(hy:y.den ∣ B):stc B x<stc B y↔x<y:=by
 rw[<-jP,ZgL hx,ZgL hy];exact Rat.mul_lt_mul_right (jV.mpr h0)
theorem Zd9(h0:0<B)(hx:x.den ∣ B)(hy:y.den ∣ B)(h:stc B x=stc B y):x=y:=by
 have:=ZgM h0 hx hy
 have:=ZgM h0 hy hx
 grind
noncomputable def pl(p q:RP):Prop:=p.1<q.1\/(p.1=q.1/\p.2<q.2)
def ent(m:RP):D:=.tup [rp m,.bl true]
theorem ZtY(m:RP):∃kk,kyU (rp m)=some kk:=⟨_,rfl⟩
theorem Zrj{a:RP}(h1:kyU (rp a)=some kk)(h2:kyU (rp b)=some kk):a=b:=by
 have e1:=ZcI (show ZjZ [rt a.1,rt a.2]=some kk from h1);have e2:=ZcI (show ZjZ [rt b.1,rt b.2]=some kk from h2);have e:=e1.trans e2.symm;simp only[fW,and_true]at e;exact gq (Zjn e.1) (Zjn e.2)
theorem Zrk{a:RP}(h2:kyU (rp b)=some kk):kyU (rp a)=some kk↔a=b:=⟨fun h=>Zrj h h2,fun h=>h▸h2⟩
theorem ZjE{kk:List (List Key)}(h:kyU (rp p)=some kk):∀ms:List RP,(Zkz kyU kk (ms.map ent)).isSome=decide (p∈ms)
 |[]=>by simp[Zkz]
 |a::r=>by
  have ih:=ZjE h r;rw[aP,show ent a=.tup [rp a,.bl true]from rfl,Zkz];by_cases e:a=p
  ·subst e;rw[if_pos h];simp
  ·rw[if_neg (fun z=>e ((Zrk h).mp z)),ih]
   have:p≠a:=fun z=>e z.symm
   simp[this]
theorem Zn2(ms:List RP):Zm0 kyU kk (.bl true) (ms.map ent)=ms.map ent:=by
 unfold Zm0;rw[gI];refine dm fun a _=>?_;simp only[Function.comp,ent];split
 ·rfl
 ·rfl
theorem Zn3(h:kyU (rp p)=some kk)(ms:List RP):Zoo kyU kk (rp p) (.bl true) (ms.map ent)=(if p∈ms then ms else ms++[p]).map ent:=by
 unfold Zoo;rw[ZjE h,Zn2];by_cases e:p∈ms
 ·simp[e]
 ·simp[e];rfl
def key(B:Nat)(m:RP):List Int:=[stc B m.1,stc B m.2]
noncomputable def Dv(B:Nat)(ms:List RP):Prop:=∀m∈ms,m.1.den ∣ B/\m.2.den ∣ B
theorem ZjF(h0:0<B)(h:Dv B ms)(ha:a∈ms)(hb:b∈ms)(e:key B a=key B b):a=b:=by
 unfold key at e;simp only[fW,and_true]at e;exact gq (Zd9 h0 (h a ha).1 (h b hb).1 e.1) (Zd9 h0 (h a ha).2 (h b hb).2 e.2)
theorem Zrl(h0:0<B)(h:Dv B ms)(ha:a∈ms)(hb:b∈ms)(ne:a≠b)(e:ST.le (key B a) (key B b)):pl a b:=by
 have e:HT.Zbg (key B b) (key B a)=false:=e;unfold key at e;rw[HT.Z9]at e;have l1:=ZgM h0 (h a ha).1 (h b hb).1;by_cases c:stc B b.1=stc B a.1
 ·rw[if_pos c,HT.Z9]at e;have c1:=Zd9 h0 (h b hb).1 (h a ha).1 c;have l2:=ZgM h0 (h a ha).2 (h b hb).2;by_cases d:stc B b.2=stc B a.2
  ·exact absurd (gq c1 (Zd9 h0 (h b hb).2 (h a ha).2 d)).symm ne
  ·rw[if_neg d]at e;refine .inr ⟨c1.symm,l2.mp ?_⟩
   have:=of_decide_eq_false e
   lia
 ·rw[if_neg c]at e;refine .inl (l1.mp ?_)
  have:=of_decide_eq_false e
  lia
theorem ZjG(h0:0<B)(h:Dv B ms)(nd:ms.Nodup):(ms.map (key B)).Nodup:=by
 refine List.pairwise_map.mpr ?_;refine jj (fun ha hb ne e=>ne (ZjF h0 h ha hb e)) nd
theorem Zn4(h0:0<B)(h:Dv B ms)(nd:ms.Nodup):∃ms',ms'.Perm ms/\ms'.Pairwise pl/\Znq (ms.map (key B)) (pts ms)=pts ms':=by
 have kn:=ZjG h0 h nd
 let inv (k:List Int):RP:=(ms.find? (fun m=>decide (key B m=k))).getD (0,0)
 have hinv:∀a∈ms,inv (key B a)=a:=by
  intro a ha;show(ms.find? (fun m=>decide (key B m=key B a))).getD (0,0)=a;cases e:ms.find? (fun m=>decide (key B m=key B a))with
  |none=>
   have:=List.find?_eq_none.mp e a ha
   simp at this
  |some b=>
   have h1:=List.find?_some e;have h2:=List.mem_of_find?_eq_some e;exact ZjF h0 h h2 ha (of_decide_eq_true h1)
 have hk:∀k∈ST.srt (ms.map (key B)),∃a∈ms,key B a=k:=fun k hk=>by
  have:=(ST.Zb6 _).mem_iff.mp hk
  obtain⟨a,ha,e⟩:=cf.mp this;exact⟨a,ha,e⟩
 refine⟨(ST.srt (ms.map (key B))).map inv,?_,?_,?_⟩
 ·refine((ST.Zb6 _).map inv).trans ?_;rw[gI]
  have:ms.map (inv∘key B)=ms:=by
   conv=>rhs;rw[<-List.map_id ms]
   exact dm fun a ha=>hinv a ha
  rw[this]
 ·refine List.pairwise_map.mpr ?_;have nd2:(ST.srt (ms.map (key B))).Nodup:=(ST.Zb6 _).nodup_iff.mpr kn;have both:=jc.and nd2 (ST.ZiQ (ms.map (key B)));refine jj (fun{x y} hx hy hb=>?_) both;obtain⟨a,ha,rfl⟩:=hk x hx;obtain⟨b,hb',rfl⟩:=hk y hy;rw[hinv a ha,hinv b hb'];exact Zrl h0 h ha hb' (fun z=>hb.1 (by rw[z])) hb.2
 ·unfold Znq;show _=lP _ _;rw[gI];refine dm fun k hk'=>?_;obtain⟨a,ha,rfl⟩:=hk k hk';rw[Zdz (d:=rp a) kn (by
   unfold pts;rw[List.zip_map'];exact cf.mpr ⟨a,ha,rfl⟩)]
  simp only[Function.comp,hinv a ha];rfl
theorem Zrm:wO (ZiW fs fr g ρ M) Q E=wO (fs ρ M) (kU (ZdW g fr ρ) Q E) E:=by unfold ZiW;exact ZB
noncomputable def Zdm(ms:List RP):List Rat:=ms.flatMap fun m=>[m.1,m.2]
theorem ZjH:Zdm (ms++[m])=Zdm ms++[m.1,m.2]:=by simp[Zdm]
theorem Zea:(Zdm ms).length=2*ms.length:=by
 induction ms with
 |nil=>rfl
 |cons a r ih=>simp[Zdm]at ih ⊢;lia
theorem Zeb:x∈Zdm ms↔∃m∈ms,x=m.1\/x=m.2:=by simp[Zdm]
theorem Zrn(h:M[n]?=some (.lst (pts ms)))(hl:ms.length<=1000)(q:Q (.ref M.length) (M++[.lst (rts (Zdm ms))])):ZtH (gNm 0) (fun _ M=>.ok true M) (fun n=>gIn (iSq (Zg 0)) (gNm 1) (fun _ M=>.ok true M) (gEm (Zg 1) n)) 2 [] ρ Q (.sto n) M:=by
 have hn:=Zs h;obtain⟨ρ',M',e,x,y,e1,e2⟩:=ZcJ (src:=.sto n) (tg:=gNm 0) (c:=fun _ M=>.ok true M) (g:=gIn (iSq (Zg 0)) (gNm 1) (fun _ M=>.ok true M) (gEm (Zg 1) M.length)) (P:=fun i ρ M'=>∃x y,ρ=[x,y]/\M'=M++[.lst (rts (Zdm (ms.take i)))]) ms.length (by
  rintro i ρ M' hi ⟨x,y,rfl,rfl⟩;have tk:ms.take (i+1)=ms.take i++[ms[i]]:=aV hi;refine⟨rp ms[i],[some (rp ms[i]),y],_,?_,rfl,.inr ⟨[some (rp ms[i]),some (rt ms[i].2)],M++[.lst (rts (Zdm (ms.take (i+1))))],rfl,?_,_,_,rfl,rfl⟩⟩
  ·rw[Zgw (xs:=pts ms) (by rw[ae hn];exact h),am (by rw[ZS];exact hi),Za5]
  ·have ln:((Zdm (ms.take i)).map rt).length<9999999:=by rw[ay,Zea,cM];lia
   rw[tk,ZjH];simp only[gIn,iSq,Out.bind,Zg,jv,Zcw,nxt,cnt,gNm,gEm,List.set_cons_zero,List.set_cons_succ,df,bO,eQ];rw[ay]at ln;simp[rts];rw[if_pos (by lia)]
   simp;rw[if_pos (by lia)]) (by
  rintro ρ M' ⟨x,y,rfl,rfl⟩;rw[Zgw (xs:=pts ms) (by rw[ae hn];exact h),aJ (by rw[ZS];exact ac _)]) (cnt (.sto n) M) 0 (roB 2 [] ρ) (M++[.lst []]) (by lia) (by rw[Zfz h,ZS];lia) ⟨_,_,rfl,by simp[Zdm,rts]⟩
 refine⟨ρ',M',e,?_⟩;rw[e2,cZ];exact q
theorem Zl2{ρ:Ro}{B:Nat}(hρ:ρ[1]?=some (some (.int (B:Int))))(hB:B<2^l)(hl:l<=50000000)(hk:k<=8000):∀ms:List RP,(∀p∈ms,Sz k p.1/\Sz k p.2)->Zdy (Zaq (Zc (Zj F_stretched (Zc (e2 dIx (Zg 0) (eC (.int 0))) (Zc (Zg 1) aNil))) (Zc (Zj F_stretched (Zc (e2 dIx (Zg 0) (eC (.int 1))) (Zc (Zg 1) aNil))) aNil))) [1] ρ M (pts ms) (ms.map (key B))
 |[],_=>.nil
 |a::r,hz=>by
  have ih:=Zl2 hρ hB hl hk r (fun p hp=>hz p (aA _ hp));have za:=hz a (by simp)
  refine .cons ⟨?_,by simp[key]⟩ ih
  have e:roL (rp a) [1] ρ=[some (rp a),some (.int (B:Int))]:=by simp[roL,hρ]
  show(Zaq _ (roL (rp a) [1] ρ) M)=_;rw[e]
  have:wO (Zaq (Zc (Zj F_stretched (Zc (e2 dIx (Zg 0) (eC (.int 0))) (Zc (Zg 1) aNil))) (Zc (Zj F_stretched (Zc (e2 dIx (Zg 0) (eC (.int 1))) (Zc (Zg 1) aNil))) aNil)) [some (rp a),some (.int (B:Int))] M) (fun d M'=>d=ZlN (key B a)/\M'=M) (fun _ _=>False):=by
   simp![ZbV za.1 hk hB hl,ZbV za.2 hk hB hl];rfl
  obtain⟨d,M',e,e1,e2⟩:=Zb8 this;rw[e,e1,e2]
theorem Zhd(h:M[n]?=some (.lst (pts ms)))(nd:ms.Nodup)(hl:ms.length<64)(hz:∀p∈ms,Sz k p.1/\Sz k p.2)(hk:k<=8000)(q:∀ms' M',ms'.Perm ms->ms'.Pairwise pl->Kp M M'->M.length<M'.length->M'[M'.length-1]?=some (.lst (pts ms'))->Q (.ref (M'.length-1)) M'):wO (F_in_order [.ref n] M) Q E:=by
 have hn:=Zs h;simp![F_in_order,Zcr,Zjc];refine Zrn h (by lia) ?_
 have zf:∀x∈Zdm ms,Sz k x:=fun x hx=>by
  obtain⟨m,hm,e|e⟩:=Zeb.mp hx
  ·rw[e];exact(hz m hm).1
  ·rw[e];exact(hz m hm).2
 simp![ZgK (M:=M++[SO.lst (rts (Zdm ms))]) (n:=M.length) (xs:=Zdm ms) (k:=k) (by simp) (by rw[Zea];lia) zf hk,Zrm]
 have h0:=ZgI (Zdm ms);have dv:Dv (ZcL (Zdm ms)) ms:=fun m hm=>⟨ZgJ (Zeb.mpr ⟨m,hm,.inl rfl⟩),ZgJ (Zeb.mpr ⟨m,hm,.inr rfl⟩)⟩;have lb:=ZfL zf;rw[Zea]at lb;have bl:2*ms.length*k+1<=50000000:=by
  have:=cB (show 2*ms.length<=128 by lia) hk
  lia
 obtain⟨ms',pm,pw,es⟩:=Zn4 h0 dv nd;have ok:ZiV (Zaq (Zc (Zj F_stretched (Zc (e2 dIx (Zg 0) (eC (.int 0))) (Zc (Zg 1) aNil))) (Zc (Zj F_stretched (Zc (e2 dIx (Zg 0) (eC (.int 1))) (Zc (Zg 1) aNil))) aNil))) [1] [some (.ref n),some (.int (ZcL (Zdm ms):Nat))] (M++[SO.lst (rts (Zdm ms))]) (pts ms) (ms.map (key (ZcL (Zdm ms)))):=⟨by rw[ZS];exact hl,ZjG h0 dv nd,Zl2 rfl lb bl hk ms hz⟩
 rw[Zgr (by rw[ae hn];exact h) ok,es]
 refine(?_:Q _ _)
 have:=q ms' (M++[SO.lst (rts (Zdm ms))]++[SO.lst (pts ms')]) pm pw (by rw[d6];exact Kp.app) (by simp) (by simp)
 simpa using this
def Bod(rs:List Pt)(hs:List Rat)(ms:List RP):Prop:=(∀p,p∈ms↔Cor rs hs p)/\ms.Pairwise pl
structure Met(rs:List Pt) (hs:List Rat) (K i:Nat) (ms:List RP):Prop where
 nd:ms.Nodup
 sz:∀p∈ms,Sz K p.1/\Sz K p.2
 cor:∀p∈ms,Cor rs hs p
 all:∀p i' j,i'<i->Win rs hs p->On rs hs p i'->On rs hs p j->X (cy rs i') (cy rs j)≠0->p∈ms
 len:ms.length<=2*i
theorem Zro(h:M[n]?=some (.lst (prs rs)))(hs':Smo rs)(hb:Nr B rs)(hl:rs.length<=31)(h':M[m]?=some (.lst (rts hs)))(e:hs.length=rs.length)(hz:∀x∈hs,Sz k x)(hk:k<=900)(q:∀ms o M',Bod rs hs ms->(∀p∈ms,Sz (4*k+61) p.1/\Sz (4*k+61) p.2)->ms.length<64->Kp M M'->M.length<=o->M'[o]?=some (.lst (pts ms))->Q (.ref o) M')(hB:B<=400:=by first|decide|assumption):wO (F_body [.ref n,.ref m] M) Q E:=by
 have hn:=Zs h;have hm:=Zs h';simp![F_body,Zjy];refine CC.Zcx h hs' (fun x hx=>by have:=hb x hx;lia) ?_
 simp![Zo];refine Ze5 h h' e ?_;have r0:(M++[SO.lst []])[M.length]?=some (.lst (([]:List RP).map ent)):=by simp
 simp![ZtL,h];refine⟨by lia,?_⟩
 rw[bR];refine ZbF (n:=rs.length) (lo:=0) (fun i ρ M'=>Kp M M'/\∃ms x3 x4,ρ=[some (.ref n),some (.ref m),some (.du M.length),x3,x4]/\M'[M.length]?=some (.lst (ms.map ent))/\Met rs hs (4*k+61) i ms) ⟨Kp.app,[],_,_,rfl,r0,⟨.nil,fun p hp=>(by cases hp),fun p hp=>(by cases hp),fun p i' j hi=>(by lia),by simp⟩⟩ ?_ ?_
 ·rintro i ρ M1 hi ⟨K1,ms,x3,x4,rfl,r1,me⟩;rw[show(0:Int)+(i:Nat)=i by lia]
  simp![Zda];refine Zri (K1.get h) hs' hb (by lia) (K1.get h') e hz hk hi fun ps o M2 ed lp zp K2 lo r2=>?_
  have hd:=Zs r1;have hne:o≠M.length:=by lia
  refine Zaz (xs:=pts ps) (fun j ρ M'=>Kp M M'/\M'[o]?=some (.lst (pts ps))/\∃ms' x4,ρ=[some (.ref n),some (.ref m),some (.du M.length),some (.int i),x4]/\M'[M.length]?=some (.lst (ms'.map ent))/\ms'.Nodup/\(∀p,p∈ms'↔p∈ms\/p∈ps.take j)/\ms'.length<=ms.length+j) r2 ⟨K1.trans K2,r2,ms,_,rfl,K2.get r1,me.nd,fun p=>by simp,by lia⟩ (fun j ρ M' hI=>hI.2.1) ?_ ?_
  ·rintro j ρ M3 hj ⟨K3,r3,ms',x4',rfl,rd,nd',mem',len'⟩;have hj':j<ps.length:=by rw[ZS]at hj;exact hj
   rw[Za5];have tk:ps.take (j+1)=ps.take j++[ps[j]]:=aV hj';generalize ps[j]=p at *;obtain⟨kk,ek⟩:=ZtY p;have hl3:=Zs rd;have lm:=me.len;simp![Zc9,Zq0,ZtJ,ZtI];refine⟨_,kk,rfl,ek,?_⟩;rw[rd];refine⟨by rw[ay];lia,K3.set (ac _),by rw[aE (by lia)];exact r3,(if p∈ms' then ms' else ms'++[p]),_,rfl,by rw[aF hl3,Zn3 ek],?_,fun p'=>?_,?_⟩
   ·split
    ·exact nd'
    ·rename_i c;exact iZ.mpr ⟨nd',by simp,fun a ha b hb=>by simp at hb;subst hb;exact fun z=>c (z▸ha)⟩
   ·rw[tk];by_cases c:p∈ms'
    ·rw[if_pos c,mem'];have c':=(mem' p).mp c;simp only[bq,ah,bw,or_false];constructor
     ·rintro(z|z)
      ·exact .inl z
      ·exact .inr (.inl z)
     ·rintro(z|z|z)
      ·exact .inl z
      ·exact .inr z
      ·rw[z];exact c'
    ·rw[if_neg c];simp only[bq,mem',ah,bw,or_false,or_assoc]
   ·split
    ·lia
    ·simp;lia
  ·rintro ρ M3 ⟨K3,r3,ms',x4',rfl,rd,nd',mem',len'⟩;rw[ZS,cZ]at mem';rw[ZS]at len';have lm:=me.len;refine⟨K3,ms',_,_,rfl,rd,⟨nd',fun p hp=>?_,fun p hp=>?_,fun p i' j hi' w o1 o2 ne=>?_,by lia⟩⟩
   ·rcases(mem' p).mp hp with z|z
    ·exact me.sz p z
    ·exact zp p z
   ·rcases(mem' p).mp hp with z|z
    ·exact me.cor p z
    ·exact ed.1 p z
   ·by_cases z:i'=i
    ·subst z;exact(mem' p).mpr (.inr (ed.2 p j w o1 o2 ne))
    ·exact(mem' p).mpr (.inl (me.all p i' j (by lia) w o1 o2 ne))
 ·rintro ρ M1 ⟨K1,ms,x3,x4,rfl,r1,me⟩;have hd:=Zs r1;have lm:=me.len;simp![ZtK,Zva,r1];have em:(ms.map ent).map Ziy=pts ms:=by rw[gI];rfl
  rw[em];refine Zhd (k:=4*k+61) (ms:=ms) (M:=M1++[SO.lst (pts ms)]) (by simp) me.nd (by lia) me.sz (by lia) fun ms' M' pm pw K' l' r'=>?_
  refine q ms' _ M' ⟨fun p=>⟨fun hp=>me.cor p (pm.mem_iff.mp hp),fun⟨w,i,j,o1,o2,ne⟩=>pm.mem_iff.mpr (me.all p i j o1.1 w o1 o2 ne)⟩,pw⟩ (fun p hp=>me.sz p (pm.mem_iff.mp hp)) (by rw[pm.length_eq];lia) (K1.trans (Kp.app.trans K')) ?_ r'
  have:=K1.1
  have:=K'.1
  simp at this;lia
end
end BD
namespace BL
open L2 DL
open CC (F_law_cell_at F_law_cross F_law_smooth)
def ZaQ:Sv:=(Zg4 2 3 (Zc (Zg 3) (Zc (e2 dMod (Zg 2) (Zg 3)) aNil)))
def ZbW:Sv:=(Zx (ZG (gNm 2) (Zj bAbs (Zc (Zg 0) aNil))) (Zx (ZG (gNm 3) (Zg 1)) (Zx (sWh (tv (e2 dGt (Zg 3) (eC (.int 0)))) ZaQ) (Z1 (Zaq (Zc (e2 dDiv (Zg 0) (Zg 2)) (Zc (e2 dDiv (Zg 1) (Zg 2)) aNil)))))))
def F_law_ratio:W3:=fnF ZbW 2 2
def Zdc:Sv:=(Z1 (Zj F_law_ratio (Zc (e2 dAdd (e2 dMul (e2 dIx (Zg 0) (eC (.int 0))) (e2 dIx (Zg 1) (eC (.int 1)))) (e2 dMul (e2 dIx (Zg 1) (eC (.int 0))) (e2 dIx (Zg 0) (eC (.int 1))))) (Zc (e2 dMul (e2 dIx (Zg 0) (eC (.int 1))) (e2 dIx (Zg 1) (eC (.int 1)))) aNil))))
def F_law_sum:W3:=fnF Zdc 2 0
def ZbX:Sv:=(Z1 (Zj F_law_ratio (Zc (e2 dMul (Zg 0) (e2 dIx (Zg 1) (eC (.int 0)))) (Zc (e2 dIx (Zg 1) (eC (.int 1))) aNil))))
def F_law_times:W3:=fnF ZbX 2 0
def ZdD:Sv:=(Z1 (e2 dLt (e2 dMul (e2 dIx (Zg 0) (eC (.int 0))) (e2 dIx (Zg 1) (eC (.int 1)))) (e2 dMul (e2 dIx (Zg 1) (eC (.int 0))) (e2 dIx (Zg 0) (eC (.int 1))))))
def F_law_less:W3:=fnF ZdD 2 0
def ZaE:Sv:=(Zx (ZG (gNm 6) (e2 dSub (e2 dMod (Zg 0) (e2 dAdd (e2 dAdd (Zg 2) (e2 dDiv (Zg 2) (eC (.int 3)))) (eC (.int 1)))) (e2 dDiv (Zg 2) (eC (.int 3))))) (Zx (ZG (gNm 7) (e2 dIx (ZbN (Zc (eC (.int 1)) (Zc (eC (.int 1)) (Zc (e2 dAdd (eC (.int 1)) (e2 dMod (e2 dDiv (Zg 0) (eC (.int 1009))) (eC (.int 6)))) (Zc (eC (.int 1)) aNil))))) (Zg 3))) (Zx (ZG (gNm 0) (e2 dDiv (Zg 0) (eC (.int 31)))) (Zx (sIf (Zcz (tv (e2 dEq (Zg 3) (eC (.int 3)))) (tv (e2 dGt (e2 dMod (Zg 0) (eC (.int 3))) (eC (.int 0))))) (ZG (gNm 6) (e2 dDiv (Zg 2) (eC (.int 4)))) sNil) (ZaU (Zeh mApp (Zg 4) (Zc (Zj F_law_ratio (Zc (Zg 6) (Zc (Zg 7) aNil))) aNil)))))))
def Zbq:Sv:=(Zx (ZG (gNm 3) (e2 dMod (Zg 0) (eC (.int 4)))) (Zx (ZG (gNm 0) (e2 dDiv (Zg 0) (eC (.int 4)))) (Zx (ZG (gNm 4) (ZbN aNil)) (Zx (ZeD (gNm 5) (Zg 1) ZaE) (Z1 (Zg 4))))))
def F_law_height:W3:=fnF Zbq 3 5
def Zbr:Sv:=(Z1 (Zj F_law_sum (Zc (Zj F_law_times (Zc (e2 dIx (Zg 1) (eC (.int 0))) (Zc (e2 dIx (Zg 0) (eC (.int 0))) aNil))) (Zc (Zj F_law_times (Zc (e2 dIx (Zg 1) (eC (.int 1))) (Zc (e2 dIx (Zg 0) (eC (.int 1))) aNil))) aNil))))
def F_law_dotted:W3:=fnF Zbr 2 0
def ZaF:Sv:=(sIf (tv (Zj F_law_less (Zc (Zj F_law_sum (Zc (Zj F_law_dotted (Zc (Zg 2) (Zc (e2 dIx (Zg 0) (Zg 3)) aNil))) (Zc (e2 dIx (Zg 1) (Zg 3)) aNil))) (Zc (Zaq (Zc (eC (.int 0)) (Zc (eC (.int 1)) aNil))) aNil)))) (Z1 (eC (.bl false))) sNil)
def Zbs:Sv:=(Zx (Zbc (gNm 3) (Zc (Zj bLen (Zc (Zg 0) aNil)) aNil) ZaF) (Z1 (eC (.bl true))))
def F_law_within:W3:=fnF Zbs 3 1
def Zar:Sv:=(Zx (ZG (gNm 5) (Zj F_law_cross (Zc (e2 dIx (Zg 0) (Zg 3)) (Zc (e2 dIx (Zg 0) (Zg 4)) aNil)))) (sIf (tv (e2 dNe (Zg 5) (eC (.int 0)))) (Zx (ZG (gNm 6) (e2 dDiv (Zg 5) (Zj bAbs (Zc (Zg 5) aNil)))) (Zx (ZG (gNm 7) (Zj F_law_sum (Zc (Zj F_law_times (Zc (e2 dMul (Zg 6) (e2 dIx (e2 dIx (Zg 0) (Zg 3)) (eC (.int 1)))) (Zc (e2 dIx (Zg 1) (Zg 4)) aNil))) (Zc (Zj F_law_times (Zc (e2 dSub (eC (.int 0)) (e2 dMul (Zg 6) (e2 dIx (e2 dIx (Zg 0) (Zg 4)) (eC (.int 1))))) (Zc (e2 dIx (Zg 1) (Zg 3)) aNil))) aNil)))) (Zx (ZG (gNm 8) (Zj F_law_sum (Zc (Zj F_law_times (Zc (e2 dMul (Zg 6) (e2 dIx (e2 dIx (Zg 0) (Zg 4)) (eC (.int 0)))) (Zc (e2 dIx (Zg 1) (Zg 3)) aNil))) (Zc (Zj F_law_times (Zc (e2 dSub (eC (.int 0)) (e2 dMul (Zg 6) (e2 dIx (e2 dIx (Zg 0) (Zg 3)) (eC (.int 0))))) (Zc (e2 dIx (Zg 1) (Zg 4)) aNil))) aNil)))) (Zx (ZG (gNm 9) (Zaq (Zc (Zj F_law_ratio (Zc (e2 dIx (Zg 7) (eC (.int 0))) (Zc (e2 dMul (e2 dIx (Zg 7) (eC (.int 1))) (Zj bAbs (Zc (Zg 5) aNil))) aNil))) (Zc (Zj F_law_ratio (Zc (e2 dIx (Zg 8) (eC (.int 0))) (Zc (e2 dMul (e2 dIx (Zg 8) (eC (.int 1))) (Zj bAbs (Zc (Zg 5) aNil))) aNil))) aNil)))) (sIf (Zcz (tv (e2 dNotInE (Zg 9) (Zg 2))) (tv (Zj F_law_within (Zc (Zg 0) (Zc (Zg 1) (Zc (Zg 9) aNil)))))) (ZaU (Zeh mApp (Zg 2) (Zc (Zg 9) aNil))) sNil))))) sNil))
def Zas:Sv:=(Zdr (gNm 4) (Zc (e2 dAdd (Zg 3) (eC (.int 1))) (Zc (Zj bLen (Zc (Zg 0) aNil)) aNil)) Zar)
def Za6:Sv:=(Zx (ZG (gNm 2) (ZbN aNil)) (Zx (Zbc (gNm 3) (Zc (Zj bLen (Zc (Zg 0) aNil)) aNil) Zas) (Z1 (Zg 2))))
def F_law_corners:W3:=fnF Za6 2 8
def ZW:Sv:=(sIf (Zf3 (Zb0 (tv (ZhS "int" (Zg 2)))) (tv (ZhS "bool" (Zg 2)))) (Z1 (eC (.bl false))) sNil)
def Z8:Sv:=(Zx (sIf (Zf3 (Zb0 (tv (ZhS "tuple" (Zg 1)))) (tv (e2 dNe (Zj bLen (Zc (Zg 1) aNil)) (eC (.int 2))))) (Z1 (eC (.bl false))) sNil) (ZeD (gNm 2) (Zg 1) ZW))
def Zat:Sv:=(Zx (sIf (Zb0 (tv (ZhS "list" (Zg 0)))) (Z1 (eC (.bl false))) sNil) (Zx (ZeD (gNm 1) (Zg 0) Z8) (Z1 (eC (.bl true)))))
def F_law_are_ratios:W3:=fnF Zat 1 2
def ZbY:Sv:=(Zx (ZG (gNm 3) (Zj F_law_cell_at (Zc (Zg 0) (Zc (Zg 1) aNil)))) (Zx (ZG (gNm 4) (Zj F_law_smooth (Zc (e2 dDiv (Zg 3) (eC (.int 64))) (Zc (e2 dIx (ZbN (Zc (eC (.int 9)) (Zc (eC (.int 9)) (Zc (eC (.int 9)) (Zc (eC (.int 9)) (Zc (eC (.int 9)) (Zc (eC (.int 9)) (Zc (eC (.int 9)) (Zc (eC (.int 14)) aNil))))))))) (e2 dMod (Zg 3) (eC (.int 8)))) aNil)))) (Zx (sIf (tv (e2 dEq (e2 dMod (e2 dDiv (Zg 3) (eC (.int 8))) (eC (.int 8))) (eC (.int 7)))) (Zx (ZG (gNm 4) (Zj F_law_smooth (Zc (e2 dDiv (Zg 3) (eC (.int 64))) (Zc (eC (.int 3)) aNil)))) (ZG (gNm 2) (e2 dPow (eC (.int 10)) (eC (.int 30))))) sNil) (Z1 (Zaq (Zc (Zg 4) (Zc (Zj F_law_height (Zc (Zj F_law_cell_at (Zc (Zg 0) (Zc (e2 dAdd (Zg 1) (eC (.int 1))) aNil))) (Zc (Zg 4) (Zc (Zg 2) aNil)))) aNil)))))))
def F_law_sized:W3:=fnF ZbY 3 2
end BL
namespace BL
open L2 DL
open CV CN CU CS
open CR (rt Sz)
open CH (rts ZA ZP)
open CD (pts ZS Za5)
open Rb BD
theorem Zrp:F_law_less=CD.F_less:=rfl
theorem Zn5:CC.F_law_cross=CC.F_crossed:=rfl
section
variable {Q:W0}{E:W2}{M:Sto}{n m k l K i:Nat}{rs:List Pt}{hs:List Rat}{x:Rat}{p:RP}{ms:List RP}
theorem Zrq{b:Nat}(hb:b≠0)(h:b<2^k)(hk:k<=8000)(q':Q (rt (bJ t b hb)) M):wO (F_law_ratio [.int t,.int b] M) Q E:=by
 obtain⟨g0,g1⟩:=CR.ZlY (t:=t) hb h;rw[CR.Zjm hb]at q';simp![F_law_ratio,ZbW];refine ZtF (fun j ρ M'=>M'=M/\∃a c:Nat,ρ=[some (.int t),some (.int b),some (.int a),some (.int c)]/\j=c/\ir a c=eZ t b) ?_ b _ _ ⟨rfl,t.natAbs,b,rfl,rfl,rfl⟩;rintro j ρ M ⟨rfl,a,c,rfl,rfl,g⟩;simp![Zo];refine ZtG (fun h'=>?_) (fun h'=>?_)
 ·simp![ZaQ];have hc:0<j:=by lia
  refine⟨a%j,Nat.mod_lt a hc,j,a%j,by rw[Int.natCast_emod],rfl,?_⟩
  rw[<-g,jL j,<-Nat.gcd_rec,jL]
 ·have j0:j=0:=by lia
  subst j0;rw[Nat.gcd_zero_right]at g;rw[<-g]at q' g0 g1;simp![Zo];rw[CR.Zc5 (k:=k) (by lia) (by simpa using g1) hk]
  simp![Zo];rw[CR.Zc5 (k:=k) (by lia) (by simpa using g1) hk]
  simp![Zo];exact q'
theorem Zec{b:Nat}(hb:b≠0)(h:b<2^k)(hk:k<=8000):wO (F_law_ratio [.int t,.int b] M) Q E=Q (rt (bJ t b hb)) M:=by
 obtain⟨d,M',e,e1,e2⟩:=Zb8 (Zrq (M:=M) (Q:=fun d M'=>d=rt (bJ t b hb)/\M'=M) (E:=fun _ _=>False) hb h hk ⟨rfl,rfl⟩);rw[e,e1,e2];rfl
theorem Zk9{a:Int}{b:Nat}(hb:b≠0)(e:(a:Rat)=t*(b:Rat))(h:b<2^k)(hk:k<=8000):wO (F_law_ratio [.int a,.int b] M) Q E=Q (rt t) M:=by
 rw[Zec hb h hk,Zdb hb e]
theorem Zdd{p:Rat}(hp:Sz k p)(hq:Sz l q)(hk:k+l<=8000):wO (F_law_sum [rt p,rt q] M) Q E=Q (rt (p+q)) M:=by
 have nz:p.den*q.den≠0:=eU p.den_nz q.den_nz;have f1:Zu p.num (q.den:Int):=Zq k l hp.1 (by simpa using hq.2) (by lia) (by lia)
 have f2:Zu q.num (p.den:Int):=Zq l k hq.1 (by simpa using hp.2) (by lia) (by lia)
 have f3:Zu (p.den:Int) (q.den:Int):=Zq k l (by simpa using hp.2) (by simpa using hq.2) (by lia) (by lia)
 simp![F_law_sum,Zdc,ZJ f1,ZJ f2,ZJ f3];rw[show(p.den:Int)*(q.den:Int)=((p.den*q.den:Nat):Int)by simp,Zec nz (CR.Zab hp.2 hq.2) hk,<-l5]
theorem ZjI{p:Rat}(hp:Sz k p)(hq:Sz l q)(hk:k+l<=8000):wO (F_law_less [rt p,rt q] M) Q E=Q (.bl (decide (p<q))) M:=by rw[Zrp];exact CD.Zl0 hp hq hk
theorem ZaM(hz:z.natAbs<2^l)(hq:Sz k q)(hl:l<=8000)(hk:k<=8000):wO (F_law_times [.int z,rt q] M) Q E=Q (rt ((z:Rat)*q)) M:=by
 have f1:Zu z q.num:=Zq l k hz hq.1 (by lia) (by lia)
 simp![F_law_times,ZbX,ZJ f1];rw[Zec q.den_nz hq.2 hk,ZgB]
theorem Zde(h1:Sz K p.1)(h2:Sz K p.2)(hr:(-200<=r.1/\r.1<=200)/\ -200<=r.2/\r.2<=200)(hK:K<=3990):wO (F_law_dotted [rp p,pr r.1 r.2] M) Q E=Q (rt (slp p r)) M:=by
 have a1:=CR.Z2 (ZX (z:=r.1) (k:=8) (by lia) (by decide)) h1
 have a2:=CR.Z2 (ZX (z:=r.2) (k:=8) (by lia) (by decide)) h2
 simp![F_law_dotted,Zbr,ZaM (z:=r.1) (l:=8) (by lia) h1 (by lia) (by lia),ZaM (z:=r.2) (l:=8) (by lia) h2 (by lia) (by lia),Zdd a1 a2 (by lia)]
 rw[show(r.1:Rat)*p.1+(r.2:Rat)*p.2=slp p r by unfold slp;grind]
open Classical in
theorem ZjJ(h:M[n]?=some (.lst (prs rs)))(hb:Nr 200 rs)(hne:rs≠[])(hl:rs.length<=1000)(h':M[m]?=some (.lst (rts hs)))(e:hs.length=rs.length)(hz:∀x∈hs,Sz k x)(hp:Sz K p.1/\Sz K p.2)(hk:2*K+k<=7900):wO (F_law_within [.ref n,.ref m,rp p] M) Q E=Q (.bl (decide (Win rs hs p))) M:=by
 have main (Q:W0) (E:W2) (q:Q (.bl (decide (Win rs hs p))) M):wO (F_law_within [.ref n,.ref m,rp p] M) Q E:=by
  have hn:=Zs h;have hm:=Zs h';simp![F_law_within,Zbs,h];refine⟨by lia,?_⟩
  rw[bR];refine ZbF (n:=rs.length) (lo:=0) (fun i ρ M'=>M'=M/\(∃x,ρ=[some (.ref n),some (.ref m),some (rp p),x])/\∀j<i,-(cq hs j)<=slp p (cy rs j)) ⟨rfl,⟨_,rfl⟩,fun j hj=>by lia⟩ ?_ ?_
  ·rintro i ρ _ hi ⟨rfl,⟨x,rfl⟩,hI⟩;rw[show(0:Int)+(i:Nat)=i by lia]
   have zi:=ZaG (i:=i) hz (by have:=bK.mpr hne;lia)
   have br:=hb _ (ZR (i:=i) hne);have s1:=ZlZ hp.1 hp.2 br;have s0:Sz 1 ((0:Int):Rat):=ZX (by decide) (by decide)
   simp![ZaF,h,h',ZbG,Zbo,Zde hp.1 hp.2 br (by lia),Zdd s1 zi (by lia)]
   rw[show D.tup [D.int 0,D.int 1]=rt ((0:Int):Rat)from CS.ZdA 0];simp![ZjI (CR.Zc6 s1 zi) s0 (by lia)]
   refine brS (fun c=>?_) (fun c=>?_)
   ·simp![Zo];rw[show decide (Win rs hs p)=false from decide_eq_false fun w=>by have:=w i hi;have c':slp p (cy rs i)+cq hs i<0:=c;grind]at q
    exact q
   ·simp![Zo];have c':¬slp p (cy rs i)+cq hs i<0:=c;refine⟨⟨_,rfl⟩,fun j hj=>?_⟩;by_cases z:j=i
    ·subst z;grind
    ·exact hI j (by lia)
  ·rintro ρ _ ⟨rfl,⟨x,rfl⟩,hI⟩;simp![Zo];rw[show decide (Win rs hs p)=true from decide_eq_true hI]at q;exact q
 obtain⟨d,M',e,e1,e2⟩:=Zb8 (main (fun d M'=>d=.bl (decide (Win rs hs p))/\M'=M) (fun _ _=>False) ⟨rfl,rfl⟩);rw[e,e1,e2];rfl
theorem ZjK:∀ms:List RP,eqs M (rp p) (pts ms)=some (ms.map fun a=>decide (a=p))
 |[]=>rfl
 |a::r=>by
  have ih:=ZjK r;have e:eqF 12 M (rp a) (rp p)=some (decide (a=p)):=Zww (k:=9);show(match eqF 12 M (rp a) (rp p)with|some b=>(match eqs M (rp p) (pts r)with|some bs=>some (b::bs)|none=>none)|none=>none)=_
  rw[e,ih];rfl
theorem ZgN:∀{l:List RP},(l.map fun y=>decide (y=p)).any id=decide (p∈l)
 |[]=>by simp
 |y::l=>by
  rw[aP,lg,ZgN (l:=l)];by_cases c:y=p
  ·subst c;simp
  ·have:¬p=y:=fun z=>c z.symm
   simp[c,this]
theorem Zrr(h:M[n]?=some (.lst (pts ms))):inE (rp p) (.ref n) M=some (decide (p∈ms)):=by
 have e0:Zex M (.ref n)=some (pts ms):=by simp[Zex,h]
 simp only[inE,e0,ZjK,ZgN]
def crn(r s:Pt)(x y:Rat):RP:=(((r.2:Rat)*y-s.2*x)/(X r s:Rat),((s.1:Rat)*x-r.1*y)/(X r s:Rat))
theorem ZjL{x:Rat}(ne:X r s≠0):p=crn r s x y↔slp p r= -x/\slp p s= -y:=by
 have nz:((X r s:Int):Rat)≠0:=fun z=>ne (dg.mp z);have e1:=Zcd (a:=(r.2:Rat)*y-s.2*x) nz;have e2:=Zcd (a:=(s.1:Rat)*x-r.1*y) nz;have ex:=ZbH r s;unfold crn slp;generalize ((r.2:Rat)*y-s.2*x)/(X r s:Rat)=a at *;generalize ((s.1:Rat)*x-r.1*y)/(X r s:Rat)=b at *;generalize ((X r s:Int):Rat)=c at *;constructor
 ·rintro rfl;constructor
  ·simp only
   have:c*(a*r.1+b*r.2)=c*(-x):=by grind
   grind
  ·simp only
   have:c*(a*s.1+b*s.2)=c*(-y):=by grind
   grind
 ·rintro⟨h1,h2⟩;refine gq ?_ ?_
  ·simp only
   have:c*p.1=c*a:=by grind
   grind
  ·simp only
   have:c*p.2=c*b:=by grind
   grind
theorem ZtZ(h0:c≠0):c/(c.natAbs:Int)=if 0<c then 1 else -1:=by
 split
 ·rename_i h;rw[show(c.natAbs:Int)=c by lia]
  exact Int.ediv_self h0
 ·rw[show(c.natAbs:Int)= -c by lia,Int.ediv_neg,Int.ediv_self h0]
theorem Zl3{c s:Int}{x:Rat}(h0:c≠0)(hs:s=if 0<c then 1 else -1)(e:z=(s:Rat)*(a*x-b*y)):z=(a*x-b*y)/(c:Rat)*((c.natAbs:Nat):Rat):=by
 have nz:(c:Rat)≠0:=fun z=>h0 (dg.mp z);have e1:=Zcd (a:=a*x-b*y) nz;have e2:((c.natAbs:Nat):Rat)=(s:Rat)*(c:Rat):=by
  rw[hs,<-bL,<-a8];congr 1
  split<;>lia
 rw[e,e2];generalize (a*x-b*y)/(c:Rat)=w at *;grind
structure Fnd(rs:List Pt) (hs:List Rat) (K:Nat) (P:Nat->Nat->Prop) (ms:List RP):Prop where
 nd:ms.Nodup
 sz:∀p∈ms,Sz K p.1/\Sz K p.2
 cor:∀p∈ms,Cor rs hs p
 all:∀p i j,i<j->P i j->Win rs hs p->On rs hs p i->On rs hs p j->X (cy rs i) (cy rs j)≠0->p∈ms
theorem Fnd.mono(f:Fnd rs hs K P ms)(h:∀i j,i<j->j<rs.length->P' i j->P i j):Fnd rs hs K P' ms:=⟨f.nd,f.sz,f.cor,fun p i j lt z w o1 o2 ne=>f.all p i j lt (h i j lt o2.1 z) w o1 o2 ne⟩
theorem Fnd.bod{P:Nat->Nat->Prop}(f:Fnd rs hs K P ms)(h:∀i j,i<j->j<rs.length->P i j):∀p,p∈ms↔Cor rs hs p:=fun p=>⟨f.cor p,fun⟨w,i,j,o1,o2,ne⟩=>by
 rcases(show i<j\/j<i\/i=j by lia)with c|c|c
 ·exact f.all p i j c (h i j c o2.1) w o1 o2 ne
 ·exact f.all p j i c (h j i c o1.1) w o2 o1 (fun z=>ne (by unfold X at *;grind))
 ·subst c;exact absurd (by unfold X;grind) ne⟩
open Classical in
theorem ZdE(h:M[n]?=some (.lst (prs rs)))(hs':Smo rs)(hb:Nr 200 rs)(hl:rs.length<=31)(h':M[m]?=some (.lst (rts hs)))(e:hs.length=rs.length)(hz:∀x∈hs,Sz k x)(hk:k<=900)(q:∀ms M',(∀p,p∈ms↔Cor rs hs p)->ms.Nodup->(∀p∈ms,Sz (2*k+34) p.1/\Sz (2*k+34) p.2)->ms.length<=1000->Kp M M'->M'[M.length]?=some (.lst (pts ms))->Q (.ref M.length) M'):wO (F_law_corners [.ref n,.ref m] M) Q E:=by
 have hn:=Zs h;have hm:=Zs h';have hne:=hs'.ne;have h3:=hs'.len;simp![F_law_corners,Za6,h];refine⟨by lia,?_⟩
 rw[bR];have r0:(M++[SO.lst []])[M.length]?=some (.lst (pts [])):=by simp[pts]
 refine ZbF (n:=rs.length) (lo:=0) (fun i ρ M'=>Kp M M'/\∃ms x3 x4 x5 x6 x7 x8 x9,ρ=[some (.ref n),some (.ref m),some (.ref M.length),x3,x4,x5,x6,x7,x8,x9]/\M'[M.length]?=some (.lst (pts ms))/\Fnd rs hs (2*k+34) (fun a _=>a<i) ms/\ms.length<=i*31) ⟨Kp.app,[],_,_,_,_,_,_,_,rfl,r0,⟨.nil,fun p hp=>(by cases hp),fun p hp=>(by cases hp),fun p i' j hi z=>(by lia)⟩,by simp⟩ ?_ ?_
 ·rintro i ρ M1 hi ⟨K1,ms,x3,x4,x5,x6,x7,x8,x9,rfl,r1,fd,len⟩;rw[show(0:Int)+(i:Nat)=i by lia]
  have h1:=K1.get h;simp![Zas,h1];refine⟨by lia,?_⟩
  rw[show((rs.length:Int)-(i+1)).toNat=rs.length-(i+1)by lia]
  refine ZbF (n:=rs.length-(i+1)) (lo:=(i:Int)+1) (fun j ρ M'=>Kp M M'/\∃ms x4 x5 x6 x7 x8 x9,ρ=[some (.ref n),some (.ref m),some (.ref M.length),some (.int i),x4,x5,x6,x7,x8,x9]/\M'[M.length]?=some (.lst (pts ms))/\Fnd rs hs (2*k+34) (fun a b=>a<i\/(a=i/\b<i+1+j)) ms/\ms.length<=i*31+j) ⟨K1,ms,_,_,_,_,_,_,rfl,r1,fd.mono fun a b lt hb' z=>(by lia),by lia⟩ ?_ ?_
  ·rintro j' ρ M2 hj ⟨K2,ms,x4,x5,x6,x7,x8,x9,rfl,r2,fd,len⟩;obtain⟨j,rfl⟩:∃j,j=i+1+j':=⟨_,rfl⟩;have hj2:i+1+j'<rs.length:=by lia
   rw[show(i:Int)+1+(j':Nat)=((i+1+j':Nat):Int)by lia]
   rw[show i+1+(j'+1)=i+1+j'+1 by lia]
   generalize ej:i+1+j'=j at *;have h2:=K2.get h;have h2':=K2.get h';have zi:=ZaG (i:=i) hz (by lia)
   have zj:=ZaG (i:=j) hz (by lia)
   have bi:=hb _ (ZR (i:=i) hne);have bj:=hb _ (ZR (i:=j) hne);have sX:=Zos bi bj;have hx2:=Zs r2;simp![Zar,h2,h2',ZbG,Zbo,Zn5,Zot bi];refine Zwe (fun c=>?_) (fun c=>?_)
   ·have sg:=ZtZ c;have onp:=fun p=>ZjL (p:=p) (x:=cq hs i) (y:=cq hs j) c;have hX:X (cy rs i) (cy rs j)≠0:=c;have cdef:∀x y:Rat,crn (cy rs i) (cy rs j) x y=((((cy rs i).2:Rat)*y-(cy rs j).2*x)/(X (cy rs i) (cy rs j):Rat),(((cy rs j).1:Rat)*x-(cy rs i).1*y)/(X (cy rs i) (cy rs j):Rat)):=fun _ _=>rfl;generalize crn (cy rs i) (cy rs j)=cr at *;generalize hcX0:X (cy rs i) (cy rs j)=c0 at *;obtain⟨s,hs0⟩:∃s:Int,s=if 0<c0 then 1 else -1:=⟨_,rfl⟩
    rw[<-hs0]at sg;have s1:s=1\/s= -1:=by rw[hs0];split<;>simp
    have m1:(s*(cy rs i).2).natAbs<2^8:=by rcases s1 with rfl|rfl<;>lia
    have m2:(0-s*(cy rs j).2).natAbs<2^8:=by rcases s1 with rfl|rfl<;>lia
    have m3:(s*(cy rs j).1).natAbs<2^8:=by rcases s1 with rfl|rfl<;>lia
    have m4:(0-s*(cy rs i).1).natAbs<2^8:=by rcases s1 with rfl|rfl<;>lia
    have a1:=CR.Z2 (ZX (k:=8) m1 (by decide)) zj
    have a2:=CR.Z2 (ZX (k:=8) m2 (by decide)) zi
    have a3:=CR.Z2 (ZX (k:=8) m3 (by decide)) zi
    have a4:=CR.Z2 (ZX (k:=8) m4 (by decide)) zj
    have l1:∀{Q:W0}{E:W2}{M:Sto},wO (F_law_sum [rt (((s*(cy rs i).2:Int):Rat)*cq hs j),rt (((0-s*(cy rs j).2:Int):Rat)*cq hs i)] M) Q E=Q (rt (((s*(cy rs i).2:Int):Rat)*cq hs j+((0-s*(cy rs j).2:Int):Rat)*cq hs i)) M:=Zdd a1 a2 (by lia)
    have l2:∀{Q:W0}{E:W2}{M:Sto},wO (F_law_sum [rt (((s*(cy rs j).1:Int):Rat)*cq hs i),rt (((0-s*(cy rs i).1:Int):Rat)*cq hs j)] M) Q E=Q (rt (((s*(cy rs j).1:Int):Rat)*cq hs i+((0-s*(cy rs i).1:Int):Rat)*cq hs j)) M:=Zdd a3 a4 (by lia)
    have b1:=CR.Zc6 a1 a2;have b2:=CR.Zc6 a3 a4;have e1:=Zl3 (s:=s) (a:=(cy rs i).2) (b:=(cy rs j).2) (x:=cq hs j) (y:=cq hs i) (z:=((s*(cy rs i).2:Int):Rat)*cq hs j+((0-s*(cy rs j).2:Int):Rat)*cq hs i) hX hs0 (by rw[f7,a8,a8,Rat.intCast_zero];grind)
    have e2:=Zl3 (s:=s) (a:=(cy rs j).1) (b:=(cy rs i).1) (x:=cq hs i) (y:=cq hs j) (z:=((s*(cy rs j).1:Int):Rat)*cq hs i+((0-s*(cy rs i).1:Int):Rat)*cq hs j) hX hs0 (by rw[f7,a8,a8,Rat.intCast_zero];grind)
    have c1:=congrArg Prod.fst (cdef (cq hs i) (cq hs j));have c2:=congrArg Prod.snd (cdef (cq hs i) (cq hs j));simp only at c1 c2;rw[<-c1]at e1;rw[<-c2]at e2;have w1:∀{Q:W0}{E:W2}{M:Sto},wO (F_law_times [.int (s*(cy rs i).2),rt (cq hs j)] M) Q E=Q (rt (((s*(cy rs i).2:Int):Rat)*cq hs j)) M:=ZaM m1 zj (by lia) (by lia)
    have w2:∀{Q:W0}{E:W2}{M:Sto},wO (F_law_times [.int (0-s*(cy rs j).2),rt (cq hs i)] M) Q E=Q (rt (((0-s*(cy rs j).2:Int):Rat)*cq hs i)) M:=ZaM m2 zi (by lia) (by lia)
    have w3:∀{Q:W0}{E:W2}{M:Sto},wO (F_law_times [.int (s*(cy rs j).1),rt (cq hs i)] M) Q E=Q (rt (((s*(cy rs j).1:Int):Rat)*cq hs i)) M:=ZaM m3 zi (by lia) (by lia)
    have w4:∀{Q:W0}{E:W2}{M:Sto},wO (F_law_times [.int (0-s*(cy rs i).1),rt (cq hs j)] M) Q E=Q (rt (((0-s*(cy rs i).1:Int):Rat)*cq hs j)) M:=ZaM m4 zj (by lia) (by lia)
    generalize ((s*(cy rs i).2:Int):Rat)*cq hs j+((0-s*(cy rs j).2:Int):Rat)*cq hs i=x' at *;generalize ((s*(cy rs j).1:Int):Rat)*cq hs i+((0-s*(cy rs i).1:Int):Rat)*cq hs j=y' at *;generalize hp:cr (cq hs i) (cq hs j)=p at *;have na:0<c0.natAbs:=by lia
    have rr:∀{x' t:Rat},Sz (8+k+(8+k)+1) x'->x'=t*((c0.natAbs:Nat):Rat)->Sz (2*k+34) t/\∀{Q:W0}{E:W2}{M:Sto},wO (F_law_ratio [.int x'.num,.int ((x'.den:Int)*(c0.natAbs:Int))] M) Q E=Q (rt t) M:=by
     intro x' t b1 e1;have lt1:x'.den*c0.natAbs<2^(2*k+34):=by
      have:=CR.Zab b1.2 sX
      rw[show 8+k+(8+k)+1+17=2*k+34 by lia]at this
      exact this
     have nz:x'.den*c0.natAbs≠0:=eU x'.den_nz (by lia)
     have ee:(x'.num:Rat)=t*((x'.den*c0.natAbs:Nat):Rat):=by rw[ZdC x',ik];grind
     refine⟨?_,?_⟩
     ·rw[<-Zdb nz ee];exact CR.ZbS _ (aj b1.1 (aY (by decide) (by lia))) lt1
     ·intro Q E M;rw[show(x'.den:Int)*(c0.natAbs:Int)=((x'.den*c0.natAbs:Nat):Int)by simp]
      exact Zk9 nz ee lt1 (by lia)
    obtain⟨z1,q1⟩:=rr b1 e1;obtain⟨z2,q2⟩:=rr b2 e2;have f1:Zu (x'.den:Int) (c0.natAbs:Int):=Zq (8+k+(8+k)+1) 17 (by simpa using b1.2) (by simpa using sX) (by lia) (by lia)
    have f2:Zu (y'.den:Int) (c0.natAbs:Int):=Zq (8+k+(8+k)+1) 17 (by simpa using b2.2) (by simpa using sX) (by lia) (by lia)
    simp![h2,h2',ZbG,Zbo,sg,w1,w2,w3,w4,l1,l2,ZJ f1,ZJ f2,q1,q2,Zrr r2];have onij:=(onp p).mp rfl;have oi:On rs hs p i:=⟨by lia,onij.1⟩
    have oj:On rs hs p j:=⟨by lia,onij.2⟩
    have one:∀p',On rs hs p' i->On rs hs p' j->p'=p:=fun p' o1 o2=>(onp p').mpr ⟨o1.2,o2.2⟩;refine Zv8 (fun nin=>?_) (fun yin=>?_)
    ·simp![ZjJ h2 hb hne (by lia) h2' e hz ⟨z1,z2⟩ (by lia)]
     refine brS (fun w=>?_) (fun w=>?_)
     ·have eP:pts ms++[rp p]=pts (ms++[p]):=by simp[pts]
      simp![r2,ZS,eP];refine⟨by have:=kG 31 (show i<=31 by lia);lia,K2.set (ac _),ms++[p],_,_,_,_,_,_,rfl,rfl,⟨?_,?_,?_,?_⟩,by simp;lia⟩
      ·exact iZ.mpr ⟨fd.nd,by simp,fun a ha b hb=>by simp at hb;subst hb;exact fun z=>nin (z▸ha)⟩
      ·intro p' hp';rcases bq.mp hp' with z|z
       ·exact fd.sz p' z
       ·rcases ah.mp z with rfl|z
        ·exact⟨z1,z2⟩
        ·cases z
      ·intro p' hp';rcases bq.mp hp' with z|z
       ·exact fd.cor p' z
       ·rcases ah.mp z with rfl|z
        ·exact⟨w,i,j,oi,oj,by rw[hcX0];exact hX⟩
        ·cases z
      ·intro p' a b lt z w' o1 o2 ne;by_cases y:a=i/\b=j
       ·obtain⟨rfl,rfl⟩:=y;rw[one p' o1 o2];simp
       ·exact dY _ (fd.all p' a b lt (by lia) w' o1 o2 ne)
     ·simp![Zo];refine⟨K2,ms,_,_,_,_,_,_,rfl,r2,⟨fd.nd,fd.sz,fd.cor,fun p' a b lt z w' o1 o2 ne=>?_⟩,by lia⟩
      by_cases y:a=i/\b=j
      ·obtain⟨rfl,rfl⟩:=y;rw[one p' o1 o2]at w';exact absurd w' w
      ·exact fd.all p' a b lt (by lia) w' o1 o2 ne
    ·simp![Zo];refine⟨K2,ms,_,_,_,_,_,_,rfl,r2,⟨fd.nd,fd.sz,fd.cor,fun p' a b lt z w' o1 o2 ne=>?_⟩,by lia⟩
     by_cases y:a=i/\b=j
     ·obtain⟨rfl,rfl⟩:=y;rw[one p' o1 o2];exact yin
     ·exact fd.all p' a b lt (by lia) w' o1 o2 ne
   ·simp![Zo];refine⟨K2,ms,_,_,_,_,_,_,rfl,r2,⟨fd.nd,fd.sz,fd.cor,fun p a b lt z w o1 o2 ne=>?_⟩,by lia⟩
    by_cases y:a=i/\b=j
    ·obtain⟨rfl,rfl⟩:=y;exact absurd c ne
    ·exact fd.all p a b lt (by lia) w o1 o2 ne
  ·rintro ρ M2 ⟨K2,ms,x4,x5,x6,x7,x8,x9,rfl,r2,fd,len⟩;exact⟨K2,ms,_,_,_,_,_,_,_,rfl,r2,fd.mono fun a b lt hb' z=>(by lia),by lia⟩
 ·rintro ρ M1 ⟨K1,ms,x3,x4,x5,x6,x7,x8,x9,rfl,r1,fd,len⟩;simp![Zo];refine q ms M1 (fd.bod fun i j lt hj=>by lia) fd.nd fd.sz ?_ K1 r1
  have:=kG 31 hl
  lia
theorem Ze7(h:M[n]?=some (.lst (prs rs)))(hl:rs.length<=1000)(hc:0<=c)(hf:0<=far/\far<=1000000000000000000000000000000)(q:∀hs M',hs.length=rs.length->(∀x∈hs,Sz 102 x)->Kp M M'->M'[M.length]?=some (.lst (rts hs))->Q (.ref M.length) M'):wO (F_law_height [.int c,.ref n,.int far] M) Q E:=by
 have hn:=Zs h;simp![F_law_height,Zbq];have k0:=bX c (show(4:Int)≠0 by decide)
 have k1:=bA c (show(0:Int)<4 by decide)
 have c1:0<=c/4:=by lia
 generalize c%4=kd at *;generalize c/4=c' at *;have r0:(M++[SO.lst []])[M.length]?=some (.lst (rts [])):=by simp[rts]
 refine Zaz (xs:=prs rs) (fun i ρ M'=>Kp M M'/\M'[n]?=some (.lst (prs rs))/\∃hs c x5 x6 x7,ρ=[some (.int c),some (.ref n),some (.int far),some (.int kd),some (.ref M.length),x5,x6,x7]/\0<=c/\M'[M.length]?=some (.lst (rts hs))/\hs.length=i/\∀x∈hs,Sz 102 x) (by rw[ae hn];exact h) ⟨Kp.app,by rw[ae hn];exact h,[],c',_,_,_,rfl,c1,r0,rfl,fun x hx=>(by cases hx)⟩ (fun i ρ M' hI=>hI.2.1) ?_ ?_
 ·rintro i ρ M1 hi ⟨K1,h1,hs,c,x5,x6,x7,rfl,hc,r1,len,sz⟩;rw[ZI]at hi;have hx:=Zs r1;simp![ZaE];have m0:=bX c (show far+far/3+1≠0 by lia)
  have m1:=bA c (show 0<far+far/3+1 by lia)
  obtain⟨b,eb,b1,b6⟩:∃b:Nat,atI [D.int 1,D.int 1,D.int (1+c/1009%6),D.int 1] kd=some (.int b)/\1<=b/\b<=6:=by
   rcases(show kd=0\/kd=1\/kd=2\/kd=3 by lia)with rfl|rfl|rfl|rfl
   ·exact⟨1,rfl,by decide,by decide⟩
   ·exact⟨1,rfl,by decide,by decide⟩
   ·refine⟨(1+c/1009%6).toNat,?_,by lia,by lia⟩
    show some (D.int (1+c/1009%6))=_;rw[fP (by lia)]
   ·exact⟨1,rfl,by decide,by decide⟩
  have hb0:b≠0:=by lia
  have fin:∀t:Int,t.natAbs<2^102->Sz 102 (bJ t b hb0):=fun t ht=>CR.ZbS hb0 ht (by lia)
  have lr:∀{t:Int}{Q:W0}{E:W2}{M:Sto},wO (F_law_ratio [.int t,.int b] M) Q E=Q (rt (bJ t b hb0)) M:=Zec (k:=8) hb0 (by lia) (by lia)
  have K1':=K1.trans (Kp.app (L:=[SO.lst [D.int 1,D.int 1,D.int (1+c/1009%6),D.int 1]]));have h1':=(Kp.app (L:=[SO.lst [D.int 1,D.int 1,D.int (1+c/1009%6),D.int 1]])).get h1;have r1':=(Kp.app (L:=[SO.lst [D.int 1,D.int 1,D.int (1+c/1009%6),D.int 1]])).get r1;simp![eb];generalize M1++[SO.lst [D.int 1,D.int 1,D.int (1+c/1009%6),D.int 1]]=M2 at K1' h1' r1' ⊢;have hx':=Zs r1';have done:∀(t:Int)(x5 x6 x7:Option D),t.natAbs<2^102->(rts hs).length<10000000/\Kp M (M2.set M.length (.lst (rts hs++[rt (bJ t b hb0)])))/\M2[n]?=some (.lst (prs rs))/\∃hs' c' x5' x6' x7',[some (.int (c/31)),some (.ref n),some (.int far),some (.int kd),some (.ref M.length),x5,x6,x7]=[some (.int c'),some (.ref n),some (.int far),some (.int kd),some (.ref M.length),x5',x6',x7']/\0<=c'/\some (SO.lst (rts hs++[rt (bJ t b hb0)]))=some (.lst (rts hs'))/\hs'.length=i+1/\∀x∈hs',Sz 102 x:=by
   intro t x5 x6 x7 ht;refine⟨by rw[ZA];lia,K1'.set (ac _),h1',hs++[bJ t b hb0],_,_,_,_,rfl,by lia,by rw[ZP],by simp[len],fun x hx=>?_⟩
   rcases bq.mp hx with z|z
   ·exact sz x z
   ·rcases ah.mp z with rfl|z
    ·exact fin t ht
    ·cases z
  have nem:M.length≠n:=by lia
  refine brO (fun k3=>?_) (fun k3=>?_)
  ·simp![Zo];refine brS (fun _=>?_) (fun _=>?_)
   ·simp![lr,r1',aF hx',aE nem];exact done (far/4) (some (prs rs)[i]) (some (.int (far/4))) (some (.int b)) (by lia)
   ·simp![lr,r1',aF hx',aE nem];exact done (c%(far+far/3+1)-far/3) (some (prs rs)[i]) (some (.int (c%(far+far/3+1)-far/3))) (some (.int b)) (by lia)
  ·simp![lr,r1',aF hx',aE nem];exact done (c%(far+far/3+1)-far/3) (some (prs rs)[i]) (some (.int (c%(far+far/3+1)-far/3))) (some (.int b)) (by lia)
 ·rintro ρ M1 ⟨K1,h1,hs,c,x5,x6,x7,rfl,hc,r1,len,sz⟩;simp![Zo];exact q hs M1 (by rw[len,ZI]) sz K1 r1
theorem Zla{ns:List Int}{pl:Nat}(hf:0<=far/\far<=1000000000000000000000000000000)(q:∀rs hs n m M',Smo rs->Nr 200 rs->rs.length<=14->hs.length=rs.length->(∀x∈hs,Sz 102 x)->Kp M M'->M'[n]?=some (.lst (prs rs))->M'[m]?=some (.lst (rts hs))->Q (.tup [.ref n,.ref m]) M'):wO (F_law_sized [.rol (ns.map D.int),.int pl,.int far] M) Q E:=by
 simp![F_law_sized,ZbY];refine CC.Zcb fun c c0=>?_;simp![Zo];obtain⟨t,et,t1,t2⟩:∃t:Int,atI [D.int 9,D.int 9,D.int 9,D.int 9,D.int 9,D.int 9,D.int 9,D.int 14] (c%8)=some (.int t)/\3<=t/\t<=14:=by
  rcases(show c%8=0\/c%8=1\/c%8=2\/c%8=3\/c%8=4\/c%8=5\/c%8=6\/c%8=7 by lia)with e|e|e|e|e|e|e|e<;>rw[e]
  ·exact⟨9,rfl,by decide,by decide⟩
  ·exact⟨9,rfl,by decide,by decide⟩
  ·exact⟨9,rfl,by decide,by decide⟩
  ·exact⟨9,rfl,by decide,by decide⟩
  ·exact⟨9,rfl,by decide,by decide⟩
  ·exact⟨9,rfl,by decide,by decide⟩
  ·exact⟨9,rfl,by decide,by decide⟩
  ·exact⟨14,rfl,by decide,by decide⟩
 simp![et];refine CC.Zgz (by lia) (by lia) fun ss m M1 s1 s2 s3 r1 l1 g1=>?_
 have K1:=Kp.app.trans (Kp.of l1 g1);simp![Zo];refine brS (fun _=>?_) (fun _=>?_)
 ·simp![Zo];refine CC.Zgz (by lia) (by lia) fun ss m M2 s1 s2 s3 r1 l2 g2=>?_
  have K2:=K1.trans (Kp.of l2 g2);simp![Zo];rw[show(pl:Int)+1=((pl+1:Nat):Int)by lia]
  refine CC.Zcb fun c c0=>?_;simp![Zo];refine Ze7 r1 (by lia) c0 (by decide) fun hs M3 e z K3 r3=>?_
  simp![Zo];exact q ss hs _ _ M3 s1 s2 (by lia) e z (K2.trans K3) (K3.get r1) r3
 ·simp![Zo];rw[show(pl:Int)+1=((pl+1:Nat):Int)by lia]
  refine CC.Zcb fun c c0=>?_;simp![Zo];refine Ze7 r1 (by lia) c0 hf fun hs M3 e z K3 r3=>?_
  simp![Zo];exact q ss hs _ _ M3 s1 s2 (by lia) e z (K1.trans K3) (K3.get r1) r3
theorem Zl4(h:M[n]?=some (.lst (rts xs)))(q:Q (.bl true) M):wO (F_law_are_ratios [.ref n] M) Q E:=by
 have hn:=Zs h;have ty:ZaH M (.ref n)=some "list":=by simp[ZaH,kd,h]
 simp![F_law_are_ratios,Zat,h,ty];refine Zaz (xs:=rts xs) (fun i ρ M'=>M'=M/\∃x1 x2,ρ=[some (.ref n),x1,x2]) h ⟨rfl,_,_,rfl⟩ (fun i ρ M' hI=>hI.1▸h) ?_ ?_
 ·rintro i ρ M hi ⟨rfl,x1,x2,rfl⟩;rw[Zbp];simp![Z8];refine ZdX (fun _ ρ M'=>M'=M/\∃x1 x2,ρ=[some (.ref n),x1,x2]) _ 0 _ _ ⟨rfl,_,_,rfl⟩ ?_ (fun ρ M' h=>h);rintro j ρ M hj ⟨rfl,x1,x2,rfl⟩
  match j,hj with
  |0,_=>simp![ZW];exact⟨rfl,_,_,rfl⟩
  |1,_=>simp![ZW];exact⟨rfl,_,_,rfl⟩
 ·rintro ρ M ⟨rfl,x1,x2,rfl⟩;simp![Zo];exact q
end
end BL
namespace Rb
open L2 DL
open CN (cq)
open CS (slp)
open TW
theorem Zn6(h:Smo rs)(hi:i<rs.length)(hj:j<rs.length)(ne:i≠j)(h1:0<=X (cy rs i) (cy rs j))(h2:0<X (cy rs j) (cy rs (i+1))):False:=by
 have hr:=h.rn;have p2:=hr.pos j;have w0:cy rs j≠(0,0):=by
  intro z;rw[z]at p2;unfold X at p2;simp at p2
 have c:=(hr.fan (cy rs j) w0).1;rw[Zjq hr.ne]at c;have a1:=Zjk (w:=cy rs j) (a:=cy rs i) (b:=cy rs (i+1)) (by lia) h2
 have a2:=Zjk (w:=cy rs j) (a:=cy rs j) (b:=cy rs (j+1)) (by rw[XX];lia) p2
 rcases(show i<j\/j<i by lia)with z|z
 ·have g:=Zjr (f:=in1 (cy rs j)) (rs:=rs) rs.length 0 i j z hj;rw[show(0:Int)+i=i by lia,show(0:Int)+j=j by lia,a1,a2]at g
  lia
 ·have g:=Zjr (f:=in1 (cy rs j)) (rs:=rs) rs.length 0 j i z hi;rw[show(0:Int)+i=i by lia,show(0:Int)+j=j by lia,a1,a2]at g
  lia
theorem free(h:Smo rs)(hi:i<rs.length)(hj:j<rs.length)(h1:0<X (cy rs i) (cy rs j))(h2:0<X (cy rs j) (cy rs (i+1))):False:=Zn6 h hi hj (fun z=>by subst z;rw[XX]at h1;lia) (by lia) h2
theorem ZgO(p:RP)(s t v:Pt):(X s t:Rat)*slp p v=(X v t:Rat)*slp p s+(X s v:Rat)*slp p t:=by
 rw[ZbH,ZbH,ZbH];unfold slp;grind
structure Cn(s t r b:Pt):Prop where
 st:0<X s t
 sr:0<=X s r
 rt:0<=X r t
 sb:0<=X s b
 bt:0<=X b t
def vl(s t w:Pt)(x y:Rat):Rat:= -((X w t:Rat)*x+(X s w:Rat)*y)
theorem ge0{a:Int}(h:0<=a):(0:Rat)<=(a:Rat):=Rat.intCast_nonneg.mpr h
theorem gt0{a:Int}(h:0<a):(0:Rat)<(a:Rat):=dW.mpr h
theorem Zvd{α:Type}(P:α->Prop)(f:α->Rat):∀L:List α,(∃x∈L,P x)->∃x∈L,P x/\∀y∈L,P y->f y<=f x
 |[],⟨x,hx,_⟩=>by cases hx
 |a::L,h=>by
  classical
  by_cases hL:∃x∈L,P x
  ·obtain⟨x,hx,px,mx⟩:=Zvd P f L hL;by_cases c:P a/\f x<f a
   ·refine⟨a,by simp,c.1,fun y hy py=>?_⟩
    rcases ah.mp hy with rfl|hy
    ·exact d7
    ·have:=mx y hy py
     grind
   ·refine⟨x,aA _ hx,px,fun y hy py=>?_⟩;rcases ah.mp hy with rfl|hy
    ·by_cases z:f y<=f x
     ·exact z
     ·exact absurd ⟨py,by grind⟩ c
    ·exact mx y hy py
  ·obtain⟨x,hx,px⟩:=h;rcases ah.mp hx with rfl|hx
   ·refine⟨x,by simp,px,fun y hy py=>?_⟩
    rcases ah.mp hy with rfl|hy
    ·exact d7
    ·exact absurd ⟨y,hy,py⟩ hL
   ·exact absurd ⟨x,hx,px⟩ hL
theorem plk(r u s t:Pt):X r u*X s t=X r t*X s u-X s r*X u t:=by unfold X;grind
theorem swap(c:Cn s t r b)(rb:X r b=1)(fr:¬(0<X r u/\0<X u b))(no:¬(X u t<=0/\X s u<=0)):Cn s u r b\/Cn u t r b:=by
 obtain⟨st,sr,rt,sb,bt⟩:=c;have e1:=plk r u s t;have e2:=plk b u s t;have e3:=plk r b s t;rw[rb]at e3;have sw:∀p q:Pt,X p q= -(X q p):=fun p q=>by unfold X;grind
 have u1:=sw u r;have u2:=sw u b;generalize g1:X r u=ru at *;generalize g2:X b u=bu at *;generalize g3:X r t=r1 at *;generalize g4:X s r=r2 at *;generalize hb1:X b t=b1 at *;generalize g5:X s b=b2 at *;generalize ha:X u t=a at *;generalize hc:X s u=c at *;generalize g6:X s t=k at *;have r1p:0<r1:=by
  rcases(show r1=0\/0<r1 by lia)with z|z
  ·rw[z]at e3
   have:=aZ sr bt
   lia
  ·exact z
 have b2p:0<b2:=by
  rcases(show b2=0\/0<b2 by lia)with z|z
  ·rw[z]at e3
   have:=aZ sr bt
   simp at e3;lia
  ·exact z
 have pos:∀{x:Int},0<=x*k->0<=x:=fun{x} h=>by
  by_cases z:0<=x
  ·exact z
  ·have:=jb (show 0 < -x by lia) st
   rw[i9]at this;lia
 have Zou:∀{x:Int},x*k<=0->x<=0:=fun{x} h=>by
  by_cases z:x<=0
  ·exact z
  ·have:=jb (show 0<x by lia) st
   lia
 by_cases hc0:0<c
 ·by_cases ha0:0<a
  ·by_cases f:0<ru
   ·
    have f2:¬0<X u b:=fun z=>fr ⟨f,z⟩;have bu0:0<=bu:=by lia
    exact .inl ⟨by lia,by lia,by lia,by lia,by lia⟩
   ·have ur:0<=X u r:=by lia
    refine .inr ⟨by lia,ur,by lia,?_,by lia⟩
    have h1:ru*k<=0:=by
     have:=aZ (show 0<= -ru by lia) (show 0<=k by lia)
     rw[i9]at this;lia
    have m1:r1*(b1*c-b2*a)<=0:=by
     have q1:=aZ (show 0<=r2*a-r1*c by lia) bt
     have q2:=aZ (show 0<=r1*b2-r2*b1 by lia) (show 0<=a by lia)
     have:r1*(b1*c-b2*a)= -((r2*a-r1*c)*b1)-(r1*b2-r2*b1)*a:=by grind
     lia
    have m2:b1*c-b2*a<=0:=by
     by_cases z:b1*c-b2*a<=0
     ·exact z
     ·have:=jb r1p (show 0<b1*c-b2*a by lia)
      lia
    have:=Zou (x:=bu) (by lia)
    lia
  ·refine .inl ⟨by lia,by lia,?_,by lia,?_⟩
   ·have q1:=aZ (show 0<=r1 by lia) (show 0<=c by lia)
    have q2:=aZ sr (show 0<= -a by lia)
    rw[kH]at q2
    have:=pos (x:=ru) (by lia)
    lia
   ·have q1:=aZ bt (show 0<=c by lia)
    have q2:=aZ sb (show 0<= -a by lia)
    rw[kH]at q2
    have:=pos (x:=bu) (by lia)
    lia
 ·have ha0:0<a:=by lia
  have q1:=aZ (show 0<=r1 by lia) (show 0<= -c by lia)
  have q2:=aZ sr (show 0<=a by lia)
  have q3:=aZ bt (show 0<= -c by lia)
  have q4:=aZ sb (show 0<=a by lia)
  rw[kH]at q1 q3;have z1:=Zou (x:=ru) (by lia)
  have z2:=Zou (x:=bu) (by lia)
  exact .inr ⟨by lia,by lia,by lia,by lia,by lia⟩
theorem ZjM{a:Rat}(hc:0<c)(h:a<b):c*a<c*b:=(fN hc).mpr h
theorem more(c:Cn s u r b)(rb:X r b=1)(sb:0<X s r+X s b)(ps:slp p s= -x)(ps':slp p' s= -x)(pu:slp p u < -y)(pu':slp p' u= -y):slp p r+slp p b<slp p' r+slp p' b:=by
 have t1:=ZgO p s u r;have t2:=ZgO p s u b;have t3:=ZgO p' s u r;have t4:=ZgO p' s u b;have k:=gt0 c.st;have q:(0:Rat)<(X s r:Rat)+(X s b:Rat):=by rw[<-Rat.intCast_add];exact gt0 sb
 have:=ZjM q pu
 rw[ps]at t1 t2;rw[ps',pu']at t3 t4;generalize slp p r=a1 at *;generalize slp p b=a2 at *;generalize slp p' r=a3 at *;generalize slp p' b=a4 at *;generalize slp p u=z at *;have e:(X s u:Rat)*(a1+a2)<(X s u:Rat)*(a3+a4):=by grind
 exact(fN k).mp e
theorem Zt0(c:Cn u t r b)(rb:X r b=1)(sb:0<X r t+X b t)(ps:slp p t= -x)(ps':slp p' t= -x)(pu:slp p u < -y)(pu':slp p' u= -y):slp p r+slp p b<slp p' r+slp p' b:=by
 have t1:=ZgO p u t r;have t2:=ZgO p u t b;have t3:=ZgO p' u t r;have t4:=ZgO p' u t b;have k:=gt0 c.st;have q:(0:Rat)<(X r t:Rat)+(X b t:Rat):=by rw[<-Rat.intCast_add];exact gt0 sb
 have:=ZjM q pu
 rw[ps]at t1 t2;rw[ps',pu']at t3 t4;generalize slp p r=a1 at *;generalize slp p b=a2 at *;generalize slp p' r=a3 at *;generalize slp p' b=a4 at *;generalize slp p u=z at *;have e:(X u t:Rat)*(a1+a2)<(X u t:Rat)*(a3+a4):=by grind
 exact(fN k).mp e
theorem Zl5(c:Cn s t r b)(rb:X r b=1):0<X s r+X s b/\0<X r t+X b t:=by
 have e3:=plk r b s t;rw[rb]at e3;obtain⟨st,sr,rt,sb,bt⟩:=c;generalize X r t=r1 at *;generalize X s r=r2 at *;generalize X b t=b1 at *;generalize X s b=b2 at *;constructor
 ·by_cases z:0<r2+b2
  ·exact z
  ·have e1:r2=0:=by lia
   have e2:b2=0:=by lia
   rw[e1,e2]at e3;simp at e3;lia
 ·by_cases z:0<r1+b1
  ·exact z
  ·have e1:r1=0:=by lia
   have e2:b1=0:=by lia
   rw[e1,e2]at e3;simp at e3;lia
theorem wed(h:Smo rs)(hi:i<rs.length)(hq:Win rs hs q):∃p s t,Win rs hs p/\On rs hs p s/\On rs hs p t/\Cn (cy rs s) (cy rs t) (cy rs i) (cy rs (i+1)):=by
 have rb:=h.one i;obtain⟨j,hj,ej⟩:=BD.ZjB (rs:=rs) (z:=(i:Int)+1) h.ne
 let L:List (Nat×Nat):=(aL rs.length).flatMap fun a=>(aL rs.length).map fun b=>(a,b)
 have mem:∀a b,a<rs.length->b<rs.length->(a,b)∈L:=fun a b ha hb=>jB.mpr ⟨a,cA.mpr ha,cf.mpr ⟨b,cA.mpr hb,rfl⟩⟩;have mem':∀x∈L,x.1<rs.length/\x.2<rs.length:=fun x hx=>by
  obtain⟨a,ha,hb⟩:=jB.mp hx;obtain⟨b,hb2,rfl⟩:=cf.mp hb;exact⟨cA.mp ha,cA.mp hb2⟩
 let pt (x:Nat×Nat):RP:=BL.crn (cy rs x.1) (cy rs x.2) (cq hs x.1) (cq hs x.2)
 have xx:∀p:Pt,X p p=0:=fun p=>by unfold X;grind
 obtain⟨⟨s,t⟩,hst,cn,mx⟩:=Zvd (fun x:Nat×Nat=>Cn (cy rs x.1) (cy rs x.2) (cy rs i) (cy rs (i+1))) (fun x=>slp (pt x) (cy rs i)+slp (pt x) (cy rs (i+1))) L ⟨(i,j),mem i j hi hj,by
  simp only[ej];exact⟨by lia,by rw[xx];lia,by lia,by lia,by rw[xx];lia⟩⟩
 obtain⟨hs0,ht0⟩:=mem' _ hst;simp only at cn hs0 ht0;have on:∀a b:Nat,X (cy rs a) (cy rs b)≠0->slp (pt (a,b)) (cy rs a)= -(cq hs a)/\slp (pt (a,b)) (cy rs b)= -(cq hs b):=fun a b ne=>(BL.ZjL ne).mp rfl;obtain⟨o1,o2⟩:=on s t (by have:=cn.st;lia)
 have w:Win rs hs (pt (s,t)):=by
  intro u hu;by_cases z: -(cq hs u)<=slp (pt (s,t)) (cy rs u)
  ·exact z
  ·exfalso;have z:slp (pt (s,t)) (cy rs u) < -(cq hs u):=by grind
   by_cases no:X (cy rs u) (cy rs t)<=0/\X (cy rs s) (cy rs u)<=0
   ·have t1:=ZgO q (cy rs s) (cy rs t) (cy rs u);have t2:=ZgO (pt (s,t)) (cy rs s) (cy rs t) (cy rs u);have a1:=hq s hs0;have a2:=hq t ht0;have a3:=hq u hu;have k:=gt0 cn.st;have n1:(X (cy rs u) (cy rs t):Rat)<=0:=iU.mpr no.1;have n2:(X (cy rs s) (cy rs u):Rat)<=0:=iU.mpr no.2;rw[o1,o2]at t2;have b1:=b7 a1 (show 0<= -(X (cy rs u) (cy rs t):Rat)by grind)
    have b2:=b7 a2 (show 0<= -(X (cy rs s) (cy rs u):Rat)by grind)
    have b3:=b7 a3 (show 0<=(X (cy rs s) (cy rs t):Rat)by grind)
    have b4:=ZjM k z;grind
   ·rcases swap cn rb (fun f=>free h hi hu f.1 f.2) no with c|c
    ·obtain⟨o3,o4⟩:=on s u (by have:=c.st;lia)
     have:=more c rb (Zl5 c rb).1 o1 o3 z o4
     have:=mx (s,u) (mem s u hs0 hu) c
     grind
    ·obtain⟨o3,o4⟩:=on u t (by have:=c.st;lia)
     have:=Zt0 c rb (Zl5 c rb).2 o2 o4 z o3
     have:=mx (u,t) (mem u t hu ht0) c
     grind
 exact⟨pt (s,t),s,t,w,⟨hs0,o1⟩,⟨ht0,o2⟩,cn⟩
theorem Zt1(os:On rs hs p s)(ot:On rs hs p t)(st:0<X (cy rs s) (cy rs t))(h1:0<=X v (cy rs t))(h2:0<=X (cy rs s) v)(hq:Win rs hs q):slp p v<=slp q v:=by
 have a1:=hq s os.1;have a2:=hq t ot.1;rw[<-os.2]at a1;rw[<-ot.2]at a2;have k:=gt0 st;have t1:=ZgO q (cy rs s) (cy rs t) v;have t2:=ZgO p (cy rs s) (cy rs t) v;have b1:=b7 a1 (ge0 h1);have b2:=b7 a2 (ge0 h2);refine(Zac k).mp ?_;rw[t1,t2];grind
end Rb
namespace PT
open L2 DL
open CC (F_crossed)
open CS (F_minus)
open CD (F_height_of)
open BD (F_common_bottom F_stretched F_body)
def Zdf:Sv:=(Zx (ZkI (gCs (gNm 2) (gCs (gNm 3) (gCs (gNm 4) gNl))) (Zbe (iSq (Zg 1)) 1 [0] (gNm 0) (fun _ M=>.ok true M) (e2 dIx (Zg 1) (Zg 0)))) (Zx (ZG (gNm 5) (ZbN (Zc (Zj F_crossed (Zc (Zg 3) (Zc (Zg 4) aNil))) (Zc (Zj F_crossed (Zc (Zg 4) (Zc (Zg 2) aNil))) (Zc (Zj F_crossed (Zc (Zg 2) (Zc (Zg 3) aNil))) aNil))))) (Z1 (eIf (tv (e2 dGe (Zj (Zdl List.min?) (Zc (Zg 5) aNil)) (eC (.int 0)))) (Zg 5) (eC .non)))))
def F_balance:W3:=fnF Zdf 2 4
def Zed:Sv:=(Z1 (Zbd (iR1 (Zc (Zg 0) aNil)) 3 [0] (gNm 0) (fun _ M=>.ok true M) fun n=>(gIn (iR2 (Zc (e2 dAdd (Zg 0) (eC (.int 1))) (Zc (Zg 3) aNil))) (gNm 1) (fun _ M=>.ok true M) (gIn (iR2 (Zc (e2 dAdd (Zg 1) (eC (.int 1))) (Zc (Zg 3) aNil))) (gNm 2) (fun _ M=>.ok true M) (gEm (Zaq (Zc (Zg 0) (Zc (Zg 1) (Zc (Zg 2) aNil)))) n)))))
def F_threes:W3:=fnF Zed 1 0
def Za7:Sv:=(Zly (Zg 6) (Zg 8) (Zg 7))
def Zaw:Sv:=(Zx (ZG (gNm 5) (Zj F_balance (Zc (Zg 0) (Zc (Zg 4) aNil)))) (sIf (Zcz (tv (e2 dIsNot (Zg 5) (eC .non))) (tv (e2 dLt (Zj (Zdl Zsu) (Zc (Zbe (DLy2.iZt (Zc (Zg 5) (Zc (Zg 4) aNil))) 2 [3] (gTp (gCs (gNm 0) (gCs (gNm 1) gNl))) (fun _ M=>.ok true M) (e2 dMul (Zg 0) (e2 dIx (Zg 2) (Zg 1)))) aNil)) (eC (.int 0))))) (Zx (ZG (gNm 6) (Zbe (iSq (Zg 0)) 1 [] (gNm 0) (fun _ M=>.ok true M) (eC (.int 0)))) (Zx (ZeK (gTp (gCs (gNm 7) (gCs (gNm 8) gNl))) (DLy2.iZt (Zc (Zg 5) (Zc (Zg 4) aNil))) Za7) (Z1 (Zg 6)))) sNil))
def ZdF:Sv:=(Zx (ZG (gNm 2) (Zj F_common_bottom (Zc (Zg 1) aNil))) (Zx (ZG (gNm 3) (Zbe (iSq (Zg 1)) 1 [2] (gNm 0) (fun _ M=>.ok true M) (Zj F_stretched (Zc (Zg 0) (Zc (Zg 1) aNil))))) (Zx (ZeD (gNm 4) (Zj F_threes (Zc (Zj bLen (Zc (Zg 0) aNil)) aNil)) Zaw) (Z1 (eC .non)))))
def F_emptying:W3:=fnF ZdF 2 7
def Zdg:Sv:=(Zx (ZG (gNm 2) (Zj F_body (Zc (Zg 0) (Zc (Zg 1) aNil)))) (Zx (sIf (tv (e2 dEq (Zg 2) (ZbN aNil))) (Z1 (Zaq (Zc (eC (.str (PySem.Str.ofString "none"))) (Zc (Zj F_emptying (Zc (Zg 0) (Zc (Zg 1) aNil))) aNil)))) sNil) (Zx (ZG (gNm 3) (Zj F_height_of (Zc (Zg 0) (Zc (Zg 2) aNil)))) (Z1 (Zaq (Zc (eC (.str (PySem.Str.ofString "parted"))) (Zc (Zg 3) (Zc (Zbe (iZp (Zc (Zg 1) (Zc (Zg 3) aNil))) 2 [] (gTp (gCs (gNm 0) (gCs (gNm 1) gNl))) (fun _ M=>.ok true M) (Zj F_minus (Zc (Zg 0) (Zc (Zg 1) aNil)))) aNil))))))))
def F_parting:W3:=fnF Zdg 2 2
end PT
namespace PT
open L2 DL
open CV CN CU CS
open CR (rt Sz)
open CH (rts ZA ZP)
open CD (pts ZS Za5 hts)
open Rb BD
noncomputable def tri(i j k:Nat):D:=.tup [.int i,.int j,.int k]
def t3(n i j:Nat)(m:Nat):List D:=(aL m).map fun c=>tri i j (j+1+c)
def t2(n i:Nat)(m:Nat):List D:=(aL m).flatMap fun b=>t3 n i (i+1+b) (n-(i+1+b+1))
def t1(n m:Nat):List D:=(aL m).flatMap fun a=>t2 n a (n-(a+1))
theorem Zrs:d∈t3 n i j m↔∃c<m,d=tri i j (j+1+c):=by simp[t3,eq_comm]
theorem Zl6:d∈t1 n n↔∃i j k,i<j/\j<k/\k<n/\d=tri i j k:=by
 simp only[t1,t2,jB,cA,Zrs];constructor
 ·rintro⟨i,hi,b,hb,c,hc,rfl⟩;exact⟨i,i+1+b,i+1+b+1+c,by lia,by lia,by lia,rfl⟩
 ·rintro⟨i,j,k,h1,h2,h3,rfl⟩;exact⟨i,by lia,j-(i+1),by lia,k-(j+1),by lia,by congr 1<;>lia⟩
theorem Zl7:(t3 n i j m).length=m:=by simp[t3]
theorem Zwz:t3 n i j (m+1)=t3 n i j m++[tri i j (j+1+m)]:=by simp[t3,cJ]
theorem ZwA:t2 n i (m+1)=t2 n i m++t3 n i (i+1+m) (n-(i+1+m+1)):=by simp[t2,cJ]
theorem ZwB:t1 n (m+1)=t1 n m++t2 n m (n-(m+1)):=by simp[t1,cJ]
theorem ZjN{n i:Nat}:∀m,(t2 n i m).length<=n*m
 |0=>by simp[t2]
 |m+1=>by
  have:=ZjN (n:=n) (i:=i) m
  unfold t2 at *;rw[cJ,k8,aG,Nat.mul_succ];simp[Zl7]at *;lia
theorem Zl8{n:Nat}:∀m,(t1 n m).length<=n*n*m
 |0=>by simp[t1]
 |m+1=>by
  have:=Zl8 (n:=n) m
  have h2:=ZjN (n:=n) (i:=m) (n-(m+1));have h3:n*(n-(m+1))<=n*n:=k9 _ (by lia)
  unfold t1 at *;rw[cJ,k8,aG,Nat.mul_succ];simp at *;lia
section
variable {M:Sto}{n i j:Nat}{hs:List Rat}{L:List D}
theorem Zve{b:Nat}(h1:∀Q E,wO (f ρ M) Q E=Q (.int (a+1:Nat)) M)(h2:∀Q E,wO (g ρ M) Q E=Q (.int b) M)(hb:a<=1000/\b<=1000):iR2 (Zc f (Zc g aNil)) ρ M=.ok (.pur (Zal ((a+1:Nat):Int) (b-(a+1)))) M:=by
 have:wO (iR2 (Zc f (Zc g aNil)) ρ M) (fun src M'=>src=.pur (Zal ((a+1:Nat):Int) (b-(a+1)))/\M'=M) (fun _ _=>False):=by
  simp![h1,h2];refine⟨by lia,?_⟩
  rw[show((b:Int)-((a+1:Nat):Int)).toNat=b-(a+1)by lia]
 obtain⟨d,M',e,e1,e2⟩:=Zb8 this;rw[e,e1,e2]
theorem Zt2(h:∀Q E,wO (f ρ (M++[.lst L])) Q E=Q d (M++[.lst L]))(hl:L.length<10000000):gEm f M.length ρ (M++[.lst L])=.ok ρ (M++[.lst (L++[d])]):=by
 have:wO (f ρ (M++[.lst L])) (fun d' M'=>d'=d/\M'=M++[.lst L]) (fun _ _=>False):=by rw[h];exact⟨rfl,rfl⟩
 obtain⟨d',M',e,e1,e2⟩:=Zb8 this;subst e1 e2;simp[gEm,e,hl]
theorem Zl9{a:Nat}(h:c<m):nxt (.pur (Zal (a:Int) m)) c M=some (some (.int (a+c:Nat))):=by
 show some (Zal (a:Int) m)[c]?=_;simp[Zal,h]
theorem Zma(h:fi ρ M=.ok (.pur (Zal a m)) M)(e:Zcw (.pur (Zal a m)) tg c g m 0 ρ M=.ok ρ' M'):gIn fi tg c g ρ M=.ok ρ' M':=by
 unfold gIn;rw[h];show Zcw _ _ _ _ (Zal a m).length 0 ρ M=_;rw[show(Zal a m).length=m by simp[Zal]]
 exact e
abbrev G3(o:Nat):Ro->Sto->Out Ro:=gIn (iR2 (Zc (e2 dAdd (Zg 1) (eC (.int 1))) (Zc (Zg 3) aNil))) (gNm 2) (fun _ M=>.ok true M) (gEm (Zaq (Zc (Zg 0) (Zc (Zg 1) (Zc (Zg 2) aNil)))) o)
abbrev G2(o:Nat):Ro->Sto->Out Ro:=gIn (iR2 (Zc (e2 dAdd (Zg 0) (eC (.int 1))) (Zc (Zg 3) aNil))) (gNm 1) (fun _ M=>.ok true M) (G3 o)
theorem Zt3(hj:j<=1000)(hn:n<=1000)(hl:L.length+n<10000000):∃x2',G3 M.length [some (.int i),some (.int j),x2,some (.int n)] (M++[.lst L])=.ok [some (.int i),some (.int j),x2',some (.int n)] (M++[.lst (L++t3 n i j (n-(j+1)))]):=by
 have s:=Zve (M:=M++[.lst L]) (f:=e2 dAdd (Zg 1) (eC (.int 1))) (g:=Zg 3) (ρ:=[some (.int i),some (.int j),x2,some (.int n)]) (a:=j) (b:=n) (fun Q E=>by rw[show((j+1:Nat):Int)=(j:Int)+1 by lia];simp![Zo]) (fun Q E=>by simp![Zo]) ⟨hj,hn⟩
 obtain⟨ρ',M',e,x2',e1,e2⟩:=ZcJ (src:=.pur (Zal ((j+1:Nat):Int) (n-(j+1)))) (tg:=gNm 2) (c:=fun _ M=>.ok true M) (g:=gEm (Zaq (Zc (Zg 0) (Zc (Zg 1) (Zc (Zg 2) aNil)))) M.length) (P:=fun c ρ M'=>∃x2',ρ=[some (.int i),some (.int j),x2',some (.int n)]/\M'=M++[.lst (L++t3 n i j c)]) (n-(j+1)) (by
  rintro c ρ M' hc ⟨x2',rfl,rfl⟩;refine⟨.int (j+1+c:Nat),[some (.int i),some (.int j),some (.int (j+1+c:Nat)),some (.int n)],_,?_,rfl,.inr ⟨_,_,rfl,Zt2 (d:=tri i j (j+1+c)) (fun Q E=>by simp![Zo];rfl) (by rw[aG,Zl7];lia),_,rfl,?_⟩⟩
  ·exact Zl9 hc
  ·rw[Zwz,d6]) (by
  rintro ρ M' ⟨x2',rfl,rfl⟩;show some (Zal ((j+1:Nat):Int) (n-(j+1)))[n-(j+1)]?=_;rw[aJ (by simp[Zal])]) (n-(j+1)) 0 [some (.int i),some (.int j),x2,some (.int n)] (M++[.lst L]) (by lia) (by lia) ⟨_,rfl,by simp[t3]⟩
 refine⟨x2',?_⟩;subst e1 e2;exact Zma s e
theorem Zt4(hi:i<=1000)(hn:n<=1000)(hl:L.length+n*n+n<10000000):∃x1' x2',G2 M.length [some (.int i),x1,x2,some (.int n)] (M++[.lst L])=.ok [some (.int i),x1',x2',some (.int n)] (M++[.lst (L++t2 n i (n-(i+1)))]):=by
 have s:=Zve (M:=M++[.lst L]) (f:=e2 dAdd (Zg 0) (eC (.int 1))) (g:=Zg 3) (ρ:=[some (.int i),x1,x2,some (.int n)]) (a:=i) (b:=n) (fun Q E=>by rw[show((i+1:Nat):Int)=(i:Int)+1 by lia];simp![Zo]) (fun Q E=>by simp![Zo]) ⟨hi,hn⟩
 obtain⟨ρ',M',e,x1',x2',e1,e2⟩:=ZcJ (src:=.pur (Zal ((i+1:Nat):Int) (n-(i+1)))) (tg:=gNm 1) (c:=fun _ M=>.ok true M) (g:=G3 M.length) (P:=fun c ρ M'=>∃x1' x2',ρ=[some (.int i),x1',x2',some (.int n)]/\M'=M++[.lst (L++t2 n i c)]) (n-(i+1)) (by
  rintro c ρ M' hc ⟨x1',x2',rfl,rfl⟩;have tl:=ZjN (n:=n) (i:=i) c;have tm:=k9 n (show c<=n by lia)
  obtain⟨x2'',e3⟩:=Zt3 (M:=M) (L:=L++t2 n i c) (i:=i) (j:=i+1+c) (n:=n) (x2:=x2') (by lia) hn (by rw[aG];lia)
  refine⟨.int (i+1+c:Nat),[some (.int i),some (.int (i+1+c:Nat)),x2',some (.int n)],_,?_,rfl,.inr ⟨_,_,rfl,e3,_,_,rfl,?_⟩⟩
  ·exact Zl9 hc
  ·rw[ZwA,d6]) (by
  rintro ρ M' ⟨x1',x2',rfl,rfl⟩;show some (Zal ((i+1:Nat):Int) (n-(i+1)))[n-(i+1)]?=_;rw[aJ (by simp[Zal])]) (n-(i+1)) 0 [some (.int i),x1,x2,some (.int n)] (M++[.lst L]) (by lia) (by lia) ⟨_,_,rfl,by simp[t2]⟩
 refine⟨x1',x2',?_⟩;subst e1 e2;exact Zma s e
theorem ZjO(hn:n<=31):F_threes [.int n] M=.ok (.ref M.length) (M++[SO.lst (t1 n n)]):=by
 generalize ho:F_threes [.int n] M=o9;have main:wO o9 (fun d M'=>d=D.ref M.length/\M'=M++[SO.lst (t1 n n)]) (fun _ _=>False):=by
  rw[<-ho];simp![F_threes,Zed,Zjc];refine⟨by lia,?_⟩
  rw[bR];obtain⟨ρ',M',e,x0,x1,x2,e1,e2⟩:=ZcJ (src:=.pur (Zal 0 n)) (tg:=gNm 0) (c:=fun _ M=>.ok true M) (g:=G2 M.length) (P:=fun c ρ M'=>∃x0 x1 x2,ρ=[x0,x1,x2,some (.int n)]/\M'=M++[.lst (t1 n c)]) n (by
   rintro c ρ M' hc ⟨x0,x1,x2,rfl,rfl⟩;have tl:=Zl8 (n:=n) c;have t1b:n*n*c<=31*31*31:=cB (cB hn hn) (by lia)
   have t2b:n*n<=31*31:=cB hn hn;obtain⟨x1',x2',e3⟩:=Zt4 (M:=M) (L:=t1 n c) (i:=c) (n:=n) (x1:=x1) (x2:=x2) (by lia) (by lia) (by lia)
   refine⟨.int (c:Nat),[some (.int (c:Nat)),x1,x2,some (.int n)],_,?_,rfl,.inr ⟨_,_,rfl,e3,_,_,_,rfl,?_⟩⟩
   ·show some (Zal 0 n)[c]?=_;simp[Zal,hc]
   ·rw[ZwB]) (by
   rintro ρ M' ⟨x0,x1,x2,rfl,rfl⟩;show some (Zal 0 n)[n]?=_;rw[aJ (by simp[Zal])]) (cnt (.pur (Zal 0 n)) M) 0 (roB 3 [0] [some (.int n)]) (M++[.lst []]) (by lia) (by simp[cnt,Zal]) ⟨_,_,_,rfl,by simp[t1]⟩
  refine⟨ρ',M',e,?_⟩;rw[e2];exact⟨rfl,rfl⟩
 obtain⟨d,M',e,e1,e2⟩:=Zb8 main;rw[e,e1,e2]
def bal(rs:List Pt)(i j k:Nat):List Int:=[X (cy rs j) (cy rs k),X (cy rs k) (cy rs i),X (cy rs i) (cy rs j)]
noncomputable def Nn(l:List Int):Prop:=∀x∈l,0<=x
theorem ZjP(h:M[n]?=some (.lst (prs rs)))(hb:Nr B rs)(hi:i<rs.length)(hj:j<rs.length)(hk:k<rs.length)(q1:∀o M',Nn (bal rs i j k)->Kp M M'->M.length<=o->M'[o]?=some (.lst (nts (bal rs i j k)))->Q (.ref o) M')(q2:∀M',¬Nn (bal rs i j k)->Kp M M'->Q .non M')(hB:B<=400:=by first|decide|assumption):wO (F_balance [.ref n,tri i j k] M) Q E:=by
 have hn:=Zs h;have hne:rs≠[]:=fun z=>by rw[z]at hi;simp at hi
 have bi:=hb _ (ZR (i:=i) hne);have bj:=hb _ (ZR (i:=j) hne);have bk:=hb _ (ZR (i:=k) hne);unfold tri;simp![F_balance,Zdf,ZqZ];refine ZrT (xs:=[.int i,.int j,.int k]) (fun ρ=>∃x,ρ=[x,some (.ref n)]) (fun c=>pr (cy rs ([(i:Int),j,k].getD c 0)).1 (cy rs ([(i:Int),j,k].getD c 0)).2) (by simp) (by simp[cnt]) ⟨_,rfl⟩ (fun L c hc=>rfl) ?_ ?_
 ·rintro c hc ρ L ⟨x,rfl⟩;have hm:(M++L)[n]?=some (.lst (prs rs)):=by rw[ae hn];exact h
  obtain⟨z,hz,ez,eg⟩:∃z:Nat,z<rs.length/\[D.int (i:Int),D.int (j:Int),D.int (k:Int)][c]=D.int (z:Int)/\[(i:Int),j,k].getD c 0=(z:Int):=by
   match c,hc with
   |0,_=>exact⟨i,hi,rfl,rfl⟩
   |1,_=>exact⟨j,hj,rfl,rfl⟩
   |2,_=>exact⟨k,hk,rfl,rfl⟩
  rw[ez,eg];simp![hm,ZbG];exact⟨_,rfl⟩
 ·have e:(aL [D.int (i:Int),D.int (j:Int),D.int (k:Int)].length).map (fun c=>pr (cy rs ([(i:Int),j,k].getD c 0)).1 (cy rs ([(i:Int),j,k].getD c 0)).2)=[pr (cy rs i).1 (cy rs i).2,pr (cy rs j).1 (cy rs j).2,pr (cy rs k).1 (cy rs k).2]:=rfl;rw[e];simp![Zu7,ZqY,ZnO,Zot bi,Zot bj,Zot bk];have ei:Zbf [D.int (X (cy rs j) (cy rs k)),D.int (X (cy rs k) (cy rs i)),D.int (X (cy rs i) (cy rs j))]=some (bal rs i j k):=rfl;have em:(bal rs i j k).min?=some (min (min (X (cy rs j) (cy rs k)) (X (cy rs k) (cy rs i))) (X (cy rs i) (cy rs j))):=rfl;have en:[D.int (X (cy rs j) (cy rs k)),D.int (X (cy rs k) (cy rs i)),D.int (X (cy rs i) (cy rs j))]=nts (bal rs i j k):=rfl;have nn:Nn (bal rs i j k)↔0<=min (min (X (cy rs j) (cy rs k)) (X (cy rs k) (cy rs i))) (X (cy rs i) (cy rs j)):=by
   simp only[Nn,bal,ah,bw,or_false,forall_eq_or_imp,forall_eq];lia
  simp![ZrS,ZrR,ei,em];refine brO (fun c=>?_) (fun c=>?_)
  ·simp![Zo];exact q1 _ _ (nn.mpr c) Kp.app (by simp) (by rw[<-en];simp)
  ·simp![Zo];exact q2 _ (fun z=>c (nn.mp z)) Kp.app
def Bl(rs:List Pt)(ws:List Int)(i j k:Nat):Prop:=Nn (bal rs i j k)/\X (cy rs j) (cy rs k)*cn ws i+X (cy rs k) (cy rs i)*cn ws j+X (cy rs i) (cy rs j)*cn ws k<0
def whl(B:Nat)(hs:List Rat):List Int:=hs.map (stc B)
def wts(rs:List Pt)(i j k:Nat):List Int:=(((aH rs.length 0).set i (X (cy rs j) (cy rs k))).set j (X (cy rs k) (cy rs i))).set k (X (cy rs i) (cy rs j))
theorem ZjQ:(whl B hs).length=hs.length:=ay _
theorem Zrt(h:i<hs.length):cn (whl B hs) i=stc B (cq hs i):=by
 unfold cn whl;rw[show((i:Int)%((hs.map (stc B)).length:Int)).toNat=i by rw[ay,cS (by lia) (by lia)];simp,ZaC h]
 simp[h]
theorem Zn7{F:Nat->Int}(h1:ts.length=n)(h:∀i<n,F i=cn ts i):(aL n).map (fun(i:Nat)=>D.int (F i))=nts ts:=by
 refine gU (by simp[ZdZ,h1]) fun i h2 h3=>?_
 rw[CN.ZnT h3];simp at h2;simp[h i h2]
theorem Zn8:(nts l).set i (.int v)=nts (l.set i v):=by simp[nts]
def Em(rs:List Pt)(ws:List Int)(d:D)(M:Sto):Prop:=(d=.non/\∀i j k,i<j->j<k->k<rs.length->¬Bl rs ws i j k)\/∃i j k o,i<j/\j<k/\k<rs.length/\Bl rs ws i j k/\d=.ref o/\M[o]?=some (.lst (nts (wts rs i j k)))
def Zru(F9:W3):Sv:=(Zx (ZG (gNm 2) (Zj F_common_bottom (Zc (Zg 1) aNil))) (Zx (ZG (gNm 3) (Zbe (iSq (Zg 1)) 1 [2] (gNm 0) (fun _ M=>.ok true M) (Zj F_stretched (Zc (Zg 0) (Zc (Zg 1) aNil))))) (Zx (ZeD (gNm 4) (Zj F9 (Zc (Zj bLen (Zc (Zg 0) aNil)) aNil)) Zaw) (Z1 (eC .non)))))
theorem Zhe(te:∀(n:Nat)(M:Sto),n<=31->F9 [.int n] M=.ok (.ref M.length) (M++[SO.lst (t1 n n)]))(h:M[n]?=some (.lst (prs rs)))(hb:Nr B rs)(hne:rs≠[])(hl:rs.length<=31)(h':M[m]?=some (.lst (rts hs)))(e:hs.length=rs.length)(hz:∀x∈hs,Sz l x)(hk:l<=4000)(q:∀d M',Em rs (whl (ZcL hs) hs) d M'->(∀o,d=.ref o->M.length<=o)->Kp M M'->Q d M')(hB:B<=400:=by first|decide|assumption):wO (fnF (Zru F9) 2 7 [.ref n,.ref m] M) Q E:=by
 have hn:=Zs h;have hm:=Zs h';have lb:=ZfL (xs:=hs) hz;have lb2:hs.length*l+1<=50000000:=by
  have:=cB (show hs.length<=31 by lia) hk
  lia
 simp![Zru,ZgK h' (by lia) hz (by lia)]
 generalize hBB:((ZcL hs:Nat):Int)=B9;refine ZrU (fun ρ=>∃x,ρ=[x,some (.int B9)]) (fun c=>.int (stc (ZcL hs) (cq hs c))) h' (by rw[ZA];lia) ⟨_,rfl⟩ ?_ ?_
 ·rintro c hc ρ L ⟨x,rfl⟩;rw[Zbp];have sw:∀{Q:W0}{E:W2}{M:Sto},wO (F_stretched [rt (cq hs c),.int B9] M) Q E=Q (.int (stc (ZcL hs) (cq hs c))) M:=by
   intro Q E M;rw[<-hBB];exact ZbV (ZaG (i:=c) hz (by have:=bK.mpr hne;lia)) (by lia) lb lb2
  simp![sw];exact⟨_,rfl⟩
 rw[ZA,Zn7 (ts:=whl (ZcL hs) hs) ZjQ (fun i hi=>(Zrt hi).symm)];generalize hw:whl (ZcL hs) hs=ws at *;clear hBB;have lw:ws.length=rs.length:=by rw[<-hw,ZjQ,e]
 have K1:Kp M (M++[SO.lst (nts ws)]):=Kp.app;have r1:(M++[SO.lst (nts ws)])[M.length]?=some (.lst (nts ws)):=by simp
 have h1:=K1.get h;simp![h1];rw[te _ _ hl];show wS (Zkq _ _ _ _ _) _ _ _ _ _;have K2:Kp M (M++[SO.lst (nts ws)]++[SO.lst (t1 rs.length rs.length)]):=by rw[d6];exact Kp.app
 have r2:(M++[SO.lst (nts ws)]++[SO.lst (t1 rs.length rs.length)])[M.length]?=some (.lst (nts ws)):=by simp
 have r3:(M++[SO.lst (nts ws)]++[SO.lst (t1 rs.length rs.length)])[(M++[SO.lst (nts ws)]).length]?=some (.lst (t1 rs.length rs.length)):=by simp
 have hlt:=Zs r3;generalize M++[SO.lst (nts ws)]++[SO.lst (t1 rs.length rs.length)]=M2 at *;have o2lt:M.length<(M++[SO.lst (nts ws)]).length:=by simp
 generalize (M++[SO.lst (nts ws)]).length=o2 at *;refine Zaz (xs:=t1 rs.length rs.length) (fun c ρ M'=>Kp M2 M'/\(∃x4 x5 x6 x7 x8,ρ=[some (.ref n),some (.ref m),some (.int B9),some (.ref M.length),x4,x5,x6,x7,x8])/\∀i j k,i<j->j<k->k<rs.length->tri i j k∈(t1 rs.length rs.length).take c->¬Bl rs ws i j k) r3 ⟨Kp.refl,⟨_,_,_,_,_,rfl⟩,fun i j k _ _ _ z=>(by simp at z)⟩ (fun c ρ M' hI=>hI.1.get r3) ?_ ?_
 ·rintro c ρ M3 hc ⟨K3,⟨x4,x5,x6,x7,x8,rfl⟩,hI⟩;obtain⟨i,j,k,ij,jk,kn,et⟩:=Zl6.mp (bQ hc);have tk:(t1 rs.length rs.length).take (c+1)=(t1 rs.length rs.length).take c++[tri i j k]:=by rw[aV hc,et]
  rw[et];have hp:=(K2.trans K3).get h;have inj:∀a b d,tri a b d=tri i j k->a=i/\b=j/\d=k:=fun a b d z=>by
   simp only[tri,D.tup.injEq,fW,D.int.injEq,and_true]at z;lia
  have nx:¬Bl rs ws i j k->∀a b d,a<b->b<d->d<rs.length->tri a b d∈(t1 rs.length rs.length).take (c+1)->¬Bl rs ws a b d:=fun nb a b d h1 h2 h3 hm=>by
   rw[tk]at hm;rcases bq.mp hm with z|z
   ·exact hI a b d h1 h2 h3 z
   ·simp at z;obtain⟨rfl,rfl,rfl⟩:=inj a b d z;exact nb
  simp![Zaw];refine ZjP hp hb (by lia) (by lia) kn (fun o M4 nn K4 lo ro=>?_) (fun M4 nn K4=>?_)
  ·have ho:=Zs ro;have r4:=(K3.trans K4).get r2;have h4:=K4.get hp;have bi:=hb _ (ZR (i:=i) hne);have bj:=hb _ (ZR (i:=j) hne);have bk:=hb _ (ZR (i:=k) hne);have x1:=ZjA bj bk;have x2:=ZjA bk bi;have x3:=ZjA bi bj;simp![Zu8];refine⟨o,_,rfl,?_⟩;refine Zwq (fun ρ=>∃x y,ρ=[x,y,some (.ref M.length)]) (fun c=>.int ((bal rs i j k).getD c 0*cn ws (([(i:Int),j,k]).getD c 0))) ro (by simp[nts,bal,tri]) (by simp) ⟨_,_,rfl⟩ ?_ ?_
   ·rintro c hc ρ L ⟨x,y,rfl⟩;have hm4:(M4++L)[M.length]?=some (.lst (nts ws)):=(Kp.app (L:=L)).get r4;obtain⟨z,a,hz',ez,eg,ea,eb,al⟩:∃(z:Nat) (a:Int),z<rs.length/\[D.int (i:Int),D.int (j:Int),D.int (k:Int)][c]=D.int (z:Int)/\[(i:Int),j,k].getD c 0=(z:Int)/\(nts (bal rs i j k))[c]'(by simp[nts,bal];simpa using hc)=.int a/\(bal rs i j k).getD c 0=a/\a.natAbs<2^19:=by
     match c,hc with
     |0,_=>exact⟨i,_,by lia,rfl,rfl,rfl,rfl,x1⟩
     |1,_=>exact⟨j,_,by lia,rfl,rfl,rfl,rfl,x2⟩
     |2,_=>exact⟨k,_,kn,rfl,rfl,rfl,rfl,x3⟩
    rw[ez,ea,eg,eb];simp![hm4,Zi9];exact⟨_,_,rfl⟩
   ·have e3:(aL [D.int (i:Int),D.int (j:Int),D.int (k:Int)].length).map (fun c=>D.int ((bal rs i j k).getD c 0*cn ws (([(i:Int),j,k]).getD c 0)))=[D.int (X (cy rs j) (cy rs k)*cn ws i),D.int (X (cy rs k) (cy rs i)*cn ws j),D.int (X (cy rs i) (cy rs j)*cn ws k)]:=rfl;rw[e3];have ei:Zbf [D.int (X (cy rs j) (cy rs k)*cn ws i),D.int (X (cy rs k) (cy rs i)*cn ws j),D.int (X (cy rs i) (cy rs j)*cn ws k)]=some [X (cy rs j) (cy rs k)*cn ws i,X (cy rs k) (cy rs i)*cn ws j,X (cy rs i) (cy rs j)*cn ws k]:=rfl;have es:Zsu [X (cy rs j) (cy rs k)*cn ws i,X (cy rs k) (cy rs i)*cn ws j,X (cy rs i) (cy rs j)*cn ws k]=some (X (cy rs j) (cy rs k)*cn ws i+X (cy rs k) (cy rs i)*cn ws j+X (cy rs i) (cy rs j)*cn ws k):=by
     show some _=some _;congr 1;simp;lia
    simp![ZrS,ZrR,ei,es];refine brS (fun c3=>?_) (fun c3=>?_)
    ·have K5:Kp M4 (M4++[SO.lst [D.int (X (cy rs j) (cy rs k)*cn ws i),D.int (X (cy rs k) (cy rs i)*cn ws j),D.int (X (cy rs i) (cy rs j)*cn ws k)]]):=Kp.app;simp![Zo];generalize M4++[SO.lst [D.int (X (cy rs j) (cy rs k)*cn ws i),D.int (X (cy rs k) (cy rs i)*cn ws j),D.int (X (cy rs i) (cy rs j)*cn ws k)]]=M5 at *;have h5:=K5.get h4;refine ZrU (fun ρ=>∃x,ρ=[x]) (fun c=>.int 0) h5 (by rw[ZI];lia) ⟨_,rfl⟩ ?_ ?_
     ·rintro c hc ρ L ⟨x,rfl⟩;simp![Zo];exact⟨_,rfl⟩
     rw[ZI];have e0:(aL rs.length).map (fun _=>D.int 0)=nts (aH rs.length 0):=by simp[nts,List.map_const']
     rw[e0];have K6:=K5.trans (Kp.app (L:=[SO.lst (nts (aH rs.length 0))]));have r6:(M5++[SO.lst (nts (aH rs.length 0))])[M5.length]?=some (.lst (nts (aH rs.length 0))):=by simp
     have lM5:=K5.1;generalize M5++[SO.lst (nts (aH rs.length 0))]=M6 at *;generalize M5.length=o6 at *;have ro6:=K6.get ro;simp![Zu8];refine⟨o,_,rfl,?_⟩;have ne6:o6≠o:=by lia
     refine ZnP (fun c ρ M'=>Kp M4 M'/\M'[o]?=some (.lst (nts (bal rs i j k)))/\(∃x7 x8,ρ=[some (.ref n),some (.ref m),some (.int B9),some (.ref M.length),some (tri i j k),some (.ref o),some (.ref o6),x7,x8])/\∃us:List Int,us.length=rs.length/\M'[o6]?=some (.lst (nts us))/\us=[aH rs.length 0,(aH rs.length 0).set i (X (cy rs j) (cy rs k)),((aH rs.length 0).set i (X (cy rs j) (cy rs k))).set j (X (cy rs k) (cy rs i)),wts rs i j k].getD c []) ro6 (by simp[nts,bal,tri]) ⟨K6,ro6,⟨_,_,rfl⟩,_,by simp,r6,rfl⟩ (fun c ρ M' hI=>hI.2.1) ?_ ?_
     ·rintro c ρ M7 hc ⟨K7,ro7,⟨x7,x8,rfl⟩,us,lu,ru,eu⟩;have hlu:=Zs ru;obtain⟨z,a,hz',ez,ea,eu2⟩:∃(z:Nat) (a:Int),z<rs.length/\[D.int (i:Int),D.int (j:Int),D.int (k:Int)][c]=D.int (z:Int)/\(nts (bal rs i j k))[c]'(by simp[nts,bal];simpa using hc)=.int a/\us.set z a=[aH rs.length 0,(aH rs.length 0).set i (X (cy rs j) (cy rs k)),((aH rs.length 0).set i (X (cy rs j) (cy rs k))).set j (X (cy rs k) (cy rs i)),wts rs i j k].getD (c+1) []:=by
       match c,hc with
       |0,_=>exact⟨i,_,by lia,rfl,rfl,by rw[eu];rfl⟩
       |1,_=>exact⟨j,_,by lia,rfl,rfl,by rw[eu];rfl⟩
       |2,_=>exact⟨k,_,kn,rfl,rfl,by rw[eu];rfl⟩
      rw[ez,ea];have ix:ixN us.length (z:Int)=some z:=ZcY (by lia)
      simp![Za7,ru,ix,Zn8];refine⟨K7.set (by lia),?_,⟨_,_,rfl⟩,us.set z a,by simp[lu],?_,eu2⟩
      ·first|exact ro7|(rw[aE ne6];exact ro7)
      ·first|rfl|rw[aF hlu]
     ·rintro ρ M7 ⟨K7,ro7,⟨x7,x8,rfl⟩,us,lu,ru,eu⟩;simp![Zo];refine q _ _ (.inr ⟨i,j,k,o6,ij,jk,kn,⟨nn,c3⟩,rfl,?_⟩) (fun o z=>by cases z;have:=K2.1;have:=K3.1;have:=K4.1;lia) (((K2.trans K3).trans K4).trans K7)
      rw[ru,eu];rfl
    ·simp![Zo];exact⟨(K3.trans K4).trans Kp.app,⟨_,_,_,_,_,rfl⟩,nx fun z=>c3 z.2⟩
  ·simp![Zo];exact⟨K3.trans K4,⟨_,_,_,_,_,rfl⟩,nx fun z=>nn z.1⟩
 ·rintro ρ M3 ⟨K3,⟨x4,x5,x6,x7,x8,rfl⟩,hI⟩;simp![Zo];exact q _ _ (.inl ⟨rfl,fun i j k h1 h2 h3=>hI i j k h1 h2 h3 (by rw[cZ];exact Zl6.mpr ⟨i,j,k,h1,h2,h3,rfl⟩)⟩) (fun o z=>by cases z) (K2.trans K3)
theorem Zhf(h:M[n]?=some (.lst (prs rs)))(hb:Nr B rs)(hne:rs≠[])(hl:rs.length<=31)(h':M[m]?=some (.lst (rts hs)))(e:hs.length=rs.length)(hz:∀x∈hs,Sz l x)(hk:l<=4000)(q:∀d M',Em rs (whl (ZcL hs) hs) d M'->(∀o,d=.ref o->M.length<=o)->Kp M M'->Q d M')(hB:B<=400:=by first|decide|assumption):wO (F_emptying [.ref n,.ref m] M) Q E:=Zhe (F9:=F_threes) (fun n M h=>ZjO h) h hb hne hl h' e hz hk q
theorem Za8:(hts rs ms).length=rs.length:=ay _
theorem Zrv(hne:ms≠[])(hb:Nr B rs)(hz:∀x∈ms,Sz k x.1/\Sz k x.2)(hB:B<=400:=by first|decide|assumption):∀x∈hts rs ms,Sz (2*k+21) x:=by
 intro x hx;obtain⟨r,hr,rfl⟩:=cf.mp hx
 have:=CD.Zcq (xs:=ms.map fun m=>0-slp m r) (by simpa using hne)
 obtain⟨m,hm,e⟩:=cf.mp this;rw[<-e]
 have:=CS.ZdB (CS.ZX (z:=0) (k:=1) (by decide) (by decide)) (CD.ZfH (hz m hm).1 (hz m hm).2 (hb r hr))
 exact Zjp this (by lia)
theorem Ze8(h:M[n]?=some (.lst (prs rs)))(hs':Smo rs)(hb:Nr B rs)(hl:rs.length<=31)(h':M[m]?=some (.lst (rts hs)))(e:hs.length=rs.length)(hz:∀x∈hs,Sz l x)(hk:l<=300)(qn:∀d M',(∀p,¬Cor rs hs p)->Em rs (whl (ZcL hs) hs) d M'->(∀o,d=.ref o->M.length<=o)->Kp M M'->Q (.tup [.str (PySem.Str.ofString "none"),d]) M')(qp:∀ms a b M',Bod rs hs ms->ms≠[]->(∀p∈ms,Sz (4*l+61) p.1/\Sz (4*l+61) p.2)->Kp M M'->M.length<=a->M.length<=b->M'[a]?=some (.lst (rts (hts rs ms)))->M'[b]?=some (.lst (rts (Zfc hs (hts rs ms))))->a≠b->Q (.tup [.str (PySem.Str.ofString "parted"),.ref a,.ref b]) M')(hB:B<=400:=by first|decide|assumption):wO (F_parting [.ref n,.ref m] M) Q E:=by
 have hn:=Zs h;have hm:=Zs h';simp![F_parting,Zdg];refine Zro h hs' hb hl h' e hz (by lia) fun ms o M1 bo zp lm K1 lo ro=>?_
 have eq0:eqF 12 (M1++[SO.lst []]) (.ref o) (.ref M1.length)=some (decide (ms=[])):=by
  have a1:=(Kp.app (L:=[SO.lst []])).get ro;rw[Zja a1 (show(M1++[SO.lst []])[M1.length]?=some (.lst [])by simp)]
  cases ms with
  |nil=>rfl
  |cons a r=>rfl
 simp![eq0];have K2:Kp M (M1++[SO.lst []]):=K1.trans Kp.app;refine brS (fun c=>?_) (fun c=>?_)
 ·simp![Zo];refine Zhf (K2.get h) hb hs'.ne hl (K2.get h') e hz (by lia) fun d M3 em on K3=>?_
  simp![Zo];exact qn d M3 (fun p hp=>by have:=(bo.1 p).mpr hp;rw[c]at this;cases this) em (fun o z=>aU K2.1 (on o z)) (K2.trans K3)
 ·simp![Zo];refine CD.ZfI (K2.get h) hs' hb (by lia) ((Kp.app (L:=[SO.lst []])).get ro) c (by lia) zp (by lia) fun M3 K3 r3=>?_
  simp![Zo];rw[show(M1++[SO.lst []]).length=M1.length+1 by simp]at r3
  have K4:=K2.trans K3;have hsz:=Zrv (rs:=rs) c hb zp;have l0:0<rs.length:=bK.mpr hs'.ne;refine ZtP (u:=hs) (v:=hts rs ms) (N:=rs.length) (zs:=Zfc hs (hts rs ms)) (K4.get h') r3 e Za8 (by lia) (Zcc e Za8) (fun i hi L=>?_) ?_
  ·simp![Zd6 (ZaG (i:=i) hz (by lia)) (ZaG (i:=i) hsz (by rw[Za8];lia)) (by lia)]
   rw[ZgC e Za8 hi]
  ·simp![Zo];have lM:=K4.1;have l3:=Zs r3;have l2:=K2.1;exact qp ms _ _ _ bo c zp (K4.trans Kp.app) (by have:=K1.1;lia) (by lia) ((Kp.app (L:=[SO.lst (rts (Zfc hs (hts rs ms)))])).get r3) (by simp) (by lia)
end
end PT
namespace PT
open L2 DL
open CN (cq)
open CS (slp)
open TW
open Rb BD
end PT
namespace Rb
open L2 DL
open CN CU CV CS
open CD (hts mxr Zjs ZgE Zcq)
section
variable {ms:List RP}{i:Nat}
theorem ZjR(hi:i<rs.length):cq (hts rs ms) i=mxr (ms.map fun m=>0-slp m (cy rs i)):=by
 rw[ZaC (by simpa [hts]using hi),Ze3 hi]
 simp[hts]
theorem ZjS(hi:i<rs.length)(h1:∃m∈ms,0-slp m (cy rs i)=g)(h2:∀m∈ms,0-slp m (cy rs i)<=g):cq (hts rs ms) i=g:=by
 rw[ZjR hi];refine Zjs ?_ fun x hx=>?_
 ·obtain⟨m,hm,e⟩:=h1;exact cf.mpr ⟨m,hm,e⟩
 ·obtain⟨m,hm,rfl⟩:=cf.mp hx;exact h2 m hm
theorem ZfM(hi:i<rs.length)(ne:ms≠[]):∃m∈ms,0-slp m (cy rs i)=cq (hts rs ms) i:=by
 rw[ZjR hi];obtain⟨m,hm,e⟩:=cf.mp (Zcq (xs:=ms.map fun m=>0-slp m (cy rs i)) (by simpa using ne))
 exact⟨m,hm,e⟩
theorem ZjT(hi:i<rs.length)(hm:m∈ms):0-slp m (cy rs i)<=cq (hts rs ms) i:=by
 rw[ZjR hi];exact ZgE (cf.mpr ⟨m,hm,rfl⟩)
theorem ZgP(hi:i<rs.length)(ne:ms≠[])(h:∀p∈ms,Cor rs hs p):cq (hts rs ms) i<=cq hs i:=by
 obtain⟨m,hm,e⟩:=ZfM (rs:=rs) hi ne
 have:=(h m hm).1 i hi
 grind
noncomputable def mv(p v:RP):RP:=(p.1+v.1,p.2+v.2)
noncomputable def st(k:Rat)(p:RP):RP:=(k*p.1,k*p.2)
theorem Zrw{c:Int}(hx:CR.Sz a x)(hc:c.natAbs<2^17)(h0:c≠0):CR.Sz (a+17) (x/(c:Rat)):=by
 have nz:(c:Rat)≠0:=fun z=>h0 (dg.mp z);have e1:=BD.Zcd (a:=x) nz;obtain⟨g,hg,gs⟩:∃g:Int,(c.natAbs:Int)=g*c/\(g=1\/g= -1):=by
  by_cases z:0<c
  ·exact⟨1,by lia,.inl rfl⟩
  ·exact⟨-1,by lia,.inr rfl⟩
 have e2:((c.natAbs:Nat):Rat)=(g:Rat)*(c:Rat):=by rw[<-bL,hg,a8]
 have n0:x.den*c.natAbs≠0:=eU x.den_nz (by lia)
 have ee:((g*x.num:Int):Rat)=x/(c:Rat)*((x.den*c.natAbs:Nat):Rat):=by
  rw[a8,BD.ZdC x,ik,e2];generalize x/(c:Rat)=t at *;grind
 rw[<-BD.Zdb n0 ee];refine CR.ZbS _ ?_ (CR.Zab hx.2 hc)
 have:(g*x.num).natAbs=x.num.natAbs:=by rcases gs with rfl|rfl<;>lia
 rw[this];exact aj hx.1 (aY (by decide) (by lia))
theorem Zhg(hb:Nr 200 rs)(hn:rs≠[])(hh:hs.length≠0)(hz:∀x∈hs,CR.Sz l x)(hr:(-200<=r.1/\r.1<=200)/\ -200<=r.2/\r.2<=200)(c:Cor rs hs p):CR.Sz (2*l+52) (0-slp p r):=by
 obtain⟨_,a,b,oa,ob,x⟩:=c;have t:=ZgO p (cy rs a) (cy rs b) r;rw[oa.2,ob.2]at t;have ba:=hb _ (ZR (i:=a) hn);have bb:=hb _ (ZR (i:=b) hn);have nz:((X (cy rs a) (cy rs b):Int):Rat)≠0:=fun z=>x (dg.mp z);have e1:=BD.Zcd (a:=(X r (cy rs b):Rat)*cq hs a+(X (cy rs a) r:Rat)*cq hs b) nz;have e:0-slp p r=((X r (cy rs b):Rat)*cq hs a+(X (cy rs a) r:Rat)*cq hs b)/(X (cy rs a) (cy rs b):Rat):=by
  generalize ((X r (cy rs b):Rat)*cq hs a+(X (cy rs a) r:Rat)*cq hs b)/(X (cy rs a) (cy rs b):Rat)=w at *;grind
 rw[e];have l1:=CR.Z2 (ZX (BD.Zos hr bb) (by decide)) (ZaG (i:=a) hz hh)
 have l2:=CR.Z2 (ZX (BD.Zos ba hr) (by decide)) (ZaG (i:=b) hz hh)
 have:=Zrw (CR.Zc6 l1 l2) (BD.Zos ba bb) x
 rw[show 17+l+(17+l)+1+17=2*l+52 by lia]at this
 exact this
theorem Zlb(hb:Nr 200 rs)(hn:rs≠[])(hh:hs.length≠0)(hz:∀x∈hs,CR.Sz l x)(ne:ms≠[])(h:∀p∈ms,Cor rs hs p):∀x∈hts rs ms,CR.Sz (2*l+52) x:=by
 intro x hx;obtain⟨r,hr,rfl⟩:=cf.mp hx;obtain⟨m,hm,e⟩:=cf.mp (Zcq (xs:=ms.map fun m=>0-slp m r) (by simpa using ne))
 rw[<-e];exact Zhg hb hn hh hz (hb r hr) (h m hm)
end
end Rb
namespace Rb
open L2 DL
open CN CU CV CS
open CD (hts mxr Zjs ZgE Zcq)
section
variable {rs:List Pt}
theorem Zlc(hm:∀p,p∈ms↔Cor rs hs p)(w:Win rs hs p)(os:On rs hs p s)(ot:On rs hs p t)(st:0<X (cy rs s) (cy rs t))(hk:k<rs.length)(h1:0<=X (cy rs k) (cy rs t))(h2:0<=X (cy rs s) (cy rs k)):cq (hts rs ms) k=0-slp p (cy rs k):=by
 have c:Cor rs hs p:=⟨w,s,t,os,ot,by lia⟩
 refine ZjS hk ⟨p,(hm p).mpr c,rfl⟩ fun m hm'=>?_
 have:=Zt1 os ot st h1 h2 ((hm m).mp hm').1
 grind
theorem ZgQ(ne:ms≠[])(hm:∀p,p∈ms↔Cor rs hs p)(c:Cor rs hs p)(o:On rs hs p i):cq (hts rs ms) i=cq hs i:=by
 have a:=ZgP o.1 ne (fun p hp=>(hm p).mp hp);have b:=ZjT o.1 ((hm p).mpr c);rw[o.2]at b;grind
theorem ZgR(h:Smo rs)(p:RP)(z:Int):slp p (cy rs (z-1))+slp p (cy rs (z+1))+(T rs z:Rat)*slp p (cy rs z)=0:=by
 have o1:=h.one (z-1);have o2:=h.one z;rw[show z-1+1=z by lia]at o1
 have t:=ZgO p (cy rs (z-1)) (cy rs (z+1)) (cy rs z);rw[o1,o2]at t;unfold T;rw[f7];have c0:((0:Int):Rat)=0:=rfl;have c1:((1:Int):Rat)=1:=rfl;rw[c1]at t;rw[c0];grind
theorem plu(a b c d:Pt):X a b*X c d-X a c*X b d+X a d*X b c=0:=by unfold X;grind
theorem ZrV(a b:Pt):X a b= - X b a:=by unfold X;grind
theorem Zn9(h:Smo rs){s:Nat}(hk:k<rs.length)(ht:t<rs.length)(st:0<X (cy rs s) (cy rs t))(h2:0<=X (cy rs s) (cy rs k))(h1:0<=X (cy rs k) (cy rs t))(ne:k≠t):0<X (cy rs k) (cy rs t):=by
 by_cases z:X (cy rs k) (cy rs t)=0
 ·exfalso;have q:=plu (cy rs s) (cy rs k) (cy rs (k+1)) (cy rs t);rw[h.one,z]at q;have n:X (cy rs (k+1)) (cy rs t)<0:=by
   rcases fE (X (cy rs (k+1)) (cy rs t)) 0 with c|c
   ·exact c
   ·have:=aZ h2 c
    lia
  exact Zn6 h hk ht ne (by lia) (by rw[ZrV];lia)
 ·lia
theorem Zt5(h:Smo rs)(hk:k<rs.length)(ht:t<rs.length)(hs':s<rs.length)(st:0<X (cy rs s) (cy rs t))(h2:0<=X (cy rs s) (cy rs k))(h1:0<=X (cy rs k) (cy rs t))(ne:k≠s):0<X (cy rs s) (cy rs k):=by
 by_cases z:X (cy rs s) (cy rs k)=0
 ·exfalso;have nt:k≠t:=fun e=>by rw[e]at z;lia
  have kt:=Zn9 h hk ht st h2 h1 nt;have q:=plu (cy rs s) (cy rs (s+1)) (cy rs k) (cy rs t);rw[h.one,z]at q;have n:X (cy rs (s+1)) (cy rs k)<0:=by
   rcases fE (X (cy rs (s+1)) (cy rs k)) 0 with c|c
   ·exact c
   ·have:=aZ (gL st) c
    lia
  exact Zn6 h hs' hk (fun e=>ne e.symm) (by lia) (by rw[ZrV];lia)
 ·lia
theorem Zrx(h:Smo rs){s:Nat}(hk:k<rs.length)(ht:t<rs.length)(st:0<X (cy rs s) (cy rs t))(h2:0<=X (cy rs s) (cy rs k))(h1:0<X (cy rs k) (cy rs t)):0<X (cy rs s) (cy rs (k+1))/\0<=X (cy rs (k+1)) (cy rs t):=by
 have b:0<=X (cy rs (k+1)) (cy rs t):=by
  rcases fE (X (cy rs (k+1)) (cy rs t)) 0 with c|c
  ·exact(free h hk ht h1 (by rw[ZrV];lia)).elim
  ·exact c
 refine⟨?_,b⟩;have q:=plu (cy rs s) (cy rs k) (cy rs (k+1)) (cy rs t);rw[h.one]at q;have m:=aZ h2 b;rcases fE 0 (X (cy rs s) (cy rs (k+1)))with c|c
 ·exact c
 ·have:=aZ (show 0<= - X (cy rs s) (cy rs (k+1))by lia) (gL h1)
  rw[i9]at this;lia
theorem Zov(h:rs≠[]):∃j:Nat,j<rs.length/\(∀d:Int,cy rs (j+d)=cy rs (z+d))/\∀u:List Rat,u.length=rs.length->cq u j=cq u z:=by
 have l:0<rs.length:=bK.mpr h;have a:=bA z (show(0:Int)<rs.length by lia)
 have b:=bX z (show(rs.length:Int)≠0 by lia)
 refine⟨(z%rs.length).toNat,by lia,fun d=>?_,fun u hu=>?_⟩
 ·rw[fP b,<-Zb9,i8,Zb9]
 ·rw[fP b,<-hu,ZgA]
theorem Zt6(h:Smo rs){t k:Nat}(ez:cy rs (z+1)=cy rs k)(hs':s<rs.length)(st:0<X (cy rs s) (cy rs t))(h2:0<X (cy rs s) (cy rs k))(h1:0<=X (cy rs k) (cy rs t)):0<=X (cy rs s) (cy rs z)/\0<X (cy rs z) (cy rs t):=by
 obtain⟨j,hj,ed,_⟩:=Zov (rs:=rs) (z:=z) h.ne;have e1:cy rs ((j:Int)+1)=cy rs k:=by rw[<-ez,ed]
 have ej:=ed 0;rw[cT,cT]at ej;rw[<-ej];have b:0<=X (cy rs s) (cy rs j):=by
  rcases fE (X (cy rs s) (cy rs j)) 0 with c|c
  ·exact(free h hj hs' (by rw[ZrV];lia) (by rw[e1];exact h2)).elim
  ·exact c
 refine⟨b,?_⟩;have q:=plu (cy rs s) (cy rs j) (cy rs k) (cy rs t);have o:=h.one j;rw[e1]at o;rw[o]at q;have m:=aZ b h1;rcases fE 0 (X (cy rs j) (cy rs t))with c|c
 ·exact c
 ·have:=aZ (gL h2) (show 0<= - X (cy rs j) (cy rs t)by lia)
  rw[kH]at this;lia
theorem Ze9:(hts rs ms).length=rs.length:=ay _
theorem Zee(hm:∀p,p∈ms↔Cor rs hs p)(w:Win rs hs p)(os:On rs hs p s)(ot:On rs hs p t)(st:0<X (cy rs s) (cy rs t))(h1:0<=X (cy rs z) (cy rs t))(h2:0<=X (cy rs s) (cy rs z))(hn:rs≠[]):cq (hts rs ms) z=0-slp p (cy rs z):=by
 obtain⟨j,hj,ed,eq⟩:=Zov (rs:=rs) (z:=z) hn;have e0:=ed 0;rw[cT,cT]at e0;rw[<-eq _ Ze9,<-e0];rw[<-e0]at h1 h2;exact Zlc hm w os ot st hj h1 h2
theorem Zoa(h:Smo rs)(ne:ms≠[])(z:Int):0<=bnd rs (hts rs ms) z:=by
 obtain⟨j,hj,ed,eq⟩:=Zov (rs:=rs) (z:=z) h.ne;have e0:=ed 0;rw[cT,cT]at e0;obtain⟨m,hm,e⟩:=ZfM (rs:=rs) hj ne;rw[eq _ Ze9,e0]at e;have ge:∀y:Int,0-slp m (cy rs y)<=cq (hts rs ms) y:=fun y=>by
  obtain⟨j,hj,ed,eq⟩:=Zov (rs:=rs) (z:=y) h.ne;have e0:=ed 0;rw[cT,cT]at e0
  have:=ZjT hj hm
  rw[eq _ Ze9,e0]at this;exact this
 have g1:=ge (z-1);have g2:=ge (z+1);have b:=ZgR h m z;unfold bnd;rw[<-e];grind
theorem ZdG(h:Smo rs)(ne:ms≠[])(hm:∀p,p∈ms↔Cor rs hs p)(e:hs.length=rs.length)(st:cq (hts rs ms) z<cq hs z):∃p s t,Win rs hs p/\On rs hs p s/\On rs hs p t/\0<X (cy rs s) (cy rs t)/\0<X (cy rs s) (cy rs z)/\0<X (cy rs z) (cy rs t)/\0<=X (cy rs s) (cy rs (z-1))/\0<X (cy rs (z-1)) (cy rs t)/\0<=X (cy rs (z+1)) (cy rs t)/\0<X (cy rs s) (cy rs (z+1)):=by
 obtain⟨k,hk,ed,eq⟩:=Zov (rs:=rs) (z:=z) h.ne;have e0:=ed 0;have e1:=ed 1;rw[cT,cT]at e0;rw[<-eq _ Ze9,<-eq _ e]at st;obtain⟨p0,hp0⟩:=fH ms ne;obtain⟨p,s,t,w,os,ot,cn⟩:=wed h hk ((hm p0).mp hp0).1;have c:Cor rs hs p:=⟨w,s,t,os,ot,by have:=cn.st;lia⟩
 have off:∀a,On rs hs p a->k≠a:=fun a oa z=>by
  subst z;rw[ZgQ ne hm c oa]at st;grind
 have kt:=Zn9 h hk ot.1 cn.st cn.sr cn.rt (off t ot);have sk:=Zt5 h hk ot.1 os.1 cn.st cn.sr cn.rt (off s os);have l:=Zt6 (z:=z-1) (k:=k) h (by rw[show z-1+1=z by lia,e0]) os.1 cn.st sk cn.rt
 have r:=Zrx h hk ot.1 cn.st cn.sr kt;rw[e1]at r;rw[e0]at sk kt;exact⟨p,s,t,w,os,ot,cn.st,sk,kt,l.1,l.2,r.2,r.1⟩
theorem Zry(h:Smo rs)(ne:ms≠[])(hm:∀p,p∈ms↔Cor rs hs p)(e:hs.length=rs.length)(st:cq (hts rs ms) z<cq hs z):bnd rs (hts rs ms) z=0:=by
 obtain⟨p,s,t,w,os,ot,c,c1,c2,c3,c4,c5,c6⟩:=ZdG h ne hm e st;have b:=ZgR h p z;unfold bnd;rw[Zee hm w os ot c (by lia) (by lia) h.ne,Zee hm w os ot c c5 (by lia) h.ne,Zee hm w os ot c (by lia) (by lia) h.ne]
 grind
theorem run(h:Smo rs)(ne:ms≠[])(hm:∀p,p∈ms↔Cor rs hs p)(e:hs.length=rs.length)(st:∀j:Nat,1<=j->j<=m->cq (hts rs ms) (a+j)<cq hs (a+j)):∀j:Nat,j<=m->0<X (cy rs a) (cy rs (a+j+1)):=by
 by_cases m0:m=0
 ·intro j hj
  have:j=0:=by lia
  subst this;rw[show a+((0:Nat):Int)+1=a+1 by lia,h.one]
  decide
 ·have st1:=st 1 (by lia) (by lia)
  obtain⟨p,s,t,w,os,ot,c,c1,c2,c3,c4,c5,c6⟩:=ZdG h ne hm e st1;rw[show a+((1:Nat):Int)-1=a by lia]at c3 c4
  have cr:Cor rs hs p:=⟨w,s,t,os,ot,by lia⟩
  have main:∀j:Nat,j<=m->0<X (cy rs a) (cy rs (a+j+1))/\0<X (cy rs s) (cy rs (a+j+1))/\0<=X (cy rs (a+j+1)) (cy rs t):=by
   intro j
   induction j with
   |zero=>
    intro _;rw[show a+((0:Nat):Int)+1=a+((1:Nat):Int)by lia]
    refine⟨?_,c1,by lia⟩
    rw[show a+((1:Nat):Int)=a+1 by lia,h.one]
    decide
   |succ j ih=>
    intro hj;obtain⟨i1,i2,i3⟩:=ih (by lia)
    have sj:=st (j+1) (by lia) hj
    have ej:a+((j+1:Nat):Int)=a+j+1:=by lia
    rw[ej]at sj ⊢;obtain⟨k,hk,ed,eq⟩:=Zov (rs:=rs) (z:=a+j+1) h.ne;have e0:=ed 0;have e1:=ed 1;rw[cT,cT]at e0;rw[<-eq _ Ze9,<-eq _ e]at sj;have off:k≠t:=fun z=>by
     rw[z,ZgQ ne hm cr ot]at sj;grind
    rw[<-e0]at i2 i3 i1;have kt:=Zn9 h hk ot.1 c (by lia) i3 off
    have r:=Zrx h hk ot.1 c (by lia) kt
    rw[<-e1];refine⟨?_,r.1,r.2⟩;have q:=plu (cy rs a) (cy rs k) (cy rs (k+1)) (cy rs t);rw[h.one]at q;have m1:=aZ (gL i1) r.2;rcases fE 0 (X (cy rs a) (cy rs (k+1)))with g|g
    ·exact g
    ·have:=aZ (show 0<= - X (cy rs a) (cy rs (k+1))by lia) (gL kt)
     rw[i9]at this;lia
  exact fun j hj=>(main j hj).1
end
end Rb
namespace BA
section
variable (b:Nat->Int)(ad:Nat->Bool)(wr:Prop)[Decidable wr](w:Nat)
noncomputable def D:Nat->Int
 |0=>1
 |1=>b 0
 |k+2=>b (k+1)*D (k+1)-(if ad k=true then D k else 0)
noncomputable def F:Nat->Int
 |0=>0
 |1=>1
 |k+2=>b (k+1)*F (k+1)-(if ad k=true then F k else 0)
noncomputable def ch:Nat->Bool
 |0=>true
 |k+1=>ch k&&ad k
theorem Zvf(k:Nat):D b ad k*F b ad (k+1)-D b ad (k+1)*F b ad k=if ch ad k=true then 1 else 0:=by
 induction k with
 |zero=>simp[D,F,ch]
 |succ k ih=>
  simp only[D,F,ch];by_cases h:ad k=true
  ·simp only[h,lh,if_true];rw[<-ih];grind
  ·have h:ad k=false:=by simpa using h
   simp only[h,Bool.and_false,aQ,if_false];grind
noncomputable def A(i j:Nat):Int:=if i=j then b i else -(if i+1=j/\ad i=true then 1 else 0)-(if j+1=i/\ad j=true then 1 else 0)-(if wr/\(i=0/\j=w\/i=w/\j=0)then 1 else 0)
def e(k i j:Nat):Int:=D b ad k*A b ad wr w i j-(if 0<k/\i=k/\j=k/\ad (k-1)=true then D b ad (k-1)else 0)-(if wr/\0<k/\i=w/\j=w then F b ad k else 0)-(if wr/\0<k/\ch ad k=true/\k<w/\(i=k/\j=w\/i=w/\j=k)then 1 else 0)
theorem e_0(i j:Nat):e b ad wr w 0 i j=A b ad wr w i j:=by simp[e,D]
theorem D_s(k:Nat)(h:0<k):D b ad (k+1)=b k*D b ad k-(if ad (k-1)=true then D b ad (k-1)else 0):=by
 obtain⟨k,rfl⟩:∃j,k=j+1:=⟨k-1,by lia⟩
 rfl
theorem Zpd(k:Nat)(h:wr->k≠w):e b ad wr w k k k=D b ad (k+1):=by
 by_cases k0:k=0
 ·subst k0;simp[e,D,A]
 ·rw[D_s b ad k (by lia)]
  unfold e A;have n1:¬(wr/\0<k/\k=w/\k=w):=fun z=>h z.1 z.2.2.1;have n2:¬(wr/\0<k/\ch ad k=true/\k<w/\(k=k/\k=w\/k=w/\k=k)):=fun z=>by have:=z.2.2.2;lia
  rw[if_neg n1,if_neg n2,if_pos rfl];have e1:(0<k/\k=k/\k=k/\ad (k-1)=true)↔ad (k-1)=true:=⟨fun z=>z.2.2.2,fun z=>⟨by lia,rfl,rfl,z⟩⟩
  simp only[e1];grind
noncomputable def iv(p:Prop)[Decidable p]:Int:=if p then 1 else 0
theorem Zrz{i j:Nat}(h:i≠j):A b ad wr w i j= -(iv (i+1=j/\ad i=true))-iv (j+1=i/\ad j=true)-iv (wr/\(i=0/\j=w\/i=w/\j=0)):=by
 unfold A iv;rw[if_neg h]
theorem Zvg{k i:Nat}(hi:k<i)(hw:i<=w):e b ad wr w k i k= -(D b ad k*iv (i=k+1/\ad k=true)+iv (wr/\i=w/\ch ad k=true)):=by
 unfold e;rw[Zrz b ad wr w (by lia),if_neg (show ¬(0<k/\i=k/\k=k/\ad (k-1)=true)by lia),if_neg (show ¬(wr/\0<k/\i=w/\k=w)by lia)]
 by_cases k0:k=0
 ·subst k0;simp only[D,ch,iv];by_cases h1:wr<;>by_cases h2:i=w<;>by_cases h3:i=0+1<;>by_cases h4:ad 0=true<;>simp[h1,h2,h3,h4]<;>lia
 ·have a1:iv (i+1=k/\ad i=true)=0:=if_neg (by lia)
  have a2:iv (wr/\(i=0/\k=w\/i=w/\k=0))=0:=if_neg (by lia)
  have a3:iv (k+1=i/\ad k=true)=iv (i=k+1/\ad k=true):=by simp only[iv,eq_comm]
  have a4:(if wr/\0<k/\ch ad k=true/\k<w/\(i=k/\k=w\/i=w/\k=k)then(1:Int)else 0)=iv (wr/\i=w/\ch ad k=true):=by
   unfold iv;by_cases h1:wr<;>by_cases h2:i=w<;>by_cases h3:ch ad k=true<;>simp[h1,h2,h3]<;>lia
  rw[a1,a2,a3,a4];grind
theorem Zt7(i j:Nat):A b ad wr w i j=A b ad wr w j i:=by
 unfold A;by_cases h:i=j
 ·subst h;rfl
 ·have h':¬j=i:=fun z=>h z.symm
  have:(wr/\(i=0/\j=w\/i=w/\j=0))↔(wr/\(j=0/\i=w\/j=w/\i=0)):=⟨fun z=>⟨z.1,by lia⟩,fun z=>⟨z.1,by lia⟩⟩
  simp only[this,h,h',if_false];lia
theorem Zt8(k i j:Nat):e b ad wr w k i j=e b ad wr w k j i:=by
 unfold e;rw[Zt7 b ad wr w i j];have h1:(0<k/\i=k/\j=k/\ad (k-1)=true)↔(0<k/\j=k/\i=k/\ad (k-1)=true):=⟨fun z=>⟨z.1,z.2.2.1,z.2.1,z.2.2.2⟩,fun z=>⟨z.1,z.2.2.1,z.2.1,z.2.2.2⟩⟩;have h2:(wr/\0<k/\i=w/\j=w)↔(wr/\0<k/\j=w/\i=w):=⟨fun z=>⟨z.1,z.2.1,z.2.2.2,z.2.2.1⟩,fun z=>⟨z.1,z.2.1,z.2.2.2,z.2.2.1⟩⟩;have h3:(wr/\0<k/\ch ad k=true/\k<w/\(i=k/\j=w\/i=w/\j=k))↔(wr/\0<k/\ch ad k=true/\k<w/\(j=k/\i=w\/j=w/\i=k)):=⟨fun z=>⟨z.1,z.2.1,z.2.2.1,z.2.2.2.1,by lia⟩,fun z=>⟨z.1,z.2.1,z.2.2.1,z.2.2.2.1,by lia⟩⟩
 simp only[h1,h2,h3]
theorem ZwC{k i j:Nat}(hi:k<i)(hj:k<j):e b ad wr w k i j=D b ad k*A b ad wr w i j-iv (wr/\i=w/\j=w)*F b ad k:=by
 unfold e;rw[if_neg (show ¬(0<k/\i=k/\j=k/\ad (k-1)=true)by lia),if_neg (show ¬(wr/\0<k/\ch ad k=true/\k<w/\(i=k/\j=w\/i=w/\j=k))by lia)]
 by_cases k0:k=0
 ·subst k0;simp[F]
 ·have:(wr/\0<k/\i=w/\j=w)↔(wr/\i=w/\j=w):=⟨fun z=>⟨z.1,z.2.2.1,z.2.2.2⟩,fun z=>⟨z.1,by lia,z.2.1,z.2.2⟩⟩
  simp only[this,iv]
  split<;>grind
theorem step{k i j:Nat}(hi:k<i)(hj:k<j)(hiw:i<=w)(hjw:j<=w)(hw:wr->ch ad w=false):D b ad (k+1)*e b ad wr w k i j-e b ad wr w k i k*e b ad wr w k k j=D b ad k*e b ad wr w (k+1) i j:=by
 rw[Zt8 b ad wr w k k j,Zvg b ad wr w hi hiw,Zvg b ad wr w hj hjw,ZwC b ad wr w hi hj];have wn:=Zvf b ad k;unfold e;rw[show k+1-1=k by lia]
 have h0:ch ad (k+1)=(ch ad k&&ad k):=rfl;rw[h0];generalize A b ad wr w i j=a;generalize D b ad (k+1)=d1 at *;generalize F b ad (k+1)=f1 at *;generalize D b ad k=d at *;generalize F b ad k=f at *;have hx:wr->k+1=w->ch ad k=true->ad k=true->False:=fun h1 h2 h3 h4=>by
  have:=hw h1
  rw[<-h2,h0,h3,h4]at this;cases this
 by_cases h1:wr<;>by_cases h2:ch ad k=true<;>by_cases h3:ad k=true<;>by_cases h4:i=k+1<;>by_cases h5:j=k+1<;>by_cases h6:i=w<;>by_cases h7:j=w<;>simp[iv,h1,h2,h3,h4,h5,h6,h7]at * <;>grind
end
open L2 DL
open Rb CN
section
variable {rs:List Pt}{St:Int->Prop}{pf:Nat->Nat}{m:Nat}
def Run(rs:List Pt)(St:Int->Prop):Prop:=∀(a:Int)(m:Nat),(∀j:Nat,1<=j->j<=m->St (a+j))->∀j:Nat,j<=m->0<X (cy rs a) (cy rs (a+j+1))
def bb(rs:List Pt)(z:Int):Int:=X (cy rs (z-1)) (cy rs (z+1))
theorem Zt9(h:Smo rs)(a z:Int):X (cy rs a) (cy rs (z+1))=bb rs z*X (cy rs a) (cy rs z)-X (cy rs a) (cy rs (z-1)):=by
 have q:=plu (cy rs a) (cy rs (z-1)) (cy rs z) (cy rs (z+1));have o1:=h.one (z-1);rw[show z-1+1=z by lia]at o1
 rw[h.one z,o1]at q;unfold bb;grind
abbrev bf(rs:List Pt)(pf:Nat->Nat)(k:Nat):Int:=bb rs (pf k)
noncomputable abbrev af(pf:Nat->Nat)(k:Nat):Bool:=decide (pf (k+1)=pf k+1)
structure Blk(rs:List Pt) (St:Int->Prop) (pf:Nat->Nat) (k s:Nat):Prop where
 lt:s<k
 pos:0<D (bf rs pf) (af pf) s
 all:∀z:Int,(pf s:Int)<=z->z<=pf (k-1)->St z
 le:pf s<=pf (k-1)
 d1:D (bf rs pf) (af pf) k=D (bf rs pf) (af pf) s*X (cy rs ((pf s:Int)-1)) (cy rs ((pf (k-1):Int)+1))
 d0:D (bf rs pf) (af pf) (k-1)=D (bf rs pf) (af pf) s*X (cy rs ((pf s:Int)-1)) (cy rs (pf (k-1)))
theorem Blk.up(h:Smo rs)(R:Run rs St)(B:Blk rs St pf k s):0<D (bf rs pf) (af pf) k:=by
 rw[B.d1];have l:=B.le
 have:=R ((pf s:Int)-1) (pf (k-1)-pf s+1) (fun j h1 h2=>B.all _ (by lia) (by lia)) (pf (k-1)-pf s+1) (ac _)
 rw[show(pf s:Int)-1+((pf (k-1)-pf s+1:Nat):Int)+1=(pf (k-1):Int)+1 by lia]at this
 exact jb B.pos this
theorem ZrA(h:Smo rs)(hp:0<D (bf rs pf) (af pf) k)(st:St (pf k))(e:D (bf rs pf) (af pf) (k+1)=bf rs pf k*D (bf rs pf) (af pf) k):Blk rs St pf (k+1) k:=by
 refine⟨by lia,hp,fun z h1 h2=>?_,ac _,?_,?_⟩
 ·rw[show k+1-1=k by lia]at h2
  rw[show z=pf k by lia]
  exact st
 ·rw[e,show k+1-1=k by lia,fC]
  rfl
 ·have o:=h.one ((pf k:Int)-1);rw[show(pf k:Int)-1+1=pf k by lia]at o
  rw[show k+1-1=k by lia,o,Int.mul_one]
theorem blk(h:Smo rs)(R:Run rs St)(st:∀k,k<m->St (pf k)):∀k,0<k->k<=m->∃s,Blk rs St pf k s:=by
 intro k
 induction k with
 |zero=>intro z;lia
 |succ k ih=>
  intro _ hk;by_cases k0:k=0
  ·subst k0;exact⟨0,ZrA h (by simp[D]) (st 0 (by lia)) (by simp[D])⟩
  ·obtain⟨s,B⟩:=ih (by lia) (by lia)
   have dp:=B.up h R;have ds:=D_s (bf rs pf) (af pf) k (by lia)
   by_cases c:pf (k-1+1)=pf (k-1)+1
   ·rw[if_pos (by simpa [af]using c)]at ds
    rw[show k-1+1=k by lia]at c
    have sk:=st k (by lia)
    have l:=B.le;have lt:=B.lt;refine⟨s,by lia,B.pos,fun z h1 h2=>?_,by rw[show k+1-1=k by lia];lia,?_,?_⟩
    ·rw[show k+1-1=k by lia]at h2
     rcases(show z<=pf (k-1)\/z=pf k by lia)with q|q
     ·exact B.all z h1 q
     ·rw[q];exact sk
    ·rw[ds,B.d1,B.d0,show k+1-1=k by lia,Zt9 h _ (pf k)]
     rw[show((pf k:Nat):Int)-1=pf (k-1)by lia,show((pf (k-1):Nat):Int)+1=pf k by lia]
     unfold bf;grind
    ·rw[show k+1-1=k by lia,B.d1,show((pf (k-1):Nat):Int)+1=pf k by lia]
   ·rw[if_neg (by simpa [af]using c),Int.sub_zero]at ds
    exact⟨k,ZrA h dp (st k (by lia)) ds⟩
theorem Zob(h:Smo rs)(R:Run rs St)(st:∀k,k<m->St (pf k))(k:Nat)(hk:k<=m):0<D (bf rs pf) (af pf) k:=by
 by_cases k0:k=0
 ·subst k0;simp[D]
 ·obtain⟨s,B⟩:=blk h R st k (by lia) hk
  exact B.up h R
theorem Zoc:∀k,ch (af pf) k=true->∀i ≤ k,pf i=pf 0+i:=by
 intro k
 induction k with
 |zero=>intro _ i hi;rw[show i=0 by lia];rfl
 |succ k ih=>
  intro hc i hi;simp only[ch,aT,af,decide_eq_true_eq]at hc;rcases(show i<=k\/i=k+1 by lia)with c|c
  ·exact ih hc.1 i c
  ·rw[c,hc.2,ih hc.1 k (ac _)];lia
theorem Zod{ad:Nat->Bool}{j:Nat}:∀k,j<=k->ch ad k=true->ch ad j=true:=by
 intro k
 induction k with
 |zero=>intro h;rw[show j=0 by lia];exact id
 |succ k ih=>
  intro h hc;rcases(show j<=k\/j=k+1 by lia)with c|c
  ·simp only[ch,aT]at hc;exact ih c hc.1
  ·rw[c];exact hc
theorem Zua(h:Smo rs)(p0:pf 0=0):∀k,ch (af pf) k=true->(D (bf rs pf) (af pf) (k+1)=X (cy rs (-1)) (cy rs (k+1))/\F (bf rs pf) (af pf) (k+1)=X (cy rs 0) (cy rs (k+1)))/\D (bf rs pf) (af pf) k=X (cy rs (-1)) (cy rs k)/\F (bf rs pf) (af pf) k=X (cy rs 0) (cy rs k):=by
 intro k
 induction k with
 |zero=>
  intro _;have o1:=h.one (-1);have o2:=h.one 0;rw[show(-1:Int)+1=0 by lia]at o1
  have x0:X (cy rs 0) (cy rs 0)=0:=by unfold X;grind
  refine⟨⟨?_,?_⟩,?_,?_⟩
  ·show bf rs pf 0=_;unfold bf bb;rw[p0];rfl
  ·exact o2.symm
  ·exact o1.symm
  ·exact x0.symm
 |succ k ih=>
  intro hc;have pk:=Zoc (k+1) hc (k+1) (ac _);have hc':=hc;simp only[ch,aT]at hc';obtain⟨⟨a1,a2⟩,a3,a4⟩:=ih hc'.1;have e1:D (bf rs pf) (af pf) (k+2)=bf rs pf (k+1)*D (bf rs pf) (af pf) (k+1)-D (bf rs pf) (af pf) k:=by
   show bf rs pf (k+1)*D (bf rs pf) (af pf) (k+1)-(if af pf k=true then D (bf rs pf) (af pf) k else 0)=_
   rw[if_pos hc'.2]
  have e2:F (bf rs pf) (af pf) (k+2)=bf rs pf (k+1)*F (bf rs pf) (af pf) (k+1)-F (bf rs pf) (af pf) k:=by
   show bf rs pf (k+1)*F (bf rs pf) (af pf) (k+1)-(if af pf k=true then F (bf rs pf) (af pf) k else 0)=_
   rw[if_pos hc'.2]
  have eb:bf rs pf (k+1)=bb rs ((k:Int)+1):=by
   unfold bf;rw[pk,p0];congr 1;lia
  have c1:=Zt9 h (-1) ((k:Int)+1);have c2:=Zt9 h 0 ((k:Int)+1);rw[show(k:Int)+1-1=k by lia]at c1 c2
  have ek:((k+1:Nat):Int)=(k:Int)+1:=by lia
  rw[ek];refine⟨⟨?_,?_⟩,a1,a2⟩
  ·rw[e1,a1,a3,eb,c1]
  ·rw[e2,a2,a4,eb,c2]
theorem ZwD{b:Nat->Int}{ad:Nat->Bool}{u m:Nat}(hu:ch ad (u+1)=false)(dp:∀k,k<=m->0<D b ad k):∀k,u+1<=k->k<=m->F b ad k*D b ad (u+1)=D b ad k*F b ad (u+1):=by
 intro k
 induction k with
 |zero=>intro h;lia
 |succ k ih=>
  intro h1 h2;rcases(show k=u\/u+1<=k by lia)with c|c
  ·subst c;rw[fC]
  ·have i:=ih c (by lia)
   have wn:=Zvf b ad k;have hc:ch ad k=false:=by
    cases z:ch ad k
    ·rfl
    ·rw[Zod k c z]at hu;cases hu
   rw[hc,if_neg (by decide)]at wn
   have d:=dp k (by lia)
   refine Int.eq_of_mul_eq_mul_left (show D b ad k≠0 by lia) ?_
   grind
theorem Zld(h:Smo rs)(R:Run rs St)(st:∀k,k<w+1->St (pf k))(per:∀z,St z->St (z+rs.length))(p0:pf 0=0)(pw:pf w+1=rs.length)(hc:ch (af pf) w=false):0<D (bf rs pf) (af pf) (w+1)-F (bf rs pf) (af pf) w:=by
 obtain⟨u,uw,hu,hu'⟩:∃u,u<w/\ch (af pf) u=true/\ch (af pf) (u+1)=false:=by
  have:∀k,ch (af pf) k=false->∃u,u<k/\ch (af pf) u=true/\ch (af pf) (u+1)=false:=by
   intro k
   induction k with
   |zero=>intro z;cases z
   |succ k ih=>
    intro z;cases y:ch (af pf) k
    ·obtain⟨u,a,b,c⟩:=ih y;exact⟨u,by lia,b,c⟩
    ·exact⟨k,by lia,y,z⟩
  exact this w hc
 have dp:=Zob (m:=w+1) h R st;obtain⟨s,B⟩:=blk h R st (w+1) (by lia) (ac _)
 obtain⟨⟨c1,c2⟩,_⟩:=Zua h p0 u hu;have pr:=ZwD hu' dp w (by lia) (by lia)
 have du:=dp (u+1) (by lia)
 have d1:=B.d1;have d0:=B.d0;have le:=B.le;rw[show w+1-1=w by lia]at d1 d0 le
 have hn:((pf w:Nat):Int)+1=(rs.length:Int):=by lia
 rw[hn]at d1;have cn:∀z:Int,cy rs (z+rs.length)=cy rs z:=fun z=>ZlQ;have e0:cy rs (rs.length:Int)=cy rs 0:=by rw[<-cn 0];congr 1;lia
 have e1:cy rs ((pf w:Nat):Int)=cy rs (-1):=by rw[<-cn (-1)];congr 1;lia
 have rr:=R ((pf s:Int)-1) (rs.length-pf s+(u+1)) (fun j h1 h2=>by
  rcases(show(pf s:Int)-1+j<=pf w\/(rs.length:Int)<=(pf s:Int)-1+j by lia)with c|c
  ·exact B.all _ (by lia) (by rw[show w+1-1=w by lia];exact c)
  ·obtain⟨i,hi⟩:∃i:Nat,(pf s:Int)-1+j=(i:Int)+rs.length:=⟨((pf s:Int)-1+j-rs.length).toNat,by lia⟩
   rw[hi];have pi:=Zoc u hu i (by lia)
   have:=st i (by lia)
   rw[pi,p0]at this;exact per _ (by rw[show((i:Nat):Int)=((0+i:Nat):Int)by lia];exact this)) (rs.length-pf s+(u+1)) (ac _)
 rw[show(pf s:Int)-1+((rs.length-pf s+(u+1):Nat):Int)+1=((u:Int)+1)+rs.length by lia,cn]at rr
 have q:=plu (cy rs ((pf s:Int)-1)) (cy rs (-1)) (cy rs 0) (cy rs ((u:Int)+1));have o1:=h.one (-1);rw[show(-1:Int)+1=0 by lia]at o1
 rw[o1]at q;rw[e0]at d1;rw[e1]at d0;have key:D (bf rs pf) (af pf) (u+1)*(D (bf rs pf) (af pf) (w+1)-F (bf rs pf) (af pf) w)=D (bf rs pf) (af pf) s*X (cy rs ((pf s:Int)-1)) (cy rs ((u:Int)+1)):=by
  rw[Int.mul_sub,fC _ (F (bf rs pf) (af pf) w),pr,d1,d0,c1,c2];generalize D (bf rs pf) (af pf) s=ds at *;grind
 have pos:=jb B.pos rr;rw[<-key]at pos;rw[fC]at pos;exact Int.pos_of_mul_pos_left pos du
theorem ZrB{x y b:Int}{k:Nat}(hx:x.natAbs<=2^(18*k))(hy:y.natAbs<=2^(18*(k+1)))(hb:b.natAbs<2^17)(c:Prop)[Decidable c]:(b*y-if c then x else 0).natAbs<=2^(18*(k+1+1)):=by
 have h1:(b*y).natAbs<=2^17*2^(18*(k+1)):=by rw[bH];exact cB (by lia) hy
 have h2:(if c then x else 0).natAbs<=2^(18*(k+1)):=by
  have:2^(18*k)<=2^(18*(k+1)):=aY (by decide) (by lia)
  split
  ·lia
  ·simp
 have h3:=ff (b*y) (if c then x else 0)
 have h4:2^(18*(k+1+1))=262144*2^(18*(k+1)):=by rw[show 18*(k+1+1)=18+18*(k+1)by lia,l4]
 generalize 2^(18*(k+1))=p at *;lia
theorem Zoe{m:Nat}(hb:∀k,k<m->(b k).natAbs<2^17):∀k,k<=m->(D b ad k).natAbs<=2^(18*k)/\(F b ad k).natAbs<=2^(18*k):=by
 have main:∀k,k+1<=m->((D b ad k).natAbs<=2^(18*k)/\(F b ad k).natAbs<=2^(18*k))/\(D b ad (k+1)).natAbs<=2^(18*(k+1))/\(F b ad (k+1)).natAbs<=2^(18*(k+1)):=by
  intro k
  induction k with
  |zero=>
   intro h
   have:=hb 0 (by lia)
   refine⟨⟨by simp[D],by simp[F]⟩,?_,by simp[F]⟩
   show(b 0).natAbs<=2^18;lia
  |succ k ih=>
   intro h;obtain⟨⟨a1,a2⟩,a3,a4⟩:=ih (by lia)
   exact⟨⟨a3,a4⟩,ZrB a1 a3 (hb (k+1) (by lia)) _,ZrB a2 a4 (hb (k+1) (by lia)) _⟩
 intro k hk;by_cases k0:k=0
 ·subst k0;exact⟨by simp[D],by simp[F]⟩
 ·have:=(main (k-1) (by lia)).2
  rw[show k-1+1=k by lia]at this
  exact this
theorem Zub{b:Nat->Int}{ad:Nat->Bool}{wr:Prop}[Decidable wr]{w m k i j:Nat}(hb:∀k,k<m->(b k).natAbs<2^17)(hk:k<m)(hi:i<m)(hm:m<=14):(e b ad wr w k i j).natAbs<2^252:=by
 have d1:=Zoe (ad:=ad) hb k (by lia)
 have d0:=Zoe (ad:=ad) hb (k-1) (by lia)
 have p1:2^(18*k)<=2^234:=aY (by decide) (by lia)
 have p0:2^(18*(k-1))<=2^234:=aY (by decide) (by lia)
 have a:(A b ad wr w i j).natAbs<2^17:=by
  have:=hb i hi
  unfold A;split
  ·exact this
  ·split<;>split<;>split<;>decide
 have h1:(D b ad k*A b ad wr w i j).natAbs<=2^234*2^17:=by rw[bH];exact cB (aU d1.1 p1) (by lia)
 have h2:2^252=262144*2^234:=by decide +kernel
 unfold e;have b1:(if 0<k/\i=k/\j=k/\ad (k-1)=true then D b ad (k-1)else 0).natAbs<=2^234:=by
  split
  ·lia
  ·simp
 have b2:(if wr/\0<k/\i=w/\j=w then F b ad k else 0).natAbs<=2^234:=by
  split
  ·lia
  ·simp
 have b3:(if wr/\0<k/\ch ad k=true/\k<w/\(i=k/\j=w\/i=w/\j=k)then(1:Int)else 0).natAbs<=1:=by
  split<;>decide
 generalize (if 0<k/\i=k/\j=k/\ad (k-1)=true then D b ad (k-1)else 0)=x1 at *;generalize (if wr/\0<k/\i=w/\j=w then F b ad k else 0)=x2 at *;generalize (if wr/\0<k/\ch ad k=true/\k<w/\(i=k/\j=w\/i=w/\j=k)then(1:Int)else 0)=x3 at *;generalize D b ad k*A b ad wr w i j=x0 at *;have q:1<=2^234:=Nat.one_le_two_pow
 generalize 2^234=p at *;generalize 2^252=p2 at *;lia
end
end BA
namespace BA
open L2 DL
open Rb CN
section
variable {rs:List Pt}{St:Int->Prop}{pf:Nat->Nat}{n w:Nat}
theorem ZrC{b:Nat->Int}{ad:Nat->Bool}{wr:Prop}[Decidable wr](hw:wr)(w0:0<w):e b ad wr w w w w=D b ad (w+1)-F b ad w:=by
 rw[D_s b ad w w0];unfold e A;have n2:¬(wr/\0<w/\ch ad w=true/\w<w/\(w=w/\w=w\/w=w/\w=w)):=fun z=>by have:=z.2.2.2;lia
 rw[if_pos (show wr/\0<w/\w=w/\w=w from⟨hw,w0,rfl,rfl⟩),if_neg n2,if_pos rfl];have e1:(0<w/\w=w/\w=w/\ad (w-1)=true)↔ad (w-1)=true:=⟨fun z=>z.2.2.2,fun z=>⟨by lia,rfl,rfl,z⟩⟩
 simp only[e1];grind
theorem nx(hn:0<n)(hall:∀k,k<=w->pf k<n)(iw:i<=w)(jw:j<=w)(inc:∀i j,i<j->j<=w->pf i<pf j)(ne:i≠j):iv ((((pf i:Nat):Int)+1)%(n:Int)=((pf j:Nat):Int))=iv (i+1=j/\af pf i=true)+iv ((pf 0=0/\pf w+1=n)/\i=w/\j=0):=by
 have hi:=hall i iw;have wj:i<w->pf i<pf w:=fun h=>inc i w h (ac _);have c:(((pf i:Nat):Int)+1)%(n:Int)=if pf i+1<n then((pf i:Nat):Int)+1 else 0:=by
  split
  ·exact cS (by lia) (by lia)
  ·rw[show((pf i:Nat):Int)+1=(n:Int)by lia,Int.emod_self]
 unfold iv af;rw[c];simp only[decide_eq_true_eq];have mono:∀a,a<=w->pf 0<=pf a:=fun a ha=>by
  by_cases z:a=0
  ·rw[z];exact ac _
  ·exact dw (inc 0 a (by lia) ha)
 have m0:=mono j jw;by_cases h1:pf i+1<n
 ·rw[if_pos h1];have n2:¬((pf 0=0/\pf w+1=n)/\i=w/\j=0):=fun z=>by
   have:=z.1.2
   rw[<-z.2.1]at this;lia
  rw[if_neg n2];by_cases h2:pf i+1=pf j
  ·have ij:i<j:=by
    rcases Nat.lt_trichotomy i j with z|z|z
    ·exact z
    ·exact absurd z ne
    ·have:=inc j i z iw
     lia
   have:i+1=j:=by
    rcases(show i+1=j\/i+1<j by lia)with z|z
    ·exact z
    ·have a1:=inc i (i+1) (by lia) (by lia)
     have a2:=inc (i+1) j z jw;lia
   subst this;rw[if_pos (by lia),if_pos ⟨rfl,by lia⟩]
   rfl
  ·rw[if_neg (by lia),if_neg (fun z=>h2 (by rw[<-z.1];lia))]
   rfl
 ·rw[if_neg h1];have hpw:=hall w (ac _);have iw':i=w:=by
   rcases(show i<w\/i=w by lia)with z|z
   ·have:=wj z
    lia
   ·exact z
  rw[if_neg (show ¬(i+1=j/\pf (i+1)=pf i+1)by lia)]
  by_cases h3:pf j=0
  ·have j0:j=0:=by
    by_cases z:j=0
    ·exact z
    ·have:=inc 0 j (by lia) jw
     lia
   subst j0;rw[if_pos (by lia),if_pos ⟨⟨h3,by rw[<-iw'];lia⟩,iw',rfl⟩]
   rfl
  ·rw[if_neg (by lia),if_neg (fun z=>h3 (by rw[z.2.2];exact z.1.1))]
   rfl
theorem Zuc(h3:3<=rs.length)(hall:∀k,k<=w->pf k<rs.length)(iw:i<=w)(jw:j<=w)(inc:∀i j,i<j->j<=w->pf i<pf j):(if pf i=pf j then X (cy rs ((pf i:Int)-1)) (cy rs ((pf i:Int)+1))else 0-iv (((pf i:Int)+1)%(rs.length:Int)=pf j)-iv (((pf j:Int)+1)%(rs.length:Int)=pf i))=A (bf rs pf) (af pf) (pf 0=0/\pf w+1=rs.length) w i j:=by
 by_cases c:i=j
 ·subst c;rw[if_pos rfl];unfold A;rw[if_pos rfl];rfl
 ·have ne:pf i≠pf j:=by
   rcases Nat.lt_trichotomy i j with z|z|z
   ·have:=inc i j z jw;lia
   ·exact absurd z c
   ·have:=inc j i z iw;lia
  rw[if_neg ne,Zrz _ _ _ _ c,nx (by lia) hall iw jw inc c,nx (by lia) hall jw iw inc (fun z=>c z.symm)]
  have sp:iv ((pf 0=0/\pf w+1=rs.length)/\(i=0/\j=w\/i=w/\j=0))=iv ((pf 0=0/\pf w+1=rs.length)/\i=w/\j=0)+iv ((pf 0=0/\pf w+1=rs.length)/\j=w/\i=0):=by
   unfold iv;by_cases z:(pf 0=0/\pf w+1=rs.length)
   ·simp only[z,true_and];by_cases y1:i=w/\j=0
    ·rw[if_pos (jH y1),if_pos y1,if_neg (by lia)]
     rfl
    ·by_cases y2:j=w/\i=0
     ·rw[if_pos (dM ⟨y2.2,y2.1⟩),if_neg y1,if_pos y2];rfl
     ·rw[if_neg (by lia),if_neg y1,if_neg y2]
      rfl
   ·rw[if_neg (fun y=>z y.1),if_neg (fun y=>z y.1),if_neg (fun y=>z y.1)];rfl
  rw[sp];lia
theorem Zmb(h:Smo rs)(R:Run rs St)(st:∀k,k<=w->St (pf k))(p0:pf 0=0)(pw:pf w+1=rs.length):ch (af pf) w=false:=by
 cases z:ch (af pf) w
 ·rfl
 ·exfalso;have pi:=Zoc w z;have ww:=pi w (ac _);have r:=R (-1) (rs.length-1) (fun j h1 h2=>by
   have a:=st (j-1) (by lia)
   rw[pi (j-1) (by lia),p0]at a
   rw[show(-1:Int)+j=((0+(j-1):Nat):Int)by lia]
   exact a) (rs.length-1) (ac _)
  have l:=h.len;rw[show(-1:Int)+((rs.length-1:Nat):Int)+1= -1+rs.length by lia,ZlQ]at r
  unfold X at r;rw[fC]at r;lia
theorem Zof(h:Smo rs)(R:Run rs St)(per:∀z,St z->St (z+rs.length))(st:∀k,k<=w->St (pf k))(k:Nat)(hk:k<=w):0<e (bf rs pf) (af pf) (pf 0=0/\pf w+1=rs.length) w k k k:=by
 by_cases c:(pf 0=0/\pf w+1=rs.length)/\k=w
 ·obtain⟨⟨p0,pw⟩,rfl⟩:=c;have l:=h.len;have w0:0<k:=by
   rcases Nat.eq_zero_or_pos k with z|z
   ·subst z;lia
   ·exact z
  rw[ZrC ⟨p0,pw⟩ w0];exact Zld h R (fun k hk=>st k (by lia)) per p0 pw (Zmb h R st p0 pw)
 ·rw[Zpd _ _ _ _ k (fun z y=>c ⟨z,y⟩)];exact Zob (m:=w+1) h R (fun k hk=>st k (by lia)) (k+1) (by lia)
theorem ZwE(hb:Nr 200 rs)(hne:rs≠[])(k:Nat):(bf rs pf k).natAbs<2^17:=BD.Zos (hb _ (ZR hne)) (hb _ (ZR hne))
end
end BA
namespace K55
open CR (Zcm F_is_whole Zan ZaL F_greatest_divisor ZfC F_ratio Zjl F_plus ZfD F_times)
open CC (ZcZ F_crossed ZbQ F_following ZaP ZbR F_unspanned Zbl F_ask_smooth Za1 F_law_cell_at Zc0 F_law_cross Za2 Za3 Zck F_law_turn ZaA Zbm F_law_smooth)
open CS (ZfE F_minus Zbn F_ask_height Zd5 F_sloped ZaB F_slope_through)
open CD (ZgD F_less Za4 Zco F_greatest Zcp F_contrary ZbT F_height_of)
open BD (Zad ZaD F_common_bottom ZbU F_stretched Zc8 Zjx F_edge Zcr F_in_order Zc9 Zda Zjy F_body)
open PT (Zdf F_balance Zed F_threes Za7 Zaw ZdF F_emptying Zdg F_parting)
open BL (ZaQ ZbW F_law_ratio Zdc F_law_sum ZbX F_law_times ZdD F_law_less ZaE Zbq F_law_height Zbr F_law_dotted ZaF Zbs F_law_within Zar Zas Za6 F_law_corners ZW Z8 Zat F_law_are_ratios ZbY F_law_sized)
open L2 DL
structure Txt(K:Fg) (mg:Str->Option aa):Prop extends Bs mg where
 gl:∀c v,PySem.W.nsIn K aI c=some (some v)->mg c=some v
 d:Dfs K top tab
 ex_NotSmooth:Zon K "NotSmooth"=true
 ex_NoRatio:Zon K "NoRatio"=true
 ex_NoHeight:Zon K "NoHeight"=true
 lm_m:Znu K=true
 lb_in_order:ZsL K "in_order"=true
section
variable {P:cw}{w:cL}{K:Fg}{mg:Str->Option aa}{base:Heap}
def ZbI:Sv:=(Zx (ZG (gNm 5) (e2 dMod (e2 dAdd (Zg 4) (eC (.int 1))) (Zg 2))) (Zx (ZG (gNm 6) (Zj F_law_times (Zc (e2 dSub (eC (.int 0)) (Zj F_law_cross (Zc (e2 dIx (Zg 0) (e2 dSub (Zg 4) (eC (.int 1)))) (Zc (e2 dIx (Zg 0) (Zg 5)) aNil)))) (Zc (e2 dIx (Zg 1) (Zg 4)) aNil)))) (ZaU (Zeh mApp (Zg 3) (Zc (Zj F_law_sum (Zc (Zg 6) (Zc (Zj F_law_sum (Zc (e2 dIx (Zg 1) (e2 dSub (Zg 4) (eC (.int 1)))) (Zc (e2 dIx (Zg 1) (Zg 5)) aNil))) aNil))) aNil)))))
def Zdh:Sv:=(Zx (ZG (gNm 2) (Zj bLen (Zc (Zg 0) aNil))) (Zx (ZG (gNm 3) (ZbN aNil)) (Zx (Zbc (gNm 4) (Zc (Zg 2) aNil) ZbI) (Z1 (Zg 3)))))
def F_law_bends:W3:=fnF Zdh 2 5
def ZbJ:Sv:=(Zx (ZG (gNm 6) (Zj F_law_times (Zc (Zfb (eC (.int 1))) (Zc (Zj F_law_dotted (Zc (Zg 5) (Zc (Zg 3) aNil))) aNil)))) (sIf (tv (Zj F_law_less (Zc (Zg 4) (Zc (Zg 6) aNil)))) (ZG (gNm 4) (Zg 6)) sNil))
def ZbK:Sv:=(Zx (ZG (gNm 4) (Zj F_law_times (Zc (Zfb (eC (.int 1))) (Zc (Zj F_law_dotted (Zc (e2 dIx (Zg 1) (eC (.int 0))) (Zc (Zg 3) aNil))) aNil)))) (Zx (ZeD (gNm 5) (eSl (Zg 1) (oSo (eC (.int 1))) oNo) ZbJ) (ZaU (Zeh mApp (Zg 2) (Zc (Zg 4) aNil)))))
def Zdi:Sv:=(Zx (ZG (gNm 2) (ZbN aNil)) (Zx (ZeD (gNm 3) (Zg 0) ZbK) (Z1 (Zg 2))))
def F_law_first:W3:=fnF Zdi 2 5
def Zaf:Sv:=(Zx (ZG (gNm 7) (eC (.int 0))) (Zx (sIf (tv (e2 dEq (Zg 4) (Zg 6))) (ZG (gNm 7) (Zj F_law_cross (Zc (e2 dIx (Zg 0) (e2 dSub (Zg 4) (eC (.int 1)))) (Zc (e2 dIx (Zg 0) (e2 dMod (e2 dAdd (Zg 4) (eC (.int 1))) (Zg 2))) aNil)))) (ZG (gNm 7) (e2 dSub (e2 dSub (eC (.int 0)) (Zj bInt (Zc (e2 dEq (e2 dMod (e2 dAdd (Zg 4) (eC (.int 1))) (Zg 2)) (Zg 6)) aNil))) (Zj bInt (Zc (e2 dEq (e2 dMod (e2 dAdd (Zg 6) (eC (.int 1))) (Zg 2)) (Zg 4)) aNil))))) (ZaU (Zeh mApp (Zg 5) (Zc (Zg 7) aNil)))))
def Zag:Sv:=(Zx (ZG (gNm 5) (ZbN aNil)) (Zx (ZeD (gNm 6) (Zg 1) Zaf) (ZaU (Zeh mApp (Zg 3) (Zc (Zg 5) aNil)))))
def ZaW:Sv:=(ZaU (Zeh mApp (Zg 5) (Zc (e2 dDiv (e2 dSub (e2 dMul (Zg 10) (Zg 12)) (e2 dMul (Zg 11) (Zg 13))) (Zg 8)) aNil)))
def Zah:Sv:=(Zx (ZG (gNm 11) (e2 dIx (e2 dIx (Zg 3) (Zg 4)) (Zg 9))) (Zx (ZG (gNm 5) (ZbN aNil)) (Zx (ZeK (gTp (gCs (gNm 12) (gCs (gNm 13) gNl))) (iZp (Zc (e2 dIx (Zg 3) (Zg 4)) (Zc (e2 dIx (Zg 3) (Zg 9)) aNil))) ZaW) (Zly (Zg 3) (Zg 4) (Zg 5)))))
def Z4:Sv:=(Zx (ZG (gNm 10) (e2 dIx (e2 dIx (Zg 3) (Zg 9)) (Zg 9))) (Zx (sIf (tv (e2 dLe (Zg 10) (eC (.int 0)))) (Z1 (eC (.bl false))) sNil) (Zx (Zdr (gNm 4) (Zc (e2 dAdd (Zg 9) (eC (.int 1))) (Zc (Zj bLen (Zc (Zg 3) aNil)) aNil)) Zah) (ZG (gNm 8) (Zg 10)))))
def ZbL:Sv:=(Zx (ZG (gNm 2) (Zj bLen (Zc (Zg 0) aNil))) (Zx (ZG (gNm 3) (ZbN aNil)) (Zx (ZeD (gNm 4) (Zg 1) Zag) (Zx (ZG (gNm 8) (eC (.int 1))) (Zx (Zbc (gNm 9) (Zc (Zj bLen (Zc (Zg 3) aNil)) aNil) Z4) (Z1 (eC (.bl true))))))))
def F_law_is_below:W3:=fnF ZbL 2 12
def Zce:Sv:=(Zx (sIf (tv (e2 dNe (Zj F_law_sum (Zc (e2 dIx (Zg 2) (Zg 7)) (Zc (e2 dIx (Zg 3) (Zg 7)) aNil))) (e2 dIx (Zg 1) (Zg 7)))) (Z1 (eC (.bl false))) sNil) (Zx (sIf (Zf3 (tv (e2 dLt (e2 dIx (e2 dIx (Zg 5) (Zg 7)) (eC (.int 0))) (eC (.int 0)))) (tv (e2 dLt (e2 dIx (e2 dIx (Zg 3) (Zg 7)) (eC (.int 0))) (eC (.int 0))))) (Z1 (eC (.bl false))) sNil) (sIf (tv (e2 dGt (e2 dIx (e2 dIx (Zg 3) (Zg 7)) (eC (.int 0))) (eC (.int 0)))) (Zx (ZaU (Zeh mApp (Zg 6) (Zc (Zg 7) aNil))) (sIf (tv (e2 dNe (e2 dIx (e2 dIx (Zg 5) (Zg 7)) (eC (.int 0))) (eC (.int 0)))) (Z1 (eC (.bl false))) sNil)) sNil)))
def ZdH:Sv:=(Zx (ZG (gNm 4) (Zj bLen (Zc (Zg 0) aNil))) (Zx (ZG (gNm 5) (Zj F_law_bends (Zc (Zg 0) (Zc (Zg 2) aNil)))) (Zx (ZG (gNm 6) (ZbN aNil)) (Zx (Zbc (gNm 7) (Zc (Zg 4) aNil) Zce) (Z1 (Zj F_law_is_below (Zc (Zg 0) (Zc (Zg 6) aNil))))))))
def F_law_five:W3:=fnF ZdH 4 4
def ZaR:Sv:=(sIf (Zf3 (Zb0 (tv (Zj F_law_are_ratios (Zc (Zg 4) aNil)))) (tv (e2 dNe (Zj bLen (Zc (Zg 4) aNil)) (Zj bLen (Zc (Zg 0) aNil))))) (Z1 (eC (.bl false))) sNil)
def ZbZ:Sv:=(Zx (ZG (gNm 3) (Zj F_law_corners (Zc (Zg 0) (Zc (Zg 1) aNil)))) (Zx (sIf (Zb0 (tv (ZhS "tuple" (Zg 2)))) (Z1 (eC (.bl false))) sNil) (Zx (sIf (tv (e2 dEq (Zg 3) (ZbN aNil))) (Z1 (Zg3 (e2 dEq (Zj bLen (Zc (Zg 2) aNil)) (eC (.int 2))) (e2 dEq (e2 dIx (Zg 2) (eC (.int 0))) (eC (.str (PySem.Str.ofString "none")))))) sNil) (Zx (sIf (Zf3 (tv (e2 dNe (Zj bLen (Zc (Zg 2) aNil)) (eC (.int 3)))) (tv (e2 dNe (e2 dIx (Zg 2) (eC (.int 0))) (eC (.str (PySem.Str.ofString "parted")))))) (Z1 (eC (.bl false))) sNil) (Zx (ZeD (gNm 4) (Zaq (Zc (e2 dIx (Zg 2) (eC (.int 1))) (Zc (e2 dIx (Zg 2) (eC (.int 2))) aNil))) ZaR) (Zx (sIf (tv (e2 dNe (e2 dIx (Zg 2) (eC (.int 1))) (Zj F_law_first (Zc (Zg 0) (Zc (Zg 3) aNil))))) (Z1 (eC (.bl false))) sNil) (Z1 (Zj F_law_five (Zc (Zg 0) (Zc (Zg 1) (Zc (e2 dIx (Zg 2) (eC (.int 1))) (Zc (e2 dIx (Zg 2) (eC (.int 2))) aNil))))))))))))
def F_law_right:W3:=fnF ZbZ 3 2
def Zef:Sv:=(Zx (ZG (gTp (gCs (gNm 2) (gCs (gNm 3) gNl))) (Zj F_law_sized (Zc (Zg 0) (Zc (Zg 1) (Zc (e2 dIx (ZbN (Zc (eC (.int 20)) (Zc (eC (.int 20)) (Zc (eC (.int 9)) (Zc (eC (.int 200)) aNil))))) (e2 dMod (e2 dDiv (Zj F_law_cell_at (Zc (Zg 0) (Zc (Zg 1) aNil))) (eC (.int 3))) (eC (.int 4)))) aNil))))) (Zx (ZG (gNm 4) (ZbN (Zc (Zj bList (Zc (Zg 2) aNil)) (Zc (Zj bList (Zc (Zg 3) aNil)) aNil)))) (Zx (ZG (gNm 5) (Zj F_parting (Zc (e2 dIx (Zg 4) (eC (.int 0))) (Zc (e2 dIx (Zg 4) (eC (.int 1))) aNil)))) (Zx (sIf (Zf3 (tv (e2 dNe (Zg 4) (ZbN (Zc (Zg 2) (Zc (Zg 3) aNil))))) (Zb0 (tv (Zj F_law_right (Zc (Zg 2) (Zc (Zg 3) (Zc (Zg 5) aNil))))))) (Z1 (eC (.bl false))) sNil) (sIf (tv (e2 dEq (e2 dIx (Zg 5) (eC (.int 0))) (eC (.str (PySem.Str.ofString "parted"))))) (Zx (Zly (e2 dIx (Zg 5) (eC (.int 1))) (eC (.int 0)) (Zaq (Zc (eC (.int 1)) (Zc (eC (.int 1)) aNil)))) (Zx (ZaU (Zeh mApp (e2 dIx (Zg 5) (eC (.int 2))) (Zc (Zaq (Zc (eC (.int 0)) (Zc (eC (.int 1)) aNil))) aNil))) (sIf (Zf3 (Zb0 (tv (Zj F_law_right (Zc (Zg 2) (Zc (Zg 3) (Zc (Zj F_parting (Zc (e2 dIx (Zg 4) (eC (.int 0))) (Zc (e2 dIx (Zg 4) (eC (.int 1))) aNil))) aNil)))))) (tv (e2 dNe (Zg 4) (ZbN (Zc (Zg 2) (Zc (Zg 3) aNil)))))) (Z1 (eC (.bl false))) sNil))) sNil)))))
def ZrD:Sv:=(Zx (ZeK (gNm 1) (iR3 (Zc (eC (.int 0)) (Zc (Zj bMax (Zc (eC (.int 2)) (Zc (Zj bMin (Zc (Zj bLen (Zc (Zg 0) aNil)) (Zc (eC (.int 3)) aNil))) aNil))) (Zc (eC (.int 2)) aNil)))) Zef) (Z1 (eC (.bl true))))
def ZfN:W3:=fnF ZrD 1 5
variable (T:Txt K mg)
include T
theorem C1:Cal P w K mg base "is_whole" 1 1 F_is_whole:=ZN (N:=["thing"]) (T.d.at 0 6) T.gl fun _ _ _ _ _ _ _ nd hr θ=>(Zh (Zr (Zlr (ZcQ ZhT T.b_isinstance T.b_int Zgf (Zb 0)) (Zlq (Zpf (ZcQ Zf7 T.b_isinstance T.b_bool Zh0 (Zb 0)))))))
theorem C2:Cal P w K mg base "greatest_divisor" 101 2 F_greatest_divisor:=ZN (N:=["one","other","high","low"]) (T.d.at 1 7) T.gl fun _ _ _ _ _ _ _ nd hr θ=>(Zf (Zga 2 3 (ZH hr (by decide)) nd (Za (Zp Zai ZbC T.b_abs ZbD (Za (Zb 0) Ze)) (Za (Zp Zai ZbC T.b_abs ZbD (Za (Zb 1) Ze)) Ze)))
  (Zf (Zgc θ.own (Zy (ZaT hr.units) Zcg (Zb 3) Zd) (Zh (Zga 2 3 (ZH hr (by decide)) nd (Za (Zb 3) (Za (ZO (Zb 2) (Zb 3)) Ze)))))
  (Zh (Zr (Zb 2)))))
theorem C3:Cal P w K mg base "crossed" 1 2 F_crossed:=ZN (N:=["one","other"]) (T.d.at 2 9) T.gl fun _ _ _ _ _ _ _ nd hr θ=>(Zh (Zr (Zaa (ZD (Zk (Zb 0) Zd) (Zk (Zb 1) Zd)) (ZD (Zk (Zb 0) Zd) (Zk (Zb 1) Zd)))))
theorem C4:Cal P w K mg base "following" 1 2 F_following:=ZN (N:=["things","at"]) (T.d.at 3 11) T.gl fun _ _ _ _ _ _ _ nd hr θ=>(Zh (Zr (Zk (Zb 0) (ZO (ZL (Zb 1) Zd) (Zp Zn ZU T.b_len PySem.boot_len (Za (Zb 0) Ze))))))
theorem C5:Cal P w K mg base "unspanned" 101 1 F_unspanned:=ZN (N:=["rays","at","ray"]) (T.d.at 4 12) T.gl fun _ _ _ _ _ _ _ nd hr θ=>(Zf (ZcS θ.own (ZmV (hr.hd (by decide)) T.b_enumerate (Za (Zb 0) Ze)) (ZaI (ZH hr (by decide)) (Zw (Zm 1 nd) (Zw (Zm 2 nd) Z6)) (hlen:=(ZC (ZC (fun _ _ _ h=>Z7 h))))) (Zh (ZK (Zy (ZaT hr.units) Zcg (Zi (C3 T) θ hr (Za (Zb 2) (Za (Zi (C4 T) θ hr (Za (Zb 0) (Za (Zb 1) Ze))) Ze))) Zd) (Zh (Zr (Zb 1))) Zv)))
  (Zh (Zr Zct)))
theorem C6:Cal P w K mg base "ask_smooth" 102 1 F_ask_smooth:=ZN (N:=["rays","at"]) (T.d.at 5 13) T.gl fun _ _ _ _ _ _ _ nd hr θ=>(Zf (Zl 1 nd (Zi (C5 T) θ hr (Za (Zb 0) Ze))) (Zh (ZK (Zy Zew Zf6 (Zb 1) Zct) (Zh (ZcH θ T.ex_NotSmooth T.gl (hr.hd (by decide)) (Za (ZpD (Zbk Zba (Zbk (Zm1 (Zb 1)) (Zbk Zba ZlH)))) Ze))) Zv)))
theorem C7:Cal P w K mg base "ratio" 102 2 F_ratio:=ZN (N:=["top","bottom","part"]) (T.d.at 6 15) T.gl fun _ _ _ _ _ _ _ nd hr θ=>(Zf (ZK (Zeg (Zdk (Zb1 (Zak (Zi (C1 T) θ hr (Za (Zb 0) Ze)))) (ZbB (Zb1 (Zak (Zi (C1 T) θ hr (Za (Zb 1) Ze))))))) (Zh (ZcH θ T.ex_NoRatio T.gl (hr.hd (by decide)) (Za Zba Ze))) Zv)
  (Zf (ZK (Zy (Zau hr.units) Zbz (Zb 1) Zd) (Zh (ZcH θ T.ex_NoRatio T.gl (hr.hd (by decide)) (Za Zba Ze))) Zv)
  (Zf (Zl 2 nd (Zi (C2 T) θ hr (Za (Zb 0) (Za (Zb 1) Ze)))) (Zf (ZK (Zy ZdK ZdN (Zb 1) Zd) (Zh (Zl 2 nd (Zbb (Zb 2)))) Zv) (Zh (Zr (ZE (Za (ZM (Zb 0) (Zb 2)) (Za (ZM (Zb 1) (Zb 2)) Ze)))))))))
theorem C8:Cal P w K mg base "plus" 103 2 F_plus:=ZN (N:=["one","other"]) (T.d.at 7 16) T.gl fun _ _ _ _ _ _ _ nd hr θ=>(Zh (Zr (Zi (C7 T) θ hr (Za (ZL (ZD (Zk (Zb 0) Zd) (Zk (Zb 1) Zd)) (ZD (Zk (Zb 1) Zd) (Zk (Zb 0) Zd))) (Za (ZD (Zk (Zb 0) Zd) (Zk (Zb 1) Zd)) Ze)))))
theorem C9:Cal P w K mg base "minus" 103 2 F_minus:=ZN (N:=["one","other"]) (T.d.at 8 17) T.gl fun _ _ _ _ _ _ _ nd hr θ=>(Zh (Zr (Zi (C7 T) θ hr (Za (Zaa (ZD (Zk (Zb 0) Zd) (Zk (Zb 1) Zd)) (ZD (Zk (Zb 1) Zd) (Zk (Zb 0) Zd))) (Za (ZD (Zk (Zb 0) Zd) (Zk (Zb 1) Zd)) Ze)))))
theorem C10:Cal P w K mg base "times" 103 2 F_times:=ZN (N:=["one","other"]) (T.d.at 9 18) T.gl fun _ _ _ _ _ _ _ nd hr θ=>(Zh (Zr (Zi (C7 T) θ hr (Za (ZD (Zk (Zb 0) Zd) (Zk (Zb 1) Zd)) (Za (ZD (Zk (Zb 0) Zd) (Zk (Zb 1) Zd)) Ze)))))
theorem C11:Cal P w K mg base "less" 1 2 F_less:=ZN (N:=["one","other"]) (T.d.at 10 19) T.gl fun _ _ _ _ _ _ _ nd hr θ=>(Zh (Zr (Zdq ZdK ZdN (ZD (Zk (Zb 0) Zd) (Zk (Zb 1) Zd)) (ZD (Zk (Zb 1) Zd) (Zk (Zb 0) Zd)))))
theorem C12:Cal P w K mg base "greatest" 2 1 F_greatest:=ZN (N:=["ones","best","one"]) (T.d.at 11 20) T.gl fun _ _ _ _ _ _ _ nd hr θ=>(Zf (Zl 1 nd (Zk (Zb 0) Zd)) (Zf (ZaV θ.own (Zb 0) (Zm 2 nd) (Zh (ZK (Zak (Zi (C11 T) θ hr (Za (Zb 1) (Za (Zb 2) Ze)))) (Zh (Zl 1 nd (Zb 2))) Zv))) (Zh (Zr (Zb 1)))))
theorem C13:Cal P w K mg base "common_bottom" 102 1 F_common_bottom:=ZN (N:=["ones","bottom","one"]) (T.d.at 12 21) T.gl fun _ _ _ _ _ _ _ nd hr θ=>(Zf (Zl 1 nd Zd) (Zf (ZaV θ.own (Zb 0) (Zm 2 nd) (Zh (Zl 1 nd (ZD (Zb 1) (ZM (Zk (Zb 2) Zd) (Zi (C2 T) θ hr (Za (Zb 1) (Za (Zk (Zb 2) Zd) Ze)))))))) (Zh (Zr (Zb 1)))))
theorem C14:Cal P w K mg base "stretched" 1 2 F_stretched:=ZN (N:=["one","bottom"]) (T.d.at 13 22) T.gl fun _ _ _ _ _ _ _ nd hr θ=>(Zh (Zr (ZD (Zk (Zb 0) Zd) (ZM (Zb 1) (Zk (Zb 0) Zd)))))
theorem C15:Cal P w K mg base "ask_height" 101 2 F_ask_height:=ZN (N:=["rays","height"]) (T.d.at 14 24) T.gl fun _ _ _ _ _ _ _ nd hr θ=>(Zh (ZK (Zy (ZaT hr.units) Zcg (Zp Zn ZU T.b_len PySem.boot_len (Za (Zb 1) Ze)) (Zp Zn ZU T.b_len PySem.boot_len (Za (Zb 0) Ze))) (Zh (ZcH θ T.ex_NoHeight T.gl (hr.hd (by decide)) (Za (ZpD (Zbk Zba (Zbk (Zm1 (Zp Zn ZU T.b_len PySem.boot_len (Za (Zb 0) Ze))) (Zbk Zba (Zbk (Zm1 (Zp Zn ZU T.b_len PySem.boot_len (Za (Zb 1) Ze))) (Zbk Zba ZlH)))))) Ze))) Zv))
theorem C16:Cal P w K mg base "sloped" 104 2 F_sloped:=ZN (N:=["m","ray"]) (T.d.at 15 25) T.gl fun _ _ _ _ _ _ _ nd hr θ=>(Zh (Zr (Zi (C8 T) θ hr (Za (Zi (C10 T) θ hr (Za (Zk (Zb 0) Zd) (Za (ZE (Za (Zk (Zb 1) Zd) (Za Zd Ze))) Ze))) (Za (Zi (C10 T) θ hr (Za (Zk (Zb 0) Zd) (Za (ZE (Za (Zk (Zb 1) Zd) (Za Zd Ze))) Ze))) Ze)))))
theorem C17:Cal P w K mg base "slope_through" 104 2 F_slope_through:=ZN (N:=["rays","height","a","b","c","d","first","second"]) (T.d.at 16 26) T.gl fun _ _ _ _ _ _ _ nd hr θ=>(Zf (ZhW (ZE (Za (Zk (Zb 0) Zd) (Za (Zk (Zb 0) Zd) Ze))) (ZaI (ZH hr (by decide)) (Zw (ZaI (ZH hr (by decide)) (Zw (Zm 2 nd) (Zw (Zm 3 nd) Z6)) (hlen:=(ZC (ZC (fun _ _ _ h=>Z7 h))))) (Zw (ZaI (ZH hr (by decide)) (Zw (Zm 4 nd) (Zw (Zm 5 nd) Z6)) (hlen:=(ZC (ZC (fun _ _ _ h=>Z7 h))))) Z6)) (hlen:=(ZC (ZC (fun _ _ _ h=>Z7 h))))))
  (Zf (Zga 6 7 (ZH hr (by decide)) nd (Za (Zk (Zb 1) Zd) (Za (Zk (Zb 1) Zd) Ze)))
  (Zh (Zr (ZE (Za (Zi (C9 T) θ hr (Za (Zi (C10 T) θ hr (Za (Zb 6) (Za (ZE (Za (Zb 5) (Za Zd Ze))) Ze))) (Za (Zi (C10 T) θ hr (Za (Zb 7) (Za (ZE (Za (Zb 3) (Za Zd Ze))) Ze))) Ze))) (Za (Zi (C9 T) θ hr (Za (Zi (C10 T) θ hr (Za (Zb 7) (Za (ZE (Za (Zb 2) (Za Zd Ze))) Ze))) (Za (Zi (C10 T) θ hr (Za (Zb 6) (Za (ZE (Za (Zb 4) (Za Zd Ze))) Ze))) Ze))) Ze)))))))
theorem C18:Cal P w K mg base "edge" 105 3 F_edge:=ZN (N:=["rays","height","at","ray","behind","own","low","high","other","its","across","asked","bottom"]) (T.d.at 17 28) T.gl fun _ _ _ _ _ _ _ nd hr θ=>(Zf (ZhW (ZE (Za (Zk (Zb 0) (Zb 2)) (Za (Zi (C4 T) θ hr (Za (Zb 0) (Za (Zb 2) Ze))) Ze))) (ZaI (ZH hr (by decide)) (Zw (Zm 3 nd) (Zw (Zm 4 nd) Z6)) (hlen:=(ZC (ZC (fun _ _ _ h=>Z7 h))))))
  (Zf (Zl 5 nd (Zk (Zb 1) (Zb 2))) (Zf (Znd Zct (Zm 6 nd) (Zm 7 nd)) (Zf (ZcS θ.own (Zdw (hr.hd (by decide)) T.b_zip (Za (Zb 0) (Za (Zb 1) Ze))) (ZaI (ZH hr (by decide)) (Zw (Zm 8 nd) (Zw (Zm 9 nd) Z6)) (hlen:=(ZC (ZC (fun _ _ _ h=>Z7 h))))) (Zf (Zl 10 nd (Zi (C3 T) θ hr (Za (Zb 3) (Za (Zb 8) Ze))))
  (Zf (Zl 11 nd (Zaa (ZD (ZD (Zi (C3 T) θ hr (Za (Zb 8) (Za (Zb 4) Ze))) (Zk (Zb 5) Zd)) (Zk (Zb 9) Zd)) (ZD (Zk (Zb 9) Zd) (Zk (Zb 5) Zd)))) (Zf (Zl 12 nd (ZD (ZD (Zb 10) (Zk (Zb 5) Zd)) (Zk (Zb 9) Zd))) (Zf (ZK (Zeg (Zcu (Zy (Zau hr.units) Zbz (Zb 10) Zd) (Zbi (Zy Zfg Zfl (Zb 11) Zd)))) (Zh (Zr (ZT Ze))) Zv) (Zf (ZK (Zeg (Zcu (Zy Zfg Zfl (Zb 10) Zd) (Zbi (Zeg (Zdk (Zy Zls Zpn (Zb 6) Zct) (ZbB (Zak (Zi (C11 T) θ hr (Za (Zb 6) (Za (ZE (Za (Zb 11) (Za (Zb 12) Ze))) Ze)))))))))) (Zh (Zl 6 nd (ZE (Za (Zb 11) (Za (Zb 12) Ze))))) Zv) (Zh (ZK (Zeg (Zcu (Zy ZdK ZdN (Zb 10) Zd) (Zbi (Zeg (Zdk (Zy Zls Zpn (Zb 7) Zct) (ZbB (Zak (Zi (C11 T) θ hr (Za (ZE (Za (Zbb (Zb 11)) (Za (Zbb (Zb 12)) Ze))) (Za (Zb 7) Ze)))))))))) (Zh (Zl 7 nd (ZE (Za (Zbb (Zb 11)) (Za (Zbb (Zb 12)) Ze))))) Zv))))))))
  (Zf (ZK (Zak (Zi (C11 T) θ hr (Za (Zb 7) (Za (Zb 6) Ze)))) (Zh (Zr (ZT Ze))) Zv) (Zh (Zr (Za0 (Zhi ["rays","height","at","ray","behind","own","low","high","other","its","across","asked","bottom"] ["end","ray","behind","own"] (dS 28) 1 [3,4,5]) (ZbE (ZE (Za (Zb 6) (Za (Zb 7) Ze)))) fun _ _ _ _ _=>⟨(Zm 0 (show cg (["end","ray","behind","own"]:List Str)by decide +kernel)),(dM ⟨rfl,rfl⟩),(Zi (C17 T) ZbO hr (Za (ZT (Za (Zb 1) (Za (Zb 2) Ze))) (Za (ZT (Za (ZE (Za (Zbb (Zk (Zb 3) Zd)) (Za (Zk (Zb 3) Zd) Ze))) (Za (Zi (C7 T) ZbO hr (Za (Zk (Zb 0) Zd) (Za (Zk (Zb 0) Zd) Ze))) Ze))) Ze)))⟩))))))))
theorem C19:Cal P w K mg base "in_order" 106 1 F_in_order:=ZpV (N:=["points","bottom"]) (T.d.at 18 29) T.lb_in_order T.gl fun _ _ _ _ _ _ _ hc nd hr θ=>(Zf (Zl 1 nd (Zi (C13 T) θ hr (Za (ZkJ (Zhi ["points","bottom"] ["point","part"] (dS 29) 2 []) (ZbE (Zb 0)) fun _ _ _ _ _=>⟨(Zm 0 (show cg (["point","part"]:List Str)by decide +kernel)),(dM ⟨rfl,rfl⟩),(ZbE (Zb 0)),(Zm 1 (show cg (["point","part"]:List Str)by decide +kernel)),(dM ⟨rfl,rfl⟩),(Zb 1)⟩) Ze)))
  (Zh (Zr (ZkR (k:=102) (ZkU T.lm_m) hc (hr.mono (by decide)) (ZvH (x:="point") ["points","bottom"] ["point","bottom"] (dS 29) [1]) T.b_sorted (Za (Zb 0) Ze) (fun _ _ _ _ _ hr=>(ZE (Za (Zi (C14 T) ZiU hr (Za (Zk (Zb 0) Zd) (Za (Zb 1) Ze))) (Za (Zi (C14 T) ZiU hr (Za (Zk (Zb 0) Zd) (Za (Zb 1) Ze))) Ze))))))))
theorem C20:Cal P w K mg base "body" 107 2 F_body:=ZN (N:=["rays","height","met","at","point"]) (T.d.at 19 30) T.gl fun _ _ _ _ _ _ _ nd hr θ=>(Zf (Z5 (Zi (C6 T) θ hr (Za (Zb 0) Ze))) (Zf (Z5 (Zi (C15 T) θ hr (Za (Zb 0) (Za (Zb 1) Ze)))) (Zf (Zl 2 nd ZpI) (Zf (ZaJ θ.own T.b_range (Za (Zp Zn ZU T.b_len PySem.boot_len (Za (Zb 0) Ze)) Ze) (Zm 3 nd) (Zh (ZaV θ.own (Zi (C18 T) θ hr (Za (Zb 0) (Za (Zb 1) (Za (Zb 3) Ze)))) (Zm 4 nd) (Zh (Zna hr.units (Zb 2) (Zb 4) ZaY))))) (Zh (Zr (Zi (C19 T) θ hr (Za (Zbj (Zg9 (hr.hd (by decide))) Znb T.b_list ZdP (Za (Zb 2) Ze)) Ze))))))))
theorem C21:Cal P w K mg base "contrary" 104 1 F_contrary:=ZN (N:=["one"]) (T.d.at 20 32) T.gl fun _ _ _ _ _ _ _ nd hr θ=>(Zh (Zr (Zi (C9 T) θ hr (Za (ZE (Za Zd (Za Zd Ze))) (Za (Zb 0) Ze)))))
theorem C22:Cal P w K mg base "height_of" 105 2 F_height_of:=ZN (N:=["rays","points"]) (T.d.at 21 33) T.gl fun _ _ _ _ _ _ _ nd hr θ=>(Zf (Z5 (Zi (C6 T) θ hr (Za (Zb 0) Ze))) (Zh (Zr (Za0 (Zhi ["rays","points"] ["ray","points"] (dS 33) 1 [1]) (ZbE (Zb 0)) fun B1 _ _ _ _=>⟨(Zm 0 (show cg (["ray","points"]:List Str)by decide +kernel)),(dM ⟨rfl,rfl⟩),(Zi (C12 T) ZbO hr (Za (Za0 (Zso B1 ["m","ray"] (dS 33) 1 [0]) (ZbE (Zb 1)) fun _ _ _ _ _=>⟨(Zm 0 (show cg (["m","ray"]:List Str)by decide +kernel)),(dM ⟨rfl,rfl⟩),(Zi (C21 T) ZbO hr (Za (Zi (C16 T) ZbO hr (Za (Zb 0) (Za (Zb 1) Ze))) Ze))⟩) Ze))⟩))))
theorem C23:Cal P w K mg base "balance" 101 2 F_balance:=ZN (N:=["rays","three","one","two","last","often"]) (T.d.at 22 35) T.gl fun _ _ _ _ _ _ _ nd hr θ=>(Zf (Znh (ZH hr (by decide)) (Za0 (Zhi ["rays","three","one","two","last","often"] ["at","rays"] (dS 35) 1 [0]) (ZbE (Zb 1)) fun _ _ _ _ _=>⟨(Zm 0 (show cg (["at","rays"]:List Str)by decide +kernel)),(dM ⟨rfl,rfl⟩),(Zk (Zb 1) (Zb 0))⟩) (Zw (Zm 2 nd) (Zw (Zm 3 nd) (Zw (Zm 4 nd) Z6))) (hlen:=(ZC (ZC (ZC (fun _ _ _ h=>Z7 h))))))
  (Zf (Zl 5 nd (ZT (Za (Zi (C3 T) θ hr (Za (Zb 3) (Za (Zb 4) Ze))) (Za (Zi (C3 T) θ hr (Za (Zb 4) (Za (Zb 2) Ze))) (Za (Zi (C3 T) θ hr (Za (Zb 2) (Za (Zb 3) Ze))) Ze))))) (Zh (Zr (Zsk (Zy Zsa Zsl (Zp (Zij (ZH hr (by decide))) ZmX T.b_min ZlC (Za (Zb 5) Ze)) Zd) (Zb 5) Zct)))))
theorem C24:Cal P w K mg base "threes" 1 1 F_threes:=ZN (N:=["many"]) (T.d.at 23 36) T.gl fun _ _ _ _ _ _ _ nd hr θ=>(Zh (Zr (ZkK (Zhi ["many"] ["i","j","k","many"] (dS 36) 3 [0]) (Zh2 T.b_range (Za (Zb 0) Ze)) fun _ _ _ _ _=>⟨(Zm 0 (show cg (["i","j","k","many"]:List Str)by decide +kernel)),(dM ⟨rfl,rfl⟩),(ZeH T.b_range (Za (ZL (Zb 0) Zd) (Za (Zb 3) Ze))),(Zm 1 (show cg (["i","j","k","many"]:List Str)by decide +kernel)),(dM ⟨rfl,rfl⟩),(ZeH T.b_range (Za (ZL (Zb 1) Zd) (Za (Zb 3) Ze))),(Zm 2 (show cg (["i","j","k","many"]:List Str)by decide +kernel)),(dM ⟨rfl,rfl⟩),(ZE (Za (Zb 0) (Za (Zb 1) (Za (Zb 2) Ze))))⟩)))
theorem C25:Cal P w K mg base "emptying" 103 2 F_emptying:=ZN (N:=["rays","height","bottom","wholes","three","often","weights","many","at"]) (T.d.at 24 37) T.gl fun _ _ _ _ _ _ _ nd hr θ=>(Zf (Zl 2 nd (Zi (C13 T) θ hr (Za (Zb 1) Ze))) (Zf (Zl 3 nd (Za0 (Zhi ["rays","height","bottom","wholes","three","often","weights","many","at"] ["own","bottom"] (dS 37) 1 [2]) (ZbE (Zb 1)) fun _ _ _ _ _=>⟨(Zm 0 (show cg (["own","bottom"]:List Str)by decide +kernel)),(dM ⟨rfl,rfl⟩),(Zi (C14 T) ZbO hr (Za (Zb 0) (Za (Zb 1) Ze)))⟩))
  (Zf (ZaV θ.own (Zi (C24 T) θ hr (Za (Zp Zn ZU T.b_len PySem.boot_len (Za (Zb 0) Ze)) Ze)) (Zm 4 nd) (Zf (Zl 5 nd (Zi (C23 T) θ hr (Za (Zb 0) (Za (Zb 4) Ze)))) (Zh (ZK (Zeg (Zcu (Zy Zew Zf6 (Zb 5) Zct) (Zbi (Zy ZdK ZdN (Zp (Zim (ZH hr (by decide))) ZmY T.b_sum Zpz (Za (Za0 (Zhi ["rays","height","bottom","wholes","three","often","weights","many","at"] ["many","at","wholes"] (dS 37) 2 [3]) (DLy2.Zdw (hr.hd (by decide)) T.b_zip (Za (Zb 5) (Za (Zb 4) Ze))) fun _ _ _ _ _=>⟨(ZaI (ZH hr (by decide)) (Zw (Zm 0 (show cg (["many","at","wholes"]:List Str)by decide +kernel)) (Zw (Zm 1 (show cg (["many","at","wholes"]:List Str)by decide +kernel)) Z6)) (hlen:=(ZC (ZC (fun _ _ _ h=>Z7 h))))),(dM ⟨rfl,rfl⟩),(ZD (Zb 0) (Zk (Zb 2) (Zb 1)))⟩) Ze)) Zd)))) (Zf (Zm2 6 nd (Zhi ["rays","height","bottom","wholes","three","often","weights","many","at"] ["ray"] (dS 37) 1 []) (ZbE (Zb 0)) fun _ _ _ _ _=>⟨(Zm 0 (show cg (["ray"]:List Str)by decide +kernel)),(dM ⟨rfl,rfl⟩),Zd⟩)
  (Zf (ZcS θ.own (DLy2.Zdw (hr.hd (by decide)) T.b_zip (Za (Zb 5) (Za (Zb 4) Ze))) (ZaI (ZH hr (by decide)) (Zw (Zm 7 nd) (Zw (Zm 8 nd) Z6)) (hlen:=(ZC (ZC (fun _ _ _ h=>Z7 h))))) (Zh (ZhX (Zb 6) (Zb 8) (Zb 7))))
  (Zh (Zr (Zb 6))))) Zv))))
  (Zh (Zr Zct)))))
theorem C26:Cal P w K mg base "parting" 108 2 F_parting:=ZN (N:=["rays","height","points","first"]) (T.d.at 25 38) T.gl fun _ _ _ _ _ _ _ nd hr θ=>(Zf (Zl 2 nd (Zi (C20 T) θ hr (Za (Zb 0) (Za (Zb 1) Ze)))) (Zf (ZK (Zy (Zau hr.units) Zbz (Zb 2) (ZT Ze)) (Zh (Zr (ZE (Za Zba (Za (Zi (C25 T) θ hr (Za (Zb 0) (Za (Zb 1) Ze))) Ze))))) Zv) (Zf (Zl 3 nd (Zi (C22 T) θ hr (Za (Zb 0) (Za (Zb 2) Ze)))) (Zh (Zr (ZE (Za Zba (Za (Zb 3) (Za (Za0 (Zhi (n:=0) ["rays","height","points","first"] ["own","part"] (dS 38) 2 []) (Zdw (hr.hd (by decide)) T.b_zip (Za (Zb 1) (Za (Zb 3) Ze))) fun _ _ _ _ _=>⟨(ZaI (ZH hr (by decide)) (Zw (Zm 0 (show cg (["own","part"]:List Str)by decide +kernel)) (Zw (Zm 1 (show cg (["own","part"]:List Str)by decide +kernel)) Z6)) (hlen:=(ZC (ZC (fun _ _ _ h=>Z7 h))))),(dM ⟨rfl,rfl⟩),(Zi (C9 T) ZbO hr (Za (Zb 0) (Za (Zb 1) Ze)))⟩) Ze)))))))))
theorem C27:Cal P w K mg base "_law_cell_at" 1 2 F_law_cell_at:=ZN (N:=["_law_script","_law_k","_law_cell","_law_one"]) (T.d.at 26 40) T.gl fun _ _ _ _ _ _ _ nd hr θ=>(Zf (Zl 2 nd Zd) (Zf (ZK (Zy ZdK ZdN (Zb 1) (Zp Zn ZU T.b_len PySem.boot_len (Za (Zb 0) Ze))) (Zh (Zl 2 nd (ZO (Zk (Zb 0) (Zb 1)) (ZcP Zd Zd)))) Zv) (Zf (ZK (Zy ZdK ZdN (Zb 2) (ZcP Zd Zd)) (Zf (Zl 3 nd (ZO (ZD (ZL (Zb 2) (ZD Zd (ZL (Zb 1) Zd))) Zd) (ZcP Zd Zd))) (Zh (Zl 2 nd (ZO (ZM (ZD (Zb 3) (Zb 3)) (ZcP Zd Zd)) (ZcP Zd Zd))))) Zv) (Zh (Zr (Zb 2))))))
theorem C28:Cal P w K mg base "_law_cross" 1 2 F_law_cross:=ZN (N:=["_law_one","_law_other"]) (T.d.at 27 41) T.gl fun _ _ _ _ _ _ _ nd hr θ=>(Zh (Zr (Zaa (ZD (Zk (Zb 0) Zd) (Zk (Zb 1) Zd)) (ZD (Zk (Zb 0) Zd) (Zk (Zb 1) Zd)))))
theorem C29:Cal P w K mg base "_law_turn" 101 2 F_law_turn:=ZN (N:=["_law_rays","_law_cell","_law_k","_law_much","_law_way","_law_new","_law_x","_law_y"]) (T.d.at 28 42) T.gl fun _ _ _ _ _ _ _ nd hr θ=>(Zf (ZaJ θ.own T.b_range (Za Zd Ze) (Zm 2 nd) (Zf (Zl 3 nd (Zaa (ZO (ZM (Zb 1) Zd) Zd) Zd)) (Zf (ZK (Zy (Zau hr.units) Zbz (ZO (ZM (Zb 1) Zd) Zd) Zd) (Zh (Zl 3 nd (Zaa (ZO (ZM (Zb 1) Zd) Zd) Zd))) Zv) (Zf (Zl 4 nd (ZO (Zb 1) Zd)) (Zf (Zl 1 nd (ZM (Zb 1) Zd)) (Zf (Zl 5 nd (ZT Ze)) (Zf (ZaV θ.own (Zb 0) (ZaI (ZH hr (by decide)) (Zw (Zm 6 nd) (Zw (Zm 7 nd) Z6)) (hlen:=(ZC (ZC (fun _ _ _ h=>Z7 h))))) (Zh (ZK (Zy (Zau hr.units) Zbz (Zb 4) Zd) (Zh (Z5 (ZQ (Zb 5) (ZE (Za (ZL (Zb 6) (ZD (Zb 3) (Zb 7))) (Za (Zb 7) Ze)))))) (Zh (ZK (Zy (Zau hr.units) Zbz (Zb 4) Zd) (Zh (Z5 (ZQ (Zb 5) (ZE (Za (Zb 6) (Za (ZL (Zb 7) (ZD (Zb 3) (Zb 6))) Ze)))))) (Zh (ZK (Zy (Zau hr.units) Zbz (Zb 4) Zd) (Zh (Z5 (ZQ (Zb 5) (ZE (Za (Zaa Zd (Zb 7)) (Za (Zb 6) Ze)))))) (Zh (Z5 (ZQ (Zb 5) (ZE (Za (Zb 6) (Za (Zb 7) Ze)))))))))))))
  (Zh (ZK (Zy Zj9 Zkl (Zp (Zii (ZH hr (by decide))) ZmW T.b_max ZlB (Za (ZL (Za0 (Zhi (n:=0) ["_law_rays","_law_cell","_law_k","_law_much","_law_way","_law_new","_law_x","_law_y"] ["_law_x","_law_y"] (dS 42) 2 []) (ZbE (Zb 5)) fun _ _ _ _ _=>⟨(ZaI (ZH hr (by decide)) (Zw (Zm 0 (show cg (["_law_x","_law_y"]:List Str)by decide +kernel)) (Zw (Zm 1 (show cg (["_law_x","_law_y"]:List Str)by decide +kernel)) Z6)) (hlen:=(ZC (ZC (fun _ _ _ h=>Z7 h))))),(dM ⟨rfl,rfl⟩),(Zp Zai ZbC T.b_abs ZbD (Za (Zb 0) Ze))⟩) (Za0 (Zhi (n:=0) ["_law_rays","_law_cell","_law_k","_law_much","_law_way","_law_new","_law_x","_law_y"] ["_law_x","_law_y"] (dS 42) 2 []) (ZbE (Zb 5)) fun _ _ _ _ _=>⟨(ZaI (ZH hr (by decide)) (Zw (Zm 0 (show cg (["_law_x","_law_y"]:List Str)by decide +kernel)) (Zw (Zm 1 (show cg (["_law_x","_law_y"]:List Str)by decide +kernel)) Z6)) (hlen:=(ZC (ZC (fun _ _ _ h=>Z7 h))))),(dM ⟨rfl,rfl⟩),(Zp Zai ZbC T.b_abs ZbD (Za (Zb 1) Ze))⟩)) Ze)) Zd) (Zh (Zl 0 nd (Zb 5))) Zv)))))))))
  (Zh (Zr (Zb 0))))
theorem C30:Cal P w K mg base "_law_smooth" 102 2 F_law_smooth:=ZN (N:=["_law_cell","_law_most","_law_count","_law_rays","_law_far","_law_k","_law_at","_law_one","_law_other","_law_more"]) (T.d.at 29 43) T.gl fun _ _ _ _ _ _ _ nd hr θ=>(Zf (Zl 2 nd (ZL Zd (ZO (Zb 0) (Zaa (Zb 1) Zd)))) (Zf (Zl 0 nd (ZM (Zb 0) (Zaa (Zb 1) Zd))) (Zf (Zl 3 nd (ZT (Za (ZE (Za Zd (Za Zd Ze))) (Za (ZE (Za Zd (Za Zd Ze))) (Za (ZE (Za (Zbb Zd) (Za (Zbb Zd) Ze))) Ze))))) (Zf (ZK (Zeg (Zcu (Zy Zfg Zfl (Zb 2) Zd) (Zbi (Zy Zfg Zfl (ZO (Zb 0) Zd) Zd)))) (Zf (Zl 4 nd (ZO (ZM (Zb 0) Zd) (Zk (ZT (Za Zd (Za Zd (Za Zd (Za Zd Ze))))) (ZO (ZM (Zb 0) Zd) Zd)))) (Zh (Zl 3 nd (ZT (Za (ZE (Za Zd (Za Zd Ze))) (Za (ZE (Za Zd (Za Zd Ze))) (Za (ZE (Za (Zbb Zd) (Za (Zb 4) Ze))) (Za (ZE (Za Zd (Za (Zbb Zd) Ze))) Ze)))))))) Zv) (Zf (Zl 0 nd (ZM (Zb 0) Zd)) (Zf (ZaJ θ.own T.b_range (Za (Zaa (Zb 2) (Zp Zn ZU T.b_len PySem.boot_len (Za (Zb 3) Ze))) Ze) (Zm 5 nd) (Zf (Zl 6 nd (ZO (Zb 0) (Zp Zn ZU T.b_len PySem.boot_len (Za (Zb 3) Ze)))) (Zf (Zl 0 nd (ZM (Zb 0) Zd)) (Zf (Zl 7 nd (Zk (Zb 3) (Zb 6))) (Zf (Zl 8 nd (Zk (Zb 3) (ZO (ZL (Zb 6) Zd) (Zp Zn ZU T.b_len PySem.boot_len (Za (Zb 3) Ze))))) (Zf (Zl 9 nd (ZE (Za (ZL (Zk (Zb 7) Zd) (Zk (Zb 8) Zd)) (Za (ZL (Zk (Zb 7) Zd) (Zk (Zb 8) Zd)) Ze)))) (Zh (ZK (Zeg (Zcu (Zy Zj9 Zkl (Zp Zai ZbC T.b_abs ZbD (Za (Zk (Zb 9) Zd) Ze)) Zd) (Zbi (Zy Zj9 Zkl (Zp Zai ZbC T.b_abs ZbD (Za (Zk (Zb 9) Zd) Ze)) Zd)))) (Zh (Zl 3 nd (ZL (ZL (Zh7 (Zb 3) Zh5 (Zh6 (ZL (Zb 6) Zd))) (ZT (Za (Zb 9) Ze))) (Zh7 (Zb 3) (Zh6 (ZL (Zb 6) Zd)) Zh5)))) Zv)))))))) (Zf (Zl 3 nd (Zi (C29 T) θ hr (Za (Zb 3) (Za (Zb 0) Ze)))) (Zf (Zl 6 nd (ZO (ZM (Zb 0) (ZcP Zd Zd)) (Zp Zn ZU T.b_len PySem.boot_len (Za (Zb 3) Ze)))) (Zh (Zr (ZL (Zh7 (Zb 3) (Zh6 (Zb 6)) Zh5) (Zh7 (Zb 3) Zh5 (Zh6 (Zb 6))))))))))))))
theorem C31:Cal P w K mg base "_law_ratio" 101 2 F_law_ratio:=ZN (N:=["_law_top","_law_bottom","_law_one","_law_other"]) (T.d.at 30 44) T.gl fun _ _ _ _ _ _ _ nd hr θ=>(Zf (Zl 2 nd (Zp Zai ZbC T.b_abs ZbD (Za (Zb 0) Ze))) (Zf (Zl 3 nd (Zb 1)) (Zf (Zgc θ.own (Zy Zfg Zfl (Zb 3) Zd) (Zh (Zga 2 3 (ZH hr (by decide)) nd (Za (Zb 3) (Za (ZO (Zb 2) (Zb 3)) Ze)))))
  (Zh (Zr (ZE (Za (ZM (Zb 0) (Zb 2)) (Za (ZM (Zb 1) (Zb 2)) Ze))))))))
theorem C32:Cal P w K mg base "_law_sum" 102 2 F_law_sum:=ZN (N:=["_law_one","_law_other"]) (T.d.at 31 45) T.gl fun _ _ _ _ _ _ _ nd hr θ=>(Zh (Zr (Zi (C31 T) θ hr (Za (ZL (ZD (Zk (Zb 0) Zd) (Zk (Zb 1) Zd)) (ZD (Zk (Zb 1) Zd) (Zk (Zb 0) Zd))) (Za (ZD (Zk (Zb 0) Zd) (Zk (Zb 1) Zd)) Ze)))))
theorem C33:Cal P w K mg base "_law_times" 102 2 F_law_times:=ZN (N:=["_law_many","_law_one"]) (T.d.at 32 46) T.gl fun _ _ _ _ _ _ _ nd hr θ=>(Zh (Zr (Zi (C31 T) θ hr (Za (ZD (Zb 0) (Zk (Zb 1) Zd)) (Za (Zk (Zb 1) Zd) Ze)))))
theorem C34:Cal P w K mg base "_law_less" 1 2 F_law_less:=ZN (N:=["_law_one","_law_other"]) (T.d.at 33 47) T.gl fun _ _ _ _ _ _ _ nd hr θ=>(Zh (Zr (Zdq ZdK ZdN (ZD (Zk (Zb 0) Zd) (Zk (Zb 1) Zd)) (ZD (Zk (Zb 1) Zd) (Zk (Zb 0) Zd)))))
theorem C35:Cal P w K mg base "_law_height" 102 3 F_law_height:=ZN (N:=["_law_cell","_law_rays","_law_far","_law_kind","_law_height_here","_law_ray","_law_top","_law_bottom"]) (T.d.at 34 48) T.gl fun _ _ _ _ _ _ _ nd hr θ=>(Zf (Zl 3 nd (ZO (Zb 0) Zd)) (Zf (Zl 0 nd (ZM (Zb 0) Zd)) (Zf (Zl 4 nd (ZT Ze)) (Zf (ZaV θ.own (Zb 1) (Zm 5 nd) (Zf (Zl 6 nd (Zaa (ZO (Zb 0) (ZL (ZL (Zb 2) (ZM (Zb 2) Zd)) Zd)) (ZM (Zb 2) Zd))) (Zf (Zl 7 nd (Zk (ZT (Za Zd (Za Zd (Za (ZL Zd (ZO (ZM (Zb 0) Zd) Zd)) (Za Zd Ze))))) (Zb 3))) (Zf (Zl 0 nd (ZM (Zb 0) Zd)) (Zf (ZK (Zeg (Zcu (Zy (Zau hr.units) Zbz (Zb 3) Zd) (Zbi (Zy Zfg Zfl (ZO (Zb 0) Zd) Zd)))) (Zh (Zl 6 nd (ZM (Zb 2) Zd))) Zv) (Zh (Z5 (ZQ (Zb 4) (Zi (C31 T) θ hr (Za (Zb 6) (Za (Zb 7) Ze))))))))))) (Zh (Zr (Zb 4)))))))
theorem C36:Cal P w K mg base "_law_dotted" 103 2 F_law_dotted:=ZN (N:=["_law_point","_law_ray"]) (T.d.at 35 49) T.gl fun _ _ _ _ _ _ _ nd hr θ=>(Zh (Zr (Zi (C32 T) θ hr (Za (Zi (C33 T) θ hr (Za (Zk (Zb 1) Zd) (Za (Zk (Zb 0) Zd) Ze))) (Za (Zi (C33 T) θ hr (Za (Zk (Zb 1) Zd) (Za (Zk (Zb 0) Zd) Ze))) Ze)))))
theorem C37:Cal P w K mg base "_law_within" 104 3 F_law_within:=ZN (N:=["_law_rays","_law_height_here","_law_point","_law_k"]) (T.d.at 36 50) T.gl fun _ _ _ _ _ _ _ nd hr θ=>(Zf (ZaJ θ.own T.b_range (Za (Zp Zn ZU T.b_len PySem.boot_len (Za (Zb 0) Ze)) Ze) (Zm 3 nd) (Zh (ZK (Zak (Zi (C34 T) θ hr (Za (Zi (C32 T) θ hr (Za (Zi (C36 T) θ hr (Za (Zb 2) (Za (Zk (Zb 0) (Zb 3)) Ze))) (Za (Zk (Zb 1) (Zb 3)) Ze))) (Za (ZE (Za Zd (Za Zd Ze))) Ze)))) (Zh (Zr ZaY)) Zv))) (Zh (Zr ZaY)))
theorem C38:Cal P w K mg base "_law_corners" 105 2 F_law_corners:=ZN (N:=["_law_rays","_law_height_here","_law_found","_law_i","_law_j","_law_far","_law_side","_law_x","_law_y","_law_point"]) (T.d.at 37 51) T.gl fun _ _ _ _ _ _ _ nd hr θ=>(Zf (Zl 2 nd (ZT Ze)) (Zf (ZaJ θ.own T.b_range (Za (Zp Zn ZU T.b_len PySem.boot_len (Za (Zb 0) Ze)) Ze) (Zm 3 nd) (Zh (Zge θ.own T.b_range (Za (ZL (Zb 3) Zd) (Za (Zp Zn ZU T.b_len PySem.boot_len (Za (Zb 0) Ze)) Ze)) (Zm 4 nd) (Zf (Zl 5 nd (Zi (C28 T) θ hr (Za (Zk (Zb 0) (Zb 3)) (Za (Zk (Zb 0) (Zb 4)) Ze)))) (Zh (ZK (Zy (ZaT hr.units) Zcg (Zb 5) Zd) (Zf (Zl 6 nd (ZM (Zb 5) (Zp Zai ZbC T.b_abs ZbD (Za (Zb 5) Ze)))) (Zf (Zl 7 nd (Zi (C32 T) θ hr (Za (Zi (C33 T) θ hr (Za (ZD (Zb 6) (Zk (Zk (Zb 0) (Zb 3)) Zd)) (Za (Zk (Zb 1) (Zb 4)) Ze))) (Za (Zi (C33 T) θ hr (Za (Zaa Zd (ZD (Zb 6) (Zk (Zk (Zb 0) (Zb 4)) Zd))) (Za (Zk (Zb 1) (Zb 3)) Ze))) Ze)))) (Zf (Zl 8 nd (Zi (C32 T) θ hr (Za (Zi (C33 T) θ hr (Za (ZD (Zb 6) (Zk (Zk (Zb 0) (Zb 4)) Zd)) (Za (Zk (Zb 1) (Zb 3)) Ze))) (Za (Zi (C33 T) θ hr (Za (Zaa Zd (ZD (Zb 6) (Zk (Zk (Zb 0) (Zb 3)) Zd))) (Za (Zk (Zb 1) (Zb 4)) Ze))) Ze)))) (Zf (Zl 9 nd (ZE (Za (Zi (C31 T) θ hr (Za (Zk (Zb 7) Zd) (Za (ZD (Zk (Zb 7) Zd) (Zp Zai ZbC T.b_abs ZbD (Za (Zb 5) Ze))) Ze))) (Za (Zi (C31 T) θ hr (Za (Zk (Zb 8) Zd) (Za (ZD (Zk (Zb 8) Zd) (Zp Zai ZbC T.b_abs ZbD (Za (Zb 5) Ze))) Ze))) Ze)))) (Zh (ZK (Zeg (Zcu (Zy (Zig hr.units) Zih (Zb 9) (Zb 2)) (Zbi (Zak (Zi (C37 T) θ hr (Za (Zb 0) (Za (Zb 1) (Za (Zb 9) Ze)))))))) (Zh (Z5 (ZQ (Zb 2) (Zb 9)))) Zv)))))) Zv)))))) (Zh (Zr (Zb 2)))))
theorem C39:Cal P w K mg base "_law_are_ratios" 1 1 F_law_are_ratios:=ZN (N:=["_law_found","_law_one","_law_x"]) (T.d.at 38 52) T.gl fun _ _ _ _ _ _ _ nd hr θ=>(Zf (ZK (Zb1 (Zak (ZcQ Zkn T.b_isinstance T.b_list ZdP (Zb 0)))) (Zh (Zr ZaY)) Zv) (Zf (ZaV θ.own (Zb 0) (Zm 1 nd) (Zf (ZK (Zeg (Zdk (Zb1 (Zak (ZcQ Zey T.b_isinstance T.b_tuple Zgg (Zb 1)))) (ZbB (Zy (ZaT hr.units) Zcg (Zp Zn ZU T.b_len PySem.boot_len (Za (Zb 1) Ze)) Zd)))) (Zh (Zr ZaY)) Zv) (Zh (ZaV θ.own (Zb 1) (Zm 2 nd) (Zh (ZK (Zeg (Zdk (Zb1 (Zak (ZcQ ZhT T.b_isinstance T.b_int Zgf (Zb 2)))) (ZbB (Zak (ZcQ Zf7 T.b_isinstance T.b_bool Zh0 (Zb 2)))))) (Zh (Zr ZaY)) Zv)))))) (Zh (Zr ZaY))))
theorem C40:Cal P w K mg base "_law_bends" 103 2 F_law_bends:=ZN (N:=["_law_rays","_law_height_here","_law_many","_law_found","_law_k","_law_behind","_law_own"]) (T.d.at 39 53) T.gl fun _ _ _ _ _ _ _ nd hr θ=>(Zf (Zl 2 nd (Zp Zn ZU T.b_len PySem.boot_len (Za (Zb 0) Ze))) (Zf (Zl 3 nd (ZT Ze)) (Zf (ZaJ θ.own T.b_range (Za (Zb 2) Ze) (Zm 4 nd) (Zf (Zl 5 nd (ZO (ZL (Zb 4) Zd) (Zb 2))) (Zf (Zl 6 nd (Zi (C33 T) θ hr (Za (Zaa Zd (Zi (C28 T) θ hr (Za (Zk (Zb 0) (Zaa (Zb 4) Zd)) (Za (Zk (Zb 0) (Zb 5)) Ze)))) (Za (Zk (Zb 1) (Zb 4)) Ze)))) (Zh (Z5 (ZQ (Zb 3) (Zi (C32 T) θ hr (Za (Zb 6) (Za (Zi (C32 T) θ hr (Za (Zk (Zb 1) (Zaa (Zb 4) Zd)) (Za (Zk (Zb 1) (Zb 5)) Ze))) Ze))))))))) (Zh (Zr (Zb 3))))))
theorem C41:Cal P w K mg base "_law_first" 104 2 F_law_first:=ZN (N:=["_law_rays","_law_points","_law_found","_law_ray","_law_best","_law_point","_law_here"]) (T.d.at 40 54) T.gl fun _ _ _ _ _ _ _ nd hr θ=>(Zf (Zl 2 nd (ZT Ze)) (Zf (ZaV θ.own (Zb 0) (Zm 3 nd) (Zf (Zl 4 nd (Zi (C33 T) θ hr (Za (Zbb Zd) (Za (Zi (C36 T) θ hr (Za (Zk (Zb 1) Zd) (Za (Zb 3) Ze))) Ze)))) (Zf (ZaV θ.own (Zh7 (Zb 1) (Zh6 Zd) Zh5) (Zm 5 nd) (Zf (Zl 6 nd (Zi (C33 T) θ hr (Za (Zbb Zd) (Za (Zi (C36 T) θ hr (Za (Zb 5) (Za (Zb 3) Ze))) Ze)))) (Zh (ZK (Zak (Zi (C34 T) θ hr (Za (Zb 4) (Za (Zb 6) Ze)))) (Zh (Zl 4 nd (Zb 6))) Zv)))) (Zh (Z5 (ZQ (Zb 2) (Zb 4))))))) (Zh (Zr (Zb 2)))))
theorem C42:Cal P w K mg base "_law_sized" 103 3 F_law_sized:=ZN (N:=["_law_script","_law_place","_law_far","_law_cell","_law_rays"]) (T.d.at 41 55) T.gl fun _ _ _ _ _ _ _ nd hr θ=>(Zf (Zl 3 nd (Zi (C27 T) θ hr (Za (Zb 0) (Za (Zb 1) Ze)))) (Zf (Zl 4 nd (Zi (C30 T) θ hr (Za (ZM (Zb 3) Zd) (Za (Zk (ZT (Za Zd (Za Zd (Za Zd (Za Zd (Za Zd (Za Zd (Za Zd (Za Zd Ze))))))))) (ZO (Zb 3) Zd)) Ze)))) (Zf (ZK (Zy (Zau hr.units) Zbz (ZO (ZM (Zb 3) Zd) Zd) Zd) (Zf (Zl 4 nd (Zi (C30 T) θ hr (Za (ZM (Zb 3) Zd) (Za Zd Ze)))) (Zh (Zl 2 nd (ZcP Zd Zd)))) Zv) (Zh (Zr (ZE (Za (Zb 4) (Za (Zi (C35 T) θ hr (Za (Zi (C27 T) θ hr (Za (Zb 0) (Za (ZL (Zb 1) Zd) Ze))) (Za (Zb 4) (Za (Zb 2) Ze)))) Ze))))))))
theorem C43:Cal P w K mg base "_law_is_below" 101 2 F_law_is_below:=ZN (N:=["_law_rays","_law_places","_law_many","_law_table","_law_i","_law_line","_law_j","_law_own","_law_last","_law_k","_law_head","_law_by","_law_x","_law_y"]) (T.d.at 42 56) T.gl fun _ _ _ _ _ _ _ nd hr θ=>(Zf (Zl 2 nd (Zp Zn ZU T.b_len PySem.boot_len (Za (Zb 0) Ze))) (Zf (Zl 3 nd (ZT Ze)) (Zf (ZaV θ.own (Zb 1) (Zm 4 nd) (Zf (Zl 5 nd (ZT Ze)) (Zf (ZaV θ.own (Zb 1) (Zm 6 nd) (Zf (Zl 7 nd Zd) (Zf (ZK (Zy (Zau hr.units) Zbz (Zb 4) (Zb 6)) (Zh (Zl 7 nd (Zi (C28 T) θ hr (Za (Zk (Zb 0) (Zaa (Zb 4) Zd)) (Za (Zk (Zb 0) (ZO (ZL (Zb 4) Zd) (Zb 2))) Ze))))) (Zh (Zl 7 nd (Zaa (Zaa Zd (Zbj Zem Zlv T.b_int Zgf (Za (Zdq (Zau hr.units) Zbz (ZO (ZL (Zb 4) Zd) (Zb 2)) (Zb 6)) Ze))) (Zbj Zem Zlv T.b_int Zgf (Za (Zdq (Zau hr.units) Zbz (ZO (ZL (Zb 6) Zd) (Zb 2)) (Zb 4)) Ze)))))) (Zh (Z5 (ZQ (Zb 5) (Zb 7))))))) (Zh (Z5 (ZQ (Zb 3) (Zb 5))))))) (Zf (Zl 8 nd Zd) (Zf (ZaJ θ.own T.b_range (Za (Zp Zn ZU T.b_len PySem.boot_len (Za (Zb 3) Ze)) Ze) (Zm 9 nd) (Zf (Zl 10 nd (Zk (Zk (Zb 3) (Zb 9)) (Zb 9))) (Zf (ZK (Zy Zj9 Zkl (Zb 10) Zd) (Zh (Zr ZaY)) Zv) (Zf (Zge θ.own T.b_range (Za (ZL (Zb 9) Zd) (Za (Zp Zn ZU T.b_len PySem.boot_len (Za (Zb 3) Ze)) Ze)) (Zm 4 nd) (Zf (Zl 11 nd (Zk (Zk (Zb 3) (Zb 4)) (Zb 9))) (Zf (Zl 5 nd (ZT Ze)) (Zf (ZcS θ.own (Zdw (hr.hd (by decide)) T.b_zip (Za (Zk (Zb 3) (Zb 4)) (Za (Zk (Zb 3) (Zb 9)) Ze))) (ZaI (ZH hr (by decide)) (Zw (Zm 12 nd) (Zw (Zm 13 nd) Z6)) (hlen:=(ZC (ZC (fun _ _ _ h=>Z7 h))))) (Zh (Z5 (ZQ (Zb 5) (ZM (Zaa (ZD (Zb 10) (Zb 12)) (ZD (Zb 11) (Zb 13))) (Zb 8))))))
  (Zh (ZhX (Zb 3) (Zb 4) (Zb 5)))))))
  (Zh (Zl 8 nd (Zb 10)))))))
  (Zh (Zr ZaY)))))))
theorem C44:Cal P w K mg base "_law_five" 104 4 F_law_five:=ZN (N:=["_law_rays","_law_height_here","_law_first_here","_law_stuck","_law_many","_law_bent","_law_places","_law_k"]) (T.d.at 43 57) T.gl fun _ _ _ _ _ _ _ nd hr θ=>(Zf (Zl 4 nd (Zp Zn ZU T.b_len PySem.boot_len (Za (Zb 0) Ze))) (Zf (Zl 5 nd (Zi (C40 T) θ hr (Za (Zb 0) (Za (Zb 2) Ze)))) (Zf (Zl 6 nd (ZT Ze)) (Zf (ZaJ θ.own T.b_range (Za (Zb 4) Ze) (Zm 7 nd) (Zf (ZK (Zy (ZaT hr.units) Zcg (Zi (C32 T) θ hr (Za (Zk (Zb 2) (Zb 7)) (Za (Zk (Zb 3) (Zb 7)) Ze))) (Zk (Zb 1) (Zb 7))) (Zh (Zr ZaY)) Zv) (Zf (ZK (Zeg (Zdk (Zy ZdK ZdN (Zk (Zk (Zb 5) (Zb 7)) Zd) Zd) (ZbB (Zy ZdK ZdN (Zk (Zk (Zb 3) (Zb 7)) Zd) Zd)))) (Zh (Zr ZaY)) Zv) (Zh (ZK (Zy Zfg Zfl (Zk (Zk (Zb 3) (Zb 7)) Zd) Zd) (Zf (Z5 (ZQ (Zb 6) (Zb 7))) (Zh (ZK (Zy (ZaT hr.units) Zcg (Zk (Zk (Zb 5) (Zb 7)) Zd) Zd) (Zh (Zr ZaY)) Zv))) Zv))))) (Zh (Zr (Zi (C43 T) θ hr (Za (Zb 0) (Za (Zb 6) Ze)))))))))
theorem C45:Cal P w K mg base "_law_right" 106 3 F_law_right:=ZN (N:=["_law_rays","_law_height_here","_law_found","_law_points","_law_some"]) (T.d.at 44 58) T.gl fun _ _ _ _ _ _ _ nd hr θ=>(Zf (Zl 3 nd (Zi (C38 T) θ hr (Za (Zb 0) (Za (Zb 1) Ze)))) (Zf (ZK (Zb1 (Zak (ZcQ Zey T.b_isinstance T.b_tuple Zgg (Zb 2)))) (Zh (Zr ZaY)) Zv) (Zf (ZK (Zy (Zau hr.units) Zbz (Zb 3) (ZT Ze)) (Zh (Zr (Zlr (Zdq (Zau hr.units) Zbz (Zp Zn ZU T.b_len PySem.boot_len (Za (Zb 2) Ze)) Zd) (Zlq (Zdq (Zau hr.units) Zbz (Zk (Zb 2) Zd) Zba))))) Zv) (Zf (ZK (Zeg (Zdk (Zy (ZaT hr.units) Zcg (Zp Zn ZU T.b_len PySem.boot_len (Za (Zb 2) Ze)) Zd) (ZbB (Zy (ZaT hr.units) Zcg (Zk (Zb 2) Zd) Zba)))) (Zh (Zr ZaY)) Zv) (Zf (ZaV θ.own (ZE (Za (Zk (Zb 2) Zd) (Za (Zk (Zb 2) Zd) Ze))) (Zm 4 nd) (Zh (ZK (Zeg (Zdk (Zb1 (Zak (Zi (C39 T) θ hr (Za (Zb 4) Ze)))) (ZbB (Zy (ZaT hr.units) Zcg (Zp Zn ZU T.b_len PySem.boot_len (Za (Zb 4) Ze)) (Zp Zn ZU T.b_len PySem.boot_len (Za (Zb 0) Ze)))))) (Zh (Zr ZaY)) Zv))) (Zf (ZK (Zy (ZaT hr.units) Zcg (Zk (Zb 2) Zd) (Zi (C41 T) θ hr (Za (Zb 0) (Za (Zb 3) Ze)))) (Zh (Zr ZaY)) Zv) (Zh (Zr (Zi (C44 T) θ hr (Za (Zb 0) (Za (Zb 1) (Za (Zk (Zb 2) Zd) (Za (Zk (Zb 2) Zd) Ze)))))))))))))
theorem ZrE{f:Addr}{fd:gZ}(F:Fun K "law" "law" (top 59) f fd):FnOk P w K mg base (CXE P w) 109 f fd ["_law_script"] (spD K ZfN):=
 have nd:cg (["_law_script","_law_place","_law_rays","_law_height_here","_law_lent","_law_found"]:List Str):=by decide +kernel
 Zps (N:=["_law_script","_law_place","_law_rays","_law_height_here","_law_lent","_law_found"]) F ⟨rfl,rfl,rfl,nd,rfl,by decide +kernel,by decide +kernel⟩ rfl rfl fun _ _ _ _ _ _ hr θ=>(Zf (ZcS θ.own (ZiI T.b_range (Za Zd (Za (Zp (Zhv (ZH hr (by decide))) Zpp T.b_max ZlB (Za Zd (Za (Zp (Zhw (ZH hr (by decide))) Zpq T.b_min ZlC (Za (Zp Zn ZU T.b_len PySem.boot_len (Za (Zb 0) Ze)) (Za Zd Ze))) Ze))) (Za Zd Ze)))) (Zm 1 nd) (Zf (ZhW (Zi (C42 T) θ hr (Za (Zb 0) (Za (Zb 1) (Za (Zk (ZT (Za Zd (Za Zd (Za Zd (Za Zd Ze))))) (ZO (ZM (Zi (C27 T) θ hr (Za (Zb 0) (Za (Zb 1) Ze))) Zd) Zd)) Ze)))) (ZaI (ZH hr (by decide)) (Zw (Zm 2 nd) (Zw (Zm 3 nd) Z6)) (hlen:=(ZC (ZC (fun _ _ _ h=>Z7 h))))))
  (Zf (Zl 4 nd (ZT (Za (Zbj Zcs ZhR T.b_list ZdP (Za (Zb 2) Ze)) (Za (Zbj Zcs ZhR T.b_list ZdP (Za (Zb 3) Ze)) Ze)))) (Zf (Zl 5 nd (Zi (C26 T) θ hr (Za (Zk (Zb 4) Zd) (Za (Zk (Zb 4) Zd) Ze)))) (Zf (ZK (Zeg (Zdk (Zy (ZaT hr.units) Zcg (Zb 4) (ZT (Za (Zb 2) (Za (Zb 3) Ze)))) (ZbB (Zb1 (Zak (Zi (C45 T) θ hr (Za (Zb 2) (Za (Zb 3) (Za (Zb 5) Ze))))))))) (Zh (Zr ZaY)) Zv) (Zh (ZK (Zy (Zau hr.units) Zbz (Zk (Zb 5) Zd) Zba) (Zf (ZhX (Zk (Zb 5) Zd) Zd (ZE (Za Zd (Za Zd Ze)))) (Zf (Z5 (ZQ (Zk (Zb 5) Zd) (ZE (Za Zd (Za Zd Ze))))) (Zh (ZK (Zeg (Zdk (Zb1 (Zak (Zi (C45 T) θ hr (Za (Zb 2) (Za (Zb 3) (Za (Zi (C26 T) θ hr (Za (Zk (Zb 4) Zd) (Za (Zk (Zb 4) Zd) Ze))) Ze)))))) (ZbB (Zy (ZaT hr.units) Zcg (Zb 4) (ZT (Za (Zb 2) (Za (Zb 3) Ze))))))) (Zh (Zr ZaY)) Zv)))) Zv)))))))
  (Zh (Zr ZaY)))
end
theorem fin{l:PySem.W.OpenLaw}(X:K.In h)(G:h.Ns aI mg)(hfa:mg "law"=some (.ref fa))(T:Txt K mg):∃fd:gZ,(∀(s:aC)(v:aa),kM s fd ⟨[v],[]⟩ [("_law_script",v)])/\∀base:Heap,K.In base->base.Ns aI mg->FnOk l.prog w K mg base (CXE l.prog w) 109 fa fd ["_law_script"] (spD K ZfN):=
 Zpt (l:=l) (w:=w) X G hfa (T.d.at 45 59) (fun _ _ _ _ _ _ _=>rfl) fun base fd F=>ZrE (base:=base) T F
end K55
section
set_option maxHeartbeats 400000
namespace K55
open L2 DL
open CV CN CU CS
open CR (rt Sz)
open CH (rts ZA ZP)
open CD (pts ZS Za5 hts)
open Rb BD BL PT
section
variable {M:Sto}{m k i j o:Nat}{rs:List Pt}{R:W0}
theorem ZwF(y:Rat):(((-1:Int)):Rat)*y=0-y:=by
 rw[show((-1:Int):Rat)= -1 from rfl];grind
theorem ZjU{fs:List Rat}(h:j<fs.length):cq (fs++[g]) j=cq fs j:=by
 rw[ZaC (by simp;lia),ZaC h,jl h]
theorem ZjV:cq (fs++[g]) (fs.length:Nat)=g:=by
 rw[ZaC (by simp)]
 simp
theorem ZrF(hz:z= -1)(hy:Sz l y)(hl:l<=8000):wO (BL.F_law_times [.int z,rt y] M) Q E=Q (rt (0-y)) M:=by
 rw[ZaM (z:=z) (l:=1) (by lia) hy (by lia) hl,show(z:Rat)*y=0-y by rw[hz];exact ZwF y]
theorem Zle(h:M[n]?=some (.lst (prs rs)))(hne:rs≠[])(hb:Nr 200 rs)(hl:rs.length<=1000)(ho:M[o]?=some (.lst (rp p0::pts ps)))(ml:ps.length<=1000)(hz:∀p∈p0::ps,Sz K p.1/\Sz K p.2)(hK:K<=1000)(q:∀M',Kp M M'->M'[M.length]?=some (.lst (rts (hts rs (p0::ps))))->Q (.ref M.length) M'):wO (F_law_first [.ref n,.ref o] M) Q E:=by
 have hn:=Zs h;have ho':=Zs ho;simp![F_law_first,Zdi];refine Zaz (xs:=prs rs) (fun i ρ M'=>Kp M M'/\∃fs x3 x4 x5 x6,ρ=[some (.ref n),some (.ref o),some (.ref M.length),x3,x4,x5,x6]/\M'[M.length]?=some (.lst (rts fs))/\fs.length=i/\∀j:Nat,j<i->cq fs j=cq (hts rs (p0::ps)) j) (Kp.app.get h) ⟨Kp.app,[],_,_,_,_,rfl,by simp[rts],rfl,fun j hj=>by lia⟩ (fun i ρ M' hI=>hI.1.get h) ?_ ?_
 ·rintro i ρ M1 hi ⟨K1,fs,x3,x4,x5,x6,rfl,r1,len,eqs⟩;rw[ZI]at hi;rw[CC.Zcl];have br:=hb _ (ZR (i:=i) hne);have z0:=hz p0 (by simp)
  have ho1:=K1.get ho;have sl:=fun(p:RP) (hp:p∈p0::ps)=>ZlZ (hz p hp).1 (hz p hp).2 br;have sz0:∀p∈p0::ps,Sz (2*K+19) (0-slp p (cy rs i)):=fun p hp=>by
   have:=CS.ZdB (CS.ZX (z:=0) (k:=1) (by decide) (by decide)) (sl p hp)
   exact Zjp this (by lia)
  have zm:∃z:Int,z= -1:=⟨_,rfl⟩;obtain⟨z,zm⟩:=zm;simp![ZbK,ho1,Zde z0.1 z0.2 br (by lia)]
  rw[<-zm,ZrF zm (sl p0 (by simp)) (by lia)]
  simp![ho1];have K2:Kp M (M1++[SO.lst (pts ps)]):=K1.trans Kp.app;have r2:(M1++[SO.lst (pts ps)])[M1.length]?=some (.lst (pts ps)):=by simp
  have r1:(M1++[SO.lst (pts ps)])[M.length]?=some (.lst (rts fs)):=Kp.app.get r1;rw[show List.drop 1 (rp p0::pts ps)=pts ps from rfl];generalize M1++[SO.lst (pts ps)]=M2 at *;have hm2:=Zs r1;refine Zaz (xs:=pts ps) (fun j ρ M'=>M'=M2/\∃g x5 x6,ρ=[some (.ref n),some (.ref o),some (.ref M.length),some (pr (cy rs i).1 (cy rs i).2),some (rt g),x5,x6]/\(∃p∈p0::ps.take j,0-slp p (cy rs i)=g)/\∀p∈p0::ps.take j,0-slp p (cy rs i)<=g) r2 ⟨rfl,_,_,_,rfl,⟨p0,by simp,rfl⟩,fun p hp=>by simp at hp;rw[hp];exact d7⟩ (fun j ρ M' hI=>by rw[hI.1];exact r2) ?_ ?_
  ·rintro j ρ M' hj ⟨rfl,g,x5,x6,rfl,⟨p1,m1,e1⟩,le⟩;rw[ZS]at hj;rw[Za5];have mj:ps[j]∈p0::ps:=aA _ (bQ hj);have zj:=hz _ mj;have up:∀p∈p0::ps.take j,p∈p0::ps:=fun p hp=>by
    rcases ah.mp hp with rfl|hp
    ·simp
    ·exact aA _ (ft hp)
   have sg:=sz0 p1 (up p1 m1);rw[e1]at sg;have sj:=sz0 _ mj;simp![ZbJ,Zde zj.1 zj.2 br (by lia)]
   rw[<-zm,ZrF zm (sl _ mj) (by lia)]
   simp![ZjI sg sj (by lia)]
   have m2:p1∈p0::ps.take (j+1):=by
    rcases ah.mp m1 with z|z
    ·rw[z];exact bE
    ·exact aA _ (by rw[aV hj];exact dY _ z)
   have tk:ps.take (j+1)=ps.take j++[ps[j]]:=aV hj;refine brS (fun c=>?_) (fun c=>?_)
   ·simp![Zo];refine⟨_,_,_,rfl,⟨ps[j],aA _ (by rw[tk];exact aS _ (b9.mpr rfl)),rfl⟩,fun p hp=>?_⟩
    rw[tk]at hp;rcases ah.mp hp with rfl|hp
    ·exact jO (le _ (by simp)) (lR c)
    ·rcases bq.mp hp with hp|hp
     ·exact jO (le _ (aA _ hp)) (lR c)
     ·rw[b9.mp hp];exact d7
   ·simp![Zo];refine⟨_,_,_,rfl,⟨p1,m2,e1⟩,fun p hp=>?_⟩;rw[tk]at hp;rcases ah.mp hp with rfl|hp
    ·exact le _ (by simp)
    ·rcases bq.mp hp with hp|hp
     ·exact le _ (aA _ hp)
     ·rw[b9.mp hp];exact Rat.not_lt.mp c
  ·rintro ρ M' ⟨rfl,g,x5,x6,rfl,⟨p1,m1,e1⟩,le⟩;rw[ZS,cZ]at le m1;have hg:=ZjS (rs:=rs) hi ⟨p1,m1,e1⟩ le;simp![r1,aF hm2];refine⟨by rw[ZA];lia,K2.set (ac _),fs++[g],_,_,_,_,rfl,by rw[ZP],by simp[len],fun j hj=>?_⟩
   rcases(show j<i\/j=i by lia)with c|c
   ·rw[ZjU (by lia)];exact eqs j c
   ·rw[c,<-len,ZjV,len];exact hg.symm
 ·rintro ρ M1 ⟨K1,fs,x3,x4,x5,x6,rfl,r1,len,eqs⟩;rw[ZI]at len eqs;simp![Zo];rw[Zrb len Za8 eqs]at r1;exact q M1 K1 r1
theorem Zlf(h:M[n]?=some (.lst (prs rs)))(hne:rs≠[])(hb:Nr 200 rs)(hl:rs.length<=1000)(h':M[m]?=some (.lst (rts fx)))(e:fx.length=rs.length)(hz:∀x∈fx,Sz l x)(hk:l<=1000)(q:∀bs,bs.length=rs.length->(∀i:Nat,i<rs.length->cq bs i=bnd rs fx i)->Q (.ref M.length) (M++[.lst (rts bs)])):wO (F_law_bends [.ref n,.ref m] M) Q E:=by
 have hn:=Zs h;have hm:=Zs h';have l0:0<rs.length:=bK.mpr hne;simp! -implicitDefEqProofs [F_law_bends,Zdh,h];refine⟨by lia,?_⟩
 rw[bR];refine ZbF (n:=rs.length) (lo:=0) (fun i ρ M'=>∃bs x4 x5 x6,ρ=[some (.ref n),some (.ref m),some (.int rs.length),some (.ref M.length),x4,x5,x6]/\M'=M++[.lst (rts bs)]/\bs.length=i/\∀j:Nat,j<i->cq bs j=bnd rs fx j) ⟨[],_,_,_,rfl,rfl,rfl,fun j hj=>by lia⟩ ?_ ?_
 ·rintro i ρ M1 hi ⟨bs,x4,x5,x6,rfl,rfl,len,eqs⟩;rw[show(0:Int)+(i:Nat)=i by lia]
  have g1:(M++[SO.lst (rts bs)])[n]?=some (.lst (prs rs)):=Kp.app.get h;have g2:(M++[SO.lst (rts bs)])[m]?=some (.lst (rts fx)):=Kp.app.get h';have a0:=bX ((i:Int)+1) (show(rs.length:Int)≠0 by lia)
  have a1:=bA ((i:Int)+1) (show(0:Int)<rs.length by lia)
  have b1:=hb _ (ZR (i:=(i:Int)-1) hne);have b2:=hb _ (ZR (i:=(i:Int)+1) hne);have xl:=Zos b1 b2;have t1:(T rs i).natAbs<2^17:=by unfold T;lia
  have s0:=ZaG (i:=(i:Int)) hz (by lia)
  have s1:=ZaG (i:=(i:Int)-1) hz (by lia)
  have s2:=ZaG (i:=(i:Int)+1) hz (by lia)
  have cm:cy rs (((i:Int)+1)%(rs.length:Int))=cy rs ((i:Int)+1):=Zb9;have cm2:cq fx (((i:Int)+1)%(rs.length:Int))=cq fx ((i:Int)+1):=by rw[<-e,ZgA]
  simp! -implicitDefEqProofs [ZbI,g1,ZbG];rw[cm];simp! -implicitDefEqProofs [CC.Zji (a:=(cy rs ((i:Int)-1)).1) (b:=(cy rs ((i:Int)-1)).2) (c:=(cy rs ((i:Int)+1)).1) (d:=(cy rs ((i:Int)+1)).2) (by lia) (by lia),g2,Zbo]
  rw[show(0-((cy rs ((i:Int)-1)).1*(cy rs ((i:Int)+1)).2-(cy rs ((i:Int)-1)).2*(cy rs ((i:Int)+1)).1))=T rs i from rfl];have eb:bnd rs fx i=(T rs i:Rat)*cq fx i+(cq fx ((i:Int)-1)+cq fx ((i:Int)+1)):=by unfold bnd;grind
  generalize T rs i=t at *;have r1:(M++[SO.lst (rts bs)])[M.length]?=some (.lst (rts bs)):=by simp
  rw[ZaM t1 s0 (by lia) (by lia)]
  simp! -implicitDefEqProofs [g2,Zbo];rw[cm2,Zdd s1 s2 (by lia)]
  simp! -implicitDefEqProofs [];rw[Zdd (CR.Z2 (ZX t1 (by decide)) s0) (CR.Zc6 s1 s2) (by lia)]
  simp! -implicitDefEqProofs [r1];refine⟨by rw[ZA];lia,bs++[(t:Rat)*cq fx i+(cq fx ((i:Int)-1)+cq fx ((i:Int)+1))],_,_,_,rfl,?_,by simp[len],fun j hj=>?_⟩
  ·rw[ZP]
  ·rcases(show j<i\/j=i by lia)with c|c
   ·rw[ZjU (by lia)];exact eqs j c
   ·rw[c]
    have:=ZjV (fs:=bs) (g:=(t:Rat)*cq fx i+(cq fx ((i:Int)-1)+cq fx ((i:Int)+1)))
    rw[len]at this;rw[this,eb]
 ·rintro ρ M1 ⟨bs,x4,x5,x6,rfl,rfl,len,eqs⟩;simp! -implicitDefEqProofs [];exact q bs len eqs
def Zdj(e:Nat->Nat->Nat->Int)(m k i:Nat):List Int:=(aL m).map fun j=>if j<k then 0 else e k i j
theorem Zbt:(Zdj e m k i).length=m:=by simp[Zdj]
theorem Zmc(h:j<m):cn (Zdj e m k i) j=if j<k then 0 else e k i j:=by
 rw[ZlR (by rw[Zbt];exact h)]
 simp[Zdj]
def Zj1(e:Nat->Nat->Nat->Int)(m k i j:Nat):List Int:=if k<j/\j<i then Zdj e m (k+1) j else Zdj e m k j
structure Tab(e:Nat->Nat->Nat->Int) (M:Sto) (tb m k i:Nat) (Rf:List Nat):Prop where
 len:Rf.length=m
 tab:M[tb]?=some (.lst (Rf.map D.ref))
 row:∀j:Nat,(h:j<Rf.length)->k<=j->M[Rf[j]]?=some (.lst (nts (Zj1 e m k i j)))
structure El(e:Nat->Nat->Nat->Int) (d:Nat->Int) (m:Nat):Prop where
 st:∀k i j,k<i->k<j->i<m->j<m->d (k+1)*e k i j-e k i k*e k k j=d k*e (k+1) i j
 hd:∀k,k+1<m->e k k k=d (k+1)
 pos:∀k,k<m->0<e k k k
 dp:∀k,k<m->0<d k
 d0:d 0=1
 big:∀k i j,k<m->i<m->(e k i j).natAbs<2^252
 dbig:∀k,k<m->(d k).natAbs<2^252
theorem El.val(h:El e d m)(hk:k<i)(hi:i<m)(hj:j<m):(e k k k*(if j<k then 0 else e k i j)-e k i k*(if j<k then 0 else e k k j))/d k=if j<k+1 then 0 else e (k+1) i j:=by
 by_cases c:j<k
 ·rw[if_pos c,if_pos c,if_pos (by lia)]
  simp
 ·rw[if_neg c,if_neg c];by_cases c2:j=k
  ·subst c2;rw[if_pos (by lia),fC,Int.sub_self]
   simp
  ·rw[if_neg (by lia),h.hd k (by lia),h.st k i j hk (by lia) hi hj,Int.mul_ediv_cancel_left]
   have:=h.dp k (by lia)
   lia
theorem ZrG(h:El e d m)(hk:k<i)(hi:i<m):(aL m).map (fun j=>(e k k k*(if j<k then 0 else e k i j)-e k i k*(if j<k then 0 else e k k j))/d k)=Zdj e m (k+1) i:=by
 unfold Zdj;refine dm fun j hj=>?_;exact h.val hk hi (cA.mp hj)
theorem ZrW:nts xs++[D.int z]=nts (xs++[z]):=by simp[nts]
theorem ZrH(h:El e d m)(hk:k<i)(hi:i<m)(m1:m<=14)(t:Tab e M tb m k i Rf)(q:∀Rf' M' x5 x6 x7 x11 x12 x13,Tab e M' tb m k (i+1) Rf'->(∀j,j<M.length->j≠tb->M'[j]?=M[j]?)->M.length<=M'.length->N [some (.ref n),some (.ref o),some (.int mn),some (.ref tb),some (.int i),x5,x6,x7,some (.int (d k)),some (.int k),some (.int (e k k k)),x11,x12,x13] M'):wS (Zah [some (.ref n),some (.ref o),some (.int mn),some (.ref tb),some (.int i),x5,x6,x7,some (.int (d k)),some (.int k),some (.int (e k k k)),x11,x12,x13] M) N R B C E:=by
 have ri:=t.row i (by rw[t.len];exact hi) (by lia)
 have rk:=t.row k (by rw[t.len];lia) (ac _)
 unfold Zj1 at ri rk;rw[if_neg (by lia)]at ri rk
 have li:=Zs ri;have lk:=Zs rk;have lt:=Zs t.tab;have ga:∀z:Nat,(hz:z<Rf.length)->atI (Rf.map D.ref) (z:Int)=some (.ref Rf[z]):=fun z hz=>by
  unfold atI;rw[ay,ZcY hz];simp[hz]
 have ai:=ga i (by rw[t.len];exact hi)
 have ak:=ga k (by rw[t.len];lia)
 have tt:=t.tab;have ax:atI (nts (Zdj e m k i)) (k:Int)=some (.int (e k i k)):=by rw[Zi9 (by rw[Zbt];lia),Zmc (by lia),if_neg (by lia)]
 have tl:=t.len;generalize ea:Rf[i]'(by rw[t.len];exact hi)=a at *
 generalize eb:Rf[k]'(by rw[t.len];lia)=b at *
 simp![Zah,tt,ai,ak,ri,ax];have dpos:=h.dp k (by lia)
 refine ZlU (xs:=nts (Zdj e m k i)) (ys:=nts (Zdj e m k k)) (fun j ρ M'=>M'=M++[SO.lst (nts ((aL j).map fun j=>(e k k k*(if j<k then 0 else e k i j)-e k i k*(if j<k then 0 else e k k j))/d k))]/\∃x12 x13,ρ=[some (D.ref n),some (D.ref o),some (D.int mn),some (D.ref tb),some (D.int i),some (D.ref M.length),x6,x7,some (D.int (d k)),some (D.int k),some (D.int (e k k k)),some (D.int (e k i k)),x12,x13]) (Kp.app.get ri) (by simp[nts,Zbt]) ⟨by simp[nts],_,_,rfl⟩ (fun j ρ M' hI=>hI.1▸⟨Kp.app.get ri,Kp.app.get rk⟩) ?_ ?_
 ·rintro j ρ M' hj ⟨rfl,x12,x13,rfl⟩;have hj':j<m:=by simpa [nts,Zbt]using hj
  have g1:(nts (Zdj e m k i))[j]=D.int (if j<k then 0 else e k i j):=by simp[nts,Zdj]
  have g2:(nts (Zdj e m k k))[j]'(by simpa [nts,Zbt]using hj')=D.int (if j<k then 0 else e k k j):=by simp[nts,Zdj]
  rw[g1,g2];have b1:(if j<k then 0 else e k i j).natAbs<2^252:=by
   split
   ·decide +kernel
   ·exact h.big k i j (by lia) hi
  have b2:(if j<k then 0 else e k k j).natAbs<2^252:=by
   split
   ·decide +kernel
   ·exact h.big k k j (by lia) (by lia)
  rw[cJ,cD,List.map_singleton];generalize (if j<k then 0 else e k i j)=u at *;generalize (if j<k then 0 else e k k j)=v at *;have f1:Zu (e k k k) u:=Zq 252 252 (h.big k k k (by lia) (by lia)) b1 (by lia) (by lia)
  have f2:Zu (e k i k) v:=Zq 252 252 (h.big k i k (by lia) hi) b2 (by lia) (by lia)
  have zl:((aL j).map (fun j=>(e k k k*(if j<k then 0 else e k i j)-e k i k*(if j<k then 0 else e k k j))/d k)).length=j:=by simp
  generalize (aL j).map (fun j=>(e k k k*(if j<k then 0 else e k i j)-e k i k*(if j<k then 0 else e k k j))/d k)=zs at *
  have r1:(M++[SO.lst (nts zs)])[M.length]?=some (.lst (nts zs)):=by simp
  simp![ZaW,ZJ f1,ZJ f2,CR.Zc5 dpos (h.dbig k (by lia)) (by lia),r1]
  exact⟨by lia,_,_,rfl⟩
 ·rintro ρ M' ⟨rfl,x12,x13,rfl⟩;rw[show(nts (Zdj e m k i)).length=m by simp[nts,Zbt],ZrG h hk hi]
  have ix:ixN Rf.length (i:Int)=some i:=ZcY (by lia)
  have t2:(M++[SO.lst (nts (Zdj e m (k+1) i))])[tb]?=some (.lst (Rf.map D.ref)):=Kp.app.get tt;have t3:=Zs t2;have r3:(M++[SO.lst (nts (Zdj e m (k+1) i))])[M.length]?=some (.lst (nts (Zdj e m (k+1) i))):=by simp
  simp![t2,ix];rw[show(Rf.map D.ref).set i (D.ref M.length)=(Rf.set i M.length).map D.ref from List.map_set.symm];refine q (Rf.set i M.length) _ _ _ _ _ _ _ ⟨by rw[dh];exact tl,aF t3,fun j hj kj=>?_⟩ (fun j hj ne=>?_) (by simp)
  ·rw[dh]at hj;by_cases c:i=j
   ·subst c;rw[List.getElem_set_self,aE (by lia),r3]
    unfold Zj1;rw[if_pos (by lia)]
   ·have rj:=t.row j hj kj;have nt:tb≠Rf[j]:=fun z=>by
     rw[<-z,tt]at rj;injection rj with rj;injection rj with rj;have l1:0<(Zj1 e m k i j).length:=by unfold Zj1;split<;>rw[Zbt]<;>lia
     have:(Rf.map D.ref)[0]?=(nts (Zj1 e m k i j))[0]?:=by rw[rj]
     rw[bp,am (show 0<Rf.length by lia)]at this
     simp[nts,l1]at this
    rw[List.getElem_set_ne c,aE nt,Kp.app.get rj];unfold Zj1;by_cases c2:k<j/\j<i
    ·rw[if_pos c2,if_pos (by lia)]
    ·rw[if_neg c2,if_neg (by lia)]
  ·rw[aE (by lia),ae hj]
theorem ZwG(h:El e d m)(hk:k<m)(m1:m<=14)(t:Tab e M tb m k (k+1) Rf)(q:∀Rf' M' x4 x5 x6 x7 x11 x12 x13,Tab e M' tb m (k+1) (k+2) Rf'->(∀j,j<M.length->j≠tb->M'[j]?=M[j]?)->M.length<=M'.length->N [some (.ref n),some (.ref o),some (.int mn),some (.ref tb),x4,x5,x6,x7,some (.int (e k k k)),some (.int k),some (.int (e k k k)),x11,x12,x13] M'):wS (Z4 [some (.ref n),some (.ref o),some (.int mn),some (.ref tb),x4,x5,x6,x7,some (.int (d k)),some (.int k),x10,x11,x12,x13] M) N R B C E:=by
 have rk:=t.row k (by rw[t.len];lia) (ac _)
 unfold Zj1 at rk;rw[if_neg (by lia)]at rk
 have tl:=t.len;have tt:=t.tab;have ak:atI (Rf.map D.ref) (k:Int)=some (.ref (Rf[k]'(by lia))):=by
  unfold atI;rw[ay,ZcY (show k<Rf.length by lia)]
  simp[show k<Rf.length by lia]
 have ax:atI (nts (Zdj e m k k)) (k:Int)=some (.int (e k k k)):=by rw[Zi9 (by rw[Zbt];lia),Zmc (by lia),if_neg (by lia)]
 have pos:=h.pos k hk;simp![Z4,tt,ak,rk,ax];refine⟨by lia,?_⟩
 rw[show((Rf.length:Int)-((k:Int)+1)).toNat=m-(k+1)by lia]
 refine ZbF (n:=m-(k+1)) (lo:=(k:Int)+1) (fun i ρ M'=>∃Rf' x4 x5 x6 x7 x11 x12 x13,ρ=[some (.ref n),some (.ref o),some (.int mn),some (.ref tb),x4,x5,x6,x7,some (.int (d k)),some (.int k),some (.int (e k k k)),x11,x12,x13]/\Tab e M' tb m k (k+1+i) Rf'/\(∀j,j<M.length->j≠tb->M'[j]?=M[j]?)/\M.length<=M'.length) ⟨Rf,_,_,_,_,_,_,_,rfl,t,fun _ _ _=>rfl,ac _⟩ ?_ ?_
 ·rintro i ρ M1 hi ⟨Rf1,x4,x5,x6,x7,x11,x12,x13,rfl,t1,g1,l1⟩;rw[show(k:Int)+1+(i:Nat)=((k+1+i:Nat):Int)by lia]
  simp![Zo];refine ZrH h (by lia) (by lia) m1 t1 fun Rf2 M2 x5 x6 x7 x11 x12 x13 t2 g2 l2=>?_
  exact⟨Rf2,_,_,_,_,_,_,_,rfl,t2,fun j hj ne=>(g2 j (by lia) ne).trans (g1 j hj ne),by lia⟩
 ·rintro ρ M1 ⟨Rf1,x4,x5,x6,x7,x11,x12,x13,rfl,t1,g1,l1⟩;simp![Zo];refine q Rf1 M1 _ _ _ _ _ _ _ ⟨t1.len,t1.tab,fun j hj kj=>?_⟩ g1 l1;have r:=t1.row j hj (by lia)
  rw[r]
  have:=t1.len
  unfold Zj1;rw[if_pos (by lia),if_neg (by lia)]
theorem Zog(h:El e d m)(m1:m<=14)(t:Tab e M tb m 0 1 Rf)(q:∀M',(∀j,j<M.length->j≠tb->M'[j]?=M[j]?)->M.length<=M'.length->R (.bl true) M'):wS (Zbw (gNm 9) Z4 (Zal 0 m) [some (.ref n),some (.ref o),some (.int mn),some (.ref tb),x4,x5,x6,x7,some (.int 1),x9,x10,x11,x12,x13] M) (kSq (Z1 (eC (.bl true))) N R B C E) R B C E:=by
 refine ZbF (n:=m) (lo:=0) (fun k ρ M'=>∃Rf' x4 x5 x6 x7 x8 x9 x10 x11 x12 x13,ρ=[some (.ref n),some (.ref o),some (.int mn),some (.ref tb),x4,x5,x6,x7,x8,x9,x10,x11,x12,x13]/\Tab e M' tb m k (k+1) Rf'/\(k<m->x8=some (.int (d k)))/\(∀j,j<M.length->j≠tb->M'[j]?=M[j]?)/\M.length<=M'.length) ⟨Rf,_,_,_,_,_,_,_,_,_,_,rfl,t,fun _=>by rw[h.d0],fun _ _ _=>rfl,ac _⟩ ?_ ?_
 ·rintro k ρ M1 hk ⟨Rf1,x4,x5,x6,x7,x8,x9,x10,x11,x12,x13,rfl,t1,e8,g1,l1⟩;rw[show(0:Int)+(k:Nat)=k by lia,e8 hk]
  simp![Zo];refine ZwG h hk m1 t1 fun Rf2 M2 x4 x5 x6 x7 x11 x12 x13 t2 g2 l2=>?_;exact⟨Rf2,_,_,_,_,_,_,_,_,_,_,rfl,t2,fun z=>by rw[h.hd k z],fun j hj ne=>(g2 j (by lia) ne).trans (g1 j hj ne),by lia⟩
 ·rintro ρ M1 ⟨Rf1,x4,x5,x6,x7,x8,x9,x10,x11,x12,x13,rfl,t1,e8,g1,l1⟩;simp![Zo];exact q M1 g1 l1
def own(rs:List Pt)(a b:Nat):Int:=if a=b then X (cy rs ((a:Int)-1)) (cy rs ((a:Int)+1))else 0-BA.iv (((a:Int)+1)%(rs.length:Int)=b)-BA.iv (((b:Int)+1)%(rs.length:Int)=a)
theorem ZwH(h:M[n]?=some (.lst (prs rs)))(hne:rs≠[])(hb:Nr 200 rs)(ha:a<rs.length)(hbb:b<rs.length)(hL:M[L]?=some (.lst (nts zs)))(zl:zs.length<=1000)(q:∀x7,N [some (.ref n),some (.ref o),some (.int rs.length),some (.ref tb),some (.int a),some (.ref L),some (.int b),x7,x8,x9,x10,x11,x12,x13] (M.set L (.lst (nts (zs++[own rs a b]))))):wS (Zaf [some (.ref n),some (.ref o),some (.int rs.length),some (.ref tb),some (.int a),some (.ref L),some (.int b),x7,x8,x9,x10,x11,x12,x13] M) N R B C E:=by
 have l0:0<rs.length:=bK.mpr hne;have a0:=bX ((a:Int)+1) (show(rs.length:Int)≠0 by lia)
 have a1:=bA ((a:Int)+1) (show(0:Int)<rs.length by lia)
 have b1:=hb _ (ZR (i:=(a:Int)-1) hne);have b2:=hb _ (ZR (i:=(a:Int)+1) hne);have cm:cy rs (((a:Int)+1)%(rs.length:Int))=cy rs ((a:Int)+1):=Zb9;have qe:∀{M:Sto}{u v:Int},eqF 12 M (.int u) (.int v)=some (decide (u=v)):=rfl;simp![Zaf,qe];refine brS (fun c=>?_) (fun c=>?_)
 ·simp![h,ZbG];rw[cm];simp![CC.Zji (a:=(cy rs ((a:Int)-1)).1) (b:=(cy rs ((a:Int)-1)).2) (c:=(cy rs ((a:Int)+1)).1) (d:=(cy rs ((a:Int)+1)).2) (by lia) (by lia),hL]
  refine⟨by lia,?_⟩
  have eo:own rs a b=(cy rs ((a:Int)-1)).1*(cy rs ((a:Int)+1)).2-(cy rs ((a:Int)-1)).2*(cy rs ((a:Int)+1)).1:=by
   unfold own;rw[if_pos (by lia)]
   rfl
  rw[<-eo];exact q _
 ·simp![qe,hL];refine⟨by lia,?_⟩
  have eo:own rs a b=(0-if decide (((a:Int)+1)%(rs.length:Int)=(b:Int))=true then 1 else 0)-if decide (((b:Int)+1)%(rs.length:Int)=(a:Int))=true then 1 else 0:=by
   unfold own BA.iv;rw[if_neg (by lia)]
   simp only[decide_eq_true_eq]
  rw[<-eo];exact q _
theorem Zmd{P:List Nat}(h:i<(nts (P.map fun z:Nat=>(z:Int))).length):(nts (P.map fun z:Nat=>(z:Int)))[i]=D.int ((P[i]'(by simpa [nts]using h):Nat):Int):=by simp[nts]
theorem ZwI{P:List Nat}(h:M[n]?=some (.lst (prs rs)))(hne:rs≠[])(hb:Nr 200 rs)(ho:M[o]?=some (.lst (nts (P.map fun z:Nat=>(z:Int)))))(pl:P.length<=1000)(pn:∀z∈P,z<rs.length)(ha:a<rs.length)(ht:M[tb]?=some (.lst (Rf.map D.ref)))(rl:Rf.length<=1000)(q:∀M' x5 x6 x7,M'=(M++[SO.lst (nts (P.map fun b=>own rs a b))]).set tb (.lst ((Rf++[M.length]).map D.ref))->N [some (.ref n),some (.ref o),some (.int rs.length),some (.ref tb),some (.int a),x5,x6,x7,x8,x9,x10,x11,x12,x13] M'):wS (Zag [some (.ref n),some (.ref o),some (.int rs.length),some (.ref tb),some (.int a),x5,x6,x7,x8,x9,x10,x11,x12,x13] M) N R B C E:=by
 have hn:=Zs h;have ho':=Zs ho;have ht':=Zs ht;simp![Zag];refine Zaz (xs:=nts (P.map fun z:Nat=>(z:Int))) (fun j ρ M'=>M'=M++[SO.lst (nts ((P.take j).map fun b=>own rs a b))]/\∃x6 x7,ρ=[some (.ref n),some (.ref o),some (.int rs.length),some (.ref tb),some (.int a),some (.ref M.length),x6,x7,x8,x9,x10,x11,x12,x13]) (Kp.app.get ho) ⟨by simp[nts],_,_,rfl⟩ (fun j ρ M' hI=>hI.1▸Kp.app.get ho) ?_ ?_
 ·rintro j ρ M' hj ⟨rfl,x6,x7,rfl⟩;have hj':j<P.length:=by simpa [nts]using hj
  rw[Zmd];simp![Zo];refine ZwH (zs:=(P.take j).map fun b=>own rs a b) (Kp.app.get h) hne hb ha (pn _ (bQ hj')) (by simp) (by rw[ay,cM];lia) fun x7=>?_
  refine⟨?_,_,_,rfl⟩;rw[aV hj',cD];simp
 ·rintro ρ M' ⟨rfl,x6,x7,rfl⟩;rw[show(nts (P.map fun z:Nat=>(z:Int))).length=P.length by simp[nts],cZ]
  have t2:(M++[SO.lst (nts (P.map fun b=>own rs a b))])[tb]?=some (.lst (Rf.map D.ref)):=Kp.app.get ht;simp![t2];refine⟨by lia,q _ _ _ _ ?_⟩
  rw[cD];rfl
theorem Zlg{P:List Nat}(h:M[n]?=some (.lst (prs rs)))(hne:rs≠[])(hb:Nr 200 rs)(hl:rs.length<=14)(ho:M[o]?=some (.lst (nts (P.map fun z:Nat=>(z:Int)))))(pl:P.length<=14)(pn:∀z∈P,z<rs.length)(EL:El e d P.length)(e0:∀i j,(hi:i<P.length)->(hj:j<P.length)->own rs P[i] P[j]=e 0 i j)(q:∀M',Kp M M'->Q (.bl true) M'):wO (F_law_is_below [.ref n,.ref o] M) Q E:=by
 have hn:=Zs h;have ho':=Zs ho;simp![F_law_is_below,ZbL,h,ZI];refine Zaz (xs:=nts (P.map fun z:Nat=>(z:Int))) (fun i ρ M'=>∃Rf x4 x5 x6 x7,ρ=[some (.ref n),some (.ref o),some (.int rs.length),some (.ref M.length),x4,x5,x6,x7,none,none,none,none,none,none]/\Rf.length=i/\M'[M.length]?=some (.lst (Rf.map D.ref))/\Kp M M'/\∀j:Nat,(hj:j<Rf.length)->(hp:j<P.length)->M.length<Rf[j]/\M'[Rf[j]]?=some (.lst (nts (P.map fun b=>own rs P[j] b)))) (Kp.app.get ho) ⟨[],_,_,_,_,rfl,rfl,by simp,Kp.app,fun j hj=>by simp at hj⟩ (fun i ρ M' hI=>by obtain⟨_,_,_,_,_,_,_,_,K,_⟩:=hI;exact K.get ho) ?_ ?_
 ·rintro i ρ M1 hi ⟨Rf,x4,x5,x6,x7,rfl,len,tt,K1,rw1⟩;have hi':i<P.length:=by simpa [nts]using hi
  rw[Zmd];simp![Zo];have lt:=Zs tt;refine ZwI (K1.get h) hne hb (K1.get ho) (by lia) pn (pn _ (bQ hi')) tt (by lia) fun M2 x5 x6 x7 e2=>?_
  subst e2;refine⟨Rf++[M1.length],_,_,_,_,rfl,by simp[len],aF (by simp;lia),(K1.trans Kp.app).set (ac _),fun j hj hp=>?_⟩
  by_cases c:j<Rf.length
  ·obtain⟨a1,a2⟩:=rw1 j c hp;rw[jl c];exact⟨a1,by rw[aE (by lia)];exact Kp.app.get a2⟩
  ·have:j=i:=by simp at hj;lia
   subst this;have ej:(Rf++[M1.length])[j]=M1.length:=by rw[List.getElem_append_right (by lia)];simp
   rw[ej];exact⟨lt,by rw[aE (by lia)];simp⟩
 ·rintro ρ M1 ⟨Rf,x4,x5,x6,x7,rfl,len,tt,K1,rw1⟩;rw[show(nts (P.map fun z:Nat=>(z:Int))).length=P.length by simp[nts]]at len
  have lt:=Zs tt;have tb:Tab e M1 M.length P.length 0 1 Rf:=⟨len,tt,fun j hj _=>by
   rw[(rw1 j hj (by lia)).2]
   unfold Zj1;rw[if_neg (by lia)]
   congr 2;unfold nts;congr 1;apply gU
   ·simp[Zdj]
   ·intro a ha ha';simp[Zdj];exact e0 j a (by lia) (by simpa using ha)⟩
  simp![tt];refine⟨by lia,?_⟩
  rw[show((Rf.length:Int)).toNat=P.length by lia]
  refine Zog EL pl tb fun M2 g2 l2=>?_;exact q M2 ⟨by have:=K1.1;lia,fun j hj=>(g2 j (by have:=K1.1;lia) (by lia)).trans (K1.2 j hj)⟩
noncomputable abbrev pfo(P:List Nat)(k:Nat):Nat:=P.getD k 0
theorem ZdI(h:k<P.length):pfo P k=P[k]:=by simp[pfo,h]
theorem Zud{P:List Nat}{St:Int->Prop}(S:Smo rs)(hb:Nr 200 rs)(R:BA.Run rs St)(per:∀z,St z->St (z+rs.length))(pl:P.length<=14)(st:∀z∈P,St (z:Int)):El (BA.e (BA.bf rs (pfo P)) (BA.af (pfo P)) (pfo P 0=0/\pfo P (P.length-1)+1=rs.length) (P.length-1)) (BA.D (BA.bf rs (pfo P)) (BA.af (pfo P))) P.length:=by
 have st':∀k,k<P.length->St (pfo P k):=fun k hk=>by rw[ZdI hk];exact st _ (bQ hk)
 have hb':∀k,k<P.length->(BA.bf rs (pfo P) k).natAbs<2^17:=fun k _=>BA.ZwE hb S.ne k;have db:∀k,k<P.length->(BA.D (BA.bf rs (pfo P)) (BA.af (pfo P)) k).natAbs<2^252:=fun k hk=>by
  have a:=(BA.Zoe (ad:=BA.af (pfo P)) hb' k (by lia)).1
  have:2^(18*k)<=2^234:=aY (by decide) (by lia)
  have c:2^234<2^252:=by decide +kernel
  generalize 2^234=x at *;generalize 2^252=y at *;lia
 refine⟨fun k i j h1 h2 h3 h4=>?_,fun k hk=>?_,fun k hk=>?_,fun k hk=>?_,rfl,fun k i j hk hi=>?_,db⟩
 ·exact BA.step _ _ _ _ h1 h2 (by lia) (by lia) fun wr=>BA.Zmb S R (fun k hk=>st' k (by lia)) wr.1 wr.2
 ·exact BA.Zpd _ _ _ _ k fun _=>by lia
 ·exact BA.Zof S R per (fun k hk=>st' k (by lia)) k (by lia)
 ·exact BA.Zob (m:=P.length) S R st' k (by lia)
 ·exact BA.Zub hb' hk hi pl
def pls(hs fx:List Rat)(k:Nat):List Nat:=(aL k).filter fun z=>decide (cq fx z<cq hs z)
theorem Zue:pls hs fx (k+1)=if cq fx k<cq hs k then pls hs fx k++[k]else pls hs fx k:=by
 unfold pls;rw[cJ,List.filter_append];by_cases c:cq fx k<cq hs k
 ·simp[c]
 ·simp[c]
theorem Zou{x:Rat}:0<x.num↔0<x:=by
 constructor
 ·intro h;have a:=iV.mp (gL h)
  have:x≠0:=fun z=>by rw[z]at h;exact absurd h (by decide)
  grind
 ·intro h;have a:=iV.mpr (lR h)
  have:x.num≠0:=fun z=>by
   have:=Rat.num_eq_zero.mp z
   rw[this]at h;exact absurd h (by decide)
  lia
theorem Zoh:(pls hs fx k).length<=k:=by
 have:=j5 (fun z:Nat=>decide (cq fx z<cq hs z)) (aL k)
 rw[i4]at this;exact this
theorem ZfO(h:z∈pls hs fx k):z<k/\cq fx z<cq hs z:=by
 have:=fX.mp h
 exact⟨cA.mp this.1,by simpa using this.2⟩
theorem Zoi(i j:Nat)(h:i<j)(hj:j<(pls hs fx k).length):pfo (pls hs fx k) i<pfo (pls hs fx k) j:=by
 have p:(pls hs fx k).Pairwise (· < ·):=jc.filter _ List.pairwise_lt_range;rw[ZdI (by lia),ZdI hj]
 exact iX.mp p i j (by lia) hj h
theorem Zme(e:u.length=rs.length)(z:Int):cq u (z+rs.length)=cq u z:=by
 rw[<-ZgA,<-ZgA (i:=z),e,iT]
theorem Zoj(h:M[n]?=some (.lst (prs rs)))(S:Smo rs)(hb:Nr 200 rs)(hl:rs.length<=14)(h':M[m]?=some (.lst (rts hs)))(e:hs.length=rs.length)(hz:∀x∈hs,Sz 102 x)(ra:M[a]?=some (.lst (rts fx)))(fl:fx.length=rs.length)(fz:∀x∈fx,Sz 256 x)(rb:M[b]?=some (.lst (rts (Zfc hs fx))))(le:∀i:Nat,i<rs.length->cq fx i<=cq hs i)(bn:∀i:Nat,i<rs.length->0<=bnd rs fx i)(b0:∀i:Nat,i<rs.length->cq fx i<cq hs i->bnd rs fx i=0)(R:BA.Run rs fun z=>cq fx z<cq hs z)(q:∀M',Kp M M'->Q (.bl true) M'):wO (F_law_five [.ref n,.ref m,.ref a,.ref b] M) Q E:=by
 have hne:=S.ne;have l0:0<rs.length:=bK.mpr hne;have ssz:=ZnV hz fz;have sln:=Zcc e fl;simp![F_law_five,ZdH,h,ZI];refine Zlf h hne hb (by lia) ra fl fz (by lia) fun bs bl be=>?_
 have K1:Kp M (M++[SO.lst (rts bs)]):=Kp.app;have r1:(M++[SO.lst (rts bs)])[M.length]?=some (.lst (rts bs)):=by simp
 generalize M++[SO.lst (rts bs)]=M1 at *;have lb:=Zs r1;simp![Zo];refine⟨by lia,?_⟩
 rw[bR];refine ZbF (n:=rs.length) (lo:=0) (fun k ρ M'=>M'=M1++[SO.lst (nts ((pls hs fx k).map fun z:Nat=>(z:Int)))]/\∃x7,ρ=[some (.ref n),some (.ref m),some (.ref a),some (.ref b),some (.int rs.length),some (.ref M.length),some (.ref M1.length),x7]) ⟨by simp[pls,nts],_,rfl⟩ ?_ ?_
 ·rintro k ρ M2 hk ⟨rfl,x7,rfl⟩;rw[show(0:Int)+(k:Nat)=k by lia]
  have hl':((pls hs fx k).map fun z:Nat=>(z:Int)).length<=14:=by
   have:=j5 (fun z:Nat=>decide (cq fx z<cq hs z)) (aL k)
   rw[i4]at this;rw[ay];unfold pls;lia
  have ps:pls hs fx (k+1)=if cq fx k<cq hs k then pls hs fx k++[k]else pls hs fx k:=Zue
  generalize pls hs fx k=P at *;have rp:(M1++[SO.lst (nts (P.map fun z:Nat=>(z:Int)))])[M1.length]?=some (.lst (nts (P.map fun z:Nat=>(z:Int)))):=by simp
  have K2:Kp M1 (M1++[SO.lst (nts (P.map fun z:Nat=>(z:Int)))]):=Kp.app;have g1:=(K1.trans K2).get h';have g2:=(K1.trans K2).get ra;have g3:=(K1.trans K2).get rb;have g4:=K2.get r1;have sf:=ZaG (i:=(k:Int)) fz (by lia)
  have ss:=ZaG (i:=(k:Int)) ssz (by lia)
  have es:cq fx k+cq (Zfc hs fx) k=cq hs k:=by rw[ZgC e fl hk];grind
  have eq1:∀M,eqF 12 M (rt (cq hs k)) (rt (cq hs k))=some true:=fun M=>by rw[Zvc (k:=10)];simp
  have bk:=be k hk;have n1:0<=(cq bs k).num:=by rw[bk];exact iV.mpr (bn k hk)
  have n2:0<=(cq (Zfc hs fx) k).num:=iV.mpr (by rw[ZgC e fl hk];have:=le k hk;grind)
  simp![Zce,g1,g2,g3,g4,Zbo];rw[Zdd sf ss (by lia),es]
  simp![eq1,g1,g2,g3,g4,Zbo];have nm:M1.length≠M.length:=by lia
  have sub:=ZgC e fl hk;refine brS (fun c=>?_) (fun c=>?_)
  ·have st:cq fx k<cq hs k:=by
    have:=Zou.mp c
    rw[sub]at this;grind
   have bz:(cq bs k).num=0:=by rw[bk,b0 k hk st];rfl
   have qz:∀{M:Sto}{u v:Int},eqF 12 M (.int u) (.int v)=some (decide (u=v)):=rfl;rw[if_pos st]at ps;simp![rp,aE nm,g4,r1,Zbo,bz,qz];exact⟨by rw[ay]at hl';lia,by rw[ps,cD];rfl,_,rfl⟩
  ·have st:¬cq fx k<cq hs k:=fun z=>c (Zou.mpr (by rw[sub];grind))
   rw[if_neg st]at ps;simp![ps];exact⟨_,rfl⟩
 ·rintro ρ M2 ⟨rfl,x7,rfl⟩;simp![Zo];have pl:=Zoh (k:=rs.length) (hs:=hs) (fx:=fx);have KK:Kp M (M1++[SO.lst (nts ((pls hs fx rs.length).map fun z:Nat=>(z:Int)))]):=K1.trans Kp.app;refine Zlg (P:=pls hs fx rs.length) (KK.get h) hne hb hl (by simp) (by lia) (fun z hz=>(ZfO hz).1) (Zud S hb R (fun z hz=>by rw[Zme fl,Zme e];exact hz) (by lia) (fun z hz=>(ZfO hz).2)) (fun i j hi hj=>?_) fun M3 K3=>q M3 (KK.trans K3)
  rw[BA.e_0,<-BA.Zuc S.len (fun k hk=>by rw[ZdI (by lia)];exact(ZfO (bQ _)).1) (by lia) (by lia) (fun i j h1 h2=>Zoi i j h1 (by lia)),ZdI hi,ZdI hj]
  rfl
theorem Zlh(ne:ms≠[])(h:∀p,p∈ds↔p∈ms):hts rs ds=hts rs ms:=by
 refine Zrb (n:=rs.length) Za8 Za8 fun i hi=>?_;obtain⟨p,hp,e⟩:=ZfM (rs:=rs) hi ne;exact ZjS hi ⟨p,(h p).mpr hp,e⟩ fun m hm=>ZjT hi ((h m).mp hm)
theorem q_s:eqF (l+1) M (.str t) (.str u)=some (decide (t=u)):=rfl
theorem emp{ds:List RP}(hd:M[d9]?=some (.lst (pts ds))):eqF 12 (M++[SO.lst []]) (.ref d9) (.ref M.length)=some (decide (ds=[])):=by
 rw[Zja ((Kp.app (L:=[SO.lst []])).get hd) (show(M++[SO.lst []])[M.length]?=some (.lst [])by simp)]
 cases ds with
 |nil=>rfl
 |cons a r=>rfl
theorem Zli(hs0:s0=PySem.Str.ofString "none")(h:M[n]?=some (.lst (prs rs)))(S:Smo rs)(hb:Nr 200 rs)(hl:rs.length<=14)(h':M[m]?=some (.lst (rts hs)))(e:hs.length=rs.length)(hz:∀x∈hs,Sz 102 x)(no:∀p,¬Cor rs hs p)(q:∀M',Kp M M'->Q (.bl true) M'):wO (F_law_right [.ref n,.ref m,.tup [.str s0,d]] M) Q E:=by
 simp![F_law_right,ZbZ];refine ZdE h S hb (by lia) h' e hz (by lia) fun ds M1 hd nd zd ld K1 rd=>?_
 have dn:ds=[]:=by
  cases ds with
  |nil=>rfl
  |cons a r=>exact absurd ((hd a).mp (by simp)) (no a)
 have em:=emp rd;rw[dn]at em;have es:∀M,eqF 12 M (.str s0) (.str (PySem.Str.ofString "none"))=some true:=fun M=>by rw[hs0,q_s];simp
 have e2:∀M,eqF 12 M (.int 2) (.int 2)=some true:=fun M=>rfl;simp![em,es,e2];exact q _ (K1.trans Kp.app)
theorem ZgS(hs0:s0=PySem.Str.ofString "parted")(h:M[n]?=some (.lst (prs rs)))(S:Smo rs)(hb:Nr 200 rs)(hl:rs.length<=14)(h':M[m]?=some (.lst (rts hs)))(e:hs.length=rs.length)(hz:∀x∈hs,Sz 102 x)(bo:∀p,p∈ms↔Cor rs hs p)(mne:ms≠[])(ra:M[a]?=some (.lst (rts (hts rs ms))))(rb:M[b]?=some (.lst (rts (Zfc hs (hts rs ms)))))(q:∀M',Kp M M'->Q (.bl true) M'):wO (F_law_right [.ref n,.ref m,.tup [.str s0,.ref a,.ref b]] M) Q E:=by
 have l0:0<rs.length:=bK.mpr S.ne;have fz:∀x∈hts rs ms,Sz 256 x:=Zlb (l:=102) hb S.ne (by lia) hz mne (fun p hp=>(bo p).mp hp)
 have fl:(hts rs ms).length=rs.length:=Za8;have le:∀i:Nat,i<rs.length->cq (hts rs ms) i<=cq hs i:=fun i hi=>ZgP hi mne fun p hp=>(bo p).mp hp;have bn:∀i:Nat,i<rs.length->0<=bnd rs (hts rs ms) i:=fun i _=>Zoa S mne i;have b0:∀i:Nat,i<rs.length->cq (hts rs ms) i<cq hs i->bnd rs (hts rs ms) i=0:=fun i _ z=>Zry S mne bo e z;have rn:BA.Run rs fun z=>cq (hts rs ms) z<cq hs z:=fun a m st=>run S mne bo e st;simp![F_law_right,ZbZ];refine ZdE h S hb (by lia) h' e hz (by lia) fun ds M1 hd nd zd ld K1 rd=>?_
 have dn:ds≠[]:=fun y=>by
  obtain⟨p,hp⟩:=fH ms mne
  have:=(hd p).mpr ((bo p).mp hp)
  rw[y]at this;cases this
 have em:=emp rd;rw[decide_eq_false dn]at em;have es:∀M,eqF 12 M (.str s0) (.str (PySem.Str.ofString "parted"))=some true:=fun M=>by rw[hs0,q_s];simp
 have e3:∀M,eqF 12 M (.int 3) (.int 3)=some true:=fun M=>rfl;have hh:hts rs ds=hts rs ms:=Zlh mne fun p=>(hd p).trans (bo p).symm;simp![em,es,e3];have K2:Kp M (M1++[SO.lst []]):=K1.trans Kp.app;have rd2:(M1++[SO.lst []])[M.length]?=some (.lst (pts ds)):=Kp.app.get rd;generalize M1++[SO.lst []]=M2 at *;have h2:=K2.get h;have ra2:=K2.get ra;have rb2:=K2.get rb;have sl:=Zcc e fl;have qe:∀{M:Sto}{u v:Int},eqF 12 M (.int u) (.int v)=some (decide (u=v)):=rfl;refine ZdX (fun i ρ M'=>M'=M2/\∃x4,ρ=[some (D.ref n),some (D.ref m),some (D.tup [D.str s0,D.ref a,D.ref b]),some (D.ref M.length),x4]) [.ref a,.ref b] 0 _ _ ⟨rfl,_,rfl⟩ ?_ ?_
 ·rintro j ρ M' hj ⟨rfl,y,rfl⟩
  have:j=0\/j=1:=by simp at hj;lia
  rcases this with rfl|rfl
  ·simp![ZaR,gJ];refine Zl4 ra2 ?_;simp![ra2,h2,ZA,ZI,fl,qe];exact⟨_,rfl⟩
  ·simp![ZaR,jM,gJ];refine Zl4 rb2 ?_;simp![rb2,h2,ZA,ZI,sl,qe];exact⟨_,rfl⟩
 ·rintro ρ M' ⟨rfl,y,rfl⟩;obtain⟨p0,ps,rfl⟩:∃p0 ps,ds=p0::ps:=by
   cases ds with
   |nil=>exact absurd rfl dn
   |cons p0 ps=>exact⟨p0,ps,rfl⟩
  simp![Zo];refine Zle (K:=238) h2 S.ne hb (by lia) rd2 (by simp at ld;lia) zd (by lia) fun M3 K3 r3=>?_
  rw[hh]at r3;have eq:=Zra (k:=9) (K3.get ra2) r3;rw[decide_eq_true rfl]at eq;simp![eq];have K03:=K2.trans K3;refine Zoj (K03.get h) S hb hl (K03.get h') e hz (K03.get ra) fl fz (K03.get rb) le bn b0 rn fun M4 K4=>?_;exact q M4 (K03.trans K4)
theorem ZwJ(h:wO (fs ρ M) (fun ds M1=>∃i j c,ds=[.int i,.int j,.int c]/\(-(2^62)<=i/\i<2^62/\ -(2^62)<=j/\j<2^62/\1<=c/\c<=1000)/\QS (.pur (ZiG i c (stN i j c))) M1) E):wO (iR3 fs ρ M) QS E:=by
 unfold iR3;rw[ZB];refine Zci h (fun ds M1 k=>?_) (fun _ _ z=>z);obtain⟨i,j,c,rfl,b,q⟩:=k;show wO (if _ then _ else _) QS E
 rw[if_pos b];exact q
theorem Zuf(h1:M[n]?=some (.lst [.ref a,.ref b]))(h2:M[m]?=some (.lst [.ref a',.ref b']))(ha:M[a]?=some (.lst (prs rs)))(hb:M[b]?=some (.lst (rts hs)))(ha':M[a']?=some (.lst (prs rs)))(hb':M[b']?=some (.lst (rts hs))):eqF 12 M (.ref n) (.ref m)=some true:=by
 rw[Zja h1 h2];have e1:eqF 11 M (.ref a) (.ref a')=some true:=by rw[ZtO (k:=8) ha ha'];simp
 have e2:eqF 11 M (.ref b) (.ref b')=some true:=by rw[Zra (k:=8) hb hb'];simp
 simp[eqL,e1,e2]
theorem Zok{ns:List Int}{i:Nat}(hN:∀x1 x2 x3 x4 x5 M',N [some (.rol (ns.map D.int)),x1,x2,x3,x4,x5] M'):wS (Zef [some (.rol (ns.map D.int)),some (.int i),x2,x3,x4,x5] M) N R B C E:=by
 simp![Zef];refine CC.Zcb fun c c0=>?_;obtain⟨far,ef,f1⟩:∃far:Int,atI [D.int 20,D.int 20,D.int 9,D.int 200] (c/3%4)=some (.int far)/\0<=far/\far<=1000000000000000000000000000000:=by
  rcases(show c/3%4=0\/c/3%4=1\/c/3%4=2\/c/3%4=3 by lia)with e|e|e|e<;>rw[e]
  ·exact⟨20,rfl,by decide,by decide⟩
  ·exact⟨20,rfl,by decide,by decide⟩
  ·exact⟨9,rfl,by decide,by decide⟩
  ·exact⟨200,rfl,by decide,by decide⟩
 simp![ef];refine Zla f1 fun rs hs n m M2 s1 s2 s3 e z K1 g1 r2=>?_;have hn2:=Zs g1;have hm2:=Zs r2;simp![g1,r2];have A:(M2++[SO.lst (prs rs),SO.lst (rts hs),SO.lst [D.ref M2.length,D.ref (M2.length+1)]])[M2.length]?=some (.lst (prs rs)):=by simp
 have Bf:(M2++[SO.lst (prs rs),SO.lst (rts hs),SO.lst [D.ref M2.length,D.ref (M2.length+1)]])[M2.length+1]?=some (.lst (rts hs)):=by simp
 have L:(M2++[SO.lst (prs rs),SO.lst (rts hs),SO.lst [D.ref M2.length,D.ref (M2.length+1)]])[M2.length+2]?=some (.lst [D.ref M2.length,D.ref (M2.length+1)]):=by simp
 have K3:Kp M2 (M2++[SO.lst (prs rs),SO.lst (rts hs),SO.lst [D.ref M2.length,D.ref (M2.length+1)]]):=Kp.app;generalize M2++[SO.lst (prs rs),SO.lst (rts hs),SO.lst [D.ref M2.length,D.ref (M2.length+1)]]=M3 at *;have r1:=K3.get g1;have r3:=K3.get r2;have hl3:=Zs L;generalize M2.length=o2 at *;clear g1 r2 K3;have same:∀M',Kp M3 M'->eqF 12 (M'++[SO.lst [D.ref n,D.ref m]]) (.ref (o2+2)) (.ref M'.length)=some true:=fun M' K=>by
  have K':=K.trans (Kp.app (L:=[SO.lst [D.ref n,D.ref m]]));exact Zuf (K'.get L) (by simp) (K'.get A) (K'.get Bf) (K'.get r1) (K'.get r3)
 have l0:0<rs.length:=bK.mpr s1.ne;have qs:∀M',eqF 12 M' (.str (PySem.Str.ofString "parted")) (.str (PySem.Str.ofString "parted"))=some true:=fun M'=>by rw[q_s];simp
 have qn:∀M',eqF 12 M' (.str (PySem.Str.ofString "none")) (.str (PySem.Str.ofString "parted"))=some false:=fun M'=>by rw[q_s];decide +kernel
 refine Ze8 A s1 s2 (by lia) Bf e z (by lia) (fun d M4 no em on4 K4=>?_) (fun ms a b M4 bo mne zp K4 la lb ra rb ab=>?_)
 ·simp![same M4 K4];have K5:=K4.trans (Kp.app (L:=[SO.lst [D.ref n,D.ref m]]));refine Zli rfl (K5.get r1) s1 s2 s3 (K5.get r3) e z no fun M6 K6=>?_;simp![qn];exact hN _ _ _ _ _ _
 ·simp![same M4 K4];have K5:=K4.trans (Kp.app (L:=[SO.lst [D.ref n,D.ref m]]));have Ka:=Kp.app (M:=M4) (L:=[SO.lst [D.ref n,D.ref m]]);refine ZgS rfl (K5.get r1) s1 s2 s3 (K5.get r3) e z bo.1 mne (Ka.get ra) (Ka.get rb) fun M6 K6=>?_;have K46:=Ka.trans K6;have ra6:=K46.get ra;have rb6:=K46.get rb;have fl:(hts rs ms).length=rs.length:=Za8;have K06:=K5.trans K6;simp![qs,ra6,rb6,ZA,fl];have ix0:ixN rs.length 0=some 0:=ZcY (k:=0) l0;have l6:=Zs ra6;have nb:a≠b:=ab;have K7:=(K06.set (o:=SO.lst ((rts (hts rs ms)).set 0 (D.tup [D.int 1,D.int 1]))) la).set (o:=SO.lst (rts (Zfc hs (hts rs ms))++[D.tup [D.int 0,D.int 1]])) lb;have L7:=K7.get L;have sl:=Zcc e fl;simp![ix0,aE nb,rb6,ZA,sl];refine⟨by lia,?_⟩
  generalize (M6.set a (SO.lst ((rts (hts rs ms)).set 0 (D.tup [D.int 1,D.int 1])))).set b (SO.lst (rts (Zfc hs (hts rs ms))++[D.tup [D.int 0,D.int 1]]))=M7 at *;simp![L7,K06.get L];refine Ze8 (K7.get A) s1 s2 (by lia) (K7.get Bf) e z (by lia) (fun d M8 no em on4 K8=>?_) (fun ms' a b M8 bo' mne' zp K8 la lb ra rb ab=>?_)
  ·obtain⟨p,hp⟩:=fH ms mne;exact absurd ((bo.1 p).mp hp) (no p)
  ·have K78:=K7.trans K8;simp![Zo];refine ZgS rfl (K78.get r1) s1 s2 s3 (K78.get r3) e z bo'.1 mne' ra rb fun M9 K9=>?_;simp![same M9 (K78.trans K9)];exact hN _ _ _ _ _ _
theorem law_true(ns:List Int)(h:ns.length<=63):∃M',ZfN [.rol (ns.map D.int)] []=.ok (.bl true) M':=by
 have w:wO (ZfN [.rol (ns.map D.int)] []) (fun d _=>d=.bl true) (fun _ _=>False):=by
  simp![ZfN,ZrD];refine ZwJ ?_;simp![Zo];refine⟨_,_,_,rfl,by lia,?_⟩
  show wS (ZeJ _ _ _ _ _ _ _) _ _ _ _ _;refine Zgu (fun _ ρ _=>∃x1 x2 x3 x4 x5,ρ=[some (.rol (ns.map D.int)),x1,x2,x3,x4,x5]) (xs:=ZiG 0 2 (stN 0 (max 2 (min (ns.length:Int) 3)) 2)) _ 0 _ _ (by simp) (by simp[cnt]) ⟨_,_,_,_,_,rfl⟩ (fun i ρ M hi hI=>rfl) ?_ ?_
  ·rintro i ρ M hi ⟨x1,x2,x3,x4,x5,rfl⟩;have e:(ZiG 0 2 (stN 0 (max 2 (min (ns.length:Int) 3)) 2))[i]=.int ((2*i:Nat):Int):=by simp[ZiG];lia
   rw[e];simp![Zo];exact Zok fun _ _ _ _ _ _=>⟨_,_,_,_,_,rfl⟩
  ·rintro ρ M ⟨x1,x2,x3,x4,x5,rfl⟩;simp![Zo]
 obtain⟨d,M',e,rfl⟩:=Zb8 w;exact⟨M',e⟩
end
end K55
end
namespace K55
open L2 DL
theorem ZwK{l:PySem.W.OpenLaw}{K:kc->Fg}{T:Fg}(hn:l.most=some 63)(hdf:d.params.defaults=[])(hY:∀(w:cL)(h:Heap),YP w h->(K w.params).In h/\T.In h)(hT:∀w:cL,Zgs (K w.params) T=true)(F:∀(w:cL)(mg:Str->Option aa)(fa:Addr)(h:Heap),(K w.params).In h->h.Ns aI mg->mg d.name=some (.ref fa)->∃fd:gZ,(∀(s:aC)(u:aa),kM s fd ⟨[u],[]⟩ [("_law_script",u)])/\∀base:Heap,(K w.params).In base->base.Ns aI mg->FnOk l.prog w (K w.params) mg base (CXE l.prog w) 109 fa fd ["_law_script"] (spD (K w.params) ZfN)):PySem.W.WalkO q loose XP YP l.row.toRowW d [] (fun f vs=>PySem.call f vs):=
 L2.ZkS (T:=fun _=>T) (n:=63) (k:=109) (x:="_law_script") (CX:=fun w=>CXE l.prog w) (sp:=fun w=>spD (K w.params) ZfN) hn (by decide) hdf ⟨fun _=>rfl,rfl,by decide,by decide⟩ hY hT F (fun _ _ a ns hl hS=>DL.Zns hS (law_true ns hl)) fun _ _ _ _ _ ⟨_,_,_,_,_,_,_,_,_,_,_,_,_,q⟩=>q
end K55
open PySem.W PyProof.Rows
set_option maxRecDepth 1000000 in
set_option maxHeartbeats 0 in
theorem PySem.Challenge.cw_rayround_k55_heights_parted_holds : PySem.Challenge.rw_rayround_k55_heights_parted.Holds := by
 w_on
 refine holds_law K55.Zvx fun _=>?_;refine holds_open (q:=K55.qf PySem.Challenge.pw_rayround_k55_heights_parted) (loose:=K55.lo) (Xt:=fun s=>xlAt (K55.qf PySem.Challenge.pw_rayround_k55_heights_parted) [] s&&recOk [] s) (XP:=XL (K55.qf PySem.Challenge.pw_rayround_k55_heights_parted) []) (Yf:=Hook.obs K55.Hk) (Ya:=Hook.val K55.Hk) (YP:=Hook.says K55.Hk) (N:=2986) ?hl (Hook.of K55.Hk) (Hook.keeps K55.Hk) (fun s e=>xl_of s (kI.mp e).1) XL.keeps (by rfl) (by rfl) (by rfl) (fun s e=>recFacts_of (kI.mp e).2) (by rfl) (by first|assumption|decide +kernel) (by decide +kernel) ⟨rfl,rfl,rfl,rfl,rfl,by decide +kernel⟩ ?hw ?hc
 case hl=>exact HD.ZhH rfl (by decide) (fun s=>rfl) (by decide) K55.Zsg
 case hw=>w_witness2
 case hc=>
  refine K55.ZwK (l:=PySem.Challenge.rw_rayround_k55_heights_parted) (K:=K55.Kf PySem.Challenge.pw_rayround_k55_heights_parted) (T:=K55.Tf) rfl rfl (fun w h Y=>⟨DL.Znt (PySem.W.kIn_of Y),DL.ZkT (PySem.W.kIn_of Y) (by kernel_rfl)⟩) (fun w=>by kernel_rfl) ?F
  intro w mg fa h KX G hmg;refine K55.fin KX G hmg ⟨DL.Bs.of KX G ?_,fun c v e=>PySem.W.mg_of KX G e,DL.Dfs.of ?_,?_,?_,?_,?_,?_⟩
  all_goals kernel_rfl
