import PyProof.Rows.All
import Wide.All
import OpenK.AllK
import Wide.FinOn
import Lean
import PyProof.EqAt
import PyProof.EqKinds
import PyProof.TupleCall
import PyProof.FString
import PyProof.Rows.TupIter
import KE.KDictList
import PyProof.ZipIter
import PyProof.ListNew
import PyProof.RulesAssignMore
import PyProof.ReprRoads
import PyProof.FitsInt
import PyProof.Rows.Range3
import KE.KSortKey
import KE.KLam
import PyProof.CallFns
import PyProof.StrWalks
import KE.KIntText
import PyProof.ListStr
import PySem.Challenge.RW_rayround_k50_dots_moved_by_slopes
set_option maxRecDepth 100000
set_option linter.all false
set_option Elab.async false
set_option maxHeartbeats 4000000
local macro_rules|`(⋯)=>`(by lia)
noncomputable section
set_option bootstrap.genMatcherCode false
set_option genSizeOf false
set_option genSizeOfSpec false
set_option compiler.extract_closed false
open And renaming intro→mf
open Array renaming getElem?_toList→bn,length_toList→bw,perm_iff_toList_perm→b7,toList_append→cE,getElem?_eq_getElem→cR,getElem?_eq_some_iff→dj,getElem?_setIfInBounds_self_of_lt→dH,toList_extract→dP,size_push→dY,forIn_toList→fM,toList_push→gq,toList_reverse→gF,toList_inj→gM,getElem?_setIfInBounds_ne→iD,append_assoc→jt,getElem?_extract→kP,getElem?_push→mo
open Bool renaming false_eq_true→a8,and_eq_true→bz,false_ne_true→cH,not_true→fX,not_eq_true'→gn,eq_iff_iff→i7,not_eq_false'→jE,and_eq_true_iff→lV
open False renaming elim→gA
open Int renaming natAbs_mul→aR,mul_le_mul_of_nonneg_right→bM,mul_nonneg→b9,mul_le_mul_of_nonneg_left→cV,emod_lt_of_pos→c9,emod_nonneg→dZ,emod_eq_of_lt→fv,toNat_natCast→gm,gcd→gN,natCast_ediv→iJ,fmod_eq_emod_of_nonneg→jG,fdiv_eq_ediv_of_nonneg→jH,natAbs_natCast→jJ,natAbs_sub_le→jX,mul_pos→jZ,dvd_mul_of_dvd_right→ke,dvd_mul_of_dvd_left→ku,natCast_dvd_natCast→kz,mul_eq_zero→lh,mul_ne_zero→li,emod_emod_of_dvd→lP,one_mul→lQ,neg_mul→lR,natAbs_neg→lU,mul_comm→mY,mul_zero→m5,mul_one→nu,mul_neg→nH
open List renaming getElem?_eq_getElem→ae,size_toArray→ah,getElem?_eq_some_iff→aq,length_map→au,getD_eq_getElem?_getD→aw,mem_cons→az,getElem?_append_left→aC,mem_cons_of_mem→aI,range→aJ,getElem?_append_right→aK,getElem?_set_self→aT,map_cons→aV,mem_append_right→aW,mem_map→aX,length_append→aY,getElem?_eq_none→aZ,mem_append→a7,Nodup→a9,getElem?_set_ne→be,replicate→bf,getElem?_map→bv,length_cons→bD,length_take→bI,getElem?_eq_none_iff→bJ,cons_append→bL,mem_cons_self→bQ,length_replicate→bR,getElem_of_mem→bS,getElem_mem→bU,take_append_drop→bX,zipWith→bY,mem_range→bZ,lookup_cons→b6,getElem_map→b8,take_of_length_le→cu,append_nil→cx,mem_singleton→cJ,not_mem_nil→cN,drop_eq_getElem_cons→cQ,extract_eq_drop_take→cS,append_assoc→cU,map_append→c6,map_map→c7,getElem?_cons_succ→db,reverse_cons→dh,take_succ_eq_append_getElem→dq,length_set→dA,all_eq_true→dG,getElem?_take_of_lt→dI,Pairwise→my,eq_nil_of_length_eq_zero→dN,pairwise_map→dX,filterMap_cons→d6,length_reverse→d7,drop_eq_nil_of_le→d8,mem_reverse→eJ,ext_getElem→eK,nodup_cons→eY,mem_of_getElem?→fg,ext_getElem?→fk,mem_of_mem_take→fw,map_congr_left→fI,length_drop→fK,length_singleton→ge,getElem?_toArray→gf,max?_eq_some_iff→gj,perm_append_comm→gk,mem_append_left→gz,getElem_zipWith→gG,mem_of_mem_drop→gH,map_eq_nil_iff→gS,mem_filter→gZ,of_mem_zip→hG,length_nil→hO,getElem?_drop→ii,getElem_range→ik,zipWith_cons_cons→iB,max?_eq_none_iff→iG,take→iK,nil_append→i6,length_pos_iff→jc,map_nil→jd,zip_cons_cons→jr,mem_replicate→jC,pairwise_cons→jF,nodup_append→jP,length_range→jQ,map_take→kc,max?→kj,getElem?_cons_zero→kr,take_length→kD,mem_flatMap→kE,getElem_cons_zero→kR,getElem_cons_succ→kW,find?_cons→kZ,range_succ→la,min?_eq_some_iff→lj,getElem?_reverse→ly,singleton_append→lB,eq_replicate_iff→lD,drop_zero→lM,take_zero→lO,toList_toArray→mq,take_succ_cons→mw,map_drop→mC,Perm→nM,drop→nj,length→nv
open List.Pairwise renaming imp_of_mem→fF,imp→j0
open List.Perm renaming eq_of_pairwise→j8
open List.cons renaming injEq→iZ
open Nat renaming le_refl→af,lt_of_lt_of_le→aj,ne_of_lt→aE,le_trans→aM,ne_of_gt→bH,lt_irrefl→bV,zero_le→cI,pow_le_pow_right→cK,pos_of_ne_zero→cL,mul_le_mul_right→cM,lt_succ_iff_lt_or_eq→cZ,mul_le_mul_left→dw,lt_succ_self→dF,mul_le_mul→dQ,mul_pos→eH,le_of_lt→ff,zero_add→fm,lt_of_le_of_lt→fP,sub_self→fQ,add_assoc→fW,lt_succ_of_lt→gp,not_lt_of_le→gL,min_eq_left→hU,lcm→ia,lt_trans→iz,add_zero→iC,dvd_trans→iO,le_succ→iQ,pow_add→iX,div_le_self→i9,le_of_mul_le_mul_left→jM,gcd→jW,le_mul_of_pos_right→kF,add_comm→kO,le_mul_of_pos_left→kX,mul_ne_zero→lf,eq_one_of_dvd_one→lC,le_of_dvd→mD,min_self→mS,le_of_eq→mV,pow_succ→mZ
open Ne renaming symm→cC
open Option renaming isSome_iff_exists→fA,isNone_iff_eq_none→gP,map_eq_some_iff→iy,getD_some→iI,isSome_some→jB
open Option.some renaming injEq→am,inj→aQ
open Or renaming inl→dM,inr→kJ
open Prod renaming ext→eO,fst→mW
open Prod.mk renaming injEq→mz
open PyProof.Rows renaming wpS_bind→ar,wpS_pure→aA,Keyed→aN,seqObj→bF,callWith_type1→bW,SortSt→cg,wpS_forRange→cj,slot_tuple_getitem→fG,wpS_mono→fL,setPending→gD,wpS_modify→gE,IntsAre→iw,AllBare→iL,failedOf→iW,get?_update_seq→i8,wpS_get→jg,listItems_at→jh,assignInOrder_cons→ju,envOfC→jw,mirror→j6,reverseSlice'→j7,listUpdate_at→j9,wpS_lift→kq,subscriptTail_builtinR→kI,wpS_reverse→lN,getElem?_mirror_all→mv,firstOfTuple'→mB,setArr→mK,size_push'→mL,tuples'→mU
open PySem renaming Value→aa,model→ao,starEach→av,Shared→aB,mainGlobals→aO,Builtin→eS,NameKind→cW,bootBuiltins→bK,cellsFrom→bT,Heap→m8,Program→cD,wpAny_newObj_type→cF,wpAny_field→cG,backTo→cT,Around→dg,World→da,wpAny_call_entry→dD,assignEach→dE,sizeLine_eq→dL,wpAny_typeNameOfWhole_keyiter→dO,wpAny_truthy_bool→dR,codeAmong→dW,compareOp→eI,wpAny_setField→eL,rawInt→eN,wpAny_passesOwn→eW,wpAny_typeNameOf_keyiter→fE,codeAny→fN,wpAny_specialOf→fR,binaryOp→fU,importedModules→fV,swappedStores→fY,PassesOwn→fZ,keywordEach→gB,wpAny_isInstance→gJ,TriplesOk→gK,behindInMarks→gW,letOwnedTupleGo→hE,sysModules→ic,builtinsNs→ig,wpAny_callSpecial?_slot→il,sliceBounds→im,tupleKeyHash→iu,isSubtype_tuple_tuple→iE,wpAny_isOneOf_keyiter→iF,wpAny_forIn_list→iH,swapsWithSole→iM,attributeBase→iN,FuncData→iT,bindArgs→iU,compTurn→iV,wpAny_execs_nil→i5,Keyword→je,swapsWith→ji,pushCells→jj,pyNext→jl,cLine→jo,wpAny_tupleItemsOf→jq,Scope→js,recursionLimit→jv,backToKw→jz,Thread→jA,wpAny_fieldsOf→jD,wpAny_pyIter_list→jS,wpAny_pyIter_slot→jU,wpAny_dictEntries→jV,wpAny_attempt→j3,denote→kM,wpAny_loadPart'→kY,pushCells_keeps→k7,wpAny_dictEpoch→k9,builtinLookup_eq_fast→lw,IsRangeIter→lE,Params→lH,newFunctionEnv→lL,BindsTo→lX,callerA→lY,DictEntry→lZ,treeTable→l9,noteFrame→ma,isInstance→mE,IsPart→mH,closureFor→mJ,codeAny_mono→mM,wpAny_typeOf→mO,seqIndex_neg→mP,relabel→mT,eqIsQuiet→m9,wpAny_throw→nq,seqIndex_of→ny,unsupported→nD,leaving→nI,getItem→nJ,ItemsOf→nK
open PySem.Around renaming frames_deeper→lG
open PySem.Builtin.Dict renaming showsAll→lA
open PySem.Builtin.Int renaming intBits→gR
open PySem.Builtin.List renaming listExtendWith→d9,listItems→ez,listTooLong→gY,listLengthHint→jf,listSameRef→j5
open PySem.Builtin.Slice renaming slicePlaces→eV,sliceAdjust→gQ,sliceApplied→jy
open PySem.Builtin.Tuple renaming tupleHashOf→cO,tupleExact→fB,tupleItemsOf→jp
open PySem.Data renaming fields→lF,dict→l6
open PySem.EntryCells renaming newEntry→mh
open PySem.Heap renaming get?_push_size→aL,get?_update_other→aS,get?_update_self→dC,SameBut→ir,size_push→gu,ExtBut→iS
open PySem.Heap.SameBut renaming update→fJ
open PySem.NameKind renaming free→dJ,cell→eE
open PySem.Obj renaming mapSeq→bC,mapFields→eD,data_mapFields→eM,isFreed_of_fields→eU,cls_mapFields→jN
open PySem.SeqAt renaming EqAt→mF
open PySem.Str renaming ofString→bG,empty→ni
open PySem.Value renaming ref→aU,type→bB,none→bO,builtin→j4,int→kh,str→lW,bool→mG
open PySem.W renaming boot_heap→eZ,SharedT→fH,specialIn→io,findIn→iA,takesIn→jO,stepOk→lI,mroIn→lJ,looks_mroIn→lK,boot_drawn→mI,through→mQ,stepT→mR,boot_toks→nh,clsIn→nB
open Rat renaming intCast_mul→ay,mul_le_mul_of_nonneg_left→aF,intCast_natCast→aG,intCast_le_intCast→aH,intCast_add→bE,intCast_neg→bN,mul_le_mul_of_nonneg_right→cf,mul_nonneg→cA,intCast_sub→c8,intCast_lt_intCast→dm,intCast_pos→dB,normalize→eG,intCast_nonneg→eQ,le_of_mul_le_mul_right→gI,mul_lt_mul_left→gU,natCast_mul→hW,natCast_pos→hZ,le_refl→iq,mul_lt_mul_right→iY,intCast_inj→ja,intCast_nonpos→jI,natCast_nonneg→jK,le_of_mul_le_mul_left→jL,mul_pos→jY,intCast_eq_zero_iff→kC,mul_def→nE,neg_num→nF,neg_den→nG
open Sum renaming inl→kG,inr→kH
open True renaming intro→fC
open PySem PySem.Spec
theorem Qrf(h:0=0:=by rfl):True:=trivial
theorem Qde(h:0=0:=by decide):True:=trivial
theorem Qin(h:0=0:=by intro _;rfl):True:=trivial
noncomputable abbrev Fg:=PySem.W.Frag
noncomputable abbrev Vp:=aa->aB->Prop
noncomputable abbrev Pn:=List (Addr×Obj)
noncomputable abbrev Wb:=@wpAny_bind
noncomputable abbrev Hq:=@m8.get?_push_of_some
noncomputable abbrev Hz:=@m8.lt_size
noncomputable abbrev Wp:=@wpAny_pure
noncomputable abbrev Gq:=@ae
namespace DQ
open PyProof.Rows
noncomputable def ZaJ(A:dg)(h:Heap):Prop:=A.handled=none\/∃ea oe vs,A.handled=some (.ref ea)/\h.get? ea=some oe/\oe.data=.fields vs/\vs[2]?=some .none
theorem ZaJ.keeps(q:ZaJ A h)(k:∀b o,h.get? b=some o->h'.get? b=some o):ZaJ A h':=by
 rcases q with q|⟨ea,oe,vs,e1,e2,e3,e4⟩
 .exact .inl q
 .exact .inr ⟨ea,oe,vs,e1,k _ _ e2,e3,e4⟩
theorem Zc3:entryFor table "proto.unchain"=some eS.«proto.unchain» :=entryFor_of_fast (by kernel_rfl)
theorem Zer{Q:α->aB->Prop}(q:ZaJ A s.heap)(he:s.heap.get? e=some oe)(hd:oe.data=.fields vs)(hz:2<vs.size)(h:∀h',(∀b o,b≠e->s.heap.get? b=some o->h'.get? b=some o)->(∃o,h'.get? e=some o/\o.cls=oe.cls)->E (.ref e) {s with heap:=h'}):wpAny (ao prog w) A (raiseNew (.ref e):Sem α) Q E s:=by
 have same:E (.ref e) s:=h s.heap (λ_ _ _ x=>x) ⟨oe,he,rfl⟩;unfold raiseNew;refine Wb (wpAny_handled ?_);rcases q with q|⟨ea,oa,ws,q1,q2,q3,q4⟩
 .rw[q];exact Wb (Wp (nq same))
 .rw[q1];dsimp only;by_cases c:(aU ea != aU e)=true
  .rw[if_pos c];refine Wb (wpAny_holding (wpAny_runValue (codeAny_builtin Zc3 ?_)));unfold eS.«proto.unchain»;refine Wb (cG q2 q3 q4 ?_);refine Wb (Wp ?_);have sf:wpAny (ao prog w) A (setField (.ref e) 2 (.ref ea)) (λ_ s'=>wpAny (ao prog w) A (throw (aU e):Sem α) Q E s') E s:=by
    refine eL he hd hz (nq (h _ (λb o hb x=>?_) ⟨_,dC _ he (eU (eM hd _)),jN _ _⟩));rw[aS _ _ (cC hb)];exact x
   exact Wp (Wb sf)
  .rw[if_neg c];exact nq same
theorem Za9{Q:α->aB->Prop}(q:ZaJ A s.heap)(h:∀h' e,(∀b o,s.heap.get? b=some o->h'.get? b=some o)->(∃o,h'.get? e=some o/\o.cls=.type "StopIteration")->E (.ref e) {s with heap:=h'}):wpAny (ao prog w) A (newExc (.type "StopIteration") [] >>= λx=>(raiseNew x:Sem α)) Q E s:=by
 refine Wb ?_;simp only[newExc,newTuple];refine Wb (cF ?_ (by size_fits))
 refine Wb (m:=firstArgMember _ _) (wpAny_of_eq (a:=bO) (by first|rfl|(simp only[firstArgMember];rfl)) ?_)
 refine cF ?_ (by size_fits)
 refine Zer (q.keeps λb o x=>Hq _ (Hq _ x)) (aL _ rfl) rfl (by rw[Array.size_append];exact aj (by decide:2<6) (Nat.le_add_right _ _)) λh' k he=>?_
 exact h h' _ (λb o x=>k b o (aE (aj (Hz x) (by rw[gu];exact iQ _))) (Hq _ (Hq _ x))) he
theorem ZlF(he:∃o,s.heap.get? e=some o/\o.cls=.type "StopIteration")(h:Q true s):wpAny (ao prog w) A (mE (.ref e) (.type "StopIteration")) Q E s:=
 let ⟨o,e1,e2⟩:=he
 gJ (T:="StopIteration") (b:=true) ⟨o,e1,e2⟩ isSubtype_stop h
theorem ZaJ.in1(q:ZaJ A h):ZaJ A.in1 h:=q
noncomputable def Zff(it:Addr)(s:aB)(e:aa)(s':aB):Prop:=∃a,e=.ref a/\(∃o,s'.heap.get? a=some o/\o.cls=.type "StopIteration")/\∃h',iS it s.heap h'/\s'={s with heap:=h'}
theorem Zfg{id:String}(hT:s.TypeIs (.ref it) T)(sl:Slot T (bG "__next__") id)(hb:entryFor table id=some b)(ha:argsOk id ⟨[.ref it],[]⟩)(h:wpAny (ao prog w) A.in1 (b ⟨[.ref it],[]⟩) (λ_ _=>False) (Zff it s) s)(hQ:∀h',iS it s.heap h'->Q none {s with heap:=h'}):wpAny (ao prog w) A (jl (.ref it)) Q E s:=by
 unfold jl;refine Wb (j3 (il (name:=bG "__next__") hT sl (dD sl hT hb (wpAny_mono h (λ_ _ z=>z.elim) λe s' z=>?_) ha)));obtain⟨a,rfl,ho,h',eb,rfl⟩:=z;exact Wb (ZlF ho (Wp (hQ h' eb)))
theorem ZgE{step:Int}(q:ZaJ A s.heap)(hit:lE s.heap it x left step)(hl:left<=0)(hQ:∀h',iS it s.heap h'->Q none {s with heap:=h'}):wpAny (ao prog w) A (jl (.ref it)) Q E s:=by
 refine Zfg ⟨_,hit,rfl⟩ F.slot_range_iterator_next F.entry_range_iterator_next (F.args_range_iterator_next_1 _) ?_ hQ;refine Wb (m:=field (.ref it) 0) (cG hit rfl (x:=eN x) rfl ?_);refine Wb (m:=field (.ref it) 1) (cG hit rfl (x:=eN left) rfl ?_);refine Wb (m:=field (.ref it) 2) (cG hit rfl (x:=eN step) rfl ?_);dsimp only[eN];rw[if_pos hl];refine Wb (wpAny_rule (Wb ?_));exact Za9 q.in1 λh' e k ho=>⟨e,rfl,ho,h',λb o _ z=>k b o z,rfl⟩
theorem ZnU{i:Nat}(q:ZaJ A s.heap)(ho:s.heap.get? it=some o)(hd:o.data=.fields #[.ref l,.int i 0])(hol:s.heap.get? l=some ol)(hdl:ol.data=.seq items n)(hx:items[i]?=none):wpAny (ao prog w) A.in1 (eS.«list_iterator.__next__» ⟨[.ref it],[]⟩) (λ_ _=>False) (Zff it s) s:=by
 refine Wb (m:=field (.ref it) 0) (cG ho hd (x:=.ref l) rfl ?_);dsimp only;rw[if_neg (show ¬((aU l==bO)=true)from cH)];refine Wb (m:=field (.ref it) 1) (cG ho hd (x:=.int i 0) rfl ?_);refine Wb (m:=seqItems? (.ref l)) (wpAny_seqItems hol hdl ?_);simp only[gm,hx];refine Wb (wpAny_rule (Wb (eL ho hd (by simp) ?_)))
 have q2:ZaJ A.in1 (s.heap.update it (eD (·.setIfInBounds 0 bO))):=by
  rcases q with q|⟨ea,oe,vs,e1,e2,e3,e4⟩
  .exact .inl q
  .refine .inr ⟨ea,oe,vs,e1,?_,e3,e4⟩;rw[aS _ _ (λz=>?_)]
   .exact e2
   .rw[<-z,ho]at e2;cases e2;rw[hd]at e3;cases e3;simp at e4
 refine Za9 q2 λh' e k ho=>⟨e,rfl,ho,h',λb o hb z=>k b o ?_,rfl⟩;rw[aS _ _ (cC hb)];exact z
theorem ZnV{i:Nat}(q:ZaJ A s.heap)(ho:s.heap.get? it=some o)(hd:o.data=.fields #[.ref l,.int i 0])(hol:s.heap.get? l=some ol)(hdl:ol.data=.seq items n)(hx:items[i]?=none):wpAny (ao prog w) A.in1 (eS.«tuple_iterator.__next__» ⟨[.ref it],[]⟩) (λ_ _=>False) (Zff it s) s:=by
 refine Wb (m:=field (.ref it) 0) (cG ho hd (x:=.ref l) rfl ?_);dsimp only;rw[if_neg (show ¬((aU l==bO)=true)from cH)];refine Wb (m:=field (.ref it) 1) (cG ho hd (x:=.int i 0) rfl ?_);refine Wb (m:=seqItems? (.ref l)) (wpAny_seqItems hol hdl ?_);simp only[gm,hx];refine Wb (wpAny_rule (Wb (eL ho hd (by simp) ?_)))
 have q2:ZaJ A.in1 (s.heap.update it (eD (·.setIfInBounds 0 bO))):=by
  rcases q with q|⟨ea,oe,vs,e1,e2,e3,e4⟩
  .exact .inl q
  .refine .inr ⟨ea,oe,vs,e1,?_,e3,e4⟩;rw[aS _ _ (λz=>?_)]
   .exact e2
   .rw[<-z,ho]at e2;cases e2;rw[hd]at e3;cases e3;simp at e4
 refine Za9 q2 λh' e k ho=>⟨e,rfl,ho,h',λb o hb z=>k b o ?_,rfl⟩;rw[aS _ _ (cC hb)];exact z
theorem Zjh{items}(q:ZaJ A s.heap)(hit:s.heap.IsListIter it l i)(hl:s.heap.IsList l items)(hx:items[i]?=none)(hQ:∀h',iS it s.heap h'->Q none {s with heap:=h'}):wpAny (ao prog w) A (jl (.ref it)) Q E s:=by
 obtain⟨o,ho,hc,hd⟩:=id hit;obtain⟨ol,hol,_,nl,hdl⟩:=hl;exact Zfg hit.typeIs slot_listiter_next entry_listiter_next (args_listiter_next _) (ZnU q ho hd hol hdl hx) hQ
theorem ZgF{items}(q:ZaJ A s.heap)(hit:s.heap.IsTupleIter it l i)(hl:s.heap.IsTuple l items)(hx:items[i]?=none)(hQ:∀h',iS it s.heap h'->Q none {s with heap:=h'}):wpAny (ao prog w) A (jl (.ref it)) Q E s:=by
 obtain⟨o,ho,hc,hd⟩:=id hit;obtain⟨ol,hol,_,nl,hdl⟩:=hl;exact Zfg hit.typeIs F.slot_tuple_iterator_next F.entry_tuple_iterator_next (F.args_tuple_iterator_next_1 _) (ZnV q ho hd hol hdl hx) hQ
end DQ
namespace PySem
namespace NK
variable {prog:cD}{w:da}{K:Type}[DecidableEq K](knd:KeyKind prog w K)
inductive ItemsT(h:Heap):List (List K)->List aa->Prop where
 |nil:ItemsT h [] []
 |cons {k:List K} {a:Addr} {ks:List (List K)} {vs:List aa}:IsTupleKey knd h k a->ItemsT h ks vs->ItemsT h (k::ks) (.ref a::vs)
noncomputable def Zam(h:Heap)(ks:List (List K))(a:Addr):Prop:=∃o items n,h.get? a=some o/\o.cls=.type "tuple"/\o.data=.seq items n/\ItemsT knd h ks items.toList
variable {knd}
theorem ItemsT.inj{h:Heap}{x y:List (List K)}{vs:List aa}(hx:ItemsT knd h x vs):ItemsT knd h y vs->x=y:=by
 intro hy
 induction hx generalizing y with
 |nil=>cases hy;rfl
 |cons k1 _ ih=>
  cases hy with
  |cons k2 t=>rw[k1.inj k2,ih t]
theorem Zam.typeIs{s:aB}{ks:List (List K)}{a:Addr}(x:Zam knd s.heap ks a):s.TypeIs (.ref a) "tuple":=let ⟨o,_,_,ho,hc,_⟩:=x;⟨o,ho,hc⟩
theorem Zam.inj{h:Heap}{a:Addr}{x y:List (List K)}(hx:Zam knd h x a)(hy:Zam knd h y a):x=y:=by
 obtain⟨o,i1,n1,e1,_,d1,q1⟩:=hx;obtain⟨o2,i2,n2,e2,_,d2,q2⟩:=hy;rw[e1]at e2;cases e2;rw[d1]at d2;cases d2;exact q1.inj q2
theorem ItemsT.keeps{h h':Heap}{ks:List (List K)}{vs:List aa}{d:Addr}{o:Obj}{es ep}(x:ItemsT knd h ks vs)(ho:h.get? d=some o)(hd:o.data=.dict es ep)(hs:ir d h h'):ItemsT knd h' ks vs:=by
 induction x with
 |nil=>exact .nil
 |cons k _ ih=>exact .cons (k.keeps ho hd hs) ih
theorem Zam.keeps{h h':Heap}{ks:List (List K)}{a d:Addr}{o:Obj}{es ep}(x:Zam knd h ks a)(ho:h.get? d=some o)(hd:o.data=.dict es ep)(hs:ir d h h'):Zam knd h' ks a:=by
 obtain⟨o1,items,n,e1,c1,d1,q⟩:=x;have ne:a≠d:=by
  intro z;subst z;rw[e1]at ho;cases ho;rw[d1]at hd;cases hd
 exact⟨o1,items,n,by rw[hs.2 a ne];exact e1,c1,d1,q.keeps ho hd hs⟩
noncomputable def ZlG(knd:KeyKind prog w K)(ks:List (List K)):Int:=reduceHash (cO (ks.map (iu knd)))
noncomputable def ZcH(ks:List (List K)):Nat:=(ks.map λk=>k.length+1).sum
variable {A:dg}{E:Vp}{s:aB}
theorem ZgG{ks:List (List K)}{a:Addr}{Q:Int->aB->Prop}(hu:A.units+1<jo)(hk:Zam knd s.heap ks a)(h:Q (ZlG knd ks) {s with toks:=s.toks+(ZcH ks+1)}):wpAny (ao prog w) A (pyHash (.ref a)) Q E s:=by
 have hT:=hk.typeIs;obtain⟨o,items,n,ho,_,hd,hi⟩:=hk;unfold pyHash
 first|unfold pyHashByItsType|skip
 first|refine Wb (wpAny_cRoomFor_or (.inr ⋯) ?_)|skip
 refine Wb (fR hT F.slot_tuple_hash.lookup ?_);show wpAny _ _ (if(some (j4 "tuple.__hash__")==some bO)=true then _ else _) Q E s
 rw[if_neg (by rw[beq_builtin_none];exact cH)]
 refine Wb (fR hT F.slot_tuple_hash.lookup ?_);show wpAny _ _ (callSpecialIfBoundUnlessNone? (.ref a) "__hash__" _ >>= _) Q E s;refine Wb (wpAny_callSpecialIfBoundUnlessNone?_slot hT F.slot_tuple_hash (dD F.slot_tuple_hash hT F.entry_tuple_hash ?_ (F.args_tuple_hash_1 _)));show wpAny _ _ (jp (.ref a) >>= _) _ _ s;refine Wb (jq ho hd ?_);refine Wb ?_;rw[<-fM];refine iH _
  (λrest (b:Array Int) s'=>∃done left,ks=done++left/\ItemsT knd s.heap left rest/\b.toList=done.map (iu knd)/\s'={s with toks:=s.toks+ZcH done})
  _ ?_ ?_ _ _ ⟨[],ks,rfl,hi,rfl,rfl⟩
 .rintro x rest b s' ⟨done,left,rfl,hl,hb,rfl⟩;cases hl with
  |@cons k a' ks' _ h1 hl'=>
   refine Wb (wpAny_pyHash_tuple (knd:=knd) (ks:=k) (s:={s with toks:=s.toks+ZcH done}) (by exact hu) h1 ?_)
   first
    |exact Wp ⟨done++[k],ks',by simp,hl',by simp[hb],by simp[ZcH,fW]⟩
    |exact Wb (Wp (Wp ⟨done++[k],ks',by simp,hl',by simp[hb],by simp[ZcH,fW]⟩))
 .rintro b s' ⟨done,left,rfl,hl,hb,rfl⟩;cases hl;rw[cx]at h;show wpAny _ _ (retInt (cO b.toList)) _ _ _;rw[hb];refine wpAny_ret_mkInt ?_;show wpAny _ _ (if(decide (-(2:Int)^63<=cO (done.map (iu knd)))&&decide (cO (done.map (iu knd))<2^63))=true then _ else _) Q E _
  unfold ZlG reduceHash at h;by_cases hr:(decide (-(2:Int)^63<=cO (done.map (iu knd)))&&decide (cO (done.map (iu knd))<2^63))=true
  .rw[if_pos hr];rw[if_pos hr]at h;exact Wp (by simpa [fW]using h)
  .rw[if_neg hr];rw[if_neg hr]at h;exact Wb (wpAny_rule (Wp (by simpa [fW]using h)))
theorem ZlH{x y:List (List K)}{a b:Addr}{P:Fin->aB->Prop}(hu:A.units<jo)(hx:Zam knd s.heap x a)(hy:Zam knd s.heap y b)(h:P (.done (.ret (.bool (decide (x=y))))) s):wpAny (ao prog w) A (eS.«tuple.__eq__» ⟨[.ref a,.ref b],[]⟩) P E s:=by
 have hTb:=hy.typeIs;obtain⟨oa,xs,na,hoa,_,hda,hia⟩:=hx;obtain⟨ob,ys,nb,hob,_,hdb,hib⟩:=hy;show wpAny _ _ (mE (.ref b) (.type "tuple") >>= _) _ _ s;refine Wb (gJ hTb iE ?_);simp only[fX,a8,if_false];refine Wb (jq hoa hda ?_);refine Wb (jq hob hdb ?_);refine Wb ?_;refine iH _
  (λrest r s'=>r.1=none/\s'=s/\∃x' y' xs' ys',rest=List.zip xs' ys'/\ItemsT knd s.heap x' xs'/\ItemsT knd s.heap y' ys'/\decide (x'=y')=decide (x=y)/\(xs'.length==ys'.length)=(xs.size==ys.size))
  _ ?_ ?_ _ _ ⟨rfl,rfl,x,y,xs.toList,ys.toList,rfl,hia,hib,rfl,by simp⟩
 .rintro⟨u,v⟩ rest r s' ⟨hr,rfl,x',y',xs',ys',hz,hx',hy',hdec,hlen⟩;cases hx' with
  |nil=>simp at hz
  |@cons k1 u' x'' xs'' h1 hx''=>
   cases hy' with
   |nil=>simp at hz
   |@cons k2 v' y'' ys'' h2 hy''=>
    simp only[jr,iZ,mz]at hz;obtain⟨⟨rfl,rfl⟩,rfl⟩:=hz;refine Wb (wpAny_eqBool_tuple (knd:=knd) (x:=k1) (y:=k2) hu h1 h2 ?_);by_cases hk:k1=k2
    .subst hk;rw[decide_eq_true rfl];simp only[fX,a8,if_false];refine Wp ⟨rfl,rfl,x'',y'',xs'',ys'',rfl,hx'',hy'',?_,by simpa using hlen⟩
     rw[<-hdec];by_cases hxy:x''=y''
     .simp[hxy]
     .simp[hxy]
    .rw[decide_eq_false hk];simp only[Bool.not_false,if_true];have hf:decide (x=y)=false:=by rw[<-hdec];simp[hk]
     rw[hf]at h;exact Wb (Wp (Wp (Wp h)))
 .rintro⟨r1,r2⟩ s' ⟨hr,rfl,x',y',xs',ys',hz,hx',hy',hdec,hlen⟩;simp only at hr;subst hr;refine Wp ?_;have hfin:(xs.size==ys.size)=decide (x=y):=by
   rw[<-hdec,<-hlen];cases hx' with
   |nil=>
    cases hy' with
    |nil=>simp
    |cons _ _=>simp
   |cons _ _=>
    cases hy' with
    |nil=>simp
    |cons _ _=>simp at hz
  show P (.done (.ret (.bool (xs.size==ys.size)))) s';rw[hfin];exact h
theorem ZlI{x y:List (List K)}{a b:Addr}{Q:Bool->aB->Prop}(hu:A.units+1<jo)(hx:Zam knd s.heap x a)(hy:Zam knd s.heap y b)(h:Q (decide (x=y)) s):wpAny (ao prog w) A (eqBool (.ref a) (.ref b)) Q E s:=by
 unfold eqBool
 try with_reducible refine wpAny_holding ?_
 show wpAny _ _ (if(aU a==aU b)=true then _ else _) Q E s
 by_cases hab:(aU a==aU b)=true
 .rw[if_pos hab];have e:a=b:=by have:=eq_of_beq hab;injection this
  subst e;obtain rfl:=hx.inj hy;exact Wb (wpAny_rule (Wp (by simpa using h)))
 .rw[if_neg hab];exact Wb (wpAny_richCompare_same_room (op:=.Eq) hx.typeIs hy.typeIs F.slot_tuple_eq
   (dD F.slot_tuple_eq hx.typeIs F.entry_tuple_eq (ZlH (by exact hu) hx hy ⟨_,rfl,(λe=>nomatch e),dR h⟩) (F.args_tuple_eq_2 _ _)) ⋯)
theorem ZgH{ks:List K}{a:Addr}{Q:Bool->aB->Prop}(m:Nat)(hk:IsTupleKey knd s.heap ks a)(h:Q true s):wpAny (ao prog w) A (m9 (m+1) (.ref a)) Q E s:=by
 have hT:=hk.typeIs;obtain⟨o,items,n,ho,_,hd,hi⟩:=hk;unfold m9;refine Wb (fR hT F.slot_tuple_eq.lookup ?_);show wpAny _ _ (mE (.ref a) (.type "tuple") >>= _) _ _ s;refine Wb (gJ hT iE ?_);simp only[fX,a8,if_false];refine Wb (wpAny_seqItems ho hd ?_);refine Wb ?_;show wpAny _ _ (forIn items _ _) _ _ s;rw[<-fM];refine iH _ (λrest r s'=>r.1=none/\s'=s/\∀v∈rest,carriedByValue v=true) _ ?_ ?_ _ _ ⟨rfl,rfl,hi.byValue⟩
 .rintro v rest r s' ⟨hr,rfl,hall⟩;rw[eqIsQuiet_byValue _ (hall v bQ)];refine Wb (Wp ?_);simp only[fX,a8,if_false];exact Wp ⟨rfl,rfl,λu hu'=>hall u (aI _ hu')⟩
 .rintro⟨r1,r2⟩ s' ⟨hr,rfl,_⟩;simp only at hr;subst hr;exact Wp h
theorem Zga{ks:List (List K)}{a:Addr}{Q:Bool->aB->Prop}(hk:Zam knd s.heap ks a)(h:Q true s):wpAny (ao prog w) A (m9 8 (.ref a)) Q E s:=by
 have hT:=hk.typeIs;obtain⟨o,items,n,ho,_,hd,hi⟩:=hk;unfold m9;refine Wb (fR hT F.slot_tuple_eq.lookup ?_);show wpAny _ _ (mE (.ref a) (.type "tuple") >>= _) _ _ s;refine Wb (gJ hT iE ?_);simp only[fX,a8,if_false];refine Wb (wpAny_seqItems ho hd ?_);refine Wb ?_;show wpAny _ _ (forIn items _ _) _ _ s;rw[<-fM];refine iH _ (λrest r s'=>r.1=none/\s'=s/\∃ks',ItemsT knd s.heap ks' rest) _ ?_ ?_ _ _ ⟨rfl,rfl,ks,hi⟩
 .rintro v rest r s' ⟨hr,rfl,ks',hall⟩;cases hall with
  |cons k1 t=>
   refine Wb (ZgH 6 k1 ?_);simp only[fX,a8,if_false];exact Wp ⟨rfl,rfl,_,t⟩
 .rintro⟨r1,r2⟩ s' ⟨hr,rfl,_⟩;simp only at hr;subst hr;exact Wp h
end NK
def Zb0{prog:cD}{w:da}{K:Type}[DecidableEq K](knd:KeyKind prog w K):HeapKind prog w (List (List K)) where
 is:=NK.Zam knd
 hash:=NK.ZlG knd
 draws:=λks=>NK.ZcH ks+1
 room:=λA=>A.units+1<jo
 inj:=λhx hy=>hx.inj hy
 keeps:=λx ho hd hs=>x.keeps ho hd hs
 pyHash:=λhu hk h=>NK.ZgG hu hk h
 eqBool:=λhu hx hy h=>NK.ZlI hu hx hy h
 quiet:=λhk h=>NK.Zga hk h
end PySem
namespace L2
open PyProof.Rows
noncomputable abbrev Key:=Sum Int Str
noncomputable def Zgb:Key->aa->Bool
 |.inl k,v=>aa.isInt k v
 |.inr x,v=>aa.isStrOf x v
noncomputable def ZuW(w:da):Key->Int
 |.inl k=>hashInt k
 |.inr x=>hashStr w x
theorem ZO:∀{k:Key}{v:aa},Zgb k v=true->(∃i t,k=kG i/\v=kh i t)\/(∃x t,k=kH x/\v=lW x t)
 |.inl i,v,h=>by
  obtain⟨t,e⟩:=aa.isInt_shape (k:=i) (v:=v) h;exact .inl ⟨i,t,rfl,e⟩
 |.inr x,v,h=>by
  obtain⟨t,e⟩:=aa.isStrOf_shape (x:=x) (v:=v) h;exact .inr ⟨x,t,rfl,e⟩
theorem ZgI(i:Int)(t:Tok):Zgb (.inl i) (.int i t)=true:=by simp[Zgb,aa.isInt]
theorem ZgJ(x:Str)(t:Tok):Zgb (.inr x) (.str x t)=true:=by simp[Zgb,aa.isStrOf]
theorem ZnW(a b:Int):decide ((kG a:Key)=kG b)=(a==b):=by
 by_cases e:a=b
 .subst e;simp
 .have h:¬(kG a:Key)=kG b:=λq=>e (kG.inj q);rw[decide_eq_false h];exact(beq_eq_false_iff_ne.mpr e).symm
theorem ZnX(a b:Str):decide ((kH a:Key)=kH b)=decide (a=b):=by
 by_cases e:a=b
 .subst e;simp
 .have h:¬(kH a:Key)=kH b:=λq=>e (kH.inj q);rw[decide_eq_false h,decide_eq_false e]
theorem ZnY(a:Int)(b:Str):decide ((kG a:Key)=kH b)=false:=decide_eq_false (λq=>nomatch q)
theorem ZnZ(a:Str)(b:Int):decide ((kH a:Key)=kG b)=false:=decide_eq_false (λq=>nomatch q)
def Zaf(prog:cD)(w:da):PySem.KeyKind prog w Key where
 is:=Zgb
 hash:=ZuW w
 inj:=λv a b ha hb=>by
  rcases ZO ha with⟨i,t,rfl,rfl⟩|⟨x,t,rfl,rfl⟩
  .rcases ZO hb with⟨j,u,rfl,e⟩|⟨y,u,rfl,e⟩
   .injection e with e1 _;rw[e1]
   .exact nomatch e
  .rcases ZO hb with⟨j,u,rfl,e⟩|⟨y,u,rfl,e⟩
   .exact nomatch e
   .injection e with e1 _;rw[e1]
 byValue:=λk v h=>by
  rcases ZO h with⟨i,t,rfl,rfl⟩|⟨x,t,rfl,rfl⟩<;>rfl
 pyHash:=λhv h=>by
  rcases ZO hv with⟨i,t,rfl,rfl⟩|⟨x,t,rfl,rfl⟩
  .exact wpAny_pyHash_int h
  .exact wpAny_pyHash_str h
 eqBool:=λhu hv h=>by
  rcases ZO hu with⟨i,t,rfl,rfl⟩|⟨x,t,rfl,rfl⟩
  .rcases ZO hv with⟨j,u,rfl,rfl⟩|⟨y,u,rfl,rfl⟩
   .rw[ZnW]at h;exact wpAny_eqBool_int h
   .rw[ZnY]at h;exact mF.int_str i t y u _ _ _ _ h
  .rcases ZO hv with⟨j,u,rfl,rfl⟩|⟨y,u,rfl,rfl⟩
   .rw[ZnZ]at h;exact mF.str_int x t j u _ _ _ _ h
   .rw[ZnX]at h;exact wpAny_eqBool_str h
 «strs» :=λk x t v h=>by
  rcases ZO h with⟨i,u,rfl,e⟩|⟨y,u,rfl,e⟩
  .exact nomatch e
  .injection e with e1 _;subst e1;cases v<;>rfl
theorem Zes(prog:cD)(w:da)(i:Int)(t:Tok):(Zaf prog w).is (.inl i) (.int i t)=true:=ZgI i t
theorem Zet(prog:cD)(w:da)(x:Str)(t:Tok):(Zaf prog w).is (.inr x) (.str x t)=true:=ZgJ x t
inductive V where
 |non|bl (b:Bool)|int (i:Int)|str (x:Str)|byt (b:Array UInt8)|flt (b:UInt64)|ref (a:Addr)|ty (n:String)
 deriving DecidableEq
noncomputable def ZS:V->aa->Prop
 |.non,u=>u=bO
 |.bl b,u=>u=mG b
 |.int i,u=>∃t,u=kh i t
 |.str x,u=>∃t,u=lW x t
 |.byt b,u=>∃t,u=aa.bytes b t
 |.flt b,u=>∃t,u=aa.float b t
 |.ref a,u=>u=aU a
 |.ty n,u=>u=bB n
abbrev ZQ:List V->List aa->Prop:=Paired ZS
theorem ZQ.length(r:ZQ xs us):xs.length=us.length:=Paired.length r
theorem ZQ.get:∀{xs:List V}{us:List aa}{i:Nat}{x:V},ZQ xs us->xs[i]?=some x->∃u,us[i]?=some u/\ZS x u
 |_,_,_,_,.nil,e=>by simp at e
 |_,_,0,_,.cons r _,e=>by simp at e;subst e;exact⟨_,rfl,r⟩
 |_,_,i+1,x,.cons _ t,e=>by
  obtain⟨u,h1,h2⟩:=ZQ.get (i:=i) (x:=x) t (by simpa using e)
  exact⟨u,by simpa using h1,h2⟩
theorem ZQ.set{x:V}{u:aa}(r:ZS x u):∀{xs:List V}{us:List aa}(i:Nat),ZQ xs us->ZQ (xs.set i x) (us.set i u)
 |_,_,_,.nil=>.nil
 |_,_,0,.cons _ t=>.cons r t
 |_,_,i+1,.cons q t=>.cons q (ZQ.set r i t)
theorem ZQ.append:∀{xs ys:List V}{us ws:List aa},ZQ xs us->ZQ ys ws->ZQ (xs++ys) (us++ws)
 |_,_,_,_,.nil,s=>s
 |_,_,_,_,.cons r t,s=>.cons r (ZQ.append t s)
theorem ZQ.take:∀{xs:List V}{us:List aa}(n:Nat),ZQ xs us->ZQ (xs.take n) (us.take n)
 |_,_,0,_=>.nil
 |_,_,_+1,.nil=>.nil
 |_,_,n+1,.cons r t=>.cons r (ZQ.take n t)
theorem ZQ.drop:∀{xs:List V}{us:List aa}(n:Nat),ZQ xs us->ZQ (xs.drop n) (us.drop n)
 |_,_,0,r=>r
 |_,_,_+1,.nil=>.nil
 |_,_,n+1,.cons _ t=>ZQ.drop n t
def ZtW:Option V->Option aa->Prop
 |some v,some u=>ZS v u
 |none,none=>True
 |_,_=>False
def KV{κ:Type}:List (κ×V)->List (κ×aa)->Prop:=Paired λ(p:κ×V) (q:κ×aa)=>p.1=q.1/\ZS p.2 q.2
noncomputable def kV:Key->V
 |.inl i=>.int i
 |.inr x=>.str x
inductive HO where
 |lst (xs:List V)
 |tup (xs:List V)
 |dK (kvs:List (Key×V))|dT (kvs:List (List Key×V))|dU (kvs:List (List (List Key)×V))
 |set (S:Int->Bool) (n:Nat)
 |ins (C dx:Addr) (fs:List (Str×V))
 |own (x:Addr)
 |xd (fs:List (Str×V))
 |met (f x:Addr)
 |rng (lo hi:Int)
 |frz (o:Obj) (u:HO)
 |tbl (ps:Array aa)
 |ext (φ:Heap->Prop)
noncomputable abbrev Hp:=Addr->Option HO
noncomputable def upd(H:Hp)(a:Addr)(o:HO):Hp:=λb=>if b=a then some o else H b
theorem Zx:upd H a o a=some o:=by unfold upd;rw[if_pos rfl]
theorem ZD(h:b≠a):upd H a o b=H b:=by unfold upd;rw[if_neg h]
theorem ZrB{H:Hp}(h:H a=some o)(h':H b=some u)(d:o≠u):a≠b:=by
 intro e;subst e;rw[h]at h';exact d (aQ h')
theorem ZV{H:Hp}(h:H a=some o)(h':H b=none):a≠b:=by
 intro e;subst e;rw[h]at h';cases h'
def Zan(H:Hp)(ks:List (List Key))(b:Addr):Prop:=∃cs:List Addr,H b=some (.tup (cs.map V.ref))/\Paired (λ(k:List Key) (c:Addr)=>H c=some (.tup (k.map kV))) ks cs
section
variable (P:cD)(w:da)
def ZaC(H:Hp)(h:Heap)(a:Addr):HO->Prop
 |.lst xs=>xs.length<=sizeLine/\∃(its:List aa) (n:Nat),ZQ xs its/\h.get? a=some {cls:=.type "list",data:=.seq its.toArray n}
 |.tup xs=>xs.length<=sizeLine/\∃its:List aa,ZQ xs its/\IsTup h a its.toArray
 |.dK kvs=>kvs.length<=sizeLine/\(a==ic)=false/\∃vs,KV kvs vs/\h.DictOf (Zaf P w) a vs
 |.dT kvs=>kvs.length<=sizeLine/\(a==ic)=false/\∃xs:List (List Key×Addr×aa),
   Paired (λ(p:List Key×V) (q:List Key×Addr×aa)=>p.1=q.1/\H q.2.1=some (.tup (p.1.map kV))/\ZS p.2 q.2.2) kvs xs/\
   ∃o es ep,h.get? a=some o/\o.ExactDict/\o.data=.dict es ep/\es.toList=xs.map (entryOfKey (tupleKind (Zaf P w)))/\(xs.map (·.1)).Nodup
 |.dU kvs=>kvs.length<=sizeLine/\(a==ic)=false/\∃xs:List (List (List Key)×Addr×aa),
   Paired (λ(p:List (List Key)×V) (q:List (List Key)×Addr×aa)=>p.1=q.1/\Zan H p.1 q.2.1/\ZS p.2 q.2.2) kvs xs/\
   ∃o es ep,h.get? a=some o/\o.ExactDict/\o.data=.dict es ep/\es.toList=xs.map (entryOfKey (Zb0 (Zaf P w)))/\(xs.map (·.1)).Nodup
 |.set S n=>h.SetOf (intKind P w) a S n
 |.ins C dx fs=>H dx=some (.own a)/\fs.length<=1000/\dx≠a/\h.get? a=some (PySem.W.instObj C dx)/\
   ∃mA,h.Ns1 dx mA/\(∀f,ZtW (fs.lookup f) (mA f))/\PySem.Within mA (fs.map (·.1))
 |.own _=>∃o,h.get? a=some o
 |.xd fs=>∃mA,h.Ns1 a mA/\∀f,ZtW (fs.lookup f) (mA f)
 |.rng lo hi=>∃t u v,h.get? a=some {cls:=.type "range",data:=.fields #[.int lo t,.int hi u,.int 1 v]}
 |.frz o u=>h.get? a=some o/\ZaC H h a u
 |.tbl ps=>h.get? a=some {cls:=.none,data:=.fields ps}/\gK ps.toList/\∀pos cv,dW pos ps.toList=some cv->∃c' o vs q t,cv=.ref c'/\H c'=some (.own a)/\h.get? c'=some o/\o.data=.fields vs/\vs[1]?=some (.str q t)
 |.met f x=>h.get? a=some (PySem.W.methodObj (.ref f) (.ref x))
 |.ext φ=>φ h/\(∃o,h.get? a=some o)/\∀h1 h2:Heap,φ h1->(∀o,h1.get? a=some o->h2.get? a=some o)->φ h2
def HOk(H:Hp)(h:Heap):Prop:=∀a o,H a=some o->ZaC P w H h a o
end
section
variable {a:Addr}
theorem ZaC.lt(x:ZaC P w H h a o):a<h.objs.size:=by
 cases o with
 |lst xs=>obtain⟨_,_,_,_,e⟩:=x;exact Hz e
 |tup xs=>obtain⟨_,_,_,p⟩:=x;exact p.lt
 |dK kvs=>obtain⟨_,_,_,_,o,_,_,e,_⟩:=x;exact Hz e
 |dT kvs=>obtain⟨_,_,_,_,o,_,_,e,_⟩:=x;exact Hz e
 |dU kvs=>obtain⟨_,_,_,_,o,_,_,e,_⟩:=x;exact Hz e
 |set S n=>obtain⟨o,_,_,_,e,_⟩:=x;exact Hz e
 |ins C dx fs=>obtain⟨_,_,_,e,_⟩:=x;exact Hz e
 |own y=>obtain⟨_,e⟩:=x;exact Hz e
 |xd fs=>obtain⟨_,⟨_,_,_,e,_⟩,_⟩:=x;exact Hz e
 |rng lo hi=>obtain⟨_,_,_,e⟩:=x;exact Hz e
 |frz ob u=>obtain⟨e,_⟩:=x;exact Hz e
 |tbl ps=>exact Hz x.1
 |met f y=>exact Hz (show h.get? a=some _ from x)
 |ext φ=>obtain⟨_,⟨_,e⟩,_⟩:=x;exact Hz e
theorem Paired.mapP{α β:Type}{F G:α->β->Prop}:∀{l₁:List α}{l₂:List β},Paired F l₁ l₂->(∀a b,F a b->G a b)->Paired G l₁ l₂
 |_,_,.nil,_=>.nil
 |_,_,.cons r t,f=>.cons (f _ _ r) (Paired.mapP t f)
theorem ZaC.stay(x:ZaC P w H h a o)(k:∀b u,(b=a\/H b=some (.own a))->h.get? b=some u->h'.get? b=some u)(ho:∀b,H b=some (.own a)->H' b=some (.own a))(ht:∀b xs,H b=some (.tup xs)->H' b=some (.tup xs)):ZaC P w H' h' a o:=by
 induction o with
 |lst xs=>obtain⟨z,its,n,r,e⟩:=x;exact⟨z,its,n,r,k _ _ (.inl rfl) e⟩
 |tup xs=>obtain⟨z,its,r,ob,e,c⟩:=x;exact⟨z,its,r,ob,k _ _ (.inl rfl) e,c⟩
 |dK kvs=>obtain⟨z,y,vs,r,ob,es,ep,e,c⟩:=x;exact⟨z,y,vs,r,ob,es,ep,k _ _ (.inl rfl) e,c⟩
 |dT kvs=>
  obtain⟨z,y,xs,r,ob,es,ep,e,c⟩:=x;exact⟨z,y,xs,Paired.mapP r λp q z=>⟨z.1,ht _ _ z.2.1,z.2.2⟩,ob,es,ep,k _ _ (.inl rfl) e,c⟩
 |dU kvs=>
  obtain⟨z,y,xs,r,ob,es,ep,e,c⟩:=x;exact⟨z,y,xs,Paired.mapP r λp q z=>⟨z.1,let ⟨cs,z1,z2⟩:=z.2.1;⟨cs,ht _ _ z1,Paired.mapP z2 λ_ _ t=>ht _ _ t⟩,z.2.2⟩,ob,es,ep,k _ _ (.inl rfl) e,c⟩
 |set S n=>obtain⟨ob,es,ep,t,e,c⟩:=x;exact⟨ob,es,ep,t,k _ _ (.inl rfl) e,c⟩
 |ins C dx fs=>
  obtain⟨d,z,ne,e,mA,⟨od,es,ep,e2,c⟩,r⟩:=x;exact⟨ho _ d,z,ne,k _ _ (.inl rfl) e,mA,⟨od,es,ep,k _ _ (.inr d) e2,c⟩,r⟩
 |own y=>obtain⟨ob,e⟩:=x;exact⟨ob,k _ _ (.inl rfl) e⟩
 |xd fs=>obtain⟨mA,⟨od,es,ep,e,c⟩,r⟩:=x;exact⟨mA,⟨od,es,ep,k _ _ (.inl rfl) e,c⟩,r⟩
 |rng lo hi=>obtain⟨t,u,v,e⟩:=x;exact⟨t,u,v,k _ _ (.inl rfl) e⟩
 |frz ob u ih=>obtain⟨e,q⟩:=x;exact⟨k _ _ (.inl rfl) e,ih q⟩
 |tbl ps=>
  exact⟨k a _ (.inl rfl) x.1,x.2.1,λpos cv e=>let ⟨c',ob,vs,q,t,e1,e2,e3,e4⟩:=x.2.2 pos cv e;⟨c',ob,vs,q,t,e1,ho _ e2,k _ _ (.inr e2) e3,e4⟩⟩
 |met f y=>
  have e:h.get? a=some (PySem.W.methodObj (.ref f) (.ref y)):=x;show h'.get? a=some (PySem.W.methodObj (.ref f) (.ref y));exact k a _ (.inl rfl) e
 |ext φ=>obtain⟨p,⟨o,e⟩,st⟩:=x;exact⟨st _ _ p λo q=>k _ _ (.inl rfl) q,⟨o,k _ _ (.inl rfl) e⟩,st⟩
theorem HOk.lt(x:HOk P w H h)(e:H a=some o):a<h.objs.size:=(x a o e).lt
theorem HOk.fresh(x:HOk P w H h)(e:h.objs.size<=a):H a=none:=by
 cases q:H a with
 |none=>rfl
 |some u=>exact absurd (aj (x.lt q) e) (bV _)
theorem HOk.kept(x:HOk P w H h)(k:∀b u,h.get? b=some u->h'.get? b=some u):HOk P w H h':=λa o e=>
 (x a o e).stay (λb u _ q=>k b u q) (λ_ q=>q) λ_ _ q=>q
theorem HOk.laid(x:HOk P w H h)(k:∀b u,h.get? b=some u->h'.get? b=some u)(hp:h.objs.size<=a)(new:ZaC P w (upd H a o) h' a o):HOk P w (upd H a o) h':=λb u e=>by
 have hn:=x.fresh hp;by_cases hb:b=a
 .subst hb;rw[Zx]at e;cases e;exact new
 .rw[ZD hb]at e;exact(x b u e).stay (λc v _ q=>k c v q) (λc q=>by rw[ZD (ZV q hn)];exact q) λc xs q=>by rw[ZD (ZV q hn)];exact q
end
noncomputable def Rd(H:Hp)(a:Addr)(u:HO):Prop:=H a=some u\/∃o,H a=some (.frz o u)
theorem Rd.ok(r:Rd H a u)(x:HOk P w H h):ZaC P w H h a u:=by
 rcases r with r|⟨o,r⟩
 .exact x a u r
 .obtain⟨_,q⟩:=x a _ r;exact q
noncomputable def Mut:Option HO->Prop
 |some (.lst _)=>True
 |some (.dK _)=>True
 |some (.dT _)=>True
 |some (.dU _)=>True
 |some (.set _ _)=>True
 |some (.ins _ _ _)=>True
 |some (.ext _)=>True
 |_=>False
theorem HOk.write(ok:HOk P w H h)(mu:Mut (H x))(he:e=x\/H e=some (.own x))(k:∀b u,b≠e->h.get? b=some u->h'.get? b=some u)(heo:∃u,h'.get? e=some u)(new:ZaC P w (upd H x o') h' x o'):HOk P w (upd H x o') h':=λb u q=>by
 have nown:∀c y,H c=some (.own y)->c≠x:=λc y r z=>by subst z;rw[r]at mu;exact mu
 have ntup:∀c xs,H c=some (.tup xs)->c≠x:=λc xs r z=>by subst z;rw[r]at mu;exact mu
 by_cases hb:b=x
 .subst hb;rw[Zx]at q;cases q;exact new
 .rw[ZD hb]at q;by_cases hbe:b=e
  .have q':H b=some (.own x):=by
    rcases he with z|z
    .exact absurd (hbe.trans z) hb
    .rw[hbe];exact z
   rw[q]at q';cases q';obtain⟨v,hv⟩:=heo;exact⟨v,by rw[hbe];exact hv⟩
  .refine(ok b u q).stay (λc v hc r=>k c v ?_ r) (λc r=>by rw[ZD (nown c b r)];exact r) λc xs r=>by rw[ZD (ntup c xs r)];exact r
   rcases hc with rfl|hc
   .exact hbe
   .rintro rfl;rcases he with z|z
    .exact nown c b hc z
    .rw[hc]at z;cases z;exact hb rfl
structure Un(fs ex:List Addr) (H H':Hp) (h h':Heap):Prop where
 keep:∀b o,h.get? b=some o->H b=none->b∉fs->b∉ex->h'.get? b=some o
 slot:∀b o,h.get? b=some o->H b=none->b∈fs->b∉ex->∃sl,h'.get? b=some {o with slots:=sl}
 free:∀b o,h.get? b=some o->H b=none->b∉ex->H' b=none
 there:∀b o,h.get? b=some o->b∉ex->∃o',h'.get? b=some o'
 tups:∀b xs,H b=some (.tup xs)->H' b=some (.tup xs)
 frzs:∀b o u,H b=some (.frz o u)->H' b=some (.frz o u)
 tbls:∀b ps,H b=some (.tbl ps)->∃more,H' b=some (.tbl (ps++more))
theorem Un.any(u:Un fs ex H H1 h h1)(q:h.get? b=some ob)(n:H b=none)(hx:b∉ex):∃sl,h1.get? b=some {ob with slots:=sl}:=by
 by_cases hb:b∈fs
 .exact u.slot b ob q n hb hx
 .exact⟨ob.slots,u.keep b ob q n hb hx⟩
theorem Un.kept(k:∀b u,h.get? b=some u->h'.get? b=some u):Un fs ex H H h h':=
 ⟨λb ob q _ _ _=>k b ob q,λb ob q _ _ _=>⟨ob.slots,k b ob q⟩,λ_ _ _ n _=>n,λb ob q _=>⟨ob,k b ob q⟩,λ_ _ q=>q,λ_ _ _ q=>q,λ_ ps q=>⟨#[],by rw[q];simp⟩⟩
theorem Un.refl:Un fs ex H H h h:=Un.kept λ_ _ q=>q
theorem Un.laid(k:∀b u,h.get? b=some u->h'.get? b=some u)(hp:h.objs.size<=a)(hn:H a=none):Un fs ex H (upd H a o) h h' where
 keep:=λb u q _ _ _=>k b u q
 slot:=λb u q _ _ _=>⟨u.slots,k b u q⟩
 free:=λb u q n _=>by rw[ZD (aE (aj (Hz q) hp))];exact n
 there:=λb u q _=>⟨u,k b u q⟩
 tups:=λb xs q=>by rw[ZD (ZV q hn)];exact q
 frzs:=λb u xs q=>by rw[ZD (ZV q hn)];exact q
 tbls:=λb ps q=>⟨#[],by rw[ZD (ZV q hn),q];simp⟩
theorem Un.write(mu:Mut (H x))(he:e=x\/H e=some (.own x))(k:∀b u,b≠e->h.get? b=some u->h'.get? b=some u)(heo:∃u,h'.get? e=some u):Un fs ex H (upd H x o) h h':=by
 have hx:∀b,H b=none->b≠x:=λb n z=>by subst z;rw[n]at mu;exact mu
 have hb:∀b,H b=none->b≠e:=λb n z=>by
  subst z;rcases he with r|r
  .exact hx b n r
  .rw[n]at r;cases r
 have hm:∀b u,H b=some u->¬Mut (some u)->b≠x:=λb u q nm z=>by subst z;rw[q]at mu;exact nm mu
 refine⟨λb u q n _ _=>k b u (hb b n) q,λb u q n _ _=>⟨u.slots,k b u (hb b n) q⟩,λb u q n _=>by rw[ZD (hx b n)];exact n,λb u q _=>?_,
  λb xs q=>by rw[ZD (hm b _ q λz=>z)];exact q,λb u xs q=>by rw[ZD (hm b _ q λz=>z)];exact q,λb ps q=>⟨#[],by rw[ZD (hm b _ q λz=>z),q];simp⟩⟩
 by_cases hbe:b=e
 .subst hbe;exact heo
 .exact⟨u,k b u hbe q⟩
noncomputable def trk(h:Heap)(H:Hp):List Addr:=(aJ h.objs.size).filter λa=>(H a).isSome
def Zjb(h:Heap)(H:Hp):Heap:=PySem.W.hideAll h (trk h H)
theorem ZgK(h:Heap)(H:Hp):(Zjb h H).objs.size=h.objs.size:=PySem.W.hideAll_size _ _
theorem Zfh(e:h.get? b=some o)(n:H b=none):(Zjb h H).get? b=some o:=
 PySem.W.hideAll_get _ e λhm=>by
  have q:(H b).isSome=true:=(gZ.mp hm).2;rw[n]at q;simp at q
theorem ZgL(e:(Zjb h H).get? b=some o):h.get? b=some o/\H b=none:=by
 have e':h.get? b=some o:=PySem.W.of_hideAll (trk h H) e;refine⟨e',?_⟩;cases q:H b with
 |none=>rfl
 |some x=>
  have hm:b∈trk h H:=gZ.mpr ⟨bZ.mpr (Hz e'),by simp[q]⟩
  have z:(Zjb h H).get? b=none:=PySem.W.hideAll_none (trk h H) hm;rw[z]at e;cases e
structure Mod(K:Fg) (mg:Str->Option aa) (base:Heap):Prop where
 kin:K.In base
 glob:base.Ns aO mg
 blt:∃mb,base.Ns ig mb/\∀x:Str,x≠"__name__"->mb x=bK x
 nolimit:base.NoLimit
structure Cx where
 prog:cD
 w:da
 K:Fg
 mg:Str->Option aa
 base:Heap
 A:dg
 N:List Str
 s₀:aB
 H₀:Hp
 env:Env
 outer:List Env
 stack:List Env
 ex:List Addr
 fn:Str->Bool
 calm:Bool
 pn:Pn
 xe:Vp
 fxs:Option (List Bool×List (Option V))
noncomputable def frs(l:List Env):List Addr:=l.filterMap (·.frame)
abbrev Cx.fs(X:Cx):List Addr:=frs X.outer
noncomputable def Vis(sc:js)(x:Str):Prop:=sc.names.lookup x=some .local\/sc.names.lookup x=some .cell\/sc.names.lookup x=some .free
noncomputable def Loc(sc:js)(x:Str):Prop:=sc.names.lookup x=some .local\/sc.names.lookup x=some .cell
noncomputable def ZuX(env:Env)(h:Heap)(m:Str->Option aa)(x:Str)(u:aa):Prop:=
 (env.kindOf x=some .local/\m x=some u)\/((env.kindOf x=some .cell\/env.kindOf x=some .free)/\∃c,env.cells.lookup x=some c/\h.IsCell c (some u))
noncomputable def TbP(K:Fg)(P:Addr):Prop:=∃(c:Addr) (o:Obj) (vs:Array aa),K.lookup c=some o/\o.cls=.type "code"/\o.data=.fields vs/\vs[11]?=some (.ref P)
def Tbs(K:Fg)(H:Hp):Prop:=∀P,TbP K P->∃ps,H P=some (.tbl ps)
theorem Tbs.un{K:Fg}(t:Tbs K H)(u:Un fs ex H H' h h'):Tbs K H':=λP z=>let ⟨ps,e⟩:=t P z;let ⟨m,e'⟩:=u.tbls P ps e;⟨_,e'⟩
structure Cx.Ok(X:Cx):Prop where
 mod:Mod X.K X.mg X.base
 kind:X.env.scope.kind=.function
 glob:X.env.globals=aO
 blt:X.env.builtins=ig
 above:X.s₀.heap.objs.size<=X.env.locals
 inj:∀x y c,X.env.cells.lookup x=some c->X.env.cells.lookup y=some c->x=y
 has:∀x,(X.env.kindOf x=some .cell\/X.env.kindOf x=some .free)->∃c,X.env.cells.lookup x=some c
 cab:∀x c,X.fn x=true->X.env.cells.lookup x=some c->X.s₀.heap.objs.size<=c
 hd:X.calm=true->X.A.handled=none
 frames:X.A.frames=some X.stack
 stk:X.stack=X.outer\/(X.stack=X.env::X.outer/\X.env.frame=some X.env.locals)
 exf:∀b∈X.ex,b≠X.env.locals/\∀x c,X.env.cells.lookup x=some c->c≠b
 bs:∀b o,X.base.get? b=some o->X.s₀.heap.get? b=some o/\X.H₀ b=none
 bsz:X.base.objs.size<=X.s₀.heap.objs.size
 noex:∀b o,X.base.get? b=some o->b∉X.ex
 exfs:∀b∈X.ex,b∉X.fs
 funs:X.s₀.heap.FunFrames X.base X.outer
 frf:∀b∈X.fs,X.H₀ b=none
 tb:Tbs X.K X.H₀
noncomputable def Qd(A:dg)(H:Hp):Prop:=A.handled=none\/∃ea oe u vs,A.handled=some (.ref ea)/\H ea=some (.frz oe u)/\oe.data=.fields vs/\vs[2]?=some .none
theorem Qd.mono(q:Qd A H)(k:∀b o u,H b=some (.frz o u)->H' b=some (.frz o u)):Qd A H':=by
 rcases q with q|⟨ea,oe,u,vs,e1,e2,e3,e4⟩
 .exact .inl q
 .exact .inr ⟨ea,oe,u,vs,e1,k _ _ _ e2,e3,e4⟩
noncomputable def Cx.may(X:Cx)(i:Nat):Bool:=match X.fxs with|none=>true|some (W,_)=>W[i]? == some true
noncomputable def Cx.Fx(X:Cx)(σ:List (Option V)):Prop:=∀W σ0,X.fxs=some (W,σ0)->∀j:Nat,W[j]?=some false->σ[j]?=σ0[j]?
theorem Cx.Fx.free {X:Cx}(h:X.fxs=none):X.Fx σ:=λW σ0 e=>by rw[h]at e;cases e
theorem Cx.Fx.set {X:Cx}(h:X.Fx σ)(m:X.may i=true):X.Fx (σ.set i v):=λW σ0 e j hj=>by
 have ne:i≠j:=λz=>by
  unfold Cx.may at m;rw[e,z]at m;have m':(W[j]? == some true)=true:=m;rw[hj]at m';cases m'
 rw[be ne];exact h W σ0 e j hj
structure Inv(X:Cx) (pins:Pn) (σ:List (Option V)) (H:Hp) (s:aB):Prop where
 ok:X.Ok
 os:s.os=X.s₀.os
 bare:iL s.gens
 base:Un X.fs X.ex X.H₀ H X.s₀.heap s.heap
 loc:∃m,s.heap.Ns X.env.locals m/\∀(i:Nat)(x:Str)(v:V),X.N[i]?=some x->σ[i]?=some (some v)->Vis X.env.scope x->∃u,ZS v u/\ZuX X.env s.heap m x u
 cell:∀x c,X.env.cells.lookup x=some c->∃v,s.heap.IsCell c v
 free:H X.env.locals=none
 freeC:∀x c,X.env.cells.lookup x=some c->H c=none
 pin:∀p∈X.pn++pins,s.heap.get? p.1=some p.2/\H p.1=none/\p.1≠X.env.locals/\p.1∉X.fs/\∀v,p.2.data≠ .cell v
 hok:HOk X.prog X.w H s.heap
 len:σ.length=X.N.length
 qd:Qd X.A H
 fx:X.Fx σ
section
variable {X:Cx}
theorem Cx.Ok.nofr (ok:X.Ok)(e:X.base.get? b=some o):b∉X.fs:=λhb=>by
 have:=(ok.funs.mem hb).1
 rw[e]at this;cases this
theorem Inv.bs(I:Inv X pins σ H s):∀b o,X.base.get? b=some o->s.heap.get? b=some o/\H b=none:=λb o e=>
 ⟨I.base.keep b o (I.ok.bs b o e).1 (I.ok.bs b o e).2 (I.ok.nofr e) (I.ok.noex b o e),I.base.free b o (I.ok.bs b o e).1 (I.ok.bs b o e).2 (I.ok.noex b o e)⟩
theorem Inv.qh(I:Inv X pins σ H s):DQ.ZaJ X.A s.heap:=by
 rcases I.qd with q|⟨ea,oe,u,vs,e1,e2,e3,e4⟩
 .exact .inl q
 .exact .inr ⟨ea,oe,vs,e1,(I.hok _ _ e2).1,e3,e4⟩
theorem Inv.bk(I:Inv X pins σ H s):∀b o,X.base.get? b=some o->s.heap.get? b=some o:=λb o e=>(I.bs b o e).1
theorem Inv.mod(I:Inv X pins σ H s):Mod X.K X.mg X.base:=I.ok.mod
theorem Inv.kIn(I:Inv X pins σ H s):X.K.In s.heap:=I.ok.mod.kin.keeps I.bk
theorem Inv.nolimit(I:Inv X pins σ H s):s.heap.NoLimit:=I.ok.mod.nolimit.keeps I.bk
theorem Inv.fr(I:Inv X pins σ H s):∃m,Fr X.base X.env.locals s.heap m:=
 let ⟨m,hn,_⟩:=I.loc
 ⟨m,hn,I.bk,aM I.ok.bsz I.ok.above⟩
theorem Inv.lt(I:Inv X pins σ H s):X.env.locals<s.heap.objs.size:=let ⟨_,hn,_⟩:=I.loc;hn.lt
theorem Inv.sz(I:Inv X pins σ H s):X.s₀.heap.objs.size<=s.heap.objs.size:=aM I.ok.above (ff I.lt)
theorem Inv.nofs(I:Inv X pins σ H s){a:Addr}(h:s.heap.objs.size<=a):a∉X.fs:=λhb=>by
 obtain⟨_,o,ho,_⟩:=I.ok.funs.mem hb;exact absurd (aj (Hz ho) (aM I.sz h)) (bV _)
theorem Inv.cne(I:Inv X pins σ H s):∀x c,X.env.cells.lookup x=some c->c≠X.env.locals:=λx c e z=>by
 obtain⟨v,o,ho,hd⟩:=I.cell x c e;obtain⟨m,⟨o',es,ep,ho',hd',_⟩,_⟩:=I.loc;rw[z,ho']at ho;cases ho;rw[hd']at hd;cases hd
theorem Inv.funs(I:Inv X pins σ H s):s.heap.FunFrames X.base X.outer:=by
 have all:∀(l:List Env),(∀b∈frs l,b∈X.fs)->X.s₀.heap.FunFrames X.base l->s.heap.FunFrames X.base l:=by
  intro l
  induction l with
  |nil=>intro _ _;trivial
  |cons env r ih=>
   intro hs hl;obtain⟨hk,⟨L,o,hf,hn,ho,hd⟩,hr⟩:=hl;have hL:L∈X.fs:=hs L (by unfold frs;rw[d6,hf];exact bQ)
   obtain⟨sl,e⟩:=I.base.slot L o ho (I.ok.frf L hL) hL λz=>I.ok.exfs L z hL;exact⟨hk,⟨L,_,hf,hn,e,hd⟩,ih (λb hb=>hs b (by unfold frs;rw[d6,hf];exact aI _ hb)) hr⟩
 exact all X.outer (λ_ hb=>hb) I.ok.funs
theorem Inv.stack(I:Inv X pins σ H s):s.heap.FunFrames X.base X.stack:=by
 rcases I.ok.stk with e|⟨e,hf⟩
 .rw[e];exact I.funs
 .rw[e];obtain⟨m,hn,_⟩:=I.loc;refine .cons (by rw[I.ok.kind];decide) hf hn ?_ I.funs
  exact m8.get?_none_of_le (aM I.ok.bsz I.ok.above)
theorem Inv.stkSub(I:Inv X pins σ H s):∀b∈frs X.stack,b∈X.env.locals::X.fs:=λb hb=>by
 rcases I.ok.stk with e|⟨e,hf⟩
 .rw[e]at hb;exact aI _ hb
 .rw[e]at hb;unfold frs at hb;rw[d6,hf]at hb;exact hb
theorem Inv.stkFree(I:Inv X pins σ H s):∀b∈frs X.stack,H b=none:=λb hb=>by
 rcases az.mp (I.stkSub b hb)with e|hb
 .rw[e];exact I.free
 .obtain⟨_,o,ho,_⟩:=I.ok.funs.mem hb;exact I.base.free b o ho (I.ok.frf b hb) λz=>I.ok.exfs b z hb
theorem Inv.step{ch:List Addr}(I:Inv X pins σ H s)(hch:∀b∈ch,(b∈X.ex\/X.s₀.heap.objs.size<=b)/\b≠X.env.locals/\(∀x c,X.env.cells.lookup x=some c->c≠b)/\∀p∈X.pn++pins,p.1≠b)(keep:∀b o,b≠X.env.locals->b∉X.fs->b∉ch->s.heap.get? b=some o->H b=none->h'.get? b=some o)(slot:∀b o,b≠X.env.locals->b∈X.fs->b∉ch->s.heap.get? b=some o->H b=none->∃sl,h'.get? b=some {o with slots:=sl})(free:∀b o,b∉ch->s.heap.get? b=some o->H b=none->H' b=none)(there:∀b o,b∉ch->s.heap.get? b=some o->∃o',h'.get? b=some o')(tups:∀b xs,H b=some (.tup xs)->H' b=some (.tup xs))(frzs:∀b o u,H b=some (.frz o u)->H' b=some (.frz o u))(tbls:∀b ps,H b=some (.tbl ps)->∃more,H' b=some (.tbl (ps++more)))(ns:∀m,s.heap.Ns X.env.locals m->h'.Ns X.env.locals m)(hok:HOk X.prog X.w H' h')(hg:iL g'):Inv X pins σ H' {s with heap:=h',gens:=g',drawn:=d',toks:=t'}:=by
 have neL:∀b o,X.s₀.heap.get? b=some o->b≠X.env.locals:=λb o e=>aE (aj (Hz e) I.ok.above);have neC:∀b o,X.s₀.heap.get? b=some o->b∉X.ex->b∉ch:=λb o e hx hb=>by
  rcases(hch b hb).1 with z|z
  .exact hx z
  .exact absurd (aj (Hz e) z) (bV _)
 have cellK:∀x c,X.env.cells.lookup x=some c->∀v,s.heap.IsCell c v->h'.IsCell c v:=λx c e v ⟨o,ho,hd⟩=>by
  have nch:c∉ch:=λz=>(hch c z).2.2.1 x c e rfl;by_cases hc:c∈X.fs
  .obtain⟨sl,q⟩:=slot c o (I.cne x c e) hc nch ho (I.freeC x c e);exact⟨_,q,hd⟩
  .exact⟨o,keep c o (I.cne x c e) hc nch ho (I.freeC x c e),hd⟩
 refine⟨I.ok,I.os,hg,⟨λb o e n hb hx=>?_,λb o e n hb hx=>?_,λb o e n hx=>?_,λb o e hx=>?_,λb xs e=>tups b xs (I.base.tups b xs e),λb o xs e=>frzs b o xs (I.base.frzs b o xs e),λb ps e=>?_⟩,?_,λx c e=>?_,?_,λx c e=>?_,λp hp=>?_,hok,I.len,I.qd.mono frzs,I.fx⟩
 .exact keep b o (neL b o e) hb (neC b o e hx) (I.base.keep b o e n hb hx) (I.base.free b o e n hx)
 .obtain⟨sl,e1⟩:=I.base.slot b o e n hb hx;obtain⟨sl',e2⟩:=slot b _ (neL b o e) hb (neC b o e hx) e1 (I.base.free b o e n hx);exact⟨sl',e2⟩
 .obtain⟨o',e1⟩:=I.base.there b o e hx;exact free b o' (neC b o e hx) e1 (I.base.free b o e n hx)
 .obtain⟨o',e1⟩:=I.base.there b o e hx;exact there b o' (neC b o e hx) e1
 .obtain⟨m1,e1⟩:=I.base.tbls b ps e;obtain⟨m2,e2⟩:=tbls b _ e1;exact⟨m1++m2,by rw[e2,jt]⟩
 .obtain⟨m,hn,hl⟩:=I.loc;refine⟨m,ns m hn,λi x v e1 e2 e3=>?_⟩;obtain⟨u,r,l⟩:=hl i x v e1 e2 e3;refine⟨u,r,?_⟩;rcases l with l|⟨k,c,e,z⟩
  .exact .inl l
  .exact .inr ⟨k,c,e,cellK x c e _ z⟩
 .obtain⟨v,z⟩:=I.cell x c e;exact⟨v,cellK x c e v z⟩
 .obtain⟨m,⟨o,_,_,ho,_⟩,_⟩:=I.loc;exact free _ o (λz=>(hch _ z).2.1 rfl) ho I.free
 .obtain⟨v,o,ho,hd⟩:=I.cell x c e;exact free c o (λz=>(hch c z).2.2.1 x c e rfl) ho (I.freeC x c e)
 .obtain⟨e,n,ne,nf,d⟩:=I.pin p hp;have nch:p.1∉ch:=λz=>(hch p.1 z).2.2.2 p hp rfl;exact⟨keep p.1 p.2 ne nf nch e n,free p.1 p.2 nch e n,ne,nf,d⟩
theorem Inv.un(I:Inv X pins σ H s)(u:Un X.fs [] H H' s.heap h')(hok:HOk X.prog X.w H' h'):Inv X pins σ H' {s with heap:=h',toks:=t'}:=by
 obtain⟨m,⟨o,es,ep,ho,r⟩,_⟩:=id I.loc;obtain⟨sl,hL⟩:=u.any ho I.free (by simp)
 exact I.step (g':=s.gens) (d':=s.drawn) (ch:=[]) (λ_ z=>nomatch z) (λb o _ hb _ e n=>u.keep b o e n hb (by simp)) (λb o _ hb _ e n=>u.slot b o e n hb (by simp)) (λb o _ e n=>u.free b o e n (by simp)) (λb o _ e=>u.there b o e (by simp)) u.tups u.frzs u.tbls (λm' hm=>by
  obtain⟨o',es',ep',ho',r'⟩:=hm;rw[ho]at ho';cases ho';exact⟨_,es',ep',hL,r'⟩) hok I.bare
theorem Inv.call(I:Inv X pins σ H s)(u:Un (frs X.stack) ch H H' s.heap h')(hok:HOk X.prog X.w H' h')(hg:iL g')(hch:∀b∈ch,(b∈X.ex\/X.s₀.heap.objs.size<=b)/\b≠X.env.locals/\(∀x c,X.env.cells.lookup x=some c->c≠b)/\∀p∈X.pn++pins,p.1≠b):Inv X pins σ H' {s with heap:=h',gens:=g',drawn:=d',toks:=t'}:=by
 obtain⟨m,⟨o,es,ep,ho,r⟩,_⟩:=id I.loc;obtain⟨sl,hL⟩:=u.any ho I.free λz=>(hch _ z).2.1 rfl;exact I.step (ch:=ch) hch (λb o hL hb hc e n=>u.keep b o e n (λz=>(az.mp (I.stkSub b z)).elim hL hb) hc) (λb o _ _ hc e n=>u.any e n hc) (λb o hc e n=>u.free b o e n hc) (λb o hc e=>u.there b o e hc) u.tups u.frzs u.tbls (λm' hm=>by
  obtain⟨o',es',ep',ho',r'⟩:=hm;rw[ho]at ho';cases ho';exact⟨_,es',ep',hL,r'⟩) hok hg
theorem Inv.turned(I:Inv X pins σ H s)(k:∀b o,b≠it->s.heap.get? b=some o->h'.get? b=some o)(hn:H it=none)(hL:it≠X.env.locals)(h1:it∈X.ex\/X.s₀.heap.objs.size<=it)(h2:∀x c,X.env.cells.lookup x=some c->c≠it)(h3:∀p∈X.pn++pins,p.1≠it):Inv X pins σ H {s with heap:=h',toks:=t'}:=by
 have nit:∀b u,H b=some u->b≠it:=λb u e z=>by rw[z,hn]at e;cases e
 refine I.step (g':=s.gens) (d':=s.drawn) (ch:=[it]) (λb hb=>?_) (λb o _ _ hc e _=>k b o (λz=>hc (by simp[z])) e) (λb o _ _ hc e _=>⟨o.slots,k b o (λz=>hc (by simp[z])) e⟩) (λ_ _ _ _ n=>n)
  (λb o hc e=>⟨o,k b o (λz=>hc (by simp[z])) e⟩) (λ_ _ e=>e) (λ_ _ _ e=>e) (λb ps e=>⟨#[],by rw[e];simp⟩) (λm hm=>?_) (λb u e=>?_) I.bare
 .have e:b=it:=by simpa using hb
  subst e;exact⟨h1,hL,h2,h3⟩
 .obtain⟨o,es,ep,ho,r⟩:=hm;exact⟨o,es,ep,k _ o (cC hL) ho,r⟩
 .refine(I.hok b u e).stay (λc v hc q=>k c v ?_ q) (λ_ q=>q) λ_ _ q=>q;rcases hc with z|z
  .rw[z];exact nit b u e
  .exact nit c _ z
theorem Inv.tok(I:Inv X pins σ H s)(t:Nat):Inv X pins σ H {s with toks:=t}:=I.un (h':=s.heap) (t':=t) Un.refl I.hok
theorem Inv.kept(I:Inv X pins σ H s)(k:∀b u,s.heap.get? b=some u->h'.get? b=some u):Inv X pins σ H {s with heap:=h',toks:=t'}:=I.un (Un.kept k) (I.hok.kept k)
theorem Inv.laid(I:Inv X pins σ H s)(k:∀b u,s.heap.get? b=some u->h'.get? b=some u)(hp:s.heap.objs.size<=a)(new:ZaC X.prog X.w (upd H a o) h' a o):Inv X pins σ (upd H a o) {s with heap:=h',toks:=t'}:=I.un (Un.laid k hp (I.hok.fresh hp)) (I.hok.laid k hp new)
theorem Inv.write(I:Inv X pins σ H s)(mu:Mut (H x))(he:e=x\/H e=some (.own x))(k:∀b u,b≠e->s.heap.get? b=some u->h'.get? b=some u)(heo:∃u,h'.get? e=some u)(new:ZaC X.prog X.w (upd H x o) h' x o):Inv X pins σ (upd H x o) {s with heap:=h',toks:=t'}:=I.un (Un.write mu he k heo) (I.hok.write mu he k heo new)
theorem Inv.pins_of(I:Inv X pins σ H s)(h:∀p∈pins',s.heap.get? p.1=some p.2/\H p.1=none/\p.1≠X.env.locals/\p.1∉X.fs/\∀v,p.2.data≠ .cell v):Inv X pins' σ H s:=
 ⟨I.ok,I.os,I.bare,I.base,I.loc,I.cell,I.free,I.freeC,λp hp=>(a7.mp hp).elim (λz=>I.pin p (gz _ z)) (h p),I.hok,I.len,I.qd,I.fx⟩
theorem Zfi{N:List Str}(hN:N.Nodup){i:Nat}(a:N[i]?=some x)(b:N[j]?=some x):i=j:=by
 obtain⟨h1,e1⟩:=aq.mp a;obtain⟨h2,e2⟩:=aq.mp b;exact(List.getElem_inj hN).mp (e1.trans e2.symm)
theorem Zdw(I:Inv X pins σ H s)(hN:X.N.Nodup)(hi:X.N[i]?=some x)(hx:Loc X.env.scope x)(hm:X.may i=true)(r:ZS v u)(h:∀s',Inv X pins (σ.set i (some v)) H s'->(∃a,ir a s.heap s'.heap/\(a=X.env.locals\/X.env.cells.lookup x=some a))->Q () s')(hf:X.fn x=true\/X.env.scope.names.lookup x=some .local:=by first|exact .inl rfl|exact .inr rfl|assumption):wpAny M A (storeName X.env x u) Q E s:=by
 obtain⟨m,hn,hl⟩:=id I.loc;have hcls:(X.env.scope.kind == .class||(X.env.scope.kind == .module&&X.env.locals != X.env.globals))=false:=by rw[I.ok.kind];rfl
 have hiσ:i<σ.length:=by rw[I.len];exact(aq.mp hi).1
 have cne:=I.cne;have tracked:∀{a:Addr}{h':Heap},(∃o,s.heap.get? a=some o/\H a=none)->ir a s.heap h'->HOk X.prog X.w H h':=λ{a h'} ha hs b ob e=>by
  obtain⟨_,_,hfree⟩:=ha;refine(I.hok b ob e).stay (λc w' hc q=>(hs.2 c ?_).trans q) (λ_ q=>q) λ_ _ q=>q;rintro rfl;rcases hc with rfl|hc
  .rw[hfree]at e;cases e
  .rw[hfree]at hc;cases hc
 rcases hx with hk|hk
 .refine wpAny_storeName_local hk hn (λh' hn' hs=>?_) hcls;obtain⟨oL,_,_,hoL,_⟩:=id hn;refine h _ ⟨I.ok,I.os,I.bare,⟨λb o e n hb hx=>?_,λb o e n hb hx=>?_,I.base.free,λb o e hx=>?_,I.base.tups,I.base.frzs,I.base.tbls⟩,⟨_,hn',λj y v' e1 e2 e3=>?_⟩,λy c e=>?_,I.free,I.freeC,λp hp=>?_,tracked ⟨oL,hoL,I.free⟩ hs,by simpa using I.len,I.qd,I.fx.set hm⟩ ⟨_,hs,.inl rfl⟩
  .exact(hs.2 b (aE (aj (Hz e) I.ok.above))).trans (I.base.keep b o e n hb hx)
  .obtain⟨sl,e1⟩:=I.base.slot b o e n hb hx;exact⟨sl,(hs.2 b (aE (aj (Hz e) I.ok.above))).trans e1⟩
  .obtain⟨o',e1⟩:=I.base.there b o e hx;exact⟨o',(hs.2 b (aE (aj (Hz e) I.ok.above))).trans e1⟩
  .by_cases hj:j=i
   .subst hj;rw[hi]at e1;cases e1;rw[aT hiσ]at e2;cases e2;exact⟨u,r,.inl ⟨hk,by simp⟩⟩
   .rw[be (cC hj)]at e2;obtain⟨u',r',q⟩:=hl j y v' e1 e2 e3;refine⟨u',r',?_⟩;rcases q with⟨k,e⟩|⟨k,c,e,z⟩
    .refine .inl ⟨k,?_⟩
     have:y≠x:=λe=>hj (Zfi hN e1 (e▸hi))
     simp[this,e]
    .exact .inr ⟨k,c,e,z.sameBut hs (cne y c e)⟩
  .obtain⟨w',z⟩:=I.cell y c e;exact⟨w',z.sameBut hs (cne y c e)⟩
  .obtain⟨e,n,ne,nf,d⟩:=I.pin p hp;exact⟨(hs.2 p.1 ne).trans e,n,ne,nf,d⟩
 .have hfn:X.fn x=true:=by
   rcases hf with z|z
   .exact z
   .rw[z]at hk;cases hk
  obtain⟨c,hc⟩:=I.ok.has x (.inl hk);obtain⟨w',z⟩:=I.cell x c hc;refine wpAny_storeName_cell I.ok.kind hk hc z (λh' hc' hs=>?_);obtain⟨oc,hoc,hocd⟩:=id z;refine h {s with heap:=h'} ⟨I.ok,I.os,I.bare,⟨λb o e n hb hx=>?_,λb o e n hb hx=>?_,I.base.free,λb o e hx=>?_,I.base.tups,I.base.frzs,I.base.tbls⟩,⟨m,hn.sameBut hs (cC (cne x c hc)),λj y v' e1 e2 e3=>?_⟩,λy c' e=>?_,I.free,I.freeC,λp hp=>?_,tracked ⟨oc,hoc,I.freeC x c hc⟩ hs,by simpa using I.len,I.qd,I.fx.set hm⟩ ⟨c,hs,.inr hc⟩
  .exact(hs.2 b (aE (aj (Hz e) (I.ok.cab x c hfn hc)))).trans (I.base.keep b o e n hb hx)
  .obtain⟨sl,e1⟩:=I.base.slot b o e n hb hx;exact⟨sl,(hs.2 b (aE (aj (Hz e) (I.ok.cab x c hfn hc)))).trans e1⟩
  .obtain⟨o',e1⟩:=I.base.there b o e hx;exact⟨o',(hs.2 b (aE (aj (Hz e) (I.ok.cab x c hfn hc)))).trans e1⟩
  .by_cases hj:j=i
   .subst hj;rw[hi]at e1;cases e1;rw[aT hiσ]at e2;cases e2;exact⟨u,r,.inr ⟨.inl hk,c,hc,hc'⟩⟩
   .rw[be (cC hj)]at e2;obtain⟨u',r',q⟩:=hl j y v' e1 e2 e3;refine⟨u',r',?_⟩;rcases q with q|⟨k,c',e,z'⟩
    .exact .inl q
    .refine .inr ⟨k,c',e,z'.sameBut hs ?_⟩;rintro rfl;exact hj (Zfi hN e1 (I.ok.inj _ _ _ e hc▸hi))
  .by_cases hcc:c'=c
   .subst hcc;exact⟨_,hc'⟩
   .obtain⟨w2,z2⟩:=I.cell y c' e;exact⟨w2,z2.sameBut hs hcc⟩
  .obtain⟨e,n,ne,nf,d⟩:=I.pin p hp;refine⟨(hs.2 p.1 ?_).trans e,n,ne,nf,d⟩;intro q;rw[q,hoc]at e;have q':oc=p.2:=aQ e;exact d w' (by rw[<-q'];exact hocd)
theorem Zb1(I:Inv X pins σ H s)(hN:X.N.Nodup)(hi:X.N[i]?=some x)(hx:Loc X.env.scope x)(hm:X.may i=true)(r:ZS v u)(h:∀s',Inv X pins (σ.set i (some v)) H s'->Q () s')(hf:X.fn x=true\/X.env.scope.names.lookup x=some .local:=by first|exact .inl rfl|exact .inr rfl|assumption):wpAny M A (storeName X.env x u) Q E s:=
 Zdw I hN hi hx hm r (λs' I' _=>h s' I') hf
theorem Inv.call'(I:Inv X pins σ H s)(ho:s'.os=s.os)(u:Un (frs X.stack) ch H H' s.heap s'.heap)(hok:HOk X.prog X.w H' s'.heap)(hg:iL s'.gens)(hch:∀b∈ch,(b∈X.ex\/X.s₀.heap.objs.size<=b)/\b≠X.env.locals/\(∀x c,X.env.cells.lookup x=some c->c≠b)/\∀p∈X.pn++pins,p.1≠b):Inv X pins σ H' s':=by
 obtain⟨h',g',d',t',o'⟩:=s';have e:o'=s.os:=ho;subst e;exact I.call (g':=g') (t':=t') (d':=d') u hok hg hch
end
abbrev XK:=aa->Option Addr->Hp->Prop
noncomputable abbrev St:=List (Option V)
abbrev VK:=V->Hp->Prop
abbrev TE:=St->Hp->VK->Prop
abbrev TT:=St->Hp->(Bool->Hp->Prop)->Prop
abbrev TA:=St->Hp->(List V->Hp->Prop)->Prop
structure Ends where
 nx:St->Hp->Prop
 rt:VK
 bk:St->Hp->Prop:=λ_ _=>False
 ct:St->Hp->Prop:=λ_ _=>False
abbrev TS:=Ends->St->Hp->Prop
def EP(X:Cx)(pins:Pn)(σ:St)(Q:VK)(u:aa)(s':aB):Prop:=∃v H',Inv X pins σ H' s'/\ZS v u/\Q v H'
noncomputable def TP(X:Cx)(pins:Pn)(σ:St)(Q:Bool->Hp->Prop)(b:Bool)(s':aB):Prop:=∃H',Inv X pins σ H' s'/\Q b H'
def AP(X:Cx)(pins:Pn)(σ:St)(Q:List V->Hp->Prop)(us:List aa)(s':aB):Prop:=∃vs H',Inv X pins σ H' s'/\ZQ vs us/\Q vs H'
def SP(X:Cx)(pins:Pn)(D:Ends)(f:Flow)(s':aB):Prop:=
 match f with
 |.next=>∃σ' H',Inv X pins σ' H' s'/\D.nx σ' H'
 |.brk=>∃σ' H',Inv X pins σ' H' s'/\D.bk σ' H'
 |.cont=>∃σ' H',Inv X pins σ' H' s'/\D.ct σ' H'
 |.ret u=>∃v σ' H',Inv X pins σ' H' s'/\ZS v u/\D.rt v H'
def PE(X:Cx)(e:Expr)(t:TE):Prop:=
 ∀(pins:Pn)(s:aB)(σ:St)(H:Hp)(Q:VK),Inv X pins σ H s->t σ H Q->wpAny (ao X.prog X.w) X.A (eval e X.env) (EP X pins σ Q) X.xe s
def PT(X:Cx)(e:Expr)(t:TT):Prop:=
 ∀(pins:Pn)(s:aB)(σ:St)(H:Hp)(Q:Bool->Hp->Prop),Inv X pins σ H s->t σ H Q->wpAny (ao X.prog X.w) X.A (isTrue e X.env (eval e X.env)) (TP X pins σ Q) X.xe s
def PW(X:Cx)(e:Expr)(t:TT):Prop:=
 ∀(whole:Sem aa)(pins:Pn)(s:aB)(σ:St)(H:Hp)(Q:Bool->Hp->Prop),Inv X pins σ H s->t σ H Q->wpAny (ao X.prog X.w) X.A (isTrue e X.env whole) (TP X pins σ Q) X.xe s
theorem PW.pt(h:PW X e t):PT X e t:=h _
def PA(X:Cx)(es:List Expr)(t:TA):Prop:=
 ∀(pos:Pos)(pins:Pn)(s:aB)(σ:St)(H:Hp)(Q:List V->Hp->Prop),Inv X pins σ H s->t σ H Q->wpAny (ao X.prog X.w) X.A (spliced (cT pos (av es X.env))) (AP X pins σ Q) X.xe s
def PS(X:Cx)(st:Stmt)(t:TS):Prop:=
 ∀(pins:Pn)(s:aB)(σ:St)(H:Hp)(D:Ends),Inv X pins σ H s->t D σ H->wpAny (ao X.prog X.w) X.A (exec st X.env) (SP X pins D) X.xe s
def PSs(X:Cx)(st:List Stmt)(t:TS):Prop:=
 ∀(pins:Pn)(s:aB)(σ:St)(H:Hp)(D:Ends),Inv X pins σ H s->t D σ H->wpAny (ao X.prog X.w) X.A (execs st X.env) (SP X pins D) X.xe s
theorem thn{t:Sem α}{Q Q':α->aB->Prop}(h:wpAny M A t Q E s)(hQ:∀a s,Q a s->Q' a s):wpAny M A t Q' E s:=wpAny_mono h hQ λ_ _ x=>x
noncomputable def ZtX(i:Nat):TE:=λσ H Q=>∃v,σ[i]?=some (some v)/\Q v H
noncomputable def tC(v:V):TE:=λ_ H Q=>Q v H
theorem ZkD(hN:X.N[i]?=some x)(hv:Vis X.env.scope x)(hd:autoParam ((x==("__debug__":Str))=false) Qde._auto_1)(hcd:autoParam ((x==("__classdict__":Str))=false) Qde._auto_1):PE X (.Name x pos) (ZtX i):=by
 intro pins s σ H Q I h;obtain⟨v,e,h⟩:=h;obtain⟨m,hn,hl⟩:=I.loc;obtain⟨u,r,l⟩:=hl i x v hN e hv;have fin:EP X pins σ Q u s:=⟨v,H,I,r,h⟩;rcases l with⟨hk,hm⟩|⟨hk,c,hc,hcell⟩
 .exact wpAny_Name (wpAny_loadName_local I.ok.kind hk hn hm fin) hd
 .rcases hk with hk|hk
  .exact wpAny_Name (wpAny_loadName_cell I.ok.kind hk hc hcell fin) hd
  .exact wpAny_Name (wpAny_loadName_free I.ok.kind hk hc hcell fin hcd) hd
theorem Zn0{i j pos}:PE X (.Constant (.int i) j pos) (tC (.int i)):=λ_ _ _ H _ I h=>wpAny_Constant_int ⟨.int i,H,I.tok _,⟨_,rfl⟩,h⟩
theorem ZrC{b j pos}:PE X (.Constant (.bool b) j pos) (tC (.bl b)):=λ_ _ _ H _ I h=>Constant_bool ⟨.bl b,H,I,rfl,h⟩
theorem Zn1{j pos}:PE X (.Constant .none j pos) (tC .non):=λ_ _ _ H _ I h=>Constant_none ⟨.non,H,I,rfl,h⟩
theorem Zn2{x j pos}:PE X (.Constant (.str x) j pos) (tC (.str x)):=λ_ _ _ H _ I h=>Calls.Constant_str ⟨.str x,H,I.tok _,⟨_,rfl⟩,h⟩
noncomputable def Gl(X:Cx)(x:Str):Prop:=X.env.kindOf x=some .globalImplicit
theorem ZgM(I:Inv X pins σ H s)(hg:Gl X x)(hm:X.mg x=some u)(h:Q u s)(hd:autoParam ((x==("__debug__":Str))=false) Qde._auto_1):wpAny (ao X.prog X.w) X.A (eval (.Name x pos) X.env) Q E s:=
 Calls.Name_function_global I.ok.kind hg (Calls.loadGlobal_global (by rw[I.ok.glob];exact I.mod.glob.keeps I.bk) hm h) hd
theorem Zbg(I:Inv X pins σ H s)(hg:Gl X x)(hm:X.mg x=none)(hv:bK x=some u)(h:Q u s)(hn:autoParam (x≠"__name__") Qde._auto_1)(hd:autoParam ((x==("__debug__":Str))=false) Qde._auto_1):wpAny (ao X.prog X.w) X.A (eval (.Name x pos) X.env) Q E s:=by
 obtain⟨mb,h1,h2⟩:=I.mod.blt;exact Calls.Name_function_global I.ok.kind hg (Calls.loadGlobal_builtin (by rw[I.ok.glob];exact I.mod.glob.keeps I.bk) hm (by rw[I.ok.blt];exact h1.keeps I.bk) ((h2 x hn).trans hv) h) hd
theorem ZlJ(hg:Gl X x)(hm:X.mg x=none)(hv:bK x=some u)(r:ZS v u)(hn:autoParam (x≠"__name__") Qde._auto_1)(hd:autoParam ((x==("__debug__":Str))=false) Qde._auto_1):PE X (.Name x pos) (tC v):=
 λ_ _ _ H _ I h=>Zbg I hg hm hv ⟨v,H,I,r,h⟩ hn hd
noncomputable def tB(t:TE):TT:=λσ H Q=>t σ H λx H1=>∃c,x=.bl c/\Q c H1
theorem Zn3(h:PE X e t)(he:autoParam (∀whole,isTrue e X.env whole=(do let v <-whole;standAt e.pos;holding [v] (truthy v))) Qin._auto_1):PT X e (tB t):=by
 intro pins s σ H Q I hw;refine isTrue_plain (thn (h pins s σ H _ I hw) λv s1 hz=>?_) (he _);obtain⟨x,H1,I1,r1,q1⟩:=hz;obtain⟨d,rfl,q⟩:=q1;cases r1;exact dR ⟨H1,I1,q⟩
noncomputable def ZuY(t u:TT):TT:=λσ H Q=>t σ H λc H1=>if c=true then u σ H1 Q else Q false H1
noncomputable def tOr(t u:TT):TT:=λσ H Q=>t σ H λc H1=>if c=true then Q true H1 else u σ H1 Q
noncomputable def ZuZ(t:TT):TT:=λσ H Q=>t σ H λc H1=>Q (!c) H1
theorem pw_and1(ha:PT X a tA):PW X (.BoolOp .And [a] pos) tA:=by
 intro wh pins s σ H Q I h;refine isTrue_and (thn (ha pins s σ H Q I h) λc s1 e=>?_);cases c with
 |true=>exact isTrue_and_nil e
 |false=>exact e
theorem pw_or1(ha:PT X a tA):PW X (.BoolOp .Or [a] pos) tA:=by
 intro wh pins s σ H Q I h;refine isTrue_or (thn (ha pins s σ H Q I h) λc s1 e=>?_);cases c with
 |false=>exact isTrue_or_nil e
 |true=>exact e
theorem pw_and(ha:PT X a tA)(hb:PW X (.BoolOp .And (b::rest) pos) tB'):PW X (.BoolOp .And (a::b::rest) pos) (ZuY tA tB'):=by
 intro wh pins s σ H Q I h;refine isTrue_and (thn (ha pins s σ H _ I h) λc s1 hz=>?_);obtain⟨H1,I1,q1⟩:=hz;cases c with
 |true=>exact hb wh pins s1 σ H1 Q I1 q1
 |false=>exact⟨H1,I1,q1⟩
theorem pw_or(ha:PT X a tA)(hb:PW X (.BoolOp .Or (b::rest) pos) tB'):PW X (.BoolOp .Or (a::b::rest) pos) (tOr tA tB'):=by
 intro wh pins s σ H Q I h;refine isTrue_or (thn (ha pins s σ H _ I h) λc s1 hz=>?_);obtain⟨H1,I1,q1⟩:=hz;cases c with
 |true=>exact⟨H1,I1,q1⟩
 |false=>exact hb wh pins s1 σ H1 Q I1 q1
theorem Zn4(ha:PT X a tA):PT X (.UnaryOp .Not a pos) (ZuZ tA):=by
 intro pins s σ H Q I h;exact isTrue_not (ha pins s σ H (λc H1=>Q (!c) H1) I h)
noncomputable def ZrD(ta tb:TE):TE:=λσ H Q=>ta σ H λx H1=>∃c,x=.bl c/\if c=true then tb σ H1 Q else Q (.bl false) H1
noncomputable def ZrE(ta:TE):TE:=λσ H Q=>ta σ H λx H1=>∃c,x=.bl c/\Q (.bl (!c)) H1
theorem Zn5{op}(h:PE X a t):PE X (.BoolOp op [a] pos) t:=λpins s σ H Q I hw=>BoolOp_one (h pins s σ H Q I hw)
theorem Zn6(ha:PE X a ta)(hb:PE X (.BoolOp .And (b::rest) pos) tb):PE X (.BoolOp .And (a::b::rest) pos) (ZrD ta tb):=by
 intro pins s σ H Q I h;refine BoolOp_and (thn (ha pins s σ H _ I h) λv s1 hz=>?_);obtain⟨x,H1,I1,r1,q1⟩:=hz;obtain⟨c,rfl,q1⟩:=q1;cases r1;refine dR ?_;cases c with
 |true=>exact hb pins s1 σ H1 Q I1 q1
 |false=>exact⟨.bl false,H1,I1,rfl,q1⟩
theorem Zn7(ha:PE X a ta):PE X (.UnaryOp .Not a pos) (ZrE ta):=by
 intro pins s σ H Q I h;refine UnaryOp_ (thn (ha pins s σ H _ I h) λv s1 hz=>?_);obtain⟨x,H1,I1,r1,q1⟩:=hz;obtain⟨c,rfl,q1⟩:=q1;cases r1;exact not_of (dR ⟨.bl (!c),H1,I1,rfl,q1⟩)
def SqL(K:Fg)(H:Hp)(a:Addr)(xs:List V):Prop:=
 Rd H a (.lst xs)\/
  ∃(o:Obj) (its:Array aa) (n:Nat),K.lookup a=some o/\o.cls=.type "list"/\o.dict=none/\o.data=.seq its n/\its.size<=sizeLine/\ZQ xs its.toList
def SqT(K:Fg)(H:Hp)(a:Addr)(xs:List V):Prop:=
 Rd H a (.tup xs)\/
  ∃(o:Obj) (its:Array aa) (n:Nat),K.lookup a=some o/\o.cls=.type "tuple"/\o.data=.seq its n/\its.size<=sizeLine/\ZQ xs its.toList
noncomputable def Zu0:aa->Option V
 |.none=>some .non
 |.bool b=>some (.bl b)
 |.int i _=>some (.int i)
 |.str x _=>some (.str x)
 |.bytes b _=>some (.byt b)
 |.float b _=>some (.flt b)
 |.ref a=>some (.ref a)
 |.type n=>some (.ty n)
 |_=>none
theorem ZS.abs(r:ZS x u):Zu0 u=some x:=by
 cases x with
 |non=>cases r;rfl
 |bl _=>cases r;rfl
 |int _=>obtain⟨t,rfl⟩:=r;rfl
 |str _=>obtain⟨t,rfl⟩:=r;rfl
 |byt _=>obtain⟨t,rfl⟩:=r;rfl
 |flt _=>obtain⟨t,rfl⟩:=r;rfl
 |ref _=>cases r;rfl
 |ty _=>cases r;rfl
theorem ZS.inj(r:ZS x u)(q:ZS y u):x=y:=aQ (r.abs.symm.trans q.abs)
theorem ZQ.inj:∀{xs ys:List V}{us:List aa},ZQ xs us->ZQ ys us->xs=ys:=by
 intro xs ys us h
 induction h generalizing ys with
 |nil=>intro h;cases h;rfl
 |cons r t ih=>intro h;cases h with|cons r2 t2=>rw[r.inj r2,ih t2]
theorem SqL.of{K:Fg}(h:H a=some (.lst xs)):SqL K H a xs:=.inl (.inl h)
theorem SqT.of{K:Fg}(h:H a=some (.tup xs)):SqT K H a xs:=.inl (.inl h)
theorem Inv.list(I:Inv X pins σ H s)(h:SqL X.K H a xs):∃its:List aa,ZQ xs its/\PlainL s.heap a its.toArray/\xs.length<=sizeLine:=by
 rcases h with h|⟨o,its,n,hk,hc,hd,hs,hz,r⟩
 .obtain⟨z,its,n,r,e⟩:=h.ok I.hok;exact⟨its,r,⟨_,n,e,rfl,rfl,rfl⟩,z⟩
 .refine⟨its.toList,r,⟨o,n,I.kIn a o hk,hc,hd,by simpa using hs⟩,?_⟩
  have e:=r.length;simp only[bw]at e;lia
theorem Inv.tuple(I:Inv X pins σ H s)(h:SqT X.K H a xs):∃its:List aa,ZQ xs its/\IsTup s.heap a its.toArray/\xs.length<=sizeLine:=by
 rcases h with h|⟨o,its,n,hk,hc,hs,hz,r⟩
 .obtain⟨z,its,r,p⟩:=h.ok I.hok;exact⟨its,r,p,z⟩
 .refine⟨its.toList,r,⟨o,I.kIn a o hk,hc,n,by simpa using hs⟩,?_⟩
  have e:=r.length;simp only[bw]at e;lia
theorem Inv.list_inj(I:Inv X pins σ H s)(h:SqL X.K H a xs)(h':SqL X.K H a ys):xs=ys:=by
 obtain⟨its,r,⟨o,n,e,_,_,d⟩,_⟩:=I.list h;obtain⟨its',r',⟨o',n',e',_,_,d'⟩,_⟩:=I.list h';rw[e]at e';cases e';rw[d]at d';injection d' with d1 _
 have:its=its':=by simpa using congrArg Array.toList d1
 subst this;exact r.inj r'
theorem Inv.tuple_inj(I:Inv X pins σ H s)(h:SqT X.K H a xs)(h':SqT X.K H a ys):xs=ys:=by
 obtain⟨its,r,⟨o,e,_,n,d⟩,_⟩:=I.tuple h;obtain⟨its',r',⟨o',e',_,n',d'⟩,_⟩:=I.tuple h';rw[e]at e';cases e';rw[d]at d';injection d' with d1 _
 have:its=its':=by simpa using congrArg Array.toList d1
 subst this;exact r.inj r'
section
variable {st:Stmt}{rest:List Stmt}
noncomputable def tNext:TS:=λD σ H=>D.nx σ H
noncomputable def Zu1(t u:TS):TS:=λD σ H=>t {D with nx:=u D} σ H
theorem ZlK:PSs X [] tNext:=λ_ _ σ H _ I h=>i5 ⟨σ,H,I,h⟩
theorem Zji(h1:PS X st t)(h2:PSs X rest u):PSs X (st::rest) (Zu1 t u):=by
 intro pins s σ H D I h;refine wpAny_execs_cons (thn (h1 pins s σ H {D with nx:=u D} I h) λf s1 q=>?_);cases f with
 |next=>
  obtain⟨σ',H',I',q⟩:=q;exact h2 pins s1 σ' H' D I' q
 |ret v=>exact q
 |brk=>exact q
 |cont=>exact q
theorem ZlL(h1:PS X st t):PSs X [st] t:=by
 intro pins s σ H D I h;refine wpAny_execs_cons (thn (h1 pins s σ H D I h) λf s1 q=>?_);cases f with
 |next=>exact i5 q
 |ret v=>exact q
 |brk=>exact q
 |cont=>exact q
noncomputable def tBreak:TS:=λD σ H=>D.bk σ H
theorem Zjj:PS X (.Break pos) tBreak:=λ_ _ σ H _ I h=>wpAny_Break ⟨σ,H,I,h⟩
theorem Inv.quiet(I:Inv X pins σ H s):interactive X.env=false:=by simp[interactive,I.ok.kind]
noncomputable def ZrF(te:TE):TS:=λD σ H=>te σ H λ_ H1=>D.nx σ H1
theorem ZlM(he:PE X e te)(hs:autoParam (ji e none pos.line X.env=pure false) Qrf._auto_1):PS X (.Expr e pos) (ZrF te):=by
 intro pins s σ H D I h;exact wpAny_Expr_any (thn (he pins s σ H _ I h) λv s1 ⟨x,H1,I1,r1,q1⟩=>⟨σ,H1,I1,q1⟩) I.quiet hs
noncomputable def Zu2(te:TE):TS:=λD σ H=>te σ H D.rt
theorem Zn8(he:PE X e te):PS X (.Return (some e) pos) (Zu2 te):=by
 intro pins s σ H D I h;exact wpAny_Return_some (thn (he pins s σ H _ I h) λv s1 ⟨x,H1,I1,r1,q1⟩=>⟨x,σ,H1,I1,r1,q1⟩)
noncomputable def Zu3(c:TT)(t u:TS):TS:=λD σ H=>c σ H λb H1=>if b=true then t D σ H1 else u D σ H1
theorem ZrG(hc:PT X c tc)(ha:PSs X a t)(hb:PSs X b u):PS X (.If c a b pos) (Zu3 tc t u):=by
 intro pins s σ H D I h;refine wpAny_If (thn (hc pins s σ H _ I h) λd s1 hz=>?_);obtain⟨H1,I1,q1⟩:=hz;cases d with
 |true=>exact ha pins s1 σ H1 D I1 q1
 |false=>exact hb pins s1 σ H1 D I1 q1
end
abbrev TG:=V->St->Hp->(St->Hp->Prop)->Prop
abbrev TGs:=List V->St->Hp->(St->Hp->Prop)->Prop
def PG(X:Cx)(target:Expr)(t:TG):Prop:=
 ∀(pins:Pn)(s:aB)(σ:St)(H:Hp)(v:V)(u:aa)(Q:St->Hp->Prop),Inv X pins σ H s->ZS v u->t v σ H Q->
  wpAny (ao X.prog X.w) X.A (assign target X.env u) (λ_ s'=>∃σ' H',Inv X pins σ' H' s'/\Q σ' H') X.xe s
def PGs(X:Cx)(ts:List Expr)(t:TGs):Prop:=
 ∀(pins:Pn)(s:aB)(σ:St)(H:Hp)(vs:List V)(us:List aa)(Q:St->Hp->Prop),Inv X pins σ H s->ZQ vs us->t vs σ H Q->
  wpAny (ao X.prog X.w) X.A (assignInOrder ((dE ts X.env).map (·.2)) us) (λ_ s'=>∃σ' H',Inv X pins σ' H' s'/\Q σ' H') X.xe s
abbrev ZrH:=V->V->V->Hp->(Hp->Prop)->Prop
def ZtY(X:Cx)(t:ZrH):Prop:=
 ∀(pins:Pn)(s:aB)(σ:St)(H:Hp)(o i v:V)(ov iv u:aa)(Q:Hp->Prop),Inv X pins σ H s->ZS o ov->ZS i iv->ZS v u->t o i v H Q->
  wpAny (ao X.prog X.w) X.A (setItem ov iv u) (λ_ s'=>∃H',Inv X pins σ H' s'/\Q H') X.xe s
noncomputable def Zn9(i:Nat):TG:=λv σ H Q=>Q (σ.set i (some v)) H
theorem ZlN(hN:X.N.Nodup)(hi:X.N[i]?=some x)(hx:Loc X.env.scope x)(hm:X.may i=true)(hf:X.fn x=true\/X.env.scope.names.lookup x=some .local:=by first|exact .inl rfl|exact .inr rfl|assumption):PG X (.Name x pos) (Zn9 i):=by
 intro pins s σ H v u Q I r h;exact wpAny_assign_Name (Zb1 I hN hi hx hm r (λs' I'=>⟨_,H,I',h⟩) hf)
noncomputable def gNil:TGs:=λvs σ H Q=>vs=[]/\Q σ H
noncomputable def ZrI(t:TG)(u:TGs):TGs:=λvs σ H Q=>∃v r,vs=v::r/\t v σ H λσ' H'=>u r σ' H' Q
theorem ZlO:PGs X [] gNil:=by
 intro pins s σ H vs us Q I r h;obtain⟨e,h⟩:=h;subst e;cases r;exact assignInOrder_nil ⟨σ,H,I,h⟩
theorem Zjk(h1:PG X e t)(h2:PGs X es u)(hs:autoParam ((dE (e::es) X.env).map (·.2)=assign e X.env::(dE es X.env).map (·.2)) Qrf._auto_1):PGs X (e::es) (ZrI t u):=by
 intro pins s σ H vs us Q I r h;obtain⟨v,vr,e1,h⟩:=h;subst e1;cases r with
 |cons r rr=>
  rw[hs];refine ju (thn (h1 pins s σ H _ _ _ I r h) λ_ s1 hz=>?_);obtain⟨σ1,H1,I1,q1⟩:=hz;exact h2 pins s1 σ1 H1 _ _ Q I1 rr q1
def Zu4(K:Fg)(n:Nat)(t:TGs):TG:=λv σ H Q=>∃a xs,v=.ref a/\SqT K H a xs/\xs.length=n/\t xs σ H Q
theorem Zoa(hc:X.calm=true)(h:PGs X es t)(hn:autoParam ((dE es X.env).length=n) Qrf._auto_1)(hst:autoParam ((dE es X.env).findIdx? (·.1)=none) Qrf._auto_1):PG X (.Tuple es k pos) (Zu4 X.K n t):=by
 intro pins s σ H v u Q I r hw;obtain⟨a,xs,e1,hq,hl,hw⟩:=hw;subst e1;cases r;obtain⟨its,rv,ht,hz⟩:=I.tuple hq;refine assign_Tuple_tuple (I.ok.hd hc) ht (by simp[hn,<-hl,rv.length]) hst λh' hx=>?_
 have I1:Inv X pins σ H {s with heap:=h'}:=I.kept (t':=s.toks) λb o e=>hx b o (aE (Hz e)) e;exact h pins _ σ H xs _ Q I1 (by simpa using rv) hw
noncomputable def Zu5(to ti:TE)(t:ZrH):TG:=λv σ H Q=>to σ H λo H1=>ti σ H1 λi H2=>t o i v H2 λH3=>Q σ H3
theorem Zob(ho:PE X o to)(hi:PE X i ti)(hs:ZtY X t)(ha:∀v,assign (.Subscript o i pos) X.env v=(do
   let ov <-holding [v] (eval o X.env)
   let iv <-holding [v,ov] (eval i X.env)
   standAt pos
   holding [v,ov,iv] (setItem ov iv v)
   release [v,ov,iv] []):=by intro _;rfl):PG X (.Subscript o i pos) (Zu5 to ti t):=by
 intro pins s σ H v u Q I r h;rw[ha];refine Wb (wpAny_holding (thn (ho pins s σ H _ I h) λov s1 hz=>?_));obtain⟨x,H1,I1,r1,q1⟩:=hz;refine Wb (wpAny_holding (thn (hi pins s1 σ H1 _ I1 q1) λiv s2 hz=>?_));obtain⟨y,H2,I2,r2,q2⟩:=hz;refine Wb (wpAny_standAt (Wb (wpAny_holding (thn (hs pins s2 σ H2 x y v ov iv u _ I2 r1 r2 r q2) λ_ s3 hz=>?_))));obtain⟨H3,I3,q3⟩:=hz;exact wpAny_release ⟨σ,H3,I3,q3⟩
noncomputable def ZtZ(te:TE)(g:TG):TS:=λD σ H=>te σ H λx H1=>g x σ H1 D.nx
theorem ZkE(he:PE X e te)(hg:PG X tg g)(hs:autoParam (iM [tg] e pos.line X.env=pure false) Qrf._auto_1)(hw:autoParam (fY [tg] e X.env=pure none) Qrf._auto_1)(h1:autoParam ((dE [tg] X.env).map (·.2)=[assign tg X.env]) Qrf._auto_1):PS X (.Assign [tg] e pos) (ZtZ te g):=by
 intro pins s σ H D I h;refine wpAny_Assign_stores (thn (he pins s σ H _ I h) λv s1 hz=>?_) hs hw;obtain⟨x,H1,I1,r1,q1⟩:=hz;rw[h1];exact thn (hg pins s1 σ H1 x v _ I1 r1 q1) λ_ s2 q=>q
theorem Zoc(hN:X.N.Nodup)(hi:X.N[i]?=some x)(hx:Loc X.env.scope x)(hm:X.may i=true)(he:PE X e te)(hs:autoParam (ji e (some (.Name x pos')) pos.line X.env=pure false) Qrf._auto_1)(hf:X.fn x=true\/X.env.scope.names.lookup x=some .local:=by first|exact .inl rfl|exact .inr rfl|assumption) :
  PS X (.Assign [.Name x pos'] e pos) (ZtZ te (Zn9 i)):=by
 intro pins s σ H D I h;refine wpAny_Assign_Name (thn (he pins s σ H _ I h) λv s1 hz=>?_) hs;obtain⟨y,H1,I1,r1,q1⟩:=hz;exact Zb1 I1 hN hi hx hm r1 (λs2 I2=>⟨_,H1,I2,q1⟩) hf
noncomputable def Zu6(i j:Nat)(ta:TA):TS:=λD σ H=>ta σ H λvs H1=>∃v w,vs=[v,w]/\D.nx ((σ.set i (some v)).set j (some w)) H1
theorem Zod{kt k2 pt2}(hc:X.calm=true)(mi:X.may i=true)(mj:X.may j=true)(hN:X.N.Nodup)(hi:X.N[i]?=some x)(hj:X.N[j]?=some y)(hij:i≠j)(hx:X.env.scope.names.lookup x=some .local)(hy:X.env.scope.names.lookup y=some .local)(ha:PA X [a,b] ta)(hw:fY [.Tuple [.Name x px,.Name y py] kt pt] (.Tuple [a,b] k2 pt2) X.env=pure (some [x,y]))(hs:autoParam (iM [.Tuple [.Name x px,.Name y py] kt pt] (.Tuple [a,b] k2 pt2) pos.line X.env=pure false) Qrf._auto_1) :
  PS X (.Assign [.Tuple [.Name x px,.Name y py] kt pt] (.Tuple [a,b] k2 pt2) pos) (Zu6 i j ta):=by
 intro pins s σ H D I h;rw[exec_Assign_arm];refine Wb (wpAny_standAt ?_);rw[hs];refine Wb (Wp ?_);rw[if_neg (by decide)]
 refine Wb (Tuple_ (thn (ha _ pins s σ H _ I h) λus s1 hz=>?_));obtain⟨vs,H1,I1,r1,q1⟩:=hz;obtain⟨v,w,e1,q1⟩:=q1;subst e1;obtain⟨u1,u2,rfl,rv,rw'⟩:∃u1 u2,us=[u1,u2]/\ZS v u1/\ZS w u2:=by
  cases r1 with
  |cons p q=>
   cases q with
   |cons p' q'=>
    cases q';exact⟨_,_,rfl,p,p'⟩
 refine cF ?_ (by show 2<=sizeLine;decide)
 have I2:Inv X pins σ H1 {s1 with heap:=s1.heap.push {cls:=.type "tuple",data:=.seq [u1,u2].toArray}}:=I1.kept (t':=s1.toks) λb o e=>Hq _ e;rw[hw];refine Wb (Wp ?_);show wpAny (ao X.prog X.w) X.A (do rule "assign.swapped-stores";let items <-unpackItems (.ref s1.heap.objs.size) 2 none;assignInOrder [λv=>bindName X.env y v,λv=>bindName X.env x v] items.reverse;pure Flow.next) _ _ _
 refine Wb (wpAny_rule (Wb (unpackItems_tuple (items:= #[u1,u2]) (I.ok.hd hc) (IsTup.new s1.heap _) λh' hx'=>?_)));have I3:=I2.kept (h':=h') (t':=s1.toks) λb o e=>hx' b o (aE (Hz e)) e;show wpAny _ _ (assignInOrder [λv=>bindName X.env y v,λv=>bindName X.env x v] [u2,u1] >>= λ_=>pure Flow.next) _ _ _
 refine Wb (ju (wpAny_bindName (Zb1 I3 hN hj (.inl hy) mj rw' (λs2 I4=>?_) (.inr hy))));refine ju (wpAny_bindName (Zb1 I4 hN hi (.inl hx) mi rv (λs3 I5=>assignInOrder_nil (Wp ?_)) (.inr hx)));rw[List.set_comm _ _ (cC hij)]at I5;exact⟨_,H1,I5,q1⟩
def Zoe(c:TT)(tb:TS):TS:=λD σ H=>∃W:Nat->St->Hp->Prop,(∃m,W m σ H)/\∀m σ H,W m σ H->
 c σ H λb H1=>if b=true then ∃N:St->Hp->Prop,(∀σ' H',N σ' H'->∃m',m'<m/\W m' σ' H')/\tb {D with nx:=N,ct:=N,bk:=D.nx} σ H1 else D.nx σ H1
theorem Zjl(hp:fZ (ao X.prog X.w) X.A X.env X.xe)(hc:PT X c tc)(hb:PSs X body tb):PS X (.While c body [] pos) (Zoe tc tb):=by
 intro pins s σ H D I h;obtain⟨W,⟨m0,w0⟩,turn⟩:=h;refine wpAny_While (codeAny_whileLoop (λn s'=>∃σ' H',Inv X pins σ' H' s'/\W n σ' H') ?_ m0 ⟨σ,H,I,w0⟩);rintro n s1 ⟨σ1,H1,I1,w1⟩;refine eW hp (thn (hc pins s1 σ1 H1 _ I1 (turn n σ1 H1 w1)) λb s2 hz=>?_);obtain⟨H2,I2,q2⟩:=hz;cases b with
 |true=>
  obtain⟨N,hN,q2⟩:=q2;rw[if_pos rfl];refine eW hp (thn (hb pins s2 σ1 H2 _ I2 q2) λf s3 q3=>?_);cases f with
  |next=>
   obtain⟨σ3,H3,I3,n3⟩:=q3;obtain⟨m',hm,w3⟩:=hN σ3 H3 n3;exact⟨m',hm,σ3,H3,I3,w3⟩
  |cont=>
   obtain⟨σ3,H3,I3,n3⟩:=q3;obtain⟨m',hm,w3⟩:=hN σ3 H3 n3;exact⟨m',hm,σ3,H3,I3,w3⟩
  |brk=>exact q3
  |ret v=>exact q3
 |false=>
  rw[if_neg cH];exact i5 ⟨σ1,H2,I2,q2⟩
structure It where
 go:Nat->Hp->Prop
 yld:Nat->Hp->V->Hp->Prop
 stop:Nat->Hp->Prop
def Zep(X:Cx)(pins:Pn)(H:Hp)(b:Addr):Prop:=
 H b=none/\b≠X.env.locals/\b∉X.fs/\(b∈X.ex\/X.s₀.heap.objs.size<=b)/\(∀x c,X.env.cells.lookup x=some c->c≠b)/\∀p∈X.pn++pins,p.1≠b
theorem Inv.fpOk(I:Inv X pins σ H s)(hb:s.heap.objs.size<=b)(hn:H' b=none):Zep X pins H' b:=by
 refine⟨hn,bH (aj I.lt hb),I.nofs hb,.inr (aM I.sz hb),λx c e z=>?_,λp hp z=>?_⟩
 .obtain⟨v,q⟩:=I.cell x c e;exact absurd (aj q.lt (by rw[z];exact hb)) (bV _)
 .exact absurd (aj (Hz (I.pin p hp).1) (by rw[z];exact hb)) (bV _)
structure Turn(P:cD) (w:da) (K:Fg) (B:dg) (tg:Expr) (J:It) (fp:List Addr) (it:Addr) (tn:Nat->Heap->Prop):Prop where
 mem:it∈fp
 obj:∀i h,tn i h->∀b∈fp,∃o,h.get? b=some o/\∀v,o.data≠ .cell v
 keep:∀i h h',tn i h->(∀b∈fp,∀o,h.get? b=some o->h'.get? b=some o)->tn i h'
 item:∀(X:Cx),X.prog=P->X.w=w->X.K=K->X.A=B->∀(i:Nat)(pins:Pn)(s:aB)(σ:St)(H:Hp)(E:Vp),Inv X pins σ H s->(∀b∈fp,Zep X pins H b)->tn i s.heap->J.go i H->
  wpAny (ao P w) X.A (jl (.ref it)) (λr s1=>∃u,r=some u/\ wpAny (ao P w) X.A (hE tg (.ref it) u) (λ_ s2=>∃x H',Inv X pins σ H' s2/\ZS x u/\J.yld i H x H'/\tn (i+1) s2.heap/\∀b∈fp,H' b=none) E s1) E s
 done:∀(X:Cx),X.prog=P->X.w=w->X.K=K->X.A=B->∀(i:Nat)(pins:Pn)(s:aB)(σ:St)(H:Hp)(E:Vp),Inv X pins σ H s->(∀b∈fp,Zep X pins H b)->tn i s.heap->J.stop i H->
  wpAny (ao P w) X.A (jl (.ref it)) (λr s1=>r=none/\Inv X pins σ H s1) E s
 self:∀(A:dg)(i:Nat)(s:aB)(Q:Vp)(E:Vp),tn i s.heap->Q (.ref it) s->wpAny (ao P w) A (pyIter (.ref it)) Q E s
abbrev TI:=St->Hp->(It->Hp->Prop)->Prop
def PIE(X:Cx)(pins:Pn)(σ:St)(tg:Expr)(R:It->Hp->Prop)(itv:aa)(s2:aB):Prop:=
 ∃(it:Addr) (fp:List Addr) (tn:Nat->Heap->Prop) (J:It) (H':Hp),itv=.ref it/\Inv X pins σ H' s2/\Turn X.prog X.w X.K X.A tg J fp it tn/\tn 0 s2.heap/\(∀b∈fp,Zep X pins H' b)/\R J H'
def PI(X:Cx)(tg iter:Expr)(wi:TI):Prop:=
 ∀(pins:Pn)(s:aB)(σ:St)(H:Hp)(R:It->Hp->Prop),Inv X pins σ H s->wi σ H R->
  wpAny (ao X.prog X.w) X.A (eval iter X.env) (λv s1=>wpAny (ao X.prog X.w) X.A (pyIter v) (PIE X pins σ tg R) X.xe s1) X.xe s
theorem ZlP(ho:s.heap.get? it=some o)(hc:o.cls=.type n)(hd:o.data=.fields vs)(hn:["enumerate","zip","dict_itemiterator","dict_reverseitemiterator","odict_iterator","itertools.zip_longest","itertools.pairwise"].contains n=false)(hQ:Q () s):wpAny M A (hE tg (.ref it) u) Q E s:=by
 unfold hE;cases tg<;>first
  |exact Wp hQ
  | (cases u<;>first
    |exact Wp hQ
    | (refine Wb (wpAny_load ho ?_)
       rw[hc,hd];show wpAny M A (if(["enumerate","zip","dict_itemiterator","dict_reverseitemiterator","odict_iterator","itertools.zip_longest","itertools.pairwise"].contains n&&vs[0]? == some (eN _))=true then _ else _) Q E s
       rw[if_neg (by intro h;rw[hn,Bool.false_and]at h;cases h)]
       exact Wp hQ))
def Itl(K:Fg)(a:Addr):It:=
 ⟨λi H=>∃xs x,SqL K H a xs/\xs[i]?=some x,λi H x H'=>H'=H/\∀xs,SqL K H a xs->xs[i]?=some x,λi H=>∃xs,SqL K H a xs/\xs.length<=i⟩
def Itt(K:Fg)(a:Addr):It:=
 ⟨λi H=>∃xs x,SqT K H a xs/\xs[i]?=some x,λi H x H'=>H'=H/\∀xs,SqT K H a xs->xs[i]?=some x,λi H=>∃xs,SqT K H a xs/\xs.length<=i⟩
noncomputable def Itr(lo:Int)(n:Nat):It:=⟨λi _=>i<n,λi H x H'=>H'=H/\x=.int (lo+i),λi _=>n<=i⟩
theorem ZgN{K:Fg}(a it:Addr):Turn P w K B tg (Itl K a) [it] it (λi h=>h.IsListIter it a i) where
 mem:=by simp
 obj:=λi h st b hb=>by
  have e:b=it:=by simpa using hb
  subst e;obtain⟨o,e,c,d⟩:=st;exact⟨o,e,λv z=>by rw[d]at z;cases z⟩
 keep:=λi h h' st k=>st.at λo e=>k it (by simp) o e
 item:=by
  intro X hP hw hK hB i pins s σ H E I hf st hg;subst hP hw hK;obtain⟨xs,x,hq,hx⟩:=hg;obtain⟨its,rv,p,hz⟩:=I.list hq;obtain⟨u,hu,ru⟩:=rv.get hx;obtain⟨f0,f1,f2,f3,f4,f5⟩:=hf it (by simp)
  refine wpAny_pyNext_list_item st p.isList (x:=u) (by simpa using hu) λh' st' sb=>?_
  have I1:Inv X pins σ H {s with heap:=h'}:=I.turned (t':=s.toks) (λb o hb e=>(sb.2 b hb).trans e) f0 f1 f3 f4 f5;obtain⟨o,e,c,d⟩:=id st';exact⟨u,rfl,ZlP (s:={s with heap:=h'}) e c d (by decide) ⟨x,H,I1,ru,⟨rfl,λys hy=>by rw[I.list_inj hy hq];exact hx⟩,st',λb hb=>(hf b hb).1⟩⟩
 done:=by
  intro X hP hw hK hB i pins s σ H E I hf st hg;subst hP hw hK;obtain⟨xs,hq,hx⟩:=hg;obtain⟨its,rv,p,hz⟩:=I.list hq;obtain⟨f0,f1,f2,f3,f4,f5⟩:=hf it (by simp)
  have hl:=rv.length;exact DQ.Zjh I.qh st p.isList (by simp;lia) λh' eb=>⟨rfl,I.turned (t':=s.toks) (λb o hb e=>eb b o hb e) f0 f1 f3 f4 f5⟩
 self:=λ_ _ _ _ _ st h=>wpAny_pyIter_listiter st h
theorem Zgc{K:Fg}(a it:Addr):Turn P w K B tg (Itt K a) [it] it (λi h=>h.IsTupleIter it a i) where
 mem:=by simp
 obj:=λi h st b hb=>by
  have e:b=it:=by simpa using hb
  subst e;obtain⟨o,e,c,d⟩:=st;exact⟨o,e,λv z=>by rw[d]at z;cases z⟩
 keep:=λi h h' st k=>st.at λo e=>k it (by simp) o e
 item:=by
  intro X hP hw hK hB i pins s σ H E I hf st hg;subst hP hw hK;obtain⟨xs,x,hq,hx⟩:=hg;obtain⟨its,rv,p,hz⟩:=I.tuple hq;obtain⟨u,hu,ru⟩:=rv.get hx;obtain⟨f0,f1,f2,f3,f4,f5⟩:=hf it (by simp)
  refine wpAny_pyNext_tuple_item st (show s.heap.IsTuple a its.toArray from p) (x:=u) (by simpa using hu) λh' st' sb=>?_
  have I1:Inv X pins σ H {s with heap:=h'}:=I.turned (t':=s.toks) (λb o hb e=>(sb.2 b hb).trans e) f0 f1 f3 f4 f5;obtain⟨o,e,c,d⟩:=id st';exact⟨u,rfl,ZlP (s:={s with heap:=h'}) e c d (by decide) ⟨x,H,I1,ru,⟨rfl,λys hy=>by rw[I.tuple_inj hy hq];exact hx⟩,st',λb hb=>(hf b hb).1⟩⟩
 done:=by
  intro X hP hw hK hB i pins s σ H E I hf st hg;subst hP hw hK;obtain⟨xs,hq,hx⟩:=hg;obtain⟨its,rv,p,hz⟩:=I.tuple hq;obtain⟨f0,f1,f2,f3,f4,f5⟩:=hf it (by simp)
  have hl:=rv.length;exact DQ.ZgF I.qh st (show s.heap.IsTuple a its.toArray from p) (by simp;lia) λh' eb=>⟨rfl,I.turned (t':=s.toks) (λb o hb e=>eb b o hb e) f0 f1 f3 f4 f5⟩
 self:=λ_ _ _ _ _ st h=>wpAny_pyIter_tupleiter st h
theorem Zgd{K:Fg}(it:Addr)(lo:Int)(n:Nat):Turn P w K B tg (Itr lo n) [it] it (λi h=>lE h it (lo+(i:Nat)*1) ((n:Int)-(i:Nat)) 1) where
 mem:=by simp
 obj:=λi h st b hb=>by
  have e:b=it:=by simpa using hb
  subst e;exact⟨_,st,λv z=>by
   have z':lF _=Data.cell v:=z;cases z'⟩
 keep:=λi h h' st k=>k it (by simp) _ st
 item:=by
  intro X hP hw hK hB i pins s σ H E I hf st hg;subst hP hw hK;obtain⟨f0,f1,f2,f3,f4,f5⟩:=hf it (by simp)
  have hlt:i<n:=hg;refine wpAny_pyNext_range_item st ⋯ λh' st' sb=>?_
  have I1:Inv X pins σ H {s with heap:=h',toks:=s.toks+1}:=I.turned (λb o hb e=>(sb.2 b hb).trans e) f0 f1 f3 f4 f5;have st2:lE h' it (lo+((i+1:Nat):Int)*1) ((n:Int)-((i+1:Nat):Int)) 1:=by
   have e1:lo+((i+1:Nat):Int)*1=lo+(i:Nat)*1+1:=⋯
   have e2:(n:Int)-((i+1:Nat):Int)=(n:Int)-(i:Nat)-1:=⋯
   rw[e1,e2];exact st'
  refine⟨_,rfl,ZlP (s:={s with heap:=h',toks:=s.toks+1}) (n:="range_iterator") st2 rfl rfl (by decide) ⟨.int (lo+i),H,I1,⟨s.toks,?_⟩,⟨rfl,rfl⟩,st2,λb hb=>(hf b hb).1⟩⟩
  rw[nu]
 done:=by
  intro X hP hw hK hB i pins s σ H E I hf st hg;subst hP hw hK;obtain⟨f0,f1,f2,f3,f4,f5⟩:=hf it (by simp)
  exact DQ.ZgE I.qh st (by have:n<=i:=hg;lia) λh' eb=>⟨rfl,I.turned (t':=s.toks) (λb o hb e=>eb b o hb e) f0 f1 f3 f4 f5⟩
 self:=λ_ _ _ _ _ st h=>wpAny_pyIter_rangeiter st h
theorem Zfj{lo:Int}(I:Inv X pins σ H s)(h1: -(2^62)<=lo)(h2:lo<2^62)(h3: -(2^62)<=hi)(h4:hi<2^62)(q:R (Itr lo (hi-lo).toNat) H):wpAny (ao X.prog X.w) X.A (pyIter (.ref s.heap.objs.size)) (PIE X pins σ tg R) E {s with heap:=s.heap.push {cls:=.type "range",data:=.fields #[.int lo t,.int hi u,.int 1 v]},toks:=tk}:=by
 refine wpAny_pyIter_range (IsRange.new ..) (small_one h1 h2 h3 h4) ?_;have I1:Inv X pins σ H {s with heap:=s.heap.push {cls:=.type "range",data:=.fields #[.int lo t,.int hi u,.int 1 v]},toks:=tk}:=I.kept λb o e=>Hq _ e;refine⟨(s.heap.push {cls:=.type "range",data:=.fields #[.int lo t,.int hi u,.int 1 v]}).objs.size,[(s.heap.push {cls:=.type "range",data:=.fields #[.int lo t,.int hi u,.int 1 v]}).objs.size],_,_,H,rfl,I1.kept (t':=tk) λb o e=>Hq _ e,Zgd _ lo (hi-lo).toNat,?_,λb hb=>?_,q⟩
 .have e1:lo+((0:Nat):Int)*1=lo:=by simp
  have e2:(((hi-lo).toNat:Nat):Int)-((0:Nat):Int)=eS.Range.rangeSize lo hi 1:=by rw[rangeSize_one];split<;>lia
  show lE _ _ (lo+((0:Nat):Int)*1) ((((hi-lo).toNat:Nat):Int)-((0:Nat):Int)) 1;rw[e1,e2];exact aL _ rfl
 .have e:b=(s.heap.push {cls:=.type "range",data:=.fields #[.int lo t,.int hi u,.int 1 v]}).objs.size:=by simpa using hb
  subst e;exact I1.fpOk (af _) (I1.hok.fresh (af _))
def ZrJ(ta:TA):TI:=λσ H R=>ta σ H λvs H1=>∃j:Int,vs=[.int j]/\ -(2^62)<=j/\j<2^62/\R (Itr 0 j.toNat) H1
def ZrK(ta:TA):TI:=λσ H R=>ta σ H λvs H1=>∃i j:Int,vs=[.int i,.int j]/\(-(2^62)<=i/\i<2^62/\ -(2^62)<=j/\j<2^62)/\R (Itr i (j-i).toNat) H1
theorem ZgO(hg:Gl X "range")(hm:X.mg "range"=none)(ha:PA X [a] ta)(hs:autoParam (av [a] X.env=[(false,eval a X.env)]) Qrf._auto_1):PI X tg (.Call (.Name "range" p) [a] [] pos) (ZrJ ta):=by
 intro pins s σ H R I h;refine Call_ (Zbg I hg hm boot_range (bW (thn (ha pos pins s σ H _ I h) λus s1 hz=>?_) hs rfl));obtain⟨vs,H1,I1,r1,q1⟩:=hz;obtain⟨j,e,q1,q2,q⟩:=q1;subst e;cases r1 with
 |cons r rr=>
  cases rr;obtain⟨t,rfl⟩:=r;exact call_range_1 (Zfj I1 ⋯ ⋯ q1 q2 (by simpa using q))
theorem Zdx(hg:Gl X "range")(hm:X.mg "range"=none)(ha:PA X [a,b] ta)(hs:autoParam (av [a,b] X.env=[(false,eval a X.env),(false,eval b X.env)]) Qrf._auto_1)(hs2:autoParam (av [b] X.env=[(false,eval b X.env)]) Qrf._auto_1) :
  PI X tg (.Call (.Name "range" p) [a,b] [] pos) (ZrK ta):=by
 intro pins s σ H R I h;refine Call_ (Zbg I hg hm boot_range (bW (thn (ha pos pins s σ H _ I h) λus s1 hz=>?_) (by rw[hs,hs2]) (by rw[hs2];rfl)))
 obtain⟨vs,H1,I1,r1,q1⟩:=hz;obtain⟨i,j,e,⟨q1,q2,q3,q4⟩,q⟩:=q1;subst e;cases r1 with
 |cons r rr=>
  cases rr with
  |cons r' rr=>
   cases rr;obtain⟨t,rfl⟩:=r;obtain⟨t',rfl⟩:=r';exact call_range_2 (Zfj I1 q1 q2 q3 q4 q)
def Zu7(wi:TI)(g:TG)(tb:TS):TS:=λD σ H=>wi σ H λJ H1=>∃W:Nat->Nat->St->Hp->Prop,(∃m,W 0 m σ H1)/\∀i m σ H,W i m σ H->
 (J.stop i H/\D.nx σ H)\/(J.go i H/\∃N:St->Hp->Prop,(∀σ' H',N σ' H'->∃m',m'<m/\W (i+1) m' σ' H')/\∀x H',J.yld i H x H'->g x σ H' λσ2 H2=>tb {D with nx:=N,ct:=N,bk:=D.nx} σ2 H2)
noncomputable def ZcI(fp:List Addr)(h:Heap):Pn:=fp.filterMap λb=>(h.get? b).map λo=>(b,o)
theorem Zba(hb:b∈fp)(e:h.get? b=some o):(b,o)∈ZcI fp h:=List.mem_filterMap.mpr ⟨b,hb,by rw[e];rfl⟩
theorem ZgP(hp:p∈ZcI fp h):p.1∈fp/\h.get? p.1=some p.2:=by
 obtain⟨b,hb,e⟩:=List.mem_filterMap.mp hp;cases q:h.get? b with
 |none=>rw[q]at e;cases e
 |some o=>
  rw[q]at e;have e':(b,o)=p:=aQ e;subst e';exact⟨hb,q⟩
theorem Inv.pinned(I:Inv X pins σ H s)(hf:∀b∈fp,Zep X pins H b)(ho:∀b∈fp,∃o,s.heap.get? b=some o/\∀v,o.data≠ .cell v):Inv X (pins++ZcI fp s.heap) σ H s:=
 I.pins_of λp hp=>(a7.mp hp).elim (λz=>I.pin p (aW _ z)) λz=>by
  obtain⟨hb,e⟩:=ZgP z;obtain⟨f0,f1,f2,_⟩:=hf p.1 hb;obtain⟨o,e',d⟩:=ho p.1 hb;rw[e]at e';cases e';exact⟨e,f0,f1,f2,d⟩
theorem Inv.unpinned(I:Inv X (pins++pl) σ H s):Inv X pins σ H s:=I.pins_of λp hp=>I.pin p (aW _ (gz _ hp))
theorem Zfk(hp:fZ (ao X.prog X.w) X.A X.env X.xe)(hi:PI X tg iter wi)(hg:PG X tg g)(hb:PSs X body tb)(hs:autoParam (∀x,foldedSetIterable iter X.env x=pure x) Qin._auto_1):PS X (.For tg iter body [] pos) (Zu7 wi g tb):=by
 intro pins s σ H D I h;refine wpAny_For (thn (hi pins s σ H _ I h) λv s1 h1=>thn h1 λitv s2 h2=>?_) hs;obtain⟨it,fp,tn,J,H2,e,I2,T,st2,f2,W,⟨m0,w0⟩,turn⟩:=h2;subst e;have stat:∀{H':Hp},(∀b∈fp,H' b=none)->∀b∈fp,Zep X pins H' b:=λhn b hb=>⟨hn b hb,(f2 b hb).2⟩;refine codeAny_forLoop_any (λn s'=>∃i σ' H',Inv X pins σ' H' s'/\tn i s'.heap/\(∀b∈fp,H' b=none)/\W i n σ' H') ?_ m0 ⟨0,σ,H2,I2,st2,λb hb=>(f2 b hb).1,w0⟩;rintro n s3 ⟨i,σ3,H3,I3,st3,fr3,w3⟩;rcases turn i n σ3 H3 w3 with⟨stop,qn⟩|⟨go,N,hN,step⟩
 .refine eW hp (thn (T.done X rfl rfl rfl rfl i pins s3 σ3 H3 X.xe I3 (stat fr3) st3 stop) λr s4 hz=>?_);obtain⟨hr,I4⟩:=hz;subst hr;exact i5 ⟨σ3,H3,I4,qn⟩
 .refine eW hp (thn (T.item X rfl rfl rfl rfl i pins s3 σ3 H3 X.xe I3 (stat fr3) st3 go) λr s4 hz=>?_);obtain⟨u,hr,h4⟩:=hz;subst hr;refine eW hp (thn h4 λ_ s5 hz=>?_);obtain⟨x,H5,I5,r5,y5,st5,fr5⟩:=hz;have I5':=I5.pinned (stat fr5) (T.obj _ _ st5);refine eW hp (thn (hg _ s5 σ3 H5 x u _ I5' r5 (step x H5 y5)) λ_ s6 hz=>?_);obtain⟨σ6,H6,I6,q6⟩:=hz;refine eW hp (thn (hb _ s6 σ6 H6 _ I6 q6) λf s7 q7=>?_);have again:∀{σ7:St}{H7:Hp},Inv X (pins++ZcI fp s5.heap) σ7 H7 s7->N σ7 H7->∃m,m<n/\∃i σ' H',Inv X pins σ' H' s7/\tn i s7.heap/\(∀b∈fp,H' b=none)/\W i m σ' H':=λ{σ7 H7} I7 n7=>by
   obtain⟨m',hm,w7⟩:=hN σ7 H7 n7;refine⟨m',hm,i+1,σ7,H7,I7.unpinned,T.keep _ _ _ st5 λb hb o e=>(I7.pin (b,o) (aW _ (aW _ (Zba hb e)))).1,λb hb=>?_,w7⟩;obtain⟨o,e,d⟩:=T.obj _ _ st5 b hb;exact(I7.pin (b,o) (aW _ (aW _ (Zba hb e)))).2.1
  cases f with
  |next=>obtain⟨σ7,H7,I7,n7⟩:=q7;exact again I7 n7
  |cont=>obtain⟨σ7,H7,I7,n7⟩:=q7;exact again I7 n7
  |brk=>obtain⟨σ7,H7,I7,q7⟩:=q7;exact⟨σ7,H7,I7.unpinned,q7⟩
  |ret v=>obtain⟨x7,σ7,H7,I7,r7,q7⟩:=q7;exact⟨x7,σ7,H7,I7.unpinned,r7,q7⟩
theorem Zjm{K:Fg}{g:TG}{tb:TS}{D:Ends}(Pv:Nat->St->Hp->Prop)(h0:Pv 0 σ H)(hl:∀i σ H,i<=xs.length->Pv i σ H->SqL K H a xs)(hs:∀i x σ H,xs[i]?=some x->Pv i σ H->g x σ H λσ2 H2=>tb {D with nx:=Pv (i+1),ct:=Pv (i+1),bk:=D.nx} σ2 H2)(hd:∀σ H,Pv xs.length σ H->D.nx σ H):∃W:Nat->Nat->St->Hp->Prop,(∃m,W 0 m σ H)/\∀i m σ H,W i m σ H->((Itl K a).stop i H/\D.nx σ H)\/((Itl K a).go i H/\∃N:St->Hp->Prop,(∀σ' H',N σ' H'->∃m',m'<m/\W (i+1) m' σ' H')/\∀x H',(Itl K a).yld i H x H'->g x σ H' λσ2 H2=>tb {D with nx:=N,ct:=N,bk:=D.nx} σ2 H2):=by
 refine⟨λi m σ H=>m=xs.length-i/\i<=xs.length/\Pv i σ H,⟨xs.length,by simp,cI _,h0⟩,?_⟩
 rintro i m σ H ⟨rfl,hi,p⟩;have q:=hl i σ H hi p;by_cases hlt:i<xs.length
 .refine .inr ⟨⟨xs,xs[i],q,by simp[hlt]⟩,Pv (i+1),λσ' H' p'=>⟨xs.length-(i+1),⋯,rfl,hlt,p'⟩,λx H' y=>?_⟩
  obtain⟨e,y⟩:=y;subst e;exact hs i x σ _ (y xs q) p
 .have e:i=xs.length:=⋯
  subst e;exact .inl ⟨⟨xs,q,af _⟩,hd σ H p⟩
theorem ZlQ{K:Fg}{g:TG}{tb:TS}{D:Ends}(Pv:Nat->St->Hp->Prop)(h0:Pv 0 σ H)(hl:∀i σ H,i<=xs.length->Pv i σ H->SqT K H a xs)(hs:∀i x σ H,xs[i]?=some x->Pv i σ H->g x σ H λσ2 H2=>tb {D with nx:=Pv (i+1),ct:=Pv (i+1),bk:=D.nx} σ2 H2)(hd:∀σ H,Pv xs.length σ H->D.nx σ H):∃W:Nat->Nat->St->Hp->Prop,(∃m,W 0 m σ H)/\∀i m σ H,W i m σ H->((Itt K a).stop i H/\D.nx σ H)\/((Itt K a).go i H/\∃N:St->Hp->Prop,(∀σ' H',N σ' H'->∃m',m'<m/\W (i+1) m' σ' H')/\∀x H',(Itt K a).yld i H x H'->g x σ H' λσ2 H2=>tb {D with nx:=N,ct:=N,bk:=D.nx} σ2 H2):=by
 refine⟨λi m σ H=>m=xs.length-i/\i<=xs.length/\Pv i σ H,⟨xs.length,by simp,cI _,h0⟩,?_⟩
 rintro i m σ H ⟨rfl,hi,p⟩;have q:=hl i σ H hi p;by_cases hlt:i<xs.length
 .refine .inr ⟨⟨xs,xs[i],q,by simp[hlt]⟩,Pv (i+1),λσ' H' p'=>⟨xs.length-(i+1),⋯,rfl,hlt,p'⟩,λx H' y=>?_⟩
  obtain⟨e,y⟩:=y;subst e;exact hs i x σ _ (y xs q) p
 .have e:i=xs.length:=⋯
  subst e;exact .inl ⟨⟨xs,q,af _⟩,hd σ H p⟩
theorem ZgQ{lo:Int}{g:TG}{tb:TS}{D:Ends}(Pv:Nat->St->Hp->Prop)(h0:Pv 0 σ H)(hs:∀i σ H,i<n->Pv i σ H->g (.int (lo+i)) σ H λσ2 H2=>tb {D with nx:=Pv (i+1),ct:=Pv (i+1),bk:=D.nx} σ2 H2)(hd:∀σ H,Pv n σ H->D.nx σ H):∃W:Nat->Nat->St->Hp->Prop,(∃m,W 0 m σ H)/\∀i m σ H,W i m σ H->((Itr lo n).stop i H/\D.nx σ H)\/((Itr lo n).go i H/\∃N:St->Hp->Prop,(∀σ' H',N σ' H'->∃m',m'<m/\W (i+1) m' σ' H')/\∀x H',(Itr lo n).yld i H x H'->g x σ H' λσ2 H2=>tb {D with nx:=N,ct:=N,bk:=D.nx} σ2 H2):=by
 refine⟨λi m σ H=>m=n-i/\i<=n/\Pv i σ H,⟨n,by simp,cI _,h0⟩,?_⟩
 rintro i m σ H ⟨rfl,hi,p⟩;by_cases hlt:i<n
 .refine .inr ⟨hlt,Pv (i+1),λσ' H' p'=>⟨n-(i+1),⋯,rfl,hlt,p'⟩,λx H' y=>?_⟩
  obtain⟨e,y⟩:=y;subst e y;exact hs i σ _ hlt p
 .have e:i=n:=⋯
  subst e;exact .inl ⟨af _,hd σ H p⟩
abbrev R2:=V->V->Hp->VK->Prop
def OpR(X:Cx)(f:aa->aa->Sem aa)(r:R2):Prop:=
 ∀(pins:Pn)(s:aB)(σ:St)(H:Hp)(x y:V)(v u:aa)(Q:VK),Inv X pins σ H s->ZS x v->ZS y u->r x y H Q->
  wpAny (ao X.prog X.w) X.A (f v u) (EP X pins σ Q) X.xe s
def UnR(X:Cx)(f:aa->Sem aa)(r:V->Hp->VK->Prop):Prop:=
 ∀(pins:Pn)(s:aB)(σ:St)(H:Hp)(x:V)(v:aa)(Q:VK),Inv X pins σ H s->ZS x v->r x H Q->
  wpAny (ao X.prog X.w) X.A (f v) (EP X pins σ Q) X.xe s
def Zbk(X:Cx)(f:aa)(r:List V->Hp->VK->Prop):Prop:=
 ∀(pins:Pn)(s:aB)(σ:St)(H:Hp)(xs:List V)(us:List aa)(Q:VK),Inv X pins σ H s->ZQ xs us->r xs H Q->
  wpAny (ao X.prog X.w) X.A (call f us) (EP X pins σ Q) X.xe s
noncomputable def tOp(r:R2)(ta tb:TE):TE:=λσ H Q=>ta σ H λx H1=>tb σ H1 λy H2=>r x y H2 Q
noncomputable def tUn(r:V->Hp->VK->Prop)(ta:TE):TE:=λσ H Q=>ta σ H λx H1=>r x H1 Q
noncomputable def rI(C:Int->Int->Prop)(g:Int->Int->V):R2:=λx y H Q=>∃i j,x=.int i/\y=.int j/\C i j/\Q (g i j) H
noncomputable def rI0(g:Int->Int->V):R2:=λx y H Q=>∃i j,x=.int i/\y=.int j/\Q (g i j) H
noncomputable def rU(g:Int->V):V->Hp->VK->Prop:=λx H Q=>∃i,x=.int i/\Q (g i) H
theorem ZrL(ha:PE X a ta)(hb:PE X b tb){R:V->V->Hp->Prop}(I:Inv X pins σ H s)(h:ta σ H λx H1=>tb σ H1 λy H2=>R x y H2){f:aa->aa->Sem aa}(hf:∀v u s2 x y H2,Inv X pins σ H2 s2->ZS x v->ZS y u->R x y H2->wpAny (ao X.prog X.w) X.A (f v u) Q X.xe s2):wpAny (ao X.prog X.w) X.A (eval a X.env) (λv s₁=>wpAny (ao X.prog X.w) X.A (eval b X.env) (λu s₂=>wpAny (ao X.prog X.w) X.A (f v u) Q X.xe s₂) X.xe s₁) X.xe s:=by
 refine thn (ha pins s σ H _ I h) λv s1 hz=>?_;obtain⟨x,H1,I1,r1,q1⟩:=hz;refine thn (hb pins s1 σ H1 _ I1 q1) λu s2 hz=>?_;obtain⟨y,H2,I2,r2,q2⟩:=hz;exact hf v u s2 x y H2 I2 r1 r2 q2
theorem ZrM(ho:OpR X (fU op) r)(ha:PE X a ta)(hb:PE X b tb):PE X (.BinOp a op b pos) (tOp r ta tb):=by
 intro pins s σ H Q I h;exact wpAny_BinOp (ZrL ha hb I h λv u s2 x y H2 I2 rx ry q=>ho pins s2 σ H2 x y v u Q I2 rx ry q)
theorem ZrN(ho:UnR X (unaryOp op) r)(ha:PE X a ta):PE X (.UnaryOp op a pos) (tUn r ta):=by
 intro pins s σ H Q I h;exact UnaryOp_ (thn (ha pins s σ H _ I h) λv s1 ⟨x,H1,I1,r1,q1⟩=>ho pins s1 σ H1 x v Q I1 r1 q1)
theorem opI{g:Int->Int->Int}(rule:∀(i j:Int)(t u:Tok)(s:aB)(Q:Vp)(E:Vp),C i j->Q (.int (g i j) s.toks) {s with toks:=s.toks+1}->wpAny (ao X.prog X.w) X.A (f (.int i t) (.int j u)) Q E s):OpR X f (rI C λi j=>.int (g i j)):=by
 intro pins s σ H x y v u Q I rx ry h;obtain⟨i,j,rfl,rfl,hc,q⟩:=h;obtain⟨t,rfl⟩:=rx;obtain⟨t',rfl⟩:=ry;exact rule i j t t' s _ _ hc ⟨.int (g i j),H,I.tok _,⟨_,rfl⟩,q⟩
theorem Zt0{g:Int->Int->Int}(rule:∀(i j:Int)(t u:Tok)(s:aB)(Q:Vp)(E:Vp),Q (.int (g i j) s.toks) {s with toks:=s.toks+1}->wpAny (ao X.prog X.w) X.A (f (.int i t) (.int j u)) Q E s):OpR X f (rI0 λi j=>.int (g i j)):=by
 intro pins s σ H x y v u Q I rx ry h;obtain⟨i,j,rfl,rfl,q⟩:=h;obtain⟨t,rfl⟩:=rx;obtain⟨t',rfl⟩:=ry;exact rule i j t t' s _ _ ⟨.int (g i j),H,I.tok _,⟨_,rfl⟩,q⟩
theorem Zrq{g:Int->Int->Bool}(rule:∀(i j:Int)(t u:Tok)(s:aB)(Q:Vp)(E:Vp),Q (.bool (g i j)) s->wpAny (ao X.prog X.w) X.A (f (.int i t) (.int j u)) Q E s):OpR X f (rI0 λi j=>.bl (g i j)):=by
 intro pins s σ H x y v u Q I rx ry h;obtain⟨i,j,rfl,rfl,q⟩:=h;obtain⟨t,rfl⟩:=rx;obtain⟨t',rfl⟩:=ry;exact rule i j t t' s _ _ ⟨.bl (g i j),H,I,rfl,q⟩
noncomputable def Zt1(i j:Int):Prop:=0<=j/\j<=1000000/\i.natAbs<2^64
theorem Zof:OpR X (fU .Add) (rI0 λi j=>.int (i+j)):=Zt0 λ_ _ _ _ _ _ _ q=>add_int q
theorem Zog:OpR X (fU .Sub) (rI0 λi j=>.int (i-j)):=Zt0 λ_ _ _ _ _ _ _ q=>sub_int q
theorem ZlR:OpR X (fU .Mod) (rI (λ_ j=>j≠0) λi j=>.int (i.fmod j)):=opI λ_ _ _ _ _ _ _ hc q=>mod_int' hc q
theorem Zoh:OpR X (fU .Pow) (rI Zt1 λi j=>.int (i^j.toNat)):=opI λ_ _ _ _ _ _ _ hc q=>pow_int_small hc.1 hc.2.1 hc.2.2 q
theorem unI{g:Int->Int}(rule:∀(i:Int)(t:Tok)(s:aB)(Q:Vp)(E:Vp),Q (.int (g i) s.toks) {s with toks:=s.toks+1}->wpAny (ao X.prog X.w) X.A (f (.int i t)) Q E s):UnR X f (rU λi=>.int (g i)):=by
 intro pins s σ H x v Q I rx h;obtain⟨i,rfl,q⟩:=h;obtain⟨t,rfl⟩:=rx;exact rule i t s _ _ ⟨.int (g i),H,I.tok _,⟨_,rfl⟩,q⟩
theorem Zoi:UnR X (unaryOp .USub) (rU λi=>.int (-i)):=unI λ_ _ _ _ _ q=>neg_int q
theorem Zcb:OpR X (eI .Lt) (rI0 λi j=>.bl (decide (i<j))):=Zrq λ_ _ _ _ _ _ _ q=>lt_int q
theorem ZrO:OpR X (eI .LtE) (rI0 λi j=>.bl (decide (i<=j))):=Zrq λ_ _ _ _ _ _ _ q=>le_int q
theorem Zdy:OpR X (eI .Gt) (rI0 λi j=>.bl (decide (j<i))):=Zrq λ_ _ _ _ _ _ _ q=>gt_int q
theorem Zoj:OpR X (eI .GtE) (rI0 λi j=>.bl (decide (j<=i))):=Zrq λ_ _ _ _ _ _ _ q=>ge_int q
theorem OpR.or(h:OpR X f r)(h':OpR X f r'):OpR X f (λx y H Q=>r x y H Q\/r' x y H Q):=by
 intro pins s σ H x y v u Q I rx ry q;rcases q with q|q
 .exact h pins s σ H x y v u Q I rx ry q
 .exact h' pins s σ H x y v u Q I rx ry q
theorem ZkF(b:Expr)(h:autoParam (op≠ .In) Qde._auto_1)(h2:autoParam (op≠ .NotIn) Qde._auto_1):gW op b=false:=by
 have e1:(op==CmpOp.In)=false:=by cases op<;>first|rfl|exact absurd rfl h
 have e2:(op==CmpOp.NotIn)=false:=by cases op<;>first|rfl|exact absurd rfl h2
 cases b<;>simp[gW,e1,e2]
theorem ZlS(ho:OpR X (eI op) r)(ha:PE X a ta)(hb:PE X b tb)(hm:gW op b=false):PE X (.Compare a [op] [b] pos) (tOp r ta tb):=by
 intro pins s σ H Q I h;exact wpAny_Compare1 (ZrL ha hb I h λv u s2 x y H2 I2 rx ry q=>ho pins s2 σ H2 x y v u Q I2 rx ry q) hm
noncomputable def Zok(t:TE):TT:=λσ H Q=>t σ H λx H'=>∃k,x=.bl k/\Q k H'
theorem ZlT(ho:OpR X (eI op) r)(ha:PE X a ta)(hb:PE X b tb)(hm:gW op b=false):PT X (.Compare a [op] [b] pos) (Zok (tOp r ta tb)):=by
 intro pins s σ H Q I h;refine wpAny_isTrue_Compare1 (thn (ha pins s σ H _ I h) λv s1 ⟨x,H1,I1,r1,q1⟩=>thn (hb pins s1 σ H1 _ I1 q1) λu s2 ⟨y,H2,I2,r2,q2⟩=>thn (ho pins s2 σ H2 x y v u _ I2 r1 r2 q2) λc s3 ⟨z,H3,I3,r3,k,e,q3⟩=>?_) hm
 subst e;cases r3;exact dR ⟨H3,I3,q3⟩
theorem Zfl:(sizeLine:Nat)<2^63:=by rw[dL];decide
theorem Zge:OpR X (fU .Add) (λx y H Q=>∃i j,x=.str i/\y=.str j/\i.length+j.length<=sizeLine/\Q (.str (i++j)) H):=by
 intro pins s σ H x y v u Q I rx ry h;obtain⟨i,j,rfl,rfl,hz,q⟩:=h;obtain⟨t,rfl⟩:=rx;obtain⟨t',rfl⟩:=ry;exact add_str (λt' tk=>⟨.str (i++j),H,I.tok _,⟨_,rfl⟩,q⟩) hz
theorem ZbW(r:ZQ [x] us):∃u,us=[u]/\ZS x u:=by
 cases r with
 |cons r1 r2=>cases r2;exact⟨_,rfl,r1⟩
theorem Zjn(r:ZQ [x,y] us):∃u w',us=[u,w']/\ZS x u/\ZS y w':=by
 cases r with
 |cons r1 r2=>
  cases r2 with
  |cons r3 r4=>cases r4;exact⟨_,_,rfl,r1,r3⟩
theorem Zbq:Zbk X (.builtin "abs") (λxs H Q=>∃i,xs=[.int i]/\Q (.int (if i<0 then -i else i)) H):=by
 intro pins s σ H xs us Q I r h;obtain⟨i,rfl,q⟩:=h;obtain⟨u,rfl,t,rfl⟩:=ZbW r;exact call_abs_int λu tk=>⟨.int (if i<0 then -i else i),H,I.tok _,⟨_,rfl⟩,q⟩
theorem Zdz(hc:X.calm=true):Zbk X (.builtin "max") (λxs H Q=>∃i j,xs=[.int i,.int j]/\Q (.int (if j>i then j else i)) H):=by
 intro pins s σ H xs us Q I r h;obtain⟨i,j,rfl,q⟩:=h;obtain⟨u,w',rfl,⟨t,rfl⟩,⟨t',rfl⟩⟩:=Zjn r;refine max_two_ints (I.ok.hd hc) λh' tk k=>⟨_,H,I.kept k,?_,q⟩;by_cases hj:j>i
 .rw[if_pos hj,if_pos hj];exact⟨_,rfl⟩
 .rw[if_neg hj,if_neg hj];exact⟨_,rfl⟩
theorem ZgR(hc:X.calm=true):Zbk X (.builtin "min") (λxs H Q=>∃i j,xs=[.int i,.int j]/\Q (.int (if j<i then j else i)) H):=by
 intro pins s σ H xs us Q I r h;obtain⟨i,j,rfl,q⟩:=h;obtain⟨u,w',rfl,⟨t,rfl⟩,⟨t',rfl⟩⟩:=Zjn r;refine min_two_ints (I.ok.hd hc) λh' tk k=>⟨_,H,I.kept k,?_,q⟩;by_cases hj:j<i
 .rw[if_pos hj,if_pos hj];exact⟨_,rfl⟩
 .rw[if_neg hj,if_neg hj];exact⟨_,rfl⟩
theorem Zbr:Zbk X (.type "int") (λxs H Q=>(∃i,xs=[.int i]/\Q (.int i) H)\/∃k,xs=[.bl k]/\Q (.int (if k then 1 else 0)) H):=by
 intro pins s σ H xs us Q I r h;rcases h with⟨i,rfl,q⟩|⟨k,rfl,q⟩
 .obtain⟨u,rfl,t,rfl⟩:=ZbW r;exact call_int_int ⟨.int i,H,I,⟨_,rfl⟩,q⟩
 .obtain⟨u,rfl,r1⟩:=ZbW r;cases r1;exact call_int_bool ⟨.int (if k then 1 else 0),H,I.tok _,⟨_,rfl⟩,q⟩
structure Room(k:Nat) (A:dg):Prop where
 hd:100<=k->A.handled=none
 gd:A.guards=some []
 dp:A.depth+3*k+5<jv
 un:A.units+16*k+200<jo
theorem Room.mono(r:Room k A)(h:j<=k):Room j A:=⟨λz=>r.hd (aM z h),r.gd,by have:=r.dp;lia,by have:=r.un;lia⟩
theorem Room.deeper(r:Room (k+1) A)(env:Env):Room k (A.deeper env):=
 ⟨λz=>r.hd (Nat.le_succ_of_le z),r.gd,by have:=r.dp;show A.depth+1+3*k+5<_;lia,by have:=r.un;show A.units+3+16*k+200<_;lia⟩
theorem Room.in1(r:Room (k+1) A):Room k A.in1:=
 ⟨λz=>r.hd (Nat.le_succ_of_le z),r.gd,by have:=r.dp;show A.depth+3*k+5<_;lia,by have:=r.un;show A.units+1+16*k+200<_;lia⟩
theorem Room.depth(r:Room k A):A.depth<jv:=by have:=r.dp;lia
theorem Room.units(r:Room k A):A.units+64<jo:=by have:=r.un;lia
noncomputable def tNil:TA:=λ_ H Q=>Q [] H
noncomputable def ZrP(ta:TE)(tr:TA):TA:=λσ H Q=>ta σ H λx H1=>tr σ H1 λxs H2=>Q (x::xs) H2
theorem ZkG:PA X [] tNil:=λ_ _ _ _ H Q I h=>Calls.spliced_nil ⟨[],H,I,.nil,h⟩
theorem Zeu(ha:PE X e te)(hr:PA X es t)(hs:autoParam (av (e::es) X.env=(false,eval e X.env)::av es X.env) Qrf._auto_1):PA X (e::es) (ZrP te t):=by
 intro pos pins s σ H Q I h;rw[hs];show wpAny _ _ (spliced ((false,eval e X.env)::cT pos (av es X.env))) _ _ s;refine Calls.spliced_cons (thn (ha pins s σ H _ I h) λu s1 hz=>?_);obtain⟨x,H1,I1,r1,q1⟩:=hz;exact thn (hr pos pins s1 σ H1 _ I1 q1) λus s2 ⟨xs,H2,I2,r2,q2⟩=>⟨x::xs,H2,I2,.cons r1 r2,q2⟩
def Zu8(t:TA):TE:=λσ H Q=>t σ H λxs H1=>xs.length<=sizeLine/\∀p,H1 p=none->Q (.ref p) (upd H1 p (.tup xs))
def Zu9(t:TA):TE:=λσ H Q=>t σ H λxs H1=>xs.length<=sizeLine/\∀p,H1 p=none->Q (.ref p) (upd H1 p (.lst xs))
theorem Zol{x1}(h:PA X es t):PE X (.Tuple es x1 pos) (Zu8 t):=by
 intro pins s σ H Q I hq;refine wpAny_Tuple_spliced (thn (h pos pins s σ H _ I hq) λus s1 ⟨xs,H1,I1,r,z,q⟩=>⟨by rw[<-r.length];exact z,?_⟩)
 have hf:H1 s1.heap.objs.size=none:=I1.hok.fresh (af _);refine⟨.ref s1.heap.objs.size,upd H1 s1.heap.objs.size (.tup xs),I1.laid (t':=s1.toks) (λb u e=>Hq _ e) (af _) ?_,rfl,q _ hf⟩;exact⟨z,us,r,⟨_,aL _ rfl,rfl,_,rfl⟩⟩
theorem Zom(h:PA X es t):PE X (.List es pos) (Zu9 t):=by
 intro pins s σ H Q I hq;refine wpAny_List_spliced (thn (h pos pins s σ H _ I hq) λus s1 ⟨xs,H1,I1,r,z,q⟩=>⟨by rw[<-r.length];exact z,?_⟩)
 have hf:H1 s1.heap.objs.size=none:=I1.hok.fresh (af _);refine⟨.ref s1.heap.objs.size,upd H1 s1.heap.objs.size (.lst xs),I1.laid (t':=s1.toks) (λb u e=>Hq _ e) (af _) ?_,rfl,q _ hf⟩;exact⟨z,us,0,r,aL _ rfl⟩
abbrev Sp:=List V->Hp->VK->XK->Prop
abbrev CXT:=List Env->Hp->aB->XK->aa->aB->Prop
structure Env0(P:cD) (w:da) (K:Fg) (mg:Str->Option aa) (base:Heap) (A:dg) (outer:List Env) (s:aB) (H:Hp):Prop where
 frames:A.frames=some outer
 mod:Mod K mg base
 bs:∀b o,base.get? b=some o->s.heap.get? b=some o/\H b=none
 bsz:base.objs.size<=s.heap.objs.size
 funs:s.heap.FunFrames base outer
 frf:∀b∈frs outer,H b=none
 hok:HOk P w H s.heap
 bare:iL s.gens
 qd:Qd A H
 tb:Tbs K H
def CE(outer:List Env)(P:cD)(w:da)(H:Hp)(s:aB)(Q:VK)(u:aa)(s':aB):Prop:=
 ∃v H',s'.os=s.os/\iL s'.gens/\Un (frs outer) [] H H' s.heap s'.heap/\HOk P w H' s'.heap/\ZS v u/\Q v H'
def CR(CX:CXT)(outer:List Env)(P:cD)(w:da)(H:Hp)(s:aB)(Q:VK)(E:XK)(r:Result)(s':aB):Prop:=
 match r with
 |.ok (.ret u)=>CE outer P w H s Q u s'
 |.ok _=>False
 |.error e=>CX outer H s E e s'
structure FnOk(P:cD) (w:da) (K:Fg) (mg:Str->Option aa) (base:Heap) (CX:CXT) (k:Nat) (f:Addr) (fd:iT) (ps:List Str) (sp:Sp):Prop where
 len:∀vs H Q E,sp vs H Q E->vs.length=ps.length
 run:∀(A:dg)(outer:List Env)(s:aB)(H:Hp)(args:Args)(us:List aa)(vs:List V)(Q:VK)(E:XK),Room k A->Env0 P w K mg base A outer s H->lX s fd args (ps.zip us)->ZQ vs us->sp vs H Q E->
  fN (ao P w) A (.call (.ref f) args) (CR CX outer P w H s Q E) s
theorem Inv.env0(I:Inv X pins σ H s):Env0 X.prog X.w X.K X.mg X.base X.A X.stack s H:=
 ⟨I.ok.frames,I.ok.mod,I.bs,aM I.ok.bsz I.sz,I.stack,I.stkFree,I.hok,I.bare,I.qd,I.ok.tb.un I.base⟩
theorem Inv.after(I:Inv X pins σ H s)(h:CE X.stack X.prog X.w H s Q u s'):EP X pins σ Q u s':=by
 obtain⟨v,H',os,bare,un,hok,r,q⟩:=h;obtain⟨hh,g,d,t,os'⟩:=s';obtain rfl:os'=s.os:=os;exact⟨v,H',I.call (h':=hh) (g':=g) (d':=d) (t':=t) (ch:=[]) un hok bare (λb z=>absurd z (by simp)),r,q⟩
noncomputable def ZrQ(sp:Sp)(dvs:List V)(E:XK)(t:TA):TE:=λσ H Q=>t σ H λvs H1=>sp (vs++dvs) H1 Q E
noncomputable def Zev(K:Fg)(fd:iT)(ps:List Str)(ds:List aa):Prop:=
 ∀(s:aB)(us:List aa),K.In s.heap->(us++ds).length=ps.length->lX s fd ⟨us,[]⟩ (ps.zip (us++ds))
theorem Zev.all{K:Fg}(h:∀us:List aa,us.length=ps.length->iU fd ⟨us,[]⟩=pure (ps.zip us)):Zev K fd ps []:=λs us _ hl=>by
 rw[cx]at hl ⊢;exact .of_eq (h us hl)
def ZgS(CX:CXT)(X:Cx)(E:XK):Prop:=∀(pins:Pn)(σ:St)(H:Hp)(s:aB)(e:aa)(s':aB),Inv X pins σ H s->CX X.stack H s E e s'->X.xe e s'
theorem Zon(F:FnOk X.prog X.w X.K X.mg X.base CX k f fd ps sp)(hr:Room k X.A)(hb:Zev X.K fd ps ds)(hd:ZQ dvs ds)(hx:ZgS CX X E)(I:Inv X pins σ H s)(r:ZQ vs us)(h:sp (vs++dvs) H Q E):wpAny (ao X.prog X.w) X.A (call (.ref f) us) (EP X pins σ Q) X.xe s:=by
 have r2:ZQ (vs++dvs) (us++ds):=r.append hd;have hl:(us++ds).length=ps.length:=by rw[<-r2.length];exact F.len _ _ _ _ h
 refine wpAny_call (mM (F.run X.A X.stack s H ⟨us,[]⟩ (us++ds) (vs++dvs) Q E hr I.env0 (hb s us I.kIn hl) r2 h) λr s' hq=>?_);cases r with
 |error e=>exact hx pins σ H s e s' I hq
 |ok fl=>
  cases fl with
  |ret u=>exact I.after hq
  |next=>exact gA hq
  |brk=>exact gA hq
  |cont=>exact gA hq
theorem ZlU(F:FnOk X.prog X.w X.K X.mg X.base CX k f fd ps sp)(hr:Room k X.A)(hg:Gl X x)(hm:X.mg x=some (.ref f))(hk:PySem.W.keepIn X.K (.ref f)=true)(hb:Zev X.K fd ps ds)(hd:ZQ dvs ds)(hx:ZgS CX X E)(ha:PA X (e::es) t)(hdb:autoParam ((x==("__debug__":Str))=false) Qde._auto_1)(he:autoParam (av (e::es) X.env=(false,eval e X.env)::av es X.env) Qrf._auto_1)(hpl:autoParam ((cT pos (av es X.env)).any (·.1)=false) Qrf._auto_1):
  PE X (.Call (.Name x p) (e::es) [] pos) (ZrQ sp dvs E t):=by
 intro pins s σ H Q I h;refine wpAny_Call_Name_kw (ZgM I hg hm ?_ hdb);refine PySem.W.callWith_K (h₀:=X.base) I.ok.mod.kin hk (thn (ha pos pins s σ H _ I h) λus s1 ⟨vs,H1,I1,r,q⟩=>⟨I1.kIn,?_⟩) he hpl;exact Zon F hr hb hd hx I1 r q
structure FnScope(N P:List Str) (sc:js):Prop where
 kind:sc.kind=.function
 co:sc.isCoroutine=false
 gen:sc.isGenerator=false
 nd:N.Nodup
 pre:N.take P.length=P
 par:∀x∈P,sc.names.lookup x=some .local\/sc.names.lookup x=some .cell
 nofree:∀y∈sc.names,y.2≠ .free
theorem ZdA{kindOf:Str->Option cW}{x:Str}:∀{binds:List (Str×aa)} {m:Str->Option aa},(∀v,(x,v)∉binds)->bindL kindOf binds m x=m x
 |[],_,_=>rfl
 | (n,v)::r,m,h=>by
  unfold bindL;rw[ZdA λw hw=>h w (aI _ hw)];split
  .have:x≠n:=by rintro rfl;exact h v bQ
   simp[this]
  .rfl
theorem ZdB{kindOf:Str->Option cW}{x:Str}:∀{binds:List (Str×aa)} {m:Str->Option aa},(∀v,(x,v)∉binds)->bindC kindOf binds m x=m x
 |[],_,_=>rfl
 | (n,v)::r,m,h=>by
  unfold bindC;rw[ZdB λw hw=>h w (aI _ hw)];split
  .rfl
  .have:x≠n:=by rintro rfl;exact h v bQ
   simp[this]
theorem ZdC{kindOf:Str->Option cW}{x:Str}{v:aa}:∀{P:List Str}{vs:List aa}{i:Nat}{m:Str->Option aa},P.Nodup->P[i]?=some x->vs[i]?=some v->kindOf x=some .local->bindL kindOf (P.zip vs) m x=some v
 |[],_,_,_,_,h,_,_=>by simp at h
 |_::_,[],_,_,_,_,h,_=>by simp at h
 |p::P,w::vs,0,m,nd,h1,h2,hk=>by
  simp at h1 h2;subst h1;subst h2;show bindL kindOf ((p,w)::P.zip vs) m p=_;unfold bindL;rw[ZdA λv hv=>(eY.mp nd).1 (hG hv).1,if_pos hk];simp
 |p::P,w::vs,i+1,m,nd,h1,h2,hk=>by
  show bindL kindOf ((p,w)::P.zip vs) m x=_;unfold bindL;exact ZdC (i:=i) (eY.mp nd).2 (by simpa using h1) (by simpa using h2) hk
theorem ZdD{kindOf:Str->Option cW}{x:Str}{v:aa}:∀{P:List Str}{vs:List aa}{i:Nat}{m:Str->Option aa},P.Nodup->P[i]?=some x->vs[i]?=some v->kindOf x≠some .local->bindC kindOf (P.zip vs) m x=some v
 |[],_,_,_,_,h,_,_=>by simp at h
 |_::_,[],_,_,_,_,h,_=>by simp at h
 |p::P,w::vs,0,m,nd,h1,h2,hk=>by
  simp at h1 h2;subst h1;subst h2;show bindC kindOf ((p,w)::P.zip vs) m p=_;unfold bindC;rw[ZdB λv hv=>(eY.mp nd).1 (hG hv).1,if_neg hk];simp
 |p::P,w::vs,i+1,m,nd,h1,h2,hk=>by
  show bindC kindOf ((p,w)::P.zip vs) m x=_;unfold bindC;exact ZdD (i:=i) (eY.mp nd).2 (by simpa using h1) (by simpa using h2) hk
noncomputable def start(N:List Str)(vs:List V):St:=vs.map some++bf (N.length-vs.length) none
noncomputable def Zfm(CX:CXT)(P:cD)(w:da)(K:Fg)(mg:Str->Option aa)(base:Heap)(N:List Str)(qual:Str)(scope:js)(f:Addr)(cd:aa)(A:dg)(outer:List Env)(s:aB)(H:Hp)(E:XK):Cx where
 prog:=P
 w:=w
 K:=K
 mg:=mg
 base:=base
 A:=A.deeper (jw qual scope s.heap.objs.size f cd)
 N:=N
 s₀:=s
 H₀:=H
 env:=jw qual scope s.heap.objs.size f cd
 outer:=outer
 stack:=jw qual scope s.heap.objs.size f cd::outer
 ex:=[]
 calm:=A.handled.isNone
 fxs:=none
 fn:=λ_=>true
 pn:=[]
 xe:=λe s'=>wpAny (ao P w) (A.deeper (jw qual scope s.heap.objs.size f cd)) (nI (jw qual scope s.heap.objs.size f cd) e) (λ_ s''=>CX outer H s E e s'') (λe' s''=>CX outer H s E e' s'') s'
theorem Zfn{sc:js}(h:sc.names.lookup x=some .cell):∃c,(bT n sc.names []).lookup x=some c:=by
 have q:=PySem.W.cellsFrom_some sc.names n [] (.inl h);exact fA.mp q
theorem ZgT{K:Fg}(S:FnScope N ps scope)(e0:Env0 P w K mg base A outer s H)(hl:vs.length=ps.length)(r:ZQ vs us)(x:InCallC s s.heap.objs.size (bindL (jw qual scope s.heap.objs.size f cd).kindOf (ps.zip us) λ_=>none) (bT (s.heap.objs.size+1) scope.names []) (bindC (jw qual scope s.heap.objs.size f cd).kindOf (ps.zip us) λ_=>none) s1):Inv (Zfm CX P w K mg base N qual scope f cd A outer s H E) [] (start N vs) H s1:=by
 have hpl:ps.length<=N.length:=by have:=congrArg nv S.pre;rw[bI]at this;lia
 obtain⟨h1,tk,rfl,hk⟩:=x.done;have noA:∀b:Addr,b∉(Zfm CX P w K mg base N qual scope f cd A outer s H E).ex:=λb z=>absurd (show b∈([]:List Addr)from z) (by simp)
 refine⟨⟨e0.mod,S.kind,rfl,rfl,af _,λy z c h1 h2=>?_,λy hy=>?_,λy c _ h=>?_,λz=>gP.mp z,lG e0.frames,.inr ⟨rfl,rfl⟩,λb z=>absurd z (noA b),e0.bs,e0.bsz,λb _ _=>noA b,λb z=>absurd z (noA b),e0.funs,e0.frf,e0.tb⟩,rfl,e0.bare,Un.kept hk,⟨_,x.toInCall.ns,λi y v h1 h2 h3=>?_⟩,λy c h=>⟨_,x.cell y c h⟩,e0.hok.fresh (af _),λy c h=>?_,λp hp=>absurd (show p∈([]:Pn)from hp) (by simp),e0.hok.kept hk,?_,e0.qd,.free rfl⟩
 .exact name_of_addr x.apart (PySem.mem_of_lookup h1) (PySem.mem_of_lookup h2)
 .have hy:scope.names.lookup y=some .cell\/scope.names.lookup y=some .free:=hy;rcases hy with hy|hy
  .exact Zfn hy
  .exact absurd rfl (S.nofree _ (PySem.mem_of_lookup hy))
 .exact ff (x.above y c (PySem.mem_of_lookup h))
 .have hi:i<vs.length:=by
   unfold start at h2;by_cases hi:i<vs.length
   .exact hi
   .rw[aK (by simpa using hi)]at h2
    rw[List.getElem?_replicate]at h2
    split at h2<;>cases h2
  have ha:vs[i]?=some v:=by
   unfold start at h2;rw[aC (by simpa using hi),bv]at h2
   cases e:vs[i]? with
   |none=>rw[e]at h2;cases h2
   |some a=>rw[e]at h2;cases h2;rfl
  obtain⟨u,hu,rv⟩:=r.get ha;have hp:ps[i]?=some y:=by
   rw[<-S.pre,dI ⋯];exact h1
  have ndP:ps.Nodup:=by rw[<-S.pre];exact S.nd.sublist (List.take_sublist _ _)
  refine⟨u,rv,?_⟩;rcases S.par y (fg hp)with k|k
  .exact .inl ⟨k,ZdC ndP hp hu k⟩
  .obtain⟨c,e⟩:=Zfn (n:=s.heap.objs.size+1) k;refine .inr ⟨.inl k,c,e,?_⟩;have q:=x.cell y c e;rw[ZdD ndP hp hu (by show scope.names.lookup y≠_;rw[k];decide)]at q
   exact q
 .exact e0.hok.fresh (ff (x.above y c (PySem.mem_of_lookup h)))
 .unfold start;show _=N.length;rw[aY,au,bR];lia
theorem Zoo{K:Fg}{kV:aa}(lk:K.lookup f=some ⟨oc,od,.func (PySem.W.fnOf name qual params body scope dV kV doc pm an cdv ct),osl⟩)(hcd:PySem.W.codeIn K cdv qual=true)(S:FnScope N ps scope)(len:∀vs H Q E,sp vs H Q E->vs.length=ps.length)(hbody:∀(A:dg)(outer:List Env)(s:aB)(H:Hp)(vs:List V)(Q:VK)(E:XK),Room k (A.deeper (jw qual scope s.heap.objs.size f cdv))->sp vs H Q E->∃t,PSs (Zfm CX P w K mg base N qual scope f cdv A outer s H E) body t/\t {nx:=λ_ H'=>Q .non H',rt:=Q} (start N vs) H):FnOk P w K mg base CX (k+1) f (PySem.W.fnOf name qual params body scope dV kV doc pm an cdv ct) ps sp:=by
 refine⟨len,λA outer s H args us vs Q E hr e0 hb r hsp=>?_⟩;have hl:=len _ _ _ _ hsp;have KX:K.In s.heap:=e0.mod.kin.keeps λb o e=>(e0.bs b o e).1;have lim:s.heap.NoLimit:=e0.mod.nolimit.keeps λb o e=>(e0.bs b o e).1;have hkind:∀y∈ps.zip us,scope.names.lookup y.1=some .local\/(scope.names.lookup y.1=some .cell/\((bT (s.heap.objs.size+1) scope.names []).lookup y.1).isSome=true):=λ⟨n,v⟩ hy=>by
  rcases S.par n (hG hy).1 with q|q
  .exact .inl q
  .exact .inr ⟨q,PySem.W.cellsFrom_some _ _ _ (.inl q)⟩
 refine codeAny_call_function hr.depth (KX _ _ lk) rfl S.co S.gen rfl (PySem.W.codeRec_of KX hcd) (hb _ _ _ _ ?_);refine wpAny_newFunctionEnv_cells S.kind hkind λenv he s1 x=>?_;subst he;refine⟨lim.keeps x.toInCall.keep,codeAny_func ?_⟩;obtain⟨t,ht,hq⟩:=hbody A outer s H vs Q E (hr.deeper _) hsp;have I:Inv (Zfm CX P w K mg base N qual scope f cdv A outer s H E) [] (start N vs) H s1:=ZgT S e0 hl r x;refine wpAny_mono (ht [] s1 (start N vs) H _ I hq) (λfl s' hs=>?_) λe s' hs=>hs;have fin:∀{σ':St}{H':Hp}{v:V}{u:aa},Inv (Zfm CX P w K mg base N qual scope f cdv A outer s H E) [] σ' H' s'->ZS v u->Q v H'->CE outer P w H s Q u s':=
  λ{σ' H' v u} J rv q=>⟨v,H',J.os,J.bare,J.base,J.hok,rv,q⟩
 cases fl with
 |ret u=>
  obtain⟨v,σ',H',J,rv,q⟩:=hs;exact fin J rv q
 |next=>
  obtain⟨σ',H',J,q⟩:=hs;exact fin (v:=V.non) (u:=bO) J rfl q
 |brk=>
  obtain⟨_,_,_,q⟩:=hs;exact gA q
 |cont=>
  obtain⟨_,_,_,q⟩:=hs;exact gA q
section
variable {x:Str}{id:String}
noncomputable def tCB(r:List V->Hp->VK->Prop)(t:TA):TE:=λσ H Q=>t σ H λvs H1=>r vs H1 Q
theorem Zfo(hc:Zbk X (.builtin id) r)(hg:Gl X x)(hm:X.mg x=none)(hv:bK x=some (.builtin id))(ha:PA X (e::es) t)(hn:autoParam (x≠"__name__") Qde._auto_1)(hdb:autoParam ((x==("__debug__":Str))=false) Qde._auto_1)
  (he:av (e::es) X.env=(false,eval e X.env)::av es X.env:=by rfl) (hpl:(cT pos (av es X.env)).any (·.1)=false:=by rfl):PE X (.Call (.Name x p) (e::es) [] pos) (tCB r t):=by
 intro pins s σ H Q I h;refine wpAny_Call_Name_kw (Zbg I hg hm hv ?_ hn hdb);exact PyProof.Rows.callWith_builtin1 (thn (ha pos pins s σ H _ I h) λus s1 ⟨vs,H1,I1,r1,q1⟩=>hc pins s1 σ H1 vs us Q I1 r1 q1) he hpl
theorem ZgU(hc:Zbk X (.type T) r)(hg:Gl X x)(hm:X.mg x=none)(hv:bK x=some (.type T))(ha:PA X (e::es) t)(hn:autoParam (x≠"__name__") Qde._auto_1)(hdb:autoParam ((x==("__debug__":Str))=false) Qde._auto_1)
  (he:av (e::es) X.env=(false,eval e X.env)::av es X.env:=by rfl) (hpl:(cT pos (av es X.env)).any (·.1)=false:=by rfl):PE X (.Call (.Name x p) (e::es) [] pos) (tCB r t):=by
 intro pins s σ H Q I h;refine wpAny_Call_Name_kw (Zbg I hg hm hv ?_ hn hdb);exact bW (thn (ha pos pins s σ H _ I h) λus s1 ⟨vs,H1,I1,r1,q1⟩=>hc pins s1 σ H1 vs us Q I1 r1 q1) he hpl
end
end L2
namespace HT
open PyProof.Rows
noncomputable def ZaY:List Int->List Int->Bool
 |[],[]=>false
 |[],_::_=>true
 |_::_,[]=>false
 |x::xs,y::ys=>if x=y then ZaY xs ys else decide (x<y)
theorem ZR(x y:Int)(xs ys:List Int):ZaY (x::xs) (y::ys)=if x=y then ZaY xs ys else decide (x<y):=rfl
theorem Zjo(A:dg)(s:aB)(a:Int)(t:Tok)(c:Int)(u:Tok):∃e,mF A s (.int a t) (.int c u) e/\(e=true↔a=c):=
 ⟨(a==c),mF.int_int a t c u,by simp⟩
theorem Zjp(A:dg)(s:aB)(a:Int)(t:Tok)(c:Int)(u:Tok)(prog:cD)(w:da)(E:Vp)(Q:Vp)(h:Q (.bool (decide (a<c))) s):wpAny (ao prog w) A (richCompare .Lt (.int a t) (.int c u)) Q E s:=
 (PyProof.Rows.lt_int h:wpAny (ao prog w) A (eI .Lt (.int a t) (.int c u)) Q E s)
section
open PySem.SeqAt
open PySem.AutoSeq1 (wpAny_loadPart')
open PySem.MeetsSeq PySem.MeetsSeq2 PySem.MeetsSeq3
end
theorem ZlV(ht:IsTup s.heap t vs.toArray)(hb:IsTup s.heap b ws.toArray)(hv:vs≠[])(h1:ws=[]->Q (.ref t) s)(h2:ws≠[]->Q (.ref s.heap.objs.size) {s with heap:=s.heap.push {cls:=.type "tuple",data:=.seq (vs++ws).toArray}})(hsz:vs.length+ws.length<=sizeLine):wpAny (ao prog w) A (fU .Add (.ref t) (.ref b)) Q E s:=by
 obtain⟨⟨cls,dd,data,sl⟩,ho,hc,n,hd⟩:=id ht;obtain⟨⟨cls2,dd2,data2,sl2⟩,ho2,hc2,n2,hd2⟩:=id hb;simp only at hc hd hc2 hd2;subst hc hd hc2 hd2;have e:vs.toArray++ws.toArray=(vs++ws).toArray:=by simp
 by_cases hw:ws=[]
 .exact concat_meets ⟨_,ho,rfl⟩ ⟨_,ho2,rfl⟩ noFill_tuple_add seq_tuple_add PySem.F.slot_tuple_add PySem.F.entry_tuple_add (PySem.F.args_tuple_add_2 _ _)
   (tuple_addW1 t b vs.toArray ws.toArray n n2 dd dd2 sl sl2 (by simpa using hv) (by simp[hw])) ⟨ho,ho2,h1 hw⟩
 .refine concat_meets ⟨_,ho,rfl⟩ ⟨_,ho2,rfl⟩ noFill_tuple_add seq_tuple_add PySem.F.slot_tuple_add PySem.F.entry_tuple_add (PySem.F.args_tuple_add_2 _ _)
   (tuple_addW2 t b vs.toArray ws.toArray n n2 dd dd2 sl sl2 (by simpa using hv) (by simpa using hw) (by rw[ah,ah];exact hsz)) ⟨ho,ho2,?_⟩
  rw[e];exact h2 hw
noncomputable def sIx(n d:Nat):Option Int->Nat
 |none=>d
 |some v=>if v<0 then(v+(n:Int)).toNat else min v.toNat n
theorem Zop(n d:Nat)(hd:d<=n)(o:Option Int):sIx n d o<=n:=by
 cases o with
 |none=>exact hd
 |some v=>
  show(if v<0 then(v+(n:Int)).toNat else min v.toNat n)<=n
  by_cases hv:v<0
  .rw[if_pos hv];lia
  .rw[if_neg hv];exact Nat.min_le_right _ _
theorem ZgV(v:Int)(n d:Nat):(if v<0 then max (v+(n:Int)) 0 else min v (n:Int))=((sIx n d (some v):Nat):Int):=by
 show(if v<0 then max (v+(n:Int)) 0 else min v (n:Int))=(((if v<0 then(v+(n:Int)).toNat else min v.toNat n):Nat):Int)
 by_cases hv:v<0
 .simp only[if_pos hv];lia
 .simp only[if_neg hv];lia
theorem Zgf(lo hi:Option Int)(n:Nat):gQ lo hi 1 (n:Int)=(((sIx n 0 lo:Nat):Int),((sIx n n hi:Nat):Int)):=by
 have h1:¬((1:Int)<0):=⋯
 unfold gQ;simp only[h1,if_false];refine eO ?_ ?_
 .cases lo with
  |none=>rfl
  |some v=>exact ZgV v n 0
 .cases hi with
  |none=>rfl
  |some v=>exact ZgV v n n
theorem Zgg(i j:Nat):eV (i:Int) (j:Int) 1=j-i:=by
 unfold eV;have h1:(1:Int)>0:=⋯
 simp only[h1,if_true,Int.ediv_one]
 split<;>lia
theorem ZcJ(p:mH v o)(h:Q o s):wpAny (ao prog w) A (eS.Slice.slicePartIndex v) Q E s:=by
 cases p with
 |none=>exact slicePart_none h
 |int i t=>exact slicePart_int h
theorem ZbX{lo:Option Int}{n:Nat}(hs:s.heap.IsSliceOf sl vl vu .none)(pl:mH vl lo)(pu:mH vu hi)(h:Q (((sIx n 0 lo:Nat):Int),1,sIx n n hi-sIx n 0 lo) s):wpAny (ao prog w) A (jy (.ref sl) (pure (n:Int))) Q E s:=by
 obtain⟨os,hos,hcs,hds⟩:=id hs;unfold jy eS.Slice.sliceFields;refine Wb (Wb (cG hos hds (x:=vl) rfl (Wb (cG hos hds (x:=vu) rfl (Wb (cG hos hds (x:=.none) rfl (Wp ?_)))))));refine Wb (slicePart_none ?_);show wpAny _ _ (if((1:Int)==0)=true then _ else _) _ _ s
 rw[if_neg (by decide)]
 refine Wb (ZcJ pl (Wb (ZcJ pu (Wb (Wp ?_)))));show wpAny _ _ (match gQ lo hi 1 (n:Int)with|(lo,hi)=>pure (lo,(1:Int),eV lo hi 1)) _ _ s
 rw[Zgf lo hi n];show wpAny _ _ (pure (((sIx n 0 lo:Nat):Int),(1:Int),eV ((sIx n 0 lo:Nat):Int) ((sIx n n hi:Nat):Int) 1)) _ _ s;rw[Zgg];exact Wp h
theorem Zjq(xs:Array aa)(i k:Nat):((aJ k).filterMap λ(m:Nat)=>xs[((i:Int)+(m:Int)*1).toNat]?).toArray=((xs.toList.drop i).take k).toArray:=by
 have e:(λ(m:Nat)=>xs[((i:Int)+(m:Int)*1).toNat]?)=λm=>xs[i+m]?:=by
  funext m
  have:((i:Int)+(m:Int)*1).toNat=i+m:=⋯
  rw[this]
 rw[e]
 have:=pick_run xs i k
 rw[List.filterMap_map]at this;have e2:((λx=>xs[x]?)∘λx=>i+x)=λm=>xs[i+m]?:=rfl;rw[e2]at this;rw[this]
theorem ZbC{lo:Option Int}(ht:IsTup s.heap t items)(hs:s.heap.IsSliceOf sl vl vu .none)(pl:mH vl lo)(pu:mH vu hi)(hw:¬(sIx items.size 0 lo=0/\sIx items.size items.size hi=items.size))(h:Q (.ref s.heap.objs.size) {s with heap:=s.heap.push {cls:=.type "tuple",data:=.seq ((items.toList.drop (sIx items.size 0 lo)).take (sIx items.size items.size hi-sIx items.size 0 lo)).toArray}})(hsz:items.size<=sizeLine):wpAny (ao prog w) A (nJ (.ref t) (.ref sl)) Q E s:=by
 have htake:sizeOk (.seq ((items.toList.drop (sIx items.size 0 lo)).take (sIx items.size items.size hi-sIx items.size 0 lo)).toArray):=by
  show((items.toList.drop (sIx items.size 0 lo)).take (sIx items.size items.size hi-sIx items.size 0 lo)).toArray.size<=sizeLine;rw[ah,bI,fK,bw];omega
 have hj:sIx items.size items.size hi<=items.size:=Zop _ _ (af _) hi;obtain⟨os,hos,hcs,hds⟩:=id hs;have hTs:s.TypeIs (.ref sl) "slice":=⟨os,hos,hcs⟩;unfold nJ
 try with_reducible refine wpAny_holding ?_
 first|refine Wb (Wp ?_)|skip
 refine Wb (wpAny_sequenceKey ht.typeIs (by decide) ?_)
 refine Wb (il (name:=bG "__getitem__") ht.typeIs fG (dD fG ht.typeIs entry_tuple_getitem ?_ (args_tuple_getitem _ _)))
 show wpAny _ _ (jp (.ref t) >>= _) _ _ s;refine Wb (tupleItemsOf_ ht ?_);refine Wb (mO hTs ?_);rw[if_pos (by decide)]
 refine Wb (ZbX hs pl pu ?_);have hno:¬((((sIx items.size 0 lo:Nat):Int)==0&&(1:Int)==1&&(sIx items.size items.size hi-sIx items.size 0 lo)==items.size)=true):=by
  intro q;rw[bz,bz]at q;have q1:((sIx items.size 0 lo:Nat):Int)=0:=eq_of_beq q.1.1;have q2:sIx items.size items.size hi-sIx items.size 0 lo=items.size:=eq_of_beq q.2;exact hw ⟨by omega,by omega⟩
 show wpAny _ _ (if(((sIx items.size 0 lo:Nat):Int)==0&&(1:Int)==1&&(sIx items.size items.size hi-sIx items.size 0 lo)==items.size)=true then _ else _) _ _ s
 rw[if_neg hno,Zjq]
 first
  |exact Wb (m:=fB _) (cF (Wp ⟨_,rfl,Wp h⟩) htake)
  |exact Wb (m:=fB _) (cF (Wb (Wp (Wp ⟨_,rfl,Wp h⟩))) htake)
  |exact Wb (Wb (m:=fB _) (cF (Wp (Wp ⟨_,rfl,Wp h⟩)) htake))
  |exact Wb (Wb (m:=fB _) (cF (Wp ⟨_,rfl,Wp h⟩) htake))
end HT
namespace L2
open PyProof.Rows
abbrev TO:=St->Hp->(Option Int->Hp->Prop)->Prop
def PO(X:Cx)(e:Option Expr)(t:TO):Prop:=
 ∀(pins:Pn)(s:aB)(σ:St)(H:Hp)(Q:Option Int->Hp->Prop),Inv X pins σ H s->t σ H Q->
  wpAny (ao X.prog X.w) X.A (evalPart e X.env) (λu s'=>∃o H',Inv X pins σ H' s'/\mH u o/\Q o H') X.xe s
noncomputable def tNoPart:TO:=λ_ H Q=>Q none H
noncomputable def ZrR(t:TE):TO:=λσ H Q=>t σ H λx H1=>∃i,x=.int i/\Q (some i) H1
theorem Zgh:∀{us:List aa},ZQ (ns.map V.int) us->iw us ns:=by
 induction ns with
 |nil=>intro us r;rw[jd]at r;cases r;exact .nil
 |cons n ns ih=>
  intro us r;rw[aV]at r;cases r with
  |cons r1 r2=>
   obtain⟨t,e⟩:=r1;subst e;exact .cons n t (ih r2)
section
variable {e:Expr}{lo hi:Option Expr}
theorem ZlW:PO X none tNoPart:=by
 intro pins s σ H Q I h;rw[evalPart_none];exact Wp ⟨none,H,I,.none,h⟩
theorem ZlX(h:PE X e te):PO X (some e) (ZrR te):=by
 intro pins s σ H Q I hw;rw[evalPart_some];refine thn (h pins s σ H _ I hw) λu s1 hz=>?_;obtain⟨x,H1,I1,r1,q1⟩:=hz;obtain⟨i,rfl,q⟩:=q1;obtain⟨t,rfl⟩:=r1;exact⟨some i,H1,I1,.int i t,q⟩
def SlR(X:Cx)(r:V->Option Int->Option Int->Hp->VK->Prop):Prop:=
 ∀(pins:Pn)(s:aB)(σ:St)(H:Hp)(x:V)(v vl vu:aa)(lo hi:Option Int)(sl:Addr)(Q:VK),Inv X pins σ H s->ZS x v->s.heap.IsSliceOf sl vl vu .none->mH vl lo->mH vu hi->r x lo hi H Q->
  ∃T id,typeLookup (.type T) "__getitem__"=pure (some (.builtin id))/\s.TypeIs v T/\wpAny (ao X.prog X.w) X.A (nJ v (.ref sl)) (EP X pins σ Q) X.xe s
theorem SlR.or(h:SlR X r)(h':SlR X r'):SlR X (λx lo hi H Q=>r x lo hi H Q\/r' x lo hi H Q):=by
 intro pins s σ H x v vl vu lo hi sl Q I rx hs pl pu q;rcases q with q|q
 .exact h pins s σ H x v vl vu lo hi sl Q I rx hs pl pu q
 .exact h' pins s σ H x v vl vu lo hi sl Q I rx hs pl pu q
noncomputable def tSl(r:V->Option Int->Option Int->Hp->VK->Prop)(te:TE)(tl th:TO):TE:=λσ H Q=>te σ H λx H1=>tl σ H1 λl H2=>th σ H2 λu H3=>r x l u H3 Q
theorem Zjr(hr:SlR X r)(he:PE X e te)(hl:PO X lo tl)(hu:PO X hi th):PE X (.Subscript e (.Slice lo hi none p2) pos) (tSl r te tl th):=by
 intro pins s σ H Q I h;refine Subscript_ (thn (he pins s σ H _ I h) λv s1 hz=>?_);obtain⟨x,H1,I1,r1,q1⟩:=hz;refine wpAny_Slice (thn (hl pins s1 σ H1 _ I1 q1) λvl s2 ⟨l,H2,I2,pl,q2⟩=>thn (hu pins s2 σ H2 _ I2 q2) λvu s3 hz=>?_);obtain⟨u,H3,I3,pu,q3⟩:=hz;rw[evalPart_none];refine Wp ?_;have I4:Inv X pins σ H3 {s3 with heap:=s3.heap.push {cls:=.type "slice",data:=.fields #[vl,vu,.none]}}:=I3.kept (t':=s3.toks) λb ob q=>Hq _ q;obtain⟨T,id,hT,ht,hg⟩:=hr pins {s3 with heap:=s3.heap.push {cls:=.type "slice",data:=.fields #[vl,vu,.none]}} σ H3 x v vl vu l u s3.heap.objs.size Q I4 r1 (m8.IsSliceOf.new ..) pl pu q3;show wpAny (ao X.prog X.w) X.A (subscriptTail e (.Slice lo hi none p2) v (.ref s3.heap.objs.size)) (EP X pins σ Q) X.xe {s3 with heap:=s3.heap.push {cls:=.type "slice",data:=.fields #[vl,vu,.none]}};exact tail_any (ops:=[.ref s3.heap.objs.size,v]) ht hT hg (by with_unfolding_all rfl)
def ZkH(xs:List V)(lo hi:Option Int):List V:=(xs.drop (HT.sIx xs.length 0 lo)).take (HT.sIx xs.length xs.length hi-HT.sIx xs.length 0 lo)
theorem Zcc(xs:List V)(lo hi:Option Int):(ZkH xs lo hi).length<=xs.length:=by
 unfold ZkH;rw[bI,fK];lia
def Zva(K:Fg):V->Option Int->Option Int->Hp->VK->Prop:=λx lo hi H Q=>∃a xs,x=.ref a/\SqT K H a xs/\
 ¬(HT.sIx xs.length 0 lo=0/\HT.sIx xs.length xs.length hi=xs.length)/\∀p,H p=none->Q (.ref p) (upd H p (.tup (ZkH xs lo hi)))
theorem Zoq:SlR X (Zva X.K):=by
 intro pins s σ H x v vl vu lo hi sl Q I rx hs pl pu h;obtain⟨a,xs,rfl,hx,hw,q⟩:=h;cases rx;obtain⟨its,r,ht,hz⟩:=I.tuple hx;have hlen:its.toArray.size=xs.length:=by rw[ah];exact r.length.symm
 refine⟨"tuple",_,fG.lookup,ht.typeIs,?_⟩;refine HT.ZbC ht hs pl pu (by rw[hlen];exact hw) ?_ (by rw[hlen];exact hz)
 rw[hlen];refine⟨.ref s.heap.objs.size,_,I.laid (t':=s.toks) (o:=.tup (ZkH xs lo hi)) (λb ob q=>Hq _ q) (af _) ?_,rfl,q _ (I.hok.fresh (af _))⟩;exact⟨aM (Zcc xs lo hi) hz,_,(r.drop (HT.sIx xs.length 0 lo)).take (HT.sIx xs.length xs.length hi-HT.sIx xs.length 0 lo),IsTup.new _ _⟩
def ZlY(K:Fg):R2:=λx y H Q=>∃a b xs ys,x=.ref a/\y=.ref b/\SqT K H a xs/\SqT K H b ys/\xs≠[]/\xs.length+ys.length<=sizeLine/\
 (ys=[]->Q (.ref a) H)/\(ys≠[]->∀p,H p=none->Q (.ref p) (upd H p (.tup (xs++ys))))
theorem ZQ.nil_iff(r:ZQ xs us):us=[]↔xs=[]:=by
 cases r with
 |nil=>simp
 |cons _ _=>simp
theorem ZlZ:OpR X (fU .Add) (ZlY X.K):=by
 intro pins s σ H x y v u Q I rx ry h;obtain⟨a,b,xs,ys,rfl,rfl,ha,hb,hx,hz,q1,q2⟩:=h;cases rx;cases ry;obtain⟨its,r1,p1,_⟩:=I.tuple ha;obtain⟨its2,r2,p2,_⟩:=I.tuple hb;refine HT.ZlV p1 p2 (λz=>hx (r1.nil_iff.mp z)) (λz=>⟨.ref a,H,I,rfl,q1 (r2.nil_iff.mp z)⟩) (λz=>?_) (by rw[<-r1.length,<-r2.length];exact hz)
 refine⟨.ref s.heap.objs.size,_,I.laid (t':=s.toks) (o:=.tup (xs++ys)) (λb ob q=>Hq _ q) (af _) ?_,rfl,q2 (λw=>z (r2.nil_iff.mpr w)) _ (I.hok.fresh (af _))⟩;exact⟨by rw[aY];exact hz,_,r1.append r2,IsTup.new _ _⟩
end
noncomputable def ixN(n:Nat)(i:Int):Option Nat:=if 0<=i then(if i<n then some i.toNat else none)else if -(n:Int)<=i then some (i+n).toNat else none
def atI{α:Type}(xs:List α)(i:Int):Option α:=(ixN xs.length i).bind λj=>xs[j]?
theorem ZgW(h:ixN n i=some j):seqIndex? i n=some j/\j<n/\ -(n:Int)<=i/\i<n:=by
 unfold ixN at h;by_cases h0:0<=i
 .rw[if_pos h0]at h;by_cases h1:i<n
  .rw[if_pos h1]at h;have e:i.toNat=j:=aQ h;exact⟨by rw[ny h0 h1,e],⋯,⋯,h1⟩
  .rw[if_neg h1]at h;cases h
 .rw[if_neg h0]at h;by_cases h1: -(n:Int)<=i
  .rw[if_pos h1]at h;have e:(i+n).toNat=j:=aQ h;exact⟨by rw[mP ⋯ h1,e],⋯,h1,⋯⟩
  .rw[if_neg h1]at h;cases h
theorem ZgX{xs:List α}{v:α}(h:atI xs i=some v):∃j,seqIndex? i xs.length=some j/\xs[j]?=some v/\j<xs.length/\ -(xs.length:Int)<=i/\i<xs.length:=by
 unfold atI at h;cases e:ixN xs.length i with
 |none=>rw[e]at h;cases h
 |some j=>
  rw[e]at h;obtain⟨h1,h2,h3,h4⟩:=ZgW e;exact⟨j,h1,h,h2,h3,h4⟩
theorem Zl0{xs:List α}{j:Nat}{v:α}(h:xs[j]?=some v):atI xs (j:Int)=some v:=by
 have hj:j<xs.length:=(aq.mp h).1;have e:ixN xs.length (j:Int)=some j:=by
  unfold ixN;rw[if_pos ⋯,if_pos ⋯];simp
 unfold atI;rw[e];exact h
noncomputable def ZgY(b:Expr):Prop:=∀o i,subscripted b false o i=operate [o,i] (nJ o i)
def IxR(X:Cx)(r:R2):Prop:=
 ∀(value slice:Expr)(pins:Pn)(s:aB)(σ:St)(H:Hp)(x y:V)(v u:aa)(Q:VK),Inv X pins σ H s->ZS x v->ZS y u->r x y H Q->
  subscripted slice false v u=operate [v,u] (nJ v u)->wpAny (ao X.prog X.w) X.A (subscriptTail value slice v u) (EP X pins σ Q) X.xe s
def MtR(X:Cx)(id:String)(r:V->List V->Hp->VK->Prop):Prop:=
 ∀(pins:Pn)(s:aB)(σ:St)(H:Hp)(x:V)(xs:List V)(v:aa)(us:List aa)(Q:VK),Inv X pins σ H s->ZS x v->ZQ xs us->r x xs H Q->
  wpAny (ao X.prog X.w) X.A (call (.builtin id) (v::us)) (EP X pins σ Q) X.xe s
section
variable {X:Cx}{a:Expr}
theorem IxR.or(h:IxR X r)(h':IxR X r'):IxR X (λx y H Q=>r x y H Q\/r' x y H Q):=by
 intro value slice pins s σ H x y v u Q I rx ry q hs;rcases q with q|q
 .exact h value slice pins s σ H x y v u Q I rx ry q hs
 .exact h' value slice pins s σ H x y v u Q I rx ry q hs
theorem ZrS(hr:IxR X r)(ha:PE X a ta)(hb:PE X b tb)(hs:ZgY b):PE X (.Subscript a b pos) (tOp r ta tb):=by
 intro pins s σ H Q I h;exact Subscript_ (ZrL ha hb I h λv u s2 x y H2 I2 rx ry q=>hr a b pins s2 σ H2 x y v u Q I2 rx ry q (hs _ _))
def Zt2(K:Fg):R2:=λx y H Q=>∃p xs i v,x=.ref p/\y=.int i/\SqL K H p xs/\atI xs i=some v/\Q v H
def Zt3(K:Fg):R2:=λx y H Q=>∃p xs i v,x=.ref p/\y=.int i/\SqT K H p xs/\atI xs i=some v/\Q v H
theorem Zl1:IxR X (Zt2 X.K):=by
 intro value slice pins s σ H x y v u Q I rx ry h hs;obtain⟨p,xs,i,z,rfl,rfl,hq,he,q⟩:=h;cases rx;obtain⟨t,rfl⟩:=ry;obtain⟨its,r,pl,hz⟩:=I.list hq;obtain⟨j,h1,h2,h3,h4,h5⟩:=ZgX he;obtain⟨w,ew,rw'⟩:=r.get h2;have hl:=r.length;have hn:=Zfl;have fin:EP X pins σ Q w s:=⟨z,H,I,rw',q⟩;by_cases h0:0<=i
 .have hj:i.toNat=j:=by
   rw[ny h0 h5]at h1;exact aQ h1
  exact item_listR pl.isList h0 ⋯ (by rw[hj];simpa using ew) fin hs
 .have hj:(i+(its.toArray.size:Int)).toNat=j:=by
   rw[mP ⋯ h4]at h1
   rw[ah,<-hl];exact aQ h1
  exact kI (x:=w) pl.isList.typeIs slot_list_getitem.lookup
   (wpAny_getItem_list_neg (Q:=λr s'=>r=w/\EP X pins σ Q r s') pl.isList ⋯ (by rw[ah]<;>lia) ⋯ (by rw[hj];simpa using ew) ⟨rfl,fin⟩) hs
theorem Zor:IxR X (Zt3 X.K):=by
 intro value slice pins s σ H x y v u Q I rx ry h hs;obtain⟨p,xs,i,z,rfl,rfl,hq,he,q⟩:=h;cases rx;obtain⟨t,rfl⟩:=ry;obtain⟨its,r,pl,hz⟩:=I.tuple hq;obtain⟨j,h1,h2,h3,h4,h5⟩:=ZgX he;obtain⟨w,ew,rw'⟩:=r.get h2;have hl:=r.length;have hn:=Zfl;have fin:EP X pins σ Q w s:=⟨z,H,I,rw',q⟩;exact kI (x:=w) pl.typeIs slot_tuple_getitem.lookup
  (getItem_tuple (j:=j) (Q:=λr s'=>r=w/\EP X pins σ Q r s') pl ⋯ ⋯ (by rw[ah,<-hl];exact h1) (by simpa using ew) ⟨rfl,fin⟩) hs
theorem Zgi(its:List aa)(n j:Nat)(u:aa):bC (·.setIfInBounds j u) {cls:=.type "list",data:=.seq its.toArray n}={cls:=.type "list",data:=.seq (its.set j u).toArray n}:=by
 simp[bC]
theorem Inv.lst{pins:Pn}{σ:St}{H:Hp}{s:aB}{p:Addr}{xs:List V}(I:Inv X pins σ H s)(h:H p=some (.lst xs)):∃(its:List aa) (n:Nat),ZQ xs its/\s.heap.get? p=some {cls:=.type "list",data:=.seq its.toArray n}/\xs.length<=sizeLine:=by
 obtain⟨z,its,n,r,e⟩:=I.hok p _ h;exact⟨its,n,r,e,z⟩
theorem Inv.lstUpd{its:List aa}(I:Inv X pins σ H s)(h:H p=some (.lst xs))(ho:s.heap.get? p=some {cls:=.type "list",data:=.seq its.toArray n})(hf:f {cls:=.type "list",data:=.seq its.toArray n}={cls:=.type "list",data:=.seq its'.toArray n'})(r:ZQ ys its')(hz:ys.length<=sizeLine)(t:Nat):Inv X pins σ (upd H p (.lst ys)) {s with heap:=s.heap.update p f,toks:=t}:=by
 have e:(s.heap.update p f).get? p=some {cls:=.type "list",data:=.seq its'.toArray n'}:=by
  rw[dC f ho (by rw[hf]<;>rfl),hf]
 refine I.write (x:=p) (e:=p) (by rw[h];trivial) (.inl rfl) (λb u hb q=>(aS _ _ (cC hb)).trans q) ⟨_,e⟩ ?_
 exact⟨hz,its',n',r,e⟩
def rSetL:V->V->V->Hp->(Hp->Prop)->Prop:=λo i v H Q=>∃p xs k j,o=.ref p/\i=.int k/\H p=some (.lst xs)/\ixN xs.length k=some j/\Q (upd H p (.lst (xs.set j v)))
theorem Zjs:ZtY X rSetL:=by
 intro pins s σ H o i v ov iv u Q I ro ri rv h;obtain⟨p,xs,k,j,rfl,rfl,hp,hj,q⟩:=h;cases ro;obtain⟨t,rfl⟩:=ri;obtain⟨its,n,r,ho,hz⟩:=I.lst hp;obtain⟨h1,h2,h3,h4⟩:=ZgW hj;have hl:=r.length;have hn:=Zfl;have I':Inv X pins σ (upd H p (.lst (xs.set j v))) {s with heap:=s.heap.update p (bC (·.setIfInBounds j u))}:=
  I.lstUpd hp ho (Zgi its n j u) (r.set rv j) (by rw[dA];exact hz) s.toks
 by_cases h0:0<=k
 .have hk:k.toNat=j:=by
   rw[ny h0 h4]at h1;exact aQ h1
  exact PySem.W.ki_setAt ho h0 ⋯ (by rw[ah,<-hl];exact h4) (by rw[hk];exact⟨_,I',q⟩)
 .have hk:(k+(its.toArray.size:Int)).toNat=j:=by
   rw[mP ⋯ h3]at h1
   rw[ah,<-hl];exact aQ h1
  exact PySem.W.ki_setBack ho ⋯ (by rw[ah,<-hl];exact h3) ⋯ (by rw[hk];exact⟨_,I',q⟩)
theorem ZdE(lo hi:Option Int)(n:Nat):(im lo hi none n).1=((HT.sIx n 0 lo:Nat):Int)/\(im lo hi none n).2.1=((HT.sIx n n hi:Nat):Int)/\(im lo hi none n).2.2=1:=by
 refine⟨?_,?_,rfl⟩
 .cases lo with
  |none=>simp[im,HT.sIx]
  |some i=>
   simp only[im,HT.sIx,Option.getD_none,show(1:Int)>0 by decide,if_true]
   by_cases h:i<0
   .simp only[h,if_true]<;>lia
   .simp only[h,if_false]<;>lia
 .cases hi with
  |none=>simp[im,HT.sIx]
  |some i=>
   simp only[im,HT.sIx,Option.getD_none,show(1:Int)>0 by decide,if_true]
   by_cases h:i<0
   .simp only[h,if_true]<;>lia
   .simp only[h,if_false]<;>lia
theorem Zc4(its:List aa)(lo hi:Option Int):slicePick its.toArray lo hi none=((its.drop (HT.sIx its.length 0 lo)).take (HT.sIx its.length its.length hi-HT.sIx its.length 0 lo)).toArray:=by
 obtain⟨h1,h2,h3⟩:=ZdE lo hi its.toArray.size;unfold slicePick;rw[h1,h2,h3];simp only[sliceRange_one,pick_run,ah]<;>rfl
def Zvb(K:Fg):V->Option Int->Option Int->Hp->VK->Prop:=λx lo hi H Q=>∃a xs,x=.ref a/\SqL K H a xs/\∀p,H p=none->Q (.ref p) (upd H p (.lst (ZkH xs lo hi)))
theorem Zl2:SlR X (Zvb X.K):=by
 intro pins s σ H x v vl vu lo hi sl Q I rx hs pl pu h;obtain⟨a,xs,rfl,hx,q⟩:=h;cases rx;obtain⟨its,r,ht,hz⟩:=I.list hx;have hlen:=r.length;refine⟨"list",_,slot_list_getitem.lookup,ht.isList.typeIs,?_⟩;refine wpAny_getItem_list_slice ht.isList hs pl pu .none (by simp) ?_ (by rw[ah]<;>lia)
 rw[Zc4,<-hlen];refine⟨.ref s.heap.objs.size,_,I.laid (t':=s.toks) (o:=.lst (ZkH xs lo hi)) (λb ob q=>Hq _ q) (af _) ?_,rfl,q _ (I.hok.fresh (af _))⟩;exact⟨aM (Zcc xs lo hi) hz,_,0,(r.drop (HT.sIx xs.length 0 lo)).take (HT.sIx xs.length xs.length hi-HT.sIx xs.length 0 lo),aL _ rfl⟩
theorem Zy:Zbk X (.builtin "len") (λxs H Q=>∃p ys,xs=[.ref p]/\(SqL X.K H p ys\/SqT X.K H p ys)/\Q (.int ys.length) H):=by
 intro pins s σ H xs us Q I r h;obtain⟨p,ys,rfl,hq,q⟩:=h;obtain⟨u,rfl,rx⟩:=ZbW r;cases rx;have hn:=Zfl;rcases hq with hq|hq
 .obtain⟨its,r',pl,hz⟩:=I.list hq;have hlen:=r'.length;exact Calls.call_len_list pl.isList (by simp only[ah]<;>lia) ⟨.int ys.length,H,I.tok _,⟨s.toks+1,by rw[ah,hlen]⟩,q⟩
 .obtain⟨its,r',pl,hz⟩:=I.tuple hq;have hlen:=r'.length;exact len_tuple pl (by simp only[ah]<;>lia) ⟨.int ys.length,H,I.tok _,⟨s.toks+1,by rw[ah,hlen]⟩,q⟩
theorem ZdF:Zbk X (.type "list") (λxs H Q=>∃p ys,xs=[.ref p]/\(SqL X.K H p ys\/SqT X.K H p ys)/\∀l,H l=none->Q (.ref l) (upd H l (.lst ys))):=by
 intro pins s σ H xs us Q I r h;obtain⟨p,ys,rfl,hq,q⟩:=h;obtain⟨u,rfl,rx⟩:=ZbW r;cases rx;have fin:∀(its:List aa),ZQ ys its->ys.length<=sizeLine->∀(h':Heap)(c':Nat),(∀b o',s.heap.get? b=some o'->h'.get? b=some o')->
   h'.get? s.heap.objs.size=some {cls:=.type "list",dict:=none,data:=.seq its.toArray c',slots:= #[]}->EP X pins σ Q (.ref s.heap.objs.size) {s with heap:=h'}:=λits r' hz h' c' kp e=>
  ⟨.ref s.heap.objs.size,_,I.laid (t':=s.toks) kp (af _) (show ZaC X.prog X.w _ h' _ (.lst ys)from⟨hz,its,c',r',e⟩),rfl,q _ (I.hok.fresh (af _))⟩
 rcases hq with hq|hq
 .obtain⟨its,r',pl,hz⟩:=I.list hq;have hlen:=r'.length;obtain⟨o,ho,hc,n,hd⟩:=pl.isList;exact call_list_seq p (.inl rfl) ho hc hd (λh' c' kp e=>fin its r' hz h' c' kp e) (by simp only[ah]<;>lia)
 .obtain⟨its,r',pl,hz⟩:=I.tuple hq;have hlen:=r'.length;obtain⟨o,ho,hc,n,hd⟩:=pl;exact call_list_seq p (.inr rfl) ho hc hd (λh' c' kp e=>fin its r' hz h' c' kp e) (by simp only[ah]<;>lia)
def tyV(K:Fg)(T:String)(x:V)(H:Hp):Prop:=match x with
 |.str _=>T="str"
 |.int _=>T="int"
 |.ref p=>(T="list"/\∃xs,SqL K H p xs)\/(T="tuple"/\∃o,K.lookup p=some o/\o.cls=.type "tuple"/\o.dict=none)\/
   (T="dict"/\((∃kvs,H p=some (.dK kvs))\/∃kvs,H p=some (.dT kvs)))\/(T="set"/\∃S n,H p=some (.set S n))
 |_=>False
theorem Zos(I:Inv X pins σ H s)(r:ZS x v)(ty:tyV X.K T x H):s.TypeIs v T/\∀a,v=.ref a->∃ob,s.heap.get? a=some ob/\ob.dict=none:=by
 cases x with
 |str z=>
  obtain⟨t,rfl⟩:=r;cases(show T="str" from ty);exact⟨typeIs_str s z t,λ_ e=>nomatch e⟩
 |int i=>
  obtain⟨t,rfl⟩:=r;cases(show T="int" from ty);exact⟨typeIs_int s i t,λ_ e=>nomatch e⟩
 |ref p=>
  cases r;rcases ty with⟨rfl,xs,hq⟩|⟨rfl,o,hk,hc,hd⟩|⟨rfl,hk⟩|⟨rfl,S,n,hk⟩
  .obtain⟨its,_,pl,_⟩:=I.list hq;refine⟨pl.isList.typeIs,λa e=>?_⟩;cases e;obtain⟨o,n,e,c,hd,_⟩:=pl;exact⟨o,e,hd⟩
  .refine⟨⟨o,I.kIn p o hk,hc⟩,λa e=>?_⟩;cases e;exact⟨o,I.kIn _ o hk,hd⟩
  .have z:∃o,s.heap.get? p=some o/\o.ExactDict:=by
    rcases hk with⟨kvs,hk⟩|⟨kvs,hk⟩
    .obtain⟨_,_,_,_,o,_,_,e,ex,_⟩:=I.hok p _ hk;exact⟨o,e,ex⟩
    .obtain⟨_,_,_,_,o,_,_,e,ex,_⟩:=I.hok p _ hk;exact⟨o,e,ex⟩
   obtain⟨o,e,ex⟩:=z;refine⟨⟨o,e,ex.1⟩,λa e2=>?_⟩;cases e2;exact⟨o,e,ex.2.1⟩
  .obtain⟨o,_,_,_,e,ex,_⟩:=I.hok p _ hk;refine⟨⟨o,e,ex.1⟩,λa e2=>?_⟩;cases e2;exact⟨o,e,ex.2.1⟩
 |_=>exact gA ty
def tBM(K:Fg)(T:String)(r:V->List V->Hp->VK->Prop)(to:TE)(t:TA):TE:=λσ H Q=>to σ H λx H1=>tyV K T x H1/\t σ H1 λxs H2=>r x xs H2 Q
variable {apos:Pos}{id:String}
theorem ZrT(pa:PlainAttrs T)(slot:Slot T name id)(hty:typeOf (.builtin id)=pure (.type "method_descriptor"))(hm:MtR X id r)(ho:PE X o to)(ha:PA X (e::es) t)(hbase:autoParam (iN o name X.env (eval o X.env)=eval o X.env) Qrf._auto_1)
  (hfew:((cT cpos (av (e::es) X.env)).all (λx=> !x.1)&&(jz cpos (gB [] X.env)).all (λx=>x.1.isSome) && decide ((e::es).length+([]:List je).length+(if([]:List je).isEmpty then 0 else 1)<30))=true:=by rfl)
  (hline:(apos.endLine==cpos.line)=true:=by rfl) (hs:av (e::es) X.env=(false,eval e X.env)::av es X.env:=by rfl) (hplain:(cT cpos (av es X.env)).any (·.1)=false:=by rfl):
  PE X (.Call (.Attribute o name apos) (e::es) [] cpos) (tBM X.K T r to t):=by
 intro pins s σ H Q I h;refine wpAny_Call_method_late hbase hfew hline rfl (thn (ho pins s σ H _ I h) λv s1 hz=>?_);obtain⟨x,H1,I1,r1,ty,q1⟩:=hz;obtain⟨h1,h2⟩:=Zos I1 r1 ty;refine⟨T,id,pa,slot,hty,h1,h2,?_⟩;have hA:=ha cpos pins s1 σ H1 _ I1 q1;rw[hs]at hA ⊢;refine Calls.callWith_builtin (by show(false||(cT cpos (av es X.env)).any (·.1))=false;rw[hplain]<;>rfl) (Calls.evalArgs_plain ?_)
 exact thn hA λus s2 ⟨vs,H2,I2,r2,q2⟩=>hm pins s2 σ H2 x vs v us Q I2 r1 r2 q2
end
def MtM(X:Cx)(id:String)(r:V->List V->Hp->VK->Prop):Prop:=
 ∀(pins:Pn)(s:aB)(σ:St)(H:Hp)(x:V)(xs:List V)(v:aa)(us:List aa)(Q:VK),Inv X pins σ H s->ZS x v->ZQ xs us->r x xs H Q->
  wpAny (ao X.prog X.w) X.A (call (.builtin id) (v::us)) (EP X pins σ Q) X.xe s
theorem ZQ.one:∀{x:V}{us:List aa},ZQ [x] us->∃u,us=[u]/\ZS x u:=by
 intro _ _ h;cases h with|cons r t=>cases t;exact⟨_,rfl,r⟩
theorem ZQ.reverse(h:ZQ xs us):ZQ xs.reverse us.reverse:=by
 induction h with
 |nil=>exact .nil
 |cons r t ih=>rw[dh,dh];exact ZQ.append ih (.cons r .nil)
theorem Inv.lset{its:List aa}(I:Inv X pins σ H s)(hH:H l=some (.lst xs))(e:s.heap.get? l=some {cls:=.type "list",data:=.seq its.toArray n})(hf:f its.toArray=its'.toArray)(hv:ZQ ys its')(hz:ys.length<=sizeLine):Inv X pins σ (upd H l (.lst ys)) {s with heap:=s.heap.update l (bC f),toks:=t'}:=by
 have q:=PySem.IsL.update e f;rw[hf]at q;refine I.write (x:=l) (e:=l) (by rw[hH];exact trivial) (.inl rfl) (λb' u hb hu=>(aS s.heap (bC f) (cC hb)).trans hu) ⟨_,q⟩ ?_
 exact⟨hz,its',_,hv,q⟩
theorem Inv.lnew(I:Inv X pins σ H s)(hv:ZQ ys its)(hz:ys.length<=sizeLine):Inv X pins σ (upd H s.heap.objs.size (.lst ys)) {s with heap:=s.heap.push {cls:=.type "list",data:=.seq its.toArray},toks:=t'}:=
 I.laid (λ_ _ q=>Hq _ q) (af _) ⟨hz,its,0,hv,aL _ rfl⟩
theorem Inv.fresh(I:Inv X pins σ H s):H s.heap.objs.size=none:=I.hok.fresh (af _)
theorem Inv.lstM(I:Inv X pins σ H s)(hH:H l=some (.lst xs)):xs.length<=sizeLine/\∃(its:List aa) (n:Nat),ZQ xs its/\xs.length=its.length/\s.heap.get? l=some {cls:=.type "list",data:=.seq its.toArray n}:=by
 obtain⟨z,its,n,r,e⟩:=I.hok l _ hH;exact⟨z,its,n,r,r.length,e⟩
theorem Zjt(h:n<=sizeLine):gY n=false:=by
 unfold gY;exact decide_eq_false ⋯
def rAppend:V->List V->Hp->VK->Prop:=λx vs H Q=>∃l xs y,x=.ref l/\vs=[y]/\H l=some (.lst xs)/\xs.length<sizeLine/\Q .non (upd H l (.lst (xs++[y])))
theorem ZdG:MtM X "list.append" rAppend:=by
 intro pins s σ H x vs v us Q I rx rv h;obtain⟨l,xs,y,rfl,rfl,hH,hz,q⟩:=h;cases rx;obtain⟨u,rfl,ru⟩:=rv.one;obtain⟨z,its,n,r,hl,e⟩:=I.lstM hH;refine call_meets F.slot_list_append ⟨_,e,rfl⟩ F.entry_list_append (F.args_list_append_2 _ _) (PySem.list_append l its.toArray n u (by rw[ah];lia)) ⟨e,?_⟩
 refine⟨.non,_,I.lset (its':=its++[u]) hH e (by simp) (r.append (.cons ru .nil)) ?_,rfl,q⟩
 rw[aY,ge];lia
def rExtend:V->List V->Hp->VK->Prop:=λx vs H Q=>∃l b xs zs,x=.ref l/\vs=[.ref b]/\H l=some (.lst xs)/\H b=some (.lst zs)/\xs.length+zs.length<=sizeLine/\Q .non (upd H l (.lst (xs++zs)))
theorem ZgZ:MtM X "list.extend" rExtend:=by
 intro pins s σ H x vs v us Q I rx rv h;obtain⟨l,b,xs,zs,rfl,rfl,hH,hB,hz,q⟩:=h;cases rx;obtain⟨u,rfl,ru⟩:=rv.one;cases ru;obtain⟨z,its,n,r,hl,e⟩:=I.lstM hH;obtain⟨z2,its2,n2,r2,hl2,e2⟩:=I.lstM hB;have hsz:its.toArray.size+its2.toArray.size<=sizeLine:=by rw[ah,ah];lia
 have hlong:¬(!its.toArray.isEmpty&&gY (its.toArray.size+its2.toArray.size))=true:=by
  rw[Zjt hsz,Bool.and_false];exact cH
 refine call_meets F.slot_list_extend ⟨_,e,rfl⟩ F.entry_list_extend (F.args_list_extend_2 _ _)
  (AutoSeq1.list_extend_list_list_0 l its.toArray n b its2.toArray n2 hlong (by rw[ah];lia) ⋯) ⟨e,e2,?_⟩
 refine⟨.non,_,I.lset (its':=its++its2) hH e (by simp) (r.append r2) ?_,rfl,q⟩
 rw[aY];lia
def rCat:R2:=λx y H Q=>∃l b xs zs,x=.ref l/\y=.ref b/\H l=some (.lst xs)/\H b=some (.lst zs)/\xs.length+zs.length<=sizeLine/\∀p,H p=none->Q (.ref p) (upd H p (.lst (xs++zs)))
theorem Zot:OpR X (fU .Add) rCat:=by
 intro pins s σ H x y v u Q I rx ry h;obtain⟨l,b,xs,zs,rfl,rfl,hH,hB,hz,q⟩:=h;cases rx;cases ry;obtain⟨z,its,n,r,hl,e⟩:=I.lstM hH;obtain⟨z2,its2,n2,r2,hl2,e2⟩:=I.lstM hB;refine PySem.P.add_list e e2 ?_ (by rw[ah,ah];lia)
 have ea:its.toArray++its2.toArray=(its++its2).toArray:=by simp
 rw[ea];exact⟨.ref _,_,I.lnew (t':=s.toks) (r.append r2) (by rw[aY];lia),rfl,q _ I.fresh⟩
end L2
namespace Att
open PySem.W PySem.Calls PyProof.Rows
theorem Zcd:∀(ns:List Int)(vs:List aa),WellAll P h vs (ns.map WData.int)->iw vs ns:=by
 intro ns
 induction ns with
 |nil=>
  intro vs w;rw[jd]at w;cases w;exact .nil
 |cons n ns ih=>
  intro vs w;rw[aV]at w;cases w with
  |cons a b=>
   cases a;exact .cons _ _ (ih _ b)
theorem Zg0{l:OpenLaw}(hn:l.most=some n)(hpre:l.row.toRowW.claim.pre args=true)(hwl:WellAll P h vals args):∃a vs ns,vals=[aU a]/\args=[WData.list (ns.map WData.int)]/\h.get? a=some {cls:=.type "list",data:=.seq vs.toArray}/\iw vs ns/\ns.length<=n:=by
 have hsh:WShape.hasAll [] args [.list .int]=true:=(pre_splitW hpre).1;have hc:l.pre.holds [] {args:=args}=true:=(pre_splitW hpre).2;obtain⟨d,r,rfl,h1,h2⟩:=hasAllW_cons hsh;obtain rfl:=hasAllW_nil h2;obtain⟨xs,rfl,h3⟩:=hasW_list h1;obtain⟨ns,rfl⟩:=items_int h3;have hlen:ns.length<=n:=by
  unfold OpenLaw.pre at hc;have h4:(WTm.not (.lt (.lit (.int (n:Int))) (.len (.arg 0)))).holds [] {args:=[.list (ns.map .int)]}=true:=by
   have h4:=(holds_andW hc).1;rw[hn]at h4;exact h4
  have h5:=condW_of h4 (w_not (w_lt w_lit (w_len_list (w_arg rfl))));rw[au]at h5;refine Nat.le_of_not_lt λq=>?_;have q':(n:Int)<((ns.length:Nat):Int):=⋯
  first
   | (rw[decide_eq_true q']at h5;exact absurd h5 (by decide))
   | (simp at h5;lia)
 cases hwl with
 |cons w1 w2=>
  cases w2;cases w1 with
  |list ho hall=>exact⟨_,_,ns,rfl,rfl,ho,Zcd ns _ hall,hlen⟩
theorem Zg1(l:OpenLaw)(args:List WData):l.row.toRowW.claim.post args (.bool true) args=true:=
 postW_of (r:=l.row.toRowW) (X:=(true==true))
  (show WShape.has [] (.bool true) .bool=true by first|rfl|decide|simp[WShape.has,WShape.arms,WShape.armsAll])
  (show(WTm.eq .res (.lit (.bool true))).value [] {args:=args,res:=some (.bool true),after:=args}=some (.bool (true==true))from w_eq_bool (w_res rfl) w_lit) rfl
theorem Zew{l:OpenLaw}(hn:l.most=some n)(hdf:d.params.defaults=[])(call:∀(w:da)(s₀ s₁:aB)(mg mb:Str->Option aa)(fa:Addr)(o:Obj)(pm cd doc:aa)(a:Addr)(vs:List aa)(ns:List Int),Ground q loose [] XP w s₀ mg mb s₁.heap->YP w s₁.heap->s₁.heap.get? fa=some o->o.data=.func (docDef d.name d.params d.body d.scope pm cd doc)->s₁.heap.CodeRec cd d.name->mg d.name=some (.ref fa)->s₁.heap.get? a=some {cls:=.type "list",data:=.seq vs.toArray}->iw vs ns->ns.length<=n->s₁.gens= #[]->fN (ao l.prog w) lY (.call (.ref fa) ⟨[.ref a],[]⟩) (λr s'=>r=.ok (.ret (.bool true))/\OldK s₁.heap s'.heap/\s'.os=s₁.os/\iL s'.gens) s₁):WalkO q loose XP YP l.row.toRowW d [] (λf vs=>PySem.call f vs):=by
 intro w s₀ s₁ mg mb G Y fa o pm cd doc dV kV ho hd hcd hD hmg hg args vals as hpre hlay hrd hwl hlo;obtain rfl:dV=.none:=Dflts.none hD hdf;obtain rfl:kV=.none:=Dflts.noKw hD;obtain⟨a,vs,ns,rfl,rfl,hobj,hints,hlen⟩:=Zg0 hn hpre hwl;refine enter_call (mM (call w s₀ s₁ mg mb fa o pm cd doc a vs ns G Y ho (fd_plain hd) hcd hmg hobj hints hlen hg) λr s' hq=>?_);obtain⟨rfl,h2,h3,h4⟩:=hq;exact⟨.inl ⟨.bool true,.bool true,[],rfl,λ_=>rfl,.bool true,Zg1 l _,λ_=>⟨my.nil,λ_ hm=>(nomatch hm)⟩⟩,h2,h3,h4⟩
end Att
namespace L2
open PyProof.Rows
theorem ZdH:∀{vs:List aa}{ns:List Int},iw vs ns->ZQ (ns.map V.int) vs
 |_,_,.nil=>.nil
 |_,_,.cons n t h=>.cons ⟨t,rfl⟩ (ZdH h)
noncomputable def ZaZ(s:Stmt):Arguments:=match s with
 |.FunctionDef _ a _ _ _ _ _ _ _ _=>a
 |_=>{posonlyargs:=[],args:=[],vararg:=none,kwonlyargs:=[],kw_defaults:=[],kwarg:=none,defaults:=[]}
noncomputable def Zag(s:Stmt):List Stmt:=match s with
 |.FunctionDef _ _ b _ _ _ _ _ _ _=>b
 |_=>[]
noncomputable def Zo(s:Stmt):js:=match s with
 |.FunctionDef _ _ _ _ _ _ sc _ _ _=>sc
 |_=>{kind:=.function,names:=[],isGenerator:=false,isCoroutine:=false}
noncomputable abbrev E0:XK:=λ_ _ _=>False
structure Fun(K:Fg) (x qual:Str) (st:Stmt) (f:Addr) (fd:iT):Prop where
 ex:∃(oc:aa) (od:Option Addr) (kV doc pm:aa) (an:Option Addr) (cdv ct:aa) (osl:Array (Option aa)),
  fd=PySem.W.fnOf x qual (ZaZ st) (Zag st) (Zo st) .none kV doc pm an cdv ct/\K.lookup f=some ⟨oc,od,.func fd,osl⟩/\PySem.W.codeIn K cdv qual=true
 kp:PySem.W.keepIn K (.ref f)=true
section
variable {K:Fg}
theorem Fun.binds{st:Stmt}(F:Fun K x qual st f fd)(h:∀(kV doc pm:aa)(an:Option Addr)(cdv ct:aa)(us:List aa),us.length=ps.length->iU (PySem.W.fnOf x qual (ZaZ st) (Zag st) (Zo st) .none kV doc pm an cdv ct) ⟨us,[]⟩=pure (ps.zip us)):Zev K fd ps []:=by
 obtain⟨oc,od,kV,doc,pm,an,cdv,ct,osl,rfl,lk,hcd⟩:=F.ex;exact .all (h kV doc pm an cdv ct)
theorem Zou{st:Stmt}{kV:aa}(l:K.lookup f=some ⟨oc,od,.func (PySem.W.fnOf x qual (ZaZ st) (Zag st) (Zo st) .none kV doc pm an cdv ct),osl⟩)(c:PySem.W.codeIn K cdv qual=true)(k:PySem.W.keepIn K (.ref f)=true):Fun K x qual st f (PySem.W.fnOf x qual (ZaZ st) (Zag st) (Zo st) .none kV doc pm an cdv ct):=⟨⟨oc,od,kV,doc,pm,an,cdv,ct,osl,rfl,l,c⟩,k⟩
end
theorem Zg2(h:n<=1000):n<sizeLine:=fP h (by decide)
theorem pv(i:Nat)(hN:autoParam (X.N[i]?=some x) Qrf._auto_1)(hv:Vis X.env.scope x:=by first|exact dM rfl|exact kJ (dM rfl)|exact kJ (kJ rfl))(hd:autoParam ((x==("__debug__":Str))=false) Qde._auto_1)(hcd:autoParam ((x==("__classdict__":Str))=false) Qde._auto_1):PE X (.Name x pos) (ZtX i):=ZkD hN hv hd hcd
theorem ZnJ{A:Prop}(h:B):if false=true then A else B:=by
 rw[if_neg cH];exact h
theorem ZnK{A:Prop}(h:A):if true=true then A else B:=by
 rw[if_pos rfl];exact h
end L2
namespace DL
open PyProof.Rows L2
structure Rw where
 n:String
 i:Nat
 f:Nat
 m:String
 t:Nat
 u:Nat
 ln:Nat
 na:Nat
 b:Bool
 v:Nat
noncomputable def zz1(P:lH)(s:String)(n:Nat)(v:aa):lZ:={hash:=PyData.keyHash P (bG s),key:=lW (bG s) n,val:=v}
noncomputable def zz3(s:String)(n:Nat):aa:=lW (bG s) n
noncomputable def zz4(n:Int):aa:=kh n 0
noncomputable def zz6(b:Bool)(n:Nat):aa:=if b then .ref n else .none
def Rw.fo(p:Nat->Stmt)(r:Rw):Obj:=⟨.type "function",none,.func (PySem.W.fnOf r.n r.n (ZaZ (p r.i)) (Zag (p r.i)) (Zo (p r.i)) .none .none .none (.str r.m r.t) none (.ref (r.f-1)) .none),#[]⟩
def Rw.co(r:Rw):Obj:={cls:=bB "code",data:=lF #[zz3 r.n r.u,zz3 r.n (r.u+1),zz3 "/claim/cut.py" (r.u+2),zz4 r.ln,zz4 r.na,zz4 0,zz4 0,zz4 3,.ref (r.f-(if r.b then 6 else 4)),.bool true,zz4 181,.ref (r.f-(if r.b then 5 else 3)),.none,zz6 r.b (r.f-4),zz6 r.b (r.f-3),.ref (r.f-2),zz4 r.v,zz4 r.ln,zz3 "/claim/cut.py" (r.v+1)]}
def Rw.de(P:lH)(r:Rw):lZ:=zz1 P r.n (r.v+2) (.ref r.f)
def Rw.en(p:Nat->Stmt)(r:Rw):Fg:=[(r.f,r.fo p),(r.f-1,r.co)]
structure Cw where
 n:String
 f:Nat
 t:Nat
 ln:Nat
def Cw.cls(r:Cw):Obj:={cls:=bB "type",data:=Data.cls {name:=bG r.n,bases:=[aU 24],mro:=[aU r.f,aU 24,bB "ValueError",bB "Exception",bB "BaseException",bB "object"],ns:=r.f-1,qualname:=bG r.n},slots:= #[some (aU (r.f-9)),none,some (zz3 r.n r.t),some (zz3 r.n (r.t+8)),some (j4 "ValueError.__new__"),some (mG true)]}
def Cw.ns(P:lH)(r:Cw):Obj:={cls:=bB "dict",data:=l6 #[zz1 P "__module__" (r.t+7) (zz3 "rayround.errors" 187),zz1 P "__firstlineno__" (r.t+11) (kh r.ln (r.t+10)),zz1 P "__static_attributes__" (r.t+12) (aU (r.f-2)),zz1 P "__doc__" (r.t+13) bO] 2}
def Cw.de(P:lH)(r:Cw):lZ:=zz1 P r.n (r.t+15) (.ref r.f)
def Cw.en(P:lH)(r:Cw):Fg:=[(r.f,r.cls),(r.f-1,r.ns P)]
end DL
namespace HD
open PySem.W PyProof.Rows
noncomputable def Zrr(thr:jA->Bool)(stp:fH->jA->Option (fH×jA))(n:Nat):fH->jA->Option fH:=
 Nat.rec (motive:=λ_=>fH->jA->Option fH) (λ_ _=>none) (λ_ ih s t=>Bool.rec (motive:=λ_=>Option fH) (Option.rec (motive:=λ_=>Option fH) none (λr=>ih r.1 r.2) (stp s t)) (some s) (thr t)) n
noncomputable def Zju(ok:jA->Bool)(stp:fH->jA->Option (fH×jA))(s:fH)(t:jA):Option (fH×jA):=Bool.rec (motive:=λ_=>Option (fH×jA)) none (stp s t) (ok t)
section
variable {tb:String->Option eS}{p:cD}{w:da}{n₀:Nat}{ann:Option aa}
theorem ZkI:∀{n:Nat}{s s':fH}{t:jA},Zrr mQ (Zju (lI n₀ ann) (mR (kM tb) p w)) n s t=some s'->topRun tb p w n₀ ann n s.abs t=some s'.abs
 |0,s,s',t,h=>by cases h
 |n+1,s,s',t,h=>by
  unfold topRun
  change Bool.rec (motive:=λ_=>Option fH) (Option.rec (motive:=λ_=>Option fH) none (λr=>Zrr mQ (Zju (lI n₀ ann) (mR (kM tb) p w)) n r.1 r.2) (Zju (lI n₀ ann) (mR (kM tb) p w) s t)) (some s) (mQ t)=some s' at h
  cases ht:mQ t with
  |true=>
   rw[ht]at h;have h':some s=some s':=h;cases h';rfl
  |false=>
   rw[ht]at h;cases hk:lI n₀ ann t with
   |false=>
    have e:Zju (lI n₀ ann) (mR (kM tb) p w) s t=none:=by unfold Zju;rw[hk]
    rw[e]at h;cases h
   |true=>
    have e:Zju (lI n₀ ann) (mR (kM tb) p w) s t=mR (kM tb) p w s t:=by unfold Zju;rw[hk]
    rw[e]at h;cases hs:mR (kM tb) p w s t with
    |none=>rw[hs]at h;cases h
    |some r=>
     obtain⟨s2,t2⟩:=r;rw[hs]at h
     have:=stepT_spec hs
     rw[this];exact ZkI (n:=n) h
end
noncomputable def T0(w:da)(os:OsState):fH:=
 ⟨[boot_o_0,boot_o_1,boot_o_2,boot_o_3,boot_o_4,boot_o_5,boot_o_6,boot_o_7,boot_o_8,boot_o_9,boot_o_10].foldl (λ(r:Nat×BT) o=>(r.1+1,r.2.ins r.1 (o w.params))) (0,.nil) |>.2,11,(eZ w.params).life,#[],mI,nh,os⟩
theorem Zov(w:da)(os:OsState):(T0 w os).abs=⟨eZ w.params,#[],mI,nh,os⟩:=by kernel_rfl
theorem Zl3:bG "__annotations__"=⟨#[95,95,97,110,110,111,116,97,116,105,111,110,115,95,95]⟩:=by decide +kernel
theorem Zg3{Yf:aB->α}{Ya:da->α}(e:opening p=plainProg p.main.scope.names)(hN:Nat.ble 600 N=true)(f:∀s,fenceModules? p s=some s)(le:Nat.ble M N=true)(ZrU:∀(w:da)(os:OsState),(Zrr mQ (Zju (lI 11 (some (.ref 6))) (mR (kM l9) p w)) M (T0 w os) (topStub p)).map (λs=>((staticsOk (fV p.main.body) (eZ w.params) s.abs.heap&&namesBound p s.abs.heap&&gensDone s.abs&&laidKept (eZ w.params) s.abs.heap),openSeen q loose (fV p.main.body) Xt true s.abs,Yf s.abs))=some (true,openGood q loose,Ya w)):LeftO p q loose Xt Yf Ya N:=λw=>by
 obtain⟨⟨h,gs,d,k,os⟩,e1,e2⟩:=iy.mp (boot_open e hN f w);obtain⟨rfl,rfl,rfl,rfl⟩:h=eZ w.params/\gs=Array.mk []/\d=mI/\k=nh:=by simpa using e2
 obtain⟨s',r1,r2⟩:=iy.mp (ZrU w os);obtain⟨l1,l2,l3⟩:_/\_/\_:=by simpa only[mz]using r2
 have r:=ZkI r1;rw[Zov]at r;have r:=topRun_mono (N-M) _ _ _ _ r;rw[show M+(N-M)=N by have:=Nat.le_of_ble_eq_true le;lia]at r
 have z1:((eZ w.params).isNs aO&&(Array.mk []:Array GenState).size==0)=true:=by kernel_rfl
 have z2:(eZ w.params).objs.size=11:=rfl;have z3:(eZ w.params).nsMap aO "__annotations__"=some (.ref 6):=by
  rw[Zl3]
  kernel_rfl
 have t:topFrom l9 p w N ⟨eZ w.params,Array.mk [],mI,nh,os⟩=some s'.abs:=by
  unfold topFrom;dsimp only;rw[z1,z2,z3,r];show(match staticsOk (fV p.main.body) (eZ w.params) s'.abs.heap&&namesBound p s'.abs.heap&&gensDone s'.abs&&laidKept (eZ w.params) s'.abs.heap with|true=>_|false=>_)=_
  rw[l1]
 unfold openEnds;rw[e1];show(topFrom l9 p w N _).map _=_;rw[t];exact congrArg some (eO l2 l3)
end HD
namespace HD
open PySem.W
theorem ZrV:@lI=@PySem.W.Fast.tw6613529449190102663:=PySem.W.Fast.te6613529449190102663
theorem Zl4:@mR=@PySem.W.Fast.tw10156331382660048174:=PySem.W.Fast.te10156331382660048174
theorem Zow:@kM=@PySem.W.Fast.tw11892475500146522536:=PySem.W.Fast.te11892475500146522536
theorem Zox:@l9=@PySem.W.Fast.tw14364793385576792824:=PySem.W.Fast.te14364793385576792824
theorem Zl5:@openSeen=@PySem.W.Fast.tw4187177175401517315:=PySem.W.Fast.te4187177175401517315
theorem Zoy:@fV=@PySem.W.Fast.tw5923862056798008813:=PySem.W.Fast.te5923862056798008813
end HD
namespace K50
open L2 DL
noncomputable def top(i:Nat):Stmt:=PySem.Challenge.pw_rayround_k50_dots_moved_by_slopes.main.body.getD i (.Pass ⟨0,0,0,0⟩)
def dS(i:Nat):List (Str×cW):=(Zo (top i)).names
noncomputable abbrev rw0(n:String)(i f u ln na:Nat)(b:Bool)(v:Nat):Rw:=⟨n,i,f,"rayround.wholes",255,u,ln,na,b,v⟩
noncomputable abbrev rw1(n:String)(i f u ln na:Nat)(b:Bool)(v:Nat):Rw:=⟨n,i,f,"rayround.pairs",274,u,ln,na,b,v⟩
noncomputable abbrev rw2(n:String)(i f u ln na:Nat)(b:Bool)(v:Nat):Rw:=⟨n,i,f,"rayround.rounds",292,u,ln,na,b,v⟩
noncomputable abbrev rw3(n:String)(i f u ln na:Nat)(b:Bool)(v:Nat):Rw:=⟨n,i,f,"rayround.ratios",319,u,ln,na,b,v⟩
noncomputable abbrev rw4(n:String)(i f u ln na:Nat)(b:Bool)(v:Nat):Rw:=⟨n,i,f,"rayround.heights",371,u,ln,na,b,v⟩
noncomputable abbrev rw5(n:String)(i f u ln na:Nat)(b:Bool)(v:Nat):Rw:=⟨n,i,f,"rayround.bodies",395,u,ln,na,b,v⟩
noncomputable abbrev rw6(n:String)(i f u ln na:Nat)(b:Bool)(v:Nat):Rw:=⟨n,i,f,"rayround.dots",420,u,ln,na,b,v⟩
noncomputable abbrev rw7(n:String)(i f u ln na:Nat)(b:Bool)(v:Nat):Rw:=⟨n,i,f,"law_rayround_k50_dots_moved_by_slopes",473,u,ln,na,b,v⟩
def tab:List Rw:=[rw0 "is_whole" 6 70 257 11 1 true 261,rw0 "greatest_divisor" 7 77 264 13 2 true 271,rw1 "crossed" 9 84 276 19 2 true 281,rw1 "product" 10 91 284 21 2 true 289,rw2 "following" 12 98 294 24 2 true 299,rw2 "unspanned" 13 105 302 26 1 true 308,rw2 "ask_smooth" 14 112 311 31 1 true 316,rw3 "ratio" 16 119 321 36 2 true 327,rw3 "minus" 17 126 330 45 2 true 335,rw3 "times" 18 133 338 47 2 true 343,rw3 "less" 19 140 346 49 2 true 351,rw3 "common_bottom" 20 147 354 51 1 true 360,rw3 "stretched" 21 154 363 56 2 true 368,rw4 "ask_height" 23 161 373 59 2 true 378,rw4 "slope_through" 24 168 381 62 2 true 392,rw5 "edge" 26 173 397 67 3 false 400,rw5 "in_order" 27 178 403 84 1 false 406,rw5 "body" 28 185 409 87 2 true 417,rw6 "width" 30 190 422 96 2 false 425,rw6 "lessened" 31 197 428 99 3 true 434,rw6 "least_wide" 32 204 437 101 3 true 448,rw6 "two_ways" 33 211 451 112 1 true 458,rw6 "dots_across" 34 216 461 123 4 false 464,rw6 "dots" 35 221 467 134 2 false 470,rw7 "_law_purse" 37 228 475 147 2 true 482,rw7 "_law_take" 38 235 485 153 2 true 491,rw7 "_law_short_put" 39 242 494 160 2 true 500,rw7 "_law_base" 40 247 503 163 2 false 506,rw7 "_law_table" 41 252 509 172 1 false 512,rw7 "_law_spun" 42 257 515 185 4 false 518,rw7 "_law_hull" 43 262 521 191 2 false 524,rw7 "_law_points" 44 269 527 193 2 true 534,rw7 "_law_told" 45 274 537 198 2 false 540,rw7 "law" 46 279 543 200 1 false 546]
noncomputable def Zt4(p:cD)(i:Nat):Stmt:=p.main.body.getD i (.Pass ⟨0,0,0,0⟩)
noncomputable def ZrW:List Cw:=[⟨"NoRatio",37,207,4⟩,⟨"NotSmooth",49,223,6⟩,⟨"NoHeight",61,239,8⟩]
def Kf(p:cD)(P:lH):Fg:=(3,{cls:=bB "dict",data:=l6 ([zz1 P "__name__" 165 (zz3 "law_rayround_k50_dots_moved_by_slopes" 473),zz1 P "__doc__" 166 (bO),zz1 P "__package__" 167 (bO),zz1 P "__loader__" 168 (j4 "__main__.__loader__#opaque"),zz1 P "__spec__" 169 (bO),zz1 P "__annotations__" 170 (aU 6),zz1 P "__builtins__" 171 (aU 4),zz1 P "__file__" 173 (zz3 "/claim/cut.py" 172),zz1 P "__cached__" 174 (bO),zz1 P "RayError" 206 (aU 24)]++ZrW.map (·.de P)++tab.map (·.de P)).toArray 47})::tab.flatMap (·.en (Zt4 p))++ZrW.flatMap (·.en P)++[(4,{cls:=bB "module",dict:=some 0}),
 (23,{cls:=bB "dict",data:=l6 #[zz1 P "__module__" 196 (zz3 "rayround.errors" 187),zz1 P "__firstlineno__" 200 (kh 2 199),zz1 P "__static_attributes__" 201 (aU 22),zz1 P "__weakref__" 203 (aU 25),zz1 P "__doc__" 204 (bO)] 3}),
 (24,{cls:=bB "type",data:=Data.cls {name:=bG "RayError",bases:=[bB "ValueError"],mro:=[aU 24,bB "ValueError",bB "Exception",bB "BaseException",bB "object"],ns:=23,qualname:=bG "RayError",subclasses:=[aU 37,aU 49,aU 61]},slots:= #[some (aU 15),none,some (zz3 "RayError" 189),some (zz3 "RayError" 197),some (j4 "ValueError.__new__"),some (mG true)]})]
def asK:List Addr:=3::tab.flatMap (λr=>[r.f,r.f-1])++ZrW.flatMap (λr=>[r.f,r.f-1])++[4,23,24]
def Tf:Fg:=tab.map (λr=>(r.f-(if r.b then 5 else 3),{cls:=.none,data:=.fields #[]}))++[]
def asT:List Addr:=asK++tab.map (λr=>r.f-(if r.b then 5 else 3))++[]
theorem Zoz(p:cD)(P:lH):asT=(Kf p P++Tf).map (·.1):=by kernel_rfl
def qf(p:cD):cD:={p with main:={p.main with body:=[Zt4 p 46]}}
noncomputable def lo:List Str:=(["__name__","RayError","NoRatio","NotSmooth","NoHeight","is_whole","greatest_divisor","crossed","product","following","unspanned","ask_smooth","ratio","minus","times","less","common_bottom","stretched","ask_height","slope_through","edge","in_order","body","width","lessened","least_wide","two_ways","dots_across","dots","_law_purse","_law_take","_law_short_put","_law_base","_law_table","_law_spun","_law_hull","_law_points","_law_told"]:List String).map bG
open PySem.W
noncomputable abbrev pw:=PySem.Challenge.pw_rayround_k50_dots_moved_by_slopes
abbrev Hk:Hook:=kHook (λP=>Kf pw P++Tf) asT (Zoz pw)
set_option maxRecDepth 1000000 in
set_option maxHeartbeats 0 in
theorem ZrU(w:da)(os:OsState):(HD.Zrr mQ (HD.Zju (lI 11 (some (.ref 6))) (mR (kM l9) PySem.Challenge.pw_rayround_k50_dots_moved_by_slopes w)) 1953 (HD.T0 w os) (topStub PySem.Challenge.pw_rayround_k50_dots_moved_by_slopes)).map (λs=>((staticsOk (fV PySem.Challenge.pw_rayround_k50_dots_moved_by_slopes.main.body) (eZ w.params) s.abs.heap&&namesBound PySem.Challenge.pw_rayround_k50_dots_moved_by_slopes s.abs.heap&&gensDone s.abs&&laidKept (eZ w.params) s.abs.heap),openSeen (qf PySem.Challenge.pw_rayround_k50_dots_moved_by_slopes) lo (fV PySem.Challenge.pw_rayround_k50_dots_moved_by_slopes.main.body) (λs=>xlAt (qf PySem.Challenge.pw_rayround_k50_dots_moved_by_slopes) [] s&&recOk [] s) true s.abs,asT.map s.abs.heap.get?))=some (true,openGood (qf PySem.Challenge.pw_rayround_k50_dots_moved_by_slopes) lo,(Kf PySem.Challenge.pw_rayround_k50_dots_moved_by_slopes w.params++Tf).map λx=>some x.2):=by
 rw[HD.ZrV,HD.Zl4,HD.Zow,HD.Zox,HD.Zl5,HD.Zoy]
 kernel_rfl
set_option maxRecDepth 1000000 in
set_option maxHeartbeats 0 in
theorem Zvc:PySem.W.OpenLaw.wellSaid PySem.Challenge.rw_rayround_k50_dots_moved_by_slopes=true:=by kernel_rfl
end K50
namespace L2
open PyProof.Rows
section
variable (P:cD)(w:da)
end
section
variable {κ:Type}[DecidableEq κ]
noncomputable def Zjc(kvs:List (κ×V))(k:κ):Option V:=(kvs.find? λkv=>decide (kv.1=k)).map (·.2)
noncomputable def Zjd(kvs:List (κ×V))(k:κ)(v:V):List (κ×V):=
 if(kvs.any λkv=>decide (kv.1=k))=true then kvs.map (λkv=>if kv.1=k then(kv.1,v)else kv)else kvs++[(k,v)]
theorem Zfp{p:κ×V}{r:List (κ×V)}{k:κ}(e:p.1=k):Zjc (p::r) k=some p.2:=by simp[Zjc,kZ,e]
theorem Zfq{p:κ×V}{r:List (κ×V)}{k:κ}(e:¬p.1=k):Zjc (p::r) k=Zjc r k:=by simp[Zjc,kZ,e]
theorem Zfr(k:κ):∀kvs:List (κ×V),(kvs.any λkv=>decide (kv.1=k))=(Zjc kvs k).isSome
 |[]=>rfl
 |p::r=>by
  rw[List.any_cons];by_cases e:p.1=k
  .simp only[Zfp e,decide_eq_true e,Bool.true_or,jB]
  .rw[Zfq e,decide_eq_false e,Bool.false_or];exact Zfr k r
theorem Zex(kvs:List (κ×V))(k:κ)(v:V):(Zjd kvs k v).length<=kvs.length+1:=by
 unfold Zjd;split
 .rw[au];lia
 .rw[aY,bD,hO];lia
theorem KV.keys{kvs:List (κ×V)}{vs:List (κ×aa)}(r:KV kvs vs):kvs.map (·.1)=vs.map (·.1):=by
 unfold KV at r
 induction r with
 |nil=>rfl
 |cons h t ih=>rw[aV,aV,ih,h.1]
end
theorem ZrX(r:ZS (kV k) u):(Zaf P w).is k u=true:=by
 cases k with
 |inl i=>obtain⟨t,e⟩:=(show ∃t,u=kh i t from r);subst e;exact Zes P w i t
 |inr x=>obtain⟨t,e⟩:=(show ∃t,u=lW x t from r);subst e;exact Zet P w x t
theorem ZdI{P:cD}{w:da}:∀{ks:List Key}{us:List aa},ZQ (ks.map kV) us->ItemsAre (Zaf P w) ks us
 |[],_,r=>by rw[jd]at r;cases r;exact .nil
 |k::ks,_,r=>by
  rw[aV]at r;cases r with
  |cons h t=>exact .cons (ZrX h) (ZdI t)
theorem ZoA(ok:HOk P w H h)(e:H a=some (.tup (ks.map kV))):(tupleKind (Zaf P w)).is h ks a:=by
 obtain⟨_,its,r,o,h1,h2,n,h3⟩:=(show ZaC P w H h a (.tup (ks.map kV))from ok a _ e);exact⟨o,its.toArray,n,h1,h2,h3,by simpa using ZdI r⟩
theorem Inv.big(I:Inv X pins σ H s):ic<s.heap.objs.size:=by
 have h:aO<s.heap.objs.size:=(I.mod.glob.keeps I.bk).lt;exact iz (by decide) h
theorem Zl6(I:Inv X pins σ H s)(mu:Mut (H a))(hs:ir a s.heap h')(he:∃q,h'.get? a=some q)(new:ZaC X.prog X.w (upd H a ob) h' a ob):Inv X pins σ (upd H a ob) {s with heap:=h',toks:=t'}:=
 I.write (x:=a) (e:=a) mu (.inl rfl) (λb q hb z=>(hs.2 b hb).trans z) he new
structure M1(X:Cx) (o:Expr) (m:Str) (apos:Pos) (e:Expr) (cpos:Pos):Prop where
 base:iN o m X.env (eval o X.env)=eval o X.env
 few:((cT cpos (av [e] X.env)).all (λx=> !x.1)&&(jz cpos (gB [] X.env)).all (λx=>x.1.isSome) && decide (([e]:List Expr).length+([]:List je).length+(if([]:List je).isEmpty then 0 else 1)<30))=true
 line:(apos.endLine==cpos.line)=true
 trees:cT cpos (av [e] X.env)=[(false,eval e X.env)]
structure M2(X:Cx) (o:Expr) (m:Str) (apos:Pos) (e f:Expr) (cpos:Pos):Prop where
 base:iN o m X.env (eval o X.env)=eval o X.env
 few:((cT cpos (av [e,f] X.env)).all (λx=> !x.1)&&(jz cpos (gB [] X.env)).all (λx=>x.1.isSome) && decide (([e,f]:List Expr).length+([]:List je).length+(if([]:List je).isEmpty then 0 else 1)<30))=true
 line:(apos.endLine==cpos.line)=true
 trees:cT cpos (av [e,f] X.env)=[(false,eval e X.env),(false,eval f X.env)]
end L2
namespace Att
open PySem.W PySem.Calls PyProof.Rows
end Att
namespace L2
open PyProof.Rows
section
variable {κ:Type}[DecidableEq κ]
end
end L2
namespace DQ
open PyProof.Rows
structure Fly(B:Heap) (l:List Env) (e:Addr) (cls:aa) (dct:Option Addr) (fl:aa) (h:Heap):Prop where
 stay:B.StaysIn h
 new:B.get? e=none
 frames:h.FunFrames B l
 obj:∃oe vs T oT ts,h.get? e=some oe/\oe.cls=cls/\oe.dict=dct/\oe.data=.fields vs/\vs[2]?=some .none/\vs[1]?=some (.ref T)/\B.get? T=none/\T≠e/\h.get? T=some oT/\oT.data=.fields ts/\ts[3]?=some fl
theorem Fly.tail(f:Fly B (env::l) e cls dct fl h):Fly B l e cls dct fl h:=⟨f.stay,f.new,f.frames.2.2,f.obj⟩
section
variable {A:dg}
theorem apart{h:Heap}(hl:h.FunFrames B l)(he:h.get? e=some oe)(hd:oe.data=.fields vs):e∉l.filterMap (·.frame):=λz=>by
 obtain⟨_,o,h1,h2⟩:=hl.mem z;rw[he]at h1;cases h1;exact h2 vs hd
theorem ZdJ(hfr:A.frames=some (env::outer))(hl:s.heap.FunFrames B (env::outer))(hf:env.frame=some L)(he:s.heap.get? e=some oe)(hs:B.StaysIn s.heap)(hb:B.get? e=none)(hd:oe.data=.fields vs)(hz:2<vs.size)(h2:vs[2]?=some .none)(h:∀h',Fly B (env::outer) e oe.cls oe.dict (eN L) h'->s.heap.UpToSlots h'->Q () {s with heap:=h'}):wpAny M A (frameOf env >>= λa=>entryPlaceOf L hn >>= λpl=>mh head a .none (eN L) .none pl >>= λb=>setField (.ref e) 1 b) Q E s:=by
 have ne:=apart hl he hd;refine Wb (wpAny_frameOf_fun hfr hl hf λh1 k1=>Wb (wpAny_entryPlaceOf λpl hpl=>Wb ?_));unfold mh newFields;refine cF ?_ (hpl.sizeOk5 _ _ _ _ _);generalize hT:([head,aU L,bO,eN L,bO]++(if pl.isEmpty then bf 6 bO else pl)).toArray=ts;have h3:ts[3]?=some (eN L):=by
  rw[<-hT];rcases hpl with rfl|⟨_,_,_,_,_,_,_,rfl⟩<;>simp
 have e1:h1.get? e=some oe:=(k1.2.1 e ne).trans he;have s1:B.StaysIn h1:=λb o hbo=>(k1.2.1 b λz=>by rw[(hl.mem z).1]at hbo;cases hbo).trans (hs b o hbo)
 generalize hoT:({cls:=.type "traceback",dict:=none,data:=.fields ts}:Obj)=oT;have dT:oT.data=.fields ts:=by rw[<-hoT]
 have fT:oT.isFreed=false:=eU dT;have e2:(h1.push oT).get? e=some oe:=Hq _ e1;have nT:h1.objs.size≠e:=bH (Hz e1);refine eL e2 hd (iz (by decide) hz) (h _ ?_ ?_)
 .have d3:=eM hd (·.setIfInBounds 1 (aU h1.objs.size));have e3:=dC (eD (·.setIfInBounds 1 (aU h1.objs.size))) e2 (eU d3);have keep:∀b o,b≠e->h1.get? b=some o->((h1.push oT).update e (eD (·.setIfInBounds 1 (aU h1.objs.size)))).get? b=some o:=λb o hbe x=>by
   rw[aS _ _ (cC hbe)];exact Hq _ x
  have gT:(h1.push oT).get? h1.objs.size=some oT:=aL _ fT;refine⟨λb o x=>keep b o (λz=>by rw[z,hb]at x;cases x) (s1 b o x),hb,hl.of_keeps λb o x y=>?_,_,_,h1.objs.size,oT,ts,e3,jN _ _,?_,d3,?_,?_,s1.fresh,nT,?_,dT,h3⟩
  .obtain⟨sl,z⟩:=k1.2.2 b o x;exact⟨_,keep b _ (λw=>y vs (by rw[w,he]at x;cases x;exact hd)) z,rfl⟩
  .obtain⟨c,d,dd,sl⟩:=oe;cases hd;rfl
  .rw[iD (by decide)]
   exact h2
  .rw[dH (iz (by decide) hz)]
  .rw[aS _ _ (cC nT)];exact gT
 .intro b o x y;obtain⟨sl,z⟩:=k1.2.2 b o x;refine⟨sl,?_⟩;rw[aS _ _ (λw=>y vs (by rw[<-w,he]at x;cases x;exact hd))]
  exact Hq _ z
theorem Zfs(f:Fly B l e cls dct fl s.heap)(h:∀h',Fly B l e cls dct .none h'->s.heap.UpToSlots h'->Q () {s with heap:=h'}):wpAny M A (setFlight (.ref e) none) Q E s:=by
 obtain⟨st,nw,fr,oe,vs,T,oT,ts,g1,g2,g3,g4,g5,g6,g7,g8,g9,g10,g11⟩:=f;have hz:3<ts.size:=(dj.mp g11).1;unfold setFlight;refine Wb (cG g1 g4 g6 ?_);rw[if_pos (by simp)]
 have oth:∀b o,b≠T->s.heap.get? b=some o->(s.heap.update T (eD (·.setIfInBounds 3 bO))).get? b=some o:=λb o hb x=>by
  rw[aS _ _ (cC hb)];exact x
 have nr:∀b o,s.heap.get? b=some o->(∀vs,o.data≠ .fields vs)->b≠T:=λb o x y z=>by
  rw[z,g9]at x;cases x;exact y ts g10
 refine eL g9 g10 hz (h _ ⟨λb o x=>oth b o (λz=>by rw[z,g7]at x;cases x) (st b o x),nw,fr.of_keeps λb o x y=>⟨o,oth b o (nr b o x y) x,rfl⟩,?_⟩ λb o x y=>⟨o.slots,oth b o (nr b o x y) x⟩)
 exact⟨oe,vs,T,_,_,oth e oe (cC g8) g1,g2,g3,g4,g5,g6,g7,g8,dC _ g9 (eU (eM g10 _)),eM g10 _,by rw[dH hz];rfl⟩
theorem Zjv(hfr:A.frames=some (env::outer))(hf:env.frame=some L)(f:Fly B (env::outer) e cls dct .none s.heap)(h:∀h',Fly B (env::outer) e cls dct (eN L) h'->s.heap.UpToSlots h'->Q () {s with heap:=h'}):wpAny M A (ma (.ref e) env) Q E s:=by
 obtain⟨st,nw,fr,oe,vs,T,oT,ts,g1,g2,g3,g4,g5,g6,g7,g8,g9,g10,g11⟩:=f;unfold ma;simp only[hf];refine Wb (cG g1 g4 g6 ?_);rw[if_pos (by simp)]
 refine Wb (cG g9 g10 g11 ?_);rw[if_neg (by simp[eN])]
 have oth:∀b o,b≠T->s.heap.get? b=some o->(s.heap.update T (eD (·.setIfInBounds 3 bO))).get? b=some o:=λb o hb x=>by
  rw[aS _ _ (cC hb)];exact x
 have nr:∀b o,s.heap.get? b=some o->(∀vs,o.data≠ .fields vs)->b≠T:=λb o x y z=>by
  rw[z,g9]at x;cases x;exact y ts g10
 refine Wb (eL g9 g10 (dj.mp g11).1 ?_);refine ZdJ hfr (fr.of_keeps λb o x y=>⟨o,oth b o (nr b o x y) x,rfl⟩) hf (oth e oe (cC g8) g1) (λb o x=>oth b o (λz=>by rw[z,g7]at x;cases x) (st b o x)) nw g4 (dj.mp g5).1 g5 λh' k1 k2=>h h' (g2▸g3▸k1) ?_
 intro b o x y;exact k2 b o (oth b o (nr b o x y) x) y
theorem Zg4(hfr:A.frames=some (env::outer))(hf:env.frame=some L)(f:Fly B (env::outer) e cls dct .none s.heap)(h:∀h',Fly B outer e cls dct .none h'->s.heap.UpToSlots h'->Q () {s with heap:=h'}):wpAny M A (nI env (.ref e)) Q E s:=by
 unfold nI;refine Wb (Zjv hfr hf f λh1 k1 u1=>?_);exact Zfs (s:={s with heap:=h1}) k1 λh2 k2 u2=>h h2 k2.tail (u1.trans u2)
theorem Zg5(hfr:A.frames=some (env::outer))(hf:env.frame=some L)(hl:s.heap.FunFrames B (env::outer))(he:s.heap.get? e=some oe)(hs:B.StaysIn s.heap)(hb:B.get? e=none)(hd:oe.data=.fields vs)(h1:vs[1]?=some .none)(h2:vs[2]?=some .none)(h:∀h',Fly B outer e oe.cls oe.dict .none h'->s.heap.UpToSlots h'->Q () {s with heap:=h'}):wpAny M A (nI env (.ref e)) Q E s:=by
 unfold nI ma;simp only[hf];refine Wb (Wb (cG he hd h1 ?_));rw[if_neg (by decide)]
 refine ZdJ hfr hl hf he hs hb hd (dj.mp h2).1 h2 λh' k1 u1=>?_;exact Zfs (s:={s with heap:=h'}) k1 λh2 k2 u2=>h h2 k2.tail (u1.trans u2)
end
end DQ
namespace DQ
open PyProof.Rows
open PySem.W (Looks findIn mroIn specialIn takesIn clsIn looks_findIn looks_mroIn looks_find findObj KitX)
structure ExcC(K:Fg) (C:Addr):Prop where
 ga:iA K (.ref C) "__getattribute__"=some (some (.builtin "BaseException.__getattribute__"))
 gt:iA K (.ref C) "__getattr__"=some none
 cl:iA K (.ref C) "__class__"=some (some (.builtin "object.__class__"))
 gs:io K (.builtin "object.__class__") "__get__"=some (some (.builtin "getset_descriptor.__get__"))
 tk:jO K (.builtin "object.__class__")=some true
 bx:lJ K C (.type "BaseException")=some true
 ob:lJ K C (.type "object")=some true
 is:(nB K C).isSome=true
end DQ
namespace DL
open PyProof.Rows L2
inductive D where
 |non
 |bl (b:Bool)
 |int (i:Int)
 |str (x:Str)
 |tup (xs:List D)
 |rol (xs:List D)
 |con (xs:List D)
 |ref (n:Nat)
 |err (c:Str) (xs:List D)
 |dk (n:Nat)
 |dt (n:Nat)
 |du (n:Nat)
 |fn (c:Str)
inductive SO where
 |lst (xs:List D)
noncomputable abbrev Sto:=List SO
noncomputable abbrev Ro:=List (Option D)
abbrev W2:=Str->Sto->Prop
abbrev W1:=Ro->Sto->Prop
abbrev W0:=D->Sto->Prop
def SqF(K:Fg)(H:Hp)(a:Addr)(xs:List V):Prop:=
 (∃o,H a=some (.frz o (.lst xs)))\/∃(o:Obj) (its:Array aa) (n:Nat),K.lookup a=some o/\o.cls=.type "list"/\o.dict=none/\o.data=.seq its n/\its.size<=sizeLine/\ZQ xs its.toList
theorem SqF.sq{K:Fg}(h:SqF K H a xs):SqL K H a xs:=by
 rcases h with⟨o,h⟩|h
 .exact .inl (.inr ⟨o,h⟩)
 .exact .inr h
def SqK(K:Fg)(a:Addr)(xs:List V):Prop:=∃(o:Obj) (its:Array aa) (n:Nat),K.lookup a=some o/\o.cls=.type "tuple"/\o.data=.seq its n/\its.size<=sizeLine/\ZQ xs its.toList/\o.dict=none
theorem SqK.sq{K:Fg}(h:SqK K a xs):SqT K H a xs:=by
 obtain⟨o,its,n,h1,h2,h3,h4,h5,_⟩:=h;exact .inr ⟨o,its,n,h1,h2,h3,h4,h5⟩
noncomputable def Zt5:List Str:=[PySem.Str.ofString "where",PySem.Str.ofString "at"]
def EOk(H:Hp)(p C:Addr)(xs:List V):Prop:=∃oe u vs,H p=some (.frz oe u)/\oe.cls=.ref C/\oe.data=.fields vs/\vs[2]?=some .none/\((xs=[]/\oe.dict=none)\/∃dx fs,oe.dict=some dx/\H dx=some (.xd fs)/\fs.map (·.2)=xs/\fs.map (·.1)=Zt5)
noncomputable def Kn(H:Hp)(p:Addr):Option Nat:=match H p with|some (.lst _)=>some 0|some (.dK _)=>some 1|some (.dT _)=>some 2|some (.dU _)=>some 3|some (.frz _ (.dK _))=>some 1|some (.frz _ (.dT _))=>some 2|_=>none
structure RefK(H:Hp) (α:List Addr) (j n:Nat) (p:Addr):Prop where
 at':α[n]?=some p
 kn:Kn H p=some j
theorem Kn.lst{H:Hp}{p:Addr}{xs:List V}(h:H p=some (.lst xs)):Kn H p=some 0:=by unfold Kn;rw[h]
theorem Kn.ne(h:Kn H p=some j)(hq:H q=none):Kn (upd H q o) p=some j:=by
 have:p≠q:=by
  intro z;unfold Kn at h;rw[z,hq]at h;cases h
 unfold Kn;rw[ZD this];exact h
mutual
inductive Rep(K:Fg) (H:Hp) (α:List Addr):V->D->Prop where
 |non:Rep K H α .non .non
 |bl (b:Bool):Rep K H α (.bl b) (.bl b)
 |int (i:Int):Rep K H α (.int i) (.int i)
 |str (x:Str):Rep K H α (.str x) (.str x)
 |tup {p:Addr} {xs:List V} {ds:List D}:H p=some (.tup xs)->Reps K H α xs ds->Rep K H α (.ref p) (.tup ds)
 |rol {p:Addr} {xs:List V} {ds:List D}:SqF K H p xs->Reps K H α xs ds->Rep K H α (.ref p) (.rol ds)
 |con {p:Addr} {xs:List V} {ds:List D}:SqK K p xs->Reps K H α xs ds->Rep K H α (.ref p) (.con ds)
 |ref {p:Addr} {n:Nat}:RefK H α 0 n p->Rep K H α (.ref p) (.ref n)
 |dk {p:Addr} {n:Nat}:RefK H α 1 n p->Rep K H α (.ref p) (.dk n)
 |dt {p:Addr} {n:Nat}:RefK H α 2 n p->Rep K H α (.ref p) (.dt n)
 |du {p:Addr} {n:Nat}:RefK H α 3 n p->Rep K H α (.ref p) (.du n)
 |fn {p:Addr} {c:Str}:PySem.W.nsIn K aO c=some (some (.ref p))->Rep K H α (.ref p) (.fn c)
 |err {p C:Addr} {c:Str} {xs:List V} {ds:List D}:PySem.W.nsIn K aO c=some (some (.ref C))->EOk H p C xs->Reps K H α xs ds->Rep K H α (.ref p) (.err c ds)
inductive Reps(K:Fg) (H:Hp) (α:List Addr):List V->List D->Prop where
 |nil:Reps K H α [] []
 |cons {v:V} {d:D} {vs:List V} {ds:List D}:Rep K H α v d->Reps K H α vs ds->Reps K H α (v::vs) (d::ds)
end
structure Ext(K:Fg) (H H':Hp) (α α':List Addr):Prop where
 tup:∀p xs,H p=some (.tup xs)->H' p=some (.tup xs)
 rol:∀p xs,SqF K H p xs->SqF K H' p xs
 err:∀p C xs,EOk H p C xs->EOk H' p C xs
 kn:∀p j,Kn H p=some j->Kn H' p=some j
 fz:∀p o u,H p=some (.frz o u)->H' p=some (.frz o u)
 al:∃β,α'=α++β
section
variable {K:Fg}{H H':Hp}{α α':List Addr}
theorem Ext.refl:Ext K H H α α:=⟨λ_ _ h=>h,λ_ _ h=>h,λ_ _ _ h=>h,λ_ _ h=>h,λ_ _ _ h=>h,[],(cx _).symm⟩
theorem Ext.trans(a:Ext K H H1 α α1)(b:Ext K H1 H2 α1 α2):Ext K H H2 α α2:=by
 obtain⟨b1,e1⟩:=a.al;obtain⟨b2,e2⟩:=b.al;exact⟨λp xs h=>b.tup p xs (a.tup p xs h),λp xs h=>b.rol p xs (a.rol p xs h),λp C xs h=>b.err p C xs (a.err p C xs h),λp j h=>b.kn p j (a.kn p j h),λp o u h=>b.fz p o u (a.fz p o u h),b1++b2,by rw[e2,e1,cU]⟩
theorem Ext.get0(e:Ext K H H' α α'){n:Nat}(h:α[n]?=some p):α'[n]?=some p:=by
 obtain⟨β,e1⟩:=e.al;have hl:n<α.length:=(aq.mp h).1;rw[e1,aC hl];exact h
theorem Ext.get(e:Ext K H H' α α')(h:RefK H α j n p):RefK H' α' j n p:=⟨e.get0 h.at',e.kn _ _ h.kn⟩
theorem Rep.mono(e:Ext K H H' α α')(h:Rep K H α v d):Rep K H' α' v d:=
 Rep.rec (motive_1:=λv d _=>Rep K H' α' v d) (motive_2:=λv d _=>Reps K H' α' v d) .non .bl .int .str (λh _ r=>.tup (e.tup _ _ h) r) (λh _ r=>.rol (e.rol _ _ h) r) (λh _ r=>.con h r) (λh=>.ref (e.get h)) (λh=>.dk (e.get h)) (λh=>.dt (e.get h)) (λh=>.du (e.get h)) .fn (λn h _ r=>.err n (e.err _ _ _ h) r) .nil (λ_ _ r t=>.cons r t) h
theorem Reps.mono(e:Ext K H H' α α')(h:Reps K H α v d):Reps K H' α' v d:=by
 induction d generalizing v with
 |nil=>cases h;exact .nil
 |cons _ _ ih=>cases h with|cons r t=>exact .cons (r.mono e) (ih t)
theorem Reps.length:∀{vs:List V}{ds:List D},Reps K H α vs ds->vs.length=ds.length:=by
 intro vs
 induction vs with
 |nil=>intro ds h;cases h;rfl
 |cons v vs ih=>
  intro ds h;cases h with
  |cons _ t=>rw[bD,bD,ih t]
theorem Reps.get:∀{vs:List V}{ds:List D}{i:Nat}{d:D},Reps K H α vs ds->ds[i]?=some d->∃v,vs[i]?=some v/\Rep K H α v d
 |_,_,_,_,.nil,e=>by simp at e
 |_,_,0,_,.cons r _,e=>by simp at e;subst e;exact⟨_,rfl,r⟩
 |_,_,i+1,d,.cons _ t,e=>by
  obtain⟨u,h1,h2⟩:=Reps.get (i:=i) (d:=d) t (by simpa using e)
  exact⟨u,by simpa using h1,h2⟩
theorem Reps.set{v:V}{d:D}(r:Rep K H α v d):∀{vs:List V}{ds:List D}(i:Nat),Reps K H α vs ds->Reps K H α (vs.set i v) (ds.set i d)
 |_,_,_,.nil=>.nil
 |_,_,0,.cons _ t=>.cons r t
 |_,_,i+1,.cons q t=>.cons q (Reps.set r i t)
theorem Reps.append:∀{vs ws:List V}{ds es:List D},Reps K H α vs ds->Reps K H α ws es->Reps K H α (vs++ws) (ds++es):=by
 intro vs
 induction vs with
 |nil=>intro ws ds es h s;cases h;exact s
 |cons v vs ih=>
  intro ws ds es h s;cases h with
  |cons r t=>exact .cons r (ih t s)
theorem Reps.ints:∀(ns:List Int),Reps K H α (ns.map V.int) (ns.map D.int)
 |[]=>.nil
 |n::r=>.cons (.int n) (Reps.ints r)
theorem Zg6(h:H q=some (.tup xs))(hp:∀u,H p=some u->(∀ys,u≠ .tup ys)/\∀ob w,u≠ .frz ob w):upd H p o q=some (.tup xs):=by
 rw[ZD (λe=>(hp _ (e▸h)).1 _ rfl)];exact h
theorem Zg7(h:SqF K H q xs)(hp:∀u,H p=some u->∀ob w,u≠ .frz ob w):SqF K (upd H p o) q xs:=by
 rcases h with⟨ob,h⟩|h
 .refine .inl ⟨ob,?_⟩;rw[ZD (λe=>hp _ (e▸h) _ _ rfl)];exact h
 .exact .inr h
theorem ZkJ(h:H q=some (.frz ob u))(hp:∀u,H p=some u->∀ob w,u≠ .frz ob w):upd H p o q=some (.frz ob u):=by
 rw[ZD (λe=>hp _ (e▸h) _ _ rfl)];exact h
theorem Zg8(h:EOk H q C xs)(hp:∀u,H p=some u->(∀ob w,u≠ .frz ob w)/\∀fs,u≠ .xd fs):EOk (upd H p o) q C xs:=by
 obtain⟨oe,u,vs,h1,h2,h3,h4,h5⟩:=h;refine⟨oe,u,vs,?_,h2,h3,h4,?_⟩
 .rw[ZD (λe=>(hp _ (e▸h1)).1 _ _ rfl)];exact h1
 .rcases h5 with h5|⟨dx,fs,k1,k2,k3⟩
  .exact .inl h5
  .refine .inr ⟨dx,fs,k1,?_,k3⟩;rw[ZD (λe=>(hp _ (e▸k2)).2 _ rfl)];exact k2
theorem Ext.new(h:H p=none):Ext K H (upd H p o) α (α++β):=
 ⟨λq xs z=>Zg6 z (λu e=>(by rw[h]at e;cases e)),λq xs z=>Zg7 z (λu e=>(by rw[h]at e;cases e)),λq C xs z=>Zg8 z (λu e=>(by rw[h]at e;cases e)),λq j z=>Kn.ne z h,λq o u z=>ZkJ z (λu e=>(by rw[h]at e;cases e)),β,rfl⟩
theorem Ext.new0(h:H p=none):Ext K H (upd H p o) α α:=by
 have e:=Ext.new (K:=K) (H:=H) (α:=α) (o:=o) h (β:=[]);rw[cx]at e;exact e
theorem Ext.wrK(h:Kn H p=some j)(nf:∀ob w,H p≠some (.frz ob w))(h':Kn (upd H p o) p=some j):Ext K H (upd H p o) α α:=by
 have ne (u:HO) (e:H p=some u):(∀ys,u≠ .tup ys)/\(∀ob w,u≠ .frz ob w)/\∀fs,u≠ .xd fs:=by
  unfold Kn at h;rw[e]at h;refine⟨λys z=>?_,λob w z=>nf ob w (by rw[e,z]),λfs z=>?_⟩<;>subst z<;>cases h
 refine⟨λq xs z=>Zg6 z λu e=>⟨(ne u e).1,(ne u e).2.1⟩,λq xs z=>Zg7 z λu e=>(ne u e).2.1,λq C xs z=>Zg8 z λu e=>⟨(ne u e).2.1,(ne u e).2.2⟩,λq i z=>?_,λq ob u z=>ZkJ z λu e=>(ne u e).2.1,[],(cx _).symm⟩;by_cases c:q=p
 .subst c;rw[h]at z;cases z;exact h'
 .unfold Kn;rw[ZD c];exact z
theorem Ext.wr(h:H p=some (.lst xs)):Ext K H (upd H p (.lst ys)) α α:=Ext.wrK (Kn.lst h) (λob w z=>by rw[h]at z;cases z) (Kn.lst Zx)
noncomputable def ZkK:Key->D
 |.inl i=>.int i
 |.inr x=>.str x
def Zc5(ks:List Key):D:=.tup (ks.map ZkK)
def Zl7(ks:List (List Key)):D:=.tup (ks.map Zc5)
noncomputable def ZaW(K:Fg)(H:Hp)(α:List Addr){κ:Type}(key:κ->D)(kvs:List (κ×V))(ds:List D):Prop:=
 ∃es:List D,ds=bY (λkv e=>D.tup [key kv.1,e]) kvs es/\Reps K H α (kvs.map (·.2)) es
def SOk(K:Fg)(H:Hp)(α:List Addr)(p:Addr):SO->Prop
 |.lst ds=>(∃xs,H p=some (.lst xs)/\Reps K H α xs ds)\/(∃kvs,H p=some (.dK kvs)/\ZaW K H α ZkK kvs ds)\/(∃kvs,H p=some (.dT kvs)/\ZaW K H α Zc5 kvs ds)\/(∃o kvs r,H p=some (.frz o (.dK kvs))/\ds=.non::r/\ZaW K H α ZkK kvs r)\/(∃o kvs r,H p=some (.frz o (.dT kvs))/\ds=.non::r/\ZaW K H α Zc5 kvs r)\/(∃kvs,H p=some (.dU kvs)/\ZaW K H α Zl7 kvs ds)
theorem SOk.there(h:SOk K H α p o):∃u,H p=some u:=by
 cases o with
 |lst ds=>rcases h with⟨_,e,_⟩|⟨_,e,_⟩|⟨_,e,_⟩|⟨_,_,_,e,_⟩|⟨_,_,_,e,_⟩|⟨_,e,_⟩<;>exact⟨_,e⟩
theorem SOk.mono(h:SOk K H α p o)(ex:Ext K H H' α α')(e:H' p=H p):SOk K H' α' p o:=by
 cases o with
 |lst ds=>
  rcases h with⟨xs,h1,h2⟩|⟨kvs,h1,es,h2,h3⟩|⟨kvs,h1,es,h2,h3⟩|⟨o,kvs,r,h1,h0,es,h2,h3⟩|⟨o,kvs,r,h1,h0,es,h2,h3⟩|⟨kvs,h1,es,h2,h3⟩
  .exact .inl ⟨xs,e.trans h1,Reps.mono ex h2⟩
  .exact .inr (.inl ⟨kvs,e.trans h1,es,h2,Reps.mono ex h3⟩)
  .exact .inr (.inr (.inl ⟨kvs,e.trans h1,es,h2,Reps.mono ex h3⟩))
  .exact .inr (.inr (.inr (.inl ⟨o,kvs,r,e.trans h1,h0,es,h2,Reps.mono ex h3⟩)))
  .exact .inr (.inr (.inr (.inr (.inl ⟨o,kvs,r,e.trans h1,h0,es,h2,Reps.mono ex h3⟩))))
  .exact .inr (.inr (.inr (.inr (.inr ⟨kvs,e.trans h1,es,h2,Reps.mono ex h3⟩))))
structure HR(K:Fg) (H:Hp) (α:List Addr) (M:Sto):Prop where
 len:α.length=M.length
 nd:α.Nodup
 ob:∀(n:Nat)(p:Addr)(o:SO),α[n]?=some p->M[n]?=some o->SOk K H α p o
theorem HR.nil:HR K H [] []:=⟨rfl,List.nodup_nil,λn p o h=>by simp at h⟩
theorem Kn.at{H:Hp}(k:Kn H p=some j)(e:H p=some u):(match some u with|some (.lst _)=>some 0|some (.dK _)=>some 1|some (.dT _)=>some 2|some (.dU _)=>some 3|some (.frz _ (.dK _))=>some 1|some (.frz _ (.dT _))=>some 2|_=>none)=some j:=by
 unfold Kn at k;rw[e]at k;exact k
theorem HR.at(h:HR K H α M)(e:RefK H α 0 n p)(m:M[n]?=some (.lst ds)):∃xs,H p=some (.lst xs)/\Reps K H α xs ds:=by
 rcases h.ob n p _ e.at' m with h1|⟨_,h1,_⟩|⟨_,h1,_⟩|⟨_,_,_,h1,_⟩|⟨_,_,_,h1,_⟩|⟨_,h1,_⟩
 .exact h1
 all_goals exact absurd (Kn.at e.kn h1) (λz=>nomatch z)
theorem HR.atU(h:HR K H α M)(e:RefK H α 3 n p)(m:M[n]?=some (.lst ds)):∃kvs,H p=some (.dU kvs)/\ZaW K H α Zl7 kvs ds:=by
 rcases h.ob n p _ e.at' m with⟨_,h1,_⟩|⟨_,h1,_⟩|⟨_,h1,_⟩|⟨_,_,_,h1,_⟩|⟨_,_,_,h1,_⟩|h1
 .exact absurd (Kn.at e.kn h1) (λz=>nomatch z)
 .exact absurd (Kn.at e.kn h1) (λz=>nomatch z)
 .exact absurd (Kn.at e.kn h1) (λz=>nomatch z)
 .exact absurd (Kn.at e.kn h1) (λz=>nomatch z)
 .exact absurd (Kn.at e.kn h1) (λz=>nomatch z)
 .exact h1
theorem RefK.lst{n:Nat}{p:Addr}(e:RefK H α 0 n p):∃xs,H p=some (.lst xs):=by
 have:=e.kn
 unfold Kn at this
 split at this
 .rename_i xs h;exact⟨xs,h⟩
 all_goals cases this
theorem HR.some_at(h:HR K H α M)(e:RefK H α 0 n p):∃xs,H p=some (.lst xs):=e.lst
theorem HR.there(h:HR K H α M){n:Nat}(e:α[n]?=some p):∃u,H p=some u:=by
 have hl:n<α.length:=(aq.mp e).1;have hm:n<M.length:=by rw[<-h.len];exact hl
 exact(h.ob n p M[n] e (Gq hm)).there
theorem HR.tup{M:Sto}{p:Addr}{o:HO}(h:HR K H α M)(hp:H p=none):HR K (upd H p o) α M:=
 ⟨h.len,h.nd,λn q so e m=>by
  obtain⟨u,hu⟩:=h.there e;exact(h.ob n q so e m).mono (Ext.new0 hp) (ZD (ZV hu hp))⟩
theorem HR.newO(h:HR K H α M)(hp:H p=none)(r:SOk K (upd H p o) (α++[p]) p so):HR K (upd H p o) (α++[p]) (M++[so]):=by
 have ex:Ext K H (upd H p o) α (α++[p]):=Ext.new hp;refine⟨by rw[aY,aY,h.len];rfl,?_,λn q so' e m=>?_⟩
 .refine jP.mpr ⟨h.nd,by simp,λa ha b hb=>?_⟩
  have hb':b=p:=by simpa using hb
  obtain⟨n,hn,e⟩:=bS ha;obtain⟨u,z⟩:=h.there (n:=n) (p:=a) (by rw[ae hn,e])
  rw[hb'];exact ZV z hp
 .by_cases hn:n<α.length
  .rw[aC hn]at e;rw[aC (by rw[<-h.len];exact hn)]at m
   obtain⟨u,hu⟩:=h.there e;exact(h.ob n q so' e m).mono ex (ZD (ZV hu hp))
  .have en:n=α.length:=by
    have:n<(α++[p]).length:=(aq.mp e).1
    rw[aY,ge]at this;lia
   subst en;rw[aK (af _),fQ]at e;rw[h.len,aK (af _),fQ]at m;cases e;cases m;exact r
theorem HR.new(h:HR K H α M)(hp:H p=none)(r:Reps K H α xs ds):HR K (upd H p (.lst xs)) (α++[p]) (M++[.lst ds]):=
 h.newO hp (.inl ⟨xs,Zx,Reps.mono (Ext.new hp) r⟩)
theorem Zjw{n:Nat}(h:α.Nodup)(a:α[n]?=some p)(b:α[m]?=some p):n=m:=by
 obtain⟨h1,e1⟩:=aq.mp a;obtain⟨h2,e2⟩:=aq.mp b;exact(List.getElem_inj h).mp (e1.trans e2.symm)
theorem HR.wrO(h:HR K H α M)(e:α[n]?=some p)(ex:Ext K H (upd H p o) α α)(r:SOk K (upd H p o) α p so):HR K (upd H p o) α (M.set n so):=by
 have hn:n<M.length:=by rw[<-h.len];exact(aq.mp e).1
 refine⟨by rw[dA];exact h.len,h.nd,λk q so' e' m=>?_⟩
 by_cases hk:k=n
 .subst hk;rw[e]at e';cases e';rw[aT hn]at m;cases m;exact r
 .rw[be (cC hk)]at m;have hq:q≠p:=λz=>hk (Zjw h.nd (z▸e') e);exact(h.ob k q so' e' m).mono ex (ZD hq)
theorem HR.wr(h:HR K H α M)(e:RefK H α 0 n p)(hp:H p=some (.lst ys))(r:Reps K H α xs ds):HR K (upd H p (.lst xs)) α (M.set n (.lst ds)):=
 h.wrO e.at' (Ext.wr hp) (.inl ⟨xs,Zx,Reps.mono (Ext.wr hp) r⟩)
end
inductive Out(β:Type) where
 |ok (a:β) (M:Sto)
 |exc (c:Str) (M:Sto)
 |bad
abbrev W3:=List D->Sto->Out D
noncomputable def Out.bind(o:Out β)(f:β->Sto->Out γ):Out γ:=match o with
 |.ok a M=>f a M
 |.exc c M=>.exc c M
 |.bad=>.bad
inductive Fl where
 |nx (ρ:Ro) (M:Sto)
 |ret (d:D) (M:Sto)
 |brk (ρ:Ro) (M:Sto)
 |cnt (ρ:Ro) (M:Sto)
 |exc (c:Str) (M:Sto)
 |bad
noncomputable def Zl8(c:Str):Bool:=c==PySem.Str.ofString "NoRound"
def XO(K:Fg)(H:Hp)(α:List Addr)(c:Str)(M:Sto)(dct:Option Addr):Prop:=
 (Zl8 c=false/\HR K H α M/\dct=none)\/(Zl8 c=true/\∃(M0:Sto) (ds:List D) (dx:Addr) (fs:List (Str×V)),M=M0++[.lst ds]/\HR K H α M0/\dct=some dx/\H dx=some (.xd fs)/\fs.map (·.1)=Zt5/\Reps K H α (fs.map (·.2)) ds)
def OG{β γ:Type}(K:Fg)(R:Hp->List Addr->γ->β->Prop)(H:Hp)(α:List Addr)(ξ:XK)(Q:γ->Hp->Prop):Out β->Prop
 |.ok d M'=>∀v H' α',Ext K H H' α α'->HR K H' α' M'->R H' α' v d->Q v H'
 |.exc c M'=>∀C H' α',PySem.W.nsIn K aO c=some (some (.ref C))->Ext K H H' α α'->∀dct,XO K H' α' c M' dct->ξ (.ref C) dct H'
 |.bad=>False
theorem OG.ext{K:Fg}{R:Hp->List Addr->γ->β->Prop}{Q:γ->Hp->Prop}{o:Out β}(h:OG K R H α ξ Q o)(e:Ext K H H1 α α1):OG K R H1 α1 ξ Q o:=by
 cases o with
 |ok d M'=>exact λv H' α' e'=>h v H' α' (e.trans e')
 |exc c M'=>exact λC H' α' n e'=>h C H' α' n (e.trans e')
 |bad=>exact h
abbrev OP(K:Fg):=OG K (Rep K)
abbrev OT(K:Fg):=OG (β:=Bool) (γ:=Bool) K (λ_ _ v d=>v=d)
abbrev OA(K:Fg):=OG K (Reps K)
noncomputable def SR(K:Fg)(H:Hp)(α:List Addr)(σ:L2.St)(ρ:Ro):Prop:=σ.length=ρ.length/\∀(i:Nat)(d:D),ρ[i]?=some (some d)->∃v,σ[i]?=some (some v)/\Rep K H α v d
theorem SR.mono{K:Fg}(h:SR K H α σ ρ)(e:Ext K H H' α α'):SR K H' α' σ ρ:=
 ⟨h.1,λi d q=>let ⟨v,a,b⟩:=h.2 i d q;⟨v,a,Rep.mono e b⟩⟩
theorem SR.set{K:Fg}(h:SR K H α σ ρ)(i:Nat)(r:Rep K H α v d):SR K H α (σ.set i (some v)) (ρ.set i (some d)):=by
 refine⟨by rw[dA,dA];exact h.1,λj e q=>?_⟩
 by_cases hj:j=i
 .subst hj;have hl:j<ρ.length:=by
   have:=(aq.mp q).1
   rw[dA]at this;exact this
  rw[aT hl]at q;cases q;exact⟨v,by rw[aT (by rw[h.1];exact hl)],r⟩
 .rw[be (cC hj)]at q;rw[be (cC hj)];exact h.2 j e q
abbrev Ev:=Ro->Sto->Out D
abbrev Tv:=Ro->Sto->Out Bool
abbrev Av:=Ro->Sto->Out (List D)
abbrev Sv:=Ro->Sto->Fl
def DE(X:Cx)(ξ:XK)(e:Expr)(f:Ev):Prop:=∃t:TE,PE X e t/\∀σ ρ H α M Q,SR X.K H α σ ρ->HR X.K H α M->OP X.K H α ξ Q (f ρ M)->t σ H Q
def DT(X:Cx)(ξ:XK)(e:Expr)(f:Tv):Prop:=∃t:TT,PT X e t/\∀σ ρ H α M Q,SR X.K H α σ ρ->HR X.K H α M->OT X.K H α ξ Q (f ρ M)->t σ H Q
def DW(X:Cx)(ξ:XK)(e:Expr)(f:Tv):Prop:=∃t:TT,PW X e t/\∀σ ρ H α M Q,SR X.K H α σ ρ->HR X.K H α M->OT X.K H α ξ Q (f ρ M)->t σ H Q
def DA(X:Cx)(ξ:XK)(es:List Expr)(f:Av):Prop:=∃t:TA,PA X es t/\∀σ ρ H α M Q,SR X.K H α σ ρ->HR X.K H α M->OA X.K H α ξ Q (f ρ M)->t σ H Q
theorem OG.seq{K:Fg}{R:Hp->List Addr->γ->β->Prop}{R':Hp->List Addr->γ'->β'->Prop}{Q:γ'->Hp->Prop}{Q1:γ->Hp->Prop}{o:Out β}{f:β->Sto->Out β'}(h:OG K R' H α ξ Q (o.bind f))(k:∀d M' v H' α',Ext K H H' α α'->HR K H' α' M'->R H' α' v d->OG K R' H' α' ξ Q (f d M')->Q1 v H'):OG K R H α ξ Q1 o:=by
 cases o with
 |ok d M'=>exact λv H' α' e hr r=>k d M' v H' α' e hr r (OG.ext (o:=f d M') h e)
 |exc c M'=>exact h
 |bad=>exact h
section
variable {X:Cx}{ξ:XK}{fa fb:Ev}
noncomputable def Zf(i:Nat):Ev:=λρ M=>match ρ[i]? with|some (some d)=>.ok d M|_=>.bad
noncomputable def eC(d:D):Ev:=λ_ M=>.ok d M
theorem Zb(i:Nat)(hN:autoParam (X.N[i]?=some x) Qrf._auto_1)(hv:Vis X.env.scope x:=by first|exact dM rfl|exact kJ (dM rfl)|exact kJ (kJ rfl))(hd:autoParam ((x==("__debug__":Str))=false) Qde._auto_1)(hcd:autoParam ((x==("__classdict__":Str))=false) Qde._auto_1):DE X ξ (.Name x pos) (Zf i):=by
 refine⟨_,ZkD hN hv hd hcd,λσ ρ H α M Q s h q=>?_⟩;unfold Zf at q;cases e:ρ[i]? with
 |none=>rw[e]at q;exact q.elim
 |some o=>
  cases o with
  |none=>rw[e]at q;exact q.elim
  |some d=>
   rw[e]at q;obtain⟨v,h1,h2⟩:=s.2 i d e;exact⟨v,h1,q v H α Ext.refl h h2⟩
theorem Zd{j pos}:DE X ξ (.Constant (.int i) j pos) (eC (.int i)):=⟨_,Zn0,λ_ _ H α M _ _ h q=>q _ H α Ext.refl h (.int i)⟩
theorem Zjx{j pos}:DE X ξ (.Constant (.bool i) j pos) (eC (.bl i)):=⟨_,ZrC,λ_ _ H α M _ _ h q=>q _ H α Ext.refl h (.bl i)⟩
theorem ZbR{j pos}:DE X ξ (.Constant .none j pos) (eC .non):=⟨_,Zn1,λ_ _ H α M _ _ h q=>q _ H α Ext.refl h .non⟩
theorem Zce{j pos}:DE X ξ (.Constant (.str x) j pos) (eC (.str x)):=⟨_,Zn2,λ_ _ H α M _ _ h q=>q _ H α Ext.refl h (.str x)⟩
abbrev Bo:=D->D->Sto->Out D
def e2(f:Bo)(fa fb:Ev):Ev:=λρ M=>(fa ρ M).bind λx M1=>(fb ρ M1).bind λy M2=>f x y M2
def BO(X:Cx)(ξ:XK)(r:R2)(f:Bo):Prop:=∀H α M v w x y Q,HR X.K H α M->Rep X.K H α v x->Rep X.K H α w y->OP X.K H α ξ Q (f x y M)->r v w H Q
theorem two{r:R2}{f:Bo}(hb:BO X ξ r f){ta tb:TE}(qa:∀σ ρ H α M Q,SR X.K H α σ ρ->HR X.K H α M->OP X.K H α ξ Q (fa ρ M)->ta σ H Q)(qb:∀σ ρ H α M Q,SR X.K H α σ ρ->HR X.K H α M->OP X.K H α ξ Q (fb ρ M)->tb σ H Q):∀σ ρ H α M Q,SR X.K H α σ ρ->HR X.K H α M->OP X.K H α ξ Q (e2 f fa fb ρ M)->tOp r ta tb σ H Q:=by
 intro σ ρ H α M Q s h q;refine qa σ ρ H α M _ s h (OG.seq q λx M1 v H1 α1 e1 h1 r1 q1=>?_);refine qb σ ρ H1 α1 M1 _ (s.mono e1) h1 (OG.seq q1 λy M2 w H2 α2 e2 h2 r2 q2=>?_);exact hb H2 α2 M2 v w x y Q h2 (Rep.mono e2 r1) r2 q2
theorem Zgj(ho:OpR X (fU op) r)(hf:BO X ξ r f)(ha:DE X ξ a fa)(hb:DE X ξ b fb):DE X ξ (.BinOp a op b pos) (e2 f fa fb):=by
 obtain⟨ta,ha,qa⟩:=ha;obtain⟨tb,hb,qb⟩:=hb;exact⟨_,ZrM ho ha hb,two hf qa qb⟩
theorem ZcK(ho:OpR X (eI op) r)(hf:BO X ξ r f)(ha:DE X ξ a fa)(hb:DE X ξ b fb)(hm:gW op b=false:=by first|exact ZkF _|with_unfolding_all rfl):DE X ξ (.Compare a [op] [b] pos) (e2 f fa fb):=by
 obtain⟨ta,ha,qa⟩:=ha;obtain⟨tb,hb,qb⟩:=hb;exact⟨_,ZlS ho ha hb hm,two hf qa qb⟩
def tv(f:Ev):Tv:=λρ M=>(f ρ M).bind λx M1=>match x with|.bl k=>.ok k M1|_=>.bad
theorem ZoB{t:TE}{f:Ev}(qa:∀σ ρ H α M Q,SR X.K H α σ ρ->HR X.K H α M->OP X.K H α ξ Q (f ρ M)->t σ H Q):∀σ ρ H α M Q,SR X.K H α σ ρ->HR X.K H α M->OT X.K H α ξ Q (tv f ρ M)->Zok t σ H Q:=by
 intro σ ρ H α M Q s h q;refine qa σ ρ H α M _ s h (OG.seq q λx M1 v H1 α1 e1 h1 r1 q1=>?_);cases r1 with
 |bl k=>exact⟨k,rfl,q1 k H1 α1 Ext.refl h1 rfl⟩
 |_=>exact q1.elim
theorem ZE(ho:OpR X (eI op) r)(hf:BO X ξ r f)(ha:DE X ξ a fa)(hb:DE X ξ b fb)(hm:gW op b=false:=by first|exact ZkF _|with_unfolding_all rfl):DT X ξ (.Compare a [op] [b] pos) (tv (e2 f fa fb)):=by
 obtain⟨ta,ha,qa⟩:=ha;obtain⟨tb,hb,qb⟩:=hb;exact⟨_,ZlT ho ha hb hm,ZoB (two hf qa qb)⟩
theorem ZcL(h:DE X ξ e fa)(he:autoParam (∀whole,isTrue e X.env whole=(do let v <-whole;standAt e.pos;holding [v] (truthy v))) Qin._auto_1):DT X ξ e (tv fa):=by
 obtain⟨ta,ha,qa⟩:=h;exact⟨_,Zn3 ha he,ZoB qa⟩
def Zcf(f g:Tv):Tv:=λρ M=>(f ρ M).bind λk M1=>if k=true then g ρ M1 else .ok false M1
def Zg9(f g:Tv):Tv:=λρ M=>(f ρ M).bind λk M1=>if k=true then .ok true M1 else g ρ M1
def ZdK(f:Tv):Tv:=λρ M=>(f ρ M).bind λk M1=>.ok (!k) M1
theorem ZbD(ha:DT X ξ a ga):DW X ξ (.BoolOp .And [a] pos) ga:=let ⟨_,h,q⟩:=ha;⟨_,pw_and1 h,q⟩
theorem ZcM(ha:DT X ξ a ga):DW X ξ (.BoolOp .Or [a] pos) ga:=let ⟨_,h,q⟩:=ha;⟨_,pw_or1 h,q⟩
theorem ZcN(ha:DT X ξ a ga)(hb:DW X ξ (.BoolOp .And (b::rest) pos) gb):DW X ξ (.BoolOp .And (a::b::rest) pos) (Zcf ga gb):=by
 obtain⟨ta,ha,qa⟩:=ha;obtain⟨tb,hb,qb⟩:=hb;refine⟨_,pw_and ha hb,λσ ρ H α M Q s h q=>?_⟩;refine qa σ ρ H α M _ s h (OG.seq q λk M1 v H1 α1 e1 h1 r1 q1=>?_);cases r1;cases k with
 |true=>exact ZnK (qb σ ρ H1 α1 M1 Q (s.mono e1) h1 q1)
 |false=>exact ZnJ (q1 false H1 α1 Ext.refl h1 rfl)
theorem Zgk(ha:DT X ξ a ga)(hb:DW X ξ (.BoolOp .Or (b::rest) pos) gb):DW X ξ (.BoolOp .Or (a::b::rest) pos) (Zg9 ga gb):=by
 obtain⟨ta,ha,qa⟩:=ha;obtain⟨tb,hb,qb⟩:=hb;refine⟨_,pw_or ha hb,λσ ρ H α M Q s h q=>?_⟩;refine qa σ ρ H α M _ s h (OG.seq q λk M1 v H1 α1 e1 h1 r1 q1=>?_);cases r1;cases k with
 |true=>exact ZnK (q1 true H1 α1 Ext.refl h1 rfl)
 |false=>exact ZnJ (qb σ ρ H1 α1 M1 Q (s.mono e1) h1 q1)
theorem ZgB(h:DW X ξ e ga):DT X ξ e ga:=let ⟨_,h,q⟩:=h;⟨_,h.pt,q⟩
theorem Zha(ha:DT X ξ a ga):DT X ξ (.UnaryOp .Not a pos) (ZdK ga):=by
 obtain⟨ta,ha,qa⟩:=ha;refine⟨_,Zn4 ha,λσ ρ H α M Q s h q=>?_⟩;refine qa σ ρ H α M _ s h (OG.seq q λk M1 v H1 α1 e1 h1 r1 q1=>?_);cases r1;exact q1 (!k) H1 α1 Ext.refl h1 rfl
def Zhb(f g:Ev):Ev:=λρ M=>(f ρ M).bind λx M1=>match x with|.bl k=>if k=true then g ρ M1 else .ok (.bl false) M1|_=>.bad
def Zvd(f g:Ev):Ev:=λρ M=>(f ρ M).bind λx M1=>match x with|.bl k=>if k=true then .ok (.bl true) M1 else g ρ M1|_=>.bad
def Zhc(f:Ev):Ev:=λρ M=>(f ρ M).bind λx M1=>match x with|.bl k=>.ok (.bl (!k)) M1|_=>.bad
theorem ZoC{op}(ha:DE X ξ a fa):DE X ξ (.BoolOp op [a] pos) fa:=let ⟨_,h,q⟩:=ha;⟨_,Zn5 h,q⟩
theorem ZoD(ha:DE X ξ a fa)(hb:DE X ξ (.BoolOp .And (b::rest) pos) fb):DE X ξ (.BoolOp .And (a::b::rest) pos) (Zhb fa fb):=by
 obtain⟨ta,ha,qa⟩:=ha;obtain⟨tb,hb,qb⟩:=hb;refine⟨_,Zn6 ha hb,λσ ρ H α M Q s h q=>?_⟩;refine qa σ ρ H α M _ s h (OG.seq q λx M1 v H1 α1 e1 h1 r1 q1=>?_);cases r1 with
 |bl k=>
  refine⟨k,rfl,?_⟩;cases k with
  |true=>exact ZnK (qb σ ρ H1 α1 M1 Q (s.mono e1) h1 q1)
  |false=>exact ZnJ (q1 _ H1 α1 Ext.refl h1 (.bl false))
 |_=>exact q1.elim
theorem ZoE(ha:DE X ξ a fa):DE X ξ (.UnaryOp .Not a pos) (Zhc fa):=by
 obtain⟨ta,ha,qa⟩:=ha;refine⟨_,Zn7 ha,λσ ρ H α M Q s h q=>?_⟩;refine qa σ ρ H α M _ s h (OG.seq q λx M1 v H1 α1 e1 h1 r1 q1=>?_);cases r1 with
 |bl k=>exact⟨k,rfl,q1 _ H1 α1 Ext.refl h1 (.bl (!k))⟩
 |_=>exact q1.elim
def eIf(c:Tv)(f g:Ev):Ev:=λρ M=>(c ρ M).bind λk M1=>if k=true then f ρ M1 else g ρ M1
noncomputable def aNil:Av:=λ_ M=>.ok [] M
def Zc(f:Ev)(g:Av):Av:=λρ M=>(f ρ M).bind λx M1=>(g ρ M1).bind λxs M2=>.ok (x::xs) M2
theorem Ze:DA X ξ [] aNil:=⟨_,ZkG,λ_ _ H α M _ _ h q=>q _ H α Ext.refl h .nil⟩
theorem Za(ha:DE X ξ e fa)(hr:DA X ξ es fs)(hs:autoParam (av (e::es) X.env=(false,eval e X.env)::av es X.env) Qrf._auto_1):DA X ξ (e::es) (Zc fa fs):=by
 obtain⟨ta,ha,qa⟩:=ha;obtain⟨tb,hb,qb⟩:=hr;refine⟨_,Zeu ha hb hs,λσ ρ H α M Q s h q=>?_⟩;refine qa σ ρ H α M _ s h (OG.seq q λx M1 v H1 α1 e1 h1 r1 q1=>?_);refine qb σ ρ H1 α1 M1 _ (s.mono e1) h1 (OG.seq q1 λy M2 w H2 α2 e2 h2 r2 q2=>?_);exact q2 _ H2 α2 Ext.refl h2 (.cons (Rep.mono e2 r1) r2)
def Z7(f:Av):Ev:=λρ M=>(f ρ M).bind λxs M1=>if xs.length<=1000 then .ok (.tup xs) M1 else .bad
def ZbS(f:Av):Ev:=λρ M=>(f ρ M).bind λxs M1=>if xs.length<=1000 then .ok (.ref M1.length) (M1++[.lst xs])else .bad
theorem Zl9(h:n<=1000):n<=sizeLine:=ff (Zg2 h)
theorem ZA{x1}(ha:DA X ξ es fs):DE X ξ (.Tuple es x1 pos) (Z7 fs):=by
 obtain⟨ta,ha,qa⟩:=ha;refine⟨_,Zol ha,λσ ρ H α M Q s h q=>?_⟩;refine qa σ ρ H α M _ s h (OG.seq q λxs M1 vs H1 α1 e1 h1 r1 q1=>?_);by_cases hl:xs.length<=1000
 .rw[if_pos hl]at q1;refine⟨by rw[r1.length];exact Zl9 hl,λp hp=>q1 _ _ α1 (Ext.new0 hp) (h1.tup hp) (.tup Zx (Reps.mono (Ext.new0 hp) r1))⟩
 .rw[if_neg hl]at q1;exact q1.elim
theorem HR.last{K:Fg}(h:HR K H α M)(p:Addr):(α++[p])[M.length]?=some p:=by
 rw[<-h.len,aK (af _),fQ];rfl
theorem ZX(ha:DA X ξ es fs):DE X ξ (.List es pos) (ZbS fs):=by
 obtain⟨ta,ha,qa⟩:=ha;refine⟨_,Zom ha,λσ ρ H α M Q s h q=>?_⟩;refine qa σ ρ H α M _ s h (OG.seq q λxs M1 vs H1 α1 e1 h1 r1 q1=>?_);by_cases hl:xs.length<=1000
 .rw[if_pos hl]at q1;refine⟨by rw[r1.length];exact Zl9 hl,λp hp=>q1 _ _ (α1++[p]) (Ext.new hp) (h1.new hp r1) (.ref ⟨h1.last p,Kn.lst Zx⟩)⟩
 .rw[if_neg hl]at q1;exact q1.elim
end
end DL
namespace DL
open PyProof.Rows L2
open PySem.SeqAt (EqAt RcAt RcNeAt)
noncomputable def Zq(i j:Int):Prop:=gR i<=64\/gR j<=64\/(gR i<=60000000/\gR j<=60000000)
instance (i j:Int):Decidable (Zq i j):=by unfold Zq;infer_instance
theorem Zq.ok(h:Zq i j):IntMulOk i j:=by
 rcases h with h|h|⟨h1,h2⟩
 .exact .of_left h
 .exact .of_right h
 .exact .of_le h1 h2 (by decide)
theorem Zp(m n:Nat)(h1:i.natAbs<2^m)(h2:j.natAbs<2^n)(hm:autoParam (m<=60000000) Qde._auto_1)(hn:autoParam (n<=60000000) Qde._auto_1):Zq i j:=
 .inr (.inr ⟨aM (intBits_le_iff.mpr h1) hm,aM (intBits_le_iff.mpr h2) hn⟩)
noncomputable def Zaz(j:Int):Prop:=j≠0/\j.natAbs.log2<9000
instance (j:Int):Decidable (Zaz j):=by unfold Zaz;infer_instance
theorem Zma:OpR X (fU .Mult) (rI Zq λi j=>.int (i*j)):=opI λ_ _ _ _ _ _ _ hc q=>mul_int q hc.ok
theorem Zjy:OpR X (fU .FloorDiv) (rI (λ_ j=>Zaz j) λi j=>.int (i.fdiv j)):=opI λ_ _ _ _ _ _ _ hc q=>floordiv_int hc.1 q (.inl (PyProof.noPylong_of_log2 hc.2))
noncomputable def dAdd:Bo:=λx y M=>match x,y with
 |.int i,.int j=>.ok (.int (i+j)) M
 |.str i,.str j=>if i.length+j.length<=100000 then .ok (.str (i++j)) M else .bad
 |.ref n,.ref m=>match M[n]?,M[m]? with
  |some (.lst xs),some (.lst ys)=>if xs.length+ys.length<=10000000 then .ok (.ref M.length) (M++[.lst (xs++ys)])else .bad
  |_,_=>.bad
 |.tup xs,.tup ys=>if xs.length+ys.length<=100000/\xs≠[]then .ok (.tup (xs++ys)) M else .bad
 |_,_=>.bad
noncomputable def dSub:Bo:=λx y M=>match x,y with|.int i,.int j=>.ok (.int (i-j)) M|_,_=>.bad
def dMul:Bo:=λx y M=>match x,y with|.int i,.int j=>if Zq i j then .ok (.int (i*j)) M else .bad|_,_=>.bad
def dDiv:Bo:=λx y M=>match x,y with|.int i,.int j=>if Zaz j then .ok (.int (i.fdiv j)) M else .bad|_,_=>.bad
noncomputable def dMod:Bo:=λx y M=>match x,y with|.int i,.int j=>if j≠0 then .ok (.int (i.fmod j)) M else .bad|_,_=>.bad
noncomputable def dPow:Bo:=λx y M=>match x,y with|.int i,.int j=>if 0<=j/\j<=1000000/\i.natAbs<2^64 then .ok (.int (i^j.toNat)) M else .bad|_,_=>.bad
noncomputable def dLt:Bo:=λx y M=>match x,y with|.int i,.int j=>.ok (.bl (decide (i<j))) M|_,_=>.bad
noncomputable def dLe:Bo:=λx y M=>match x,y with|.int i,.int j=>.ok (.bl (decide (i<=j))) M|_,_=>.bad
noncomputable def dGt:Bo:=λx y M=>match x,y with|.int i,.int j=>.ok (.bl (decide (j<i))) M|_,_=>.bad
noncomputable def dGe:Bo:=λx y M=>match x,y with|.int i,.int j=>.ok (.bl (decide (j<=i))) M|_,_=>.bad
theorem ZoF(h:n<=100000):n<=sizeLine:=aM h (by decide)
section
variable {X:Cx}{ξ:XK}
theorem Zbs{r:R2}{f:Bo}{C:Int->Int->Prop}[∀i j,Decidable (C i j)]{g:Int->Int->D}{gV:Int->Int->V}(hg:∀H α i j,Rep X.K H α (gV i j) (g i j))(hf:∀x y M,f x y M=match x,y with|.int i,.int j=>if C i j then .ok (g i j) M else .bad|_,_=>.bad)(hr:∀i j H Q,C i j->Q (gV i j) H->r (.int i) (.int j) H Q):BO X ξ r f:=by
 intro H α M v w x y Q h rv rw' q;rw[hf]at q;cases rv<;>first|exact q.elim|skip
 cases rw'<;>first|exact q.elim|skip
 rename_i i j;by_cases c:C i j
 .simp only[if_pos c]at q;exact hr i j H Q c (q _ H α Ext.refl h (hg H α i j))
 .simp only[if_neg c]at q;exact q.elim
theorem ZoG:BO X ξ (rI0 λi j=>.int (i-j)) dSub:=Zbs (C:=λ_ _=>True) (λ_ _ i j=>.int (i-j)) (λx y M=>by cases x<;>cases y<;>simp[dSub]) λi j H Q _ q=>⟨i,j,rfl,rfl,q⟩
theorem ZoH:BO X ξ (rI Zq λi j=>.int (i*j)) dMul:=Zbs (C:=Zq) (λ_ _ i j=>.int (i*j)) (λx y M=>by cases x<;>cases y<;>rfl) λi j H Q c q=>⟨i,j,rfl,rfl,c,q⟩
theorem ZoI:BO X ξ (rI (λ_ j=>Zaz j) λi j=>.int (i.fdiv j)) dDiv:=Zbs (C:=λ_ j=>Zaz j) (λ_ _ i j=>.int (i.fdiv j)) (λx y M=>by cases x<;>cases y<;>rfl) λi j H Q c q=>⟨i,j,rfl,rfl,c,q⟩
theorem ZoJ:BO X ξ (rI (λ_ j=>j≠0) λi j=>.int (i.fmod j)) dMod:=Zbs (C:=λ_ j=>j≠0) (λ_ _ i j=>.int (i.fmod j)) (λx y M=>by cases x<;>cases y<;>rfl) λi j H Q c q=>⟨i,j,rfl,rfl,c,q⟩
theorem ZoK:BO X ξ (rI Zt1 λi j=>.int (i^j.toNat)) dPow:=Zbs (C:=λi j=>0<=j/\j<=1000000/\i.natAbs<2^64) (λ_ _ i j=>.int (i^j.toNat)) (λx y M=>by cases x<;>cases y<;>rfl) λi j H Q c q=>⟨i,j,rfl,rfl,c,q⟩
theorem Zcg:BO X ξ (rI0 λi j=>.bl (decide (i<j))) dLt:=Zbs (C:=λ_ _=>True) (λ_ _ i j=>.bl _) (λx y M=>by cases x<;>cases y<;>simp[dLt]) λi j H Q _ q=>⟨i,j,rfl,rfl,q⟩
theorem ZrY:BO X ξ (rI0 λi j=>.bl (decide (i<=j))) dLe:=Zbs (C:=λ_ _=>True) (λ_ _ i j=>.bl _) (λx y M=>by cases x<;>cases y<;>simp[dLe]) λi j H Q _ q=>⟨i,j,rfl,rfl,q⟩
theorem ZdL:BO X ξ (rI0 λi j=>.bl (decide (j<i))) dGt:=Zbs (C:=λ_ _=>True) (λ_ _ i j=>.bl _) (λx y M=>by cases x<;>cases y<;>simp[dGt]) λi j H Q _ q=>⟨i,j,rfl,rfl,q⟩
theorem ZoL:BO X ξ (rI0 λi j=>.bl (decide (j<=i))) dGe:=Zbs (C:=λ_ _=>True) (λ_ _ i j=>.bl _) (λx y M=>by cases x<;>cases y<;>simp[dGe]) λi j H Q _ q=>⟨i,j,rfl,rfl,q⟩
theorem Zmb:OpR X (fU .Add) (λx y H Q=>(rI0 (λi j=>.int (i+j)) x y H Q\/(∃i j,x=.str i/\y=.str j/\i.length+j.length<=sizeLine/\Q (.str (i++j)) H))\/(rCat x y H Q\/ZlY X.K x y H Q)):=
 OpR.or (OpR.or Zof Zge) (OpR.or Zot ZlZ)
theorem ZoM:BO X ξ (λx y H Q=>(rI0 (λi j=>.int (i+j)) x y H Q\/(∃i j,x=.str i/\y=.str j/\i.length+j.length<=sizeLine/\Q (.str (i++j)) H))\/(rCat x y H Q\/ZlY X.K x y H Q)) dAdd:=by
 intro H α M v w x y Q h rv rw' q;unfold dAdd at q
 split at q
 .rename_i i j;cases rv;cases rw';exact .inl (.inl ⟨i,j,rfl,rfl,q _ H α Ext.refl h (.int (i+j))⟩)
 .rename_i i j;cases rv;cases rw'
  split at q
  .rename_i c;exact .inl (.inr ⟨i,j,rfl,rfl,ZoF c,q _ H α Ext.refl h (.str _)⟩)
  .exact q.elim
 .rename_i n m;cases rv with
  |@ref p _ hp=>
   cases rw' with
   |@ref p2 _ hp2=>
    split at q
    .rename_i ds ds2 e1 e2
     split at q
     .rename_i c;obtain⟨xs,g1,r1⟩:=h.at hp e1;obtain⟨ys,g2,r2⟩:=h.at hp2 e2;refine .inr (.inl ⟨p,p2,xs,ys,rfl,rfl,g1,g2,by rw[r1.length,r2.length];exact aM c (by decide),λl hl=>?_⟩)
      exact q _ _ (α++[l]) (Ext.new hl) (h.new hl (r1.append r2)) (.ref ⟨h.last l,Kn.lst Zx⟩)
     .exact q.elim
    .exact q.elim
 .rename_i ds ds2;cases rv with
  |@tup p xs _ hp rp=>
   cases rw' with
   |@tup p2 xs2 _ hp2 rp2=>
    split at q
    .rename_i c;have nx:xs≠[]:=λz=>c.2 (by have:=rp.length;rw[z]at this;exact dN this.symm)
     refine .inr (.inr ⟨p,p2,xs,xs2,rfl,rfl,(SqT.of hp),(SqT.of hp2),nx,by rw[rp.length,rp2.length];exact ZoF c.1,λz=>?_,λ_ l hl=>?_⟩)
     .subst z;cases rp2;rw[cx]at q;exact q _ H α Ext.refl h (.tup hp rp)
     .exact q _ _ α (Ext.new0 hl) (h.tup hl) (.tup Zx (Reps.mono (Ext.new0 hl) (rp.append rp2)))
    .exact q.elim
 .exact q.elim
theorem ZF(ha:DE X ξ a fa)(hb:DE X ξ b fb):DE X ξ (.BinOp a .Add b pos) (e2 dAdd fa fb):=Zgj Zmb ZoM ha hb
theorem ZW(ha:DE X ξ a fa)(hb:DE X ξ b fb):DE X ξ (.BinOp a .Sub b pos) (e2 dSub fa fb):=Zgj Zog ZoG ha hb
theorem Zu(ha:DE X ξ a fa)(hb:DE X ξ b fb):DE X ξ (.BinOp a .Mult b pos) (e2 dMul fa fb):=Zgj Zma ZoH ha hb
theorem Zav(ha:DE X ξ a fa)(hb:DE X ξ b fb):DE X ξ (.BinOp a .FloorDiv b pos) (e2 dDiv fa fb):=Zgj Zjy ZoI ha hb
theorem Zbt(ha:DE X ξ a fa)(hb:DE X ξ b fb):DE X ξ (.BinOp a .Mod b pos) (e2 dMod fa fb):=Zgj ZlR ZoJ ha hb
theorem Zhd(ha:DE X ξ a fa)(hb:DE X ξ b fb):DE X ξ (.BinOp a .Pow b pos) (e2 dPow fa fb):=Zgj Zoh ZoK ha hb
def Zch(f:Ev):Ev:=λρ M=>(f ρ M).bind λx M1=>match x with|.int i=>.ok (.int (-i)) M1|_=>.bad
theorem Zab(ha:DE X ξ a fa):DE X ξ (.UnaryOp .USub a pos) (Zch fa):=by
 obtain⟨ta,ha,qa⟩:=ha;refine⟨_,ZrN Zoi ha,λσ ρ H α M Q s h q=>?_⟩;refine qa σ ρ H α M _ s h (OG.seq q λx M1 v H1 α1 e1 h1 r1 q1=>?_);cases r1 with
 |int i=>exact⟨i,rfl,q1 _ H1 α1 Ext.refl h1 (.int (-i))⟩
 |_=>exact q1.elim
def atD(xs:List D)(i:Int)(M:Sto):Out D:=match atI xs i with|some d=>.ok d M|none=>.bad
def dIx:Bo:=λx y M=>match x,y with
 |.tup xs,.int i=>atD xs i M
 |.rol xs,.int i=>atD xs i M
 |.ref n,.int i=>match M[n]? with|some (.lst xs)=>atD xs i M|_=>.bad
 |_,_=>.bad
theorem Reps.atI{K:Fg}(r:Reps K H α vs ds)(h:L2.atI ds i=some d):∃v,L2.atI vs i=some v/\Rep K H α v d:=by
 unfold L2.atI at h ⊢;rw[r.length];cases e:ixN ds.length i with
 |none=>rw[e]at h;cases h
 |some j=>
  rw[e]at h;exact r.get h
theorem ZrZ:BO X ξ (λx y H Q=>Zt2 X.K x y H Q\/Zt3 X.K x y H Q) dIx:=by
 intro H α M v w x y Q h rv rw' q;have at':∀{ds:List D}{i:Int},OP X.K H α ξ Q (atD ds i M)->∃d,L2.atI ds i=some d/\OP X.K H α ξ Q (.ok d M):=λ{ds i} q=>by
  unfold atD at q;cases e:L2.atI ds i with
  |none=>rw[e]at q;exact q.elim
  |some d=>rw[e]at q;exact⟨d,rfl,q⟩
 unfold dIx at q
 split at q
 .rename_i ds i;cases rw';cases rv with
  |@tup p xs _ hp rp=>
   obtain⟨d,e,q⟩:=at' q;obtain⟨v,h1,h2⟩:=rp.atI e;exact .inr ⟨p,xs,i,v,rfl,rfl,(SqT.of hp),h1,q v H α Ext.refl h h2⟩
 .rename_i ds i;cases rw';cases rv with
  |@rol p xs _ hp rp=>
   obtain⟨d,e,q⟩:=at' q;obtain⟨v,h1,h2⟩:=rp.atI e;exact .inl ⟨p,xs,i,v,rfl,rfl,hp.sq,h1,q v H α Ext.refl h h2⟩
 .rename_i n i;cases rw';cases rv with
  |@ref p _ hp=>
   split at q
   .rename_i ds e1;obtain⟨d,e,q⟩:=at' q;obtain⟨xs,g1,r1⟩:=h.at hp e1;obtain⟨v,h1,h2⟩:=r1.atI e;exact .inl ⟨p,xs,i,v,rfl,rfl,SqL.of g1,h1,q v H α Ext.refl h h2⟩
   .exact q.elim
 .exact q.elim
theorem Zl(ha:DE X ξ a fa)(hb:DE X ξ b fb)(hs:ZgY b:=by exact λ_ _=>rfl):DE X ξ (.Subscript a b pos) (e2 dIx fa fb):=by
 obtain⟨ta,ha,qa⟩:=ha;obtain⟨tb,hb,qb⟩:=hb;exact⟨_,ZrS (IxR.or Zl1 Zor) ha hb hs,two ZrZ qa qb⟩
end
inductive Kd where
 |non|bl (b:Bool)|int (i:Int)|str (x:Str)|tup (xs:List D)|lst (xs:List D)
noncomputable def kd(M:Sto):D->Option Kd
 |.non=>some .non
 |.bl b=>some (.bl b)
 |.int i=>some (.int i)
 |.str x=>some (.str x)
 |.tup xs=>some (.tup xs)
 |.rol xs=>some (.lst xs)
 |.con xs=>some (.tup xs)
 |.ref n=>match M[n]? with|some (.lst xs)=>some (.lst xs)|_=>none
 |.err _ _=>none
 |.dk _=>none
 |.dt _=>none
 |.du _=>none
 |.fn _=>none
noncomputable def eqL(f:D->D->Option Bool):List D->List D->Option Bool
 |[],[]=>some true
 |x::xs,y::ys=>match f x y with|some a=>(match eqL f xs ys with|some b=>some (a&&b)|none=>none)|none=>none
 |_,_=>some false
def eqK(f:D->D->Option Bool):Kd->Kd->Option Bool
 |.non,.non=>some true
 |.bl a,.bl b=>some (a==b)
 |.bl a,.int b=>some ((if a then 1 else 0)==b)
 |.int a,.bl b=>some (a==(if b then 1 else 0))
 |.int a,.int b=>some (a==b)
 |.str a,.str b=>some (a==b)
 |.tup xs,.tup ys=>eqL f xs ys
 |.lst xs,.lst ys=>if xs.length=ys.length then eqL f xs ys else some false
 |_,_=>some false
def eqF:Nat->Sto->D->D->Option Bool
 |0,_,_,_=>none
 |n+1,M,x,y=>match kd M x,kd M y with|some a,some b=>eqK (eqF n M) a b|_,_=>none
inductive Vw(X:Cx) (H:Hp) (α:List Addr) (s:aB):Kd->aa->Prop where
 |non:Vw X H α s .non .none
 |bl (b:Bool):Vw X H α s (.bl b) (.bool b)
 |int (i:Int) (t:Tok):Vw X H α s (.int i) (.int i t)
 |str (x:Str) (t:Tok):Vw X H α s (.str x) (.str x t)
 |tup {p:Addr} {xs:List V} {ds:List D} {its:List aa}:s.heap.IsTuple p its.toArray->ZQ xs its->Reps X.K H α xs ds->Vw X H α s (.tup ds) (.ref p)
 |lst {p:Addr} {xs:List V} {ds:List D} {its:List aa}:s.heap.IsList p its.toArray->ZQ xs its->Reps X.K H α xs ds->Vw X H α s (.lst ds) (.ref p)
section
variable {X:Cx}{pins:Pn}{σ:L2.St}{H:Hp}{s:aB}{α:List Addr}{M:Sto}
theorem vw(I:Inv X pins σ H s)(h:HR X.K H α M)(r:Rep X.K H α v x)(ru:ZS v u)(e:kd M x=some k):Vw X H α s k u:=by
 cases r with
 |non=>cases e;cases ru;exact .non
 |bl b=>cases e;cases ru;exact .bl b
 |int i=>cases e;obtain⟨t,rfl⟩:=ru;exact .int i t
 |str x=>cases e;obtain⟨t,rfl⟩:=ru;exact .str x t
 |err _ _ _=>cases e
 |dk _=>cases e
 |dt _=>cases e
 |du _=>cases e
 |fn _=>cases e
 |@tup p xs ds hp rp=>
  cases e;cases ru;obtain⟨its,h1,h2,_⟩:=I.tuple (SqT.of hp);exact .tup h2 h1 rp
 |@con p xs ds hp rp=>
  cases e;cases ru;obtain⟨its,h1,h2,_⟩:=I.tuple hp.sq;exact .tup h2 h1 rp
 |@rol p xs ds hp rp=>
  cases e;cases ru;obtain⟨its,h1,h2,_⟩:=I.list hp.sq;exact .lst h2.isList h1 rp
 |@ref p n hp=>
  cases ru;cases e1:M[n]? with
  |none=>simp only[kd,e1]at e;cases e
  |some o=>
   cases o with
   |lst ds=>
    simp only[kd,e1]at e;cases e;obtain⟨xs,g1,r1⟩:=h.at hp e1;obtain⟨its,h1,h2,_⟩:=I.list (SqL.of g1);exact .lst h2.isList h1 r1
noncomputable def Eq3(A:dg)(s:aB)(u z:aa)(b:Bool):Prop:=EqAt A s u z b/\RcAt A s u z b/\RcNeAt A s u z (!b)
theorem Zhe{f:D->D->Option Bool}:∀{xs ys:List D}{b:Bool},eqL f xs ys=some b->(∀(j:Nat) x y,xs[j]?=some x->ys[j]?=some y->∃c,f x y=some c)/\b=((aJ (min xs.length ys.length)).all (λj=>match xs[j]?,ys[j]? with|some x,some y=>(f x y).getD false|_,_=>false)&&xs.length==ys.length)
 |[],[],b,e=>by
  simp only[eqL,am]at e;subst e;exact⟨λj x y h=>(by simp at h),(by simp)⟩
 |x::xs,[],b,e=>by
  simp only[eqL,am]at e;subst e;exact⟨λj x y h1 h2=>(by simp at h2),(by simp)⟩
 |[],y::ys,b,e=>by
  simp only[eqL,am]at e;subst e;exact⟨λj x y h1 h2=>(by simp at h1),(by simp)⟩
 |x::xs,y::ys,b,e=>by
  cases e1:f x y with
  |none=>simp only[eqL,e1]at e;cases e
  |some a=>
   cases e2:eqL f xs ys with
   |none=>simp only[eqL,e1,e2]at e;cases e
   |some c=>
    simp only[eqL,e1,e2,am]at e;subst e;obtain⟨h1,h2⟩:=Zhe e2;refine⟨λj x' y' g1 g2=>?_,?_⟩
    .cases j with
     |zero=>
      simp at g1 g2;subst g1 g2;exact⟨a,e1⟩
     |succ j=>
      simp at g1 g2;exact h1 j x' y' g1 g2
    .have em:min (x::xs).length (y::ys).length=min xs.length ys.length+1:=by simp only[bD];lia
     rw[em,List.range_succ_eq_map,List.all_cons,List.all_map,h2];simp[e1,Bool.and_assoc,Function.comp_def]
theorem Zjz(I:Inv X pins σ H s)(h:HR X.K H α M):∀(n:Nat){v:V}{x y:D}{b:Bool},Rep X.K H α v x->Rep X.K H α v y->eqF n M x y=some b->b=true:=by
 intro n
 induction n with
 |zero=>intro v x y b _ _ e;simp only[eqF]at e;cases e
 |succ n ih=>
  have lists:∀(vs:List V)(xs ys:List D)(b:Bool),Reps X.K H α vs xs->Reps X.K H α vs ys->eqL (eqF n M) xs ys=some b->b=true:=by
   intro vs
   induction vs with
   |nil=>
    intro xs ys b r1 r2 e;cases r1;cases r2;simp only[eqL,am]at e;exact e.symm
   |cons v vs iv=>
    intro xs ys b r1 r2 e;cases r1 with
    |cons p1 t1=>
     cases r2 with
     |cons p2 t2=>
      rename_i d1 ds1 d2 ds2;cases e1:eqF n M d1 d2 with
      |none=>simp only[eqL,e1]at e;cases e
      |some a=>
       cases e2:eqL (eqF n M) ds1 ds2 with
       |none=>simp only[eqL,e1,e2]at e;cases e
       |some c=>
        simp only[eqL,e1,e2,am]at e;rw[<-e,ih p1 p2 e1,iv _ _ _ t1 t2 e2];rfl
  intro v x y b r1 r2 e;have nl:∀{p:Addr}{xs ys:List V},SqT X.K H p xs->SqL X.K H p ys->False:=λ{p xs ys} a c=>by
   obtain⟨i1,_,⟨o1,g1,c1,_⟩,_⟩:=I.tuple a;obtain⟨i2,_,⟨o2,_,g2,c2,_⟩,_⟩:=I.list c;rw[g1]at g2;cases g2;rw[c1]at c2;exact absurd c2 (by decide)
  have ll:∀{p:Addr}{n:Nat}{ds:List D},RefK H α 0 n p->M[n]?=some (.lst ds)->∃vs,SqL X.K H p vs/\Reps X.K H α vs ds:=λ{p n ds} a c=>by
   obtain⟨xs,g1,r1⟩:=h.at a c;exact⟨xs,SqL.of g1,r1⟩
  cases r1 with
  |non=>cases r2;simp only[eqF,kd,eqK,am]at e;exact e.symm
  |bl c=>cases r2;simp only[eqF,kd,eqK,am,beq_self_eq_true]at e;exact e.symm
  |int c=>cases r2;simp only[eqF,kd,eqK,am,beq_self_eq_true]at e;exact e.symm
  |str c=>cases r2;simp only[eqF,kd,eqK,am,beq_self_eq_true]at e;exact e.symm
  |err _ _ _=>simp[eqF,kd]at e
  |dk _=>simp[eqF,kd]at e
  |dt _=>simp[eqF,kd]at e
  |du _=>simp[eqF,kd]at e
  |fn _=>simp[eqF,kd]at e
  |@tup p xs ds hp rp=>
   cases r2 with
   |@tup _ xs2 ds2 hp2 rp2=>
    cases I.tuple_inj (SqT.of hp) (SqT.of hp2);simp only[eqF,kd,eqK]at e;exact lists _ _ _ _ rp rp2 e
   |@con _ xs2 ds2 hp2 rp2=>
    cases I.tuple_inj (SqT.of hp) hp2.sq;simp only[eqF,kd,eqK]at e;exact lists _ _ _ _ rp rp2 e
   |@rol _ xs2 ds2 hp2 rp2=>exact(nl (SqT.of hp) hp2.sq).elim
   |err _ _ _=>simp[eqF,kd]at e
   |dk _=>simp[eqF,kd]at e
   |dt _=>simp[eqF,kd]at e
   |du _=>simp[eqF,kd]at e
   |fn _=>simp[eqF,kd]at e
   |@ref _ n2 hp2=>
    obtain⟨ys,g⟩:=h.some_at hp2;exact(nl (SqT.of hp) (SqL.of g)).elim
  |@con p xs ds hp rp=>
   cases r2 with
   |@tup _ xs2 ds2 hp2 rp2=>
    cases I.tuple_inj hp.sq (SqT.of hp2);simp only[eqF,kd,eqK]at e;exact lists _ _ _ _ rp rp2 e
   |@con _ xs2 ds2 hp2 rp2=>
    cases I.tuple_inj hp.sq hp2.sq;simp only[eqF,kd,eqK]at e;exact lists _ _ _ _ rp rp2 e
   |@rol _ xs2 ds2 hp2 rp2=>exact(nl hp.sq hp2.sq).elim
   |err _ _ _=>simp[eqF,kd]at e
   |dk _=>simp[eqF,kd]at e
   |dt _=>simp[eqF,kd]at e
   |du _=>simp[eqF,kd]at e
   |fn _=>simp[eqF,kd]at e
   |@ref _ n2 hp2=>
    obtain⟨ys,g⟩:=h.some_at hp2;exact(nl hp.sq (SqL.of g)).elim
  |@rol p xs ds hp rp=>
   cases r2 with
   |@tup _ xs2 ds2 hp2 rp2=>exact(nl (SqT.of hp2) hp.sq).elim
   |@con _ xs2 ds2 hp2 rp2=>exact(nl hp2.sq hp.sq).elim
   |err _ _ _=>simp[eqF,kd]at e
   |dk _=>simp[eqF,kd]at e
   |dt _=>simp[eqF,kd]at e
   |du _=>simp[eqF,kd]at e
   |fn _=>simp[eqF,kd]at e
   |@rol _ xs2 ds2 hp2 rp2=>
    cases I.list_inj hp.sq hp2.sq;simp only[eqF,kd,eqK,if_pos (rp.length.symm.trans rp2.length)]at e;exact lists _ _ _ _ rp rp2 e
   |@ref _ n2 hp2=>
    cases e1:M[n2]? with
    |none=>simp only[eqF,kd,e1]at e;cases e
    |some o=>
     cases o with
     |lst ds2=>
      obtain⟨ys,g,r⟩:=ll hp2 e1;cases I.list_inj hp.sq g;simp only[eqF,kd,e1,eqK,if_pos (rp.length.symm.trans r.length)]at e;exact lists _ _ _ _ rp r e
  |@ref p n1 hp=>
   cases e0:M[n1]? with
   |none=>simp only[eqF,kd,e0]at e;cases e
   |some o0=>
    cases o0 with
    |lst ds=>
     obtain⟨xs,g0,rp⟩:=ll hp e0;cases r2 with
     |@tup _ xs2 ds2 hp2 rp2=>exact(nl (SqT.of hp2) g0).elim
     |@con _ xs2 ds2 hp2 rp2=>exact(nl hp2.sq g0).elim
     |err _ _ _=>simp[eqF,kd,e0]at e
     |dk _=>simp[eqF,kd,e0]at e
     |dt _=>simp[eqF,kd,e0]at e
     |du _=>simp[eqF,kd,e0]at e
     |fn _=>simp[eqF,kd,e0]at e
     |@rol _ xs2 ds2 hp2 rp2=>
      cases I.list_inj g0 hp2.sq;simp only[eqF,kd,e0,eqK,if_pos (rp.length.symm.trans rp2.length)]at e;exact lists _ _ _ _ rp rp2 e
     |@ref _ n2 hp2=>
      cases e1:M[n2]? with
      |none=>simp only[eqF,kd,e0,e1]at e;cases e
      |some o=>
       cases o with
       |lst ds2=>
        obtain⟨ys,g,r⟩:=ll hp2 e1;cases I.list_inj g0 g;simp only[eqF,kd,e0,e1,eqK,if_pos (rp.length.symm.trans r.length)]at e;exact lists _ _ _ _ rp r e
end
end DL
namespace DL
open PyProof.Rows L2
open PySem.SeqAt (EqAt RcAt RcNeAt)
section
variable {X:Cx}{pins:Pn}{σ:L2.St}{H:Hp}{s:aB}{α:List Addr}{M:Sto}
theorem Zft(v1:ZQ xs1 i1)(v2:ZQ xs2 i2)(r1:Reps X.K H α xs1 ds1)(r2:Reps X.K H α xs2 ds2)(ih:∀(x y:D)(v w:V)(u z:aa)(b:Bool),eqF n M x y=some b->Rep X.K H α v x->Rep X.K H α w y->ZS v u->ZS w z->EqAt A s u z b)(e:eqL (eqF n M) ds1 ds2=some b):∃f:Nat->Bool,(∀(j:Nat)(h1:j<i1.toArray.size)(h2:j<i2.toArray.size),EqAt A s i1.toArray[j] i2.toArray[j] (f j))/\b=((aJ (min i1.toArray.size i2.toArray.size)).all f&&i1.toArray.size==i2.toArray.size):=by
 obtain⟨g1,g2⟩:=Zhe e;have l1:i1.toArray.size=ds1.length:=by rw[ah,<-v1.length,r1.length]
 have l2:i2.toArray.size=ds2.length:=by rw[ah,<-v2.length,r2.length]
 refine⟨_,λj h1 h2=>?_,by rw[l1,l2];exact g2⟩
 have k1:j<ds1.length:=by rw[<-l1];exact h1
 have k2:j<ds2.length:=by rw[<-l2];exact h2
 obtain⟨c,hc⟩:=g1 j _ _ (Gq k1) (Gq k2);obtain⟨v,a1,a2⟩:=r1.get (Gq k1);obtain⟨w,b1,b2⟩:=r2.get (Gq k2);obtain⟨u,a3,a4⟩:=v1.get a1;obtain⟨z,b3,b4⟩:=v2.get b1;have q:=ih _ _ v w u z c hc a2 b2 a4 b4;simp only[ae k1,ae k2,hc,iI];have e1:i1.toArray[j]=u:=by
  have:=aq.mp a3
  obtain⟨_,z⟩:=this
  simpa using z
 have e2:i2.toArray[j]=z:=by
  have:=aq.mp b3
  obtain⟨_,z⟩:=this
  simpa using z
 rw[e1,e2];exact q
theorem Zhf(I:Inv X pins σ H s)(h:HR X.K H α M)(e:eqF n M x y=some b)(rx:Rep X.K H α v x)(ry:Rep X.K H α w y)(rv:ZS v (.ref p))(rw':ZS w (.ref q))(k:RcAt A s (.ref p) (.ref q) b)(k':RcNeAt A s (.ref p) (.ref q) (!b)):Eq3 A s (.ref p) (.ref q) b:=by
 refine⟨?_,k,k'⟩;by_cases c:p=q
 .subst c;cases ZS.inj rv rw';rw[Zjz I h n rx ry e];exact EqAt.same _
 .exact EqAt.of_refs c k
theorem eq3(I:Inv X pins σ H s)(h:HR X.K H α M):∀(n:Nat)(x y:D)(v w:V)(u z:aa)(b:Bool)(A:dg),A.units+n<jo->eqF n M x y=some b->Rep X.K H α v x->Rep X.K H α w y->ZS v u->ZS w z->Eq3 A s u z b:=by
 intro n
 induction n with
 |zero=>intro x y v w u z b A _ e;simp only[eqF]at e;cases e
 |succ n ih=>
  intro x y v w u z b A hn e rx ry rv rw';have hu:A.units<jo:=⋯
  have e0:=e;unfold eqF at e;cases ka:kd M x with
  |none=>rw[ka]at e;cases e
  |some ka'=>
   cases kb:kd M y with
   |none=>rw[ka,kb]at e;cases e
   |some kb'=>
    rw[ka,kb]at e;have va:=vw I h rx rv ka;have vb:=vw I h ry rw' kb;have deep:∀(x y:D)(v w:V)(u z:aa)(b:Bool),eqF n M x y=some b->Rep X.K H α v x->Rep X.K H α w y->ZS v u->ZS w z->EqAt A.in1 s u z b:=λx y v w u z b e a1 a2 a3 a4=>
     (ih x y v w u z b A.in1 (by rw[dg.in1_units];lia) e a1 a2 a3 a4).1
    cases va with
    |non=>
     cases vb<;>simp only[eqK,am]at e<;>subst e
     .exact⟨EqAt.same _,.none_none,.none_none⟩
     .exact⟨.none_bool _,.none_bool _,.none_bool _⟩
     .exact⟨.none_int _ _,.none_int _ _,.none_int _ _⟩
     .exact⟨.none_str _ _,.none_str _ _,.none_str _ _⟩
     .rename_i g _ _;exact⟨.none_tuple g hu,.none_tuple g hu,.none_tuple g hu⟩
     .rename_i g _ _;exact⟨.none_list g hu,.none_list g hu,.none_list g hu⟩
    |bl c=>
     cases vb<;>simp only[eqK,am]at e<;>subst e
     .exact⟨.bool_none _,.bool_none _,.bool_none _⟩
     .exact⟨.bool_bool _ _,.bool_bool _ _,.bool_bool _ _⟩
     .exact⟨.bool_int _ _ _,.bool_int _ _ _,.bool_int _ _ _⟩
     .exact⟨.bool_str _ _ _,.bool_str _ _ _,.bool_str _ _ _⟩
     .rename_i g _ _;exact⟨.bool_tuple _ g hu,.bool_tuple _ g hu,.bool_tuple _ g hu⟩
     .rename_i g _ _;exact⟨.bool_list _ g hu,.bool_list _ g hu,.bool_list _ g hu⟩
    |int c t=>
     cases vb<;>simp only[eqK,am]at e<;>subst e
     .exact⟨.int_none _ _,.int_none _ _,.int_none _ _⟩
     .exact⟨.int_bool _ _ _,.int_bool _ _ _,.int_bool _ _ _⟩
     .exact⟨.int_int _ _ _ _,.int_int _ _ _ _,.int_int _ _ _ _⟩
     .exact⟨.int_str _ _ _ _,.int_str _ _ _ _,.int_str _ _ _ _⟩
     .rename_i g _ _;exact⟨.int_tuple _ _ g hu,.int_tuple _ _ g hu,.int_tuple _ _ g hu⟩
     .rename_i g _ _;exact⟨.int_list _ _ g hu,.int_list _ _ g hu,.int_list _ _ g hu⟩
    |str c t=>
     cases vb<;>simp only[eqK,am]at e<;>subst e
     .exact⟨.str_none _ _,.str_none _ _,.str_none _ _⟩
     .exact⟨.str_bool _ _ _,.str_bool _ _ _,.str_bool _ _ _⟩
     .exact⟨.str_int _ _ _ _,.str_int _ _ _ _,.str_int _ _ _ _⟩
     .exact⟨.str_str _ _ _ _,.str_str _ _ _ _,.str_str _ _ _ _⟩
     .rename_i g _ _;exact⟨.str_tuple _ _ g hu,.str_tuple _ _ g hu,.str_tuple _ _ g hu⟩
     .rename_i g _ _;exact⟨.str_list _ _ g hu,.str_list _ _ g hu,.str_list _ _ g hu⟩
    |@tup p xs ds its g1 w1 q1=>
     cases vb with
     |@tup p2 xs2 ds2 its2 g2 w2 q2=>
      simp only[eqK]at e;obtain⟨f,hf,hb⟩:=Zft w1 w2 q1 q2 deep e;subst hb;exact Zhf I h e0 rx ry rv rw' (.tuples g1 g2 hu hf) (.tuples g1 g2 hu hf)
     |@lst p2 xs2 ds2 its2 g2 w2 q2=>
      simp only[eqK,am]at e;subst e;exact Zhf I h e0 rx ry rv rw' (.tuple_list g1 g2 hu) (.tuple_list g1 g2 hu)
     |non=>simp only[eqK,am]at e;subst e;exact⟨.tuple_none g1 hu,.tuple_none g1 hu,.tuple_none g1 hu⟩
     |bl c=>simp only[eqK,am]at e;subst e;exact⟨.tuple_bool _ g1 hu,.tuple_bool _ g1 hu,.tuple_bool _ g1 hu⟩
     |int c t=>simp only[eqK,am]at e;subst e;exact⟨.tuple_int _ _ g1 hu,.tuple_int _ _ g1 hu,.tuple_int _ _ g1 hu⟩
     |str c t=>simp only[eqK,am]at e;subst e;exact⟨.tuple_str _ _ g1 hu,.tuple_str _ _ g1 hu,.tuple_str _ _ g1 hu⟩
    |@lst p xs ds its g1 w1 q1=>
     cases vb with
     |@lst p2 xs2 ds2 its2 g2 w2 q2=>
      simp only[eqK]at e;have l1:its.toArray.size=ds.length:=by rw[ah,<-w1.length,q1.length]
      have l2:its2.toArray.size=ds2.length:=by rw[ah,<-w2.length,q2.length]
      by_cases c:ds.length=ds2.length
      .rw[if_pos c]at e;have hs:its.toArray.size=its2.toArray.size:=by rw[l1,l2,c]
       obtain⟨f,hf,hb⟩:=Zft w1 w2 q1 q2 deep e;rw[hs,mS,beq_self_eq_true,Bool.and_true,<-hs]at hb;subst hb;exact Zhf I h e0 rx ry rv rw' (.lists g1 g2 hs hu hf) (.lists g1 g2 hs hu hf)
      .rw[if_neg c]at e;have e':false=b:=aQ e;subst e';have hs:(its.toArray.size != its2.toArray.size)=true:=by rw[l1,l2];simpa using c
       exact Zhf I h e0 rx ry rv rw' (.lists_lengths g1 g2 hs hu) (.lists_lengths g1 g2 hs hu)
     |@tup p2 xs2 ds2 its2 g2 w2 q2=>
      simp only[eqK,am]at e;subst e;exact Zhf I h e0 rx ry rv rw' (.list_tuple g1 g2 hu) (.list_tuple g1 g2 hu)
     |non=>simp only[eqK,am]at e;subst e;exact⟨.list_none g1 hu,.list_none g1 hu,.list_none g1 hu⟩
     |bl c=>simp only[eqK,am]at e;subst e;exact⟨.list_bool _ g1 hu,.list_bool _ g1 hu,.list_bool _ g1 hu⟩
     |int c t=>simp only[eqK,am]at e;subst e;exact⟨.list_int _ _ g1 hu,.list_int _ _ g1 hu,.list_int _ _ g1 hu⟩
     |str c t=>simp only[eqK,am]at e;subst e;exact⟨.list_str _ _ g1 hu,.list_str _ _ g1 hu,.list_str _ _ g1 hu⟩
end
section
def Zrs(X:Cx)(neg:Bool):R2:=λv w H Q=>∃α M x y b,HR X.K H α M/\Rep X.K H α v x/\Rep X.K H α w y/\eqF 12 M x y=some b/\Q (.bl (neg ^^ b)) H
theorem Zci(hu:X.A.units+64<jo):OpR X (eI .Eq) (Zrs X false):=by
 intro pins s σ H v w u z Q I rv rw' hz;obtain⟨α,M,x,y,b,h,rx,ry,e,q⟩:=hz;refine(eq3 I h 12 x y v w u z b X.A ⋯ e rx ry rv rw').2.1 _ _ _ _ ⟨.bl b,H,I,rfl,?_⟩
 simpa using q
theorem ZdM(hu:X.A.units+64<jo):OpR X (eI .NotEq) (Zrs X true):=by
 intro pins s σ H v w u z Q I rv rw' hz;obtain⟨α,M,x,y,b,h,rx,ry,e,q⟩:=hz;refine(eq3 I h 12 x y v w u z b X.A ⋯ e rx ry rv rw').2.2 _ _ _ _ ⟨.bl (!b),H,I,rfl,?_⟩
 simpa using q
def dEq:Bo:=λx y M=>match eqF 12 M x y with|some b=>.ok (.bl b) M|none=>.bad
def dNe:Bo:=λx y M=>match eqF 12 M x y with|some b=>.ok (.bl (!b)) M|none=>.bad
theorem Zey:BO X ξ (Zrs X false) dEq:=by
 intro H α M v w x y Q h rv rw' q;unfold dEq at q;cases e:eqF 12 M x y with
 |none=>rw[e]at q;exact q.elim
 |some b=>rw[e]at q;exact⟨α,M,x,y,b,h,rv,rw',e,by simpa using q _ H α Ext.refl h (.bl b)⟩
theorem Zhg:BO X ξ (Zrs X true) dNe:=by
 intro H α M v w x y Q h rv rw' q;unfold dNe at q;cases e:eqF 12 M x y with
 |none=>rw[e]at q;exact q.elim
 |some b=>rw[e]at q;exact⟨α,M,x,y,b,h,rv,rw',e,by simpa using q _ H α Ext.refl h (.bl (!b))⟩
noncomputable def Zhh:V->Bool
 |.non=>true
 |.bl _=>true
 |_=>false
def rIs(neg:Bool):R2:=λv w H Q=>Zhh w=true/\Q (.bl (neg ^^ decide (v=w))) H
theorem Zfu(rv:ZS v u)(rw':ZS w z)(p:Zhh w=true):plainIs u z=true/\(u==z)=decide (v=w):=by
 cases w with
 |non=>
  cases rw';cases v with
  |non=>cases rv;exact⟨rfl,rfl⟩
  |bl b=>cases rv;exact⟨rfl,by rw[decide_eq_false (λz=>(nomatch z))];rfl⟩
  |int b=>obtain⟨t,rfl⟩:=rv;exact⟨rfl,by rw[decide_eq_false (λz=>(nomatch z))];rfl⟩
  |str b=>obtain⟨t,rfl⟩:=rv;exact⟨rfl,by rw[decide_eq_false (λz=>(nomatch z))];rfl⟩
  |byt b=>obtain⟨t,rfl⟩:=rv;exact⟨rfl,by rw[decide_eq_false (λz=>(nomatch z))];rfl⟩
  |flt b=>obtain⟨t,rfl⟩:=rv;exact⟨rfl,by rw[decide_eq_false (λz=>(nomatch z))];rfl⟩
  |ref b=>cases rv;exact⟨rfl,by rw[decide_eq_false (λz=>(nomatch z))];rfl⟩
  |ty b=>cases rv;exact⟨rfl,by rw[decide_eq_false (λz=>(nomatch z))];rfl⟩
 |bl c=>
  cases rw';cases v with
  |non=>cases rv;exact⟨rfl,by rw[decide_eq_false (λz=>(nomatch z))];rfl⟩
  |bl b=>cases rv;refine⟨rfl,?_⟩;cases b<;>cases c<;>rfl
  |int b=>obtain⟨t,rfl⟩:=rv;exact⟨rfl,by rw[decide_eq_false (λz=>(nomatch z))];rfl⟩
  |str b=>obtain⟨t,rfl⟩:=rv;exact⟨rfl,by rw[decide_eq_false (λz=>(nomatch z))];rfl⟩
  |byt b=>obtain⟨t,rfl⟩:=rv;exact⟨rfl,by rw[decide_eq_false (λz=>(nomatch z))];rfl⟩
  |flt b=>obtain⟨t,rfl⟩:=rv;exact⟨rfl,by rw[decide_eq_false (λz=>(nomatch z))];rfl⟩
  |ref b=>cases rv;exact⟨rfl,by rw[decide_eq_false (λz=>(nomatch z))];rfl⟩
  |ty b=>cases rv;exact⟨rfl,by rw[decide_eq_false (λz=>(nomatch z))];rfl⟩
 |_=>cases p
theorem Zfv:OpR X (eI .Is) (rIs false):=by
 intro pins s σ H v w u z Q I rv rw' hz;obtain⟨p,q⟩:=hz;obtain⟨h1,h2⟩:=Zfu rv rw' p;refine wpAny_is_plain h1 ⟨.bl (u==z),H,I,rfl,?_⟩;rw[h2]
 simpa using q
theorem Zhi:OpR X (eI .IsNot) (rIs true):=by
 intro pins s σ H v w u z Q I rv rw' hz;obtain⟨p,q⟩:=hz;obtain⟨h1,h2⟩:=Zfu rv rw' p;refine wpAny_isNot_plain h1 ⟨.bl (!(u==z)),H,I,rfl,?_⟩;rw[h2]
 simpa using q
noncomputable def isP:D->D->Option Bool
 |.non,.non=>some true
 |.bl a,.bl b=>some (a==b)
 |_,.non=>some false
 |_,.bl _=>some false
 |_,_=>none
def dIs:Bo:=λx y M=>match isP x y with|some b=>.ok (.bl b) M|none=>.bad
def dIsNot:Bo:=λx y M=>match isP x y with|some b=>.ok (.bl (!b)) M|none=>.bad
theorem ZkL{K:Fg}(rv:Rep K H α v x)(rw':Rep K H α w y)(e:isP x y=some b):Zhh w=true/\decide (v=w)=b:=by
 unfold isP at e
 split at e
 .cases rv;cases rw';cases e;exact⟨rfl,rfl⟩
 .rename_i c d;cases rv;cases rw';cases e;refine⟨rfl,?_⟩;cases c<;>cases d<;>rfl
 .rename_i hx;cases rw';cases e;refine⟨rfl,decide_eq_false λz=>?_⟩;subst z;cases rv;exact hx rfl
 .rename_i c hx;cases rw';cases e;refine⟨rfl,decide_eq_false λz=>?_⟩;subst z;cases rv;exact hx _ rfl
 .cases e
theorem ZjA:BO X ξ (rIs false) dIs:=by
 intro H α M v w x y Q h rv rw' q;unfold dIs at q;cases e:isP x y with
 |none=>rw[e]at q;exact q.elim
 |some b=>
  rw[e]at q;obtain⟨p,d⟩:=ZkL rv rw' e;exact⟨p,by rw[d];simpa using q _ H α Ext.refl h (.bl b)⟩
theorem ZjB:BO X ξ (rIs true) dIsNot:=by
 intro H α M v w x y Q h rv rw' q;unfold dIsNot at q;cases e:isP x y with
 |none=>rw[e]at q;exact q.elim
 |some b=>
  rw[e]at q;obtain⟨p,d⟩:=ZkL rv rw' e;exact⟨p,by rw[d];simpa using q _ H α Ext.refl h (.bl (!b))⟩
noncomputable def ZoN:D->Bool
 |.non=>true
 |.bl _=>true
 |.int _=>true
 |.str _=>true
 |_=>false
noncomputable def Zve:D->D->Bool
 |.non,.non=>true
 |.bl a,.bl b=>a==b
 |.bl a,.int b=>(if a then 1 else 0)==b
 |.int a,.bl b=>a==(if b then 1 else 0)
 |.int a,.int b=>a==b
 |.str a,.str b=>a==b
 |_,_=>false
noncomputable def Zeq(M:Sto):D->Option (List D)
 |.tup xs=>some xs
 |.rol xs=>some xs
 |.con xs=>some xs
 |.ref n=>match M[n]? with|some (.lst xs)=>some xs|_=>none
 |_=>none
theorem Zez{K:Fg}(h:HR K H α M)(r:Rep K H α v x)(e:Zeq M x=some ds):∃p xs,v=.ref p/\(SqL K H p xs\/SqT K H p xs)/\Reps K H α xs ds:=by
 cases r with
 |@tup p xs ds hp rp=>cases e;exact⟨p,xs,rfl,.inr (SqT.of hp),rp⟩
 |@con p xs ds hp rp=>cases e;exact⟨p,xs,rfl,.inr hp.sq,rp⟩
 |@rol p xs ds hp rp=>cases e;exact⟨p,xs,rfl,.inl hp.sq,rp⟩
 |@ref p n hp=>
  cases e1:M[n]? with
  |none=>simp only[Zeq,e1]at e;cases e
  |some o=>
   cases o with
   |lst es=>
    simp only[Zeq,e1]at e;cases e;obtain⟨xs,g1,r1⟩:=h.at hp e1;exact⟨p,xs,rfl,.inl (SqL.of g1),r1⟩
 |_=>cases e
def inD(x y:D)(M:Sto):Option Bool:=match Zeq M y with|some ds=>if ZoN x=true/\ds.all ZoN=true then some (ds.any λy=>Zve y x)else none|none=>none
variable {x:Str}{id T:String}
def Zj(f:W3)(fs:Av):Ev:=λρ M=>(fs ρ M).bind f
def CO(X:Cx)(ξ:XK)(r:List V->Hp->VK->Prop)(f:W3):Prop:=∀H α M vs ds Q,HR X.K H α M->Reps X.K H α vs ds->OP X.K H α ξ Q (f ds M)->r vs H Q
theorem Zw(hc:Zbk X (.builtin id) r)(hf:CO X ξ r f)(hm:X.mg x=none)(hv:bK x=some (.builtin id))(ha:DA X ξ (e::es) fs)(hg:autoParam (Gl X x) Qrf._auto_1)(hn:autoParam (x≠"__name__") Qde._auto_1)(hdb:autoParam ((x==("__debug__":Str))=false) Qde._auto_1)
  (he:av (e::es) X.env=(false,eval e X.env)::av es X.env:=by rfl) (hpl:(cT pos (av es X.env)).any (·.1)=false:=by rfl):DE X ξ (.Call (.Name x p) (e::es) [] pos) (Zj f fs):=by
 obtain⟨ta,ha,qa⟩:=ha;refine⟨_,Zfo hc hg hm hv ha hn hdb he hpl,λσ ρ H α M Q s h q=>?_⟩;exact qa σ ρ H α M _ s h (OG.seq q λds M1 vs H1 α1 e1 h1 r1 q1=>hf H1 α1 M1 vs ds Q h1 r1 q1)
theorem ZaD(hc:Zbk X (.type T) r)(hf:CO X ξ r f)(hm:X.mg x=none)(hv:bK x=some (.type T))(ha:DA X ξ (e::es) fs)(hg:autoParam (Gl X x) Qrf._auto_1)(hn:autoParam (x≠"__name__") Qde._auto_1)(hdb:autoParam ((x==("__debug__":Str))=false) Qde._auto_1)
  (he:av (e::es) X.env=(false,eval e X.env)::av es X.env:=by rfl) (hpl:(cT pos (av es X.env)).any (·.1)=false:=by rfl):DE X ξ (.Call (.Name x p) (e::es) [] pos) (Zj f fs):=by
 obtain⟨ta,ha,qa⟩:=ha;refine⟨_,ZgU hc hg hm hv ha hn hdb he hpl,λσ ρ H α M Q s h q=>?_⟩;exact qa σ ρ H α M _ s h (OG.seq q λds M1 vs H1 α1 e1 h1 r1 q1=>hf H1 α1 M1 vs ds Q h1 r1 q1)
def bLen:W3:=λds M=>match ds with
 |[x]=>match Zeq M x with|some xs=>.ok (.int xs.length) M|none=>.bad
 |_=>.bad
theorem ZaE:CO X ξ (λxs H Q=>∃p ys,xs=[.ref p]/\(SqL X.K H p ys\/SqT X.K H p ys)/\Q (.int ys.length) H) bLen:=by
 intro H α M vs ds Q h rs q;unfold bLen at q;cases rs with
 |nil=>exact q.elim
 |@cons v x vs ds r t=>
  cases t with
  |cons _ _=>exact q.elim
  |nil=>
  cases e:Zeq M x with
  |none=>simp only[e]at q;exact q.elim
  |some ys=>
   simp only[e]at q;obtain⟨p,xs,rfl,h2,h3⟩:=Zez h r e;exact⟨p,xs,rfl,h2,by rw[h3.length];exact q _ H α Ext.refl h (.int _)⟩
noncomputable def bAbs:W3:=λds M=>match ds with|[.int i]=>.ok (.int (if i<0 then -i else i)) M|_=>.bad
theorem ZdN:CO X ξ (λxs H Q=>∃i,xs=[.int i]/\Q (.int (if i<0 then -i else i)) H) bAbs:=by
 intro H α M vs ds Q h rs q;unfold bAbs at q
 split at q
 .cases rs with
  |cons r t=>
   cases t;cases r;exact⟨_,rfl,q _ H α Ext.refl h (.int _)⟩
 .exact q.elim
noncomputable def bMax:W3:=λds M=>match ds with|[.int i,.int j]=>.ok (.int (if j>i then j else i)) M|_=>.bad
noncomputable def bMin:W3:=λds M=>match ds with|[.int i,.int j]=>.ok (.int (if j<i then j else i)) M|_=>.bad
theorem ZkM{g:Int->Int->Int}(hf:∀ds M,f ds M=match ds with|[.int i,.int j]=>.ok (.int (g i j)) M|_=>.bad):CO X ξ (λxs H Q=>∃i j,xs=[.int i,.int j]/\Q (.int (g i j)) H) f:=by
 intro H α M vs ds Q h rs q;rw[hf]at q
 split at q
 .rename_i i j;cases rs with
  |cons r t=>
   cases t with
   |cons r' t'=>
    cases t';cases r;cases r';exact⟨i,j,rfl,q _ H α Ext.refl h (.int _)⟩
 .exact q.elim
theorem ZkN:CO X ξ (λxs H Q=>∃i j,xs=[.int i,.int j]/\Q (.int (if j>i then j else i)) H) bMax:=ZkM (g:=λi j=>if j>i then j else i) λds M=>rfl
theorem ZoO:CO X ξ (λxs H Q=>∃i j,xs=[.int i,.int j]/\Q (.int (if j<i then j else i)) H) bMin:=ZkM (g:=λi j=>if j<i then j else i) λds M=>rfl
noncomputable def bInt:W3:=λds M=>match ds with|[.int i]=>.ok (.int i) M|[.bl k]=>.ok (.int (if k then 1 else 0)) M|_=>.bad
theorem Zfw:CO X ξ (λxs H Q=>(∃i,xs=[.int i]/\Q (.int i) H)\/∃k,xs=[.bl k]/\Q (.int (if k then 1 else 0)) H) bInt:=by
 intro H α M vs ds Q h rs q;unfold bInt at q
 split at q
 .cases rs with
  |cons r t=>
   cases t;cases r;exact .inl ⟨_,rfl,q _ H α Ext.refl h (.int _)⟩
 .cases rs with
  |cons r t=>
   cases t;cases r;exact .inr ⟨_,rfl,q _ H α Ext.refl h (.int _)⟩
 .exact q.elim
def bList:W3:=λds M=>match ds with
 |[x]=>match Zeq M x with|some xs=>.ok (.ref M.length) (M++[.lst xs])|none=>.bad
 |_=>.bad
theorem Zmc:CO X ξ (λxs H Q=>∃p ys,xs=[.ref p]/\(SqL X.K H p ys\/SqT X.K H p ys)/\∀l,H l=none->Q (.ref l) (upd H l (.lst ys))) bList:=by
 intro H α M vs ds Q h rs q;unfold bList at q;cases rs with
 |nil=>exact q.elim
 |@cons v x vs ds r t=>
  cases t with
  |cons _ _=>exact q.elim
  |nil=>
  cases e:Zeq M x with
  |none=>simp only[e]at q;exact q.elim
  |some ys=>
   simp only[e]at q;obtain⟨p,xs,rfl,h2,h3⟩:=Zez h r e;exact⟨p,xs,rfl,h2,λl hl=>q _ _ (α++[l]) (Ext.new hl) (h.new hl h3) (.ref ⟨h.last l,Kn.lst Zx⟩)⟩
def ZaX(M:Sto)(x:D):Option String:=match kd M x with
 |some .non=>some "NoneType"
 |some (.bl _)=>some "bool"
 |some (.int _)=>some "int"
 |some (.str _)=>some "str"
 |some (.tup _)=>some "tuple"
 |some (.lst _)=>some "list"
 |none=>none
noncomputable def Zb2(t T:String):Bool:=t==T||(t=="bool"&&T=="int")
def ZnL(T:String)(f:Ev):Ev:=λρ M=>(f ρ M).bind λx M1=>match ZaX M1 x with|some t=>.ok (.bl (Zb2 t T)) M1|none=>.bad
def Zvf(X:Cx)(T:String):List V->Hp->VK->Prop:=λvs H Q=>∃v α M x t,vs=[v,.ty T]/\HR X.K H α M/\Rep X.K H α v x/\ZaX M x=some t/\Q (.bl (Zb2 t T)) H
structure Kit(K:Fg) (T:String):Prop where
 non:PySem.W.kitOne K (.type "NoneType") (.type T)=some (Zb2 "NoneType" T)
 bl:PySem.W.kitOne K (.type "bool") (.type T)=some (Zb2 "bool" T)
 int:PySem.W.kitOne K (.type "int") (.type T)=some (Zb2 "int" T)
 str:PySem.W.kitOne K (.type "str") (.type T)=some (Zb2 "str" T)
 tup:PySem.W.kitOne K (.type "tuple") (.type T)=some (Zb2 "tuple" T)
 lst:PySem.W.kitOne K (.type "list") (.type T)=some (Zb2 "list" T)
theorem Zmd{K:Fg}:Kit K "int":=⟨rfl,rfl,rfl,rfl,rfl,rfl⟩
theorem ZjC{K:Fg}:Kit K "bool":=⟨rfl,rfl,rfl,rfl,rfl,rfl⟩
theorem ZjD(kt:Kit X.K T):Zbk X (.builtin "isinstance") (Zvf X T):=by
 intro pins s σ H vs us Q I rs hz;obtain⟨v,α,M,x,t,e1,h,rx,et,q⟩:=hz;subst e1;obtain⟨u,w,rfl,ru,rw'⟩:=Zjn rs;cases rw';unfold ZaX at et;cases ek:kd M x with
 |none=>rw[ek]at et;cases et
 |some k=>
  rw[ek]at et;have va:=vw I h rx ru ek;have fin:∀tk,EP X pins σ Q (.bool (Zb2 t T)) {s with toks:=tk}:=λtk=>⟨.bl _,H,I.tok tk,rfl,q⟩;cases va with
  |non=>cases et;exact PySem.W.kia_one PySem.W.kitx_none I.kIn fC kt.non (λz=>nomatch z) fin
  |bl b=>cases et;exact PySem.W.kia_one PySem.W.kitx_bool I.kIn fC kt.bl (λz=>nomatch z) fin
  |int i t=>cases et;exact PySem.W.kia_one PySem.W.kitx_int I.kIn fC kt.int (λz=>nomatch z) fin
  |str i t=>cases et;exact PySem.W.kia_one PySem.W.kitx_str I.kIn fC kt.str (λz=>nomatch z) fin
  |tup g _ _=>cases et;obtain⟨o,h1,h2,_⟩:=g;exact PySem.W.kia_one PySem.W.kitx_tuple I.kIn ⟨o,h1,h2⟩ kt.tup (λz=>nomatch z) fin
  |lst g _ _=>cases et;obtain⟨o,h1,h2,_⟩:=g;exact PySem.W.kia_one PySem.W.kitx_list I.kIn ⟨o,h1,h2⟩ kt.lst (λz=>nomatch z) fin
theorem ZkO(kt:Kit X.K T)(hm:X.mg "isinstance"=none)(hmT:X.mg y=none)(hvT:bK y=some (.type T))(ha:DE X ξ e fa)(hg:autoParam (Gl X "isinstance") Qrf._auto_1)(hgT:autoParam (Gl X y) Qrf._auto_1)(hn:autoParam (y≠"__name__") Qde._auto_1)(hdb:autoParam ((y==("__debug__":Str))=false) Qde._auto_1)(he:autoParam (av [e,.Name y p2] X.env=(false,eval e X.env)::av [.Name y p2] X.env) Qrf._auto_1)(he2:autoParam (av [.Name y p2] X.env=(false,eval (.Name y p2) X.env)::av [] X.env) Qrf._auto_1)(hpl:autoParam ((cT pos (av [.Name y p2] X.env)).any (·.1)=false) Qrf._auto_1):DE X ξ (.Call (.Name "isinstance" p) [e,.Name y p2] [] pos) (ZnL T fa):=by
 obtain⟨ta,ha,qa⟩:=ha;refine⟨_,Zfo (ZjD kt) hg hm (by with_unfolding_all rfl) (Zeu ha (Zeu (ZlJ hgT hmT hvT (v:=.ty T) rfl hn hdb) ZkG he2) he) (by decide) (by decide) he hpl,λσ ρ H α M Q s h q=>?_⟩
 refine qa σ ρ H α M _ s h (OG.seq q λx M1 v H1 α1 e1 h1 r1 q1=>?_);cases et:ZaX M1 x with
 |none=>simp only[et]at q1;exact q1.elim
 |some t=>
  simp only[et]at q1;exact⟨v,α1,M1,x,t,rfl,h1,r1,et,q1 _ H1 α1 Ext.refl h1 (.bl _)⟩
end
end DL
namespace DL
open PyProof.Rows L2
def CXE(P:cD)(w:da):CXT:=λouter H s E e s'=>∃(ea C:Addr) (dct:Option Addr) (B:Heap) (H':Hp),e=.ref ea/\s'.os=s.os/\iL s'.gens/\Un (frs outer) [] H H' s.heap s'.heap/\HOk P w H' s'.heap/\
 DQ.Fly B outer ea (.ref C) dct .none s'.heap/\(∀b u,H' b=some u->∃o,B.get? b=some o)/\(∀b o,s.heap.get? b=some o->b∉frs outer->∃o',B.get? b=some o')/\E (.ref C) dct H'
structure Thr(X:Cx) (ξ:XK):Prop where
 own:fZ (ao X.prog X.w) X.A X.env X.xe
 ps:ZgS (CXE X.prog X.w) X ξ
 mak:∀(pins:Pn)(σ:L2.St)(H H':Hp)(s s':aB)(e:Addr)(oe:Obj)(vs:Array aa)(C:Addr),Inv X pins σ H s->s'.os=s.os->iL s'.gens->Un (frs X.stack) [] H H' s.heap s'.heap->HOk X.prog X.w H' s'.heap->s.heap.get? e=none->s'.heap.get? e=some oe->oe.cls=.ref C->
  oe.data=.fields vs->vs[1]?=some .none->vs[2]?=some .none->H' e=none->ξ (.ref C) oe.dict H'->X.xe (.ref e) s'
theorem ZdO{h b1 b2:Heap}:∀{l:List Env},h.FunFrames b1 l->(∀b∈frs l,b2.get? b=none)->h.FunFrames b2 l
 |[],_,_=>trivial
 |env::r,⟨h1,⟨L,o,h2,h3,h4,h5⟩,h6⟩,k=>⟨h1,⟨L,o,h2,k L (by unfold frs;rw[d6,h2];exact bQ),h4,h5⟩,ZdO h6 λb hb=>k b (by
   unfold frs;rw[d6,h2];exact aI _ hb)⟩
section
variable {H':Hp}{B:Heap}
theorem ZkP(hx:X.ex=[])(I:Inv X pins σ H s)(u:Un (frs X.stack) [] H H' s.heap h1)(hok:HOk X.prog X.w H' h1)(t1:∀b q,H' b=some q->∃o,B.get? b=some o)(t2:∀b o,s.heap.get? b=some o->b∉frs X.stack->∃o',B.get? b=some o')(st1:B.StaysIn h1)(st2:B.StaysIn h2)(up:h1.UpToSlots h2):Un X.fs [] X.H₀ H' X.s₀.heap h2/\HOk X.prog X.w H' h2/\∀b o,X.s₀.heap.get? b=some o->b∉X.fs->∃o',B.get? b=some o':=by
 have kB:∀b ob o,B.get? b=some ob->h1.get? b=some o->h2.get? b=some o:=λb ob o e x=>by
  have z:=st1 b ob e;rw[x]at z;cases z;exact st2 b _ e
 have nx:∀b,b∉X.ex:=λb=>by rw[hx];simp
 have nL:∀b o,X.s₀.heap.get? b=some o->b∉X.fs->b∉frs X.stack:=λb o e n z=>by
  rcases az.mp (I.stkSub b z)with q|q
  .exact absurd (Hz e) (by rw[q];exact gL I.ok.above)
  .exact n q
 have th:∀b o,X.s₀.heap.get? b=some o->b∉X.fs->∃o',B.get? b=some o':=λb o e n=>by
  obtain⟨o',e'⟩:=I.base.there b o e (nx b);exact t2 b o' e' (nL b o e n)
 have sl:∀b o,X.s₀.heap.get? b=some o->X.H₀ b=none->b∈X.fs->∃sl,h2.get? b=some {o with slots:=sl}:=λb o e n hb=>by
  obtain⟨s1,e1⟩:=I.base.slot b o e n hb (nx b);obtain⟨s2,e2⟩:=u.any e1 (I.base.free b o e n (nx b)) (by simp)
  obtain⟨_,o',g1,g2⟩:=I.ok.funs.mem hb;rw[e]at g1;cases g1;obtain⟨s3,e3⟩:=up b _ e2 g2;exact⟨s3,e3⟩
 refine⟨⟨λb o e n hb _=>?_,λb o e n hb _=>sl b o e n hb,λb o e n _=>?_,λb o e _=>?_,λb xs e=>u.tups b xs (I.base.tups b xs e),λb o xs e=>u.frzs b o xs (I.base.frzs b o xs e),λb ps e=>?_⟩,λa o e=>?_,th⟩
 .obtain⟨ob,g⟩:=th b o e hb;exact kB b ob o g (u.keep b o (I.base.keep b o e n hb (nx b)) (I.base.free b o e n (nx b)) (nL b o e hb) (by simp))
 .obtain⟨o',e'⟩:=I.base.there b o e (nx b);exact u.free b o' e' (I.base.free b o e n (nx b)) (by simp)
 .by_cases hb:b∈X.fs
  .obtain⟨s1,e1⟩:=sl b o e (I.ok.frf b hb) hb;exact⟨_,e1⟩
  .obtain⟨ob,g⟩:=th b o e hb;exact⟨ob,st2 b ob g⟩
 .obtain⟨m1,e1⟩:=I.base.tbls b ps e;obtain⟨m2,e2⟩:=u.tbls b _ e1;exact⟨m1++m2,by rw[e2,jt]⟩
 .refine(hok a o e).stay (λb q hb x=>?_) (λ_ q=>q) λ_ _ q=>q;have tr:∃q,H' b=some q:=by
   rcases hb with z|z
   .exact⟨o,z▸e⟩
   .exact⟨_,z⟩
  obtain⟨q',z⟩:=tr;obtain⟨ob,g⟩:=t1 b q' z;exact kB b ob q g x
end
theorem Zfx(x:ZaC P w H h a o):∃ob,h.get? a=some ob:=by
 cases o with
 |lst xs=>obtain⟨_,_,_,_,e⟩:=x;exact⟨_,e⟩
 |tup xs=>obtain⟨_,_,_,ob,e,_⟩:=x;exact⟨_,e⟩
 |dK kvs=>obtain⟨_,_,_,_,o,_,_,e,_⟩:=x;exact⟨_,e⟩
 |dT kvs=>obtain⟨_,_,_,_,o,_,_,e,_⟩:=x;exact⟨_,e⟩
 |dU kvs=>obtain⟨_,_,_,_,o,_,_,e,_⟩:=x;exact⟨_,e⟩
 |set S n=>obtain⟨o,_,_,_,e,_⟩:=x;exact⟨_,e⟩
 |ins C dx fs=>obtain⟨_,_,_,e,_⟩:=x;exact⟨_,e⟩
 |own y=>exact x
 |xd fs=>obtain⟨_,⟨_,_,_,e,_⟩,_⟩:=x;exact⟨_,e⟩
 |rng lo hi=>obtain⟨_,_,_,e⟩:=x;exact⟨_,e⟩
 |frz ob u=>obtain⟨e,_⟩:=x;exact⟨_,e⟩
 |tbl ps=>exact⟨_,x.1⟩
 |met f y=>exact⟨_,(show h.get? a=some _ from x)⟩
 |ext φ=>obtain⟨_,e,_⟩:=x;exact e
def ZjE(h:Heap)(l:List Addr):Heap:=Zjb h λb=>if b∈l then some (.own 0)else none
theorem Zfy(e:h.get? b=some o)(n:b∉l):(ZjE h l).get? b=some o:=Zfh e (if_neg n)
theorem Zhj(e:(ZjE h l).get? b=some o):h.get? b=some o/\b∉l:=by
 obtain⟨a,n⟩:=ZgL e;refine⟨a,λz=>?_⟩;simp only[if_pos z]at n;cases n
theorem ZdP(n:b∈l):(ZjE h l).get? b=none:=by
 cases q:(ZjE h l).get? b with
 |none=>rfl
 |some o=>exact absurd n (Zhj q).2
theorem ZdQ{h h' b1:Heap}:∀{l:List Env},h.FunFrames b1 l->(∀b o,b∈frs l->h.get? b=some o->∃o',h'.get? b=some o'/\o'.data=o.data)->h'.FunFrames b1 l
 |[],_,_=>trivial
 |env::r,⟨h1,⟨L,o,h2,h3,h4,h5⟩,h6⟩,k=>by
  have m:frs (env::r)=L::frs r:=by unfold frs;rw[d6,h2]
  obtain⟨o',g1,g2⟩:=k L o (by rw[m];exact bQ) h4
  exact⟨h1,⟨L,o',h2,h3,g1,λvs=>g2▸h5 vs⟩,ZdQ h6 λb o hb=>k b o (by rw[m];exact aI _ hb)⟩
theorem Zhk{s':aB}(I:Inv X pins σ H s)(un:Un (frs X.stack) [] H H' s.heap s'.heap)(hok:HOk X.prog X.w H' s'.heap)(hn:s.heap.get? e=none)(he:s'.heap.get? e=some oe)(hne:H' e=none):(∀b u,H' b=some u->∃o,(ZjE s'.heap (e::frs X.stack)).get? b=some o)/\(∀b o,s.heap.get? b=some o->b∉frs X.stack->∃o',(ZjE s'.heap (e::frs X.stack)).get? b=some o')/\(ZjE s'.heap (e::frs X.stack)).StaysIn s'.heap/\s'.heap.FunFrames (ZjE s'.heap (e::frs X.stack)) X.stack/\(ZjE s'.heap (e::frs X.stack)).get? e=none:=by
 have nfr:∀b∈frs X.stack,H' b=none:=λb hb=>by
  obtain⟨_,o',g1,g2⟩:=I.stack.mem hb;exact un.free b o' g1 (I.stkFree b hb) (by simp)
 refine⟨λb u x=>?_,λb o x n=>?_,λb o x=>(Zhj x).1,ZdQ (ZdO I.stack λb hb=>ZdP (aI _ hb)) λb o hb x=>?_,ZdP (by simp)⟩
 .obtain⟨o,g⟩:=Zfx (hok b u x);refine⟨o,Zfy g λz=>?_⟩;rcases az.mp z with z|z
  .rw[z,hne]at x;cases x
  .rw[nfr b z]at x;cases x
 .obtain⟨o',g⟩:=un.there b o x (by simp)
  refine⟨o',Zfy g λz=>?_⟩;rcases az.mp z with z|z
  .rw[z,hn]at x;cases x
  .exact n z
 .obtain⟨sl,g⟩:=un.any x (I.stkFree b hb) (by simp)
  exact⟨_,g,rfl⟩
theorem ZkQ{K:Fg}:Thr (Zfm (CXE P w) P w K mg base N qual scope f cd A outer s H E) E:=by
 refine⟨fZ.leaving,λpins σ H1 s1 e s2 I h=>?_,λpins σ H1 H' s1 s' e oe vs C I os bare un hok hn he hc hd v1 v2 hne q=>?_⟩
 .obtain⟨ea,C,dct,B,H2,rfl,os,bare,un,hok,fl,t1,t2,q⟩:=h;refine DQ.Zg4 (outer:=outer) I.ok.frames rfl fl λh3 f3 up=>?_;obtain⟨a1,a2,a3⟩:=ZkP rfl I un hok t1 t2 fl.stay f3.stay up;exact⟨ea,C,dct,B,H2,rfl,os.trans I.os,bare,a1,a2,f3,t1,a3,q⟩
 .obtain⟨t1,t2,hs,hl,hb⟩:=Zhk I un hok hn he hne;refine DQ.Zg5 (s:=s') (outer:=outer) I.ok.frames rfl hl he hs hb hd v1 v2 λh3 f3 up=>?_;obtain⟨a1,a2,a3⟩:=ZkP rfl I un hok t1 t2 hs f3.stay up;rw[hc]at f3;exact⟨e,C,oe.dict,_,H',rfl,os.trans I.os,bare,a1,a2,f3,t1,a3,q⟩
end DL
namespace DL
open PyProof.Rows L2
def FP(K:Fg)(H:Hp)(α:List Addr)(ξ:XK)(Dn:Ends):Fl->Prop
 |.nx ρ' M'=>∀σ' H' α',Ext K H H' α α'->HR K H' α' M'->SR K H' α' σ' ρ'->Dn.nx σ' H'
 |.brk ρ' M'=>∀σ' H' α',Ext K H H' α α'->HR K H' α' M'->SR K H' α' σ' ρ'->Dn.bk σ' H'
 |.cnt ρ' M'=>∀σ' H' α',Ext K H H' α α'->HR K H' α' M'->SR K H' α' σ' ρ'->Dn.ct σ' H'
 |.ret d M'=>∀v H' α',Ext K H H' α α'->HR K H' α' M'->Rep K H' α' v d->Dn.rt v H'
 |.exc c M'=>∀C H' α',PySem.W.nsIn K aO c=some (some (.ref C))->Ext K H H' α α'->∀dct,XO K H' α' c M' dct->ξ (.ref C) dct H'
 |.bad=>False
theorem FP.ext{K:Fg}(h:FP K H α ξ Dn o)(e:Ext K H H1 α α1):FP K H1 α1 ξ Dn o:=by
 cases o with
 |nx ρ M=>exact λσ' H' α' e'=>h σ' H' α' (e.trans e')
 |brk ρ M=>exact λσ' H' α' e'=>h σ' H' α' (e.trans e')
 |cnt ρ M=>exact λσ' H' α' e'=>h σ' H' α' (e.trans e')
 |ret d M=>exact λv H' α' e'=>h v H' α' (e.trans e')
 |exc c M=>exact λC H' α' n e'=>h C H' α' n (e.trans e')
 |bad=>exact h
def DS(X:Cx)(ξ:XK)(st:Stmt)(g:Sv):Prop:=∃t:TS,PS X st t/\∀σ ρ H α M Dn,SR X.K H α σ ρ->HR X.K H α M->FP X.K H α ξ Dn (g ρ M)->t Dn σ H
def DSs(X:Cx)(ξ:XK)(st:List Stmt)(g:Sv):Prop:=∃t:TS,PSs X st t/\∀σ ρ H α M Dn,SR X.K H α σ ρ->HR X.K H α M->FP X.K H α ξ Dn (g ρ M)->t Dn σ H
noncomputable def Zao(o:Out β)(k:β->Sto->Fl):Fl:=match o with
 |.ok a M=>k a M
 |.exc c M=>.exc c M
 |.bad=>.bad
theorem FP.seq{K:Fg}{R:Hp->List Addr->γ->β->Prop}{Q1:γ->Hp->Prop}{o:Out β}{f:β->Sto->Fl}(h:FP K H α ξ Dn (Zao o f))(k:∀d M' v H' α',Ext K H H' α α'->HR K H' α' M'->R H' α' v d->FP K H' α' ξ Dn (f d M')->Q1 v H'):OG K R H α ξ Q1 o:=by
 cases o with
 |ok d M'=>exact λv H' α' e hr r=>k d M' v H' α' e hr r (FP.ext (o:=f d M') h e)
 |exc c M'=>exact h
 |bad=>exact h
noncomputable def ZI(g h:Sv):Sv:=λρ M=>match g ρ M with
 |.nx ρ1 M1=>h ρ1 M1
 |o=>o
noncomputable def sNil:Sv:=λρ M=>.nx ρ M
def Zal(f:Ev):Sv:=λρ M=>Zao (f ρ M) λd M1=>.ret d M1
noncomputable def ZoP:Sv:=λ_ M=>.ret .non M
def ZdR(f:Ev):Sv:=λρ M=>Zao (f ρ M) λ_ M1=>.nx ρ M1
def sIf(c:Tv)(g h:Sv):Sv:=λρ M=>Zao (c ρ M) λk M1=>if k=true then g ρ M1 else h ρ M1
noncomputable def sBrk:Sv:=λρ M=>.brk ρ M
abbrev Tg:=D->Ro->Option Ro
abbrev Tgs:=List D->Ro->Option Ro
noncomputable def gNm(i:Nat):Tg:=λd ρ=>some (ρ.set i (some d))
noncomputable def gNl:Tgs:=λds ρ=>match ds with|[]=>some ρ|_=>none
noncomputable def gCs(g:Tg)(gs:Tgs):Tgs:=λds ρ=>match ds with|d::r=>(match g d ρ with|some ρ1=>gs r ρ1|none=>none)|[]=>none
noncomputable def gTp(gs:Tgs):Tg:=λd ρ=>match d with|.tup ds=>gs ds ρ|_=>none
def ZM(g:Tg)(f:Ev):Sv:=λρ M=>Zao (f ρ M) λd M1=>match g d ρ with|some ρ1=>.nx ρ1 M1|none=>.bad
def ZeA(i j:Nat)(fs:Av):Sv:=λρ M=>Zao (fs ρ M) λds M1=>match ds with|[v,w]=>.nx ((ρ.set i (some v)).set j (some w)) M1|_=>.bad
def ZkR(fo fi fe:Ev):Sv:=λρ M=>Zao (fe ρ M) λd M1=>Zao (fo ρ M1) λo M2=>Zao (fi ρ M2) λi M3=>match o,i with
 |.ref n,.int k=>(match M3[n]? with
  |some (.lst xs)=>(match ixN xs.length k with|some j=>.nx ρ (M3.set n (.lst (xs.set j d)))|none=>.bad)
  |_=>.bad)
 |_,_=>.bad
section
variable {X:Cx}{ξ:XK}{st:Stmt}{sts:List Stmt}{g:Sv}{e:Expr}{f:Ev}{c:Expr}
theorem ZJ:DSs X ξ [] sNil:=⟨_,ZlK,λσ ρ H α M Dn s h q=>q σ H α Ext.refl h s⟩
theorem Zg(h1:DS X ξ st g)(h2:DSs X ξ sts h):DSs X ξ (st::sts) (ZI g h):=by
 obtain⟨t1,p1,q1⟩:=h1;obtain⟨t2,p2,q2⟩:=h2;refine⟨_,Zji p1 p2,λσ ρ H α M Dn s hh q=>q1 σ ρ H α M {Dn with nx:=t2 Dn} s hh ?_⟩;unfold ZI at q;cases e:g ρ M with
 |nx ρ1 M1=>rw[e]at q;exact λσ' H' α' ex hr sr=>q2 σ' ρ1 H' α' M1 Dn sr hr (FP.ext q ex)
 |brk ρ1 M1=>rw[e]at q;exact q
 |cnt ρ1 M1=>rw[e]at q;exact q
 |ret d M1=>rw[e]at q;exact q
 |exc c M1=>rw[e]at q;exact q
 |bad=>rw[e]at q;exact q
theorem Zi(h1:DS X ξ st g):DSs X ξ [st] g:=let ⟨_,p,q⟩:=h1;⟨_,ZlL p,q⟩
theorem Zz(he:DE X ξ e f):DS X ξ (.Return (some e) pos) (Zal f):=by
 obtain⟨t,p,q⟩:=he;exact⟨_,Zn8 p,λσ ρ H α M Dn s hh w=>q σ ρ H α M _ s hh (FP.seq w λd M1 v H1 α1 e1 h1 r1 w1=>w1 v H1 α1 Ext.refl h1 r1)⟩
theorem Zc6(he:DE X ξ e f)(hs:autoParam (ji e none pos.line X.env=pure false) Qrf._auto_1):DS X ξ (.Expr e pos) (ZdR f):=by
 obtain⟨t,p,q⟩:=he;exact⟨_,ZlM p hs,λσ ρ H α M Dn s hh w=>q σ ρ H α M _ s hh (FP.seq w λd M1 v H1 α1 e1 h1 r1 w1=>w1 σ H1 α1 Ext.refl h1 (s.mono e1))⟩
theorem Zah(hc:DT X ξ c fc)(ha:DSs X ξ a g)(hb:DSs X ξ b h):DS X ξ (.If c a b pos) (sIf fc g h):=by
 obtain⟨tc,pc,qc⟩:=hc;obtain⟨ta,pa,qa⟩:=ha;obtain⟨tb,pb,qb⟩:=hb;refine⟨_,ZrG pc pa pb,λσ ρ H α M Dn s hh w=>qc σ ρ H α M _ s hh (FP.seq w λk M1 v H1 α1 e1 h1 r1 w1=>?_)⟩;cases r1;cases k with
 |true=>exact ZnK (qa σ ρ H1 α1 M1 Dn (s.mono e1) h1 w1)
 |false=>exact ZnJ (qb σ ρ H1 α1 M1 Dn (s.mono e1) h1 w1)
theorem ZoQ:DS X ξ (.Break pos) sBrk:=⟨_,Zjj,λσ ρ H α M Dn s h q=>q σ H α Ext.refl h s⟩
def DG(X:Cx)(tg:Expr)(g:Tg):Prop:=∃t:TG,PG X tg t/\∀v d σ ρ H α ρ' Q,SR X.K H α σ ρ->Rep X.K H α v d->g d ρ=some ρ'->(∀σ',SR X.K H α σ' ρ'->Q σ' H)->t v σ H Q
def DGs(X:Cx)(tgs:List Expr)(g:Tgs):Prop:=∃t:TGs,PGs X tgs t/\∀vs ds σ ρ H α ρ' Q,SR X.K H α σ ρ->Reps X.K H α vs ds->g ds ρ=some ρ'->(∀σ',SR X.K H α σ' ρ'->Q σ' H)->t vs σ H Q
theorem Zk(i:Nat)(hN:X.N.Nodup)(hi:autoParam (X.N[i]?=some x) Qrf._auto_1)(hx:Loc X.env.scope x:=by first|exact dM rfl|exact kJ rfl)(hm:autoParam (X.may i=true) Qrf._auto_1)(hf:X.fn x=true\/X.env.scope.names.lookup x=some .local:=by first|exact .inl rfl|exact .inr rfl|assumption):DG X (.Name x pos) (gNm i):=by
 refine⟨_,ZlN hN hi hx hm hf,λv d σ ρ H α ρ' Q s r e k=>?_⟩;cases e;exact k _ (s.set i r)
theorem ZK:DGs X [] gNl:=by
 refine⟨_,ZlO,λvs ds σ ρ H α ρ' Q s r e k=>?_⟩;cases r with
 |nil=>cases e;exact⟨rfl,k _ s⟩
 |cons _ _=>cases e
theorem Zn{g:Tg}(h1:DG X e g)(h2:DGs X es gs)(hs:autoParam ((dE (e::es) X.env).map (·.2)=assign e X.env::(dE es X.env).map (·.2)) Qrf._auto_1):DGs X (e::es) (gCs g gs):=by
 obtain⟨t1,p1,q1⟩:=h1;obtain⟨t2,p2,q2⟩:=h2;refine⟨_,Zjk p1 p2 hs,λvs ds σ ρ H α ρ' Q s r e k=>?_⟩;cases r with
 |nil=>cases e
 |cons r rr=>
  rename_i v d vs ds;cases e1:g d ρ with
  |none=>simp only[gCs,e1]at e;cases e
  |some ρ1=>
   simp only[gCs,e1]at e;exact⟨v,vs,rfl,q1 v d σ ρ H α ρ1 _ s r e1 λσ' s'=>q2 vs ds σ' ρ1 H α ρ' Q s' rr e k⟩
theorem Z0(hc:X.calm=true)(h:DGs X es gs)(hn:autoParam ((dE es X.env).length=n) Qrf._auto_1)(hlen:∀ds ρ ρ',gs ds ρ=some ρ'->ds.length=n)(hst:autoParam ((dE es X.env).findIdx? (·.1)=none) Qrf._auto_1):DG X (.Tuple es k pos) (gTp gs):=by
 obtain⟨t,p,q⟩:=h;refine⟨_,Zoa hc p hn hst,λv d σ ρ H α ρ' Q s r e k=>?_⟩;cases r with
 |@tup a xs ds hp rp=>
  have e':gs ds ρ=some ρ':=e;exact⟨a,xs,rfl,(SqT.of hp),by rw[rp.length];exact hlen ds ρ ρ' e',q xs ds σ ρ H α ρ' Q s rp e' k⟩
 |_=>cases e
theorem ZL(h:gNl ds ρ=some ρ'):ds.length=0:=by cases ds with|nil=>rfl|cons _ _=>cases h
theorem Zs{g:Tg}(h:∀ds ρ ρ',gs ds ρ=some ρ'->ds.length=n)(ds:List D)(ρ ρ':Ro)(e:gCs g gs ds ρ=some ρ'):ds.length=n+1:=by
 cases ds with
 |nil=>cases e
 |cons d r=>
  cases e1:g d ρ with
  |none=>simp only[gCs,e1]at e;cases e
  |some ρ1=>simp only[gCs,e1]at e;rw[bD,h r ρ1 ρ' e]
theorem Zr(i:Nat)(hN:X.N.Nodup)(he:DE X ξ e f)(hi:autoParam (X.N[i]?=some x) Qrf._auto_1)(hx:Loc X.env.scope x:=by first|exact dM rfl|exact kJ rfl)(hm:autoParam (X.may i=true) Qrf._auto_1)(hs:autoParam (ji e (some (.Name x pos')) pos.line X.env=pure false) Qrf._auto_1)(hf:X.fn x=true\/X.env.scope.names.lookup x=some .local:=by first|exact .inl rfl|exact .inr rfl|assumption) :
  DS X ξ (.Assign [.Name x pos'] e pos) (ZM (gNm i) f):=by
 obtain⟨t,p,q⟩:=he;exact⟨_,Zoc hN hi hx hm p hs hf,λσ ρ H α M Dn s hh w=>q σ ρ H α M _ s hh (FP.seq w λd M1 v H1 α1 e1 h1 r1 w1=>w1 _ H1 α1 Ext.refl h1 ((s.mono e1).set i r1))⟩
theorem ZdS(he:DE X ξ e f)(hg:DG X tg gt)(hs:autoParam (iM [tg] e pos.line X.env=pure false) Qrf._auto_1)(hw:autoParam (fY [tg] e X.env=pure none) Qrf._auto_1)(h1:autoParam ((dE [tg] X.env).map (·.2)=[assign tg X.env]) Qrf._auto_1):DS X ξ (.Assign [tg] e pos) (ZM gt f):=by
 obtain⟨t,p,q⟩:=he;obtain⟨tt,pt,qt⟩:=hg;refine⟨_,ZkE p pt hs hw h1,λσ ρ H α M Dn s hh w=>q σ ρ H α M _ s hh (FP.seq w λd M1 v H1 α1 e1 h1 r1 w1=>?_)⟩;cases eg:gt d ρ with
 |none=>simp only[eg]at w1;exact w1.elim
 |some ρ1=>
  simp only[eg]at w1;exact qt v d σ ρ H1 α1 ρ1 _ (s.mono e1) r1 eg λσ' s'=>w1 σ' H1 α1 Ext.refl h1 s'
theorem ZcO(i j:Nat){kt k2 pt2}(hc:X.calm=true)(hN:X.N.Nodup)(ha:DA X ξ [a,b] fs)(hi:autoParam (X.N[i]?=some x) Qrf._auto_1)(hj:autoParam (X.N[j]?=some y) Qrf._auto_1)(mi:autoParam (X.may i=true) Qrf._auto_1)(mj:autoParam (X.may j=true) Qrf._auto_1)(hij:autoParam (i≠j) Qde._auto_1)(hx:autoParam (X.env.scope.names.lookup x=some .local) Qrf._auto_1)(hy:autoParam (X.env.scope.names.lookup y=some .local) Qrf._auto_1)(hw:autoParam (fY [.Tuple [.Name x px,.Name y py] kt pt] (.Tuple [a,b] k2 pt2) X.env=pure (some [x,y])) Qrf._auto_1)(hs:autoParam (iM [.Tuple [.Name x px,.Name y py] kt pt] (.Tuple [a,b] k2 pt2) pos.line X.env=pure false) Qrf._auto_1) :
  DS X ξ (.Assign [.Tuple [.Name x px,.Name y py] kt pt] (.Tuple [a,b] k2 pt2) pos) (ZeA i j fs):=by
 obtain⟨t,p,q⟩:=ha;refine⟨_,Zod hc mi mj hN hi hj hij hx hy p hw hs,λσ ρ H α M Dn s hh w=>q σ ρ H α M _ s hh (FP.seq w λds M1 vs H1 α1 e1 h1 r1 w1=>?_)⟩;cases r1 with
 |nil=>exact w1.elim
 |cons r t=>
  cases t with
  |nil=>exact w1.elim
  |cons r' t=>
   cases t with
   |cons _ _=>exact w1.elim
   |nil=>exact⟨_,_,rfl,w1 _ H1 α1 Ext.refl h1 (((s.mono e1).set i r).set j r')⟩
theorem Zhl(ho:DE X ξ o fo)(hi:DE X ξ i fi)(he:DE X ξ e f)(ha:∀v,assign (.Subscript o i pos') X.env v=(do
   let ov <-holding [v] (eval o X.env)
   let iv <-holding [v,ov] (eval i X.env)
   standAt pos'
   holding [v,ov,iv] (setItem ov iv v)
   release [v,ov,iv] []):=by intro _;rfl) (hs:iM [.Subscript o i pos'] e pos.line X.env=pure false:=by rfl) (hw:fY [.Subscript o i pos'] e X.env=pure none:=by rfl) (h1:(dE [.Subscript o i pos'] X.env).map (·.2)=[assign (.Subscript o i pos') X.env]:=by rfl):DS X ξ (.Assign [.Subscript o i pos'] e pos) (ZkR fo fi f):=by
 obtain⟨t,p,q⟩:=he;obtain⟨to,po,qo⟩:=ho;obtain⟨ti,pi,qi⟩:=hi;refine⟨_,ZkE p (Zob po pi Zjs ha) hs hw h1,λσ ρ H α M Dn s hh w=>q σ ρ H α M _ s hh (FP.seq w λd M1 v H1 α1 e1 h1 r1 w1=>?_)⟩;refine qo σ ρ H1 α1 M1 _ (s.mono e1) h1 (FP.seq w1 λod M2 ov H2 α2 e2 h2 r2 w2=>?_);refine qi σ ρ H2 α2 M2 _ ((s.mono e1).mono e2) h2 (FP.seq w2 λkd M3 kv H3 α3 e3 h3 r3 w3=>?_);cases Rep.mono e3 r2 with
 |@ref p n hp=>
  cases r3 with
  |int k=>
   cases em:M3[n]? with
   |none=>simp only[em]at w3;exact w3.elim
   |some so=>
    cases so with
    |lst ds=>
     cases ej:ixN ds.length k with
     |none=>simp only[em,ej]at w3;exact w3.elim
     |some j=>
      simp only[em,ej]at w3;obtain⟨xs,g1,g2⟩:=h3.at hp em;refine⟨p,xs,k,j,rfl,rfl,g1,by rw[g2.length];exact ej,?_⟩
      exact w3 σ _ α3 (Ext.wr g1) (h3.wr hp g1 (Reps.set (Rep.mono e3 (Rep.mono e2 r1)) j g2)) ((((s.mono e1).mono e2).mono e3).mono (Ext.wr g1))
  |_=>exact w3.elim
 |_=>exact w3.elim
noncomputable def whN(c:Tv)(g:Sv):Nat->Ro->Sto->Option Fl
 |0,_,_=>none
 |n+1,ρ,M=>match c ρ M with
  |.ok true M1=>(match g ρ M1 with
   |.nx ρ2 M2=>whN c g n ρ2 M2
   |.cnt ρ2 M2=>whN c g n ρ2 M2
   |.brk ρ2 M2=>some (.nx ρ2 M2)
   |o=>some o)
  |.ok false M1=>some (.nx ρ M1)
  |.exc e M1=>some (.exc e M1)
  |.bad=>some .bad
theorem Zb3{c:Tv}{g:Sv}:∀{n:Nat}{ρ:Ro}{M:Sto}{o:Fl},whN c g n ρ M=some o->∀k,whN c g (n+k) ρ M=some o
 |0,_,_,_,e,_=>by simp only[whN]at e;cases e
 |n+1,ρ,M,o,e,k=>by
  have ek:n+1+k=(n+k)+1:=⋯
  rw[ek];unfold whN at e ⊢;cases ec:c ρ M with
  |bad=>rw[ec]at e;exact e
  |exc x M1=>rw[ec]at e;exact e
  |ok b M1=>
   rw[ec]at e;cases b with
   |false=>exact e
   |true=>
    cases eg:g ρ M1 with
    |nx ρ2 M2=>simp only[eg]at e ⊢;exact Zb3 e k
    |cnt ρ2 M2=>simp only[eg]at e ⊢;exact Zb3 e k
    |brk ρ2 M2=>simp only[eg]at e ⊢;exact e
    |ret d M2=>simp only[eg]at e ⊢;exact e
    |exc x M2=>simp only[eg]at e ⊢;exact e
    |bad=>simp only[eg]at e ⊢;exact e
open Classical in
def sWh(c:Tv)(g:Sv):Sv:=λρ M=>if h:∃o n,whN c g n ρ M=some o then Classical.choose h else .bad
theorem ZbT{c:Tv}{g:Sv}(e:whN c g n ρ M=some o):sWh c g ρ M=o:=by
 have hx:∃o n,whN c g n ρ M=some o:=⟨o,n,e⟩;unfold sWh;rw[dif_pos hx];obtain⟨m,em⟩:=Classical.choose_spec hx;have h1:=Zb3 em n;have h2:=Zb3 e m;rw[kO]at h2;rw[h1]at h2;exact aQ h2
theorem Zhm{c:Tv}{g:Sv}(e:sWh c g ρ M≠ .bad):∃n,whN c g n ρ M=some (sWh c g ρ M):=by
 by_cases hx:∃o n,whN c g n ρ M=some o
 .obtain⟨o,n,h⟩:=hx;exact⟨n,by rw[ZbT h];exact h⟩
 .unfold sWh at e;rw[dif_neg hx]at e;exact absurd rfl e
theorem ZdT{c:Tv}{g:Sv}{M1:Sto}(h:c ρ M=.ok false M1):sWh c g ρ M=.nx ρ M1:=ZbT (n:=1) (by simp only[whN,h])
theorem Zfz{c:Tv}{g:Sv}{M1 M2:Sto}(h:c ρ M=.ok true M1)(h2:g ρ M1=.nx ρ2 M2)(hb:sWh c g ρ2 M2≠ .bad):sWh c g ρ M=sWh c g ρ2 M2:=by
 obtain⟨n,e⟩:=Zhm hb;exact ZbT (n:=n+1) (by simp only[whN,h,h2];exact e)
theorem Zc7(hp:fZ (ao X.prog X.w) X.A X.env X.xe)(hc:DT X ξ c fc)(hb:DSs X ξ body g):DS X ξ (.While c body [] pos) (sWh fc g):=by
 obtain⟨tc,pc,qc⟩:=hc;obtain⟨tb,pb,qb⟩:=hb;refine⟨_,Zjl hp pc pb,λσ ρ H α M Dn s hh w=>?_⟩;have nb:sWh fc g ρ M≠ .bad:=λz=>by rw[z]at w;exact w
 obtain⟨n,en⟩:=Zhm nb;generalize sWh fc g ρ M=o at w en;refine⟨λm σ' H'=>∃ρ' α' M',Ext X.K H H' α α'/\SR X.K H' α' σ' ρ'/\HR X.K H' α' M'/\whN fc g m ρ' M'=some o,⟨n,ρ,α,M,Ext.refl,s,hh,en⟩,?_⟩;rintro m σ1 H1 ⟨ρ1,α1,M1,e1,s1,h1,en1⟩;cases m with
 |zero=>simp only[whN]at en1;cases en1
 |succ m=>
  refine qc σ1 ρ1 H1 α1 M1 _ s1 h1 ?_;unfold whN at en1;cases ec:fc ρ1 M1 with
  |bad=>rw[ec]at en1;cases en1;exact w.elim
  |exc x M2=>
   rw[ec]at en1;cases en1;exact λC H' α' nn ex hr=>w C H' α' nn (e1.trans ex) hr
  |ok b M2=>
   rw[ec]at en1;intro v H2 α2 e2 h2 ev;cases ev;cases b with
   |false=>
    cases en1;exact ZnJ (w σ1 H2 α2 (e1.trans e2) h2 (s1.mono e2))
   |true=>
    refine ZnK ⟨λσ' H'=>∃ρ' α' M',Ext X.K H H' α α'/\SR X.K H' α' σ' ρ'/\HR X.K H' α' M'/\whN fc g m ρ' M'=some o,λσ' H' z=>⟨m,dF m,z⟩,?_⟩;refine qb σ1 ρ1 H2 α2 M2 _ (s1.mono e2) h2 ?_;have e12:=e1.trans e2;cases eg:g ρ1 M2 with
    |nx ρ2 M3=>simp only[eg]at en1;exact λσ' H' α' ex hr sr=>⟨ρ2,α',M3,e12.trans ex,sr,hr,en1⟩
    |cnt ρ2 M3=>simp only[eg]at en1;exact λσ' H' α' ex hr sr=>⟨ρ2,α',M3,e12.trans ex,sr,hr,en1⟩
    |brk ρ2 M3=>simp only[eg]at en1;cases en1;exact λσ' H' α' ex hr sr=>w σ' H' α' (e12.trans ex) hr sr
    |ret d M3=>simp only[eg]at en1;cases en1;exact λv H' α' ex hr sr=>w v H' α' (e12.trans ex) hr sr
    |exc x M3=>simp only[eg]at en1;cases en1;exact λC H' α' nn ex hr=>w C H' α' nn (e12.trans ex) hr
    |bad=>simp only[eg]at en1;cases en1;exact w.elim
noncomputable def Zbe(tg:Tg)(g:Sv):List D->Ro->Sto->Fl
 |[],ρ,M=>.nx ρ M
 |d::r,ρ,M=>match tg d ρ with
  |none=>.bad
  |some ρ1=>(match g ρ1 M with
   |.nx ρ2 M2=>Zbe tg g r ρ2 M2
   |.cnt ρ2 M2=>Zbe tg g r ρ2 M2
   |.brk ρ2 M2=>.nx ρ2 M2
   |o=>o)
noncomputable def ZgC(tg:Tg)(g:Sv)(n:Nat):Nat->Nat->Ro->Sto->Fl
 |f,i,ρ,M=>match M[n]? with
  |some (.lst xs)=>(match xs[i]? with
   |none=>.nx ρ M
   |some d=>(match f with
    |0=>.bad
    |f+1=>(match tg d ρ with
     |none=>.bad
     |some ρ1=>(match g ρ1 M with
      |.nx ρ2 M2=>ZgC tg g n f (i+1) ρ2 M2
      |.cnt ρ2 M2=>ZgC tg g n f (i+1) ρ2 M2
      |.brk ρ2 M2=>.nx ρ2 M2
      |o=>o))))
  |none=>.bad
def Zbh(lo:Int)(n:Nat):List D:=(aJ n).map λ(i:Nat)=>D.int (lo+i)
def ZkS(tg:Tg)(g:Sv)(d:D)(ρ:Ro)(M:Sto):Fl:=match d with
 |.tup xs=>Zbe tg g xs ρ M
 |.rol xs=>Zbe tg g xs ρ M
 |.ref n=>(match M[n]? with|some (.lst xs)=>ZgC tg g n xs.length 0 ρ M|none=>.bad)
 |_=>.bad
def ZoR(tg:Tg)(f:Ev)(g:Sv):Sv:=λρ M=>Zao (f ρ M) λd M1=>ZkS tg g d ρ M1
def Zbu(tg:Tg)(fs:Av)(g:Sv):Sv:=λρ M=>Zao (fs ρ M) λds M1=>match ds with
 |[.int j]=>if -(2^62)<=j/\j<2^62 then Zbe tg g (Zbh 0 j.toNat) ρ M1 else .bad
 |_=>.bad
def ZdU(tg:Tg)(fs:Av)(g:Sv):Sv:=λρ M=>Zao (fs ρ M) λds M1=>match ds with
 |[.int i,.int j]=>if -(2^62)<=i/\i<2^62/\ -(2^62)<=j/\j<2^62 then Zbe tg g (Zbh i (j-i).toNat) ρ M1 else .bad
 |_=>.bad
theorem ZfA{lo:Int}(h:i<n):(Zbh lo n)[i]?=some (.int (lo+i)):=by
 unfold Zbh;rw[bv,List.getElem?_range h];rfl
theorem Zc8{lo:Int}:(Zbh lo n).length=n:=by unfold Zbh;rw[au,jQ]
theorem Zhn{lo:Int}(h:i<n):(Zbh lo n).drop i=.int (lo+i)::(Zbh lo n).drop (i+1):=by
 have hl:i<(Zbh lo n).length:=by rw[Zc8];exact h
 have e:=ZfA (lo:=lo) h;rw[ae hl]at e;rw[cQ hl,aQ e]
theorem ZjF{tg:Expr}{gt:Tg}{tt:TG}{tb:TS}{k:Ro->Sto->Fl}(w:FP X.K H α ξ Dn o)(qt:∀v d σ ρ H α ρ' Q,SR X.K H α σ ρ->Rep X.K H α v d->gt d ρ=some ρ'->(∀σ',SR X.K H α σ' ρ'->Q σ' H)->tt v σ H Q)(qb:∀σ ρ H α M Dn,SR X.K H α σ ρ->HR X.K H α M->FP X.K H α ξ Dn (g ρ M)->tb Dn σ H){M1:Sto}(e1:Ext X.K H H1 α α1)(s1:SR X.K H1 α1 σ1 ρ1)(h1:HR X.K H1 α1 M1)(r:Rep X.K H1 α1 v d)(en:(match gt d ρ1 with|none=>Fl.bad|some ρ2=>(match g ρ2 M1 with|.nx ρ3 M3=>k ρ3 M3|.cnt ρ3 M3=>k ρ3 M3|.brk ρ3 M3=>.nx ρ3 M3|o=>o))=o)(hN:∀σ' H',(∃ρ' α' M',Ext X.K H H' α α'/\SR X.K H' α' σ' ρ'/\HR X.K H' α' M'/\k ρ' M'=o)->N σ' H'):tt v σ1 H1 λσ2 H2=>tb {Dn with nx:=N,ct:=N,bk:=Dn.nx} σ2 H2:=by
 cases eg:gt d ρ1 with
 |none=>rw[eg]at en;cases en;exact w.elim
 |some ρ2=>
  simp only[eg]at en;refine qt v d σ1 ρ1 H1 α1 ρ2 _ s1 r eg λσ2 s2=>qb σ2 ρ2 H1 α1 M1 _ s2 h1 ?_;cases ex:g ρ2 M1 with
  |nx ρ3 M3=>simp only[ex]at en;exact λσ' H' α' e2 hr sr=>hN _ _ ⟨ρ3,α',M3,e1.trans e2,sr,hr,en⟩
  |cnt ρ3 M3=>simp only[ex]at en;exact λσ' H' α' e2 hr sr=>hN _ _ ⟨ρ3,α',M3,e1.trans e2,sr,hr,en⟩
  |brk ρ3 M3=>simp only[ex]at en;cases en;exact λσ' H' α' e2 hr sr=>w σ' H' α' (e1.trans e2) hr sr
  |ret d M3=>simp only[ex]at en;cases en;exact λv H' α' e2 hr sr=>w v H' α' (e1.trans e2) hr sr
  |exc x M3=>simp only[ex]at en;cases en;exact λC H' α' nn e2 hr=>w C H' α' nn (e1.trans e2) hr
  |bad=>simp only[ex]at en;cases en;exact w.elim
theorem ZkT{tg:Expr}{tt:TG}{tb:TS}{lo:Int}(qt:∀v d σ ρ H α ρ' Q,SR X.K H α σ ρ->Rep X.K H α v d->gt d ρ=some ρ'->(∀σ',SR X.K H α σ' ρ'->Q σ' H)->tt v σ H Q)(qb:∀σ ρ H α M Dn,SR X.K H α σ ρ->HR X.K H α M->FP X.K H α ξ Dn (g ρ M)->tb Dn σ H)(s:SR X.K H α σ ρ)(hh:HR X.K H α M)(w:FP X.K H α ξ Dn (Zbe gt g (Zbh lo n) ρ M)):∃W:Nat->Nat->L2.St->Hp->Prop,(∃m,W 0 m σ H)/\∀i m σ H,W i m σ H->((Itr lo n).stop i H/\Dn.nx σ H)\/((Itr lo n).go i H/\∃N:L2.St->Hp->Prop,(∀σ' H',N σ' H'->∃m',m'<m/\W (i+1) m' σ' H')/\∀x H',(Itr lo n).yld i H x H'->tt x σ H' λσ2 H2=>tb {Dn with nx:=N,ct:=N,bk:=Dn.nx} σ2 H2):=by
 generalize ho:Zbe gt g (Zbh lo n) ρ M=o at w;refine ZgQ (λi σ' H'=>∃ρ' α' M',Ext X.K H H' α α'/\SR X.K H' α' σ' ρ'/\HR X.K H' α' M'/\Zbe gt g ((Zbh lo n).drop i) ρ' M'=o) ⟨ρ,α,M,Ext.refl,s,hh,ho⟩ ?_ ?_
 .rintro i σ1 H1 hi ⟨ρ1,α1,M1,e1,s1,h1,en⟩;rw[Zhn hi]at en;exact ZjF (tg:=tg) w qt qb e1 s1 h1 (.int (lo+i)) en (λσ' H' z=>z)
 .rintro σ1 H1 ⟨ρ1,α1,M1,e1,s1,h1,en⟩;rw[d8 (by rw[Zc8];exact af _)]at en
  cases en;exact w σ1 H1 α1 e1 h1 s1
theorem Zbv(hp:fZ (ao X.prog X.w) X.A X.env X.xe)(hm:X.mg "range"=none)(ha:DA X ξ [a] fs)(hg:DG X tg gt)(hb:DSs X ξ body g)(hgl:autoParam (Gl X "range") Qrf._auto_1)(hs:autoParam (av [a] X.env=[(false,eval a X.env)]) Qrf._auto_1)(hf:autoParam (∀x,foldedSetIterable (.Call (.Name "range" p) [a] [] p2) X.env x=pure x) Qin._auto_1):DS X ξ (.For tg (.Call (.Name "range" p) [a] [] p2) body [] pos) (Zbu gt fs g):=by
 obtain⟨ta,pa,qa⟩:=ha;obtain⟨tt,pt,qt⟩:=hg;obtain⟨tb,pb,qb⟩:=hb;refine⟨_,Zfk hp (ZgO hgl hm pa hs) pt pb hf,λσ ρ H α M Dn s hh w=>qa σ ρ H α M _ s hh (FP.seq w λds M1 vs H1 α1 e1 h1 r1 w1=>?_)⟩;cases r1 with
 |nil=>exact w1.elim
 |cons r tz=>
  cases tz with
  |cons _ _=>cases r<;>exact w1.elim
  |nil=>
   cases r with
   |int j=>
    by_cases c: -(2^62)<=j/\j<2^62
    .simp only[if_pos c]at w1;exact⟨j,rfl,c.1,c.2,ZkT (tg:=tg) qt qb (s.mono e1) h1 w1⟩
    .simp only[if_neg c]at w1;exact w1.elim
   |_=>exact w1.elim
theorem ZjG(hp:fZ (ao X.prog X.w) X.A X.env X.xe)(hm:X.mg "range"=none)(ha:DA X ξ [a,b] fs)(hg:DG X tg gt)(hb:DSs X ξ body g)(hgl:autoParam (Gl X "range") Qrf._auto_1)(hs:autoParam (av [a,b] X.env=[(false,eval a X.env),(false,eval b X.env)]) Qrf._auto_1)(hs2:autoParam (av [b] X.env=[(false,eval b X.env)]) Qrf._auto_1)(hf:autoParam (∀x,foldedSetIterable (.Call (.Name "range" p) [a,b] [] p2) X.env x=pure x) Qin._auto_1):DS X ξ (.For tg (.Call (.Name "range" p) [a,b] [] p2) body [] pos) (ZdU gt fs g):=by
 obtain⟨ta,pa,qa⟩:=ha;obtain⟨tt,pt,qt⟩:=hg;obtain⟨tb,pb,qb⟩:=hb;refine⟨_,Zfk hp (Zdx hgl hm pa hs hs2) pt pb hf,λσ ρ H α M Dn s hh w=>qa σ ρ H α M _ s hh (FP.seq w λds M1 vs H1 α1 e1 h1 r1 w1=>?_)⟩
 split at w1
 .rename_i i j;cases r1 with
  |cons r t=>
   cases t with
   |cons r' t=>
    cases t;cases r;cases r';by_cases c: -(2^62)<=i/\i<2^62/\ -(2^62)<=j/\j<2^62
    .simp only[if_pos c]at w1;exact⟨i,j,rfl,c,ZkT (tg:=tg) qt qb (s.mono e1) h1 w1⟩
    .simp only[if_neg c]at w1;exact w1.elim
 .exact w1.elim
def Zvg(K:Fg)(tl:TE):TI:=λσ H R=>tl σ H λx H1=>∃a,x=.ref a/\(((∃xs,SqL K H1 a xs)/\R (Itl K a) H1)\/((∃xs,SqT K H1 a xs)/\R (Itt K a) H1))
theorem ZkU(hl:PE X l tl):PI X tg l (Zvg X.K tl):=by
 intro pins s σ H R I h;refine thn (hl pins s σ H _ I h) λv s1 hz=>?_;obtain⟨x,H1,I1,r1,q1⟩:=hz;obtain⟨a,e,q⟩:=q1;subst e;cases r1;have fp:∀b∈[s1.heap.objs.size],Zep X pins H1 b:=λb hb=>by
  have e:b=s1.heap.objs.size:=by simpa using hb
  subst e;exact I1.fpOk (af _) (I1.hok.fresh (af _))
 rcases q with⟨⟨xs,hq⟩,q⟩|⟨⟨xs,hq⟩,q⟩
 .obtain⟨its,rv,p,hz⟩:=I1.list hq;refine jS p.isList ?_;exact⟨s1.heap.objs.size,[s1.heap.objs.size],_,_,H1,rfl,I1.kept (t':=s1.toks) λb o e=>Hq _ e,ZgN a _,⟨_,aL _ rfl,rfl,rfl⟩,fp,q⟩
 .obtain⟨its,rv,p,hz⟩:=I1.tuple hq;refine wpAny_pyIter_tuple (show s1.heap.IsTuple a its.toArray from p) ?_;exact⟨s1.heap.objs.size,[s1.heap.objs.size],_,_,H1,rfl,I1.kept (t':=s1.toks) λb o e=>Hq _ e,Zgc a _,⟨_,aL _ rfl,rfl,rfl⟩,fp,q⟩
theorem ZkV{f:Ev}(hp:fZ (ao X.prog X.w) X.A X.env X.xe)(hl:DE X ξ l f)(hg:DG X tg gt)(hb:DSs X ξ body g)(hf:autoParam (∀x,foldedSetIterable l X.env x=pure x) Qin._auto_1):DS X ξ (.For tg l body [] pos) (ZoR gt f g):=by
 obtain⟨ta,pa,qa⟩:=hl;obtain⟨tt,pt,qt⟩:=hg;obtain⟨tb,pb,qb⟩:=hb;refine⟨_,Zfk hp (ZkU pa) pt pb hf,λσ ρ H α M Dn s hh w=>qa σ ρ H α M _ s hh (FP.seq w λd M1 v H1 α1 e1 h1 r1 w1=>?_)⟩;have s1:=s.mono e1;have pure_:∀(ds:List D)(xs:List V),Reps X.K H1 α1 xs ds->FP X.K H1 α1 ξ Dn (Zbe gt g ds ρ M1)->∀(i:Nat) σ' H',(∃ρ' α' M',Ext X.K H1 H' α1 α'/\SR X.K H' α' σ' ρ'/\HR X.K H' α' M'/\Zbe gt g (ds.drop i) ρ' M'=Zbe gt g ds ρ M1)->
   (∀x,xs[i]?=some x->tt x σ' H' λσ2 H2=>tb {Dn with nx:=λσ H=>∃ρ' α' M',Ext X.K H1 H α1 α'/\SR X.K H α' σ ρ'/\HR X.K H α' M'/\Zbe gt g (ds.drop (i+1)) ρ' M'=Zbe gt g ds ρ M1,ct:=λσ H=>∃ρ' α' M',Ext X.K H1 H α1 α'/\SR X.K H α' σ ρ'/\HR X.K H α' M'/\Zbe gt g (ds.drop (i+1)) ρ' M'=Zbe gt g ds ρ M1,bk:=Dn.nx} σ2 H2)/\
   (i=xs.length->Dn.nx σ' H'):=by
  intro ds xs r w1 i σ' H' hz;obtain⟨ρ',α',M',ex,sr,hr,en⟩:=hz;refine⟨λx hx=>?_,λhi=>?_⟩
  .have hi:i<ds.length:=by rw[<-r.length];exact(aq.mp hx).1
   obtain⟨v,g1,g2⟩:=r.get (Gq hi);rw[hx]at g1;cases g1;rw[cQ hi]at en;exact ZjF (tg:=tg) w1 qt qb ex sr hr (Rep.mono ex g2) en (λσ' H' z=>z)
  .rw[hi,r.length,List.drop_length]at en;have en':Fl.nx ρ' M'=Zbe gt g ds ρ M1:=en;rw[<-en']at w1;exact w1 σ' H' α' ex hr sr
 cases r1 with
 |@tup p xs ds hp rp=>
  have w2:FP X.K H1 α1 ξ Dn (Zbe gt g ds ρ M1):=w1;refine⟨p,rfl,.inr ⟨⟨xs,(SqT.of hp)⟩,ZlQ (K:=X.K) (a:=p) (xs:=xs) (λi σ' H'=>∃ρ' α' M',Ext X.K H1 H' α1 α'/\SR X.K H' α' σ' ρ'/\HR X.K H' α' M'/\Zbe gt g (ds.drop i) ρ' M'=Zbe gt g ds ρ M1) ⟨ρ,α1,M1,Ext.refl,s1,h1,rfl⟩ ?_ ?_ ?_⟩⟩
  .rintro i σ' H' _ ⟨ρ',α',M',ex,_⟩;exact SqT.of (ex.tup _ _ hp)
  .intro i x σ' H' hx z;exact(pure_ ds xs rp w2 i σ' H' z).1 x hx
  .intro σ' H' z;exact(pure_ ds xs rp w2 _ σ' H' z).2 rfl
 |@rol p xs ds hp rp=>
  have w2:FP X.K H1 α1 ξ Dn (Zbe gt g ds ρ M1):=w1;refine⟨p,rfl,.inl ⟨⟨xs,hp.sq⟩,Zjm (K:=X.K) (a:=p) (xs:=xs) (λi σ' H'=>∃ρ' α' M',Ext X.K H1 H' α1 α'/\SR X.K H' α' σ' ρ'/\HR X.K H' α' M'/\Zbe gt g (ds.drop i) ρ' M'=Zbe gt g ds ρ M1) ⟨ρ,α1,M1,Ext.refl,s1,h1,rfl⟩ ?_ ?_ ?_⟩⟩
  .rintro i σ' H' _ ⟨ρ',α',M',ex,_⟩;exact(ex.rol _ _ hp).sq
  .intro i x σ' H' hx z;exact(pure_ ds xs rp w2 i σ' H' z).1 x hx
  .intro σ' H' z;exact(pure_ ds xs rp w2 _ σ' H' z).2 rfl
 |@ref p n hp=>
  cases em:M1[n]? with
  |none=>simp only[ZkS,em]at w1;exact w1.elim
  |some so=>
   cases so with
   |lst ds=>
    simp only[ZkS,em]at w1;obtain⟨xs0,g0,r0⟩:=h1.at hp em;generalize eo:ZgC gt g n ds.length 0 ρ M1=o at w1;refine⟨p,rfl,.inl ⟨⟨xs0,SqL.of g0⟩,λi m σ' H'=>∃ρ' α' M',Ext X.K H1 H' α1 α'/\SR X.K H' α' σ' ρ'/\HR X.K H' α' M'/\ZgC gt g n m i ρ' M'=o,⟨ds.length,ρ,α1,M1,Ext.refl,s1,h1,eo⟩,?_⟩⟩;rintro i m σ' H' ⟨ρ',α',M',ex,sr,hr,en⟩;unfold ZgC at en;cases em2:M'[n]? with
    |none=>simp only[em2]at en;cases en;exact w1.elim
    |some so2=>
     cases so2 with
     |lst ds2=>
      simp only[em2]at en;obtain⟨xs,g1,g2⟩:=hr.at (ex.get hp) em2;cases ei:ds2[i]? with
      |none=>
       simp only[ei]at en;cases en;refine .inl ⟨⟨xs,SqL.of g1,?_⟩,w1 σ' H' α' ex hr sr⟩;rw[g2.length];exact bJ.mp ei
      |some d=>
       simp only[ei]at en;obtain⟨v,k1,k2⟩:=g2.get ei;cases m with
       |zero=>cases en;exact w1.elim
       |succ m=>
        refine .inr ⟨⟨xs,v,SqL.of g1,k1⟩,λσ2 H2=>∃ρ' α' M',Ext X.K H1 H2 α1 α'/\SR X.K H2 α' σ2 ρ'/\HR X.K H2 α' M'/\ZgC gt g n m (i+1) ρ' M'=o,λσ2 H2 z=>⟨m,dF m,z⟩,λx H2 y=>?_⟩;obtain⟨ey,y⟩:=y;subst ey;have ev:=y xs (SqL.of g1);rw[k1]at ev;cases ev;exact ZjF (tg:=tg) w1 qt qb ex sr hr k2 en (λσ' H' z=>z)
 |_=>exact w1.elim
end
noncomputable def fnF(g:Sv)(n k:Nat):W3:=λds M=>if ds.length=n then(match g (ds.map some++bf k none) M with
 |.ret d M'=>.ok d M'
 |.nx _ M'=>.ok .non M'
 |.exc c M'=>.exc c M'
 |_=>.bad)else .bad
def spD(K:Fg)(F:W3):Sp:=λvs H Q E=>∃ds α M,Reps K H α vs ds/\HR K H α M/\OP K H α E Q (F ds M)
theorem ZdV:∀{ds:List D}{k i:Nat}{d:D},(ds.map some++bf k none)[i]?=some (some d)->ds[i]?=some d
 |[],k,i,d,h=>by
  rw[jd,i6]at h
  have:=fg h
  rw[jC]at this;cases this.2
 |x::r,k,0,d,h=>by simpa using h
 |x::r,k,i+1,d,h=>by
  rw[aV,bL,db]at h;rw[db];exact ZdV h
theorem SR.start{K:Fg}{H:Hp}{α:List Addr}{N:List Str}{vs:List V}{ds:List D}{k:Nat}(r:Reps K H α vs ds)(hk:k=N.length-ds.length):SR K H α (start N vs) (ds.map some++bf k none):=by
 unfold L2.start;refine⟨by simp only[aY,au,bR,r.length,hk],λi d h=>?_⟩
 obtain⟨v,h1,h2⟩:=r.get (ZdV h);refine⟨v,?_,h2⟩;have hl:i<vs.length:=(aq.mp h1).1;rw[aC (by rw[au];exact hl),bv,h1]
 rfl
section
variable {K:Fg}
theorem ZoS{st:Stmt}(F:Fun K x qual st f fd)(S:FnScope N ps (Zo st))(hn:n=ps.length)(hm:m=N.length-n)(hb:∀(cdv:aa)(A:dg)(outer:List Env)(s:aB)(H:Hp)(E:XK),Room k (A.deeper (jw qual (Zo st) s.heap.objs.size f cdv))->Thr (Zfm (CXE P w) P w K mg base N qual (Zo st) f cdv A outer s H E) E->DSs (Zfm (CXE P w) P w K mg base N qual (Zo st) f cdv A outer s H E) E (Zag st) g):FnOk P w K mg base (CXE P w) (k+1) f fd ps (spD K (fnF g n m)):=by
 obtain⟨oc,od,kV,doc,pm,an,cdv,ct,osl,rfl,lk,hcd⟩:=F.ex;refine Zoo lk hcd S (λvs H Q E h=>?_) (λA outer s H vs Q E hr h=>?_)
 .obtain⟨ds,α,M,r,_,q⟩:=h;by_cases c:ds.length=n
  .rw[r.length,c,hn]
  .simp only[fnF,if_neg c]at q;exact q.elim
 .obtain⟨ds,α,M,r,hh,q⟩:=h;obtain⟨t,p,w'⟩:=hb cdv A outer s H E hr ZkQ;by_cases c:ds.length=n
  .simp only[fnF,if_pos c]at q;refine⟨t,p,w' _ _ H α M _ (SR.start (N:=N) r (k:=m) (by rw[hm,c])) hh ?_⟩
   cases e:g (ds.map some++bf m none) M with
   |nx ρ' M'=>simp only[e]at q;exact λσ' H' α' ex hr sr=>q _ H' α' ex hr .non
   |ret d M'=>simp only[e]at q;exact q
   |exc x M'=>simp only[e]at q;exact q
   |brk ρ' M'=>simp only[e]at q;exact q.elim
   |cnt ρ' M'=>simp only[e]at q;exact q.elim
   |bad=>simp only[e]at q;exact q.elim
  .simp only[fnF,if_neg c]at q;exact q.elim
end
theorem Zme(G:FnOk X.prog X.w X.K X.mg X.base (CXE X.prog X.w) k f fd ps (spD X.K F))(T:Thr X ξ)(hr:Room k X.A)(hm:X.mg x=some (.ref f))(hk:PySem.W.keepIn X.K (.ref f)=true)(hb:Zev X.K fd ps [])(ha:DA X ξ (e::es) fs)(hg:autoParam (Gl X x) Qrf._auto_1)
  (hdb:(x==("__debug__":Str))=false:=by decide) (he:av (e::es) X.env=(false,eval e X.env)::av es X.env:=by rfl) (hpl:(cT pos (av es X.env)).any (·.1)=false:=by rfl):DE X ξ (.Call (.Name x p) (e::es) [] pos) (Zj F fs):=by
 obtain⟨t,pa,qa⟩:=ha;refine⟨_,ZlU G hr hg hm hk hb .nil T.ps pa hdb he hpl,λσ ρ H α M Q s hh q=>qa σ ρ H α M _ s hh (OG.seq q λds M1 vs H1 α1 e1 h1 r1 q1=>?_)⟩;rw[cx];exact⟨ds,α1,M1,r1,h1,q1⟩
end DL
namespace DL
open PyProof.Rows L2
theorem ZdW:bK "abs"=some (.builtin "abs"):=by decide +kernel
theorem ZdX:bK "int"=some (.type "int"):=by decide +kernel
theorem Zmf:bK "bool"=some (.type "bool"):=by decide +kernel
theorem ZeB:bK "list"=some (.type "list"):=by decide +kernel
theorem Zcj:bK "max"=some (.builtin "max"):=by decide +kernel
theorem Zho:bK "min"=some (.builtin "min"):=by decide +kernel
theorem ZoT:bK "all"=some (.builtin "all"):=by decide +kernel
def Cal(P:cD)(w:da)(K:Fg)(mg:Str->Option aa)(base:Heap)(x:Str)(k n:Nat)(F:W3):Prop:=
 ∃(f:Addr) (fd:iT) (ps:List Str),FnOk P w K mg base (CXE P w) k f fd ps (spD K F)/\mg x=some (.ref f)/\PySem.W.keepIn K (.ref f)=true/\ps.length=n/\Zev K fd ps []
theorem ZjH(C:Cal X.prog X.w X.K X.mg X.base x k n F)(T:Thr X ξ)(hr:Room k X.A)(ha:DA X ξ (e::es) fs)(hg:autoParam (Gl X x) Qrf._auto_1)(hdb:autoParam ((x==("__debug__":Str))=false) Qde._auto_1)(he:autoParam (av (e::es) X.env=(false,eval e X.env)::av es X.env) Qrf._auto_1)(hpl:autoParam ((cT pos (av es X.env)).any (·.1)=false) Qrf._auto_1):DE X ξ (.Call (.Name x p) (e::es) [] pos) (Zj F fs):=by
 obtain⟨f,fd,ps,G,hm,hk,_,hb⟩:=C;exact Zme G T hr hm hk hb ha hg hdb he hpl
end DL
namespace DL
open PyProof.Rows L2
noncomputable def bl:List Str:=["ValueError","abs","all","any","bool","dict","enumerate","int","isinstance","len","list","max","min","range","repr","reversed","sorted","str","sum","tuple","zip"]
structure Bs(mg:Str->Option aa):Prop where
 b_ValueError:mg "ValueError"=none
 b_abs:mg "abs"=none
 b_all:mg "all"=none
 b_any:mg "any"=none
 b_bool:mg "bool"=none
 b_dict:mg "dict"=none
 b_enumerate:mg "enumerate"=none
 b_int:mg "int"=none
 b_isinstance:mg "isinstance"=none
 b_len:mg "len"=none
 b_list:mg "list"=none
 b_max:mg "max"=none
 b_min:mg "min"=none
 b_range:mg "range"=none
 b_repr:mg "repr"=none
 b_reversed:mg "reversed"=none
 b_sorted:mg "sorted"=none
 b_str:mg "str"=none
 b_sum:mg "sum"=none
 b_tuple:mg "tuple"=none
 b_zip:mg "zip"=none
theorem Bs.of{K:Fg}(X:K.In h)(G:h.Ns aO mg)(z:bl.map (PySem.W.nsIn K aO)=bl.map λ_=>some none):Bs mg:=by
 have q (x:Str) (m:x∈bl):mg x=none:=PySem.W.mg_none_of X G (List.map_inj_left.mp z x m)
 constructor<;>exact q _ (by decide +kernel)
noncomputable def Df(K:Fg)(x:Str)(st:Stmt):Prop:=∃f fd,PySem.W.nsIn K aO x=some (some (.ref f))/\Fun K x x st f fd
def Dfs(K:Fg)(p:Nat->Stmt)(L:List Rw):Prop:=
 L.map (λr=>(PySem.W.nsIn K aO r.n,K.lookup r.f,PySem.W.codeIn K (.ref (r.f-1)) r.n,PySem.W.keepIn K (.ref r.f)))=L.map λr=>(some (some (.ref r.f)),some (r.fo p),true,true)
theorem Dfs.of{K:Fg}(h:L.map (λr=>(PySem.W.nsIn K aO r.n,K.lookup r.f,PySem.W.codeIn K (.ref (r.f-1)) r.n,PySem.W.keepIn K (.ref r.f)))=L.map λr=>(some (some (.ref r.f)),some (r.fo p),true,true)):Dfs K p L:=h
theorem Dfs.at{K:Fg}(h:Dfs K p L)(j i:Nat)(e:autoParam ((L[j]?).map (λr=>(bG r.n,r.i))=some (x,i)) Qrf._auto_1):Df K x (p i):=by
 obtain⟨r,m,e⟩:=iy.mp e;have q:=List.map_inj_left.mp h r (fg m);cases e;simp only[mz]at q;exact⟨_,_,q.1,Zou q.2.1 q.2.2.1 q.2.2.2⟩
section
variable {P:cD}{w:da}{K:Fg}{base:Heap}
theorem Zvh{α:Type}{P:List α->Prop}(h:P []):∀us:List α,us.length=0->P us
 |[],_=>h
theorem Zt6{α:Type}{P:List α->Prop}(h:∀x0,P [x0]):∀us:List α,us.length=1->P us
 |[x0],_=>h x0
theorem Zt7{α:Type}{P:List α->Prop}(h:∀x0 x1,P [x0,x1]):∀us:List α,us.length=2->P us
 |[x0,x1],_=>h x0 x1
theorem Zt8{α:Type}{P:List α->Prop}(h:∀x0 x1 x2,P [x0,x1,x2]):∀us:List α,us.length=3->P us
 |[x0,x1,x2],_=>h x0 x1 x2
theorem Zvi{α:Type}{P:List α->Prop}(h:∀x0 x1 x2 x3,P [x0,x1,x2,x3]):∀us:List α,us.length=4->P us
 |[x0,x1,x2,x3],_=>h x0 x1 x2 x3
theorem Zvj{α:Type}{P:List α->Prop}(h:∀x0 x1 x2 x3 x4,P [x0,x1,x2,x3,x4]):∀us:List α,us.length=5->P us
 |[x0,x1,x2,x3,x4],_=>h x0 x1 x2 x3 x4
theorem Zvk{α:Type}{P:List α->Prop}(h:∀x0 x1 x2 x3 x4 x5,P [x0,x1,x2,x3,x4,x5]):∀us:List α,us.length=6->P us
 |[x0,x1,x2,x3,x4,x5],_=>h x0 x1 x2 x3 x4 x5
theorem ZZ{st:Stmt}(D:Df K x st)(gl:∀c v,PySem.W.nsIn K aO c=some (some v)->mg c=some v)(hb:∀(cdv:aa)(A:dg)(outer:List Env)(s:aB)(H:Hp)(E:XK)(f:Addr),N.Nodup->Room k (A.deeper (jw x (Zo st) s.heap.objs.size f cdv))->Thr (Zfm (CXE P w) P w K mg base N x (Zo st) f cdv A outer s H E) E->DSs (Zfm (CXE P w) P w K mg base N x (Zo st) f cdv A outer s H E) E (Zag st) g)(h1:autoParam ((Zo st).kind=.function) Qrf._auto_1)(h2:autoParam ((Zo st).isCoroutine=false) Qrf._auto_1)(h3:autoParam ((Zo st).isGenerator=false) Qrf._auto_1)(h4:N.Nodup:=by decide +kernel)(h5:autoParam ((N.take n).length=n) Qrf._auto_1)(h6:∀y∈N.take n,(Zo st).names.lookup y=some .local\/(Zo st).names.lookup y=some .cell:=by decide +kernel)(h7:∀y∈(Zo st).names,y.2≠ .free:=by decide +kernel)(hm:autoParam (m=N.length-n) Qrf._auto_1)(bi:∀(kV doc pm:aa)(an:Option Addr)(cdv ct:aa)(us:List aa),us.length=n->iU (PySem.W.fnOf x x (ZaZ st) (Zag st) (Zo st) .none kV doc pm an cdv ct) ⟨us,[]⟩=pure ((N.take n).zip us):=by first|exact λ_ _ _ _ _ _=>Zt6 λ_=>rfl|exact λ_ _ _ _ _ _=>Zt7 λ_ _=>rfl|exact λ_ _ _ _ _ _=>Zt8 λ_ _ _=>rfl|exact λ_ _ _ _ _ _=>Zvi λ_ _ _ _=>rfl|exact λ_ _ _ _ _ _=>Zvj λ_ _ _ _ _=>rfl|exact λ_ _ _ _ _ _=>Zvk λ_ _ _ _ _ _=>rfl|exact λ_ _ _ _ _ _=>Zvh rfl):Cal P w K mg base x (k+1) n (fnF g n m):=by
 obtain⟨f,fd,a,F⟩:=D;have S:FnScope N (N.take n) (Zo st):=⟨h1,h2,h3,h4,by rw[h5],h6,h7⟩
 exact⟨f,fd,N.take n,ZoS F S h5.symm hm (λcdv A outer s H E hr θ=>hb cdv A outer s H E f h4 hr θ),gl _ _ a,F.kp,h5,F.binds (λkV doc pm an cdv ct us hu=>bi kV doc pm an cdv ct us (hu.trans h5))⟩
theorem Zh(C:Cal X.prog X.w X.K X.mg X.base x k n F)(T:Thr X ξ)(hr:Room j X.A)(ha:DA X ξ (e::es) fs)(hj:autoParam (k<=j) Qde._auto_1)(hg:autoParam (Gl X x) Qrf._auto_1)(hdb:autoParam ((x==("__debug__":Str))=false) Qde._auto_1)(he:autoParam (av (e::es) X.env=(false,eval e X.env)::av es X.env) Qrf._auto_1)(hpl:autoParam ((cT pos (av es X.env)).any (·.1)=false) Qrf._auto_1):DE X ξ (.Call (.Name x p) (e::es) [] pos) (Zj F fs):=ZjH C T (hr.mono hj) ha hg hdb he hpl
theorem ZoU{l:PySem.W.OpenLaw}{st:Stmt}(X:K.In h)(G:h.Ns aO mg)(hfa:mg "law"=some (.ref fa))(D:Df K "law" st)(b:∀(kV doc pm:aa)(an:Option Addr)(cdv ct:aa)(v:aa),iU (PySem.W.fnOf "law" "law" (ZaZ st) (Zag st) (Zo st) .none kV doc pm an cdv ct) ⟨[v],[]⟩=pure [(y,v)])(q:∀base fd,Fun K "law" "law" st fa fd->FnOk l.prog w K mg base (CXE l.prog w) k fa fd [y] (spD K F)):∃fd:iT,(∀(s:aB)(v:aa),lX s fd ⟨[v],[]⟩ [(y,v)])/\∀base:Heap,K.In base->base.Ns aO mg->FnOk l.prog w K mg base (CXE l.prog w) k fa fd [y] (spD K F):=by
 obtain⟨f,fd,a,F⟩:=D;have e:=hfa.symm.trans (PySem.W.mg_of X G a);cases e;refine⟨fd,?_,λbase _ _=>q base fd F⟩;obtain⟨oc,od,kV,doc,pm,an,cdv,ct,osl,rfl,lk,hcd⟩:=F.ex;exact λs v=>.of_eq (b kV doc pm an cdv ct v)
end
end DL
namespace DL
open PyProof.Rows L2
inductive Src where
 |pur (ds:List D)
 |sto (n:Nat)
 |zip (n m:Nat)
 |enu (n:Nat)
 |rev (n l:Nat)
 |zips (ns:List Nat)
 |dct (n:Nat)
 |zipT (n:Nat) (es:List D)
def Zhp(M:Sto)(i:Nat):List Nat->Option (Option (List D))
 |[]=>some (some [])
 |n::ns=>match M[n]? with
  |none=>none
  |some (.lst xs)=>match Zhp M i ns with
   |none=>none
   |some r=>match xs[i]?,r with|some x,some ds=>some (some (x::ds))|_,_=>some none
def nxt(src:Src)(i:Nat)(M:Sto):Option (Option D):=match src with
 |.pur ds=>some ds[i]?
 |.sto n=>match M[n]? with|some (.lst xs)=>some xs[i]?|none=>none
 |.zip n m=>match M[n]?,M[m]? with
  |some (.lst xs),some (.lst ys)=>(match xs[i]?,ys[i]? with|some x,some y=>some (some (.tup [x,y]))|_,_=>some none)
  |_,_=>none
 |.enu n=>match M[n]? with|some (.lst xs)=>(match xs[i]? with|some x=>some (some (.tup [.int i,x]))|none=>some none)|none=>none
 |.zipT n es=>match M[n]? with|some (.lst xs)=>(match xs[i]?,es[i]? with|some x,some y=>some (some (.tup [x,y]))|_,_=>some none)|none=>none
 |.dct n=>match M[n]? with|some (.lst (.non::r))=>(match r[i]? with|some (.tup (k::_))=>some (some k)|some _=>none|none=>some none)|_=>none
 |.zips ns=>match Zhp M i ns with|some (some ds)=>some (some (.tup ds))|some none=>some none|none=>none
 |.rev n l=>match M[n]? with|some (.lst xs)=>if i<l then(match xs[l-1-i]? with|some x=>some (some x)|none=>none)else(if i=l then some none else none)|none=>none
def cnt(src:Src)(M:Sto):Nat:=match src with
 |.pur ds=>ds.length
 |.sto n=>match M[n]? with|some (.lst xs)=>xs.length|none=>0
 |.zip n _=>match M[n]? with|some (.lst xs)=>xs.length|none=>0
 |.enu n=>match M[n]? with|some (.lst xs)=>xs.length|none=>0
 |.rev _ l=>l
 |.zipT n _=>match M[n]? with|some (.lst xs)=>xs.length|none=>0
 |.dct n=>match M[n]? with|some (.lst xs)=>xs.length|none=>0
 |.zips ns=>match ns with|n::_=>(match M[n]? with|some (.lst xs)=>xs.length|none=>0)|[]=>0
def ZoV(K:Fg)(H:Hp)(α:List Addr)(J:It)(src:Src):Prop:=∀(i:Nat) H' α' M',Ext K H H' α α'->HR K H' α' M'->match nxt src i M' with
 |some none=>J.stop i H'
 |some (some d)=>J.go i H'/\∀x H'',J.yld i H' x H''->Ext K H' H'' α' α'/\HR K H'' α' M'/\Rep K H'' α' x d
 |none=>True
def DI(X:Cx)(ξ:XK)(tg iter:Expr)(f:Ro->Sto->Out Src):Prop:=∃wi:TI,PI X tg iter wi/\∀σ ρ H α M R,SR X.K H α σ ρ->HR X.K H α M->OG X.K (ZoV X.K) H α ξ R (f ρ M)->wi σ H R
theorem Zgl{K:Fg}{lo:Int}:ZoV K H α (Itr lo n) (.pur (Zbh lo n)):=by
 intro i H' α' M' ex hr;show match some (Zbh lo n)[i]? with|some none=>_|some (some d)=>_|none=>True
 by_cases h:i<n
 .rw[ZfA h];refine⟨h,λx H'' y=>?_⟩;obtain⟨e1,e2⟩:=y;subst e1 e2;exact⟨Ext.refl,hr,.int _⟩
 .rw[aZ (by rw[Zc8];lia)]
  exact Nat.le_of_not_lt h
def iSq(f:Ev):Ro->Sto->Out Src:=λρ M=>(f ρ M).bind λd M1=>match d with
 |.tup ds=>.ok (.pur ds) M1
 |.rol ds=>.ok (.pur ds) M1
 |.con ds=>.ok (.pur ds) M1
 |.ref n=>.ok (.sto n) M1
 |_=>.bad
theorem Z4(ha:DE X ξ a f):DI X ξ tg a (iSq f):=by
 obtain⟨ta,pa,qa⟩:=ha;refine⟨_,ZkU pa,λσ ρ H α M R s hh q=>qa σ ρ H α M _ s hh (OG.seq q λd M1 v H1 α1 e1 h1 r1 w1=>?_)⟩;cases r1 with
 |@tup p xs ds hp rp=>
  refine⟨p,rfl,.inr ⟨⟨xs,(SqT.of hp)⟩,w1 (Itt X.K p) H1 α1 Ext.refl h1 ?_⟩⟩;intro i H' α' M' ex hr;show match some ds[i]? with|some none=>_|some (some d)=>_|none=>True
  cases ei:ds[i]? with
  |none=>exact⟨xs,SqT.of (ex.tup _ _ hp),by rw[rp.length];exact bJ.mp ei⟩
  |some d=>
   obtain⟨v,k1,k2⟩:=rp.get ei;refine⟨⟨xs,v,SqT.of (ex.tup _ _ hp),k1⟩,λx H'' y=>?_⟩;obtain⟨ey,y⟩:=y;have z:=y xs (SqT.of (ex.tup _ _ hp));rw[k1]at z;cases z;subst ey;exact⟨Ext.refl,hr,Rep.mono ex k2⟩
 |@con p xs ds hp rp=>
  refine⟨p,rfl,.inr ⟨⟨xs,hp.sq⟩,w1 (Itt X.K p) H1 α1 Ext.refl h1 ?_⟩⟩;intro i H' α' M' ex hr;show match some ds[i]? with|some none=>_|some (some d)=>_|none=>True
  cases ei:ds[i]? with
  |none=>exact⟨xs,hp.sq,by rw[rp.length];exact bJ.mp ei⟩
  |some d=>
   obtain⟨v,k1,k2⟩:=rp.get ei;refine⟨⟨xs,v,hp.sq,k1⟩,λx H'' y=>?_⟩;obtain⟨ey,y⟩:=y;have z:=y xs hp.sq;rw[k1]at z;cases z;subst ey;exact⟨Ext.refl,hr,Rep.mono ex k2⟩
 |@rol p xs ds hp rp=>
  refine⟨p,rfl,.inl ⟨⟨xs,hp.sq⟩,w1 (Itl X.K p) H1 α1 Ext.refl h1 ?_⟩⟩;intro i H' α' M' ex hr;show match some ds[i]? with|some none=>_|some (some d)=>_|none=>True
  have hq:=(ex.rol _ _ hp).sq;cases ei:ds[i]? with
  |none=>exact⟨xs,hq,by rw[rp.length];exact bJ.mp ei⟩
  |some d=>
   obtain⟨v,k1,k2⟩:=rp.get ei;refine⟨⟨xs,v,hq,k1⟩,λx H'' y=>?_⟩;obtain⟨ey,y⟩:=y;have z:=y xs hq;rw[k1]at z;cases z;subst ey;exact⟨Ext.refl,hr,Rep.mono ex k2⟩
 |@ref p n hp=>
  obtain⟨xs0,g0⟩:=h1.some_at hp;refine⟨p,rfl,.inl ⟨⟨xs0,SqL.of g0⟩,w1 (Itl X.K p) H1 α1 Ext.refl h1 ?_⟩⟩;intro i H' α' M' ex hr;show match(match M'[n]? with|some (.lst xs)=>some xs[i]?|none=>none)with|some none=>_|some (some d)=>_|none=>True
  cases em:M'[n]? with
  |none=>exact fC
  |some so=>
   cases so with
   |lst ds=>
    obtain⟨xs,g1,g2⟩:=hr.at (ex.get hp) em;show match some ds[i]? with|some none=>_|some (some d)=>_|none=>True
    cases ei:ds[i]? with
    |none=>exact⟨xs,SqL.of g1,by rw[g2.length];exact bJ.mp ei⟩
    |some d=>
     obtain⟨v,k1,k2⟩:=g2.get ei;refine⟨⟨xs,v,SqL.of g1,k1⟩,λx H'' y=>?_⟩;obtain⟨ey,y⟩:=y;have z:=y xs (SqL.of g1);rw[k1]at z;cases z;subst ey;exact⟨Ext.refl,hr,k2⟩
 |_=>exact w1.elim
theorem Zac:∀(names:List (Str×cW)) (n:Nat) (acc:List (Str×Addr)),bT n names acc=bT n names []++acc
 |[],_,_=>rfl
 | (x,kd)::r,n,acc=>by
  unfold bT;split
  .rw[Zac r (n+1) ((x,n)::acc),Zac r (n+1) [(x,n)]];simp
  .exact Zac r n acc
theorem ZaK:∀(names:List (Str×cW)) (n:Nat) (x:Str) (c:Addr),(x,c)∈bT n names []->(x,eE)∈names
 |[],_,_,_,h=>by simp[bT]at h
 | (y,kd)::r,n,x,c,h=>by
  unfold bT at h
  split at h
  .rename_i hk;rw[Zac]at h;rcases a7.mp h with h|h
   .exact aI _ (ZaK r (n+1) x c h)
   .have e:=cJ.mp h;cases e
    have:kd=.cell:=by simpa using hk
    rw[this];exact bQ
  .exact aI _ (ZaK r n x c h)
theorem Zb4{α:Type}:∀{l r:List (Str×α)} {x:Str} {c:α},(l++r).lookup x=some c->l.lookup x=some c\/(l.lookup x=none/\r.lookup x=some c)
 |[],r,x,c,h=>.inr ⟨rfl,h⟩
 | (y,d)::l,r,x,c,h=>by
  rw[bL,b6]at h;rw[b6];cases e:x==y with
  |true=>rw[e]at h;exact .inl h
  |false=>rw[e]at h;exact Zb4 h
theorem ZcP{α:Type}:∀{l r:List (Str×α)} {x:Str},(∀c,(x,c)∉l)->(l++r).lookup x=r.lookup x
 |[],_,_,_=>rfl
 | (y,d)::l,r,x,h=>by
  rw[bL,b6];cases e:x==y with
  |true=>
   have:x=y:=by simpa using e
   exact absurd (by rw[this];exact bQ) (h d)
  |false=>exact ZcP λc hc=>h c (aI _ hc)
theorem Zhq(hQ:Q (newEnv scope s.heap.objs.size globals (bT (s.heap.objs.size+1) scope.names cl) qual none .none (some env) ig) {s with heap:=jj (s.heap.push {cls:=.type "dict",data:=.dict #[]}) scope.names}):wpAny M A (lL scope globals cl [] qual none .none (some env)) Q E s:=by
 simp only[lL,jB,if_true];refine Wb (wpAny_alloc ?_);refine Wb (wpAny_layCells _ (λname kind cells=>by cases hkc:kind==eE<;>simp[hkc]) _ _ _ _ ?_)
 rw[show({s with heap:=s.heap.push {cls:=.type "dict",data:=.dict #[]}}:aB).heap.objs.size=s.heap.objs.size+1 from gu ..];exact Wb (Wp (Wp hQ))
theorem _root_.PySem.W.cellsFrom_mem {x:Str}:∀(names:List (Str×cW)) (n:Nat) (acc:List (Str×Addr)),(x,eE)∈names->((bT n names acc).lookup x).isSome=true
 |[],_,_,h=>by simp at h
 | (y,kd)::r,n,acc,h=>by
  have acc_some:∀(names:List (Str×cW)) (n:Nat) (acc:List (Str×Addr)),(acc.lookup x).isSome=true->((bT n names acc).lookup x).isSome=true:=λnames n acc h=>PySem.W.cellsFrom_some names n acc (.inr h);unfold bT;split
  .rcases az.mp h with e|e
   .cases e;refine acc_some _ _ _ ?_;rw[b6];simp
   .exact PySem.W.cellsFrom_mem r _ _ e
  .rename_i hk;rcases az.mp h with e|e
   .cases e;simp at hk
   .exact PySem.W.cellsFrom_mem r _ _ e
noncomputable def blk(X:Cx)(scope:js)(cl:List (Str×Addr))(N:List Str)(C:Addr)(fp:List Addr)(s:aB)(H:Hp):Cx:=
 {X with N:=N,s₀:=s,H₀:=H,env:=compEnvC scope (bT (C+1) scope.names cl) C X.env,outer:=X.stack,stack:=X.stack,ex:=fp,fn:=λx=>scope.names.any λy=>y.1==x&&y.2 == .cell,pn:=[],xe:=λ_ _=>False,fxs:=none}
theorem ZbE:Thr (blk X scope cl N C fp s H) E0:=
 ⟨fZ.never,λ_ _ _ _ _ _ _ h=>by obtain⟨_,_,_,_,_,_,_,_,_,_,_,_,_,q⟩:=h;exact q,λ_ _ _ _ _ _ _ _ _ _ _ _ _ _ _ _ _ _ _ _ _ _ q=>q⟩
def ZfB(src:Src)(tg:Tg)(c:Tv)(f:Ev)(n:Nat):Nat->Nat->Ro->Sto->Out Unit
 |fuel,i,ρ,M=>match nxt src i M with
  |none=>.bad
  |some none=>.ok () M
  |some (some d)=>(match fuel with
   |0=>.bad
   |fuel+1=>(match tg d ρ with
    |none=>.bad
    |some ρ1=>(match c ρ1 M with
     |.ok true M1=>(match f ρ1 M1 with
      |.ok x M2=>(match M2[n]? with
       |some (.lst xs)=>if xs.length<10000000 then ZfB src tg c f n fuel (i+1) ρ1 (M2.set n (.lst (xs++[x])))else .bad
       |none=>.bad)
      |_=>.bad)
     |.ok false M1=>ZfB src tg c f n fuel (i+1) ρ1 M1
     |_=>.bad)))
noncomputable def roB(k:Nat)(fr:List Nat)(ρ:Ro):Ro:=bf k none++fr.map λi=>(ρ[i]?).join
def Zaj(fi:Ro->Sto->Out Src)(k:Nat)(fr:List Nat)(tg:Tg)(c:Tv)(f:Ev):Ev:=λρ M=>(fi ρ M).bind λsrc M1=>match ZfB src tg c f M1.length (cnt src M1) 0 (roB k fr ρ) (M1++[.lst []])with
 |.ok _ M2=>.ok (.ref M1.length) M2
 |_=>.bad
structure Blk(X:Cx) (scope:js) (cl:List (Str×Addr)) (N:List Str) (k:Nat) (fr:List Nat):Prop where
 clos:mJ scope X.env=pure cl
 kind:scope.kind=.function
 names:∀y∈scope.names,y.2=.local->scope.names.lookup y.1=some .local
 sub:∀x c,cl.lookup x=some c->X.env.cells.lookup x=some c
 has:∀n x,((mT scope X.env).names.lookup x=some .cell\/(mT scope X.env).names.lookup x=some .free)->∃c,(bT n scope.names cl).lookup x=some c
 len:N.length=k+fr.length
 at_:∀(j i:Nat),fr[j]?=some i->∃x,N[k+j]?=some x/\X.N[i]?=some x/\X.env.kindOf x=some .cell/\((mT scope X.env).names.lookup x=some .cell\/(mT scope X.env).names.lookup x=some .free)/\cl.lookup x=X.env.cells.lookup x/\(x,eE)∉scope.names
noncomputable def Zc9(target iter:Expr)(ifs:List Expr)(it:aa)(env:Env)(body ag:Sem Fin):Sem Fin:=do
 standAt iter.pos
 match <-jl it with
 |none=>pure (.done .next)
 |some v=>
  hE target it v
  assign target env v
  let mut ok:=true
  for c in ifs do
   if ok then ok <-isTrue c env (eval c env)
  if ok then body else ag
noncomputable def Zhr(e elt:Expr)(d:Nat)(it acc:aa)(env:Env):Sem Fin:=do
 (do let _ <-call (.builtin "list.append") [acc,<-eval elt env])
 again (.compLoop e d it acc env)
theorem ZfC(elt t0 i0:Expr)(f0:List Expr)(sc:js)(pos:Pos)(it acc:aa)(env:Env):iV (.ListComp elt [⟨t0,i0,f0,0⟩] sc pos) 0 it acc env=Zc9 t0 i0 f0 it env (Zhr (.ListComp elt [⟨t0,i0,f0,0⟩] sc pos) elt 0 it acc env) (again (.compLoop (.ListComp elt [⟨t0,i0,f0,0⟩] sc pos) 0 it acc env)):=by rfl
theorem Zgm(he:iV (.ListComp elt gens scope pos) d it acc env=Zc9 target iter ifs it env body (again (.compLoop (.ListComp elt gens scope pos) d it acc env)))(I:Nat->aB->Prop)(turn:∀n s,I n s->wpAny (ao prog w) A (jl it) (λr s₁=>match r with
   |none=>R (.ok .next) s₁
   |some v=>wpAny (ao prog w) A (hE target it v) (λ_ s₁=>wpAny (ao prog w) A (assign target env v) (λ_ s₂=>
     wpAny (ao prog w) A (forIn ifs true λc r=>if r=true then do let ok <-isTrue c env (eval c env);pure (ForInStep.yield ok)else pure (ForInStep.yield r)) (λok s₃=>
      if ok=true then wpAny (ao prog w) A body (λfin s₅=>fin=.again (.compLoop (.ListComp elt gens scope pos) d it acc env)/\∃m,m<n/\I m s₅) (λ_ _=>False) s₃
      else ∃m,m<n/\I m s₃) (λ_ _=>False) s₂) (λ_ _=>False) s₁) (λ_ _=>False) s₁) (λ_ _=>False) s)
  (n:Nat) (h:I n s):
  fN (ao prog w) A (.compLoop (.ListComp elt gens scope pos) d it acc env) R s:=by
 refine codeAny_loop rfl I (λn s hI=>?_) n h;show wpAny _ A ((iV (.ListComp elt gens scope pos) d it acc env).onRaise (λx=>do ma x env;theTreesLotGoes x)) _ _ s
 refine wpAny_noted ?_;rw[he];unfold Zc9;refine Wb (wpAny_standAt (Wb (wpAny_mono (turn n s hI) (λr s₁ h₁=>?_) λ_ _ h'=>h'.elim)));cases r with
 |none=>exact Wp h₁
 |some v=>
  refine Wb (wpAny_mono h₁ (λ_ s₁ h₁=>?_) λ_ _ h'=>h'.elim);refine Wb (wpAny_mono h₁ (λ_ s₂ h₂=>Wb (wpAny_mono h₂ (λok s₃ h₃=>?_) λ_ _ h'=>h'.elim)) λ_ _ h'=>h'.elim);cases ok with
  |false=>exact Wp ⟨rfl,h₃⟩
  |true=>
   refine wpAny_mono h₃ (λfin s₅ h₅=>?_) λ_ _ h'=>h'.elim;obtain⟨rfl,h5⟩:=h₅;exact⟨rfl,h5⟩
def DC(X:Cx)(ifs:List Expr)(c:Tv):Prop:=(ifs=[]/\c=λ_ M=>.ok true M)\/∃e,ifs=[e]/\DT X E0 e c
def Zb5(src:Src)(tg:Tg)(c:Tv)(g:Ro->Sto->Out Ro):Nat->Nat->Ro->Sto->Out Ro
 |fuel,i,ρ,M=>match nxt src i M with
  |none=>.bad
  |some none=>.ok ρ M
  |some (some d)=>(match fuel with
   |0=>.bad
   |fuel+1=>(match tg d ρ with
    |none=>.bad
    |some ρ1=>(match c ρ1 M with
     |.ok true M1=>(match g ρ1 M1 with
      |.ok ρ2 M2=>Zb5 src tg c g fuel (i+1) ρ2 M2
      |_=>.bad)
     |.ok false M1=>Zb5 src tg c g fuel (i+1) ρ1 M1
     |_=>.bad)))
noncomputable def gEm(f:Ev)(n:Nat):Ro->Sto->Out Ro:=λρ M=>match f ρ M with
 |.ok x M2=>(match M2[n]? with
  |some (.lst xs)=>if xs.length<10000000 then .ok ρ (M2.set n (.lst (xs++[x])))else .bad
  |none=>.bad)
 |_=>.bad
def Za0(fi:Ro->Sto->Out Src)(k:Nat)(fr:List Nat)(tg:Tg)(c:Tv)(g:Nat->Ro->Sto->Out Ro):Ev:=λρ M=>(fi ρ M).bind λsrc M1=>match Zb5 src tg c (g M1.length) (cnt src M1) 0 (roB k fr ρ) (M1++[.lst []])with
 |.ok _ M2=>.ok (.ref M1.length) M2
 |_=>.bad
def ZcQ(Y:Cx)(D:Addr)(n0:Nat)(c:Code)(m:Sem Fin)(g:Ro->Sto->Out Ro):Prop:=∀pins s σ ρ H α M ρ' M',Inv Y pins σ H s->SR Y.K H α σ ρ->HR Y.K H α M->RefK H α 0 n0 D->g ρ M=.ok ρ' M'->
 wpAny (ao Y.prog Y.w) Y.A m (λfin s'=>fin=.again c/\∃σ' H' α',Inv Y pins σ' H' s'/\Ext Y.K H H' α α'/\SR Y.K H' α' σ' ρ'/\HR Y.K H' α' M') (λ_ _=>False) s
def CmP(Y:Cx)(pins:Pn)(fp:List Addr)(tn:Nat->Heap->Prop)(H3:Hp)(α3:List Addr)(g:Nat->Nat->Ro->Sto->Prop)(n:Nat)(s':aB):Prop:=
 ∃i σ' ρ' H' α' M',Inv Y pins σ' H' s'/\tn i s'.heap/\(∀b∈fp,H' b=none)/\SR Y.K H' α' σ' ρ'/\HR Y.K H' α' M'/\Ext Y.K H3 H' α3 α'/\g n i ρ' M'
theorem ZdY{D:Addr}(hct:iV (.ListComp elt gens scope pos) d0 (.ref it) (.ref D) Y.env=Zc9 tg iter ifs (.ref it) Y.env body (again (.compLoop (.ListComp elt gens scope pos) d0 (.ref it) (.ref D) Y.env)))(T:Turn Y.prog Y.w Y.K Y.A tg J fp it tn)(hxe:∀x y,Y.xe x y->False)(fp5:∀{H':Hp},(∀b∈fp,H' b=none)->∀b∈fp,Zep Y pins H' b)(hg:DG Y tg gt)(tst:DC Y ifs c)(hb:ZcQ Y D n0 (.compLoop (.ListComp elt gens scope pos) d0 (.ref it) (.ref D) Y.env) body g)(sc:ZoV Y.K H3 α3 J src)(aD:RefK H3 α3 0 n0 D)(I4:Inv Y pins σ0 H3 s4)(st4:tn 0 s4.heap)(fr4:∀b∈fp,H3 b=none)(sr:SR Y.K H3 α3 σ0 ρ0)(h3:HR Y.K H3 α3 M3)(er:Zb5 src gt c g fuel 0 ρ0 M3=.ok ρ9 M9)(post:∀σ5 H5 α5 s6,Inv Y pins σ5 H5 s6->Ext Y.K H3 H5 α3 α5->SR Y.K H5 α5 σ5 ρ9->HR Y.K H5 α5 M9->R (.ok .next) s6):fN (ao Y.prog Y.w) Y.A (.compLoop (.ListComp elt gens scope pos) d0 (.ref it) (.ref D) Y.env) R s4:=by
 obtain⟨tt,pt,qt⟩:=hg;refine Zgm hct (CmP Y pins fp tn H3 α3 λn i ρ' M'=>Zb5 src gt c g n i ρ' M'=.ok ρ9 M9) ?_ fuel ⟨0,σ0,ρ0,H3,α3,M3,I4,st4,fr4,sr,h3,Ext.refl,er⟩;rintro n s5 ⟨i,σ5,ρ5,H5,α5,M5,I5,st5,fr5,sr5,hr5,ex5,en⟩;have src5:=sc i H5 α5 M5 ex5 hr5;rw[Zb5]at en;cases ex:nxt src i M5 with
 |none=>rw[ex]at en;cases en
 |some od=>
  rw[ex]at src5 en;cases od with
  |none=>
   cases en;have fin:=T.done Y rfl rfl rfl rfl i pins s5 σ5 H5 (λ_ _=>False) I5 (fp5 fr5) st5 src5;refine thn fin λr s6 w6=>?_;obtain⟨hr6,I6⟩:=w6;subst hr6;exact post σ5 H5 α5 s6 I6 ex5 sr5 hr5
  |some d=>
   obtain⟨go,yl⟩:=src5;cases n with
   |zero=>cases en
   |succ n=>
    simp only at en;have itm:=T.item Y rfl rfl rfl rfl i pins s5 σ5 H5 (λ_ _=>False) I5 (fp5 fr5) st5 go;refine thn itm λr s6 hz=>?_;obtain⟨u,hr6,w6⟩:=hz;subst hr6;refine thn w6 λ_ s7 hz=>?_;obtain⟨x,H7,I7,r7,y7,st7,fr7⟩:=hz;obtain⟨ex7,hr7,rp7⟩:=yl x H7 y7;have sr5:=sr5.mono ex7;have hr5:=hr7;have ex5:=ex5.trans ex7;have I7':=I7.pinned (fp5 fr7) (T.obj _ _ st7);cases eg:gt d ρ5 with
    |none=>rw[eg]at en;cases en
    |some ρ6=>
     rw[eg]at en;simp only at en;have asg:=pt _ s7 σ5 H7 x u _ I7' r7 (qt x d σ5 ρ5 H7 α5 ρ6 (λσ' H'=>H'=H7/\SR Y.K H7 α5 σ' ρ6) sr5 rp7 eg λσ' s'=>⟨rfl,s'⟩);refine wpAny_mono asg (λ_ s8 hz=>?_) (λx y z=>hxe x y z);obtain⟨σ8,H8,I8,z8,sr8⟩:=hz;subst z8;have again':∀{σ9:L2.St}{H9:Hp}{s9:aB},Inv Y (pins++ZcI fp s7.heap) σ9 H9 s9->Inv Y pins σ9 H9 s9/\tn (i+1) s9.heap/\∀b∈fp,H9 b=none:=λ{σ9 H9 s9} I9=>by
      refine⟨I9.unpinned,T.keep _ _ _ st7 λb hb o e=>(I9.pin (b,o) (aW _ (aW _ (Zba hb e)))).1,λb hb=>?_⟩;obtain⟨o,e,_⟩:=T.obj _ _ st7 b hb;exact(I9.pin (b,o) (aW _ (aW _ (Zba hb e)))).2.1
     have after:∀(kk:Bool)(M8:Sto)(H9:Hp)(α9:List Addr)(s9:aB),Inv Y (pins++ZcI fp s7.heap) σ8 H9 s9->Ext Y.K H8 H9 α5 α9->HR Y.K H9 α9 M8->c ρ6 M5=.ok kk M8->
       (if kk=true then wpAny (ao Y.prog Y.w) Y.A body (λfin s₅=>fin=.again (.compLoop (.ListComp elt gens scope pos) d0 (.ref it) (.ref D) Y.env)/\∃m,m<n+1/\CmP Y pins fp tn H3 α3 (λn i ρ' M'=>Zb5 src gt c g n i ρ' M'=.ok ρ9 M9) m s₅) (λ_ _=>False) s9 else ∃m,m<n+1/\CmP Y pins fp tn H3 α3 (λn i ρ' M'=>Zb5 src gt c g n i ρ' M'=.ok ρ9 M9) m s9):=by
      intro kk M8 H9 α9 s9 I9 ex9 hr9 ec;rw[ec]at en;cases kk with
      |false=>
       obtain⟨a1,a2,a3⟩:=again' I9;exact ZnJ ⟨n,dF n,i+1,σ8,ρ6,H9,α9,M8,a1,a2,a3,sr8.mono ex9,hr9,ex5.trans ex9,en⟩
      |true=>
       simp only at en;refine ZnK ?_;cases ef:g ρ6 M8 with
       |exc x9 M10=>rw[ef]at en;cases en
       |bad=>rw[ef]at en;cases en
       |ok ρ10 M10=>
        rw[ef]at en;simp only at en;refine thn (hb _ s9 σ8 ρ6 H9 α9 M8 ρ10 M10 I9 (sr8.mono ex9) hr9 (ex9.get (ex5.get aD)) ef) λfin s10 hz=>?_;obtain⟨hf,σ10,H10,α10,I10,ex10,sr10,hr10⟩:=hz;obtain⟨a1,a2,a3⟩:=again' I10;exact⟨hf,n,dF n,i+1,σ10,ρ10,H10,α10,M10,a1,a2,a3,sr10,hr10,(ex5.trans ex9).trans ex10,en⟩
     rcases tst with⟨rfl,ec⟩|⟨e,rfl,tt',ptt,qtt⟩
     .refine wpAny_tests_nil ?_;exact after true M5 H8 α5 s8 I8 Ext.refl hr5 (by rw[ec])
     .refine wpAny_tests_one ?_;cases ec:c ρ6 M5 with
      |exc x9 M10=>rw[ec]at en;cases en
      |bad=>rw[ec]at en;cases en
      |ok kk M8=>
       have tv':=ptt _ s8 σ8 H8 (λb H'=>b=kk/\∃α',Ext Y.K H8 H' α5 α'/\HR Y.K H' α' M8) I8 (qtt σ8 ρ6 H8 α5 M5 _ sr8 hr5 (by
        rw[ec];exact λv H' α' e h r=>⟨r,α',e,h⟩))
       refine wpAny_mono tv' (λb s9 hz=>?_) (λx y z=>hxe x y z);obtain⟨H9,I9,zb,α9,ex9,hr9⟩:=hz;subst zb;exact after b M8 H9 α9 s9 I9 ex9 hr9 ec
theorem Zck{D:Addr}(hxe:∀x y,Y.xe x y->False)(he:DE Y E0 elt f):ZcQ Y D n0 (.compLoop e d0 (.ref it) (.ref D) Y.env) (Zhr e elt d0 (.ref it) (.ref D) Y.env) (gEm f n0):=by
 obtain⟨te,pe,qe⟩:=he;intro pins s σ ρ H α M ρ' M' I sr hr aD en;unfold gEm at en;cases ef:f ρ M with
 |exc x9 M10=>rw[ef]at en;cases en
 |bad=>rw[ef]at en;cases en
 |ok y M10=>
  rw[ef]at en;simp only at en;have ev:=pe _ s σ H (λv H'=>∃α',Ext Y.K H H' α α'/\HR Y.K H' α' M10/\Rep Y.K H' α' v y) I (qe σ ρ H α M _ sr hr (by
   rw[ef];exact λv H' α' e h r=>⟨α',e,h,r⟩))
  unfold Zhr;refine Wb (Wb (wpAny_mono ev (λyv s10 hz=>?_) (λx y z=>hxe x y z)));obtain⟨v,H10,I10,r10,α10,ex10,hr10,rp10⟩:=hz;cases em:M10[n0]? with
  |none=>rw[em]at en;cases en
  |some so=>
   cases so with
   |lst ds=>
    rw[em]at en;simp only at en;by_cases cz:ds.length<10000000
    .rw[if_pos cz]at en;cases en;have aD10:=ex10.get aD;obtain⟨xs,g1,g2⟩:=hr10.at aD10 em;have ap:=ZdG (X:=Y) _ s10 σ H10 (.ref D) [v] (.ref D) [yv] (λ_ H'=>H'=upd H10 D (.lst (xs++[v]))) I10 rfl (.cons r10 .nil) ⟨D,xs,v,rfl,rfl,g1,by rw[g2.length];exact aj cz (by decide),rfl⟩
     refine Wb (wpAny_mono ap (λ_ s11 hz=>?_) (λx y z=>hxe x y z));obtain⟨v11,H11,I11,_,z11⟩:=hz;subst z11;have exw:Ext Y.K H10 (upd H10 D (.lst (xs++[v]))) α10 α10:=Ext.wr g1;exact Wp (Wp ⟨rfl,σ,_,α10,I11,ex10.trans exw,(sr.mono ex10).mono exw,hr10.wr aD10 g1 (g2.append (.cons rp10 .nil))⟩)
    .rw[if_neg cz]at en;cases en
section
variable {X:Cx}{tg iter elt:Expr}{ifs:List Expr}{rest:List Comprehension}{scope:js}{cl:List (Str×Addr)}{N:List Str}{k:Nat}{c:Tv}{g:Nat->Ro->Sto->Out Ro}{pos:Pos}{bd:aa->aa->Env->Sem Fin}
theorem join_some{α:Type}{o:Option (Option α)}{v:α}(h:o.join=some v):o=some (some v):=by
 cases o with
 |none=>cases h
 |some x=>cases x with
  |none=>cases h
  |some y=>cases h;rfl
theorem Zmg(h:(roB k fr ρ)[i]?=some (some d)):∃j r,i=k+j/\fr[j]?=some r/\ρ[r]?=some (some d):=by
 unfold roB at h;by_cases hi:i<k
 .rw[aC (by rw[bR];exact hi)]at h
  have:=fg h
  rw[jC]at this;cases this.2
 .rw[aK (by rw[bR];lia),bR,bv]at h
  cases e:fr[i-k]? with
  |none=>rw[e]at h;cases h
  |some r=>
   rw[e]at h;exact⟨i-k,r,⋯,e,join_some (aQ h)⟩
noncomputable def stB(k:Nat)(fr:List Nat)(σ:L2.St):L2.St:=bf k none++fr.map λi=>(σ[i]?).join
theorem Zmh(h:(stB k fr σ)[i]?=some (some d)):∃j r,i=k+j/\fr[j]?=some r/\σ[r]?=some (some d):=by
 unfold stB at h;by_cases hi:i<k
 .rw[aC (by rw[bR];exact hi)]at h
  have:=fg h
  rw[jC]at this;cases this.2
 .rw[aK (by rw[bR];lia),bR,bv]at h
  cases e:fr[i-k]? with
  |none=>rw[e]at h;cases h
  |some r=>
   rw[e]at h;exact⟨i-k,r,⋯,e,join_some (aQ h)⟩
theorem SR.blk{K:Fg}(h:SR K H α σ ρ):SR K H α (stB k fr σ) (roB k fr ρ):=by
 refine⟨by simp[stB,roB],λi d e=>?_⟩
 obtain⟨j,r,rfl,e1,e2⟩:=Zmg e;obtain⟨v,e3,e4⟩:=h.2 r d e2;refine⟨v,?_,e4⟩;unfold stB;rw[aK (by rw[bR];lia),bR,bv,Nat.add_sub_cancel_left,e1]
 show some (σ[r]?).join=_;rw[e3];rfl
theorem ZjI(h:Heap):CellsOk (jj (h.push {cls:=.type "dict",data:=.dict #[]}) scope.names) (h.objs.size+1) (bT (h.objs.size+1) scope.names []):=by
 have:=cellsFrom_ok scope.names (h.push {cls:=.type "dict",data:=.dict #[]}) (h.objs.size+1) [] ⟨λ_ _ hm=>(nomatch hm),my.nil⟩ (by rw[gu];exact af _)
 rw[gu]at this;exact this
theorem Zbw(B:Blk X scope cl N k fr){h:Heap}{c:Addr}(e:(bT (h.objs.size+1) scope.names cl).lookup x=some c):(X.env.cells.lookup x=some c)\/((x,c)∈bT (h.objs.size+1) scope.names []/\h.objs.size+1<=c):=by
 rw[Zac]at e;rcases Zb4 e with z|⟨_,z⟩
 .have m:=PySem.mem_of_lookup z;exact .inr ⟨m,((ZjI h).empty x c m).2⟩
 .exact .inl (B.sub x c z)
theorem ZkW(B:Blk X scope cl N k fr){fp:List Addr}(I:Inv X pins σ H s)(hf:∀b∈fp,Zep X pins H b)(hlt:∀b∈fp,b<s.heap.objs.size)(hb:b∈fp){c:Addr}(h:(bT (s.heap.objs.size+1) scope.names cl).lookup x=some c):c≠b:=by
 rcases Zbw B h with z|⟨_,z⟩
 .exact(hf b hb).2.2.2.2.1 x c z
 .exact bH (iz (hlt b hb) z)
theorem ZkX(B:Blk X scope cl N k fr)(I:Inv X pins σ H s)(hf:∀b∈fp,Zep X pins H b)(hlt:∀b∈fp,b<s.heap.objs.size):(blk X scope cl N s.heap.objs.size fp s H).Ok where
 mod:=I.ok.mod
 kind:=B.kind
 glob:=I.ok.glob
 blt:=I.ok.blt
 above:=af _
 inj:=λx y c h1 h2=>by
  have old:∀{x c},X.env.cells.lookup x=some c->c<s.heap.objs.size:=λ{x c} e=>by
   obtain⟨v,q⟩:=I.cell x c e;exact q.lt
  rcases Zbw B h1 with z|⟨m1,z⟩<;>rcases Zbw B h2 with w|⟨m2,w⟩
  .exact I.ok.inj x y c z w
  .exact absurd (iz (old z) w) (bV _)
  .exact absurd (iz (old w) z) (bV _)
  .exact name_of_addr (ZjI (scope:=scope) s.heap).apart m1 m2
 has:=λx h=>B.has _ x h
 cab:=λx c h e=>by
  obtain⟨y,hy,hz⟩:=List.any_eq_true.mp h;simp only[bz,beq_iff_eq]at hz;have e':(bT (s.heap.objs.size+1) scope.names []++cl).lookup x=some c:=by rw[<-Zac];exact e
  have hs:=PySem.W.cellsFrom_mem scope.names (s.heap.objs.size+1) [] (x:=x) (by rw[<-hz.1,<-hz.2];exact hy)
  rcases Zb4 e' with z|⟨z,_⟩
  .exact ff ((ZjI (scope:=scope) s.heap).empty x c (PySem.mem_of_lookup z)).2
  .rw[z]at hs;cases hs
 hd:=I.ok.hd
 frames:=I.ok.frames
 stk:=.inl rfl
 exf:=λb hb=>⟨aE (hlt b hb),λx c h=>ZkW B I hf hlt hb h⟩
 bs:=I.bs
 bsz:=aM I.ok.bsz I.sz
 noex:=λb o e hb=>by
  rcases(hf b hb).2.2.2.1 with z|z
  .exact I.ok.noex b o e z
  .exact absurd (aj (Hz (I.ok.bs b o e).1) z) (bV _)
 exfs:=λb hb z=>by
  rcases az.mp (I.stkSub b z)with e|e
  .exact(hf b hb).2.1 e
  .exact(hf b hb).2.2.1 e
 funs:=I.stack
 frf:=I.stkFree
 tb:=I.ok.tb.un I.base
theorem Zmi(B:Blk X scope cl N k fr)(I:Inv X pins σ H s)(hf:∀b∈fp,Zep X pins H b)(hlt:∀b∈fp,b<s.heap.objs.size):Inv (blk X scope cl N s.heap.objs.size fp s H) [] (stB k fr σ) H {s with heap:=jj (s.heap.push {cls:=.type "dict",data:=.dict #[]}) scope.names}:=by
 have hk:∀b o,s.heap.get? b=some o->(jj (s.heap.push {cls:=.type "dict",data:=.dict #[]}) scope.names).get? b=some o:=λb o e=>k7 _ _ b o (Hq _ e);have hn:(jj (s.heap.push {cls:=.type "dict",data:=.dict #[]}) scope.names).Ns s.heap.objs.size (λ_=>none):=(m8.Ns.new s.heap (.type "dict")).keeps (k7 _ _);have nw:=ZjI (scope:=scope) s.heap;exact {
  ok:=ZkX B I hf hlt
  os:=rfl
  bare:=I.bare
  base:=Un.kept hk
  loc:=by
   refine⟨_,hn,λi x v e1 e2 e3=>?_⟩;obtain⟨j,r,rfl,g1,g2⟩:=Zmh e2;obtain⟨y,k1,k2,k3,k4,k5,k6⟩:=B.at_ j r g1;have exy:x=y:=aQ (e1.symm.trans k1);subst exy;obtain⟨m0,hm0,hl⟩:=I.loc;obtain⟨u,ru,lk⟩:=hl r x v k2 g2 (.inr (.inl k3));refine⟨u,ru,?_⟩;rcases lk with⟨z,_⟩|⟨_,c,z1,⟨o,z2,z3⟩⟩
   .rw[k3]at z;cases z
   .refine .inr ⟨k4,c,?_,⟨o,hk _ _ z2,z3⟩⟩;show(bT (s.heap.objs.size+1) scope.names cl).lookup x=some c;rw[Zac,ZcP λc' hc'=>k6 (ZaK _ _ _ _ hc')];exact k5.trans z1
  cell:=λx c h=>by
   rcases Zbw B h with z|⟨m,_⟩
   .obtain⟨v,o,e1,e2⟩:=I.cell x c z;exact⟨v,o,hk _ _ e1,e2⟩
   .exact⟨none,(nw.empty x c m).1⟩
  free:=I.fresh
  freeC:=λx c h=>by
   rcases Zbw B h with z|⟨_,z⟩
   .exact I.freeC x c z
   .exact I.hok.fresh (ff z)
  pin:=λp hp=>(by simp[blk]at hp)
  hok:=I.hok.kept hk
  len:=by
   show(stB k fr σ).length=N.length;rw[B.len];simp[stB]
  qd:=I.qd
  fx:=.free rfl}
theorem ZjJ(B:Blk X scope cl N k fr)(I3:Inv X pins σ H3 s3)(f3:∀b∈fp,Zep X pins H3 b)(I6:Inv (blk X scope cl N s3.heap.objs.size fp s3 H3) [] σ5 H5 s6):Inv X pins σ H5 s6/\∀(σ':L2.St)(s8:aB)(h':Heap),Inv X pins σ' H5 s8->(∀b o,b≠s3.heap.objs.size->s8.heap.get? b=some o->h'.get? b=some o)->Inv X pins σ' H5 {s8 with heap:=h',toks:=s8.toks}:=by
 refine⟨I3.call' (s':=s6) (ch:=fp) I6.os I6.base I6.hok I6.bare λb hb=>?_,λσ' s8 h' I8 sb=>?_⟩
 .obtain⟨_,z1,z2,z3,z4,z5⟩:=f3 b hb;exact⟨z3,z1,z4,z5⟩
 .exact I8.turned (it:=s3.heap.objs.size) sb I6.free (bH I3.lt) (.inr I3.sz)
   (λx c h z=>by
    obtain⟨v,o,e,_⟩:=I3.cell x c h;exact absurd (Hz e) (by rw[z];exact bV _)) (λp hp z=>by
    have:=(I3.pin p hp).1
    exact absurd (Hz this) (by rw[z];exact bV _))
theorem ZfD(B:Blk X scope cl N k fr)(pi:PI X tg iter wi)(hg:∀C fp s H,DG (blk X scope cl N C fp s H) tg gt)(ht:∀C fp s H,DC (blk X scope cl N C fp s H) ifs c)(hct:∀it acc env,iV (.ListComp elt (⟨tg,iter,ifs,0⟩::rest) scope pos) 0 it acc env=Zc9 tg iter ifs it env (bd it acc env) (again (.compLoop (.ListComp elt (⟨tg,iter,ifs,0⟩::rest) scope pos) 0 it acc env)))(he:∀C fp s H (D n0:Nat) (it:Addr),ZcQ (blk X scope cl N C fp s H) D n0 (.compLoop (.ListComp elt (⟨tg,iter,ifs,0⟩::rest) scope pos) 0 (.ref it) (.ref D) (blk X scope cl N C fp s H).env) (bd (.ref it) (.ref D) (blk X scope cl N C fp s H).env) (g n0))(hs:∀x,foldedSetIterable iter X.env x=pure x)(sr:SR X.K H α σ ρ)(I:Inv X pins σ H s)(w:wi σ H λJ H2=>∃α2 M2 src ρ9 M9,Ext X.K H H2 α α2/\HR X.K H2 α2 M2/\ZoV X.K H2 α2 J src/\Zb5 src gt c (g M2.length) (cnt src M2) 0 (roB k fr ρ) (M2++[.lst []])=.ok ρ9 M9/\∀(D C:Addr) H5 α5 s6 m6,Ext X.K H2 H5 α2 α5->HR X.K H5 α5 M9->RefK H5 α5 0 M2.length D->Inv X pins σ H5 s6->s6.heap.Ns C m6->C≠X.env.locals->(∀x,X.env.cells.lookup x≠some C)->(∀(σ':L2.St)(s8:aB)(h':Heap),Inv X pins σ' H5 s8->(∀b o,b≠C->s8.heap.get? b=some o->h'.get? b=some o)->Inv X pins σ' H5 {s8 with heap:=h',toks:=s8.toks})->compPost (ao X.prog X.w) X.A X.xe use P (.ref D) C (.ok .next) s6):wpAny (ao X.prog X.w) X.A (comprehension (.ListComp elt (⟨tg,iter,ifs,0⟩::rest) scope pos) scope X.env pos' (newList []) false (eval iter X.env) use) P X.xe s:=by
 refine wpAny_comprehension_free rfl hs B.clos B.kind B.names ?_;refine thn (pi pins s σ H _ I w) λv s1 w1=>thn w1 λitv s2 w2=>?_;obtain⟨it,fp,tn,J,H2,rfl,I2,T,st2,f2,α2,M2,src,ρ9,M9,e2,h2,sc,er,op2⟩:=w2;have srI:=sr.mono e2;refine cF ?_;have I3:Inv X pins σ (upd H2 s2.heap.objs.size (.lst [])) {s2 with heap:=s2.heap.push {cls:=.type "list",data:=.seq ([]:List aa).toArray}}:=I2.lnew (its:=[]) (t':=s2.toks) .nil (cI _);have fD:H2 s2.heap.objs.size=none:=I2.fresh;generalize hD:s2.heap.objs.size=D at I3 fD;generalize hs3:({s2 with heap:=s2.heap.push {cls:=.type "list",data:=.seq ([]:List aa).toArray}}:aB)=s3 at I3;generalize hH3:upd H2 D (.lst [])=H3 at I3;have h3:HR X.K H3 (α2++[D]) (M2++[.lst []]):=by rw[<-hH3];exact h2.new fD .nil
 have e3:Ext X.K H2 H3 α2 (α2++[D]):=by rw[<-hH3];exact Ext.new fD
 have aD:RefK H3 (α2++[D]) 0 M2.length D:=⟨h2.last D,by first|exact Kn.lst Zx|(rw[<-hH3];exact Kn.lst Zx)⟩
 have lt2:∀b∈fp,b<s2.heap.objs.size:=λb hb=>let ⟨o,e,_⟩:=T.obj _ _ st2 b hb;Hz e;have keep3:∀b o,s2.heap.get? b=some o->s3.heap.get? b=some o:=λb o e=>by rw[<-hs3];exact Hq _ e
 have f3:∀b∈fp,Zep X pins H3 b:=λb hb=>⟨by rw[<-hH3,ZD (by rw[<-hD];exact aE (lt2 b hb))];exact(f2 b hb).1,(f2 b hb).2⟩
 have lt3:∀b∈fp,b<s3.heap.objs.size:=λb hb=>let ⟨o,e,_⟩:=T.obj _ _ st2 b hb;Hz (keep3 b o e);have st3:tn 0 s3.heap:=T.keep _ _ _ st2 λb _ o e=>keep3 b o e;refine Zhq ?_;have keep4:∀b o,s3.heap.get? b=some o->(jj (s3.heap.push {cls:=.type "dict",data:=.dict #[]}) scope.names).get? b=some o:=λb o e=>k7 _ _ b o (Hq _ e);have I4:=Zmi B I3 f3 lt3;generalize jj (s3.heap.push {cls:=.type "dict",data:=.dict #[]}) scope.names=h₁ at keep4 I4;have st4:tn 0 h₁:=T.keep _ _ _ st3 λb _ o e=>keep4 b o e;have fp5:∀{H':Hp},(∀b∈fp,H' b=none)->∀b∈fp,Zep (blk X scope cl N s3.heap.objs.size fp s3 H3) [] H' b:=λhn b hb=>⟨hn b hb,aE (lt3 b hb),(ZkX B I3 f3 lt3).exfs b hb,.inl hb,λx c h=>ZkW B I3 f3 lt3 hb h,λp hp=>(by simp[blk]at hp)⟩
 have loop:fN (ao X.prog X.w) X.A (.compLoop (.ListComp elt (⟨tg,iter,ifs,0⟩::rest) scope pos) 0 (.ref it) (.ref D) (compEnvC scope (bT (s3.heap.objs.size+1) scope.names cl) s3.heap.objs.size X.env)) (compPost (ao X.prog X.w) X.A X.xe use P (.ref D) s3.heap.objs.size) {s3 with heap:=h₁}:=by
  refine ZdY (Y:=blk X scope cl N s3.heap.objs.size fp s3 H3) (hct _ _ _) T (λ_ _ z=>z) fp5 (hg _ fp s3 H3) (ht _ fp s3 H3) (he _ fp s3 H3 D M2.length it) (λi H' α' M' ex hr=>sc i H' α' M' (e3.trans ex) hr) aD I4 st4 (λb hb=>(f3 b hb).1) ((srI.blk).mono e3) h3 er ?_;intro σ5 H5 α5 s6 I6 ex5 sr5 hr5;obtain⟨I7,I8⟩:=ZjJ B I3 f3 I6;obtain⟨m6,hm6,_⟩:=id I6.loc;exact op2 D _ H5 α5 s6 m6 (e3.trans ex5) hr5 (ex5.get aD) I7 hm6 (bH I3.lt) (λx h=>by
   obtain⟨v,o,e,_⟩:=I3.cell x _ h;exact absurd (Hz e) (bV _)) I8
 exact codeAny_compStart_list loop (T.self X.A 0 _ _ _ st4 loop)
theorem ZfE(B:Blk X scope cl N k fr)(hi:DI X ξ tg iter fi)(hg:∀C fp s H,DG (blk X scope cl N C fp s H) tg gt)(ht:∀C fp s H,DC (blk X scope cl N C fp s H) ifs c)(hct:∀it acc env,iV (.ListComp elt (⟨tg,iter,ifs,0⟩::rest) scope pos) 0 it acc env=Zc9 tg iter ifs it env (bd it acc env) (again (.compLoop (.ListComp elt (⟨tg,iter,ifs,0⟩::rest) scope pos) 0 it acc env)))(he:∀C fp s H (D n0:Nat) (it:Addr),ZcQ (blk X scope cl N C fp s H) D n0 (.compLoop (.ListComp elt (⟨tg,iter,ifs,0⟩::rest) scope pos) 0 (.ref it) (.ref D) (blk X scope cl N C fp s H).env) (bd (.ref it) (.ref D) (blk X scope cl N C fp s H).env) (g n0))(hs:∀x,foldedSetIterable iter X.env x=pure x):DE X ξ (.ListComp elt (⟨tg,iter,ifs,0⟩::rest) scope pos) (Za0 fi k fr gt c g):=by
 obtain⟨wi,pi,qi⟩:=hi;refine⟨λσ H Q=>∃ρ α M,SR X.K H α σ ρ/\HR X.K H α M/\OP X.K H α ξ Q (Za0 fi k fr gt c g ρ M),?_,λσ ρ H α M Q s h q=>⟨ρ,α,M,s,h,q⟩⟩;rintro pins s σ H Q I ⟨ρ,α,M,sr,hr,op⟩;rw[eval_ListComp];refine ZfD B pi hg ht hct he hs sr I (qi σ ρ H α M _ sr hr (OG.seq op λsrc M1 J H1 α1 e1 h1 r1 q1=>?_));cases er:Zb5 src gt c (g M1.length) (cnt src M1) 0 (roB k fr ρ) (M1++[.lst []])with
 |ok u9 M9=>
  rw[er]at q1;exact⟨α1,M1,src,u9,M9,e1,h1,r1,er,λD C H5 α5 s6 m6 ex5 hr5 aD I7 hm6 _ _ I8=>⟨m6,hm6,λh' sb=>⟨.ref D,H5,I8 σ s6 h' I7 (λb o hb e=>(sb.2 b hb).trans e),rfl,q1 _ H5 α5 ex5 hr5 (.ref aD)⟩⟩⟩
 |_=>rw[er]at q1;exact q1.elim
theorem ZoW{tg:Tg}{c:Tv}:∀(fuel i:Nat)(ρ:Ro)(M:Sto),ZfB src tg c f n fuel i ρ M=(Zb5 src tg c (gEm f n) fuel i ρ M).bind λ_ M=>.ok () M:=by
 intro fuel
 induction fuel with
 |zero=>
  intro i ρ M;rw[ZfB,Zb5];rcases nxt src i M with _|_|d<;>rfl
 |succ fuel ih=>
  intro i ρ M;rw[ZfB,Zb5];rcases nxt src i M with _|_|d
  .rfl
  .rfl
  .dsimp only;cases tg d ρ with
   |none=>rfl
   |some ρ1=>
    dsimp only;rcases c ρ1 M with⟨_|_,M1⟩|_|_
    .exact ih _ _ _
    .dsimp only[gEm];rcases f ρ1 M1 with⟨x,M2⟩|_|_
     .dsimp only;rcases M2[n]? with _|⟨xs⟩
      .rfl
      .dsimp only;split
       .exact ih _ _ _
       .rfl
     .rfl
     .rfl
    .rfl
    .rfl
theorem ZfF:Zaj fi k fr gt c f=Za0 fi k fr gt c (gEm f):=by
 funext ρ M;unfold Zaj Za0;congr 1;funext src M1;rw[ZoW];cases Zb5 src gt c (gEm f M1.length) (cnt src M1) 0 (roB k fr ρ) (M1++[.lst []])<;>rfl
theorem Zai(B:Blk X scope cl N k fr)(hi:DI X ξ tg iter fi)(h:Blk X scope cl N k fr->∀C fp s H,DG (blk X scope cl N C fp s H) tg gt/\DC (blk X scope cl N C fp s H) ifs c/\DE (blk X scope cl N C fp s H) E0 elt f)(hs:autoParam (∀x,foldedSetIterable iter X.env x=pure x) Qin._auto_1):DE X ξ (.ListComp elt [⟨tg,iter,ifs,0⟩] scope pos) (Zaj fi k fr gt c f):=
 ZfF▸ZfE B hi (λC fp s H=>(h B C fp s H).1) (λC fp s H=>(h B C fp s H).2.1) (ZfC elt tg iter ifs scope pos) (λC fp s H D n0 it=>Zck (λ_ _ z=>z) (h B C fp s H).2.2) hs
end
end DL
namespace DL
open PyProof.Rows L2
theorem Zrt{names:List (Str×cW)}{env:Env}(h:names.all (λy=>y.2 != .cell&&y.2 != .free)=true):(names.map λ(n,k)=>if(k==dJ&&env.scope.kind == .function&&env.kindOf n==some .cell)then(n,eE)else(n,k))=names:=by
 induction names with
 |nil=>rfl
 |cons y r ih=>
  rw[List.all_cons,bz]at h;obtain⟨n,kd⟩:=y;have hk:(kd==dJ)=false:=by
   have h1:=h.1;rw[bz]at h1;have h2:=h1.2;cases kd<;>first|rfl|simp at h2
  rw[aV,ih h.2];simp[hk]
theorem ZeC{env:Env}:∀(names:List (Str×cW)) (acc:List (Str×Addr)),(∀y∈names,y.2=.free->∃c,env.cells.lookup y.1=some c)->(forIn names acc λ(x:Str×cW) (cs:List (Str×Addr))=>if x.2==dJ then(do let a <-cellOf env x.1;pure (ForInStep.yield ((x.1,a)::cs)))else(pure (ForInStep.yield cs):Sem _))=
   (pure (((names.filter λy=>y.2 == .free).map λy=>(y.1,(env.cells.lookup y.1).getD 0)).reverse++acc):Sem (List (Str×Addr)))
 |[],acc,_=>by simp
 | (n,kd)::r,acc,h=>by
  rw[List.forIn_cons];by_cases hk:(kd==dJ)=true
  .obtain⟨c,hc⟩:=h (n,kd) bQ (by simpa using hk)
   have e1:cellOf env n=pure c:=by unfold cellOf;rw[hc]
   have ih:=ZeC r ((n,c)::acc) λy hy=>h y (aI _ hy);simp only[hk,if_true,e1,pure_bind];refine Eq.trans ih ?_;simp[List.filter_cons,hk,hc]
  .have ih:=ZeC r acc λy hy=>h y (aI _ hy);simp only[hk,if_false,pure_bind];refine Eq.trans ih ?_;simp[List.filter_cons,hk]
noncomputable def clF(scope:js)(env:Env):List (Str×Addr):=((scope.names.filter λy=>y.2 == .free).map λy=>(y.1,(env.cells.lookup y.1).getD 0)).reverse
theorem ZcR{env:Env}:∀{l:List (Str×cW)} {x:Str} {c:Addr},(l.map λy=>(y.1,(env.cells.lookup y.1).getD 0)).lookup x=some c->c=(env.cells.lookup x).getD 0/\∃y∈l,y.1=x
 |[],x,c,h=>by simp at h
 |y::r,x,c,h=>by
  rw[aV,b6]at h;cases e:x==y.1 with
  |true=>
   rw[e]at h;have ex:x=y.1:=by simpa using e
   cases h;exact⟨by rw[ex],y,bQ,ex.symm⟩
  |false=>
   rw[e]at h;obtain⟨h1,z,h2,h3⟩:=ZcR h;exact⟨h1,z,aI _ h2,h3⟩
theorem Zbx{α:Type}:∀{l:List (Str×α)} {x:Str},(∃y∈l,y.1=x)->∃c,l.lookup x=some c
 |[],x,h=>by obtain⟨y,h1,_⟩:=h;simp at h1
 |z::r,x,h=>by
  rw[b6];cases e:x==z.1 with
  |true=>exact⟨_,rfl⟩
  |false=>
   obtain⟨y,h1,h2⟩:=h;rcases az.mp h1 with q|q
   .subst q;rw[h2]at e;simp at e
   .exact Zbx ⟨y,q,h2⟩
theorem Z9{env:Env}(nc:∀n,env.scope.names.lookup n=env.kindOf n):∀{names:List (Str×cW)} {x:Str} {kd:cW},(names.map λ(n,k)=>if(k==dJ&&env.scope.kind == .function&&env.kindOf n==some .cell)then(n,eE)else(n,k)).lookup x=some kd->names.lookup x=some kd\/(names.lookup x=some .free/\kd=.cell)
 |[],x,kd,h=>by simp at h
 | (n,q)::r,x,kd,h=>by
  rw[aV,b6]at h;rw[b6];dsimp only at h ⊢;by_cases c:(q==dJ&&env.scope.kind == .function&&env.kindOf n==some .cell)=true
  .rw[if_pos c]at h;dsimp only at h;cases e:x==n with
   |true=>
    rw[e]at h;cases h;simp only[bz,beq_iff_eq]at c;exact .inr ⟨by rw[c.1.1],rfl⟩
   |false=>rw[e]at h;exact Z9 nc h
  .rw[if_neg c]at h;dsimp only at h;cases e:x==n with
   |true=>rw[e]at h;exact .inl h
   |false=>rw[e]at h;exact Z9 nc h
theorem Zaw{env:Env}:∀{names:List (Str×cW)} {x:Str},names.lookup x=some .free->(∃kd,(kd=eE\/kd=dJ)/\(names.map λ(n,k)=>if(k==dJ&&env.scope.kind == .function&&env.kindOf n==some .cell)then(n,eE)else(n,k)).lookup x=some kd)
 |[],x,h=>by simp at h
 | (n,q)::r,x,h=>by
  rw[b6]at h;rw[aV,b6];by_cases c:(q==dJ&&env.scope.kind == .function&&env.kindOf n==some .cell)=true
  .dsimp only;rw[if_pos c];cases e:x==n with
   |true=>exact⟨_,.inl rfl,rfl⟩
   |false=>rw[e]at h;exact Zaw h
  .dsimp only;rw[if_neg c];cases e:x==n with
   |true=>rw[e]at h;exact⟨q,.inr (aQ h),rfl⟩
   |false=>rw[e]at h;exact Zaw h
noncomputable def ZnM(XN N:List Str)(dn sn:List (Str×cW))(k:Nat)(fr:List Nat):Bool:=
 (sn.all λy=>(y.2 != .free||dn.lookup y.1==some .cell)&&(y.2 != .local||sn.lookup y.1==some .local))&&N.length==k+fr.length &&
  (aJ fr.length).all λj=>match fr[j]? with
   |some i=>(match N[k+j]?,XN[i]? with|some x,some y=>x==y&&dn.lookup x==some .cell&&sn.lookup x==some .free&&sn.all (λy=> !(y.1==x&&y.2 == .cell))|_,_=>false)
   |none=>false
theorem Zt9(hN:X.N=XN)(hd:X.env.scope.names=dn)(cel:∀x,dn.lookup x=some .cell->∃c,X.env.cells.lookup x=some c)(hk:scope.kind=.function)(h:ZnM XN N dn scope.names k fr=true):Blk X scope (clF scope X.env) N k fr:=by
 unfold ZnM at h;simp only[bz,dG,bne_iff_ne,ne_eq,Bool.or_eq_true,beq_iff_eq]at h;obtain⟨⟨h1,h2⟩,h3⟩:=h;have kind:∀x,X.env.kindOf x=dn.lookup x:=λx=>by rw[<-hd];rfl
 have frc:∀y∈scope.names,y.2=.free->∃c,X.env.cells.lookup y.1=some c:=λy hy e=>by
  rcases(h1 y hy).1 with z|z
  .exact absurd e z
  .exact cel _ z
 have sub:∀x c,(clF scope X.env).lookup x=some c->X.env.cells.lookup x=some c:=λx c e=>by
  unfold clF at e;rw[<-List.map_reverse]at e;obtain⟨e1,y,e2,e3⟩:=ZcR e;have e4:=gZ.mp (eJ.mp e2);obtain⟨c',g⟩:=frc y e4.1 (by simpa using e4.2)
  rw[e3]at g;rw[g]at e1 ⊢;rw[e1];rfl
 have has:∀x,scope.names.lookup x=some .free->∃c,(clF scope X.env).lookup x=some c:=λx e=>by
  refine Zbx ?_;have m:=PySem.mem_of_lookup e;exact⟨(x,(X.env.cells.lookup x).getD 0),eJ.mpr (aX.mpr ⟨(x,.free),gZ.mpr ⟨m,by simp⟩,rfl⟩),rfl⟩
 refine⟨?_,hk,λy hy e=>?_,sub,λn x z=>?_,h2,λj i e=>?_⟩
 .have:=ZeC (env:=X.env) scope.names [] frc
  rw[cx]at this;unfold mJ;exact(congrArg (λ(m:Sem (List (Str×Addr)))=>m >>= λcs=>(pure cs:Sem (List (Str×Addr)))) this).trans (pure_bind _ _)
 .rcases(h1 y hy).2 with z|z
  .exact absurd e z
  .exact z
 .have nc:∀m,X.env.scope.names.lookup m=X.env.kindOf m:=λm=>rfl;have own:scope.names.lookup x=some .cell->∃c,(bT n scope.names (clF scope X.env)).lookup x=some c:=λe=>fA.mp (PySem.W.cellsFrom_some scope.names n _ (.inl e));have oth:scope.names.lookup x=some .free->∃c,(bT n scope.names (clF scope X.env)).lookup x=some c:=λe=>by
   obtain⟨c,hc⟩:=has x e;exact fA.mp (PySem.W.cellsFrom_some scope.names n _ (.inr (by rw[hc];rfl)))
  rcases z with z|z
  .rcases Z9 nc z with q|q
   .exact own q
   .exact oth q.1
  .rcases Z9 nc z with q|q
   .exact oth q
   .cases q.2
 .have hj:j<fr.length:=(aq.mp e).1;have q:=h3 j (bZ.mpr hj);rw[e]at q;dsimp only at q;cases e1:N[k+j]? with
  |none=>rw[e1]at q;cases q
  |some x=>
   cases e2:XN[i]? with
   |none=>rw[e1,e2]at q;cases q
   |some y=>
    rw[e1,e2]at q;simp only[bz,beq_iff_eq]at q;obtain⟨⟨⟨q1,q2⟩,q3⟩,q4⟩:=q;subst q1;obtain⟨kd,r1,r2⟩:=Zaw (env:=X.env) q3;obtain⟨c,r3⟩:=has x q3;refine⟨x,rfl,by rw[hN];exact e2,by rw[kind];exact q2,?_,r3.trans (sub x c r3).symm,λhm=>?_⟩
    .rcases r1 with r1|r1
     .exact .inl (r1▸r2)
     .exact .inr (r1▸r2)
    .have:=dG.mp q4 _ hm
     simp at this
theorem Zda(XN N:List Str)(dn:List (Str×cW))(k:Nat)(fr:List Nat)(hN:autoParam (X.N=XN) Qrf._auto_1)(hd:autoParam (X.env.scope.names=dn) Qrf._auto_1)(hc:autoParam (X.env.cells=bT n dn []) Qrf._auto_1)(hk:autoParam (scope.kind=.function) Qrf._auto_1)(h:ZnM XN N dn scope.names k fr=true:=by decide +kernel):Blk X scope (clF scope X.env) N k fr:=
 Zt9 hN hd (λx e=>by
  have:=PySem.W.cellsFrom_some dn n [] (.inl e)
  rw[hc];exact fA.mp this) hk h
def Zua(X:Cx):List V->Hp->VK->Prop:=λvs H Q=>∃(p:Addr) (bs:List Bool),vs=[.ref p]/\SqL X.K H p (bs.map V.bl)/\Q (.bl (bs.all id)) H
theorem ZdZ:∀{bs:List Bool}{us:List aa}{i:Nat}{u:aa},ZQ (bs.map V.bl) us->us[i]?=some u->∃b,bs[i]?=some b/\u=.bool b
 |[],us,i,u,h,e=>by cases h;simp at e
 |b::r,us,i,u,h,e=>by
  cases h with
  |cons h1 h2=>
   cases i with
   |zero=>simp at e;subst e;exact⟨b,rfl,h1⟩
   |succ i=>simp at e;obtain⟨b',g1,g2⟩:=ZdZ h2 e;exact⟨b',by simpa using g1,g2⟩
theorem Zgn(bs:List Bool):((aJ bs.length).all λi=>(bs[i]?).getD true)=bs.all id:=by
 rw[i7,dG,dG];constructor
 .intro h b hb;obtain⟨i,hi,e⟩:=bS hb
  have:=h i (bZ.mpr hi)
  simp only[ae hi,iI,e]at this;exact this
 .intro h i hi;have hi':=bZ.mp hi;simp only[ae hi',iI];exact h _ (bU hi')
theorem ZjK(hc:X.calm=true):Zbk X (.builtin "all") (Zua X):=by
 intro pins s σ H vs us Q I rs hz;obtain⟨p,bs,e,hl,q⟩:=hz;subst e;obtain⟨u,rfl,ru⟩:=ZbW rs;cases ru;obtain⟨its,hv,hp,hz⟩:=I.list hl;have hlt:p<s.heap.objs.size:=by obtain⟨_,e,_⟩:=hp.isList;exact Hz e
 refine call_all_walk (jS hp.isList ?_);refine⟨s.heap.objs.size,[s.heap.objs.size,p],[s.heap.objs.size],its.toArray.size,_,_,λi=>(bs[i]?).getD true,rfl,Walks.list (A:=X.A.in1) (I.ok.hd hc) _ p (aE hlt) its.toArray,⟨⟨_,aL _ rfl,rfl,rfl⟩,hp.isList.push _⟩,λi v s' Q' E' hP hQ=>?_,λh' tk hk=>?_⟩
 .obtain⟨b,e,rfl⟩:=ZdZ (i:=i) (u:=v) hv (by simpa using hP)
  simp only[e,iI]at hQ;exact dR hQ
 .have e:((aJ its.toArray.size).all λi=>(bs[i]?).getD true)=bs.all id:=by
   rw[ah,<-hv.length,au];exact Zgn bs
  rw[e];exact⟨.bl (bs.all id),H,I.kept λb o e=>hk b o (λhm=>by rw[cJ.mp hm]at e;exact bV _ (Hz e)) (Hq _ e),rfl,q⟩
def Zap:List D->Option (List Bool)
 |[]=>some []
 |.bl b::r=>match Zap r with|some bs=>some (b::bs)|none=>none
 |_::_=>none
theorem Zhs{K:Fg}(h9:Reps K H α vs ds):Zap ds=some bs->vs=bs.map V.bl:=by
 induction ds generalizing vs bs with
 |nil=>intro e;cases h9;cases e;rfl
 |cons d ds ih9=>
  intro e;cases h9 with
  |cons r t=>
   cases r with
   |bl b=>
    cases e1:Zap ds with
    |none=>simp only[Zap,e1]at e;cases e
    |some cs=>
     simp only[Zap,e1,am]at e;subst e;rw[ih9 t e1];rfl
   |_=>cases e
def bAll:W3:=λds M=>match ds with
 |[.ref n]=>(match M[n]? with|some (.lst xs)=>(match Zap xs with|some bs=>.ok (.bl (bs.all id)) M|none=>.bad)|none=>.bad)
 |_=>.bad
theorem ZoX:CO X ξ (Zua X) bAll:=by
 intro H α M vs ds Q h rs q;cases rs with
 |nil=>exact q.elim
 |cons r tz=>
  cases tz with
  |cons _ _=>cases r<;>exact q.elim
  |nil=>
   cases r with
   |@ref p n hp=>
    cases e1:M[n]? with
    |none=>simp only[bAll,e1]at q;exact q.elim
    |some so=>
     cases so with
     |lst es=>
      cases e2:Zap es with
      |none=>simp only[bAll,e1,e2]at q;exact q.elim
      |some bs=>
       simp only[bAll,e1,e2]at q;obtain⟨xs,g1,g2⟩:=h.at hp e1
       have:=Zhs g2 e2
       subst this;exact⟨p,bs,rfl,SqL.of g1,q _ H α Ext.refl h (.bl _)⟩
   |_=>exact q.elim
theorem Reps.rev{K:Fg}{H:Hp}{α:List Addr}:∀{vs:List V}{ds:List D},Reps K H α vs ds->Reps K H α vs.reverse ds.reverse
 |_,_,.nil=>.nil
 |_,_,.cons r t=>by
  rw[dh,dh];exact(Reps.rev t).append (.cons r .nil)
end DL
namespace DL
open PyProof.Rows L2
end DL
namespace DL
open PyProof.Rows L2
noncomputable def Zr0(names dn:List (Str×cW)):List (Str×cW):=names.map λ(n,k)=>if(k==dJ&&dn.lookup n==some .cell)then(n,eE)else(n,k)
theorem Zht{X:Cx}(hd:X.env.scope.names=dn)(hk:X.env.scope.kind=.function):(mT scope X.env).names=Zr0 scope.names dn:=by
 unfold mT Zr0;rw[<-hd];show scope.names.map _=_;apply fI;rintro⟨n,k⟩ _;have e:(ScopeKind.function==ScopeKind.function)=true:=by decide
 simp only[hk,e,Bool.and_true];rfl
theorem Zr1(B0:Blk X scope0 cl0 N0 k0 fr0)(N:List Str)(dn:List (Str×cW))(k:Nat)(fr:List Nat)(hd:autoParam (X.env.scope.names=dn) Qrf._auto_1)(hk0:autoParam (X.env.scope.kind=.function) Qrf._auto_1)(hk:autoParam (scope.kind=.function) Qrf._auto_1)(h:ZnM N0 N (Zr0 scope0.names dn) scope.names k fr=true:=by decide +kernel):Blk (blk X scope0 cl0 N0 C fp s H) scope (clF scope (blk X scope0 cl0 N0 C fp s H).env) N k fr:=
 Zt9 rfl (Zht hd hk0) (λx e=>B0.has _ x (.inl (by rw[Zht hd hk0];exact e))) hk h
end DL
namespace DL
open PyProof.Rows L2
open PySem.W (nsIn excIn tailIn nsOkIn mroIn clsIn typeIn findIn specialIn takesIn kitOne Looks)
noncomputable abbrev bmV:List aa:=[.type "ValueError",.type "Exception",.type "BaseException",.type "object"]
noncomputable def ZjL(K:Fg)(c:Str):Option Addr:=match nsIn K aO c with|some (some (.ref C))=>some C|_=>none
theorem ZfG{K:Fg}(h:ZjL K c=some C):nsIn K aO c=some (some (.ref C)):=by
 unfold ZjL at h
 split at h
 .rename_i C' e;cases h;exact e
 .cases h
def ZnN(K:Fg)(c:Str):Bool:=match ZjL K c with
 |some C=>excIn K C bmV "ValueError.__new__"&&iA K (.ref C) "__getattribute__"==some (some (.builtin "BaseException.__getattribute__"))&&iA K (.ref C) "__getattr__"==some none&&iA K (.ref C) "__class__"==some (some (.builtin "object.__class__")) &&
  io K (.builtin "object.__class__") "__get__"==some (some (.builtin "getset_descriptor.__get__"))&&jO K (.builtin "object.__class__")==some true&&lJ K C (.type "BaseException")==some true&&lJ K C (.type "object")==some true&&(nB K C).isSome
 |none=>false
def ZoY(K:Fg)(c:Str):Bool:=match ZjL K c with
 |some C=>iA K (.ref C) "__getattribute__"==some (some (.builtin "BaseException.__getattribute__"))&&iA K (.ref C) "__getattr__"==some none&&iA K (.ref C) "__class__"==some (some (.builtin "object.__class__")) &&
  io K (.builtin "object.__class__") "__get__"==some (some (.builtin "getset_descriptor.__get__"))&&jO K (.builtin "object.__class__")==some true&&lJ K C (.type "BaseException")==some true&&lJ K C (.type "object")==some true&&(nB K C).isSome
 |none=>false
theorem Zru{K:Fg}(h:ZoY K c=true):∃C,nsIn K aO c=some (some (.ref C))/\DQ.ExcC K C:=by
 unfold ZoY at h
 split at h
 .rename_i C e;simp only[bz,beq_iff_eq]at h;obtain⟨⟨⟨⟨⟨⟨⟨h2,h3⟩,h4⟩,h5⟩,h6⟩,h7⟩,h8⟩,h9⟩:=h;exact⟨C,ZfG e,h2,h3,h4,h5,h6,h7,h8,h9⟩
 .cases h
theorem Zmj{K:Fg}(h:ZnN K c=true):∃C,nsIn K aO c=some (some (.ref C))/\excIn K C bmV "ValueError.__new__"=true/\DQ.ExcC K C:=by
 unfold ZnN at h
 split at h
 .rename_i C e;simp only[bz,beq_iff_eq]at h;obtain⟨⟨⟨⟨⟨⟨⟨⟨h1,h2⟩,h3⟩,h4⟩,h5⟩,h6⟩,h7⟩,h8⟩,h9⟩:=h;exact⟨C,ZfG e,h1,h2,h3,h4,h5,h6,h7,h8,h9⟩
 .cases h
theorem Zmk{K:Fg}(X:K.In h)(q:excIn K C bmB newId=true):∃bm N nm q bs hdct sn sub ab col dd k0 k1 k2 k3 k5 mN,h.get? C=some (excClassObj nm q C N bs bm hdct sn sub ab col dd k0 k1 k2 k3 k5 newId)/\h.Ns N mN/\mN "__init__"=none/\OwnTail h bmB bm:=by
 unfold excIn at q
 split at q
 .rename_i dd cd sl ho
  split at q
  .rename_i C' bm k0 k1 k2 k3 n k5 hm hs;simp only[bz,beq_iff_eq,gn]at q;obtain⟨⟨⟨⟨⟨rfl,rfl⟩,hdel⟩,ht⟩,hok⟩,hni⟩:=q;obtain⟨nm,bs,mro,ns,qn,hd,sn,sub,ab,col,del⟩:=cd;dsimp only at hm hdel hok hni;subst hm hdel;obtain⟨l⟩:=sl;simp only at hs;subst hs;exact⟨bm,ns,nm,qn,bs,hd,sn,sub,ab,col,dd,k0,k1,k2,k3,k5,_,X _ _ ho,.of_isNs (PySem.W.isNs_of_in X hok),PySem.W.nsMap_none_of_in X hok hni,PySem.W.tail_of_in X ht⟩
  .cases q
 .cases q
theorem ZoZ(k:HOk P w H h)(hn:h.get? e=none):H e=none:=by
 cases z:H e with
 |none=>rfl
 |some u=>obtain⟨o,g⟩:=Zfx (k e u z);rw[hn]at g;cases g
def Zd0(c:Str)(fs:Av):Sv:=λρ M=>Zao (fs ρ M) λds M1=>if ds.length<=1000 then .exc c M1 else .bad
theorem Zb6(T:Thr X ξ)(hx:ZnN X.K x=true)(gl:∀c v,nsIn X.K aO c=some (some v)->X.mg c=some v)(hh:X.A.handled=none)(ha:DA X ξ (a::as) fs)(hg:autoParam (Gl X x) Qrf._auto_1)(hdb:autoParam ((x==("__debug__":Str))=false) Qde._auto_1)(hf:autoParam (Zl8 x=false) Qde._auto_1)(he:autoParam (av (a::as) X.env=(false,eval a X.env)::av as X.env) Qrf._auto_1)(hpl:autoParam ((cT cpos (av as X.env)).any (·.1)=false) Qrf._auto_1):DS X ξ (.Raise (some (.Call (.Name x np) (a::as) [] cpos)) none pos) (Zd0 x fs):=by
 obtain⟨ta,pa,qa⟩:=ha;obtain⟨C,hC,hq,_⟩:=Zmj hx;refine⟨λDn σ H=>ta σ H λvs H1=>vs.length<=sizeLine/\ξ (.ref C) none H1,λpins s σ H Dn I h=>?_,λσ ρ H α M Dn s h q=>?_⟩
 .obtain⟨tl,N,nm,q,bs,hdct,sn,sub,ab,col,dd,k0,k1,k2,k3,k5,mN,gC,hN,hni,TL⟩:=Zmk I.ok.mod.kin hq;refine wpAny_Raise_call_subT (C:=C) (nm:=nm) (q:=q) (N:=N) (bs:=bs) (bm:=tl) (hdct:=hdct) (sn:=sn) (sub:=sub) (ab:=ab) (col:=col) (dd:=dd) (k0:=k0) (k1:=k1) (k2:=k2) (k3:=k3) (k5:=k5) F.excBase_ValueError (mN:=mN)
   (TL.hasType F.excBase_ValueError.hasBase) hh (by rw[he];show(false||(cT cpos (av as X.env)).any (·.1))=false;rw[hpl];rfl) hni (ZgM I hg (gl x _ hC) ⟨rfl,?_⟩ hdb)
  have hs:=pa cpos pins s σ H _ I h;rw[he]at hs ⊢;refine Calls.evalArgs_plain (wpAny_mono hs (λus s2 ⟨vs,H1,I1,r1,z1,z2⟩=>⟨rfl,by rw[<-r1.length];exact z1,I1.bk _ _ gC,hN.keeps I1.bk,TL.keeps I1.bk,λh' e m=>?_⟩) λ_ _ y=>y)
  obtain⟨t,g1,g2,g3⟩:=m.there;exact T.mak pins σ H1 H1 s2 {s2 with heap:=h'} e _ _ C I1 rfl I1.bare (Un.kept m.keeps) (I1.hok.kept m.keeps) m.new g1 rfl rfl rfl rfl (ZoZ I1.hok m.new) z2
 .refine qa σ ρ H α M _ s h (FP.seq q λds M1 vs H1 α1 e1 h1 r1 w1=>?_);by_cases hl:ds.length<=1000
  .rw[if_pos hl]at w1;exact⟨by rw[r1.length];exact Zl9 hl,w1 C H1 α1 hC Ext.refl none (.inl ⟨hf,h1,rfl⟩)⟩
  .rw[if_neg hl]at w1;exact w1.elim
end DL
namespace DL
open PyProof.Rows L2
open PySem.W (nsIn excIn tailIn nsOkIn mroIn clsIn typeIn findIn specialIn takesIn kitOne Looks looks_mroIn looks_typeIn)
noncomputable def kpR:List Bool->Ro->Ro
 |b::m,x::r=>(bif b then none else x)::kpR m r
 |_,[]=>[]
 |[],_::r=>none::kpR [] r
def fsE(c:Str)(M:Sto):List D:=if Zl8 c=true then(match M.getLast? with|some (.lst xs)=>xs|none=>[])else[]
def stE(c:Str)(M:Sto):Sto:=if Zl8 c=true then M.dropLast else M
theorem Zr2(h:Zl8 c=false):stE c M=M:=by unfold stE;rw[h];rfl
theorem Zr3(h:Zl8 c=true):stE c (M++[.lst ds])=M:=by unfold stE;rw[if_pos h,List.dropLast_concat]
theorem XO.hr{K:Fg}(h:XO K H α c M dct):HR K H α (stE c M):=by
 rcases h with⟨h1,h2,_⟩|⟨h1,M0,ds,dx,fs,rfl,h2,_⟩
 .rw[Zr2 h1];exact h2
 .rw[Zr3 h1];exact h2
theorem Zv{A:dg}(hr:Room k (A.deeper env))(h:100<=k):A.handled.isNone=true:=by
 have e:A.handled=none:=hr.hd h;rw[e];rfl
end DL
namespace DL
open PyProof.Rows L2
abbrev Me:=D->List D->Sto->Out D
def MO(X:Cx)(ξ:XK)(r:V->List V->Hp->VK->Prop)(g:Me):Prop:=∀H α M v vs x ds Q,HR X.K H α M->Rep X.K H α v x->Reps X.K H α vs ds->OP X.K H α ξ Q (g x ds M)->r v vs H Q
theorem HR.wrE{K:Fg}(h:HR K H α M)(e:RefK H α 0 n p)(hp:H p=some (.lst ys))(r:Reps K H α xs ds):Ext K H (upd H p (.lst xs)) α α/\HR K (upd H p (.lst xs)) α (M.set n (.lst ds)):=
 ⟨Ext.wr hp,h.wr e hp r⟩
section
variable {es:List Expr}{id:String}{r:V->List V->Hp->VK->Prop}
noncomputable def Zml(x:D)(M:Sto):Bool:=match x with|.ref n=>M[n]?.isSome|_=>false
def Zmm(g:Me)(fo:Ev)(fs:Av):Ev:=λρ M=>(fo ρ M).bind λx M1=>if Zml x M1=true then(fs ρ M1).bind λds M2=>g x ds M2 else .bad
theorem Zmn{K:Fg}(h:HR K H α M)(rx:Rep K H α v x)(k:Zml x M=true):tyV K "list" v H:=by
 cases rx with
 |@ref p n hp=>
  obtain⟨xs,g⟩:=h.some_at hp;exact .inl ⟨rfl,_,SqL.of g⟩
 |_=>cases k
theorem Zo0(slot:Slot "list" name id)(hty:typeOf (.builtin id)=pure (.type "method_descriptor"))(hm:MtR X id r)(hf:MO X ξ r g)(ho:DE X ξ o fo)(ha:DA X ξ (e::es) fs)(hbase:autoParam (iN o name X.env (eval o X.env)=eval o X.env) Qrf._auto_1)
  (hfew:((cT cpos (av (e::es) X.env)).all (λx=> !x.1)&&(jz cpos (gB [] X.env)).all (λx=>x.1.isSome) && decide ((e::es).length+([]:List je).length+(if([]:List je).isEmpty then 0 else 1)<30))=true:=by rfl)
  (hline:(apos.endLine==cpos.line)=true:=by rfl) (hs:av (e::es) X.env=(false,eval e X.env)::av es X.env:=by rfl) (hplain:(cT cpos (av es X.env)).any (·.1)=false:=by rfl):
  DE X ξ (.Call (.Attribute o name apos) (e::es) [] cpos) (Zmm g fo fs):=by
 obtain⟨to,po,qo⟩:=ho;obtain⟨ta,pa,qa⟩:=ha;refine⟨_,ZrT PySem.F.plainAttrs_list slot hty hm po pa hbase hfew hline hs hplain,λσ ρ H α M Q s h q=>?_⟩;refine qo σ ρ H α M _ s h (OG.seq q λx M1 v H1 α1 e1 h1 r1 q1=>?_);by_cases k:Zml x M1=true
 .rw[if_pos k]at q1;exact⟨Zmn h1 r1 k,qa σ ρ H1 α1 M1 _ (s.mono e1) h1 (OG.seq q1 λds M2 vs H2 α2 e2 h2 r2 q2=>hf H2 α2 M2 v vs x ds Q h2 (Rep.mono e2 r1) r2 q2)⟩
 .rw[if_neg k]at q1;exact q1.elim
noncomputable def mApp:Me:=λx ds M=>match x,ds with
 |.ref n,[d]=>(match M[n]? with|some (.lst xs)=>if xs.length<10000000 then .ok .non (M.set n (.lst (xs++[d])))else .bad|none=>.bad)
 |_,_=>.bad
theorem Zo1:MO X ξ rAppend mApp:=by
 intro H α M v vs x ds Q h rx rs q;cases rx with
 |@ref p n hp=>
  cases rs with
  |nil=>exact q.elim
  |@cons u d _ _ ru tz=>
   cases tz with
   |cons _ _=>exact q.elim
   |nil=>
    cases em:M[n]? with
    |none=>simp only[mApp,em]at q;exact q.elim
    |some so=>
     cases so with
     |lst es=>
      obtain⟨xs,g1,g2⟩:=h.at hp em;by_cases c:es.length<10000000
      .simp only[mApp,em,if_pos c]at q;obtain⟨k1,k2⟩:=h.wrE hp g1 (g2.append (.cons ru .nil));exact⟨p,xs,u,rfl,rfl,g1,by rw[g2.length];exact aj c (by decide),q _ _ α k1 k2 .non⟩
      .simp only[mApp,em,if_neg c]at q;exact q.elim
 |_=>cases rs<;>exact q.elim
noncomputable def mExt:Me:=λx ds M=>match x,ds with
 |.ref n,[.ref m]=>(match M[n]?,M[m]? with|some (.lst xs),some (.lst ys)=>if xs.length+ys.length<=10000000 then .ok .non (M.set n (.lst (xs++ys)))else .bad|_,_=>.bad)
 |_,_=>.bad
theorem Zhu(h:mExt x l M≠ .bad):∃n m,x=.ref n/\l=[.ref m]:=by
 unfold mExt at h
 split at h
 .rename_i n m;exact⟨n,m,rfl,rfl⟩
 .exact absurd rfl h
theorem Zo2:MO X ξ rExtend mExt:=by
 intro H α M v vs x ds Q h rx rs q;obtain⟨n,m,rfl,rfl⟩:=Zhu (x:=x) (l:=ds) (M:=M) λz=>by rw[z]at q;exact q.elim
 cases rx with
 |@ref p n hp=>
 cases rs with
 |cons ru rs=>
 cases rs;cases ru with
 |@ref p2 m hp2=>
 cases em:M[n]? with
 |none=>simp only[mExt,em]at q;exact q.elim
 |some so=>
 cases em2:M[m]? with
 |none=>cases so;simp only[mExt,em,em2]at q;exact q.elim
 |some so2=>
 cases so with
 |lst es=>
 cases so2 with
 |lst es2=>
 obtain⟨xs,g1,g2⟩:=h.at hp em;obtain⟨ys,g3,g4⟩:=h.at hp2 em2;by_cases c:es.length+es2.length<=10000000
 .simp only[mExt,em,em2,if_pos c]at q;obtain⟨k1,k2⟩:=h.wrE hp g1 (g2.append g4);exact⟨p,p2,xs,ys,rfl,rfl,g1,g3,by rw[g2.length,g4.length];exact aM c (by decide),q _ _ α k1 k2 .non⟩
 .simp only[mExt,em,em2,if_neg c]at q;exact q.elim
theorem Zhv(ho:DE X ξ o fo)(ha:DE X ξ e fa)(hbase:autoParam (iN o "append" X.env (eval o X.env)=eval o X.env) Qrf._auto_1)
  (hfew:((cT cpos (av [e] X.env)).all (λx=> !x.1)&&(jz cpos (gB [] X.env)).all (λx=>x.1.isSome) && decide ([e].length+([]:List je).length+(if([]:List je).isEmpty then 0 else 1)<30))=true:=by rfl)
  (hline:(apos.endLine==cpos.line)=true:=by rfl) (hs:av [e] X.env=(false,eval e X.env)::av [] X.env:=by rfl) (hplain:(cT cpos (av [] X.env)).any (·.1)=false:=by rfl):
  DE X ξ (.Call (.Attribute o "append" apos) [e] [] cpos) (Zmm mApp fo (Zc fa aNil)):=Zo0 PySem.F.slot_list_append PySem.F.type_list_append ZdG Zo1 ho (Za ha Ze hs) hbase hfew hline hs hplain
def DO(X:Cx)(ξ:XK)(e:Option Expr)(f:Ro->Sto->Out (Option Int)):Prop:=∃t:TO,PO X e t/\∀σ ρ H α M (Q:Option Int->Hp->Prop),SR X.K H α σ ρ->HR X.K H α M->OG X.K (λ_ _ v d=>v=d) H α ξ Q (f ρ M)->t σ H Q
noncomputable def oNo:Ro->Sto->Out (Option Int):=λ_ M=>.ok none M
def oSo(f:Ev):Ro->Sto->Out (Option Int):=λρ M=>(f ρ M).bind λx M1=>match x with|.int i=>.ok (some i) M1|_=>.bad
theorem Zgo:DO X ξ none oNo:=⟨_,ZlW,λσ ρ H α M Q s h q=>q none H α Ext.refl h rfl⟩
theorem Zgp(ha:DE X ξ e fa):DO X ξ (some e) (oSo fa):=by
 obtain⟨ta,pa,qa⟩:=ha;refine⟨_,ZlX pa,λσ ρ H α M Q s h q=>?_⟩;refine qa σ ρ H α M _ s h (OG.seq q λx M1 v H1 α1 e1 h1 r1 q1=>?_);cases r1 with
 |int i=>exact⟨i,rfl,q1 (some i) H1 α1 Ext.refl h1 rfl⟩
 |_=>exact q1.elim
def ZeD(xs:List D)(lo hi:Option Int):List D:=(xs.drop (HT.sIx xs.length 0 lo)).take (HT.sIx xs.length xs.length hi-HT.sIx xs.length 0 lo)
theorem Reps.drop{K:Fg}{H:Hp}{α:List Addr}:∀(n:Nat){vs:List V}{ds:List D},Reps K H α vs ds->Reps K H α (vs.drop n) (ds.drop n)
 |0,_,_,h=>h
 |_+1,_,_,.nil=>.nil
 |n+1,_,_,.cons _ t=>Reps.drop n t
theorem Reps.take{K:Fg}{H:Hp}{α:List Addr}:∀(n:Nat){vs:List V}{ds:List D},Reps K H α vs ds->Reps K H α (vs.take n) (ds.take n)
 |0,_,_,_=>.nil
 |_+1,_,_,.nil=>.nil
 |n+1,_,_,.cons r t=>.cons r (Reps.take n t)
theorem Reps.cut{K:Fg}(r:Reps K H α vs ds)(lo hi:Option Int):Reps K H α (ZkH vs lo hi) (ZeD ds lo hi):=by
 unfold ZkH ZeD;rw[r.length];exact(r.drop _).take _
def eSl(f:Ev)(lo hi:Ro->Sto->Out (Option Int)):Ev:=λρ M=>(f ρ M).bind λx M1=>(lo ρ M1).bind λl M2=>(hi ρ M2).bind λu M3=>match x with
 |.ref n=>(match M3[n]? with|some (.lst xs)=>.ok (.ref M3.length) (M3++[.lst (ZeD xs l u)])|none=>.bad)
 |.rol xs=>.ok (.ref M3.length) (M3++[.lst (ZeD xs l u)])
 |.tup xs=>if HT.sIx xs.length 0 l=0/\HT.sIx xs.length xs.length u=xs.length then .bad else .ok (.tup (ZeD xs l u)) M3
 |_=>.bad
theorem Zgq{lo:Option Expr}(he:DE X ξ e fa)(hl:DO X ξ lo fl)(hh:DO X ξ hi fh):DE X ξ (.Subscript e (.Slice lo hi none p2) pos) (eSl fa fl fh):=by
 obtain⟨ta,pa,qa⟩:=he;obtain⟨tl,pl,ql⟩:=hl;obtain⟨th,ph,qh⟩:=hh;refine⟨_,Zjr (SlR.or Zl2 Zoq) pa pl ph,λσ ρ H α M Q s h q=>?_⟩;refine qa σ ρ H α M _ s h (OG.seq q λx M1 v H1 α1 e1 h1 r1 q1=>?_);refine ql σ ρ H1 α1 M1 _ (s.mono e1) h1 (OG.seq q1 λl M2 l' H2 α2 e2 h2 r2 q2=>?_);refine qh σ ρ H2 α2 M2 _ ((s.mono e1).mono e2) h2 (OG.seq q2 λu M3 u' H3 α3 e3 h3 r3 q3=>?_);cases r2;cases r3;cases Rep.mono e3 (Rep.mono e2 r1)with
 |@ref p n hp=>
  cases em:M3[n]? with
  |none=>simp only[em]at q3;exact q3.elim
  |some so=>
   cases so with
   |lst es=>
    simp only[em]at q3;obtain⟨xs,g1,g2⟩:=h3.at hp em;exact .inl ⟨p,xs,rfl,SqL.of g1,λa ha=>q3 _ _ (α3++[a]) (Ext.new ha) (h3.new ha (g2.cut l u)) (.ref ⟨h3.last a,Kn.lst Zx⟩)⟩
 |@rol p xs ds hp rp=>
  have q4:OP X.K H3 α3 ξ Q (.ok (.ref M3.length) (M3++[.lst (ZeD ds l u)])):=q3;exact .inl ⟨p,xs,rfl,hp.sq,λa ha=>q4 _ _ (α3++[a]) (Ext.new ha) (h3.new ha (rp.cut l u)) (.ref ⟨h3.last a,Kn.lst Zx⟩)⟩
 |@tup p xs ds hp rp=>
  by_cases c:HT.sIx ds.length 0 l=0/\HT.sIx ds.length ds.length u=ds.length
  .simp only[if_pos c]at q3;exact q3.elim
  .simp only[if_neg c]at q3;exact .inr ⟨p,xs,rfl,(SqT.of hp),by rw[rp.length];exact c,λa ha=>q3 _ _ α3 (Ext.new0 ha) (h3.tup ha) (.tup Zx (Reps.mono (Ext.new0 ha) (rp.cut l u)))⟩
 |_=>exact q3.elim
def iR2(fs:Av):Ro->Sto->Out Src:=λρ M=>(fs ρ M).bind λds M1=>match ds with
 |[.int i,.int j]=>if -(2^62)<=i/\i<2^62/\ -(2^62)<=j/\j<2^62 then .ok (.pur (Zbh i (j-i).toNat)) M1 else .bad
 |_=>.bad
theorem Zhw(hm:X.mg "range"=none)(ha:DA X ξ [a,b] fs)(hgl:autoParam (Gl X "range") Qrf._auto_1)(hs:autoParam (av [a,b] X.env=[(false,eval a X.env),(false,eval b X.env)]) Qrf._auto_1)(hs2:autoParam (av [b] X.env=[(false,eval b X.env)]) Qrf._auto_1):DI X ξ tg (.Call (.Name "range" p) [a,b] [] pos) (iR2 fs):=by
 obtain⟨ta,pa,qa⟩:=ha;refine⟨_,Zdx hgl hm pa hs hs2,λσ ρ H α M R s hh q=>qa σ ρ H α M _ s hh (OG.seq q λds M1 vs H1 α1 e1 h1 r1 w1=>?_)⟩
 split at w1
 .rename_i i j;cases r1 with
  |cons r t=>
   cases t with
   |cons r' t=>
    cases t;cases r;cases r';by_cases c: -(2^62)<=i/\i<2^62/\ -(2^62)<=j/\j<2^62
    .simp only[if_pos c]at w1;exact⟨i,j,rfl,c,w1 _ H1 α1 Ext.refl h1 Zgl⟩
    .simp only[if_neg c]at w1;exact w1.elim
 .exact w1.elim
end
end DL
namespace DL
open PyProof.Rows L2
def ZeE(tg:Tg)(g:Sv)(src:Src):Nat->Nat->Ro->Sto->Fl
 |f,i,ρ,M=>match nxt src i M with
  |none=>.bad
  |some none=>.nx ρ M
  |some (some d)=>(match f with
   |0=>.bad
   |f+1=>(match tg d ρ with
    |none=>.bad
    |some ρ1=>(match g ρ1 M with
     |.nx ρ2 M2=>ZeE tg g src f (i+1) ρ2 M2
     |.cnt ρ2 M2=>ZeE tg g src f (i+1) ρ2 M2
     |.brk ρ2 M2=>.nx ρ2 M2
     |o=>o)))
def Zgr(tg:Tg)(fi:Ro->Sto->Out Src)(g:Sv):Sv:=λρ M=>Zao (fi ρ M) λsrc M1=>ZeE tg g src (cnt src M1) 0 ρ M1
theorem ZeF(hp:fZ (ao X.prog X.w) X.A X.env X.xe)(hi:DI X ξ tg iter fi)(hg:DG X tg gt)(hb:DSs X ξ body g)(hf:autoParam (∀x,foldedSetIterable iter X.env x=pure x) Qin._auto_1):DS X ξ (.For tg iter body [] pos) (Zgr gt fi g):=by
 obtain⟨wi,pi,qi⟩:=hi;obtain⟨tt,pt,qt⟩:=hg;obtain⟨tb,pb,qb⟩:=hb;refine⟨_,Zfk hp pi pt pb hf,λσ ρ H α M Dn s hh w=>qi σ ρ H α M _ s hh (FP.seq w λsrc M1 J H1 α1 e1 h1 sc w1=>?_)⟩;generalize eo:ZeE gt g src (cnt src M1) 0 ρ M1=o at w1;refine⟨λi m σ' H'=>∃ρ' α' M',Ext X.K H1 H' α1 α'/\SR X.K H' α' σ' ρ'/\HR X.K H' α' M'/\ZeE gt g src m i ρ' M'=o,⟨cnt src M1,ρ,α1,M1,Ext.refl,s.mono e1,h1,eo⟩,?_⟩;rintro i m σ' H' ⟨ρ',α',M',ex,sr,hr,en⟩;have s5:=sc i H' α' M' ex hr;unfold ZeE at en;cases en1:nxt src i M' with
 |none=>rw[en1]at en;cases en;exact w1.elim
 |some od=>
  rw[en1]at en s5;cases od with
  |none=>cases en;exact .inl ⟨s5,w1 σ' H' α' ex hr sr⟩
  |some d=>
   obtain⟨go,yl⟩:=s5;cases m with
   |zero=>cases en;exact w1.elim
   |succ m=>
    simp only at en;refine .inr ⟨go,λσ2 H2=>∃ρ' α' M',Ext X.K H1 H2 α1 α'/\SR X.K H2 α' σ2 ρ'/\HR X.K H2 α' M'/\ZeE gt g src m (i+1) ρ' M'=o,λσ2 H2 z=>⟨m,dF m,z⟩,λx H2 y=>?_⟩;obtain⟨ex7,hr7,rp7⟩:=yl x H2 y;exact ZjF (tg:=tg) w1 qt qb (ex.trans ex7) (sr.mono ex7) hr7 rp7 en (λσ' H' z=>z)
theorem Zhx{ch:List Addr}(I:Inv X pins σ H s)(k:∀b o,b∉ch->s.heap.get? b=some o->h'.get? b=some o)(hf:∀b∈ch,Zep X pins H b):Inv X pins σ H {s with heap:=h',toks:=t'}:=by
 have nit:∀b u,H b=some u->b∉ch:=λb u e z=>by rw[(hf b z).1]at e;cases e
 have hL:X.env.locals∉ch:=λz=>(hf _ z).2.1 rfl;refine I.step (g':=s.gens) (d':=s.drawn) (ch:=ch) (λb hb=>?_) (λb o _ _ hc e _=>k b o hc e) (λb o _ _ hc e _=>⟨o.slots,k b o hc e⟩) (λ_ _ _ _ n=>n)
  (λb o hc e=>⟨o,k b o hc e⟩) (λ_ _ e=>e) (λ_ _ _ e=>e) (λb ps e=>⟨#[],by rw[e];simp⟩) (λm hm=>?_) (λb u e=>?_) I.bare
 .obtain⟨_,z1,_,z3,z4,z5⟩:=hf b hb;exact⟨z3,z1,z4,z5⟩
 .obtain⟨o,es,ep,ho,r⟩:=hm;exact⟨o,es,ep,k _ o hL ho,r⟩
 .refine(I.hok b u e).stay (λc v hc q=>k c v ?_ q) (λ_ q=>q) λ_ _ q=>q;rcases hc with z|z
  .rw[z];exact nit b u e
  .exact nit c _ z
theorem ZkY{ch:List Addr}(I:Inv X pins σ H s)(hf:∀b∈ch,Zep X pins H b)(hlt:∀b∈ch,b<s.heap.objs.size)(rv:ZQ vs us)(hz:vs.length<=sizeLine)(k:∀b o,b∉ch->s.heap.get? b=some o->h'.get? b=some o)(ht:h'.get? s.heap.objs.size=some {cls:=.type "tuple",data:=.seq us.toArray}):Inv X pins σ (upd H s.heap.objs.size (.tup vs)) {s with heap:=h',toks:=t'}/\H s.heap.objs.size=none/\∀b∈ch,upd H s.heap.objs.size (.tup vs) b=none:=by
 have fr:H s.heap.objs.size=none:=I.hok.fresh (af _);have hn:∀b∈ch,upd H s.heap.objs.size (.tup vs) b=none:=λb hb=>by rw[ZD (aE (hlt b hb))];exact(hf b hb).1
 have I1:Inv X pins σ (upd H s.heap.objs.size (.tup vs)) {s with heap:=s.heap.push {cls:=.type "tuple",data:=.seq us.toArray},toks:=t'}:=
  I.laid (t':=t') (o:=.tup vs) (λ_ _ q=>Hq _ q) (af _) ⟨hz,us,rv,_,aL _ rfl,rfl,_,rfl⟩
 refine⟨Zhx (s:={s with heap:=s.heap.push {cls:=.type "tuple",data:=.seq us.toArray},toks:=t'}) (t':=t') (ch:=ch) I1 (λb o hb e=>?_) (λb hb=>⟨hn b hb,(hf b hb).2⟩),fr,hn⟩;by_cases c:b=s.heap.objs.size
 .subst c;have e':(s.heap.push {cls:=.type "tuple",data:=.seq us.toArray}).get? s.heap.objs.size=some o:=e;rw[aL _ rfl]at e';cases e';exact ht
 .refine k b o hb ?_;have e':(s.heap.push {cls:=.type "tuple",data:=.seq us.toArray}).get? b=some o:=e;have hl:b<s.heap.objs.size:=by
   have q:b<s.heap.objs.size+1:=by
    have z:=Hz e'
    rwa [gu]at z
   exact Nat.lt_of_le_of_ne (Nat.le_of_lt_succ q) c
  have q:(s.heap.push {cls:=.type "tuple",data:=.seq us.toArray}).get? b=s.heap.get? b:=by
   unfold m8.get? m8.push;simp only[mo];rw[if_neg (aE hl)]
  rwa [q]at e'
def Ite(K:Fg)(a:Addr):It:=
 ⟨λi H=>∃xs x,SqL K H a xs/\xs[i]?=some x,λi H y H'=>∃p,H p=none/\y=.ref p/\∀xs x,SqL K H a xs->xs[i]?=some x->H'=upd H p (.tup [.int i,x]),λi H=>∃xs,SqL K H a xs/\xs.length<=i⟩
def Itz(K:Fg)(a b:Addr):It:=
 ⟨λi H=>∃xs ys x y,SqL K H a xs/\SqL K H b ys/\xs[i]?=some x/\ys[i]?=some y,λi H v H'=>∃p,H p=none/\v=.ref p/\∀xs ys x y,SqL K H a xs->SqL K H b ys->xs[i]?=some x->ys[i]?=some y->H'=upd H p (.tup [x,y]),λi H=>∃xs ys,SqL K H a xs/\SqL K H b ys/\(xs.length<=i\/ys.length<=i)⟩
theorem Zhy{K:Fg}(hB:B.handled=none)(a e it:Addr)(hne:e≠it):Turn P w K B (.Tuple elts k0 tp) (Ite K a) [e,it] e (λi h=>(∃old,IsEnum h e it (i:Int) old)/\h.IsListIter it a i) where
 mem:=by simp
 obj:=λi h st b hb=>by
  obtain⟨⟨old,h1⟩,o,e2,c2,d2⟩:=st;rcases az.mp hb with z|z
  .subst z;exact⟨_,h1,λv z=>by cases z⟩
  .have z':b=it:=by simpa using z
   subst z';exact⟨o,e2,λv z=>by rw[d2]at z;cases z⟩
 keep:=λi h h' st k=>⟨let ⟨old,z⟩:=st.1;⟨old,k e (by simp) _ z⟩,st.2.at λo z=>k it (by simp) o z⟩
 item:=by
  intro X hP hw hK hA i pins s σ H E I hf st hg;subst hP hw hK hA;obtain⟨⟨old,h1⟩,h2⟩:=st;obtain⟨xs,x,hq,hx⟩:=hg;obtain⟨its,rv,p,hz⟩:=I.list hq;obtain⟨u,hu,ru⟩:=rv.get hx;have lt:∀b∈[e,it],b<s.heap.objs.size:=λb hb=>by
   rcases az.mp hb with z|z
   .subst z;exact Hz h1
   .have z':b=it:=by simpa using z
    subst z';obtain⟨o,e2,_⟩:=h2;exact Hz e2
  refine wpAny_pyNext_enum_item h1 h2 p.isList (x:=u) (by simpa using hu) hne λh' o1 o2 o3 o4 o5=>⟨_,rfl,?_⟩
  refine wpAny_letOwnedTupleGo_enum (s:={s with heap:=h',toks:=s.toks+1}) o1 λh'' q1 q2=>?_;have pe:s.heap.objs.size≠e:=bH (lt e (by simp))
  have ie:it≠e:=cC hne;obtain⟨J1,J2,J3⟩:=ZkY (h':=h'') (t':=s.toks+1) (ch:=[e,it]) (vs:=[.int i,x]) (us:=[.int i s.toks,u]) I hf lt (.cons ⟨_,rfl⟩ (.cons ru .nil)) (by show 2<=sizeLine;decide)
   (λb o hb z=>by
    have n1:b≠e:=λy=>hb (by simp[y])
    have n2:b≠it:=λy=>hb (by simp[y])
    exact(q2.2 b n1).trans (o5 b o n1 n2 z)) ((q2.2 _ pe).trans o3)
  refine⟨.ref s.heap.objs.size,_,J1,rfl,⟨_,J2,rfl,λys y hy hy2=>?_⟩,⟨⟨u,by simpa using q1⟩,o2.at λo z=>(q2.2 it ie).trans z⟩,J3⟩
  rw[I.list_inj hy hq,hx]at hy2;cases hy2;rfl
 done:=by
  intro X hP hw hK hA i pins s σ H E I hf st hg;subst hP hw hK hA;obtain⟨⟨old,h1⟩,h2⟩:=st;obtain⟨xs,hq,hx⟩:=hg;obtain⟨its,rv,p,hz⟩:=I.list hq;obtain⟨f0,f1,f2,f3,f4,f5⟩:=hf it (by simp)
  refine wpAny_pyNext_enum_end hB h1 h2 p.isList (by simp only[gf];exact aZ (by rw[<-rv.length];exact hx)) λh' ext=>⟨rfl,?_⟩
  exact I.turned (t':=s.toks) (it:=it) (λb o hb z=>ext b o hb z) f0 f1 f3 f4 f5
 self:=λA i s Q E st q=>by
  obtain⟨⟨old,h1⟩,_⟩:=st;have hT:s.TypeIs (.ref e) "enumerate":=⟨_,h1,rfl⟩;refine jU hT F.slot_enumerate_iter (dD F.slot_enumerate_iter hT F.entry_enumerate_iter ?_ (F.args_enumerate_iter_1 _));show wpAny _ _ (ret (.ref e)) _ _ s;exact Wp ⟨_,rfl,"enumerate",_,hT,F.slot_enumerate_next.lookup,q⟩
theorem ZjM{K:Fg}(hB:B.handled=none){TI TO:Addr}(D:ZipApart z TI TO i1 i2 a b):Turn P w K B (.Tuple elts k0 tp) (Itz K a b) [z,TI,TO,i1,i2] z (λi h=>IsZip h z TI TO .none/\IsPair h TI (.ref i1) (.ref i2)/\(∃x y,IsPair h TO x y)/\h.IsListIter i1 a i/\h.IsListIter i2 b i) where
 mem:=by simp
 obj:=λi h st c hc=>by
  obtain⟨h1,h2,⟨x,y,h3⟩,⟨o4,e4,c4,d4⟩,⟨o5,e5,c5,d5⟩⟩:=st;simp only[az,cN,or_false]at hc;rcases hc with rfl|rfl|rfl|rfl|rfl
  .exact⟨_,h1,λv q=>by cases q⟩
  .exact⟨_,h2,λv q=>by cases q⟩
  .exact⟨_,h3,λv q=>by cases q⟩
  .exact⟨o4,e4,λv q=>by rw[d4]at q;cases q⟩
  .exact⟨o5,e5,λv q=>by rw[d5]at q;cases q⟩
 keep:=λi h h' st k=>by
  obtain⟨h1,h2,⟨x,y,h3⟩,h4,h5⟩:=st;exact⟨k z (by simp) _ h1,k TI (by simp) _ h2,⟨x,y,k TO (by simp) _ h3⟩,h4.at λo q=>k i1 (by simp) o q,h5.at λo q=>k i2 (by simp) o q⟩
 item:=by
  intro X hP hw hK hA i pins s σ H E I hf st hg;subst hP hw hK hA;obtain⟨h1,h2,⟨x0,y0,h3⟩,h4,h5⟩:=st;obtain⟨xs,ys,x,y,hq,hq2,hx,hy⟩:=hg;obtain⟨its,rv,p,hz⟩:=I.list hq;obtain⟨its2,rv2,p2,hz2⟩:=I.list hq2;obtain⟨u,hu,ru⟩:=rv.get hx;obtain⟨u2,hu2,ru2⟩:=rv2.get hy;have lt:∀c∈[z,TI,TO,i1,i2],c<s.heap.objs.size:=λc hc=>by
   simp only[az,cN,or_false]at hc;rcases hc with rfl|rfl|rfl|rfl|rfl
   .exact Hz h1
   .exact Hz h2
   .exact Hz h3
   .obtain⟨o,e2,_⟩:=h4;exact Hz e2
   .obtain⟨o,e2,_⟩:=h5;exact Hz e2
  refine wpAny_pyNext_zip_item D h1 h2 h3 h4 h5 p.isList p2.isList (x:=u) (y:=u2) (by simpa using hu) (by simpa using hu2) λh' o1 o2 o3 o4 o5 o6 o7=>⟨_,rfl,?_⟩
  refine wpAny_letOwnedTupleGo_zip (s:={s with heap:=h'}) o1 λh'' q1 q2=>?_;have pe:s.heap.objs.size≠z:=bH (lt z (by simp))
  obtain⟨J1,J2,J3⟩:=ZkY (h':=h'') (t':=s.toks) (ch:=[z,TI,TO,i1,i2]) (vs:=[x,y]) (us:=[u,u2]) I hf lt (.cons ru (.cons ru2 .nil)) (by show 2<=sizeLine;decide)
   (λc o hc q=>by
    simp only[az,cN,or_false,not_or]at hc;exact(q2.2 c hc.1).trans (o7 c o hc.1 hc.2.2.1 hc.2.2.2.1 hc.2.2.2.2 q)) ((q2.2 _ pe).trans o5)
  refine⟨.ref s.heap.objs.size,_,J1,rfl,⟨_,J2,rfl,λxs' ys' x' y' hx1 hy1 hx2 hy2=>?_⟩,⟨q1,(q2.2 TI D.TIz).trans (o7 TI _ D.TIz D.TITO D.TIi1 D.TIi2 h2),⟨u,u2,(q2.2 TO D.TOz).trans o2⟩,o3.at λo q=>(q2.2 i1 D.i1z).trans q,o4.at λo q=>(q2.2 i2 D.i2z).trans q⟩,J3⟩;rw[I.list_inj hx1 hq,hx]at hx2;rw[I.list_inj hy1 hq2,hy]at hy2;cases hx2;cases hy2;rfl
 done:=by
  intro X hP hw hK hA i pins s σ H E I hf st hg;subst hP hw hK hA;obtain⟨h1,h2,⟨x0,y0,h3⟩,h4,h5⟩:=st;obtain⟨xs,ys,hq,hq2,hx⟩:=hg;obtain⟨its,rv,p,hz⟩:=I.list hq;obtain⟨its2,rv2,p2,hz2⟩:=I.list hq2;have he:its.toArray[i]?=none\/its2.toArray[i]?=none:=by
   rcases hx with hx|hx
   .exact .inl (by simp only[gf];exact aZ (by rw[<-rv.length];exact hx))
   .exact .inr (by simp only[gf];exact aZ (by rw[<-rv2.length];exact hx))
  refine wpAny_pyNext_zip_end hB D h1 h2 h3 h4 h5 p.isList p2.isList he λh' keep=>⟨rfl,?_⟩;refine Zhx (t':=s.toks) (ch:=[z,TI,TO,i1,i2]) I (λc o hc q=>?_) hf;simp only[az,cN,or_false,not_or]at hc;exact keep c o hc.1 hc.2.2.1 hc.2.2.2.1 hc.2.2.2.2 q
 self:=λA i s Q E st q=>wpAny_pyIter_zip st.1 q
theorem Zo3{n:Nat}(h1:a<n)(h2:b<n):ZipApart (n+4) (n+2) (n+3) n (n+1) a b:=⟨aE ⋯,aE ⋯,aE ⋯,aE ⋯,aE ⋯,bH ⋯,bH ⋯,bH ⋯,bH ⋯,aE ⋯,aE ⋯,aE ⋯,aE ⋯,aE ⋯,aE ⋯,aE ⋯,aE ⋯,aE ⋯⟩
theorem Zo4:bK "zip"=some (.type "zip"):=by decide +kernel
theorem Zd1:bK "enumerate"=some (.type "enumerate"):=by decide +kernel
def Zr4(K:Fg)(t:TA):TI:=λσ H R=>t σ H λvs H1=>∃l xs,vs=[.ref l]/\SqL K H1 l xs/\R (Ite K l) H1
def Zvl(K:Fg)(t:TA):TI:=λσ H R=>t σ H λvs H1=>∃l l2 xs ys,vs=[.ref l,.ref l2]/\SqL K H1 l xs/\SqL K H1 l2 ys/\R (Itz K l l2) H1
theorem Zmo(hc:X.A.handled=none)(hg:Gl X "enumerate")(hm:X.mg "enumerate"=none)(ha:PA X [a] ta)(hs:autoParam (av [a] X.env=(false,eval a X.env)::av [] X.env) Qrf._auto_1)(hpl:autoParam ((cT pos (av [] X.env)).any (·.1)=false) Qrf._auto_1):
  PI X (.Tuple elts k0 tp) (.Call (.Name "enumerate" p) [a] [] pos) (Zr4 X.K ta):=by
 intro pins s σ H R I h;refine wpAny_Call_Name_kw (Zbg I hg hm Zd1 (bW (thn (ha pos pins s σ H _ I h) λus s1 hz=>?_) hs hpl) (by decide) (by decide))
 obtain⟨vs,H1,I1,r1,q1⟩:=hz;obtain⟨l,xs,rfl,hq,q⟩:=q1;obtain⟨u,rfl,ru⟩:=ZbW r1;cases ru;obtain⟨its,rv,pl,hz⟩:=I1.list hq;refine call_enumerate_list pl.isList λh' e1 e2 e3 e4=>?_;have T:=Zhy (P:=X.prog) (w:=X.w) (K:=X.K) (B:=X.A) (elts:=elts) (k0:=k0) (tp:=tp) hc l (s1.heap.objs.size+1) s1.heap.objs.size (bH (dF _));have I2:Inv X pins σ H1 {s1 with heap:=h',toks:=s1.toks}:=I1.kept (t':=s1.toks) e4;refine T.self X.A 0 {s1 with heap:=h'} _ _ ⟨⟨_,e1⟩,e2⟩ ⟨_,_,_,_,H1,rfl,I2,T,⟨⟨_,e1⟩,e2⟩,λb hb=>?_,q⟩;have hb':s1.heap.objs.size<=b:=by
  simp only[az,cN,or_false]at hb;rcases hb with rfl|rfl<;>lia
 exact I1.fpOk hb' (I1.hok.fresh hb')
theorem Zo5(hc:X.A.handled=none)(hg:Gl X "zip")(hm:X.mg "zip"=none)(ha:PA X [a,b] ta)(hs:autoParam (av [a,b] X.env=(false,eval a X.env)::av [b] X.env) Qrf._auto_1)(hpl:autoParam ((cT pos (av [b] X.env)).any (·.1)=false) Qrf._auto_1):
  PI X (.Tuple elts k0 tp) (.Call (.Name "zip" p) [a,b] [] pos) (Zvl X.K ta):=by
 intro pins s σ H R I h;refine wpAny_Call_Name_kw (Zbg I hg hm Zo4 (bW (thn (ha pos pins s σ H _ I h) λus s1 hz=>?_) hs hpl) (by decide) (by decide))
 obtain⟨vs,H1,I1,r1,q1⟩:=hz;obtain⟨l,l2,xs,ys,rfl,hq,hq2,q⟩:=q1;obtain⟨u,u2,rfl,ru,ru2⟩:=Zjn r1;cases ru;cases ru2;obtain⟨its,rv,pl,hz⟩:=I1.list hq;obtain⟨its2,rv2,pl2,hz2⟩:=I1.list hq2;have lt1:l<s1.heap.objs.size:=by obtain⟨_,e,_⟩:=pl.isList;exact Hz e
 have lt2:l2<s1.heap.objs.size:=by obtain⟨_,e,_⟩:=pl2.isList;exact Hz e
 refine call_zip_2 pl.isList pl2.isList λh' e1 e2 e3 e4 e5 e6 e7=>?_;have D:=Zo3 lt1 lt2;have T:=ZjM (P:=X.prog) (w:=X.w) (K:=X.K) (B:=X.A) (elts:=elts) (k0:=k0) (tp:=tp) hc D;have I2:Inv X pins σ H1 {s1 with heap:=h',toks:=s1.toks}:=I1.kept (t':=s1.toks) e7;refine T.self X.A 0 {s1 with heap:=h'} _ _ ⟨e1,e2,⟨_,_,e3⟩,e4,e5⟩ ⟨_,_,_,_,H1,rfl,I2,T,⟨e1,e2,⟨_,_,e3⟩,e4,e5⟩,λc hc=>?_,q⟩;have hb':s1.heap.objs.size<=c:=by
  simp only[az,cN,or_false]at hc;rcases hc with rfl|rfl|rfl|rfl|rfl<;>lia
 exact I1.fpOk hb' (I1.hok.fresh hb')
def iEn(fs:Av):Ro->Sto->Out Src:=λρ M=>(fs ρ M).bind λds M1=>match ds with|[.ref n]=>.ok (.enu n) M1|_=>.bad
def iZp(fs:Av):Ro->Sto->Out Src:=λρ M=>(fs ρ M).bind λds M1=>match ds with|[.ref n,.ref m]=>.ok (.zip n m) M1|_=>.bad
theorem Zmp(hc:X.A.handled=none)(hm:X.mg "enumerate"=none)(ha:DA X ξ [a] fs)(hg:autoParam (Gl X "enumerate") Qrf._auto_1)(hs:autoParam (av [a] X.env=(false,eval a X.env)::av [] X.env) Qrf._auto_1)(hpl:autoParam ((cT pos (av [] X.env)).any (·.1)=false) Qrf._auto_1):
  DI X ξ (.Tuple elts k0 tp) (.Call (.Name "enumerate" p) [a] [] pos) (iEn fs):=by
 obtain⟨ta,pa,qa⟩:=ha;refine⟨_,Zmo hc hg hm pa hs hpl,λσ ρ H α M R s hh q=>qa σ ρ H α M _ s hh (OG.seq q λds M1 vs H1 α1 e1 h1 r1 w1=>?_)⟩;cases r1 with
 |nil=>exact w1.elim
 |cons r tz=>
  cases tz with
  |cons _ _=>cases r<;>exact w1.elim
  |nil=>
   cases r with
   |@ref l n hp=>
    obtain⟨xs0,g0⟩:=h1.some_at hp;refine⟨l,xs0,rfl,SqL.of g0,w1 _ H1 α1 Ext.refl h1 λi H' α' M' ex hr=>?_⟩;cases em:M'[n]? with
    |none=>rw[show nxt (.enu n) i M'=none by simp only[nxt,em]];exact fC
    |some so=>
     cases so with
     |lst es=>
      obtain⟨xs,g1,g2⟩:=hr.at (ex.get hp) em;cases ei:es[i]? with
      |none=>rw[show nxt (.enu n) i M'=some none by simp only[nxt,em,ei]];exact⟨xs,SqL.of g1,by rw[g2.length];exact bJ.mp ei⟩
      |some d=>
       obtain⟨v,k1,k2⟩:=g2.get ei;rw[show nxt (.enu n) i M'=some (some (D.tup [D.int i,d]))by simp only[nxt,em,ei]]
       refine⟨⟨xs,v,SqL.of g1,k1⟩,λx H'' y=>?_⟩;obtain⟨pp,y1,rfl,y3⟩:=y;have y4:=y3 xs v (SqL.of g1) k1;subst y4;exact⟨Ext.new0 y1,hr.tup y1,.tup Zx (.cons (.int i) (.cons (Rep.mono (Ext.new0 y1) k2) .nil))⟩
   |_=>exact w1.elim
theorem ZfH(hc:X.A.handled=none)(hm:X.mg "zip"=none)(ha:DA X ξ [a,b] fs)(hg:autoParam (Gl X "zip") Qrf._auto_1)(hs:autoParam (av [a,b] X.env=(false,eval a X.env)::av [b] X.env) Qrf._auto_1)(hpl:autoParam ((cT pos (av [b] X.env)).any (·.1)=false) Qrf._auto_1):
  DI X ξ (.Tuple elts k0 tp) (.Call (.Name "zip" p) [a,b] [] pos) (iZp fs):=by
 obtain⟨ta,pa,qa⟩:=ha;refine⟨_,Zo5 hc hg hm pa hs hpl,λσ ρ H α M R s hh q=>qa σ ρ H α M _ s hh (OG.seq q λds M1 vs H1 α1 e1 h1 r1 w1=>?_)⟩
 split at w1
 .rename_i n m;cases r1 with
  |cons r t=>
   cases t with
   |cons r' t=>
    cases t;cases r with
    |ref hp=>
    cases r' with
    |ref hp2=>
    rename_i l l2;obtain⟨xs0,g0⟩:=h1.some_at hp;obtain⟨ys0,g0'⟩:=h1.some_at hp2;refine⟨l,l2,xs0,ys0,rfl,SqL.of g0,SqL.of g0',w1 _ H1 α1 Ext.refl h1 λi H' α' M' ex hr=>?_⟩;cases em:M'[n]? with
    |none=>rw[show nxt (.zip n m) i M'=none by simp only[nxt,em]];exact fC
    |some so=>
     cases em2:M'[m]? with
     |none=>cases so;rw[show nxt (.zip n m) i M'=none by simp only[nxt,em,em2]];exact fC
     |some so2=>
      cases so with
      |lst es=>
       cases so2 with
       |lst es2=>
        obtain⟨xs,g1,g2⟩:=hr.at (ex.get hp) em;obtain⟨ys,g3,g4⟩:=hr.at (ex.get hp2) em2;cases ei:es[i]? with
        |none=>rw[show nxt (.zip n m) i M'=some none by simp only[nxt,em,em2,ei]];exact⟨xs,ys,SqL.of g1,SqL.of g3,.inl (by rw[g2.length];exact bJ.mp ei)⟩
        |some d=>
         cases ej:es2[i]? with
         |none=>rw[show nxt (.zip n m) i M'=some none by simp only[nxt,em,em2,ei,ej]];exact⟨xs,ys,SqL.of g1,SqL.of g3,.inr (by rw[g4.length];exact bJ.mp ej)⟩
         |some d2=>
          obtain⟨v,k1,k2⟩:=g2.get ei;obtain⟨v2,k3,k4⟩:=g4.get ej;rw[show nxt (.zip n m) i M'=some (some (D.tup [d,d2]))by simp only[nxt,em,em2,ei,ej]]
          refine⟨⟨xs,ys,v,v2,SqL.of g1,SqL.of g3,k1,k3⟩,λx H'' y=>?_⟩;obtain⟨pp,y1,rfl,y3⟩:=y;have y4:=y3 xs ys v v2 (SqL.of g1) (SqL.of g3) k1 k3;subst y4;exact⟨Ext.new0 y1,hr.tup y1,.tup Zx (.cons (Rep.mono (Ext.new0 y1) k2) (.cons (Rep.mono (Ext.new0 y1) k4) .nil))⟩
 .exact w1.elim
end DL
namespace DL
open PyProof.Rows L2
open PySem.SeqAt (EqAt RcAt RcNeAt)
inductive Ks(X:Cx) (H:Hp) (α:List Addr):Kd->Kd->Prop where
 |non:Ks X H α .non .non
 |bl (b:Bool):Ks X H α (.bl b) (.bl b)
 |int (i:Int):Ks X H α (.int i) (.int i)
 |str (x:Str):Ks X H α (.str x) (.str x)
 |tup {vs:List V} {ds es:List D}:Reps X.K H α vs ds->Reps X.K H α vs es->Ks X H α (.tup ds) (.tup es)
 |lst {vs:List V} {ds es:List D}:Reps X.K H α vs ds->Reps X.K H α vs es->Ks X H α (.lst ds) (.lst es)
section
variable {X:Cx}{pins:Pn}{σ:L2.St}{H:Hp}{s:aB}{α:List Addr}{M:Sto}
theorem Zo6(h:HR X.K H α M){x:D}(r:Rep X.K H α v x)(e:kd M x=some k):(match k with|.tup ds=>∃p vs,v=.ref p/\SqT X.K H p vs/\Reps X.K H α vs ds|.lst ds=>∃p vs,v=.ref p/\SqL X.K H p vs/\Reps X.K H α vs ds|.non=>v=.non|.bl b=>v=.bl b|.int i=>v=.int i|.str x=>v=.str x):=by
 cases r with
 |non=>cases e;rfl
 |bl b=>cases e;rfl
 |int i=>cases e;rfl
 |str x=>cases e;rfl
 |err _ _ _=>cases e
 |dk _=>cases e
 |dt _=>cases e
 |du _=>cases e
 |fn _=>cases e
 |@tup p xs ds hp rp=>cases e;exact⟨p,xs,rfl,(SqT.of hp),rp⟩
 |@con p xs ds hp rp=>cases e;exact⟨p,xs,rfl,hp.sq,rp⟩
 |@rol p xs ds hp rp=>cases e;exact⟨p,xs,rfl,hp.sq,rp⟩
 |@ref p n hp=>
  cases e1:M[n]? with
  |none=>simp only[kd,e1]at e;cases e
  |some o=>
   cases o with
   |lst ds=>
    simp only[kd,e1]at e;cases e;obtain⟨xs,g1,r1⟩:=h.at hp e1;exact⟨p,xs,rfl,SqL.of g1,r1⟩
theorem Zhz(I:Inv X pins σ H s)(h:HR X.K H α M)(rx:Rep X.K H α v x)(ry:Rep X.K H α v y)(ex:kd M x=some k)(ey:kd M y=some l):Ks X H α k l:=by
 have a:=Zo6 h rx ex;have b:=Zo6 h ry ey;have nl:∀{p:Addr}{xs ys:List V},SqT X.K H p xs->SqL X.K H p ys->False:=λ{p xs ys} a c=>by
  obtain⟨i1,_,⟨o1,g1,c1,_⟩,_⟩:=I.tuple a;obtain⟨i2,_,⟨o2,_,g2,c2,_⟩,_⟩:=I.list c;rw[g1]at g2;cases g2;rw[c1]at c2;exact absurd c2 (by decide)
 cases k with
 |non=>cases a;cases l<;>first|(cases b;done)|exact .non|(obtain⟨_,_,q,_⟩:=b;cases q)
 |bl c=>cases a;cases l<;>first|(cases b;done)|(cases b;exact .bl c)|(obtain⟨_,_,q,_⟩:=b;cases q)
 |int c=>cases a;cases l<;>first|(cases b;done)|(cases b;exact .int c)|(obtain⟨_,_,q,_⟩:=b;cases q)
 |str c=>cases a;cases l<;>first|(cases b;done)|(cases b;exact .str c)|(obtain⟨_,_,q,_⟩:=b;cases q)
 |tup ds=>
  obtain⟨p,vs,rfl,q1,q2⟩:=a;cases l with
  |tup es=>
   obtain⟨p2,vs2,e2,q3,q4⟩:=b;cases e2;cases I.tuple_inj q1 q3;exact .tup q2 q4
  |lst es=>
   obtain⟨p2,vs2,e2,q3,q4⟩:=b;cases e2;exact(nl q1 q3).elim
  |_=>cases b
 |lst ds=>
  obtain⟨p,vs,rfl,q1,q2⟩:=a;cases l with
  |lst es=>
   obtain⟨p2,vs2,e2,q3,q4⟩:=b;cases e2;cases I.list_inj q1 q3;exact .lst q2 q4
  |tup es=>
   obtain⟨p2,vs2,e2,q3,q4⟩:=b;cases e2;exact(nl q3 q1).elim
  |_=>cases b
theorem ZkZ(I:Inv X pins σ H s)(h:HR X.K H α M):∀(n:Nat){v w:V}{x x' y y':D}{b b':Bool},Rep X.K H α v x->Rep X.K H α v x'->Rep X.K H α w y->Rep X.K H α w y'->eqF n M x y=some b->eqF n M x' y'=some b'->b=b':=by
 intro n
 induction n with
 |zero=>intro v w x x' y y' b b' _ _ _ _ e;simp only[eqF]at e;cases e
 |succ n ih=>
  have lists:∀(vs ws:List V)(xs xs' ys ys':List D)(b b':Bool),Reps X.K H α vs xs->Reps X.K H α vs xs'->Reps X.K H α ws ys->Reps X.K H α ws ys'->eqL (eqF n M) xs ys=some b->eqL (eqF n M) xs' ys'=some b'->b=b':=by
   intro vs
   induction vs with
   |nil=>
    intro ws xs xs' ys ys' b b' r1 r2 r3 r4 e e';cases r1;cases r2;cases r3 with
    |nil=>cases r4;simp only[eqL,am]at e e';rw[<-e,<-e']
    |cons _ _=>cases r4;simp only[eqL,am]at e e';rw[<-e,<-e']
   |cons v vs iv=>
    intro ws xs xs' ys ys' b b' r1 r2 r3 r4 e e';cases r1 with
    |cons p1 t1=>
     cases r2 with
     |cons p2 t2=>
      cases r3 with
      |nil=>cases r4;simp only[eqL,am]at e e';rw[<-e,<-e']
      |cons p3 t3=>
       cases r4 with
       |cons p4 t4=>
        rename_i d1 ds1 d2 ds2 w d3 ws ds3 d4 ds4;cases a1:eqF n M d1 d3 with
        |none=>simp only[eqL,a1]at e;cases e
        |some a=>
         cases a2:eqF n M d2 d4 with
         |none=>simp only[eqL,a2]at e';cases e'
         |some a'=>
          cases c1:eqL (eqF n M) ds1 ds3 with
          |none=>simp only[eqL,a1,c1]at e;cases e
          |some c=>
           cases c2:eqL (eqF n M) ds2 ds4 with
           |none=>simp only[eqL,a2,c2]at e';cases e'
           |some c'=>
            simp only[eqL,a1,c1,am]at e;simp only[eqL,a2,c2,am]at e';rw[<-e,<-e',ih p1 p2 p3 p4 a1 a2,iv _ _ _ _ _ _ _ t1 t2 t3 t4 c1 c2]
  intro v w x x' y y' b b' rx rx' ry ry' e e';unfold eqF at e e';cases k1:kd M x with
  |none=>rw[k1]at e;cases e
  |some ka=>
   cases k2:kd M y with
   |none=>rw[k1,k2]at e;cases e
   |some kb=>
    cases k3:kd M x' with
    |none=>rw[k3]at e';cases e'
    |some ka'=>
     cases k4:kd M y' with
     |none=>rw[k3,k4]at e';cases e'
     |some kb'=>
      rw[k1,k2]at e;rw[k3,k4]at e';have s1:=Zhz I h rx rx' k1 k3;have s2:=Zhz I h ry ry' k2 k4;cases s1 with
      |tup a1 a2=>
       cases s2 with
       |tup b1 b2=>simp only[eqK]at e e';exact lists _ _ _ _ _ _ _ _ a1 a2 b1 b2 e e'
       |_=>simp only[eqK,am]at e e';rw[<-e,<-e']
      |lst a1 a2=>
       cases s2 with
       |lst b1 b2=>
        simp only[eqK]at e e';rw[<-a1.length,<-b1.length]at e;rw[<-a2.length,<-b2.length]at e'
        split at e
        .rename_i c;rw[if_pos c]at e';exact lists _ _ _ _ _ _ _ _ a1 a2 b1 b2 e e'
        .rename_i c;rw[if_neg c]at e';cases e;cases e';rfl
       |_=>simp only[eqK,am]at e e';rw[<-e,<-e']
      |_=>cases s2<;>(simp only[eqK,am]at e e';rw[<-e,<-e'])
def eqs(M:Sto)(d:D):List D->Option (List Bool)
 |[]=>some []
 |x::r=>match eqF 12 M x d with|some b=>(match eqs M d r with|some bs=>some (b::bs)|none=>none)|none=>none
theorem ZhA:∀{M:Sto}{d:D}{xs:List D}{bs:List Bool},eqs M d xs=some bs->bs.length=xs.length
 |_,_,[],_,e=>by cases e;rfl
 |M,d,x::r,bs,e=>by
  cases e1:eqF 12 M x d with
  |none=>simp only[eqs,e1]at e;cases e
  |some b=>
   cases e2:eqs M d r with
   |none=>simp only[eqs,e1,e2]at e;cases e
   |some cs=>simp only[eqs,e1,e2,am]at e;subst e;rw[bD,bD,ZhA e2]
theorem ZhB:∀{M:Sto}{d:D}{xs:List D}{bs:List Bool}{i:Nat}{x:D},eqs M d xs=some bs->xs[i]?=some x->∃b,bs[i]?=some b/\eqF 12 M x d=some b
 |_,_,[],_,i,x,e,hx=>by simp at hx
 |M,d,y::r,bs,i,x,e,hx=>by
  cases e1:eqF 12 M y d with
  |none=>simp only[eqs,e1]at e;cases e
  |some b=>
   cases e2:eqs M d r with
   |none=>simp only[eqs,e1,e2]at e;cases e
   |some cs=>
    simp only[eqs,e1,e2,am]at e;subst e;cases i with
    |zero=>simp at hx;subst hx;exact⟨b,rfl,e1⟩
    |succ i=>simp at hx;obtain⟨b',q1,q2⟩:=ZhB e2 hx;exact⟨b',by simpa using q1,q2⟩
open Classical in
theorem ZhC{A:dg}(hu:A.units+64<jo)(I:Inv X pins σ H s)(h:HR X.K H α M)(rv:ZQ vs us)(rp:Reps X.K H α vs ds)(ru:ZS v u)(rd:Rep X.K H α v d)(e:eqs M d ds=some bs):∃f:aa->Bool,(∀y,y∈us.toArray->EqAt A.in1 s y u (f y))/\us.map f=bs:=by
 have ll:us.length=ds.length:=by rw[<-rv.length,rp.length]
 have at_:∀(i:Nat) y,us[i]?=some y->∃w x b,ZS w y/\Rep X.K H α w x/\bs[i]?=some b/\eqF 12 M x d=some b:=λi y hy=>by
  have hi:i<ds.length:=by rw[<-ll];exact(aq.mp hy).1
  obtain⟨w,a1,a2⟩:=rp.get (Gq hi);obtain⟨y',a3,a4⟩:=rv.get a1;rw[hy]at a3;cases a3;obtain⟨b,a5,a6⟩:=ZhB e (Gq hi);exact⟨w,_,b,a4,a2,a5,a6⟩
 refine⟨λy=>decide (∃w x,ZS w y/\Rep X.K H α w x/\eqF 12 M x d=some true),λy hy=>?_,?_⟩
 .obtain⟨i,hi,ey⟩:=bS (by simpa using hy)
  obtain⟨w,x,b,q1,q2,q3,q4⟩:=at_ i y (by rw[ae hi,ey])
  have hb:decide (∃w x,ZS w y/\Rep X.K H α w x/\eqF 12 M x d=some true)=b:=by
   cases b with
   |true=>exact decide_eq_true ⟨w,x,q1,q2,q4⟩
   |false=>
    refine decide_eq_false λhz=>?_;obtain⟨w',x',z1,z2,z3⟩:=hz;cases ZS.inj z1 q1
    have:=ZkZ I h 12 z2 q2 rd rd z3 q4
    cases this
  show EqAt A.in1 s y u (decide (∃w x,ZS w y/\Rep X.K H α w x/\eqF 12 M x d=some true));rw[hb];exact(eq3 I h 12 x d w v y u b A.in1 (by rw[dg.in1_units];lia) q4 q2 rd q1 ru).1
 .apply fk;intro i;rw[bv];cases hy:us[i]? with
  |none=>
   have:bs[i]?=none:=aZ (by rw[ZhA e,<-ll];exact bJ.mp hy)
   rw[this];rfl
  |some y=>
   obtain⟨w,x,b,q1,q2,q3,q4⟩:=at_ i y hy;rw[q3];show some _=some b;congr 1;cases b with
   |true=>exact decide_eq_true ⟨w,x,q1,q2,q4⟩
   |false=>
    refine decide_eq_false λhz=>?_;obtain⟨w',x',z1,z2,z3⟩:=hz;cases ZS.inj z1 q1
    have:=ZkZ I h 12 z2 q2 rd rd z3 q4
    cases this
end
def Zub(X:Cx)(neg:Bool):R2:=λv w H Q=>∃α M d x ds bs p vs,HR X.K H α M/\Rep X.K H α v d/\w=.ref p/\(SqL X.K H p vs\/SqT X.K H p vs)/\Reps X.K H α vs ds/\Zeq M x=some ds/\eqs M d ds=some bs/\Q (.bl (neg ^^ bs.any id)) H
theorem any_map{us:List aa}(e:us.map f=bs):us.toArray.any f=bs.any id:=by
 rw[<-e,List.any_toArray,List.any_map];rfl
theorem Zk0(hu:X.A.units+64<jo):OpR X (eI .In) (Zub X false):=by
 intro pins s σ H v w u z Q I rv rw' hh;obtain⟨α,M,d,x,ds,bs,p,vs,h,rd,e1,hq,rp,_,e,q⟩:=hh;subst e1;cases rw';rcases hq with hq|hq
 .obtain⟨its,r,pl,hz⟩:=I.list hq;obtain⟨f,f1,f2⟩:=ZhC (A:=X.A) hu I h r rp rv rd e;refine SeqAt.in_listAt f pl.isList f1 ⟨.bl _,H,I,rfl,?_⟩;rw[any_map f2]
  simpa using q
 .obtain⟨its,r,pl,hz⟩:=I.tuple hq;obtain⟨f,f1,f2⟩:=ZhC (A:=X.A) hu I h r rp rv rd e;refine SeqAt.in_tupleAt f pl f1 ⟨.bl _,H,I,rfl,?_⟩;rw[any_map f2]
  simpa using q
def inE(x y:D)(M:Sto):Option Bool:=match Zeq M y with|some ds=>(match eqs M x ds with|some bs=>some (bs.any id)|none=>none)|none=>none
def dInE:Bo:=λx y M=>match inE x y M with|some b=>.ok (.bl b) M|none=>.bad
theorem Zk1:BO X ξ (Zub X false) dInE:=by
 intro H α M v w x y Q h rv rw' q;unfold dInE inE at q;cases e1:Zeq M y with
 |none=>simp only[e1]at q;exact q.elim
 |some ds=>
  cases e2:eqs M x ds with
  |none=>simp only[e1,e2]at q;exact q.elim
  |some bs=>
   simp only[e1,e2]at q;obtain⟨p,vs,k1,k2,k3⟩:=Zez h rw' e1;exact⟨α,M,x,y,ds,bs,p,vs,h,rv,k1,k2,k3,e1,e2,by simpa using q _ H α Ext.refl h (.bl _)⟩
def Zwb:Me:=λx ds M=>match x,ds with
 |.ref n,[d]=>(match M[n]? with|some (.lst xs)=>(match eqs M d xs with|some bs=>(match bs.findIdx? id with|some j=>.ok (.int (j:Nat)) M|none=>.bad)|none=>.bad)|none=>.bad)
 |_,_=>.bad
noncomputable def Zbf:List D->Option (List Int)
 |[]=>some []
 |.int b::r=>match Zbf r with|some bs=>some (b::bs)|none=>none
 |_::_=>none
theorem ZjN{K:Fg}(h:Reps K H α vs ds)(e:Zbf ds=some bs):vs=bs.map V.int:=by
 induction ds generalizing vs bs with
 |nil=>cases h;cases e;rfl
 |cons d ds ih=>
  cases h with
  |cons r t=>
   cases r with
   |int b=>
    cases e1:Zbf ds with
    |none=>simp only[Zbf,e1]at e;cases e
    |some cs=>
     simp only[Zbf,e1,am]at e;subst e;rw[ih t e1];rfl
   |_=>cases e
def Zgs(X:Cx)(g:List Int->Option V):List V->Hp->VK->Prop:=λvs H Q=>∃(p:Addr) (ns:List Int) (v:V),vs=[.ref p]/\SqL X.K H p (ns.map V.int)/\g ns=some v/\Q v H
theorem Zby:∀{ns:List Int}{us:List aa}{i:Nat}{u:aa},ZQ (ns.map V.int) us->us[i]?=some u->∃t,u=.int (ns.getD i 0) t
 |[],us,i,u,h,e=>by cases h;simp at e
 |b::r,us,i,u,h,e=>by
  cases h with
  |cons h1 h2=>
   cases i with
   |zero=>simp at e;subst e;exact h1
   |succ i=>simp at e;obtain⟨t,g⟩:=Zby h2 e;exact⟨t,by simpa using g⟩
theorem Zd2(hc:X.calm=true){ns:List Int}(I:Inv X pins σ H s)(hl:SqL X.K H p (ns.map V.int))(q:∀(its:List aa)(it:Addr),ZQ (ns.map V.int) its->its.length=ns.length->it=s.heap.objs.size->Walks X.prog X.w X.A.in1 it [it,p] [it] its.toArray.size (λi v=>its.toArray[i]?=some v) (λi h=>h.IsListIter it p i/\h.IsList p its.toArray)->(∀b∈[it,p],b<(s.heap.push {cls:=.type "list_iterator",data:=.fields #[.ref p,.int 0 0]}).objs.size)->((s.heap.push {cls:=.type "list_iterator",data:=.fields #[.ref p,.int 0 0]}).IsListIter it p 0/\(s.heap.push {cls:=.type "list_iterator",data:=.fields #[.ref p,.int 0 0]}).IsList p its.toArray)->(∀h' tk,(∀b o,b∉[it]->(s.heap.push {cls:=.type "list_iterator",data:=.fields #[.ref p,.int 0 0]}).get? b=some o->h'.get? b=some o)->Inv X pins σ H {s with heap:=h',toks:=tk})->Q (.ref it) {s with heap:=s.heap.push {cls:=.type "list_iterator",data:=.fields #[.ref p,.int 0 0]}}):wpAny (ao X.prog X.w) X.A.in1 (pyIter (.ref p)) Q E s:=by
 obtain⟨its,hv,hp,hz⟩:=I.list hl;have hlt:p<s.heap.objs.size:=by obtain⟨_,e,_⟩:=hp.isList;exact Hz e
 refine jS hp.isList ?_;refine q its s.heap.objs.size hv (by rw[<-hv.length,au]) rfl (Walks.list (A:=X.A.in1) (I.ok.hd hc) _ p (aE hlt) its.toArray) (λb hb=>?_) ⟨⟨_,aL _ rfl,rfl,rfl⟩,hp.isList.push _⟩ λh' tk hk=>?_
 .rw[gu];simp only[az,cN,or_false]at hb;rcases hb with rfl|rfl
  .exact dF _
  .exact gp hlt
 .exact I.kept λb o e=>hk b o (λhm=>by rw[cJ.mp hm]at e;exact bV _ (Hz e)) (Hq _ e)
theorem ZjO{ns:List Int}(h:0<ns.length):ns.max?=some (ns.getD (argBest (λi j=>decide (ns.getD i 0>ns.getD j 0)) (ns.length-1)) 0):=by
 obtain⟨h1,h2⟩:=argBest_gt (λi=>ns.getD i 0) (ns.length-1);refine gj.mpr ⟨?_,λb hb=>?_⟩
 .have hl:argBest (λi j=>decide (ns.getD i 0>ns.getD j 0)) (ns.length-1)<ns.length:=(by omega)
  rw[aw,ae hl];exact bU hl
 .obtain⟨j,hj,rfl⟩:=bS hb
  have:=h2 j (by omega)
  rwa [show ns.getD j 0=ns[j]by rw[aw,ae hj];rfl]at this
theorem ZjP{ns:List Int}(h:0<ns.length):ns.min?=some (ns.getD (argBest (λi j=>decide (ns.getD i 0<ns.getD j 0)) (ns.length-1)) 0):=by
 obtain⟨h1,h2⟩:=argBest_lt (λi=>ns.getD i 0) (ns.length-1);refine lj.mpr ⟨?_,λb hb=>?_⟩
 .have hl:argBest (λi j=>decide (ns.getD i 0<ns.getD j 0)) (ns.length-1)<ns.length:=⋯
  rw[aw,ae hl];exact bU hl
 .obtain⟨j,hj,rfl⟩:=bS hb
  have:=h2 j ⋯
  rwa [show ns.getD j 0=ns[j]by rw[aw,ae hj];rfl]at this
def Zrv(ns:List Int):Option V:=ns.max?.map V.int
def Zrw(ns:List Int):Option V:=ns.min?.map V.int
theorem Za1(hc:X.calm=true):Zbk X (.builtin "max") (Zgs X Zrv):=by
 intro pins s σ H vs us Q I rs hh;obtain⟨p,ns,v,e,hl,hg,q⟩:=hh;subst e;obtain⟨u,rfl,ru⟩:=ZbW rs;cases ru;have hn:0<ns.length:=by cases ns with|nil=>cases hg|cons _ _=>simp
 unfold Zrv at hg;rw[ZjO hn]at hg;cases hg;refine call_max_walk (Zd2 hc I hl λits it hv hlen ei W hfp st back=>?_);refine⟨it,_,_,_,_,_,_,rfl,W,st,hfp,by rw[ah,hlen];exact hn,CmpOf.ints_gt (λi=>ns.getD i 0) (λi v hP=>Zby hv (by simpa using hP)),λv h' tk hP hk=>⟨_,H,back h' tk hk,?_,q⟩⟩
 rw[ah,hlen]at hP;exact Zby hv (by simpa using hP)
theorem Zd3(hc:X.calm=true):Zbk X (.builtin "min") (Zgs X Zrw):=by
 intro pins s σ H vs us Q I rs hh;obtain⟨p,ns,v,e,hl,hg,q⟩:=hh;subst e;obtain⟨u,rfl,ru⟩:=ZbW rs;cases ru;have hn:0<ns.length:=by cases ns with|nil=>cases hg|cons _ _=>simp
 unfold Zrw at hg;rw[ZjP hn]at hg;cases hg;refine call_min_walk (Zd2 hc I hl λits it hv hlen ei W hfp st back=>?_);refine⟨it,_,_,_,_,_,_,rfl,W,st,hfp,by rw[ah,hlen];exact hn,CmpOf.ints_lt (λi=>ns.getD i 0) (λi v hP=>Zby hv (by simpa using hP)),λv h' tk hP hk=>⟨_,H,back h' tk hk,?_,q⟩⟩
 rw[ah,hlen]at hP;exact Zby hv (by simpa using hP)
def ZbF(g:List Int->Option Int):W3:=λds M=>match ds with
 |[x]=>(match Zeq M x with|some xs=>(match x with|.con _=>.bad|.tup _=>.bad|_=>(match Zbf xs with|some ns=>(match g ns with|some i=>.ok (.int i) M|none=>.bad)|none=>.bad))|none=>.bad)
 |_=>.bad
theorem ZhD(hg:∀ns i,g ns=some i->gV ns=some (.int i)):CO X ξ (Zgs X gV) (ZbF g):=by
 intro H α M vs ds Q h rs q;unfold ZbF at q;cases rs with
 |nil=>exact q.elim
 |@cons _ x _ _ r tz=>
  cases tz with
  |cons _ _=>exact q.elim
  |nil=>
   have fin:∀(p:Addr)(xs:List V)(ys:List D),SqL X.K H p xs->Reps X.K H α xs ys->OP X.K H α ξ Q (match Zbf ys with|some ns=>(match g ns with|some i=>.ok (.int i) M|none=>.bad)|none=>.bad)->Zgs X gV [.ref p] H Q:=λp xs ys k1 k2 q=>by
    cases e1:Zbf ys with
    |none=>rw[e1]at q;exact q.elim
    |some ns=>
     cases e2:g ns with
     |none=>simp only[e1,e2]at q;exact q.elim
     |some i=>
      simp only[e1,e2]at q
      have:=ZjN k2 e1
      subst this;exact⟨p,ns,.int i,rfl,k1,hg _ _ e2,q _ H α Ext.refl h (.int i)⟩
   cases r with
   |@rol p xs ds hp rp=>exact fin p xs ds hp.sq rp q
   |@ref p n hp=>
    cases em:M[n]? with
    |none=>simp only[Zeq,em]at q;exact q.elim
    |some so=>
     cases so with
     |lst es=>
      simp only[Zeq,em]at q;obtain⟨xs,g1,g2⟩:=h.at hp em;exact fin p xs es (SqL.of g1) g2 q
   |tup _ _=>exact q.elim
   |con _ _=>exact q.elim
   |_=>exact q.elim
theorem Zcl:CO X ξ (Zgs X Zrv) (ZbF kj):=ZhD λns i e=>by unfold Zrv;rw[e];rfl
theorem ZhE:CO X ξ (Zgs X Zrw) (ZbF List.min?):=ZhD λns i e=>by unfold Zrw;rw[e];rfl
end DL
namespace DL
open PyProof.Rows L2
end DL
namespace DL
open PyProof.Rows L2
noncomputable def kK:D->Option Key
 |.int i=>some (.inl i)
 |.str x=>some (.inr x)
 |_=>none
def kKs:List D->Option (List Key)
 |[]=>some []
 |d::r=>match kK d,kKs r with|some k,some ks=>some (k::ks)|_,_=>none
def kT:D->Option (List Key)
 |.tup ds=>kKs ds
 |_=>none
theorem Zo7(h:kK d=some k):d=ZkK k:=by
 cases d<;>first|(cases h;rfl)|cases h
theorem Zmq(k:Key):kK (ZkK k)=some k:=by cases k<;>rfl
theorem ZhF:∀{ds:List D}{ks:List Key},kKs ds=some ks->ds=ks.map ZkK
 |[],ks,h=>by cases h;rfl
 |d::r,ks,h=>by
  unfold kKs at h
  split at h
  .rename_i k ks' e1 e2;cases h;rw[aV,<-Zo7 e1,<-ZhF e2]
  .cases h
theorem ZfI:∀(ks:List Key),kKs (ks.map ZkK)=some ks
 |[]=>rfl
 |k::ks=>by rw[aV,kKs,Zmq,ZfI ks]
theorem Zo8(h:kT d=some ks):d=Zc5 ks:=by
 cases d with
 |tup ds=>rw[Zc5,<-ZhF h]
 |_=>cases h
theorem ZjQ(ks:List Key):kT (Zc5 ks)=some ks:=ZfI ks
section
variable {κ:Type}[DecidableEq κ]
noncomputable def ZjR(dec:D->Option κ)(k:κ):List D->Option D
 |[]=>none
 |.tup [a,v]::r=>if dec a=some k then some v else ZjR dec k r
 |_::r=>ZjR dec k r
noncomputable def Zmr(dec:D->Option κ)(k:κ)(v:D)(ds:List D):List D:=ds.map λe=>match e with|.tup [a,w]=>if dec a=some k then .tup [a,v]else e|e=>e
def ZnO(dec:D->Option κ)(k:κ)(kd v:D)(ds:List D):List D:=if(ZjR dec k ds).isSome then Zmr dec k v ds else ds++[.tup [kd,v]]
variable {K:Fg}{H H':Hp}{α α':List Addr}{key:κ->D}{dec:D->Option κ}
theorem ZhG:ZaW K H α key [] []:=⟨[],rfl,.nil⟩
theorem Zd4(hd:∀k,dec (key k)=some k):∀{kvs:List (κ×V)} {es:List D} (k:κ),Reps K H α (kvs.map (·.2)) es->
  match ZjR dec k (bY (λkv e=>D.tup [key kv.1,e]) kvs es)with|none=>Zjc kvs k=none|some d=>∃v,Zjc kvs k=some v/\Rep K H α v d
 |[],es,k,h=>by cases h;rfl
 | (k',v)::kvs,_,k,.cons r t=>by
  simp only[iB,ZjR,hd,am];by_cases c:k'=k
  .rw[if_pos c];exact⟨v,Zfp (p:=(k',v)) c,r⟩
  .rw[if_neg c]
   have:=Zd4 hd k t
   have e:Zjc ((k',v)::kvs) k=Zjc kvs k:=Zfq (p:=(k',v)) c;rw[e];exact this
theorem Zd5(hd:∀k,dec (key k)=some k){w:V}{d:D}(rw':Rep K H α w d):∀{kvs:List (κ×V)} {es:List D} (k:κ),Reps K H α (kvs.map (·.2)) es->
  ∃es',Zmr dec k d (bY (λkv e=>D.tup [key kv.1,e]) kvs es)=bY (λkv e=>D.tup [key kv.1,e]) (kvs.map λkv=>if kv.1=k then(kv.1,w)else kv) es'/\Reps K H α ((kvs.map λkv=>if kv.1=k then(kv.1,w)else kv).map (·.2)) es'
 |[],es,k,h=>by cases h;exact⟨[],rfl,.nil⟩
 | (k',v)::kvs,_,k,.cons (d:=dv) (ds:=es) r t=>by
  obtain⟨es',h1,h2⟩:=Zd5 hd rw' k t;unfold Zmr at h1;by_cases c:k'=k
  .refine⟨d::es',?_,?_⟩
   .simp only[Zmr,iB,aV,hd,am,if_pos c,h1]
   .simp only[aV,if_pos c];exact .cons rw' h2
  .refine⟨dv::es',?_,?_⟩
   .simp only[Zmr,iB,aV,hd,am,if_neg c,h1]
   .simp only[aV,if_neg c];exact .cons r h2
theorem ZfJ{α' β γ:Type}{f:α'->β->γ}{x:α'}{y:β}:∀{xs:List α'}{ys:List β},xs.length=ys.length->bY f (xs++[x]) (ys++[y])=bY f xs ys++[f x y]
 |[],[],_=>rfl
 |a::xs,b::ys,h=>by simp[ZfJ (xs:=xs) (ys:=ys) (by simpa using h)]
theorem ZhH(hd:∀k,dec (key k)=some k){kvs:List (κ×V)}{ds:List D}{w:V}{d:D}(k:κ)(h:ZaW K H α key kvs ds)(r:Rep K H α w d):ZaW K H α key (Zjd kvs k w) (ZnO dec k (key k) d ds):=by
 obtain⟨es,rfl,hr⟩:=h;have pv:=Zd4 hd k hr;have an:=Zfr k kvs;unfold Zjd ZnO;cases e:ZjR dec k (bY (λkv e=>D.tup [key kv.1,e]) kvs es)with
 |none=>
  rw[e]at pv;rw[if_neg (by rw[an,pv];simp),if_neg (by simp)]
  refine⟨es++[d],?_,?_⟩
  .rw[ZfJ (by rw[<-hr.length,au])]
  .rw[c6];exact hr.append (.cons r .nil)
 |some x=>
  rw[e]at pv;obtain⟨v,hv,_⟩:=pv;rw[if_pos (by rw[an,hv];rfl),if_pos (show(some x).isSome=true from rfl)]
  exact Zd5 hd r k hr
theorem ZhI{kvs:List (κ×V)}{ds:List D}(h:ZaW K H α key kvs ds):kvs.length=ds.length:=by
 obtain⟨es,rfl,hr⟩:=h
 have:=hr.length
 rw[au]at this;simp[this]
theorem Zgt{kvs:List (κ×V)}{ds:List D}(h:ZaW K H α key kvs ds)(e:Ext K H H' α α'):ZaW K H' α' key kvs ds:=by
 obtain⟨es,h1,h2⟩:=h;exact⟨es,h1,Reps.mono e h2⟩
end
end DL
namespace DL
open PyProof.Rows L2
theorem ZeG:bK "reversed"=some (.type "reversed"):=by decide +kernel
end DL
namespace DL
open PyProof.Rows L2
section
variable {e2:Expr}
def eFm(f:Ev):Ev:=λρ M=>(f ρ M).bind λx M1=>match x with
 |.int i=>if i.natAbs.log2<1900 then .ok (.str (bG (toString i))) M1 else .bad
 |.str y=>if y.length<=100000 then .ok (.str y) M1 else .bad
 |_=>.bad
theorem Zms(ha:DE X ξ e f):DE X ξ (.FormattedValue e (-1) none pos) (eFm f):=by
 obtain⟨ta,pa,qa⟩:=ha;refine⟨λσ H Q=>ta σ H λx H1=>(∃i,x=.int i/\i.natAbs.log2<1900/\Q (.str (bG (toString i))) H1)\/∃y,x=.str y/\y.length<=100000/\Q (.str y) H1,λpins s σ H Q I h=>?_,λσ ρ H α M Q s h q=>?_⟩
 .refine wpAny_FormattedValue_plain (wpAny_mono (pa pins s σ H _ I h) (λv s1 hz=>?_) λ_ _ z=>z);obtain⟨x,H1,I1,r1,q1⟩:=hz;rcases q1 with⟨i,rfl,hi,q⟩|⟨y,rfl,hy,q⟩
  .obtain⟨t,rfl⟩:=r1;exact wpAny_formatField_int ⋯ ⟨.str (bG (toString i)),H1,I1.tok _,⟨_,rfl⟩,q⟩
  .obtain⟨t,rfl⟩:=r1;exact wpAny_formatField_str ⟨.str y,H1,I1,⟨_,rfl⟩,q⟩ ⟨.str y,H1,I1.tok _,⟨_,rfl⟩,q⟩ (aM hy (by rw[dL];decide))
 .refine qa σ ρ H α M _ s h (OG.seq q λx M1 v H1 α1 e1 h1 r1 q1=>?_);cases r1 with
  |int i=>
   by_cases hi:i.natAbs.log2<1900
   .simp only[hi,if_true]at q1;exact .inl ⟨i,rfl,hi,q1 _ H1 α1 Ext.refl h1 (.str _)⟩
   .simp only[hi,if_false]at q1;exact q1.elim
  |str y=>
   by_cases hi:y.length<=100000
   .simp only[hi,if_true]at q1;exact .inr ⟨y,rfl,hi,q1 _ H1 α1 Ext.refl h1 (.str _)⟩
   .simp only[hi,if_false]at q1;exact q1.elim
  |_=>exact q1.elim
abbrev Jv:=Str->Ro->Sto->Out Str
def PJ(X:Cx)(es:List Expr)(t:L2.St->Hp->Str->(Str->Hp->Prop)->Prop):Prop:=
 ∀(pins:Pn)(s:aB)(σ:L2.St)(H:Hp)(acc:Str)(Q:Str->Hp->Prop),Inv X pins σ H s->t σ H acc Q->Joins (ao X.prog X.w) X.A X.xe (evalEach es X.env) acc (λout s1=>out.length<=100000/\∃H',Inv X pins σ H' s1/\Q out H') s
def DJ(X:Cx)(ξ:XK)(es:List Expr)(g:Jv):Prop:=∃t,PJ X es t/\∀σ ρ H α M acc (Q:Str->Hp->Prop),SR X.K H α σ ρ->HR X.K H α M->OG X.K (λ_ _ v d=>v=d) H α ξ Q (g acc ρ M)->t σ H acc Q
noncomputable def jNil:Jv:=λacc _ M=>if acc.length<=100000 then .ok acc M else .bad
def Zdb(f:Ev)(g:Jv):Jv:=λacc ρ M=>(f ρ M).bind λx M1=>match x with
 |.str y=>if(acc++y).length<=100000 then g (acc++y) ρ M1 else .bad
 |_=>.bad
def eFs(g:Jv):Ev:=λρ M=>(g ni ρ M).bind λx M1=>.ok (.str x) M1
theorem Zk2:DJ X ξ [] jNil:=by
 refine⟨λσ H acc Q=>acc.length<=100000/\Q acc H,λpins s σ H acc Q I h=>⟨h.1,H,I,h.2⟩,λσ ρ H α M acc Q s h q=>?_⟩;unfold jNil at q;by_cases hl:acc.length<=100000
 .rw[if_pos hl]at q;exact⟨hl,q acc H α Ext.refl h rfl⟩
 .rw[if_neg hl]at q;exact q.elim
theorem Za2(ha:DE X ξ e f)(hr:DJ X ξ es g):DJ X ξ (e::es) (Zdb f g):=by
 obtain⟨ta,pa,qa⟩:=ha;obtain⟨tr,pr',qr⟩:=hr;refine⟨λσ H acc Q=>ta σ H λx H1=>∃y,x=.str y/\(acc++y).length<=100000/\tr σ H1 (acc++y) Q,λpins s σ H acc Q I h=>?_,λσ ρ H α M acc Q s h q=>?_⟩
 .show wpAny _ _ (eval e X.env) _ _ s;refine wpAny_mono (pa pins s σ H _ I h) (λv s1 hz=>?_) λ_ _ z=>z;obtain⟨x,H1,I1,r1,q1⟩:=hz;obtain⟨y,rfl,hy,q⟩:=q1;obtain⟨t,rfl⟩:=r1;exact⟨y,t,rfl,aM hy (by rw[dL];decide),pr' pins s1 σ H1 (acc++y) Q I1 q⟩
 .refine qa σ ρ H α M _ s h (OG.seq q λx M1 v H1 α1 e1 h1 r1 q1=>?_);cases r1 with
  |str y=>
   by_cases hi:(acc++y).length<=100000
   .simp only[hi,if_true]at q1;exact⟨y,rfl,hi,qr σ ρ H1 α1 M1 (acc++y) Q (s.mono e1) h1 q1⟩
   .simp only[hi,if_false]at q1;exact q1.elim
  |_=>exact q1.elim
theorem Zo9(h:DJ X ξ (e1::e2::es) g):DE X ξ (.JoinedStr (e1::e2::es) pos) (eFs g):=by
 obtain⟨t,pj,qj⟩:=h;refine⟨λσ H Q=>t σ H ni λx H1=>Q (.str x) H1,λpins s σ H Q I h=>?_,λσ ρ H α M Q s h q=>?_⟩
 .refine wpAny_JoinedStr ?_
  have:=pj pins s σ H ni _ I h
  have mono:∀(ms:List (Sem aa)) (acc:Str) (P R:Str->aB->Prop) (s:aB),(∀o s,P o s->R o s)->Joins (ao X.prog X.w) X.A X.xe ms acc P s->Joins (ao X.prog X.w) X.A X.xe ms acc R s:=by
   intro ms
   induction ms with
   |nil=>intro acc P R s hp hj;exact hp _ _ hj
   |cons m r ih=>
    intro acc P R s hp hj;exact wpAny_mono hj (λv s1 ⟨y,t,e,l,k⟩=>⟨y,t,e,l,ih _ P R s1 hp k⟩) λ_ _ z=>z
  refine mono _ _ _ _ s (λo s1 hz=>?_) this;obtain⟨hl,H',I',q⟩:=hz;exact⟨aM hl (by rw[dL];decide),.str o,H',I'.tok _,⟨_,rfl⟩,q⟩
 .refine qj σ ρ H α M ni _ s h (OG.seq q λx M1 v H1 α1 e1 h1 r1 q1=>?_);cases r1;exact q1 _ H1 α1 Ext.refl h1 (.str x)
end
end DL
namespace DL
open PyProof.Rows L2
theorem Zgu{o:Out β}{f:β->Sto->Out γ}{g:γ->Sto->Fl}:Zao (o.bind f) g=Zao o λx M=>Zao (f x M) g:=by cases o<;>rfl
theorem Zcm(iv:Nat)(hN:X.N.Nodup)(B:Blk X scope cl N k fr)(hi:DI X ξ tg iter fi)(h:Blk X scope cl N k fr->∀C fp s H,DG (blk X scope cl N C fp s H) tg gt/\DC (blk X scope cl N C fp s H) ifs c/\DE (blk X scope cl N C fp s H) E0 elt f)(hiv:autoParam (X.N[iv]?=some x) Qrf._auto_1)(hxl:Loc X.env.scope x:=by first|exact dM rfl|exact kJ rfl)(hm:autoParam (X.may iv=true) Qrf._auto_1)(hsw:autoParam (ji (.ListComp elt [⟨tg,iter,ifs,0⟩] scope pos) (some (.Name x pos')) spos.line X.env=pure true) Qrf._auto_1)(hf:X.fn x=true\/X.env.scope.names.lookup x=some .local:=by first|exact .inl rfl|exact .inr rfl|assumption)(hs:autoParam (∀x,foldedSetIterable iter X.env x=pure x) Qin._auto_1):DS X ξ (.Assign [.Name x pos'] (.ListComp elt [⟨tg,iter,ifs,0⟩] scope pos) spos) (ZM (gNm iv) (Zaj fi k fr gt c f)):=by
 rw[ZfF];obtain⟨wi,pi,qi⟩:=hi;refine⟨λDn σ H=>∃ρ α M,SR X.K H α σ ρ/\HR X.K H α M/\FP X.K H α ξ Dn (ZM (gNm iv) (Za0 fi k fr gt c (gEm f)) ρ M),?_,λσ ρ H α M Dn s h q=>⟨ρ,α,M,s,h,q⟩⟩;rintro pins s σ H Dn I ⟨ρ,α,M,sr,hr,op⟩;rw[exec_Assign_Name_used _ _ _ _ hsw];refine Wb (wpAny_standAt (Wb ?_));show wpAny _ X.A (do let _ <-comprehension (.ListComp elt [⟨tg,iter,ifs,0⟩] scope pos) scope X.env _ (newList []) false (eval iter X.env) (some (assign (.Name x pos') X.env))) _ _ s
 unfold ZM Za0 at op;rw[Zgu]at op;refine Wb (wpAny_mono (ZfD (P:=λ_ s'=>SP X pins Dn .next s') (g:=gEm f) B pi (λC fp s H=>(h B C fp s H).1) (λC fp s H=>(h B C fp s H).2.1) (ZfC elt tg iter ifs scope pos) (λC fp s H D n0 it=>Zck (λ_ _ z=>z) (h B C fp s H).2.2) hs sr I (qi σ ρ H α M _ sr hr (FP.seq op λsrc M1 J H1 α1 e1 h1 r1 q1=>?_))) (λ_ s' hq=>Wp (Wp hq)) λ_ _ e=>e)
 cases er:Zb5 src gt c (gEm f M1.length) (cnt src M1) 0 (roB k fr ρ) (M1++[.lst []])with
 |ok u9 M9=>
  rw[er]at q1;refine⟨α1,M1,src,u9,M9,e1,h1,r1,er,λD C H5 α5 s6 m6 ex5 hr5 aD I7 hm6 nl nc tu=>?_⟩;refine wpAny_assign_Name (Zdw (v:=.ref D) I7 hN hiv hxl hm rfl (λs8 I8 hz=>?_) hf);obtain⟨a,sb8,ha⟩:=hz;have nca:C≠a:=by
   rcases ha with e|e
   .rw[e];exact nl
   .intro z;exact nc x (z▸e)
  exact⟨m6,hm6.sameBut sb8 nca,λh' sb=>⟨_,H5,tu _ s8 h' I8 (λb o hb e=>(sb.2 b hb).trans e),q1 _ H5 α5 ex5 hr5 (((sr.mono e1).mono ex5).set iv (.ref aD))⟩⟩
 |_=>rw[er]at q1;exact q1.elim
end DL
namespace DQ
open PyProof.Rows
end DQ
namespace DL
open PyProof.Rows L2
end DL
namespace DL
open PyProof.Rows L2
end DL
namespace DL
open L2
open PySem.W
theorem Zgv:typeLookup (.type "list_reverseiterator") "__len__"=pure none:=by rw[typeLookup_type,lw];kernel_rfl
theorem ZjS:typeLookup (.type "list_reverseiterator") "__length_hint__"=pure (some (.builtin "list_reverseiterator.__length_hint__")):=by rw[typeLookup_type,lw];kernel_rfl
theorem Zmt:isSubtype (.type "list_reverseiterator") (.type "list_reverseiterator")=pure true:=by rw[isSubtype_type];kernel_rfl
theorem ZhJ:splitId "list_reverseiterator.__length_hint__"=some ("list_reverseiterator","__length_hint__"):=by decide +kernel
theorem ZjT(hT:s.TypeIs (.ref I) "list_reverseiterator")(h:Q false s):wpAny (ao prog w) A (jf (.ref I)) Q E s:=by
 unfold jf;refine Wb (fR hT Zgv ?_);show wpAny _ A (specialOf (aU I) (bG "__length_hint__") >>= _) _ _ _;refine Wb (fR hT ZjS ?_);simp only[ZhJ];refine Wb (gJ hT Zmt ?_);exact Wp h
section
variable {s:aB}
variable {St:Nat->aB->Prop}
theorem Zgw(W:WalksS prog w A.in1 I fp wr G n P St)(hT:∀i s,St i s->s.TypeIs (.ref I) "list_reverseiterator")(S:Addr)(res:aa)(c₀:Nat)(hst:St 0 s)(hSf:S∉fp)(hI:I∈fp)(hS:s.heap.get? S=some {cls:=.type "list",data:=.seq #[] c₀})(hR:∀s' acc' c',Moved (S::wr) G s s'->s'.heap.get? S=some {cls:=.type "list",dict:=none,data:=.seq acc' c',slots:= #[]}->nK P acc' n->R (.ok (.ret res)) s')(hn:n<=sizeLine):wpAny (ao prog w) A.in1 (d9 (.ref S) (.ref I) res) (λfin s'=>match fin with|.done f=>R (.ok f) s'|.again c'=>c'.quiet=true/\fN (ao prog w) A c' R s') (λe s'=>R (.error e) s') s:=by
 have hSI:S≠I:=λe=>hSf (e▸hI);unfold d9;refine Wb (mO (hT 0 _ hst) ?_);have h1:j5 (.ref S) (.ref I)=false:=by simp[j5,hSI]
 have h2:(bB "list_reverseiterator"==bB "list")=false:=by decide
 have h3:(bB "list_reverseiterator"==bB "tuple")=false:=by decide
 simp only[h1,h2,h3,Bool.or_false,a8,if_false];refine Wb (W.self 0 _ _ _ hst ?_);refine Wb (wpAny_holding ?_);refine ZjT (hT 0 _ hst) ?_;refine Wp ⟨plainId_quiet F.plain_extend_loop _,codeAny_extend_loopS W hn _ hSf _ n 0 _ _ _ rfl (cI _) hst hS (nK.nil P) λs' acc' c' hm hS' hacc=>?_⟩;exact hR s' acc' c' hm hS' hacc
theorem Zdc(W:WalksS prog w A.in1 I fp wr G n P St)(hT:∀i s,St i s->s.TypeIs (.ref I) "list_reverseiterator")(S:Addr)(hst:St 0 s)(hSf:S∉fp)(hI:I∈fp)(hS:s.heap.get? S=some {cls:=.type "list",data:=.seq #[]})(hR:∀s' acc' c',Moved (S::wr) G s s'->s'.heap.get? S=some {cls:=.type "list",dict:=none,data:=.seq acc' c',slots:= #[]}->nK P acc' n->R (.ok (.ret .none)) s')(hn:n<=sizeLine):wpAny (ao prog w) A.in1 (eS.«list.__init__» ⟨[.ref S,.ref I],[]⟩) (λfin s'=>match fin with|.done f=>R (.ok f) s'|.again c'=>c'.quiet=true/\fN (ao prog w) A c' R s') (λe s'=>R (.error e) s') s:=by
 show wpAny _ A.in1 (do let old <-ez (.ref S);eS.List.listUpdate (.ref S) (λ_=> #[]);letGo old.toList.reverse;d9 (.ref S) (.ref I) .none) _ _ s
 refine Wb ?_;unfold ez;refine Wb (wpAny_seqItems hS rfl (Wp ?_));show wpAny _ A.in1 (updateSeq S (λ_=> #[]) >>= λ_=>letGo (#[]:Array aa).toList.reverse >>= λ_=>d9 (.ref S) (.ref I) .none) _ _ s;refine Wb (wpAny_updateSeq hS rfl ?_);have hS₂:=dC (bC (λ_=>(#[]:Array aa))) hS rfl;have oth:∀b o,b≠S->s.heap.get? b=some o->(s.heap.update S (bC (λ_=>(#[]:Array aa)))).get? b=some o:=
  λb o hb e=>(aS _ _ (cC hb)).trans e
 refine Wb (wpAny_letGo ?_);refine Zgw W hT S .none _ (W.frame 0 s _ s.toks hst (af _) λb hb o e=>oth b o (λh=>hSf (h▸hb)) e) hSf hI hS₂ (λs' acc' c' hm hS' hacc=>?_) hn;exact hR s' acc' c' (Moved.trans W.gtrans ((Moved.refl W.grefl).then_heap (af _) λb o hb e=>oth b o (λh=>hb (h▸bQ)) e) hm) hS' hacc
end
section
variable {s:aB}
variable {St:Nat->aB->Prop}
theorem Zdd(W:WalksS prog w A.in1.in1 I fp wr G n P St)(hT:∀i s,St i s->s.TypeIs (.ref I) "list_reverseiterator")(hst:St 0 s)(hfp:∀b∈fp,b<s.heap.objs.size)(hI:I∈fp)(hQ:∀s' acc' c',Moved (s.heap.objs.size::wr) G {s with heap:=s.heap.push {cls:=.type "list",data:=.seq #[]}} s'->s'.heap.get? s.heap.objs.size=some {cls:=.type "list",dict:=none,data:=.seq acc' c',slots:= #[]}->nK P acc' n->Q (.ref s.heap.objs.size) s')(hn:n<=sizeLine):wpAny (ao prog w) A (call (.type "list") [.ref I]) Q E s:=by
 have hSf:s.heap.objs.size∉fp:=λhm=>bV _ (hfp _ hm);refine callType_codes (Q₁:=λobj s₁=>obj=.ref s.heap.objs.size/\s₁={s with heap:=s.heap.push {cls:=.type "list",data:=.seq #[]}}) F.called_list (F.typeCall_list_1 _) F.entry_list_init
  (code_list_new _ ⟨rfl,rfl⟩) λobj s₁ h₁=>?_
 obtain⟨rfl,rfl⟩:=h₁;have hS:(s.heap.push {cls:=.type "list",data:=.seq #[]}).get? s.heap.objs.size=some {cls:=.type "list",data:=.seq #[]}:=aL _ rfl;refine⟨⟨_,hS,rfl⟩,F.args_list_init_2 _ _,Zdc W hT _ (W.frame 0 s _ s.toks hst (af _) λb _ o e=>Hq _ e) hSf hI hS (λs' acc' c' hm hS' hacc=>?_) hn⟩;exact⟨rfl,hQ s' acc' c' hm hS' hacc⟩
end
def tLR(K:Fg)(t:TA):TE:=λσ H Q=>t σ H λvs H1=>∃l xs,vs=[.ref l]/\SqL K H1 l xs/\∀p,H1 p=none->Q (.ref p) (upd H1 p (.lst xs.reverse))
theorem ZhK{its:List aa}(h:nK (λi v=>its.toArray[its.toArray.size-1-i]?=some v) acc its.toArray.size):acc=its.reverse.toArray:=by
 obtain⟨hz,hv⟩:=h;apply Array.ext';apply fk;intro i;rw[mq];by_cases hi:i<acc.size
 .have e:acc.toList[i]?=some acc[i]:=by rw[bn];exact cR hi
  have:=hv i _ (cR hi)
  rw[e,<-this,gf,ah,ly (by rw[hz,ah]at hi;exact hi)]
 .rw[aZ (by rw[bw];lia),aZ (by rw[hz,ah]at hi;rw[d7];lia)]
theorem Zr5(hc:X.A.handled=none)(hgl:Gl X "list")(hml:X.mg "list"=none)(hg:Gl X "reversed")(hm:X.mg "reversed"=none)(ha:PA X [a] ta)(hs:autoParam (av [a] X.env=(false,eval a X.env)::av [] X.env) Qrf._auto_1)(hpl:autoParam ((cT p3 (av [] X.env)).any (·.1)=false) Qrf._auto_1)(hs1:autoParam (av [.Call (.Name "reversed" p2) [a] [] p3] X.env=(false,eval (.Call (.Name "reversed" p2) [a] [] p3) X.env)::av [] X.env) Qrf._auto_1)(hpl1:autoParam ((cT pos (av [] X.env)).any (·.1)=false) Qrf._auto_1):
  PE X (.Call (.Name "list" p1) [.Call (.Name "reversed" p2) [a] [] p3] [] pos) (tLR X.K ta):=by
 intro pins s σ H Q I h;refine wpAny_Call_Name_kw (Zbg I hgl hml ZeB (bW ?_ hs1 hpl1) (by decide) (by decide))
 rw[hs1];show wpAny _ _ (spliced ((false,eval (.Call (.Name "reversed" p2) [a] [] p3) X.env)::cT pos (av [] X.env))) _ _ s;refine Calls.spliced_cons ?_;refine wpAny_Call_Name_kw (Zbg I hg hm ZeG (bW (thn (ha p3 pins s σ H _ I h) λus s1 hz=>?_) hs hpl) (by decide) (by decide))
 obtain⟨vs,H1,I1,r1,q1⟩:=hz;obtain⟨l,xs,rfl,hq,q⟩:=q1;obtain⟨u,rfl,ru⟩:=ZbW r1;cases ru;obtain⟨its,rv,pl,hz⟩:=I1.list hq;have hll:l<s1.heap.objs.size:=by
  obtain⟨o,ho,_⟩:=pl.isList;exact Hz ho
 refine call_reversed_list pl.isList (Calls.spliced_nil ?_);have W:=(PySem.Walks.listRev (prog:=X.prog) (w:=X.w) (A:=X.A.in1.in1) hc s1.heap.objs.size l (aE hll) its.toArray).toS;have hsz:its.toArray.size<=sizeLine:=by rw[ah,<-rv.length];exact hz
 refine Zdd W (λi s x=>x.2.1.typeIs) ⟨cI _,⟨_,aL _ rfl,rfl,?_⟩,?_⟩ ?_ (by simp) (λs' acc c hmv hS hit=>?_) hsz
 .show lF #[.ref l,eN ((its.toArray.size:Int)-1)]=_;rw[show(its.toArray.size:Int)-1-((0:Nat):Int)=(its.toArray.size:Int)-1 by lia]
 .exact pl.isList.at λo e=>Hq _ e
 .intro b hb
  have:b=s1.heap.objs.size\/b=l:=by simpa using hb
  have hz2:(s1.heap.push (revObj l ((its.toArray.size:Int)-1))).objs.size=s1.heap.objs.size+1:=by simp[m8.push]
  show b<(s1.heap.push (revObj l ((its.toArray.size:Int)-1))).objs.size;rw[hz2];rcases this with rfl|rfl
  .exact dF _
  .exact gp hll
 .have ea:=ZhK hit;subst ea;have hz2:(s1.heap.push (revObj l ((its.toArray.size:Int)-1))).objs.size=s1.heap.objs.size+1:=by simp[m8.push]
  have K:∀b u,s1.heap.get? b=some u->s'.heap.get? b=some u:=by
   intro b u hb;have hlt:=Hz hb;refine hmv.heap b u ?_ (Hq _ (Hq _ hb));intro hmem
   have:b=s1.heap.objs.size+1\/b=s1.heap.objs.size:=by
    simp only[az,cN,or_false]at hmem;rcases hmem with e|e
    .exact .inl (e.trans hz2)
    .exact .inr e
   rcases this with e|e
   .exact absurd (e▸hlt) (Nat.not_lt.mpr (iQ _))
   .exact absurd (e▸hlt) (bV _)
  have es:s'={s1 with heap:=s'.heap,toks:=s'.toks}:=by
   obtain⟨h1,g1,d1,t1,o1⟩:=s1;obtain⟨h2,g2,d2,t2,o2⟩:=s';have e1:g2=g1:=hmv.gens;have e2:d2=d1:=hmv.drawn;have e3:o2=o1:=hmv.os;subst e1 e2 e3;rfl
  have hS':s'.heap.get? (s1.heap.objs.size+1)=some {cls:=.type "list",dict:=none,data:=.seq its.reverse.toArray c,slots:= #[]}:=by
   rw[<-hz2];exact hS
  show EP X pins σ Q (.ref (s1.heap.push (revObj l ((its.toArray.size:Int)-1))).objs.size) s';rw[hz2,es];refine⟨.ref _,_,I1.laid (t':=s'.toks) (o:=.lst xs.reverse) K (iQ _) ?_,rfl,q _ (I1.hok.fresh (iQ _))⟩;exact⟨by rw[d7];exact hz,its.reverse,c,rv.reverse,hS'⟩
noncomputable def bLR:W3:=λds M1=>match ds with
 |[.ref n]=>(match M1[n]? with|some (.lst xs)=>.ok (.ref M1.length) (M1++[.lst xs.reverse])|none=>.bad)
 |[.rol xs]=>.ok (.ref M1.length) (M1++[.lst xs.reverse])
 |_=>.bad
theorem Zr6(hc:X.A.handled=none)(hml:X.mg "list"=none)(hm:X.mg "reversed"=none)(ha:DA X ξ [a] fs)(hgl:autoParam (Gl X "list") Qrf._auto_1)(hg:autoParam (Gl X "reversed") Qrf._auto_1)(hs:autoParam (av [a] X.env=(false,eval a X.env)::av [] X.env) Qrf._auto_1)(hpl:autoParam ((cT p3 (av [] X.env)).any (·.1)=false) Qrf._auto_1)(hs1:autoParam (av [.Call (.Name "reversed" p2) [a] [] p3] X.env=(false,eval (.Call (.Name "reversed" p2) [a] [] p3) X.env)::av [] X.env) Qrf._auto_1)(hpl1:autoParam ((cT pos (av [] X.env)).any (·.1)=false) Qrf._auto_1):
  DE X ξ (.Call (.Name "list" p1) [.Call (.Name "reversed" p2) [a] [] p3] [] pos) (Zj bLR fs):=by
 obtain⟨ta,pa,qa⟩:=ha;refine⟨_,Zr5 hc hgl hml hg hm pa hs hpl hs1 hpl1,λσ ρ H α M Q s hh w=>qa σ ρ H α M _ s hh (OG.seq w λds M1 vs H1 α1 e1 h1 r1 w1=>?_)⟩;cases r1 with
 |nil=>exact w1.elim
 |cons r tz=>
  cases tz with
  |cons _ _=>cases r<;>exact w1.elim
  |nil=>
   cases r with
   |@rol a xs ds hp rp=>
    have w2:OP X.K H1 α1 ξ Q (.ok (.ref M1.length) (M1++[.lst ds.reverse])):=w1;exact⟨a,xs,rfl,hp.sq,λl hl=>w2 _ _ (α1++[l]) (Ext.new hl) (h1.new hl rp.rev) (.ref ⟨h1.last l,Kn.lst Zx⟩)⟩
   |@ref a n hp=>
    cases em:M1[n]? with
    |none=>simp only[bLR,em]at w1;exact w1.elim
    |some so=>
     cases so with
     |lst es=>
      simp only[bLR,em]at w1;obtain⟨xs,g1,g2⟩:=h1.at hp em;exact⟨a,xs,rfl,SqL.of g1,λl hl=>w1 _ _ (α1++[l]) (Ext.new hl) (h1.new hl g2.rev) (.ref ⟨h1.last l,Kn.lst Zx⟩)⟩
   |_=>exact w1.elim
end DL
namespace DL3
open PyProof.Rows L2 DL
open PySem.Sem (wp)
end DL3
namespace DL4
open PyProof.Rows L2 DL
open PySem.Sem (wp)
end DL4
namespace DLy2
open PyProof.Rows L2 DL
open PySem.Sem (wp)
end DLy2
namespace PySem.SeqAt
open PySem.AutoSeq1 (wpAny_loadPart')
open MeetsSeq MeetsSeq2 MeetsSeq3 SeqRoads2
end PySem.SeqAt
namespace DL
open PyProof.Rows L2
open PySem.SeqAt
noncomputable def ZeH:List D->Option (List Int)
 |[]=>some []
 |.int i::r=>match ZeH r with|some is=>some (i::is)|none=>none
 |_::_=>none
theorem ZhL{K:Fg}(h9:Reps K H α vs ds):ZeH ds=some a->vs=a.map V.int:=by
 induction ds generalizing vs a with
 |nil=>intro e;cases h9;cases e;rfl
 |cons d ds ih9=>
  intro e;cases h9 with
  |cons r t=>
   cases r with
   |int i=>
    unfold ZeH at e
    split at e
    .rename_i is e1;cases e;rw[ih9 t e1];rfl
    .cases e
   |_=>cases e
section
variable {H:Hp}{α:List Addr}
theorem ZhM:∀{xs:List V}{us:List aa}{j:Nat}{u:aa},ZQ xs us->us[j]?=some u->∃x,xs[j]?=some x/\ZS x u
 |[],us,j,u,h,e=>by cases h;simp at e
 |x::xs,us,j,u,h,e=>by
  cases h with
  |cons h1 h2=>
   cases j with
   |zero=>simp at e;subst e;exact⟨x,rfl,h1⟩
   |succ j=>simp at e;obtain⟨y,g1,g2⟩:=ZhM h2 e;exact⟨y,by simpa using g1,g2⟩
theorem ZhN{K:Fg}:∀{xs:List V}{ds:List D}{j:Nat}{x:V},Reps K H α xs ds->xs[j]?=some x->∃d,ds[j]?=some d/\Rep K H α x d
 |_,_,j,x,.nil,e=>by simp at e
 |_,_,0,x,.cons r _,e=>by simp at e;subst e;exact⟨_,rfl,r⟩
 |_,_,j+1,x,.cons _ t,e=>by
  obtain⟨d,g1,g2⟩:=ZhN (j:=j) t (by simpa using e)
  exact⟨d,by simpa using g1,g2⟩
end
end DL
namespace PySem
open PySem.Sem (wp)
end PySem
namespace DL
open PyProof.Rows L2
open PySem.SeqAt
end DL
namespace HT
open PyProof.Rows
section
open PySem.SeqAt
open PySem.AutoSeq1 (wpAny_loadPart')
open PySem.MeetsSeq PySem.MeetsSeq2 PySem.MeetsSeq3
end
end HT
namespace DL
open PyProof.Rows L2
end DL
namespace DL
open PyProof.Rows L2
end DL
namespace DL
open PyProof.Rows L2
end DL
namespace DL
open PyProof.Rows L2
theorem Zmu(nd:(d==ic)=false)(gd:s.heap.get? d=some od)(cd:od.cls=.type "dict")(ed:od.data=.dict es ep)(q:Q (.ref s.heap.objs.size) {s with heap:=s.heap.push {cls:=.type "dict_keyiterator",data:=.fields #[.ref d,.int 0 0,.int es.size 0,.int ep 0]}}):wpAny (ao prog w) A (pyIter (.ref d)) Q E s:=by
 have ty:s.TypeIs (.ref d) "dict":=⟨od,gd,cd⟩;have nm:¬(d==ic)=true:=by rw[nd];exact cH
 refine jU ty F.slot_dict_iter (dD F.slot_dict_iter ty F.entry_dict_iter ?_ (F.args_dict_iter_1 _));unfold eS.«dict.__iter__» eS.Dict.dictSlotNone;refine Wb (Wb (wpAny_notOrdered_dict ty (show wpAny (ao prog w) _ (pure (aU d)) _ _ s from Wp ?_)));show wpAny (ao prog w) _ (lA d >>= _) _ _ s;unfold lA;rw[if_neg nm];refine Wb (Wp (Wb (jV gd ed (Wb (k9 gd ed (Wb (cF (Wp ⟨_,rfl,"dict_keyiterator",_,⟨_,aL _ rfl,rfl⟩,F.slot_dict_keyiterator_next.lookup,?_⟩))))))))
 simpa [eN]using q
theorem ZhO:eS.Dict_items.ownsTuple "dict_keyiterator"=false:=by decide
theorem Zpa(hi:s.heap.IsKeyIter it d i es.size ep)(gd:s.heap.get? d=some od)(ed:od.data=.dict es ep)(he:es[i]?=some e)(q:∀h',h'.IsKeyIter it d (i+1) es.size ep->ir it s.heap h'->Q (some e.key) {s with heap:=h'}):wpAny (ao prog w) A (jl (.ref it)) Q E s:=by
 obtain⟨oi,gi,ci,di⟩:=id hi;obtain⟨lt,ee⟩:=dj.mp he;have sl:=F.slot_dict_keyiterator_next;have n1:¬((aU d==bO)=true):=cH;have n2:¬((i:Int)<0):=⋯
 unfold jl;refine Wb (j3 (il (name:=bG "__next__") hi.typeIs sl (dD sl hi.typeIs F.entry_dict_keyiterator_next ?_ (F.args_dict_keyiterator_next_1 _))));refine Wb (Wp (Wb (Wb ?_)))
 first|refine Wb (dO hi.typeIs (Wp (Wb (jD gi di ?_))))|refine Wb (fE hi.typeIs (Wp (Wb (jD gi di ?_))))
 simp only[ZhO,a8,if_false];show wpAny (ao prog w) _ (if(aU d==bO)=true then _ else _) _ _ s
 rw[if_neg n1];refine Wb (Wp (Wb (jV gd ed ?_)));rw[if_neg (by simp)]
 refine Wb (Wp (Wb (k9 gd ed ?_)));rw[if_neg (by simp)]
 refine Wp ?_;simp only[n2,if_false,gm,he];refine Wb ?_;have st:(s.heap.update it (eD (·.setIfInBounds 1 (eN ((i:Int)+1))))).IsKeyIter it d (i+1) es.size ep:=⟨_,dC _ gi (eU (eM di _)),(jN ..).trans ci,by rw[eM di];simp[eN]⟩
 first|refine Wb (dO hi.typeIs (Wp (Wb (iF hi.typeIs ?_))))|refine Wb (fE hi.typeIs (Wp (Wb (iF hi.typeIs ?_))))
 show wpAny (ao prog w) _ (setField (.ref it) 1 (eN ((i:Int)+1)) >>= _) _ _ s;refine Wb (eL gi di (by simp) (Wb (wpAny_holding (Wb (iF (s:={s with heap:=s.heap.update it (eD (·.setIfInBounds 1 (eN ((i:Int)+1))))}) st.typeIs ?_)))))
 show wpAny (ao prog w) _ (pure e.key) _ _ _;exact Wp (Wp ⟨_,rfl,Wp (q _ st (fJ ..))⟩)
theorem Zpb(qq:DQ.ZaJ A s.heap)(hi:s.heap.IsKeyIter it d i es.size ep)(gd:s.heap.get? d=some od)(ed:od.data=.dict es ep)(he:es[i]?=none):wpAny (ao prog w) A.in1 (eS.«dict_keyiterator.__next__» ⟨[.ref it],[]⟩) (λ_ _=>False) (DQ.Zff it s) s:=by
 obtain⟨oi,gi,ci,di⟩:=id hi;have n1:¬((aU d==bO)=true):=cH;have n2:¬((i:Int)<0):=⋯
 refine Wb (Wp (Wb (Wb ?_)))
 first|refine Wb (dO hi.typeIs (Wp (Wb (jD gi di ?_))))|refine Wb (fE hi.typeIs (Wp (Wb (jD gi di ?_))))
 simp only[ZhO,a8,if_false];show wpAny (ao prog w) _ (if(aU d==bO)=true then _ else _) _ _ s
 rw[if_neg n1];refine Wb (Wp (Wb (jV gd ed ?_)));rw[if_neg (by simp)]
 refine Wb (Wp (Wb (k9 gd ed ?_)));rw[if_neg (by simp)]
 refine Wp ?_;simp only[n2,if_false,gm,he];refine Wb ?_
 first|refine Wb (dO hi.typeIs (Wp ?_))|refine Wb (fE hi.typeIs (Wp ?_))
 show wpAny (ao prog w) _ (setField (.ref it) 0 .none >>= _) _ _ s;refine Wb (eL gi di (by simp) ?_)
 have q2:DQ.ZaJ A.in1 (s.heap.update it (eD (·.setIfInBounds 0 bO))):=by
  rcases qq with qq|⟨ea,oe,vs,e1,e2,e3,e4⟩
  .exact .inl qq
  .refine .inr ⟨ea,oe,vs,e1,?_,e3,e4⟩;rw[aS _ _ (λz=>?_)]
   .exact e2
   .rw[<-z,gi]at e2;cases e2;rw[di]at e3;cases e3;simp at e4
 refine DQ.Za9 q2 λh' e k ho=>⟨e,rfl,ho,h',λb o hb z=>k b o ?_,rfl⟩;rw[aS _ _ (cC hb)];exact z
theorem Zgx(qq:DQ.ZaJ A s.heap)(hi:s.heap.IsKeyIter it d i es.size ep)(gd:s.heap.get? d=some od)(ed:od.data=.dict es ep)(he:es[i]?=none)(q:∀h',iS it s.heap h'->Q none {s with heap:=h'}):wpAny (ao prog w) A (jl (.ref it)) Q E s:=
 DQ.Zfg hi.typeIs F.slot_dict_keyiterator_next F.entry_dict_keyiterator_next (F.args_dict_keyiterator_next_1 _) (Zpb qq hi gd ed he) q
end DL
namespace DL
open PyProof.Rows L2 PySem.W
theorem ZjU(lo:(d==ic)=false):KdlSrc prog w "dict" d d es.size (λi v=>∃e:lZ,es[i]?=some e/\v=e.key) (λh=>∃o,h.get? d=some o/\o.cls=.type "dict"/\o.data=.dict es ep) where
 type:=λ_ ⟨o,e,c,_⟩=>⟨o,e,c⟩
 there:=λ_ ⟨o,e,_⟩=>⟨Hz e,Hz e⟩
 keep:=λ_ _ ⟨o,e,r⟩ hk=>⟨o,hk d (.inl rfl) o e,r⟩
 notList:=by decide
 notTuple:=by decide
 hint:=λ_ _ _ _ ⟨o,e,c,_⟩ hq=>kdl_hint_dict ⟨o,e,c⟩ hq
 iter:=λA s hh ⟨o,e,c,dd⟩=>⟨_,λi h=>h.IsKeyIter s.heap.objs.size d i es.size ep/\∃o,h.get? d=some o/\o.cls=.type "dict"/\o.data=.dict es ep,λ_ _ hq=>Zmu lo e c dd hq,{
  sub:=λb hb=>by simp at hb;simp[hb]
  frame:=λ_ _ _ st hk=>⟨st.1.at λo e=>hk _ (by simp) o e,let ⟨o,e,r⟩:=st.2;⟨o,hk d (by simp) o e,r⟩⟩
  item:=λi s' Q E hi st hQ=>by
   obtain⟨o',e',c',d'⟩:=st.2;have ne:d≠s.heap.objs.size:=aE (Hz e);refine Zpa st.1 e' d' (cR hi) λh' it' sb=>hQ _ h' s'.toks ⟨_,cR hi,rfl⟩ ⟨it',o',by rw[sb.2 d ne];exact e',c',d'⟩ λb ob hb eb=>?_
   rw[sb.2 b (λz=>hb (by simp[z]))]
   exact eb
  done:=λs' Q E st hQ=>by
   obtain⟨o',e',c',d'⟩:=st.2;exact Zgx (.inl hh) st.1 e' d' (by simp) λh' he'=>hQ h' s'.toks λb ob hb eb=>he' b ob (λz=>hb (by simp[z])) eb
  self:=λ_ _ _ _ st hQ=>wpAny_pyIter_keyiter st.1 hQ},⟨_,aL _ rfl,rfl,rfl⟩,o,Hq _ e,c,dd⟩
def Zje:List D->Option (List (List Key))
 |[]=>some []
 |d::r=>match kT d,Zje r with|some k,some ks=>some (k::ks)|_,_=>none
def kyU:D->Option (List (List Key))
 |.tup ds=>Zje ds
 |_=>none
theorem Zb7:∀{ds:List D}{ks:List (List Key)},Zje ds=some ks->ds=ks.map Zc5
 |[],ks,h=>by cases h;rfl
 |d::r,ks,h=>by
  unfold Zje at h
  split at h
  .rename_i k ks' e1 e2;cases h;rw[aV,<-Zo8 e1,<-Zb7 e2]
  .cases h
theorem Zd6:∀(ks:List (List Key)),Zje (ks.map Zc5)=some ks
 |[]=>rfl
 |k::ks=>by rw[aV,Zje,ZjQ,Zd6 ks]
theorem Zmv(h:kyU d=some ks):d=Zl7 ks:=by
 cases d with
 |tup ds=>rw[Zl7,<-Zb7 h]
 |_=>cases h
theorem ZjV(ks:List (List Key)):kyU (Zl7 ks)=some ks:=Zd6 ks
section
variable {K:Fg}{H:Hp}{α:List Addr}
theorem ZhP(h9:Reps K H α vs ds):kKs ds=some ks->vs=ks.map kV:=by
 induction ds generalizing vs ks with
 |nil=>intro e;cases h9;cases e;rfl
 |cons d ds ih9=>
  intro e;cases h9 with
  |cons r t=>
   unfold kKs at e
   split at e
   .rename_i k ks' e1 e2;cases e;rw[aV,ih9 t e2];congr 1;cases r with
    |int i=>cases e1;rfl
    |str x=>cases e1;rfl
    |_=>cases e1
   .cases e
theorem ZcS:∀{xs:List V}{ds:List D}{ks:List (List Key)},Reps K H α xs ds->Zje ds=some ks->∃cs:List Addr,xs=cs.map V.ref/\Paired (λ(k:List Key) (c:Addr)=>H c=some (.tup (k.map kV))) ks cs
 |_,_,ks,.nil,h=>by cases h;exact⟨[],rfl,.nil⟩
 |_,_,ks,.cons (v:=v) (d:=d) (ds:=ds) r t,h=>by
  unfold Zje at h
  split at h
  .rename_i k ks' e1 e2;cases h;obtain⟨cs,h1,h2⟩:=ZcS t e2;cases r with
   |@tup p xs ds' hb rb=>exact⟨p::cs,by rw[h1];rfl,.cons (by rw[hb,ZhP rb e1]) h2⟩
   |_=>cases e1
  .cases h
theorem Zmw(r:Rep K H α (.ref b) d)(e:kyU d=some ks):Zan H ks b:=by
 cases r with
 |@tup p xs ds hb rb=>
  obtain⟨cs,h1,h2⟩:=ZcS rb e;exact⟨cs,by rw[hb,h1],h2⟩
 |_=>cases e
theorem ZeJ:∀(ks:List Key),Reps K H α (ks.map kV) (ks.map ZkK)
 |[]=>.nil
 |.inl i::ks=>.cons (.int i) (ZeJ ks)
 |.inr x::ks=>.cons (.str x) (ZeJ ks)
theorem Zd7:∀{ks:List (List Key)} {cs:List Addr},Paired (λ(k:List Key) (c:Addr)=>H c=some (.tup (k.map kV))) ks cs->Reps K H α (cs.map V.ref) (ks.map Zc5)
 |_,_,.nil=>.nil
 |_,_,.cons h t=>.cons (.tup h (ZeJ _)) (Zd7 t)
theorem ZjW(h:Zan H ks b):Rep K H α (.ref b) (Zl7 ks):=by
 obtain⟨cs,h1,h2⟩:=h;exact .tup h1 (Zd7 h2)
theorem Zan.up(h:Zan H ks b)(ht:∀b ys,H b=some (.tup ys)->H' b=some (.tup ys)):Zan H' ks b:=by
 obtain⟨cs,h1,h2⟩:=h;exact⟨cs,ht _ _ h1,Paired.mapP h2 λ_ _ z=>ht _ _ z⟩
end
abbrev KU(H:Hp):List (List (List Key)×V)->List (List (List Key)×Addr×aa)->Prop:=Paired λp q=>p.1=q.1/\Zan H p.1 q.2.1/\ZS p.2 q.2.2
theorem KU.any(r:KU H kvs xs)(k:List (List Key)):(kvs.any λkv=>decide (kv.1=k))=(atKey xs k).isSome:=by
 induction r with
 |nil=>rfl
 |@cons p q ps qs h t ih=>
  unfold atKey at ih ⊢;rw[List.any_cons,ih,kZ,<-h.1];by_cases e:p.1=k
  .simp[e]
  .simp[e]
theorem KU.put(r:KU H kvs xs)(k:List (List Key))(hb:Zan H k b)(ry:ZS y u):KU H (Zjd kvs k y) (storedH xs k b u):=by
 have e:=r.any k;unfold Zjd storedH;rw[e];by_cases q:(atKey xs k).isSome=true
 .rw[if_pos q,if_pos q];clear e q
  induction r with
  |nil=>exact .nil
  |@cons p q ps qs h t ih=>
   rw[aV,aV];refine .cons ?_ ih;unfold putAt;by_cases c:p.1=k
   .rw[if_pos c,if_pos (h.1.symm.trans c)];exact⟨h.1,h.2.1,ry⟩
   .rw[if_neg c,if_neg (λz=>c (h.1.trans z))];exact h
 .rw[if_neg q,if_neg q];exact Paired.snoc r ⟨rfl,hb,ry⟩
theorem ZhQ(ok:HOk P w H h)(e:Zan H ks a):(Zb0 (Zaf P w)).is h ks a:=by
 obtain⟨cs,h1,h2⟩:=e;obtain⟨_,its,r,o,g1,g2,n,g3⟩:=(show ZaC P w H h a (.tup (cs.map V.ref))from ok a _ h1);refine⟨o,its.toArray,n,g1,g2,g3,?_⟩
 have:∀{ks:List (List Key)} {cs:List Addr} {vs:List aa},Paired (λ(k:List Key) (c:Addr)=>H c=some (.tup (k.map kV))) ks cs->ZQ (cs.map V.ref) vs->NK.ItemsT (Zaf P w) h ks vs:=by
  intro ks cs vs q
  induction q generalizing vs with
  |nil=>intro z;cases z;exact .nil
  |cons hk _ ih=>
   intro z;cases z with
   |cons z1 z2=>
    cases z1;exact .cons (ZoA ok hk) (ih z2)
 simpa using this h2 r
theorem Zr7(ok:HOk P w H h)(e:H a=some (.dU kvs)):kvs.length<=sizeLine/\(a==ic)=false/\∃xs,KU H kvs xs/\h.DictOfH (Zb0 (Zaf P w)) a xs:=by
 obtain⟨z,y,xs,r,o,es,ep,h1,h2,h3,h4,h5⟩:=(show ZaC P w H h a (.dU kvs)from ok a _ e);refine⟨z,y,xs,r,o,es,ep,h1,h2,h3,h4,λx hx=>?_,h5⟩;clear h4 h5 z e
 induction r with
 |nil=>cases hx
 |@cons p q ps qs hq t ih=>
  rcases az.mp hx with z|hx
  .subst z
   have:=ZhQ ok hq.2.1
   rw[hq.1]at this;exact this
  .exact ih hx
section
variable {X:Cx}{e:Expr}{tv:TE}
def tDNewU:TE:=λ_ H Q=>∀p,H p=none->Q (.ref p) (upd H p (.dU []))
theorem ZjX:PE X (.Dict [] [] pos) tDNewU:=λpins s σ H Q I h=>
 wpAny_Dict_empty ⟨.ref s.heap.objs.size,_,I.laid (a:=s.heap.objs.size) (o:=.dU []) (t':=s.toks) (λ_ _ q=>Hq _ q) (af _) ⟨cI _,beq_eq_false_iff_ne.mpr (cC (aE I.big)),[],.nil,_,#[],0,aL _ rfl,⟨rfl,rfl,rfl⟩,rfl,rfl,List.nodup_nil⟩,rfl,h _ (I.hok.fresh (af _))⟩
noncomputable def eDnU:Ev:=λ_ M=>.ok (.du M.length) (M++[.lst []])
theorem Zpc:DE X ξ (.Dict [] [] pos) eDnU:=by
 refine⟨_,ZjX,λσ ρ H α M Q s h q p hp=>?_⟩;have kn:Kn (upd H p (.dU [])) p=some 3:=by unfold Kn;rw[Zx]
 exact q (.ref p) _ (α++[p]) (Ext.new hp) (h.newO hp (.inr (.inr (.inr (.inr (.inr ⟨[],Zx,ZhG⟩)))))) (.du ⟨h.last p,kn⟩)
def Zr8(td ty tv:TE):TS:=λD σ H=>tv σ H λv H1=>td σ H1 λx H2=>ty σ H2 λy H3=>∃a kvs k b,x=.ref a/\H3 a=some (.dU kvs)/\y=.ref b/\Zan H3 k b/\kvs.length<sizeLine/\D.nx σ (upd H3 a (.dU (Zjd kvs k v)))
theorem Zmx(hu:X.A.units+2<jo)(ho:PE X o td)(hi:PE X i ty)(hv:PE X e tv)(hs:ji e (some (.Subscript o i pos')) pos.line X.env=pure false):PS X (.Assign [.Subscript o i pos'] e pos) (Zr8 td ty tv):=by
 intro pins s σ H D I h;refine wpAny_Assign_Subscript (thn (hv pins s σ H _ I h) λr s1 ⟨v,H1,I1,rv,q1⟩=>thn (ho pins s1 σ H1 _ I1 q1) λu s2 ⟨x,H2,I2,rx,q2⟩=>thn (hi pins s2 σ H2 _ I2 q2) λiv s3 hz=>?_) hs;obtain⟨y,H3,I3,ry,a,kvs,k,b,ex,g1,ey,g2,l,q3⟩:=hz;subst ex ey;obtain rfl:u=aU a:=rx;obtain rfl:iv=aU b:=ry;obtain⟨z,hd,xs,rel,dd⟩:=Zr7 I3.hok g1;have hz:xs.length<=sizeLine:=by rw[<-Paired.length rel];exact z
 have hl:(Zjd kvs k v).length<=sizeLine:=by have:=Zex kvs k v;lia
 refine wpAny_setItem_heap (hsz:=hz) (knd:=Zb0 (Zaf X.prog X.w)) (by first|(show X.A.units+1+1<jo;lia)|(show X.A.units+1<jo;lia)) (ZhQ I3.hok g2) dd λh' dd' hs=>⟨σ,_,?_,q3⟩
 obtain⟨q,es,ep,hq,h2,h3,h4,_,h5⟩:=dd';refine Zl6 I3 (by rw[g1];exact fC) hs ⟨q,hq⟩ ⟨hl,hd,_,Paired.mapP (rel.put k g2 rv) λp c t=>⟨t.1,Zan.up t.2.1 (λc ys ec=>?_),t.2.2⟩,q,es,ep,hq,h2,h3,h4,h5⟩
 rw[ZD (ZrB ec g1 (λz=>nomatch z))];exact ec
def ZjY(fo fi f:Ev):Sv:=λρ M=>Zao (f ρ M) λd M1=>Zao (fo ρ M1) λx M2=>Zao (fi ρ M2) λk M3=>match x with
 |.du n=>(match kyU k,M3[n]? with|some kk,some (.lst ds)=>if ds.length<10000000 then .nx ρ (M3.set n (.lst (ZnO kyU kk k d ds)))else .bad|_,_=>.bad)
 |_=>.bad
theorem Zmy(hu:X.A.units+64<jo)(ho:DE X ξ o fo)(hi:DE X ξ i fi)(he:DE X ξ e f)(hs:autoParam (ji e (some (.Subscript o i pos')) pos.line X.env=pure false) Qrf._auto_1):DS X ξ (.Assign [.Subscript o i pos'] e pos) (ZjY fo fi f):=by
 obtain⟨t,p,q⟩:=he;obtain⟨to,po,qo⟩:=ho;obtain⟨ti,pi,qi⟩:=hi;refine⟨_,Zmx ⋯ po pi p hs,λσ ρ H α M Dn s hh w=>q σ ρ H α M _ s hh (FP.seq w λd M1 v H1 α1 e1 h1 r1 w1=>?_)⟩
 refine qo σ ρ H1 α1 M1 _ (s.mono e1) h1 (FP.seq w1 λod M2 ov H2 α2 e2 h2 r2 w2=>?_);refine qi σ ρ H2 α2 M2 _ ((s.mono e1).mono e2) h2 (FP.seq w2 λkd M3 kv H3 α3 e3 h3 r3 w3=>?_);have sr:=((s.mono e1).mono e2).mono e3;have rv:=Rep.mono e3 (Rep.mono e2 r1);cases Rep.mono e3 r2 with
 |@du a n hp=>
  cases e5:kyU kd with
  |none=>simp only[e5]at w3;exact w3.elim
  |some kk=>
   cases em:M3[n]? with
   |none=>simp only[e5,em]at w3;exact w3.elim
   |some so=>
    cases so with
    |lst ds=>
     simp only[e5,em]at w3;by_cases hl:ds.length<10000000
     .simp only[if_pos hl]at w3;obtain⟨kvs,g1,g2⟩:=h3.atU hp em;have kn:Kn (upd H3 a (.dU (Zjd kvs kk v))) a=some 3:=by unfold Kn;rw[Zx]
      have ex:Ext X.K H3 (upd H3 a (.dU (Zjd kvs kk v))) α3 α3:=Ext.wrK hp.kn (λ_ _ z=>by rw[g1]at z;cases z) kn
      have eg:=ZhH ZjV kk g2 rv;rw[<-Zmv e5]at eg;obtain⟨b,rfl⟩:∃b,kv=.ref b:=by
       cases r3 with
       |@tup b xs ds' hb rb=>exact⟨b,rfl⟩
       |_=>cases e5
      refine⟨a,kvs,kk,b,rfl,g1,rfl,Zmw r3 e5,by rw[ZhI g2];exact aj hl (by decide),?_⟩
      exact w3 σ _ α3 ex (h3.wrO hp.at' ex (.inr (.inr (.inr (.inr (.inr ⟨_,Zx,Zgt eg ex⟩)))))) (sr.mono ex)
     .simp only[if_neg hl]at w3;exact w3.elim
 |_=>exact w3.elim
theorem Zgy(hc:X.A.handled=none):Zbk X (.type "list") (λxs H Q=>∃d kvs,xs=[.ref d]/\H d=some (.dU kvs)/\∀l (bs:List Addr),H l=none->Paired (λ(p:List (List Key)×V) (b:Addr)=>Zan H p.1 b) kvs bs->Q (.ref l) (upd H l (.lst (bs.map V.ref)))):=by
 intro pins s σ H xs us Q I r h;obtain⟨d,kvs,rfl,g,q⟩:=h;obtain⟨u,rfl,ru⟩:=ZbW r;cases ru;obtain⟨z,y,ys,rel,o,es,ep,h1,h2,h3,h4,h5⟩:=(show ZaC X.prog X.w H s.heap d (.dU kvs)from I.hok d _ g);have hl:es.size=kvs.length:=by rw[<-bw,h4,au,Paired.length rel]
 refine kdl_call (ZjU (es:=es) (ep:=ep) y) hc ⟨o,h1,h2.1,h3⟩ (by rw[hl];exact z) λh' tk acc c keep hS hacc=>?_
 have ea:acc=((ys.map λx=>aU x.2.1):List aa).toArray:=by
  obtain⟨a1,a2⟩:=hacc;apply Array.ext';apply fk;intro j;rw[bn,bv];by_cases hj:j<acc.size
  .obtain⟨en,e1,e2⟩:=a2 j _ (cR hj);rw[cR hj,e2];rw[<-bn,h4,bv]at e1;cases ey:ys[j]? with
   |none=>rw[ey]at e1;cases e1
   |some x=>rw[ey]at e1;cases e1;rfl
  .rw[Array.getElem?_eq_none ⋯,aZ (by rw[<-Paired.length rel,<-hl,<-a1];lia)]
   rfl
 refine⟨.ref s.heap.objs.size,_,I.laid (t':=tk) (o:=.lst ((ys.map (·.2.1)).map V.ref)) keep (af _) ⟨?_,ys.map λx=>aU x.2.1,c,?_,by rw[ea]at hS;exact hS⟩,rfl,q _ (ys.map (·.2.1)) (I.hok.fresh (af _)) ?_⟩
 .rw[au,au,<-Paired.length rel];exact z
 .have:∀l:List (List (List Key)×Addr×aa),ZQ ((l.map (·.2.1)).map V.ref) (l.map λx=>aU x.2.1):=by
   intro l
   induction l with
   |nil=>exact .nil
   |cons a l ih=>exact .cons rfl ih
  exact this ys
 .have:∀{a:List (List (List Key)×V)} {b:List (List (List Key)×Addr×aa)},KU H a b->Paired (λ(p:List (List Key)×V) (c:Addr)=>Zan H p.1 c) a (b.map (·.2.1)):=by
   intro a b q
   induction q with
   |nil=>exact .nil
   |cons h _ ih=>exact .cons h.2.1 ih
  exact this rel
noncomputable def ZhR:D->D|.tup [k,_]=>k|e=>e
def bLisU:W3:=λds M=>match ds with
 |[.du n]=>(match M[n]? with|some (.lst es)=>.ok (.ref M.length) (M++[.lst (es.map ZhR)])|none=>.bad)
 |_=>.bad
theorem Zmz:CO X ξ (λxs H Q=>∃d kvs,xs=[.ref d]/\H d=some (.dU kvs)/\∀l (bs:List Addr),H l=none->Paired (λ(p:List (List Key)×V) (b:Addr)=>Zan H p.1 b) kvs bs->Q (.ref l) (upd H l (.lst (bs.map V.ref)))) bLisU:=by
 intro H α M vs ds Q h rs q;unfold bLisU at q
 split at q
 .rename_i n;cases rs with
  |cons r t=>
   cases t;cases r with
   |@du p _ hp=>
    cases em:M[n]? with
    |none=>rw[em]at q;exact q.elim
    |some so=>
     cases so with
     |lst es=>
      rw[em]at q;obtain⟨kvs,g1,es',rfl,g2⟩:=h.atU hp em;refine⟨p,kvs,rfl,g1,λl bs hl pr=>?_⟩;refine q _ _ (α++[l]) (Ext.new hl) (h.new hl ?_) (.ref ⟨h.last l,Kn.lst Zx⟩)
      have:∀{kvs:List (List (List Key)×V)} {bs:List Addr} {es':List D},kvs.length=es'.length->Paired (λ(p:List (List Key)×V) (b:Addr)=>Zan H p.1 b) kvs bs->Reps X.K H α (bs.map V.ref) ((bY (λkv e=>D.tup [Zl7 kv.1,e]) kvs es').map ZhR):=by
       intro kvs bs es' hz q
       induction q generalizing es' with
       |nil=>exact .nil
       |cons hq _ ih=>
        cases es' with
        |nil=>cases hz
        |cons e es'=>exact .cons (ZjW hq) (ih (by simpa using hz))
      exact this (by have:=g2.length;rw[au]at this;exact this) pr
 .exact q.elim
end
end DL
namespace DL
open PyProof.Rows L2 PySem.W
end DL
namespace DL
open PyProof.Rows L2 PySem.W
abbrev IsZ(h:Heap)(z TI TO:Addr)(f0:aa)(f1:Bool):Prop:=
 h.get? z=some {cls:=.type "zip",dict:=none,data:=.fields #[f0,.bool f1,.bool false,.ref TI,.ref TO],slots:= #[]}
section
variable {s:aB}
def ZSt(z TI TO i1 i2 l1 l2:Addr)(xs ys:Array aa)(i:Nat)(h:Heap):Prop:=
 ((IsZip h z TI TO .none/\∃a b,IsPair h TO a b)\/∃(T:Addr) (f1:Bool) (oT:Obj),IsZ h z TI TO (eN T) f1/\h.get? T=some oT/\T≠z/\T≠i1/\T≠i2/\oT.cls=.type "tuple")/\IsPair h TI (.ref i1) (.ref i2)/\h.IsListIter i1 l1 i/\h.IsListIter i2 l2 i/\h.IsList l1 xs/\h.IsList l2 ys
theorem ZSt.type{TI TO:Addr}(st:ZSt z TI TO i1 i2 l1 l2 xs ys i s.heap):s.TypeIs (.ref z) "zip":=by
 rcases st.1 with⟨hz,_⟩|⟨T,f1,oT,hz,_⟩
 .exact⟨_,hz,rfl⟩
 .exact⟨_,hz,rfl⟩
theorem ZSt.iter{TI TO:Addr}(st:ZSt z TI TO i1 i2 l1 l2 xs ys i s.heap)(h:Q (.ref z) s):wpAny (ao prog w) A (pyIter (.ref z)) Q E s:=by
 have hT:=st.type;refine jU hT F.slot_zip_iter (dD F.slot_zip_iter hT F.entry_zip_iter ?_ (F.args_zip_iter_1 _));show wpAny _ _ (ret (.ref z)) _ _ s;exact Wp ⟨_,rfl,"zip",_,hT,F.slot_zip_next.lookup,h⟩
end
end DL
namespace DL
open PyProof.Rows L2 PySem.W
noncomputable def Zr9(te:TE)(g1 g2:TG):TS:=λD σ H=>te σ H λx H1=>g1 x σ H1 λσ' H2=>g2 x σ' H2 D.nx
theorem ZmA(he:PE X e te)(h1:PG X t1 g1)(h2:PG X t2 g2)(hw:autoParam (fY [t1,t2] e X.env=pure none) Qrf._auto_1)(ha:autoParam ((dE [t1,t2] X.env).map (·.2)=[assign t1 X.env,assign t2 X.env]) Qrf._auto_1):PS X (.Assign [t1,t2] e pos) (Zr9 te g1 g2):=by
 intro pins s σ H D I h;refine wpAny_Assign_two (thn (he pins s σ H _ I h) λv s1 hz=>?_) ha hw;obtain⟨x,H1,I1,r1,q1⟩:=hz;exact thn (h1 pins s1 σ H1 x v _ I1 r1 q1) λ_ s2 ⟨σ2,H2,I2,q2⟩=>thn (h2 pins s2 σ2 H2 x v _ I2 r1 q2) λ_ s3 q=>q
noncomputable def ZnP(g1 g2:Tg):Tg:=λd ρ=>match g1 d ρ with|some ρ1=>g2 d ρ1|none=>none
theorem ZhS(he:DE X ξ e f)(h1:DG X t1 g1)(h2:DG X t2 g2)(hw:autoParam (fY [t1,t2] e X.env=pure none) Qrf._auto_1)(ha:autoParam ((dE [t1,t2] X.env).map (·.2)=[assign t1 X.env,assign t2 X.env]) Qrf._auto_1):DS X ξ (.Assign [t1,t2] e pos) (ZM (ZnP g1 g2) f):=by
 obtain⟨t,p,q⟩:=he;obtain⟨tt1,pt1,qt1⟩:=h1;obtain⟨tt2,pt2,qt2⟩:=h2;refine⟨_,ZmA p pt1 pt2 hw ha,λσ ρ H α M Dn s hh w=>q σ ρ H α M _ s hh (FP.seq w λd M1 v H1 α1 e1 h1 r1 w1=>?_)⟩;unfold ZnP at w1;cases eg:g1 d ρ with
 |none=>simp only[eg]at w1;exact w1.elim
 |some ρ1=>
  simp only[eg]at w1;cases eh:g2 d ρ1 with
  |none=>simp only[eh]at w1;exact w1.elim
  |some ρ2=>
   simp only[eh]at w1;exact qt1 v d σ ρ H1 α1 ρ1 _ (s.mono e1) r1 eg λσ' s'=>qt2 v d σ' ρ1 H1 α1 ρ2 _ s' r1 eh λσ2 s2=>w1 σ2 H1 α1 Ext.refl h1 s2
end DL
namespace DL
open PyProof.Rows L2
end DL
namespace DL
open PyProof.Rows L2 PySem.W
noncomputable def Zsa(e iter':Expr)(d:Nat)(it acc:aa)(env:Env):Sem Fin:=do
 let x <-eval iter' env
 standAt iter'.pos
 let x <-foldedSetIterable iter' env x
 let _ <-runOwn (.compStart e (d+1) (<-holding [x] (pyIter x)) acc env) env
 again (.compLoop e d it acc env)
theorem ZhT(elt t0 i0 t1 i1:Expr)(f0 f1:List Expr)(sc:js)(pos:Pos)(it acc:aa)(env:Env):iV (.ListComp elt [⟨t0,i0,f0,0⟩,⟨t1,i1,f1,0⟩] sc pos) 0 it acc env=Zc9 t0 i0 f0 it env (Zsa (.ListComp elt [⟨t0,i0,f0,0⟩,⟨t1,i1,f1,0⟩] sc pos) i1 0 it acc env) (again (.compLoop (.ListComp elt [⟨t0,i0,f0,0⟩,⟨t1,i1,f1,0⟩] sc pos) 0 it acc env)):=by rfl
theorem ZhU(elt t0 i0 t1 i1:Expr)(f0 f1:List Expr)(sc:js)(pos:Pos)(it acc:aa)(env:Env):iV (.ListComp elt [⟨t0,i0,f0,0⟩,⟨t1,i1,f1,0⟩] sc pos) 1 it acc env=Zc9 t1 i1 f1 it env (Zhr (.ListComp elt [⟨t0,i0,f0,0⟩,⟨t1,i1,f1,0⟩] sc pos) elt 1 it acc env) (again (.compLoop (.ListComp elt [⟨t0,i0,f0,0⟩,⟨t1,i1,f1,0⟩] sc pos) 1 it acc env)):=by rfl
theorem ZeK(hd:gens[d]?=some ⟨target,iter,ifs,0⟩)(h0:fN (ao prog w) A (.compLoop (.ListComp elt gens scope pos) d it acc env) R s)(h:wpAny (ao prog w) A (pyIter it) (λit' s'=>fN (ao prog w) A (.compLoop (.ListComp elt gens scope pos) d it' acc env) R s') (notedBy (ao prog w) A env λx s'=>R (.error x) s') s):fN (ao prog w) A (.compStart (.ListComp elt gens scope pos) d it acc env) R s:=by
 have hc:(clausesOf (.ListComp elt gens scope pos))[d]?=some ⟨target,iter,ifs,0⟩:=hd;refine codeAny_of_tree ?_;show wpAny _ _ ((compStart (.ListComp elt gens scope pos) d it acc env).onRaise (λx=>do ma x env;standAt theWindowsPlace)) _ _ s
 refine wpAny_notedAt ?_;unfold compStart;rw[hc];show wpAny _ _ (ask >>= _) _ _ s;refine Wb (wpAny_askSetting (wpAny_ite ?_));split
 .first
   |exact Wb (Wp (Wp (mf rfl h0)))
   |exact Wp (mf rfl h0)
 .first
   |exact Wb (wpAny_rule (Wb (wpAny_standAt (Wb (wpAny_mono h (λit' s' h'=>Wp (mf rfl h')) λ_ _ x=>x)))))
   | (refine Wb (wpAny_rule ?_);show wpAny _ _ (standAt iter.pos >>= _) _ _ s;exact Wb (wpAny_standAt (Wb (wpAny_mono h (λit' s' h'=>Wp (mf rfl h')) λ_ _ x=>x))))
def gIn(fi:Ro->Sto->Out Src)(tg:Tg)(c:Tv)(g:Ro->Sto->Out Ro):Ro->Sto->Out Ro:=λρ M=>match fi ρ M with
 |.ok src M1=>Zb5 src tg c g (cnt src M1) 0 ρ M1
 |_=>.bad
theorem ZjZ{D:Addr}{bd:aa->Sem Fin}(hd:gens[d0+1]?=some ⟨tg,iter,ifs,0⟩)(hct:∀it',iV (.ListComp elt gens scope pos) (d0+1) it' (.ref D) Y.env=Zc9 tg iter ifs it' Y.env (bd it') (again (.compLoop (.ListComp elt gens scope pos) (d0+1) it' (.ref D) Y.env)))(hxe:∀x y,Y.xe x y->False)(hi:DI Y E0 tg iter fi)(hg:DG Y tg gt)(tst:DC Y ifs c)(hb:∀it':Addr,ZcQ Y D n0 (.compLoop (.ListComp elt gens scope pos) (d0+1) (.ref it') (.ref D) Y.env) (bd (.ref it')) g)(hs:autoParam (∀x,foldedSetIterable iter Y.env x=pure x) Qin._auto_1) :
  ZcQ Y D n0 (.compLoop (.ListComp elt gens scope pos) d0 (.ref it) (.ref D) Y.env) (Zsa (.ListComp elt gens scope pos) iter d0 (.ref it) (.ref D) Y.env) (gIn fi gt c g):=by
 obtain⟨wi,pi,qi⟩:=hi;intro pins s σ ρ H α M ρ' M' I sr hr aD en;unfold gIn at en;cases ef:fi ρ M with
 |exc x9 M10=>rw[ef]at en;cases en
 |bad=>rw[ef]at en;cases en
 |ok src M1=>
  rw[ef]at en;simp only at en;have pv:=pi pins s σ H (λJ H2=>∃α2,Ext Y.K H H2 α α2/\HR Y.K H2 α2 M1/\ZoV Y.K H2 α2 J src) I (qi σ ρ H α M _ sr hr (by
   rw[ef];exact λJ H2 α2 e h r=>⟨α2,e,h,r⟩))
  unfold Zsa;refine Wb (wpAny_mono pv (λx s1 w1=>?_) (λx y z=>hxe x y z));refine Wb (wpAny_standAt (Wb (wpAny_of_eq (hs x) ?_)));refine Wb (wpAny_holding (wpAny_mono w1 (λitv s2 w2=>?_) (λx y z=>hxe x y z)));obtain⟨it',fp,tn,J,H2,rfl,I2,T,st2,f2,α2,e2,h2,sc⟩:=w2;have loop:fN (ao Y.prog Y.w) Y.A (.compLoop (.ListComp elt gens scope pos) (d0+1) (.ref it') (.ref D) Y.env) (λr s'=>match r with|.ok f=>wpAny (ao Y.prog Y.w) Y.A (again (.compLoop (.ListComp elt gens scope pos) d0 (.ref it) (.ref D) Y.env)) (λfin s'=>fin=.again (.compLoop (.ListComp elt gens scope pos) d0 (.ref it) (.ref D) Y.env)/\∃σ' H' α',Inv Y pins σ' H' s'/\Ext Y.K H H' α α'/\SR Y.K H' α' σ' ρ'/\HR Y.K H' α' M') (λ_ _=>False) s'|.error e=>cameBackBy (ao Y.prog Y.w) Y.A Y.env (λ_ _=>False) e s') s2:=by
   refine ZdY (hct (.ref it')) T hxe (λ{H'} hn b hb'=>⟨hn b hb',(f2 b hb').2⟩) hg tst (hb it') sc (e2.get aD) I2 st2 (λb hb'=>(f2 b hb').1) (sr.mono e2) h2 en ?_;intro σ5 H5 α5 s6 I6 ex5 sr5 hr5;exact Wp ⟨rfl,σ5,H5,α5,I6,e2.trans ex5,sr5,hr5⟩
  refine Wb (wpAny_runOwn (h:=none) ?_);exact ZeK hd loop (T.self Y.A 0 _ _ _ st2 loop)
theorem ZfK(B:Blk X scope cl N k fr)(hi:DI X ξ tg iter fi)(h:Blk X scope cl N k fr->∀C fp s H,DG (blk X scope cl N C fp s H) tg gt/\DC (blk X scope cl N C fp s H) ifs c/\DI (blk X scope cl N C fp s H) E0 tg1 iter1 fi1/\DG (blk X scope cl N C fp s H) tg1 gt1/\DC (blk X scope cl N C fp s H) ifs1 c1/\DE (blk X scope cl N C fp s H) E0 elt f)(hs:autoParam (∀x,foldedSetIterable iter X.env x=pure x) Qin._auto_1)(hs1:∀env x,foldedSetIterable iter1 env x=pure x:=by intro _ _;rfl):
  DE X ξ (.ListComp elt [⟨tg,iter,ifs,0⟩,⟨tg1,iter1,ifs1,0⟩] scope pos) (Za0 fi k fr gt c λn=>gIn fi1 gt1 c1 (gEm f n)):=
 ZfE B hi (λC fp s H=>(h B C fp s H).1) (λC fp s H=>(h B C fp s H).2.1) (ZhT elt tg iter tg1 iter1 ifs ifs1 scope pos) (λC fp s H D n0 it=>let ⟨_,_,h1,h2,h3,h4⟩:=h B C fp s H;ZjZ (bd:=λit'=>Zhr (.ListComp elt [⟨tg,iter,ifs,0⟩,⟨tg1,iter1,ifs1,0⟩] scope pos) elt 1 it' (.ref D) (blk X scope cl N C fp s H).env) rfl (λit'=>ZhU elt tg iter tg1 iter1 ifs ifs1 scope pos it' _ _) (λ_ _ z=>z) h1 h2 h3 (λit'=>Zck (λ_ _ z=>z) h4) (hs1 _)) hs
end DL
namespace DL
open PyProof.Rows L2
end DL
namespace DL
open PyProof.Rows L2
end DL
namespace DL
open PyProof.Rows L2
end DL
namespace DL
open L2
end DL
namespace DL
open PyProof.Rows L2 PySem.W
end DL
namespace PySem.SeqAt
open MeetsSeq MeetsSeq2 MeetsSeq3 SeqRoads2
end PySem.SeqAt
namespace DL
open PyProof.Rows L2 PySem.W
end DL
namespace ST
open PyProof.Rows
abbrev lt(a b:List Int):Bool:=HT.ZaY a b
def le(a b:List Int):Prop:=lt b a=false
theorem ZhV:∀a:List Int,lt a a=false
 |[]=>rfl
 |x::r=>by
  show HT.ZaY (x::r) (x::r)=false;rw[HT.ZR,if_pos rfl];exact ZhV r
theorem ZmB:∀{a b c:List Int},lt a b=true->lt b c=true->lt a c=true
 |[],[],_,h,_=>by cases h
 |[],_::_,[],_,h=>by cases h
 |[],_::_,_::_,_,_=>rfl
 |_::_,[],_,h,_=>by cases h
 |_::_,_::_,[],_,h=>by cases h
 |x::a,y::b,z::c,h,g=>by
  show HT.ZaY (x::a) (z::c)=true;have h:HT.ZaY (x::a) (y::b)=true:=h;have g:HT.ZaY (y::b) (z::c)=true:=g;rw[HT.ZR]at h g ⊢;by_cases e1:x=y
  .subst e1;rw[if_pos rfl]at h;by_cases e2:x=z
   .rw[if_pos e2]at g ⊢;exact ZmB h g
   .rw[if_neg e2]at g ⊢;exact g
  .rw[if_neg e1]at h;have h:=of_decide_eq_true h;by_cases e2:y=z
   .subst e2;rw[if_neg e1];exact decide_eq_true h
   .rw[if_neg e2]at g;have g:=of_decide_eq_true g;rw[if_neg ⋯]
    exact decide_eq_true ⋯
theorem Zd8:∀{a b:List Int},lt a b=false->lt b a=false->a=b
 |[],[],_,_=>rfl
 |[],_::_,h,_=>by cases h
 |_::_,[],_,h=>by cases h
 |x::a,y::b,h,g=>by
  have h:HT.ZaY (x::a) (y::b)=false:=h;have g:HT.ZaY (y::b) (x::a)=false:=g;rw[HT.ZR]at h g;by_cases e:x=y
  .subst e;rw[if_pos rfl]at h g;rw[Zd8 h g]
  .rw[if_neg e]at h;rw[if_neg (cC e)]at g
   have:=of_decide_eq_false h
   have:=of_decide_eq_false g
   lia
theorem Zcn(a:List Int):le a a:=ZhV a
theorem ZbG(h:lt a b=true):le a b:=by
 unfold le;cases e:lt b a with
 |false=>rfl
 |true=>have:=ZmB h e;rw[ZhV]at this;cases this
theorem ZbY(h:le a b)(g:le b c):le a c:=by
 unfold le at *;cases e:lt c a with
 |false=>rfl
 |true=>
  cases e2:lt b a with
  |true=>rw[e2]at h;cases h
  |false=>
   cases e3:lt a b with
   |true=>rw[ZmB e e3]at g;cases g
   |false=>
    have:=Zd8 e3 e2
    subst this;rw[e]at g;cases g
theorem ZeL(h:lt a b=true)(g:le b c):lt a c=true:=by
 cases e:lt a c with
 |true=>rfl
 |false=>have:=ZbY g e;unfold le at this;rw[h]at this;cases this
variable (kf:aN->List Int)
noncomputable def ky(xs:Array aN)(i:Nat):List Int:=match xs[i]? with|some p=>kf p|none=>[]
def Up(xs:Array aN)(n:Nat):Prop:=∀i j,i<=j->j<n->le (ky kf xs i) (ky kf xs j)
def Dn(xs:Array aN)(n:Nat):Prop:=∀i j,i<=j->j<n->le (ky kf xs j) (ky kf xs i)
variable {kf}
theorem Zco{xs ys:Array aN}{i j:Nat}(h:xs[i]?=ys[j]?):ky kf xs i=ky kf ys j:=by unfold ky;rw[h]
theorem ZhW{xs:Array aN}{i j:Nat}(hj:j<=xs.size)(k:Nat):ky kf (j6 xs i j ((j-i)/2)) k=if i<=k/\k<j then ky kf xs (i+j-1-k)else ky kf xs k:=by
 have g:=mv (i:=i) hj k;split
 .rename_i c;rw[if_pos c]at g;exact Zco g
 .rename_i c;rw[if_neg c]at g;exact Zco g
theorem Z8{xs:Array aN}{i j:Nat}(hj:j<=xs.size)(hs:∀k,i<=k->k<j->ky kf xs k=ky kf xs (j-1))(k:Nat):ky kf (j6 xs i j ((j-i)/2)) k=ky kf xs k:=by
 rw[ZhW hj];split
 .rename_i c;rw[hs k c.1 c.2,hs (i+j-1-k) (by omega) (by omega)]
 .rfl
theorem Zpd{xs:Array aN}{p d:Nat}(hp:p<xs.size)(hd:d<=p)(k:Nat):ky kf (bubble xs p d) k=if k=p-d then ky kf xs p else if p-d<k/\k<=p then ky kf xs (k-1)else ky kf xs k:=by
 have g:=getElem?_bubble hp d hd k;by_cases c1:k=p-d
 .rw[if_pos c1]at g ⊢;exact Zco g
 .rw[if_neg c1]at g ⊢;by_cases c2:p-d<k/\k<=p
  .rw[if_pos c2]at g ⊢;exact Zco g
  .rw[if_neg c2]at g ⊢;exact Zco g
end ST
namespace ST
open PyProof.Rows
noncomputable abbrev SM:=StateT cg Sem
noncomputable def ZaL:Bool->aN->Array aN->Nat->Nat->Nat->SM (Option Nat):=sortPriv% PySem.Builtin.gallop
noncomputable def Zde:Array aN->Array aN->SM (Array aN):=sortPriv% PySem.Builtin.mergeLo
noncomputable def Zdf:Array aN->Array aN->SM (Array aN):=sortPriv% PySem.Builtin.mergeHi
noncomputable def Zcp:Nat->SM Unit:=sortPriv% PySem.Builtin.setMinGallop
noncomputable abbrev ZcT(st:cg)(g:Nat):cg:=cg.mk' (kindOf st) (arrOf st) (pendingOf st) g (iW st)
theorem Zbb(g:Nat):Zcp g=modify λs=>ZcT s g:=rfl
theorem ZnQ(left:Bool)(q:aN)(xs:Array aN)(b n p:Nat):ZaL left q xs b n p=(do
  let far (i:Nat):SM (Option Bool):=do
   let y <-elem' xs (b+i)
   if left then lt' y q else return (<-lt' q y).map (!·)
  let mut d:=0
  let mut e:=1
  let mut l:=0
  let mut h:=0
  let some rt <-far p|return none
  if rt then
   let top:=n-p
   for _ in [0:n] do
    if e ≥ top then break
    let some go <-far (p+e)|return none
    if !go then break
    d:=e
    e:=2*e+1
   l:=p+d+1
   h:=p+min e top
  else
   let top:=p+1
   for _ in [0:n] do
    if e ≥ top then break
    let some go <-far (p-e)|return none
    if go then break
    d:=e
    e:=2*e+1
   l:=p+1-min e top
   h:=p-d
  for _ in [0:n] do
   if l ≥ h then break
   let c:=l+(h-l)/2
   let some go <-far c|return none
   if go then l:=c+1 else h:=c
  return some h):=rfl
theorem ZeM(i:Nat):mergeAt' i=(do
  let t <-get
  let (some (a,n,pw),some (b,m,_)):=((pendingOf t)[i]?,(pendingOf t)[i+1]?)|nD "internal:list.sort.pending"
  set (gD t (((pendingOf t).setIfInBounds i (a,n+m,pw)).eraseIdxIfInBounds (i+1)))
  let some k <-ZaL false (<-elem' (arrOf t) b) (arrOf t) a n 0|return false
  let (a,n):=(a+k,n-k)
  if n==0 then return true
  let some m <-ZaL true (<-elem' (arrOf t) (a+n-1)) (arrOf t) b m (m-1)|return false
  if m==0 then return true
  let x:=(arrOf t).extract a b
  let y:=(arrOf t).extract b (b+m)
  let z <-if n<=m then Zde x y else Zdf x y
  modify λt=>mK t (z.toList.zipIdx.foldl (λo (p,j)=>o.setIfInBounds (a+j) p) (arrOf t))
  return (iW (<-get)).isNone):=rfl
end ST
namespace ST
open PyProof.Rows
theorem ZeN(h:le a b)(g:lt b c=true):lt a c=true:=by
 cases e:lt a c with
 |true=>rfl
 |false=>
  have z:=ZbY (a:=c) (b:=a) (c:=b) e h;unfold le at z;rw[g]at z;cases z
structure Cp(M:Model) (A:dg) (E:Vp) (s:aB) (kf:aN->List Int) (G:aN->Prop) (B:cg->Prop):Prop where
 cmp:∀st p q (Q:Option Bool->cg->Prop),B st->G p->G q->Q (some (lt (kf p) (kf q))) st->wpS M A E s (lt' p q) Q st
 gal:∀st g,B st->B (ZcT st g)
 pen:∀st p,B st->B (gD st p)
 put:∀st xs,B st->xs.Perm (arrOf st)->B (mK st xs)
 good:∀st,B st->∀p∈(arrOf st).toList,G p
 fail:∀st,B st->iW st=none
def frk(left:Bool)(a c:List Int):Bool:=if left then lt c a else !lt a c
theorem Zj0(h:le c d)(f:frk left a d=true):frk left a c=true:=by
 unfold frk at *;cases left with
 |true=>exact ZeN h f
 |false=>
  have f:(!lt a d)=true:=f;show(!lt a c)=true;rw[gn]at f ⊢;exact ZbY h f
section
variable {prog:cD}{w:da}{A:dg}{E:Vp}{s:aB}{kf:aN->List Int}{G:aN->Prop}{B:cg->Prop}{st:cg}{xs:Array aN}
theorem ZT(h:xs[i]?=some p)(q:Q p st):wpS (ao prog w) A E s (elem' xs i) Q st:=by
 rw[elem'_eq,h];exact aA q
noncomputable def Gs(G:aN->Prop)(xs:Array aN):Prop:=∀(i:Nat)(p:aN),xs[i]?=some p->G p
section
variable (left:Bool)(q:aN)(xs:Array aN)(b n p:Nat)
noncomputable def ZmC(i:Nat):SM (Option Bool):=do
 let y <-elem' xs (b+i)
 if left then lt' y q else return (<-lt' q y).map (!·)
def gaL(l h:Nat):SM (Option Nat):=do
 let s <-forIn [0:n] ((none,l,h):Option (Option Nat)×Nat×Nat) λ_ s=>
  if s.2.1 ≥ s.2.2 then pure (.done (none,s.2.1,s.2.2))else do
   match <-ZmC left q xs b (s.2.1+(s.2.2-s.2.1)/2)with
   |some go=>if go then pure (.yield (none,s.2.1+(s.2.2-s.2.1)/2+1,s.2.2))else pure (.yield (none,s.2.1,s.2.1+(s.2.2-s.2.1)/2))
   |_=>pure (.done (some none,s.2.1,s.2.2))
 match s.1 with
 |some r=>pure r
 |none=>pure (some s.2.2)
def gaU:SM (Option Nat):=do
 let s <-forIn [0:n] ((none,0,1):Option (Option Nat)×Nat×Nat) λ_ s=>
  if s.2.2 ≥ n-p then pure (.done (none,s.2.1,s.2.2))else do
   match <-ZmC left q xs b (p+s.2.2)with
   |some go=>if !go then pure (.done (none,s.2.1,s.2.2))else pure (.yield (none,s.2.2,2*s.2.2+1))
   |_=>pure (.done (some none,s.2.1,s.2.2))
 match s.1 with
 |some r=>pure r
 |none=>gaL left q xs b n (p+s.2.1+1) (p+min s.2.2 (n-p))
def gaD:SM (Option Nat):=do
 let s <-forIn [0:n] ((none,0,1):Option (Option Nat)×Nat×Nat) λ_ s=>
  if s.2.2 ≥ p+1 then pure (.done (none,s.2.1,s.2.2))else do
   match <-ZmC left q xs b (p-s.2.2)with
   |some go=>if go then pure (.done (none,s.2.1,s.2.2))else pure (.yield (none,s.2.2,2*s.2.2+1))
   |_=>pure (.done (some none,s.2.1,s.2.2))
 match s.1 with
 |some r=>pure r
 |none=>gaL left q xs b n (p+1-min s.2.2 (p+1)) (p-s.2.1)
theorem ZhX:ZaL left q xs b n p=(do
  match <-ZmC left q xs b p with
  |some rt=>if rt then gaU left q xs b n p else gaD left q xs b n p
  |_=>pure none):=by kernel_rfl
end
section
variable {left:Bool}{q:aN}{b n p:Nat}{f:Nat->Bool}{Q:Option Nat->cg->Prop}
variable (step:∀{i:Nat}{Q:Option Bool->cg->Prop},i<n->Q (some (f i)) st->wpS (ao prog w) A E s (ZmC left q xs b i) Q st)(dn:∀i j,i<=j->j<n->f j=true->f i=true)(h:∀k,k<=n->(∀i,i<k->f i=true)->(∀i,k<=i->i<n->f i=false)->Q (some k) st)
include step dn h
theorem Zpe{l hh:Nat}(l1:l<=hh)(l2:hh<=n)(a1:∀i,i<l->f i=true)(a2:∀i,hh<=i->i<n->f i=false):wpS (ao prog w) A E s (gaL left q xs b n l hh) Q st:=by
 have up:∀i j,i<=j->j<n->f i=false->f j=false:=λi j ij jn fi=>by
  cases e:f j with
  |false=>rfl
  |true=>rw[dn i j ij jn e]at fi;cases fi
 unfold gaL;refine ar (fL (cj (λx c t=>t=st/\∃l hh,c=(none,l,hh)/\(l<=hh/\hh<=n/\hh-l<=n-x)/\(∀i,i<l->f i=true)/\∀i,hh<=i->i<n->f i=false) (Q:=λc t=>t=st/\∃k,c=(none,k,k)/\k<=n/\(∀i,i<k->f i=true)/\∀i,k<=i->i<n->f i=false) (λx c t _ xn hI=>?_) (λc t hI=>?_) ⟨rfl,l,hh,rfl,⋯,a1,a2⟩) λc t hI=>?_)
 .obtain⟨rfl,l,hh,rfl,⟨c1,c2,c3⟩,b1,b2⟩:=hI;dsimp only;by_cases c:l=hh
  .subst c;rw[if_pos (af _)];exact aA ⟨rfl,l,rfl,c2,b1,b2⟩
  .rw[if_neg ⋯]
   have hm:l<=l+(hh-l)/2/\l+(hh-l)/2<hh:=⋯
   generalize l+(hh-l)/2=m at *;refine ar (step ⋯ ?_)
   cases z:f m with
   |true=>exact aA ⟨rfl,_,_,rfl,⋯,λi hi=>dn i m ⋯ ⋯ z,b2⟩
   |false=>exact aA ⟨rfl,_,_,rfl,⋯,b1,λi hi hn=>up m i hi hn z⟩
 .obtain⟨rfl,l,hh,rfl,⟨c1,c2,c3⟩,b1,b2⟩:=hI;obtain rfl:l=hh:=⋯
  exact⟨rfl,l,rfl,c2,b1,b2⟩
 .obtain⟨rfl,k,rfl,c2,b1,b2⟩:=hI;exact aA (h k c2 b1 b2)
variable (hp:p<n)
include hp
theorem Zsb(z:f p=true):wpS (ao prog w) A E s (gaU left q xs b n p) Q st:=by
 unfold gaU;refine ar (fL (cj (λx c t=>t=st/\∃d e,c=(none,d,e)/\(d<e/\x<e)/\p+d<n/\f (p+d)=true) (Q:=λc t=>t=st/\∃d e,c=(none,d,e)/\d<e/\p+d<n/\f (p+d)=true/\(n-p<=e\/f (p+e)=false)) (λx c t _ xn hI=>?_) (λc t hI=>?_) ⟨rfl,0,1,rfl,⋯,hp,z⟩) λc t hI=>?_)
 .obtain⟨rfl,d,e,rfl,⟨c1,c2⟩,b1,b2⟩:=hI;dsimp only;by_cases c:e ≥ n-p
  .rw[if_pos c];exact aA ⟨rfl,d,e,rfl,c1,b1,b2,.inl c⟩
  .rw[if_neg c];refine ar (step ⋯ ?_)
   cases y:f (p+e)with
   |true=>exact aA ⟨rfl,e,2*e+1,rfl,⋯,⋯,y⟩
   |false=>exact aA ⟨rfl,d,e,rfl,c1,b1,b2,.inr y⟩
 .obtain⟨rfl,d,e,rfl,⟨c1,c2⟩,b1,b2⟩:=hI;exact⟨rfl,d,e,rfl,c1,b1,b2,.inl ⋯⟩
 .obtain⟨rfl,d,e,rfl,c1,b1,b2,b3⟩:=hI;dsimp only;refine Zpe step dn h ⋯ ⋯ (λi hi=>dn i (p+d) ⋯ b1 b2) λi hi hn=>?_
  rcases b3 with b3|b3
  .lia
  .cases e':f i with
   |false=>rfl
   |true=>rw[dn (p+e) i ⋯ hn e']at b3;cases b3
theorem Zsc(z:f p=false):wpS (ao prog w) A E s (gaD left q xs b n p) Q st:=by
 unfold gaD;refine ar (fL (cj (λx c t=>t=st/\∃d e,c=(none,d,e)/\(d<e/\x<e)/\d<=p/\f (p-d)=false) (Q:=λc t=>t=st/\∃d e,c=(none,d,e)/\d<e/\d<=p/\f (p-d)=false/\(p+1<=e\/f (p-e)=true)) (λx c t _ xn hI=>?_) (λc t hI=>?_) ⟨rfl,0,1,rfl,⋯,⋯,z⟩) λc t hI=>?_)
 .obtain⟨rfl,d,e,rfl,⟨c1,c2⟩,b1,b2⟩:=hI;dsimp only;by_cases c:e ≥ p+1
  .rw[if_pos c];exact aA ⟨rfl,d,e,rfl,c1,b1,b2,.inl c⟩
  .rw[if_neg c];refine ar (step ⋯ ?_)
   cases y:f (p-e)with
   |true=>exact aA ⟨rfl,d,e,rfl,c1,b1,b2,.inr y⟩
   |false=>exact aA ⟨rfl,e,2*e+1,rfl,⋯,⋯,y⟩
 .obtain⟨rfl,d,e,rfl,⟨c1,c2⟩,b1,b2⟩:=hI;exact⟨rfl,d,e,rfl,c1,b1,b2,.inl ⋯⟩
 .obtain⟨rfl,d,e,rfl,c1,b1,b2,b3⟩:=hI;dsimp only;refine Zpe step dn h ⋯ ⋯ (λi hi=>?_) λi hi hn=>?_
  .rcases b3 with b3|b3
   .lia
   .exact dn i (p-e) ⋯ ⋯ b3
  .cases e':f i with
   |false=>rfl
   |true=>rw[dn (p-d) i hi hn e']at b2;cases b2
end
theorem Zbc(C:Cp (ao prog w) A E s kf G B)(hB:B st)(hq:G q)(hg:Gs G xs)(hp:p<n)(hx:b+n<=xs.size)(hu:∀i j,i<=j->j<n->le (ky kf xs (b+i)) (ky kf xs (b+j)))(h:∀k,k<=n->(∀i,i<k->frk left (kf q) (ky kf xs (b+i))=true)->(∀i,k<=i->i<n->frk left (kf q) (ky kf xs (b+i))=false)->Q (some k) st):wpS (ao prog w) A E s (ZaL left q xs b n p) Q st:=by
 have dn:∀i j,i<=j->j<n->frk left (kf q) (ky kf xs (b+j))=true->frk left (kf q) (ky kf xs (b+i))=true:=λi j ij jn fj=>Zj0 (hu i j ij jn) fj;have step:∀{i:Nat}{Q:Option Bool->cg->Prop},i<n->Q (some (frk left (kf q) (ky kf xs (b+i)))) st->wpS (ao prog w) A E s (ZmC left q xs b i) Q st:=λ{i Q} hi hQ=>by
  have e:xs[b+i]?=some (xs[b+i]'⋯):=getElem?_pos xs (b+i) ⋯
  have ek:ky kf xs (b+i)=kf (xs[b+i]'⋯):=by unfold ky;rw[e]
  rw[ek]at hQ;unfold ZmC;refine ar (ZT e ?_);cases left with
  |true=>exact C.cmp st _ _ _ hB (hg _ _ e) hq hQ
  |false=>exact ar (C.cmp st _ _ _ hB hq (hg _ _ e) (aA hQ))
 rw[ZhX];refine ar (step hp ?_);cases z:frk left (kf q) (ky kf xs (b+p))with
 |true=>exact Zsb (f:=λi=>frk left (kf q) (ky kf xs (b+i))) step dn h hp z
 |false=>exact Zsc (f:=λi=>frk left (kf q) (ky kf xs (b+i))) step dn h hp z
end
end ST
namespace ST
open PyProof.Rows
section
variable {kf:aN->List Int}{x y z:Array aN}{u v:Nat}
theorem Za3{z:Array aN}:ky kf (z.push p) j=if j=z.size then kf p else ky kf z j:=by
 unfold ky;rw[mo];by_cases c:j=z.size
 .rw[if_pos c,if_pos c]
 .rw[if_neg c,if_neg c]
theorem ZN{x:Array aN}(h:i<x.size):ky kf x i=kf x[i]:=by unfold ky;rw[getElem?_pos x i h]
structure MI(kf:aN->List Int) (x y z:Array aN) (u v:Nat):Prop where
 p:z.toList.Perm (x.toList.take u++y.toList.take v)
 s:Up kf z z.size
 a:∀i,u<=i->i<x.size->∀j,j<z.size->le (ky kf z j) (ky kf x i)
 b:∀i,v<=i->i<y.size->∀j,j<z.size->le (ky kf z j) (ky kf y i)
 lu:u<=x.size
 lv:v<=y.size
theorem MI.sym(h:MI kf x y z u v):MI kf y x z v u:=⟨h.p.trans gk,h.s,h.b,h.a,h.lv,h.lu⟩
theorem Up.push{z:Array aN}(h:Up kf z z.size)(hp:∀j,j<z.size->le (ky kf z j) (kf p)):Up kf (z.push p) (z.push p).size:=by
 intro i j ij hj;rw[dY]at hj;rw[Za3,Za3];by_cases c:j=z.size
 .rw[if_pos c];by_cases d:i=z.size
  .rw[if_pos d];exact Zcn _
  .rw[if_neg d];exact hp i ⋯
 .rw[if_neg c,if_neg ⋯]
  exact h i j ij ⋯
theorem MI.pushX(h:MI kf x y z u v)(sx:Up kf x x.size)(sy:Up kf y y.size)(hu:u<x.size)(hy:v<y.size->le (ky kf x u) (ky kf y v)):MI kf x y (z.push x[u]) (u+1) v:=by
 refine⟨?_,h.s.push λj hj=>by rw[<-ZN (kf:=kf) hu];exact h.a u (af _) hu j hj,λi hi hx j hj=>?_,λi hi hyy j hj=>?_,hu,h.lv⟩
 .rw[gq,List.take_succ,bn,getElem?_pos x u hu];refine(h.p.append_right _).trans ?_;show(x.toList.take u++y.toList.take v++[x[u]]).Perm (x.toList.take u++[x[u]]++y.toList.take v);rw[cU,cU];exact gk.append_left _
 .rw[dY]at hj;rw[Za3];by_cases c:j=z.size
  .rw[if_pos c,<-ZN (kf:=kf) hu];exact sx u i ⋯ hx
  .rw[if_neg c];exact h.a i ⋯ hx j ⋯
 .rw[dY]at hj;rw[Za3];by_cases c:j=z.size
  .rw[if_pos c,<-ZN (kf:=kf) hu];exact ZbY (hy ⋯) (sy v i hi hyy)
  .rw[if_neg c];exact h.b i hi hyy j ⋯
theorem MI.pushY(h:MI kf x y z u v)(sx:Up kf x x.size)(sy:Up kf y y.size)(hv:v<y.size)(hx:u<x.size->le (ky kf y v) (ky kf x u)):MI kf x y (z.push y[v]) u (v+1):=(h.sym.pushX sy sx hv hx).sym
theorem ZfL{x:Array aN}{u:Nat}(h:u+k<x.size):x.extract u (u+(k+1))=(x.extract u (u+k)).push x[u+k]:=by
 apply gM.mp;rw[gq,dP,dP,cS,cS,show u+(k+1)-u=k+1 by lia,show u+k-u=k by lia,List.take_succ,ii,bn,getElem?_pos x (u+k) h]
 rfl
theorem MI.chunkX(sx:Up kf x x.size)(sy:Up kf y y.size)(h:MI kf x y z u v):∀k,u+k<=x.size->(∀i,i<k->v<y.size->le (ky kf x (u+i)) (ky kf y v))->MI kf x y (z++x.extract u (u+k)) (u+k) v
 |0,_,_=>by
  have:x.extract u (u+0)= #[]:=by
   apply gM.mp;rw[dP,cS];simp
  rw[this,Array.append_empty];exact h
 |k+1,hk,hc=>by
  have ih:=MI.chunkX sx sy h k ⋯ λi hi=>hc i ⋯
  rw[ZfL ⋯,Array.append_push]
  exact ih.pushX sx sy ⋯ λhv=>hc k ⋯ hv
theorem MI.chunkY(sx:Up kf x x.size)(sy:Up kf y y.size)(h:MI kf x y z u v)(k:Nat)(hk:v+k<=y.size)(hc:∀i,i<k->u<x.size->le (ky kf y (v+i)) (ky kf x u)):MI kf x y (z++y.extract v (v+k)) u (v+k):=(MI.chunkX sy sx h.sym k hk hc).sym
def Md(kf:aN->List Int)(x y out:Array aN):Prop:=out.Perm (x++y)/\Up kf out out.size
theorem MI.md(h:MI kf x y out x.size y.size):Md kf x y out:=by
 refine⟨b7.mpr ?_,h.s⟩
 have:=h.p
 rw[cu (by simp),cu (by simp)]at this
 rw[cE];exact this
theorem MI.fin(sx:Up kf x x.size)(sy:Up kf y y.size)(h:MI kf x y z u v)(he:u=x.size\/v=y.size):Md kf x y (z++x.extract u x.size++y.extract v y.size):=by
 have lu:=h.lu;have lv:=h.lv;have h1:=h.chunkX sx sy (x.size-u) ⋯ λi hi hv=>⋯
 rw[show u+(x.size-u)=x.size by lia]at h1
 have h2:=h1.chunkY sx sy (y.size-v) ⋯ λi hi hu=>⋯
 rw[show v+(y.size-v)=y.size by lia]at h2
 exact h2.md
theorem MI.tail(sx:Up kf x x.size)(sy:Up kf y y.size)(h:MI kf x y z u v)(he:u+1=x.size)(hl:∀i,i<y.size->le (ky kf y i) (ky kf x (x.size-1))):Md kf x y (z++y.extract v y.size++x.extract u x.size):=by
 have lv:=h.lv;have h1:=h.chunkY sx sy (y.size-v) ⋯ λi hi hu=>by
  rw[show u=x.size-1 by lia]
  exact hl _ ⋯
 rw[show v+(y.size-v)=y.size by lia]at h1
 have h2:=h1.chunkX sx sy (x.size-u) ⋯ λi hi hv=>⋯
 rw[show u+(x.size-u)=x.size by lia]at h2
 exact h2.md
end
noncomputable abbrev R7:=Option (Array aN)×Array aN×Nat×Nat×Nat×Nat×Nat
noncomputable abbrev R6:=Option (Array aN)×Array aN×Nat×Nat×Nat×Nat
noncomputable abbrev R5:=Option (Array aN)×Array aN×Nat×Nat×Nat
section
variable (x y:Array aN)
noncomputable abbrev fi(z:Array aN)(u v:Nat):=z++x.extract u x.size++y.extract v y.size
noncomputable abbrev tl(z:Array aN)(u v:Nat):=z++y.extract v y.size++x.extract u x.size
def lo3(z:Array aN)(u v g c d:Nat):SM (ForInStep R7):=do
 let e <-elem' x u
 if u+1+1==x.size then pure (.done (some (tl x y (z.push e) (u+1) v),z.push e,u+1,v,g,c,d))
 else if decide (c<7)&&decide (d<7)then pure (.done (none,z.push e,u+1,v,g,c,d))else pure (.yield (none,z.push e,u+1,v,g,c,d))
def lo2(z:Array aN)(u v g c d:Nat):SM (ForInStep R7):=do
 let e <-elem' y v
 if v+1==y.size then pure (.done (some (fi x y (z.push e) u (v+1)),z.push e,u,v+1,g,c,d))
 else do
  let e2 <-elem' x u
  match <-ZaL true e2 y (v+1) (y.size-(v+1)) 0 with
  |some k=>
   if k>0 then
    if v+1+k==y.size then pure (.done (some (fi x y (z.push e++y.extract (v+1) (v+1+k)) u (v+1+k)),z.push e++y.extract (v+1) (v+1+k),u,v+1+k,g,c,k))
    else lo3 x y (z.push e++y.extract (v+1) (v+1+k)) u (v+1+k) g c k
   else lo3 x y (z.push e) u (v+1) g c k
  |_=>pure (.done (some (fi x y (z.push e) u (v+1)),z.push e,u,v+1,g,c,d))
def lo1(z:Array aN)(u v g c d:Nat):SM (ForInStep R7):=do
 Zcp g
 let e <-elem' y v
 match <-ZaL false e x u (x.size-u) 0 with
 |some k=>
  if k>0 then
   if u+k+1==x.size then pure (.done (some (tl x y (z++x.extract u (u+k)) (u+k) v),z++x.extract u (u+k),u+k,v,g,k,d))
   else if u+k==x.size then pure (.done (some (fi x y (z++x.extract u (u+k)) (u+k) v),z++x.extract u (u+k),u+k,v,g,k,d))
   else lo2 x y (z++x.extract u (u+k)) (u+k) v g k d
  else lo2 x y z u v g k d
 |_=>pure (.done (some (fi x y z u v),z,u,v,g,c,d))
def lo0(g:Nat)(z:Array aN)(u v c d:Nat):SM (ForInStep R6):=do
 let a <-elem' y v
 let b <-elem' x u
 match <-lt' a b with
 |some w=>
  if w then do
   let e <-elem' y v
   if v+1==y.size then pure (.done (some (fi x y (z.push e) u (v+1)),z.push e,u,v+1,0,d+1))
   else if d+1 ≥ g then pure (.done (none,z.push e,u,v+1,0,d+1))else pure (.yield (none,z.push e,u,v+1,0,d+1))
  else do
   let e <-elem' x u
   if u+1+1==x.size then pure (.done (some (tl x y (z.push e) (u+1) v),z.push e,u+1,v,c+1,0))
   else if c+1 ≥ g then pure (.done (none,z.push e,u+1,v,c+1,0))else pure (.yield (none,z.push e,u+1,v,c+1,0))
 |_=>pure (.done (some (fi x y z u v),z,u,v,c,d))
def loA(z:Array aN)(u v g:Nat):SM (ForInStep R5):=do
 let s <-forIn [0:x.size+y.size] ((none,z,u,v,0,0):R6) λ_ s=>lo0 x y g s.2.1 s.2.2.1 s.2.2.2.1 s.2.2.2.2.1 s.2.2.2.2.2
 match s.1 with
 |some r=>pure (.done (some r,s.2.1,s.2.2.1,s.2.2.2.1,g))
 |none=>do
  liftM (PySem.rule "list.sort.gallop")
  let t <-forIn [0:x.size+y.size] ((none,s.2.1,s.2.2.1,s.2.2.2.1,g+1,s.2.2.2.2.1,s.2.2.2.2.2):R7) λ_ s=>
   if s.2.2.2.2.1>1 then lo1 x y s.2.1 s.2.2.1 s.2.2.2.1 (s.2.2.2.2.1-1) s.2.2.2.2.2.1 s.2.2.2.2.2.2 else lo1 x y s.2.1 s.2.2.1 s.2.2.2.1 s.2.2.2.2.1 s.2.2.2.2.2.1 s.2.2.2.2.2.2
  match t.1 with
  |some r=>pure (.done (some r,t.2.1,t.2.2.1,t.2.2.2.1,t.2.2.2.2.1))
  |none=>do
   Zcp (t.2.2.2.2.1+1)
   pure (.yield (none,t.2.1,t.2.2.1,t.2.2.2.1,t.2.2.2.2.1+1))
theorem Zsd:Zde x y=(do
  liftM (PySem.rule "list.sort.merge-lo")
  let e <-elem' y 0
  if 1==y.size then pure (fi x y #[e] 0 1)
  else if 0+1==x.size then pure (tl x y #[e] 0 1)
  else do
   let st <-get
   let s <-forIn [0:x.size+y.size] ((none,#[e],0,1,gallopOf st):R5) λ_ s=>loA x y s.2.1 s.2.2.1 s.2.2.2.1 s.2.2.2.2
   match s.1 with
   |some r=>pure r
   |none=>liftM (nD "internal:list.sort.merge-bound":Sem _)):=by
 kernel_rfl
end
section
variable {prog:cD}{w:da}{A:dg}{E:Vp}{s:aB}{kf:aN->List Int}{G:aN->Prop}{B:cg->Prop}{st:cg}{x y z:Array aN}{u v g c d:Nat}
def En(R:ForInStep R7->cg->Prop)(st:cg)(kf:aN->List Int)(x y:Array aN)(N:Nat):Prop:=
 (∀out r,Md kf x y out->R (.done (some out,r)) st)/\∀z u v g c d,MI kf x y z u v->u+1<x.size->v<y.size->N<=u+v->R (.done (none,z,u,v,g,c,d)) st/\R (.yield (none,z,u,v,g,c,d)) st
section
variable {R:ForInStep R7->cg->Prop}{N:Nat}(q:En R st kf x y N)(sx:Up kf x x.size)(sy:Up kf y y.size)(hl:∀i,i<y.size->le (ky kf y i) (ky kf x (x.size-1)))(hI:MI kf x y z u v)(hu:u+1<x.size)(hv:v<y.size)
include q sx sy hl hI hu hv
theorem Zpf(hle:le (ky kf x u) (ky kf y v))(hN:N<=u+v+1):wpS (ao prog w) A E s (lo3 x y z u v g c d) R st:=by
 have hu':u<x.size:=⋯
 unfold lo3;refine ar (ZT (getElem?_pos x u hu') ?_);have m1:=hI.pushX sx sy hu' λ_=>hle;by_cases c1:u+1+1=x.size
 .rw[if_pos (by simpa using c1)]
  exact aA (q.1 _ _ (m1.tail sx sy c1 hl))
 .rw[if_neg (by simpa using c1)]
  have q:=q.2 _ _ _ g c d m1 ⋯ hv ⋯
  split
  .exact aA q.1
  .exact aA q.2
variable (C:Cp (ao prog w) A E s kf G B)(hB:B st)(gx:Gs G x)(gy:Gs G y)
include C hB gx gy
theorem Zpg(hlt:le (ky kf y v) (ky kf x u))(hN:N<=u+v+2):wpS (ao prog w) A E s (lo2 x y z u v g c d) R st:=by
 have hu':u<x.size:=⋯
 unfold lo2;refine ar (ZT (getElem?_pos y v hv) ?_);have m1:=hI.pushY sx sy hv λ_=>hlt;by_cases c1:v+1=y.size
 .rw[if_pos (by simpa using c1)]
  exact aA (q.1 _ _ (m1.fin sx sy (.inr c1)))
 rw[if_neg (by simpa using c1)]
 refine ar (ZT (getElem?_pos x u hu') (ar (Zbc C hB (gx u _ (getElem?_pos x u hu')) gy ⋯ ⋯ (λi j ij jn=>sy _ _ ⋯ ⋯) λk kn a1 a2=>?_)))
 have a2:v+1+k<y.size->le (ky kf x u) (ky kf y (v+1+k)):=λhk=>by
  have:=a2 k (af _) ⋯
  rw[<-ZN (kf:=kf) hu']at this;exact this
 dsimp only;by_cases ck:k>0
 .rw[if_pos ck];have m4:=m1.chunkY sx sy k ⋯ λi hi _=>by
   have:=a1 i hi
   rw[<-ZN (kf:=kf) hu']at this;exact ZbG this
  by_cases e3:v+1+k=y.size
  .rw[if_pos (by simpa using e3)]
   exact aA (q.1 _ _ (m4.fin sx sy (.inr e3)))
  .rw[if_neg (by simpa using e3)]
   exact Zpf q sx sy hl m4 hu ⋯ (a2 ⋯) ⋯
 .rw[if_neg ck];obtain rfl:k=0:=⋯
  exact Zpf q sx sy hl m1 hu ⋯ (a2 ⋯) ⋯
omit q hB in
theorem Zse(q:En R (ZcT st g) kf x y N)(hB:B (ZcT st g))(hN:N<=u+v+1):wpS (ao prog w) A E s (lo1 x y z u v g c d) R st:=by
 unfold lo1;rw[Zbb];refine ar (gE (ar (ZT (getElem?_pos y v hv) (ar (Zbc C hB (gy v _ (getElem?_pos y v hv)) gx ⋯ ⋯ (λi j ij jn=>sx _ _ ⋯ ⋯) λk kn a1 a2=>?_)))))
 have f2:u+k<x.size->le (ky kf y v) (ky kf x (u+k)):=λhn=>by
  have q:=a2 k (af _) ⋯
  unfold frk at q;rw[if_neg (by simp),jE,<-ZN (kf:=kf) hv]at q
  exact ZbG q
 dsimp only;by_cases ck:k>0
 .rw[if_pos ck];have mk:=hI.chunkX sx sy k ⋯ λi hi _=>by
   have q:=a1 i hi;unfold frk at q;rw[if_neg (by simp),gn,<-ZN (kf:=kf) hv]at q
   exact q
  by_cases e1:u+k+1=x.size
  .rw[if_pos (by simpa using e1)]
   exact aA (q.1 _ _ (mk.tail sx sy e1 hl))
  rw[if_neg (by simpa using e1)]
  by_cases e2:u+k=x.size
  .rw[if_pos (by simpa using e2)]
   exact aA (q.1 _ _ (mk.fin sx sy (.inl e2)))
  rw[if_neg (by simpa using e2)]
  exact Zpg q sx sy hl mk ⋯ hv C hB gx gy (f2 ⋯) ⋯
 .rw[if_neg ck];obtain rfl:k=0:=⋯
  exact Zpg q sx sy hl hI hu hv C hB gx gy (f2 ⋯) ⋯
end
theorem Zsf(C:Cp (ao prog w) A E s kf G B)(hB:B st)(gx:Gs G x)(gy:Gs G y)(sx:Up kf x x.size)(sy:Up kf y y.size)(hl:∀i,i<y.size->le (ky kf y i) (ky kf x (x.size-1)))(hI:MI kf x y z u v)(hu:u+1<x.size)(hv:v<y.size)(q1:∀out r,Md kf x y out->R (.done (some out,r)) st)(q2:∀z' u' v' c d,MI kf x y z' u' v'->u'+1<x.size->v'<y.size->u+v<=u'+v'->R (.done (none,z',u',v',c,d)) st/\R (.yield (none,z',u',v',c,d)) st):wpS (ao prog w) A E s (lo0 x y g z u v c d) R st:=by
 have hu2:u<x.size:=⋯
 have ex:=getElem?_pos x u hu2;have ey:=getElem?_pos y v hv;unfold lo0;refine ar (ZT ey (ar (ZT ex (ar (C.cmp st _ _ _ hB (gy v _ ey) (gx u _ ex) ?_)))));rw[<-ZN (kf:=kf) hu2,<-ZN (kf:=kf) hv];dsimp only;cases wn:lt (ky kf y v) (ky kf x u)with
 |true=>
  rw[if_pos rfl];refine ar (ZT ey ?_);have m1:=hI.pushY sx sy hv λ_=>ZbG wn;by_cases c3:v+1=y.size
  .rw[if_pos (by simpa using c3)]
   exact aA (q1 _ _ (m1.fin sx sy (.inr c3)))
  .rw[if_neg (by simpa using c3)]
   have q:=q2 _ _ _ 0 (d+1) m1 hu ⋯ ⋯
   split
   .exact aA q.1
   .exact aA q.2
 |false=>
  rw[if_neg (by simp)]
  refine ar (ZT ex ?_);have m1:=hI.pushX sx sy hu2 λ_=>wn;by_cases c3:u+1+1=x.size
  .rw[if_pos (by simpa using c3)]
   exact aA (q1 _ _ (m1.tail sx sy c3 hl))
  .rw[if_neg (by simpa using c3)]
   have q:=q2 _ _ _ (c+1) 0 m1 ⋯ hv ⋯
   split
   .exact aA q.1
   .exact aA q.2
theorem Zsg(C:Cp (ao prog w) A E s kf G B)(hB:B st)(gx:Gs G x)(gy:Gs G y)(sx:Up kf x x.size)(sy:Up kf y y.size)(hl:∀i,i<y.size->le (ky kf y i) (ky kf x (x.size-1)))(hI:MI kf x y z u v)(hu:u+1<x.size)(hv:v<y.size)(q1:∀out r t,B t->arrOf t=arrOf st->pendingOf t=pendingOf st->Md kf x y out->R (.done (some out,r)) t)(q2:∀z' u' v' g t,B t->arrOf t=arrOf st->pendingOf t=pendingOf st->MI kf x y z' u' v'->u'+1<x.size->v'<y.size->u+v<u'+v'->R (.yield (none,z',u',v',g)) t):wpS (ao prog w) A E s (loA x y z u v g) R st:=by
 unfold loA;refine ar (fL (cj (λn r t'=>t'=st/\∃z' u' v' c d,r=(none,z',u',v',c,d)/\(MI kf x y z' u' v'/\u'+1<x.size/\v'<y.size)/\u+v<=u'+v') (Q:=λ(r:R6) t'=>t'=st/\((∃out rr,r=(some out,rr)/\Md kf x y out)\/∃z' u' v' c d,r=(none,z',u',v',c,d)/\(MI kf x y z' u' v'/\u'+1<x.size/\v'<y.size)/\u+v<=u'+v')) (λn r t' _ nn hI=>?_) (λr t' hI=>⟨hI.1,.inr hI.2⟩) ⟨rfl,z,u,v,0,0,rfl,⟨hI,hu,hv⟩,af _⟩) λr t' hI=>?_)
 .obtain⟨rfl,z',u',v',c,d,rfl,⟨m',hu',hv'⟩,hn'⟩:=hI;dsimp only;exact Zsf C hB gx gy sx sy hl m' hu' hv' (λout r md=>⟨rfl,.inl ⟨out,r,rfl,md⟩⟩) λz' u' v' c d m h1 h2 h3=>⟨⟨rfl,.inr ⟨_,_,_,_,_,rfl,⟨m,h1,h2⟩,⋯⟩⟩,rfl,_,_,_,_,_,rfl,⟨m,h1,h2⟩,⋯⟩
 obtain⟨rfl,hI⟩:=hI;rcases hI with⟨out,rr,rfl,md⟩|⟨z',u',v',c,d,rfl,⟨m',hu',hv'⟩,hn'⟩
 .exact aA (q1 _ _ _ hB rfl rfl md)
 refine ar (kq (wpAny_rule ⟨rfl,ar (fL (cj (λn r t=>(B t/\arrOf t=arrOf t'/\pendingOf t=pendingOf t')/\∃z u v g c d,r=(none,z,u,v,g,c,d)/\(MI kf x y z u v/\u+1<x.size/\v<y.size)/\u'+v'+n<=u+v) (Q:=λ(r:R7) t=>(B t/\arrOf t=arrOf t'/\pendingOf t=pendingOf t')/\((∃out rr,r=(some out,rr)/\Md kf x y out)\/∃z u v g c d,r=(none,z,u,v,g,c,d)/\(MI kf x y z u v/\u+1<x.size/\v<y.size)/\u'+v'+1<=u+v)) (λn r t _ nn hI=>?_) (λr t hI=>?_) ⟨⟨hB,rfl,rfl⟩,z',u',v',g+1,c,d,rfl,⟨m',hu',hv'⟩,⋯⟩) λr t hI=>?_)⟩))
 .obtain⟨⟨d1,d2,d3⟩,z,u,v,g,c,d,rfl,⟨m,hu,hv⟩,hn⟩:=hI;dsimp only
  split<;>exact Zse sx sy hl m hu hv C gx gy (N:=u+v+1) ⟨λout r md=>⟨⟨C.gal t _ d1,d2,d3⟩,.inl ⟨out,r,rfl,md⟩⟩,λz' u' v' g c d m h1 h2 h3=>⟨⟨⟨C.gal t _ d1,d2,d3⟩,.inr ⟨_,_,_,_,_,_,rfl,⟨m,h1,h2⟩,⋯⟩⟩,⟨C.gal t _ d1,d2,d3⟩,_,_,_,_,_,_,rfl,⟨m,h1,h2⟩,⋯⟩⟩ (C.gal t _ d1) (af _)
 .obtain⟨hs,z,u,v,g,c,d,rfl,iv,hn⟩:=hI;exact⟨hs,.inr ⟨z,u,v,g,c,d,rfl,iv,⋯⟩⟩
 obtain⟨⟨d1,d2,d3⟩,hI⟩:=hI;rcases hI with⟨out,rr,rfl,md⟩|⟨z,u,v,g,c,d,rfl,⟨m,h1,h2⟩,hn2⟩
 .exact aA (q1 _ _ _ d1 d2 d3 md)
 .dsimp only;rw[Zbb];exact ar (gE (aA (q2 _ _ _ _ _ (C.gal t _ d1) d2 d3 m h1 h2 ⋯)))
theorem Zvm(C:Cp (ao prog w) A E s kf G B)(hB:B st)(gx:Gs G x)(gy:Gs G y)(sx:Up kf x x.size)(sy:Up kf y y.size)(x1:1<=x.size)(y1:1<=y.size)(h0:le (ky kf y 0) (ky kf x 0))(hl:∀i,i<y.size->le (ky kf y i) (ky kf x (x.size-1)))(h:∀out t,B t->arrOf t=arrOf st->pendingOf t=pendingOf st->Md kf x y out->Q out t):wpS (ao prog w) A E s (Zde x y) Q st:=by
 rw[Zsd];refine ar (kq (wpAny_rule ⟨rfl,ar (ZT (getElem?_pos y 0 y1) ?_)⟩));have m0:MI kf x y #[y[0]] 0 1:=by
  have e:MI kf x y #[] 0 0:=⟨by simp,λi j ij hj=>by simp at hj,λ_ _ _ j hj=>by simp at hj,λ_ _ _ j hj=>by simp at hj,⋯,⋯⟩
  exact e.pushY sx sy y1 λ_=>h0
 by_cases c1:1=y.size
 .rw[if_pos (by simpa using c1)]
  exact aA (h _ st hB rfl rfl (m0.fin sx sy (.inr c1)))
 rw[if_neg (by simpa using c1)]
 by_cases c2:0+1=x.size
 .rw[if_pos (by simpa using c2)]
  exact aA (h _ st hB rfl rfl (m0.tail sx sy c2 hl))
 rw[if_neg (by simpa using c2)]
 refine ar (jg (ar (fL (cj (λn r t=>(B t/\arrOf t=arrOf st/\pendingOf t=pendingOf st)/\∃z u v g,r=(none,z,u,v,g)/\(MI kf x y z u v/\u+1<x.size/\v<y.size)/\n+1<=u+v) (Q:=λ(r:R5) t=>(B t/\arrOf t=arrOf st/\pendingOf t=pendingOf st)/\∃out rr,r=(some out,rr)/\Md kf x y out) (λn r t _ nn hI=>?_) (λr t hI=>?_) ⟨⟨hB,rfl,rfl⟩,_,_,_,_,rfl,⟨m0,⋯,⋯⟩,⋯⟩) λr t hI=>?_)))
 .obtain⟨⟨b1,b2,b3⟩,z,u,v,g,rfl,⟨m,hu,hv⟩,hn⟩:=hI;dsimp only;exact Zsg C b1 gx gy sx sy hl m hu hv (λout r t d1 d2 d3 md=>⟨⟨d1,d2.trans b2,d3.trans b3⟩,out,r,rfl,md⟩) λz' u' v' g t d1 d2 d3 m h1 h2 h3=>⟨⟨d1,d2.trans b2,d3.trans b3⟩,_,_,_,_,rfl,⟨m,h1,h2⟩,⋯⟩
 .obtain⟨_,z,u,v,g,rfl,⟨m,hu,hv⟩,hn⟩:=hI;lia
 .obtain⟨⟨b1,b2,b3⟩,out,rr,rfl,md⟩:=hI;exact aA (h out t b1 b2 b3 md)
end
end ST
namespace ST
open PyProof.Rows
section
variable {kf:aN->List Int}{x y z:Array aN}{u v:Nat}
structure MH(kf:aN->List Int) (x y z:Array aN) (u v:Nat):Prop where
 p:z.toList.Perm (x.toList.drop u++y.toList.drop v)
 s:Dn kf z z.size
 a:∀i,i<u->∀j,j<z.size->le (ky kf x i) (ky kf z j)
 b:∀i,i<v->∀j,j<z.size->le (ky kf y i) (ky kf z j)
 lu:u<=x.size
 lv:v<=y.size
theorem MH.sym(h:MH kf x y z u v):MH kf y x z v u:=⟨h.p.trans gk,h.s,h.b,h.a,h.lv,h.lu⟩
theorem Dn.push{z:Array aN}(h:Dn kf z z.size)(hp:∀j,j<z.size->le (kf p) (ky kf z j)):Dn kf (z.push p) (z.push p).size:=by
 intro i j ij hj;rw[dY]at hj;rw[Za3,Za3];by_cases c:j=z.size
 .rw[if_pos c];by_cases d:i=z.size
  .rw[if_pos d];exact Zcn _
  .rw[if_neg d];exact hp i ⋯
 .rw[if_neg c,if_neg ⋯]
  exact h i j ij ⋯
theorem MH.pushX(h:MH kf x y z (u+1) v)(sx:Up kf x x.size)(sy:Up kf y y.size)(hy:0<v->le (ky kf y (v-1)) (ky kf x u)):MH kf x y (z.push (x[u]'(h.lu))) u v:=by
 have hu:u<x.size:=h.lu;have lv:=h.lv;refine⟨?_,h.s.push λj hj=>by rw[<-ZN (kf:=kf) hu];exact h.a u ⋯ j hj,λi hi j hj=>?_,λi hi j hj=>?_,⋯,h.lv⟩
 .rw[gq,cQ (i:=u) (by simpa using hu)]
  refine(h.p.append_right _).trans ?_;show(x.toList.drop (u+1)++y.toList.drop v++[x[u]]).Perm (x[u]::x.toList.drop (u+1)++y.toList.drop v);exact gk
 .rw[dY]at hj;rw[Za3];by_cases c:j=z.size
  .rw[if_pos c,<-ZN (kf:=kf) hu];exact sx i u ⋯ hu
  .rw[if_neg c];exact h.a i ⋯ j ⋯
 .rw[dY]at hj;rw[Za3];by_cases c:j=z.size
  .rw[if_pos c,<-ZN (kf:=kf) hu];exact ZbY (sy i (v-1) ⋯ ⋯) (hy ⋯)
  .rw[if_neg c];exact h.b i hi j ⋯
theorem MH.pushY(h:MH kf x y z u (v+1))(sx:Up kf x x.size)(sy:Up kf y y.size)(hx:0<u->le (ky kf x (u-1)) (ky kf y v)):MH kf x y (z.push (y[v]'(h.lv))) u v:=(h.sym.pushX sy sx hx).sym
theorem ZmD{x:Array aN}(h:r+k<x.size):(x.extract r (r+(k+1))).reverse= #[x[r+k]]++(x.extract r (r+k)).reverse:=by
 rw[ZfL h];apply gM.mp;rw[gF,gq,List.reverse_append,cE,gF];rfl
theorem MH.chunkX(sx:Up kf x x.size)(sy:Up kf y y.size):∀(k r:Nat)(z:Array aN),MH kf x y z (r+k) v->(∀i,r<=i->i<r+k->0<v->le (ky kf y (v-1)) (ky kf x i))->MH kf x y (z++(x.extract r (r+k)).reverse) r v
 |0,r,z,h,_=>by
  have:(x.extract r (r+0)).reverse= #[]:=by
   apply gM.mp;rw[gF,dP,cS];simp
  rw[this,Array.append_empty];exact h
 |k+1,r,z,h,hc=>by
  have lu:=h.lu;have m1:=MH.pushX (u:=r+k) h sx sy λhv=>hc (r+k) ⋯ ⋯ hv
  have ih:=MH.chunkX sx sy k r _ m1 λi a b=>hc i a ⋯
  rw[ZmD ⋯,<-jt]
  exact ih
theorem MH.cX(sx:Up kf x x.size)(sy:Up kf y y.size)(h:MH kf x y z u v)(hr:r<=u)(hc:∀i,r<=i->i<u->0<v->le (ky kf y (v-1)) (ky kf x i)):MH kf x y (z++(x.extract r u).reverse) r v:=by
 have:=MH.chunkX sx sy (u-r) r z (by rw[show r+(u-r)=u by lia];exact h) λi a b=>hc i a ⋯
 rw[show r+(u-r)=u by lia]at this
 exact this
theorem MH.cY(sx:Up kf x x.size)(sy:Up kf y y.size)(h:MH kf x y z u v)(hr:r<=v)(hc:∀i,r<=i->i<v->0<u->le (ky kf x (u-1)) (ky kf y i)):MH kf x y (z++(y.extract r v).reverse) u r:=(MH.cX sy sx h.sym hr hc).sym
theorem MH.md(h:MH kf x y z 0 0):Md kf x y z.reverse:=by
 refine⟨b7.mpr ?_,λi j ij hj=>?_⟩
 .have:=h.p
  rw[lM,lM]at this;rw[cE,gF];exact(List.reverse_perm _).trans this
 .have k:∀i,i<z.size->ky kf z.reverse i=ky kf z (z.size-1-i):=λi hi=>by
   unfold ky;rw[Array.getElem?_reverse hi]
  rw[Array.size_reverse]at hj;rw[k i ⋯,k j hj]
  exact h.s _ _ ⋯ ⋯
theorem MH.fin(sx:Up kf x x.size)(sy:Up kf y y.size)(h:MH kf x y z u v)(he:u=0\/v=0):Md kf x y (x.extract 0 u++y.extract 0 v++z.reverse):=by
 have h1:=h.cY sx sy (cI v) λi a b c=>⋯
 have h2:=(h1.cX sx sy (cI u) λi a b c=>⋯).md
 simpa using h2
theorem MH.tail(sx:Up kf x x.size)(sy:Up kf y y.size)(h:MH kf x y z u v)(he:v=1)(hl:∀i,i<x.size->le (ky kf y 0) (ky kf x i)):Md kf x y (y.extract 0 v++x.extract 0 u++z.reverse):=by
 have lu:=h.lu;have h1:=h.cX sx sy (cI u) λi a b c=>by
  subst he;exact hl i ⋯
 have h2:=(h1.cY sx sy (cI v) λi a b c=>⋯).md
 simpa using h2
end
noncomputable abbrev H7:=Option (Array aN)×Nat×Nat×Array aN×Nat×Nat×Nat
noncomputable abbrev H6:=Option (Array aN)×Nat×Nat×Array aN×Nat×Nat
noncomputable abbrev H5:=Option (Array aN)×Nat×Nat×Array aN×Nat
section
variable (x y:Array aN)
noncomputable abbrev fh(z:Array aN)(u v:Nat):=x.extract 0 u++y.extract 0 v++z.reverse
noncomputable abbrev th(z:Array aN)(u v:Nat):=y.extract 0 v++x.extract 0 u++z.reverse
def hi3(z:Array aN)(u v g c d:Nat):SM (ForInStep H7):=do
 let e <-elem' x (u-1)
 if u-1==0 then pure (.done (some (fh x y (z.push e) (u-1) v),u-1,v,z.push e,g,c,d))
 else if decide (c<7)&&decide (d<7)then pure (.done (none,u-1,v,z.push e,g,c,d))else pure (.yield (none,u-1,v,z.push e,g,c,d))
def hi2(z:Array aN)(u v g c d:Nat):SM (ForInStep H7):=do
 let e <-elem' y (v-1)
 if v-1==1 then pure (.done (some (th x y (z.push e) u (v-1)),u,v-1,z.push e,g,c,d))
 else do
  let e2 <-elem' x (u-1)
  match <-ZaL true e2 y 0 (v-1) (v-1-1)with
  |some r=>
   if v-1-r>0 then
    if r==1 then pure (.done (some (th x y (z.push e++(y.extract r (v-1)).reverse) u r),u,r,z.push e++(y.extract r (v-1)).reverse,g,c,v-1-r))
    else if r==0 then pure (.done (some (fh x y (z.push e++(y.extract r (v-1)).reverse) u r),u,r,z.push e++(y.extract r (v-1)).reverse,g,c,v-1-r))
    else hi3 x y (z.push e++(y.extract r (v-1)).reverse) u r g c (v-1-r)
   else hi3 x y (z.push e) u (v-1) g c (v-1-r)
  |_=>pure (.done (some (fh x y (z.push e) u (v-1)),u,v-1,z.push e,g,c,d))
def hi1(z:Array aN)(u v g c d:Nat):SM (ForInStep H7):=do
 Zcp g
 let e <-elem' y (v-1)
 match <-ZaL false e x 0 u (u-1)with
 |some r=>
  if u-r>0 then
   if r==0 then pure (.done (some (fh x y (z++(x.extract r u).reverse) r v),r,v,z++(x.extract r u).reverse,g,u-r,d))
   else hi2 x y (z++(x.extract r u).reverse) r v g (u-r) d
  else hi2 x y z u v g (u-r) d
 |_=>pure (.done (some (fh x y z u v),u,v,z,g,c,d))
def hi0(g:Nat)(z:Array aN)(u v c d:Nat):SM (ForInStep H6):=do
 let a <-elem' y (v-1)
 let b <-elem' x (u-1)
 match <-lt' a b with
 |some w=>
  if w then do
   let e <-elem' x (u-1)
   if u-1==0 then pure (.done (some (fh x y (z.push e) (u-1) v),u-1,v,z.push e,c+1,0))
   else if c+1 ≥ g then pure (.done (none,u-1,v,z.push e,c+1,0))else pure (.yield (none,u-1,v,z.push e,c+1,0))
  else do
   let e <-elem' y (v-1)
   if v-1==1 then pure (.done (some (th x y (z.push e) u (v-1)),u,v-1,z.push e,0,d+1))
   else if d+1 ≥ g then pure (.done (none,u,v-1,z.push e,0,d+1))else pure (.yield (none,u,v-1,z.push e,0,d+1))
 |_=>pure (.done (some (fh x y z u v),u,v,z,c,d))
def hiA(z:Array aN)(u v g:Nat):SM (ForInStep H5):=do
 let s <-forIn [0:x.size+y.size] ((none,u,v,z,0,0):H6) λ_ s=>hi0 x y g s.2.2.2.1 s.2.1 s.2.2.1 s.2.2.2.2.1 s.2.2.2.2.2
 match s.1 with
 |some r=>pure (.done (some r,s.2.1,s.2.2.1,s.2.2.2.1,g))
 |none=>do
  liftM (PySem.rule "list.sort.gallop")
  let t <-forIn [0:x.size+y.size] ((none,s.2.1,s.2.2.1,s.2.2.2.1,g+1,s.2.2.2.2.1,s.2.2.2.2.2):H7) λ_ s=>
   if s.2.2.2.2.1>1 then hi1 x y s.2.2.2.1 s.2.1 s.2.2.1 (s.2.2.2.2.1-1) s.2.2.2.2.2.1 s.2.2.2.2.2.2 else hi1 x y s.2.2.2.1 s.2.1 s.2.2.1 s.2.2.2.2.1 s.2.2.2.2.2.1 s.2.2.2.2.2.2
  match t.1 with
  |some r=>pure (.done (some r,t.2.1,t.2.2.1,t.2.2.2.1,t.2.2.2.2.1))
  |none=>do
   Zcp (t.2.2.2.2.1+1)
   pure (.yield (none,t.2.1,t.2.2.1,t.2.2.2.1,t.2.2.2.2.1+1))
theorem Zsh:Zdf x y=(do
  liftM (PySem.rule "list.sort.merge-hi")
  let e <-elem' x (x.size-1)
  if x.size-1==0 then pure (fh x y #[e] (x.size-1) y.size)
  else if y.size==1 then pure (th x y #[e] (x.size-1) y.size)
  else do
   let st <-get
   let s <-forIn [0:x.size+y.size] ((none,x.size-1,y.size,#[e],gallopOf st):H5) λ_ s=>hiA x y s.2.2.2.1 s.2.1 s.2.2.1 s.2.2.2.2
   match s.1 with
   |some r=>pure r
   |none=>liftM (nD "internal:list.sort.merge-bound":Sem _)):=by kernel_rfl
end
section
variable {prog:cD}{w:da}{A:dg}{E:Vp}{s:aB}{kf:aN->List Int}{G:aN->Prop}{B:cg->Prop}{st:cg}{x y z:Array aN}{u v g c d:Nat}
theorem MH.pX(h:MH kf x y z u v)(hu:0<u)(sx:Up kf x x.size)(sy:Up kf y y.size)(hy:0<v->le (ky kf y (v-1)) (ky kf x (u-1))):MH kf x y (z.push (x[u-1]'(by have:=h.lu;lia))) (u-1) v:=by
 obtain⟨k,rfl⟩:∃k,u=k+1:=⟨u-1,⋯⟩
 exact h.pushX sx sy hy
theorem MH.pY(h:MH kf x y z u v)(hv:0<v)(sx:Up kf x x.size)(sy:Up kf y y.size)(hx:0<u->le (ky kf x (u-1)) (ky kf y (v-1))):MH kf x y (z.push (y[v-1]'(by have:=h.lv;lia))) u (v-1):=by
 obtain⟨k,rfl⟩:∃k,v=k+1:=⟨v-1,⋯⟩
 exact h.pushY sx sy hx
def Eh(R:ForInStep H7->cg->Prop)(st:cg)(kf:aN->List Int)(x y:Array aN)(N:Nat):Prop:=
 (∀out r,Md kf x y out->R (.done (some out,r)) st)/\∀z u v g c d,MH kf x y z u v->0<u->1<v->u+v<=N->R (.done (none,u,v,z,g,c,d)) st/\R (.yield (none,u,v,z,g,c,d)) st
section
variable {R:ForInStep H7->cg->Prop}{N:Nat}(q:Eh R st kf x y N)(sx:Up kf x x.size)(sy:Up kf y y.size)(hl:∀i,i<x.size->le (ky kf y 0) (ky kf x i))(hI:MH kf x y z u v)(hu:0<u)(hv:1<v)
include q sx sy hI hu hv
theorem Zph(hle:le (ky kf y (v-1)) (ky kf x (u-1)))(hN:u+v<=N+1):wpS (ao prog w) A E s (hi3 x y z u v g c d) R st:=by
 have hu':u-1<x.size:=by have:=hI.lu;lia
 unfold hi3;refine ar (ZT (getElem?_pos x (u-1) hu') ?_);have m1:=hI.pX hu sx sy λ_=>hle;by_cases c1:u-1=0
 .rw[if_pos (by simpa using c1)]
  exact aA (q.1 _ _ (m1.fin sx sy (.inl c1)))
 .rw[if_neg (by simpa using c1)]
  have q:=q.2 _ _ _ g c d m1 ⋯ hv ⋯
  split
  .exact aA q.1
  .exact aA q.2
variable (C:Cp (ao prog w) A E s kf G B)(hB:B st)(gx:Gs G x)(gy:Gs G y)
include C hB gx gy hl
theorem Zpi(hle:le (ky kf x (u-1)) (ky kf y (v-1)))(hN:u+v<=N+2):wpS (ao prog w) A E s (hi2 x y z u v g c d) R st:=by
 have hu':u-1<x.size:=by have:=hI.lu;lia
 have hv':v-1<y.size:=by have:=hI.lv;lia
 unfold hi2;refine ar (ZT (getElem?_pos y (v-1) hv') ?_);have m1:=hI.pY ⋯ sx sy λ_=>hle
 by_cases c1:v-1=1
 .rw[if_pos (by simpa using c1)]
  exact aA (q.1 _ _ (m1.tail sx sy c1 hl))
 rw[if_neg (by simpa using c1)]
 refine ar (ZT (getElem?_pos x (u-1) hu') (ar (Zbc C hB (gx (u-1) _ (getElem?_pos x (u-1) hu')) gy ⋯ ⋯ (λi j ij jn=>sy _ _ ⋯ ⋯) λr kn a1 a2=>?_)))
 have g2:0<r->le (ky kf y (r-1)) (ky kf x (u-1)):=λhk=>by
  have q:=a1 (r-1) ⋯
  unfold frk at q;rw[if_pos rfl,<-ZN (kf:=kf) hu',fm]at q;exact ZbG q
 dsimp only;by_cases ck:v-1-r>0
 .rw[if_pos ck];have m4:=m1.cY sx sy (r:=r) ⋯ λi hi hn _=>by
   have q:=a2 i hi hn;unfold frk at q;rw[if_pos rfl,<-ZN (kf:=kf) hu',fm]at q;exact q
  by_cases e3:r=1
  .rw[if_pos (by simpa using e3)]
   exact aA (q.1 _ _ (m4.tail sx sy e3 hl))
  rw[if_neg (by simpa using e3)]
  by_cases e4:r=0
  .rw[if_pos (by simpa using e4)]
   exact aA (q.1 _ _ (m4.fin sx sy (.inr e4)))
  rw[if_neg (by simpa using e4)]
  exact Zph q sx sy m4 hu ⋯ (g2 ⋯) ⋯
 .rw[if_neg ck];obtain rfl:r=v-1:=⋯
  exact Zph q sx sy m1 hu ⋯ (g2 ⋯) ⋯
omit q hB in
theorem Zsi(q:Eh R (ZcT st g) kf x y N)(hB:B (ZcT st g))(hN:u+v<=N+1):wpS (ao prog w) A E s (hi1 x y z u v g c d) R st:=by
 have hv1:v-1<y.size:=by have:=hI.lv;lia
 have lu:=hI.lu;unfold hi1;rw[Zbb];refine ar (gE (ar (ZT (getElem?_pos y (v-1) hv1) (ar (Zbc C hB (gy (v-1) _ (getElem?_pos y (v-1) hv1)) gx ⋯ ⋯ (λi j ij jn=>sx _ _ ⋯ ⋯) λr kn a1 a2=>?_)))))
 have f1:0<r->le (ky kf x (r-1)) (ky kf y (v-1)):=λhi=>by
  have q:=a1 (r-1) ⋯
  unfold frk at q;rw[if_neg (by simp),gn,<-ZN (kf:=kf) hv1,fm]at q
  exact q
 dsimp only;by_cases ck:u-r>0
 .rw[if_pos ck];have mk:=hI.cX sx sy (r:=r) ⋯ λi hi hn _=>by
   have q:=a2 i hi ⋯
   unfold frk at q;rw[if_neg (by simp),jE,<-ZN (kf:=kf) hv1,fm]at q
   exact ZbG q
  by_cases e1:r=0
  .rw[if_pos (by simpa using e1)]
   exact aA (q.1 _ _ (mk.fin sx sy (.inl e1)))
  rw[if_neg (by simpa using e1)]
  exact Zpi q sx sy hl mk ⋯ hv C hB gx gy (f1 ⋯) ⋯
 .rw[if_neg ck];obtain rfl:r=u:=⋯
  exact Zpi q sx sy hl hI hu hv C hB gx gy (f1 hu) ⋯
end
theorem Zsj(C:Cp (ao prog w) A E s kf G B)(hB:B st)(gx:Gs G x)(gy:Gs G y)(sx:Up kf x x.size)(sy:Up kf y y.size)(hl:∀i,i<x.size->le (ky kf y 0) (ky kf x i))(hI:MH kf x y z u v)(hu:0<u)(hv:1<v)(q1:∀out r,Md kf x y out->R (.done (some out,r)) st)(q2:∀z' u' v' c d,MH kf x y z' u' v'->0<u'->1<v'->u'+v'<=u+v->R (.done (none,u',v',z',c,d)) st/\R (.yield (none,u',v',z',c,d)) st):wpS (ao prog w) A E s (hi0 x y g z u v c d) R st:=by
 have hu2:u-1<x.size:=by have:=hI.lu;lia
 have hv2:v-1<y.size:=by have:=hI.lv;lia
 have ex:=getElem?_pos x (u-1) hu2;have ey:=getElem?_pos y (v-1) hv2;unfold hi0;refine ar (ZT ey (ar (ZT ex (ar (C.cmp st _ _ _ hB (gy _ _ ey) (gx _ _ ex) ?_)))));rw[<-ZN (kf:=kf) hu2,<-ZN (kf:=kf) hv2];dsimp only;cases wn:lt (ky kf y (v-1)) (ky kf x (u-1))with
 |true=>
  rw[if_pos rfl];refine ar (ZT ex ?_);have m1:=hI.pX hu sx sy λ_=>ZbG wn;by_cases c3:u-1=0
  .rw[if_pos (by simpa using c3)]
   exact aA (q1 _ _ (m1.fin sx sy (.inl c3)))
  .rw[if_neg (by simpa using c3)]
   have q:=q2 _ _ _ (c+1) 0 m1 ⋯ hv ⋯
   split
   .exact aA q.1
   .exact aA q.2
 |false=>
  rw[if_neg (by simp)]
  refine ar (ZT ey ?_);have m1:=hI.pY ⋯ sx sy λ_=>wn
  by_cases c3:v-1=1
  .rw[if_pos (by simpa using c3)]
   exact aA (q1 _ _ (m1.tail sx sy c3 hl))
  .rw[if_neg (by simpa using c3)]
   have q:=q2 _ _ _ 0 (d+1) m1 hu ⋯ ⋯
   split
   .exact aA q.1
   .exact aA q.2
theorem Zsk(C:Cp (ao prog w) A E s kf G B)(hB:B st)(gx:Gs G x)(gy:Gs G y)(sx:Up kf x x.size)(sy:Up kf y y.size)(hl:∀i,i<x.size->le (ky kf y 0) (ky kf x i))(hI:MH kf x y z u v)(hu:0<u)(hv:1<v)(q1:∀out r t,B t->arrOf t=arrOf st->pendingOf t=pendingOf st->Md kf x y out->R (.done (some out,r)) t)(q2:∀z' u' v' g t,B t->arrOf t=arrOf st->pendingOf t=pendingOf st->MH kf x y z' u' v'->0<u'->1<v'->u'+v'<u+v->R (.yield (none,u',v',z',g)) t):wpS (ao prog w) A E s (hiA x y z u v g) R st:=by
 unfold hiA;have lu:=hI.lu;have lv:=hI.lv;refine ar (fL (cj (λn r t'=>t'=st/\∃z' u' v' c d,r=(none,u',v',z',c,d)/\(MH kf x y z' u' v'/\0<u'/\1<v')/\u'+v'<=u+v) (Q:=λ(r:H6) t'=>t'=st/\((∃out rr,r=(some out,rr)/\Md kf x y out)\/∃z' u' v' c d,r=(none,u',v',z',c,d)/\(MH kf x y z' u' v'/\0<u'/\1<v')/\u'+v'<=u+v)) (λn r t' _ nn hI=>?_) (λr t' hI=>⟨hI.1,.inr hI.2⟩) ⟨rfl,z,u,v,0,0,rfl,⟨hI,hu,hv⟩,af _⟩) λr t' hI=>?_)
 .obtain⟨rfl,z',u',v',c,d,rfl,⟨m',hu',hv'⟩,hn'⟩:=hI;dsimp only;exact Zsj C hB gx gy sx sy hl m' hu' hv' (λout r md=>⟨rfl,.inl ⟨out,r,rfl,md⟩⟩) λz' u' v' c d m h1 h2 h3=>⟨⟨rfl,.inr ⟨_,_,_,_,_,rfl,⟨m,h1,h2⟩,⋯⟩⟩,rfl,_,_,_,_,_,rfl,⟨m,h1,h2⟩,⋯⟩
 obtain⟨rfl,hI⟩:=hI;rcases hI with⟨out,rr,rfl,md⟩|⟨z',u',v',c,d,rfl,⟨m',hu',hv'⟩,hn'⟩
 .exact aA (q1 _ _ _ hB rfl rfl md)
 refine ar (kq (wpAny_rule ⟨rfl,ar (fL (cj (λn r t=>(B t/\arrOf t=arrOf t'/\pendingOf t=pendingOf t')/\∃z u v g c d,r=(none,u,v,z,g,c,d)/\(MH kf x y z u v/\0<u/\1<v)/\u+v+n<=u'+v') (Q:=λ(r:H7) t=>(B t/\arrOf t=arrOf t'/\pendingOf t=pendingOf t')/\((∃out rr,r=(some out,rr)/\Md kf x y out)\/∃z u v g c d,r=(none,u,v,z,g,c,d)/\(MH kf x y z u v/\0<u/\1<v)/\u+v+1<=u'+v')) (λn r t _ nn hI=>?_) (λr t hI=>?_) ⟨⟨hB,rfl,rfl⟩,z',u',v',g+1,c,d,rfl,⟨m',hu',hv'⟩,⋯⟩) λr t hI=>?_)⟩))
 .obtain⟨⟨d1,d2,d3⟩,z,u,v,g,c,d,rfl,⟨m,hu,hv⟩,hn⟩:=hI;dsimp only
  split<;>exact Zsi sx sy hl m hu hv C gx gy (N:=u+v-1) ⟨λout r md=>⟨⟨C.gal t _ d1,d2,d3⟩,.inl ⟨out,r,rfl,md⟩⟩,λz' u' v' g c d m h1 h2 h3=>⟨⟨⟨C.gal t _ d1,d2,d3⟩,.inr ⟨_,_,_,_,_,_,rfl,⟨m,h1,h2⟩,⋯⟩⟩,⟨C.gal t _ d1,d2,d3⟩,_,_,_,_,_,_,rfl,⟨m,h1,h2⟩,⋯⟩⟩ (C.gal t _ d1) ⋯
 .obtain⟨hs,z,u,v,g,c,d,rfl,iv,hn⟩:=hI;exact⟨hs,.inr ⟨z,u,v,g,c,d,rfl,iv,⋯⟩⟩
 obtain⟨⟨d1,d2,d3⟩,hI⟩:=hI;rcases hI with⟨out,rr,rfl,md⟩|⟨z,u,v,g,c,d,rfl,⟨m,h1,h2⟩,hn2⟩
 .exact aA (q1 _ _ _ d1 d2 d3 md)
 .dsimp only;rw[Zbb];exact ar (gE (aA (q2 _ _ _ _ _ (C.gal t _ d1) d2 d3 m h1 h2 ⋯)))
theorem Zvn(C:Cp (ao prog w) A E s kf G B)(hB:B st)(gx:Gs G x)(gy:Gs G y)(sx:Up kf x x.size)(sy:Up kf y y.size)(x1:1<=x.size)(y1:1<=y.size)(h0:∀i,i<y.size->le (ky kf y i) (ky kf x (x.size-1)))(hl:∀i,i<x.size->le (ky kf y 0) (ky kf x i))(h:∀out t,B t->arrOf t=arrOf st->pendingOf t=pendingOf st->Md kf x y out->Q out t):wpS (ao prog w) A E s (Zdf x y) Q st:=by
 rw[Zsh];have x1':x.size-1<x.size:=⋯
 refine ar (kq (wpAny_rule ⟨rfl,ar (ZT (getElem?_pos x (x.size-1) x1') ?_)⟩));have m0:MH kf x y #[x[x.size-1]] (x.size-1) y.size:=by
  have e:MH kf x y #[] x.size y.size:=⟨by simp,λi j ij hj=>by simp at hj,λ_ _ j hj=>by simp at hj,λ_ _ j hj=>by simp at hj,af _,af _⟩
  exact e.pX ⋯ sx sy λ_=>h0 _ ⋯
 by_cases c1:x.size-1=0
 .rw[if_pos (by simpa using c1)]
  exact aA (h _ st hB rfl rfl (m0.fin sx sy (.inl c1)))
 rw[if_neg (by simpa using c1)]
 by_cases c2:y.size=1
 .rw[if_pos (by simpa using c2)]
  exact aA (h _ st hB rfl rfl (m0.tail sx sy c2 hl))
 rw[if_neg (by simpa using c2)]
 refine ar (jg (ar (fL (cj (λn r t=>(B t/\arrOf t=arrOf st/\pendingOf t=pendingOf st)/\∃z u v g,r=(none,u,v,z,g)/\(MH kf x y z u v/\0<u/\1<v)/\u+v+n+1<=x.size+y.size) (Q:=λ(r:H5) t=>(B t/\arrOf t=arrOf st/\pendingOf t=pendingOf st)/\∃out rr,r=(some out,rr)/\Md kf x y out) (λn r t _ nn hI=>?_) (λr t hI=>?_) ⟨⟨hB,rfl,rfl⟩,#[x[x.size-1]],x.size-1,y.size,_,rfl,⟨m0,⋯,⋯⟩,⋯⟩) λr t hI=>?_)))
 .obtain⟨⟨b1,b2,b3⟩,z,u,v,g,rfl,⟨m,hu,hv⟩,hn⟩:=hI;dsimp only;exact Zsk C b1 gx gy sx sy hl m hu hv (λout r t d1 d2 d3 md=>⟨⟨d1,d2.trans b2,d3.trans b3⟩,out,r,rfl,md⟩) λz' u' v' g t d1 d2 d3 m h1 h2 h3=>⟨⟨d1,d2.trans b2,d3.trans b3⟩,_,_,_,_,rfl,⟨m,h1,h2⟩,⋯⟩
 .obtain⟨_,z,u,v,g,rfl,⟨m,hu,hv⟩,hn⟩:=hI;lia
 .obtain⟨⟨b1,b2,b3⟩,out,rr,rfl,md⟩:=hI;exact aA (h out t b1 b2 b3 md)
end
end ST
namespace ST
open PyProof.Rows
def Zpj(lo a n:Nat):SM AscSt:=forIn [a:n] ((none,a):AscSt) λ_ r=>do
 let y <-ltAt' (lo+r.2) (lo+r.2-1)
 match y with
 |some b=>if b=true then pure (.done (none,r.2))else pure (.yield (none,r.2+1))
 |_=>pure (.done (some none,r.2))
def Zj1(lo m n:Nat):SM (Option Nat):=do
 j7 lo (lo+m)
 let r <-Zpj lo m n
 match r.1 with
 |some q=>pure q
 |none=>pure (some r.2)
def Zj2(lo m n:Nat):SM DescSt:=forIn [m:n] ((none,m,0):DescSt) λ_ r=>do
 let y <-ltAt' (lo+r.2.1) (lo+r.2.1-1)
 match y with
 |some b=>
  if b=true then
   if r.2.2>0 then do
    j7 (lo+r.2.1-(r.2.2+1)) (lo+r.2.1)
    pure (.yield (none,r.2.1+1,0))
   else pure (.yield (none,r.2.1+1,0))
  else do
   let y <-ltAt' (lo+r.2.1-1) (lo+r.2.1)
   match y with
   |some b=>if b=true then pure (.done (none,r.2.1,r.2.2))else pure (.yield (none,r.2.1+1,r.2.2+1))
   |_=>pure (.done (some none,r.2.1,r.2.2))
 |_=>pure (.done (some none,r.2.1,r.2.2))
def Zj3(lo m n:Nat):SM (Option Nat):=do
 liftM (rule "list.sort.descending-run")
 let r <-Zj2 lo (m+1) n
 match r.1 with
 |some q=>pure q
 |none=>
  if r.2.2>0 then do
   j7 (lo+r.2.1-(r.2.2+1)) (lo+r.2.1)
   Zj1 lo r.2.1 n
  else Zj1 lo r.2.1 n
theorem ZmE(lo n:Nat):countRun' lo n=(do
  let r <-Zpj lo 1 n
  match r.1 with
  |some q=>pure q
  |none=>
   if(r.2==n)=true then pure (some r.2)
   else if r.2>1 then do
    let y <-ltAt' lo (lo+r.2-1)
    match y with
    |some b=>if b=true then pure (some r.2)else do
      j7 lo (lo+r.2)
      Zj3 lo r.2 n
    |_=>pure none
   else Zj3 lo r.2 n):=by
 rw[countRun'_eq];unfold Zj3 Zj1 Zj2 Zpj;dsimp only;congr 1;funext r;obtain⟨r,m⟩:=r;cases r with
 |some r=>rfl
 |none=>
  dsimp only;split
  .rfl
  .split
   .congr 1;funext y;cases y with
    |none=>rfl
    |some b=>
     dsimp only;split
     .rfl
     .congr 1;funext _;congr 1;funext _;congr 1;funext q;obtain⟨q,a,c⟩:=q;cases q with
      |some q=>rfl
      |none=>
       dsimp only;split
       .congr 1;funext _;congr 1;funext _;congr 1;funext z;obtain⟨z,k⟩:=z;cases z<;>rfl
       .congr 1;funext _;congr 1;funext z;obtain⟨z,k⟩:=z;cases z<;>rfl
   .congr 1;funext _;congr 1;funext q;obtain⟨q,a,c⟩:=q;cases q with
    |some q=>rfl
    |none=>
     dsimp only;split
     .congr 1;funext _;congr 1;funext _;congr 1;funext z;obtain⟨z,k⟩:=z;cases z<;>rfl
     .congr 1;funext _;congr 1;funext z;obtain⟨z,k⟩:=z;cases z<;>rfl
variable {kf:aN->List Int}
def UpL(kf:aN->List Int)(lo:Nat)(xs:Array aN)(n:Nat):Prop:=∀i j,i<=j->j<n->le (ky kf xs (lo+i)) (ky kf xs (lo+j))
def DnL(kf:aN->List Int)(lo:Nat)(xs:Array aN)(n:Nat):Prop:=∀i j,i<=j->j<n->le (ky kf xs (lo+j)) (ky kf xs (lo+i))
structure Cl(M:Model) (A:dg) (E:Vp) (s:aB) (kf:aN->List Int) (B:cg->Prop) (lo N:Nat):Prop where
 sz:∀st,B st->(arrOf st).size=N
 put:∀st xs,B st->xs.Perm (arrOf st)->(∀k,k<lo->xs[k]?=(arrOf st)[k]?)->B (mK st xs)
 cmp:∀st i j (Q:Option Bool->cg->Prop),B st->i<N->j<N->Q (some (lt (ky kf (arrOf st) i) (ky kf (arrOf st) j))) st->wpS M A E s (ltAt' i j) Q st
section
variable {E:Vp}{s:aB}{B:cg->Prop}{lo N:Nat}
theorem Cl.mir(C:Cl M A E s kf B lo N){st:cg}(hB:B st)(hi:lo<=i)(hj:j<=N):B (mK st (j6 (arrOf st) i j ((j-i)/2))):=
 C.put st _ hB (mirror_perm ..) λk hk=>by
  rw[mv (by rw[C.sz st hB];exact hj),if_neg ⋯]
theorem UpL.more(h:UpL kf lo xs n)(h1:1<=n)(hl:le (ky kf xs (lo+n-1)) (ky kf xs (lo+n))):UpL kf lo xs (n+1):=by
 intro i j ij jn;by_cases c:j<n
 .exact h i j ij c
 .have:j=n:=⋯
  subst this;by_cases c2:i=j
  .subst c2;exact Zcn _
  .rw[show lo+j-1=lo+(j-1)by lia]at hl
   exact ZbY (h i (j-1) ⋯ ⋯) hl
theorem DnL.more(h:DnL kf lo xs n)(h1:1<=n)(hl:le (ky kf xs (lo+n)) (ky kf xs (lo+n-1))):DnL kf lo xs (n+1):=by
 intro i j ij jn;by_cases c:j<n
 .exact h i j ij c
 .have:j=n:=⋯
  subst this;by_cases c2:i=j
  .subst c2;exact Zcn _
  .rw[show lo+j-1=lo+(j-1)by lia]at hl
   exact ZbY hl (h i (j-1) ⋯ ⋯)
theorem Zk3(C:Cl (ao prog w) A E s kf B lo N){st:cg}(hn:lo+n<=N)(ha:1<=a)(an:a<=n)(hB:B st)(hu:UpL kf lo (arrOf st) a)(q:∀m,a<=m->m<=n->UpL kf lo (arrOf st) m->(m=n\/lt (ky kf (arrOf st) (lo+m)) (ky kf (arrOf st) (lo+m-1))=true)->Q (none,m) st):wpS (ao prog w) A E s (Zpj lo a n) Q st:=by
 unfold Zpj;refine cj (λx c t=>t=st/\c=(none,x)/\UpL kf lo (arrOf st) x) (λx c t ax xn hI=>?_) (λc t hI=>?_) ⟨rfl,rfl,hu⟩
 .obtain⟨rfl,rfl,h⟩:=hI;refine ar (C.cmp t (lo+x) (lo+x-1) _ hB ⋯ ⋯ ?_)
  cases z:lt (ky kf (arrOf t) (lo+x)) (ky kf (arrOf t) (lo+x-1))with
  |true=>exact aA (q x ax ⋯ h (.inr z))
  |false=>exact aA ⟨rfl,rfl,h.more ⋯ z⟩
 .obtain⟨rfl,rfl,h⟩:=hI;rw[Nat.max_eq_right an]at h ⊢;exact q n an (af _) h (.inl rfl)
theorem ZhY(C:Cl (ao prog w) A E s kf B lo N){st:cg}(hn:lo+n<=N)(h1:1<=m)(mn:m<=n)(hB:B st)(hd:DnL kf lo (arrOf st) m)(q:∀m t,B t->1<=m->m<=n->UpL kf lo (arrOf t) m->Q (some m) t):wpS (ao prog w) A E s (Zj1 lo m n) Q st:=by
 have sz:=C.sz st hB;have hB':=C.mir (i:=lo) (j:=lo+m) hB (af _) ⋯
 refine ar (lN (ar (Zk3 C hn h1 mn hB' (λi j ij jm=>?_) λk k1 k2 hu _=>aA (q k _ hB' ⋯ k2 hu))))
 show le (ky kf (j6 (arrOf st) lo (lo+m) ((lo+m-lo)/2)) (lo+i)) (ky kf (j6 (arrOf st) lo (lo+m) ((lo+m-lo)/2)) (lo+j));rw[ZhW ⋯,ZhW ⋯,if_pos ⟨⋯,⋯⟩,if_pos ⟨⋯,⋯⟩,show lo+(lo+m)-1-(lo+i)=lo+(m-1-i)by lia,show lo+(lo+m)-1-(lo+j)=lo+(m-1-j)by lia]
 exact hd _ _ ⋯ ⋯
def EqL(kf:aN->List Int)(lo:Nat)(xs:Array aN)(x e:Nat):Prop:=e+1<=x/\∀i,lo+x-(e+1)<=i->i<lo+x->ky kf xs i=ky kf xs (lo+x-1)
theorem Zsl(h:1<=x):EqL kf lo xs x 0:=⟨⋯,λi a b=>by rw[show i=lo+x-1 by lia]⟩
theorem ZmF(C:Cl (ao prog w) A E s kf B lo N){st:cg}(hn:lo+n<=N)(h1:1<=m)(mn:m<=n)(hB:B st)(hd:DnL kf lo (arrOf st) m)(q:∀x e t,B t->m<=x->x<=n->DnL kf lo (arrOf t) x->EqL kf lo (arrOf t) x e->Q (none,x,e) t):wpS (ao prog w) A E s (Zj2 lo m n) Q st:=by
 unfold Zj2;refine cj (λx c t=>∃e,c=(none,x,e)/\B t/\DnL kf lo (arrOf t) x/\EqL kf lo (arrOf t) x e) (λx c t ax xn hI=>?_) (λc t hI=>?_) ⟨0,rfl,hB,hd,Zsl h1⟩
 .obtain⟨e,rfl,hB,hd,he⟩:=hI;have sz:=C.sz t hB;refine ar (C.cmp t (lo+x) (lo+x-1) _ hB ⋯ ⋯ ?_)
  cases z:lt (ky kf (arrOf t) (lo+x)) (ky kf (arrOf t) (lo+x-1))with
  |true=>
   have up1:=hd.more ⋯ (ZbG z)
   show wpS _ _ _ _ (if e>0 then _ else _) _ _
   by_cases c:e>0
   .rw[if_pos c];refine ar (lN (aA ⟨0,rfl,C.mir (i:=lo+x-(e+1)) (j:=lo+x) hB (by have:=he.1;lia) ⋯,λi j ij jx=>?_,Zsl ⋯⟩))
    show le (ky kf (j6 (arrOf t) (lo+x-(e+1)) (lo+x) ((lo+x-(lo+x-(e+1)))/2)) (lo+j)) (ky kf (j6 (arrOf t) (lo+x-(e+1)) (lo+x) ((lo+x-(lo+x-(e+1)))/2)) (lo+i));rw[Z8 ⋯ he.2,Z8 ⋯ he.2]
    exact up1 i j ij jx
   .rw[if_neg c];exact aA ⟨0,rfl,hB,up1,Zsl ⋯⟩
  |false=>
   refine ar (C.cmp t (lo+x-1) (lo+x) _ hB ⋯ ⋯ ?_)
   cases z2:lt (ky kf (arrOf t) (lo+x-1)) (ky kf (arrOf t) (lo+x))with
   |true=>exact aA (q x e t hB ax ⋯ hd he)
   |false=>
    have ee:ky kf (arrOf t) (lo+x)=ky kf (arrOf t) (lo+x-1):=Zd8 z z2;refine aA ⟨e+1,rfl,hB,hd.more ⋯ z2,by have:=he.1;lia,λi a b=>?_⟩
    rw[show lo+(x+1)-1=lo+x by lia]
    by_cases c:i=lo+x
    .rw[c]
    .rw[ee];exact he.2 i ⋯ ⋯
 .obtain⟨e,rfl,hB,hd,he⟩:=hI;rw[Nat.max_eq_right mn]at hd he ⊢;exact q n e t hB mn (af _) hd he
theorem ZhZ(C:Cl (ao prog w) A E s kf B lo N){st:cg}(hn:lo+n<=N)(mn:m+1<=n)(hB:B st)(hd:DnL kf lo (arrOf st) (m+1))(q:∀m t,B t->1<=m->m<=n->UpL kf lo (arrOf t) m->Q (some m) t):wpS (ao prog w) A E s (Zj3 lo m n) Q st:=by
 refine ar (kq (wpAny_rule ⟨rfl,ar (ZmF C hn ⋯ mn hB hd λx e t hB hx xn hd he=>?_)⟩))
 have sz:=C.sz t hB;show wpS _ _ _ _ (if e>0 then _ else _) _ _
 by_cases c:e>0
 .rw[if_pos c];refine ar (lN (ZhY (m:=x) C hn ⋯ xn (C.mir (i:=lo+x-(e+1)) (j:=lo+x) hB (by have:=he.1;lia) ⋯) (λi j ij jx=>?_) q))
  show le (ky kf (j6 (arrOf t) (lo+x-(e+1)) (lo+x) ((lo+x-(lo+x-(e+1)))/2)) (lo+j)) (ky kf (j6 (arrOf t) (lo+x-(e+1)) (lo+x) ((lo+x-(lo+x-(e+1)))/2)) (lo+i));rw[Z8 ⋯ he.2,Z8 ⋯ he.2]
  exact hd i j ij jx
 .rw[if_neg c];exact ZhY (m:=x) C hn ⋯ xn hB hd q
theorem Zpk(C:Cl (ao prog w) A E s kf B lo N){st:cg}(hn:lo+n<=N)(h1:1<=n)(hB:B st)(q:∀m t,B t->1<=m->m<=n->UpL kf lo (arrOf t) m->Q (some m) t):wpS (ao prog w) A E s (countRun' lo n) Q st:=by
 have sz:=C.sz st hB;rw[ZmE];refine ar (Zk3 C hn (af 1) h1 hB (λi j ij j1=>by rw[show i=j by lia];exact Zcn _) λm m1 m2 hu ho=>?_)
 show wpS _ _ _ _ (if(m==n)=true then _ else _) _ _
 by_cases c:m=n
 .rw[if_pos (by simpa using c)]
  exact aA (q m st hB m1 m2 hu)
 .rw[if_neg (by simpa using c)]
  have hl:=ho.resolve_left c;by_cases c1:m>1
  .rw[if_pos c1];refine ar (C.cmp st lo (lo+m-1) _ hB ⋯ ⋯ ?_)
   cases z:lt (ky kf (arrOf st) lo) (ky kf (arrOf st) (lo+m-1))with
   |true=>exact aA (q m st hB m1 m2 hu)
   |false=>
    have al:∀k,lo<=k->k<lo+m->ky kf (arrOf st) k=ky kf (arrOf st) (lo+m-1):=λk k0 km=>by
     obtain⟨i,rfl⟩:∃i,k=lo+i:=⟨k-lo,⋯⟩
     have a1:=hu 0 i ⋯ ⋯
     have a2:=hu i (m-1) ⋯ ⋯
     rw[iC]at a1;rw[show lo+(m-1)=lo+m-1 by lia]at a2
     exact Zd8 (ZbY z a1) a2
    refine ar (lN (ZhZ C hn ⋯ (C.mir hB (af _) ⋯) (λi j ij jx=>?_) q))
    show le (ky kf (j6 (arrOf st) lo (lo+m) ((lo+m-lo)/2)) (lo+j)) (ky kf (j6 (arrOf st) lo (lo+m) ((lo+m-lo)/2)) (lo+i));rw[Z8 ⋯ al,Z8 ⋯ al]
    by_cases d:j<m
    .rw[al (lo+i) ⋯ ⋯,al (lo+j) ⋯ ⋯];exact Zcn _
    .have:j=m:=⋯
     subst this;by_cases d2:i=j
     .rw[d2];exact Zcn _
     .rw[al (lo+i) ⋯ ⋯];exact ZbG hl
  .rw[if_neg c1]
   have:m=1:=⋯
   subst this;refine ZhZ C hn ⋯ hB (λi j ij jx=>?_) q
   by_cases d2:i=j
   .rw[d2];exact Zcn _
   .rw[show i=0 by lia,show j=1 by lia];exact ZbG hl
theorem Zpl{lo:Nat}(hs:lo+k<X.size)(lk:l<=k)(hu:UpL kf lo X k)(lo':∀i,i<l->le (ky kf X (lo+i)) (ky kf X (lo+k)))(hi:∀i,l<=i->i<k->lt (ky kf X (lo+k)) (ky kf X (lo+i))=true):UpL kf lo (bubble X (lo+k) (lo+k-(lo+l))) (k+1):=by
 have hd:lo+k-(lo+l)<=lo+k:=Nat.sub_le _ _;have e:∀i,ky kf (bubble X (lo+k) (lo+k-(lo+l))) (lo+i)=if i=l then ky kf X (lo+k)else if l<i/\i<=k then ky kf X (lo+(i-1))else ky kf X (lo+i):=λi=>by
  rw[Zpd hs hd,show lo+k-(lo+k-(lo+l))=lo+l by lia]
  by_cases c:i=l
  .rw[if_pos ⋯,if_pos c]
  .rw[if_neg ⋯,if_neg c]
   by_cases d:l<i/\i<=k
   .rw[if_pos ⋯,if_pos d,show lo+i-1=lo+(i-1)by lia]
   .rw[if_neg ⋯,if_neg d]
 intro i j ij jk;rw[e,e];clear e hd hs;split
 .split
  .exact Zcn _
  .rw[if_pos ⋯];exact ZbG (hi _ ⋯ ⋯)
 .split
  .rw[if_neg ⋯,if_pos ⋯];exact hu _ _ ⋯ ⋯
  .split
   .exact lo' _ ⋯
   .split
    .exact hu _ _ ⋯ ⋯
    .exact hu _ _ ⋯ ⋯
theorem Zpm(C:Cl (ao prog w) A E s kf B lo N){st:cg}(hn:lo+n<=N)(hk:ok<=n)(hB:B st)(hu:UpL kf lo (arrOf st) ok)(q:∀t,B t->UpL kf lo (arrOf t) n->Q true t):wpS (ao prog w) A E s (binarySort' lo n ok) Q st:=by
 rw[binarySort'_eq];refine ar (fL (cj (λk c t=>c=(none,())/\B t/\UpL kf lo (arrOf t) (min k n)) (Q:=λc t=>c=(none,())/\B t/\UpL kf lo (arrOf t) n) (λk c t ak kn hI=>?_) (λc t hI=>?_) ⟨rfl,hB,λi j ij jn=>?_⟩) λc t hI=>?_)
 .obtain⟨rfl,hB,hu⟩:=hI;rw[hU ⋯]at hu
  have sz:=C.sz t hB;have kN:lo+k<N:=⋯
  refine ar (fL (cj (λx c t'=>t'=t/\∃l r,c=(none,l,r)/\(l<=r/\r<=k/\r-l<=k-x)/\(∀i,i<l->le (ky kf (arrOf t) (lo+i)) (ky kf (arrOf t) (lo+k)))/\∀i,r<=i->i<k->lt (ky kf (arrOf t) (lo+k)) (ky kf (arrOf t) (lo+i))=true) (Q:=λc t'=>t'=t/\∃l r,c=(none,l,r)/\l<=k/\(∀i,i<l->le (ky kf (arrOf t) (lo+i)) (ky kf (arrOf t) (lo+k)))/\∀i,l<=i->i<k->lt (ky kf (arrOf t) (lo+k)) (ky kf (arrOf t) (lo+i))=true) (λx c t' _ xk hI=>?_) (λc t' hI=>?_) ⟨rfl,0,k,rfl,⋯,λi hi=>⋯,λi a b=>⋯⟩) λc t' hI=>?_)
  .obtain⟨rfl,l,r,rfl,⟨lr,rk,hm⟩,lo',hi⟩:=hI;show wpS _ _ _ _ (if l ≥ r then _ else _) _ _
   by_cases c:l ≥ r
   .rw[if_pos c]
    have:l=r:=⋯
    subst this;exact aA ⟨rfl,l,l,rfl,rk,lo',hi⟩
   .rw[if_neg c];refine ar (C.cmp t' (lo+k) (lo+(l+r)/2) _ hB kN ⋯ ?_)
    cases z:lt (ky kf (arrOf t') (lo+k)) (ky kf (arrOf t') (lo+(l+r)/2))with
    |true=>exact aA ⟨rfl,l,(l+r)/2,rfl,by omega,lo',λi a b=>ZeL z (hu _ _ a b)⟩
    |false=>exact aA ⟨rfl,(l+r)/2+1,r,rfl,by omega,λi a=>ZbY (hu i ((l+r)/2) ⋯ ⋯) z,hi⟩
  .obtain⟨rfl,l,r,rfl,⟨lr,rk,hm⟩,lo',hi⟩:=hI
   have:l=r:=⋯
   subst this;exact⟨rfl,l,l,rfl,rk,lo',hi⟩
  .obtain⟨rfl,l,r,rfl,lk,lo',hi⟩:=hI;show wpS _ _ _ _ (moveDown' (lo+k) (lo+l) >>= λ_=>pure (ForInStep.yield (none,()))) _ _;rw[moveDown'_eq];have hd:lo+k-(lo+l)<=lo+k:=⋯
   refine ar (gE (aA ⟨rfl,C.put t' _ hB (bubble_perm ..) (λi hi=>by rw[getElem?_bubble ⋯ _ hd,if_neg ⋯,if_neg ⋯]),?_⟩))
   rw[hU ⋯]
   exact Zpl ⋯ lk hu lo' hi
 .obtain⟨rfl,hB,hu⟩:=hI;rw[show min (max (max ok 1) n) n=n by lia]at hu
  exact⟨rfl,hB,hu⟩
 .by_cases c:ok=0
  .rw[show i=j by lia];exact Zcn _
  .exact hu i j ij ⋯
 .obtain⟨rfl,hB,hu⟩:=hI;exact aA (q t hB hu)
end
end ST
namespace ST
open PyProof.Rows
theorem ZeO(a:Nat):∀(out:List aN)(n:Nat)(xs:Array aN)(k:Nat),a+n+out.length<=xs.size->((out.zipIdx n).foldl (λo (q:aN×Nat)=>o.setIfInBounds (a+q.2) q.1) xs)[k]?=if a+n<=k/\k<a+n+out.length then out[k-(a+n)]? else xs[k]?
 |[],n,xs,k,_=>by
  rw[if_neg (by simp)]
  rfl
 |p::out,n,xs,k,h=>by
  rw[bD]at h;rw[List.zipIdx_cons,List.foldl_cons,ZeO a out (n+1) _ k (by rw[Array.size_setIfInBounds];lia)]
  rw[bD];by_cases c:k=a+n
  .subst c;rw[if_neg ⋯,if_pos ⋯,dH ⋯,fQ]
   rfl
  .by_cases d:a+n<=k/\k<a+n+(out.length+1)
   .rw[if_pos ⋯,if_pos d,show k-(a+n)=(k-(a+(n+1)))+1 by lia,db]
   .rw[if_neg ⋯,if_neg d,iD ⋯]
theorem Zj4{xs:Array aN}(h:a+out.length<=xs.size):((out.zipIdx).foldl (λo (q:aN×Nat)=>o.setIfInBounds (a+q.2) q.1) xs).toList=xs.toList.take a++out++xs.toList.drop (a+out.length):=by
 have hl:xs.toList.length=xs.size:=bw;apply fk;intro k;rw[bn,ZeO a out 0 xs k ⋯,iC,cU]
 by_cases c:k<a
 .rw[if_neg ⋯,aC (by rw[bI,hl];lia),List.getElem?_take,if_pos c,bn]
 .rw[aK (by rw[bI,hl];lia),bI,hl,hU ⋯]
  by_cases d:k<a+out.length
  .rw[if_pos ⋯,aC ⋯]
  .rw[if_neg ⋯,aK ⋯,ii,bn]
   congr 1;lia
def Seg(kf:aN->List Int)(xs:Array aN)(a b:Nat):Prop:=∀i j,a<=i->i<=j->j<b->le (ky kf xs i) (ky kf xs j)
theorem Zk4(hb:b<=xs.size)(hi:i<b-a):ky kf (xs.extract a b) i=ky kf xs (a+i):=by
 unfold ky;rw[kP,if_pos ⋯]
theorem Zk5{xs:Array aN}(hb:b<=xs.size):(xs.extract a b).size=b-a:=by rw[Array.size_extract];lia
section
variable {s:aB}{st:cg}
theorem ZmG{st:cg}(h:Q ⟨⟩ st'):wpS M A E s (set st':SM PUnit) Q st:=by
 unfold wpS;rw[StateT.run_set];exact Wp ⟨rfl,h⟩
theorem Zdg(s1:Seg kf X a Q)(s2:Seg kf X Q T)(cr:∀i j,a<=i->i<Q->Q<=j->j<T->le (ky kf X i) (ky kf X j)):Seg kf X a T:=λi j ai ij jb=>by
 by_cases d1:j<Q
 .exact s1 i j ai ij d1
 .by_cases d2:i<Q
  .exact cr i j ai d2 ⋯ jb
  .exact s2 i j ⋯ ij jb
theorem Zh0(QR:Q<=R)(RT:R<=T)(PQ:P<=Q)(s1:Seg kf X a Q)(s2:Seg kf X Q T)(pre:∀i j,a<=i->i<P->Q<=j->j<T->le (ky kf X i) (ky kf X j))(suf:∀i j,a<=i->i<Q->R<=j->j<T->le (ky kf X i) (ky kf X j))(aP:a<=P)(mem:∀j,P<=j->j<R->∃l,P<=l/\l<R/\ky kf Y j=ky kf X l)(sY:Seg kf Y P R)(ko:∀j,¬(P<=j/\j<R)->ky kf Y j=ky kf X j):Seg kf Y a T:=by
 refine Zdg (Q:=R) (Zdg (Q:=P) (λi j ai ij jb=>?_) sY λi j ai iP Pj jR=>?_) (λi j ai ij jb=>?_) λi j ai iR Rj jT=>?_
 .rw[ko i ⋯,ko j ⋯]
  exact s1 i j ai ij ⋯
 .rw[ko i ⋯]
  obtain⟨l,l1,l2,l3⟩:=mem j Pj jR;rw[l3];by_cases c:l<Q
  .exact s1 i l ai ⋯ c
  .exact pre i l ai iP ⋯ ⋯
 .rw[ko i ⋯,ko j ⋯]
  exact s2 i j ⋯ ij jb
 .rw[ko j ⋯]
  have key:∀l,a<=l->l<R->le (ky kf X l) (ky kf X j):=λl h1 h2=>by
   by_cases c:l<Q
   .exact suf l j h1 c Rj jT
   .exact s2 l j ⋯ ⋯ jT
  by_cases c:i<P
  .rw[ko i ⋯]
   exact key i ai iR
  .obtain⟨l,l1,l2,l3⟩:=mem i ⋯ iR
   rw[l3];exact key l ⋯ l2
theorem Zvo(C:Cp (ao prog w) A E s kf G B)(hB:B st)(h1:(pendingOf st)[i]?=some (a,n,p))(h2:(pendingOf st)[i+1]?=some (b,m,q))(hb:b=a+n)(n1:1<=n)(m1:1<=m)(hs:b+m<=(arrOf st).size)(s1:Seg kf (arrOf st) a b)(s2:Seg kf (arrOf st) b (b+m))(h:∀t,B t->pendingOf t=((pendingOf st).setIfInBounds i (a,n+m,p)).eraseIdxIfInBounds (i+1)->(arrOf t).size=(arrOf st).size->(∀k,¬(a<=k/\k<b+m)->(arrOf t)[k]?=(arrOf st)[k]?)->Seg kf (arrOf t) a (b+m)->Q true t):wpS (ao prog w) A E s (mergeAt' i) Q st:=by
 subst hb;generalize hX:arrOf st=X at hs s1 s2 h;have gX:Gs G X:=λk r hk=>by
  subst hX;exact C.good st hB r (by rw[Array.mem_toList_iff];exact Array.mem_of_getElem? hk)
 rw[ZeM];refine ar (jg ?_);dsimp only;rw[h1,h2];dsimp only;have b2:=C.pen st (((pendingOf st).setIfInBounds i (a,n+m,p)).eraseIdxIfInBounds (i+1)) hB;refine ar (ZmG ?_);rw[hX];have hbX:a+n<X.size:=⋯
 have hcX:a+n-1<X.size:=⋯
 refine ar (ZT (getElem?_pos X (a+n) hbX) (ar (Zbc C b2 (gX _ _ (getElem?_pos X (a+n) hbX)) gX ⋯ ⋯ (λi j ij jn=>s1 _ _ ⋯ ⋯ ⋯) λk kn f1 f2=>?_)))
 rw[<-ZN (kf:=kf) hbX]at f1 f2;have g1:∀j,j<k->le (ky kf X (a+j)) (ky kf X (a+n)):=λj hj=>by
  have z:=f1 j hj;unfold frk at z;rw[if_neg (by simp),gn]at z
  exact z
 have g2:∀j,k<=j->j<n->lt (ky kf X (a+n)) (ky kf X (a+j))=true:=λj hj hn=>by
  have z:=f2 j hj hn;unfold frk at z;rw[if_neg (by simp),jE]at z
  exact z
 have pre:∀i j,a<=i->i<a+k->a+n<=j->j<a+n+m->le (ky kf X i) (ky kf X j):=λi j c d e f=>by
  have:=g1 (i-a) ⋯
  rw[show a+(i-a)=i by lia]at this
  exact ZbY this (s2 _ _ (af _) e f)
 dsimp only;by_cases c1:n-k=0
 .rw[if_pos (by simpa using c1)]
  exact aA (h _ b2 rfl (by rw[<-hX]) (λ_ _=>by rw[<-hX]) (by
   show Seg kf (arrOf st) a (a+n+m);rw[hX];exact Zdg s1 s2 λi j a b=>pre i j a ⋯))
 rw[if_neg (by simpa using c1),show a+k+(n-k)-1=a+n-1 by lia]
 refine ar (ZT (getElem?_pos X (a+n-1) hcX) (ar (Zbc C b2 (gX _ _ (getElem?_pos X (a+n-1) hcX)) gX ⋯ hs (λi j ij jn=>s2 _ _ ⋯ ⋯ ⋯) λr rn e1 e2=>?_)))
 rw[<-ZN (kf:=kf) hcX]at e1 e2;have k1:∀j,j<r->le (ky kf X (a+n+j)) (ky kf X (a+n-1)):=λj hj=>by
  have z:=e1 j hj;unfold frk at z;rw[if_pos rfl]at z;exact ZbG z
 have k2:∀j,r<=j->j<m->le (ky kf X (a+n-1)) (ky kf X (a+n+j)):=λj hj hn=>by
  have z:=e2 j hj hn;unfold frk at z;rw[if_pos rfl]at z;exact z
 have suf:∀i j,a<=i->i<a+n->a+n+r<=j->j<a+n+m->le (ky kf X i) (ky kf X j):=λi j c d e f=>by
  have:=k2 (j-(a+n)) ⋯ ⋯
  rw[show a+n+(j-(a+n))=j by lia]at this
  exact ZbY (s1 i (a+n-1) c ⋯ ⋯) this
 dsimp only;by_cases c2:r=0
 .rw[if_pos (by simpa using c2)]
  exact aA (h _ b2 rfl (by rw[<-hX]) (λ_ _=>by rw[<-hX]) (by
   show Seg kf (arrOf st) a (a+n+m);rw[hX];exact Zdg s1 s2 λi j a b c d=>suf i j a b ⋯ d))
 rw[if_neg (by simpa using c2)]
 have zx:(X.extract (a+k) (a+n)).size=n-k:=by rw[Zk5 ⋯];lia
 have zy:(X.extract (a+n) (a+n+r)).size=r:=by rw[Zk5 ⋯];lia
 have kx:∀j,j<n-k->ky kf (X.extract (a+k) (a+n)) j=ky kf X (a+k+j):=λj hj=>Zk4 ⋯ ⋯
 have kyy:∀j,j<r->ky kf (X.extract (a+n) (a+n+r)) j=ky kf X (a+n+j):=λj hj=>Zk4 ⋯ ⋯
 have gsx:∀u v,Gs G (X.extract u v):=λu v j z hj=>by
  rw[kP]at hj
  split at hj
  .exact gX _ _ hj
  .cases hj
 have sx:Up kf (X.extract (a+k) (a+n)) (X.extract (a+k) (a+n)).size:=λi j ij hj=>by
  rw[zx]at hj;rw[kx i ⋯,kx j hj]
  exact s1 _ _ ⋯ ⋯ ⋯
 have sy:Up kf (X.extract (a+n) (a+n+r)) (X.extract (a+n) (a+n+r)).size:=λi j ij hj=>by
  rw[zy]at hj;rw[kyy i ⋯,kyy j hj]
  exact s2 _ _ ⋯ ⋯ ⋯
 have first:∀i,i<n-k->le (ky kf (X.extract (a+n) (a+n+r)) 0) (ky kf (X.extract (a+k) (a+n)) i):=λi hi=>by
  rw[kyy 0 ⋯,kx i hi,iC,fW]
  exact ZbG (g2 (k+i) ⋯ ⋯)
 have last:∀i,i<r->le (ky kf (X.extract (a+n) (a+n+r)) i) (ky kf (X.extract (a+k) (a+n)) ((X.extract (a+k) (a+n)).size-1)):=λi hi=>by
  rw[zx,kyy i hi,kx (n-k-1) ⋯,show a+k+(n-k-1)=a+n-1 by lia]
  exact k1 i hi
 have go:∀out t,B t->arrOf t=arrOf (gD st (((pendingOf st).setIfInBounds i (a,n+m,p)).eraseIdxIfInBounds (i+1)))->pendingOf t=pendingOf (gD st (((pendingOf st).setIfInBounds i (a,n+m,p)).eraseIdxIfInBounds (i+1)))->Md kf (X.extract (a+k) (a+n)) (X.extract (a+n) (a+n+r)) out->
   Q true (mK t ((out.toList.zipIdx).foldl (λo (q:aN×Nat)=>o.setIfInBounds (a+k+q.2) q.1) (arrOf t))):=by
  intro out t bt ea ep md
  replace ea:arrOf t=X:=ea.trans hX
  have zo:out.size=n-k+r:=by rw[md.1.size_eq,Array.size_append,zx,zy]
  have hlen:a+k+out.toList.length<=X.size:=by rw[bw];lia
  rw[ea];generalize hY:(out.toList.zipIdx).foldl (λo (q:aN×Nat)=>o.setIfInBounds (a+k+q.2) q.1) X=Y;have yg:∀j:Nat,Y[j]?=if a+k<=j/\j<a+n+r then out[j-(a+k)]? else X[j]?:=λj=>by
   rw[<-hY,ZeO (a+k) out.toList 0 X j ⋯,iC,bw,bn,zo]
   by_cases c:a+k<=j/\j<a+n+r
   .rw[if_pos ⋯,if_pos c]
   .rw[if_neg ⋯,if_neg c]
  have xl:X.toList=X.toList.take (a+k)++((X.extract (a+k) (a+n)).toList++(X.extract (a+n) (a+n+r)).toList)++X.toList.drop (a+n+r):=by
   rw[dP,dP,cS,cS];have e1:X.toList.drop (a+k)=(X.toList.drop (a+k)).take (a+n-(a+k))++X.toList.drop (a+n):=by
    conv=>lhs;rw[<-bX (a+n-(a+k)) (X.toList.drop (a+k))]
    rw[List.drop_drop,show a+k+(a+n-(a+k))=a+n by lia]
   have e2:X.toList.drop (a+n)=(X.toList.drop (a+n)).take (a+n+r-(a+n))++X.toList.drop (a+n+r):=by
    conv=>lhs;rw[<-bX (a+n+r-(a+n)) (X.toList.drop (a+n))]
    rw[List.drop_drop,show a+n+(a+n+r-(a+n))=a+n+r by lia]
   rw[cU,cU,<-e2,<-e1,bX]
  have pm:Y.Perm X:=b7.mpr (by
   rw[xl,<-hY,Zj4 hlen,bw,zo,show a+k+(n-k+r)=a+n+r by lia]
   refine nM.append_right _ (nM.append_left _ ?_);rw[<-cE];exact b7.mp md.1)
  have mem:∀j,j<out.size->∃l,a+k<=l/\l<a+n+r/\ky kf out j=ky kf X l:=λj hj=>by
   have hm:out[j]∈(X.extract (a+k) (a+n)++X.extract (a+n) (a+n+r)).toList:=(b7.mp md.1).mem_iff.mp (by simp)
   rw[cE]at hm;rcases a7.mp hm with hm|hm
   .obtain⟨l,hl,el⟩:=bS hm;rw[bw,zx]at hl;refine⟨a+k+l,⋯,⋯,?_⟩
    rw[<-kx l hl,ZN hj,ZN ⋯,<-el]
    rfl
   .obtain⟨l,hl,el⟩:=bS hm;rw[bw,zy]at hl;refine⟨a+n+l,⋯,⋯,?_⟩
    rw[<-kyy l hl,ZN hj,ZN ⋯,<-el]
    rfl
  have ki:∀j,a+k<=j->j<a+n+r->ky kf Y j=ky kf out (j-(a+k)):=λj c d=>Zco (by rw[yg,if_pos ⟨c,d⟩])
  have ko:∀j,¬(a+k<=j/\j<a+n+r)->ky kf Y j=ky kf X j:=λj c=>Zco (by rw[yg,if_neg c])
  refine h _ (C.put t _ bt (by rw[ea];exact pm)) ep pm.size_eq (λj c=>?_) (Zh0 (Y:=Y) (P:=a+k) (R:=a+n+r) ⋯ ⋯ ⋯ s1 s2 pre suf ⋯ (λj c d=>?_) (λi j c e d=>?_) ko)
  .show Y[j]?=X[j]?;rw[yg,if_neg ⋯]
  .rw[ki j c d];exact mem _ ⋯
  .rw[ki i c ⋯,ki j ⋯ d]
   exact md.2 _ _ ⋯ ⋯
 have fl:∀(out:Array aN) t,B t->Q true (mK t ((out.toList.zipIdx).foldl (λo (q:aN×Nat)=>o.setIfInBounds (a+k+q.2) q.1) (arrOf t)))->wpS (ao prog w) A E s (do
   modify λt=>mK t ((out.toList.zipIdx).foldl (λo (q:aN×Nat)=>o.setIfInBounds (a+k+q.2) q.1) (arrOf t))
   return (iW (<-get)).isNone) Q t:=λout t bt hq=>by
  refine ar (gE (ar (jg (aA ?_))));rw[show(iW (mK t ((out.toList.zipIdx).foldl (λo (q:aN×Nat)=>o.setIfInBounds (a+k+q.2) q.1) (arrOf t)))).isNone=true from by
   show(iW t).isNone=true;rw[C.fail t bt]
   rfl]
  exact hq
 by_cases c3:n-k<=r
 .rw[if_pos c3];exact ar (Zvm C b2 (gsx _ _) (gsx _ _) sx sy ⋯ ⋯ (first 0 ⋯) (λi hi=>last i ⋯) λout t bt ea ep md=>fl out t bt (go out t bt ea ep md))
 .rw[if_neg c3];exact ar (Zvn C b2 (gsx _ _) (gsx _ _) sx sy ⋯ ⋯ (λi hi=>last i ⋯) (λi hi=>first i ⋯) λout t bt ea ep md=>fl out t bt (go out t bt ea ep md))
end
end ST
namespace ST
open PyProof.Rows
variable {kf:aN->List Int}
def Pd(kf:aN->List Int)(xs:Array aN):Nat->List (Nat×Nat)->Nat->Prop
 |a,[],b=>a=b
 |a,(c,n)::r,b=>c=a/\1<=n/\Seg kf xs a (a+n)/\Pd kf xs (a+n) r b
theorem Pd.app{xs:Array aN}{b:Nat}{S:List (Nat×Nat)}:∀{P:List (Nat×Nat)} {a:Nat},Pd kf xs a (P++S) b↔∃c,Pd kf xs a P c/\Pd kf xs c S b
 |[],a=>⟨λh=>⟨a,rfl,h⟩,λ⟨c,h,k⟩=>by cases h;exact k⟩
 | (c,n)::P,a=>by
  constructor
  .rintro⟨h1,h2,h3,h4⟩;obtain⟨d,k1,k2⟩:=Pd.app.mp h4;exact⟨d,⟨h1,h2,h3,k1⟩,k2⟩
  .rintro⟨d,⟨h1,h2,h3,k1⟩,k2⟩;exact⟨h1,h2,h3,Pd.app.mpr ⟨d,k1,k2⟩⟩
theorem Pd.le{xs:Array aN}{b:Nat}:∀{L:List (Nat×Nat)} {a:Nat},Pd kf xs a L b->a+L.length<=b
 |[],a,h=>by cases h;simp
 | (c,n)::P,a,⟨_,h2,_,h4⟩=>by
  have:=h4.le
  rw[bD];lia
theorem Seg.same(h:Seg kf xs a b)(e:∀k,a<=k->k<b->ys[k]?=xs[k]?):Seg kf ys a b:=λi j ai ij jb=>by
 rw[Zco (e i ai ⋯),Zco (e j ⋯ jb)]
 exact h i j ai ij jb
theorem Pd.same{xs ys:Array aN}{b:Nat}:∀{L:List (Nat×Nat)} {a:Nat},Pd kf xs a L b->(∀k,a<=k->k<b->ys[k]?=xs[k]?)->Pd kf ys a L b
 |[],a,h,_=>h
 | (c,n)::P,a,⟨h1,h2,h3,h4⟩,e=>⟨h1,h2,h3.same λk c d=>e k c (by have:=h4.le;lia),h4.same λk c d=>e k ⋯ d⟩
noncomputable def pl(p:Array (Nat×Nat×Nat)):List (Nat×Nat):=p.toList.map λx=>(x.1,x.2.1)
theorem Zpn{α:Type}{P S:List α}{x y z:α}:((P++x::y::S).set P.length z).eraseIdx (P.length+1)=P++z::S:=by
 induction P with
 |nil=>rfl
 |cons a P ih=>show a::((P++x::y::S).set P.length z).eraseIdx (P.length+1)=_;rw[ih];rfl
section
variable {prog:cD}{s:aB}{st:cg}
theorem Zpo{α:Type}{L:List α}(h:i+1<L.length):∃P x y S,L=P++x::y::S/\P.length=i:=by
 refine⟨L.take i,L[i],L[i+1],L.drop (i+2),?_,by rw[bI];lia⟩
 rw[<-cQ h,<-cQ ⋯,bX]
theorem Zh1(C:Cp (ao prog w) A E s kf G B)(hB:B st){lo:Nat}(hp:Pd kf (arrOf st) 0 (pl (pendingOf st)) lo)(hi:i+1<(pendingOf st).size)(hl:lo<=(arrOf st).size)(h:∀t,B t->Pd kf (arrOf t) 0 (pl (pendingOf t)) lo->(pendingOf t).size+1=(pendingOf st).size->(arrOf t).size=(arrOf st).size->(∀k,lo<=k->(arrOf t)[k]?=(arrOf st)[k]?)->Q true t):wpS (ao prog w) A E s (mergeAt' i) Q st:=by
 obtain⟨P,x,y,S,e,el⟩:=Zpo (L:=(pendingOf st).toList) (i:=i) (by simpa using hi)
 obtain⟨a,n,p⟩:=x;obtain⟨b,m,q⟩:=y;have hp':=hp;unfold pl at hp';rw[e,c6,Pd.app]at hp';obtain⟨c,p1,p2⟩:=hp';obtain⟨rfl,n1,s1,rfl,m1,s2,p3⟩:=p2;dsimp only at p1 n1 s1 e m1 s2 p3;have lc:=p1.le;have lb:=p3.le;have g1:(pendingOf st)[i]?=some (a,n,p):=by
  rw[<-bn,e,<-el,aK (af _),fQ];rfl
 have g2:(pendingOf st)[i+1]?=some (a+n,m,q):=by
  rw[<-bn,e,<-el,aK ⋯,show P.length+1-P.length=1 by lia]
  rfl
 refine Zvo C hB g1 g2 rfl n1 m1 ⋯ s1 s2 λt bt ept zt ot sg=>?_
 have etl:(pendingOf t).toList=P++(a,n+m,p)::S:=by
  rw[ept]
  have:(((pendingOf st).setIfInBounds i (a,n+m,p)).eraseIdxIfInBounds (i+1)).toList=((pendingOf st).toList.set i (a,n+m,p)).eraseIdx (i+1):=by
   simp[Array.toList_eraseIdxIfInBounds]
  rw[this,e,<-el,Zpn]
 have zz:(pendingOf t).size+1=(pendingOf st).size:=by
  rw[<-bw,<-bw,etl,e];simp;lia
 refine h t bt ?_ zz zt λk hk=>ot k ⋯
 unfold pl;rw[etl,c6,Pd.app];refine⟨a,p1.same λk _ hk=>ot k ⋯,rfl,(by show 1<=n+m;lia),?_,?_⟩
 .show Seg kf (arrOf t) a (a+(n+m));rw[<-fW];exact sg
 .show Pd kf (arrOf t) (a+(n+m)) _ lo;rw[<-fW];exact p3.same λk hk _=>ot k ⋯
theorem Cl.of(C:Cp (ao prog w) A E s kf G B)(hz:∀t,B t->(arrOf t).size=N)(lo:Nat)(p0:Array (Nat×Nat×Nat))(X:Array aN):Cl (ao prog w) A E s kf (λt=>B t/\pendingOf t=p0/\∀k,k<lo->(arrOf t)[k]?=X[k]?) lo N where
 sz t h:=hz t h.1
 put t xs h hp hk:=⟨C.put t xs h.1 hp,h.2.1,λk kl=>(hk k kl).trans (h.2.2 k kl)⟩
 cmp t i j Q h hi hj q:=by
  have z:=hz t h.1;have e1:(arrOf t)[i]?=some ((arrOf t)[i]'⋯):=getElem?_pos _ i ⋯
  have e2:(arrOf t)[j]?=some ((arrOf t)[j]'⋯):=getElem?_pos _ j ⋯
  rw[ltAt'_eq];refine ar (jg ?_);show wpS _ _ _ _ (elem' (arrOf t) i >>= λx=>elem' (arrOf t) j >>= λy=>lt' x y) Q t;refine ar (ZT e1 (ar (ZT e2 (C.cmp t _ _ _ h.1 (C.good t h.1 _ (by simp)) (C.good t h.1 _ (by simp)) ?_))))
  rw[ZN ⋯,ZN ⋯]at q
  exact q
theorem ZmH:pl (p.push x)=pl p++[(x.1,x.2.1)]:=by
 unfold pl;rw[gq,c6];rfl
theorem Zk6:(pl p).length=p.size:=by unfold pl;rw[au,bw]
theorem Zpp:pl (p.modify i λ(a,n,_)=>(a,n,v))=pl p:=by
 unfold pl;apply fk;intro k;rw[bv,bv,bn,bn,Array.getElem?_modify];split
 .cases p[k]?<;>rfl
 .rfl
def ruC(N lo n:Nat):SM (ForInStep (Option Unit×Nat)):=do
 let st <-get
 match(pendingOf st).back? with
 |some (s1,n1,_)=>do
  let s <-forIn [0:N] ((none,()):Option Unit×Unit) λ_ _=>do
   let st <-get
   match if(pendingOf st).size>1 then(pendingOf st)[(pendingOf st).size-2]? else none with
   |some (_,_,older)=>
    if older<=power' N (2*s1+n1) (2*s1+n1+n1+n) N then pure (.done (none,()))else do
     let b <-mergeAt' ((pendingOf st).size-2)
     if !b then pure (.done (some (),()))else pure (.yield (none,()))
   |_=>pure (.done (none,()))
  match s.1 with
  |some r=>pure (.done (some r,lo))
  |none=>do
   modify λs=>gD s ((pendingOf s).modify ((pendingOf s).size-1) λ(st,len,_)=>(st,len,power' N (2*s1+n1) (2*s1+n1+n1+n) N))
   modify λs=>gD s ((pendingOf s).push (lo,n,0))
   pure (.yield (none,lo+n))
 |_=>do
  modify λs=>gD s ((pendingOf s).push (lo,n,0))
  pure (.yield (none,lo+n))
def ruB(N mr lo:Nat):SM (ForInStep (Option Unit×Nat)):=
 if lo ≥ N then pure (.done (none,lo))else do
  match <-countRun' lo (N-lo)with
  |some n=>
   if n<mr then do
    liftM (PySem.rule "list.sort.binary-insertion")
    let b <-binarySort' lo (min (N-lo) mr) n
    if !b then pure (.done (some (),lo))else ruC N lo (min (N-lo) mr)
   else ruC N lo n
  |_=>pure (.done (some (),lo))
theorem ZmI:sortRuns'=(do
  let st <-get
  let s <-forIn [0:(arrOf st).size] ((none,0):Option Unit×Nat) λ_ s=>ruB (arrOf st).size (minRun' (arrOf st).size (arrOf st).size 0) s.2
  match s.1 with
  |some r=>pure r
  |none=>do
   let s <-forIn [0:(arrOf st).size] ((none,()):Option Unit×Unit) λ_ _=>do
    let t <-get
    if(pendingOf t).size<=1 then pure (.done (none,()))else do
     let b <-mergeAt' (if Option.any (λx=>decide (x<(pendingOf t)[(pendingOf t).size-2+1]?.elim 0 λx=>x.2.1)) (if(pendingOf t).size-2>0 then Option.map (λx=>x.2.1) (pendingOf t)[(pendingOf t).size-2-1]? else none)=true then(pendingOf t).size-2-1 else(pendingOf t).size-2)
     if !b then pure (.done (some (),()))else pure (.yield (none,()))
   match s.1 with
   |some r=>pure r
   |none=>pure ()):=by kernel_rfl
theorem Zpq(C:Cp (ao prog w) A E s kf G B)(hz:∀t,B t->(arrOf t).size=N){lo:Nat}(h1:1<=n)(hn:lo+n<=N)(hB:B st)(eX:arrOf st=X)(up:UpL kf lo X n)(pd:Pd kf X 0 (pl (pendingOf st)) lo)(q:∀t,B t->Pd kf (arrOf t) 0 (pl (pendingOf t)) (lo+n)->R (.yield (none,lo+n)) t):wpS (ao prog w) A E s (ruC N lo n) R st:=by
 subst eX;unfold ruC;refine ar (jg ?_);have fin:∀t3,B t3->Pd kf (arrOf t3) 0 (pl (pendingOf t3)) lo->(∀k,lo<=k->(arrOf t3)[k]?=(arrOf st)[k]?)->R (.yield (none,lo+n)) (gD t3 ((pendingOf t3).push (lo,n,0))):=λt3 b3 p3 f3=>by
  refine q _ (C.pen t3 _ b3) ?_;show Pd kf (arrOf t3) 0 (pl ((pendingOf t3).push (lo,n,0))) (lo+n);rw[ZmH,Pd.app];refine⟨lo,p3,rfl,h1,λi j a ij (jb:j<lo+n)=>?_,rfl⟩;rw[Zco (f3 i a),Zco (f3 j ⋯)]
  have:=up (i-lo) (j-lo) ⋯ ⋯
  rw[show lo+(i-lo)=i by lia,show lo+(j-lo)=j by lia]at this
  exact this
 cases hbk:(pendingOf st).back? with
 |none=>exact ar (gE (aA (fin st hB pd λ_ _=>rfl)))
 |some x=>
  obtain⟨u1,u2,u3⟩:=x;dsimp only;refine ar (fL (cj (λn r t=>B t/\r=(none,())/\Pd kf (arrOf t) 0 (pl (pendingOf t)) lo/\∀k,lo<=k->(arrOf t)[k]?=(arrOf st)[k]?) (Q:=λr t=>B t/\r=(none,())/\Pd kf (arrOf t) 0 (pl (pendingOf t)) lo/\∀k,lo<=k->(arrOf t)[k]?=(arrOf st)[k]?) (λn r t _ nn hI=>?_) (λr t hI=>hI) ⟨hB,rfl,pd,λ_ _=>rfl⟩) λr t hI=>?_)
  .obtain⟨bt,rfl,pt,ft⟩:=hI;refine ar (jg ?_);by_cases c:(pendingOf t).size>1
   .rw[if_pos c,getElem?_pos (pendingOf t) ((pendingOf t).size-2) ⋯]
    generalize (pendingOf t)[(pendingOf t).size-2]=y;obtain⟨y1,y2,y3⟩:=y;dsimp only;split
    .exact aA ⟨bt,rfl,pt,ft⟩
    .refine ar (Zh1 C bt pt ⋯ (by rw[hz t bt];lia) λt3 b3 p3 z3 zt ot=>?_)
     rw[if_neg (by simp)]
     exact aA ⟨b3,rfl,p3,λk hk=>(ot k hk).trans (ft k hk)⟩
   .rw[if_neg c];exact aA ⟨bt,rfl,pt,ft⟩
  .obtain⟨bt,rfl,pt,ft⟩:=hI;dsimp only;refine ar (gE (ar (gE (aA (fin (gD t _) (C.pen t _ bt) ?_ ft)))));show Pd kf (arrOf t) 0 (pl ((pendingOf t).modify _ _)) lo;rw[Zpp];exact pt
theorem Zh2(C:Cp (ao prog w) A E s kf G B)(hz:∀t,B t->(arrOf t).size=N)(n1:1<=N)(hB:B st)(hp:pendingOf st= #[])(h:∀t,B t->Up kf (arrOf t) N->Q () t):wpS (ao prog w) A E s sortRuns' Q st:=by
 rw[ZmI];refine ar (jg ?_);rw[hz st hB];generalize minRun' N N 0=mr;refine ar (fL (cj (λn r t=>B t/\∃lo,r=(none,lo)/\(n<=lo/\lo<=N)/\Pd kf (arrOf t) 0 (pl (pendingOf t)) lo) (Q:=λr t=>B t/\r=(none,N)/\Pd kf (arrOf t) 0 (pl (pendingOf t)) N) (λn r t _ nn hI=>?_) (λr t hI=>?_) ⟨hB,0,rfl,⋯,by rw[hp];rfl⟩) λr t hI=>?_)
 .obtain⟨bt,lo,rfl,⟨l1,l2⟩,pd⟩:=hI;dsimp only;unfold ruB;by_cases c:lo ≥ N
  .rw[if_pos c]
   have:lo=N:=⋯
   subst this;exact aA ⟨bt,rfl,pd⟩
  rw[if_neg c];have fin:∀n':Nat,1<=n'->lo+n'<=N->∀t,B t->Pd kf (arrOf t) 0 (pl (pendingOf t)) (lo+n')->B t/\∃lo',((none,lo+n'):Option Unit×Nat)=(none,lo')/\(n+1<=lo'/\lo'<=N)/\Pd kf (arrOf t) 0 (pl (pendingOf t)) lo':=λn' a b t bt p=>⟨bt,_,rfl,⋯,p⟩
  refine ar (Zpk (Cl.of C hz lo (pendingOf t) (arrOf t)) ⋯ ⋯ ⟨bt,rfl,λ_ _=>rfl⟩ λm t1 b1 m1 m2 up1=>?_)
  have b1':=b1;obtain⟨b1,e1,fr1⟩:=b1;dsimp only;by_cases cm:m<mr
  .rw[if_pos cm];refine ar (kq (wpAny_rule ⟨rfl,ar (Zpm (Cl.of C hz lo (pendingOf t) (arrOf t)) ⋯ ⋯ b1' up1 λt2 b2 up2=>?_)⟩))
   obtain⟨b2,hpe,hfr⟩:=b2;rw[if_neg (by simp)]
   exact Zpq C hz ⋯ ⋯ b2 rfl up2 (by rw[hpe];exact pd.same λk _ hk=>hfr k hk) (fin _ ⋯ ⋯)
  .rw[if_neg cm];exact Zpq C hz ⋯ ⋯ b1 rfl up1 (by rw[e1];exact pd.same λk _ hk=>fr1 k hk) (fin _ ⋯ ⋯)
 .obtain⟨bt,lo,rfl,⟨l1,l2⟩,pd⟩:=hI
  have:lo=N:=⋯
  subst this;exact⟨bt,rfl,pd⟩
 .obtain⟨bt,rfl,pd⟩:=hI;dsimp only;refine ar (fL (cj (λn r t=>B t/\r=(none,())/\(pendingOf t).size+n<=N/\Pd kf (arrOf t) 0 (pl (pendingOf t)) N) (Q:=λr t=>B t/\r=(none,())/\(pendingOf t).size<=1/\Pd kf (arrOf t) 0 (pl (pendingOf t)) N) (λn r t _ nn hI=>?_) (λr t hI=>?_) ⟨bt,rfl,by have:=pd.le;rw[Zk6]at this;lia,pd⟩) λr t hI=>?_)
  .obtain⟨bt,rfl,zn,pd⟩:=hI;refine ar (jg ?_);by_cases c:(pendingOf t).size<=1
   .rw[if_pos c];exact aA ⟨bt,rfl,c,pd⟩
   rw[if_neg c];have key:∀(c:Bool)(a k:Nat),a+1<k->(if c=true then a-1 else a)+1<k:=λc a k h=>by cases c<;>simp<;>lia
   refine ar (Zh1 C bt pd (key _ _ _ ⋯) (by rw[hz t bt];lia) λt3 b3 p3 z3 zt ot=>?_)
   rw[if_neg (by simp)]
   exact aA ⟨b3,rfl,⋯,p3⟩
  .obtain⟨bt,rfl,zn,pd⟩:=hI;exact⟨bt,rfl,⋯,pd⟩
  .obtain⟨bt,rfl,zn,pd⟩:=hI;refine aA (h t bt ?_);rw[<-Zk6]at zn
   match pl (pendingOf t),zn,pd with
   |[],_,e=>exact λi j ij hj=>by cases e;lia
   |[(a,n)],_,⟨h1,h2,h3,h4⟩=>
    cases h1
    have:0+n=N:=h4
    rw[this]at h3;exact λi j ij hj=>h3 i j ⋯ ij hj
   |_::_::_,z,_=>simp at z
end
end ST
namespace ST
open PyProof.Rows
section
variable {prog:cD}{w:da}{A:dg}{E:Vp}{s:aB}
theorem Zh3(x y:aa):keyLt' (mU true) x y=(do
  let xs <-ez x
  let ys <-ez y
  for ((p,q),i)in (xs.toList.zip ys.toList).zipIdx do
   if !(<-eqBool p q)then return <-oneLt' (true&&i==0) p q
  return decide (xs.size<ys.size)):=rfl
noncomputable def Zpr(x:(aa×aa)×Nat)(_:Option Bool×Unit):Sem (ForInStep (Option Bool×Unit)):=match x with
 | ((p,q),i)=>do
  let b <-eqBool p q
  if(!b)=true then do
   let r <-oneLt' (true&&i==0) p q
   pure (ForInStep.done (some r,()))
  else pure (ForInStep.yield (none,()))
theorem Zh4(h:Q (decide (a<b)) s):wpAny (ao prog w) A (oneLt' f (.int a t) (.int b u)) Q E s:=by
 cases f with
 |true=>exact oneLt_int h
 |false=>
  rw[oneLt'_eq];simp only[a8,if_false];exact Wb (HT.Zjp _ _ _ _ _ _ _ _ _ _ (dR h))
theorem Zj5:∀{us vs:List aa}{ns ms:List Int},iw us ns->iw vs ms->∀(k:Nat)(Q:Option Bool×Unit->aB->Prop),(∀b,b=HT.ZaY ns ms->Q (some b,()) s)->(HT.ZaY ns ms=decide (us.length<vs.length)->Q (none,()) s)->wpAny (ao prog w) A (forIn ((us.zip vs).zipIdx k) (none,()) Zpr) Q E s:=by
 intro us vs ns ms hu
 induction hu generalizing vs ms with
 |nil=>
  intro hv k Q _ h2;simp only[List.zip_nil_left,List.zipIdx_nil,List.forIn_nil];refine Wp (h2 ?_);cases hv<;>simp[HT.ZaY]
 |@cons n t us ns hu ih=>
  intro hv k Q h1 h2;cases hv with
  |nil=>
   simp only[List.zip_nil_right,List.zipIdx_nil,List.forIn_nil];exact Wp (h2 (by simp[HT.ZaY]))
  |@cons m u vs ms hv=>
   rw[jr,List.zipIdx_cons,List.forIn_cons];obtain⟨e,he,hi⟩:=HT.Zjo A s n t m u;refine Wb (Wb (he prog w _ _ ?_));cases e with
   |true=>
    have:n=m:=hi.mp rfl
    subst this;refine Wp (ih hv (k+1) Q (λb hb=>h1 b ?_) λz=>h2 ?_)
    .rw[HT.ZR,if_pos rfl];exact hb
    .rw[HT.ZR,if_pos rfl,z];simp
   |false=>
    have:n≠m:=λz=>by have:=hi.mpr z;cases this
    refine Wb (Zh4 (Wp (Wp (h1 _ ?_))));rw[HT.ZR,if_neg this]
def Zbi(h:Heap)(v:aa)(ns:List Int):Prop:=∃a o its n,v=.ref a/\h.get? a=some o/\o.cls=.type "tuple"/\o.data=.seq its n/\iw its.toList ns
theorem Zh5:∀{us:List aa}{ns ms:List Int},iw us ns->iw us ms->ns=ms:=by
 intro us ns ms h
 induction h generalizing ms with
 |nil=>intro g;cases g;rfl
 |cons n t h ih=>
  intro g;cases g with
  |cons _ _ g=>rw[ih g]
theorem Zbi.uniq(a:Zbi h v ns)(b:Zbi h v ms):ns=ms:=by
 obtain⟨p,o,its,n,rfl,e1,e2,e3,e4⟩:=a;obtain⟨p',o',its',n',e5,f1,f2,f3,f4⟩:=b;cases e5;rw[e1]at f1;cases f1;rw[e3]at f3;cases f3;exact Zh5 e4 f4
theorem Zsm(hx:Zbi s.heap x ns)(hy:Zbi s.heap y ms)(q:Q (HT.ZaY ns ms) s):wpAny (ao prog w) A (keyLt' (mU true) x y) Q E s:=by
 obtain⟨a,o,its,n,rfl,e1,e2,e3,e4⟩:=hx;obtain⟨b,o',its',n',rfl,f1,f2,f3,f4⟩:=hy;rw[Zh3];refine Wb (jh e1 e3 (Wb (jh f1 f3 ?_)));show wpAny _ _ (forIn ((its.toList.zip its'.toList).zipIdx 0) (none,()) Zpr >>= _) _ _ _;refine Wb (Zj5 e4 f4 0 _ (λb hb=>?_) λz=>?_)
 .rw[hb];exact Wp q
 .show wpAny _ _ (pure (decide (its.size<its'.size))) _ _ _;rw[show decide (its.size<its'.size)=HT.ZaY ns ms by rw[z];simp]
  exact Wp q
open Classical in
def kfH(h:Heap)(p:aN):List Int:=if e:∃ns,Zbi h p.1 ns then e.choose else[]
theorem Zh6(e:Zbi h p.1 ns):kfH h p=ns:=by
 unfold kfH;rw[dif_pos ⟨ns,e⟩];exact(Exists.choose_spec (⟨ns,e⟩:∃ns,Zbi h p.1 ns)).uniq e
structure TB(a₀:Array aN) (st:cg):Prop where
 perm:(arrOf st).Perm a₀
 kind:kindOf st=mU true
 fail:iW st=none
theorem TB.size{st:cg}(h:TB a₀ st):(arrOf st).size=a₀.size:=h.perm.size_eq
theorem Zsn(hk:∀p∈a₀.toList,∃ns,Zbi s.heap p.1 ns):Cp (ao prog w) A E s (kfH s.heap) (λp=>∃ns,Zbi s.heap p.1 ns) (TB a₀) where
 cmp st p q Q h hp hq g:=by
  obtain⟨ns,t1⟩:=hp;obtain⟨ms,t2⟩:=hq;rw[Zh6 t1,Zh6 t2]at g;rw[lt'_eq];refine ar (jg ?_);rw[h.kind];exact ar (kq (j3 (Zsm t1 t2 ⟨rfl,aA g⟩)))
 gal st g h:=⟨h.perm,h.kind,h.fail⟩
 pen st p h:=⟨h.perm,h.kind,h.fail⟩
 put st xs h hp:=⟨hp.trans h.perm,h.kind,h.fail⟩
 good st h p hp:=hk p ((b7.mp h.perm).mem_iff.mp hp)
 fail st h:=h.fail
theorem ZmJ(hk:∀p∈a₀.toList,∃ns,Zbi s.heap p.1 ns)(n1:1<=a₀.size):wpS (ao prog w) A E s sortRuns' (λ_ t=>TB a₀ t/\Up (kfH s.heap) (arrOf t) a₀.size) (cg.mk' (mU true) a₀ #[] 7 none):=
 Zh2 (B:=TB a₀) (N:=a₀.size) (Zsn hk) (λ_ h=>h.size) n1 ⟨Array.Perm.refl _,rfl,rfl⟩ rfl λt h u=>⟨h,u⟩
theorem ZmK(h:Zbi s.heap v (n::ns))(q:∀t,Q (some (.int n t)) s):wpAny (ao prog w) A (mB v) Q E s:=by
 obtain⟨a,o,its,m,rfl,e1,e2,e3,e4⟩:=h;have e:mB (.ref a)=(do
  if(<-typeOf (.ref a)) != .type "tuple" then return none
  return (<-ez (.ref a))[0]?):=rfl
 rw[e];refine Wb (mO ⟨o,e1,e2⟩ ?_);rw[if_neg (by decide)]
 refine Wb (jh e1 e3 (Wp ?_));cases its with
 |mk l=>
  cases e4 with
  |cons n t h=>exact q t
theorem ZfM:∀{vs:List aa},(∀v∈vs,∃n ns,Zbi s.heap v (n::ns))->∀(Q:List (Option aa)->aB->Prop),(∀us ns,iw us ns->us.length=vs.length->Q (us.map some) s)->wpAny (ao prog w) A (vs.mapM mB) Q E s
 |[],_,Q,q=>by
  rw[List.mapM_nil];exact Wp (q [] [] .nil rfl)
 |v::vs,h,Q,q=>by
  obtain⟨n,ns,hv⟩:=h v (by simp)
  rw[List.mapM_cons];refine Wb (ZmK hv λt=>Wb (ZfM (λx hx=>h x (aI _ hx)) _ λus ms hi hl=>Wp ?_));exact q (.int n t::us) (n::ms) (.cons n t hi) (by simp[hl])
theorem Zps(h:∀v∈vs,∃n ns,Zbi s.heap v (n::ns))(ne:vs≠[])(q:Q (mU true) s):wpAny (ao prog w) A (keyKind' vs.toArray) Q E s:=by
 rw[keyKind'_eq,List.mapM_toArray];simp only[map_eq_pure_bind,bind_assoc,pure_bind];refine Wb (ZfM h _ λus ns hi hl=>?_);have a1:((us.map some).toArray.all λx=>x.isSome)=true:=by simp
 rw[if_pos a1];refine Wb (wpAny_rule ?_);have a2:(us.map some).toArray.filterMap id=us.toArray:=by simp
 rw[a2,oneTypeOnly'_eq,List.mapM_toArray,mapM_typeOf_ints hi];cases us with
 |nil=>exact absurd (dN hl.symm) ne
 |cons u us=>
  simp only[map_pure,pure_bind];have b0:(List.map (λ_=>bB "int") (u::us)).toArray[0]?=some (bB "int"):=by simp
  have b1:((List.map (λ_=>bB "int") (u::us)).toArray.all λx=>x==bB "int")=true:=by
   rw[List.all_toArray,List.all_map,dG];exact λ_ _=>rfl
  rw[b0];show wpAny _ _ (pure (if((List.map (λ_=>bB "int") (u::us)).toArray.all λx=>x==bB "int")=true then some (bB "int")else none) >>= _) _ _ _
  rw[if_pos b1];exact Wb (Wp (Wp q))
end
end ST
namespace ST
def ins(x:List Int):List (List Int)->List (List Int)
 |[]=>[x]
 |y::r=>if lt y x=true then y::ins x r else x::y::r
def srt:List (List Int)->List (List Int)
 |[]=>[]
 |x::r=>ins x (srt r)
theorem Zdh(x:List Int):∀l,(ins x l).Perm (x::l)
 |[]=>.refl _
 |y::r=>by
  unfold ins;split
  .exact((Zdh x r).cons y).trans (.swap x y r)
  .exact .refl _
theorem Zbz:∀l,(srt l).Perm l
 |[]=>.refl _
 |x::r=>(Zdh x (srt r)).trans ((Zbz r).cons x)
theorem Zk7(x:List Int):∀l,l.Pairwise le->(ins x l).Pairwise le
 |[],_=>List.pairwise_singleton _ _
 |y::r,h=>by
  obtain⟨h1,h2⟩:=jF.mp h;unfold ins;split
  .rename_i c;refine jF.mpr ⟨λz hz=>?_,Zk7 x r h2⟩;rcases az.mp ((Zdh x r).mem_iff.mp hz)with rfl|hz
   .exact ZbG c
   .exact h1 z hz
  .rename_i c;have c:le x y:=by unfold le;simpa using c
   refine jF.mpr ⟨λz hz=>?_,h⟩;rcases az.mp hz with rfl|hz
   .exact c
   .exact ZbY c (h1 z hz)
theorem Zh7:∀l,(srt l).Pairwise le
 |[]=>.nil
 |x::r=>Zk7 x _ (Zh7 r)
theorem Zj6(hp:a.Perm b)(h:a.Pairwise le):a=srt b:=
 j8 (λx y _ _ h1 h2=>Zd8 h2 h1) h (Zh7 b) (hp.trans (Zbz b).symm)
end ST
namespace DL
open PyProof.Rows L2 PySem.W
theorem ZeP{F:α->β->Prop}{us us':List β}(hp:us'.Perm us):∀{xs:List α},Paired F xs us->∃xs',xs'.Perm xs/\Paired F xs' us':=by
 induction hp with
 |nil=>intro xs h;exact⟨xs,.refl _,h⟩
 |@cons a l1 l2 h ih=>
  intro xs r;cases r with
  |cons r1 r2=>
   obtain⟨xs',p1,p2⟩:=ih r2;exact⟨_::xs',p1.cons _,.cons r1 p2⟩
 |swap a b l=>
  intro xs r;cases r with
  |cons r1 r2=>
   cases r2 with
   |cons r2 r3=>exact⟨_::_::_,.swap _ _ _,.cons r2 (.cons r1 r3)⟩
 |trans h1 h2 i1 i2=>
  intro xs r;obtain⟨x1,p1,q1⟩:=i2 r;obtain⟨x2,p2,q2⟩:=i1 q1;exact⟨x2,p2.trans p1,q2⟩
def Zuc(K:Fg)(H:Hp)(x:V)(ns:List Int):Prop:=∃q,x=.ref q/\SqT K H q (ns.map V.int)
section
variable {X:Cx}
theorem ZfN(I:Inv X pins σ H s)(h:Zuc X.K H x ns)(r:ZS x u):ST.Zbi s.heap u ns:=by
 obtain⟨q,rfl,hq⟩:=h;cases r;obtain⟨its,r2,⟨o,k1,k2,n,k3⟩,_⟩:=I.tuple hq;exact⟨q,o,its.toArray,n,rfl,k1,k2,k3,by simpa using Zgh r2⟩
theorem Zh8:bK "sorted"=some (.builtin "sorted"):=by decide +kernel
def Zj7(ns:List Int):D:=.tup (ns.map D.int)
theorem ZbA:∀a:List Int,ZeH (a.map D.int)=some a
 |[]=>rfl
 |i::r=>by rw[aV,ZeH,ZbA r]
theorem Zj8(h:Zj7 a=Zj7 b):a=b:=by
 have:ZeH (a.map D.int)=ZeH (b.map D.int):=by unfold Zj7 at h;rw[D.tup.inj h]
 rw[ZbA,ZbA]at this;exact aQ this
theorem Zh9(r:Rep X.K H α v (Zj7 ns)):Zuc X.K H v ns:=by
 cases r with
 |tup hp rp=>
  have:=ZhL rp (ZbA ns)
  subst this;exact⟨_,rfl,SqT.of hp⟩
end
end DL
namespace ST
open PyProof.Rows
section
variable {e:Nat}{vs:List aa}
theorem ZmL{st:cg}(ho:s.heap.get? a=some (bF "list" #[] e1))(hk:s.heap.get? kS=some (bF "list" keys e))(hka:kS≠a)(hsz:keys.size=vs.length)(h64:vs.length<1000000)(hp:(arrOf st).Perm (keys.zip vs.toArray))(hfl:iW st=none)(h:∀h' c,(∀b o,b≠a->b≠kS->s.heap.get? b=some o->h'.get? b=some o)->(∃o,h'.get? kS=some o)->h'.get? a=some (bF "list" ((arrOf st).map (·.2)) c)->P (.done (.ret .none)) {s with heap:=h'}):
  wpAny (ao prog w) A (ksk_tail a false e1 (.ref kS) st) P E s:=by
 have hsz2:(arrOf st).size=vs.length:=by rw[hp.size_eq,Array.size_zip,hsz,ah,mS]
 have s1:=fJ s.heap kS (bC λ_=>(#[]:Array aa));have na1:(s.heap.update kS (bC λ_=>(#[]:Array aa))).get? a=some (bF "list" #[] e1):=(s1.2 a hka.symm).trans ho;obtain⟨ck,hck⟩:∃ck,(s.heap.update kS (bC λ_=>(#[]:Array aa))).get? kS=some (bF "list" #[] ck):=⟨_,i8 hk λ_=> #[]⟩;have s2:=fJ (s.heap.update kS (bC λ_=>(#[]:Array aa))) a (bC λ_=>(arrOf st).map (·.2));obtain⟨c2,hc2⟩:∃c2,((s.heap.update kS (bC λ_=>(#[]:Array aa))).update a (bC λ_=>(arrOf st).map (·.2))).get? a=some (bF "list" ((arrOf st).map (·.2)) c2):=⟨_,i8 na1 λ_=>(arrOf st).map (·.2)⟩;unfold ksk_tail
 try dsimp only
 refine Wb (j9 hk rfl ?_ (by rw[hsz,dL];lia) (cI _))
 refine Wb (wpAny_letGo ?_);refine Wb (seqEpoch_at na1 rfl ?_);simp only[a8,if_false];refine Wb (j9 na1 rfl ?_ (cI _) (by rw[Array.size_map,hsz2,dL];lia))
 rw[hfl];simp only[bne_self_eq_false,a8,if_false];refine Wp (h _ c2 (λb o n1 n2 q=>?_) ⟨_,(s2.2 kS hka).trans hck⟩ hc2);exact(s2.2 b n1).trans ((s1.2 b n2).trans q)
theorem Zpt(ho:s.heap.get? a=some (bF "list" #[] e1))(hk:s.heap.get? kS=some (bF "list" keys e))(hka:kS≠a)(hsz:keys.size=vs.length)(h64:vs.length<1000000)(hu:∀u∈keys.toList,∃n ns,Zbi s.heap u (n::ns))(h:∀(out:List (aa×aa)) h' c,out.Perm (keys.toList.zip vs)->(∀i j (hi:i<out.length) (hj:j<out.length),i<=j->∀ns ms,Zbi s.heap out[i].1 ns->Zbi s.heap out[j].1 ms->le ns ms)->(∀b o,b≠a->b≠kS->s.heap.get? b=some o->h'.get? b=some o)->(∃o,h'.get? kS=some o)->h'.get? a=some (bF "list" (out.map (·.2)).toArray c)->P (.done (.ret .none)) {s with heap:=h'}):
  wpAny (ao prog w) A (ksk_end a false vs.toArray e1 (.ref kS) keys) P E s:=by
 have hzs:(keys.zip vs.toArray).size=vs.length:=by rw[Array.size_zip,hsz,ah,mS]
 have fin:∀st':cg,(arrOf st').Perm (keys.zip vs.toArray)->iW st'=none->(∀i j,i<=j->j<vs.length->le (ky (kfH s.heap) (arrOf st') i) (ky (kfH s.heap) (arrOf st') j))->wpAny (ao prog w) A (ksk_tail a false e1 (.ref kS) st') P E s:=λst' hp hf hs=>by
  refine ZmL ho hk hka hsz h64 hp hf λh' c k1 k2 k3=>?_;have hl:(arrOf st').toList.Perm (keys.toList.zip vs):=by
   have:=b7.mp hp
   rwa [ksk_zip]at this
  have lz:(arrOf st').size=vs.length:=by rw[hp.size_eq,hzs]
  refine h (arrOf st').toList h' c hl (λi j hi hj ij ns ms t1 t2=>?_) k1 k2 (by
   have:(arrOf st').map (·.2)=((arrOf st').toList.map (·.2)).toArray:=by apply gM.mp;simp
   rw[<-this];exact k3)
  have hi':i<(arrOf st').size:=by simpa using hi
  have hj':j<(arrOf st').size:=by simpa using hj
  have kk:∀k (hk:k<(arrOf st').size) (ns:List Int),Zbi s.heap ((arrOf st')[k]).1 ns->ky (kfH s.heap) (arrOf st') k=ns:=λk hk ns ht=>by
   unfold ky;rw[getElem?_pos (arrOf st') k hk];exact Zh6 ht
  have q:=hs i j ij ⋯
  rw[kk i hi' ns (by simpa using t1),kk j hj' ms (by simpa using t2)]at q
  exact q
 unfold ksk_end;simp only[a8,if_false];by_cases h2:vs.toArray.size<2
 .rw[if_pos h2,if_pos h2];refine Wb (Wp ?_);rw[StateT.run_pure];refine Wb (Wp ?_);rw[ah]at h2;exact fin (cg.mk' general' (keys.zip vs.toArray) #[] 7 none) (Array.Perm.refl _) rfl λi j ij jn=>by rw[show i=j by lia];exact Zcn _
 .rw[if_neg h2,if_neg h2];rw[ah]at h2;have ek:keys=keys.toList.toArray:=by simp
  have kw:wpAny (ao prog w) A (keyKind' keys) (λk s'=>k=mU true/\s'=s) E s:=by
   rw[ek];exact Zps hu (λz=>by have:=congrArg nv z;simp at this;rw[this]at hsz;simp at hsz;lia) ⟨rfl,rfl⟩
  refine Wb (wpAny_mono kw (λk s' hk'=>?_) λ_ _ e=>e);obtain⟨rfl,rfl⟩:=hk';refine Wb (wpAny_mono (ZmJ (a₀:=keys.zip vs.toArray) (λp hp=>?_) (by rw[hzs];lia)) ?_ λ_ _ e=>e)
  .rw[ksk_zip]at hp;obtain⟨x,y⟩:=p;obtain⟨n,ns,ht⟩:=hu x (hG hp).1;exact⟨_,ht⟩
  .rintro⟨⟨⟩,t'⟩ s2 ⟨rfl,tb,hup⟩;rw[hzs]at hup;exact fin t' tb.perm tb.fail hup
theorem ZmM(J:List aa->aB->Prop)(ho:s.heap.get? a=some (bF "list" #[] e1))(hk:s.heap.get? kS=some (bF "list" #[] 0))(hka:kS≠a)(h64:vs.length<1000000)(hJ:J [] s)(turn:∀i v kL s' na ea nk ek,vs[i]?=some v->kL.length=i->J kL s'->s'.heap.get? a=some (bF "list" na ea)->s'.heap.get? kS=some (bF "list" nk ek)->wpAny (ao prog w) A (call f [v]) (λu s''=>J (kL++[u]) s''/\s''.heap.get? a=some (bF "list" na ea)/\s''.heap.get? kS=some (bF "list" nk ek)) (λ_ _=>False) s')(upd:∀kL s' h',J kL s'->(∀b o,b≠kS->s'.heap.get? b=some o->h'.get? b=some o)->(∃o,h'.get? kS=some o)->J kL {s' with heap:=h'})(key:∀kL s',J kL s'->∀u∈kL,∃n ns,Zbi s'.heap u (n::ns))(h:∀kL s' (out:List (aa×aa)) h' c,J kL s'->kL.length=vs.length->out.Perm (kL.zip vs)->(∀i j (hi:i<out.length) (hj:j<out.length),i<=j->∀ns ms,Zbi s'.heap out[i].1 ns->Zbi s'.heap out[j].1 ms->le ns ms)->(∀b o,b≠a->b≠kS->s'.heap.get? b=some o->h'.get? b=some o)->(∃o,h'.get? kS=some o)->h'.get? a=some (bF "list" (out.map (·.2)).toArray c)->P (.done (.ret .none)) {s' with heap:=h'}) :
  wpAny (ao prog w) A (ksk_rest a f false vs.toArray e1 (.ref kS)) P E s:=by
 unfold ksk_rest;refine Wb (wpAny_rule ?_)
 first
  |rw[List.forIn_toArray]
  | (rw[<-fM];simp only[mq])
  |rw[<-fM]
 refine Wb (ksk_fold (λi s'=>∃kA e,J kA.toList s'/\s'.heap.get? a=some (bF "list" #[] e1)/\s'.heap.get? kS=some (bF "list" kA e)/\kA.size=i) vs 0 s ⟨#[],0,hJ,ho,hk,rfl⟩ ?step ?done)
 case step=>
  rintro j x s' hx ⟨kA,e,hJ',ho',hk',hz⟩;rw[fm]at hz;have hj:j<vs.length:=(aq.mp hx).1;refine Wb (j3 (wpAny_mono (turn j x kA.toList s' _ _ _ _ hx (by simpa using hz) hJ' ho' hk') (λu s'' he=>?_) λ_ _ hF=>hF.elim))
  obtain⟨g1,g2,g3⟩:=he
  try dsimp only
  have s1:=fJ s''.heap kS (bC (·.push u));obtain⟨c2,hc2⟩:∃c2,(s''.heap.update kS (bC (·.push u))).get? kS=some (bF "list" (kA.push u) c2):=⟨_,i8 g3 (·.push u)⟩;refine Wb (j9 g3 rfl ?_ (by rw[hz,dL];lia) (aM (mV (dY ..)) (by rw[dL];lia)))
  refine Wp ⟨rfl,kA.push u,c2,?_,(s1.2 a hka.symm).trans g2,hc2,by rw[dY,hz];lia⟩
  have ea:(kA.push u).toList=kA.toList++[u]:=by simp
  rw[ea];exact upd _ _ _ g1 (λb o nb q=>(s1.2 b nb).trans q) ⟨_,hc2⟩
 case done=>
  rintro s' ⟨kA,e,hJ',ho',hk',hz⟩;rw[fm]at hz
  try dsimp only
  refine Wb (jh hk' rfl ?_);exact Zpt ho' hk' hka hz h64 (key _ _ hJ') λout h' c k1 k2 k3 k4 k5=>h kA.toList s' out h' c hJ' (by simpa using hz) k1 k2 k3 k4 k5
theorem ZmN(J:Addr->List aa->aB->Prop)(ho:s.heap.get? a=some (bF "list" vs.toArray n))(h64:vs.length<1000000)(hJ:∀kS h1,s.heap.objs.size<=kS->(∀b o,b≠a->s.heap.get? b=some o->h1.get? b=some o)->(∃o,h1.get? a=some o)->(∃o,h1.get? kS=some o)->J kS [] {s with heap:=h1})(turn:∀kS i v kL s' na ea nk ek,vs[i]?=some v->kL.length=i->J kS kL s'->s'.heap.get? a=some (bF "list" na ea)->s'.heap.get? kS=some (bF "list" nk ek)->wpAny (ao prog w) A (call f [v]) (λu s''=>J kS (kL++[u]) s''/\s''.heap.get? a=some (bF "list" na ea)/\s''.heap.get? kS=some (bF "list" nk ek)) (λ_ _=>False) s')(upd:∀kS kL s' h',J kS kL s'->(∀b o,b≠kS->s'.heap.get? b=some o->h'.get? b=some o)->(∃o,h'.get? kS=some o)->J kS kL {s' with heap:=h'})(key:∀kS kL s',J kS kL s'->∀u∈kL,∃n ns,Zbi s'.heap u (n::ns))(h:∀kS kL s' (out:List (aa×aa)) h' c,J kS kL s'->kL.length=vs.length->out.Perm (kL.zip vs)->(∀i j (hi:i<out.length) (hj:j<out.length),i<=j->∀ns ms,Zbi s'.heap out[i].1 ns->Zbi s'.heap out[j].1 ms->le ns ms)->(∀b o,b≠a->b≠kS->s'.heap.get? b=some o->h'.get? b=some o)->(∃o,h'.get? kS=some o)->h'.get? a=some (bF "list" (out.map (·.2)).toArray c)->P (.done (.ret .none)) {s' with heap:=h'}) :
  wpAny (ao prog w) A (ksk_tree a f false) P E s:=by
 have ha:a<s.heap.objs.size:=Hz ho;have s1:=fJ s.heap a (bC λ_=>(#[]:Array aa));obtain⟨e1,ho1⟩:∃e1,(s.heap.update a (bC λ_=>(#[]:Array aa))).get? a=some (bF "list" #[] e1):=⟨_,i8 ho λ_=> #[]⟩;have hkS:((s.heap.update a (bC λ_=>(#[]:Array aa))).push (bF "tuple" vs.toArray 0)).objs.size=s.heap.objs.size+1:=by rw[mL,m8.size_update]
 unfold ksk_tree;refine Wb (jh ho rfl ?_);refine Wb (j9 ho rfl ?_ (by rw[ah,dL];lia) (cI _))
 refine Wb (seqEpoch_at ho1 rfl ?_);refine Wb (wpAny_newTuple ?_ (by show vs.length<=_;rw[dL];lia))
 refine Wb (wpAny_newList ?_ (cI _));refine wpAny_holding ?_;have hn:=aL ((s.heap.update a (bC λ_=>(#[]:Array aa))).push (bF "tuple" vs.toArray 0)) (o:=bF "list" #[] 0) rfl;exact ZmM (s:={s with heap:=((s.heap.update a (bC λ_=>(#[]:Array aa))).push (bF "tuple" vs.toArray 0)).push (bF "list" #[] 0)}) (kS:=((s.heap.update a (bC λ_=>(#[]:Array aa))).push (bF "tuple" vs.toArray 0)).objs.size) (J _) (Hq _ (Hq _ ho1)) hn (by rw[hkS];exact bH (gp ha)) h64
  (hJ _ _ (by rw[hkS];exact iQ _) (λb o nb q=>Hq _ (Hq _ ((s1.2 b nb).trans q))) ⟨_,Hq _ (Hq _ ho1)⟩ ⟨_,hn⟩) (turn _) (upd _) (key _) (h _)
theorem Zia(J:Addr->Addr->List aa->aB->Prop)(hl:s.heap.IsList l vs.toArray)(h64:vs.length<1000000)(hJ:∀a kS h1,s.heap.objs.size<=a->s.heap.objs.size<=kS->kS≠a->(∀b o,s.heap.get? b=some o->h1.get? b=some o)->(∃o,h1.get? a=some o)->(∃o,h1.get? kS=some o)->J a kS [] {s with heap:=h1})(turn:∀a kS i v kL s' na ea nk ek,vs[i]?=some v->kL.length=i->J a kS kL s'->s'.heap.get? a=some (bF "list" na ea)->s'.heap.get? kS=some (bF "list" nk ek)->wpAny (ao prog w) A.in1.in1 (call (.ref fq) [v]) (λu s''=>J a kS (kL++[u]) s''/\s''.heap.get? a=some (bF "list" na ea)/\s''.heap.get? kS=some (bF "list" nk ek)) (λ_ _=>False) s')(upd:∀a kS kL s' h',J a kS kL s'->(∀b o,b≠kS->s'.heap.get? b=some o->h'.get? b=some o)->(∃o,h'.get? kS=some o)->J a kS kL {s' with heap:=h'})(key:∀a kS kL s',J a kS kL s'->∀u∈kL,∃n ns,Zbi s'.heap u (n::ns))(h:∀a kS kL s' (out:List (aa×aa)) h' c,J a kS kL s'->kL.length=vs.length->out.Perm (kL.zip vs)->(∀i j (hi:i<out.length) (hj:j<out.length),i<=j->∀ns ms,Zbi s'.heap out[i].1 ns->Zbi s'.heap out[j].1 ms->le ns ms)->(∀b o,b≠a->b≠kS->s'.heap.get? b=some o->h'.get? b=some o)->(∃o,h'.get? kS=some o)->h'.get? a=some (bF "list" (out.map (·.2)).toArray c)->Q (.ref a) {s' with heap:=h'}) :
  wpAny (ao prog w) A (call (.builtin "sorted") [.ref l] [(bG "key",.ref fq)]) Q E s:=by
 refine call_function_entry_kw kind_sorted plain_sorted entry_sorted (ksk_s1 _ _) ?_;unfold eS.«sorted»;refine Wb (m:=checkCount "sorted" 1 1 _) (Wp ?_);refine Wb (collect_list hl ?_ (by rw[dL];lia))
 refine Wb (wpAny_newList ?_ (by rw[dL];lia))
 have hsz:((s.heap.push (bF "list" #[] 0)).update s.heap.objs.size (bC (· ++ vs.toArray))).objs.size=s.heap.objs.size+1:=by
  rw[m8.size_update,mL]
 have hoL:(((s.heap.push (bF "list" #[] 0)).update s.heap.objs.size (bC (· ++ vs.toArray))).push (bF "list" vs.toArray 0)).get? (s.heap.objs.size+1)=some (bF "list" vs.toArray 0):=by
  rw[<-hsz];exact aL _ rfl
 have keep:∀b o,s.heap.get? b=some o->(((s.heap.push (bF "list" #[] 0)).update s.heap.objs.size (bC (· ++ vs.toArray))).push (bF "list" vs.toArray 0)).get? b=some o:=λb o q=>by
  have hlt:b<s.heap.objs.size:=Hz q;rw[m8.get?_push_ne _ _ _ (by rw[hsz];exact aE (gp hlt)),m8.get?_update_ne _ _ _ _ (aE hlt),m8.get?_push_ne _ _ _ (aE hlt)]
  exact q
 show wpAny _ _ _ _ _ {s with heap:=((s.heap.push (bF "list" #[] 0)).update s.heap.objs.size (bC (· ++ vs.toArray))).push (bF "list" vs.toArray 0)};rw[hsz];refine Wb (wpAny_holding (wpAny_call_entry_kw slot_list_sort ⟨_,hoL,rfl⟩ entry_list_sort ?body (ksk_l1 _ _)))
 case body=>
  show wpAny (ao prog w) A.in1.in1 (eS.«list.sort» ⟨[.ref (s.heap.objs.size+1)],[(bG "key",.ref fq)]⟩) _ _ _;rw[ksk_t1];have h2:(((s.heap.push (bF "list" #[] 0)).update s.heap.objs.size (bC (· ++ vs.toArray))).push (bF "list" vs.toArray 0)).objs.size=s.heap.objs.size+2:=by rw[mL,hsz]
  refine ZmN (J (s.heap.objs.size+1)) (s:={s with heap:=((s.heap.push (bF "list" #[] 0)).update s.heap.objs.size (bC (· ++ vs.toArray))).push (bF "list" vs.toArray 0)}) hoL h64
   (λkS h1 k1 k2 k3 k4=>by
    have k1':s.heap.objs.size+2<=kS:=by rw[<-h2];exact k1
    exact hJ _ kS h1 (iQ _) (aM (Nat.le_add_right _ 2) k1') (bH k1') (λb o q=>k2 b o (aE (gp (Hz q))) (keep b o q)) k3 k4) (turn _) (upd _) (key _) λkS kL s' out h' c g1 g2 g3 g4 g5 g6 g7=>⟨_,rfl,?_⟩
  exact Wp ⟨_,rfl,h _ kS kL s' out h' c g1 g2 g3 g4 g5 g6 g7⟩
end
end ST
namespace DL
open PyProof.Rows L2
def ZnR(K:Fg)(v:aa)(c P:Addr):Prop:=v=.ref c/\c≠P/\∃(o:Obj) (vs:Array aa) (file:Str) (tf:Tok) (flags:Int) (tg:Tok) (inF:Bool) (text:Int) (tt:Tok),K.lookup c=some o/\o.cls=.type "code"/\o.data=.fields vs/\vs[11]?=some (.ref P)/\vs.getD 11 .none=.ref P/\vs.getD 18 .none=.str file tf/\vs.getD 7 .none=.int flags tg/\vs.getD 9 .none=.bool inF/\vs.getD 10 .none=.int text tt
def Zso(K:Fg):Prop:=∃bm o,PySem.W.nsIn K aO "__builtins__"=some (some (.ref bm))/\K.lookup bm=some o/\o.cls=.type "module"/\o.dict=some ig/\o.data=.plain/\bm≠ig/\bm≠aO
noncomputable def Zpu(c:Addr)(vs:Array aa):Bool:=match(vs[11]? :Option aa)with
 |some (.ref P)=>(match vs.getD 11 .none with
  |.ref P'=>(match vs.getD 18 .none with
   |.str _ _=>(match vs.getD 7 .none with
    |.int _ _=>(match vs.getD 9 .none with
     |.bool _=>(match vs.getD 10 .none with
      |.int _ _=>decide (P=P')&&decide (c≠P)
      |_=>false)
     |_=>false)
    |_=>false)
   |_=>false)
  |_=>false)
 |_=>false
def Zd9(K:Fg)(v:aa):Bool:=match v with
 |.ref c=>(match K.lookup c with
  |some ⟨.type n,_,.fields vs,_⟩=>decide (n="code")&&Zpu c vs
  |_=>false)
 |_=>false
theorem Zj9{K:Fg}(h:Zd9 K v=true):∃c P,ZnR K v c P:=by
 unfold Zd9 at h
 split at h
 .rename_i c
  split at h
  .rename_i n od vs sl e;simp only[bz,decide_eq_true_eq]at h;obtain⟨rfl,h⟩:=h;unfold Zpu at h
   split at h
   .rename_i P e1
    split at h
    .rename_i P' e2
     split at h
     .rename_i f tf e3
      split at h
      .rename_i fl tg e4
       split at h
       .rename_i b e5
        split at h
        .rename_i tx tt e6;simp only[bz,decide_eq_true_eq]at h;obtain⟨rfl,ne⟩:=h;exact⟨c,P,rfl,ne,_,vs,_,_,_,_,_,_,_,e,rfl,rfl,e1,e2,e3,e4,e5,e6⟩
        .cases h
       .cases h
      .cases h
     .cases h
    .cases h
   .cases h
  .cases h
 .cases h
theorem ZnR.tb{K:Fg}(h:ZnR K v c P):TbP K P:=by
 obtain⟨_,_,o,vs,_,_,_,_,_,_,_,e1,e2,e3,e4,_⟩:=h;exact⟨c,o,vs,e1,e2,e3,e4⟩
theorem ZnR.hd{K:Fg}(x:ZnR K v c P)(k:K.In h):PySem.W.CodeHd h c P:=by
 obtain⟨_,ne,o,vs,file,tf,flags,tg,inF,text,tt,e1,e2,e3,e4,e5,e6,e7,e8,e9⟩:=x;exact⟨o,vs,file,tf,flags,tg,inF,text,tt,k _ _ e1,e2,e3,e4,e5,e6,e7,e8,e9,ne⟩
theorem Zb8{P:List aa->Prop}(h0:P [])(h1:∀i t j u x rest,gK rest->P rest->P (.int i t::.int j u::x::rest)):∀l,gK l->P l
 |[],_=>h0
 |.int i t::.int j u::x::rest,ht=>h1 i t j u x rest ht (Zb8 h0 h1 rest ht)
 |[.int _ _],ht=>ht.elim
 |[.int _ _,.int _ _],ht=>ht.elim
theorem Zib(l:List aa)(ht:gK l):dW pos (l++r)=some c->dW pos l=some c\/dW pos r=some c:=
 Zb8 (P:=λl=>dW pos (l++r)=some c->dW pos l=some c\/dW pos r=some c) .inr (λi t j u x rest _ ih h=>by
  simp only[bL,dW]at h ⊢;by_cases q:(i == ↑pos.line&&j == ↑pos.col)=true
  .rw[if_pos q]at h ⊢;exact .inl h
  .rw[if_neg q]at h ⊢;exact ih h) l ht
theorem Zic(l:List aa)(ht:gK l):dW pos l=some c->dW pos (l++r)=some c:=
 Zb8 (P:=λl=>dW pos l=some c->dW pos (l++r)=some c) (λh=>by cases h) (λi t j u x rest _ ih h=>by
  simp only[bL,dW]at h ⊢;by_cases q:(i == ↑pos.line&&j == ↑pos.col)=true
  .rw[if_pos q]at h ⊢;exact h
  .rw[if_neg q]at h ⊢;exact ih h) l ht
theorem ZeQ(l:List aa)(ht:gK l)(hr:gK r):gK (l++r):=Zb8 (P:=λl=>gK (l++r)) hr (λ_ _ _ _ _ _ _ ih=>ih) l ht
noncomputable abbrev Zjf(qual:Str)(params:Arguments)(body:Expr)(scope:js)(cl:List (Str×Addr))(pm:aa)(c':Addr)(ctv:aa):Obj:=PySem.W.kla_obj "<lambda>" qual params body scope cl pm c' ctv
theorem Zsp(hP:H P=some (.tbl ps))(hc:H c'=none)(e:∀b,b≠P->b≠c'->H' b=H b):(∀K α,Ext K H H' α α)/\∀K α M,HR K H α M->HR K H' α M:=by
 have k:∀b u,H b=some u->(∀q,u≠ .tbl q)->H' b=some u:=λb u q nt=>by
  rw[e b (λz=>by subst z;rw[hP]at q;cases q;exact nt _ rfl) (ZV q hc)]
  exact q
 have ex:∀K α,Ext K H H' α α:=λK α=>by
  refine⟨λp xs q=>k p _ q (λ_ z=>by cases z),λp xs q=>?_,λp C xs q=>?_,λp j q=>?_,λp o u q=>k p _ q (λ_ z=>by cases z),[],(cx _).symm⟩
  .unfold SqF at q ⊢;rcases q with⟨o,q⟩|q
   .exact .inl ⟨o,k p _ q (λ_ z=>by cases z)⟩
   .exact .inr q
  .obtain⟨oe,u,vs,q1,q2,q3,q4,q5⟩:=q;refine⟨oe,u,vs,k p _ q1 (λ_ z=>by cases z),q2,q3,q4,?_⟩
   rcases q5 with q5|⟨dx,fs,r1,r2,r3⟩
   .exact .inl q5
   .exact .inr ⟨dx,fs,r1,k dx _ r2 (λ_ z=>by cases z),r3⟩
  .have q':=q;unfold Kn at q;cases z:H p with
   |none=>rw[z]at q;cases q
   |some u=>
    have:∀t,u≠ .tbl t:=λt y=>by subst y;rw[z]at q;cases q
    unfold Kn;rw[k p u z this,<-z];exact q'
 refine⟨ex,λK α M hr=>⟨hr.len,hr.nd,λn q so e1 m=>?_⟩⟩;have so':=hr.ob n q so e1 m;refine so'.mono (ex K α) ?_;cases so with
 |lst ds=>
  rcases so' with⟨_,z,_⟩|⟨_,z,_⟩|⟨_,z,_⟩|⟨_,_,_,z,_⟩|⟨_,_,_,z,_⟩|⟨_,z,_⟩<;>(rw[k q _ z (λ_ y=>by cases y)];exact z.symm)
noncomputable def Zpv(H:Hp)(P c':Addr):Prop:=∃ps pos,H P=some (.tbl ps)/\dW pos ps.toList=some (.ref c')
theorem Zka(I:Inv X pins σ H s)(hm:Zso X.K)(hc:ZnR X.K X.env.code c P)(hcl:mJ scope X.env=pure cl)(h:∀f c' pm ctv H' s',s.heap.objs.size<=f->Inv X (pins++[(f,Zjf qual params body scope cl pm c' ctv)]) σ H' s'->Zpv H' P c'->(∀K α,Ext K H H' α α)->(∀K α M,HR K H α M->HR K H' α M)->Q (.ref f) s'):wpAny (ao X.prog X.w) X.A (makeFunction "<lambda>" qual params (.expr body) scope X.env [] [] [] pos fl) Q E s:=by
 obtain⟨ps,hP⟩:=I.ok.tb.un I.base P hc.tb;obtain⟨oP,tP,cP⟩:=I.hok P _ hP;have hg:=I.mod.glob.keeps I.bk;have ng:∀b o,X.base.get? b=some o->b≠P:=λb o e z=>by
  have:=(I.bs b o e).2
  rw[z,hP]at this;cases this
 have hgP:aO≠P:=by
  obtain⟨o,es,ep,e,_⟩:=I.mod.glob;exact ng _ _ e
 have hb:s.heap.BuiltinsAt X.mg P:=by
  obtain⟨bm,o,e1,e2,e3,e4,e5,e6,e7⟩:=hm;exact⟨bm,o,PySem.W.mg_of I.mod.kin I.mod.glob e1,e6,e7,ng _ _ (I.mod.kin _ _ e2),I.kIn _ _ e2,e3,e4,e5⟩
 have pinf:∀{H':Hp}{s':aB}{f:Addr}{o:Obj},Inv X pins σ H' s'->s.heap.objs.size<=f->s'.heap.get? f=some o->H' f=none->(∀v,o.data≠ .cell v)->Inv X (pins++[(f,o)]) σ H' s':=λ{H' s' f o} I' hf e n nc=>I'.pins_of λp hp=>by
  rcases a7.mp hp with hp|hp
  .exact I'.pin p (aW _ hp)
  .rw[cJ.mp hp];exact⟨e,n,bH (aj I.lt hf),I.nofs hf,nc⟩
 cases hn:dW pos ps.toList with
 |some cv=>
  obtain⟨c',oc,vs,q,t,rfl,own,e1,e2,e3⟩:=cP pos cv hn;refine PySem.W.kla_makeFunctionHit hcl I.ok.glob hg hc.1 (hc.hd I.kIn) oP tP hn hb λctv h' tk hk hz=>?_;have kk:∀b o,s.heap.get? b=some o->(h'.push (Zjf qual params body scope cl ((X.mg "__name__").getD .none) c' ctv)).get? b=some o:=λb o e=>Hq _ (hk b o e);have I':=I.kept (t':=tk) kk;refine h _ c' _ ctv H _ hz (pinf I' hz (aL _ rfl) (I.hok.fresh hz) (λv z=>by cases z)) ⟨ps,pos,hP,hn⟩ (λK α=>Ext.refl) λK α M hr=>hr
 |none=>
  refine PySem.W.kla_makeFunction hcl I.ok.glob hg hc.1 (hc.hd I.kIn) oP tP hn hgP hb λc' ctv h' tk hx hge hlt hrec htb=>?_;obtain⟨c2,oc,vs,t,e2,hoc,hd,hv⟩:=hrec;cases e2;have hc0:H c'=none:=I.hok.fresh hge;have cP':c'≠P:=λz=>by rw[z,hP]at hc0;cases hc0
  let H':Hp:=upd (upd H P (.tbl (ps ++ #[eN pos.line,eN pos.col,.ref c']))) c' (.own P)
  have e0:∀b,b≠P->b≠c'->H' b=H b:=λb n1 n2=>by show upd (upd H P _) c' _ b=_;rw[ZD n2,ZD n1]
  have eP:H' P=some (.tbl (ps ++ #[eN pos.line,eN pos.col,.ref c'])):=by show upd (upd H P _) c' _ P=_;rw[ZD (cC cP'),Zx]
  have eC:H' c'=some (.own P):=Zx;have kp:∀b o,b≠P->s.heap.get? b=some o->(h'.push (Zjf qual params body scope cl ((X.mg "__name__").getD .none) c' ctv)).get? b=some o:=λb o n e=>Hq _ (hx b o n e);have nP:∀b,H b=none->b≠P:=λb n z=>by rw[z,hP]at n;cases n
  have nC:∀b o,s.heap.get? b=some o->b≠c':=λb o e=>aE (aj (Hz e) hge);have nC':∀b u,H b=some u->b≠c':=λb u e=>aE (aj (I.hok.lt e) hge);have same:∀b u,H b=some u->(∀q,u≠ .tbl q)->H' b=some u:=λb u e nt=>by
   rw[e0 b (λz=>by subst z;rw[hP]at e;cases e;exact nt _ rfl) (nC' b u e)]
   exact e
  have tP':gK (ps ++ #[eN pos.line,eN pos.col,.ref c']).toList:=by
   rw[cE];exact ZeQ _ tP fC
  have hok:HOk X.prog X.w H' (h'.push (Zjf qual params body scope cl ((X.mg "__name__").getD .none) c' ctv)):=λb u e=>by
   by_cases bc:b=c'
   .subst bc;rw[eC]at e;cases e;exact⟨_,Hq _ hoc⟩
   .by_cases bP:b=P
    .subst bP;rw[eP]at e;cases e;refine⟨Hq _ htb,tP',λpos' cv z=>?_⟩;rw[cE]at z;rcases Zib _ tP z with z|z
     .obtain⟨c1,o1,vs1,q1,t1,r1,r2,r3,r4⟩:=cP pos' cv z;exact⟨c1,o1,vs1,q1,t1,r1,same _ _ r2 (λ_ y=>by cases y),kp _ _ (λy=>by rw[y,hP]at r2;cases r2) r3,r4⟩
     .have z':(if((pos.line:Int) == ↑pos'.line&&(pos.col:Int) == ↑pos'.col)=true then some (aU c')else none)=some cv:=z
      split at z'
      .cases z';exact⟨c',oc,vs,_,t,rfl,eC,Hq _ hoc,hd,hv⟩
      .cases z'
    .rw[e0 b bP bc]at e;refine(I.hok b u e).stay (λx v hx' r=>kp x v ?_ r) (λx r=>same _ _ r (λ_ y=>by cases y)) λx xs r=>same _ _ r (λ_ y=>by cases y)
     rcases hx' with rfl|hx'
     .exact bP
     .exact λy=>by rw[y,hP]at hx';cases hx'
  have I':Inv X pins σ H' {s with heap:=h'.push (Zjf qual params body scope cl ((X.mg "__name__").getD .none) c' ctv),toks:=tk}:=
   I.step (g':=s.gens) (d':=s.drawn) (t':=tk) (ch:=[]) (λ_ z=>nomatch z) (λb o _ _ _ e n=>kp b o (nP b n) e) (λb o _ _ _ e n=>⟨o.slots,kp b o (nP b n) e⟩) (λb o _ e n=>by rw[e0 b (nP b n) (nC b o e)];exact n)
    (λb o _ e=>by
     by_cases bP:b=P
     .subst bP;exact⟨_,Hq _ htb⟩
     .exact⟨o,kp b o bP e⟩)
    (λb xs e=>same _ _ e (λ_ y=>by cases y)) (λb o u e=>same _ _ e (λ_ y=>by cases y))
    (λb q e=>by
     by_cases bP:b=P
     .subst bP;rw[hP]at e;cases e;exact⟨_,eP⟩
     .exact⟨#[],by rw[e0 b bP (nC' b _ e),e];simp⟩)
    (λm hm=>(hm.extBut hx (nP _ I.free)).push _) hok I.bare
  have up:=Zsp (H':=H') hP hc0 e0;have hz:s.heap.objs.size<=h'.objs.size:=ff (fP hge hlt);refine h _ c' _ ctv H' _ hz (pinf I' hz (aL _ rfl) ?_ (λv z=>by cases z)) ⟨_,pos,eP,?_⟩ up.1 up.2
  .have fr:=hok.fresh (a:=h'.objs.size+1) (by rw[mL];exact af _)
   rw[e0 h'.objs.size (λz=>by have:=Hz htb;rw[<-z]at this;exact bV _ this) (bH hlt)]
   exact I.hok.fresh hz
  .rw[cE];exact codeAmong_snoc _ tP hn
theorem ZeR(hroom:A.depth<jv)(ho:s.heap.get? a=some o)(hd':o.data=.func fd)(hco:fd.scope.isCoroutine=false)(hgen:fd.scope.isGenerator=false)(hbody:fd.body=.expr body)(hc:fd.code=.ref c)(hoc:s.heap.get? c=some oc)(hdc:oc.data=.fields vs)(hq:vs[1]?=some (.str q tq))(h:wpAny (ao prog w) A.in1 (iU fd args) (λbinds s₁=>wpAny (ao prog w) A.in1 (lL fd.scope fd.globals fd.closure binds (q++".<locals>.") (some a) fd.code none fd.builtins) (λenv s₂=>s₂.heap.NoLimit/\fN (ao prog w) A (.expr body env) R s₂) (λe s'=>R (.error e) s') s₁) (λe s'=>R (.error e) s') s):fN (ao prog w) A (.call (.ref a) args) R s:=by
 refine codeAny_of_tree ?_;show wpAny _ A.in1 (callAny (.ref a) args) _ _ s;simp only[callAny];refine Wb (wpAny_load ho ?_);simp only[hd',callFunction,hco,hgen,hbody,hc];rw[hc]at h;refine Wb (m:=field (.ref c) 1) (cG hoc hdc hq (Wb (Wp ?_)));exact Wb (wpAny_mono h (λbinds s₁ h₁=>Wb (wpAny_mono h₁ (λenv s₂ h₂=>Wb (wpAny_enterFrame h₂.1 hroom (Wp (mf rfl h₂.2)))) λ_ _ h'=>h')) λ_ _ h'=>h')
noncomputable def lam(X:Cx)(A:dg)(q:Str)(scope:js)(cl:List (Str×Addr))(N:List Str)(f:Addr)(cd:aa)(s:aB)(H:Hp):Cx:=
 {X with A:=A.deeper (PySem.W.envX q scope s.heap.objs.size f cd cl),N:=N,s₀:=s,H₀:=H,env:=PySem.W.envX q scope s.heap.objs.size f cd cl,outer:=X.stack,stack:=PySem.W.envX q scope s.heap.objs.size f cd cl::X.stack,ex:=[],fn:=λ_=>false,pn:=[],xe:=λ_ _=>False,fxs:=none}
theorem Zid:Thr (lam X A q scope cl N f cd s H) E0:=
 ⟨fZ.never,λ_ _ _ _ _ _ _ h=>by obtain⟨_,_,_,_,_,_,_,_,_,_,_,_,_,q⟩:=h;exact q,λ_ _ _ _ _ _ _ _ _ _ _ _ _ _ _ _ _ _ _ _ _ _ q=>q⟩
structure Lms(X:Cx) (scope:js) (cl:List (Str×Addr)) (x:Str) (N:List Str) (fr:List Nat):Prop where
 clos:mJ scope X.env=pure cl
 kind:scope.kind=.function
 co:scope.isCoroutine=false
 gen:scope.isGenerator=false
 cell:∀y∈scope.names,y.2≠ .cell
 par:scope.names.lookup x=some .local
 sub:∀y c,cl.lookup y=some c->X.env.cells.lookup y=some c
 has:∀y,(scope.names.lookup y=some .cell\/scope.names.lookup y=some .free)->∃c,cl.lookup y=some c
 n0:N[0]?=some x
 len:N.length=1+fr.length
 at_:∀(j i:Nat),fr[j]?=some i->∃y,N[1+j]?=some y/\X.N[i]?=some y/\X.env.kindOf y=some .cell/\scope.names.lookup y=some .free/\cl.lookup y=X.env.cells.lookup y
noncomputable def stL(v:V)(fr:List Nat)(σ:L2.St):L2.St:=some v::fr.map λi=>(σ[i]?).join
noncomputable def roL(d:D)(fr:List Nat)(ρ:Ro):Ro:=some d::fr.map λi=>(ρ[i]?).join
theorem SR.lam{K:Fg}(h:SR K H α σ ρ)(r:Rep K H α v d):SR K H α (stL v fr σ) (roL d fr ρ):=by
 refine⟨by simp[stL,roL],λi d' e=>?_⟩
 cases i with
 |zero=>
  have e':some (some d)=some (some d'):=e;cases e';exact⟨v,rfl,r⟩
 |succ i=>
  have e':(fr.map λi=>(ρ[i]?).join)[i]?=some (some d'):=e;rw[bv]at e';cases z:fr[i]? with
  |none=>rw[z]at e';cases e'
  |some r0=>
   rw[z]at e';obtain⟨v',e3,e4⟩:=h.2 r0 d' (join_some (aQ e'));refine⟨v',?_,e4⟩;show(fr.map λi=>(σ[i]?).join)[i]?=some (some v');rw[bv,z];show some (σ[r0]?).join=_;rw[e3];rfl
theorem Zpw(L:Lms X scope cl x N fr)(I:Inv X pins σ H s)(hA:A.frames=some X.stack)(hh:A.handled=X.A.handled):(lam X A q scope cl N f cd s H).Ok where
 mod:=I.ok.mod
 kind:=L.kind
 glob:=rfl
 blt:=rfl
 above:=af _
 inj:=λy z c h1 h2=>I.ok.inj y z c (L.sub y c h1) (L.sub z c h2)
 has:=λy h=>L.has y h
 cab:=λy c h=>(by cases h)
 hd:=λz=>hh.trans (I.ok.hd z)
 frames:=lG hA
 stk:=.inr ⟨rfl,rfl⟩
 exf:=λb hb=>absurd (show b∈([]:List Addr)from hb) (by simp)
 bs:=I.bs
 bsz:=aM I.ok.bsz I.sz
 noex:=λb o e hb=>absurd (show b∈([]:List Addr)from hb) (by simp)
 exfs:=λb hb=>absurd (show b∈([]:List Addr)from hb) (by simp)
 funs:=I.stack
 frf:=I.stkFree
 tb:=I.ok.tb.un I.base
theorem ZmO(L:Lms X scope cl x N fr)(I:Inv X pins σ H s)(hA:A.frames=some X.stack)(hh:A.handled=X.A.handled)(hn:h1.Ns s.heap.objs.size m)(hm:m x=some u)(ru:ZS v u)(hk:∀b o,s.heap.get? b=some o->h1.get? b=some o):Inv (lam X A q scope cl N f cd s H) [] (stL v fr σ) H {s with heap:=h1,toks:=tk} where
 ok:=Zpw L I hA hh
 os:=rfl
 bare:=I.bare
 base:=Un.kept hk
 loc:=by
  refine⟨m,hn,λi y v' e1 e2 e3=>?_⟩;cases i with
  |zero=>
   have exy:y=x:=aQ (e1.symm.trans L.n0);subst exy;have ev:some (some v)=some (some v'):=e2;cases ev;exact⟨u,ru,.inl ⟨L.par,hm⟩⟩
  |succ i=>
   have e2':(fr.map λi=>(σ[i]?).join)[i]?=some (some v'):=e2;rw[bv]at e2';cases z:fr[i]? with
   |none=>rw[z]at e2';cases e2'
   |some r0=>
    rw[z]at e2';obtain⟨y',k1,k2,k3,k4,k5⟩:=L.at_ i r0 z;have exy:y=y':=by
     have e1':N[i+1]?=some y:=e1;rw[kO]at e1';exact aQ (e1'.symm.trans k1)
    subst exy;obtain⟨m0,hm0,hl⟩:=I.loc;obtain⟨u',ru',lk⟩:=hl r0 y v' k2 (join_some (aQ e2')) (.inr (.inl k3));refine⟨u',ru',?_⟩;rcases lk with⟨z,_⟩|⟨_,c,z1,⟨o,z2,z3⟩⟩
    .rw[k3]at z;cases z
    .exact .inr ⟨.inr k4,c,k5.trans z1,⟨o,hk _ _ z2,z3⟩⟩
 cell:=λy c h=>by
  obtain⟨v,o,e1,e2⟩:=I.cell y c (L.sub y c h);exact⟨v,o,hk _ _ e1,e2⟩
 free:=I.fresh
 freeC:=λy c h=>I.freeC y c (L.sub y c h)
 pin:=λp hp=>(by simp[lam]at hp)
 hok:=I.hok.kept hk
 len:=by
  show(stL v fr σ).length=N.length;rw[L.len];simp[stL];lia
 qd:=by
  rcases I.qd with z|⟨ea,oe,u,vs,z1,z2⟩
  .exact .inl (hh.trans z)
  .exact .inr ⟨ea,oe,u,vs,hh.trans z1,z2⟩
 fx:=.free rfl
theorem ZmP(L:Lms X scope cl x N fr)(I:Inv X pins σ H s)(hA:A.frames=some X.stack)(hh:A.handled=X.A.handled)(hroom:A.depth<jv)(hp:(f,Zjf qual params body scope cl pm c' ctv)∈X.pn++pins)(cd:Zpv H P c')(hbind:iU (PySem.W.kla_fn "<lambda>" qual params body scope cl pm (.ref c') ctv) ⟨[u],[]⟩=pure [(x,u)])(ru:ZS v u)(hb:∀q,∃t,PE (lam X A q scope cl N f (.ref c') s H) body t/\t (stL v fr σ) H Q):wpAny (ao X.prog X.w) A (call (.ref f) [u]) (λr s'=>∃v H',Inv X pins σ H' s'/\ZS v r/\Q v H'/\Zpv H' P c') (λ_ _=>False) s:=by
 obtain⟨ps,pos,hP,hcd⟩:=cd;obtain⟨oP,tP,cP⟩:=I.hok P _ hP;obtain⟨c2,oc,vs,q,tq,ec,own,hoc,hdc,hq⟩:=cP pos _ hcd;cases ec;refine wpAny_call (ZeR hroom (I.pin _ hp).1 rfl L.co L.gen rfl rfl hoc hdc hq ?_);rw[hbind];refine Wp (wpAny_newFunctionEnv L.cell (λy hy=>by rw[cJ.mp hy];exact L.par) (λh1 hns hsb=>?_) L.kind)
 have hk:∀b o,s.heap.get? b=some o->h1.get? b=some o:=λb o e=>hsb.extBut b o (aE (Hz e)) (Hq _ e);refine⟨I.nolimit.keeps hk,?_⟩;obtain⟨t,pt,qt⟩:=hb q;have J:Inv (lam X A q scope cl N f (.ref c') s H) [] (stL v fr σ) H {s with heap:=h1,toks:=s.toks+1}:=ZmO L I hA hh hns (by simp) ru hk
 show fN _ _ (.expr body (PySem.W.envX q scope s.heap.objs.size f (.ref c') cl)) _ _;refine PySem.W.kla_codeExpr (wpAny_mono (pt [] _ _ H Q J qt) (λr s' hs=>?_) λ_ _ z=>z.elim);obtain⟨v',H',J',rv,qv⟩:=hs;have ce:CE X.stack X.prog X.w H s (λv'' H''=>v''=v'/\H''=H') r s':=⟨v',H',J'.os,J'.bare,J'.base,J'.hok,rv,rfl,rfl⟩;obtain⟨v2,H2,I2,r2,rfl,rfl⟩:=I.after ce;obtain⟨more,hm⟩:=J'.base.tbls P ps hP;exact⟨v2,H2,I2,r2,qv,_,pos,hm,by rw[cE];exact Zic _ tP hcd⟩
end DL
namespace DL
open PyProof.Rows L2
def Zcq(g:Ev)(fr:List Nat)(ρ:Ro)(M:Sto)(xs:List D)(ks:List (List Int)):Prop:=Paired (λd k=>g (roL d fr ρ) M=.ok (Zj7 k) M/\k≠[]) xs ks
def Zkb(ks:List (List Int))(xs:List D):List D:=(ST.srt ks).map λk=>((ks.zip xs).lookup k).getD .non
def Zie(g:Ev)(fr:List Nat)(ρ:Ro)(M:Sto)(xs:List D)(ks:List (List Int)):Prop:=xs.length<1000000/\ks.Nodup/\Zcq g fr ρ M xs ks
open Classical in
def Zdi(g:Ev)(fr:List Nat)(ρ:Ro)(ds:List D)(M:Sto):Out D:=match ds with
 |[.ref n]=>(match M[n]? with
  |some (.lst xs)=>if h:∃ks,Zie g fr ρ M xs ks then .ok (.ref M.length) (M++[.lst (Zkb h.choose xs)])else .bad
  |none=>.bad)
 |_=>.bad
def Zgz(fs:Av)(fr:List Nat)(g:Ev):Ev:=λρ M=>(fs ρ M).bind λds M1=>Zdi g fr ρ ds M1
theorem Zcq.uniq{g:Ev}{fr:List Nat}{ρ:Ro}{M:Sto}:∀{xs:List D}{ks ks':List (List Int)},Zcq g fr ρ M xs ks->Zcq g fr ρ M xs ks'->ks=ks':=by
 intro xs
 induction xs with
 |nil=>intro ks ks' h h';cases h;cases h';rfl
 |cons x xs ih=>
  intro ks ks' h h';cases h with
  |cons a b=>
   cases h' with
   |cons c d=>
    have e:=a.1.symm.trans c.1;injection e with e1 e2;rw[Zj8 e1,ih b d]
theorem Zdj(h:M[n]?=some (.lst xs))(k:Zie g fr ρ M xs ks):Zdi g fr ρ [.ref n] M=.ok (.ref M.length) (M++[.lst (Zkb ks xs)]):=by
 have hx:∃ks,Zie g fr ρ M xs ks:=⟨ks,k⟩;simp only[Zdi,h,dif_pos hx];rw[hx.choose_spec.2.2.uniq k.2.2]
theorem ZcU{ks:List (List Int)}:∀{xs:List D}{k:List Int}{d:D},ks.Nodup->(k,d)∈ks.zip xs->(ks.zip xs).lookup k=some d:=by
 induction ks with
 |nil=>intro xs k d _ h;cases h
 |cons a r ih=>
  intro xs k d nd h;cases xs with
  |nil=>cases h
  |cons x xs=>
   rw[jr]at h ⊢;rw[b6];rcases az.mp h with e|h2
   .cases e;simp
   .have ne:k≠a:=λz=>(eY.mp nd).1 (z▸(hG h2).1)
    have:(k==a)=false:=by simpa using ne
    rw[this];exact ih (eY.mp nd).2 h2
def Zud(K:Fg)(H:Hp)(α:List Addr)(h:Heap)(t:List Int×D×V)(p:aa×aa):Prop:=ST.Zbi h p.1 t.1/\ZS t.2.2 p.2/\Rep K H α t.2.2 t.2.1
theorem Zsq{K:Fg}{H:Hp}{α:List Addr}{h:Heap}:∀{ks:List (List Int)} {xs:List D} {vs:List V} {kL its:List aa},Paired (λk u=>ST.Zbi h u k) ks kL->Reps K H α vs xs->ZQ vs its->ks.length=xs.length->∃T:List (List Int×D×V),Paired (Zud K H α h) T (kL.zip its)/\T.map (λt=>(t.1,t.2.1))=ks.zip xs:=by
 intro ks
 induction ks with
 |nil=>
  intro xs vs kL its hk _ _ e;cases hk
  have:xs=[]:=dN e.symm
  subst this;exact⟨[],.nil,rfl⟩
 |cons k ks ih=>
  intro xs vs kL its hk hr hv e;cases hk with
  |cons a b=>
   cases hr with
   |nil=>cases e
   |cons c d=>
    cases hv with
    |cons p q=>
     obtain⟨T,t1,t2⟩:=ih b d q (Nat.succ.inj e);exact⟨(k,_,_)::T,.cons ⟨a,p,c⟩ t1,by rw[aV,t2];rfl⟩
theorem Zcr{F:α->β->Prop}:∀{xs:List α}{ys:List β},Paired F xs ys->∀(i:Nat)(h:i<xs.length),∃h':i<ys.length,F xs[i] ys[i]:=by
 intro xs ys p
 induction p with
 |nil=>intro i h;exact absurd h (by simp)
 |cons a b ih=>
  intro i h;cases i with
  |zero=>exact⟨by simp,a⟩
  |succ i=>
   obtain⟨h',q⟩:=ih i (by simpa using h)
   exact⟨by simpa using h',by simpa using q⟩
theorem ZbH{F:α->β->Prop}{xs:List α}{ys:List β}(h9:Paired F xs ys):xs.length=ys.length:=by
 induction h9 with
 |nil=>exact rfl
 |cons _ b ih9=>exact congrArg Nat.succ ih9
theorem Zea{K:Fg}{out:List (aa×aa)}(nd:ks.Nodup)(hl:ks.length=xs.length)(hT:Paired (Zud K H α h) T prs)(eT:T.map (λt=>(t.1,t.2.1))=ks.zip xs)(hp:out.Perm prs)(hs:∀i j (hi:i<out.length) (hj:j<out.length),i<=j->∀ns ms,ST.Zbi h out[i].1 ns->ST.Zbi h out[j].1 ms->ST.le ns ms):∃ys:List V,ZQ ys (out.map (·.2))/\Reps K H α ys (Zkb ks xs):=by
 obtain⟨T',p1,p2⟩:=ZeP hp hT;have lT:=ZbH p2;have ek:T.map (·.1)=ks:=by
  have:=congrArg (List.map mW) eT
  rw[c7,List.map_fst_zip (mV hl)]at this;exact this
 have pk:(T'.map (·.1)).Perm ks:=by rw[<-ek];exact p1.map _
 have up:(T'.map (·.1)).Pairwise ST.le:=by
  refine List.pairwise_iff_getElem.mpr λi j hi hj ij=>?_;rw[au]at hi hj;obtain⟨a1,a2⟩:=Zcr p2 i hi;obtain⟨b1,b2⟩:=Zcr p2 j hj;rw[b8,b8];exact hs i j a1 b1 (ff ij) _ _ a2.1 b2.1
 have es:=ST.Zj6 pk up;refine⟨T'.map (·.2.2),?_,?_⟩
 .clear es up pk p1 hs hp lT
  induction p2 with
  |nil=>exact .nil
  |cons a _ ih=>exact .cons a.2.1 ih
 .unfold Zkb;rw[<-es,c7];have md:∀t∈T',((ks.zip xs).lookup t.1).getD .non=t.2.1:=λt ht=>by
   have m:t∈T:=p1.mem_iff.mp ht;have m2:(t.1,t.2.1)∈ks.zip xs:=by rw[<-eT];exact List.mem_map_of_mem (f:=λt:List Int×D×V=>(t.1,t.2.1)) m
   rw[ZcU nd m2];rfl
  have:T'.map ((λk=>((ks.zip xs).lookup k).getD .non)∘λt=>t.1)=T'.map (·.2.1):=fI λt ht=>md t ht
  rw[this];clear es up pk p1 hs hp lT md this
  induction p2 with
  |nil=>exact .nil
  |cons a _ ih=>exact .cons a.2.2 ih
def JK(X:Cx)(pins:Pn)(σ:L2.St)(P c':Addr)(H2:Hp)(α:List Addr)(M:Sto)(n0:Nat)(ks:List (List Int))(a kS:Addr)(kL:List aa)(s':aB):Prop:=
 n0<=a/\n0<=kS/\kS≠a/\∃H',Inv X pins σ H' s'/\Zpv H' P c'/\H' a=none/\H' kS=none/\(∃o,s'.heap.get? a=some o)/\(∃o,s'.heap.get? kS=some o)/\Ext X.K H2 H' α α/\HR X.K H' α M/\kL.length<=ks.length/\Paired (λk u=>∃kv,ZS kv u/\Rep X.K H' α kv (Zj7 k)) (ks.take kL.length) kL
theorem ZeS{F:α->β->Prop}{a:α}{b:β}{xs:List α}{ys:List β}(h9:Paired F xs ys):F a b->Paired F (xs++[a]) (ys++[b]):=by
 induction h9 with
 |nil=>exact λh=>.cons h .nil
 |cons c d ih9=>exact λh=>.cons c (ih9 h)
theorem ZcV{F G:α->β->Prop}(h:∀a b,F a b->G a b){xs:List α}{ys:List β}(h9:Paired F xs ys):Paired G xs ys:=by
 induction h9 with
 |nil=>exact .nil
 |cons c d ih9=>exact .cons (h _ _ c) ih9
theorem Zpx{K:Fg}(e:Ext K H H' α α')(h:HR K H' α' M)(l:α.length=M.length):α'=α:=by
 obtain⟨β,rfl⟩:=e.al
 have:=h.len
 rw[aY,l]at this
 have:β=[]:=dN ⋯
 rw[this,cx]
theorem Zeb{id:String}(hplain:(args.any (·.1)||kws.any (·.1.isNone))=false)(h:wpAny M A (evalArgs (.builtin id) true args kws) (λa s₁=>wpAny M A (call (.builtin id) a.pos a.kw) Q E s₁) E s):wpAny M A (callWith pos (.builtin id) [] args kws) Q E s:=by
 unfold callWith;refine Wb (wpAny_holding (wpAny_mono h (λa s₁ h₁=>Wb (wpAny_standAt ?_)) λ_ _ x=>x));simp only[hplain];refine Wb (Wp ?_);exact Wb (wpAny_mono h₁ (λr s₂ hr=>Wb (wpAny_holding (wpAny_point (Wp hr)))) λ_ _ x=>x)
theorem Zif{n:Nat}(hr:Room (k+3) X.A)(L:Lms X scope cl x N fr)(hb:∀q f cd s H,Room k (X.A.in1.in1.deeper (PySem.W.envX q scope s.heap.objs.size f cd cl))->DE (lam X X.A.in1.in1 q scope cl N f cd s H) E0 body g)(hbind:∀(u:aa),iU (PySem.W.kla_fn "<lambda>" qual params body scope cl pm (.ref c') ctv) ⟨[u],[]⟩=pure [(x,u)])(I:Inv X (pins++[(f,Zjf qual params body scope cl pm c' ctv)]) σ H s)(cd:Zpv H P c')(sr:SR X.K H α σ ρ)(h:HR X.K H α M)(hx:M[n]?=some (.lst xs))(hp:H p0=some (.lst ws))(rp:Reps X.K H α ws xs)(l64:xs.length<1000000)(nd:ks.Nodup)(keys:Zcq g fr ρ M xs ks)(q:∀v H' α',Ext X.K H H' α α'->HR X.K H' α' (M++[.lst (Zkb ks xs)])->Rep X.K H' α' v (.ref M.length)->Q v H'):wpAny (ao X.prog X.w) X.A (call (.builtin "sorted") [.ref p0] [(bG "key",.ref f)]) (EP X pins σ Q) X.xe s:=by
 have lks:ks.length=xs.length:=(ZbH keys).symm;obtain⟨its,rv,pl,hz⟩:=I.list (SqL.of hp);have lit:its.length=xs.length:=by rw[<-rv.length,rp.length]
 refine ST.Zia (JK X (pins++[(f,Zjf qual params body scope cl pm c' ctv)]) σ P c' H α M s.heap.objs.size ks) pl.isList ⋯ ?_ ?_ ?_ ?_ ?_
 .
  intro a kS h1 ha hS ne kk oa ok;exact⟨ha,hS,ne,H,I.kept (t':=s.toks) kk,cd,I.hok.fresh ha,I.hok.fresh hS,oa,ok,Ext.refl,h,cI _,by rw[hO,lO];exact .nil⟩
 .
  rintro a kS i v kL s' na ea nk ek hv hi ⟨ha,hS,ne,H',I',cd',fa,fS,_,_,ex,hr',lk,pk⟩ oa ok;have hil:i<xs.length:=by have:=(aq.mp hv).1;lia
  obtain⟨xv,e1,e2⟩:=ZhM rv hv;obtain⟨d,d1,d2⟩:=ZhN rp e1;have hki:i<ks.length:=⋯
  obtain⟨_,kg⟩:=Zcr keys i hil;have ed:xs[i]=d:=by
   rw[ae hil]at d1;exact aQ d1
  rw[ed]at kg;have d2:=Rep.mono ex d2;have I2:Inv X (pins++[(f,Zjf qual params body scope cl pm c' ctv)]++[(a,bF "list" na ea),(kS,bF "list" nk ek)]) σ H' s':=I'.pins_of λp hp=>by
   rcases a7.mp hp with hp|hp
   .exact I'.pin p (aW _ hp)
   .rcases az.mp hp with rfl|hp
    .exact⟨oa,fa,bH (aj I.lt ha),I.nofs ha,λv z=>by cases z⟩
    .rw[cJ.mp hp];exact⟨ok,fS,bH (aj I.lt hS),I.nofs hS,λv z=>by cases z⟩
  have run:=ZmP (f:=f) (A:=X.A.in1.in1) (u:=v) (v:=xv) (Q:=λv' H''=>∃α'',Ext X.K H' H'' α α''/\HR X.K H'' α'' M/\Rep X.K H'' α'' v' (Zj7 ks[i])) L I2 I.ok.frames rfl (by have:=hr.dp;show X.A.depth<_;lia) (aW _ (gz _ (aW _ (cJ.mpr rfl)))) cd' (hbind v) e2 λq'=>by
   obtain⟨t,pt,qt⟩:=hb q' f (.ref c') s' H' ((hr.in1.in1).deeper _);exact⟨t,pt,qt _ (roL d fr ρ) H' α M _ (SR.lam (sr.mono ex) d2) hr' (by
    rw[kg.1];exact λv' H'' α'' e'' h'' r''=>⟨α'',e'',h'',r''⟩)⟩
  refine wpAny_mono run (λu s2 hs=>?_) λ_ _ z=>z;obtain⟨v',H2,I3,r3,⟨α2,ex2,hr2,rp2⟩,cd2⟩:=hs;have ea2:=Zpx ex2 hr2 hr'.len;subst ea2;have pa:=I3.pin (a,bF "list" na ea) (by simp)
  have pS:=I3.pin (kS,bF "list" nk ek) (by simp)
  refine⟨⟨ha,hS,ne,H2,I3.unpinned,cd2,pa.2.1,pS.2.1,⟨_,pa.1⟩,⟨_,pS.1⟩,ex.trans ex2,hr2,by rw[aY,ge];lia,?_⟩,pa.1,pS.1⟩
  have et:ks.take (kL++[u]).length=ks.take kL.length++[ks[i]]:=by
   rw[aY,ge,hi,List.take_add_one,ae hki];rfl
  rw[et];exact ZeS (ZcV (λk u ⟨kv,z1,z2⟩=>⟨kv,z1,Rep.mono ex2 z2⟩) pk) ⟨v',r3,rp2⟩
 .
  rintro a kS kL s' h' ⟨ha,hS,ne,H',I',cd',fa,fS,⟨oa,ea⟩,_,ex,hr',lk,pk⟩ kk oS;refine⟨ha,hS,ne,H',I'.turned (t':=s'.toks) (it:=kS) kk fS (bH (aj I.lt hS)) (.inr (aM I.sz hS)) (λy c hc z=>?_) (λp hp z=>?_),cd',fa,fS,⟨oa,kk a oa (cC ne) ea⟩,oS,ex,hr',lk,pk⟩
  .obtain⟨v,o,e,_⟩:=I.cell y c hc;exact absurd (Hz e) (by rw[z];exact gL hS)
  .have:=(I.pin p hp).1
   exact absurd (Hz this) (by rw[z];exact gL hS)
 .
  rintro a kS kL s' ⟨_,_,_,H',I',_,_,_,_,_,_,_,lk,pk⟩ u hu;obtain⟨i,hi,rfl⟩:=bS hu;have hi':i<(ks.take kL.length).length:=by rw[ZbH pk];exact hi
  obtain⟨_,kv,z1,z2⟩:=Zcr pk i hi';have t:=ZfN I' (Zh9 z2) z1;have hik:i<ks.length:=⋯
  obtain⟨_,kg⟩:=Zcr keys i ⋯
  have e1:(ks.take kL.length)[i]=ks[i]:=List.getElem_take;rw[e1]at t;cases e2:ks[i]with
  |nil=>exact absurd e2 kg.2
  |cons b r=>rw[e2]at t;exact⟨b,r,t⟩
 .
  rintro a kS kL s' out h' c ⟨ha,hS,ne,H',I',cd',fa,fS,_,_,ex,hr',lk,pk⟩ hl po hs kk oS oa;have ek:ks.take kL.length=ks:=cu ⋯
  rw[ek]at pk;obtain⟨T,t1,t2⟩:=Zsq (K:=X.K) (H:=H') (α:=α) (ZcV (λk u ⟨kv,z1,z2⟩=>ZfN I' (Zh9 z2) z1) pk) (Reps.mono ex rp) rv lks;obtain⟨ys,v1,v2⟩:=Zea nd lks t1 t2 po hs;have lo:(out.map (·.2)).length=xs.length:=by rw[au,po.length_eq,List.length_zip,hl,lit];simp
  have hyz:ys.length<=sizeLine:=by rw[v1.length,lo];exact aM (ff l64) (by decide)
  have nS:∀b u,H' b=some u->b≠kS:=λb u z y=>by rw[y,fS]at z;cases z
  have nA:∀b u,H' b=some u->b≠a:=λb u z y=>by rw[y,fa]at z;cases z
  have hok:HOk X.prog X.w (upd H' a (.lst ys)) h':=λb u e=>by
   by_cases ba:b=a
   .subst ba;rw[Zx]at e;cases e;exact⟨hyz,out.map (·.2),c,v1,oa⟩
   .rw[ZD ba]at e;refine(I'.hok b u e).stay (λy v hy r=>kk y v ?_ ?_ r) (λy r=>by rw[ZD (nA _ _ r)];exact r) λy zs r=>by rw[ZD (nA _ _ r)];exact r
    .rcases hy with rfl|hy
     .exact ba
     .exact nA _ _ hy
    .rcases hy with rfl|hy
     .exact nS _ _ e
     .exact nS _ _ hy
  have cellN:∀b,s.heap.objs.size<=b->∀y c,X.env.cells.lookup y=some c->c≠b:=λb hb y c hc z=>by
   obtain⟨v,o,e,_⟩:=I.cell y c hc;exact absurd (Hz e) (by rw[z];exact gL hb)
  have pinN:∀b,s.heap.objs.size<=b->∀p∈X.pn++(pins++[(f,Zjf qual params body scope cl pm c' ctv)]),p.1≠b:=λb hb p hp z=>by
   have:=(I.pin p hp).1
   exact absurd (Hz this) (by rw[z];exact gL hb)
  have J:=I'.step (H':=upd H' a (.lst ys)) (h':=h') (g':=s'.gens) (d':=s'.drawn) (t':=s'.toks) (ch:=[a,kS]) (λb hb=>by
    have hb':s.heap.objs.size<=b:=by
     rcases az.mp hb with rfl|hb
     .exact ha
     .rw[cJ.mp hb];exact hS
    exact⟨.inr (aM I.sz hb'),bH (aj I.lt hb'),cellN b hb',pinN b hb'⟩)
   (λb o _ _ hb e _=>kk b o (λz=>hb (by simp[z])) (λz=>hb (by simp[z])) e)
   (λb o _ _ hb e _=>⟨o.slots,kk b o (λz=>hb (by simp[z])) (λz=>hb (by simp[z])) e⟩)
   (λb o hb e n=>by rw[ZD (λz=>hb (by simp[z]))];exact n)
   (λb o hb e=>⟨o,kk b o (λz=>hb (by simp[z])) (λz=>hb (by simp[z])) e⟩)
   (λb zs e=>by rw[ZD (nA _ _ e)];exact e) (λb o u e=>by rw[ZD (nA _ _ e)];exact e)
   (λb zs e=>⟨#[],by rw[ZD (nA _ _ e),e];simp⟩)
   (λm hm=>by
    obtain⟨o,es,ep,e,r⟩:=hm;exact⟨o,es,ep,kk _ _ (aE (aj I.lt ha)) (aE (aj I.lt hS)) e,r⟩) hok I'.bare
  exact⟨.ref a,_,J.unpinned,rfl,q _ _ (α++[a]) (ex.trans (Ext.new fa)) (hr'.new fa v2) (.ref ⟨by rw[<-h.len];simp,Kn.lst Zx⟩)⟩
theorem ZfO(hm:Zso X.K)(hc:Zd9 X.K X.env.code=true)(hr:Room (k+3) X.A)(L:Lms X scope cl x N fr)(hmg:X.mg "sorted"=none)(ha:DA X ξ [e] fs)(hb:∀q f cd s H,Room k (X.A.in1.in1.deeper (PySem.W.envX q scope s.heap.objs.size f cd cl))->DE (lam X X.A.in1.in1 q scope cl N f cd s H) E0 body g)(hbind:∀(qual:Str)(pm:aa)(c':Addr)(ctv u:aa),iU (PySem.W.kla_fn "<lambda>" qual params body scope cl pm (.ref c') ctv) ⟨[u],[]⟩=pure [(x,u)]:=by intros;rfl)(hdef:autoParam (defaultsOf params X.env=([],[])) Qrf._auto_1)(hg:autoParam (Gl X "sorted") Qrf._auto_1)(he:autoParam (av [e] X.env=(false,eval e X.env)::av [] X.env) Qrf._auto_1)(hpl:autoParam (((cT pos (av [e] X.env)).any (·.1)||(jz pos (gB [⟨some "key",.Lambda params body scope lpos,kpos⟩] X.env)).any (·.1.isNone))=false) Qrf._auto_1) :
  DE X ξ (.Call (.Name "sorted" p) [e] [⟨some "key",.Lambda params body scope lpos,kpos⟩] pos) (Zgz fs fr g):=by
 obtain⟨ta,pa,qa⟩:=ha;obtain⟨c,P,lc⟩:=Zj9 hc;refine⟨λσ H Q=>∃ρ α M,SR X.K H α σ ρ/\HR X.K H α M/\OP X.K H α ξ Q (Zgz fs fr g ρ M),?_,λσ ρ H α M Q s h q=>⟨ρ,α,M,s,h,q⟩⟩;rintro pins s σ H Q I ⟨ρ,α,M,sr,hr0,op⟩;refine wpAny_Call_Name_kw (Zbg I hg hmg Zh8 ?_ (by decide) (by decide))
 refine Zeb hpl (evalArgs_kw2 rfl (thn (pa pos pins s σ H (λvs H1=>∃α1 M1 ds,Ext X.K H H1 α α1/\HR X.K H1 α1 M1/\Reps X.K H1 α1 vs ds/\OP X.K H1 α1 ξ Q (Zdi g fr ρ ds M1)) I (qa σ ρ H α M _ sr hr0 (OG.seq op λds M1 vs H1 α1 e1 h1 r1 q1=>⟨α1,M1,ds,e1,h1,r1,q1⟩))) λus s1 hz=>?_) he)
 obtain⟨vs,H1,I1,rv,α1,M1,ds,e1,h1,r1,op1⟩:=hz;have sr1:=sr.mono e1;have key:∀n,ds=[.ref n]->wpAny (ao X.prog X.w) X.A (evalAll ((jz pos (gB [⟨some "key",.Lambda params body scope lpos,kpos⟩] X.env)).map (·.2))) (λks s₂=>wpAny (ao X.prog X.w) X.A (call (.builtin "sorted") us (((jz pos (gB [⟨some "key",.Lambda params body scope lpos,kpos⟩] X.env)).filterMap (·.1)).zip ks)) (EP X pins σ Q) X.xe s₂) X.xe s1:=λn en=>by
  subst en;cases hx:M1[n]? with
  |none=>simp only[Zdi,hx]at op1;exact op1.elim
  |some so=>
   cases so with
   |lst xs=>
    by_cases hk:∃ks,Zie g fr ρ M1 xs ks
    .obtain⟨ks,sk⟩:=hk;rw[Zdj hx sk]at op1;obtain⟨l64,nd,keys⟩:=sk;cases r1 with
     |cons r1 r0=>
      cases r0;cases r1 with
      |@ref p0 _ hp0=>
       obtain⟨u0,rfl,ru⟩:=ZbW rv;cases ru;obtain⟨ws,g1,g2⟩:=h1.at hp0 hx;show wpAny _ _ (evalAll [(do let v <-eval (.Lambda params body scope lpos) X.env;standAt pos;pure v)]) _ _ s1
       refine wpAny_evalAll_cons (Wb (PySem.W.kla_eval hdef (Zka I1 hm lc L.clos λf c' pm ctv H2 s2 hf I2 cd2 ex2 hr2=>Wb (wpAny_standAt (Wp (wpAny_evalAll_nil ?_))))));have h2:=hr2 X.K α1 M1 h1;obtain⟨ws2,g3,g4⟩:=h2.at ((ex2 X.K α1).get hp0) hx;exact Zif hr L hb (λu=>hbind _ pm c' ctv u) I2 cd2 (sr1.mono (ex2 X.K α1)) h2 hx g3 g4 l64 nd keys λv H' α' ex' h' r'=>op1 v H' α' ((ex2 X.K α1).trans ex') h' r'
    .simp only[Zdi,hx,dif_neg hk]at op1;exact op1.elim
 by_cases hd:∃n,ds=[.ref n]
 .obtain⟨n,hd⟩:=hd;exact key n hd
 .have e:Zdi g fr ρ ds M1=.bad:=by
   unfold Zdi;split
   .exact absurd ⟨_,rfl⟩ hd
   .rfl
  rw[e]at op1;exact op1.elim
end DL
namespace L2
open PyProof.Rows
noncomputable def Zsr(o:Option Obj):Bool:=match o with
 |some ⟨.none,none,.fields ⟨[]⟩,⟨[]⟩⟩=>true
 |_=>false
theorem ZmQ(h:Zsr o=true):o=some {cls:=.none,data:=.fields #[]}:=by
 unfold Zsr at h
 split at h
 .rfl
 .cases h
theorem Zig{o:Obj}{a:Addr}:∀{l:Pn},l.lookup a=some o->(a,o)∈l
 |[],h=>by cases h
 | (b,u)::r,h=>by
  rw[b6]at h;cases e:a==b with
  |true=>
   rw[e]at h
   have:a=b:=by simpa using e
   cases h;rw[this];exact bQ
  |false=>
   rw[e]at h;exact aI _ (Zig h)
def ZfP(K T:Fg):Bool:=K.all λp=>match p.2 with
 |⟨.type n,_,.fields vs,_⟩=>if n="code" then(match(vs[11]? :Option aa)with
  |some (.ref P)=>(K.lookup P).isNone&&Zsr (T.lookup P)
  |_=>true)else true
 |_=>true
theorem Zih{K:Fg}(h:ZfP K T=true)(t:TbP K P):K.lookup P=none/\T.lookup P=some {cls:=.none,data:=.fields #[]}:=by
 obtain⟨c,⟨oc,od,dt,sl⟩,vs,e1,e2,e3,e4⟩:=t;have q:=dG.mp h _ (Zig e1);cases e2;cases e3;dsimp only at q;rw[if_pos rfl,e4]at q;simp only[bz,gP]at q;exact⟨q.1,ZmQ q.2⟩
theorem Zii{K:Fg}(KX:K.In s₁.heap)(TX:T.In s₁.heap)(hT:ZfP K T=true)(hns:s₁.heap.Ns aO mg)(hb:s₁.heap.Ns ig mb)(hbb:∀x:Str,x≠"__name__"->mb x=bK x)(hlim:s₁.heap.NoLimit)(hg:s₁.gens= #[])(ha:s₁.heap.get? a=some {cls:=.type "list",data:=.seq vs.toArray})(hi:iw vs ns)(hl:ns.length<=sizeLine)(hr:Room k lY)(F:∀base:Heap,K.In base->base.Ns aO mg->FnOk P w K mg base CX k fa fd [x] sp)(hbind:∀(s:aB)(u:aa),lX s fd ⟨[u],[]⟩ [(x,u)])(hsp:∀H:Hp,DL.SqF K H a (ns.map V.int)->sp [.ref a] H (λv _=>v=.bl true) λ_ _ _=>False)(hCX:∀H e s',CX [] H s₁ (λ_ _ _=>False) e s'->False):fN (ao P w) lY (.call (.ref fa) ⟨[.ref a],[]⟩) (λr s'=>r=.ok (.ret (.bool true))/\OldK s₁.heap s'.heap/\s'.os=s₁.os/\iL s'.gens) s₁:=by
 have rv:=ZdH hi;have lenV:=hi.length;have tb:∀{b:Addr},TbP K b->s₁.heap.get? b=some {cls:=.none,data:=.fields #[]}:=λt=>TX _ _ (Zih hT t).2;have core:∀H:Hp,DL.SqF K H a (ns.map V.int)->HOk P w H s₁.heap->(∀b u,H b=some u->(b=a/\K.lookup a=none/\∃o xs,u=.frz o (.lst xs))\/(TbP K b/\u=.tbl #[]))->Tbs K H->
   fN (ao P w) lY (.call (.ref fa) ⟨[.ref a],[]⟩) (λr s'=>r=.ok (.ret (.bool true))/\OldK s₁.heap s'.heap/\s'.os=s₁.os/\iL s'.gens) s₁:=by
  intro H hS hok hA hTb;have base_of:∀{b:Addr}{o:Obj},s₁.heap.get? b=some o->H b=none->(Zjb s₁.heap H).get? b=some o:=λe n=>Zfh e n;have noA:∀{b:Addr}{o:Obj}{es:Array lZ}{ep:Nat},s₁.heap.get? b=some o->o.data=.dict es ep->H b=none:=λ{b o es ep} e d=>by
   cases q:H b with
   |none=>rfl
   |some u=>
    rcases hA b u q with⟨rfl,_⟩|⟨t,_⟩
    .rw[ha]at e;cases e;have d':Data.seq vs.toArray _=l6 es ep:=d;cases d'
    .rw[tb t]at e;cases e;have d':lF _=l6 es ep:=d;cases d'
  have nsK:∀{b:Addr}{m:Str->Option aa},s₁.heap.Ns b m->(Zjb s₁.heap H).Ns b m:=λ{b m} ⟨o,es,ep,e,d,r⟩=>⟨o,es,ep,base_of e (noA e d),d,r⟩;have hKb:K.In (Zjb s₁.heap H):=λb o e=>base_of (KX b o e) (by
   cases q:H b with
   |none=>rfl
   |some u=>
    rcases hA b u q with⟨rfl,z,_⟩|⟨t,_⟩
    .rw[z]at e;cases e
    .rw[(Zih hT t).1]at e;cases e)
  have hM:Mod K mg (Zjb s₁.heap H):=⟨hKb,nsK hns,⟨mb,nsK hb,hbb⟩,let ⟨mc,h1,h2⟩:=hlim;⟨mc,nsK h1,h2⟩⟩;have e0:Env0 P w K mg (Zjb s₁.heap H) lY [] s₁ H:=⟨rfl,hM,λb o e=>ZgL e,mV (ZgK _ _),trivial,λb hb=>absurd (show b∈([]:List Addr)from hb) (by simp),hok,.of_eq hg,.inl rfl,hTb⟩
  refine mM ((F _ hKb (nsK hns)).run lY [] s₁ H ⟨[.ref a],[]⟩ [.ref a] [.ref a] _ _ hr e0 (hbind s₁ (.ref a)) (.cons rfl .nil) (hsp H hS)) λr s' h=>?_;cases r with
  |error e=>exact(hCX H e s' h).elim
  |ok fl=>
   cases fl with
   |next=>exact gA h
   |brk=>exact gA h
   |cont=>exact gA h
   |ret u=>
    obtain⟨v,H',os,bare,un,hok',r',q⟩:=h;have q':v=.bl true:=q;subst q';obtain rfl:u=mG true:=r';have fin:∀b o,s₁.heap.get? b=some o->asItWas s₁.heap s'.heap b o:=λb o e=>by
     cases q:H b with
     |none=>exact .inl (un.keep b o e q (by intro z;exact absurd (show b∈([]:List Addr)from z) (by simp)) (by simp))
     |some u=>
      rcases hA b u q with⟨_,_,ob,xs,rfl⟩|⟨t,rfl⟩
      .have z2:=un.frzs b ob _ q;obtain⟨e1,_⟩:=hok b _ q;obtain⟨e2,_⟩:=hok' b _ z2;rw[e]at e1;cases e1;exact .inl e2
      .obtain⟨more,z2⟩:=un.tbls b _ q;have e2:=(hok' b _ z2).1;have e1:=tb t;rw[e]at e1;cases e1;obtain⟨c,oc,vs',f1,f2,f3,f4⟩:=t;exact .inr (.inl ⟨⟨c,oc,vs',KX _ _ f1,f2,f3,f4⟩,rfl,#[],more,rfl,e2⟩)
    refine⟨rfl,⟨fin,λb o e=>?_⟩,os,bare⟩;rcases fin b o e with z|⟨_,_,vs',m,_,z⟩|⟨_,_,⟨o',_,_,z,_⟩,_⟩
    .exact⟨_,z⟩
    .exact⟨_,z⟩
    .exact⟨_,z⟩
 have tok:∀H:Hp,∀b,TbP K b->H b=some (.tbl #[])->ZaC P w H s₁.heap b (.tbl #[]):=λH b t _=>⟨tb t,fC,λpos cv z=>by cases z⟩
 have na:¬TbP K a:=λt=>by
  have:=tb t
  rw[ha]at this;cases this
 cases hk:K.lookup a with
 |some o=>
  have e:=KX a o hk;rw[ha]at e;cases e
  classical
  refine core (λb=>if TbP K b then some (.tbl #[])else none) (.inr ⟨_,vs.toArray,_,hk,rfl,rfl,rfl,by rw[ah,lenV];exact hl,by simpa using rv⟩) (λb u z=>?_) (λb u z=>?_) (λb t=>⟨_,if_pos t⟩)
  .by_cases t:TbP K b
   .have z':=(if_pos t).symm.trans z;cases z';exact tok _ b t (if_pos t)
   .have z':=(if_neg t).symm.trans z;cases z'
  .by_cases t:TbP K b
   .have z':=(if_pos t).symm.trans z;cases z';exact .inr ⟨t,rfl⟩
   .have z':=(if_neg t).symm.trans z;cases z'
 |none=>
  classical
  let H:Hp:=λb=>if b=a then some (.frz {cls:=.type "list",data:=.seq vs.toArray} (.lst (ns.map V.int)))else if TbP K b then some (.tbl #[])else none
  have hHa:H a=some (.frz {cls:=.type "list",data:=.seq vs.toArray} (.lst (ns.map V.int))):=if_pos rfl;have hHt:∀b,TbP K b->H b=some (.tbl #[]):=λb t=>by
   show(if b=a then _ else if TbP K b then _ else _)=_
   have nb:b≠a:=λz=>na (z▸t);rw[if_neg nb,if_pos t]
  have hHn:∀b,b≠a->¬TbP K b->H b=none:=λb n t=>by
   show(if b=a then _ else if TbP K b then _ else _)=_
   rw[if_neg n,if_neg t]
  refine core H (.inl ⟨_,hHa⟩) (λb u z=>?_) (λb u z=>?_) (λb t=>⟨_,hHt b t⟩)
  .by_cases hb:b=a
   .subst hb;rw[hHa]at z;cases z;exact⟨ha,by rw[au];exact hl,vs,_,rv,ha⟩
   .by_cases t:TbP K b
    .rw[hHt b t]at z;cases z;exact tok _ b t (hHt b t)
    .rw[hHn b hb t]at z;cases z
  .by_cases hb:b=a
   .subst hb;rw[hHa]at z;cases z;exact .inl ⟨rfl,hk,_,_,rfl⟩
   .by_cases t:TbP K b
    .rw[hHt b t]at z;cases z;exact .inr ⟨t,rfl⟩
    .rw[hHn b hb t]at z;cases z
theorem Zkc{l:PySem.W.OpenLaw}{K T:lH->Fg}{CX:da->CXT}{sp:da->Sp}(hn:l.most=some n)(hn2:n<=sizeLine)(hdf:d.params.defaults=[])(hr:Room k lY)(hY:∀(w:da)(h:Heap),YP w h->(K w.params).In h/\(T w.params).In h)(hT:∀w:da,ZfP (K w.params) (T w.params)=true)(F:∀(w:da)(mg:Str->Option aa)(fa:Addr)(h:Heap),(K w.params).In h->h.Ns aO mg->mg d.name=some (.ref fa)->∃fd:iT,(∀(s:aB)(u:aa),lX s fd ⟨[u],[]⟩ [(x,u)])/\∀base:Heap,(K w.params).In base->base.Ns aO mg->FnOk l.prog w (K w.params) mg base (CX w) k fa fd [x] (sp w))(hsp:∀(w:da)(H:Hp)(a:Addr)(ns:List Int),ns.length<=n->DL.SqF (K w.params) H a (ns.map V.int)->sp w [.ref a] H (λv _=>v=.bl true) λ_ _ _=>False)(hCX:∀(w:da)(H:Hp)(s:aB)(e:aa)(s':aB),CX w [] H s (λ_ _ _=>False) e s'->False):PySem.W.WalkO q loose XP YP l.row.toRowW d [] (λf vs=>PySem.call f vs):=by
 refine Att.Zew hn hdf λw s₀ s₁ mg mb fa o pm cd doc a vs ns G Y ho hd hcd hmg hobj hints hlen hg=>?_;obtain⟨KX,TX⟩:=hY w _ Y;obtain⟨fd,hb,hF⟩:=F w mg fa _ KX G.T.g hmg;exact Zii KX TX (hT w) G.T.g G.T.b G.T.builtins G.T.nolimit hg hobj hints (aM hlen hn2) hr hF hb (λH hS=>hsp w H a ns hlen hS) λH e s'=>hCX w H s₁ e s'
end L2
namespace DL
open PyProof.Rows L2
theorem ZmR{K:Fg}{ns:List Int}(hF:SqF K H a (ns.map V.int))(h:∃M',F [.rol (ns.map D.int)] []=.ok (.bl true) M'):spD K F [.ref a] H (λv _=>v=.bl true) (λ_ _ _=>False):=by
 obtain⟨M',e⟩:=h;refine⟨[.rol (ns.map D.int)],[],[],.cons (.rol hF (Reps.ints ns)) .nil,HR.nil,?_⟩;rw[e];intro v H' α' _ _ r;cases r;rfl
theorem ZmS{K:Fg}(x:PySem.W.Frag.In (K++T) h):K.In h:=λb o e=>x b o (by rw[List.lookup_append,e];rfl)
theorem Zkd{K:Fg}(x:PySem.W.Frag.In (K++T) h)(d:T.all (λp=>(K.lookup p.1).isNone)=true):T.In h:=λb o e=>x b o (by
 have q:=dG.mp d _ (Zig e);rw[List.lookup_append,gP.mp q];exact e)
def Zrx(K:Fg)(x:Str):Bool:=match PySem.W.nsIn K aO x with
 |some (some (.ref f))=>(match K.lookup f with
  |some ⟨_,_,.func fd,_⟩=>Zd9 K fd.code
  |_=>false)
 |_=>false
noncomputable def ZmT(K:Fg):Bool:=match PySem.W.nsIn K aO "__builtins__" with
 |some (some (.ref bm))=>(match K.lookup bm with
  |some ⟨.type n,some d,.plain,_⟩=>decide (n="module")&&decide (d=ig)&&decide (bm≠ig)&&decide (bm≠aO)
  |_=>false)
 |_=>false
theorem ZfQ{K:Fg}(h:ZmT K=true):Zso K:=by
 unfold ZmT at h
 split at h
 .rename_i bm e1
  split at h
  .rename_i n d sl e2;simp only[bz,decide_eq_true_eq]at h;obtain⟨⟨⟨rfl,rfl⟩,h3⟩,h4⟩:=h;exact⟨bm,_,e1,e2,rfl,rfl,rfl,h3,h4⟩
  .cases h
 .cases h
section
variable {K:Fg}{base:Heap}
theorem Zpy{st:Stmt}(F:Fun K x qual st f fd)(hl:Zd9 K fd.code=true)(S:FnScope N ps (Zo st))(hn:n=ps.length)(hm:m=N.length-n)(hb:∀(cdv:aa)(A:dg)(outer:List Env)(s:aB)(H:Hp)(E:XK),Zd9 K cdv=true->Room k (A.deeper (jw qual (Zo st) s.heap.objs.size f cdv))->Thr (Zfm (CXE P w) P w K mg base N qual (Zo st) f cdv A outer s H E) E->DSs (Zfm (CXE P w) P w K mg base N qual (Zo st) f cdv A outer s H E) E (Zag st) g):FnOk P w K mg base (CXE P w) (k+1) f fd ps (spD K (fnF g n m)):=by
 obtain⟨oc,od,kV,doc,pm,an,cdv,ct,osl,rfl,lk,hcd⟩:=F.ex;refine Zoo lk hcd S (λvs H Q E h=>?_) (λA outer s H vs Q E hr h=>?_)
 .obtain⟨ds,α,M,r,_,q⟩:=h;by_cases c:ds.length=n
  .rw[r.length,c,hn]
  .simp only[fnF,if_neg c]at q;exact q.elim
 .obtain⟨ds,α,M,r,hh,q⟩:=h;obtain⟨t,p,w'⟩:=hb cdv A outer s H E hl hr ZkQ;by_cases c:ds.length=n
  .simp only[fnF,if_pos c]at q;refine⟨t,p,w' _ _ H α M _ (SR.start (N:=N) r (k:=m) (by rw[hm,c])) hh ?_⟩
   cases e:g (ds.map some++bf m none) M with
   |nx ρ' M'=>simp only[e]at q;exact λσ' H' α' ex hr sr=>q _ H' α' ex hr .non
   |ret d M'=>simp only[e]at q;exact q
   |exc x M'=>simp only[e]at q;exact q
   |brk ρ' M'=>simp only[e]at q;exact q.elim
   |cnt ρ' M'=>simp only[e]at q;exact q.elim
   |bad=>simp only[e]at q;exact q.elim
  .simp only[fnF,if_neg c]at q;exact q.elim
theorem Zk8{st:Stmt}(D:Df K x st)(hl:Zrx K x=true)(gl:∀c v,PySem.W.nsIn K aO c=some (some v)->mg c=some v)(hb:∀(cdv:aa)(A:dg)(outer:List Env)(s:aB)(H:Hp)(E:XK)(f:Addr),Zd9 K cdv=true->N.Nodup->Room k (A.deeper (jw x (Zo st) s.heap.objs.size f cdv))->Thr (Zfm (CXE P w) P w K mg base N x (Zo st) f cdv A outer s H E) E->DSs (Zfm (CXE P w) P w K mg base N x (Zo st) f cdv A outer s H E) E (Zag st) g)(h1:autoParam ((Zo st).kind=.function) Qrf._auto_1)(h2:autoParam ((Zo st).isCoroutine=false) Qrf._auto_1)(h3:autoParam ((Zo st).isGenerator=false) Qrf._auto_1)(h4:N.Nodup:=by decide +kernel)(h5:autoParam ((N.take n).length=n) Qrf._auto_1)(h6:∀y∈N.take n,(Zo st).names.lookup y=some .local\/(Zo st).names.lookup y=some .cell:=by decide +kernel)(h7:∀y∈(Zo st).names,y.2≠ .free:=by decide +kernel)(hm:autoParam (m=N.length-n) Qrf._auto_1)(bi:∀(kV doc pm:aa)(an:Option Addr)(cdv ct:aa)(us:List aa),us.length=n->iU (PySem.W.fnOf x x (ZaZ st) (Zag st) (Zo st) .none kV doc pm an cdv ct) ⟨us,[]⟩=pure ((N.take n).zip us):=by first|exact λ_ _ _ _ _ _=>Zt6 λ_=>rfl|exact λ_ _ _ _ _ _=>Zt7 λ_ _=>rfl|exact λ_ _ _ _ _ _=>Zt8 λ_ _ _=>rfl):Cal P w K mg base x (k+1) n (fnF g n m):=by
 obtain⟨f,fd,a,F⟩:=D;have S:FnScope N (N.take n) (Zo st):=⟨h1,h2,h3,h4,by rw[h5],h6,h7⟩
 have hl':Zd9 K fd.code=true:=by
  obtain⟨oc,od,kV,doc,pm,an,cdv,ct,osl,e,lk,hcd⟩:=F.ex;unfold Zrx at hl;rw[a]at hl;dsimp only at hl;rw[lk]at hl;exact hl
 exact⟨f,fd,N.take n,Zpy F hl' S h5.symm hm (λcdv A outer s H E hc hr θ=>hb cdv A outer s H E f hc h4 hr θ),gl _ _ a,F.kp,h5,F.binds (λkV doc pm an cdv ct us hu=>bi kV doc pm an cdv ct us (hu.trans h5))⟩
end
theorem Zue(XN N:List Str)(dn:List (Str×cW))(fr:List Nat)(hN:autoParam (X.N=XN) Qrf._auto_1)(hd:autoParam (X.env.scope.names=dn) Qrf._auto_1)(hc:autoParam (X.env.cells=bT n dn []) Qrf._auto_1)(hk:autoParam (scope.kind=.function) Qrf._auto_1)(h:ZnM XN N dn scope.names 1 fr=true:=by decide +kernel)(hl:scope.names.all (λy=>y.2 != .cell)=true:=by decide +kernel)(co:autoParam (scope.isCoroutine=false) Qrf._auto_1)(gen:autoParam (scope.isGenerator=false) Qrf._auto_1)(hx:scope.names.lookup x=some .local:=by decide +kernel)(n0:autoParam (N[0]?=some x) Qrf._auto_1):Lms X scope (clF scope X.env) x N fr:=by
 have B:=Zda XN N dn 1 fr hN hd hc hk h;unfold ZnM at h;simp only[bz,dG,bne_iff_ne,ne_eq,Bool.or_eq_true,beq_iff_eq]at h hl;obtain⟨⟨h1,h2⟩,h3⟩:=h;refine⟨B.clos,hk,co,gen,hl,hx,B.sub,λy z=>?_,n0,B.len,λj i e=>?_⟩
 .rcases z with z|z
  .exact absurd rfl (hl _ (PySem.mem_of_lookup z))
  .obtain⟨kd,r1,r2⟩:=Zaw (env:=X.env) z;obtain⟨c,hc⟩:=B.has 0 y (by
    rcases r1 with r1|r1
    .exact .inl (r1▸r2)
    .exact .inr (r1▸r2))
   rw[Zac]at hc;rcases Zb4 hc with q|q
   .exact absurd rfl (hl _ (ZaK _ _ _ _ (PySem.mem_of_lookup q)))
   .exact⟨c,q.2⟩
 .obtain⟨y,a1,a2,a3,a4,a5,_⟩:=B.at_ j i e;refine⟨y,a1,a2,a3,?_,a5⟩;have q:=h3 j (bZ.mpr (aq.mp e).1);rw[e]at q;dsimp only at q;rw[a1,<-hN,a2]at q;simp only[bz,beq_iff_eq]at q;exact q.1.2
end DL
namespace DL
open PyProof.Rows L2
theorem Reps.tk{K:Fg}{H:Hp}{α:List Addr}:∀{vs:List V}{ds:List D}(i:Nat),Reps K H α vs ds->Reps K H α (vs.take i) (ds.take i)
 |_,_,0,_=>.nil
 |_,_,_+1,.nil=>.nil
 |_,_,i+1,.cons r t=>.cons r (Reps.tk i t)
theorem Reps.dp{K:Fg}{H:Hp}{α:List Addr}:∀{vs:List V}{ds:List D}(i:Nat),Reps K H α vs ds->Reps K H α (vs.drop i) (ds.drop i)
 |_,_,0,h=>h
 |_,_,_+1,.nil=>.nil
 |_,_,i+1,.cons _ t=>Reps.dp i t
end DL
namespace DL
open PyProof.Rows L2
end DL
namespace DL
open L2
end DL
namespace DQ
open PyProof.Rows
end DQ
namespace DL
open PyProof.Rows L2
end DL
namespace SX
open PySem.Builtin.Str DL
noncomputable def stp(s:Str)(c L:Nat)(b:Array Nat×Nat)(a:Nat):Array Nat×Nat:=if(decide (b.1.size<L)&&decide (b.2<=a)&&decide (a+1<=s.length)&&subAt s ⟨#[c]⟩ a)=true then(b.1.push a,a+1)else(b.1,b.2)
noncomputable def jn(c:Nat):List (List Nat)->List Nat
 |[]=>[]
 |[a]=>a
 |a::r=>a++c::jn c r
end SX
namespace DL
open PyProof.Rows L2 SX
def okT(z:Str)(lo hi:Option Int):Prop:=0<=lo.getD 0/\lo.getD 0<=hi.getD z.cps.toList.length/\lo.getD 0<=z.cps.toList.length
instance (z:Str) (lo hi:Option Int):Decidable (okT z lo hi):=by unfold okT;infer_instance
end DL
namespace DL
open PyProof.Rows L2
end DL
namespace DQ
open PyProof.Rows
open Builtin Builtin.ObjectAttr
open PySem.W (Looks findIn mroIn specialIn takesIn clsIn looks_findIn looks_mroIn looks_find findObj handedIn hasDictIn lookIn)
end DQ
namespace DL
open PyProof.Rows L2
open PySem.W (nsIn excIn tailIn nsOkIn mroIn clsIn typeIn findIn specialIn takesIn hasDictIn readsIn findCls handedIn)
end DL
namespace DL
open PyProof.Rows L2
open PySem.W (nsIn excIn tailIn nsOkIn mroIn clsIn typeIn findIn specialIn takesIn kitOne Looks looks_mroIn looks_typeIn exmAny exm_tup2)
end DL
namespace DL
open PyProof.Rows L2
noncomputable def Bag(n:Nat)(M:Sto):Prop:=∃a b:Int,0<=a/\M[n]?=some (.lst [.int a,.int b])
structure Gr(n:Nat) (M M':Sto):Prop where
 len:M.length<=M'.length
 bag:Bag n M'
 keep:∀k,k≠n->k<M.length->M'[k]?=M[k]?
theorem ZmU(hl:ds.length=n)(h:g (ds.map some++bf k none) M=.ret d M'):fnF g n k ds M=.ok d M':=by
 unfold fnF;rw[if_pos hl,h]
theorem Zij{M1:Sto}(e:g ρ M=.nx ρ1 M1):ZI g h ρ M=h ρ1 M1:=by
 unfold ZI;rw[e]
theorem Zik(h1: -(2^64)<j)(h2:j<2^64):Zq i j:=.inr (.inl (intBits_le_64 h1 h2))
theorem Zil(h1: -(2^64)<i)(h2:i<2^64):Zq i j:=.inl (intBits_le_64 h1 h2)
theorem at0{x:D}:atI (x::r) 0=some x:=by
 show(ixN (r.length+1) 0).bind _=_;unfold ixN;rw[if_pos (by decide),if_pos ⋯]
 rfl
theorem at1{x:D}:atI (x::y::r) 1=some y:=by
 show(ixN (r.length+2) 1).bind _=_;unfold ixN;rw[if_pos (by decide),if_pos ⋯]
 rfl
theorem ix0:ixN (n+1) 0=some 0:=by
 unfold ixN;rw[if_pos (by decide),if_pos ⋯]
 rfl
theorem ix1:ixN (n+2) 1=some 1:=by
 unfold ixN;rw[if_pos (by decide),if_pos ⋯]
 rfl
theorem Bag.lt(h:Bag n M):n<M.length:=let ⟨_,_,_,e⟩:=h;(aq.mp e).1
theorem Bag.app(h:Bag n M)(L:Sto):Bag n (M++L):=by
 have hl:=h.lt;obtain⟨a,b,h1,h2⟩:=h;exact⟨a,b,h1,by rw[aC hl];exact h2⟩
theorem Gr.trans{M1 M2:Sto}(a:Gr n M M1)(b:Gr n M1 M2):Gr n M M2:=
 ⟨aM a.len b.len,b.bag,λk h1 h2=>(b.keep k h1 (aj h2 a.len)).trans (a.keep k h1 h2)⟩
theorem Gr.app(h:Bag n M)(L:Sto):Gr n M (M++L):=⟨by simp,h.app L,λk _ hk=>by rw[aC hk]⟩
theorem Gr.app2{M1:Sto}(h:Gr n M M1)(L:Sto):Gr n M (M1++L):=h.trans (.app h.bag L)
theorem Gr.new{M1:Sto}(hb:Bag n M)(h:Gr n (M++o::L) M1):M1[M.length]?=some o:=by
 rw[h.keep _ (bH hb.lt) (by simp)]
 simp
theorem Zke{ns:List Int}(h:k<ns.length):atI (ns.map D.int) (k:Int)=some (.int ns[k]):=Zl0 (by rw[bv,ae h];rfl)
theorem ZfR{ρ:Ro}(h:ρ[i]?=some x):ρ.set i x=ρ:=by
 apply fk;intro k;by_cases hk:k=i
 .subst hk;rw[aT (aq.mp h).1,h]
 .rw[be (cC hk)]
def cEu(i j:Nat):Sv:=ZeA i j (Zc (Zf j) (Zc (e2 dMod (Zf i) (Zf j)) aNil))
theorem Zpz{c:Tv}{i j:Nat}{M:Sto}(hij:i≠j)(hc:∀(ρ:Ro)(b:Nat),ρ[j]?=some (some (.int b))->c ρ M=.ok (decide (b≠0)) M):∀(b a:Nat)(ρ:Ro),ρ[i]?=some (some (.int a))->ρ[j]?=some (some (.int b))->sWh c (cEu i j) ρ M=.nx ((ρ.set i (some (.int (jW a b:Nat)))).set j (some (.int 0))) M:=by
 intro b
 induction b using Nat.strongRecOn with
 |ind b ih=>
  intro a ρ hi hj;by_cases h0:b=0
  .subst h0;rw[ZdT (M1:=M) (by rw[hc ρ 0 hj];rfl),Nat.gcd_zero_right,ZfR hi,ZfR (x:=some (.int 0)) hj]
  .have hl:i<ρ.length:=(aq.mp hi).1;have hl2:j<ρ.length:=(aq.mp hj).1;have ht:c ρ M=.ok true M:=by rw[hc ρ b hj,decide_eq_true h0]
   have hb:cEu i j ρ M=.nx ((ρ.set i (some (.int b))).set j (some (.int (a%b:Nat)))) M:=by
    have hb0:¬(b:Int)=0:=⋯
    have hm:(a:Int).fmod (b:Int)=((a%b:Nat):Int):=by rw[jG _ ⋯];rfl
    simp[cEu,ZeA,Zc,aNil,Zf,e2,dMod,Out.bind,Zao,hi,hj,hb0,hm,h0]
   have g1:((ρ.set i (some (.int b))).set j (some (.int (a%b:Nat))))[i]?=some (some (.int b)):=by
    rw[be (cC hij),aT hl]
   have g2:((ρ.set i (some (.int b))).set j (some (.int (a%b:Nat))))[j]?=some (some (.int (a%b:Nat))):=by
    rw[aT (by simpa using hl2)]
   have q:=ih (a%b) (Nat.mod_lt _ ⋯) b _ g1 g2
   rw[Zfz ht hb (by rw[q];intro z;cases z),q]
   have eg:jW b (a%b)=jW a b:=by rw[Nat.gcd_comm b,<-Nat.gcd_rec,Nat.gcd_comm]
   rw[eg,List.set_comm _ _ (cC hij),List.set_set,List.set_set]
theorem ZpA:eqF 12 M (.int a) (.int b)=some (a==b):=rfl
theorem ne0(ρ:Ro)(b:Nat)(h:ρ[j]?=some (some (.int b))):tv (e2 dNe (Zf j) (eC (.int 0))) ρ M=.ok (decide (b≠0)) M:=by
 simp[tv,e2,Zf,eC,h,Out.bind,dNe,ZpA];by_cases c:b=0
 .subst c;rfl
 .have:¬(b:Int)=0:=⋯
  simp[c,this]
theorem Zim(a:Int):(if a<0 then -a else a)=(a.natAbs:Int):=by split<;>lia
def Zvp:Sv:=(ZI (ZeA 2 3 (Zc (Zj bAbs (Zc (Zf 0) aNil)) (Zc (Zj bAbs (Zc (Zf 1) aNil)) aNil))) (ZI (sWh (tv (e2 dNe (Zf 3) (eC (.int 0)))) (ZeA 2 3 (Zc (Zf 3) (Zc (e2 dMod (Zf 2) (Zf 3)) aNil)))) (Zal (Zf 2))))
def FGcd:W3:=fnF Zvp 2 2
theorem Zk9(a b:Int)(M:Sto):FGcd [.int a,.int b] M=.ok (.int (gN a b:Nat)) M:=by
 refine ZmU rfl ?_;refine(Zij (ρ1:=[some (.int a),some (.int b),some (.int (a.natAbs:Nat)),some (.int (b.natAbs:Nat))]) (M1:=M) ?_).trans ?_
 .simp[fnF,ZI,sNil,Zal,ZoP,ZdR,sIf,ZM,ZeA,ZkR,Zao,gNm,gNl,gCs,gTp,DL.e2,Zf,eC,Z7,ZbS,Zj,Zc,aNil,tv,Zcf,Zg9,ZdK,Zhb,Zvd,Zhc,eIf,Zch,ZnL,Out.bind,dAdd,dSub,dMul,dDiv,dMod,dPow,dLt,dLe,dGt,dGe,dIx,atD,at0,at1,ix0,ix1,bLen,bAbs,bMax,bMin,bInt,bList,Zeq,ZaX,kd,Zb2,dIs,dIsNot,isP,Zim]
 .have q:=Zpz (c:=tv (e2 dNe (Zf 3) (eC (.int 0)))) (i:=2) (j:=3) (M:=M) (by decide) ne0 b.natAbs a.natAbs [some (.int a),some (.int b),some (.int (a.natAbs:Nat)),some (.int (b.natAbs:Nat))] rfl rfl
  refine(Zij q).trans ?_;rfl
end DL
namespace DL
open PyProof.Rows L2
noncomputable def wO(o:Out β)(Q:β->Sto->Prop)(E:W2):Prop:=match o with
 |.ok a M=>Q a M
 |.exc c M=>E c M
 |.bad=>False
def wS(f:Fl)(N:W1)(R:W0)(B C:W1)(E:W2):Prop:=match f with
 |.nx ρ M=>N ρ M
 |.ret d M=>R d M
 |.brk ρ M=>B ρ M
 |.cnt ρ M=>C ρ M
 |.exc c M=>E c M
 |.bad=>False
noncomputable def Br(k:Bool)(A B:Prop):Prop:=(k=true->A)/\(k=false->B)
noncomputable def wG{β:Type}(o:Option β)(N:β->Prop):Prop:=match o with|some ρ=>N ρ|none=>False
noncomputable def wV(o:Option (Option D))(Q:D->Prop):Prop:=match o with|some (some d)=>Q d|_=>False
noncomputable def wI(x:D)(Q:Int->Prop):Prop:=match x with|.int i=>Q i|_=>False
noncomputable def wR(x:D)(Q:Nat->Prop):Prop:=match x with|.ref i=>Q i|_=>False
noncomputable def w1(x:List D)(Q:D->Prop):Prop:=match x with|[v]=>Q v|_=>False
noncomputable def w2(x:List D)(Q:D->D->Prop):Prop:=match x with|[v,w]=>Q v w|_=>False
noncomputable def wL(o:Option SO)(Q:List D->Prop):Prop:=match o with|some (.lst xs)=>Q xs|none=>False
section
variable {β:Type}{QG:β->Prop}{y:β}
theorem Zvq:w1 [d] Q=Q d:=rfl
theorem Zvr:w2 [d,x] Q2=Q2 d x:=rfl
theorem Zvs:wV (some (some d)) Q=Q d:=rfl
theorem Zvt:wI (.int i) QI=QI i:=rfl
theorem Zvu:wR (.ref n) QR=QR n:=rfl
theorem Zvv:wL (some (.lst xs)) QL=QL xs:=rfl
theorem Zvw:wG (some y) QG=QG y:=rfl
end
section
variable {β:Type}{Q:β->Sto->Prop}{E:W2}{A A':Prop}
theorem Zm{d:β}:wO (.ok d M) Q E=Q d M:=rfl
theorem ZpB:wO (.exc c M:Out β) Q E=E c M:=rfl
theorem ZnS:Br true A A'=A:=by simp[Br]
theorem Zss:Br false A A'=A':=by simp[Br]
theorem br(h1:k=true->A)(h2:k=false->A'):Br k A A':=⟨h1,h2⟩
theorem brD{p:Prop}[Decidable p](h1:p->A)(h2:¬p->A'):Br (decide p) A A':=⟨λh=>h1 (of_decide_eq_true h),λh=>h2 (of_decide_eq_false h)⟩
theorem Zcs{o:Out β}{Q':β->Sto->Prop}(h:wO o Q E)(hq:∀d M,Q d M->Q' d M)(he:∀c M,E c M->E' c M):wO o Q' E':=by
 cases o with
 |ok d M=>exact hq d M h
 |exc c M=>exact he c M h
 |bad=>exact h
theorem ZfS{o:Out β}(h:wO o Q (λ_ _=>False)):∃d M',o=.ok d M'/\Q d M':=by
 cases o with
 |ok d M=>exact⟨d,M,rfl,h⟩
 |exc c M=>exact h.elim
 |bad=>exact h.elim
theorem ZC{o:Out γ}{f:γ->Sto->Out β}:wO (o.bind f) Q E=wO o (λx M1=>wO (f x M1) Q E) E:=by cases o<;>rfl
end
section
variable {E:W2}{N B C:W1}{R:W0}{ρ:Ro}{M:Sto}{e f:Ev}
theorem Zst:wO (e2 op f g ρ M) Q E=wO (f ρ M) (λx M1=>wO (g ρ M1) (λy M2=>wO (op x y M2) Q E) E) E:=by
 unfold e2;rw[ZC];congr 1;funext x M1;rw[ZC]
theorem Zvx:wO (Zf i ρ M) Q E=wV ρ[i]? (λd=>Q d M):=by
 unfold Zf;cases ρ[i]? with
 |none=>rfl
 |some o=>cases o<;>rfl
theorem ZmV:wO (Zj F fs ρ M) Q E=wO (fs ρ M) (λds M1=>wO (F ds M1) Q E) E:=ZC
theorem ZmW:wO (Zc f fs ρ M) Q E=wO (f ρ M) (λx M1=>wO (fs ρ M1) (λxs M2=>Q (x::xs) M2) E) E:=by
 unfold Zc;rw[ZC];congr 1;funext x M1;rw[ZC];congr 1
theorem ZpC:wO (Z7 fs ρ M) Q E=wO (fs ρ M) (λxs M1=>xs.length<=1000/\Q (.tup xs) M1) E:=by
 unfold Z7;rw[ZC];congr 1;funext x M1;by_cases h:x.length<=1000
 .rw[if_pos h];simp[h,wO]
 .rw[if_neg h];simp[h,wO]
theorem ZpD:wO (ZbS fs ρ M) Q E=wO (fs ρ M) (λxs M1=>xs.length<=1000/\Q (.ref M1.length) (M1++[.lst xs])) E:=by
 unfold ZbS;rw[ZC];congr 1;funext x M1;by_cases h:x.length<=1000
 .rw[if_pos h];simp[h,wO]
 .rw[if_neg h];simp[h,wO]
theorem ZpE:wO (ZdK t ρ M) Q E=wO (t ρ M) (λk M1=>Q (!k) M1) E:=by
 unfold ZdK;rw[ZC];congr 1
theorem ZpF:wS (ZI a b ρ M) N R B C E=wS (a ρ M) (λρ1 M1=>wS (b ρ1 M1) N R B C E) R B C E:=by
 unfold ZI;cases a ρ M<;>rfl
theorem ZU{o:Out β}{k:β->Sto->Fl}:wS (Zao o k) N R B C E=wO o (λx M1=>wS (k x M1) N R B C E) E:=by cases o<;>rfl
theorem ZpG:wS (Zal f ρ M) N R B C E=wO (f ρ M) R E:=ZU
theorem ZmX:wS (ZdR f ρ M) N R B C E=wO (f ρ M) (λ_ M1=>N ρ M1) E:=ZU
theorem ZpH:wS (ZM (gNm i) f ρ M) N R B C E=wO (f ρ M) (λd M1=>N (ρ.set i (some d)) M1) E:=ZU
theorem ZmY:wS (ZM (gTp gs) f ρ M) N R B C E=wO (f ρ M) (λd M1=>wG (gTp gs d ρ) (λr=>N r M1)) E:=by
 unfold ZM;rw[ZU];congr 1;funext d M1;cases gTp gs d ρ<;>rfl
theorem ZpI:wS (ZeA i j fs ρ M) N R B C E=wO (fs ρ M) (λds M1=>w2 ds λv w=>N ((ρ.set i (some v)).set j (some w)) M1) E:=by
 unfold ZeA;rw[ZU];congr 1;funext ds M1;rcases ds with _|⟨v,_|⟨w,_|⟨z,r⟩⟩⟩<;>rfl
theorem ZpJ:wS (ZkR fo fi f ρ M) N R B C E=wO (f ρ M) (λd M1=>wO (fo ρ M1) (λo M2=>wO (fi ρ M2) (λi M3=>wR o λn=>wI i λk=>wL M3[n]? λxs=>wG (ixN xs.length k) λj=>N ρ (M3.set n (.lst (xs.set j d)))) E) E) E:=by
 unfold ZkR;rw[ZU];congr 1;funext d M1;rw[ZU];congr 1;funext o M2;rw[ZU];congr 1;funext i M3;cases o<;>cases i<;>try rfl
 rename_i n k;cases e:M3[n]? with
 |none=>simp only[e,wR,wI,wL,wS]
 |some s=>
  cases s with
  |lst xs=>
   cases e2:ixN xs.length k<;>simp only[e,e2,wR,wI,wL,wG,wS]
theorem wF(hl:ds.length=n):wO (fnF a n k ds M) Q E=wS (a (ds.map some++bf k none) M) (λ_ M1=>Q .non M1) Q (λ_ _=>False) (λ_ _=>False) E:=by
 unfold fnF;rw[if_pos hl];cases a (ds.map some++bf k none) M<;>rfl
theorem Zin(h:wS o N R B C E)(hn:∀ρ M,N ρ M->N' ρ M)(hr:∀d M,R d M->R' d M)(hb:∀ρ M,B ρ M->B' ρ M)(hc:∀ρ M,C ρ M->C' ρ M)(he:∀c M,E c M->E' c M):wS o N' R' B' C' E':=by
 cases o with
 |nx ρ M=>exact hn _ _ h
 |ret ρ M=>exact hr _ _ h
 |brk ρ M=>exact hb _ _ h
 |cnt ρ M=>exact hc _ _ h
 |exc ρ M=>exact he _ _ h
 |bad=>exact h
variable {tg:Tg}{bd:Sv}
theorem Zio(I:Nat->Ro->Sto->Prop):∀(xs:List D)(k:Nat)(ρ:Ro)(M:Sto),I k ρ M->(∀i ρ M (h:i<xs.length),I (k+i) ρ M->wG (tg xs[i] ρ) λr=>wS (bd r M) (I (k+i+1)) R N (I (k+i+1)) E)->(∀ρ M,I (k+xs.length) ρ M->N ρ M)->wS (Zbe tg bd xs ρ M) N R B C E
 |[],k,ρ,M,h,_,hn=>hn ρ M h
 |x::xs,k,ρ,M,h,st,hn=>by
  have s:=st 0 ρ M (by simp) h
  unfold Zbe;simp only[kR,iC]at s;cases e:tg x ρ with
  |none=>rw[e]at s;exact s.elim
  |some ρ1=>
   rw[e]at s;simp only[wG]at s;have rc:∀ρ2 M2,I (k+1) ρ2 M2->wS (Zbe tg bd xs ρ2 M2) N R B C E:=λρ2 M2 h2=>Zio I xs (k+1) ρ2 M2 h2 (λi ρ M hi hI=>by
    have z:=st (i+1) ρ M (by simp;lia) (by rw[show k+(i+1)=k+1+i by lia];exact hI)
    simp only[kW]at z;rw[show k+(i+1)+1=k+1+i+1 by lia]at z
    exact z) (λρ M hI=>hn ρ M (by rw[show k+(x::xs).length=k+1+xs.length by simp;lia];exact hI))
   cases eg:bd ρ1 M<;>rw[eg]at s<;>simp only[eg]
   .exact rc _ _ s
   .exact s
   .exact s
   .exact rc _ _ s
   .exact s
   .exact s
theorem ZmZ:wS (Zbu tg fs bd ρ M) N R B C E=wO (fs ρ M) (λds M1=>w1 ds λd=>wI d λj=>(-(2^62)<=j/\j<2^62)/\wS (Zbe tg bd (Zbh 0 j.toNat) ρ M1) N R B C E) E:=by
 unfold Zbu;rw[ZU];congr 1;funext ds M1;rcases ds with _|⟨v,_|⟨w,r⟩⟩
 .rfl
 .cases v<;>try rfl
  rename_i j;by_cases h: -(2^62)<=j/\j<2^62
  .simp only[w1,wI,eq_true h,true_and,if_true]
  .simp only[w1,wI,eq_false h,false_and,if_false];rfl
 .cases v<;>rfl
theorem ZcW(I:Nat->Ro->Sto->Prop){lo:Int}(h0:I 0 ρ M)(st:∀i ρ M,i<n->I i ρ M->wG (tg (.int (lo+i)) ρ) λr=>wS (bd r M) (I (i+1)) R N (I (i+1)) E)(hn:∀ρ M,I n ρ M->N ρ M):wS (Zbe tg bd (Zbh lo n) ρ M) N R B C E:=by
 have hl:(Zbh lo n).length=n:=by simp[Zbh]
 refine Zio I _ 0 ρ M h0 (λi ρ M h hI=>?_) (λρ M hI=>hn ρ M (by rw[hl,fm]at hI;exact hI))
 have:(Zbh lo n)[i]=.int (lo+i):=by simp[Zbh]
 rw[this];rw[fm]at *;exact st i ρ M (by rw[hl]at h;exact h) hI
theorem ZpK:wS (ZoR tg f bd ρ M) N R B C E=wO (f ρ M) (λd M1=>wS (ZkS tg bd d ρ M1) N R B C E) E:=ZU
theorem Zm0(I:Nat->Ro->Sto->Prop){n:Nat}{xs:List D}:∀(f i:Nat)(ρ:Ro)(M:Sto),i+f=xs.length->I i ρ M->(∀i ρ M,I i ρ M->M[n]?=some (.lst xs))->(∀i ρ M (h:i<xs.length),I i ρ M->wG (tg xs[i] ρ) λr=>wS (bd r M) (I (i+1)) R N (I (i+1)) E)->(∀ρ M,I xs.length ρ M->N ρ M)->wS (ZgC tg bd n f i ρ M) N R B C E:=by
  intro f
  induction f with
  |zero=>
   intro i ρ M e h hm st hn;have hx:=hm _ _ _ h;unfold ZgC;rw[hx]
   have:xs[i]?=none:=aZ ⋯
   simp only[this];exact hn ρ M (by rw[show xs.length=i by lia];exact h)
  |succ f ih=>
   intro i ρ M e h hm st hn;have hx:=hm _ _ _ h;unfold ZgC;rw[hx];have hi:i<xs.length:=⋯
   have:xs[i]?=some xs[i]:=Gq hi
   simp only[this];have s:=st i ρ M hi h;cases e:tg xs[i] ρ with
   |none=>rw[e]at s;exact s.elim
   |some ρ1=>
    rw[e]at s;simp only[wG]at s;have rc:∀ρ2 M2,I (i+1) ρ2 M2->wS (ZgC tg bd n f (i+1) ρ2 M2) N R B C E:=λρ2 M2 h2=>ih (i+1) ρ2 M2 ⋯ h2 hm st hn
    cases eg:bd ρ1 M<;>rw[eg]at s<;>simp only[eg]
    .exact rc _ _ s
    .exact s
    .exact s
    .exact rc _ _ s
    .exact s
    .exact s
theorem Zip(I:Nat->Ro->Sto->Prop)(hM:M[n]?=some (.lst xs))(h0:I 0 ρ M)(hm:∀i ρ M,I i ρ M->M[n]?=some (.lst xs))(st:∀i ρ M (h:i<xs.length),I i ρ M->wG (tg xs[i] ρ) λr=>wS (bd r M) (I (i+1)) R N (I (i+1)) E)(hn:∀ρ M,I xs.length ρ M->N ρ M):wS (ZkS tg bd (.ref n) ρ M) N R B C E:=by
 show wS (match M[n]? with|some (.lst xs)=>ZgC tg bd n xs.length 0 ρ M|none=>.bad) N R B C E
 rw[hM];exact Zm0 I xs.length 0 ρ M ⋯ h0 hm st hn
theorem Zm1:wS (Zgr tg fi bd ρ M) N R B C E=wO (fi ρ M) (λsrc M1=>wS (ZeE tg bd src (cnt src M1) 0 ρ M1) N R B C E) E:=ZU
theorem Zla(I:Nat->Ro->Sto->Prop){src:Src}{xs:List D}:∀(f i:Nat)(ρ:Ro)(M:Sto),i<=xs.length->xs.length<=i+f->I i ρ M->(∀i ρ M,i<=xs.length->I i ρ M->nxt src i M=some xs[i]?)->(∀i ρ M (h:i<xs.length),I i ρ M->wG (tg xs[i] ρ) λr=>wS (bd r M) (I (i+1)) R N (I (i+1)) E)->(∀ρ M,I xs.length ρ M->N ρ M)->wS (ZeE tg bd src f i ρ M) N R B C E:=by
  intro f
  induction f with
  |zero=>
   intro i ρ M le e h hm st hn;have hx:=hm _ _ _ le h;unfold ZeE;rw[hx];have hi:¬i<xs.length:=⋯
   have:xs[i]?=none:=aZ ⋯
   simp only[this];exact hn ρ M (by rw[show xs.length=i by lia];exact h)
  |succ f ih=>
   intro i ρ M le e h hm st hn;have hx:=hm _ _ _ le h;unfold ZeE;rw[hx];by_cases hi:i<xs.length
   .have:xs[i]?=some xs[i]:=Gq hi
    simp only[this];have s:=st i ρ M hi h;cases e:tg xs[i] ρ with
    |none=>rw[e]at s;exact s.elim
    |some ρ1=>
     rw[e]at s;simp only[wG]at s;have rc:∀ρ2 M2,I (i+1) ρ2 M2->wS (ZeE tg bd src f (i+1) ρ2 M2) N R B C E:=λρ2 M2 h2=>ih (i+1) ρ2 M2 ⋯ ⋯ h2 hm st hn
     cases eg:bd ρ1 M<;>rw[eg]at s<;>simp only[eg]
     .exact rc _ _ s
     .exact s
     .exact s
     .exact rc _ _ s
     .exact s
     .exact s
   .have:xs[i]?=none:=aZ ⋯
    simp only[this];exact hn ρ M (by rw[show xs.length=i by lia];exact h)
theorem Zkf{c:Tv}(I:Nat->Ro->Sto->Prop)(st:∀n ρ M,I n ρ M->wO (c ρ M) (λk M1=>Br k (wS (bd ρ M1) (λρ2 M2=>∃m,m<n/\I m ρ2 M2) R N (λρ2 M2=>∃m,m<n/\I m ρ2 M2) E) (N ρ M1)) E):∀(n:Nat)(ρ:Ro)(M:Sto),I n ρ M->wS (sWh c bd ρ M) N R B C E:=by
 intro n
 induction n using Nat.strongRecOn with
 |ind n ih=>
  intro ρ M h;have s:=st n ρ M h;cases ec:c ρ M with
  |bad=>rw[ec]at s;exact s.elim
  |exc x M1=>rw[ec]at s;rw[ZbT (n:=1) (o:=.exc x M1) (by simp only[whN,ec])];exact s
  |ok k M1=>
   rw[ec]at s;cases k with
   |false=>
    rw[Zm,Zss]at s;rw[ZdT ec];exact s
   |true=>
    rw[Zm,ZnS]at s;cases eg:bd ρ M1 with
    |nx ρ2 M2=>
     rw[eg]at s;obtain⟨m,hm,hI⟩:=s;have r:=ih m hm ρ2 M2 hI;rw[Zfz ec eg (by intro z;rw[z]at r;exact r)]
     exact r
    |cnt ρ2 M2=>
     rw[eg]at s;obtain⟨m,hm,hI⟩:=s;have r:=ih m hm ρ2 M2 hI;have nb:sWh c bd ρ2 M2≠ .bad:=by intro z;rw[z]at r;exact r
     obtain⟨j,ej⟩:=Zhm nb;rw[ZbT (n:=j+1) (o:=sWh c bd ρ2 M2) (by simp only[whN,ec,eg];exact ej)]
     exact r
    |brk ρ2 M2=>rw[eg]at s;rw[ZbT (n:=1) (o:=.nx ρ2 M2) (by simp only[whN,ec,eg])];exact s
    |ret d M2=>rw[eg]at s;rw[ZbT (n:=1) (o:=.ret d M2) (by simp only[whN,ec,eg])];exact s
    |exc d M2=>rw[eg]at s;rw[ZbT (n:=1) (o:=.exc d M2) (by simp only[whN,ec,eg])];exact s
    |bad=>rw[eg]at s;exact s.elim
theorem Zm2:wO (Zaj fi k fr tg c f ρ M) Q E=wO (fi ρ M) (λsrc M1=>wO (ZfB src tg c f M1.length (cnt src M1) 0 (roB k fr ρ) (M1++[.lst []])) (λ_ M2=>Q (.ref M1.length) M2) (λ_ _=>False)) E:=by
 unfold Zaj;rw[ZC];congr 1;funext src M1;cases ZfB src tg c f M1.length (cnt src M1) 0 (roB k fr ρ) (M1++[.lst []])<;>rfl
theorem ZfT(I:Nat->Ro->Sto->Prop){src:Src}{xs:List D}{c:Tv}{m:Nat}{Q:Sto->Prop}:∀(fu i:Nat)(ρ:Ro)(M:Sto),i<=xs.length->xs.length<=i+fu->I i ρ M->(∀i ρ M,i<=xs.length->I i ρ M->nxt src i M=some xs[i]?)->(∀i ρ M (h:i<xs.length),I i ρ M->wG (tg xs[i] ρ) λr=>wO (c r M) (λk M1=>Br k (wO (f r M1) (λy M2=>wL M2[m]? λys=>ys.length<10000000/\I (i+1) r (M2.set m (.lst (ys++[y])))) (λ_ _=>False)) (I (i+1) r M1)) (λ_ _=>False))->(∀ρ M,I xs.length ρ M->Q M)->wO (ZfB src tg c f m fu i ρ M) (λ_ M2=>Q M2) (λ_ _=>False):=by
  intro fu
  induction fu with
  |zero=>
   intro i ρ M le e h hm st hn;have hx:=hm _ _ _ le h;unfold ZfB;rw[hx];have hi:¬i<xs.length:=⋯
   have:xs[i]?=none:=aZ ⋯
   simp only[this];exact hn ρ M (by rw[show xs.length=i by lia];exact h)
  |succ fu ih=>
   intro i ρ M le e h hm st hn;have hx:=hm _ _ _ le h;unfold ZfB;rw[hx];by_cases hi:i<xs.length
   .have:xs[i]?=some xs[i]:=Gq hi
    simp only[this];have s:=st i ρ M hi h;cases e:tg xs[i] ρ with
    |none=>rw[e]at s;exact s.elim
    |some ρ1=>
     rw[e]at s;simp only[wG]at s;have rc:∀ρ2 M2,I (i+1) ρ2 M2->wO (ZfB src tg c f m fu (i+1) ρ2 M2) (λ_ M2=>Q M2) (λ_ _=>False):=λρ2 M2 h2=>ih (i+1) ρ2 M2 ⋯ ⋯ h2 hm st hn
     cases ec:c ρ1 M with
     |bad=>rw[ec]at s;exact s.elim
     |exc _ _=>rw[ec]at s;exact s.elim
     |ok k M1=>
      rw[ec]at s;rw[Zm]at s;cases k with
      |false=>
       rw[Zss]at s;simp only[ec];exact rc _ _ s
      |true=>
       rw[ZnS]at s;simp only[ec];cases ef:f ρ1 M1 with
       |bad=>rw[ef]at s;exact s.elim
       |exc _ _=>rw[ef]at s;exact s.elim
       |ok y M2=>
        rw[ef,Zm]at s;simp only[ef];cases ey:M2[m]? with
        |none=>rw[ey]at s;exact s.elim
        |some o=>
         cases o with
         |lst ys=>
          rw[ey]at s;simp only[wL,ey]at s ⊢;rw[if_pos s.1];exact rc _ _ s.2
   .have:xs[i]?=none:=aZ ⋯
    simp only[this];exact hn ρ M (by rw[show xs.length=i by lia];exact h)
end
end DL
namespace DL
open PyProof.Rows L2
section
variable {M:Sto}{n:Nat}{lo hi:Ro->Sto->Out (Option Int)}
theorem Zec(h: -(18446744073709551616)<i/\i<18446744073709551616):Zq i j:=Zil h.1 h.2
theorem Zdk(h: -(18446744073709551616)<j/\j<18446744073709551616):Zq i j:=Zik h.1 h.2
theorem Zed(h:0<j/\j<18446744073709551616):Zaz j:=by
 refine⟨⋯,?_⟩
 have:j.natAbs.log2<64:=(Nat.log2_lt ⋯).mpr ⋯
 lia
theorem Zsu:wO (dAdd (.int i) (.int j) M) Q E=Q (.int (i+j)) M:=rfl
theorem Zsv:wO (dSub (.int i) (.int j) M) Q E=Q (.int (i-j)) M:=rfl
theorem ZB(h:Zq i j):wO (dMul (.int i) (.int j) M) Q E=Q (.int (i*j)) M:=by
 show wO (if Zq i j then _ else _) Q E=_
 rw[if_pos h];rfl
theorem Zsw(h: -(18446744073709551616)<i/\i<18446744073709551616):wO (dMul (.int i) (.int j) M) Q E=Q (.int (i*j)) M:=ZB (Zec h)
theorem ZpL(h: -(18446744073709551616)<j/\j<18446744073709551616):wO (dMul (.int i) (.int j) M) Q E=Q (.int (i*j)) M:=ZB (Zdk h)
theorem Zsx(h:0<j/\j<18446744073709551616):wO (dDiv (.int i) (.int j) M) Q E=Q (.int (i/j)) M:=by
 show wO (if Zaz j then _ else _) Q E=_
 rw[if_pos (Zed h),jH _ ⋯];rfl
theorem Zsy(h:0<j):wO (dMod (.int i) (.int j) M) Q E=Q (.int (i%j)) M:=by
 show wO (if j≠0 then _ else _) Q E=_
 rw[if_pos ⋯,jG _ ⋯];rfl
theorem Zsz(h:0<=j/\j<=1000000/\i.natAbs<18446744073709551616):wO (dPow (.int i) (.int j) M) Q E=Q (.int (i^j.toNat)) M:=by
 show wO (if 0<=j/\j<=1000000/\i.natAbs<2^64 then _ else _) Q E=_
 rw[if_pos ⟨h.1,h.2.1,⋯⟩];rfl
theorem Zvy:wO (dLt (.int i) (.int j) M) Q E=Q (.bl (decide (i<j))) M:=rfl
theorem Zvz:wO (dLe (.int i) (.int j) M) Q E=Q (.bl (decide (i<=j))) M:=rfl
theorem ZvA:wO (dGt (.int i) (.int j) M) Q E=Q (.bl (decide (j<i))) M:=rfl
theorem ZvB:wO (dGe (.int i) (.int j) M) Q E=Q (.bl (decide (j<=i))) M:=rfl
theorem ZsA:wO (dAdd (.ref n) (.ref m) M) Q E=wL M[n]? λxs=>wL M[m]? λys=>xs.length+ys.length<=10000000/\Q (.ref M.length) (M++[.lst (xs++ys)]):=by
 show wO (match M[n]?,M[m]? with|some (.lst xs),some (.lst ys)=>_|_,_=>_) Q E=_
 cases e1:M[n]? with
 |none=>rfl
 |some o=>
  cases o with
  |lst xs=>
   cases e2:M[m]? with
   |none=>rfl
   |some p=>
    cases p with
    |lst ys=>
     by_cases h:xs.length+ys.length<=10000000
     .simp[wL,h,wO]
     .simp[wL,h,wO]
theorem ZvC:wO (dEq x y M) Q E=wG (eqF 12 M x y) λb=>Q (.bl b) M:=by
 show wO (match eqF 12 M x y with|some b=>_|none=>_) Q E=_
 cases eqF 12 M x y<;>rfl
theorem ZvD:wO (dNe x y M) Q E=wG (eqF 12 M x y) λb=>Q (.bl (!b)) M:=by
 show wO (match eqF 12 M x y with|some b=>_|none=>_) Q E=_
 cases eqF 12 M x y<;>rfl
theorem ZvE:wO (dIs x y M) Q E=wG (isP x y) λb=>Q (.bl b) M:=by
 show wO (match isP x y with|some b=>_|none=>_) Q E=_
 cases isP x y<;>rfl
theorem ZsB:wO (dIsNot x y M) Q E=wG (isP x y) λb=>Q (.bl (!b)) M:=by
 show wO (match isP x y with|some b=>_|none=>_) Q E=_
 cases isP x y<;>rfl
theorem Zm3:wO (atD xs i M) Q E=wG (atI xs i) λd=>Q d M:=by
 unfold atD;cases atI xs i<;>rfl
theorem ZsC:wO (dIx (.tup xs) (.int i) M) Q E=wG (atI xs i) λd=>Q d M:=Zm3
theorem ZsD:wO (dIx (.rol xs) (.int i) M) Q E=wG (atI xs i) λd=>Q d M:=Zm3
theorem ZsE:wO (dIx (.ref n) (.int i) M) Q E=wL M[n]? λxs=>wG (atI xs i) λd=>Q d M:=by
 show wO (match M[n]? with|some (.lst xs)=>atD xs i M|_=>.bad) Q E=_
 cases e1:M[n]? with
 |none=>rfl
 |some o=>cases o with|lst xs=>exact Zm3
theorem ZpM:wO (bLen [.ref n] M) Q E=wL M[n]? λxs=>Q (.int xs.length) M:=by
 show wO (match(match M[n]? with|some (.lst xs)=>some xs|_=>none)with|some xs=>_|none=>_) Q E=_
 cases e1:M[n]? with
 |none=>rfl
 |some o=>cases o with|lst xs=>rfl
theorem ZpN:wO (bLen [.tup xs] M) Q E=Q (.int xs.length) M:=rfl
theorem ZpO:wO (bLen [.rol xs] M) Q E=Q (.int xs.length) M:=rfl
theorem ZsF:wO (bAbs [.int i] M) Q E=Q (.int (i.natAbs:Int)) M:=by rw[<-Zim];rfl
theorem ZsG:wO (bMax [.int i,.int j] M) Q E=Q (.int (max i j)) M:=by
 have:max i j=if j>i then j else i:=by split<;>lia
 rw[this];rfl
theorem ZsH:wO (bMin [.int i,.int j] M) Q E=Q (.int (min i j)) M:=by
 have:min i j=if j<i then j else i:=by split<;>lia
 rw[this];rfl
theorem ZpP:wO (bInt [.bl k] M) Q E=Q (.int (if k then 1 else 0)) M:=rfl
theorem ZpQ:wO (bInt [.int i] M) Q E=Q (.int i) M:=rfl
theorem Zm4:wO (bList [.ref n] M) Q E=wL M[n]? λxs=>Q (.ref M.length) (M++[.lst xs]):=by
 show wO (match(match M[n]? with|some (.lst xs)=>some xs|_=>none)with|some xs=>_|none=>_) Q E=_
 cases e1:M[n]? with
 |none=>rfl
 |some o=>cases o with|lst xs=>rfl
theorem Zm5:wO (bList [.tup xs] M) Q E=Q (.ref M.length) (M++[.lst xs]):=rfl
theorem ZsI:wO (bAll [.ref n] M) Q E=wL M[n]? λxs=>wG (Zap xs) λbs=>Q (.bl (bs.all id)) M:=by
 show wO (match M[n]? with|some (.lst xs)=>(match Zap xs with|some bs=>Out.ok (.bl (bs.all id)) M|none=>.bad)|none=>.bad) Q E=_
 cases e1:M[n]? with
 |none=>rfl
 |some o=>
  cases o with
  |lst xs=>
   show wO (match Zap xs with|some bs=>Out.ok (.bl (bs.all id)) M|none=>.bad) Q E=wG (Zap xs) _
   cases Zap xs<;>rfl
theorem ZpR:wO (ZbF g [.ref n] M) Q E=wL M[n]? λxs=>wG (Zbf xs) λns=>wG (g ns) λi=>Q (.int i) M:=by
 show wO (match(match M[n]? with|some (.lst xs)=>some xs|_=>none)with|some xs=>(match Zbf xs with|some ns=>(match g ns with|some i=>Out.ok (.int i) M|none=>.bad)|none=>.bad)|none=>.bad) Q E=_
 cases e1:M[n]? with
 |none=>rfl
 |some o=>
  cases o with
  |lst xs=>
   show wO (match Zbf xs with|some ns=>(match g ns with|some i=>Out.ok (.int i) M|none=>.bad)|none=>.bad) Q E=wG (Zbf xs) _
   cases Zbf xs with
   |none=>rfl
   |some ns=>
    show wO (match g ns with|some i=>Out.ok (.int i) M|none=>.bad) Q E=wG (g ns) _
    cases g ns<;>rfl
theorem ZvF:wO (Zmm g fo fs ρ M) Q E=wO (fo ρ M) (λx M1=>Zml x M1=true/\wO (fs ρ M1) (λds M2=>wO (g x ds M2) Q E) E) E:=by
 unfold Zmm;rw[ZC];congr 1;funext x M1;by_cases h:Zml x M1=true
 .simp only[h,if_true,true_and];rw[ZC]
 .simp[h,wO]
theorem ZpS:Zml (.ref n) M=M[n]?.isSome:=rfl
theorem ZsJ:wO (mApp (.ref n) [d] M) Q E=wL M[n]? λxs=>xs.length<10000000/\Q .non (M.set n (.lst (xs++[d]))):=by
 show wO (match M[n]? with|some (.lst xs)=>if xs.length<10000000 then _ else _|none=>_) Q E=_
 cases e1:M[n]? with
 |none=>rfl
 |some o=>
  cases o with
  |lst xs=>
   by_cases h:xs.length<10000000
   .simp[wL,h,wO]
   .simp[wL,h,wO]
theorem ZsK:wO (mExt (.ref n) [.ref m] M) Q E=wL M[n]? λxs=>wL M[m]? λys=>xs.length+ys.length<=10000000/\Q .non (M.set n (.lst (xs++ys))):=by
 show wO (match M[n]?,M[m]? with|some (.lst xs),some (.lst ys)=>if xs.length+ys.length<=10000000 then _ else _|_,_=>_) Q E=_
 cases e1:M[n]? with
 |none=>rfl
 |some o=>
  cases o with
  |lst xs=>
   cases e2:M[m]? with
   |none=>rfl
   |some p=>
    cases p with
    |lst ys=>
     by_cases h:xs.length+ys.length<=10000000
     .simp[wL,h,wO]
     .simp[wL,h,wO]
def slR(x:D)(l u:Option Int)(M3:Sto):Out D:=match x with
 |.ref n=>(match M3[n]? with|some (.lst xs)=>.ok (.ref M3.length) (M3++[.lst (ZeD xs l u)])|none=>.bad)
 |.rol xs=>.ok (.ref M3.length) (M3++[.lst (ZeD xs l u)])
 |.tup xs=>if HT.sIx xs.length 0 l=0/\HT.sIx xs.length xs.length u=xs.length then .bad else .ok (.tup (ZeD xs l u)) M3
 |_=>.bad
theorem ZsL:wO (eSl f lo hi ρ M) Q E=wO (f ρ M) (λx M1=>wO (lo ρ M1) (λl M2=>wO (hi ρ M2) (λu M3=>wO (slR x l u M3) Q E) E) E) E:=by
 unfold eSl;rw[ZC];congr 1;funext x M1;rw[ZC];congr 1;funext l M2;rw[ZC];congr 1
theorem ZsM:wO (slR (.ref n) l u M) Q E=wL M[n]? λxs=>Q (.ref M.length) (M++[.lst (ZeD xs l u)]):=by
 unfold slR;cases e1:M[n]? with
 |none=>simp only[e1];rfl
 |some o=>cases o with|lst xs=>simp only[e1];rfl
theorem ZsN:wO (oSo f ρ M) Q E=wO (f ρ M) (λx M1=>wI x λi=>Q (some i) M1) E:=by
 unfold oSo;rw[ZC];congr 1;funext x M1;cases x<;>rfl
theorem ZpT(h:0<=i):ZeD xs none (some i)=xs.take i.toNat:=by
 unfold ZeD;simp only[HT.sIx];rw[if_neg ⋯,lM,Nat.sub_zero]
 by_cases c:i.toNat<=xs.length
 .rw[hU c]
 .rw[Nat.min_eq_right ⋯,cu (af _),cu ⋯]
theorem Zkg(h:0<=i):ZeD xs (some i) none=xs.drop i.toNat:=by
 unfold ZeD;simp only[HT.sIx];rw[if_neg ⋯]
 by_cases c:i.toNat<=xs.length
 .rw[hU c,cu (by simp)]
 .rw[Nat.min_eq_right ⋯,d8 (af _),d8 ⋯,List.take_nil]
theorem Zkh{L:Sto}:(M++L)[M.length]?=L[0]?:=by rw[aK (af _),fQ]
theorem Zry{L:Sto}:(M++L)[M.length+i]?=L[i]?:=by rw[aK ⋯];congr 1;lia
theorem ZbZ{L:Sto}(h:n<M.length):(M++L)[n]?=M[n]?:=aC h
theorem Zlb{L:Sto}:(M++L).set M.length o=M++L.set 0 o:=by rw[List.set_append_right _ _ (af _),fQ]
theorem Zlc(h:n<M.length):(M.set n o)[n]?=some o:=aT h
theorem Zt(h:M[n]?=some o):n<M.length:=(aq.mp h).1
noncomputable abbrev pr(x y:Int):D:=.tup [.int x,.int y]
def prs(rs:List (Int×Int)):List D:=rs.map λp=>pr p.1 p.2
def nts(ns:List Int):List D:=ns.map D.int
theorem ZG:(prs rs).length=rs.length:=au _
theorem ZaM:(nts rs).length=rs.length:=au _
theorem Zm6:prs a++prs b=prs (a++b):=(c6).symm
theorem Zm7:nts a++nts b=nts (a++b):=(c6).symm
theorem Zki:(prs a).take n=prs (a.take n):=kc.symm
theorem Zkj:(prs a).drop n=prs (a.drop n):=mC.symm
theorem Zkk:(nts a).take n=nts (a.take n):=kc.symm
theorem Zkl:(nts a).drop n=nts (a.drop n):=mC.symm
theorem Zkm:pr a b::prs r=prs ((a,b)::r):=rfl
theorem Zm8:(nts a).set n (.int b)=nts (a.set n b):=by unfold nts;rw[List.map_set]
noncomputable def cy(rs:List (Int×Int))(i:Int):Int×Int:=rs.getD (i%rs.length).toNat (0,0)
noncomputable def cn(rs:List Int)(i:Int):Int:=rs.getD (i%rs.length).toNat 0
theorem Ziq{n:Nat}(h: -(n:Int)<=i/\i<n):ixN n i=some (i%n).toNat:=by
 unfold ixN;by_cases c:0<=i
 .rw[if_pos c,if_pos h.2,fv c h.2]
 .rw[if_neg c,if_pos h.1]
  have:i%n=i+n:=by
   rw[<-Int.add_emod_right,fv ⋯ ⋯]
  rw[this]
theorem ZfU(h: -(rs.length:Int)<=i/\i<rs.length):atI (prs rs) i=some (pr (cy rs i).1 (cy rs i).2):=by
 unfold atI;rw[ZG,Ziq h];have hp:(i%rs.length).toNat<rs.length:=by
  have:=c9 i (show(0:Int)<rs.length by lia)
  have:=dZ i (show(rs.length:Int)≠0 by lia)
  lia
 simp[prs,cy,ae hp]
theorem Zld(h: -(rs.length:Int)<=i/\i<rs.length):atI (nts rs) i=some (.int (cn rs i)):=by
 unfold atI;rw[ZaM,Ziq h];have hp:(i%rs.length).toNat<rs.length:=by
  have:=c9 i (show(0:Int)<rs.length by lia)
  have:=dZ i (show(rs.length:Int)≠0 by lia)
  lia
 simp[nts,cn,ae hp]
theorem Zct:cy rs (i%rs.length)=cy rs i:=by unfold cy;rw[lP _ (Int.dvd_refl _)]
theorem ZpU:cy rs (i+rs.length)=cy rs i:=by unfold cy;rw[Int.add_emod_right]
theorem Zee:cy rs (i-rs.length)=cy rs i:=by unfold cy;rw[Int.sub_emod_right]
theorem Zad{rs:List (Int×Int)}(h:k<rs.length):cy rs k=rs[k]:=by
 unfold cy;rw[fv ⋯ ⋯]
 simp[ae h]
theorem Za4{rs:List Int}(h:k<rs.length):cn rs k=rs[k]:=by
 unfold cn;rw[fv ⋯ ⋯]
 simp[ae h]
theorem ZsO:eqF (n+1) M (.int a) (.int b)=some (decide (a=b)):=rfl
theorem ZvG:eqF (n+1) M (.bl a) (.bl b)=some (a==b):=rfl
theorem ZsP:eqF (n+2) M (pr a b) (pr c d)=some (decide ((a,b)=(c,d))):=by
 show some ((a==c)&&((b==d)&&true))=_;congr 1;rw[i7];simp
theorem ZpV:eqL (eqF (n+2) M) (prs rs) (prs ss)=some (decide (rs=ss)):=by
 induction rs generalizing ss with
 |nil=>cases ss<;>rfl
 |cons r rs ih=>
  cases ss with
  |nil=>rfl
  |cons s ss=>
   show(match eqF (n+2) M (pr r.1 r.2) (pr s.1 s.2)with|some a=>(match eqL _ (prs rs) (prs ss)with|some b=>some (a&&b)|none=>none)|none=>none)=_
   rw[ZsP,ih];simp only[];congr 1;rw[i7];obtain⟨r1,r2⟩:=r;obtain⟨s1,s2⟩:=s;simp
theorem ZpW(h1:M[n]?=some (.lst xs))(h2:M[m]?=some (.lst ys)):eqF (k+1) M (.ref n) (.ref m)=if xs.length=ys.length then eqL (eqF k M) xs ys else some false:=by
 show(match kd M (.ref n),kd M (.ref m)with|some a,some b=>eqK (eqF k M) a b|_,_=>none)=_
 have e1:kd M (.ref n)=some (.lst xs):=by show(match M[n]? with|some (.lst xs)=>some (Kd.lst xs)|_=>none)=_;rw[h1]
 have e2:kd M (.ref m)=some (.lst ys):=by show(match M[m]? with|some (.lst xs)=>some (Kd.lst xs)|_=>none)=_;rw[h2]
 rw[e1,e2];rfl
theorem ZpX(h1:M[n]?=some (.lst (prs rs)))(h2:M[m]?=some (.lst (prs ss))):eqF 12 M (.ref n) (.ref m)=some (decide (rs=ss)):=by
 rw[ZpW h1 h2,ZG,ZG];by_cases c:rs.length=ss.length
 .rw[if_pos c,ZpV]
 .rw[if_neg c];congr 1
  symm
  exact decide_eq_false λz=>c (by rw[z])
theorem ZpY:ZaX M (.int i)=some "int":=rfl
theorem ZsQ:ZaX M (.bl b)=some "bool":=rfl
theorem ZpZ:ZaX M (.tup xs)=some "tuple":=rfl
theorem Zp0:ZaX M .non=some "NoneType":=rfl
end
end DL
namespace DL
open PyProof.Rows L2
section
variable {xs:List D}{tg:Tg}
theorem Zm9:wS (ZdU tg fs bd ρ M) N R B C E=wO (fs ρ M) (λds M1=>w2 ds λx y=>wI x λi=>wI y λj=>(-(2^62)<=i/\i<2^62/\ -(2^62)<=j/\j<2^62)/\wS (Zbe tg bd (Zbh i (j-i).toNat) ρ M1) N R B C E) E:=by
 unfold ZdU;rw[ZU];congr 1;funext ds M1;rcases ds with _|⟨v,_|⟨w,_|⟨w',r⟩⟩⟩
 .rfl
 .cases v<;>rfl
 .cases v<;>try rfl
  cases w<;>try rfl
  rename_i i j;by_cases h: -(2^62)<=i/\i<2^62/\ -(2^62)<=j/\j<2^62
  .simp only[w2,wI,eq_true h,true_and,if_true]
  .simp only[w2,wI,eq_false h,false_and,if_false];rfl
 .cases v<;>cases w<;>rfl
theorem ZvH:wO (iR2 fs ρ M) QS E=wO (fs ρ M) (λds M1=>w2 ds λx y=>wI x λi=>wI y λj=>(-(2^62)<=i/\i<2^62/\ -(2^62)<=j/\j<2^62)/\QS (.pur (Zbh i (j-i).toNat)) M1) E:=by
 unfold iR2;rw[ZC];congr 1;funext ds M1;rcases ds with _|⟨v,_|⟨w,_|⟨w',r⟩⟩⟩
 .rfl
 .cases v<;>rfl
 .cases v<;>try rfl
  cases w<;>try rfl
  rename_i i j;by_cases h: -(2^62)<=i/\i<2^62/\ -(2^62)<=j/\j<2^62
  .simp only[w2,wI,eq_true h,true_and,if_true,Zm]
  .simp only[w2,wI,eq_false h,false_and,if_false];rfl
 .cases v<;>cases w<;>rfl
theorem ZvI:wO (iEn fs ρ M) QS E=wO (fs ρ M) (λds M1=>w1 ds λd=>wR d λn=>QS (.enu n) M1) E:=by
 unfold iEn;rw[ZC];congr 1;funext ds M1;rcases ds with _|⟨v,_|⟨w,r⟩⟩<;>try rfl
 .cases v<;>rfl
 .cases v<;>rfl
theorem ZvJ:wO (iZp fs ρ M) QS E=wO (fs ρ M) (λds M1=>w2 ds λx y=>wR x λn=>wR y λm=>QS (.zip n m) M1) E:=by
 unfold iZp;rw[ZC];congr 1;funext ds M1;rcases ds with _|⟨v,_|⟨w,_|⟨w',r⟩⟩⟩<;>try rfl
 .cases v<;>rfl
 .cases v<;>cases w<;>rfl
 .cases v<;>cases w<;>rfl
noncomputable def Zna(Q:W0)(ρ:Ro)(M:Sto):Prop:=Q .non M
theorem wF1:wO (fnF bd 1 k [x] M) Q E=wS (bd (some x::bf k none) M) (Zna Q) Q (λ_ _=>False) (λ_ _=>False) E:=wF rfl
theorem wF2:wO (fnF bd 2 k [x,y] M) Q E=wS (bd (some x::some y::bf k none) M) (Zna Q) Q (λ_ _=>False) (λ_ _=>False) E:=wF rfl
theorem wF3:wO (fnF bd 3 k [x,y,z] M) Q E=wS (bd (some x::some y::some z::bf k none) M) (Zna Q) Q (λ_ _=>False) (λ_ _=>False) E:=wF rfl
theorem wF4:wO (fnF bd 4 k [x,y,z,d] M) Q E=wS (bd (some x::some y::some z::some d::bf k none) M) (Zna Q) Q (λ_ _=>False) (λ_ _=>False) E:=wF rfl
theorem Zkn:prs a++[pr b c]=prs (a++[(b,c)]):=by simp[prs]
theorem Zko:nts a++[D.int b]=nts (a++[b]):=by simp[nts]
theorem Zkp:D.int b::nts r=nts (b::r):=rfl
theorem ZsR:isP .non .non=some true:=rfl
theorem ZsS:isP (.int i) .non=some false:=rfl
theorem ZsT:isP (.tup xs) .non=some false:=rfl
theorem ZsU:isP (.ref n) .non=some false:=rfl
theorem Zdl(h:M[n]?=some (.lst xs)):cnt (.sto n) M=xs.length:=by show(match M[n]? with|some (.lst xs)=>xs.length|none=>0)=_;rw[h]
theorem Znb(h:M[n]?=some (.lst xs)):cnt (.enu n) M=xs.length:=by show(match M[n]? with|some (.lst xs)=>xs.length|none=>0)=_;rw[h]
theorem ZeT(h:M[n]?=some (.lst xs)):cnt (.zip n m) M=xs.length:=by show(match M[n]? with|some (.lst xs)=>xs.length|none=>0)=_;rw[h]
theorem at2{r:List D}:atI (x::y::z::r) 2=some z:=by
 show(ixN (r.length+3) 2).bind _=_;unfold ixN;rw[if_pos (by decide),if_pos ⋯]
 rfl
theorem at3{r:List D}:atI (x::y::z::d::r) 3=some d:=by
 show(ixN (r.length+4) 3).bind _=_;unfold ixN;rw[if_pos (by decide),if_pos ⋯]
 rfl
theorem Zp1:Zb2 "int" "int"=true:=rfl
theorem Zp2:Zb2 "int" "bool"=false:=rfl
theorem Zp3:Zb2 "bool" "int"=true:=rfl
theorem Zp4:Zb2 "bool" "bool"=true:=rfl
theorem Zp5:Zb2 "tuple" "tuple"=true:=rfl
theorem Zp6:Zb2 "list" "list"=true:=rfl
theorem Zp7:Zb2 "tuple" "int"=false:=rfl
theorem Zp8:Zb2 "tuple" "list"=false:=rfl
theorem Zp9:Zb2 "list" "tuple"=false:=rfl
theorem Zqa:Zb2 "list" "int"=false:=rfl
theorem Zqb:Zb2 "NoneType" "tuple"=false:=rfl
theorem Zqc:Zb2 "NoneType" "list"=false:=rfl
theorem Zqd(h:M[n]?=some (.lst xs)):nxt (.enu n) k M=some ((xs[k]?).map λd=>D.tup [.int k,d]):=by
 show(match M[n]? with|some (.lst xs)=>(match xs[k]? with|some x=>some (some (D.tup [.int k,x]))|none=>some none)|none=>none)=_
 rw[h];simp only[];cases xs[k]?<;>rfl
theorem Zef(h:M[n]?=some (.lst xs)):nxt (.sto n) k M=some xs[k]?:=by
 show(match M[n]? with|some (.lst xs)=>some xs[k]?|none=>none)=_
 rw[h]
theorem Zqe(I:Nat->Ro->Sto->Prop)(hM:M[n]?=some (.lst xs))(h0:I 0 ρ M)(hm:∀i ρ M,I i ρ M->M[n]?=some (.lst xs))(st:∀(i:Nat) ρ M (h:i<xs.length),I i ρ M->wG (tg (.tup [.int i,xs[i]]) ρ) λr=>wS (bd r M) (I (i+1)) R N (I (i+1)) E)(hn:∀ρ M,I xs.length ρ M->N ρ M):wS (ZeE tg bd (.enu n) (cnt (.enu n) M) 0 ρ M) N R B C E:=by
 rw[Znb hM];have hl:(xs.mapIdx λ(k:Nat) d=>D.tup [.int k,d]).length=xs.length:=by simp
 refine Zla I (xs:=xs.mapIdx λ(k:Nat) d=>D.tup [.int k,d]) _ 0 ρ M (by simp) (by simp) h0 (λi ρ M _ hI=>?_) (λi ρ M h hI=>?_) (λρ M hI=>hn ρ M (by rw[hl]at hI;exact hI))
 .rw[Zqd (hm _ _ _ hI),List.getElem?_mapIdx]
 .rw[List.getElem_mapIdx];exact st i ρ M (by rw[hl]at h;exact h) hI
theorem Zir(h:M[n]?=some (.lst xs))(h':M[m]?=some (.lst ys)):nxt (.zip n m) k M=some ((bY (λa b=>D.tup [a,b]) xs ys)[k]?):=by
 show(match M[n]?,M[m]? with|some (.lst xs),some (.lst ys)=>(match xs[k]?,ys[k]? with|some x,some y=>some (some (D.tup [x,y]))|_,_=>some none)|_,_=>none)=_
 rw[h,h',List.getElem?_zipWith];simp only[];cases xs[k]?<;>cases ys[k]?<;>rfl
theorem Zle(I:Nat->Ro->Sto->Prop)(hM:M[n]?=some (.lst xs))(hl:xs.length<=ys.length)(h0:I 0 ρ M)(hm:∀i ρ M,I i ρ M->M[n]?=some (.lst xs)/\M[m]?=some (.lst ys))(st:∀(i:Nat) ρ M (h:i<xs.length),I i ρ M->wG (tg (.tup [xs[i],ys[i]]) ρ) λr=>wS (bd r M) (I (i+1)) R N (I (i+1)) E)(hn:∀ρ M,I xs.length ρ M->N ρ M):wS (ZeE tg bd (.zip n m) (cnt (.zip n m) M) 0 ρ M) N R B C E:=by
 rw[ZeT hM];have hz:(bY (λa b=>D.tup [a,b]) xs ys).length=xs.length:=by simp;lia
 refine Zla I (xs:=bY (λa b=>D.tup [a,b]) xs ys) _ 0 ρ M (by simp) (by simp;lia) h0 (λi ρ M _ hI=>?_) (λi ρ M h hI=>?_) (λρ M hI=>hn ρ M (by rw[hz]at hI;exact hI))
 .rw[Zir (hm _ _ _ hI).1 (hm _ _ _ hI).2]
 .rw[gG];exact st i ρ M (by rw[hz]at h;exact h) hI
theorem Znc(Inv:Ro->Prop)(F:Nat->D){Q:Sto->Prop}(hl:xs.length<10000000)(hcnt:xs.length<=cnt src M)(h0:Inv ρ)(hs:∀(L:Sto)(i:Nat),i<=xs.length->nxt src i (M++L)=some xs[i]?)(st:∀(i:Nat)(h:i<xs.length)(ρ:Ro)(L:Sto),Inv ρ->wG (tg xs[i] ρ) λr=>Inv r/\wO (f r (M++L)) (λy M2=>y=F i/\M2=M++L) (λ_ _=>False))(hq:Q (M++[.lst ((aJ xs.length).map F)])):wO (ZfB src tg (λ_ M=>.ok true M) f M.length (cnt src M) 0 ρ (M++[.lst []])) (λ_ M2=>Q M2) (λ_ _=>False):=by
 refine ZfT (λi ρ M'=>Inv ρ/\M'=M++[.lst ((aJ i).map F)]) (xs:=xs) _ 0 ρ _ (by simp) ⋯ ⟨h0,rfl⟩ (λi ρ M' hi hI=>by rw[hI.2];exact hs _ i hi) (λi ρ M' h hI=>?_) (λρ M' hI=>by rw[hI.2];exact hq)
 obtain⟨hI,rfl⟩:=hI;have s:=st i h ρ [.lst ((aJ i).map F)] hI;cases e:tg xs[i] ρ with
 |none=>rw[e]at s;exact s.elim
 |some r=>
  rw[e]at s;obtain⟨hr,s⟩:=s;show Br true _ _;rw[ZnS];refine Zcs s (λy M2 ⟨h1,h2⟩=>?_) (λ_ _ z=>z);subst h1 h2;rw[Zkh];refine⟨by simp;lia,hr,?_⟩
  rw[Zlb,la,c6];rfl
theorem ZeU{lo:Int}:(Zbh lo n).length=n:=by simp[Zbh]
theorem Znd{lo:Int}(h:k<(Zbh lo n).length):(Zbh lo n)[k]=.int (lo+k):=by simp[Zbh]
theorem ZeV:(aJ n).map (λi=>D.int (F i))=nts ((aJ n).map F):=by simp[nts]
end
end DL
namespace DL
open PyProof.Rows L2
section
variable {E:W2}{N B C:W1}{R:W0}{ρ:Ro}{M:Sto}{xs:List D}{a bd:Sv}
def kU{β:Type}(u:β->Sto->Out γ)(Q:γ->Sto->Prop)(E:W2)(x:β)(M:Sto):Prop:=wO (u x M) Q E
noncomputable def kQ{β γ:Type}(Q:γ->Sto->Prop)(c:β->γ)(M:Sto)(x:β):Prop:=Q (c x) M
def kB2(op:Bo)(x:D)(Q:W0)(E:W2)(y:D)(M:Sto):Prop:=wO (op x y M) Q E
def kB1(op:Bo)(g:Ev)(ρ:Ro)(Q:W0)(E:W2)(x:D)(M:Sto):Prop:=wO (g ρ M) (kB2 op x Q E) E
theorem ZvK:wO (e2 op f g ρ M) Q E=wO (f ρ M) (kB1 op g ρ Q E) E:=Zst
theorem y_c:wO (eC d ρ M) Q E=Q d M:=rfl
theorem y_v:wO (Zf k ρ M) Q E=wV ρ[k]? (kQ Q id M):=Zvx
theorem Zqf:wO (Zj F fs ρ M) Q E=wO (fs ρ M) (kU F Q E) E:=ZmV
noncomputable def kA2(x:D)(Q:List D->Sto->Prop)(xs:List D)(M:Sto):Prop:=Q (x::xs) M
def kA1(fs:Av)(ρ:Ro)(Q:List D->Sto->Prop)(E:W2)(x:D)(M:Sto):Prop:=wO (fs ρ M) (kA2 x Q) E
theorem ZsV:wO (aNil ρ M) QL E=QL [] M:=rfl
theorem Zqg:wO (Zc f fs ρ M) QL E=wO (f ρ M) (kA1 fs ρ QL E) E:=ZmW
noncomputable def kTu(Q:W0)(xs:List D)(M:Sto):Prop:=xs.length<=1000/\Q (.tup xs) M
noncomputable def kLs(Q:W0)(xs:List D)(M:Sto):Prop:=xs.length<=1000/\Q (.ref M.length) (M++[.lst xs])
theorem ZsW:wO (Z7 fs ρ M) Q E=wO (fs ρ M) (kTu Q) E:=ZpC
theorem ZsX:wO (ZbS fs ρ M) Q E=wO (fs ρ M) (kLs Q) E:=ZpD
noncomputable def Zuf(x:D)(M:Sto):Out D:=match x with|.int i=>.ok (.int (-i)) M|_=>.bad
theorem ZsY:wO (Zch f ρ M) Q E=wO (f ρ M) (kU Zuf Q E) E:=by unfold Zch;exact ZC
theorem Zqh:wO (Zuf (.int i) M) Q E=Q (.int (-i)) M:=rfl
def ZsZ(T:String)(x:D)(M:Sto):Out D:=match ZaX M x with|some t=>.ok (.bl (Zb2 t T)) M|none=>.bad
theorem Zs0:wO (ZnL T f ρ M) Q E=wO (f ρ M) (kU (ZsZ T) Q E) E:=by unfold ZnL;exact ZC
def kTy(T:String)(Q:W0)(M:Sto)(t:String):Prop:=Q (.bl (Zb2 t T)) M
theorem Zqi:wO (ZsZ T x M) Q E=wG (ZaX M x) (kTy T Q M):=by unfold ZsZ;cases ZaX M x<;>rfl
noncomputable def tC(b:Bool):Tv:=λ_ M=>.ok b M
def BrO(k:Bool)(f g:Ro->Sto->Out β)(ρ:Ro)(M:Sto)(Q:β->Sto->Prop)(E:W2):Prop:=wO ((if k=true then f else g) ρ M) Q E
theorem ZvL{fO gO:Ro->Sto->Out β}{QO:β->Sto->Prop}:BrO true fO gO ρ M QO E=wO (fO ρ M) QO E:=rfl
theorem ZvM{fO gO:Ro->Sto->Out β}{QO:β->Sto->Prop}:BrO false fO gO ρ M QO E=wO (gO ρ M) QO E:=rfl
theorem brO{β:Type}{fO gO:Ro->Sto->Out β}{QO:β->Sto->Prop}{p:Prop}[Decidable p](h1:p->wO (fO ρ M) QO E)(h2:¬p->wO (gO ρ M) QO E):BrO (decide p) fO gO ρ M QO E:=by
 by_cases h:p
 .rw[decide_eq_true h];exact h1 h
 .rw[decide_eq_false h];exact h2 h
theorem ZvN{fO gO:Ro->Sto->Out β}{QO:β->Sto->Prop}(P:β->Sto->Prop)(h:BrO b fO gO ρ M P E)(hn:∀x M,P x M->QO x M):BrO b fO gO ρ M QO E:=by
 cases b
 .exact Zcs h hn (λ_ _ z=>z)
 .exact Zcs h hn (λ_ _ z=>z)
def Zug(g:Ev)(ρ:Ro)(x:D)(M:Sto):Out D:=match x with|.bl k=>if k=true then g ρ M else .ok (.bl false) M|_=>.bad
def Zuh(x:D)(M:Sto):Out D:=match x with|.bl k=>.ok (.bl (!k)) M|_=>.bad
def oTv(x:D)(M:Sto):Out Bool:=match x with|.bl k=>.ok k M|_=>.bad
theorem Zs1:wO (Zhb f g ρ M) Q E=wO (f ρ M) (kU (Zug g ρ) Q E) E:=by unfold Zhb;exact ZC
theorem Zs2:wO (Zhc f ρ M) Q E=wO (f ρ M) (kU Zuh Q E) E:=by unfold Zhc;exact ZC
theorem Zqj:wO (Zug g ρ (.bl b) M) Q E=BrO b g (eC (.bl false)) ρ M Q E:=by cases b<;>rfl
theorem Zqk:wO (Zuh (.bl b) M) Q E=Q (.bl (!b)) M:=rfl
theorem ZvO:wO (tv f ρ M) QB E=wO (f ρ M) (kU oTv QB E) E:=by unfold tv;exact ZC
theorem Zs3:wO (oTv (.bl b) M) QB E=QB b M:=rfl
def kTA(u:Tv)(ρ:Ro)(Q:Bool->Sto->Prop)(E:W2)(k:Bool)(M:Sto):Prop:=BrO k u (tC false) ρ M Q E
def kTO(u:Tv)(ρ:Ro)(Q:Bool->Sto->Prop)(E:W2)(k:Bool)(M:Sto):Prop:=BrO k (tC true) u ρ M Q E
noncomputable def kTN(Q:Bool->Sto->Prop)(k:Bool)(M:Sto):Prop:=Q (!k) M
theorem ZvP:wO (tC b ρ M) QB E=QB b M:=rfl
theorem Zql:wO (Zcf t u ρ M) QB E=wO (t ρ M) (kTA u ρ QB E) E:=by unfold Zcf;rw[ZC];congr 1;funext k M1;cases k<;>rfl
theorem Zs4:wO (Zg9 t u ρ M) QB E=wO (t ρ M) (kTO u ρ QB E) E:=by unfold Zg9;rw[ZC];congr 1;funext k M1;cases k<;>rfl
theorem Zqm:wO (ZdK t ρ M) QB E=wO (t ρ M) (kTN QB) E:=ZpE
def kSq(b:Sv)(N:W1)(R:W0)(B C:W1)(E:W2)(ρ:Ro)(M:Sto):Prop:=wS (b ρ M) N R B C E
theorem Zs5:wS (ZI a bd ρ M) N R B C E=wS (a ρ M) (kSq bd N R B C E) R B C E:=ZpF
theorem Zqn:wS (sNil ρ M) N R B C E=N ρ M:=rfl
theorem Zs6:wS (sBrk ρ M) N R B C E=B ρ M:=rfl
theorem Zs7:wS (Zal f ρ M) N R B C E=wO (f ρ M) R E:=ZpG
theorem Zqo:wS (ZoP ρ M) N R B C E=R .non M:=rfl
noncomputable def kDr(ρ:Ro)(N:W1)(d:D)(M:Sto):Prop:=N ρ M
theorem Zqp:wS (ZdR f ρ M) N R B C E=wO (f ρ M) (kDr ρ N) E:=ZmX
def BrS(k:Bool)(a b:Sv)(ρ:Ro)(M:Sto)(N:W1)(R:W0)(B C:W1)(E:W2):Prop:=wS ((if k=true then a else b) ρ M) N R B C E
theorem ZvQ:BrS true a bd ρ M N R B C E=wS (a ρ M) N R B C E:=rfl
theorem ZvR:BrS false a bd ρ M N R B C E=wS (bd ρ M) N R B C E:=rfl
theorem brS{p:Prop}[Decidable p](h1:p->wS (a ρ M) N R B C E)(h2:¬p->wS (bd ρ M) N R B C E):BrS (decide p) a bd ρ M N R B C E:=by
 by_cases h:p
 .rw[decide_eq_true h];exact h1 h
 .rw[decide_eq_false h];exact h2 h
theorem ZvS(h1:b=true->wS (a ρ M) N R B C E)(h2:b=false->wS (bd ρ M) N R B C E):BrS b a bd ρ M N R B C E:=by
 cases b
 .exact h2 rfl
 .exact h1 rfl
theorem Zui(P:W1)(h:BrS b a bd ρ M P R B C E)(hn:∀ρ M,P ρ M->N ρ M):BrS b a bd ρ M N R B C E:=by
 cases b
 .exact Zin h hn (λ_ _ z=>z) (λ_ _ z=>z) (λ_ _ z=>z) (λ_ _ z=>z)
 .exact Zin h hn (λ_ _ z=>z) (λ_ _ z=>z) (λ_ _ z=>z) (λ_ _ z=>z)
def kSi(a b:Sv)(ρ:Ro)(N:W1)(R:W0)(B C:W1)(E:W2)(k:Bool)(M:Sto):Prop:=BrS k a b ρ M N R B C E
theorem Zs8:wS (sIf t a bd ρ M) N R B C E=wO (t ρ M) (kSi a bd ρ N R B C E) E:=by unfold sIf;rw[ZU];congr 1;funext k M1;cases k<;>rfl
noncomputable def kAs(i:Nat)(ρ:Ro)(N:W1)(d:D)(M:Sto):Prop:=N (ρ.set i (some d)) M
theorem Zs9:wS (ZM (gNm k) f ρ M) N R B C E=wO (f ρ M) (kAs k ρ N) E:=ZpH
def kAt(gs:Tgs)(ρ:Ro)(N:W1)(d:D)(M:Sto):Prop:=wG (gTp gs d ρ) (kQ N id M)
theorem Zqq:wS (ZM (gTp gs) f ρ M) N R B C E=wO (f ρ M) (kAt gs ρ N) E:=ZmY
noncomputable def Zuj(i j:Nat)(ρ:Ro)(N:W1)(M:Sto)(v w:D):Prop:=N ((ρ.set i (some v)).set j (some w)) M
def kPa(i j:Nat)(ρ:Ro)(N:W1)(ds:List D)(M:Sto):Prop:=w2 ds (Zuj i j ρ N M)
theorem Zta:wS (ZeA k m fs ρ M) N R B C E=wO (fs ρ M) (kPa k m ρ N) E:=ZpI
noncomputable def Zuk(n:Nat)(d:D)(xs:List D)(ρ:Ro)(N:W1)(M:Sto)(j:Nat):Prop:=N ρ (M.set n (.lst (xs.set j d)))
def Zul(n:Nat)(k:Int)(d:D)(ρ:Ro)(N:W1)(M:Sto)(xs:List D):Prop:=wG (ixN xs.length k) (Zuk n d xs ρ N M)
def Zum(n:Nat)(d:D)(ρ:Ro)(N:W1)(M:Sto)(k:Int):Prop:=wL M[n]? (Zul n k d ρ N M)
def Zun(i:D)(d:D)(ρ:Ro)(N:W1)(M:Sto)(n:Nat):Prop:=wI i (Zum n d ρ N M)
def Zuo(o:D)(d:D)(ρ:Ro)(N:W1)(i:D)(M:Sto):Prop:=wR o (Zun i d ρ N M)
def Zup(fi:Ev)(d:D)(ρ:Ro)(N:W1)(E:W2)(o:D)(M:Sto):Prop:=wO (fi ρ M) (Zuo o d ρ N) E
def kPu(fo fi:Ev)(ρ:Ro)(N:W1)(E:W2)(d:D)(M:Sto):Prop:=wO (fo ρ M) (Zup fi d ρ N E) E
theorem Ztb:wS (ZkR fo fi f ρ M) N R B C E=wO (f ρ M) (kPu fo fi ρ N E) E:=ZpJ
def Zuq(tg:Tg)(bd:Sv)(ρ:Ro)(N:W1)(R:W0)(B C:W1)(E:W2)(M:Sto)(j:Int):Prop:=(-(2^62)<=j/\j<2^62)/\wS (Zbe tg bd (Zbh 0 j.toNat) ρ M) N R B C E
def Zur(tg:Tg)(bd:Sv)(ρ:Ro)(N:W1)(R:W0)(B C:W1)(E:W2)(M:Sto)(d:D):Prop:=wI d (Zuq tg bd ρ N R B C E M)
def kR1(tg:Tg)(bd:Sv)(ρ:Ro)(N:W1)(R:W0)(B C:W1)(E:W2)(ds:List D)(M:Sto):Prop:=w1 ds (Zur tg bd ρ N R B C E M)
theorem Zqr:wS (Zbu tg fs bd ρ M) N R B C E=wO (fs ρ M) (kR1 tg bd ρ N R B C E) E:=ZmZ
def Zus(tg:Tg)(bd:Sv)(ρ:Ro)(N:W1)(R:W0)(B C:W1)(E:W2)(M:Sto)(i:Int)(j:Int):Prop:=(-(2^62)<=i/\i<2^62/\ -(2^62)<=j/\j<2^62)/\wS (Zbe tg bd (Zbh i (j-i).toNat) ρ M) N R B C E
def Zut(tg:Tg)(bd:Sv)(ρ:Ro)(N:W1)(R:W0)(B C:W1)(E:W2)(M:Sto)(y:D)(i:Int):Prop:=wI y (Zus tg bd ρ N R B C E M i)
def Zuu(tg:Tg)(bd:Sv)(ρ:Ro)(N:W1)(R:W0)(B C:W1)(E:W2)(M:Sto)(x y:D):Prop:=wI x (Zut tg bd ρ N R B C E M y)
def kR2(tg:Tg)(bd:Sv)(ρ:Ro)(N:W1)(R:W0)(B C:W1)(E:W2)(ds:List D)(M:Sto):Prop:=w2 ds (Zuu tg bd ρ N R B C E M)
theorem Zqs:wS (ZdU tg fs bd ρ M) N R B C E=wO (fs ρ M) (kR2 tg bd ρ N R B C E) E:=Zm9
def kFo(tg:Tg)(bd:Sv)(ρ:Ro)(N:W1)(R:W0)(B C:W1)(E:W2)(d:D)(M:Sto):Prop:=wS (ZkS tg bd d ρ M) N R B C E
theorem Ztc:wS (ZoR tg f bd ρ M) N R B C E=wO (f ρ M) (kFo tg bd ρ N R B C E) E:=ZpK
theorem Zqt:wS (ZkS tg bd (.tup xs) ρ M) N R B C E=wS (Zbe tg bd xs ρ M) N R B C E:=rfl
theorem Zqu:wS (ZkS tg bd (.rol xs) ρ M) N R B C E=wS (Zbe tg bd xs ρ M) N R B C E:=rfl
def kFs(tg:Tg)(bd:Sv)(ρ:Ro)(N:W1)(R:W0)(B C:W1)(E:W2)(src:Src)(M:Sto):Prop:=wS (ZeE tg bd src (cnt src M) 0 ρ M) N R B C E
theorem Zqv:wS (Zgr tg fi bd ρ M) N R B C E=wO (fi ρ M) (kFs tg bd ρ N R B C E) E:=Zm1
def hT(cs:List Str)(gh:Sv)(W:List Bool)(i:Nat)(ρ:Ro)(c:Str)(M:Sto):Fl:=if cs.contains c=true then(match gh ((kpR W ρ).set i (some (.err c (fsE c M)))) (stE c M)with|.ret d M2=>.ret d M2|.nx _ M2=>.nx (bf ρ.length none) M2|_=>.bad)else .bad
noncomputable def ZvT(Q:W0)(M1:Sto)(u:Unit)(M:Sto):Prop:=Q (.ref M1.length) M
def kCo(tg:Tg)(c:Tv)(f:Ev)(k:Nat)(fr:List Nat)(ρ:Ro)(Q:W0)(src:Src)(M:Sto):Prop:=wO (ZfB src tg c f M.length (cnt src M) 0 (roB k fr ρ) (M++[.lst []])) (ZvT Q M) (λ_ _=>False)
theorem Zqw:wO (Zaj fi k fr tg t f ρ M) Q E=wO (fi ρ M) (kCo tg t f k fr ρ Q) E:=Zm2
def Zuv(QS:Src->Sto->Prop)(M:Sto)(i:Int)(j:Int):Prop:=(-(2^62)<=i/\i<2^62/\ -(2^62)<=j/\j<2^62)/\QS (.pur (Zbh i (j-i).toNat)) M
def Zuw(QS:Src->Sto->Prop)(M:Sto)(y:D)(i:Int):Prop:=wI y (Zuv QS M i)
def Zux(QS:Src->Sto->Prop)(M:Sto)(x y:D):Prop:=wI x (Zuw QS M y)
def kS2(QS:Src->Sto->Prop)(ds:List D)(M:Sto):Prop:=w2 ds (Zux QS M)
theorem ZvU:wO (iR2 fs ρ M) QS E=wO (fs ρ M) (kS2 QS) E:=ZvH
noncomputable def oSq(d:D)(M:Sto):Out Src:=match d with|.tup ds=>.ok (.pur ds) M|.rol ds=>.ok (.pur ds) M|.con ds=>.ok (.pur ds) M|.ref n=>.ok (.sto n) M|_=>.bad
theorem ZvV:wO (iSq f ρ M) QS E=wO (f ρ M) (kU oSq QS E) E:=by unfold iSq;exact ZC
theorem Ztd:wO (oSq (.tup xs) M) QS E=QS (.pur xs) M:=rfl
theorem Zte:wO (oSq (.rol xs) M) QS E=QS (.pur xs) M:=rfl
theorem Ztf:wO (oSq (.ref n) M) QS E=QS (.sto n) M:=rfl
def Zuy(QS:Src->Sto->Prop)(M:Sto)(d:D):Prop:=wR d (kQ QS .enu M)
def kEn(QS:Src->Sto->Prop)(ds:List D)(M:Sto):Prop:=w1 ds (Zuy QS M)
theorem ZvW:wO (iEn fs ρ M) QS E=wO (fs ρ M) (kEn QS) E:=ZvI
def Zuz(QS:Src->Sto->Prop)(M:Sto)(y:D)(n:Nat):Prop:=wR y (kQ QS (.zip n) M)
def ZuA(QS:Src->Sto->Prop)(M:Sto)(x y:D):Prop:=wR x (Zuz QS M y)
def kZp(QS:Src->Sto->Prop)(ds:List D)(M:Sto):Prop:=w2 ds (ZuA QS M)
theorem ZvX:wO (iZp fs ρ M) QS E=wO (fs ρ M) (kZp QS) E:=ZvJ
noncomputable def Zqx(xs:List D)(M:Sto)(Q:W0)(ys:List D):Prop:=xs.length+ys.length<=10000000/\Q (.ref M.length) (M++[.lst (xs++ys)])
def ZuB(m:Nat)(M:Sto)(Q:W0)(xs:List D):Prop:=wL M[m]? (Zqx xs M Q)
theorem Ztg:wO (dAdd (.ref n) (.ref m) M) Q E=wL M[n]? (ZuB m M Q):=ZsA
def kEq(Q:W0)(M:Sto)(b:Bool):Prop:=Q (.bl b) M
def kNe(Q:W0)(M:Sto)(b:Bool):Prop:=Q (.bl (!b)) M
theorem ZvY:wO (dEq x y M) Q E=wG (eqF 12 M x y) (kEq Q M):=ZvC
theorem ZvZ:wO (dNe x y M) Q E=wG (eqF 12 M x y) (kNe Q M):=ZvD
theorem Zv0:wO (dIs x y M) Q E=wG (isP x y) (kEq Q M):=ZvE
theorem Zth:wO (dIsNot x y M) Q E=wG (isP x y) (kNe Q M):=ZsB
theorem Zti:wO (dInE x y M) Q E=wG (inE x y M) (kEq Q M):=by unfold dInE;cases inE x y M<;>rfl
theorem Ztj:wO (dIx (.tup xs) (.int i) M) Q E=wG (atI xs i) (kQ Q id M):=ZsC
theorem Ztk:wO (dIx (.rol xs) (.int i) M) Q E=wG (atI xs i) (kQ Q id M):=ZsD
def kIx(i:Int)(Q:W0)(M:Sto)(xs:List D):Prop:=wG (atI xs i) (kQ Q id M)
theorem Ztl:wO (dIx (.ref n) (.int i) M) Q E=wL M[n]? (kIx i Q M):=ZsE
noncomputable def ZuC(Q:W0)(M:Sto)(xs:List D):Prop:=Q (.int xs.length) M
theorem Zqy:wO (bLen [.ref n] M) Q E=wL M[n]? (ZuC Q M):=ZpM
noncomputable def kLi(Q:W0)(M:Sto)(xs:List D):Prop:=Q (.ref M.length) (M++[.lst xs])
theorem Zne:wO (bList [.ref n] M) Q E=wL M[n]? (kLi Q M):=Zm4
def ZuD(Q:W0)(M:Sto)(bs:List Bool):Prop:=Q (.bl (bs.all id)) M
def kAl(Q:W0)(M:Sto)(xs:List D):Prop:=wG (Zap xs) (ZuD Q M)
theorem Ztm:wO (bAll [.ref n] M) Q E=wL M[n]? (kAl Q M):=ZsI
def ZuE(g:List Int->Option Int)(Q:W0)(M:Sto)(ns:List Int):Prop:=wG (g ns) (kQ Q .int M)
def ZuF(g:List Int->Option Int)(Q:W0)(M:Sto)(xs:List D):Prop:=wG (Zbf xs) (ZuE g Q M)
theorem Zqz:wO (ZbF gi [.ref n] M) Q E=wL M[n]? (ZuF gi Q M):=ZpR
def kMt(g:Me)(fs:Av)(ρ:Ro)(Q:W0)(E:W2)(x:D)(M:Sto):Prop:=Zml x M=true/\wO (fs ρ M) (kU (g x) Q E) E
theorem Zv1:wO (Zmm me fo fs ρ M) Q E=wO (fo ρ M) (kMt me fs ρ Q E) E:=ZvF
noncomputable def ZuG(n:Nat)(d:D)(Q:W0)(M:Sto)(xs:List D):Prop:=xs.length<10000000/\Q .non (M.set n (.lst (xs++[d])))
theorem Ztn:wO (mApp (.ref n) [d] M) Q E=wL M[n]? (ZuG n d Q M):=ZsJ
noncomputable def ZqA(n:Nat)(xs:List D)(Q:W0)(M:Sto)(ys:List D):Prop:=xs.length+ys.length<=10000000/\Q .non (M.set n (.lst (xs++ys)))
def ZuH(n m:Nat)(Q:W0)(M:Sto)(xs:List D):Prop:=wL M[m]? (ZqA n xs Q M)
theorem Zto:wO (mExt (.ref n) [.ref m] M) Q E=wL M[n]? (ZuH n m Q M):=ZsK
def ZuI(l u:Option Int)(Q:W0)(M:Sto)(xs:List D):Prop:=Q (.ref M.length) (M++[.lst (ZeD xs l u)])
def ZuJ(x:D)(l:Option Int)(Q:W0)(E:W2)(u:Option Int)(M:Sto):Prop:=wO (slR x l u M) Q E
def ZuK(x:D)(hi:Ro->Sto->Out (Option Int))(ρ:Ro)(Q:W0)(E:W2)(l:Option Int)(M:Sto):Prop:=wO (hi ρ M) (ZuJ x l Q E) E
def ZuL(lo hi:Ro->Sto->Out (Option Int))(ρ:Ro)(Q:W0)(E:W2)(x:D)(M:Sto):Prop:=wO (lo ρ M) (ZuK x hi ρ Q E) E
theorem Zv2{lo:Ro->Sto->Out (Option Int)}:wO (eSl f lo hi ρ M) Q E=wO (f ρ M) (ZuL lo hi ρ Q E) E:=ZsL
theorem Ztp:wO (slR (.ref n) l u' M) Q E=wL M[n]? (ZuI l u' Q M):=ZsM
theorem Ztq:wO (oNo ρ M) QI E=QI none M:=rfl
def ZuM(Q:Option Int->Sto->Prop)(x:D)(M:Sto):Prop:=wI x (kQ Q some M)
theorem Ztr:wO (oSo f ρ M) QI E=wO (f ρ M) (ZuM QI) E:=ZsN
noncomputable def ZuN(Q:W0)(M:Sto)(xs:List D):Prop:=Q (.ref M.length) (M++[.lst xs.reverse])
def kWh(bd:Sv)(ρ:Ro)(I:W1)(N:W1)(R:W0)(B C:W1)(E:W2)(k:Bool)(M:Sto):Prop:=Br k (wS (bd ρ M) I R N I E) (N ρ M)
theorem ZqB(I:Nat->Ro->Sto->Prop)(st:∀n ρ M,I n ρ M->wO (c ρ M) (kWh bd ρ (λρ2 M2=>∃m,m<n/\I m ρ2 M2) N R B C E) E)(n:Nat)(ρ:Ro)(M:Sto)(h:I n ρ M):wS (sWh c bd ρ M) N R B C E:=Zkf I st n ρ M h
theorem ZqC{I:W1}{p:Prop}[Decidable p](h1:p->wS (bd ρ M) I R N I E)(h2:¬p->N ρ M):kWh bd ρ I N R B C E (decide p) M:=brD h1 h2
theorem Znf(h:k<n):ixN n (k:Int)=some k:=by
 unfold ixN;rw[if_pos ⋯,if_pos ⋯]
 simp
theorem Zrz(Inv:Ro->Prop)(F:Nat->D)(hl:xs.length<10000000)(hcnt:xs.length<=cnt src M)(h0:Inv (roB k fr ρ))(hs:∀(L:Sto)(i:Nat),i<=xs.length->nxt src i (M++L)=some xs[i]?)(st:∀(i:Nat)(h:i<xs.length)(ρ:Ro)(L:Sto),Inv ρ->wG (tg xs[i] ρ) λr=>Inv r/\wO (f r (M++L)) (λy M2=>y=F i/\M2=M++L) (λ_ _=>False))(hq:Q (.ref M.length) (M++[.lst ((aJ xs.length).map F)])):kCo tg (λ_ M=>.ok true M) f k fr ρ Q src M:=Znc (Q:=λM2=>Q (.ref M.length) M2) Inv F hl hcnt h0 hs st hq
theorem Zis(Inv:Ro->Prop)(F:Nat->D)(hM:M[n]?=some (.lst xs))(hl:xs.length<10000000)(h0:Inv (roB k fr ρ))(st:∀(i:Nat)(h:i<xs.length)(ρ:Ro)(L:Sto),Inv ρ->wG (tg xs[i] ρ) λr=>Inv r/\wO (f r (M++L)) (λy M2=>y=F i/\M2=M++L) (λ_ _=>False))(hq:Q (.ref M.length) (M++[.lst ((aJ xs.length).map F)])):kCo tg (λ_ M=>.ok true M) f k fr ρ Q (.sto n) M:=
 Zrz (xs:=xs) Inv F hl (by rw[Zdl hM];exact af _) h0 (λL i hi=>by rw[Zef];rw[aC (Zt hM)];exact hM) st hq
end
end DL
namespace DL
open L2
theorem Zts:wO (bLR [.ref n] M) Q E=wL M[n]? (ZuN Q M):=by
 show wO (match M[n]? with|some (.lst xs)=>Out.ok (.ref M.length) (M++[.lst xs.reverse])|none=>.bad) Q E=_
 cases M[n]? with
 |none=>rfl
 |some o=>cases o with|lst xs=>rfl
end DL
namespace DL
open L2
noncomputable def Ztt(i j:Nat)(ρ:Ro)(N:W1)(d:D)(M:Sto):Prop:=N ((ρ.set i (some d)).set j (some d)) M
theorem Zlf:wS (ZM (ZnP (gNm k) (gNm m)) f ρ M) N R B C E=wO (f ρ M) (Ztt k m ρ N) E:=ZU
section
variable {src:Src}{tg:Tg}{c:Tv}{g:Ro->Sto->Out Ro}{P:Nat->Ro->Sto->Prop}
theorem Zkq(n:Nat)(step:∀i ρ M,i<n->P i ρ M->∃d ρ1 M1,nxt src i M=some (some d)/\tg d ρ=some ρ1/\((c ρ1 M=.ok false M1/\P (i+1) ρ1 M1)\/∃ρ2 M2,c ρ1 M=.ok true M1/\g ρ1 M1=.ok ρ2 M2/\P (i+1) ρ2 M2))(stop:∀ρ M,P n ρ M->nxt src n M=some none):∀(fuel i:Nat)(ρ:Ro)(M:Sto),i<=n->n-i<=fuel->P i ρ M->∃ρ' M',Zb5 src tg c g fuel i ρ M=.ok ρ' M'/\P n ρ' M':=by
 intro fuel
 induction fuel with
 |zero=>
  intro i ρ M hi hf h;have e:i=n:=⋯
  subst e;exact⟨ρ,M,by rw[Zb5,stop ρ M h],h⟩
 |succ fuel ih=>
  intro i ρ M hi hf h;by_cases q:i=n
  .subst q;exact⟨ρ,M,by rw[Zb5,stop ρ M h],h⟩
  .obtain⟨d,ρ1,M1,e1,e2,e3⟩:=step i ρ M ⋯ h
   rcases e3 with⟨e3,h3⟩|⟨ρ2,M2,e3,e4,h3⟩
   .obtain⟨ρ',M',z1,z2⟩:=ih (i+1) ρ1 M1 ⋯ ⋯ h3
    exact⟨ρ',M',by rw[Zb5,e1];simp only[e2,e3];exact z1,z2⟩
   .obtain⟨ρ',M',z1,z2⟩:=ih (i+1) ρ2 M2 ⋯ ⋯ h3
    exact⟨ρ',M',by rw[Zb5,e1];simp only[e2,e3,e4];exact z1,z2⟩
def Ztu(tg:Tg)(c:Tv)(g:Nat->Ro->Sto->Out Ro)(k:Nat)(fr:List Nat)(ρ:Ro)(Q:W0)(src:Src)(M1:Sto):Prop:=∃ρ' M',Zb5 src tg c (g M1.length) (cnt src M1) 0 (roB k fr ρ) (M1++[.lst []])=.ok ρ' M'/\Q (.ref M1.length) M'
theorem Zit{g:Nat->Ro->Sto->Out Ro}:wO (Za0 fi k fr tg c g ρ M) Q E=wO (fi ρ M) (Ztu tg c g k fr ρ Q) E:=by
 unfold Za0;rw[ZC];congr 1;funext src M1;unfold Ztu;cases e:Zb5 src tg c (g M1.length) (cnt src M1) 0 (roB k fr ρ) (M1++[.lst []])with
 |ok ρ' M'=>exact propext ⟨λh=>⟨ρ',M',rfl,h⟩,λ⟨_,_,z,h⟩=>by cases z;exact h⟩
 |exc x M'=>exact propext ⟨λh=>h.elim,λ⟨_,_,z,_⟩=>by cases z⟩
 |bad=>exact propext ⟨λh=>h.elim,λ⟨_,_,z,_⟩=>by cases z⟩
end
end DL
namespace DL
open L2
end DL
namespace DL
open L2
def Zv3(n:Nat)(d k:D)(kk:List (List Key))(ρ:Ro)(N:W1)(M:Sto)(ds:List D):Prop:=ds.length<10000000/\N ρ (M.set n (.lst (ZnO kyU kk k d ds)))
def ZuO(d x:D)(ρ:Ro)(N:W1)(k:D)(M:Sto):Prop:=∃n kk,x=.du n/\kyU k=some kk/\wL M[n]? (Zv3 n d k kk ρ N M)
def Ztv(fi:Ev)(d:D)(ρ:Ro)(N:W1)(E:W2)(x:D)(M:Sto):Prop:=wO (fi ρ M) (ZuO d x ρ N) E
def Ztw(fo fi:Ev)(ρ:Ro)(N:W1)(E:W2)(d:D)(M:Sto):Prop:=wO (fo ρ M) (Ztv fi d ρ N E) E
theorem ZqD:wS (ZjY fo fi f ρ M) N R B C E=wO (f ρ M) (Ztw fo fi ρ N E) E:=by
 unfold ZjY;rw[ZU];congr 1;funext d M1;rw[ZU];unfold Ztw;congr 1;funext x M2;rw[ZU];unfold Ztv;congr 1;funext k M3;unfold ZuO;cases x with
 |du n=>
  cases e:kyU k with
  |none=>exact propext ⟨λh=>h.elim,λ⟨_,_,_,z,_⟩=>by cases z⟩
  |some kk=>
   cases em:M3[n]? with
   |none=>simp only[em];exact propext ⟨λh=>h.elim,λ⟨n',_,z,_,h⟩=>by cases z;rw[em]at h;exact h.elim⟩
   |some o=>
    cases o with
    |lst ds=>
     by_cases c:ds.length<10000000
     .simp only[em,if_pos c];exact propext ⟨λh=>⟨n,kk,rfl,rfl,by rw[em];exact⟨c,h⟩⟩,λ⟨n',kk',z,z',h⟩=>by cases z;cases z';rw[em]at h;exact h.2⟩
     .simp only[em,if_neg c];exact propext ⟨λh=>h.elim,λ⟨n',kk',z,z',h⟩=>by cases z;cases z';rw[em]at h;exact absurd h.1 c⟩
 |_=>exact propext ⟨λh=>h.elim,λ⟨_,_,z,_⟩=>by cases z⟩
def ZuP(Q:W0)(M:Sto)(es:List D):Prop:=Q (.ref M.length) (M++[.lst (es.map ZhR)])
theorem Ztx:wO (bLisU [.du n] M) Q E=wL M[n]? (ZuP Q M):=by
 show wO (match M[n]? with|some (.lst es)=>Out.ok (.ref M.length) (M++[.lst (es.map ZhR)])|none=>.bad) Q E=_
 cases M[n]? with
 |none=>rfl
 |some o=>cases o with|lst xs=>rfl
theorem Zty:wO (eDnU ρ M) Q E=Q (.du M.length) (M++[.lst []]):=rfl
end DL
namespace DL
noncomputable abbrev Pt:=Int×Int
noncomputable def X(p q:Pt):Int:=p.1*q.2-p.2*q.1
section
variable {rs:List Pt}{i j:Int}{k:Nat}
theorem ZbB{α:Type}{l:List α}{d:α}(h:n<l.length):l.getD n d=l[n]:=by simp[ae h]
theorem Zbl(h:0<=i/\i<rs.length):cy rs i=rs.getD i.toNat (0,0):=by
 unfold cy;rw[fv h.1 h.2]
theorem ZaN{m:Nat}(h:m≠0):(i%m).toNat<m/\0<=i%m:=by
 have:=c9 i (show(0:Int)<m by lia)
 have:=dZ i (show(m:Int)≠0 by lia)
 lia
theorem Zbj(h:rs≠[]):cy rs i∈rs:=by
 have hl:rs.length≠0:=by simpa using h
 unfold cy;rw[ZbB (ZaN hl).1];exact bU _
theorem ZfV{f:Pt->Pt}(h:rs≠[]):cy (rs.map f) i=f (cy rs i):=by
 have hl:rs.length≠0:=by simpa using h
 unfold cy;rw[au,ZbB (by rw[au];exact(ZaN hl).1),ZbB (ZaN hl).1,b8]
theorem Zlg(hk:k<=rs.length):cy (rs.drop k++rs.take k) i=cy rs (i+k):=by
 by_cases h:rs.length=0
 .have:rs=[]:=by simpa using h
  subst this;simp[cy]
 have hL:(rs.drop k++rs.take k).length=rs.length:=by simp;lia
 have e1:cy (rs.drop k++rs.take k) i=cy (rs.drop k++rs.take k) (i%rs.length):=by
  conv=>rhs;rw[<-hL,Zct]
 have e2:cy rs (i+k)=cy rs (i%rs.length+k):=by
  unfold cy;rw[Int.emod_add_emod]
 rw[e1,e2];obtain⟨a,b⟩:=ZaN (i:=i) h;generalize hm:i%(rs.length:Int)=m at *;have hm2:m<rs.length:=⋯
 rw[Zbl (by rw[hL];lia)]
 by_cases c:m+k<rs.length
 .rw[Zbl ⋯]
  rw[aw,aw,aC (by simp;lia),ii]
  congr 2;lia
 .rw[<-Zee,Zbl ⋯]
  rw[aw,aw,aK (by simp;lia),dI (by simp;lia)]
  congr 2;simp;lia
noncomputable def ins(rs:List Pt)(k:Nat)(p:Pt):List Pt:=rs.take (k+1)++p::rs.drop (k+1)
theorem ZeW(hk:k<rs.length):(ins rs k p).length=rs.length+1:=by simp[ins];lia
theorem Zlh(hk:k<rs.length)(h0:0<=j)(h1:j<=rs.length+1):cy (ins rs k p) j=if j<=k then cy rs j else if j=k+1 then p else cy rs (j-1):=by
 have hL:=ZeW (p:=p) hk;by_cases e:j=rs.length+1
 .subst e;rw[if_neg ⋯,if_neg ⋯]
  have e1:cy (ins rs k p) (rs.length+1)=cy (ins rs k p) 0:=by
   have:=Zee (rs:=ins rs k p) (i:=(rs.length:Int)+1)
   rw[hL]at this;rw[<-this];congr 1;lia
  have e2:cy rs ((rs.length:Int)+1-1)=cy rs 0:=by
   rw[<-Zee];congr 1;lia
  rw[e1,e2,Zbl (by rw[hL];lia),Zbl ⋯]
  unfold ins;rw[aw,aw,aC (by simp;lia),dI (by simp)]
 .have hj:j<rs.length+1:=⋯
  rw[Zbl (by rw[hL];lia)]
  unfold ins;rw[aw];by_cases c1:j<=k
  .rw[if_pos c1,Zbl ⋯,aw,aC (by simp;lia),dI ⋯]
  .rw[if_neg c1,aK (by simp;lia)]
   have hl:(rs.take (k+1)).length=k+1:=by simp;lia
   rw[hl];by_cases c2:j=k+1
   .rw[if_pos c2]
    have:j.toNat-(k+1)=0:=⋯
    rw[this];rfl
   .rw[if_neg c2,Zbl ⋯,aw]
    obtain⟨z,hz⟩:∃z,j.toNat-(k+1)=z+1:=⟨j.toNat-(k+1)-1,⋯⟩
    rw[hz,db,ii];congr 2;lia
theorem Zdm{P:Pt->Pt->Prop}(hn:rs.length≠0)(h:∀i:Int,0<=i->i<rs.length->P (cy rs i) (cy rs (i+1)))(i:Int):P (cy rs i) (cy rs (i+1)):=by
 have e1:cy rs i=cy rs (i%rs.length):=Zct.symm;have e2:cy rs (i+1)=cy rs (i%rs.length+1):=by
  unfold cy;rw[Int.emod_add_emod]
 rw[e1,e2];obtain⟨a,b⟩:=ZaN (i:=i) hn;exact h _ b ⋯
noncomputable def cc(f:Pt->Pt->Nat):List Pt->Nat
 |a::b::r=>f a b+cc f (b::r)
 |_=>0
def cyc(f:Pt->Pt->Nat)(rs:List Pt):Nat:=cc f (rs++rs.take 1)
theorem ZcX{f:Pt->Pt->Nat}:∀(L:List Pt)(a:Pt)(R:List Pt),cc f (L++a::R)=cc f (L++[a])+cc f (a::R)
 |[],a,R=>by simp[cc]
 |[b],a,R=>by simp[cc]
 |b::c::L,a,R=>by
  have:=ZcX (f:=f) (c::L) a R
  simp only[bL,cc]at this ⊢;lia
theorem Zli{f:Pt->Pt->Nat}{g:Pt->Pt}:∀(L:List Pt),cc f (L.map g)=cc (λa b=>f (g a) (g b)) L
 |[]=>rfl
 |[_]=>rfl
 |a::b::L=>by
  have:=Zli (f:=f) (g:=g) (b::L)
  simp only[aV,cc]at this ⊢;lia
theorem Zlj{f:Pt->Pt->Nat}:∀(L:List Pt),cc f L.reverse=cc (λa b=>f b a) L
 |[]=>rfl
 |[_]=>rfl
 |a::b::L=>by
  have:=Zlj (f:=f) (b::L)
  rw[dh,dh,cU,lB,ZcX];rw[dh]at this;simp only[cc]at this ⊢;lia
theorem Zbd:cyc f (a::r)=cc f (a::(r++[a])):=by simp[cyc]
theorem Zcu(A B:List Pt):cyc f (A++B)=cyc f (B++A):=by
 cases A with
 |nil=>simp
 |cons a A=>
  cases B with
  |nil=>simp
  |cons b B=>
   rw[bL,Zbd,bL,Zbd];have e1:a::(A++b::B++[a])=(a::A)++b::(B++[a]):=by simp
   have e2:b::(B++a::A++[b])=(b::B)++a::(A++[b]):=by simp
   rw[e1,e2,ZcX (a::A) b,ZcX (b::B) a];simp only[bL];lia
theorem Zdn(L:List Pt):cyc f (L.map g)=cyc (λa b=>f (g a) (g b)) L:=by
 unfold cyc;rw[<-kc,<-c6,Zli]
theorem Ziu(L:List Pt):cyc f L.reverse=cyc (λa b=>f b a) L:=by
 cases L with
 |nil=>rfl
 |cons a L=>
  rw[dh,Zcu,lB,Zbd,Zbd,<-Zlj];congr 1;simp
def in1(w a b:Pt):Nat:=if 0<=X a w/\0<X w b then 1 else 0
def in2(w a b:Pt):Nat:=if 0<X a w/\0<=X w b then 1 else 0
def Fan(rs:List Pt):Prop:=∀w:Pt,w≠(0,0)->cyc (in1 w) rs=1/\cyc (in2 w) rs=1
theorem ZqE:X w (a.1+b.1,a.2+b.2)=X w a+X w b/\X (a.1+b.1,a.2+b.2) w=X a w+X b w:=by unfold X;constructor<;>grind
theorem ZeX:X p q=0-X q p:=by unfold X;grind
theorem Zng:in1 w a b=in1 w a (a.1+b.1,a.2+b.2)+in1 w (a.1+b.1,a.2+b.2) b:=by
 have s:=ZqE (a:=a) (b:=b) (w:=w);have e1:=ZeX (p:=w) (q:=a);have e2:=ZeX (p:=b) (q:=w);unfold in1;rw[s.1,s.2,e1,e2];generalize X a w=p;generalize X w b=q
 repeat' split
 all_goals lia
theorem Znh:in2 w a b=in2 w a (a.1+b.1,a.2+b.2)+in2 w (a.1+b.1,a.2+b.2) b:=by
 have s:=ZqE (a:=a) (b:=b) (w:=w);have e1:=ZeX (p:=w) (q:=a);have e2:=ZeX (p:=b) (q:=w);unfold in2;rw[s.1,s.2,e1,e2];generalize X a w=p;generalize X w b=q
 repeat' split
 all_goals lia
theorem ZqF{L R:List Pt}:cy (L++a::R) L.length=a:=by
 rw[Zbl (by simp;lia)]
 simp
theorem Ztz{L R:List Pt}:cy (L++a::b::R) (L.length+1)=b:=by
 rw[Zbl (by simp;lia)]
 rw[show((L.length:Int)+1).toNat=L.length+1 by lia]
 simp
theorem Ziv{r:List Pt}:cy (a::r) (r.length+1)=a:=by
 have:=Zee (rs:=a::r) (i:=(r.length:Int)+1)
 rw[<-this,bD,show(r.length:Int)+1-((r.length+1:Nat):Int)=0 by lia,Zbl (by simp)]
 rfl
theorem Ziw(hk:k<rs.length)(hf:f (cy rs k) (cy rs (k+1))=f (cy rs k) p+f p (cy rs (k+1))):cyc f (ins rs k p)=cyc f rs:=by
 obtain⟨L,a,R,e,hl⟩:∃L a R,rs=L++a::R/\L.length=k:=⟨rs.take k,rs[k],rs.drop (k+1),by rw[List.getElem_cons_drop,bX],by simp;lia⟩
 have ei:ins rs k p=L++a::p::R:=by
  unfold ins;rw[e,<-hl,List.take_append,List.drop_append,cu ⋯,d8 ⋯]
  simp
 have ca:cy rs k=a:=by rw[e,<-hl];exact ZqF
 cases R with
 |cons b R=>
  have cb:cy rs (k+1)=b:=by rw[e,<-hl];exact Ztz
  rw[ca,cb]at hf;rw[ei,e,Zcu,Zcu L];simp only[bL,Zbd,cc];lia
 |nil=>
  cases L with
  |nil=>
   have cb:cy rs (k+1)=a:=by
    rw[e,<-hl];exact Ziv (r:=[]) (a:=a)
   rw[ca,cb]at hf;rw[ei,e];simp[cyc,cc];lia
  |cons b L=>
   have cb:cy rs (k+1)=b:=by
    rw[e,<-hl]
    have:=Ziv (r:=L++[a]) (a:=b)
    simp only[aY,bD,hO]at this ⊢;exact this
   rw[ca,cb]at hf;rw[ei,e];simp only[bL,Zbd];have e1:b::(L++[a,p]++[b])=(b::L)++a::[p,b]:=by simp
   have e2:b::(L++[a]++[b])=(b::L)++a::[b]:=by simp
   rw[e1,e2,ZcX,ZcX (b::L) a [b]];simp only[cc];lia
theorem Fan.rot(h:Fan rs):Fan (rs.drop k++rs.take k):=λw hw=>by
 rw[Zcu,Zcu (rs.drop k),bX];exact h w hw
theorem Fan.ins(h:Fan rs)(hk:k<rs.length):Fan (ins rs k ((cy rs k).1+(cy rs (k+1)).1,(cy rs k).2+(cy rs (k+1)).2)):=λw hw=>by
 rw[Ziw hk Zng,Ziw hk Znh];exact h w hw
theorem Zlk{f:Pt->Pt}(hs:s=1\/s= -1)(hf:∀p q,X (f p) (f q)=s*X p q)(w:Pt)(hw:w≠(0,0)):∃w':Pt,w'≠(0,0)/\∀a,X (f a) w=s*X a w':=by
 have d:=hf (1,0) (0,1);have d1:X (f (1,0)) (f (0,1))=s:=by rw[d];simp[X]
 have lin:∀a,(f a).1=a.1*(f (1,0)).1+a.2*(f (0,1)).1/\(f a).2=a.1*(f (1,0)).2+a.2*(f (0,1)).2:=by
  intro a;have h1:=hf a (1,0);have h2:=hf a (0,1);generalize f a=u at *;generalize f (1,0)=e1 at *;generalize f (0,1)=e2 at *;unfold X at *;rcases hs with rfl|rfl<;>constructor<;>grind
 refine⟨(X w (f (0,1))*s,X (f (1,0)) w*s),?_,?_⟩
 .intro z;apply hw;have z1:=congrArg mW z;have z2:=congrArg Prod.snd z;simp only at z1 z2;generalize f (1,0)=e1 at *;generalize f (0,1)=e2 at *;unfold X at *;apply eO
  .rcases hs with rfl|rfl<;>simp only[]<;>grind
  .rcases hs with rfl|rfl<;>simp only[]<;>grind
 .intro a;obtain⟨l1,l2⟩:=lin a;unfold X;rw[l1,l2];rcases hs with rfl|rfl<;>simp only[]<;>grind
theorem Fan.map(h:Fan rs)(hf:∀p q,X (f p) (f q)=X p q):Fan (rs.map f):=λw hw=>by
 obtain⟨w',hw',e⟩:=Zlk (s:=1) (.inl rfl) (λp q=>by rw[hf,lQ]) w hw
 have e2:∀a,X w (f a)=X w' a:=λa=>by rw[ZeX,e,ZeX (p:=w')];lia
 have c1:∀a b,in1 w (f a) (f b)=in1 w' a b:=λa b=>by unfold in1;rw[e,e2,lQ]
 have c2:∀a b,in2 w (f a) (f b)=in2 w' a b:=λa b=>by unfold in2;rw[e,e2,lQ]
 rw[Zdn,Zdn,show(λa b=>in1 w (f a) (f b))=in1 w' from funext λa=>funext λb=>c1 a b,show(λa b=>in2 w (f a) (f b))=in2 w' from funext λa=>funext λb=>c2 a b];exact h w' hw'
theorem Fan.flip(h:Fan rs)(hf:∀p q,X (f p) (f q)= -1*X p q):Fan (rs.map f).reverse:=λw hw=>by
 obtain⟨w',hw',e⟩:=Zlk (s:= -1) (.inr rfl) hf w hw;have e2:∀a,X w (f a)= -1*X w' a:=λa=>by rw[ZeX,e,ZeX (p:=w')];lia
 have c1:∀a b,in1 w (f b) (f a)=in2 w' a b:=λa b=>by
  unfold in1 in2;rw[e,e2,ZeX (p:=b)]
  have:=ZeX (p:=a) (q:=w')
  simp only[show(0<= -1*(0-X w' b)/\0 < -1*X w' a)=(0<X a w'/\0<=X w' b)from propext ⟨λ_=>⋯,λ_=>⋯⟩]
 have c2:∀a b,in2 w (f b) (f a)=in1 w' a b:=λa b=>by
  unfold in1 in2;rw[e,e2,ZeX (p:=b)]
  have:=ZeX (p:=a) (q:=w')
  simp only[show(0 < -1*(0-X w' b)/\0<= -1*X w' a)=(0<=X a w'/\0<X w' b)from propext ⟨λ_=>⋯,λ_=>⋯⟩]
 rw[Ziu,Ziu,Zdn,Zdn,show(λa b=>in1 w (f b) (f a))=in2 w' from funext λa=>funext λb=>c1 a b,show(λa b=>in2 w (f b) (f a))=in1 w' from funext λa=>funext λb=>c2 a b];exact⟨(h w' hw').2,(h w' hw').1⟩
structure Smo(rs:List Pt):Prop where
 len:3<=rs.length
 one:∀i:Int,X (cy rs i) (cy rs (i+1))=1
 fan:Fan rs
noncomputable def Nr(b:Int)(rs:List Pt):Prop:=∀p∈rs,(-b<=p.1/\p.1<=b)/\ -b<=p.2/\p.2<=b
theorem Smo.ne(h:Smo rs):rs≠[]:=by
 intro z
 have:=h.len
 rw[z]at this;simp at this
theorem Nr.cy{b:Int}(h:Nr b rs)(hn:rs≠[])(i:Int):(-b<=(cy rs i).1/\(cy rs i).1<=b)/\ -b<=(cy rs i).2/\(cy rs i).2<=b:=h _ (Zbj hn)
theorem Smo.ins(h:Smo rs)(hk:k<rs.length):Smo (ins rs k ((cy rs k).1+(cy rs (k+1)).1,(cy rs k).2+(cy rs (k+1)).2)):=by
 have hL:=ZeW (p:=((cy rs k).1+(cy rs (k+1)).1,(cy rs k).2+(cy rs (k+1)).2)) hk;refine⟨by rw[hL];have:=h.len;lia,?_,h.fan.ins hk⟩
 refine Zdm (P:=λa b=>X a b=1) ⋯ ?_
 intro i h0 h1;rw[hL]at h1;rw[Zlh hk h0 ⋯,Zlh hk ⋯ ⋯]
 have ok:=h.one k;by_cases c1:i+1<=k
 .rw[if_pos ⋯,if_pos c1];exact h.one i
 .rw[if_neg c1];by_cases c2:i=k
  .subst c2;rw[if_pos ⋯,if_pos rfl]
   unfold X at *;grind
  .rw[if_neg (by lia:¬i<=(k:Int)),if_neg (by lia:¬i+1=(k:Int)+1)]
   by_cases c3:i=k+1
   .subst c3;rw[if_pos rfl]
    have:(k:Int)+1+1-1=k+1:=⋯
    rw[this];unfold X at *;grind
   .rw[if_neg c3]
    have:=h.one (i-1)
    have e:i-1+1=i+1-1:=⋯
    rw[e]at this;exact this
theorem Smo.rot(h:Smo rs)(hk:k<=rs.length):Smo (rs.drop k++rs.take k):=by
 refine⟨by have:=h.len;simp;lia,λi=>?_,h.fan.rot⟩
 rw[Zlg hk,Zlg hk]
 have:=h.one (i+k)
 have e:i+(k:Int)+1=i+1+k:=⋯
 rw[e]at this;exact this
theorem Smo.map(h:Smo rs)(hf:∀p q,X (f p) (f q)=X p q):Smo (rs.map f):=by
 refine⟨by have:=h.len;simp;lia,λi=>?_,h.fan.map hf⟩
 rw[ZfV h.ne,ZfV h.ne,hf];exact h.one i
end
end DL
namespace CC
open L2 DL
def ZaF:Sv:=(Zal (e2 dSub (e2 dMul (e2 dIx (Zf 0) (eC (.int 0))) (e2 dIx (Zf 1) (eC (.int 1)))) (e2 dMul (e2 dIx (Zf 0) (eC (.int 1))) (e2 dIx (Zf 1) (eC (.int 0))))))
def F_crossed:W3:=fnF ZaF 2 0
def ZaO:Sv:=(Zal (e2 dIx (Zf 0) (e2 dMod (e2 dAdd (Zf 1) (eC (.int 1))) (Zj bLen (Zc (Zf 0) aNil)))))
def F_following:W3:=fnF ZaO 2 0
def Zaa:Sv:=(sIf (tv (e2 dNe (Zj F_crossed (Zc (Zf 2) (Zc (Zj F_following (Zc (Zf 0) (Zc (Zf 1) aNil))) aNil))) (eC (.int 1)))) (Zal (Zf 1)) sNil)
def ZaP:Sv:=(ZI (Zgr (gTp (gCs (gNm 1) (gCs (gNm 2) gNl))) (iEn (Zc (Zf 0) aNil)) Zaa) (Zal (eC .non)))
def F_unspanned:W3:=fnF ZaP 1 2
def Zax:Sv:=(ZI (ZM (gNm 1) (Zj F_unspanned (Zc (Zf 0) aNil))) (sIf (tv (e2 dIsNot (Zf 1) (eC .non))) (Zd0 (PySem.Str.ofString "NotSmooth") (Zc (eFs (Zdb (eC (.str (PySem.Str.ofString "ray "))) (Zdb (eFm (Zf 1)) (Zdb (eC (.str (PySem.Str.ofString " does not cross the next one in 1"))) jNil)))) aNil)) sNil))
def F_ask_smooth:W3:=fnF Zax 1 1
end CC
open L2 DL
set_option hygiene false
set_option compiler.extract_closed false
local macro_rules|`(tactic|simp! $c:optConfig [$ls,*])=>do let x←("ZvK y_c y_v Zqf ZsV Zqg ZsW ZsX ZsY Zqh Zs0 Zqi ZvL ZvM Zs1 Zs2 Zqj Zqk ZvO Zs3 ZvP Zql Zs4 Zqm Zs5 Zqn Zs6 Zs7 Zqo Zqp ZvQ ZvR Zs8 Zs9 Zqq Zta Ztb Zqr Zqs Ztc Zqt Zqu Zqv Zqw ZvU ZvV Ztd Zte Ztf ZvW ZvX Ztg ZvY ZvZ Zv0 Zth Zti Ztj Ztk Ztl Zqy Zne Ztm Zqz Zv1 Ztn Zto Zv2 Ztp Ztq Ztr kU kQ kB2 kB1 kA2 kA1 kTu kLs kTy kTA kTO kTN kSq kDr kSi kAs kAt Zuj kPa Zuk Zul Zum Zun Zuo Zup kPu Zuq Zur kR1 Zus Zut Zuu kR2 kFo kFs Zuv Zuw Zux kS2 Zuy kEn Zuz ZuA kZp Zqx ZuB kEq kNe kIx ZuC kLi ZuD kAl ZuE ZuF kMt ZuG ZqA ZuH ZuI ZuJ ZuK ZuL ZuM ZuN Zki Zkj Zm6 Zkm Zkn Zkk Zkl Zm7 Zkp Zko Zm8 Zna decide_eq_true decide_eq_false wF1 wF2 wF3 wF4 Zm ZpB Zvs Zvt Zvu Zvv Zvw Zvq Zvr Zsu Zsv Zsw ZpL Zsx Zsy Zsz Zvy Zvz ZvA ZvB ZpN ZpO ZsF ZsG ZsH ZpP ZpQ Zm5 ZpS ZpT Zkg ZsR ZsS ZsT ZsU id roB kpR cond_true cond_false at0 at1 at2 at3 gTp gCs gNl gNm List.set_cons_zero List.set_cons_succ kr db bD hO aY au aV jd bL i6 cU cx List.replicate_succ List.replicate_zero Option.join_some jB Zkh Zry ZbZ Zlb Zlc ZG ZaM ZsO ZvG ZsP ZpY ZsQ ZpZ Zp0 Zp1 Zp2 Zp3 Zp4 Zp5 Zp6 Zp7 Zp8 Zp9 Zqa Zqb Zqc true_and and_true fX Bool.not_false decide_true decide_false Nat.reduceAdd Nat.reduceLeDiff Nat.reduceLT iC fm Int.reducePow Int.reduceToNat Int.reduceNeg Int.reduceMod Int.reduceDiv Int.reduceAdd Int.reduceSub Int.reduceMul Int.cast_ofNat_Int Int.reduceEq Int.reduceLT Int.reduceLE".splitOn " ").toArray.mapM fun s=>`(Lean.Parser.Tactic.simpLemma|$(Lean.mkIdent s.toName):ident);`(tactic|simp $c:optConfig (disch := lia) only [$x,*,$ls,*])
set_option hygiene true
namespace CC
open L2 DL
section
variable {E:W2}
theorem Zeg(ha: -(18446744073709551616)<a/\a<18446744073709551616)(hb: -(18446744073709551616)<b/\b<18446744073709551616):wO (F_crossed [pr a b,pr c d] M) Q E=Q (.int (a*d-b*c)) M:=by
 simp![F_crossed,ZaF]
theorem Zcv(h:M[n]?=some (.lst (prs rs)))(hi:0<=i/\i<rs.length):wO (F_following [.ref n,.int i] M) Q E=Q (pr (cy rs (i+1)).1 (cy rs (i+1)).2) M:=by
 have e:=ZaN (i:=i+1) (m:=rs.length) ⋯
 simp![F_following,ZaO,h,ZfU,Zct]
theorem Za5(h:i<(prs rs).length):(prs rs)[i]=pr (cy rs i).1 (cy rs i).2:=by
 have h':i<rs.length:=by rw[ZG]at h;exact h
 rw[Zad h'];simp[prs]
theorem Nr.big(h:Nr b rs)(hb:b<=18446744073709551615)(hn:rs≠[])(i:Int):(-(18446744073709551616)<(cy rs i).1/\(cy rs i).1<18446744073709551616)/\(-(18446744073709551616)<(cy rs i).2/\(cy rs i).2<18446744073709551616):=by
 have:=Nr.cy h hn i
 omega
theorem ZeY(h:M[n]?=some (.lst (prs rs)))(hs:Smo rs)(hb:Nr 18446744073709551615 rs)(k:Q .non M):wO (F_unspanned [.ref n] M) Q E:=by
 simp![F_unspanned,ZaP];refine Zqe (λi ρ M'=>M'=M/\∃x y,ρ=[some (.ref n),x,y]) h ⟨rfl,_,_,rfl⟩ (λi ρ M' hI=>by rw[hI.1];exact h) ?_ ?_
 .rintro i ρ M' hi ⟨rfl,x,y,rfl⟩;have b1:=Nr.big hb (by decide) hs.ne i
  have o1:=hs.one i;have hi':i<rs.length:=by rw[ZG]at hi;exact hi
  rw[Za5];simp![Zaa,Zcv h,Zeg];unfold X at o1;rw[o1];simp![Zm];exact⟨_,_,rfl⟩
 .rintro ρ M' ⟨rfl,x,y,rfl⟩;simp![Zm];exact k
theorem Zeh(h:M[n]?=some (.lst (prs rs)))(hs:Smo rs)(hb:Nr 18446744073709551615 rs)(k:Q .non M):wO (F_ask_smooth [.ref n] M) Q E:=by
 simp![F_ask_smooth,Zax];refine ZeY h hs hb ?_;simp![Zm];exact k
noncomputable def tf(w m:Int)(p:Pt):Pt:=if w=0 then(p.1+m*p.2,p.2)else if w=1 then(p.1,p.2+m*p.1)else if w=2 then(0-p.2,p.1)else p
theorem Zcw(h1:X a w=p)(h2:X w b=q):in1 w a b=if 0<=p/\0<q then 1 else 0:=by unfold in1;rw[h1,h2]
theorem Zcx(h1:X a w=p)(h2:X w b=q):in2 w a b=if 0<p/\0<=q then 1 else 0:=by unfold in2;rw[h1,h2]
theorem Zv4:Fan [(1,0),(0,1),(-1,-1)]:=by
 rintro⟨x,y⟩ hw;have hw':¬(x=0/\y=0):=λz=>hw (by rw[z.1,z.2])
 have a1:X (1,0) (x,y)=y:=by simp[X]
 have a2:X (0,1) (x,y)= -x:=by simp[X]
 have a3:X (-1,-1) (x,y)=x-y:=by simp[X];lia
 have b1:X (x,y) (0,1)=x:=by simp[X]
 have b2:X (x,y) (-1,-1)=y-x:=by simp[X];lia
 have b3:X (x,y) (1,0)= -y:=by simp[X]
 simp only[cyc,mw,lO,bL,i6,cc];rw[Zcw a1 b1,Zcw a2 b2,Zcw a3 b3,Zcx a1 b1,Zcx a2 b2,Zcx a3 b3];clear a1 a2 a3 b1 b2 b3 hw;constructor
 all_goals
  repeat' split
  all_goals lia
theorem Zv5(f:Int):Fan [(1,0),(0,1),(-1,f),(0,-1)]:=by
 rintro⟨x,y⟩ hw;have hw':¬(x=0/\y=0):=λz=>hw (by rw[z.1,z.2])
 have h0:x=0->x*f=0:=λz=>by rw[z,Int.zero_mul]
 have a1:X (1,0) (x,y)=y:=by simp[X]
 have a2:X (0,1) (x,y)= -x:=by simp[X]
 have a3:X (-1,f) (x,y)= -y-x*f:=by unfold X;simp only;grind
 have a4:X (0,-1) (x,y)=x:=by simp[X]
 have b1:X (x,y) (0,1)=x:=by simp[X]
 have b2:X (x,y) (-1,f)=x*f+y:=by unfold X;simp only;grind
 have b3:X (x,y) (0,-1)= -x:=by simp[X]
 have b4:X (x,y) (1,0)= -y:=by simp[X]
 simp only[cyc,mw,lO,bL,i6,cc];rw[Zcw a1 b1,Zcw a2 b2,Zcw a3 b3,Zcw a4 b4,Zcx a1 b1,Zcx a2 b2,Zcx a3 b3,Zcx a4 b4];clear a1 a2 a3 a4 b1 b2 b3 b4 hw;generalize x*f=z at *;constructor
 all_goals
  repeat' split
  all_goals lia
theorem Zv6:Smo [(1,0),(0,1),(-1,-1)]:=by
 refine⟨by decide,Zdm (P:=λa b=>X a b=1) (by decide) ?_,Zv4⟩
 intro i h0 h1
 have:i=0\/i=1\/i=2:=by simp at h1;lia
 rcases this with rfl|rfl|rfl<;>rfl
theorem Zv7(f:Int):Smo [(1,0),(0,1),(-1,f),(0,-1)]:=by
 refine⟨by simp,Zdm (P:=λa b=>X a b=1) (by simp) ?_,Zv5 f⟩
 intro i h0 h1
 have:i=0\/i=1\/i=2\/i=3:=by simp at h1;lia
 rcases this with rfl|rfl|rfl|rfl<;>simp[X,cy]
end
end CC
namespace DL
def T(rs:List Pt)(i:Int):Int:=0-X (cy rs (i-1)) (cy rs (i+1))
def ZtA(rs:List Pt):List Int:=(aJ rs.length).map λ(i:Nat)=>T rs i
end DL
namespace CC
open L2 DL
end CC
namespace DL
theorem ZqG(p q:Pt):X p q=0-X q p:=by unfold X;grind
noncomputable def nm(p:Pt):Int:=p.1*p.1+p.2*p.2
theorem Zix(h1:0<=X a w)(h2:0<X w b):in1 w a b=1:=by unfold in1;rw[if_pos ⟨h1,h2⟩]
theorem XX(p:Pt):X p p=0:=by unfold X;grind
end DL
namespace CE
open L2 DL
open CC (ZaF F_crossed ZaO F_following Zaa ZaP F_unspanned Zax F_ask_smooth)
end CE
namespace CE
open L2 DL
end CE
namespace CF
open L2 DL CC
end CF
namespace CF
open L2 DL
end CF
namespace DL
open L2 DL
end DL
namespace CB
open L2 DL
def Zbm:Sv:=(ZI (ZM (gNm 2) (eC (.int 0))) (ZI (sIf (tv (e2 dLt (Zf 1) (Zj bLen (Zc (Zf 0) aNil)))) (ZM (gNm 2) (e2 dIx (Zf 0) (Zf 1))) sNil) (ZI (ZM (gNm 3) (e2 dMod (Zf 2) (e2 dMul (e2 dPow (eC (.int 10)) (eC (.int 60))) (e2 dPow (eC (.int 10)) (eC (.int 30)))))) (Zal (ZbS (Zc (e2 dMul (Zf 3) (Zj bInt (Zc (e2 dGe (Zf 3) (e2 dPow (eC (.int 10)) (eC (.int 18)))) aNil))) (Zc (e2 dAdd (e2 dAdd (e2 dMod (Zf 2) (eC (.int 2147483647))) (e2 dMul (eC (.int 7919)) (Zf 1))) (eC (.int 1))) aNil)))))))
def F_law_purse:W3:=fnF Zbm 2 2
def ZbI:Sv:=(ZI (sIf (tv (e2 dGt (e2 dIx (Zf 0) (eC (.int 0))) (eC (.int 0)))) (ZI (ZM (gNm 2) (e2 dMod (e2 dIx (Zf 0) (eC (.int 0))) (Zf 1))) (ZI (ZkR (Zf 0) (eC (.int 0)) (e2 dDiv (e2 dIx (Zf 0) (eC (.int 0))) (Zf 1))) (Zal (Zf 2)))) sNil) (ZI (ZkR (Zf 0) (eC (.int 1)) (e2 dMod (e2 dAdd (e2 dMul (e2 dIx (Zf 0) (eC (.int 1))) (eC (.int 48271))) (eC (.int 12345))) (eC (.int 2147483647)))) (Zal (e2 dMod (e2 dDiv (e2 dMod (e2 dMul (e2 dIx (Zf 0) (eC (.int 1))) (eC (.int 69621))) (eC (.int 2147483629))) (eC (.int 5))) (Zf 1)))))
def F_law_take:W3:=fnF ZbI 2 1
end CB
namespace DL
noncomputable def hj(t b:Int):List Int:=if h:0<b then -((-t)/b)::hj b (-((-t)/b)*b-t)else[]
termination_by b.toNat
decreasing_by
 have h1:=dZ (-t) (show b≠0 by lia)
 have h2:=c9 (-t) h;have h3:=Int.emod_add_mul_ediv (-t) b;rw[lR,mY];lia
end DL
namespace CB
open L2 DL
section
variable {a:Int}{u v w:Pt}
structure Fb(u v w:Pt):Prop where
 one:X u w=1
 lo:0<=X w v
 hi:X w v<X u v
theorem Fb.uniq{w:Pt}(h:Fb u v w)(k:Fb u v w'):w=w':=by
 obtain⟨h1,a1,a2⟩:=h;obtain⟨h2,b1,b2⟩:=k;have e1:w'.1=X w' w*u.1+w.1/\w'.2=X w' w*u.2+w.2:=by unfold X at *;constructor<;>grind
 have e2:X w' v=X w' w*X u v+X w v:=by
  have:X w' v=X (X w' w*u.1+w.1,X w' w*u.2+w.2) v:=by rw[<-e1.1,<-e1.2]
  rw[this];unfold X;simp only;grind
 generalize X w' w=k at *;have k0:k=0:=by
  apply Classical.byContradiction;intro c;by_cases p:1<=k
  .have:1*X u v<=k*X u v:=bM p ⋯
   lia
  .have:k*X u v<=(-1)*X u v:=bM ⋯ ⋯
   lia
 rw[k0]at e1;apply eO<;>lia
noncomputable def btw:Pt->Pt->List Int->List Pt
 |_,_,[]=>[]
 |a,r,k::ks=>r::btw r (k*r.1-a.1,k*r.2-a.2) ks
end
end CB
namespace CB
open L2 DL
section
variable {a b d:Int}
theorem Zni{ns:List Int}{k:Nat}(hk:k<1000)(q:∀a b:Int,0<=a->Q (.ref M.length) (M++[.lst [.int a,.int b]])):wO (F_law_purse [.rol (ns.map D.int),.int k] M) Q E:=by
 have big:Zq 1000000000000000000000000000000000000000000000000000000000000 1000000000000000000000000000000:=Zp 300 300 (by decide +kernel) (by decide +kernel) (by decide) (by decide)
 simp![F_law_purse,Zbm];refine brS (λh1=>?_) (λh1=>?_)
 .have h2:k<ns.length:=by simpa using h1
  simp![Zke h2,ZB big];obtain⟨l,hl,l0⟩:∃l:Int,ns[k]%1000000000000000000000000000000000000000000000000000000000000000000000000000000000000000000=l/\0<=l:=⟨_,rfl,⋯⟩
  rw[hl];refine q _ _ ?_
  split<;>lia
 .simp![ZB big];exact q _ _ ⋯
theorem Z5(hb:Bag n M)(ht:0<t/\t<18446744073709551616)(q:∀r M',0<=r->r<t->Gr n M M'->Q (.int r) M'):wO (F_law_take [.ref n,.int t] M) Q E:=by
 obtain⟨a,b,ha,e⟩:=hb;have hl:n<M.length:=Zt e;have hs:∀x,(M.set n x)[n]?=some x:=λx=>aT hl;have gr:∀a' b',0<=a'->Gr n M (M.set n (.lst [.int a',.int b'])):=λa' b' h=>⟨by simp,⟨a',b',h,hs _⟩,λk hk _=>by rw[be (cC hk)]⟩
 have m1:=dZ a (show t≠0 by lia)
 have m2:=c9 a ht.1;simp![F_law_take,ZbI,e];refine brS (λh1=>?_) (λh1=>?_)
 .simp![e,ix0];exact q _ _ m1 m2 (gr _ _ (Int.ediv_nonneg ha ⋯))
 .simp![e,ix1];exact q _ _ (dZ _ ⋯) (c9 _ ht.1) (gr _ _ ha)
def Ch:List Pt->Prop
 |a::b::r=>X a b=1/\Ch (b::r)
 |_=>True
noncomputable def Tr(a b d:Pt):Prop:=∃k:Int,2<=k/\a.1+d.1=k*b.1/\a.2+d.2=k*b.2
def Cv:List Pt->Prop
 |a::b::d::r=>Tr a b d/\Cv (b::d::r)
 |_=>True
end
end CB
namespace CA
open L2 DL
end CA
namespace CA
open L2 DL
structure Tn(B a b c d:Int):Prop where
 fa: -B<=a/\a<=B
 fb: -B<=b/\b<=B
 fc: -B<=c/\c<=B
 fd: -B<=d/\d<=B
 det:a*d-b*c=1\/a*d-b*c= -1
theorem Zll(hx: -B<=x/\x<=B)(hy: -C<=y/\y<=C): -(B*C)<=x*y/\x*y<=B*C:=by
 have h:(x*y).natAbs<=(B*C).natAbs:=by
  rw[aR,aR];exact dQ ⋯ ⋯
 have:0<=B*C:=b9 ⋯ ⋯
 lia
section
variable {i:Int}{rs:List Pt}
theorem Zlm(h:rs≠[])(i:Int):cy rs.reverse i=cy rs (-1-i):=by
 have hl:rs.length≠0:=by simpa using h
 have e1:cy rs.reverse i=cy rs.reverse (i%rs.length):=by
  conv=>rhs;rw[<-d7 (as:=rs),Zct]
 have e2:cy rs (-1-i)=cy rs (-1-i%rs.length):=by
  unfold cy;congr 2;rw[Int.sub_emod,Int.sub_emod (-1) (i%rs.length),lP _ (Int.dvd_refl _)]
 rw[e1,e2];obtain⟨a,b⟩:=ZaN (i:=i) hl;generalize i%(rs.length:Int)=m at *;rw[Zbl (by rw[d7];lia),<-ZpU (rs:=rs),Zbl (by lia)]
 rw[aw,aw,ly (by omega)]
 congr 2;omega
theorem Znj(hl:3<=rs.length)(h:∀i:Int,X (cy rs i) (cy rs (i+1))= -1)(hf:Fan rs.reverse):Smo rs.reverse:=by
 have ne:rs≠[]:=by intro z;rw[z]at hl;simp at hl
 refine⟨by rw[d7];exact hl,λi=>?_,hf⟩
 rw[Zlm ne,Zlm ne,ZqG]
 have:=h (-1-(i+1))
 rw[show -1-(i+1)+1= -1-i by lia]at this
 omega
theorem Gr.up{M1:Sto}(h:M[k]?=some o)(g:Gr n M M1)(hk:k≠n):M1[k]?=some o:=by
 rw[g.keep k hk (Zt h)];exact h
end
end CA
namespace CY
open L2 DL CA
end CY
namespace CY
open L2 DL
theorem Gr.of(hb:Bag n M)(l:M.length<=M'.length)(g:∀k,k<M.length->M'[k]?=M[k]?):Gr n M M':=by
 refine⟨l,?_,λk _ hk=>g k hk⟩;obtain⟨a,b,h,e⟩:=id hb;exact⟨a,b,h,(g n hb.lt).trans e⟩
end CY
namespace CR
open L2 DL
def ZbJ:Sv:=(Zal (Zhb (ZnL "int" (Zf 0)) (Zhc (ZnL "bool" (Zf 0)))))
def F_is_whole:W3:=fnF ZbJ 1 0
def Zae:Sv:=(ZeA 2 3 (Zc (Zf 3) (Zc (e2 dMod (Zf 2) (Zf 3)) aNil)))
def Zay:Sv:=(ZI (ZeA 2 3 (Zc (Zj bAbs (Zc (Zf 0) aNil)) (Zc (Zj bAbs (Zc (Zf 1) aNil)) aNil))) (ZI (sWh (tv (e2 dNe (Zf 3) (eC (.int 0)))) Zae) (Zal (Zf 2))))
def F_greatest_divisor:W3:=fnF Zay 2 2
def ZeZ:Sv:=(ZI (sIf (Zg9 (ZdK (tv (Zj F_is_whole (Zc (Zf 0) aNil)))) (ZdK (tv (Zj F_is_whole (Zc (Zf 1) aNil))))) (Zd0 (PySem.Str.ofString "NoRatio") (Zc (eC (.str (PySem.Str.ofString "a ratio is made of two whole numbers"))) aNil)) sNil) (ZI (sIf (tv (e2 dEq (Zf 1) (eC (.int 0)))) (Zd0 (PySem.Str.ofString "NoRatio") (Zc (eC (.str (PySem.Str.ofString "the bottom of a ratio is not 0"))) aNil)) sNil) (ZI (ZM (gNm 2) (Zj F_greatest_divisor (Zc (Zf 0) (Zc (Zf 1) aNil)))) (ZI (sIf (tv (e2 dLt (Zf 1) (eC (.int 0)))) (ZM (gNm 2) (Zch (Zf 2))) sNil) (Zal (Z7 (Zc (e2 dDiv (Zf 0) (Zf 2)) (Zc (e2 dDiv (Zf 1) (Zf 2)) aNil))))))))
def F_ratio:W3:=fnF ZeZ 2 1
def Zln:Sv:=(Zal (Zj F_ratio (Zc (e2 dAdd (e2 dMul (e2 dIx (Zf 0) (eC (.int 0))) (e2 dIx (Zf 1) (eC (.int 1)))) (e2 dMul (e2 dIx (Zf 1) (eC (.int 0))) (e2 dIx (Zf 0) (eC (.int 1))))) (Zc (e2 dMul (e2 dIx (Zf 0) (eC (.int 1))) (e2 dIx (Zf 1) (eC (.int 1)))) aNil))))
def Ziy:W3:=fnF Zln 2 0
def Ze0:Sv:=(Zal (Zj F_ratio (Zc (e2 dMul (e2 dIx (Zf 0) (eC (.int 0))) (e2 dIx (Zf 1) (eC (.int 0)))) (Zc (e2 dMul (e2 dIx (Zf 0) (eC (.int 1))) (e2 dIx (Zf 1) (eC (.int 1)))) aNil))))
def F_times:W3:=fnF Ze0 2 0
end CR
namespace CR
open L2 DL
abbrev rt(q:Rat):D:=pr q.num (q.den:Int)
noncomputable def Sz(k:Nat)(q:Rat):Prop:=q.num.natAbs<2^k/\q.den<2^k
theorem ZqH:F_greatest_divisor=FGcd:=rfl
theorem ZbU(h:0<j)(hk:j.natAbs<2^k)(hk2:k<=8000):wO (dDiv (.int i) (.int j) M) Q E=Q (.int (i/j)) M:=by
 have:Zaz j:=⟨⋯,by
  have:j.natAbs.log2<k:=(Nat.log2_lt ⋯).mpr hk
  lia⟩
 show wO (if Zaz j then _ else _) Q E=_
 rw[if_pos this,jH _ ⋯];rfl
theorem Znk(hb:b≠0):rt (eG t b hb)=pr (t/(gN t b:Nat)) ((b:Int)/(gN t b:Nat)):=by
 unfold rt;rw[Rat.num_normalize,Rat.den_normalize,iJ];rfl
theorem ZqI{b:Nat}(hb:b≠0)(h:b<2^k):0<gN t b/\gN t b<2^k:=by
 have h1:gN t b ∣ b:=Int.gcd_dvd_natAbs_right t b;have h2:=mD ⋯ h1
 have h3:gN t b≠0:=λz=>by
  rw[z]at h1;exact hb (Nat.eq_zero_of_zero_dvd h1)
 lia
theorem Zdo{b:Nat}(hb:b≠0)(h:b<2^k)(hk:k<=8000):wO (F_ratio [.int t,.int b] M) Q E=Q (rt (eG t b hb)) M:=by
 obtain⟨g0,g1⟩:=ZqI (t:=t) hb h;have gw:∀{Q:W0},wO (FGcd [.int t,.int b] M) Q E=Q (.int (gN t b:Nat)) M:=by
  intro Q;rw[Zk9];rfl
 rw[Znk hb];generalize gN t b=g at *;simp![F_ratio,ZeZ,F_is_whole,ZbJ,ZqH,gw];rw[ZbU (k:=k) ⋯ (by simpa using g1) hk]
 simp![Zm];rw[ZbU (k:=k) ⋯ (by simpa using g1) hk]
 simp![Zm]
theorem Ze1(hb:b≠0)(ht:t.natAbs<2^k)(h:b<2^k):Sz k (eG t b hb):=by
 refine⟨?_,?_⟩
 .rw[Rat.num_normalize];exact fP (Int.natAbs_ediv_le_natAbs _ _) ht
 .rw[Rat.den_normalize];exact fP (i9 _ _) h
theorem Z6(hx:x<2^k)(hy:y<2^l):x*y<2^(k+l):=by
 rw[iX];exact Nat.mul_lt_mul'' hx hy
theorem ZuQ(hp:Sz k p)(hq:Sz l q)(hk:k+l<=8000):wO (Ziy [rt p,rt q] M) Q E=Q (rt (p+q)) M:=by
 have nz:p.den*q.den≠0:=lf p.den_nz q.den_nz;have f1:Zq p.num (q.den:Int):=Zp k l hp.1 (by simpa using hq.2) ⋯ ⋯
 have f2:Zq q.num (p.den:Int):=Zp l k hq.1 (by simpa using hp.2) ⋯ ⋯
 have f3:Zq (p.den:Int) (q.den:Int):=Zp k l (by simpa using hp.2) (by simpa using hq.2) ⋯ ⋯
 simp![Ziy,Zln,ZB f1,ZB f2,ZB f3];rw[show(p.den:Int)*(q.den:Int)=((p.den*q.den:Nat):Int)by simp,Zdo nz (Z6 hp.2 hq.2) hk,<-Rat.add_def]
theorem Zdp(hp:Sz k p)(hq:Sz l q)(hk:k+l<=8000):wO (F_times [rt p,rt q] M) Q E=Q (rt (p*q)) M:=by
 have nz:p.den*q.den≠0:=lf p.den_nz q.den_nz;have f1:Zq p.num q.num:=Zp k l hp.1 hq.1 ⋯ ⋯
 have f3:Zq (p.den:Int) (q.den:Int):=Zp k l (by simpa using hp.2) (by simpa using hq.2) ⋯ ⋯
 simp![F_times,Ze0,ZB f1,ZB f3];rw[show(p.den:Int)*(q.den:Int)=((p.den*q.den:Nat):Int)by simp,Zdo nz (Z6 hp.2 hq.2) hk,<-nE]
theorem ZbV(hp:Sz k p)(hq:Sz l q):Sz (k+l) (p*q):=by
 rw[nE];exact Ze1 _ (by rw[aR];exact Z6 hp.1 hq.1) (Z6 hp.2 hq.2)
end CR
namespace CH
open L2 DL CA CR
end CH
namespace CH
open L2 DL
open CR (rt Sz)
def rts(hs:List Rat):List D:=hs.map rt
theorem ZH:(rts hs).length=hs.length:=au _
end CH
namespace CS
open L2 DL CC CR
def Ze2:Sv:=(Zal (Zj F_ratio (Zc (e2 dSub (e2 dMul (e2 dIx (Zf 0) (eC (.int 0))) (e2 dIx (Zf 1) (eC (.int 1)))) (e2 dMul (e2 dIx (Zf 1) (eC (.int 0))) (e2 dIx (Zf 0) (eC (.int 1))))) (Zc (e2 dMul (e2 dIx (Zf 0) (eC (.int 1))) (e2 dIx (Zf 1) (eC (.int 1)))) aNil))))
def F_minus:W3:=fnF Ze2 2 0
def Zaq:Sv:=(ZI (ZM (gTp (gCs (gTp (gCs (gNm 2) (gCs (gNm 3) gNl))) (gCs (gTp (gCs (gNm 4) (gCs (gNm 5) gNl))) gNl))) (Z7 (Zc (e2 dIx (Zf 0) (eC (.int 0))) (Zc (e2 dIx (Zf 0) (eC (.int 1))) aNil)))) (ZI (ZeA 6 7 (Zc (e2 dIx (Zf 1) (eC (.int 0))) (Zc (e2 dIx (Zf 1) (eC (.int 1))) aNil))) (Zal (Z7 (Zc (Zj F_minus (Zc (Zj F_times (Zc (Zf 6) (Zc (Z7 (Zc (Zf 5) (Zc (eC (.int 1)) aNil))) aNil))) (Zc (Zj F_times (Zc (Zf 7) (Zc (Z7 (Zc (Zf 3) (Zc (eC (.int 1)) aNil))) aNil))) aNil))) (Zc (Zj F_minus (Zc (Zj F_times (Zc (Zf 7) (Zc (Z7 (Zc (Zf 2) (Zc (eC (.int 1)) aNil))) aNil))) (Zc (Zj F_times (Zc (Zf 6) (Zc (Z7 (Zc (Zf 4) (Zc (eC (.int 1)) aNil))) aNil))) aNil))) aNil))))))
def F_slope_through:W3:=fnF Zaq 2 6
def Za6:Sv:=(sIf (tv (e2 dNe (Zj bLen (Zc (Zf 1) aNil)) (Zj bLen (Zc (Zf 0) aNil)))) (Zd0 (PySem.Str.ofString "NoHeight") (Zc (eFs (Zdb (eC (.str (PySem.Str.ofString "a height of "))) (Zdb (eFm (Zj bLen (Zc (Zf 0) aNil))) (Zdb (eC (.str (PySem.Str.ofString " rays has not "))) (Zdb (eFm (Zj bLen (Zc (Zf 1) aNil))) (Zdb (eC (.str (PySem.Str.ofString " ratios"))) jNil)))))) aNil)) sNil)
def F_ask_height:W3:=fnF Za6 2 0
end CS
namespace CS
open L2 DL
open CR (rt Sz)
theorem Zlo(z:Int):pr z 1=rt (z:Rat):=by
 unfold rt;rw[Rat.num_intCast,Rat.den_intCast];rfl
theorem Zei{z:Int}(h:z.natAbs<2^k)(hk:1<=k):Sz k (z:Rat):=by
 refine⟨by rw[Rat.num_intCast];exact h,by rw[Rat.den_intCast];exact Nat.one_lt_two_pow ⋯⟩
theorem Ziz(hp:Sz k p)(hq:Sz l q)(hk:k+l<=8000):wO (F_minus [rt p,rt q] M) Q E=Q (rt (p-q)) M:=by
 have nz:p.den*q.den≠0:=lf p.den_nz q.den_nz;have f1:Zq p.num (q.den:Int):=Zp k l hp.1 (by simpa using hq.2) ⋯ ⋯
 have f2:Zq q.num (p.den:Int):=Zp l k hq.1 (by simpa using hp.2) ⋯ ⋯
 have f3:Zq (p.den:Int) (q.den:Int):=Zp k l (by simpa using hp.2) (by simpa using hq.2) ⋯ ⋯
 simp![F_minus,Ze2,ZB f1,ZB f2,ZB f3];rw[show(p.den:Int)*(q.den:Int)=((p.den*q.den:Nat):Int)by simp,CR.Zdo nz (CR.Z6 hp.2 hq.2) hk,<-Rat.sub_def]
theorem Zlp(hp:Sz k p)(hq:Sz l q):Sz (k+l+1) (p-q):=by
 rw[Rat.sub_def];have h1:=CR.Z6 hp.1 hq.2;have h2:=CR.Z6 hq.1 hp.2;have h3:=CR.Z6 hp.2 hq.2;rw[kO l k]at h2;refine CR.Ze1 _ ?_ ?_
 .have e1:(p.num*(q.den:Int)).natAbs=p.num.natAbs*q.den:=by rw[aR];rfl
  have e2:(q.num*(p.den:Int)).natAbs=q.num.natAbs*p.den:=by rw[aR];rfl
  have:=jX (p.num*(q.den:Int)) (q.num*(p.den:Int))
  rw[mZ];lia
 .rw[mZ];lia
noncomputable def slp(m:Rat×Rat)(r:Pt):Rat:=m.1*(r.1:Rat)+m.2*(r.2:Rat)
end CS
namespace CN
open L2 DL
open CC (F_following)
open CR (Ziy F_times)
open CS (F_ask_height)
end CN
namespace CN
open L2 DL
open CR (rt Sz)
open CH (rts ZH)
noncomputable def cq(hs:List Rat)(i:Int):Rat:=hs.getD (i%hs.length).toNat 0
theorem Zlq(h: -(hs.length:Int)<=i/\i<hs.length):atI (rts hs) i=some (rt (cq hs i)):=by
 unfold atI;rw[ZH,Ziq h];have hp:(i%hs.length).toNat<hs.length:=by
  have:=c9 i (show(0:Int)<hs.length by lia)
  have:=dZ i (show(hs.length:Int)≠0 by lia)
  lia
 simp[rts,cq,ae hp]
theorem ZiA{hs:List Rat}(h:k<hs.length):cq hs k=hs[k]:=by
 unfold cq;rw[fv ⋯ ⋯]
 simp[ae h]
theorem Zej(h:∀x∈hs,Sz k x)(hn:hs.length≠0):Sz k (cq hs i):=by
 unfold cq
 have:=(ZaN (i:=i) hn).1
 rw[aw,ae this];exact h _ (bU this)
theorem Zdq(h:i<(rts hs).length):(rts hs)[i]=rt (cq hs i):=by
 rw[ZH]at h;rw[ZiA h];simp[rts]
def dot(xs ys:List Rat):Nat->Rat
 |0=>0
 |n+1=>dot xs ys n+cq xs n*cq ys n
theorem Zek(h:M[n]?=some (.lst (prs rs)))(h':M[m]?=some (.lst (rts hs)))(e:hs.length=rs.length)(q:Q .non M):wO (CS.F_ask_height [.ref n,.ref m] M) Q E:=by
 simp![CS.F_ask_height,CS.Za6,h,h',ZH,e];exact q
end CN
namespace CN
open L2 DL
open CR (rt Sz)
open CH (rts ZH)
theorem Zkr(t:Int)(x:Rat):eG (t*x.num) x.den x.den_nz=(t:Rat)*x:=by
 rw[nE];simp
end CN
namespace CN
open L2 DL
open CR (rt Sz)
open CH (rts ZH)
end CN
namespace CU
open L2 DL
open CC (F_ask_smooth)
open CS (F_ask_height F_minus F_slope_through)
end CU
namespace CU
open L2 DL
open CR (rt Sz)
open CH (rts ZH)
open CN CS
def thr(rs:List Pt)(hs:List Rat):Rat×Rat:=(cq hs 0*(cy rs 1).2-cq hs 1*(cy rs 0).2,cq hs 1*(cy rs 0).1-cq hs 0*(cy rs 1).1)
abbrev rp(m:Rat×Rat):D:=.tup [rt m.1,rt m.2]
theorem Zlr(h:rt p=rt q):p=q:=by
 unfold rt pr at h;injection h with h;injection h with h1 h;injection h with h2;injection h1 with h1;injection h2 with h2;exact Rat.ext h1 ⋯
theorem ZiB(h:M[n]?=some (.lst (prs rs)))(hb:Nr B rs)(h2:2<=rs.length)(h':M[m]?=some (.lst (rts hs)))(e:2<=hs.length)(hz:∀x∈hs,Sz k x)(hk:k<=2000)(hB:B<=400:=by first|decide|assumption):wO (F_slope_through [.ref n,.ref m] M) Q E=Q (rp (thr rs hs)) M:=by
 have hn:rs≠[]:=by intro z;rw[z]at h2;simp at h2
 have a:=hb _ (Zbj (i:=0) hn);have b:=hb _ (Zbj (i:=1) hn);have z0:=Zej (i:=0) hz ⋯
 have z1:=Zej (i:=1) hz ⋯
 simp![F_slope_through,Zaq,h,h',ZfU,Zlq];have sz (z:Int) (hz: -B<=z/\z<=B):Sz 9 (z:Rat):=Zei ⋯ (by decide)
 have re (z:Int):D.tup [D.int z,D.int 1]=rt (z:Rat):=Zlo z;rw[re,CR.Zdp z0 (sz _ b.2) ⋯]
 simp![Zm];rw[re,CR.Zdp z1 (sz _ a.2) ⋯]
 simp![Zm];rw[Ziz (CR.ZbV z0 (sz _ b.2)) (CR.ZbV z1 (sz _ a.2)) ⋯]
 simp![Zm];rw[re,CR.Zdp z1 (sz _ a.1) ⋯]
 simp![Zm];rw[re,CR.Zdp z0 (sz _ b.1) ⋯]
 simp![Zm];rw[Ziz (CR.ZbV z1 (sz _ a.1)) (CR.ZbV z0 (sz _ b.1)) ⋯]
 simp![Zm];rfl
end CU
namespace CV
open L2 DL
open CR (rt Sz)
open CH (rts ZH)
open CN CU CS
noncomputable def Kp(M M':Sto):Prop:=M.length<=M'.length/\∀j<M.length,M'[j]?=M[j]?
section
variable {M M1 M2:Sto}{j:Nat}
theorem Kp.get(k:Kp M M')(h:M[j]?=some o):M'[j]?=some o:=(k.2 _ (Zt h)).trans h
theorem Kp.refl:Kp M M:=⟨af _,λ_ _=>rfl⟩
theorem Kp.trans(a:Kp M M1)(b:Kp M1 M2):Kp M M2:=⟨aM a.1 b.1,λj h=>(b.2 j (aj h a.1)).trans (a.2 j h)⟩
theorem Kp.app:Kp M (M++L):=⟨by simp,λj h=>ZbZ h⟩
theorem Kp.set(a:Kp M M1)(h:M.length<=j):Kp M (M1.set j o):=⟨by rw[dA];exact a.1,λi hi=>by rw[be ⋯];exact a.2 i hi⟩
theorem Kp.bag(k:Kp M M')(b:Bag n M):Bag n M':=(CY.Gr.of b k.1 k.2).bag
theorem Kp.gr(k:Kp M M')(b:Bag n M):Gr n M M':=CY.Gr.of b k.1 k.2
end
theorem ZqJ(h:Sz a x)(hab:a<=b):Sz b x:=⟨aj h.1 (cK (by decide) hab),aj h.2 (cK (by decide) hab)⟩
end CV
namespace CW
open L2 DL
end CW
namespace CW
open L2 DL
open CV
def fx(rs:List Pt):Nat:=((ZtA rs).findIdx? (λt=>decide (t= -1))).getD 0
end CW
namespace CB
open L2 DL
end CB
namespace CL
open L2 DL
open CC (F_following)
end CL
namespace CL
open L2 DL
open CV CB
end CL
namespace TW
open DL
noncomputable def nx(b:Int)(p q:Pt):Pt:=(0-b*q.1-p.1,0-b*q.2-p.2)
noncomputable def ng(p:Pt):Pt:=(0-p.1,0-p.2)
def run(p q:Pt):List Int->Pt×Pt
 |[]=>(p,q)
 |b::bs=>run q (nx b p q) bs
def ew(p q:Pt):Nat:=in1 (1,0) p q+in1 (-1,0) p q
noncomputable def st(a:Pt):Int:=if 0<a.2\/(a.2=0/\a.1<0)then 1 else 0
end TW
namespace TW
open DL
section
variable {rs:List Pt}
def Zv8(rs:List Pt):Int->Nat->List Int
 |_,0=>[]
 |i,k+1=>T rs (i+1)::Zv8 rs (i+1) k
def sf(f:Pt->Pt->Nat)(rs:List Pt):Int->Nat->Nat
 |_,0=>0
 |i,k+1=>f (cy rs i) (cy rs (i+1))+sf f rs (i+1) k
theorem ZtB(hn:rs≠[]):∀(k i:Nat),i+k=rs.length->cc f ((rs++rs.take 1).drop i)=sf f rs i k:=by
 have l0:0<rs.length:=jc.mpr hn;have ga:∀i:Nat,i<=rs.length->(rs++rs.take 1)[i]?=some (cy rs i):=by
  intro i hi;by_cases c:i<rs.length
  .rw[aC c,Zbl ⋯,ZbB ⋯,ae c]
   simp
  .have:i=rs.length:=⋯
   subst this;rw[aK (af _),fQ,<-Zee,Int.sub_self,Zbl ⋯,ZbB ⋯]
   rw[dI (by decide),ae ⋯]
   simp
 have lch:(rs++rs.take 1).length=rs.length+1:=by simp;lia
 have dr:∀i:Nat,i<=rs.length->(rs++rs.take 1).drop i=cy rs i::(rs++rs.take 1).drop (i+1):=by
  intro i hi;rw[cQ ⋯]
  have:=ga i hi
  rw[ae ⋯]at this
  rw[aQ this]
 intro k
 induction k with
 |zero=>
  intro i hi;rw[dr i ⋯,d8 ⋯]
  rfl
 |succ k ih=>
  intro i hi
  have:=ih (i+1) ⋯
  rw[dr i ⋯]
  rw[dr (i+1) ⋯]at this ⊢
  rw[cc,this,sf];rfl
theorem ZfW(hn:rs≠[]):cyc f rs=sf f rs 0 rs.length:=by
 have:=ZtB (f:=f) hn rs.length 0 ⋯
 exact this
end
end TW
namespace CT
open L2 DL
end CT
namespace CT
open L2 DL
open CV TW
section
variable {L:List Int}
def Cl(L:List Int):Prop:=run (1,0) (0,1) L=((1,0),(0,1))
instance (L:List Int):Decidable (Cl L):=by unfold Cl;infer_instance
end
end CT
namespace CT
open L2 DL
open CV
open TW (nx)
end CT
namespace DL
section
variable {rs:List Pt}
theorem Zks(hl:rs≠[])(h:cyc f rs=0)(i:Int):f (cy rs i) (cy rs (i+1))=0:=by
 have l0:rs.length≠0:=λz=>hl (List.length_eq_zero_iff.mp z);refine Zdm (P:=λa b=>f a b=0) l0 ?_ i;intro i h0 h1;rw[TW.ZfW hl]at h
 have:∀(k:Nat)(j:Int),TW.sf f rs j k=0->∀m:Nat,m<k->f (cy rs (j+m)) (cy rs (j+m+1))=0:=by
  intro k
  induction k with
  |zero=>intro j _ m hm;lia
  |succ k ih=>
   intro j h m hm;rw[TW.sf]at h;cases m with
   |zero=>
    rw[show j+((0:Nat):Int)=j by lia]
    lia
   |succ m=>
    have:=ih (j+1) ⋯ m ⋯
    rw[show j+((m+1:Nat):Int)=j+1+m by lia]
    exact this
 have:=this rs.length 0 h i.toNat ⋯
 rw[show(0:Int)+(i.toNat:Nat)=i by lia]at this
 exact this
theorem Ze3(hl:rs≠[])(h:∀i:Int,f (cy rs i) (cy rs (i+1))=0):cyc f rs=0:=by
 rw[TW.ZfW hl]
 have:∀(k:Nat)(j:Int),TW.sf f rs j k=0:=by
  intro k
  induction k with
  |zero=>intro j;rfl
  |succ k ih=>intro j;rw[TW.sf,h,ih]
 exact this _ _
def nxp(a b:Pt):Nat:=if 0<X a b then 0 else 1
theorem ZtC(h:nxp a b=0):0<X a b:=by
 unfold nxp at h
 split at h
 .assumption
 .lia
theorem ZqK(h:0<X a b):nxp a b=0:=by unfold nxp;rw[if_pos h]
structure Rn(rs:List Pt):Prop where
 len:3<=rs.length
 ps:cyc nxp rs=0
 gc:∀p∈rs,gN p.1 p.2=1
 fan:Fan rs
theorem Rn.ne(h:Rn rs):rs≠[]:=by
 intro z
 have:=h.len
 rw[z]at this;simp at this
theorem Rn.pos(h:Rn rs)(i:Int):0<X (cy rs i) (cy rs (i+1)):=ZtC (Zks h.ne h.ps i)
theorem ZtD(h:X a b=1):gN a.1 a.2=1/\gN b.1 b.2=1:=by
 unfold X at h;constructor
 .have d1:((gN a.1 a.2:Nat):Int) ∣ a.1*b.2-a.2*b.1:=Int.dvd_sub (ku (Int.gcd_dvd_left _ _)) (ku (Int.gcd_dvd_right _ _));rw[h]at d1;exact lC (kz.mp d1)
 .have d1:((gN b.1 b.2:Nat):Int) ∣ a.1*b.2-a.2*b.1:=Int.dvd_sub (ke (Int.gcd_dvd_right _ _)) (ke (Int.gcd_dvd_left _ _));rw[h]at d1;exact lC (kz.mp d1)
theorem ZqL{p:Pt}(h:p∈rs):∃i:Int,p=cy rs i:=by
 obtain⟨L,R,rfl⟩:=List.append_of_mem h;exact⟨L.length,ZqF.symm⟩
theorem Smo.rn(h:Smo rs):Rn rs:=by
 refine⟨h.len,Ze3 h.ne λi=>ZqK (by rw[h.one i];decide),λp hp=>?_,h.fan⟩
 obtain⟨i,rfl⟩:=ZqL hp;exact(ZtD (h.one i)).1
end
open TW
open CT (Cl)
section
variable {rs us:List Pt}
theorem ZqM{f:Pt->Pt->Nat}:∀(k:Nat)(j:Int)(m:Nat),m<k->f (cy rs (j+m)) (cy rs (j+m+1))<=sf f rs j k
 |0,_,_,h=>absurd h (Nat.not_lt_zero _)
 |k+1,j,0,_=>by rw[sf];simp
 |k+1,j,m+1,h=>by
  have:=ZqM (f:=f) k (j+1) m ⋯
  rw[sf,show j+((m+1:Nat):Int)=j+1+m by lia]
  lia
theorem ZiC{f:Pt->Pt->Nat}:∀(k:Nat)(j:Int)(m l:Nat),m<l->l<k->f (cy rs (j+m)) (cy rs (j+m+1))+f (cy rs (j+l)) (cy rs (j+l+1))<=sf f rs j k
 |0,_,_,_,_,h=>absurd h (Nat.not_lt_zero _)
 |k+1,j,0,l+1,_,h=>by
  have:=ZqM (f:=f) (rs:=rs) k (j+1) l ⋯
  rw[sf,show j+((l+1:Nat):Int)=j+1+l by lia]
  simp;omega
 |k+1,j,m+1,l+1,h1,h=>by
  have:=ZiC (f:=f) k (j+1) m l ⋯ ⋯
  rw[sf,show j+((m+1:Nat):Int)=j+1+m by lia,show j+((l+1:Nat):Int)=j+1+l by lia]
  omega
theorem Ze4:(aJ us.length).map (λ(j:Nat)=>cy us j)=us:=by
 apply eK
 .simp
 .intro i h1 h2;simp[Zad h2]
noncomputable abbrev sw(p:Pt):Pt:=(p.2,p.1)
end
end DL
namespace CB
open DL
section
variable {u v w:Pt}
def kl:List Pt->List Int
 |a::b::d::r=>X a d::kl (b::d::r)
 |_=>[]
theorem Xvv(p:Pt):X p p=0:=by unfold X;grind
theorem ZtE:∀(r:List Pt)(a b:Pt)(v:Pt),Ch (a::b::r)->Cv (a::b::r)->(b::r).getLast (by simp)=v->0<=X b v/\X b v<X a v
 |[],a,b,v,h,_,e=>by
  have:b=v:=e
  subst this;rw[Xvv,h.1];lia
 |c::r,a,b,v,h,k,e=>by
  have ih:=ZtE r b c v h.2 k.2 (by rw[<-e];simp[List.getLast_cons])
  obtain⟨m,m2,e1,e2⟩:=k.1;have ex:X a v+X c v=m*X b v:=by unfold X;grind
  have:2*X b v<=m*X b v:=bM m2 ⋯
  lia
theorem Znl(hb:0<b)(h0:0<=c)(h1:c<b)(e:t+c=k*b): -((-t)/b)=k:=by
 have: -t=c+b*(-k):=by grind
 rw[this,Int.add_mul_ediv_left _ _ ⋯,Int.ediv_eq_zero_of_lt h0 h1]
 lia
theorem only:∀(ws:List Pt)(u v w:Pt),Ch (u::(ws++[v]))->Cv (u::(ws++[v]))->Fb u v w->ws=btw u w (hj (X u v) (X w v))/\kl (u::(ws++[v]))=hj (X u v) (X w v)
 |[],u,v,w,h,k,f=>by
  have h1:X u v=1:=h.1;have l:=f.lo;have l2:=f.hi;have w0:X w v=0:=⋯
  rw[w0];unfold hj;rw[dif_neg (by decide)]
  exact⟨rfl,rfl⟩
 |x::ws,u,v,w,h,k,f=>by
  have hl:(x::(ws++[v])).getLast (by simp)=v:=by simp[List.getLast_cons]
  have d:=ZtE (ws++[v]) u x v h k hl;have fx:Fb u v x:=⟨h.1,d.1,d.2⟩;have ew:=fx.uniq f;subst ew;obtain⟨y,R,eR⟩:∃y R,ws++[v]=y::R:=by
   cases ws with
   |nil=>exact⟨v,[],rfl⟩
   |cons y R=>exact⟨y,R++[v],rfl⟩
  have h':Ch (x::y::R):=by rw[<-eR];exact h.2
  have kk:Cv (u::x::y::R):=by rw[<-eR];exact k
  have hl2:(y::R).getLast (by simp)=v:=by
   have:(ws++[v]).getLast (by simp)=v:=by simp
   simpa [eR]using this
  have d2:=ZtE R x y v h' kk.2 hl2;obtain⟨m,m2,e1,e2⟩:=kk.1;have ex:X u v+X y v=m*X x v:=by unfold X;grind
  have hc:=Znl (by omega) d2.1 d2.2 ex
  have ey:(m*x.1-u.1,m*x.2-u.2)=y:=by apply eO<;>simp only<;>lia
  have m3:X u y=m:=by
   have:=h.1
   rw[<-ey];unfold X at *;simp only;grind
  have fy:Fb x v y:=⟨h'.1,d2.1,d2.2⟩;have ih:=only ws x v y (by rw[eR];exact h') (by rw[eR];exact kk.2) fy
  have ej:hj (X u v) (X x v)=m::hj (X x v) (X y v):=by
   rw[hj,dif_pos (by omega),hc]
   congr 2;lia
  rw[ej];constructor
  .rw[btw,ey,<-ih.1]
  .show kl (u::x::(ws++[v]))=_;rw[eR,kl,m3,<-eR,ih.2]
end
end CB
namespace CD
open L2 DL
open CB (F_law_take)
open CC (F_ask_smooth)
open CS (F_minus)
def Zar:Sv:=(ZI (ZM (gNm 2) (e2 dIx (Zf 0) (e2 dMod (e2 dAdd (Zf 1) (eC (.int 1))) (Zj bLen (Zc (Zf 0) aNil))))) (Zal (e2 dAdd (e2 dAdd (eSl (Zf 0) oNo (oSo (e2 dAdd (Zf 1) (eC (.int 1))))) (ZbS (Zc (Z7 (Zc (e2 dAdd (e2 dIx (e2 dIx (Zf 0) (Zf 1)) (eC (.int 0))) (e2 dIx (Zf 2) (eC (.int 0)))) (Zc (e2 dAdd (e2 dIx (e2 dIx (Zf 0) (Zf 1)) (eC (.int 1))) (e2 dIx (Zf 2) (eC (.int 1)))) aNil))) aNil))) (eSl (Zf 0) (oSo (e2 dAdd (Zf 1) (eC (.int 1)))) oNo))))
def F_law_short_put:W3:=fnF Zar 2 1
def ZaQ:Sv:=(ZI (ZM (gNm 6) (Zj F_law_short_put (Zc (Zf 3) (Zc (Zj F_law_take (Zc (Zf 0) (Zc (Zj bLen (Zc (Zf 3) aNil)) aNil))) aNil)))) (sIf (Zcf (tv (e2 dLt (Zj bLen (Zc (Zf 3) aNil)) (Zf 4))) (tv (e2 dLt (Zj (ZbF kj) (Zc (Zaj (iSq (Zf 6)) 2 [] (gTp (gCs (gNm 0) (gCs (gNm 1) gNl))) (λ_ M=>.ok true M) (Zj bMax (Zc (Zj bAbs (Zc (Zf 0) aNil)) (Zc (Zj bAbs (Zc (Zf 1) aNil)) aNil)))) aNil)) (eC (.int 8))))) (ZM (gNm 3) (Zf 6)) sNil))
def ZbK:Sv:=(ZI (ZM (gNm 2) (Zj F_law_take (Zc (Zf 0) (Zc (eC (.int 5)) aNil)))) (ZI (ZM (gNm 3) (e2 dIx (ZbS (Zc (ZbS (Zc (Z7 (Zc (eC (.int 1)) (Zc (eC (.int 0)) aNil))) (Zc (Z7 (Zc (eC (.int 0)) (Zc (eC (.int 1)) aNil))) (Zc (Z7 (Zc (Zch (eC (.int 1))) (Zc (Zch (eC (.int 1))) aNil))) aNil)))) (Zc (ZbS (Zc (Z7 (Zc (eC (.int 1)) (Zc (eC (.int 0)) aNil))) (Zc (Z7 (Zc (eC (.int 0)) (Zc (eC (.int 1)) aNil))) (Zc (Z7 (Zc (Zch (eC (.int 1))) (Zc (e2 dSub (Zf 2) (eC (.int 1))) aNil))) (Zc (Z7 (Zc (eC (.int 0)) (Zc (Zch (eC (.int 1))) aNil))) aNil))))) aNil))) (Zj bInt (Zc (e2 dGt (Zf 2) (eC (.int 0))) aNil)))) (ZI (ZM (gNm 4) (e2 dIx (ZbS (Zc (e2 dAdd (eC (.int 3)) (Zj F_law_take (Zc (Zf 0) (Zc (e2 dSub (Zf 1) (eC (.int 2))) aNil)))) (Zc (Zf 1) aNil))) (Zj bInt (Zc (e2 dEq (Zj F_law_take (Zc (Zf 0) (Zc (eC (.int 6)) aNil))) (eC (.int 3))) aNil)))) (ZI (Zbu (gNm 5) (Zc (e2 dMul (eC (.int 4)) (Zf 1)) aNil) ZaQ) (Zal (Zf 3))))))
def F_law_base:W3:=fnF ZbK 2 5
def ZaA:Sv:=(ZI (ZM (gNm 3) (e2 dIx (ZbS (Zc (e2 dSub (Zj F_law_take (Zc (Zf 0) (Zc (eC (.int 5)) aNil))) (eC (.int 2))) (Zc (e2 dSub (Zj F_law_take (Zc (Zf 0) (Zc (eC (.int 15)) aNil))) (eC (.int 7))) aNil))) (Zj bInt (Zc (e2 dEq (Zj F_law_take (Zc (Zf 0) (Zc (eC (.int 8)) aNil))) (eC (.int 5))) aNil)))) (sIf (tv (e2 dEq (Zj F_law_take (Zc (Zf 0) (Zc (eC (.int 2)) aNil))) (eC (.int 0)))) (ZM (gNm 1) (ZbS (Zc (e2 dAdd (e2 dIx (Zf 1) (eC (.int 0))) (e2 dMul (Zf 3) (e2 dIx (Zf 1) (eC (.int 2))))) (Zc (e2 dAdd (e2 dIx (Zf 1) (eC (.int 1))) (e2 dMul (Zf 3) (e2 dIx (Zf 1) (eC (.int 3))))) (Zc (e2 dIx (Zf 1) (eC (.int 2))) (Zc (e2 dIx (Zf 1) (eC (.int 3))) aNil)))))) (ZM (gNm 1) (ZbS (Zc (e2 dIx (Zf 1) (eC (.int 0))) (Zc (e2 dIx (Zf 1) (eC (.int 1))) (Zc (e2 dAdd (e2 dIx (Zf 1) (eC (.int 2))) (e2 dMul (Zf 3) (e2 dIx (Zf 1) (eC (.int 0))))) (Zc (e2 dAdd (e2 dIx (Zf 1) (eC (.int 3))) (e2 dMul (Zf 3) (e2 dIx (Zf 1) (eC (.int 1))))) aNil))))))))
def Zbn:Sv:=(ZI (ZM (gNm 1) (ZbS (Zc (eC (.int 1)) (Zc (eC (.int 0)) (Zc (eC (.int 0)) (Zc (eC (.int 1)) aNil)))))) (ZI (Zbu (gNm 2) (Zc (Zj F_law_take (Zc (Zf 0) (Zc (eC (.int 4)) aNil))) aNil) ZaA) (ZI (sIf (tv (e2 dEq (Zj F_law_take (Zc (Zf 0) (Zc (eC (.int 3)) aNil))) (eC (.int 0)))) (ZM (gNm 1) (ZbS (Zc (e2 dIx (Zf 1) (eC (.int 2))) (Zc (e2 dIx (Zf 1) (eC (.int 3))) (Zc (e2 dIx (Zf 1) (eC (.int 0))) (Zc (e2 dIx (Zf 1) (eC (.int 1))) aNil)))))) sNil) (ZI (sIf (tv (e2 dGt (Zj (ZbF kj) (Zc (Zaj (iSq (Zf 1)) 1 [] (gNm 0) (λ_ M=>.ok true M) (Zj bAbs (Zc (Zf 0) aNil))) aNil)) (eC (.int 14)))) (Zal (ZbS (Zc (eC (.int 0)) (Zc (eC (.int 1)) (Zc (eC (.int 1)) (Zc (eC (.int 0)) aNil)))))) sNil) (Zal (Zf 1))))))
def F_law_table:W3:=fnF Zbn 1 3
def ZbL:Sv:=(ZI (ZM (gNm 4) (Zaj (iZp (Zc (Zf 1) (Zc (Zf 2) aNil))) 3 [0] (gTp (gCs (gTp (gCs (gNm 0) (gCs (gNm 1) gNl))) (gCs (gNm 2) gNl))) (λ_ M=>.ok true M) (Z7 (Zc (Z7 (Zc (e2 dAdd (e2 dMul (e2 dIx (Zf 3) (eC (.int 0))) (Zf 0)) (e2 dMul (e2 dIx (Zf 3) (eC (.int 1))) (Zf 1))) (Zc (e2 dAdd (e2 dMul (e2 dIx (Zf 3) (eC (.int 2))) (Zf 0)) (e2 dMul (e2 dIx (Zf 3) (eC (.int 3))) (Zf 1))) aNil))) (Zc (Zf 2) aNil))))) (ZI (sIf (tv (e2 dLt (e2 dSub (e2 dMul (e2 dIx (Zf 0) (eC (.int 0))) (e2 dIx (Zf 0) (eC (.int 3)))) (e2 dMul (e2 dIx (Zf 0) (eC (.int 1))) (e2 dIx (Zf 0) (eC (.int 2))))) (eC (.int 0)))) (ZM (gNm 4) (Zj bLR (Zc (Zf 4) aNil))) sNil) (ZI (ZM (gNm 4) (e2 dAdd (eSl (Zf 4) (oSo (Zf 3)) oNo) (eSl (Zf 4) oNo (oSo (Zf 3))))) (Zal (Z7 (Zc (Zaj (iSq (Zf 4)) 2 [] (gTp (gCs (gNm 0) (gCs (gNm 1) gNl))) (λ_ M=>.ok true M) (Zf 0)) (Zc (Zaj (iSq (Zf 4)) 2 [] (gTp (gCs (gNm 0) (gCs (gNm 1) gNl))) (λ_ M=>.ok true M) (Zf 1)) aNil)))))))
def F_law_spun:W3:=fnF ZbL 4 1
def ZiD:Sv:=(Zal (e2 dLt (e2 dMul (e2 dIx (Zf 0) (eC (.int 0))) (e2 dIx (Zf 1) (eC (.int 1)))) (e2 dMul (e2 dIx (Zf 1) (eC (.int 0))) (e2 dIx (Zf 0) (eC (.int 1))))))
def F_less:W3:=fnF ZiD 2 0
def ZbM:Sv:=(Zal (Zaj (iSq (Zf 0)) 1 [1] (gNm 0) (λ_ M=>.ok true M) (Zj (ZbF kj) (Zc (Zaj (iSq (Zf 1)) 2 [0] (gTp (gCs (gNm 0) (gCs (gNm 1) gNl))) (λ_ M=>.ok true M) (e2 dSub (e2 dSub (eC (.int 0)) (e2 dMul (Zf 0) (e2 dIx (Zf 2) (eC (.int 0))))) (e2 dMul (Zf 1) (e2 dIx (Zf 2) (eC (.int 1)))))) aNil))))
def F_law_hull:W3:=fnF ZbM 2 0
end CD
namespace CD
open L2 DL
open CV
open CA (Tn)
open CR (rt Sz)
open CH (rts ZH)
theorem Zv9(I:Ro->Prop)(F:Nat->D)(hM:M[n]?=some (.lst xs))(hl:xs.length<10000000)(h0:I (roB k fr ρ))(st:∀(i:Nat)(h:i<xs.length)(ρ:Ro)(M':Sto),Kp M M'->I ρ->wG (tg xs[i] ρ) λr=>I r/\wO (f r M') (λy M2=>y=F i/\Kp M' M2) (λ_ _=>False))(hq:∀M',Kp M M'->M'[M.length]?=some (.lst ((aJ xs.length).map F))->Q (.ref M.length) M'):kCo tg (λ_ M=>.ok true M) f k fr ρ Q (.sto n) M:=by
 refine ZfT (xs:=xs) (Q:=λM2=>Q (.ref M.length) M2) (λi ρ M'=>I ρ/\Kp M M'/\M'[M.length]?=some (.lst ((aJ i).map F))) _ 0 _ _ (by simp) (by rw[Zdl hM];lia) ⟨h0,Kp.app,by simp⟩ (λi ρ M' hi hI=>by rw[Zef];exact hI.2.1.get hM) ?_ (λρ M' hI=>hq M' hI.2.1 hI.2.2)
 rintro i ρ M' hi ⟨hI,K,r⟩;have s:=st i hi ρ M' K hI;cases e:tg xs[i] ρ with
 |none=>rw[e]at s;exact s.elim
 |some r'=>
  rw[e]at s;obtain⟨hr,s⟩:=s;show Br true _ _;rw[ZnS];refine Zcs s (λy M2 ⟨h1,h2⟩=>?_) (λ_ _ z=>z);subst h1;rw[h2.get r];have hl2:=Zt (h2.get r);refine⟨by simp;lia,hr,(K.trans h2).set (af _),?_⟩
  rw[aT hl2,la,c6];rfl
theorem Ze5(h:M[n]?=some (.lst (prs rs)))(hb:Nr 1000 rs)(ha:at'<rs.length)(hl:rs.length<=1000)(q:∀m M',Kp M M'->M.length<=m->M'[m]?=some (.lst (prs (ins rs at' ((cy rs at').1+(cy rs (at'+1)).1,(cy rs at').2+(cy rs (at'+1)).2))))->Q (.ref m) M'):wO (F_law_short_put [.ref n,.int at'] M) Q E:=by
 have hn:=Zt h;have em:=ZaN (i:=(at':Int)+1) (m:=rs.length) ⋯
 have le:((at':Int)+1).toNat=at'+1:=⋯
 simp![F_law_short_put,Zar,h,ZfU,Zct,le];refine⟨by rw[bI];lia,by rw[bI,fK];lia,q _ _ Kp.app ⋯ ?_⟩
 rw[Zry];simp[ins]
theorem Zls{L:List Int}(h:L≠[]):∃mx,L.max?=some mx/\∀x∈L,x<=mx:=by
 cases e:L.max? with
 |none=>exact absurd (iG.mp e) h
 |some mx=>exact⟨mx,rfl,λx hx=>(gj.mp e).2 x hx⟩
theorem ZaG:∀{L:List Int},Zbf (nts L)=some L
 |[]=>rfl
 |x::L=>by
  have:=ZaG (L:=L)
  show(match Zbf (nts L)with|some ns=>some (x::ns)|none=>none)=_
  rw[this]
noncomputable def Bq(ss:List Pt):Prop:=(1,0)∈ss/\(0,1)∈ss/\((-1,-1)∈ss\/(0,-1)∈ss/\∃k:Int,0<=k/\k<=3/\(-1,k)∈ss)
theorem Zcy(h:x∈ss):x∈ins ss k p:=by
 unfold ins;rw[<-bX (k+1) ss]at h;rcases a7.mp h with h|h
 .exact gz _ h
 .exact aW _ (aI _ h)
theorem Bq.ins{ss:List Pt}{k:Nat}{p:Pt}(b:Bq ss):Bq (ins ss k p):=⟨Zcy b.1,Zcy b.2.1,b.2.2.imp Zcy λ⟨h,k,a,c,d⟩=>⟨Zcy h,k,a,c,Zcy d⟩⟩
theorem ZtF{M1:Sto}(f0:0<=f)(f1:f<5):∃p ss,atI [D.ref M1.length,D.ref (M1.length+1)] (if decide (0<f)=true then 1 else 0)=some (.ref p)/\(Smo ss/\Bq ss)/\Nr 7 ss/\ss.length<=4/\(M1++[SO.lst [D.tup [D.int 1,D.int 0],D.tup [D.int 0,D.int 1],D.tup [D.int (-1),D.int (-1)]],SO.lst [D.tup [D.int 1,D.int 0],D.tup [D.int 0,D.int 1],D.tup [D.int (-1),D.int (f-1)],D.tup [D.int 0,D.int (-1)]],SO.lst [D.ref M1.length,D.ref (M1.length+1)]])[p]?=some (.lst (prs ss))/\M1.length<=p:=by
  by_cases z:0<f
  .refine⟨M1.length+1,[(1,0),(0,1),(-1,f-1),(0,-1)],by rw[if_pos (decide_eq_true z)];rfl,⟨CC.Zv7 (f-1),by simp,by simp,.inr ⟨by simp,f-1,⋯,⋯,by simp⟩⟩,?_,by simp,by rw[Zry];rfl,⋯⟩
   intro x hx;simp at hx;rcases hx with rfl|rfl|rfl|rfl<;>simp<;>lia
  .refine⟨M1.length,[(1,0),(0,1),(-1,-1)],by rw[if_neg (by simpa using z)];rfl,⟨CC.Zv6,by simp,by simp,.inl (by simp)⟩,?_,by simp,by rw[Zkh];rfl,⋯⟩
   intro x hx;simp at hx;rcases hx with rfl|rfl|rfl<;>simp
theorem ZqN{most:Int}(hm:4<=most/\most<=100)(hb:Bag n M)(q:∀ss m M',Smo ss/\Bq ss->Nr 7 ss->ss.length<=most->M.length<=m->M'[m]?=some (.lst (prs ss))->Gr n M M'->Q (.ref m) M'):wO (F_law_base [.ref n,.int most] M) Q E:=by
 have hn:=hb.lt;simp![F_law_base,ZbK];refine CB.Z5 hb (by decide) λf M1 f0 f1 g1=>?_
 have hn1:=g1.bag.lt;have B1:=g1.bag;simp![Zm];obtain⟨p,ss,hp,s1,s2,s3,s4,s5⟩:=ZtF (M1:=M1) f0 f1;have B2:=B1.app [SO.lst [D.tup [D.int 1,D.int 0],D.tup [D.int 0,D.int 1],D.tup [D.int (-1),D.int (-1)]],SO.lst [D.tup [D.int 1,D.int 0],D.tup [D.int 0,D.int 1],D.tup [D.int (-1),D.int (f-1)],D.tup [D.int 0,D.int (-1)]],SO.lst [D.ref M1.length,D.ref (M1.length+1)]];have G2:Gr n M1 (M1++[SO.lst [D.tup [D.int 1,D.int 0],D.tup [D.int 0,D.int 1],D.tup [D.int (-1),D.int (-1)]],SO.lst [D.tup [D.int 1,D.int 0],D.tup [D.int 0,D.int 1],D.tup [D.int (-1),D.int (f-1)],D.tup [D.int 0,D.int (-1)]],SO.lst [D.ref M1.length,D.ref (M1.length+1)]]):=Gr.app B1 _;generalize M1++[SO.lst [D.tup [D.int 1,D.int 0],D.tup [D.int 0,D.int 1],D.tup [D.int (-1),D.int (-1)]],SO.lst [D.tup [D.int 1,D.int 0],D.tup [D.int 0,D.int 1],D.tup [D.int (-1),D.int (f-1)],D.tup [D.int 0,D.int (-1)]],SO.lst [D.ref M1.length,D.ref (M1.length+1)]]=M2 at *;have gl1:=g1.len;simp![hp];refine CB.Z5 B2 ⋯ λt1 M3 t10 t11 g3=>?_
 simp![Zm];refine CB.Z5 (g3.bag.app _) (by decide) λt2 M4 t20 t21 g4=>?_
 have k4:=Gr.new g3.bag g4;have r4:=CA.Gr.up (CA.Gr.up s4 g3 ⋯) ((Gr.app g3.bag _).trans g4) ⋯
 have G4:=((g1.trans G2).trans g3).trans ((Gr.app g3.bag _).trans g4);obtain⟨many,hmany,m0⟩:∃many:Int,atI [D.int (3+t1),D.int most] (if decide (t2=3)=true then 1 else 0)=some (.int many)/\many<=most:=by
  by_cases z:t2=3
  .exact⟨most,by rw[if_pos (decide_eq_true z)];rfl,⋯⟩
  .exact⟨3+t1,by rw[if_neg (by simpa using z)];rfl,⋯⟩
 simp![k4,hmany];clear k4 hmany hp;refine⟨⋯,?_⟩
 refine ZcW (λi ρ M'=>∃ss p x5 x6,ρ=[some (.ref n),some (.int most),some (.int f),some (.ref p),some (.int many),x5,x6]/\(Smo ss/\Bq ss)/\Nr 7 ss/\ss.length<=most/\M.length<=p/\M'[p]?=some (.lst (prs ss))/\Gr n M M') ⟨ss,p,_,_,rfl,s1,s2,⋯,⋯,r4,G4⟩ ?_ ?_
 .rintro i ρ M5 hi ⟨ss,p,x5,x6,rfl,s1,s2,s3,s4,s5,G⟩;have sl:=s1.1.len;simp![ZaQ,s5];refine CB.Z5 G.bag ⋯ λt M6 t0 t1 g6=>?_
  have s6:=CA.Gr.up s5 g6 ⋯
  have G6:=G.trans g6;obtain⟨at',rfl⟩:∃k:Nat,t=k:=⟨t.toNat,⋯⟩
  simp![Zm];refine Ze5 s6 (λx hx=>by have:=s2 x hx;lia) ⋯ ⋯ λm M7 K7 m7 r7=>?_
  have s7:=K7.get s6;have G7:=G6.trans (K7.gr G6.bag);have l7:=Zt s7;have sn:Smo (ins ss at' ((cy ss at').1+(cy ss (at'+1)).1,(cy ss at').2+(cy ss (at'+1)).2))/\Bq (ins ss at' ((cy ss at').1+(cy ss (at'+1)).1,(cy ss at').2+(cy ss (at'+1)).2)):=⟨s1.1.ins (k:=at') ⋯,s1.2.ins⟩
  have ln:=ZeW (rs:=ss) (k:=at') (p:=((cy ss at').1+(cy ss (at'+1)).1,(cy ss at').2+(cy ss (at'+1)).2)) ⋯
  generalize ins ss at' ((cy ss at').1+(cy ss (at'+1)).1,(cy ss at').2+(cy ss (at'+1)).2)=ns at *;simp![s7];refine ZvN (λb M'=>Kp M7 M'/\(b=true->(ss.length:Int)<many/\Nr 7 ns)) ?_ ?_
  .refine brO (λz=>?_) (λz=>?_)
   .simp![Zm];refine Zis (λρ=>∃x y,ρ=[x,y]) (λ(i:Nat)=>D.int (max (cy ns i).1.natAbs (cy ns i).2.natAbs:Int)) r7 (by rw[ZG];lia) ⟨_,_,rfl⟩ ?_ ?_
    .rintro i hi ρ L ⟨x,y,rfl⟩;rw[CC.Za5];simp![Zm];exact⟨_,_,rfl⟩
    have ne:ns≠[]:=λz=>by rw[z]at ln;simp at ln
    rw[ZG,ZeV];obtain⟨mx,hmx,hle⟩:=Zls (L:=(aJ ns.length).map λ(i:Nat)=>(max (cy ns i).1.natAbs (cy ns i).2.natAbs:Int)) (λz=>by
     have:=congrArg nv z
     rw[au,jQ,ln]at this;simp at this)
    simp![ZaG,hmx];refine⟨Kp.app,λu=>⟨z,λx hx=>?_⟩⟩;obtain⟨i,hi,rfl⟩:=bS hx
    have:=hle _ (aX.mpr ⟨i,bZ.mpr hi,rfl⟩)
    simp only[Zad hi]at this
    have:=of_decide_eq_true u
    omega
   .simp![Zm];exact⟨Kp.refl,λu=>by cases u⟩
  rintro b M8 ⟨K8,hb8⟩;simp![Zm];refine ZvS (λz=>?_) (λz=>?_)
  .obtain⟨h1,h2⟩:=hb8 z;simp![Zm];exact⟨ns,m,_,_,rfl,sn,h2,⋯,by have:=G6.len;lia,K8.get r7,G7.trans (K8.gr G7.bag)⟩
  .simp![Zm];exact⟨ss,p,_,_,rfl,s1,s2,s3,s4,K8.get s7,G7.trans (K8.gr G7.bag)⟩
 .rintro ρ M5 ⟨ss,p,x5,x6,rfl,s1,s2,s3,s4,s5,G⟩;simp![Zm];exact q ss p M5 s1 s2 s3 s4 s5 G
noncomputable abbrev tb(a b c d:Int):SO:=.lst [.int a,.int b,.int c,.int d]
theorem ZqO(t:Tn B a b c d)(hm: -7<=mm/\mm<=7):Tn (8*B) (a+mm*c) (b+mm*d) c d/\Tn (8*B) a b (c+mm*a) (d+mm*b):=by
 obtain⟨ta,tb',tc,td,te⟩:=t;have m1:=CA.Zll (B:=7) hm ta;have m2:=CA.Zll (B:=7) hm tb';have m3:=CA.Zll (B:=7) hm tc;have m4:=CA.Zll (B:=7) hm td;have d1:(a+mm*c)*d-(b+mm*d)*c=a*d-b*c:=by grind
 have d2:a*(d+mm*b)-b*(c+mm*a)=a*d-b*c:=by grind
 exact⟨⟨⋯,⋯,⋯,⋯,by rw[d1];exact te⟩,⟨⋯,⋯,⋯,⋯,by rw[d2];exact te⟩⟩
theorem Znm(hb:Bag n M)(q:∀a b c d p M',Tn 14 a b c d->M.length<=p->M'[p]?=some (tb a b c d)->Gr n M M'->Q (.ref p) M'):wO (F_law_table [.ref n] M) Q E:=by
 have hn:=hb.lt;simp![F_law_table,Zbn];have B1:=hb.app [tb 1 0 0 1];have G1:Gr n M (M++[tb 1 0 0 1]):=Gr.app hb _;have r1:(M++[tb 1 0 0 1])[M.length]?=some (tb 1 0 0 1):=by simp
 refine CB.Z5 B1 (by decide) λr M1 r0 r1' g1=>?_
 have G2:=G1.trans g1;have r2:=CA.Gr.up r1 g1 ⋯
 simp![Zm];refine⟨⋯,?_⟩
 refine ZcW (λi ρ M'=>∃a b c d p x2 x3,ρ=[some (.ref n),some (.ref p),x2,x3]/\Tn (8^i) a b c d/\M.length<=p/\M'[p]?=some (tb a b c d)/\Gr n M M') ⟨1,0,0,1,_,_,_,rfl,⟨by decide,by decide,by decide,by decide,.inl (by decide)⟩,⋯,r2,G2⟩ ?_ ?_
 .rintro i ρ M2 hi ⟨a,b,c,d,p,x2,x3,rfl,tn,pl,v1,G⟩;simp![ZaA];refine CB.Z5 G.bag (by decide) λs M3 s0 s1 g3=>?_
  simp![Zm];refine CB.Z5 g3.bag (by decide) λs' M4 s0' s1' g4=>?_
  simp![Zm];refine CB.Z5 (g4.bag.app _) (by decide) λt M5 t0 t1 g5=>?_
  have k5:=Gr.new g4.bag g5;obtain⟨mm,hmm,m0⟩:∃mm:Int,atI [D.int (s-2),D.int (s'-7)] (if decide (t=5)=true then 1 else 0)=some (.int mm)/\(-7<=mm/\mm<=7):=by
   by_cases z:t=5
   .exact⟨s'-7,by rw[if_pos (decide_eq_true z)];rfl,⋯⟩
   .exact⟨s-2,by rw[if_neg (by simpa using z)];rfl,⋯⟩
  simp![k5,hmm];refine CB.Z5 g5.bag (by decide) λt' M6 t0' t1' g6=>?_
  have G6:=(((G.trans g3).trans g4).trans ((Gr.app g4.bag _).trans g5)).trans g6;have v6:=CA.Gr.up (CA.Gr.up (CA.Gr.up (CA.Gr.up v1 g3 ⋯) g4 ⋯) ((Gr.app g4.bag _).trans g5) ⋯) g6 ⋯
  have hp:=Zt v6;have gl:=G6.len;have p8:(8:Int)^(i+1)=8*8^i:=by rw[Int.pow_succ,mY]
  have ta:=ZqO tn m0;rw[<-p8]at ta;have fc:=tn.fa;have fb:=tn.fb;have fcc:=tn.fc;have fd:=tn.fd;simp![Zm];refine brS (λz=>?_) (λz=>?_)
  .simp![v6];exact⟨a+mm*c,b+mm*d,c,d,_,_,_,rfl,ta.1,gl,by simp,G6.app2 _⟩
  .simp![v6];exact⟨a,b,c+mm*a,d+mm*b,_,_,_,rfl,ta.2,gl,by simp,G6.app2 _⟩
 .rintro ρ M2 ⟨a,b,c,d,p,x2,x3,rfl,tn,pl,v1,G⟩;simp![Zm];refine CB.Z5 G.bag (by decide) λs M3 s0 s1 g3=>?_
  have v3:=CA.Gr.up v1 g3 (by have:=hb.lt;lia)
  have hp:=Zt v3;simp![Zm];refine Zui (λρ M'=>∃a b c d p,ρ=[some (.ref n),some (.ref p),x2,x3]/\(a*d-b*c=1\/a*d-b*c= -1)/\M.length<=p/\M'[p]?=some (tb a b c d)/\Gr n M M') ?_ ?_
  .refine brS (λz=>?_) (λz=>?_)
   .have dt:c*b-d*a=1\/c*b-d*a= -1:=by
     rcases tn.det with e|e
     .right;grind
     .left;grind
    simp![v3];exact⟨c,d,a,b,_,rfl,dt,by have:=(G.trans g3).len;omega,by simp,(G.trans g3).app2 _⟩
   .simp![Zm];exact⟨a,b,c,d,p,rfl,tn.det,pl,v3,G.trans g3⟩
  .rintro _ M4 ⟨a,b,c,d,p,rfl,t4,l4,v4,G4⟩;have hp4:=Zt v4;simp![Zm];refine Zis (λρ=>∃x,ρ=[x]) (λ(i:Nat)=>D.int (([a,b,c,d].getD i 0).natAbs:Int)) v4 (by simp) ⟨_,rfl⟩ ?_ ?_
   .rintro i hi ρ L ⟨x,rfl⟩
    have:i=0\/i=1\/i=2\/i=3:=by simp at hi;lia
    rcases this with rfl|rfl|rfl|rfl<;>simp only[kR,kW,List.getD_cons_zero,List.getD_cons_succ]<;>simp![Zm]<;>exact⟨_,rfl⟩
   have mp:((aJ [D.int a,D.int b,D.int c,D.int d].length).map λ(i:Nat)=>D.int (([a,b,c,d].getD i 0).natAbs:Int))=nts [(a.natAbs:Int),b.natAbs,c.natAbs,d.natAbs]:=rfl;rw[mp];obtain⟨mx,hmx,hle⟩:=Zls (L:=[(a.natAbs:Int),b.natAbs,c.natAbs,d.natAbs]) (by simp)
   have h1:=hle a.natAbs (by simp)
   have h2:=hle b.natAbs (by simp)
   have h3:=hle c.natAbs (by simp)
   have h4:=hle d.natAbs (by simp)
   have K5:Kp M4 (M4++[SO.lst (nts [(a.natAbs:Int),b.natAbs,c.natAbs,d.natAbs])]):=Kp.app;have id:=ZaG (L:=[(a.natAbs:Int),b.natAbs,c.natAbs,d.natAbs]);generalize [(a.natAbs:Int),b.natAbs,c.natAbs,d.natAbs]=L4 at *;simp![id,hmx];generalize M4++[SO.lst (nts L4)]=M5 at *;have G5:=G4.trans (K5.gr G4.bag);refine brS (λz=>?_) (λz=>?_)
   .simp![Zm];exact q 0 1 1 0 _ _ ⟨by decide,by decide,by decide,by decide,.inr (by decide)⟩ (by have:=G5.len;omega) (by simp) (G5.app2 _)
   .simp![Zm];exact q a b c d p M5 ⟨⋯,⋯,⋯,⋯,t4⟩ l4 (K5.get v4) G5
end CD
namespace CD
open L2 DL
open CV
open CA (Tn)
open CR (rt Sz)
open CH (rts ZH)
noncomputable def gg(a b c d:Int)(p:Pt):Pt:=(a*p.1+b*p.2,c*p.1+d*p.2)
theorem ZrA(u v:Pt):X (gg a b c d u) (gg a b c d v)=(a*d-b*c)*X u v:=by unfold X gg;simp only;grind
noncomputable def sg{α:Type}(neg:Bool)(k:Nat)(L:List α):List α:=(if neg then L.reverse else L).drop k++(if neg then L.reverse else L).take k
theorem ZiE{L:List α}:(sg neg k L).length=L.length:=by
 unfold sg;rw[aY,fK,bI];cases neg<;>simp<;>lia
def zp(us:List Pt)(xs:List D):List D:=bY (λu x=>D.tup [pr u.1 u.2,x]) us xs
theorem ZiF(h:xs.length=us.length):(zp us xs).length=us.length:=by unfold zp;simp[h]
theorem ZiG(h:i<(zp us xs).length)(h1:i<us.length)(h2:i<xs.length):(zp us xs)[i]=D.tup [pr us[i].1 us[i].2,xs[i]]:=gG
theorem ZqP(h:xs.length=us.length):(zp us xs).reverse=zp us.reverse xs.reverse:=by
 unfold zp;rw[List.reverse_zipWith h.symm]
theorem ZqQ(h:xs.length=us.length):(zp us xs).drop k++(zp us xs).take k=zp (us.drop k++us.take k) (xs.drop k++xs.take k):=by
 unfold zp;rw[List.zipWith_append (by simp[h]),List.drop_zipWith,List.take_zipWith]
theorem ZqR(hs:Smo rs)(hk:k<=rs.length)(hd:a*d-b*c=1\/a*d-b*c= -1):Smo (sg (decide (a*d-b*c<0)) k (rs.map (gg a b c d))):=by
 unfold sg;have ml:(rs.map (gg a b c d)).length=rs.length:=au _;rcases hd with hd|hd
 .rw[hd,if_neg (by decide)]
  exact(hs.map (f:=gg a b c d) λp q=>by rw[ZrA,hd,lQ]).rot (by rw[ml];exact hk)
 .rw[hd,if_pos (by decide)]
  refine Smo.rot (CA.Znj (by rw[ml];exact hs.len) (λi=>?_) ?_) (by rw[d7,ml];exact hk)
  .rw[ZfV hs.ne,ZfV hs.ne,ZrA,hd,hs.one];rfl
  .exact hs.fan.flip (f:=gg a b c d) λp q=>by rw[ZrA,hd]
theorem ZtG(hr:Nr 7 rs)(t:Tn 14 a b c d):Nr 200 (sg neg k (rs.map (gg a b c d))):=by
 intro p hp
 have:p∈rs.map (gg a b c d):=by
  unfold sg at hp;cases neg
  .simp only[a8,if_false,a7]at hp;rcases hp with hp|hp
   .exact gH hp
   .exact fw hp
  .simp only[if_true,a7]at hp;rcases hp with hp|hp
   .exact eJ.mp (gH hp)
   .exact eJ.mp (fw hp)
 obtain⟨x,hx,rfl⟩:=aX.mp this;have h:=hr x hx;have m1:=CA.Zll t.fa h.1;have m2:=CA.Zll t.fb h.2;have m3:=CA.Zll t.fc h.1;have m4:=CA.Zll t.fd h.2;unfold gg;simp only;omega
theorem ZqS{st:Int}(h:M[n]?=some (.lst (prs rs)))(hx:M[m]?=some (.lst xs))(lx:xs.length=rs.length)(ht:M[p]?=some (tb a b c d))(t:Tn 14 a b c d)(hr:Nr 7 rs)(hl:rs.length<=1000)(hst:0<=st/\st<=rs.length)(q:∀o1 o2 M',Kp M M'->M.length<=o1->M.length<=o2->o1≠o2->M'[o1]?=some (.lst (prs (sg (decide (a*d-b*c<0)) st.toNat (rs.map (gg a b c d)))))->M'[o2]?=some (.lst (sg (decide (a*d-b*c<0)) st.toNat xs))->Q (.tup [.ref o1,.ref o2]) M'):wO (F_law_spun [.ref p,.ref n,.ref m,.int st] M) Q E:=by
 have hn:=Zt h;have hm:=Zt hx;have hp:=Zt ht;obtain⟨ta,tb',tc,td,te⟩:=t;have zl:(bY (λa b=>D.tup [a,b]) (prs rs) xs).length=rs.length:=by simp[ZG,lx]
 simp![F_law_spun,ZbL];refine Zrz (xs:=bY (λa b=>D.tup [a,b]) (prs rs) xs) (λρ=>∃x y z,ρ=[x,y,z,some (.ref p)]) (λ(i:Nat)=>D.tup [pr (gg a b c d (cy rs i)).1 (gg a b c d (cy rs i)).2,xs.getD i .non]) ⋯ (by rw[ZeT h,zl,ZG];lia) ⟨_,_,_,rfl⟩ (λL i hi=>?_) ?_ ?_
 .rw[Zir (by rw[ZbZ hn];exact h) (by rw[ZbZ hm];exact hx)]
 .rintro i hi ρ L ⟨x,y,z,rfl⟩;rw[zl]at hi;have hp':(M++L)[p]?=some (tb a b c d):=by rw[ZbZ hp];exact ht
  rw[gG,CC.Za5];simp![hp'];refine⟨⟨_,_,_,rfl⟩,?_⟩;rw[aw,ae ⋯]
  rfl
 have en:((aJ (bY (λa b=>D.tup [a,b]) (prs rs) xs).length).map λ(i:Nat)=>D.tup [pr (gg a b c d (cy rs i)).1 (gg a b c d (cy rs i)).2,xs.getD i .non])=zp (rs.map (gg a b c d)) xs:=by
  rw[zl];apply eK
  .rw[ZiF (by rw[au,lx])];simp
  .intro i h1 h2;simp at h1;rw[b8,ik,ZiG h2 (by simp;lia) ⋯,b8,Zad h1,aw,ae ⋯]
   rfl
 rw[en];have K1:Kp M (M++[SO.lst (zp (rs.map (gg a b c d)) xs)]):=Kp.app;have r1:(M++[SO.lst (zp (rs.map (gg a b c d)) xs)])[M.length]?=some (.lst (zp (rs.map (gg a b c d)) xs)):=by simp
 generalize M++[SO.lst (zp (rs.map (gg a b c d)) xs)]=M1 at *;have ht1:=K1.get ht;have hl1:=Zt r1;have hp1:=Zt ht1;generalize hus:rs.map (gg a b c d)=us at *;have lu:xs.length=us.length:=by rw[<-hus,au,lx]
 have lur:us.length=rs.length:=⋯
 clear en zl;simp![ht1];refine Zui (λρ M'=>∃o us' xs',ρ=[some (.ref p),some (.ref n),some (.ref m),some (.int st),some (.ref o)]/\Kp M M'/\M'[o]?=some (.lst (zp us' xs'))/\us'=(if decide (a*d-b*c<0)then us.reverse else us)/\xs'=(if decide (a*d-b*c<0)then xs.reverse else xs)) ?_ ?_
 .refine brS (λz=>?_) (λz=>?_)
  .simp![Zts,r1];refine⟨_,us.reverse,xs.reverse,rfl,K1.trans Kp.app,by rw[Zkh,ZqP lu];rfl,by simp,by simp⟩
  .simp![Zm];exact⟨_,us,xs,rfl,K1,r1,by simp,by simp⟩
 .rintro _ M2 ⟨o,us',xs',rfl,K2,r2,e1,e2⟩;have l2:=Zt r2;have lu':xs'.length=us'.length:=by
   rw[e1,e2]
   split<;>simp[lu]
  have lur':us'.length=rs.length:=by
   rw[e1]
   split<;>simp[lur]
  have lz:=ZiF lu';simp![r2];refine⟨by rw[bI,fK];lia,?_⟩
  rw[ZqQ lu'];have g1:sg (decide (a*d-b*c<0)) st.toNat us=us'.drop st.toNat++us'.take st.toNat:=by rw[e1];rfl
  have g2:sg (decide (a*d-b*c<0)) st.toNat xs=xs'.drop st.toNat++xs'.take st.toNat:=by rw[e2];rfl
  rw[<-g1,<-g2];have lg1:(sg (decide (a*d-b*c<0)) st.toNat us).length=rs.length:=by rw[ZiE,lur]
  have lg2:(sg (decide (a*d-b*c<0)) st.toNat xs).length=rs.length:=by rw[ZiE,lx]
  generalize sg (decide (a*d-b*c<0)) st.toNat us=vs at *;generalize sg (decide (a*d-b*c<0)) st.toNat xs=ys at *;generalize hM3:M2++[SO.lst ((zp us' xs').drop st.toNat),SO.lst ((zp us' xs').take st.toNat),SO.lst (zp vs ys)]=M3;have K3:Kp M M3:=by rw[<-hM3];exact K2.trans Kp.app
  have r3:M3[M2.length+2]?=some (.lst (zp vs ys)):=by rw[<-hM3,Zry];rfl
  have l3:M3.length=M2.length+3:=by rw[<-hM3];simp
  have lz3:=ZiF (us:=vs) (xs:=ys) ⋯
  have kl:=K2.1;refine Zis (λρ=>∃x y,ρ=[x,y]) (λ(i:Nat)=>pr (cy vs i).1 (cy vs i).2) r3 ⋯ ⟨_,_,rfl⟩ ?_ ?_
  .rintro i hi ρ L ⟨x,y,rfl⟩;have hi':i<vs.length:=⋯
   have e:(zp vs ys)[i]=D.tup [pr vs[i].1 vs[i].2,ys[i]'⋯]:=ZiG _ _ _
   rw[e,Zad hi'];simp![Zm];exact⟨_,_,rfl⟩
  have en:((aJ (zp vs ys).length).map λ(i:Nat)=>pr (cy vs i).1 (cy vs i).2)=prs vs:=by
   rw[lz3]
   conv=>rhs;rw[<-Ze4 (us:=vs)]
   unfold prs;rw[c7];rfl
  rw[en];have K4:Kp M3 (M3++[SO.lst (prs vs)]):=Kp.app;have r4:(M3++[SO.lst (prs vs)])[M3.length]?=some (.lst (prs vs)):=by simp
  generalize M3++[SO.lst (prs vs)]=M4 at *;have r34:=K4.get r3;have l4:=Zt r4;simp![Zm];refine Zis (λρ=>∃x y,ρ=[x,y]) (λ(i:Nat)=>ys.getD i .non) r34 ⋯ ⟨_,_,rfl⟩ ?_ ?_
  .rintro i hi ρ L ⟨x,y,rfl⟩;have hi':i<vs.length:=⋯
   have e:(zp vs ys)[i]=D.tup [pr vs[i].1 vs[i].2,ys[i]'⋯]:=ZiG _ _ _
   rw[e,aw,ae ⋯]
   simp![Zm];exact⟨⟨_,_,rfl⟩,rfl⟩
  have en2:((aJ (zp vs ys).length).map λ(i:Nat)=>ys.getD i .non)=ys:=by
   rw[lz3];apply eK
   .simp;lia
   .intro i h1 h2;simp[ae h2]
  rw[en2];simp![Zm];exact q _ _ _ ((K3.trans K4).trans Kp.app) ⋯ ⋯ ⋯ (by rw[ZbZ l4];exact r4) (by simp)
end CD
namespace CD
open L2 DL
open CV CN CU CS
open CR (rt Sz)
open CH (rts ZH)
def pts(ms:List (Rat×Rat)):List D:=ms.map λm=>D.tup [rt m.1,rt m.2]
theorem ZP:(pts ms).length=ms.length:=au _
theorem ZaB(h:i<(pts ms).length):(pts ms)[i]=D.tup [rt (ms[i]'(by rw[ZP]at h;exact h)).1,rt (ms[i]'(by rw[ZP]at h;exact h)).2]:=by simp[pts]
end CD
namespace DL
open TW
open CN (cq ZiA)
open CS (slp)
end DL
namespace CO
open L2 DL
open CC (F_following)
open CS (F_slope_through)
open CD (F_less)
open CB (F_law_take)
def Zas:Sv:=(ZdR (Zmm mApp (Zf 2) (Zc (Z7 (Zc (e2 dSub (Zj F_law_take (Zc (Zf 0) (Zc (eC (.int 7)) aNil))) (eC (.int 3))) (Zc (e2 dSub (Zj F_law_take (Zc (Zf 0) (Zc (eC (.int 7)) aNil))) (eC (.int 3))) aNil))) aNil)))
def Za7:Sv:=(ZI (ZM (gNm 2) (ZbS aNil)) (ZI (Zbu (gNm 3) (Zc (e2 dAdd (eC (.int 1)) (Zj F_law_take (Zc (Zf 0) (Zc (Zf 1) aNil)))) aNil) Zas) (Zal (Zf 2))))
def F_law_points:W3:=fnF Za7 2 2
end CO
namespace CO
open L2 DL
open CV CN CU CS CD
open CA (Tn)
open CR (rt Sz)
open CH (rts ZH)
noncomputable def vU(r u:Pt):Int:=0-u.1*r.1-u.2*r.2
def Ze6(us:List Pt)(r:Pt):Int:=(us.map (vU r)).max?.getD 0
def ZnT(rs us:List Pt):List Int:=rs.map (Ze6 us)
theorem ZiH(h:us≠[]):(∃u∈us,Ze6 us r=vU r u)/\(∀u∈us,vU r u<=Ze6 us r)/\(us.map (vU r)).max?=some (Ze6 us r):=by
 cases e:(us.map (vU r)).max? with
 |none=>exact absurd (gS.mp (iG.mp e)) h
 |some mx=>
  obtain⟨h1,h2⟩:=gj.mp e;have t:Ze6 us r=mx:=by unfold Ze6;rw[e];rfl
  rw[t];obtain⟨u,hu,eu⟩:=aX.mp h1;exact⟨⟨u,hu,eu.symm⟩,λv hv=>h2 _ (aX.mpr ⟨v,hv,rfl⟩),rfl⟩
theorem ZqT(h:M[n]?=some (.lst (prs rs)))(hb:Nr 200 rs)(hne:rs≠[])(hl:rs.length<=1000)(hm:M[m]?=some (.lst (prs us)))(hu:us≠[])(lm:us.length<=1000)(q:∀M',Kp M M'->M'[M.length]?=some (.lst (nts (ZnT rs us)))->Q (.ref M.length) M'):wO (CD.F_law_hull [.ref n,.ref m] M) Q E:=by
 have hn:=Zt h;have hm':=Zt hm;simp![CD.F_law_hull,CD.ZbM];refine Zv9 (λρ=>∃x,ρ=[x,some (.ref m)]) (λ(i:Nat)=>D.int (Ze6 us (cy rs i))) h (by rw[ZG];lia) ⟨_,rfl⟩ ?_ ?_
 .rintro i hi ρ M1 K1 ⟨x,rfl⟩;rw[CC.Za5];have hm1:=K1.get hm;have hml:=Zt hm1;have hr:=hb _ (Zbj (i:=i) hne);generalize cy rs i=r at *;simp![Zm];refine⟨⟨_,rfl⟩,?_⟩;refine Zis (λρ=>∃y z,ρ=[y,z,some (pr r.1 r.2)]) (λ(j:Nat)=>D.int (vU r (cy us j))) hm1 (by rw[ZG];lia) ⟨_,_,rfl⟩ ?_ ?_
  .rintro j hj ρ L ⟨y,z,rfl⟩;rw[CC.Za5];simp![Zm];exact⟨⟨_,_,rfl⟩,rfl⟩
  rw[ZG,ZeV];have em:(aJ us.length).map (λ(j:Nat)=>vU r (cy us j))=us.map (vU r):=by
   conv=>rhs;rw[<-Ze4 (us:=us)]
   rw[c7];rfl
  rw[em];simp![CD.ZaG,(ZiH (r:=r) hu).2.2];exact Kp.app
 .intro M' K' r';have em:(aJ (prs rs).length).map (λ(i:Nat)=>D.int (Ze6 us (cy rs i)))=nts (ZnT rs us):=by
   rw[ZG,ZeV];unfold ZnT
   conv=>rhs;rw[<-Ze4 (us:=rs)]
   rw[c7];rfl
  rw[em]at r';exact q M' K' r'
theorem ZiI(h:Bag n M)(hk:k≠n):Bag n (M.set k o):=by
 obtain⟨a,b,ha,e⟩:=h;exact⟨a,b,ha,by rw[be hk];exact e⟩
end CO
namespace Rb
open L2 DL
open CN (cq)
open CS (slp)
noncomputable abbrev RP:=Rat×Rat
def Win(rs:List Pt)(hs:List Rat)(p:RP):Prop:=∀i:Nat,i<rs.length-> -(cq hs i)<=slp p (cy rs i)
def On(rs:List Pt)(hs:List Rat)(p:RP)(i:Nat):Prop:=i<rs.length/\slp p (cy rs i)= -(cq hs i)
def Cor(rs:List Pt)(hs:List Rat)(p:RP):Prop:=Win rs hs p/\∃i j,On rs hs p i/\On rs hs p j/\X (cy rs i) (cy rs j)≠0
theorem ZaH(u v:Pt):((X u v:Int):Rat)=(u.1:Rat)*v.2-u.2*v.1:=by
 unfold X;rw[c8,ay,ay]
theorem ZaI(h:X r b=1):slp p o=(X o b:Rat)*slp p r+(X r o:Rat)*slp p b:=by
 have e:(r.1:Rat)*b.2-r.2*b.1=1:=by rw[<-ZaH,h];rfl
 rw[ZaH,ZaH];unfold slp;generalize (r.1:Rat)=r1 at *;generalize (r.2:Rat)=r2 at *;generalize (b.1:Rat)=b1 at *;generalize (b.2:Rat)=b2 at *;generalize (o.1:Rat)=o1 at *;generalize (o.2:Rat)=o2 at *;generalize p.1=p1 at *;generalize p.2=p2 at *;grind
noncomputable def ptE(r b:Pt)(h t:Rat):RP:=((-h)*b.2-t*r.2,t*r.1-(-h)*b.1)
theorem Znn(e:X r b=1):slp (ptE r b h t) r= -h:=by
 have e:(r.1:Rat)*b.2-r.2*b.1=1:=by rw[<-ZaH,e];rfl
 unfold slp ptE;simp only;grind
theorem ZqU(e:X r b=1):slp (ptE r b h t) b=t:=by
 have e:(r.1:Rat)*b.2-r.2*b.1=1:=by rw[<-ZaH,e];rfl
 unfold slp ptE;simp only;grind
theorem Zlt{p:RP}(e:X r b=1)(q:slp p r= -h):p=ptE r b h (slp p b):=by
 have e:(r.1:Rat)*b.2-r.2*b.1=1:=by rw[<-ZaH,e];rfl
 unfold slp at *;unfold ptE;refine eO ?_ ?_
 .simp only;grind
 .simp only;grind
def co(r o:Pt):Rat:=(X r o:Rat)
def as'(b o:Pt)(h g:Rat):Rat:=(X o b:Rat)*h-g
theorem ZiJ(e:X r b=1):(-g<=slp (ptE r b h t) o)↔as' b o h g<=co r o*t:=by
 rw[ZaI (o:=o) e,Znn e,ZqU e];unfold as' co
 constructor<;>intro z<;>grind
theorem ZiK(e:X r b=1):(slp (ptE r b h t) o= -g)↔as' b o h g=co r o*t:=by
 rw[ZaI (o:=o) e,Znn e,ZqU e];unfold as' co
 constructor<;>intro z<;>grind
theorem Z1{c:Rat}(hc:0<c):c*a<=c*b↔a<=b:=⟨λh=>jL h hc,λh=>aF h (by grind)⟩
theorem ZfX{c:Rat}(hc:0<c)(h:a<=c*t)(h2:t<=u):a<=c*u:=Rat.le_trans h ((Z1 hc).mpr h2)
theorem Zcz{c:Rat}(hc:c<0)(h:a<=c*t)(h2:u<=t):a<=c*u:=by
 refine Rat.le_trans h ?_
 have:(-c)*u<=(-c)*t:=(Z1 (by grind)).mpr h2
 grind
def LoI(rs:List Pt)(hs:List Rat)(i n:Nat)(t:Rat):Prop:=(∃j<n,0<co (cy rs i) (cy rs j)/\as' (cy rs (i+1)) (cy rs j) (cq hs i) (cq hs j)=co (cy rs i) (cy rs j)*t)/\∀j<n,0<co (cy rs i) (cy rs j)->as' (cy rs (i+1)) (cy rs j) (cq hs i) (cq hs j)<=co (cy rs i) (cy rs j)*t
def HiI(rs:List Pt)(hs:List Rat)(i n:Nat)(t:Rat):Prop:=(∃j<n,co (cy rs i) (cy rs j)<0/\as' (cy rs (i+1)) (cy rs j) (cq hs i) (cq hs j)=co (cy rs i) (cy rs j)*t)/\∀j<n,co (cy rs i) (cy rs j)<0->as' (cy rs (i+1)) (cy rs j) (cq hs i) (cq hs j)<=co (cy rs i) (cy rs j)*t
def ZeI(rs:List Pt)(hs:List Rat)(i n:Nat):Prop:=∀j<n,co (cy rs i) (cy rs j)=0->as' (cy rs (i+1)) (cy rs j) (cq hs i) (cq hs j)<=0
def ZiL(rs:List Pt)(hs:List Rat)(i:Nat)(ps:List RP):Prop:=(∀p∈ps,Cor rs hs p)/\∀p j,Win rs hs p->On rs hs p i->On rs hs p j->X (cy rs i) (cy rs j)≠0->p∈ps
section
variable {rs:List Pt}{hs:List Rat}{i n:Nat}{u:Rat}
theorem LoI.new(ha:as' (cy rs (i+1)) (cy rs n) (cq hs i) (cq hs n)=co (cy rs i) (cy rs n)*u)(hc:0<co (cy rs i) (cy rs n))(h:∀j<n,0<co (cy rs i) (cy rs j)->as' (cy rs (i+1)) (cy rs j) (cq hs i) (cq hs j)<=co (cy rs i) (cy rs j)*u):LoI rs hs i (n+1) u:=by
 refine⟨⟨n,⋯,hc,ha⟩,λj hj c=>?_⟩
 by_cases e:j=n
 .subst e;rw[ha];exact iq
 .exact h j ⋯ c
theorem LoI.keep(h:LoI rs hs i n t)(h2:0<co (cy rs i) (cy rs n)->as' (cy rs (i+1)) (cy rs n) (cq hs i) (cq hs n)<=co (cy rs i) (cy rs n)*t):LoI rs hs i (n+1) t:=by
 obtain⟨⟨j,hj,c⟩,h1⟩:=h;refine⟨⟨j,⋯,c⟩,λj hj c=>?_⟩
 by_cases e:j=n
 .subst e;exact h2 c
 .exact h1 j ⋯ c
theorem HiI.new(ha:as' (cy rs (i+1)) (cy rs n) (cq hs i) (cq hs n)=co (cy rs i) (cy rs n)*u)(hc:co (cy rs i) (cy rs n)<0)(h:∀j<n,co (cy rs i) (cy rs j)<0->as' (cy rs (i+1)) (cy rs j) (cq hs i) (cq hs j)<=co (cy rs i) (cy rs j)*u):HiI rs hs i (n+1) u:=by
 refine⟨⟨n,⋯,hc,ha⟩,λj hj c=>?_⟩
 by_cases e:j=n
 .subst e;rw[ha];exact iq
 .exact h j ⋯ c
theorem HiI.keep(h:HiI rs hs i n t)(h2:co (cy rs i) (cy rs n)<0->as' (cy rs (i+1)) (cy rs n) (cq hs i) (cq hs n)<=co (cy rs i) (cy rs n)*t):HiI rs hs i (n+1) t:=by
 obtain⟨⟨j,hj,c⟩,h1⟩:=h;refine⟨⟨j,⋯,c⟩,λj hj c=>?_⟩
 by_cases e:j=n
 .subst e;exact h2 c
 .exact h1 j ⋯ c
theorem ZeI.keep(h:ZeI rs hs i n)(h2:co (cy rs i) (cy rs n)=0->as' (cy rs (i+1)) (cy rs n) (cq hs i) (cq hs n)<=0):ZeI rs hs i (n+1):=λj hj c=>by
 by_cases e:j=n
 .subst e;exact h2 c
 .exact h j ⋯ c
theorem Zno:co r o≠0↔X r o≠0:=by
 unfold co;constructor
 .intro h z;rw[z]at h;exact h rfl
 .intro h z;exact h (by have:((X r o:Int):Rat)=((0:Int):Rat):=z;exact ja.mp this)
theorem Ze7(hs':Smo rs):Win rs hs (ptE (cy rs i) (cy rs (i+1)) (cq hs i) t)↔∀j<rs.length,as' (cy rs (i+1)) (cy rs j) (cq hs i) (cq hs j)<=co (cy rs i) (cy rs j)*t:=by
 unfold Win;constructor
 .intro h j hj;exact(ZiJ (hs'.one i)).mp (h j hj)
 .intro h j hj;exact(ZiJ (hs'.one i)).mpr (h j hj)
theorem ZqV(hs':Smo rs)(lo:LoI rs hs i rs.length t)(hi:HiI rs hs i rs.length u)(ze:ZeI rs hs i rs.length)(h1:t<=v)(h2:v<=u):Win rs hs (ptE (cy rs i) (cy rs (i+1)) (cq hs i) v):=by
 refine(Ze7 hs').mpr λj hj=>?_;by_cases c:0<co (cy rs i) (cy rs j)
 .exact ZfX c (lo.2 j hj c) h1
 .by_cases c2:co (cy rs i) (cy rs j)<0
  .exact Zcz c2 (hi.2 j hj c2) h2
  .have e:co (cy rs i) (cy rs j)=0:=by grind
   have:=ze j hj e
   rw[e];grind
theorem ZqW(hs':Smo rs)(lo:LoI rs hs i rs.length t)(hi:HiI rs hs i rs.length u)(h:Win rs hs (ptE (cy rs i) (cy rs (i+1)) (cq hs i) v)):t<=v/\v<=u:=by
 have h:=(Ze7 hs').mp h;obtain⟨⟨j,hj,c,e⟩,_⟩:=lo;obtain⟨⟨k,hk,d,f⟩,_⟩:=hi;have h1:=h j hj;have h2:=h k hk;rw[e]at h1;rw[f]at h2;refine⟨(Z1 c).mp h1,?_⟩
 have:(-co (cy rs i) (cy rs k))*v<=(-co (cy rs i) (cy rs k))*u:=by grind
 exact(Z1 (by grind)).mp this
theorem Zkt(hs':Smo rs)(hi':i<rs.length)(lo:LoI rs hs i rs.length t)(hi:HiI rs hs i rs.length u)(ze:ZeI rs hs i rs.length)(h:t<=u):ZiL rs hs i [ptE (cy rs i) (cy rs (i+1)) (cq hs i) t,ptE (cy rs i) (cy rs (i+1)) (cq hs i) u]:=by
 have on (v:Rat):On rs hs (ptE (cy rs i) (cy rs (i+1)) (cq hs i) v) i:=⟨hi',Znn (hs'.one i)⟩;refine⟨λp hp=>?_,λp j w oi oj ne=>?_⟩
 .obtain⟨⟨j,hj,c,e⟩,_⟩:=id lo;obtain⟨⟨k,hk,d,f⟩,_⟩:=id hi;rcases az.mp hp with rfl|hp
  .exact⟨ZqV hs' lo hi ze iq h,i,j,on _,⟨hj,(ZiK (hs'.one i)).mpr e⟩,Zno.mp (by grind)⟩
  .rcases az.mp hp with rfl|hp
   .exact⟨ZqV hs' lo hi ze h iq,i,k,on _,⟨hk,(ZiK (hs'.one i)).mpr f⟩,Zno.mp (by grind)⟩
   .cases hp
 .have ep:=Zlt (hs'.one i) oi.2;generalize slp p (cy rs (i+1))=v at ep;subst ep;obtain⟨b1,b2⟩:=ZqW hs' lo hi w;have ea:=(ZiK (hs'.one i)).mp oj.2;have nz:=Zno.mpr ne;by_cases c:0<co (cy rs i) (cy rs j)
  .have:=lo.2 j oj.1 c
   rw[ea]at this
   have:=(Z1 c).mp this
   have:v=t:=by grind
   rw[this];simp
  .have c2:co (cy rs i) (cy rs j)<0:=by grind
   have:=hi.2 j oj.1 c2
   rw[ea]at this
   have:(-co (cy rs i) (cy rs j))*u<=(-co (cy rs i) (cy rs j))*v:=by grind
   have:=(Z1 (by grind)).mp this
   have:v=u:=by grind
   rw[this];simp
theorem ZiM(hs':Smo rs)(h:∀v,¬Win rs hs (ptE (cy rs i) (cy rs (i+1)) (cq hs i) v)):ZiL rs hs i []:=by
 refine⟨λp hp=>(by cases hp),λp j w oi oj ne=>?_⟩
 have ep:=Zlt (hs'.one i) oi.2;rw[ep]at w;exact absurd w (h _)
theorem Znp(hs':Smo rs)(hj:j<rs.length)(c:co (cy rs i) (cy rs j)=0)(h:0<as' (cy rs (i+1)) (cy rs j) (cq hs i) (cq hs j)):ZiL rs hs i []:=ZiM hs' λv w=>by
 have:=(Ze7 hs').mp w j hj
 rw[c]at this;grind
theorem Znq(hs':Smo rs)(lo:LoI rs hs i rs.length t)(hi:HiI rs hs i rs.length u)(h:u<t):ZiL rs hs i []:=ZiM hs' λv w=>by
 obtain⟨b1,b2⟩:=ZqW hs' lo hi w;grind
end
end Rb
namespace BD
open L2 DL
open CC (F_crossed F_following F_ask_smooth)
open CR (F_greatest_divisor F_ratio)
open CD (F_less)
open CS (F_slope_through F_ask_height)
def Z3:Sv:=(ZM (gNm 1) (e2 dMul (Zf 1) (e2 dDiv (e2 dIx (Zf 2) (eC (.int 1))) (Zj F_greatest_divisor (Zc (Zf 1) (Zc (e2 dIx (Zf 2) (eC (.int 1))) aNil))))))
def Zat:Sv:=(ZI (ZM (gNm 1) (eC (.int 1))) (ZI (ZoR (gNm 2) (Zf 0) Z3) (Zal (Zf 1))))
def F_common_bottom:W3:=fnF Zat 1 2
def Zbo:Sv:=(Zal (e2 dMul (e2 dIx (Zf 0) (eC (.int 0))) (e2 dDiv (Zf 1) (e2 dIx (Zf 0) (eC (.int 1))))))
def F_stretched:W3:=fnF Zbo 2 0
def ZcA:Sv:=(ZI (ZM (gNm 10) (Zj F_crossed (Zc (Zf 3) (Zc (Zf 8) aNil)))) (ZI (ZM (gNm 11) (e2 dSub (e2 dMul (e2 dMul (Zj F_crossed (Zc (Zf 8) (Zc (Zf 4) aNil))) (e2 dIx (Zf 5) (eC (.int 0)))) (e2 dIx (Zf 9) (eC (.int 1)))) (e2 dMul (e2 dIx (Zf 9) (eC (.int 0))) (e2 dIx (Zf 5) (eC (.int 1)))))) (ZI (ZM (gNm 12) (e2 dMul (e2 dMul (Zf 10) (e2 dIx (Zf 5) (eC (.int 1)))) (e2 dIx (Zf 9) (eC (.int 1))))) (ZI (sIf (Zcf (tv (e2 dEq (Zf 10) (eC (.int 0)))) (tv (e2 dGt (Zf 11) (eC (.int 0))))) (Zal (ZbS aNil)) sNil) (ZI (sIf (Zcf (tv (e2 dGt (Zf 10) (eC (.int 0)))) (Zg9 (tv (e2 dIs (Zf 6) (eC .non))) (tv (Zj F_less (Zc (Zf 6) (Zc (Z7 (Zc (Zf 11) (Zc (Zf 12) aNil))) aNil)))))) (ZM (gNm 6) (Z7 (Zc (Zf 11) (Zc (Zf 12) aNil)))) sNil) (sIf (Zcf (tv (e2 dLt (Zf 10) (eC (.int 0)))) (Zg9 (tv (e2 dIs (Zf 7) (eC .non))) (tv (Zj F_less (Zc (Z7 (Zc (Zch (Zf 11)) (Zc (Zch (Zf 12)) aNil))) (Zc (Zf 7) aNil)))))) (ZM (gNm 7) (Z7 (Zc (Zch (Zf 11)) (Zc (Zch (Zf 12)) aNil)))) sNil))))))
def ZiN:Sv:=(ZI (ZM (gTp (gCs (gNm 3) (gCs (gNm 4) gNl))) (Z7 (Zc (e2 dIx (Zf 0) (Zf 2)) (Zc (Zj F_following (Zc (Zf 0) (Zc (Zf 2) aNil))) aNil)))) (ZI (ZM (gNm 5) (e2 dIx (Zf 1) (Zf 2))) (ZI (ZM (ZnP (gNm 6) (gNm 7)) (eC .non)) (ZI (Zgr (gTp (gCs (gNm 8) (gCs (gNm 9) gNl))) (iZp (Zc (Zf 0) (Zc (Zf 1) aNil))) ZcA) (ZI (sIf (tv (Zj F_less (Zc (Zf 7) (Zc (Zf 6) aNil)))) (Zal (ZbS aNil)) sNil) (Zal (Zaj (iSq (Z7 (Zc (Zf 6) (Zc (Zf 7) aNil)))) 1 [3,4,5] (gNm 0) (λ_ M=>.ok true M) (Zj F_slope_through (Zc (ZbS (Zc (Zf 1) (Zc (Zf 2) aNil))) (Zc (ZbS (Zc (Z7 (Zc (Zch (e2 dIx (Zf 3) (eC (.int 0)))) (Zc (e2 dIx (Zf 3) (eC (.int 1))) aNil))) (Zc (Zj F_ratio (Zc (e2 dIx (Zf 0) (eC (.int 0))) (Zc (e2 dIx (Zf 0) (eC (.int 1))) aNil))) aNil))) aNil))))))))))
def F_edge:W3:=fnF ZiN 3 10
def ZbN:Sv:=(ZI (ZM (gNm 1) (Zj F_common_bottom (Zc (Za0 (iSq (Zf 0)) 2 [] (gNm 0) (λ_ M=>.ok true M) λn=>(gIn (iSq (Zf 0)) (gNm 1) (λ_ M=>.ok true M) (gEm (Zf 1) n))) aNil))) (Zal (Zgz (Zc (Zf 0) aNil) [1] (Z7 (Zc (Zj F_stretched (Zc (e2 dIx (Zf 0) (eC (.int 0))) (Zc (Zf 1) aNil))) (Zc (Zj F_stretched (Zc (e2 dIx (Zf 0) (eC (.int 1))) (Zc (Zf 1) aNil))) aNil))))))
def F_in_order:W3:=fnF ZbN 1 1
def ZcB:Sv:=(ZjY (Zf 2) (Zf 4) (eC (.bl true)))
def ZcC:Sv:=(ZoR (gNm 4) (Zj F_edge (Zc (Zf 0) (Zc (Zf 1) (Zc (Zf 3) aNil)))) ZcB)
def ZiO:Sv:=(ZI (ZdR (Zj F_ask_smooth (Zc (Zf 0) aNil))) (ZI (ZdR (Zj F_ask_height (Zc (Zf 0) (Zc (Zf 1) aNil)))) (ZI (ZM (gNm 2) eDnU) (ZI (Zbu (gNm 3) (Zc (Zj bLen (Zc (Zf 0) aNil)) aNil) ZcC) (Zal (Zj F_in_order (Zc (Zj bLisU (Zc (Zf 2) aNil)) aNil)))))))
def F_body:W3:=fnF ZiO 2 3
end BD
namespace BD
open L2 DL
open CV CN CU CS
open CR (rt Sz)
open CH (rts ZH)
open CD (pts ZP ZaB)
open Rb
theorem ZcD(x:Rat):(x.num:Rat)=x*(x.den:Rat):=by
 have h:=Zkr (x.den:Int) x;have h2:=Rat.normalize_mul_left (d:=1) (n:=x.num) (a:=x.den) (by decide) x.den_nz
 have h3:eG x.num 1 (by decide)=(x.num:Rat):=by
  have:=Zlo x.num
  have e:=Rat.normalize_self (x.num:Rat);exact e
 have h4:eG ((x.den:Int)*x.num) x.den x.den_nz=eG ((x.den:Int)*x.num) (x.den*1) (by have:=x.den_nz;lia):=by congr 1;lia
 rw[h4,h2,h3]at h;rw[h,Rat.mul_comm,aG]
theorem ZiP{a:Int}{b:Nat}(hb:b≠0)(h:(a:Rat)=t*(b:Rat)):eG a b hb=t:=by
 obtain⟨d,d0,e1,e2⟩:=Rat.normalize_num_den' a b hb;generalize eG a b hb=x at *
 have:(a:Rat)=x*(b:Rat):=by
  rw[e1,ay,ZcD x,e2,hW,aG];grind
 have nz:(b:Rat)≠0:=λz=>hb (Rat.natCast_eq_zero_iff.mp z);grind
def Tp(K:Nat)(t:Rat)(d:D):Prop:=∃a b:Int,d=pr a b/\0<b/\(a:Rat)=t*(b:Rat)/\a.natAbs<2^K/\b.natAbs<2^K
section
variable {rs:List Pt}
theorem Ze8(h:Tp K t d)(h':Tp K u d')(hK:K<=8000):wO (CD.F_less [d,d'] M) Q E=Q (.bl (decide (t<u))) M:=by
 obtain⟨a,b,rfl,b0,e,s1,s2⟩:=h;obtain⟨a',b',rfl,b0',e',s1',s2'⟩:=h';have f1:Zq a b':=Zp K K s1 s2' ⋯ ⋯
 have f2:Zq a' b:=Zp K K s1' s2 ⋯ ⋯
 simp![CD.F_less,CD.ZiD,ZB f1,ZB f2];have p:(0:Rat)<(b:Rat):=dB.mpr b0;have p':(0:Rat)<(b':Rat):=dB.mpr b0';have hlt:a*b'<a'*b↔t<u:=by
  rw[<-dm,ay,ay,e,e'];have e3:t*(b:Rat)*(b':Rat)=((b:Rat)*b')*t:=by grind
  have e4:u*(b':Rat)*(b:Rat)=((b:Rat)*b')*u:=by grind
  rw[e3,e4];exact gU (jY p p')
 rw[show decide (a*b'<a'*b)=decide (t<u)from decide_eq_decide.mpr hlt]
theorem Zku{a b:Int}(b0:0<b)(e:(a:Rat)=t*(b:Rat))(s2:b.natAbs<2^K)(hK:K<=8000):wO (CR.F_ratio [.int a,.int b] M) Q E=Q (rt t) M:=by
 obtain⟨c,rfl⟩:∃c:Nat,b=c:=⟨b.toNat,⋯⟩
 rw[CR.Zdo (k:=K) (show c≠0 by lia) (by simpa using s2) hK,ZiP (t:=t) ⋯ (by rw[e,aG])]
theorem ZtH{a b:Int}(b0:0<b)(e:(a:Rat)=t*(b:Rat))(s1:a.natAbs<2^K)(s2:b.natAbs<2^K):Sz K t:=by
 obtain⟨c,rfl⟩:∃c:Nat,b=c:=⟨b.toNat,⋯⟩
 rw[<-ZiP (t:=t) (show c≠0 by lia) (by rw[e,aG])]
 exact CR.Ze1 _ s1 (by simpa using s2)
def LoD(rs:List Pt)(hs:List Rat)(i K n:Nat)(d:D):Prop:=(d=.non/\∀j<n,¬0<co (cy rs i) (cy rs j))\/∃t,Tp K t d/\LoI rs hs i n t
def HiD(rs:List Pt)(hs:List Rat)(i K n:Nat)(d:D):Prop:=(d=.non/\∀j<n,¬co (cy rs i) (cy rs j)<0)\/∃t,Tp K t d/\HiI rs hs i n t
theorem ZfY(h:LoD rs hs i K n d)(c:¬0<co (cy rs i) (cy rs n)):LoD rs hs i K (n+1) d:=by
 rcases h with⟨e,h⟩|⟨t,tp,h⟩
 .refine .inl ⟨e,λj hj=>?_⟩;by_cases e:j=n
  .subst e;exact c
  .exact h j ⋯
 .exact .inr ⟨t,tp,h.keep λz=>absurd z c⟩
theorem ZfZ(h:HiD rs hs i K n d)(c:¬co (cy rs i) (cy rs n)<0):HiD rs hs i K (n+1) d:=by
 rcases h with⟨e,h⟩|⟨t,tp,h⟩
 .refine .inl ⟨e,λj hj=>?_⟩;by_cases e:j=n
  .subst e;exact c
  .exact h j ⋯
 .exact .inr ⟨t,tp,h.keep λz=>absurd z c⟩
theorem Zkv{r:Pt}:((X o b*x.num*(y.den:Int)-y.num*(x.den:Int):Int):Rat)=as' b o x y*((x.den:Rat)*(y.den:Rat)):=by
 rw[c8,ay,ay,ay,ZcD x,ZcD y,aG,aG];unfold as';generalize ((X o b:Int):Rat)=z;generalize (x.den:Rat)=a;generalize (y.den:Rat)=c;grind
theorem Zkw{x y:Rat}:((X r o*(x.den:Int)*(y.den:Int):Int):Rat)=co r o*((x.den:Rat)*(y.den:Rat)):=by
 rw[ay,ay,aG,aG];unfold co;generalize ((X r o:Int):Rat)=z;grind
theorem ZiQ{x y:Rat}:(0:Rat)<(x.den:Rat)*(y.den:Rat):=jY (hZ.mpr (cL x.den_nz)) (hZ.mpr (cL y.den_nz))
theorem ZcY{a:Rat}(h:c≠0):a=c*(a/c):=by
 have:=Rat.div_mul_cancel (a:=a) h
 grind
theorem ZtI{a bt:Int}(ea:(a:Rat)=as' b o x y*((x.den:Rat)*(y.den:Rat)))(eb:(bt:Rat)=co r o*((x.den:Rat)*(y.den:Rat)))(c:0<co r o)(s1:a.natAbs<2^K)(s2:bt.natAbs<2^K):Tp K (as' b o x y/co r o) (pr a bt):=by
 have hd:=ZiQ (x:=x) (y:=y);have h:=ZcY (a:=as' b o x y) (c:=co r o) (by grind)
 have hp:(0:Rat)<(bt:Rat):=by rw[eb];exact jY c hd
 refine⟨a,bt,rfl,dB.mp hp,?_,s1,s2⟩;rw[ea,eb];generalize as' b o x y/co r o=u at *;grind
theorem ZtJ{a bt:Int}(ea:(a:Rat)=as' b o x y*((x.den:Rat)*(y.den:Rat)))(eb:(bt:Rat)=co r o*((x.den:Rat)*(y.den:Rat)))(c:co r o<0)(s1:a.natAbs<2^K)(s2:bt.natAbs<2^K):Tp K (as' b o x y/co r o) (pr (-a) (-bt)):=by
 have hd:=ZiQ (x:=x) (y:=y);have h:=ZcY (a:=as' b o x y) (c:=co r o) (by grind)
 have hp:(0:Rat)<((-bt:Int):Rat):=by
  rw[bN,eb]
  have:=jY (a:= -co r o) (by grind) hd
  grind
 refine⟨-a,-bt,rfl,dB.mp hp,?_,(by omega),(by omega)⟩
 rw[bN,bN,ea,eb];generalize as' b o x y/co r o=u at *;grind
theorem ZqX(hu:(-B<=u.1/\u.1<=B)/\ -B<=u.2/\u.2<=B)(hv:(-B<=v.1/\v.1<=B)/\ -B<=v.2/\v.2<=B)(hB:B<=400:=by first|decide|assumption):(X u v).natAbs<2^19:=by
 unfold X;have h1:=aR u.1 v.2;have h2:=aR u.2 v.1;have b1:u.1.natAbs*v.2.natAbs<=400*400:=dQ (by omega) (by omega)
 have b2:u.2.natAbs*v.1.natAbs<=400*400:=dQ (by omega) (by omega)
 have:=jX (u.1*v.2) (u.2*v.1)
 omega
theorem Znr(hb:Nr B rs)(hn:rs≠[])(hz:∀x∈hs,Sz k x)(hh:hs.length≠0)(hB:B<=400:=by first|decide|assumption):Sz (2*k+19) (thr rs hs).1/\Sz (2*k+19) (thr rs hs).2:=by
 have a:=hb _ (Zbj (i:=0) hn);have b:=hb _ (Zbj (i:=1) hn);have z0:=Zej (i:=0) hz hh;have z1:=Zej (i:=1) hz hh;have e:k+9+(k+9)+1=2*k+19:=(by lia)
 exact⟨e▸Zlp (CR.ZbV z0 (Zei (k:=9) (by omega) (by decide))) (CR.ZbV z1 (Zei (k:=9) (by omega) (by decide))),e▸Zlp (CR.ZbV z1 (Zei (k:=9) (by omega) (by decide))) (CR.ZbV z0 (Zei (k:=9) (by omega) (by decide)))⟩
theorem ZuR(hu:(-B<=u.1/\u.1<=B)/\ -B<=u.2/\u.2<=B)(hB:B<=400:=by first|decide|assumption):wO (CC.F_crossed [pr u.1 u.2,pr v.1 v.2] M) Q E=Q (.int (X u v)) M:=CC.Zeg (by omega) (by omega)
theorem ZiR(h:rs≠[]):∃j:Nat,j<rs.length/\cy rs j=cy rs z:=by
 have l:0<rs.length:=jc.mpr h;refine⟨(z%rs.length).toNat,?_,?_⟩
 .have:=c9 z (show(0:Int)<rs.length by lia)
  lia
 .have:=dZ z (show(rs.length:Int)≠0 by lia)
  rw[Int.toNat_of_nonneg this,Zct]
theorem ZtK(I:Ro->Prop)(F:Nat->D)(hl:xs.length<10000000)(h0:I (roB k fr ρ))(st:∀(i:Nat)(h:i<xs.length)(ρ:Ro)(M':Sto),Kp M M'->I ρ->wG (tg xs[i] ρ) λr=>I r/\wO (f r M') (λy M2=>y=F i/\Kp M' M2) (λ_ _=>False))(hq:∀M',Kp M M'->M'[M.length]?=some (.lst ((aJ xs.length).map F))->Q (.ref M.length) M'):kCo tg (λ_ M=>.ok true M) f k fr ρ Q (.pur xs) M:=by
 refine ZfT (xs:=xs) (Q:=λM2=>Q (.ref M.length) M2) (λi ρ M'=>I ρ/\Kp M M'/\M'[M.length]?=some (.lst ((aJ i).map F))) _ 0 _ _ (by simp) (by simp[cnt]) ⟨h0,Kp.app,by simp⟩ (λi ρ M' hi hI=>rfl) ?_ (λρ M' hI=>hq M' hI.2.1 hI.2.2)
 rintro i ρ M' hi ⟨hI,K,r⟩;have s:=st i hi ρ M' K hI;cases e:tg xs[i] ρ with
 |none=>rw[e]at s;exact s.elim
 |some r'=>
  rw[e]at s;obtain⟨hr,s⟩:=s;show Br true _ _;rw[ZnS];refine Zcs s (λy M2 ⟨h1,h2⟩=>?_) (λ_ _ z=>z);subst h1;rw[h2.get r];have hl2:=Zt (h2.get r);refine⟨by simp;lia,hr,(K.trans h2).set (af _),?_⟩
  rw[aT hl2,la,c6];rfl
theorem ZiS:thr [r,b] [-x,t]=ptE r b x t:=by
 unfold thr ptE;rfl
def EdI(rs:List Pt)(hs:List Rat)(n m i K:Nat)(j:Nat)(ρ:Ro):Prop:=∃lo hi x8 x9 x10 x11 x12,ρ=[some (.ref n),some (.ref m),some (.int i),some (pr (cy rs i).1 (cy rs i).2),some (pr (cy rs (i+1)).1 (cy rs (i+1)).2),some (rt (cq hs i)),some lo,some hi,x8,x9,x10,x11,x12]/\LoD rs hs i K j lo/\HiD rs hs i K j hi/\ZeI rs hs i j
theorem ZqY(h:M[n]?=some (.lst (prs rs)))(hs':Smo rs)(hb:Nr B rs)(hl:rs.length<=1000)(h':M[m]?=some (.lst (rts hs)))(e:hs.length=rs.length)(hz:∀x∈hs,Sz k x)(hk:k<=900)(hi:i<rs.length)(q:∀ps o M',ZiL rs hs i ps->ps.length<=2->(∀p∈ps,Sz (4*k+61) p.1/\Sz (4*k+61) p.2)->Kp M M'->M.length<=o->M'[o]?=some (.lst (pts ps))->Q (.ref o) M')(hB:B<=400:=by first|decide|assumption):wO (F_edge [.ref n,.ref m,.int i] M) Q E:=by
 have hn:=Zt h;have hm:=Zt h';have hne:=hs'.ne;have zi:=Zej (i:=i) hz ⋯
 have br:=hb _ (Zbj (i:=i) hne);have bb:=hb _ (Zbj (i:=i+1) hne);simp![F_edge,ZiN,h,h',ZfU,Zlq,CC.Zcv h (show 0<=(i:Int)/\(i:Int)<rs.length by lia),Zlf,Ztt]
 refine Zle (xs:=prs rs) (ys:=rts hs) (λj ρ M'=>M'=M/\EdI rs hs n m i (2*k+21) j ρ) h (by rw[ZG,ZH];lia) ⟨rfl,_,_,_,_,_,_,_,rfl,.inl ⟨rfl,λj hj=>⋯⟩,.inl ⟨rfl,λj hj=>⋯⟩,λj hj=>⋯⟩ (λj ρ M' hI=>hI.1▸⟨h,h'⟩) ?_ ?_
 .rintro j ρ _ hj ⟨rfl,lo,hg,x8,x9,x10,x11,x12,rfl,hlo,hhi,hze⟩;rw[ZG]at hj;rw[CC.Za5,Zdq];have zj:=Zej (i:=j) hz ⋯
  have bj:=hb _ (Zbj (i:=j) hne);generalize hx:cq hs i=x at *;generalize hy:cq hs j=y at *;generalize hr:cy rs i=r at *;generalize hbb:cy rs (i+1)=b at *;generalize ho:cy rs j=o at *;have sX:=ZqX br bj;have sY:=ZqX bj bb;have dx:((x.den:Int)).natAbs<2^k:=by simpa using zi.2
  have dy:((y.den:Int)).natAbs<2^k:=by simpa using zj.2
  have g1:(X o b*x.num).natAbs<2^(19+k):=by rw[aR];exact CR.Z6 sY zi.1
  have g2:(X r o*(x.den:Int)).natAbs<2^(19+k):=by rw[aR];exact CR.Z6 sX dx
  have f1:Zq (X o b) x.num:=Zp 19 k sY zi.1 ⋯ ⋯
  have f2:Zq (X o b*x.num) (y.den:Int):=Zp (19+k) k g1 dy ⋯ ⋯
  have f3:Zq y.num (x.den:Int):=Zp k k zj.1 dx ⋯ ⋯
  have f4:Zq (X r o) (x.den:Int):=Zp 19 k sX dx ⋯ ⋯
  have f5:Zq (X r o*(x.den:Int)) (y.den:Int):=Zp (19+k) k g2 dy ⋯ ⋯
  have ea:=Zkv (r:=r) (b:=b) (o:=o) (x:=x) (y:=y);have eb:=Zkw (r:=r) (o:=o) (x:=x) (y:=y);have sa:(X o b*x.num*(y.den:Int)-y.num*(x.den:Int)).natAbs<2^(2*k+21):=by
   have a1:(X o b*x.num*(y.den:Int)).natAbs<2^(19+k+k):=by rw[aR];exact CR.Z6 g1 dy
   have a2:(y.num*(x.den:Int)).natAbs<2^(k+k):=by rw[aR];exact CR.Z6 zj.1 dx
   have a3:2^(k+k)<=2^(19+k+k):=cK (by decide) ⋯
   have a4:2^(2*k+21)=4*2^(19+k+k):=by rw[show 2*k+21=(19+k+k)+2 by lia,iX];lia
   have:=jX (X o b*x.num*(y.den:Int)) (y.num*(x.den:Int))
   lia
  have sb:(X r o*(x.den:Int)*(y.den:Int)).natAbs<2^(2*k+21):=by
   rw[aR];exact aj (CR.Z6 g2 dy) (cK (by decide) ⋯)
  simp![ZcA,ZuR br,ZuR bj,ZB f1,ZB f2,ZB f3,ZB f4,ZB f5];have ci:(X r o=0↔co r o=0)/\(0<X r o↔0<co r o)/\(X r o<0↔co r o<0):=⟨kC.symm,dB.symm,Rat.intCast_neg_iff.symm⟩;generalize X o b*x.num*(y.den:Int)-y.num*(x.den:Int)=ak at *;generalize X r o*(x.den:Int)*(y.den:Int)=bt at *;generalize X r o=c at *;have ec:co (cy rs i) (cy rs j)=co r o:=by rw[hr,ho]
  have eas:as' (cy rs (i+1)) (cy rs j) (cq hs i) (cq hs j)=as' b o x y:=by rw[hbb,ho,hx,hy]
  have hd:=ZiQ (x:=x) (y:=y);have mk:∀{lo hi:D}{x8 x9 x10 x11 x12:Option D},LoD rs hs i (2*k+21) (j+1) lo->HiD rs hs i (2*k+21) (j+1) hi->ZeI rs hs i (j+1)->EdI rs hs n m i (2*k+21) (j+1) [some (.ref n),some (.ref m),some (.int i),some (pr r.1 r.2),some (pr b.1 b.2),some (rt x),some lo,some hi,x8,x9,x10,x11,x12]:=λa b' c'=>by
   rw[<-hr,<-hbb,<-hx];exact⟨_,_,_,_,_,_,_,rfl,a,b',c'⟩
  rcases(show c=0\/0<c\/c<0 by lia)with c0|c0|c0
  .have cz:=ci.1.mp c0;simp![Zm];refine brS (λhp=>?_) (λhp=>?_)
   .simp![Zm];have hp':(0:Rat)<(ak:Rat):=dB.mpr hp;rw[ea]at hp';refine q [] _ _ (Znp hs' hj (ec▸cz) ?_) (by simp) (λp hp=>by cases hp) Kp.app (af _) (by simp[pts])
    rw[eas]
    have:as' b o x y*0<as' b o x y*((x.den:Rat)*(y.den:Rat)):=by grind
    by_cases z:0<as' b o x y
    .exact z
    .have:=cf (c:=(x.den:Rat)*(y.den:Rat)) (show as' b o x y<=0 by grind) (by grind)
     grind
   .simp![Zm];refine mk (ZfY hlo (by rw[ec];grind)) (ZfZ hhi (by rw[ec];grind)) (hze.keep λ_=>?_)
    rw[eas];have hp':(ak:Rat)<=0:=jI.mpr ⋯
    rw[ea]at hp';by_cases z:0<as' b o x y
    .have:=jY z hd
     grind
    .grind
  .have cz:=ci.2.1.mp c0;have tu:=ZtI (K:=2*k+21) ea eb cz sa sb;have eu:=ZcY (a:=as' b o x y) (c:=co r o) (by grind)
   generalize as' b o x y/co r o=u at *;have hz':ZeI rs hs i (j+1):=hze.keep λz=>by rw[ec]at z;grind
   have hh':=ZfZ hhi (show ¬co (cy rs i) (cy rs j)<0 by rw[ec];grind)
   rcases hlo with⟨rfl,hlo⟩|⟨t,tp,hlo⟩
   .simp![Zm];exact mk (.inr ⟨u,tu,.new (by rw[eas,ec,eu]) (by rw[ec];exact cz) λj' hj' z=>absurd z (hlo j' hj')⟩) hh' hz'
   .have tp':=tp;obtain⟨a',b',rfl,_⟩:=tp';simp![Ze8 tp tu ⋯]
    refine brS (λhlt=>?_) (λhlt=>?_)
    .simp![Zm];exact mk (.inr ⟨u,tu,.new (by rw[eas,ec,eu]) (by rw[ec];exact cz) λj' hj' z=>ZfX z (hlo.2 j' hj' z) (by grind)⟩) hh' hz'
    .simp![Zm];exact mk (.inr ⟨t,tp,hlo.keep λz=>by rw[eas,ec,eu];exact(Z1 cz).mpr (by grind)⟩) hh' hz'
  .have cz:=ci.2.2.mp c0;have tu:=ZtJ (K:=2*k+21) ea eb cz sa sb;have eu:=ZcY (a:=as' b o x y) (c:=co r o) (by grind)
   generalize as' b o x y/co r o=u at *;have hz':ZeI rs hs i (j+1):=hze.keep λz=>by rw[ec]at z;grind
   have hh':=ZfY hlo (show ¬0<co (cy rs i) (cy rs j)by rw[ec];grind)
   rcases hhi with⟨rfl,hhi⟩|⟨t,tp,hhi⟩
   .simp![Zm];exact mk hh' (.inr ⟨u,tu,.new (by rw[eas,ec,eu]) (by rw[ec];exact cz) λj' hj' z=>absurd z (hhi j' hj')⟩) hz'
   .have tp':=tp;obtain⟨a',b',rfl,_⟩:=tp';simp![Ze8 tu tp ⋯]
    refine brS (λhlt=>?_) (λhlt=>?_)
    .simp![Zm];exact mk hh' (.inr ⟨u,tu,.new (by rw[eas,ec,eu]) (by rw[ec];exact cz) λj' hj' z=>Zcz z (hhi.2 j' hj' z) (by grind)⟩) hz'
    .simp![Zm];exact mk hh' (.inr ⟨t,tp,hhi.keep λz=>by rw[eas,ec,eu];exact Zcz cz iq (by grind)⟩) hz'
 .rintro ρ _ ⟨rfl,lo,hg,x8,x9,x10,x11,x12,rfl,hlo,hhi,hze⟩;rw[ZG]at hlo hhi hze;have one:=hs'.one i;have lt':∃t,Tp (2*k+21) t lo/\LoI rs hs i rs.length t:=by
   rcases hlo with⟨_,hlo⟩|hlo
   .obtain⟨j,hj,ej⟩:=ZiR (rs:=rs) (z:=i+1) hne;refine absurd ?_ (hlo j hj);unfold co;rw[ej,one]
    decide +kernel
   .exact hlo
  have ht':∃t,Tp (2*k+21) t hg/\HiI rs hs i rs.length t:=by
   rcases hhi with⟨_,hhi⟩|hhi
   .obtain⟨j,hj,ej⟩:=ZiR (rs:=rs) (z:=i-1) hne;refine absurd ?_ (hhi j hj);have o2:=hs'.one (i-1);rw[show(i:Int)-1+1=i by lia]at o2
    unfold co;rw[ej,show X (cy rs i) (cy rs (i-1))= -1 by unfold X at *;grind]
    decide +kernel
   .exact hhi
  obtain⟨t,tl,hlo⟩:=lt';obtain⟨u,th,hhi⟩:=ht';simp![Ze8 th tl ⋯]
  refine brS (λhlt=>?_) (λhlt=>?_)
  .simp![Zm];exact q [] _ _ (Znq hs' hlo hhi hlt) (by simp) (λp hp=>by cases hp) Kp.app (af _) (by simp[pts])
  .simp![Zm];have ed:=Zkt hs' hi hlo hhi hze (by grind)
   have st:∀v,Sz (2*k+21) v->Sz (4*k+61) (ptE (cy rs i) (cy rs (i+1)) (cq hs i) v).1/\Sz (4*k+61) (ptE (cy rs i) (cy rs (i+1)) (cq hs i) v).2:=λv hv=>by
    rw[<-ZiS]
    have:=Znr (rs:=[cy rs i,cy rs (i+1)]) (hs:=[-(cq hs i),v]) (k:=2*k+21) (λp hp=>by
     rcases az.mp hp with rfl|hp
     .exact br
     .rcases az.mp hp with rfl|hp
      .exact bb
      .cases hp) (by simp) (λp hp=>by
     rcases az.mp hp with rfl|hp
     .exact⟨by rw[nF,lU];exact aj zi.1 (cK (by decide) ⋯),by rw[nG];exact aj zi.2 (cK (by decide) ⋯)⟩
     .rcases az.mp hp with rfl|hp
      .exact hv
      .cases hp) (by simp)
    exact⟨ZqJ this.1 ⋯,ZqJ this.2 ⋯⟩
   have tsz:∀{v:Rat}{d:D},Tp (2*k+21) v d->Sz (2*k+21) v:=λ⟨a,b,_,b0,e1,s1,s2⟩=>ZtH b0 e1 s1 s2;refine ZtK (λρ=>∃x,ρ=[x,some (pr (cy rs i).1 (cy rs i).2),some (pr (cy rs (i+1)).1 (cy rs (i+1)).2),some (rt (cq hs i))]) (λj=>rp (ptE (cy rs i) (cy rs (i+1)) (cq hs i) (if j=0 then t else u))) (by simp) ⟨_,rfl⟩ ?_ ?_
   .rintro j hj ρ M1 K1 ⟨y,rfl⟩;obtain⟨d,v,e1,e2,tv'⟩:∃d v,[lo,hg][j]=d/\(if j=0 then t else u)=v/\Tp (2*k+21) v d:=by
     match j,hj with
     |0,_=>exact⟨_,_,rfl,rfl,tl⟩
     |1,_=>exact⟨_,_,rfl,rfl,th⟩
    rw[e1,e2];have sv:=tsz tv';obtain⟨a,b,rfl,b0,e3,s1,s2⟩:=tv';simp![Zku b0 e3 s2 ⋯]
    refine⟨⟨_,rfl⟩,?_⟩;have l1:M1.length<(M1++[SO.lst [pr (cy rs i).1 (cy rs i).2,pr (cy rs (i+1)).1 (cy rs (i+1)).2]]).length:=by simp
    rw[ZiB (k:=2*k+21) (rs:=[cy rs i,cy rs (i+1)]) (hs:=[-(cq hs i),v]) (by simp[prs]) (λp hp=>by
     rcases az.mp hp with rfl|hp
     .exact br
     .rcases az.mp hp with rfl|hp
      .exact bb
      .cases hp) (by simp) (by simp[rts,rt,nF,nG]) (by simp) (λp hp=>by
     rcases az.mp hp with rfl|hp
     .exact⟨by rw[nF,lU];exact aj zi.1 (cK (by decide) ⋯),by rw[nG];exact aj zi.2 (cK (by decide) ⋯)⟩
     .rcases az.mp hp with rfl|hp
      .exact sv
      .cases hp) ⋯]
    exact⟨by rw[ZiS],Kp.app⟩
   .intro M1 K1 r1;refine q _ _ _ ed (by simp) (λp hp=>?_) K1 (af _) (by rw[r1];rfl)
    rcases az.mp hp with rfl|hp
    .exact st _ (tsz tl)
    .rcases az.mp hp with rfl|hp
     .exact st _ (tsz th)
     .cases hp
end
end BD
namespace BD
open L2 DL
open CV CN CU CS
open CR (rt Sz)
open CH (rts ZH)
open CD (pts ZP ZaB)
open Rb
noncomputable def ZcZ(xs:List Rat):Nat:=xs.foldl (λb x=>ia b x.den) 1
theorem Zkx(b d:Nat)(hd:d≠0):b*(d/jW b d)=ia b d:=by
 unfold ia;rw[Nat.mul_div_assoc _ (Nat.gcd_dvd_right b d)]
theorem ZiT:ZcZ (xs++[x])=ia (ZcZ xs) x.den:=by simp[ZcZ]
theorem Zdr:∀(xs:List Rat),0<ZcZ xs:=by
 have:∀(xs:List Rat)(b:Nat),0<b->0<xs.foldl (λb x=>ia b x.den) b:=by
  intro xs
  induction xs with
  |nil=>intro b h;exact h
  |cons x r ih=>intro b h;exact ih _ (Nat.lcm_pos h (cL x.den_nz))
 exact λxs=>this xs 1 (by decide)
theorem Zb9(h:x∈xs):x.den ∣ ZcZ xs:=by
 have up:∀(xs:List Rat)(b:Nat),b ∣ xs.foldl (λb x=>ia b x.den) b:=by
  intro xs
  induction xs with
  |nil=>intro b;exact Nat.dvd_refl _
  |cons x r ih=>intro b;exact iO (Nat.dvd_lcm_left _ _) (ih _)
 have:∀(xs:List Rat)(b:Nat),x∈xs->x.den ∣ xs.foldl (λb x=>ia b x.den) b:=by
  intro xs
  induction xs with
  |nil=>intro b h;cases h
  |cons y r ih=>
   intro b h;rcases az.mp h with rfl|h
   .exact iO (Nat.dvd_lcm_right _ _) (up _ _)
   .exact ih _ h
 exact this xs 1 h
section
variable {M:Sto}{k l K i:Nat}{rs:List Pt}{hs:List Rat}{d:D}{ms:List RP}{p:RP}
theorem ZiU(hz:∀x∈xs,Sz k x):ZcZ xs<2^(xs.length*k+1):=by
 have:∀(xs:List Rat)(b e:Nat),(∀x∈xs,Sz k x)->b<2^e->xs.foldl (λb x=>ia b x.den) b<2^(e+xs.length*k):=by
  intro xs
  induction xs with
  |nil=>intro b e _ h;simpa using h
  |cons x r ih=>
   intro b e hz h;have l1:ia b x.den<=b*x.den:=by
    unfold ia;exact i9 _ _
   have l2:=CR.Z6 h (hz x (by simp)).2
   have:=ih (ia b x.den) (e+k) (λy hy=>hz y (aI _ hy)) ⋯
   rw[List.foldl_cons,bD,Nat.add_mul,Nat.one_mul,show e+(r.length*k+k)=e+k+r.length*k by lia]
   exact this
 have:=this xs 1 1 hz (by decide)
 rw[kO]at this;exact this
theorem Zf0(h:M[n]?=some (.lst (rts xs)))(hl:xs.length<=1000)(hz:∀x∈xs,Sz k x)(hk:k<=8000):wO (F_common_bottom [.ref n] M) Q E=Q (.int (ZcZ xs:Nat)) M:=by
 have main (Q:W0) (E:W2) (q:Q (.int (ZcZ xs:Nat)) M):wO (F_common_bottom [.ref n] M) Q E:=by
  have hn:=Zt h;simp![F_common_bottom,Zat];refine Zip (xs:=rts xs) (λi ρ M'=>M'=M/\∃x,ρ=[some (.ref n),some (.int (ZcZ (xs.take i):Nat)),x]) h ⟨rfl,_,rfl⟩ (λi ρ M' hI=>hI.1▸h) ?_ ?_
  .rintro i ρ _ hi ⟨rfl,x,rfl⟩;rw[Zdq];have hi':i<xs.length:=by rw[ZH]at hi;exact hi
   have z:=Zej (i:=i) hz ⋯
   have b:=ZiU (xs:=xs.take i) (k:=k) (λx hx=>hz x (fw hx));have p0:=Zdr (xs.take i);have tk:ZcZ (xs.take (i+1))=ia (ZcZ (xs.take i)) (cq xs i).den:=by rw[dq hi',ZiT,ZiA hi']
   generalize cq xs i=y at *;have gl:(xs.take i).length*k+1<=10000000:=by
    have:(xs.take i).length<=1000:=by simp;lia
    have:=dQ this hk
    lia
   generalize (xs.take i).length*k+1=e at *;generalize ZcZ (xs.take i)=c at *;have gw:∀{Q:W0}{E:W2}{M:Sto},wO (CR.F_greatest_divisor [.int (c:Int),.int (y.den:Int)] M) Q E=Q (.int ((jW c y.den:Nat):Int)) M:=by
    intro Q E M;rw[CR.ZqH,Zk9];rfl
   have g0:0<jW c y.den:=Nat.gcd_pos_of_pos_left _ p0;have g1:jW c y.den<=y.den:=mD (cL y.den_nz) (Nat.gcd_dvd_right c y.den);have st:=Zkx c y.den y.den_nz;have dv:y.den/jW c y.den<=y.den:=i9 _ _;have z2:=z.2;generalize jW c y.den=g at *;simp![Z3,gw];rw[CR.ZbU (k:=k) ⋯ (by simp;lia) hk]
   have f1:Zq (c:Int) ((y.den:Int)/(g:Int)):=Zp e k (by simpa using b) (by rw[<-iJ,jJ];lia) ⋯ ⋯
   simp![ZB f1];refine⟨some (rt y),?_⟩;rw[tk,<-st];simp
  .rintro ρ _ ⟨rfl,x,rfl⟩;rw[ZH,kD];simp![Zm];exact q
 obtain⟨d,M',e,e1,e2⟩:=ZfS (main (λd M'=>d=.int (ZcZ xs:Nat)/\M'=M) (λ_ _=>False) ⟨rfl,rfl⟩);rw[e,e1,e2];rfl
noncomputable def stc(B:Nat)(x:Rat):Int:=x.num*((B/x.den:Nat):Int)
theorem ZaR(h:x.den ∣ B):(stc B x:Rat)=x*(B:Rat):=by
 obtain⟨c,rfl⟩:=h;unfold stc;rw[Nat.mul_div_cancel_left _ (cL x.den_nz),ay,ZcD x,hW,aG];grind
theorem ZaS{B:Nat}(hx:Sz k x)(hk:k<=8000)(hB:B<2^l)(hl:l<=50000000):wO (F_stretched [rt x,.int (B:Int)] M) Q E=Q (.int (stc B x)) M:=by
 have dn:=cL x.den_nz;simp![F_stretched,Zbo];rw[CR.ZbU (k:=k) ⋯ (by simpa using hx.2) hk]
 have:B/x.den<=B:=i9 _ _
 have f1:Zq x.num ((B:Int)/(x.den:Int)):=Zp k l hx.1 (by rw[<-iJ,jJ];lia) ⋯ ⋯
 simp![ZB f1];unfold stc;rw[iJ]
theorem Zf1(h0:0<B)(hx:x.den ∣ B)(hy:y.den ∣ B):stc B x<stc B y↔x<y:=by
 rw[<-dm,ZaR hx,ZaR hy];exact iY (hZ.mpr h0)
theorem Zds(h0:0<B)(hx:x.den ∣ B)(hy:y.den ∣ B)(h:stc B x=stc B y):x=y:=by
 have:=Zf1 h0 hx hy
 have:=Zf1 h0 hy hx
 grind
noncomputable def pl(p q:RP):Prop:=p.1<q.1\/(p.1=q.1/\p.2<q.2)
def ent(m:RP):D:=.tup [rp m,.bl true]
theorem ZtL(m:RP):∃kk,kyU (rp m)=some kk:=⟨_,rfl⟩
theorem ZqZ{a:RP}(h1:kyU (rp a)=some kk)(h2:kyU (rp b)=some kk):a=b:=by
 have e1:=Zb7 (show Zje [rt a.1,rt a.2]=some kk from h1);have e2:=Zb7 (show Zje [rt b.1,rt b.2]=some kk from h2);have e:=e1.trans e2.symm;simp only[iZ,and_true]at e;exact eO (Zlr e.1) (Zlr e.2)
theorem Zq0{a:RP}(h2:kyU (rp b)=some kk):kyU (rp a)=some kk↔a=b:=⟨λh=>ZqZ h h2,λh=>h▸h2⟩
theorem ZiV{kk:List (List Key)}(h:kyU (rp p)=some kk):∀ms:List RP,(ZjR kyU kk (ms.map ent)).isSome=decide (p∈ms)
 |[]=>by simp[ZjR]
 |a::r=>by
  have ih:=ZiV h r;rw[aV,show ent a=.tup [rp a,.bl true]from rfl,ZjR];by_cases e:a=p
  .subst e;rw[if_pos h];simp
  .rw[if_neg (λz=>e ((Zq0 h).mp z)),ih]
   have:p≠a:=λz=>e z.symm
   simp[this]
theorem Zns(ms:List RP):Zmr kyU kk (.bl true) (ms.map ent)=ms.map ent:=by
 unfold Zmr;rw[c7];refine fI λa _=>?_;simp only[Function.comp,ent];split
 .rfl
 .rfl
theorem Znt(h:kyU (rp p)=some kk)(ms:List RP):ZnO kyU kk (rp p) (.bl true) (ms.map ent)=(if p∈ms then ms else ms++[p]).map ent:=by
 unfold ZnO;rw[ZiV h,Zns];by_cases e:p∈ms
 .simp[e]
 .simp[e];rfl
def key(B:Nat)(m:RP):List Int:=[stc B m.1,stc B m.2]
noncomputable def Dv(B:Nat)(ms:List RP):Prop:=∀m∈ms,m.1.den ∣ B/\m.2.den ∣ B
theorem ZiW(h0:0<B)(h:Dv B ms)(ha:a∈ms)(hb:b∈ms)(e:key B a=key B b):a=b:=by
 unfold key at e;simp only[iZ,and_true]at e;exact eO (Zds h0 (h a ha).1 (h b hb).1 e.1) (Zds h0 (h a ha).2 (h b hb).2 e.2)
theorem Zq1(h0:0<B)(h:Dv B ms)(ha:a∈ms)(hb:b∈ms)(ne:a≠b)(e:ST.le (key B a) (key B b)):pl a b:=by
 have e:HT.ZaY (key B b) (key B a)=false:=e;unfold key at e;rw[HT.ZR]at e;have l1:=Zf1 h0 (h a ha).1 (h b hb).1;by_cases c:stc B b.1=stc B a.1
 .rw[if_pos c,HT.ZR]at e;have c1:=Zds h0 (h b hb).1 (h a ha).1 c;have l2:=Zf1 h0 (h a ha).2 (h b hb).2;by_cases d:stc B b.2=stc B a.2
  .exact absurd (eO c1 (Zds h0 (h b hb).2 (h a ha).2 d)).symm ne
  .rw[if_neg d]at e;refine .inr ⟨c1.symm,l2.mp ?_⟩
   have:=of_decide_eq_false e
   lia
 .rw[if_neg c]at e;refine .inl (l1.mp ?_)
  have:=of_decide_eq_false e
  lia
theorem Znu(h0:0<B)(h:Dv B ms)(nd:ms.Nodup):(ms.map (key B)).Nodup:=by
 refine dX.mpr ?_;refine fF (λha hb ne e=>ne (ZiW h0 h ha hb e)) nd
theorem Zf2{α:Type}(d0:α){f:α->List Int}{g:α->D}{ms:List α}(inj:∀a∈ms,∀b∈ms,f a=f b->a=b)(nd:ms.Nodup):∃ms':List α,ms'.Perm ms/\ms'.Pairwise (λa b=>f a≠f b/\ST.le (f a) (f b))/\Zkb (ms.map f) (ms.map g)=ms'.map g:=by
 have kn:(ms.map f).Nodup:=dX.mpr (fF (λha hb ne e=>ne (inj _ ha _ hb e)) nd)
 let inv (k:List Int):α:=(ms.find? (λm=>decide (f m=k))).getD d0
 have hinv:∀a∈ms,inv (f a)=a:=by
  intro a ha;show(ms.find? (λm=>decide (f m=f a))).getD d0=a;cases e:ms.find? (λm=>decide (f m=f a))with
  |none=>
   have:=List.find?_eq_none.mp e a ha
   simp at this
  |some b=>
   have h1:=List.find?_some e;have h2:=List.mem_of_find?_eq_some e;exact inj b h2 a ha (of_decide_eq_true h1)
 have hk:∀k∈ST.srt (ms.map f),∃a∈ms,f a=k:=λk hk=>by
  have:=(ST.Zbz _).mem_iff.mp hk
  obtain⟨a,ha,e⟩:=aX.mp this;exact⟨a,ha,e⟩
 refine⟨(ST.srt (ms.map f)).map inv,?_,?_,?_⟩
 .refine((ST.Zbz _).map inv).trans ?_;rw[c7]
  have:ms.map (inv∘f)=ms:=by
   conv=>rhs;rw[<-List.map_id ms]
   exact fI λa ha=>hinv a ha
  rw[this]
 .refine dX.mpr ?_;have nd2:(ST.srt (ms.map f)).Nodup:=(ST.Zbz _).nodup_iff.mpr kn;have both:=my.and nd2 (ST.Zh7 (ms.map f));refine fF (λ{x y} hx hy hb=>?_) both;obtain⟨a,ha,rfl⟩:=hk x hx;obtain⟨b,hb',rfl⟩:=hk y hy;rw[hinv a ha,hinv b hb'];exact hb
 .unfold Zkb;rw[c7];refine fI λk hk'=>?_;obtain⟨a,ha,rfl⟩:=hk k hk';rw[ZcU (d:=g a) kn (by
   rw[List.zip_map'];exact aX.mpr ⟨a,ha,rfl⟩)]
  simp only[Function.comp,hinv a ha];rfl
theorem Znv(h0:0<B)(h:Dv B ms)(nd:ms.Nodup):∃ms',ms'.Perm ms/\ms'.Pairwise pl/\Zkb (ms.map (key B)) (pts ms)=pts ms':=by
 obtain⟨ms',pm,pw,e⟩:=Zf2 (g:=rp) (0,0) (λa ha b hb=>ZiW h0 h ha hb) nd;exact⟨ms',pm,fF (λ{x y} hx hy hb=>Zq1 h0 h (pm.mem_iff.mp hx) (pm.mem_iff.mp hy) (λz=>hb.1 (by rw[z])) hb.2) pw,e⟩
theorem Zlu:wO (Zgz fs fr g ρ M) Q E=wO (fs ρ M) (kU (Zdi g fr ρ) Q E) E:=by unfold Zgz;exact ZC
noncomputable def Zbp(ms:List RP):List Rat:=ms.flatMap λm=>[m.1,m.2]
theorem ZiX:Zbp (ms++[m])=Zbp ms++[m.1,m.2]:=by simp[Zbp]
theorem Zca:(Zbp ms).length=2*ms.length:=by
 induction ms with
 |nil=>rfl
 |cons a r ih=>simp[Zbp]at ih ⊢;lia
theorem ZaT:x∈Zbp ms↔∃m∈ms,x=m.1\/x=m.2:=by simp[Zbp]
theorem Zlv(h:M[n]?=some (.lst (pts ms)))(hl:ms.length<=1000)(q:Q (.ref M.length) (M++[.lst (rts (Zbp ms))])):Ztu (gNm 0) (λ_ M=>.ok true M) (λn=>gIn (iSq (Zf 0)) (gNm 1) (λ_ M=>.ok true M) (gEm (Zf 1) n)) 2 [] ρ Q (.sto n) M:=by
 have hn:=Zt h;obtain⟨ρ',M',e,x,y,e1,e2⟩:=Zkq (src:=.sto n) (tg:=gNm 0) (c:=λ_ M=>.ok true M) (g:=gIn (iSq (Zf 0)) (gNm 1) (λ_ M=>.ok true M) (gEm (Zf 1) M.length)) (P:=λi ρ M'=>∃x y,ρ=[x,y]/\M'=M++[.lst (rts (Zbp (ms.take i)))]) ms.length (by
  rintro i ρ M' hi ⟨x,y,rfl,rfl⟩;have tk:ms.take (i+1)=ms.take i++[ms[i]]:=dq hi;refine⟨rp ms[i],[some (rp ms[i]),y],_,?_,rfl,.inr ⟨[some (rp ms[i]),some (rt ms[i].2)],M++[.lst (rts (Zbp (ms.take (i+1))))],rfl,?_,_,_,rfl,rfl⟩⟩
  .rw[Zef (xs:=pts ms) (by rw[aC hn];exact h),ae (by rw[ZP];exact hi),ZaB]
  .have ln:((Zbp (ms.take i)).map rt).length<9999999:=by rw[au,Zca,bI];lia
   rw[tk,ZiX];simp only[gIn,iSq,Out.bind,Zf,kr,Zb5,nxt,cnt,gNm,gEm,List.set_cons_zero,List.set_cons_succ,db,bD,hO];rw[au]at ln;simp[rts];rw[if_pos ⋯]
   simp;rw[if_pos ⋯]) (by
  rintro ρ M' ⟨x,y,rfl,rfl⟩;rw[Zef (xs:=pts ms) (by rw[aC hn];exact h),aZ (by rw[ZP];exact af _)]) (cnt (.sto n) M) 0 (roB 2 [] ρ) (M++[.lst []]) ⋯ (by rw[Zdl h,ZP];lia) ⟨_,_,rfl,by simp[Zbp,rts]⟩
 refine⟨ρ',M',e,?_⟩;rw[e2,kD];exact q
theorem Zlw{ρ:Ro}{B:Nat}(hρ:ρ[1]?=some (some (.int (B:Int))))(hB:B<2^l)(hl:l<=50000000)(hk:k<=8000):∀ms:List RP,(∀p∈ms,Sz k p.1/\Sz k p.2)->Zcq (Z7 (Zc (Zj F_stretched (Zc (e2 dIx (Zf 0) (eC (.int 0))) (Zc (Zf 1) aNil))) (Zc (Zj F_stretched (Zc (e2 dIx (Zf 0) (eC (.int 1))) (Zc (Zf 1) aNil))) aNil))) [1] ρ M (pts ms) (ms.map (key B))
 |[],_=>.nil
 |a::r,hz=>by
  have ih:=Zlw hρ hB hl hk r (λp hp=>hz p (aI _ hp));have za:=hz a (by simp)
  refine .cons ⟨?_,by simp[key]⟩ ih
  have e:roL (rp a) [1] ρ=[some (rp a),some (.int (B:Int))]:=by simp[roL,hρ]
  show(Z7 _ (roL (rp a) [1] ρ) M)=_;rw[e]
  have:wO (Z7 (Zc (Zj F_stretched (Zc (e2 dIx (Zf 0) (eC (.int 0))) (Zc (Zf 1) aNil))) (Zc (Zj F_stretched (Zc (e2 dIx (Zf 0) (eC (.int 1))) (Zc (Zf 1) aNil))) aNil)) [some (rp a),some (.int (B:Int))] M) (λd M'=>d=Zj7 (key B a)/\M'=M) (λ_ _=>False):=by
   simp![ZaS za.1 hk hB hl,ZaS za.2 hk hB hl];rfl
  obtain⟨d,M',e,e1,e2⟩:=ZfS this;rw[e,e1,e2]
theorem ZgA(h:M[n]?=some (.lst (pts ms)))(nd:ms.Nodup)(hl:ms.length<64)(hz:∀p∈ms,Sz k p.1/\Sz k p.2)(hk:k<=8000)(q:∀ms' M',ms'.Perm ms->ms'.Pairwise pl->Kp M M'->M.length<M'.length->M'[M'.length-1]?=some (.lst (pts ms'))->Q (.ref (M'.length-1)) M'):wO (F_in_order [.ref n] M) Q E:=by
 have hn:=Zt h;simp![F_in_order,ZbN,Zit];refine Zlv h ⋯ ?_
 have zf:∀x∈Zbp ms,Sz k x:=λx hx=>by
  obtain⟨m,hm,e|e⟩:=ZaT.mp hx
  .rw[e];exact(hz m hm).1
  .rw[e];exact(hz m hm).2
 simp![Zf0 (M:=M++[SO.lst (rts (Zbp ms))]) (n:=M.length) (xs:=Zbp ms) (k:=k) (by simp) (by rw[Zca];lia) zf hk,Zlu]
 have h0:=Zdr (Zbp ms);have dv:Dv (ZcZ (Zbp ms)) ms:=λm hm=>⟨Zb9 (ZaT.mpr ⟨m,hm,.inl rfl⟩),Zb9 (ZaT.mpr ⟨m,hm,.inr rfl⟩)⟩;have lb:=ZiU zf;rw[Zca]at lb;have bl:2*ms.length*k+1<=50000000:=by
  have:=dQ (show 2*ms.length<=128 by lia) hk
  lia
 obtain⟨ms',pm,pw,es⟩:=Znv h0 dv nd;have ok:Zie (Z7 (Zc (Zj F_stretched (Zc (e2 dIx (Zf 0) (eC (.int 0))) (Zc (Zf 1) aNil))) (Zc (Zj F_stretched (Zc (e2 dIx (Zf 0) (eC (.int 1))) (Zc (Zf 1) aNil))) aNil))) [1] [some (.ref n),some (.int (ZcZ (Zbp ms):Nat))] (M++[SO.lst (rts (Zbp ms))]) (pts ms) (ms.map (key (ZcZ (Zbp ms)))):=⟨by rw[ZP];lia,Znu h0 dv nd,Zlw rfl lb bl hk ms hz⟩
 rw[Zdj (by rw[aC hn];exact h) ok,es]
 refine(?_:Q _ _)
 have:=q ms' (M++[SO.lst (rts (Zbp ms))]++[SO.lst (pts ms')]) pm pw (by rw[cU];exact Kp.app) (by simp) (by simp)
 simpa using this
def Bod(rs:List Pt)(hs:List Rat)(ms:List RP):Prop:=(∀p,p∈ms↔Cor rs hs p)/\ms.Pairwise pl
structure Met(rs:List Pt) (hs:List Rat) (K i:Nat) (ms:List RP):Prop where
 nd:ms.Nodup
 sz:∀p∈ms,Sz K p.1/\Sz K p.2
 cor:∀p∈ms,Cor rs hs p
 all:∀p i' j,i'<i->Win rs hs p->On rs hs p i'->On rs hs p j->X (cy rs i') (cy rs j)≠0->p∈ms
 len:ms.length<=2*i
theorem Zq2(h:M[n]?=some (.lst (prs rs)))(hs':Smo rs)(hb:Nr B rs)(hl:rs.length<=31)(h':M[m]?=some (.lst (rts hs)))(e:hs.length=rs.length)(hz:∀x∈hs,Sz k x)(hk:k<=900)(q:∀ms o M',Bod rs hs ms->(∀p∈ms,Sz (4*k+61) p.1/\Sz (4*k+61) p.2)->ms.length<=2*rs.length->Kp M M'->M.length<=o->M'[o]?=some (.lst (pts ms))->Q (.ref o) M')(hB:B<=400:=by first|decide|assumption):wO (F_body [.ref n,.ref m] M) Q E:=by
 have hn:=Zt h;have hm:=Zt h';simp![F_body,ZiO];refine CC.Zeh h hs' (λx hx=>by have:=hb x hx;lia) ?_
 simp![Zm];refine Zek h h' e ?_;have r0:(M++[SO.lst []])[M.length]?=some (.lst (([]:List RP).map ent)):=by simp
 simp![Zty,h];refine⟨⋯,?_⟩
 rw[gm];refine ZcW (n:=rs.length) (lo:=0) (λi ρ M'=>Kp M M'/\∃ms x3 x4,ρ=[some (.ref n),some (.ref m),some (.du M.length),x3,x4]/\M'[M.length]?=some (.lst (ms.map ent))/\Met rs hs (4*k+61) i ms) ⟨Kp.app,[],_,_,rfl,r0,⟨.nil,λp hp=>(by cases hp),λp hp=>(by cases hp),λp i' j hi=>(by lia),by simp⟩⟩ ?_ ?_
 .rintro i ρ M1 hi ⟨K1,ms,x3,x4,rfl,r1,me⟩;rw[show(0:Int)+(i:Nat)=i by lia]
  simp![ZcC];refine ZqY (K1.get h) hs' hb ⋯ (K1.get h') e hz hk hi λps o M2 ed lp zp K2 lo r2=>?_
  have hd:=Zt r1;have hne:o≠M.length:=⋯
  refine Zip (xs:=pts ps) (λj ρ M'=>Kp M M'/\M'[o]?=some (.lst (pts ps))/\∃ms' x4,ρ=[some (.ref n),some (.ref m),some (.du M.length),some (.int i),x4]/\M'[M.length]?=some (.lst (ms'.map ent))/\ms'.Nodup/\(∀p,p∈ms'↔p∈ms\/p∈ps.take j)/\ms'.length<=ms.length+j) r2 ⟨K1.trans K2,r2,ms,_,rfl,K2.get r1,me.nd,λp=>by simp,⋯⟩ (λj ρ M' hI=>hI.2.1) ?_ ?_
  .rintro j ρ M3 hj ⟨K3,r3,ms',x4',rfl,rd,nd',mem',len'⟩;have hj':j<ps.length:=by rw[ZP]at hj;exact hj
   rw[ZaB];have tk:ps.take (j+1)=ps.take j++[ps[j]]:=dq hj';generalize ps[j]=p at *;obtain⟨kk,ek⟩:=ZtL p;have hl3:=Zt rd;have lm:=me.len;simp![ZcB,ZqD,Ztw,Ztv];refine⟨_,kk,rfl,ek,?_⟩;rw[rd];refine⟨by rw[au];lia,K3.set (af _),by rw[be ⋯];exact r3,(if p∈ms' then ms' else ms'++[p]),_,rfl,by rw[aT hl3,Znt ek],?_,λp'=>?_,?_⟩
   .split
    .exact nd'
    .rename_i c;exact jP.mpr ⟨nd',by simp,λa ha b hb=>by simp at hb;subst hb;exact λz=>c (z▸ha)⟩
   .rw[tk];by_cases c:p∈ms'
    .rw[if_pos c,mem'];have c':=(mem' p).mp c;simp only[a7,az,cN,or_false];constructor
     .rintro(z|z)
      .exact .inl z
      .exact .inr (.inl z)
     .rintro(z|z|z)
      .exact .inl z
      .exact .inr z
      .rw[z];exact c'
    .rw[if_neg c];simp only[a7,mem',az,cN,or_false,or_assoc]
   .split
    .lia
    .simp;lia
  .rintro ρ M3 ⟨K3,r3,ms',x4',rfl,rd,nd',mem',len'⟩;rw[ZP,kD]at mem';rw[ZP]at len';have lm:=me.len;refine⟨K3,ms',_,_,rfl,rd,⟨nd',λp hp=>?_,λp hp=>?_,λp i' j hi' w o1 o2 ne=>?_,⋯⟩⟩
   .rcases(mem' p).mp hp with z|z
    .exact me.sz p z
    .exact zp p z
   .rcases(mem' p).mp hp with z|z
    .exact me.cor p z
    .exact ed.1 p z
   .by_cases z:i'=i
    .subst z;exact(mem' p).mpr (.inr (ed.2 p j w o1 o2 ne))
    .exact(mem' p).mpr (.inl (me.all p i' j ⋯ w o1 o2 ne))
 .rintro ρ M1 ⟨K1,ms,x3,x4,rfl,r1,me⟩;have hd:=Zt r1;have lm:=me.len;simp![Ztx,ZuP,r1];have em:(ms.map ent).map ZhR=pts ms:=by rw[c7];rfl
  rw[em];refine ZgA (k:=4*k+61) (ms:=ms) (M:=M1++[SO.lst (pts ms)]) (by simp) me.nd ⋯ me.sz ⋯ λms' M' pm pw K' l' r'=>?_
  refine q ms' _ M' ⟨λp=>⟨λhp=>me.cor p (pm.mem_iff.mp hp),λ⟨w,i,j,o1,o2,ne⟩=>pm.mem_iff.mpr (me.all p i j o1.1 w o1 o2 ne)⟩,pw⟩ (λp hp=>me.sz p (pm.mem_iff.mp hp)) (by rw[pm.length_eq];lia) (K1.trans (Kp.app.trans K')) ?_ r'
  have:=K1.1
  have:=K'.1
  simp at this;lia
end
end BD
namespace BL
open L2 DL
end BL
namespace BL
open L2 DL
open CV CN CU CS
open CR (rt Sz)
open CH (rts ZH)
open CD (pts ZP ZaB)
open Rb BD
def crn(r s:Pt)(x y:Rat):RP:=(((r.2:Rat)*y-s.2*x)/(X r s:Rat),((s.1:Rat)*x-r.1*y)/(X r s:Rat))
theorem Znw(ne:X r s≠0):p=crn r s x y↔slp p r= -x/\slp p s= -y:=by
 have nz:((X r s:Int):Rat)≠0:=λz=>ne (kC.mp z);have e1:=ZcY (a:=(r.2:Rat)*y-s.2*x) nz;have e2:=ZcY (a:=(s.1:Rat)*x-r.1*y) nz;have ex:=ZaH r s;unfold crn slp;generalize ((r.2:Rat)*y-s.2*x)/(X r s:Rat)=a at *;generalize ((s.1:Rat)*x-r.1*y)/(X r s:Rat)=b at *;generalize ((X r s:Int):Rat)=c at *;constructor
 .rintro rfl;constructor
  .simp only
   have:c*(a*r.1+b*r.2)=c*(-x):=by grind
   grind
  .simp only
   have:c*(a*s.1+b*s.2)=c*(-y):=by grind
   grind
 .rintro⟨h1,h2⟩;refine eO ?_ ?_
  .simp only
   have:c*p.1=c*a:=by grind
   grind
  .simp only
   have:c*p.2=c*b:=by grind
   grind
end BL
namespace Rb
open L2 DL
open CN (cq)
open CS (slp)
open TW
theorem ZtM(h:Smo rs)(hi:i<rs.length)(hj:j<rs.length)(ne:i≠j)(h1:0<=X (cy rs i) (cy rs j))(h2:0<X (cy rs j) (cy rs (i+1))):False:=by
 have hr:=h.rn;have p2:=hr.pos j;have w0:cy rs j≠(0,0):=by
  intro z;rw[z]at p2;unfold X at p2;simp at p2
 have c:=(hr.fan (cy rs j) w0).1;rw[ZfW hr.ne]at c;have a1:=Zix (w:=cy rs j) (a:=cy rs i) (b:=cy rs (i+1)) ⋯ h2
 have a2:=Zix (w:=cy rs j) (a:=cy rs j) (b:=cy rs (j+1)) (by rw[XX];lia) p2
 rcases(show i<j\/j<i by lia)with z|z
 .have g:=ZiC (f:=in1 (cy rs j)) (rs:=rs) rs.length 0 i j z hj;rw[show(0:Int)+i=i by lia,show(0:Int)+j=j by lia,a1,a2]at g
  lia
 .have g:=ZiC (f:=in1 (cy rs j)) (rs:=rs) rs.length 0 j i z hi;rw[show(0:Int)+i=i by lia,show(0:Int)+j=j by lia,a1,a2]at g
  lia
theorem free(h:Smo rs)(hi:i<rs.length)(hj:j<rs.length)(h1:0<X (cy rs i) (cy rs j))(h2:0<X (cy rs j) (cy rs (i+1))):False:=ZtM h hi hj (λz=>by subst z;rw[XX]at h1;lia) ⋯ h2
theorem ZgD(p:RP)(s t v:Pt):(X s t:Rat)*slp p v=(X v t:Rat)*slp p s+(X s v:Rat)*slp p t:=by
 rw[ZaH,ZaH,ZaH];unfold slp;grind
structure Cn(s t r b:Pt):Prop where
 st:0<X s t
 sr:0<=X s r
 rt:0<=X r t
 sb:0<=X s b
 bt:0<=X b t
def vl(s t w:Pt)(x y:Rat):Rat:= -((X w t:Rat)*x+(X s w:Rat)*y)
theorem ge0{a:Int}(h:0<=a):(0:Rat)<=(a:Rat):=eQ.mpr h
theorem gt0{a:Int}(h:0<a):(0:Rat)<(a:Rat):=dB.mpr h
theorem ZuS{α:Type}(P:α->Prop)(f:α->Rat):∀L:List α,(∃x∈L,P x)->∃x∈L,P x/\∀y∈L,P y->f y<=f x
 |[],⟨x,hx,_⟩=>by cases hx
 |a::L,h=>by
  classical
  by_cases hL:∃x∈L,P x
  .obtain⟨x,hx,px,mx⟩:=ZuS P f L hL;by_cases c:P a/\f x<f a
   .refine⟨a,by simp,c.1,λy hy py=>?_⟩
    rcases az.mp hy with rfl|hy
    .exact iq
    .have:=mx y hy py
     grind
   .refine⟨x,aI _ hx,px,λy hy py=>?_⟩;rcases az.mp hy with rfl|hy
    .by_cases z:f y<=f x
     .exact z
     .exact absurd ⟨py,by grind⟩ c
    .exact mx y hy py
  .obtain⟨x,hx,px⟩:=h;rcases az.mp hx with rfl|hx
   .refine⟨x,by simp,px,λy hy py=>?_⟩
    rcases az.mp hy with rfl|hy
    .exact iq
    .exact absurd ⟨y,hy,py⟩ hL
   .exact absurd ⟨x,hx,px⟩ hL
theorem plk(r u s t:Pt):X r u*X s t=X r t*X s u-X s r*X u t:=by unfold X;grind
theorem swap(c:Cn s t r b)(rb:X r b=1)(fr:¬(0<X r u/\0<X u b))(no:¬(X u t<=0/\X s u<=0)):Cn s u r b\/Cn u t r b:=by
 obtain⟨st,sr,rt,sb,bt⟩:=c;have e1:=plk r u s t;have e2:=plk b u s t;have e3:=plk r b s t;rw[rb]at e3;have sw:∀p q:Pt,X p q= -(X q p):=λp q=>by unfold X;grind
 have u1:=sw u r;have u2:=sw u b;generalize g1:X r u=ru at *;generalize g2:X b u=bu at *;generalize g3:X r t=r1 at *;generalize g4:X s r=r2 at *;generalize hb1:X b t=b1 at *;generalize g5:X s b=b2 at *;generalize ha:X u t=a at *;generalize hc:X s u=c at *;generalize g6:X s t=k at *;have r1p:0<r1:=by
  rcases(show r1=0\/0<r1 by lia)with z|z
  .rw[z]at e3
   have:=b9 sr bt
   lia
  .exact z
 have b2p:0<b2:=by
  rcases(show b2=0\/0<b2 by lia)with z|z
  .rw[z]at e3
   have:=b9 sr bt
   simp at e3;lia
  .exact z
 have pos:∀{x:Int},0<=x*k->0<=x:=λ{x} h=>by
  by_cases z:0<=x
  .exact z
  .have:=jZ (show 0 < -x by lia) st
   rw[lR]at this;lia
 have npos:∀{x:Int},x*k<=0->x<=0:=λ{x} h=>by
  by_cases z:x<=0
  .exact z
  .have:=jZ (show 0<x by lia) st
   lia
 by_cases hc0:0<c
 .by_cases ha0:0<a
  .by_cases f:0<ru
   .
    have f2:¬0<X u b:=λz=>fr ⟨f,z⟩;have bu0:0<=bu:=⋯
    exact .inl ⟨⋯,⋯,⋯,⋯,⋯⟩
   .have ur:0<=X u r:=⋯
    refine .inr ⟨⋯,ur,⋯,?_,⋯⟩
    have h1:ru*k<=0:=by
     have:=b9 (show 0<= -ru by lia) (show 0<=k by lia)
     rw[lR]at this;lia
    have m1:r1*(b1*c-b2*a)<=0:=by
     have q1:=b9 (show 0<=r2*a-r1*c by lia) bt
     have q2:=b9 (show 0<=r1*b2-r2*b1 by lia) (show 0<=a by lia)
     have:r1*(b1*c-b2*a)= -((r2*a-r1*c)*b1)-(r1*b2-r2*b1)*a:=by grind
     lia
    have m2:b1*c-b2*a<=0:=by
     by_cases z:b1*c-b2*a<=0
     .exact z
     .have:=jZ r1p (show 0<b1*c-b2*a by lia)
      lia
    have:=npos (x:=bu) ⋯
    lia
  .refine .inl ⟨⋯,⋯,?_,⋯,?_⟩
   .have q1:=b9 (show 0<=r1 by lia) (show 0<=c by lia)
    have q2:=b9 sr (show 0<= -a by lia)
    rw[nH]at q2
    have:=pos (x:=ru) ⋯
    lia
   .have q1:=b9 bt (show 0<=c by lia)
    have q2:=b9 sb (show 0<= -a by lia)
    rw[nH]at q2
    have:=pos (x:=bu) ⋯
    lia
 .have ha0:0<a:=⋯
  have q1:=b9 (show 0<=r1 by lia) (show 0<= -c by lia)
  have q2:=b9 sr (show 0<=a by lia)
  have q3:=b9 bt (show 0<= -c by lia)
  have q4:=b9 sb (show 0<=a by lia)
  rw[nH]at q1 q3;have z1:=npos (x:=ru) ⋯
  have z2:=npos (x:=bu) ⋯
  exact .inr ⟨⋯,⋯,⋯,⋯,⋯⟩
theorem ZiY{a:Rat}(hc:0<c)(h:a<b):c*a<c*b:=(gU hc).mpr h
theorem more(c:Cn s u r b)(rb:X r b=1)(sb:0<X s r+X s b)(ps:slp p s= -x)(ps':slp p' s= -x)(pu:slp p u < -y)(pu':slp p' u= -y):slp p r+slp p b<slp p' r+slp p' b:=by
 have t1:=ZgD p s u r;have t2:=ZgD p s u b;have t3:=ZgD p' s u r;have t4:=ZgD p' s u b;have k:=gt0 c.st;have q:(0:Rat)<(X s r:Rat)+(X s b:Rat):=by rw[<-bE];exact gt0 sb
 have:=ZiY q pu
 rw[ps]at t1 t2;rw[ps',pu']at t3 t4;generalize slp p r=a1 at *;generalize slp p b=a2 at *;generalize slp p' r=a3 at *;generalize slp p' b=a4 at *;generalize slp p u=z at *;have e:(X s u:Rat)*(a1+a2)<(X s u:Rat)*(a3+a4):=by grind
 exact(gU k).mp e
theorem ZtN(c:Cn u t r b)(rb:X r b=1)(sb:0<X r t+X b t)(ps:slp p t= -x)(ps':slp p' t= -x)(pu:slp p u < -y)(pu':slp p' u= -y):slp p r+slp p b<slp p' r+slp p' b:=by
 have t1:=ZgD p u t r;have t2:=ZgD p u t b;have t3:=ZgD p' u t r;have t4:=ZgD p' u t b;have k:=gt0 c.st;have q:(0:Rat)<(X r t:Rat)+(X b t:Rat):=by rw[<-bE];exact gt0 sb
 have:=ZiY q pu
 rw[ps]at t1 t2;rw[ps',pu']at t3 t4;generalize slp p r=a1 at *;generalize slp p b=a2 at *;generalize slp p' r=a3 at *;generalize slp p' b=a4 at *;generalize slp p u=z at *;have e:(X u t:Rat)*(a1+a2)<(X u t:Rat)*(a3+a4):=by grind
 exact(gU k).mp e
theorem Zlx(c:Cn s t r b)(rb:X r b=1):0<X s r+X s b/\0<X r t+X b t:=by
 have e3:=plk r b s t;rw[rb]at e3;obtain⟨st,sr,rt,sb,bt⟩:=c;generalize X r t=r1 at *;generalize X s r=r2 at *;generalize X b t=b1 at *;generalize X s b=b2 at *;constructor
 .by_cases z:0<r2+b2
  .exact z
  .have e1:r2=0:=⋯
   have e2:b2=0:=⋯
   rw[e1,e2]at e3;simp at e3;lia
 .by_cases z:0<r1+b1
  .exact z
  .have e1:r1=0:=⋯
   have e2:b1=0:=⋯
   rw[e1,e2]at e3;simp at e3;lia
theorem wed(h:Smo rs)(hi:i<rs.length)(hq:Win rs hs q):∃p s t,Win rs hs p/\On rs hs p s/\On rs hs p t/\Cn (cy rs s) (cy rs t) (cy rs i) (cy rs (i+1)):=by
 have rb:=h.one i;obtain⟨j,hj,ej⟩:=BD.ZiR (rs:=rs) (z:=(i:Int)+1) h.ne
 let L:List (Nat×Nat):=(aJ rs.length).flatMap λa=>(aJ rs.length).map λb=>(a,b)
 have mem:∀a b,a<rs.length->b<rs.length->(a,b)∈L:=λa b ha hb=>kE.mpr ⟨a,bZ.mpr ha,aX.mpr ⟨b,bZ.mpr hb,rfl⟩⟩;have mem':∀x∈L,x.1<rs.length/\x.2<rs.length:=λx hx=>by
  obtain⟨a,ha,hb⟩:=kE.mp hx;obtain⟨b,hb2,rfl⟩:=aX.mp hb;exact⟨bZ.mp ha,bZ.mp hb2⟩
 let pt (x:Nat×Nat):RP:=BL.crn (cy rs x.1) (cy rs x.2) (cq hs x.1) (cq hs x.2)
 have xx:∀p:Pt,X p p=0:=λp=>by unfold X;grind
 obtain⟨⟨s,t⟩,hst,cn,mx⟩:=ZuS (λx:Nat×Nat=>Cn (cy rs x.1) (cy rs x.2) (cy rs i) (cy rs (i+1))) (λx=>slp (pt x) (cy rs i)+slp (pt x) (cy rs (i+1))) L ⟨(i,j),mem i j hi hj,by
  simp only[ej];exact⟨⋯,by rw[xx];lia,⋯,⋯,by rw[xx];lia⟩⟩
 obtain⟨hs0,ht0⟩:=mem' _ hst;simp only at cn hs0 ht0;have on:∀a b:Nat,X (cy rs a) (cy rs b)≠0->slp (pt (a,b)) (cy rs a)= -(cq hs a)/\slp (pt (a,b)) (cy rs b)= -(cq hs b):=λa b ne=>(BL.Znw ne).mp rfl;obtain⟨o1,o2⟩:=on s t (by have:=cn.st;lia)
 have w:Win rs hs (pt (s,t)):=by
  intro u hu;by_cases z: -(cq hs u)<=slp (pt (s,t)) (cy rs u)
  .exact z
  .exfalso;have z:slp (pt (s,t)) (cy rs u) < -(cq hs u):=by grind
   by_cases no:X (cy rs u) (cy rs t)<=0/\X (cy rs s) (cy rs u)<=0
   .have t1:=ZgD q (cy rs s) (cy rs t) (cy rs u);have t2:=ZgD (pt (s,t)) (cy rs s) (cy rs t) (cy rs u);have a1:=hq s hs0;have a2:=hq t ht0;have a3:=hq u hu;have k:=gt0 cn.st;have n1:(X (cy rs u) (cy rs t):Rat)<=0:=jI.mpr no.1;have n2:(X (cy rs s) (cy rs u):Rat)<=0:=jI.mpr no.2;rw[o1,o2]at t2;have b1:=aF a1 (show 0<= -(X (cy rs u) (cy rs t):Rat)by grind)
    have b2:=aF a2 (show 0<= -(X (cy rs s) (cy rs u):Rat)by grind)
    have b3:=aF a3 (show 0<=(X (cy rs s) (cy rs t):Rat)by grind)
    have b4:=ZiY k z;grind
   .rcases swap cn rb (λf=>free h hi hu f.1 f.2) no with c|c
    .obtain⟨o3,o4⟩:=on s u (by have:=c.st;lia)
     have:=more c rb (Zlx c rb).1 o1 o3 z o4
     have:=mx (s,u) (mem s u hs0 hu) c
     grind
    .obtain⟨o3,o4⟩:=on u t (by have:=c.st;lia)
     have:=ZtN c rb (Zlx c rb).2 o2 o4 z o3
     have:=mx (u,t) (mem u t hu ht0) c
     grind
 exact⟨pt (s,t),s,t,w,⟨hs0,o1⟩,⟨ht0,o2⟩,cn⟩
theorem Zq3(os:On rs hs p s)(ot:On rs hs p t)(st:0<X (cy rs s) (cy rs t))(h1:0<=X v (cy rs t))(h2:0<=X (cy rs s) v)(hq:Win rs hs q):slp p v<=slp q v:=by
 have a1:=hq s os.1;have a2:=hq t ot.1;rw[<-os.2]at a1;rw[<-ot.2]at a2;have k:=gt0 st;have t1:=ZgD q (cy rs s) (cy rs t) v;have t2:=ZgD p (cy rs s) (cy rs t) v;have b1:=aF a1 (ge0 h1);have b2:=aF a2 (ge0 h2);refine(Z1 k).mp ?_;rw[t1,t2];grind
theorem ZtO(h:Smo rs)(hi:i<rs.length)(hq:Win rs hs q):∃p,Cor rs hs p/\∀q,Win rs hs q->slp p (cy rs i)<=slp q (cy rs i)/\slp p (cy rs (i+1))<=slp q (cy rs (i+1)):=by
 obtain⟨p,s,t,w,os,ot,cn⟩:=wed h hi hq;exact⟨p,⟨w,s,t,os,ot,by have:=cn.st;lia⟩,λq hq=>⟨Zq3 os ot cn.st cn.rt cn.sr hq,Zq3 os ot cn.st cn.bt cn.sb hq⟩⟩
end Rb
namespace Ri
open L2 DL
noncomputable def pd(p r:Pt):Int:=p.1*r.1+p.2*r.2
def gv(P:List Pt)(r:Pt):List Int:=P.map λp=>pd p r
def mx(P:List Pt)(r:Pt):Int:=(gv P r).max?.getD 0
def mn(P:List Pt)(r:Pt):Int:=(gv P r).min?.getD 0
def wd(P:List Pt)(r:Pt):Int:=mx P r-mn P r
noncomputable def lss(w:Pt)(m:Int)(n:Pt):Pt:=(w.1-m*n.1,w.2-m*n.2)
noncomputable def sm(S:Nat)(r:Pt):Prop:=r.1.natAbs<=S/\r.2.natAbs<=S
noncomputable def df(p q:Pt):Pt:=(p.1-q.1,p.2-q.2)
section
variable {P:List Pt}{r n w d q:Pt}{C:Nat}
theorem Ze9(h:P≠[]):(gv P r).max?=some (mx P r)/\(∃p∈P,mx P r=pd p r)/\∀p∈P,pd p r<=mx P r:=by
 cases e:(gv P r).max? with
 |none=>exact absurd (gS.mp (iG.mp e)) h
 |some m=>
  obtain⟨h1,h2⟩:=gj.mp e;have t:mx P r=m:=by unfold mx;rw[e];rfl
  rw[t];obtain⟨u,hu,eu⟩:=aX.mp h1;exact⟨rfl,⟨u,hu,eu.symm⟩,λv hv=>h2 _ (aX.mpr ⟨v,hv,rfl⟩)⟩
theorem Zfa(h:P≠[]):(gv P r).min?=some (mn P r)/\(∃p∈P,mn P r=pd p r)/\∀p∈P,mn P r<=pd p r:=by
 cases e:(gv P r).min? with
 |none=>exact absurd (gS.mp (List.min?_eq_none_iff.mp e)) h
 |some m=>
  obtain⟨h1,h2⟩:=lj.mp e;have t:mn P r=m:=by unfold mn;rw[e];rfl
  rw[t];obtain⟨u,hu,eu⟩:=aX.mp h1;exact⟨rfl,⟨u,hu,eu.symm⟩,λv hv=>h2 _ (aX.mpr ⟨v,hv,rfl⟩)⟩
theorem Zky(h:P≠[]):0<=wd P r:=by
 obtain⟨_,⟨p,hp,e⟩,_⟩:=Ze9 (r:=r) h
 have:=(Zfa (r:=r) h).2.2 p hp
 unfold wd;lia
theorem Zdt(hp:p∈P)(hq:q∈P):(pd (df p q) r).natAbs<=wd P r:=by
 have hne:P≠[]:=λz=>by rw[z]at hp;cases hp
 have a1:=(Ze9 (r:=r) hne).2.2 p hp;have a2:=(Ze9 (r:=r) hne).2.2 q hq;have b1:=(Zfa (r:=r) hne).2.2 p hp;have b2:=(Zfa (r:=r) hne).2.2 q hq;have e:pd (df p q) r=pd p r-pd q r:=by unfold pd df;grind
 rw[e];unfold wd;lia
theorem Zfb(h:P≠[]):∃p∈P,∃q∈P,wd P r=pd (df p q) r:=by
 obtain⟨_,⟨p,hp,e⟩,_⟩:=Ze9 (r:=r) h;obtain⟨_,⟨q,hq,e'⟩,_⟩:=Zfa (r:=r) h;refine⟨p,hp,q,hq,?_⟩;unfold wd;rw[e,e'];unfold pd df;grind
theorem Z2{a:Int}(h1:a.natAbs<=x)(h2:b.natAbs<=y):(a*b).natAbs<=x*y:=by
 rw[aR];exact dQ h1 h2
theorem ZiZ(hc:∀p∈P,sm C p)(hp:p∈P)(hq:q∈P):sm (2*C) (df p q):=by
 have h1:=hc p hp;have h2:=hc q hq;unfold sm df at *;dsimp only;omega
theorem Zq4(h:P≠[])(hc:∀p∈P,sm C p):wd P (1,0)<=(2*C:Nat)/\wd P (0,1)<=(2*C:Nat):=by
 constructor
 .obtain⟨p,hp,q,hq,e⟩:=Zfb (r:=(1,0)) h;have hd:=ZiZ hc hp hq;rw[e];unfold pd sm at *;lia
 .obtain⟨p,hp,q,hq,e⟩:=Zfb (r:=(0,1)) h;have hd:=ZiZ hc hp hq;rw[e];unfold pd sm at *;lia
def Spn(P:List Pt):Prop:=∃p∈P,∃q∈P,∃s∈P,X (df p q) (df p s)≠0
theorem Zel{D:Int}(hD:D≠0)(h:(a*D).natAbs<=x):a.natAbs<=x:=by
 rw[aR]at h;have h1:1<=D.natAbs:=⋯
 have:=dw a.natAbs h1
 lia
theorem Zf3(hp:p∈P)(hq:q∈P)(hs:s∈P)(hc:∀p∈P,sm C p)(hw:wd P r<=(2*C:Nat)):(r.1*X (df p q) (df p s)).natAbs<=8*C*C/\(r.2*X (df p q) (df p s)).natAbs<=8*C*C:=by
 have h1:=ZiZ hc hp hq;have h2:=ZiZ hc hp hs;have w1:(pd (df p q) r).natAbs<=2*C:=by have:=Zdt (r:=r) hp hq;omega
 have w2:(pd (df p s) r).natAbs<=2*C:=by have:=Zdt (r:=r) hp hs;omega
 generalize df p q=u at *;generalize df p s=v at *;have e:8*C*C=2*C*(2*C)+2*C*(2*C):=by grind
 constructor
 .have:r.1*X u v=pd u r*v.2-pd v r*u.2:=by unfold pd X;grind
  rw[this];have a1:=Z2 w1 h2.2;have a2:=Z2 w2 h1.2;omega
 .have:r.2*X u v=pd v r*u.1-pd u r*v.1:=by unfold pd X;grind
  rw[this];have a1:=Z2 w1 h2.1;have a2:=Z2 w2 h1.1;omega
theorem Znx(h:Spn P)(hc:∀p∈P,sm C p)(hw:wd P r<=(2*C:Nat)):sm (8*C*C) r:=by
 obtain⟨p,hp,q,hq,s,hs,hD⟩:=h
 have:=Zf3 hp hq hs hc hw
 exact⟨Zel hD this.1,Zel hD this.2⟩
def Dr(P:List Pt)(C:Nat)(d:Pt):Prop:=sm (2*C) d/\(d.1≠0\/d.2≠0)/\∀r,wd P r=(pd d r).natAbs
theorem Zly(hl:¬Spn P)(hc:∀p∈P,sm C p)(h:P≠[])(h0:0<wd P n):∃d,Dr P C d/\∃p∈P,∃q∈P,d=df p q:=by
 obtain⟨p,hp,q,hq,e⟩:=Zfb (r:=n) h;have hx:∀a∈P,∀b∈P,X (df a b) (df p q)=0:=by
  intro a ha b hb;have h1:X (df p q) (df p a)=0:=Classical.byContradiction λz=>hl ⟨p,hp,q,hq,a,ha,z⟩;have h2:X (df p q) (df p b)=0:=Classical.byContradiction λz=>hl ⟨p,hp,q,hq,b,hb,z⟩;unfold X df at *;grind
 refine⟨df p q,⟨ZiZ hc hp hq,?_,λr=>?_⟩,p,hp,q,hq,rfl⟩
 .apply Classical.byContradiction;intro z;have z1:(df p q).1=0:=⋯
  have z2:(df p q).2=0:=⋯
  unfold pd at e;rw[z1,z2]at e;lia
 .obtain⟨a,ha,b,hb,e2⟩:=Zfb (r:=r) h;have g:=Zdt (r:=r) hp hq;have g0:=Zdt (r:=n) ha hb;have x0:=hx a ha b hb;have id:pd (df a b) r*pd (df p q) n=pd (df a b) n*pd (df p q) r:=by
   unfold pd X at *;grind
  rw[<-e]at id;have l:(pd (df a b) r).natAbs*(wd P n).natAbs<=(wd P n).natAbs*(pd (df p q) r).natAbs:=by
   rw[<-aR,id,aR];exact cM _ ⋯
  rw[Nat.mul_comm]at l;have l2:=jM l ⋯
  have nn:=Zky (r:=r) h;lia
theorem Zf4{d:Pt}:pd d (lss w m n)=pd d w-m*pd d n:=by unfold pd lss;grind
theorem Zq5(h:P≠[])(hxy:x<=y)(hyz:y<=z):wd P (lss w y n)*(z-x)<=wd P (lss w x n)*(z-y)+wd P (lss w z n)*(y-x):=by
 obtain⟨p,hp,q,hq,e⟩:=Zfb (r:=lss w y n) h;have f1:=Zdt (r:=lss w x n) hp hq;have f2:=Zdt (r:=lss w z n) hp hq;rw[Zf4]at e f1 f2;generalize pd (df p q) w=α at *;generalize pd (df p q) n=β at *;rw[e];have m1:=bM (show α-x*β<=wd P (lss w x n)by lia) (show 0<=z-y by lia)
 have m2:=bM (show α-z*β<=wd P (lss w z n)by lia) (show 0<=y-x by lia)
 have:(α-y*β)*(z-x)=(α-x*β)*(z-y)+(α-z*β)*(y-x):=by grind
 lia
theorem ZuT:lss w 0 n=w:=by unfold lss;simp
def Lst(P:List Pt)(w n:Pt)(m:Int):Prop:=∀k,wd P (lss w m n)<=wd P (lss w k n)
theorem Zq6(h:P≠[])(g:wd P (lss w m n)<=wd P (lss w (m+1) n))(hk:m<=k):wd P (lss w m n)<=wd P (lss w k n):=by
 by_cases c:k<=m
 .rw[show k=m by lia];exact Int.le_refl _
 have cv:=Zq5 (w:=w) (n:=n) h (show m<=m+1 by lia) (show m+1<=k by lia)
 generalize wd P (lss w m n)=a at *;generalize wd P (lss w (m+1) n)=b at *;generalize wd P (lss w k n)=d at *;rw[show m+1-m=1 by lia,nu]at cv
 have:=bM g (show 0<=k-m by lia)
 have:a*(k-(m+1))=a*(k-m)-a:=by grind
 lia
theorem Zq7(h:P≠[])(g:wd P (lss w m n)<=wd P (lss w (m-1) n))(hk:k<=m):wd P (lss w m n)<=wd P (lss w k n):=by
 by_cases c:m<=k
 .rw[show k=m by lia];exact Int.le_refl _
 have cv:=Zq5 (w:=w) (n:=n) h (show k<=m-1 by lia) (show m-1<=m by lia)
 generalize wd P (lss w m n)=a at *;generalize wd P (lss w (m-1) n)=b at *;generalize wd P (lss w k n)=d at *;rw[show m-(m-1)=1 by lia,nu]at cv
 have:=bM g (show 0<=m-k by lia)
 have:a*(m-1-k)=a*(m-k)-a:=by grind
 lia
theorem Zq8(h:P≠[])(k:Int):k.natAbs*wd P n<=wd P (lss w k n)+wd P w:=by
 obtain⟨p,hp,q,hq,e⟩:=Zfb (r:=n) h;have f1:=Zdt (r:=lss w k n) hp hq;have f2:=Zdt (r:=w) hp hq;rw[Zf4]at f1;rw[e]
 have:(k.natAbs:Int)*pd (df p q) n=k*pd (df p q) n\/(k.natAbs:Int)*pd (df p q) n= -(k*pd (df p q) n):=by
  rcases Int.natAbs_eq k with z|z
  .left;rw[<-z]
  .right;rw[<-lR];congr 1;omega
 generalize (k.natAbs:Int)*pd (df p q) n=x at *;generalize k*pd (df p q) n=y at *;omega
theorem Lst.of(h:P≠[])(hH:2*wd P w<H*wd P n)(h1:1<=H)(lo:m= -H\/wd P (lss w m n)<wd P (lss w (m-1) n))(hi:m=H\/wd P (lss w m n)<=wd P (lss w (m+1) n)):Lst P w n m:=by
 have key:m≠H/\m≠ -H:=by
  have fr:=Zq8 (w:=w) (n:=n) h m;have z0:wd P w=wd P (lss w 0 n):=by rw[ZuT]
  constructor
  .intro z;have g:=Zq7 (k:=0) h (Int.le_of_lt (lo.resolve_left ⋯)) ⋯
   rw[<-z0]at g;rw[show(m.natAbs:Int)=H by lia]at fr
   lia
  .intro z;have g:=Zq6 (k:=0) h (hi.resolve_left ⋯) ⋯
   rw[<-z0]at g;rw[show(m.natAbs:Int)=H by lia]at fr
   lia
 intro k;by_cases c:k<=m
 .exact Zq7 h (Int.le_of_lt (lo.resolve_left key.2)) c
 .exact Zq6 h (hi.resolve_left key.1) ⋯
def Dz(P:List Pt)(Z:Nat)(d:Pt):Prop:=(sm Z d/\1<=Z)/\(d.1≠0\/d.2≠0)/\∃ν μ:Nat,1<=ν/\1<=μ/\∀r,ν*wd P r=μ*(pd d r).natAbs
theorem Dz.le{r:Pt}(z:Dz P Z d)(h:wd P r<=wd P r'):(pd d r).natAbs<=(pd d r').natAbs:=by
 obtain⟨_,_,ν,μ,n1,m1,e⟩:=z
 have:=cV h (show(0:Int)<=(ν:Int)by lia)
 rw[e,e]at this;exact jM (by exact_mod_cast this) m1
theorem Dz.pos{r:Pt}(z:Dz P Z d)(h:0<wd P r):1<=(pd d r).natAbs:=by
 obtain⟨_,_,ν,μ,n1,m1,e⟩:=z;have e:=e r
 have:=jZ (show(0:Int)<(ν:Int)by lia) h
 by_cases c:(pd d r).natAbs=0
 .rw[c]at e;lia
 .lia
theorem Dz.half(z:Dz P Z d)(h0:0<wd P n)(l:Lst P w n m):2*(pd d (lss w m n)).natAbs<=(pd d n).natAbs:=by
 have p1:=z.pos h0;have a:=z.le (l (m-1));have b:=z.le (l (m+1));rw[Zf4]at a b ⊢;rw[Zf4]at a b;rw[show(m-1)*pd d n=m*pd d n-pd d n by grind]at a
 rw[show(m+1)*pd d n=m*pd d n+pd d n by grind]at b
 omega
noncomputable def Sc(C:Nat):Nat:=8*C*C+4*C
structure Tw(P:List Pt) (C:Nat) (n w:Pt) (k:Nat):Prop where
 kk:k=(wd P n).toNat
 x:X n w=1\/X n w= -1
 le:wd P n<=wd P w
 c:wd P w<=(2*C:Nat)
 sn:sm (Sc C) n
 sw:sm (Sc C) w
 cw:wd P w<=wd P (1,0)\/wd P w<=wd P (0,1)
 l0:(∀r,wd P r=0)->sm 1 n/\sm 1 w
 lz:∀Z d,Dz P Z d->((pd d n).natAbs*w.1.natAbs<=Z/\(pd d n).natAbs*w.2.natAbs<=Z)/\((pd d w).natAbs*n.1.natAbs<=2*Z/\(pd d w).natAbs*n.2.natAbs<=2*Z)/\sm (2*Z) n/\sm (2*Z) w
theorem Tw.new(h:P≠[])(hc:∀p∈P,sm C p)(c1:1<=C)(hn:n=(1,0)/\w=(0,1)\/n=(0,1)/\w=(1,0))(le:wd P n<=wd P w):Tw P C n w (wd P n).toNat:=by
 have w10:=Zq4 h hc;have nn:=Zky (r:=n) h;have s1:sm 1 n/\sm 1 w:=by
  rcases hn with⟨rfl,rfl⟩|⟨rfl,rfl⟩<;>simp[sm]
 have cc:wd P w<=(2*C:Nat):=by rcases hn with⟨_,rfl⟩|⟨_,rfl⟩<;>first|exact w10.2|exact w10.1
 have up:∀{S r},1<=S->sm 1 r->sm S r:=λ{S r} h1 h2=>⟨aM h2.1 h1,aM h2.2 h1⟩;refine⟨rfl,?_,le,cc,up (by unfold Sc;lia) s1.1,up (by unfold Sc;lia) s1.2,(by rcases hn with⟨_,rfl⟩|⟨_,rfl⟩<;>simp),λ_=>s1,λZ d z=>⟨?_,?_,up (by have:=z.1.2;lia) s1.1,up (by have:=z.1.2;lia) s1.2⟩⟩
 .rcases hn with⟨rfl,rfl⟩|⟨rfl,rfl⟩<;>simp[X]
 .have:=z.1.1
  rcases hn with⟨rfl,rfl⟩|⟨rfl,rfl⟩<;>simp[pd]<;>unfold sm at this<;>lia
 .have:=z.1.1
  rcases hn with⟨rfl,rfl⟩|⟨rfl,rfl⟩<;>simp[pd]<;>unfold sm at this<;>lia
theorem Zkz:X n (lss w m n)=X n w:=by unfold X lss;grind
theorem ZeX:X w n= -X n w:=by unfold X;grind
theorem Tw.turn(t:Tw P C n w k)(ls:Lst P w n m)(h:P≠[])(hc:∀p∈P,sm C p)(h0:0<wd P n)(lt:wd P (lss w m n)<wd P n):∃k'<k,Tw P C (lss w m n) n k':=by
 have nn:=Zky (r:=lss w m n) h;have tk:=t.kk;have tc:=t.c;have tle:=t.le;have hx:X (lss w m n) n=1\/X (lss w m n) n= -1:=by
  rw[ZeX,Zkz];rcases t.x with z|z<;>rw[z]<;>simp
 have lz:∀Z d,Dz P Z d->((pd d (lss w m n)).natAbs*n.1.natAbs<=Z/\(pd d (lss w m n)).natAbs*n.2.natAbs<=Z)/\((pd d n).natAbs*(lss w m n).1.natAbs<=2*Z/\(pd d n).natAbs*(lss w m n).2.natAbs<=2*Z)/\sm (2*Z) (lss w m n)/\sm (2*Z) n:=by
  intro Z d hz;obtain⟨_,i2,s1,s2⟩:=t.lz Z d hz;have hf:=hz.half h0 ls;have p1:=hz.pos h0;have le:=hz.le tle;have hd:sm (2*Z) d:=by have:=hz.1.1;unfold sm at *;omega
  have l1:=cM n.1.natAbs (aM hf le);have l2:=cM n.2.natAbs (aM hf le);rw[Nat.mul_assoc]at l1 l2;have e1:pd d (lss w m n)*n.1-pd d n*(lss w m n).1=d.2*X n w:=by rw[<-Zkz (m:=m)];unfold pd X;grind
  have e2:pd d (lss w m n)*n.2-pd d n*(lss w m n).2= -(d.1*X n w):=by rw[<-Zkz (m:=m)];unfold pd X;grind
  have q1:=cM (lss w m n).1.natAbs p1;have q2:=cM (lss w m n).2.natAbs p1;have dz:=hz.1.1;unfold sm at dz s1;have hxx:=t.x;have g:((pd d n).natAbs*(lss w m n).1.natAbs<=2*Z/\(pd d n).natAbs*(lss w m n).2.natAbs<=2*Z):=by
   have r1:(pd d (lss w m n)).natAbs*n.1.natAbs<=Z:=by omega
   have r2:(pd d (lss w m n)).natAbs*n.2.natAbs<=Z:=by omega
   rw[<-aR]at r1 r2 ⊢;rw[<-aR];generalize pd d (lss w m n)*n.1=a1 at *;generalize pd d (lss w m n)*n.2=a2 at *;generalize pd d n*(lss w m n).1=b1 at *;generalize pd d n*(lss w m n).2=b2 at *;rcases hxx with hx|hx<;>rw[hx]at e1 e2<;>constructor<;>omega
  refine⟨⟨by omega,by omega⟩,g,⟨by omega,by omega⟩,s1⟩
 have ss:sm (Sc C) (lss w m n):=by
  by_cases sp:Spn P
  .have:=Znx (r:=lss w m n) sp hc (by omega)
   unfold sm Sc at *;omega
  .obtain⟨d,hd,_⟩:=Zly sp hc h h0;have h1:=hd.1;have h2:=hd.2.1
   have:=(lz (2*C) d ⟨⟨h1,by unfold sm at h1;omega⟩,h2,1,1,by omega,by omega,λr=>by rw[hd.2.2 r]⟩).2.2.1
   unfold sm Sc at *;omega
 have cw:wd P n<=wd P (1,0)\/wd P n<=wd P (0,1):=by have:=t.cw;omega
 exact⟨(wd P (lss w m n)).toNat,by omega,⟨rfl,hx,by omega,by omega,ss,t.sn,cw,λz=>by have:=z n;omega,lz⟩⟩
theorem Tw.end_(t:Tw P C n w k)(hm:m.natAbs<=4*C+1):sm ((4*C+2)*Sc C) (lss w m n):=by
 have h1:=t.sn;have h2:=t.sw;have m1:=Z2 hm h1.1;have m2:=Z2 hm h1.2;have e:(4*C+2)*Sc C=(4*C+1)*Sc C+Sc C:=by grind
 unfold sm lss at *;dsimp only;omega
end
end Ri
namespace Ri
open L2 DL
open CN (cq)
open CS (slp)
open TW Rb
section
variable {rs:List Pt}
theorem Zi0{f:Pt->Pt->Nat}:∀(n:Nat)(a:Int),(∀c:Nat,c<n->f (cy rs (a+c)) (cy rs (a+c+1))=0)->sf f rs a n=0
 |0,a,_=>rfl
 |n+1,a,h=>by
  have h0:=h 0 ⋯
  have ih:=Zi0 n (a+1) λc hc=>by
   have:=h (c+1) ⋯
   rw[show a+((c+1:Nat):Int)=a+1+c by lia]at this
   exact this
  unfold sf;simp at h0;lia
theorem Zq9(h:Smo rs)(hv:v≠(0,0)):∃i:Nat,i<rs.length/\0<=X (cy rs i) v/\0<X v (cy rs (i+1)):=by
 apply Classical.byContradiction;intro no;have c:=(h.rn.fan v hv).1;rw[ZfW h.ne]at c;have z:=Zi0 (f:=in1 v) (rs:=rs) rs.length 0 λc hc=>by
  unfold in1;rw[if_neg];intro q;refine no ⟨c,hc,?_⟩
  simpa using q
 lia
theorem ZcE(h:Smo rs)(hv:v≠(0,0))(hq:Win rs hs q):∃p,Cor rs hs p/\∀q,Win rs hs q->slp p v<=slp q v:=by
 obtain⟨i,hi,a,b⟩:=Zq9 h hv;obtain⟨p,cp,le⟩:=ZtO h hi hq;refine⟨p,cp,λq hq=>?_⟩;obtain⟨l1,l2⟩:=le q hq;have one:=h.one i;rw[ZaI one,ZaI (p:=q) one];have m1:=aF l1 (ge0 (show 0<=X v (cy rs (i+1))by lia))
 have m2:=aF l2 (ge0 a);grind
theorem both(h:Smo rs)(hv:v≠(0,0)):(∃i<rs.length,0<X v (cy rs i))/\∃i<rs.length,X v (cy rs i)<0:=by
 have key:∀v:Pt,v≠(0,0)->∃i<rs.length,0<X v (cy rs i):=by
  intro v hv;obtain⟨i,hi,a,b⟩:=Zq9 h hv;have hl:=h.len;refine⟨(i+1)%rs.length,Nat.mod_lt _ ⋯,?_⟩
  rw[show(((i+1)%rs.length:Nat):Int)=((i:Int)+1)%(rs.length:Int)by rw[Int.natCast_emod,Int.natCast_add];rfl,Zct]
  exact b
 refine⟨key v hv,?_⟩;obtain⟨i,hi,z⟩:=key (-v.1,-v.2) (λz=>hv (by
  have z1:=congrArg mW z;have z2:=congrArg Prod.snd z;simp at z1 z2;exact eO z1 z2))
 refine⟨i,hi,?_⟩;unfold X at *;grind
noncomputable def ip(m:Pt):RP:=((m.1:Rat),(m.2:Rat))
theorem Zc0(m r:Pt):slp (ip m) r=((pd m r:Int):Rat):=by
 unfold slp ip pd;rw[bE,ay,ay]
noncomputable def qt(u v:Pt)(g o:Int):Pt:=(g*v.2-o*u.2,o*u.1-g*v.1)
theorem Zi1(h:X u v=1)(g o:Int)(r:Pt):pd (qt u v g o) r=X r v*g+X u r*o:=by
 unfold pd qt X at *;grind
theorem ZtP(h:X u v=1)(m:Pt):qt u v (pd m u) (pd m v)=m:=by
 unfold qt pd X at *;exact eO (by simp only;grind) (by simp only;grind)
theorem Zra(x:Rat)(a:Int): -x<=(a:Rat)↔0<=x.num+a*(x.den:Int):=by
 have hd:(0:Rat)<((x.den:Int):Rat):=dB.mpr (Int.natCast_pos.mpr (cL x.den_nz));have e:(x.num:Rat)=x*((x.den:Int):Rat):=by rw[BD.ZcD x];rfl
 rw[<-eQ,bE,ay,e];constructor
 .intro h
  have:=cf h (show(0:Rat)<=((x.den:Int):Rat)by grind)
  grind
 .intro h
  have:0*((x.den:Int):Rat)<=(x+a)*((x.den:Int):Rat):=by grind
  have:=gI this hd
  grind
theorem Zny(h:X u v=1){g:Int}(hp:Win rs hs p)(hq:Win rs hs q)(h1:slp p u<=(g:Rat))(h2:(g:Rat)<=slp q u)(o:Int):Win rs hs (ip (qt u v g o))↔∀j:Nat,j<rs.length->X u (cy rs j)*((cq hs j).den:Int)≠0->0<=X u (cy rs j)*((cq hs j).den:Int)*o+((cq hs j).num+X (cy rs j) v*g*((cq hs j).den:Int)):=by
 have each:∀j:Nat,(-(cq hs j)<=slp (ip (qt u v g o)) (cy rs j))↔0<=X u (cy rs j)*((cq hs j).den:Int)*o+((cq hs j).num+X (cy rs j) v*g*((cq hs j).den:Int)):=by
  intro j;rw[Zc0,Zi1 h,Zra,show(cq hs j).num+(X (cy rs j) v*g+X u (cy rs j)*o)*((cq hs j).den:Int)=X u (cy rs j)*((cq hs j).den:Int)*o+((cq hs j).num+X (cy rs j) v*g*((cq hs j).den:Int))by grind]
 constructor
 .intro w j hj _;exact(each j).mp (w j hj)
 .intro w j hj;by_cases c:X u (cy rs j)*((cq hs j).den:Int)=0
  .have hd:((cq hs j).den:Int)≠0:=by have:=(cq hs j).den_nz;lia
   have c0:X u (cy rs j)=0:=(lh.mp c).resolve_right hd;have wp:=hp j hj;have wq:=hq j hj;rw[ZaI h,c0]at wp wq;rw[Zc0,Zi1 h,c0,bE,ay];rcases(show 0<=X (cy rs j) v\/X (cy rs j) v<=0 by lia)with s|s
   .have:=aF h1 (ge0 s)
    grind
   .have s':(0:Rat)<= -((X (cy rs j) v:Int):Rat):=by
     have:=ge0 (show 0<= -X (cy rs j) v by lia)
     rw[bN]at this;exact this
    have:=aF h2 s'
    grind
  .exact(each j).mpr (w j hj c)
theorem Zi2(h:Smo rs)(hu:u≠(0,0))(hm:Win rs hs (ip m)):∃p q,Cor rs hs p/\Cor rs hs q/\slp p u<=((pd m u:Int):Rat)/\((pd m u:Int):Rat)<=slp q u:=by
 obtain⟨p,cp,lp⟩:=ZcE h hu hm;obtain⟨q,cq',lq⟩:=ZcE (v:=(-u.1,-u.2)) h (λz=>hu (by
  have z1:=congrArg mW z;have z2:=congrArg Prod.snd z;simp at z1 z2;exact eO z1 z2)) hm
 refine⟨p,q,cp,cq',?_,?_⟩
 .rw[<-Zc0];exact lp _ hm
 .have:=lq _ hm
  rw[<-Zc0];unfold slp at *;simp only[bN]at this;grind
end
end Ri
namespace PT
open L2 DL
open CC (F_crossed)
open CS (F_minus)
open BD (F_common_bottom F_stretched F_body)
end PT
namespace PT
open L2 DL
open CV CN CU CS
open CR (rt Sz)
open CH (rts ZH)
open CD (pts ZP ZaB)
open Rb BD
noncomputable def tri(i j k:Nat):D:=.tup [.int i,.int j,.int k]
def t3(n i j:Nat)(m:Nat):List D:=(aJ m).map λc=>tri i j (j+1+c)
def t2(n i:Nat)(m:Nat):List D:=(aJ m).flatMap λb=>t3 n i (i+1+b) (n-(i+1+b+1))
def t1(n m:Nat):List D:=(aJ m).flatMap λa=>t2 n a (n-(a+1))
end PT
namespace DT
open L2 DL
open CC (F_crossed)
open BD (F_common_bottom F_stretched F_body)
def ZcF:Sv:=(Zal (e2 dAdd (e2 dMul (e2 dIx (Zf 0) (eC (.int 0))) (e2 dIx (Zf 1) (eC (.int 0)))) (e2 dMul (e2 dIx (Zf 0) (eC (.int 1))) (e2 dIx (Zf 1) (eC (.int 1))))))
def F_product:W3:=fnF ZcF 2 0
def Zfc:Sv:=(ZI (ZM (gNm 2) (Zaj (iSq (Zf 0)) 1 [1] (gNm 0) (λ_ M=>.ok true M) (Zj F_product (Zc (Zf 0) (Zc (Zf 1) aNil))))) (Zal (e2 dSub (Zj (ZbF kj) (Zc (Zf 2) aNil)) (Zj (ZbF List.min?) (Zc (Zf 2) aNil)))))
def F_width:W3:=fnF Zfc 2 1
def ZbO:Sv:=(Zal (Z7 (Zc (e2 dSub (e2 dIx (Zf 0) (eC (.int 0))) (e2 dMul (Zf 1) (e2 dIx (Zf 2) (eC (.int 0))))) (Zc (e2 dSub (e2 dIx (Zf 0) (eC (.int 1))) (e2 dMul (Zf 1) (e2 dIx (Zf 2) (eC (.int 1))))) aNil))))
def F_lessened:W3:=fnF ZbO 3 0
def Zau:Sv:=(ZI (ZM (gNm 5) (e2 dDiv (e2 dAdd (Zf 4) (Zf 3)) (eC (.int 2)))) (ZI (ZeA 6 7 (Zc (Zj F_lessened (Zc (Zf 1) (Zc (Zf 5) (Zc (Zf 2) aNil)))) (Zc (Zj F_lessened (Zc (Zf 1) (Zc (e2 dAdd (Zf 5) (eC (.int 1))) (Zc (Zf 2) aNil)))) aNil))) (sIf (tv (e2 dLe (Zj F_width (Zc (Zf 0) (Zc (Zf 6) aNil))) (Zj F_width (Zc (Zf 0) (Zc (Zf 7) aNil))))) (ZM (gNm 3) (Zf 5)) (ZM (gNm 4) (e2 dAdd (Zf 5) (eC (.int 1)))))))
def Za8:Sv:=(ZI (ZM (gNm 3) (e2 dAdd (e2 dDiv (e2 dMul (eC (.int 2)) (Zj F_width (Zc (Zf 0) (Zc (Zf 1) aNil)))) (Zj F_width (Zc (Zf 0) (Zc (Zf 2) aNil)))) (eC (.int 1)))) (ZI (ZM (gNm 4) (Zch (Zf 3))) (ZI (sWh (tv (e2 dLt (Zf 4) (Zf 3))) Zau) (Zal (Zj F_lessened (Zc (Zf 1) (Zc (Zf 4) (Zc (Zf 2) aNil))))))))
def F_least_wide:W3:=fnF Za8 3 5
def Zak:Sv:=(ZI (ZM (gNm 2) (Zj F_least_wide (Zc (Zf 0) (Zc (Zf 2) (Zc (Zf 1) aNil))))) (ZI (sIf (tv (e2 dGe (Zj F_width (Zc (Zf 0) (Zc (Zf 2) aNil))) (Zj F_width (Zc (Zf 0) (Zc (Zf 1) aNil))))) sBrk sNil) (ZeA 1 2 (Zc (Zf 2) (Zc (Zf 1) aNil)))))
def ZbP:Sv:=(ZI (ZM (gTp (gCs (gNm 1) (gCs (gNm 2) gNl))) (Z7 (Zc (Z7 (Zc (eC (.int 1)) (Zc (eC (.int 0)) aNil))) (Zc (Z7 (Zc (eC (.int 0)) (Zc (eC (.int 1)) aNil))) aNil)))) (ZI (sIf (tv (e2 dLt (Zj F_width (Zc (Zf 0) (Zc (Zf 2) aNil))) (Zj F_width (Zc (Zf 0) (Zc (Zf 1) aNil))))) (ZeA 1 2 (Zc (Zf 2) (Zc (Zf 1) aNil))) sNil) (ZI (sWh (tv (e2 dGt (Zj F_width (Zc (Zf 0) (Zc (Zf 1) aNil))) (eC (.int 0)))) Zak) (ZI (ZM (gNm 3) (Zj F_crossed (Zc (Zf 1) (Zc (Zf 2) aNil)))) (Zal (Z7 (Zc (Zf 1) (Zc (Z7 (Zc (e2 dMul (Zf 3) (e2 dIx (Zf 2) (eC (.int 0)))) (Zc (e2 dMul (Zf 3) (e2 dIx (Zf 2) (eC (.int 1)))) aNil))) aNil))))))))
def F_two_ways:W3:=fnF ZbP 1 3
def ZY:Sv:=(ZI (ZM (gNm 10) (e2 dMul (Zj F_crossed (Zc (Zf 4) (Zc (Zf 8) aNil))) (e2 dIx (Zf 9) (eC (.int 1))))) (ZI (ZM (gNm 11) (e2 dAdd (e2 dIx (Zf 9) (eC (.int 0))) (e2 dMul (e2 dMul (Zj F_crossed (Zc (Zf 8) (Zc (Zf 5) aNil))) (Zf 3)) (e2 dIx (Zf 9) (eC (.int 1)))))) (ZI (sIf (Zcf (tv (e2 dGt (Zf 10) (eC (.int 0)))) (Zg9 (tv (e2 dIs (Zf 6) (eC .non))) (tv (e2 dGt (Zch (e2 dDiv (Zf 11) (Zf 10))) (Zf 6))))) (ZM (gNm 6) (Zch (e2 dDiv (Zf 11) (Zf 10)))) sNil) (sIf (Zcf (tv (e2 dLt (Zf 10) (eC (.int 0)))) (Zg9 (tv (e2 dIs (Zf 7) (eC .non))) (tv (e2 dLt (e2 dDiv (Zf 11) (Zch (Zf 10))) (Zf 7))))) (ZM (gNm 7) (e2 dDiv (Zf 11) (Zch (Zf 10)))) sNil))))
def ZaU:Sv:=(ZI (ZM (gTp (gCs (gNm 4) (gCs (gNm 5) gNl))) (Zf 2)) (ZI (ZM (ZnP (gNm 6) (gNm 7)) (eC .non)) (ZI (Zgr (gTp (gCs (gNm 8) (gCs (gNm 9) gNl))) (iZp (Zc (Zf 0) (Zc (Zf 1) aNil))) ZY) (Zal (Zaj (iR2 (Zc (Zf 6) (Zc (e2 dAdd (Zf 7) (eC (.int 1))) aNil))) 1 [3,4,5] (gNm 0) (λ_ M=>.ok true M) (Z7 (Zc (e2 dSub (e2 dMul (Zf 1) (e2 dIx (Zf 3) (eC (.int 1)))) (e2 dMul (Zf 0) (e2 dIx (Zf 2) (eC (.int 1))))) (Zc (e2 dSub (e2 dMul (Zf 0) (e2 dIx (Zf 2) (eC (.int 0)))) (e2 dMul (Zf 1) (e2 dIx (Zf 3) (eC (.int 0))))) aNil))))))))
def F_dots_across:W3:=fnF ZaU 4 8
def ZcG:Sv:=(ZdR (Zmm mExt (Zf 7) (Zc (Zj F_dots_across (Zc (Zf 0) (Zc (Zf 1) (Zc (Zf 5) (Zc (Zf 8) aNil))))) aNil)))
def Zi3:Sv:=(ZI (ZM (gNm 2) (Zj F_body (Zc (Zf 0) (Zc (Zf 1) aNil)))) (ZI (ZM (gNm 3) (Zj F_common_bottom (Zc (Za0 (iSq (Zf 2)) 2 [] (gNm 0) (λ_ M=>.ok true M) λn=>(gIn (iSq (Zf 0)) (gNm 1) (λ_ M=>.ok true M) (gEm (Zf 1) n))) aNil))) (ZI (ZM (gNm 4) (Zaj (iSq (Zf 2)) 2 [3] (gTp (gCs (gNm 0) (gCs (gNm 1) gNl))) (λ_ M=>.ok true M) (Z7 (Zc (Zj F_stretched (Zc (Zf 0) (Zc (Zf 2) aNil))) (Zc (Zj F_stretched (Zc (Zf 1) (Zc (Zf 2) aNil))) aNil))))) (ZI (sIf (tv (e2 dEq (Zf 4) (ZbS aNil))) (Zal (ZbS aNil)) sNil) (ZI (ZM (gNm 5) (Zj F_two_ways (Zc (Zf 4) aNil))) (ZI (ZM (gNm 6) (Zaj (iSq (Zf 4)) 1 [5] (gNm 0) (λ_ M=>.ok true M) (Zj F_product (Zc (Zf 0) (Zc (e2 dIx (Zf 1) (eC (.int 0))) aNil))))) (ZI (ZM (gNm 7) (ZbS aNil)) (ZI (ZdU (gNm 8) (Zc (Zch (e2 dDiv (Zch (Zj (ZbF List.min?) (Zc (Zf 6) aNil))) (Zf 3))) (Zc (e2 dAdd (e2 dDiv (Zj (ZbF kj) (Zc (Zf 6) aNil)) (Zf 3)) (eC (.int 1))) aNil)) ZcG) (Zal (Zgz (Zc (Zf 7) aNil) [] (Z7 (Zc (e2 dIx (Zf 0) (eC (.int 1))) (Zc (e2 dIx (Zf 0) (eC (.int 0))) aNil)))))))))))))
def F_dots:W3:=fnF Zi3 2 7
end DT
namespace DT
open L2 DL
open CV CN CU CS
open CR (rt Sz)
open CH (rts ZH)
open CD (pts ZP ZaB)
open Rb BD Ri
section
variable {i:Nat}{P:List Pt}{r u w:Pt}
theorem Zjg(h1:a.natAbs<=C)(hC:C<2^e)(he:e<=60000000)(h2:b.natAbs<=S)(hS:S<2^f)(hf:f<=60000000):Zq a b:=Zp e f ⋯ ⋯ he hf
theorem Zem(hp:sm C p)(hC:C<2^e)(he:e<=60000000)(hr:sm S r)(hS:S<2^f)(hf:f<=60000000):wO (F_product [pr p.1 p.2,pr r.1 r.2] M) Q E=Q (.int (pd p r)) M:=by
 have f1:=Zjg hp.1 hC he hr.1 hS hf;have f2:=Zjg hp.2 hC he hr.2 hS hf;simp![F_product,ZcF,ZB f1,ZB f2];rfl
theorem Zen(hi:i<(prs P).length):∃hi':i<P.length,(prs P)[i]=pr P[i].1 P[i].2:=by
 have:i<P.length:=by unfold prs at hi;rwa [au]at hi
 exact⟨this,by simp[prs]⟩
theorem Zf5:(aJ (prs P).length).map (λi=>D.int (pd (P.getD i (0,0)) r))=nts (gv P r):=by
 unfold nts gv prs;rw[c7,au];refine eK (by simp) λi h1 h2=>?_
 simp at h1 h2;simp[h2]
theorem Znz(h:M[n]?=some (.lst (prs P)))(hl:P.length<1000)(hp:∀p∈P,sm C p)(hC:C<2^e)(he:e<=60000000)(hr:sm S r)(hS:S<2^f)(hf:f<=60000000)(hρ:roB 1 [k] ρ=[none,some (pr r.1 r.2)])(q:Q (.ref M.length) (M++[.lst (nts (gv P r))])):kCo (gNm 0) (λ_ M=>.ok true M) (Zj F_product (Zc (Zf 0) (Zc (Zf 1) aNil))) 1 [k] ρ Q (.sto n) M:=by
 refine Zis (xs:=prs P) (λρ=>∃x,ρ=[x,some (pr r.1 r.2)]) (λi=>.int (pd (P.getD i (0,0)) r)) h (by simp[prs];lia) ⟨_,hρ⟩ ?_ (by rw[Zf5];exact q)
 rintro i hi ρ L ⟨x,rfl⟩;obtain⟨hi',ei⟩:=Zen hi;rw[ei];have eg:P.getD i (0,0)=P[i]:=by simp[hi']
 rw[eg];have hp':=hp P[i] (bU hi');generalize P[i]=p at *;simp![Zem hp' hC he hr hS hf];exact⟨_,rfl⟩
theorem ZaV(h:M[n]?=some (.lst (prs P)))(hne:P≠[])(hl:P.length<1000)(hp:∀p∈P,sm C p)(hC:C<2^e)(he:e<=60000000)(hr:sm S r)(hS:S<2^f)(hf:f<=60000000)(q:∀M',Kp M M'->Q (.int (wd P r)) M'):wO (F_width [.ref n,pr r.1 r.2] M) Q E:=by
 have hn:=Zt h;simp![F_width,Zfc];refine Znz h hl hp hC he hr hS hf rfl ?_;have e1:(M++[SO.lst (nts (gv P r))])[M.length]?=some (.lst (nts (gv P r))):=by simp
 simp![e1,CD.ZaG,(Ze9 (r:=r) hne).1,(Zfa (r:=r) hne).1];exact q _ Kp.app
theorem ZbQ(hw:sm C w)(hm:a.natAbs<=K)(hK:K<2^e)(he:e<=60000000)(hr:sm S r)(hS:S<2^f)(hf:f<=60000000):wO (F_lessened [pr w.1 w.2,.int a,pr r.1 r.2] M) Q E=Q (pr (lss w a r).1 (lss w a r).2) M:=by
 have f1:=Zjg hm hK he hr.1 hS hf;have f2:=Zjg hm hK he hr.2 hS hf;simp![F_lessened,ZbO,ZB f1,ZB f2];rfl
theorem Zlz(hw:sm S w)(hr:sm S r)(ha:a.natAbs<=4*C+1):sm ((4*C+2)*S) (lss w a r):=by
 have m1:=Z2 ha hr.1;have m2:=Z2 ha hr.2;have e:(4*C+2)*S=(4*C+1)*S+S:=by grind
 unfold Ri.sm lss at *;dsimp only;omega
theorem Zi4(hC:C<2^e)(hS:S<2^f):(4*C+2)*S<2^(e+2+f):=by
 have:4*C+2<2^(e+2):=by rw[iX];lia
 exact CR.Z6 this hS
theorem ZnA(h:M[n]?=some (.lst (prs P)))(hne:P≠[])(hl:P.length<1000)(hp:∀p∈P,sm C p)(hC:C<2^e)(he:e<=7000)(hw:sm S w)(hr:sm S r)(hS:S<2^f)(hf:f<=50000)(h0:0<wd P r)(le:wd P r<=wd P w)(c:wd P w<=(2*C:Nat))(q:∀a M',a.natAbs<=4*C+1->Lst P w r a->Kp M M'->Q (pr (lss w a r).1 (lss w a r).2) M'):wO (F_least_wide [.ref n,pr w.1 w.2,pr r.1 r.2] M) Q E:=by
 have hn:=Zt h;simp![F_least_wide,Za8];refine ZaV h hne hl hp hC (by omega) hw hS (by omega) λM1 K1=>?_
 simp![Zm];refine ZaV (K1.get h) hne hl hp hC (by omega) hr hS (by omega) λM2 K2=>?_
 have K2:=K1.trans K2;have c1:(4*C+1)<2^(e+2):=by rw[iX];omega
 have d0:0<=2*wd P w/wd P r:=Int.ediv_nonneg (by omega) (by omega)
 have d1:2*wd P w/wd P r<=2*wd P w:=Int.ediv_le_self _ (by omega)
 simp![CR.ZbU (k:=e+1) h0 (by rw[mZ];omega) (by omega)]
 have hHH:=Int.lt_ediv_add_one_mul_self (2*wd P w) h0;generalize hH:2*wd P w/wd P r+1=H at *;have hH1:1<=H/\H<=4*C+1:=by omega
 refine ZqB (λj ρ M'=>Kp M M'/\∃hi lo x5 x6 x7,ρ=[some (.ref n),some (pr w.1 w.2),some (pr r.1 r.2),some (.int hi),some (.int lo),x5,x6,x7]/\ -H<=lo/\lo<=hi/\hi<=H/\j=(hi-lo).toNat/\(lo= -H\/wd P (lss w lo r)<wd P (lss w (lo-1) r))/\(hi=H\/wd P (lss w hi r)<=wd P (lss w (hi+1) r))) ?_ (H - -H).toNat _ _ ⟨K2,H,-H,_,_,_,rfl,by omega,by omega,by omega,rfl,.inl rfl,.inl rfl⟩
 rintro j _ M3 ⟨K3,hi,lo,x5,x6,x7,rfl,l1,l2,l3,rfl,g1,g2⟩;simp![Zm];refine ZqC (λhlt=>?_) (λhlt=>?_)
 .have md:lo<=(lo+hi)/2/\(lo+hi)/2<hi:=by omega
  simp![Zau];generalize (lo+hi)/2=mid at *;simp![ZbQ (C:=S) (K:=4*C+1) (a:=mid) (w:=w) (r:=r) (S:=S) hw (by omega) c1 (by omega) hr hS (by omega),ZbQ (C:=S) (K:=4*C+1) (a:=mid+1) (w:=w) (r:=r) (S:=S) hw (by omega) c1 (by omega) hr hS (by omega)]
  refine ZaV (r:=lss w mid r) (K3.get h) hne hl hp hC (by omega) (Zlz hw hr (by omega)) (Zi4 hC hS) (by omega) λM4 K4=>?_
  simp![Zm];refine ZaV (r:=lss w (mid+1) r) ((K3.trans K4).get h) hne hl hp hC (by omega) (Zlz hw hr (by omega)) (Zi4 hC hS) (by omega) λM5 K5=>?_
  have K5:=(K3.trans K4).trans K5;simp![Zm];refine brS (λle=>?_) (λlt=>?_)
  .simp![Zm];exact⟨_,by omega,K5,mid,lo,_,_,_,rfl,by omega,by omega,by omega,rfl,g1,.inr le⟩
  .simp![Zm];exact⟨_,by omega,K5,hi,mid+1,_,_,_,rfl,by omega,by omega,by omega,rfl,.inr (by rw[show mid+1-1=mid by omega];omega),g2⟩
 .simp![ZbQ (C:=S) (K:=4*C+1) (a:=lo) (w:=w) (r:=r) (S:=S) hw (by omega) c1 (by omega) hr hS (by omega)]
  have:lo=hi:=by omega
  subst this;exact q lo _ (by omega) (Lst.of hne hHH hH1.1 g1 g2) K3
theorem ZtQ(hC:C<2^e):Sc C<2^(e+e+4):=by
 have h1:=CR.Z6 hC hC;have h2:C<=C*C:=Nat.le_mul_self C;have e1:8*C*C=8*(C*C):=by grind
 unfold Sc;rw[iX 2 (e+e) 4];lia
structure Wy(P:List Pt) (u:Pt):Prop where
 w:wd P u<=wd P (1,0)\/wd P u<=wd P (0,1)
 l0:(∀r,wd P r=0)->sm 1 u
 lz:∀Z d,Dz P Z d->sm (2*Z) u
theorem Zrb(h:P≠[]):wd P (-v.1,-v.2)<=wd P v:=by
 obtain⟨p,hp,q,hq,e⟩:=Zfb (r:=(-v.1,-v.2)) h
 have:=Zdt (r:=v) hp hq
 have e2:pd (df p q) (-v.1,-v.2)= -pd (df p q) v:=by unfold pd;grind
 omega
theorem Wy.neg(h:P≠[])(y:Wy P v):Wy P (-v.1,-v.2):=by
 have:=Zrb (v:=v) h
 have:=y.w
 exact⟨⋯,λz=>by have:=y.l0 z;unfold Ri.sm at *;simpa using this,λZ d z=>by have:=y.lz Z d z;unfold Ri.sm at *;simpa using this⟩
theorem ZtR(h:M[n]?=some (.lst (prs P)))(hne:P≠[])(hl:P.length<1000)(hp:∀p∈P,sm C p)(hC:C<2^e)(c1:1<=C)(he:e<=7000)(q:∀(u v:Pt) M',X u v=1->sm ((4*C+2)*Sc C) u->sm ((4*C+2)*Sc C) v->Wy P u->Wy P v->Kp M M'->Q (.tup [pr u.1 u.2,pr v.1 v.2]) M'):wO (F_two_ways [.ref n] M) Q E:=by
 have hn:=Zt h;have s10:∀z:Pt,z=(1,0)\/z=(0,1)->sm 1 z:=by rintro z (rfl|rfl)<;>simp[Ri.sm]
 have one:1<2^1:=by decide
 have sc:=ZtQ hC;have bg:=Zi4 hC sc;have up:∀{z:Pt},sm (Sc C) z->sm ((4*C+2)*Sc C) z:=λ{z} hz=>by
  have:1*Sc C<=(4*C+2)*Sc C:=cM _ ⋯
  unfold Ri.sm at *;lia
 have fin:∀(u v:Pt) x M',Kp M M'->(X u v=1\/X u v= -1)->sm ((4*C+2)*Sc C) u->sm ((4*C+2)*Sc C) v->Wy P u->Wy P v->kSq (ZI (ZM (gNm 3) (Zj CC.F_crossed (Zc (Zf 1) (Zc (Zf 2) aNil)))) (Zal (Z7 (Zc (Zf 1) (Zc (Z7 (Zc (e2 dMul (Zf 3) (e2 dIx (Zf 2) (eC (.int 0)))) (Zc (e2 dMul (Zf 3) (e2 dIx (Zf 2) (eC (.int 1)))) aNil))) aNil))))) (Zna Q) Q (λ_ _=>False) (λ_ _=>False) E [some (.ref n),some (pr u.1 u.2),some (pr v.1 v.2),x] M':=by
  intro u v x M' K' hx su sv yu yv;have f1:=Zjg su.1 bg ⋯ sv.2 bg ⋯
  have f2:=Zjg su.2 bg ⋯ sv.1 bg ⋯
  simp![CC.F_crossed,CC.ZaF,ZB f1,ZB f2];have ex:u.1*v.2-u.2*v.1=X u v:=rfl;rw[ex];rcases hx with z|z
  .rw[z];simp![Zm]
   have:=q u v M' z su sv yu yv K'
   simpa using this
  .rw[z];simp![Zm]
   have:=q u (-v.1,-v.2) M' (by unfold X at *;simp only;grind) su (by unfold Ri.sm at *;simpa using sv) yu (yv.neg hne) K'
   simpa using this
 simp![F_two_ways,ZbP];refine ZaV (r:=(0,1)) h hne hl hp hC ⋯ (s10 _ (.inr rfl)) one ⋯ λM1 K1=>?_
 simp![Zm];refine ZaV (r:=(1,0)) (K1.get h) hne hl hp hC ⋯ (s10 _ (.inl rfl)) one ⋯ λM2 K2=>?_
 have K2:=K1.trans K2;simp![Zm];have main:∀(u v:Pt),Tw P C u v (wd P u).toNat->wS (sWh (tv (e2 dGt (Zj F_width (Zc (Zf 0) (Zc (Zf 1) aNil))) (eC (.int 0)))) Zak [some (.ref n),some (pr u.1 u.2),some (pr v.1 v.2),none] M2) (kSq (ZI (ZM (gNm 3) (Zj CC.F_crossed (Zc (Zf 1) (Zc (Zf 2) aNil)))) (Zal (Z7 (Zc (Zf 1) (Zc (Z7 (Zc (e2 dMul (Zf 3) (e2 dIx (Zf 2) (eC (.int 0)))) (Zc (e2 dMul (Zf 3) (e2 dIx (Zf 2) (eC (.int 1)))) aNil))) aNil))))) (Zna Q) Q (λ_ _=>False) (λ_ _=>False) E) Q (λ_ _=>False) (λ_ _=>False) E:=by
  intro u v tw;refine ZqB (λj ρ M'=>Kp M M'/\∃(u v:Pt) (x:Option D),ρ=[some (.ref n),some (pr u.1 u.2),some (pr v.1 v.2),x]/\Tw P C u v j) ?_ (wd P u).toNat _ _ ⟨K2,u,v,_,rfl,tw⟩;clear u v tw;rintro j _ M3 ⟨K3,u,v,x,rfl,tw⟩;simp![Zm];refine ZaV (r:=u) (K3.get h) hne hl hp hC ⋯ tw.sn sc ⋯ λM4 K4=>?_
  have K4:=K3.trans K4;simp![Zm];refine ZqC (λh0=>?_) (λ_=>fin u v x M4 K4 tw.x (up tw.sn) (up tw.sw) ⟨by have:=tw.cw;have:=tw.le;lia,λz=>(tw.l0 z).1,λZ d z=>(tw.lz Z d z).2.2.1⟩ ⟨tw.cw,λz=>(tw.l0 z).2,λZ d z=>(tw.lz Z d z).2.2.2⟩)
  simp![Zak];refine ZnA (K4.get h) hne hl hp hC he tw.sw tw.sn sc ⋯ ⋯ tw.le tw.c λa M5 ha ls K5=>?_
  have K5:=K4.trans K5;have sl:=tw.end_ ha;simp![Zm];refine ZaV (r:=lss v a u) (K5.get h) hne hl hp hC ⋯ sl bg ⋯ λM6 K6=>?_
  have K6:=K5.trans K6;simp![Zm];refine ZaV (r:=u) (K6.get h) hne hl hp hC ⋯ tw.sn sc ⋯ λM7 K7=>?_
  have K7:=K6.trans K7;simp![Zm];refine brS (λle=>?_) (λlt=>?_)
  .have l0:=ls 0;rw[ZuT]at l0;exact fin u (lss v a u) x M7 K7 (by rw[Zkz];exact tw.x) (up tw.sn) sl ⟨by have:=tw.cw;have:=tw.le;lia,λz=>(tw.l0 z).1,λZ d z=>(tw.lz Z d z).2.2.1⟩ ⟨by have:=tw.cw;lia,λz=>by have:=z u;lia,λZ d z=>by
    have p1:=z.pos (r:=u) ⋯
    have hf:=z.half ⋯ ls
    have:=z.le (show wd P u<=wd P (lss v a u)by lia)
    lia⟩
  .simp![Zm];obtain⟨k',hk,tw'⟩:=tw.turn (m:=a) ls hne hp ⋯ ⋯
   exact⟨k',hk,K7,lss v a u,u,x,rfl,tw'⟩
 refine brS (λlt=>?_) (λlt=>?_)
 .simp![Zm];exact main (0,1) (1,0) (Tw.new hne hp c1 (.inr ⟨rfl,rfl⟩) ⋯)
 .simp![Zm];exact main (1,0) (0,1) (Tw.new hne hp c1 (.inl ⟨rfl,rfl⟩) ⋯)
end
end DT
namespace DT
open L2 DL
open CV CN CU CS
open CR (rt Sz)
open CH (rts ZH)
open CD (pts ZP ZaB)
open Rb BD Ri
def ac(rs:List Pt)(hs:List Rat)(u:Pt)(i:Nat):Int:=X u (cy rs i)*((cq hs i).den:Int)
def re(rs:List Pt)(hs:List Rat)(v:Pt)(g:Int)(i:Nat):Int:=(cq hs i).num+X (cy rs i) v*g*((cq hs i).den:Int)
noncomputable def oD:Option Int->D|none=>.non|some l=>.int l
def LoA(A R:Nat->Int)(i:Nat)(lo:Option Int):Prop:=(lo=none/\∀j<i,¬0<A j)\/∃l,lo=some l/\(∀j<i,0<A j-> -(R j/A j)<=l)/\∃j<i,0<A j/\l= -(R j/A j)
noncomputable def HiA(A R:Nat->Int)(i:Nat)(hi:Option Int):Prop:=(hi=none/\∀j<i,¬A j<0)\/∃l,hi=some l/\(∀j<i,A j<0->l<=R j / -A j)/\∃j<i,A j<0/\l=R j / -A j
theorem LoA.keep(h:LoA A R i lo)(c:0<A i->∃l,lo=some l/\ -(R i/A i)<=l):LoA A R (i+1) lo:=by
 rcases h with⟨e,h⟩|⟨l,e,h,j,hj,h2⟩
 .refine .inl ⟨e,λj hj=>?_⟩;rcases cZ.mp hj with z|z
  .exact h j z
  .intro q;rw[z]at q;obtain⟨l,z,_⟩:=c q;rw[e]at z;cases z
 .refine .inr ⟨l,e,λj hj p=>?_,j,⋯,h2⟩
  rcases cZ.mp hj with z|z
  .exact h j z p
  .subst z;obtain⟨l',z,q⟩:=c p;rw[e]at z;cases z;exact q
theorem LoA.new(h:LoA A R i lo)(p:0<A i)(c:∀l,lo=some l->l<= -(R i/A i)):LoA A R (i+1) (some (-(R i/A i))):=by
 refine .inr ⟨_,rfl,λj hj q=>?_,i,⋯,p,rfl⟩
 rcases cZ.mp hj with z|z
 .rcases h with⟨e,h⟩|⟨l,e,h,_⟩
  .exact absurd q (h j z)
  .have:=c l e
   have:=h j z q
   lia
 .subst z;lia
theorem HiA.keep(h:HiA A R i hi)(c:A i<0->∃l,hi=some l/\l<=R i / -A i):HiA A R (i+1) hi:=by
 rcases h with⟨e,h⟩|⟨l,e,h,j,hj,h2⟩
 .refine .inl ⟨e,λj hj=>?_⟩;rcases cZ.mp hj with z|z
  .exact h j z
  .intro q;rw[z]at q;obtain⟨l,z,_⟩:=c q;rw[e]at z;cases z
 .refine .inr ⟨l,e,λj hj p=>?_,j,⋯,h2⟩
  rcases cZ.mp hj with z|z
  .exact h j z p
  .subst z;obtain⟨l',z,q⟩:=c p;rw[e]at z;cases z;exact q
theorem HiA.new(h:HiA A R i hi)(p:A i<0)(c:∀l,hi=some l->R i / -A i<=l):HiA A R (i+1) (some (R i / -A i)):=by
 refine .inr ⟨_,rfl,λj hj q=>?_,i,⋯,p,rfl⟩
 rcases cZ.mp hj with z|z
 .rcases h with⟨e,h⟩|⟨l,e,h,_⟩
  .exact absurd q (h j z)
  .have:=c l e
   have:=h j z q
   lia
 .subst z;lia
theorem Zc1(h:0<a): -(r/a)<=o↔0<=a*o+r:=by
 have h1:=Int.mul_ediv_self_le (x:=r) (k:=a) ⋯
 have h2:=Int.lt_mul_ediv_self_add (x:=r) h;constructor
 .intro q
  have:=cV (show -(r/a)<=o from q) (show 0<=a by lia)
  grind
 .intro q;apply Classical.byContradiction;intro z
  have:=cV (show o<= -(r/a)-1 by lia) (show 0<=a by lia)
  grind
theorem Zf6(h:a<0):o<=r / -a↔0<=a*o+r:=by
 have:=Zc1 (a:= -a) (r:=r) (o:= -o) ⋯
 rw[show -a * -o=a*o by grind]at this
 rw[<-this];lia
theorem ZuU(hl:LoA A R n (some l))(hh:HiA A R n (some h))(o:Int):l<=o/\o<=h↔∀j<n,A j≠0->0<=A j*o+R j:=by
 rcases hl with⟨z,_⟩|⟨l',z,l1,j1,hj1,p1,e1⟩
 .cases z
 cases z;rcases hh with⟨z,_⟩|⟨h',z,h1,j2,hj2,p2,e2⟩
 .cases z
 cases z;constructor
 .rintro⟨a,b⟩ j hj ne;rcases(show 0<A j\/A j<0 by lia)with c|c
  .have:=l1 j hj c
   exact(Zc1 c).mp ⋯
  .have:=h1 j hj c
   exact(Zf6 c).mp ⋯
 .intro q;have q1:=(Zc1 p1).mpr (q j1 hj1 ⋯)
  have q2:=(Zf6 p2).mpr (q j2 hj2 ⋯)
  lia
noncomputable def qt(u v:Pt)(g o:Int):Pt:=(g*v.2-o*u.2,o*u.1-g*v.1)
def ZnB(u v:Pt)(g l h:Int):List Pt:=(aJ (h+1-l).toNat).map λ(c:Nat)=>qt u v g (l+(c:Int))
theorem ZuV(hu:sm S u)(hr:p.1.natAbs<=400/\p.2.natAbs<=400):(X u p).natAbs<=S*800:=by
 have m1:=Z2 hu.1 hr.2;have m2:=Z2 hu.2 hr.1;unfold X;omega
theorem Zrc(su:sm S u)(sv:sm S v)(hS:S<2^f)(hf:f<=3000)(hp:p.1.natAbs<=400/\p.2.natAbs<=400)(hx:Sz k x)(hk:k<=900)(hg:g.natAbs<2^f)(eA:A i=X u p*(x.den:Int))(eR:R i=x.num+X p v*g*(x.den:Int))(hl:LoA A R i lo)(hh:HiA A R i hi)(q:∀lo hi y10 y11,LoA A R (i+1) lo->HiA A R (i+1) hi->N [some (.ref n),some (.ref m),some (.tup [pr u.1 u.2,pr v.1 v.2]),some (.int g),some (pr u.1 u.2),some (pr v.1 v.2),some (oD lo),some (oD hi),some (pr p.1 p.2),some (rt x),y10,y11] M):wS (ZY [some (.ref n),some (.ref m),some (.tup [pr u.1 u.2,pr v.1 v.2]),some (.int g),some (pr u.1 u.2),some (pr v.1 v.2),some (oD lo),some (oD hi),some (pr p.1 p.2),some (rt x),x10,x11] M) N Q B C' E:=by
 have b1:=ZuV su hp;have b2:(X p v).natAbs<=S*800:=by have:=ZuV sv hp;rw[Ri.ZeX]at this;rwa [lU]at this
 have e1:S*800<2^(f+10):=by rw[iX];lia
 have f1:=Zjg su.1 hS ⋯ hp.2 (show 400<2^9 by decide) ⋯
 have f2:=Zjg su.2 hS ⋯ hp.1 (show 400<2^9 by decide) ⋯
 have f3:=Zjg hp.1 (show 400<2^9 by decide) ⋯ sv.2 hS ⋯
 have f4:=Zjg hp.2 (show 400<2^9 by decide) ⋯ sv.1 hS ⋯
 have f5:Zq (X u p) (x.den:Int):=Zp (f+10) k ⋯ (by simpa using hx.2) ⋯ ⋯
 have f6:Zq (X p v) g:=Zp (f+10) f ⋯ hg ⋯ ⋯
 have b3:(X p v*g).natAbs<2^(f+10+f):=by rw[aR];exact CR.Z6 ⋯ hg
 have f7:Zq (X p v*g) (x.den:Int):=Zp (f+10+f) k b3 (by simpa using hx.2) ⋯ ⋯
 have bA:(A i).natAbs<2^(f+10+k):=by rw[eA,aR];exact CR.Z6 ⋯ (by simpa using hx.2)
 have ex1:u.1*p.2-u.2*p.1=X u p:=rfl;have ex2:p.1*v.2-p.2*v.1=X p v:=rfl;simp![ZY,CC.F_crossed,CC.ZaF,ZB f1,ZB f2,ZB f3,ZB f4,ex1,ex2,ZB f5,ZB f6,ZB f7];rw[<-eA,<-eR];have second:∀lo,LoA A R (i+1) lo->kSq (sIf (Zcf (tv (e2 dLt (Zf 10) (eC (D.int 0)))) (Zg9 (tv (e2 dIs (Zf 7) (eC D.non))) (tv (e2 dLt (e2 dDiv (Zf 11) (Zch (Zf 10))) (Zf 7))))) (ZM (gNm 7) (e2 dDiv (Zf 11) (Zch (Zf 10)))) sNil) N Q B C' E [some (.ref n),some (.ref m),some (.tup [pr u.1 u.2,pr v.1 v.2]),some (.int g),some (pr u.1 u.2),some (pr v.1 v.2),some (oD lo),some (oD hi),some (pr p.1 p.2),some (rt x),some (.int (A i)),some (.int (R i))] M:=by
  intro lo hlo;simp![Zm];refine brO (λc=>?_) (λc=>?_)
  .have dv:∀{Q:W0}{E:W2}{M:Sto},wO (dDiv (.int (R i)) (.int (-A i)) M) Q E=Q (.int (R i / -A i)) M:=λ{Q E M}=>CR.ZbU (k:=f+10+k) ⋯ ⋯ ⋯
   cases hi with
   |none=>
    simp![oD,dv];exact q lo (some _) _ _ hlo (hh.new c λl z=>by cases z)
   |some l=>
    simp![oD,dv];refine brS (λd=>?_) (λd=>?_)
    .simp![dv];exact q lo (some _) _ _ hlo (hh.new c λl' z=>by cases z;lia)
    .simp![Zm];exact q lo (some l) _ _ hlo (hh.keep λ_=>⟨l,rfl,⋯⟩)
  .simp![Zm];exact q lo hi _ _ hlo (hh.keep λz=>absurd z c)
 refine brO (λc=>?_) (λc=>?_)
 .have dv:∀{Q:W0}{E:W2}{M:Sto},wO (dDiv (.int (R i)) (.int (A i)) M) Q E=Q (.int (R i/A i)) M:=λ{Q E M}=>CR.ZbU (k:=f+10+k) c bA ⋯
  cases lo with
  |none=>
   simp![oD,dv];exact q (some _) hi _ _ (hl.new c λl z=>by cases z) (hh.keep λz=>⋯)
  |some l=>
   simp![oD,dv];refine brS (λd=>?_) (λd=>?_)
   .simp![dv];exact q (some _) hi _ _ (hl.new c λl' z=>by cases z;lia) (hh.keep λz=>⋯)
   .simp![Zm];exact q (some l) hi _ _ (hl.keep λ_=>⟨l,rfl,⋯⟩) (hh.keep λz=>⋯)
 .exact second lo (hl.keep λz=>absurd z c)
theorem ZkA(h:M[n]?=some (.lst (prs rs)))(h':M[m]?=some (.lst (rts hs)))(e:hs.length=rs.length)(hne:rs≠[])(hb:Nr 400 rs)(hl:rs.length<=1000)(hz:∀x∈hs,Sz k x)(hk:k<=900)(su:sm S u)(sv:sm S v)(hS:S<2^f)(hf:f<=3000)(hg:g.natAbs<2^f)(hp:∃i<rs.length,0<X u (cy rs i))(hn:∃i<rs.length,X u (cy rs i)<0)(hR:∀l h,LoA (ac rs hs u) (re rs hs v g) rs.length (some l)->HiA (ac rs hs u) (re rs hs v g) rs.length (some h)->l.natAbs<2^61/\h.natAbs<2^61/\h+1-l<10000000)(q:∀l h:Int,(∀o,l<=o/\o<=h↔∀j<rs.length,ac rs hs u j≠0->0<=ac rs hs u j*o+re rs hs v g j)->Q (.ref M.length) (M++[.lst (prs (ZnB u v g l h))])):wO (F_dots_across [.ref n,.ref m,.tup [pr u.1 u.2,pr v.1 v.2],.int g] M) Q E:=by
 have hn':=Zt h;have hm':=Zt h';have l0:0<rs.length:=jc.mpr hne;simp![F_dots_across,ZaU,Zlf,ZnP,Ztt];refine Zle (n:=n) (m:=m) (xs:=prs rs) (ys:=rts hs) (λi ρ M'=>M'=M/\∃lo hi x8 x9 x10 x11,ρ=[some (.ref n),some (.ref m),some (.tup [pr u.1 u.2,pr v.1 v.2]),some (.int g),some (pr u.1 u.2),some (pr v.1 v.2),some (oD lo),some (oD hi),x8,x9,x10,x11]/\LoA (ac rs hs u) (re rs hs v g) i lo/\HiA (ac rs hs u) (re rs hs v g) i hi) h (by rw[ZG,ZH];lia) ⟨rfl,none,none,_,_,_,_,rfl,.inl ⟨rfl,λj hj=>⋯⟩,.inl ⟨rfl,λj hj=>⋯⟩⟩ (λi ρ M' hI=>hI.1▸⟨h,h'⟩) ?_ ?_
 .rintro i ρ _ hi ⟨rfl,lo,hi',x8,x9,x10,x11,rfl,h1,h2⟩;have hi1:i<rs.length:=by rw[ZG]at hi;exact hi
  obtain⟨_,ei⟩:=Zen hi;have ec:rs[i]=cy rs i:=by rw[Zad hi1]
  rw[ei,ec,Zdq];have bp:=hb _ (Zbj (i:=(i:Int)) hne);have zx:=Zej (i:=(i:Int)) hz ⋯
  simp![Zm];refine Zrc (i:=i) su sv hS hf ⋯ zx hk hg rfl rfl h1 h2 λlo hi y10 y11 h3 h4=>?_
  exact⟨rfl,lo,hi,_,_,_,_,rfl,h3,h4⟩
 .rintro ρ _ ⟨rfl,lo,hi',x8,x9,x10,x11,rfl,h1,h2⟩;rw[ZG]at h1 h2;have dp:∀j,0<((cq hs j).den:Int):=λj=>Int.natCast_pos.mpr (cL (cq hs j).den_nz);cases lo with
  |none=>
   obtain⟨j,hj,z⟩:=hp;rcases h1 with⟨_,h1⟩|⟨_,z',_⟩
   .exact absurd (jZ z (dp j)) (h1 j hj)
   .cases z'
  |some l=>
   cases hi' with
   |none=>
    obtain⟨j,hj,z⟩:=hn;rcases h2 with⟨_,h2⟩|⟨_,z',_⟩
    .exact absurd (Int.mul_neg_of_neg_of_pos z (dp j)) (h2 j hj)
    .cases z'
   |some h9=>
    have en:=ZuU h1 h2;obtain⟨bl,bh,ll⟩:=hR l h9 h1 h2;simp![oD];refine⟨⋯,?_⟩
    refine Zrz (xs:=Zbh l (h9+1-l).toNat) (λρ=>∃x,ρ=[x,some (.int g),some (pr u.1 u.2),some (pr v.1 v.2)]) (λc=>pr (qt u v g (l+(c:Int))).1 (qt u v g (l+(c:Int))).2) (by rw[ZeU];lia) (by simp[cnt]) ⟨_,rfl⟩ (λL c hc=>rfl) ?_ ?_
    .rintro c hc ρ L ⟨x,rfl⟩;rw[Znd];rw[ZeU]at hc;have bo:(l+(c:Int)).natAbs<2^63:=by omega
     generalize l+(c:Int)=o9 at *;have f1:Zq g v.2:=Zp f f hg (by have:=sv.2;lia) ⋯ ⋯
     have f2:Zq g v.1:=Zp f f hg (by have:=sv.1;lia) ⋯ ⋯
     have f3:Zq o9 u.2:=Zp 63 f bo (by have:=su.2;lia) ⋯ ⋯
     have f4:Zq o9 u.1:=Zp 63 f bo (by have:=su.1;lia) ⋯ ⋯
     simp![ZB f1,ZB f2,ZB f3,ZB f4];exact⟨⟨_,rfl⟩,rfl⟩
    .rw[ZeU]
     have:=q l h9 en
     unfold prs ZnB at this;rw[c7]at this;exact this
end DT
namespace DT
open L2 DL
open CV CN CU CS
open Rb BD Ri
section
variable {hs:List Rat}{v:Pt}{g l:Int}{V:Nat}
noncomputable def Bx(c:Nat)(q:RP):Prop:=(-(c:Rat)<=q.1/\q.1<=(c:Rat))/\ -(c:Rat)<=q.2/\q.2<=(c:Rat)
theorem box(hS:Smo rs)(hc:∀p,Cor rs hs p->Bx c p)(hq:Win rs hs q):Bx c q:=by
 have key:∀v:Pt,v≠(0,0)->(∀p,Cor rs hs p-> -(c:Rat)<=slp p v)-> -(c:Rat)<=slp q v:=by
  intro v hv hc;obtain⟨p,cp,lp⟩:=ZcE hS hv hq
  have:=hc p cp
  have:=lp q hq
  grind
 have k1:=key (1,0) (by decide) λp cp=>by have:=hc p cp;unfold slp;unfold Bx at this;grind
 have k2:=key (-1,0) (by decide) λp cp=>by have:=hc p cp;unfold slp;unfold Bx at this;grind
 have k3:=key (0,1) (by decide) λp cp=>by have:=hc p cp;unfold slp;unfold Bx at this;grind
 have k4:=key (0,-1) (by decide) λp cp=>by have:=hc p cp;unfold slp;unfold Bx at this;grind
 unfold slp at *;unfold Bx;grind
theorem mid(hp:Win rs hs p)(hq:Win rs hs q){g:Rat}(h1:slp p u<=g)(h2:g<=slp q u):∃x,Win rs hs x/\slp x u=g:=by
 by_cases e:slp q u-slp p u=0
 .exact⟨p,hp,by grind⟩
 .have d0:0<slp q u-slp p u:=by grind
  obtain⟨t,ht⟩:∃t:Rat,t*(slp q u-slp p u)=g-slp p u:=⟨(g-slp p u)/(slp q u-slp p u),Rat.div_mul_cancel e⟩;have t0:0<=t:=by
   apply Classical.byContradiction;intro z
   have:=iY d0 (a:=t) (b:=0)
   grind
  have t1:t<=1:=by
   apply Classical.byContradiction;intro z
   have:=iY d0 (a:=1) (b:=t)
   grind
  refine⟨(p.1+t*(q.1-p.1),p.2+t*(q.2-p.2)),λi hi=>?_,?_⟩
  .have a:=hp i hi;have b:=hq i hi;have m1:=aF a (show 0<=1-t by grind)
   have m2:=aF b t0
   have:slp (p.1+t*(q.1-p.1),p.2+t*(q.2-p.2)) (cy rs i)=(1-t)*slp p (cy rs i)+t*slp q (cy rs i):=by unfold slp;grind
   rw[this];grind
  .have:slp (p.1+t*(q.1-p.1),p.2+t*(q.2-p.2)) u=slp p u+t*(slp q u-slp p u):=by unfold slp;grind
   rw[this,ht];grind
noncomputable def ry(u:Pt)(x:RP)(d:Rat):RP:=(x.1-d*u.2,x.2+d*u.1)
theorem Zf7(hx:X u v=1)(d:Rat)(r:Pt):slp (ry u x d) r=slp x r+d*(X u r:Rat):=by
 rw[ZaH];unfold slp ry;grind
theorem ZlA(hx:X u v=1)(xu:slp x u=(g:Rat))(o:Rat)(j:Nat): -(cq hs j)<=slp (ry u x (o-slp x v)) (cy rs j)↔0<=(ac rs hs u j:Rat)*o+(re rs hs v g j:Rat):=by
 rw[Zf7 hx,ZaI hx (p:=x),xu];unfold ac re;have hd:(0:Rat)<((cq hs j).den:Rat):=hZ.mpr (cL (cq hs j).den_nz);have e:((cq hs j).num:Rat)=cq hs j*((cq hs j).den:Rat):=BD.ZcD _;simp only[ay,bE,e,aG];have e2:((X u (cy rs j):Int):Rat)*((cq hs j).den:Rat)*o+(cq hs j*((cq hs j).den:Rat)+((X (cy rs j) v:Int):Rat)*(g:Rat)*((cq hs j).den:Rat))=(((cq hs j).den:Rat))*(cq hs j+(((X (cy rs j) v:Int):Rat)*(g:Rat)+((X u (cy rs j):Int):Rat)*o)):=by grind
 rw[e2];constructor
 .intro z;exact cA (by grind) (by grind)
 .intro z
  have:((cq hs j).den:Rat)*0<=((cq hs j).den:Rat)*(cq hs j+(((X (cy rs j) v:Int):Rat)*(g:Rat)+((X u (cy rs j):Int):Rat)*o)):=by grind
  have:=jL this hd
  grind
theorem Zrd(hx:X u v=1)(wx:Win rs hs x)(xu:slp x u=(g:Rat))(o:Rat)(hf:∀j<rs.length,ac rs hs u j≠0->0<=(ac rs hs u j:Rat)*o+(re rs hs v g j:Rat)):Win rs hs (ry u x (o-slp x v)):=by
 intro j hj;by_cases c:ac rs hs u j=0
 .have hd:((cq hs j).den:Int)≠0:=by have:=(cq hs j).den_nz;lia
  unfold ac at c;have c0:X u (cy rs j)=0:=(lh.mp c).resolve_right hd;rw[Zf7 hx,c0]
  have:=wx j hj
  grind
 .exact(ZlA hx xu o j).mpr (hf j hj c)
theorem Zre(hy:Bx c y)(hv:sm V v): -((2*c*V:Nat):Rat)<=slp y v/\slp y v<=((2*c*V:Nat):Rat):=by
 have cc:(0:Rat)<=(c:Rat):=jK;have key:∀(a:Rat)(b:Int),-(c:Rat)<=a->a<=(c:Rat)->b.natAbs<=V-> -((c:Rat)*(V:Rat))<=a*(b:Rat)/\a*(b:Rat)<=(c:Rat)*(V:Rat):=by
  intro a b h1 h2 h3;have b1:(b:Rat)<=(V:Rat):=by
   rw[<-aG];exact aH.mpr ⋯
  have b2: -(V:Rat)<=(b:Rat):=by
   rw[<-aG,<-bN];exact aH.mpr ⋯
  have m1:=cA (show 0<=(c:Rat)-a by grind) (show 0<=(V:Rat)-b by grind)
  have m2:=cA (show 0<=(c:Rat)+a by grind) (show 0<=(V:Rat)+b by grind)
  have m3:=cA (show 0<=(c:Rat)+a by grind) (show 0<=(V:Rat)-b by grind)
  have m4:=cA (show 0<=(c:Rat)-a by grind) (show 0<=(V:Rat)+b by grind)
  grind
 have k1:=key y.1 v.1 hy.1.1 hy.1.2 hv.1;have k2:=key y.2 v.2 hy.2.1 hy.2.2 hv.2;rw[show 2*c*V=c*V+c*V by grind,Rat.natCast_add,hW]
 unfold slp;grind
theorem Zrf(hS:Smo rs)(hx:X u v=1)(hc:∀p,Cor rs hs p->Bx c p)(hv:sm V v)(hp:Win rs hs p)(hq:Win rs hs q)(h1:slp p u<=(g:Rat))(h2:(g:Rat)<=slp q u)(hl:LoA (ac rs hs u) (re rs hs v g) rs.length (some l))(hh:HiA (ac rs hs u) (re rs hs v g) rs.length (some h)):l.natAbs<=2*c*V+1/\h.natAbs<=2*c*V+1/\h-l<=2*c:=by
 obtain⟨x,wx,xu⟩:=mid hp hq h1 h2;have en:=ZuU hl hh;rcases hl with⟨z,_⟩|⟨l',z,l1,j1,hj1,p1,e1⟩
 .cases z
 cases z;rcases hh with⟨z,_⟩|⟨h',z,h1',j2,hj2,p2,e2⟩
 .cases z
 cases z;have fx:∀j<rs.length,0<=(ac rs hs u j:Rat)*slp x v+(re rs hs v g j:Rat):=λj hj=>(ZlA hx xu _ j).mp (by
  rw[show slp x v-slp x v=0 by grind,Zf7 hx]
  have:=wx j hj
  grind)
 have uv:=hx;have xv:X u v=1:=hx;have bd:∀o:Rat,(∀j<rs.length,ac rs hs u j≠0->0<=(ac rs hs u j:Rat)*o+(re rs hs v g j:Rat))->Bx c (ry u x (o-slp x v))/\ -((2*c*V:Nat):Rat)<=o/\o<=((2*c*V:Nat):Rat):=by
  intro o ho;have w:=box hS hc (Zrd hx wx xu o ho);have s:=Zre w hv;rw[Zf7 hx,hx]at s;refine⟨w,?_⟩;grind
 have bx:=bd (slp x v) λj hj _=>fx j hj;have cs:∀{a o r:Int},0<=a*o+r->0<=(a:Rat)*(o:Rat)+(r:Rat):=λ{a o r} z=>by
  rw[<-ay,<-bE];exact eQ.mpr z
 have lo1:∀j<rs.length,0<ac rs hs u j->0<=ac rs hs u j*l+re rs hs v g j:=λj hj c=>(Zc1 c).mp (l1 j hj c);have hi1:∀j<rs.length,ac rs hs u j<0->0<=ac rs hs u j*h+re rs hs v g j:=λj hj c=>(Zf6 c).mp (h1' j hj c);have fl:(l:Rat)<=slp x v->∀j<rs.length,ac rs hs u j≠0->0<=(ac rs hs u j:Rat)*(l:Rat)+(re rs hs v g j:Rat):=by
  intro z j hj ne;rcases(show 0<ac rs hs u j\/ac rs hs u j<0 by lia)with s|s
  .exact cs (lo1 j hj s)
  .have:=fx j hj
   have s':(0:Rat)<= -(ac rs hs u j:Rat):=by
    rw[<-bN];exact eQ.mpr ⋯
   have:=aF z s'
   grind
 have fh:slp x v<=(h:Rat)->∀j<rs.length,ac rs hs u j≠0->0<=(ac rs hs u j:Rat)*(h:Rat)+(re rs hs v g j:Rat):=by
  intro z j hj ne;rcases(show ac rs hs u j<0\/0<ac rs hs u j by lia)with s|s
  .exact cs (hi1 j hj s)
  .have:=fx j hj
   have s':(0:Rat)<=(ac rs hs u j:Rat):=eQ.mpr ⋯
   have:=aF z s'
   grind
 have l2:((l-1:Int):Rat)<slp x v:=by
  have n1:¬0<=ac rs hs u j1*(l-1)+re rs hs v g j1:=λz=>by
   have:=(Zc1 p1).mpr z
   lia
  have n2:((ac rs hs u j1*(l-1)+re rs hs v g j1:Int):Rat)<0:=by
   have:=dm.mpr (show ac rs hs u j1*(l-1)+re rs hs v g j1<0 by lia)
   simpa using this
  rw[bE,ay]at n2
  have:=fx j1 hj1
  have pp:(0:Rat)<(ac rs hs u j1:Rat):=dB.mpr p1;apply Classical.byContradiction;intro z
  have:=aF (show slp x v<=((l-1:Int):Rat)by grind) (show(0:Rat)<=(ac rs hs u j1:Rat)by grind)
  grind
 have h3:slp x v<((h+1:Int):Rat):=by
  have n1:¬0<=ac rs hs u j2*(h+1)+re rs hs v g j2:=λz=>by
   have:=(Zf6 p2).mpr z
   lia
  have n2:((ac rs hs u j2*(h+1)+re rs hs v g j2:Int):Rat)<0:=by
   have:=dm.mpr (show ac rs hs u j2*(h+1)+re rs hs v g j2<0 by lia)
   simpa using this
  rw[bE,ay]at n2
  have:=fx j2 hj2
  have pp:(0:Rat)<= -(ac rs hs u j2:Rat):=by
   rw[<-bN];exact eQ.mpr ⋯
  apply Classical.byContradiction;intro z
  have:=aF (show((h+1:Int):Rat)<=slp x v by grind) pp
  grind
 have ib:∀z:Int,-((2*c*V:Nat):Rat)-1<(z:Rat)+1->(z:Rat)-1<((2*c*V:Nat):Rat)+1->z.natAbs<=2*c*V+1:=by
  intro z a b;generalize 2*c*V=K at *;have a':((-(K:Int)-1:Int):Rat)<((z+1:Int):Rat):=by
   simp only[c8,bN,bE,aG];grind
  have b':((z-1:Int):Rat)<(((K:Int)+1:Int):Rat):=by
   simp only[c8,bE,aG];grind
  have:=dm.mp a'
  have:=dm.mp b'
  lia
 simp only[c8,bE]at l2 h3;have bl: -((2*c*V:Nat):Rat)<=(l:Rat):=by
  by_cases z:(l:Rat)<=slp x v
  .exact(bd l (fl z)).2.1
  .grind
 have bh:(h:Rat)<=((2*c*V:Nat):Rat):=by
  by_cases z:slp x v<=(h:Rat)
  .exact(bd h (fh z)).2.2
  .grind
 refine⟨ib l (by grind) (by grind),ib h (by grind) (by grind),?_⟩
 apply Classical.byContradiction;intro z;have a1:=(en l).mp ⟨⋯,⋯⟩
 have a2:=(en h).mp ⟨⋯,⋯⟩
 have c1:=(bd l λj hj ne=>cs (a1 j hj ne)).1;have c2:=(bd h λj hj ne=>cs (a2 j hj ne)).1;unfold Bx ry at c1 c2;simp only at c1 c2;have n1:∀w:Int,-(2*(c:Rat))<=((h:Rat)-l)*(w:Rat)->((h:Rat)-l)*(w:Rat)<=2*(c:Rat)->w=0:=by
  intro w q1 q2;have q1':((-(2*(c:Int)):Int):Rat)<=(((h-l)*w:Int):Rat):=by
   simp only[c8,bN,ay,aG];grind
  have q2':(((h-l)*w:Int):Rat)<=((2*(c:Int):Int):Rat):=by
   simp only[c8,ay,aG];grind
  have r1:=aH.mp q1';have r2:=aH.mp q2';apply Classical.byContradiction;intro wn;rcases(show 1<=w\/w<= -1 by lia)with s|s
  .have:=cV s (show 0<=h-l by lia)
   lia
  .have:=cV s (show 0<=h-l by lia)
   lia
 have u1:=n1 u.1 (by grind) (by grind)
 have u2:=n1 u.2 (by grind) (by grind)
 unfold X at hx;rw[u1,u2]at hx;lia
end
end DT
namespace DT
open L2 DL
open CV CN CU CS
open CR (rt Sz)
open CH (rts ZH)
open CD (pts ZP ZaB)
open Rb BD Ri
noncomputable def yl(a b:Pt):Prop:=a.2<b.2\/(a.2=b.2/\a.1<b.1)
noncomputable def kd(m:Pt):List Int:=[m.2,m.1]
def wP(B:Nat)(ms:List RP):List Pt:=ms.map λp=>(stc B p.1,stc B p.2)
section
variable {M:Sto}{e:Nat}{ds:List Pt}{r:Pt}{a:Int}{c:Nat}
theorem Zfd(h:∀x∈xs,x.den ∣ Bt):ZcZ xs ∣ Bt:=by
 have:∀(xs:List Rat)(b:Nat),b ∣ Bt->(∀x∈xs,x.den ∣ Bt)->xs.foldl (λb x=>ia b x.den) b ∣ Bt:=by
  intro xs
  induction xs with
  |nil=>intro b h _;exact h
  |cons x r ih=>intro b h hx;exact ih _ (Nat.lcm_dvd h (hx x (by simp))) λy hy=>hx y (aI _ hy)
 exact this xs 1 (Nat.one_dvd _) h
theorem Zf8(hx:x.den ∣ B)(h1: -(c:Rat)<=x)(h2:x<=(c:Rat)):(stc B x).natAbs<=c*B:=by
 have e:=ZaR hx;have b0:(0:Rat)<=(B:Rat):=jK;have m1:=cf h1 b0;have m2:=cf h2 b0;have q1:((-((c*B:Nat):Int):Int):Rat)<=(stc B x:Rat):=by
  rw[e,bN,aG,hW];grind
 have q2:(stc B x:Rat)<=(((c*B:Nat):Int):Rat):=by
  rw[e,aG,hW];grind
 have:=aH.mp q1
 have:=aH.mp q2
 generalize c*B=z at *;lia
theorem Zdu(h1:p.1.den ∣ B)(h2:p.2.den ∣ B)(r:Pt):((pd (stc B p.1,stc B p.2) r:Int):Rat)=slp p r*(B:Rat):=by
 unfold pd slp;simp only[bE,ay,ZaR h1,ZaR h2];grind
theorem ZlB(e:kd p=kd r):p=r:=by
 unfold kd at e;simp only[iZ,and_true]at e;exact eO e.2 e.1
theorem ZtS(ne:kd p≠kd r)(e:ST.le (kd p) (kd r)):yl p r:=by
 have e:HT.ZaY (kd r) (kd p)=false:=e;unfold kd at e ne;rw[HT.ZR]at e;by_cases c:r.2=p.2
 .rw[if_pos c,HT.ZR]at e;by_cases d:r.1=p.1
  .exact absurd (by rw[c,d]) ne
  .rw[if_neg d]at e
   have:=of_decide_eq_false e
   exact .inr ⟨c.symm,⋯⟩
 .rw[if_neg c]at e
  have:=of_decide_eq_false e
  exact .inl ⋯
theorem Zrg{ρ:Ro}:∀ds:List Pt,Zcq (Z7 (Zc (e2 dIx (Zf 0) (eC (.int 1))) (Zc (e2 dIx (Zf 0) (eC (.int 0))) aNil))) [] ρ M (prs ds) (ds.map kd)
 |[]=>.nil
 |a::r=>by
  have ih:=Zrg (ρ:=ρ) r;refine .cons ⟨?_,by simp[kd]⟩ ih
  have:wO (Z7 (Zc (e2 dIx (Zf 0) (eC (.int 1))) (Zc (e2 dIx (Zf 0) (eC (.int 0))) aNil)) [some (pr a.1 a.2)] M) (λd M'=>d=Zj7 (kd a)/\M'=M) (λ_ _=>False):=by
   simp![Zm];rfl
  obtain⟨d,M',e,e1,e2⟩:=ZfS this;show(Z7 _ [some (pr a.1 a.2)] M)=_;rw[e,e1,e2]
theorem ZnC(hx:X u v=1)(hw:∀o,l<=o/\o<=h↔Win rs hs (ip (Ri.qt u v g o)))(m:Pt):m∈ZnB u v g l h↔Win rs hs (ip m)/\pd m u=g:=by
 unfold ZnB;rw[aX];constructor
 .rintro⟨c,hc,rfl⟩;have hc:=bZ.mp hc;refine⟨(hw _).mp ⟨⋯,⋯⟩,?_⟩
  have:=Zi1 hx g (l+(c:Int)) u
  rw[XX,hx]at this;show pd (Ri.qt u v g (l+(c:Int))) u=g;rw[this];lia
 .rintro⟨w,e⟩;have q:=ZtP hx m;rw[e]at q;have b:=(hw (pd m v)).mpr (by rw[q];exact w)
  refine⟨(pd m v-l).toNat,bZ.mpr ⋯,?_⟩
  rw[show l+((pd m v-l).toNat:Int)=pd m v by lia]
  exact q
theorem Zrh(hx:X u v=1):(ZnB u v g l h).Nodup:=by
 unfold ZnB;refine dX.mpr (j0 (λ{a b} ne z=>ne ?_) List.nodup_range);have z:pd (Ri.qt u v g (l+(a:Int))) v=pd (Ri.qt u v g (l+(b:Int))) v:=congrArg (λm=>pd m v) z;rw[Zi1 hx,Zi1 hx,hx]at z;lia
theorem Zi5{t:Nat}(h1:x.den ∣ t)(h2:x.den ∣ L):(t:Int)*stc L x=(L:Int)*stc t x:=by
 have e1:=ZaR h1;have e2:=ZaR h2;apply ja.mp;rw[ay,ay,e1,e2,aG,aG];grind
def Ow(P:List Pt)(L c T:Nat):Prop:=∀p∈P,∃(t:Nat) (a:Pt),(1<=t/\t<=T)/\(t:Int)*p.1=(L:Int)*a.1/\(t:Int)*p.2=(L:Int)*a.2/\sm (c*t) a
theorem ZtT{a:Int}(p1:a*p.1=L*x.1)(p2:a*p.2=L*x.2)(q1:b*q.1=L*y.1)(q2:b*q.2=L*y.2)(s1:d*s.1=L*z.1)(s2:d*s.2=L*z.2):a*b*d*X (df p q) (df p s)=L*L*(d*X x y+a*X y z+b*X z x):=by
 have e1:a*b*X p q=L*L*X x y:=by
  have:a*b*X p q=(a*p.1)*(b*q.2)-(a*p.2)*(b*q.1):=by unfold X;grind
  rw[this,p1,p2,q1,q2];unfold X;grind
 have e2:b*d*X q s=L*L*X y z:=by
  have:b*d*X q s=(b*q.1)*(d*s.2)-(b*q.2)*(d*s.1):=by unfold X;grind
  rw[this,q1,q2,s1,s2];unfold X;grind
 have e3:d*a*X s p=L*L*X z x:=by
  have:d*a*X s p=(d*s.1)*(a*p.2)-(d*s.2)*(a*p.1):=by unfold X;grind
  rw[this,s1,s2,p1,p2];unfold X;grind
 have e:a*b*d*X (df p q) (df p s)=d*(a*b*X p q)+a*(b*d*X q s)+b*(d*a*X s p):=by unfold X df;grind
 rw[e,e1,e2,e3];grind
theorem Zf9{D:Int}{T c:Nat}(hL:1<=L)(h:(u*D).natAbs<=8*(c*L)*(c*L))(hD:D≠0)(ht:t<=T)(e:(t:Int)*D=(L:Int)*(L:Int)*N)(t1:1<=t):u.natAbs<=8*c*c*T:=by
 have n0:N≠0:=λz=>by
  rw[z,m5]at e;rcases lh.mp e with z|z
  .lia
  .exact hD z
 have e':t*D.natAbs=L*L*N.natAbs:=by
  have:=congrArg Int.natAbs e
  simpa [aR]using this
 have l1:L*L<=t*D.natAbs:=by rw[e'];exact kF _ ⋯
 rw[aR]at h;have l2:=dw t h;have l3:=dw u.natAbs l1;have e3:t*(u.natAbs*D.natAbs)=u.natAbs*(t*D.natAbs):=by grind
 have l4:t*(8*(c*L)*(c*L))<=T*(8*(c*L)*(c*L)):=cM _ ht;have e4:T*(8*(c*L)*(c*L))=8*c*c*T*(L*L):=by grind
 have:u.natAbs*(L*L)<=8*c*c*T*(L*L):=⋯
 exact Nat.le_of_mul_le_mul_right this (eH hL hL)
theorem Wy.bd{T:Nat}(y:Wy P u)(h:P≠[])(ow:Ow P L c T)(hP:∀p∈P,sm (c*L) p)(hL:1<=L)(c1:1<=c)(T1:1<=T):sm (8*c*c*(T*T*T)) u:=by
 have w10:=Zq4 h hP;have hw:wd P u<=(2*(c*L):Nat):=by have:=y.w;lia
 have big:∀{k:Nat},k<=8*(c*(c*(T*(T*T))))->k<=8*c*c*(T*T*T):=λ{k} hk=>by
  have:8*(c*(c*(T*(T*T))))=8*c*c*(T*T*T):=by grind
  lia
 have cc:∀{k j:Nat},1<=j->k<=k*j:=λ{k j} hj=>kF _ hj;by_cases sp:Spn P
 .obtain⟨p,hp,q,hq,s,hs,hD⟩:=sp;obtain⟨t1,x,⟨a1,a2⟩,p1,p2,_⟩:=ow p hp;obtain⟨t2,z,⟨b1,b2⟩,q1,q2,_⟩:=ow q hq;obtain⟨t3,v,⟨d1,d2⟩,s1,s2,_⟩:=ow s hs;have e:=ZtT p1 p2 q1 q2 s1 s2;have m:=Zf3 hp hq hs hP hw;have t0:t1*t2*t3<=T*T*T:=dQ (dQ a2 b2) d2;have tp:1<=t1*t2*t3:=eH (eH a1 b1) d1;have e':((t1*t2*t3:Nat):Int)*X (df p q) (df p s)=(L:Int)*(L:Int)*((t3:Int)*X x z+t1*X z v+t2*X v x):=by
   rw[<-e];simp
  exact⟨Zf9 hL m.1 hD t0 e' tp,Zf9 hL m.2 hD t0 e' tp⟩
 .by_cases z0:∀r,wd P r=0
  .have:=y.l0 z0
   have b:1<=8*c*c*(T*T*T):=big (by
    have:1<=c*(c*(T*(T*T))):=eH c1 (eH c1 (eH T1 (eH T1 T1)))
    lia)
   exact⟨aM this.1 b,aM this.2 b⟩
  .obtain⟨r,hr⟩:=Classical.not_forall.mp z0;have h0:0<wd P r:=by have:=Zky (r:=r) h;lia
   obtain⟨d,hd,p,hp,q,hq,rfl⟩:=Zly sp hP h h0;obtain⟨t1,x,⟨a1,a2⟩,p1,p2,xs⟩:=ow p hp;obtain⟨t2,z,⟨b1,b2⟩,q1,q2,zs⟩:=ow q hq;have k1:(t1:Int)*t2*(df p q).1=L*((t2:Int)*x.1-t1*z.1):=by
    have:(t1:Int)*t2*(df p q).1=t2*(t1*p.1)-t1*(t2*q.1):=by unfold df;grind
    rw[this,p1,q1];grind
   have k2:(t1:Int)*t2*(df p q).2=L*((t2:Int)*x.2-t1*z.2):=by
    have:(t1:Int)*t2*(df p q).2=t2*(t1*p.2)-t1*(t2*q.2):=by unfold df;grind
    rw[this,p2,q2];grind
   have tp:1<=t1*t2:=eH a1 b1;have tne:(t1:Int)*t2≠0:=li ⋯ ⋯
   have sz:∀{i j:Int},i.natAbs<=c*t1->j.natAbs<=c*t2->((t2:Int)*i-t1*j).natAbs<=2*c*(T*T):=λ{i j} h1 h2=>by
    have m1:=Z2 (a:=(t2:Int)) (b:=i) (x:=t2) ⋯ h1
    have m2:=Z2 (a:=(t1:Int)) (b:=j) (x:=t1) ⋯ h2
    have e1:t2*(c*t1)=c*(t1*t2):=by grind
    have e2:t1*(c*t2)=c*(t1*t2):=by grind
    have:=dw c (dQ a2 b2)
    have e3:2*c*(T*T)=c*(T*T)+c*(T*T):=by grind
    omega
   have dz:Dz P (2*c*(T*T)) ((t2:Int)*x.1-t1*z.1,(t2:Int)*x.2-t1*z.2):=by
    refine⟨⟨⟨sz xs.1 zs.1,sz xs.2 zs.2⟩,?_⟩,?_,t1*t2,L,tp,hL,λr=>?_⟩
    .have:1<=c*(T*T):=eH c1 (eH T1 T1)
     have:2*c*(T*T)=2*(c*(T*T)):=by grind
     lia
    .dsimp only;rcases hd.2.1 with g|g
     .left;intro zz;rw[zz,m5]at k1;exact(li tne g) k1
     .right;intro zz;rw[zz,m5]at k2;exact(li tne g) k2
    .rw[hd.2.2 r];have e:(t1:Int)*t2*pd (df p q) r=L*pd ((t2:Int)*x.1-t1*z.1,(t2:Int)*x.2-t1*z.2) r:=by
      have:(t1:Int)*t2*pd (df p q) r=(t1*t2*(df p q).1)*r.1+(t1*t2*(df p q).2)*r.2:=by unfold pd;grind
      rw[this,k1,k2];unfold pd;grind
     have:=congrArg Int.natAbs e
     rw[aR,aR,aR]at this;simp only[jJ]at this
     exact_mod_cast this
   have s:=y.lz _ _ dz;have b:2*(2*c*(T*T))<=8*c*c*(T*T*T):=big (by
    have h1:c*(T*T)<=c*(c*(T*(T*T))):=by
     refine dw c ?_
     have:T*T<=T*(T*T):=kX _ T1
     exact aM this (kX _ c1)
    have:2*(2*c*(T*T))=4*(c*(T*T)):=by grind
    lia)
   exact⟨aM s.1 b,aM s.2 b⟩
theorem Zri{T:Nat}(h:M[n]?=some (.lst (prs rs)))(hS:Smo rs)(hb:Nr B rs)(hl:rs.length<=31)(h':M[m]?=some (.lst (rts hs)))(e:hs.length=rs.length)(hz:∀x∈hs,Sz k x)(hk:k<=900)(hc:∀p,Cor rs hs p->Bx c p)(hd:∀p,Cor rs hs p->p.1.den ∣ Bt/\p.2.den ∣ Bt)(b0:0<Bt)(b1:Bt<2^eB)(hC:c*Bt<2^eB)(he:eB<=7000)(c1:1<=c)(c2:c<=1000000)(T1:1<=T)(hT:∀p,Cor rs hs p->∃t:Nat,(1<=t/\t<=T)/\p.1.den ∣ t/\p.2.den ∣ t)(hV:2*c*(8*c*c*(T*T*T))<2^60)(hN:∀ds:List Pt,ds.Nodup->(∀m∈ds,Win rs hs (ip m))->ds.length<1000000)(q:∀ds o M',ds.Pairwise yl->(∀m,m∈ds↔Win rs hs (ip m))->Kp M M'->M.length<=o->M'[o]?=some (.lst (prs ds))->Q (.ref o) M')(hB:B<=400:=by first|decide|assumption):wO (F_dots [.ref n,.ref m] M) Q E:=by
 have hn:=Zt h;have hm:=Zt h';simp![F_dots,Zi3];refine Zq2 h hS hb hl h' e hz hk λms o M1 bo sz ln K1 lo r1=>?_;have ho:=Zt r1;simp![Zit];refine Zlv r1 ⋯ ?_
 have zf:∀x∈Zbp ms,Sz (4*k+61) x:=λx hx=>by
  obtain⟨m,hm,e|e⟩:=ZaT.mp hx
  .rw[e];exact(sz m hm).1
  .rw[e];exact(sz m hm).2
 simp![Zf0 (M:=M1++[SO.lst (rts (Zbp ms))]) (n:=M1.length) (xs:=Zbp ms) (k:=4*k+61) (by simp) (by rw[Zca];lia) zf ⋯]
 have dv:Dv (ZcZ (Zbp ms)) ms:=λm hm=>⟨Zb9 (ZaT.mpr ⟨m,hm,.inl rfl⟩),Zb9 (ZaT.mpr ⟨m,hm,.inr rfl⟩)⟩;have ld:ZcZ (Zbp ms) ∣ Bt:=Zfd λx hx=>by
  obtain⟨m,hm,e|e⟩:=ZaT.mp hx
  .rw[e];exact(hd m ((bo.1 m).mp hm)).1
  .rw[e];exact(hd m ((bo.1 m).mp hm)).2
 have l0:=Zdr (Zbp ms);have l1:=mD b0 ld;generalize ZcZ (Zbp ms)=L at *;have Lb:L<2^eB:=⋯
 have K2:Kp M1 (M1++[SO.lst (rts (Zbp ms))]):=Kp.app;have r2:=K2.get r1;have K2:=K1.trans K2;generalize M1++[SO.lst (rts (Zbp ms))]=M2 at *;refine Zis (xs:=pts ms) (λρ=>∃x y,ρ=[x,y,some (.int (L:Int))]) (λi=>pr ((wP L ms).getD i (0,0)).1 ((wP L ms).getD i (0,0)).2) r2 (by rw[ZP];lia) ⟨_,_,rfl⟩ ?_ ?_
 .rintro i hi ρ L' ⟨x,y,rfl⟩;have hi':i<ms.length:=by rw[ZP]at hi;exact hi
  rw[ZaB];have eg:(wP L ms).getD i (0,0)=(stc L ms[i].1,stc L ms[i].2):=by simp[wP,hi']
  rw[eg];have z:=sz ms[i] (bU hi');generalize ms[i]=p at *;simp![rp,ZaS z.1 ⋯ Lb ⋯,ZaS z.2 ⋯ Lb ⋯]
  exact⟨_,_,rfl⟩
 have ew:(aJ (pts ms).length).map (λi=>pr ((wP L ms).getD i (0,0)).1 ((wP L ms).getD i (0,0)).2)=prs (wP L ms):=by
  unfold prs;refine eK (by simp[wP,ZP]) λi h1 h2=>?_
  have:i<(wP L ms).length:=by simpa using h2
  simp[this]
 rw[ew];have r3:(M2++[SO.lst (prs (wP L ms))])[M2.length]?=some (.lst (prs (wP L ms))):=by simp
 have K3:Kp M (M2++[SO.lst (prs (wP L ms))]):=K2.trans Kp.app;have e3:(M2++[SO.lst (prs (wP L ms))]).length=M2.length+1:=by simp
 have k2:=K2.1;generalize hM3:M2++[SO.lst (prs (wP L ms))]=M3 at *;have eq0:eqF 12 (M3++[SO.lst []]) (.ref M2.length) (.ref M3.length)=some (decide (ms=[])):=by
  have a1:=(Kp.app (L:=[SO.lst []])).get r3;rw[ZpW a1 (show(M3++[SO.lst []])[M3.length]?=some (.lst [])by simp)]
  cases ms with
  |nil=>rfl
  |cons a r=>rfl
 simp![eq0];have K4:Kp M (M3++[SO.lst []]):=K3.trans Kp.app;have r4:=(Kp.app (L:=[SO.lst []])).get r3;have k4:=K4.1;have e4:(M3++[SO.lst []]).length=M2.length+2:=by simp[e3]
 generalize M3++[SO.lst []]=M4 at *;refine brS (λz=>?_) (λhne=>?_)
 .simp![Zm];refine q [] M4.length _ .nil (λm=>⟨λz=>(by cases z),λw=>?_⟩) (K4.trans Kp.app) ⋯ (by simp[prs])
  obtain⟨p,_,cp,_⟩:=Zi2 hS (u:=(1,0)) (by decide) w
  have:=(bo.1 p).mpr cp
  rw[z]at this;cases this
 .have wne:wP L ms≠[]:=λz=>hne (gS.mp z);have wl:(wP L ms).length<1000:=by simp[wP];lia
  have cB:c*L<2^eB:=fP (dw c l1) hC;have wsm:∀p∈wP L ms,sm (c*L) p:=λp hp=>by
   obtain⟨m,hm,rfl⟩:=aX.mp hp;have bx:=hc m ((bo.1 m).mp hm);exact⟨Zf8 (dv m hm).1 bx.1.1 bx.1.2,Zf8 (dv m hm).2 bx.2.1 bx.2.2⟩
  have ow:Ow (wP L ms) L c T:=λp hp=>by
   obtain⟨m,hm,rfl⟩:=aX.mp hp;have cm:=(bo.1 m).mp hm;have bx:=hc m cm;obtain⟨t,tt,t1,t2⟩:=hT m cm;exact⟨t,(stc t m.1,stc t m.2),tt,Zi5 t1 (dv m hm).1,Zi5 t2 (dv m hm).2,Zf8 t1 bx.1.1 bx.1.2,Zf8 t2 bx.2.1 bx.2.2⟩
  simp![Zm];refine ZtR (C:=c*L) (e:=eB) r4 wne wl wsm cB (eH c1 l0) he λu v M5 hx _ _ yu yv K5=>?_;have su:=yu.bd wne ow wsm l0 c1 T1;have sv:=yv.bd wne ow wsm l0 c1 T1;have r5:=K5.get r4;have K5:=K4.trans K5;have k5:=K5.1;generalize 8*c*c*(T*T*T)=V at *;have Vb:V<2^60:=by
   have:1*V<=2*c*V:=cM _ ⋯
   lia
  simp![Zm];refine Zis (xs:=prs (wP L ms)) (λρ=>∃x,ρ=[x,some (.tup [pr u.1 u.2,pr v.1 v.2])]) (λi=>.int (pd ((wP L ms).getD i (0,0)) u)) r5 (by simp[prs];lia) ⟨_,rfl⟩ ?_ ?_
  .rintro i hi ρ L' ⟨x,rfl⟩;obtain⟨hi',ei⟩:=Zen hi;rw[ei];have eg:(wP L ms).getD i (0,0)=(wP L ms)[i]:=by simp[hi']
   rw[eg];have hp':=wsm (wP L ms)[i] (bU hi');generalize (wP L ms)[i]=p at *;simp![Zem hp' cB ⋯ su Vb ⋯]
   exact⟨_,rfl⟩
  rw[Zf5];have r6:(M5++[SO.lst (nts (gv (wP L ms) u))])[M5.length]?=some (.lst (nts (gv (wP L ms) u))):=by simp
  have K6:Kp M (M5++[SO.lst (nts (gv (wP L ms) u))]):=K5.trans Kp.app;have e6:(M5++[SO.lst (nts (gv (wP L ms) u))]).length=M5.length+1:=by simp
  generalize M5++[SO.lst (nts (gv (wP L ms) u))]=M6 at *;have r7:(M6++[SO.lst []])[M5.length]?=some (.lst (nts (gv (wP L ms) u))):=(Kp.app (L:=[SO.lst []])).get r6;have f7:(M6++[SO.lst []])[M6.length]?=some (.lst (prs [])):=by simp[prs]
  have K7:Kp M (M6++[SO.lst []]):=K6.trans Kp.app;have k6:=K6.1;simp![r7,CD.ZaG,(Ze9 (r:=u) wne).1,(Zfa (r:=u) wne).1,CR.ZbU (j:=(L:Int)) (k:=eB) ⋯ (by simpa using Lb) ⋯]
  generalize M6++[SO.lst []]=M7 at *;obtain⟨_,⟨pm,hpm,epm⟩,lmx⟩:=Ze9 (r:=u) wne;obtain⟨_,⟨pn,hpn,epn⟩,lmn⟩:=Zfa (r:=u) wne;have sp:∀p∈wP L ms,(pd p u).natAbs<=L*(2^60-1):=λp hp=>by
   have s1:=Z2 (wsm p hp).1 su.1;have s2:=Z2 (wsm p hp).2 su.2;have e1:L*(2*c*V)=c*L*V+c*L*V:=by grind
   have:=dw L (show 2*c*V<=2^60-1 by lia)
   unfold pd;omega
  have s1:=sp pm hpm;have s2:=sp pn hpn;rw[<-epm]at s1;rw[<-epn]at s2;generalize mx (wP L ms) u=mX at *;generalize mn (wP L ms) u=mN at *;have Lp:(0:Int)<(L:Int):=⋯
  have d1:∀g:Int,g<=mX/(L:Int)↔g*(L:Int)<=mX:=λg=>Int.le_ediv_iff_mul_le Lp;have d2:∀g:Int,-(-mN/(L:Int))<=g↔mN<=(L:Int)*g:=λg=>by
   rw[Zc1 Lp];lia
  have b1:(mX/(L:Int)).natAbs<2^60:=by
   have z1:=(d1 (2^60)).mp;have z2:=(d1 (-(2^60-1))).mpr;lia
  have b2:(-(-mN/(L:Int))).natAbs<2^60:=by
   have z1:=(d2 (2^60-1)).mpr;have z2:=(d2 (-(2^60))).mp;lia
  generalize mX/(L:Int)=gh at *;generalize -(-mN/(L:Int))=gl at *;have inr:∀m,Win rs hs (ip m)->gl<=pd m u/\pd m u<=gh:=by
   intro m w;have une:u≠(0,0):=λz=>by rw[z]at hx;simp[X]at hx
   obtain⟨p1,p2,c1,c2,q1,q2⟩:=Zi2 hS une w;have m1:=(bo.1 p1).mpr c1;have m2:=(bo.1 p2).mpr c2;have w1:=lmn _ (aX.mpr ⟨p1,m1,rfl⟩);have w2:=lmx _ (aX.mpr ⟨p2,m2,rfl⟩);have t1:=Zdu (dv p1 m1).1 (dv p1 m1).2 u;have t2:=Zdu (dv p2 m2).1 (dv p2 m2).2 u;have L0:(0:Rat)<=(L:Rat):=jK;have y1:=cf q1 L0;have y2:=cf q2 L0;rw[<-t1,<-aG,<-ay]at y1;rw[<-t2,<-aG,<-ay]at y2;have y1:=aH.mp y1;have y2:=aH.mp y2;refine⟨(d2 _).mpr ?_,(d1 _).mpr ?_⟩
   .rw[mY];exact Int.le_trans w1 y1
   .exact Int.le_trans y2 w2
  have rowp:∀g,gl<=g->g<=gh->∃p q,Win rs hs p/\Win rs hs q/\slp p u<=(g:Rat)/\(g:Rat)<=slp q u:=by
   intro g g1 g2;obtain⟨p1,m1,e1⟩:=aX.mp hpn;obtain⟨p2,m2,e2⟩:=aX.mp hpm;have t1:=Zdu (dv p1 m1).1 (dv p1 m1).2 u;have t2:=Zdu (dv p2 m2).1 (dv p2 m2).2 u;rw[e1,<-epn]at t1;rw[e2,<-epm]at t2;have y1:=aH.mpr ((d2 g).mp g1);have y2:=aH.mpr ((d1 g).mp g2);rw[t1,ay,aG,Rat.mul_comm (L:Rat)]at y1;rw[t2,ay,aG]at y2;have L0:(0:Rat)<(L:Rat):=hZ.mpr l0;exact⟨p1,p2,((bo.1 p1).mp m1).1,((bo.1 p2).mp m2).1,gI y1 L0,gI y2 L0⟩
  have une:u≠(0,0):=λz=>by rw[z]at hx;simp[X]at hx
  have bt:=both hS une;refine⟨⋯,?_⟩
  refine ZcW (I:=λi ρ M'=>Kp M M'/\∃F x8,ρ=[some (.ref n),some (.ref m),some (.ref o),some (.int (L:Int)),some (.ref M2.length),some (.tup [pr u.1 u.2,pr v.1 v.2]),some (.ref M5.length),some (.ref M6.length),x8]/\M'[M6.length]?=some (.lst (prs F))/\F.Nodup/\∀m,m∈F↔Win rs hs (ip m)/\pd m u<gl+(i:Int)) ⟨K7,[],_,rfl,f7,.nil,λm=>⟨λz=>(by cases z),λz=>by have:=(inr m z.1).1;have:=z.2;lia⟩⟩ ?_ ?_
  .rintro i ρ M8 hi ⟨K8,F,x8,rfl,f8,nd,mem⟩;have hg:gl<=gl+(i:Int)/\gl+(i:Int)<=gh:=⋯
   obtain⟨p,q',wp,wq,q1,q2⟩:=rowp (gl+(i:Int)) hg.1 hg.2;have mem':∀m,m∈F↔Win rs hs (ip m)/\pd m u<gl+(i:Int):=mem;have gb:(gl+(i:Int)).natAbs<2^60:=⋯
   have nx:gl+((i+1:Nat):Int)=gl+(i:Int)+1:=⋯
   simp only[nx];generalize gl+(i:Int)=g at *;simp![ZcG,f8];refine ZkA (f:=60) (K8.get h) (K8.get h') e hS.ne (λx hx=>by have:=hb x hx;lia) ⋯ hz hk su sv ⋯ ⋯ gb bt.1 bt.2 (λl h9 a1 a2=>?_) λl h9 hw=>?_
   .have rb:=Zrf hS hx hc sv wp wq q1 q2 a1 a2;lia
   .have hw:∀o,l<=o/\o<=h9↔Win rs hs (ip (Ri.qt u v g o)):=λo=>(hw o).trans (Zny hx wp wq q1 q2 o).symm;have rm:=ZnC hx hw;have rn:=Zrh (g:=g) (l:=l) (h:=h9) hx;generalize ZnB u v g l h9=N at *;have k8:=K8.1;have l8:=Zt f8;have f9:=(Kp.app (L:=[SO.lst (prs N)])).get f8;have n9:(M8++[SO.lst (prs N)])[M8.length]?=some (.lst (prs N)):=by simp
    have nd2:(F++N).Nodup:=jP.mpr ⟨nd,rn,λa ha b hb z=>by
     subst z
     have:=((mem' a).mp ha).2
     have:=((rm a).mp hb).2
     lia⟩
    have ln2:=hN (F++N) nd2 λm hm=>by
     rcases a7.mp hm with z|z
     .exact((mem' m).mp z).1
     .exact((rm m).mp z).1
    rw[aY]at ln2;simp![f9,n9];refine⟨⋯,(K8.trans Kp.app).set ⋯,F++N,_,rfl,by rw[aT (by simp;lia)],nd2,λm=>?_⟩
    rw[a7,mem',rm];constructor
    .rintro(⟨w,z⟩|⟨w,z⟩)
     .exact⟨w,⋯⟩
     .exact⟨w,⋯⟩
    .rintro⟨w,z⟩;by_cases y:pd m u<g
     .exact .inl ⟨w,y⟩
     .exact .inr ⟨w,⋯⟩
  .rintro ρ M8 ⟨K8,F,x8,rfl,f8,nd,mem⟩;have mem':∀m,m∈F↔Win rs hs (ip m):=λm=>(mem m).trans ⟨λz=>z.1,λw=>⟨w,by have:=inr m w;lia⟩⟩
   have ln:=hN F nd λm hm=>(mem' m).mp hm;simp![Zlu];obtain⟨ds,pm',pw,es⟩:=Zf2 (f:=kd) (g:=λ(m:Pt)=>pr m.1 m.2) (0,0) (λa _ b _ z=>ZlB z) nd;have kn:(F.map kd).Nodup:=dX.mpr (j0 (λne e=>ne (ZlB e)) nd);rw[Zdj f8 ⟨by rw[ZG];exact ln,kn,Zrg F⟩,show Zkb (F.map kd) (prs F)=prs ds from es]
   refine(?_:Q _ _);have k8:=K8.1;exact q ds M8.length _ (pw.imp λz=>ZtS z.1 z.2) (λm=>(pm'.mem_iff).trans (mem' m)) (K8.trans Kp.app) k8 (by simp)
end
end DT
namespace DA
open L2 DL
open CV CN CU CS
open Rb BD Ri DT
open CD (gg sg Bq)
open CA (Tn)
section
variable {ls ss ds:List Pt}{hs:List Int}{a b c d:Int}{q r m:Pt}{p:RP}
noncomputable def fc:Nat->Nat
 |0=>1
 |n+1=>(n+1)*fc n
theorem ZlC(h1:1<=k)(h2:k<=n):k ∣ fc n:=by
 induction n with
 |zero=>lia
 |succ n ih=>
  by_cases e:k=n+1
  .rw[e];exact Nat.dvd_mul_right (n+1) (fc n)
  .exact iO (ih ⋯) (Nat.dvd_mul_left (fc n) (n+1))
noncomputable def rs(hs:List Int):List Rat:=hs.map λ(t:Int)=>(t:Rat)
theorem ZlD:(rs hs).length=hs.length:=by simp[rs]
theorem ZkB(i:Int):cq (rs hs) i=(cn hs i:Rat):=by
 unfold cq cn rs;rw[au,aw,aw,bv];cases hs[(i%hs.length).toNat]?<;>simp
theorem Zc0:slp (ip m) r=((pd m r:Int):Rat):=by
 unfold slp ip pd;simp
theorem Zrj:Win ls (rs hs) (ip m)↔∀i:Nat,i<ls.length-> -(cn hs i)<=pd m (cy ls i):=by
 unfold Win;refine forall_congr' λi=>forall_congr' λ_=>?_;rw[ZkB,Zc0,<-bN];exact aH
structure Hb(ss ls:List Pt) (hs:List Int) (a b c d:Int) (q:Pt):Prop where
 bq:Bq ss
 nr:Nr 7 ss
 tn:Tn 14 a b c d
 q1:q.1.natAbs<=20
 q2:q.2.natAbs<=20
 of:∀i:Nat,i<ls.length->∃r∈ss,cy ls i=gg a b c d r
 at_:∀r∈ss,∃i:Nat,i<ls.length/\cy ls i=gg a b c d r/\cn hs i<=3*(r.1.natAbs+r.2.natAbs)+3+pd q (gg a b c d r)
theorem ZtU(t:Tn 14 a b c d)(hx:x=P1*(a:Rat)+P2*(c:Rat))(hy:y=P1*(b:Rat)+P2*(d:Rat))(x1: -33<=x)(x2:x<=33)(y1: -33<=y)(y2:y<=33):(-924<=P1/\P1<=924)/\ -924<=P2/\P2<=924:=by
 have key:∀(u v:Int),(-14<=u/\u<=14)->(-14<=v/\v<=14)-> -924<=(u:Rat)*x-(v:Rat)*y/\(u:Rat)*x-(v:Rat)*y<=924:=by
  intro u v hu hv;have u1:((-14:Int):Rat)<=(u:Rat):=aH.mpr hu.1;have u2:(u:Rat)<=((14:Int):Rat):=aH.mpr hu.2;have v1:((-14:Int):Rat)<=(v:Rat):=aH.mpr hv.1;have v2:(v:Rat)<=((14:Int):Rat):=aH.mpr hv.2;have c1:((-14:Int):Rat)= -14:=rfl;have c2:((14:Int):Rat)=14:=rfl;rw[c1]at u1 v1;rw[c2]at u2 v2;have m1:=cA (show 0<=(u:Rat)+14 by grind) (show 0<=x+33 by grind)
  have m2:=cA (show 0<=(u:Rat)+14 by grind) (show 0<=33-x by grind)
  have m3:=cA (show 0<=14-(u:Rat)by grind) (show 0<=x+33 by grind)
  have m4:=cA (show 0<=14-(u:Rat)by grind) (show 0<=33-x by grind)
  have n1:=cA (show 0<=(v:Rat)+14 by grind) (show 0<=y+33 by grind)
  have n2:=cA (show 0<=(v:Rat)+14 by grind) (show 0<=33-y by grind)
  have n3:=cA (show 0<=14-(v:Rat)by grind) (show 0<=y+33 by grind)
  have n4:=cA (show 0<=14-(v:Rat)by grind) (show 0<=33-y by grind)
  grind
 have k1:=key d c t.fd t.fc;have k2:=key (-b) (-a) (by have:=t.fb;lia) (by have:=t.fa;lia)
 have dc:(a:Rat)*(d:Rat)-(b:Rat)*(c:Rat)=1\/(a:Rat)*(d:Rat)-(b:Rat)*(c:Rat)= -1:=by
  rcases t.det with e|e
  .left
   rw[<-ay,<-ay,<-c8,e];rfl
  .right
   rw[<-ay,<-ay,<-c8,e];rfl
 have e1:(d:Rat)*x-(c:Rat)*y=P1*((a:Rat)*(d:Rat)-(b:Rat)*(c:Rat)):=by grind
 have e2:((-b:Int):Rat)*x-((-a:Int):Rat)*y=P2*((a:Rat)*(d:Rat)-(b:Rat)*(c:Rat)):=by
  rw[bN,bN];grind
 rw[e1]at k1;rw[e2]at k2;rcases dc with e|e<;>rw[e]at k1 k2<;>grind
theorem Hb.box0(h:Hb ss ls hs a b c d q)(w:Win ls (rs hs) p):let x:=(p.1+(q.1:Rat))*(a:Rat)+(p.2+(q.2:Rat))*(c:Rat);let y:=(p.1+(q.1:Rat))*(b:Rat)+(p.2+(q.2:Rat))*(d:Rat);(-33<=x/\x<=33)/\ -33<=y/\y<=33:=by
 intro x y;have key:∀r∈ss,-((3*(r.1.natAbs+r.2.natAbs)+3:Int):Rat)<=x*(r.1:Rat)+y*(r.2:Rat):=by
  intro r hr;obtain⟨i,hi,e,le⟩:=h.at_ r hr
  have:=w i hi
  rw[ZkB,e]at this;have le:=aH.mpr le;rw[bE]at le;have e1:slp p (gg a b c d r)+((pd q (gg a b c d r):Int):Rat)=x*(r.1:Rat)+y*(r.2:Rat):=by
   unfold slp pd gg;simp only[bE,ay];grind
  grind
 obtain⟨b1,b2,b3⟩:=h.bq;have k1:=key _ b1;have k2:=key _ b2;have n0:((0:Int):Rat)=0:=rfl;have n1:((1:Int):Rat)=1:=rfl;have nm:((-1:Int):Rat)= -1:=rfl;have n6:((3*(((1:Int).natAbs:Int)+((0:Int).natAbs:Int))+3:Int):Rat)=6:=rfl;have n6':((3*(((0:Int).natAbs:Int)+((1:Int).natAbs:Int))+3:Int):Rat)=6:=rfl;simp only[n0,n1,n6,n6']at k1 k2;rcases b3 with b3|⟨b3,k,k0,k3,b4⟩
 .have k4:=key _ b3;have n9:((3*(((-1:Int).natAbs:Int)+((-1:Int).natAbs:Int))+3:Int):Rat)=9:=rfl;simp only[nm,n9]at k4;grind
 .have k4:=key _ b3;have k5:=key _ b4;have n6:((3*(((0:Int).natAbs:Int)+((-1:Int).natAbs:Int))+3:Int):Rat)=6:=rfl;simp only[n0,nm,n6]at k4
  have:k=0\/k=1\/k=2\/k=3:=⋯
  rcases this with rfl|rfl|rfl|rfl
  .have z:((3*(((-1:Int).natAbs:Int)+((0:Int).natAbs:Int))+3:Int):Rat)=6:=rfl;simp only[n0,nm,z]at k5;grind
  .have z:((3*(((-1:Int).natAbs:Int)+((1:Int).natAbs:Int))+3:Int):Rat)=9:=rfl;simp only[n1,nm,z]at k5;grind
  .have z:((3*(((-1:Int).natAbs:Int)+((2:Int).natAbs:Int))+3:Int):Rat)=12:=rfl;have n2:((2:Int):Rat)=2:=rfl;simp only[n2,nm,z]at k5;grind
  .have z:((3*(((-1:Int).natAbs:Int)+((3:Int).natAbs:Int))+3:Int):Rat)=15:=rfl;have n3:((3:Int):Rat)=3:=rfl;simp only[n3,nm,z]at k5;grind
theorem Hb.box(h:Hb ss ls hs a b c d q)(w:Win ls (rs hs) p):Bx 944 p:=by
 have k:=h.box0 w;obtain⟨⟨x1,x2⟩,y1,y2⟩:=k;have g:=ZtU h.tn rfl rfl x1 x2 y1 y2;have c1:∀z:Int,z.natAbs<=20-> -20<=(z:Rat)/\(z:Rat)<=20:=λz hz=>by
  have u1:((-20:Int):Rat)<=(z:Rat):=aH.mpr ⋯
  have u2:(z:Rat)<=((20:Int):Rat):=aH.mpr ⋯
  have c1:((-20:Int):Rat)= -20:=rfl;have c2:((20:Int):Rat)=20:=rfl;rw[c1]at u1;rw[c2]at u2;exact⟨u1,u2⟩
 have z1:=c1 _ h.q1;have z2:=c1 _ h.q2;have e:((944:Nat):Rat)=944:=rfl;unfold Bx;rw[e];grind
theorem ZlE{D z:Int}(hD:D≠0)(e:x*(D:Rat)=(z:Rat)):x.den ∣ D.natAbs:=by
 have d0:((x.den:Int):Rat)≠0:=λh=>x.den_nz (by have:=ja.mp (h.trans (show(0:Rat)=((0:Int):Rat)from rfl));lia)
 have en:(x.num:Rat)=x*((x.den:Int):Rat):=by rw[aG];exact BD.ZcD _
 have e2:x.num*D=z*x.den:=by
  apply ja.mp;rw[ay,ay,en];grind
 have e3:x.num.natAbs*D.natAbs=z.natAbs*x.den:=by
  have:=congrArg Int.natAbs e2
  simpa [aR]using this
 exact(Nat.Coprime.symm x.reduced).dvd_of_dvd_mul_left ⟨z.natAbs,by rw[e3,Nat.mul_comm]⟩
theorem Hb.dens(h:Hb ss ls hs a b c d q)(w:Cor ls (rs hs) p):∃t:Nat,(1<=t/\t<=98)/\p.1.den ∣ t/\p.2.den ∣ t:=by
 obtain⟨_,i,j,⟨hi,oi⟩,⟨hj,oj⟩,ne⟩:=w;obtain⟨r1,m1,e1⟩:=h.of i hi;obtain⟨r2,m2,e2⟩:=h.of j hj;rw[ZkB]at oi oj;have x0:X (cy ls i) (cy ls j)=(a*d-b*c)*X r1 r2:=by rw[e1,e2,CD.ZrA]
 have b1:=h.nr r1 m1;have b2:=h.nr r2 m2;have xb:(X (cy ls i) (cy ls j)).natAbs<=98:=by
  have s1:=Z2 (a:=r1.1) (b:=r2.2) (x:=7) (y:=7) (by omega) (by omega)
  have s2:=Z2 (a:=r1.2) (b:=r2.1) (x:=7) (y:=7) (by omega) (by omega)
  have:(X r1 r2).natAbs<=98:=by unfold X;omega
  rcases h.tn.det with z|z<;>rw[z]at x0<;>omega
 have k1:p.1*((X (cy ls i) (cy ls j):Int):Rat)=((-(cn hs i)*(cy ls j).2+cn hs j*(cy ls i).2:Int):Rat):=by
  rw[ZaH];unfold slp at oi oj;simp only[bE,ay,bN];grind
 have k2:p.2*((X (cy ls i) (cy ls j):Int):Rat)=((cn hs i*(cy ls j).1-cn hs j*(cy ls i).1:Int):Rat):=by
  rw[ZaH];unfold slp at oi oj;simp only[c8,ay];grind
 exact⟨(X (cy ls i) (cy ls j)).natAbs,⟨Int.natAbs_pos.mpr ne,xb⟩,ZlE ne k1,ZlE ne k2⟩
theorem ZtV:∀{a b:List Pt},a.Nodup->(∀m∈a,m∈b)->a.length<=b.length:=by
 intro a
 induction a with
 |nil=>intro b _ _;simp
 |cons x a ih=>
  intro b nd h;rw[eY]at nd;have hx:=h x (by simp)
  have:=ih (b:=b.erase x) nd.2 λm hm=>(List.mem_erase_of_ne (λ(z:m=x)=>nd.1 (by rw[<-z];exact hm))).mpr (h m (aI _ hm))
  rw[List.length_erase_of_mem hx]at this
  have:=List.length_pos_of_mem hx
  simp only[bD];lia
noncomputable def grd:List Pt:=(aJ 67).flatMap λ(x:Nat)=>(aJ 67).map λ(y:Nat)=>((x:Int)-33,(y:Int)-33)
theorem ZnD(h1: -33<=x/\x<=33)(h2: -33<=y/\y<=33):(x,y)∈grd:=by
 unfold grd;rw[kE];refine⟨(x+33).toNat,bZ.mpr ⋯,aX.mpr ⟨(y+33).toNat,bZ.mpr ⋯,?_⟩⟩
 refine eO ?_ ?_
 .show((x+33).toNat:Int)-33=x;lia
 .show((y+33).toNat:Int)-33=y;lia
theorem ZnE:grd.length=4489:=by decide +kernel
theorem Hb.few(h:Hb ss ls hs a b c d q)(nd:ds.Nodup)(w:∀m∈ds,Win ls (rs hs) (ip m)):ds.length<1000000:=by
 have le:=ZtV (a:=ds.map λm=>((m.1+q.1)*a+(m.2+q.2)*c,(m.1+q.1)*b+(m.2+q.2)*d)) (b:=grd) ?_ ?_
 .rw[au,ZnE]at le;lia
 .refine dX.mpr (j0 (λ{m m'} ne e=>ne ?_) nd);have e1:=congrArg mW e;have e2:=congrArg Prod.snd e;simp only at e1 e2;have k1:(m.1-m'.1)*(a*d-b*c)=0:=by grind
  have k2:(m.2-m'.2)*(a*d-b*c)=0:=by grind
  rcases h.tn.det with z|z<;>rw[z]at k1 k2<;>exact eO ⋯ ⋯
 .intro x hx;obtain⟨m,hm,rfl⟩:=aX.mp hx;have k:=h.box0 (w m hm);obtain⟨⟨x1,x2⟩,y1,y2⟩:=k;have cst:∀z:Int,-33<=(z:Rat)->(z:Rat)<=33-> -33<=z/\z<=33:=λz h1 h2=>⟨aH.mp (show((-33:Int):Rat)<=_ from h1),aH.mp (show _<=((33:Int):Rat)from h2)⟩;have ex:∀u v:Int,(((m.1+q.1)*u+(m.2+q.2)*v:Int):Rat)=((ip m).1+(q.1:Rat))*(u:Rat)+((ip m).2+(q.2:Rat))*(v:Rat):=λu v=>by
   unfold ip;simp only[bE,ay]
  exact ZnD (cst _ (by rw[ex];exact x1) (by rw[ex];exact x2)) (cst _ (by rw[ex];exact y1) (by rw[ex];exact y2))
end
end DA
namespace K50
open CR (ZbJ F_is_whole Zae Zay F_greatest_divisor ZeZ F_ratio Ze0 F_times)
open CC (ZaF F_crossed ZaO F_following Zaa ZaP F_unspanned Zax F_ask_smooth)
open DT (ZcF F_product Zfc F_width ZbO F_lessened Zau Za8 F_least_wide Zak ZbP F_two_ways ZY ZaU F_dots_across ZcG Zi3 F_dots)
open CS (Ze2 F_minus Za6 F_ask_height Zaq F_slope_through)
open CD (ZiD F_less Zar F_law_short_put ZaQ ZbK F_law_base ZaA Zbn F_law_table ZbL F_law_spun ZbM F_law_hull)
open BD (Z3 Zat F_common_bottom Zbo F_stretched ZcA ZiN F_edge ZbN F_in_order ZcB ZcC ZiO F_body)
open CB (Zbm F_law_purse ZbI F_law_take)
open CO (Zas Za7 F_law_points)
open L2 DL
structure Txt(K:Fg) (mg:Str->Option aa):Prop extends Bs mg where
 gl:∀c v,PySem.W.nsIn K aO c=some (some v)->mg c=some v
 d:Dfs K top tab
 ex_NotSmooth:ZnN K "NotSmooth"=true
 ex_NoRatio:ZnN K "NoRatio"=true
 ex_NoHeight:ZnN K "NoHeight"=true
 lm_m:ZmT K=true
 lb_in_order:Zrx K "in_order"=true
 lb_dots:Zrx K "dots"=true
section
variable {P:cD}{w:da}{K:Fg}{mg:Str->Option aa}{base:Heap}
def Zc2:Sv:=(Zal (Zj F_dots (Zc (Zj bList (Zc (Zf 0) aNil)) (Zc (Zaj (iSq (Zf 1)) 1 [] (gNm 0) (λ_ M=>.ok true M) (Z7 (Zc (Zf 0) (Zc (eC (.int 1)) aNil)))) aNil))))
def F_law_told:W3:=fnF Zc2 2 0
def Zdv:Sv:=(ZI (ZM (gNm 2) (Zj F_law_purse (Zc (Zf 0) (Zc (Zf 1) aNil)))) (ZI (ZM (gNm 3) (Zj F_law_base (Zc (Zf 2) (Zc (eC (.int 14)) aNil)))) (ZI (ZM (gNm 4) (Zj F_law_hull (Zc (Zf 3) (Zc (Zj F_law_points (Zc (Zf 2) (Zc (eC (.int 5)) aNil))) aNil)))) (ZI (ZM (gTp (gCs (gNm 5) (gCs (gNm 6) gNl))) (Zj F_law_spun (Zc (Zj F_law_table (Zc (Zf 2) aNil)) (Zc (Zf 3) (Zc (Zf 4) (Zc (Zj F_law_take (Zc (Zf 2) (Zc (Zj bLen (Zc (Zf 3) aNil)) aNil))) aNil)))))) (ZI (ZM (gNm 7) (Zj F_law_take (Zc (Zf 2) (Zc (Zj bLen (Zc (Zf 5) aNil)) aNil)))) (ZI (ZkR (Zf 6) (Zf 7) (e2 dSub (e2 dAdd (e2 dIx (Zf 6) (Zf 7)) (Zj F_law_take (Zc (Zf 2) (Zc (eC (.int 4)) aNil)))) (eC (.int 1)))) (ZI (ZM (gNm 8) (Zj F_law_told (Zc (Zf 5) (Zc (Zf 6) aNil)))) (ZI (ZM (gNm 9) (Z7 (Zc (e2 dSub (Zj F_law_take (Zc (Zf 2) (Zc (eC (.int 41)) aNil))) (eC (.int 20))) (Zc (e2 dSub (Zj F_law_take (Zc (Zf 2) (Zc (eC (.int 41)) aNil))) (eC (.int 20))) aNil)))) (ZI (ZM (gNm 10) (Zaj (iZp (Zc (Zf 6) (Zc (Zf 5) aNil))) 3 [9] (gTp (gCs (gNm 0) (gCs (gTp (gCs (gNm 1) (gCs (gNm 2) gNl))) gNl))) (λ_ M=>.ok true M) (e2 dAdd (e2 dAdd (Zf 0) (e2 dMul (e2 dIx (Zf 3) (eC (.int 0))) (Zf 1))) (e2 dMul (e2 dIx (Zf 3) (eC (.int 1))) (Zf 2))))) (ZI (sIf (tv (e2 dNe (Zj F_law_told (Zc (Zf 5) (Zc (Zf 10) aNil))) (Zaj (iSq (Zf 8)) 2 [9] (gTp (gCs (gNm 0) (gCs (gNm 1) gNl))) (λ_ M=>.ok true M) (Z7 (Zc (e2 dSub (Zf 0) (e2 dIx (Zf 2) (eC (.int 0)))) (Zc (e2 dSub (Zf 1) (e2 dIx (Zf 2) (eC (.int 1)))) aNil)))))) (Zal (eC (.bl false))) sNil) (ZI (ZM (gNm 11) (e2 dAdd (e2 dAdd (eSl (Zf 6) oNo (oSo (Zf 7))) (ZbS (Zc (e2 dAdd (e2 dIx (Zf 6) (Zf 7)) (eC (.int 1))) aNil))) (eSl (Zf 6) (oSo (e2 dAdd (Zf 7) (eC (.int 1)))) oNo))) (ZI (ZM (gNm 12) (Zj F_law_told (Zc (Zf 5) (Zc (Zf 11) aNil)))) (sIf (Zg9 (ZdK (tv (Zj bAll (Zc (Zaj (iSq (Zf 8)) 1 [12] (gNm 0) (λ_ M=>.ok true M) (e2 dInE (Zf 0) (Zf 1))) aNil)))) (tv (e2 dNe (Zaj (iSq (Zf 12)) 1 [8] (gNm 0) (tv (e2 dInE (Zf 0) (Zf 1))) (Zf 0)) (Zf 8)))) (Zal (eC (.bl false))) sNil)))))))))))))
def Zrk:Sv:=(ZI (Zbu (gNm 1) (Zc (Zj bMax (Zc (eC (.int 1)) (Zc (Zj bMin (Zc (eC (.int 2)) (Zc (Zj bLen (Zc (Zf 0) aNil)) aNil))) aNil))) aNil) Zdv) (Zal (eC (.bl true))))
def Zfe:W3:=fnF Zrk 1 12
variable (T:Txt K mg)
include T
theorem C1:Cal P w K mg base "is_whole" 1 1 F_is_whole:=ZZ (N:=["thing"]) (T.d.at 0 6) T.gl λ_ _ _ _ _ _ _ nd hr θ=>(Zi (Zz (ZoD (ZkO Zmd T.b_isinstance T.b_int ZdX (Zb 0)) (ZoC (ZoE (ZkO ZjC T.b_isinstance T.b_bool Zmf (Zb 0)))))))
theorem C2:Cal P w K mg base "greatest_divisor" 101 2 F_greatest_divisor:=ZZ (N:=["one","other","high","low"]) (T.d.at 1 7) T.gl λ_ _ _ _ _ _ _ nd hr θ=>(Zg (ZcO 2 3 (Zv hr (by decide)) nd (Za (Zw Zbq ZdN T.b_abs ZdW (Za (Zb 0) Ze)) (Za (Zw Zbq ZdN T.b_abs ZdW (Za (Zb 1) Ze)) Ze)))
  (Zg (Zc7 θ.own (ZE (ZdM hr.units) Zhg (Zb 3) Zd) (Zi (ZcO 2 3 (Zv hr (by decide)) nd (Za (Zb 3) (Za (Zbt (Zb 2) (Zb 3)) Ze)))))
  (Zi (Zz (Zb 2)))))
theorem C3:Cal P w K mg base "crossed" 1 2 F_crossed:=ZZ (N:=["one","other"]) (T.d.at 2 9) T.gl λ_ _ _ _ _ _ _ nd hr θ=>(Zi (Zz (ZW (Zu (Zl (Zb 0) Zd) (Zl (Zb 1) Zd)) (Zu (Zl (Zb 0) Zd) (Zl (Zb 1) Zd)))))
theorem C4:Cal P w K mg base "product" 1 2 F_product:=ZZ (N:=["one","other"]) (T.d.at 3 10) T.gl λ_ _ _ _ _ _ _ nd hr θ=>(Zi (Zz (ZF (Zu (Zl (Zb 0) Zd) (Zl (Zb 1) Zd)) (Zu (Zl (Zb 0) Zd) (Zl (Zb 1) Zd)))))
theorem C5:Cal P w K mg base "following" 1 2 F_following:=ZZ (N:=["things","at"]) (T.d.at 4 12) T.gl λ_ _ _ _ _ _ _ nd hr θ=>(Zi (Zz (Zl (Zb 0) (Zbt (ZF (Zb 1) Zd) (Zw Zy ZaE T.b_len PySem.boot_len (Za (Zb 0) Ze))))))
theorem C6:Cal P w K mg base "unspanned" 101 1 F_unspanned:=ZZ (N:=["rays","at","ray"]) (T.d.at 5 13) T.gl λ_ _ _ _ _ _ _ nd hr θ=>(Zg (ZeF θ.own (Zmp (hr.hd (by decide)) T.b_enumerate (Za (Zb 0) Ze)) (Z0 (Zv hr (by decide)) (Zn (Zk 1 nd) (Zn (Zk 2 nd) ZK)) (hlen:=(Zs (Zs (λ_ _ _ h=>ZL h))))) (Zi (Zah (ZE (ZdM hr.units) Zhg (Zh (C3 T) θ hr (Za (Zb 2) (Za (Zh (C5 T) θ hr (Za (Zb 0) (Za (Zb 1) Ze))) Ze))) Zd) (Zi (Zz (Zb 1))) ZJ)))
  (Zi (Zz ZbR)))
theorem C7:Cal P w K mg base "ask_smooth" 102 1 F_ask_smooth:=ZZ (N:=["rays","at"]) (T.d.at 6 14) T.gl λ_ _ _ _ _ _ _ nd hr θ=>(Zg (Zr 1 nd (Zh (C6 T) θ hr (Za (Zb 0) Ze))) (Zi (Zah (ZE Zhi ZjB (Zb 1) ZbR) (Zi (Zb6 θ T.ex_NotSmooth T.gl (hr.hd (by decide)) (Za (Zo9 (Za2 Zce (Za2 (Zms (Zb 1)) (Za2 Zce Zk2)))) Ze))) ZJ)))
theorem C8:Cal P w K mg base "ratio" 102 2 F_ratio:=ZZ (N:=["top","bottom","part"]) (T.d.at 7 16) T.gl λ_ _ _ _ _ _ _ nd hr θ=>(Zg (Zah (ZgB (Zgk (Zha (ZcL (Zh (C1 T) θ hr (Za (Zb 0) Ze)))) (ZcM (Zha (ZcL (Zh (C1 T) θ hr (Za (Zb 1) Ze))))))) (Zi (Zb6 θ T.ex_NoRatio T.gl (hr.hd (by decide)) (Za Zce Ze))) ZJ)
  (Zg (Zah (ZE (Zci hr.units) Zey (Zb 1) Zd) (Zi (Zb6 θ T.ex_NoRatio T.gl (hr.hd (by decide)) (Za Zce Ze))) ZJ)
  (Zg (Zr 2 nd (Zh (C2 T) θ hr (Za (Zb 0) (Za (Zb 1) Ze)))) (Zg (Zah (ZE Zcb Zcg (Zb 1) Zd) (Zi (Zr 2 nd (Zab (Zb 2)))) ZJ) (Zi (Zz (ZA (Za (Zav (Zb 0) (Zb 2)) (Za (Zav (Zb 1) (Zb 2)) Ze)))))))))
theorem C9:Cal P w K mg base "minus" 103 2 F_minus:=ZZ (N:=["one","other"]) (T.d.at 8 17) T.gl λ_ _ _ _ _ _ _ nd hr θ=>(Zi (Zz (Zh (C8 T) θ hr (Za (ZW (Zu (Zl (Zb 0) Zd) (Zl (Zb 1) Zd)) (Zu (Zl (Zb 1) Zd) (Zl (Zb 0) Zd))) (Za (Zu (Zl (Zb 0) Zd) (Zl (Zb 1) Zd)) Ze)))))
theorem C10:Cal P w K mg base "times" 103 2 F_times:=ZZ (N:=["one","other"]) (T.d.at 9 18) T.gl λ_ _ _ _ _ _ _ nd hr θ=>(Zi (Zz (Zh (C8 T) θ hr (Za (Zu (Zl (Zb 0) Zd) (Zl (Zb 1) Zd)) (Za (Zu (Zl (Zb 0) Zd) (Zl (Zb 1) Zd)) Ze)))))
theorem C11:Cal P w K mg base "less" 1 2 F_less:=ZZ (N:=["one","other"]) (T.d.at 10 19) T.gl λ_ _ _ _ _ _ _ nd hr θ=>(Zi (Zz (ZcK Zcb Zcg (Zu (Zl (Zb 0) Zd) (Zl (Zb 1) Zd)) (Zu (Zl (Zb 1) Zd) (Zl (Zb 0) Zd)))))
theorem C12:Cal P w K mg base "common_bottom" 102 1 F_common_bottom:=ZZ (N:=["ones","bottom","one"]) (T.d.at 11 20) T.gl λ_ _ _ _ _ _ _ nd hr θ=>(Zg (Zr 1 nd Zd) (Zg (ZkV θ.own (Zb 0) (Zk 2 nd) (Zi (Zr 1 nd (Zu (Zb 1) (Zav (Zl (Zb 2) Zd) (Zh (C2 T) θ hr (Za (Zb 1) (Za (Zl (Zb 2) Zd) Ze)))))))) (Zi (Zz (Zb 1)))))
theorem C13:Cal P w K mg base "stretched" 1 2 F_stretched:=ZZ (N:=["one","bottom"]) (T.d.at 12 21) T.gl λ_ _ _ _ _ _ _ nd hr θ=>(Zi (Zz (Zu (Zl (Zb 0) Zd) (Zav (Zb 1) (Zl (Zb 0) Zd)))))
theorem C14:Cal P w K mg base "ask_height" 101 2 F_ask_height:=ZZ (N:=["rays","height"]) (T.d.at 13 23) T.gl λ_ _ _ _ _ _ _ nd hr θ=>(Zi (Zah (ZE (ZdM hr.units) Zhg (Zw Zy ZaE T.b_len PySem.boot_len (Za (Zb 1) Ze)) (Zw Zy ZaE T.b_len PySem.boot_len (Za (Zb 0) Ze))) (Zi (Zb6 θ T.ex_NoHeight T.gl (hr.hd (by decide)) (Za (Zo9 (Za2 Zce (Za2 (Zms (Zw Zy ZaE T.b_len PySem.boot_len (Za (Zb 0) Ze))) (Za2 Zce (Za2 (Zms (Zw Zy ZaE T.b_len PySem.boot_len (Za (Zb 1) Ze))) (Za2 Zce Zk2)))))) Ze))) ZJ))
theorem C15:Cal P w K mg base "slope_through" 104 2 F_slope_through:=ZZ (N:=["rays","height","a","b","c","d","first","second"]) (T.d.at 14 24) T.gl λ_ _ _ _ _ _ _ nd hr θ=>(Zg (ZdS (ZA (Za (Zl (Zb 0) Zd) (Za (Zl (Zb 0) Zd) Ze))) (Z0 (Zv hr (by decide)) (Zn (Z0 (Zv hr (by decide)) (Zn (Zk 2 nd) (Zn (Zk 3 nd) ZK)) (hlen:=(Zs (Zs (λ_ _ _ h=>ZL h))))) (Zn (Z0 (Zv hr (by decide)) (Zn (Zk 4 nd) (Zn (Zk 5 nd) ZK)) (hlen:=(Zs (Zs (λ_ _ _ h=>ZL h))))) ZK)) (hlen:=(Zs (Zs (λ_ _ _ h=>ZL h))))))
  (Zg (ZcO 6 7 (Zv hr (by decide)) nd (Za (Zl (Zb 1) Zd) (Za (Zl (Zb 1) Zd) Ze)))
  (Zi (Zz (ZA (Za (Zh (C9 T) θ hr (Za (Zh (C10 T) θ hr (Za (Zb 6) (Za (ZA (Za (Zb 5) (Za Zd Ze))) Ze))) (Za (Zh (C10 T) θ hr (Za (Zb 7) (Za (ZA (Za (Zb 3) (Za Zd Ze))) Ze))) Ze))) (Za (Zh (C9 T) θ hr (Za (Zh (C10 T) θ hr (Za (Zb 7) (Za (ZA (Za (Zb 2) (Za Zd Ze))) Ze))) (Za (Zh (C10 T) θ hr (Za (Zb 6) (Za (ZA (Za (Zb 4) (Za Zd Ze))) Ze))) Ze))) Ze)))))))
theorem C16:Cal P w K mg base "edge" 105 3 F_edge:=ZZ (N:=["rays","height","at","ray","behind","own","low","high","other","its","across","asked","bottom"]) (T.d.at 15 26) T.gl λ_ _ _ _ _ _ _ nd hr θ=>(Zg (ZdS (ZA (Za (Zl (Zb 0) (Zb 2)) (Za (Zh (C5 T) θ hr (Za (Zb 0) (Za (Zb 2) Ze))) Ze))) (Z0 (Zv hr (by decide)) (Zn (Zk 3 nd) (Zn (Zk 4 nd) ZK)) (hlen:=(Zs (Zs (λ_ _ _ h=>ZL h))))))
  (Zg (Zr 5 nd (Zl (Zb 1) (Zb 2))) (Zg (ZhS ZbR (Zk 6 nd) (Zk 7 nd)) (Zg (ZeF θ.own (ZfH (hr.hd (by decide)) T.b_zip (Za (Zb 0) (Za (Zb 1) Ze))) (Z0 (Zv hr (by decide)) (Zn (Zk 8 nd) (Zn (Zk 9 nd) ZK)) (hlen:=(Zs (Zs (λ_ _ _ h=>ZL h))))) (Zg (Zr 10 nd (Zh (C3 T) θ hr (Za (Zb 3) (Za (Zb 8) Ze))))
  (Zg (Zr 11 nd (ZW (Zu (Zu (Zh (C3 T) θ hr (Za (Zb 8) (Za (Zb 4) Ze))) (Zl (Zb 5) Zd)) (Zl (Zb 9) Zd)) (Zu (Zl (Zb 9) Zd) (Zl (Zb 5) Zd)))) (Zg (Zr 12 nd (Zu (Zu (Zb 10) (Zl (Zb 5) Zd)) (Zl (Zb 9) Zd))) (Zg (Zah (ZgB (ZcN (ZE (Zci hr.units) Zey (Zb 10) Zd) (ZbD (ZE Zdy ZdL (Zb 11) Zd)))) (Zi (Zz (ZX Ze))) ZJ) (Zg (Zah (ZgB (ZcN (ZE Zdy ZdL (Zb 10) Zd) (ZbD (ZgB (Zgk (ZE Zfv ZjA (Zb 6) ZbR) (ZcM (ZcL (Zh (C11 T) θ hr (Za (Zb 6) (Za (ZA (Za (Zb 11) (Za (Zb 12) Ze))) Ze)))))))))) (Zi (Zr 6 nd (ZA (Za (Zb 11) (Za (Zb 12) Ze))))) ZJ) (Zi (Zah (ZgB (ZcN (ZE Zcb Zcg (Zb 10) Zd) (ZbD (ZgB (Zgk (ZE Zfv ZjA (Zb 7) ZbR) (ZcM (ZcL (Zh (C11 T) θ hr (Za (ZA (Za (Zab (Zb 11)) (Za (Zab (Zb 12)) Ze))) (Za (Zb 7) Ze)))))))))) (Zi (Zr 7 nd (ZA (Za (Zab (Zb 11)) (Za (Zab (Zb 12)) Ze))))) ZJ))))))))
  (Zg (Zah (ZcL (Zh (C11 T) θ hr (Za (Zb 7) (Za (Zb 6) Ze)))) (Zi (Zz (ZX Ze))) ZJ) (Zi (Zz (Zai (Zda ["rays","height","at","ray","behind","own","low","high","other","its","across","asked","bottom"] ["end","ray","behind","own"] (dS 26) 1 [3,4,5]) (Z4 (ZA (Za (Zb 6) (Za (Zb 7) Ze)))) λ_ _ _ _ _=>⟨(Zk 0 (show a9 (["end","ray","behind","own"]:List Str)by decide +kernel)),(dM ⟨rfl,rfl⟩),(Zh (C15 T) ZbE hr (Za (ZX (Za (Zb 1) (Za (Zb 2) Ze))) (Za (ZX (Za (ZA (Za (Zab (Zl (Zb 3) Zd)) (Za (Zl (Zb 3) Zd) Ze))) (Za (Zh (C8 T) ZbE hr (Za (Zl (Zb 0) Zd) (Za (Zl (Zb 0) Zd) Ze))) Ze))) Ze)))⟩))))))))
theorem C17:Cal P w K mg base "in_order" 106 1 F_in_order:=Zk8 (N:=["points","bottom"]) (T.d.at 16 27) T.lb_in_order T.gl λ_ _ _ _ _ _ _ hc nd hr θ=>(Zg (Zr 1 nd (Zh (C12 T) θ hr (Za (ZfK (Zda ["points","bottom"] ["point","part"] (dS 27) 2 []) (Z4 (Zb 0)) λ_ _ _ _ _=>⟨(Zk 0 (show a9 (["point","part"]:List Str)by decide +kernel)),(dM ⟨rfl,rfl⟩),(Z4 (Zb 0)),(Zk 1 (show a9 (["point","part"]:List Str)by decide +kernel)),(dM ⟨rfl,rfl⟩),(Zb 1)⟩) Ze)))
  (Zi (Zz (ZfO (k:=102) (ZfQ T.lm_m) hc (hr.mono (by decide)) (Zue (x:="point") ["points","bottom"] ["point","bottom"] (dS 27) [1]) T.b_sorted (Za (Zb 0) Ze) (λ_ _ _ _ _ hr=>(ZA (Za (Zh (C13 T) Zid hr (Za (Zl (Zb 0) Zd) (Za (Zb 1) Ze))) (Za (Zh (C13 T) Zid hr (Za (Zl (Zb 0) Zd) (Za (Zb 1) Ze))) Ze))))))))
theorem C18:Cal P w K mg base "body" 107 2 F_body:=ZZ (N:=["rays","height","met","at","point"]) (T.d.at 17 28) T.gl λ_ _ _ _ _ _ _ nd hr θ=>(Zg (Zc6 (Zh (C7 T) θ hr (Za (Zb 0) Ze))) (Zg (Zc6 (Zh (C14 T) θ hr (Za (Zb 0) (Za (Zb 1) Ze)))) (Zg (Zr 2 nd Zpc) (Zg (Zbv θ.own T.b_range (Za (Zw Zy ZaE T.b_len PySem.boot_len (Za (Zb 0) Ze)) Ze) (Zk 3 nd) (Zi (ZkV θ.own (Zh (C16 T) θ hr (Za (Zb 0) (Za (Zb 1) (Za (Zb 3) Ze)))) (Zk 4 nd) (Zi (Zmy hr.units (Zb 2) (Zb 4) Zjx))))) (Zi (Zz (Zh (C17 T) θ hr (Za (ZaD (Zgy (hr.hd (by decide))) Zmz T.b_list ZeB (Za (Zb 2) Ze)) Ze))))))))
theorem C19:Cal P w K mg base "width" 101 2 F_width:=ZZ (N:=["points","ray","given"]) (T.d.at 18 30) T.gl λ_ _ _ _ _ _ _ nd hr θ=>(Zg (Zcm 2 nd (Zda ["points","ray","given"] ["point","ray"] (dS 30) 1 [1]) (Z4 (Zb 0)) λ_ _ _ _ _=>⟨(Zk 0 (show a9 (["point","ray"]:List Str)by decide +kernel)),(dM ⟨rfl,rfl⟩),(Zh (C4 T) ZbE hr (Za (Zb 0) (Za (Zb 1) Ze)))⟩)
  (Zi (Zz (ZW (Zw (Za1 (Zv hr (by decide))) Zcl T.b_max Zcj (Za (Zb 2) Ze)) (Zw (Zd3 (Zv hr (by decide))) ZhE T.b_min Zho (Za (Zb 2) Ze))))))
theorem C20:Cal P w K mg base "lessened" 1 3 F_lessened:=ZZ (N:=["wide","many","narrow"]) (T.d.at 19 31) T.gl λ_ _ _ _ _ _ _ nd hr θ=>(Zi (Zz (ZA (Za (ZW (Zl (Zb 0) Zd) (Zu (Zb 1) (Zl (Zb 2) Zd))) (Za (ZW (Zl (Zb 0) Zd) (Zu (Zb 1) (Zl (Zb 2) Zd))) Ze)))))
theorem C21:Cal P w K mg base "least_wide" 102 3 F_least_wide:=ZZ (N:=["points","wide","narrow","high","low","middle","here","onward"]) (T.d.at 20 32) T.gl λ_ _ _ _ _ _ _ nd hr θ=>(Zg (Zr 3 nd (ZF (Zav (Zu Zd (Zh (C19 T) θ hr (Za (Zb 0) (Za (Zb 1) Ze)))) (Zh (C19 T) θ hr (Za (Zb 0) (Za (Zb 2) Ze)))) Zd)) (Zg (Zr 4 nd (Zab (Zb 3))) (Zg (Zc7 θ.own (ZE Zcb Zcg (Zb 4) (Zb 3)) (Zg (Zr 5 nd (Zav (ZF (Zb 4) (Zb 3)) Zd)) (Zg (ZcO 6 7 (Zv hr (by decide)) nd (Za (Zh (C20 T) θ hr (Za (Zb 1) (Za (Zb 5) (Za (Zb 2) Ze)))) (Za (Zh (C20 T) θ hr (Za (Zb 1) (Za (ZF (Zb 5) Zd) (Za (Zb 2) Ze)))) Ze)))
  (Zi (Zah (ZE ZrO ZrY (Zh (C19 T) θ hr (Za (Zb 0) (Za (Zb 6) Ze))) (Zh (C19 T) θ hr (Za (Zb 0) (Za (Zb 7) Ze)))) (Zi (Zr 3 nd (Zb 5))) (Zi (Zr 4 nd (ZF (Zb 5) Zd))))))))
  (Zi (Zz (Zh (C20 T) θ hr (Za (Zb 1) (Za (Zb 4) (Za (Zb 2) Ze)))))))))
theorem C22:Cal P w K mg base "two_ways" 103 1 F_two_ways:=ZZ (N:=["points","narrow","wide","sign"]) (T.d.at 21 33) T.gl λ_ _ _ _ _ _ _ nd hr θ=>(Zg (ZdS (ZA (Za (ZA (Za Zd (Za Zd Ze))) (Za (ZA (Za Zd (Za Zd Ze))) Ze))) (Z0 (Zv hr (by decide)) (Zn (Zk 1 nd) (Zn (Zk 2 nd) ZK)) (hlen:=(Zs (Zs (λ_ _ _ h=>ZL h))))))
  (Zg (Zah (ZE Zcb Zcg (Zh (C19 T) θ hr (Za (Zb 0) (Za (Zb 2) Ze))) (Zh (C19 T) θ hr (Za (Zb 0) (Za (Zb 1) Ze)))) (Zi (ZcO 1 2 (Zv hr (by decide)) nd (Za (Zb 2) (Za (Zb 1) Ze)))) ZJ)
  (Zg (Zc7 θ.own (ZE Zdy ZdL (Zh (C19 T) θ hr (Za (Zb 0) (Za (Zb 1) Ze))) Zd) (Zg (Zr 2 nd (Zh (C21 T) θ hr (Za (Zb 0) (Za (Zb 2) (Za (Zb 1) Ze))))) (Zg (Zah (ZE Zoj ZoL (Zh (C19 T) θ hr (Za (Zb 0) (Za (Zb 2) Ze))) (Zh (C19 T) θ hr (Za (Zb 0) (Za (Zb 1) Ze)))) (Zi ZoQ) ZJ) (Zi (ZcO 1 2 (Zv hr (by decide)) nd (Za (Zb 2) (Za (Zb 1) Ze)))))))
  (Zg (Zr 3 nd (Zh (C3 T) θ hr (Za (Zb 1) (Za (Zb 2) Ze)))) (Zi (Zz (ZA (Za (Zb 1) (Za (ZA (Za (Zu (Zb 3) (Zl (Zb 2) Zd)) (Za (Zu (Zb 3) (Zl (Zb 2) Zd)) Ze))) Ze)))))))))
theorem C23:Cal P w K mg base "dots_across" 101 4 F_dots_across:=ZZ (N:=["rays","height","ways","given","narrow","wide","low","high","ray","own","across","reach"]) (T.d.at 22 34) T.gl λ_ _ _ _ _ _ _ nd hr θ=>(Zg (ZdS (Zb 2) (Z0 (Zv hr (by decide)) (Zn (Zk 4 nd) (Zn (Zk 5 nd) ZK)) (hlen:=(Zs (Zs (λ_ _ _ h=>ZL h))))))
  (Zg (ZhS ZbR (Zk 6 nd) (Zk 7 nd)) (Zg (ZeF θ.own (ZfH (hr.hd (by decide)) T.b_zip (Za (Zb 0) (Za (Zb 1) Ze))) (Z0 (Zv hr (by decide)) (Zn (Zk 8 nd) (Zn (Zk 9 nd) ZK)) (hlen:=(Zs (Zs (λ_ _ _ h=>ZL h))))) (Zg (Zr 10 nd (Zu (Zh (C3 T) θ hr (Za (Zb 4) (Za (Zb 8) Ze))) (Zl (Zb 9) Zd)))
  (Zg (Zr 11 nd (ZF (Zl (Zb 9) Zd) (Zu (Zu (Zh (C3 T) θ hr (Za (Zb 8) (Za (Zb 5) Ze))) (Zb 3)) (Zl (Zb 9) Zd)))) (Zg (Zah (ZgB (ZcN (ZE Zdy ZdL (Zb 10) Zd) (ZbD (ZgB (Zgk (ZE Zfv ZjA (Zb 6) ZbR) (ZcM (ZE Zdy ZdL (Zab (Zav (Zb 11) (Zb 10))) (Zb 6)))))))) (Zi (Zr 6 nd (Zab (Zav (Zb 11) (Zb 10))))) ZJ) (Zi (Zah (ZgB (ZcN (ZE Zcb Zcg (Zb 10) Zd) (ZbD (ZgB (Zgk (ZE Zfv ZjA (Zb 7) ZbR) (ZcM (ZE Zcb Zcg (Zav (Zb 11) (Zab (Zb 10))) (Zb 7)))))))) (Zi (Zr 7 nd (Zav (Zb 11) (Zab (Zb 10))))) ZJ))))))
  (Zi (Zz (Zai (Zda ["rays","height","ways","given","narrow","wide","low","high","ray","own","across","reach"] ["other","given","narrow","wide"] (dS 34) 1 [3,4,5]) (Zhw T.b_range (Za (Zb 6) (Za (ZF (Zb 7) Zd) Ze))) λ_ _ _ _ _=>⟨(Zk 0 (show a9 (["other","given","narrow","wide"]:List Str)by decide +kernel)),(dM ⟨rfl,rfl⟩),(ZA (Za (ZW (Zu (Zb 1) (Zl (Zb 3) Zd)) (Zu (Zb 0) (Zl (Zb 2) Zd))) (Za (ZW (Zu (Zb 0) (Zl (Zb 2) Zd)) (Zu (Zb 1) (Zl (Zb 3) Zd))) Ze)))⟩))))))
theorem C24:Cal P w K mg base "dots" 111 2 F_dots:=Zk8 (N:=["rays","height","points","bottom","wholes","ways","given","found","row"]) (T.d.at 23 35) T.lb_dots T.gl λ_ _ _ _ _ _ _ hc nd hr θ=>(Zg (Zr 2 nd (Zh (C18 T) θ hr (Za (Zb 0) (Za (Zb 1) Ze)))) (Zg (Zr 3 nd (Zh (C12 T) θ hr (Za (ZfK (Zda ["rays","height","points","bottom","wholes","ways","given","found","row"] ["point","part"] (dS 35) 2 []) (Z4 (Zb 2)) λ_ _ _ _ _=>⟨(Zk 0 (show a9 (["point","part"]:List Str)by decide +kernel)),(dM ⟨rfl,rfl⟩),(Z4 (Zb 0)),(Zk 1 (show a9 (["point","part"]:List Str)by decide +kernel)),(dM ⟨rfl,rfl⟩),(Zb 1)⟩) Ze)))
  (Zg (Zcm 4 nd (Zda ["rays","height","points","bottom","wholes","ways","given","found","row"] ["x","y","bottom"] (dS 35) 2 [3]) (Z4 (Zb 2)) λ_ _ _ _ _=>⟨(Z0 (Zv hr (by decide)) (Zn (Zk 0 (show a9 (["x","y","bottom"]:List Str)by decide +kernel)) (Zn (Zk 1 (show a9 (["x","y","bottom"]:List Str)by decide +kernel)) ZK)) (hlen:=(Zs (Zs (λ_ _ _ h=>ZL h))))),(dM ⟨rfl,rfl⟩),(ZA (Za (Zh (C13 T) ZbE hr (Za (Zb 0) (Za (Zb 2) Ze))) (Za (Zh (C13 T) ZbE hr (Za (Zb 1) (Za (Zb 2) Ze))) Ze)))⟩)
  (Zg (Zah (ZE (Zci hr.units) Zey (Zb 4) (ZX Ze)) (Zi (Zz (ZX Ze))) ZJ) (Zg (Zr 5 nd (Zh (C22 T) θ hr (Za (Zb 4) Ze))) (Zg (Zcm 6 nd (Zda ["rays","height","points","bottom","wholes","ways","given","found","row"] ["point","ways"] (dS 35) 1 [5]) (Z4 (Zb 4)) λ_ _ _ _ _=>⟨(Zk 0 (show a9 (["point","ways"]:List Str)by decide +kernel)),(dM ⟨rfl,rfl⟩),(Zh (C4 T) ZbE hr (Za (Zb 0) (Za (Zl (Zb 1) Zd) Ze)))⟩)
  (Zg (Zr 7 nd (ZX Ze)) (Zg (ZjG θ.own T.b_range (Za (Zab (Zav (Zab (Zw (Zd3 (Zv hr (by decide))) ZhE T.b_min Zho (Za (Zb 6) Ze))) (Zb 3))) (Za (ZF (Zav (Zw (Za1 (Zv hr (by decide))) Zcl T.b_max Zcj (Za (Zb 6) Ze)) (Zb 3)) Zd) Ze)) (Zk 8 nd) (Zi (Zc6 (Zo0 PySem.F.slot_list_extend PySem.F.type_list_extend ZgZ Zo2 (Zb 7) (Za (Zh (C23 T) θ hr (Za (Zb 0) (Za (Zb 1) (Za (Zb 5) (Za (Zb 8) Ze))))) Ze)))))
  (Zi (Zz (ZfO (k:=107) (ZfQ T.lm_m) hc (hr.mono (by decide)) (Zue (x:="dot") ["rays","height","points","bottom","wholes","ways","given","found","row"] ["dot"] (dS 35) []) T.b_sorted (Za (Zb 7) Ze) (λ_ _ _ _ _ hr=>(ZA (Za (Zl (Zb 0) Zd) (Za (Zl (Zb 0) Zd) Ze)))))))))))))))
theorem C25:Cal P w K mg base "_law_purse" 1 2 F_law_purse:=ZZ (N:=["_law_script","_law_k","_law_cell","_law_large"]) (T.d.at 24 37) T.gl λ_ _ _ _ _ _ _ nd hr θ=>(Zg (Zr 2 nd Zd) (Zg (Zah (ZE Zcb Zcg (Zb 1) (Zw Zy ZaE T.b_len PySem.boot_len (Za (Zb 0) Ze))) (Zi (Zr 2 nd (Zl (Zb 0) (Zb 1)))) ZJ) (Zg (Zr 3 nd (Zbt (Zb 2) (Zu (Zhd Zd Zd) (Zhd Zd Zd)))) (Zi (Zz (ZX (Za (Zu (Zb 3) (ZaD Zbr Zfw T.b_int ZdX (Za (ZcK Zoj ZoL (Zb 3) (Zhd Zd Zd)) Ze))) (Za (ZF (ZF (Zbt (Zb 2) Zd) (Zu Zd (Zb 1))) Zd) Ze))))))))
theorem C26:Cal P w K mg base "_law_take" 1 2 F_law_take:=ZZ (N:=["_law_purse_here","_law_many","_law_digit"]) (T.d.at 25 38) T.gl λ_ _ _ _ _ _ _ nd hr θ=>(Zg (Zah (ZE Zdy ZdL (Zl (Zb 0) Zd) Zd) (Zg (Zr 2 nd (Zbt (Zl (Zb 0) Zd) (Zb 1))) (Zg (Zhl (Zb 0) Zd (Zav (Zl (Zb 0) Zd) (Zb 1))) (Zi (Zz (Zb 2))))) ZJ) (Zg (Zhl (Zb 0) Zd (Zbt (ZF (Zu (Zl (Zb 0) Zd) Zd) Zd) Zd)) (Zi (Zz (Zbt (Zav (Zbt (Zu (Zl (Zb 0) Zd) Zd) Zd) Zd) (Zb 1))))))
theorem C27:Cal P w K mg base "_law_short_put" 1 2 F_law_short_put:=ZZ (N:=["_law_rays","_law_at","_law_after"]) (T.d.at 26 39) T.gl λ_ _ _ _ _ _ _ nd hr θ=>(Zg (Zr 2 nd (Zl (Zb 0) (Zbt (ZF (Zb 1) Zd) (Zw Zy ZaE T.b_len PySem.boot_len (Za (Zb 0) Ze))))) (Zi (Zz (ZF (ZF (Zgq (Zb 0) Zgo (Zgp (ZF (Zb 1) Zd))) (ZX (Za (ZA (Za (ZF (Zl (Zl (Zb 0) (Zb 1)) Zd) (Zl (Zb 2) Zd)) (Za (ZF (Zl (Zl (Zb 0) (Zb 1)) Zd) (Zl (Zb 2) Zd)) Ze))) Ze))) (Zgq (Zb 0) (Zgp (ZF (Zb 1) Zd)) Zgo)))))
theorem C28:Cal P w K mg base "_law_base" 101 2 F_law_base:=ZZ (N:=["_law_purse_here","_law_most","_law_lean","_law_rays","_law_many","_law_turn","_law_longer"]) (T.d.at 27 40) T.gl λ_ _ _ _ _ _ _ nd hr θ=>(Zg (Zr 2 nd (Zh (C26 T) θ hr (Za (Zb 0) (Za Zd Ze)))) (Zg (Zr 3 nd (Zl (ZX (Za (ZX (Za (ZA (Za Zd (Za Zd Ze))) (Za (ZA (Za Zd (Za Zd Ze))) (Za (ZA (Za (Zab Zd) (Za (Zab Zd) Ze))) Ze)))) (Za (ZX (Za (ZA (Za Zd (Za Zd Ze))) (Za (ZA (Za Zd (Za Zd Ze))) (Za (ZA (Za (Zab Zd) (Za (ZW (Zb 2) Zd) Ze))) (Za (ZA (Za Zd (Za (Zab Zd) Ze))) Ze))))) Ze))) (ZaD Zbr Zfw T.b_int ZdX (Za (ZcK Zdy ZdL (Zb 2) Zd) Ze)))) (Zg (Zr 4 nd (Zl (ZX (Za (ZF Zd (Zh (C26 T) θ hr (Za (Zb 0) (Za (ZW (Zb 1) Zd) Ze)))) (Za (Zb 1) Ze))) (ZaD Zbr Zfw T.b_int ZdX (Za (ZcK (Zci hr.units) Zey (Zh (C26 T) θ hr (Za (Zb 0) (Za Zd Ze))) Zd) Ze)))) (Zg (Zbv θ.own T.b_range (Za (Zu Zd (Zb 1)) Ze) (Zk 5 nd) (Zg (Zr 6 nd (Zh (C27 T) θ hr (Za (Zb 3) (Za (Zh (C26 T) θ hr (Za (Zb 0) (Za (Zw Zy ZaE T.b_len PySem.boot_len (Za (Zb 3) Ze)) Ze))) Ze)))) (Zi (Zah (ZgB (ZcN (ZE Zcb Zcg (Zw Zy ZaE T.b_len PySem.boot_len (Za (Zb 3) Ze)) (Zb 4)) (ZbD (ZE Zcb Zcg (Zw (Za1 (Zv hr (by decide))) Zcl T.b_max Zcj (Za (Zai (Zda (n:=0) ["_law_purse_here","_law_most","_law_lean","_law_rays","_law_many","_law_turn","_law_longer"] ["_law_x","_law_y"] (dS 40) 2 []) (Z4 (Zb 6)) λ_ _ _ _ _=>⟨(Z0 (Zv hr (by decide)) (Zn (Zk 0 (show a9 (["_law_x","_law_y"]:List Str)by decide +kernel)) (Zn (Zk 1 (show a9 (["_law_x","_law_y"]:List Str)by decide +kernel)) ZK)) (hlen:=(Zs (Zs (λ_ _ _ h=>ZL h))))),(dM ⟨rfl,rfl⟩),(Zw (Zdz (Zv hr (by decide))) ZkN T.b_max Zcj (Za (Zw Zbq ZdN T.b_abs ZdW (Za (Zb 0) Ze)) (Za (Zw Zbq ZdN T.b_abs ZdW (Za (Zb 1) Ze)) Ze)))⟩) Ze)) Zd)))) (Zi (Zr 3 nd (Zb 6))) ZJ))))
  (Zi (Zz (Zb 3)))))))
theorem C29:Cal P w K mg base "_law_table" 101 1 F_law_table:=ZZ (N:=["_law_purse_here","_law_table_here","_law_turn","_law_many"]) (T.d.at 28 41) T.gl λ_ _ _ _ _ _ _ nd hr θ=>(Zg (Zr 1 nd (ZX (Za Zd (Za Zd (Za Zd (Za Zd Ze)))))) (Zg (Zbv θ.own T.b_range (Za (Zh (C26 T) θ hr (Za (Zb 0) (Za Zd Ze))) Ze) (Zk 2 nd) (Zg (Zr 3 nd (Zl (ZX (Za (ZW (Zh (C26 T) θ hr (Za (Zb 0) (Za Zd Ze))) Zd) (Za (ZW (Zh (C26 T) θ hr (Za (Zb 0) (Za Zd Ze))) Zd) Ze))) (ZaD Zbr Zfw T.b_int ZdX (Za (ZcK (Zci hr.units) Zey (Zh (C26 T) θ hr (Za (Zb 0) (Za Zd Ze))) Zd) Ze)))) (Zi (Zah (ZE (Zci hr.units) Zey (Zh (C26 T) θ hr (Za (Zb 0) (Za Zd Ze))) Zd) (Zi (Zr 1 nd (ZX (Za (ZF (Zl (Zb 1) Zd) (Zu (Zb 3) (Zl (Zb 1) Zd))) (Za (ZF (Zl (Zb 1) Zd) (Zu (Zb 3) (Zl (Zb 1) Zd))) (Za (Zl (Zb 1) Zd) (Za (Zl (Zb 1) Zd) Ze))))))) (Zi (Zr 1 nd (ZX (Za (Zl (Zb 1) Zd) (Za (Zl (Zb 1) Zd) (Za (ZF (Zl (Zb 1) Zd) (Zu (Zb 3) (Zl (Zb 1) Zd))) (Za (ZF (Zl (Zb 1) Zd) (Zu (Zb 3) (Zl (Zb 1) Zd))) Ze))))))))))) (Zg (Zah (ZE (Zci hr.units) Zey (Zh (C26 T) θ hr (Za (Zb 0) (Za Zd Ze))) Zd) (Zi (Zr 1 nd (ZX (Za (Zl (Zb 1) Zd) (Za (Zl (Zb 1) Zd) (Za (Zl (Zb 1) Zd) (Za (Zl (Zb 1) Zd) Ze))))))) ZJ) (Zg (Zah (ZE Zdy ZdL (Zw (Za1 (Zv hr (by decide))) Zcl T.b_max Zcj (Za (Zai (Zda (n:=0) ["_law_purse_here","_law_table_here","_law_turn","_law_many"] ["_law_number"] (dS 41) 1 []) (Z4 (Zb 1)) λ_ _ _ _ _=>⟨(Zk 0 (show a9 (["_law_number"]:List Str)by decide +kernel)),(dM ⟨rfl,rfl⟩),(Zw Zbq ZdN T.b_abs ZdW (Za (Zb 0) Ze))⟩) Ze)) Zd) (Zi (Zz (ZX (Za Zd (Za Zd (Za Zd (Za Zd Ze))))))) ZJ)
  (Zi (Zz (Zb 1)))))))
theorem C30:Cal P w K mg base "_law_spun" 101 4 F_law_spun:=ZZ (N:=["_law_table_here","_law_rays","_law_some","_law_at","_law_pairs"]) (T.d.at 29 42) T.gl λ_ _ _ _ _ _ _ nd hr θ=>(Zg (Zcm 4 nd (Zda ["_law_table_here","_law_rays","_law_some","_law_at","_law_pairs"] ["_law_x","_law_y","_law_one","_law_table_here"] (dS 42) 3 [0]) (ZfH (hr.hd (by decide)) T.b_zip (Za (Zb 1) (Za (Zb 2) Ze))) λ_ _ _ _ _=>⟨(Z0 (Zv hr (by decide)) (Zn (Z0 (Zv hr (by decide)) (Zn (Zk 0 (show a9 (["_law_x","_law_y","_law_one","_law_table_here"]:List Str)by decide +kernel)) (Zn (Zk 1 (show a9 (["_law_x","_law_y","_law_one","_law_table_here"]:List Str)by decide +kernel)) ZK)) (hlen:=(Zs (Zs (λ_ _ _ h=>ZL h))))) (Zn (Zk 2 (show a9 (["_law_x","_law_y","_law_one","_law_table_here"]:List Str)by decide +kernel)) ZK)) (hlen:=(Zs (Zs (λ_ _ _ h=>ZL h))))),(dM ⟨rfl,rfl⟩),(ZA (Za (ZA (Za (ZF (Zu (Zl (Zb 3) Zd) (Zb 0)) (Zu (Zl (Zb 3) Zd) (Zb 1))) (Za (ZF (Zu (Zl (Zb 3) Zd) (Zb 0)) (Zu (Zl (Zb 3) Zd) (Zb 1))) Ze))) (Za (Zb 2) Ze)))⟩)
  (Zg (Zah (ZE Zcb Zcg (ZW (Zu (Zl (Zb 0) Zd) (Zl (Zb 0) Zd)) (Zu (Zl (Zb 0) Zd) (Zl (Zb 0) Zd))) Zd) (Zi (Zr 4 nd (Zr6 (hr.hd (by decide)) T.b_list T.b_reversed (Za (Zb 4) Ze)))) ZJ)
  (Zg (Zr 4 nd (ZF (Zgq (Zb 4) (Zgp (Zb 3)) Zgo) (Zgq (Zb 4) Zgo (Zgp (Zb 3))))) (Zi (Zz (ZA (Za (Zai (Zda ["_law_table_here","_law_rays","_law_some","_law_at","_law_pairs"] ["_law_ray","_law_one"] (dS 42) 2 []) (Z4 (Zb 4)) λ_ _ _ _ _=>⟨(Z0 (Zv hr (by decide)) (Zn (Zk 0 (show a9 (["_law_ray","_law_one"]:List Str)by decide +kernel)) (Zn (Zk 1 (show a9 (["_law_ray","_law_one"]:List Str)by decide +kernel)) ZK)) (hlen:=(Zs (Zs (λ_ _ _ h=>ZL h))))),(dM ⟨rfl,rfl⟩),(Zb 0)⟩) (Za (Zai (Zda ["_law_table_here","_law_rays","_law_some","_law_at","_law_pairs"] ["_law_ray","_law_one"] (dS 42) 2 []) (Z4 (Zb 4)) λ_ _ _ _ _=>⟨(Z0 (Zv hr (by decide)) (Zn (Zk 0 (show a9 (["_law_ray","_law_one"]:List Str)by decide +kernel)) (Zn (Zk 1 (show a9 (["_law_ray","_law_one"]:List Str)by decide +kernel)) ZK)) (hlen:=(Zs (Zs (λ_ _ _ h=>ZL h))))),(dM ⟨rfl,rfl⟩),(Zb 1)⟩) Ze))))))))
theorem C31:Cal P w K mg base "_law_hull" 101 2 F_law_hull:=ZZ (N:=["_law_rays","_law_points_here"]) (T.d.at 30 43) T.gl λ_ _ _ _ _ _ _ nd hr θ=>(Zi (Zz (Zai (Zda ["_law_rays","_law_points_here"] ["_law_ray","_law_points_here"] (dS 43) 1 [1]) (Z4 (Zb 0)) λB1 _ _ _ _=>⟨(Zk 0 (show a9 (["_law_ray","_law_points_here"]:List Str)by decide +kernel)),(dM ⟨rfl,rfl⟩),(Zw (Za1 (Zv hr (by decide))) Zcl T.b_max Zcj (Za (Zai (Zr1 B1 ["_law_x","_law_y","_law_ray"] (dS 43) 2 [0]) (Z4 (Zb 1)) λ_ _ _ _ _=>⟨(Z0 (Zv hr (by decide)) (Zn (Zk 0 (show a9 (["_law_x","_law_y","_law_ray"]:List Str)by decide +kernel)) (Zn (Zk 1 (show a9 (["_law_x","_law_y","_law_ray"]:List Str)by decide +kernel)) ZK)) (hlen:=(Zs (Zs (λ_ _ _ h=>ZL h))))),(dM ⟨rfl,rfl⟩),(ZW (ZW Zd (Zu (Zb 0) (Zl (Zb 2) Zd))) (Zu (Zb 1) (Zl (Zb 2) Zd)))⟩) Ze))⟩)))
theorem C32:Cal P w K mg base "_law_points" 2 2 F_law_points:=ZZ (N:=["_law_purse_here","_law_most","_law_found","_law_turn"]) (T.d.at 31 44) T.gl λ_ _ _ _ _ _ _ nd hr θ=>(Zg (Zr 2 nd (ZX Ze)) (Zg (Zbv θ.own T.b_range (Za (ZF Zd (Zh (C26 T) θ hr (Za (Zb 0) (Za (Zb 1) Ze)))) Ze) (Zk 3 nd) (Zi (Zc6 (Zhv (Zb 2) (ZA (Za (ZW (Zh (C26 T) θ hr (Za (Zb 0) (Za Zd Ze))) Zd) (Za (ZW (Zh (C26 T) θ hr (Za (Zb 0) (Za Zd Ze))) Zd) Ze))))))) (Zi (Zz (Zb 2)))))
theorem C33:Cal P w K mg base "_law_told" 112 2 F_law_told:=ZZ (N:=["_law_rays","_law_units"]) (T.d.at 32 45) T.gl λ_ _ _ _ _ _ _ nd hr θ=>(Zi (Zz (Zh (C24 T) θ hr (Za (ZaD ZdF Zmc T.b_list ZeB (Za (Zb 0) Ze)) (Za (Zai (Zda (n:=0) ["_law_rays","_law_units"] ["_law_own"] (dS 45) 1 []) (Z4 (Zb 1)) λ_ _ _ _ _=>⟨(Zk 0 (show a9 (["_law_own"]:List Str)by decide +kernel)),(dM ⟨rfl,rfl⟩),(ZA (Za (Zb 0) (Za Zd Ze)))⟩) Ze)))))
theorem Zrl{f:Addr}{fd:iT}(F:Fun K "law" "law" (top 46) f fd):FnOk P w K mg base (CXE P w) 113 f fd ["_law_script"] (spD K Zfe):=
 have nd:a9 (["_law_script","_law_k","_law_purse_here","_law_rays","_law_units","_law_led","_law_owns","_law_spot","_law_found","_law_m","_law_moved","_law_more","_law_wider"]:List Str):=by decide +kernel
 ZoS (N:=["_law_script","_law_k","_law_purse_here","_law_rays","_law_units","_law_led","_law_owns","_law_spot","_law_found","_law_m","_law_moved","_law_more","_law_wider"]) F ⟨rfl,rfl,rfl,nd,rfl,by decide +kernel,by decide +kernel⟩ rfl rfl λ_ _ _ _ _ _ hr θ=>(Zg (Zbv θ.own T.b_range (Za (Zw (Zdz (Zv hr (by decide))) ZkN T.b_max Zcj (Za Zd (Za (Zw (ZgR (Zv hr (by decide))) ZoO T.b_min Zho (Za Zd (Za (Zw Zy ZaE T.b_len PySem.boot_len (Za (Zb 0) Ze)) Ze))) Ze))) Ze) (Zk 1 nd) (Zg (Zr 2 nd (Zh (C25 T) θ hr (Za (Zb 0) (Za (Zb 1) Ze))))
  (Zg (Zr 3 nd (Zh (C28 T) θ hr (Za (Zb 2) (Za Zd Ze)))) (Zg (Zr 4 nd (Zh (C31 T) θ hr (Za (Zb 3) (Za (Zh (C32 T) θ hr (Za (Zb 2) (Za Zd Ze))) Ze)))) (Zg (ZdS (Zh (C30 T) θ hr (Za (Zh (C29 T) θ hr (Za (Zb 2) Ze)) (Za (Zb 3) (Za (Zb 4) (Za (Zh (C26 T) θ hr (Za (Zb 2) (Za (Zw Zy ZaE T.b_len PySem.boot_len (Za (Zb 3) Ze)) Ze))) Ze))))) (Z0 (Zv hr (by decide)) (Zn (Zk 5 nd) (Zn (Zk 6 nd) ZK)) (hlen:=(Zs (Zs (λ_ _ _ h=>ZL h))))))
  (Zg (Zr 7 nd (Zh (C26 T) θ hr (Za (Zb 2) (Za (Zw Zy ZaE T.b_len PySem.boot_len (Za (Zb 5) Ze)) Ze)))) (Zg (Zhl (Zb 6) (Zb 7) (ZW (ZF (Zl (Zb 6) (Zb 7)) (Zh (C26 T) θ hr (Za (Zb 2) (Za Zd Ze)))) Zd)) (Zg (Zr 8 nd (Zh (C33 T) θ hr (Za (Zb 5) (Za (Zb 6) Ze)))) (Zg (Zr 9 nd (ZA (Za (ZW (Zh (C26 T) θ hr (Za (Zb 2) (Za Zd Ze))) Zd) (Za (ZW (Zh (C26 T) θ hr (Za (Zb 2) (Za Zd Ze))) Zd) Ze)))) (Zg (Zcm 10 nd (Zda ["_law_script","_law_k","_law_purse_here","_law_rays","_law_units","_law_led","_law_owns","_law_spot","_law_found","_law_m","_law_moved","_law_more","_law_wider"] ["_law_own","_law_x","_law_y","_law_m"] (dS 46) 3 [9]) (ZfH (hr.hd (by decide)) T.b_zip (Za (Zb 6) (Za (Zb 5) Ze))) λ_ _ _ _ _=>⟨(Z0 (Zv hr (by decide)) (Zn (Zk 0 (show a9 (["_law_own","_law_x","_law_y","_law_m"]:List Str)by decide +kernel)) (Zn (Z0 (Zv hr (by decide)) (Zn (Zk 1 (show a9 (["_law_own","_law_x","_law_y","_law_m"]:List Str)by decide +kernel)) (Zn (Zk 2 (show a9 (["_law_own","_law_x","_law_y","_law_m"]:List Str)by decide +kernel)) ZK)) (hlen:=(Zs (Zs (λ_ _ _ h=>ZL h))))) ZK)) (hlen:=(Zs (Zs (λ_ _ _ h=>ZL h))))),(dM ⟨rfl,rfl⟩),(ZF (ZF (Zb 0) (Zu (Zl (Zb 3) Zd) (Zb 1))) (Zu (Zl (Zb 3) Zd) (Zb 2)))⟩)
  (Zg (Zah (ZE (ZdM hr.units) Zhg (Zh (C33 T) θ hr (Za (Zb 5) (Za (Zb 10) Ze))) (Zai (Zda ["_law_script","_law_k","_law_purse_here","_law_rays","_law_units","_law_led","_law_owns","_law_spot","_law_found","_law_m","_law_moved","_law_more","_law_wider"] ["_law_x","_law_y","_law_m"] (dS 46) 2 [9]) (Z4 (Zb 8)) λ_ _ _ _ _=>⟨(Z0 (Zv hr (by decide)) (Zn (Zk 0 (show a9 (["_law_x","_law_y","_law_m"]:List Str)by decide +kernel)) (Zn (Zk 1 (show a9 (["_law_x","_law_y","_law_m"]:List Str)by decide +kernel)) ZK)) (hlen:=(Zs (Zs (λ_ _ _ h=>ZL h))))),(dM ⟨rfl,rfl⟩),(ZA (Za (ZW (Zb 0) (Zl (Zb 2) Zd)) (Za (ZW (Zb 1) (Zl (Zb 2) Zd)) Ze)))⟩)) (Zi (Zz Zjx)) ZJ)
  (Zg (Zr 11 nd (ZF (ZF (Zgq (Zb 6) Zgo (Zgp (Zb 7))) (ZX (Za (ZF (Zl (Zb 6) (Zb 7)) Zd) Ze))) (Zgq (Zb 6) (Zgp (ZF (Zb 7) Zd)) Zgo))) (Zg (Zr 12 nd (Zh (C33 T) θ hr (Za (Zb 5) (Za (Zb 11) Ze)))) (Zi (Zah (ZgB (Zgk (Zha (ZcL (Zw (ZjK (Zv hr (by decide))) ZoX T.b_all ZoT (Za (Zai (Zda ["_law_script","_law_k","_law_purse_here","_law_rays","_law_units","_law_led","_law_owns","_law_spot","_law_found","_law_m","_law_moved","_law_more","_law_wider"] ["_law_dot","_law_wider"] (dS 46) 1 [12]) (Z4 (Zb 8)) λ_ _ _ _ _=>⟨(Zk 0 (show a9 (["_law_dot","_law_wider"]:List Str)by decide +kernel)),(dM ⟨rfl,rfl⟩),(ZcK (Zk0 hr.units) Zk1 (Zb 0) (Zb 1))⟩) Ze)))) (ZcM (ZE (ZdM hr.units) Zhg (Zai (Zda ["_law_script","_law_k","_law_purse_here","_law_rays","_law_units","_law_led","_law_owns","_law_spot","_law_found","_law_m","_law_moved","_law_more","_law_wider"] ["_law_dot","_law_found"] (dS 46) 1 [8]) (Z4 (Zb 12)) λ_ _ _ _ _=>⟨(Zk 0 (show a9 (["_law_dot","_law_found"]:List Str)by decide +kernel)),(kJ ⟨_,rfl,(ZE (Zk0 hr.units) Zk1 (Zb 0) (Zb 1))⟩),(Zb 0)⟩) (Zb 8))))) (Zi (Zz Zjx)) ZJ)))))))))))))))
  (Zi (Zz Zjx)))
end
theorem fin{l:PySem.W.OpenLaw}(X:K.In h)(G:h.Ns aO mg)(hfa:mg "law"=some (.ref fa))(T:Txt K mg):∃fd:iT,(∀(s:aB)(v:aa),lX s fd ⟨[v],[]⟩ [("_law_script",v)])/\∀base:Heap,K.In base->base.Ns aO mg->FnOk l.prog w K mg base (CXE l.prog w) 113 fa fd ["_law_script"] (spD K Zfe):=
 ZoU (l:=l) (w:=w) X G hfa (T.d.at 33 46) (λ_ _ _ _ _ _ _=>rfl) λbase fd F=>Zrl (base:=base) T F
end K50
namespace K50
open L2 DL
open CV CN CU CS CD CO
open CA (Tn)
open CR (rt Sz)
open CH (rts ZH)
open Rb BD Ri DT DA
theorem Zrm:¬DT.yl p p:=by unfold DT.yl;lia
section
variable {M:Sto}{n:Nat}{ds W:List Pt}{b:Int}{p:Pt}
theorem ZnF(h:W.Pairwise yl):W.Nodup:=h.imp λ{a b} (z:yl a b)=>(λe=>Zrm (p:=b) (by rw[e]at z;exact z):a≠b)
theorem Zi6{a b:List Pt}(ha:a.Pairwise yl)(hb:b.Pairwise yl)(h:∀m,m∈a↔m∈b):a=b:=
 j8 (λx y _ _ h1 h2=>by unfold DT.yl at h1 h2;lia) ha hb ((List.perm_ext_iff_of_nodup (ZnF ha) (ZnF hb)).mpr h)
theorem Zi7(h:M[n]?=some (.lst (prs ls)))(hS:Smo ls)(hN:Nr 200 ls)(hl:ls.length<=31)(h':M[m]?=some (.lst (nts hs)))(e:hs.length=ls.length)(hb:Hb ss ls hs a b c d q)(hz:∀x∈hs,x.natAbs<16384)(k:∀ds o M',ds.Pairwise yl->(∀m,m∈ds↔∀i:Nat,i<ls.length-> -(cn hs i)<=pd m (cy ls i))->ds.length<1000000->Kp M M'->M.length<=o->M'[o]?=some (.lst (prs ds))->Q (.ref o) M'):wO (F_law_told [.ref n,.ref m] M) Q E:=by
 have hn:=Zt h;have hm:=Zt h';simp![F_law_told,Zc2,h];refine Zis (xs:=nts hs) (λρ=>∃x,ρ=[x]) (λ(i:Nat)=>rt ((cn hs i:Int):Rat)) (by rw[ZbZ hm];exact h') (by rw[ZaM];lia) ⟨_,rfl⟩ ?_ ?_
 .rintro i hi ρ L ⟨x,rfl⟩;have hi':i<hs.length:=by rw[ZaM]at hi;exact hi
  have e:(nts hs)[i]=D.int (cn hs i):=by rw[Za4 hi'];simp[nts]
  rw[e];simp![Zm];exact⟨⟨_,rfl⟩,rfl⟩
 have er:(aJ (nts hs).length).map (λ(i:Nat)=>rt ((cn hs i:Int):Rat))=rts (DA.rs hs):=by
  apply eK
  .rw[au,jQ,ZaM,ZH,ZlD]
  .intro i h1 h2;rw[b8,ik,Zdq,ZkB]
 rw[er];have r1:(M++[SO.lst (prs ls)]++[SO.lst (rts (DA.rs hs))])[M.length]?=some (.lst (prs ls)):=by simp
 have r2:(M++[SO.lst (prs ls)]++[SO.lst (rts (DA.rs hs))])[M.length+1]?=some (.lst (rts (DA.rs hs))):=by simp
 have K2:Kp M (M++[SO.lst (prs ls)]++[SO.lst (rts (DA.rs hs))]):=Kp.app.trans Kp.app;have l2:(M++[SO.lst (prs ls)]++[SO.lst (rts (DA.rs hs))]).length=M.length+2:=by simp
 generalize M++[SO.lst (prs ls)]++[SO.lst (rts (DA.rs hs))]=M2 at *;simp![Zm];refine Zri (k:=14) (B:=200) (Bt:=fc 98) (T:=98) (eB:=720) (c:=944) r1 hS hN hl r2 (by rw[ZlD];exact e) (λx hx=>?_) (by decide) (λp hp=>hb.box hp.1) (λp hp=>?_) (by decide +kernel) (by decide +kernel) (by decide +kernel) (by decide) (by decide) (by decide) (by decide) (λp hp=>hb.dens hp) (by decide) (λds nd w=>hb.few nd w) λds o M3 pw mem K3 lo r3=>?_
 .obtain⟨t,ht,rfl⟩:=aX.mp hx
  have:=hz t ht
  exact⟨by show t.natAbs<2^14;lia,by show 1<2^14;decide⟩
 .obtain⟨t,⟨t1,t2⟩,d1,d2⟩:=hb.dens hp;exact⟨iO d1 (ZlC t1 t2),iO d2 (ZlC t1 t2)⟩
 .exact k ds o M3 pw (λm=>(mem m).trans Zrj) (hb.few (ZnF pw) λm hm=>(mem m).mp hm) (K2.trans K3) ⋯ r3
theorem ZkC(hb:Bag n M)(q:∀us o M',us≠[]->us.length<=5->Nr 3 us->M.length<=o->M'[o]?=some (.lst (prs us))->Gr n M M'->Q (.ref o) M'):wO (CO.F_law_points [.ref n,.int 5] M) Q E:=by
 have hn:=hb.lt;simp![CO.F_law_points,CO.Za7];have B1:=hb.app [SO.lst []];have G1:Gr n M (M++[SO.lst []]):=Gr.app hb _;have r1:(M++[SO.lst []])[M.length]?=some (.lst (prs [])):=by simp[prs]
 have no:M.length≠n:=⋯
 have ol:M.length<=M.length:=af _;generalize M++[SO.lst []]=M1 at *;generalize hoo:M.length=o at no r1 ol ⊢;refine CB.Z5 B1 (by decide) λt M2 t0 t1 g2=>?_
 have r2:=CA.Gr.up r1 g2 no;simp![Zm];refine⟨⋯,?_⟩
 refine ZcW (λi ρ M'=>∃us x3,ρ=[some (.ref n),some (.int 5),some (.ref o),x3]/\us.length=i/\Nr 3 us/\M'[o]?=some (.lst (prs us))/\Gr n M M') ⟨[],_,rfl,rfl,(λx hx=>by cases hx),r2,G1.trans g2⟩ ?_ ?_
 .rintro i ρ M3 hi ⟨us,x3,rfl,lu,bu,r3,g3⟩;have l3:=Zt r3;simp![CO.Zas,r3];refine CB.Z5 g3.bag (by decide) λs M4 s0 s1 g4=>?_
  simp![Zm];refine CB.Z5 g4.bag (by decide) λs' M5 s0' s1' g5=>?_
  have r5:=CA.Gr.up (CA.Gr.up r3 g4 no) g5 no;have G5:=(g3.trans g4).trans g5;simp![r5];have l5:=Zt r5;refine⟨⋯,us++[(s-3,s'-3)],_,rfl,by simp;lia,λx hx=>?_,by rw[Zlc l5],?_⟩
  .rcases a7.mp hx with hx|hx
   .exact bu x hx
   .rw[cJ.mp hx];simp only;lia
  .have b5:=ZiI (o:=SO.lst (prs (us++[(s-3,s'-3)]))) G5.bag no;have gl:=G5.len;refine⟨by rw[dA];exact gl,b5,λk hk hk2=>?_⟩
   rw[be ⋯]
   exact G5.keep k hk hk2
 .rintro ρ M3 ⟨us,x3,rfl,lu,bu,r3,g3⟩;simp![Zm];refine q us o M3 (λz=>?_) ⋯ bu ⋯ r3 g3
  rw[z]at lu;simp at lu;lia
theorem Zi8{f:α->β}{L:List α}:sg neg k (L.map f)=(sg neg k L).map f:=by
 unfold sg;cases neg<;>simp[mC,kc]
theorem Zrn{L:List α}{x:α}(h:x∈sg neg k L):x∈L:=by
 unfold sg at h;cases neg
 .simp only[a8,if_false,a7]at h;rcases h with h|h
  .exact gH h
  .exact fw h
 .simp only[if_true,a7]at h;rcases h with h|h
  .exact eJ.mp (gH h)
  .exact eJ.mp (fw h)
theorem Zeo{L:List α}{x:α}(h:x∈L):x∈sg neg k L:=by
 unfold sg;cases neg
 .simp only[a8,if_false,a7];rw[<-bX k L]at h;rcases a7.mp h with h|h
  .exact .inr h
  .exact .inl h
 .simp only[if_true,a7];have h:=eJ.mpr h;rw[<-bX k L.reverse]at h;rcases a7.mp h with h|h
  .exact .inr h
  .exact .inl h
theorem Zi9:∀{ds:List Pt},eqs M (pr p.1 p.2) (prs ds)=some (ds.map λx=>decide (x=p))
 |[]=>rfl
 |x::r=>by
  have:=Zi9 (ds:=r)
  have e:eqF 12 M (pr x.1 x.2) (pr p.1 p.2)=some (decide ((x.1,x.2)=(p.1,p.2))):=ZsP (n:=10);show(match eqF 12 M (pr x.1 x.2) (pr p.1 p.2)with|some b=>(match eqs M (pr p.1 p.2) (prs r)with|some bs=>some (b::bs)|none=>none)|none=>none)=_
  rw[e,this];rfl
theorem Zja(h:M[o]?=some (.lst (prs ds))):inE (pr p.1 p.2) (.ref o) M=some (decide (p∈ds)):=by
 unfold inE;rw[show Zeq M (.ref o)=some (prs ds)by show(match M[o]? with|some (.lst xs)=>some xs|_=>none)=_;rw[h]]
 show(match eqs M (pr p.1 p.2) (prs ds)with|some bs=>some (bs.any id)|none=>none)=_
 rw[Zi9];simp only[am];rw[i7,List.any_eq_true,decide_eq_true_iff];constructor
 .rintro⟨x,hx,e⟩;obtain⟨y,hy,rfl⟩:=aX.mp hx;rw[<-of_decide_eq_true e];exact hy
 .intro hp;exact⟨true,aX.mpr ⟨p,hp,by simp⟩,rfl⟩
theorem Zro:Zap ((aJ m).map λ_=>D.bl true)=some (bf m true):=by
 have:(aJ m).map (λ_=>D.bl true)=bf m (D.bl true):=by
  rw[lD];exact⟨by simp,λb hb=>by obtain⟨_,_,rfl⟩:=aX.mp hb;rfl⟩
 rw[this]
 induction m with
 |zero=>rfl
 |succ m ih=>
  show(match Zap (bf m (D.bl true))with|some bs=>some (true::bs)|none=>none)=_
  rw[ih (by
   rw[lD];exact⟨by simp,λb hb=>by obtain⟨_,_,rfl⟩:=aX.mp hb;rfl⟩)]
  rfl
theorem ZnG:(bf m true).all id=true:=by simp
theorem ZnH(bq:Bq S)(nr:Nr 7 S)(tn:Tn 14 a b c d)(q1:q.1.natAbs<=20)(q2:q.2.natAbs<=20)(le:∀i:Nat,i<S.length->cn hs i<=3*((cy S i).1.natAbs+(cy S i).2.natAbs)+3+pd q (gg a b c d (cy S i))):Hb S (S.map (gg a b c d)) hs a b c d q:=by
 have ec:∀i:Nat,i<S.length->cy (S.map (gg a b c d)) i=gg a b c d (cy S i):=λi hi=>by
  rw[Zad (by rw[au];exact hi),b8,Zad hi]
 refine⟨bq,nr,tn,q1,q2,λi hi=>?_,λr hr=>?_⟩
 .rw[au]at hi;exact⟨cy S i,by rw[Zad hi];exact bU hi,ec i hi⟩
 .obtain⟨i,hi,rfl⟩:=bS hr;refine⟨i,by rw[au];exact hi,by rw[ec i hi,Zad hi],?_⟩
  have:=le i hi
  rw[Zad hi]at this;exact this
theorem Zrp(une:us≠[])(ub:Nr 3 us)(hr:(-7<=r.1/\r.1<=7)/\ -7<=r.2/\r.2<=7): -(3*(r.1.natAbs+r.2.natAbs):Int)<=Ze6 us r/\Ze6 us r<=3*(r.1.natAbs+r.2.natAbs):=by
 obtain⟨u,hu,e⟩:=(ZiH (r:=r) une).1;rw[e];have h2:=ub u hu;have m1:=Z2 (a:=u.1) (b:=r.1) (x:=3) (y:=r.1.natAbs) (by omega) (by omega)
 have m2:=Z2 (a:=u.2) (b:=r.2) (x:=3) (y:=r.2.natAbs) (by omega) (by omega)
 unfold vU;omega
theorem n3{x p q:Int}(h1: -43<=x/\x<=44)(h2:p.natAbs<=20*200)(h3:q.natAbs<=20*200):(x+(p+q)).natAbs<16384:=by omega
theorem ZnI{ns:List Int}{i:Nat}(hi0:i<1000)(hN:∀x2 x3 x4 x5 x6 x7 x8 x9 x10 x11 x12 M',N [some (.rol (ns.map D.int)),some (.int i),x2,x3,x4,x5,x6,x7,x8,x9,x10,x11,x12] M'):wS (Zdv [some (.rol (ns.map D.int)),some (.int i),x2,x3,x4,x5,x6,x7,x8,x9,x10,x11,x12] M) N R B C E:=by
 simp![Zdv];refine CB.Zni hi0 λa b ha=>?_;have B0:Bag M.length (M++[.lst [.int a,.int b]]):=⟨a,b,ha,by simp⟩
 generalize M++[SO.lst [.int a,.int b]]=M0 at *;generalize M.length=n at *;simp![Zm];refine CD.ZqN (by decide) B0 λss o M1 sb s2 s3 s4 s5 g1=>?_
 obtain⟨s1,bq⟩:=sb;have sl:=s1.len;have hno:o≠n:=by have:=B0.lt;lia
 have s2':Nr 200 ss:=λx hx=>by have:=s2 x hx;lia
 simp![Zm];refine ZkC g1.bag λus ou M2 une ul ub oul u2 g2=>?_;have r2:=CA.Gr.up s5 g2 hno;simp![Zm];refine ZqT r2 s2' s1.ne ⋯ u2 une ⋯ λM3 K3 t3=>?_
 have B3:=K3.bag g2.bag;have r3:=K3.get r2;have ot:M2.length≠n:=by have:=g2.bag.lt;lia
 generalize M2.length=ott at *;clear u2 r2 s5;simp![Zm];refine CD.Znm B3 λa b c d p M4 tn pl v4 g4=>?_;have r4:=CA.Gr.up r3 g4 hno;have t4:=CA.Gr.up t3 g4 ot;have hpn:p≠n:=by have:=B3.lt;lia
 have lo4:=Zt r4;simp![r4];refine CB.Z5 g4.bag ⋯ λst M5 st0 st1 g5=>?_
 have r5:=CA.Gr.up r4 g5 hno;have t5:=CA.Gr.up t4 g5 ot;have v5:=CA.Gr.up v4 g5 hpn;have tl:(nts (ZnT ss us)).length=ss.length:=by rw[ZaM];exact au _
 simp![Zm];refine CD.ZqS r5 t5 tl v5 tn s2 ⋯ ⋯ λo1 o2 M6 K6 ol1 ol2 on r6 w6=>?_
 have S:=CD.ZqR (k:=st.toNat) s1 ⋯ tn.det
 have Nr':=CD.ZtG (neg:=decide (a*d-b*c<0)) (k:=st.toNat) s2 tn;have e1:CD.sg (decide (a*d-b*c<0)) st.toNat (ss.map (CD.gg a b c d))=(sg (decide (a*d-b*c<0)) st.toNat ss).map (gg a b c d):=Zi8;have e2:sg (decide (a*d-b*c<0)) st.toNat (nts (ZnT ss us))=nts ((sg (decide (a*d-b*c<0)) st.toNat ss).map (Ze6 us)):=by
  unfold nts ZnT;rw[Zi8,Zi8]
 rw[e1]at S Nr' r6;rw[e2]at w6;have lS:(sg (decide (a*d-b*c<0)) st.toNat ss).length=ss.length:=ZiE;have bqS:Bq (sg (decide (a*d-b*c<0)) st.toNat ss):=⟨Zeo bq.1,Zeo bq.2.1,bq.2.2.imp Zeo λh=>⟨Zeo h.1,h.2.imp λ_ h=>⟨h.1,h.2.1,Zeo h.2.2⟩⟩⟩;have nrS:Nr 7 (sg (decide (a*d-b*c<0)) st.toNat ss):=λx hx=>s2 x (Zrn hx);generalize sg (decide (a*d-b*c<0)) st.toNat ss=ss' at *;have B6:Bag n M6:=K6.bag g5.bag;have n1:o1≠n/\o2≠n:=by have:=g5.bag.lt;lia
 clear r5 t5 v5 r4 t4 v4 r3 t3 e1 e2 K6;simp![r6];refine CB.Z5 B6 ⋯ λsp M7 sp0 sp1 g7=>?_
 have r7:=CA.Gr.up r6 g7 n1.1;have w7:=CA.Gr.up w6 g7 n1.2;clear r6 w6 B6;obtain⟨s,rfl⟩:∃k:Nat,sp=k:=⟨sp.toNat,⋯⟩
 simp![w7];have l0:(ss'.map (Ze6 us)).length=ss'.length:=au _;have b0:∀i:Nat,i<ss'.length-> -(3*((cy ss' i).1.natAbs+(cy ss' i).2.natAbs):Int)<=cn (ss'.map (Ze6 us)) i/\cn (ss'.map (Ze6 us)) i<=3*((cy ss' i).1.natAbs+(cy ss' i).2.natAbs):=λi hi=>by
  rw[Za4 (by rw[l0];exact hi),b8,Zad hi]
  exact Zrp une ub (nrS _ (bU hi))
 generalize ss'.map (Ze6 us)=h0 at *;have a0:atI (nts h0) (s:Nat)=some (.int (cn h0 s)):=by
  exact Zld ⋯
 simp![a0];refine CB.Z5 g7.bag (by decide) λf M8 f0 f1 g8=>?_
 have r8:=CA.Gr.up r7 g8 n1.1;have w8:=CA.Gr.up w7 g8 n1.2;have ix:ixN h0.length (s:Nat)=some s:=Znf ⋯
 simp![w8,ix];have r9:(M8.set o2 (SO.lst (nts (h0.set s (cn h0 s+f-1)))))[o1]?=some (.lst (prs (ss'.map (gg a b c d)))):=by rw[be (cC on)];exact r8
 have w9:(M8.set o2 (SO.lst (nts (h0.set s (cn h0 s+f-1)))))[o2]?=some (.lst (nts (h0.set s (cn h0 s+f-1)))):=by rw[aT (Zt w8)]
 have B9:Bag n (M8.set o2 (SO.lst (nts (h0.set s (cn h0 s+f-1))))):=ZiI g8.bag n1.2;generalize M8.set o2 (SO.lst (nts (h0.set s (cn h0 s+f-1))))=M9 at *;have l1:(h0.set s (cn h0 s+f-1)).length=ss'.length:=by rw[dA];exact l0
 have b1:∀i:Nat,i<ss'.length-> -(3*((cy ss' i).1.natAbs+(cy ss' i).2.natAbs):Int)-1<=cn (h0.set s (cn h0 s+f-1)) i/\cn (h0.set s (cn h0 s+f-1)) i<=3*((cy ss' i).1.natAbs+(cy ss' i).2.natAbs)+2:=λi hi=>by
  have z:=b0 i hi;rw[Za4 ⋯]at z
  rw[Za4 ⋯,List.getElem_set]
  split
  .rename_i e;subst e;rw[Za4 ⋯]
   lia
  .lia
 generalize h0.set s (cn h0 s+f-1)=h1 at *;clear r7 w7 r8 w8 a0 b0 ix g7 g8;have lg:(ss'.map (gg a b c d)).length=ss'.length:=au _;have sz:∀{L:List Int}{t:Int},t∈L->L.length=ss'.length->(∀i:Nat,i<ss'.length->(cn L i).natAbs<16384)->t.natAbs<16384:=λ{L t} ht hl hb=>by
  obtain⟨j,hj,rfl⟩:=bS ht
  have:=hb j ⋯
  rwa [Za4 hj]at this
 have s7:∀i:Nat,i<ss'.length->(cy ss' i).1.natAbs<=7/\(cy ss' i).2.natAbs<=7:=λi hi=>by
  have:=nrS _ (by rw[Zad hi];exact bU hi:cy ss' i∈ss')
  lia
 refine Zi7 r9 S Nr' ⋯ w9 ⋯ (ZnH (q:=(0,0)) bqS nrS tn (by decide) (by decide) λi hi=>?_) (λx hx=>sz hx l1 λi hi=>?_) λD1 d1 M10 pw1 mem1 ln1 K10 lo1 f1=>?_
 .have:=b1 i hi
  unfold pd;lia
 .have:=b1 i hi
  have:=s7 i hi
  lia
 have B10:=K10.bag B9;have n9:=Zt r9;have n9':=B9.lt;have nd1:d1≠n:=⋯
 have r10:=K10.get r9;have w10:=K10.get w9;simp![Zm];refine CB.Z5 B10 (by decide) λt M11 t0 t1 g11=>?_
 simp![Zm];refine CB.Z5 g11.bag (by decide) λt' M12 t0' t1' g12=>?_
 have r12:=CA.Gr.up (CA.Gr.up r10 g11 n1.1) g12 n1.1;have w12:=CA.Gr.up (CA.Gr.up w10 g11 n1.2) g12 n1.2;have f12:=CA.Gr.up (CA.Gr.up f1 g11 nd1) g12 nd1;clear r9 w9 r10 w10 f1 B9 B10 K10 g11 g12;obtain⟨m0,e0,m00,m01⟩:∃m0:Int,t-20=m0/\ -20<=m0/\m0<=20:=⟨_,rfl,⋯,⋯⟩
 obtain⟨m1,e1,m10,m11⟩:∃m1:Int,t'-20=m1/\ -20<=m1/\m1<=20:=⟨_,rfl,⋯,⋯⟩
 have hr:=Zt r12;have hw:=Zt w12;have hz:(bY (λa b=>D.tup [a,b]) (nts h1) (prs (ss'.map (gg a b c d)))).length=ss'.length:=by rw[List.length_zipWith,ZaM,ZG,lg];lia
 simp![e0,e1];refine Zrz (xs:=bY (λa b=>D.tup [a,b]) (nts h1) (prs (ss'.map (gg a b c d)))) (λρ=>∃x y z,ρ=[x,y,z,some (pr m0 m1)]) (λ(i:Nat)=>D.int (cn h1 i+m0*(cy (ss'.map (gg a b c d)) i).1+m1*(cy (ss'.map (gg a b c d)) i).2)) ⋯ (by rw[ZeT w12,hz,ZaM];lia) ⟨_,_,_,rfl⟩ (λL i hi=>?_) ?_ ?_
 .rw[Zir (by rw[ZbZ hw];exact w12) (by rw[ZbZ hr];exact r12)]
 .rintro j hj ρ L ⟨x,y,z,rfl⟩;rw[hz]at hj;rw[gG,CC.Za5];have e:(nts h1)[j]'(by rw[ZaM];lia)=D.int (cn h1 j):=by rw[Za4 ⋯];simp[nts]
  rw[e];simp![Zm];exact⟨_,_,_,rfl⟩
 rw[hz];have ec:∀i:Nat,i<ss'.length->cy (ss'.map (gg a b c d)) i=gg a b c d (cy ss' i):=λi hi=>by
  rw[Zad (by rw[lg];exact hi),b8,Zad hi]
 obtain⟨h2,eh2,l2,c2⟩:∃h2:List Int,(aJ ss'.length).map (λ(i:Nat)=>D.int (cn h1 i+m0*(cy (ss'.map (gg a b c d)) i).1+m1*(cy (ss'.map (gg a b c d)) i).2))=nts h2/\h2.length=ss'.length/\∀i:Nat,i<ss'.length->cn h2 i=cn h1 i+pd (m0,m1) (cy (ss'.map (gg a b c d)) i):=by
  refine⟨(aJ ss'.length).map λ(i:Nat)=>cn h1 i+m0*(cy (ss'.map (gg a b c d)) i).1+m1*(cy (ss'.map (gg a b c d)) i).2,by unfold nts;rw[c7];rfl,by simp,λi hi=>?_⟩
  rw[Za4 (by simpa using hi),b8,ik]
  unfold pd;simp only;lia
 rw[eh2];have r13:=(Kp.app (L:=[SO.lst (nts h2)])).get r12;have w13:=(Kp.app (L:=[SO.lst (nts h2)])).get w12;have f13:=(Kp.app (L:=[SO.lst (nts h2)])).get f12;have v13:(M12++[SO.lst (nts h2)])[M12.length]?=some (.lst (nts h2)):=by simp
 generalize M12++[SO.lst (nts h2)]=M13 at *;generalize M12.length=o3 at *;simp![Zm];refine Zi7 r13 S Nr' ⋯ v13 ⋯ (ZnH (q:=(m0,m1)) bqS nrS tn (by show m0.natAbs<=20;lia) (by show m1.natAbs<=20;lia) λi hi=>?_) (λx hx=>sz hx l2 λi hi=>?_) λD2 d2 M14 pw2 mem2 ln2 K14 lo2 f2=>?_
 .have:=b1 i hi
  rw[c2 i hi,ec i hi];lia
 .have z:=b1 i hi;have z7:=s7 i hi;have zn:=Nr' (cy (ss'.map (gg a b c d)) i) (by rw[Zad (by rw[lg];exact hi)];exact bU _)
  rw[c2 i hi];generalize cy (ss'.map (gg a b c d)) i=r at *;have y1:=Z2 (a:=m0) (b:=r.1) (x:=20) (y:=200) ⋯ ⋯
  have y2:=Z2 (a:=m1) (b:=r.2) (x:=20) (y:=200) ⋯ ⋯
  unfold pd;exact n3 ⋯ y1 y2
 have r14:=K14.get r13;have w14:=K14.get w13;have f14:=K14.get f13;simp![Zm];refine Zis (xs:=prs D1) (λρ=>∃x y,ρ=[x,y,some (pr m0 m1)]) (λ(i:Nat)=>pr ((cy D1 i).1-m0) ((cy D1 i).2-m1)) f14 (by rw[ZG];lia) ⟨_,_,rfl⟩ ?_ ?_
 .rintro j hj ρ L ⟨x,y,rfl⟩;rw[CC.Za5];simp![Zm];exact⟨_,_,rfl⟩
 have em:(aJ (prs D1).length).map (λ(i:Nat)=>pr ((cy D1 i).1-m0) ((cy D1 i).2-m1))=prs (D1.map λm=>(m.1-m0,m.2-m1)):=by
  rw[ZG];unfold prs;rw[c7];apply eK (by simp)
  intro i h1 h2;simp at h1;rw[b8,b8,ik,Zad h1];rfl
 rw[em];have e12:D2=D1.map λm=>(m.1-m0,m.2-m1):=by
  refine Zi6 pw2 (dX.mpr (pw1.imp λ{x y} z=>by unfold DT.yl at *;simp only;lia)) λm=>?_
  rw[mem2,aX];constructor
  .intro z;refine⟨(m.1+m0,m.2+m1),(mem1 _).mpr λi hi=>?_,by simp⟩
   have:=z i hi
   rw[c2 i ⋯]at this
   generalize cy (ss'.map (gg a b c d)) i=r at *;have e:pd (m.1+m0,m.2+m1) r=pd m r+pd (m0,m1) r:=by unfold pd;grind
   lia
  .rintro⟨m',hm,rfl⟩ i hi
   have:=(mem1 _).mp hm i hi
   rw[c2 i ⋯]
   generalize cy (ss'.map (gg a b c d)) i=r at *;have e:pd (m'.1-m0,m'.2-m1) r=pd m' r-pd (m0,m1) r:=by unfold pd;grind
   lia
 rw[<-e12];have q2:eqF 12 (M14++[SO.lst (prs D2)]) (.ref d2) (.ref M14.length)=some (decide (D2=D2)):=DL.ZpX ((Kp.app (L:=[SO.lst (prs D2)])).get f2) (by simp)
 have r15:=(Kp.app (L:=[SO.lst (prs D2)])).get r14;have w15:=(Kp.app (L:=[SO.lst (prs D2)])).get w14;have f15:=(Kp.app (L:=[SO.lst (prs D2)])).get f14;generalize M14++[SO.lst (prs D2)]=M15 at *;generalize M14.length=o4 at *;have a1:atI (nts h1) (s:Nat)=some (.int (cn h1 s)):=Zld ⋯
 have hw15:=Zt w15;have le1:((s:Nat):Int).toNat=s:=⋯
 have le2:(((s:Nat):Int)+1).toNat=s+1:=⋯
 simp![q2,w15,a1,le1,le2];refine⟨by rw[bI];lia,by rw[bI,fK];lia,?_⟩
 have e3:h1.take s++(cn h1 s+1)::h1.drop (s+1)=h1.set s (cn h1 s+1):=by
  rw[List.set_eq_take_append_cons_drop,if_pos ⋯]
 rw[e3];have l3:(h1.set s (cn h1 s+1)).length=ss'.length:=by rw[dA];exact l1
 have c3:∀i:Nat,i<ss'.length->cn h1 i<=cn (h1.set s (cn h1 s+1)) i/\cn (h1.set s (cn h1 s+1)) i<=cn h1 i+1:=λi hi=>by
  rw[Za4 (k:=i) (rs:=h1) ⋯,Za4 (k:=i) (rs:=h1.set s (cn h1 s+1)) ⋯,List.getElem_set]
  split
  .rename_i e;subst e;rw[Za4 ⋯]
   lia
  .lia
 generalize h1.set s (cn h1 s+1)=h3 at *;have r16:=(Kp.app (L:=[SO.lst (nts (iK s h1)),SO.lst [D.int (cn h1 s+1)],SO.lst (nts (iK s h1++[cn h1 s+1])),SO.lst (nts (nj (s+1) h1)),SO.lst (nts h3)])).get r15;have f16:=(Kp.app (L:=[SO.lst (nts (iK s h1)),SO.lst [D.int (cn h1 s+1)],SO.lst (nts (iK s h1++[cn h1 s+1])),SO.lst (nts (nj (s+1) h1)),SO.lst (nts h3)])).get f15;have v16:(M15++[SO.lst (nts (iK s h1)),SO.lst [D.int (cn h1 s+1)],SO.lst (nts (iK s h1++[cn h1 s+1])),SO.lst (nts (nj (s+1) h1)),SO.lst (nts h3)])[M15.length+4]?=some (.lst (nts h3)):=by simp
 generalize M15++[SO.lst (nts (iK s h1)),SO.lst [D.int (cn h1 s+1)],SO.lst (nts (iK s h1++[cn h1 s+1])),SO.lst (nts (nj (s+1) h1)),SO.lst (nts h3)]=M16 at *;generalize M15.length+4=o5 at *;refine Zi7 r16 S Nr' ⋯ v16 ⋯ (ZnH (q:=(0,0)) bqS nrS tn (by decide) (by decide) λi hi=>?_) (λx hx=>sz hx l3 λi hi=>?_) λD3 d3 M17 pw3 mem3 ln3 K17 lo3 f3=>?_
 .have:=b1 i hi
  have:=c3 i hi
  unfold pd;lia
 .have:=b1 i hi
  have:=s7 i hi
  have:=c3 i hi
  lia
 have f17:=K17.get f16;have sub:∀m∈D1,m∈D3:=λm hm=>(mem3 m).mpr λi hi=>by
  have:=(mem1 m).mp hm i hi
  have:=c3 i ⋯
  lia
 simp![Zm];refine Zis (xs:=prs D1) (λρ=>∃x,ρ=[x,some (.ref d3)]) (λ_=>D.bl true) f17 (by rw[ZG];lia) ⟨_,rfl⟩ ?_ ?_
 .rintro j hj ρ L ⟨x,rfl⟩;obtain⟨hj',ej⟩:=DT.Zen hj;rw[ej];have hd3:=Zt f3;have i3:=Zja (p:=D1[j]) (o:=d3) (M:=M17++L) (ds:=D3) (by rw[ZbZ hd3];exact f3)
  rw[decide_eq_true (sub _ (bU hj'))]at i3;generalize D1[j]=w at *;simp![i3];exact⟨_,rfl⟩
 have f18:=(Kp.app (L:=[SO.lst ((aJ (prs D1).length).map λ_=>D.bl true)])).get f17;have g18:=(Kp.app (L:=[SO.lst ((aJ (prs D1).length).map λ_=>D.bl true)])).get f3;have v18:(M17++[SO.lst ((aJ (prs D1).length).map λ_=>D.bl true)])[M17.length]?=some (.lst ((aJ (prs D1).length).map λ_=>D.bl true)):=by simp
 generalize M17++[SO.lst ((aJ (prs D1).length).map λ_=>D.bl true)]=M18 at *;generalize M17.length=o6 at *;simp![v18,Zro,ZnG];have ld3:=Zt g18;have ld1:=Zt f18;refine ZfT (xs:=prs D3) (Q:=λM2=>_) (λi ρ M'=>(∃x,ρ=[x,some (.ref d1)])/\M'=M18++[.lst (prs ((D3.take i).filter λm=>decide (m∈D1)))]) _ 0 _ _ (by simp[prs]) (by rw[Zdl g18];lia) ⟨⟨_,rfl⟩,rfl⟩ (λi ρ M' hi hI=>?_) ?_ ?_
 .obtain⟨-,rfl⟩:=hI;exact Zef (by rw[ZbZ ld3];exact g18)
 .rintro i ρ M' hi ⟨⟨x,rfl⟩,rfl⟩;obtain⟨hi',ei⟩:=DT.Zen hi;rw[ei];have le:((D3.take i).filter λm=>decide (m∈D1)).length<=D3.length:=aM (List.length_filter_le _ _) (by rw[bI];lia)
  have nx:(D3.take (i+1)).filter (λm=>decide (m∈D1))=(D3.take i).filter (λm=>decide (m∈D1))++[D3[i]].filter (λm=>decide (m∈D1)):=by
   rw[dq hi',List.filter_append]
  rw[nx];have i4:=Zja (p:=D3[i]) (o:=d1) (M:=M18++[SO.lst (prs ((D3.take i).filter λm=>decide (m∈D1)))]) (ds:=D1) (by rw[ZbZ ld1];exact f18)
  generalize D3[i]=w at *;simp![i4];by_cases c:w∈D1
  .have e0:[w].filter (λm=>decide (m∈D1))=[w]:=by simp[c]
   rw[e0,decide_eq_true c,ZnS];simp![Zm];exact⟨⋯,⟨_,rfl⟩⟩
  .have e0:[w].filter (λm=>decide (m∈D1))=[]:=by simp[c]
   rw[e0,cx,decide_eq_false c,Zss];exact⟨⟨_,rfl⟩,rfl⟩
 rintro ρ M' ⟨-,rfl⟩;have eF:D3.filter (λm=>decide (m∈D1))=D1:=Zi6 (pw3.filter _) pw1 λm=>by
  rw[gZ,decide_eq_true_iff];exact⟨λz=>z.2,λz=>⟨sub m z,z⟩⟩
 rw[ZG,cu (af _),eF];have q3:eqF 12 (M18++[SO.lst (prs D1)]) (.ref M18.length) (.ref d1)=some (decide (D1=D1)):=DL.ZpX (by simp) ((Kp.app (L:=[SO.lst (prs D1)])).get f18)
 simp![q3];exact hN _ _ _ _ _ _ _ _ _ _ _ _
theorem law_true(ns:List Int)(h:ns.length<=63):∃M',Zfe [.rol (ns.map D.int)] []=.ok (.bl true) M':=by
 have w:wO (Zfe [.rol (ns.map D.int)] []) (λd _=>d=.bl true) (λ_ _=>False):=by
  simp![Zfe,Zrk];refine⟨⋯,?_⟩
  refine ZcW (λ_ ρ _=>∃x1 x2 x3 x4 x5 x6 x7 x8 x9 x10 x11 x12,ρ=[some (.rol (ns.map D.int)),x1,x2,x3,x4,x5,x6,x7,x8,x9,x10,x11,x12]) ⟨_,_,_,_,_,_,_,_,_,_,_,_,rfl⟩ ?_ ?_
  .rintro i ρ M hi ⟨x1,x2,x3,x4,x5,x6,x7,x8,x9,x10,x11,x12,rfl⟩;rw[show(0:Int)+(i:Int)=i by lia]
   simp![Zm];exact ZnI ⋯ λ_ _ _ _ _ _ _ _ _ _ _ _=>⟨_,_,_,_,_,_,_,_,_,_,_,_,rfl⟩
  .rintro ρ M ⟨x1,x2,x3,x4,x5,x6,x7,x8,x9,x10,x11,x12,rfl⟩;simp![Zm]
 obtain⟨d,M',e,rfl⟩:=ZfS w;exact⟨M',e⟩
end
end K50
namespace K50
open L2 DL
theorem Zwa{l:PySem.W.OpenLaw}{K:lH->Fg}{T:Fg}(hn:l.most=some 63)(hdf:d.params.defaults=[])(hY:∀(w:da)(h:Heap),YP w h->(K w.params).In h/\T.In h)(hT:∀w:da,ZfP (K w.params) T=true)(F:∀(w:da)(mg:Str->Option aa)(fa:Addr)(h:Heap),(K w.params).In h->h.Ns aO mg->mg d.name=some (.ref fa)->∃fd:iT,(∀(s:aB)(u:aa),lX s fd ⟨[u],[]⟩ [("_law_script",u)])/\∀base:Heap,(K w.params).In base->base.Ns aO mg->FnOk l.prog w (K w.params) mg base (CXE l.prog w) 113 fa fd ["_law_script"] (spD (K w.params) Zfe)):PySem.W.WalkO q loose XP YP l.row.toRowW d [] (λf vs=>PySem.call f vs):=
 L2.Zkc (T:=λ_=>T) (n:=63) (k:=113) (x:="_law_script") (CX:=λw=>CXE l.prog w) (sp:=λw=>spD (K w.params) Zfe) hn (by decide) hdf ⟨λ_=>rfl,rfl,by decide,by decide⟩ hY hT F (λ_ _ a ns hl hS=>DL.ZmR hS (law_true ns hl)) λ_ _ _ _ _ h=>by obtain⟨_,_,_,_,_,_,_,_,_,_,_,_,_,q⟩:=h;exact q
end K50
open PySem.W PyProof.Rows
set_option maxRecDepth 1000000 in
set_option maxHeartbeats 0 in
theorem PySem.Challenge.cw_rayround_k50_dots_moved_by_slopes_holds : PySem.Challenge.rw_rayround_k50_dots_moved_by_slopes.Holds := by
 w_on
 refine holds_law K50.Zvc λ_=>?_;refine holds_open (q:=K50.qf PySem.Challenge.pw_rayround_k50_dots_moved_by_slopes) (loose:=K50.lo) (Xt:=λs=>xlAt (K50.qf PySem.Challenge.pw_rayround_k50_dots_moved_by_slopes) [] s&&recOk [] s) (XP:=XL (K50.qf PySem.Challenge.pw_rayround_k50_dots_moved_by_slopes) []) (Yf:=Hook.obs K50.Hk) (Ya:=Hook.val K50.Hk) (YP:=Hook.says K50.Hk) (N:=2553) ?hl (Hook.of K50.Hk) (Hook.keeps K50.Hk) (λs e=>xl_of s (lV.mp e).1) XL.keeps (by rfl) (by rfl) (by rfl) (λs e=>recFacts_of (lV.mp e).2) (by rfl) (by first|assumption|decide +kernel) (by decide +kernel) ⟨rfl,rfl,rfl,rfl,rfl,by decide +kernel⟩ ?hw ?hc
 case hl=>exact HD.Zg3 rfl (by decide) (λs=>rfl) (by decide) K50.ZrU
 case hw=>w_witness2
 case hc=>
  refine K50.Zwa (l:=PySem.Challenge.rw_rayround_k50_dots_moved_by_slopes) (K:=K50.Kf PySem.Challenge.pw_rayround_k50_dots_moved_by_slopes) (T:=K50.Tf) rfl rfl (λw h Y=>⟨DL.ZmS (PySem.W.kIn_of Y),DL.Zkd (PySem.W.kIn_of Y) (by kernel_rfl)⟩) (λw=>by kernel_rfl) ?F
  intro w mg fa h KX G hmg;refine K50.fin KX G hmg ⟨DL.Bs.of KX G ?_,λc v e=>PySem.W.mg_of KX G e,DL.Dfs.of ?_,?_,?_,?_,?_,?_,?_⟩
  all_goals kernel_rfl
