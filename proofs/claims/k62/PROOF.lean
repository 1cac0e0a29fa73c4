import PyProof.Rows.All
import Wide.All
import OpenK.AllK
import Wide.FinOn
import Lean
import PyProof.EqAt
import PyProof.EqKinds
import PyProof.TupleCall
import PyProof.FString
import PyProof.Rows.TupIter
import KE.KDictList
import PyProof.ZipIter
import PyProof.ListNew
import PyProof.RulesAssignMore
import PyProof.ReprRoads
import PyProof.FitsInt
import PyProof.Rows.Range3
import KE.KSortKey
import KE.KLam
import PyProof.CallFns
import PyProof.StrWalks
import KE.KIntText
import PySem.Challenge.RW_rayround_k62_opposite_ones
set_option maxRecDepth 100000
set_option linter.all false
set_option Elab.async false
set_option maxHeartbeats 4000000
noncomputable section
set_option bootstrap.genMatcherCode false
set_option genSizeOf false
set_option genSizeOfSpec false
set_option compiler.extract_closed false
open And renaming intro→lZ
open Array renaming getElem?_eq_some_iff→cY,getElem?_eq_getElem→eD,forIn_toList→fk,getElem?_setIfInBounds_self_of_lt→fM,perm_iff_toList_perm→fR,length_toList→gr,toList_append→gx,getElem?_toList→kW
open Array.Perm renaming refl→i8
open Bool renaming and_eq_true→aS,false_eq_true→bq,false_ne_true→cA,not_true→dM,not_false→lg,and_eq_true_iff→lO
open False renaming elim→fP
open Function renaming comp→mm
open Int renaming mul_nonneg→aU,natAbs_mul→be,mul_nonpos_of_nonneg_of_nonpos→bL,emod_lt_of_pos→cC,mul_le_mul_of_nonneg_right→cK,mul_le_mul_of_nonneg_left→cM,toNat_natCast→dA,emod_nonneg→dF,mul_pos→fj,mul_eq_zero→fC,emod_eq_of_lt→fK,gcd→gk,mul_neg_of_pos_of_neg→gq,mul_nonneg_of_nonpos_of_nonpos→gR,mul_nonpos_of_nonpos_of_nonneg→gU,emod_add_emod→iy,natCast_ediv→iL,ediv_nonneg→jb,fmod_eq_emod_of_nonneg→jF,fdiv_eq_ediv_of_nonneg→jG,natAbs_sub_le→jS,mul_neg→jU,dvd_mul_of_dvd_right→j4,dvd_mul_of_dvd_left→ki,natCast_dvd_natCast→kj,emod_emod_of_dvd→lK,neg_mul→lM,natAbs_neg→lN,toNat_of_nonneg→ma,le_trans→mJ,le_total→mK,one_mul→mV
open List renaming getElem?_eq_getElem→af,getElem?_append_left→ah,getD_eq_getElem?_getD→ao,getElem?_eq_some_iff→aq,mem_cons→ar,size_toArray→au,length_map→aB,mem_cons_of_mem→aG,range→aH,getElem?_append_right→aI,mem_map→aK,map_cons→aL,getElem?_set_ne→aM,getElem?_set_self→aN,cons_append→aQ,mem_append→aY,length_append→a6,mem_append_right→a8,getElem?_eq_none→a9,take_of_length_le→bf,mem_range→bv,replicate→bw,getElem?_map→bB,length_cons→bC,all_eq_true→bD,Nodup→bG,length_replicate→bN,getElem?_eq_none_iff→bQ,nil_append→bS,drop_eq_nil_of_le→bW,mem_cons_self→bX,getElem?_take_of_lt→bY,map_congr_left→b6,lookup_cons→b7,append_nil→cg,getElem_mem→cj,map_eq_nil_iff→cr,take_succ_eq_append_getElem→cw,length_take→cI,not_mem_nil→cJ,map_map→cT,mem_of_getElem?→cV,zipWith→cZ,getElem_of_mem→c7,take_append_drop→dh,mem_singleton→dj,eq_nil_of_length_eq_zero→dm,getElem?_cons_succ→dB,map_append→dE,filterMap_cons→dG,Pairwise→iN,ext_getElem→dQ,min?_eq_some_iff→d6,drop_eq_getElem_cons→ez,nodup_cons→eH,mem_of_mem_take→eO,map_nil→fm,length_nil→fA,range_succ→fB,dropLast_concat_getLast→fE,length_singleton→fI,min?_eq_none_iff→fJ,pairwise_map→fL,mem_of_mem_drop→fU,length_drop→fZ,min?→gg,pairwise_iff_getElem→gp,length_pos_iff→gy,mem_filter→gF,of_mem_zip→gH,length_set→gI,getElem?_drop→gQ,append_of_mem→gS,append_assoc→ii,range_succ_eq_map→ik,zipWith_cons_cons→io,ext_getElem?→iq,getElem_cons_zero→ix,reverse_cons→iz,getElem?_toArray→iC,max?_eq_some_iff→iD,max?_eq_none_iff→iF,any_eq_true→iI,take_append→iJ,drop_append→iK,take_length→iM,mem_append_left→iR,length→iU,take_append_of_le_length→iZ,drop_append_of_le_length→i3,max?_cons'→ja,max?→jj,zip_cons_cons→jr,mem_replicate→jB,pairwise_cons→jD,perm_ext_iff_of_nodup→jI,mem_or_eq_of_mem_set→jJ,nodup_append→jO,getElem_map→j9,getElem?_cons_zero→ke,length_eq_zero_iff→kh,getElem_cons_succ→kE,getElem_cons_drop→kF,find?_cons→kH,foldr_cons→kP,singleton_append→kX,eq_nil_or_concat→kY,concat_eq_append→kZ,dropLast_concat→lG,take_zero→lJ,getLast?_append→lL,take_succ_cons→l6
open List.Pairwise renaming imp_of_mem→eY
open List.Perm renaming eq_of_pairwise→j3
open List.cons renaming injEq→dC
open Nat renaming lt_of_lt_of_le→ai,le_refl→aj,ne_of_lt→aE,le_trans→aT,ne_of_gt→bz,pos_of_ne_zero→bZ,mul_le_mul_right→cf,pow_le_pow_right→cE,lt_irrefl→cG,lt_succ_iff_lt_or_eq→cS,mul_le_mul→dz,le_of_lt→dI,lt_succ_self→dP,zero_le→eN,sub_self→ft,not_lt_of_le→gf,zero_add→gj,lcm→gK,lt_of_le_of_lt→gN,lt_trans→ic,lt_succ_of_lt→il,pow_add→iY,min_eq_left→i7,div_le_self→i9,mul_le_mul_left→jc,add_comm→je,le_succ→jM,gcd→jR,add_assoc→jX,min_self→kz,mod_lt→kD,strongRecOn→kM,mul_ne_zero→kO,eq_one_of_dvd_one→k7,le_of_dvd→mh,le_of_eq→mI,pow_succ→mL
open Ne renaming symm→bV
open Option renaming isSome_iff_exists→eQ,isNone_iff_eq_none→gm,map_eq_some_iff→ia,isSome_some→jA
open Option.some renaming injEq→aF,inj→aX
open Or renaming inl→dJ,inr→mQ
open Prod renaming ext→b5,fst→iX,snd→kc
open Prod.mk renaming injEq→cN
open PyProof.Rows renaming seqObj→aR,wpS_bind→bK,wpS_pure→cQ,callWith_type1→cW,SortSt→d7,slot_tuple_getitem→eZ,get?_update_seq→gJ,setPending→gP,Keyed→hE,IntsAre→hZ,wpS_forRange→ir,listItems_at→iw,AllBare→iO,failedOf→iW,pairsOf_size→jf,assignInOrder_cons→jt,envOfC→jv,mirror→jZ,pendingOf→j7,subscriptTail_builtinR→ku,size_push'→kC,mirror_perm→lH,wpS_reverse→lI,firstOfTuple'→mf,wpS_get→mG,tuples'→mH,pairsOf→nh
open PyProof.Rows.SortSt renaming mk'→mC
open PySem renaming Value→ae,starEach→av,model→az,Shared→aC,mainGlobals→aO,Builtin→dH,NameKind→dc,bootBuiltins→bM,cellsFrom→bR,Heap→ni,wpAny_newObj_type→cu,wpAny_field→cx,Program→cH,wpAny_call_entry→cU,wpAny_holding→cX,World→c8,sizeLine_eq→c9,backTo→db,wpAny_typeNameOfWhole_keyiter→dw,Around→dR,assignEach→dD,wpAny_setField→dW,rawInt→d8,wpAny_passesOwn→eE,compareOp→eG,wpAny_truthy_bool→eM,wpAny_typeNameOf_keyiter→eX,binaryOp→fv,importedModules→fw,PassesOwn→fG,keywordEach→fQ,codeAmong→fW,codeAny→fY,swappedStores→gA,behindInMarks→gB,letOwnedTupleGo→gG,sysModules→gL,builtinsNs→gM,wpAny_callSpecial?_slot→gX,sliceBounds→gY,tupleKeyHash→hV,isSubtype_tuple_tuple→iB,wpAny_isOneOf_keyiter→iE,wpAny_isInstance→iG,wpAny_forIn_list→iH,attributeBase→iP,FuncData→iS,bindArgs→iT,compTurn→iV,wpAny_specialOf→i5,wpAny_execs_nil→i6,Keyword→jd,TriplesOk→jg,swapsWith→jh,pushCells→ji,pyNext→jl,wpAny_seqItems→jo,wpAny_tupleItemsOf→jq,Scope→js,recursionLimit→ju,backToKw→jy,Thread→jz,wpAny_fieldsOf→jC,wpAny_pyIter_slot→jP,wpAny_dictEntries→jQ,wpAny_attempt→jV,swapsWithSole→jY,wpAny_newList→j0,cLine→j5,denote→kx,wpAny_loadPart'→kG,pushCells_keeps→kI,wpAny_dictEpoch→kJ,IsRangeIter→k9,Params→lu,newFunctionEnv→lE,BindsTo→lQ,callerA→lS,DictEntry→lU,treeTable→lX,noteFrame→lY,isInstance→mo,IsPart→my,closureFor→mB,codeAny_mono→mD,eqIsQuiet→mM,wpAny_throw→mS,leaving→m8,getItem→m9
open PySem.Around renaming frames_deeper→lh
open PySem.Builtin.Dict renaming showsAll→kR
open PySem.Builtin.Int renaming intBits→gu
open PySem.Builtin.List renaming listTooLong→gE,listItems→iu
open PySem.Builtin.Slice renaming slicePlaces→el,sliceAdjust→gn,sliceApplied→jw
open PySem.Builtin.Tuple renaming tupleHashOf→cL,tupleExact→eS,tupleItemsOf→jp
open PySem.Data renaming dict→lV,fields→mT
open PySem.EntryCells renaming newEntry→l4
open PySem.Heap renaming get?_push_size→aP,get?_update_other→aW,SameBut→hU,get?_update_self→fH,size_push→fN,ExtBut→iQ,size_update→j8
open PySem.Heap.SameBut renaming update→fg
open PySem.NameKind renaming free→dN,cell→eV
open PySem.Obj renaming mapSeq→aV,mapFields→dL,data_mapFields→dX,isFreed_of_fields→dZ,cls_mapFields→jL
open PySem.SeqAt renaming EqAt→mq
open PySem.Str renaming ofString→bH,empty→mR
open PySem.Value renaming ref→aZ,type→bE,none→bJ,builtin→jW,int→j6,str→lP,bool→mw
open PySem.W renaming boot_heap→eI,SharedT→ff,specialIn→gZ,findIn→ig,takesIn→jN,stepOk→ly,mroIn→lC,looks_mroIn→lD,boot_drawn→mz,through→mE,stepT→mF,boot_toks→mP,clsIn→mU
open Rat renaming intCast_natCast→ay,mul_le_mul_of_nonneg_left→aA,intCast_mul→aJ,intCast_le_intCast→a7,mul_le_mul_of_nonneg_right→bI,intCast_neg→bT,intCast_add→bU,intCast_lt_intCast→c6,intCast_pos→da,normalize→dO,intCast_nonneg→dY,intCast_sub→eJ,natCast_mul→eK,natCast_pos→fF,le_of_mul_le_mul_right→fV,mul_lt_mul_left→gz,natCast_nonneg→gW,le_refl→hG,mul_nonneg→iA,mul_lt_mul_right→i4,intCast_nonpos→jH,le_of_mul_le_mul_left→jK,mul_pos→jT,intCast_eq_zero_iff→ko,mul_def→mY,neg_num→mZ,neg_den→m5
open Sum renaming inl→kq,inr→kr
open True renaming intro→eU
open PySem PySem.Spec
theorem Qrf(h:0=0:=by rfl):True:=trivial
theorem Qde(h:0=0:=by decide):True:=trivial
theorem Qin(h:0=0:=by intro _;rfl):True:=trivial
noncomputable abbrev Fg:=PySem.W.Frag
noncomputable abbrev Vp:=ae->aC->Prop
noncomputable abbrev Pn:=List (Addr×Obj)
noncomputable abbrev Wb:=@wpAny_bind
noncomputable abbrev Hq:=@ni.get?_push_of_some
noncomputable abbrev Hz:=@ni.lt_size
noncomputable abbrev Wp:=@wpAny_pure
noncomputable abbrev Gq:=@af
namespace DQ
open PyProof.Rows
noncomputable def Za3(A:dR)(h:Heap):Prop:=A.handled=none\/∃ea oe vs,A.handled=some (.ref ea)/\h.get? ea=some oe/\oe.data=.fields vs/\vs[2]?=some .none
theorem Za3.keeps(q:Za3 A h)(k:∀b o,h.get? b=some o->h'.get? b=some o):Za3 A h':=by
 rcases q with q|⟨ea,oe,vs,e1,e2,e3,e4⟩
 ·exact .inl q
 ·exact .inr ⟨ea,oe,vs,e1,k _ _ e2,e3,e4⟩
theorem ZdT:entryFor table "proto.unchain"=some dH.«proto.unchain» :=entryFor_of_fast (by kernel_rfl)
theorem Zfa{Q:α->aC->Prop}(q:Za3 A s.heap)(he:s.heap.get? e=some oe)(hd:oe.data=.fields vs)(hz:2<vs.size)(h:∀h',(∀b o,b≠e->s.heap.get? b=some o->h'.get? b=some o)->(∃o,h'.get? e=some o/\o.cls=oe.cls)->E (.ref e) {s with heap:=h'}):wpAny (az prog w) A (raiseNew (.ref e):Sem α) Q E s:=by
 have same:E (.ref e) s:=h s.heap (fun _ _ _ x=>x) ⟨oe,he,rfl⟩;unfold raiseNew;refine Wb (wpAny_handled ?_);rcases q with q|⟨ea,oa,ws,q1,q2,q3,q4⟩
 ·rw[q];exact Wb (Wp (mS same))
 ·rw[q1];dsimp only;by_cases c:(aZ ea != aZ e)=true
  ·rw[if_pos c];refine Wb (cX (wpAny_runValue (codeAny_builtin ZdT ?_)));unfold dH.«proto.unchain»;refine Wb (cx q2 q3 q4 ?_);refine Wb (Wp ?_);have sf:wpAny (az prog w) A (setField (.ref e) 2 (.ref ea)) (fun _ s'=>wpAny (az prog w) A (throw (aZ e):Sem α) Q E s') E s:=by
    refine dW he hd hz (mS (h _ (fun b o hb x=>?_) ⟨_,fH _ he (dZ (dX hd _)),jL _ _⟩));rw[aW _ _ (bV hb)];exact x
   exact Wp (Wb sf)
  ·rw[if_neg c];exact mS same
theorem Zbz{Q:α->aC->Prop}(q:Za3 A s.heap)(h:∀h' e,(∀b o,s.heap.get? b=some o->h'.get? b=some o)->(∃o,h'.get? e=some o/\o.cls=.type "StopIteration")->E (.ref e) {s with heap:=h'}):wpAny (az prog w) A (newExc (.type "StopIteration") [] >>= fun x=>(raiseNew x:Sem α)) Q E s:=by
 refine Wb ?_;simp only[newExc,newTuple];refine Wb (cu ?_ (by size_fits))
 refine Wb (m:=firstArgMember _ _) (wpAny_of_eq (a:=bJ) (by first|rfl|(simp only[firstArgMember];rfl)) ?_)
 refine cu ?_ (by size_fits)
 refine Zfa (q.keeps fun b o x=>Hq _ (Hq _ x)) (aP _ rfl) rfl (by rw[Array.size_append];exact ai (by decide:2<6) (Nat.le_add_right _ _)) fun h' k he=>?_
 exact h h' _ (fun b o x=>k b o (aE (ai (Hz x) (by rw[fN];exact jM _))) (Hq _ (Hq _ x))) he
theorem Zl0(he:∃o,s.heap.get? e=some o/\o.cls=.type "StopIteration")(h:Q true s):wpAny (az prog w) A (mo (.ref e) (.type "StopIteration")) Q E s:=
 let ⟨o,e1,e2⟩:=he
 iG (T:="StopIteration") (b:=true) ⟨o,e1,e2⟩ isSubtype_stop h
theorem Za3.in1(q:Za3 A h):Za3 A.in1 h:=q
noncomputable def ZfS(it:Addr)(s:aC)(e:ae)(s':aC):Prop:=∃a,e=.ref a/\(∃o,s'.heap.get? a=some o/\o.cls=.type "StopIteration")/\∃h',iQ it s.heap h'/\s'={s with heap:=h'}
theorem ZfT{id:String}(hT:s.TypeIs (.ref it) T)(sl:Slot T (bH "__next__") id)(hb:entryFor table id=some b)(ha:argsOk id ⟨[.ref it],[]⟩)(h:wpAny (az prog w) A.in1 (b ⟨[.ref it],[]⟩) (fun _ _=>False) (ZfS it s) s)(hQ:∀h',iQ it s.heap h'->Q none {s with heap:=h'}):wpAny (az prog w) A (jl (.ref it)) Q E s:=by
 unfold jl;refine Wb (jV (gX (name:=bH "__next__") hT sl (cU sl hT hb (wpAny_mono h (fun _ _ z=>z.elim) fun e s' z=>?_) ha)));obtain⟨a,rfl,ho,h',eb,rfl⟩:=z;exact Wb (Zl0 ho (Wp (hQ h' eb)))
theorem Zhb{step:Int}(q:Za3 A s.heap)(hit:k9 s.heap it x left step)(hl:left<=0)(hQ:∀h',iQ it s.heap h'->Q none {s with heap:=h'}):wpAny (az prog w) A (jl (.ref it)) Q E s:=by
 refine ZfT ⟨_,hit,rfl⟩ F.slot_range_iterator_next F.entry_range_iterator_next (F.args_range_iterator_next_1 _) ?_ hQ;refine Wb (m:=field (.ref it) 0) (cx hit rfl (x:=d8 x) rfl ?_);refine Wb (m:=field (.ref it) 1) (cx hit rfl (x:=d8 left) rfl ?_);refine Wb (m:=field (.ref it) 2) (cx hit rfl (x:=d8 step) rfl ?_);dsimp only[d8];rw[if_pos hl];refine Wb (wpAny_rule (Wb ?_));exact Zbz q.in1 fun h' e k ho=>⟨e,rfl,ho,h',fun b o _ z=>k b o z,rfl⟩
theorem Zob{i:Nat}(q:Za3 A s.heap)(ho:s.heap.get? it=some o)(hd:o.data=.fields #[.ref l,.int i 0])(hol:s.heap.get? l=some ol)(hdl:ol.data=.seq items n)(hx:items[i]?=none):wpAny (az prog w) A.in1 (dH.«list_iterator.__next__» ⟨[.ref it],[]⟩) (fun _ _=>False) (ZfS it s) s:=by
 refine Wb (m:=field (.ref it) 0) (cx ho hd (x:=.ref l) rfl ?_);dsimp only;rw[if_neg (show ¬((aZ l==bJ)=true)from cA)];refine Wb (m:=field (.ref it) 1) (cx ho hd (x:=.int i 0) rfl ?_);refine Wb (m:=seqItems? (.ref l)) (jo hol hdl ?_);simp only[dA,hx];refine Wb (wpAny_rule (Wb (dW ho hd (by simp) ?_)))
 have q2:Za3 A.in1 (s.heap.update it (dL (·.setIfInBounds 0 bJ))):=by
  rcases q with q|⟨ea,oe,vs,e1,e2,e3,e4⟩
  ·exact .inl q
  ·refine .inr ⟨ea,oe,vs,e1,?_,e3,e4⟩;rw[aW _ _ (fun z=>?_)]
   ·exact e2
   ·rw[<-z,ho]at e2;cases e2;rw[hd]at e3;cases e3;simp at e4
 refine Zbz q2 fun h' e k ho=>⟨e,rfl,ho,h',fun b o hb z=>k b o ?_,rfl⟩;rw[aW _ _ (bV hb)];exact z
theorem Zoc{i:Nat}(q:Za3 A s.heap)(ho:s.heap.get? it=some o)(hd:o.data=.fields #[.ref l,.int i 0])(hol:s.heap.get? l=some ol)(hdl:ol.data=.seq items n)(hx:items[i]?=none):wpAny (az prog w) A.in1 (dH.«tuple_iterator.__next__» ⟨[.ref it],[]⟩) (fun _ _=>False) (ZfS it s) s:=by
 refine Wb (m:=field (.ref it) 0) (cx ho hd (x:=.ref l) rfl ?_);dsimp only;rw[if_neg (show ¬((aZ l==bJ)=true)from cA)];refine Wb (m:=field (.ref it) 1) (cx ho hd (x:=.int i 0) rfl ?_);refine Wb (m:=seqItems? (.ref l)) (jo hol hdl ?_);simp only[dA,hx];refine Wb (wpAny_rule (Wb (dW ho hd (by simp) ?_)))
 have q2:Za3 A.in1 (s.heap.update it (dL (·.setIfInBounds 0 bJ))):=by
  rcases q with q|⟨ea,oe,vs,e1,e2,e3,e4⟩
  ·exact .inl q
  ·refine .inr ⟨ea,oe,vs,e1,?_,e3,e4⟩;rw[aW _ _ (fun z=>?_)]
   ·exact e2
   ·rw[<-z,ho]at e2;cases e2;rw[hd]at e3;cases e3;simp at e4
 refine Zbz q2 fun h' e k ho=>⟨e,rfl,ho,h',fun b o hb z=>k b o ?_,rfl⟩;rw[aW _ _ (bV hb)];exact z
theorem ZjD{items}(q:Za3 A s.heap)(hit:s.heap.IsListIter it l i)(hl:s.heap.IsList l items)(hx:items[i]?=none)(hQ:∀h',iQ it s.heap h'->Q none {s with heap:=h'}):wpAny (az prog w) A (jl (.ref it)) Q E s:=by
 obtain⟨o,ho,hc,hd⟩:=id hit;obtain⟨ol,hol,_,nl,hdl⟩:=hl;exact ZfT hit.typeIs slot_listiter_next entry_listiter_next (args_listiter_next _) (Zob q ho hd hol hdl hx) hQ
theorem Zhc{items}(q:Za3 A s.heap)(hit:s.heap.IsTupleIter it l i)(hl:s.heap.IsTuple l items)(hx:items[i]?=none)(hQ:∀h',iQ it s.heap h'->Q none {s with heap:=h'}):wpAny (az prog w) A (jl (.ref it)) Q E s:=by
 obtain⟨o,ho,hc,hd⟩:=id hit;obtain⟨ol,hol,_,nl,hdl⟩:=hl;exact ZfT hit.typeIs F.slot_tuple_iterator_next F.entry_tuple_iterator_next (F.args_tuple_iterator_next_1 _) (Zoc q ho hd hol hdl hx) hQ
end DQ
namespace PySem
namespace NK
variable {prog:cH}{w:c8}{K:Type}[DecidableEq K](knd:KeyKind prog w K)
inductive ItemsT(h:Heap):List (List K)->List ae->Prop where
 |nil:ItemsT h [] []
 |cons {k:List K} {a:Addr} {ks:List (List K)} {vs:List ae}:IsTupleKey knd h k a->ItemsT h ks vs->ItemsT h (k::ks) (.ref a::vs)
noncomputable def ZaC(h:Heap)(ks:List (List K))(a:Addr):Prop:=∃o items n,h.get? a=some o/\o.cls=.type "tuple"/\o.data=.seq items n/\ItemsT knd h ks items.toList
variable {knd}
theorem ItemsT.inj{h:Heap}{x y:List (List K)}{vs:List ae}(hx:ItemsT knd h x vs):ItemsT knd h y vs->x=y:=by
 intro hy
 induction hx generalizing y with
 |nil=>cases hy;rfl
 |cons k1 _ ih=>
  cases hy with
  |cons k2 t=>rw[k1.inj k2,ih t]
theorem ZaC.typeIs{s:aC}{ks:List (List K)}{a:Addr}(x:ZaC knd s.heap ks a):s.TypeIs (.ref a) "tuple":=let ⟨o,_,_,ho,hc,_⟩:=x;⟨o,ho,hc⟩
theorem ZaC.inj{h:Heap}{a:Addr}{x y:List (List K)}(hx:ZaC knd h x a)(hy:ZaC knd h y a):x=y:=by
 obtain⟨o,i1,n1,e1,_,d1,q1⟩:=hx;obtain⟨o2,i2,n2,e2,_,d2,q2⟩:=hy;rw[e1]at e2;cases e2;rw[d1]at d2;cases d2;exact q1.inj q2
theorem ItemsT.keeps{h h':Heap}{ks:List (List K)}{vs:List ae}{d:Addr}{o:Obj}{es ep}(x:ItemsT knd h ks vs)(ho:h.get? d=some o)(hd:o.data=.dict es ep)(hs:hU d h h'):ItemsT knd h' ks vs:=by
 induction x with
 |nil=>exact .nil
 |cons k _ ih=>exact .cons (k.keeps ho hd hs) ih
theorem ZaC.keeps{h h':Heap}{ks:List (List K)}{a d:Addr}{o:Obj}{es ep}(x:ZaC knd h ks a)(ho:h.get? d=some o)(hd:o.data=.dict es ep)(hs:hU d h h'):ZaC knd h' ks a:=by
 obtain⟨o1,items,n,e1,c1,d1,q⟩:=x;have ne:a≠d:=by
  intro z;subst z;rw[e1]at ho;cases ho;rw[d1]at hd;cases hd
 exact⟨o1,items,n,by rw[hs.2 a ne];exact e1,c1,d1,q.keeps ho hd hs⟩
noncomputable def Zl1(knd:KeyKind prog w K)(ks:List (List K)):Int:=reduceHash (cL (ks.map (hV knd)))
noncomputable def Zdw(ks:List (List K)):Nat:=(ks.map fun k=>k.length+1).sum
variable {A:dR}{E:Vp}{s:aC}
theorem Zhd{ks:List (List K)}{a:Addr}{Q:Int->aC->Prop}(hu:A.units+1<j5)(hk:ZaC knd s.heap ks a)(h:Q (Zl1 knd ks) {s with toks:=s.toks+(Zdw ks+1)}):wpAny (az prog w) A (pyHash (.ref a)) Q E s:=by
 have hT:=hk.typeIs;obtain⟨o,items,n,ho,_,hd,hi⟩:=hk;unfold pyHash
 first|unfold pyHashByItsType|skip
 first|refine Wb (wpAny_cRoomFor_or (.inr (by lia)) ?_)|skip
 refine Wb (i5 hT F.slot_tuple_hash.lookup ?_);show wpAny _ _ (if(some (jW "tuple.__hash__")==some bJ)=true then _ else _) Q E s
 rw[if_neg (by rw[beq_builtin_none];exact cA)]
 refine Wb (i5 hT F.slot_tuple_hash.lookup ?_);show wpAny _ _ (callSpecialIfBoundUnlessNone? (.ref a) "__hash__" _ >>= _) Q E s;refine Wb (wpAny_callSpecialIfBoundUnlessNone?_slot hT F.slot_tuple_hash (cU F.slot_tuple_hash hT F.entry_tuple_hash ?_ (F.args_tuple_hash_1 _)));show wpAny _ _ (jp (.ref a) >>= _) _ _ s;refine Wb (jq ho hd ?_);refine Wb ?_;rw[<-fk];refine iH _
  (fun Zav (b:Array Int) s'=>∃done left,ks=done++left/\ItemsT knd s.heap left Zav/\b.toList=done.map (hV knd)/\s'={s with toks:=s.toks+Zdw done})
  _ ?_ ?_ _ _ ⟨[],ks,rfl,hi,rfl,rfl⟩
 ·rintro x Zav b s' ⟨done,left,rfl,hl,hb,rfl⟩;cases hl with
  |@cons k a' ks' _ h1 hl'=>
   refine Wb (wpAny_pyHash_tuple (knd:=knd) (ks:=k) (s:={s with toks:=s.toks+Zdw done}) (by exact hu) h1 ?_)
   first
    |exact Wp ⟨done++[k],ks',by simp,hl',by simp[hb],by simp[Zdw,jX]⟩
    |exact Wb (Wp (Wp ⟨done++[k],ks',by simp,hl',by simp[hb],by simp[Zdw,jX]⟩))
 ·rintro b s' ⟨done,left,rfl,hl,hb,rfl⟩;cases hl;rw[cg]at h;show wpAny _ _ (retInt (cL b.toList)) _ _ _;rw[hb];refine wpAny_ret_mkInt ?_;show wpAny _ _ (if(decide (-(2:Int)^63<=cL (done.map (hV knd)))&&decide (cL (done.map (hV knd))<2^63))=true then _ else _) Q E _
  unfold Zl1 reduceHash at h;by_cases hr:(decide (-(2:Int)^63<=cL (done.map (hV knd)))&&decide (cL (done.map (hV knd))<2^63))=true
  ·rw[if_pos hr];rw[if_pos hr]at h;exact Wp (by simpa [jX]using h)
  ·rw[if_neg hr];rw[if_neg hr]at h;exact Wb (wpAny_rule (Wp (by simpa [jX]using h)))
theorem Zl2{x y:List (List K)}{a b:Addr}{P:Fin->aC->Prop}(hu:A.units<j5)(hx:ZaC knd s.heap x a)(hy:ZaC knd s.heap y b)(h:P (.done (.ret (.bool (decide (x=y))))) s):wpAny (az prog w) A (dH.«tuple.__eq__» ⟨[.ref a,.ref b],[]⟩) P E s:=by
 have hTb:=hy.typeIs;obtain⟨oa,xs,na,hoa,_,hda,hia⟩:=hx;obtain⟨ob,ys,nb,hob,_,hdb,hib⟩:=hy;show wpAny _ _ (mo (.ref b) (.type "tuple") >>= _) _ _ s;refine Wb (iG hTb iB ?_);simp only[dM,bq,if_false];refine Wb (jq hoa hda ?_);refine Wb (jq hob hdb ?_);refine Wb ?_;refine iH _
  (fun Zav r s'=>r.1=none/\s'=s/\∃x' y' xs' ys',Zav=List.zip xs' ys'/\ItemsT knd s.heap x' xs'/\ItemsT knd s.heap y' ys'/\decide (x'=y')=decide (x=y)/\(xs'.length==ys'.length)=(xs.size==ys.size))
  _ ?_ ?_ _ _ ⟨rfl,rfl,x,y,xs.toList,ys.toList,rfl,hia,hib,rfl,by simp⟩
 ·rintro⟨u,v⟩ Zav r s' ⟨hr,rfl,x',y',xs',ys',hz,hx',hy',hdec,hlen⟩;cases hx' with
  |nil=>simp at hz
  |@cons k1 u' x'' xs'' h1 hx''=>
   cases hy' with
   |nil=>simp at hz
   |@cons k2 v' y'' ys'' h2 hy''=>
    simp only[jr,dC,cN]at hz;obtain⟨⟨rfl,rfl⟩,rfl⟩:=hz;refine Wb (wpAny_eqBool_tuple (knd:=knd) (x:=k1) (y:=k2) hu h1 h2 ?_);by_cases hk:k1=k2
    ·subst hk;rw[decide_eq_true rfl];simp only[dM,bq,if_false];refine Wp ⟨rfl,rfl,x'',y'',xs'',ys'',rfl,hx'',hy'',?_,by simpa using hlen⟩
     rw[<-hdec];by_cases hxy:x''=y''
     ·simp[hxy]
     ·simp[hxy]
    ·rw[decide_eq_false hk];simp only[lg,if_true];have hf:decide (x=y)=false:=by rw[<-hdec];simp[hk]
     rw[hf]at h;exact Wb (Wp (Wp (Wp h)))
 ·rintro⟨r1,r2⟩ s' ⟨hr,rfl,x',y',xs',ys',hz,hx',hy',hdec,hlen⟩;simp only at hr;subst hr;refine Wp ?_;have hfin:(xs.size==ys.size)=decide (x=y):=by
   rw[<-hdec,<-hlen];cases hx' with
   |nil=>
    cases hy' with
    |nil=>simp
    |cons _ _=>simp
   |cons _ _=>
    cases hy' with
    |nil=>simp
    |cons _ _=>simp at hz
  show P (.done (.ret (.bool (xs.size==ys.size)))) s';rw[hfin];exact h
theorem Zl3{x y:List (List K)}{a b:Addr}{Q:Bool->aC->Prop}(hu:A.units+1<j5)(hx:ZaC knd s.heap x a)(hy:ZaC knd s.heap y b)(h:Q (decide (x=y)) s):wpAny (az prog w) A (eqBool (.ref a) (.ref b)) Q E s:=by
 unfold eqBool
 try with_reducible refine cX ?_
 show wpAny _ _ (if(aZ a==aZ b)=true then _ else _) Q E s
 by_cases hab:(aZ a==aZ b)=true
 ·rw[if_pos hab];have e:a=b:=by have:=eq_of_beq hab;injection this
  subst e;obtain rfl:=hx.inj hy;exact Wb (wpAny_rule (Wp (by simpa using h)))
 ·rw[if_neg hab];exact Wb (wpAny_richCompare_same_room (op:=.Eq) hx.typeIs hy.typeIs F.slot_tuple_eq
   (cU F.slot_tuple_eq hx.typeIs F.entry_tuple_eq (Zl2 (by exact hu) hx hy ⟨_,rfl,(fun e=>nomatch e),eM h⟩) (F.args_tuple_eq_2 _ _)) (by lia))
theorem Zhe{ks:List K}{a:Addr}{Q:Bool->aC->Prop}(m:Nat)(hk:IsTupleKey knd s.heap ks a)(h:Q true s):wpAny (az prog w) A (mM (m+1) (.ref a)) Q E s:=by
 have hT:=hk.typeIs;obtain⟨o,items,n,ho,_,hd,hi⟩:=hk;unfold mM;refine Wb (i5 hT F.slot_tuple_eq.lookup ?_);show wpAny _ _ (mo (.ref a) (.type "tuple") >>= _) _ _ s;refine Wb (iG hT iB ?_);simp only[dM,bq,if_false];refine Wb (jo ho hd ?_);refine Wb ?_;show wpAny _ _ (forIn items _ _) _ _ s;rw[<-fk];refine iH _ (fun Zav r s'=>r.1=none/\s'=s/\∀v∈Zav,carriedByValue v=true) _ ?_ ?_ _ _ ⟨rfl,rfl,hi.byValue⟩
 ·rintro v Zav r s' ⟨hr,rfl,hall⟩;rw[eqIsQuiet_byValue _ (hall v bX)];refine Wb (Wp ?_);simp only[dM,bq,if_false];exact Wp ⟨rfl,rfl,fun u hu'=>hall u (aG _ hu')⟩
 ·rintro⟨r1,r2⟩ s' ⟨hr,rfl,_⟩;simp only at hr;subst hr;exact Wp h
theorem ZgO{ks:List (List K)}{a:Addr}{Q:Bool->aC->Prop}(hk:ZaC knd s.heap ks a)(h:Q true s):wpAny (az prog w) A (mM 8 (.ref a)) Q E s:=by
 have hT:=hk.typeIs;obtain⟨o,items,n,ho,_,hd,hi⟩:=hk;unfold mM;refine Wb (i5 hT F.slot_tuple_eq.lookup ?_);show wpAny _ _ (mo (.ref a) (.type "tuple") >>= _) _ _ s;refine Wb (iG hT iB ?_);simp only[dM,bq,if_false];refine Wb (jo ho hd ?_);refine Wb ?_;show wpAny _ _ (forIn items _ _) _ _ s;rw[<-fk];refine iH _ (fun Zav r s'=>r.1=none/\s'=s/\∃ks',ItemsT knd s.heap ks' Zav) _ ?_ ?_ _ _ ⟨rfl,rfl,ks,hi⟩
 ·rintro v Zav r s' ⟨hr,rfl,ks',hall⟩;cases hall with
  |cons k1 t=>
   refine Wb (Zhe 6 k1 ?_);simp only[dM,bq,if_false];exact Wp ⟨rfl,rfl,_,t⟩
 ·rintro⟨r1,r2⟩ s' ⟨hr,rfl,_⟩;simp only at hr;subst hr;exact Wp h
end NK
def ZcJ{prog:cH}{w:c8}{K:Type}[DecidableEq K](knd:KeyKind prog w K):HeapKind prog w (List (List K)) where
 is:=NK.ZaC knd
 hash:=NK.Zl1 knd
 draws:=fun ks=>NK.Zdw ks+1
 room:=fun A=>A.units+1<j5
 inj:=fun hx hy=>hx.inj hy
 keeps:=fun x ho hd hs=>x.keeps ho hd hs
 pyHash:=fun hu hk h=>NK.Zhd hu hk h
 eqBool:=fun hu hx hy h=>NK.Zl3 hu hx hy h
 quiet:=fun hk h=>NK.ZgO hk h
end PySem
namespace L2
open PyProof.Rows
noncomputable abbrev Key:=Sum Int Str
noncomputable def ZgP:Key->ae->Bool
 |.inl k,v=>ae.isInt k v
 |.inr x,v=>ae.isStrOf x v
noncomputable def ZuN(w:c8):Key->Int
 |.inl k=>hashInt k
 |.inr x=>hashStr w x
theorem ZN:∀{k:Key}{v:ae},ZgP k v=true->(∃i t,k=kq i/\v=j6 i t)\/(∃x t,k=kr x/\v=lP x t)
 |.inl i,v,h=>by
  obtain⟨t,e⟩:=ae.isInt_shape (k:=i) (v:=v) h;exact .inl ⟨i,t,rfl,e⟩
 |.inr x,v,h=>by
  obtain⟨t,e⟩:=ae.isStrOf_shape (x:=x) (v:=v) h;exact .inr ⟨x,t,rfl,e⟩
theorem Zhf(i:Int)(t:Tok):ZgP (.inl i) (.int i t)=true:=by simp[ZgP,ae.isInt]
theorem Zhg(x:Str)(t:Tok):ZgP (.inr x) (.str x t)=true:=by simp[ZgP,ae.isStrOf]
theorem Zod(a b:Int):decide ((kq a:Key)=kq b)=(a==b):=by
 by_cases e:a=b
 ·subst e;simp
 ·have h:¬(kq a:Key)=kq b:=fun q=>e (kq.inj q);rw[decide_eq_false h];exact(beq_eq_false_iff_ne.mpr e).symm
theorem Zoe(a b:Str):decide ((kr a:Key)=kr b)=decide (a=b):=by
 by_cases e:a=b
 ·subst e;simp
 ·have h:¬(kr a:Key)=kr b:=fun q=>e (kr.inj q);rw[decide_eq_false h,decide_eq_false e]
theorem Zof(a:Int)(b:Str):decide ((kq a:Key)=kr b)=false:=decide_eq_false (fun q=>nomatch q)
theorem Zog(a:Str)(b:Int):decide ((kr a:Key)=kq b)=false:=decide_eq_false (fun q=>nomatch q)
def Zaw(prog:cH)(w:c8):PySem.KeyKind prog w Key where
 is:=ZgP
 hash:=ZuN w
 inj:=fun v a b ha hb=>by
  rcases ZN ha with⟨i,t,rfl,rfl⟩|⟨x,t,rfl,rfl⟩
  ·rcases ZN hb with⟨j,u,rfl,e⟩|⟨y,u,rfl,e⟩
   ·injection e with e1 _;rw[e1]
   ·exact nomatch e
  ·rcases ZN hb with⟨j,u,rfl,e⟩|⟨y,u,rfl,e⟩
   ·exact nomatch e
   ·injection e with e1 _;rw[e1]
 byValue:=fun k v h=>by
  rcases ZN h with⟨i,t,rfl,rfl⟩|⟨x,t,rfl,rfl⟩<;>rfl
 pyHash:=fun hv h=>by
  rcases ZN hv with⟨i,t,rfl,rfl⟩|⟨x,t,rfl,rfl⟩
  ·exact wpAny_pyHash_int h
  ·exact wpAny_pyHash_str h
 eqBool:=fun hu hv h=>by
  rcases ZN hu with⟨i,t,rfl,rfl⟩|⟨x,t,rfl,rfl⟩
  ·rcases ZN hv with⟨j,u,rfl,rfl⟩|⟨y,u,rfl,rfl⟩
   ·rw[Zod]at h;exact wpAny_eqBool_int h
   ·rw[Zof]at h;exact mq.int_str i t y u _ _ _ _ h
  ·rcases ZN hv with⟨j,u,rfl,rfl⟩|⟨y,u,rfl,rfl⟩
   ·rw[Zog]at h;exact mq.str_int x t j u _ _ _ _ h
   ·rw[Zoe]at h;exact wpAny_eqBool_str h
 «strs» :=fun k x t v h=>by
  rcases ZN h with⟨i,u,rfl,e⟩|⟨y,u,rfl,e⟩
  ·exact nomatch e
  ·injection e with e1 _;subst e1;cases v<;>rfl
theorem Zfb(prog:cH)(w:c8)(i:Int)(t:Tok):(Zaw prog w).is (.inl i) (.int i t)=true:=Zhf i t
theorem Zfc(prog:cH)(w:c8)(x:Str)(t:Tok):(Zaw prog w).is (.inr x) (.str x t)=true:=Zhg x t
inductive V where
 |non|bl (b:Bool)|int (i:Int)|str (x:Str)|byt (b:Array UInt8)|flt (b:UInt64)|ref (a:Addr)|ty (n:String)
 deriving DecidableEq
noncomputable def Z8:V->ae->Prop
 |.non,u=>u=bJ
 |.bl b,u=>u=mw b
 |.int i,u=>∃t,u=j6 i t
 |.str x,u=>∃t,u=lP x t
 |.byt b,u=>∃t,u=ae.bytes b t
 |.flt b,u=>∃t,u=ae.float b t
 |.ref a,u=>u=aZ a
 |.ty n,u=>u=bE n
abbrev Z1:List V->List ae->Prop:=Paired Z8
theorem Z1.length(r:Z1 xs us):xs.length=us.length:=Paired.length r
theorem Z1.get:∀{xs:List V}{us:List ae}{i:Nat}{x:V},Z1 xs us->xs[i]?=some x->∃u,us[i]?=some u/\Z8 x u
 |_,_,_,_,.nil,e=>by simp at e
 |_,_,0,_,.cons r _,e=>by simp at e;subst e;exact⟨_,rfl,r⟩
 |_,_,i+1,x,.cons _ t,e=>by
  obtain⟨u,h1,h2⟩:=Z1.get (i:=i) (x:=x) t (by simpa using e)
  exact⟨u,by simpa using h1,h2⟩
theorem Z1.append:∀{xs ys:List V}{us ws:List ae},Z1 xs us->Z1 ys ws->Z1 (xs++ys) (us++ws)
 |_,_,_,_,.nil,s=>s
 |_,_,_,_,.cons r t,s=>.cons r (Z1.append t s)
theorem Z1.take:∀{xs:List V}{us:List ae}(n:Nat),Z1 xs us->Z1 (xs.take n) (us.take n)
 |_,_,0,_=>.nil
 |_,_,_+1,.nil=>.nil
 |_,_,n+1,.cons r t=>.cons r (Z1.take n t)
theorem Z1.drop:∀{xs:List V}{us:List ae}(n:Nat),Z1 xs us->Z1 (xs.drop n) (us.drop n)
 |_,_,0,r=>r
 |_,_,_+1,.nil=>.nil
 |_,_,n+1,.cons _ t=>Z1.drop n t
def ZtT:Option V->Option ae->Prop
 |some v,some u=>Z8 v u
 |none,none=>True
 |_,_=>False
def KV{κ:Type}:List (κ×V)->List (κ×ae)->Prop:=Paired fun(p:κ×V) (q:κ×ae)=>p.1=q.1/\Z8 p.2 q.2
noncomputable def kV:Key->V
 |.inl i=>.int i
 |.inr x=>.str x
inductive HO where
 |lst (xs:List V)
 |tup (xs:List V)
 |dK (kvs:List (Key×V))|dT (kvs:List (List Key×V))|dU (kvs:List (List (List Key)×V))
 |set (S:Int->Bool) (n:Nat)
 |ins (C dx:Addr) (fs:List (Str×V))
 |own (x:Addr)
 |xd (fs:List (Str×V))
 |met (f x:Addr)
 |rng (lo hi:Int)
 |frz (o:Obj) (u:HO)
 |tbl (ps:Array ae)
 |ext (φ:Heap->Prop)
noncomputable abbrev Hp:=Addr->Option HO
noncomputable def upd(H:Hp)(a:Addr)(o:HO):Hp:=fun b=>if b=a then some o else H b
theorem Zy:upd H a o a=some o:=by unfold upd;rw[if_pos rfl]
theorem ZH(h:b≠a):upd H a o b=H b:=by unfold upd;rw[if_neg h]
theorem ZrI{H:Hp}(h:H a=some o)(h':H b=some u)(d:o≠u):a≠b:=by
 intro e;subst e;rw[h]at h';exact d (aX h')
theorem ZU{H:Hp}(h:H a=some o)(h':H b=none):a≠b:=by
 intro e;subst e;rw[h]at h';cases h'
def ZaD(H:Hp)(ks:List (List Key))(b:Addr):Prop:=∃cs:List Addr,H b=some (.tup (cs.map V.ref))/\Paired (fun(k:List Key) (c:Addr)=>H c=some (.tup (k.map kV))) ks cs
section
variable (P:cH)(w:c8)
def ZaW(H:Hp)(h:Heap)(a:Addr):HO->Prop
 |.lst xs=>xs.length<=sizeLine/\∃(its:List ae) (n:Nat),Z1 xs its/\h.get? a=some {cls:=.type "list",data:=.seq its.toArray n}
 |.tup xs=>xs.length<=sizeLine/\∃its:List ae,Z1 xs its/\IsTup h a its.toArray
 |.dK kvs=>kvs.length<=sizeLine/\(a==gL)=false/\∃vs,KV kvs vs/\h.DictOf (Zaw P w) a vs
 |.dT kvs=>kvs.length<=sizeLine/\(a==gL)=false/\∃xs:List (List Key×Addr×ae),
   Paired (fun(p:List Key×V) (q:List Key×Addr×ae)=>p.1=q.1/\H q.2.1=some (.tup (p.1.map kV))/\Z8 p.2 q.2.2) kvs xs/\
   ∃o es ep,h.get? a=some o/\o.ExactDict/\o.data=.dict es ep/\es.toList=xs.map (entryOfKey (tupleKind (Zaw P w)))/\(xs.map (·.1)).Nodup
 |.dU kvs=>kvs.length<=sizeLine/\(a==gL)=false/\∃xs:List (List (List Key)×Addr×ae),
   Paired (fun(p:List (List Key)×V) (q:List (List Key)×Addr×ae)=>p.1=q.1/\ZaD H p.1 q.2.1/\Z8 p.2 q.2.2) kvs xs/\
   ∃o es ep,h.get? a=some o/\o.ExactDict/\o.data=.dict es ep/\es.toList=xs.map (entryOfKey (ZcJ (Zaw P w)))/\(xs.map (·.1)).Nodup
 |.set S n=>h.SetOf (intKind P w) a S n
 |.ins C dx fs=>H dx=some (.own a)/\fs.length<=1000/\dx≠a/\h.get? a=some (PySem.W.instObj C dx)/\
   ∃mA,h.Ns1 dx mA/\(∀f,ZtT (fs.lookup f) (mA f))/\PySem.Within mA (fs.map (·.1))
 |.own _=>∃o,h.get? a=some o
 |.xd fs=>∃mA,h.Ns1 a mA/\∀f,ZtT (fs.lookup f) (mA f)
 |.rng lo hi=>∃t u v,h.get? a=some {cls:=.type "range",data:=.fields #[.int lo t,.int hi u,.int 1 v]}
 |.frz o u=>h.get? a=some o/\ZaW H h a u
 |.tbl ps=>h.get? a=some {cls:=.none,data:=.fields ps}/\jg ps.toList/\∀pos cv,fW pos ps.toList=some cv->∃c' o vs q t,cv=.ref c'/\H c'=some (.own a)/\h.get? c'=some o/\o.data=.fields vs/\vs[1]?=some (.str q t)
 |.met f x=>h.get? a=some (PySem.W.methodObj (.ref f) (.ref x))
 |.ext φ=>φ h/\(∃o,h.get? a=some o)/\∀h1 h2:Heap,φ h1->(∀o,h1.get? a=some o->h2.get? a=some o)->φ h2
def HOk(H:Hp)(h:Heap):Prop:=∀a o,H a=some o->ZaW P w H h a o
end
section
variable {a:Addr}
theorem ZaW.lt(x:ZaW P w H h a o):a<h.objs.size:=by
 cases o with
 |lst xs=>obtain⟨_,_,_,_,e⟩:=x;exact Hz e
 |tup xs=>obtain⟨_,_,_,p⟩:=x;exact p.lt
 |dK kvs=>obtain⟨_,_,_,_,o,_,_,e,_⟩:=x;exact Hz e
 |dT kvs=>obtain⟨_,_,_,_,o,_,_,e,_⟩:=x;exact Hz e
 |dU kvs=>obtain⟨_,_,_,_,o,_,_,e,_⟩:=x;exact Hz e
 |set S n=>obtain⟨o,_,_,_,e,_⟩:=x;exact Hz e
 |ins C dx fs=>obtain⟨_,_,_,e,_⟩:=x;exact Hz e
 |own y=>obtain⟨_,e⟩:=x;exact Hz e
 |xd fs=>obtain⟨_,⟨_,_,_,e,_⟩,_⟩:=x;exact Hz e
 |rng lo hi=>obtain⟨_,_,_,e⟩:=x;exact Hz e
 |frz ob u=>obtain⟨e,_⟩:=x;exact Hz e
 |tbl ps=>exact Hz x.1
 |met f y=>exact Hz (show h.get? a=some _ from x)
 |ext φ=>obtain⟨_,⟨_,e⟩,_⟩:=x;exact Hz e
theorem Paired.mapP{α β:Type}{F G:α->β->Prop}:∀{l₁:List α}{l₂:List β},Paired F l₁ l₂->(∀a b,F a b->G a b)->Paired G l₁ l₂
 |_,_,.nil,_=>.nil
 |_,_,.cons r t,f=>.cons (f _ _ r) (Paired.mapP t f)
theorem ZaW.stay(x:ZaW P w H h a o)(k:∀b u,(b=a\/H b=some (.own a))->h.get? b=some u->h'.get? b=some u)(ho:∀b,H b=some (.own a)->H' b=some (.own a))(ht:∀b xs,H b=some (.tup xs)->H' b=some (.tup xs)):ZaW P w H' h' a o:=by
 induction o with
 |lst xs=>obtain⟨z,its,n,r,e⟩:=x;exact⟨z,its,n,r,k _ _ (.inl rfl) e⟩
 |tup xs=>obtain⟨z,its,r,ob,e,c⟩:=x;exact⟨z,its,r,ob,k _ _ (.inl rfl) e,c⟩
 |dK kvs=>obtain⟨z,y,vs,r,ob,es,ep,e,c⟩:=x;exact⟨z,y,vs,r,ob,es,ep,k _ _ (.inl rfl) e,c⟩
 |dT kvs=>
  obtain⟨z,y,xs,r,ob,es,ep,e,c⟩:=x;exact⟨z,y,xs,Paired.mapP r fun p q z=>⟨z.1,ht _ _ z.2.1,z.2.2⟩,ob,es,ep,k _ _ (.inl rfl) e,c⟩
 |dU kvs=>
  obtain⟨z,y,xs,r,ob,es,ep,e,c⟩:=x;exact⟨z,y,xs,Paired.mapP r fun p q z=>⟨z.1,let ⟨cs,z1,z2⟩:=z.2.1;⟨cs,ht _ _ z1,Paired.mapP z2 fun _ _ t=>ht _ _ t⟩,z.2.2⟩,ob,es,ep,k _ _ (.inl rfl) e,c⟩
 |set S n=>obtain⟨ob,es,ep,t,e,c⟩:=x;exact⟨ob,es,ep,t,k _ _ (.inl rfl) e,c⟩
 |ins C dx fs=>
  obtain⟨d,z,ne,e,mA,⟨od,es,ep,e2,c⟩,r⟩:=x;exact⟨ho _ d,z,ne,k _ _ (.inl rfl) e,mA,⟨od,es,ep,k _ _ (.inr d) e2,c⟩,r⟩
 |own y=>obtain⟨ob,e⟩:=x;exact⟨ob,k _ _ (.inl rfl) e⟩
 |xd fs=>obtain⟨mA,⟨od,es,ep,e,c⟩,r⟩:=x;exact⟨mA,⟨od,es,ep,k _ _ (.inl rfl) e,c⟩,r⟩
 |rng lo hi=>obtain⟨t,u,v,e⟩:=x;exact⟨t,u,v,k _ _ (.inl rfl) e⟩
 |frz ob u ih=>obtain⟨e,q⟩:=x;exact⟨k _ _ (.inl rfl) e,ih q⟩
 |tbl ps=>
  exact⟨k a _ (.inl rfl) x.1,x.2.1,fun pos cv e=>let ⟨c',ob,vs,q,t,e1,e2,e3,e4⟩:=x.2.2 pos cv e;⟨c',ob,vs,q,t,e1,ho _ e2,k _ _ (.inr e2) e3,e4⟩⟩
 |met f y=>
  have e:h.get? a=some (PySem.W.methodObj (.ref f) (.ref y)):=x;show h'.get? a=some (PySem.W.methodObj (.ref f) (.ref y));exact k a _ (.inl rfl) e
 |ext φ=>obtain⟨p,⟨o,e⟩,st⟩:=x;exact⟨st _ _ p fun o q=>k _ _ (.inl rfl) q,⟨o,k _ _ (.inl rfl) e⟩,st⟩
theorem HOk.lt(x:HOk P w H h)(e:H a=some o):a<h.objs.size:=(x a o e).lt
theorem HOk.fresh(x:HOk P w H h)(e:h.objs.size<=a):H a=none:=by
 cases q:H a with
 |none=>rfl
 |some u=>exact absurd (ai (x.lt q) e) (cG _)
theorem HOk.kept(x:HOk P w H h)(k:∀b u,h.get? b=some u->h'.get? b=some u):HOk P w H h':=fun a o e=>
 (x a o e).stay (fun b u _ q=>k b u q) (fun _ q=>q) fun _ _ q=>q
theorem HOk.laid(x:HOk P w H h)(k:∀b u,h.get? b=some u->h'.get? b=some u)(hp:h.objs.size<=a)(new:ZaW P w (upd H a o) h' a o):HOk P w (upd H a o) h':=fun b u e=>by
 have hn:=x.fresh hp;by_cases hb:b=a
 ·subst hb;rw[Zy]at e;cases e;exact new
 ·rw[ZH hb]at e;exact(x b u e).stay (fun c v _ q=>k c v q) (fun c q=>by rw[ZH (ZU q hn)];exact q) fun c xs q=>by rw[ZH (ZU q hn)];exact q
end
noncomputable def Rd(H:Hp)(a:Addr)(u:HO):Prop:=H a=some u\/∃o,H a=some (.frz o u)
theorem Rd.ok(r:Rd H a u)(x:HOk P w H h):ZaW P w H h a u:=by
 rcases r with r|⟨o,r⟩
 ·exact x a u r
 ·obtain⟨_,q⟩:=x a _ r;exact q
noncomputable def Mut:Option HO->Prop
 |some (.lst _)=>True
 |some (.dK _)=>True
 |some (.dT _)=>True
 |some (.dU _)=>True
 |some (.set _ _)=>True
 |some (.ins _ _ _)=>True
 |some (.ext _)=>True
 |_=>False
theorem HOk.write(ok:HOk P w H h)(mu:Mut (H x))(he:e=x\/H e=some (.own x))(k:∀b u,b≠e->h.get? b=some u->h'.get? b=some u)(heo:∃u,h'.get? e=some u)(new:ZaW P w (upd H x o') h' x o'):HOk P w (upd H x o') h':=fun b u q=>by
 have nown:∀c y,H c=some (.own y)->c≠x:=fun c y r z=>by subst z;rw[r]at mu;exact mu
 have ntup:∀c xs,H c=some (.tup xs)->c≠x:=fun c xs r z=>by subst z;rw[r]at mu;exact mu
 by_cases hb:b=x
 ·subst hb;rw[Zy]at q;cases q;exact new
 ·rw[ZH hb]at q;by_cases hbe:b=e
  ·have q':H b=some (.own x):=by
    rcases he with z|z
    ·exact absurd (hbe.trans z) hb
    ·rw[hbe];exact z
   rw[q]at q';cases q';obtain⟨v,hv⟩:=heo;exact⟨v,by rw[hbe];exact hv⟩
  ·refine(ok b u q).stay (fun c v hc r=>k c v ?_ r) (fun c r=>by rw[ZH (nown c b r)];exact r) fun c xs r=>by rw[ZH (ntup c xs r)];exact r
   rcases hc with rfl|hc
   ·exact hbe
   ·rintro rfl;rcases he with z|z
    ·exact nown c b hc z
    ·rw[hc]at z;cases z;exact hb rfl
structure Un(fs ex:List Addr) (H H':Hp) (h h':Heap):Prop where
 keep:∀b o,h.get? b=some o->H b=none->b∉fs->b∉ex->h'.get? b=some o
 slot:∀b o,h.get? b=some o->H b=none->b∈fs->b∉ex->∃sl,h'.get? b=some {o with slots:=sl}
 free:∀b o,h.get? b=some o->H b=none->b∉ex->H' b=none
 there:∀b o,h.get? b=some o->b∉ex->∃o',h'.get? b=some o'
 tups:∀b xs,H b=some (.tup xs)->H' b=some (.tup xs)
 frzs:∀b o u,H b=some (.frz o u)->H' b=some (.frz o u)
 tbls:∀b ps,H b=some (.tbl ps)->∃more,H' b=some (.tbl (ps++more))
theorem Un.any(u:Un fs ex H H1 h h1)(q:h.get? b=some ob)(n:H b=none)(hx:b∉ex):∃sl,h1.get? b=some {ob with slots:=sl}:=by
 by_cases hb:b∈fs
 ·exact u.slot b ob q n hb hx
 ·exact⟨ob.slots,u.keep b ob q n hb hx⟩
theorem Un.kept(k:∀b u,h.get? b=some u->h'.get? b=some u):Un fs ex H H h h':=
 ⟨fun b ob q _ _ _=>k b ob q,fun b ob q _ _ _=>⟨ob.slots,k b ob q⟩,fun _ _ _ n _=>n,fun b ob q _=>⟨ob,k b ob q⟩,fun _ _ q=>q,fun _ _ _ q=>q,fun _ ps q=>⟨#[],by rw[q];simp⟩⟩
theorem Un.refl:Un fs ex H H h h:=Un.kept fun _ _ q=>q
theorem Un.laid(k:∀b u,h.get? b=some u->h'.get? b=some u)(hp:h.objs.size<=a)(hn:H a=none):Un fs ex H (upd H a o) h h' where
 keep:=fun b u q _ _ _=>k b u q
 slot:=fun b u q _ _ _=>⟨u.slots,k b u q⟩
 free:=fun b u q n _=>by rw[ZH (aE (ai (Hz q) hp))];exact n
 there:=fun b u q _=>⟨u,k b u q⟩
 tups:=fun b xs q=>by rw[ZH (ZU q hn)];exact q
 frzs:=fun b u xs q=>by rw[ZH (ZU q hn)];exact q
 tbls:=fun b ps q=>⟨#[],by rw[ZH (ZU q hn),q];simp⟩
theorem Un.write(mu:Mut (H x))(he:e=x\/H e=some (.own x))(k:∀b u,b≠e->h.get? b=some u->h'.get? b=some u)(heo:∃u,h'.get? e=some u):Un fs ex H (upd H x o) h h':=by
 have hx:∀b,H b=none->b≠x:=fun b n z=>by subst z;rw[n]at mu;exact mu
 have hb:∀b,H b=none->b≠e:=fun b n z=>by
  subst z;rcases he with r|r
  ·exact hx b n r
  ·rw[n]at r;cases r
 have hm:∀b u,H b=some u->¬Mut (some u)->b≠x:=fun b u q nm z=>by subst z;rw[q]at mu;exact nm mu
 refine⟨fun b u q n _ _=>k b u (hb b n) q,fun b u q n _ _=>⟨u.slots,k b u (hb b n) q⟩,fun b u q n _=>by rw[ZH (hx b n)];exact n,fun b u q _=>?_,
  fun b xs q=>by rw[ZH (hm b _ q fun z=>z)];exact q,fun b u xs q=>by rw[ZH (hm b _ q fun z=>z)];exact q,fun b ps q=>⟨#[],by rw[ZH (hm b _ q fun z=>z),q];simp⟩⟩
 by_cases hbe:b=e
 ·subst hbe;exact heo
 ·exact⟨u,k b u hbe q⟩
noncomputable def trk(h:Heap)(H:Hp):List Addr:=(aH h.objs.size).filter fun a=>(H a).isSome
def Zjv(h:Heap)(H:Hp):Heap:=PySem.W.hideAll h (trk h H)
theorem Zhh(h:Heap)(H:Hp):(Zjv h H).objs.size=h.objs.size:=PySem.W.hideAll_size _ _
theorem ZfU(e:h.get? b=some o)(n:H b=none):(Zjv h H).get? b=some o:=
 PySem.W.hideAll_get _ e fun hm=>by
  have q:(H b).isSome=true:=(gF.mp hm).2;rw[n]at q;simp at q
theorem Zhi(e:(Zjv h H).get? b=some o):h.get? b=some o/\H b=none:=by
 have e':h.get? b=some o:=PySem.W.of_hideAll (trk h H) e;refine⟨e',?_⟩;cases q:H b with
 |none=>rfl
 |some x=>
  have hm:b∈trk h H:=gF.mpr ⟨bv.mpr (Hz e'),by simp[q]⟩
  have z:(Zjv h H).get? b=none:=PySem.W.hideAll_none (trk h H) hm;rw[z]at e;cases e
noncomputable def Zl4(g h:Heap)(L:Addr):Pn:=(aH h.objs.size).filterMap fun a=>if a=L\/(g.get? a).isSome=true then none else(h.get? a).map fun o=>(a,o)
def Zav(g h:Heap)(L d:Addr):Pn:=(Zl4 g h L).filter fun p=>decide (p.1≠d)
structure Mod(K:Fg) (mg:Str->Option ae) (base:Heap):Prop where
 kin:K.In base
 glob:base.Ns aO mg
 blt:∃mb,base.Ns gM mb/\∀x:Str,x≠"__name__"->mb x=bM x
 nolimit:base.NoLimit
structure Cx where
 prog:cH
 w:c8
 K:Fg
 mg:Str->Option ae
 base:Heap
 A:dR
 N:List Str
 s₀:aC
 H₀:Hp
 env:Env
 outer:List Env
 stack:List Env
 ex:List Addr
 fn:Str->Bool
 calm:Bool
 pn:Pn
 xe:Vp
 fxs:Option (List Bool×List (Option V))
noncomputable def frs(l:List Env):List Addr:=l.filterMap (·.frame)
abbrev Cx.fs(X:Cx):List Addr:=frs X.outer
noncomputable def Vis(sc:js)(x:Str):Prop:=sc.names.lookup x=some .local\/sc.names.lookup x=some .cell\/sc.names.lookup x=some .free
noncomputable def Loc(sc:js)(x:Str):Prop:=sc.names.lookup x=some .local\/sc.names.lookup x=some .cell
noncomputable def ZuO(env:Env)(h:Heap)(m:Str->Option ae)(x:Str)(u:ae):Prop:=
 (env.kindOf x=some .local/\m x=some u)\/((env.kindOf x=some .cell\/env.kindOf x=some .free)/\∃c,env.cells.lookup x=some c/\h.IsCell c (some u))
noncomputable def TbP(K:Fg)(P:Addr):Prop:=∃(c:Addr) (o:Obj) (vs:Array ae),K.lookup c=some o/\o.cls=.type "code"/\o.data=.fields vs/\vs[11]?=some (.ref P)
def Tbs(K:Fg)(H:Hp):Prop:=∀P,TbP K P->∃ps,H P=some (.tbl ps)
theorem Tbs.un{K:Fg}(t:Tbs K H)(u:Un fs ex H H' h h'):Tbs K H':=fun P z=>let ⟨ps,e⟩:=t P z;let ⟨m,e'⟩:=u.tbls P ps e;⟨_,e'⟩
structure Cx.Ok(X:Cx):Prop where
 mod:Mod X.K X.mg X.base
 kind:X.env.scope.kind=.function
 glob:X.env.globals=aO
 blt:X.env.builtins=gM
 above:X.s₀.heap.objs.size<=X.env.locals
 inj:∀x y c,X.env.cells.lookup x=some c->X.env.cells.lookup y=some c->x=y
 has:∀x,(X.env.kindOf x=some .cell\/X.env.kindOf x=some .free)->∃c,X.env.cells.lookup x=some c
 cab:∀x c,X.fn x=true->X.env.cells.lookup x=some c->X.s₀.heap.objs.size<=c
 hd:X.calm=true->X.A.handled=none
 frames:X.A.frames=some X.stack
 stk:X.stack=X.outer\/(X.stack=X.env::X.outer/\X.env.frame=some X.env.locals)
 exf:∀b∈X.ex,b≠X.env.locals/\∀x c,X.env.cells.lookup x=some c->c≠b
 bs:∀b o,X.base.get? b=some o->X.s₀.heap.get? b=some o/\X.H₀ b=none
 bsz:X.base.objs.size<=X.s₀.heap.objs.size
 noex:∀b o,X.base.get? b=some o->b∉X.ex
 exfs:∀b∈X.ex,b∉X.fs
 funs:X.s₀.heap.FunFrames X.base X.outer
 frf:∀b∈X.fs,X.H₀ b=none
 tb:Tbs X.K X.H₀
noncomputable def Qd(A:dR)(H:Hp):Prop:=A.handled=none\/∃ea oe u vs,A.handled=some (.ref ea)/\H ea=some (.frz oe u)/\oe.data=.fields vs/\vs[2]?=some .none
theorem Qd.mono(q:Qd A H)(k:∀b o u,H b=some (.frz o u)->H' b=some (.frz o u)):Qd A H':=by
 rcases q with q|⟨ea,oe,u,vs,e1,e2,e3,e4⟩
 ·exact .inl q
 ·exact .inr ⟨ea,oe,u,vs,e1,k _ _ _ e2,e3,e4⟩
noncomputable def Cx.may(X:Cx)(i:Nat):Bool:=match X.fxs with|none=>true|some (W,_)=>W[i]? == some true
noncomputable def Cx.Fx(X:Cx)(σ:List (Option V)):Prop:=∀W σ0,X.fxs=some (W,σ0)->∀j:Nat,W[j]?=some false->σ[j]?=σ0[j]?
theorem Cx.Fx.free {X:Cx}(h:X.fxs=none):X.Fx σ:=fun W σ0 e=>by rw[h]at e;cases e
theorem Cx.Fx.set {X:Cx}(h:X.Fx σ)(m:X.may i=true):X.Fx (σ.set i v):=fun W σ0 e j hj=>by
 have ne:i≠j:=fun z=>by
  unfold Cx.may at m;rw[e,z]at m;have m':(W[j]? == some true)=true:=m;rw[hj]at m';cases m'
 rw[aM ne];exact h W σ0 e j hj
structure Inv(X:Cx) (pins:Pn) (σ:List (Option V)) (H:Hp) (s:aC):Prop where
 ok:X.Ok
 os:s.os=X.s₀.os
 bare:iO s.gens
 base:Un X.fs X.ex X.H₀ H X.s₀.heap s.heap
 loc:∃m,s.heap.Ns X.env.locals m/\∀(i:Nat)(x:Str)(v:V),X.N[i]?=some x->σ[i]?=some (some v)->Vis X.env.scope x->∃u,Z8 v u/\ZuO X.env s.heap m x u
 cell:∀x c,X.env.cells.lookup x=some c->∃v,s.heap.IsCell c v
 free:H X.env.locals=none
 freeC:∀x c,X.env.cells.lookup x=some c->H c=none
 pin:∀p∈X.pn++pins,s.heap.get? p.1=some p.2/\H p.1=none/\p.1≠X.env.locals/\p.1∉X.fs/\∀v,p.2.data≠ .cell v
 hok:HOk X.prog X.w H s.heap
 len:σ.length=X.N.length
 qd:Qd X.A H
 fx:X.Fx σ
section
variable {X:Cx}
theorem Cx.Ok.nofr (ok:X.Ok)(e:X.base.get? b=some o):b∉X.fs:=fun hb=>by
 have:=(ok.funs.mem hb).1
 rw[e]at this;cases this
theorem Inv.bs(I:Inv X pins σ H s):∀b o,X.base.get? b=some o->s.heap.get? b=some o/\H b=none:=fun b o e=>
 ⟨I.base.keep b o (I.ok.bs b o e).1 (I.ok.bs b o e).2 (I.ok.nofr e) (I.ok.noex b o e),I.base.free b o (I.ok.bs b o e).1 (I.ok.bs b o e).2 (I.ok.noex b o e)⟩
theorem Inv.qh(I:Inv X pins σ H s):DQ.Za3 X.A s.heap:=by
 rcases I.qd with q|⟨ea,oe,u,vs,e1,e2,e3,e4⟩
 ·exact .inl q
 ·exact .inr ⟨ea,oe,vs,e1,(I.hok _ _ e2).1,e3,e4⟩
theorem Inv.bk(I:Inv X pins σ H s):∀b o,X.base.get? b=some o->s.heap.get? b=some o:=fun b o e=>(I.bs b o e).1
theorem Inv.mod(I:Inv X pins σ H s):Mod X.K X.mg X.base:=I.ok.mod
theorem Inv.kIn(I:Inv X pins σ H s):X.K.In s.heap:=I.ok.mod.kin.keeps I.bk
theorem Inv.nolimit(I:Inv X pins σ H s):s.heap.NoLimit:=I.ok.mod.nolimit.keeps I.bk
theorem Inv.fr(I:Inv X pins σ H s):∃m,Fr X.base X.env.locals s.heap m:=
 let ⟨m,hn,_⟩:=I.loc
 ⟨m,hn,I.bk,aT I.ok.bsz I.ok.above⟩
theorem Inv.lt(I:Inv X pins σ H s):X.env.locals<s.heap.objs.size:=let ⟨_,hn,_⟩:=I.loc;hn.lt
theorem Inv.sz(I:Inv X pins σ H s):X.s₀.heap.objs.size<=s.heap.objs.size:=aT I.ok.above (dI I.lt)
theorem Inv.nofs(I:Inv X pins σ H s){a:Addr}(h:s.heap.objs.size<=a):a∉X.fs:=fun hb=>by
 obtain⟨_,o,ho,_⟩:=I.ok.funs.mem hb;exact absurd (ai (Hz ho) (aT I.sz h)) (cG _)
theorem Inv.cne(I:Inv X pins σ H s):∀x c,X.env.cells.lookup x=some c->c≠X.env.locals:=fun x c e z=>by
 obtain⟨v,o,ho,hd⟩:=I.cell x c e;obtain⟨m,⟨o',es,ep,ho',hd',_⟩,_⟩:=I.loc;rw[z,ho']at ho;cases ho;rw[hd']at hd;cases hd
theorem Inv.funs(I:Inv X pins σ H s):s.heap.FunFrames X.base X.outer:=by
 have all:∀(l:List Env),(∀b∈frs l,b∈X.fs)->X.s₀.heap.FunFrames X.base l->s.heap.FunFrames X.base l:=by
  intro l
  induction l with
  |nil=>intro _ _;trivial
  |cons env r ih=>
   intro hs hl;obtain⟨hk,⟨L,o,hf,hn,ho,hd⟩,hr⟩:=hl;have hL:L∈X.fs:=hs L (by unfold frs;rw[dG,hf];exact bX)
   obtain⟨sl,e⟩:=I.base.slot L o ho (I.ok.frf L hL) hL fun z=>I.ok.exfs L z hL;exact⟨hk,⟨L,_,hf,hn,e,hd⟩,ih (fun b hb=>hs b (by unfold frs;rw[dG,hf];exact aG _ hb)) hr⟩
 exact all X.outer (fun _ hb=>hb) I.ok.funs
theorem Inv.stack(I:Inv X pins σ H s):s.heap.FunFrames X.base X.stack:=by
 rcases I.ok.stk with e|⟨e,hf⟩
 ·rw[e];exact I.funs
 ·rw[e];obtain⟨m,hn,_⟩:=I.loc;refine .cons (by rw[I.ok.kind];decide) hf hn ?_ I.funs
  exact ni.get?_none_of_le (aT I.ok.bsz I.ok.above)
theorem Inv.stkSub(I:Inv X pins σ H s):∀b∈frs X.stack,b∈X.env.locals::X.fs:=fun b hb=>by
 rcases I.ok.stk with e|⟨e,hf⟩
 ·rw[e]at hb;exact aG _ hb
 ·rw[e]at hb;unfold frs at hb;rw[dG,hf]at hb;exact hb
theorem Inv.stkFree(I:Inv X pins σ H s):∀b∈frs X.stack,H b=none:=fun b hb=>by
 rcases ar.mp (I.stkSub b hb)with e|hb
 ·rw[e];exact I.free
 ·obtain⟨_,o,ho,_⟩:=I.ok.funs.mem hb;exact I.base.free b o ho (I.ok.frf b hb) fun z=>I.ok.exfs b z hb
theorem Inv.step{ch:List Addr}(I:Inv X pins σ H s)(hch:∀b∈ch,(b∈X.ex\/X.s₀.heap.objs.size<=b)/\b≠X.env.locals/\(∀x c,X.env.cells.lookup x=some c->c≠b)/\∀p∈X.pn++pins,p.1≠b)(keep:∀b o,b≠X.env.locals->b∉X.fs->b∉ch->s.heap.get? b=some o->H b=none->h'.get? b=some o)(slot:∀b o,b≠X.env.locals->b∈X.fs->b∉ch->s.heap.get? b=some o->H b=none->∃sl,h'.get? b=some {o with slots:=sl})(free:∀b o,b∉ch->s.heap.get? b=some o->H b=none->H' b=none)(there:∀b o,b∉ch->s.heap.get? b=some o->∃o',h'.get? b=some o')(tups:∀b xs,H b=some (.tup xs)->H' b=some (.tup xs))(frzs:∀b o u,H b=some (.frz o u)->H' b=some (.frz o u))(tbls:∀b ps,H b=some (.tbl ps)->∃more,H' b=some (.tbl (ps++more)))(ns:∀m,s.heap.Ns X.env.locals m->h'.Ns X.env.locals m)(hok:HOk X.prog X.w H' h')(hg:iO g'):Inv X pins σ H' {s with heap:=h',gens:=g',drawn:=d',toks:=t'}:=by
 have neL:∀b o,X.s₀.heap.get? b=some o->b≠X.env.locals:=fun b o e=>aE (ai (Hz e) I.ok.above);have neC:∀b o,X.s₀.heap.get? b=some o->b∉X.ex->b∉ch:=fun b o e hx hb=>by
  rcases(hch b hb).1 with z|z
  ·exact hx z
  ·exact absurd (ai (Hz e) z) (cG _)
 have cellK:∀x c,X.env.cells.lookup x=some c->∀v,s.heap.IsCell c v->h'.IsCell c v:=fun x c e v ⟨o,ho,hd⟩=>by
  have nch:c∉ch:=fun z=>(hch c z).2.2.1 x c e rfl;by_cases hc:c∈X.fs
  ·obtain⟨sl,q⟩:=slot c o (I.cne x c e) hc nch ho (I.freeC x c e);exact⟨_,q,hd⟩
  ·exact⟨o,keep c o (I.cne x c e) hc nch ho (I.freeC x c e),hd⟩
 refine⟨I.ok,I.os,hg,⟨fun b o e n hb hx=>?_,fun b o e n hb hx=>?_,fun b o e n hx=>?_,fun b o e hx=>?_,fun b xs e=>tups b xs (I.base.tups b xs e),fun b o xs e=>frzs b o xs (I.base.frzs b o xs e),fun b ps e=>?_⟩,?_,fun x c e=>?_,?_,fun x c e=>?_,fun p hp=>?_,hok,I.len,I.qd.mono frzs,I.fx⟩
 ·exact keep b o (neL b o e) hb (neC b o e hx) (I.base.keep b o e n hb hx) (I.base.free b o e n hx)
 ·obtain⟨sl,e1⟩:=I.base.slot b o e n hb hx;obtain⟨sl',e2⟩:=slot b _ (neL b o e) hb (neC b o e hx) e1 (I.base.free b o e n hx);exact⟨sl',e2⟩
 ·obtain⟨o',e1⟩:=I.base.there b o e hx;exact free b o' (neC b o e hx) e1 (I.base.free b o e n hx)
 ·obtain⟨o',e1⟩:=I.base.there b o e hx;exact there b o' (neC b o e hx) e1
 ·obtain⟨m1,e1⟩:=I.base.tbls b ps e;obtain⟨m2,e2⟩:=tbls b _ e1;exact⟨m1++m2,by rw[e2,Array.append_assoc]⟩
 ·obtain⟨m,hn,hl⟩:=I.loc;refine⟨m,ns m hn,fun i x v e1 e2 e3=>?_⟩;obtain⟨u,r,l⟩:=hl i x v e1 e2 e3;refine⟨u,r,?_⟩;rcases l with l|⟨k,c,e,z⟩
  ·exact .inl l
  ·exact .inr ⟨k,c,e,cellK x c e _ z⟩
 ·obtain⟨v,z⟩:=I.cell x c e;exact⟨v,cellK x c e v z⟩
 ·obtain⟨m,⟨o,_,_,ho,_⟩,_⟩:=I.loc;exact free _ o (fun z=>(hch _ z).2.1 rfl) ho I.free
 ·obtain⟨v,o,ho,hd⟩:=I.cell x c e;exact free c o (fun z=>(hch c z).2.2.1 x c e rfl) ho (I.freeC x c e)
 ·obtain⟨e,n,ne,nf,d⟩:=I.pin p hp;have nch:p.1∉ch:=fun z=>(hch p.1 z).2.2.2 p hp rfl;exact⟨keep p.1 p.2 ne nf nch e n,free p.1 p.2 nch e n,ne,nf,d⟩
theorem Inv.un(I:Inv X pins σ H s)(u:Un X.fs [] H H' s.heap h')(hok:HOk X.prog X.w H' h'):Inv X pins σ H' {s with heap:=h',toks:=t'}:=by
 obtain⟨m,⟨o,es,ep,ho,r⟩,_⟩:=id I.loc;obtain⟨sl,hL⟩:=u.any ho I.free (by simp)
 exact I.step (g':=s.gens) (d':=s.drawn) (ch:=[]) (fun _ z=>nomatch z) (fun b o _ hb _ e n=>u.keep b o e n hb (by simp)) (fun b o _ hb _ e n=>u.slot b o e n hb (by simp)) (fun b o _ e n=>u.free b o e n (by simp)) (fun b o _ e=>u.there b o e (by simp)) u.tups u.frzs u.tbls (fun m' hm=>by
  obtain⟨o',es',ep',ho',r'⟩:=hm;rw[ho]at ho';cases ho';exact⟨_,es',ep',hL,r'⟩) hok I.bare
theorem Inv.call(I:Inv X pins σ H s)(u:Un (frs X.stack) ch H H' s.heap h')(hok:HOk X.prog X.w H' h')(hg:iO g')(hch:∀b∈ch,(b∈X.ex\/X.s₀.heap.objs.size<=b)/\b≠X.env.locals/\(∀x c,X.env.cells.lookup x=some c->c≠b)/\∀p∈X.pn++pins,p.1≠b):Inv X pins σ H' {s with heap:=h',gens:=g',drawn:=d',toks:=t'}:=by
 obtain⟨m,⟨o,es,ep,ho,r⟩,_⟩:=id I.loc;obtain⟨sl,hL⟩:=u.any ho I.free fun z=>(hch _ z).2.1 rfl;exact I.step (ch:=ch) hch (fun b o hL hb hc e n=>u.keep b o e n (fun z=>(ar.mp (I.stkSub b z)).elim hL hb) hc) (fun b o _ _ hc e n=>u.any e n hc) (fun b o hc e n=>u.free b o e n hc) (fun b o hc e=>u.there b o e hc) u.tups u.frzs u.tbls (fun m' hm=>by
  obtain⟨o',es',ep',ho',r'⟩:=hm;rw[ho]at ho';cases ho';exact⟨_,es',ep',hL,r'⟩) hok hg
theorem Inv.turned(I:Inv X pins σ H s)(k:∀b o,b≠it->s.heap.get? b=some o->h'.get? b=some o)(hn:H it=none)(hL:it≠X.env.locals)(h1:it∈X.ex\/X.s₀.heap.objs.size<=it)(h2:∀x c,X.env.cells.lookup x=some c->c≠it)(h3:∀p∈X.pn++pins,p.1≠it):Inv X pins σ H {s with heap:=h',toks:=t'}:=by
 have nit:∀b u,H b=some u->b≠it:=fun b u e z=>by rw[z,hn]at e;cases e
 refine I.step (g':=s.gens) (d':=s.drawn) (ch:=[it]) (fun b hb=>?_) (fun b o _ _ hc e _=>k b o (fun z=>hc (by simp[z])) e) (fun b o _ _ hc e _=>⟨o.slots,k b o (fun z=>hc (by simp[z])) e⟩) (fun _ _ _ _ n=>n)
  (fun b o hc e=>⟨o,k b o (fun z=>hc (by simp[z])) e⟩) (fun _ _ e=>e) (fun _ _ _ e=>e) (fun b ps e=>⟨#[],by rw[e];simp⟩) (fun m hm=>?_) (fun b u e=>?_) I.bare
 ·have e:b=it:=by simpa using hb
  subst e;exact⟨h1,hL,h2,h3⟩
 ·obtain⟨o,es,ep,ho,r⟩:=hm;exact⟨o,es,ep,k _ o (bV hL) ho,r⟩
 ·refine(I.hok b u e).stay (fun c v hc q=>k c v ?_ q) (fun _ q=>q) fun _ _ q=>q;rcases hc with z|z
  ·rw[z];exact nit b u e
  ·exact nit c _ z
theorem Inv.tok(I:Inv X pins σ H s)(t:Nat):Inv X pins σ H {s with toks:=t}:=I.un (h':=s.heap) (t':=t) Un.refl I.hok
theorem Inv.kept(I:Inv X pins σ H s)(k:∀b u,s.heap.get? b=some u->h'.get? b=some u):Inv X pins σ H {s with heap:=h',toks:=t'}:=I.un (Un.kept k) (I.hok.kept k)
theorem Inv.laid(I:Inv X pins σ H s)(k:∀b u,s.heap.get? b=some u->h'.get? b=some u)(hp:s.heap.objs.size<=a)(new:ZaW X.prog X.w (upd H a o) h' a o):Inv X pins σ (upd H a o) {s with heap:=h',toks:=t'}:=I.un (Un.laid k hp (I.hok.fresh hp)) (I.hok.laid k hp new)
theorem Inv.write(I:Inv X pins σ H s)(mu:Mut (H x))(he:e=x\/H e=some (.own x))(k:∀b u,b≠e->s.heap.get? b=some u->h'.get? b=some u)(heo:∃u,h'.get? e=some u)(new:ZaW X.prog X.w (upd H x o) h' x o):Inv X pins σ (upd H x o) {s with heap:=h',toks:=t'}:=I.un (Un.write mu he k heo) (I.hok.write mu he k heo new)
theorem Inv.pins_of(I:Inv X pins σ H s)(h:∀p∈pins',s.heap.get? p.1=some p.2/\H p.1=none/\p.1≠X.env.locals/\p.1∉X.fs/\∀v,p.2.data≠ .cell v):Inv X pins' σ H s:=
 ⟨I.ok,I.os,I.bare,I.base,I.loc,I.cell,I.free,I.freeC,fun p hp=>(aY.mp hp).elim (fun z=>I.pin p (iR _ z)) (h p),I.hok,I.len,I.qd,I.fx⟩
theorem ZfV{N:List Str}(hN:N.Nodup){i:Nat}(a:N[i]?=some x)(b:N[j]?=some x):i=j:=by
 obtain⟨h1,e1⟩:=aq.mp a;obtain⟨h2,e2⟩:=aq.mp b;exact(List.getElem_inj hN).mp (e1.trans e2.symm)
theorem Zem(I:Inv X pins σ H s)(hN:X.N.Nodup)(hi:X.N[i]?=some x)(hx:Loc X.env.scope x)(hm:X.may i=true)(r:Z8 v u)(h:∀s',Inv X pins (σ.set i (some v)) H s'->(∃a,hU a s.heap s'.heap/\(a=X.env.locals\/X.env.cells.lookup x=some a))->Q () s')(hf:X.fn x=true\/X.env.scope.names.lookup x=some .local:=by first|exact .inl rfl|exact .inr rfl|assumption):wpAny M A (storeName X.env x u) Q E s:=by
 obtain⟨m,hn,hl⟩:=id I.loc;have hcls:(X.env.scope.kind == .class||(X.env.scope.kind == .module&&X.env.locals != X.env.globals))=false:=by rw[I.ok.kind];rfl
 have hiσ:i<σ.length:=by rw[I.len];exact(aq.mp hi).1
 have cne:=I.cne;have tracked:∀{a:Addr}{h':Heap},(∃o,s.heap.get? a=some o/\H a=none)->hU a s.heap h'->HOk X.prog X.w H h':=fun{a h'} ha hs b ob e=>by
  obtain⟨_,_,hfree⟩:=ha;refine(I.hok b ob e).stay (fun c w' hc q=>(hs.2 c ?_).trans q) (fun _ q=>q) fun _ _ q=>q;rintro rfl;rcases hc with rfl|hc
  ·rw[hfree]at e;cases e
  ·rw[hfree]at hc;cases hc
 rcases hx with hk|hk
 ·refine wpAny_storeName_local hk hn (fun h' hn' hs=>?_) hcls;obtain⟨oL,_,_,hoL,_⟩:=id hn;refine h _ ⟨I.ok,I.os,I.bare,⟨fun b o e n hb hx=>?_,fun b o e n hb hx=>?_,I.base.free,fun b o e hx=>?_,I.base.tups,I.base.frzs,I.base.tbls⟩,⟨_,hn',fun j y v' e1 e2 e3=>?_⟩,fun y c e=>?_,I.free,I.freeC,fun p hp=>?_,tracked ⟨oL,hoL,I.free⟩ hs,by simpa using I.len,I.qd,I.fx.set hm⟩ ⟨_,hs,.inl rfl⟩
  ·exact(hs.2 b (aE (ai (Hz e) I.ok.above))).trans (I.base.keep b o e n hb hx)
  ·obtain⟨sl,e1⟩:=I.base.slot b o e n hb hx;exact⟨sl,(hs.2 b (aE (ai (Hz e) I.ok.above))).trans e1⟩
  ·obtain⟨o',e1⟩:=I.base.there b o e hx;exact⟨o',(hs.2 b (aE (ai (Hz e) I.ok.above))).trans e1⟩
  ·by_cases hj:j=i
   ·subst hj;rw[hi]at e1;cases e1;rw[aN hiσ]at e2;cases e2;exact⟨u,r,.inl ⟨hk,by simp⟩⟩
   ·rw[aM (bV hj)]at e2;obtain⟨u',r',q⟩:=hl j y v' e1 e2 e3;refine⟨u',r',?_⟩;rcases q with⟨k,e⟩|⟨k,c,e,z⟩
    ·refine .inl ⟨k,?_⟩
     have:y≠x:=fun e=>hj (ZfV hN e1 (e▸hi))
     simp[this,e]
    ·exact .inr ⟨k,c,e,z.sameBut hs (cne y c e)⟩
  ·obtain⟨w',z⟩:=I.cell y c e;exact⟨w',z.sameBut hs (cne y c e)⟩
  ·obtain⟨e,n,ne,nf,d⟩:=I.pin p hp;exact⟨(hs.2 p.1 ne).trans e,n,ne,nf,d⟩
 ·have hfn:X.fn x=true:=by
   rcases hf with z|z
   ·exact z
   ·rw[z]at hk;cases hk
  obtain⟨c,hc⟩:=I.ok.has x (.inl hk);obtain⟨w',z⟩:=I.cell x c hc;refine wpAny_storeName_cell I.ok.kind hk hc z (fun h' hc' hs=>?_);obtain⟨oc,hoc,hocd⟩:=id z;refine h {s with heap:=h'} ⟨I.ok,I.os,I.bare,⟨fun b o e n hb hx=>?_,fun b o e n hb hx=>?_,I.base.free,fun b o e hx=>?_,I.base.tups,I.base.frzs,I.base.tbls⟩,⟨m,hn.sameBut hs (bV (cne x c hc)),fun j y v' e1 e2 e3=>?_⟩,fun y c' e=>?_,I.free,I.freeC,fun p hp=>?_,tracked ⟨oc,hoc,I.freeC x c hc⟩ hs,by simpa using I.len,I.qd,I.fx.set hm⟩ ⟨c,hs,.inr hc⟩
  ·exact(hs.2 b (aE (ai (Hz e) (I.ok.cab x c hfn hc)))).trans (I.base.keep b o e n hb hx)
  ·obtain⟨sl,e1⟩:=I.base.slot b o e n hb hx;exact⟨sl,(hs.2 b (aE (ai (Hz e) (I.ok.cab x c hfn hc)))).trans e1⟩
  ·obtain⟨o',e1⟩:=I.base.there b o e hx;exact⟨o',(hs.2 b (aE (ai (Hz e) (I.ok.cab x c hfn hc)))).trans e1⟩
  ·by_cases hj:j=i
   ·subst hj;rw[hi]at e1;cases e1;rw[aN hiσ]at e2;cases e2;exact⟨u,r,.inr ⟨.inl hk,c,hc,hc'⟩⟩
   ·rw[aM (bV hj)]at e2;obtain⟨u',r',q⟩:=hl j y v' e1 e2 e3;refine⟨u',r',?_⟩;rcases q with q|⟨k,c',e,z'⟩
    ·exact .inl q
    ·refine .inr ⟨k,c',e,z'.sameBut hs ?_⟩;rintro rfl;exact hj (ZfV hN e1 (I.ok.inj _ _ _ e hc▸hi))
  ·by_cases hcc:c'=c
   ·subst hcc;exact⟨_,hc'⟩
   ·obtain⟨w2,z2⟩:=I.cell y c' e;exact⟨w2,z2.sameBut hs hcc⟩
  ·obtain⟨e,n,ne,nf,d⟩:=I.pin p hp;refine⟨(hs.2 p.1 ?_).trans e,n,ne,nf,d⟩;intro q;rw[q,hoc]at e;have q':oc=p.2:=aX e;exact d w' (by rw[<-q'];exact hocd)
theorem ZcK(I:Inv X pins σ H s)(hN:X.N.Nodup)(hi:X.N[i]?=some x)(hx:Loc X.env.scope x)(hm:X.may i=true)(r:Z8 v u)(h:∀s',Inv X pins (σ.set i (some v)) H s'->Q () s')(hf:X.fn x=true\/X.env.scope.names.lookup x=some .local:=by first|exact .inl rfl|exact .inr rfl|assumption):wpAny M A (storeName X.env x u) Q E s:=
 Zem I hN hi hx hm r (fun s' I' _=>h s' I') hf
theorem Inv.call'(I:Inv X pins σ H s)(ho:s'.os=s.os)(u:Un (frs X.stack) ch H H' s.heap s'.heap)(hok:HOk X.prog X.w H' s'.heap)(hg:iO s'.gens)(hch:∀b∈ch,(b∈X.ex\/X.s₀.heap.objs.size<=b)/\b≠X.env.locals/\(∀x c,X.env.cells.lookup x=some c->c≠b)/\∀p∈X.pn++pins,p.1≠b):Inv X pins σ H' s':=by
 obtain⟨h',g',d',t',o'⟩:=s';have e:o'=s.os:=ho;subst e;exact I.call (g':=g') (t':=t') (d':=d') u hok hg hch
end
abbrev XK:=ae->Option Addr->Hp->Prop
noncomputable abbrev St:=List (Option V)
abbrev VK:=V->Hp->Prop
abbrev TE:=St->Hp->VK->Prop
abbrev TT:=St->Hp->(Bool->Hp->Prop)->Prop
abbrev TA:=St->Hp->(List V->Hp->Prop)->Prop
structure Ends where
 nx:St->Hp->Prop
 rt:VK
 bk:St->Hp->Prop:=fun _ _=>False
 ct:St->Hp->Prop:=fun _ _=>False
abbrev TS:=Ends->St->Hp->Prop
def EP(X:Cx)(pins:Pn)(σ:St)(Q:VK)(u:ae)(s':aC):Prop:=∃v H',Inv X pins σ H' s'/\Z8 v u/\Q v H'
noncomputable def TP(X:Cx)(pins:Pn)(σ:St)(Q:Bool->Hp->Prop)(b:Bool)(s':aC):Prop:=∃H',Inv X pins σ H' s'/\Q b H'
def AP(X:Cx)(pins:Pn)(σ:St)(Q:List V->Hp->Prop)(us:List ae)(s':aC):Prop:=∃vs H',Inv X pins σ H' s'/\Z1 vs us/\Q vs H'
def SP(X:Cx)(pins:Pn)(D:Ends)(f:Flow)(s':aC):Prop:=
 match f with
 |.next=>∃σ' H',Inv X pins σ' H' s'/\D.nx σ' H'
 |.brk=>∃σ' H',Inv X pins σ' H' s'/\D.bk σ' H'
 |.cont=>∃σ' H',Inv X pins σ' H' s'/\D.ct σ' H'
 |.ret u=>∃v σ' H',Inv X pins σ' H' s'/\Z8 v u/\D.rt v H'
def PE(X:Cx)(e:Expr)(t:TE):Prop:=
 ∀(pins:Pn)(s:aC)(σ:St)(H:Hp)(Q:VK),Inv X pins σ H s->t σ H Q->wpAny (az X.prog X.w) X.A (eval e X.env) (EP X pins σ Q) X.xe s
def PT(X:Cx)(e:Expr)(t:TT):Prop:=
 ∀(pins:Pn)(s:aC)(σ:St)(H:Hp)(Q:Bool->Hp->Prop),Inv X pins σ H s->t σ H Q->wpAny (az X.prog X.w) X.A (isTrue e X.env (eval e X.env)) (TP X pins σ Q) X.xe s
def PW(X:Cx)(e:Expr)(t:TT):Prop:=
 ∀(whole:Sem ae)(pins:Pn)(s:aC)(σ:St)(H:Hp)(Q:Bool->Hp->Prop),Inv X pins σ H s->t σ H Q->wpAny (az X.prog X.w) X.A (isTrue e X.env whole) (TP X pins σ Q) X.xe s
theorem PW.pt(h:PW X e t):PT X e t:=h _
def PA(X:Cx)(es:List Expr)(t:TA):Prop:=
 ∀(pos:Pos)(pins:Pn)(s:aC)(σ:St)(H:Hp)(Q:List V->Hp->Prop),Inv X pins σ H s->t σ H Q->wpAny (az X.prog X.w) X.A (spliced (db pos (av es X.env))) (AP X pins σ Q) X.xe s
def PS(X:Cx)(st:Stmt)(t:TS):Prop:=
 ∀(pins:Pn)(s:aC)(σ:St)(H:Hp)(D:Ends),Inv X pins σ H s->t D σ H->wpAny (az X.prog X.w) X.A (exec st X.env) (SP X pins D) X.xe s
def PSs(X:Cx)(st:List Stmt)(t:TS):Prop:=
 ∀(pins:Pn)(s:aC)(σ:St)(H:Hp)(D:Ends),Inv X pins σ H s->t D σ H->wpAny (az X.prog X.w) X.A (execs st X.env) (SP X pins D) X.xe s
theorem thn{t:Sem α}{Q Q':α->aC->Prop}(h:wpAny M A t Q E s)(hQ:∀a s,Q a s->Q' a s):wpAny M A t Q' E s:=wpAny_mono h hQ fun _ _ x=>x
section
noncomputable def ZuP(i:Nat):TE:=fun σ H Q=>∃v,σ[i]?=some (some v)/\Q v H
noncomputable def tC(v:V):TE:=fun _ H Q=>Q v H
theorem Zoh(hN:X.N[i]?=some x)(hv:Vis X.env.scope x)(hd:autoParam ((x==("__debug__":Str))=false) Qde._auto_1)(hcd:autoParam ((x==("__classdict__":Str))=false) Qde._auto_1):PE X (.Name x pos) (ZuP i):=by
 intro pins s σ H Q I h;obtain⟨v,e,h⟩:=h;obtain⟨m,hn,hl⟩:=I.loc;obtain⟨u,r,l⟩:=hl i x v hN e hv;have fin:EP X pins σ Q u s:=⟨v,H,I,r,h⟩;rcases l with⟨hk,hm⟩|⟨hk,c,hc,hcell⟩
 ·exact wpAny_Name (wpAny_loadName_local I.ok.kind hk hn hm fin) hd
 ·rcases hk with hk|hk
  ·exact wpAny_Name (wpAny_loadName_cell I.ok.kind hk hc hcell fin) hd
  ·exact wpAny_Name (wpAny_loadName_free I.ok.kind hk hc hcell fin hcd) hd
theorem Zoi{i j pos}:PE X (.Constant (.int i) j pos) (tC (.int i)):=fun _ _ _ H _ I h=>wpAny_Constant_int ⟨.int i,H,I.tok _,⟨_,rfl⟩,h⟩
theorem ZrJ{b j pos}:PE X (.Constant (.bool b) j pos) (tC (.bl b)):=fun _ _ _ H _ I h=>Constant_bool ⟨.bl b,H,I,rfl,h⟩
theorem Zoj{j pos}:PE X (.Constant .none j pos) (tC .non):=fun _ _ _ H _ I h=>Constant_none ⟨.non,H,I,rfl,h⟩
theorem Zok{x j pos}:PE X (.Constant (.str x) j pos) (tC (.str x)):=fun _ _ _ H _ I h=>Calls.Constant_str ⟨.str x,H,I.tok _,⟨_,rfl⟩,h⟩
noncomputable def Gl(X:Cx)(x:Str):Prop:=X.env.kindOf x=some .globalImplicit
theorem Zhj(I:Inv X pins σ H s)(hg:Gl X x)(hm:X.mg x=some u)(h:Q u s)(hd:autoParam ((x==("__debug__":Str))=false) Qde._auto_1):wpAny (az X.prog X.w) X.A (eval (.Name x pos) X.env) Q E s:=
 Calls.Name_function_global I.ok.kind hg (Calls.loadGlobal_global (by rw[I.ok.glob];exact I.mod.glob.keeps I.bk) hm h) hd
theorem Zcx(I:Inv X pins σ H s)(hg:Gl X x)(hm:X.mg x=none)(hv:bM x=some u)(h:Q u s)(hn:autoParam (x≠"__name__") Qde._auto_1)(hd:autoParam ((x==("__debug__":Str))=false) Qde._auto_1):wpAny (az X.prog X.w) X.A (eval (.Name x pos) X.env) Q E s:=by
 obtain⟨mb,h1,h2⟩:=I.mod.blt;exact Calls.Name_function_global I.ok.kind hg (Calls.loadGlobal_builtin (by rw[I.ok.glob];exact I.mod.glob.keeps I.bk) hm (by rw[I.ok.blt];exact h1.keeps I.bk) ((h2 x hn).trans hv) h) hd
theorem Zl5(hg:Gl X x)(hm:X.mg x=none)(hv:bM x=some u)(r:Z8 v u)(hn:autoParam (x≠"__name__") Qde._auto_1)(hd:autoParam ((x==("__debug__":Str))=false) Qde._auto_1):PE X (.Name x pos) (tC v):=
 fun _ _ _ H _ I h=>Zcx I hg hm hv ⟨v,H,I,r,h⟩ hn hd
variable {a:Expr}
noncomputable def tB(t:TE):TT:=fun σ H Q=>t σ H fun x H1=>∃c,x=.bl c/\Q c H1
theorem Zol(h:PE X e t)(he:autoParam (∀whole,isTrue e X.env whole=(do let v <-whole;standAt e.pos;holding [v] (truthy v))) Qin._auto_1):PT X e (tB t):=by
 intro pins s σ H Q I hw;refine isTrue_plain (thn (h pins s σ H _ I hw) fun v s1 ⟨x,H1,I1,r1,q1⟩=>?_) (he _);obtain⟨d,rfl,q⟩:=q1;cases r1;exact eM ⟨H1,I1,q⟩
variable {Zav:List Expr}
noncomputable def ZuQ(t u:TT):TT:=fun σ H Q=>t σ H fun c H1=>if c=true then u σ H1 Q else Q false H1
noncomputable def tOr(t u:TT):TT:=fun σ H Q=>t σ H fun c H1=>if c=true then Q true H1 else u σ H1 Q
noncomputable def ZuR(t:TT):TT:=fun σ H Q=>t σ H fun c H1=>Q (!c) H1
theorem pw_and1(ha:PT X a tA):PW X (.BoolOp .And [a] pos) tA:=by
 intro wh pins s σ H Q I h;refine isTrue_and (thn (ha pins s σ H Q I h) fun c s1 e=>?_);cases c with
 |true=>exact isTrue_and_nil e
 |false=>exact e
theorem pw_or1(ha:PT X a tA):PW X (.BoolOp .Or [a] pos) tA:=by
 intro wh pins s σ H Q I h;refine isTrue_or (thn (ha pins s σ H Q I h) fun c s1 e=>?_);cases c with
 |false=>exact isTrue_or_nil e
 |true=>exact e
theorem pw_and(ha:PT X a tA)(hb:PW X (.BoolOp .And (b::Zav) pos) tB'):PW X (.BoolOp .And (a::b::Zav) pos) (ZuQ tA tB'):=by
 intro wh pins s σ H Q I h;refine isTrue_and (thn (ha pins s σ H _ I h) fun c s1 hz=>?_);obtain⟨H1,I1,q1⟩:=hz;cases c with
 |true=>exact hb wh pins s1 σ H1 Q I1 q1
 |false=>exact⟨H1,I1,q1⟩
theorem pw_or(ha:PT X a tA)(hb:PW X (.BoolOp .Or (b::Zav) pos) tB'):PW X (.BoolOp .Or (a::b::Zav) pos) (tOr tA tB'):=by
 intro wh pins s σ H Q I h;refine isTrue_or (thn (ha pins s σ H _ I h) fun c s1 hz=>?_);obtain⟨H1,I1,q1⟩:=hz;cases c with
 |true=>exact⟨H1,I1,q1⟩
 |false=>exact hb wh pins s1 σ H1 Q I1 q1
theorem Zom(ha:PT X a tA):PT X (.UnaryOp .Not a pos) (ZuR tA):=by
 intro pins s σ H Q I h;exact isTrue_not (ha pins s σ H (fun c H1=>Q (!c) H1) I h)
noncomputable def ZrK(ta tb:TE):TE:=fun σ H Q=>ta σ H fun x H1=>∃c,x=.bl c/\if c=true then tb σ H1 Q else Q (.bl false) H1
noncomputable def ZrL(ta:TE):TE:=fun σ H Q=>ta σ H fun x H1=>∃c,x=.bl c/\Q (.bl (!c)) H1
theorem Zon{op}(h:PE X a t):PE X (.BoolOp op [a] pos) t:=fun pins s σ H Q I hw=>BoolOp_one (h pins s σ H Q I hw)
theorem Zoo(ha:PE X a ta)(hb:PE X (.BoolOp .And (b::Zav) pos) tb):PE X (.BoolOp .And (a::b::Zav) pos) (ZrK ta tb):=by
 intro pins s σ H Q I h;refine BoolOp_and (thn (ha pins s σ H _ I h) fun v s1 hz=>?_);obtain⟨x,H1,I1,r1,q1⟩:=hz;obtain⟨c,rfl,q1⟩:=q1;cases r1;refine eM ?_;cases c with
 |true=>exact hb pins s1 σ H1 Q I1 q1
 |false=>exact⟨.bl false,H1,I1,rfl,q1⟩
theorem Zop(ha:PE X a ta):PE X (.UnaryOp .Not a pos) (ZrL ta):=by
 intro pins s σ H Q I h;refine UnaryOp_ (thn (ha pins s σ H _ I h) fun v s1 hz=>?_);obtain⟨x,H1,I1,r1,q1⟩:=hz;obtain⟨c,rfl,q1⟩:=q1;cases r1;exact not_of (eM ⟨.bl (!c),H1,I1,rfl,q1⟩)
end
def SqL(K:Fg)(H:Hp)(a:Addr)(xs:List V):Prop:=
 Rd H a (.lst xs)\/
  ∃(o:Obj) (its:Array ae) (n:Nat),K.lookup a=some o/\o.cls=.type "list"/\o.dict=none/\o.data=.seq its n/\its.size<=sizeLine/\Z1 xs its.toList
def SqT(K:Fg)(H:Hp)(a:Addr)(xs:List V):Prop:=
 Rd H a (.tup xs)\/
  ∃(o:Obj) (its:Array ae) (n:Nat),K.lookup a=some o/\o.cls=.type "tuple"/\o.data=.seq its n/\its.size<=sizeLine/\Z1 xs its.toList
noncomputable def ZuS:ae->Option V
 |.none=>some .non
 |.bool b=>some (.bl b)
 |.int i _=>some (.int i)
 |.str x _=>some (.str x)
 |.bytes b _=>some (.byt b)
 |.float b _=>some (.flt b)
 |.ref a=>some (.ref a)
 |.type n=>some (.ty n)
 |_=>none
theorem Z8.abs(r:Z8 x u):ZuS u=some x:=by
 cases x with
 |non=>cases r;rfl
 |bl _=>cases r;rfl
 |int _=>obtain⟨t,rfl⟩:=r;rfl
 |str _=>obtain⟨t,rfl⟩:=r;rfl
 |byt _=>obtain⟨t,rfl⟩:=r;rfl
 |flt _=>obtain⟨t,rfl⟩:=r;rfl
 |ref _=>cases r;rfl
 |ty _=>cases r;rfl
theorem Z8.inj(r:Z8 x u)(q:Z8 y u):x=y:=aX (r.abs.symm.trans q.abs)
theorem Z1.inj:∀{xs ys:List V}{us:List ae},Z1 xs us->Z1 ys us->xs=ys:=by
 intro xs ys us h
 induction h generalizing ys with
 |nil=>intro h;cases h;rfl
 |cons r t ih=>intro h;cases h with|cons r2 t2=>rw[r.inj r2,ih t2]
theorem SqL.of{K:Fg}(h:H a=some (.lst xs)):SqL K H a xs:=.inl (.inl h)
theorem SqT.of{K:Fg}(h:H a=some (.tup xs)):SqT K H a xs:=.inl (.inl h)
theorem Inv.list(I:Inv X pins σ H s)(h:SqL X.K H a xs):∃its:List ae,Z1 xs its/\PlainL s.heap a its.toArray/\xs.length<=sizeLine:=by
 rcases h with h|⟨o,its,n,hk,hc,hd,hs,hz,r⟩
 ·obtain⟨z,its,n,r,e⟩:=h.ok I.hok;exact⟨its,r,⟨_,n,e,rfl,rfl,rfl⟩,z⟩
 ·refine⟨its.toList,r,⟨o,n,I.kIn a o hk,hc,hd,by simpa using hs⟩,?_⟩
  have e:=r.length;simp only[gr]at e;lia
theorem Inv.tuple(I:Inv X pins σ H s)(h:SqT X.K H a xs):∃its:List ae,Z1 xs its/\IsTup s.heap a its.toArray/\xs.length<=sizeLine:=by
 rcases h with h|⟨o,its,n,hk,hc,hs,hz,r⟩
 ·obtain⟨z,its,r,p⟩:=h.ok I.hok;exact⟨its,r,p,z⟩
 ·refine⟨its.toList,r,⟨o,I.kIn a o hk,hc,n,by simpa using hs⟩,?_⟩
  have e:=r.length;simp only[gr]at e;lia
theorem Inv.list_inj(I:Inv X pins σ H s)(h:SqL X.K H a xs)(h':SqL X.K H a ys):xs=ys:=by
 obtain⟨its,r,⟨o,n,e,_,_,d⟩,_⟩:=I.list h;obtain⟨its',r',⟨o',n',e',_,_,d'⟩,_⟩:=I.list h';rw[e]at e';cases e';rw[d]at d';injection d' with d1 _
 have:its=its':=by simpa using congrArg Array.toList d1
 subst this;exact r.inj r'
theorem Inv.tuple_inj(I:Inv X pins σ H s)(h:SqT X.K H a xs)(h':SqT X.K H a ys):xs=ys:=by
 obtain⟨its,r,⟨o,e,_,n,d⟩,_⟩:=I.tuple h;obtain⟨its',r',⟨o',e',_,n',d'⟩,_⟩:=I.tuple h';rw[e]at e';cases e';rw[d]at d';injection d' with d1 _
 have:its=its':=by simpa using congrArg Array.toList d1
 subst this;exact r.inj r'
section
variable {st:Stmt}{Zav:List Stmt}{t:TS}
noncomputable def tNext:TS:=fun D σ H=>D.nx σ H
noncomputable def ZuT(t u:TS):TS:=fun D σ H=>t {D with nx:=u D} σ H
theorem Zl6:PSs X [] tNext:=fun _ _ σ H _ I h=>i6 ⟨σ,H,I,h⟩
theorem ZjE(h1:PS X st t)(h2:PSs X Zav u):PSs X (st::Zav) (ZuT t u):=by
 intro pins s σ H D I h;refine wpAny_execs_cons (thn (h1 pins s σ H {D with nx:=u D} I h) fun f s1 q=>?_);cases f with
 |next=>
  obtain⟨σ',H',I',q⟩:=q;exact h2 pins s1 σ' H' D I' q
 |ret v=>exact q
 |brk=>exact q
 |cont=>exact q
theorem Zl7(h1:PS X st t):PSs X [st] t:=by
 intro pins s σ H D I h;refine wpAny_execs_cons (thn (h1 pins s σ H D I h) fun f s1 q=>?_);cases f with
 |next=>exact i6 q
 |ret v=>exact q
 |brk=>exact q
 |cont=>exact q
noncomputable def tBreak:TS:=fun D σ H=>D.bk σ H
theorem ZjF:PS X (.Break pos) tBreak:=fun _ _ σ H _ I h=>wpAny_Break ⟨σ,H,I,h⟩
theorem Inv.quiet(I:Inv X pins σ H s):interactive X.env=false:=by simp[interactive,I.ok.kind]
noncomputable def ZrM(te:TE):TS:=fun D σ H=>te σ H fun _ H1=>D.nx σ H1
theorem Zl8(he:PE X e te)(hs:autoParam (jh e none pos.line X.env=pure false) Qrf._auto_1):PS X (.Expr e pos) (ZrM te):=by
 intro pins s σ H D I h;exact wpAny_Expr_any (thn (he pins s σ H _ I h) fun v s1 ⟨x,H1,I1,r1,q1⟩=>⟨σ,H1,I1,q1⟩) I.quiet hs
noncomputable def ZuU(te:TE):TS:=fun D σ H=>te σ H D.rt
theorem Zoq(he:PE X e te):PS X (.Return (some e) pos) (ZuU te):=by
 intro pins s σ H D I h;exact wpAny_Return_some (thn (he pins s σ H _ I h) fun v s1 ⟨x,H1,I1,r1,q1⟩=>⟨x,σ,H1,I1,r1,q1⟩)
noncomputable def ZuV(c:TT)(t u:TS):TS:=fun D σ H=>c σ H fun b H1=>if b=true then t D σ H1 else u D σ H1
theorem ZrN(hc:PT X c tc)(ha:PSs X a t)(hb:PSs X b u):PS X (.If c a b pos) (ZuV tc t u):=by
 intro pins s σ H D I h;refine wpAny_If (thn (hc pins s σ H _ I h) fun d s1 hz=>?_);obtain⟨H1,I1,q1⟩:=hz;cases d with
 |true=>exact ha pins s1 σ H1 D I1 q1
 |false=>exact hb pins s1 σ H1 D I1 q1
end
abbrev TG:=V->St->Hp->(St->Hp->Prop)->Prop
abbrev TGs:=List V->St->Hp->(St->Hp->Prop)->Prop
def PG(X:Cx)(target:Expr)(t:TG):Prop:=
 ∀(pins:Pn)(s:aC)(σ:St)(H:Hp)(v:V)(u:ae)(Q:St->Hp->Prop),Inv X pins σ H s->Z8 v u->t v σ H Q->
  wpAny (az X.prog X.w) X.A (assign target X.env u) (fun _ s'=>∃σ' H',Inv X pins σ' H' s'/\Q σ' H') X.xe s
def PGs(X:Cx)(ts:List Expr)(t:TGs):Prop:=
 ∀(pins:Pn)(s:aC)(σ:St)(H:Hp)(vs:List V)(us:List ae)(Q:St->Hp->Prop),Inv X pins σ H s->Z1 vs us->t vs σ H Q->
  wpAny (az X.prog X.w) X.A (assignInOrder ((dD ts X.env).map (·.2)) us) (fun _ s'=>∃σ' H',Inv X pins σ' H' s'/\Q σ' H') X.xe s
noncomputable def Zor(i:Nat):TG:=fun v σ H Q=>Q (σ.set i (some v)) H
theorem Zl9(hN:X.N.Nodup)(hi:X.N[i]?=some x)(hx:Loc X.env.scope x)(hm:X.may i=true)(hf:X.fn x=true\/X.env.scope.names.lookup x=some .local:=by first|exact .inl rfl|exact .inr rfl|assumption):PG X (.Name x pos) (Zor i):=by
 intro pins s σ H v u Q I r h;exact wpAny_assign_Name (ZcK I hN hi hx hm r (fun s' I'=>⟨_,H,I',h⟩) hf)
noncomputable def gNil:TGs:=fun vs σ H Q=>vs=[]/\Q σ H
noncomputable def ZrO(t:TG)(u:TGs):TGs:=fun vs σ H Q=>∃v r,vs=v::r/\t v σ H fun σ' H'=>u r σ' H' Q
theorem Zma:PGs X [] gNil:=by
 intro pins s σ H vs us Q I r h;obtain⟨e,h⟩:=h;subst e;cases r;exact assignInOrder_nil ⟨σ,H,I,h⟩
theorem ZjG(h1:PG X e t)(h2:PGs X es u)(hs:autoParam ((dD (e::es) X.env).map (·.2)=assign e X.env::(dD es X.env).map (·.2)) Qrf._auto_1):PGs X (e::es) (ZrO t u):=by
 intro pins s σ H vs us Q I r h;obtain⟨v,vr,e1,h⟩:=h;subst e1;cases r with
 |cons r rr=>
  rw[hs];refine jt (thn (h1 pins s σ H _ _ _ I r h) fun _ s1 hz=>?_);obtain⟨σ1,H1,I1,q1⟩:=hz;exact h2 pins s1 σ1 H1 _ _ Q I1 rr q1
def ZuW(K:Fg)(n:Nat)(t:TGs):TG:=fun v σ H Q=>∃a xs,v=.ref a/\SqT K H a xs/\xs.length=n/\t xs σ H Q
theorem Zos(hc:X.calm=true)(h:PGs X es t)(hn:autoParam ((dD es X.env).length=n) Qrf._auto_1)(hst:autoParam ((dD es X.env).findIdx? (·.1)=none) Qrf._auto_1):PG X (.Tuple es k pos) (ZuW X.K n t):=by
 intro pins s σ H v u Q I r hw;obtain⟨a,xs,e1,hq,hl,hw⟩:=hw;subst e1;cases r;obtain⟨its,rv,ht,hz⟩:=I.tuple hq;refine assign_Tuple_tuple (I.ok.hd hc) ht (by simp[hn,<-hl,rv.length]) hst fun h' hx=>?_
 have I1:Inv X pins σ H {s with heap:=h'}:=I.kept (t':=s.toks) fun b o e=>hx b o (aE (Hz e)) e;exact h pins _ σ H xs _ Q I1 (by simpa using rv) hw
noncomputable def ZtU(te:TE)(g:TG):TS:=fun D σ H=>te σ H fun x H1=>g x σ H1 D.nx
theorem Zot(he:PE X e te)(hg:PG X tg g)(hs:autoParam (jY [tg] e pos.line X.env=pure false) Qrf._auto_1)(hw:autoParam (gA [tg] e X.env=pure none) Qrf._auto_1)(h1:autoParam ((dD [tg] X.env).map (·.2)=[assign tg X.env]) Qrf._auto_1):PS X (.Assign [tg] e pos) (ZtU te g):=by
 intro pins s σ H D I h;refine wpAny_Assign_stores (thn (he pins s σ H _ I h) fun v s1 hz=>?_) hs hw;obtain⟨x,H1,I1,r1,q1⟩:=hz;rw[h1];exact thn (hg pins s1 σ H1 x v _ I1 r1 q1) fun _ s2 q=>q
theorem Zou(hN:X.N.Nodup)(hi:X.N[i]?=some x)(hx:Loc X.env.scope x)(hm:X.may i=true)(he:PE X e te)(hs:autoParam (jh e (some (.Name x pos')) pos.line X.env=pure false) Qrf._auto_1)(hf:X.fn x=true\/X.env.scope.names.lookup x=some .local:=by first|exact .inl rfl|exact .inr rfl|assumption) :
  PS X (.Assign [.Name x pos'] e pos) (ZtU te (Zor i)):=by
 intro pins s σ H D I h;refine wpAny_Assign_Name (thn (he pins s σ H _ I h) fun v s1 hz=>?_) hs;obtain⟨y,H1,I1,r1,q1⟩:=hz;exact ZcK I1 hN hi hx hm r1 (fun s2 I2=>⟨_,H1,I2,q1⟩) hf
noncomputable def ZuX(i j:Nat)(ta:TA):TS:=fun D σ H=>ta σ H fun vs H1=>∃v w,vs=[v,w]/\D.nx ((σ.set i (some v)).set j (some w)) H1
theorem Zov{kt k2 pt2}(hc:X.calm=true)(mi:X.may i=true)(mj:X.may j=true)(hN:X.N.Nodup)(hi:X.N[i]?=some x)(hj:X.N[j]?=some y)(hij:i≠j)(hx:X.env.scope.names.lookup x=some .local)(hy:X.env.scope.names.lookup y=some .local)(ha:PA X [a,b] ta)(hw:gA [.Tuple [.Name x px,.Name y py] kt pt] (.Tuple [a,b] k2 pt2) X.env=pure (some [x,y]))(hs:autoParam (jY [.Tuple [.Name x px,.Name y py] kt pt] (.Tuple [a,b] k2 pt2) pos.line X.env=pure false) Qrf._auto_1) :
  PS X (.Assign [.Tuple [.Name x px,.Name y py] kt pt] (.Tuple [a,b] k2 pt2) pos) (ZuX i j ta):=by
 intro pins s σ H D I h;rw[exec_Assign_arm];refine Wb (wpAny_standAt ?_);rw[hs];refine Wb (Wp ?_);rw[if_neg (by decide)]
 refine Wb (Tuple_ (thn (ha _ pins s σ H _ I h) fun us s1 hz=>?_));obtain⟨vs,H1,I1,r1,q1⟩:=hz;obtain⟨v,w,e1,q1⟩:=q1;subst e1;obtain⟨u1,u2,rfl,rv,rw'⟩:∃u1 u2,us=[u1,u2]/\Z8 v u1/\Z8 w u2:=by
  cases r1 with
  |cons p q=>
   cases q with
   |cons p' q'=>
    cases q';exact⟨_,_,rfl,p,p'⟩
 refine cu ?_ (by show 2<=sizeLine;decide)
 have I2:Inv X pins σ H1 {s1 with heap:=s1.heap.push {cls:=.type "tuple",data:=.seq [u1,u2].toArray}}:=I1.kept (t':=s1.toks) fun b o e=>Hq _ e;rw[hw];refine Wb (Wp ?_);show wpAny (az X.prog X.w) X.A (do rule "assign.swapped-stores";let items <-unpackItems (.ref s1.heap.objs.size) 2 none;assignInOrder [fun v=>bindName X.env y v,fun v=>bindName X.env x v] items.reverse;pure Flow.next) _ _ _
 refine Wb (wpAny_rule (Wb (unpackItems_tuple (items:= #[u1,u2]) (I.ok.hd hc) (IsTup.new s1.heap _) fun h' hx'=>?_)));have I3:=I2.kept (h':=h') (t':=s1.toks) fun b o e=>hx' b o (aE (Hz e)) e;show wpAny _ _ (assignInOrder [fun v=>bindName X.env y v,fun v=>bindName X.env x v] [u2,u1] >>= fun _=>pure Flow.next) _ _ _
 refine Wb (jt (wpAny_bindName (ZcK I3 hN hj (.inl hy) mj rw' (fun s2 I4=>?_) (.inr hy))));refine jt (wpAny_bindName (ZcK I4 hN hi (.inl hx) mi rv (fun s3 I5=>assignInOrder_nil (Wp ?_)) (.inr hx)));rw[List.set_comm _ _ (bV hij)]at I5;exact⟨_,H1,I5,q1⟩
def Zow(c:TT)(tb:TS):TS:=fun D σ H=>∃W:Nat->St->Hp->Prop,(∃m,W m σ H)/\∀m σ H,W m σ H->
 c σ H fun b H1=>if b=true then ∃N:St->Hp->Prop,(∀σ' H',N σ' H'->∃m',m'<m/\W m' σ' H')/\tb {D with nx:=N,ct:=N,bk:=D.nx} σ H1 else D.nx σ H1
theorem ZjH(hp:fG (az X.prog X.w) X.A X.env X.xe)(hc:PT X c tc)(hb:PSs X body tb):PS X (.While c body [] pos) (Zow tc tb):=by
 intro pins s σ H D I h;obtain⟨W,⟨m0,w0⟩,turn⟩:=h;refine wpAny_While (codeAny_whileLoop (fun n s'=>∃σ' H',Inv X pins σ' H' s'/\W n σ' H') ?_ m0 ⟨σ,H,I,w0⟩);rintro n s1 ⟨σ1,H1,I1,w1⟩;refine eE hp (thn (hc pins s1 σ1 H1 _ I1 (turn n σ1 H1 w1)) fun b s2 hz=>?_);obtain⟨H2,I2,q2⟩:=hz;cases b with
 |true=>
  obtain⟨N,hN,q2⟩:=q2;rw[if_pos rfl];refine eE hp (thn (hb pins s2 σ1 H2 _ I2 q2) fun f s3 q3=>?_);cases f with
  |next=>
   obtain⟨σ3,H3,I3,n3⟩:=q3;obtain⟨m',hm,w3⟩:=hN σ3 H3 n3;exact⟨m',hm,σ3,H3,I3,w3⟩
  |cont=>
   obtain⟨σ3,H3,I3,n3⟩:=q3;obtain⟨m',hm,w3⟩:=hN σ3 H3 n3;exact⟨m',hm,σ3,H3,I3,w3⟩
  |brk=>exact q3
  |ret v=>exact q3
 |false=>
  rw[if_neg cA];exact i6 ⟨σ1,H2,I2,q2⟩
structure It where
 go:Nat->Hp->Prop
 yld:Nat->Hp->V->Hp->Prop
 stop:Nat->Hp->Prop
def Ze9(X:Cx)(pins:Pn)(H:Hp)(b:Addr):Prop:=
 H b=none/\b≠X.env.locals/\b∉X.fs/\(b∈X.ex\/X.s₀.heap.objs.size<=b)/\(∀x c,X.env.cells.lookup x=some c->c≠b)/\∀p∈X.pn++pins,p.1≠b
theorem Inv.fpOk(I:Inv X pins σ H s)(hb:s.heap.objs.size<=b)(hn:H' b=none):Ze9 X pins H' b:=by
 refine⟨hn,bz (ai I.lt hb),I.nofs hb,.inr (aT I.sz hb),fun x c e z=>?_,fun p hp z=>?_⟩
 ·obtain⟨v,q⟩:=I.cell x c e;exact absurd (ai q.lt (by rw[z];exact hb)) (cG _)
 ·exact absurd (ai (Hz (I.pin p hp).1) (by rw[z];exact hb)) (cG _)
structure Turn(P:cH) (w:c8) (K:Fg) (B:dR) (tg:Expr) (J:It) (fp:List Addr) (it:Addr) (tn:Nat->Heap->Prop):Prop where
 mem:it∈fp
 obj:∀i h,tn i h->∀b∈fp,∃o,h.get? b=some o/\∀v,o.data≠ .cell v
 keep:∀i h h',tn i h->(∀b∈fp,∀o,h.get? b=some o->h'.get? b=some o)->tn i h'
 item:∀(X:Cx),X.prog=P->X.w=w->X.K=K->X.A=B->∀(i:Nat)(pins:Pn)(s:aC)(σ:St)(H:Hp)(E:Vp),Inv X pins σ H s->(∀b∈fp,Ze9 X pins H b)->tn i s.heap->J.go i H->
  wpAny (az P w) X.A (jl (.ref it)) (fun r s1=>∃u,r=some u/\ wpAny (az P w) X.A (gG tg (.ref it) u) (fun _ s2=>∃x H',Inv X pins σ H' s2/\Z8 x u/\J.yld i H x H'/\tn (i+1) s2.heap/\∀b∈fp,H' b=none) E s1) E s
 done:∀(X:Cx),X.prog=P->X.w=w->X.K=K->X.A=B->∀(i:Nat)(pins:Pn)(s:aC)(σ:St)(H:Hp)(E:Vp),Inv X pins σ H s->(∀b∈fp,Ze9 X pins H b)->tn i s.heap->J.stop i H->
  wpAny (az P w) X.A (jl (.ref it)) (fun r s1=>r=none/\Inv X pins σ H s1) E s
 self:∀(A:dR)(i:Nat)(s:aC)(Q:Vp)(E:Vp),tn i s.heap->Q (.ref it) s->wpAny (az P w) A (pyIter (.ref it)) Q E s
abbrev TI:=St->Hp->(It->Hp->Prop)->Prop
def PIE(X:Cx)(pins:Pn)(σ:St)(tg:Expr)(R:It->Hp->Prop)(itv:ae)(s2:aC):Prop:=
 ∃(it:Addr) (fp:List Addr) (tn:Nat->Heap->Prop) (J:It) (H':Hp),itv=.ref it/\Inv X pins σ H' s2/\Turn X.prog X.w X.K X.A tg J fp it tn/\tn 0 s2.heap/\(∀b∈fp,Ze9 X pins H' b)/\R J H'
def PI(X:Cx)(tg iter:Expr)(wi:TI):Prop:=
 ∀(pins:Pn)(s:aC)(σ:St)(H:Hp)(R:It->Hp->Prop),Inv X pins σ H s->wi σ H R->
  wpAny (az X.prog X.w) X.A (eval iter X.env) (fun v s1=>wpAny (az X.prog X.w) X.A (pyIter v) (PIE X pins σ tg R) X.xe s1) X.xe s
theorem Zmb(ho:s.heap.get? it=some o)(hc:o.cls=.type n)(hd:o.data=.fields vs)(hn:["enumerate","zip","dict_itemiterator","dict_reverseitemiterator","odict_iterator","itertools.zip_longest","itertools.pairwise"].contains n=false)(hQ:Q () s):wpAny M A (gG tg (.ref it) u) Q E s:=by
 unfold gG;cases tg<;>first
  |exact Wp hQ
  | (cases u<;>first
    |exact Wp hQ
    | (refine Wb (wpAny_load ho ?_)
       rw[hc,hd];show wpAny M A (if(["enumerate","zip","dict_itemiterator","dict_reverseitemiterator","odict_iterator","itertools.zip_longest","itertools.pairwise"].contains n&&vs[0]? == some (d8 _))=true then _ else _) Q E s
       rw[if_neg (by intro h;rw[hn,Bool.false_and]at h;cases h)]
       exact Wp hQ))
def Itl(K:Fg)(a:Addr):It:=
 ⟨fun i H=>∃xs x,SqL K H a xs/\xs[i]?=some x,fun i H x H'=>H'=H/\∀xs,SqL K H a xs->xs[i]?=some x,fun i H=>∃xs,SqL K H a xs/\xs.length<=i⟩
def Itt(K:Fg)(a:Addr):It:=
 ⟨fun i H=>∃xs x,SqT K H a xs/\xs[i]?=some x,fun i H x H'=>H'=H/\∀xs,SqT K H a xs->xs[i]?=some x,fun i H=>∃xs,SqT K H a xs/\xs.length<=i⟩
noncomputable def Itr(lo:Int)(n:Nat):It:=⟨fun i _=>i<n,fun i H x H'=>H'=H/\x=.int (lo+i),fun i _=>n<=i⟩
theorem Zhk{K:Fg}(a it:Addr):Turn P w K B tg (Itl K a) [it] it (fun i h=>h.IsListIter it a i) where
 mem:=by simp
 obj:=fun i h st b hb=>by
  have e:b=it:=by simpa using hb
  subst e;obtain⟨o,e,c,d⟩:=st;exact⟨o,e,fun v z=>by rw[d]at z;cases z⟩
 keep:=fun i h h' st k=>st.at fun o e=>k it (by simp) o e
 item:=by
  intro X hP hw hK hB i pins s σ H E I hf st hg;subst hP hw hK;obtain⟨xs,x,hq,hx⟩:=hg;obtain⟨its,rv,p,hz⟩:=I.list hq;obtain⟨u,hu,ru⟩:=rv.get hx;obtain⟨f0,f1,f2,f3,f4,f5⟩:=hf it (by simp)
  refine wpAny_pyNext_list_item st p.isList (x:=u) (by simpa using hu) fun h' st' sb=>?_
  have I1:Inv X pins σ H {s with heap:=h'}:=I.turned (t':=s.toks) (fun b o hb e=>(sb.2 b hb).trans e) f0 f1 f3 f4 f5;obtain⟨o,e,c,d⟩:=id st';exact⟨u,rfl,Zmb (s:={s with heap:=h'}) e c d (by decide) ⟨x,H,I1,ru,⟨rfl,fun ys hy=>by rw[I.list_inj hy hq];exact hx⟩,st',fun b hb=>(hf b hb).1⟩⟩
 done:=by
  intro X hP hw hK hB i pins s σ H E I hf st hg;subst hP hw hK;obtain⟨xs,hq,hx⟩:=hg;obtain⟨its,rv,p,hz⟩:=I.list hq;obtain⟨f0,f1,f2,f3,f4,f5⟩:=hf it (by simp)
  have hl:=rv.length;exact DQ.ZjD I.qh st p.isList (by simp;lia) fun h' eb=>⟨rfl,I.turned (t':=s.toks) (fun b o hb e=>eb b o hb e) f0 f1 f3 f4 f5⟩
 self:=fun _ _ _ _ _ st h=>wpAny_pyIter_listiter st h
theorem ZgQ{K:Fg}(a it:Addr):Turn P w K B tg (Itt K a) [it] it (fun i h=>h.IsTupleIter it a i) where
 mem:=by simp
 obj:=fun i h st b hb=>by
  have e:b=it:=by simpa using hb
  subst e;obtain⟨o,e,c,d⟩:=st;exact⟨o,e,fun v z=>by rw[d]at z;cases z⟩
 keep:=fun i h h' st k=>st.at fun o e=>k it (by simp) o e
 item:=by
  intro X hP hw hK hB i pins s σ H E I hf st hg;subst hP hw hK;obtain⟨xs,x,hq,hx⟩:=hg;obtain⟨its,rv,p,hz⟩:=I.tuple hq;obtain⟨u,hu,ru⟩:=rv.get hx;obtain⟨f0,f1,f2,f3,f4,f5⟩:=hf it (by simp)
  refine wpAny_pyNext_tuple_item st (show s.heap.IsTuple a its.toArray from p) (x:=u) (by simpa using hu) fun h' st' sb=>?_
  have I1:Inv X pins σ H {s with heap:=h'}:=I.turned (t':=s.toks) (fun b o hb e=>(sb.2 b hb).trans e) f0 f1 f3 f4 f5;obtain⟨o,e,c,d⟩:=id st';exact⟨u,rfl,Zmb (s:={s with heap:=h'}) e c d (by decide) ⟨x,H,I1,ru,⟨rfl,fun ys hy=>by rw[I.tuple_inj hy hq];exact hx⟩,st',fun b hb=>(hf b hb).1⟩⟩
 done:=by
  intro X hP hw hK hB i pins s σ H E I hf st hg;subst hP hw hK;obtain⟨xs,hq,hx⟩:=hg;obtain⟨its,rv,p,hz⟩:=I.tuple hq;obtain⟨f0,f1,f2,f3,f4,f5⟩:=hf it (by simp)
  have hl:=rv.length;exact DQ.Zhc I.qh st (show s.heap.IsTuple a its.toArray from p) (by simp;lia) fun h' eb=>⟨rfl,I.turned (t':=s.toks) (fun b o hb e=>eb b o hb e) f0 f1 f3 f4 f5⟩
 self:=fun _ _ _ _ _ st h=>wpAny_pyIter_tupleiter st h
theorem ZgR{K:Fg}(it:Addr)(lo:Int)(n:Nat):Turn P w K B tg (Itr lo n) [it] it (fun i h=>k9 h it (lo+(i:Nat)*1) ((n:Int)-(i:Nat)) 1) where
 mem:=by simp
 obj:=fun i h st b hb=>by
  have e:b=it:=by simpa using hb
  subst e;exact⟨_,st,fun v z=>by
   have z':mT _=Data.cell v:=z;cases z'⟩
 keep:=fun i h h' st k=>k it (by simp) _ st
 item:=by
  intro X hP hw hK hB i pins s σ H E I hf st hg;subst hP hw hK;obtain⟨f0,f1,f2,f3,f4,f5⟩:=hf it (by simp)
  have hlt:i<n:=hg;refine wpAny_pyNext_range_item st (by lia) fun h' st' sb=>?_
  have I1:Inv X pins σ H {s with heap:=h',toks:=s.toks+1}:=I.turned (fun b o hb e=>(sb.2 b hb).trans e) f0 f1 f3 f4 f5;have st2:k9 h' it (lo+((i+1:Nat):Int)*1) ((n:Int)-((i+1:Nat):Int)) 1:=by
   have e1:lo+((i+1:Nat):Int)*1=lo+(i:Nat)*1+1:=by lia
   have e2:(n:Int)-((i+1:Nat):Int)=(n:Int)-(i:Nat)-1:=by lia
   rw[e1,e2];exact st'
  refine⟨_,rfl,Zmb (s:={s with heap:=h',toks:=s.toks+1}) (n:="range_iterator") st2 rfl rfl (by decide) ⟨.int (lo+i),H,I1,⟨s.toks,?_⟩,⟨rfl,rfl⟩,st2,fun b hb=>(hf b hb).1⟩⟩
  rw[Int.mul_one]
 done:=by
  intro X hP hw hK hB i pins s σ H E I hf st hg;subst hP hw hK;obtain⟨f0,f1,f2,f3,f4,f5⟩:=hf it (by simp)
  exact DQ.Zhb I.qh st (by have:n<=i:=hg;lia) fun h' eb=>⟨rfl,I.turned (t':=s.toks) (fun b o hb e=>eb b o hb e) f0 f1 f3 f4 f5⟩
 self:=fun _ _ _ _ _ st h=>wpAny_pyIter_rangeiter st h
theorem ZfW{lo:Int}(I:Inv X pins σ H s)(h1: -(2^62)<=lo)(h2:lo<2^62)(h3: -(2^62)<=hi)(h4:hi<2^62)(q:R (Itr lo (hi-lo).toNat) H):wpAny (az X.prog X.w) X.A (pyIter (.ref s.heap.objs.size)) (PIE X pins σ tg R) E {s with heap:=s.heap.push {cls:=.type "range",data:=.fields #[.int lo t,.int hi u,.int 1 v]},toks:=tk}:=by
 refine wpAny_pyIter_range (IsRange.new ..) (small_one h1 h2 h3 h4) ?_;have I1:Inv X pins σ H {s with heap:=s.heap.push {cls:=.type "range",data:=.fields #[.int lo t,.int hi u,.int 1 v]},toks:=tk}:=I.kept fun b o e=>Hq _ e;refine⟨(s.heap.push {cls:=.type "range",data:=.fields #[.int lo t,.int hi u,.int 1 v]}).objs.size,[(s.heap.push {cls:=.type "range",data:=.fields #[.int lo t,.int hi u,.int 1 v]}).objs.size],_,_,H,rfl,I1.kept (t':=tk) fun b o e=>Hq _ e,ZgR _ lo (hi-lo).toNat,?_,fun b hb=>?_,q⟩
 ·have e1:lo+((0:Nat):Int)*1=lo:=by simp
  have e2:(((hi-lo).toNat:Nat):Int)-((0:Nat):Int)=dH.Range.rangeSize lo hi 1:=by rw[rangeSize_one];split<;>lia
  show k9 _ _ (lo+((0:Nat):Int)*1) ((((hi-lo).toNat:Nat):Int)-((0:Nat):Int)) 1;rw[e1,e2];exact aP _ rfl
 ·have e:b=(s.heap.push {cls:=.type "range",data:=.fields #[.int lo t,.int hi u,.int 1 v]}).objs.size:=by simpa using hb
  subst e;exact I1.fpOk (aj _) (I1.hok.fresh (aj _))
def ZrP(ta:TA):TI:=fun σ H R=>ta σ H fun vs H1=>∃j:Int,vs=[.int j]/\ -(2^62)<=j/\j<2^62/\R (Itr 0 j.toNat) H1
def ZrQ(ta:TA):TI:=fun σ H R=>ta σ H fun vs H1=>∃i j:Int,vs=[.int i,.int j]/\(-(2^62)<=i/\i<2^62/\ -(2^62)<=j/\j<2^62)/\R (Itr i (j-i).toNat) H1
theorem Zen(hg:Gl X "range")(hm:X.mg "range"=none)(ha:PA X [a] ta)(hs:autoParam (av [a] X.env=[(false,eval a X.env)]) Qrf._auto_1):PI X tg (.Call (.Name "range" p) [a] [] pos) (ZrP ta):=by
 intro pins s σ H R I h;refine Call_ (Zcx I hg hm boot_range (cW (thn (ha pos pins s σ H _ I h) fun us s1 ⟨vs,H1,I1,r1,q1⟩=>?_) hs rfl));obtain⟨j,e,q1,q2,q⟩:=q1;subst e;cases r1 with
 |cons r rr=>
  cases rr;obtain⟨t,rfl⟩:=r;exact call_range_1 (ZfW I1 (by lia) (by lia) q1 q2 (by simpa using q))
theorem Zeo(hg:Gl X "range")(hm:X.mg "range"=none)(ha:PA X [a,b] ta)(hs:autoParam (av [a,b] X.env=[(false,eval a X.env),(false,eval b X.env)]) Qrf._auto_1)(hs2:autoParam (av [b] X.env=[(false,eval b X.env)]) Qrf._auto_1) :
  PI X tg (.Call (.Name "range" p) [a,b] [] pos) (ZrQ ta):=by
 intro pins s σ H R I h;refine Call_ (Zcx I hg hm boot_range (cW (thn (ha pos pins s σ H _ I h) fun us s1 ⟨vs,H1,I1,r1,q1⟩=>?_) (by rw[hs,hs2]) (by rw[hs2];rfl)))
 obtain⟨i,j,e,⟨q1,q2,q3,q4⟩,q⟩:=q1;subst e;cases r1 with
 |cons r rr=>
  cases rr with
  |cons r' rr=>
   cases rr;obtain⟨t,rfl⟩:=r;obtain⟨t',rfl⟩:=r';exact call_range_2 (ZfW I1 q1 q2 q3 q4 q)
def ZuY(wi:TI)(g:TG)(tb:TS):TS:=fun D σ H=>wi σ H fun J H1=>∃W:Nat->Nat->St->Hp->Prop,(∃m,W 0 m σ H1)/\∀i m σ H,W i m σ H->
 (J.stop i H/\D.nx σ H)\/(J.go i H/\∃N:St->Hp->Prop,(∀σ' H',N σ' H'->∃m',m'<m/\W (i+1) m' σ' H')/\∀x H',J.yld i H x H'->g x σ H' fun σ2 H2=>tb {D with nx:=N,ct:=N,bk:=D.nx} σ2 H2)
noncomputable def Zdx(fp:List Addr)(h:Heap):Pn:=fp.filterMap fun b=>(h.get? b).map fun o=>(b,o)
theorem ZbA(hb:b∈fp)(e:h.get? b=some o):(b,o)∈Zdx fp h:=List.mem_filterMap.mpr ⟨b,hb,by rw[e];rfl⟩
theorem Zhl(hp:p∈Zdx fp h):p.1∈fp/\h.get? p.1=some p.2:=by
 obtain⟨b,hb,e⟩:=List.mem_filterMap.mp hp;cases q:h.get? b with
 |none=>rw[q]at e;cases e
 |some o=>
  rw[q]at e;have e':(b,o)=p:=aX e;subst e';exact⟨hb,q⟩
theorem Inv.pinned(I:Inv X pins σ H s)(hf:∀b∈fp,Ze9 X pins H b)(ho:∀b∈fp,∃o,s.heap.get? b=some o/\∀v,o.data≠ .cell v):Inv X (pins++Zdx fp s.heap) σ H s:=
 I.pins_of fun p hp=>(aY.mp hp).elim (fun z=>I.pin p (a8 _ z)) fun z=>by
  obtain⟨hb,e⟩:=Zhl z;obtain⟨f0,f1,f2,_⟩:=hf p.1 hb;obtain⟨o,e',d⟩:=ho p.1 hb;rw[e]at e';cases e';exact⟨e,f0,f1,f2,d⟩
theorem Inv.unpinned(I:Inv X (pins++pl) σ H s):Inv X pins σ H s:=I.pins_of fun p hp=>I.pin p (a8 _ (iR _ hp))
theorem ZfX(hp:fG (az X.prog X.w) X.A X.env X.xe)(hi:PI X tg iter wi)(hg:PG X tg g)(hb:PSs X body tb)(hs:autoParam (∀x,foldedSetIterable iter X.env x=pure x) Qin._auto_1):PS X (.For tg iter body [] pos) (ZuY wi g tb):=by
 intro pins s σ H D I h;refine wpAny_For (thn (hi pins s σ H _ I h) fun v s1 h1=>thn h1 fun itv s2 h2=>?_) hs;obtain⟨it,fp,tn,J,H2,e,I2,T,st2,f2,W,⟨m0,w0⟩,turn⟩:=h2;subst e;have stat:∀{H':Hp},(∀b∈fp,H' b=none)->∀b∈fp,Ze9 X pins H' b:=fun hn b hb=>⟨hn b hb,(f2 b hb).2⟩;refine codeAny_forLoop_any (fun n s'=>∃i σ' H',Inv X pins σ' H' s'/\tn i s'.heap/\(∀b∈fp,H' b=none)/\W i n σ' H') ?_ m0 ⟨0,σ,H2,I2,st2,fun b hb=>(f2 b hb).1,w0⟩;rintro n s3 ⟨i,σ3,H3,I3,st3,fr3,w3⟩;rcases turn i n σ3 H3 w3 with⟨stop,qn⟩|⟨go,N,hN,step⟩
 ·refine eE hp (thn (T.done X rfl rfl rfl rfl i pins s3 σ3 H3 X.xe I3 (stat fr3) st3 stop) fun r s4 hz=>?_);obtain⟨hr,I4⟩:=hz;subst hr;exact i6 ⟨σ3,H3,I4,qn⟩
 ·refine eE hp (thn (T.item X rfl rfl rfl rfl i pins s3 σ3 H3 X.xe I3 (stat fr3) st3 go) fun r s4 hz=>?_);obtain⟨u,hr,h4⟩:=hz;subst hr;refine eE hp (thn h4 fun _ s5 hz=>?_);obtain⟨x,H5,I5,r5,y5,st5,fr5⟩:=hz;have I5':=I5.pinned (stat fr5) (T.obj _ _ st5);refine eE hp (thn (hg _ s5 σ3 H5 x u _ I5' r5 (step x H5 y5)) fun _ s6 hz=>?_);obtain⟨σ6,H6,I6,q6⟩:=hz;refine eE hp (thn (hb _ s6 σ6 H6 _ I6 q6) fun f s7 q7=>?_);have again:∀{σ7:St}{H7:Hp},Inv X (pins++Zdx fp s5.heap) σ7 H7 s7->N σ7 H7->∃m,m<n/\∃i σ' H',Inv X pins σ' H' s7/\tn i s7.heap/\(∀b∈fp,H' b=none)/\W i m σ' H':=fun{σ7 H7} I7 n7=>by
   obtain⟨m',hm,w7⟩:=hN σ7 H7 n7;refine⟨m',hm,i+1,σ7,H7,I7.unpinned,T.keep _ _ _ st5 fun b hb o e=>(I7.pin (b,o) (a8 _ (a8 _ (ZbA hb e)))).1,fun b hb=>?_,w7⟩;obtain⟨o,e,d⟩:=T.obj _ _ st5 b hb;exact(I7.pin (b,o) (a8 _ (a8 _ (ZbA hb e)))).2.1
  cases f with
  |next=>obtain⟨σ7,H7,I7,n7⟩:=q7;exact again I7 n7
  |cont=>obtain⟨σ7,H7,I7,n7⟩:=q7;exact again I7 n7
  |brk=>obtain⟨σ7,H7,I7,q7⟩:=q7;exact⟨σ7,H7,I7.unpinned,q7⟩
  |ret v=>obtain⟨x7,σ7,H7,I7,r7,q7⟩:=q7;exact⟨x7,σ7,H7,I7.unpinned,r7,q7⟩
theorem ZjI{K:Fg}{g:TG}{tb:TS}{D:Ends}(Pv:Nat->St->Hp->Prop)(h0:Pv 0 σ H)(hl:∀i σ H,i<=xs.length->Pv i σ H->SqL K H a xs)(hs:∀i x σ H,xs[i]?=some x->Pv i σ H->g x σ H fun σ2 H2=>tb {D with nx:=Pv (i+1),ct:=Pv (i+1),bk:=D.nx} σ2 H2)(hd:∀σ H,Pv xs.length σ H->D.nx σ H):∃W:Nat->Nat->St->Hp->Prop,(∃m,W 0 m σ H)/\∀i m σ H,W i m σ H->((Itl K a).stop i H/\D.nx σ H)\/((Itl K a).go i H/\∃N:St->Hp->Prop,(∀σ' H',N σ' H'->∃m',m'<m/\W (i+1) m' σ' H')/\∀x H',(Itl K a).yld i H x H'->g x σ H' fun σ2 H2=>tb {D with nx:=N,ct:=N,bk:=D.nx} σ2 H2):=by
 refine⟨fun i m σ H=>m=xs.length-i/\i<=xs.length/\Pv i σ H,⟨xs.length,by simp,eN _,h0⟩,?_⟩
 rintro i m σ H ⟨rfl,hi,p⟩;have q:=hl i σ H hi p;by_cases hlt:i<xs.length
 ·refine .inr ⟨⟨xs,xs[i],q,by simp[hlt]⟩,Pv (i+1),fun σ' H' p'=>⟨xs.length-(i+1),by lia,rfl,hlt,p'⟩,fun x H' y=>?_⟩
  obtain⟨e,y⟩:=y;subst e;exact hs i x σ _ (y xs q) p
 ·have e:i=xs.length:=by lia
  subst e;exact .inl ⟨⟨xs,q,aj _⟩,hd σ H p⟩
theorem Zmc{K:Fg}{g:TG}{tb:TS}{D:Ends}(Pv:Nat->St->Hp->Prop)(h0:Pv 0 σ H)(hl:∀i σ H,i<=xs.length->Pv i σ H->SqT K H a xs)(hs:∀i x σ H,xs[i]?=some x->Pv i σ H->g x σ H fun σ2 H2=>tb {D with nx:=Pv (i+1),ct:=Pv (i+1),bk:=D.nx} σ2 H2)(hd:∀σ H,Pv xs.length σ H->D.nx σ H):∃W:Nat->Nat->St->Hp->Prop,(∃m,W 0 m σ H)/\∀i m σ H,W i m σ H->((Itt K a).stop i H/\D.nx σ H)\/((Itt K a).go i H/\∃N:St->Hp->Prop,(∀σ' H',N σ' H'->∃m',m'<m/\W (i+1) m' σ' H')/\∀x H',(Itt K a).yld i H x H'->g x σ H' fun σ2 H2=>tb {D with nx:=N,ct:=N,bk:=D.nx} σ2 H2):=by
 refine⟨fun i m σ H=>m=xs.length-i/\i<=xs.length/\Pv i σ H,⟨xs.length,by simp,eN _,h0⟩,?_⟩
 rintro i m σ H ⟨rfl,hi,p⟩;have q:=hl i σ H hi p;by_cases hlt:i<xs.length
 ·refine .inr ⟨⟨xs,xs[i],q,by simp[hlt]⟩,Pv (i+1),fun σ' H' p'=>⟨xs.length-(i+1),by lia,rfl,hlt,p'⟩,fun x H' y=>?_⟩
  obtain⟨e,y⟩:=y;subst e;exact hs i x σ _ (y xs q) p
 ·have e:i=xs.length:=by lia
  subst e;exact .inl ⟨⟨xs,q,aj _⟩,hd σ H p⟩
theorem Zhm{lo:Int}{g:TG}{tb:TS}{D:Ends}(Pv:Nat->St->Hp->Prop)(h0:Pv 0 σ H)(hs:∀i σ H,i<n->Pv i σ H->g (.int (lo+i)) σ H fun σ2 H2=>tb {D with nx:=Pv (i+1),ct:=Pv (i+1),bk:=D.nx} σ2 H2)(hd:∀σ H,Pv n σ H->D.nx σ H):∃W:Nat->Nat->St->Hp->Prop,(∃m,W 0 m σ H)/\∀i m σ H,W i m σ H->((Itr lo n).stop i H/\D.nx σ H)\/((Itr lo n).go i H/\∃N:St->Hp->Prop,(∀σ' H',N σ' H'->∃m',m'<m/\W (i+1) m' σ' H')/\∀x H',(Itr lo n).yld i H x H'->g x σ H' fun σ2 H2=>tb {D with nx:=N,ct:=N,bk:=D.nx} σ2 H2):=by
 refine⟨fun i m σ H=>m=n-i/\i<=n/\Pv i σ H,⟨n,by simp,eN _,h0⟩,?_⟩
 rintro i m σ H ⟨rfl,hi,p⟩;by_cases hlt:i<n
 ·refine .inr ⟨hlt,Pv (i+1),fun σ' H' p'=>⟨n-(i+1),by lia,rfl,hlt,p'⟩,fun x H' y=>?_⟩
  obtain⟨e,y⟩:=y;subst e y;exact hs i σ _ hlt p
 ·have e:i=n:=by lia
  subst e;exact .inl ⟨aj _,hd σ H p⟩
abbrev R2:=V->V->Hp->VK->Prop
def OpR(X:Cx)(f:ae->ae->Sem ae)(r:R2):Prop:=
 ∀(pins:Pn)(s:aC)(σ:St)(H:Hp)(x y:V)(v u:ae)(Q:VK),Inv X pins σ H s->Z8 x v->Z8 y u->r x y H Q->
  wpAny (az X.prog X.w) X.A (f v u) (EP X pins σ Q) X.xe s
def UnR(X:Cx)(f:ae->Sem ae)(r:V->Hp->VK->Prop):Prop:=
 ∀(pins:Pn)(s:aC)(σ:St)(H:Hp)(x:V)(v:ae)(Q:VK),Inv X pins σ H s->Z8 x v->r x H Q->
  wpAny (az X.prog X.w) X.A (f v) (EP X pins σ Q) X.xe s
def ZbS(X:Cx)(f:ae)(r:List V->Hp->VK->Prop):Prop:=
 ∀(pins:Pn)(s:aC)(σ:St)(H:Hp)(xs:List V)(us:List ae)(Q:VK),Inv X pins σ H s->Z1 xs us->r xs H Q->
  wpAny (az X.prog X.w) X.A (call f us) (EP X pins σ Q) X.xe s
noncomputable def tOp(r:R2)(ta tb:TE):TE:=fun σ H Q=>ta σ H fun x H1=>tb σ H1 fun y H2=>r x y H2 Q
noncomputable def tUn(r:V->Hp->VK->Prop)(ta:TE):TE:=fun σ H Q=>ta σ H fun x H1=>r x H1 Q
noncomputable def rI(C:Int->Int->Prop)(g:Int->Int->V):R2:=fun x y H Q=>∃i j,x=.int i/\y=.int j/\C i j/\Q (g i j) H
noncomputable def rI0(g:Int->Int->V):R2:=fun x y H Q=>∃i j,x=.int i/\y=.int j/\Q (g i j) H
noncomputable def rU(g:Int->V):V->Hp->VK->Prop:=fun x H Q=>∃i,x=.int i/\Q (g i) H
theorem ZrR(ha:PE X a ta)(hb:PE X b tb){R:V->V->Hp->Prop}(I:Inv X pins σ H s)(h:ta σ H fun x H1=>tb σ H1 fun y H2=>R x y H2){f:ae->ae->Sem ae}(hf:∀v u s2 x y H2,Inv X pins σ H2 s2->Z8 x v->Z8 y u->R x y H2->wpAny (az X.prog X.w) X.A (f v u) Q X.xe s2):wpAny (az X.prog X.w) X.A (eval a X.env) (fun v s₁=>wpAny (az X.prog X.w) X.A (eval b X.env) (fun u s₂=>wpAny (az X.prog X.w) X.A (f v u) Q X.xe s₂) X.xe s₁) X.xe s:=by
 refine thn (ha pins s σ H _ I h) fun v s1 hz=>?_;obtain⟨x,H1,I1,r1,q1⟩:=hz;refine thn (hb pins s1 σ H1 _ I1 q1) fun u s2 hz=>?_;obtain⟨y,H2,I2,r2,q2⟩:=hz;exact hf v u s2 x y H2 I2 r1 r2 q2
theorem ZrS(ho:OpR X (fv op) r)(ha:PE X a ta)(hb:PE X b tb):PE X (.BinOp a op b pos) (tOp r ta tb):=by
 intro pins s σ H Q I h;exact wpAny_BinOp (ZrR ha hb I h fun v u s2 x y H2 I2 rx ry q=>ho pins s2 σ H2 x y v u Q I2 rx ry q)
theorem ZrT(ho:UnR X (unaryOp op) r)(ha:PE X a ta):PE X (.UnaryOp op a pos) (tUn r ta):=by
 intro pins s σ H Q I h;exact UnaryOp_ (thn (ha pins s σ H _ I h) fun v s1 ⟨x,H1,I1,r1,q1⟩=>ho pins s1 σ H1 x v Q I1 r1 q1)
theorem opI{g:Int->Int->Int}(rule:∀(i j:Int)(t u:Tok)(s:aC)(Q:Vp)(E:Vp),C i j->Q (.int (g i j) s.toks) {s with toks:=s.toks+1}->wpAny (az X.prog X.w) X.A (f (.int i t) (.int j u)) Q E s):OpR X f (rI C fun i j=>.int (g i j)):=by
 intro pins s σ H x y v u Q I rx ry h;obtain⟨i,j,rfl,rfl,hc,q⟩:=h;obtain⟨t,rfl⟩:=rx;obtain⟨t',rfl⟩:=ry;exact rule i j t t' s _ _ hc ⟨.int (g i j),H,I.tok _,⟨_,rfl⟩,q⟩
theorem ZtV{g:Int->Int->Int}(rule:∀(i j:Int)(t u:Tok)(s:aC)(Q:Vp)(E:Vp),Q (.int (g i j) s.toks) {s with toks:=s.toks+1}->wpAny (az X.prog X.w) X.A (f (.int i t) (.int j u)) Q E s):OpR X f (rI0 fun i j=>.int (g i j)):=by
 intro pins s σ H x y v u Q I rx ry h;obtain⟨i,j,rfl,rfl,q⟩:=h;obtain⟨t,rfl⟩:=rx;obtain⟨t',rfl⟩:=ry;exact rule i j t t' s _ _ ⟨.int (g i j),H,I.tok _,⟨_,rfl⟩,q⟩
theorem Zrz{g:Int->Int->Bool}(rule:∀(i j:Int)(t u:Tok)(s:aC)(Q:Vp)(E:Vp),Q (.bool (g i j)) s->wpAny (az X.prog X.w) X.A (f (.int i t) (.int j u)) Q E s):OpR X f (rI0 fun i j=>.bl (g i j)):=by
 intro pins s σ H x y v u Q I rx ry h;obtain⟨i,j,rfl,rfl,q⟩:=h;obtain⟨t,rfl⟩:=rx;obtain⟨t',rfl⟩:=ry;exact rule i j t t' s _ _ ⟨.bl (g i j),H,I,rfl,q⟩
noncomputable def ZtW(i j:Int):Prop:=0<=j/\j<=1000000/\i.natAbs<2^64
theorem Zox:OpR X (fv .Add) (rI0 fun i j=>.int (i+j)):=ZtV fun _ _ _ _ _ _ _ q=>add_int q
theorem Zoy:OpR X (fv .Sub) (rI0 fun i j=>.int (i-j)):=ZtV fun _ _ _ _ _ _ _ q=>sub_int q
theorem Zmd:OpR X (fv .Mod) (rI (fun _ j=>j≠0) fun i j=>.int (i.fmod j)):=opI fun _ _ _ _ _ _ _ hc q=>mod_int' hc q
theorem Zoz:OpR X (fv .Pow) (rI ZtW fun i j=>.int (i^j.toNat)):=opI fun _ _ _ _ _ _ _ hc q=>pow_int_small hc.1 hc.2.1 hc.2.2 q
theorem unI{g:Int->Int}(rule:∀(i:Int)(t:Tok)(s:aC)(Q:Vp)(E:Vp),Q (.int (g i) s.toks) {s with toks:=s.toks+1}->wpAny (az X.prog X.w) X.A (f (.int i t)) Q E s):UnR X f (rU fun i=>.int (g i)):=by
 intro pins s σ H x v Q I rx h;obtain⟨i,rfl,q⟩:=h;obtain⟨t,rfl⟩:=rx;exact rule i t s _ _ ⟨.int (g i),H,I.tok _,⟨_,rfl⟩,q⟩
theorem ZoA:UnR X (unaryOp .USub) (rU fun i=>.int (-i)):=unI fun _ _ _ _ _ q=>neg_int q
theorem Zcb:OpR X (eG .Lt) (rI0 fun i j=>.bl (decide (i<j))):=Zrz fun _ _ _ _ _ _ _ q=>lt_int q
theorem ZoB:OpR X (eG .LtE) (rI0 fun i j=>.bl (decide (i<=j))):=Zrz fun _ _ _ _ _ _ _ q=>le_int q
theorem ZcU:OpR X (eG .Gt) (rI0 fun i j=>.bl (decide (j<i))):=Zrz fun _ _ _ _ _ _ _ q=>gt_int q
theorem ZjJ:OpR X (eG .GtE) (rI0 fun i j=>.bl (decide (j<=i))):=Zrz fun _ _ _ _ _ _ _ q=>ge_int q
theorem OpR.or(h:OpR X f r)(h':OpR X f r'):OpR X f (fun x y H Q=>r x y H Q\/r' x y H Q):=by
 intro pins s σ H x y v u Q I rx ry q;rcases q with q|q
 ·exact h pins s σ H x y v u Q I rx ry q
 ·exact h' pins s σ H x y v u Q I rx ry q
theorem ZkV(b:Expr)(h:autoParam (op≠ .In) Qde._auto_1)(h2:autoParam (op≠ .NotIn) Qde._auto_1):gB op b=false:=by
 have e1:(op==CmpOp.In)=false:=by cases op<;>first|rfl|exact absurd rfl h
 have e2:(op==CmpOp.NotIn)=false:=by cases op<;>first|rfl|exact absurd rfl h2
 cases b<;>simp[gB,e1,e2]
theorem Zme(ho:OpR X (eG op) r)(ha:PE X a ta)(hb:PE X b tb)(hm:gB op b=false):PE X (.Compare a [op] [b] pos) (tOp r ta tb):=by
 intro pins s σ H Q I h;exact wpAny_Compare1 (ZrR ha hb I h fun v u s2 x y H2 I2 rx ry q=>ho pins s2 σ H2 x y v u Q I2 rx ry q) hm
noncomputable def ZoC(t:TE):TT:=fun σ H Q=>t σ H fun x H'=>∃k,x=.bl k/\Q k H'
theorem Zmf(ho:OpR X (eG op) r)(ha:PE X a ta)(hb:PE X b tb)(hm:gB op b=false):PT X (.Compare a [op] [b] pos) (ZoC (tOp r ta tb)):=by
 intro pins s σ H Q I h;refine wpAny_isTrue_Compare1 (thn (ha pins s σ H _ I h) fun v s1 ⟨x,H1,I1,r1,q1⟩=>thn (hb pins s1 σ H1 _ I1 q1) fun u s2 ⟨y,H2,I2,r2,q2⟩=>thn (ho pins s2 σ H2 x y v u _ I2 r1 r2 q2) fun c s3 ⟨z,H3,I3,r3,k,e,q3⟩=>?_) hm
 subst e;cases r3;exact eM ⟨H3,I3,q3⟩
theorem Zhn:(sizeLine:Nat)<2^63:=by rw[c9];decide
theorem ZgS:OpR X (fv .Add) (fun x y H Q=>∃i j,x=.str i/\y=.str j/\i.length+j.length<=sizeLine/\Q (.str (i++j)) H):=by
 intro pins s σ H x y v u Q I rx ry h;obtain⟨i,j,rfl,rfl,hz,q⟩:=h;obtain⟨t,rfl⟩:=rx;obtain⟨t',rfl⟩:=ry;exact add_str (fun t' tk=>⟨.str (i++j),H,I.tok _,⟨_,rfl⟩,q⟩) hz
theorem ZdU(r:Z1 [x] us):∃u,us=[u]/\Z8 x u:=by
 cases r with
 |cons r1 r2=>cases r2;exact⟨_,rfl,r1⟩
theorem ZjK(r:Z1 [x,y] us):∃u w',us=[u,w']/\Z8 x u/\Z8 y w':=by
 cases r with
 |cons r1 r2=>
  cases r2 with
  |cons r3 r4=>cases r4;exact⟨_,_,rfl,r1,r3⟩
theorem ZbB:ZbS X (.builtin "abs") (fun xs H Q=>∃i,xs=[.int i]/\Q (.int (if i<0 then -i else i)) H):=by
 intro pins s σ H xs us Q I r h;obtain⟨i,rfl,q⟩:=h;obtain⟨u,rfl,t,rfl⟩:=ZdU r;exact call_abs_int fun u tk=>⟨.int (if i<0 then -i else i),H,I.tok _,⟨_,rfl⟩,q⟩
theorem Zho(hc:X.calm=true):ZbS X (.builtin "max") (fun xs H Q=>∃i j,xs=[.int i,.int j]/\Q (.int (if j>i then j else i)) H):=by
 intro pins s σ H xs us Q I r h;obtain⟨i,j,rfl,q⟩:=h;obtain⟨u,w',rfl,⟨t,rfl⟩,⟨t',rfl⟩⟩:=ZjK r;refine max_two_ints (I.ok.hd hc) fun h' tk k=>⟨_,H,I.kept k,?_,q⟩;by_cases hj:j>i
 ·rw[if_pos hj,if_pos hj];exact⟨_,rfl⟩
 ·rw[if_neg hj,if_neg hj];exact⟨_,rfl⟩
theorem Zhp(hc:X.calm=true):ZbS X (.builtin "min") (fun xs H Q=>∃i j,xs=[.int i,.int j]/\Q (.int (if j<i then j else i)) H):=by
 intro pins s σ H xs us Q I r h;obtain⟨i,j,rfl,q⟩:=h;obtain⟨u,w',rfl,⟨t,rfl⟩,⟨t',rfl⟩⟩:=ZjK r;refine min_two_ints (I.ok.hd hc) fun h' tk k=>⟨_,H,I.kept k,?_,q⟩;by_cases hj:j<i
 ·rw[if_pos hj,if_pos hj];exact⟨_,rfl⟩
 ·rw[if_neg hj,if_neg hj];exact⟨_,rfl⟩
structure Room(k:Nat) (A:dR):Prop where
 hd:100<=k->A.handled=none
 gd:A.guards=some []
 dp:A.depth+3*k+5<ju
 un:A.units+16*k+200<j5
theorem Room.mono(r:Room k A)(h:j<=k):Room j A:=⟨fun z=>r.hd (aT z h),r.gd,by have:=r.dp;lia,by have:=r.un;lia⟩
theorem Room.deeper(r:Room (k+1) A)(env:Env):Room k (A.deeper env):=
 ⟨fun z=>r.hd (Nat.le_succ_of_le z),r.gd,by have:=r.dp;show A.depth+1+3*k+5<_;lia,by have:=r.un;show A.units+3+16*k+200<_;lia⟩
theorem Room.in1(r:Room (k+1) A):Room k A.in1:=
 ⟨fun z=>r.hd (Nat.le_succ_of_le z),r.gd,by have:=r.dp;show A.depth+3*k+5<_;lia,by have:=r.un;show A.units+1+16*k+200<_;lia⟩
theorem Room.depth(r:Room k A):A.depth<ju:=by have:=r.dp;lia
theorem Room.units(r:Room k A):A.units+64<j5:=by have:=r.un;lia
noncomputable def tNil:TA:=fun _ H Q=>Q [] H
noncomputable def ZrU(ta:TE)(tr:TA):TA:=fun σ H Q=>ta σ H fun x H1=>tr σ H1 fun xs H2=>Q (x::xs) H2
theorem ZkW:PA X [] tNil:=fun _ _ _ _ H Q I h=>Calls.spliced_nil ⟨[],H,I,.nil,h⟩
theorem Zfd(ha:PE X e te)(hr:PA X es t)(hs:autoParam (av (e::es) X.env=(false,eval e X.env)::av es X.env) Qrf._auto_1):PA X (e::es) (ZrU te t):=by
 intro pos pins s σ H Q I h;rw[hs];show wpAny _ _ (spliced ((false,eval e X.env)::db pos (av es X.env))) _ _ s;refine Calls.spliced_cons (thn (ha pins s σ H _ I h) fun u s1 hz=>?_);obtain⟨x,H1,I1,r1,q1⟩:=hz;exact thn (hr pos pins s1 σ H1 _ I1 q1) fun us s2 ⟨xs,H2,I2,r2,q2⟩=>⟨x::xs,H2,I2,.cons r1 r2,q2⟩
def ZuZ(t:TA):TE:=fun σ H Q=>t σ H fun xs H1=>xs.length<=sizeLine/\∀p,H1 p=none->Q (.ref p) (upd H1 p (.tup xs))
def Zu0(t:TA):TE:=fun σ H Q=>t σ H fun xs H1=>xs.length<=sizeLine/\∀p,H1 p=none->Q (.ref p) (upd H1 p (.lst xs))
theorem ZoD{x1}(h:PA X es t):PE X (.Tuple es x1 pos) (ZuZ t):=by
 intro pins s σ H Q I hq;refine wpAny_Tuple_spliced (thn (h pos pins s σ H _ I hq) fun us s1 ⟨xs,H1,I1,r,z,q⟩=>⟨by rw[<-r.length];exact z,?_⟩)
 have hf:H1 s1.heap.objs.size=none:=I1.hok.fresh (aj _);refine⟨.ref s1.heap.objs.size,upd H1 s1.heap.objs.size (.tup xs),I1.laid (t':=s1.toks) (fun b u e=>Hq _ e) (aj _) ?_,rfl,q _ hf⟩;exact⟨z,us,r,⟨_,aP _ rfl,rfl,_,rfl⟩⟩
theorem ZoE(h:PA X es t):PE X (.List es pos) (Zu0 t):=by
 intro pins s σ H Q I hq;refine wpAny_List_spliced (thn (h pos pins s σ H _ I hq) fun us s1 ⟨xs,H1,I1,r,z,q⟩=>⟨by rw[<-r.length];exact z,?_⟩)
 have hf:H1 s1.heap.objs.size=none:=I1.hok.fresh (aj _);refine⟨.ref s1.heap.objs.size,upd H1 s1.heap.objs.size (.lst xs),I1.laid (t':=s1.toks) (fun b u e=>Hq _ e) (aj _) ?_,rfl,q _ hf⟩;exact⟨z,us,0,r,aP _ rfl⟩
abbrev Sp:=List V->Hp->VK->XK->Prop
abbrev CXT:=List Env->Hp->aC->XK->ae->aC->Prop
structure Env0(P:cH) (w:c8) (K:Fg) (mg:Str->Option ae) (base:Heap) (A:dR) (outer:List Env) (s:aC) (H:Hp):Prop where
 frames:A.frames=some outer
 mod:Mod K mg base
 bs:∀b o,base.get? b=some o->s.heap.get? b=some o/\H b=none
 bsz:base.objs.size<=s.heap.objs.size
 funs:s.heap.FunFrames base outer
 frf:∀b∈frs outer,H b=none
 hok:HOk P w H s.heap
 bare:iO s.gens
 qd:Qd A H
 tb:Tbs K H
def CE(outer:List Env)(P:cH)(w:c8)(H:Hp)(s:aC)(Q:VK)(u:ae)(s':aC):Prop:=
 ∃v H',s'.os=s.os/\iO s'.gens/\Un (frs outer) [] H H' s.heap s'.heap/\HOk P w H' s'.heap/\Z8 v u/\Q v H'
def CR(CX:CXT)(outer:List Env)(P:cH)(w:c8)(H:Hp)(s:aC)(Q:VK)(E:XK)(r:Result)(s':aC):Prop:=
 match r with
 |.ok (.ret u)=>CE outer P w H s Q u s'
 |.ok _=>False
 |.error e=>CX outer H s E e s'
structure FnOk(P:cH) (w:c8) (K:Fg) (mg:Str->Option ae) (base:Heap) (CX:CXT) (k:Nat) (f:Addr) (fd:iS) (ps:List Str) (sp:Sp):Prop where
 len:∀vs H Q E,sp vs H Q E->vs.length=ps.length
 run:∀(A:dR)(outer:List Env)(s:aC)(H:Hp)(args:Args)(us:List ae)(vs:List V)(Q:VK)(E:XK),Room k A->Env0 P w K mg base A outer s H->lQ s fd args (ps.zip us)->Z1 vs us->sp vs H Q E->
  fY (az P w) A (.call (.ref f) args) (CR CX outer P w H s Q E) s
theorem Inv.env0(I:Inv X pins σ H s):Env0 X.prog X.w X.K X.mg X.base X.A X.stack s H:=
 ⟨I.ok.frames,I.ok.mod,I.bs,aT I.ok.bsz I.sz,I.stack,I.stkFree,I.hok,I.bare,I.qd,I.ok.tb.un I.base⟩
theorem Inv.after(I:Inv X pins σ H s)(h:CE X.stack X.prog X.w H s Q u s'):EP X pins σ Q u s':=by
 obtain⟨v,H',os,bare,un,hok,r,q⟩:=h;obtain⟨hh,g,d,t,os'⟩:=s';obtain rfl:os'=s.os:=os;exact⟨v,H',I.call (h':=hh) (g':=g) (d':=d) (t':=t) (ch:=[]) un hok bare (fun b z=>absurd z (by simp)),r,q⟩
noncomputable def ZrV(sp:Sp)(dvs:List V)(E:XK)(t:TA):TE:=fun σ H Q=>t σ H fun vs H1=>sp (vs++dvs) H1 Q E
noncomputable def Zfe(K:Fg)(fd:iS)(ps:List Str)(ds:List ae):Prop:=
 ∀(s:aC)(us:List ae),K.In s.heap->(us++ds).length=ps.length->lQ s fd ⟨us,[]⟩ (ps.zip (us++ds))
theorem Zfe.all{K:Fg}(h:∀us:List ae,us.length=ps.length->iT fd ⟨us,[]⟩=pure (ps.zip us)):Zfe K fd ps []:=fun s us _ hl=>by
 rw[cg]at hl ⊢;exact .of_eq (h us hl)
def Zhq(CX:CXT)(X:Cx)(E:XK):Prop:=∀(pins:Pn)(σ:St)(H:Hp)(s:aC)(e:ae)(s':aC),Inv X pins σ H s->CX X.stack H s E e s'->X.xe e s'
theorem ZoF(F:FnOk X.prog X.w X.K X.mg X.base CX k f fd ps sp)(hr:Room k X.A)(hb:Zfe X.K fd ps ds)(hd:Z1 dvs ds)(hx:Zhq CX X E)(I:Inv X pins σ H s)(r:Z1 vs us)(h:sp (vs++dvs) H Q E):wpAny (az X.prog X.w) X.A (call (.ref f) us) (EP X pins σ Q) X.xe s:=by
 have r2:Z1 (vs++dvs) (us++ds):=r.append hd;have hl:(us++ds).length=ps.length:=by rw[<-r2.length];exact F.len _ _ _ _ h
 refine wpAny_call (mD (F.run X.A X.stack s H ⟨us,[]⟩ (us++ds) (vs++dvs) Q E hr I.env0 (hb s us I.kIn hl) r2 h) fun r s' hq=>?_);cases r with
 |error e=>exact hx pins σ H s e s' I hq
 |ok fl=>
  cases fl with
  |ret u=>exact I.after hq
  |next=>exact fP hq
  |brk=>exact fP hq
  |cont=>exact fP hq
theorem Zmg(F:FnOk X.prog X.w X.K X.mg X.base CX k f fd ps sp)(hr:Room k X.A)(hg:Gl X x)(hm:X.mg x=some (.ref f))(hk:PySem.W.keepIn X.K (.ref f)=true)(hb:Zfe X.K fd ps ds)(hd:Z1 dvs ds)(hx:Zhq CX X E)(ha:PA X (e::es) t)(hdb:autoParam ((x==("__debug__":Str))=false) Qde._auto_1)(he:autoParam (av (e::es) X.env=(false,eval e X.env)::av es X.env) Qrf._auto_1)(hpl:autoParam ((db pos (av es X.env)).any (·.1)=false) Qrf._auto_1):
  PE X (.Call (.Name x p) (e::es) [] pos) (ZrV sp dvs E t):=by
 intro pins s σ H Q I h;refine wpAny_Call_Name_kw (Zhj I hg hm ?_ hdb);refine PySem.W.callWith_K (h₀:=X.base) I.ok.mod.kin hk (thn (ha pos pins s σ H _ I h) fun us s1 ⟨vs,H1,I1,r,q⟩=>⟨I1.kIn,?_⟩) he hpl;exact ZoF F hr hb hd hx I1 r q
structure FnScope(N P:List Str) (sc:js):Prop where
 kind:sc.kind=.function
 co:sc.isCoroutine=false
 gen:sc.isGenerator=false
 nd:N.Nodup
 pre:N.take P.length=P
 par:∀x∈P,sc.names.lookup x=some .local\/sc.names.lookup x=some .cell
 nofree:∀y∈sc.names,y.2≠ .free
theorem Zep{kindOf:Str->Option dc}{x:Str}:∀{binds:List (Str×ae)} {m:Str->Option ae},(∀v,(x,v)∉binds)->bindL kindOf binds m x=m x
 |[],_,_=>rfl
 | (n,v)::r,m,h=>by
  unfold bindL;rw[Zep fun w hw=>h w (aG _ hw)];split
  ·have:x≠n:=by rintro rfl;exact h v bX
   simp[this]
  ·rfl
theorem Zeq{kindOf:Str->Option dc}{x:Str}:∀{binds:List (Str×ae)} {m:Str->Option ae},(∀v,(x,v)∉binds)->bindC kindOf binds m x=m x
 |[],_,_=>rfl
 | (n,v)::r,m,h=>by
  unfold bindC;rw[Zeq fun w hw=>h w (aG _ hw)];split
  ·rfl
  ·have:x≠n:=by rintro rfl;exact h v bX
   simp[this]
theorem Zer{kindOf:Str->Option dc}{x:Str}{v:ae}:∀{P:List Str}{vs:List ae}{i:Nat}{m:Str->Option ae},P.Nodup->P[i]?=some x->vs[i]?=some v->kindOf x=some .local->bindL kindOf (P.zip vs) m x=some v
 |[],_,_,_,_,h,_,_=>by simp at h
 |_::_,[],_,_,_,_,h,_=>by simp at h
 |p::P,w::vs,0,m,nd,h1,h2,hk=>by
  simp at h1 h2;subst h1;subst h2;show bindL kindOf ((p,w)::P.zip vs) m p=_;unfold bindL;rw[Zep fun v hv=>(eH.mp nd).1 (gH hv).1,if_pos hk];simp
 |p::P,w::vs,i+1,m,nd,h1,h2,hk=>by
  show bindL kindOf ((p,w)::P.zip vs) m x=_;unfold bindL;exact Zer (i:=i) (eH.mp nd).2 (by simpa using h1) (by simpa using h2) hk
theorem Zes{kindOf:Str->Option dc}{x:Str}{v:ae}:∀{P:List Str}{vs:List ae}{i:Nat}{m:Str->Option ae},P.Nodup->P[i]?=some x->vs[i]?=some v->kindOf x≠some .local->bindC kindOf (P.zip vs) m x=some v
 |[],_,_,_,_,h,_,_=>by simp at h
 |_::_,[],_,_,_,_,h,_=>by simp at h
 |p::P,w::vs,0,m,nd,h1,h2,hk=>by
  simp at h1 h2;subst h1;subst h2;show bindC kindOf ((p,w)::P.zip vs) m p=_;unfold bindC;rw[Zeq fun v hv=>(eH.mp nd).1 (gH hv).1,if_neg hk];simp
 |p::P,w::vs,i+1,m,nd,h1,h2,hk=>by
  show bindC kindOf ((p,w)::P.zip vs) m x=_;unfold bindC;exact Zes (i:=i) (eH.mp nd).2 (by simpa using h1) (by simpa using h2) hk
noncomputable def start(N:List Str)(vs:List V):St:=vs.map some++bw (N.length-vs.length) none
noncomputable def ZfY(CX:CXT)(P:cH)(w:c8)(K:Fg)(mg:Str->Option ae)(base:Heap)(N:List Str)(qual:Str)(scope:js)(f:Addr)(cd:ae)(A:dR)(outer:List Env)(s:aC)(H:Hp)(E:XK):Cx where
 prog:=P
 w:=w
 K:=K
 mg:=mg
 base:=base
 A:=A.deeper (jv qual scope s.heap.objs.size f cd)
 N:=N
 s₀:=s
 H₀:=H
 env:=jv qual scope s.heap.objs.size f cd
 outer:=outer
 stack:=jv qual scope s.heap.objs.size f cd::outer
 ex:=[]
 calm:=A.handled.isNone
 fxs:=none
 fn:=fun _=>true
 pn:=[]
 xe:=fun e s'=>wpAny (az P w) (A.deeper (jv qual scope s.heap.objs.size f cd)) (m8 (jv qual scope s.heap.objs.size f cd) e) (fun _ s''=>CX outer H s E e s'') (fun e' s''=>CX outer H s E e' s'') s'
theorem ZfZ{sc:js}(h:sc.names.lookup x=some .cell):∃c,(bR n sc.names []).lookup x=some c:=by
 have q:=PySem.W.cellsFrom_some sc.names n [] (.inl h);exact eQ.mp q
theorem Zhr{K:Fg}(S:FnScope N ps scope)(e0:Env0 P w K mg base A outer s H)(hl:vs.length=ps.length)(r:Z1 vs us)(x:InCallC s s.heap.objs.size (bindL (jv qual scope s.heap.objs.size f cd).kindOf (ps.zip us) fun _=>none) (bR (s.heap.objs.size+1) scope.names []) (bindC (jv qual scope s.heap.objs.size f cd).kindOf (ps.zip us) fun _=>none) s1):Inv (ZfY CX P w K mg base N qual scope f cd A outer s H E) [] (start N vs) H s1:=by
 have hpl:ps.length<=N.length:=by have:=congrArg iU S.pre;rw[cI]at this;lia
 obtain⟨h1,tk,rfl,hk⟩:=x.done;have noA:∀b:Addr,b∉(ZfY CX P w K mg base N qual scope f cd A outer s H E).ex:=fun b z=>absurd (show b∈([]:List Addr)from z) (by simp)
 refine⟨⟨e0.mod,S.kind,rfl,rfl,aj _,fun y z c h1 h2=>?_,fun y hy=>?_,fun y c _ h=>?_,fun z=>gm.mp z,lh e0.frames,.inr ⟨rfl,rfl⟩,fun b z=>absurd z (noA b),e0.bs,e0.bsz,fun b _ _=>noA b,fun b z=>absurd z (noA b),e0.funs,e0.frf,e0.tb⟩,rfl,e0.bare,Un.kept hk,⟨_,x.toInCall.ns,fun i y v h1 h2 h3=>?_⟩,fun y c h=>⟨_,x.cell y c h⟩,e0.hok.fresh (aj _),fun y c h=>?_,fun p hp=>absurd (show p∈([]:Pn)from hp) (by simp),e0.hok.kept hk,?_,e0.qd,.free rfl⟩
 ·exact name_of_addr x.apart (PySem.mem_of_lookup h1) (PySem.mem_of_lookup h2)
 ·have hy:scope.names.lookup y=some .cell\/scope.names.lookup y=some .free:=hy;rcases hy with hy|hy
  ·exact ZfZ hy
  ·exact absurd rfl (S.nofree _ (PySem.mem_of_lookup hy))
 ·exact dI (x.above y c (PySem.mem_of_lookup h))
 ·have hi:i<vs.length:=by
   unfold start at h2;by_cases hi:i<vs.length
   ·exact hi
   ·rw[aI (by simpa using hi)]at h2
    rw[List.getElem?_replicate]at h2
    split at h2<;>cases h2
  have ha:vs[i]?=some v:=by
   unfold start at h2;rw[ah (by simpa using hi),bB]at h2
   cases e:vs[i]? with
   |none=>rw[e]at h2;cases h2
   |some a=>rw[e]at h2;cases h2;rfl
  obtain⟨u,hu,rv⟩:=r.get ha;have hp:ps[i]?=some y:=by
   rw[<-S.pre,bY (by lia)];exact h1
  have ndP:ps.Nodup:=by rw[<-S.pre];exact S.nd.sublist (List.take_sublist _ _)
  refine⟨u,rv,?_⟩;rcases S.par y (cV hp)with k|k
  ·exact .inl ⟨k,Zer ndP hp hu k⟩
  ·obtain⟨c,e⟩:=ZfZ (n:=s.heap.objs.size+1) k;refine .inr ⟨.inl k,c,e,?_⟩;have q:=x.cell y c e;rw[Zes ndP hp hu (by show scope.names.lookup y≠_;rw[k];decide)]at q
   exact q
 ·exact e0.hok.fresh (dI (x.above y c (PySem.mem_of_lookup h)))
 ·unfold start;show _=N.length;rw[a6,aB,bN];lia
theorem ZoG{K:Fg}{kV:ae}(lk:K.lookup f=some ⟨oc,od,.func (PySem.W.fnOf name qual params body scope dV kV doc pm an cdv ct),osl⟩)(hcd:PySem.W.codeIn K cdv qual=true)(S:FnScope N ps scope)(len:∀vs H Q E,sp vs H Q E->vs.length=ps.length)(hbody:∀(A:dR)(outer:List Env)(s:aC)(H:Hp)(vs:List V)(Q:VK)(E:XK),Room k (A.deeper (jv qual scope s.heap.objs.size f cdv))->sp vs H Q E->∃t,PSs (ZfY CX P w K mg base N qual scope f cdv A outer s H E) body t/\t {nx:=fun _ H'=>Q .non H',rt:=Q} (start N vs) H):FnOk P w K mg base CX (k+1) f (PySem.W.fnOf name qual params body scope dV kV doc pm an cdv ct) ps sp:=by
 refine⟨len,fun A outer s H args us vs Q E hr e0 hb r hsp=>?_⟩;have hl:=len _ _ _ _ hsp;have KX:K.In s.heap:=e0.mod.kin.keeps fun b o e=>(e0.bs b o e).1;have lim:s.heap.NoLimit:=e0.mod.nolimit.keeps fun b o e=>(e0.bs b o e).1;have hkind:∀y∈ps.zip us,scope.names.lookup y.1=some .local\/(scope.names.lookup y.1=some .cell/\((bR (s.heap.objs.size+1) scope.names []).lookup y.1).isSome=true):=fun⟨n,v⟩ hy=>by
  rcases S.par n (gH hy).1 with q|q
  ·exact .inl q
  ·exact .inr ⟨q,PySem.W.cellsFrom_some _ _ _ (.inl q)⟩
 refine codeAny_call_function hr.depth (KX _ _ lk) rfl S.co S.gen rfl (PySem.W.codeRec_of KX hcd) (hb _ _ _ _ ?_);refine wpAny_newFunctionEnv_cells S.kind hkind fun env he s1 x=>?_;subst he;refine⟨lim.keeps x.toInCall.keep,codeAny_func ?_⟩;obtain⟨t,ht,hq⟩:=hbody A outer s H vs Q E (hr.deeper _) hsp;have I:Inv (ZfY CX P w K mg base N qual scope f cdv A outer s H E) [] (start N vs) H s1:=Zhr S e0 hl r x;refine wpAny_mono (ht [] s1 (start N vs) H _ I hq) (fun fl s' hs=>?_) fun e s' hs=>hs;have fin:∀{σ':St}{H':Hp}{v:V}{u:ae},Inv (ZfY CX P w K mg base N qual scope f cdv A outer s H E) [] σ' H' s'->Z8 v u->Q v H'->CE outer P w H s Q u s':=
  fun{σ' H' v u} J rv q=>⟨v,H',J.os,J.bare,J.base,J.hok,rv,q⟩
 cases fl with
 |ret u=>
  obtain⟨v,σ',H',J,rv,q⟩:=hs;exact fin J rv q
 |next=>
  obtain⟨σ',H',J,q⟩:=hs;exact fin (v:=V.non) (u:=bJ) J rfl q
 |brk=>
  obtain⟨_,_,_,q⟩:=hs;exact fP q
 |cont=>
  obtain⟨_,_,_,q⟩:=hs;exact fP q
section
variable {pos:Pos}{id:String}
noncomputable def tCB(r:List V->Hp->VK->Prop)(t:TA):TE:=fun σ H Q=>t σ H fun vs H1=>r vs H1 Q
theorem Zf0(hc:ZbS X (.builtin id) r)(hg:Gl X x)(hm:X.mg x=none)(hv:bM x=some (.builtin id))(ha:PA X (e::es) t)(hn:autoParam (x≠"__name__") Qde._auto_1)(hdb:autoParam ((x==("__debug__":Str))=false) Qde._auto_1)
  (he:av (e::es) X.env=(false,eval e X.env)::av es X.env:=by rfl) (hpl:(db pos (av es X.env)).any (·.1)=false:=by rfl):PE X (.Call (.Name x p) (e::es) [] pos) (tCB r t):=by
 intro pins s σ H Q I h;refine wpAny_Call_Name_kw (Zcx I hg hm hv ?_ hn hdb);exact PyProof.Rows.callWith_builtin1 (thn (ha pos pins s σ H _ I h) fun us s1 ⟨vs,H1,I1,r1,q1⟩=>hc pins s1 σ H1 vs us Q I1 r1 q1) he hpl
theorem Zhs(hc:ZbS X (.type T) r)(hg:Gl X x)(hm:X.mg x=none)(hv:bM x=some (.type T))(ha:PA X (e::es) t)(hn:autoParam (x≠"__name__") Qde._auto_1)(hdb:autoParam ((x==("__debug__":Str))=false) Qde._auto_1)
  (he:av (e::es) X.env=(false,eval e X.env)::av es X.env:=by rfl) (hpl:(db pos (av es X.env)).any (·.1)=false:=by rfl):PE X (.Call (.Name x p) (e::es) [] pos) (tCB r t):=by
 intro pins s σ H Q I h;refine wpAny_Call_Name_kw (Zcx I hg hm hv ?_ hn hdb);exact cW (thn (ha pos pins s σ H _ I h) fun us s1 ⟨vs,H1,I1,r1,q1⟩=>hc pins s1 σ H1 vs us Q I1 r1 q1) he hpl
end
end L2
namespace HT
open PyProof.Rows
noncomputable def ZaX:List Int->List Int->Bool
 |[],[]=>false
 |[],_::_=>true
 |_::_,[]=>false
 |x::xs,y::ys=>if x=y then ZaX xs ys else decide (x<y)
theorem ZQ(x y:Int)(xs ys:List Int):ZaX (x::xs) (y::ys)=if x=y then ZaX xs ys else decide (x<y):=rfl
theorem ZjL(A:dR)(s:aC)(a:Int)(t:Tok)(c:Int)(u:Tok):∃e,mq A s (.int a t) (.int c u) e/\(e=true↔a=c):=
 ⟨(a==c),mq.int_int a t c u,by simp⟩
theorem ZjM(A:dR)(s:aC)(a:Int)(t:Tok)(c:Int)(u:Tok)(prog:cH)(w:c8)(E:Vp)(Q:Vp)(h:Q (.bool (decide (a<c))) s):wpAny (az prog w) A (richCompare .Lt (.int a t) (.int c u)) Q E s:=
 (PyProof.Rows.lt_int h:wpAny (az prog w) A (eG .Lt (.int a t) (.int c u)) Q E s)
section
open PySem.SeqAt
open PySem.AutoSeq1 (wpAny_loadPart')
open PySem.MeetsSeq PySem.MeetsSeq2 PySem.MeetsSeq3
end
theorem Zmh(ht:IsTup s.heap t vs.toArray)(hb:IsTup s.heap b ws.toArray)(hv:vs≠[])(h1:ws=[]->Q (.ref t) s)(h2:ws≠[]->Q (.ref s.heap.objs.size) {s with heap:=s.heap.push {cls:=.type "tuple",data:=.seq (vs++ws).toArray}})(hsz:vs.length+ws.length<=sizeLine):wpAny (az prog w) A (fv .Add (.ref t) (.ref b)) Q E s:=by
 obtain⟨⟨cls,dd,data,sl⟩,ho,hc,n,hd⟩:=id ht;obtain⟨⟨cls2,dd2,data2,sl2⟩,ho2,hc2,n2,hd2⟩:=id hb;simp only at hc hd hc2 hd2;subst hc hd hc2 hd2;have e:vs.toArray++ws.toArray=(vs++ws).toArray:=by simp
 by_cases hw:ws=[]
 ·exact concat_meets ⟨_,ho,rfl⟩ ⟨_,ho2,rfl⟩ noFill_tuple_add seq_tuple_add PySem.F.slot_tuple_add PySem.F.entry_tuple_add (PySem.F.args_tuple_add_2 _ _)
   (tuple_addW1 t b vs.toArray ws.toArray n n2 dd dd2 sl sl2 (by simpa using hv) (by simp[hw])) ⟨ho,ho2,h1 hw⟩
 ·refine concat_meets ⟨_,ho,rfl⟩ ⟨_,ho2,rfl⟩ noFill_tuple_add seq_tuple_add PySem.F.slot_tuple_add PySem.F.entry_tuple_add (PySem.F.args_tuple_add_2 _ _)
   (tuple_addW2 t b vs.toArray ws.toArray n n2 dd dd2 sl sl2 (by simpa using hv) (by simpa using hw) (by rw[au,au];exact hsz)) ⟨ho,ho2,?_⟩
  rw[e];exact h2 hw
noncomputable def sIx(n d:Nat):Option Int->Nat
 |none=>d
 |some v=>if v<0 then(v+(n:Int)).toNat else min v.toNat n
theorem ZoH(n d:Nat)(hd:d<=n)(o:Option Int):sIx n d o<=n:=by
 cases o with
 |none=>exact hd
 |some v=>
  show(if v<0 then(v+(n:Int)).toNat else min v.toNat n)<=n
  by_cases hv:v<0
  ·rw[if_pos hv];lia
  ·rw[if_neg hv];exact Nat.min_le_right _ _
theorem Zht(v:Int)(n d:Nat):(if v<0 then max (v+(n:Int)) 0 else min v (n:Int))=((sIx n d (some v):Nat):Int):=by
 show(if v<0 then max (v+(n:Int)) 0 else min v (n:Int))=(((if v<0 then(v+(n:Int)).toNat else min v.toNat n):Nat):Int)
 by_cases hv:v<0
 ·simp only[if_pos hv];lia
 ·simp only[if_neg hv];lia
theorem ZgT(lo hi:Option Int)(n:Nat):gn lo hi 1 (n:Int)=(((sIx n 0 lo:Nat):Int),((sIx n n hi:Nat):Int)):=by
 have h1:¬((1:Int)<0):=by lia
 unfold gn;simp only[h1,if_false];refine b5 ?_ ?_
 ·cases lo with
  |none=>rfl
  |some v=>exact Zht v n 0
 ·cases hi with
  |none=>rfl
  |some v=>exact Zht v n n
theorem ZgU(i j:Nat):el (i:Int) (j:Int) 1=j-i:=by
 unfold el;have h1:(1:Int)>0:=by lia
 simp only[h1,if_true,Int.ediv_one]
 split<;>lia
theorem Zdy(p:my v o)(h:Q o s):wpAny (az prog w) A (dH.Slice.slicePartIndex v) Q E s:=by
 cases p with
 |none=>exact slicePart_none h
 |int i t=>exact slicePart_int h
theorem ZcG{lo:Option Int}{n:Nat}(hs:s.heap.IsSliceOf sl vl vu .none)(pl:my vl lo)(pu:my vu hi)(h:Q (((sIx n 0 lo:Nat):Int),1,sIx n n hi-sIx n 0 lo) s):wpAny (az prog w) A (jw (.ref sl) (pure (n:Int))) Q E s:=by
 obtain⟨os,hos,hcs,hds⟩:=id hs;unfold jw dH.Slice.sliceFields;refine Wb (Wb (cx hos hds (x:=vl) rfl (Wb (cx hos hds (x:=vu) rfl (Wb (cx hos hds (x:=.none) rfl (Wp ?_)))))));refine Wb (slicePart_none ?_);show wpAny _ _ (if((1:Int)==0)=true then _ else _) _ _ s
 rw[if_neg (by decide)]
 refine Wb (Zdy pl (Wb (Zdy pu (Wb (Wp ?_)))));show wpAny _ _ (match gn lo hi 1 (n:Int)with|(lo,hi)=>pure (lo,(1:Int),el lo hi 1)) _ _ s
 rw[ZgT lo hi n];show wpAny _ _ (pure (((sIx n 0 lo:Nat):Int),(1:Int),el ((sIx n 0 lo:Nat):Int) ((sIx n n hi:Nat):Int) 1)) _ _ s;rw[ZgU];exact Wp h
theorem ZjN(xs:Array ae)(i k:Nat):((aH k).filterMap fun(m:Nat)=>xs[((i:Int)+(m:Int)*1).toNat]?).toArray=((xs.toList.drop i).take k).toArray:=by
 have e:(fun(m:Nat)=>xs[((i:Int)+(m:Int)*1).toNat]?)=fun m=>xs[i+m]?:=by
  funext m
  have:((i:Int)+(m:Int)*1).toNat=i+m:=by lia
  rw[this]
 rw[e]
 have:=pick_run xs i k
 rw[List.filterMap_map]at this;have e2:((fun x=>xs[x]?)∘fun x=>i+x)=fun m=>xs[i+m]?:=rfl;rw[e2]at this;rw[this]
theorem Zcc{lo:Option Int}(ht:IsTup s.heap t items)(hs:s.heap.IsSliceOf sl vl vu .none)(pl:my vl lo)(pu:my vu hi)(hw:¬(sIx items.size 0 lo=0/\sIx items.size items.size hi=items.size))(h:Q (.ref s.heap.objs.size) {s with heap:=s.heap.push {cls:=.type "tuple",data:=.seq ((items.toList.drop (sIx items.size 0 lo)).take (sIx items.size items.size hi-sIx items.size 0 lo)).toArray}})(hsz:items.size<=sizeLine):wpAny (az prog w) A (m9 (.ref t) (.ref sl)) Q E s:=by
 have htake:sizeOk (.seq ((items.toList.drop (sIx items.size 0 lo)).take (sIx items.size items.size hi-sIx items.size 0 lo)).toArray):=by
  show((items.toList.drop (sIx items.size 0 lo)).take (sIx items.size items.size hi-sIx items.size 0 lo)).toArray.size<=sizeLine;rw[au,cI,fZ,gr];lia
 have hj:sIx items.size items.size hi<=items.size:=ZoH _ _ (aj _) hi;obtain⟨os,hos,hcs,hds⟩:=id hs;have hTs:s.TypeIs (.ref sl) "slice":=⟨os,hos,hcs⟩;unfold m9
 try with_reducible refine cX ?_
 first|refine Wb (Wp ?_)|skip
 refine Wb (wpAny_sequenceKey ht.typeIs (by decide) ?_)
 refine Wb (gX (name:=bH "__getitem__") ht.typeIs eZ (cU eZ ht.typeIs entry_tuple_getitem ?_ (args_tuple_getitem _ _)))
 show wpAny _ _ (jp (.ref t) >>= _) _ _ s;refine Wb (tupleItemsOf_ ht ?_);refine Wb (wpAny_typeOf hTs ?_);rw[if_pos (by decide)]
 refine Wb (ZcG hs pl pu ?_);have hno:¬((((sIx items.size 0 lo:Nat):Int)==0&&(1:Int)==1&&(sIx items.size items.size hi-sIx items.size 0 lo)==items.size)=true):=by
  intro q;rw[aS,aS]at q;have q1:((sIx items.size 0 lo:Nat):Int)=0:=eq_of_beq q.1.1;have q2:sIx items.size items.size hi-sIx items.size 0 lo=items.size:=eq_of_beq q.2;exact hw ⟨by lia,by lia⟩
 show wpAny _ _ (if(((sIx items.size 0 lo:Nat):Int)==0&&(1:Int)==1&&(sIx items.size items.size hi-sIx items.size 0 lo)==items.size)=true then _ else _) _ _ s
 rw[if_neg hno,ZjN]
 first
  |exact Wb (m:=eS _) (cu (Wp ⟨_,rfl,Wp h⟩) htake)
  |exact Wb (m:=eS _) (cu (Wb (Wp (Wp ⟨_,rfl,Wp h⟩))) htake)
  |exact Wb (Wb (m:=eS _) (cu (Wp (Wp ⟨_,rfl,Wp h⟩)) htake))
  |exact Wb (Wb (m:=eS _) (cu (Wp ⟨_,rfl,Wp h⟩) htake))
end HT
namespace L2
open PyProof.Rows
abbrev TO:=St->Hp->(Option Int->Hp->Prop)->Prop
def PO(X:Cx)(e:Option Expr)(t:TO):Prop:=
 ∀(pins:Pn)(s:aC)(σ:St)(H:Hp)(Q:Option Int->Hp->Prop),Inv X pins σ H s->t σ H Q->
  wpAny (az X.prog X.w) X.A (evalPart e X.env) (fun u s'=>∃o H',Inv X pins σ H' s'/\my u o/\Q o H') X.xe s
noncomputable def tNoPart:TO:=fun _ H Q=>Q none H
noncomputable def ZrW(t:TE):TO:=fun σ H Q=>t σ H fun x H1=>∃i,x=.int i/\Q (some i) H1
theorem ZgV:∀{us:List ae},Z1 (ns.map V.int) us->hZ us ns:=by
 induction ns with
 |nil=>intro us r;rw[fm]at r;cases r;exact .nil
 |cons n ns ih=>
  intro us r;rw[aL]at r;cases r with
  |cons r1 r2=>
   obtain⟨t,e⟩:=r1;subst e;exact .cons n t (ih r2)
section
variable {lo hi:Option Expr}
theorem Zmi:PO X none tNoPart:=by
 intro pins s σ H Q I h;rw[evalPart_none];exact Wp ⟨none,H,I,.none,h⟩
theorem Zmj(h:PE X e te):PO X (some e) (ZrW te):=by
 intro pins s σ H Q I hw;rw[evalPart_some];refine thn (h pins s σ H _ I hw) fun u s1 hz=>?_;obtain⟨x,H1,I1,r1,q1⟩:=hz;obtain⟨i,rfl,q⟩:=q1;obtain⟨t,rfl⟩:=r1;exact⟨some i,H1,I1,.int i t,q⟩
def SlR(X:Cx)(r:V->Option Int->Option Int->Hp->VK->Prop):Prop:=
 ∀(pins:Pn)(s:aC)(σ:St)(H:Hp)(x:V)(v vl vu:ae)(lo hi:Option Int)(sl:Addr)(Q:VK),Inv X pins σ H s->Z8 x v->s.heap.IsSliceOf sl vl vu .none->my vl lo->my vu hi->r x lo hi H Q->
  ∃T id,typeLookup (.type T) "__getitem__"=pure (some (.builtin id))/\s.TypeIs v T/\wpAny (az X.prog X.w) X.A (m9 v (.ref sl)) (EP X pins σ Q) X.xe s
theorem SlR.or(h:SlR X r)(h':SlR X r'):SlR X (fun x lo hi H Q=>r x lo hi H Q\/r' x lo hi H Q):=by
 intro pins s σ H x v vl vu lo hi sl Q I rx hs pl pu q;rcases q with q|q
 ·exact h pins s σ H x v vl vu lo hi sl Q I rx hs pl pu q
 ·exact h' pins s σ H x v vl vu lo hi sl Q I rx hs pl pu q
noncomputable def tSl(r:V->Option Int->Option Int->Hp->VK->Prop)(te:TE)(tl th:TO):TE:=fun σ H Q=>te σ H fun x H1=>tl σ H1 fun l H2=>th σ H2 fun u H3=>r x l u H3 Q
theorem ZjO(hr:SlR X r)(he:PE X e te)(hl:PO X lo tl)(hu:PO X hi th):PE X (.Subscript e (.Slice lo hi none p2) pos) (tSl r te tl th):=by
 intro pins s σ H Q I h;refine Subscript_ (thn (he pins s σ H _ I h) fun v s1 hz=>?_);obtain⟨x,H1,I1,r1,q1⟩:=hz;refine wpAny_Slice (thn (hl pins s1 σ H1 _ I1 q1) fun vl s2 ⟨l,H2,I2,pl,q2⟩=>thn (hu pins s2 σ H2 _ I2 q2) fun vu s3 hz=>?_);obtain⟨u,H3,I3,pu,q3⟩:=hz;rw[evalPart_none];refine Wp ?_;have I4:Inv X pins σ H3 {s3 with heap:=s3.heap.push {cls:=.type "slice",data:=.fields #[vl,vu,.none]}}:=I3.kept (t':=s3.toks) fun b ob q=>Hq _ q;obtain⟨T,id,hT,ht,hg⟩:=hr pins {s3 with heap:=s3.heap.push {cls:=.type "slice",data:=.fields #[vl,vu,.none]}} σ H3 x v vl vu l u s3.heap.objs.size Q I4 r1 (ni.IsSliceOf.new ..) pl pu q3;show wpAny (az X.prog X.w) X.A (subscriptTail e (.Slice lo hi none p2) v (.ref s3.heap.objs.size)) (EP X pins σ Q) X.xe {s3 with heap:=s3.heap.push {cls:=.type "slice",data:=.fields #[vl,vu,.none]}};exact tail_any (ops:=[.ref s3.heap.objs.size,v]) ht hT hg (by with_unfolding_all rfl)
def ZkX(xs:List V)(lo hi:Option Int):List V:=(xs.drop (HT.sIx xs.length 0 lo)).take (HT.sIx xs.length xs.length hi-HT.sIx xs.length 0 lo)
theorem ZcV(xs:List V)(lo hi:Option Int):(ZkX xs lo hi).length<=xs.length:=by
 unfold ZkX;rw[cI,fZ];lia
def Zu1(K:Fg):V->Option Int->Option Int->Hp->VK->Prop:=fun x lo hi H Q=>∃a xs,x=.ref a/\SqT K H a xs/\
 ¬(HT.sIx xs.length 0 lo=0/\HT.sIx xs.length xs.length hi=xs.length)/\∀p,H p=none->Q (.ref p) (upd H p (.tup (ZkX xs lo hi)))
theorem ZoI:SlR X (Zu1 X.K):=by
 intro pins s σ H x v vl vu lo hi sl Q I rx hs pl pu h;obtain⟨a,xs,rfl,hx,hw,q⟩:=h;cases rx;obtain⟨its,r,ht,hz⟩:=I.tuple hx;have hlen:its.toArray.size=xs.length:=by rw[au];exact r.length.symm
 refine⟨"tuple",_,eZ.lookup,ht.typeIs,?_⟩;refine HT.Zcc ht hs pl pu (by rw[hlen];exact hw) ?_ (by rw[hlen];exact hz)
 rw[hlen];refine⟨.ref s.heap.objs.size,_,I.laid (t':=s.toks) (o:=.tup (ZkX xs lo hi)) (fun b ob q=>Hq _ q) (aj _) ?_,rfl,q _ (I.hok.fresh (aj _))⟩;exact⟨aT (ZcV xs lo hi) hz,_,(r.drop (HT.sIx xs.length 0 lo)).take (HT.sIx xs.length xs.length hi-HT.sIx xs.length 0 lo),IsTup.new _ _⟩
def Zmk(K:Fg):R2:=fun x y H Q=>∃a b xs ys,x=.ref a/\y=.ref b/\SqT K H a xs/\SqT K H b ys/\xs≠[]/\xs.length+ys.length<=sizeLine/\
 (ys=[]->Q (.ref a) H)/\(ys≠[]->∀p,H p=none->Q (.ref p) (upd H p (.tup (xs++ys))))
theorem Z1.nil_iff(r:Z1 xs us):us=[]↔xs=[]:=by
 cases r with
 |nil=>simp
 |cons _ _=>simp
theorem Zml:OpR X (fv .Add) (Zmk X.K):=by
 intro pins s σ H x y v u Q I rx ry h;obtain⟨a,b,xs,ys,rfl,rfl,ha,hb,hx,hz,q1,q2⟩:=h;cases rx;cases ry;obtain⟨its,r1,p1,_⟩:=I.tuple ha;obtain⟨its2,r2,p2,_⟩:=I.tuple hb;refine HT.Zmh p1 p2 (fun z=>hx (r1.nil_iff.mp z)) (fun z=>⟨.ref a,H,I,rfl,q1 (r2.nil_iff.mp z)⟩) (fun z=>?_) (by rw[<-r1.length,<-r2.length];exact hz)
 refine⟨.ref s.heap.objs.size,_,I.laid (t':=s.toks) (o:=.tup (xs++ys)) (fun b ob q=>Hq _ q) (aj _) ?_,rfl,q2 (fun w=>z (r2.nil_iff.mpr w)) _ (I.hok.fresh (aj _))⟩;exact⟨by rw[a6];exact hz,_,r1.append r2,IsTup.new _ _⟩
end
noncomputable def ixN(n:Nat)(i:Int):Option Nat:=if 0<=i then(if i<n then some i.toNat else none)else if -(n:Int)<=i then some (i+n).toNat else none
def atI{α:Type}(xs:List α)(i:Int):Option α:=(ixN xs.length i).bind fun j=>xs[j]?
theorem Zmm(h:ixN n i=some j):seqIndex? i n=some j/\j<n/\ -(n:Int)<=i/\i<n:=by
 unfold ixN at h;by_cases h0:0<=i
 ·rw[if_pos h0]at h;by_cases h1:i<n
  ·rw[if_pos h1]at h;have e:i.toNat=j:=aX h;exact⟨by rw[seqIndex_of h0 h1,e],by lia,by lia,h1⟩
  ·rw[if_neg h1]at h;cases h
 ·rw[if_neg h0]at h;by_cases h1: -(n:Int)<=i
  ·rw[if_pos h1]at h;have e:(i+n).toNat=j:=aX h;exact⟨by rw[seqIndex_neg (by lia) h1,e],by lia,h1,by lia⟩
  ·rw[if_neg h1]at h;cases h
theorem Zhu{xs:List α}{v:α}(h:atI xs i=some v):∃j,seqIndex? i xs.length=some j/\xs[j]?=some v/\j<xs.length/\ -(xs.length:Int)<=i/\i<xs.length:=by
 unfold atI at h;cases e:ixN xs.length i with
 |none=>rw[e]at h;cases h
 |some j=>
  rw[e]at h;obtain⟨h1,h2,h3,h4⟩:=Zmm e;exact⟨j,h1,h,h2,h3,h4⟩
theorem Zmn{xs:List α}{j:Nat}{v:α}(h:xs[j]?=some v):atI xs (j:Int)=some v:=by
 have hj:j<xs.length:=(aq.mp h).1;have e:ixN xs.length (j:Int)=some j:=by
  unfold ixN;rw[if_pos (by lia),if_pos (by lia)];simp
 unfold atI;rw[e];exact h
noncomputable def Zhv(b:Expr):Prop:=∀o i,subscripted b false o i=operate [o,i] (m9 o i)
def IxR(X:Cx)(r:R2):Prop:=
 ∀(value slice:Expr)(pins:Pn)(s:aC)(σ:St)(H:Hp)(x y:V)(v u:ae)(Q:VK),Inv X pins σ H s->Z8 x v->Z8 y u->r x y H Q->
  subscripted slice false v u=operate [v,u] (m9 v u)->wpAny (az X.prog X.w) X.A (subscriptTail value slice v u) (EP X pins σ Q) X.xe s
def MtR(X:Cx)(id:String)(r:V->List V->Hp->VK->Prop):Prop:=
 ∀(pins:Pn)(s:aC)(σ:St)(H:Hp)(x:V)(xs:List V)(v:ae)(us:List ae)(Q:VK),Inv X pins σ H s->Z8 x v->Z1 xs us->r x xs H Q->
  wpAny (az X.prog X.w) X.A (call (.builtin id) (v::us)) (EP X pins σ Q) X.xe s
section
variable {a:Expr}
theorem IxR.or(h:IxR X r)(h':IxR X r'):IxR X (fun x y H Q=>r x y H Q\/r' x y H Q):=by
 intro value slice pins s σ H x y v u Q I rx ry q hs;rcases q with q|q
 ·exact h value slice pins s σ H x y v u Q I rx ry q hs
 ·exact h' value slice pins s σ H x y v u Q I rx ry q hs
theorem ZrX(hr:IxR X r)(ha:PE X a ta)(hb:PE X b tb)(hs:Zhv b):PE X (.Subscript a b pos) (tOp r ta tb):=by
 intro pins s σ H Q I h;exact Subscript_ (ZrR ha hb I h fun v u s2 x y H2 I2 rx ry q=>hr a b pins s2 σ H2 x y v u Q I2 rx ry q (hs _ _))
def ZtX(K:Fg):R2:=fun x y H Q=>∃p xs i v,x=.ref p/\y=.int i/\SqL K H p xs/\atI xs i=some v/\Q v H
def ZtY(K:Fg):R2:=fun x y H Q=>∃p xs i v,x=.ref p/\y=.int i/\SqT K H p xs/\atI xs i=some v/\Q v H
theorem Zmo:IxR X (ZtX X.K):=by
 intro value slice pins s σ H x y v u Q I rx ry h hs;obtain⟨p,xs,i,z,rfl,rfl,hq,he,q⟩:=h;cases rx;obtain⟨t,rfl⟩:=ry;obtain⟨its,r,pl,hz⟩:=I.list hq;obtain⟨j,h1,h2,h3,h4,h5⟩:=Zhu he;obtain⟨w,ew,rw'⟩:=r.get h2;have hl:=r.length;have hn:=Zhn;have fin:EP X pins σ Q w s:=⟨z,H,I,rw',q⟩;by_cases h0:0<=i
 ·have hj:i.toNat=j:=by
   rw[seqIndex_of h0 h5]at h1;exact aX h1
  exact item_listR pl.isList h0 (by lia) (by rw[hj];simpa using ew) fin hs
 ·have hj:(i+(its.toArray.size:Int)).toNat=j:=by
   rw[seqIndex_neg (by lia) h4]at h1
   rw[au,<-hl];exact aX h1
  exact ku (x:=w) pl.isList.typeIs slot_list_getitem.lookup
   (wpAny_getItem_list_neg (Q:=fun r s'=>r=w/\EP X pins σ Q r s') pl.isList (by lia) (by rw[au]<;>lia) (by lia) (by rw[hj];simpa using ew) ⟨rfl,fin⟩) hs
theorem ZoJ:IxR X (ZtY X.K):=by
 intro value slice pins s σ H x y v u Q I rx ry h hs;obtain⟨p,xs,i,z,rfl,rfl,hq,he,q⟩:=h;cases rx;obtain⟨t,rfl⟩:=ry;obtain⟨its,r,pl,hz⟩:=I.tuple hq;obtain⟨j,h1,h2,h3,h4,h5⟩:=Zhu he;obtain⟨w,ew,rw'⟩:=r.get h2;have hl:=r.length;have hn:=Zhn;have fin:EP X pins σ Q w s:=⟨z,H,I,rw',q⟩;exact ku (x:=w) pl.typeIs slot_tuple_getitem.lookup
  (getItem_tuple (j:=j) (Q:=fun r s'=>r=w/\EP X pins σ Q r s') pl (by lia) (by lia) (by rw[au,<-hl];exact h1) (by simpa using ew) ⟨rfl,fin⟩) hs
theorem Zet(lo hi:Option Int)(n:Nat):(gY lo hi none n).1=((HT.sIx n 0 lo:Nat):Int)/\(gY lo hi none n).2.1=((HT.sIx n n hi:Nat):Int)/\(gY lo hi none n).2.2=1:=by
 refine⟨?_,?_,rfl⟩
 ·cases lo with
  |none=>simp[gY,HT.sIx]
  |some i=>
   simp only[gY,HT.sIx,Option.getD_none,show(1:Int)>0 by decide,if_true]
   by_cases h:i<0
   ·simp only[h,if_true]<;>lia
   ·simp only[h,if_false]<;>lia
 ·cases hi with
  |none=>simp[gY,HT.sIx]
  |some i=>
   simp only[gY,HT.sIx,Option.getD_none,show(1:Int)>0 by decide,if_true]
   by_cases h:i<0
   ·simp only[h,if_true]<;>lia
   ·simp only[h,if_false]<;>lia
theorem ZdV(its:List ae)(lo hi:Option Int):slicePick its.toArray lo hi none=((its.drop (HT.sIx its.length 0 lo)).take (HT.sIx its.length its.length hi-HT.sIx its.length 0 lo)).toArray:=by
 obtain⟨h1,h2,h3⟩:=Zet lo hi its.toArray.size;unfold slicePick;rw[h1,h2,h3];simp only[sliceRange_one,pick_run,au]<;>rfl
def Zu2(K:Fg):V->Option Int->Option Int->Hp->VK->Prop:=fun x lo hi H Q=>∃a xs,x=.ref a/\SqL K H a xs/\∀p,H p=none->Q (.ref p) (upd H p (.lst (ZkX xs lo hi)))
theorem Zmp:SlR X (Zu2 X.K):=by
 intro pins s σ H x v vl vu lo hi sl Q I rx hs pl pu h;obtain⟨a,xs,rfl,hx,q⟩:=h;cases rx;obtain⟨its,r,ht,hz⟩:=I.list hx;have hlen:=r.length;refine⟨"list",_,slot_list_getitem.lookup,ht.isList.typeIs,?_⟩;refine wpAny_getItem_list_slice ht.isList hs pl pu .none (by simp) ?_ (by rw[au]<;>lia)
 rw[ZdV,<-hlen];refine⟨.ref s.heap.objs.size,_,I.laid (t':=s.toks) (o:=.lst (ZkX xs lo hi)) (fun b ob q=>Hq _ q) (aj _) ?_,rfl,q _ (I.hok.fresh (aj _))⟩;exact⟨aT (ZcV xs lo hi) hz,_,0,(r.drop (HT.sIx xs.length 0 lo)).take (HT.sIx xs.length xs.length hi-HT.sIx xs.length 0 lo),aP _ rfl⟩
theorem Zo:ZbS X (.builtin "len") (fun xs H Q=>∃p ys,xs=[.ref p]/\(SqL X.K H p ys\/SqT X.K H p ys)/\Q (.int ys.length) H):=by
 intro pins s σ H xs us Q I r h;obtain⟨p,ys,rfl,hq,q⟩:=h;obtain⟨u,rfl,rx⟩:=ZdU r;cases rx;have hn:=Zhn;rcases hq with hq|hq
 ·obtain⟨its,r',pl,hz⟩:=I.list hq;have hlen:=r'.length;exact Calls.call_len_list pl.isList (by simp only[au]<;>lia) ⟨.int ys.length,H,I.tok _,⟨s.toks+1,by rw[au,hlen]⟩,q⟩
 ·obtain⟨its,r',pl,hz⟩:=I.tuple hq;have hlen:=r'.length;exact len_tuple pl (by simp only[au]<;>lia) ⟨.int ys.length,H,I.tok _,⟨s.toks+1,by rw[au,hlen]⟩,q⟩
theorem Zeu:ZbS X (.type "list") (fun xs H Q=>∃p ys,xs=[.ref p]/\(SqL X.K H p ys\/SqT X.K H p ys)/\∀l,H l=none->Q (.ref l) (upd H l (.lst ys))):=by
 intro pins s σ H xs us Q I r h;obtain⟨p,ys,rfl,hq,q⟩:=h;obtain⟨u,rfl,rx⟩:=ZdU r;cases rx;have fin:∀(its:List ae),Z1 ys its->ys.length<=sizeLine->∀(h':Heap)(c':Nat),(∀b o',s.heap.get? b=some o'->h'.get? b=some o')->
   h'.get? s.heap.objs.size=some {cls:=.type "list",dict:=none,data:=.seq its.toArray c',slots:= #[]}->EP X pins σ Q (.ref s.heap.objs.size) {s with heap:=h'}:=fun its r' hz h' c' kp e=>
  ⟨.ref s.heap.objs.size,_,I.laid (t':=s.toks) kp (aj _) (show ZaW X.prog X.w _ h' _ (.lst ys)from⟨hz,its,c',r',e⟩),rfl,q _ (I.hok.fresh (aj _))⟩
 rcases hq with hq|hq
 ·obtain⟨its,r',pl,hz⟩:=I.list hq;have hlen:=r'.length;obtain⟨o,ho,hc,n,hd⟩:=pl.isList;exact call_list_seq p (.inl rfl) ho hc hd (fun h' c' kp e=>fin its r' hz h' c' kp e) (by simp only[au]<;>lia)
 ·obtain⟨its,r',pl,hz⟩:=I.tuple hq;have hlen:=r'.length;obtain⟨o,ho,hc,n,hd⟩:=pl;exact call_list_seq p (.inr rfl) ho hc hd (fun h' c' kp e=>fin its r' hz h' c' kp e) (by simp only[au]<;>lia)
def tyV(K:Fg)(T:String)(x:V)(H:Hp):Prop:=match x with
 |.str _=>T="str"
 |.int _=>T="int"
 |.ref p=>(T="list"/\∃xs,SqL K H p xs)\/(T="tuple"/\∃o,K.lookup p=some o/\o.cls=.type "tuple"/\o.dict=none)\/
   (T="dict"/\((∃kvs,H p=some (.dK kvs))\/∃kvs,H p=some (.dT kvs)))\/(T="set"/\∃S n,H p=some (.set S n))
 |_=>False
theorem ZoK(I:Inv X pins σ H s)(r:Z8 x v)(ty:tyV X.K T x H):s.TypeIs v T/\∀a,v=.ref a->∃ob,s.heap.get? a=some ob/\ob.dict=none:=by
 cases x with
 |str z=>
  obtain⟨t,rfl⟩:=r;cases(show T="str" from ty);exact⟨typeIs_str s z t,fun _ e=>nomatch e⟩
 |int i=>
  obtain⟨t,rfl⟩:=r;cases(show T="int" from ty);exact⟨typeIs_int s i t,fun _ e=>nomatch e⟩
 |ref p=>
  cases r;rcases ty with⟨rfl,xs,hq⟩|⟨rfl,o,hk,hc,hd⟩|⟨rfl,hk⟩|⟨rfl,S,n,hk⟩
  ·obtain⟨its,_,pl,_⟩:=I.list hq;refine⟨pl.isList.typeIs,fun a e=>?_⟩;cases e;obtain⟨o,n,e,c,hd,_⟩:=pl;exact⟨o,e,hd⟩
  ·refine⟨⟨o,I.kIn p o hk,hc⟩,fun a e=>?_⟩;cases e;exact⟨o,I.kIn _ o hk,hd⟩
  ·have z:∃o,s.heap.get? p=some o/\o.ExactDict:=by
    rcases hk with⟨kvs,hk⟩|⟨kvs,hk⟩
    ·obtain⟨_,_,_,_,o,_,_,e,ex,_⟩:=I.hok p _ hk;exact⟨o,e,ex⟩
    ·obtain⟨_,_,_,_,o,_,_,e,ex,_⟩:=I.hok p _ hk;exact⟨o,e,ex⟩
   obtain⟨o,e,ex⟩:=z;refine⟨⟨o,e,ex.1⟩,fun a e2=>?_⟩;cases e2;exact⟨o,e,ex.2.1⟩
  ·obtain⟨o,_,_,_,e,ex,_⟩:=I.hok p _ hk;refine⟨⟨o,e,ex.1⟩,fun a e2=>?_⟩;cases e2;exact⟨o,e,ex.2.1⟩
 |_=>exact fP ty
def tBM(K:Fg)(T:String)(r:V->List V->Hp->VK->Prop)(to:TE)(t:TA):TE:=fun σ H Q=>to σ H fun x H1=>tyV K T x H1/\t σ H1 fun xs H2=>r x xs H2 Q
variable {T id:String}
theorem ZrY(pa:PlainAttrs T)(slot:Slot T name id)(hty:typeOf (.builtin id)=pure (.type "method_descriptor"))(hm:MtR X id r)(ho:PE X o to)(ha:PA X (e::es) t)(hbase:autoParam (iP o name X.env (eval o X.env)=eval o X.env) Qrf._auto_1)
  (hfew:((db cpos (av (e::es) X.env)).all (fun x=> !x.1)&&(jy cpos (fQ [] X.env)).all (fun x=>x.1.isSome) && decide ((e::es).length+([]:List jd).length+(if([]:List jd).isEmpty then 0 else 1)<30))=true:=by rfl)
  (hline:(apos.endLine==cpos.line)=true:=by rfl) (hs:av (e::es) X.env=(false,eval e X.env)::av es X.env:=by rfl) (hplain:(db cpos (av es X.env)).any (·.1)=false:=by rfl):
  PE X (.Call (.Attribute o name apos) (e::es) [] cpos) (tBM X.K T r to t):=by
 intro pins s σ H Q I h;refine wpAny_Call_method_late hbase hfew hline rfl (thn (ho pins s σ H _ I h) fun v s1 hz=>?_);obtain⟨x,H1,I1,r1,ty,q1⟩:=hz;obtain⟨h1,h2⟩:=ZoK I1 r1 ty;refine⟨T,id,pa,slot,hty,h1,h2,?_⟩;have hA:=ha cpos pins s1 σ H1 _ I1 q1;rw[hs]at hA ⊢;refine Calls.callWith_builtin (by show(false||(db cpos (av es X.env)).any (·.1))=false;rw[hplain]<;>rfl) (Calls.evalArgs_plain ?_)
 exact thn hA fun us s2 ⟨vs,H2,I2,r2,q2⟩=>hm pins s2 σ H2 x vs v us Q I2 r1 r2 q2
end
def MtM(X:Cx)(id:String)(r:V->List V->Hp->VK->Prop):Prop:=
 ∀(pins:Pn)(s:aC)(σ:St)(H:Hp)(x:V)(xs:List V)(v:ae)(us:List ae)(Q:VK),Inv X pins σ H s->Z8 x v->Z1 xs us->r x xs H Q->
  wpAny (az X.prog X.w) X.A (call (.builtin id) (v::us)) (EP X pins σ Q) X.xe s
theorem Z1.one:∀{x:V}{us:List ae},Z1 [x] us->∃u,us=[u]/\Z8 x u:=by
 intro _ _ h;cases h with|cons r t=>cases t;exact⟨_,rfl,r⟩
theorem Inv.lset{its:List ae}(I:Inv X pins σ H s)(hH:H l=some (.lst xs))(e:s.heap.get? l=some {cls:=.type "list",data:=.seq its.toArray n})(hf:f its.toArray=its'.toArray)(hv:Z1 ys its')(hz:ys.length<=sizeLine):Inv X pins σ (upd H l (.lst ys)) {s with heap:=s.heap.update l (aV f),toks:=t'}:=by
 have q:=PySem.IsL.update e f;rw[hf]at q;refine I.write (x:=l) (e:=l) (by rw[hH];exact trivial) (.inl rfl) (fun b' u hb hu=>(aW s.heap (aV f) (bV hb)).trans hu) ⟨_,q⟩ ?_
 exact⟨hz,its',_,hv,q⟩
theorem Inv.lnew(I:Inv X pins σ H s)(hv:Z1 ys its)(hz:ys.length<=sizeLine):Inv X pins σ (upd H s.heap.objs.size (.lst ys)) {s with heap:=s.heap.push {cls:=.type "list",data:=.seq its.toArray},toks:=t'}:=
 I.laid (fun _ _ q=>Hq _ q) (aj _) ⟨hz,its,0,hv,aP _ rfl⟩
theorem Inv.fresh(I:Inv X pins σ H s):H s.heap.objs.size=none:=I.hok.fresh (aj _)
theorem Inv.lstM(I:Inv X pins σ H s)(hH:H l=some (.lst xs)):xs.length<=sizeLine/\∃(its:List ae) (n:Nat),Z1 xs its/\xs.length=its.length/\s.heap.get? l=some {cls:=.type "list",data:=.seq its.toArray n}:=by
 obtain⟨z,its,n,r,e⟩:=I.hok l _ hH;exact⟨z,its,n,r,r.length,e⟩
theorem ZjP(h:n<=sizeLine):gE n=false:=by
 unfold gE;exact decide_eq_false (by lia)
def rAppend:V->List V->Hp->VK->Prop:=fun x vs H Q=>∃l xs y,x=.ref l/\vs=[y]/\H l=some (.lst xs)/\xs.length<sizeLine/\Q .non (upd H l (.lst (xs++[y])))
theorem Zev:MtM X "list.append" rAppend:=by
 intro pins s σ H x vs v us Q I rx rv h;obtain⟨l,xs,y,rfl,rfl,hH,hz,q⟩:=h;cases rx;obtain⟨u,rfl,ru⟩:=rv.one;obtain⟨z,its,n,r,hl,e⟩:=I.lstM hH;refine call_meets F.slot_list_append ⟨_,e,rfl⟩ F.entry_list_append (F.args_list_append_2 _ _) (PySem.list_append l its.toArray n u (by rw[au];lia)) ⟨e,?_⟩
 refine⟨.non,_,I.lset (its':=its++[u]) hH e (by simp) (r.append (.cons ru .nil)) ?_,rfl,q⟩
 rw[a6,fI];lia
def rExtend:V->List V->Hp->VK->Prop:=fun x vs H Q=>∃l b xs zs,x=.ref l/\vs=[.ref b]/\H l=some (.lst xs)/\H b=some (.lst zs)/\xs.length+zs.length<=sizeLine/\Q .non (upd H l (.lst (xs++zs)))
theorem Zhw:MtM X "list.extend" rExtend:=by
 intro pins s σ H x vs v us Q I rx rv h;obtain⟨l,b,xs,zs,rfl,rfl,hH,hB,hz,q⟩:=h;cases rx;obtain⟨u,rfl,ru⟩:=rv.one;cases ru;obtain⟨z,its,n,r,hl,e⟩:=I.lstM hH;obtain⟨z2,its2,n2,r2,hl2,e2⟩:=I.lstM hB;have hsz:its.toArray.size+its2.toArray.size<=sizeLine:=by rw[au,au];lia
 have hlong:¬(!its.toArray.isEmpty&&gE (its.toArray.size+its2.toArray.size))=true:=by
  rw[ZjP hsz,Bool.and_false];exact cA
 refine call_meets F.slot_list_extend ⟨_,e,rfl⟩ F.entry_list_extend (F.args_list_extend_2 _ _)
  (AutoSeq1.list_extend_list_list_0 l its.toArray n b its2.toArray n2 hlong (by rw[au];lia) (by lia)) ⟨e,e2,?_⟩
 refine⟨.non,_,I.lset (its':=its++its2) hH e (by simp) (r.append r2) ?_,rfl,q⟩
 rw[a6];lia
def rCat:R2:=fun x y H Q=>∃l b xs zs,x=.ref l/\y=.ref b/\H l=some (.lst xs)/\H b=some (.lst zs)/\xs.length+zs.length<=sizeLine/\∀p,H p=none->Q (.ref p) (upd H p (.lst (xs++zs)))
theorem ZoL:OpR X (fv .Add) rCat:=by
 intro pins s σ H x y v u Q I rx ry h;obtain⟨l,b,xs,zs,rfl,rfl,hH,hB,hz,q⟩:=h;cases rx;cases ry;obtain⟨z,its,n,r,hl,e⟩:=I.lstM hH;obtain⟨z2,its2,n2,r2,hl2,e2⟩:=I.lstM hB;refine PySem.P.add_list e e2 ?_ (by rw[au,au];lia)
 have ea:its.toArray++its2.toArray=(its++its2).toArray:=by simp
 rw[ea];exact⟨.ref _,_,I.lnew (t':=s.toks) (r.append r2) (by rw[a6];lia),rfl,q _ I.fresh⟩
end L2
namespace Att
open PySem.W PySem.Calls PyProof.Rows
theorem ZcW:∀(ns:List Int)(vs:List ae),WellAll P h vs (ns.map WData.int)->hZ vs ns:=by
 intro ns
 induction ns with
 |nil=>
  intro vs w;rw[fm]at w;cases w;exact .nil
 |cons n ns ih=>
  intro vs w;rw[aL]at w;cases w with
  |cons a b=>
   cases a;exact .cons _ _ (ih _ b)
theorem Zhx{l:OpenLaw}(hn:l.most=some n)(hpre:l.row.toRowW.claim.pre args=true)(hwl:WellAll P h vals args):∃a vs ns,vals=[aZ a]/\args=[WData.list (ns.map WData.int)]/\h.get? a=some {cls:=.type "list",data:=.seq vs.toArray}/\hZ vs ns/\ns.length<=n:=by
 have hsh:WShape.hasAll [] args [.list .int]=true:=(pre_splitW hpre).1;have hc:l.pre.holds [] {args:=args}=true:=(pre_splitW hpre).2;obtain⟨d,r,rfl,h1,h2⟩:=hasAllW_cons hsh;obtain rfl:=hasAllW_nil h2;obtain⟨xs,rfl,h3⟩:=hasW_list h1;obtain⟨ns,rfl⟩:=items_int h3;have hlen:ns.length<=n:=by
  unfold OpenLaw.pre at hc;have h4:(WTm.not (.lt (.lit (.int (n:Int))) (.len (.arg 0)))).holds [] {args:=[.list (ns.map .int)]}=true:=by
   have h4:=(holds_andW hc).1;rw[hn]at h4;exact h4
  have h5:=condW_of h4 (w_not (w_lt w_lit (w_len_list (w_arg rfl))));rw[aB]at h5;refine Nat.le_of_not_lt fun q=>?_;have q':(n:Int)<((ns.length:Nat):Int):=by lia
  first
   | (rw[decide_eq_true q']at h5;exact absurd h5 (by decide))
   | (simp at h5;lia)
 cases hwl with
 |cons w1 w2=>
  cases w2;cases w1 with
  |list ho hall=>exact⟨_,_,ns,rfl,rfl,ho,ZcW ns _ hall,hlen⟩
theorem Zhy(l:OpenLaw)(args:List WData):l.row.toRowW.claim.post args (.bool true) args=true:=
 postW_of (r:=l.row.toRowW) (X:=(true==true))
  (show WShape.has [] (.bool true) .bool=true by first|rfl|decide|simp[WShape.has,WShape.arms,WShape.armsAll])
  (show(WTm.eq .res (.lit (.bool true))).value [] {args:=args,res:=some (.bool true),after:=args}=some (.bool (true==true))from w_eq_bool (w_res rfl) w_lit) rfl
theorem Zff{l:OpenLaw}(hn:l.most=some n)(hdf:d.params.defaults=[])(call:∀(w:c8)(s₀ s₁:aC)(mg mb:Str->Option ae)(fa:Addr)(o:Obj)(pm cd doc:ae)(a:Addr)(vs:List ae)(ns:List Int),Ground q loose [] XP w s₀ mg mb s₁.heap->YP w s₁.heap->s₁.heap.get? fa=some o->o.data=.func (docDef d.name d.params d.body d.scope pm cd doc)->s₁.heap.CodeRec cd d.name->mg d.name=some (.ref fa)->s₁.heap.get? a=some {cls:=.type "list",data:=.seq vs.toArray}->hZ vs ns->ns.length<=n->s₁.gens= #[]->fY (az l.prog w) lS (.call (.ref fa) ⟨[.ref a],[]⟩) (fun r s'=>r=.ok (.ret (.bool true))/\OldK s₁.heap s'.heap/\s'.os=s₁.os/\iO s'.gens) s₁):WalkO q loose XP YP l.row.toRowW d [] (fun f vs=>PySem.call f vs):=by
 intro w s₀ s₁ mg mb G Y fa o pm cd doc dV kV ho hd hcd hD hmg hg args vals as hpre hlay hrd hwl hlo;obtain rfl:dV=.none:=Dflts.none hD hdf;obtain rfl:kV=.none:=Dflts.noKw hD;obtain⟨a,vs,ns,rfl,rfl,hobj,hints,hlen⟩:=Zhx hn hpre hwl;refine enter_call (mD (call w s₀ s₁ mg mb fa o pm cd doc a vs ns G Y ho (fd_plain hd) hcd hmg hobj hints hlen hg) fun r s' hq=>?_);obtain⟨rfl,h2,h3,h4⟩:=hq;exact⟨.inl ⟨.bool true,.bool true,[],rfl,fun _=>rfl,.bool true,Zhy l _,fun _=>⟨iN.nil,fun _ hm=>(nomatch hm)⟩⟩,h2,h3,h4⟩
end Att
namespace L2
open PyProof.Rows
theorem Zew:∀{vs:List ae}{ns:List Int},hZ vs ns->Z1 (ns.map V.int) vs
 |_,_,.nil=>.nil
 |_,_,.cons n t h=>.cons ⟨t,rfl⟩ (Zew h)
noncomputable def Zbs(s:Stmt):Arguments:=match s with
 |.FunctionDef _ a _ _ _ _ _ _ _ _=>a
 |_=>{posonlyargs:=[],args:=[],vararg:=none,kwonlyargs:=[],kw_defaults:=[],kwarg:=none,defaults:=[]}
noncomputable def Zax(s:Stmt):List Stmt:=match s with
 |.FunctionDef _ _ b _ _ _ _ _ _ _=>b
 |_=>[]
noncomputable def Zq(s:Stmt):js:=match s with
 |.FunctionDef _ _ _ _ _ _ sc _ _ _=>sc
 |_=>{kind:=.function,names:=[],isGenerator:=false,isCoroutine:=false}
noncomputable abbrev E0:XK:=fun _ _ _=>False
structure Fun(K:Fg) (x qual:Str) (st:Stmt) (f:Addr) (fd:iS):Prop where
 ex:∃(oc:ae) (od:Option Addr) (kV doc pm:ae) (an:Option Addr) (cdv ct:ae) (osl:Array (Option ae)),
  fd=PySem.W.fnOf x qual (Zbs st) (Zax st) (Zq st) .none kV doc pm an cdv ct/\K.lookup f=some ⟨oc,od,.func fd,osl⟩/\PySem.W.codeIn K cdv qual=true
 kp:PySem.W.keepIn K (.ref f)=true
section
variable {K:Fg}
theorem Fun.binds{st:Stmt}(F:Fun K x qual st f fd)(h:∀(kV doc pm:ae)(an:Option Addr)(cdv ct:ae)(us:List ae),us.length=ps.length->iT (PySem.W.fnOf x qual (Zbs st) (Zax st) (Zq st) .none kV doc pm an cdv ct) ⟨us,[]⟩=pure (ps.zip us)):Zfe K fd ps []:=by
 obtain⟨oc,od,kV,doc,pm,an,cdv,ct,osl,rfl,lk,hcd⟩:=F.ex;exact .all (h kV doc pm an cdv ct)
theorem ZoM{st:Stmt}{kV:ae}(l:K.lookup f=some ⟨oc,od,.func (PySem.W.fnOf x qual (Zbs st) (Zax st) (Zq st) .none kV doc pm an cdv ct),osl⟩)(c:PySem.W.codeIn K cdv qual=true)(k:PySem.W.keepIn K (.ref f)=true):Fun K x qual st f (PySem.W.fnOf x qual (Zbs st) (Zax st) (Zq st) .none kV doc pm an cdv ct):=⟨⟨oc,od,kV,doc,pm,an,cdv,ct,osl,rfl,l,c⟩,k⟩
end
theorem Zhz(h:n<=1000):n<sizeLine:=gN h (by decide)
theorem Zn4{A:Prop}(h:B):if false=true then A else B:=by
 rw[if_neg cA];exact h
theorem Zn5{A:Prop}(h:A):if true=true then A else B:=by
 rw[if_pos rfl];exact h
end L2
namespace DL
open PyProof.Rows L2
structure Rw where
 n:String
 i:Nat
 f:Nat
 m:String
 t:Nat
 u:Nat
 ln:Nat
 na:Nat
 b:Bool
 v:Nat
noncomputable def zz1(P:lu)(s:String)(n:Nat)(v:ae):lU:={hash:=PyData.keyHash P (bH s),key:=lP (bH s) n,val:=v}
noncomputable def zz3(s:String)(n:Nat):ae:=lP (bH s) n
noncomputable def zz4(n:Int):ae:=j6 n 0
noncomputable def zz6(b:Bool)(n:Nat):ae:=if b then .ref n else .none
def Rw.fo(p:Nat->Stmt)(r:Rw):Obj:=⟨.type "function",none,.func (PySem.W.fnOf r.n r.n (Zbs (p r.i)) (Zax (p r.i)) (Zq (p r.i)) .none .none .none (.str r.m r.t) none (.ref (r.f-1)) .none),#[]⟩
def Rw.co(r:Rw):Obj:={cls:=bE "code",data:=mT #[zz3 r.n r.u,zz3 r.n (r.u+1),zz3 "/claim/cut.py" (r.u+2),zz4 r.ln,zz4 r.na,zz4 0,zz4 0,zz4 3,.ref (r.f-(if r.b then 6 else 4)),.bool true,zz4 181,.ref (r.f-(if r.b then 5 else 3)),.none,zz6 r.b (r.f-4),zz6 r.b (r.f-3),.ref (r.f-2),zz4 r.v,zz4 r.ln,zz3 "/claim/cut.py" (r.v+1)]}
def Rw.de(P:lu)(r:Rw):lU:=zz1 P r.n (r.v+2) (.ref r.f)
def Rw.en(p:Nat->Stmt)(r:Rw):Fg:=[(r.f,r.fo p),(r.f-1,r.co)]
structure Cw where
 n:String
 f:Nat
 t:Nat
 ln:Nat
def Cw.cls(r:Cw):Obj:={cls:=bE "type",data:=Data.cls {name:=bH r.n,bases:=[aZ 24],mro:=[aZ r.f,aZ 24,bE "ValueError",bE "Exception",bE "BaseException",bE "object"],ns:=r.f-1,qualname:=bH r.n},slots:= #[some (aZ (r.f-9)),none,some (zz3 r.n r.t),some (zz3 r.n (r.t+8)),some (jW "ValueError.__new__"),some (mw true)]}
def Cw.ns(P:lu)(r:Cw):Obj:={cls:=bE "dict",data:=lV #[zz1 P "__module__" (r.t+7) (zz3 "rayround.errors" 187),zz1 P "__firstlineno__" (r.t+11) (j6 r.ln (r.t+10)),zz1 P "__static_attributes__" (r.t+12) (aZ (r.f-2)),zz1 P "__doc__" (r.t+13) bJ] 2}
def Cw.de(P:lu)(r:Cw):lU:=zz1 P r.n (r.t+15) (.ref r.f)
def Cw.en(P:lu)(r:Cw):Fg:=[(r.f,r.cls),(r.f-1,r.ns P)]
end DL
namespace HD
open PySem.W PyProof.Rows
noncomputable def ZrA(thr:jz->Bool)(stp:ff->jz->Option (ff×jz))(n:Nat):ff->jz->Option ff:=
 Nat.rec (motive:=fun _=>ff->jz->Option ff) (fun _ _=>none) (fun _ ih s t=>Bool.rec (motive:=fun _=>Option ff) (Option.rec (motive:=fun _=>Option ff) none (fun r=>ih r.1 r.2) (stp s t)) (some s) (thr t)) n
noncomputable def ZjQ(ok:jz->Bool)(stp:ff->jz->Option (ff×jz))(s:ff)(t:jz):Option (ff×jz):=Bool.rec (motive:=fun _=>Option (ff×jz)) none (stp s t) (ok t)
section
variable {tb:String->Option dH}{p:cH}{w:c8}{n₀:Nat}{ann:Option ae}
theorem ZkY:∀{n:Nat}{s s':ff}{t:jz},ZrA mE (ZjQ (ly n₀ ann) (mF (kx tb) p w)) n s t=some s'->topRun tb p w n₀ ann n s.abs t=some s'.abs
 |0,s,s',t,h=>by cases h
 |n+1,s,s',t,h=>by
  unfold topRun
  change Bool.rec (motive:=fun _=>Option ff) (Option.rec (motive:=fun _=>Option ff) none (fun r=>ZrA mE (ZjQ (ly n₀ ann) (mF (kx tb) p w)) n r.1 r.2) (ZjQ (ly n₀ ann) (mF (kx tb) p w) s t)) (some s) (mE t)=some s' at h
  cases ht:mE t with
  |true=>
   rw[ht]at h;have h':some s=some s':=h;cases h';rfl
  |false=>
   rw[ht]at h;cases hk:ly n₀ ann t with
   |false=>
    have e:ZjQ (ly n₀ ann) (mF (kx tb) p w) s t=none:=by unfold ZjQ;rw[hk]
    rw[e]at h;cases h
   |true=>
    have e:ZjQ (ly n₀ ann) (mF (kx tb) p w) s t=mF (kx tb) p w s t:=by unfold ZjQ;rw[hk]
    rw[e]at h;cases hs:mF (kx tb) p w s t with
    |none=>rw[hs]at h;cases h
    |some r=>
     obtain⟨s2,t2⟩:=r;rw[hs]at h
     have:=stepT_spec hs
     rw[this];exact ZkY (n:=n) h
end
noncomputable def T0(w:c8)(os:OsState):ff:=
 ⟨[boot_o_0,boot_o_1,boot_o_2,boot_o_3,boot_o_4,boot_o_5,boot_o_6,boot_o_7,boot_o_8,boot_o_9,boot_o_10].foldl (fun(r:Nat×BT) o=>(r.1+1,r.2.ins r.1 (o w.params))) (0,.nil) |>.2,11,(eI w.params).life,#[],mz,mP,os⟩
theorem ZoN(w:c8)(os:OsState):(T0 w os).abs=⟨eI w.params,#[],mz,mP,os⟩:=by kernel_rfl
theorem Zmq:bH "__annotations__"=⟨#[95,95,97,110,110,111,116,97,116,105,111,110,115,95,95]⟩:=by decide +kernel
theorem ZhA{Yf:aC->α}{Ya:c8->α}(e:opening p=plainProg p.main.scope.names)(hN:Nat.ble 600 N=true)(f:∀s,fenceModules? p s=some s)(le:Nat.ble M N=true)(ZrZ:∀(w:c8)(os:OsState),(ZrA mE (ZjQ (ly 11 (some (.ref 6))) (mF (kx lX) p w)) M (T0 w os) (topStub p)).map (fun s=>((staticsOk (fw p.main.body) (eI w.params) s.abs.heap&&namesBound p s.abs.heap&&gensDone s.abs&&laidKept (eI w.params) s.abs.heap),openSeen q loose (fw p.main.body) Xt true s.abs,Yf s.abs))=some (true,openGood q loose,Ya w)):LeftO p q loose Xt Yf Ya N:=fun w=>by
 obtain⟨⟨h,gs,d,k,os⟩,e1,e2⟩:=ia.mp (boot_open e hN f w);obtain⟨rfl,rfl,rfl,rfl⟩:h=eI w.params/\gs=Array.mk []/\d=mz/\k=mP:=by simpa using e2
 obtain⟨s',r1,r2⟩:=ia.mp (ZrZ w os);obtain⟨l1,l2,l3⟩:_/\_/\_:=by simpa only[cN]using r2
 have r:=ZkY r1;rw[ZoN]at r;have r:=topRun_mono (N-M) _ _ _ _ r;rw[show M+(N-M)=N by have:=Nat.le_of_ble_eq_true le;lia]at r
 have z1:((eI w.params).isNs aO&&(Array.mk []:Array GenState).size==0)=true:=by kernel_rfl
 have z2:(eI w.params).objs.size=11:=rfl;have z3:(eI w.params).nsMap aO "__annotations__"=some (.ref 6):=by
  rw[Zmq]
  kernel_rfl
 have t:topFrom lX p w N ⟨eI w.params,Array.mk [],mz,mP,os⟩=some s'.abs:=by
  unfold topFrom;dsimp only;rw[z1,z2,z3,r];show(match staticsOk (fw p.main.body) (eI w.params) s'.abs.heap&&namesBound p s'.abs.heap&&gensDone s'.abs&&laidKept (eI w.params) s'.abs.heap with|true=>_|false=>_)=_
  rw[l1]
 unfold openEnds;rw[e1];show(topFrom lX p w N _).map _=_;rw[t];exact congrArg some (b5 l2 l3)
end HD
namespace HD
open PySem.W
theorem Zr0:@ly=@PySem.W.Fast.tw6613529449190102663:=PySem.W.Fast.te6613529449190102663
theorem Zmr:@mF=@PySem.W.Fast.tw10156331382660048174:=PySem.W.Fast.te10156331382660048174
theorem ZoO:@kx=@PySem.W.Fast.tw11892475500146522536:=PySem.W.Fast.te11892475500146522536
theorem ZoP:@lX=@PySem.W.Fast.tw14364793385576792824:=PySem.W.Fast.te14364793385576792824
theorem Zms:@openSeen=@PySem.W.Fast.tw4187177175401517315:=PySem.W.Fast.te4187177175401517315
theorem ZoQ:@fw=@PySem.W.Fast.tw5923862056798008813:=PySem.W.Fast.te5923862056798008813
end HD
namespace K62
open L2 DL
noncomputable def top(i:Nat):Stmt:=PySem.Challenge.pw_rayround_k62_opposite_ones.main.body.getD i (.Pass ⟨0,0,0,0⟩)
def dS(i:Nat):List (Str×dc):=(Zq (top i)).names
noncomputable abbrev rw0(n:String)(i f u ln na:Nat)(b:Bool)(v:Nat):Rw:=⟨n,i,f,"rayround.wholes",271,u,ln,na,b,v⟩
noncomputable abbrev rw1(n:String)(i f u ln na:Nat)(b:Bool)(v:Nat):Rw:=⟨n,i,f,"rayround.pairs",290,u,ln,na,b,v⟩
noncomputable abbrev rw2(n:String)(i f u ln na:Nat)(b:Bool)(v:Nat):Rw:=⟨n,i,f,"rayround.rounds",308,u,ln,na,b,v⟩
noncomputable abbrev rw3(n:String)(i f u ln na:Nat)(b:Bool)(v:Nat):Rw:=⟨n,i,f,"rayround.numbers",335,u,ln,na,b,v⟩
noncomputable abbrev rw4(n:String)(i f u ln na:Nat)(b:Bool)(v:Nat):Rw:=⟨n,i,f,"rayround.ratios",343,u,ln,na,b,v⟩
noncomputable abbrev rw5(n:String)(i f u ln na:Nat)(b:Bool)(v:Nat):Rw:=⟨n,i,f,"rayround.heights",395,u,ln,na,b,v⟩
noncomputable abbrev rw6(n:String)(i f u ln na:Nat)(b:Bool)(v:Nat):Rw:=⟨n,i,f,"rayround.bodies",419,u,ln,na,b,v⟩
noncomputable abbrev rw7(n:String)(i f u ln na:Nat)(b:Bool)(v:Nat):Rw:=⟨n,i,f,"rayround.dots",444,u,ln,na,b,v⟩
noncomputable abbrev rw8(n:String)(i f u ln na:Nat)(b:Bool)(v:Nat):Rw:=⟨n,i,f,"rayround.sixteen",497,u,ln,na,b,v⟩
noncomputable abbrev rw9(n:String)(i f u ln na:Nat)(b:Bool)(v:Nat):Rw:=⟨n,i,f,"law_rayround_k62_opposite_ones",522,u,ln,na,b,v⟩
def tab:List Rw:=[rw0 "is_whole" 7 82 273 13 1 true 277,rw0 "greatest_divisor" 8 89 280 15 2 true 287,rw1 "crossed" 10 96 292 21 2 true 297,rw1 "product" 11 103 300 23 2 true 305,rw2 "following" 13 110 310 26 2 true 315,rw2 "unspanned" 14 117 318 28 1 true 324,rw2 "ask_smooth" 15 124 327 33 1 true 332,rw3 "numbers" 17 129 337 38 1 false 340,rw4 "ratio" 19 136 345 42 2 true 351,rw4 "minus" 20 143 354 51 2 true 359,rw4 "times" 21 150 362 53 2 true 367,rw4 "less" 22 157 370 55 2 true 375,rw4 "common_bottom" 23 164 378 57 1 true 384,rw4 "stretched" 24 171 387 62 2 true 392,rw5 "ask_height" 26 178 397 65 2 true 402,rw5 "slope_through" 27 185 405 68 2 true 416,rw6 "edge" 29 190 421 73 3 false 424,rw6 "in_order" 30 195 427 90 1 false 430,rw6 "body" 31 202 433 93 2 true 441,rw7 "width" 33 207 446 102 2 false 449,rw7 "lessened" 34 214 452 105 3 true 458,rw7 "least_wide" 35 221 461 107 3 true 472,rw7 "two_ways" 36 228 475 118 1 true 482,rw7 "dots_across" 37 233 485 129 4 false 488,rw7 "dots" 38 238 491 140 2 false 494,rw8 "ask_one" 40 245 499 153 1 true 503,rw8 "next_dot" 41 252 506 156 2 true 513,rw8 "opposite_one" 42 257 516 162 1 false 519,rw9 "_law_cell_at" 44 264 524 170 2 true 531,rw9 "_law_cross" 45 271 534 178 2 true 539,rw9 "_law_turn" 46 276 542 180 2 false 545,rw9 "_law_tags" 47 281 548 200 1 false 551,rw9 "_law_are_rays" 48 288 554 203 1 true 560,rw9 "_law_ones" 49 295 563 213 1 true 575,rw9 "_law_dots" 50 300 578 231 1 false 581,rw9 "_law_right" 51 307 584 247 3 true 593,rw9 "law" 52 312 596 260 1 false 599]
noncomputable def ZtZ(p:cH)(i:Nat):Stmt:=p.main.body.getD i (.Pass ⟨0,0,0,0⟩)
noncomputable def Zr1:List Cw:=[⟨"NoRatio",37,207,4⟩,⟨"NotSmooth",49,223,6⟩,⟨"NoHeight",61,239,8⟩,⟨"NoOne",73,255,10⟩]
def Kf(p:cH)(P:lu):Fg:=(3,{cls:=bE "dict",data:=lV ([zz1 P "__name__" 165 (zz3 "law_rayround_k62_opposite_ones" 522),zz1 P "__doc__" 166 (bJ),zz1 P "__package__" 167 (bJ),zz1 P "__loader__" 168 (jW "__main__.__loader__#opaque"),zz1 P "__spec__" 169 (bJ),zz1 P "__annotations__" 170 (aZ 6),zz1 P "__builtins__" 171 (aZ 4),zz1 P "__file__" 173 (zz3 "/claim/cut.py" 172),zz1 P "__cached__" 174 (bJ),zz1 P "RayError" 206 (aZ 24)]++Zr1.map (·.de P)++tab.map (·.de P)).toArray 51})::tab.flatMap (·.en (ZtZ p))++Zr1.flatMap (·.en P)++[(4,{cls:=bE "module",dict:=some 0}),
 (23,{cls:=bE "dict",data:=lV #[zz1 P "__module__" 196 (zz3 "rayround.errors" 187),zz1 P "__firstlineno__" 200 (j6 2 199),zz1 P "__static_attributes__" 201 (aZ 22),zz1 P "__weakref__" 203 (aZ 25),zz1 P "__doc__" 204 (bJ)] 3}),
 (24,{cls:=bE "type",data:=Data.cls {name:=bH "RayError",bases:=[bE "ValueError"],mro:=[aZ 24,bE "ValueError",bE "Exception",bE "BaseException",bE "object"],ns:=23,qualname:=bH "RayError",subclasses:=[aZ 37,aZ 49,aZ 61,aZ 73]},slots:= #[some (aZ 15),none,some (zz3 "RayError" 189),some (zz3 "RayError" 197),some (jW "ValueError.__new__"),some (mw true)]})]
def asK:List Addr:=3::tab.flatMap (fun r=>[r.f,r.f-1])++Zr1.flatMap (fun r=>[r.f,r.f-1])++[4,23,24]
def Tf:Fg:=tab.map (fun r=>(r.f-(if r.b then 5 else 3),{cls:=.none,data:=.fields #[]}))++[]
def asT:List Addr:=asK++tab.map (fun r=>r.f-(if r.b then 5 else 3))++[]
theorem ZoR(p:cH)(P:lu):asT=(Kf p P++Tf).map (·.1):=by kernel_rfl
def qf(p:cH):cH:={p with main:={p.main with body:=[ZtZ p 52]}}
noncomputable def lo:List Str:=(["__name__","RayError","NoRatio","NotSmooth","NoHeight","NoOne","is_whole","greatest_divisor","crossed","product","following","unspanned","ask_smooth","numbers","ratio","minus","times","less","common_bottom","stretched","ask_height","slope_through","edge","in_order","body","width","lessened","least_wide","two_ways","dots_across","dots","ask_one","next_dot","opposite_one","_law_cell_at","_law_cross","_law_turn","_law_tags","_law_are_rays","_law_ones","_law_dots","_law_right"]:List String).map bH
open PySem.W
noncomputable abbrev pw:=PySem.Challenge.pw_rayround_k62_opposite_ones
abbrev Hk:Hook:=kHook (fun P=>Kf pw P++Tf) asT (ZoR pw)
set_option maxRecDepth 1000000 in
set_option maxHeartbeats 0 in
theorem ZrZ(w:c8)(os:OsState):(HD.ZrA mE (HD.ZjQ (ly 11 (some (.ref 6))) (mF (kx lX) PySem.Challenge.pw_rayround_k62_opposite_ones w)) 2283 (HD.T0 w os) (topStub PySem.Challenge.pw_rayround_k62_opposite_ones)).map (fun s=>((staticsOk (fw PySem.Challenge.pw_rayround_k62_opposite_ones.main.body) (eI w.params) s.abs.heap&&namesBound PySem.Challenge.pw_rayround_k62_opposite_ones s.abs.heap&&gensDone s.abs&&laidKept (eI w.params) s.abs.heap),openSeen (qf PySem.Challenge.pw_rayround_k62_opposite_ones) lo (fw PySem.Challenge.pw_rayround_k62_opposite_ones.main.body) (fun s=>xlAt (qf PySem.Challenge.pw_rayround_k62_opposite_ones) [] s&&recOk [] s) true s.abs,asT.map s.abs.heap.get?))=some (true,openGood (qf PySem.Challenge.pw_rayround_k62_opposite_ones) lo,(Kf PySem.Challenge.pw_rayround_k62_opposite_ones w.params++Tf).map fun x=>some x.2):=by
 rw[HD.Zr0,HD.Zmr,HD.ZoO,HD.ZoP,HD.Zms,HD.ZoQ]
 kernel_rfl
set_option maxRecDepth 1000000 in
set_option maxHeartbeats 0 in
theorem Zu3:PySem.W.OpenLaw.wellSaid PySem.Challenge.rw_rayround_k62_opposite_ones=true:=by kernel_rfl
end K62
namespace L2
open PyProof.Rows
section
variable (P:cH)(w:c8)
end
section
variable {κ:Type}[DecidableEq κ]
noncomputable def Zjw(kvs:List (κ×V))(k:κ):Option V:=(kvs.find? fun kv=>decide (kv.1=k)).map (·.2)
noncomputable def Zjx(kvs:List (κ×V))(k:κ)(v:V):List (κ×V):=
 if(kvs.any fun kv=>decide (kv.1=k))=true then kvs.map (fun kv=>if kv.1=k then(kv.1,v)else kv)else kvs++[(k,v)]
theorem Zf1{p:κ×V}{r:List (κ×V)}{k:κ}(e:p.1=k):Zjw (p::r) k=some p.2:=by simp[Zjw,kH,e]
theorem Zf2{p:κ×V}{r:List (κ×V)}{k:κ}(e:¬p.1=k):Zjw (p::r) k=Zjw r k:=by simp[Zjw,kH,e]
theorem Zf3(k:κ):∀kvs:List (κ×V),(kvs.any fun kv=>decide (kv.1=k))=(Zjw kvs k).isSome
 |[]=>rfl
 |p::r=>by
  rw[List.any_cons];by_cases e:p.1=k
  ·simp only[Zf1 e,decide_eq_true e,Bool.true_or,jA]
  ·rw[Zf2 e,decide_eq_false e,Bool.false_or];exact Zf3 k r
theorem Zfg(kvs:List (κ×V))(k:κ)(v:V):(Zjx kvs k v).length<=kvs.length+1:=by
 unfold Zjx;split
 ·rw[aB];lia
 ·rw[a6,bC,fA];lia
theorem KV.keys{kvs:List (κ×V)}{vs:List (κ×ae)}(r:KV kvs vs):kvs.map (·.1)=vs.map (·.1):=by
 unfold KV at r
 induction r with
 |nil=>rfl
 |cons h t ih=>rw[aL,aL,ih,h.1]
end
theorem Zr2(r:Z8 (kV k) u):(Zaw P w).is k u=true:=by
 cases k with
 |inl i=>obtain⟨t,e⟩:=(show ∃t,u=j6 i t from r);subst e;exact Zfb P w i t
 |inr x=>obtain⟨t,e⟩:=(show ∃t,u=lP x t from r);subst e;exact Zfc P w x t
theorem Zex{P:cH}{w:c8}:∀{ks:List Key}{us:List ae},Z1 (ks.map kV) us->ItemsAre (Zaw P w) ks us
 |[],_,r=>by rw[fm]at r;cases r;exact .nil
 |k::ks,_,r=>by
  rw[aL]at r;cases r with
  |cons h t=>exact .cons (Zr2 h) (Zex t)
theorem ZoS(ok:HOk P w H h)(e:H a=some (.tup (ks.map kV))):(tupleKind (Zaw P w)).is h ks a:=by
 obtain⟨_,its,r,o,h1,h2,n,h3⟩:=(show ZaW P w H h a (.tup (ks.map kV))from ok a _ e);exact⟨o,its.toArray,n,h1,h2,h3,by simpa using Zex r⟩
theorem Inv.big(I:Inv X pins σ H s):gL<s.heap.objs.size:=by
 have h:aO<s.heap.objs.size:=(I.mod.glob.keeps I.bk).lt;exact ic (by decide) h
theorem Zmt(I:Inv X pins σ H s)(mu:Mut (H a))(hs:hU a s.heap h')(he:∃q,h'.get? a=some q)(new:ZaW X.prog X.w (upd H a ob) h' a ob):Inv X pins σ (upd H a ob) {s with heap:=h',toks:=t'}:=
 I.write (x:=a) (e:=a) mu (.inl rfl) (fun b q hb z=>(hs.2 b hb).trans z) he new
structure M1(X:Cx) (o:Expr) (m:Str) (apos:Pos) (e:Expr) (cpos:Pos):Prop where
 base:iP o m X.env (eval o X.env)=eval o X.env
 few:((db cpos (av [e] X.env)).all (fun x=> !x.1)&&(jy cpos (fQ [] X.env)).all (fun x=>x.1.isSome) && decide (([e]:List Expr).length+([]:List jd).length+(if([]:List jd).isEmpty then 0 else 1)<30))=true
 line:(apos.endLine==cpos.line)=true
 trees:db cpos (av [e] X.env)=[(false,eval e X.env)]
structure M2(X:Cx) (o:Expr) (m:Str) (apos:Pos) (e f:Expr) (cpos:Pos):Prop where
 base:iP o m X.env (eval o X.env)=eval o X.env
 few:((db cpos (av [e,f] X.env)).all (fun x=> !x.1)&&(jy cpos (fQ [] X.env)).all (fun x=>x.1.isSome) && decide (([e,f]:List Expr).length+([]:List jd).length+(if([]:List jd).isEmpty then 0 else 1)<30))=true
 line:(apos.endLine==cpos.line)=true
 trees:db cpos (av [e,f] X.env)=[(false,eval e X.env),(false,eval f X.env)]
end L2
namespace Att
open PySem.W PySem.Calls PyProof.Rows
end Att
namespace L2
open PyProof.Rows
section
variable {κ:Type}[DecidableEq κ]
end
end L2
namespace DQ
open PyProof.Rows
structure Fly(B:Heap) (l:List Env) (e:Addr) (cls:ae) (dct:Option Addr) (fl:ae) (h:Heap):Prop where
 stay:B.StaysIn h
 new:B.get? e=none
 frames:h.FunFrames B l
 obj:∃oe vs T oT ts,h.get? e=some oe/\oe.cls=cls/\oe.dict=dct/\oe.data=.fields vs/\vs[2]?=some .none/\vs[1]?=some (.ref T)/\B.get? T=none/\T≠e/\h.get? T=some oT/\oT.data=.fields ts/\ts[3]?=some fl
theorem Fly.tail(f:Fly B (env::l) e cls dct fl h):Fly B l e cls dct fl h:=⟨f.stay,f.new,f.frames.2.2,f.obj⟩
section
variable {s:aC}{outer:List Env}
theorem apart{h:Heap}(hl:h.FunFrames B l)(he:h.get? e=some oe)(hd:oe.data=.fields vs):e∉l.filterMap (·.frame):=fun z=>by
 obtain⟨_,o,h1,h2⟩:=hl.mem z;rw[he]at h1;cases h1;exact h2 vs hd
theorem Zey(hfr:A.frames=some (env::outer))(hl:s.heap.FunFrames B (env::outer))(hf:env.frame=some L)(he:s.heap.get? e=some oe)(hs:B.StaysIn s.heap)(hb:B.get? e=none)(hd:oe.data=.fields vs)(hz:2<vs.size)(h2:vs[2]?=some .none)(h:∀h',Fly B (env::outer) e oe.cls oe.dict (d8 L) h'->s.heap.UpToSlots h'->Q () {s with heap:=h'}):wpAny M A (frameOf env >>= fun a=>entryPlaceOf L hn >>= fun pl=>l4 head a .none (d8 L) .none pl >>= fun b=>setField (.ref e) 1 b) Q E s:=by
 have ne:=apart hl he hd;refine Wb (wpAny_frameOf_fun hfr hl hf fun h1 k1=>Wb (wpAny_entryPlaceOf fun pl hpl=>Wb ?_));unfold l4 newFields;refine cu ?_ (hpl.sizeOk5 _ _ _ _ _);generalize hT:([head,aZ L,bJ,d8 L,bJ]++(if pl.isEmpty then bw 6 bJ else pl)).toArray=ts;have h3:ts[3]?=some (d8 L):=by
  rw[<-hT];rcases hpl with rfl|⟨_,_,_,_,_,_,_,rfl⟩<;>simp
 have e1:h1.get? e=some oe:=(k1.2.1 e ne).trans he;have s1:B.StaysIn h1:=fun b o hbo=>(k1.2.1 b fun z=>by rw[(hl.mem z).1]at hbo;cases hbo).trans (hs b o hbo)
 generalize hoT:({cls:=.type "traceback",dict:=none,data:=.fields ts}:Obj)=oT;have dT:oT.data=.fields ts:=by rw[<-hoT]
 have fT:oT.isFreed=false:=dZ dT;have e2:(h1.push oT).get? e=some oe:=Hq _ e1;have nT:h1.objs.size≠e:=bz (Hz e1);refine dW e2 hd (ic (by decide) hz) (h _ ?_ ?_)
 ·have d3:=dX hd (·.setIfInBounds 1 (aZ h1.objs.size));have e3:=fH (dL (·.setIfInBounds 1 (aZ h1.objs.size))) e2 (dZ d3);have keep:∀b o,b≠e->h1.get? b=some o->((h1.push oT).update e (dL (·.setIfInBounds 1 (aZ h1.objs.size)))).get? b=some o:=fun b o hbe x=>by
   rw[aW _ _ (bV hbe)];exact Hq _ x
  have gT:(h1.push oT).get? h1.objs.size=some oT:=aP _ fT;refine⟨fun b o x=>keep b o (fun z=>by rw[z,hb]at x;cases x) (s1 b o x),hb,hl.of_keeps fun b o x y=>?_,_,_,h1.objs.size,oT,ts,e3,jL _ _,?_,d3,?_,?_,s1.fresh,nT,?_,dT,h3⟩
  ·obtain⟨sl,z⟩:=k1.2.2 b o x;exact⟨_,keep b _ (fun w=>y vs (by rw[w,he]at x;cases x;exact hd)) z,rfl⟩
  ·obtain⟨c,d,dd,sl⟩:=oe;cases hd;rfl
  ·rw[Array.getElem?_setIfInBounds_ne (by decide)]
   exact h2
  ·rw[fM (ic (by decide) hz)]
  ·rw[aW _ _ (bV nT)];exact gT
 ·intro b o x y;obtain⟨sl,z⟩:=k1.2.2 b o x;refine⟨sl,?_⟩;rw[aW _ _ (fun w=>y vs (by rw[<-w,he]at x;cases x;exact hd))]
  exact Hq _ z
theorem Zf4(f:Fly B l e cls dct fl s.heap)(h:∀h',Fly B l e cls dct .none h'->s.heap.UpToSlots h'->Q () {s with heap:=h'}):wpAny M A (setFlight (.ref e) none) Q E s:=by
 obtain⟨st,nw,fr,oe,vs,T,oT,ts,g1,g2,g3,g4,g5,g6,g7,g8,g9,g10,g11⟩:=f;have hz:3<ts.size:=(cY.mp g11).1;unfold setFlight;refine Wb (cx g1 g4 g6 ?_);rw[if_pos (by simp)]
 have oth:∀b o,b≠T->s.heap.get? b=some o->(s.heap.update T (dL (·.setIfInBounds 3 bJ))).get? b=some o:=fun b o hb x=>by
  rw[aW _ _ (bV hb)];exact x
 have nr:∀b o,s.heap.get? b=some o->(∀vs,o.data≠ .fields vs)->b≠T:=fun b o x y z=>by
  rw[z,g9]at x;cases x;exact y ts g10
 refine dW g9 g10 hz (h _ ⟨fun b o x=>oth b o (fun z=>by rw[z,g7]at x;cases x) (st b o x),nw,fr.of_keeps fun b o x y=>⟨o,oth b o (nr b o x y) x,rfl⟩,?_⟩ fun b o x y=>⟨o.slots,oth b o (nr b o x y) x⟩)
 exact⟨oe,vs,T,_,_,oth e oe (bV g8) g1,g2,g3,g4,g5,g6,g7,g8,fH _ g9 (dZ (dX g10 _)),dX g10 _,by rw[fM hz];rfl⟩
theorem ZjR(hfr:A.frames=some (env::outer))(hf:env.frame=some L)(f:Fly B (env::outer) e cls dct .none s.heap)(h:∀h',Fly B (env::outer) e cls dct (d8 L) h'->s.heap.UpToSlots h'->Q () {s with heap:=h'}):wpAny M A (lY (.ref e) env) Q E s:=by
 obtain⟨st,nw,fr,oe,vs,T,oT,ts,g1,g2,g3,g4,g5,g6,g7,g8,g9,g10,g11⟩:=f;unfold lY;simp only[hf];refine Wb (cx g1 g4 g6 ?_);rw[if_pos (by simp)]
 refine Wb (cx g9 g10 g11 ?_);rw[if_neg (by simp[d8])]
 have oth:∀b o,b≠T->s.heap.get? b=some o->(s.heap.update T (dL (·.setIfInBounds 3 bJ))).get? b=some o:=fun b o hb x=>by
  rw[aW _ _ (bV hb)];exact x
 have nr:∀b o,s.heap.get? b=some o->(∀vs,o.data≠ .fields vs)->b≠T:=fun b o x y z=>by
  rw[z,g9]at x;cases x;exact y ts g10
 refine Wb (dW g9 g10 (cY.mp g11).1 ?_);refine Zey hfr (fr.of_keeps fun b o x y=>⟨o,oth b o (nr b o x y) x,rfl⟩) hf (oth e oe (bV g8) g1) (fun b o x=>oth b o (fun z=>by rw[z,g7]at x;cases x) (st b o x)) nw g4 (cY.mp g5).1 g5 fun h' k1 k2=>h h' (g2▸g3▸k1) ?_
 intro b o x y;exact k2 b o (oth b o (nr b o x y) x) y
theorem ZhB(hfr:A.frames=some (env::outer))(hf:env.frame=some L)(f:Fly B (env::outer) e cls dct .none s.heap)(h:∀h',Fly B outer e cls dct .none h'->s.heap.UpToSlots h'->Q () {s with heap:=h'}):wpAny M A (m8 env (.ref e)) Q E s:=by
 unfold m8;refine Wb (ZjR hfr hf f fun h1 k1 u1=>?_);exact Zf4 (s:={s with heap:=h1}) k1 fun h2 k2 u2=>h h2 k2.tail (u1.trans u2)
theorem ZhC(hfr:A.frames=some (env::outer))(hf:env.frame=some L)(hl:s.heap.FunFrames B (env::outer))(he:s.heap.get? e=some oe)(hs:B.StaysIn s.heap)(hb:B.get? e=none)(hd:oe.data=.fields vs)(h1:vs[1]?=some .none)(h2:vs[2]?=some .none)(h:∀h',Fly B outer e oe.cls oe.dict .none h'->s.heap.UpToSlots h'->Q () {s with heap:=h'}):wpAny M A (m8 env (.ref e)) Q E s:=by
 unfold m8 lY;simp only[hf];refine Wb (Wb (cx he hd h1 ?_));rw[if_neg (by decide)]
 refine Zey hfr hl hf he hs hb hd (cY.mp h2).1 h2 fun h' k1 u1=>?_;exact Zf4 (s:={s with heap:=h'}) k1 fun h2 k2 u2=>h h2 k2.tail (u1.trans u2)
end
end DQ
namespace DQ
open PyProof.Rows
open PySem.W (Looks findIn mroIn specialIn takesIn clsIn looks_findIn looks_mroIn looks_find findObj KitX)
structure ExcC(K:Fg) (C:Addr):Prop where
 ga:ig K (.ref C) "__getattribute__"=some (some (.builtin "BaseException.__getattribute__"))
 gt:ig K (.ref C) "__getattr__"=some none
 cl:ig K (.ref C) "__class__"=some (some (.builtin "object.__class__"))
 gs:gZ K (.builtin "object.__class__") "__get__"=some (some (.builtin "getset_descriptor.__get__"))
 tk:jN K (.builtin "object.__class__")=some true
 bx:lC K C (.type "BaseException")=some true
 ob:lC K C (.type "object")=some true
 is:(mU K C).isSome=true
end DQ
namespace DL
open PyProof.Rows L2
inductive D where
 |non
 |bl (b:Bool)
 |int (i:Int)
 |str (x:Str)
 |tup (xs:List D)
 |rol (xs:List D)
 |con (xs:List D)
 |ref (n:Nat)
 |err (c:Str) (xs:List D)
 |dk (n:Nat)
 |dt (n:Nat)
 |du (n:Nat)
 |fn (c:Str)
inductive SO where
 |lst (xs:List D)
noncomputable abbrev Sto:=List SO
noncomputable abbrev Ro:=List (Option D)
abbrev W2:=Str->Sto->Prop
abbrev W1:=Ro->Sto->Prop
abbrev W0:=D->Sto->Prop
def SqF(K:Fg)(H:Hp)(a:Addr)(xs:List V):Prop:=
 (∃o,H a=some (.frz o (.lst xs)))\/∃(o:Obj) (its:Array ae) (n:Nat),K.lookup a=some o/\o.cls=.type "list"/\o.dict=none/\o.data=.seq its n/\its.size<=sizeLine/\Z1 xs its.toList
theorem SqF.sq{K:Fg}(h:SqF K H a xs):SqL K H a xs:=by
 rcases h with⟨o,h⟩|h
 ·exact .inl (.inr ⟨o,h⟩)
 ·exact .inr h
def SqK(K:Fg)(a:Addr)(xs:List V):Prop:=∃(o:Obj) (its:Array ae) (n:Nat),K.lookup a=some o/\o.cls=.type "tuple"/\o.data=.seq its n/\its.size<=sizeLine/\Z1 xs its.toList/\o.dict=none
theorem SqK.sq{K:Fg}(h:SqK K a xs):SqT K H a xs:=
 let ⟨o,its,n,h1,h2,h3,h4,h5,_⟩:=h
 .inr ⟨o,its,n,h1,h2,h3,h4,h5⟩
noncomputable def Zt0:List Str:=[PySem.Str.ofString "where",PySem.Str.ofString "at"]
def EOk(H:Hp)(p C:Addr)(xs:List V):Prop:=∃oe u vs,H p=some (.frz oe u)/\oe.cls=.ref C/\oe.data=.fields vs/\vs[2]?=some .none/\((xs=[]/\oe.dict=none)\/∃dx fs,oe.dict=some dx/\H dx=some (.xd fs)/\fs.map (·.2)=xs/\fs.map (·.1)=Zt0)
noncomputable def Kn(H:Hp)(p:Addr):Option Nat:=match H p with|some (.lst _)=>some 0|some (.dK _)=>some 1|some (.dT _)=>some 2|some (.dU _)=>some 3|some (.frz _ (.dK _))=>some 1|some (.frz _ (.dT _))=>some 2|_=>none
structure RefK(H:Hp) (α:List Addr) (j n:Nat) (p:Addr):Prop where
 at':α[n]?=some p
 kn:Kn H p=some j
theorem Kn.lst{H:Hp}{p:Addr}{xs:List V}(h:H p=some (.lst xs)):Kn H p=some 0:=by unfold Kn;rw[h]
theorem Kn.ne(h:Kn H p=some j)(hq:H q=none):Kn (upd H q o) p=some j:=by
 have:p≠q:=by
  intro z;unfold Kn at h;rw[z,hq]at h;cases h
 unfold Kn;rw[ZH this];exact h
mutual
inductive Rep(K:Fg) (H:Hp) (α:List Addr):V->D->Prop where
 |non:Rep K H α .non .non
 |bl (b:Bool):Rep K H α (.bl b) (.bl b)
 |int (i:Int):Rep K H α (.int i) (.int i)
 |str (x:Str):Rep K H α (.str x) (.str x)
 |tup {p:Addr} {xs:List V} {ds:List D}:H p=some (.tup xs)->Reps K H α xs ds->Rep K H α (.ref p) (.tup ds)
 |rol {p:Addr} {xs:List V} {ds:List D}:SqF K H p xs->Reps K H α xs ds->Rep K H α (.ref p) (.rol ds)
 |con {p:Addr} {xs:List V} {ds:List D}:SqK K p xs->Reps K H α xs ds->Rep K H α (.ref p) (.con ds)
 |ref {p:Addr} {n:Nat}:RefK H α 0 n p->Rep K H α (.ref p) (.ref n)
 |dk {p:Addr} {n:Nat}:RefK H α 1 n p->Rep K H α (.ref p) (.dk n)
 |dt {p:Addr} {n:Nat}:RefK H α 2 n p->Rep K H α (.ref p) (.dt n)
 |du {p:Addr} {n:Nat}:RefK H α 3 n p->Rep K H α (.ref p) (.du n)
 |fn {p:Addr} {c:Str}:PySem.W.nsIn K aO c=some (some (.ref p))->Rep K H α (.ref p) (.fn c)
 |err {p C:Addr} {c:Str} {xs:List V} {ds:List D}:PySem.W.nsIn K aO c=some (some (.ref C))->EOk H p C xs->Reps K H α xs ds->Rep K H α (.ref p) (.err c ds)
inductive Reps(K:Fg) (H:Hp) (α:List Addr):List V->List D->Prop where
 |nil:Reps K H α [] []
 |cons {v:V} {d:D} {vs:List V} {ds:List D}:Rep K H α v d->Reps K H α vs ds->Reps K H α (v::vs) (d::ds)
end
structure Ext(K:Fg) (H H':Hp) (α α':List Addr):Prop where
 tup:∀p xs,H p=some (.tup xs)->H' p=some (.tup xs)
 rol:∀p xs,SqF K H p xs->SqF K H' p xs
 err:∀p C xs,EOk H p C xs->EOk H' p C xs
 kn:∀p j,Kn H p=some j->Kn H' p=some j
 fz:∀p o u,H p=some (.frz o u)->H' p=some (.frz o u)
 al:∃β,α'=α++β
section
variable {K:Fg}{H H2 H':Hp}{α:List Addr}
theorem Ext.refl:Ext K H H α α:=⟨fun _ _ h=>h,fun _ _ h=>h,fun _ _ _ h=>h,fun _ _ h=>h,fun _ _ _ h=>h,[],(cg _).symm⟩
theorem Ext.trans(a:Ext K H H1 α α1)(b:Ext K H1 H2 α1 α2):Ext K H H2 α α2:=by
 obtain⟨b1,e1⟩:=a.al;obtain⟨b2,e2⟩:=b.al;exact⟨fun p xs h=>b.tup p xs (a.tup p xs h),fun p xs h=>b.rol p xs (a.rol p xs h),fun p C xs h=>b.err p C xs (a.err p C xs h),fun p j h=>b.kn p j (a.kn p j h),fun p o u h=>b.fz p o u (a.fz p o u h),b1++b2,by rw[e2,e1,ii]⟩
theorem Ext.get0(e:Ext K H H' α α'){n:Nat}(h:α[n]?=some p):α'[n]?=some p:=by
 obtain⟨β,e1⟩:=e.al;have hl:n<α.length:=(aq.mp h).1;rw[e1,ah hl];exact h
theorem Ext.get(e:Ext K H H' α α')(h:RefK H α j n p):RefK H' α' j n p:=⟨e.get0 h.at',e.kn _ _ h.kn⟩
theorem Rep.mono(e:Ext K H H' α α')(h:Rep K H α v d):Rep K H' α' v d:=
 Rep.rec (motive_1:=fun v d _=>Rep K H' α' v d) (motive_2:=fun v d _=>Reps K H' α' v d) .non .bl .int .str (fun h _ r=>.tup (e.tup _ _ h) r) (fun h _ r=>.rol (e.rol _ _ h) r) (fun h _ r=>.con h r) (fun h=>.ref (e.get h)) (fun h=>.dk (e.get h)) (fun h=>.dt (e.get h)) (fun h=>.du (e.get h)) .fn (fun n h _ r=>.err n (e.err _ _ _ h) r) .nil (fun _ _ r t=>.cons r t) h
theorem Reps.mono(e:Ext K H H' α α')(h:Reps K H α v d):Reps K H' α' v d:=by
 induction d generalizing v with
 |nil=>cases h;exact .nil
 |cons _ _ ih=>cases h with|cons r t=>exact .cons (r.mono e) (ih t)
theorem Reps.length:∀{vs:List V}{ds:List D},Reps K H α vs ds->vs.length=ds.length:=by
 intro vs
 induction vs with
 |nil=>intro ds h;cases h;rfl
 |cons v vs ih=>
  intro ds h;cases h with
  |cons _ t=>rw[bC,bC,ih t]
theorem Reps.get:∀{vs:List V}{ds:List D}{i:Nat}{d:D},Reps K H α vs ds->ds[i]?=some d->∃v,vs[i]?=some v/\Rep K H α v d
 |_,_,_,_,.nil,e=>by simp at e
 |_,_,0,_,.cons r _,e=>by simp at e;subst e;exact⟨_,rfl,r⟩
 |_,_,i+1,d,.cons _ t,e=>by
  obtain⟨u,h1,h2⟩:=Reps.get (i:=i) (d:=d) t (by simpa using e)
  exact⟨u,by simpa using h1,h2⟩
theorem Reps.append:∀{vs ws:List V}{ds es:List D},Reps K H α vs ds->Reps K H α ws es->Reps K H α (vs++ws) (ds++es):=by
 intro vs
 induction vs with
 |nil=>intro ws ds es h s;cases h;exact s
 |cons v vs ih=>
  intro ws ds es h s;cases h with
  |cons r t=>exact .cons r (ih t s)
theorem Reps.ints:∀(ns:List Int),Reps K H α (ns.map V.int) (ns.map D.int)
 |[]=>.nil
 |n::r=>.cons (.int n) (Reps.ints r)
theorem ZhD(h:H q=some (.tup xs))(hp:∀u,H p=some u->(∀ys,u≠ .tup ys)/\∀ob w,u≠ .frz ob w):upd H p o q=some (.tup xs):=by
 rw[ZH (fun e=>(hp _ (e▸h)).1 _ rfl)];exact h
theorem ZhE(h:SqF K H q xs)(hp:∀u,H p=some u->∀ob w,u≠ .frz ob w):SqF K (upd H p o) q xs:=by
 rcases h with⟨ob,h⟩|h
 ·refine .inl ⟨ob,?_⟩;rw[ZH (fun e=>hp _ (e▸h) _ _ rfl)];exact h
 ·exact .inr h
theorem ZkZ(h:H q=some (.frz ob u))(hp:∀u,H p=some u->∀ob w,u≠ .frz ob w):upd H p o q=some (.frz ob u):=by
 rw[ZH (fun e=>hp _ (e▸h) _ _ rfl)];exact h
theorem ZhF(h:EOk H q C xs)(hp:∀u,H p=some u->(∀ob w,u≠ .frz ob w)/\∀fs,u≠ .xd fs):EOk (upd H p o) q C xs:=by
 obtain⟨oe,u,vs,h1,h2,h3,h4,h5⟩:=h;refine⟨oe,u,vs,?_,h2,h3,h4,?_⟩
 ·rw[ZH (fun e=>(hp _ (e▸h1)).1 _ _ rfl)];exact h1
 ·rcases h5 with h5|⟨dx,fs,k1,k2,k3⟩
  ·exact .inl h5
  ·refine .inr ⟨dx,fs,k1,?_,k3⟩;rw[ZH (fun e=>(hp _ (e▸k2)).2 _ rfl)];exact k2
theorem Ext.new(h:H p=none):Ext K H (upd H p o) α (α++β):=
 ⟨fun q xs z=>ZhD z (fun u e=>(by rw[h]at e;cases e)),fun q xs z=>ZhE z (fun u e=>(by rw[h]at e;cases e)),fun q C xs z=>ZhF z (fun u e=>(by rw[h]at e;cases e)),fun q j z=>Kn.ne z h,fun q o u z=>ZkZ z (fun u e=>(by rw[h]at e;cases e)),β,rfl⟩
theorem Ext.new0(h:H p=none):Ext K H (upd H p o) α α:=by
 have e:=Ext.new (K:=K) (H:=H) (α:=α) (o:=o) h (β:=[]);rw[cg]at e;exact e
theorem Ext.wrK(h:Kn H p=some j)(nf:∀ob w,H p≠some (.frz ob w))(h':Kn (upd H p o) p=some j):Ext K H (upd H p o) α α:=by
 have ne (u:HO) (e:H p=some u):(∀ys,u≠ .tup ys)/\(∀ob w,u≠ .frz ob w)/\∀fs,u≠ .xd fs:=by
  unfold Kn at h;rw[e]at h;refine⟨fun ys z=>?_,fun ob w z=>nf ob w (by rw[e,z]),fun fs z=>?_⟩<;>subst z<;>cases h
 refine⟨fun q xs z=>ZhD z fun u e=>⟨(ne u e).1,(ne u e).2.1⟩,fun q xs z=>ZhE z fun u e=>(ne u e).2.1,fun q C xs z=>ZhF z fun u e=>⟨(ne u e).2.1,(ne u e).2.2⟩,fun q i z=>?_,fun q ob u z=>ZkZ z fun u e=>(ne u e).2.1,[],(cg _).symm⟩;by_cases c:q=p
 ·subst c;rw[h]at z;cases z;exact h'
 ·unfold Kn;rw[ZH c];exact z
theorem Ext.wr(h:H p=some (.lst xs)):Ext K H (upd H p (.lst ys)) α α:=Ext.wrK (Kn.lst h) (fun ob w z=>by rw[h]at z;cases z) (Kn.lst Zy)
noncomputable def Zk0:Key->D
 |.inl i=>.int i
 |.inr x=>.str x
def ZdW(ks:List Key):D:=.tup (ks.map Zk0)
def Zmu(ks:List (List Key)):D:=.tup (ks.map ZdW)
noncomputable def Zbm(K:Fg)(H:Hp)(α:List Addr){κ:Type}(key:κ->D)(kvs:List (κ×V))(ds:List D):Prop:=
 ∃es:List D,ds=cZ (fun kv e=>D.tup [key kv.1,e]) kvs es/\Reps K H α (kvs.map (·.2)) es
def SOk(K:Fg)(H:Hp)(α:List Addr)(p:Addr):SO->Prop
 |.lst ds=>(∃xs,H p=some (.lst xs)/\Reps K H α xs ds)\/(∃kvs,H p=some (.dK kvs)/\Zbm K H α Zk0 kvs ds)\/(∃kvs,H p=some (.dT kvs)/\Zbm K H α ZdW kvs ds)\/(∃o kvs r,H p=some (.frz o (.dK kvs))/\ds=.non::r/\Zbm K H α Zk0 kvs r)\/(∃o kvs r,H p=some (.frz o (.dT kvs))/\ds=.non::r/\Zbm K H α ZdW kvs r)\/(∃kvs,H p=some (.dU kvs)/\Zbm K H α Zmu kvs ds)
theorem SOk.there(h:SOk K H α p o):∃u,H p=some u:=by
 cases o with
 |lst ds=>rcases h with⟨_,e,_⟩|⟨_,e,_⟩|⟨_,e,_⟩|⟨_,_,_,e,_⟩|⟨_,_,_,e,_⟩|⟨_,e,_⟩<;>exact⟨_,e⟩
theorem SOk.mono(h:SOk K H α p o)(ex:Ext K H H' α α')(e:H' p=H p):SOk K H' α' p o:=by
 cases o with
 |lst ds=>
  rcases h with⟨xs,h1,h2⟩|⟨kvs,h1,es,h2,h3⟩|⟨kvs,h1,es,h2,h3⟩|⟨o,kvs,r,h1,h0,es,h2,h3⟩|⟨o,kvs,r,h1,h0,es,h2,h3⟩|⟨kvs,h1,es,h2,h3⟩
  ·exact .inl ⟨xs,e.trans h1,Reps.mono ex h2⟩
  ·exact .inr (.inl ⟨kvs,e.trans h1,es,h2,Reps.mono ex h3⟩)
  ·exact .inr (.inr (.inl ⟨kvs,e.trans h1,es,h2,Reps.mono ex h3⟩))
  ·exact .inr (.inr (.inr (.inl ⟨o,kvs,r,e.trans h1,h0,es,h2,Reps.mono ex h3⟩)))
  ·exact .inr (.inr (.inr (.inr (.inl ⟨o,kvs,r,e.trans h1,h0,es,h2,Reps.mono ex h3⟩))))
  ·exact .inr (.inr (.inr (.inr (.inr ⟨kvs,e.trans h1,es,h2,Reps.mono ex h3⟩))))
structure HR(K:Fg) (H:Hp) (α:List Addr) (M:Sto):Prop where
 len:α.length=M.length
 nd:α.Nodup
 ob:∀(n:Nat)(p:Addr)(o:SO),α[n]?=some p->M[n]?=some o->SOk K H α p o
theorem HR.nil:HR K H [] []:=⟨rfl,List.nodup_nil,fun n p o h=>by simp at h⟩
theorem Kn.at{H:Hp}(k:Kn H p=some j)(e:H p=some u):(match some u with|some (.lst _)=>some 0|some (.dK _)=>some 1|some (.dT _)=>some 2|some (.dU _)=>some 3|some (.frz _ (.dK _))=>some 1|some (.frz _ (.dT _))=>some 2|_=>none)=some j:=by
 unfold Kn at k;rw[e]at k;exact k
theorem HR.at(h:HR K H α M)(e:RefK H α 0 n p)(m:M[n]?=some (.lst ds)):∃xs,H p=some (.lst xs)/\Reps K H α xs ds:=by
 rcases h.ob n p _ e.at' m with h1|⟨_,h1,_⟩|⟨_,h1,_⟩|⟨_,_,_,h1,_⟩|⟨_,_,_,h1,_⟩|⟨_,h1,_⟩
 ·exact h1
 all_goals exact absurd (Kn.at e.kn h1) (fun z=>nomatch z)
theorem HR.atU(h:HR K H α M)(e:RefK H α 3 n p)(m:M[n]?=some (.lst ds)):∃kvs,H p=some (.dU kvs)/\Zbm K H α Zmu kvs ds:=by
 rcases h.ob n p _ e.at' m with⟨_,h1,_⟩|⟨_,h1,_⟩|⟨_,h1,_⟩|⟨_,_,_,h1,_⟩|⟨_,_,_,h1,_⟩|h1
 ·exact absurd (Kn.at e.kn h1) (fun z=>nomatch z)
 ·exact absurd (Kn.at e.kn h1) (fun z=>nomatch z)
 ·exact absurd (Kn.at e.kn h1) (fun z=>nomatch z)
 ·exact absurd (Kn.at e.kn h1) (fun z=>nomatch z)
 ·exact absurd (Kn.at e.kn h1) (fun z=>nomatch z)
 ·exact h1
theorem RefK.lst{n:Nat}{p:Addr}(e:RefK H α 0 n p):∃xs,H p=some (.lst xs):=by
 have:=e.kn
 unfold Kn at this
 split at this
 ·rename_i xs h;exact⟨xs,h⟩
 all_goals cases this
theorem HR.some_at(h:HR K H α M)(e:RefK H α 0 n p):∃xs,H p=some (.lst xs):=e.lst
theorem HR.there(h:HR K H α M){n:Nat}(e:α[n]?=some p):∃u,H p=some u:=by
 have hl:n<α.length:=(aq.mp e).1;have hm:n<M.length:=by rw[<-h.len];exact hl
 exact(h.ob n p M[n] e (Gq hm)).there
theorem HR.tup{M:Sto}{p:Addr}{o:HO}(h:HR K H α M)(hp:H p=none):HR K (upd H p o) α M:=
 ⟨h.len,h.nd,fun n q so e m=>by
  obtain⟨u,hu⟩:=h.there e;exact(h.ob n q so e m).mono (Ext.new0 hp) (ZH (ZU hu hp))⟩
theorem HR.newO(h:HR K H α M)(hp:H p=none)(r:SOk K (upd H p o) (α++[p]) p so):HR K (upd H p o) (α++[p]) (M++[so]):=by
 have ex:Ext K H (upd H p o) α (α++[p]):=Ext.new hp;refine⟨by rw[a6,a6,h.len];rfl,?_,fun n q so' e m=>?_⟩
 ·refine jO.mpr ⟨h.nd,by simp,fun a ha b hb=>?_⟩
  have hb':b=p:=by simpa using hb
  obtain⟨n,hn,e⟩:=c7 ha;obtain⟨u,z⟩:=h.there (n:=n) (p:=a) (by rw[af hn,e])
  rw[hb'];exact ZU z hp
 ·by_cases hn:n<α.length
  ·rw[ah hn]at e;rw[ah (by rw[<-h.len];exact hn)]at m
   obtain⟨u,hu⟩:=h.there e;exact(h.ob n q so' e m).mono ex (ZH (ZU hu hp))
  ·have en:n=α.length:=by
    have:n<(α++[p]).length:=(aq.mp e).1
    rw[a6,fI]at this;lia
   subst en;rw[aI (aj _),ft]at e;rw[h.len,aI (aj _),ft]at m;cases e;cases m;exact r
theorem HR.new(h:HR K H α M)(hp:H p=none)(r:Reps K H α xs ds):HR K (upd H p (.lst xs)) (α++[p]) (M++[.lst ds]):=
 h.newO hp (.inl ⟨xs,Zy,Reps.mono (Ext.new hp) r⟩)
theorem ZjS{n:Nat}(h:α.Nodup)(a:α[n]?=some p)(b:α[m]?=some p):n=m:=by
 obtain⟨h1,e1⟩:=aq.mp a;obtain⟨h2,e2⟩:=aq.mp b;exact(List.getElem_inj h).mp (e1.trans e2.symm)
theorem HR.wrO(h:HR K H α M)(e:α[n]?=some p)(ex:Ext K H (upd H p o) α α)(r:SOk K (upd H p o) α p so):HR K (upd H p o) α (M.set n so):=by
 have hn:n<M.length:=by rw[<-h.len];exact(aq.mp e).1
 refine⟨by rw[gI];exact h.len,h.nd,fun k q so' e' m=>?_⟩
 by_cases hk:k=n
 ·subst hk;rw[e]at e';cases e';rw[aN hn]at m;cases m;exact r
 ·rw[aM (bV hk)]at m;have hq:q≠p:=fun z=>hk (ZjS h.nd (z▸e') e);exact(h.ob k q so' e' m).mono ex (ZH hq)
theorem HR.wr(h:HR K H α M)(e:RefK H α 0 n p)(hp:H p=some (.lst ys))(r:Reps K H α xs ds):HR K (upd H p (.lst xs)) α (M.set n (.lst ds)):=
 h.wrO e.at' (Ext.wr hp) (.inl ⟨xs,Zy,Reps.mono (Ext.wr hp) r⟩)
end
inductive Out(β:Type) where
 |ok (a:β) (M:Sto)
 |exc (c:Str) (M:Sto)
 |bad
abbrev W3:=List D->Sto->Out D
noncomputable def Out.bind(o:Out β)(f:β->Sto->Out γ):Out γ:=match o with
 |.ok a M=>f a M
 |.exc c M=>.exc c M
 |.bad=>.bad
inductive Fl where
 |nx (ρ:Ro) (M:Sto)
 |ret (d:D) (M:Sto)
 |brk (ρ:Ro) (M:Sto)
 |cnt (ρ:Ro) (M:Sto)
 |exc (c:Str) (M:Sto)
 |bad
noncomputable def Zmv(c:Str):Bool:=c==PySem.Str.ofString "NoRound"
def XO(K:Fg)(H:Hp)(α:List Addr)(c:Str)(M:Sto)(dct:Option Addr):Prop:=
 (Zmv c=false/\HR K H α M/\dct=none)\/(Zmv c=true/\∃(M0:Sto) (ds:List D) (dx:Addr) (fs:List (Str×V)),M=M0++[.lst ds]/\HR K H α M0/\dct=some dx/\H dx=some (.xd fs)/\fs.map (·.1)=Zt0/\Reps K H α (fs.map (·.2)) ds)
def OG{β γ:Type}(K:Fg)(R:Hp->List Addr->γ->β->Prop)(H:Hp)(α:List Addr)(ξ:XK)(Q:γ->Hp->Prop):Out β->Prop
 |.ok d M'=>∀v H' α',Ext K H H' α α'->HR K H' α' M'->R H' α' v d->Q v H'
 |.exc c M'=>∀C H' α',PySem.W.nsIn K aO c=some (some (.ref C))->Ext K H H' α α'->∀dct,XO K H' α' c M' dct->ξ (.ref C) dct H'
 |.bad=>False
theorem OG.ext{K:Fg}{R:Hp->List Addr->γ->β->Prop}{Q:γ->Hp->Prop}{o:Out β}(h:OG K R H α ξ Q o)(e:Ext K H H1 α α1):OG K R H1 α1 ξ Q o:=by
 cases o with
 |ok d M'=>exact fun v H' α' e'=>h v H' α' (e.trans e')
 |exc c M'=>exact fun C H' α' n e'=>h C H' α' n (e.trans e')
 |bad=>exact h
abbrev OP(K:Fg):=OG K (Rep K)
abbrev OT(K:Fg):=OG (β:=Bool) (γ:=Bool) K (fun _ _ v d=>v=d)
abbrev OA(K:Fg):=OG K (Reps K)
noncomputable def SR(K:Fg)(H:Hp)(α:List Addr)(σ:L2.St)(ρ:Ro):Prop:=σ.length=ρ.length/\∀(i:Nat)(d:D),ρ[i]?=some (some d)->∃v,σ[i]?=some (some v)/\Rep K H α v d
theorem SR.mono{K:Fg}(h:SR K H α σ ρ)(e:Ext K H H' α α'):SR K H' α' σ ρ:=
 ⟨h.1,fun i d q=>let ⟨v,a,b⟩:=h.2 i d q;⟨v,a,Rep.mono e b⟩⟩
theorem SR.set{K:Fg}(h:SR K H α σ ρ)(i:Nat)(r:Rep K H α v d):SR K H α (σ.set i (some v)) (ρ.set i (some d)):=by
 refine⟨by rw[gI,gI];exact h.1,fun j e q=>?_⟩
 by_cases hj:j=i
 ·subst hj;have hl:j<ρ.length:=by
   have:=(aq.mp q).1
   rw[gI]at this;exact this
  rw[aN hl]at q;cases q;exact⟨v,by rw[aN (by rw[h.1];exact hl)],r⟩
 ·rw[aM (bV hj)]at q;rw[aM (bV hj)];exact h.2 j e q
abbrev Ev:=Ro->Sto->Out D
abbrev Tv:=Ro->Sto->Out Bool
abbrev Av:=Ro->Sto->Out (List D)
abbrev Sv:=Ro->Sto->Fl
def DE(X:Cx)(ξ:XK)(e:Expr)(f:Ev):Prop:=∃t:TE,PE X e t/\∀σ ρ H α M Q,SR X.K H α σ ρ->HR X.K H α M->OP X.K H α ξ Q (f ρ M)->t σ H Q
def DT(X:Cx)(ξ:XK)(e:Expr)(f:Tv):Prop:=∃t:TT,PT X e t/\∀σ ρ H α M Q,SR X.K H α σ ρ->HR X.K H α M->OT X.K H α ξ Q (f ρ M)->t σ H Q
def DW(X:Cx)(ξ:XK)(e:Expr)(f:Tv):Prop:=∃t:TT,PW X e t/\∀σ ρ H α M Q,SR X.K H α σ ρ->HR X.K H α M->OT X.K H α ξ Q (f ρ M)->t σ H Q
def DA(X:Cx)(ξ:XK)(es:List Expr)(f:Av):Prop:=∃t:TA,PA X es t/\∀σ ρ H α M Q,SR X.K H α σ ρ->HR X.K H α M->OA X.K H α ξ Q (f ρ M)->t σ H Q
theorem OG.seq{K:Fg}{R:Hp->List Addr->γ->β->Prop}{R':Hp->List Addr->γ'->β'->Prop}{Q:γ'->Hp->Prop}{Q1:γ->Hp->Prop}{o:Out β}{f:β->Sto->Out β'}(h:OG K R' H α ξ Q (o.bind f))(k:∀d M' v H' α',Ext K H H' α α'->HR K H' α' M'->R H' α' v d->OG K R' H' α' ξ Q (f d M')->Q1 v H'):OG K R H α ξ Q1 o:=by
 cases o with
 |ok d M'=>exact fun v H' α' e hr r=>k d M' v H' α' e hr r (OG.ext (o:=f d M') h e)
 |exc c M'=>exact h
 |bad=>exact h
section
variable {X:Cx}{ξ:XK}{a:Expr}{fa fb:Ev}
noncomputable def Zf(i:Nat):Ev:=fun ρ M=>match ρ[i]? with|some (some d)=>.ok d M|_=>.bad
noncomputable def eC(d:D):Ev:=fun _ M=>.ok d M
theorem Za(i:Nat)(hN:autoParam (X.N[i]?=some x) Qrf._auto_1)(hv:Vis X.env.scope x:=by first|exact dJ rfl|exact mQ (dJ rfl)|exact mQ (mQ rfl))(hd:autoParam ((x==("__debug__":Str))=false) Qde._auto_1)(hcd:autoParam ((x==("__classdict__":Str))=false) Qde._auto_1):DE X ξ (.Name x pos) (Zf i):=by
 refine⟨_,Zoh hN hv hd hcd,fun σ ρ H α M Q s h q=>?_⟩;unfold Zf at q;cases e:ρ[i]? with
 |none=>rw[e]at q;exact q.elim
 |some o=>
  cases o with
  |none=>rw[e]at q;exact q.elim
  |some d=>
   rw[e]at q;obtain⟨v,h1,h2⟩:=s.2 i d e;exact⟨v,h1,q v H α Ext.refl h h2⟩
theorem Ze{j pos}:DE X ξ (.Constant (.int i) j pos) (eC (.int i)):=⟨_,Zoi,fun _ _ H α M _ _ h q=>q _ H α Ext.refl h (.int i)⟩
theorem ZcX{j pos}:DE X ξ (.Constant (.bool i) j pos) (eC (.bl i)):=⟨_,ZrJ,fun _ _ H α M _ _ h q=>q _ H α Ext.refl h (.bl i)⟩
theorem ZbF{j pos}:DE X ξ (.Constant .none j pos) (eC .non):=⟨_,Zoj,fun _ _ H α M _ _ h q=>q _ H α Ext.refl h .non⟩
theorem Zcy{j pos}:DE X ξ (.Constant (.str x) j pos) (eC (.str x)):=⟨_,Zok,fun _ _ H α M _ _ h q=>q _ H α Ext.refl h (.str x)⟩
abbrev Bo:=D->D->Sto->Out D
def e2(f:Bo)(fa fb:Ev):Ev:=fun ρ M=>(fa ρ M).bind fun x M1=>(fb ρ M1).bind fun y M2=>f x y M2
def BO(X:Cx)(ξ:XK)(r:R2)(f:Bo):Prop:=∀H α M v w x y Q,HR X.K H α M->Rep X.K H α v x->Rep X.K H α w y->OP X.K H α ξ Q (f x y M)->r v w H Q
theorem two{r:R2}{f:Bo}(hb:BO X ξ r f){ta tb:TE}(qa:∀σ ρ H α M Q,SR X.K H α σ ρ->HR X.K H α M->OP X.K H α ξ Q (fa ρ M)->ta σ H Q)(qb:∀σ ρ H α M Q,SR X.K H α σ ρ->HR X.K H α M->OP X.K H α ξ Q (fb ρ M)->tb σ H Q):∀σ ρ H α M Q,SR X.K H α σ ρ->HR X.K H α M->OP X.K H α ξ Q (e2 f fa fb ρ M)->tOp r ta tb σ H Q:=by
 intro σ ρ H α M Q s h q;refine qa σ ρ H α M _ s h (OG.seq q fun x M1 v H1 α1 e1 h1 r1 q1=>?_);refine qb σ ρ H1 α1 M1 _ (s.mono e1) h1 (OG.seq q1 fun y M2 w H2 α2 e2 h2 r2 q2=>?_);exact hb H2 α2 M2 v w x y Q h2 (Rep.mono e2 r1) r2 q2
theorem ZgW(ho:OpR X (fv op) r)(hf:BO X ξ r f)(ha:DE X ξ a fa)(hb:DE X ξ b fb):DE X ξ (.BinOp a op b pos) (e2 f fa fb):=by
 obtain⟨ta,ha,qa⟩:=ha;obtain⟨tb,hb,qb⟩:=hb;exact⟨_,ZrS ho ha hb,two hf qa qb⟩
theorem ZhG(ho:OpR X (eG op) r)(hf:BO X ξ r f)(ha:DE X ξ a fa)(hb:DE X ξ b fb)(hm:gB op b=false:=by first|exact ZkV _|with_unfolding_all rfl):DE X ξ (.Compare a [op] [b] pos) (e2 f fa fb):=by
 obtain⟨ta,ha,qa⟩:=ha;obtain⟨tb,hb,qb⟩:=hb;exact⟨_,Zme ho ha hb hm,two hf qa qb⟩
def tv(f:Ev):Tv:=fun ρ M=>(f ρ M).bind fun x M1=>match x with|.bl k=>.ok k M1|_=>.bad
theorem ZoT{t:TE}{f:Ev}(qa:∀σ ρ H α M Q,SR X.K H α σ ρ->HR X.K H α M->OP X.K H α ξ Q (f ρ M)->t σ H Q):∀σ ρ H α M Q,SR X.K H α σ ρ->HR X.K H α M->OT X.K H α ξ Q (tv f ρ M)->ZoC t σ H Q:=by
 intro σ ρ H α M Q s h q;refine qa σ ρ H α M _ s h (OG.seq q fun x M1 v H1 α1 e1 h1 r1 q1=>?_);cases r1 with
 |bl k=>exact⟨k,rfl,q1 k H1 α1 Ext.refl h1 rfl⟩
 |_=>exact q1.elim
theorem Zt(ho:OpR X (eG op) r)(hf:BO X ξ r f)(ha:DE X ξ a fa)(hb:DE X ξ b fb)(hm:gB op b=false:=by first|exact ZkV _|with_unfolding_all rfl):DT X ξ (.Compare a [op] [b] pos) (tv (e2 f fa fb)):=by
 obtain⟨ta,ha,qa⟩:=ha;obtain⟨tb,hb,qb⟩:=hb;exact⟨_,Zmf ho ha hb hm,ZoT (two hf qa qb)⟩
theorem Zbn(h:DE X ξ e fa)(he:autoParam (∀whole,isTrue e X.env whole=(do let v <-whole;standAt e.pos;holding [v] (truthy v))) Qin._auto_1):DT X ξ e (tv fa):=by
 obtain⟨ta,ha,qa⟩:=h;exact⟨_,Zol ha he,ZoT qa⟩
variable {Zav:List Expr}
def ZbL(f g:Tv):Tv:=fun ρ M=>(f ρ M).bind fun k M1=>if k=true then g ρ M1 else .ok false M1
def Zel(f g:Tv):Tv:=fun ρ M=>(f ρ M).bind fun k M1=>if k=true then .ok true M1 else g ρ M1
def Zcd(f:Tv):Tv:=fun ρ M=>(f ρ M).bind fun k M1=>.ok (!k) M1
theorem ZaQ(ha:DT X ξ a ga):DW X ξ (.BoolOp .And [a] pos) ga:=let ⟨_,h,q⟩:=ha;⟨_,pw_and1 h,q⟩
theorem ZaY(ha:DT X ξ a ga):DW X ξ (.BoolOp .Or [a] pos) ga:=let ⟨_,h,q⟩:=ha;⟨_,pw_or1 h,q⟩
theorem ZbG(ha:DT X ξ a ga)(hb:DW X ξ (.BoolOp .And (b::Zav) pos) gb):DW X ξ (.BoolOp .And (a::b::Zav) pos) (ZbL ga gb):=by
 obtain⟨ta,ha,qa⟩:=ha;obtain⟨tb,hb,qb⟩:=hb;refine⟨_,pw_and ha hb,fun σ ρ H α M Q s h q=>?_⟩;refine qa σ ρ H α M _ s h (OG.seq q fun k M1 v H1 α1 e1 h1 r1 q1=>?_);cases r1;cases k with
 |true=>exact Zn5 (qb σ ρ H1 α1 M1 Q (s.mono e1) h1 q1)
 |false=>exact Zn4 (q1 false H1 α1 Ext.refl h1 rfl)
theorem Zce(ha:DT X ξ a ga)(hb:DW X ξ (.BoolOp .Or (b::Zav) pos) gb):DW X ξ (.BoolOp .Or (a::b::Zav) pos) (Zel ga gb):=by
 obtain⟨ta,ha,qa⟩:=ha;obtain⟨tb,hb,qb⟩:=hb;refine⟨_,pw_or ha hb,fun σ ρ H α M Q s h q=>?_⟩;refine qa σ ρ H α M _ s h (OG.seq q fun k M1 v H1 α1 e1 h1 r1 q1=>?_);cases r1;cases k with
 |true=>exact Zn5 (q1 true H1 α1 Ext.refl h1 rfl)
 |false=>exact Zn4 (qb σ ρ H1 α1 M1 Q (s.mono e1) h1 q1)
theorem ZcY(h:DW X ξ e ga):DT X ξ e ga:=let ⟨_,h,q⟩:=h;⟨_,h.pt,q⟩
theorem Zcz(ha:DT X ξ a ga):DT X ξ (.UnaryOp .Not a pos) (Zcd ga):=by
 obtain⟨ta,ha,qa⟩:=ha;refine⟨_,Zom ha,fun σ ρ H α M Q s h q=>?_⟩;refine qa σ ρ H α M _ s h (OG.seq q fun k M1 v H1 α1 e1 h1 r1 q1=>?_);cases r1;exact q1 (!k) H1 α1 Ext.refl h1 rfl
def ZgX(f g:Ev):Ev:=fun ρ M=>(f ρ M).bind fun x M1=>match x with|.bl k=>if k=true then g ρ M1 else .ok (.bl false) M1|_=>.bad
def Zu4(f g:Ev):Ev:=fun ρ M=>(f ρ M).bind fun x M1=>match x with|.bl k=>if k=true then .ok (.bl true) M1 else g ρ M1|_=>.bad
def ZhH(f:Ev):Ev:=fun ρ M=>(f ρ M).bind fun x M1=>match x with|.bl k=>.ok (.bl (!k)) M1|_=>.bad
theorem Zk1{op}(ha:DE X ξ a fa):DE X ξ (.BoolOp op [a] pos) fa:=let ⟨_,h,q⟩:=ha;⟨_,Zon h,q⟩
theorem Zk2(ha:DE X ξ a fa)(hb:DE X ξ (.BoolOp .And (b::Zav) pos) fb):DE X ξ (.BoolOp .And (a::b::Zav) pos) (ZgX fa fb):=by
 obtain⟨ta,ha,qa⟩:=ha;obtain⟨tb,hb,qb⟩:=hb;refine⟨_,Zoo ha hb,fun σ ρ H α M Q s h q=>?_⟩;refine qa σ ρ H α M _ s h (OG.seq q fun x M1 v H1 α1 e1 h1 r1 q1=>?_);cases r1 with
 |bl k=>
  refine⟨k,rfl,?_⟩;cases k with
  |true=>exact Zn5 (qb σ ρ H1 α1 M1 Q (s.mono e1) h1 q1)
  |false=>exact Zn4 (q1 _ H1 α1 Ext.refl h1 (.bl false))
 |_=>exact q1.elim
theorem ZoU(ha:DE X ξ a fa):DE X ξ (.UnaryOp .Not a pos) (ZhH fa):=by
 obtain⟨ta,ha,qa⟩:=ha;refine⟨_,Zop ha,fun σ ρ H α M Q s h q=>?_⟩;refine qa σ ρ H α M _ s h (OG.seq q fun x M1 v H1 α1 e1 h1 r1 q1=>?_);cases r1 with
 |bl k=>exact⟨k,rfl,q1 _ H1 α1 Ext.refl h1 (.bl (!k))⟩
 |_=>exact q1.elim
def eIf(c:Tv)(f g:Ev):Ev:=fun ρ M=>(c ρ M).bind fun k M1=>if k=true then f ρ M1 else g ρ M1
noncomputable def aNil:Av:=fun _ M=>.ok [] M
def Zc(f:Ev)(g:Av):Av:=fun ρ M=>(f ρ M).bind fun x M1=>(g ρ M1).bind fun xs M2=>.ok (x::xs) M2
theorem Zd:DA X ξ [] aNil:=⟨_,ZkW,fun _ _ H α M _ _ h q=>q _ H α Ext.refl h .nil⟩
theorem Zb(ha:DE X ξ e fa)(hr:DA X ξ es fs)(hs:autoParam (av (e::es) X.env=(false,eval e X.env)::av es X.env) Qrf._auto_1):DA X ξ (e::es) (Zc fa fs):=by
 obtain⟨ta,ha,qa⟩:=ha;obtain⟨tb,hb,qb⟩:=hr;refine⟨_,Zfd ha hb hs,fun σ ρ H α M Q s h q=>?_⟩;refine qa σ ρ H α M _ s h (OG.seq q fun x M1 v H1 α1 e1 h1 r1 q1=>?_);refine qb σ ρ H1 α1 M1 _ (s.mono e1) h1 (OG.seq q1 fun y M2 w H2 α2 e2 h2 r2 q2=>?_);exact q2 _ H2 α2 Ext.refl h2 (.cons (Rep.mono e2 r1) r2)
def Z5(f:Av):Ev:=fun ρ M=>(f ρ M).bind fun xs M1=>if xs.length<=1000 then .ok (.tup xs) M1 else .bad
def Zdt(f:Av):Ev:=fun ρ M=>(f ρ M).bind fun xs M1=>if xs.length<=1000 then .ok (.ref M1.length) (M1++[.lst xs])else .bad
theorem Zmw(h:n<=1000):n<=sizeLine:=dI (Zhz h)
theorem Zw{x1}(ha:DA X ξ es fs):DE X ξ (.Tuple es x1 pos) (Z5 fs):=by
 obtain⟨ta,ha,qa⟩:=ha;refine⟨_,ZoD ha,fun σ ρ H α M Q s h q=>?_⟩;refine qa σ ρ H α M _ s h (OG.seq q fun xs M1 vs H1 α1 e1 h1 r1 q1=>?_);by_cases hl:xs.length<=1000
 ·rw[if_pos hl]at q1;refine⟨by rw[r1.length];exact Zmw hl,fun p hp=>q1 _ _ α1 (Ext.new0 hp) (h1.tup hp) (.tup Zy (Reps.mono (Ext.new0 hp) r1))⟩
 ·rw[if_neg hl]at q1;exact q1.elim
theorem HR.last{K:Fg}(h:HR K H α M)(p:Addr):(α++[p])[M.length]?=some p:=by
 rw[<-h.len,aI (aj _),ft];rfl
theorem ZaE(ha:DA X ξ es fs):DE X ξ (.List es pos) (Zdt fs):=by
 obtain⟨ta,ha,qa⟩:=ha;refine⟨_,ZoE ha,fun σ ρ H α M Q s h q=>?_⟩;refine qa σ ρ H α M _ s h (OG.seq q fun xs M1 vs H1 α1 e1 h1 r1 q1=>?_);by_cases hl:xs.length<=1000
 ·rw[if_pos hl]at q1;refine⟨by rw[r1.length];exact Zmw hl,fun p hp=>q1 _ _ (α1++[p]) (Ext.new hp) (h1.new hp r1) (.ref ⟨h1.last p,Kn.lst Zy⟩)⟩
 ·rw[if_neg hl]at q1;exact q1.elim
end
end DL
namespace DL
open PyProof.Rows L2
open PySem.SeqAt (EqAt RcAt RcNeAt)
noncomputable def Zs(i j:Int):Prop:=gu i<=64\/gu j<=64\/(gu i<=60000000/\gu j<=60000000)
instance (i j:Int):Decidable (Zs i j):=by unfold Zs;infer_instance
theorem Zs.ok(h:Zs i j):IntMulOk i j:=by
 rcases h with h|h|⟨h1,h2⟩
 ·exact .of_left h
 ·exact .of_right h
 ·exact .of_le h1 h2 (by decide)
theorem Zr(m n:Nat)(h1:i.natAbs<2^m)(h2:j.natAbs<2^n)(hm:autoParam (m<=60000000) Qde._auto_1)(hn:autoParam (n<=60000000) Qde._auto_1):Zs i j:=
 .inr (.inr ⟨aT (intBits_le_iff.mpr h1) hm,aT (intBits_le_iff.mpr h2) hn⟩)
noncomputable def ZaR(j:Int):Prop:=j≠0/\j.natAbs.log2<9000
instance (j:Int):Decidable (ZaR j):=by unfold ZaR;infer_instance
theorem Zmx:OpR X (fv .Mult) (rI Zs fun i j=>.int (i*j)):=opI fun _ _ _ _ _ _ _ hc q=>mul_int q hc.ok
theorem ZjT:OpR X (fv .FloorDiv) (rI (fun _ j=>ZaR j) fun i j=>.int (i.fdiv j)):=opI fun _ _ _ _ _ _ _ hc q=>floordiv_int hc.1 q (.inl (PyProof.noPylong_of_log2 hc.2))
noncomputable def dAdd:Bo:=fun x y M=>match x,y with
 |.int i,.int j=>.ok (.int (i+j)) M
 |.str i,.str j=>if i.length+j.length<=100000 then .ok (.str (i++j)) M else .bad
 |.ref n,.ref m=>match M[n]?,M[m]? with
  |some (.lst xs),some (.lst ys)=>if xs.length+ys.length<=10000000 then .ok (.ref M.length) (M++[.lst (xs++ys)])else .bad
  |_,_=>.bad
 |.tup xs,.tup ys=>if xs.length+ys.length<=100000/\xs≠[]then .ok (.tup (xs++ys)) M else .bad
 |_,_=>.bad
noncomputable def dSub:Bo:=fun x y M=>match x,y with|.int i,.int j=>.ok (.int (i-j)) M|_,_=>.bad
def dMul:Bo:=fun x y M=>match x,y with|.int i,.int j=>if Zs i j then .ok (.int (i*j)) M else .bad|_,_=>.bad
def dDiv:Bo:=fun x y M=>match x,y with|.int i,.int j=>if ZaR j then .ok (.int (i.fdiv j)) M else .bad|_,_=>.bad
noncomputable def dMod:Bo:=fun x y M=>match x,y with|.int i,.int j=>if j≠0 then .ok (.int (i.fmod j)) M else .bad|_,_=>.bad
noncomputable def dPow:Bo:=fun x y M=>match x,y with|.int i,.int j=>if 0<=j/\j<=1000000/\i.natAbs<2^64 then .ok (.int (i^j.toNat)) M else .bad|_,_=>.bad
noncomputable def dLt:Bo:=fun x y M=>match x,y with|.int i,.int j=>.ok (.bl (decide (i<j))) M|_,_=>.bad
noncomputable def dLe:Bo:=fun x y M=>match x,y with|.int i,.int j=>.ok (.bl (decide (i<=j))) M|_,_=>.bad
noncomputable def dGt:Bo:=fun x y M=>match x,y with|.int i,.int j=>.ok (.bl (decide (j<i))) M|_,_=>.bad
noncomputable def dGe:Bo:=fun x y M=>match x,y with|.int i,.int j=>.ok (.bl (decide (j<=i))) M|_,_=>.bad
theorem ZoV(h:n<=100000):n<=sizeLine:=aT h (by decide)
section
variable {X:Cx}{ξ:XK}
theorem ZbT{r:R2}{f:Bo}{C:Int->Int->Prop}[∀i j,Decidable (C i j)]{g:Int->Int->D}{gV:Int->Int->V}(hg:∀H α i j,Rep X.K H α (gV i j) (g i j))(hf:∀x y M,f x y M=match x,y with|.int i,.int j=>if C i j then .ok (g i j) M else .bad|_,_=>.bad)(hr:∀i j H Q,C i j->Q (gV i j) H->r (.int i) (.int j) H Q):BO X ξ r f:=by
 intro H α M v w x y Q h rv rw' q;rw[hf]at q;cases rv<;>first|exact q.elim|skip
 cases rw'<;>first|exact q.elim|skip
 rename_i i j;by_cases c:C i j
 ·simp only[if_pos c]at q;exact hr i j H Q c (q _ H α Ext.refl h (hg H α i j))
 ·simp only[if_neg c]at q;exact q.elim
theorem ZoW:BO X ξ (rI0 fun i j=>.int (i-j)) dSub:=ZbT (C:=fun _ _=>True) (fun _ _ i j=>.int (i-j)) (fun x y M=>by cases x<;>cases y<;>simp[dSub]) fun i j H Q _ q=>⟨i,j,rfl,rfl,q⟩
theorem ZoX:BO X ξ (rI Zs fun i j=>.int (i*j)) dMul:=ZbT (C:=Zs) (fun _ _ i j=>.int (i*j)) (fun x y M=>by cases x<;>cases y<;>rfl) fun i j H Q c q=>⟨i,j,rfl,rfl,c,q⟩
theorem ZoY:BO X ξ (rI (fun _ j=>ZaR j) fun i j=>.int (i.fdiv j)) dDiv:=ZbT (C:=fun _ j=>ZaR j) (fun _ _ i j=>.int (i.fdiv j)) (fun x y M=>by cases x<;>cases y<;>rfl) fun i j H Q c q=>⟨i,j,rfl,rfl,c,q⟩
theorem ZoZ:BO X ξ (rI (fun _ j=>j≠0) fun i j=>.int (i.fmod j)) dMod:=ZbT (C:=fun _ j=>j≠0) (fun _ _ i j=>.int (i.fmod j)) (fun x y M=>by cases x<;>cases y<;>rfl) fun i j H Q c q=>⟨i,j,rfl,rfl,c,q⟩
theorem Zo0:BO X ξ (rI ZtW fun i j=>.int (i^j.toNat)) dPow:=ZbT (C:=fun i j=>0<=j/\j<=1000000/\i.natAbs<2^64) (fun _ _ i j=>.int (i^j.toNat)) (fun x y M=>by cases x<;>cases y<;>rfl) fun i j H Q c q=>⟨i,j,rfl,rfl,c,q⟩
theorem Zcf:BO X ξ (rI0 fun i j=>.bl (decide (i<j))) dLt:=ZbT (C:=fun _ _=>True) (fun _ _ i j=>.bl _) (fun x y M=>by cases x<;>cases y<;>simp[dLt]) fun i j H Q _ q=>⟨i,j,rfl,rfl,q⟩
theorem Zo1:BO X ξ (rI0 fun i j=>.bl (decide (i<=j))) dLe:=ZbT (C:=fun _ _=>True) (fun _ _ i j=>.bl _) (fun x y M=>by cases x<;>cases y<;>simp[dLe]) fun i j H Q _ q=>⟨i,j,rfl,rfl,q⟩
theorem ZcZ:BO X ξ (rI0 fun i j=>.bl (decide (j<i))) dGt:=ZbT (C:=fun _ _=>True) (fun _ _ i j=>.bl _) (fun x y M=>by cases x<;>cases y<;>simp[dGt]) fun i j H Q _ q=>⟨i,j,rfl,rfl,q⟩
theorem ZjU:BO X ξ (rI0 fun i j=>.bl (decide (j<=i))) dGe:=ZbT (C:=fun _ _=>True) (fun _ _ i j=>.bl _) (fun x y M=>by cases x<;>cases y<;>simp[dGe]) fun i j H Q _ q=>⟨i,j,rfl,rfl,q⟩
theorem Zmy:OpR X (fv .Add) (fun x y H Q=>(rI0 (fun i j=>.int (i+j)) x y H Q\/(∃i j,x=.str i/\y=.str j/\i.length+j.length<=sizeLine/\Q (.str (i++j)) H))\/(rCat x y H Q\/Zmk X.K x y H Q)):=
 OpR.or (OpR.or Zox ZgS) (OpR.or ZoL Zml)
theorem Zo2:BO X ξ (fun x y H Q=>(rI0 (fun i j=>.int (i+j)) x y H Q\/(∃i j,x=.str i/\y=.str j/\i.length+j.length<=sizeLine/\Q (.str (i++j)) H))\/(rCat x y H Q\/Zmk X.K x y H Q)) dAdd:=by
 intro H α M v w x y Q h rv rw' q;unfold dAdd at q
 split at q
 ·rename_i i j;cases rv;cases rw';exact .inl (.inl ⟨i,j,rfl,rfl,q _ H α Ext.refl h (.int (i+j))⟩)
 ·rename_i i j;cases rv;cases rw'
  split at q
  ·rename_i c;exact .inl (.inr ⟨i,j,rfl,rfl,ZoV c,q _ H α Ext.refl h (.str _)⟩)
  ·exact q.elim
 ·rename_i n m;cases rv with
  |@ref p _ hp=>
   cases rw' with
   |@ref p2 _ hp2=>
    split at q
    ·rename_i ds ds2 e1 e2
     split at q
     ·rename_i c;obtain⟨xs,g1,r1⟩:=h.at hp e1;obtain⟨ys,g2,r2⟩:=h.at hp2 e2;refine .inr (.inl ⟨p,p2,xs,ys,rfl,rfl,g1,g2,by rw[r1.length,r2.length];exact aT c (by decide),fun l hl=>?_⟩)
      exact q _ _ (α++[l]) (Ext.new hl) (h.new hl (r1.append r2)) (.ref ⟨h.last l,Kn.lst Zy⟩)
     ·exact q.elim
    ·exact q.elim
 ·rename_i ds ds2;cases rv with
  |@tup p xs _ hp rp=>
   cases rw' with
   |@tup p2 xs2 _ hp2 rp2=>
    split at q
    ·rename_i c;have nx:xs≠[]:=fun z=>c.2 (by have:=rp.length;rw[z]at this;exact dm this.symm)
     refine .inr (.inr ⟨p,p2,xs,xs2,rfl,rfl,(SqT.of hp),(SqT.of hp2),nx,by rw[rp.length,rp2.length];exact ZoV c.1,fun z=>?_,fun _ l hl=>?_⟩)
     ·subst z;cases rp2;rw[cg]at q;exact q _ H α Ext.refl h (.tup hp rp)
     ·exact q _ _ α (Ext.new0 hl) (h.tup hl) (.tup Zy (Reps.mono (Ext.new0 hl) (rp.append rp2)))
    ·exact q.elim
 ·exact q.elim
theorem ZK(ha:DE X ξ a fa)(hb:DE X ξ b fb):DE X ξ (.BinOp a .Add b pos) (e2 dAdd fa fb):=ZgW Zmy Zo2 ha hb
theorem Zad(ha:DE X ξ a fa)(hb:DE X ξ b fb):DE X ξ (.BinOp a .Sub b pos) (e2 dSub fa fb):=ZgW Zoy ZoW ha hb
theorem ZD(ha:DE X ξ a fa)(hb:DE X ξ b fb):DE X ξ (.BinOp a .Mult b pos) (e2 dMul fa fb):=ZgW Zmx ZoX ha hb
theorem ZY(ha:DE X ξ a fa)(hb:DE X ξ b fb):DE X ξ (.BinOp a .FloorDiv b pos) (e2 dDiv fa fb):=ZgW ZjT ZoY ha hb
theorem Zae(ha:DE X ξ a fa)(hb:DE X ξ b fb):DE X ξ (.BinOp a .Mod b pos) (e2 dMod fa fb):=ZgW Zmd ZoZ ha hb
theorem Zdz(ha:DE X ξ a fa)(hb:DE X ξ b fb):DE X ξ (.BinOp a .Pow b pos) (e2 dPow fa fb):=ZgW Zoz Zo0 ha hb
def ZbM(f:Ev):Ev:=fun ρ M=>(f ρ M).bind fun x M1=>match x with|.int i=>.ok (.int (-i)) M1|_=>.bad
theorem ZR(ha:DE X ξ a fa):DE X ξ (.UnaryOp .USub a pos) (ZbM fa):=by
 obtain⟨ta,ha,qa⟩:=ha;refine⟨_,ZrT ZoA ha,fun σ ρ H α M Q s h q=>?_⟩;refine qa σ ρ H α M _ s h (OG.seq q fun x M1 v H1 α1 e1 h1 r1 q1=>?_);cases r1 with
 |int i=>exact⟨i,rfl,q1 _ H1 α1 Ext.refl h1 (.int (-i))⟩
 |_=>exact q1.elim
def atD(xs:List D)(i:Int)(M:Sto):Out D:=match atI xs i with|some d=>.ok d M|none=>.bad
def dIx:Bo:=fun x y M=>match x,y with
 |.tup xs,.int i=>atD xs i M
 |.rol xs,.int i=>atD xs i M
 |.ref n,.int i=>match M[n]? with|some (.lst xs)=>atD xs i M|_=>.bad
 |_,_=>.bad
theorem Reps.atI{K:Fg}(r:Reps K H α vs ds)(h:L2.atI ds i=some d):∃v,L2.atI vs i=some v/\Rep K H α v d:=by
 unfold L2.atI at h ⊢;rw[r.length];cases e:ixN ds.length i with
 |none=>rw[e]at h;cases h
 |some j=>
  rw[e]at h;exact r.get h
theorem Zr3:BO X ξ (fun x y H Q=>ZtX X.K x y H Q\/ZtY X.K x y H Q) dIx:=by
 intro H α M v w x y Q h rv rw' q;have at':∀{ds:List D}{i:Int},OP X.K H α ξ Q (atD ds i M)->∃d,L2.atI ds i=some d/\OP X.K H α ξ Q (.ok d M):=fun{ds i} q=>by
  unfold atD at q;cases e:L2.atI ds i with
  |none=>rw[e]at q;exact q.elim
  |some d=>rw[e]at q;exact⟨d,rfl,q⟩
 unfold dIx at q
 split at q
 ·rename_i ds i;cases rw';cases rv with
  |@tup p xs _ hp rp=>
   obtain⟨d,e,q⟩:=at' q;obtain⟨v,h1,h2⟩:=rp.atI e;exact .inr ⟨p,xs,i,v,rfl,rfl,(SqT.of hp),h1,q v H α Ext.refl h h2⟩
 ·rename_i ds i;cases rw';cases rv with
  |@rol p xs _ hp rp=>
   obtain⟨d,e,q⟩:=at' q;obtain⟨v,h1,h2⟩:=rp.atI e;exact .inl ⟨p,xs,i,v,rfl,rfl,hp.sq,h1,q v H α Ext.refl h h2⟩
 ·rename_i n i;cases rw';cases rv with
  |@ref p _ hp=>
   split at q
   ·rename_i ds e1;obtain⟨d,e,q⟩:=at' q;obtain⟨xs,g1,r1⟩:=h.at hp e1;obtain⟨v,h1,h2⟩:=r1.atI e;exact .inl ⟨p,xs,i,v,rfl,rfl,SqL.of g1,h1,q v H α Ext.refl h h2⟩
   ·exact q.elim
 ·exact q.elim
theorem Zp(ha:DE X ξ a fa)(hb:DE X ξ b fb)(hs:Zhv b:=by exact fun _ _=>rfl):DE X ξ (.Subscript a b pos) (e2 dIx fa fb):=by
 obtain⟨ta,ha,qa⟩:=ha;obtain⟨tb,hb,qb⟩:=hb;exact⟨_,ZrX (IxR.or Zmo ZoJ) ha hb hs,two Zr3 qa qb⟩
end
inductive Kd where
 |non|bl (b:Bool)|int (i:Int)|str (x:Str)|tup (xs:List D)|lst (xs:List D)
noncomputable def kd(M:Sto):D->Option Kd
 |.non=>some .non
 |.bl b=>some (.bl b)
 |.int i=>some (.int i)
 |.str x=>some (.str x)
 |.tup xs=>some (.tup xs)
 |.rol xs=>some (.lst xs)
 |.con xs=>some (.tup xs)
 |.ref n=>match M[n]? with|some (.lst xs)=>some (.lst xs)|_=>none
 |.err _ _=>none
 |.dk _=>none
 |.dt _=>none
 |.du _=>none
 |.fn _=>none
noncomputable def eqL(f:D->D->Option Bool):List D->List D->Option Bool
 |[],[]=>some true
 |x::xs,y::ys=>match f x y with|some a=>(match eqL f xs ys with|some b=>some (a&&b)|none=>none)|none=>none
 |_,_=>some false
def eqK(f:D->D->Option Bool):Kd->Kd->Option Bool
 |.non,.non=>some true
 |.bl a,.bl b=>some (a==b)
 |.bl a,.int b=>some ((if a then 1 else 0)==b)
 |.int a,.bl b=>some (a==(if b then 1 else 0))
 |.int a,.int b=>some (a==b)
 |.str a,.str b=>some (a==b)
 |.tup xs,.tup ys=>eqL f xs ys
 |.lst xs,.lst ys=>if xs.length=ys.length then eqL f xs ys else some false
 |_,_=>some false
def eqF:Nat->Sto->D->D->Option Bool
 |0,_,_,_=>none
 |n+1,M,x,y=>match kd M x,kd M y with|some a,some b=>eqK (eqF n M) a b|_,_=>none
inductive Vw(X:Cx) (H:Hp) (α:List Addr) (s:aC):Kd->ae->Prop where
 |non:Vw X H α s .non .none
 |bl (b:Bool):Vw X H α s (.bl b) (.bool b)
 |int (i:Int) (t:Tok):Vw X H α s (.int i) (.int i t)
 |str (x:Str) (t:Tok):Vw X H α s (.str x) (.str x t)
 |tup {p:Addr} {xs:List V} {ds:List D} {its:List ae}:s.heap.IsTuple p its.toArray->Z1 xs its->Reps X.K H α xs ds->Vw X H α s (.tup ds) (.ref p)
 |lst {p:Addr} {xs:List V} {ds:List D} {its:List ae}:s.heap.IsList p its.toArray->Z1 xs its->Reps X.K H α xs ds->Vw X H α s (.lst ds) (.ref p)
section
variable {X:Cx}{pins:Pn}{σ:L2.St}{H:Hp}{s:aC}{α:List Addr}{M:Sto}
theorem vw(I:Inv X pins σ H s)(h:HR X.K H α M)(r:Rep X.K H α v x)(ru:Z8 v u)(e:kd M x=some k):Vw X H α s k u:=by
 cases r with
 |non=>cases e;cases ru;exact .non
 |bl b=>cases e;cases ru;exact .bl b
 |int i=>cases e;obtain⟨t,rfl⟩:=ru;exact .int i t
 |str x=>cases e;obtain⟨t,rfl⟩:=ru;exact .str x t
 |err _ _ _=>cases e
 |dk _=>cases e
 |dt _=>cases e
 |du _=>cases e
 |fn _=>cases e
 |@tup p xs ds hp rp=>
  cases e;cases ru;obtain⟨its,h1,h2,_⟩:=I.tuple (SqT.of hp);exact .tup h2 h1 rp
 |@con p xs ds hp rp=>
  cases e;cases ru;obtain⟨its,h1,h2,_⟩:=I.tuple hp.sq;exact .tup h2 h1 rp
 |@rol p xs ds hp rp=>
  cases e;cases ru;obtain⟨its,h1,h2,_⟩:=I.list hp.sq;exact .lst h2.isList h1 rp
 |@ref p n hp=>
  cases ru;cases e1:M[n]? with
  |none=>simp only[kd,e1]at e;cases e
  |some o=>
   cases o with
   |lst ds=>
    simp only[kd,e1]at e;cases e;obtain⟨xs,g1,r1⟩:=h.at hp e1;obtain⟨its,h1,h2,_⟩:=I.list (SqL.of g1);exact .lst h2.isList h1 r1
noncomputable def Eq3(A:dR)(s:aC)(u z:ae)(b:Bool):Prop:=EqAt A s u z b/\RcAt A s u z b/\RcNeAt A s u z (!b)
theorem ZhI{f:D->D->Option Bool}:∀{xs ys:List D}{b:Bool},eqL f xs ys=some b->(∀(j:Nat) x y,xs[j]?=some x->ys[j]?=some y->∃c,f x y=some c)/\b=((aH (min xs.length ys.length)).all (fun j=>match xs[j]?,ys[j]? with|some x,some y=>(f x y).getD false|_,_=>false)&&xs.length==ys.length)
 |[],[],b,e=>by
  simp only[eqL,aF]at e;subst e;exact⟨fun j x y h=>(by simp at h),(by simp)⟩
 |x::xs,[],b,e=>by
  simp only[eqL,aF]at e;subst e;exact⟨fun j x y h1 h2=>(by simp at h2),(by simp)⟩
 |[],y::ys,b,e=>by
  simp only[eqL,aF]at e;subst e;exact⟨fun j x y h1 h2=>(by simp at h1),(by simp)⟩
 |x::xs,y::ys,b,e=>by
  cases e1:f x y with
  |none=>simp only[eqL,e1]at e;cases e
  |some a=>
   cases e2:eqL f xs ys with
   |none=>simp only[eqL,e1,e2]at e;cases e
   |some c=>
    simp only[eqL,e1,e2,aF]at e;subst e;obtain⟨h1,h2⟩:=ZhI e2;refine⟨fun j x' y' g1 g2=>?_,?_⟩
    ·cases j with
     |zero=>
      simp at g1 g2;subst g1 g2;exact⟨a,e1⟩
     |succ j=>
      simp at g1 g2;exact h1 j x' y' g1 g2
    ·have em:min (x::xs).length (y::ys).length=min xs.length ys.length+1:=by simp only[bC];lia
     rw[em,ik,List.all_cons,List.all_map,h2];simp[e1,Bool.and_assoc,Function.comp_def]
theorem ZjV(I:Inv X pins σ H s)(h:HR X.K H α M):∀(n:Nat){v:V}{x y:D}{b:Bool},Rep X.K H α v x->Rep X.K H α v y->eqF n M x y=some b->b=true:=by
 intro n
 induction n with
 |zero=>intro v x y b _ _ e;simp only[eqF]at e;cases e
 |succ n ih=>
  have lists:∀(vs:List V)(xs ys:List D)(b:Bool),Reps X.K H α vs xs->Reps X.K H α vs ys->eqL (eqF n M) xs ys=some b->b=true:=by
   intro vs
   induction vs with
   |nil=>
    intro xs ys b r1 r2 e;cases r1;cases r2;simp only[eqL,aF]at e;exact e.symm
   |cons v vs iv=>
    intro xs ys b r1 r2 e;cases r1 with
    |cons p1 t1=>
     cases r2 with
     |cons p2 t2=>
      rename_i d1 ds1 d2 ds2;cases e1:eqF n M d1 d2 with
      |none=>simp only[eqL,e1]at e;cases e
      |some a=>
       cases e2:eqL (eqF n M) ds1 ds2 with
       |none=>simp only[eqL,e1,e2]at e;cases e
       |some c=>
        simp only[eqL,e1,e2,aF]at e;rw[<-e,ih p1 p2 e1,iv _ _ _ t1 t2 e2];rfl
  intro v x y b r1 r2 e;have nl:∀{p:Addr}{xs ys:List V},SqT X.K H p xs->SqL X.K H p ys->False:=fun{p xs ys} a c=>by
   obtain⟨i1,_,⟨o1,g1,c1,_⟩,_⟩:=I.tuple a;obtain⟨i2,_,⟨o2,_,g2,c2,_⟩,_⟩:=I.list c;rw[g1]at g2;cases g2;rw[c1]at c2;exact absurd c2 (by decide)
  have ll:∀{p:Addr}{n:Nat}{ds:List D},RefK H α 0 n p->M[n]?=some (.lst ds)->∃vs,SqL X.K H p vs/\Reps X.K H α vs ds:=fun{p n ds} a c=>by
   obtain⟨xs,g1,r1⟩:=h.at a c;exact⟨xs,SqL.of g1,r1⟩
  cases r1 with
  |non=>cases r2;simp only[eqF,kd,eqK,aF]at e;exact e.symm
  |bl c=>cases r2;simp only[eqF,kd,eqK,aF,beq_self_eq_true]at e;exact e.symm
  |int c=>cases r2;simp only[eqF,kd,eqK,aF,beq_self_eq_true]at e;exact e.symm
  |str c=>cases r2;simp only[eqF,kd,eqK,aF,beq_self_eq_true]at e;exact e.symm
  |err _ _ _=>simp[eqF,kd]at e
  |dk _=>simp[eqF,kd]at e
  |dt _=>simp[eqF,kd]at e
  |du _=>simp[eqF,kd]at e
  |fn _=>simp[eqF,kd]at e
  |@tup p xs ds hp rp=>
   cases r2 with
   |@tup _ xs2 ds2 hp2 rp2=>
    cases I.tuple_inj (SqT.of hp) (SqT.of hp2);simp only[eqF,kd,eqK]at e;exact lists _ _ _ _ rp rp2 e
   |@con _ xs2 ds2 hp2 rp2=>
    cases I.tuple_inj (SqT.of hp) hp2.sq;simp only[eqF,kd,eqK]at e;exact lists _ _ _ _ rp rp2 e
   |@rol _ xs2 ds2 hp2 rp2=>exact(nl (SqT.of hp) hp2.sq).elim
   |err _ _ _=>simp[eqF,kd]at e
   |dk _=>simp[eqF,kd]at e
   |dt _=>simp[eqF,kd]at e
   |du _=>simp[eqF,kd]at e
   |fn _=>simp[eqF,kd]at e
   |@ref _ n2 hp2=>
    obtain⟨ys,g⟩:=h.some_at hp2;exact(nl (SqT.of hp) (SqL.of g)).elim
  |@con p xs ds hp rp=>
   cases r2 with
   |@tup _ xs2 ds2 hp2 rp2=>
    cases I.tuple_inj hp.sq (SqT.of hp2);simp only[eqF,kd,eqK]at e;exact lists _ _ _ _ rp rp2 e
   |@con _ xs2 ds2 hp2 rp2=>
    cases I.tuple_inj hp.sq hp2.sq;simp only[eqF,kd,eqK]at e;exact lists _ _ _ _ rp rp2 e
   |@rol _ xs2 ds2 hp2 rp2=>exact(nl hp.sq hp2.sq).elim
   |err _ _ _=>simp[eqF,kd]at e
   |dk _=>simp[eqF,kd]at e
   |dt _=>simp[eqF,kd]at e
   |du _=>simp[eqF,kd]at e
   |fn _=>simp[eqF,kd]at e
   |@ref _ n2 hp2=>
    obtain⟨ys,g⟩:=h.some_at hp2;exact(nl hp.sq (SqL.of g)).elim
  |@rol p xs ds hp rp=>
   cases r2 with
   |@tup _ xs2 ds2 hp2 rp2=>exact(nl (SqT.of hp2) hp.sq).elim
   |@con _ xs2 ds2 hp2 rp2=>exact(nl hp2.sq hp.sq).elim
   |err _ _ _=>simp[eqF,kd]at e
   |dk _=>simp[eqF,kd]at e
   |dt _=>simp[eqF,kd]at e
   |du _=>simp[eqF,kd]at e
   |fn _=>simp[eqF,kd]at e
   |@rol _ xs2 ds2 hp2 rp2=>
    cases I.list_inj hp.sq hp2.sq;simp only[eqF,kd,eqK,if_pos (rp.length.symm.trans rp2.length)]at e;exact lists _ _ _ _ rp rp2 e
   |@ref _ n2 hp2=>
    cases e1:M[n2]? with
    |none=>simp only[eqF,kd,e1]at e;cases e
    |some o=>
     cases o with
     |lst ds2=>
      obtain⟨ys,g,r⟩:=ll hp2 e1;cases I.list_inj hp.sq g;simp only[eqF,kd,e1,eqK,if_pos (rp.length.symm.trans r.length)]at e;exact lists _ _ _ _ rp r e
  |@ref p n1 hp=>
   cases e0:M[n1]? with
   |none=>simp only[eqF,kd,e0]at e;cases e
   |some o0=>
    cases o0 with
    |lst ds=>
     obtain⟨xs,g0,rp⟩:=ll hp e0;cases r2 with
     |@tup _ xs2 ds2 hp2 rp2=>exact(nl (SqT.of hp2) g0).elim
     |@con _ xs2 ds2 hp2 rp2=>exact(nl hp2.sq g0).elim
     |err _ _ _=>simp[eqF,kd,e0]at e
     |dk _=>simp[eqF,kd,e0]at e
     |dt _=>simp[eqF,kd,e0]at e
     |du _=>simp[eqF,kd,e0]at e
     |fn _=>simp[eqF,kd,e0]at e
     |@rol _ xs2 ds2 hp2 rp2=>
      cases I.list_inj g0 hp2.sq;simp only[eqF,kd,e0,eqK,if_pos (rp.length.symm.trans rp2.length)]at e;exact lists _ _ _ _ rp rp2 e
     |@ref _ n2 hp2=>
      cases e1:M[n2]? with
      |none=>simp only[eqF,kd,e0,e1]at e;cases e
      |some o=>
       cases o with
       |lst ds2=>
        obtain⟨ys,g,r⟩:=ll hp2 e1;cases I.list_inj g0 g;simp only[eqF,kd,e0,e1,eqK,if_pos (rp.length.symm.trans r.length)]at e;exact lists _ _ _ _ rp r e
end
end DL
namespace DL
open PyProof.Rows L2
open PySem.SeqAt (EqAt RcAt RcNeAt)
section
variable {X:Cx}{pins:Pn}{σ:L2.St}{H:Hp}{s:aC}{α:List Addr}{M:Sto}
theorem Zf5(v1:Z1 xs1 i1)(v2:Z1 xs2 i2)(r1:Reps X.K H α xs1 ds1)(r2:Reps X.K H α xs2 ds2)(ih:∀(x y:D)(v w:V)(u z:ae)(b:Bool),eqF n M x y=some b->Rep X.K H α v x->Rep X.K H α w y->Z8 v u->Z8 w z->EqAt A s u z b)(e:eqL (eqF n M) ds1 ds2=some b):∃f:Nat->Bool,(∀(j:Nat)(h1:j<i1.toArray.size)(h2:j<i2.toArray.size),EqAt A s i1.toArray[j] i2.toArray[j] (f j))/\b=((aH (min i1.toArray.size i2.toArray.size)).all f&&i1.toArray.size==i2.toArray.size):=by
 obtain⟨g1,g2⟩:=ZhI e;have l1:i1.toArray.size=ds1.length:=by rw[au,<-v1.length,r1.length]
 have l2:i2.toArray.size=ds2.length:=by rw[au,<-v2.length,r2.length]
 refine⟨_,fun j h1 h2=>?_,by rw[l1,l2];exact g2⟩
 have k1:j<ds1.length:=by rw[<-l1];exact h1
 have k2:j<ds2.length:=by rw[<-l2];exact h2
 obtain⟨c,hc⟩:=g1 j _ _ (Gq k1) (Gq k2);obtain⟨v,a1,a2⟩:=r1.get (Gq k1);obtain⟨w,b1,b2⟩:=r2.get (Gq k2);obtain⟨u,a3,a4⟩:=v1.get a1;obtain⟨z,b3,b4⟩:=v2.get b1;have q:=ih _ _ v w u z c hc a2 b2 a4 b4;simp only[af k1,af k2,hc,Option.getD_some];have e1:i1.toArray[j]=u:=by
  have:=aq.mp a3
  obtain⟨_,z⟩:=this
  simpa using z
 have e2:i2.toArray[j]=z:=by
  have:=aq.mp b3
  obtain⟨_,z⟩:=this
  simpa using z
 rw[e1,e2];exact q
theorem ZhJ(I:Inv X pins σ H s)(h:HR X.K H α M)(e:eqF n M x y=some b)(rx:Rep X.K H α v x)(ry:Rep X.K H α w y)(rv:Z8 v (.ref p))(rw':Z8 w (.ref q))(k:RcAt A s (.ref p) (.ref q) b)(k':RcNeAt A s (.ref p) (.ref q) (!b)):Eq3 A s (.ref p) (.ref q) b:=by
 refine⟨?_,k,k'⟩;by_cases c:p=q
 ·subst c;cases Z8.inj rv rw';rw[ZjV I h n rx ry e];exact EqAt.same _
 ·exact EqAt.of_refs c k
theorem eq3(I:Inv X pins σ H s)(h:HR X.K H α M):∀(n:Nat)(x y:D)(v w:V)(u z:ae)(b:Bool)(A:dR),A.units+n<j5->eqF n M x y=some b->Rep X.K H α v x->Rep X.K H α w y->Z8 v u->Z8 w z->Eq3 A s u z b:=by
 intro n
 induction n with
 |zero=>intro x y v w u z b A _ e;simp only[eqF]at e;cases e
 |succ n ih=>
  intro x y v w u z b A hn e rx ry rv rw';have hu:A.units<j5:=by lia
  have e0:=e;unfold eqF at e;cases ka:kd M x with
  |none=>rw[ka]at e;cases e
  |some ka'=>
   cases kb:kd M y with
   |none=>rw[ka,kb]at e;cases e
   |some kb'=>
    rw[ka,kb]at e;have va:=vw I h rx rv ka;have vb:=vw I h ry rw' kb;have deep:∀(x y:D)(v w:V)(u z:ae)(b:Bool),eqF n M x y=some b->Rep X.K H α v x->Rep X.K H α w y->Z8 v u->Z8 w z->EqAt A.in1 s u z b:=fun x y v w u z b e a1 a2 a3 a4=>
     (ih x y v w u z b A.in1 (by rw[dR.in1_units];lia) e a1 a2 a3 a4).1
    cases va with
    |non=>
     cases vb<;>simp only[eqK,aF]at e<;>subst e
     ·exact⟨EqAt.same _,.none_none,.none_none⟩
     ·exact⟨.none_bool _,.none_bool _,.none_bool _⟩
     ·exact⟨.none_int _ _,.none_int _ _,.none_int _ _⟩
     ·exact⟨.none_str _ _,.none_str _ _,.none_str _ _⟩
     ·rename_i g _ _;exact⟨.none_tuple g hu,.none_tuple g hu,.none_tuple g hu⟩
     ·rename_i g _ _;exact⟨.none_list g hu,.none_list g hu,.none_list g hu⟩
    |bl c=>
     cases vb<;>simp only[eqK,aF]at e<;>subst e
     ·exact⟨.bool_none _,.bool_none _,.bool_none _⟩
     ·exact⟨.bool_bool _ _,.bool_bool _ _,.bool_bool _ _⟩
     ·exact⟨.bool_int _ _ _,.bool_int _ _ _,.bool_int _ _ _⟩
     ·exact⟨.bool_str _ _ _,.bool_str _ _ _,.bool_str _ _ _⟩
     ·rename_i g _ _;exact⟨.bool_tuple _ g hu,.bool_tuple _ g hu,.bool_tuple _ g hu⟩
     ·rename_i g _ _;exact⟨.bool_list _ g hu,.bool_list _ g hu,.bool_list _ g hu⟩
    |int c t=>
     cases vb<;>simp only[eqK,aF]at e<;>subst e
     ·exact⟨.int_none _ _,.int_none _ _,.int_none _ _⟩
     ·exact⟨.int_bool _ _ _,.int_bool _ _ _,.int_bool _ _ _⟩
     ·exact⟨.int_int _ _ _ _,.int_int _ _ _ _,.int_int _ _ _ _⟩
     ·exact⟨.int_str _ _ _ _,.int_str _ _ _ _,.int_str _ _ _ _⟩
     ·rename_i g _ _;exact⟨.int_tuple _ _ g hu,.int_tuple _ _ g hu,.int_tuple _ _ g hu⟩
     ·rename_i g _ _;exact⟨.int_list _ _ g hu,.int_list _ _ g hu,.int_list _ _ g hu⟩
    |str c t=>
     cases vb<;>simp only[eqK,aF]at e<;>subst e
     ·exact⟨.str_none _ _,.str_none _ _,.str_none _ _⟩
     ·exact⟨.str_bool _ _ _,.str_bool _ _ _,.str_bool _ _ _⟩
     ·exact⟨.str_int _ _ _ _,.str_int _ _ _ _,.str_int _ _ _ _⟩
     ·exact⟨.str_str _ _ _ _,.str_str _ _ _ _,.str_str _ _ _ _⟩
     ·rename_i g _ _;exact⟨.str_tuple _ _ g hu,.str_tuple _ _ g hu,.str_tuple _ _ g hu⟩
     ·rename_i g _ _;exact⟨.str_list _ _ g hu,.str_list _ _ g hu,.str_list _ _ g hu⟩
    |@tup p xs ds its g1 w1 q1=>
     cases vb with
     |@tup p2 xs2 ds2 its2 g2 w2 q2=>
      simp only[eqK]at e;obtain⟨f,hf,hb⟩:=Zf5 w1 w2 q1 q2 deep e;subst hb;exact ZhJ I h e0 rx ry rv rw' (.tuples g1 g2 hu hf) (.tuples g1 g2 hu hf)
     |@lst p2 xs2 ds2 its2 g2 w2 q2=>
      simp only[eqK,aF]at e;subst e;exact ZhJ I h e0 rx ry rv rw' (.tuple_list g1 g2 hu) (.tuple_list g1 g2 hu)
     |non=>simp only[eqK,aF]at e;subst e;exact⟨.tuple_none g1 hu,.tuple_none g1 hu,.tuple_none g1 hu⟩
     |bl c=>simp only[eqK,aF]at e;subst e;exact⟨.tuple_bool _ g1 hu,.tuple_bool _ g1 hu,.tuple_bool _ g1 hu⟩
     |int c t=>simp only[eqK,aF]at e;subst e;exact⟨.tuple_int _ _ g1 hu,.tuple_int _ _ g1 hu,.tuple_int _ _ g1 hu⟩
     |str c t=>simp only[eqK,aF]at e;subst e;exact⟨.tuple_str _ _ g1 hu,.tuple_str _ _ g1 hu,.tuple_str _ _ g1 hu⟩
    |@lst p xs ds its g1 w1 q1=>
     cases vb with
     |@lst p2 xs2 ds2 its2 g2 w2 q2=>
      simp only[eqK]at e;have l1:its.toArray.size=ds.length:=by rw[au,<-w1.length,q1.length]
      have l2:its2.toArray.size=ds2.length:=by rw[au,<-w2.length,q2.length]
      by_cases c:ds.length=ds2.length
      ·rw[if_pos c]at e;have hs:its.toArray.size=its2.toArray.size:=by rw[l1,l2,c]
       obtain⟨f,hf,hb⟩:=Zf5 w1 w2 q1 q2 deep e;rw[hs,kz,beq_self_eq_true,Bool.and_true,<-hs]at hb;subst hb;exact ZhJ I h e0 rx ry rv rw' (.lists g1 g2 hs hu hf) (.lists g1 g2 hs hu hf)
      ·rw[if_neg c]at e;have e':false=b:=aX e;subst e';have hs:(its.toArray.size != its2.toArray.size)=true:=by rw[l1,l2];simpa using c
       exact ZhJ I h e0 rx ry rv rw' (.lists_lengths g1 g2 hs hu) (.lists_lengths g1 g2 hs hu)
     |@tup p2 xs2 ds2 its2 g2 w2 q2=>
      simp only[eqK,aF]at e;subst e;exact ZhJ I h e0 rx ry rv rw' (.list_tuple g1 g2 hu) (.list_tuple g1 g2 hu)
     |non=>simp only[eqK,aF]at e;subst e;exact⟨.list_none g1 hu,.list_none g1 hu,.list_none g1 hu⟩
     |bl c=>simp only[eqK,aF]at e;subst e;exact⟨.list_bool _ g1 hu,.list_bool _ g1 hu,.list_bool _ g1 hu⟩
     |int c t=>simp only[eqK,aF]at e;subst e;exact⟨.list_int _ _ g1 hu,.list_int _ _ g1 hu,.list_int _ _ g1 hu⟩
     |str c t=>simp only[eqK,aF]at e;subst e;exact⟨.list_str _ _ g1 hu,.list_str _ _ g1 hu,.list_str _ _ g1 hu⟩
end
section
def ZrB(X:Cx)(neg:Bool):R2:=fun v w H Q=>∃α M x y b,HR X.K H α M/\Rep X.K H α v x/\Rep X.K H α w y/\eqF 12 M x y=some b/\Q (.bl (neg ^^ b)) H
theorem ZbU(hu:X.A.units+64<j5):OpR X (eG .Eq) (ZrB X false):=by
 intro pins s σ H v w u z Q I rv rw' ⟨α,M,x,y,b,h,rx,ry,e,q⟩;refine(eq3 I h 12 x y v w u z b X.A (by lia) e rx ry rv rw').2.1 _ _ _ _ ⟨.bl b,H,I,rfl,?_⟩
 simpa using q
theorem Zbo(hu:X.A.units+64<j5):OpR X (eG .NotEq) (ZrB X true):=by
 intro pins s σ H v w u z Q I rv rw' ⟨α,M,x,y,b,h,rx,ry,e,q⟩;refine(eq3 I h 12 x y v w u z b X.A (by lia) e rx ry rv rw').2.2 _ _ _ _ ⟨.bl (!b),H,I,rfl,?_⟩
 simpa using q
def dEq:Bo:=fun x y M=>match eqF 12 M x y with|some b=>.ok (.bl b) M|none=>.bad
def dNe:Bo:=fun x y M=>match eqF 12 M x y with|some b=>.ok (.bl (!b)) M|none=>.bad
theorem ZdX:BO X ξ (ZrB X false) dEq:=by
 intro H α M v w x y Q h rv rw' q;unfold dEq at q;cases e:eqF 12 M x y with
 |none=>rw[e]at q;exact q.elim
 |some b=>rw[e]at q;exact⟨α,M,x,y,b,h,rv,rw',e,by simpa using q _ H α Ext.refl h (.bl b)⟩
theorem ZcH:BO X ξ (ZrB X true) dNe:=by
 intro H α M v w x y Q h rv rw' q;unfold dNe at q;cases e:eqF 12 M x y with
 |none=>rw[e]at q;exact q.elim
 |some b=>rw[e]at q;exact⟨α,M,x,y,b,h,rv,rw',e,by simpa using q _ H α Ext.refl h (.bl (!b))⟩
noncomputable def ZhK:V->Bool
 |.non=>true
 |.bl _=>true
 |_=>false
def rIs(neg:Bool):R2:=fun v w H Q=>ZhK w=true/\Q (.bl (neg ^^ decide (v=w))) H
theorem Zf6(rv:Z8 v u)(rw':Z8 w z)(p:ZhK w=true):plainIs u z=true/\(u==z)=decide (v=w):=by
 cases w with
 |non=>
  cases rw';cases v with
  |non=>cases rv;exact⟨rfl,rfl⟩
  |bl b=>cases rv;exact⟨rfl,by rw[decide_eq_false (fun z=>(nomatch z))];rfl⟩
  |int b=>obtain⟨t,rfl⟩:=rv;exact⟨rfl,by rw[decide_eq_false (fun z=>(nomatch z))];rfl⟩
  |str b=>obtain⟨t,rfl⟩:=rv;exact⟨rfl,by rw[decide_eq_false (fun z=>(nomatch z))];rfl⟩
  |byt b=>obtain⟨t,rfl⟩:=rv;exact⟨rfl,by rw[decide_eq_false (fun z=>(nomatch z))];rfl⟩
  |flt b=>obtain⟨t,rfl⟩:=rv;exact⟨rfl,by rw[decide_eq_false (fun z=>(nomatch z))];rfl⟩
  |ref b=>cases rv;exact⟨rfl,by rw[decide_eq_false (fun z=>(nomatch z))];rfl⟩
  |ty b=>cases rv;exact⟨rfl,by rw[decide_eq_false (fun z=>(nomatch z))];rfl⟩
 |bl c=>
  cases rw';cases v with
  |non=>cases rv;exact⟨rfl,by rw[decide_eq_false (fun z=>(nomatch z))];rfl⟩
  |bl b=>cases rv;refine⟨rfl,?_⟩;cases b<;>cases c<;>rfl
  |int b=>obtain⟨t,rfl⟩:=rv;exact⟨rfl,by rw[decide_eq_false (fun z=>(nomatch z))];rfl⟩
  |str b=>obtain⟨t,rfl⟩:=rv;exact⟨rfl,by rw[decide_eq_false (fun z=>(nomatch z))];rfl⟩
  |byt b=>obtain⟨t,rfl⟩:=rv;exact⟨rfl,by rw[decide_eq_false (fun z=>(nomatch z))];rfl⟩
  |flt b=>obtain⟨t,rfl⟩:=rv;exact⟨rfl,by rw[decide_eq_false (fun z=>(nomatch z))];rfl⟩
  |ref b=>cases rv;exact⟨rfl,by rw[decide_eq_false (fun z=>(nomatch z))];rfl⟩
  |ty b=>cases rv;exact⟨rfl,by rw[decide_eq_false (fun z=>(nomatch z))];rfl⟩
 |_=>cases p
theorem Zez:OpR X (eG .Is) (rIs false):=by
 intro pins s σ H v w u z Q I rv rw' ⟨p,q⟩;obtain⟨h1,h2⟩:=Zf6 rv rw' p;refine wpAny_is_plain h1 ⟨.bl (u==z),H,I,rfl,?_⟩;rw[h2]
 simpa using q
theorem ZhL:OpR X (eG .IsNot) (rIs true):=by
 intro pins s σ H v w u z Q I rv rw' ⟨p,q⟩;obtain⟨h1,h2⟩:=Zf6 rv rw' p;refine wpAny_isNot_plain h1 ⟨.bl (!(u==z)),H,I,rfl,?_⟩;rw[h2]
 simpa using q
noncomputable def isP:D->D->Option Bool
 |.non,.non=>some true
 |.bl a,.bl b=>some (a==b)
 |_,.non=>some false
 |_,.bl _=>some false
 |_,_=>none
def dIs:Bo:=fun x y M=>match isP x y with|some b=>.ok (.bl b) M|none=>.bad
def dIsNot:Bo:=fun x y M=>match isP x y with|some b=>.ok (.bl (!b)) M|none=>.bad
theorem Zk3{K:Fg}(rv:Rep K H α v x)(rw':Rep K H α w y)(e:isP x y=some b):ZhK w=true/\decide (v=w)=b:=by
 unfold isP at e
 split at e
 ·cases rv;cases rw';cases e;exact⟨rfl,rfl⟩
 ·rename_i c d;cases rv;cases rw';cases e;refine⟨rfl,?_⟩;cases c<;>cases d<;>rfl
 ·rename_i hx;cases rw';cases e;refine⟨rfl,decide_eq_false fun z=>?_⟩;subst z;cases rv;exact hx rfl
 ·rename_i c hx;cases rw';cases e;refine⟨rfl,decide_eq_false fun z=>?_⟩;subst z;cases rv;exact hx _ rfl
 ·cases e
theorem ZhM:BO X ξ (rIs false) dIs:=by
 intro H α M v w x y Q h rv rw' q;unfold dIs at q;cases e:isP x y with
 |none=>rw[e]at q;exact q.elim
 |some b=>
  rw[e]at q;obtain⟨p,d⟩:=Zk3 rv rw' e;exact⟨p,by rw[d];simpa using q _ H α Ext.refl h (.bl b)⟩
theorem ZjW:BO X ξ (rIs true) dIsNot:=by
 intro H α M v w x y Q h rv rw' q;unfold dIsNot at q;cases e:isP x y with
 |none=>rw[e]at q;exact q.elim
 |some b=>
  rw[e]at q;obtain⟨p,d⟩:=Zk3 rv rw' e;exact⟨p,by rw[d];simpa using q _ H α Ext.refl h (.bl (!b))⟩
noncomputable def Zo3:D->Bool
 |.non=>true
 |.bl _=>true
 |.int _=>true
 |.str _=>true
 |_=>false
noncomputable def Zu5:D->D->Bool
 |.non,.non=>true
 |.bl a,.bl b=>a==b
 |.bl a,.int b=>(if a then 1 else 0)==b
 |.int a,.bl b=>a==(if b then 1 else 0)
 |.int a,.int b=>a==b
 |.str a,.str b=>a==b
 |_,_=>false
noncomputable def ZgY(M:Sto):D->Option (List D)
 |.tup xs=>some xs
 |.rol xs=>some xs
 |.con xs=>some xs
 |.ref n=>match M[n]? with|some (.lst xs)=>some xs|_=>none
 |_=>none
theorem ZhN{K:Fg}(h:HR K H α M)(r:Rep K H α v x)(e:ZgY M x=some ds):∃p xs,v=.ref p/\(SqL K H p xs\/SqT K H p xs)/\Reps K H α xs ds:=by
 cases r with
 |@tup p xs ds hp rp=>cases e;exact⟨p,xs,rfl,.inr (SqT.of hp),rp⟩
 |@con p xs ds hp rp=>cases e;exact⟨p,xs,rfl,.inr hp.sq,rp⟩
 |@rol p xs ds hp rp=>cases e;exact⟨p,xs,rfl,.inl hp.sq,rp⟩
 |@ref p n hp=>
  cases e1:M[n]? with
  |none=>simp only[ZgY,e1]at e;cases e
  |some o=>
   cases o with
   |lst es=>
    simp only[ZgY,e1]at e;cases e;obtain⟨xs,g1,r1⟩:=h.at hp e1;exact⟨p,xs,rfl,.inl (SqL.of g1),r1⟩
 |_=>cases e
def inD(x y:D)(M:Sto):Option Bool:=match ZgY M y with|some ds=>if Zo3 x=true/\ds.all Zo3=true then some (ds.any fun y=>Zu5 y x)else none|none=>none
variable {x:Str}{id T:String}{r:List V->Hp->VK->Prop}
def Zj(f:W3)(fs:Av):Ev:=fun ρ M=>(fs ρ M).bind f
def CO(X:Cx)(ξ:XK)(r:List V->Hp->VK->Prop)(f:W3):Prop:=∀H α M vs ds Q,HR X.K H α M->Reps X.K H α vs ds->OP X.K H α ξ Q (f ds M)->r vs H Q
theorem Zl(hc:ZbS X (.builtin id) r)(hf:CO X ξ r f)(hm:X.mg x=none)(hv:bM x=some (.builtin id))(ha:DA X ξ (e::es) fs)(hg:autoParam (Gl X x) Qrf._auto_1)(hn:autoParam (x≠"__name__") Qde._auto_1)(hdb:autoParam ((x==("__debug__":Str))=false) Qde._auto_1)
  (he:av (e::es) X.env=(false,eval e X.env)::av es X.env:=by rfl) (hpl:(db pos (av es X.env)).any (·.1)=false:=by rfl):DE X ξ (.Call (.Name x p) (e::es) [] pos) (Zj f fs):=by
 obtain⟨ta,ha,qa⟩:=ha;refine⟨_,Zf0 hc hg hm hv ha hn hdb he hpl,fun σ ρ H α M Q s h q=>?_⟩;exact qa σ ρ H α M _ s h (OG.seq q fun ds M1 vs H1 α1 e1 h1 r1 q1=>hf H1 α1 M1 vs ds Q h1 r1 q1)
theorem ZeA(hc:ZbS X (.type T) r)(hf:CO X ξ r f)(hm:X.mg x=none)(hv:bM x=some (.type T))(ha:DA X ξ (e::es) fs)(hg:autoParam (Gl X x) Qrf._auto_1)(hn:autoParam (x≠"__name__") Qde._auto_1)(hdb:autoParam ((x==("__debug__":Str))=false) Qde._auto_1)
  (he:av (e::es) X.env=(false,eval e X.env)::av es X.env:=by rfl) (hpl:(db pos (av es X.env)).any (·.1)=false:=by rfl):DE X ξ (.Call (.Name x p) (e::es) [] pos) (Zj f fs):=by
 obtain⟨ta,ha,qa⟩:=ha;refine⟨_,Zhs hc hg hm hv ha hn hdb he hpl,fun σ ρ H α M Q s h q=>?_⟩;exact qa σ ρ H α M _ s h (OG.seq q fun ds M1 vs H1 α1 e1 h1 r1 q1=>hf H1 α1 M1 vs ds Q h1 r1 q1)
def bLen:W3:=fun ds M=>match ds with
 |[x]=>match ZgY M x with|some xs=>.ok (.int xs.length) M|none=>.bad
 |_=>.bad
theorem ZZ:CO X ξ (fun xs H Q=>∃p ys,xs=[.ref p]/\(SqL X.K H p ys\/SqT X.K H p ys)/\Q (.int ys.length) H) bLen:=by
 intro H α M vs ds Q h rs q;unfold bLen at q;cases rs with
 |nil=>exact q.elim
 |@cons v x vs ds r t=>
  cases t with
  |cons _ _=>exact q.elim
  |nil=>
  cases e:ZgY M x with
  |none=>simp only[e]at q;exact q.elim
  |some ys=>
   simp only[e]at q;obtain⟨p,xs,rfl,h2,h3⟩:=ZhN h r e;exact⟨p,xs,rfl,h2,by rw[h3.length];exact q _ H α Ext.refl h (.int _)⟩
noncomputable def bAbs:W3:=fun ds M=>match ds with|[.int i]=>.ok (.int (if i<0 then -i else i)) M|_=>.bad
theorem ZdA:CO X ξ (fun xs H Q=>∃i,xs=[.int i]/\Q (.int (if i<0 then -i else i)) H) bAbs:=by
 intro H α M vs ds Q h rs q;unfold bAbs at q
 split at q
 ·cases rs with
  |cons r t=>
   cases t;cases r;exact⟨_,rfl,q _ H α Ext.refl h (.int _)⟩
 ·exact q.elim
noncomputable def bMax:W3:=fun ds M=>match ds with|[.int i,.int j]=>.ok (.int (if j>i then j else i)) M|_=>.bad
noncomputable def bMin:W3:=fun ds M=>match ds with|[.int i,.int j]=>.ok (.int (if j<i then j else i)) M|_=>.bad
theorem Zk4{g:Int->Int->Int}(hf:∀ds M,f ds M=match ds with|[.int i,.int j]=>.ok (.int (g i j)) M|_=>.bad):CO X ξ (fun xs H Q=>∃i j,xs=[.int i,.int j]/\Q (.int (g i j)) H) f:=by
 intro H α M vs ds Q h rs q;rw[hf]at q
 split at q
 ·rename_i i j;cases rs with
  |cons r t=>
   cases t with
   |cons r' t'=>
    cases t';cases r;cases r';exact⟨i,j,rfl,q _ H α Ext.refl h (.int _)⟩
 ·exact q.elim
theorem Zo4:CO X ξ (fun xs H Q=>∃i j,xs=[.int i,.int j]/\Q (.int (if j>i then j else i)) H) bMax:=Zk4 (g:=fun i j=>if j>i then j else i) fun ds M=>rfl
theorem Zo5:CO X ξ (fun xs H Q=>∃i j,xs=[.int i,.int j]/\Q (.int (if j<i then j else i)) H) bMin:=Zk4 (g:=fun i j=>if j<i then j else i) fun ds M=>rfl
noncomputable def Zr4:W3:=fun ds M=>match ds with|[.int i]=>.ok (.int i) M|[.bl k]=>.ok (.int (if k then 1 else 0)) M|_=>.bad
def bList:W3:=fun ds M=>match ds with
 |[x]=>match ZgY M x with|some xs=>.ok (.ref M.length) (M++[.lst xs])|none=>.bad
 |_=>.bad
theorem Zmz:CO X ξ (fun xs H Q=>∃p ys,xs=[.ref p]/\(SqL X.K H p ys\/SqT X.K H p ys)/\∀l,H l=none->Q (.ref l) (upd H l (.lst ys))) bList:=by
 intro H α M vs ds Q h rs q;unfold bList at q;cases rs with
 |nil=>exact q.elim
 |@cons v x vs ds r t=>
  cases t with
  |cons _ _=>exact q.elim
  |nil=>
  cases e:ZgY M x with
  |none=>simp only[e]at q;exact q.elim
  |some ys=>
   simp only[e]at q;obtain⟨p,xs,rfl,h2,h3⟩:=ZhN h r e;exact⟨p,xs,rfl,h2,fun l hl=>q _ _ (α++[l]) (Ext.new hl) (h.new hl h3) (.ref ⟨h.last l,Kn.lst Zy⟩)⟩
def ZaZ(M:Sto)(x:D):Option String:=match kd M x with
 |some .non=>some "NoneType"
 |some (.bl _)=>some "bool"
 |some (.int _)=>some "int"
 |some (.str _)=>some "str"
 |some (.tup _)=>some "tuple"
 |some (.lst _)=>some "list"
 |none=>none
noncomputable def ZcL(t T:String):Bool:=t==T||(t=="bool"&&T=="int")
def Zjy(T:String)(f:Ev):Ev:=fun ρ M=>(f ρ M).bind fun x M1=>match ZaZ M1 x with|some t=>.ok (.bl (ZcL t T)) M1|none=>.bad
def Zu6(X:Cx)(T:String):List V->Hp->VK->Prop:=fun vs H Q=>∃v α M x t,vs=[v,.ty T]/\HR X.K H α M/\Rep X.K H α v x/\ZaZ M x=some t/\Q (.bl (ZcL t T)) H
structure Kit(K:Fg) (T:String):Prop where
 non:PySem.W.kitOne K (.type "NoneType") (.type T)=some (ZcL "NoneType" T)
 bl:PySem.W.kitOne K (.type "bool") (.type T)=some (ZcL "bool" T)
 int:PySem.W.kitOne K (.type "int") (.type T)=some (ZcL "int" T)
 str:PySem.W.kitOne K (.type "str") (.type T)=some (ZcL "str" T)
 tup:PySem.W.kitOne K (.type "tuple") (.type T)=some (ZcL "tuple" T)
 lst:PySem.W.kitOne K (.type "list") (.type T)=some (ZcL "list" T)
theorem ZhO{K:Fg}:Kit K "int":=⟨rfl,rfl,rfl,rfl,rfl,rfl⟩
theorem Zf7{K:Fg}:Kit K "bool":=⟨rfl,rfl,rfl,rfl,rfl,rfl⟩
theorem ZhP{K:Fg}:Kit K "tuple":=⟨rfl,rfl,rfl,rfl,rfl,rfl⟩
theorem ZjX{K:Fg}:Kit K "list":=⟨rfl,rfl,rfl,rfl,rfl,rfl⟩
theorem ZjY(kt:Kit X.K T):ZbS X (.builtin "isinstance") (Zu6 X T):=by
 intro pins s σ H vs us Q I rs ⟨v,α,M,x,t,e1,h,rx,et,q⟩;subst e1;obtain⟨u,w,rfl,ru,rw'⟩:=ZjK rs;cases rw';unfold ZaZ at et;cases ek:kd M x with
 |none=>rw[ek]at et;cases et
 |some k=>
  rw[ek]at et;have va:=vw I h rx ru ek;have fin:∀tk,EP X pins σ Q (.bool (ZcL t T)) {s with toks:=tk}:=fun tk=>⟨.bl _,H,I.tok tk,rfl,q⟩;cases va with
  |non=>cases et;exact PySem.W.kia_one PySem.W.kitx_none I.kIn eU kt.non (fun z=>nomatch z) fin
  |bl b=>cases et;exact PySem.W.kia_one PySem.W.kitx_bool I.kIn eU kt.bl (fun z=>nomatch z) fin
  |int i t=>cases et;exact PySem.W.kia_one PySem.W.kitx_int I.kIn eU kt.int (fun z=>nomatch z) fin
  |str i t=>cases et;exact PySem.W.kia_one PySem.W.kitx_str I.kIn eU kt.str (fun z=>nomatch z) fin
  |tup g _ _=>cases et;obtain⟨o,h1,h2,_⟩:=g;exact PySem.W.kia_one PySem.W.kitx_tuple I.kIn ⟨o,h1,h2⟩ kt.tup (fun z=>nomatch z) fin
  |lst g _ _=>cases et;obtain⟨o,h1,h2,_⟩:=g;exact PySem.W.kia_one PySem.W.kitx_list I.kIn ⟨o,h1,h2⟩ kt.lst (fun z=>nomatch z) fin
theorem ZdB(kt:Kit X.K T)(hm:X.mg "isinstance"=none)(hmT:X.mg y=none)(hvT:bM y=some (.type T))(ha:DE X ξ e fa)(hg:autoParam (Gl X "isinstance") Qrf._auto_1)(hgT:autoParam (Gl X y) Qrf._auto_1)(hn:autoParam (y≠"__name__") Qde._auto_1)(hdb:autoParam ((y==("__debug__":Str))=false) Qde._auto_1)(he:autoParam (av [e,.Name y p2] X.env=(false,eval e X.env)::av [.Name y p2] X.env) Qrf._auto_1)(he2:autoParam (av [.Name y p2] X.env=(false,eval (.Name y p2) X.env)::av [] X.env) Qrf._auto_1)(hpl:autoParam ((db pos (av [.Name y p2] X.env)).any (·.1)=false) Qrf._auto_1):DE X ξ (.Call (.Name "isinstance" p) [e,.Name y p2] [] pos) (Zjy T fa):=by
 obtain⟨ta,ha,qa⟩:=ha;refine⟨_,Zf0 (ZjY kt) hg hm (by with_unfolding_all rfl) (Zfd ha (Zfd (Zl5 hgT hmT hvT (v:=.ty T) rfl hn hdb) ZkW he2) he) (by decide) (by decide) he hpl,fun σ ρ H α M Q s h q=>?_⟩
 refine qa σ ρ H α M _ s h (OG.seq q fun x M1 v H1 α1 e1 h1 r1 q1=>?_);cases et:ZaZ M1 x with
 |none=>simp only[et]at q1;exact q1.elim
 |some t=>
  simp only[et]at q1;exact⟨v,α1,M1,x,t,rfl,h1,r1,et,q1 _ H1 α1 Ext.refl h1 (.bl _)⟩
end
end DL
namespace DL
open PyProof.Rows L2
def CXE(P:cH)(w:c8):CXT:=fun outer H s E e s'=>∃(ea C:Addr) (dct:Option Addr) (B:Heap) (H':Hp),e=.ref ea/\s'.os=s.os/\iO s'.gens/\Un (frs outer) [] H H' s.heap s'.heap/\HOk P w H' s'.heap/\
 DQ.Fly B outer ea (.ref C) dct .none s'.heap/\(∀b u,H' b=some u->∃o,B.get? b=some o)/\(∀b o,s.heap.get? b=some o->b∉frs outer->∃o',B.get? b=some o')/\E (.ref C) dct H'
structure Thr(X:Cx) (ξ:XK):Prop where
 own:fG (az X.prog X.w) X.A X.env X.xe
 ps:Zhq (CXE X.prog X.w) X ξ
 mak:∀(pins:Pn)(σ:L2.St)(H H':Hp)(s s':aC)(e:Addr)(oe:Obj)(vs:Array ae)(C:Addr),Inv X pins σ H s->s'.os=s.os->iO s'.gens->Un (frs X.stack) [] H H' s.heap s'.heap->HOk X.prog X.w H' s'.heap->s.heap.get? e=none->s'.heap.get? e=some oe->oe.cls=.ref C->
  oe.data=.fields vs->vs[1]?=some .none->vs[2]?=some .none->H' e=none->ξ (.ref C) oe.dict H'->X.xe (.ref e) s'
theorem ZeB{h b1 b2:Heap}:∀{l:List Env},h.FunFrames b1 l->(∀b∈frs l,b2.get? b=none)->h.FunFrames b2 l
 |[],_,_=>trivial
 |env::r,⟨h1,⟨L,o,h2,h3,h4,h5⟩,h6⟩,k=>⟨h1,⟨L,o,h2,k L (by unfold frs;rw[dG,h2];exact bX),h4,h5⟩,ZeB h6 fun b hb=>k b (by
   unfold frs;rw[dG,h2];exact aG _ hb)⟩
section
variable {h2 B:Heap}
theorem Zk5(hx:X.ex=[])(I:Inv X pins σ H s)(u:Un (frs X.stack) [] H H' s.heap h1)(hok:HOk X.prog X.w H' h1)(t1:∀b q,H' b=some q->∃o,B.get? b=some o)(t2:∀b o,s.heap.get? b=some o->b∉frs X.stack->∃o',B.get? b=some o')(st1:B.StaysIn h1)(st2:B.StaysIn h2)(up:h1.UpToSlots h2):Un X.fs [] X.H₀ H' X.s₀.heap h2/\HOk X.prog X.w H' h2/\∀b o,X.s₀.heap.get? b=some o->b∉X.fs->∃o',B.get? b=some o':=by
 have kB:∀b ob o,B.get? b=some ob->h1.get? b=some o->h2.get? b=some o:=fun b ob o e x=>by
  have z:=st1 b ob e;rw[x]at z;cases z;exact st2 b _ e
 have nx:∀b,b∉X.ex:=fun b=>by rw[hx];simp
 have nL:∀b o,X.s₀.heap.get? b=some o->b∉X.fs->b∉frs X.stack:=fun b o e n z=>by
  rcases ar.mp (I.stkSub b z)with q|q
  ·exact absurd (Hz e) (by rw[q];exact gf I.ok.above)
  ·exact n q
 have th:∀b o,X.s₀.heap.get? b=some o->b∉X.fs->∃o',B.get? b=some o':=fun b o e n=>by
  obtain⟨o',e'⟩:=I.base.there b o e (nx b);exact t2 b o' e' (nL b o e n)
 have sl:∀b o,X.s₀.heap.get? b=some o->X.H₀ b=none->b∈X.fs->∃sl,h2.get? b=some {o with slots:=sl}:=fun b o e n hb=>by
  obtain⟨s1,e1⟩:=I.base.slot b o e n hb (nx b);obtain⟨s2,e2⟩:=u.any e1 (I.base.free b o e n (nx b)) (by simp)
  obtain⟨_,o',g1,g2⟩:=I.ok.funs.mem hb;rw[e]at g1;cases g1;obtain⟨s3,e3⟩:=up b _ e2 g2;exact⟨s3,e3⟩
 refine⟨⟨fun b o e n hb _=>?_,fun b o e n hb _=>sl b o e n hb,fun b o e n _=>?_,fun b o e _=>?_,fun b xs e=>u.tups b xs (I.base.tups b xs e),fun b o xs e=>u.frzs b o xs (I.base.frzs b o xs e),fun b ps e=>?_⟩,fun a o e=>?_,th⟩
 ·obtain⟨ob,g⟩:=th b o e hb;exact kB b ob o g (u.keep b o (I.base.keep b o e n hb (nx b)) (I.base.free b o e n (nx b)) (nL b o e hb) (by simp))
 ·obtain⟨o',e'⟩:=I.base.there b o e (nx b);exact u.free b o' e' (I.base.free b o e n (nx b)) (by simp)
 ·by_cases hb:b∈X.fs
  ·obtain⟨s1,e1⟩:=sl b o e (I.ok.frf b hb) hb;exact⟨_,e1⟩
  ·obtain⟨ob,g⟩:=th b o e hb;exact⟨ob,st2 b ob g⟩
 ·obtain⟨m1,e1⟩:=I.base.tbls b ps e;obtain⟨m2,e2⟩:=u.tbls b _ e1;exact⟨m1++m2,by rw[e2,Array.append_assoc]⟩
 ·refine(hok a o e).stay (fun b q hb x=>?_) (fun _ q=>q) fun _ _ q=>q;have tr:∃q,H' b=some q:=by
   rcases hb with z|z
   ·exact⟨o,z▸e⟩
   ·exact⟨_,z⟩
  obtain⟨q',z⟩:=tr;obtain⟨ob,g⟩:=t1 b q' z;exact kB b ob q g x
end
theorem Zf8(x:ZaW P w H h a o):∃ob,h.get? a=some ob:=by
 cases o with
 |lst xs=>obtain⟨_,_,_,_,e⟩:=x;exact⟨_,e⟩
 |tup xs=>obtain⟨_,_,_,ob,e,_⟩:=x;exact⟨_,e⟩
 |dK kvs=>obtain⟨_,_,_,_,o,_,_,e,_⟩:=x;exact⟨_,e⟩
 |dT kvs=>obtain⟨_,_,_,_,o,_,_,e,_⟩:=x;exact⟨_,e⟩
 |dU kvs=>obtain⟨_,_,_,_,o,_,_,e,_⟩:=x;exact⟨_,e⟩
 |set S n=>obtain⟨o,_,_,_,e,_⟩:=x;exact⟨_,e⟩
 |ins C dx fs=>obtain⟨_,_,_,e,_⟩:=x;exact⟨_,e⟩
 |own y=>exact x
 |xd fs=>obtain⟨_,⟨_,_,_,e,_⟩,_⟩:=x;exact⟨_,e⟩
 |rng lo hi=>obtain⟨_,_,_,e⟩:=x;exact⟨_,e⟩
 |frz ob u=>obtain⟨e,_⟩:=x;exact⟨_,e⟩
 |tbl ps=>exact⟨_,x.1⟩
 |met f y=>exact⟨_,(show h.get? a=some _ from x)⟩
 |ext φ=>obtain⟨_,e,_⟩:=x;exact e
def ZjZ(h:Heap)(l:List Addr):Heap:=Zjv h fun b=>if b∈l then some (.own 0)else none
theorem Zf9(e:h.get? b=some o)(n:b∉l):(ZjZ h l).get? b=some o:=ZfU e (if_neg n)
theorem ZhQ(e:(ZjZ h l).get? b=some o):h.get? b=some o/\b∉l:=by
 obtain⟨a,n⟩:=Zhi e;refine⟨a,fun z=>?_⟩;simp only[if_pos z]at n;cases n
theorem ZeC(n:b∈l):(ZjZ h l).get? b=none:=by
 cases q:(ZjZ h l).get? b with
 |none=>rfl
 |some o=>exact absurd n (ZhQ q).2
theorem ZeD{h h' b1:Heap}:∀{l:List Env},h.FunFrames b1 l->(∀b o,b∈frs l->h.get? b=some o->∃o',h'.get? b=some o'/\o'.data=o.data)->h'.FunFrames b1 l
 |[],_,_=>trivial
 |env::r,⟨h1,⟨L,o,h2,h3,h4,h5⟩,h6⟩,k=>by
  have m:frs (env::r)=L::frs r:=by unfold frs;rw[dG,h2]
  obtain⟨o',g1,g2⟩:=k L o (by rw[m];exact bX) h4
  exact⟨h1,⟨L,o',h2,h3,g1,fun vs=>g2▸h5 vs⟩,ZeD h6 fun b o hb=>k b o (by rw[m];exact aG _ hb)⟩
theorem ZhR{s':aC}(I:Inv X pins σ H s)(un:Un (frs X.stack) [] H H' s.heap s'.heap)(hok:HOk X.prog X.w H' s'.heap)(hn:s.heap.get? e=none)(he:s'.heap.get? e=some oe)(hne:H' e=none):(∀b u,H' b=some u->∃o,(ZjZ s'.heap (e::frs X.stack)).get? b=some o)/\(∀b o,s.heap.get? b=some o->b∉frs X.stack->∃o',(ZjZ s'.heap (e::frs X.stack)).get? b=some o')/\(ZjZ s'.heap (e::frs X.stack)).StaysIn s'.heap/\s'.heap.FunFrames (ZjZ s'.heap (e::frs X.stack)) X.stack/\(ZjZ s'.heap (e::frs X.stack)).get? e=none:=by
 have nfr:∀b∈frs X.stack,H' b=none:=fun b hb=>by
  obtain⟨_,o',g1,g2⟩:=I.stack.mem hb;exact un.free b o' g1 (I.stkFree b hb) (by simp)
 refine⟨fun b u x=>?_,fun b o x n=>?_,fun b o x=>(ZhQ x).1,ZeD (ZeB I.stack fun b hb=>ZeC (aG _ hb)) fun b o hb x=>?_,ZeC (by simp)⟩
 ·obtain⟨o,g⟩:=Zf8 (hok b u x);refine⟨o,Zf9 g fun z=>?_⟩;rcases ar.mp z with z|z
  ·rw[z,hne]at x;cases x
  ·rw[nfr b z]at x;cases x
 ·obtain⟨o',g⟩:=un.there b o x (by simp)
  refine⟨o',Zf9 g fun z=>?_⟩;rcases ar.mp z with z|z
  ·rw[z,hn]at x;cases x
  ·exact n z
 ·obtain⟨sl,g⟩:=un.any x (I.stkFree b hb) (by simp)
  exact⟨_,g,rfl⟩
theorem Zk6{K:Fg}:Thr (ZfY (CXE P w) P w K mg base N qual scope f cd A outer s H E) E:=by
 refine⟨fG.leaving,fun pins σ H1 s1 e s2 I h=>?_,fun pins σ H1 H' s1 s' e oe vs C I os bare un hok hn he hc hd v1 v2 hne q=>?_⟩
 ·obtain⟨ea,C,dct,B,H2,rfl,os,bare,un,hok,fl,t1,t2,q⟩:=h;refine DQ.ZhB (outer:=outer) I.ok.frames rfl fl fun h3 f3 up=>?_;obtain⟨a1,a2,a3⟩:=Zk5 rfl I un hok t1 t2 fl.stay f3.stay up;exact⟨ea,C,dct,B,H2,rfl,os.trans I.os,bare,a1,a2,f3,t1,a3,q⟩
 ·obtain⟨t1,t2,hs,hl,hb⟩:=ZhR I un hok hn he hne;refine DQ.ZhC (s:=s') (outer:=outer) I.ok.frames rfl hl he hs hb hd v1 v2 fun h3 f3 up=>?_;obtain⟨a1,a2,a3⟩:=Zk5 rfl I un hok t1 t2 hs f3.stay up;rw[hc]at f3;exact⟨e,C,oe.dict,_,H',rfl,os.trans I.os,bare,a1,a2,f3,t1,a3,q⟩
end DL
namespace DL
open PyProof.Rows L2
def FP(K:Fg)(H:Hp)(α:List Addr)(ξ:XK)(Dn:Ends):Fl->Prop
 |.nx ρ' M'=>∀σ' H' α',Ext K H H' α α'->HR K H' α' M'->SR K H' α' σ' ρ'->Dn.nx σ' H'
 |.brk ρ' M'=>∀σ' H' α',Ext K H H' α α'->HR K H' α' M'->SR K H' α' σ' ρ'->Dn.bk σ' H'
 |.cnt ρ' M'=>∀σ' H' α',Ext K H H' α α'->HR K H' α' M'->SR K H' α' σ' ρ'->Dn.ct σ' H'
 |.ret d M'=>∀v H' α',Ext K H H' α α'->HR K H' α' M'->Rep K H' α' v d->Dn.rt v H'
 |.exc c M'=>∀C H' α',PySem.W.nsIn K aO c=some (some (.ref C))->Ext K H H' α α'->∀dct,XO K H' α' c M' dct->ξ (.ref C) dct H'
 |.bad=>False
theorem FP.ext{K:Fg}(h:FP K H α ξ Dn o)(e:Ext K H H1 α α1):FP K H1 α1 ξ Dn o:=by
 cases o with
 |nx ρ M=>exact fun σ' H' α' e'=>h σ' H' α' (e.trans e')
 |brk ρ M=>exact fun σ' H' α' e'=>h σ' H' α' (e.trans e')
 |cnt ρ M=>exact fun σ' H' α' e'=>h σ' H' α' (e.trans e')
 |ret d M=>exact fun v H' α' e'=>h v H' α' (e.trans e')
 |exc c M=>exact fun C H' α' n e'=>h C H' α' n (e.trans e')
 |bad=>exact h
def DS(X:Cx)(ξ:XK)(st:Stmt)(g:Sv):Prop:=∃t:TS,PS X st t/\∀σ ρ H α M Dn,SR X.K H α σ ρ->HR X.K H α M->FP X.K H α ξ Dn (g ρ M)->t Dn σ H
def DSs(X:Cx)(ξ:XK)(st:List Stmt)(g:Sv):Prop:=∃t:TS,PSs X st t/\∀σ ρ H α M Dn,SR X.K H α σ ρ->HR X.K H α M->FP X.K H α ξ Dn (g ρ M)->t Dn σ H
noncomputable def ZaF(o:Out β)(k:β->Sto->Fl):Fl:=match o with
 |.ok a M=>k a M
 |.exc c M=>.exc c M
 |.bad=>.bad
theorem FP.seq{K:Fg}{R:Hp->List Addr->γ->β->Prop}{Q1:γ->Hp->Prop}{o:Out β}{f:β->Sto->Fl}(h:FP K H α ξ Dn (ZaF o f))(k:∀d M' v H' α',Ext K H H' α α'->HR K H' α' M'->R H' α' v d->FP K H' α' ξ Dn (f d M')->Q1 v H'):OG K R H α ξ Q1 o:=by
 cases o with
 |ok d M'=>exact fun v H' α' e hr r=>k d M' v H' α' e hr r (FP.ext (o:=f d M') h e)
 |exc c M'=>exact h
 |bad=>exact h
noncomputable def ZB(g h:Sv):Sv:=fun ρ M=>match g ρ M with
 |.nx ρ1 M1=>h ρ1 M1
 |o=>o
noncomputable def sNil:Sv:=fun ρ M=>.nx ρ M
def Z9(f:Ev):Sv:=fun ρ M=>ZaF (f ρ M) fun d M1=>.ret d M1
noncomputable def Zo6:Sv:=fun _ M=>.ret .non M
def Za4(f:Ev):Sv:=fun ρ M=>ZaF (f ρ M) fun _ M1=>.nx ρ M1
def sIf(c:Tv)(g h:Sv):Sv:=fun ρ M=>ZaF (c ρ M) fun k M1=>if k=true then g ρ M1 else h ρ M1
noncomputable def sBrk:Sv:=fun ρ M=>.brk ρ M
abbrev Tg:=D->Ro->Option Ro
abbrev Tgs:=List D->Ro->Option Ro
noncomputable def gNm(i:Nat):Tg:=fun d ρ=>some (ρ.set i (some d))
noncomputable def gNl:Tgs:=fun ds ρ=>match ds with|[]=>some ρ|_=>none
noncomputable def gCs(g:Tg)(gs:Tgs):Tgs:=fun ds ρ=>match ds with|d::r=>(match g d ρ with|some ρ1=>gs r ρ1|none=>none)|[]=>none
noncomputable def gTp(gs:Tgs):Tg:=fun d ρ=>match d with|.tup ds=>gs ds ρ|_=>none
def ZJ(g:Tg)(f:Ev):Sv:=fun ρ M=>ZaF (f ρ M) fun d M1=>match g d ρ with|some ρ1=>.nx ρ1 M1|none=>.bad
def Zfh(i j:Nat)(fs:Av):Sv:=fun ρ M=>ZaF (fs ρ M) fun ds M1=>match ds with|[v,w]=>.nx ((ρ.set i (some v)).set j (some w)) M1|_=>.bad
def Zu7(fo fi fe:Ev):Sv:=fun ρ M=>ZaF (fe ρ M) fun d M1=>ZaF (fo ρ M1) fun o M2=>ZaF (fi ρ M2) fun i M3=>match o,i with
 |.ref n,.int k=>(match M3[n]? with
  |some (.lst xs)=>(match ixN xs.length k with|some j=>.nx ρ (M3.set n (.lst (xs.set j d)))|none=>.bad)
  |_=>.bad)
 |_,_=>.bad
section
variable {X:Cx}{ξ:XK}{st:Stmt}{g:Sv}{e:Expr}{f:Ev}{c:Expr}
theorem Zz:DSs X ξ [] sNil:=⟨_,Zl6,fun σ ρ H α M Dn s h q=>q σ H α Ext.refl h s⟩
theorem Zg(h1:DS X ξ st g)(h2:DSs X ξ sts h):DSs X ξ (st::sts) (ZB g h):=by
 obtain⟨t1,p1,q1⟩:=h1;obtain⟨t2,p2,q2⟩:=h2;refine⟨_,ZjE p1 p2,fun σ ρ H α M Dn s hh q=>q1 σ ρ H α M {Dn with nx:=t2 Dn} s hh ?_⟩;unfold ZB at q;cases e:g ρ M with
 |nx ρ1 M1=>rw[e]at q;exact fun σ' H' α' ex hr sr=>q2 σ' ρ1 H' α' M1 Dn sr hr (FP.ext q ex)
 |brk ρ1 M1=>rw[e]at q;exact q
 |cnt ρ1 M1=>rw[e]at q;exact q
 |ret d M1=>rw[e]at q;exact q
 |exc c M1=>rw[e]at q;exact q
 |bad=>rw[e]at q;exact q
theorem Zh(h1:DS X ξ st g):DSs X ξ [st] g:=let ⟨_,p,q⟩:=h1;⟨_,Zl7 p,q⟩
theorem Zx(he:DE X ξ e f):DS X ξ (.Return (some e) pos) (Z9 f):=by
 obtain⟨t,p,q⟩:=he;exact⟨_,Zoq p,fun σ ρ H α M Dn s hh w=>q σ ρ H α M _ s hh (FP.seq w fun d M1 v H1 α1 e1 h1 r1 w1=>w1 v H1 α1 Ext.refl h1 r1)⟩
theorem Zah(he:DE X ξ e f)(hs:autoParam (jh e none pos.line X.env=pure false) Qrf._auto_1):DS X ξ (.Expr e pos) (Za4 f):=by
 obtain⟨t,p,q⟩:=he;exact⟨_,Zl8 p hs,fun σ ρ H α M Dn s hh w=>q σ ρ H α M _ s hh (FP.seq w fun d M1 v H1 α1 e1 h1 r1 w1=>w1 σ H1 α1 Ext.refl h1 (s.mono e1))⟩
theorem ZP(hc:DT X ξ c fc)(ha:DSs X ξ a g)(hb:DSs X ξ b h):DS X ξ (.If c a b pos) (sIf fc g h):=by
 obtain⟨tc,pc,qc⟩:=hc;obtain⟨ta,pa,qa⟩:=ha;obtain⟨tb,pb,qb⟩:=hb;refine⟨_,ZrN pc pa pb,fun σ ρ H α M Dn s hh w=>qc σ ρ H α M _ s hh (FP.seq w fun k M1 v H1 α1 e1 h1 r1 w1=>?_)⟩;cases r1;cases k with
 |true=>exact Zn5 (qa σ ρ H1 α1 M1 Dn (s.mono e1) h1 w1)
 |false=>exact Zn4 (qb σ ρ H1 α1 M1 Dn (s.mono e1) h1 w1)
theorem Zo7:DS X ξ (.Break pos) sBrk:=⟨_,ZjF,fun σ ρ H α M Dn s h q=>q σ H α Ext.refl h s⟩
def DG(X:Cx)(tg:Expr)(g:Tg):Prop:=∃t:TG,PG X tg t/\∀v d σ ρ H α ρ' Q,SR X.K H α σ ρ->Rep X.K H α v d->g d ρ=some ρ'->(∀σ',SR X.K H α σ' ρ'->Q σ' H)->t v σ H Q
def DGs(X:Cx)(tgs:List Expr)(g:Tgs):Prop:=∃t:TGs,PGs X tgs t/\∀vs ds σ ρ H α ρ' Q,SR X.K H α σ ρ->Reps X.K H α vs ds->g ds ρ=some ρ'->(∀σ',SR X.K H α σ' ρ'->Q σ' H)->t vs σ H Q
theorem Zk(i:Nat)(hN:X.N.Nodup)(hi:autoParam (X.N[i]?=some x) Qrf._auto_1)(hx:Loc X.env.scope x:=by first|exact dJ rfl|exact mQ rfl)(hm:autoParam (X.may i=true) Qrf._auto_1)(hf:X.fn x=true\/X.env.scope.names.lookup x=some .local:=by first|exact .inl rfl|exact .inr rfl|assumption):DG X (.Name x pos) (gNm i):=by
 refine⟨_,Zl9 hN hi hx hm hf,fun v d σ ρ H α ρ' Q s r e k=>?_⟩;cases e;exact k _ (s.set i r)
theorem Z2:DGs X [] gNl:=by
 refine⟨_,Zma,fun vs ds σ ρ H α ρ' Q s r e k=>?_⟩;cases r with
 |nil=>cases e;exact⟨rfl,k _ s⟩
 |cons _ _=>cases e
theorem Zu{g:Tg}(h1:DG X e g)(h2:DGs X es gs)(hs:autoParam ((dD (e::es) X.env).map (·.2)=assign e X.env::(dD es X.env).map (·.2)) Qrf._auto_1):DGs X (e::es) (gCs g gs):=by
 obtain⟨t1,p1,q1⟩:=h1;obtain⟨t2,p2,q2⟩:=h2;refine⟨_,ZjG p1 p2 hs,fun vs ds σ ρ H α ρ' Q s r e k=>?_⟩;cases r with
 |nil=>cases e
 |cons r rr=>
  rename_i v d vs ds;cases e1:g d ρ with
  |none=>simp only[gCs,e1]at e;cases e
  |some ρ1=>
   simp only[gCs,e1]at e;exact⟨v,vs,rfl,q1 v d σ ρ H α ρ1 _ s r e1 fun σ' s'=>q2 vs ds σ' ρ1 H α ρ' Q s' rr e k⟩
theorem Zay(hc:X.calm=true)(h:DGs X es gs)(hn:autoParam ((dD es X.env).length=n) Qrf._auto_1)(hlen:∀ds ρ ρ',gs ds ρ=some ρ'->ds.length=n)(hst:autoParam ((dD es X.env).findIdx? (·.1)=none) Qrf._auto_1):DG X (.Tuple es k pos) (gTp gs):=by
 obtain⟨t,p,q⟩:=h;refine⟨_,Zos hc p hn hst,fun v d σ ρ H α ρ' Q s r e k=>?_⟩;cases r with
 |@tup a xs ds hp rp=>
  have e':gs ds ρ=some ρ':=e;exact⟨a,xs,rfl,(SqT.of hp),by rw[rp.length];exact hlen ds ρ ρ' e',q xs ds σ ρ H α ρ' Q s rp e' k⟩
 |_=>cases e
theorem Z3(h:gNl ds ρ=some ρ'):ds.length=0:=by cases ds with|nil=>rfl|cons _ _=>cases h
theorem ZC{g:Tg}(h:∀ds ρ ρ',gs ds ρ=some ρ'->ds.length=n)(ds:List D)(ρ ρ':Ro)(e:gCs g gs ds ρ=some ρ'):ds.length=n+1:=by
 cases ds with
 |nil=>cases e
 |cons d r=>
  cases e1:g d ρ with
  |none=>simp only[gCs,e1]at e;cases e
  |some ρ1=>simp only[gCs,e1]at e;rw[bC,h r ρ1 ρ' e]
theorem Zn(i:Nat)(hN:X.N.Nodup)(he:DE X ξ e f)(hi:autoParam (X.N[i]?=some x) Qrf._auto_1)(hx:Loc X.env.scope x:=by first|exact dJ rfl|exact mQ rfl)(hm:autoParam (X.may i=true) Qrf._auto_1)(hs:autoParam (jh e (some (.Name x pos')) pos.line X.env=pure false) Qrf._auto_1)(hf:X.fn x=true\/X.env.scope.names.lookup x=some .local:=by first|exact .inl rfl|exact .inr rfl|assumption) :
  DS X ξ (.Assign [.Name x pos'] e pos) (ZJ (gNm i) f):=by
 obtain⟨t,p,q⟩:=he;exact⟨_,Zou hN hi hx hm p hs hf,fun σ ρ H α M Dn s hh w=>q σ ρ H α M _ s hh (FP.seq w fun d M1 v H1 α1 e1 h1 r1 w1=>w1 _ H1 α1 Ext.refl h1 ((s.mono e1).set i r1))⟩
theorem ZdC(he:DE X ξ e f)(hg:DG X tg gt)(hs:autoParam (jY [tg] e pos.line X.env=pure false) Qrf._auto_1)(hw:autoParam (gA [tg] e X.env=pure none) Qrf._auto_1)(h1:autoParam ((dD [tg] X.env).map (·.2)=[assign tg X.env]) Qrf._auto_1):DS X ξ (.Assign [tg] e pos) (ZJ gt f):=by
 obtain⟨t,p,q⟩:=he;obtain⟨tt,pt,qt⟩:=hg;refine⟨_,Zot p pt hs hw h1,fun σ ρ H α M Dn s hh w=>q σ ρ H α M _ s hh (FP.seq w fun d M1 v H1 α1 e1 h1 r1 w1=>?_)⟩;cases eg:gt d ρ with
 |none=>simp only[eg]at w1;exact w1.elim
 |some ρ1=>
  simp only[eg]at w1;exact qt v d σ ρ H1 α1 ρ1 _ (s.mono e1) r1 eg fun σ' s'=>w1 σ' H1 α1 Ext.refl h1 s'
theorem ZdD(i j:Nat){kt k2 pt2}(hc:X.calm=true)(hN:X.N.Nodup)(ha:DA X ξ [a,b] fs)(hi:autoParam (X.N[i]?=some x) Qrf._auto_1)(hj:autoParam (X.N[j]?=some y) Qrf._auto_1)(mi:autoParam (X.may i=true) Qrf._auto_1)(mj:autoParam (X.may j=true) Qrf._auto_1)(hij:autoParam (i≠j) Qde._auto_1)(hx:autoParam (X.env.scope.names.lookup x=some .local) Qrf._auto_1)(hy:autoParam (X.env.scope.names.lookup y=some .local) Qrf._auto_1)(hw:autoParam (gA [.Tuple [.Name x px,.Name y py] kt pt] (.Tuple [a,b] k2 pt2) X.env=pure (some [x,y])) Qrf._auto_1)(hs:autoParam (jY [.Tuple [.Name x px,.Name y py] kt pt] (.Tuple [a,b] k2 pt2) pos.line X.env=pure false) Qrf._auto_1) :
  DS X ξ (.Assign [.Tuple [.Name x px,.Name y py] kt pt] (.Tuple [a,b] k2 pt2) pos) (Zfh i j fs):=by
 obtain⟨t,p,q⟩:=ha;refine⟨_,Zov hc mi mj hN hi hj hij hx hy p hw hs,fun σ ρ H α M Dn s hh w=>q σ ρ H α M _ s hh (FP.seq w fun ds M1 vs H1 α1 e1 h1 r1 w1=>?_)⟩;cases r1 with
 |nil=>exact w1.elim
 |cons r t=>
  cases t with
  |nil=>exact w1.elim
  |cons r' t=>
   cases t with
   |cons _ _=>exact w1.elim
   |nil=>exact⟨_,_,rfl,w1 _ H1 α1 Ext.refl h1 (((s.mono e1).set i r).set j r')⟩
noncomputable def whN(c:Tv)(g:Sv):Nat->Ro->Sto->Option Fl
 |0,_,_=>none
 |n+1,ρ,M=>match c ρ M with
  |.ok true M1=>(match g ρ M1 with
   |.nx ρ2 M2=>whN c g n ρ2 M2
   |.cnt ρ2 M2=>whN c g n ρ2 M2
   |.brk ρ2 M2=>some (.nx ρ2 M2)
   |o=>some o)
  |.ok false M1=>some (.nx ρ M1)
  |.exc e M1=>some (.exc e M1)
  |.bad=>some .bad
theorem ZcM{c:Tv}{g:Sv}:∀{n:Nat}{ρ:Ro}{M:Sto}{o:Fl},whN c g n ρ M=some o->∀k,whN c g (n+k) ρ M=some o
 |0,_,_,_,e,_=>by simp only[whN]at e;cases e
 |n+1,ρ,M,o,e,k=>by
  have ek:n+1+k=(n+k)+1:=by lia
  rw[ek];unfold whN at e ⊢;cases ec:c ρ M with
  |bad=>rw[ec]at e;exact e
  |exc x M1=>rw[ec]at e;exact e
  |ok b M1=>
   rw[ec]at e;cases b with
   |false=>exact e
   |true=>
    cases eg:g ρ M1 with
    |nx ρ2 M2=>simp only[eg]at e ⊢;exact ZcM e k
    |cnt ρ2 M2=>simp only[eg]at e ⊢;exact ZcM e k
    |brk ρ2 M2=>simp only[eg]at e ⊢;exact e
    |ret d M2=>simp only[eg]at e ⊢;exact e
    |exc x M2=>simp only[eg]at e ⊢;exact e
    |bad=>simp only[eg]at e ⊢;exact e
open Classical in
def sWh(c:Tv)(g:Sv):Sv:=fun ρ M=>if h:∃o n,whN c g n ρ M=some o then Classical.choose h else .bad
theorem ZcA{c:Tv}{g:Sv}(e:whN c g n ρ M=some o):sWh c g ρ M=o:=by
 have hx:∃o n,whN c g n ρ M=some o:=⟨o,n,e⟩;unfold sWh;rw[dif_pos hx];obtain⟨m,em⟩:=Classical.choose_spec hx;have h1:=ZcM em n;have h2:=ZcM e m;rw[je]at h2;rw[h1]at h2;exact aX h2
theorem ZhS{c:Tv}{g:Sv}(e:sWh c g ρ M≠ .bad):∃n,whN c g n ρ M=some (sWh c g ρ M):=by
 by_cases hx:∃o n,whN c g n ρ M=some o
 ·obtain⟨o,n,h⟩:=hx;exact⟨n,by rw[ZcA h];exact h⟩
 ·unfold sWh at e;rw[dif_neg hx]at e;exact absurd rfl e
theorem ZeE{c:Tv}{g:Sv}{M1:Sto}(h:c ρ M=.ok false M1):sWh c g ρ M=.nx ρ M1:=ZcA (n:=1) (by simp only[whN,h])
theorem Zga{c:Tv}{g:Sv}{M1 M2:Sto}(h:c ρ M=.ok true M1)(h2:g ρ M1=.nx ρ2 M2)(hb:sWh c g ρ2 M2≠ .bad):sWh c g ρ M=sWh c g ρ2 M2:=by
 obtain⟨n,e⟩:=ZhS hb;exact ZcA (n:=n+1) (by simp only[whN,h,h2];exact e)
theorem ZcN(hp:fG (az X.prog X.w) X.A X.env X.xe)(hc:DT X ξ c fc)(hb:DSs X ξ body g):DS X ξ (.While c body [] pos) (sWh fc g):=by
 obtain⟨tc,pc,qc⟩:=hc;obtain⟨tb,pb,qb⟩:=hb;refine⟨_,ZjH hp pc pb,fun σ ρ H α M Dn s hh w=>?_⟩;have nb:sWh fc g ρ M≠ .bad:=fun z=>by rw[z]at w;exact w
 obtain⟨n,en⟩:=ZhS nb;generalize sWh fc g ρ M=o at w en;refine⟨fun m σ' H'=>∃ρ' α' M',Ext X.K H H' α α'/\SR X.K H' α' σ' ρ'/\HR X.K H' α' M'/\whN fc g m ρ' M'=some o,⟨n,ρ,α,M,Ext.refl,s,hh,en⟩,?_⟩;rintro m σ1 H1 ⟨ρ1,α1,M1,e1,s1,h1,en1⟩;cases m with
 |zero=>simp only[whN]at en1;cases en1
 |succ m=>
  refine qc σ1 ρ1 H1 α1 M1 _ s1 h1 ?_;unfold whN at en1;cases ec:fc ρ1 M1 with
  |bad=>rw[ec]at en1;cases en1;exact w.elim
  |exc x M2=>
   rw[ec]at en1;cases en1;exact fun C H' α' nn ex hr=>w C H' α' nn (e1.trans ex) hr
  |ok b M2=>
   rw[ec]at en1;intro v H2 α2 e2 h2 ev;cases ev;cases b with
   |false=>
    cases en1;exact Zn4 (w σ1 H2 α2 (e1.trans e2) h2 (s1.mono e2))
   |true=>
    refine Zn5 ⟨fun σ' H'=>∃ρ' α' M',Ext X.K H H' α α'/\SR X.K H' α' σ' ρ'/\HR X.K H' α' M'/\whN fc g m ρ' M'=some o,fun σ' H' z=>⟨m,dP m,z⟩,?_⟩;refine qb σ1 ρ1 H2 α2 M2 _ (s1.mono e2) h2 ?_;have e12:=e1.trans e2;cases eg:g ρ1 M2 with
    |nx ρ2 M3=>simp only[eg]at en1;exact fun σ' H' α' ex hr sr=>⟨ρ2,α',M3,e12.trans ex,sr,hr,en1⟩
    |cnt ρ2 M3=>simp only[eg]at en1;exact fun σ' H' α' ex hr sr=>⟨ρ2,α',M3,e12.trans ex,sr,hr,en1⟩
    |brk ρ2 M3=>simp only[eg]at en1;cases en1;exact fun σ' H' α' ex hr sr=>w σ' H' α' (e12.trans ex) hr sr
    |ret d M3=>simp only[eg]at en1;cases en1;exact fun v H' α' ex hr sr=>w v H' α' (e12.trans ex) hr sr
    |exc x M3=>simp only[eg]at en1;cases en1;exact fun C H' α' nn ex hr=>w C H' α' nn (e12.trans ex) hr
    |bad=>simp only[eg]at en1;cases en1;exact w.elim
noncomputable def ZbE(tg:Tg)(g:Sv):List D->Ro->Sto->Fl
 |[],ρ,M=>.nx ρ M
 |d::r,ρ,M=>match tg d ρ with
  |none=>.bad
  |some ρ1=>(match g ρ1 M with
   |.nx ρ2 M2=>ZbE tg g r ρ2 M2
   |.cnt ρ2 M2=>ZbE tg g r ρ2 M2
   |.brk ρ2 M2=>.nx ρ2 M2
   |o=>o)
noncomputable def Zg9(tg:Tg)(g:Sv)(n:Nat):Nat->Nat->Ro->Sto->Fl
 |f,i,ρ,M=>match M[n]? with
  |some (.lst xs)=>(match xs[i]? with
   |none=>.nx ρ M
   |some d=>(match f with
    |0=>.bad
    |f+1=>(match tg d ρ with
     |none=>.bad
     |some ρ1=>(match g ρ1 M with
      |.nx ρ2 M2=>Zg9 tg g n f (i+1) ρ2 M2
      |.cnt ρ2 M2=>Zg9 tg g n f (i+1) ρ2 M2
      |.brk ρ2 M2=>.nx ρ2 M2
      |o=>o))))
  |none=>.bad
def Zbp(lo:Int)(n:Nat):List D:=(aH n).map fun(i:Nat)=>D.int (lo+i)
def Zk7(tg:Tg)(g:Sv)(d:D)(ρ:Ro)(M:Sto):Fl:=match d with
 |.tup xs=>ZbE tg g xs ρ M
 |.rol xs=>ZbE tg g xs ρ M
 |.ref n=>(match M[n]? with|some (.lst xs)=>Zg9 tg g n xs.length 0 ρ M|none=>.bad)
 |_=>.bad
def Zj0(tg:Tg)(f:Ev)(g:Sv):Sv:=fun ρ M=>ZaF (f ρ M) fun d M1=>Zk7 tg g d ρ M1
def ZbH(tg:Tg)(fs:Av)(g:Sv):Sv:=fun ρ M=>ZaF (fs ρ M) fun ds M1=>match ds with
 |[.int j]=>if -(2^62)<=j/\j<2^62 then ZbE tg g (Zbp 0 j.toNat) ρ M1 else .bad
 |_=>.bad
def Zc0(tg:Tg)(fs:Av)(g:Sv):Sv:=fun ρ M=>ZaF (fs ρ M) fun ds M1=>match ds with
 |[.int i,.int j]=>if -(2^62)<=i/\i<2^62/\ -(2^62)<=j/\j<2^62 then ZbE tg g (Zbp i (j-i).toNat) ρ M1 else .bad
 |_=>.bad
theorem Zgb{lo:Int}(h:i<n):(Zbp lo n)[i]?=some (.int (lo+i)):=by
 unfold Zbp;rw[bB,List.getElem?_range h];rfl
theorem ZdY{lo:Int}:(Zbp lo n).length=n:=by unfold Zbp;rw[aB,List.length_range]
theorem ZhT{lo:Int}(h:i<n):(Zbp lo n).drop i=.int (lo+i)::(Zbp lo n).drop (i+1):=by
 have hl:i<(Zbp lo n).length:=by rw[ZdY];exact h
 have e:=Zgb (lo:=lo) h;rw[af hl]at e;rw[ez hl,aX e]
theorem Zj1{tg:Expr}{gt:Tg}{tt:TG}{tb:TS}{k:Ro->Sto->Fl}(w:FP X.K H α ξ Dn o)(qt:∀v d σ ρ H α ρ' Q,SR X.K H α σ ρ->Rep X.K H α v d->gt d ρ=some ρ'->(∀σ',SR X.K H α σ' ρ'->Q σ' H)->tt v σ H Q)(qb:∀σ ρ H α M Dn,SR X.K H α σ ρ->HR X.K H α M->FP X.K H α ξ Dn (g ρ M)->tb Dn σ H){M1:Sto}(e1:Ext X.K H H1 α α1)(s1:SR X.K H1 α1 σ1 ρ1)(h1:HR X.K H1 α1 M1)(r:Rep X.K H1 α1 v d)(en:(match gt d ρ1 with|none=>Fl.bad|some ρ2=>(match g ρ2 M1 with|.nx ρ3 M3=>k ρ3 M3|.cnt ρ3 M3=>k ρ3 M3|.brk ρ3 M3=>.nx ρ3 M3|o=>o))=o)(hN:∀σ' H',(∃ρ' α' M',Ext X.K H H' α α'/\SR X.K H' α' σ' ρ'/\HR X.K H' α' M'/\k ρ' M'=o)->N σ' H'):tt v σ1 H1 fun σ2 H2=>tb {Dn with nx:=N,ct:=N,bk:=Dn.nx} σ2 H2:=by
 cases eg:gt d ρ1 with
 |none=>rw[eg]at en;cases en;exact w.elim
 |some ρ2=>
  simp only[eg]at en;refine qt v d σ1 ρ1 H1 α1 ρ2 _ s1 r eg fun σ2 s2=>qb σ2 ρ2 H1 α1 M1 _ s2 h1 ?_;cases ex:g ρ2 M1 with
  |nx ρ3 M3=>simp only[ex]at en;exact fun σ' H' α' e2 hr sr=>hN _ _ ⟨ρ3,α',M3,e1.trans e2,sr,hr,en⟩
  |cnt ρ3 M3=>simp only[ex]at en;exact fun σ' H' α' e2 hr sr=>hN _ _ ⟨ρ3,α',M3,e1.trans e2,sr,hr,en⟩
  |brk ρ3 M3=>simp only[ex]at en;cases en;exact fun σ' H' α' e2 hr sr=>w σ' H' α' (e1.trans e2) hr sr
  |ret d M3=>simp only[ex]at en;cases en;exact fun v H' α' e2 hr sr=>w v H' α' (e1.trans e2) hr sr
  |exc x M3=>simp only[ex]at en;cases en;exact fun C H' α' nn e2 hr=>w C H' α' nn (e1.trans e2) hr
  |bad=>simp only[ex]at en;cases en;exact w.elim
theorem Zk8{tg:Expr}{tt:TG}{tb:TS}{lo:Int}(qt:∀v d σ ρ H α ρ' Q,SR X.K H α σ ρ->Rep X.K H α v d->gt d ρ=some ρ'->(∀σ',SR X.K H α σ' ρ'->Q σ' H)->tt v σ H Q)(qb:∀σ ρ H α M Dn,SR X.K H α σ ρ->HR X.K H α M->FP X.K H α ξ Dn (g ρ M)->tb Dn σ H)(s:SR X.K H α σ ρ)(hh:HR X.K H α M)(w:FP X.K H α ξ Dn (ZbE gt g (Zbp lo n) ρ M)):∃W:Nat->Nat->L2.St->Hp->Prop,(∃m,W 0 m σ H)/\∀i m σ H,W i m σ H->((Itr lo n).stop i H/\Dn.nx σ H)\/((Itr lo n).go i H/\∃N:L2.St->Hp->Prop,(∀σ' H',N σ' H'->∃m',m'<m/\W (i+1) m' σ' H')/\∀x H',(Itr lo n).yld i H x H'->tt x σ H' fun σ2 H2=>tb {Dn with nx:=N,ct:=N,bk:=Dn.nx} σ2 H2):=by
 generalize ho:ZbE gt g (Zbp lo n) ρ M=o at w;refine Zhm (fun i σ' H'=>∃ρ' α' M',Ext X.K H H' α α'/\SR X.K H' α' σ' ρ'/\HR X.K H' α' M'/\ZbE gt g ((Zbp lo n).drop i) ρ' M'=o) ⟨ρ,α,M,Ext.refl,s,hh,ho⟩ ?_ ?_
 ·rintro i σ1 H1 hi ⟨ρ1,α1,M1,e1,s1,h1,en⟩;rw[ZhT hi]at en;exact Zj1 (tg:=tg) w qt qb e1 s1 h1 (.int (lo+i)) en (fun σ' H' z=>z)
 ·rintro σ1 H1 ⟨ρ1,α1,M1,e1,s1,h1,en⟩;rw[bW (by rw[ZdY];exact aj _)]at en
  cases en;exact w σ1 H1 α1 e1 h1 s1
theorem ZbC(hp:fG (az X.prog X.w) X.A X.env X.xe)(hm:X.mg "range"=none)(ha:DA X ξ [a] fs)(hg:DG X tg gt)(hb:DSs X ξ body g)(hgl:autoParam (Gl X "range") Qrf._auto_1)(hs:autoParam (av [a] X.env=[(false,eval a X.env)]) Qrf._auto_1)(hf:autoParam (∀x,foldedSetIterable (.Call (.Name "range" p) [a] [] p2) X.env x=pure x) Qin._auto_1):DS X ξ (.For tg (.Call (.Name "range" p) [a] [] p2) body [] pos) (ZbH gt fs g):=by
 obtain⟨ta,pa,qa⟩:=ha;obtain⟨tt,pt,qt⟩:=hg;obtain⟨tb,pb,qb⟩:=hb;refine⟨_,ZfX hp (Zen hgl hm pa hs) pt pb hf,fun σ ρ H α M Dn s hh w=>qa σ ρ H α M _ s hh (FP.seq w fun ds M1 vs H1 α1 e1 h1 r1 w1=>?_)⟩;cases r1 with
 |nil=>exact w1.elim
 |cons r tz=>
  cases tz with
  |cons _ _=>cases r<;>exact w1.elim
  |nil=>
   cases r with
   |int j=>
    by_cases c: -(2^62)<=j/\j<2^62
    ·simp only[if_pos c]at w1;exact⟨j,rfl,c.1,c.2,Zk8 (tg:=tg) qt qb (s.mono e1) h1 w1⟩
    ·simp only[if_neg c]at w1;exact w1.elim
   |_=>exact w1.elim
theorem ZdZ(hp:fG (az X.prog X.w) X.A X.env X.xe)(hm:X.mg "range"=none)(ha:DA X ξ [a,b] fs)(hg:DG X tg gt)(hb:DSs X ξ body g)(hgl:autoParam (Gl X "range") Qrf._auto_1)(hs:autoParam (av [a,b] X.env=[(false,eval a X.env),(false,eval b X.env)]) Qrf._auto_1)(hs2:autoParam (av [b] X.env=[(false,eval b X.env)]) Qrf._auto_1)(hf:autoParam (∀x,foldedSetIterable (.Call (.Name "range" p) [a,b] [] p2) X.env x=pure x) Qin._auto_1):DS X ξ (.For tg (.Call (.Name "range" p) [a,b] [] p2) body [] pos) (Zc0 gt fs g):=by
 obtain⟨ta,pa,qa⟩:=ha;obtain⟨tt,pt,qt⟩:=hg;obtain⟨tb,pb,qb⟩:=hb;refine⟨_,ZfX hp (Zeo hgl hm pa hs hs2) pt pb hf,fun σ ρ H α M Dn s hh w=>qa σ ρ H α M _ s hh (FP.seq w fun ds M1 vs H1 α1 e1 h1 r1 w1=>?_)⟩
 split at w1
 ·rename_i i j;cases r1 with
  |cons r t=>
   cases t with
   |cons r' t=>
    cases t;cases r;cases r';by_cases c: -(2^62)<=i/\i<2^62/\ -(2^62)<=j/\j<2^62
    ·simp only[if_pos c]at w1;exact⟨i,j,rfl,c,Zk8 (tg:=tg) qt qb (s.mono e1) h1 w1⟩
    ·simp only[if_neg c]at w1;exact w1.elim
 ·exact w1.elim
def Zu8(K:Fg)(tl:TE):TI:=fun σ H R=>tl σ H fun x H1=>∃a,x=.ref a/\(((∃xs,SqL K H1 a xs)/\R (Itl K a) H1)\/((∃xs,SqT K H1 a xs)/\R (Itt K a) H1))
theorem Zk9(hl:PE X l tl):PI X tg l (Zu8 X.K tl):=by
 intro pins s σ H R I h;refine thn (hl pins s σ H _ I h) fun v s1 hz=>?_;obtain⟨x,H1,I1,r1,q1⟩:=hz;obtain⟨a,e,q⟩:=q1;subst e;cases r1;have fp:∀b∈[s1.heap.objs.size],Ze9 X pins H1 b:=fun b hb=>by
  have e:b=s1.heap.objs.size:=by simpa using hb
  subst e;exact I1.fpOk (aj _) (I1.hok.fresh (aj _))
 rcases q with⟨⟨xs,hq⟩,q⟩|⟨⟨xs,hq⟩,q⟩
 ·obtain⟨its,rv,p,hz⟩:=I1.list hq;refine wpAny_pyIter_list p.isList ?_;exact⟨s1.heap.objs.size,[s1.heap.objs.size],_,_,H1,rfl,I1.kept (t':=s1.toks) fun b o e=>Hq _ e,Zhk a _,⟨_,aP _ rfl,rfl,rfl⟩,fp,q⟩
 ·obtain⟨its,rv,p,hz⟩:=I1.tuple hq;refine wpAny_pyIter_tuple (show s1.heap.IsTuple a its.toArray from p) ?_;exact⟨s1.heap.objs.size,[s1.heap.objs.size],_,_,H1,rfl,I1.kept (t':=s1.toks) fun b o e=>Hq _ e,ZgQ a _,⟨_,aP _ rfl,rfl,rfl⟩,fp,q⟩
theorem ZdE{f:Ev}(hp:fG (az X.prog X.w) X.A X.env X.xe)(hl:DE X ξ l f)(hg:DG X tg gt)(hb:DSs X ξ body g)(hf:autoParam (∀x,foldedSetIterable l X.env x=pure x) Qin._auto_1):DS X ξ (.For tg l body [] pos) (Zj0 gt f g):=by
 obtain⟨ta,pa,qa⟩:=hl;obtain⟨tt,pt,qt⟩:=hg;obtain⟨tb,pb,qb⟩:=hb;refine⟨_,ZfX hp (Zk9 pa) pt pb hf,fun σ ρ H α M Dn s hh w=>qa σ ρ H α M _ s hh (FP.seq w fun d M1 v H1 α1 e1 h1 r1 w1=>?_)⟩;have s1:=s.mono e1;have pure_:∀(ds:List D)(xs:List V),Reps X.K H1 α1 xs ds->FP X.K H1 α1 ξ Dn (ZbE gt g ds ρ M1)->∀(i:Nat) σ' H',(∃ρ' α' M',Ext X.K H1 H' α1 α'/\SR X.K H' α' σ' ρ'/\HR X.K H' α' M'/\ZbE gt g (ds.drop i) ρ' M'=ZbE gt g ds ρ M1)->
   (∀x,xs[i]?=some x->tt x σ' H' fun σ2 H2=>tb {Dn with nx:=fun σ H=>∃ρ' α' M',Ext X.K H1 H α1 α'/\SR X.K H α' σ ρ'/\HR X.K H α' M'/\ZbE gt g (ds.drop (i+1)) ρ' M'=ZbE gt g ds ρ M1,ct:=fun σ H=>∃ρ' α' M',Ext X.K H1 H α1 α'/\SR X.K H α' σ ρ'/\HR X.K H α' M'/\ZbE gt g (ds.drop (i+1)) ρ' M'=ZbE gt g ds ρ M1,bk:=Dn.nx} σ2 H2)/\
   (i=xs.length->Dn.nx σ' H'):=by
  intro ds xs r w1 i σ' H' ⟨ρ',α',M',ex,sr,hr,en⟩;refine⟨fun x hx=>?_,fun hi=>?_⟩
  ·have hi:i<ds.length:=by rw[<-r.length];exact(aq.mp hx).1
   obtain⟨v,g1,g2⟩:=r.get (Gq hi);rw[hx]at g1;cases g1;rw[ez hi]at en;exact Zj1 (tg:=tg) w1 qt qb ex sr hr (Rep.mono ex g2) en (fun σ' H' z=>z)
  ·rw[hi,r.length,List.drop_length]at en;have en':Fl.nx ρ' M'=ZbE gt g ds ρ M1:=en;rw[<-en']at w1;exact w1 σ' H' α' ex hr sr
 cases r1 with
 |@tup p xs ds hp rp=>
  have w2:FP X.K H1 α1 ξ Dn (ZbE gt g ds ρ M1):=w1;refine⟨p,rfl,.inr ⟨⟨xs,(SqT.of hp)⟩,Zmc (K:=X.K) (a:=p) (xs:=xs) (fun i σ' H'=>∃ρ' α' M',Ext X.K H1 H' α1 α'/\SR X.K H' α' σ' ρ'/\HR X.K H' α' M'/\ZbE gt g (ds.drop i) ρ' M'=ZbE gt g ds ρ M1) ⟨ρ,α1,M1,Ext.refl,s1,h1,rfl⟩ ?_ ?_ ?_⟩⟩
  ·rintro i σ' H' _ ⟨ρ',α',M',ex,_⟩;exact SqT.of (ex.tup _ _ hp)
  ·intro i x σ' H' hx z;exact(pure_ ds xs rp w2 i σ' H' z).1 x hx
  ·intro σ' H' z;exact(pure_ ds xs rp w2 _ σ' H' z).2 rfl
 |@rol p xs ds hp rp=>
  have w2:FP X.K H1 α1 ξ Dn (ZbE gt g ds ρ M1):=w1;refine⟨p,rfl,.inl ⟨⟨xs,hp.sq⟩,ZjI (K:=X.K) (a:=p) (xs:=xs) (fun i σ' H'=>∃ρ' α' M',Ext X.K H1 H' α1 α'/\SR X.K H' α' σ' ρ'/\HR X.K H' α' M'/\ZbE gt g (ds.drop i) ρ' M'=ZbE gt g ds ρ M1) ⟨ρ,α1,M1,Ext.refl,s1,h1,rfl⟩ ?_ ?_ ?_⟩⟩
  ·rintro i σ' H' _ ⟨ρ',α',M',ex,_⟩;exact(ex.rol _ _ hp).sq
  ·intro i x σ' H' hx z;exact(pure_ ds xs rp w2 i σ' H' z).1 x hx
  ·intro σ' H' z;exact(pure_ ds xs rp w2 _ σ' H' z).2 rfl
 |@ref p n hp=>
  cases em:M1[n]? with
  |none=>simp only[Zk7,em]at w1;exact w1.elim
  |some so=>
   cases so with
   |lst ds=>
    simp only[Zk7,em]at w1;obtain⟨xs0,g0,r0⟩:=h1.at hp em;generalize eo:Zg9 gt g n ds.length 0 ρ M1=o at w1;refine⟨p,rfl,.inl ⟨⟨xs0,SqL.of g0⟩,fun i m σ' H'=>∃ρ' α' M',Ext X.K H1 H' α1 α'/\SR X.K H' α' σ' ρ'/\HR X.K H' α' M'/\Zg9 gt g n m i ρ' M'=o,⟨ds.length,ρ,α1,M1,Ext.refl,s1,h1,eo⟩,?_⟩⟩;rintro i m σ' H' ⟨ρ',α',M',ex,sr,hr,en⟩;unfold Zg9 at en;cases em2:M'[n]? with
    |none=>simp only[em2]at en;cases en;exact w1.elim
    |some so2=>
     cases so2 with
     |lst ds2=>
      simp only[em2]at en;obtain⟨xs,g1,g2⟩:=hr.at (ex.get hp) em2;cases ei:ds2[i]? with
      |none=>
       simp only[ei]at en;cases en;refine .inl ⟨⟨xs,SqL.of g1,?_⟩,w1 σ' H' α' ex hr sr⟩;rw[g2.length];exact bQ.mp ei
      |some d=>
       simp only[ei]at en;obtain⟨v,k1,k2⟩:=g2.get ei;cases m with
       |zero=>cases en;exact w1.elim
       |succ m=>
        refine .inr ⟨⟨xs,v,SqL.of g1,k1⟩,fun σ2 H2=>∃ρ' α' M',Ext X.K H1 H2 α1 α'/\SR X.K H2 α' σ2 ρ'/\HR X.K H2 α' M'/\Zg9 gt g n m (i+1) ρ' M'=o,fun σ2 H2 z=>⟨m,dP m,z⟩,fun x H2 y=>?_⟩;obtain⟨ey,y⟩:=y;subst ey;have ev:=y xs (SqL.of g1);rw[k1]at ev;cases ev;exact Zj1 (tg:=tg) w1 qt qb ex sr hr k2 en (fun σ' H' z=>z)
 |_=>exact w1.elim
end
noncomputable def fnF(g:Sv)(n k:Nat):W3:=fun ds M=>if ds.length=n then(match g (ds.map some++bw k none) M with
 |.ret d M'=>.ok d M'
 |.nx _ M'=>.ok .non M'
 |.exc c M'=>.exc c M'
 |_=>.bad)else .bad
def spD(K:Fg)(F:W3):Sp:=fun vs H Q E=>∃ds α M,Reps K H α vs ds/\HR K H α M/\OP K H α E Q (F ds M)
theorem ZeF:∀{ds:List D}{k i:Nat}{d:D},(ds.map some++bw k none)[i]?=some (some d)->ds[i]?=some d
 |[],k,i,d,h=>by
  rw[fm,bS]at h
  have:=cV h
  rw[jB]at this;cases this.2
 |x::r,k,0,d,h=>by simpa using h
 |x::r,k,i+1,d,h=>by
  rw[aL,aQ,dB]at h;rw[dB];exact ZeF h
theorem SR.start{K:Fg}{H:Hp}{α:List Addr}{N:List Str}{vs:List V}{ds:List D}{k:Nat}(r:Reps K H α vs ds)(hk:k=N.length-ds.length):SR K H α (start N vs) (ds.map some++bw k none):=by
 unfold L2.start;refine⟨by simp only[a6,aB,bN,r.length,hk],fun i d h=>?_⟩
 obtain⟨v,h1,h2⟩:=r.get (ZeF h);refine⟨v,?_,h2⟩;have hl:i<vs.length:=(aq.mp h1).1;rw[ah (by rw[aB];exact hl),bB,h1]
 rfl
section
variable {K:Fg}
theorem Zo8{st:Stmt}(F:Fun K x qual st f fd)(S:FnScope N ps (Zq st))(hn:n=ps.length)(hm:m=N.length-n)(hb:∀(cdv:ae)(A:dR)(outer:List Env)(s:aC)(H:Hp)(E:XK),Room k (A.deeper (jv qual (Zq st) s.heap.objs.size f cdv))->Thr (ZfY (CXE P w) P w K mg base N qual (Zq st) f cdv A outer s H E) E->DSs (ZfY (CXE P w) P w K mg base N qual (Zq st) f cdv A outer s H E) E (Zax st) g):FnOk P w K mg base (CXE P w) (k+1) f fd ps (spD K (fnF g n m)):=by
 obtain⟨oc,od,kV,doc,pm,an,cdv,ct,osl,rfl,lk,hcd⟩:=F.ex;refine ZoG lk hcd S (fun vs H Q E h=>?_) (fun A outer s H vs Q E hr h=>?_)
 ·obtain⟨ds,α,M,r,_,q⟩:=h;by_cases c:ds.length=n
  ·rw[r.length,c,hn]
  ·simp only[fnF,if_neg c]at q;exact q.elim
 ·obtain⟨ds,α,M,r,hh,q⟩:=h;obtain⟨t,p,w'⟩:=hb cdv A outer s H E hr Zk6;by_cases c:ds.length=n
  ·simp only[fnF,if_pos c]at q;refine⟨t,p,w' _ _ H α M _ (SR.start (N:=N) r (k:=m) (by rw[hm,c])) hh ?_⟩
   cases e:g (ds.map some++bw m none) M with
   |nx ρ' M'=>simp only[e]at q;exact fun σ' H' α' ex hr sr=>q _ H' α' ex hr .non
   |ret d M'=>simp only[e]at q;exact q
   |exc x M'=>simp only[e]at q;exact q
   |brk ρ' M'=>simp only[e]at q;exact q.elim
   |cnt ρ' M'=>simp only[e]at q;exact q.elim
   |bad=>simp only[e]at q;exact q.elim
  ·simp only[fnF,if_neg c]at q;exact q.elim
end
theorem ZmA(G:FnOk X.prog X.w X.K X.mg X.base (CXE X.prog X.w) k f fd ps (spD X.K F))(T:Thr X ξ)(hr:Room k X.A)(hm:X.mg x=some (.ref f))(hk:PySem.W.keepIn X.K (.ref f)=true)(hb:Zfe X.K fd ps [])(ha:DA X ξ (e::es) fs)(hg:autoParam (Gl X x) Qrf._auto_1)
  (hdb:(x==("__debug__":Str))=false:=by decide) (he:av (e::es) X.env=(false,eval e X.env)::av es X.env:=by rfl) (hpl:(db pos (av es X.env)).any (·.1)=false:=by rfl):DE X ξ (.Call (.Name x p) (e::es) [] pos) (Zj F fs):=by
 obtain⟨t,pa,qa⟩:=ha;refine⟨_,Zmg G hr hg hm hk hb .nil T.ps pa hdb he hpl,fun σ ρ H α M Q s hh q=>qa σ ρ H α M _ s hh (OG.seq q fun ds M1 vs H1 α1 e1 h1 r1 q1=>?_)⟩;rw[cg];exact⟨ds,α1,M1,r1,h1,q1⟩
end DL
namespace DL
open PyProof.Rows L2
theorem ZdF:bM "abs"=some (.builtin "abs"):=by decide +kernel
theorem Zla:bM "int"=some (.type "int"):=by decide +kernel
theorem ZhU:bM "bool"=some (.type "bool"):=by decide +kernel
theorem Zfi:bM "list"=some (.type "list"):=by decide +kernel
theorem Zj2:bM "tuple"=some (.type "tuple"):=by decide +kernel
theorem Zc1:bM "max"=some (.builtin "max"):=by decide +kernel
theorem ZbV:bM "min"=some (.builtin "min"):=by decide +kernel
def Cal(P:cH)(w:c8)(K:Fg)(mg:Str->Option ae)(base:Heap)(x:Str)(k n:Nat)(F:W3):Prop:=
 ∃(f:Addr) (fd:iS) (ps:List Str),FnOk P w K mg base (CXE P w) k f fd ps (spD K F)/\mg x=some (.ref f)/\PySem.W.keepIn K (.ref f)=true/\ps.length=n/\Zfe K fd ps []
theorem Zj3(C:Cal X.prog X.w X.K X.mg X.base x k n F)(T:Thr X ξ)(hr:Room k X.A)(ha:DA X ξ (e::es) fs)(hg:autoParam (Gl X x) Qrf._auto_1)(hdb:autoParam ((x==("__debug__":Str))=false) Qde._auto_1)(he:autoParam (av (e::es) X.env=(false,eval e X.env)::av es X.env) Qrf._auto_1)(hpl:autoParam ((db pos (av es X.env)).any (·.1)=false) Qrf._auto_1):DE X ξ (.Call (.Name x p) (e::es) [] pos) (Zj F fs):=by
 obtain⟨f,fd,ps,G,hm,hk,_,hb⟩:=C;exact ZmA G T hr hm hk hb ha hg hdb he hpl
end DL
namespace DL
open PyProof.Rows L2
noncomputable def bl:List Str:=["abs","all","any","bool","dict","enumerate","int","isinstance","len","list","max","min","range","repr","reversed","sorted","str","sum","tuple","zip"]
structure Bs(mg:Str->Option ae):Prop where
 b_abs:mg "abs"=none
 b_all:mg "all"=none
 b_any:mg "any"=none
 b_bool:mg "bool"=none
 b_dict:mg "dict"=none
 b_enumerate:mg "enumerate"=none
 b_int:mg "int"=none
 b_isinstance:mg "isinstance"=none
 b_len:mg "len"=none
 b_list:mg "list"=none
 b_max:mg "max"=none
 b_min:mg "min"=none
 b_range:mg "range"=none
 b_repr:mg "repr"=none
 b_reversed:mg "reversed"=none
 b_sorted:mg "sorted"=none
 b_str:mg "str"=none
 b_sum:mg "sum"=none
 b_tuple:mg "tuple"=none
 b_zip:mg "zip"=none
theorem Bs.of{K:Fg}(X:K.In h)(G:h.Ns aO mg)(z:bl.map (PySem.W.nsIn K aO)=bl.map fun _=>some none):Bs mg:=by
 have q (x:Str) (m:x∈bl):mg x=none:=PySem.W.mg_none_of X G (List.map_inj_left.mp z x m)
 constructor<;>exact q _ (by decide +kernel)
noncomputable def Df(K:Fg)(x:Str)(st:Stmt):Prop:=∃f fd,PySem.W.nsIn K aO x=some (some (.ref f))/\Fun K x x st f fd
def Dfs(K:Fg)(p:Nat->Stmt)(L:List Rw):Prop:=
 L.map (fun r=>(PySem.W.nsIn K aO r.n,K.lookup r.f,PySem.W.codeIn K (.ref (r.f-1)) r.n,PySem.W.keepIn K (.ref r.f)))=L.map fun r=>(some (some (.ref r.f)),some (r.fo p),true,true)
theorem Dfs.of{K:Fg}(h:L.map (fun r=>(PySem.W.nsIn K aO r.n,K.lookup r.f,PySem.W.codeIn K (.ref (r.f-1)) r.n,PySem.W.keepIn K (.ref r.f)))=L.map fun r=>(some (some (.ref r.f)),some (r.fo p),true,true)):Dfs K p L:=h
theorem Dfs.at{K:Fg}(h:Dfs K p L)(j i:Nat)(e:autoParam ((L[j]?).map (fun r=>(bH r.n,r.i))=some (x,i)) Qrf._auto_1):Df K x (p i):=by
 obtain⟨r,m,e⟩:=ia.mp e;have q:=List.map_inj_left.mp h r (cV m);cases e;simp only[cN]at q;exact⟨_,_,q.1,ZoM q.2.1 q.2.2.1 q.2.2.2⟩
section
variable {P:cH}{K:Fg}
theorem Zu9{α:Type}{P:List α->Prop}(h:P []):∀us:List α,us.length=0->P us
 |[],_=>h
theorem Zt1{α:Type}{P:List α->Prop}(h:∀x0,P [x0]):∀us:List α,us.length=1->P us
 |[x0],_=>h x0
theorem Zt2{α:Type}{P:List α->Prop}(h:∀x0 x1,P [x0,x1]):∀us:List α,us.length=2->P us
 |[x0,x1],_=>h x0 x1
theorem Zt3{α:Type}{P:List α->Prop}(h:∀x0 x1 x2,P [x0,x1,x2]):∀us:List α,us.length=3->P us
 |[x0,x1,x2],_=>h x0 x1 x2
theorem Zva{α:Type}{P:List α->Prop}(h:∀x0 x1 x2 x3,P [x0,x1,x2,x3]):∀us:List α,us.length=4->P us
 |[x0,x1,x2,x3],_=>h x0 x1 x2 x3
theorem Zvb{α:Type}{P:List α->Prop}(h:∀x0 x1 x2 x3 x4,P [x0,x1,x2,x3,x4]):∀us:List α,us.length=5->P us
 |[x0,x1,x2,x3,x4],_=>h x0 x1 x2 x3 x4
theorem Zvc{α:Type}{P:List α->Prop}(h:∀x0 x1 x2 x3 x4 x5,P [x0,x1,x2,x3,x4,x5]):∀us:List α,us.length=6->P us
 |[x0,x1,x2,x3,x4,x5],_=>h x0 x1 x2 x3 x4 x5
theorem ZV{st:Stmt}(D:Df K x st)(gl:∀c v,PySem.W.nsIn K aO c=some (some v)->mg c=some v)(hb:∀(cdv:ae)(A:dR)(outer:List Env)(s:aC)(H:Hp)(E:XK)(f:Addr),N.Nodup->Room k (A.deeper (jv x (Zq st) s.heap.objs.size f cdv))->Thr (ZfY (CXE P w) P w K mg base N x (Zq st) f cdv A outer s H E) E->DSs (ZfY (CXE P w) P w K mg base N x (Zq st) f cdv A outer s H E) E (Zax st) g)(h1:autoParam ((Zq st).kind=.function) Qrf._auto_1)(h2:autoParam ((Zq st).isCoroutine=false) Qrf._auto_1)(h3:autoParam ((Zq st).isGenerator=false) Qrf._auto_1)(h4:N.Nodup:=by decide +kernel)(h5:autoParam ((N.take n).length=n) Qrf._auto_1)(h6:∀y∈N.take n,(Zq st).names.lookup y=some .local\/(Zq st).names.lookup y=some .cell:=by decide +kernel)(h7:∀y∈(Zq st).names,y.2≠ .free:=by decide +kernel)(hm:autoParam (m=N.length-n) Qrf._auto_1)(bi:∀(kV doc pm:ae)(an:Option Addr)(cdv ct:ae)(us:List ae),us.length=n->iT (PySem.W.fnOf x x (Zbs st) (Zax st) (Zq st) .none kV doc pm an cdv ct) ⟨us,[]⟩=pure ((N.take n).zip us):=by first|exact fun _ _ _ _ _ _=>Zt1 fun _=>rfl|exact fun _ _ _ _ _ _=>Zt2 fun _ _=>rfl|exact fun _ _ _ _ _ _=>Zt3 fun _ _ _=>rfl|exact fun _ _ _ _ _ _=>Zva fun _ _ _ _=>rfl|exact fun _ _ _ _ _ _=>Zvb fun _ _ _ _ _=>rfl|exact fun _ _ _ _ _ _=>Zvc fun _ _ _ _ _ _=>rfl|exact fun _ _ _ _ _ _=>Zu9 rfl):Cal P w K mg base x (k+1) n (fnF g n m):=by
 obtain⟨f,fd,a,F⟩:=D;have S:FnScope N (N.take n) (Zq st):=⟨h1,h2,h3,h4,by rw[h5],h6,h7⟩
 exact⟨f,fd,N.take n,Zo8 F S h5.symm hm (fun cdv A outer s H E hr θ=>hb cdv A outer s H E f h4 hr θ),gl _ _ a,F.kp,h5,F.binds (fun kV doc pm an cdv ct us hu=>bi kV doc pm an cdv ct us (hu.trans h5))⟩
theorem Zi(C:Cal X.prog X.w X.K X.mg X.base x k n F)(T:Thr X ξ)(hr:Room j X.A)(ha:DA X ξ (e::es) fs)(hj:autoParam (k<=j) Qde._auto_1)(hg:autoParam (Gl X x) Qrf._auto_1)(hdb:autoParam ((x==("__debug__":Str))=false) Qde._auto_1)(he:autoParam (av (e::es) X.env=(false,eval e X.env)::av es X.env) Qrf._auto_1)(hpl:autoParam ((db pos (av es X.env)).any (·.1)=false) Qrf._auto_1):DE X ξ (.Call (.Name x p) (e::es) [] pos) (Zj F fs):=Zj3 C T (hr.mono hj) ha hg hdb he hpl
theorem Zo9{l:PySem.W.OpenLaw}{st:Stmt}(X:K.In h)(G:h.Ns aO mg)(hfa:mg "law"=some (.ref fa))(D:Df K "law" st)(b:∀(kV doc pm:ae)(an:Option Addr)(cdv ct:ae)(v:ae),iT (PySem.W.fnOf "law" "law" (Zbs st) (Zax st) (Zq st) .none kV doc pm an cdv ct) ⟨[v],[]⟩=pure [(y,v)])(q:∀base fd,Fun K "law" "law" st fa fd->FnOk l.prog w K mg base (CXE l.prog w) k fa fd [y] (spD K F)):∃fd:iS,(∀(s:aC)(v:ae),lQ s fd ⟨[v],[]⟩ [(y,v)])/\∀base:Heap,K.In base->base.Ns aO mg->FnOk l.prog w K mg base (CXE l.prog w) k fa fd [y] (spD K F):=by
 obtain⟨f,fd,a,F⟩:=D;have e:=hfa.symm.trans (PySem.W.mg_of X G a);cases e;refine⟨fd,?_,fun base _ _=>q base fd F⟩;obtain⟨oc,od,kV,doc,pm,an,cdv,ct,osl,rfl,lk,hcd⟩:=F.ex;exact fun s v=>.of_eq (b kV doc pm an cdv ct v)
end
end DL
namespace DL
open PyProof.Rows L2
inductive Src where
 |pur (ds:List D)
 |sto (n:Nat)
 |zip (n m:Nat)
 |enu (n:Nat)
 |rev (n l:Nat)
 |zips (ns:List Nat)
 |dct (n:Nat)
 |zipT (n:Nat) (es:List D)
def ZhV(M:Sto)(i:Nat):List Nat->Option (Option (List D))
 |[]=>some (some [])
 |n::ns=>match M[n]? with
  |none=>none
  |some (.lst xs)=>match ZhV M i ns with
   |none=>none
   |some r=>match xs[i]?,r with|some x,some ds=>some (some (x::ds))|_,_=>some none
def nxt(src:Src)(i:Nat)(M:Sto):Option (Option D):=match src with
 |.pur ds=>some ds[i]?
 |.sto n=>match M[n]? with|some (.lst xs)=>some xs[i]?|none=>none
 |.zip n m=>match M[n]?,M[m]? with
  |some (.lst xs),some (.lst ys)=>(match xs[i]?,ys[i]? with|some x,some y=>some (some (.tup [x,y]))|_,_=>some none)
  |_,_=>none
 |.enu n=>match M[n]? with|some (.lst xs)=>(match xs[i]? with|some x=>some (some (.tup [.int i,x]))|none=>some none)|none=>none
 |.zipT n es=>match M[n]? with|some (.lst xs)=>(match xs[i]?,es[i]? with|some x,some y=>some (some (.tup [x,y]))|_,_=>some none)|none=>none
 |.dct n=>match M[n]? with|some (.lst (.non::r))=>(match r[i]? with|some (.tup (k::_))=>some (some k)|some _=>none|none=>some none)|_=>none
 |.zips ns=>match ZhV M i ns with|some (some ds)=>some (some (.tup ds))|some none=>some none|none=>none
 |.rev n l=>match M[n]? with|some (.lst xs)=>if i<l then(match xs[l-1-i]? with|some x=>some (some x)|none=>none)else(if i=l then some none else none)|none=>none
def cnt(src:Src)(M:Sto):Nat:=match src with
 |.pur ds=>ds.length
 |.sto n=>match M[n]? with|some (.lst xs)=>xs.length|none=>0
 |.zip n _=>match M[n]? with|some (.lst xs)=>xs.length|none=>0
 |.enu n=>match M[n]? with|some (.lst xs)=>xs.length|none=>0
 |.rev _ l=>l
 |.zipT n _=>match M[n]? with|some (.lst xs)=>xs.length|none=>0
 |.dct n=>match M[n]? with|some (.lst xs)=>xs.length|none=>0
 |.zips ns=>match ns with|n::_=>(match M[n]? with|some (.lst xs)=>xs.length|none=>0)|[]=>0
def Ats(H:Hp)(α:List Addr):List Nat->List Addr->Prop
 |[],[]=>True
 |n::ns,l::ls=>RefK H α 0 n l/\Ats H α ns ls
 |_,_=>False
def Zpa(K:Fg)(H:Hp)(α:List Addr)(J:It)(src:Src):Prop:=∀(i:Nat) H' α' M',Ext K H H' α α'->HR K H' α' M'->match nxt src i M' with
 |some none=>J.stop i H'
 |some (some d)=>J.go i H'/\∀x H'',J.yld i H' x H''->Ext K H' H'' α' α'/\HR K H'' α' M'/\Rep K H'' α' x d
 |none=>True
def DI(X:Cx)(ξ:XK)(tg iter:Expr)(f:Ro->Sto->Out Src):Prop:=∃wi:TI,PI X tg iter wi/\∀σ ρ H α M R,SR X.K H α σ ρ->HR X.K H α M->OG X.K (Zpa X.K) H α ξ R (f ρ M)->wi σ H R
def iR1(fs:Av):Ro->Sto->Out Src:=fun ρ M=>(fs ρ M).bind fun ds M1=>match ds with
 |[.int j]=>if -(2^62)<=j/\j<2^62 then .ok (.pur (Zbp 0 j.toNat)) M1 else .bad
 |_=>.bad
theorem ZdG{K:Fg}{lo:Int}:Zpa K H α (Itr lo n) (.pur (Zbp lo n)):=by
 intro i H' α' M' ex hr;show match some (Zbp lo n)[i]? with|some none=>_|some (some d)=>_|none=>True
 by_cases h:i<n
 ·rw[Zgb h];refine⟨h,fun x H'' y=>?_⟩;obtain⟨e1,e2⟩:=y;subst e1 e2;exact⟨Ext.refl,hr,.int _⟩
 ·rw[a9 (by rw[ZdY];lia)]
  exact Nat.le_of_not_lt h
theorem ZeG(hm:X.mg "range"=none)(ha:DA X ξ [a] fs)(hgl:autoParam (Gl X "range") Qrf._auto_1)(hs:autoParam (av [a] X.env=[(false,eval a X.env)]) Qrf._auto_1):DI X ξ tg (.Call (.Name "range" p) [a] [] pos) (iR1 fs):=by
 obtain⟨ta,pa,qa⟩:=ha;refine⟨_,Zen hgl hm pa hs,fun σ ρ H α M R s hh q=>qa σ ρ H α M _ s hh (OG.seq q fun ds M1 vs H1 α1 e1 h1 r1 w1=>?_)⟩;cases r1 with
 |nil=>exact w1.elim
 |cons r tz=>
  cases tz with
  |cons _ _=>cases r<;>exact w1.elim
  |nil=>
   cases r with
   |int j=>
    by_cases c: -(2^62)<=j/\j<2^62
    ·simp only[if_pos c]at w1;exact⟨j,rfl,c.1,c.2,w1 _ H1 α1 Ext.refl h1 ZdG⟩
    ·simp only[if_neg c]at w1;exact w1.elim
   |_=>exact w1.elim
def iSq(f:Ev):Ro->Sto->Out Src:=fun ρ M=>(f ρ M).bind fun d M1=>match d with
 |.tup ds=>.ok (.pur ds) M1
 |.rol ds=>.ok (.pur ds) M1
 |.con ds=>.ok (.pur ds) M1
 |.ref n=>.ok (.sto n) M1
 |_=>.bad
theorem Zaf(ha:DE X ξ a f):DI X ξ tg a (iSq f):=by
 obtain⟨ta,pa,qa⟩:=ha;refine⟨_,Zk9 pa,fun σ ρ H α M R s hh q=>qa σ ρ H α M _ s hh (OG.seq q fun d M1 v H1 α1 e1 h1 r1 w1=>?_)⟩;cases r1 with
 |@tup p xs ds hp rp=>
  refine⟨p,rfl,.inr ⟨⟨xs,(SqT.of hp)⟩,w1 (Itt X.K p) H1 α1 Ext.refl h1 ?_⟩⟩;intro i H' α' M' ex hr;show match some ds[i]? with|some none=>_|some (some d)=>_|none=>True
  cases ei:ds[i]? with
  |none=>exact⟨xs,SqT.of (ex.tup _ _ hp),by rw[rp.length];exact bQ.mp ei⟩
  |some d=>
   obtain⟨v,k1,k2⟩:=rp.get ei;refine⟨⟨xs,v,SqT.of (ex.tup _ _ hp),k1⟩,fun x H'' y=>?_⟩;obtain⟨ey,y⟩:=y;have z:=y xs (SqT.of (ex.tup _ _ hp));rw[k1]at z;cases z;subst ey;exact⟨Ext.refl,hr,Rep.mono ex k2⟩
 |@con p xs ds hp rp=>
  refine⟨p,rfl,.inr ⟨⟨xs,hp.sq⟩,w1 (Itt X.K p) H1 α1 Ext.refl h1 ?_⟩⟩;intro i H' α' M' ex hr;show match some ds[i]? with|some none=>_|some (some d)=>_|none=>True
  cases ei:ds[i]? with
  |none=>exact⟨xs,hp.sq,by rw[rp.length];exact bQ.mp ei⟩
  |some d=>
   obtain⟨v,k1,k2⟩:=rp.get ei;refine⟨⟨xs,v,hp.sq,k1⟩,fun x H'' y=>?_⟩;obtain⟨ey,y⟩:=y;have z:=y xs hp.sq;rw[k1]at z;cases z;subst ey;exact⟨Ext.refl,hr,Rep.mono ex k2⟩
 |@rol p xs ds hp rp=>
  refine⟨p,rfl,.inl ⟨⟨xs,hp.sq⟩,w1 (Itl X.K p) H1 α1 Ext.refl h1 ?_⟩⟩;intro i H' α' M' ex hr;show match some ds[i]? with|some none=>_|some (some d)=>_|none=>True
  have hq:=(ex.rol _ _ hp).sq;cases ei:ds[i]? with
  |none=>exact⟨xs,hq,by rw[rp.length];exact bQ.mp ei⟩
  |some d=>
   obtain⟨v,k1,k2⟩:=rp.get ei;refine⟨⟨xs,v,hq,k1⟩,fun x H'' y=>?_⟩;obtain⟨ey,y⟩:=y;have z:=y xs hq;rw[k1]at z;cases z;subst ey;exact⟨Ext.refl,hr,Rep.mono ex k2⟩
 |@ref p n hp=>
  obtain⟨xs0,g0⟩:=h1.some_at hp;refine⟨p,rfl,.inl ⟨⟨xs0,SqL.of g0⟩,w1 (Itl X.K p) H1 α1 Ext.refl h1 ?_⟩⟩;intro i H' α' M' ex hr;show match(match M'[n]? with|some (.lst xs)=>some xs[i]?|none=>none)with|some none=>_|some (some d)=>_|none=>True
  cases em:M'[n]? with
  |none=>exact eU
  |some so=>
   cases so with
   |lst ds=>
    obtain⟨xs,g1,g2⟩:=hr.at (ex.get hp) em;show match some ds[i]? with|some none=>_|some (some d)=>_|none=>True
    cases ei:ds[i]? with
    |none=>exact⟨xs,SqL.of g1,by rw[g2.length];exact bQ.mp ei⟩
    |some d=>
     obtain⟨v,k1,k2⟩:=g2.get ei;refine⟨⟨xs,v,SqL.of g1,k1⟩,fun x H'' y=>?_⟩;obtain⟨ey,y⟩:=y;have z:=y xs (SqL.of g1);rw[k1]at z;cases z;subst ey;exact⟨Ext.refl,hr,k2⟩
 |_=>exact w1.elim
theorem Zaq:∀(names:List (Str×dc)) (n:Nat) (acc:List (Str×Addr)),bR n names acc=bR n names []++acc
 |[],_,_=>rfl
 | (x,kd)::r,n,acc=>by
  unfold bR;split
  ·rw[Zaq r (n+1) ((x,n)::acc),Zaq r (n+1) [(x,n)]];simp
  ·exact Zaq r n acc
theorem Za5:∀(names:List (Str×dc)) (n:Nat) (x:Str) (c:Addr),(x,c)∈bR n names []->(x,eV)∈names
 |[],_,_,_,h=>by simp[bR]at h
 | (y,kd)::r,n,x,c,h=>by
  unfold bR at h
  split at h
  ·rename_i hk;rw[Zaq]at h;rcases aY.mp h with h|h
   ·exact aG _ (Za5 r (n+1) x c h)
   ·have e:=dj.mp h;cases e
    have:kd=.cell:=by simpa using hk
    rw[this];exact bX
  ·exact aG _ (Za5 r n x c h)
theorem ZcO{α:Type}:∀{l r:List (Str×α)} {x:Str} {c:α},(l++r).lookup x=some c->l.lookup x=some c\/(l.lookup x=none/\r.lookup x=some c)
 |[],r,x,c,h=>.inr ⟨rfl,h⟩
 | (y,d)::l,r,x,c,h=>by
  rw[aQ,b7]at h;rw[b7];cases e:x==y with
  |true=>rw[e]at h;exact .inl h
  |false=>rw[e]at h;exact ZcO h
theorem ZdH{α:Type}:∀{l r:List (Str×α)} {x:Str},(∀c,(x,c)∉l)->(l++r).lookup x=r.lookup x
 |[],_,_,_=>rfl
 | (y,d)::l,r,x,h=>by
  rw[aQ,b7];cases e:x==y with
  |true=>
   have:x=y:=by simpa using e
   exact absurd (by rw[this];exact bX) (h d)
  |false=>exact ZdH fun c hc=>h c (aG _ hc)
theorem ZhW(hQ:Q (newEnv scope s.heap.objs.size globals (bR (s.heap.objs.size+1) scope.names cl) qual none .none (some env) gM) {s with heap:=ji (s.heap.push {cls:=.type "dict",data:=.dict #[]}) scope.names}):wpAny M A (lE scope globals cl [] qual none .none (some env)) Q E s:=by
 simp only[lE,jA,if_true];refine Wb (wpAny_alloc ?_);refine Wb (wpAny_layCells _ (fun name kind cells=>by cases hkc:kind==eV<;>simp[hkc]) _ _ _ _ ?_)
 rw[show({s with heap:=s.heap.push {cls:=.type "dict",data:=.dict #[]}}:aC).heap.objs.size=s.heap.objs.size+1 from fN ..];exact Wb (Wp (Wp hQ))
theorem _root_.PySem.W.cellsFrom_mem {x:Str}:∀(names:List (Str×dc)) (n:Nat) (acc:List (Str×Addr)),(x,eV)∈names->((bR n names acc).lookup x).isSome=true
 |[],_,_,h=>by simp at h
 | (y,kd)::r,n,acc,h=>by
  have acc_some:∀(names:List (Str×dc)) (n:Nat) (acc:List (Str×Addr)),(acc.lookup x).isSome=true->((bR n names acc).lookup x).isSome=true:=fun names n acc h=>PySem.W.cellsFrom_some names n acc (.inr h);unfold bR;split
  ·rcases ar.mp h with e|e
   ·cases e;refine acc_some _ _ _ ?_;rw[b7];simp
   ·exact PySem.W.cellsFrom_mem r _ _ e
  ·rename_i hk;rcases ar.mp h with e|e
   ·cases e;simp at hk
   ·exact PySem.W.cellsFrom_mem r _ _ e
noncomputable def blk(X:Cx)(scope:js)(cl:List (Str×Addr))(N:List Str)(C:Addr)(fp:List Addr)(s:aC)(H:Hp):Cx:=
 {X with N:=N,s₀:=s,H₀:=H,env:=compEnvC scope (bR (C+1) scope.names cl) C X.env,outer:=X.stack,stack:=X.stack,ex:=fp,fn:=fun x=>scope.names.any fun y=>y.1==x&&y.2 == .cell,pn:=[],xe:=fun _ _=>False,fxs:=none}
theorem Za6:Thr (blk X scope cl N C fp s H) E0:=
 ⟨fG.never,fun _ _ _ _ _ _ _ h=>by obtain⟨_,_,_,_,_,_,_,_,_,_,_,_,_,q⟩:=h;exact q,fun _ _ _ _ _ _ _ _ _ _ _ _ _ _ _ _ _ _ _ _ _ _ q=>q⟩
def Zgc(src:Src)(tg:Tg)(c:Tv)(f:Ev)(n:Nat):Nat->Nat->Ro->Sto->Out Unit
 |fuel,i,ρ,M=>match nxt src i M with
  |none=>.bad
  |some none=>.ok () M
  |some (some d)=>(match fuel with
   |0=>.bad
   |fuel+1=>(match tg d ρ with
    |none=>.bad
    |some ρ1=>(match c ρ1 M with
     |.ok true M1=>(match f ρ1 M1 with
      |.ok x M2=>(match M2[n]? with
       |some (.lst xs)=>if xs.length<10000000 then Zgc src tg c f n fuel (i+1) ρ1 (M2.set n (.lst (xs++[x])))else .bad
       |none=>.bad)
      |_=>.bad)
     |.ok false M1=>Zgc src tg c f n fuel (i+1) ρ1 M1
     |_=>.bad)))
noncomputable def roB(k:Nat)(fr:List Nat)(ρ:Ro):Ro:=bw k none++fr.map fun i=>(ρ[i]?).join
def Zai(fi:Ro->Sto->Out Src)(k:Nat)(fr:List Nat)(tg:Tg)(c:Tv)(f:Ev):Ev:=fun ρ M=>(fi ρ M).bind fun src M1=>match Zgc src tg c f M1.length (cnt src M1) 0 (roB k fr ρ) (M1++[.lst []])with
 |.ok _ M2=>.ok (.ref M1.length) M2
 |_=>.bad
structure Blk(X:Cx) (scope:js) (cl:List (Str×Addr)) (N:List Str) (k:Nat) (fr:List Nat):Prop where
 clos:mB scope X.env=pure cl
 kind:scope.kind=.function
 names:∀y∈scope.names,y.2=.local->scope.names.lookup y.1=some .local
 sub:∀x c,cl.lookup x=some c->X.env.cells.lookup x=some c
 has:∀n x,((relabel scope X.env).names.lookup x=some .cell\/(relabel scope X.env).names.lookup x=some .free)->∃c,(bR n scope.names cl).lookup x=some c
 len:N.length=k+fr.length
 at_:∀(j i:Nat),fr[j]?=some i->∃x,N[k+j]?=some x/\X.N[i]?=some x/\X.env.kindOf x=some .cell/\((relabel scope X.env).names.lookup x=some .cell\/(relabel scope X.env).names.lookup x=some .free)/\cl.lookup x=X.env.cells.lookup x/\(x,eV)∉scope.names
noncomputable def Zd0(target iter:Expr)(ifs:List Expr)(it:ae)(env:Env)(body ag:Sem Fin):Sem Fin:=do
 standAt iter.pos
 match <-jl it with
 |none=>pure (.done .next)
 |some v=>
  gG target it v
  assign target env v
  let mut ok:=true
  for c in ifs do
   if ok then ok <-isTrue c env (eval c env)
  if ok then body else ag
noncomputable def ZhX(e elt:Expr)(d:Nat)(it acc:ae)(env:Env):Sem Fin:=do
 (do let _ <-call (.builtin "list.append") [acc,<-eval elt env])
 again (.compLoop e d it acc env)
theorem Zgd(elt t0 i0:Expr)(f0:List Expr)(sc:js)(pos:Pos)(it acc:ae)(env:Env):iV (.ListComp elt [⟨t0,i0,f0,0⟩] sc pos) 0 it acc env=Zd0 t0 i0 f0 it env (ZhX (.ListComp elt [⟨t0,i0,f0,0⟩] sc pos) elt 0 it acc env) (again (.compLoop (.ListComp elt [⟨t0,i0,f0,0⟩] sc pos) 0 it acc env)):=by rfl
theorem ZgZ(he:iV (.ListComp elt gens scope pos) d it acc env=Zd0 target iter ifs it env body (again (.compLoop (.ListComp elt gens scope pos) d it acc env)))(I:Nat->aC->Prop)(turn:∀n s,I n s->wpAny (az prog w) A (jl it) (fun r s₁=>match r with
   |none=>R (.ok .next) s₁
   |some v=>wpAny (az prog w) A (gG target it v) (fun _ s₁=>wpAny (az prog w) A (assign target env v) (fun _ s₂=>
     wpAny (az prog w) A (forIn ifs true fun c r=>if r=true then do let ok <-isTrue c env (eval c env);pure (ForInStep.yield ok)else pure (ForInStep.yield r)) (fun ok s₃=>
      if ok=true then wpAny (az prog w) A body (fun fin s₅=>fin=.again (.compLoop (.ListComp elt gens scope pos) d it acc env)/\∃m,m<n/\I m s₅) (fun _ _=>False) s₃
      else ∃m,m<n/\I m s₃) (fun _ _=>False) s₂) (fun _ _=>False) s₁) (fun _ _=>False) s₁) (fun _ _=>False) s)
  (n:Nat) (h:I n s):
  fY (az prog w) A (.compLoop (.ListComp elt gens scope pos) d it acc env) R s:=by
 refine codeAny_loop rfl I (fun n s hI=>?_) n h;show wpAny _ A ((iV (.ListComp elt gens scope pos) d it acc env).onRaise (fun x=>do lY x env;theTreesLotGoes x)) _ _ s
 refine wpAny_noted ?_;rw[he];unfold Zd0;refine Wb (wpAny_standAt (Wb (wpAny_mono (turn n s hI) (fun r s₁ h₁=>?_) fun _ _ h'=>h'.elim)));cases r with
 |none=>exact Wp h₁
 |some v=>
  refine Wb (wpAny_mono h₁ (fun _ s₁ h₁=>?_) fun _ _ h'=>h'.elim);refine Wb (wpAny_mono h₁ (fun _ s₂ h₂=>Wb (wpAny_mono h₂ (fun ok s₃ h₃=>?_) fun _ _ h'=>h'.elim)) fun _ _ h'=>h'.elim);cases ok with
  |false=>exact Wp ⟨rfl,h₃⟩
  |true=>
   refine wpAny_mono h₃ (fun fin s₅ h₅=>?_) fun _ _ h'=>h'.elim;obtain⟨rfl,h5⟩:=h₅;exact⟨rfl,h5⟩
def DC(X:Cx)(ifs:List Expr)(c:Tv):Prop:=(ifs=[]/\c=fun _ M=>.ok true M)\/∃e,ifs=[e]/\DT X E0 e c
def ZcP(src:Src)(tg:Tg)(c:Tv)(g:Ro->Sto->Out Ro):Nat->Nat->Ro->Sto->Out Ro
 |fuel,i,ρ,M=>match nxt src i M with
  |none=>.bad
  |some none=>.ok ρ M
  |some (some d)=>(match fuel with
   |0=>.bad
   |fuel+1=>(match tg d ρ with
    |none=>.bad
    |some ρ1=>(match c ρ1 M with
     |.ok true M1=>(match g ρ1 M1 with
      |.ok ρ2 M2=>ZcP src tg c g fuel (i+1) ρ2 M2
      |_=>.bad)
     |.ok false M1=>ZcP src tg c g fuel (i+1) ρ1 M1
     |_=>.bad)))
noncomputable def gEm(f:Ev)(n:Nat):Ro->Sto->Out Ro:=fun ρ M=>match f ρ M with
 |.ok x M2=>(match M2[n]? with
  |some (.lst xs)=>if xs.length<10000000 then .ok ρ (M2.set n (.lst (xs++[x])))else .bad
  |none=>.bad)
 |_=>.bad
def Zbt(fi:Ro->Sto->Out Src)(k:Nat)(fr:List Nat)(tg:Tg)(c:Tv)(g:Nat->Ro->Sto->Out Ro):Ev:=fun ρ M=>(fi ρ M).bind fun src M1=>match ZcP src tg c (g M1.length) (cnt src M1) 0 (roB k fr ρ) (M1++[.lst []])with
 |.ok _ M2=>.ok (.ref M1.length) M2
 |_=>.bad
def ZdI(Y:Cx)(D:Addr)(n0:Nat)(c:Code)(m:Sem Fin)(g:Ro->Sto->Out Ro):Prop:=∀pins s σ ρ H α M ρ' M',Inv Y pins σ H s->SR Y.K H α σ ρ->HR Y.K H α M->RefK H α 0 n0 D->g ρ M=.ok ρ' M'->
 wpAny (az Y.prog Y.w) Y.A m (fun fin s'=>fin=.again c/\∃σ' H' α',Inv Y pins σ' H' s'/\Ext Y.K H H' α α'/\SR Y.K H' α' σ' ρ'/\HR Y.K H' α' M') (fun _ _=>False) s
def CmP(Y:Cx)(pins:Pn)(fp:List Addr)(tn:Nat->Heap->Prop)(H3:Hp)(α3:List Addr)(g:Nat->Nat->Ro->Sto->Prop)(n:Nat)(s':aC):Prop:=
 ∃i σ' ρ' H' α' M',Inv Y pins σ' H' s'/\tn i s'.heap/\(∀b∈fp,H' b=none)/\SR Y.K H' α' σ' ρ'/\HR Y.K H' α' M'/\Ext Y.K H3 H' α3 α'/\g n i ρ' M'
theorem ZeH{D:Addr}(hct:iV (.ListComp elt gens scope pos) d0 (.ref it) (.ref D) Y.env=Zd0 tg iter ifs (.ref it) Y.env body (again (.compLoop (.ListComp elt gens scope pos) d0 (.ref it) (.ref D) Y.env)))(T:Turn Y.prog Y.w Y.K Y.A tg J fp it tn)(hxe:∀x y,Y.xe x y->False)(fp5:∀{H':Hp},(∀b∈fp,H' b=none)->∀b∈fp,Ze9 Y pins H' b)(hg:DG Y tg gt)(tst:DC Y ifs c)(hb:ZdI Y D n0 (.compLoop (.ListComp elt gens scope pos) d0 (.ref it) (.ref D) Y.env) body g)(sc:Zpa Y.K H3 α3 J src)(aD:RefK H3 α3 0 n0 D)(I4:Inv Y pins σ0 H3 s4)(st4:tn 0 s4.heap)(fr4:∀b∈fp,H3 b=none)(sr:SR Y.K H3 α3 σ0 ρ0)(h3:HR Y.K H3 α3 M3)(er:ZcP src gt c g fuel 0 ρ0 M3=.ok ρ9 M9)(post:∀σ5 H5 α5 s6,Inv Y pins σ5 H5 s6->Ext Y.K H3 H5 α3 α5->SR Y.K H5 α5 σ5 ρ9->HR Y.K H5 α5 M9->R (.ok .next) s6):fY (az Y.prog Y.w) Y.A (.compLoop (.ListComp elt gens scope pos) d0 (.ref it) (.ref D) Y.env) R s4:=by
 obtain⟨tt,pt,qt⟩:=hg;refine ZgZ hct (CmP Y pins fp tn H3 α3 fun n i ρ' M'=>ZcP src gt c g n i ρ' M'=.ok ρ9 M9) ?_ fuel ⟨0,σ0,ρ0,H3,α3,M3,I4,st4,fr4,sr,h3,Ext.refl,er⟩;rintro n s5 ⟨i,σ5,ρ5,H5,α5,M5,I5,st5,fr5,sr5,hr5,ex5,en⟩;have src5:=sc i H5 α5 M5 ex5 hr5;rw[ZcP]at en;cases ex:nxt src i M5 with
 |none=>rw[ex]at en;cases en
 |some od=>
  rw[ex]at src5 en;cases od with
  |none=>
   cases en;have fin:=T.done Y rfl rfl rfl rfl i pins s5 σ5 H5 (fun _ _=>False) I5 (fp5 fr5) st5 src5;refine thn fin fun r s6 w6=>?_;obtain⟨hr6,I6⟩:=w6;subst hr6;exact post σ5 H5 α5 s6 I6 ex5 sr5 hr5
  |some d=>
   obtain⟨go,yl⟩:=src5;cases n with
   |zero=>cases en
   |succ n=>
    simp only at en;have itm:=T.item Y rfl rfl rfl rfl i pins s5 σ5 H5 (fun _ _=>False) I5 (fp5 fr5) st5 go;refine thn itm fun r s6 hz=>?_;obtain⟨u,hr6,w6⟩:=hz;subst hr6;refine thn w6 fun _ s7 hz=>?_;obtain⟨x,H7,I7,r7,y7,st7,fr7⟩:=hz;obtain⟨ex7,hr7,rp7⟩:=yl x H7 y7;have sr5:=sr5.mono ex7;have hr5:=hr7;have ex5:=ex5.trans ex7;have I7':=I7.pinned (fp5 fr7) (T.obj _ _ st7);cases eg:gt d ρ5 with
    |none=>rw[eg]at en;cases en
    |some ρ6=>
     rw[eg]at en;simp only at en;have asg:=pt _ s7 σ5 H7 x u _ I7' r7 (qt x d σ5 ρ5 H7 α5 ρ6 (fun σ' H'=>H'=H7/\SR Y.K H7 α5 σ' ρ6) sr5 rp7 eg fun σ' s'=>⟨rfl,s'⟩);refine wpAny_mono asg (fun _ s8 ⟨σ8,H8,I8,z8,sr8⟩=>?_) (fun x y z=>hxe x y z);subst z8;have again':∀{σ9:L2.St}{H9:Hp}{s9:aC},Inv Y (pins++Zdx fp s7.heap) σ9 H9 s9->Inv Y pins σ9 H9 s9/\tn (i+1) s9.heap/\∀b∈fp,H9 b=none:=fun{σ9 H9 s9} I9=>by
      refine⟨I9.unpinned,T.keep _ _ _ st7 fun b hb o e=>(I9.pin (b,o) (a8 _ (a8 _ (ZbA hb e)))).1,fun b hb=>?_⟩;obtain⟨o,e,_⟩:=T.obj _ _ st7 b hb;exact(I9.pin (b,o) (a8 _ (a8 _ (ZbA hb e)))).2.1
     have after:∀(kk:Bool)(M8:Sto)(H9:Hp)(α9:List Addr)(s9:aC),Inv Y (pins++Zdx fp s7.heap) σ8 H9 s9->Ext Y.K H8 H9 α5 α9->HR Y.K H9 α9 M8->c ρ6 M5=.ok kk M8->
       (if kk=true then wpAny (az Y.prog Y.w) Y.A body (fun fin s₅=>fin=.again (.compLoop (.ListComp elt gens scope pos) d0 (.ref it) (.ref D) Y.env)/\∃m,m<n+1/\CmP Y pins fp tn H3 α3 (fun n i ρ' M'=>ZcP src gt c g n i ρ' M'=.ok ρ9 M9) m s₅) (fun _ _=>False) s9 else ∃m,m<n+1/\CmP Y pins fp tn H3 α3 (fun n i ρ' M'=>ZcP src gt c g n i ρ' M'=.ok ρ9 M9) m s9):=by
      intro kk M8 H9 α9 s9 I9 ex9 hr9 ec;rw[ec]at en;cases kk with
      |false=>
       obtain⟨a1,a2,a3⟩:=again' I9;exact Zn4 ⟨n,dP n,i+1,σ8,ρ6,H9,α9,M8,a1,a2,a3,sr8.mono ex9,hr9,ex5.trans ex9,en⟩
      |true=>
       simp only at en;refine Zn5 ?_;cases ef:g ρ6 M8 with
       |exc x9 M10=>rw[ef]at en;cases en
       |bad=>rw[ef]at en;cases en
       |ok ρ10 M10=>
        rw[ef]at en;simp only at en;refine thn (hb _ s9 σ8 ρ6 H9 α9 M8 ρ10 M10 I9 (sr8.mono ex9) hr9 (ex9.get (ex5.get aD)) ef) fun fin s10 hz=>?_;obtain⟨hf,σ10,H10,α10,I10,ex10,sr10,hr10⟩:=hz;obtain⟨a1,a2,a3⟩:=again' I10;exact⟨hf,n,dP n,i+1,σ10,ρ10,H10,α10,M10,a1,a2,a3,sr10,hr10,(ex5.trans ex9).trans ex10,en⟩
     rcases tst with⟨rfl,ec⟩|⟨e,rfl,tt',ptt,qtt⟩
     ·refine wpAny_tests_nil ?_;exact after true M5 H8 α5 s8 I8 Ext.refl hr5 (by rw[ec])
     ·refine wpAny_tests_one ?_;cases ec:c ρ6 M5 with
      |exc x9 M10=>rw[ec]at en;cases en
      |bad=>rw[ec]at en;cases en
      |ok kk M8=>
       have tv':=ptt _ s8 σ8 H8 (fun b H'=>b=kk/\∃α',Ext Y.K H8 H' α5 α'/\HR Y.K H' α' M8) I8 (qtt σ8 ρ6 H8 α5 M5 _ sr8 hr5 (by
        rw[ec];exact fun v H' α' e h r=>⟨r,α',e,h⟩))
       refine wpAny_mono tv' (fun b s9 ⟨H9,I9,zb,α9,ex9,hr9⟩=>?_) (fun x y z=>hxe x y z);subst zb;exact after b M8 H9 α9 s9 I9 ex9 hr9 ec
theorem Zc2{D:Addr}(hxe:∀x y,Y.xe x y->False)(he:DE Y E0 elt f):ZdI Y D n0 (.compLoop e d0 (.ref it) (.ref D) Y.env) (ZhX e elt d0 (.ref it) (.ref D) Y.env) (gEm f n0):=by
 obtain⟨te,pe,qe⟩:=he;intro pins s σ ρ H α M ρ' M' I sr hr aD en;unfold gEm at en;cases ef:f ρ M with
 |exc x9 M10=>rw[ef]at en;cases en
 |bad=>rw[ef]at en;cases en
 |ok y M10=>
  rw[ef]at en;simp only at en;have ev:=pe _ s σ H (fun v H'=>∃α',Ext Y.K H H' α α'/\HR Y.K H' α' M10/\Rep Y.K H' α' v y) I (qe σ ρ H α M _ sr hr (by
   rw[ef];exact fun v H' α' e h r=>⟨α',e,h,r⟩))
  unfold ZhX;refine Wb (Wb (wpAny_mono ev (fun yv s10 ⟨v,H10,I10,r10,α10,ex10,hr10,rp10⟩=>?_) (fun x y z=>hxe x y z)));cases em:M10[n0]? with
  |none=>rw[em]at en;cases en
  |some so=>
   cases so with
   |lst ds=>
    rw[em]at en;simp only at en;by_cases cz:ds.length<10000000
    ·rw[if_pos cz]at en;cases en;have aD10:=ex10.get aD;obtain⟨xs,g1,g2⟩:=hr10.at aD10 em;have ap:=Zev (X:=Y) _ s10 σ H10 (.ref D) [v] (.ref D) [yv] (fun _ H'=>H'=upd H10 D (.lst (xs++[v]))) I10 rfl (.cons r10 .nil) ⟨D,xs,v,rfl,rfl,g1,by rw[g2.length];exact ai cz (by decide),rfl⟩
     refine Wb (wpAny_mono ap (fun _ s11 ⟨v11,H11,I11,_,z11⟩=>?_) (fun x y z=>hxe x y z));subst z11;have exw:Ext Y.K H10 (upd H10 D (.lst (xs++[v]))) α10 α10:=Ext.wr g1;exact Wp (Wp ⟨rfl,σ,_,α10,I11,ex10.trans exw,(sr.mono ex10).mono exw,hr10.wr aD10 g1 (g2.append (.cons rp10 .nil))⟩)
    ·rw[if_neg cz]at en;cases en
section
variable {X:Cx}{tg iter elt:Expr}{ifs:List Expr}{Zav:List Comprehension}{scope:js}{cl:List (Str×Addr)}{N:List Str}{k:Nat}{fr:List Nat}{gt:Tg}{c:Tv}{g:Nat->Ro->Sto->Out Ro}{pos:Pos}{bd:ae->ae->Env->Sem Fin}
theorem join_some{α:Type}{o:Option (Option α)}{v:α}(h:o.join=some v):o=some (some v):=by
 cases o with
 |none=>cases h
 |some x=>cases x with
  |none=>cases h
  |some y=>cases h;rfl
theorem ZmB(h:(roB k fr ρ)[i]?=some (some d)):∃j r,i=k+j/\fr[j]?=some r/\ρ[r]?=some (some d):=by
 unfold roB at h;by_cases hi:i<k
 ·rw[ah (by rw[bN];exact hi)]at h
  have:=cV h
  rw[jB]at this;cases this.2
 ·rw[aI (by rw[bN];lia),bN,bB]at h
  cases e:fr[i-k]? with
  |none=>rw[e]at h;cases h
  |some r=>
   rw[e]at h;exact⟨i-k,r,by lia,e,join_some (aX h)⟩
noncomputable def stB(k:Nat)(fr:List Nat)(σ:L2.St):L2.St:=bw k none++fr.map fun i=>(σ[i]?).join
theorem ZmC(h:(stB k fr σ)[i]?=some (some d)):∃j r,i=k+j/\fr[j]?=some r/\σ[r]?=some (some d):=by
 unfold stB at h;by_cases hi:i<k
 ·rw[ah (by rw[bN];exact hi)]at h
  have:=cV h
  rw[jB]at this;cases this.2
 ·rw[aI (by rw[bN];lia),bN,bB]at h
  cases e:fr[i-k]? with
  |none=>rw[e]at h;cases h
  |some r=>
   rw[e]at h;exact⟨i-k,r,by lia,e,join_some (aX h)⟩
theorem SR.blk{K:Fg}(h:SR K H α σ ρ):SR K H α (stB k fr σ) (roB k fr ρ):=by
 refine⟨by simp[stB,roB],fun i d e=>?_⟩
 obtain⟨j,r,rfl,e1,e2⟩:=ZmB e;obtain⟨v,e3,e4⟩:=h.2 r d e2;refine⟨v,?_,e4⟩;unfold stB;rw[aI (by rw[bN];lia),bN,bB,Nat.add_sub_cancel_left,e1]
 show some (σ[r]?).join=_;rw[e3];rfl
theorem Zj4(h:Heap):CellsOk (ji (h.push {cls:=.type "dict",data:=.dict #[]}) scope.names) (h.objs.size+1) (bR (h.objs.size+1) scope.names []):=by
 have:=cellsFrom_ok scope.names (h.push {cls:=.type "dict",data:=.dict #[]}) (h.objs.size+1) [] ⟨fun _ _ hm=>(nomatch hm),iN.nil⟩ (by rw[fN];exact aj _)
 rw[fN]at this;exact this
theorem ZbW(B:Blk X scope cl N k fr){h:Heap}{c:Addr}(e:(bR (h.objs.size+1) scope.names cl).lookup x=some c):(X.env.cells.lookup x=some c)\/((x,c)∈bR (h.objs.size+1) scope.names []/\h.objs.size+1<=c):=by
 rw[Zaq]at e;rcases ZcO e with z|⟨_,z⟩
 ·have m:=PySem.mem_of_lookup z;exact .inr ⟨m,((Zj4 h).empty x c m).2⟩
 ·exact .inl (B.sub x c z)
theorem Zlb(B:Blk X scope cl N k fr){fp:List Addr}(I:Inv X pins σ H s)(hf:∀b∈fp,Ze9 X pins H b)(hlt:∀b∈fp,b<s.heap.objs.size)(hb:b∈fp){c:Addr}(h:(bR (s.heap.objs.size+1) scope.names cl).lookup x=some c):c≠b:=by
 rcases ZbW B h with z|⟨_,z⟩
 ·exact(hf b hb).2.2.2.2.1 x c z
 ·exact bz (ic (hlt b hb) z)
theorem Zlc(B:Blk X scope cl N k fr)(I:Inv X pins σ H s)(hf:∀b∈fp,Ze9 X pins H b)(hlt:∀b∈fp,b<s.heap.objs.size):(blk X scope cl N s.heap.objs.size fp s H).Ok where
 mod:=I.ok.mod
 kind:=B.kind
 glob:=I.ok.glob
 blt:=I.ok.blt
 above:=aj _
 inj:=fun x y c h1 h2=>by
  have old:∀{x c},X.env.cells.lookup x=some c->c<s.heap.objs.size:=fun{x c} e=>by
   obtain⟨v,q⟩:=I.cell x c e;exact q.lt
  rcases ZbW B h1 with z|⟨m1,z⟩<;>rcases ZbW B h2 with w|⟨m2,w⟩
  ·exact I.ok.inj x y c z w
  ·exact absurd (ic (old z) w) (cG _)
  ·exact absurd (ic (old w) z) (cG _)
  ·exact name_of_addr (Zj4 (scope:=scope) s.heap).apart m1 m2
 has:=fun x h=>B.has _ x h
 cab:=fun x c h e=>by
  obtain⟨y,hy,hz⟩:=iI.mp h;simp only[aS,beq_iff_eq]at hz;have e':(bR (s.heap.objs.size+1) scope.names []++cl).lookup x=some c:=by rw[<-Zaq];exact e
  have hs:=PySem.W.cellsFrom_mem scope.names (s.heap.objs.size+1) [] (x:=x) (by rw[<-hz.1,<-hz.2];exact hy)
  rcases ZcO e' with z|⟨z,_⟩
  ·exact dI ((Zj4 (scope:=scope) s.heap).empty x c (PySem.mem_of_lookup z)).2
  ·rw[z]at hs;cases hs
 hd:=I.ok.hd
 frames:=I.ok.frames
 stk:=.inl rfl
 exf:=fun b hb=>⟨aE (hlt b hb),fun x c h=>Zlb B I hf hlt hb h⟩
 bs:=I.bs
 bsz:=aT I.ok.bsz I.sz
 noex:=fun b o e hb=>by
  rcases(hf b hb).2.2.2.1 with z|z
  ·exact I.ok.noex b o e z
  ·exact absurd (ai (Hz (I.ok.bs b o e).1) z) (cG _)
 exfs:=fun b hb z=>by
  rcases ar.mp (I.stkSub b z)with e|e
  ·exact(hf b hb).2.1 e
  ·exact(hf b hb).2.2.1 e
 funs:=I.stack
 frf:=I.stkFree
 tb:=I.ok.tb.un I.base
theorem ZmD(B:Blk X scope cl N k fr)(I:Inv X pins σ H s)(hf:∀b∈fp,Ze9 X pins H b)(hlt:∀b∈fp,b<s.heap.objs.size):Inv (blk X scope cl N s.heap.objs.size fp s H) [] (stB k fr σ) H {s with heap:=ji (s.heap.push {cls:=.type "dict",data:=.dict #[]}) scope.names}:=by
 have hk:∀b o,s.heap.get? b=some o->(ji (s.heap.push {cls:=.type "dict",data:=.dict #[]}) scope.names).get? b=some o:=fun b o e=>kI _ _ b o (Hq _ e);have hn:(ji (s.heap.push {cls:=.type "dict",data:=.dict #[]}) scope.names).Ns s.heap.objs.size (fun _=>none):=(ni.Ns.new s.heap (.type "dict")).keeps (kI _ _);have nw:=Zj4 (scope:=scope) s.heap;exact {
  ok:=Zlc B I hf hlt
  os:=rfl
  bare:=I.bare
  base:=Un.kept hk
  loc:=by
   refine⟨_,hn,fun i x v e1 e2 e3=>?_⟩;obtain⟨j,r,rfl,g1,g2⟩:=ZmC e2;obtain⟨y,k1,k2,k3,k4,k5,k6⟩:=B.at_ j r g1;have exy:x=y:=aX (e1.symm.trans k1);subst exy;obtain⟨m0,hm0,hl⟩:=I.loc;obtain⟨u,ru,lk⟩:=hl r x v k2 g2 (.inr (.inl k3));refine⟨u,ru,?_⟩;rcases lk with⟨z,_⟩|⟨_,c,z1,⟨o,z2,z3⟩⟩
   ·rw[k3]at z;cases z
   ·refine .inr ⟨k4,c,?_,⟨o,hk _ _ z2,z3⟩⟩;show(bR (s.heap.objs.size+1) scope.names cl).lookup x=some c;rw[Zaq,ZdH fun c' hc'=>k6 (Za5 _ _ _ _ hc')];exact k5.trans z1
  cell:=fun x c h=>by
   rcases ZbW B h with z|⟨m,_⟩
   ·obtain⟨v,o,e1,e2⟩:=I.cell x c z;exact⟨v,o,hk _ _ e1,e2⟩
   ·exact⟨none,(nw.empty x c m).1⟩
  free:=I.fresh
  freeC:=fun x c h=>by
   rcases ZbW B h with z|⟨_,z⟩
   ·exact I.freeC x c z
   ·exact I.hok.fresh (dI z)
  pin:=fun p hp=>(by simp[blk]at hp)
  hok:=I.hok.kept hk
  len:=by
   show(stB k fr σ).length=N.length;rw[B.len];simp[stB]
  qd:=I.qd
  fx:=.free rfl}
theorem Zj5(B:Blk X scope cl N k fr)(I3:Inv X pins σ H3 s3)(f3:∀b∈fp,Ze9 X pins H3 b)(I6:Inv (blk X scope cl N s3.heap.objs.size fp s3 H3) [] σ5 H5 s6):Inv X pins σ H5 s6/\∀(σ':L2.St)(s8:aC)(h':Heap),Inv X pins σ' H5 s8->(∀b o,b≠s3.heap.objs.size->s8.heap.get? b=some o->h'.get? b=some o)->Inv X pins σ' H5 {s8 with heap:=h',toks:=s8.toks}:=by
 refine⟨I3.call' (s':=s6) (ch:=fp) I6.os I6.base I6.hok I6.bare fun b hb=>?_,fun σ' s8 h' I8 sb=>?_⟩
 ·obtain⟨_,z1,z2,z3,z4,z5⟩:=f3 b hb;exact⟨z3,z1,z4,z5⟩
 ·exact I8.turned (it:=s3.heap.objs.size) sb I6.free (bz I3.lt) (.inr I3.sz)
   (fun x c h z=>by
    obtain⟨v,o,e,_⟩:=I3.cell x c h;exact absurd (Hz e) (by rw[z];exact cG _)) (fun p hp z=>by
    have:=(I3.pin p hp).1
    exact absurd (Hz this) (by rw[z];exact cG _))
theorem Zge(B:Blk X scope cl N k fr)(pi:PI X tg iter wi)(hg:∀C fp s H,DG (blk X scope cl N C fp s H) tg gt)(ht:∀C fp s H,DC (blk X scope cl N C fp s H) ifs c)(hct:∀it acc env,iV (.ListComp elt (⟨tg,iter,ifs,0⟩::Zav) scope pos) 0 it acc env=Zd0 tg iter ifs it env (bd it acc env) (again (.compLoop (.ListComp elt (⟨tg,iter,ifs,0⟩::Zav) scope pos) 0 it acc env)))(he:∀C fp s H (D n0:Nat) (it:Addr),ZdI (blk X scope cl N C fp s H) D n0 (.compLoop (.ListComp elt (⟨tg,iter,ifs,0⟩::Zav) scope pos) 0 (.ref it) (.ref D) (blk X scope cl N C fp s H).env) (bd (.ref it) (.ref D) (blk X scope cl N C fp s H).env) (g n0))(hs:∀x,foldedSetIterable iter X.env x=pure x)(sr:SR X.K H α σ ρ)(I:Inv X pins σ H s)(w:wi σ H fun J H2=>∃α2 M2 src ρ9 M9,Ext X.K H H2 α α2/\HR X.K H2 α2 M2/\Zpa X.K H2 α2 J src/\ZcP src gt c (g M2.length) (cnt src M2) 0 (roB k fr ρ) (M2++[.lst []])=.ok ρ9 M9/\∀(D C:Addr) H5 α5 s6 m6,Ext X.K H2 H5 α2 α5->HR X.K H5 α5 M9->RefK H5 α5 0 M2.length D->Inv X pins σ H5 s6->s6.heap.Ns C m6->C≠X.env.locals->(∀x,X.env.cells.lookup x≠some C)->(∀(σ':L2.St)(s8:aC)(h':Heap),Inv X pins σ' H5 s8->(∀b o,b≠C->s8.heap.get? b=some o->h'.get? b=some o)->Inv X pins σ' H5 {s8 with heap:=h',toks:=s8.toks})->compPost (az X.prog X.w) X.A X.xe use P (.ref D) C (.ok .next) s6):wpAny (az X.prog X.w) X.A (comprehension (.ListComp elt (⟨tg,iter,ifs,0⟩::Zav) scope pos) scope X.env pos' (newList []) false (eval iter X.env) use) P X.xe s:=by
 refine wpAny_comprehension_free rfl hs B.clos B.kind B.names ?_;refine thn (pi pins s σ H _ I w) fun v s1 w1=>thn w1 fun itv s2 w2=>?_;obtain⟨it,fp,tn,J,H2,rfl,I2,T,st2,f2,α2,M2,src,ρ9,M9,e2,h2,sc,er,op2⟩:=w2;have srI:=sr.mono e2;refine cu ?_;have I3:Inv X pins σ (upd H2 s2.heap.objs.size (.lst [])) {s2 with heap:=s2.heap.push {cls:=.type "list",data:=.seq ([]:List ae).toArray}}:=I2.lnew (its:=[]) (t':=s2.toks) .nil (eN _);have fD:H2 s2.heap.objs.size=none:=I2.fresh;generalize hD:s2.heap.objs.size=D at I3 fD;generalize hs3:({s2 with heap:=s2.heap.push {cls:=.type "list",data:=.seq ([]:List ae).toArray}}:aC)=s3 at I3;generalize hH3:upd H2 D (.lst [])=H3 at I3;have h3:HR X.K H3 (α2++[D]) (M2++[.lst []]):=by rw[<-hH3];exact h2.new fD .nil
 have e3:Ext X.K H2 H3 α2 (α2++[D]):=by rw[<-hH3];exact Ext.new fD
 have aD:RefK H3 (α2++[D]) 0 M2.length D:=⟨h2.last D,by first|exact Kn.lst Zy|(rw[<-hH3];exact Kn.lst Zy)⟩
 have lt2:∀b∈fp,b<s2.heap.objs.size:=fun b hb=>let ⟨o,e,_⟩:=T.obj _ _ st2 b hb;Hz e;have keep3:∀b o,s2.heap.get? b=some o->s3.heap.get? b=some o:=fun b o e=>by rw[<-hs3];exact Hq _ e
 have f3:∀b∈fp,Ze9 X pins H3 b:=fun b hb=>⟨by rw[<-hH3,ZH (by rw[<-hD];exact aE (lt2 b hb))];exact(f2 b hb).1,(f2 b hb).2⟩
 have lt3:∀b∈fp,b<s3.heap.objs.size:=fun b hb=>let ⟨o,e,_⟩:=T.obj _ _ st2 b hb;Hz (keep3 b o e);have st3:tn 0 s3.heap:=T.keep _ _ _ st2 fun b _ o e=>keep3 b o e;refine ZhW ?_;have keep4:∀b o,s3.heap.get? b=some o->(ji (s3.heap.push {cls:=.type "dict",data:=.dict #[]}) scope.names).get? b=some o:=fun b o e=>kI _ _ b o (Hq _ e);have I4:=ZmD B I3 f3 lt3;generalize ji (s3.heap.push {cls:=.type "dict",data:=.dict #[]}) scope.names=h₁ at keep4 I4;have st4:tn 0 h₁:=T.keep _ _ _ st3 fun b _ o e=>keep4 b o e;have fp5:∀{H':Hp},(∀b∈fp,H' b=none)->∀b∈fp,Ze9 (blk X scope cl N s3.heap.objs.size fp s3 H3) [] H' b:=fun hn b hb=>⟨hn b hb,aE (lt3 b hb),(Zlc B I3 f3 lt3).exfs b hb,.inl hb,fun x c h=>Zlb B I3 f3 lt3 hb h,fun p hp=>(by simp[blk]at hp)⟩
 have loop:fY (az X.prog X.w) X.A (.compLoop (.ListComp elt (⟨tg,iter,ifs,0⟩::Zav) scope pos) 0 (.ref it) (.ref D) (compEnvC scope (bR (s3.heap.objs.size+1) scope.names cl) s3.heap.objs.size X.env)) (compPost (az X.prog X.w) X.A X.xe use P (.ref D) s3.heap.objs.size) {s3 with heap:=h₁}:=by
  refine ZeH (Y:=blk X scope cl N s3.heap.objs.size fp s3 H3) (hct _ _ _) T (fun _ _ z=>z) fp5 (hg _ fp s3 H3) (ht _ fp s3 H3) (he _ fp s3 H3 D M2.length it) (fun i H' α' M' ex hr=>sc i H' α' M' (e3.trans ex) hr) aD I4 st4 (fun b hb=>(f3 b hb).1) ((srI.blk).mono e3) h3 er ?_;intro σ5 H5 α5 s6 I6 ex5 sr5 hr5;obtain⟨I7,I8⟩:=Zj5 B I3 f3 I6;obtain⟨m6,hm6,_⟩:=id I6.loc;exact op2 D _ H5 α5 s6 m6 (e3.trans ex5) hr5 (ex5.get aD) I7 hm6 (bz I3.lt) (fun x h=>by
   obtain⟨v,o,e,_⟩:=I3.cell x _ h;exact absurd (Hz e) (cG _)) I8
 exact codeAny_compStart_list loop (T.self X.A 0 _ _ _ st4 loop)
theorem Zgf(B:Blk X scope cl N k fr)(hi:DI X ξ tg iter fi)(hg:∀C fp s H,DG (blk X scope cl N C fp s H) tg gt)(ht:∀C fp s H,DC (blk X scope cl N C fp s H) ifs c)(hct:∀it acc env,iV (.ListComp elt (⟨tg,iter,ifs,0⟩::Zav) scope pos) 0 it acc env=Zd0 tg iter ifs it env (bd it acc env) (again (.compLoop (.ListComp elt (⟨tg,iter,ifs,0⟩::Zav) scope pos) 0 it acc env)))(he:∀C fp s H (D n0:Nat) (it:Addr),ZdI (blk X scope cl N C fp s H) D n0 (.compLoop (.ListComp elt (⟨tg,iter,ifs,0⟩::Zav) scope pos) 0 (.ref it) (.ref D) (blk X scope cl N C fp s H).env) (bd (.ref it) (.ref D) (blk X scope cl N C fp s H).env) (g n0))(hs:∀x,foldedSetIterable iter X.env x=pure x):DE X ξ (.ListComp elt (⟨tg,iter,ifs,0⟩::Zav) scope pos) (Zbt fi k fr gt c g):=by
 obtain⟨wi,pi,qi⟩:=hi;refine⟨fun σ H Q=>∃ρ α M,SR X.K H α σ ρ/\HR X.K H α M/\OP X.K H α ξ Q (Zbt fi k fr gt c g ρ M),?_,fun σ ρ H α M Q s h q=>⟨ρ,α,M,s,h,q⟩⟩;rintro pins s σ H Q I ⟨ρ,α,M,sr,hr,op⟩;rw[eval_ListComp];refine Zge B pi hg ht hct he hs sr I (qi σ ρ H α M _ sr hr (OG.seq op fun src M1 J H1 α1 e1 h1 r1 q1=>?_));cases er:ZcP src gt c (g M1.length) (cnt src M1) 0 (roB k fr ρ) (M1++[.lst []])with
 |ok u9 M9=>
  rw[er]at q1;exact⟨α1,M1,src,u9,M9,e1,h1,r1,er,fun D C H5 α5 s6 m6 ex5 hr5 aD I7 hm6 _ _ I8=>⟨m6,hm6,fun h' sb=>⟨.ref D,H5,I8 σ s6 h' I7 (fun b o hb e=>(sb.2 b hb).trans e),rfl,q1 _ H5 α5 ex5 hr5 (.ref aD)⟩⟩⟩
 |_=>rw[er]at q1;exact q1.elim
theorem Zpb{tg:Tg}{c:Tv}:∀(fuel i:Nat)(ρ:Ro)(M:Sto),Zgc src tg c f n fuel i ρ M=(ZcP src tg c (gEm f n) fuel i ρ M).bind fun _ M=>.ok () M:=by
 intro fuel
 induction fuel with
 |zero=>
  intro i ρ M;rw[Zgc,ZcP];rcases nxt src i M with _|_|d<;>rfl
 |succ fuel ih=>
  intro i ρ M;rw[Zgc,ZcP];rcases nxt src i M with _|_|d
  ·rfl
  ·rfl
  ·dsimp only;cases tg d ρ with
   |none=>rfl
   |some ρ1=>
    dsimp only;rcases c ρ1 M with⟨_|_,M1⟩|_|_
    ·exact ih _ _ _
    ·dsimp only[gEm];rcases f ρ1 M1 with⟨x,M2⟩|_|_
     ·dsimp only;rcases M2[n]? with _|⟨xs⟩
      ·rfl
      ·dsimp only;split
       ·exact ih _ _ _
       ·rfl
     ·rfl
     ·rfl
    ·rfl
    ·rfl
theorem Zgg:Zai fi k fr gt c f=Zbt fi k fr gt c (gEm f):=by
 funext ρ M;unfold Zai Zbt;congr 1;funext src M1;rw[Zpb];cases ZcP src gt c (gEm f M1.length) (cnt src M1) 0 (roB k fr ρ) (M1++[.lst []])<;>rfl
theorem Zaj(B:Blk X scope cl N k fr)(hi:DI X ξ tg iter fi)(h:Blk X scope cl N k fr->∀C fp s H,DG (blk X scope cl N C fp s H) tg gt/\DC (blk X scope cl N C fp s H) ifs c/\DE (blk X scope cl N C fp s H) E0 elt f)(hs:autoParam (∀x,foldedSetIterable iter X.env x=pure x) Qin._auto_1):DE X ξ (.ListComp elt [⟨tg,iter,ifs,0⟩] scope pos) (Zai fi k fr gt c f):=
 Zgg▸Zgf B hi (fun C fp s H=>(h B C fp s H).1) (fun C fp s H=>(h B C fp s H).2.1) (Zgd elt tg iter ifs scope pos) (fun C fp s H D n0 it=>Zc2 (fun _ _ z=>z) (h B C fp s H).2.2) hs
end
end DL
namespace DL
open PyProof.Rows L2
theorem ZrC{names:List (Str×dc)}{env:Env}(h:names.all (fun y=>y.2 != .cell&&y.2 != .free)=true):(names.map fun(n,k)=>if(k==dN&&env.scope.kind == .function&&env.kindOf n==some .cell)then(n,eV)else(n,k))=names:=by
 induction names with
 |nil=>rfl
 |cons y r ih=>
  rw[List.all_cons,aS]at h;obtain⟨n,kd⟩:=y;have hk:(kd==dN)=false:=by
   have h1:=h.1;rw[aS]at h1;have h2:=h1.2;cases kd<;>first|rfl|simp at h2
  rw[aL,ih h.2];simp[hk]
theorem Zfj{env:Env}:∀(names:List (Str×dc)) (acc:List (Str×Addr)),(∀y∈names,y.2=.free->∃c,env.cells.lookup y.1=some c)->(forIn names acc fun(x:Str×dc) (cs:List (Str×Addr))=>if x.2==dN then(do let a <-cellOf env x.1;pure (ForInStep.yield ((x.1,a)::cs)))else(pure (ForInStep.yield cs):Sem _))=
   (pure (((names.filter fun y=>y.2 == .free).map fun y=>(y.1,(env.cells.lookup y.1).getD 0)).reverse++acc):Sem (List (Str×Addr)))
 |[],acc,_=>by simp
 | (n,kd)::r,acc,h=>by
  rw[List.forIn_cons];by_cases hk:(kd==dN)=true
  ·obtain⟨c,hc⟩:=h (n,kd) bX (by simpa using hk)
   have e1:cellOf env n=pure c:=by unfold cellOf;rw[hc]
   have ih:=Zfj r ((n,c)::acc) fun y hy=>h y (aG _ hy);simp only[hk,if_true,e1,pure_bind];refine Eq.trans ih ?_;simp[List.filter_cons,hk,hc]
  ·have ih:=Zfj r acc fun y hy=>h y (aG _ hy);simp only[hk,if_false,pure_bind];refine Eq.trans ih ?_;simp[List.filter_cons,hk]
noncomputable def clF(scope:js)(env:Env):List (Str×Addr):=((scope.names.filter fun y=>y.2 == .free).map fun y=>(y.1,(env.cells.lookup y.1).getD 0)).reverse
theorem ZdJ{env:Env}:∀{l:List (Str×dc)} {x:Str} {c:Addr},(l.map fun y=>(y.1,(env.cells.lookup y.1).getD 0)).lookup x=some c->c=(env.cells.lookup x).getD 0/\∃y∈l,y.1=x
 |[],x,c,h=>by simp at h
 |y::r,x,c,h=>by
  rw[aL,b7]at h;cases e:x==y.1 with
  |true=>
   rw[e]at h;have ex:x=y.1:=by simpa using e
   cases h;exact⟨by rw[ex],y,bX,ex.symm⟩
  |false=>
   rw[e]at h;obtain⟨h1,z,h2,h3⟩:=ZdJ h;exact⟨h1,z,aG _ h2,h3⟩
theorem ZbX{α:Type}:∀{l:List (Str×α)} {x:Str},(∃y∈l,y.1=x)->∃c,l.lookup x=some c
 |[],x,h=>by obtain⟨y,h1,_⟩:=h;simp at h1
 |z::r,x,h=>by
  rw[b7];cases e:x==z.1 with
  |true=>exact⟨_,rfl⟩
  |false=>
   obtain⟨y,h1,h2⟩:=h;rcases ar.mp h1 with q|q
   ·subst q;rw[h2]at e;simp at e
   ·exact ZbX ⟨y,q,h2⟩
theorem Zao{env:Env}(nc:∀n,env.scope.names.lookup n=env.kindOf n):∀{names:List (Str×dc)} {x:Str} {kd:dc},(names.map fun(n,k)=>if(k==dN&&env.scope.kind == .function&&env.kindOf n==some .cell)then(n,eV)else(n,k)).lookup x=some kd->names.lookup x=some kd\/(names.lookup x=some .free/\kd=.cell)
 |[],x,kd,h=>by simp at h
 | (n,q)::r,x,kd,h=>by
  rw[aL,b7]at h;rw[b7];dsimp only at h ⊢;by_cases c:(q==dN&&env.scope.kind == .function&&env.kindOf n==some .cell)=true
  ·rw[if_pos c]at h;dsimp only at h;cases e:x==n with
   |true=>
    rw[e]at h;cases h;simp only[aS,beq_iff_eq]at c;exact .inr ⟨by rw[c.1.1],rfl⟩
   |false=>rw[e]at h;exact Zao nc h
  ·rw[if_neg c]at h;dsimp only at h;cases e:x==n with
   |true=>rw[e]at h;exact .inl h
   |false=>rw[e]at h;exact Zao nc h
theorem ZaM{env:Env}:∀{names:List (Str×dc)} {x:Str},names.lookup x=some .free->(∃kd,(kd=eV\/kd=dN)/\(names.map fun(n,k)=>if(k==dN&&env.scope.kind == .function&&env.kindOf n==some .cell)then(n,eV)else(n,k)).lookup x=some kd)
 |[],x,h=>by simp at h
 | (n,q)::r,x,h=>by
  rw[b7]at h;rw[aL,b7];by_cases c:(q==dN&&env.scope.kind == .function&&env.kindOf n==some .cell)=true
  ·dsimp only;rw[if_pos c];cases e:x==n with
   |true=>exact⟨_,.inl rfl,rfl⟩
   |false=>rw[e]at h;exact ZaM h
  ·dsimp only;rw[if_neg c];cases e:x==n with
   |true=>rw[e]at h;exact⟨q,.inr (aX h),rfl⟩
   |false=>rw[e]at h;exact ZaM h
noncomputable def Zpc(XN N:List Str)(dn sn:List (Str×dc))(k:Nat)(fr:List Nat):Bool:=
 (sn.all fun y=>(y.2 != .free||dn.lookup y.1==some .cell)&&(y.2 != .local||sn.lookup y.1==some .local))&&N.length==k+fr.length &&
  (aH fr.length).all fun j=>match fr[j]? with
   |some i=>(match N[k+j]?,XN[i]? with|some x,some y=>x==y&&dn.lookup x==some .cell&&sn.lookup x==some .free&&sn.all (fun y=> !(y.1==x&&y.2 == .cell))|_,_=>false)
   |none=>false
theorem Zvd(hN:X.N=XN)(hd:X.env.scope.names=dn)(cel:∀x,dn.lookup x=some .cell->∃c,X.env.cells.lookup x=some c)(hk:scope.kind=.function)(h:Zpc XN N dn scope.names k fr=true):Blk X scope (clF scope X.env) N k fr:=by
 unfold Zpc at h;simp only[aS,bD,bne_iff_ne,ne_eq,Bool.or_eq_true,beq_iff_eq]at h;obtain⟨⟨h1,h2⟩,h3⟩:=h;have kind:∀x,X.env.kindOf x=dn.lookup x:=fun x=>by rw[<-hd];rfl
 have frc:∀y∈scope.names,y.2=.free->∃c,X.env.cells.lookup y.1=some c:=fun y hy e=>by
  rcases(h1 y hy).1 with z|z
  ·exact absurd e z
  ·exact cel _ z
 have sub:∀x c,(clF scope X.env).lookup x=some c->X.env.cells.lookup x=some c:=fun x c e=>by
  unfold clF at e;rw[<-List.map_reverse]at e;obtain⟨e1,y,e2,e3⟩:=ZdJ e;have e4:=gF.mp (List.mem_reverse.mp e2);obtain⟨c',g⟩:=frc y e4.1 (by simpa using e4.2)
  rw[e3]at g;rw[g]at e1 ⊢;rw[e1];rfl
 have has:∀x,scope.names.lookup x=some .free->∃c,(clF scope X.env).lookup x=some c:=fun x e=>by
  refine ZbX ?_;have m:=PySem.mem_of_lookup e;exact⟨(x,(X.env.cells.lookup x).getD 0),List.mem_reverse.mpr (aK.mpr ⟨(x,.free),gF.mpr ⟨m,by simp⟩,rfl⟩),rfl⟩
 refine⟨?_,hk,fun y hy e=>?_,sub,fun n x z=>?_,h2,fun j i e=>?_⟩
 ·have:=Zfj (env:=X.env) scope.names [] frc
  rw[cg]at this;unfold mB;exact(congrArg (fun(m:Sem (List (Str×Addr)))=>m >>= fun cs=>(pure cs:Sem (List (Str×Addr)))) this).trans (pure_bind _ _)
 ·rcases(h1 y hy).2 with z|z
  ·exact absurd e z
  ·exact z
 ·have nc:∀m,X.env.scope.names.lookup m=X.env.kindOf m:=fun m=>rfl;have own:scope.names.lookup x=some .cell->∃c,(bR n scope.names (clF scope X.env)).lookup x=some c:=fun e=>eQ.mp (PySem.W.cellsFrom_some scope.names n _ (.inl e));have oth:scope.names.lookup x=some .free->∃c,(bR n scope.names (clF scope X.env)).lookup x=some c:=fun e=>by
   obtain⟨c,hc⟩:=has x e;exact eQ.mp (PySem.W.cellsFrom_some scope.names n _ (.inr (by rw[hc];rfl)))
  rcases z with z|z
  ·rcases Zao nc z with q|q
   ·exact own q
   ·exact oth q.1
  ·rcases Zao nc z with q|q
   ·exact oth q
   ·cases q.2
 ·have hj:j<fr.length:=(aq.mp e).1;have q:=h3 j (bv.mpr hj);rw[e]at q;dsimp only at q;cases e1:N[k+j]? with
  |none=>rw[e1]at q;cases q
  |some x=>
   cases e2:XN[i]? with
   |none=>rw[e1,e2]at q;cases q
   |some y=>
    rw[e1,e2]at q;simp only[aS,beq_iff_eq]at q;obtain⟨⟨⟨q1,q2⟩,q3⟩,q4⟩:=q;subst q1;obtain⟨kd,r1,r2⟩:=ZaM (env:=X.env) q3;obtain⟨c,r3⟩:=has x q3;refine⟨x,rfl,by rw[hN];exact e2,by rw[kind];exact q2,?_,r3.trans (sub x c r3).symm,fun hm=>?_⟩
    ·rcases r1 with r1|r1
     ·exact .inl (r1▸r2)
     ·exact .inr (r1▸r2)
    ·have:=bD.mp q4 _ hm
     simp at this
theorem ZdK(XN N:List Str)(dn:List (Str×dc))(k:Nat)(fr:List Nat)(hN:autoParam (X.N=XN) Qrf._auto_1)(hd:autoParam (X.env.scope.names=dn) Qrf._auto_1)(hc:autoParam (X.env.cells=bR n dn []) Qrf._auto_1)(hk:autoParam (scope.kind=.function) Qrf._auto_1)(h:Zpc XN N dn scope.names k fr=true:=by decide +kernel):Blk X scope (clF scope X.env) N k fr:=
 Zvd hN hd (fun x e=>by
  have:=PySem.W.cellsFrom_some dn n [] (.inl e)
  rw[hc];exact eQ.mp this) hk h
def Zc3:List D->Option (List Bool)
 |[]=>some []
 |.bl b::r=>match Zc3 r with|some bs=>some (b::bs)|none=>none
 |_::_=>none
def Zve:W3:=fun ds M=>match ds with
 |[.ref n]=>(match M[n]? with|some (.lst xs)=>(match Zc3 xs with|some bs=>.ok (.bl (bs.all id)) M|none=>.bad)|none=>.bad)
 |_=>.bad
end DL
namespace DL
open PyProof.Rows L2
end DL
namespace DL
open PyProof.Rows L2
end DL
namespace DL
open PyProof.Rows L2
open PySem.W (nsIn excIn tailIn nsOkIn mroIn clsIn typeIn findIn specialIn takesIn kitOne Looks)
noncomputable abbrev bmV:List ae:=[.type "ValueError",.type "Exception",.type "BaseException",.type "object"]
noncomputable def Zj6(K:Fg)(c:Str):Option Addr:=match nsIn K aO c with|some (some (.ref C))=>some C|_=>none
theorem Zgh{K:Fg}(h:Zj6 K c=some C):nsIn K aO c=some (some (.ref C)):=by
 unfold Zj6 at h
 split at h
 ·rename_i C' e;cases h;exact e
 ·cases h
def ZmE(K:Fg)(c:Str):Bool:=match Zj6 K c with
 |some C=>excIn K C bmV "ValueError.__new__"&&ig K (.ref C) "__getattribute__"==some (some (.builtin "BaseException.__getattribute__"))&&ig K (.ref C) "__getattr__"==some none&&ig K (.ref C) "__class__"==some (some (.builtin "object.__class__")) &&
  gZ K (.builtin "object.__class__") "__get__"==some (some (.builtin "getset_descriptor.__get__"))&&jN K (.builtin "object.__class__")==some true&&lC K C (.type "BaseException")==some true&&lC K C (.type "object")==some true&&(mU K C).isSome
 |none=>false
def Zpd(K:Fg)(c:Str):Bool:=match Zj6 K c with
 |some C=>ig K (.ref C) "__getattribute__"==some (some (.builtin "BaseException.__getattribute__"))&&ig K (.ref C) "__getattr__"==some none&&ig K (.ref C) "__class__"==some (some (.builtin "object.__class__")) &&
  gZ K (.builtin "object.__class__") "__get__"==some (some (.builtin "getset_descriptor.__get__"))&&jN K (.builtin "object.__class__")==some true&&lC K C (.type "BaseException")==some true&&lC K C (.type "object")==some true&&(mU K C).isSome
 |none=>false
theorem ZrD{K:Fg}(h:Zpd K c=true):∃C,nsIn K aO c=some (some (.ref C))/\DQ.ExcC K C:=by
 unfold Zpd at h
 split at h
 ·rename_i C e;simp only[aS,beq_iff_eq]at h;obtain⟨⟨⟨⟨⟨⟨⟨h2,h3⟩,h4⟩,h5⟩,h6⟩,h7⟩,h8⟩,h9⟩:=h;exact⟨C,Zgh e,h2,h3,h4,h5,h6,h7,h8,h9⟩
 ·cases h
theorem ZmF{K:Fg}(h:ZmE K c=true):∃C,nsIn K aO c=some (some (.ref C))/\excIn K C bmV "ValueError.__new__"=true/\DQ.ExcC K C:=by
 unfold ZmE at h
 split at h
 ·rename_i C e;simp only[aS,beq_iff_eq]at h;obtain⟨⟨⟨⟨⟨⟨⟨⟨h1,h2⟩,h3⟩,h4⟩,h5⟩,h6⟩,h7⟩,h8⟩,h9⟩:=h;exact⟨C,Zgh e,h1,h2,h3,h4,h5,h6,h7,h8,h9⟩
 ·cases h
theorem ZmG{K:Fg}(X:K.In h)(q:excIn K C bmB newId=true):∃bm N nm q bs hdct sn sub ab col dd k0 k1 k2 k3 k5 mN,h.get? C=some (excClassObj nm q C N bs bm hdct sn sub ab col dd k0 k1 k2 k3 k5 newId)/\h.Ns N mN/\mN "__init__"=none/\OwnTail h bmB bm:=by
 unfold excIn at q
 split at q
 ·rename_i dd cd sl ho
  split at q
  ·rename_i C' bm k0 k1 k2 k3 n k5 hm hs;simp only[aS,beq_iff_eq,Bool.not_eq_true']at q;obtain⟨⟨⟨⟨⟨rfl,rfl⟩,hdel⟩,ht⟩,hok⟩,hni⟩:=q;obtain⟨nm,bs,mro,ns,qn,hd,sn,sub,ab,col,del⟩:=cd;dsimp only at hm hdel hok hni;subst hm hdel;obtain⟨l⟩:=sl;simp only at hs;subst hs;exact⟨bm,ns,nm,qn,bs,hd,sn,sub,ab,col,dd,k0,k1,k2,k3,k5,_,X _ _ ho,.of_isNs (PySem.W.isNs_of_in X hok),PySem.W.nsMap_none_of_in X hok hni,PySem.W.tail_of_in X ht⟩
  ·cases q
 ·cases q
theorem Zpe(k:HOk P w H h)(hn:h.get? e=none):H e=none:=by
 cases z:H e with
 |none=>rfl
 |some u=>obtain⟨o,g⟩:=Zf8 (k e u z);rw[hn]at g;cases g
def ZcB(c:Str)(fs:Av):Sv:=fun ρ M=>ZaF (fs ρ M) fun ds M1=>if ds.length<=1000 then .exc c M1 else .bad
theorem ZbY(T:Thr X ξ)(hx:ZmE X.K x=true)(gl:∀c v,nsIn X.K aO c=some (some v)->X.mg c=some v)(hh:X.A.handled=none)(ha:DA X ξ (a::as) fs)(hg:autoParam (Gl X x) Qrf._auto_1)(hdb:autoParam ((x==("__debug__":Str))=false) Qde._auto_1)(hf:autoParam (Zmv x=false) Qde._auto_1)(he:autoParam (av (a::as) X.env=(false,eval a X.env)::av as X.env) Qrf._auto_1)(hpl:autoParam ((db cpos (av as X.env)).any (·.1)=false) Qrf._auto_1):DS X ξ (.Raise (some (.Call (.Name x np) (a::as) [] cpos)) none pos) (ZcB x fs):=by
 obtain⟨ta,pa,qa⟩:=ha;obtain⟨C,hC,hq,_⟩:=ZmF hx;refine⟨fun Dn σ H=>ta σ H fun vs H1=>vs.length<=sizeLine/\ξ (.ref C) none H1,fun pins s σ H Dn I h=>?_,fun σ ρ H α M Dn s h q=>?_⟩
 ·obtain⟨tl,N,nm,q,bs,hdct,sn,sub,ab,col,dd,k0,k1,k2,k3,k5,mN,gC,hN,hni,TL⟩:=ZmG I.ok.mod.kin hq;refine wpAny_Raise_call_subT (C:=C) (nm:=nm) (q:=q) (N:=N) (bs:=bs) (bm:=tl) (hdct:=hdct) (sn:=sn) (sub:=sub) (ab:=ab) (col:=col) (dd:=dd) (k0:=k0) (k1:=k1) (k2:=k2) (k3:=k3) (k5:=k5) F.excBase_ValueError (mN:=mN)
   (TL.hasType F.excBase_ValueError.hasBase) hh (by rw[he];show(false||(db cpos (av as X.env)).any (·.1))=false;rw[hpl];rfl) hni (Zhj I hg (gl x _ hC) ⟨rfl,?_⟩ hdb)
  have hs:=pa cpos pins s σ H _ I h;rw[he]at hs ⊢;refine Calls.evalArgs_plain (wpAny_mono hs (fun us s2 ⟨vs,H1,I1,r1,z1,z2⟩=>⟨rfl,by rw[<-r1.length];exact z1,I1.bk _ _ gC,hN.keeps I1.bk,TL.keeps I1.bk,fun h' e m=>?_⟩) fun _ _ y=>y)
  obtain⟨t,g1,g2,g3⟩:=m.there;exact T.mak pins σ H1 H1 s2 {s2 with heap:=h'} e _ _ C I1 rfl I1.bare (Un.kept m.keeps) (I1.hok.kept m.keeps) m.new g1 rfl rfl rfl rfl (Zpe I1.hok m.new) z2
 ·refine qa σ ρ H α M _ s h (FP.seq q fun ds M1 vs H1 α1 e1 h1 r1 w1=>?_);by_cases hl:ds.length<=1000
  ·rw[if_pos hl]at w1;exact⟨by rw[r1.length];exact Zmw hl,w1 C H1 α1 hC Ext.refl none (.inl ⟨hf,h1,rfl⟩)⟩
  ·rw[if_neg hl]at w1;exact w1.elim
end DL
namespace DL
open PyProof.Rows L2
open PySem.W (nsIn excIn tailIn nsOkIn mroIn clsIn typeIn findIn specialIn takesIn kitOne Looks looks_mroIn looks_typeIn)
noncomputable def kpR:List Bool->Ro->Ro
 |b::m,x::r=>(bif b then none else x)::kpR m r
 |_,[]=>[]
 |[],_::r=>none::kpR [] r
def fsE(c:Str)(M:Sto):List D:=if Zmv c=true then(match M.getLast? with|some (.lst xs)=>xs|none=>[])else[]
def stE(c:Str)(M:Sto):Sto:=if Zmv c=true then M.dropLast else M
theorem Zr5(h:Zmv c=false):stE c M=M:=by unfold stE;rw[h];rfl
theorem Zr6(h:Zmv c=true):stE c (M++[.lst ds])=M:=by unfold stE;rw[if_pos h,lG]
theorem XO.hr{K:Fg}(h:XO K H α c M dct):HR K H α (stE c M):=by
 rcases h with⟨h1,h2,_⟩|⟨h1,M0,ds,dx,fs,rfl,h2,_⟩
 ·rw[Zr5 h1];exact h2
 ·rw[Zr6 h1];exact h2
theorem Zv{A:dR}(hr:Room k (A.deeper env))(h:100<=k):A.handled.isNone=true:=by
 have e:A.handled=none:=hr.hd h;rw[e];rfl
end DL
namespace DL
open PyProof.Rows L2
abbrev Me:=D->List D->Sto->Out D
def MO(X:Cx)(ξ:XK)(r:V->List V->Hp->VK->Prop)(g:Me):Prop:=∀H α M v vs x ds Q,HR X.K H α M->Rep X.K H α v x->Reps X.K H α vs ds->OP X.K H α ξ Q (g x ds M)->r v vs H Q
theorem HR.wrE{K:Fg}(h:HR K H α M)(e:RefK H α 0 n p)(hp:H p=some (.lst ys))(r:Reps K H α xs ds):Ext K H (upd H p (.lst xs)) α α/\HR K (upd H p (.lst xs)) α (M.set n (.lst ds)):=
 ⟨Ext.wr hp,h.wr e hp r⟩
section
variable {cpos:Pos}{id:String}{r:V->List V->Hp->VK->Prop}
noncomputable def ZmH(x:D)(M:Sto):Bool:=match x with|.ref n=>M[n]?.isSome|_=>false
def Zgi(g:Me)(fo:Ev)(fs:Av):Ev:=fun ρ M=>(fo ρ M).bind fun x M1=>if ZmH x M1=true then(fs ρ M1).bind fun ds M2=>g x ds M2 else .bad
theorem ZmI{K:Fg}(h:HR K H α M)(rx:Rep K H α v x)(k:ZmH x M=true):tyV K "list" v H:=by
 cases rx with
 |@ref p n hp=>
  obtain⟨xs,g⟩:=h.some_at hp;exact .inl ⟨rfl,_,SqL.of g⟩
 |_=>cases k
theorem Zpf(slot:Slot "list" name id)(hty:typeOf (.builtin id)=pure (.type "method_descriptor"))(hm:MtR X id r)(hf:MO X ξ r g)(ho:DE X ξ o fo)(ha:DA X ξ (e::es) fs)(hbase:autoParam (iP o name X.env (eval o X.env)=eval o X.env) Qrf._auto_1)
  (hfew:((db cpos (av (e::es) X.env)).all (fun x=> !x.1)&&(jy cpos (fQ [] X.env)).all (fun x=>x.1.isSome) && decide ((e::es).length+([]:List jd).length+(if([]:List jd).isEmpty then 0 else 1)<30))=true:=by rfl)
  (hline:(apos.endLine==cpos.line)=true:=by rfl) (hs:av (e::es) X.env=(false,eval e X.env)::av es X.env:=by rfl) (hplain:(db cpos (av es X.env)).any (·.1)=false:=by rfl):
  DE X ξ (.Call (.Attribute o name apos) (e::es) [] cpos) (Zgi g fo fs):=by
 obtain⟨to,po,qo⟩:=ho;obtain⟨ta,pa,qa⟩:=ha;refine⟨_,ZrY PySem.F.plainAttrs_list slot hty hm po pa hbase hfew hline hs hplain,fun σ ρ H α M Q s h q=>?_⟩;refine qo σ ρ H α M _ s h (OG.seq q fun x M1 v H1 α1 e1 h1 r1 q1=>?_);by_cases k:ZmH x M1=true
 ·rw[if_pos k]at q1;exact⟨ZmI h1 r1 k,qa σ ρ H1 α1 M1 _ (s.mono e1) h1 (OG.seq q1 fun ds M2 vs H2 α2 e2 h2 r2 q2=>hf H2 α2 M2 v vs x ds Q h2 (Rep.mono e2 r1) r2 q2)⟩
 ·rw[if_neg k]at q1;exact q1.elim
noncomputable def mApp:Me:=fun x ds M=>match x,ds with
 |.ref n,[d]=>(match M[n]? with|some (.lst xs)=>if xs.length<10000000 then .ok .non (M.set n (.lst (xs++[d])))else .bad|none=>.bad)
 |_,_=>.bad
theorem Zpg:MO X ξ rAppend mApp:=by
 intro H α M v vs x ds Q h rx rs q;cases rx with
 |@ref p n hp=>
  match rs with
  |.nil=>exact q.elim
  |.cons _ (.cons _ _)=>exact q.elim
  |.cons (v:=u) (d:=d) ru .nil=>
   cases em:M[n]? with
   |none=>simp only[mApp,em]at q;exact q.elim
   |some so=>
    cases so with
    |lst es=>
     obtain⟨xs,g1,g2⟩:=h.at hp em;by_cases c:es.length<10000000
     ·simp only[mApp,em,if_pos c]at q;obtain⟨k1,k2⟩:=h.wrE hp g1 (g2.append (.cons ru .nil));exact⟨p,xs,u,rfl,rfl,g1,by rw[g2.length];exact ai c (by decide),q _ _ α k1 k2 .non⟩
     ·simp only[mApp,em,if_neg c]at q;exact q.elim
 |_=>cases rs<;>exact q.elim
noncomputable def mExt:Me:=fun x ds M=>match x,ds with
 |.ref n,[.ref m]=>(match M[n]?,M[m]? with|some (.lst xs),some (.lst ys)=>if xs.length+ys.length<=10000000 then .ok .non (M.set n (.lst (xs++ys)))else .bad|_,_=>.bad)
 |_,_=>.bad
theorem ZhY(h:mExt x l M≠ .bad):∃n m,x=.ref n/\l=[.ref m]:=by
 unfold mExt at h
 split at h
 ·rename_i n m;exact⟨n,m,rfl,rfl⟩
 ·exact absurd rfl h
theorem Zph:MO X ξ rExtend mExt:=by
 intro H α M v vs x ds Q h rx rs q;obtain⟨n,m,rfl,rfl⟩:=ZhY (x:=x) (l:=ds) (M:=M) fun z=>by rw[z]at q;exact q.elim
 cases rx with
 |@ref p n hp=>
 cases rs with
 |cons ru rs=>
 cases rs;cases ru with
 |@ref p2 m hp2=>
 cases em:M[n]? with
 |none=>simp only[mExt,em]at q;exact q.elim
 |some so=>
 cases em2:M[m]? with
 |none=>cases so;simp only[mExt,em,em2]at q;exact q.elim
 |some so2=>
 cases so with
 |lst es=>
 cases so2 with
 |lst es2=>
 obtain⟨xs,g1,g2⟩:=h.at hp em;obtain⟨ys,g3,g4⟩:=h.at hp2 em2;by_cases c:es.length+es2.length<=10000000
 ·simp only[mExt,em,em2,if_pos c]at q;obtain⟨k1,k2⟩:=h.wrE hp g1 (g2.append g4);exact⟨p,p2,xs,ys,rfl,rfl,g1,g3,by rw[g2.length,g4.length];exact aT c (by decide),q _ _ α k1 k2 .non⟩
 ·simp only[mExt,em,em2,if_neg c]at q;exact q.elim
theorem Zar(ho:DE X ξ o fo)(ha:DE X ξ e fa)(hbase:autoParam (iP o "append" X.env (eval o X.env)=eval o X.env) Qrf._auto_1)
  (hfew:((db cpos (av [e] X.env)).all (fun x=> !x.1)&&(jy cpos (fQ [] X.env)).all (fun x=>x.1.isSome) && decide ([e].length+([]:List jd).length+(if([]:List jd).isEmpty then 0 else 1)<30))=true:=by rfl)
  (hline:(apos.endLine==cpos.line)=true:=by rfl) (hs:av [e] X.env=(false,eval e X.env)::av [] X.env:=by rfl) (hplain:(db cpos (av [] X.env)).any (·.1)=false:=by rfl):
  DE X ξ (.Call (.Attribute o "append" apos) [e] [] cpos) (Zgi mApp fo (Zc fa aNil)):=Zpf PySem.F.slot_list_append PySem.F.type_list_append Zev Zpg ho (Zb ha Zd hs) hbase hfew hline hs hplain
def DO(X:Cx)(ξ:XK)(e:Option Expr)(f:Ro->Sto->Out (Option Int)):Prop:=∃t:TO,PO X e t/\∀σ ρ H α M (Q:Option Int->Hp->Prop),SR X.K H α σ ρ->HR X.K H α M->OG X.K (fun _ _ v d=>v=d) H α ξ Q (f ρ M)->t σ H Q
noncomputable def oNo:Ro->Sto->Out (Option Int):=fun _ M=>.ok none M
def oSo(f:Ev):Ro->Sto->Out (Option Int):=fun ρ M=>(f ρ M).bind fun x M1=>match x with|.int i=>.ok (some i) M1|_=>.bad
theorem Zj7:DO X ξ none oNo:=⟨_,Zmi,fun σ ρ H α M Q s h q=>q none H α Ext.refl h rfl⟩
theorem Zj8(ha:DE X ξ e fa):DO X ξ (some e) (oSo fa):=by
 obtain⟨ta,pa,qa⟩:=ha;refine⟨_,Zmj pa,fun σ ρ H α M Q s h q=>?_⟩;refine qa σ ρ H α M _ s h (OG.seq q fun x M1 v H1 α1 e1 h1 r1 q1=>?_);cases r1 with
 |int i=>exact⟨i,rfl,q1 (some i) H1 α1 Ext.refl h1 rfl⟩
 |_=>exact q1.elim
def Zfk(xs:List D)(lo hi:Option Int):List D:=(xs.drop (HT.sIx xs.length 0 lo)).take (HT.sIx xs.length xs.length hi-HT.sIx xs.length 0 lo)
theorem Reps.drop{K:Fg}{H:Hp}{α:List Addr}:∀(n:Nat){vs:List V}{ds:List D},Reps K H α vs ds->Reps K H α (vs.drop n) (ds.drop n)
 |0,_,_,h=>h
 |_+1,_,_,.nil=>.nil
 |n+1,_,_,.cons _ t=>Reps.drop n t
theorem Reps.take{K:Fg}{H:Hp}{α:List Addr}:∀(n:Nat){vs:List V}{ds:List D},Reps K H α vs ds->Reps K H α (vs.take n) (ds.take n)
 |0,_,_,_=>.nil
 |_+1,_,_,.nil=>.nil
 |n+1,_,_,.cons r t=>.cons r (Reps.take n t)
theorem Reps.cut{K:Fg}(r:Reps K H α vs ds)(lo hi:Option Int):Reps K H α (ZkX vs lo hi) (Zfk ds lo hi):=by
 unfold ZkX Zfk;rw[r.length];exact(r.drop _).take _
def eSl(f:Ev)(lo hi:Ro->Sto->Out (Option Int)):Ev:=fun ρ M=>(f ρ M).bind fun x M1=>(lo ρ M1).bind fun l M2=>(hi ρ M2).bind fun u M3=>match x with
 |.ref n=>(match M3[n]? with|some (.lst xs)=>.ok (.ref M3.length) (M3++[.lst (Zfk xs l u)])|none=>.bad)
 |.rol xs=>.ok (.ref M3.length) (M3++[.lst (Zfk xs l u)])
 |.tup xs=>if HT.sIx xs.length 0 l=0/\HT.sIx xs.length xs.length u=xs.length then .bad else .ok (.tup (Zfk xs l u)) M3
 |_=>.bad
theorem Zj9{lo:Option Expr}(he:DE X ξ e fa)(hl:DO X ξ lo fl)(hh:DO X ξ hi fh):DE X ξ (.Subscript e (.Slice lo hi none p2) pos) (eSl fa fl fh):=by
 obtain⟨ta,pa,qa⟩:=he;obtain⟨tl,pl,ql⟩:=hl;obtain⟨th,ph,qh⟩:=hh;refine⟨_,ZjO (SlR.or Zmp ZoI) pa pl ph,fun σ ρ H α M Q s h q=>?_⟩;refine qa σ ρ H α M _ s h (OG.seq q fun x M1 v H1 α1 e1 h1 r1 q1=>?_);refine ql σ ρ H1 α1 M1 _ (s.mono e1) h1 (OG.seq q1 fun l M2 l' H2 α2 e2 h2 r2 q2=>?_);refine qh σ ρ H2 α2 M2 _ ((s.mono e1).mono e2) h2 (OG.seq q2 fun u M3 u' H3 α3 e3 h3 r3 q3=>?_);cases r2;cases r3;cases Rep.mono e3 (Rep.mono e2 r1)with
 |@ref p n hp=>
  cases em:M3[n]? with
  |none=>simp only[em]at q3;exact q3.elim
  |some so=>
   cases so with
   |lst es=>
    simp only[em]at q3;obtain⟨xs,g1,g2⟩:=h3.at hp em;exact .inl ⟨p,xs,rfl,SqL.of g1,fun a ha=>q3 _ _ (α3++[a]) (Ext.new ha) (h3.new ha (g2.cut l u)) (.ref ⟨h3.last a,Kn.lst Zy⟩)⟩
 |@rol p xs ds hp rp=>
  have q4:OP X.K H3 α3 ξ Q (.ok (.ref M3.length) (M3++[.lst (Zfk ds l u)])):=q3;exact .inl ⟨p,xs,rfl,hp.sq,fun a ha=>q4 _ _ (α3++[a]) (Ext.new ha) (h3.new ha (rp.cut l u)) (.ref ⟨h3.last a,Kn.lst Zy⟩)⟩
 |@tup p xs ds hp rp=>
  by_cases c:HT.sIx ds.length 0 l=0/\HT.sIx ds.length ds.length u=ds.length
  ·simp only[if_pos c]at q3;exact q3.elim
  ·simp only[if_neg c]at q3;exact .inr ⟨p,xs,rfl,(SqT.of hp),by rw[rp.length];exact c,fun a ha=>q3 _ _ α3 (Ext.new0 ha) (h3.tup ha) (.tup Zy (Reps.mono (Ext.new0 ha) (rp.cut l u)))⟩
 |_=>exact q3.elim
def iR2(fs:Av):Ro->Sto->Out Src:=fun ρ M=>(fs ρ M).bind fun ds M1=>match ds with
 |[.int i,.int j]=>if -(2^62)<=i/\i<2^62/\ -(2^62)<=j/\j<2^62 then .ok (.pur (Zbp i (j-i).toNat)) M1 else .bad
 |_=>.bad
theorem ZhZ(hm:X.mg "range"=none)(ha:DA X ξ [a,b] fs)(hgl:autoParam (Gl X "range") Qrf._auto_1)(hs:autoParam (av [a,b] X.env=[(false,eval a X.env),(false,eval b X.env)]) Qrf._auto_1)(hs2:autoParam (av [b] X.env=[(false,eval b X.env)]) Qrf._auto_1):DI X ξ tg (.Call (.Name "range" p) [a,b] [] pos) (iR2 fs):=by
 obtain⟨ta,pa,qa⟩:=ha;refine⟨_,Zeo hgl hm pa hs hs2,fun σ ρ H α M R s hh q=>qa σ ρ H α M _ s hh (OG.seq q fun ds M1 vs H1 α1 e1 h1 r1 w1=>?_)⟩
 split at w1
 ·rename_i i j;cases r1 with
  |cons r t=>
   cases t with
   |cons r' t=>
    cases t;cases r;cases r';by_cases c: -(2^62)<=i/\i<2^62/\ -(2^62)<=j/\j<2^62
    ·simp only[if_pos c]at w1;exact⟨i,j,rfl,c,w1 _ H1 α1 Ext.refl h1 ZdG⟩
    ·simp only[if_neg c]at w1;exact w1.elim
 ·exact w1.elim
end
end DL
namespace DL
open PyProof.Rows L2
def Zfl(tg:Tg)(g:Sv)(src:Src):Nat->Nat->Ro->Sto->Fl
 |f,i,ρ,M=>match nxt src i M with
  |none=>.bad
  |some none=>.nx ρ M
  |some (some d)=>(match f with
   |0=>.bad
   |f+1=>(match tg d ρ with
    |none=>.bad
    |some ρ1=>(match g ρ1 M with
     |.nx ρ2 M2=>Zfl tg g src f (i+1) ρ2 M2
     |.cnt ρ2 M2=>Zfl tg g src f (i+1) ρ2 M2
     |.brk ρ2 M2=>.nx ρ2 M2
     |o=>o)))
def Zfm(tg:Tg)(fi:Ro->Sto->Out Src)(g:Sv):Sv:=fun ρ M=>ZaF (fi ρ M) fun src M1=>Zfl tg g src (cnt src M1) 0 ρ M1
theorem Zfn(hp:fG (az X.prog X.w) X.A X.env X.xe)(hi:DI X ξ tg iter fi)(hg:DG X tg gt)(hb:DSs X ξ body g)(hf:autoParam (∀x,foldedSetIterable iter X.env x=pure x) Qin._auto_1):DS X ξ (.For tg iter body [] pos) (Zfm gt fi g):=by
 obtain⟨wi,pi,qi⟩:=hi;obtain⟨tt,pt,qt⟩:=hg;obtain⟨tb,pb,qb⟩:=hb;refine⟨_,ZfX hp pi pt pb hf,fun σ ρ H α M Dn s hh w=>qi σ ρ H α M _ s hh (FP.seq w fun src M1 J H1 α1 e1 h1 sc w1=>?_)⟩;generalize eo:Zfl gt g src (cnt src M1) 0 ρ M1=o at w1;refine⟨fun i m σ' H'=>∃ρ' α' M',Ext X.K H1 H' α1 α'/\SR X.K H' α' σ' ρ'/\HR X.K H' α' M'/\Zfl gt g src m i ρ' M'=o,⟨cnt src M1,ρ,α1,M1,Ext.refl,s.mono e1,h1,eo⟩,?_⟩;rintro i m σ' H' ⟨ρ',α',M',ex,sr,hr,en⟩;have s5:=sc i H' α' M' ex hr;unfold Zfl at en;cases en1:nxt src i M' with
 |none=>rw[en1]at en;cases en;exact w1.elim
 |some od=>
  rw[en1]at en s5;cases od with
  |none=>cases en;exact .inl ⟨s5,w1 σ' H' α' ex hr sr⟩
  |some d=>
   obtain⟨go,yl⟩:=s5;cases m with
   |zero=>cases en;exact w1.elim
   |succ m=>
    simp only at en;refine .inr ⟨go,fun σ2 H2=>∃ρ' α' M',Ext X.K H1 H2 α1 α'/\SR X.K H2 α' σ2 ρ'/\HR X.K H2 α' M'/\Zfl gt g src m (i+1) ρ' M'=o,fun σ2 H2 z=>⟨m,dP m,z⟩,fun x H2 y=>?_⟩;obtain⟨ex7,hr7,rp7⟩:=yl x H2 y;exact Zj1 (tg:=tg) w1 qt qb (ex.trans ex7) (sr.mono ex7) hr7 rp7 en (fun σ' H' z=>z)
theorem Zh0{ch:List Addr}(I:Inv X pins σ H s)(k:∀b o,b∉ch->s.heap.get? b=some o->h'.get? b=some o)(hf:∀b∈ch,Ze9 X pins H b):Inv X pins σ H {s with heap:=h',toks:=t'}:=by
 have nit:∀b u,H b=some u->b∉ch:=fun b u e z=>by rw[(hf b z).1]at e;cases e
 have hL:X.env.locals∉ch:=fun z=>(hf _ z).2.1 rfl;refine I.step (g':=s.gens) (d':=s.drawn) (ch:=ch) (fun b hb=>?_) (fun b o _ _ hc e _=>k b o hc e) (fun b o _ _ hc e _=>⟨o.slots,k b o hc e⟩) (fun _ _ _ _ n=>n)
  (fun b o hc e=>⟨o,k b o hc e⟩) (fun _ _ e=>e) (fun _ _ _ e=>e) (fun b ps e=>⟨#[],by rw[e];simp⟩) (fun m hm=>?_) (fun b u e=>?_) I.bare
 ·obtain⟨_,z1,_,z3,z4,z5⟩:=hf b hb;exact⟨z3,z1,z4,z5⟩
 ·obtain⟨o,es,ep,ho,r⟩:=hm;exact⟨o,es,ep,k _ o hL ho,r⟩
 ·refine(I.hok b u e).stay (fun c v hc q=>k c v ?_ q) (fun _ q=>q) fun _ _ q=>q;rcases hc with z|z
  ·rw[z];exact nit b u e
  ·exact nit c _ z
theorem Zld{ch:List Addr}(I:Inv X pins σ H s)(hf:∀b∈ch,Ze9 X pins H b)(hlt:∀b∈ch,b<s.heap.objs.size)(rv:Z1 vs us)(hz:vs.length<=sizeLine)(k:∀b o,b∉ch->s.heap.get? b=some o->h'.get? b=some o)(ht:h'.get? s.heap.objs.size=some {cls:=.type "tuple",data:=.seq us.toArray}):Inv X pins σ (upd H s.heap.objs.size (.tup vs)) {s with heap:=h',toks:=t'}/\H s.heap.objs.size=none/\∀b∈ch,upd H s.heap.objs.size (.tup vs) b=none:=by
 have fr:H s.heap.objs.size=none:=I.hok.fresh (aj _);have hn:∀b∈ch,upd H s.heap.objs.size (.tup vs) b=none:=fun b hb=>by rw[ZH (aE (hlt b hb))];exact(hf b hb).1
 have I1:Inv X pins σ (upd H s.heap.objs.size (.tup vs)) {s with heap:=s.heap.push {cls:=.type "tuple",data:=.seq us.toArray},toks:=t'}:=
  I.laid (t':=t') (o:=.tup vs) (fun _ _ q=>Hq _ q) (aj _) ⟨hz,us,rv,_,aP _ rfl,rfl,_,rfl⟩
 refine⟨Zh0 (s:={s with heap:=s.heap.push {cls:=.type "tuple",data:=.seq us.toArray},toks:=t'}) (t':=t') (ch:=ch) I1 (fun b o hb e=>?_) (fun b hb=>⟨hn b hb,(hf b hb).2⟩),fr,hn⟩;by_cases c:b=s.heap.objs.size
 ·subst c;have e':(s.heap.push {cls:=.type "tuple",data:=.seq us.toArray}).get? s.heap.objs.size=some o:=e;rw[aP _ rfl]at e';cases e';exact ht
 ·refine k b o hb ?_;have e':(s.heap.push {cls:=.type "tuple",data:=.seq us.toArray}).get? b=some o:=e;have hl:b<s.heap.objs.size:=by
   have q:b<s.heap.objs.size+1:=by
    have z:=Hz e'
    rwa [fN]at z
   exact Nat.lt_of_le_of_ne (Nat.le_of_lt_succ q) c
  have q:(s.heap.push {cls:=.type "tuple",data:=.seq us.toArray}).get? b=s.heap.get? b:=by
   unfold ni.get? ni.push;simp only[Array.getElem?_push];rw[if_neg (aE hl)]
  rwa [q]at e'
def Ite(K:Fg)(a:Addr):It:=
 ⟨fun i H=>∃xs x,SqL K H a xs/\xs[i]?=some x,fun i H y H'=>∃p,H p=none/\y=.ref p/\∀xs x,SqL K H a xs->xs[i]?=some x->H'=upd H p (.tup [.int i,x]),fun i H=>∃xs,SqL K H a xs/\xs.length<=i⟩
def Itz(K:Fg)(a b:Addr):It:=
 ⟨fun i H=>∃xs ys x y,SqL K H a xs/\SqL K H b ys/\xs[i]?=some x/\ys[i]?=some y,fun i H v H'=>∃p,H p=none/\v=.ref p/\∀xs ys x y,SqL K H a xs->SqL K H b ys->xs[i]?=some x->ys[i]?=some y->H'=upd H p (.tup [x,y]),fun i H=>∃xs ys,SqL K H a xs/\SqL K H b ys/\(xs.length<=i\/ys.length<=i)⟩
theorem Zh1{K:Fg}(hB:B.handled=none)(a e it:Addr)(hne:e≠it):Turn P w K B (.Tuple elts k0 tp) (Ite K a) [e,it] e (fun i h=>(∃old,IsEnum h e it (i:Int) old)/\h.IsListIter it a i) where
 mem:=by simp
 obj:=fun i h st b hb=>by
  obtain⟨⟨old,h1⟩,o,e2,c2,d2⟩:=st;rcases ar.mp hb with z|z
  ·subst z;exact⟨_,h1,fun v z=>by cases z⟩
  ·have z':b=it:=by simpa using z
   subst z';exact⟨o,e2,fun v z=>by rw[d2]at z;cases z⟩
 keep:=fun i h h' st k=>⟨let ⟨old,z⟩:=st.1;⟨old,k e (by simp) _ z⟩,st.2.at fun o z=>k it (by simp) o z⟩
 item:=by
  intro X hP hw hK hA i pins s σ H E I hf st hg;subst hP hw hK hA;obtain⟨⟨old,h1⟩,h2⟩:=st;obtain⟨xs,x,hq,hx⟩:=hg;obtain⟨its,rv,p,hz⟩:=I.list hq;obtain⟨u,hu,ru⟩:=rv.get hx;have lt:∀b∈[e,it],b<s.heap.objs.size:=fun b hb=>by
   rcases ar.mp hb with z|z
   ·subst z;exact Hz h1
   ·have z':b=it:=by simpa using z
    subst z';obtain⟨o,e2,_⟩:=h2;exact Hz e2
  refine wpAny_pyNext_enum_item h1 h2 p.isList (x:=u) (by simpa using hu) hne fun h' o1 o2 o3 o4 o5=>⟨_,rfl,?_⟩
  refine wpAny_letOwnedTupleGo_enum (s:={s with heap:=h',toks:=s.toks+1}) o1 fun h'' q1 q2=>?_;have pe:s.heap.objs.size≠e:=bz (lt e (by simp))
  have ie:it≠e:=bV hne;obtain⟨J1,J2,J3⟩:=Zld (h':=h'') (t':=s.toks+1) (ch:=[e,it]) (vs:=[.int i,x]) (us:=[.int i s.toks,u]) I hf lt (.cons ⟨_,rfl⟩ (.cons ru .nil)) (by show 2<=sizeLine;decide)
   (fun b o hb z=>by
    have n1:b≠e:=fun y=>hb (by simp[y])
    have n2:b≠it:=fun y=>hb (by simp[y])
    exact(q2.2 b n1).trans (o5 b o n1 n2 z)) ((q2.2 _ pe).trans o3)
  refine⟨.ref s.heap.objs.size,_,J1,rfl,⟨_,J2,rfl,fun ys y hy hy2=>?_⟩,⟨⟨u,by simpa using q1⟩,o2.at fun o z=>(q2.2 it ie).trans z⟩,J3⟩
  rw[I.list_inj hy hq,hx]at hy2;cases hy2;rfl
 done:=by
  intro X hP hw hK hA i pins s σ H E I hf st hg;subst hP hw hK hA;obtain⟨⟨old,h1⟩,h2⟩:=st;obtain⟨xs,hq,hx⟩:=hg;obtain⟨its,rv,p,hz⟩:=I.list hq;obtain⟨f0,f1,f2,f3,f4,f5⟩:=hf it (by simp)
  refine wpAny_pyNext_enum_end hB h1 h2 p.isList (by simp only[iC];exact a9 (by rw[<-rv.length];exact hx)) fun h' ext=>⟨rfl,?_⟩
  exact I.turned (t':=s.toks) (it:=it) (fun b o hb z=>ext b o hb z) f0 f1 f3 f4 f5
 self:=fun A i s Q E st q=>by
  obtain⟨⟨old,h1⟩,_⟩:=st;have hT:s.TypeIs (.ref e) "enumerate":=⟨_,h1,rfl⟩;refine jP hT F.slot_enumerate_iter (cU F.slot_enumerate_iter hT F.entry_enumerate_iter ?_ (F.args_enumerate_iter_1 _));show wpAny _ _ (ret (.ref e)) _ _ s;exact Wp ⟨_,rfl,"enumerate",_,hT,F.slot_enumerate_next.lookup,q⟩
theorem Zka{K:Fg}(hB:B.handled=none){TI TO:Addr}(D:ZipApart z TI TO i1 i2 a b):Turn P w K B (.Tuple elts k0 tp) (Itz K a b) [z,TI,TO,i1,i2] z (fun i h=>IsZip h z TI TO .none/\IsPair h TI (.ref i1) (.ref i2)/\(∃x y,IsPair h TO x y)/\h.IsListIter i1 a i/\h.IsListIter i2 b i) where
 mem:=by simp
 obj:=fun i h st c hc=>by
  obtain⟨h1,h2,⟨x,y,h3⟩,⟨o4,e4,c4,d4⟩,⟨o5,e5,c5,d5⟩⟩:=st;simp only[ar,cJ,or_false]at hc;rcases hc with rfl|rfl|rfl|rfl|rfl
  ·exact⟨_,h1,fun v q=>by cases q⟩
  ·exact⟨_,h2,fun v q=>by cases q⟩
  ·exact⟨_,h3,fun v q=>by cases q⟩
  ·exact⟨o4,e4,fun v q=>by rw[d4]at q;cases q⟩
  ·exact⟨o5,e5,fun v q=>by rw[d5]at q;cases q⟩
 keep:=fun i h h' st k=>by
  obtain⟨h1,h2,⟨x,y,h3⟩,h4,h5⟩:=st;exact⟨k z (by simp) _ h1,k TI (by simp) _ h2,⟨x,y,k TO (by simp) _ h3⟩,h4.at fun o q=>k i1 (by simp) o q,h5.at fun o q=>k i2 (by simp) o q⟩
 item:=by
  intro X hP hw hK hA i pins s σ H E I hf st hg;subst hP hw hK hA;obtain⟨h1,h2,⟨x0,y0,h3⟩,h4,h5⟩:=st;obtain⟨xs,ys,x,y,hq,hq2,hx,hy⟩:=hg;obtain⟨its,rv,p,hz⟩:=I.list hq;obtain⟨its2,rv2,p2,hz2⟩:=I.list hq2;obtain⟨u,hu,ru⟩:=rv.get hx;obtain⟨u2,hu2,ru2⟩:=rv2.get hy;have lt:∀c∈[z,TI,TO,i1,i2],c<s.heap.objs.size:=fun c hc=>by
   simp only[ar,cJ,or_false]at hc;rcases hc with rfl|rfl|rfl|rfl|rfl
   ·exact Hz h1
   ·exact Hz h2
   ·exact Hz h3
   ·obtain⟨o,e2,_⟩:=h4;exact Hz e2
   ·obtain⟨o,e2,_⟩:=h5;exact Hz e2
  refine wpAny_pyNext_zip_item D h1 h2 h3 h4 h5 p.isList p2.isList (x:=u) (y:=u2) (by simpa using hu) (by simpa using hu2) fun h' o1 o2 o3 o4 o5 o6 o7=>⟨_,rfl,?_⟩
  refine wpAny_letOwnedTupleGo_zip (s:={s with heap:=h'}) o1 fun h'' q1 q2=>?_;have pe:s.heap.objs.size≠z:=bz (lt z (by simp))
  obtain⟨J1,J2,J3⟩:=Zld (h':=h'') (t':=s.toks) (ch:=[z,TI,TO,i1,i2]) (vs:=[x,y]) (us:=[u,u2]) I hf lt (.cons ru (.cons ru2 .nil)) (by show 2<=sizeLine;decide)
   (fun c o hc q=>by
    simp only[ar,cJ,or_false,not_or]at hc;exact(q2.2 c hc.1).trans (o7 c o hc.1 hc.2.2.1 hc.2.2.2.1 hc.2.2.2.2 q)) ((q2.2 _ pe).trans o5)
  refine⟨.ref s.heap.objs.size,_,J1,rfl,⟨_,J2,rfl,fun xs' ys' x' y' hx1 hy1 hx2 hy2=>?_⟩,⟨q1,(q2.2 TI D.TIz).trans (o7 TI _ D.TIz D.TITO D.TIi1 D.TIi2 h2),⟨u,u2,(q2.2 TO D.TOz).trans o2⟩,o3.at fun o q=>(q2.2 i1 D.i1z).trans q,o4.at fun o q=>(q2.2 i2 D.i2z).trans q⟩,J3⟩;rw[I.list_inj hx1 hq,hx]at hx2;rw[I.list_inj hy1 hq2,hy]at hy2;cases hx2;cases hy2;rfl
 done:=by
  intro X hP hw hK hA i pins s σ H E I hf st hg;subst hP hw hK hA;obtain⟨h1,h2,⟨x0,y0,h3⟩,h4,h5⟩:=st;obtain⟨xs,ys,hq,hq2,hx⟩:=hg;obtain⟨its,rv,p,hz⟩:=I.list hq;obtain⟨its2,rv2,p2,hz2⟩:=I.list hq2;have he:its.toArray[i]?=none\/its2.toArray[i]?=none:=by
   rcases hx with hx|hx
   ·exact .inl (by simp only[iC];exact a9 (by rw[<-rv.length];exact hx))
   ·exact .inr (by simp only[iC];exact a9 (by rw[<-rv2.length];exact hx))
  refine wpAny_pyNext_zip_end hB D h1 h2 h3 h4 h5 p.isList p2.isList he fun h' keep=>⟨rfl,?_⟩;refine Zh0 (t':=s.toks) (ch:=[z,TI,TO,i1,i2]) I (fun c o hc q=>?_) hf;simp only[ar,cJ,or_false,not_or]at hc;exact keep c o hc.1 hc.2.2.1 hc.2.2.2.1 hc.2.2.2.2 q
 self:=fun A i s Q E st q=>wpAny_pyIter_zip st.1 q
theorem Zpi{n:Nat}(h1:a<n)(h2:b<n):ZipApart (n+4) (n+2) (n+3) n (n+1) a b:=⟨aE (by lia),aE (by lia),aE (by lia),aE (by lia),aE (by lia),bz (by lia),bz (by lia),bz (by lia),bz (by lia),aE (by lia),aE (by lia),aE (by lia),aE (by lia),aE (by lia),aE (by lia),aE (by lia),aE (by lia),aE (by lia)⟩
theorem Zpj:bM "zip"=some (.type "zip"):=by decide +kernel
theorem ZeJ:bM "enumerate"=some (.type "enumerate"):=by decide +kernel
def Zr7(K:Fg)(t:TA):TI:=fun σ H R=>t σ H fun vs H1=>∃l xs,vs=[.ref l]/\SqL K H1 l xs/\R (Ite K l) H1
def Zvf(K:Fg)(t:TA):TI:=fun σ H R=>t σ H fun vs H1=>∃l l2 xs ys,vs=[.ref l,.ref l2]/\SqL K H1 l xs/\SqL K H1 l2 ys/\R (Itz K l l2) H1
theorem ZmJ(hc:X.A.handled=none)(hg:Gl X "enumerate")(hm:X.mg "enumerate"=none)(ha:PA X [a] ta)(hs:autoParam (av [a] X.env=(false,eval a X.env)::av [] X.env) Qrf._auto_1)(hpl:autoParam ((db pos (av [] X.env)).any (·.1)=false) Qrf._auto_1):
  PI X (.Tuple elts k0 tp) (.Call (.Name "enumerate" p) [a] [] pos) (Zr7 X.K ta):=by
 intro pins s σ H R I h;refine wpAny_Call_Name_kw (Zcx I hg hm ZeJ (cW (thn (ha pos pins s σ H _ I h) fun us s1 ⟨vs,H1,I1,r1,q1⟩=>?_) hs hpl) (by decide) (by decide))
 obtain⟨l,xs,rfl,hq,q⟩:=q1;obtain⟨u,rfl,ru⟩:=ZdU r1;cases ru;obtain⟨its,rv,pl,hz⟩:=I1.list hq;refine call_enumerate_list pl.isList fun h' e1 e2 e3 e4=>?_;have T:=Zh1 (P:=X.prog) (w:=X.w) (K:=X.K) (B:=X.A) (elts:=elts) (k0:=k0) (tp:=tp) hc l (s1.heap.objs.size+1) s1.heap.objs.size (bz (dP _));have I2:Inv X pins σ H1 {s1 with heap:=h',toks:=s1.toks}:=I1.kept (t':=s1.toks) e4;refine T.self X.A 0 {s1 with heap:=h'} _ _ ⟨⟨_,e1⟩,e2⟩ ⟨_,_,_,_,H1,rfl,I2,T,⟨⟨_,e1⟩,e2⟩,fun b hb=>?_,q⟩;have hb':s1.heap.objs.size<=b:=by
  simp only[ar,cJ,or_false]at hb;rcases hb with rfl|rfl<;>lia
 exact I1.fpOk hb' (I1.hok.fresh hb')
theorem Zpk(hc:X.A.handled=none)(hg:Gl X "zip")(hm:X.mg "zip"=none)(ha:PA X [a,b] ta)(hs:autoParam (av [a,b] X.env=(false,eval a X.env)::av [b] X.env) Qrf._auto_1)(hpl:autoParam ((db pos (av [b] X.env)).any (·.1)=false) Qrf._auto_1):
  PI X (.Tuple elts k0 tp) (.Call (.Name "zip" p) [a,b] [] pos) (Zvf X.K ta):=by
 intro pins s σ H R I h;refine wpAny_Call_Name_kw (Zcx I hg hm Zpj (cW (thn (ha pos pins s σ H _ I h) fun us s1 ⟨vs,H1,I1,r1,q1⟩=>?_) hs hpl) (by decide) (by decide))
 obtain⟨l,l2,xs,ys,rfl,hq,hq2,q⟩:=q1;obtain⟨u,u2,rfl,ru,ru2⟩:=ZjK r1;cases ru;cases ru2;obtain⟨its,rv,pl,hz⟩:=I1.list hq;obtain⟨its2,rv2,pl2,hz2⟩:=I1.list hq2;have lt1:l<s1.heap.objs.size:=by obtain⟨_,e,_⟩:=pl.isList;exact Hz e
 have lt2:l2<s1.heap.objs.size:=by obtain⟨_,e,_⟩:=pl2.isList;exact Hz e
 refine call_zip_2 pl.isList pl2.isList fun h' e1 e2 e3 e4 e5 e6 e7=>?_;have D:=Zpi lt1 lt2;have T:=Zka (P:=X.prog) (w:=X.w) (K:=X.K) (B:=X.A) (elts:=elts) (k0:=k0) (tp:=tp) hc D;have I2:Inv X pins σ H1 {s1 with heap:=h',toks:=s1.toks}:=I1.kept (t':=s1.toks) e7;refine T.self X.A 0 {s1 with heap:=h'} _ _ ⟨e1,e2,⟨_,_,e3⟩,e4,e5⟩ ⟨_,_,_,_,H1,rfl,I2,T,⟨e1,e2,⟨_,_,e3⟩,e4,e5⟩,fun c hc=>?_,q⟩;have hb':s1.heap.objs.size<=c:=by
  simp only[ar,cJ,or_false]at hc;rcases hc with rfl|rfl|rfl|rfl|rfl<;>lia
 exact I1.fpOk hb' (I1.hok.fresh hb')
def iEn(fs:Av):Ro->Sto->Out Src:=fun ρ M=>(fs ρ M).bind fun ds M1=>match ds with|[.ref n]=>.ok (.enu n) M1|_=>.bad
def iZp(fs:Av):Ro->Sto->Out Src:=fun ρ M=>(fs ρ M).bind fun ds M1=>match ds with|[.ref n,.ref m]=>.ok (.zip n m) M1|_=>.bad
theorem ZmK(hc:X.A.handled=none)(hm:X.mg "enumerate"=none)(ha:DA X ξ [a] fs)(hg:autoParam (Gl X "enumerate") Qrf._auto_1)(hs:autoParam (av [a] X.env=(false,eval a X.env)::av [] X.env) Qrf._auto_1)(hpl:autoParam ((db pos (av [] X.env)).any (·.1)=false) Qrf._auto_1):
  DI X ξ (.Tuple elts k0 tp) (.Call (.Name "enumerate" p) [a] [] pos) (iEn fs):=by
 obtain⟨ta,pa,qa⟩:=ha;refine⟨_,ZmJ hc hg hm pa hs hpl,fun σ ρ H α M R s hh q=>qa σ ρ H α M _ s hh (OG.seq q fun ds M1 vs H1 α1 e1 h1 r1 w1=>?_)⟩;cases r1 with
 |nil=>exact w1.elim
 |cons r tz=>
  cases tz with
  |cons _ _=>cases r<;>exact w1.elim
  |nil=>
   cases r with
   |@ref l n hp=>
    obtain⟨xs0,g0⟩:=h1.some_at hp;refine⟨l,xs0,rfl,SqL.of g0,w1 _ H1 α1 Ext.refl h1 fun i H' α' M' ex hr=>?_⟩;cases em:M'[n]? with
    |none=>rw[show nxt (.enu n) i M'=none by simp only[nxt,em]];exact eU
    |some so=>
     cases so with
     |lst es=>
      obtain⟨xs,g1,g2⟩:=hr.at (ex.get hp) em;cases ei:es[i]? with
      |none=>rw[show nxt (.enu n) i M'=some none by simp only[nxt,em,ei]];exact⟨xs,SqL.of g1,by rw[g2.length];exact bQ.mp ei⟩
      |some d=>
       obtain⟨v,k1,k2⟩:=g2.get ei;rw[show nxt (.enu n) i M'=some (some (D.tup [D.int i,d]))by simp only[nxt,em,ei]]
       refine⟨⟨xs,v,SqL.of g1,k1⟩,fun x H'' y=>?_⟩;obtain⟨pp,y1,rfl,y3⟩:=y;have y4:=y3 xs v (SqL.of g1) k1;subst y4;exact⟨Ext.new0 y1,hr.tup y1,.tup Zy (.cons (.int i) (.cons (Rep.mono (Ext.new0 y1) k2) .nil))⟩
   |_=>exact w1.elim
theorem Zle(hc:X.A.handled=none)(hm:X.mg "zip"=none)(ha:DA X ξ [a,b] fs)(hg:autoParam (Gl X "zip") Qrf._auto_1)(hs:autoParam (av [a,b] X.env=(false,eval a X.env)::av [b] X.env) Qrf._auto_1)(hpl:autoParam ((db pos (av [b] X.env)).any (·.1)=false) Qrf._auto_1):
  DI X ξ (.Tuple elts k0 tp) (.Call (.Name "zip" p) [a,b] [] pos) (iZp fs):=by
 obtain⟨ta,pa,qa⟩:=ha;refine⟨_,Zpk hc hg hm pa hs hpl,fun σ ρ H α M R s hh q=>qa σ ρ H α M _ s hh (OG.seq q fun ds M1 vs H1 α1 e1 h1 r1 w1=>?_)⟩
 split at w1
 ·rename_i n m;cases r1 with
  |cons r t=>
   cases t with
   |cons r' t=>
    cases t;cases r with
    |ref hp=>
    cases r' with
    |ref hp2=>
    rename_i l l2;obtain⟨xs0,g0⟩:=h1.some_at hp;obtain⟨ys0,g0'⟩:=h1.some_at hp2;refine⟨l,l2,xs0,ys0,rfl,SqL.of g0,SqL.of g0',w1 _ H1 α1 Ext.refl h1 fun i H' α' M' ex hr=>?_⟩;cases em:M'[n]? with
    |none=>rw[show nxt (.zip n m) i M'=none by simp only[nxt,em]];exact eU
    |some so=>
     cases em2:M'[m]? with
     |none=>cases so;rw[show nxt (.zip n m) i M'=none by simp only[nxt,em,em2]];exact eU
     |some so2=>
      cases so with
      |lst es=>
       cases so2 with
       |lst es2=>
        obtain⟨xs,g1,g2⟩:=hr.at (ex.get hp) em;obtain⟨ys,g3,g4⟩:=hr.at (ex.get hp2) em2;cases ei:es[i]? with
        |none=>rw[show nxt (.zip n m) i M'=some none by simp only[nxt,em,em2,ei]];exact⟨xs,ys,SqL.of g1,SqL.of g3,.inl (by rw[g2.length];exact bQ.mp ei)⟩
        |some d=>
         cases ej:es2[i]? with
         |none=>rw[show nxt (.zip n m) i M'=some none by simp only[nxt,em,em2,ei,ej]];exact⟨xs,ys,SqL.of g1,SqL.of g3,.inr (by rw[g4.length];exact bQ.mp ej)⟩
         |some d2=>
          obtain⟨v,k1,k2⟩:=g2.get ei;obtain⟨v2,k3,k4⟩:=g4.get ej;rw[show nxt (.zip n m) i M'=some (some (D.tup [d,d2]))by simp only[nxt,em,em2,ei,ej]]
          refine⟨⟨xs,ys,v,v2,SqL.of g1,SqL.of g3,k1,k3⟩,fun x H'' y=>?_⟩;obtain⟨pp,y1,rfl,y3⟩:=y;have y4:=y3 xs ys v v2 (SqL.of g1) (SqL.of g3) k1 k3;subst y4;exact⟨Ext.new0 y1,hr.tup y1,.tup Zy (.cons (Rep.mono (Ext.new0 y1) k2) (.cons (Rep.mono (Ext.new0 y1) k4) .nil))⟩
 ·exact w1.elim
end DL
namespace DL
open PyProof.Rows L2
open PySem.SeqAt (EqAt RcAt RcNeAt)
section
variable {M:Sto}
def eqs(M:Sto)(d:D):List D->Option (List Bool)
 |[]=>some []
 |x::r=>match eqF 12 M x d with|some b=>(match eqs M d r with|some bs=>some (b::bs)|none=>none)|none=>none
end
def inE(x y:D)(M:Sto):Option Bool:=match ZgY M y with|some ds=>(match eqs M x ds with|some bs=>some (bs.any id)|none=>none)|none=>none
def Zv9:Me:=fun x ds M=>match x,ds with
 |.ref n,[d]=>(match M[n]? with|some (.lst xs)=>(match eqs M d xs with|some bs=>(match bs.findIdx? id with|some j=>.ok (.int (j:Nat)) M|none=>.bad)|none=>.bad)|none=>.bad)
 |_,_=>.bad
noncomputable def Zbq:List D->Option (List Int)
 |[]=>some []
 |.int b::r=>match Zbq r with|some bs=>some (b::bs)|none=>none
 |_::_=>none
theorem Zgj{K:Fg}{H:Hp}{α:List Addr}:∀{vs:List V}{ds:List D}{bs:List Int},Reps K H α vs ds->Zbq ds=some bs->vs=bs.map V.int
 |_,_,_,.nil,e=>by cases e;rfl
 |_,_,bs,.cons (d:=d) (ds:=ds) r t,e=>by
  cases r with
  |int b=>
   cases e1:Zbq ds with
   |none=>simp only[Zbq,e1]at e;cases e
   |some cs=>
    simp only[Zbq,e1,aF]at e;subst e;rw[Zgj t e1];rfl
  |_=>cases e
def Zg0(X:Cx)(g:List Int->Option V):List V->Hp->VK->Prop:=fun vs H Q=>∃(p:Addr) (ns:List Int) (v:V),vs=[.ref p]/\SqL X.K H p (ns.map V.int)/\g ns=some v/\Q v H
theorem ZbZ:∀{ns:List Int}{us:List ae}{i:Nat}{u:ae},Z1 (ns.map V.int) us->us[i]?=some u->∃t,u=.int (ns.getD i 0) t
 |[],us,i,u,h,e=>by cases h;simp at e
 |b::r,us,i,u,h,e=>by
  cases h with
  |cons h1 h2=>
   cases i with
   |zero=>simp at e;subst e;exact h1
   |succ i=>simp at e;obtain⟨t,g⟩:=ZbZ h2 e;exact⟨t,by simpa using g⟩
theorem ZeK(hc:X.calm=true){ns:List Int}(I:Inv X pins σ H s)(hl:SqL X.K H p (ns.map V.int))(q:∀(its:List ae)(it:Addr),Z1 (ns.map V.int) its->its.length=ns.length->it=s.heap.objs.size->Walks X.prog X.w X.A.in1 it [it,p] [it] its.toArray.size (fun i v=>its.toArray[i]?=some v) (fun i h=>h.IsListIter it p i/\h.IsList p its.toArray)->(∀b∈[it,p],b<(s.heap.push {cls:=.type "list_iterator",data:=.fields #[.ref p,.int 0 0]}).objs.size)->((s.heap.push {cls:=.type "list_iterator",data:=.fields #[.ref p,.int 0 0]}).IsListIter it p 0/\(s.heap.push {cls:=.type "list_iterator",data:=.fields #[.ref p,.int 0 0]}).IsList p its.toArray)->(∀h' tk,(∀b o,b∉[it]->(s.heap.push {cls:=.type "list_iterator",data:=.fields #[.ref p,.int 0 0]}).get? b=some o->h'.get? b=some o)->Inv X pins σ H {s with heap:=h',toks:=tk})->Q (.ref it) {s with heap:=s.heap.push {cls:=.type "list_iterator",data:=.fields #[.ref p,.int 0 0]}}):wpAny (az X.prog X.w) X.A.in1 (pyIter (.ref p)) Q E s:=by
 obtain⟨its,hv,hp,hz⟩:=I.list hl;have hlt:p<s.heap.objs.size:=by obtain⟨_,e,_⟩:=hp.isList;exact Hz e
 refine wpAny_pyIter_list hp.isList ?_;refine q its s.heap.objs.size hv (by rw[<-hv.length,aB]) rfl (Walks.list (A:=X.A.in1) (I.ok.hd hc) _ p (aE hlt) its.toArray) (fun b hb=>?_) ⟨⟨_,aP _ rfl,rfl,rfl⟩,hp.isList.push _⟩ fun h' tk hk=>?_
 ·rw[fN];simp only[ar,cJ,or_false]at hb;rcases hb with rfl|rfl
  ·exact dP _
  ·exact il hlt
 ·exact I.kept fun b o e=>hk b o (fun hm=>by rw[dj.mp hm]at e;exact cG _ (Hz e)) (Hq _ e)
theorem Zkb{ns:List Int}(h:0<ns.length):ns.max?=some (ns.getD (argBest (fun i j=>decide (ns.getD i 0>ns.getD j 0)) (ns.length-1)) 0):=by
 obtain⟨h1,h2⟩:=argBest_gt (fun i=>ns.getD i 0) (ns.length-1);refine iD.mpr ⟨?_,fun b hb=>?_⟩
 ·have hl:argBest (fun i j=>decide (ns.getD i 0>ns.getD j 0)) (ns.length-1)<ns.length:=by lia
  rw[ao,af hl];exact cj hl
 ·obtain⟨j,hj,rfl⟩:=c7 hb
  have:=h2 j (by lia)
  rwa [show ns.getD j 0=ns[j]by rw[ao,af hj];rfl]at this
theorem Zkc{ns:List Int}(h:0<ns.length):ns.min?=some (ns.getD (argBest (fun i j=>decide (ns.getD i 0<ns.getD j 0)) (ns.length-1)) 0):=by
 obtain⟨h1,h2⟩:=argBest_lt (fun i=>ns.getD i 0) (ns.length-1);refine d6.mpr ⟨?_,fun b hb=>?_⟩
 ·have hl:argBest (fun i j=>decide (ns.getD i 0<ns.getD j 0)) (ns.length-1)<ns.length:=by lia
  rw[ao,af hl];exact cj hl
 ·obtain⟨j,hj,rfl⟩:=c7 hb
  have:=h2 j (by lia)
  rwa [show ns.getD j 0=ns[j]by rw[ao,af hj];rfl]at this
def ZrE(ns:List Int):Option V:=ns.max?.map V.int
def ZrF(ns:List Int):Option V:=ns.min?.map V.int
theorem Za0(hc:X.calm=true):ZbS X (.builtin "max") (Zg0 X ZrE):=by
 intro pins s σ H vs us Q I rs hh;obtain⟨p,ns,v,e,hl,hg,q⟩:=hh;subst e;obtain⟨u,rfl,ru⟩:=ZdU rs;cases ru;have hn:0<ns.length:=by cases ns with|nil=>cases hg|cons _ _=>simp
 unfold ZrE at hg;rw[Zkb hn]at hg;cases hg;refine call_max_walk (ZeK hc I hl fun its it hv hlen ei W hfp st back=>?_);refine⟨it,_,_,_,_,_,_,rfl,W,st,hfp,by rw[au,hlen];exact hn,CmpOf.ints_gt (fun i=>ns.getD i 0) (fun i v hP=>ZbZ hv (by simpa using hP)),fun v h' tk hP hk=>⟨_,H,back h' tk hk,?_,q⟩⟩
 rw[au,hlen]at hP;exact ZbZ hv (by simpa using hP)
theorem Zas(hc:X.calm=true):ZbS X (.builtin "min") (Zg0 X ZrF):=by
 intro pins s σ H vs us Q I rs hh;obtain⟨p,ns,v,e,hl,hg,q⟩:=hh;subst e;obtain⟨u,rfl,ru⟩:=ZdU rs;cases ru;have hn:0<ns.length:=by cases ns with|nil=>cases hg|cons _ _=>simp
 unfold ZrF at hg;rw[Zkc hn]at hg;cases hg;refine call_min_walk (ZeK hc I hl fun its it hv hlen ei W hfp st back=>?_);refine⟨it,_,_,_,_,_,_,rfl,W,st,hfp,by rw[au,hlen];exact hn,CmpOf.ints_lt (fun i=>ns.getD i 0) (fun i v hP=>ZbZ hv (by simpa using hP)),fun v h' tk hP hk=>⟨_,H,back h' tk hk,?_,q⟩⟩
 rw[au,hlen]at hP;exact ZbZ hv (by simpa using hP)
def ZaS(g:List Int->Option Int):W3:=fun ds M=>match ds with
 |[x]=>(match ZgY M x with|some xs=>(match x with|.con _=>.bad|.tup _=>.bad|_=>(match Zbq xs with|some ns=>(match g ns with|some i=>.ok (.int i) M|none=>.bad)|none=>.bad))|none=>.bad)
 |_=>.bad
theorem Zh2(hg:∀ns i,g ns=some i->gV ns=some (.int i)):CO X ξ (Zg0 X gV) (ZaS g):=by
 intro H α M vs ds Q h rs q;unfold ZaS at q
 match rs with
 |.nil=>exact q.elim
 |.cons _ (.cons _ _)=>exact q.elim
 |.cons (d:=x) r .nil=>
  have fin:∀(p:Addr)(xs:List V)(ys:List D),SqL X.K H p xs->Reps X.K H α xs ys->OP X.K H α ξ Q (match Zbq ys with|some ns=>(match g ns with|some i=>.ok (.int i) M|none=>.bad)|none=>.bad)->Zg0 X gV [.ref p] H Q:=fun p xs ys k1 k2 q=>by
   cases e1:Zbq ys with
   |none=>rw[e1]at q;exact q.elim
   |some ns=>
    cases e2:g ns with
    |none=>simp only[e1,e2]at q;exact q.elim
    |some i=>
     simp only[e1,e2]at q
     have:=Zgj k2 e1
     subst this;exact⟨p,ns,.int i,rfl,k1,hg _ _ e2,q _ H α Ext.refl h (.int i)⟩
  cases r with
  |@rol p xs ds hp rp=>exact fin p xs ds hp.sq rp q
  |@ref p n hp=>
   cases em:M[n]? with
   |none=>simp only[ZgY,em]at q;exact q.elim
   |some so=>
    cases so with
    |lst es=>
     simp only[ZgY,em]at q;obtain⟨xs,g1,g2⟩:=h.at hp em;exact fin p xs es (SqL.of g1) g2 q
  |tup _ _=>exact q.elim
  |con _ _=>exact q.elim
  |_=>exact q.elim
theorem Zcg:CO X ξ (Zg0 X ZrE) (ZaS jj):=Zh2 fun ns i e=>by unfold ZrE;rw[e];rfl
theorem Zbu:CO X ξ (Zg0 X ZrF) (ZaS gg):=Zh2 fun ns i e=>by unfold ZrF;rw[e];rfl
end DL
namespace DL
open PyProof.Rows L2
end DL
namespace DL
open PyProof.Rows L2
noncomputable def kK:D->Option Key
 |.int i=>some (.inl i)
 |.str x=>some (.inr x)
 |_=>none
def kKs:List D->Option (List Key)
 |[]=>some []
 |d::r=>match kK d,kKs r with|some k,some ks=>some (k::ks)|_,_=>none
def kT:D->Option (List Key)
 |.tup ds=>kKs ds
 |_=>none
theorem Zpl(h:kK d=some k):d=Zk0 k:=by
 cases d<;>first|(cases h;rfl)|cases h
theorem ZmL(k:Key):kK (Zk0 k)=some k:=by cases k<;>rfl
theorem Zh3:∀{ds:List D}{ks:List Key},kKs ds=some ks->ds=ks.map Zk0
 |[],ks,h=>by cases h;rfl
 |d::r,ks,h=>by
  unfold kKs at h
  split at h
  ·rename_i k ks' e1 e2;cases h;rw[aL,<-Zpl e1,<-Zh3 e2]
  ·cases h
theorem Zgk:∀(ks:List Key),kKs (ks.map Zk0)=some ks
 |[]=>rfl
 |k::ks=>by rw[aL,kKs,ZmL,Zgk ks]
theorem Zpm(h:kT d=some ks):d=ZdW ks:=by
 cases d with
 |tup ds=>rw[ZdW,<-Zh3 h]
 |_=>cases h
theorem Zkd(ks:List Key):kT (ZdW ks)=some ks:=Zgk ks
section
variable {κ:Type}[DecidableEq κ]
noncomputable def Zke(dec:D->Option κ)(k:κ):List D->Option D
 |[]=>none
 |.tup [a,v]::r=>if dec a=some k then some v else Zke dec k r
 |_::r=>Zke dec k r
noncomputable def ZmM(dec:D->Option κ)(k:κ)(v:D)(ds:List D):List D:=ds.map fun e=>match e with|.tup [a,w]=>if dec a=some k then .tup [a,v]else e|e=>e
def Zn6(dec:D->Option κ)(k:κ)(kd v:D)(ds:List D):List D:=if(Zke dec k ds).isSome then ZmM dec k v ds else ds++[.tup [kd,v]]
variable {K:Fg}{H H':Hp}{α α':List Addr}{key:κ->D}{dec:D->Option κ}
theorem Zh4:Zbm K H α key [] []:=⟨[],rfl,.nil⟩
theorem ZeL(hd:∀k,dec (key k)=some k):∀{kvs:List (κ×V)} {es:List D} (k:κ),Reps K H α (kvs.map (·.2)) es->
  match Zke dec k (cZ (fun kv e=>D.tup [key kv.1,e]) kvs es)with|none=>Zjw kvs k=none|some d=>∃v,Zjw kvs k=some v/\Rep K H α v d
 |[],es,k,h=>by cases h;rfl
 | (k',v)::kvs,_,k,.cons r t=>by
  simp only[io,Zke,hd,aF];by_cases c:k'=k
  ·rw[if_pos c];exact⟨v,Zf1 (p:=(k',v)) c,r⟩
  ·rw[if_neg c]
   have:=ZeL hd k t
   have e:Zjw ((k',v)::kvs) k=Zjw kvs k:=Zf2 (p:=(k',v)) c;rw[e];exact this
theorem ZeM(hd:∀k,dec (key k)=some k){w:V}{d:D}(rw':Rep K H α w d):∀{kvs:List (κ×V)} {es:List D} (k:κ),Reps K H α (kvs.map (·.2)) es->
  ∃es',ZmM dec k d (cZ (fun kv e=>D.tup [key kv.1,e]) kvs es)=cZ (fun kv e=>D.tup [key kv.1,e]) (kvs.map fun kv=>if kv.1=k then(kv.1,w)else kv) es'/\Reps K H α ((kvs.map fun kv=>if kv.1=k then(kv.1,w)else kv).map (·.2)) es'
 |[],es,k,h=>by cases h;exact⟨[],rfl,.nil⟩
 | (k',v)::kvs,_,k,.cons (d:=dv) (ds:=es) r t=>by
  obtain⟨es',h1,h2⟩:=ZeM hd rw' k t;unfold ZmM at h1;by_cases c:k'=k
  ·refine⟨d::es',?_,?_⟩
   ·simp only[ZmM,io,aL,hd,aF,if_pos c,h1]
   ·simp only[aL,if_pos c];exact .cons rw' h2
  ·refine⟨dv::es',?_,?_⟩
   ·simp only[ZmM,io,aL,hd,aF,if_neg c,h1]
   ·simp only[aL,if_neg c];exact .cons r h2
theorem Zgl{α' β γ:Type}{f:α'->β->γ}{x:α'}{y:β}:∀{xs:List α'}{ys:List β},xs.length=ys.length->cZ f (xs++[x]) (ys++[y])=cZ f xs ys++[f x y]
 |[],[],_=>rfl
 |a::xs,b::ys,h=>by simp[Zgl (xs:=xs) (ys:=ys) (by simpa using h)]
theorem Zh5(hd:∀k,dec (key k)=some k){kvs:List (κ×V)}{ds:List D}{w:V}{d:D}(k:κ)(h:Zbm K H α key kvs ds)(r:Rep K H α w d):Zbm K H α key (Zjx kvs k w) (Zn6 dec k (key k) d ds):=by
 obtain⟨es,rfl,hr⟩:=h;have pv:=ZeL hd k hr;have an:=Zf3 k kvs;unfold Zjx Zn6;cases e:Zke dec k (cZ (fun kv e=>D.tup [key kv.1,e]) kvs es)with
 |none=>
  rw[e]at pv;rw[if_neg (by rw[an,pv];simp),if_neg (by simp)]
  refine⟨es++[d],?_,?_⟩
  ·rw[Zgl (by rw[<-hr.length,aB])]
  ·rw[dE];exact hr.append (.cons r .nil)
 |some x=>
  rw[e]at pv;obtain⟨v,hv,_⟩:=pv;rw[if_pos (by rw[an,hv];rfl),if_pos (show(some x).isSome=true from rfl)]
  exact ZeM hd r k hr
theorem Zh6{kvs:List (κ×V)}{ds:List D}(h:Zbm K H α key kvs ds):kvs.length=ds.length:=by
 obtain⟨es,rfl,hr⟩:=h
 have:=hr.length
 rw[aB]at this;simp[this]
theorem Zg1{kvs:List (κ×V)}{ds:List D}(h:Zbm K H α key kvs ds)(e:Ext K H H' α α'):Zbm K H' α' key kvs ds:=by
 obtain⟨es,h1,h2⟩:=h;exact⟨es,h1,Reps.mono e h2⟩
end
end DL
namespace DL
open PyProof.Rows L2
end DL
namespace DL
open PyProof.Rows L2
section
variable {X:Cx}{e2:Expr}
def eFm(f:Ev):Ev:=fun ρ M=>(f ρ M).bind fun x M1=>match x with
 |.int i=>if i.natAbs.log2<1900 then .ok (.str (bH (toString i))) M1 else .bad
 |.str y=>if y.length<=100000 then .ok (.str y) M1 else .bad
 |_=>.bad
theorem ZmN(ha:DE X ξ e f):DE X ξ (.FormattedValue e (-1) none pos) (eFm f):=by
 obtain⟨ta,pa,qa⟩:=ha;refine⟨fun σ H Q=>ta σ H fun x H1=>(∃i,x=.int i/\i.natAbs.log2<1900/\Q (.str (bH (toString i))) H1)\/∃y,x=.str y/\y.length<=100000/\Q (.str y) H1,fun pins s σ H Q I h=>?_,fun σ ρ H α M Q s h q=>?_⟩
 ·refine wpAny_FormattedValue_plain (wpAny_mono (pa pins s σ H _ I h) (fun v s1 ⟨x,H1,I1,r1,q1⟩=>?_) fun _ _ z=>z);rcases q1 with⟨i,rfl,hi,q⟩|⟨y,rfl,hy,q⟩
  ·obtain⟨t,rfl⟩:=r1;exact wpAny_formatField_int (by lia) ⟨.str (bH (toString i)),H1,I1.tok _,⟨_,rfl⟩,q⟩
  ·obtain⟨t,rfl⟩:=r1;exact wpAny_formatField_str ⟨.str y,H1,I1,⟨_,rfl⟩,q⟩ ⟨.str y,H1,I1.tok _,⟨_,rfl⟩,q⟩ (aT hy (by rw[c9];decide))
 ·refine qa σ ρ H α M _ s h (OG.seq q fun x M1 v H1 α1 e1 h1 r1 q1=>?_);cases r1 with
  |int i=>
   by_cases hi:i.natAbs.log2<1900
   ·simp only[hi,if_true]at q1;exact .inl ⟨i,rfl,hi,q1 _ H1 α1 Ext.refl h1 (.str _)⟩
   ·simp only[hi,if_false]at q1;exact q1.elim
  |str y=>
   by_cases hi:y.length<=100000
   ·simp only[hi,if_true]at q1;exact .inr ⟨y,rfl,hi,q1 _ H1 α1 Ext.refl h1 (.str _)⟩
   ·simp only[hi,if_false]at q1;exact q1.elim
  |_=>exact q1.elim
abbrev Jv:=Str->Ro->Sto->Out Str
def PJ(X:Cx)(es:List Expr)(t:L2.St->Hp->Str->(Str->Hp->Prop)->Prop):Prop:=
 ∀(pins:Pn)(s:aC)(σ:L2.St)(H:Hp)(acc:Str)(Q:Str->Hp->Prop),Inv X pins σ H s->t σ H acc Q->Joins (az X.prog X.w) X.A X.xe (evalEach es X.env) acc (fun out s1=>out.length<=100000/\∃H',Inv X pins σ H' s1/\Q out H') s
def DJ(X:Cx)(ξ:XK)(es:List Expr)(g:Jv):Prop:=∃t,PJ X es t/\∀σ ρ H α M acc (Q:Str->Hp->Prop),SR X.K H α σ ρ->HR X.K H α M->OG X.K (fun _ _ v d=>v=d) H α ξ Q (g acc ρ M)->t σ H acc Q
noncomputable def jNil:Jv:=fun acc _ M=>if acc.length<=100000 then .ok acc M else .bad
def ZcI(f:Ev)(g:Jv):Jv:=fun acc ρ M=>(f ρ M).bind fun x M1=>match x with
 |.str y=>if(acc++y).length<=100000 then g (acc++y) ρ M1 else .bad
 |_=>.bad
def eFs(g:Jv):Ev:=fun ρ M=>(g mR ρ M).bind fun x M1=>.ok (.str x) M1
theorem Zlf:DJ X ξ [] jNil:=by
 refine⟨fun σ H acc Q=>acc.length<=100000/\Q acc H,fun pins s σ H acc Q I h=>⟨h.1,H,I,h.2⟩,fun σ ρ H α M acc Q s h q=>?_⟩;unfold jNil at q;by_cases hl:acc.length<=100000
 ·rw[if_pos hl]at q;exact⟨hl,q acc H α Ext.refl h rfl⟩
 ·rw[if_neg hl]at q;exact q.elim
theorem Zbv(ha:DE X ξ e f)(hr:DJ X ξ es g):DJ X ξ (e::es) (ZcI f g):=by
 obtain⟨ta,pa,qa⟩:=ha;obtain⟨tr,pr',qr⟩:=hr;refine⟨fun σ H acc Q=>ta σ H fun x H1=>∃y,x=.str y/\(acc++y).length<=100000/\tr σ H1 (acc++y) Q,fun pins s σ H acc Q I h=>?_,fun σ ρ H α M acc Q s h q=>?_⟩
 ·show wpAny _ _ (eval e X.env) _ _ s;refine wpAny_mono (pa pins s σ H _ I h) (fun v s1 ⟨x,H1,I1,r1,q1⟩=>?_) fun _ _ z=>z;obtain⟨y,rfl,hy,q⟩:=q1;obtain⟨t,rfl⟩:=r1;exact⟨y,t,rfl,aT hy (by rw[c9];decide),pr' pins s1 σ H1 (acc++y) Q I1 q⟩
 ·refine qa σ ρ H α M _ s h (OG.seq q fun x M1 v H1 α1 e1 h1 r1 q1=>?_);cases r1 with
  |str y=>
   by_cases hi:(acc++y).length<=100000
   ·simp only[hi,if_true]at q1;exact⟨y,rfl,hi,qr σ ρ H1 α1 M1 (acc++y) Q (s.mono e1) h1 q1⟩
   ·simp only[hi,if_false]at q1;exact q1.elim
  |_=>exact q1.elim
theorem Zpn(h:DJ X ξ (e1::e2::es) g):DE X ξ (.JoinedStr (e1::e2::es) pos) (eFs g):=by
 obtain⟨t,pj,qj⟩:=h;refine⟨fun σ H Q=>t σ H mR fun x H1=>Q (.str x) H1,fun pins s σ H Q I h=>?_,fun σ ρ H α M Q s h q=>?_⟩
 ·refine wpAny_JoinedStr ?_
  have:=pj pins s σ H mR _ I h
  have mono:∀(ms:List (Sem ae)) (acc:Str) (P R:Str->aC->Prop) (s:aC),(∀o s,P o s->R o s)->Joins (az X.prog X.w) X.A X.xe ms acc P s->Joins (az X.prog X.w) X.A X.xe ms acc R s:=by
   intro ms
   induction ms with
   |nil=>intro acc P R s hp hj;exact hp _ _ hj
   |cons m r ih=>
    intro acc P R s hp hj;exact wpAny_mono hj (fun v s1 ⟨y,t,e,l,k⟩=>⟨y,t,e,l,ih _ P R s1 hp k⟩) fun _ _ z=>z
  refine mono _ _ _ _ s (fun o s1 hz=>?_) this;obtain⟨hl,H',I',q⟩:=hz;exact⟨aT hl (by rw[c9];decide),.str o,H',I'.tok _,⟨_,rfl⟩,q⟩
 ·refine qj σ ρ H α M mR _ s h (OG.seq q fun x M1 v H1 α1 e1 h1 r1 q1=>?_);cases r1;exact q1 _ H1 α1 Ext.refl h1 (.str x)
end
end DL
namespace DL
open PyProof.Rows L2
theorem Zg2{o:Out β}{f:β->Sto->Out γ}{g:γ->Sto->Fl}:ZaF (o.bind f) g=ZaF o fun x M=>ZaF (f x M) g:=by cases o<;>rfl
theorem Zd1(iv:Nat)(hN:X.N.Nodup)(B:Blk X scope cl N k fr)(hi:DI X ξ tg iter fi)(h:Blk X scope cl N k fr->∀C fp s H,DG (blk X scope cl N C fp s H) tg gt/\DC (blk X scope cl N C fp s H) ifs c/\DE (blk X scope cl N C fp s H) E0 elt f)(hiv:autoParam (X.N[iv]?=some x) Qrf._auto_1)(hxl:Loc X.env.scope x:=by first|exact dJ rfl|exact mQ rfl)(hm:autoParam (X.may iv=true) Qrf._auto_1)(hsw:autoParam (jh (.ListComp elt [⟨tg,iter,ifs,0⟩] scope pos) (some (.Name x pos')) spos.line X.env=pure true) Qrf._auto_1)(hf:X.fn x=true\/X.env.scope.names.lookup x=some .local:=by first|exact .inl rfl|exact .inr rfl|assumption)(hs:autoParam (∀x,foldedSetIterable iter X.env x=pure x) Qin._auto_1):DS X ξ (.Assign [.Name x pos'] (.ListComp elt [⟨tg,iter,ifs,0⟩] scope pos) spos) (ZJ (gNm iv) (Zai fi k fr gt c f)):=by
 rw[Zgg];obtain⟨wi,pi,qi⟩:=hi;refine⟨fun Dn σ H=>∃ρ α M,SR X.K H α σ ρ/\HR X.K H α M/\FP X.K H α ξ Dn (ZJ (gNm iv) (Zbt fi k fr gt c (gEm f)) ρ M),?_,fun σ ρ H α M Dn s h q=>⟨ρ,α,M,s,h,q⟩⟩;rintro pins s σ H Dn I ⟨ρ,α,M,sr,hr,op⟩;rw[exec_Assign_Name_used _ _ _ _ hsw];refine Wb (wpAny_standAt (Wb ?_));show wpAny _ X.A (do let _ <-comprehension (.ListComp elt [⟨tg,iter,ifs,0⟩] scope pos) scope X.env _ (newList []) false (eval iter X.env) (some (assign (.Name x pos') X.env))) _ _ s
 unfold ZJ Zbt at op;rw[Zg2]at op;refine Wb (wpAny_mono (Zge (P:=fun _ s'=>SP X pins Dn .next s') (g:=gEm f) B pi (fun C fp s H=>(h B C fp s H).1) (fun C fp s H=>(h B C fp s H).2.1) (Zgd elt tg iter ifs scope pos) (fun C fp s H D n0 it=>Zc2 (fun _ _ z=>z) (h B C fp s H).2.2) hs sr I (qi σ ρ H α M _ sr hr (FP.seq op fun src M1 J H1 α1 e1 h1 r1 q1=>?_))) (fun _ s' hq=>Wp (Wp hq)) fun _ _ e=>e)
 cases er:ZcP src gt c (gEm f M1.length) (cnt src M1) 0 (roB k fr ρ) (M1++[.lst []])with
 |ok u9 M9=>
  rw[er]at q1;refine⟨α1,M1,src,u9,M9,e1,h1,r1,er,fun D C H5 α5 s6 m6 ex5 hr5 aD I7 hm6 nl nc tu=>?_⟩;refine wpAny_assign_Name (Zem (v:=.ref D) I7 hN hiv hxl hm rfl (fun s8 I8 ⟨a,sb8,ha⟩=>?_) hf);have nca:C≠a:=by
   rcases ha with e|e
   ·rw[e];exact nl
   ·intro z;exact nc x (z▸e)
  exact⟨m6,hm6.sameBut sb8 nca,fun h' sb=>⟨_,H5,tu _ s8 h' I8 (fun b o hb e=>(sb.2 b hb).trans e),q1 _ H5 α5 ex5 hr5 (((sr.mono e1).mono ex5).set iv (.ref aD))⟩⟩
 |_=>rw[er]at q1;exact q1.elim
end DL
namespace DL
open PyProof.Rows L2
end DL
namespace DL
open L2
open PySem.W
end DL
namespace DL3
open PyProof.Rows L2 DL
open PySem.Sem (wp)
end DL3
namespace DL4
open PyProof.Rows L2 DL
open PySem.Sem (wp)
end DL4
namespace DLy2
open PyProof.Rows L2 DL
open PySem.Sem (wp)
end DLy2
namespace PySem.SeqAt
open PySem.AutoSeq1 (wpAny_loadPart')
open MeetsSeq MeetsSeq2 MeetsSeq3 SeqRoads2
end PySem.SeqAt
namespace DL
open PyProof.Rows L2
open PySem.SeqAt
noncomputable def Zdu:List D->Option (List Int)
 |[]=>some []
 |.int i::r=>match Zdu r with|some is=>some (i::is)|none=>none
 |_::_=>none
theorem ZeN{K:Fg}{H:Hp}{α:List Addr}:∀{vs:List V}{ds:List D}{a:List Int},Reps K H α vs ds->Zdu ds=some a->vs=a.map V.int
 |_,_,a,.nil,e=>by cases e;rfl
 |_,_,a,.cons (d:=d) (ds:=ds) r t,e=>by
  cases r with
  |int i=>
   unfold Zdu at e
   split at e
   ·rename_i is e1;cases e;rw[ZeN t e1];rfl
   ·cases e
  |_=>cases e
section
variable {H:Hp}{α:List Addr}
theorem Zfo:∀{xs:List V}{us:List ae}{j:Nat}{u:ae},Z1 xs us->us[j]?=some u->∃x,xs[j]?=some x/\Z8 x u
 |[],us,j,u,h,e=>by cases h;simp at e
 |x::xs,us,j,u,h,e=>by
  cases h with
  |cons h1 h2=>
   cases j with
   |zero=>simp at e;subst e;exact⟨x,rfl,h1⟩
   |succ j=>simp at e;obtain⟨y,g1,g2⟩:=Zfo h2 e;exact⟨y,by simpa using g1,g2⟩
theorem Zd2{K:Fg}:∀{xs:List V}{ds:List D}{j:Nat}{x:V},Reps K H α xs ds->xs[j]?=some x->∃d,ds[j]?=some d/\Rep K H α x d
 |_,_,j,x,.nil,e=>by simp at e
 |_,_,0,x,.cons r _,e=>by simp at e;subst e;exact⟨_,rfl,r⟩
 |_,_,j+1,x,.cons _ t,e=>by
  obtain⟨d,g1,g2⟩:=Zd2 (j:=j) t (by simpa using e)
  exact⟨d,by simpa using g1,g2⟩
end
end DL
namespace PySem
open PySem.Sem (wp)
end PySem
namespace DL
open PyProof.Rows L2
open PySem.SeqAt
end DL
namespace HT
open PyProof.Rows
section
open PySem.SeqAt
open PySem.AutoSeq1 (wpAny_loadPart')
open PySem.MeetsSeq PySem.MeetsSeq2 PySem.MeetsSeq3
end
end HT
namespace DL
open PyProof.Rows L2
end DL
namespace DL
open PyProof.Rows L2
end DL
namespace DL
open PyProof.Rows L2
end DL
namespace DL
open PyProof.Rows L2
theorem ZmO(nd:(d==gL)=false)(gd:s.heap.get? d=some od)(cd:od.cls=.type "dict")(ed:od.data=.dict es ep)(q:Q (.ref s.heap.objs.size) {s with heap:=s.heap.push {cls:=.type "dict_keyiterator",data:=.fields #[.ref d,.int 0 0,.int es.size 0,.int ep 0]}}):wpAny (az prog w) A (pyIter (.ref d)) Q E s:=by
 have ty:s.TypeIs (.ref d) "dict":=⟨od,gd,cd⟩;have nm:¬(d==gL)=true:=by rw[nd];exact cA
 refine jP ty F.slot_dict_iter (cU F.slot_dict_iter ty F.entry_dict_iter ?_ (F.args_dict_iter_1 _));unfold dH.«dict.__iter__» dH.Dict.dictSlotNone;refine Wb (Wb (wpAny_notOrdered_dict ty (show wpAny (az prog w) _ (pure (aZ d)) _ _ s from Wp ?_)));show wpAny (az prog w) _ (kR d >>= _) _ _ s;unfold kR;rw[if_neg nm];refine Wb (Wp (Wb (jQ gd ed (Wb (kJ gd ed (Wb (cu (Wp ⟨_,rfl,"dict_keyiterator",_,⟨_,aP _ rfl,rfl⟩,F.slot_dict_keyiterator_next.lookup,?_⟩))))))))
 simpa [d8]using q
theorem Zh7:dH.Dict_items.ownsTuple "dict_keyiterator"=false:=by decide
theorem Zpo(hi:s.heap.IsKeyIter it d i es.size ep)(gd:s.heap.get? d=some od)(ed:od.data=.dict es ep)(he:es[i]?=some e)(q:∀h',h'.IsKeyIter it d (i+1) es.size ep->hU it s.heap h'->Q (some e.key) {s with heap:=h'}):wpAny (az prog w) A (jl (.ref it)) Q E s:=by
 obtain⟨oi,gi,ci,di⟩:=id hi;obtain⟨lt,ee⟩:=cY.mp he;have sl:=F.slot_dict_keyiterator_next;have n1:¬((aZ d==bJ)=true):=cA;have n2:¬((i:Int)<0):=by lia
 unfold jl;refine Wb (jV (gX (name:=bH "__next__") hi.typeIs sl (cU sl hi.typeIs F.entry_dict_keyiterator_next ?_ (F.args_dict_keyiterator_next_1 _))));refine Wb (Wp (Wb (Wb ?_)))
 first|refine Wb (dw hi.typeIs (Wp (Wb (jC gi di ?_))))|refine Wb (eX hi.typeIs (Wp (Wb (jC gi di ?_))))
 simp only[Zh7,bq,if_false];show wpAny (az prog w) _ (if(aZ d==bJ)=true then _ else _) _ _ s
 rw[if_neg n1];refine Wb (Wp (Wb (jQ gd ed ?_)));rw[if_neg (by simp)]
 refine Wb (Wp (Wb (kJ gd ed ?_)));rw[if_neg (by simp)]
 refine Wp ?_;simp only[n2,if_false,dA,he];refine Wb ?_;have st:(s.heap.update it (dL (·.setIfInBounds 1 (d8 ((i:Int)+1))))).IsKeyIter it d (i+1) es.size ep:=⟨_,fH _ gi (dZ (dX di _)),(jL ..).trans ci,by rw[dX di];simp[d8]⟩
 first|refine Wb (dw hi.typeIs (Wp (Wb (iE hi.typeIs ?_))))|refine Wb (eX hi.typeIs (Wp (Wb (iE hi.typeIs ?_))))
 show wpAny (az prog w) _ (setField (.ref it) 1 (d8 ((i:Int)+1)) >>= _) _ _ s;refine Wb (dW gi di (by simp) (Wb (cX (Wb (iE (s:={s with heap:=s.heap.update it (dL (·.setIfInBounds 1 (d8 ((i:Int)+1))))}) st.typeIs ?_)))))
 show wpAny (az prog w) _ (pure e.key) _ _ _;exact Wp (Wp ⟨_,rfl,Wp (q _ st (fg ..))⟩)
theorem Zpp(qq:DQ.Za3 A s.heap)(hi:s.heap.IsKeyIter it d i es.size ep)(gd:s.heap.get? d=some od)(ed:od.data=.dict es ep)(he:es[i]?=none):wpAny (az prog w) A.in1 (dH.«dict_keyiterator.__next__» ⟨[.ref it],[]⟩) (fun _ _=>False) (DQ.ZfS it s) s:=by
 obtain⟨oi,gi,ci,di⟩:=id hi;have n1:¬((aZ d==bJ)=true):=cA;have n2:¬((i:Int)<0):=by lia
 refine Wb (Wp (Wb (Wb ?_)))
 first|refine Wb (dw hi.typeIs (Wp (Wb (jC gi di ?_))))|refine Wb (eX hi.typeIs (Wp (Wb (jC gi di ?_))))
 simp only[Zh7,bq,if_false];show wpAny (az prog w) _ (if(aZ d==bJ)=true then _ else _) _ _ s
 rw[if_neg n1];refine Wb (Wp (Wb (jQ gd ed ?_)));rw[if_neg (by simp)]
 refine Wb (Wp (Wb (kJ gd ed ?_)));rw[if_neg (by simp)]
 refine Wp ?_;simp only[n2,if_false,dA,he];refine Wb ?_
 first|refine Wb (dw hi.typeIs (Wp ?_))|refine Wb (eX hi.typeIs (Wp ?_))
 show wpAny (az prog w) _ (setField (.ref it) 0 .none >>= _) _ _ s;refine Wb (dW gi di (by simp) ?_)
 have q2:DQ.Za3 A.in1 (s.heap.update it (dL (·.setIfInBounds 0 bJ))):=by
  rcases qq with qq|⟨ea,oe,vs,e1,e2,e3,e4⟩
  ·exact .inl qq
  ·refine .inr ⟨ea,oe,vs,e1,?_,e3,e4⟩;rw[aW _ _ (fun z=>?_)]
   ·exact e2
   ·rw[<-z,gi]at e2;cases e2;rw[di]at e3;cases e3;simp at e4
 refine DQ.Zbz q2 fun h' e k ho=>⟨e,rfl,ho,h',fun b o hb z=>k b o ?_,rfl⟩;rw[aW _ _ (bV hb)];exact z
theorem Zg3(qq:DQ.Za3 A s.heap)(hi:s.heap.IsKeyIter it d i es.size ep)(gd:s.heap.get? d=some od)(ed:od.data=.dict es ep)(he:es[i]?=none)(q:∀h',iQ it s.heap h'->Q none {s with heap:=h'}):wpAny (az prog w) A (jl (.ref it)) Q E s:=
 DQ.ZfT hi.typeIs F.slot_dict_keyiterator_next F.entry_dict_keyiterator_next (F.args_dict_keyiterator_next_1 _) (Zpp qq hi gd ed he) q
end DL
namespace DL
open PyProof.Rows L2 PySem.W
theorem Zkf(lo:(d==gL)=false):KdlSrc prog w "dict" d d es.size (fun i v=>∃e:lU,es[i]?=some e/\v=e.key) (fun h=>∃o,h.get? d=some o/\o.cls=.type "dict"/\o.data=.dict es ep) where
 type:=fun _ ⟨o,e,c,_⟩=>⟨o,e,c⟩
 there:=fun _ ⟨o,e,_⟩=>⟨Hz e,Hz e⟩
 keep:=fun _ _ ⟨o,e,r⟩ hk=>⟨o,hk d (.inl rfl) o e,r⟩
 notList:=by decide
 notTuple:=by decide
 hint:=fun _ _ _ _ ⟨o,e,c,_⟩ hq=>kdl_hint_dict ⟨o,e,c⟩ hq
 iter:=fun A s hh ⟨o,e,c,dd⟩=>⟨_,fun i h=>h.IsKeyIter s.heap.objs.size d i es.size ep/\∃o,h.get? d=some o/\o.cls=.type "dict"/\o.data=.dict es ep,fun _ _ hq=>ZmO lo e c dd hq,{
  sub:=fun b hb=>by simp at hb;simp[hb]
  frame:=fun _ _ _ st hk=>⟨st.1.at fun o e=>hk _ (by simp) o e,let ⟨o,e,r⟩:=st.2;⟨o,hk d (by simp) o e,r⟩⟩
  item:=fun i s' Q E hi st hQ=>by
   obtain⟨o',e',c',d'⟩:=st.2;have ne:d≠s.heap.objs.size:=aE (Hz e);refine Zpo st.1 e' d' (eD hi) fun h' it' sb=>hQ _ h' s'.toks ⟨_,eD hi,rfl⟩ ⟨it',o',by rw[sb.2 d ne];exact e',c',d'⟩ fun b ob hb eb=>?_
   rw[sb.2 b (fun z=>hb (by simp[z]))]
   exact eb
  done:=fun s' Q E st hQ=>by
   obtain⟨o',e',c',d'⟩:=st.2;exact Zg3 (.inl hh) st.1 e' d' (by simp) fun h' he'=>hQ h' s'.toks fun b ob hb eb=>he' b ob (fun z=>hb (by simp[z])) eb
  self:=fun _ _ _ _ st hQ=>wpAny_pyIter_keyiter st.1 hQ},⟨_,aP _ rfl,rfl,rfl⟩,o,Hq _ e,c,dd⟩
def Zjz:List D->Option (List (List Key))
 |[]=>some []
 |d::r=>match kT d,Zjz r with|some k,some ks=>some (k::ks)|_,_=>none
def kyU:D->Option (List (List Key))
 |.tup ds=>Zjz ds
 |_=>none
theorem ZcQ:∀{ds:List D}{ks:List (List Key)},Zjz ds=some ks->ds=ks.map ZdW
 |[],ks,h=>by cases h;rfl
 |d::r,ks,h=>by
  unfold Zjz at h
  split at h
  ·rename_i k ks' e1 e2;cases h;rw[aL,<-Zpm e1,<-ZcQ e2]
  ·cases h
theorem ZeO:∀(ks:List (List Key)),Zjz (ks.map ZdW)=some ks
 |[]=>rfl
 |k::ks=>by rw[aL,Zjz,Zkd,ZeO ks]
theorem ZmP(h:kyU d=some ks):d=Zmu ks:=by
 cases d with
 |tup ds=>rw[Zmu,<-ZcQ h]
 |_=>cases h
theorem Zkg(ks:List (List Key)):kyU (Zmu ks)=some ks:=ZeO ks
section
variable {K:Fg}{H:Hp}{α:List Addr}
theorem ZeP:∀{vs:List V}{ds:List D}{ks:List Key},Reps K H α vs ds->kKs ds=some ks->vs=ks.map kV
 |_,_,ks,.nil,e=>by cases e;rfl
 |_,_,ks,.cons (d:=d) (ds:=ds) r t,e=>by
  unfold kKs at e
  split at e
  ·rename_i k ks' e1 e2;cases e;rw[aL,ZeP t e2];congr 1;cases r with
   |int i=>cases e1;rfl
   |str x=>cases e1;rfl
   |_=>cases e1
  ·cases e
theorem ZdL:∀{xs:List V}{ds:List D}{ks:List (List Key)},Reps K H α xs ds->Zjz ds=some ks->∃cs:List Addr,xs=cs.map V.ref/\Paired (fun(k:List Key) (c:Addr)=>H c=some (.tup (k.map kV))) ks cs
 |_,_,ks,.nil,h=>by cases h;exact⟨[],rfl,.nil⟩
 |_,_,ks,.cons (v:=v) (d:=d) (ds:=ds) r t,h=>by
  unfold Zjz at h
  split at h
  ·rename_i k ks' e1 e2;cases h;obtain⟨cs,h1,h2⟩:=ZdL t e2;cases r with
   |@tup p xs ds' hb rb=>exact⟨p::cs,by rw[h1];rfl,.cons (by rw[hb,ZeP rb e1]) h2⟩
   |_=>cases e1
  ·cases h
theorem ZmQ(r:Rep K H α (.ref b) d)(e:kyU d=some ks):ZaD H ks b:=by
 cases r with
 |@tup p xs ds hb rb=>
  obtain⟨cs,h1,h2⟩:=ZdL rb e;exact⟨cs,by rw[hb,h1],h2⟩
 |_=>cases e
theorem Zfp:∀(ks:List Key),Reps K H α (ks.map kV) (ks.map Zk0)
 |[]=>.nil
 |.inl i::ks=>.cons (.int i) (Zfp ks)
 |.inr x::ks=>.cons (.str x) (Zfp ks)
theorem ZeQ:∀{ks:List (List Key)} {cs:List Addr},Paired (fun(k:List Key) (c:Addr)=>H c=some (.tup (k.map kV))) ks cs->Reps K H α (cs.map V.ref) (ks.map ZdW)
 |_,_,.nil=>.nil
 |_,_,.cons h t=>.cons (.tup h (Zfp _)) (ZeQ t)
theorem Zkh(h:ZaD H ks b):Rep K H α (.ref b) (Zmu ks):=by
 obtain⟨cs,h1,h2⟩:=h;exact .tup h1 (ZeQ h2)
theorem ZaD.up(h:ZaD H ks b)(ht:∀b ys,H b=some (.tup ys)->H' b=some (.tup ys)):ZaD H' ks b:=by
 obtain⟨cs,h1,h2⟩:=h;exact⟨cs,ht _ _ h1,Paired.mapP h2 fun _ _ z=>ht _ _ z⟩
end
abbrev KU(H:Hp):List (List (List Key)×V)->List (List (List Key)×Addr×ae)->Prop:=Paired fun p q=>p.1=q.1/\ZaD H p.1 q.2.1/\Z8 p.2 q.2.2
theorem KU.any(r:KU H kvs xs)(k:List (List Key)):(kvs.any fun kv=>decide (kv.1=k))=(atKey xs k).isSome:=by
 induction r with
 |nil=>rfl
 |@cons p q ps qs h t ih=>
  unfold atKey at ih ⊢;rw[List.any_cons,ih,kH,<-h.1];by_cases e:p.1=k
  ·simp[e]
  ·simp[e]
theorem KU.put(r:KU H kvs xs)(k:List (List Key))(hb:ZaD H k b)(ry:Z8 y u):KU H (Zjx kvs k y) (storedH xs k b u):=by
 have e:=r.any k;unfold Zjx storedH;rw[e];by_cases q:(atKey xs k).isSome=true
 ·rw[if_pos q,if_pos q];clear e q
  induction r with
  |nil=>exact .nil
  |@cons p q ps qs h t ih=>
   rw[aL,aL];refine .cons ?_ ih;unfold putAt;by_cases c:p.1=k
   ·rw[if_pos c,if_pos (h.1.symm.trans c)];exact⟨h.1,h.2.1,ry⟩
   ·rw[if_neg c,if_neg (fun z=>c (h.1.trans z))];exact h
 ·rw[if_neg q,if_neg q];exact Paired.snoc r ⟨rfl,hb,ry⟩
theorem Zh8(ok:HOk P w H h)(e:ZaD H ks a):(ZcJ (Zaw P w)).is h ks a:=by
 obtain⟨cs,h1,h2⟩:=e;obtain⟨_,its,r,o,g1,g2,n,g3⟩:=(show ZaW P w H h a (.tup (cs.map V.ref))from ok a _ h1);refine⟨o,its.toArray,n,g1,g2,g3,?_⟩
 have:∀{ks:List (List Key)} {cs:List Addr} {vs:List ae},Paired (fun(k:List Key) (c:Addr)=>H c=some (.tup (k.map kV))) ks cs->Z1 (cs.map V.ref) vs->NK.ItemsT (Zaw P w) h ks vs:=by
  intro ks cs vs q
  induction q generalizing vs with
  |nil=>intro z;cases z;exact .nil
  |cons hk _ ih=>
   intro z;cases z with
   |cons z1 z2=>
    cases z1;exact .cons (ZoS ok hk) (ih z2)
 simpa using this h2 r
theorem Zr8(ok:HOk P w H h)(e:H a=some (.dU kvs)):kvs.length<=sizeLine/\(a==gL)=false/\∃xs,KU H kvs xs/\h.DictOfH (ZcJ (Zaw P w)) a xs:=by
 obtain⟨z,y,xs,r,o,es,ep,h1,h2,h3,h4,h5⟩:=(show ZaW P w H h a (.dU kvs)from ok a _ e);refine⟨z,y,xs,r,o,es,ep,h1,h2,h3,h4,fun x hx=>?_,h5⟩;clear h4 h5 z e
 induction r with
 |nil=>cases hx
 |@cons p q ps qs hq t ih=>
  rcases ar.mp hx with z|hx
  ·subst z
   have:=Zh8 ok hq.2.1
   rw[hq.1]at this;exact this
  ·exact ih hx
section
variable {e:Expr}{pos':Pos}{tv:TE}
def tDNewU:TE:=fun _ H Q=>∀p,H p=none->Q (.ref p) (upd H p (.dU []))
theorem Zki:PE X (.Dict [] [] pos) tDNewU:=fun pins s σ H Q I h=>
 wpAny_Dict_empty ⟨.ref s.heap.objs.size,_,I.laid (a:=s.heap.objs.size) (o:=.dU []) (t':=s.toks) (fun _ _ q=>Hq _ q) (aj _) ⟨eN _,beq_eq_false_iff_ne.mpr (bV (aE I.big)),[],.nil,_,#[],0,aP _ rfl,⟨rfl,rfl,rfl⟩,rfl,rfl,List.nodup_nil⟩,rfl,h _ (I.hok.fresh (aj _))⟩
noncomputable def eDnU:Ev:=fun _ M=>.ok (.du M.length) (M++[.lst []])
theorem Zpq:DE X ξ (.Dict [] [] pos) eDnU:=by
 refine⟨_,Zki,fun σ ρ H α M Q s h q p hp=>?_⟩;have kn:Kn (upd H p (.dU [])) p=some 3:=by unfold Kn;rw[Zy]
 exact q (.ref p) _ (α++[p]) (Ext.new hp) (h.newO hp (.inr (.inr (.inr (.inr (.inr ⟨[],Zy,Zh4⟩)))))) (.du ⟨h.last p,kn⟩)
def Zr9(td ty tv:TE):TS:=fun D σ H=>tv σ H fun v H1=>td σ H1 fun x H2=>ty σ H2 fun y H3=>∃a kvs k b,x=.ref a/\H3 a=some (.dU kvs)/\y=.ref b/\ZaD H3 k b/\kvs.length<sizeLine/\D.nx σ (upd H3 a (.dU (Zjx kvs k v)))
theorem ZmR(hu:X.A.units+2<j5)(ho:PE X o td)(hi:PE X i ty)(hv:PE X e tv)(hs:jh e (some (.Subscript o i pos')) pos.line X.env=pure false):PS X (.Assign [.Subscript o i pos'] e pos) (Zr9 td ty tv):=by
 intro pins s σ H D I h;refine wpAny_Assign_Subscript (thn (hv pins s σ H _ I h) fun r s1 ⟨v,H1,I1,rv,q1⟩=>thn (ho pins s1 σ H1 _ I1 q1) fun u s2 ⟨x,H2,I2,rx,q2⟩=>thn (hi pins s2 σ H2 _ I2 q2) fun iv s3 hz=>?_) hs;obtain⟨y,H3,I3,ry,a,kvs,k,b,ex,g1,ey,g2,l,q3⟩:=hz;subst ex ey;obtain rfl:u=aZ a:=rx;obtain rfl:iv=aZ b:=ry;obtain⟨z,hd,xs,rel,dd⟩:=Zr8 I3.hok g1;have hz:xs.length<=sizeLine:=by rw[<-Paired.length rel];exact z
 have hl:(Zjx kvs k v).length<=sizeLine:=by have:=Zfg kvs k v;lia
 refine wpAny_setItem_heap (hsz:=hz) (knd:=ZcJ (Zaw X.prog X.w)) (by first|(show X.A.units+1+1<j5;lia)|(show X.A.units+1<j5;lia)) (Zh8 I3.hok g2) dd fun h' dd' hs=>⟨σ,_,?_,q3⟩
 obtain⟨q,es,ep,hq,h2,h3,h4,_,h5⟩:=dd';refine Zmt I3 (by rw[g1];exact eU) hs ⟨q,hq⟩ ⟨hl,hd,_,Paired.mapP (rel.put k g2 rv) fun p c t=>⟨t.1,ZaD.up t.2.1 (fun c ys ec=>?_),t.2.2⟩,q,es,ep,hq,h2,h3,h4,h5⟩
 rw[ZH (ZrI ec g1 (fun z=>nomatch z))];exact ec
def Zkj(fo fi f:Ev):Sv:=fun ρ M=>ZaF (f ρ M) fun d M1=>ZaF (fo ρ M1) fun x M2=>ZaF (fi ρ M2) fun k M3=>match x with
 |.du n=>(match kyU k,M3[n]? with|some kk,some (.lst ds)=>if ds.length<10000000 then .nx ρ (M3.set n (.lst (Zn6 kyU kk k d ds)))else .bad|_,_=>.bad)
 |_=>.bad
theorem ZmS(hu:X.A.units+64<j5)(ho:DE X ξ o fo)(hi:DE X ξ i fi)(he:DE X ξ e f)(hs:autoParam (jh e (some (.Subscript o i pos')) pos.line X.env=pure false) Qrf._auto_1):DS X ξ (.Assign [.Subscript o i pos'] e pos) (Zkj fo fi f):=by
 obtain⟨t,p,q⟩:=he;obtain⟨to,po,qo⟩:=ho;obtain⟨ti,pi,qi⟩:=hi;refine⟨_,ZmR (by lia) po pi p hs,fun σ ρ H α M Dn s hh w=>q σ ρ H α M _ s hh (FP.seq w fun d M1 v H1 α1 e1 h1 r1 w1=>?_)⟩
 refine qo σ ρ H1 α1 M1 _ (s.mono e1) h1 (FP.seq w1 fun od M2 ov H2 α2 e2 h2 r2 w2=>?_);refine qi σ ρ H2 α2 M2 _ ((s.mono e1).mono e2) h2 (FP.seq w2 fun kd M3 kv H3 α3 e3 h3 r3 w3=>?_);have sr:=((s.mono e1).mono e2).mono e3;have rv:=Rep.mono e3 (Rep.mono e2 r1);cases Rep.mono e3 r2 with
 |@du a n hp=>
  cases e5:kyU kd with
  |none=>simp only[e5]at w3;exact w3.elim
  |some kk=>
   cases em:M3[n]? with
   |none=>simp only[e5,em]at w3;exact w3.elim
   |some so=>
    cases so with
    |lst ds=>
     simp only[e5,em]at w3;by_cases hl:ds.length<10000000
     ·simp only[if_pos hl]at w3;obtain⟨kvs,g1,g2⟩:=h3.atU hp em;have kn:Kn (upd H3 a (.dU (Zjx kvs kk v))) a=some 3:=by unfold Kn;rw[Zy]
      have ex:Ext X.K H3 (upd H3 a (.dU (Zjx kvs kk v))) α3 α3:=Ext.wrK hp.kn (fun _ _ z=>by rw[g1]at z;cases z) kn
      have eg:=Zh5 Zkg kk g2 rv;rw[<-ZmP e5]at eg;obtain⟨b,rfl⟩:∃b,kv=.ref b:=by
       cases r3 with
       |@tup b xs ds' hb rb=>exact⟨b,rfl⟩
       |_=>cases e5
      refine⟨a,kvs,kk,b,rfl,g1,rfl,ZmQ r3 e5,by rw[Zh6 g2];exact ai hl (by decide),?_⟩
      exact w3 σ _ α3 ex (h3.wrO hp.at' ex (.inr (.inr (.inr (.inr (.inr ⟨_,Zy,Zg1 eg ex⟩)))))) (sr.mono ex)
     ·simp only[if_neg hl]at w3;exact w3.elim
 |_=>exact w3.elim
theorem Zg4(hc:X.A.handled=none):ZbS X (.type "list") (fun xs H Q=>∃d kvs,xs=[.ref d]/\H d=some (.dU kvs)/\∀l (bs:List Addr),H l=none->Paired (fun(p:List (List Key)×V) (b:Addr)=>ZaD H p.1 b) kvs bs->Q (.ref l) (upd H l (.lst (bs.map V.ref)))):=by
 intro pins s σ H xs us Q I r h;obtain⟨d,kvs,rfl,g,q⟩:=h;obtain⟨u,rfl,ru⟩:=ZdU r;cases ru;obtain⟨z,y,ys,rel,o,es,ep,h1,h2,h3,h4,h5⟩:=(show ZaW X.prog X.w H s.heap d (.dU kvs)from I.hok d _ g);have hl:es.size=kvs.length:=by rw[<-gr,h4,aB,Paired.length rel]
 refine kdl_call (Zkf (es:=es) (ep:=ep) y) hc ⟨o,h1,h2.1,h3⟩ (by rw[hl];exact z) fun h' tk acc c keep hS hacc=>?_
 have ea:acc=((ys.map fun x=>aZ x.2.1):List ae).toArray:=by
  obtain⟨a1,a2⟩:=hacc;apply Array.ext';apply iq;intro j;rw[kW,bB];by_cases hj:j<acc.size
  ·obtain⟨en,e1,e2⟩:=a2 j _ (eD hj);rw[eD hj,e2];rw[<-kW,h4,bB]at e1;cases ey:ys[j]? with
   |none=>rw[ey]at e1;cases e1
   |some x=>rw[ey]at e1;cases e1;rfl
  ·rw[Array.getElem?_eq_none (by lia),a9 (by rw[<-Paired.length rel,<-hl,<-a1];lia)]
   rfl
 refine⟨.ref s.heap.objs.size,_,I.laid (t':=tk) (o:=.lst ((ys.map (·.2.1)).map V.ref)) keep (aj _) ⟨?_,ys.map fun x=>aZ x.2.1,c,?_,by rw[ea]at hS;exact hS⟩,rfl,q _ (ys.map (·.2.1)) (I.hok.fresh (aj _)) ?_⟩
 ·rw[aB,aB,<-Paired.length rel];exact z
 ·have:∀l:List (List (List Key)×Addr×ae),Z1 ((l.map (·.2.1)).map V.ref) (l.map fun x=>aZ x.2.1):=by
   intro l
   induction l with
   |nil=>exact .nil
   |cons a l ih=>exact .cons rfl ih
  exact this ys
 ·have:∀{a:List (List (List Key)×V)} {b:List (List (List Key)×Addr×ae)},KU H a b->Paired (fun(p:List (List Key)×V) (c:Addr)=>ZaD H p.1 c) a (b.map (·.2.1)):=by
   intro a b q
   induction q with
   |nil=>exact .nil
   |cons h _ ih=>exact .cons h.2.1 ih
  exact this rel
noncomputable def Zh9:D->D|.tup [k,_]=>k|e=>e
def bLisU:W3:=fun ds M=>match ds with
 |[.du n]=>(match M[n]? with|some (.lst es)=>.ok (.ref M.length) (M++[.lst (es.map Zh9)])|none=>.bad)
 |_=>.bad
theorem ZmT:CO X ξ (fun xs H Q=>∃d kvs,xs=[.ref d]/\H d=some (.dU kvs)/\∀l (bs:List Addr),H l=none->Paired (fun(p:List (List Key)×V) (b:Addr)=>ZaD H p.1 b) kvs bs->Q (.ref l) (upd H l (.lst (bs.map V.ref)))) bLisU:=by
 intro H α M vs ds Q h rs q;unfold bLisU at q
 split at q
 ·rename_i n;cases rs with
  |cons r t=>
   cases t;cases r with
   |@du p _ hp=>
    cases em:M[n]? with
    |none=>rw[em]at q;exact q.elim
    |some so=>
     cases so with
     |lst es=>
      rw[em]at q;obtain⟨kvs,g1,es',rfl,g2⟩:=h.atU hp em;refine⟨p,kvs,rfl,g1,fun l bs hl pr=>?_⟩;refine q _ _ (α++[l]) (Ext.new hl) (h.new hl ?_) (.ref ⟨h.last l,Kn.lst Zy⟩)
      have:∀{kvs:List (List (List Key)×V)} {bs:List Addr} {es':List D},kvs.length=es'.length->Paired (fun(p:List (List Key)×V) (b:Addr)=>ZaD H p.1 b) kvs bs->Reps X.K H α (bs.map V.ref) ((cZ (fun kv e=>D.tup [Zmu kv.1,e]) kvs es').map Zh9):=by
       intro kvs bs es' hz q
       induction q generalizing es' with
       |nil=>exact .nil
       |cons hq _ ih=>
        cases es' with
        |nil=>cases hz
        |cons e es'=>exact .cons (Zkh hq) (ih (by simpa using hz))
      exact this (by have:=g2.length;rw[aB]at this;exact this) pr
 ·exact q.elim
end
end DL
namespace DL
open PyProof.Rows L2 PySem.W
end DL
namespace DL
open PyProof.Rows L2 PySem.W
abbrev IsZ(h:Heap)(z TI TO:Addr)(f0:ae)(f1:Bool):Prop:=
 h.get? z=some {cls:=.type "zip",dict:=none,data:=.fields #[f0,.bool f1,.bool false,.ref TI,.ref TO],slots:= #[]}
section
variable {s:aC}
def ZSt(z TI TO i1 i2 l1 l2:Addr)(xs ys:Array ae)(i:Nat)(h:Heap):Prop:=
 ((IsZip h z TI TO .none/\∃a b,IsPair h TO a b)\/∃(T:Addr) (f1:Bool) (oT:Obj),IsZ h z TI TO (d8 T) f1/\h.get? T=some oT/\T≠z/\T≠i1/\T≠i2/\oT.cls=.type "tuple")/\IsPair h TI (.ref i1) (.ref i2)/\h.IsListIter i1 l1 i/\h.IsListIter i2 l2 i/\h.IsList l1 xs/\h.IsList l2 ys
theorem ZSt.type{TI TO:Addr}(st:ZSt z TI TO i1 i2 l1 l2 xs ys i s.heap):s.TypeIs (.ref z) "zip":=by
 rcases st.1 with⟨hz,_⟩|⟨T,f1,oT,hz,_⟩
 ·exact⟨_,hz,rfl⟩
 ·exact⟨_,hz,rfl⟩
theorem ZSt.iter{TI TO:Addr}(st:ZSt z TI TO i1 i2 l1 l2 xs ys i s.heap)(h:Q (.ref z) s):wpAny (az prog w) A (pyIter (.ref z)) Q E s:=by
 have hT:=st.type;refine jP hT F.slot_zip_iter (cU F.slot_zip_iter hT F.entry_zip_iter ?_ (F.args_zip_iter_1 _));show wpAny _ _ (ret (.ref z)) _ _ s;exact Wp ⟨_,rfl,"zip",_,hT,F.slot_zip_next.lookup,h⟩
end
end DL
namespace DL
open PyProof.Rows L2 PySem.W
noncomputable def Zsa(te:TE)(g1 g2:TG):TS:=fun D σ H=>te σ H fun x H1=>g1 x σ H1 fun σ' H2=>g2 x σ' H2 D.nx
theorem ZmU(he:PE X e te)(h1:PG X t1 g1)(h2:PG X t2 g2)(hw:autoParam (gA [t1,t2] e X.env=pure none) Qrf._auto_1)(ha:autoParam ((dD [t1,t2] X.env).map (·.2)=[assign t1 X.env,assign t2 X.env]) Qrf._auto_1):PS X (.Assign [t1,t2] e pos) (Zsa te g1 g2):=by
 intro pins s σ H D I h;refine wpAny_Assign_two (thn (he pins s σ H _ I h) fun v s1 hz=>?_) ha hw;obtain⟨x,H1,I1,r1,q1⟩:=hz;exact thn (h1 pins s1 σ H1 x v _ I1 r1 q1) fun _ s2 ⟨σ2,H2,I2,q2⟩=>thn (h2 pins s2 σ2 H2 x v _ I2 r1 q2) fun _ s3 q=>q
noncomputable def Zn7(g1 g2:Tg):Tg:=fun d ρ=>match g1 d ρ with|some ρ1=>g2 d ρ1|none=>none
theorem Zia(he:DE X ξ e f)(h1:DG X t1 g1)(h2:DG X t2 g2)(hw:autoParam (gA [t1,t2] e X.env=pure none) Qrf._auto_1)(ha:autoParam ((dD [t1,t2] X.env).map (·.2)=[assign t1 X.env,assign t2 X.env]) Qrf._auto_1):DS X ξ (.Assign [t1,t2] e pos) (ZJ (Zn7 g1 g2) f):=by
 obtain⟨t,p,q⟩:=he;obtain⟨tt1,pt1,qt1⟩:=h1;obtain⟨tt2,pt2,qt2⟩:=h2;refine⟨_,ZmU p pt1 pt2 hw ha,fun σ ρ H α M Dn s hh w=>q σ ρ H α M _ s hh (FP.seq w fun d M1 v H1 α1 e1 h1 r1 w1=>?_)⟩;unfold Zn7 at w1;cases eg:g1 d ρ with
 |none=>simp only[eg]at w1;exact w1.elim
 |some ρ1=>
  simp only[eg]at w1;cases eh:g2 d ρ1 with
  |none=>simp only[eh]at w1;exact w1.elim
  |some ρ2=>
   simp only[eh]at w1;exact qt1 v d σ ρ H1 α1 ρ1 _ (s.mono e1) r1 eg fun σ' s'=>qt2 v d σ' ρ1 H1 α1 ρ2 _ s' r1 eh fun σ2 s2=>w1 σ2 H1 α1 Ext.refl h1 s2
end DL
namespace DL
open PyProof.Rows L2
end DL
namespace DL
open PyProof.Rows L2 PySem.W
noncomputable def Zsb(e iter':Expr)(d:Nat)(it acc:ae)(env:Env):Sem Fin:=do
 let x <-eval iter' env
 standAt iter'.pos
 let x <-foldedSetIterable iter' env x
 let _ <-runOwn (.compStart e (d+1) (<-holding [x] (pyIter x)) acc env) env
 again (.compLoop e d it acc env)
theorem Zib(elt t0 i0 t1 i1:Expr)(f0 f1:List Expr)(sc:js)(pos:Pos)(it acc:ae)(env:Env):iV (.ListComp elt [⟨t0,i0,f0,0⟩,⟨t1,i1,f1,0⟩] sc pos) 0 it acc env=Zd0 t0 i0 f0 it env (Zsb (.ListComp elt [⟨t0,i0,f0,0⟩,⟨t1,i1,f1,0⟩] sc pos) i1 0 it acc env) (again (.compLoop (.ListComp elt [⟨t0,i0,f0,0⟩,⟨t1,i1,f1,0⟩] sc pos) 0 it acc env)):=by rfl
theorem Zic(elt t0 i0 t1 i1:Expr)(f0 f1:List Expr)(sc:js)(pos:Pos)(it acc:ae)(env:Env):iV (.ListComp elt [⟨t0,i0,f0,0⟩,⟨t1,i1,f1,0⟩] sc pos) 1 it acc env=Zd0 t1 i1 f1 it env (ZhX (.ListComp elt [⟨t0,i0,f0,0⟩,⟨t1,i1,f1,0⟩] sc pos) elt 1 it acc env) (again (.compLoop (.ListComp elt [⟨t0,i0,f0,0⟩,⟨t1,i1,f1,0⟩] sc pos) 1 it acc env)):=by rfl
theorem Zfq(hd:gens[d]?=some ⟨target,iter,ifs,0⟩)(h0:fY (az prog w) A (.compLoop (.ListComp elt gens scope pos) d it acc env) R s)(h:wpAny (az prog w) A (pyIter it) (fun it' s'=>fY (az prog w) A (.compLoop (.ListComp elt gens scope pos) d it' acc env) R s') (notedBy (az prog w) A env fun x s'=>R (.error x) s') s):fY (az prog w) A (.compStart (.ListComp elt gens scope pos) d it acc env) R s:=by
 have hc:(clausesOf (.ListComp elt gens scope pos))[d]?=some ⟨target,iter,ifs,0⟩:=hd;refine codeAny_of_tree ?_;show wpAny _ _ ((compStart (.ListComp elt gens scope pos) d it acc env).onRaise (fun x=>do lY x env;standAt theWindowsPlace)) _ _ s
 refine wpAny_notedAt ?_;unfold compStart;rw[hc];show wpAny _ _ (ask >>= _) _ _ s;refine Wb (wpAny_askSetting (wpAny_ite ?_));split
 ·first
   |exact Wb (Wp (Wp (lZ rfl h0)))
   |exact Wp (lZ rfl h0)
 ·first
   |exact Wb (wpAny_rule (Wb (wpAny_standAt (Wb (wpAny_mono h (fun it' s' h'=>Wp (lZ rfl h')) fun _ _ x=>x)))))
   | (refine Wb (wpAny_rule ?_);show wpAny _ _ (standAt iter.pos >>= _) _ _ s;exact Wb (wpAny_standAt (Wb (wpAny_mono h (fun it' s' h'=>Wp (lZ rfl h')) fun _ _ x=>x))))
def gIn(fi:Ro->Sto->Out Src)(tg:Tg)(c:Tv)(g:Ro->Sto->Out Ro):Ro->Sto->Out Ro:=fun ρ M=>match fi ρ M with
 |.ok src M1=>ZcP src tg c g (cnt src M1) 0 ρ M1
 |_=>.bad
theorem Zkk{D:Addr}{bd:ae->Sem Fin}(hd:gens[d0+1]?=some ⟨tg,iter,ifs,0⟩)(hct:∀it',iV (.ListComp elt gens scope pos) (d0+1) it' (.ref D) Y.env=Zd0 tg iter ifs it' Y.env (bd it') (again (.compLoop (.ListComp elt gens scope pos) (d0+1) it' (.ref D) Y.env)))(hxe:∀x y,Y.xe x y->False)(hi:DI Y E0 tg iter fi)(hg:DG Y tg gt)(tst:DC Y ifs c)(hb:∀it':Addr,ZdI Y D n0 (.compLoop (.ListComp elt gens scope pos) (d0+1) (.ref it') (.ref D) Y.env) (bd (.ref it')) g)(hs:autoParam (∀x,foldedSetIterable iter Y.env x=pure x) Qin._auto_1) :
  ZdI Y D n0 (.compLoop (.ListComp elt gens scope pos) d0 (.ref it) (.ref D) Y.env) (Zsb (.ListComp elt gens scope pos) iter d0 (.ref it) (.ref D) Y.env) (gIn fi gt c g):=by
 obtain⟨wi,pi,qi⟩:=hi;intro pins s σ ρ H α M ρ' M' I sr hr aD en;unfold gIn at en;cases ef:fi ρ M with
 |exc x9 M10=>rw[ef]at en;cases en
 |bad=>rw[ef]at en;cases en
 |ok src M1=>
  rw[ef]at en;simp only at en;have pv:=pi pins s σ H (fun J H2=>∃α2,Ext Y.K H H2 α α2/\HR Y.K H2 α2 M1/\Zpa Y.K H2 α2 J src) I (qi σ ρ H α M _ sr hr (by
   rw[ef];exact fun J H2 α2 e h r=>⟨α2,e,h,r⟩))
  unfold Zsb;refine Wb (wpAny_mono pv (fun x s1 w1=>?_) (fun x y z=>hxe x y z));refine Wb (wpAny_standAt (Wb (wpAny_of_eq (hs x) ?_)));refine Wb (cX (wpAny_mono w1 (fun itv s2 w2=>?_) (fun x y z=>hxe x y z)));obtain⟨it',fp,tn,J,H2,rfl,I2,T,st2,f2,α2,e2,h2,sc⟩:=w2;have loop:fY (az Y.prog Y.w) Y.A (.compLoop (.ListComp elt gens scope pos) (d0+1) (.ref it') (.ref D) Y.env) (fun r s'=>match r with|.ok f=>wpAny (az Y.prog Y.w) Y.A (again (.compLoop (.ListComp elt gens scope pos) d0 (.ref it) (.ref D) Y.env)) (fun fin s'=>fin=.again (.compLoop (.ListComp elt gens scope pos) d0 (.ref it) (.ref D) Y.env)/\∃σ' H' α',Inv Y pins σ' H' s'/\Ext Y.K H H' α α'/\SR Y.K H' α' σ' ρ'/\HR Y.K H' α' M') (fun _ _=>False) s'|.error e=>cameBackBy (az Y.prog Y.w) Y.A Y.env (fun _ _=>False) e s') s2:=by
   refine ZeH (hct (.ref it')) T hxe (fun{H'} hn b hb'=>⟨hn b hb',(f2 b hb').2⟩) hg tst (hb it') sc (e2.get aD) I2 st2 (fun b hb'=>(f2 b hb').1) (sr.mono e2) h2 en ?_;intro σ5 H5 α5 s6 I6 ex5 sr5 hr5;exact Wp ⟨rfl,σ5,H5,α5,I6,e2.trans ex5,sr5,hr5⟩
  refine Wb (wpAny_runOwn (h:=none) ?_);exact Zfq hd loop (T.self Y.A 0 _ _ _ st2 loop)
theorem Zgm(B:Blk X scope cl N k fr)(hi:DI X ξ tg iter fi)(h:Blk X scope cl N k fr->∀C fp s H,DG (blk X scope cl N C fp s H) tg gt/\DC (blk X scope cl N C fp s H) ifs c/\DI (blk X scope cl N C fp s H) E0 tg1 iter1 fi1/\DG (blk X scope cl N C fp s H) tg1 gt1/\DC (blk X scope cl N C fp s H) ifs1 c1/\DE (blk X scope cl N C fp s H) E0 elt f)(hs:autoParam (∀x,foldedSetIterable iter X.env x=pure x) Qin._auto_1)(hs1:∀env x,foldedSetIterable iter1 env x=pure x:=by intro _ _;rfl):
  DE X ξ (.ListComp elt [⟨tg,iter,ifs,0⟩,⟨tg1,iter1,ifs1,0⟩] scope pos) (Zbt fi k fr gt c fun n=>gIn fi1 gt1 c1 (gEm f n)):=
 Zgf B hi (fun C fp s H=>(h B C fp s H).1) (fun C fp s H=>(h B C fp s H).2.1) (Zib elt tg iter tg1 iter1 ifs ifs1 scope pos) (fun C fp s H D n0 it=>let ⟨_,_,h1,h2,h3,h4⟩:=h B C fp s H;Zkk (bd:=fun it'=>ZhX (.ListComp elt [⟨tg,iter,ifs,0⟩,⟨tg1,iter1,ifs1,0⟩] scope pos) elt 1 it' (.ref D) (blk X scope cl N C fp s H).env) rfl (fun it'=>Zic elt tg iter tg1 iter1 ifs ifs1 scope pos it' _ _) (fun _ _ z=>z) h1 h2 h3 (fun it'=>Zc2 (fun _ _ z=>z) h4) (hs1 _)) hs
end DL
namespace DL
open PyProof.Rows L2
end DL
namespace DL
open PyProof.Rows L2
end DL
namespace DL
open PyProof.Rows L2
end DL
namespace DL
open L2
end DL
namespace DL
open PyProof.Rows L2 PySem.W
end DL
namespace PySem.SeqAt
open MeetsSeq MeetsSeq2 MeetsSeq3 SeqRoads2
end PySem.SeqAt
namespace DL
open PyProof.Rows L2 PySem.W
end DL
namespace ST
open PyProof.Rows
abbrev lt(a b:List Int):Bool:=HT.ZaX a b
def le(a b:List Int):Prop:=lt b a=false
theorem Zid:∀a:List Int,lt a a=false
 |[]=>rfl
 |x::r=>by
  show HT.ZaX (x::r) (x::r)=false;rw[HT.ZQ,if_pos rfl];exact Zid r
theorem ZmV:∀{a b c:List Int},lt a b=true->lt b c=true->lt a c=true
 |[],[],_,h,_=>by cases h
 |[],_::_,[],_,h=>by cases h
 |[],_::_,_::_,_,_=>rfl
 |_::_,[],_,h,_=>by cases h
 |_::_,_::_,[],_,h=>by cases h
 |x::a,y::b,z::c,h,g=>by
  show HT.ZaX (x::a) (z::c)=true;have h:HT.ZaX (x::a) (y::b)=true:=h;have g:HT.ZaX (y::b) (z::c)=true:=g;rw[HT.ZQ]at h g ⊢;by_cases e1:x=y
  ·subst e1;rw[if_pos rfl]at h;by_cases e2:x=z
   ·rw[if_pos e2]at g ⊢;exact ZmV h g
   ·rw[if_neg e2]at g ⊢;exact g
  ·rw[if_neg e1]at h;have h:=of_decide_eq_true h;by_cases e2:y=z
   ·subst e2;rw[if_neg e1];exact decide_eq_true h
   ·rw[if_neg e2]at g;have g:=of_decide_eq_true g;rw[if_neg (by lia)]
    exact decide_eq_true (by lia)
theorem ZeR:∀{a b:List Int},lt a b=false->lt b a=false->a=b
 |[],[],_,_=>rfl
 |[],_::_,h,_=>by cases h
 |_::_,[],_,h=>by cases h
 |x::a,y::b,h,g=>by
  have h:HT.ZaX (x::a) (y::b)=false:=h;have g:HT.ZaX (y::b) (x::a)=false:=g;rw[HT.ZQ]at h g;by_cases e:x=y
  ·subst e;rw[if_pos rfl]at h g;rw[ZeR h g]
  ·rw[if_neg e]at h;rw[if_neg (bV e)]at g
   have:=of_decide_eq_false h
   have:=of_decide_eq_false g
   lia
theorem Zdv(a:List Int):le a a:=Zid a
theorem Zie(h:lt a b=true):le a b:=by
 unfold le;cases e:lt b a with
 |false=>rfl
 |true=>have:=ZmV h e;rw[Zid]at this;cases this
theorem Zg5(h:le a b)(g:le b c):le a c:=by
 unfold le at *;cases e:lt c a with
 |false=>rfl
 |true=>
  cases e2:lt b a with
  |true=>rw[e2]at h;cases h
  |false=>
   cases e3:lt a b with
   |true=>rw[ZmV e e3]at g;cases g
   |false=>
    have:=ZeR e3 e2
    subst this;rw[e]at g;cases g
theorem Zfr(h:lt a b=true)(g:le b c):lt a c=true:=by
 cases e:lt a c with
 |true=>rfl
 |false=>have:=Zg5 g e;unfold le at this;rw[h]at this;cases this
variable (kf:hE->List Int)
noncomputable def ky(xs:Array hE)(i:Nat):List Int:=match xs[i]? with|some p=>kf p|none=>[]
def Up(xs:Array hE)(n:Nat):Prop:=∀i j,i<=j->j<n->le (ky kf xs i) (ky kf xs j)
def Dn(xs:Array hE)(n:Nat):Prop:=∀i j,i<=j->j<n->le (ky kf xs j) (ky kf xs i)
variable {kf}
theorem Zif{xs ys:Array hE}{i j:Nat}(h:xs[i]?=ys[j]?):ky kf xs i=ky kf ys j:=by unfold ky;rw[h]
theorem Zig{xs:Array hE}{i j:Nat}(hj:j<=xs.size)(k:Nat):ky kf (jZ xs i j ((j-i)/2)) k=if i<=k/\k<j then ky kf xs (i+j-1-k)else ky kf xs k:=by
 have g:=getElem?_mirror_all (i:=i) hj k;split
 ·rename_i c;rw[if_pos c]at g;exact Zif g
 ·rename_i c;rw[if_neg c]at g;exact Zif g
theorem Zak{xs:Array hE}{i j:Nat}(hj:j<=xs.size)(hs:∀k,i<=k->k<j->ky kf xs k=ky kf xs (j-1))(k:Nat):ky kf (jZ xs i j ((j-i)/2)) k=ky kf xs k:=by
 rw[Zig hj];split
 ·rename_i c;rw[hs k c.1 c.2,hs (i+j-1-k) (by lia) (by lia)]
 ·rfl
theorem Zlg{xs:Array hE}{p d:Nat}(hp:p<xs.size)(hd:d<=p)(k:Nat):ky kf (bubble xs p d) k=if k=p-d then ky kf xs p else if p-d<k/\k<=p then ky kf xs (k-1)else ky kf xs k:=by
 have g:=getElem?_bubble hp d hd k;by_cases c1:k=p-d
 ·rw[if_pos c1]at g ⊢;exact Zif g
 ·rw[if_neg c1]at g ⊢;by_cases c2:p-d<k/\k<=p
  ·rw[if_pos c2]at g ⊢;exact Zif g
  ·rw[if_neg c2]at g ⊢;exact Zif g
structure Cm(M:Model) (A:dR) (E:Vp) (s:aC) (kf:hE->List Int) (B:d7->Prop) (N:Nat):Prop where
 sz:∀st,B st->(arrOf st).size=N
 put:∀st xs,B st->xs.Perm (arrOf st)->B (setArr st xs)
 cmp:∀st i j (Q:Option Bool->d7->Prop),B st->i<N->j<N->Q (some (lt (ky kf (arrOf st) i) (ky kf (arrOf st) j))) st->wpS M A E s (ltAt' i j) Q st
section
variable {prog:cH}{w:c8}{A:dR}{E:Vp}{s:aC}{B:d7->Prop}{N:Nat}
theorem Up.more{xs:Array hE}{n:Nat}(h:Up kf xs n)(h1:1<=n)(hl:le (ky kf xs (n-1)) (ky kf xs n)):Up kf xs (n+1):=by
 intro i j ij jn;by_cases c:j<n
 ·exact h i j ij c
 ·have:j=n:=by lia
  subst this;by_cases c2:i=j
  ·subst c2;exact Zdv _
  ·exact Zg5 (h i (j-1) (by lia) (by lia)) hl
theorem Dn.more{xs:Array hE}{n:Nat}(h:Dn kf xs n)(h1:1<=n)(hl:le (ky kf xs n) (ky kf xs (n-1))):Dn kf xs (n+1):=by
 intro i j ij jn;by_cases c:j<n
 ·exact h i j ij c
 ·have:j=n:=by lia
  subst this;by_cases c2:i=j
  ·subst c2;exact Zdv _
  ·exact Zg5 hl (h i (j-1) (by lia) (by lia))
theorem Zpr(C:Cm (az prog w) A E s kf B N){st:d7}{a n:Nat}{Q:AscSt->d7->Prop}(hn:n<=N)(ha:1<=a)(an:a<=n)(hB:B st)(hu:Up kf (arrOf st) a)(q:∀m,a<=m->m<=n->Up kf (arrOf st) m->(m=n\/lt (ky kf (arrOf st) m) (ky kf (arrOf st) (m-1))=true)->Q (none,m) st):wpS (az prog w) A E s (ascLoop a n) Q st:=by
 unfold ascLoop;refine ir (fun x c t=>t=st/\c=(none,x)/\Up kf (arrOf st) x) (fun x c t ax xn hI=>?_) (fun c t hI=>?_) ⟨rfl,rfl,hu⟩
 ·obtain⟨rfl,rfl,h⟩:=hI;refine bK (C.cmp t x (x-1) _ hB (by lia) (by lia) ?_)
  cases z:lt (ky kf (arrOf t) x) (ky kf (arrOf t) (x-1))with
  |true=>exact cQ (q x ax (by lia) h (.inr z))
  |false=>exact cQ ⟨rfl,rfl,h.more (by lia) z⟩
 ·obtain⟨rfl,rfl,h⟩:=hI;rw[Nat.max_eq_right an]at h ⊢;exact q n an (aj _) h (.inl rfl)
theorem Zlh(C:Cm (az prog w) A E s kf B N){st:d7}{m n:Nat}{Q:Option Nat->d7->Prop}(hn:n<=N)(h1:1<=m)(mn:m<=n)(hB:B st)(hd:Dn kf (arrOf st) m)(q:∀m t,B t->1<=m->m<=n->Up kf (arrOf t) m->Q (some m) t):wpS (az prog w) A E s (tail3 m n) Q st:=by
 have sz:=C.sz st hB;have hB':=C.put st (jZ (arrOf st) 0 m ((m-0)/2)) hB (lH ..);refine bK (lI (bK (Zpr C hn h1 mn hB' (fun i j ij jm=>?_) fun k k1 k2 hu _=>cQ (q k _ hB' (by lia) k2 hu))))
 show le (ky kf (jZ (arrOf st) 0 m ((m-0)/2)) i) (ky kf (jZ (arrOf st) 0 m ((m-0)/2)) j);rw[Zig (by lia),Zig (by lia),if_pos ⟨by lia,by lia⟩,if_pos ⟨by lia,jm⟩]
 exact hd _ _ (by lia) (by lia)
def Eqs(kf:hE->List Int)(xs:Array hE)(x e:Nat):Prop:=e+1<=x/\∀i,x-(e+1)<=i->i<x->ky kf xs i=ky kf xs (x-1)
theorem Zsc{xs:Array hE}{x:Nat}(h:1<=x):Eqs kf xs x 0:=⟨by lia,fun i a b=>by rw[show i=x-1 by lia]⟩
theorem Zps(C:Cm (az prog w) A E s kf B N){st:d7}{m n:Nat}{Q:DescSt->d7->Prop}(hn:n<=N)(h1:1<=m)(mn:m<=n)(hB:B st)(hd:Dn kf (arrOf st) m)(q:∀x e t,B t->m<=x->x<=n->Dn kf (arrOf t) x->Eqs kf (arrOf t) x e->Q (none,x,e) t):wpS (az prog w) A E s (descLoop m n) Q st:=by
 unfold descLoop;refine ir (fun x c t=>∃e,c=(none,x,e)/\B t/\Dn kf (arrOf t) x/\Eqs kf (arrOf t) x e) (fun x c t ax xn hI=>?_) (fun c t hI=>?_) ⟨0,rfl,hB,hd,Zsc h1⟩
 ·obtain⟨e,rfl,hB,hd,he⟩:=hI;have sz:=C.sz t hB;refine bK (C.cmp t x (x-1) _ hB (by lia) (by lia) ?_)
  cases z:lt (ky kf (arrOf t) x) (ky kf (arrOf t) (x-1))with
  |true=>
   have up1:=hd.more (by lia) (Zie z)
   show wpS _ _ _ _ (if e>0 then _ else _) _ _
   by_cases c:e>0
   ·rw[if_pos c];refine bK (lI (cQ ⟨0,rfl,C.put t _ hB (lH ..),fun i j ij jx=>?_,Zsc (by lia)⟩))
    show le (ky kf (jZ (arrOf t) (x-(e+1)) x ((x-(x-(e+1)))/2)) j) (ky kf (jZ (arrOf t) (x-(e+1)) x ((x-(x-(e+1)))/2)) i);rw[Zak (by lia) he.2,Zak (by lia) he.2]
    exact up1 i j ij jx
   ·rw[if_neg c];exact cQ ⟨0,rfl,hB,up1,Zsc (by lia)⟩
  |false=>
   refine bK (C.cmp t (x-1) x _ hB (by lia) (by lia) ?_)
   cases z2:lt (ky kf (arrOf t) (x-1)) (ky kf (arrOf t) x)with
   |true=>exact cQ (q x e t hB ax (by lia) hd he)
   |false=>
    have ee:ky kf (arrOf t) x=ky kf (arrOf t) (x-1):=ZeR z z2;refine cQ ⟨e+1,rfl,hB,hd.more (by lia) z2,by have:=he.1;lia,fun i a b=>?_⟩
    rw[show x+1-1=x by lia]
    by_cases c:i=x
    ·rw[c]
    ·rw[ee];exact he.2 i (by lia) (by lia)
 ·obtain⟨e,rfl,hB,hd,he⟩:=hI;rw[Nat.max_eq_right mn]at hd he ⊢;exact q n e t hB mn (aj _) hd he
theorem Zli(C:Cm (az prog w) A E s kf B N){st:d7}{m n:Nat}{Q:Option Nat->d7->Prop}(hn:n<=N)(mn:m+1<=n)(hB:B st)(hd:Dn kf (arrOf st) (m+1))(q:∀m t,B t->1<=m->m<=n->Up kf (arrOf t) m->Q (some m) t):wpS (az prog w) A E s (descPart m n) Q st:=by
 refine bK (wpS_lift (wpAny_rule ⟨rfl,bK (Zps C hn (by lia) mn hB hd fun x e t hB hx xn hd he=>?_)⟩))
 have sz:=C.sz t hB;show wpS _ _ _ _ (if e>0 then _ else _) _ _
 by_cases c:e>0
 ·rw[if_pos c];refine bK (lI (Zlh (m:=x) C hn (by lia) xn (C.put t _ hB (lH ..)) (fun i j ij jx=>?_) q))
  show le (ky kf (jZ (arrOf t) (x-(e+1)) x ((x-(x-(e+1)))/2)) j) (ky kf (jZ (arrOf t) (x-(e+1)) x ((x-(x-(e+1)))/2)) i);rw[Zak (by lia) he.2,Zak (by lia) he.2]
  exact hd i j ij jx
 ·rw[if_neg c];exact Zlh (m:=x) C hn (by lia) xn hB hd q
theorem Zsd(C:Cm (az prog w) A E s kf B N){st:d7}{n:Nat}{Q:Option Nat->d7->Prop}(hn:n<=N)(h1:1<=n)(hB:B st)(q:∀m t,B t->1<=m->m<=n->Up kf (arrOf t) m->Q (some m) t):wpS (az prog w) A E s (countRun' 0 n) Q st:=by
 have sz:=C.sz st hB;rw[countRun0_eq];refine bK (Zpr C hn (aj 1) h1 hB (fun i j ij j1=>by rw[show i=j by lia];exact Zdv _) fun m m1 m2 hu ho=>?_)
 show wpS _ _ _ _ (if(m==n)=true then _ else _) _ _
 by_cases c:m=n
 ·rw[if_pos (by simpa using c)]
  exact cQ (q m st hB m1 m2 hu)
 ·rw[if_neg (by simpa using c)]
  have hl:=ho.resolve_left c;by_cases c1:m>1
  ·rw[if_pos c1];refine bK (C.cmp st 0 (m-1) _ hB (by lia) (by lia) ?_)
   cases z:lt (ky kf (arrOf st) 0) (ky kf (arrOf st) (m-1))with
   |true=>exact cQ (q m st hB m1 m2 hu)
   |false=>
    have al:∀k,0<=k->k<m->ky kf (arrOf st) k=ky kf (arrOf st) (m-1):=fun k _ km=>
     ZeR (Zg5 z (hu 0 k (by lia) km)) (hu k (m-1) (by lia) (by lia))
    refine bK (lI (Zli C hn (by lia) (C.put st _ hB (lH ..)) (fun i j ij jx=>?_) q))
    show le (ky kf (jZ (arrOf st) 0 m ((m-0)/2)) j) (ky kf (jZ (arrOf st) 0 m ((m-0)/2)) i);rw[Zak (by lia) al,Zak (by lia) al]
    by_cases d:j<m
    ·rw[al i (by lia) (by lia),al j (by lia) d];exact Zdv _
    ·have:j=m:=by lia
     subst this;by_cases d2:i=j
     ·rw[d2];exact Zdv _
     ·rw[al i (by lia) (by lia)];exact Zie hl
  ·rw[if_neg c1]
   have:m=1:=by lia
   subst this;refine Zli C hn (by lia) hB (fun i j ij jx=>?_) q
   by_cases d2:i=j
   ·rw[d2];exact Zdv _
   ·rw[show i=0 by lia,show j=1 by lia];exact Zie hl
theorem Zse(C:Cm (az prog w) A E s kf B N){st:d7}{n ok:Nat}{Q:Bool->d7->Prop}(hn:n<=N)(hk:ok<=n)(hB:B st)(hu:Up kf (arrOf st) ok)(q:∀t,B t->Up kf (arrOf t) n->Q true t):wpS (az prog w) A E s (binarySort' 0 n ok) Q st:=by
 rw[binarySort'_eq];simp only[gj];refine bK (wpS_mono (ir (fun k c t=>c=(none,())/\B t/\Up kf (arrOf t) (min k n)) (Q:=fun c t=>c=(none,())/\B t/\Up kf (arrOf t) n) (fun k c t ak kn hI=>?_) (fun c t hI=>?_) ⟨rfl,hB,fun i j ij jn=>?_⟩) fun c t hI=>?_)
 ·obtain⟨rfl,hB,hu⟩:=hI;rw[i7 (by lia)]at hu
  have sz:=C.sz t hB;have kN:k<N:=by lia
  refine bK (wpS_mono (ir (fun x c t'=>t'=t/\∃l r,c=(none,l,r)/\(l<=r/\r<=k/\r-l<=k-x)/\(∀i,i<l->le (ky kf (arrOf t) i) (ky kf (arrOf t) k))/\∀i,r<=i->i<k->lt (ky kf (arrOf t) k) (ky kf (arrOf t) i)=true) (Q:=fun c t'=>t'=t/\∃l r,c=(none,l,r)/\l<=k/\(∀i,i<l->le (ky kf (arrOf t) i) (ky kf (arrOf t) k))/\∀i,l<=i->i<k->lt (ky kf (arrOf t) k) (ky kf (arrOf t) i)=true) (fun x c t' _ xk hI=>?_) (fun c t' hI=>?_) ⟨rfl,0,k,rfl,by lia,fun i hi=>by lia,fun i a b=>by lia⟩) fun c t' hI=>?_)
  ·obtain⟨rfl,l,r,rfl,⟨lr,rk,hm⟩,lo,hi⟩:=hI;show wpS _ _ _ _ (if l ≥ r then _ else _) _ _
   by_cases c:l ≥ r
   ·rw[if_pos c]
    have:l=r:=by lia
    subst this;exact cQ ⟨rfl,l,l,rfl,rk,lo,hi⟩
   ·rw[if_neg c];refine bK (C.cmp t' k ((l+r)/2) _ hB kN (by lia) ?_)
    cases z:lt (ky kf (arrOf t') k) (ky kf (arrOf t') ((l+r)/2))with
    |true=>exact cQ ⟨rfl,l,(l+r)/2,rfl,by lia,lo,fun i a b=>Zfr z (hu _ _ a b)⟩
    |false=>exact cQ ⟨rfl,(l+r)/2+1,r,rfl,by lia,fun i a=>Zg5 (hu i ((l+r)/2) (by lia) (by lia)) z,hi⟩
  ·obtain⟨rfl,l,r,rfl,⟨lr,rk,hm⟩,lo,hi⟩:=hI
   have:l=r:=by lia
   subst this;exact⟨rfl,l,l,rfl,rk,lo,hi⟩
  ·obtain⟨rfl,l,r,rfl,lk,lo,hi⟩:=hI;show wpS _ _ _ _ (moveDown' k l >>= fun _=>pure (ForInStep.yield (none,()))) _ _;rw[moveDown'_eq];refine bK (wpS_modify (cQ ⟨rfl,C.put t' _ hB (bubble_perm ..),?_⟩));rw[i7 (by lia)]
   intro i j ij jk;show le (ky kf (bubble (arrOf t') k (k-l)) i) (ky kf (bubble (arrOf t') k (k-l)) j);rw[Zlg (by lia) (by lia),Zlg (by lia) (by lia),show k-(k-l)=l by lia]
   by_cases i1:i=l
   ·rw[if_pos i1];by_cases j1:j=l
    ·rw[if_pos j1];exact Zdv _
    ·rw[if_neg j1,if_pos (by lia)];exact Zie (hi _ (by lia) (by lia))
   ·rw[if_neg i1];by_cases i2:l<i/\i<=k
    ·rw[if_pos i2,if_neg (by lia),if_pos (by lia)];exact hu _ _ (by lia) (by lia)
    ·rw[if_neg i2];by_cases j1:j=l
     ·rw[if_pos j1];exact lo _ (by lia)
     ·rw[if_neg j1];by_cases j2:l<j/\j<=k
      ·rw[if_pos j2];exact hu _ _ (by lia) (by lia)
      ·rw[if_neg j2];exact hu _ _ (by lia) (by lia)
 ·obtain⟨rfl,hB,hu⟩:=hI;rw[show min (max (max ok 1) n) n=n by lia]at hu
  exact⟨rfl,hB,hu⟩
 ·by_cases c:ok=0
  ·rw[show i=j by lia];exact Zdv _
  ·exact hu i j ij (by lia)
 ·obtain⟨rfl,hB,hu⟩:=hI;exact cQ (q t hB hu)
structure Cn(B:d7->Prop):Prop where
 fail:∀st,B st->iW st=none
 pend:∀st,B st->j7 st= #[]
theorem Zlj(C:Cm (az prog w) A E s kf B N)(D:Cn B){st:d7}{Q:Unit->d7->Prop}(h2:2<=N)(h64:N<64)(hB:B st)(q:∀t t',B t->arrOf t'=arrOf t->iW t'=none->Up kf (arrOf t) N->Q () t'):wpS (az prog w) A E s sortRuns' Q st:=by
 rw[sortRuns'_eq];refine bK (mG ?_);have mr:minRun' N N 0=N:=by
  have:minRun' ((N-1)+1) N 0=N:=by rw[minRun'_succ,if_pos h64];rfl
  rwa [show N-1+1=N by lia]at this
 simp only[C.sz st hB,mr];refine bK (wpS_mono (ir (fun x c t=>(x=0/\c=(none,0)/\B t)\/(1<=x/\c=(none,N)/\∃t0,B t0/\t=gP t0 #[(0,N,0)]/\Up kf (arrOf t0) N)) (Q:=fun c t=>c=(none,N)/\∃t0,B t0/\t=gP t0 #[(0,N,0)]/\Up kf (arrOf t0) N) (fun x c t _ xN hI=>?_) (fun c t hI=>?_) (.inl ⟨rfl,rfl,hB⟩)) fun c t hI=>?_)
 ·rcases hI with⟨rfl,rfl,hB⟩|⟨x1,rfl,hD⟩
  ·show wpS _ _ _ _ (if 0 ≥ N then _ else _) _ _
   rw[if_neg (by lia)]
   simp only[Nat.sub_zero,kz,gj];refine bK (Zsd C (aj _) (by lia) hB fun m t1 hB1 m1 m2 hu=>?_)
   have fin:∀t1,B t1->Up kf (arrOf t1) N->(j7 t1).back?=none/\((0=0/\((none,N):Option Unit×Nat)=(none,0)/\B (gP t1 ((j7 t1).push (0,N,0))))\/(1<=0+1/\((none,N):Option Unit×Nat)=(none,N)/\∃t0,B t0/\gP t1 ((j7 t1).push (0,N,0))=gP t0 #[(0,N,0)]/\Up kf (arrOf t0) N)):=fun t1 hB1 hu=>by
    rw[D.pend t1 hB1];exact⟨rfl,.inr ⟨by lia,rfl,t1,hB1,rfl,hu⟩⟩
   show wpS _ _ _ _ (if m<N then _ else _) _ _
   by_cases c:m<N
   ·rw[if_pos c];refine bK (wpS_lift (wpAny_rule ⟨rfl,bK (Zse C (aj _) m2 hB1 hu fun t2 hB2 hu2=>?_)⟩));simp only[dM,bq,if_false];refine bK (mG ?_);rw[(fin t2 hB2 hu2).1];refine bK (wpS_modify (cQ (.inr ⟨by lia,rfl,t2,hB2,?_,hu2⟩)))
    rw[D.pend t2 hB2];rfl
   ·rw[if_neg c]
    have:m=N:=by lia
    subst this;refine bK (mG ?_);rw[(fin t1 hB1 hu).1];refine bK (wpS_modify (cQ (.inr ⟨by lia,rfl,t1,hB1,?_,hu⟩)))
    rw[D.pend t1 hB1];rfl
  ·show wpS _ _ _ _ (if N ≥ N then _ else _) _ _
   rw[if_pos (aj _)];exact cQ ⟨rfl,hD⟩
 ·rcases hI with⟨x0,_,_⟩|⟨_,hc,hD⟩
  ·lia
  ·exact⟨hc,hD⟩
 ·obtain⟨rfl,t0,hB0,rfl,hu⟩:=hI;refine bK (wpS_mono (ir (fun _ c t=>t=gP t0 #[(0,N,0)]/\c=(none,())) (Q:=fun c t=>t=gP t0 #[(0,N,0)]/\c=(none,())) (fun x c t _ _ hI=>?_) (fun _ _ h=>h) ⟨rfl,rfl⟩) fun c t hI=>?_)
  ·obtain⟨rfl,rfl⟩:=hI;refine bK (mG ?_);rw[if_pos (show(j7 (gP t0 #[(0,N,0)])).size<=1 from aj 1)];exact cQ ⟨rfl,rfl⟩
  ·obtain⟨rfl,rfl⟩:=hI;exact cQ (q t0 _ hB0 rfl (D.fail t0 hB0) hu)
theorem Zih(x y:ae):keyLt' (mH true) x y=(do
  let xs <-iu x
  let ys <-iu y
  for ((p,q),i)in (xs.toList.zip ys.toList).zipIdx do
   if !(<-eqBool p q)then return <-oneLt' (true&&i==0) p q
  return decide (xs.size<ys.size)):=rfl
noncomputable def Zpt(x:(ae×ae)×Nat)(_:Option Bool×Unit):Sem (ForInStep (Option Bool×Unit)):=match x with
 | ((p,q),i)=>do
  let b <-eqBool p q
  if(!b)=true then do
   let r <-oneLt' (true&&i==0) p q
   pure (ForInStep.done (some r,()))
  else pure (ForInStep.yield (none,()))
theorem Zii{f:Bool}{a b:Int}{t u:Tok}{Q:Bool->aC->Prop}(h:Q (decide (a<b)) s):wpAny (az prog w) A (oneLt' f (.int a t) (.int b u)) Q E s:=by
 cases f with
 |true=>exact oneLt_int h
 |false=>
  rw[oneLt'_eq];simp only[bq,if_false];exact Wb (HT.ZjM _ _ _ _ _ _ _ _ _ _ (eM h))
theorem Zkl:∀{us vs:List ae}{ns ms:List Int},hZ us ns->hZ vs ms->∀(k:Nat)(Q:Option Bool×Unit->aC->Prop),(∀b,b=HT.ZaX ns ms->Q (some b,()) s)->(HT.ZaX ns ms=decide (us.length<vs.length)->Q (none,()) s)->wpAny (az prog w) A (forIn ((us.zip vs).zipIdx k) (none,()) Zpt) Q E s:=by
 intro us vs ns ms hu
 induction hu generalizing vs ms with
 |nil=>
  intro hv k Q _ h2;simp only[List.zip_nil_left,List.zipIdx_nil,List.forIn_nil];refine Wp (h2 ?_);cases hv<;>simp[HT.ZaX]
 |@cons n t us ns hu ih=>
  intro hv k Q h1 h2;cases hv with
  |nil=>
   simp only[List.zip_nil_right,List.zipIdx_nil,List.forIn_nil];exact Wp (h2 (by simp[HT.ZaX]))
  |@cons m u vs ms hv=>
   rw[jr,List.zipIdx_cons,List.forIn_cons];obtain⟨e,he,hi⟩:=HT.ZjL A s n t m u;refine Wb (Wb (he prog w _ _ ?_));cases e with
   |true=>
    have:n=m:=hi.mp rfl
    subst this;refine Wp (ih hv (k+1) Q (fun b hb=>h1 b ?_) fun z=>h2 ?_)
    ·rw[HT.ZQ,if_pos rfl];exact hb
    ·rw[HT.ZQ,if_pos rfl,z];simp
   |false=>
    have:n≠m:=fun z=>by have:=hi.mpr z;cases this
    refine Wb (Zii (Wp (Wp (h1 _ ?_))));rw[HT.ZQ,if_neg this]
def ZaT(h:Heap)(v:ae)(ns:List Int):Prop:=∃a o its n,v=.ref a/\h.get? a=some o/\o.cls=.type "tuple"/\o.data=.seq its n/\hZ its.toList ns
theorem Zij:∀{us:List ae}{ns ms:List Int},hZ us ns->hZ us ms->ns=ms:=by
 intro us ns ms h
 induction h generalizing ms with
 |nil=>intro g;cases g;rfl
 |cons n t h ih=>
  intro g;cases g with
  |cons _ _ g=>rw[ih g]
theorem ZaT.uniq{h:Heap}{v:ae}{ns ms:List Int}(a:ZaT h v ns)(b:ZaT h v ms):ns=ms:=by
 obtain⟨p,o,its,n,rfl,e1,e2,e3,e4⟩:=a;obtain⟨p',o',its',n',e5,f1,f2,f3,f4⟩:=b;cases e5;rw[e1]at f1;cases f1;rw[e3]at f3;cases f3;exact Zij e4 f4
theorem ZaT.kept{h h':Heap}{v:ae}{ns:List Int}(a:ZaT h v ns)(k:∀p o,h.get? p=some o->o.cls=.type "tuple"->h'.get? p=some o):ZaT h' v ns:=by
 obtain⟨p,o,its,n,e0,e1,e2,e3,e4⟩:=a;exact⟨p,o,its,n,e0,k p o e1 e2,e2,e3,e4⟩
theorem Zsf{x y:ae}{ns ms:List Int}{Q:Bool->aC->Prop}(hx:ZaT s.heap x ns)(hy:ZaT s.heap y ms)(q:Q (HT.ZaX ns ms) s):wpAny (az prog w) A (keyLt' (mH true) x y) Q E s:=by
 obtain⟨a,o,its,n,rfl,e1,e2,e3,e4⟩:=hx;obtain⟨b,o',its',n',rfl,f1,f2,f3,f4⟩:=hy;rw[Zih];refine Wb (iw e1 e3 (Wb (iw f1 f3 ?_)));show wpAny _ _ (forIn ((its.toList.zip its'.toList).zipIdx 0) (none,()) Zpt >>= _) _ _ _;refine Wb (Zkl e4 f4 0 _ (fun b hb=>?_) fun z=>?_)
 ·rw[hb];exact Wp q
 ·show wpAny _ _ (pure (decide (its.size<its'.size))) _ _ _;rw[show decide (its.size<its'.size)=HT.ZaX ns ms by rw[z];simp]
  exact Wp q
open Classical in
def kfH(h:Heap)(p:hE):List Int:=if e:∃ns,ZaT h p.1 ns then e.choose else[]
theorem Zik{h:Heap}{p:hE}{ns:List Int}(e:ZaT h p.1 ns):kfH h p=ns:=by
 unfold kfH;rw[dif_pos ⟨ns,e⟩];exact(Exists.choose_spec (⟨ns,e⟩:∃ns,ZaT h p.1 ns)).uniq e
structure TB(a₀:Array hE) (st:d7):Prop where
 perm:(arrOf st).Perm a₀
 kind:kindOf st=mH true
 fail:iW st=none
 pend:j7 st= #[]
theorem Zpu{a₀:Array hE}(hk:∀p∈a₀.toList,∃ns,ZaT s.heap p.1 ns):Cm (az prog w) A E s (kfH s.heap) (TB a₀) a₀.size where
 sz st h:=h.perm.size_eq
 put st xs h hp:=⟨hp.trans h.perm,h.kind,h.fail,h.pend⟩
 cmp st i j Q h hi hj q:=by
  have sz:=h.perm.size_eq;have gt:∀k,k<a₀.size->∃x p ns,(arrOf st)[k]?=some (x,p)/\ZaT s.heap x ns/\ky (kfH s.heap) (arrOf st) k=ns:=fun k kk=>by
   have kl:k<(arrOf st).size:=by lia
   have e:(arrOf st)[k]?=some (arrOf st)[k]:=getElem?_pos _ k kl;obtain⟨ns,ht⟩:=hk _ ((fR.mp h.perm).mem_iff.mp (show(arrOf st)[k]∈(arrOf st).toList by simp))
   refine⟨(arrOf st)[k].1,(arrOf st)[k].2,ns,e,ht,?_⟩;unfold ky;rw[e];exact Zik ht
  obtain⟨x,p,ns,e1,t1,k1⟩:=gt i hi;obtain⟨y,p',ms,e2,t2,k2⟩:=gt j hj;rw[k1,k2]at q;rw[ltAt'_eq];refine bK (mG ?_);show wpS _ _ _ _ (elem' (arrOf st) i >>= fun x=>elem' (arrOf st) j >>= fun y=>lt' x y) Q st;rw[elem'_eq,elem'_eq,e1,e2];refine bK (cQ (bK (cQ ?_)));rw[lt'_eq];refine bK (mG ?_);rw[h.kind];exact bK (wpS_lift (jV (Zsf t1 t2 ⟨rfl,cQ q⟩)))
theorem Zpv{a₀:Array hE}:Cn (TB a₀):=⟨fun _ h=>h.fail,fun _ h=>h.pend⟩
theorem ZmW{v:ae}{n:Int}{ns:List Int}{Q:Option ae->aC->Prop}(h:ZaT s.heap v (n::ns))(q:∀t,Q (some (.int n t)) s):wpAny (az prog w) A (mf v) Q E s:=by
 obtain⟨a,o,its,m,rfl,e1,e2,e3,e4⟩:=h;have e:mf (.ref a)=(do
  if(<-typeOf (.ref a)) != .type "tuple" then return none
  return (<-iu (.ref a))[0]?):=rfl
 rw[e];refine Wb (wpAny_typeOf ⟨o,e1,e2⟩ ?_);rw[if_neg (by decide)]
 refine Wb (iw e1 e3 (Wp ?_));cases its with
 |mk l=>
  cases e4 with
  |cons n t h=>exact q t
theorem Zgn:∀{vs:List ae},(∀v∈vs,∃n ns,ZaT s.heap v (n::ns))->∀(Q:List (Option ae)->aC->Prop),(∀us ns,hZ us ns->us.length=vs.length->Q (us.map some) s)->wpAny (az prog w) A (vs.mapM mf) Q E s
 |[],_,Q,q=>by
  rw[List.mapM_nil];exact Wp (q [] [] .nil rfl)
 |v::vs,h,Q,q=>by
  obtain⟨n,ns,hv⟩:=h v (by simp)
  rw[List.mapM_cons];refine Wb (ZmW hv fun t=>Wb (Zgn (fun x hx=>h x (aG _ hx)) _ fun us ms hi hl=>Wp ?_));exact q (.int n t::us) (n::ms) (.cons n t hi) (by simp[hl])
theorem Zlk{vs:List ae}{Q:SortKind->aC->Prop}(h:∀v∈vs,∃n ns,ZaT s.heap v (n::ns))(ne:vs≠[])(q:Q (mH true) s):wpAny (az prog w) A (keyKind' vs.toArray) Q E s:=by
 rw[keyKind'_eq,List.mapM_toArray];simp only[map_eq_pure_bind,bind_assoc,pure_bind];refine Wb (Zgn h _ fun us ns hi hl=>?_);have a1:((us.map some).toArray.all fun x=>x.isSome)=true:=by simp
 rw[if_pos a1];refine Wb (wpAny_rule ?_);have a2:(us.map some).toArray.filterMap id=us.toArray:=by simp
 rw[a2,oneTypeOnly'_eq,List.mapM_toArray,mapM_typeOf_ints hi];cases us with
 |nil=>exact absurd (dm hl.symm) ne
 |cons u us=>
  simp only[map_pure,pure_bind];have b0:(List.map (fun _=>bE "int") (u::us)).toArray[0]?=some (bE "int"):=by simp
  have b1:((List.map (fun _=>bE "int") (u::us)).toArray.all fun x=>x==bE "int")=true:=by
   rw[List.all_toArray,List.all_map,bD];exact fun _ _=>rfl
  rw[b0];show wpAny _ _ (pure (if((List.map (fun _=>bE "int") (u::us)).toArray.all fun x=>x==bE "int")=true then some (bE "int")else none) >>= _) _ _ _
  rw[if_pos b1];exact Wb (Wp (Wp q))
theorem Zpw{a:Addr}{vs:List ae}{n:Nat}{P:Fin->aC->Prop}(ho:s.heap.get? a=some (aR "list" vs.toArray n))(hk:∀v∈vs,∃k ns,ZaT s.heap v (k::ns))(h64:vs.length<64)(q:∀out:List ae,out.Perm vs->(∀i j (hi:i<out.length) (hj:j<out.length),i<=j->∀ns ms,ZaT s.heap out[i] ns->ZaT s.heap out[j] ms->HT.ZaX ms ns=false)->P (.done (.ret .none)) {s with heap:=sortedHeap s.heap a vs out.toArray}):wpAny (az prog w) A (dH.«list.sort» ⟨[.ref a],[]⟩) P E s:=by
 have al:a<s.heap.objs.size:=Hz ho;obtain⟨e1,o1⟩:∃e1,(s.heap.update a (aV fun _=> #[])).get? a=some (aR "list" #[] e1):=⟨_,gJ ho (fun _=> #[])⟩;have o2:(((s.heap.update a (aV fun _=> #[])).push (aR "tuple" vs.toArray 0)).push (aR "list" #[] 0)).get? a=some (aR "list" #[] e1):=
  Hq _ (Hq _ o1)
 have kp:∀v ns,ZaT s.heap v ns->ZaT (((s.heap.update a (aV fun _=> #[])).push (aR "tuple" vs.toArray 0)).push (aR "list" #[] 0)) v ns:=fun v ns ht=>ht.kept fun p o ep ec=>by
  have:p≠a:=fun z=>by
   subst z;rw[ho]at ep;cases ep
   revert ec
   show ¬(bE "list"=bE "tuple")
   decide
  exact Hq _ (Hq _ ((aW _ _ (bV this)).trans ep))
 rw[list_sort_plain];refine Wb (iw ho rfl (Wb (listUpdate_at ho rfl (Wb (seqEpoch_at o1 rfl (Wb (wpAny_newTuple (Wb (j0 (cX ?_))))))))));show wpAny _ _ _ P E {s with heap:=((s.heap.update a (aV fun _=> #[])).push (aR "tuple" vs.toArray 0)).push (aR "list" #[] 0)};have vz:vs.toArray.size=vs.length:=by simp
 have fin:∀xs:Array hE,xs.Perm (nh vs)->(∀i j,i<=j->j<vs.length->le (ky (kfH (((s.heap.update a (aV fun _=> #[])).push (aR "tuple" vs.toArray 0)).push (aR "list" #[] 0))) xs i) (ky (kfH (((s.heap.update a (aV fun _=> #[])).push (aR "tuple" vs.toArray 0)).push (aR "list" #[] 0))) xs j))->
   P (.done (.ret .none)) {s with heap:=sortedHeap s.heap a vs (xs.map (·.2))}:=by
  intro xs hp hu;have hl:xs.toList.Perm (vs.zip vs):=by rw[<-pairsOf_toList];exact fR.mp hp
  have hm:∀p∈xs.toList,p.1=p.2/\p.1∈vs:=fun p hp=>mem_zip_self (hl.mem_iff.mp hp);have e2:(xs.toList.map (·.2)).Perm vs:=by
   have:=hl.map (fun p:hE=>p.2)
   rwa [List.map_snd_zip (aj _)]at this
  have ea:xs.map (·.2)=(xs.toList.map (·.2)).toArray:=by
   apply Array.toList_inj.mp;simp
  rw[ea];refine q _ e2 fun i j hi hj ij ns ms t1 t2=>?_;have li:i<xs.size:=by simpa using hi
  have lj:j<xs.size:=by simpa using hj
  have lv:xs.size=vs.length:=by rw[hp.size_eq,jf]
  have kk:∀k (hk:k<xs.size) (ns:List Int),ZaT s.heap (xs[k]).2 ns->ky (kfH (((s.heap.update a (aV fun _=> #[])).push (aR "tuple" vs.toArray 0)).push (aR "list" #[] 0))) xs k=ns:=fun k hk ns ht=>by
   unfold ky;rw[getElem?_pos xs k hk];exact Zik (kp _ _ (by rw[(hm xs[k] (by simp)).1];exact ht))
  have:=hu i j ij (by lia)
  rw[kk i li ns (by simpa using t1),kk j lj ms (by simpa using t2)]at this
  exact this
 have Zav:∀st':d7,(arrOf st').Perm (nh vs)->iW st'=none->(∀i j,i<=j->j<vs.length->le (ky (kfH (((s.heap.update a (aV fun _=> #[])).push (aR "tuple" vs.toArray 0)).push (aR "list" #[] 0))) (arrOf st') i) (ky (kfH (((s.heap.update a (aV fun _=> #[])).push (aR "tuple" vs.toArray 0)).push (aR "list" #[] 0))) (arrOf st') j))->
   wpAny (az prog w) A (do
    let b <-seqEpoch a
    dH.List.listUpdate (.ref a) fun _=>(arrOf st').map (·.2)
    if let some e:=iW st' then rule "list.sort.comparison-raised";throw e
    if(b != e1)=true then rule "list.sort.modified";raiseError "ValueError" "list modified during sort"
    ret .none) P E {s with heap:=((s.heap.update a (aV fun _=> #[])).push (aR "tuple" vs.toArray 0)).push (aR "list" #[] 0)}:=by
  intro st' hp hf hu;refine Wb (seqEpoch_at o2 rfl (Wb (listUpdate_at o2 rfl ?_ (hsz2:=?_))))
  ·rw[hf];simp only[bne_self_eq_false,bq,if_false];exact Wp (fin _ hp hu)
  ·rw[Array.size_map,hp.size_eq,jf,c9];lia
 by_cases c:vs.toArray.size<2
 ·rw[if_pos c,if_pos c];refine Wb (Wp ?_);show wpAny _ _ ((pure ():StateT d7 Sem Unit).run (mC general' (vs.toArray.zip vs.toArray) #[] 7 none) >>= _) _ _ _;rw[StateT.run_pure];exact Wb (Wp (Zav (mC general' (vs.toArray.zip vs.toArray) #[] 7 none) (i8 _) rfl fun i j ij jn=>by rw[show i=j by lia];exact Zdv _))
 ·rw[if_neg c,if_neg c];refine Wb (Zlk (fun v hv=>?_) (fun z=>?_) (Wb (wpAny_mono (Zlj (N:=(nh vs).size) (Q:=fun _ t'=>∃t,TB (nh vs) t/\arrOf t'=arrOf t/\iW t'=none/\Up (kfH (((s.heap.update a (aV fun _=> #[])).push (aR "tuple" vs.toArray 0)).push (aR "list" #[] 0))) (arrOf t) (nh vs).size) (Zpu fun p hp=>?_) Zpv (by rw[jf];lia) (by rw[jf];exact h64) ⟨i8 _,rfl,rfl,rfl⟩ fun t t' a1 a2 a3 a4=>⟨t,a1,a2,a3,a4⟩) ?_ fun _ _ z=>z)))
  ·obtain⟨k,ns,ht⟩:=hk v hv;exact⟨k,ns,kp _ _ ht⟩
  ·rw[z]at c;simp at c
  ·rw[pairsOf_toList]at hp;obtain⟨k,ns,ht⟩:=hk p.1 (mem_zip_self hp).2;exact⟨_,kp _ _ ht⟩
  ·rintro⟨⟨⟩,t'⟩ s' ⟨rfl,t,tb,ea,ef,hu⟩;rw[jf]at hu;exact Zav t' (by rw[ea];exact tb.perm) ef (by rw[ea];exact hu)
theorem Zkm{l:Addr}{vs:List ae}{Q:Vp}(hl:s.heap.IsList l vs.toArray)(hk:∀v∈vs,∃k ns,ZaT s.heap v (k::ns))(h64:vs.length<64)(q:∀out:List ae,out.Perm vs->(∀i j (hi:i<out.length) (hj:j<out.length),i<=j->∀ns ms,ZaT s.heap out[i] ns->ZaT s.heap out[j] ms->HT.ZaX ms ns=false)->Q (.ref (s.heap.objs.size+1)) {s with heap:=sortedAll s.heap vs out.toArray}):wpAny (az prog w) A (call (.builtin "sorted") [.ref l]) Q E s:=by
 have z1:((s.heap.push (aR "list" #[] 0)).update s.heap.objs.size (aV (· ++ vs.toArray))).objs.size=s.heap.objs.size+1:=by rw[j8,kC]
 have o1:(((s.heap.push (aR "list" #[] 0)).update s.heap.objs.size (aV (· ++ vs.toArray))).push (aR "list" vs.toArray 0)).get? (s.heap.objs.size+1)=some (aR "list" vs.toArray 0):=by
  rw[<-z1];exact aP _ rfl
 have kp:∀p o,s.heap.get? p=some o->(((s.heap.push (aR "list" #[] 0)).update s.heap.objs.size (aV (· ++ vs.toArray))).push (aR "list" vs.toArray 0)).get? p=some o:=fun p o ep=>
  Hq _ ((aW _ _ (bz (Hz ep))).trans (Hq _ ep))
 refine Calls.call_function_entry kind_sorted plain_sorted entry_sorted (args_sorted1 _) ?_;unfold dH.«sorted»;refine Wb (m:=checkCount "sorted" 1 1 _) (Wp (Wb (collect_list hl (Wb (j0 ?_)))));show wpAny _ _ _ _ _ {s with heap:=((s.heap.push (aR "list" #[] 0)).update s.heap.objs.size (aV (· ++ vs.toArray))).push (aR "list" vs.toArray 0)};rw[z1];refine Wb (cX (cU slot_list_sort ⟨_,o1,rfl⟩ entry_list_sort (Zpw o1 (fun v hv=>?_) h64 fun out hp hs=>⟨_,rfl,Wp ⟨_,rfl,q out hp fun i j hi hj ij ns ms t1 t2=>hs i j hi hj ij ns ms (t1.kept fun p o e _=>kp p o e) (t2.kept fun p o e _=>kp p o e)⟩⟩) (args_list_sort _)));obtain⟨k,ns,ht⟩:=hk v hv;exact⟨k,ns,ht.kept fun p o e _=>kp p o e⟩
end
end ST
namespace ST
def ins(x:List Int):List (List Int)->List (List Int)
 |[]=>[x]
 |y::r=>if lt y x=true then y::ins x r else x::y::r
def srt:List (List Int)->List (List Int)
 |[]=>[]
 |x::r=>ins x (srt r)
theorem Zd3(x:List Int):∀l,(ins x l).Perm (x::l)
 |[]=>.refl _
 |y::r=>by
  unfold ins;split
  ·exact((Zd3 x r).cons y).trans (.swap x y r)
  ·exact .refl _
theorem Za7:∀l,(srt l).Perm l
 |[]=>.refl _
 |x::r=>(Zd3 x (srt r)).trans ((Za7 r).cons x)
theorem Zll(x:List Int):∀l,l.Pairwise le->(ins x l).Pairwise le
 |[],_=>List.pairwise_singleton _ _
 |y::r,h=>by
  obtain⟨h1,h2⟩:=jD.mp h;unfold ins;split
  ·rename_i c;refine jD.mpr ⟨fun z hz=>?_,Zll x r h2⟩;rcases ar.mp ((Zd3 x r).mem_iff.mp hz)with rfl|hz
   ·exact Zie c
   ·exact h1 z hz
  ·rename_i c;have c:le x y:=by unfold le;simpa using c
   refine jD.mpr ⟨fun z hz=>?_,h⟩;rcases ar.mp hz with rfl|hz
   ·exact c
   ·exact Zg5 c (h1 z hz)
theorem Zgo:∀l,(srt l).Pairwise le
 |[]=>.nil
 |x::r=>Zll x _ (Zgo r)
theorem Zd4(hp:a.Perm b)(h:a.Pairwise le):a=srt b:=
 j3 (fun x y _ _ h1 h2=>ZeR h2 h1) h (Zgo b) (hp.trans (Za7 b).symm)
theorem Zpx(hp:a.Perm b):srt a=srt b:=Zd4 ((Za7 a).trans hp) (Zgo a)
end ST
namespace DL
open PyProof.Rows L2 PySem.W
theorem ZbN{F:α->β->Prop}{us us':List β}(hp:us'.Perm us):∀{xs:List α},Paired F xs us->∃xs',xs'.Perm xs/\Paired F xs' us':=by
 induction hp with
 |nil=>intro xs h;exact⟨xs,.refl _,h⟩
 |@cons a l1 l2 h ih=>
  intro xs r;cases r with
  |cons r1 r2=>
   obtain⟨xs',p1,p2⟩:=ih r2;exact⟨_::xs',p1.cons _,.cons r1 p2⟩
 |swap a b l=>
  intro xs r;cases r with
  |cons r1 r2=>
   cases r2 with
   |cons r2 r3=>exact⟨_::_::_,.swap _ _ _,.cons r2 (.cons r1 r3)⟩
 |trans h1 h2 i1 i2=>
  intro xs r;obtain⟨x1,p1,q1⟩:=i2 r;obtain⟨x2,p2,q2⟩:=i1 q1;exact⟨x2,p2.trans p1,q2⟩
theorem Zil{K:Fg}(hp:vs'.Perm vs):∀{ds:List D},Reps K H α vs ds->∃ds',ds'.Perm ds/\Reps K H α vs' ds':=by
 induction hp with
 |nil=>intro xs h;exact⟨xs,.refl _,h⟩
 |@cons a l1 l2 h ih=>
  intro xs r;cases r with
  |cons r1 r2=>
   obtain⟨xs',p1,p2⟩:=ih r2;exact⟨_::xs',p1.cons _,.cons r1 p2⟩
 |swap a b l=>
  intro xs r;cases r with
  |cons r1 r2=>
   cases r2 with
   |cons r2 r3=>exact⟨_::_::_,.swap _ _ _,.cons r2 (.cons r1 r3)⟩
 |trans h1 h2 i1 i2=>
  intro xs r;obtain⟨x1,p1,q1⟩:=i2 r;obtain⟨x2,p2,q2⟩:=i1 q1;exact⟨x2,p2.trans p1,q2⟩
def Zn8(K:Fg)(H:Hp)(x:V)(ns:List Int):Prop:=∃q,x=.ref q/\SqT K H q (ns.map V.int)
section
variable {X:Cx}
def Zsg(X:Cx):List V->Hp->VK->Prop:=fun vs H Q=>∃p xs,vs=[.ref p]/\SqL X.K H p xs/\xs.length<64/\(∀x∈xs,∃k ns,Zn8 X.K H x (k::ns))/\
 ∀l ys,H l=none->ys.Perm xs->(∀i j (hi:i<ys.length) (hj:j<ys.length),i<=j->∀ns ms,Zn8 X.K H ys[i] ns->Zn8 X.K H ys[j] ms->ST.le ns ms)->Q (.ref l) (upd H l (.lst ys))
theorem Zb0(I:Inv X pins σ H s)(h:Zn8 X.K H x ns)(r:Z8 x u):ST.ZaT s.heap u ns:=by
 obtain⟨q,rfl,hq⟩:=h;cases r;obtain⟨its,r2,⟨o,k1,k2,n,k3⟩,_⟩:=I.tuple hq;exact⟨q,o,its.toArray,n,rfl,k1,k2,k3,by simpa using ZgV r2⟩
theorem Zc4:ZbS X (.builtin "sorted") (Zsg X):=by
 intro pins s σ H vs us Q I rs hh;obtain⟨p,xs,e,hl,h64,hk,q⟩:=hh;subst e;obtain⟨u,rfl,ru⟩:=ZdU rs;cases ru;obtain⟨its,rv,pl,hz⟩:=I.list hl;refine ST.Zkm (vs:=its) pl.isList (fun v hv=>?_) (by rw[<-rv.length];exact h64) fun out hp hs=>?_
 ·obtain⟨i,hi,rfl⟩:=c7 hv;obtain⟨x,e1,e2⟩:=Zfo rv (Gq hi);obtain⟨k,ns,hx⟩:=hk x (cV e1);exact⟨k,ns,Zb0 I hx e2⟩
 ·obtain⟨ys,p1,p2⟩:=ZbN hp rv;obtain⟨n,hn⟩:=sortedAll_at s.heap its out.toArray;refine⟨.ref _,_,I.laid (t':=s.toks) (o:=.lst ys) (fun _ _ h=>sortedAll_old h) (jM _) ⟨by rw[p1.length_eq];exact hz,out,n,p2,hn⟩,rfl,q _ ys (I.hok.fresh (jM _)) p1 fun i j hi hj ij ns ms k1 k2=>?_⟩
  have hl:ys.length=out.length:=Z1.length p2;have a1:∀i (hi:i<ys.length),Z8 ys[i] (out[i]'(by lia)):=fun i hi=>by
   obtain⟨u,e1,e2⟩:=Z1.get p2 (Gq hi);rw[af (by lia)]at e1
   cases e1;exact e2
  exact hs i j (by lia) (by lia) ij ns ms (Zb0 I k1 (a1 i hi)) (Zb0 I k2 (a1 j hj))
theorem Zc5:bM "sorted"=some (.builtin "sorted"):=by decide +kernel
def kyD:D->Option (List Int)
 |.tup xs=>(match Zdu xs with|some (k::ns)=>some (k::ns)|_=>none)
 |_=>none
def ksD:List D->Option (List (List Int))
 |[]=>some []
 |d::r=>match kyD d,ksD r with|some k,some ks=>some (k::ks)|_,_=>none
def tupD(ns:List Int):D:=.tup (ns.map D.int)
def Zim(ds:List D)(M:Sto):Out D:=if ds.length<64 then(match ksD ds with|some ks=>.ok (.ref M.length) (M++[.lst ((ST.srt ks).map tupD)])|none=>.bad)else .bad
def bSrt:W3:=fun ds M=>match ds with
 |[.ref n]=>(match M[n]? with|some (.lst xs)=>Zim xs M|none=>.bad)
 |[.rol xs]=>Zim xs M
 |_=>.bad
theorem ZeS:∀{xs:List D}{a:List Int},Zdu xs=some a->xs=a.map D.int
 |[],a,e=>by cases e;rfl
 |x::r,a,e=>by
  cases x with
  |int i=>
   unfold Zdu at e
   split at e
   ·rename_i is e1;cases e;rw[ZeS e1];rfl
   ·cases e
  |_=>cases e
theorem Zb1:∀a:List Int,Zdu (a.map D.int)=some a
 |[]=>rfl
 |i::r=>by rw[aL,Zdu,Zb1 r]
theorem Zpy(h:kyD d=some ns):d=tupD ns/\∃k r,ns=k::r:=by
 unfold kyD at h
 split at h
 ·rename_i xs
  split at h
  ·rename_i k r e;cases h;exact⟨by unfold tupD;rw[<-ZeS e],k,r,rfl⟩
  ·cases h
 ·cases h
theorem Zlm:∀{ds:List D}{ks:List (List Int)},ksD ds=some ks->ds=ks.map tupD/\∀k∈ks,k≠[]
 |[],ks,e=>by cases e;exact⟨rfl,fun k hk=>by cases hk⟩
 |d::r,ks,e=>by
  unfold ksD at e
  split at e
  ·rename_i k ks' e1 e2;cases e;obtain⟨h1,h2⟩:=Zlm e2;obtain⟨h3,k0,r0,h4⟩:=Zpy e1;refine⟨by rw[aL,<-h1,<-h3],fun x hx=>?_⟩
   rcases ar.mp hx with rfl|hx
   ·rw[h4];exact List.cons_ne_nil _ _
   ·exact h2 x hx
  ·cases e
theorem Zkn(h:tupD a=tupD b):a=b:=by
 have:Zdu (a.map D.int)=Zdu (b.map D.int):=by unfold tupD at h;rw[D.tup.inj h]
 rw[Zb1,Zb1]at this;exact aX this
theorem Zd5(r:Rep X.K H α v (tupD ns)):Zn8 X.K H v ns:=by
 cases r with
 |tup hp rp=>
  have:=ZeN rp (Zb1 ns)
  subst this;exact⟨_,rfl,SqT.of hp⟩
theorem ZeT:CO X ξ (Zsg X) bSrt:=by
 intro H α M vs ds Q h rs q;have fin:∀(p:Addr)(xs:List V)(ys:List D),SqL X.K H p xs->Reps X.K H α xs ys->OP X.K H α ξ Q (Zim ys M)->Zsg X [.ref p] H Q:=fun p xs ys k1 k2 q=>by
  unfold Zim at q
  split at q
  ·rename_i c;cases e:ksD ys with
   |none=>simp only[e]at q;exact q.elim
   |some ks=>
    simp only[e]at q;obtain⟨e1,e2⟩:=Zlm e;subst e1;refine⟨p,xs,rfl,k1,by rw[k2.length];exact c,fun x hx=>?_,fun l zs hl hp hs=>?_⟩
    ·obtain⟨i,hi,rfl⟩:=c7 hx;obtain⟨d,d1,d2⟩:=Zd2 k2 (Gq hi);obtain⟨k,hk,rfl⟩:=aK.mp (cV d1)
     match k,e2 k hk,d2 with
     |a::b,_,d2=>exact⟨a,b,Zd5 d2⟩
     |[],z,_=>exact absurd rfl z
    ·obtain⟨ds',p1,p2⟩:=Zil hp k2;obtain⟨ks',p3,p4⟩:∃ks':List (List Int),ks'.Perm ks/\ds'=ks'.map tupD:=by
      have:Paired (fun(a:List Int) d=>d=tupD a) ks (ks.map tupD):=by
       clear k2 c e p1 hp e2 q
       induction ks with
       |nil=>exact .nil
       |cons a b ih=>exact .cons rfl ih
      obtain⟨ks',q1,q2⟩:=ZbN p1 this;refine⟨ks',q1,?_⟩;clear q1 p1 p2
      induction q2 with
      |nil=>rfl
      |cons h _ ih=>rw[aL,h,ih]
     subst p4;have hup:ks'.Pairwise ST.le:=by
      refine gp.mpr fun i j hi hj ij=>?_;have lz:zs.length=ks'.length:=by rw[p2.length,aB]
      have kk:∀i (hi:i<ks'.length),Zn8 X.K H (zs[i]'(by lia)) ks'[i]:=fun i hi=>by
       obtain⟨d,d1,d2⟩:=Zd2 p2 (Gq (show i<zs.length by lia))
       rw[bB,af hi]at d1;cases d1;exact Zd5 d2
      exact hs i j (by lia) (by lia) (dI ij) _ _ (kk i hi) (kk j hj)
     rw[ST.Zd4 p3 hup]at p2;exact q _ _ (α++[l]) (Ext.new hl) (h.new hl p2) (.ref ⟨h.last l,Kn.lst Zy⟩)
  ·exact q.elim
 match rs with
 |.nil=>exact q.elim
 |.cons r (.cons _ _)=>cases r<;>exact q.elim
 |.cons (d:=x) r .nil=>
  cases r with
  |@rol p xs ds hp rp=>exact fin p xs ds hp.sq rp q
  |@ref p n hp=>
   cases em:M[n]? with
   |none=>simp only[bSrt,em]at q;exact q.elim
   |some so=>
    cases so with
    |lst es=>
     simp only[bSrt,em]at q;obtain⟨xs,g1,g2⟩:=h.at hp em;exact fin p xs es (SqL.of g1) g2 q
  |_=>exact q.elim
end
end DL
namespace ST
open PyProof.Rows
section
variable {w:c8}{vs:List ae}
theorem ZmX{st:d7}(ho:s.heap.get? a=some (aR "list" #[] e1))(hk:s.heap.get? kS=some (aR "list" keys e))(hka:kS≠a)(hsz:keys.size=vs.length)(h64:vs.length<64)(hp:(arrOf st).Perm (keys.zip vs.toArray))(hfl:iW st=none)(h:∀h' c,(∀b o,b≠a->b≠kS->s.heap.get? b=some o->h'.get? b=some o)->(∃o,h'.get? kS=some o)->h'.get? a=some (aR "list" ((arrOf st).map (·.2)) c)->P (.done (.ret .none)) {s with heap:=h'}):
  wpAny (az prog w) A (ksk_tail a false e1 (.ref kS) st) P E s:=by
 have hsz2:(arrOf st).size=vs.length:=by rw[hp.size_eq,Array.size_zip,hsz,au,kz]
 have s1:=fg s.heap kS (aV fun _=>(#[]:Array ae));have na1:(s.heap.update kS (aV fun _=>(#[]:Array ae))).get? a=some (aR "list" #[] e1):=(s1.2 a hka.symm).trans ho;obtain⟨ck,hck⟩:∃ck,(s.heap.update kS (aV fun _=>(#[]:Array ae))).get? kS=some (aR "list" #[] ck):=⟨_,gJ hk fun _=> #[]⟩;have s2:=fg (s.heap.update kS (aV fun _=>(#[]:Array ae))) a (aV fun _=>(arrOf st).map (·.2));obtain⟨c2,hc2⟩:∃c2,((s.heap.update kS (aV fun _=>(#[]:Array ae))).update a (aV fun _=>(arrOf st).map (·.2))).get? a=some (aR "list" ((arrOf st).map (·.2)) c2):=⟨_,gJ na1 fun _=>(arrOf st).map (·.2)⟩;unfold ksk_tail
 try dsimp only
 refine Wb (listUpdate_at hk rfl ?_ (by rw[hsz,c9];lia) (eN _))
 refine Wb (wpAny_letGo ?_);refine Wb (seqEpoch_at na1 rfl ?_);simp only[bq,if_false];refine Wb (listUpdate_at na1 rfl ?_ (eN _) (by rw[Array.size_map,hsz2,c9];lia))
 rw[hfl];simp only[bne_self_eq_false,bq,if_false];refine Wp (h _ c2 (fun b o n1 n2 q=>?_) ⟨_,(s2.2 kS hka).trans hck⟩ hc2);exact(s2.2 b n1).trans ((s1.2 b n2).trans q)
theorem Zpz(ho:s.heap.get? a=some (aR "list" #[] e1))(hk:s.heap.get? kS=some (aR "list" keys e))(hka:kS≠a)(hsz:keys.size=vs.length)(h64:vs.length<64)(hu:∀u∈keys.toList,∃n ns,ZaT s.heap u (n::ns))(h:∀(out:List (ae×ae)) h' c,out.Perm (keys.toList.zip vs)->(∀i j (hi:i<out.length) (hj:j<out.length),i<=j->∀ns ms,ZaT s.heap out[i].1 ns->ZaT s.heap out[j].1 ms->le ns ms)->(∀b o,b≠a->b≠kS->s.heap.get? b=some o->h'.get? b=some o)->(∃o,h'.get? kS=some o)->h'.get? a=some (aR "list" (out.map (·.2)).toArray c)->P (.done (.ret .none)) {s with heap:=h'}):
  wpAny (az prog w) A (ksk_end a false vs.toArray e1 (.ref kS) keys) P E s:=by
 have hzs:(keys.zip vs.toArray).size=vs.length:=by rw[Array.size_zip,hsz,au,kz]
 have fin:∀st':d7,(arrOf st').Perm (keys.zip vs.toArray)->iW st'=none->(∀i j,i<=j->j<vs.length->le (ky (kfH s.heap) (arrOf st') i) (ky (kfH s.heap) (arrOf st') j))->wpAny (az prog w) A (ksk_tail a false e1 (.ref kS) st') P E s:=fun st' hp hf hs=>by
  refine ZmX ho hk hka hsz h64 hp hf fun h' c k1 k2 k3=>?_;have hl:(arrOf st').toList.Perm (keys.toList.zip vs):=by
   have:=fR.mp hp
   rwa [ksk_zip]at this
  have lz:(arrOf st').size=vs.length:=by rw[hp.size_eq,hzs]
  refine h (arrOf st').toList h' c hl (fun i j hi hj ij ns ms t1 t2=>?_) k1 k2 (by
   have:(arrOf st').map (·.2)=((arrOf st').toList.map (·.2)).toArray:=by apply Array.toList_inj.mp;simp
   rw[<-this];exact k3)
  have hi':i<(arrOf st').size:=by simpa using hi
  have hj':j<(arrOf st').size:=by simpa using hj
  have kk:∀k (hk:k<(arrOf st').size) (ns:List Int),ZaT s.heap ((arrOf st')[k]).1 ns->ky (kfH s.heap) (arrOf st') k=ns:=fun k hk ns ht=>by
   unfold ky;rw[getElem?_pos (arrOf st') k hk];exact Zik ht
  have q:=hs i j ij (by lia)
  rw[kk i hi' ns (by simpa using t1),kk j hj' ms (by simpa using t2)]at q
  exact q
 unfold ksk_end;simp only[bq,if_false];by_cases h2:vs.toArray.size<2
 ·rw[if_pos h2,if_pos h2];refine Wb (Wp ?_);rw[StateT.run_pure];refine Wb (Wp ?_);rw[au]at h2;exact fin (mC general' (keys.zip vs.toArray) #[] 7 none) (i8 _) rfl fun i j ij jn=>by rw[show i=j by lia];exact Zdv _
 ·rw[if_neg h2,if_neg h2];rw[au]at h2;have ek:keys=keys.toList.toArray:=by simp
  have kw:wpAny (az prog w) A (keyKind' keys) (fun k s'=>k=mH true/\s'=s) E s:=by
   rw[ek];exact Zlk hu (fun z=>by have:=congrArg iU z;simp at this;rw[this]at hsz;simp at hsz;lia) ⟨rfl,rfl⟩
  refine Wb (wpAny_mono kw (fun k s' hk'=>?_) fun _ _ e=>e);obtain⟨rfl,rfl⟩:=hk';refine Wb (wpAny_mono (Zlj (N:=(keys.zip vs.toArray).size) (st:=mC (mH true) (keys.zip vs.toArray) #[] 7 none) (Q:=fun _ t'=>∃t,TB (keys.zip vs.toArray) t/\arrOf t'=arrOf t/\iW t'=none/\Up (kfH s'.heap) (arrOf t) (keys.zip vs.toArray).size) (Zpu fun p hp=>?_) Zpv (by rw[hzs];lia) (by rw[hzs];exact h64) ⟨i8 _,rfl,rfl,rfl⟩ fun t t' b1 b2 b3 b4=>⟨t,b1,b2,b3,b4⟩) ?_ fun _ _ e=>e)
  ·rw[ksk_zip]at hp;obtain⟨x,y⟩:=p;obtain⟨n,ns,ht⟩:=hu x (gH hp).1;exact⟨_,ht⟩
  ·rintro⟨⟨⟩,t'⟩ s2 ⟨rfl,t,tb,ea,ef,hup⟩;rw[hzs]at hup;exact fin t' (by rw[ea];exact tb.perm) ef (by rw[ea];exact hup)
theorem ZmY(J:List ae->aC->Prop)(ho:s.heap.get? a=some (aR "list" #[] e1))(hk:s.heap.get? kS=some (aR "list" #[] 0))(hka:kS≠a)(h64:vs.length<64)(hJ:J [] s)(turn:∀i v kL s' na ea nk ek,vs[i]?=some v->kL.length=i->J kL s'->s'.heap.get? a=some (aR "list" na ea)->s'.heap.get? kS=some (aR "list" nk ek)->wpAny (az prog w) A (call f [v]) (fun u s''=>J (kL++[u]) s''/\s''.heap.get? a=some (aR "list" na ea)/\s''.heap.get? kS=some (aR "list" nk ek)) (fun _ _=>False) s')(upd:∀kL s' h',J kL s'->(∀b o,b≠kS->s'.heap.get? b=some o->h'.get? b=some o)->(∃o,h'.get? kS=some o)->J kL {s' with heap:=h'})(key:∀kL s',J kL s'->∀u∈kL,∃n ns,ZaT s'.heap u (n::ns))(h:∀kL s' (out:List (ae×ae)) h' c,J kL s'->kL.length=vs.length->out.Perm (kL.zip vs)->(∀i j (hi:i<out.length) (hj:j<out.length),i<=j->∀ns ms,ZaT s'.heap out[i].1 ns->ZaT s'.heap out[j].1 ms->le ns ms)->(∀b o,b≠a->b≠kS->s'.heap.get? b=some o->h'.get? b=some o)->(∃o,h'.get? kS=some o)->h'.get? a=some (aR "list" (out.map (·.2)).toArray c)->P (.done (.ret .none)) {s' with heap:=h'}) :
  wpAny (az prog w) A (ksk_rest a f false vs.toArray e1 (.ref kS)) P E s:=by
 unfold ksk_rest;refine Wb (wpAny_rule ?_)
 first
  |rw[List.forIn_toArray]
  | (rw[<-fk];simp only[List.toList_toArray])
  |rw[<-fk]
 refine Wb (ksk_fold (fun i s'=>∃kA e,J kA.toList s'/\s'.heap.get? a=some (aR "list" #[] e1)/\s'.heap.get? kS=some (aR "list" kA e)/\kA.size=i) vs 0 s ⟨#[],0,hJ,ho,hk,rfl⟩ ?step ?done)
 case step=>
  rintro j x s' hx ⟨kA,e,hJ',ho',hk',hz⟩;rw[gj]at hz;have hj:j<vs.length:=(aq.mp hx).1;refine Wb (jV (wpAny_mono (turn j x kA.toList s' _ _ _ _ hx (by simpa using hz) hJ' ho' hk') (fun u s'' he=>?_) fun _ _ hF=>hF.elim))
  obtain⟨g1,g2,g3⟩:=he
  try dsimp only
  have s1:=fg s''.heap kS (aV (·.push u));obtain⟨c2,hc2⟩:∃c2,(s''.heap.update kS (aV (·.push u))).get? kS=some (aR "list" (kA.push u) c2):=⟨_,gJ g3 (·.push u)⟩;refine Wb (listUpdate_at g3 rfl ?_ (by rw[hz,c9];lia) (aT (mI (Array.size_push ..)) (by rw[c9];lia)))
  refine Wp ⟨rfl,kA.push u,c2,?_,(s1.2 a hka.symm).trans g2,hc2,by rw[Array.size_push,hz];lia⟩
  have ea:(kA.push u).toList=kA.toList++[u]:=by simp
  rw[ea];exact upd _ _ _ g1 (fun b o nb q=>(s1.2 b nb).trans q) ⟨_,hc2⟩
 case done=>
  rintro s' ⟨kA,e,hJ',ho',hk',hz⟩;rw[gj]at hz
  try dsimp only
  refine Wb (iw hk' rfl ?_);exact Zpz ho' hk' hka hz h64 (key _ _ hJ') fun out h' c k1 k2 k3 k4 k5=>h kA.toList s' out h' c hJ' (by simpa using hz) k1 k2 k3 k4 k5
theorem ZmZ(J:Addr->List ae->aC->Prop)(ho:s.heap.get? a=some (aR "list" vs.toArray n))(h64:vs.length<64)(hJ:∀kS h1,s.heap.objs.size<=kS->(∀b o,b≠a->s.heap.get? b=some o->h1.get? b=some o)->(∃o,h1.get? a=some o)->(∃o,h1.get? kS=some o)->J kS [] {s with heap:=h1})(turn:∀kS i v kL s' na ea nk ek,vs[i]?=some v->kL.length=i->J kS kL s'->s'.heap.get? a=some (aR "list" na ea)->s'.heap.get? kS=some (aR "list" nk ek)->wpAny (az prog w) A (call f [v]) (fun u s''=>J kS (kL++[u]) s''/\s''.heap.get? a=some (aR "list" na ea)/\s''.heap.get? kS=some (aR "list" nk ek)) (fun _ _=>False) s')(upd:∀kS kL s' h',J kS kL s'->(∀b o,b≠kS->s'.heap.get? b=some o->h'.get? b=some o)->(∃o,h'.get? kS=some o)->J kS kL {s' with heap:=h'})(key:∀kS kL s',J kS kL s'->∀u∈kL,∃n ns,ZaT s'.heap u (n::ns))(h:∀kS kL s' (out:List (ae×ae)) h' c,J kS kL s'->kL.length=vs.length->out.Perm (kL.zip vs)->(∀i j (hi:i<out.length) (hj:j<out.length),i<=j->∀ns ms,ZaT s'.heap out[i].1 ns->ZaT s'.heap out[j].1 ms->le ns ms)->(∀b o,b≠a->b≠kS->s'.heap.get? b=some o->h'.get? b=some o)->(∃o,h'.get? kS=some o)->h'.get? a=some (aR "list" (out.map (·.2)).toArray c)->P (.done (.ret .none)) {s' with heap:=h'}) :
  wpAny (az prog w) A (ksk_tree a f false) P E s:=by
 have ha:a<s.heap.objs.size:=Hz ho;have s1:=fg s.heap a (aV fun _=>(#[]:Array ae));obtain⟨e1,ho1⟩:∃e1,(s.heap.update a (aV fun _=>(#[]:Array ae))).get? a=some (aR "list" #[] e1):=⟨_,gJ ho fun _=> #[]⟩;have hkS:((s.heap.update a (aV fun _=>(#[]:Array ae))).push (aR "tuple" vs.toArray 0)).objs.size=s.heap.objs.size+1:=by rw[kC,j8]
 unfold ksk_tree;refine Wb (iw ho rfl ?_);refine Wb (listUpdate_at ho rfl ?_ (by rw[au,c9];lia) (eN _))
 refine Wb (seqEpoch_at ho1 rfl ?_);refine Wb (wpAny_newTuple ?_ (by show vs.length<=_;rw[c9];lia))
 refine Wb (j0 ?_ (eN _));refine cX ?_;have hn:=aP ((s.heap.update a (aV fun _=>(#[]:Array ae))).push (aR "tuple" vs.toArray 0)) (o:=aR "list" #[] 0) rfl;exact ZmY (s:={s with heap:=((s.heap.update a (aV fun _=>(#[]:Array ae))).push (aR "tuple" vs.toArray 0)).push (aR "list" #[] 0)}) (kS:=((s.heap.update a (aV fun _=>(#[]:Array ae))).push (aR "tuple" vs.toArray 0)).objs.size) (J _) (Hq _ (Hq _ ho1)) hn (by rw[hkS];exact bz (il ha)) h64
  (hJ _ _ (by rw[hkS];exact jM _) (fun b o nb q=>Hq _ (Hq _ ((s1.2 b nb).trans q))) ⟨_,Hq _ (Hq _ ho1)⟩ ⟨_,hn⟩) (turn _) (upd _) (key _) (h _)
theorem Zin(J:Addr->Addr->List ae->aC->Prop)(hl:s.heap.IsList l vs.toArray)(h64:vs.length<64)(hJ:∀a kS h1,s.heap.objs.size<=a->s.heap.objs.size<=kS->kS≠a->(∀b o,s.heap.get? b=some o->h1.get? b=some o)->(∃o,h1.get? a=some o)->(∃o,h1.get? kS=some o)->J a kS [] {s with heap:=h1})(turn:∀a kS i v kL s' na ea nk ek,vs[i]?=some v->kL.length=i->J a kS kL s'->s'.heap.get? a=some (aR "list" na ea)->s'.heap.get? kS=some (aR "list" nk ek)->wpAny (az prog w) A.in1.in1 (call (.ref fq) [v]) (fun u s''=>J a kS (kL++[u]) s''/\s''.heap.get? a=some (aR "list" na ea)/\s''.heap.get? kS=some (aR "list" nk ek)) (fun _ _=>False) s')(upd:∀a kS kL s' h',J a kS kL s'->(∀b o,b≠kS->s'.heap.get? b=some o->h'.get? b=some o)->(∃o,h'.get? kS=some o)->J a kS kL {s' with heap:=h'})(key:∀a kS kL s',J a kS kL s'->∀u∈kL,∃n ns,ZaT s'.heap u (n::ns))(h:∀a kS kL s' (out:List (ae×ae)) h' c,J a kS kL s'->kL.length=vs.length->out.Perm (kL.zip vs)->(∀i j (hi:i<out.length) (hj:j<out.length),i<=j->∀ns ms,ZaT s'.heap out[i].1 ns->ZaT s'.heap out[j].1 ms->le ns ms)->(∀b o,b≠a->b≠kS->s'.heap.get? b=some o->h'.get? b=some o)->(∃o,h'.get? kS=some o)->h'.get? a=some (aR "list" (out.map (·.2)).toArray c)->Q (.ref a) {s' with heap:=h'}) :
  wpAny (az prog w) A (call (.builtin "sorted") [.ref l] [(bH "key",.ref fq)]) Q E s:=by
 refine call_function_entry_kw kind_sorted plain_sorted entry_sorted (ksk_s1 _ _) ?_;unfold dH.«sorted»;refine Wb (m:=checkCount "sorted" 1 1 _) (Wp ?_);refine Wb (collect_list hl ?_ (by rw[c9];lia))
 refine Wb (j0 ?_ (by rw[c9];lia))
 have hsz:((s.heap.push (aR "list" #[] 0)).update s.heap.objs.size (aV (· ++ vs.toArray))).objs.size=s.heap.objs.size+1:=by
  rw[j8,kC]
 have hoL:(((s.heap.push (aR "list" #[] 0)).update s.heap.objs.size (aV (· ++ vs.toArray))).push (aR "list" vs.toArray 0)).get? (s.heap.objs.size+1)=some (aR "list" vs.toArray 0):=by
  rw[<-hsz];exact aP _ rfl
 have keep:∀b o,s.heap.get? b=some o->(((s.heap.push (aR "list" #[] 0)).update s.heap.objs.size (aV (· ++ vs.toArray))).push (aR "list" vs.toArray 0)).get? b=some o:=fun b o q=>by
  have hlt:b<s.heap.objs.size:=Hz q;rw[ni.get?_push_ne _ _ _ (by rw[hsz];exact aE (il hlt)),ni.get?_update_ne _ _ _ _ (aE hlt),ni.get?_push_ne _ _ _ (aE hlt)]
  exact q
 show wpAny _ _ _ _ _ {s with heap:=((s.heap.push (aR "list" #[] 0)).update s.heap.objs.size (aV (· ++ vs.toArray))).push (aR "list" vs.toArray 0)};rw[hsz];refine Wb (cX (wpAny_call_entry_kw slot_list_sort ⟨_,hoL,rfl⟩ entry_list_sort ?body (ksk_l1 _ _)))
 case body=>
  show wpAny (az prog w) A.in1.in1 (dH.«list.sort» ⟨[.ref (s.heap.objs.size+1)],[(bH "key",.ref fq)]⟩) _ _ _;rw[ksk_t1];have h2:(((s.heap.push (aR "list" #[] 0)).update s.heap.objs.size (aV (· ++ vs.toArray))).push (aR "list" vs.toArray 0)).objs.size=s.heap.objs.size+2:=by rw[kC,hsz]
  refine ZmZ (J (s.heap.objs.size+1)) (s:={s with heap:=((s.heap.push (aR "list" #[] 0)).update s.heap.objs.size (aV (· ++ vs.toArray))).push (aR "list" vs.toArray 0)}) hoL h64
   (fun kS h1 k1 k2 k3 k4=>by
    have k1':s.heap.objs.size+2<=kS:=by rw[<-h2];exact k1
    exact hJ _ kS h1 (jM _) (aT (Nat.le_add_right _ 2) k1') (bz k1') (fun b o q=>k2 b o (aE (il (Hz q))) (keep b o q)) k3 k4) (turn _) (upd _) (key _) fun kS kL s' out h' c g1 g2 g3 g4 g5 g6 g7=>⟨_,rfl,?_⟩
  exact Wp ⟨_,rfl,h _ kS kL s' out h' c g1 g2 g3 g4 g5 g6 g7⟩
end
end ST
namespace DL
open PyProof.Rows L2
def Zn9(K:Fg)(v:ae)(c P:Addr):Prop:=v=.ref c/\c≠P/\∃(o:Obj) (vs:Array ae) (file:Str) (tf:Tok) (flags:Int) (tg:Tok) (inF:Bool) (text:Int) (tt:Tok),K.lookup c=some o/\o.cls=.type "code"/\o.data=.fields vs/\vs[11]?=some (.ref P)/\vs.getD 11 .none=.ref P/\vs.getD 18 .none=.str file tf/\vs.getD 7 .none=.int flags tg/\vs.getD 9 .none=.bool inF/\vs.getD 10 .none=.int text tt
def Zsh(K:Fg):Prop:=∃bm o,PySem.W.nsIn K aO "__builtins__"=some (some (.ref bm))/\K.lookup bm=some o/\o.cls=.type "module"/\o.dict=some gM/\o.data=.plain/\bm≠gM/\bm≠aO
noncomputable def ZpA(c:Addr)(vs:Array ae):Bool:=match(vs[11]? :Option ae)with
 |some (.ref P)=>(match vs.getD 11 .none with
  |.ref P'=>(match vs.getD 18 .none with
   |.str _ _=>(match vs.getD 7 .none with
    |.int _ _=>(match vs.getD 9 .none with
     |.bool _=>(match vs.getD 10 .none with
      |.int _ _=>decide (P=P')&&decide (c≠P)
      |_=>false)
     |_=>false)
    |_=>false)
   |_=>false)
  |_=>false)
 |_=>false
def ZeU(K:Fg)(v:ae):Bool:=match v with
 |.ref c=>(match K.lookup c with
  |some ⟨.type n,_,.fields vs,_⟩=>decide (n="code")&&ZpA c vs
  |_=>false)
 |_=>false
theorem Zko{K:Fg}(h:ZeU K v=true):∃c P,Zn9 K v c P:=by
 unfold ZeU at h
 split at h
 ·rename_i c
  split at h
  ·rename_i n od vs sl e;simp only[aS,decide_eq_true_eq]at h;obtain⟨rfl,h⟩:=h;unfold ZpA at h
   split at h
   ·rename_i P e1
    split at h
    ·rename_i P' e2
     split at h
     ·rename_i f tf e3
      split at h
      ·rename_i fl tg e4
       split at h
       ·rename_i b e5
        split at h
        ·rename_i tx tt e6;simp only[aS,decide_eq_true_eq]at h;obtain⟨rfl,ne⟩:=h;exact⟨c,P,rfl,ne,_,vs,_,_,_,_,_,_,_,e,rfl,rfl,e1,e2,e3,e4,e5,e6⟩
        ·cases h
       ·cases h
      ·cases h
     ·cases h
    ·cases h
   ·cases h
  ·cases h
 ·cases h
theorem Zn9.tb{K:Fg}(h:Zn9 K v c P):TbP K P:=by
 obtain⟨_,_,o,vs,_,_,_,_,_,_,_,e1,e2,e3,e4,_⟩:=h;exact⟨c,o,vs,e1,e2,e3,e4⟩
theorem Zn9.hd{K:Fg}(x:Zn9 K v c P)(k:K.In h):PySem.W.CodeHd h c P:=by
 obtain⟨_,ne,o,vs,file,tf,flags,tg,inF,text,tt,e1,e2,e3,e4,e5,e6,e7,e8,e9⟩:=x;exact⟨o,vs,file,tf,flags,tg,inF,text,tt,k _ _ e1,e2,e3,e4,e5,e6,e7,e8,e9,ne⟩
theorem ZeV{pos:Pos}{c:ae}{r:List ae}:∀(l:List ae),jg l->fW pos (l++r)=some c->fW pos l=some c\/fW pos r=some c
 |[],_,h=>.inr h
 |.int i t::.int j u::x::Zav,ht,h=>by
  have ih:=ZeV (pos:=pos) (c:=c) (r:=r) Zav ht;simp only[aQ,fW]at h ⊢;by_cases q:(i == ↑pos.line&&j == ↑pos.col)=true
  ·rw[if_pos q]at h ⊢;exact .inl h
  ·rw[if_neg q]at h ⊢;exact ih h
 |[.int _ _],ht,_=>ht.elim
 |[.int _ _,.int _ _],ht,_=>ht.elim
theorem ZeW{pos:Pos}{c:ae}{r:List ae}:∀(l:List ae),jg l->fW pos l=some c->fW pos (l++r)=some c
 |[],_,h=>by cases h
 |.int i t::.int j u::x::Zav,ht,h=>by
  have ih:=ZeW (pos:=pos) (c:=c) (r:=r) Zav ht;simp only[aQ,fW]at h ⊢;by_cases q:(i == ↑pos.line&&j == ↑pos.col)=true
  ·rw[if_pos q]at h ⊢;exact h
  ·rw[if_neg q]at h ⊢;exact ih h
 |[.int _ _],ht,_=>ht.elim
 |[.int _ _,.int _ _],ht,_=>ht.elim
theorem Zc6{r:List ae}:∀(l:List ae),jg l->jg r->jg (l++r)
 |[],_,h=>h
 |.int i t::.int j u::x::Zav,ht,h=>Zc6 Zav ht h
 |[.int _ _],ht,_=>ht.elim
 |[.int _ _,.int _ _],ht,_=>ht.elim
noncomputable abbrev ZjA(qual:Str)(params:Arguments)(body:Expr)(scope:js)(cl:List (Str×Addr))(pm:ae)(c':Addr)(ctv:ae):Obj:=PySem.W.kla_obj "<lambda>" qual params body scope cl pm c' ctv
theorem Zsi(hP:H P=some (.tbl ps))(hc:H c'=none)(e:∀b,b≠P->b≠c'->H' b=H b):(∀K α,Ext K H H' α α)/\∀K α M,HR K H α M->HR K H' α M:=by
 have k:∀b u,H b=some u->(∀q,u≠ .tbl q)->H' b=some u:=fun b u q nt=>by
  rw[e b (fun z=>by subst z;rw[hP]at q;cases q;exact nt _ rfl) (ZU q hc)]
  exact q
 have ex:∀K α,Ext K H H' α α:=fun K α=>by
  refine⟨fun p xs q=>k p _ q (fun _ z=>by cases z),fun p xs q=>?_,fun p C xs q=>?_,fun p j q=>?_,fun p o u q=>k p _ q (fun _ z=>by cases z),[],(cg _).symm⟩
  ·unfold SqF at q ⊢;rcases q with⟨o,q⟩|q
   ·exact .inl ⟨o,k p _ q (fun _ z=>by cases z)⟩
   ·exact .inr q
  ·obtain⟨oe,u,vs,q1,q2,q3,q4,q5⟩:=q;refine⟨oe,u,vs,k p _ q1 (fun _ z=>by cases z),q2,q3,q4,?_⟩
   rcases q5 with q5|⟨dx,fs,r1,r2,r3⟩
   ·exact .inl q5
   ·exact .inr ⟨dx,fs,r1,k dx _ r2 (fun _ z=>by cases z),r3⟩
  ·have q':=q;unfold Kn at q;cases z:H p with
   |none=>rw[z]at q;cases q
   |some u=>
    have:∀t,u≠ .tbl t:=fun t y=>by subst y;rw[z]at q;cases q
    unfold Kn;rw[k p u z this,<-z];exact q'
 refine⟨ex,fun K α M hr=>⟨hr.len,hr.nd,fun n q so e1 m=>?_⟩⟩;have so':=hr.ob n q so e1 m;refine so'.mono (ex K α) ?_;cases so with
 |lst ds=>
  rcases so' with⟨_,z,_⟩|⟨_,z,_⟩|⟨_,z,_⟩|⟨_,_,_,z,_⟩|⟨_,_,_,z,_⟩|⟨_,z,_⟩<;>(rw[k q _ z (fun _ y=>by cases y)];exact z.symm)
noncomputable def ZpB(H:Hp)(P c':Addr):Prop:=∃ps pos,H P=some (.tbl ps)/\fW pos ps.toList=some (.ref c')
theorem Zkp(I:Inv X pins σ H s)(hm:Zsh X.K)(hc:Zn9 X.K X.env.code c P)(hcl:mB scope X.env=pure cl)(h:∀f c' pm ctv H' s',s.heap.objs.size<=f->Inv X (pins++[(f,ZjA qual params body scope cl pm c' ctv)]) σ H' s'->ZpB H' P c'->(∀K α,Ext K H H' α α)->(∀K α M,HR K H α M->HR K H' α M)->Q (.ref f) s'):wpAny (az X.prog X.w) X.A (makeFunction "<lambda>" qual params (.expr body) scope X.env [] [] [] pos fl) Q E s:=by
 obtain⟨ps,hP⟩:=I.ok.tb.un I.base P hc.tb;obtain⟨oP,tP,cP⟩:=I.hok P _ hP;have hg:=I.mod.glob.keeps I.bk;have ng:∀b o,X.base.get? b=some o->b≠P:=fun b o e z=>by
  have:=(I.bs b o e).2
  rw[z,hP]at this;cases this
 have hgP:aO≠P:=by
  obtain⟨o,es,ep,e,_⟩:=I.mod.glob;exact ng _ _ e
 have hb:s.heap.BuiltinsAt X.mg P:=by
  obtain⟨bm,o,e1,e2,e3,e4,e5,e6,e7⟩:=hm;exact⟨bm,o,PySem.W.mg_of I.mod.kin I.mod.glob e1,e6,e7,ng _ _ (I.mod.kin _ _ e2),I.kIn _ _ e2,e3,e4,e5⟩
 have pinf:∀{H':Hp}{s':aC}{f:Addr}{o:Obj},Inv X pins σ H' s'->s.heap.objs.size<=f->s'.heap.get? f=some o->H' f=none->(∀v,o.data≠ .cell v)->Inv X (pins++[(f,o)]) σ H' s':=fun{H' s' f o} I' hf e n nc=>I'.pins_of fun p hp=>by
  rcases aY.mp hp with hp|hp
  ·exact I'.pin p (a8 _ hp)
  ·rw[dj.mp hp];exact⟨e,n,bz (ai I.lt hf),I.nofs hf,nc⟩
 cases hn:fW pos ps.toList with
 |some cv=>
  obtain⟨c',oc,vs,q,t,rfl,own,e1,e2,e3⟩:=cP pos cv hn;refine PySem.W.kla_makeFunctionHit hcl I.ok.glob hg hc.1 (hc.hd I.kIn) oP tP hn hb fun ctv h' tk hk hz=>?_;have kk:∀b o,s.heap.get? b=some o->(h'.push (ZjA qual params body scope cl ((X.mg "__name__").getD .none) c' ctv)).get? b=some o:=fun b o e=>Hq _ (hk b o e);have I':=I.kept (t':=tk) kk;refine h _ c' _ ctv H _ hz (pinf I' hz (aP _ rfl) (I.hok.fresh hz) (fun v z=>by cases z)) ⟨ps,pos,hP,hn⟩ (fun K α=>Ext.refl) fun K α M hr=>hr
 |none=>
  refine PySem.W.kla_makeFunction hcl I.ok.glob hg hc.1 (hc.hd I.kIn) oP tP hn hgP hb fun c' ctv h' tk hx hge hlt hrec htb=>?_;obtain⟨c2,oc,vs,t,e2,hoc,hd,hv⟩:=hrec;cases e2;have hc0:H c'=none:=I.hok.fresh hge;have cP':c'≠P:=fun z=>by rw[z,hP]at hc0;cases hc0
  let H':Hp:=upd (upd H P (.tbl (ps ++ #[d8 pos.line,d8 pos.col,.ref c']))) c' (.own P)
  have e0:∀b,b≠P->b≠c'->H' b=H b:=fun b n1 n2=>by show upd (upd H P _) c' _ b=_;rw[ZH n2,ZH n1]
  have eP:H' P=some (.tbl (ps ++ #[d8 pos.line,d8 pos.col,.ref c'])):=by show upd (upd H P _) c' _ P=_;rw[ZH (bV cP'),Zy]
  have eC:H' c'=some (.own P):=Zy;have kp:∀b o,b≠P->s.heap.get? b=some o->(h'.push (ZjA qual params body scope cl ((X.mg "__name__").getD .none) c' ctv)).get? b=some o:=fun b o n e=>Hq _ (hx b o n e);have nP:∀b,H b=none->b≠P:=fun b n z=>by rw[z,hP]at n;cases n
  have nC:∀b o,s.heap.get? b=some o->b≠c':=fun b o e=>aE (ai (Hz e) hge);have nC':∀b u,H b=some u->b≠c':=fun b u e=>aE (ai (I.hok.lt e) hge);have same:∀b u,H b=some u->(∀q,u≠ .tbl q)->H' b=some u:=fun b u e nt=>by
   rw[e0 b (fun z=>by subst z;rw[hP]at e;cases e;exact nt _ rfl) (nC' b u e)]
   exact e
  have tP':jg (ps ++ #[d8 pos.line,d8 pos.col,.ref c']).toList:=by
   rw[gx];exact Zc6 _ tP eU
  have hok:HOk X.prog X.w H' (h'.push (ZjA qual params body scope cl ((X.mg "__name__").getD .none) c' ctv)):=fun b u e=>by
   by_cases bc:b=c'
   ·subst bc;rw[eC]at e;cases e;exact⟨_,Hq _ hoc⟩
   ·by_cases bP:b=P
    ·subst bP;rw[eP]at e;cases e;refine⟨Hq _ htb,tP',fun pos' cv z=>?_⟩;rw[gx]at z;rcases ZeV _ tP z with z|z
     ·obtain⟨c1,o1,vs1,q1,t1,r1,r2,r3,r4⟩:=cP pos' cv z;exact⟨c1,o1,vs1,q1,t1,r1,same _ _ r2 (fun _ y=>by cases y),kp _ _ (fun y=>by rw[y,hP]at r2;cases r2) r3,r4⟩
     ·have z':(if((pos.line:Int) == ↑pos'.line&&(pos.col:Int) == ↑pos'.col)=true then some (aZ c')else none)=some cv:=z
      split at z'
      ·cases z';exact⟨c',oc,vs,_,t,rfl,eC,Hq _ hoc,hd,hv⟩
      ·cases z'
    ·rw[e0 b bP bc]at e;refine(I.hok b u e).stay (fun x v hx' r=>kp x v ?_ r) (fun x r=>same _ _ r (fun _ y=>by cases y)) fun x xs r=>same _ _ r (fun _ y=>by cases y)
     rcases hx' with rfl|hx'
     ·exact bP
     ·exact fun y=>by rw[y,hP]at hx';cases hx'
  have I':Inv X pins σ H' {s with heap:=h'.push (ZjA qual params body scope cl ((X.mg "__name__").getD .none) c' ctv),toks:=tk}:=
   I.step (g':=s.gens) (d':=s.drawn) (t':=tk) (ch:=[]) (fun _ z=>nomatch z) (fun b o _ _ _ e n=>kp b o (nP b n) e) (fun b o _ _ _ e n=>⟨o.slots,kp b o (nP b n) e⟩) (fun b o _ e n=>by rw[e0 b (nP b n) (nC b o e)];exact n)
    (fun b o _ e=>by
     by_cases bP:b=P
     ·subst bP;exact⟨_,Hq _ htb⟩
     ·exact⟨o,kp b o bP e⟩)
    (fun b xs e=>same _ _ e (fun _ y=>by cases y)) (fun b o u e=>same _ _ e (fun _ y=>by cases y))
    (fun b q e=>by
     by_cases bP:b=P
     ·subst bP;rw[hP]at e;cases e;exact⟨_,eP⟩
     ·exact⟨#[],by rw[e0 b bP (nC' b _ e),e];simp⟩)
    (fun m hm=>(hm.extBut hx (nP _ I.free)).push _) hok I.bare
  have up:=Zsi (H':=H') hP hc0 e0;have hz:s.heap.objs.size<=h'.objs.size:=dI (gN hge hlt);refine h _ c' _ ctv H' _ hz (pinf I' hz (aP _ rfl) ?_ (fun v z=>by cases z)) ⟨_,pos,eP,?_⟩ up.1 up.2
  ·have fr:=hok.fresh (a:=h'.objs.size+1) (by rw[kC];exact aj _)
   rw[e0 h'.objs.size (fun z=>by have:=Hz htb;rw[<-z]at this;exact cG _ this) (bz hlt)]
   exact I.hok.fresh hz
  ·rw[gx];exact codeAmong_snoc _ tP hn
theorem Zfs(hroom:A.depth<ju)(ho:s.heap.get? a=some o)(hd':o.data=.func fd)(hco:fd.scope.isCoroutine=false)(hgen:fd.scope.isGenerator=false)(hbody:fd.body=.expr body)(hc:fd.code=.ref c)(hoc:s.heap.get? c=some oc)(hdc:oc.data=.fields vs)(hq:vs[1]?=some (.str q tq))(h:wpAny (az prog w) A.in1 (iT fd args) (fun binds s₁=>wpAny (az prog w) A.in1 (lE fd.scope fd.globals fd.closure binds (q++".<locals>.") (some a) fd.code none fd.builtins) (fun env s₂=>s₂.heap.NoLimit/\fY (az prog w) A (.expr body env) R s₂) (fun e s'=>R (.error e) s') s₁) (fun e s'=>R (.error e) s') s):fY (az prog w) A (.call (.ref a) args) R s:=by
 refine codeAny_of_tree ?_;show wpAny _ A.in1 (callAny (.ref a) args) _ _ s;simp only[callAny];refine Wb (wpAny_load ho ?_);simp only[hd',callFunction,hco,hgen,hbody,hc];rw[hc]at h;refine Wb (m:=field (.ref c) 1) (cx hoc hdc hq (Wb (Wp ?_)));exact Wb (wpAny_mono h (fun binds s₁ h₁=>Wb (wpAny_mono h₁ (fun env s₂ h₂=>Wb (wpAny_enterFrame h₂.1 hroom (Wp (lZ rfl h₂.2)))) fun _ _ h'=>h')) fun _ _ h'=>h')
noncomputable def lam(X:Cx)(A:dR)(q:Str)(scope:js)(cl:List (Str×Addr))(N:List Str)(f:Addr)(cd:ae)(s:aC)(H:Hp):Cx:=
 {X with A:=A.deeper (PySem.W.envX q scope s.heap.objs.size f cd cl),N:=N,s₀:=s,H₀:=H,env:=PySem.W.envX q scope s.heap.objs.size f cd cl,outer:=X.stack,stack:=PySem.W.envX q scope s.heap.objs.size f cd cl::X.stack,ex:=[],fn:=fun _=>false,pn:=[],xe:=fun _ _=>False,fxs:=none}
theorem Zio:Thr (lam X A q scope cl N f cd s H) E0:=
 ⟨fG.never,fun _ _ _ _ _ _ _ h=>by obtain⟨_,_,_,_,_,_,_,_,_,_,_,_,_,q⟩:=h;exact q,fun _ _ _ _ _ _ _ _ _ _ _ _ _ _ _ _ _ _ _ _ _ _ q=>q⟩
structure Lms(X:Cx) (scope:js) (cl:List (Str×Addr)) (x:Str) (N:List Str) (fr:List Nat):Prop where
 clos:mB scope X.env=pure cl
 kind:scope.kind=.function
 co:scope.isCoroutine=false
 gen:scope.isGenerator=false
 cell:∀y∈scope.names,y.2≠ .cell
 par:scope.names.lookup x=some .local
 sub:∀y c,cl.lookup y=some c->X.env.cells.lookup y=some c
 has:∀y,(scope.names.lookup y=some .cell\/scope.names.lookup y=some .free)->∃c,cl.lookup y=some c
 n0:N[0]?=some x
 len:N.length=1+fr.length
 at_:∀(j i:Nat),fr[j]?=some i->∃y,N[1+j]?=some y/\X.N[i]?=some y/\X.env.kindOf y=some .cell/\scope.names.lookup y=some .free/\cl.lookup y=X.env.cells.lookup y
noncomputable def stL(v:V)(fr:List Nat)(σ:L2.St):L2.St:=some v::fr.map fun i=>(σ[i]?).join
noncomputable def roL(d:D)(fr:List Nat)(ρ:Ro):Ro:=some d::fr.map fun i=>(ρ[i]?).join
theorem SR.lam{K:Fg}(h:SR K H α σ ρ)(r:Rep K H α v d):SR K H α (stL v fr σ) (roL d fr ρ):=by
 refine⟨by simp[stL,roL],fun i d' e=>?_⟩
 cases i with
 |zero=>
  have e':some (some d)=some (some d'):=e;cases e';exact⟨v,rfl,r⟩
 |succ i=>
  have e':(fr.map fun i=>(ρ[i]?).join)[i]?=some (some d'):=e;rw[bB]at e';cases z:fr[i]? with
  |none=>rw[z]at e';cases e'
  |some r0=>
   rw[z]at e';obtain⟨v',e3,e4⟩:=h.2 r0 d' (join_some (aX e'));refine⟨v',?_,e4⟩;show(fr.map fun i=>(σ[i]?).join)[i]?=some (some v');rw[bB,z];show some (σ[r0]?).join=_;rw[e3];rfl
theorem ZpC(L:Lms X scope cl x N fr)(I:Inv X pins σ H s)(hA:A.frames=some X.stack)(hh:A.handled=X.A.handled):(lam X A q scope cl N f cd s H).Ok where
 mod:=I.ok.mod
 kind:=L.kind
 glob:=rfl
 blt:=rfl
 above:=aj _
 inj:=fun y z c h1 h2=>I.ok.inj y z c (L.sub y c h1) (L.sub z c h2)
 has:=fun y h=>L.has y h
 cab:=fun y c h=>(by cases h)
 hd:=fun z=>hh.trans (I.ok.hd z)
 frames:=lh hA
 stk:=.inr ⟨rfl,rfl⟩
 exf:=fun b hb=>absurd (show b∈([]:List Addr)from hb) (by simp)
 bs:=I.bs
 bsz:=aT I.ok.bsz I.sz
 noex:=fun b o e hb=>absurd (show b∈([]:List Addr)from hb) (by simp)
 exfs:=fun b hb=>absurd (show b∈([]:List Addr)from hb) (by simp)
 funs:=I.stack
 frf:=I.stkFree
 tb:=I.ok.tb.un I.base
theorem Zm0(L:Lms X scope cl x N fr)(I:Inv X pins σ H s)(hA:A.frames=some X.stack)(hh:A.handled=X.A.handled)(hn:h1.Ns s.heap.objs.size m)(hm:m x=some u)(ru:Z8 v u)(hk:∀b o,s.heap.get? b=some o->h1.get? b=some o):Inv (lam X A q scope cl N f cd s H) [] (stL v fr σ) H {s with heap:=h1,toks:=tk} where
 ok:=ZpC L I hA hh
 os:=rfl
 bare:=I.bare
 base:=Un.kept hk
 loc:=by
  refine⟨m,hn,fun i y v' e1 e2 e3=>?_⟩;cases i with
  |zero=>
   have exy:y=x:=aX (e1.symm.trans L.n0);subst exy;have ev:some (some v)=some (some v'):=e2;cases ev;exact⟨u,ru,.inl ⟨L.par,hm⟩⟩
  |succ i=>
   have e2':(fr.map fun i=>(σ[i]?).join)[i]?=some (some v'):=e2;rw[bB]at e2';cases z:fr[i]? with
   |none=>rw[z]at e2';cases e2'
   |some r0=>
    rw[z]at e2';obtain⟨y',k1,k2,k3,k4,k5⟩:=L.at_ i r0 z;have exy:y=y':=by
     have e1':N[i+1]?=some y:=e1;rw[je]at e1';exact aX (e1'.symm.trans k1)
    subst exy;obtain⟨m0,hm0,hl⟩:=I.loc;obtain⟨u',ru',lk⟩:=hl r0 y v' k2 (join_some (aX e2')) (.inr (.inl k3));refine⟨u',ru',?_⟩;rcases lk with⟨z,_⟩|⟨_,c,z1,⟨o,z2,z3⟩⟩
    ·rw[k3]at z;cases z
    ·exact .inr ⟨.inr k4,c,k5.trans z1,⟨o,hk _ _ z2,z3⟩⟩
 cell:=fun y c h=>by
  obtain⟨v,o,e1,e2⟩:=I.cell y c (L.sub y c h);exact⟨v,o,hk _ _ e1,e2⟩
 free:=I.fresh
 freeC:=fun y c h=>I.freeC y c (L.sub y c h)
 pin:=fun p hp=>(by simp[lam]at hp)
 hok:=I.hok.kept hk
 len:=by
  show(stL v fr σ).length=N.length;rw[L.len];simp[stL];lia
 qd:=by
  rcases I.qd with z|⟨ea,oe,u,vs,z1,z2⟩
  ·exact .inl (hh.trans z)
  ·exact .inr ⟨ea,oe,u,vs,hh.trans z1,z2⟩
 fx:=.free rfl
theorem Zm1(L:Lms X scope cl x N fr)(I:Inv X pins σ H s)(hA:A.frames=some X.stack)(hh:A.handled=X.A.handled)(hroom:A.depth<ju)(hp:(f,ZjA qual params body scope cl pm c' ctv)∈X.pn++pins)(cd:ZpB H P c')(hbind:iT (PySem.W.kla_fn "<lambda>" qual params body scope cl pm (.ref c') ctv) ⟨[u],[]⟩=pure [(x,u)])(ru:Z8 v u)(hb:∀q,∃t,PE (lam X A q scope cl N f (.ref c') s H) body t/\t (stL v fr σ) H Q):wpAny (az X.prog X.w) A (call (.ref f) [u]) (fun r s'=>∃v H',Inv X pins σ H' s'/\Z8 v r/\Q v H'/\ZpB H' P c') (fun _ _=>False) s:=by
 obtain⟨ps,pos,hP,hcd⟩:=cd;obtain⟨oP,tP,cP⟩:=I.hok P _ hP;obtain⟨c2,oc,vs,q,tq,ec,own,hoc,hdc,hq⟩:=cP pos _ hcd;cases ec;refine wpAny_call (Zfs hroom (I.pin _ hp).1 rfl L.co L.gen rfl rfl hoc hdc hq ?_);rw[hbind];refine Wp (wpAny_newFunctionEnv L.cell (fun y hy=>by rw[dj.mp hy];exact L.par) (fun h1 hns hsb=>?_) L.kind)
 have hk:∀b o,s.heap.get? b=some o->h1.get? b=some o:=fun b o e=>hsb.extBut b o (aE (Hz e)) (Hq _ e);refine⟨I.nolimit.keeps hk,?_⟩;obtain⟨t,pt,qt⟩:=hb q;have J:Inv (lam X A q scope cl N f (.ref c') s H) [] (stL v fr σ) H {s with heap:=h1,toks:=s.toks+1}:=Zm0 L I hA hh hns (by simp) ru hk
 show fY _ _ (.expr body (PySem.W.envX q scope s.heap.objs.size f (.ref c') cl)) _ _;refine PySem.W.kla_codeExpr (wpAny_mono (pt [] _ _ H Q J qt) (fun r s' hs=>?_) fun _ _ z=>z.elim);obtain⟨v',H',J',rv,qv⟩:=hs;have ce:CE X.stack X.prog X.w H s (fun v'' H''=>v''=v'/\H''=H') r s':=⟨v',H',J'.os,J'.bare,J'.base,J'.hok,rv,rfl,rfl⟩;obtain⟨v2,H2,I2,r2,rfl,rfl⟩:=I.after ce;obtain⟨more,hm⟩:=J'.base.tbls P ps hP;exact⟨v2,H2,I2,r2,qv,_,pos,hm,by rw[gx];exact ZeW _ tP hcd⟩
end DL
namespace DL
open PyProof.Rows L2
def Zc7(g:Ev)(fr:List Nat)(ρ:Ro)(M:Sto)(xs:List D)(ks:List (List Int)):Prop:=Paired (fun d k=>g (roL d fr ρ) M=.ok (tupD k) M/\k≠[]) xs ks
def Zkq(ks:List (List Int))(xs:List D):List D:=(ST.srt ks).map fun k=>((ks.zip xs).lookup k).getD .non
def Zip(g:Ev)(fr:List Nat)(ρ:Ro)(M:Sto)(xs:List D)(ks:List (List Int)):Prop:=xs.length<64/\ks.Nodup/\Zc7 g fr ρ M xs ks
open Classical in
def Zd6(g:Ev)(fr:List Nat)(ρ:Ro)(ds:List D)(M:Sto):Out D:=match ds with
 |[.ref n]=>(match M[n]? with
  |some (.lst xs)=>if h:∃ks,Zip g fr ρ M xs ks then .ok (.ref M.length) (M++[.lst (Zkq h.choose xs)])else .bad
  |none=>.bad)
 |_=>.bad
def Zg6(fs:Av)(fr:List Nat)(g:Ev):Ev:=fun ρ M=>(fs ρ M).bind fun ds M1=>Zd6 g fr ρ ds M1
theorem Zc7.uniq{g:Ev}{fr:List Nat}{ρ:Ro}{M:Sto}:∀{xs:List D}{ks ks':List (List Int)},Zc7 g fr ρ M xs ks->Zc7 g fr ρ M xs ks'->ks=ks':=by
 intro xs
 induction xs with
 |nil=>intro ks ks' h h';cases h;cases h';rfl
 |cons x xs ih=>
  intro ks ks' h h';cases h with
  |cons a b=>
   cases h' with
   |cons c d=>
    have e:=a.1.symm.trans c.1;injection e with e1 e2;rw[Zkn e1,ih b d]
theorem Zd7(h:M[n]?=some (.lst xs))(k:Zip g fr ρ M xs ks):Zd6 g fr ρ [.ref n] M=.ok (.ref M.length) (M++[.lst (Zkq ks xs)]):=by
 have hx:∃ks,Zip g fr ρ M xs ks:=⟨ks,k⟩;simp only[Zd6,h,dif_pos hx];rw[hx.choose_spec.2.2.uniq k.2.2]
theorem ZdM{ks:List (List Int)}:∀{xs:List D}{k:List Int}{d:D},ks.Nodup->(k,d)∈ks.zip xs->(ks.zip xs).lookup k=some d:=by
 induction ks with
 |nil=>intro xs k d _ h;cases h
 |cons a r ih=>
  intro xs k d nd h;cases xs with
  |nil=>cases h
  |cons x xs=>
   rw[jr]at h ⊢;rw[b7];rcases ar.mp h with e|h2
   ·cases e;simp
   ·have ne:k≠a:=fun z=>(eH.mp nd).1 (z▸(gH h2).1)
    have:(k==a)=false:=by simpa using ne
    rw[this];exact ih (eH.mp nd).2 h2
def Zt4(K:Fg)(H:Hp)(α:List Addr)(h:Heap)(t:List Int×D×V)(p:ae×ae):Prop:=ST.ZaT h p.1 t.1/\Z8 t.2.2 p.2/\Rep K H α t.2.2 t.2.1
theorem Zsj{K:Fg}{H:Hp}{α:List Addr}{h:Heap}:∀{ks:List (List Int)} {xs:List D} {vs:List V} {kL its:List ae},Paired (fun k u=>ST.ZaT h u k) ks kL->Reps K H α vs xs->Z1 vs its->ks.length=xs.length->∃T:List (List Int×D×V),Paired (Zt4 K H α h) T (kL.zip its)/\T.map (fun t=>(t.1,t.2.1))=ks.zip xs:=by
 intro ks
 induction ks with
 |nil=>
  intro xs vs kL its hk _ _ e;cases hk
  have:xs=[]:=dm e.symm
  subst this;exact⟨[],.nil,rfl⟩
 |cons k ks ih=>
  intro xs vs kL its hk hr hv e;cases hk with
  |cons a b=>
   cases hr with
   |nil=>cases e
   |cons c d=>
    cases hv with
    |cons p q=>
     obtain⟨T,t1,t2⟩:=ih b d q (Nat.succ.inj e);exact⟨(k,_,_)::T,.cons ⟨a,p,c⟩ t1,by rw[aL,t2];rfl⟩
theorem Zc8{F:α->β->Prop}:∀{xs:List α}{ys:List β},Paired F xs ys->∀(i:Nat)(h:i<xs.length),∃h':i<ys.length,F xs[i] ys[i]:=by
 intro xs ys p
 induction p with
 |nil=>intro i h;exact absurd h (by simp)
 |cons a b ih=>
  intro i h;cases i with
  |zero=>exact⟨by simp,a⟩
  |succ i=>
   obtain⟨h',q⟩:=ih i (by simpa using h)
   exact⟨by simpa using h',by simpa using q⟩
theorem ZbD{α β:Type}{F:α->β->Prop}:∀{xs:List α}{ys:List β},Paired F xs ys->xs.length=ys.length
 |_,_,.nil=>rfl
 |_,_,.cons _ b=>congrArg Nat.succ (ZbD b)
theorem ZeX{K:Fg}{out:List (ae×ae)}(nd:ks.Nodup)(hl:ks.length=xs.length)(hT:Paired (Zt4 K H α h) T prs)(eT:T.map (fun t=>(t.1,t.2.1))=ks.zip xs)(hp:out.Perm prs)(hs:∀i j (hi:i<out.length) (hj:j<out.length),i<=j->∀ns ms,ST.ZaT h out[i].1 ns->ST.ZaT h out[j].1 ms->ST.le ns ms):∃ys:List V,Z1 ys (out.map (·.2))/\Reps K H α ys (Zkq ks xs):=by
 obtain⟨T',p1,p2⟩:=ZbN hp hT;have lT:=ZbD p2;have ek:T.map (·.1)=ks:=by
  have:=congrArg (List.map iX) eT
  rw[cT,List.map_fst_zip (mI hl)]at this;exact this
 have pk:(T'.map (·.1)).Perm ks:=by rw[<-ek];exact p1.map _
 have up:(T'.map (·.1)).Pairwise ST.le:=by
  refine gp.mpr fun i j hi hj ij=>?_;rw[aB]at hi hj;obtain⟨a1,a2⟩:=Zc8 p2 i hi;obtain⟨b1,b2⟩:=Zc8 p2 j hj;rw[j9,j9];exact hs i j a1 b1 (dI ij) _ _ a2.1 b2.1
 have es:=ST.Zd4 pk up;refine⟨T'.map (·.2.2),?_,?_⟩
 ·clear es up pk p1 hs hp lT
  induction p2 with
  |nil=>exact .nil
  |cons a _ ih=>exact .cons a.2.1 ih
 ·unfold Zkq;rw[<-es,cT];have md:∀t∈T',((ks.zip xs).lookup t.1).getD .non=t.2.1:=fun t ht=>by
   have m:t∈T:=p1.mem_iff.mp ht;have m2:(t.1,t.2.1)∈ks.zip xs:=by rw[<-eT];exact List.mem_map_of_mem (f:=fun t:List Int×D×V=>(t.1,t.2.1)) m
   rw[ZdM nd m2];rfl
  have:T'.map ((fun k=>((ks.zip xs).lookup k).getD .non)∘fun t=>t.1)=T'.map (·.2.1):=b6 fun t ht=>md t ht
  rw[this];clear es up pk p1 hs hp lT md this
  induction p2 with
  |nil=>exact .nil
  |cons a _ ih=>exact .cons a.2.2 ih
def JK(X:Cx)(pins:Pn)(σ:L2.St)(P c':Addr)(H2:Hp)(α:List Addr)(M:Sto)(n0:Nat)(ks:List (List Int))(a kS:Addr)(kL:List ae)(s':aC):Prop:=
 n0<=a/\n0<=kS/\kS≠a/\∃H',Inv X pins σ H' s'/\ZpB H' P c'/\H' a=none/\H' kS=none/\(∃o,s'.heap.get? a=some o)/\(∃o,s'.heap.get? kS=some o)/\Ext X.K H2 H' α α/\HR X.K H' α M/\kL.length<=ks.length/\Paired (fun k u=>∃kv,Z8 kv u/\Rep X.K H' α kv (tupD k)) (ks.take kL.length) kL
theorem Zc9{α β:Type}{F:α->β->Prop}{a:α}{b:β}:∀{xs:List α}{ys:List β},Paired F xs ys->F a b->Paired F (xs++[a]) (ys++[b])
 |_,_,.nil,h=>.cons h .nil
 |_,_,.cons c d,h=>.cons c (Zc9 d h)
theorem Zch{α β:Type}{F G:α->β->Prop}(h:∀a b,F a b->G a b):∀{xs:List α}{ys:List β},Paired F xs ys->Paired G xs ys
 |_,_,.nil=>.nil
 |_,_,.cons c d=>.cons (h _ _ c) (Zch h d)
theorem ZpD{K:Fg}(e:Ext K H H' α α')(h:HR K H' α' M)(l:α.length=M.length):α'=α:=by
 obtain⟨β,rfl⟩:=e.al
 have:=h.len
 rw[a6,l]at this
 have:β=[]:=dm (by lia)
 rw[this,cg]
theorem ZeY{id:String}(hplain:(args.any (·.1)||kws.any (·.1.isNone))=false)(h:wpAny M A (evalArgs (.builtin id) true args kws) (fun a s₁=>wpAny M A (call (.builtin id) a.pos a.kw) Q E s₁) E s):wpAny M A (callWith pos (.builtin id) [] args kws) Q E s:=by
 unfold callWith;refine Wb (cX (wpAny_mono h (fun a s₁ h₁=>Wb (wpAny_standAt ?_)) fun _ _ x=>x));simp only[hplain];refine Wb (Wp ?_);exact Wb (wpAny_mono h₁ (fun r s₂ hr=>Wb (cX (wpAny_point (Wp hr)))) fun _ _ x=>x)
theorem Ziq{n:Nat}(hr:Room (k+3) X.A)(L:Lms X scope cl x N fr)(hb:∀q f cd s H,Room k (X.A.in1.in1.deeper (PySem.W.envX q scope s.heap.objs.size f cd cl))->DE (lam X X.A.in1.in1 q scope cl N f cd s H) E0 body g)(hbind:∀(u:ae),iT (PySem.W.kla_fn "<lambda>" qual params body scope cl pm (.ref c') ctv) ⟨[u],[]⟩=pure [(x,u)])(I:Inv X (pins++[(f,ZjA qual params body scope cl pm c' ctv)]) σ H s)(cd:ZpB H P c')(sr:SR X.K H α σ ρ)(h:HR X.K H α M)(hx:M[n]?=some (.lst xs))(hp:H p0=some (.lst ws))(rp:Reps X.K H α ws xs)(l64:xs.length<64)(nd:ks.Nodup)(keys:Zc7 g fr ρ M xs ks)(q:∀v H' α',Ext X.K H H' α α'->HR X.K H' α' (M++[.lst (Zkq ks xs)])->Rep X.K H' α' v (.ref M.length)->Q v H'):wpAny (az X.prog X.w) X.A (call (.builtin "sorted") [.ref p0] [(bH "key",.ref f)]) (EP X pins σ Q) X.xe s:=by
 have lks:ks.length=xs.length:=(ZbD keys).symm;obtain⟨its,rv,pl,hz⟩:=I.list (SqL.of hp);have lit:its.length=xs.length:=by rw[<-rv.length,rp.length]
 refine ST.Zin (JK X (pins++[(f,ZjA qual params body scope cl pm c' ctv)]) σ P c' H α M s.heap.objs.size ks) pl.isList (by lia) ?_ ?_ ?_ ?_ ?_
 ·
  intro a kS h1 ha hS ne kk oa ok;exact⟨ha,hS,ne,H,I.kept (t':=s.toks) kk,cd,I.hok.fresh ha,I.hok.fresh hS,oa,ok,Ext.refl,h,eN _,by rw[fA,lJ];exact .nil⟩
 ·
  rintro a kS i v kL s' na ea nk ek hv hi ⟨ha,hS,ne,H',I',cd',fa,fS,_,_,ex,hr',lk,pk⟩ oa ok;have hil:i<xs.length:=by have:=(aq.mp hv).1;lia
  obtain⟨xv,e1,e2⟩:=Zfo rv hv;obtain⟨d,d1,d2⟩:=Zd2 rp e1;have hki:i<ks.length:=by lia
  obtain⟨_,kg⟩:=Zc8 keys i hil;have ed:xs[i]=d:=by
   rw[af hil]at d1;exact aX d1
  rw[ed]at kg;have d2:=Rep.mono ex d2;have I2:Inv X (pins++[(f,ZjA qual params body scope cl pm c' ctv)]++[(a,aR "list" na ea),(kS,aR "list" nk ek)]) σ H' s':=I'.pins_of fun p hp=>by
   rcases aY.mp hp with hp|hp
   ·exact I'.pin p (a8 _ hp)
   ·rcases ar.mp hp with rfl|hp
    ·exact⟨oa,fa,bz (ai I.lt ha),I.nofs ha,fun v z=>by cases z⟩
    ·rw[dj.mp hp];exact⟨ok,fS,bz (ai I.lt hS),I.nofs hS,fun v z=>by cases z⟩
  have run:=Zm1 (f:=f) (A:=X.A.in1.in1) (u:=v) (v:=xv) (Q:=fun v' H''=>∃α'',Ext X.K H' H'' α α''/\HR X.K H'' α'' M/\Rep X.K H'' α'' v' (tupD ks[i])) L I2 I.ok.frames rfl (by have:=hr.dp;show X.A.depth<_;lia) (a8 _ (iR _ (a8 _ (dj.mpr rfl)))) cd' (hbind v) e2 fun q'=>by
   obtain⟨t,pt,qt⟩:=hb q' f (.ref c') s' H' ((hr.in1.in1).deeper _);exact⟨t,pt,qt _ (roL d fr ρ) H' α M _ (SR.lam (sr.mono ex) d2) hr' (by
    rw[kg.1];exact fun v' H'' α'' e'' h'' r''=>⟨α'',e'',h'',r''⟩)⟩
  refine wpAny_mono run (fun u s2 hs=>?_) fun _ _ z=>z;obtain⟨v',H2,I3,r3,⟨α2,ex2,hr2,rp2⟩,cd2⟩:=hs;have ea2:=ZpD ex2 hr2 hr'.len;subst ea2;have pa:=I3.pin (a,aR "list" na ea) (by simp)
  have pS:=I3.pin (kS,aR "list" nk ek) (by simp)
  refine⟨⟨ha,hS,ne,H2,I3.unpinned,cd2,pa.2.1,pS.2.1,⟨_,pa.1⟩,⟨_,pS.1⟩,ex.trans ex2,hr2,by rw[a6,fI];lia,?_⟩,pa.1,pS.1⟩
  have et:ks.take (kL++[u]).length=ks.take kL.length++[ks[i]]:=by
   rw[a6,fI,hi,List.take_add_one,af hki];rfl
  rw[et];exact Zc9 (Zch (fun k u ⟨kv,z1,z2⟩=>⟨kv,z1,Rep.mono ex2 z2⟩) pk) ⟨v',r3,rp2⟩
 ·
  rintro a kS kL s' h' ⟨ha,hS,ne,H',I',cd',fa,fS,⟨oa,ea⟩,_,ex,hr',lk,pk⟩ kk oS;refine⟨ha,hS,ne,H',I'.turned (t':=s'.toks) (it:=kS) kk fS (bz (ai I.lt hS)) (.inr (aT I.sz hS)) (fun y c hc z=>?_) (fun p hp z=>?_),cd',fa,fS,⟨oa,kk a oa (bV ne) ea⟩,oS,ex,hr',lk,pk⟩
  ·obtain⟨v,o,e,_⟩:=I.cell y c hc;exact absurd (Hz e) (by rw[z];exact gf hS)
  ·have:=(I.pin p hp).1
   exact absurd (Hz this) (by rw[z];exact gf hS)
 ·
  rintro a kS kL s' ⟨_,_,_,H',I',_,_,_,_,_,_,_,lk,pk⟩ u hu;obtain⟨i,hi,rfl⟩:=c7 hu;have hi':i<(ks.take kL.length).length:=by rw[ZbD pk];exact hi
  obtain⟨_,kv,z1,z2⟩:=Zc8 pk i hi';have t:=Zb0 I' (Zd5 z2) z1;have hik:i<ks.length:=by lia
  obtain⟨_,kg⟩:=Zc8 keys i (by lia)
  have e1:(ks.take kL.length)[i]=ks[i]:=List.getElem_take;rw[e1]at t;cases e2:ks[i]with
  |nil=>exact absurd e2 kg.2
  |cons b r=>rw[e2]at t;exact⟨b,r,t⟩
 ·
  rintro a kS kL s' out h' c ⟨ha,hS,ne,H',I',cd',fa,fS,_,_,ex,hr',lk,pk⟩ hl po hs kk oS oa;have ek:ks.take kL.length=ks:=bf (by lia)
  rw[ek]at pk;obtain⟨T,t1,t2⟩:=Zsj (K:=X.K) (H:=H') (α:=α) (Zch (fun k u ⟨kv,z1,z2⟩=>Zb0 I' (Zd5 z2) z1) pk) (Reps.mono ex rp) rv lks;obtain⟨ys,v1,v2⟩:=ZeX nd lks t1 t2 po hs;have lo:(out.map (·.2)).length=xs.length:=by rw[aB,po.length_eq,List.length_zip,hl,lit];simp
  have hyz:ys.length<=sizeLine:=by rw[v1.length,lo];exact aT (dI l64) (by decide)
  have nS:∀b u,H' b=some u->b≠kS:=fun b u z y=>by rw[y,fS]at z;cases z
  have nA:∀b u,H' b=some u->b≠a:=fun b u z y=>by rw[y,fa]at z;cases z
  have hok:HOk X.prog X.w (upd H' a (.lst ys)) h':=fun b u e=>by
   by_cases ba:b=a
   ·subst ba;rw[Zy]at e;cases e;exact⟨hyz,out.map (·.2),c,v1,oa⟩
   ·rw[ZH ba]at e;refine(I'.hok b u e).stay (fun y v hy r=>kk y v ?_ ?_ r) (fun y r=>by rw[ZH (nA _ _ r)];exact r) fun y zs r=>by rw[ZH (nA _ _ r)];exact r
    ·rcases hy with rfl|hy
     ·exact ba
     ·exact nA _ _ hy
    ·rcases hy with rfl|hy
     ·exact nS _ _ e
     ·exact nS _ _ hy
  have cellN:∀b,s.heap.objs.size<=b->∀y c,X.env.cells.lookup y=some c->c≠b:=fun b hb y c hc z=>by
   obtain⟨v,o,e,_⟩:=I.cell y c hc;exact absurd (Hz e) (by rw[z];exact gf hb)
  have pinN:∀b,s.heap.objs.size<=b->∀p∈X.pn++(pins++[(f,ZjA qual params body scope cl pm c' ctv)]),p.1≠b:=fun b hb p hp z=>by
   have:=(I.pin p hp).1
   exact absurd (Hz this) (by rw[z];exact gf hb)
  have J:=I'.step (H':=upd H' a (.lst ys)) (h':=h') (g':=s'.gens) (d':=s'.drawn) (t':=s'.toks) (ch:=[a,kS]) (fun b hb=>by
    have hb':s.heap.objs.size<=b:=by
     rcases ar.mp hb with rfl|hb
     ·exact ha
     ·rw[dj.mp hb];exact hS
    exact⟨.inr (aT I.sz hb'),bz (ai I.lt hb'),cellN b hb',pinN b hb'⟩)
   (fun b o _ _ hb e _=>kk b o (fun z=>hb (by simp[z])) (fun z=>hb (by simp[z])) e)
   (fun b o _ _ hb e _=>⟨o.slots,kk b o (fun z=>hb (by simp[z])) (fun z=>hb (by simp[z])) e⟩)
   (fun b o hb e n=>by rw[ZH (fun z=>hb (by simp[z]))];exact n)
   (fun b o hb e=>⟨o,kk b o (fun z=>hb (by simp[z])) (fun z=>hb (by simp[z])) e⟩)
   (fun b zs e=>by rw[ZH (nA _ _ e)];exact e) (fun b o u e=>by rw[ZH (nA _ _ e)];exact e)
   (fun b zs e=>⟨#[],by rw[ZH (nA _ _ e),e];simp⟩)
   (fun m hm=>by
    obtain⟨o,es,ep,e,r⟩:=hm;exact⟨o,es,ep,kk _ _ (aE (ai I.lt ha)) (aE (ai I.lt hS)) e,r⟩) hok I'.bare
  exact⟨.ref a,_,J.unpinned,rfl,q _ _ (α++[a]) (ex.trans (Ext.new fa)) (hr'.new fa v2) (.ref ⟨by rw[<-h.len];simp,Kn.lst Zy⟩)⟩
theorem Zgp(hm:Zsh X.K)(hc:ZeU X.K X.env.code=true)(hr:Room (k+3) X.A)(L:Lms X scope cl x N fr)(hmg:X.mg "sorted"=none)(ha:DA X ξ [e] fs)(hb:∀q f cd s H,Room k (X.A.in1.in1.deeper (PySem.W.envX q scope s.heap.objs.size f cd cl))->DE (lam X X.A.in1.in1 q scope cl N f cd s H) E0 body g)(hbind:∀(qual:Str)(pm:ae)(c':Addr)(ctv u:ae),iT (PySem.W.kla_fn "<lambda>" qual params body scope cl pm (.ref c') ctv) ⟨[u],[]⟩=pure [(x,u)]:=by intros;rfl)(hdef:autoParam (defaultsOf params X.env=([],[])) Qrf._auto_1)(hg:autoParam (Gl X "sorted") Qrf._auto_1)(he:autoParam (av [e] X.env=(false,eval e X.env)::av [] X.env) Qrf._auto_1)(hpl:autoParam (((db pos (av [e] X.env)).any (·.1)||(jy pos (fQ [⟨some "key",.Lambda params body scope lpos,kpos⟩] X.env)).any (·.1.isNone))=false) Qrf._auto_1) :
  DE X ξ (.Call (.Name "sorted" p) [e] [⟨some "key",.Lambda params body scope lpos,kpos⟩] pos) (Zg6 fs fr g):=by
 obtain⟨ta,pa,qa⟩:=ha;obtain⟨c,P,lc⟩:=Zko hc;refine⟨fun σ H Q=>∃ρ α M,SR X.K H α σ ρ/\HR X.K H α M/\OP X.K H α ξ Q (Zg6 fs fr g ρ M),?_,fun σ ρ H α M Q s h q=>⟨ρ,α,M,s,h,q⟩⟩;rintro pins s σ H Q I ⟨ρ,α,M,sr,hr0,op⟩;refine wpAny_Call_Name_kw (Zcx I hg hmg Zc5 ?_ (by decide) (by decide))
 refine ZeY hpl (evalArgs_kw2 rfl (thn (pa pos pins s σ H (fun vs H1=>∃α1 M1 ds,Ext X.K H H1 α α1/\HR X.K H1 α1 M1/\Reps X.K H1 α1 vs ds/\OP X.K H1 α1 ξ Q (Zd6 g fr ρ ds M1)) I (qa σ ρ H α M _ sr hr0 (OG.seq op fun ds M1 vs H1 α1 e1 h1 r1 q1=>⟨α1,M1,ds,e1,h1,r1,q1⟩))) fun us s1 ⟨vs,H1,I1,rv,α1,M1,ds,e1,h1,r1,op1⟩=>?_) he)
 have sr1:=sr.mono e1;have key:∀n,ds=[.ref n]->wpAny (az X.prog X.w) X.A (evalAll ((jy pos (fQ [⟨some "key",.Lambda params body scope lpos,kpos⟩] X.env)).map (·.2))) (fun ks s₂=>wpAny (az X.prog X.w) X.A (call (.builtin "sorted") us (((jy pos (fQ [⟨some "key",.Lambda params body scope lpos,kpos⟩] X.env)).filterMap (·.1)).zip ks)) (EP X pins σ Q) X.xe s₂) X.xe s1:=fun n en=>by
  subst en;cases hx:M1[n]? with
  |none=>simp only[Zd6,hx]at op1;exact op1.elim
  |some so=>
   cases so with
   |lst xs=>
    by_cases hk:∃ks,Zip g fr ρ M1 xs ks
    ·obtain⟨ks,sk⟩:=hk;rw[Zd7 hx sk]at op1;obtain⟨l64,nd,keys⟩:=sk;cases r1 with
     |cons r1 r0=>
      cases r0;cases r1 with
      |@ref p0 _ hp0=>
       obtain⟨u0,rfl,ru⟩:=ZdU rv;cases ru;obtain⟨ws,g1,g2⟩:=h1.at hp0 hx;show wpAny _ _ (evalAll [(do let v <-eval (.Lambda params body scope lpos) X.env;standAt pos;pure v)]) _ _ s1
       refine wpAny_evalAll_cons (Wb (PySem.W.kla_eval hdef (Zkp I1 hm lc L.clos fun f c' pm ctv H2 s2 hf I2 cd2 ex2 hr2=>Wb (wpAny_standAt (Wp (wpAny_evalAll_nil ?_))))));have h2:=hr2 X.K α1 M1 h1;obtain⟨ws2,g3,g4⟩:=h2.at ((ex2 X.K α1).get hp0) hx;exact Ziq hr L hb (fun u=>hbind _ pm c' ctv u) I2 cd2 (sr1.mono (ex2 X.K α1)) h2 hx g3 g4 l64 nd keys fun v H' α' ex' h' r'=>op1 v H' α' ((ex2 X.K α1).trans ex') h' r'
    ·simp only[Zd6,hx,dif_neg hk]at op1;exact op1.elim
 by_cases hd:∃n,ds=[.ref n]
 ·obtain⟨n,hd⟩:=hd;exact key n hd
 ·have e:Zd6 g fr ρ ds M1=.bad:=by
   unfold Zd6;split
   ·exact absurd ⟨_,rfl⟩ hd
   ·rfl
  rw[e]at op1;exact op1.elim
end DL
namespace L2
open PyProof.Rows
noncomputable def Zsk(o:Option Obj):Bool:=match o with
 |some ⟨.none,none,.fields ⟨[]⟩,⟨[]⟩⟩=>true
 |_=>false
theorem Zm2(h:Zsk o=true):o=some {cls:=.none,data:=.fields #[]}:=by
 unfold Zsk at h
 split at h
 ·rfl
 ·cases h
theorem Zir{o:Obj}{a:Addr}:∀{l:Pn},l.lookup a=some o->(a,o)∈l
 |[],h=>by cases h
 | (b,u)::r,h=>by
  rw[b7]at h;cases e:a==b with
  |true=>
   rw[e]at h
   have:a=b:=by simpa using e
   cases h;rw[this];exact bX
  |false=>
   rw[e]at h;exact aG _ (Zir h)
def Zgq(K T:Fg):Bool:=K.all fun p=>match p.2 with
 |⟨.type n,_,.fields vs,_⟩=>if n="code" then(match(vs[11]? :Option ae)with
  |some (.ref P)=>(K.lookup P).isNone&&Zsk (T.lookup P)
  |_=>true)else true
 |_=>true
theorem Zis{K:Fg}(h:Zgq K T=true)(t:TbP K P):K.lookup P=none/\T.lookup P=some {cls:=.none,data:=.fields #[]}:=by
 obtain⟨c,⟨oc,od,dt,sl⟩,vs,e1,e2,e3,e4⟩:=t;have q:=bD.mp h _ (Zir e1);cases e2;cases e3;dsimp only at q;rw[if_pos rfl,e4]at q;simp only[aS,gm]at q;exact⟨q.1,Zm2 q.2⟩
theorem Zit{K:Fg}(KX:K.In s₁.heap)(TX:T.In s₁.heap)(hT:Zgq K T=true)(hns:s₁.heap.Ns aO mg)(hb:s₁.heap.Ns gM mb)(hbb:∀x:Str,x≠"__name__"->mb x=bM x)(hlim:s₁.heap.NoLimit)(hg:s₁.gens= #[])(ha:s₁.heap.get? a=some {cls:=.type "list",data:=.seq vs.toArray})(hi:hZ vs ns)(hl:ns.length<=sizeLine)(hr:Room k lS)(F:∀base:Heap,K.In base->base.Ns aO mg->FnOk P w K mg base CX k fa fd [x] sp)(hbind:∀(s:aC)(u:ae),lQ s fd ⟨[u],[]⟩ [(x,u)])(hsp:∀H:Hp,DL.SqF K H a (ns.map V.int)->sp [.ref a] H (fun v _=>v=.bl true) fun _ _ _=>False)(hCX:∀H e s',CX [] H s₁ (fun _ _ _=>False) e s'->False):fY (az P w) lS (.call (.ref fa) ⟨[.ref a],[]⟩) (fun r s'=>r=.ok (.ret (.bool true))/\OldK s₁.heap s'.heap/\s'.os=s₁.os/\iO s'.gens) s₁:=by
 have rv:=Zew hi;have lenV:=hi.length;have tb:∀{b:Addr},TbP K b->s₁.heap.get? b=some {cls:=.none,data:=.fields #[]}:=fun t=>TX _ _ (Zis hT t).2;have core:∀H:Hp,DL.SqF K H a (ns.map V.int)->HOk P w H s₁.heap->(∀b u,H b=some u->(b=a/\K.lookup a=none/\∃o xs,u=.frz o (.lst xs))\/(TbP K b/\u=.tbl #[]))->Tbs K H->
   fY (az P w) lS (.call (.ref fa) ⟨[.ref a],[]⟩) (fun r s'=>r=.ok (.ret (.bool true))/\OldK s₁.heap s'.heap/\s'.os=s₁.os/\iO s'.gens) s₁:=by
  intro H hS hok hA hTb;have base_of:∀{b:Addr}{o:Obj},s₁.heap.get? b=some o->H b=none->(Zjv s₁.heap H).get? b=some o:=fun e n=>ZfU e n;have noA:∀{b:Addr}{o:Obj}{es:Array lU}{ep:Nat},s₁.heap.get? b=some o->o.data=.dict es ep->H b=none:=fun{b o es ep} e d=>by
   cases q:H b with
   |none=>rfl
   |some u=>
    rcases hA b u q with⟨rfl,_⟩|⟨t,_⟩
    ·rw[ha]at e;cases e;have d':Data.seq vs.toArray _=lV es ep:=d;cases d'
    ·rw[tb t]at e;cases e;have d':mT _=lV es ep:=d;cases d'
  have nsK:∀{b:Addr}{m:Str->Option ae},s₁.heap.Ns b m->(Zjv s₁.heap H).Ns b m:=fun{b m} ⟨o,es,ep,e,d,r⟩=>⟨o,es,ep,base_of e (noA e d),d,r⟩;have hKb:K.In (Zjv s₁.heap H):=fun b o e=>base_of (KX b o e) (by
   cases q:H b with
   |none=>rfl
   |some u=>
    rcases hA b u q with⟨rfl,z,_⟩|⟨t,_⟩
    ·rw[z]at e;cases e
    ·rw[(Zis hT t).1]at e;cases e)
  have hM:Mod K mg (Zjv s₁.heap H):=⟨hKb,nsK hns,⟨mb,nsK hb,hbb⟩,let ⟨mc,h1,h2⟩:=hlim;⟨mc,nsK h1,h2⟩⟩;have e0:Env0 P w K mg (Zjv s₁.heap H) lS [] s₁ H:=⟨rfl,hM,fun b o e=>Zhi e,mI (Zhh _ _),trivial,fun b hb=>absurd (show b∈([]:List Addr)from hb) (by simp),hok,.of_eq hg,.inl rfl,hTb⟩
  refine mD ((F _ hKb (nsK hns)).run lS [] s₁ H ⟨[.ref a],[]⟩ [.ref a] [.ref a] _ _ hr e0 (hbind s₁ (.ref a)) (.cons rfl .nil) (hsp H hS)) fun r s' h=>?_;cases r with
  |error e=>exact(hCX H e s' h).elim
  |ok fl=>
   cases fl with
   |next=>exact fP h
   |brk=>exact fP h
   |cont=>exact fP h
   |ret u=>
    obtain⟨v,H',os,bare,un,hok',r',q⟩:=h;have q':v=.bl true:=q;subst q';obtain rfl:u=mw true:=r';have fin:∀b o,s₁.heap.get? b=some o->asItWas s₁.heap s'.heap b o:=fun b o e=>by
     cases q:H b with
     |none=>exact .inl (un.keep b o e q (by intro z;exact absurd (show b∈([]:List Addr)from z) (by simp)) (by simp))
     |some u=>
      rcases hA b u q with⟨_,_,ob,xs,rfl⟩|⟨t,rfl⟩
      ·have z2:=un.frzs b ob _ q;obtain⟨e1,_⟩:=hok b _ q;obtain⟨e2,_⟩:=hok' b _ z2;rw[e]at e1;cases e1;exact .inl e2
      ·obtain⟨more,z2⟩:=un.tbls b _ q;have e2:=(hok' b _ z2).1;have e1:=tb t;rw[e]at e1;cases e1;obtain⟨c,oc,vs',f1,f2,f3,f4⟩:=t;exact .inr (.inl ⟨⟨c,oc,vs',KX _ _ f1,f2,f3,f4⟩,rfl,#[],more,rfl,e2⟩)
    refine⟨rfl,⟨fin,fun b o e=>?_⟩,os,bare⟩;rcases fin b o e with z|⟨_,_,vs',m,_,z⟩|⟨_,_,⟨o',_,_,z,_⟩,_⟩
    ·exact⟨_,z⟩
    ·exact⟨_,z⟩
    ·exact⟨_,z⟩
 have tok:∀H:Hp,∀b,TbP K b->H b=some (.tbl #[])->ZaW P w H s₁.heap b (.tbl #[]):=fun H b t _=>⟨tb t,eU,fun pos cv z=>by cases z⟩
 have na:¬TbP K a:=fun t=>by
  have:=tb t
  rw[ha]at this;cases this
 cases hk:K.lookup a with
 |some o=>
  have e:=KX a o hk;rw[ha]at e;cases e
  classical
  refine core (fun b=>if TbP K b then some (.tbl #[])else none) (.inr ⟨_,vs.toArray,_,hk,rfl,rfl,rfl,by rw[au,lenV];exact hl,by simpa using rv⟩) (fun b u z=>?_) (fun b u z=>?_) (fun b t=>⟨_,if_pos t⟩)
  ·by_cases t:TbP K b
   ·have z':=(if_pos t).symm.trans z;cases z';exact tok _ b t (if_pos t)
   ·have z':=(if_neg t).symm.trans z;cases z'
  ·by_cases t:TbP K b
   ·have z':=(if_pos t).symm.trans z;cases z';exact .inr ⟨t,rfl⟩
   ·have z':=(if_neg t).symm.trans z;cases z'
 |none=>
  classical
  let H:Hp:=fun b=>if b=a then some (.frz {cls:=.type "list",data:=.seq vs.toArray} (.lst (ns.map V.int)))else if TbP K b then some (.tbl #[])else none
  have hHa:H a=some (.frz {cls:=.type "list",data:=.seq vs.toArray} (.lst (ns.map V.int))):=if_pos rfl;have hHt:∀b,TbP K b->H b=some (.tbl #[]):=fun b t=>by
   show(if b=a then _ else if TbP K b then _ else _)=_
   have nb:b≠a:=fun z=>na (z▸t);rw[if_neg nb,if_pos t]
  have hHn:∀b,b≠a->¬TbP K b->H b=none:=fun b n t=>by
   show(if b=a then _ else if TbP K b then _ else _)=_
   rw[if_neg n,if_neg t]
  refine core H (.inl ⟨_,hHa⟩) (fun b u z=>?_) (fun b u z=>?_) (fun b t=>⟨_,hHt b t⟩)
  ·by_cases hb:b=a
   ·subst hb;rw[hHa]at z;cases z;exact⟨ha,by rw[aB];exact hl,vs,_,rv,ha⟩
   ·by_cases t:TbP K b
    ·rw[hHt b t]at z;cases z;exact tok _ b t (hHt b t)
    ·rw[hHn b hb t]at z;cases z
  ·by_cases hb:b=a
   ·subst hb;rw[hHa]at z;cases z;exact .inl ⟨rfl,hk,_,_,rfl⟩
   ·by_cases t:TbP K b
    ·rw[hHt b t]at z;cases z;exact .inr ⟨t,rfl⟩
    ·rw[hHn b hb t]at z;cases z
theorem Zkr{l:PySem.W.OpenLaw}{K T:lu->Fg}{CX:c8->CXT}{sp:c8->Sp}(hn:l.most=some n)(hn2:n<=sizeLine)(hdf:d.params.defaults=[])(hr:Room k lS)(hY:∀(w:c8)(h:Heap),YP w h->(K w.params).In h/\(T w.params).In h)(hT:∀w:c8,Zgq (K w.params) (T w.params)=true)(F:∀(w:c8)(mg:Str->Option ae)(fa:Addr)(h:Heap),(K w.params).In h->h.Ns aO mg->mg d.name=some (.ref fa)->∃fd:iS,(∀(s:aC)(u:ae),lQ s fd ⟨[u],[]⟩ [(x,u)])/\∀base:Heap,(K w.params).In base->base.Ns aO mg->FnOk l.prog w (K w.params) mg base (CX w) k fa fd [x] (sp w))(hsp:∀(w:c8)(H:Hp)(a:Addr)(ns:List Int),ns.length<=n->DL.SqF (K w.params) H a (ns.map V.int)->sp w [.ref a] H (fun v _=>v=.bl true) fun _ _ _=>False)(hCX:∀(w:c8)(H:Hp)(s:aC)(e:ae)(s':aC),CX w [] H s (fun _ _ _=>False) e s'->False):PySem.W.WalkO q loose XP YP l.row.toRowW d [] (fun f vs=>PySem.call f vs):=by
 refine Att.Zff hn hdf fun w s₀ s₁ mg mb fa o pm cd doc a vs ns G Y ho hd hcd hmg hobj hints hlen hg=>?_;obtain⟨KX,TX⟩:=hY w _ Y;obtain⟨fd,hb,hF⟩:=F w mg fa _ KX G.T.g hmg;exact Zit KX TX (hT w) G.T.g G.T.b G.T.builtins G.T.nolimit hg hobj hints (aT hlen hn2) hr hF hb (fun H hS=>hsp w H a ns hlen hS) fun H e s'=>hCX w H s₁ e s'
end L2
namespace DL
open PyProof.Rows L2
theorem Zm3{K:Fg}{ns:List Int}(hF:SqF K H a (ns.map V.int))(h:∃M',F [.rol (ns.map D.int)] []=.ok (.bl true) M'):spD K F [.ref a] H (fun v _=>v=.bl true) (fun _ _ _=>False):=by
 obtain⟨M',e⟩:=h;refine⟨[.rol (ns.map D.int)],[],[],.cons (.rol hF (Reps.ints ns)) .nil,HR.nil,?_⟩;rw[e];intro v H' α' _ _ r;cases r;rfl
theorem Zm4{K:Fg}(x:PySem.W.Frag.In (K++T) h):K.In h:=fun b o e=>x b o (by rw[List.lookup_append,e];rfl)
theorem Zks{K:Fg}(x:PySem.W.Frag.In (K++T) h)(d:T.all (fun p=>(K.lookup p.1).isNone)=true):T.In h:=fun b o e=>x b o (by
 have q:=bD.mp d _ (Zir e);rw[List.lookup_append,gm.mp q];exact e)
def ZrG(K:Fg)(x:Str):Bool:=match PySem.W.nsIn K aO x with
 |some (some (.ref f))=>(match K.lookup f with
  |some ⟨_,_,.func fd,_⟩=>ZeU K fd.code
  |_=>false)
 |_=>false
noncomputable def Zm5(K:Fg):Bool:=match PySem.W.nsIn K aO "__builtins__" with
 |some (some (.ref bm))=>(match K.lookup bm with
  |some ⟨.type n,some d,.plain,_⟩=>decide (n="module")&&decide (d=gM)&&decide (bm≠gM)&&decide (bm≠aO)
  |_=>false)
 |_=>false
theorem Zgr{K:Fg}(h:Zm5 K=true):Zsh K:=by
 unfold Zm5 at h
 split at h
 ·rename_i bm e1
  split at h
  ·rename_i n d sl e2;simp only[aS,decide_eq_true_eq]at h;obtain⟨⟨⟨rfl,rfl⟩,h3⟩,h4⟩:=h;exact⟨bm,_,e1,e2,rfl,rfl,rfl,h3,h4⟩
  ·cases h
 ·cases h
section
variable {P:cH}{K:Fg}{mg:Str->Option ae}
theorem ZpE{st:Stmt}(F:Fun K x qual st f fd)(hl:ZeU K fd.code=true)(S:FnScope N ps (Zq st))(hn:n=ps.length)(hm:m=N.length-n)(hb:∀(cdv:ae)(A:dR)(outer:List Env)(s:aC)(H:Hp)(E:XK),ZeU K cdv=true->Room k (A.deeper (jv qual (Zq st) s.heap.objs.size f cdv))->Thr (ZfY (CXE P w) P w K mg base N qual (Zq st) f cdv A outer s H E) E->DSs (ZfY (CXE P w) P w K mg base N qual (Zq st) f cdv A outer s H E) E (Zax st) g):FnOk P w K mg base (CXE P w) (k+1) f fd ps (spD K (fnF g n m)):=by
 obtain⟨oc,od,kV,doc,pm,an,cdv,ct,osl,rfl,lk,hcd⟩:=F.ex;refine ZoG lk hcd S (fun vs H Q E h=>?_) (fun A outer s H vs Q E hr h=>?_)
 ·obtain⟨ds,α,M,r,_,q⟩:=h;by_cases c:ds.length=n
  ·rw[r.length,c,hn]
  ·simp only[fnF,if_neg c]at q;exact q.elim
 ·obtain⟨ds,α,M,r,hh,q⟩:=h;obtain⟨t,p,w'⟩:=hb cdv A outer s H E hl hr Zk6;by_cases c:ds.length=n
  ·simp only[fnF,if_pos c]at q;refine⟨t,p,w' _ _ H α M _ (SR.start (N:=N) r (k:=m) (by rw[hm,c])) hh ?_⟩
   cases e:g (ds.map some++bw m none) M with
   |nx ρ' M'=>simp only[e]at q;exact fun σ' H' α' ex hr sr=>q _ H' α' ex hr .non
   |ret d M'=>simp only[e]at q;exact q
   |exc x M'=>simp only[e]at q;exact q
   |brk ρ' M'=>simp only[e]at q;exact q.elim
   |cnt ρ' M'=>simp only[e]at q;exact q.elim
   |bad=>simp only[e]at q;exact q.elim
  ·simp only[fnF,if_neg c]at q;exact q.elim
theorem Zln{st:Stmt}(D:Df K x st)(hl:ZrG K x=true)(gl:∀c v,PySem.W.nsIn K aO c=some (some v)->mg c=some v)(hb:∀(cdv:ae)(A:dR)(outer:List Env)(s:aC)(H:Hp)(E:XK)(f:Addr),ZeU K cdv=true->N.Nodup->Room k (A.deeper (jv x (Zq st) s.heap.objs.size f cdv))->Thr (ZfY (CXE P w) P w K mg base N x (Zq st) f cdv A outer s H E) E->DSs (ZfY (CXE P w) P w K mg base N x (Zq st) f cdv A outer s H E) E (Zax st) g)(h1:autoParam ((Zq st).kind=.function) Qrf._auto_1)(h2:autoParam ((Zq st).isCoroutine=false) Qrf._auto_1)(h3:autoParam ((Zq st).isGenerator=false) Qrf._auto_1)(h4:N.Nodup:=by decide +kernel)(h5:autoParam ((N.take n).length=n) Qrf._auto_1)(h6:∀y∈N.take n,(Zq st).names.lookup y=some .local\/(Zq st).names.lookup y=some .cell:=by decide +kernel)(h7:∀y∈(Zq st).names,y.2≠ .free:=by decide +kernel)(hm:autoParam (m=N.length-n) Qrf._auto_1)(bi:∀(kV doc pm:ae)(an:Option Addr)(cdv ct:ae)(us:List ae),us.length=n->iT (PySem.W.fnOf x x (Zbs st) (Zax st) (Zq st) .none kV doc pm an cdv ct) ⟨us,[]⟩=pure ((N.take n).zip us):=by first|exact fun _ _ _ _ _ _=>Zt1 fun _=>rfl|exact fun _ _ _ _ _ _=>Zt2 fun _ _=>rfl|exact fun _ _ _ _ _ _=>Zt3 fun _ _ _=>rfl):Cal P w K mg base x (k+1) n (fnF g n m):=by
 obtain⟨f,fd,a,F⟩:=D;have S:FnScope N (N.take n) (Zq st):=⟨h1,h2,h3,h4,by rw[h5],h6,h7⟩
 have hl':ZeU K fd.code=true:=by
  obtain⟨oc,od,kV,doc,pm,an,cdv,ct,osl,e,lk,hcd⟩:=F.ex;unfold ZrG at hl;rw[a]at hl;dsimp only at hl;rw[lk]at hl;exact hl
 exact⟨f,fd,N.take n,ZpE F hl' S h5.symm hm (fun cdv A outer s H E hc hr θ=>hb cdv A outer s H E f hc h4 hr θ),gl _ _ a,F.kp,h5,F.binds (fun kV doc pm an cdv ct us hu=>bi kV doc pm an cdv ct us (hu.trans h5))⟩
end
theorem Zt5(XN N:List Str)(dn:List (Str×dc))(fr:List Nat)(hN:autoParam (X.N=XN) Qrf._auto_1)(hd:autoParam (X.env.scope.names=dn) Qrf._auto_1)(hc:autoParam (X.env.cells=bR n dn []) Qrf._auto_1)(hk:autoParam (scope.kind=.function) Qrf._auto_1)(h:Zpc XN N dn scope.names 1 fr=true:=by decide +kernel)(hl:scope.names.all (fun y=>y.2 != .cell)=true:=by decide +kernel)(co:autoParam (scope.isCoroutine=false) Qrf._auto_1)(gen:autoParam (scope.isGenerator=false) Qrf._auto_1)(hx:scope.names.lookup x=some .local:=by decide +kernel)(n0:autoParam (N[0]?=some x) Qrf._auto_1):Lms X scope (clF scope X.env) x N fr:=by
 have B:=ZdK XN N dn 1 fr hN hd hc hk h;unfold Zpc at h;simp only[aS,bD,bne_iff_ne,ne_eq,Bool.or_eq_true,beq_iff_eq]at h hl;obtain⟨⟨h1,h2⟩,h3⟩:=h;refine⟨B.clos,hk,co,gen,hl,hx,B.sub,fun y z=>?_,n0,B.len,fun j i e=>?_⟩
 ·rcases z with z|z
  ·exact absurd rfl (hl _ (PySem.mem_of_lookup z))
  ·obtain⟨kd,r1,r2⟩:=ZaM (env:=X.env) z;obtain⟨c,hc⟩:=B.has 0 y (by
    rcases r1 with r1|r1
    ·exact .inl (r1▸r2)
    ·exact .inr (r1▸r2))
   rw[Zaq]at hc;rcases ZcO hc with q|q
   ·exact absurd rfl (hl _ (Za5 _ _ _ _ (PySem.mem_of_lookup q)))
   ·exact⟨c,q.2⟩
 ·obtain⟨y,a1,a2,a3,a4,a5,_⟩:=B.at_ j i e;refine⟨y,a1,a2,a3,?_,a5⟩;have q:=h3 j (bv.mpr (aq.mp e).1);rw[e]at q;dsimp only at q;rw[a1,<-hN,a2]at q;simp only[aS,beq_iff_eq]at q;exact q.1.2
end DL
namespace DL
open PyProof.Rows L2
theorem Reps.tk{K:Fg}{H:Hp}{α:List Addr}:∀{vs:List V}{ds:List D}(i:Nat),Reps K H α vs ds->Reps K H α (vs.take i) (ds.take i)
 |_,_,0,_=>.nil
 |_,_,_+1,.nil=>.nil
 |_,_,i+1,.cons r t=>.cons r (Reps.tk i t)
theorem Reps.dp{K:Fg}{H:Hp}{α:List Addr}:∀{vs:List V}{ds:List D}(i:Nat),Reps K H α vs ds->Reps K H α (vs.drop i) (ds.drop i)
 |_,_,0,h=>h
 |_,_,_+1,.nil=>.nil
 |_,_,i+1,.cons _ t=>Reps.dp i t
end DL
namespace DL
open PyProof.Rows L2
end DL
namespace DL
open L2
end DL
namespace DQ
open PyProof.Rows
end DQ
namespace DL
open PyProof.Rows L2
end DL
namespace SX
open PySem.Builtin.Str DL
noncomputable def stp(s:Str)(c L:Nat)(b:Array Nat×Nat)(a:Nat):Array Nat×Nat:=if(decide (b.1.size<L)&&decide (b.2<=a)&&decide (a+1<=s.length)&&subAt s ⟨#[c]⟩ a)=true then(b.1.push a,a+1)else(b.1,b.2)
end SX
namespace DL
open PyProof.Rows L2 SX
def okT(z:Str)(lo hi:Option Int):Prop:=0<=lo.getD 0/\lo.getD 0<=hi.getD z.cps.toList.length/\hi.getD z.cps.toList.length<=z.cps.toList.length
instance (z:Str) (lo hi:Option Int):Decidable (okT z lo hi):=by unfold okT;infer_instance
end DL
namespace DQ
open PyProof.Rows
open Builtin Builtin.ObjectAttr
open PySem.W (Looks findIn mroIn specialIn takesIn clsIn looks_findIn looks_mroIn looks_find findObj handedIn hasDictIn lookIn)
end DQ
namespace DL
open PyProof.Rows L2
open PySem.W (nsIn excIn tailIn nsOkIn mroIn clsIn typeIn findIn specialIn takesIn hasDictIn readsIn findCls handedIn)
end DL
namespace DL
open PyProof.Rows L2
open PySem.W (nsIn excIn tailIn nsOkIn mroIn clsIn typeIn findIn specialIn takesIn kitOne Looks looks_mroIn looks_typeIn exmAny exm_tup2)
end DL
namespace DL
open PyProof.Rows L2
theorem Zm6(hl:ds.length=n)(h:g (ds.map some++bw k none) M=.ret d M'):fnF g n k ds M=.ok d M':=by
 unfold fnF;rw[if_pos hl,h]
theorem Ziu{M1:Sto}(e:g ρ M=.nx ρ1 M1):ZB g h ρ M=h ρ1 M1:=by
 unfold ZB;rw[e]
theorem Ziv(h1: -(2^64)<j)(h2:j<2^64):Zs i j:=.inr (.inl (intBits_le_64 h1 h2))
theorem Ziw(h1: -(2^64)<i)(h2:i<2^64):Zs i j:=.inl (intBits_le_64 h1 h2)
theorem at0{x:D}:atI (x::r) 0=some x:=by
 show(ixN (r.length+1) 0).bind _=_;unfold ixN;rw[if_pos (by decide),if_pos (by lia)]
 rfl
theorem at1{x:D}:atI (x::y::r) 1=some y:=by
 show(ixN (r.length+2) 1).bind _=_;unfold ixN;rw[if_pos (by decide),if_pos (by lia)]
 rfl
theorem ix0:ixN (n+1) 0=some 0:=by
 unfold ixN;rw[if_pos (by decide),if_pos (by lia)]
 rfl
theorem ix1:ixN (n+2) 1=some 1:=by
 unfold ixN;rw[if_pos (by decide),if_pos (by lia)]
 rfl
theorem Zkt{ns:List Int}(h:k<ns.length):atI (ns.map D.int) (k:Int)=some (.int ns[k]):=Zmn (by rw[bB,af h];rfl)
theorem Zgs{ρ:Ro}(h:ρ[i]?=some x):ρ.set i x=ρ:=by
 apply iq;intro k;by_cases hk:k=i
 ·subst hk;rw[aN (aq.mp h).1,h]
 ·rw[aM (bV hk)]
def cEu(i j:Nat):Sv:=Zfh i j (Zc (Zf j) (Zc (e2 dMod (Zf i) (Zf j)) aNil))
theorem ZpF{c:Tv}{i j:Nat}{M:Sto}(hij:i≠j)(hc:∀(ρ:Ro)(b:Nat),ρ[j]?=some (some (.int b))->c ρ M=.ok (decide (b≠0)) M):∀(b a:Nat)(ρ:Ro),ρ[i]?=some (some (.int a))->ρ[j]?=some (some (.int b))->sWh c (cEu i j) ρ M=.nx ((ρ.set i (some (.int (jR a b:Nat)))).set j (some (.int 0))) M:=by
 intro b
 induction b using kM with
 |ind b ih=>
  intro a ρ hi hj;by_cases h0:b=0
  ·subst h0;rw[ZeE (M1:=M) (by rw[hc ρ 0 hj];rfl),Nat.gcd_zero_right,Zgs hi,Zgs (x:=some (.int 0)) hj]
  ·have hl:i<ρ.length:=(aq.mp hi).1;have hl2:j<ρ.length:=(aq.mp hj).1;have ht:c ρ M=.ok true M:=by rw[hc ρ b hj,decide_eq_true h0]
   have hb:cEu i j ρ M=.nx ((ρ.set i (some (.int b))).set j (some (.int (a%b:Nat)))) M:=by
    have hb0:¬(b:Int)=0:=by lia
    have hm:(a:Int).fmod (b:Int)=((a%b:Nat):Int):=by rw[jF _ (by lia)];rfl
    simp[cEu,Zfh,Zc,aNil,Zf,e2,dMod,Out.bind,ZaF,hi,hj,hb0,hm,h0]
   have g1:((ρ.set i (some (.int b))).set j (some (.int (a%b:Nat))))[i]?=some (some (.int b)):=by
    rw[aM (bV hij),aN hl]
   have g2:((ρ.set i (some (.int b))).set j (some (.int (a%b:Nat))))[j]?=some (some (.int (a%b:Nat))):=by
    rw[aN (by simpa using hl2)]
   have q:=ih (a%b) (kD _ (by lia)) b _ g1 g2
   rw[Zga ht hb (by rw[q];intro z;cases z),q]
   have eg:jR b (a%b)=jR a b:=by rw[Nat.gcd_comm b,<-Nat.gcd_rec,Nat.gcd_comm]
   rw[eg,List.set_comm _ _ (bV hij),List.set_set,List.set_set]
theorem ZpG:eqF 12 M (.int a) (.int b)=some (a==b):=rfl
theorem ne0(ρ:Ro)(b:Nat)(h:ρ[j]?=some (some (.int b))):tv (e2 dNe (Zf j) (eC (.int 0))) ρ M=.ok (decide (b≠0)) M:=by
 simp[tv,e2,Zf,eC,h,Out.bind,dNe,ZpG];by_cases c:b=0
 ·subst c;rfl
 ·have:¬(b:Int)=0:=by lia
  simp[c,this]
theorem Zix(a:Int):(if a<0 then -a else a)=(a.natAbs:Int):=by split<;>lia
def Zvg:Sv:=(ZB (Zfh 2 3 (Zc (Zj bAbs (Zc (Zf 0) aNil)) (Zc (Zj bAbs (Zc (Zf 1) aNil)) aNil))) (ZB (sWh (tv (e2 dNe (Zf 3) (eC (.int 0)))) (Zfh 2 3 (Zc (Zf 3) (Zc (e2 dMod (Zf 2) (Zf 3)) aNil)))) (Z9 (Zf 2))))
def FGcd:W3:=fnF Zvg 2 2
theorem Zlo(a b:Int)(M:Sto):FGcd [.int a,.int b] M=.ok (.int (gk a b:Nat)) M:=by
 refine Zm6 rfl ?_;refine(Ziu (ρ1:=[some (.int a),some (.int b),some (.int (a.natAbs:Nat)),some (.int (b.natAbs:Nat))]) (M1:=M) ?_).trans ?_
 ·simp[fnF,ZB,sNil,Z9,Zo6,Za4,sIf,ZJ,Zfh,Zu7,ZaF,gNm,gNl,gCs,gTp,DL.e2,Zf,eC,Z5,Zdt,Zj,Zc,aNil,tv,ZbL,Zel,Zcd,ZgX,Zu4,ZhH,eIf,ZbM,Zjy,Out.bind,dAdd,dSub,dMul,dDiv,dMod,dPow,dLt,dLe,dGt,dGe,dIx,atD,at0,at1,ix0,ix1,bLen,bAbs,bMax,bMin,Zr4,bList,ZgY,ZaZ,kd,ZcL,dIs,dIsNot,isP,Zix]
 ·have q:=ZpF (c:=tv (e2 dNe (Zf 3) (eC (.int 0)))) (i:=2) (j:=3) (M:=M) (by decide) ne0 b.natAbs a.natAbs [some (.int a),some (.int b),some (.int (a.natAbs:Nat)),some (.int (b.natAbs:Nat))] rfl rfl
  refine(Ziu q).trans ?_;rfl
end DL
namespace DL
open PyProof.Rows L2
noncomputable def wO(o:Out β)(Q:β->Sto->Prop)(E:W2):Prop:=match o with
 |.ok a M=>Q a M
 |.exc c M=>E c M
 |.bad=>False
def wS(f:Fl)(N:W1)(R:W0)(B C:W1)(E:W2):Prop:=match f with
 |.nx ρ M=>N ρ M
 |.ret d M=>R d M
 |.brk ρ M=>B ρ M
 |.cnt ρ M=>C ρ M
 |.exc c M=>E c M
 |.bad=>False
noncomputable def Br(k:Bool)(A B:Prop):Prop:=(k=true->A)/\(k=false->B)
noncomputable def wG{β:Type}(o:Option β)(N:β->Prop):Prop:=match o with|some ρ=>N ρ|none=>False
noncomputable def wV(o:Option (Option D))(Q:D->Prop):Prop:=match o with|some (some d)=>Q d|_=>False
noncomputable def wI(x:D)(Q:Int->Prop):Prop:=match x with|.int i=>Q i|_=>False
noncomputable def wR(x:D)(Q:Nat->Prop):Prop:=match x with|.ref i=>Q i|_=>False
noncomputable def w1(x:List D)(Q:D->Prop):Prop:=match x with|[v]=>Q v|_=>False
noncomputable def w2(x:List D)(Q:D->D->Prop):Prop:=match x with|[v,w]=>Q v w|_=>False
noncomputable def wL(o:Option SO)(Q:List D->Prop):Prop:=match o with|some (.lst xs)=>Q xs|none=>False
section
variable {β:Type}{QG:β->Prop}{y:β}
theorem Zvh:w1 [d] Q=Q d:=rfl
theorem Zvi:w2 [d,x] Q2=Q2 d x:=rfl
theorem Zvj:wV (some (some d)) Q=Q d:=rfl
theorem Zvk:wI (.int i) QI=QI i:=rfl
theorem Zvl:wR (.ref n) QR=QR n:=rfl
theorem Zvm:wL (some (.lst xs)) QL=QL xs:=rfl
theorem Zvn:wG (some y) QG=QG y:=rfl
end
section
variable {β:Type}{Q:β->Sto->Prop}{M:Sto}{A A':Prop}
theorem Zm{d:β}:wO (.ok d M) Q E=Q d M:=rfl
theorem ZpH:wO (.exc c M:Out β) Q E=E c M:=rfl
theorem ZpI:Br true A A'=A:=by simp[Br]
theorem Zsl:Br false A A'=A':=by simp[Br]
theorem br(h1:k=true->A)(h2:k=false->A'):Br k A A':=⟨h1,h2⟩
theorem brD{p:Prop}[Decidable p](h1:p->A)(h2:¬p->A'):Br (decide p) A A':=⟨fun h=>h1 (of_decide_eq_true h),fun h=>h2 (of_decide_eq_false h)⟩
theorem Zd8{o:Out β}{Q':β->Sto->Prop}(h:wO o Q E)(hq:∀d M,Q d M->Q' d M)(he:∀c M,E c M->E' c M):wO o Q' E':=by
 cases o with
 |ok d M=>exact hq d M h
 |exc c M=>exact he c M h
 |bad=>exact h
theorem Zgt{o:Out β}(h:wO o Q (fun _ _=>False)):∃d M',o=.ok d M'/\Q d M':=by
 cases o with
 |ok d M=>exact⟨d,M,rfl,h⟩
 |exc c M=>exact h.elim
 |bad=>exact h.elim
theorem ZE{o:Out γ}{f:γ->Sto->Out β}:wO (o.bind f) Q E=wO o (fun x M1=>wO (f x M1) Q E) E:=by cases o<;>rfl
end
section
variable {E:W2}{N B C:W1}{R:W0}{ρ:Ro}{M:Sto}{e f:Ev}
theorem Zsm:wO (e2 op f g ρ M) Q E=wO (f ρ M) (fun x M1=>wO (g ρ M1) (fun y M2=>wO (op x y M2) Q E) E) E:=by
 unfold e2;rw[ZE];congr 1;funext x M1;rw[ZE]
theorem Zvo:wO (Zf i ρ M) Q E=wV ρ[i]? (fun d=>Q d M):=by
 unfold Zf;cases ρ[i]? with
 |none=>rfl
 |some o=>cases o<;>rfl
theorem Zm7:wO (Zj F fs ρ M) Q E=wO (fs ρ M) (fun ds M1=>wO (F ds M1) Q E) E:=ZE
theorem Zm8:wO (Zc f fs ρ M) Q E=wO (f ρ M) (fun x M1=>wO (fs ρ M1) (fun xs M2=>Q (x::xs) M2) E) E:=by
 unfold Zc;rw[ZE];congr 1;funext x M1;rw[ZE];congr 1
theorem ZpJ:wO (Z5 fs ρ M) Q E=wO (fs ρ M) (fun xs M1=>xs.length<=1000/\Q (.tup xs) M1) E:=by
 unfold Z5;rw[ZE];congr 1;funext x M1;by_cases h:x.length<=1000
 ·rw[if_pos h];simp[h,wO]
 ·rw[if_neg h];simp[h,wO]
theorem ZpK:wO (Zdt fs ρ M) Q E=wO (fs ρ M) (fun xs M1=>xs.length<=1000/\Q (.ref M1.length) (M1++[.lst xs])) E:=by
 unfold Zdt;rw[ZE];congr 1;funext x M1;by_cases h:x.length<=1000
 ·rw[if_pos h];simp[h,wO]
 ·rw[if_neg h];simp[h,wO]
theorem ZpL:wO (Zcd t ρ M) Q E=wO (t ρ M) (fun k M1=>Q (!k) M1) E:=by
 unfold Zcd;rw[ZE];congr 1
theorem ZpM:wS (ZB a b ρ M) N R B C E=wS (a ρ M) (fun ρ1 M1=>wS (b ρ1 M1) N R B C E) R B C E:=by
 unfold ZB;cases a ρ M<;>rfl
theorem Zaa{o:Out β}{k:β->Sto->Fl}:wS (ZaF o k) N R B C E=wO o (fun x M1=>wS (k x M1) N R B C E) E:=by cases o<;>rfl
theorem ZpN:wS (Z9 f ρ M) N R B C E=wO (f ρ M) R E:=Zaa
theorem Zm9:wS (Za4 f ρ M) N R B C E=wO (f ρ M) (fun _ M1=>N ρ M1) E:=Zaa
theorem ZpO:wS (ZJ (gNm i) f ρ M) N R B C E=wO (f ρ M) (fun d M1=>N (ρ.set i (some d)) M1) E:=Zaa
theorem Zna:wS (ZJ (gTp gs) f ρ M) N R B C E=wO (f ρ M) (fun d M1=>wG (gTp gs d ρ) (fun r=>N r M1)) E:=by
 unfold ZJ;rw[Zaa];congr 1;funext d M1;cases gTp gs d ρ<;>rfl
theorem ZpP:wS (Zfh i j fs ρ M) N R B C E=wO (fs ρ M) (fun ds M1=>w2 ds fun v w=>N ((ρ.set i (some v)).set j (some w)) M1) E:=by
 unfold Zfh;rw[Zaa];congr 1;funext ds M1;rcases ds with _|⟨v,_|⟨w,_|⟨z,r⟩⟩⟩<;>rfl
theorem wF(hl:ds.length=n):wO (fnF a n k ds M) Q E=wS (a (ds.map some++bw k none) M) (fun _ M1=>Q .non M1) Q (fun _ _=>False) (fun _ _=>False) E:=by
 unfold fnF;rw[if_pos hl];cases a (ds.map some++bw k none) M<;>rfl
theorem Ziy(h:wS o N R B C E)(hn:∀ρ M,N ρ M->N' ρ M)(hr:∀d M,R d M->R' d M)(hb:∀ρ M,B ρ M->B' ρ M)(hc:∀ρ M,C ρ M->C' ρ M)(he:∀c M,E c M->E' c M):wS o N' R' B' C' E':=by
 cases o with
 |nx ρ M=>exact hn _ _ h
 |ret ρ M=>exact hr _ _ h
 |brk ρ M=>exact hb _ _ h
 |cnt ρ M=>exact hc _ _ h
 |exc ρ M=>exact he _ _ h
 |bad=>exact h
variable {tg:Tg}{bd:Sv}
theorem Zft(I:Nat->Ro->Sto->Prop):∀(xs:List D)(k:Nat)(ρ:Ro)(M:Sto),I k ρ M->(∀i ρ M (h:i<xs.length),I (k+i) ρ M->wG (tg xs[i] ρ) fun r=>wS (bd r M) (I (k+i+1)) R N (I (k+i+1)) E)->(∀ρ M,I (k+xs.length) ρ M->N ρ M)->wS (ZbE tg bd xs ρ M) N R B C E
 |[],k,ρ,M,h,_,hn=>hn ρ M h
 |x::xs,k,ρ,M,h,st,hn=>by
  have s:=st 0 ρ M (by simp) h
  unfold ZbE;simp only[ix,Nat.add_zero]at s;cases e:tg x ρ with
  |none=>rw[e]at s;exact s.elim
  |some ρ1=>
   rw[e]at s;simp only[wG]at s;have rc:∀ρ2 M2,I (k+1) ρ2 M2->wS (ZbE tg bd xs ρ2 M2) N R B C E:=fun ρ2 M2 h2=>Zft I xs (k+1) ρ2 M2 h2 (fun i ρ M hi hI=>by
    have z:=st (i+1) ρ M (by simp;lia) (by rw[show k+(i+1)=k+1+i by lia];exact hI)
    simp only[kE]at z;rw[show k+(i+1)+1=k+1+i+1 by lia]at z
    exact z) (fun ρ M hI=>hn ρ M (by rw[show k+(x::xs).length=k+1+xs.length by simp;lia];exact hI))
   cases eg:bd ρ1 M<;>rw[eg]at s<;>simp only[eg]
   ·exact rc _ _ s
   ·exact s
   ·exact s
   ·exact rc _ _ s
   ·exact s
   ·exact s
theorem Znb:wS (ZbH tg fs bd ρ M) N R B C E=wO (fs ρ M) (fun ds M1=>w1 ds fun d=>wI d fun j=>(-(2^62)<=j/\j<2^62)/\wS (ZbE tg bd (Zbp 0 j.toNat) ρ M1) N R B C E) E:=by
 unfold ZbH;rw[Zaa];congr 1;funext ds M1;rcases ds with _|⟨v,_|⟨w,r⟩⟩
 ·rfl
 ·cases v<;>try rfl
  rename_i j;by_cases h: -(2^62)<=j/\j<2^62
  ·simp only[w1,wI,eq_true h,true_and,if_true]
  ·simp only[w1,wI,eq_false h,false_and,if_false];rfl
 ·cases v<;>rfl
theorem Zb2(I:Nat->Ro->Sto->Prop){lo:Int}(h0:I 0 ρ M)(st:∀i ρ M,i<n->I i ρ M->wG (tg (.int (lo+i)) ρ) fun r=>wS (bd r M) (I (i+1)) R N (I (i+1)) E)(hn:∀ρ M,I n ρ M->N ρ M):wS (ZbE tg bd (Zbp lo n) ρ M) N R B C E:=by
 have hl:(Zbp lo n).length=n:=by simp[Zbp]
 refine Zft I _ 0 ρ M h0 (fun i ρ M h hI=>?_) (fun ρ M hI=>hn ρ M (by rw[hl,gj]at hI;exact hI))
 have:(Zbp lo n)[i]=.int (lo+i):=by simp[Zbp]
 rw[this];rw[gj]at *;exact st i ρ M (by rw[hl]at h;exact h) hI
theorem ZpQ:wS (Zj0 tg f bd ρ M) N R B C E=wO (f ρ M) (fun d M1=>wS (Zk7 tg bd d ρ M1) N R B C E) E:=Zaa
theorem Znc(I:Nat->Ro->Sto->Prop){n:Nat}{xs:List D}:∀(f i:Nat)(ρ:Ro)(M:Sto),i+f=xs.length->I i ρ M->(∀i ρ M,I i ρ M->M[n]?=some (.lst xs))->(∀i ρ M (h:i<xs.length),I i ρ M->wG (tg xs[i] ρ) fun r=>wS (bd r M) (I (i+1)) R N (I (i+1)) E)->(∀ρ M,I xs.length ρ M->N ρ M)->wS (Zg9 tg bd n f i ρ M) N R B C E:=by
  intro f
  induction f with
  |zero=>
   intro i ρ M e h hm st hn;have hx:=hm _ _ _ h;unfold Zg9;rw[hx]
   have:xs[i]?=none:=a9 (by lia)
   simp only[this];exact hn ρ M (by rw[show xs.length=i by lia];exact h)
  |succ f ih=>
   intro i ρ M e h hm st hn;have hx:=hm _ _ _ h;unfold Zg9;rw[hx];have hi:i<xs.length:=by lia
   have:xs[i]?=some xs[i]:=Gq hi
   simp only[this];have s:=st i ρ M hi h;cases e:tg xs[i] ρ with
   |none=>rw[e]at s;exact s.elim
   |some ρ1=>
    rw[e]at s;simp only[wG]at s;have rc:∀ρ2 M2,I (i+1) ρ2 M2->wS (Zg9 tg bd n f (i+1) ρ2 M2) N R B C E:=fun ρ2 M2 h2=>ih (i+1) ρ2 M2 (by lia) h2 hm st hn
    cases eg:bd ρ1 M<;>rw[eg]at s<;>simp only[eg]
    ·exact rc _ _ s
    ·exact s
    ·exact s
    ·exact rc _ _ s
    ·exact s
    ·exact s
theorem Zda(I:Nat->Ro->Sto->Prop)(hM:M[n]?=some (.lst xs))(h0:I 0 ρ M)(hm:∀i ρ M,I i ρ M->M[n]?=some (.lst xs))(st:∀i ρ M (h:i<xs.length),I i ρ M->wG (tg xs[i] ρ) fun r=>wS (bd r M) (I (i+1)) R N (I (i+1)) E)(hn:∀ρ M,I xs.length ρ M->N ρ M):wS (Zk7 tg bd (.ref n) ρ M) N R B C E:=by
 show wS (match M[n]? with|some (.lst xs)=>Zg9 tg bd n xs.length 0 ρ M|none=>.bad) N R B C E
 rw[hM];exact Znc I xs.length 0 ρ M (by lia) h0 hm st hn
theorem Znd:wS (Zfm tg fi bd ρ M) N R B C E=wO (fi ρ M) (fun src M1=>wS (Zfl tg bd src (cnt src M1) 0 ρ M1) N R B C E) E:=Zaa
theorem Zlp(I:Nat->Ro->Sto->Prop){src:Src}{xs:List D}:∀(f i:Nat)(ρ:Ro)(M:Sto),i<=xs.length->xs.length<=i+f->I i ρ M->(∀i ρ M,i<=xs.length->I i ρ M->nxt src i M=some xs[i]?)->(∀i ρ M (h:i<xs.length),I i ρ M->wG (tg xs[i] ρ) fun r=>wS (bd r M) (I (i+1)) R N (I (i+1)) E)->(∀ρ M,I xs.length ρ M->N ρ M)->wS (Zfl tg bd src f i ρ M) N R B C E:=by
  intro f
  induction f with
  |zero=>
   intro i ρ M le e h hm st hn;have hx:=hm _ _ _ le h;unfold Zfl;rw[hx];have hi:¬i<xs.length:=by lia
   have:xs[i]?=none:=a9 (by lia)
   simp only[this];exact hn ρ M (by rw[show xs.length=i by lia];exact h)
  |succ f ih=>
   intro i ρ M le e h hm st hn;have hx:=hm _ _ _ le h;unfold Zfl;rw[hx];by_cases hi:i<xs.length
   ·have:xs[i]?=some xs[i]:=Gq hi
    simp only[this];have s:=st i ρ M hi h;cases e:tg xs[i] ρ with
    |none=>rw[e]at s;exact s.elim
    |some ρ1=>
     rw[e]at s;simp only[wG]at s;have rc:∀ρ2 M2,I (i+1) ρ2 M2->wS (Zfl tg bd src f (i+1) ρ2 M2) N R B C E:=fun ρ2 M2 h2=>ih (i+1) ρ2 M2 (by lia) (by lia) h2 hm st hn
     cases eg:bd ρ1 M<;>rw[eg]at s<;>simp only[eg]
     ·exact rc _ _ s
     ·exact s
     ·exact s
     ·exact rc _ _ s
     ·exact s
     ·exact s
   ·have:xs[i]?=none:=a9 (by lia)
    simp only[this];exact hn ρ M (by rw[show xs.length=i by lia];exact h)
theorem Zku{c:Tv}(I:Nat->Ro->Sto->Prop)(st:∀n ρ M,I n ρ M->wO (c ρ M) (fun k M1=>Br k (wS (bd ρ M1) (fun ρ2 M2=>∃m,m<n/\I m ρ2 M2) R N (fun ρ2 M2=>∃m,m<n/\I m ρ2 M2) E) (N ρ M1)) E):∀(n:Nat)(ρ:Ro)(M:Sto),I n ρ M->wS (sWh c bd ρ M) N R B C E:=by
 intro n
 induction n using kM with
 |ind n ih=>
  intro ρ M h;have s:=st n ρ M h;cases ec:c ρ M with
  |bad=>rw[ec]at s;exact s.elim
  |exc x M1=>rw[ec]at s;rw[ZcA (n:=1) (o:=.exc x M1) (by simp only[whN,ec])];exact s
  |ok k M1=>
   rw[ec]at s;cases k with
   |false=>
    rw[Zm,Zsl]at s;rw[ZeE ec];exact s
   |true=>
    rw[Zm,ZpI]at s;cases eg:bd ρ M1 with
    |nx ρ2 M2=>
     rw[eg]at s;obtain⟨m,hm,hI⟩:=s;have r:=ih m hm ρ2 M2 hI;rw[Zga ec eg (by intro z;rw[z]at r;exact r)]
     exact r
    |cnt ρ2 M2=>
     rw[eg]at s;obtain⟨m,hm,hI⟩:=s;have r:=ih m hm ρ2 M2 hI;have nb:sWh c bd ρ2 M2≠ .bad:=by intro z;rw[z]at r;exact r
     obtain⟨j,ej⟩:=ZhS nb;rw[ZcA (n:=j+1) (o:=sWh c bd ρ2 M2) (by simp only[whN,ec,eg];exact ej)]
     exact r
    |brk ρ2 M2=>rw[eg]at s;rw[ZcA (n:=1) (o:=.nx ρ2 M2) (by simp only[whN,ec,eg])];exact s
    |ret d M2=>rw[eg]at s;rw[ZcA (n:=1) (o:=.ret d M2) (by simp only[whN,ec,eg])];exact s
    |exc d M2=>rw[eg]at s;rw[ZcA (n:=1) (o:=.exc d M2) (by simp only[whN,ec,eg])];exact s
    |bad=>rw[eg]at s;exact s.elim
theorem Zne:wO (Zai fi k fr tg c f ρ M) Q E=wO (fi ρ M) (fun src M1=>wO (Zgc src tg c f M1.length (cnt src M1) 0 (roB k fr ρ) (M1++[.lst []])) (fun _ M2=>Q (.ref M1.length) M2) (fun _ _=>False)) E:=by
 unfold Zai;rw[ZE];congr 1;funext src M1;cases Zgc src tg c f M1.length (cnt src M1) 0 (roB k fr ρ) (M1++[.lst []])<;>rfl
theorem Ziz(I:Nat->Ro->Sto->Prop){src:Src}{xs:List D}{c:Tv}{m:Nat}{Q:Sto->Prop}:∀(fu i:Nat)(ρ:Ro)(M:Sto),i<=xs.length->xs.length<=i+fu->I i ρ M->(∀i ρ M,i<=xs.length->I i ρ M->nxt src i M=some xs[i]?)->(∀i ρ M (h:i<xs.length),I i ρ M->wG (tg xs[i] ρ) fun r=>wO (c r M) (fun k M1=>Br k (wO (f r M1) (fun y M2=>wL M2[m]? fun ys=>ys.length<10000000/\I (i+1) r (M2.set m (.lst (ys++[y])))) (fun _ _=>False)) (I (i+1) r M1)) (fun _ _=>False))->(∀ρ M,I xs.length ρ M->Q M)->wO (Zgc src tg c f m fu i ρ M) (fun _ M2=>Q M2) (fun _ _=>False):=by
  intro fu
  induction fu with
  |zero=>
   intro i ρ M le e h hm st hn;have hx:=hm _ _ _ le h;unfold Zgc;rw[hx];have hi:¬i<xs.length:=by lia
   have:xs[i]?=none:=a9 (by lia)
   simp only[this];exact hn ρ M (by rw[show xs.length=i by lia];exact h)
  |succ fu ih=>
   intro i ρ M le e h hm st hn;have hx:=hm _ _ _ le h;unfold Zgc;rw[hx];by_cases hi:i<xs.length
   ·have:xs[i]?=some xs[i]:=Gq hi
    simp only[this];have s:=st i ρ M hi h;cases e:tg xs[i] ρ with
    |none=>rw[e]at s;exact s.elim
    |some ρ1=>
     rw[e]at s;simp only[wG]at s;have rc:∀ρ2 M2,I (i+1) ρ2 M2->wO (Zgc src tg c f m fu (i+1) ρ2 M2) (fun _ M2=>Q M2) (fun _ _=>False):=fun ρ2 M2 h2=>ih (i+1) ρ2 M2 (by lia) (by lia) h2 hm st hn
     cases ec:c ρ1 M with
     |bad=>rw[ec]at s;exact s.elim
     |exc _ _=>rw[ec]at s;exact s.elim
     |ok k M1=>
      rw[ec]at s;rw[Zm]at s;cases k with
      |false=>
       rw[Zsl]at s;simp only[ec];exact rc _ _ s
      |true=>
       rw[ZpI]at s;simp only[ec];cases ef:f ρ1 M1 with
       |bad=>rw[ef]at s;exact s.elim
       |exc _ _=>rw[ef]at s;exact s.elim
       |ok y M2=>
        rw[ef,Zm]at s;simp only[ef];cases ey:M2[m]? with
        |none=>rw[ey]at s;exact s.elim
        |some o=>
         cases o with
         |lst ys=>
          rw[ey]at s;simp only[wL,ey]at s ⊢;rw[if_pos s.1];exact rc _ _ s.2
   ·have:xs[i]?=none:=a9 (by lia)
    simp only[this];exact hn ρ M (by rw[show xs.length=i by lia];exact h)
end
end DL
namespace DL
open PyProof.Rows L2
section
variable {M:Sto}{n:Nat}{lo:Ro->Sto->Out (Option Int)}
theorem ZeZ(h: -(18446744073709551616)<i/\i<18446744073709551616):Zs i j:=Ziw h.1 h.2
theorem Zd9(h: -(18446744073709551616)<j/\j<18446744073709551616):Zs i j:=Ziv h.1 h.2
theorem Ze0(h:0<j/\j<18446744073709551616):ZaR j:=by
 refine⟨by lia,?_⟩
 have:j.natAbs.log2<64:=(Nat.log2_lt (by lia)).mpr (by lia)
 lia
theorem Zsn:wO (dAdd (.int i) (.int j) M) Q E=Q (.int (i+j)) M:=rfl
theorem Zso:wO (dSub (.int i) (.int j) M) Q E=Q (.int (i-j)) M:=rfl
theorem ZG(h:Zs i j):wO (dMul (.int i) (.int j) M) Q E=Q (.int (i*j)) M:=by
 show wO (if Zs i j then _ else _) Q E=_
 rw[if_pos h];rfl
theorem Zsp(h: -(18446744073709551616)<i/\i<18446744073709551616):wO (dMul (.int i) (.int j) M) Q E=Q (.int (i*j)) M:=ZG (ZeZ h)
theorem ZpR(h: -(18446744073709551616)<j/\j<18446744073709551616):wO (dMul (.int i) (.int j) M) Q E=Q (.int (i*j)) M:=ZG (Zd9 h)
theorem Zsq(h:0<j/\j<18446744073709551616):wO (dDiv (.int i) (.int j) M) Q E=Q (.int (i/j)) M:=by
 show wO (if ZaR j then _ else _) Q E=_
 rw[if_pos (Ze0 h),jG _ (by lia)];rfl
theorem Zsr(h:0<j):wO (dMod (.int i) (.int j) M) Q E=Q (.int (i%j)) M:=by
 show wO (if j≠0 then _ else _) Q E=_
 rw[if_pos (by lia),jF _ (by lia)];rfl
theorem Zss(h:0<=j/\j<=1000000/\i.natAbs<18446744073709551616):wO (dPow (.int i) (.int j) M) Q E=Q (.int (i^j.toNat)) M:=by
 show wO (if 0<=j/\j<=1000000/\i.natAbs<2^64 then _ else _) Q E=_
 rw[if_pos ⟨h.1,h.2.1,by lia⟩];rfl
theorem Zvp:wO (dLt (.int i) (.int j) M) Q E=Q (.bl (decide (i<j))) M:=rfl
theorem Zvq:wO (dLe (.int i) (.int j) M) Q E=Q (.bl (decide (i<=j))) M:=rfl
theorem Zvr:wO (dGt (.int i) (.int j) M) Q E=Q (.bl (decide (j<i))) M:=rfl
theorem Zvs:wO (dGe (.int i) (.int j) M) Q E=Q (.bl (decide (j<=i))) M:=rfl
theorem Zst:wO (dAdd (.ref n) (.ref m) M) Q E=wL M[n]? fun xs=>wL M[m]? fun ys=>xs.length+ys.length<=10000000/\Q (.ref M.length) (M++[.lst (xs++ys)]):=by
 show wO (match M[n]?,M[m]? with|some (.lst xs),some (.lst ys)=>_|_,_=>_) Q E=_
 cases e1:M[n]? with
 |none=>rfl
 |some o=>
  cases o with
  |lst xs=>
   cases e2:M[m]? with
   |none=>rfl
   |some p=>
    cases p with
    |lst ys=>
     by_cases h:xs.length+ys.length<=10000000
     ·simp[wL,h,wO]
     ·simp[wL,h,wO]
theorem Zvt:wO (dEq x y M) Q E=wG (eqF 12 M x y) fun b=>Q (.bl b) M:=by
 show wO (match eqF 12 M x y with|some b=>_|none=>_) Q E=_
 cases eqF 12 M x y<;>rfl
theorem Zvu:wO (dNe x y M) Q E=wG (eqF 12 M x y) fun b=>Q (.bl (!b)) M:=by
 show wO (match eqF 12 M x y with|some b=>_|none=>_) Q E=_
 cases eqF 12 M x y<;>rfl
theorem Zvv:wO (dIs x y M) Q E=wG (isP x y) fun b=>Q (.bl b) M:=by
 show wO (match isP x y with|some b=>_|none=>_) Q E=_
 cases isP x y<;>rfl
theorem Zsu:wO (dIsNot x y M) Q E=wG (isP x y) fun b=>Q (.bl (!b)) M:=by
 show wO (match isP x y with|some b=>_|none=>_) Q E=_
 cases isP x y<;>rfl
theorem Znf:wO (atD xs i M) Q E=wG (atI xs i) fun d=>Q d M:=by
 unfold atD;cases atI xs i<;>rfl
theorem Zsv:wO (dIx (.tup xs) (.int i) M) Q E=wG (atI xs i) fun d=>Q d M:=Znf
theorem Zsw:wO (dIx (.rol xs) (.int i) M) Q E=wG (atI xs i) fun d=>Q d M:=Znf
theorem Zsx:wO (dIx (.ref n) (.int i) M) Q E=wL M[n]? fun xs=>wG (atI xs i) fun d=>Q d M:=by
 show wO (match M[n]? with|some (.lst xs)=>atD xs i M|_=>.bad) Q E=_
 cases e1:M[n]? with
 |none=>rfl
 |some o=>cases o with|lst xs=>exact Znf
theorem ZpS:wO (bLen [.ref n] M) Q E=wL M[n]? fun xs=>Q (.int xs.length) M:=by
 show wO (match(match M[n]? with|some (.lst xs)=>some xs|_=>none)with|some xs=>_|none=>_) Q E=_
 cases e1:M[n]? with
 |none=>rfl
 |some o=>cases o with|lst xs=>rfl
theorem ZpT:wO (bLen [.tup xs] M) Q E=Q (.int xs.length) M:=rfl
theorem ZpU:wO (bLen [.rol xs] M) Q E=Q (.int xs.length) M:=rfl
theorem Zsy:wO (bAbs [.int i] M) Q E=Q (.int (i.natAbs:Int)) M:=by rw[<-Zix];rfl
theorem Zsz:wO (bMax [.int i,.int j] M) Q E=Q (.int (max i j)) M:=by
 have:max i j=if j>i then j else i:=by split<;>lia
 rw[this];rfl
theorem ZsA:wO (bMin [.int i,.int j] M) Q E=Q (.int (min i j)) M:=by
 have:min i j=if j<i then j else i:=by split<;>lia
 rw[this];rfl
theorem ZpV:wO (Zr4 [.bl k] M) Q E=Q (.int (if k then 1 else 0)) M:=rfl
theorem ZpW:wO (Zr4 [.int i] M) Q E=Q (.int i) M:=rfl
theorem Zng:wO (bList [.ref n] M) Q E=wL M[n]? fun xs=>Q (.ref M.length) (M++[.lst xs]):=by
 show wO (match(match M[n]? with|some (.lst xs)=>some xs|_=>none)with|some xs=>_|none=>_) Q E=_
 cases e1:M[n]? with
 |none=>rfl
 |some o=>cases o with|lst xs=>rfl
theorem Znh:wO (bList [.tup xs] M) Q E=Q (.ref M.length) (M++[.lst xs]):=rfl
theorem Zvw:wO (Zve [.ref n] M) Q E=wL M[n]? fun xs=>wG (Zc3 xs) fun bs=>Q (.bl (bs.all id)) M:=by
 show wO (match M[n]? with|some (.lst xs)=>(match Zc3 xs with|some bs=>Out.ok (.bl (bs.all id)) M|none=>.bad)|none=>.bad) Q E=_
 cases e1:M[n]? with
 |none=>rfl
 |some o=>
  cases o with
  |lst xs=>
   show wO (match Zc3 xs with|some bs=>Out.ok (.bl (bs.all id)) M|none=>.bad) Q E=wG (Zc3 xs) _
   cases Zc3 xs<;>rfl
theorem ZpX:wO (ZaS g [.ref n] M) Q E=wL M[n]? fun xs=>wG (Zbq xs) fun ns=>wG (g ns) fun i=>Q (.int i) M:=by
 show wO (match(match M[n]? with|some (.lst xs)=>some xs|_=>none)with|some xs=>(match Zbq xs with|some ns=>(match g ns with|some i=>Out.ok (.int i) M|none=>.bad)|none=>.bad)|none=>.bad) Q E=_
 cases e1:M[n]? with
 |none=>rfl
 |some o=>
  cases o with
  |lst xs=>
   show wO (match Zbq xs with|some ns=>(match g ns with|some i=>Out.ok (.int i) M|none=>.bad)|none=>.bad) Q E=wG (Zbq xs) _
   cases Zbq xs with
   |none=>rfl
   |some ns=>
    show wO (match g ns with|some i=>Out.ok (.int i) M|none=>.bad) Q E=wG (g ns) _
    cases g ns<;>rfl
theorem Zvx:wO (Zgi g fo fs ρ M) Q E=wO (fo ρ M) (fun x M1=>ZmH x M1=true/\wO (fs ρ M1) (fun ds M2=>wO (g x ds M2) Q E) E) E:=by
 unfold Zgi;rw[ZE];congr 1;funext x M1;by_cases h:ZmH x M1=true
 ·simp only[h,if_true,true_and];rw[ZE]
 ·simp[h,wO]
theorem ZpY:ZmH (.ref n) M=M[n]?.isSome:=rfl
theorem ZsB:wO (mApp (.ref n) [d] M) Q E=wL M[n]? fun xs=>xs.length<10000000/\Q .non (M.set n (.lst (xs++[d]))):=by
 show wO (match M[n]? with|some (.lst xs)=>if xs.length<10000000 then _ else _|none=>_) Q E=_
 cases e1:M[n]? with
 |none=>rfl
 |some o=>
  cases o with
  |lst xs=>
   by_cases h:xs.length<10000000
   ·simp[wL,h,wO]
   ·simp[wL,h,wO]
theorem ZsC:wO (mExt (.ref n) [.ref m] M) Q E=wL M[n]? fun xs=>wL M[m]? fun ys=>xs.length+ys.length<=10000000/\Q .non (M.set n (.lst (xs++ys))):=by
 show wO (match M[n]?,M[m]? with|some (.lst xs),some (.lst ys)=>if xs.length+ys.length<=10000000 then _ else _|_,_=>_) Q E=_
 cases e1:M[n]? with
 |none=>rfl
 |some o=>
  cases o with
  |lst xs=>
   cases e2:M[m]? with
   |none=>rfl
   |some p=>
    cases p with
    |lst ys=>
     by_cases h:xs.length+ys.length<=10000000
     ·simp[wL,h,wO]
     ·simp[wL,h,wO]
def slR(x:D)(l u:Option Int)(M3:Sto):Out D:=match x with
 |.ref n=>(match M3[n]? with|some (.lst xs)=>.ok (.ref M3.length) (M3++[.lst (Zfk xs l u)])|none=>.bad)
 |.rol xs=>.ok (.ref M3.length) (M3++[.lst (Zfk xs l u)])
 |.tup xs=>if HT.sIx xs.length 0 l=0/\HT.sIx xs.length xs.length u=xs.length then .bad else .ok (.tup (Zfk xs l u)) M3
 |_=>.bad
theorem ZsD:wO (eSl f lo hi ρ M) Q E=wO (f ρ M) (fun x M1=>wO (lo ρ M1) (fun l M2=>wO (hi ρ M2) (fun u M3=>wO (slR x l u M3) Q E) E) E) E:=by
 unfold eSl;rw[ZE];congr 1;funext x M1;rw[ZE];congr 1;funext l M2;rw[ZE];congr 1
theorem ZsE:wO (slR (.ref n) l u M) Q E=wL M[n]? fun xs=>Q (.ref M.length) (M++[.lst (Zfk xs l u)]):=by
 unfold slR;cases e1:M[n]? with
 |none=>simp only[e1];rfl
 |some o=>cases o with|lst xs=>simp only[e1];rfl
theorem ZsF:wO (oSo f ρ M) Q E=wO (f ρ M) (fun x M1=>wI x fun i=>Q (some i) M1) E:=by
 unfold oSo;rw[ZE];congr 1;funext x M1;cases x<;>rfl
theorem ZpZ(h:0<=i):Zfk xs none (some i)=xs.take i.toNat:=by
 unfold Zfk;simp only[HT.sIx];rw[if_neg (by lia),List.drop_zero,Nat.sub_zero]
 by_cases c:i.toNat<=xs.length
 ·rw[i7 c]
 ·rw[Nat.min_eq_right (by lia),bf (aj _),bf (by lia)]
theorem Zkv(h:0<=i):Zfk xs (some i) none=xs.drop i.toNat:=by
 unfold Zfk;simp only[HT.sIx];rw[if_neg (by lia)]
 by_cases c:i.toNat<=xs.length
 ·rw[i7 c,bf (by simp)]
 ·rw[Nat.min_eq_right (by lia),bW (aj _),bW (by lia),List.take_nil]
theorem Zkw{L:Sto}:(M++L)[M.length]?=L[0]?:=by rw[aI (aj _),ft]
theorem ZrH{L:Sto}:(M++L)[M.length+i]?=L[i]?:=by rw[aI (by lia)];congr 1;lia
theorem Zkx{L:Sto}(h:n<M.length):(M++L)[n]?=M[n]?:=ah h
theorem Zlq{L:Sto}:(M++L).set M.length o=M++L.set 0 o:=by rw[List.set_append_right _ _ (aj _),ft]
theorem Zp0(h:k≠n):(M.set n o)[k]?=M[k]?:=aM (bV h)
theorem Zp1(h:n<M.length):(M.set n o)[n]?=some o:=aN h
theorem ZA(h:M[n]?=some o):n<M.length:=(aq.mp h).1
noncomputable abbrev pr(x y:Int):D:=.tup [.int x,.int y]
def prs(rs:List (Int×Int)):List D:=rs.map fun p=>pr p.1 p.2
def nts(ns:List Int):List D:=ns.map D.int
theorem ZI:(prs rs).length=rs.length:=aB _
theorem Zni:(nts rs).length=rs.length:=aB _
theorem ZiA:prs a++prs b=prs (a++b):=(dE).symm
theorem ZiB:nts a++nts b=nts (a++b):=(dE).symm
theorem Zky:(prs a).take n=prs (a.take n):=List.map_take.symm
theorem Zkz:(prs a).drop n=prs (a.drop n):=List.map_drop.symm
theorem ZkA:pr a b::prs r=prs ((a,b)::r):=rfl
noncomputable def cy(rs:List (Int×Int))(i:Int):Int×Int:=rs.getD (i%rs.length).toNat (0,0)
theorem Zlr{n:Nat}(h: -(n:Int)<=i/\i<n):ixN n i=some (i%n).toNat:=by
 unfold ixN;by_cases c:0<=i
 ·rw[if_pos c,if_pos h.2,fK c h.2]
 ·rw[if_neg c,if_pos h.1]
  have:i%n=i+n:=by
   rw[<-Int.add_emod_right,fK (by lia) (by lia)]
  rw[this]
theorem ZaN(h: -(rs.length:Int)<=i/\i<rs.length):atI (prs rs) i=some (pr (cy rs i).1 (cy rs i).2):=by
 unfold atI;rw[ZI,Zlr h];have hp:(i%rs.length).toNat<rs.length:=by
  have:=cC i (show(0:Int)<rs.length by lia)
  have:=dF i (show(rs.length:Int)≠0 by lia)
  lia
 simp[prs,cy,af hp]
theorem Zb3:cy rs (i%rs.length)=cy rs i:=by unfold cy;rw[lK _ (Int.dvd_refl _)]
theorem ZS:cy rs (i+rs.length)=cy rs i:=by unfold cy;rw[Int.add_emod_right]
theorem Zdb:cy rs (i-rs.length)=cy rs i:=by unfold cy;rw[Int.sub_emod_right]
theorem Zb4{rs:List (Int×Int)}(h:k<rs.length):cy rs k=rs[k]:=by
 unfold cy;rw[fK (by lia) (by lia)]
 simp[af h]
theorem Znj:eqF (n+1) M (.int a) (.int b)=some (decide (a=b)):=rfl
theorem Zvy:eqF (n+1) M (.bl a) (.bl b)=some (a==b):=rfl
theorem Zoa:eqF (n+2) M (pr a b) (pr c d)=some (decide ((a,b)=(c,d))):=by
 show some ((a==c)&&((b==d)&&true))=_;congr 1;rw[Bool.eq_iff_iff];simp
theorem Zp2:eqL (eqF (n+2) M) (prs rs) (prs ss)=some (decide (rs=ss)):=by
 induction rs generalizing ss with
 |nil=>cases ss<;>rfl
 |cons r rs ih=>
  cases ss with
  |nil=>rfl
  |cons s ss=>
   show(match eqF (n+2) M (pr r.1 r.2) (pr s.1 s.2)with|some a=>(match eqL _ (prs rs) (prs ss)with|some b=>some (a&&b)|none=>none)|none=>none)=_
   rw[Zoa,ih];simp only[];congr 1;rw[Bool.eq_iff_iff];obtain⟨r1,r2⟩:=r;obtain⟨s1,s2⟩:=s;simp
theorem Zp3(h1:M[n]?=some (.lst xs))(h2:M[m]?=some (.lst ys)):eqF (k+1) M (.ref n) (.ref m)=if xs.length=ys.length then eqL (eqF k M) xs ys else some false:=by
 show(match kd M (.ref n),kd M (.ref m)with|some a,some b=>eqK (eqF k M) a b|_,_=>none)=_
 have e1:kd M (.ref n)=some (.lst xs):=by show(match M[n]? with|some (.lst xs)=>some (Kd.lst xs)|_=>none)=_;rw[h1]
 have e2:kd M (.ref m)=some (.lst ys):=by show(match M[m]? with|some (.lst xs)=>some (Kd.lst xs)|_=>none)=_;rw[h2]
 rw[e1,e2];rfl
theorem Znk(h1:M[n]?=some (.lst (prs rs)))(h2:M[m]?=some (.lst (prs ss))):eqF 12 M (.ref n) (.ref m)=some (decide (rs=ss)):=by
 rw[Zp3 h1 h2,ZI,ZI];by_cases c:rs.length=ss.length
 ·rw[if_pos c,Zp2]
 ·rw[if_neg c];congr 1
  symm
  exact decide_eq_false fun z=>c (by rw[z])
theorem Zp4:ZaZ M (.int i)=some "int":=rfl
theorem ZsG:ZaZ M (.bl b)=some "bool":=rfl
theorem Zp5:ZaZ M (.tup xs)=some "tuple":=rfl
theorem Zp6:ZaZ M .non=some "NoneType":=rfl
theorem Zp7(h:M[n]?=some (.lst xs)):ZaZ M (.ref n)=some "list":=by
 show(match(match M[n]? with|some (.lst xs)=>some (Kd.lst xs)|_=>none)with|some .non=>_|some (.bl _)=>_|some (.int _)=>_|some (.str _)=>_|some (.tup _)=>_|some (.lst _)=>_|none=>_)=_
 rw[h]
end
end DL
namespace DL
open PyProof.Rows L2
section
variable {M:Sto}{xs:List D}
theorem Znl:wS (Zc0 tg fs bd ρ M) N R B C E=wO (fs ρ M) (fun ds M1=>w2 ds fun x y=>wI x fun i=>wI y fun j=>(-(2^62)<=i/\i<2^62/\ -(2^62)<=j/\j<2^62)/\wS (ZbE tg bd (Zbp i (j-i).toNat) ρ M1) N R B C E) E:=by
 unfold Zc0;rw[Zaa];congr 1;funext ds M1;rcases ds with _|⟨v,_|⟨w,_|⟨w',r⟩⟩⟩
 ·rfl
 ·cases v<;>rfl
 ·cases v<;>try rfl
  cases w<;>try rfl
  rename_i i j;by_cases h: -(2^62)<=i/\i<2^62/\ -(2^62)<=j/\j<2^62
  ·simp only[w2,wI,eq_true h,true_and,if_true]
  ·simp only[w2,wI,eq_false h,false_and,if_false];rfl
 ·cases v<;>cases w<;>rfl
theorem Zvz:wO (iR1 fs ρ M) QS E=wO (fs ρ M) (fun ds M1=>w1 ds fun d=>wI d fun j=>(-(2^62)<=j/\j<2^62)/\QS (.pur (Zbp 0 j.toNat)) M1) E:=by
 unfold iR1;rw[ZE];congr 1;funext ds M1;rcases ds with _|⟨v,_|⟨w,r⟩⟩
 ·rfl
 ·cases v<;>try rfl
  rename_i j;by_cases h: -(2^62)<=j/\j<2^62
  ·simp only[w1,wI,eq_true h,true_and,if_true,Zm]
  ·simp only[w1,wI,eq_false h,false_and,if_false];rfl
 ·cases v<;>rfl
theorem ZvA:wO (iR2 fs ρ M) QS E=wO (fs ρ M) (fun ds M1=>w2 ds fun x y=>wI x fun i=>wI y fun j=>(-(2^62)<=i/\i<2^62/\ -(2^62)<=j/\j<2^62)/\QS (.pur (Zbp i (j-i).toNat)) M1) E:=by
 unfold iR2;rw[ZE];congr 1;funext ds M1;rcases ds with _|⟨v,_|⟨w,_|⟨w',r⟩⟩⟩
 ·rfl
 ·cases v<;>rfl
 ·cases v<;>try rfl
  cases w<;>try rfl
  rename_i i j;by_cases h: -(2^62)<=i/\i<2^62/\ -(2^62)<=j/\j<2^62
  ·simp only[w2,wI,eq_true h,true_and,if_true,Zm]
  ·simp only[w2,wI,eq_false h,false_and,if_false];rfl
 ·cases v<;>cases w<;>rfl
theorem ZvB:wO (iEn fs ρ M) QS E=wO (fs ρ M) (fun ds M1=>w1 ds fun d=>wR d fun n=>QS (.enu n) M1) E:=by
 unfold iEn;rw[ZE];congr 1;funext ds M1;rcases ds with _|⟨v,_|⟨w,r⟩⟩<;>try rfl
 ·cases v<;>rfl
 ·cases v<;>rfl
theorem ZvC:wO (iZp fs ρ M) QS E=wO (fs ρ M) (fun ds M1=>w2 ds fun x y=>wR x fun n=>wR y fun m=>QS (.zip n m) M1) E:=by
 unfold iZp;rw[ZE];congr 1;funext ds M1;rcases ds with _|⟨v,_|⟨w,_|⟨w',r⟩⟩⟩<;>try rfl
 ·cases v<;>rfl
 ·cases v<;>cases w<;>rfl
 ·cases v<;>cases w<;>rfl
noncomputable def Znm(Q:W0)(ρ:Ro)(M:Sto):Prop:=Q .non M
theorem wF1:wO (fnF bd 1 k [x] M) Q E=wS (bd (some x::bw k none) M) (Znm Q) Q (fun _ _=>False) (fun _ _=>False) E:=wF rfl
theorem wF2:wO (fnF bd 2 k [x,y] M) Q E=wS (bd (some x::some y::bw k none) M) (Znm Q) Q (fun _ _=>False) (fun _ _=>False) E:=wF rfl
theorem wF3:wO (fnF bd 3 k [x,y,z] M) Q E=wS (bd (some x::some y::some z::bw k none) M) (Znm Q) Q (fun _ _=>False) (fun _ _=>False) E:=wF rfl
theorem wF4:wO (fnF bd 4 k [x,y,z,d] M) Q E=wS (bd (some x::some y::some z::some d::bw k none) M) (Znm Q) Q (fun _ _=>False) (fun _ _=>False) E:=wF rfl
theorem Zgu:prs a++[pr b c]=prs (a++[(b,c)]):=by simp[prs]
theorem ZkB:D.int b::nts r=nts (b::r):=rfl
theorem ZsH:isP .non .non=some true:=rfl
theorem ZsI:isP (.int i) .non=some false:=rfl
theorem ZsJ:isP (.tup xs) .non=some false:=rfl
theorem ZsK:isP (.ref n) .non=some false:=rfl
theorem Zfu(h:M[n]?=some (.lst xs)):cnt (.sto n) M=xs.length:=by show(match M[n]? with|some (.lst xs)=>xs.length|none=>0)=_;rw[h]
theorem Znn(h:M[n]?=some (.lst xs)):cnt (.enu n) M=xs.length:=by show(match M[n]? with|some (.lst xs)=>xs.length|none=>0)=_;rw[h]
theorem Zno(h:M[n]?=some (.lst xs)):cnt (.zip n m) M=xs.length:=by show(match M[n]? with|some (.lst xs)=>xs.length|none=>0)=_;rw[h]
theorem Zp8:ZcL "int" "int"=true:=rfl
theorem Zp9:ZcL "int" "bool"=false:=rfl
theorem Zqa:ZcL "bool" "int"=true:=rfl
theorem Zqb:ZcL "bool" "bool"=true:=rfl
theorem Zqc:ZcL "tuple" "tuple"=true:=rfl
theorem Zqd:ZcL "list" "list"=true:=rfl
theorem Zqe:ZcL "tuple" "int"=false:=rfl
theorem Zqf:ZcL "tuple" "list"=false:=rfl
theorem Zqg:ZcL "list" "tuple"=false:=rfl
theorem Zqh:ZcL "list" "int"=false:=rfl
theorem Zqi:ZcL "NoneType" "tuple"=false:=rfl
theorem Zqj:ZcL "NoneType" "list"=false:=rfl
theorem Zqk(h:M[n]?=some (.lst xs)):nxt (.enu n) k M=some ((xs[k]?).map fun d=>D.tup [.int k,d]):=by
 show(match M[n]? with|some (.lst xs)=>(match xs[k]? with|some x=>some (some (D.tup [.int k,x]))|none=>some none)|none=>none)=_
 rw[h];simp only[];cases xs[k]?<;>rfl
theorem Zgv(h:M[n]?=some (.lst xs)):nxt (.sto n) k M=some xs[k]?:=by
 show(match M[n]? with|some (.lst xs)=>some xs[k]?|none=>none)=_
 rw[h]
theorem Zql(I:Nat->Ro->Sto->Prop)(hM:M[n]?=some (.lst xs))(h0:I 0 ρ M)(hm:∀i ρ M,I i ρ M->M[n]?=some (.lst xs))(st:∀(i:Nat) ρ M (h:i<xs.length),I i ρ M->wG (tg (.tup [.int i,xs[i]]) ρ) fun r=>wS (bd r M) (I (i+1)) R N (I (i+1)) E)(hn:∀ρ M,I xs.length ρ M->N ρ M):wS (Zfl tg bd (.enu n) (cnt (.enu n) M) 0 ρ M) N R B C E:=by
 rw[Znn hM];have hl:(xs.mapIdx fun(k:Nat) d=>D.tup [.int k,d]).length=xs.length:=by simp
 refine Zlp I (xs:=xs.mapIdx fun(k:Nat) d=>D.tup [.int k,d]) _ 0 ρ M (by simp) (by simp) h0 (fun i ρ M _ hI=>?_) (fun i ρ M h hI=>?_) (fun ρ M hI=>hn ρ M (by rw[hl]at hI;exact hI))
 ·rw[Zqk (hm _ _ _ hI),List.getElem?_mapIdx]
 ·rw[List.getElem_mapIdx];exact st i ρ M (by rw[hl]at h;exact h) hI
theorem Zqm(h:M[n]?=some (.lst xs))(h':M[m]?=some (.lst ys)):nxt (.zip n m) k M=some ((cZ (fun a b=>D.tup [a,b]) xs ys)[k]?):=by
 show(match M[n]?,M[m]? with|some (.lst xs),some (.lst ys)=>(match xs[k]?,ys[k]? with|some x,some y=>some (some (D.tup [x,y]))|_,_=>some none)|_,_=>none)=_
 rw[h,h',List.getElem?_zipWith];simp only[];cases xs[k]?<;>cases ys[k]?<;>rfl
theorem Zls(I:Nat->Ro->Sto->Prop)(hM:M[n]?=some (.lst xs))(hl:xs.length<=ys.length)(h0:I 0 ρ M)(hm:∀i ρ M,I i ρ M->M[n]?=some (.lst xs)/\M[m]?=some (.lst ys))(st:∀(i:Nat) ρ M (h:i<xs.length),I i ρ M->wG (tg (.tup [xs[i],ys[i]]) ρ) fun r=>wS (bd r M) (I (i+1)) R N (I (i+1)) E)(hn:∀ρ M,I xs.length ρ M->N ρ M):wS (Zfl tg bd (.zip n m) (cnt (.zip n m) M) 0 ρ M) N R B C E:=by
 rw[Zno hM];have hz:(cZ (fun a b=>D.tup [a,b]) xs ys).length=xs.length:=by simp;lia
 refine Zlp I (xs:=cZ (fun a b=>D.tup [a,b]) xs ys) _ 0 ρ M (by simp) (by simp;lia) h0 (fun i ρ M _ hI=>?_) (fun i ρ M h hI=>?_) (fun ρ M hI=>hn ρ M (by rw[hz]at hI;exact hI))
 ·rw[Zqm (hm _ _ _ hI).1 (hm _ _ _ hI).2]
 ·rw[List.getElem_zipWith];exact st i ρ M (by rw[hz]at h;exact h) hI
theorem Znp(Inv:Ro->Prop)(F:Nat->D){Q:Sto->Prop}(hl:xs.length<10000000)(hcnt:xs.length<=cnt src M)(h0:Inv ρ)(hs:∀(L:Sto)(i:Nat),i<=xs.length->nxt src i (M++L)=some xs[i]?)(st:∀(i:Nat)(h:i<xs.length)(ρ:Ro)(L:Sto),Inv ρ->wG (tg xs[i] ρ) fun r=>Inv r/\wO (f r (M++L)) (fun y M2=>y=F i/\M2=M++L) (fun _ _=>False))(hq:Q (M++[.lst ((aH xs.length).map F)])):wO (Zgc src tg (fun _ M=>.ok true M) f M.length (cnt src M) 0 ρ (M++[.lst []])) (fun _ M2=>Q M2) (fun _ _=>False):=by
 refine Ziz (fun i ρ M'=>Inv ρ/\M'=M++[.lst ((aH i).map F)]) (xs:=xs) _ 0 ρ _ (by simp) (by lia) ⟨h0,rfl⟩ (fun i ρ M' hi hI=>by rw[hI.2];exact hs _ i hi) (fun i ρ M' h hI=>?_) (fun ρ M' hI=>by rw[hI.2];exact hq)
 obtain⟨hI,rfl⟩:=hI;have s:=st i h ρ [.lst ((aH i).map F)] hI;cases e:tg xs[i] ρ with
 |none=>rw[e]at s;exact s.elim
 |some r=>
  rw[e]at s;obtain⟨hr,s⟩:=s;show Br true _ _;rw[ZpI];refine Zd8 s (fun y M2 ⟨h1,h2⟩=>?_) (fun _ _ z=>z);subst h1 h2;rw[Zkw];refine⟨by simp;lia,hr,?_⟩
  rw[Zlq,fB,dE];rfl
theorem Zci{lo:Int}:(Zbp lo n).length=n:=by simp[Zbp]
theorem ZiC{lo:Int}(h:k<(Zbp lo n).length):(Zbp lo n)[k]=.int (lo+k):=by simp[Zbp]
theorem Zfv:(aH n).map (fun i=>D.int (F i))=nts ((aH n).map F):=by simp[nts]
end
end DL
namespace DL
open PyProof.Rows L2
section
variable {E:W2}{N B C:W1}{R:W0}{ρ:Ro}{M:Sto}{xs:List D}{a bd:Sv}
def kU{β:Type}(u:β->Sto->Out γ)(Q:γ->Sto->Prop)(E:W2)(x:β)(M:Sto):Prop:=wO (u x M) Q E
noncomputable def kQ{β γ:Type}(Q:γ->Sto->Prop)(c:β->γ)(M:Sto)(x:β):Prop:=Q (c x) M
def kB2(op:Bo)(x:D)(Q:W0)(E:W2)(y:D)(M:Sto):Prop:=wO (op x y M) Q E
def kB1(op:Bo)(g:Ev)(ρ:Ro)(Q:W0)(E:W2)(x:D)(M:Sto):Prop:=wO (g ρ M) (kB2 op x Q E) E
theorem ZvD:wO (e2 op f g ρ M) Q E=wO (f ρ M) (kB1 op g ρ Q E) E:=Zsm
theorem y_c:wO (eC d ρ M) Q E=Q d M:=rfl
theorem y_v:wO (Zf k ρ M) Q E=wV ρ[k]? (kQ Q id M):=Zvo
theorem Zqn:wO (Zj F fs ρ M) Q E=wO (fs ρ M) (kU F Q E) E:=Zm7
noncomputable def kA2(x:D)(Q:List D->Sto->Prop)(xs:List D)(M:Sto):Prop:=Q (x::xs) M
def kA1(fs:Av)(ρ:Ro)(Q:List D->Sto->Prop)(E:W2)(x:D)(M:Sto):Prop:=wO (fs ρ M) (kA2 x Q) E
theorem ZsL:wO (aNil ρ M) QL E=QL [] M:=rfl
theorem Zqo:wO (Zc f fs ρ M) QL E=wO (f ρ M) (kA1 fs ρ QL E) E:=Zm8
noncomputable def kTu(Q:W0)(xs:List D)(M:Sto):Prop:=xs.length<=1000/\Q (.tup xs) M
noncomputable def kLs(Q:W0)(xs:List D)(M:Sto):Prop:=xs.length<=1000/\Q (.ref M.length) (M++[.lst xs])
theorem ZsM:wO (Z5 fs ρ M) Q E=wO (fs ρ M) (kTu Q) E:=ZpJ
theorem ZsN:wO (Zdt fs ρ M) Q E=wO (fs ρ M) (kLs Q) E:=ZpK
noncomputable def Zt6(x:D)(M:Sto):Out D:=match x with|.int i=>.ok (.int (-i)) M|_=>.bad
theorem ZsO:wO (ZbM f ρ M) Q E=wO (f ρ M) (kU Zt6 Q E) E:=by unfold ZbM;exact ZE
theorem Zqp:wO (Zt6 (.int i) M) Q E=Q (.int (-i)) M:=rfl
def ZsP(T:String)(x:D)(M:Sto):Out D:=match ZaZ M x with|some t=>.ok (.bl (ZcL t T)) M|none=>.bad
theorem ZsQ:wO (Zjy T f ρ M) Q E=wO (f ρ M) (kU (ZsP T) Q E) E:=by unfold Zjy;exact ZE
def kTy(T:String)(Q:W0)(M:Sto)(t:String):Prop:=Q (.bl (ZcL t T)) M
theorem Zqq:wO (ZsP T x M) Q E=wG (ZaZ M x) (kTy T Q M):=by unfold ZsP;cases ZaZ M x<;>rfl
noncomputable def tC(b:Bool):Tv:=fun _ M=>.ok b M
def BrO(k:Bool)(f g:Ro->Sto->Out β)(ρ:Ro)(M:Sto)(Q:β->Sto->Prop)(E:W2):Prop:=wO ((if k=true then f else g) ρ M) Q E
theorem ZvE{fO gO:Ro->Sto->Out β}{QO:β->Sto->Prop}:BrO true fO gO ρ M QO E=wO (fO ρ M) QO E:=rfl
theorem ZvF{fO gO:Ro->Sto->Out β}{QO:β->Sto->Prop}:BrO false fO gO ρ M QO E=wO (gO ρ M) QO E:=rfl
theorem brO{β:Type}{fO gO:Ro->Sto->Out β}{QO:β->Sto->Prop}{p:Prop}[Decidable p](h1:p->wO (fO ρ M) QO E)(h2:¬p->wO (gO ρ M) QO E):BrO (decide p) fO gO ρ M QO E:=by
 by_cases h:p
 ·rw[decide_eq_true h];exact h1 h
 ·rw[decide_eq_false h];exact h2 h
theorem ZvG{fO gO:Ro->Sto->Out β}{QO:β->Sto->Prop}(P:β->Sto->Prop)(h:BrO b fO gO ρ M P E)(hn:∀x M,P x M->QO x M):BrO b fO gO ρ M QO E:=by
 cases b
 ·exact Zd8 h hn (fun _ _ z=>z)
 ·exact Zd8 h hn (fun _ _ z=>z)
def Zt7(g:Ev)(ρ:Ro)(x:D)(M:Sto):Out D:=match x with|.bl k=>if k=true then g ρ M else .ok (.bl false) M|_=>.bad
def Zt8(x:D)(M:Sto):Out D:=match x with|.bl k=>.ok (.bl (!k)) M|_=>.bad
def oTv(x:D)(M:Sto):Out Bool:=match x with|.bl k=>.ok k M|_=>.bad
theorem ZsR:wO (ZgX f g ρ M) Q E=wO (f ρ M) (kU (Zt7 g ρ) Q E) E:=by unfold ZgX;exact ZE
theorem ZsS:wO (ZhH f ρ M) Q E=wO (f ρ M) (kU Zt8 Q E) E:=by unfold ZhH;exact ZE
theorem Zqr:wO (Zt7 g ρ (.bl b) M) Q E=BrO b g (eC (.bl false)) ρ M Q E:=by cases b<;>rfl
theorem Zqs:wO (Zt8 (.bl b) M) Q E=Q (.bl (!b)) M:=rfl
theorem ZvH:wO (tv f ρ M) QB E=wO (f ρ M) (kU oTv QB E) E:=by unfold tv;exact ZE
theorem ZsT:wO (oTv (.bl b) M) QB E=QB b M:=rfl
def kTA(u:Tv)(ρ:Ro)(Q:Bool->Sto->Prop)(E:W2)(k:Bool)(M:Sto):Prop:=BrO k u (tC false) ρ M Q E
def kTO(u:Tv)(ρ:Ro)(Q:Bool->Sto->Prop)(E:W2)(k:Bool)(M:Sto):Prop:=BrO k (tC true) u ρ M Q E
noncomputable def kTN(Q:Bool->Sto->Prop)(k:Bool)(M:Sto):Prop:=Q (!k) M
theorem ZvI:wO (tC b ρ M) QB E=QB b M:=rfl
theorem Zqt:wO (ZbL t u ρ M) QB E=wO (t ρ M) (kTA u ρ QB E) E:=by unfold ZbL;rw[ZE];congr 1;funext k M1;cases k<;>rfl
theorem ZsU:wO (Zel t u ρ M) QB E=wO (t ρ M) (kTO u ρ QB E) E:=by unfold Zel;rw[ZE];congr 1;funext k M1;cases k<;>rfl
theorem Zqu:wO (Zcd t ρ M) QB E=wO (t ρ M) (kTN QB) E:=ZpL
def kSq(b:Sv)(N:W1)(R:W0)(B C:W1)(E:W2)(ρ:Ro)(M:Sto):Prop:=wS (b ρ M) N R B C E
theorem ZsV:wS (ZB a bd ρ M) N R B C E=wS (a ρ M) (kSq bd N R B C E) R B C E:=ZpM
theorem Zqv:wS (sNil ρ M) N R B C E=N ρ M:=rfl
theorem ZsW:wS (sBrk ρ M) N R B C E=B ρ M:=rfl
theorem ZsX:wS (Z9 f ρ M) N R B C E=wO (f ρ M) R E:=ZpN
theorem Zqw:wS (Zo6 ρ M) N R B C E=R .non M:=rfl
noncomputable def kDr(ρ:Ro)(N:W1)(d:D)(M:Sto):Prop:=N ρ M
theorem Zqx:wS (Za4 f ρ M) N R B C E=wO (f ρ M) (kDr ρ N) E:=Zm9
def BrS(k:Bool)(a b:Sv)(ρ:Ro)(M:Sto)(N:W1)(R:W0)(B C:W1)(E:W2):Prop:=wS ((if k=true then a else b) ρ M) N R B C E
theorem ZvJ:BrS true a bd ρ M N R B C E=wS (a ρ M) N R B C E:=rfl
theorem ZvK:BrS false a bd ρ M N R B C E=wS (bd ρ M) N R B C E:=rfl
theorem brS{p:Prop}[Decidable p](h1:p->wS (a ρ M) N R B C E)(h2:¬p->wS (bd ρ M) N R B C E):BrS (decide p) a bd ρ M N R B C E:=by
 by_cases h:p
 ·rw[decide_eq_true h];exact h1 h
 ·rw[decide_eq_false h];exact h2 h
theorem Zt9(h1:b=true->wS (a ρ M) N R B C E)(h2:b=false->wS (bd ρ M) N R B C E):BrS b a bd ρ M N R B C E:=by
 cases b
 ·exact h2 rfl
 ·exact h1 rfl
theorem ZsY(P:W1)(h:BrS b a bd ρ M P R B C E)(hn:∀ρ M,P ρ M->N ρ M):BrS b a bd ρ M N R B C E:=by
 cases b
 ·exact Ziy h hn (fun _ _ z=>z) (fun _ _ z=>z) (fun _ _ z=>z) (fun _ _ z=>z)
 ·exact Ziy h hn (fun _ _ z=>z) (fun _ _ z=>z) (fun _ _ z=>z) (fun _ _ z=>z)
def kSi(a b:Sv)(ρ:Ro)(N:W1)(R:W0)(B C:W1)(E:W2)(k:Bool)(M:Sto):Prop:=BrS k a b ρ M N R B C E
theorem ZsZ:wS (sIf t a bd ρ M) N R B C E=wO (t ρ M) (kSi a bd ρ N R B C E) E:=by unfold sIf;rw[Zaa];congr 1;funext k M1;cases k<;>rfl
noncomputable def kAs(i:Nat)(ρ:Ro)(N:W1)(d:D)(M:Sto):Prop:=N (ρ.set i (some d)) M
theorem Zs0:wS (ZJ (gNm k) f ρ M) N R B C E=wO (f ρ M) (kAs k ρ N) E:=ZpO
def kAt(gs:Tgs)(ρ:Ro)(N:W1)(d:D)(M:Sto):Prop:=wG (gTp gs d ρ) (kQ N id M)
theorem Zqy:wS (ZJ (gTp gs) f ρ M) N R B C E=wO (f ρ M) (kAt gs ρ N) E:=Zna
noncomputable def Zua(i j:Nat)(ρ:Ro)(N:W1)(M:Sto)(v w:D):Prop:=N ((ρ.set i (some v)).set j (some w)) M
def kPa(i j:Nat)(ρ:Ro)(N:W1)(ds:List D)(M:Sto):Prop:=w2 ds (Zua i j ρ N M)
theorem Zs1:wS (Zfh k m fs ρ M) N R B C E=wO (fs ρ M) (kPa k m ρ N) E:=ZpP
def Zub(tg:Tg)(bd:Sv)(ρ:Ro)(N:W1)(R:W0)(B C:W1)(E:W2)(M:Sto)(j:Int):Prop:=(-(2^62)<=j/\j<2^62)/\wS (ZbE tg bd (Zbp 0 j.toNat) ρ M) N R B C E
def Zuc(tg:Tg)(bd:Sv)(ρ:Ro)(N:W1)(R:W0)(B C:W1)(E:W2)(M:Sto)(d:D):Prop:=wI d (Zub tg bd ρ N R B C E M)
def kR1(tg:Tg)(bd:Sv)(ρ:Ro)(N:W1)(R:W0)(B C:W1)(E:W2)(ds:List D)(M:Sto):Prop:=w1 ds (Zuc tg bd ρ N R B C E M)
theorem Zqz:wS (ZbH tg fs bd ρ M) N R B C E=wO (fs ρ M) (kR1 tg bd ρ N R B C E) E:=Znb
def Zud(tg:Tg)(bd:Sv)(ρ:Ro)(N:W1)(R:W0)(B C:W1)(E:W2)(M:Sto)(i:Int)(j:Int):Prop:=(-(2^62)<=i/\i<2^62/\ -(2^62)<=j/\j<2^62)/\wS (ZbE tg bd (Zbp i (j-i).toNat) ρ M) N R B C E
def Zue(tg:Tg)(bd:Sv)(ρ:Ro)(N:W1)(R:W0)(B C:W1)(E:W2)(M:Sto)(y:D)(i:Int):Prop:=wI y (Zud tg bd ρ N R B C E M i)
def Zuf(tg:Tg)(bd:Sv)(ρ:Ro)(N:W1)(R:W0)(B C:W1)(E:W2)(M:Sto)(x y:D):Prop:=wI x (Zue tg bd ρ N R B C E M y)
def kR2(tg:Tg)(bd:Sv)(ρ:Ro)(N:W1)(R:W0)(B C:W1)(E:W2)(ds:List D)(M:Sto):Prop:=w2 ds (Zuf tg bd ρ N R B C E M)
theorem ZqA:wS (Zc0 tg fs bd ρ M) N R B C E=wO (fs ρ M) (kR2 tg bd ρ N R B C E) E:=Znl
def kFo(tg:Tg)(bd:Sv)(ρ:Ro)(N:W1)(R:W0)(B C:W1)(E:W2)(d:D)(M:Sto):Prop:=wS (Zk7 tg bd d ρ M) N R B C E
theorem Zs2:wS (Zj0 tg f bd ρ M) N R B C E=wO (f ρ M) (kFo tg bd ρ N R B C E) E:=ZpQ
theorem ZqB:wS (Zk7 tg bd (.tup xs) ρ M) N R B C E=wS (ZbE tg bd xs ρ M) N R B C E:=rfl
theorem ZqC:wS (Zk7 tg bd (.rol xs) ρ M) N R B C E=wS (ZbE tg bd xs ρ M) N R B C E:=rfl
def kFs(tg:Tg)(bd:Sv)(ρ:Ro)(N:W1)(R:W0)(B C:W1)(E:W2)(src:Src)(M:Sto):Prop:=wS (Zfl tg bd src (cnt src M) 0 ρ M) N R B C E
theorem ZqD:wS (Zfm tg fi bd ρ M) N R B C E=wO (fi ρ M) (kFs tg bd ρ N R B C E) E:=Znd
def hT(cs:List Str)(gh:Sv)(W:List Bool)(i:Nat)(ρ:Ro)(c:Str)(M:Sto):Fl:=if cs.contains c=true then(match gh ((kpR W ρ).set i (some (.err c (fsE c M)))) (stE c M)with|.ret d M2=>.ret d M2|.nx _ M2=>.nx (bw ρ.length none) M2|_=>.bad)else .bad
noncomputable def ZvL(Q:W0)(M1:Sto)(u:Unit)(M:Sto):Prop:=Q (.ref M1.length) M
def kCo(tg:Tg)(c:Tv)(f:Ev)(k:Nat)(fr:List Nat)(ρ:Ro)(Q:W0)(src:Src)(M:Sto):Prop:=wO (Zgc src tg c f M.length (cnt src M) 0 (roB k fr ρ) (M++[.lst []])) (ZvL Q M) (fun _ _=>False)
theorem ZqE:wO (Zai fi k fr tg t f ρ M) Q E=wO (fi ρ M) (kCo tg t f k fr ρ Q) E:=Zne
def Zug(QS:Src->Sto->Prop)(M:Sto)(j:Int):Prop:=(-(2^62)<=j/\j<2^62)/\QS (.pur (Zbp 0 j.toNat)) M
def Zuh(QS:Src->Sto->Prop)(M:Sto)(d:D):Prop:=wI d (Zug QS M)
def kS1(QS:Src->Sto->Prop)(ds:List D)(M:Sto):Prop:=w1 ds (Zuh QS M)
theorem ZvM:wO (iR1 fs ρ M) QS E=wO (fs ρ M) (kS1 QS) E:=Zvz
def Zui(QS:Src->Sto->Prop)(M:Sto)(i:Int)(j:Int):Prop:=(-(2^62)<=i/\i<2^62/\ -(2^62)<=j/\j<2^62)/\QS (.pur (Zbp i (j-i).toNat)) M
def Zuj(QS:Src->Sto->Prop)(M:Sto)(y:D)(i:Int):Prop:=wI y (Zui QS M i)
def Zuk(QS:Src->Sto->Prop)(M:Sto)(x y:D):Prop:=wI x (Zuj QS M y)
def kS2(QS:Src->Sto->Prop)(ds:List D)(M:Sto):Prop:=w2 ds (Zuk QS M)
theorem ZvN:wO (iR2 fs ρ M) QS E=wO (fs ρ M) (kS2 QS) E:=ZvA
noncomputable def oSq(d:D)(M:Sto):Out Src:=match d with|.tup ds=>.ok (.pur ds) M|.rol ds=>.ok (.pur ds) M|.con ds=>.ok (.pur ds) M|.ref n=>.ok (.sto n) M|_=>.bad
theorem ZvO:wO (iSq f ρ M) QS E=wO (f ρ M) (kU oSq QS E) E:=by unfold iSq;exact ZE
theorem Zs3:wO (oSq (.tup xs) M) QS E=QS (.pur xs) M:=rfl
theorem Zs4:wO (oSq (.rol xs) M) QS E=QS (.pur xs) M:=rfl
theorem Zs5:wO (oSq (.ref n) M) QS E=QS (.sto n) M:=rfl
def Zul(QS:Src->Sto->Prop)(M:Sto)(d:D):Prop:=wR d (kQ QS .enu M)
def kEn(QS:Src->Sto->Prop)(ds:List D)(M:Sto):Prop:=w1 ds (Zul QS M)
theorem ZvP:wO (iEn fs ρ M) QS E=wO (fs ρ M) (kEn QS) E:=ZvB
def Zum(QS:Src->Sto->Prop)(M:Sto)(y:D)(n:Nat):Prop:=wR y (kQ QS (.zip n) M)
def Zun(QS:Src->Sto->Prop)(M:Sto)(x y:D):Prop:=wR x (Zum QS M y)
def kZp(QS:Src->Sto->Prop)(ds:List D)(M:Sto):Prop:=w2 ds (Zun QS M)
theorem ZvQ:wO (iZp fs ρ M) QS E=wO (fs ρ M) (kZp QS) E:=ZvC
noncomputable def ZqF(xs:List D)(M:Sto)(Q:W0)(ys:List D):Prop:=xs.length+ys.length<=10000000/\Q (.ref M.length) (M++[.lst (xs++ys)])
def Zuo(m:Nat)(M:Sto)(Q:W0)(xs:List D):Prop:=wL M[m]? (ZqF xs M Q)
theorem Zs6:wO (dAdd (.ref n) (.ref m) M) Q E=wL M[n]? (Zuo m M Q):=Zst
def kEq(Q:W0)(M:Sto)(b:Bool):Prop:=Q (.bl b) M
def kNe(Q:W0)(M:Sto)(b:Bool):Prop:=Q (.bl (!b)) M
theorem ZvR:wO (dEq x y M) Q E=wG (eqF 12 M x y) (kEq Q M):=Zvt
theorem ZvS:wO (dNe x y M) Q E=wG (eqF 12 M x y) (kNe Q M):=Zvu
theorem ZvT:wO (dIs x y M) Q E=wG (isP x y) (kEq Q M):=Zvv
theorem Zs7:wO (dIsNot x y M) Q E=wG (isP x y) (kNe Q M):=Zsu
theorem Zs8:wO (dIx (.tup xs) (.int i) M) Q E=wG (atI xs i) (kQ Q id M):=Zsv
theorem Zs9:wO (dIx (.rol xs) (.int i) M) Q E=wG (atI xs i) (kQ Q id M):=Zsw
def kIx(i:Int)(Q:W0)(M:Sto)(xs:List D):Prop:=wG (atI xs i) (kQ Q id M)
theorem Zta:wO (dIx (.ref n) (.int i) M) Q E=wL M[n]? (kIx i Q M):=Zsx
noncomputable def Zup(Q:W0)(M:Sto)(xs:List D):Prop:=Q (.int xs.length) M
theorem ZqG:wO (bLen [.ref n] M) Q E=wL M[n]? (Zup Q M):=ZpS
noncomputable def kLi(Q:W0)(M:Sto)(xs:List D):Prop:=Q (.ref M.length) (M++[.lst xs])
theorem Znq:wO (bList [.ref n] M) Q E=wL M[n]? (kLi Q M):=Zng
def Zuq(g:List Int->Option Int)(Q:W0)(M:Sto)(ns:List Int):Prop:=wG (g ns) (kQ Q .int M)
def Zur(g:List Int->Option Int)(Q:W0)(M:Sto)(xs:List D):Prop:=wG (Zbq xs) (Zuq g Q M)
theorem ZqH:wO (ZaS gi [.ref n] M) Q E=wL M[n]? (Zur gi Q M):=ZpX
def kMt(g:Me)(fs:Av)(ρ:Ro)(Q:W0)(E:W2)(x:D)(M:Sto):Prop:=ZmH x M=true/\wO (fs ρ M) (kU (g x) Q E) E
theorem ZvU:wO (Zgi me fo fs ρ M) Q E=wO (fo ρ M) (kMt me fs ρ Q E) E:=Zvx
noncomputable def Zus(n:Nat)(d:D)(Q:W0)(M:Sto)(xs:List D):Prop:=xs.length<10000000/\Q .non (M.set n (.lst (xs++[d])))
theorem Ztb:wO (mApp (.ref n) [d] M) Q E=wL M[n]? (Zus n d Q M):=ZsB
noncomputable def ZqI(n:Nat)(xs:List D)(Q:W0)(M:Sto)(ys:List D):Prop:=xs.length+ys.length<=10000000/\Q .non (M.set n (.lst (xs++ys)))
def Zut(n m:Nat)(Q:W0)(M:Sto)(xs:List D):Prop:=wL M[m]? (ZqI n xs Q M)
theorem Ztc:wO (mExt (.ref n) [.ref m] M) Q E=wL M[n]? (Zut n m Q M):=ZsC
def Zuu(l u:Option Int)(Q:W0)(M:Sto)(xs:List D):Prop:=Q (.ref M.length) (M++[.lst (Zfk xs l u)])
def Zuv(x:D)(l:Option Int)(Q:W0)(E:W2)(u:Option Int)(M:Sto):Prop:=wO (slR x l u M) Q E
def Zuw(x:D)(hi:Ro->Sto->Out (Option Int))(ρ:Ro)(Q:W0)(E:W2)(l:Option Int)(M:Sto):Prop:=wO (hi ρ M) (Zuv x l Q E) E
def Zux(lo hi:Ro->Sto->Out (Option Int))(ρ:Ro)(Q:W0)(E:W2)(x:D)(M:Sto):Prop:=wO (lo ρ M) (Zuw x hi ρ Q E) E
theorem ZvV{lo:Ro->Sto->Out (Option Int)}:wO (eSl f lo hi ρ M) Q E=wO (f ρ M) (Zux lo hi ρ Q E) E:=ZsD
theorem Ztd:wO (slR (.ref n) l u' M) Q E=wL M[n]? (Zuu l u' Q M):=ZsE
theorem Zte:wO (oNo ρ M) QI E=QI none M:=rfl
def Zuy(Q:Option Int->Sto->Prop)(x:D)(M:Sto):Prop:=wI x (kQ Q some M)
theorem Ztf:wO (oSo f ρ M) QI E=wO (f ρ M) (Zuy QI) E:=ZsF
def kWh(bd:Sv)(ρ:Ro)(I:W1)(N:W1)(R:W0)(B C:W1)(E:W2)(k:Bool)(M:Sto):Prop:=Br k (wS (bd ρ M) I R N I E) (N ρ M)
theorem Znr(I:Nat->Ro->Sto->Prop)(st:∀n ρ M,I n ρ M->wO (c ρ M) (kWh bd ρ (fun ρ2 M2=>∃m,m<n/\I m ρ2 M2) N R B C E) E)(n:Nat)(ρ:Ro)(M:Sto)(h:I n ρ M):wS (sWh c bd ρ M) N R B C E:=Zku I st n ρ M h
theorem Zns{I:W1}{p:Prop}[Decidable p](h1:p->wS (bd ρ M) I R N I E)(h2:¬p->N ρ M):kWh bd ρ I N R B C E (decide p) M:=brD h1 h2
theorem Ztg(Inv:Ro->Prop)(F:Nat->D)(hl:xs.length<10000000)(hcnt:xs.length<=cnt src M)(h0:Inv (roB k fr ρ))(hs:∀(L:Sto)(i:Nat),i<=xs.length->nxt src i (M++L)=some xs[i]?)(st:∀(i:Nat)(h:i<xs.length)(ρ:Ro)(L:Sto),Inv ρ->wG (tg xs[i] ρ) fun r=>Inv r/\wO (f r (M++L)) (fun y M2=>y=F i/\M2=M++L) (fun _ _=>False))(hq:Q (.ref M.length) (M++[.lst ((aH xs.length).map F)])):kCo tg (fun _ M=>.ok true M) f k fr ρ Q src M:=Znp (Q:=fun M2=>Q (.ref M.length) M2) Inv F hl hcnt h0 hs st hq
theorem Zuz(Inv:Ro->Prop)(F:Nat->D)(hl:n<10000000)(h0:Inv (roB k fr ρ))(st:∀(i:Nat)(h:i<n)(ρ:Ro)(L:Sto),Inv ρ->wG (tg (.int i) ρ) fun r=>Inv r/\wO (f r (M++L)) (fun y M2=>y=F i/\M2=M++L) (fun _ _=>False))(hq:Q (.ref M.length) (M++[.lst ((aH n).map F)])):kCo tg (fun _ M=>.ok true M) f k fr ρ Q (.pur (Zbp 0 n)) M:=by
 refine Ztg (xs:=Zbp 0 n) Inv F (by rw[Zci];exact hl) (by simp[cnt]) h0 (fun L i hi=>rfl) (fun i hi ρ L hI=>?_) (by rw[Zci];exact hq)
 rw[ZiC]
 have:=st i (by rw[Zci]at hi;exact hi) ρ L hI
 rw[show(0:Int)+(i:Nat)=i by lia]
 exact this
theorem Znt(Inv:Ro->Prop)(F:Nat->D)(hM:M[n]?=some (.lst xs))(hl:xs.length<10000000)(h0:Inv (roB k fr ρ))(st:∀(i:Nat)(h:i<xs.length)(ρ:Ro)(L:Sto),Inv ρ->wG (tg xs[i] ρ) fun r=>Inv r/\wO (f r (M++L)) (fun y M2=>y=F i/\M2=M++L) (fun _ _=>False))(hq:Q (.ref M.length) (M++[.lst ((aH xs.length).map F)])):kCo tg (fun _ M=>.ok true M) f k fr ρ Q (.sto n) M:=
 Ztg (xs:=xs) Inv F hl (by rw[Zfu hM];exact aj _) h0 (fun L i hi=>by rw[Zgv];rw[ah (ZA hM)];exact hM) st hq
end
end DL
namespace DL
open L2
end DL
namespace DL
open L2
noncomputable def Zth(i j:Nat)(ρ:Ro)(N:W1)(d:D)(M:Sto):Prop:=N ((ρ.set i (some d)).set j (some d)) M
theorem Zlt:wS (ZJ (Zn7 (gNm k) (gNm m)) f ρ M) N R B C E=wO (f ρ M) (Zth k m ρ N) E:=Zaa
section
variable {src:Src}{tg:Tg}{c:Tv}{g:Ro->Sto->Out Ro}{P:Nat->Ro->Sto->Prop}
theorem ZkC(n:Nat)(step:∀i ρ M,i<n->P i ρ M->∃d ρ1 M1,nxt src i M=some (some d)/\tg d ρ=some ρ1/\((c ρ1 M=.ok false M1/\P (i+1) ρ1 M1)\/∃ρ2 M2,c ρ1 M=.ok true M1/\g ρ1 M1=.ok ρ2 M2/\P (i+1) ρ2 M2))(stop:∀ρ M,P n ρ M->nxt src n M=some none):∀(fuel i:Nat)(ρ:Ro)(M:Sto),i<=n->n-i<=fuel->P i ρ M->∃ρ' M',ZcP src tg c g fuel i ρ M=.ok ρ' M'/\P n ρ' M':=by
 intro fuel
 induction fuel with
 |zero=>
  intro i ρ M hi hf h;have e:i=n:=by lia
  subst e;exact⟨ρ,M,by rw[ZcP,stop ρ M h],h⟩
 |succ fuel ih=>
  intro i ρ M hi hf h;by_cases q:i=n
  ·subst q;exact⟨ρ,M,by rw[ZcP,stop ρ M h],h⟩
  ·obtain⟨d,ρ1,M1,e1,e2,e3⟩:=step i ρ M (by lia) h
   rcases e3 with⟨e3,h3⟩|⟨ρ2,M2,e3,e4,h3⟩
   ·obtain⟨ρ',M',z1,z2⟩:=ih (i+1) ρ1 M1 (by lia) (by lia) h3
    exact⟨ρ',M',by rw[ZcP,e1];simp only[e2,e3];exact z1,z2⟩
   ·obtain⟨ρ',M',z1,z2⟩:=ih (i+1) ρ2 M2 (by lia) (by lia) h3
    exact⟨ρ',M',by rw[ZcP,e1];simp only[e2,e3,e4];exact z1,z2⟩
def Zti(tg:Tg)(c:Tv)(g:Nat->Ro->Sto->Out Ro)(k:Nat)(fr:List Nat)(ρ:Ro)(Q:W0)(src:Src)(M1:Sto):Prop:=∃ρ' M',ZcP src tg c (g M1.length) (cnt src M1) 0 (roB k fr ρ) (M1++[.lst []])=.ok ρ' M'/\Q (.ref M1.length) M'
theorem ZiD{g:Nat->Ro->Sto->Out Ro}:wO (Zbt fi k fr tg c g ρ M) Q E=wO (fi ρ M) (Zti tg c g k fr ρ Q) E:=by
 unfold Zbt;rw[ZE];congr 1;funext src M1;unfold Zti;cases e:ZcP src tg c (g M1.length) (cnt src M1) 0 (roB k fr ρ) (M1++[.lst []])with
 |ok ρ' M'=>exact propext ⟨fun h=>⟨ρ',M',rfl,h⟩,fun⟨_,_,z,h⟩=>by cases z;exact h⟩
 |exc x M'=>exact propext ⟨fun h=>h.elim,fun⟨_,_,z,_⟩=>by cases z⟩
 |bad=>exact propext ⟨fun h=>h.elim,fun⟨_,_,z,_⟩=>by cases z⟩
end
end DL
namespace DL
open L2
end DL
namespace DL
open L2
def ZvW(n:Nat)(d k:D)(kk:List (List Key))(ρ:Ro)(N:W1)(M:Sto)(ds:List D):Prop:=ds.length<10000000/\N ρ (M.set n (.lst (Zn6 kyU kk k d ds)))
def ZuA(d x:D)(ρ:Ro)(N:W1)(k:D)(M:Sto):Prop:=∃n kk,x=.du n/\kyU k=some kk/\wL M[n]? (ZvW n d k kk ρ N M)
def Ztj(fi:Ev)(d:D)(ρ:Ro)(N:W1)(E:W2)(x:D)(M:Sto):Prop:=wO (fi ρ M) (ZuA d x ρ N) E
def Ztk(fo fi:Ev)(ρ:Ro)(N:W1)(E:W2)(d:D)(M:Sto):Prop:=wO (fo ρ M) (Ztj fi d ρ N E) E
theorem ZqJ:wS (Zkj fo fi f ρ M) N R B C E=wO (f ρ M) (Ztk fo fi ρ N E) E:=by
 unfold Zkj;rw[Zaa];congr 1;funext d M1;rw[Zaa];unfold Ztk;congr 1;funext x M2;rw[Zaa];unfold Ztj;congr 1;funext k M3;unfold ZuA;cases x with
 |du n=>
  cases e:kyU k with
  |none=>exact propext ⟨fun h=>h.elim,fun⟨_,_,_,z,_⟩=>by cases z⟩
  |some kk=>
   cases em:M3[n]? with
   |none=>simp only[em];exact propext ⟨fun h=>h.elim,fun⟨n',_,z,_,h⟩=>by cases z;rw[em]at h;exact h.elim⟩
   |some o=>
    cases o with
    |lst ds=>
     by_cases c:ds.length<10000000
     ·simp only[em,if_pos c];exact propext ⟨fun h=>⟨n,kk,rfl,rfl,by rw[em];exact⟨c,h⟩⟩,fun⟨n',kk',z,z',h⟩=>by cases z;cases z';rw[em]at h;exact h.2⟩
     ·simp only[em,if_neg c];exact propext ⟨fun h=>h.elim,fun⟨n',kk',z,z',h⟩=>by cases z;cases z';rw[em]at h;exact absurd h.1 c⟩
 |_=>exact propext ⟨fun h=>h.elim,fun⟨_,_,z,_⟩=>by cases z⟩
def ZuB(Q:W0)(M:Sto)(es:List D):Prop:=Q (.ref M.length) (M++[.lst (es.map Zh9)])
theorem Ztl:wO (bLisU [.du n] M) Q E=wL M[n]? (ZuB Q M):=by
 show wO (match M[n]? with|some (.lst es)=>Out.ok (.ref M.length) (M++[.lst (es.map Zh9)])|none=>.bad) Q E=_
 cases M[n]? with
 |none=>rfl
 |some o=>cases o with|lst xs=>rfl
theorem Ztm:wO (eDnU ρ M) Q E=Q (.du M.length) (M++[.lst []]):=rfl
end DL
namespace DL
noncomputable abbrev Pt:=Int×Int
noncomputable def X(p q:Pt):Int:=p.1*q.2-p.2*q.1
section
variable {rs:List Pt}{i j:Int}{k:Nat}{p:Pt}
theorem Za8{α:Type}{l:List α}{d:α}(h:n<l.length):l.getD n d=l[n]:=by simp[af h]
theorem Zbr(h:0<=i/\i<rs.length):cy rs i=rs.getD i.toNat (0,0):=by
 unfold cy;rw[fK h.1 h.2]
theorem Zab{m:Nat}(h:m≠0):(i%m).toNat<m/\0<=i%m:=by
 have:=cC i (show(0:Int)<m by lia)
 have:=dF i (show(m:Int)≠0 by lia)
 lia
theorem Z0(h:rs≠[]):cy rs i∈rs:=by
 have hl:rs.length≠0:=by simpa using h
 unfold cy;rw[Za8 (Zab hl).1];exact cj _
theorem ZdN{f:Pt->Pt}(h:rs≠[]):cy (rs.map f) i=f (cy rs i):=by
 have hl:rs.length≠0:=by simpa using h
 unfold cy;rw[aB,Za8 (by rw[aB];exact(Zab hl).1),Za8 (Zab hl).1,j9]
theorem ZbI(hk:k<=rs.length):cy (rs.drop k++rs.take k) i=cy rs (i+k):=by
 by_cases h:rs.length=0
 ·have:rs=[]:=by simpa using h
  subst this;simp[cy]
 have hL:(rs.drop k++rs.take k).length=rs.length:=by simp;lia
 have e1:cy (rs.drop k++rs.take k) i=cy (rs.drop k++rs.take k) (i%rs.length):=by
  conv=>rhs;rw[<-hL,Zb3]
 have e2:cy rs (i+k)=cy rs (i%rs.length+k):=by
  unfold cy;rw[iy]
 rw[e1,e2];obtain⟨a,b⟩:=Zab (i:=i) h;generalize hm:i%(rs.length:Int)=m at *;have hm2:m<rs.length:=by lia
 rw[Zbr (by rw[hL];lia)]
 by_cases c:m+k<rs.length
 ·rw[Zbr (by lia)]
  rw[ao,ao,ah (by simp;lia),gQ]
  congr 2;lia
 ·rw[<-Zdb,Zbr (by lia)]
  rw[ao,ao,aI (by simp;lia),bY (by simp;lia)]
  congr 2;simp;lia
noncomputable def ins(rs:List Pt)(k:Nat)(p:Pt):List Pt:=rs.take (k+1)++p::rs.drop (k+1)
theorem Zea(hk:k<rs.length):(ins rs k p).length=rs.length+1:=by simp[ins];lia
theorem Zlu(hk:k<rs.length)(h0:0<=j)(h1:j<=rs.length+1):cy (ins rs k p) j=if j<=k then cy rs j else if j=k+1 then p else cy rs (j-1):=by
 have hL:=Zea (p:=p) hk;by_cases e:j=rs.length+1
 ·subst e;rw[if_neg (by lia),if_neg (by lia)]
  have e1:cy (ins rs k p) (rs.length+1)=cy (ins rs k p) 0:=by
   have:=Zdb (rs:=ins rs k p) (i:=(rs.length:Int)+1)
   rw[hL]at this;rw[<-this];congr 1;lia
  have e2:cy rs ((rs.length:Int)+1-1)=cy rs 0:=by
   rw[<-Zdb];congr 1;lia
  rw[e1,e2,Zbr (by rw[hL];lia),Zbr (by lia)]
  unfold ins;rw[ao,ao,ah (by simp;lia),bY (by simp)]
 ·have hj:j<rs.length+1:=by lia
  rw[Zbr (by rw[hL];lia)]
  unfold ins;rw[ao];by_cases c1:j<=k
  ·rw[if_pos c1,Zbr (by lia),ao,ah (by simp;lia),bY (by lia)]
  ·rw[if_neg c1,aI (by simp;lia)]
   have hl:(rs.take (k+1)).length=k+1:=by simp;lia
   rw[hl];by_cases c2:j=k+1
   ·rw[if_pos c2]
    have:j.toNat-(k+1)=0:=by lia
    rw[this];rfl
   ·rw[if_neg c2,Zbr (by lia),ao]
    obtain⟨z,hz⟩:∃z,j.toNat-(k+1)=z+1:=⟨j.toNat-(k+1)-1,by lia⟩
    rw[hz,dB,gQ];congr 2;lia
theorem Zdc{P:Pt->Pt->Prop}(hn:rs.length≠0)(h:∀i:Int,0<=i->i<rs.length->P (cy rs i) (cy rs (i+1)))(i:Int):P (cy rs i) (cy rs (i+1)):=by
 have e1:cy rs i=cy rs (i%rs.length):=Zb3.symm;have e2:cy rs (i+1)=cy rs (i%rs.length+1):=by
  unfold cy;rw[iy]
 rw[e1,e2];obtain⟨a,b⟩:=Zab (i:=i) hn;exact h _ b (by lia)
noncomputable def cc(f:Pt->Pt->Nat):List Pt->Nat
 |a::b::r=>f a b+cc f (b::r)
 |_=>0
def cyc(f:Pt->Pt->Nat)(rs:List Pt):Nat:=cc f (rs++rs.take 1)
theorem ZbJ{f:Pt->Pt->Nat}:∀(L:List Pt)(a:Pt)(R:List Pt),cc f (L++a::R)=cc f (L++[a])+cc f (a::R)
 |[],a,R=>by simp[cc]
 |[b],a,R=>by simp[cc]
 |b::c::L,a,R=>by
  have:=ZbJ (f:=f) (c::L) a R
  simp only[aQ,cc]at this ⊢;lia
theorem Zlv{f:Pt->Pt->Nat}{g:Pt->Pt}:∀(L:List Pt),cc f (L.map g)=cc (fun a b=>f (g a) (g b)) L
 |[]=>rfl
 |[_]=>rfl
 |a::b::L=>by
  have:=Zlv (f:=f) (g:=g) (b::L)
  simp only[aL,cc]at this ⊢;lia
theorem Zlw{f:Pt->Pt->Nat}:∀(L:List Pt),cc f L.reverse=cc (fun a b=>f b a) L
 |[]=>rfl
 |[_]=>rfl
 |a::b::L=>by
  have:=Zlw (f:=f) (b::L)
  rw[iz,iz,ii,kX,ZbJ];rw[iz]at this;simp only[cc]at this ⊢;lia
theorem ZaO:cyc f (a::r)=cc f (a::(r++[a])):=by simp[cyc]
theorem ZbO(A B:List Pt):cyc f (A++B)=cyc f (B++A):=by
 cases A with
 |nil=>simp
 |cons a A=>
  cases B with
  |nil=>simp
  |cons b B=>
   rw[aQ,ZaO,aQ,ZaO];have e1:a::(A++b::B++[a])=(a::A)++b::(B++[a]):=by simp
   have e2:b::(B++a::A++[b])=(b::B)++a::(A++[b]):=by simp
   rw[e1,e2,ZbJ (a::A) b,ZbJ (b::B) a];simp only[aQ];lia
theorem Zeb(L:List Pt):cyc f (L.map g)=cyc (fun a b=>f (g a) (g b)) L:=by
 unfold cyc;rw[<-List.map_take,<-dE,Zlv]
theorem ZiE(L:List Pt):cyc f L.reverse=cyc (fun a b=>f b a) L:=by
 cases L with
 |nil=>rfl
 |cons a L=>
  rw[iz,ZbO,kX,ZaO,ZaO,<-Zlw];congr 1;simp
def in1(w a b:Pt):Nat:=if 0<=X a w/\0<X w b then 1 else 0
def in2(w a b:Pt):Nat:=if 0<X a w/\0<=X w b then 1 else 0
def Fan(rs:List Pt):Prop:=∀w:Pt,w≠(0,0)->cyc (in1 w) rs=1/\cyc (in2 w) rs=1
theorem ZqK:X w (a.1+b.1,a.2+b.2)=X w a+X w b/\X (a.1+b.1,a.2+b.2) w=X a w+X b w:=by unfold X;constructor<;>grind
theorem Zcj{p:Pt}:X p q=0-X q p:=by unfold X;grind
theorem ZiF:in1 w a b=in1 w a (a.1+b.1,a.2+b.2)+in1 w (a.1+b.1,a.2+b.2) b:=by
 have s:=ZqK (a:=a) (b:=b) (w:=w);have e1:=Zcj (p:=w) (q:=a);have e2:=Zcj (p:=b) (q:=w);unfold in1;rw[s.1,s.2,e1,e2];generalize X a w=p;generalize X w b=q
 repeat' split
 all_goals lia
theorem ZiG:in2 w a b=in2 w a (a.1+b.1,a.2+b.2)+in2 w (a.1+b.1,a.2+b.2) b:=by
 have s:=ZqK (a:=a) (b:=b) (w:=w);have e1:=Zcj (p:=w) (q:=a);have e2:=Zcj (p:=b) (q:=w);unfold in2;rw[s.1,s.2,e1,e2];generalize X a w=p;generalize X w b=q
 repeat' split
 all_goals lia
theorem Zfw{L R:List Pt}:cy (L++a::R) L.length=a:=by
 rw[Zbr (by simp;lia)]
 simp
theorem ZqL{L R:List Pt}:cy (L++a::b::R) (L.length+1)=b:=by
 rw[Zbr (by simp;lia)]
 rw[show((L.length:Int)+1).toNat=L.length+1 by lia]
 simp
theorem Zfx{r:List Pt}:cy (a::r) (r.length+1)=a:=by
 have:=Zdb (rs:=a::r) (i:=(r.length:Int)+1)
 rw[<-this,bC,show(r.length:Int)+1-((r.length+1:Nat):Int)=0 by lia,Zbr (by simp)]
 rfl
theorem ZiH(hk:k<rs.length)(hf:f (cy rs k) (cy rs (k+1))=f (cy rs k) p+f p (cy rs (k+1))):cyc f (ins rs k p)=cyc f rs:=by
 obtain⟨L,a,R,e,hl⟩:∃L a R,rs=L++a::R/\L.length=k:=⟨rs.take k,rs[k],rs.drop (k+1),by rw[kF,dh],by simp;lia⟩
 have ei:ins rs k p=L++a::p::R:=by
  unfold ins;rw[e,<-hl,iJ,iK,bf (by lia),bW (by lia)]
  simp
 have ca:cy rs k=a:=by rw[e,<-hl];exact Zfw
 cases R with
 |cons b R=>
  have cb:cy rs (k+1)=b:=by rw[e,<-hl];exact ZqL
  rw[ca,cb]at hf;rw[ei,e,ZbO,ZbO L];simp only[aQ,ZaO,cc];lia
 |nil=>
  cases L with
  |nil=>
   have cb:cy rs (k+1)=a:=by
    rw[e,<-hl];exact Zfx (r:=[]) (a:=a)
   rw[ca,cb]at hf;rw[ei,e];simp[cyc,cc];lia
  |cons b L=>
   have cb:cy rs (k+1)=b:=by
    rw[e,<-hl]
    have:=Zfx (r:=L++[a]) (a:=b)
    simp only[a6,bC,fA]at this ⊢;exact this
   rw[ca,cb]at hf;rw[ei,e];simp only[aQ,ZaO];have e1:b::(L++[a,p]++[b])=(b::L)++a::[p,b]:=by simp
   have e2:b::(L++[a]++[b])=(b::L)++a::[b]:=by simp
   rw[e1,e2,ZbJ,ZbJ (b::L) a [b]];simp only[cc];lia
theorem Fan.rot(h:Fan rs):Fan (rs.drop k++rs.take k):=fun w hw=>by
 rw[ZbO,ZbO (rs.drop k),dh];exact h w hw
theorem Fan.ins(h:Fan rs)(hk:k<rs.length):Fan (ins rs k ((cy rs k).1+(cy rs (k+1)).1,(cy rs k).2+(cy rs (k+1)).2)):=fun w hw=>by
 rw[ZiH hk ZiF,ZiH hk ZiG];exact h w hw
theorem Zlx{f:Pt->Pt}(hs:s=1\/s= -1)(hf:∀p q,X (f p) (f q)=s*X p q)(w:Pt)(hw:w≠(0,0)):∃w':Pt,w'≠(0,0)/\∀a,X (f a) w=s*X a w':=by
 have d:=hf (1,0) (0,1);have d1:X (f (1,0)) (f (0,1))=s:=by rw[d];simp[X]
 have lin:∀a,(f a).1=a.1*(f (1,0)).1+a.2*(f (0,1)).1/\(f a).2=a.1*(f (1,0)).2+a.2*(f (0,1)).2:=by
  intro a;have h1:=hf a (1,0);have h2:=hf a (0,1);generalize f a=u at *;generalize f (1,0)=e1 at *;generalize f (0,1)=e2 at *;unfold X at *;rcases hs with rfl|rfl<;>constructor<;>grind
 refine⟨(X w (f (0,1))*s,X (f (1,0)) w*s),?_,?_⟩
 ·intro z;apply hw;have z1:=congrArg iX z;have z2:=congrArg kc z;simp only at z1 z2;generalize f (1,0)=e1 at *;generalize f (0,1)=e2 at *;unfold X at *;apply b5
  ·rcases hs with rfl|rfl<;>simp only[]<;>grind
  ·rcases hs with rfl|rfl<;>simp only[]<;>grind
 ·intro a;obtain⟨l1,l2⟩:=lin a;unfold X;rw[l1,l2];rcases hs with rfl|rfl<;>simp only[]<;>grind
theorem Fan.map(h:Fan rs)(hf:∀p q,X (f p) (f q)=X p q):Fan (rs.map f):=fun w hw=>by
 obtain⟨w',hw',e⟩:=Zlx (s:=1) (.inl rfl) (fun p q=>by rw[hf,mV]) w hw
 have e2:∀a,X w (f a)=X w' a:=fun a=>by rw[Zcj,e,Zcj (p:=w')];lia
 have c1:∀a b,in1 w (f a) (f b)=in1 w' a b:=fun a b=>by unfold in1;rw[e,e2,mV]
 have c2:∀a b,in2 w (f a) (f b)=in2 w' a b:=fun a b=>by unfold in2;rw[e,e2,mV]
 rw[Zeb,Zeb,show(fun a b=>in1 w (f a) (f b))=in1 w' from funext fun a=>funext fun b=>c1 a b,show(fun a b=>in2 w (f a) (f b))=in2 w' from funext fun a=>funext fun b=>c2 a b];exact h w' hw'
theorem Fan.flip(h:Fan rs)(hf:∀p q,X (f p) (f q)= -1*X p q):Fan (rs.map f).reverse:=fun w hw=>by
 obtain⟨w',hw',e⟩:=Zlx (s:= -1) (.inr rfl) hf w hw;have e2:∀a,X w (f a)= -1*X w' a:=fun a=>by rw[Zcj,e,Zcj (p:=w')];lia
 have c1:∀a b,in1 w (f b) (f a)=in2 w' a b:=fun a b=>by
  unfold in1 in2;rw[e,e2,Zcj (p:=b)]
  have:=Zcj (p:=a) (q:=w')
  simp only[show(0<= -1*(0-X w' b)/\0 < -1*X w' a)=(0<X a w'/\0<=X w' b)from propext ⟨fun _=>by lia,fun _=>by lia⟩]
 have c2:∀a b,in2 w (f b) (f a)=in1 w' a b:=fun a b=>by
  unfold in1 in2;rw[e,e2,Zcj (p:=b)]
  have:=Zcj (p:=a) (q:=w')
  simp only[show(0 < -1*(0-X w' b)/\0<= -1*X w' a)=(0<=X a w'/\0<X w' b)from propext ⟨fun _=>by lia,fun _=>by lia⟩]
 rw[ZiE,ZiE,Zeb,Zeb,show(fun a b=>in1 w (f b) (f a))=in2 w' from funext fun a=>funext fun b=>c1 a b,show(fun a b=>in2 w (f b) (f a))=in1 w' from funext fun a=>funext fun b=>c2 a b];exact⟨(h w' hw').2,(h w' hw').1⟩
structure Smo(rs:List Pt):Prop where
 len:3<=rs.length
 one:∀i:Int,X (cy rs i) (cy rs (i+1))=1
 fan:Fan rs
noncomputable def Nr(b:Int)(rs:List Pt):Prop:=∀p∈rs,(-b<=p.1/\p.1<=b)/\ -b<=p.2/\p.2<=b
theorem Smo.ne(h:Smo rs):rs≠[]:=by
 intro z
 have:=h.len
 rw[z]at this;simp at this
theorem Nr.cy{b:Int}(h:Nr b rs)(hn:rs≠[])(i:Int):(-b<=(cy rs i).1/\(cy rs i).1<=b)/\ -b<=(cy rs i).2/\(cy rs i).2<=b:=h _ (Z0 hn)
theorem Smo.ins(h:Smo rs)(hk:k<rs.length):Smo (ins rs k ((cy rs k).1+(cy rs (k+1)).1,(cy rs k).2+(cy rs (k+1)).2)):=by
 have hL:=Zea (p:=((cy rs k).1+(cy rs (k+1)).1,(cy rs k).2+(cy rs (k+1)).2)) hk;refine⟨by rw[hL];have:=h.len;lia,?_,h.fan.ins hk⟩
 refine Zdc (P:=fun a b=>X a b=1) (by lia) ?_
 intro i h0 h1;rw[hL]at h1;rw[Zlu hk h0 (by lia),Zlu hk (by lia) (by lia)]
 have ok:=h.one k;by_cases c1:i+1<=k
 ·rw[if_pos (by lia),if_pos c1];exact h.one i
 ·rw[if_neg c1];by_cases c2:i=k
  ·subst c2;rw[if_pos (by lia),if_pos rfl]
   unfold X at *;grind
  ·rw[if_neg (by lia:¬i<=(k:Int)),if_neg (by lia:¬i+1=(k:Int)+1)]
   by_cases c3:i=k+1
   ·subst c3;rw[if_pos rfl]
    have:(k:Int)+1+1-1=k+1:=by lia
    rw[this];unfold X at *;grind
   ·rw[if_neg c3]
    have:=h.one (i-1)
    have e:i-1+1=i+1-1:=by lia
    rw[e]at this;exact this
theorem Smo.rot(h:Smo rs)(hk:k<=rs.length):Smo (rs.drop k++rs.take k):=by
 refine⟨by have:=h.len;simp;lia,fun i=>?_,h.fan.rot⟩
 rw[ZbI hk,ZbI hk]
 have:=h.one (i+k)
 have e:i+(k:Int)+1=i+1+k:=by lia
 rw[e]at this;exact this
theorem Smo.map(h:Smo rs)(hf:∀p q,X (f p) (f q)=X p q):Smo (rs.map f):=by
 refine⟨by have:=h.len;simp;lia,fun i=>?_,h.fan.map hf⟩
 rw[ZdN h.ne,ZdN h.ne,hf];exact h.one i
theorem Nr.ins{b:Int}(h:Nr b rs)(hp:(-b<=p.1/\p.1<=b)/\ -b<=p.2/\p.2<=b):Nr b (ins rs k p):=by
 intro q hq;rcases aY.mp hq with hq|hq
 ·exact h q (eO hq)
 ·rcases ar.mp hq with hq|hq
  ·subst hq;exact hp
  ·exact h q (fU hq)
theorem Nr.rot(h:Nr b rs):Nr b (rs.drop k++rs.take k):=by
 intro q hq;rcases aY.mp hq with hq|hq
 ·exact h q (fU hq)
 ·exact h q (eO hq)
end
end DL
namespace CC
open L2 DL
def ZaG:Sv:=(Z9 (e2 dSub (e2 dMul (e2 dIx (Zf 0) (eC (.int 0))) (e2 dIx (Zf 1) (eC (.int 1)))) (e2 dMul (e2 dIx (Zf 0) (eC (.int 1))) (e2 dIx (Zf 1) (eC (.int 0))))))
def F_crossed:W3:=fnF ZaG 2 0
def ZaH:Sv:=(Z9 (e2 dIx (Zf 0) (e2 dMod (e2 dAdd (Zf 1) (eC (.int 1))) (Zj bLen (Zc (Zf 0) aNil)))))
def F_following:W3:=fnF ZaH 2 0
def Z4:Sv:=(sIf (tv (e2 dNe (Zj F_crossed (Zc (Zf 2) (Zc (Zj F_following (Zc (Zf 0) (Zc (Zf 1) aNil))) aNil))) (eC (.int 1)))) (Z9 (Zf 1)) sNil)
def ZaI:Sv:=(ZB (Zfm (gTp (gCs (gNm 1) (gCs (gNm 2) gNl))) (iEn (Zc (Zf 0) aNil)) Z4) (Z9 (eC .non)))
def F_unspanned:W3:=fnF ZaI 1 2
def Zat:Sv:=(ZB (ZJ (gNm 1) (Zj F_unspanned (Zc (Zf 0) aNil))) (sIf (tv (e2 dIsNot (Zf 1) (eC .non))) (ZcB (PySem.Str.ofString "NotSmooth") (Zc (eFs (ZcI (eC (.str (PySem.Str.ofString "ray "))) (ZcI (eFm (Zf 1)) (ZcI (eC (.str (PySem.Str.ofString " does not cross the next one in 1"))) jNil)))) aNil)) sNil))
def F_ask_smooth:W3:=fnF Zat 1 1
def Za9:Sv:=(ZB (ZJ (gNm 2) (eC (.int 0))) (ZB (sIf (tv (e2 dLt (Zf 1) (Zj bLen (Zc (Zf 0) aNil)))) (ZJ (gNm 2) (e2 dMod (e2 dIx (Zf 0) (Zf 1)) (e2 dPow (eC (.int 10)) (eC (.int 60))))) sNil) (ZB (sIf (tv (e2 dLt (Zf 2) (e2 dPow (eC (.int 10)) (eC (.int 18))))) (ZB (ZJ (gNm 3) (e2 dMod (e2 dMul (e2 dAdd (Zf 2) (e2 dMul (eC (.int 1442695040888963407)) (e2 dAdd (Zf 1) (eC (.int 1))))) (eC (.int 6364136223846793005))) (e2 dPow (eC (.int 10)) (eC (.int 37))))) (ZJ (gNm 2) (e2 dMod (e2 dDiv (e2 dMul (Zf 3) (Zf 3)) (e2 dPow (eC (.int 10)) (eC (.int 17)))) (e2 dPow (eC (.int 10)) (eC (.int 56)))))) sNil) (Z9 (Zf 2)))))
def F_law_cell_at:W3:=fnF Za9 2 2
def Zdd:Sv:=(Z9 (e2 dSub (e2 dMul (e2 dIx (Zf 0) (eC (.int 0))) (e2 dIx (Zf 1) (eC (.int 1)))) (e2 dMul (e2 dIx (Zf 0) (eC (.int 1))) (e2 dIx (Zf 1) (eC (.int 0))))))
def F_law_cross:W3:=fnF Zdd 2 0
def Zba:Sv:=(sIf (tv (e2 dEq (Zf 4) (eC (.int 0)))) (Za4 (Zgi mApp (Zf 5) (Zc (Z5 (Zc (e2 dAdd (Zf 6) (e2 dMul (Zf 3) (Zf 7))) (Zc (Zf 7) aNil))) aNil))) (sIf (tv (e2 dEq (Zf 4) (eC (.int 1)))) (Za4 (Zgi mApp (Zf 5) (Zc (Z5 (Zc (Zf 6) (Zc (e2 dAdd (Zf 7) (e2 dMul (Zf 3) (Zf 6))) aNil))) aNil))) (sIf (tv (e2 dEq (Zf 4) (eC (.int 2)))) (Za4 (Zgi mApp (Zf 5) (Zc (Z5 (Zc (e2 dSub (eC (.int 0)) (Zf 7)) (Zc (Zf 6) aNil))) aNil))) (Za4 (Zgi mApp (Zf 5) (Zc (Z5 (Zc (Zf 6) (Zc (Zf 7) aNil))) aNil))))))
def Zbb:Sv:=(ZB (ZJ (gNm 3) (e2 dSub (e2 dMod (e2 dDiv (Zf 1) (eC (.int 4))) (eC (.int 5))) (eC (.int 2)))) (ZB (sIf (tv (e2 dEq (e2 dMod (e2 dDiv (Zf 1) (eC (.int 20))) (eC (.int 8))) (eC (.int 0)))) (ZJ (gNm 3) (e2 dSub (e2 dMod (e2 dDiv (Zf 1) (eC (.int 160))) (eC (.int 19))) (eC (.int 9)))) sNil) (ZB (ZJ (gNm 4) (e2 dMod (Zf 1) (eC (.int 4)))) (ZB (ZJ (gNm 1) (e2 dDiv (Zf 1) (eC (.int 3040)))) (ZB (ZJ (gNm 5) (Zdt aNil)) (ZB (Zj0 (gTp (gCs (gNm 6) (gCs (gNm 7) gNl))) (Zf 0) Zba) (sIf (tv (e2 dLe (Zj (ZaS jj) (Zc (e2 dAdd (Zai (iSq (Zf 5)) 2 [] (gTp (gCs (gNm 0) (gCs (gNm 1) gNl))) (fun _ M=>.ok true M) (Zj bAbs (Zc (Zf 0) aNil))) (Zai (iSq (Zf 5)) 2 [] (gTp (gCs (gNm 0) (gCs (gNm 1) gNl))) (fun _ M=>.ok true M) (Zj bAbs (Zc (Zf 1) aNil)))) aNil)) (eC (.int 200)))) (ZJ (gNm 0) (Zf 5)) sNil)))))))
def Zck:Sv:=(ZB (ZbH (gNm 2) (Zc (eC (.int 3)) aNil) Zbb) (Z9 (Zf 0)))
def F_law_turn:W3:=fnF Zck 2 6
def Zcl:Sv:=(ZB (ZJ (gNm 1) (Zj bLen (Zc (Zf 0) aNil))) (Z9 (Zai (iR1 (Zc (Zf 1) aNil)) 1 [0,1] (gNm 0) (fun _ M=>.ok true M) (e2 dSub (eC (.int 0)) (Zj F_law_cross (Zc (e2 dIx (Zf 1) (e2 dSub (Zf 0) (eC (.int 1)))) (Zc (e2 dIx (Zf 1) (e2 dMod (e2 dAdd (Zf 0) (eC (.int 1))) (Zf 2))) aNil)))))))
def F_law_tags:W3:=fnF Zcl 1 1
def ZW:Sv:=(sIf (Zel (Zcd (tv (Zjy "int" (Zf 2)))) (tv (Zjy "bool" (Zf 2)))) (Z9 (eC (.bl false))) sNil)
def Zal:Sv:=(ZB (sIf (Zel (Zcd (tv (Zjy "tuple" (Zf 1)))) (tv (e2 dNe (Zj bLen (Zc (Zf 1) aNil)) (eC (.int 2))))) (Z9 (eC (.bl false))) sNil) (Zj0 (gNm 2) (Zf 1) ZW))
def ZaU:Sv:=(ZB (sIf (Zcd (tv (Zjy "list" (Zf 0)))) (Z9 (eC (.bl false))) sNil) (ZB (Zj0 (gNm 1) (Zf 0) Zal) (Z9 (eC (.bl true)))))
def F_law_are_rays:W3:=fnF ZaU 1 2
end CC
open L2 DL
set_option hygiene false
set_option compiler.extract_closed false
local macro_rules|`(tactic|simp! $c:optConfig [$ls,*])=>do let x←("ZvD y_c y_v Zqn ZsL Zqo ZsM ZsN ZsO Zqp ZsQ Zqq ZvE ZvF ZsR ZsS Zqr Zqs ZvH ZsT ZvI Zqt ZsU Zqu ZsV Zqv ZsW ZsX Zqw Zqx ZvJ ZvK ZsZ Zs0 Zqy Zs1 Zqz ZqA Zs2 ZqB ZqC ZqD ZqE ZvM ZvN ZvO Zs3 Zs4 Zs5 ZvP ZvQ Zs6 ZvR ZvS ZvT Zs7 Zs8 Zs9 Zta ZqG Znq ZqH ZvU Ztb Ztc ZvV Ztd Zte Ztf kU kQ kB2 kB1 kA2 kA1 kTu kLs kTy kTA kTO kTN kSq kDr kSi kAs kAt Zua kPa Zub Zuc kR1 Zud Zue Zuf kR2 kFo kFs Zug Zuh kS1 Zui Zuj Zuk kS2 Zul kEn Zum Zun kZp ZqF Zuo kEq kNe kIx Zup kLi Zuq Zur kMt Zus ZqI Zut Zuu Zuv Zuw Zux Zuy Zky Zkz ZiA ZkA Zgu ZiB ZkB Znm decide_eq_true decide_eq_false wF1 wF2 wF3 wF4 Zm ZpH Zvj Zvk Zvl Zvm Zvn Zvh Zvi Zsn Zso Zsp ZpR Zsq Zsr Zss Zvp Zvq Zvr Zvs ZpT ZpU Zsy Zsz ZsA ZpV ZpW Znh ZpY ZpZ Zkv ZsH ZsI ZsJ ZsK id roB kpR cond_true cond_false at0 at1 gTp gCs gNl gNm List.set_cons_zero List.set_cons_succ ke dB bC fA a6 aB aL fm aQ bS ii cg List.replicate_succ List.replicate_zero Option.join_some jA Zkw ZrH Zkx Zlq Zp0 Zp1 ZI Zni Znj Zvy Zoa Zp4 ZsG Zp5 Zp6 Zp8 Zp9 Zqa Zqb Zqc Zqd Zqe Zqf Zqg Zqh Zqi Zqj true_and and_true dM lg decide_true decide_false Nat.reduceAdd Nat.reduceLeDiff Nat.reduceLT Nat.add_zero gj Int.reducePow Int.reduceToNat Int.reduceNeg Int.reduceMod Int.reduceDiv Int.reduceAdd Int.reduceSub Int.reduceMul Int.cast_ofNat_Int Int.reduceEq Int.reduceLT Int.reduceLE".splitOn " ").toArray.mapM fun s=>`(Lean.Parser.Tactic.simpLemma|$(Lean.mkIdent s.toName):ident);`(tactic|simp $c:optConfig (disch := lia) only [$x,*,$ls,*])
set_option hygiene true
namespace CC
open L2 DL
section
variable {i:Int}{rs:List Pt}
theorem Za1(ha: -(18446744073709551616)<a/\a<18446744073709551616)(hb: -(18446744073709551616)<b/\b<18446744073709551616):wO (F_crossed [pr a b,pr c d] M) Q E=Q (.int (a*d-b*c)) M:=by
 simp![F_crossed,ZaG]
theorem ZiI(ha: -(18446744073709551616)<a/\a<18446744073709551616)(hb: -(18446744073709551616)<b/\b<18446744073709551616):wO (F_law_cross [pr a b,pr c d] M) Q E=Q (.int (a*d-b*c)) M:=Za1 ha hb
theorem ZbP(h:M[n]?=some (.lst (prs rs)))(hi:0<=i/\i<rs.length):wO (F_following [.ref n,.int i] M) Q E=Q (pr (cy rs (i+1)).1 (cy rs (i+1)).2) M:=by
 have e:=Zab (i:=i+1) (m:=rs.length) (by lia)
 simp![F_following,ZaH,h,ZaN,Zb3]
theorem Zde{rs:List Pt}{i:Nat}(h:i<(prs rs).length):(prs rs)[i]=pr (cy rs i).1 (cy rs i).2:=by
 have h':i<rs.length:=by rw[ZI]at h;exact h
 rw[Zb4 h'];simp[prs]
theorem Nr.big{rs:List Pt}(h:Nr b rs)(hb:b<=18446744073709551615)(hn:rs≠[])(i:Int):(-(18446744073709551616)<(cy rs i).1/\(cy rs i).1<18446744073709551616)/\(-(18446744073709551616)<(cy rs i).2/\(cy rs i).2<18446744073709551616):=by
 have:=Nr.cy h hn i
 lia
theorem Zfy(h:M[n]?=some (.lst (prs rs)))(hs:Smo rs)(hb:Nr 18446744073709551615 rs)(k:Q .non M):wO (F_unspanned [.ref n] M) Q E:=by
 simp![F_unspanned,ZaI];refine Zql (fun i ρ M'=>M'=M/\∃x y,ρ=[some (.ref n),x,y]) h ⟨rfl,_,_,rfl⟩ (fun i ρ M' hI=>by rw[hI.1];exact h) ?_ ?_
 ·rintro i ρ M' hi ⟨rfl,x,y,rfl⟩;have b1:=Nr.big hb (by decide) hs.ne i
  have o1:=hs.one i;have hi':i<rs.length:=by rw[ZI]at hi;exact hi
  rw[Zde];simp![Z4,ZbP h,Za1];unfold X at o1;rw[o1];simp![Zm];exact⟨_,_,rfl⟩
 ·rintro ρ M' ⟨rfl,x,y,rfl⟩;simp![Zm];exact k
theorem ZcC(h:M[n]?=some (.lst (prs rs)))(hs:Smo rs)(hb:Nr 18446744073709551615 rs)(k:Q .non M):wO (F_ask_smooth [.ref n] M) Q E:=by
 simp![F_ask_smooth,Zat];refine Zfy h hs hb ?_;simp![Zm];exact k
theorem ZqM{i:Int}(hi:0<=i/\i<10^60)(hj:0<=j/\j<10^60):Zs i j:=Zr 200 200 (show i.natAbs<2^200 by lia) (show j.natAbs<2^200 by lia) (by decide) (by decide)
theorem ZiJ{ns:List Int}{k:Nat}(q:∀c:Int,0<=c->Q (.int c) M):wO (F_law_cell_at [.rol (ns.map D.int),.int k] M) Q E:=by
 have tail:∀v:Int,0<=v->Q (.int v) M:=q;simp! -implicitDefEqProofs [F_law_cell_at,Za9];refine brS (fun h1=>?_) (fun h1=>?_)
 ·have h2:k<ns.length:=by simpa using h1
  simp! -implicitDefEqProofs [Zkt h2];obtain⟨c,hc,c0⟩:∃c:Int,ns[k]%1000000000000000000000000000000000000000000000000000000000000=c/\0<=c:=⟨_,rfl,by lia⟩
  rw[hc];refine brS (fun h1=>?_) (fun h1=>?_)
  ·simp! -implicitDefEqProofs [];rw[ZG (ZqM (by lia) (by lia))]
   simp! -implicitDefEqProofs [];exact q _ (by lia)
  ·simp! -implicitDefEqProofs [];exact q _ c0
 ·obtain⟨c,hc,c0⟩:∃c:Int,0=c/\0<=c:=⟨_,rfl,by lia⟩
  rw[hc];simp! -implicitDefEqProofs [];rw[ZG (ZqM (by lia) (by lia))]
  simp! -implicitDefEqProofs [];exact q _ (by lia)
noncomputable def tf(w m:Int)(p:Pt):Pt:=if w=0 then(p.1+m*p.2,p.2)else if w=1 then(p.1,p.2+m*p.1)else if w=2 then(0-p.2,p.1)else p
theorem ZuC(p q:Pt):X (tf w m p) (tf w m q)=X p q:=by
 unfold tf X;split
 ·grind
 ·split
  ·grind
  ·split
   ·grind
   ·rfl
theorem ZM:Zbq (nts xs)=some xs:=by
 induction xs with
 |nil=>rfl
 |cons x r ih=>show(match Zbq (nts r)with|some bs=>some (x::bs)|none=>none)=_;rw[ih]
theorem ZqN{xs:List Int}(h:xs.max?=some v)(hv:v<=b):∀x∈xs,x<=b:=by
 intro x hx;exact mJ ((List.max?_le_iff h).mp (Int.le_refl v) x hx) hv
theorem Zgw(k:Nat)(hk:k=0\/k=1)(h:M[m]?=some (.lst (prs ss)))(hl:ss.length<=1000)(q:Q (.ref M.length) (M++[.lst (nts ((aH ss.length).map fun(i:Nat)=>(if k=0 then(cy ss i).1.natAbs else(cy ss i).2.natAbs:Int)))])):kCo (gTp (gCs (gNm 0) (gCs (gNm 1) gNl))) (fun _ M=>.ok true M) (Zj bAbs (Zc (Zf k) aNil)) 2 [] ρ Q (.sto m) M:=by
 refine Znt (fun ρ=>∃x y,ρ=[x,y]) (fun(i:Nat)=>.int (if k=0 then(cy ss i).1.natAbs else(cy ss i).2.natAbs:Int)) h (by rw[ZI];lia) ⟨_,_,rfl⟩ ?_ (by rw[Zfv,ZI];exact q)
 rintro i hi ρ L ⟨x,y,rfl⟩;rw[Zde];rcases hk with rfl|rfl
 ·simp![Zm];exact⟨⟨_,_,rfl⟩,rfl⟩
 ·simp![Zm];exact⟨⟨_,_,rfl⟩,rfl⟩
theorem Znu(h:M[n]?=some (.lst (prs rs)))(hs:Smo rs)(hb:Nr 200 rs)(hl:rs.length<=1000)(q:∀ss m M',(∀i j:Int,X (cy ss i) (cy ss j)=X (cy rs i) (cy rs j))->Smo ss->Nr 200 ss->ss.length=rs.length->M'[m]?=some (.lst (prs ss))->M.length<=M'.length->(∀k,k<M.length->M'[k]?=M[k]?)->Q (.ref m) M'):wO (F_law_turn [.ref n,.int c] M) Q E:=by
 simp![F_law_turn,Zck];refine Zb2 (fun i ρ M'=>∃ss m c x1 x2 x3 x4 x5 x6,ρ=[some (.ref m),some (.int c),x1,x2,x3,x4,x5,x6]/\(∀i j:Int,X (cy ss i) (cy ss j)=X (cy rs i) (cy rs j))/\Smo ss/\Nr 200 ss/\ss.length=rs.length/\M'[m]?=some (.lst (prs ss))/\M.length<=M'.length/\(∀k,k<M.length->M'[k]?=M[k]?)) ⟨rs,n,c,_,_,_,_,_,_,rfl,fun _ _=>rfl,hs,hb,rfl,h,aj _,fun _ _=>rfl⟩ ?_ ?_
 ·rintro i ρ M1 hi ⟨ss,m,c,x1,x2,x3,x4,x5,x6,rfl,s0,s1,s2,s3,s4,s5,s6⟩;have hm:=ZA s4;simp![Zbb];refine ZsY (fun ρ M'=>M'=M1/\∃u:Int,(-9<=u/\u<=9)/\ρ=[some (D.ref m),some (D.int c),some (D.int (0 + ↑i)),some (D.int u),x3,x4,x5,x6]) ?_ ?_
  ·refine brS (fun _=>?_) (fun _=>?_)
   ·simp![Zm];exact⟨_,⟨by lia,by lia⟩,rfl⟩
   ·simp![Zm];exact⟨_,⟨by lia,by lia⟩,rfl⟩
  rintro _ M1 ⟨rfl,u,hu,rfl⟩;simp![Zm];generalize c%4=w;have hm1:(M1++[SO.lst []])[m]?=some (.lst (prs ss)):=by rw[ah hm];exact s4
  refine Zda (fun i ρ M'=>M'=M1++[.lst (prs ((ss.map (tf w u)).take i))]/\∃y x x',ρ=[some (D.ref m),some (D.int (c/3040)),y,some (D.int u),some (D.int w),some (D.ref M1.length),x,x']) hm1 ⟨by simp[prs],_,_,_,rfl⟩ (fun i ρ M' hI=>by rw[hI.1,ah hm];exact s4) ?_ ?_
  ·rintro i ρ M' hi ⟨rfl,y,x,x',rfl⟩;rw[Zde];rw[ZI]at hi;have b1:=Nr.cy s2 s1.ne i;have tk:prs ((ss.map (tf w u)).take i)++[pr (tf w u (cy ss i)).1 (tf w u (cy ss i)).2]=prs ((ss.map (tf w u)).take (i+1)):=by
    rw[List.take_succ,bB,af hi,<-ZiA,Zb4 hi];rfl
   have tl:((ss.map (tf w u)).take i).length<10000000:=by simp;lia
   have fin:∀a b:Int,tf w u (cy ss i)=(a,b)->M1++[.lst (prs ((ss.map (tf w u)).take i++[(a,b)]))]=M1++[.lst (prs ((ss.map (tf w u)).take (i+1)))]:=by
    intro a b e;rw[e]at tk;rw[<-Zgu,tk]
   simp![Zba];refine brS (fun h1=>?_) (fun h1=>?_)
   ·simp![tl];exact⟨fin _ _ (by rw[tf,if_pos h1]),_,_,_,rfl⟩
   simp![Zm];refine brS (fun h2=>?_) (fun h2=>?_)
   ·simp![tl];exact⟨fin _ _ (by rw[tf,if_neg h1,if_pos h2]),_,_,_,rfl⟩
   simp![Zm];refine brS (fun h3=>?_) (fun h3=>?_)
   ·simp![tl];exact⟨fin _ _ (by rw[tf,if_neg h1,if_neg h2,if_pos h3]),_,_,_,rfl⟩
   ·simp![tl];exact⟨fin _ _ (by rw[tf,if_neg h1,if_neg h2,if_neg h3]),_,_,_,rfl⟩
  ·rintro ρ M' ⟨rfl,y,x,x',rfl⟩;rw[bf (by simp[ZI])]
   have e1:Smo (ss.map (tf w u)):=s1.map ZuC;have e0:∀i j:Int,X (cy (ss.map (tf w u)) i) (cy (ss.map (tf w u)) j)=X (cy rs i) (cy rs j):=fun i j=>by rw[ZdN s1.ne,ZdN s1.ne,ZuC,s0]
   have e2:(ss.map (tf w u)).length=rs.length:=by simp;exact s3
   generalize ss.map (tf w u)=ts at *;have t4:(M1++[SO.lst (prs ts)])[M1.length]?=some (.lst (prs ts)):=by simp
   have l2:(M1++[SO.lst (prs ts)]).length=M1.length+1:=by simp
   have k2:∀k,k<M1.length->(M1++[SO.lst (prs ts)])[k]?=M1[k]?:=fun k hk=>ah hk;generalize M1++[SO.lst (prs ts)]=M2 at *;simp![Zm];refine Zgw 0 (.inl rfl) t4 (by lia) ?_
   generalize hA:((aH ts.length).map fun(i:Nat)=>(if 0=0 then(cy ts i).1.natAbs else(cy ts i).2.natAbs:Int))=A
   have lA:A.length=ts.length:=by subst hA;simp
   simp![Zm];refine Zgw 1 (.inr rfl) (by rw[ah (by lia)];exact t4) (by lia) ?_
   generalize hB:((aH ts.length).map fun(i:Nat)=>(if 1=0 then(cy ts i).1.natAbs else(cy ts i).2.natAbs:Int))=B
   have lB:B.length=ts.length:=by subst hB;simp
   simp![Zm];refine⟨by lia,?_⟩
   obtain⟨v,hv⟩:∃v,(A++B).max?=some v:=by
    cases e:(A++B).max? with
    |some v=>exact⟨v,rfl⟩
    |none=>
     rw[iF]at e;have h0:(A++B).length=0:=by rw[e];rfl
     have:=e1.len
     rw[a6]at h0;lia
   simp![ZiB,ZM,hv];have hx:=fun b (hb:v<=b)=>ZqN hv hb;refine brS (fun h=>?_) (fun h=>?_)
   ·simp![Zm];have nr:Nr 200 ts:=by
     intro p hp;obtain⟨k,hk,rfl⟩:=c7 hp;have a1:=hx 200 h (cy ts k).1.natAbs (by
      rw[aY];left;subst hA;exact aK.mpr ⟨k,bv.mpr hk,rfl⟩)
     have a2:=hx 200 h (cy ts k).2.natAbs (by
      rw[aY];right;subst hB;exact aK.mpr ⟨k,bv.mpr hk,rfl⟩)
     rw[Zb4 hk]at a1 a2;lia
    exact⟨ts,_,_,_,_,_,_,_,_,rfl,e0,e1,nr,e2,by rw[ah (by lia)];exact t4,by lia,fun k hk=>by rw[ah (by lia),k2 k (by lia)];exact s6 k hk⟩
   ·simp![Zm];exact⟨ss,_,_,_,_,_,_,_,_,rfl,s0,s1,s2,s3,by rw[ah (by lia),k2 _ hm];exact s4,by lia,fun k hk=>by rw[ah (by lia),k2 k (by lia)];exact s6 k hk⟩
 ·rintro ρ M1 ⟨ss,m,c,x1,x2,x3,x4,x5,x6,rfl,s0,s1,s2,s3,s4,s5,s6⟩;simp![Zm];exact q ss m M1 s0 s1 s2 s3 s4 s5 s6
theorem Zdf(h1:X a w=p)(h2:X w b=q):in1 w a b=if 0<=p/\0<q then 1 else 0:=by unfold in1;rw[h1,h2]
theorem Zdg(h1:X a w=p)(h2:X w b=q):in2 w a b=if 0<p/\0<=q then 1 else 0:=by unfold in2;rw[h1,h2]
theorem ZvX:Fan [(1,0),(0,1),(-1,-1)]:=by
 rintro⟨x,y⟩ hw;have hw':¬(x=0/\y=0):=fun z=>hw (by rw[z.1,z.2])
 have a1:X (1,0) (x,y)=y:=by simp[X]
 have a2:X (0,1) (x,y)= -x:=by simp[X]
 have a3:X (-1,-1) (x,y)=x-y:=by simp[X];lia
 have b1:X (x,y) (0,1)=x:=by simp[X]
 have b2:X (x,y) (-1,-1)=y-x:=by simp[X];lia
 have b3:X (x,y) (1,0)= -y:=by simp[X]
 simp only[cyc,l6,lJ,aQ,bS,cc];rw[Zdf a1 b1,Zdf a2 b2,Zdf a3 b3,Zdg a1 b1,Zdg a2 b2,Zdg a3 b3];clear a1 a2 a3 b1 b2 b3 hw;constructor
 all_goals
  repeat' split
  all_goals lia
theorem ZvY(f:Int):Fan [(1,0),(0,1),(-1,f),(0,-1)]:=by
 rintro⟨x,y⟩ hw;have hw':¬(x=0/\y=0):=fun z=>hw (by rw[z.1,z.2])
 have h0:x=0->x*f=0:=fun z=>by rw[z,Int.zero_mul]
 have a1:X (1,0) (x,y)=y:=by simp[X]
 have a2:X (0,1) (x,y)= -x:=by simp[X]
 have a3:X (-1,f) (x,y)= -y-x*f:=by unfold X;simp only;grind
 have a4:X (0,-1) (x,y)=x:=by simp[X]
 have b1:X (x,y) (0,1)=x:=by simp[X]
 have b2:X (x,y) (-1,f)=x*f+y:=by unfold X;simp only;grind
 have b3:X (x,y) (0,-1)= -x:=by simp[X]
 have b4:X (x,y) (1,0)= -y:=by simp[X]
 simp only[cyc,l6,lJ,aQ,bS,cc];rw[Zdf a1 b1,Zdf a2 b2,Zdf a3 b3,Zdf a4 b4,Zdg a1 b1,Zdg a2 b2,Zdg a3 b3,Zdg a4 b4];clear a1 a2 a3 a4 b1 b2 b3 b4 hw;generalize x*f=z at *;constructor
 all_goals
  repeat' split
  all_goals lia
theorem Ztn:Smo [(1,0),(0,1),(-1,-1)]:=by
 refine⟨by decide,Zdc (P:=fun a b=>X a b=1) (by decide) ?_,ZvX⟩
 intro i h0 h1
 have:i=0\/i=1\/i=2:=by simp at h1;lia
 rcases this with rfl|rfl|rfl<;>rfl
theorem ZuD(f:Int):Smo [(1,0),(0,1),(-1,f),(0,-1)]:=by
 refine⟨by simp,Zdc (P:=fun a b=>X a b=1) (by simp) ?_,ZvY f⟩
 intro i h0 h1
 have:i=0\/i=1\/i=2\/i=3:=by simp at h1;lia
 rcases this with rfl|rfl|rfl|rfl<;>simp[X,cy]
end
end CC
namespace DL
def T(rs:List Pt)(i:Int):Int:=0-X (cy rs (i-1)) (cy rs (i+1))
def ZF(rs:List Pt):List Int:=(aH rs.length).map fun(i:Nat)=>T rs i
theorem ZT:(ZF rs).length=rs.length:=by simp[ZF]
theorem Zb5{i:Nat}(h:i<rs.length):(ZF rs)[i]?=some (T rs i):=by
 simp[ZF,h]
end DL
namespace CC
open L2 DL
theorem Zly(h:M[n]?=some (.lst (prs rs)))(hn:0<rs.length)(hl:rs.length<=1000)(hb:Nr 18446744073709551615 rs)(q:Q (.ref M.length) (M++[.lst (nts (ZF rs))])):wO (F_law_tags [.ref n] M) Q E:=by
 have ne:rs≠[]:=by intro z;rw[z]at hn;simp at hn
 have hm:=ZA h;simp! -implicitDefEqProofs [F_law_tags,Zcl,h];refine⟨by lia,?_⟩
 rw[show((rs.length:Int)).toNat=rs.length by lia]
 refine Zuz (fun ρ=>∃x,ρ=[x,some (.ref n),some (.int rs.length)]) (fun(i:Nat)=>.int (T rs i)) (by lia) ⟨_,rfl⟩ ?_ (by rw[Zfv];exact q)
 rintro i hi ρ L ⟨x,rfl⟩;have e1:=Zab (i:=(i:Int)+1) (m:=rs.length) (by lia)
 have b1:=Nr.big hb (by decide) ne (i-1)
 simp! -implicitDefEqProofs [h,ZaN,Zb3,ZiI];exact⟨⟨_,rfl⟩,rfl⟩
theorem Zg7(h:M[n]?=some (.lst (prs rs)))(q:Q (.bl true) M):wO (F_law_are_rays [.ref n] M) Q E:=by
 simp![F_law_are_rays,ZaU,Zp7 h];refine Zda (fun i ρ M'=>M'=M/\∃x y,ρ=[some (.ref n),x,y]) h ⟨rfl,_,_,rfl⟩ (fun i ρ M' hI=>by rw[hI.1];exact h) ?_ ?_
 ·rintro i ρ M hi ⟨rfl,x,y,rfl⟩;rw[Zde];simp![Zal];generalize (cy rs i).1=u;generalize (cy rs i).2=v;refine Zft (fun i ρ M'=>M'=M/\∃y,ρ=[some (.ref n),some (pr u v),y]) [.int u,.int v] 0 _ _ ⟨rfl,_,rfl⟩ ?_ ?_
  ·rintro j ρ M hj ⟨rfl,y,rfl⟩
   have:j=0\/j=1:=by simp at hj;lia
   rcases this with rfl|rfl
   ·simp![ZW,ix];exact⟨_,rfl⟩
   ·simp![ZW,kE,ix];exact⟨_,rfl⟩
  ·rintro ρ M ⟨rfl,y,rfl⟩;exact⟨rfl,_,_,rfl⟩
 ·rintro ρ M ⟨rfl,x,y,rfl⟩;simp![Zm];exact q
end CC
namespace DL
noncomputable def del(rs:List Pt)(k:Nat):List Pt:=rs.take k++rs.drop (k+1)
section
variable {rs:List Pt}{j:Int}
theorem nbr(hs:Smo rs)(i:Int):(cy rs (i-1)).1+(cy rs (i+1)).1=0-T rs i*(cy rs i).1/\(cy rs (i-1)).2+(cy rs (i+1)).2=0-T rs i*(cy rs i).2:=by
 have o1:=hs.one (i-1);have o2:=hs.one i;rw[show i-1+1=i by lia]at o1
 unfold T X at *
 constructor<;>grind
theorem ZqO(p q:Pt):X p q=0-X q p:=by unfold X;grind
theorem ZiK(hs:Smo rs)(i:Int):(cy rs i=((cy rs (i-1)).1+(cy rs (i+1)).1,(cy rs (i-1)).2+(cy rs (i+1)).2))↔T rs i= -1:=by
 obtain⟨n1,n2⟩:=nbr hs i;rw[n1,n2];have o2:=hs.one i;constructor
 ·intro e;generalize cy rs i=v at *;generalize cy rs (i+1)=w at *;obtain⟨v1,v2⟩:=v;obtain⟨w1,w2⟩:=w;simp only[cN,X]at *;obtain⟨e1,e2⟩:=e
  have:(T rs i+1)*(v1*w2-v2*w1)=0:=by grind
  rw[o2]at this;lia
 ·intro e;rw[e];apply b5<;>simp
theorem Zcm(hk:k<rs.length):(del rs k).length=rs.length-1:=by simp[del];lia
theorem Zaz(hk:k<rs.length)(h0:0<=j)(h1:j<rs.length-1):cy (del rs k) j=if j<k then cy rs j else cy rs (j+1):=by
 have hL:=Zcm hk;rw[Zbr (by rw[hL];lia)]
 unfold del;rw[ao];by_cases c1:j<k
 ·rw[if_pos c1,Zbr (by lia),ao,ah (by simp;lia),bY (by lia)]
 ·have hl:(rs.take k).length=k:=by simp;lia
  rw[if_neg c1,Zbr (by lia),ao,aI (by rw[hl];lia),hl,gQ]
  congr 2;lia
theorem ZiL(hk:k<rs.length)(hn:3<=rs.length):cy (del rs k) (-1)=if(k:Int)=rs.length-1 then cy rs (-2)else cy rs (-1):=by
 have hL:=Zcm hk;have e:=ZS (rs:=del rs k) (i:= -1);rw[hL]at e;rw[<-e,Zaz hk (by lia) (by lia)]
 by_cases c:(k:Int)=rs.length-1
 ·rw[if_pos (by lia),if_pos c,<-ZS (rs:=rs) (i:= -2)]
  exact congrArg _ (by lia)
 ·rw[if_neg (by lia),if_neg c,<-ZS (rs:=rs) (i:= -1)]
  exact congrArg _ (by lia)
theorem Zfz(hk:k<rs.length)(hn:3<=rs.length)(hj:j=rs.length-1):cy (del rs k) j=if k=0 then cy rs (rs.length+1)else cy rs rs.length:=by
 have hL:=Zcm hk;have e:=Zdb (rs:=del rs k) (i:=j);rw[hL]at e;rw[<-e,show j-((rs.length-1:Nat):Int)=0 by lia,Zaz hk (by lia) (by lia)]
 by_cases c:k=0
 ·rw[if_neg (by lia),if_pos c,<-ZS (rs:=rs) (i:=0+1)]
  exact congrArg _ (by lia)
 ·rw[if_pos (by lia),if_neg c,<-ZS (rs:=rs) (i:=0)]
  exact congrArg _ (by lia)
theorem Zto(hs:Smo rs)(hk:k<rs.length)(h4:4<=rs.length)(ht:T rs k= -1)(h0:0<=j)(h1:j<rs.length-1):T (del rs k) j=if j<k then T rs j+(if j=k-1 then 1 else 0)+(if j=0/\(k:Int)=rs.length-1 then 1 else 0)else T rs (j+1)+(if j=k then 1 else 0)+(if j=rs.length-2/\k=0 then 1 else 0):=by
 have hy:=(ZiK hs k).mpr ht;have hA:∀q,X (cy rs (k-1)) q=X (cy rs k) q-X (cy rs (k+1)) q:=by intro q;rw[hy];unfold X;grind
 have hB:∀q,X q (cy rs (k+1))=X q (cy rs k)-X q (cy rs (k-1)):=by intro q;rw[hy];unfold X;grind
 have o1:=hs.one ((k:Int)-1-1);have o2:=hs.one ((k:Int)+1);rw[show(k:Int)-1-1+1=k-1 by lia]at o1
 unfold T;by_cases c1:j<k
 ·by_cases c2:j=0
  ·subst c2;rw[show(0:Int)-1= -1 from rfl,ZiL hk (by lia)]
   by_cases c3:(k:Int)=rs.length-1
   ·simp (disch:=lia) only[Zaz hk,if_pos,if_neg,true_and,and_true];have e1:cy rs (-2)=cy rs (k-1):=by rw[<-ZS (rs:=rs) (i:= -2)];exact congrArg _ (by lia)
    have e2:cy rs (-1)=cy rs k:=by rw[<-ZS (rs:=rs) (i:= -1)];exact congrArg _ (by lia)
    have e3:cy rs ((k:Int)+1)=cy rs 0:=by rw[<-ZS (rs:=rs) (i:=0)];exact congrArg _ (by lia)
    have o:=hs.one 0;rw[e1,e2,hA,e3];lia
   ·by_cases c4:(k:Int)=1
    ·simp (disch:=lia) only[Zaz hk,if_pos,if_neg,true_and,and_true];have e2:cy rs (-1)=cy rs ((k:Int)-1-1):=congrArg _ (by lia)
     have e3:cy rs (0+1+1)=cy rs ((k:Int)+1):=congrArg _ (by lia)
     have e4:cy rs (0+1)=cy rs (k:Int):=congrArg _ (by lia)
     rw[e2,e3,e4,hB];lia
    ·simp (disch:=lia) only[Zaz hk,if_pos,if_neg,true_and,and_true];lia
  ·by_cases c4:j=k-1
   ·by_cases c5:(k:Int)=rs.length-1
    ·rw[Zfz hk (by lia) (j:=j+1) (by lia)]
     simp (disch:=lia) only[Zaz hk,if_pos,if_neg,true_and,and_true];have e2:cy rs (j-1)=cy rs ((k:Int)-1-1):=congrArg _ (by lia)
     have e3:cy rs (rs.length:Int)=cy rs ((k:Int)+1):=congrArg _ (by lia)
     have e4:cy rs (j+1)=cy rs (k:Int):=congrArg _ (by lia)
     rw[e2,e3,e4,hB];lia
    ·simp (disch:=lia) only[Zaz hk,if_pos,if_neg,true_and,and_true];have e2:cy rs (j-1)=cy rs ((k:Int)-1-1):=congrArg _ (by lia)
     have e3:cy rs (j+1+1)=cy rs ((k:Int)+1):=congrArg _ (by lia)
     have e4:cy rs (j+1)=cy rs (k:Int):=congrArg _ (by lia)
     rw[e2,e3,e4,hB];lia
   ·simp (disch:=lia) only[Zaz hk,if_pos,if_neg,true_and,and_true];lia
 ·by_cases c2:j=rs.length-2
  ·rw[Zfz hk (by lia) (j:=j+1) (by lia)]
   by_cases c3:k=0
   ·simp (disch:=lia) only[Zaz hk,if_pos,if_neg,true_and,and_true];have e1:cy rs (j-1+1)=cy rs ((k:Int)-1-1):=by rw[<-ZS (rs:=rs) (i:=(k:Int)-1-1)];exact congrArg _ (by lia)
    have e2:cy rs ((rs.length:Int)+1)=cy rs ((k:Int)+1):=by rw[<-ZS (rs:=rs) (i:=(k:Int)+1)];exact congrArg _ (by lia)
    have e3:cy rs (j+1-1)=cy rs ((k:Int)-1-1):=by rw[<-ZS (rs:=rs) (i:=(k:Int)-1-1)];exact congrArg _ (by lia)
    have e4:cy rs (j+1+1)=cy rs (k:Int):=by rw[<-ZS (rs:=rs) (i:=(k:Int))];exact congrArg _ (by lia)
    rw[e1,e2,e3,e4,hB];lia
   ·by_cases c4:j=k
    ·simp (disch:=lia) only[Zaz hk,if_pos,if_neg,true_and,and_true];have e1:cy rs (j-1)=cy rs ((k:Int)-1):=congrArg _ (by lia)
     have e2:cy rs (rs.length:Int)=cy rs ((k:Int)+1+1):=congrArg _ (by lia)
     have e3:cy rs (j+1-1)=cy rs (k:Int):=congrArg _ (by lia)
     have e4:cy rs (j+1+1)=cy rs ((k:Int)+1+1):=congrArg _ (by lia)
     rw[e1,e2,e3,e4,hA];lia
    ·simp (disch:=lia) only[Zaz hk,if_pos,if_neg,true_and,and_true];have e1:cy rs (j-1+1)=cy rs (j+1-1):=congrArg _ (by lia)
     have e2:cy rs (rs.length:Int)=cy rs (j+1+1):=congrArg _ (by lia)
     rw[e1,e2];lia
  ·by_cases c4:j=k
   ·by_cases c5:k=0
    ·have e0:cy (del rs k) (j-1)=cy rs ((k:Int)-1):=by
      rw[show j-1= -1 by lia,ZiL hk (by lia),if_neg (by lia)]
      exact congrArg _ (by lia)
     rw[e0];simp (disch:=lia) only[Zaz hk,if_pos,if_neg,true_and,and_true];have e3:cy rs (j+1-1)=cy rs (k:Int):=congrArg _ (by lia)
     have e4:cy rs (j+1+1)=cy rs ((k:Int)+1+1):=congrArg _ (by lia)
     rw[e3,e4,hA];lia
    ·simp (disch:=lia) only[Zaz hk,if_pos,if_neg,true_and,and_true];have e1:cy rs (j-1)=cy rs ((k:Int)-1):=congrArg _ (by lia)
     have e3:cy rs (j+1-1)=cy rs (k:Int):=congrArg _ (by lia)
     have e4:cy rs (j+1+1)=cy rs ((k:Int)+1+1):=congrArg _ (by lia)
     rw[e1,e3,e4,hA];lia
   ·simp (disch:=lia) only[Zaz hk,if_pos,if_neg,true_and,and_true];have e1:cy rs (j-1+1)=cy rs (j+1-1):=congrArg _ (by lia)
    rw[e1];lia
end
noncomputable def nm(p:Pt):Int:=p.1*p.1+p.2*p.2
theorem ZiM(x:Int):0<=x*x:=by
 rcases mK 0 x with h|h
 ·exact aU h h
 ·exact gR h h
theorem ZuE{x:Int}(h:x*x<=0):x=0:=by
 have:=ZiM x
 have:x*x=0:=by omega
 rcases fC.mp this with h|h<;>exact h
theorem ZqP(p:Pt):0<=nm p:=by have:=ZiM p.1;have:=ZiM p.2;unfold nm;lia
theorem big(h1:X p q=1)(h2:X q r=1)(e1:p.1+r.1=a*q.1)(e2:p.2+r.2=a*q.2)(hp:nm p<=nm q)(hr:nm r<=nm q):a<=1:=by
 apply Classical.byContradiction;intro c;have ha:2<=a:=by lia
 have k:a*a*nm q+nm (p.1-r.1,p.2-r.2)=2*nm p+2*nm r:=by
  have:a*a*nm q=(a*q.1)*(a*q.1)+(a*q.2)*(a*q.2):=by unfold nm;grind
  rw[this,<-e1,<-e2];unfold nm;grind
 have k4:4*nm q<=a*a*nm q:=cK (by have:2*2<=a*a:=Int.mul_le_mul ha ha (by lia) (by lia);lia) (ZqP q)
 have d:=ZqP (p.1-r.1,p.2-r.2);have d0:nm (p.1-r.1,p.2-r.2)<=0:=by lia
 unfold nm at d0;simp only at d0;have s1:=ZiM (p.1-r.1);have s2:=ZiM (p.2-r.2);have z1:=ZuE (x:=p.1-r.1) (by lia)
 have z2:=ZuE (x:=p.2-r.2) (by lia)
 have f1:p.1=r.1:=by lia
 have f2:p.2=r.2:=by lia
 unfold X at h1 h2;rw[f1,f2]at h1
 have:r.1*q.2-r.2*q.1= -(q.1*r.2-q.2*r.1):=by grind
 lia
theorem Ze1(h1:X p q=1)(h2:X q r=1):p.1+r.1=X p r*q.1/\p.2+r.2=X p r*q.2:=by
 unfold X at *
 constructor<;>grind
theorem Zcn(h1:0<=X a w)(h2:0<X w b):in1 w a b=1:=by unfold in1;rw[if_pos ⟨h1,h2⟩]
theorem Zec(h:in1 w a b=0):¬(0<=X a w/\0<X w b):=by
 intro z;rw[Zcn z.1 z.2]at h;lia
theorem Znv:f a b<=cc f (L++a::b::R):=by
 rw[ZbJ];simp only[cc];lia
theorem XX(p:Pt):X p p=0:=by unfold X;grind
theorem ZqQ(hF:Fan (u::(xs++[w,v])))(ch:∀L a b R,u::(xs++[w,v,u])=L++a::b::R->X a b=1)(hk:0<=X u w)(hx:x∈xs):1<=X u x/\1<=X x w:=by
 obtain⟨A,B,rfl⟩:=gS hx;obtain⟨n,N,hN⟩:∃n N,B++[w,v,u]=n::N:=by cases B with|nil=>exact⟨_,_,rfl⟩|cons b B=>exact⟨_,_,rfl⟩
 obtain⟨f,Fs,hf⟩:∃f Fs,A++[x]=f::Fs:=by cases A with|nil=>exact⟨_,_,rfl⟩|cons b B=>exact⟨_,_,rfl⟩
 have x1:X x n=1:=ch (u::A) x n N (by simp[<-hN])
 have u1:X u f=1:=by
  refine ch [] u f (Fs++n::N) ?_;rw[<-hN]
  have:A++x::B++[w,v,u]=A++[x]++(B++[w,v,u]):=by simp
  rw[this,hf];simp
 have wv:X w v=1:=ch (u::(A++x::B)) w v [u] (by simp)
 have vu:X v u=1:=ch (u::(A++x::B)++[w]) v u [] (by simp)
 have x0:x≠(0,0):=by
  intro z;rw[z]at x1;simp[X]at x1
 have c:=(hF x x0).1;rw[ZaO]at c;have e1:u::(A++x::B++[w,v]++[u])=(u::A)++x::(B++[w,v,u]):=by simp
 rw[e1,ZbJ,hN]at c;have g1:in1 x u f<=cc (in1 x) (u::A++[x]):=by
  have:=Znv (f:=in1 x) (L:=[]) (a:=u) (b:=f) (R:=Fs)
  rw[bS,<-hf]at this;exact this
 have g2:in1 x x n=1:=Zcn (by rw[XX];lia) (by lia)
 have e2:cc (in1 x) (x::n::N)=1+cc (in1 x) (n::N):=by simp only[cc];lia
 rw[e2]at c;have z1:in1 x u f=0:=by lia
 have z2:cc (in1 x) (n::N)=0:=by lia
 rw[<-hN]at z2;have g3:in1 x w v<=cc (in1 x) (B++[w,v,u]):=Znv (L:=B) (a:=w) (b:=v) (R:=[u]);have g4:in1 x v u<=cc (in1 x) (B++[w,v,u]):=by
  have:=Znv (f:=in1 x) (L:=B++[w]) (a:=v) (b:=u) (R:=[])
  simpa using this
 have o1:=Zec (show in1 x w v=0 by lia)
 have o2:=Zec (show in1 x v u=0 by lia)
 have o3:=Zec z1;have t:=Ze1 wv vu;have k1:X w u= -X u w:=by rw[Zcj];lia
 rw[k1]at t;have hp:x.1=X x u*v.1+X v x*u.1/\x.2=X x u*v.2+X v x*u.2:=by unfold X at *;constructor<;>grind
 have xw:X x w=X u w*X v x+X u x:=by
  have e:w.1= -X u w*v.1-u.1/\w.2= -X u w*v.2-u.2:=by lia
  have:X x w=x.1*w.2-x.2*w.1:=rfl
  rw[this,e.1,e.2];have a1:=Zcj (p:=v) (q:=x);have a2:=Zcj (p:=u) (q:=x);unfold X at *;grind
 have s1:=Zcj (p:=x) (q:=u);have s2:=Zcj (p:=w) (q:=x);have s3:=Zcj (p:=x) (q:=v);have nn:0<=X v x->0<=X u w*X v x:=fun h=>aU hk h;have np:X v x<0->X u w*X v x<=0:=fun h=>bL hk (by lia)
 have ux:0<=X u x:=by
  by_cases c:0<=X v x
  ·apply Classical.byContradiction;intro d;exact o2 ⟨c,by lia⟩
  ·have:=np (by lia)
   have:¬(0<=X w x):=fun d=>o1 ⟨d,by lia⟩
   lia
 have ux1:X u x≠0:=by
  intro z;have hv:0<X v x:=by
   apply Classical.byContradiction;intro d;by_cases c:X v x=0
   ·rw[c,s1,z]at hp;apply x0;apply b5
    ·rw[hp.1];simp
    ·rw[hp.2];simp
   ·have:=np (by lia)
    have:¬(0<=X w x):=fun d=>o1 ⟨d,by lia⟩
    lia
  apply o3;refine⟨by lia,?_⟩
  have:X x f=X v x*X u f:=by
   rw[s1,z]at hp
   have:X x f=x.1*f.2-x.2*f.1:=rfl
   rw[this,hp.1,hp.2];generalize X v x=m;unfold X;grind
  rw[this,u1];lia
 refine⟨by lia,?_⟩
 by_cases c:0<=X v x
 ·have:=nn c
  lia
 ·have:¬(0<=X w x):=fun d=>o1 ⟨d,by lia⟩
  lia
theorem ZuF{w:Pt}:∀(xs:List Pt)(p q:Pt),(∀L a b d R,p::q::(xs++[w])=L++a::b::d::R->X a b=1/\X b d=1/\2<=X a d)->X q w+1<=X p w/\xs.length+1<=X q w
 |[],p,q,h=>by
  obtain⟨h1,h2,h3⟩:=h [] p q w [] rfl;rw[h2];simp;lia
 |r::xs,p,q,h=>by
  have ih:=ZuF xs q r fun L a b d R e=>h (p::L) a b d R (by rw[aQ,e];simp)
  obtain⟨h1,h2,h3⟩:=h [] p q r (xs++[w]) rfl;have t:=Ze1 h1 h2;have e:X p w=X p r*X q w-X r w:=by
   have:X p w=(X p r*q.1-r.1)*w.2-(X p r*q.2-r.2)*w.1:=by
    rw[<-t.1,<-t.2];unfold X;grind
   rw[this];generalize X p r=m;unfold X;grind
  have:2*X q w<=X p r*X q w:=cK h3 (by lia)
  simp only[bC];lia
theorem ZkD{α:Type}{A B:List α}{a b c w:α}{R:List α}(h:A++[w]=B++a::b::c::R):∃R',c::R=R'++[w]/\A=B++a::b::R':=by
 refine⟨(c::R).dropLast,?_,?_⟩
 ·have g:(c::R).getLast (by simp)=w:=by
   have:=congrArg List.getLast? h
   rw[lL,lL]at this;simp[List.getLast?_cons]at this;simp[List.getLast_eq_getLastD,this]
  rw[<-g,fE]
 ·have:=congrArg List.dropLast h
  rw[lG]at this;rw[this,List.dropLast_append_of_ne_nil (by simp)]
  rfl
theorem ZkE(hl:2<=xs.length)(hF:Fan (u::(xs++[w,v])))(ch:∀L a b R,u::(xs++[w,v,u])=L++a::b::R->X a b=1)(hk:0<=X u w)(nt:∀L a b d R,u::(xs++[w])=L++a::b::d::R->X a d≠1):False:=by
 have ins:=fun x (hx:x∈xs)=>ZqQ hF ch hk hx;obtain⟨x,y,r,rfl⟩:∃x y r,xs=x::y::r:=by
  match xs,hl with
  |x::y::r,_=>exact⟨x,y,r,rfl⟩
 have key:∀L a b d R,u::(x::y::r++[w])=L++a::b::d::R->X a b=1/\X b d=1/\2<=X a d:=by
  intro L a b d R e;have h1:X a b=1:=ch L a b (d::R++[v,u]) (by
   have:u::(x::y::r++[w,v,u])=u::(x::y::r++[w])++[v,u]:=by simp
   rw[this,e];simp)
  have h2:X b d=1:=ch (L++[a]) b d (R++[v,u]) (by
   have:u::(x::y::r++[w,v,u])=u::(x::y::r++[w])++[v,u]:=by simp
   rw[this,e];simp)
  have n1:=nt L a b d R e;refine⟨h1,h2,?_⟩;have t:=Ze1 h1 h2;have yy:X u a+X u d=X a d*X u b:=by
   have:X u a+X u d=u.1*(a.2+d.2)-u.2*(a.1+d.1):=by unfold X;grind
   rw[this,t.1,t.2];generalize X a d=m;unfold X;grind
  have hb:b∈x::y::r/\(X u a+X u d>0):=by
   have wk:d=w\/d∈x::y::r:=by
    have:d∈x::y::r++[w]:=by
     cases L with
     |nil=>
      simp only[bS,dC]at e;rw[e.2];simp
     |cons l L=>
      simp only[aQ,dC]at e;have e2:x::y::r++[w]=L++a::b::d::R:=e.2;rw[e2];simp
    rcases aY.mp this with h|h
    ·exact .inr h
    ·exact .inl (by simpa using h)
   have yd:0<=X u d:=by
    rcases wk with rfl|h
    ·exact hk
    ·have:=(ins d h).1;lia
   cases L with
   |nil=>
    simp only[bS,dC,aQ]at e;obtain⟨rfl,rfl,e⟩:=e;have dy:d=y:=e.1.symm;subst dy
    have:=(ins d (by simp)).1
    exact⟨by simp,by rw[XX];lia⟩
   |cons l L=>
    simp only[aQ,dC]at e;have e':x::y::r++[w]=L++a::b::d::R:=e.2;have am:a∈x::y::r/\b∈x::y::r:=by
     obtain⟨R',-,e4⟩:=ZkD e';rw[e4];simp
    have:=(ins a am.1).1
    exact⟨am.2,by lia⟩
  have yb:=(ins b hb.1).1;have hp:=hb.2;rw[yy]at hp
  have:1<=X a d:=by
   apply Classical.byContradiction;intro c
   have:X a d*X u b<=0:=gU (by lia) (by lia)
   lia
  lia
 have d:=ZuF (y::r) u x key;have wv:X w v=1:=ch (u::(x::y::r)) w v [u] (by simp)
 have vu:X v u=1:=ch (u::(x::y::r)++[w]) v u [] (by simp)
 have ux:X u x=1:=ch [] u x (y::r++[w,v,u]) (by simp)
 have t:=Ze1 wv vu;have k1:X w u= -X u w:=by rw[Zcj];lia
 rw[k1]at t;have xw:X x w=X u w*X v x+X u x:=by
  have e:w.1= -X u w*v.1-u.1/\w.2= -X u w*v.2-u.2:=by lia
  have:X x w=x.1*w.2-x.2*w.1:=rfl
  rw[this,e.1,e.2];generalize X u w=m;unfold X;grind
 rw[ux]at xw;simp only[bC]at d;generalize X v x=c at *;generalize X u w=k at *;by_cases hc:1<=c
 ·have:k*1<=k*c:=cM hc hk
  lia
 ·have:k*c<=0:=bL hk (by lia)
  lia
theorem ZqR(h:Smo rs):∀L a b R,rs++rs.take 1=L++a::b::R->X a b=1:=by
 intro L a b R e;have hl:=h.len;have ll:L.length+2+R.length=rs.length+1:=by
  have:=congrArg iU e
  simp at this;lia
 have ga:∀i:Nat,i<=rs.length->(rs++rs.take 1)[i]?=some (cy rs i):=by
  intro i hi;by_cases c:i<rs.length
  ·rw[ah c,Zbr (by lia),Za8 (by lia),af c]
   simp
  ·have:i=rs.length:=by lia
   subst this;rw[aI (aj _),ft,<-Zdb,Int.sub_self,Zbr (by lia),Za8 (by lia)]
   rw[bY (by decide),af (by lia)]
   simp
 have g1:=ga L.length (by lia)
 have g2:=ga (L.length+1) (by lia)
 rw[e,aI (aj _),ft]at g1;rw[e,aI (by lia),show L.length+1-L.length=1 by lia]at g2
 simp at g1 g2;rw[g1,g2];exact h.one L.length
theorem ZqS{L R:List Pt}:cy (L++a::b::d::R) (L.length+2)=d:=by
 have:=Zfw (L:=L++[a,b]) (a:=d) (R:=R)
 simp at this;exact this
theorem Zdh(f:Pt->Int):∀(rs:List Pt),rs≠[]->∃p∈rs,∀q∈rs,f q<=f p
 |[],h=>absurd rfl h
 |[p],_=>⟨p,by simp,fun q hq=>by simp at hq;rw[hq];lia⟩
 |p::q::r,_=>by
  obtain⟨m,hm,h⟩:=Zdh f (q::r) (by simp)
  by_cases c:f m<=f p
  ·refine⟨p,by simp,fun x hx=>?_⟩
   rcases ar.mp hx with rfl|hx
   ·lia
   ·have:=h x hx;lia
  ·refine⟨m,by simp[hm],fun x hx=>?_⟩
   rcases ar.mp hx with rfl|hx
   ·lia
   ·exact h x hx
theorem ZiN(h:Smo rs)(h5:5<=rs.length):∃i:Nat,i<rs.length/\T rs i= -1:=by
 apply Classical.byContradiction;intro hno;have nt:∀i:Int,T rs i≠ -1:=by
  intro i z;obtain⟨a,b⟩:=Zab (i:=i) (m:=rs.length) (by lia)
  apply hno;refine⟨(i%rs.length).toNat,a,?_⟩;rw[show(((i%rs.length).toNat:Nat):Int)=i%rs.length by lia]
  unfold T at z ⊢;have e1:cy rs (i%rs.length-1)=cy rs (i-1):=by unfold cy;rw[Int.emod_sub_emod]
  have e2:cy rs (i%rs.length+1)=cy rs (i+1):=by unfold cy;rw[iy]
  rw[e1,e2];exact z
 obtain⟨p,hp,hm⟩:=Zdh nm rs h.ne;obtain⟨A,B,e⟩:=gS hp;have hl:=congrArg iU e;simp at hl;have rot:rs.drop (A.length+1)++rs.take (A.length+1)=B++A++[p]:=by
  rw[e,iK,iJ,bW (by lia),bf (by lia)]
  simp
 have hr:=h.rot (k:=A.length+1) (by lia)
 have nr:∀i:Int,T (rs.drop (A.length+1)++rs.take (A.length+1)) i≠ -1:=by
  intro i z;apply nt (i+(A.length+1:Nat));unfold T at z ⊢;rw[ZbI (by lia),ZbI (by lia)]at z
  rw[show i+((A.length+1:Nat):Int)-1=i-1+((A.length+1:Nat):Int)by lia,show i+((A.length+1:Nat):Int)+1=i+1+((A.length+1:Nat):Int)by lia]
  exact z
 rw[rot]at hr nr;obtain⟨u,xs,w,hC⟩:∃u xs w,B++A=u::(xs++[w]):=by
  have hn:4<=(B++A).length:=by simp;lia
  match hBA:B++A,hn with
  |u::r,hn=>
   have:r≠[]:=by intro z;rw[z]at hn;simp at hn
   exact⟨u,r.dropLast,r.getLast this,by rw[fE]⟩
 rw[hC]at hr nr;have eL:u::(xs++[w])++[p]=u::(xs++[w,p]):=by simp
 rw[eL]at hr nr;have lx:2<=xs.length:=by
  have:=congrArg iU hC
  simp at this;lia
 have ch:∀L a b R,u::(xs++[w,p,u])=L++a::b::R->X a b=1:=by
  intro L a b R e;refine ZqR hr L a b R ?_;rw[<-e];simp
 have wv:X w p=1:=ch (u::xs) w p [u] (by simp)
 have vu:X p u=1:=ch (u::xs++[w]) p u [] (by simp)
 have t:=Ze1 wv vu;have inm:∀x,x∈u::(xs++[w])->x∈rs:=by
  intro x hx;rw[<-hC]at hx;rw[e];rcases aY.mp hx with h|h
  ·simp[h]
  ·simp[h]
 have a1:=big wv vu t.1 t.2 (hm w (inm w (by simp))) (hm u (inm u (by simp)))
 have np:X w u≠1:=by
  intro z;apply nr ((u::xs).length+1);unfold T;have c1:cy (u::(xs++[w,p])) ((u::xs).length+1-1)=w:=by
   rw[show((u::xs).length:Int)+1-1=(u::xs).length by lia]
   exact Zfw (L:=u::xs) (a:=w) (R:=[p])
  have c2:cy (u::(xs++[w,p])) ((u::xs).length+1+1)=u:=by
   have:=Zfx (r:=xs++[w,p]) (a:=u)
   rw[show(((xs++[w,p]).length:Nat):Int)+1=((u::xs).length:Int)+1+1 by simp;lia]at this
   exact this
  rw[c1,c2,z];rfl
 have k1:X u w= -X w u:=by rw[Zcj];lia
 refine ZkE lx hr.fan ch (by lia) ?_
 intro L a b d R e z;apply nr (L.length+1);unfold T;have e':u::(xs++[w,p])=L++a::b::d::(R++[p]):=by
  have:u::(xs++[w,p])=u::(xs++[w])++[p]:=by simp
  rw[this,e];simp
 rw[e',show(L.length:Int)+1-1=L.length by lia,show(L.length:Int)+1+1=L.length+2 by lia,Zfw,ZqS,z]
 rfl
section
variable {rs:List Pt}{k:Nat}
theorem ZiO(e:R++L=b::(Y++[a]))(hf:f a b=f a p+f p b):cyc f (L++R)=cyc f (L++p::R):=by
 rw[ZbO L R,e,ZbO L,aQ,e];simp only[ZaO,aQ,cc];have e1:b::(Y++[a]++[p])=(b::Y)++a::[p]:=by simp
 have e2:b::(Y++[a]++[b])=(b::Y)++a::[b]:=by simp
 rw[e1,e2,ZbJ (b::Y) a [p],ZbJ (b::Y) a [b]];simp only[cc];lia
theorem Smo.del(h:Smo rs)(hk:k<rs.length)(h4:4<=rs.length)(ht:T rs k= -1):Smo (del rs k):=by
 have hL:=Zcm hk;have sm:=(ZiK h k).mpr ht;refine⟨by lia,?_,?_⟩
 ·refine Zdc (P:=fun a b=>X a b=1) (by lia) ?_
  intro j h0 h1;rw[hL]at h1;have xk:X (cy rs (k-1)) (cy rs (k+1))=1:=by unfold T at ht;lia
  rw[Zaz hk h0 (by lia)]
  by_cases c:j+1<rs.length-1
  ·rw[Zaz hk (by lia) (by lia)]
   by_cases c1:j+1<k
   ·rw[if_pos (by lia),if_pos c1];exact h.one j
   ·by_cases c2:j+1=k
    ·rw[if_pos (by lia),if_neg c1,show j=(k:Int)-1 by lia,show(k:Int)-1+1+1=k+1 by lia]
     exact xk
    ·rw[if_neg (by lia),if_neg c1];exact h.one (j+1)
  ·have jE:j+1=rs.length-1:=by lia
   rw[Zfz hk (by lia) jE]
   by_cases c0:k=0
   ·subst c0;rw[if_neg (by lia),if_pos rfl,show j+1=((0:Nat):Int)-1+rs.length by lia,ZS,show(rs.length:Int)+1=((0:Nat):Int)+1+rs.length by lia,ZS]
    exact xk
   ·rw[if_neg c0];by_cases c2:j+1=k
    ·rw[if_pos (by lia),show j=(k:Int)-1 by lia,show(rs.length:Int)=k+1 by lia]
     exact xk
    ·rw[if_neg (by lia),show j+1=(rs.length:Int)-1 by lia]
     have:=h.one (rs.length-1)
     rw[show(rs.length:Int)-1+1=rs.length by lia]at this
     exact this
 ·intro w hw;obtain⟨L,p,R,e,hl⟩:∃L a R,rs=L++a::R/\L.length=k:=⟨rs.take k,rs[k],rs.drop (k+1),by rw[kF,dh],by simp;lia⟩
  have ed:DL.del rs k=L++R:=by
   unfold DL.del;rw[e,<-hl,iJ,iK,bf (by lia),bW (by lia)]
   simp
  have lr:(R++L).length=rs.length-1:=by rw[e];simp;lia
  obtain⟨b,Y,a,hY⟩:∃b Y a,R++L=b::(Y++[a]):=by
   match hRL:R++L,lr with
   |[],lr=>simp at lr;lia
   |b::r,lr=>
    have:r≠[]:=by intro z;rw[z]at lr;simp at lr;lia
    exact⟨b,r.dropLast,r.getLast this,by rw[fE]⟩
  have hr:=h.rot (k:=k) (by lia)
  have er:rs.drop k++rs.take k=p::(R++L):=by
   rw[e,<-hl,iJ,iK,bf (by lia),bW (by lia)]
   simp
  have c0:cy rs k=p:=by rw[e,<-hl];exact Zfw
  have cb:cy rs (k+1)=b:=by
   have:=ZbI (rs:=rs) (k:=k) (i:=1) (by lia)
   rw[er,hY]at this;rw[show(k:Int)+1=1+k by lia,<-this]
   exact ZqL (L:=[]) (a:=p) (b:=b)
  have ca:cy rs (k-1)=a:=by
   have:=ZbI (rs:=rs) (k:=k) (i:= -1) (by lia)
   rw[er,hY]at this;rw[show(k:Int)-1= -1+k by lia,<-this,<-ZS]
   have:=Zfw (L:=p::b::Y) (a:=a) (R:=[])
   rw[show(-1:Int)+((p::b::(Y++[a])).length:Nat)=((p::b::Y).length:Nat)by simp;lia]
   simpa using this
  rw[c0,ca,cb]at sm;rw[ed,ZiO (p:=p) hY (by rw[sm];exact ZiF),ZiO (p:=p) hY (by rw[sm];exact ZiG),<-e]
  exact h.fan w hw
end
end DL
namespace CE
open L2 DL
def ZaG:Sv:=(Z9 (e2 dSub (e2 dMul (e2 dIx (Zf 0) (eC (.int 0))) (e2 dIx (Zf 1) (eC (.int 1)))) (e2 dMul (e2 dIx (Zf 0) (eC (.int 1))) (e2 dIx (Zf 1) (eC (.int 0))))))
def F_crossed:W3:=fnF ZaG 2 0
def ZaH:Sv:=(Z9 (e2 dIx (Zf 0) (e2 dMod (e2 dAdd (Zf 1) (eC (.int 1))) (Zj bLen (Zc (Zf 0) aNil)))))
def F_following:W3:=fnF ZaH 2 0
def Z4:Sv:=(sIf (tv (e2 dNe (Zj F_crossed (Zc (Zf 2) (Zc (Zj F_following (Zc (Zf 0) (Zc (Zf 1) aNil))) aNil))) (eC (.int 1)))) (Z9 (Zf 1)) sNil)
def ZaI:Sv:=(ZB (Zfm (gTp (gCs (gNm 1) (gCs (gNm 2) gNl))) (iEn (Zc (Zf 0) aNil)) Z4) (Z9 (eC .non)))
def F_unspanned:W3:=fnF ZaI 1 2
def Zat:Sv:=(ZB (ZJ (gNm 1) (Zj F_unspanned (Zc (Zf 0) aNil))) (sIf (tv (e2 dIsNot (Zf 1) (eC .non))) (ZcB (PySem.Str.ofString "NotSmooth") (Zc (eFs (ZcI (eC (.str (PySem.Str.ofString "ray "))) (ZcI (eFm (Zf 1)) (ZcI (eC (.str (PySem.Str.ofString " does not cross the next one in 1"))) jNil)))) aNil)) sNil))
def F_ask_smooth:W3:=fnF Zat 1 1
def Zb6:Sv:=(ZB (Za4 (Zj F_ask_smooth (Zc (Zf 0) aNil))) (Z9 (Zai (iR1 (Zc (Zj bLen (Zc (Zf 0) aNil)) aNil)) 1 [0] (gNm 0) (fun _ M=>.ok true M) (Zj F_crossed (Zc (Zj F_following (Zc (Zf 1) (Zc (Zf 0) aNil))) (Zc (e2 dIx (Zf 1) (e2 dSub (Zf 0) (eC (.int 1)))) aNil))))))
def F_numbers:W3:=fnF Zb6 1 0
end CE
namespace CE
open L2 DL
theorem ZiP:F_crossed=CC.F_crossed:=rfl
theorem ZfA:F_following=CC.F_following:=rfl
theorem Ze2:F_ask_smooth=CC.F_ask_smooth:=rfl
theorem ZiQ(h:M[n]?=some (.lst (prs rs)))(hs:Smo rs)(hl:rs.length<=1000000)(hb:Nr 18446744073709551615 rs)(q:Q (.ref M.length) (M++[.lst (nts (ZF rs))])):wO (F_numbers [.ref n] M) Q E:=by
 have hm:=ZA h;have hn:=hs.len;simp![F_numbers,Zb6,Ze2];refine CC.ZcC h hs hb ?_;simp![h];refine⟨by lia,?_⟩
 rw[show((rs.length:Int)).toNat=rs.length by lia]
 refine Zuz (fun ρ=>∃x,ρ=[x,some (.ref n)]) (fun(i:Nat)=>.int (T rs i)) (by lia) ⟨_,rfl⟩ ?_ (by rw[Zfv];exact q)
 rintro i hi ρ L ⟨x,rfl⟩;have b1:=CC.Nr.big hb (by decide) hs.ne (i+1)
 have hL:(M++L)[n]?=some (.lst (prs rs)):=by rw[Zkx hm];exact h
 simp![ZfA,ZiP,CC.ZbP hL,h,ZaN,CC.Za1];refine⟨⟨_,rfl⟩,?_⟩;unfold T;rw[<-ZqO];rfl
end CE
namespace CF
open L2 DL CC
end CF
namespace CF
open L2 DL
end CF
namespace DL
open L2 DL
end DL
namespace CB
open L2 DL
end CB
namespace DL
noncomputable def hj(t b:Int):List Int:=if h:0<b then -((-t)/b)::hj b (-((-t)/b)*b-t)else[]
termination_by b.toNat
decreasing_by
 have h1:=dF (-t) (show b≠0 by lia)
 have h2:=cC (-t) h;have h3:=Int.emod_add_mul_ediv (-t) b;rw[lM,Int.mul_comm];lia
end DL
namespace CB
open L2 DL
section
variable {a:Int}{u v w:Pt}
structure Fb(u v w:Pt):Prop where
 one:X u w=1
 lo:0<=X w v
 hi:X w v<X u v
theorem Fb.uniq{w:Pt}(h:Fb u v w)(k:Fb u v w'):w=w':=by
 obtain⟨h1,a1,a2⟩:=h;obtain⟨h2,b1,b2⟩:=k;have e1:w'.1=X w' w*u.1+w.1/\w'.2=X w' w*u.2+w.2:=by unfold X at *;constructor<;>grind
 have e2:X w' v=X w' w*X u v+X w v:=by
  have:X w' v=X (X w' w*u.1+w.1,X w' w*u.2+w.2) v:=by rw[<-e1.1,<-e1.2]
  rw[this];unfold X;simp only;grind
 generalize X w' w=k at *;have k0:k=0:=by
  apply Classical.byContradiction;intro c;by_cases p:1<=k
  ·have:1*X u v<=k*X u v:=cK p (by lia)
   lia
  ·have:k*X u v<=(-1)*X u v:=cK (by lia) (by lia)
   lia
 rw[k0]at e1;apply b5<;>lia
noncomputable def btw:Pt->Pt->List Int->List Pt
 |_,_,[]=>[]
 |a,r,k::ks=>r::btw r (k*r.1-a.1,k*r.2-a.2) ks
end
end CB
namespace CB
open L2 DL
section
variable {a b d:Int}
def Ch:List Pt->Prop
 |a::b::r=>X a b=1/\Ch (b::r)
 |_=>True
noncomputable def Tr(a b d:Pt):Prop:=∃k:Int,2<=k/\a.1+d.1=k*b.1/\a.2+d.2=k*b.2
def Cv:List Pt->Prop
 |a::b::d::r=>Tr a b d/\Cv (b::d::r)
 |_=>True
end
end CB
namespace CA
open L2 DL
end CA
namespace CA
open L2 DL
end CA
namespace CY
open L2 DL CA
end CY
namespace CY
open L2 DL
end CY
namespace CR
open L2 DL
def Zco:Sv:=(Z9 (ZgX (Zjy "int" (Zf 0)) (ZhH (Zjy "bool" (Zf 0)))))
def F_is_whole:W3:=fnF Zco 1 0
def Zau:Sv:=(Zfh 2 3 (Zc (Zf 3) (Zc (e2 dMod (Zf 2) (Zf 3)) aNil)))
def ZaP:Sv:=(ZB (Zfh 2 3 (Zc (Zj bAbs (Zc (Zf 0) aNil)) (Zc (Zj bAbs (Zc (Zf 1) aNil)) aNil))) (ZB (sWh (tv (e2 dNe (Zf 3) (eC (.int 0)))) Zau) (Z9 (Zf 2))))
def F_greatest_divisor:W3:=fnF ZaP 2 2
def ZfB:Sv:=(ZB (sIf (Zel (Zcd (tv (Zj F_is_whole (Zc (Zf 0) aNil)))) (Zcd (tv (Zj F_is_whole (Zc (Zf 1) aNil))))) (ZcB (PySem.Str.ofString "NoRatio") (Zc (eC (.str (PySem.Str.ofString "a ratio is made of two whole numbers"))) aNil)) sNil) (ZB (sIf (tv (e2 dEq (Zf 1) (eC (.int 0)))) (ZcB (PySem.Str.ofString "NoRatio") (Zc (eC (.str (PySem.Str.ofString "the bottom of a ratio is not 0"))) aNil)) sNil) (ZB (ZJ (gNm 2) (Zj F_greatest_divisor (Zc (Zf 0) (Zc (Zf 1) aNil)))) (ZB (sIf (tv (e2 dLt (Zf 1) (eC (.int 0)))) (ZJ (gNm 2) (ZbM (Zf 2))) sNil) (Z9 (Z5 (Zc (e2 dDiv (Zf 0) (Zf 2)) (Zc (e2 dDiv (Zf 1) (Zf 2)) aNil))))))))
def F_ratio:W3:=fnF ZfB 2 1
def Zlz:Sv:=(Z9 (Zj F_ratio (Zc (e2 dAdd (e2 dMul (e2 dIx (Zf 0) (eC (.int 0))) (e2 dIx (Zf 1) (eC (.int 1)))) (e2 dMul (e2 dIx (Zf 1) (eC (.int 0))) (e2 dIx (Zf 0) (eC (.int 1))))) (Zc (e2 dMul (e2 dIx (Zf 0) (eC (.int 1))) (e2 dIx (Zf 1) (eC (.int 1)))) aNil))))
def ZiR:W3:=fnF Zlz 2 0
def ZfC:Sv:=(Z9 (Zj F_ratio (Zc (e2 dMul (e2 dIx (Zf 0) (eC (.int 0))) (e2 dIx (Zf 1) (eC (.int 0)))) (Zc (e2 dMul (e2 dIx (Zf 0) (eC (.int 1))) (e2 dIx (Zf 1) (eC (.int 1)))) aNil))))
def F_times:W3:=fnF ZfC 2 0
end CR
namespace CR
open L2 DL
abbrev rt(q:Rat):D:=pr q.num (q.den:Int)
noncomputable def Sz(k:Nat)(q:Rat):Prop:=q.num.natAbs<2^k/\q.den<2^k
theorem ZqT:F_greatest_divisor=FGcd:=rfl
theorem ZcD(h:0<j)(hk:j.natAbs<2^k)(hk2:k<=8000):wO (dDiv (.int i) (.int j) M) Q E=Q (.int (i/j)) M:=by
 have:ZaR j:=⟨by lia,by
  have:j.natAbs.log2<k:=(Nat.log2_lt (by lia)).mpr hk
  lia⟩
 show wO (if ZaR j then _ else _) Q E=_
 rw[if_pos this,jG _ (by lia)];rfl
theorem Znw(hb:b≠0):rt (dO t b hb)=pr (t/(gk t b:Nat)) ((b:Int)/(gk t b:Nat)):=by
 unfold rt;rw[Rat.num_normalize,Rat.den_normalize,iL];rfl
theorem ZqU{b:Nat}(hb:b≠0)(h:b<2^k):0<gk t b/\gk t b<2^k:=by
 have h1:gk t b ∣ b:=Int.gcd_dvd_natAbs_right t b;have h2:=mh (by lia) h1
 have h3:gk t b≠0:=fun z=>by
  rw[z]at h1;exact hb (Nat.eq_zero_of_zero_dvd h1)
 lia
theorem Zed{b:Nat}(hb:b≠0)(h:b<2^k)(hk:k<=8000):wO (F_ratio [.int t,.int b] M) Q E=Q (rt (dO t b hb)) M:=by
 obtain⟨g0,g1⟩:=ZqU (t:=t) hb h;have gw:∀{Q:W0},wO (FGcd [.int t,.int b] M) Q E=Q (.int (gk t b:Nat)) M:=by
  intro Q;rw[Zlo];rfl
 rw[Znw hb];generalize gk t b=g at *;simp![F_ratio,ZfB,F_is_whole,Zco,ZqT,gw];rw[ZcD (k:=k) (by lia) (by simpa using g1) hk]
 simp![Zm];rw[ZcD (k:=k) (by lia) (by simpa using g1) hk]
 simp![Zm]
theorem ZfD(hb:b≠0)(ht:t.natAbs<2^k)(h:b<2^k):Sz k (dO t b hb):=by
 refine⟨?_,?_⟩
 ·rw[Rat.num_normalize];exact gN (Int.natAbs_ediv_le_natAbs _ _) ht
 ·rw[Rat.den_normalize];exact gN (i9 _ _) h
theorem Zag(hx:x<2^k)(hy:y<2^l):x*y<2^(k+l):=by
 rw[iY];exact Nat.mul_lt_mul'' hx hy
theorem ZuG(hp:Sz k p)(hq:Sz l q)(hk:k+l<=8000):wO (ZiR [rt p,rt q] M) Q E=Q (rt (p+q)) M:=by
 have nz:p.den*q.den≠0:=kO p.den_nz q.den_nz;have f1:Zs p.num (q.den:Int):=Zr k l hp.1 (by simpa using hq.2) (by lia) (by lia)
 have f2:Zs q.num (p.den:Int):=Zr l k hq.1 (by simpa using hp.2) (by lia) (by lia)
 have f3:Zs (p.den:Int) (q.den:Int):=Zr k l (by simpa using hp.2) (by simpa using hq.2) (by lia) (by lia)
 simp![ZiR,Zlz,ZG f1,ZG f2,ZG f3];rw[show(p.den:Int)*(q.den:Int)=((p.den*q.den:Nat):Int)by simp,Zed nz (Zag hp.2 hq.2) hk,<-Rat.add_def]
theorem Zee(hp:Sz k p)(hq:Sz l q)(hk:k+l<=8000):wO (F_times [rt p,rt q] M) Q E=Q (rt (p*q)) M:=by
 have nz:p.den*q.den≠0:=kO p.den_nz q.den_nz;have f1:Zs p.num q.num:=Zr k l hp.1 hq.1 (by lia) (by lia)
 have f3:Zs (p.den:Int) (q.den:Int):=Zr k l (by simpa using hp.2) (by simpa using hq.2) (by lia) (by lia)
 simp![F_times,ZfC,ZG f1,ZG f3];rw[show(p.den:Int)*(q.den:Int)=((p.den*q.den:Nat):Int)by simp,Zed nz (Zag hp.2 hq.2) hk,<-mY]
theorem ZcE(hp:Sz k p)(hq:Sz l q):Sz (k+l) (p*q):=by
 rw[mY];exact ZfD _ (by rw[be];exact Zag hp.1 hq.1) (Zag hp.2 hq.2)
end CR
namespace CH
open L2 DL CA CR
end CH
namespace CH
open L2 DL
open CR (rt Sz)
def rts(hs:List Rat):List D:=hs.map rt
theorem ZL:(rts hs).length=hs.length:=aB _
end CH
namespace CS
open L2 DL CC CR
def ZfE:Sv:=(Z9 (Zj F_ratio (Zc (e2 dSub (e2 dMul (e2 dIx (Zf 0) (eC (.int 0))) (e2 dIx (Zf 1) (eC (.int 1)))) (e2 dMul (e2 dIx (Zf 1) (eC (.int 0))) (e2 dIx (Zf 0) (eC (.int 1))))) (Zc (e2 dMul (e2 dIx (Zf 0) (eC (.int 1))) (e2 dIx (Zf 1) (eC (.int 1)))) aNil))))
def F_minus:W3:=fnF ZfE 2 0
def ZaJ:Sv:=(ZB (ZJ (gTp (gCs (gTp (gCs (gNm 2) (gCs (gNm 3) gNl))) (gCs (gTp (gCs (gNm 4) (gCs (gNm 5) gNl))) gNl))) (Z5 (Zc (e2 dIx (Zf 0) (eC (.int 0))) (Zc (e2 dIx (Zf 0) (eC (.int 1))) aNil)))) (ZB (Zfh 6 7 (Zc (e2 dIx (Zf 1) (eC (.int 0))) (Zc (e2 dIx (Zf 1) (eC (.int 1))) aNil))) (Z9 (Z5 (Zc (Zj F_minus (Zc (Zj F_times (Zc (Zf 6) (Zc (Z5 (Zc (Zf 5) (Zc (eC (.int 1)) aNil))) aNil))) (Zc (Zj F_times (Zc (Zf 7) (Zc (Z5 (Zc (Zf 3) (Zc (eC (.int 1)) aNil))) aNil))) aNil))) (Zc (Zj F_minus (Zc (Zj F_times (Zc (Zf 7) (Zc (Z5 (Zc (Zf 2) (Zc (eC (.int 1)) aNil))) aNil))) (Zc (Zj F_times (Zc (Zf 6) (Zc (Z5 (Zc (Zf 4) (Zc (eC (.int 1)) aNil))) aNil))) aNil))) aNil))))))
def F_slope_through:W3:=fnF ZaJ 2 6
def Zbw:Sv:=(sIf (tv (e2 dNe (Zj bLen (Zc (Zf 1) aNil)) (Zj bLen (Zc (Zf 0) aNil)))) (ZcB (PySem.Str.ofString "NoHeight") (Zc (eFs (ZcI (eC (.str (PySem.Str.ofString "a height of "))) (ZcI (eFm (Zj bLen (Zc (Zf 0) aNil))) (ZcI (eC (.str (PySem.Str.ofString " rays has not "))) (ZcI (eFm (Zj bLen (Zc (Zf 1) aNil))) (ZcI (eC (.str (PySem.Str.ofString " ratios"))) jNil)))))) aNil)) sNil)
def F_ask_height:W3:=fnF Zbw 2 0
end CS
namespace CS
open L2 DL
open CR (rt Sz)
theorem ZlA(z:Int):pr z 1=rt (z:Rat):=by
 unfold rt;rw[Rat.num_intCast,Rat.den_intCast];rfl
theorem Ze3{z:Int}(h:z.natAbs<2^k)(hk:1<=k):Sz k (z:Rat):=by
 refine⟨by rw[Rat.num_intCast];exact h,by rw[Rat.den_intCast];exact Nat.one_lt_two_pow (by lia)⟩
theorem ZiS(hp:Sz k p)(hq:Sz l q)(hk:k+l<=8000):wO (F_minus [rt p,rt q] M) Q E=Q (rt (p-q)) M:=by
 have nz:p.den*q.den≠0:=kO p.den_nz q.den_nz;have f1:Zs p.num (q.den:Int):=Zr k l hp.1 (by simpa using hq.2) (by lia) (by lia)
 have f2:Zs q.num (p.den:Int):=Zr l k hq.1 (by simpa using hp.2) (by lia) (by lia)
 have f3:Zs (p.den:Int) (q.den:Int):=Zr k l (by simpa using hp.2) (by simpa using hq.2) (by lia) (by lia)
 simp![F_minus,ZfE,ZG f1,ZG f2,ZG f3];rw[show(p.den:Int)*(q.den:Int)=((p.den*q.den:Nat):Int)by simp,CR.Zed nz (CR.Zag hp.2 hq.2) hk,<-Rat.sub_def]
theorem ZlB(hp:Sz k p)(hq:Sz l q):Sz (k+l+1) (p-q):=by
 rw[Rat.sub_def];have h1:=CR.Zag hp.1 hq.2;have h2:=CR.Zag hq.1 hp.2;have h3:=CR.Zag hp.2 hq.2;rw[je l k]at h2;refine CR.ZfD _ ?_ ?_
 ·have e1:(p.num*(q.den:Int)).natAbs=p.num.natAbs*q.den:=by rw[be];rfl
  have e2:(q.num*(p.den:Int)).natAbs=q.num.natAbs*p.den:=by rw[be];rfl
  have:=jS (p.num*(q.den:Int)) (q.num*(p.den:Int))
  rw[mL];lia
 ·rw[mL];lia
noncomputable def slp(m:Rat×Rat)(r:Pt):Rat:=m.1*(r.1:Rat)+m.2*(r.2:Rat)
end CS
namespace CN
open L2 DL
open CE (F_numbers)
open CC (F_following)
open CR (ZiR F_times)
open CS (F_ask_height)
end CN
namespace CN
open L2 DL
open CR (rt Sz)
open CH (rts ZL)
noncomputable def cq(hs:List Rat)(i:Int):Rat:=hs.getD (i%hs.length).toNat 0
theorem ZlC(h: -(hs.length:Int)<=i/\i<hs.length):atI (rts hs) i=some (rt (cq hs i)):=by
 unfold atI;rw[ZL,Zlr h];have hp:(i%hs.length).toNat<hs.length:=by
  have:=cC i (show(0:Int)<hs.length by lia)
  have:=dF i (show(hs.length:Int)≠0 by lia)
  lia
 simp[rts,cq,af hp]
theorem ZiT{hs:List Rat}(h:k<hs.length):cq hs k=hs[k]:=by
 unfold cq;rw[fK (by lia) (by lia)]
 simp[af h]
theorem Ze4(h:∀x∈hs,Sz k x)(hn:hs.length≠0):Sz k (cq hs i):=by
 unfold cq
 have:=(Zab (i:=i) hn).1
 rw[ao,af this];exact h _ (cj this)
theorem ZfF(h:i<(rts hs).length):(rts hs)[i]=rt (cq hs i):=by
 rw[ZL]at h;rw[ZiT h];simp[rts]
def dot(xs ys:List Rat):Nat->Rat
 |0=>0
 |n+1=>dot xs ys n+cq xs n*cq ys n
theorem Ze5(h:M[n]?=some (.lst (prs rs)))(h':M[m]?=some (.lst (rts hs)))(e:hs.length=rs.length)(q:Q .non M):wO (CS.F_ask_height [.ref n,.ref m] M) Q E:=by
 simp![CS.F_ask_height,CS.Zbw,h,h',ZL,e];exact q
end CN
namespace CN
open L2 DL
open CR (rt Sz)
open CH (rts ZL)
theorem ZkF(t:Int)(x:Rat):dO (t*x.num) x.den x.den_nz=(t:Rat)*x:=by
 rw[mY];simp
end CN
namespace CN
open L2 DL
open CR (rt Sz)
open CH (rts ZL)
end CN
namespace CU
open L2 DL
open CC (F_ask_smooth)
open CS (F_ask_height F_minus F_slope_through)
end CU
namespace CU
open L2 DL
open CR (rt Sz)
open CH (rts ZL)
open CN CS
def thr(rs:List Pt)(hs:List Rat):Rat×Rat:=(cq hs 0*(cy rs 1).2-cq hs 1*(cy rs 0).2,cq hs 1*(cy rs 0).1-cq hs 0*(cy rs 1).1)
abbrev rp(m:Rat×Rat):D:=.tup [rt m.1,rt m.2]
theorem ZlD(h:rt p=rt q):p=q:=by
 unfold rt pr at h;injection h with h;injection h with h1 h;injection h with h2;injection h1 with h1;injection h2 with h2;exact Rat.ext h1 (by lia)
theorem ZiU(h:M[n]?=some (.lst (prs rs)))(hb:Nr B rs)(h2:2<=rs.length)(h':M[m]?=some (.lst (rts hs)))(e:2<=hs.length)(hz:∀x∈hs,Sz k x)(hk:k<=2000)(hB:B<=400:=by first|decide|assumption):wO (F_slope_through [.ref n,.ref m] M) Q E=Q (rp (thr rs hs)) M:=by
 have hn:rs≠[]:=by intro z;rw[z]at h2;simp at h2
 have a:=hb _ (Z0 (i:=0) hn);have b:=hb _ (Z0 (i:=1) hn);have z0:=Ze4 (i:=0) hz (by lia)
 have z1:=Ze4 (i:=1) hz (by lia)
 simp![F_slope_through,ZaJ,h,h',ZaN,ZlC];have sz (z:Int) (hz: -B<=z/\z<=B):Sz 9 (z:Rat):=Ze3 (by lia) (by decide)
 have re (z:Int):D.tup [D.int z,D.int 1]=rt (z:Rat):=ZlA z;rw[re,CR.Zee z0 (sz _ b.2) (by lia)]
 simp![Zm];rw[re,CR.Zee z1 (sz _ a.2) (by lia)]
 simp![Zm];rw[ZiS (CR.ZcE z0 (sz _ b.2)) (CR.ZcE z1 (sz _ a.2)) (by lia)]
 simp![Zm];rw[re,CR.Zee z1 (sz _ a.1) (by lia)]
 simp![Zm];rw[re,CR.Zee z0 (sz _ b.1) (by lia)]
 simp![Zm];rw[ZiS (CR.ZcE z1 (sz _ a.1)) (CR.ZcE z0 (sz _ b.1)) (by lia)]
 simp![Zm];rfl
end CU
namespace CV
open L2 DL
open CR (rt Sz)
open CH (rts ZL)
open CN CU CS
noncomputable def Kp(M M':Sto):Prop:=M.length<=M'.length/\∀j<M.length,M'[j]?=M[j]?
section
variable {M M1 M2:Sto}{o:SO}{j:Nat}
theorem Kp.get(k:Kp M M')(h:M[j]?=some o):M'[j]?=some o:=(k.2 _ (ZA h)).trans h
theorem Kp.refl:Kp M M:=⟨aj _,fun _ _=>rfl⟩
theorem Kp.trans(a:Kp M M1)(b:Kp M1 M2):Kp M M2:=⟨aT a.1 b.1,fun j h=>(b.2 j (ai h a.1)).trans (a.2 j h)⟩
theorem Kp.app:Kp M (M++L):=⟨by simp,fun j h=>Zkx h⟩
theorem Kp.set(a:Kp M M1)(h:M.length<=j):Kp M (M1.set j o):=⟨by rw[gI];exact a.1,fun i hi=>by rw[aM (by lia)];exact a.2 i hi⟩
end
theorem ZqV(h:Sz a x)(hab:a<=b):Sz b x:=⟨ai h.1 (cE (by decide) hab),ai h.2 (cE (by decide) hab)⟩
end CV
namespace CW
open L2 DL
open CC (F_law_tags F_law_are_rays)
open CE (F_numbers)
end CW
namespace CW
open L2 DL
open CV
def fx(rs:List Pt):Nat:=((ZF rs).findIdx? (fun t=>decide (t= -1))).getD 0
def wk:Nat->List Pt->List Int×List Pt
 |0,rs=>([],rs)
 |n+1,rs=>if 5<=rs.length then((fx rs:Int)::(wk n (del rs (fx rs))).1,(wk n (del rs (fx rs))).2)else([],rs)
end CW
namespace CB
open L2 DL
theorem mid(h1:0<X a p)(h2:0<X p b)(h:0<X a b):in1 w a b=in1 w a p+in1 w p b/\in2 w a b=in2 w a p+in2 w p b:=by
 have e:X a b*X p w=X p b*X a w-X a p*X w b:=by unfold X;grind
 have s:=Zcj (p:=w) (q:=p);have k1:0<=X a w->0<=X p b*X a w:=fun z=>aU (by lia) z
 have k2:0<X a w->0<X p b*X a w:=fun z=>fj h2 z;have k3:X a w<=0->X p b*X a w<=0:=fun z=>bL (by lia) z
 have k3':X a w<0->X p b*X a w<0:=fun z=>gq h2 z;have l1:0<=X w b->0<=X a p*X w b:=fun z=>aU (by lia) z
 have l2:0<X w b->0<X a p*X w b:=fun z=>fj h1 z;have l3:X w b<=0->X a p*X w b<=0:=fun z=>bL (by lia) z
 have l3':X w b<0->X a p*X w b<0:=fun z=>gq h1 z;have m1:0<=X p w->0<=X a b*X p w:=fun z=>aU (by lia) z
 have m2:0<X p w->0<X a b*X p w:=fun z=>fj h z;have m3:X p w<=0->X a b*X p w<=0:=fun z=>bL (by lia) z
 have m3':X p w<0->X a b*X p w<0:=fun z=>gq h z;unfold in1 in2;rw[s];generalize X a b*X p w=z at *;generalize X p b*X a w=y at *;generalize X a p*X w b=x at *;generalize X a w=aw at *;generalize X w b=wb at *;generalize X p w=pw at *;constructor
 all_goals
  repeat' split
  all_goals lia
end CB
namespace CL
open L2 DL
open CC (F_following)
end CL
namespace CL
open L2 DL
open CV CB
end CL
namespace TW
open DL
noncomputable def nx(b:Int)(p q:Pt):Pt:=(0-b*q.1-p.1,0-b*q.2-p.2)
noncomputable def ng(p:Pt):Pt:=(0-p.1,0-p.2)
def run(p q:Pt):List Int->Pt×Pt
 |[]=>(p,q)
 |b::bs=>run q (nx b p q) bs
def ew(p q:Pt):Nat:=in1 (1,0) p q+in1 (-1,0) p q
def tot(p q:Pt):List Int->Int
 |[]=>0
 |b::bs=>6*(ew p q:Int)-b-3+tot q (nx b p q) bs
theorem ZkG(h:X p q=1):X q (nx b p q)=1:=by unfold X nx at *;simp only;grind
theorem Znx:∀(bs:List Int){p q:Pt},X p q=1->X (run p q bs).1 (run p q bs).2=1
 |[],_,_,h=>h
 |b::bs,_,_,h=>Znx bs (ZkG h)
theorem Zam:∀(xs ys:List Int)(p q:Pt),run p q (xs++ys)=run (run p q xs).1 (run p q xs).2 ys
 |[],_,_,_=>rfl
 |b::xs,ys,p,q=>Zam xs ys q (nx b p q)
theorem Zan:∀(xs ys:List Int)(p q:Pt),tot p q (xs++ys)=tot p q xs+tot (run p q xs).1 (run p q xs).2 ys
 |[],_,_,_=>by simp[tot,run]
 |b::xs,ys,p,q=>by
  have:=Zan xs ys q (nx b p q)
  simp only[aQ,tot,run]at *;lia
theorem ZqW:nx b (ng p) (ng q)=ng (nx b p q):=by unfold nx ng;simp only[cN];constructor<;>grind
theorem Zny:ng (ng p)=p:=by unfold ng;ext<;>simp
theorem Ztp:ew (ng p) (ng q)=ew p q:=by
 have e:∀(w a b:Pt),in1 w (ng a) (ng b)=in1 (ng w) a b:=by
  intro w a b;have h1:X (ng a) w=X a (ng w):=by unfold X ng;simp only;grind
  have h2:X w (ng b)=X (ng w) b:=by unfold X ng;simp only;grind
  unfold in1;rw[h1,h2]
 unfold ew;rw[e,e,show ng (1,0)=(-1,0)from rfl,show ng (-1,0)=(1,0)from rfl,je]
theorem Zgx:∀(bs:List Int)(p q:Pt),run (ng p) (ng q) bs=(ng (run p q bs).1,ng (run p q bs).2)
 |[],_,_=>rfl
 |b::bs,p,q=>by rw[run,run,ZqW,Zgx bs]
theorem Zgy:∀(bs:List Int)(p q:Pt),tot (ng p) (ng q) bs=tot p q bs
 |[],_,_=>rfl
 |b::bs,p,q=>by rw[tot,tot,ZqW,Zgy bs,Ztp]
def Sg(s:Bool)(p:Pt):Pt:=if s=true then ng p else p
theorem ZqX:run (Sg s p) (Sg s q) bs=(Sg s (run p q bs).1,Sg s (run p q bs).2):=by
 cases s
 ·rfl
 ·exact Zgx bs p q
theorem ZqY:tot (Sg s p) (Sg s q) bs=tot p q bs:=by
 cases s
 ·rfl
 ·exact Zgy bs p q
theorem ZfG(h:0<X a m):ew a m+ew m (ng a)=1:=by
 have z:¬(a.2=0/\m.2=0):=by
  intro z;unfold X at h;rw[z.1,z.2]at h;simp at h
 have f:∀(w p q:Pt)(x y:Int),X p w=x->X w q=y->in1 w p q=if 0<=x/\0<y then 1 else 0:=by
  intro w p q x y h1 h2;unfold in1;rw[h1,h2]
 unfold ew;rw[f (1,0) a m (0-a.2) m.2 (by unfold X;simp) (by unfold X;simp),f (-1,0) a m a.2 (0-m.2) (by unfold X;simp) (by unfold X;simp),f (1,0) m (ng a) (0-m.2) (0-a.2) (by unfold X;simp) (by unfold X ng;simp),f (-1,0) m (ng a) m.2 a.2 (by unfold X;simp) (by unfold X ng;simp)]
 generalize a.2=x at *;generalize m.2=y at *
 repeat' split
 all_goals lia
theorem ZlE(h1:0<X a p)(h2:0<X p b)(h:0<X a b):ew a b=ew a p+ew p b:=by
 have m1:=(CB.mid (w:=(1,0)) h1 h2 h).1;have m2:=(CB.mid (w:=(-1,0)) h1 h2 h).1;unfold ew;lia
theorem Ztq(h:X p q=1):run p q [c,-1,d]=run p q [c+1,d+1]/\tot p q [c,-1,d]=tot p q [c+1,d+1]:=by
 have e1:nx (-1) q (nx c p q)=nx (c+1) p q:=by unfold nx;simp only[cN];constructor<;>grind
 have e2:nx d (nx c p q) (nx (-1) q (nx c p q))=nx (d+1) q (nx (c+1) p q):=by unfold nx;simp only[cN];constructor<;>grind
 have x1:X q (nx c p q)=1:=ZkG h;have x2:X (nx c p q) (nx (c+1) p q)=1:=by rw[<-e1];exact ZkG x1
 have x3:X q (nx (c+1) p q)=1:=ZkG h;have k:=ZlE (a:=q) (b:=nx (c+1) p q) (p:=nx c p q) (by lia) (by lia) (by lia)
 constructor
 ·simp only[run];rw[e2,e1]
 ·simp only[tot];rw[e1];lia
theorem Ztr(h:X p q=1):run p q [c,0,d]=(ng (run p q [c+d]).1,ng (run p q [c+d]).2)/\tot p q [c,0,d]=tot p q [c+d]:=by
 have e1:nx 0 q (nx c p q)=ng q:=by unfold nx ng;simp only[cN];constructor<;>grind
 have e2:nx d (nx c p q) (ng q)=ng (nx (c+d) p q):=by unfold nx ng;simp only[cN];constructor<;>grind
 have x1:X q (nx c p q)=1:=ZkG h;have k:=ZfG (a:=q) (m:=nx c p q) (by lia)
 constructor
 ·simp only[run];rw[e1,e2]
 ·simp only[tot];rw[e1];lia
theorem Zts(h:X p q=1):run p q [c,1,d]=(ng (run p q [c-1,d-1]).1,ng (run p q [c-1,d-1]).2)/\tot p q [c,1,d]=tot p q [c-1,d-1]:=by
 have e1:nx 1 q (nx c p q)=ng (nx (c-1) p q):=by unfold nx ng;simp only[cN];constructor<;>grind
 have e2:nx d (nx c p q) (ng (nx (c-1) p q))=ng (nx (d-1) q (nx (c-1) p q)):=by unfold nx ng;simp only[cN];constructor<;>grind
 have x1:X q (nx c p q)=1:=ZkG h;have x3:X q (nx (c-1) p q)=1:=ZkG h;have x2:X (nx (c-1) p q) (nx c p q)=1:=by
  have:X (nx (c-1) p q) (nx c p q)=X q (nx c p q):=by unfold X nx;simp only;grind
  lia
 have k1:=ZlE (a:=q) (b:=nx c p q) (p:=nx (c-1) p q) (by lia) (by lia) (by lia)
 have k2:=ZfG (a:=nx (c-1) p q) (m:=nx c p q) (by lia)
 constructor
 ·simp only[run];rw[e1,e2]
 ·simp only[tot];rw[e1];lia
theorem ZuH{p:Pt}:∀(bs:List Int)(u v:Pt),(∀b∈bs,2<=b\/b<= -2)->(X p u).natAbs<(X p v).natAbs->(X p (run u v bs).1).natAbs<(X p (run u v bs).2).natAbs
 |[],_,_,_,h=>h
 |b::bs,u,v,hb,h=>by
  refine ZuH bs v (nx b u v) (fun c hc=>hb c (by simp[hc])) ?_
  have e:X p (nx b u v)= -(b*X p v)-X p u:=by unfold X nx;simp only;grind
  have hb':=hb b (by simp)
  have m:2*(X p v).natAbs<=(b*X p v).natAbs:=by
   rw[be];exact cf _ (by lia)
  rw[e];lia
theorem red(ih:∀m,m<n->∀(bs:List Int)(p q:Pt)(s:Bool),bs.length=m->X p q=1->run p q bs=(Sg s p,Sg s q)->tot p q bs=0)(hn:(xs++([c,b,d]++Y)).length=n)(hb:¬(2<=b\/b<= -2))(hX:X p q=1)(hr:run p q (xs++([c,b,d]++Y))=(Sg s p,Sg s q)):tot p q (xs++([c,b,d]++Y))=0:=by
 simp at hn;rw[Zam]at hr;rw[Zan];have hx:=Znx xs hX;have flip:∀(R:Pt×Pt),(ng R.1,ng R.2)=(Sg s p,Sg s q)->R=(Sg (!s) p,Sg (!s) q):=by
  intro R h;have a1:=congrArg (fun x=>ng x.1) h;have a2:=congrArg (fun x=>ng x.2) h;simp only[Zny]at a1 a2;apply b5
  ·simp only[a1];cases s<;>simp[Sg,Zny]
  ·simp only[a2];cases s<;>simp[Sg,Zny]
 have:b= -1\/b=0\/b=1:=by lia
 rcases this with rfl|rfl|rfl
 ·obtain⟨c1,c2⟩:=Ztq (c:=c) (d:=d) hx;rw[Zam,c1,<-Zam,<-Zam]at hr;rw[Zan,c1,c2,<-Zan,<-Zan];exact ih (xs++([c+1,d+1]++Y)).length (by simp;lia) _ _ _ s rfl hX hr
 ·obtain⟨c1,c2⟩:=Ztr (c:=c) (d:=d) hx;rw[Zam,c1,Zgx,<-Zam,<-Zam]at hr;rw[Zan,c1,c2,Zgy,<-Zan,<-Zan];exact ih (xs++([c+d]++Y)).length (by simp;lia) _ _ _ (!s) rfl hX (flip _ hr)
 ·obtain⟨c1,c2⟩:=Zts (c:=c) (d:=d) hx;rw[Zam,c1,Zgx,<-Zam,<-Zam]at hr;rw[Zan,c1,c2,Zgy,<-Zan,<-Zan];exact ih (xs++([c-1,d-1]++Y)).length (by simp;lia) _ _ _ (!s) rfl hX (flip _ hr)
theorem ZqZ:∀(n:Nat)(bs:List Int)(p q:Pt)(s:Bool),bs.length=n->X p q=1->run p q bs=(Sg s p,Sg s q)->tot p q bs=0:=by
 intro n
 induction n using kM with
 |ind n ih=>
  intro bs p q s hn hX hr;rcases kY bs with rfl|⟨L,z,rfl⟩
  ·rfl
  rw[kZ]at hn hr ⊢;have hr0:=hr;rw[Zam]at hr;have hq:(run p q L).2=Sg s p:=congrArg iX hr;have hX':=Znx L hX;have xp:X p p=0:=by unfold X;grind
  have key:∃b∈L,¬(2<=b\/b<= -2):=by
   apply Classical.byContradiction;intro c
   have:=ZuH (p:=p) L p q (fun b hb=>Classical.byContradiction fun d=>c ⟨b,hb,d⟩) (by rw[hX,xp];decide)
   rw[hq]at this;have z:X p (Sg s p)=0:=by
    cases s
    ·exact xp
    ·have:X p (ng p)= -X p p:=by unfold X ng;simp only;grind
     show X p (ng p)=0;lia
   rw[z]at this;simp at this
  obtain⟨b,hbL,hb⟩:=key;obtain⟨A,B,rfl⟩:=gS hbL;rcases kY A with rfl|⟨xs,c,rfl⟩
  ·cases B with
   |cons d B=>
    have e1:run (run p q ([]++b::d::B)).1 (run p q ([]++b::d::B)).2 ([z]++(b::d::B))=(Sg s (run p q ([]++b::d::B)).1,Sg s (run p q ([]++b::d::B)).2):=by
     rw[Zam,hr,ZqX,bS]
    have e2:tot (run p q ([]++b::d::B)).1 (run p q ([]++b::d::B)).2 ([z]++(b::d::B))=tot p q (([]++b::d::B)++[z]):=by
     rw[Zan,hr,ZqY,Zan,bS];lia
    rw[<-e2];exact red ih (xs:=[]) (c:=z) (b:=b) (d:=d) (Y:=B) (by simp at hn ⊢;lia) hb hX' e1
   |nil=>
    have h1:=congrArg iX hr0;have h2:=congrArg kc hr0;simp only[bS,aQ,run]at h1 h2;have b0:b=0:=by
     have:=congrArg (X p) h1
     have e:X p (nx b p q)= -b*X p q:=by unfold X nx;simp only;grind
     have z:X p (Sg s p)=0:=by
      cases s
      ·exact xp
      ·have:X p (ng p)= -X p p:=by unfold X ng;simp only;grind
       show X p (ng p)=0;lia
     rw[e,z,hX]at this;lia
    subst b0;have n1:nx 0 p q=ng p:=by unfold nx ng;simp only[cN];constructor<;>grind
    rw[n1]at h1 h2;have z0:z=0:=by
     cases s
     ·exfalso
      have:X p q=X (ng p) q:=by rw[h1];rfl
      have e:X (ng p) q= -X p q:=by unfold X ng;simp only;grind
      lia
     ·have:=congrArg (X q) h2
      have e:X q (nx z q (ng p))= -z*X q (ng p):=by unfold X nx;simp only;grind
      have e2:X q (ng p)=X p q:=by unfold X ng;simp only;grind
      have e3:X q (Sg true q)=0:=by
       show X q (ng q)=0;unfold X ng;simp only;grind
      rw[e,e2,e3,hX]at this;lia
    subst z0;have k:=ZfG (a:=p) (m:=q) (by lia)
    simp only[bS,aQ,tot];rw[n1];lia
  ·rw[kZ]at hn hr0 ⊢;obtain⟨d,Y,hd⟩:∃d Y,B++[z]=d::Y:=by cases B with|nil=>exact⟨_,_,rfl⟩|cons d B=>exact⟨_,_,rfl⟩
   have er:(xs++[c]++b::B)++[z]=xs++([c,b,d]++Y):=by
    have:(xs++[c]++b::B)++[z]=xs++c::b::(B++[z]):=by simp
    rw[this,hd];simp
   rw[er]at hn hr0 ⊢;exact red ih hn hb hX hr0
noncomputable def st(a:Pt):Int:=if 0<a.2\/(a.2=0/\a.1<0)then 1 else 0
theorem alt(h:0<X a b):(in1 (1,0) a b:Int)-in1 (-1,0) a b=st b-st a:=by
 have f:∀(w p q:Pt)(x y:Int),X p w=x->X w q=y->in1 w p q=if 0<=x/\0<y then 1 else 0:=by
  intro w p q x y h1 h2;unfold in1;rw[h1,h2]
 rw[f (1,0) a b (0-a.2) b.2 (by unfold X;simp) (by unfold X;simp),f (-1,0) a b a.2 (0-b.2) (by unfold X;simp) (by unfold X;simp)]
 unfold st;have h':=h;unfold X at h';have k1:a.2=0->0<a.1->0<b.2:=fun z p=>by
  rw[z]at h';apply Classical.byContradiction;intro c
  have:=bL (a:=a.1) (b:=b.2) (by lia) (by lia)
  lia
 have k2:a.2=0->a.1<0->b.2<0:=fun z p=>by
  rw[z]at h';apply Classical.byContradiction;intro c
  have:=gU (a:=a.1) (b:=b.2) (by lia) (by lia)
  lia
 have k3:b.2=0->0<b.1->a.2<0:=fun z p=>by
  rw[z]at h';apply Classical.byContradiction;intro c
  have:=aU (a:=a.2) (b:=b.1) (by lia) (by lia)
  lia
 have k4:b.2=0->b.1<0->0<a.2:=fun z p=>by
  rw[z]at h';apply Classical.byContradiction;intro c
  have:=gR (a:=a.2) (b:=b.1) (by lia) (by lia)
  lia
 have z1:¬(a.1=0/\a.2=0):=fun z=>by rw[z.1,z.2]at h';simp at h'
 have z2:¬(b.1=0/\b.2=0):=fun z=>by rw[z.1,z.2]at h';simp at h'
 generalize a.1=a1 at *;generalize a.2=a2 at *;generalize b.1=b1 at *;generalize b.2=b2 at *;clear h h';have o1:0<a1\/a1<0\/a1=0:=by lia
 have o2:0<b1\/b1<0\/b1=0:=by lia
 repeat' split
 all_goals lia
def ZjB(p q:Pt):List Int->Nat
 |[]=>0
 |b::bs=>in1 (1,0) p q+ZjB q (nx b p q) bs
noncomputable def ZlF(bs:List Int):Int:=bs.foldr (· + ·) 0
theorem ZlG:∀(bs:List Int){p q:Pt},X p q=1->tot p q bs=12*(ZjB p q bs:Int)-ZlF bs-3*bs.length-6*(st (run p q bs).1-st p)
 |[],p,q,_=>by simp[tot,ZjB,ZlF,run]
 |b::bs,p,q,h=>by
  have ih:=ZlG bs (ZkG (b:=b) h);have a:=alt (a:=p) (b:=q) (by lia)
  simp only[tot,ZjB,run,ZlF,kP,bC]at *;unfold ew;rw[ih];lia
theorem ZlH(h:X p q=1)(hr:run p q bs=(p,q)):12*(ZjB p q bs:Int)=ZlF bs+3*bs.length:=by
 have t:=ZqZ _ bs p q false rfl h hr;have e:=ZlG bs h;rw[t,hr]at e;simp only at e;lia
end TW
namespace TW
open DL
section
variable {rs:List Pt}
theorem Znz(h:Smo rs)(i:Int):nx (T rs (i+1)) (cy rs i) (cy rs (i+1))=cy rs (i+2):=by
 have n:=nbr h (i+1);rw[show i+1-1=i by lia,show i+1+1=i+2 by lia]at n
 unfold nx;apply b5
 ·simp only;lia
 ·simp only;lia
def ZdO(rs:List Pt):Int->Nat->List Int
 |_,0=>[]
 |i,k+1=>T rs (i+1)::ZdO rs (i+1) k
theorem Zef:∀(k:Nat)(i:Int),(ZdO rs i k).length=k
 |0,_=>rfl
 |k+1,i=>by rw[ZdO,bC,Zef k]
theorem ZlI(h:Smo rs):∀(k:Nat)(i:Int),run (cy rs i) (cy rs (i+1)) (ZdO rs i k)=(cy rs (i+k),cy rs (i+k+1))
 |0,i=>by simp[ZdO,run]
 |k+1,i=>by
  rw[ZdO,run,Znz h,show i+2=i+1+1 by lia,ZlI h k (i+1)]
  rw[show i+1+(k:Int)=i+((k+1:Nat):Int)by lia]
def sf(f:Pt->Pt->Nat)(rs:List Pt):Int->Nat->Nat
 |_,0=>0
 |i,k+1=>f (cy rs i) (cy rs (i+1))+sf f rs (i+1) k
theorem ZiV(h:Smo rs):∀(k:Nat)(i:Int),ZjB (cy rs i) (cy rs (i+1)) (ZdO rs i k)=sf (in1 (1,0)) rs i k
 |0,i=>rfl
 |k+1,i=>by rw[ZdO,ZjB,sf,Znz h,show i+2=i+1+1 by lia,ZiV h k (i+1)]
theorem Ztt(hn:rs≠[]):∀(k i:Nat),i+k=rs.length->cc f ((rs++rs.take 1).drop i)=sf f rs i k:=by
 have l0:0<rs.length:=gy.mpr hn;have ga:∀i:Nat,i<=rs.length->(rs++rs.take 1)[i]?=some (cy rs i):=by
  intro i hi;by_cases c:i<rs.length
  ·rw[ah c,Zbr (by lia),Za8 (by lia),af c]
   simp
  ·have:i=rs.length:=by lia
   subst this;rw[aI (aj _),ft,<-Zdb,Int.sub_self,Zbr (by lia),Za8 (by lia)]
   rw[bY (by decide),af (by lia)]
   simp
 have lch:(rs++rs.take 1).length=rs.length+1:=by simp;lia
 have dr:∀i:Nat,i<=rs.length->(rs++rs.take 1).drop i=cy rs i::(rs++rs.take 1).drop (i+1):=by
  intro i hi;rw[ez (by lia)]
  have:=ga i hi
  rw[af (by lia)]at this
  rw[aX this]
 intro k
 induction k with
 |zero=>
  intro i hi;rw[dr i (by lia),bW (by lia)]
  rfl
 |succ k ih=>
  intro i hi
  have:=ih (i+1) (by lia)
  rw[dr i (by lia)]
  rw[dr (i+1) (by lia)]at this ⊢
  rw[cc,this,sf];rfl
theorem Zdi(hn:rs≠[]):cyc f rs=sf f rs 0 rs.length:=by
 have:=Ztt (f:=f) hn rs.length 0 (by lia)
 exact this
theorem Zdj:∀{L:List Int},ZlF L=L.sum
 |[]=>rfl
 |b::L=>by
  have:=Zdj (L:=L)
  unfold ZlF at *;rw[kP,List.sum_cons,this]
end
end TW
namespace CT
open L2 DL
end CT
namespace CT
open L2 DL
open CV TW
def rl0(p q:Pt):List Int->List Pt
 |[]=>[]
 |b::bs=>p::rl0 q (nx b p q) bs
section
variable {L:List Int}
theorem Zdj:∀{L:List Int},TW.ZlF L=L.sum
 |[]=>rfl
 |b::L=>by
  have:=Zdj (L:=L)
  unfold TW.ZlF at *;rw[kP,List.sum_cons,this]
def Cl(L:List Int):Prop:=run (1,0) (0,1) L=((1,0),(0,1))
instance (L:List Int):Decidable (Cl L):=by unfold Cl;infer_instance
theorem ZiW{L:List Int}(h:Cl L):(L.sum+3*(L.length:Int))=12*(ZjB (1,0) (0,1) L:Int):=by
 have:=ZlH (bs:=L) (p:=(1,0)) (q:=(0,1)) rfl h
 rw[Zdj]at this;lia
end
end CT
namespace CT
open L2 DL
open CV
open TW (nx ZjB ZkG)
end CT
namespace DL
open CB (mid)
section
variable {rs:List Pt}
theorem ZkH(hl:rs≠[])(h:cyc f rs=0)(i:Int):f (cy rs i) (cy rs (i+1))=0:=by
 have l0:rs.length≠0:=fun z=>hl (kh.mp z);refine Zdc (P:=fun a b=>f a b=0) l0 ?_ i;intro i h0 h1;rw[TW.Zdi hl]at h
 have:∀(k:Nat)(j:Int),TW.sf f rs j k=0->∀m:Nat,m<k->f (cy rs (j+m)) (cy rs (j+m+1))=0:=by
  intro k
  induction k with
  |zero=>intro j _ m hm;lia
  |succ k ih=>
   intro j h m hm;rw[TW.sf]at h;cases m with
   |zero=>
    rw[show j+((0:Nat):Int)=j by lia]
    lia
   |succ m=>
    have:=ih (j+1) (by lia) m (by lia)
    rw[show j+((m+1:Nat):Int)=j+1+m by lia]
    exact this
 have:=this rs.length 0 h i.toNat (by lia)
 rw[show(0:Int)+(i.toNat:Nat)=i by lia]at this
 exact this
theorem ZfH(hl:rs≠[])(h:∀i:Int,f (cy rs i) (cy rs (i+1))=0):cyc f rs=0:=by
 rw[TW.Zdi hl]
 have:∀(k:Nat)(j:Int),TW.sf f rs j k=0:=by
  intro k
  induction k with
  |zero=>intro j;rfl
  |succ k ih=>intro j;rw[TW.sf,h,ih]
 exact this _ _
def nxp(a b:Pt):Nat:=if 0<X a b then 0 else 1
theorem Ztu(h:nxp a b=0):0<X a b:=by
 unfold nxp at h
 split at h
 ·assumption
 ·lia
theorem Zq0(h:0<X a b):nxp a b=0:=by unfold nxp;rw[if_pos h]
structure Rn(rs:List Pt):Prop where
 len:3<=rs.length
 ps:cyc nxp rs=0
 gc:∀p∈rs,gk p.1 p.2=1
 fan:Fan rs
theorem Rn.ne(h:Rn rs):rs≠[]:=by
 intro z
 have:=h.len
 rw[z]at this;simp at this
theorem Rn.pos(h:Rn rs)(i:Int):0<X (cy rs i) (cy rs (i+1)):=Ztu (ZkH h.ne h.ps i)
theorem Ztv(h:X a b=1):gk a.1 a.2=1/\gk b.1 b.2=1:=by
 unfold X at h;constructor
 ·have d1:((gk a.1 a.2:Nat):Int) ∣ a.1*b.2-a.2*b.1:=Int.dvd_sub (ki (Int.gcd_dvd_left _ _)) (ki (Int.gcd_dvd_right _ _));rw[h]at d1;exact k7 (kj.mp d1)
 ·have d1:((gk b.1 b.2:Nat):Int) ∣ a.1*b.2-a.2*b.1:=Int.dvd_sub (j4 (Int.gcd_dvd_right _ _)) (j4 (Int.gcd_dvd_left _ _));rw[h]at d1;exact k7 (kj.mp d1)
theorem Zq1{p:Pt}(h:p∈rs):∃i:Int,p=cy rs i:=by
 obtain⟨L,R,rfl⟩:=gS h;exact⟨L.length,Zfw.symm⟩
theorem Smo.rn(h:Smo rs):Rn rs:=by
 refine⟨h.len,ZfH h.ne fun i=>Zq0 (by rw[h.one i];decide),fun p hp=>?_,h.fan⟩
 obtain⟨i,rfl⟩:=Zq1 hp;exact(Ztv (h.one i)).1
end
end DL
namespace DL
open TW
open CT (rl0 Cl)
section
variable {rs us:List Pt}
theorem Zq2{f:Pt->Pt->Nat}:∀(k:Nat)(j:Int)(m:Nat),m<k->f (cy rs (j+m)) (cy rs (j+m+1))<=sf f rs j k
 |0,_,_,h=>absurd h (Nat.not_lt_zero _)
 |k+1,j,0,_=>by rw[sf];simp
 |k+1,j,m+1,h=>by
  have:=Zq2 (f:=f) k (j+1) m (by lia)
  rw[sf,show j+((m+1:Nat):Int)=j+1+m by lia]
  lia
theorem Zgz{f:Pt->Pt->Nat}:∀(k:Nat)(j:Int)(m l:Nat),m<l->l<k->f (cy rs (j+m)) (cy rs (j+m+1))+f (cy rs (j+l)) (cy rs (j+l+1))<=sf f rs j k
 |0,_,_,_,_,h=>absurd h (Nat.not_lt_zero _)
 |k+1,j,0,l+1,_,h=>by
  have:=Zq2 (f:=f) (rs:=rs) k (j+1) l (by lia)
  rw[sf,show j+((l+1:Nat):Int)=j+1+l by lia]
  simp;lia
 |k+1,j,m+1,l+1,h1,h=>by
  have:=Zgz (f:=f) k (j+1) m l (by lia) (by lia)
  rw[sf,show j+((m+1:Nat):Int)=j+1+m by lia,show j+((l+1:Nat):Int)=j+1+l by lia]
  lia
theorem Rn.lt_ne(h:Rn rs)(hij:i<j)(hj:j<rs.length):cy rs i≠cy rs j:=by
 intro e;have p1:=h.pos i;have p2:=h.pos j;have w0:cy rs i≠(0,0):=by
  intro z;rw[z]at p1;unfold X at p1;simp at p1
 have:=(h.fan (cy rs i) w0).1
 rw[Zdi h.ne]at this;have g:=Zgz (f:=in1 (cy rs i)) (rs:=rs) rs.length 0 i j hij hj;rw[show(0:Int)+i=i by lia,show(0:Int)+j=j by lia]at g
 rw[Zcn (by rw[XX];lia) p1,Zcn (by rw[e,XX];lia) (by rw[e];exact p2)]at g
 lia
theorem Rn.inj(h:Rn rs)(hi:i<rs.length)(hj:j<rs.length)(e:cy rs i=cy rs j):i=j:=by
 rcases Nat.lt_trichotomy i j with c|c|c
 ·exact absurd e (h.lt_ne c hj)
 ·exact c
 ·exact absurd e.symm (h.lt_ne c hi)
theorem Zq3(h:rs≠[])(i:Int):∃k:Nat,k<rs.length/\∀d:Int,cy rs (i+d)=cy rs (k+d):=by
 have l0:rs.length≠0:=fun z=>h (kh.mp z);obtain⟨a,b⟩:=Zab (i:=i) l0;refine⟨(i%rs.length).toNat,a,fun d=>?_⟩;rw[show(((i%rs.length).toNat:Nat):Int)=i%rs.length by lia]
 unfold cy;congr 2;rw[Int.add_emod,Int.add_emod (i%rs.length) d,lK _ (Int.dvd_refl _)]
def Lin(f:Pt->Pt):Prop:=∀b p q,f (nx b p q)=nx b (f p) (f q)
theorem ZfI{f:Pt->Pt}(hf:Lin f):∀(L:List Int)(p q:Pt),run (f p) (f q) L=(f (run p q L).1,f (run p q L).2)
 |[],_,_=>rfl
 |b::L,p,q=>by rw[TW.run,TW.run,<-hf,ZfI hf L]
theorem ZfJ{f:Pt->Pt}(hf:Lin f):∀(L:List Int)(p q:Pt),rl0 (f p) (f q) L=(rl0 p q L).map f
 |[],_,_=>rfl
 |b::L,p,q=>by
  show f p::rl0 (f q) (nx b (f p) (f q)) L=f p::(rl0 q (nx b p q) L).map f;rw[<-hf,ZfJ hf L]
theorem ZlJ(h:Smo us):∀(k:Nat)(i:Int),rl0 (cy us i) (cy us (i+1)) (ZdO us i k)=(aH k).map fun(j:Nat)=>cy us (i+j)
 |0,_=>rfl
 |k+1,i=>by
  show cy us i::rl0 (cy us (i+1)) (nx (T us (i+1)) (cy us i) (cy us (i+1))) (ZdO us (i+1) k)=_;rw[Znz h,show i+2=i+1+1 by lia,ZlJ h k (i+1),ik,aL,cT]
  congr 1
  ·congr 1;simp
  ·apply b6;intro j _;show cy us (i+1+j)=cy us (i+((j+1:Nat):Int));congr 1;lia
theorem ZiX:(aH us.length).map (fun(j:Nat)=>cy us j)=us:=by
 apply dQ
 ·simp
 ·intro i h1 h2;simp[Zb4 h2]
noncomputable abbrev ZcR(a b:Pt)(p:Pt):Pt:=(a.1*p.1+b.1*p.2,a.2*p.1+b.2*p.2)
theorem ZgA:Lin (ZcR a b):=by
 intro c p q;unfold ZcR nx;apply b5<;>simp only<;>grind
theorem ZiY:ZcR a b (1,0)=a/\ZcR a b (0,1)=b:=by
 unfold ZcR
 constructor<;>apply b5<;>simp
theorem ZgB(h:X a b=1\/X a b= -1)(e:ZcR a b p=ZcR a b q):p=q:=by
 have e1:a.1*p.1+b.1*p.2=a.1*q.1+b.1*q.2:=congrArg iX e;have e2:a.2*p.1+b.2*p.2=a.2*q.1+b.2*q.2:=congrArg kc e;unfold X at h;have f1:(a.1*b.2-a.2*b.1)*p.1=(a.1*b.2-a.2*b.1)*q.1:=by grind
 have f2:(a.1*b.2-a.2*b.1)*p.2=(a.1*b.2-a.2*b.1)*q.2:=by grind
 apply b5
 ·rcases h with h|h<;>rw[h]at f1<;>lia
 ·rcases h with h|h<;>rw[h]at f2<;>lia
theorem ZgC(h:Smo us):run (cy us 0) (cy us 1) (ZdO us 0 us.length)=(cy us 0,cy us 1):=by
 have:=ZlI h us.length 0
 rw[ZS,show(0:Int)+(us.length:Int)+1=1+us.length by lia,ZS]at this
 exact this
theorem ZnA(h:Smo us):(ZdO us 0 us.length).sum+3*(us.length:Int)=12:=by
 have tw:=ZlH (h.one 0) (ZgC h);rw[Zef,TW.Zdj]at tw;have e1:=ZiV h us.length 0;have e2:=Zdi (f:=in1 (1,0)) h.ne;have e3:=(h.fan (1,0) (by decide)).1
 rw[show(0:Int)+1=1 from rfl]at e1 tw;rw[e1,<-e2,e3]at tw;lia
theorem ZnB(hf:Lin f)(h:Smo us)(hx:X (f (cy us 0)) (f (cy us 1))=1\/X (f (cy us 0)) (f (cy us 1))= -1):Cl (ZdO us 0 us.length)/\TW.ZjB (1,0) (0,1) (ZdO us 0 us.length)=1/\(rl0 (1,0) (0,1) (ZdO us 0 us.length)).map (ZcR (f (cy us 0)) (f (cy us 1)))=us.map f:=by
 have e:=ZiY (a:=f (cy us 0)) (b:=f (cy us 1));have hc:Cl (ZdO us 0 us.length):=by
  have r1:=ZfI (ZgA (a:=f (cy us 0)) (b:=f (cy us 1))) (ZdO us 0 us.length) (1,0) (0,1);rw[e.1,e.2,ZfI hf,ZgC h]at r1;have r2:=congrArg iX r1;have r3:=congrArg kc r1;simp only at r2 r3;unfold CT.Cl;apply b5
  ·exact ZgB hx (r2.symm.trans e.1.symm)
  ·exact ZgB hx (r3.symm.trans e.2.symm)
 refine⟨hc,?_,?_⟩
 ·have:=CT.ZiW hc
  rw[Zef,ZnA h]at this;lia
 ·rw[<-ZfJ ZgA,e.1,e.2,ZfJ hf]
  have:=ZlJ h us.length 0
  rw[show(0:Int)+1=1 from rfl]at this;rw[this];congr 1
  conv=>rhs;rw[<-ZiX (us:=us)]
  apply b6;intro j _;congr 1;lia
noncomputable abbrev sw(p:Pt):Pt:=(p.2,p.1)
end
end DL
namespace CB
open DL
section
variable {u v w:Pt}
def kl:List Pt->List Int
 |a::b::d::r=>X a d::kl (b::d::r)
 |_=>[]
theorem Xvv(p:Pt):X p p=0:=by unfold X;grind
theorem Ztw:∀(r:List Pt)(a b:Pt)(v:Pt),Ch (a::b::r)->Cv (a::b::r)->(b::r).getLast (by simp)=v->0<=X b v/\X b v<X a v
 |[],a,b,v,h,_,e=>by
  have:b=v:=e
  subst this;rw[Xvv,h.1];lia
 |c::r,a,b,v,h,k,e=>by
  have ih:=Ztw r b c v h.2 k.2 (by rw[<-e];simp[List.getLast_cons])
  obtain⟨m,m2,e1,e2⟩:=k.1;have ex:X a v+X c v=m*X b v:=by unfold X;grind
  have:2*X b v<=m*X b v:=cK m2 (by lia)
  lia
theorem ZnC(hb:0<b)(h0:0<=c)(h1:c<b)(e:t+c=k*b): -((-t)/b)=k:=by
 have: -t=c+b*(-k):=by grind
 rw[this,Int.add_mul_ediv_left _ _ (by lia),Int.ediv_eq_zero_of_lt h0 h1]
 lia
theorem only:∀(ws:List Pt)(u v w:Pt),Ch (u::(ws++[v]))->Cv (u::(ws++[v]))->Fb u v w->ws=btw u w (hj (X u v) (X w v))/\kl (u::(ws++[v]))=hj (X u v) (X w v)
 |[],u,v,w,h,k,f=>by
  have h1:X u v=1:=h.1;have l:=f.lo;have l2:=f.hi;have w0:X w v=0:=by lia
  rw[w0];unfold hj;rw[dif_neg (by decide)]
  exact⟨rfl,rfl⟩
 |x::ws,u,v,w,h,k,f=>by
  have hl:(x::(ws++[v])).getLast (by simp)=v:=by simp[List.getLast_cons]
  have d:=Ztw (ws++[v]) u x v h k hl;have fx:Fb u v x:=⟨h.1,d.1,d.2⟩;have ew:=fx.uniq f;subst ew;obtain⟨y,R,eR⟩:∃y R,ws++[v]=y::R:=by
   cases ws with
   |nil=>exact⟨v,[],rfl⟩
   |cons y R=>exact⟨y,R++[v],rfl⟩
  have h':Ch (x::y::R):=by rw[<-eR];exact h.2
  have kk:Cv (u::x::y::R):=by rw[<-eR];exact k
  have hl2:(y::R).getLast (by simp)=v:=by
   have:(ws++[v]).getLast (by simp)=v:=by simp
   simpa [eR]using this
  have d2:=Ztw R x y v h' kk.2 hl2;obtain⟨m,m2,e1,e2⟩:=kk.1;have ex:X u v+X y v=m*X x v:=by unfold X;grind
  have hc:=ZnC (by lia) d2.1 d2.2 ex
  have ey:(m*x.1-u.1,m*x.2-u.2)=y:=by apply b5<;>simp only<;>lia
  have m3:X u y=m:=by
   have:=h.1
   rw[<-ey];unfold X at *;simp only;grind
  have fy:Fb x v y:=⟨h'.1,d2.1,d2.2⟩;have ih:=only ws x v y (by rw[eR];exact h') (by rw[eR];exact kk.2) fy
  have ej:hj (X u v) (X x v)=m::hj (X x v) (X y v):=by
   rw[hj,dif_pos (by lia),hc]
   congr 2;lia
  rw[ej];constructor
  ·rw[btw,ey,<-ih.1]
  ·show kl (u::x::(ws++[v]))=_;rw[eR,kl,m3,<-eR,ih.2]
end
end CB
namespace CD
open L2 DL
open CC (F_ask_smooth)
open CS (F_minus)
def ZiZ:Sv:=(Z9 (e2 dLt (e2 dMul (e2 dIx (Zf 0) (eC (.int 0))) (e2 dIx (Zf 1) (eC (.int 1)))) (e2 dMul (e2 dIx (Zf 1) (eC (.int 0))) (e2 dIx (Zf 0) (eC (.int 1))))))
def F_less:W3:=fnF ZiZ 2 0
end CD
namespace CD
open L2 DL
open CV
open CR (rt Sz)
open CH (rts ZL)
theorem ZM:∀{L:List Int},Zbq (nts L)=some L
 |[]=>rfl
 |x::L=>by
  have:=ZM (L:=L)
  show(match Zbq (nts L)with|some ns=>some (x::ns)|none=>none)=_
  rw[this]
end CD
namespace CD
open L2 DL
open CV
open CR (rt Sz)
open CH (rts ZL)
def zp(us:List Pt)(xs:List D):List D:=cZ (fun u x=>D.tup [pr u.1 u.2,x]) us xs
end CD
namespace CD
open L2 DL
open CV CN CU CS
open CR (rt Sz)
open CH (rts ZL)
def pts(ms:List (Rat×Rat)):List D:=ms.map fun m=>D.tup [rt m.1,rt m.2]
theorem ZO:(pts ms).length=ms.length:=aB _
theorem ZaV(h:i<(pts ms).length):(pts ms)[i]=D.tup [rt (ms[i]'(by rw[ZO]at h;exact h)).1,rt (ms[i]'(by rw[ZO]at h;exact h)).2]:=by simp[pts]
end CD
namespace RT
open L2 DL
section
variable {rs:List Pt}
noncomputable def pre(rs:List Pt)(k:Nat):Nat:=if k=0 then rs.length-1 else k-1
def ZkI(rs:List Pt)(k:Nat):List Int:=
 ((ZF rs).set (pre rs k) (T rs (pre rs k:Nat)+1)).set ((k+1)%rs.length) (T rs ((k+1)%rs.length:Nat)+1)
theorem ZlK(hs:Smo rs)(hk:k<rs.length)(h4:4<=rs.length)(ht:T rs k= -1):ZF (del rs k)=(ZkI rs k).take k++(ZkI rs k).drop (k+1):=by
 have hL:=Zcm hk;have hm:(k+1)%rs.length=if k+1=rs.length then 0 else k+1:=by
  by_cases c:k+1=rs.length
  ·rw[if_pos c,c,Nat.mod_self]
  ·rw[if_neg c,Nat.mod_eq_of_lt (by lia)]
 have dl:(ZkI rs k).length=rs.length:=by simp[ZkI,ZT]
 have pl:pre rs k<rs.length:=by unfold pre;split<;>lia
 have pn:pre rs k≠(k+1)%rs.length:=by rw[hm];unfold pre;split<;>split<;>lia
 have dg:∀i,i<rs.length->(ZkI rs k)[i]?=some (T rs i+(if i=pre rs k then 1 else 0)+(if i=(k+1)%rs.length then 1 else 0)):=by
  intro i hi;unfold ZkI;by_cases c1:i=(k+1)%rs.length
  ·rw[<-c1,aN (by simp[ZT];exact hi),if_pos rfl,if_neg (by lia)]
   congr 1;lia
  ·rw[aM (bV c1),if_neg c1];by_cases c2:i=pre rs k
   ·rw[<-c2,aN (by simp[ZT];exact hi),if_pos rfl]
    congr 1;lia
   ·rw[aM (bV c2),if_neg c2,Zb5 hi];congr 1;lia
 apply iq;intro j;by_cases hj:j<rs.length-1
 ·rw[Zb5 (by rw[hL];exact hj),Zto hs hk h4 ht (by lia) (by lia)]
  by_cases c1:j<k
  ·rw[ah (by simp[dl];lia),bY (by lia),dg j (by lia),hm]
   rw[if_pos (by lia)]
   congr 2
   ·congr 1
    have:pre rs k=k-1:=by unfold pre;rw[if_neg (by lia)]
    rw[this];by_cases c:j=k-1
    ·rw[if_pos (by lia),if_pos c]
    ·rw[if_neg (by lia),if_neg c]
   ·by_cases c:k+1=rs.length
    ·rw[if_pos c];by_cases c0:j=0
     ·rw[if_pos (by lia),if_pos c0]
     ·rw[if_neg (by lia),if_neg c0]
    ·rw[if_neg c,if_neg (by lia),if_neg (by lia)]
  ·rw[aI (by simp[dl];lia)]
   have tl:((ZkI rs k).take k).length=k:=by simp[dl];lia
   rw[tl,if_neg (by lia),gQ,dg _ (by lia),hm]
   rw[if_neg (by lia:¬k+1=rs.length),show k+1+(j-k)=j+1 by lia]
   have e:((j+1:Nat):Int)=(j:Int)+1:=by lia
   rw[e];congr 1
   have:(if(j:Int)=rs.length-2/\k=0 then(1:Int)else 0)=if j+1=pre rs k then 1 else 0:=by
    unfold pre;by_cases c0:k=0
    ·rw[if_pos c0];by_cases c:(j:Int)=rs.length-2
     ·rw[if_pos ⟨c,c0⟩,if_pos (by lia)]
     ·rw[if_neg (fun z=>c z.1),if_neg (by lia)]
    ·rw[if_neg c0,if_neg (fun z=>c0 z.2),if_neg (by lia)]
   rw[this]
   have:(if(j:Int)=k then(1:Int)else 0)=if j+1=k+1 then 1 else 0:=by
    by_cases c:j=k
    ·rw[if_pos (by lia),if_pos (by lia)]
    ·rw[if_neg (by lia),if_neg (by lia)]
   rw[this];lia
 ·rw[a9 (by rw[ZT,hL];lia),a9 (by simp[dl];lia)]
noncomputable def sl(s:Int)(k:Nat):List Int:=([0,s,0,0-s,0,s,0,0-s].drop k).take 4
theorem ZvZ(hs:Smo rs)(h4:rs.length=4):∃s:Int,0<=s/\(ZF rs).max?=some s/\∃k:Nat,k<4/\ZF rs=sl s k:=by
 have o0:=hs.one 0;have o1:=hs.one 1;have o2:=hs.one 2;have o3:=hs.one 3;have w4:cy rs 4=cy rs 0:=by have:=ZS (rs:=rs) (i:=0);rw[h4]at this;exact this
 have w3:cy rs (-1)=cy rs 3:=by have:=ZS (rs:=rs) (i:= -1);rw[h4]at this;exact this.symm
 simp only[show(0:Int)+1=1 from rfl,show(1:Int)+1=2 from rfl,show(2:Int)+1=3 from rfl,show(3:Int)+1=4 from rfl,w4]at o0 o1 o2 o3;have et:ZF rs=[0-X (cy rs 3) (cy rs 1),0-X (cy rs 0) (cy rs 2),0-X (cy rs 1) (cy rs 3),0-X (cy rs 2) (cy rs 0)]:=by
  unfold ZF;rw[h4];simp only[T,fB,List.range_zero,bS,aQ,aL,fm,Int.natCast_zero];rw[show(0:Int)-1= -1 from rfl,w3];simp only[show(0:Int)+1=1 from rfl,show((1:Nat):Int)-1=0 from rfl,show((1:Nat):Int)+1=2 from rfl,show((2:Nat):Int)-1=1 from rfl,show((2:Nat):Int)+1=3 from rfl,show((3:Nat):Int)-1=2 from rfl,show((3:Nat):Int)+1=4 from rfl,w4]
 have e1:=Zcj (p:=cy rs 3) (q:=cy rs 1);have e2:=Zcj (p:=cy rs 2) (q:=cy rs 0);have z:X (cy rs 0) (cy rs 2)*X (cy rs 1) (cy rs 3)=0:=by unfold X at *;grind
 rw[et,e1,e2];generalize X (cy rs 0) (cy rs 2)=c at *;generalize X (cy rs 1) (cy rs 3)=a at *;rcases fC.mp z with rfl|rfl
 ·rcases mK 0 a with h|h
  ·refine⟨a,h,?_,1,by decide,?_⟩
   ·simp[ja];lia
   ·simp[sl]
  ·refine⟨-a,by lia,?_,3,by decide,?_⟩
   ·simp[ja];lia
   ·simp[sl]
 ·rcases mK 0 c with h|h
  ·refine⟨c,h,?_,2,by decide,?_⟩
   ·simp[ja];lia
   ·simp[sl]
  ·refine⟨-c,by lia,?_,0,by decide,?_⟩
   ·simp[ja];lia
   ·simp[sl]
noncomputable def pv(n k:Nat):Nat:=if k=0 then n-1 else k-1
def dn(L:List Int)(k:Nat):List Int:=(L.set (pv L.length k) (L.getD (pv L.length k) 0+1)).set ((k+1)%L.length) (L.getD ((k+1)%L.length) 0+1)
def up(A:List Int)(k:Nat):List Int:=
 let B:=A.take k ++ -1::A.drop k
 (B.set (pv B.length k) (B.getD (pv B.length k) 0-1)).set ((k+1)%B.length) (B.getD ((k+1)%B.length) 0-1)
theorem Ztx(h4:4<=L.length)(hk:k<L.length)(h1:L[k]?=some (-1)):up ((dn L k).take k++(dn L k).drop (k+1)) k=L:=by
 have hm:(k+1)%L.length=if k+1=L.length then 0 else k+1:=by
  by_cases c:k+1=L.length
  ·rw[if_pos c,c,Nat.mod_self]
  ·rw[if_neg c,Nat.mod_eq_of_lt (by lia)]
 have pl:pv L.length k<L.length:=by unfold pv;split<;>lia
 have ml:(k+1)%L.length<L.length:=kD _ (by lia)
 have pn:pv L.length k≠(k+1)%L.length:=by rw[hm];unfold pv;split<;>split<;>lia
 have pk:pv L.length k≠k:=by unfold pv;split<;>lia
 have mk:(k+1)%L.length≠k:=by rw[hm];split<;>lia
 have dl:(dn L k).length=L.length:=by simp[dn]
 have dk:(dn L k)[k]?=some (-1):=by
  unfold dn;rw[aM mk,aM pk];exact h1
 have eB:((dn L k).take k++(dn L k).drop (k+1)).take k ++ -1::((dn L k).take k++(dn L k).drop (k+1)).drop k=dn L k:=by
  have tl:((dn L k).take k).length=k:=by rw[cI];lia
  rw[iZ (by lia),bf (by lia),i3 (by lia),List.drop_of_length_le (by lia),bS]
  have:(dn L k)[k]'(by lia)= -1:=by
   rw[af (by lia)]at dk
   exact aX dk
  rw[<-this,<-ez (by lia),dh]
 unfold up;simp only[eB,dl];apply iq;intro i;generalize hp:pv L.length k=p at *;generalize hq:(k+1)%L.length=q at *;have dp:(dn L k).getD p 0=L.getD p 0+1:=by
  unfold dn;rw[hp,hq,ao,aM (bV pn),aN pl];rfl
 have dq:(dn L k).getD q 0=L.getD q 0+1:=by
  unfold dn;rw[hp,hq,ao,aN (by simp;exact ml)]
  rfl
 rw[dp,dq];by_cases c1:i=q
 ·subst c1;rw[aN (by simp[dl];exact ml),ao,af ml]
  simp
 ·rw[aM (bV c1)];by_cases c2:i=p
  ·subst c2;rw[aN (by rw[dl];exact pl),ao,af pl]
   simp
  ·rw[aM (bV c2)];unfold dn;rw[hp,hq,aM (bV c1),aM (bV c2)]
theorem ZuI(h:i<rs.length):(ZF rs).getD i 0=T rs i:=by
 rw[ao,Zb5 h];rfl
theorem ZlL(h:0<rs.length)(hk:k<rs.length):ZkI rs k=dn (ZF rs) k:=by
 have pl:pre rs k<rs.length:=by unfold pre;split<;>lia
 have ml:(k+1)%rs.length<rs.length:=kD _ h;unfold ZkI dn;rw[ZT];have e:pv rs.length k=pre rs k:=rfl;rw[e,ZuI pl,ZuI ml]
theorem ZnD(hs:Smo rs)(hk:k<rs.length)(h4:4<=rs.length)(ht:T rs k= -1):ZF rs=up (ZF (del rs k)) k:=by
 rw[ZlK hs hk h4 ht,ZlL (by lia) hk]
 exact(Ztx (by rw[ZT];exact h4) (by rw[ZT];exact hk) (by rw[Zb5 hk,ht])).symm
noncomputable def Zv0:List (List Int):=[[1,1,1],[-2,0,2,0],[-1,0,1,0],[0,0,0,0],[-2,-1,-1,1,0],[-1,-1,-1,0,0],[-2,-2,-1,-2,1,0],[-2,-1,-2,-1,0,0],[-2,-1,-1,0,-1,-1],[-1,-1,-1,-1,-1,-1],[-2,-2,-1,-2,0,-1,-1],[-2,-1,-2,-1,-1,-1,-1],[-2,-2,-2,-1,-2,0,-2,-1],[-2,-2,-1,-2,-1,-1,-2,-1],[-2,-1,-2,-1,-2,-1,-2,-1],[-2,-2,-1,-2,-2,-1,-2,-2,-1]]
noncomputable def rdI(L:List Int)(i:Nat):List (List Int):=[L.drop i++L.take i,L.reverse.drop i++L.reverse.take i]
def al(n:Nat):List (List Int):=(Zv0.filter fun R=>R.length==n).flatMap fun R=>(aH n).flatMap fun i=>rdI R i
noncomputable def ge2(L:List Int):Bool:=L.all fun t=>decide (-2<=t)
def clo(m:Nat):Bool:=(al m).all fun A=>(aH (m+1)).all fun k=> !ge2 (up A k)||(al (m+1)).contains (up A k)
theorem Zv1:clo 4=true:=by decide +kernel
theorem Zv2:clo 5=true:=by decide +kernel
theorem Zv3:clo 6=true:=by decide +kernel
theorem Zv4:clo 7=true:=by decide +kernel
theorem Zv5:clo 8=true:=by decide +kernel
theorem al3:[1,1,1]∈al 3:=by decide +kernel
theorem al4:∀s:Fin 3,∀k:Fin 4,sl (s:Nat) k∈al 4:=by decide +kernel
theorem ZnE(h:clo m=true)(hA:A∈al m)(hk:k<m+1)(hg:ge2 (up A k)=true):up A k∈al (m+1):=by
 unfold clo at h;rw[bD]at h
 have:=h A hA
 rw[bD]at this
 have:=this k (bv.mpr hk)
 rw[hg]at this
 simpa using this
theorem Zbc:ge2 L=true↔∀t∈L,-2<=t:=by unfold ge2;simp
theorem Zty(h4:4<=L.length)(hg:∀t∈L,-2<=t):∀t∈dn L k,-2<=t:=by
 intro t ht;have gD:∀i,i<L.length-> -2<=L.getD i 0:=fun i hi=>by
  rw[ao,af hi];exact hg _ (cj hi)
 unfold dn at ht;rcases jJ ht with h|h
 ·rcases jJ h with h|h
  ·exact hg t h
  ·rw[h];by_cases c:pv L.length k<L.length
   ·have:=gD _ c;lia
   ·rw[ao,a9 (by lia)];decide
 ·rw[h]
  have:=gD _ (kD (k+1) (show 0<L.length by lia))
  lia
theorem Zq4(hs:Smo rs)(h3:rs.length=3):ZF rs=[1,1,1]:=by
 have w:∀i:Int,T rs i=1:=fun i=>by
  have h:=hs.one (i+1);have e:cy rs (i-1)=cy rs (i+1+1):=by
   have:=ZS (rs:=rs) (i:=i-1)
   rw[h3]at this;rw[<-this];congr 1;lia
  unfold T;rw[e,Zcj,h];rfl
 unfold ZF;rw[h3];simp[fB,w]
theorem cls:∀(n:Nat){rs:List Pt},rs.length=n->n<=9->Smo rs->ge2 (ZF rs)=true->ZF rs∈al n:=by
 intro n
 induction n with
 |zero=>intro rs hl _ hs;have:=hs.len;lia
 |succ m ih=>
  intro rs hl h9 hs hg;have l3:=hs.len;by_cases c3:m=2
  ·subst c3;rw[Zq4 hs hl];exact al3
  ·by_cases c4:m=3
   ·subst c4;obtain⟨s,s0,-,k,hk,e⟩:=ZvZ hs hl;have g:=Zbc.mp hg;rw[e]at g;have s2:s<=2:=by
     have:=g (0-s) (by
      have:k=0\/k=1\/k=2\/k=3:=by lia
      rcases this with rfl|rfl|rfl|rfl<;>simp[sl])
     lia
    obtain⟨t,ht⟩:∃t:Nat,s=t:=⟨s.toNat,by lia⟩
    have:=al4 ⟨t,by lia⟩ ⟨k,hk⟩
    rw[e,ht];exact this
   ·obtain⟨k,hk,ht⟩:=ZiN hs (by lia)
    have h4:4<=rs.length:=by lia
    have eu:=ZnD hs hk h4 ht;have hd:=hs.del hk h4 ht;have dl:=Zcm hk;have g':ge2 (ZF (del rs k))=true:=by
     rw[ZlK hs hk h4 ht,ZlL (by lia) hk,Zbc]
     intro t ht';refine Zty (L:=ZF rs) (k:=k) (by rw[ZT];exact h4) (Zbc.mp hg) t ?_
     rcases aY.mp ht' with h|h
     ·exact eO h
     ·exact fU h
    have im:=ih (rs:=del rs k) (by lia) (by lia) hd g'
    rw[eu]at hg ⊢;have cl:clo m=true:=by
     have:m=4\/m=5\/m=6\/m=7\/m=8:=by lia
     rcases this with rfl|rfl|rfl|rfl|rfl
     ·exact Zv1
     ·exact Zv2
     ·exact Zv3
     ·exact Zv4
     ·exact Zv5
    exact ZnE cl im (by lia) hg
end
end RT
namespace Rb
open L2 DL
open CN (cq)
open CS (slp)
noncomputable abbrev RP:=Rat×Rat
def Win(rs:List Pt)(hs:List Rat)(p:RP):Prop:=∀i:Nat,i<rs.length-> -(cq hs i)<=slp p (cy rs i)
def On(rs:List Pt)(hs:List Rat)(p:RP)(i:Nat):Prop:=i<rs.length/\slp p (cy rs i)= -(cq hs i)
def Cor(rs:List Pt)(hs:List Rat)(p:RP):Prop:=Win rs hs p/\∃i j,On rs hs p i/\On rs hs p j/\X (cy rs i) (cy rs j)≠0
theorem Zbx(u v:Pt):((X u v:Int):Rat)=(u.1:Rat)*v.2-u.2*v.1:=by
 unfold X;rw[eJ,aJ,aJ]
theorem Za2(h:X r b=1):slp p o=(X o b:Rat)*slp p r+(X r o:Rat)*slp p b:=by
 have e:(r.1:Rat)*b.2-r.2*b.1=1:=by rw[<-Zbx,h];rfl
 rw[Zbx,Zbx];unfold slp;generalize (r.1:Rat)=r1 at *;generalize (r.2:Rat)=r2 at *;generalize (b.1:Rat)=b1 at *;generalize (b.2:Rat)=b2 at *;generalize (o.1:Rat)=o1 at *;generalize (o.2:Rat)=o2 at *;generalize p.1=p1 at *;generalize p.2=p2 at *;grind
noncomputable def ptE(r b:Pt)(h t:Rat):RP:=((-h)*b.2-t*r.2,t*r.1-(-h)*b.1)
theorem ZnF(e:X r b=1):slp (ptE r b h t) r= -h:=by
 have e:(r.1:Rat)*b.2-r.2*b.1=1:=by rw[<-Zbx,e];rfl
 unfold slp ptE;simp only;grind
theorem Zq5(e:X r b=1):slp (ptE r b h t) b=t:=by
 have e:(r.1:Rat)*b.2-r.2*b.1=1:=by rw[<-Zbx,e];rfl
 unfold slp ptE;simp only;grind
theorem ZlM{p:RP}(e:X r b=1)(q:slp p r= -h):p=ptE r b h (slp p b):=by
 have e:(r.1:Rat)*b.2-r.2*b.1=1:=by rw[<-Zbx,e];rfl
 unfold slp at *;unfold ptE;refine b5 ?_ ?_
 ·simp only;grind
 ·simp only;grind
def co(r o:Pt):Rat:=(X r o:Rat)
def as'(b o:Pt)(h g:Rat):Rat:=(X o b:Rat)*h-g
theorem Zi0(e:X r b=1):(-g<=slp (ptE r b h t) o)↔as' b o h g<=co r o*t:=by
 rw[Za2 (o:=o) e,ZnF e,Zq5 e];unfold as' co
 constructor<;>intro z<;>grind
theorem Zi1(e:X r b=1):(slp (ptE r b h t) o= -g)↔as' b o h g=co r o*t:=by
 rw[Za2 (o:=o) e,ZnF e,Zq5 e];unfold as' co
 constructor<;>intro z<;>grind
theorem Z7{c:Rat}(hc:0<c):c*a<=c*b↔a<=b:=⟨fun h=>jK h hc,fun h=>aA h (by grind)⟩
theorem ZgD{c:Rat}(hc:0<c)(h:a<=c*t)(h2:t<=u):a<=c*u:=Rat.le_trans h ((Z7 hc).mpr h2)
theorem Zdk{c:Rat}(hc:c<0)(h:a<=c*t)(h2:u<=t):a<=c*u:=by
 refine Rat.le_trans h ?_
 have:(-c)*u<=(-c)*t:=(Z7 (by grind)).mpr h2
 grind
def LoI(rs:List Pt)(hs:List Rat)(i n:Nat)(t:Rat):Prop:=(∃j<n,0<co (cy rs i) (cy rs j)/\as' (cy rs (i+1)) (cy rs j) (cq hs i) (cq hs j)=co (cy rs i) (cy rs j)*t)/\∀j<n,0<co (cy rs i) (cy rs j)->as' (cy rs (i+1)) (cy rs j) (cq hs i) (cq hs j)<=co (cy rs i) (cy rs j)*t
def HiI(rs:List Pt)(hs:List Rat)(i n:Nat)(t:Rat):Prop:=(∃j<n,co (cy rs i) (cy rs j)<0/\as' (cy rs (i+1)) (cy rs j) (cq hs i) (cq hs j)=co (cy rs i) (cy rs j)*t)/\∀j<n,co (cy rs i) (cy rs j)<0->as' (cy rs (i+1)) (cy rs j) (cq hs i) (cq hs j)<=co (cy rs i) (cy rs j)*t
def ZeI(rs:List Pt)(hs:List Rat)(i n:Nat):Prop:=∀j<n,co (cy rs i) (cy rs j)=0->as' (cy rs (i+1)) (cy rs j) (cq hs i) (cq hs j)<=0
def Zi2(rs:List Pt)(hs:List Rat)(i:Nat)(ps:List RP):Prop:=(∀p∈ps,Cor rs hs p)/\∀p j,Win rs hs p->On rs hs p i->On rs hs p j->X (cy rs i) (cy rs j)≠0->p∈ps
section
variable {rs:List Pt}{hs:List Rat}{i n:Nat}{u:Rat}
theorem LoI.new(ha:as' (cy rs (i+1)) (cy rs n) (cq hs i) (cq hs n)=co (cy rs i) (cy rs n)*u)(hc:0<co (cy rs i) (cy rs n))(h:∀j<n,0<co (cy rs i) (cy rs j)->as' (cy rs (i+1)) (cy rs j) (cq hs i) (cq hs j)<=co (cy rs i) (cy rs j)*u):LoI rs hs i (n+1) u:=by
 refine⟨⟨n,by lia,hc,ha⟩,fun j hj c=>?_⟩
 by_cases e:j=n
 ·subst e;rw[ha];exact hG
 ·exact h j (by lia) c
theorem LoI.keep(h:LoI rs hs i n t)(h2:0<co (cy rs i) (cy rs n)->as' (cy rs (i+1)) (cy rs n) (cq hs i) (cq hs n)<=co (cy rs i) (cy rs n)*t):LoI rs hs i (n+1) t:=by
 obtain⟨⟨j,hj,c⟩,h1⟩:=h;refine⟨⟨j,by lia,c⟩,fun j hj c=>?_⟩
 by_cases e:j=n
 ·subst e;exact h2 c
 ·exact h1 j (by lia) c
theorem HiI.new(ha:as' (cy rs (i+1)) (cy rs n) (cq hs i) (cq hs n)=co (cy rs i) (cy rs n)*u)(hc:co (cy rs i) (cy rs n)<0)(h:∀j<n,co (cy rs i) (cy rs j)<0->as' (cy rs (i+1)) (cy rs j) (cq hs i) (cq hs j)<=co (cy rs i) (cy rs j)*u):HiI rs hs i (n+1) u:=by
 refine⟨⟨n,by lia,hc,ha⟩,fun j hj c=>?_⟩
 by_cases e:j=n
 ·subst e;rw[ha];exact hG
 ·exact h j (by lia) c
theorem HiI.keep(h:HiI rs hs i n t)(h2:co (cy rs i) (cy rs n)<0->as' (cy rs (i+1)) (cy rs n) (cq hs i) (cq hs n)<=co (cy rs i) (cy rs n)*t):HiI rs hs i (n+1) t:=by
 obtain⟨⟨j,hj,c⟩,h1⟩:=h;refine⟨⟨j,by lia,c⟩,fun j hj c=>?_⟩
 by_cases e:j=n
 ·subst e;exact h2 c
 ·exact h1 j (by lia) c
theorem ZeI.keep(h:ZeI rs hs i n)(h2:co (cy rs i) (cy rs n)=0->as' (cy rs (i+1)) (cy rs n) (cq hs i) (cq hs n)<=0):ZeI rs hs i (n+1):=fun j hj c=>by
 by_cases e:j=n
 ·subst e;exact h2 c
 ·exact h j (by lia) c
theorem ZnG:co r o≠0↔X r o≠0:=by
 unfold co;constructor
 ·intro h z;rw[z]at h;exact h rfl
 ·intro h z;exact h (by have:((X r o:Int):Rat)=((0:Int):Rat):=z;exact Rat.intCast_inj.mp this)
theorem ZfK(hs':Smo rs):Win rs hs (ptE (cy rs i) (cy rs (i+1)) (cq hs i) t)↔∀j<rs.length,as' (cy rs (i+1)) (cy rs j) (cq hs i) (cq hs j)<=co (cy rs i) (cy rs j)*t:=by
 unfold Win;constructor
 ·intro h j hj;exact(Zi0 (hs'.one i)).mp (h j hj)
 ·intro h j hj;exact(Zi0 (hs'.one i)).mpr (h j hj)
theorem Zq6(hs':Smo rs)(lo:LoI rs hs i rs.length t)(hi:HiI rs hs i rs.length u)(ze:ZeI rs hs i rs.length)(h1:t<=v)(h2:v<=u):Win rs hs (ptE (cy rs i) (cy rs (i+1)) (cq hs i) v):=by
 refine(ZfK hs').mpr fun j hj=>?_;by_cases c:0<co (cy rs i) (cy rs j)
 ·exact ZgD c (lo.2 j hj c) h1
 ·by_cases c2:co (cy rs i) (cy rs j)<0
  ·exact Zdk c2 (hi.2 j hj c2) h2
  ·have e:co (cy rs i) (cy rs j)=0:=by grind
   have:=ze j hj e
   rw[e];grind
theorem Zq7(hs':Smo rs)(lo:LoI rs hs i rs.length t)(hi:HiI rs hs i rs.length u)(h:Win rs hs (ptE (cy rs i) (cy rs (i+1)) (cq hs i) v)):t<=v/\v<=u:=by
 have h:=(ZfK hs').mp h;obtain⟨⟨j,hj,c,e⟩,_⟩:=lo;obtain⟨⟨k,hk,d,f⟩,_⟩:=hi;have h1:=h j hj;have h2:=h k hk;rw[e]at h1;rw[f]at h2;refine⟨(Z7 c).mp h1,?_⟩
 have:(-co (cy rs i) (cy rs k))*v<=(-co (cy rs i) (cy rs k))*u:=by grind
 exact(Z7 (by grind)).mp this
theorem ZkJ(hs':Smo rs)(hi':i<rs.length)(lo:LoI rs hs i rs.length t)(hi:HiI rs hs i rs.length u)(ze:ZeI rs hs i rs.length)(h:t<=u):Zi2 rs hs i [ptE (cy rs i) (cy rs (i+1)) (cq hs i) t,ptE (cy rs i) (cy rs (i+1)) (cq hs i) u]:=by
 have on (v:Rat):On rs hs (ptE (cy rs i) (cy rs (i+1)) (cq hs i) v) i:=⟨hi',ZnF (hs'.one i)⟩;refine⟨fun p hp=>?_,fun p j w oi oj ne=>?_⟩
 ·obtain⟨⟨j,hj,c,e⟩,_⟩:=id lo;obtain⟨⟨k,hk,d,f⟩,_⟩:=id hi;rcases ar.mp hp with rfl|hp
  ·exact⟨Zq6 hs' lo hi ze hG h,i,j,on _,⟨hj,(Zi1 (hs'.one i)).mpr e⟩,ZnG.mp (by grind)⟩
  ·rcases ar.mp hp with rfl|hp
   ·exact⟨Zq6 hs' lo hi ze h hG,i,k,on _,⟨hk,(Zi1 (hs'.one i)).mpr f⟩,ZnG.mp (by grind)⟩
   ·cases hp
 ·have ep:=ZlM (hs'.one i) oi.2;generalize slp p (cy rs (i+1))=v at ep;subst ep;obtain⟨b1,b2⟩:=Zq7 hs' lo hi w;have ea:=(Zi1 (hs'.one i)).mp oj.2;have nz:=ZnG.mpr ne;by_cases c:0<co (cy rs i) (cy rs j)
  ·have:=lo.2 j oj.1 c
   rw[ea]at this
   have:=(Z7 c).mp this
   have:v=t:=by grind
   rw[this];simp
  ·have c2:co (cy rs i) (cy rs j)<0:=by grind
   have:=hi.2 j oj.1 c2
   rw[ea]at this
   have:(-co (cy rs i) (cy rs j))*u<=(-co (cy rs i) (cy rs j))*v:=by grind
   have:=(Z7 (by grind)).mp this
   have:v=u:=by grind
   rw[this];simp
theorem Zi3(hs':Smo rs)(h:∀v,¬Win rs hs (ptE (cy rs i) (cy rs (i+1)) (cq hs i) v)):Zi2 rs hs i []:=by
 refine⟨fun p hp=>(by cases hp),fun p j w oi oj ne=>?_⟩
 have ep:=ZlM (hs'.one i) oi.2;rw[ep]at w;exact absurd w (h _)
theorem ZnH(hs':Smo rs)(hj:j<rs.length)(c:co (cy rs i) (cy rs j)=0)(h:0<as' (cy rs (i+1)) (cy rs j) (cq hs i) (cq hs j)):Zi2 rs hs i []:=Zi3 hs' fun v w=>by
 have:=(ZfK hs').mp w j hj
 rw[c]at this;grind
theorem ZnI(hs':Smo rs)(lo:LoI rs hs i rs.length t)(hi:HiI rs hs i rs.length u)(h:u<t):Zi2 rs hs i []:=Zi3 hs' fun v w=>by
 obtain⟨b1,b2⟩:=Zq7 hs' lo hi w;grind
end
end Rb
namespace BD
open L2 DL
open CC (F_crossed F_following F_ask_smooth)
open CR (F_greatest_divisor F_ratio)
open CD (F_less)
open CS (F_slope_through F_ask_height)
def Zac:Sv:=(ZJ (gNm 1) (e2 dMul (Zf 1) (e2 dDiv (e2 dIx (Zf 2) (eC (.int 1))) (Zj F_greatest_divisor (Zc (Zf 1) (Zc (e2 dIx (Zf 2) (eC (.int 1))) aNil))))))
def ZaK:Sv:=(ZB (ZJ (gNm 1) (eC (.int 1))) (ZB (Zj0 (gNm 2) (Zf 0) Zac) (Z9 (Zf 1))))
def F_common_bottom:W3:=fnF ZaK 1 2
def ZbQ:Sv:=(Z9 (e2 dMul (e2 dIx (Zf 0) (eC (.int 0))) (e2 dDiv (Zf 1) (e2 dIx (Zf 0) (eC (.int 1))))))
def F_stretched:W3:=fnF ZbQ 2 0
def Zdl:Sv:=(ZB (ZJ (gNm 10) (Zj F_crossed (Zc (Zf 3) (Zc (Zf 8) aNil)))) (ZB (ZJ (gNm 11) (e2 dSub (e2 dMul (e2 dMul (Zj F_crossed (Zc (Zf 8) (Zc (Zf 4) aNil))) (e2 dIx (Zf 5) (eC (.int 0)))) (e2 dIx (Zf 9) (eC (.int 1)))) (e2 dMul (e2 dIx (Zf 9) (eC (.int 0))) (e2 dIx (Zf 5) (eC (.int 1)))))) (ZB (ZJ (gNm 12) (e2 dMul (e2 dMul (Zf 10) (e2 dIx (Zf 5) (eC (.int 1)))) (e2 dIx (Zf 9) (eC (.int 1))))) (ZB (sIf (ZbL (tv (e2 dEq (Zf 10) (eC (.int 0)))) (tv (e2 dGt (Zf 11) (eC (.int 0))))) (Z9 (Zdt aNil)) sNil) (ZB (sIf (ZbL (tv (e2 dGt (Zf 10) (eC (.int 0)))) (Zel (tv (e2 dIs (Zf 6) (eC .non))) (tv (Zj F_less (Zc (Zf 6) (Zc (Z5 (Zc (Zf 11) (Zc (Zf 12) aNil))) aNil)))))) (ZJ (gNm 6) (Z5 (Zc (Zf 11) (Zc (Zf 12) aNil)))) sNil) (sIf (ZbL (tv (e2 dLt (Zf 10) (eC (.int 0)))) (Zel (tv (e2 dIs (Zf 7) (eC .non))) (tv (Zj F_less (Zc (Z5 (Zc (ZbM (Zf 11)) (Zc (ZbM (Zf 12)) aNil))) (Zc (Zf 7) aNil)))))) (ZJ (gNm 7) (Z5 (Zc (ZbM (Zf 11)) (Zc (ZbM (Zf 12)) aNil)))) sNil))))))
def Zi4:Sv:=(ZB (ZJ (gTp (gCs (gNm 3) (gCs (gNm 4) gNl))) (Z5 (Zc (e2 dIx (Zf 0) (Zf 2)) (Zc (Zj F_following (Zc (Zf 0) (Zc (Zf 2) aNil))) aNil)))) (ZB (ZJ (gNm 5) (e2 dIx (Zf 1) (Zf 2))) (ZB (ZJ (Zn7 (gNm 6) (gNm 7)) (eC .non)) (ZB (Zfm (gTp (gCs (gNm 8) (gCs (gNm 9) gNl))) (iZp (Zc (Zf 0) (Zc (Zf 1) aNil))) Zdl) (ZB (sIf (tv (Zj F_less (Zc (Zf 7) (Zc (Zf 6) aNil)))) (Z9 (Zdt aNil)) sNil) (Z9 (Zai (iSq (Z5 (Zc (Zf 6) (Zc (Zf 7) aNil)))) 1 [3,4,5] (gNm 0) (fun _ M=>.ok true M) (Zj F_slope_through (Zc (Zdt (Zc (Zf 1) (Zc (Zf 2) aNil))) (Zc (Zdt (Zc (Z5 (Zc (ZbM (e2 dIx (Zf 3) (eC (.int 0)))) (Zc (e2 dIx (Zf 3) (eC (.int 1))) aNil))) (Zc (Zj F_ratio (Zc (e2 dIx (Zf 0) (eC (.int 0))) (Zc (e2 dIx (Zf 0) (eC (.int 1))) aNil))) aNil))) aNil))))))))))
def F_edge:W3:=fnF Zi4 3 10
def Zcp:Sv:=(ZB (ZJ (gNm 1) (Zj F_common_bottom (Zc (Zbt (iSq (Zf 0)) 2 [] (gNm 0) (fun _ M=>.ok true M) fun n=>(gIn (iSq (Zf 0)) (gNm 1) (fun _ M=>.ok true M) (gEm (Zf 1) n))) aNil))) (Z9 (Zg6 (Zc (Zf 0) aNil) [1] (Z5 (Zc (Zj F_stretched (Zc (e2 dIx (Zf 0) (eC (.int 0))) (Zc (Zf 1) aNil))) (Zc (Zj F_stretched (Zc (e2 dIx (Zf 0) (eC (.int 1))) (Zc (Zf 1) aNil))) aNil))))))
def F_in_order:W3:=fnF Zcp 1 1
def Zdm:Sv:=(Zkj (Zf 2) (Zf 4) (eC (.bl true)))
def Zdn:Sv:=(Zj0 (gNm 4) (Zj F_edge (Zc (Zf 0) (Zc (Zf 1) (Zc (Zf 3) aNil)))) Zdm)
def Zi5:Sv:=(ZB (Za4 (Zj F_ask_smooth (Zc (Zf 0) aNil))) (ZB (Za4 (Zj F_ask_height (Zc (Zf 0) (Zc (Zf 1) aNil)))) (ZB (ZJ (gNm 2) eDnU) (ZB (ZbH (gNm 3) (Zc (Zj bLen (Zc (Zf 0) aNil)) aNil) Zdn) (Z9 (Zj F_in_order (Zc (Zj bLisU (Zc (Zf 2) aNil)) aNil)))))))
def F_body:W3:=fnF Zi5 2 3
end BD
namespace BD
open L2 DL
open CV CN CU CS
open CR (rt Sz)
open CH (rts ZL)
open CD (pts ZO ZaV)
open Rb
theorem ZcF(x:Rat):(x.num:Rat)=x*(x.den:Rat):=by
 have h:=ZkF (x.den:Int) x;have h2:=Rat.normalize_mul_left (d:=1) (n:=x.num) (a:=x.den) (by decide) x.den_nz
 have h3:dO x.num 1 (by decide)=(x.num:Rat):=by
  have:=ZlA x.num
  have e:=Rat.normalize_self (x.num:Rat);exact e
 have h4:dO ((x.den:Int)*x.num) x.den x.den_nz=dO ((x.den:Int)*x.num) (x.den*1) (by have:=x.den_nz;lia):=by congr 1;lia
 rw[h4,h2,h3]at h;rw[h,Rat.mul_comm,ay]
theorem Zi6{a:Int}{b:Nat}(hb:b≠0)(h:(a:Rat)=t*(b:Rat)):dO a b hb=t:=by
 obtain⟨d,d0,e1,e2⟩:=Rat.normalize_num_den' a b hb;generalize dO a b hb=x at *
 have:(a:Rat)=x*(b:Rat):=by
  rw[e1,aJ,ZcF x,e2,eK,ay];grind
 have nz:(b:Rat)≠0:=fun z=>hb (Rat.natCast_eq_zero_iff.mp z);grind
def Tp(K:Nat)(t:Rat)(d:D):Prop:=∃a b:Int,d=pr a b/\0<b/\(a:Rat)=t*(b:Rat)/\a.natAbs<2^K/\b.natAbs<2^K
section
variable {rs:List Pt}
theorem ZfL(h:Tp K t d)(h':Tp K u d')(hK:K<=8000):wO (CD.F_less [d,d'] M) Q E=Q (.bl (decide (t<u))) M:=by
 obtain⟨a,b,rfl,b0,e,s1,s2⟩:=h;obtain⟨a',b',rfl,b0',e',s1',s2'⟩:=h';have f1:Zs a b':=Zr K K s1 s2' (by lia) (by lia)
 have f2:Zs a' b:=Zr K K s1' s2 (by lia) (by lia)
 simp![CD.F_less,CD.ZiZ,ZG f1,ZG f2];have p:(0:Rat)<(b:Rat):=da.mpr b0;have p':(0:Rat)<(b':Rat):=da.mpr b0';have hlt:a*b'<a'*b↔t<u:=by
  rw[<-c6,aJ,aJ,e,e'];have e3:t*(b:Rat)*(b':Rat)=((b:Rat)*b')*t:=by grind
  have e4:u*(b':Rat)*(b:Rat)=((b:Rat)*b')*u:=by grind
  rw[e3,e4];exact gz (jT p p')
 rw[show decide (a*b'<a'*b)=decide (t<u)from decide_eq_decide.mpr hlt]
theorem ZkK{a b:Int}(b0:0<b)(e:(a:Rat)=t*(b:Rat))(s2:b.natAbs<2^K)(hK:K<=8000):wO (CR.F_ratio [.int a,.int b] M) Q E=Q (rt t) M:=by
 obtain⟨c,rfl⟩:∃c:Nat,b=c:=⟨b.toNat,by lia⟩
 rw[CR.Zed (k:=K) (show c≠0 by lia) (by simpa using s2) hK,Zi6 (t:=t) (by lia) (by rw[e,ay])]
theorem Ztz{a b:Int}(b0:0<b)(e:(a:Rat)=t*(b:Rat))(s1:a.natAbs<2^K)(s2:b.natAbs<2^K):Sz K t:=by
 obtain⟨c,rfl⟩:∃c:Nat,b=c:=⟨b.toNat,by lia⟩
 rw[<-Zi6 (t:=t) (show c≠0 by lia) (by rw[e,ay])]
 exact CR.ZfD _ s1 (by simpa using s2)
def LoD(rs:List Pt)(hs:List Rat)(i K n:Nat)(d:D):Prop:=(d=.non/\∀j<n,¬0<co (cy rs i) (cy rs j))\/∃t,Tp K t d/\LoI rs hs i n t
def HiD(rs:List Pt)(hs:List Rat)(i K n:Nat)(d:D):Prop:=(d=.non/\∀j<n,¬co (cy rs i) (cy rs j)<0)\/∃t,Tp K t d/\HiI rs hs i n t
theorem ZgE(h:LoD rs hs i K n d)(c:¬0<co (cy rs i) (cy rs n)):LoD rs hs i K (n+1) d:=by
 rcases h with⟨e,h⟩|⟨t,tp,h⟩
 ·refine .inl ⟨e,fun j hj=>?_⟩;by_cases e:j=n
  ·subst e;exact c
  ·exact h j (by lia)
 ·exact .inr ⟨t,tp,h.keep fun z=>absurd z c⟩
theorem ZgF(h:HiD rs hs i K n d)(c:¬co (cy rs i) (cy rs n)<0):HiD rs hs i K (n+1) d:=by
 rcases h with⟨e,h⟩|⟨t,tp,h⟩
 ·refine .inl ⟨e,fun j hj=>?_⟩;by_cases e:j=n
  ·subst e;exact c
  ·exact h j (by lia)
 ·exact .inr ⟨t,tp,h.keep fun z=>absurd z c⟩
theorem ZkL{r:Pt}:((X o b*x.num*(y.den:Int)-y.num*(x.den:Int):Int):Rat)=as' b o x y*((x.den:Rat)*(y.den:Rat)):=by
 rw[eJ,aJ,aJ,aJ,ZcF x,ZcF y,ay,ay];unfold as';generalize ((X o b:Int):Rat)=z;generalize (x.den:Rat)=a;generalize (y.den:Rat)=c;grind
theorem ZkM{x y:Rat}:((X r o*(x.den:Int)*(y.den:Int):Int):Rat)=co r o*((x.den:Rat)*(y.den:Rat)):=by
 rw[aJ,aJ,ay,ay];unfold co;generalize ((X r o:Int):Rat)=z;grind
theorem Zi7{x y:Rat}:(0:Rat)<(x.den:Rat)*(y.den:Rat):=jT (fF.mpr (bZ x.den_nz)) (fF.mpr (bZ y.den_nz))
theorem ZdP{a:Rat}(h:c≠0):a=c*(a/c):=by
 have:=Rat.div_mul_cancel (a:=a) h
 grind
theorem ZtA{a bt:Int}(ea:(a:Rat)=as' b o x y*((x.den:Rat)*(y.den:Rat)))(eb:(bt:Rat)=co r o*((x.den:Rat)*(y.den:Rat)))(c:0<co r o)(s1:a.natAbs<2^K)(s2:bt.natAbs<2^K):Tp K (as' b o x y/co r o) (pr a bt):=by
 have hd:=Zi7 (x:=x) (y:=y);have h:=ZdP (a:=as' b o x y) (c:=co r o) (by grind)
 have hp:(0:Rat)<(bt:Rat):=by rw[eb];exact jT c hd
 refine⟨a,bt,rfl,da.mp hp,?_,s1,s2⟩;rw[ea,eb];generalize as' b o x y/co r o=u at *;grind
theorem ZtB{a bt:Int}(ea:(a:Rat)=as' b o x y*((x.den:Rat)*(y.den:Rat)))(eb:(bt:Rat)=co r o*((x.den:Rat)*(y.den:Rat)))(c:co r o<0)(s1:a.natAbs<2^K)(s2:bt.natAbs<2^K):Tp K (as' b o x y/co r o) (pr (-a) (-bt)):=by
 have hd:=Zi7 (x:=x) (y:=y);have h:=ZdP (a:=as' b o x y) (c:=co r o) (by grind)
 have hp:(0:Rat)<((-bt:Int):Rat):=by
  rw[bT,eb]
  have:=jT (a:= -co r o) (by grind) hd
  grind
 refine⟨-a,-bt,rfl,da.mp hp,?_,by lia,by lia⟩
 rw[bT,bT,ea,eb];generalize as' b o x y/co r o=u at *;grind
theorem Zq8(hu:(-B<=u.1/\u.1<=B)/\ -B<=u.2/\u.2<=B)(hv:(-B<=v.1/\v.1<=B)/\ -B<=v.2/\v.2<=B)(hB:B<=400:=by first|decide|assumption):(X u v).natAbs<2^19:=by
 unfold X;have h1:=be u.1 v.2;have h2:=be u.2 v.1;have b1:u.1.natAbs*v.2.natAbs<=400*400:=dz (by lia) (by lia)
 have b2:u.2.natAbs*v.1.natAbs<=400*400:=dz (by lia) (by lia)
 have:=jS (u.1*v.2) (u.2*v.1)
 lia
theorem ZnJ(hb:Nr B rs)(hn:rs≠[])(hz:∀x∈hs,Sz k x)(hh:hs.length≠0)(hB:B<=400:=by first|decide|assumption):Sz (2*k+19) (thr rs hs).1/\Sz (2*k+19) (thr rs hs).2:=by
 have a:=hb _ (Z0 (i:=0) hn);have b:=hb _ (Z0 (i:=1) hn);have z0:=Ze4 (i:=0) hz hh;have z1:=Ze4 (i:=1) hz hh;have e:k+9+(k+9)+1=2*k+19:=by lia
 exact⟨e▸ZlB (CR.ZcE z0 (Ze3 (k:=9) (by lia) (by decide))) (CR.ZcE z1 (Ze3 (k:=9) (by lia) (by decide))),e▸ZlB (CR.ZcE z1 (Ze3 (k:=9) (by lia) (by decide))) (CR.ZcE z0 (Ze3 (k:=9) (by lia) (by decide)))⟩
theorem ZuJ(hu:(-B<=u.1/\u.1<=B)/\ -B<=u.2/\u.2<=B)(hB:B<=400:=by first|decide|assumption):wO (CC.F_crossed [pr u.1 u.2,pr v.1 v.2] M) Q E=Q (.int (X u v)) M:=CC.Za1 (by lia) (by lia)
theorem Zi8(h:rs≠[]):∃j:Nat,j<rs.length/\cy rs j=cy rs z:=by
 have l:0<rs.length:=gy.mpr h;refine⟨(z%rs.length).toNat,?_,?_⟩
 ·have:=cC z (show(0:Int)<rs.length by lia)
  lia
 ·have:=dF z (show(rs.length:Int)≠0 by lia)
  rw[ma this,Zb3]
theorem ZtC(I:Ro->Prop)(F:Nat->D)(hl:xs.length<10000000)(h0:I (roB k fr ρ))(st:∀(i:Nat)(h:i<xs.length)(ρ:Ro)(M':Sto),Kp M M'->I ρ->wG (tg xs[i] ρ) fun r=>I r/\wO (f r M') (fun y M2=>y=F i/\Kp M' M2) (fun _ _=>False))(hq:∀M',Kp M M'->M'[M.length]?=some (.lst ((aH xs.length).map F))->Q (.ref M.length) M'):kCo tg (fun _ M=>.ok true M) f k fr ρ Q (.pur xs) M:=by
 refine Ziz (xs:=xs) (Q:=fun M2=>Q (.ref M.length) M2) (fun i ρ M'=>I ρ/\Kp M M'/\M'[M.length]?=some (.lst ((aH i).map F))) _ 0 _ _ (by simp) (by simp[cnt]) ⟨h0,Kp.app,by simp⟩ (fun i ρ M' hi hI=>rfl) ?_ (fun ρ M' hI=>hq M' hI.2.1 hI.2.2)
 rintro i ρ M' hi ⟨hI,K,r⟩;have s:=st i hi ρ M' K hI;cases e:tg xs[i] ρ with
 |none=>rw[e]at s;exact s.elim
 |some r'=>
  rw[e]at s;obtain⟨hr,s⟩:=s;show Br true _ _;rw[ZpI];refine Zd8 s (fun y M2 ⟨h1,h2⟩=>?_) (fun _ _ z=>z);subst h1;rw[h2.get r];have hl2:=ZA (h2.get r);refine⟨by simp;lia,hr,(K.trans h2).set (aj _),?_⟩
  rw[aN hl2,fB,dE];rfl
theorem Zi9:thr [r,b] [-x,t]=ptE r b x t:=by
 unfold thr ptE;rfl
def EdI(rs:List Pt)(hs:List Rat)(n m i K:Nat)(j:Nat)(ρ:Ro):Prop:=∃lo hi x8 x9 x10 x11 x12,ρ=[some (.ref n),some (.ref m),some (.int i),some (pr (cy rs i).1 (cy rs i).2),some (pr (cy rs (i+1)).1 (cy rs (i+1)).2),some (rt (cq hs i)),some lo,some hi,x8,x9,x10,x11,x12]/\LoD rs hs i K j lo/\HiD rs hs i K j hi/\ZeI rs hs i j
theorem Zq9(h:M[n]?=some (.lst (prs rs)))(hs':Smo rs)(hb:Nr B rs)(hl:rs.length<=1000)(h':M[m]?=some (.lst (rts hs)))(e:hs.length=rs.length)(hz:∀x∈hs,Sz k x)(hk:k<=900)(hi:i<rs.length)(q:∀ps o M',Zi2 rs hs i ps->ps.length<=2->(∀p∈ps,Sz (4*k+61) p.1/\Sz (4*k+61) p.2)->Kp M M'->M.length<=o->M'[o]?=some (.lst (pts ps))->Q (.ref o) M')(hB:B<=400:=by first|decide|assumption):wO (F_edge [.ref n,.ref m,.int i] M) Q E:=by
 have hn:=ZA h;have hm:=ZA h';have hne:=hs'.ne;have zi:=Ze4 (i:=i) hz (by lia)
 have br:=hb _ (Z0 (i:=i) hne);have bb:=hb _ (Z0 (i:=i+1) hne);simp![F_edge,Zi4,h,h',ZaN,ZlC,CC.ZbP h (show 0<=(i:Int)/\(i:Int)<rs.length by lia),Zlt,Zth]
 refine Zls (xs:=prs rs) (ys:=rts hs) (fun j ρ M'=>M'=M/\EdI rs hs n m i (2*k+21) j ρ) h (by rw[ZI,ZL];lia) ⟨rfl,_,_,_,_,_,_,_,rfl,.inl ⟨rfl,fun j hj=>by lia⟩,.inl ⟨rfl,fun j hj=>by lia⟩,fun j hj=>by lia⟩ (fun j ρ M' hI=>hI.1▸⟨h,h'⟩) ?_ ?_
 ·rintro j ρ _ hj ⟨rfl,lo,hg,x8,x9,x10,x11,x12,rfl,hlo,hhi,hze⟩;rw[ZI]at hj;rw[CC.Zde,ZfF];have zj:=Ze4 (i:=j) hz (by lia)
  have bj:=hb _ (Z0 (i:=j) hne);generalize hx:cq hs i=x at *;generalize hy:cq hs j=y at *;generalize hr:cy rs i=r at *;generalize hbb:cy rs (i+1)=b at *;generalize ho:cy rs j=o at *;have sX:=Zq8 br bj;have sY:=Zq8 bj bb;have dx:((x.den:Int)).natAbs<2^k:=by simpa using zi.2
  have dy:((y.den:Int)).natAbs<2^k:=by simpa using zj.2
  have g1:(X o b*x.num).natAbs<2^(19+k):=by rw[be];exact CR.Zag sY zi.1
  have g2:(X r o*(x.den:Int)).natAbs<2^(19+k):=by rw[be];exact CR.Zag sX dx
  have f1:Zs (X o b) x.num:=Zr 19 k sY zi.1 (by lia) (by lia)
  have f2:Zs (X o b*x.num) (y.den:Int):=Zr (19+k) k g1 dy (by lia) (by lia)
  have f3:Zs y.num (x.den:Int):=Zr k k zj.1 dx (by lia) (by lia)
  have f4:Zs (X r o) (x.den:Int):=Zr 19 k sX dx (by lia) (by lia)
  have f5:Zs (X r o*(x.den:Int)) (y.den:Int):=Zr (19+k) k g2 dy (by lia) (by lia)
  have ea:=ZkL (r:=r) (b:=b) (o:=o) (x:=x) (y:=y);have eb:=ZkM (r:=r) (o:=o) (x:=x) (y:=y);have sa:(X o b*x.num*(y.den:Int)-y.num*(x.den:Int)).natAbs<2^(2*k+21):=by
   have a1:(X o b*x.num*(y.den:Int)).natAbs<2^(19+k+k):=by rw[be];exact CR.Zag g1 dy
   have a2:(y.num*(x.den:Int)).natAbs<2^(k+k):=by rw[be];exact CR.Zag zj.1 dx
   have a3:2^(k+k)<=2^(19+k+k):=cE (by decide) (by lia)
   have a4:2^(2*k+21)=4*2^(19+k+k):=by rw[show 2*k+21=(19+k+k)+2 by lia,iY];lia
   have:=jS (X o b*x.num*(y.den:Int)) (y.num*(x.den:Int))
   lia
  have sb:(X r o*(x.den:Int)*(y.den:Int)).natAbs<2^(2*k+21):=by
   rw[be];exact ai (CR.Zag g2 dy) (cE (by decide) (by lia))
  simp![Zdl,ZuJ br,ZuJ bj,ZG f1,ZG f2,ZG f3,ZG f4,ZG f5];have ci:(X r o=0↔co r o=0)/\(0<X r o↔0<co r o)/\(X r o<0↔co r o<0):=⟨ko.symm,da.symm,Rat.intCast_neg_iff.symm⟩;generalize X o b*x.num*(y.den:Int)-y.num*(x.den:Int)=ak at *;generalize X r o*(x.den:Int)*(y.den:Int)=bt at *;generalize X r o=c at *;have ec:co (cy rs i) (cy rs j)=co r o:=by rw[hr,ho]
  have eas:as' (cy rs (i+1)) (cy rs j) (cq hs i) (cq hs j)=as' b o x y:=by rw[hbb,ho,hx,hy]
  have hd:=Zi7 (x:=x) (y:=y);have mk:∀{lo hi:D}{x8 x9 x10 x11 x12:Option D},LoD rs hs i (2*k+21) (j+1) lo->HiD rs hs i (2*k+21) (j+1) hi->ZeI rs hs i (j+1)->EdI rs hs n m i (2*k+21) (j+1) [some (.ref n),some (.ref m),some (.int i),some (pr r.1 r.2),some (pr b.1 b.2),some (rt x),some lo,some hi,x8,x9,x10,x11,x12]:=fun a b' c'=>by
   rw[<-hr,<-hbb,<-hx];exact⟨_,_,_,_,_,_,_,rfl,a,b',c'⟩
  rcases(show c=0\/0<c\/c<0 by lia)with c0|c0|c0
  ·have cz:=ci.1.mp c0;simp![Zm];refine brS (fun hp=>?_) (fun hp=>?_)
   ·simp![Zm];have hp':(0:Rat)<(ak:Rat):=da.mpr hp;rw[ea]at hp';refine q [] _ _ (ZnH hs' hj (ec▸cz) ?_) (by simp) (fun p hp=>by cases hp) Kp.app (aj _) (by simp[pts])
    rw[eas]
    have:as' b o x y*0<as' b o x y*((x.den:Rat)*(y.den:Rat)):=by grind
    by_cases z:0<as' b o x y
    ·exact z
    ·have:=bI (c:=(x.den:Rat)*(y.den:Rat)) (show as' b o x y<=0 by grind) (by grind)
     grind
   ·simp![Zm];refine mk (ZgE hlo (by rw[ec];grind)) (ZgF hhi (by rw[ec];grind)) (hze.keep fun _=>?_)
    rw[eas];have hp':(ak:Rat)<=0:=jH.mpr (by lia)
    rw[ea]at hp';by_cases z:0<as' b o x y
    ·have:=jT z hd
     grind
    ·grind
  ·have cz:=ci.2.1.mp c0;have tu:=ZtA (K:=2*k+21) ea eb cz sa sb;have eu:=ZdP (a:=as' b o x y) (c:=co r o) (by grind)
   generalize as' b o x y/co r o=u at *;have hz':ZeI rs hs i (j+1):=hze.keep fun z=>by rw[ec]at z;grind
   have hh':=ZgF hhi (show ¬co (cy rs i) (cy rs j)<0 by rw[ec];grind)
   rcases hlo with⟨rfl,hlo⟩|⟨t,tp,hlo⟩
   ·simp![Zm];exact mk (.inr ⟨u,tu,.new (by rw[eas,ec,eu]) (by rw[ec];exact cz) fun j' hj' z=>absurd z (hlo j' hj')⟩) hh' hz'
   ·have tp':=tp;obtain⟨a',b',rfl,_⟩:=tp';simp![ZfL tp tu (by lia)]
    refine brS (fun hlt=>?_) (fun hlt=>?_)
    ·simp![Zm];exact mk (.inr ⟨u,tu,.new (by rw[eas,ec,eu]) (by rw[ec];exact cz) fun j' hj' z=>ZgD z (hlo.2 j' hj' z) (by grind)⟩) hh' hz'
    ·simp![Zm];exact mk (.inr ⟨t,tp,hlo.keep fun z=>by rw[eas,ec,eu];exact(Z7 cz).mpr (by grind)⟩) hh' hz'
  ·have cz:=ci.2.2.mp c0;have tu:=ZtB (K:=2*k+21) ea eb cz sa sb;have eu:=ZdP (a:=as' b o x y) (c:=co r o) (by grind)
   generalize as' b o x y/co r o=u at *;have hz':ZeI rs hs i (j+1):=hze.keep fun z=>by rw[ec]at z;grind
   have hh':=ZgE hlo (show ¬0<co (cy rs i) (cy rs j)by rw[ec];grind)
   rcases hhi with⟨rfl,hhi⟩|⟨t,tp,hhi⟩
   ·simp![Zm];exact mk hh' (.inr ⟨u,tu,.new (by rw[eas,ec,eu]) (by rw[ec];exact cz) fun j' hj' z=>absurd z (hhi j' hj')⟩) hz'
   ·have tp':=tp;obtain⟨a',b',rfl,_⟩:=tp';simp![ZfL tu tp (by lia)]
    refine brS (fun hlt=>?_) (fun hlt=>?_)
    ·simp![Zm];exact mk hh' (.inr ⟨u,tu,.new (by rw[eas,ec,eu]) (by rw[ec];exact cz) fun j' hj' z=>Zdk z (hhi.2 j' hj' z) (by grind)⟩) hz'
    ·simp![Zm];exact mk hh' (.inr ⟨t,tp,hhi.keep fun z=>by rw[eas,ec,eu];exact Zdk cz hG (by grind)⟩) hz'
 ·rintro ρ _ ⟨rfl,lo,hg,x8,x9,x10,x11,x12,rfl,hlo,hhi,hze⟩;rw[ZI]at hlo hhi hze;have one:=hs'.one i;have lt':∃t,Tp (2*k+21) t lo/\LoI rs hs i rs.length t:=by
   rcases hlo with⟨_,hlo⟩|hlo
   ·obtain⟨j,hj,ej⟩:=Zi8 (rs:=rs) (z:=i+1) hne;refine absurd ?_ (hlo j hj);unfold co;rw[ej,one]
    decide +kernel
   ·exact hlo
  have ht':∃t,Tp (2*k+21) t hg/\HiI rs hs i rs.length t:=by
   rcases hhi with⟨_,hhi⟩|hhi
   ·obtain⟨j,hj,ej⟩:=Zi8 (rs:=rs) (z:=i-1) hne;refine absurd ?_ (hhi j hj);have o2:=hs'.one (i-1);rw[show(i:Int)-1+1=i by lia]at o2
    unfold co;rw[ej,show X (cy rs i) (cy rs (i-1))= -1 by unfold X at *;grind]
    decide +kernel
   ·exact hhi
  obtain⟨t,tl,hlo⟩:=lt';obtain⟨u,th,hhi⟩:=ht';simp![ZfL th tl (by lia)]
  refine brS (fun hlt=>?_) (fun hlt=>?_)
  ·simp![Zm];exact q [] _ _ (ZnI hs' hlo hhi hlt) (by simp) (fun p hp=>by cases hp) Kp.app (aj _) (by simp[pts])
  ·simp![Zm];have ed:=ZkJ hs' hi hlo hhi hze (by grind)
   have st:∀v,Sz (2*k+21) v->Sz (4*k+61) (ptE (cy rs i) (cy rs (i+1)) (cq hs i) v).1/\Sz (4*k+61) (ptE (cy rs i) (cy rs (i+1)) (cq hs i) v).2:=fun v hv=>by
    rw[<-Zi9]
    have:=ZnJ (rs:=[cy rs i,cy rs (i+1)]) (hs:=[-(cq hs i),v]) (k:=2*k+21) (fun p hp=>by
     rcases ar.mp hp with rfl|hp
     ·exact br
     ·rcases ar.mp hp with rfl|hp
      ·exact bb
      ·cases hp) (by simp) (fun p hp=>by
     rcases ar.mp hp with rfl|hp
     ·exact⟨by rw[mZ,lN];exact ai zi.1 (cE (by decide) (by lia)),by rw[m5];exact ai zi.2 (cE (by decide) (by lia))⟩
     ·rcases ar.mp hp with rfl|hp
      ·exact hv
      ·cases hp) (by simp)
    exact⟨ZqV this.1 (by lia),ZqV this.2 (by lia)⟩
   have tsz:∀{v:Rat}{d:D},Tp (2*k+21) v d->Sz (2*k+21) v:=fun⟨a,b,_,b0,e1,s1,s2⟩=>Ztz b0 e1 s1 s2;refine ZtC (fun ρ=>∃x,ρ=[x,some (pr (cy rs i).1 (cy rs i).2),some (pr (cy rs (i+1)).1 (cy rs (i+1)).2),some (rt (cq hs i))]) (fun j=>rp (ptE (cy rs i) (cy rs (i+1)) (cq hs i) (if j=0 then t else u))) (by simp) ⟨_,rfl⟩ ?_ ?_
   ·rintro j hj ρ M1 K1 ⟨y,rfl⟩;obtain⟨d,v,e1,e2,tv'⟩:∃d v,[lo,hg][j]=d/\(if j=0 then t else u)=v/\Tp (2*k+21) v d:=by
     match j,hj with
     |0,_=>exact⟨_,_,rfl,rfl,tl⟩
     |1,_=>exact⟨_,_,rfl,rfl,th⟩
    rw[e1,e2];have sv:=tsz tv';obtain⟨a,b,rfl,b0,e3,s1,s2⟩:=tv';simp![ZkK b0 e3 s2 (by lia)]
    refine⟨⟨_,rfl⟩,?_⟩;have l1:M1.length<(M1++[SO.lst [pr (cy rs i).1 (cy rs i).2,pr (cy rs (i+1)).1 (cy rs (i+1)).2]]).length:=by simp
    rw[ZiU (k:=2*k+21) (rs:=[cy rs i,cy rs (i+1)]) (hs:=[-(cq hs i),v]) (by simp[prs]) (fun p hp=>by
     rcases ar.mp hp with rfl|hp
     ·exact br
     ·rcases ar.mp hp with rfl|hp
      ·exact bb
      ·cases hp) (by simp) (by simp[rts,rt,mZ,m5]) (by simp) (fun p hp=>by
     rcases ar.mp hp with rfl|hp
     ·exact⟨by rw[mZ,lN];exact ai zi.1 (cE (by decide) (by lia)),by rw[m5];exact ai zi.2 (cE (by decide) (by lia))⟩
     ·rcases ar.mp hp with rfl|hp
      ·exact sv
      ·cases hp) (by lia)]
    exact⟨by rw[Zi9],Kp.app⟩
   ·intro M1 K1 r1;refine q _ _ _ ed (by simp) (fun p hp=>?_) K1 (aj _) (by rw[r1];rfl)
    rcases ar.mp hp with rfl|hp
    ·exact st _ (tsz tl)
    ·rcases ar.mp hp with rfl|hp
     ·exact st _ (tsz th)
     ·cases hp
end
end BD
namespace BD
open L2 DL
open CV CN CU CS
open CR (rt Sz)
open CH (rts ZL)
open CD (pts ZO ZaV)
open Rb
noncomputable def ZdQ(xs:List Rat):Nat:=xs.foldl (fun b x=>gK b x.den) 1
theorem ZkN(b d:Nat)(hd:d≠0):b*(d/jR b d)=gK b d:=by
 unfold gK;rw[Nat.mul_div_assoc _ (Nat.gcd_dvd_right b d)]
theorem Zja:ZdQ (xs++[x])=gK (ZdQ xs) x.den:=by simp[ZdQ]
theorem Zeg:∀(xs:List Rat),0<ZdQ xs:=by
 have:∀(xs:List Rat)(b:Nat),0<b->0<xs.foldl (fun b x=>gK b x.den) b:=by
  intro xs
  induction xs with
  |nil=>intro b h;exact h
  |cons x r ih=>intro b h;exact ih _ (Nat.lcm_pos h (bZ x.den_nz))
 exact fun xs=>this xs 1 (by decide)
theorem ZcS(h:x∈xs):x.den ∣ ZdQ xs:=by
 have up:∀(xs:List Rat)(b:Nat),b ∣ xs.foldl (fun b x=>gK b x.den) b:=by
  intro xs
  induction xs with
  |nil=>intro b;exact Nat.dvd_refl _
  |cons x r ih=>intro b;exact Nat.dvd_trans (Nat.dvd_lcm_left _ _) (ih _)
 have:∀(xs:List Rat)(b:Nat),x∈xs->x.den ∣ xs.foldl (fun b x=>gK b x.den) b:=by
  intro xs
  induction xs with
  |nil=>intro b h;cases h
  |cons y r ih=>
   intro b h;rcases ar.mp h with rfl|h
   ·exact Nat.dvd_trans (Nat.dvd_lcm_right _ _) (up _ _)
   ·exact ih _ h
 exact this xs 1 h
section
variable {M:Sto}{k l K i:Nat}{rs:List Pt}{hs:List Rat}{d:D}{ms:List RP}{p:RP}
theorem Zjb(hz:∀x∈xs,Sz k x):ZdQ xs<2^(xs.length*k+1):=by
 have:∀(xs:List Rat)(b e:Nat),(∀x∈xs,Sz k x)->b<2^e->xs.foldl (fun b x=>gK b x.den) b<2^(e+xs.length*k):=by
  intro xs
  induction xs with
  |nil=>intro b e _ h;simpa using h
  |cons x r ih=>
   intro b e hz h;have l1:gK b x.den<=b*x.den:=by
    unfold gK;exact i9 _ _
   have l2:=CR.Zag h (hz x (by simp)).2
   have:=ih (gK b x.den) (e+k) (fun y hy=>hz y (aG _ hy)) (by lia)
   rw[List.foldl_cons,bC,Nat.add_mul,Nat.one_mul,show e+(r.length*k+k)=e+k+r.length*k by lia]
   exact this
 have:=this xs 1 1 hz (by decide)
 rw[je]at this;exact this
theorem ZgG(h:M[n]?=some (.lst (rts xs)))(hl:xs.length<=1000)(hz:∀x∈xs,Sz k x)(hk:k<=8000):wO (F_common_bottom [.ref n] M) Q E=Q (.int (ZdQ xs:Nat)) M:=by
 have main (Q:W0) (E:W2) (q:Q (.int (ZdQ xs:Nat)) M):wO (F_common_bottom [.ref n] M) Q E:=by
  have hn:=ZA h;simp![F_common_bottom,ZaK];refine Zda (xs:=rts xs) (fun i ρ M'=>M'=M/\∃x,ρ=[some (.ref n),some (.int (ZdQ (xs.take i):Nat)),x]) h ⟨rfl,_,rfl⟩ (fun i ρ M' hI=>hI.1▸h) ?_ ?_
  ·rintro i ρ _ hi ⟨rfl,x,rfl⟩;rw[ZfF];have hi':i<xs.length:=by rw[ZL]at hi;exact hi
   have z:=Ze4 (i:=i) hz (by lia)
   have b:=Zjb (xs:=xs.take i) (k:=k) (fun x hx=>hz x (eO hx));have p0:=Zeg (xs.take i);have tk:ZdQ (xs.take (i+1))=gK (ZdQ (xs.take i)) (cq xs i).den:=by rw[cw hi',Zja,ZiT hi']
   generalize cq xs i=y at *;have gl:(xs.take i).length*k+1<=10000000:=by
    have:(xs.take i).length<=1000:=by simp;lia
    have:=dz this hk
    lia
   generalize (xs.take i).length*k+1=e at *;generalize ZdQ (xs.take i)=c at *;have gw:∀{Q:W0}{E:W2}{M:Sto},wO (CR.F_greatest_divisor [.int (c:Int),.int (y.den:Int)] M) Q E=Q (.int ((jR c y.den:Nat):Int)) M:=by
    intro Q E M;rw[CR.ZqT,Zlo];rfl
   have g0:0<jR c y.den:=Nat.gcd_pos_of_pos_left _ p0;have g1:jR c y.den<=y.den:=mh (bZ y.den_nz) (Nat.gcd_dvd_right c y.den);have st:=ZkN c y.den y.den_nz;have dv:y.den/jR c y.den<=y.den:=i9 _ _;have z2:=z.2;generalize jR c y.den=g at *;simp![Zac,gw];rw[CR.ZcD (k:=k) (by lia) (by simp;lia) hk]
   have f1:Zs (c:Int) ((y.den:Int)/(g:Int)):=Zr e k (by simpa using b) (by rw[<-iL,Int.natAbs_natCast];lia) (by lia) (by lia)
   simp![ZG f1];refine⟨some (rt y),?_⟩;rw[tk,<-st];simp
  ·rintro ρ _ ⟨rfl,x,rfl⟩;rw[ZL,iM];simp![Zm];exact q
 obtain⟨d,M',e,e1,e2⟩:=Zgt (main (fun d M'=>d=.int (ZdQ xs:Nat)/\M'=M) (fun _ _=>False) ⟨rfl,rfl⟩);rw[e,e1,e2];rfl
noncomputable def stc(B:Nat)(x:Rat):Int:=x.num*((B/x.den:Nat):Int)
theorem Zb7(h:x.den ∣ B):(stc B x:Rat)=x*(B:Rat):=by
 obtain⟨c,rfl⟩:=h;unfold stc;rw[Nat.mul_div_cancel_left _ (bZ x.den_nz),aJ,ZcF x,eK,ay];grind
theorem Zbd{B:Nat}(hx:Sz k x)(hk:k<=8000)(hB:B<2^l)(hl:l<=50000000):wO (F_stretched [rt x,.int (B:Int)] M) Q E=Q (.int (stc B x)) M:=by
 have dn:=bZ x.den_nz;simp![F_stretched,ZbQ];rw[CR.ZcD (k:=k) (by lia) (by simpa using hx.2) hk]
 have:B/x.den<=B:=i9 _ _
 have f1:Zs x.num ((B:Int)/(x.den:Int)):=Zr k l hx.1 (by rw[<-iL,Int.natAbs_natCast];lia) (by lia) (by lia)
 simp![ZG f1];unfold stc;rw[iL]
theorem ZgH(h0:0<B)(hx:x.den ∣ B)(hy:y.den ∣ B):stc B x<stc B y↔x<y:=by
 rw[<-c6,Zb7 hx,Zb7 hy];exact i4 (fF.mpr h0)
theorem Zeh(h0:0<B)(hx:x.den ∣ B)(hy:y.den ∣ B)(h:stc B x=stc B y):x=y:=by
 have:=ZgH h0 hx hy
 have:=ZgH h0 hy hx
 grind
noncomputable def pl(p q:RP):Prop:=p.1<q.1\/(p.1=q.1/\p.2<q.2)
def ent(m:RP):D:=.tup [rp m,.bl true]
theorem ZtD(m:RP):∃kk,kyU (rp m)=some kk:=⟨_,rfl⟩
theorem Zra{a:RP}(h1:kyU (rp a)=some kk)(h2:kyU (rp b)=some kk):a=b:=by
 have e1:=ZcQ (show Zjz [rt a.1,rt a.2]=some kk from h1);have e2:=ZcQ (show Zjz [rt b.1,rt b.2]=some kk from h2);have e:=e1.trans e2.symm;simp only[dC,and_true]at e;exact b5 (ZlD e.1) (ZlD e.2)
theorem Zrb{a:RP}(h2:kyU (rp b)=some kk):kyU (rp a)=some kk↔a=b:=⟨fun h=>Zra h h2,fun h=>h▸h2⟩
theorem Zjc{kk:List (List Key)}(h:kyU (rp p)=some kk):∀ms:List RP,(Zke kyU kk (ms.map ent)).isSome=decide (p∈ms)
 |[]=>by simp[Zke]
 |a::r=>by
  have ih:=Zjc h r;rw[aL,show ent a=.tup [rp a,.bl true]from rfl,Zke];by_cases e:a=p
  ·subst e;rw[if_pos h];simp
  ·rw[if_neg (fun z=>e ((Zrb h).mp z)),ih]
   have:p≠a:=fun z=>e z.symm
   simp[this]
theorem ZnK(ms:List RP):ZmM kyU kk (.bl true) (ms.map ent)=ms.map ent:=by
 unfold ZmM;rw[cT];refine b6 fun a _=>?_;simp only[mm,ent];split
 ·rfl
 ·rfl
theorem ZnL(h:kyU (rp p)=some kk)(ms:List RP):Zn6 kyU kk (rp p) (.bl true) (ms.map ent)=(if p∈ms then ms else ms++[p]).map ent:=by
 unfold Zn6;rw[Zjc h,ZnK];by_cases e:p∈ms
 ·simp[e]
 ·simp[e];rfl
def key(B:Nat)(m:RP):List Int:=[stc B m.1,stc B m.2]
noncomputable def Dv(B:Nat)(ms:List RP):Prop:=∀m∈ms,m.1.den ∣ B/\m.2.den ∣ B
theorem Zjd(h0:0<B)(h:Dv B ms)(ha:a∈ms)(hb:b∈ms)(e:key B a=key B b):a=b:=by
 unfold key at e;simp only[dC,and_true]at e;exact b5 (Zeh h0 (h a ha).1 (h b hb).1 e.1) (Zeh h0 (h a ha).2 (h b hb).2 e.2)
theorem Zrc(h0:0<B)(h:Dv B ms)(ha:a∈ms)(hb:b∈ms)(ne:a≠b)(e:ST.le (key B a) (key B b)):pl a b:=by
 have e:HT.ZaX (key B b) (key B a)=false:=e;unfold key at e;rw[HT.ZQ]at e;have l1:=ZgH h0 (h a ha).1 (h b hb).1;by_cases c:stc B b.1=stc B a.1
 ·rw[if_pos c,HT.ZQ]at e;have c1:=Zeh h0 (h b hb).1 (h a ha).1 c;have l2:=ZgH h0 (h a ha).2 (h b hb).2;by_cases d:stc B b.2=stc B a.2
  ·exact absurd (b5 c1 (Zeh h0 (h b hb).2 (h a ha).2 d)).symm ne
  ·rw[if_neg d]at e;refine .inr ⟨c1.symm,l2.mp ?_⟩
   have:=of_decide_eq_false e
   lia
 ·rw[if_neg c]at e;refine .inl (l1.mp ?_)
  have:=of_decide_eq_false e
  lia
theorem ZnM(h0:0<B)(h:Dv B ms)(nd:ms.Nodup):(ms.map (key B)).Nodup:=by
 refine fL.mpr ?_;refine eY (fun ha hb ne e=>ne (Zjd h0 h ha hb e)) nd
theorem ZgI{α:Type}(d0:α){f:α->List Int}{g:α->D}{ms:List α}(inj:∀a∈ms,∀b∈ms,f a=f b->a=b)(nd:ms.Nodup):∃ms':List α,ms'.Perm ms/\ms'.Pairwise (fun a b=>f a≠f b/\ST.le (f a) (f b))/\Zkq (ms.map f) (ms.map g)=ms'.map g:=by
 have kn:(ms.map f).Nodup:=fL.mpr (eY (fun ha hb ne e=>ne (inj _ ha _ hb e)) nd)
 let inv (k:List Int):α:=(ms.find? (fun m=>decide (f m=k))).getD d0
 have hinv:∀a∈ms,inv (f a)=a:=by
  intro a ha;show(ms.find? (fun m=>decide (f m=f a))).getD d0=a;cases e:ms.find? (fun m=>decide (f m=f a))with
  |none=>
   have:=List.find?_eq_none.mp e a ha
   simp at this
  |some b=>
   have h1:=List.find?_some e;have h2:=List.mem_of_find?_eq_some e;exact inj b h2 a ha (of_decide_eq_true h1)
 have hk:∀k∈ST.srt (ms.map f),∃a∈ms,f a=k:=fun k hk=>by
  have:=(ST.Za7 _).mem_iff.mp hk
  obtain⟨a,ha,e⟩:=aK.mp this;exact⟨a,ha,e⟩
 refine⟨(ST.srt (ms.map f)).map inv,?_,?_,?_⟩
 ·refine((ST.Za7 _).map inv).trans ?_;rw[cT]
  have:ms.map (inv∘f)=ms:=by
   conv=>rhs;rw[<-List.map_id ms]
   exact b6 fun a ha=>hinv a ha
  rw[this]
 ·refine fL.mpr ?_;have nd2:(ST.srt (ms.map f)).Nodup:=(ST.Za7 _).nodup_iff.mpr kn;have both:=iN.and nd2 (ST.Zgo (ms.map f));refine eY (fun{x y} hx hy hb=>?_) both;obtain⟨a,ha,rfl⟩:=hk x hx;obtain⟨b,hb',rfl⟩:=hk y hy;rw[hinv a ha,hinv b hb'];exact hb
 ·unfold Zkq;rw[cT];refine b6 fun k hk'=>?_;obtain⟨a,ha,rfl⟩:=hk k hk';rw[ZdM (d:=g a) kn (by
   rw[List.zip_map'];exact aK.mpr ⟨a,ha,rfl⟩)]
  simp only[mm,hinv a ha];rfl
theorem ZnN(h0:0<B)(h:Dv B ms)(nd:ms.Nodup):∃ms',ms'.Perm ms/\ms'.Pairwise pl/\Zkq (ms.map (key B)) (pts ms)=pts ms':=by
 obtain⟨ms',pm,pw,e⟩:=ZgI (g:=rp) (0,0) (fun a ha b hb=>Zjd h0 h ha hb) nd;exact⟨ms',pm,eY (fun{x y} hx hy hb=>Zrc h0 h (pm.mem_iff.mp hx) (pm.mem_iff.mp hy) (fun z=>hb.1 (by rw[z])) hb.2) pw,e⟩
theorem ZlN:wO (Zg6 fs fr g ρ M) Q E=wO (fs ρ M) (kU (Zd6 g fr ρ) Q E) E:=by unfold Zg6;exact ZE
noncomputable def ZbR(ms:List RP):List Rat:=ms.flatMap fun m=>[m.1,m.2]
theorem Zje:ZbR (ms++[m])=ZbR ms++[m.1,m.2]:=by simp[ZbR]
theorem ZcT:(ZbR ms).length=2*ms.length:=by
 induction ms with
 |nil=>rfl
 |cons a r ih=>simp[ZbR]at ih ⊢;lia
theorem Zbe:x∈ZbR ms↔∃m∈ms,x=m.1\/x=m.2:=by simp[ZbR]
theorem ZlO(h:M[n]?=some (.lst (pts ms)))(hl:ms.length<=1000)(q:Q (.ref M.length) (M++[.lst (rts (ZbR ms))])):Zti (gNm 0) (fun _ M=>.ok true M) (fun n=>gIn (iSq (Zf 0)) (gNm 1) (fun _ M=>.ok true M) (gEm (Zf 1) n)) 2 [] ρ Q (.sto n) M:=by
 have hn:=ZA h;obtain⟨ρ',M',e,x,y,e1,e2⟩:=ZkC (src:=.sto n) (tg:=gNm 0) (c:=fun _ M=>.ok true M) (g:=gIn (iSq (Zf 0)) (gNm 1) (fun _ M=>.ok true M) (gEm (Zf 1) M.length)) (P:=fun i ρ M'=>∃x y,ρ=[x,y]/\M'=M++[.lst (rts (ZbR (ms.take i)))]) ms.length (by
  rintro i ρ M' hi ⟨x,y,rfl,rfl⟩;have tk:ms.take (i+1)=ms.take i++[ms[i]]:=cw hi;refine⟨rp ms[i],[some (rp ms[i]),y],_,?_,rfl,.inr ⟨[some (rp ms[i]),some (rt ms[i].2)],M++[.lst (rts (ZbR (ms.take (i+1))))],rfl,?_,_,_,rfl,rfl⟩⟩
  ·rw[Zgv (xs:=pts ms) (by rw[ah hn];exact h),af (by rw[ZO];exact hi),ZaV]
  ·have ln:((ZbR (ms.take i)).map rt).length<9999999:=by rw[aB,ZcT,cI];lia
   rw[tk,Zje];simp only[gIn,iSq,Out.bind,Zf,ke,ZcP,nxt,cnt,gNm,gEm,List.set_cons_zero,List.set_cons_succ,dB,bC,fA];rw[aB]at ln;simp[rts];rw[if_pos (by lia)]
   simp;rw[if_pos (by lia)]) (by
  rintro ρ M' ⟨x,y,rfl,rfl⟩;rw[Zgv (xs:=pts ms) (by rw[ah hn];exact h),a9 (by rw[ZO];exact aj _)]) (cnt (.sto n) M) 0 (roB 2 [] ρ) (M++[.lst []]) (by lia) (by rw[Zfu h,ZO];lia) ⟨_,_,rfl,by simp[ZbR,rts]⟩
 refine⟨ρ',M',e,?_⟩;rw[e2,iM];exact q
theorem ZlP{ρ:Ro}{B:Nat}(hρ:ρ[1]?=some (some (.int (B:Int))))(hB:B<2^l)(hl:l<=50000000)(hk:k<=8000):∀ms:List RP,(∀p∈ms,Sz k p.1/\Sz k p.2)->Zc7 (Z5 (Zc (Zj F_stretched (Zc (e2 dIx (Zf 0) (eC (.int 0))) (Zc (Zf 1) aNil))) (Zc (Zj F_stretched (Zc (e2 dIx (Zf 0) (eC (.int 1))) (Zc (Zf 1) aNil))) aNil))) [1] ρ M (pts ms) (ms.map (key B))
 |[],_=>.nil
 |a::r,hz=>by
  have ih:=ZlP hρ hB hl hk r (fun p hp=>hz p (aG _ hp));have za:=hz a (by simp)
  refine .cons ⟨?_,by simp[key]⟩ ih
  have e:roL (rp a) [1] ρ=[some (rp a),some (.int (B:Int))]:=by simp[roL,hρ]
  show(Z5 _ (roL (rp a) [1] ρ) M)=_;rw[e]
  have:wO (Z5 (Zc (Zj F_stretched (Zc (e2 dIx (Zf 0) (eC (.int 0))) (Zc (Zf 1) aNil))) (Zc (Zj F_stretched (Zc (e2 dIx (Zf 0) (eC (.int 1))) (Zc (Zf 1) aNil))) aNil)) [some (rp a),some (.int (B:Int))] M) (fun d M'=>d=tupD (key B a)/\M'=M) (fun _ _=>False):=by
   simp![Zbd za.1 hk hB hl,Zbd za.2 hk hB hl];rfl
  obtain⟨d,M',e,e1,e2⟩:=Zgt this;rw[e,e1,e2]
theorem Zg8(h:M[n]?=some (.lst (pts ms)))(nd:ms.Nodup)(hl:ms.length<64)(hz:∀p∈ms,Sz k p.1/\Sz k p.2)(hk:k<=8000)(q:∀ms' M',ms'.Perm ms->ms'.Pairwise pl->Kp M M'->M.length<M'.length->M'[M'.length-1]?=some (.lst (pts ms'))->Q (.ref (M'.length-1)) M'):wO (F_in_order [.ref n] M) Q E:=by
 have hn:=ZA h;simp![F_in_order,Zcp,ZiD];refine ZlO h (by lia) ?_
 have zf:∀x∈ZbR ms,Sz k x:=fun x hx=>by
  obtain⟨m,hm,e|e⟩:=Zbe.mp hx
  ·rw[e];exact(hz m hm).1
  ·rw[e];exact(hz m hm).2
 simp![ZgG (M:=M++[SO.lst (rts (ZbR ms))]) (n:=M.length) (xs:=ZbR ms) (k:=k) (by simp) (by rw[ZcT];lia) zf hk,ZlN]
 have h0:=Zeg (ZbR ms);have dv:Dv (ZdQ (ZbR ms)) ms:=fun m hm=>⟨ZcS (Zbe.mpr ⟨m,hm,.inl rfl⟩),ZcS (Zbe.mpr ⟨m,hm,.inr rfl⟩)⟩;have lb:=Zjb zf;rw[ZcT]at lb;have bl:2*ms.length*k+1<=50000000:=by
  have:=dz (show 2*ms.length<=128 by lia) hk
  lia
 obtain⟨ms',pm,pw,es⟩:=ZnN h0 dv nd;have ok:Zip (Z5 (Zc (Zj F_stretched (Zc (e2 dIx (Zf 0) (eC (.int 0))) (Zc (Zf 1) aNil))) (Zc (Zj F_stretched (Zc (e2 dIx (Zf 0) (eC (.int 1))) (Zc (Zf 1) aNil))) aNil))) [1] [some (.ref n),some (.int (ZdQ (ZbR ms):Nat))] (M++[SO.lst (rts (ZbR ms))]) (pts ms) (ms.map (key (ZdQ (ZbR ms)))):=⟨by rw[ZO];exact hl,ZnM h0 dv nd,ZlP rfl lb bl hk ms hz⟩
 rw[Zd7 (by rw[ah hn];exact h) ok,es]
 refine(?_:Q _ _)
 have:=q ms' (M++[SO.lst (rts (ZbR ms))]++[SO.lst (pts ms')]) pm pw (by rw[ii];exact Kp.app) (by simp) (by simp)
 simpa using this
def Bod(rs:List Pt)(hs:List Rat)(ms:List RP):Prop:=(∀p,p∈ms↔Cor rs hs p)/\ms.Pairwise pl
structure Met(rs:List Pt) (hs:List Rat) (K i:Nat) (ms:List RP):Prop where
 nd:ms.Nodup
 sz:∀p∈ms,Sz K p.1/\Sz K p.2
 cor:∀p∈ms,Cor rs hs p
 all:∀p i' j,i'<i->Win rs hs p->On rs hs p i'->On rs hs p j->X (cy rs i') (cy rs j)≠0->p∈ms
 len:ms.length<=2*i
theorem Zrd(h:M[n]?=some (.lst (prs rs)))(hs':Smo rs)(hb:Nr B rs)(hl:rs.length<=31)(h':M[m]?=some (.lst (rts hs)))(e:hs.length=rs.length)(hz:∀x∈hs,Sz k x)(hk:k<=900)(q:∀ms o M',Bod rs hs ms->(∀p∈ms,Sz (4*k+61) p.1/\Sz (4*k+61) p.2)->ms.length<=2*rs.length->Kp M M'->M.length<=o->M'[o]?=some (.lst (pts ms))->Q (.ref o) M')(hB:B<=400:=by first|decide|assumption):wO (F_body [.ref n,.ref m] M) Q E:=by
 have hn:=ZA h;have hm:=ZA h';simp![F_body,Zi5];refine CC.ZcC h hs' (fun x hx=>by have:=hb x hx;lia) ?_
 simp![Zm];refine Ze5 h h' e ?_;have r0:(M++[SO.lst []])[M.length]?=some (.lst (([]:List RP).map ent)):=by simp
 simp![Ztm,h];refine⟨by lia,?_⟩
 rw[dA];refine Zb2 (n:=rs.length) (lo:=0) (fun i ρ M'=>Kp M M'/\∃ms x3 x4,ρ=[some (.ref n),some (.ref m),some (.du M.length),x3,x4]/\M'[M.length]?=some (.lst (ms.map ent))/\Met rs hs (4*k+61) i ms) ⟨Kp.app,[],_,_,rfl,r0,⟨.nil,fun p hp=>(by cases hp),fun p hp=>(by cases hp),fun p i' j hi=>(by lia),by simp⟩⟩ ?_ ?_
 ·rintro i ρ M1 hi ⟨K1,ms,x3,x4,rfl,r1,me⟩;rw[show(0:Int)+(i:Nat)=i by lia]
  simp![Zdn];refine Zq9 (K1.get h) hs' hb (by lia) (K1.get h') e hz hk hi fun ps o M2 ed lp zp K2 lo r2=>?_
  have hd:=ZA r1;have hne:o≠M.length:=by lia
  refine Zda (xs:=pts ps) (fun j ρ M'=>Kp M M'/\M'[o]?=some (.lst (pts ps))/\∃ms' x4,ρ=[some (.ref n),some (.ref m),some (.du M.length),some (.int i),x4]/\M'[M.length]?=some (.lst (ms'.map ent))/\ms'.Nodup/\(∀p,p∈ms'↔p∈ms\/p∈ps.take j)/\ms'.length<=ms.length+j) r2 ⟨K1.trans K2,r2,ms,_,rfl,K2.get r1,me.nd,fun p=>by simp,by lia⟩ (fun j ρ M' hI=>hI.2.1) ?_ ?_
  ·rintro j ρ M3 hj ⟨K3,r3,ms',x4',rfl,rd,nd',mem',len'⟩;have hj':j<ps.length:=by rw[ZO]at hj;exact hj
   rw[ZaV];have tk:ps.take (j+1)=ps.take j++[ps[j]]:=cw hj';generalize ps[j]=p at *;obtain⟨kk,ek⟩:=ZtD p;have hl3:=ZA rd;have lm:=me.len;simp![Zdm,ZqJ,Ztk,Ztj];refine⟨_,kk,rfl,ek,?_⟩;rw[rd];refine⟨by rw[aB];lia,K3.set (aj _),by rw[aM (by lia)];exact r3,(if p∈ms' then ms' else ms'++[p]),_,rfl,by rw[aN hl3,ZnL ek],?_,fun p'=>?_,?_⟩
   ·split
    ·exact nd'
    ·rename_i c;exact jO.mpr ⟨nd',by simp,fun a ha b hb=>by simp at hb;subst hb;exact fun z=>c (z▸ha)⟩
   ·rw[tk];by_cases c:p∈ms'
    ·rw[if_pos c,mem'];have c':=(mem' p).mp c;simp only[aY,ar,cJ,or_false];constructor
     ·rintro(z|z)
      ·exact .inl z
      ·exact .inr (.inl z)
     ·rintro(z|z|z)
      ·exact .inl z
      ·exact .inr z
      ·rw[z];exact c'
    ·rw[if_neg c];simp only[aY,mem',ar,cJ,or_false,or_assoc]
   ·split
    ·lia
    ·simp;lia
  ·rintro ρ M3 ⟨K3,r3,ms',x4',rfl,rd,nd',mem',len'⟩;rw[ZO,iM]at mem';rw[ZO]at len';have lm:=me.len;refine⟨K3,ms',_,_,rfl,rd,⟨nd',fun p hp=>?_,fun p hp=>?_,fun p i' j hi' w o1 o2 ne=>?_,by lia⟩⟩
   ·rcases(mem' p).mp hp with z|z
    ·exact me.sz p z
    ·exact zp p z
   ·rcases(mem' p).mp hp with z|z
    ·exact me.cor p z
    ·exact ed.1 p z
   ·by_cases z:i'=i
    ·subst z;exact(mem' p).mpr (.inr (ed.2 p j w o1 o2 ne))
    ·exact(mem' p).mpr (.inl (me.all p i' j (by lia) w o1 o2 ne))
 ·rintro ρ M1 ⟨K1,ms,x3,x4,rfl,r1,me⟩;have hd:=ZA r1;have lm:=me.len;simp![Ztl,ZuB,r1];have em:(ms.map ent).map Zh9=pts ms:=by rw[cT];rfl
  rw[em];refine Zg8 (k:=4*k+61) (ms:=ms) (M:=M1++[SO.lst (pts ms)]) (by simp) me.nd (by lia) me.sz (by lia) fun ms' M' pm pw K' l' r'=>?_
  refine q ms' _ M' ⟨fun p=>⟨fun hp=>me.cor p (pm.mem_iff.mp hp),fun⟨w,i,j,o1,o2,ne⟩=>pm.mem_iff.mpr (me.all p i j o1.1 w o1 o2 ne)⟩,pw⟩ (fun p hp=>me.sz p (pm.mem_iff.mp hp)) (by rw[pm.length_eq];lia) (K1.trans (Kp.app.trans K')) ?_ r'
  have:=K1.1
  have:=K'.1
  simp at this;lia
end
end BD
namespace BL
open L2 DL
open CC (F_law_cell_at F_law_cross)
end BL
namespace BL
open L2 DL
open CV CN CU CS
open CR (rt Sz)
open CH (rts ZL)
open CD (pts ZO ZaV)
open Rb BD
def crn(r s:Pt)(x y:Rat):RP:=(((r.2:Rat)*y-s.2*x)/(X r s:Rat),((s.1:Rat)*x-r.1*y)/(X r s:Rat))
theorem ZnO(ne:X r s≠0):p=crn r s x y↔slp p r= -x/\slp p s= -y:=by
 have nz:((X r s:Int):Rat)≠0:=fun z=>ne (ko.mp z);have e1:=ZdP (a:=(r.2:Rat)*y-s.2*x) nz;have e2:=ZdP (a:=(s.1:Rat)*x-r.1*y) nz;have ex:=Zbx r s;unfold crn slp;generalize ((r.2:Rat)*y-s.2*x)/(X r s:Rat)=a at *;generalize ((s.1:Rat)*x-r.1*y)/(X r s:Rat)=b at *;generalize ((X r s:Int):Rat)=c at *;constructor
 ·rintro rfl;constructor
  ·simp only
   have:c*(a*r.1+b*r.2)=c*(-x):=by grind
   grind
  ·simp only
   have:c*(a*s.1+b*s.2)=c*(-y):=by grind
   grind
 ·rintro⟨h1,h2⟩;refine b5 ?_ ?_
  ·simp only
   have:c*p.1=c*a:=by grind
   grind
  ·simp only
   have:c*p.2=c*b:=by grind
   grind
end BL
namespace Rb
open L2 DL
open CN (cq)
open CS (slp)
open TW
theorem ZtE(h:Smo rs)(hi:i<rs.length)(hj:j<rs.length)(ne:i≠j)(h1:0<=X (cy rs i) (cy rs j))(h2:0<X (cy rs j) (cy rs (i+1))):False:=by
 have hr:=h.rn;have p2:=hr.pos j;have w0:cy rs j≠(0,0):=by
  intro z;rw[z]at p2;unfold X at p2;simp at p2
 have c:=(hr.fan (cy rs j) w0).1;rw[Zdi hr.ne]at c;have a1:=Zcn (w:=cy rs j) (a:=cy rs i) (b:=cy rs (i+1)) (by lia) h2
 have a2:=Zcn (w:=cy rs j) (a:=cy rs j) (b:=cy rs (j+1)) (by rw[XX];lia) p2
 rcases(show i<j\/j<i by lia)with z|z
 ·have g:=Zgz (f:=in1 (cy rs j)) (rs:=rs) rs.length 0 i j z hj;rw[show(0:Int)+i=i by lia,show(0:Int)+j=j by lia,a1,a2]at g
  lia
 ·have g:=Zgz (f:=in1 (cy rs j)) (rs:=rs) rs.length 0 j i z hi;rw[show(0:Int)+i=i by lia,show(0:Int)+j=j by lia,a1,a2]at g
  lia
theorem free(h:Smo rs)(hi:i<rs.length)(hj:j<rs.length)(h1:0<X (cy rs i) (cy rs j))(h2:0<X (cy rs j) (cy rs (i+1))):False:=ZtE h hi hj (fun z=>by subst z;rw[XX]at h1;lia) (by lia) h2
theorem Zha(p:RP)(s t v:Pt):(X s t:Rat)*slp p v=(X v t:Rat)*slp p s+(X s v:Rat)*slp p t:=by
 rw[Zbx,Zbx,Zbx];unfold slp;grind
structure Cn(s t r b:Pt):Prop where
 st:0<X s t
 sr:0<=X s r
 rt:0<=X r t
 sb:0<=X s b
 bt:0<=X b t
def vl(s t w:Pt)(x y:Rat):Rat:= -((X w t:Rat)*x+(X s w:Rat)*y)
theorem ge0{a:Int}(h:0<=a):(0:Rat)<=(a:Rat):=dY.mpr h
theorem gt0{a:Int}(h:0<a):(0:Rat)<(a:Rat):=da.mpr h
theorem ZuK{α:Type}(P:α->Prop)(f:α->Rat):∀L:List α,(∃x∈L,P x)->∃x∈L,P x/\∀y∈L,P y->f y<=f x
 |[],⟨x,hx,_⟩=>by cases hx
 |a::L,h=>by
  classical
  by_cases hL:∃x∈L,P x
  ·obtain⟨x,hx,px,mx⟩:=ZuK P f L hL;by_cases c:P a/\f x<f a
   ·refine⟨a,by simp,c.1,fun y hy py=>?_⟩
    rcases ar.mp hy with rfl|hy
    ·exact hG
    ·have:=mx y hy py
     grind
   ·refine⟨x,aG _ hx,px,fun y hy py=>?_⟩;rcases ar.mp hy with rfl|hy
    ·by_cases z:f y<=f x
     ·exact z
     ·exact absurd ⟨py,by grind⟩ c
    ·exact mx y hy py
  ·obtain⟨x,hx,px⟩:=h;rcases ar.mp hx with rfl|hx
   ·refine⟨x,by simp,px,fun y hy py=>?_⟩
    rcases ar.mp hy with rfl|hy
    ·exact hG
    ·exact absurd ⟨y,hy,py⟩ hL
   ·exact absurd ⟨x,hx,px⟩ hL
theorem plk(r u s t:Pt):X r u*X s t=X r t*X s u-X s r*X u t:=by unfold X;grind
theorem swap(c:Cn s t r b)(rb:X r b=1)(fr:¬(0<X r u/\0<X u b))(no:¬(X u t<=0/\X s u<=0)):Cn s u r b\/Cn u t r b:=by
 obtain⟨st,sr,rt,sb,bt⟩:=c;have e1:=plk r u s t;have e2:=plk b u s t;have e3:=plk r b s t;rw[rb]at e3;have sw:∀p q:Pt,X p q= -(X q p):=fun p q=>by unfold X;grind
 have u1:=sw u r;have u2:=sw u b;generalize g1:X r u=ru at *;generalize g2:X b u=bu at *;generalize g3:X r t=r1 at *;generalize g4:X s r=r2 at *;generalize hb1:X b t=b1 at *;generalize g5:X s b=b2 at *;generalize ha:X u t=a at *;generalize hc:X s u=c at *;generalize g6:X s t=k at *;have r1p:0<r1:=by
  rcases(show r1=0\/0<r1 by lia)with z|z
  ·rw[z]at e3
   have:=aU sr bt
   lia
  ·exact z
 have b2p:0<b2:=by
  rcases(show b2=0\/0<b2 by lia)with z|z
  ·rw[z]at e3
   have:=aU sr bt
   simp at e3;lia
  ·exact z
 have pos:∀{x:Int},0<=x*k->0<=x:=fun{x} h=>by
  by_cases z:0<=x
  ·exact z
  ·have:=fj (show 0 < -x by lia) st
   rw[lM]at this;lia
 have npos:∀{x:Int},x*k<=0->x<=0:=fun{x} h=>by
  by_cases z:x<=0
  ·exact z
  ·have:=fj (show 0<x by lia) st
   lia
 by_cases hc0:0<c
 ·by_cases ha0:0<a
  ·by_cases f:0<ru
   ·
    have f2:¬0<X u b:=fun z=>fr ⟨f,z⟩;have bu0:0<=bu:=by lia
    exact .inl ⟨by lia,by lia,by lia,by lia,by lia⟩
   ·have ur:0<=X u r:=by lia
    refine .inr ⟨by lia,ur,by lia,?_,by lia⟩
    have h1:ru*k<=0:=by
     have:=aU (show 0<= -ru by lia) (show 0<=k by lia)
     rw[lM]at this;lia
    have m1:r1*(b1*c-b2*a)<=0:=by
     have q1:=aU (show 0<=r2*a-r1*c by lia) bt
     have q2:=aU (show 0<=r1*b2-r2*b1 by lia) (show 0<=a by lia)
     have:r1*(b1*c-b2*a)= -((r2*a-r1*c)*b1)-(r1*b2-r2*b1)*a:=by grind
     lia
    have m2:b1*c-b2*a<=0:=by
     by_cases z:b1*c-b2*a<=0
     ·exact z
     ·have:=fj r1p (show 0<b1*c-b2*a by lia)
      lia
    have:=npos (x:=bu) (by lia)
    lia
  ·refine .inl ⟨by lia,by lia,?_,by lia,?_⟩
   ·have q1:=aU (show 0<=r1 by lia) (show 0<=c by lia)
    have q2:=aU sr (show 0<= -a by lia)
    rw[jU]at q2
    have:=pos (x:=ru) (by lia)
    lia
   ·have q1:=aU bt (show 0<=c by lia)
    have q2:=aU sb (show 0<= -a by lia)
    rw[jU]at q2
    have:=pos (x:=bu) (by lia)
    lia
 ·have ha0:0<a:=by lia
  have q1:=aU (show 0<=r1 by lia) (show 0<= -c by lia)
  have q2:=aU sr (show 0<=a by lia)
  have q3:=aU bt (show 0<= -c by lia)
  have q4:=aU sb (show 0<=a by lia)
  rw[jU]at q1 q3;have z1:=npos (x:=ru) (by lia)
  have z2:=npos (x:=bu) (by lia)
  exact .inr ⟨by lia,by lia,by lia,by lia,by lia⟩
theorem Zjf{a:Rat}(hc:0<c)(h:a<b):c*a<c*b:=(gz hc).mpr h
theorem more(c:Cn s u r b)(rb:X r b=1)(sb:0<X s r+X s b)(ps:slp p s= -x)(ps':slp p' s= -x)(pu:slp p u < -y)(pu':slp p' u= -y):slp p r+slp p b<slp p' r+slp p' b:=by
 have t1:=Zha p s u r;have t2:=Zha p s u b;have t3:=Zha p' s u r;have t4:=Zha p' s u b;have k:=gt0 c.st;have q:(0:Rat)<(X s r:Rat)+(X s b:Rat):=by rw[<-bU];exact gt0 sb
 have:=Zjf q pu
 rw[ps]at t1 t2;rw[ps',pu']at t3 t4;generalize slp p r=a1 at *;generalize slp p b=a2 at *;generalize slp p' r=a3 at *;generalize slp p' b=a4 at *;generalize slp p u=z at *;have e:(X s u:Rat)*(a1+a2)<(X s u:Rat)*(a3+a4):=by grind
 exact(gz k).mp e
theorem ZtF(c:Cn u t r b)(rb:X r b=1)(sb:0<X r t+X b t)(ps:slp p t= -x)(ps':slp p' t= -x)(pu:slp p u < -y)(pu':slp p' u= -y):slp p r+slp p b<slp p' r+slp p' b:=by
 have t1:=Zha p u t r;have t2:=Zha p u t b;have t3:=Zha p' u t r;have t4:=Zha p' u t b;have k:=gt0 c.st;have q:(0:Rat)<(X r t:Rat)+(X b t:Rat):=by rw[<-bU];exact gt0 sb
 have:=Zjf q pu
 rw[ps]at t1 t2;rw[ps',pu']at t3 t4;generalize slp p r=a1 at *;generalize slp p b=a2 at *;generalize slp p' r=a3 at *;generalize slp p' b=a4 at *;generalize slp p u=z at *;have e:(X u t:Rat)*(a1+a2)<(X u t:Rat)*(a3+a4):=by grind
 exact(gz k).mp e
theorem ZlQ(c:Cn s t r b)(rb:X r b=1):0<X s r+X s b/\0<X r t+X b t:=by
 have e3:=plk r b s t;rw[rb]at e3;obtain⟨st,sr,rt,sb,bt⟩:=c;generalize X r t=r1 at *;generalize X s r=r2 at *;generalize X b t=b1 at *;generalize X s b=b2 at *;constructor
 ·by_cases z:0<r2+b2
  ·exact z
  ·have e1:r2=0:=by lia
   have e2:b2=0:=by lia
   rw[e1,e2]at e3;simp at e3;lia
 ·by_cases z:0<r1+b1
  ·exact z
  ·have e1:r1=0:=by lia
   have e2:b1=0:=by lia
   rw[e1,e2]at e3;simp at e3;lia
theorem wed(h:Smo rs)(hi:i<rs.length)(hq:Win rs hs q):∃p s t,Win rs hs p/\On rs hs p s/\On rs hs p t/\Cn (cy rs s) (cy rs t) (cy rs i) (cy rs (i+1)):=by
 have rb:=h.one i;obtain⟨j,hj,ej⟩:=BD.Zi8 (rs:=rs) (z:=(i:Int)+1) h.ne
 let L:List (Nat×Nat):=(aH rs.length).flatMap fun a=>(aH rs.length).map fun b=>(a,b)
 have mem:∀a b,a<rs.length->b<rs.length->(a,b)∈L:=fun a b ha hb=>List.mem_flatMap.mpr ⟨a,bv.mpr ha,aK.mpr ⟨b,bv.mpr hb,rfl⟩⟩;have mem':∀x∈L,x.1<rs.length/\x.2<rs.length:=fun x hx=>by
  obtain⟨a,ha,hb⟩:=List.mem_flatMap.mp hx;obtain⟨b,hb2,rfl⟩:=aK.mp hb;exact⟨bv.mp ha,bv.mp hb2⟩
 let pt (x:Nat×Nat):RP:=BL.crn (cy rs x.1) (cy rs x.2) (cq hs x.1) (cq hs x.2)
 have xx:∀p:Pt,X p p=0:=fun p=>by unfold X;grind
 obtain⟨⟨s,t⟩,hst,cn,mx⟩:=ZuK (fun x:Nat×Nat=>Cn (cy rs x.1) (cy rs x.2) (cy rs i) (cy rs (i+1))) (fun x=>slp (pt x) (cy rs i)+slp (pt x) (cy rs (i+1))) L ⟨(i,j),mem i j hi hj,by
  simp only[ej];exact⟨by lia,by rw[xx];lia,by lia,by lia,by rw[xx];lia⟩⟩
 obtain⟨hs0,ht0⟩:=mem' _ hst;simp only at cn hs0 ht0;have on:∀a b:Nat,X (cy rs a) (cy rs b)≠0->slp (pt (a,b)) (cy rs a)= -(cq hs a)/\slp (pt (a,b)) (cy rs b)= -(cq hs b):=fun a b ne=>(BL.ZnO ne).mp rfl;obtain⟨o1,o2⟩:=on s t (by have:=cn.st;lia)
 have w:Win rs hs (pt (s,t)):=by
  intro u hu;by_cases z: -(cq hs u)<=slp (pt (s,t)) (cy rs u)
  ·exact z
  ·exfalso;have z:slp (pt (s,t)) (cy rs u) < -(cq hs u):=by grind
   by_cases no:X (cy rs u) (cy rs t)<=0/\X (cy rs s) (cy rs u)<=0
   ·have t1:=Zha q (cy rs s) (cy rs t) (cy rs u);have t2:=Zha (pt (s,t)) (cy rs s) (cy rs t) (cy rs u);have a1:=hq s hs0;have a2:=hq t ht0;have a3:=hq u hu;have k:=gt0 cn.st;have n1:(X (cy rs u) (cy rs t):Rat)<=0:=jH.mpr no.1;have n2:(X (cy rs s) (cy rs u):Rat)<=0:=jH.mpr no.2;rw[o1,o2]at t2;have b1:=aA a1 (show 0<= -(X (cy rs u) (cy rs t):Rat)by grind)
    have b2:=aA a2 (show 0<= -(X (cy rs s) (cy rs u):Rat)by grind)
    have b3:=aA a3 (show 0<=(X (cy rs s) (cy rs t):Rat)by grind)
    have b4:=Zjf k z;grind
   ·rcases swap cn rb (fun f=>free h hi hu f.1 f.2) no with c|c
    ·obtain⟨o3,o4⟩:=on s u (by have:=c.st;lia)
     have:=more c rb (ZlQ c rb).1 o1 o3 z o4
     have:=mx (s,u) (mem s u hs0 hu) c
     grind
    ·obtain⟨o3,o4⟩:=on u t (by have:=c.st;lia)
     have:=ZtF c rb (ZlQ c rb).2 o2 o4 z o3
     have:=mx (u,t) (mem u t hu ht0) c
     grind
 exact⟨pt (s,t),s,t,w,⟨hs0,o1⟩,⟨ht0,o2⟩,cn⟩
theorem Zre(os:On rs hs p s)(ot:On rs hs p t)(st:0<X (cy rs s) (cy rs t))(h1:0<=X v (cy rs t))(h2:0<=X (cy rs s) v)(hq:Win rs hs q):slp p v<=slp q v:=by
 have a1:=hq s os.1;have a2:=hq t ot.1;rw[<-os.2]at a1;rw[<-ot.2]at a2;have k:=gt0 st;have t1:=Zha q (cy rs s) (cy rs t) v;have t2:=Zha p (cy rs s) (cy rs t) v;have b1:=aA a1 (ge0 h1);have b2:=aA a2 (ge0 h2);refine(Z7 k).mp ?_;rw[t1,t2];grind
theorem ZtG(h:Smo rs)(hi:i<rs.length)(hq:Win rs hs q):∃p,Cor rs hs p/\∀q,Win rs hs q->slp p (cy rs i)<=slp q (cy rs i)/\slp p (cy rs (i+1))<=slp q (cy rs (i+1)):=by
 obtain⟨p,s,t,w,os,ot,cn⟩:=wed h hi hq;exact⟨p,⟨w,s,t,os,ot,by have:=cn.st;lia⟩,fun q hq=>⟨Zre os ot cn.st cn.rt cn.sr hq,Zre os ot cn.st cn.bt cn.sb hq⟩⟩
end Rb
namespace Ri
open L2 DL
noncomputable def pd(p r:Pt):Int:=p.1*r.1+p.2*r.2
def gv(P:List Pt)(r:Pt):List Int:=P.map fun p=>pd p r
def mx(P:List Pt)(r:Pt):Int:=(gv P r).max?.getD 0
def mn(P:List Pt)(r:Pt):Int:=(gv P r).min?.getD 0
def wd(P:List Pt)(r:Pt):Int:=mx P r-mn P r
noncomputable def lss(w:Pt)(m:Int)(n:Pt):Pt:=(w.1-m*n.1,w.2-m*n.2)
noncomputable def sm(S:Nat)(r:Pt):Prop:=r.1.natAbs<=S/\r.2.natAbs<=S
noncomputable def df(p q:Pt):Pt:=(p.1-q.1,p.2-q.2)
section
variable {P:List Pt}{n w d:Pt}{C:Nat}
theorem ZfM(h:P≠[]):(gv P r).max?=some (mx P r)/\(∃p∈P,mx P r=pd p r)/\∀p∈P,pd p r<=mx P r:=by
 cases e:(gv P r).max? with
 |none=>exact absurd (cr.mp (iF.mp e)) h
 |some m=>
  obtain⟨h1,h2⟩:=iD.mp e;have t:mx P r=m:=by unfold mx;rw[e];rfl
  rw[t];obtain⟨u,hu,eu⟩:=aK.mp h1;exact⟨rfl,⟨u,hu,eu.symm⟩,fun v hv=>h2 _ (aK.mpr ⟨v,hv,rfl⟩)⟩
theorem ZfN(h:P≠[]):(gv P r).min?=some (mn P r)/\(∃p∈P,mn P r=pd p r)/\∀p∈P,mn P r<=pd p r:=by
 cases e:(gv P r).min? with
 |none=>exact absurd (cr.mp (fJ.mp e)) h
 |some m=>
  obtain⟨h1,h2⟩:=d6.mp e;have t:mn P r=m:=by unfold mn;rw[e];rfl
  rw[t];obtain⟨u,hu,eu⟩:=aK.mp h1;exact⟨rfl,⟨u,hu,eu.symm⟩,fun v hv=>h2 _ (aK.mpr ⟨v,hv,rfl⟩)⟩
theorem ZnP(h:P≠[]):0<=wd P r:=by
 obtain⟨_,⟨p,hp,e⟩,_⟩:=ZfM (r:=r) h
 have:=(ZfN (r:=r) h).2.2 p hp
 unfold wd;lia
theorem ZkO(hp:p∈P)(hq:q∈P):(pd (df p q) r).natAbs<=wd P r:=by
 have hne:P≠[]:=fun z=>by rw[z]at hp;cases hp
 have a1:=(ZfM (r:=r) hne).2.2 p hp;have a2:=(ZfM (r:=r) hne).2.2 q hq;have b1:=(ZfN (r:=r) hne).2.2 p hp;have b2:=(ZfN (r:=r) hne).2.2 q hq;have e:pd (df p q) r=pd p r-pd q r:=by unfold pd df;grind
 rw[e];unfold wd;lia
theorem ZkP(h:P≠[]):∃p∈P,∃q∈P,wd P r=pd (df p q) r:=by
 obtain⟨_,⟨p,hp,e⟩,_⟩:=ZfM (r:=r) h;obtain⟨_,⟨q,hq,e'⟩,_⟩:=ZfN (r:=r) h;refine⟨p,hp,q,hq,?_⟩;unfold wd;rw[e,e'];unfold pd df;grind
theorem ZaA{a:Int}(h1:a.natAbs<=x)(h2:b.natAbs<=y):(a*b).natAbs<=x*y:=by
 rw[be];exact dz h1 h2
theorem Zjg(hc:∀p∈P,sm C p)(hp:p∈P)(hq:q∈P):sm (2*C) (df p q):=by
 have h1:=hc p hp;have h2:=hc q hq;unfold sm df at *;dsimp only;lia
theorem ZtH(h:P≠[])(hc:∀p∈P,sm C p):wd P (1,0)<=(2*C:Nat)/\wd P (0,1)<=(2*C:Nat):=by
 constructor
 ·obtain⟨p,hp,q,hq,e⟩:=ZkP (r:=(1,0)) h;have hd:=Zjg hc hp hq;rw[e];unfold pd sm at *;lia
 ·obtain⟨p,hp,q,hq,e⟩:=ZkP (r:=(0,1)) h;have hd:=Zjg hc hp hq;rw[e];unfold pd sm at *;lia
def Spn(P:List Pt):Prop:=∃p∈P,∃q∈P,∃s∈P,X (df p q) (df p s)≠0
theorem Ze6{D:Int}(hD:D≠0)(h:(a*D).natAbs<=x):a.natAbs<=x:=by
 rw[be]at h;have h1:1<=D.natAbs:=by lia
 have:=jc a.natAbs h1
 lia
theorem ZnQ(h:Spn P)(hc:∀p∈P,sm C p)(hw:wd P r<=(2*C:Nat)):sm (8*C*C) r:=by
 obtain⟨p,hp,q,hq,s,hs,hD⟩:=h;have h1:=Zjg hc hp hq;have h2:=Zjg hc hp hs;have w1:(pd (df p q) r).natAbs<=2*C:=by have:=ZkO (r:=r) hp hq;lia
 have w2:(pd (df p s) r).natAbs<=2*C:=by have:=ZkO (r:=r) hp hs;lia
 generalize df p q=u at *;generalize df p s=v at *;have e:8*C*C=2*C*(2*C)+2*C*(2*C):=by grind
 constructor
 ·refine Ze6 hD ?_
  have:r.1*X u v=pd u r*v.2-pd v r*u.2:=by unfold pd X;grind
  rw[this];have a1:=ZaA w1 h2.2;have a2:=ZaA w2 h1.2;lia
 ·refine Ze6 hD ?_
  have:r.2*X u v=pd v r*u.1-pd u r*v.1:=by unfold pd X;grind
  rw[this];have a1:=ZaA w1 h2.1;have a2:=ZaA w2 h1.1;lia
def Dr(P:List Pt)(C:Nat)(d:Pt):Prop:=sm (2*C) d/\(d.1≠0\/d.2≠0)/\∀r,wd P r=(pd d r).natAbs
theorem Zrf(hl:¬Spn P)(hc:∀p∈P,sm C p)(h:P≠[])(h0:0<wd P n):∃d,Dr P C d:=by
 obtain⟨p,hp,q,hq,e⟩:=ZkP (r:=n) h;have hx:∀a∈P,∀b∈P,X (df a b) (df p q)=0:=by
  intro a ha b hb;have h1:X (df p q) (df p a)=0:=Classical.byContradiction fun z=>hl ⟨p,hp,q,hq,a,ha,z⟩;have h2:X (df p q) (df p b)=0:=Classical.byContradiction fun z=>hl ⟨p,hp,q,hq,b,hb,z⟩;unfold X df at *;grind
 refine⟨df p q,Zjg hc hp hq,?_,fun r=>?_⟩
 ·apply Classical.byContradiction;intro z;have z1:(df p q).1=0:=by lia
  have z2:(df p q).2=0:=by lia
  unfold pd at e;rw[z1,z2]at e;lia
 ·obtain⟨a,ha,b,hb,e2⟩:=ZkP (r:=r) h;have g:=ZkO (r:=r) hp hq;have g0:=ZkO (r:=n) ha hb;have x0:=hx a ha b hb;have id:pd (df a b) r*pd (df p q) n=pd (df a b) n*pd (df p q) r:=by
   unfold pd X at *;grind
  rw[<-e]at id;have l:(pd (df a b) r).natAbs*(wd P n).natAbs<=(wd P n).natAbs*(pd (df p q) r).natAbs:=by
   rw[<-be,id,be];exact cf _ (by lia)
  rw[Nat.mul_comm]at l;have l2:=Nat.le_of_mul_le_mul_left l (by lia)
  have nn:=ZnP (r:=r) h;lia
theorem ZlR{a:Int}(hx:X n w=1\/X n w= -1)(hd:sm (2*C) d):(pd d w).natAbs*n.1.natAbs<=2*C+(pd d n).natAbs*w.1.natAbs/\(pd d w).natAbs*n.2.natAbs<=2*C+(pd d n).natAbs*w.2.natAbs:=by
 have e1:pd d n*w.1-pd d w*n.1= -(d.2*X n w):=by unfold pd X;grind
 have e2:pd d n*w.2-pd d w*n.2=d.1*X n w:=by unfold pd X;grind
 rw[<-be,<-be,<-be,<-be]
 have:=hd.1
 have:=hd.2
 generalize pd d n*w.1=a1 at *;generalize pd d n*w.2=a2 at *;generalize pd d w*n.1=b1 at *;generalize pd d w*n.2=b2 at *;rcases hx with hx|hx<;>rw[hx]at e1 e2<;>constructor<;>lia
noncomputable def Sc(C:Nat):Nat:=8*C*C+4*C
structure Tw(P:List Pt) (C:Nat) (n w:Pt) (k:Nat):Prop where
 kk:k=(wd P n).toNat
 x:X n w=1\/X n w= -1
 le:wd P n<=wd P w
 c:wd P w<=(2*C:Nat)
 sn:sm (Sc C) n
 sw:sm (Sc C) w
 li:∀d,Dr P C d->∃t:Nat,t+k<=2*C/\(pd d n).natAbs*w.1.natAbs<=(t+1)*(2*C)/\(pd d n).natAbs*w.2.natAbs<=(t+1)*(2*C)/\sm ((t+2)*(2*C)) n/\sm ((t+2)*(2*C)) w
theorem Tw.new(h:P≠[])(hc:∀p∈P,sm C p)(c1:1<=C)(hn:n=(1,0)/\w=(0,1)\/n=(0,1)/\w=(1,0))(le:wd P n<=wd P w):Tw P C n w (wd P n).toNat:=by
 have w10:=ZtH h hc;have nn:=ZnP (r:=n) h;have s1:sm 1 n/\sm 1 w:=by
  rcases hn with⟨rfl,rfl⟩|⟨rfl,rfl⟩<;>simp[sm]
 have cc:wd P w<=(2*C:Nat):=by rcases hn with⟨_,rfl⟩|⟨_,rfl⟩<;>first|exact w10.2|exact w10.1
 have up:∀{S r},1<=S->sm 1 r->sm S r:=fun{S r} h1 h2=>⟨aT h2.1 h1,aT h2.2 h1⟩;refine⟨rfl,?_,le,cc,up (by unfold Sc;lia) s1.1,up (by unfold Sc;lia) s1.2,fun d hd=>⟨0,by lia,?_,?_,up (by lia) s1.1,up (by lia) s1.2⟩⟩
 ·rcases hn with⟨rfl,rfl⟩|⟨rfl,rfl⟩<;>simp[X]
 ·have:=hd.2.2 n
  have h2:=dz (show(pd d n).natAbs<=2*C by lia) s1.2.1
  lia
 ·have:=hd.2.2 n
  have h2:=dz (show(pd d n).natAbs<=2*C by lia) s1.2.2
  lia
theorem Zrg:X n (lss w m n)=X n w:=by unfold X lss;grind
theorem Zcj:X w n= -X n w:=by unfold X;grind
theorem Tw.turn(t:Tw P C n w k)(h:P≠[])(hc:∀p∈P,sm C p)(h0:0<wd P n)(lt:wd P (lss w m n)<wd P n):∃k'<k,Tw P C (lss w m n) n k':=by
 have nn:=ZnP (r:=lss w m n) h;have tk:=t.kk;have tc:=t.c;have tle:=t.le;have hx:X (lss w m n) n=1\/X (lss w m n) n= -1:=by
  rw[Zcj,Zrg];rcases t.x with z|z<;>rw[z]<;>simp
 have li:∀d,Dr P C d->∃t':Nat,t'+(wd P (lss w m n)).toNat<=2*C/\(pd d (lss w m n)).natAbs*n.1.natAbs<=(t'+1)*(2*C)/\(pd d (lss w m n)).natAbs*n.2.natAbs<=(t'+1)*(2*C)/\sm ((t'+2)*(2*C)) (lss w m n)/\sm ((t'+2)*(2*C)) n:=by
  intro d hd;obtain⟨t0,b,i1,i2,s1,s2⟩:=t.li d hd;have e1:=hd.2.2 n;have e2:=hd.2.2 w;have e3:=hd.2.2 (lss w m n);have j:=ZlR (a:=0) t.x hd.1;have j':=ZlR (a:=0) hx hd.1;have l1:=cf n.1.natAbs (show(pd d (lss w m n)).natAbs<=(pd d w).natAbs by lia)
  have l2:=cf n.2.natAbs (show(pd d (lss w m n)).natAbs<=(pd d w).natAbs by lia)
  have g1:(t0+1+1)*(2*C)=(t0+1)*(2*C)+2*C:=by grind
  have g2:(t0+1+2)*(2*C)=(t0+1+1)*(2*C)+2*C:=by grind
  have g3:(t0+2)*(2*C)=(t0+1+1)*(2*C):=by grind
  have p1:=cf (lss w m n).1.natAbs (show 1<=(pd d n).natAbs by lia)
  have p2:=cf (lss w m n).2.natAbs (show 1<=(pd d n).natAbs by lia)
  refine⟨t0+1,by lia,by lia,by lia,⟨?_,?_⟩,?_⟩
  ·have:=j'.1
   lia
  ·have:=j'.2
   lia
  ·unfold sm at *;lia
 have ss:sm (Sc C) (lss w m n):=by
  by_cases sp:Spn P
  ·have:=ZnQ (r:=lss w m n) sp hc (by lia)
   unfold sm Sc at *;lia
  ·obtain⟨d,hd⟩:=Zrf sp hc h h0;obtain⟨t',b,_,_,s1,_⟩:=li d hd
   have:(t'+2)*(2*C)<=(2*C+2)*(2*C):=cf _ (by lia)
   have e:(2*C+2)*(2*C)=4*C*C+4*C:=by grind
   have e2:8*C*C=4*C*C+4*C*C:=by grind
   unfold sm Sc at *;lia
 exact⟨(wd P (lss w m n)).toNat,by lia,⟨rfl,hx,by lia,by lia,ss,t.sn,li⟩⟩
theorem Tw.end_(t:Tw P C n w k)(hm:m.natAbs<=4*C+1):sm ((4*C+2)*Sc C) (lss w m n):=by
 have h1:=t.sn;have h2:=t.sw;have m1:=ZaA hm h1.1;have m2:=ZaA hm h1.2;have e:(4*C+2)*Sc C=(4*C+1)*Sc C+Sc C:=by grind
 unfold sm lss at *;dsimp only;lia
end
end Ri
namespace Ri
open L2 DL
open CN (cq)
open CS (slp)
open TW Rb
section
variable {rs:List Pt}
theorem Zjh{f:Pt->Pt->Nat}:∀(n:Nat)(a:Int),(∀c:Nat,c<n->f (cy rs (a+c)) (cy rs (a+c+1))=0)->sf f rs a n=0
 |0,a,_=>rfl
 |n+1,a,h=>by
  have h0:=h 0 (by lia)
  have ih:=Zjh n (a+1) fun c hc=>by
   have:=h (c+1) (by lia)
   rw[show a+((c+1:Nat):Int)=a+1+c by lia]at this
   exact this
  unfold sf;simp at h0;lia
theorem Zji(h:Smo rs)(hv:v≠(0,0)):∃i:Nat,i<rs.length/\0<=X (cy rs i) v/\0<X v (cy rs (i+1)):=by
 apply Classical.byContradiction;intro no;have c:=(h.rn.fan v hv).1;rw[Zdi h.ne]at c;have z:=Zjh (f:=in1 v) (rs:=rs) rs.length 0 fun c hc=>by
  unfold in1;rw[if_neg];intro q;refine no ⟨c,hc,?_⟩
  simpa using q
 lia
theorem Zdo(h:Smo rs)(hv:v≠(0,0))(hq:Win rs hs q):∃p,Cor rs hs p/\∀q,Win rs hs q->slp p v<=slp q v:=by
 obtain⟨i,hi,a,b⟩:=Zji h hv;obtain⟨p,cp,le⟩:=ZtG h hi hq;refine⟨p,cp,fun q hq=>?_⟩;obtain⟨l1,l2⟩:=le q hq;have one:=h.one i;rw[Za2 one,Za2 (p:=q) one];have m1:=aA l1 (ge0 (show 0<=X v (cy rs (i+1))by lia))
 have m2:=aA l2 (ge0 a);grind
theorem both(h:Smo rs)(hv:v≠(0,0)):(∃i<rs.length,0<X v (cy rs i))/\∃i<rs.length,X v (cy rs i)<0:=by
 have key:∀v:Pt,v≠(0,0)->∃i<rs.length,0<X v (cy rs i):=by
  intro v hv;obtain⟨i,hi,a,b⟩:=Zji h hv;have hl:=h.len;refine⟨(i+1)%rs.length,kD _ (by lia),?_⟩
  rw[show(((i+1)%rs.length:Nat):Int)=((i:Int)+1)%(rs.length:Int)by rw[Int.natCast_emod,Int.natCast_add];rfl,Zb3]
  exact b
 refine⟨key v hv,?_⟩;obtain⟨i,hi,z⟩:=key (-v.1,-v.2) (fun z=>hv (by
  have z1:=congrArg iX z;have z2:=congrArg kc z;simp at z1 z2;exact b5 z1 z2))
 refine⟨i,hi,?_⟩;unfold X at *;grind
noncomputable def ip(m:Pt):RP:=((m.1:Rat),(m.2:Rat))
theorem ZdR(m r:Pt):slp (ip m) r=((pd m r:Int):Rat):=by
 unfold slp ip pd;rw[bU,aJ,aJ]
noncomputable def qt(u v:Pt)(g o:Int):Pt:=(g*v.2-o*u.2,o*u.1-g*v.1)
theorem Zjj(h:X u v=1)(g o:Int)(r:Pt):pd (qt u v g o) r=X r v*g+X u r*o:=by
 unfold pd qt X at *;grind
theorem ZtI(h:X u v=1)(m:Pt):qt u v (pd m u) (pd m v)=m:=by
 unfold qt pd X at *;exact b5 (by simp only;grind) (by simp only;grind)
theorem Zb8(x:Rat)(a:Int): -x<=(a:Rat)↔0<=x.num+a*(x.den:Int):=by
 have hd:(0:Rat)<((x.den:Int):Rat):=da.mpr (Int.natCast_pos.mpr (bZ x.den_nz));have e:(x.num:Rat)=x*((x.den:Int):Rat):=by rw[BD.ZcF x];rfl
 rw[<-dY,bU,aJ,e];constructor
 ·intro h
  have:=bI h (show(0:Rat)<=((x.den:Int):Rat)by grind)
  grind
 ·intro h
  have:0*((x.den:Int):Rat)<=(x+a)*((x.den:Int):Rat):=by grind
  have:=fV this hd
  grind
theorem ZnR(h:X u v=1){g:Int}(hp:Win rs hs p)(hq:Win rs hs q)(h1:slp p u<=(g:Rat))(h2:(g:Rat)<=slp q u)(o:Int):Win rs hs (ip (qt u v g o))↔∀j:Nat,j<rs.length->X u (cy rs j)*((cq hs j).den:Int)≠0->0<=X u (cy rs j)*((cq hs j).den:Int)*o+((cq hs j).num+X (cy rs j) v*g*((cq hs j).den:Int)):=by
 have each:∀j:Nat,(-(cq hs j)<=slp (ip (qt u v g o)) (cy rs j))↔0<=X u (cy rs j)*((cq hs j).den:Int)*o+((cq hs j).num+X (cy rs j) v*g*((cq hs j).den:Int)):=by
  intro j;rw[ZdR,Zjj h,Zb8,show(cq hs j).num+(X (cy rs j) v*g+X u (cy rs j)*o)*((cq hs j).den:Int)=X u (cy rs j)*((cq hs j).den:Int)*o+((cq hs j).num+X (cy rs j) v*g*((cq hs j).den:Int))by grind]
 constructor
 ·intro w j hj _;exact(each j).mp (w j hj)
 ·intro w j hj;by_cases c:X u (cy rs j)*((cq hs j).den:Int)=0
  ·have hd:((cq hs j).den:Int)≠0:=by have:=(cq hs j).den_nz;lia
   have c0:X u (cy rs j)=0:=(fC.mp c).resolve_right hd;have wp:=hp j hj;have wq:=hq j hj;rw[Za2 h,c0]at wp wq;rw[ZdR,Zjj h,c0,bU,aJ];rcases(show 0<=X (cy rs j) v\/X (cy rs j) v<=0 by lia)with s|s
   ·have:=aA h1 (ge0 s)
    grind
   ·have s':(0:Rat)<= -((X (cy rs j) v:Int):Rat):=by
     have:=ge0 (show 0<= -X (cy rs j) v by lia)
     rw[bT]at this;exact this
    have:=aA h2 s'
    grind
  ·exact(each j).mpr (w j hj c)
theorem Zjk(h:Smo rs)(hu:u≠(0,0))(hm:Win rs hs (ip m)):∃p q,Cor rs hs p/\Cor rs hs q/\slp p u<=((pd m u:Int):Rat)/\((pd m u:Int):Rat)<=slp q u:=by
 obtain⟨p,cp,lp⟩:=Zdo h hu hm;obtain⟨q,cq',lq⟩:=Zdo (v:=(-u.1,-u.2)) h (fun z=>hu (by
  have z1:=congrArg iX z;have z2:=congrArg kc z;simp at z1 z2;exact b5 z1 z2)) hm
 refine⟨p,q,cp,cq',?_,?_⟩
 ·rw[<-ZdR];exact lp _ hm
 ·have:=lq _ hm
  rw[<-ZdR];unfold slp at *;simp only[bT]at this;grind
end
end Ri
namespace PT
open L2 DL
open CC (F_crossed)
open CS (F_minus)
open BD (F_common_bottom F_stretched F_body)
end PT
namespace PT
open L2 DL
open CV CN CU CS
open CR (rt Sz)
open CH (rts ZL)
open CD (pts ZO ZaV)
open Rb BD
noncomputable def tri(i j k:Nat):D:=.tup [.int i,.int j,.int k]
def t3(n i j:Nat)(m:Nat):List D:=(aH m).map fun c=>tri i j (j+1+c)
def t2(n i:Nat)(m:Nat):List D:=(aH m).flatMap fun b=>t3 n i (i+1+b) (n-(i+1+b+1))
def t1(n m:Nat):List D:=(aH m).flatMap fun a=>t2 n a (n-(a+1))
end PT
namespace DT
open L2 DL
open CC (F_crossed)
open BD (F_common_bottom F_stretched F_body)
def Zdp:Sv:=(Z9 (e2 dAdd (e2 dMul (e2 dIx (Zf 0) (eC (.int 0))) (e2 dIx (Zf 1) (eC (.int 0)))) (e2 dMul (e2 dIx (Zf 0) (eC (.int 1))) (e2 dIx (Zf 1) (eC (.int 1))))))
def F_product:W3:=fnF Zdp 2 0
def ZfO:Sv:=(ZB (ZJ (gNm 2) (Zai (iSq (Zf 0)) 1 [1] (gNm 0) (fun _ M=>.ok true M) (Zj F_product (Zc (Zf 0) (Zc (Zf 1) aNil))))) (Z9 (e2 dSub (Zj (ZaS jj) (Zc (Zf 2) aNil)) (Zj (ZaS gg) (Zc (Zf 2) aNil)))))
def F_width:W3:=fnF ZfO 2 1
def Zcq:Sv:=(Z9 (Z5 (Zc (e2 dSub (e2 dIx (Zf 0) (eC (.int 0))) (e2 dMul (Zf 1) (e2 dIx (Zf 2) (eC (.int 0))))) (Zc (e2 dSub (e2 dIx (Zf 0) (eC (.int 1))) (e2 dMul (Zf 1) (e2 dIx (Zf 2) (eC (.int 1))))) aNil))))
def F_lessened:W3:=fnF Zcq 3 0
def ZaL:Sv:=(ZB (ZJ (gNm 5) (e2 dDiv (e2 dAdd (Zf 4) (Zf 3)) (eC (.int 2)))) (ZB (Zfh 6 7 (Zc (Zj F_lessened (Zc (Zf 1) (Zc (Zf 5) (Zc (Zf 2) aNil)))) (Zc (Zj F_lessened (Zc (Zf 1) (Zc (e2 dAdd (Zf 5) (eC (.int 1))) (Zc (Zf 2) aNil)))) aNil))) (sIf (tv (e2 dLe (Zj F_width (Zc (Zf 0) (Zc (Zf 6) aNil))) (Zj F_width (Zc (Zf 0) (Zc (Zf 7) aNil))))) (ZJ (gNm 3) (Zf 5)) (ZJ (gNm 4) (e2 dAdd (Zf 5) (eC (.int 1)))))))
def Zby:Sv:=(ZB (ZJ (gNm 3) (e2 dAdd (e2 dDiv (e2 dMul (eC (.int 2)) (Zj F_width (Zc (Zf 0) (Zc (Zf 1) aNil)))) (Zj F_width (Zc (Zf 0) (Zc (Zf 2) aNil)))) (eC (.int 1)))) (ZB (ZJ (gNm 4) (ZbM (Zf 3))) (ZB (sWh (tv (e2 dLt (Zf 4) (Zf 3))) ZaL) (Z9 (Zj F_lessened (Zc (Zf 1) (Zc (Zf 4) (Zc (Zf 2) aNil))))))))
def F_least_wide:W3:=fnF Zby 3 5
def ZaB:Sv:=(ZB (ZJ (gNm 2) (Zj F_least_wide (Zc (Zf 0) (Zc (Zf 2) (Zc (Zf 1) aNil))))) (ZB (sIf (tv (e2 dGe (Zj F_width (Zc (Zf 0) (Zc (Zf 2) aNil))) (Zj F_width (Zc (Zf 0) (Zc (Zf 1) aNil))))) sBrk sNil) (Zfh 1 2 (Zc (Zf 2) (Zc (Zf 1) aNil)))))
def Zcr:Sv:=(ZB (ZJ (gTp (gCs (gNm 1) (gCs (gNm 2) gNl))) (Z5 (Zc (Z5 (Zc (eC (.int 1)) (Zc (eC (.int 0)) aNil))) (Zc (Z5 (Zc (eC (.int 0)) (Zc (eC (.int 1)) aNil))) aNil)))) (ZB (sIf (tv (e2 dLt (Zj F_width (Zc (Zf 0) (Zc (Zf 2) aNil))) (Zj F_width (Zc (Zf 0) (Zc (Zf 1) aNil))))) (Zfh 1 2 (Zc (Zf 2) (Zc (Zf 1) aNil))) sNil) (ZB (sWh (tv (e2 dGt (Zj F_width (Zc (Zf 0) (Zc (Zf 1) aNil))) (eC (.int 0)))) ZaB) (ZB (ZJ (gNm 3) (Zj F_crossed (Zc (Zf 1) (Zc (Zf 2) aNil)))) (Z9 (Z5 (Zc (Zf 1) (Zc (Z5 (Zc (e2 dMul (Zf 3) (e2 dIx (Zf 2) (eC (.int 0)))) (Zc (e2 dMul (Zf 3) (e2 dIx (Zf 2) (eC (.int 1)))) aNil))) aNil))))))))
def F_two_ways:W3:=fnF Zcr 1 3
def Z6:Sv:=(ZB (ZJ (gNm 10) (e2 dMul (Zj F_crossed (Zc (Zf 4) (Zc (Zf 8) aNil))) (e2 dIx (Zf 9) (eC (.int 1))))) (ZB (ZJ (gNm 11) (e2 dAdd (e2 dIx (Zf 9) (eC (.int 0))) (e2 dMul (e2 dMul (Zj F_crossed (Zc (Zf 8) (Zc (Zf 5) aNil))) (Zf 3)) (e2 dIx (Zf 9) (eC (.int 1)))))) (ZB (sIf (ZbL (tv (e2 dGt (Zf 10) (eC (.int 0)))) (Zel (tv (e2 dIs (Zf 6) (eC .non))) (tv (e2 dGt (ZbM (e2 dDiv (Zf 11) (Zf 10))) (Zf 6))))) (ZJ (gNm 6) (ZbM (e2 dDiv (Zf 11) (Zf 10)))) sNil) (sIf (ZbL (tv (e2 dLt (Zf 10) (eC (.int 0)))) (Zel (tv (e2 dIs (Zf 7) (eC .non))) (tv (e2 dLt (e2 dDiv (Zf 11) (ZbM (Zf 10))) (Zf 7))))) (ZJ (gNm 7) (e2 dDiv (Zf 11) (ZbM (Zf 10)))) sNil))))
def Zbf:Sv:=(ZB (ZJ (gTp (gCs (gNm 4) (gCs (gNm 5) gNl))) (Zf 2)) (ZB (ZJ (Zn7 (gNm 6) (gNm 7)) (eC .non)) (ZB (Zfm (gTp (gCs (gNm 8) (gCs (gNm 9) gNl))) (iZp (Zc (Zf 0) (Zc (Zf 1) aNil))) Z6) (Z9 (Zai (iR2 (Zc (Zf 6) (Zc (e2 dAdd (Zf 7) (eC (.int 1))) aNil))) 1 [3,4,5] (gNm 0) (fun _ M=>.ok true M) (Z5 (Zc (e2 dSub (e2 dMul (Zf 1) (e2 dIx (Zf 3) (eC (.int 1)))) (e2 dMul (Zf 0) (e2 dIx (Zf 2) (eC (.int 1))))) (Zc (e2 dSub (e2 dMul (Zf 0) (e2 dIx (Zf 2) (eC (.int 0)))) (e2 dMul (Zf 1) (e2 dIx (Zf 3) (eC (.int 0))))) aNil))))))))
def F_dots_across:W3:=fnF Zbf 4 8
def Zdq:Sv:=(Za4 (Zgi mExt (Zf 7) (Zc (Zj F_dots_across (Zc (Zf 0) (Zc (Zf 1) (Zc (Zf 5) (Zc (Zf 8) aNil))))) aNil)))
def Zjl:Sv:=(ZB (ZJ (gNm 2) (Zj F_body (Zc (Zf 0) (Zc (Zf 1) aNil)))) (ZB (ZJ (gNm 3) (Zj F_common_bottom (Zc (Zbt (iSq (Zf 2)) 2 [] (gNm 0) (fun _ M=>.ok true M) fun n=>(gIn (iSq (Zf 0)) (gNm 1) (fun _ M=>.ok true M) (gEm (Zf 1) n))) aNil))) (ZB (ZJ (gNm 4) (Zai (iSq (Zf 2)) 2 [3] (gTp (gCs (gNm 0) (gCs (gNm 1) gNl))) (fun _ M=>.ok true M) (Z5 (Zc (Zj F_stretched (Zc (Zf 0) (Zc (Zf 2) aNil))) (Zc (Zj F_stretched (Zc (Zf 1) (Zc (Zf 2) aNil))) aNil))))) (ZB (sIf (tv (e2 dEq (Zf 4) (Zdt aNil))) (Z9 (Zdt aNil)) sNil) (ZB (ZJ (gNm 5) (Zj F_two_ways (Zc (Zf 4) aNil))) (ZB (ZJ (gNm 6) (Zai (iSq (Zf 4)) 1 [5] (gNm 0) (fun _ M=>.ok true M) (Zj F_product (Zc (Zf 0) (Zc (e2 dIx (Zf 1) (eC (.int 0))) aNil))))) (ZB (ZJ (gNm 7) (Zdt aNil)) (ZB (Zc0 (gNm 8) (Zc (ZbM (e2 dDiv (ZbM (Zj (ZaS gg) (Zc (Zf 6) aNil))) (Zf 3))) (Zc (e2 dAdd (e2 dDiv (Zj (ZaS jj) (Zc (Zf 6) aNil)) (Zf 3)) (eC (.int 1))) aNil)) Zdq) (Z9 (Zg6 (Zc (Zf 7) aNil) [] (Z5 (Zc (e2 dIx (Zf 0) (eC (.int 1))) (Zc (e2 dIx (Zf 0) (eC (.int 0))) aNil)))))))))))))
def F_dots:W3:=fnF Zjl 2 7
end DT
namespace DT
open L2 DL
open CV CN CU CS
open CR (rt Sz)
open CH (rts ZL)
open CD (pts ZO ZaV)
open Rb BD Ri
section
variable {i:Nat}{P:List Pt}
theorem ZjC(h1:a.natAbs<=C)(hC:C<2^e)(he:e<=60000000)(h2:b.natAbs<=S)(hS:S<2^f)(hf:f<=60000000):Zs a b:=Zr e f (by lia) (by lia) he hf
theorem Ze7(hp:sm C p)(hC:C<2^e)(he:e<=60000000)(hr:sm S r)(hS:S<2^f)(hf:f<=60000000):wO (F_product [pr p.1 p.2,pr r.1 r.2] M) Q E=Q (.int (pd p r)) M:=by
 have f1:=ZjC hp.1 hC he hr.1 hS hf;have f2:=ZjC hp.2 hC he hr.2 hS hf;simp![F_product,Zdp,ZG f1,ZG f2];rfl
theorem Zdr(hi:i<(prs P).length):∃hi':i<P.length,(prs P)[i]=pr P[i].1 P[i].2:=by
 have:i<P.length:=by unfold prs at hi;rwa [aB]at hi
 exact⟨this,by simp[prs]⟩
theorem ZgJ:(aH (prs P).length).map (fun i=>D.int (pd (P.getD i (0,0)) r))=nts (gv P r):=by
 unfold nts gv prs;rw[cT,aB];refine dQ (by simp) fun i h1 h2=>?_
 simp at h1 h2;simp[h2]
theorem ZnS(h:M[n]?=some (.lst (prs P)))(hl:P.length<1000)(hp:∀p∈P,sm C p)(hC:C<2^e)(he:e<=60000000)(hr:sm S r)(hS:S<2^f)(hf:f<=60000000)(hρ:roB 1 [k] ρ=[none,some (pr r.1 r.2)])(q:Q (.ref M.length) (M++[.lst (nts (gv P r))])):kCo (gNm 0) (fun _ M=>.ok true M) (Zj F_product (Zc (Zf 0) (Zc (Zf 1) aNil))) 1 [k] ρ Q (.sto n) M:=by
 refine Znt (xs:=prs P) (fun ρ=>∃x,ρ=[x,some (pr r.1 r.2)]) (fun i=>.int (pd (P.getD i (0,0)) r)) h (by simp[prs];lia) ⟨_,hρ⟩ ?_ (by rw[ZgJ];exact q)
 rintro i hi ρ L ⟨x,rfl⟩;obtain⟨hi',ei⟩:=Zdr hi;rw[ei];have eg:P.getD i (0,0)=P[i]:=by simp[hi']
 rw[eg];have hp':=hp P[i] (cj hi');generalize P[i]=p at *;simp![Ze7 hp' hC he hr hS hf];exact⟨_,rfl⟩
theorem Zbg(h:M[n]?=some (.lst (prs P)))(hne:P≠[])(hl:P.length<1000)(hp:∀p∈P,sm C p)(hC:C<2^e)(he:e<=60000000)(hr:sm S r)(hS:S<2^f)(hf:f<=60000000)(q:∀M',Kp M M'->Q (.int (wd P r)) M'):wO (F_width [.ref n,pr r.1 r.2] M) Q E:=by
 have hn:=ZA h;simp![F_width,ZfO];refine ZnS h hl hp hC he hr hS hf rfl ?_;have e1:(M++[SO.lst (nts (gv P r))])[M.length]?=some (.lst (nts (gv P r))):=by simp
 simp![e1,CD.ZM,(ZfM (r:=r) hne).1,(ZfN (r:=r) hne).1];exact q _ Kp.app
theorem Zcs(hw:sm C w)(hm:a.natAbs<=K)(hK:K<2^e)(he:e<=60000000)(hr:sm S r)(hS:S<2^f)(hf:f<=60000000):wO (F_lessened [pr w.1 w.2,.int a,pr r.1 r.2] M) Q E=Q (pr (lss w a r).1 (lss w a r).2) M:=by
 have f1:=ZjC hm hK he hr.1 hS hf;have f2:=ZjC hm hK he hr.2 hS hf;simp![F_lessened,Zcq,ZG f1,ZG f2];rfl
theorem ZlS(hw:sm S w)(hr:sm S r)(ha:a.natAbs<=4*C+1):sm ((4*C+2)*S) (lss w a r):=by
 have m1:=ZaA ha hr.1;have m2:=ZaA ha hr.2;have e:(4*C+2)*S=(4*C+1)*S+S:=by grind
 unfold Ri.sm lss at *;dsimp only;lia
theorem Zjm(hC:C<2^e)(hS:S<2^f):(4*C+2)*S<2^(e+2+f):=by
 have:4*C+2<2^(e+2):=by rw[iY];lia
 exact CR.Zag this hS
theorem ZnT(h:M[n]?=some (.lst (prs P)))(hne:P≠[])(hl:P.length<1000)(hp:∀p∈P,sm C p)(hC:C<2^e)(he:e<=7000)(hw:sm S w)(hr:sm S r)(hS:S<2^f)(hf:f<=50000)(h0:0<wd P r)(le:wd P r<=wd P w)(c:wd P w<=(2*C:Nat))(q:∀a M',a.natAbs<=4*C+1->Kp M M'->Q (pr (lss w a r).1 (lss w a r).2) M'):wO (F_least_wide [.ref n,pr w.1 w.2,pr r.1 r.2] M) Q E:=by
 have hn:=ZA h;simp![F_least_wide,Zby];refine Zbg h hne hl hp hC (by lia) hw hS (by lia) fun M1 K1=>?_
 simp![Zm];refine Zbg (K1.get h) hne hl hp hC (by lia) hr hS (by lia) fun M2 K2=>?_
 have K2:=K1.trans K2;have c1:(4*C+1)<2^(e+2):=by rw[iY];lia
 have d0:0<=2*wd P w/wd P r:=jb (by lia) (by lia)
 have d1:2*wd P w/wd P r<=2*wd P w:=Int.ediv_le_self _ (by lia)
 simp![CR.ZcD (k:=e+1) h0 (by rw[mL];lia) (by lia)]
 generalize hH:2*wd P w/wd P r+1=H at *;have hH1:1<=H/\H<=4*C+1:=by lia
 refine Znr (fun j ρ M'=>Kp M M'/\∃hi lo x5 x6 x7,ρ=[some (.ref n),some (pr w.1 w.2),some (pr r.1 r.2),some (.int hi),some (.int lo),x5,x6,x7]/\ -H<=lo/\lo<=hi/\hi<=H/\j=(hi-lo).toNat) ?_ (H - -H).toNat _ _ ⟨K2,H,-H,_,_,_,rfl,by lia,by lia,by lia,rfl⟩
 rintro j _ M3 ⟨K3,hi,lo,x5,x6,x7,rfl,l1,l2,l3,rfl⟩;simp![Zm];refine Zns (fun hlt=>?_) (fun hlt=>?_)
 ·have md:lo<=(lo+hi)/2/\(lo+hi)/2<hi:=by lia
  simp![ZaL];generalize (lo+hi)/2=mid at *;simp![Zcs (C:=S) (K:=4*C+1) (a:=mid) (w:=w) (r:=r) (S:=S) hw (by lia) c1 (by lia) hr hS (by lia),Zcs (C:=S) (K:=4*C+1) (a:=mid+1) (w:=w) (r:=r) (S:=S) hw (by lia) c1 (by lia) hr hS (by lia)]
  refine Zbg (r:=lss w mid r) (K3.get h) hne hl hp hC (by lia) (ZlS hw hr (by lia)) (Zjm hC hS) (by lia) fun M4 K4=>?_
  simp![Zm];refine Zbg (r:=lss w (mid+1) r) ((K3.trans K4).get h) hne hl hp hC (by lia) (ZlS hw hr (by lia)) (Zjm hC hS) (by lia) fun M5 K5=>?_
  have K5:=(K3.trans K4).trans K5;simp![Zm];refine brS (fun _=>?_) (fun _=>?_)
  ·simp![Zm];exact⟨_,by lia,K5,mid,lo,_,_,_,rfl,by lia,by lia,by lia,rfl⟩
  ·simp![Zm];exact⟨_,by lia,K5,hi,mid+1,_,_,_,rfl,by lia,by lia,by lia,rfl⟩
 ·simp![Zcs (C:=S) (K:=4*C+1) (a:=lo) (w:=w) (r:=r) (S:=S) hw (by lia) c1 (by lia) hr hS (by lia)]
  exact q lo _ (by lia) K3
theorem ZtJ(hC:C<2^e):Sc C<2^(e+e+4):=by
 have h1:=CR.Zag hC hC;have h2:C<=C*C:=Nat.le_mul_self C;have e1:8*C*C=8*(C*C):=by grind
 unfold Sc;rw[iY 2 (e+e) 4];lia
theorem ZtK(h:M[n]?=some (.lst (prs P)))(hne:P≠[])(hl:P.length<1000)(hp:∀p∈P,sm C p)(hC:C<2^e)(c1:1<=C)(he:e<=7000)(q:∀(u v:Pt) M',X u v=1->sm ((4*C+2)*Sc C) u->sm ((4*C+2)*Sc C) v->Kp M M'->Q (.tup [pr u.1 u.2,pr v.1 v.2]) M'):wO (F_two_ways [.ref n] M) Q E:=by
 have hn:=ZA h;have s10:∀z:Pt,z=(1,0)\/z=(0,1)->sm 1 z:=by rintro z (rfl|rfl)<;>simp[Ri.sm]
 have one:1<2^1:=by decide
 have sc:=ZtJ hC;have bg:=Zjm hC sc;have up:∀{z:Pt},sm (Sc C) z->sm ((4*C+2)*Sc C) z:=fun{z} hz=>by
  have:1*Sc C<=(4*C+2)*Sc C:=cf _ (by lia)
  unfold Ri.sm at *;lia
 have fin:∀(u v:Pt) x M',Kp M M'->(X u v=1\/X u v= -1)->sm ((4*C+2)*Sc C) u->sm ((4*C+2)*Sc C) v->kSq (ZB (ZJ (gNm 3) (Zj CC.F_crossed (Zc (Zf 1) (Zc (Zf 2) aNil)))) (Z9 (Z5 (Zc (Zf 1) (Zc (Z5 (Zc (e2 dMul (Zf 3) (e2 dIx (Zf 2) (eC (.int 0)))) (Zc (e2 dMul (Zf 3) (e2 dIx (Zf 2) (eC (.int 1)))) aNil))) aNil))))) (Znm Q) Q (fun _ _=>False) (fun _ _=>False) E [some (.ref n),some (pr u.1 u.2),some (pr v.1 v.2),x] M':=by
  intro u v x M' K' hx su sv;have f1:=ZjC su.1 bg (by lia) sv.2 bg (by lia)
  have f2:=ZjC su.2 bg (by lia) sv.1 bg (by lia)
  simp![CC.F_crossed,CC.ZaG,ZG f1,ZG f2];have ex:u.1*v.2-u.2*v.1=X u v:=rfl;rw[ex];rcases hx with z|z
  ·rw[z];simp![Zm]
   have:=q u v M' z su sv K'
   simpa using this
  ·rw[z];simp![Zm]
   have:=q u (-v.1,-v.2) M' (by unfold X at *;simp only;grind) su (by unfold Ri.sm at *;simpa using sv) K'
   simpa using this
 simp![F_two_ways,Zcr];refine Zbg (r:=(0,1)) h hne hl hp hC (by lia) (s10 _ (.inr rfl)) one (by lia) fun M1 K1=>?_
 simp![Zm];refine Zbg (r:=(1,0)) (K1.get h) hne hl hp hC (by lia) (s10 _ (.inl rfl)) one (by lia) fun M2 K2=>?_
 have K2:=K1.trans K2;simp![Zm];have main:∀(u v:Pt),Tw P C u v (wd P u).toNat->wS (sWh (tv (e2 dGt (Zj F_width (Zc (Zf 0) (Zc (Zf 1) aNil))) (eC (.int 0)))) ZaB [some (.ref n),some (pr u.1 u.2),some (pr v.1 v.2),none] M2) (kSq (ZB (ZJ (gNm 3) (Zj CC.F_crossed (Zc (Zf 1) (Zc (Zf 2) aNil)))) (Z9 (Z5 (Zc (Zf 1) (Zc (Z5 (Zc (e2 dMul (Zf 3) (e2 dIx (Zf 2) (eC (.int 0)))) (Zc (e2 dMul (Zf 3) (e2 dIx (Zf 2) (eC (.int 1)))) aNil))) aNil))))) (Znm Q) Q (fun _ _=>False) (fun _ _=>False) E) Q (fun _ _=>False) (fun _ _=>False) E:=by
  intro u v tw;refine Znr (fun j ρ M'=>Kp M M'/\∃(u v:Pt) (x:Option D),ρ=[some (.ref n),some (pr u.1 u.2),some (pr v.1 v.2),x]/\Tw P C u v j) ?_ (wd P u).toNat _ _ ⟨K2,u,v,_,rfl,tw⟩;clear u v tw;rintro j _ M3 ⟨K3,u,v,x,rfl,tw⟩;simp![Zm];refine Zbg (r:=u) (K3.get h) hne hl hp hC (by lia) tw.sn sc (by lia) fun M4 K4=>?_
  have K4:=K3.trans K4;simp![Zm];refine Zns (fun h0=>?_) (fun _=>fin u v x M4 K4 tw.x (up tw.sn) (up tw.sw));simp![ZaB];refine ZnT (K4.get h) hne hl hp hC he tw.sw tw.sn sc (by lia) (by lia) tw.le tw.c fun a M5 ha K5=>?_
  have K5:=K4.trans K5;have sl:=tw.end_ ha;simp![Zm];refine Zbg (r:=lss v a u) (K5.get h) hne hl hp hC (by lia) sl bg (by lia) fun M6 K6=>?_
  have K6:=K5.trans K6;simp![Zm];refine Zbg (r:=u) (K6.get h) hne hl hp hC (by lia) tw.sn sc (by lia) fun M7 K7=>?_
  have K7:=K6.trans K7;simp![Zm];refine brS (fun _=>?_) (fun lt=>?_)
  ·exact fin u (lss v a u) x M7 K7 (by rw[Zrg];exact tw.x) (up tw.sn) sl
  ·simp![Zm];obtain⟨k',hk,tw'⟩:=tw.turn (m:=a) hne hp (by lia) (by lia)
   exact⟨k',hk,K7,lss v a u,u,x,rfl,tw'⟩
 refine brS (fun lt=>?_) (fun lt=>?_)
 ·simp![Zm];exact main (0,1) (1,0) (Tw.new hne hp c1 (.inr ⟨rfl,rfl⟩) (by lia))
 ·simp![Zm];exact main (1,0) (0,1) (Tw.new hne hp c1 (.inl ⟨rfl,rfl⟩) (by lia))
end
end DT
namespace DT
open L2 DL
open CV CN CU CS
open CR (rt Sz)
open CH (rts ZL)
open CD (pts ZO ZaV)
open Rb BD Ri
def ac(rs:List Pt)(hs:List Rat)(u:Pt)(i:Nat):Int:=X u (cy rs i)*((cq hs i).den:Int)
def re(rs:List Pt)(hs:List Rat)(v:Pt)(g:Int)(i:Nat):Int:=(cq hs i).num+X (cy rs i) v*g*((cq hs i).den:Int)
noncomputable def oD:Option Int->D|none=>.non|some l=>.int l
def LoA(A R:Nat->Int)(i:Nat)(lo:Option Int):Prop:=(lo=none/\∀j<i,¬0<A j)\/∃l,lo=some l/\(∀j<i,0<A j-> -(R j/A j)<=l)/\∃j<i,0<A j/\l= -(R j/A j)
noncomputable def HiA(A R:Nat->Int)(i:Nat)(hi:Option Int):Prop:=(hi=none/\∀j<i,¬A j<0)\/∃l,hi=some l/\(∀j<i,A j<0->l<=R j / -A j)/\∃j<i,A j<0/\l=R j / -A j
theorem LoA.keep(h:LoA A R i lo)(c:0<A i->∃l,lo=some l/\ -(R i/A i)<=l):LoA A R (i+1) lo:=by
 rcases h with⟨e,h⟩|⟨l,e,h,j,hj,h2⟩
 ·refine .inl ⟨e,fun j hj=>?_⟩;rcases cS.mp hj with z|z
  ·exact h j z
  ·intro q;rw[z]at q;obtain⟨l,z,_⟩:=c q;rw[e]at z;cases z
 ·refine .inr ⟨l,e,fun j hj p=>?_,j,by lia,h2⟩
  rcases cS.mp hj with z|z
  ·exact h j z p
  ·subst z;obtain⟨l',z,q⟩:=c p;rw[e]at z;cases z;exact q
theorem LoA.new(h:LoA A R i lo)(p:0<A i)(c:∀l,lo=some l->l<= -(R i/A i)):LoA A R (i+1) (some (-(R i/A i))):=by
 refine .inr ⟨_,rfl,fun j hj q=>?_,i,by lia,p,rfl⟩
 rcases cS.mp hj with z|z
 ·rcases h with⟨e,h⟩|⟨l,e,h,_⟩
  ·exact absurd q (h j z)
  ·have:=c l e
   have:=h j z q
   lia
 ·subst z;lia
theorem HiA.keep(h:HiA A R i hi)(c:A i<0->∃l,hi=some l/\l<=R i / -A i):HiA A R (i+1) hi:=by
 rcases h with⟨e,h⟩|⟨l,e,h,j,hj,h2⟩
 ·refine .inl ⟨e,fun j hj=>?_⟩;rcases cS.mp hj with z|z
  ·exact h j z
  ·intro q;rw[z]at q;obtain⟨l,z,_⟩:=c q;rw[e]at z;cases z
 ·refine .inr ⟨l,e,fun j hj p=>?_,j,by lia,h2⟩
  rcases cS.mp hj with z|z
  ·exact h j z p
  ·subst z;obtain⟨l',z,q⟩:=c p;rw[e]at z;cases z;exact q
theorem HiA.new(h:HiA A R i hi)(p:A i<0)(c:∀l,hi=some l->R i / -A i<=l):HiA A R (i+1) (some (R i / -A i)):=by
 refine .inr ⟨_,rfl,fun j hj q=>?_,i,by lia,p,rfl⟩
 rcases cS.mp hj with z|z
 ·rcases h with⟨e,h⟩|⟨l,e,h,_⟩
  ·exact absurd q (h j z)
  ·have:=c l e
   have:=h j z q
   lia
 ·subst z;lia
theorem ZdS(h:0<a): -(r/a)<=o↔0<=a*o+r:=by
 have h1:=Int.mul_ediv_self_le (x:=r) (k:=a) (by lia)
 have h2:=Int.lt_mul_ediv_self_add (x:=r) h;constructor
 ·intro q
  have:=cM (show -(r/a)<=o from q) (show 0<=a by lia)
  grind
 ·intro q;apply Classical.byContradiction;intro z
  have:=cM (show o<= -(r/a)-1 by lia) (show 0<=a by lia)
  grind
theorem ZgK(h:a<0):o<=r / -a↔0<=a*o+r:=by
 have:=ZdS (a:= -a) (r:=r) (o:= -o) (by lia)
 rw[show -a * -o=a*o by grind]at this
 rw[<-this];lia
theorem ZuL(hl:LoA A R n (some l))(hh:HiA A R n (some h))(o:Int):l<=o/\o<=h↔∀j<n,A j≠0->0<=A j*o+R j:=by
 rcases hl with⟨z,_⟩|⟨l',z,l1,j1,hj1,p1,e1⟩
 ·cases z
 cases z;rcases hh with⟨z,_⟩|⟨h',z,h1,j2,hj2,p2,e2⟩
 ·cases z
 cases z;constructor
 ·rintro⟨a,b⟩ j hj ne;rcases(show 0<A j\/A j<0 by lia)with c|c
  ·have:=l1 j hj c
   exact(ZdS c).mp (by lia)
  ·have:=h1 j hj c
   exact(ZgK c).mp (by lia)
 ·intro q;have q1:=(ZdS p1).mpr (q j1 hj1 (by lia))
  have q2:=(ZgK p2).mpr (q j2 hj2 (by lia))
  lia
noncomputable def qt(u v:Pt)(g o:Int):Pt:=(g*v.2-o*u.2,o*u.1-g*v.1)
def ZnU(u v:Pt)(g l h:Int):List Pt:=(aH (h+1-l).toNat).map fun(c:Nat)=>qt u v g (l+(c:Int))
theorem ZuM(hu:sm S u)(hr:p.1.natAbs<=400/\p.2.natAbs<=400):(X u p).natAbs<=S*800:=by
 have m1:=ZaA hu.1 hr.2;have m2:=ZaA hu.2 hr.1;unfold X;lia
theorem Zrh(su:sm S u)(sv:sm S v)(hS:S<2^f)(hf:f<=3000)(hp:p.1.natAbs<=400/\p.2.natAbs<=400)(hx:Sz k x)(hk:k<=900)(hg:g.natAbs<2^f)(eA:A i=X u p*(x.den:Int))(eR:R i=x.num+X p v*g*(x.den:Int))(hl:LoA A R i lo)(hh:HiA A R i hi)(q:∀lo hi y10 y11,LoA A R (i+1) lo->HiA A R (i+1) hi->N [some (.ref n),some (.ref m),some (.tup [pr u.1 u.2,pr v.1 v.2]),some (.int g),some (pr u.1 u.2),some (pr v.1 v.2),some (oD lo),some (oD hi),some (pr p.1 p.2),some (rt x),y10,y11] M):wS (Z6 [some (.ref n),some (.ref m),some (.tup [pr u.1 u.2,pr v.1 v.2]),some (.int g),some (pr u.1 u.2),some (pr v.1 v.2),some (oD lo),some (oD hi),some (pr p.1 p.2),some (rt x),x10,x11] M) N Q B C' E:=by
 have b1:=ZuM su hp;have b2:(X p v).natAbs<=S*800:=by have:=ZuM sv hp;rw[Ri.Zcj]at this;rwa [lN]at this
 have e1:S*800<2^(f+10):=by rw[iY];lia
 have f1:=ZjC su.1 hS (by lia) hp.2 (show 400<2^9 by decide) (by lia)
 have f2:=ZjC su.2 hS (by lia) hp.1 (show 400<2^9 by decide) (by lia)
 have f3:=ZjC hp.1 (show 400<2^9 by decide) (by lia) sv.2 hS (by lia)
 have f4:=ZjC hp.2 (show 400<2^9 by decide) (by lia) sv.1 hS (by lia)
 have f5:Zs (X u p) (x.den:Int):=Zr (f+10) k (by lia) (by simpa using hx.2) (by lia) (by lia)
 have f6:Zs (X p v) g:=Zr (f+10) f (by lia) hg (by lia) (by lia)
 have b3:(X p v*g).natAbs<2^(f+10+f):=by rw[be];exact CR.Zag (by lia) hg
 have f7:Zs (X p v*g) (x.den:Int):=Zr (f+10+f) k b3 (by simpa using hx.2) (by lia) (by lia)
 have bA:(A i).natAbs<2^(f+10+k):=by rw[eA,be];exact CR.Zag (by lia) (by simpa using hx.2)
 have ex1:u.1*p.2-u.2*p.1=X u p:=rfl;have ex2:p.1*v.2-p.2*v.1=X p v:=rfl;simp![Z6,CC.F_crossed,CC.ZaG,ZG f1,ZG f2,ZG f3,ZG f4,ex1,ex2,ZG f5,ZG f6,ZG f7];rw[<-eA,<-eR];have second:∀lo,LoA A R (i+1) lo->kSq (sIf (ZbL (tv (e2 dLt (Zf 10) (eC (D.int 0)))) (Zel (tv (e2 dIs (Zf 7) (eC D.non))) (tv (e2 dLt (e2 dDiv (Zf 11) (ZbM (Zf 10))) (Zf 7))))) (ZJ (gNm 7) (e2 dDiv (Zf 11) (ZbM (Zf 10)))) sNil) N Q B C' E [some (.ref n),some (.ref m),some (.tup [pr u.1 u.2,pr v.1 v.2]),some (.int g),some (pr u.1 u.2),some (pr v.1 v.2),some (oD lo),some (oD hi),some (pr p.1 p.2),some (rt x),some (.int (A i)),some (.int (R i))] M:=by
  intro lo hlo;simp![Zm];refine brO (fun c=>?_) (fun c=>?_)
  ·have dv:∀{Q:W0}{E:W2}{M:Sto},wO (dDiv (.int (R i)) (.int (-A i)) M) Q E=Q (.int (R i / -A i)) M:=fun{Q E M}=>CR.ZcD (k:=f+10+k) (by lia) (by lia) (by lia)
   cases hi with
   |none=>
    simp![oD,dv];exact q lo (some _) _ _ hlo (hh.new c fun l z=>by cases z)
   |some l=>
    simp![oD,dv];refine brS (fun d=>?_) (fun d=>?_)
    ·simp![dv];exact q lo (some _) _ _ hlo (hh.new c fun l' z=>by cases z;lia)
    ·simp![Zm];exact q lo (some l) _ _ hlo (hh.keep fun _=>⟨l,rfl,by lia⟩)
  ·simp![Zm];exact q lo hi _ _ hlo (hh.keep fun z=>absurd z c)
 refine brO (fun c=>?_) (fun c=>?_)
 ·have dv:∀{Q:W0}{E:W2}{M:Sto},wO (dDiv (.int (R i)) (.int (A i)) M) Q E=Q (.int (R i/A i)) M:=fun{Q E M}=>CR.ZcD (k:=f+10+k) c bA (by lia)
  cases lo with
  |none=>
   simp![oD,dv];exact q (some _) hi _ _ (hl.new c fun l z=>by cases z) (hh.keep fun z=>by lia)
  |some l=>
   simp![oD,dv];refine brS (fun d=>?_) (fun d=>?_)
   ·simp![dv];exact q (some _) hi _ _ (hl.new c fun l' z=>by cases z;lia) (hh.keep fun z=>by lia)
   ·simp![Zm];exact q (some l) hi _ _ (hl.keep fun _=>⟨l,rfl,by lia⟩) (hh.keep fun z=>by lia)
 ·exact second lo (hl.keep fun z=>absurd z c)
theorem ZkQ(h:M[n]?=some (.lst (prs rs)))(h':M[m]?=some (.lst (rts hs)))(e:hs.length=rs.length)(hne:rs≠[])(hb:Nr 400 rs)(hl:rs.length<=1000)(hz:∀x∈hs,Sz k x)(hk:k<=900)(su:sm S u)(sv:sm S v)(hS:S<2^f)(hf:f<=3000)(hg:g.natAbs<2^f)(hp:∃i<rs.length,0<X u (cy rs i))(hn:∃i<rs.length,X u (cy rs i)<0)(hR:∀l h,LoA (ac rs hs u) (re rs hs v g) rs.length (some l)->HiA (ac rs hs u) (re rs hs v g) rs.length (some h)->l.natAbs<2^61/\h.natAbs<2^61/\h+1-l<10000000)(q:∀l h:Int,(∀o,l<=o/\o<=h↔∀j<rs.length,ac rs hs u j≠0->0<=ac rs hs u j*o+re rs hs v g j)->Q (.ref M.length) (M++[.lst (prs (ZnU u v g l h))])):wO (F_dots_across [.ref n,.ref m,.tup [pr u.1 u.2,pr v.1 v.2],.int g] M) Q E:=by
 have hn':=ZA h;have hm':=ZA h';have l0:0<rs.length:=gy.mpr hne;simp![F_dots_across,Zbf,Zlt,Zn7,Zth];refine Zls (n:=n) (m:=m) (xs:=prs rs) (ys:=rts hs) (fun i ρ M'=>M'=M/\∃lo hi x8 x9 x10 x11,ρ=[some (.ref n),some (.ref m),some (.tup [pr u.1 u.2,pr v.1 v.2]),some (.int g),some (pr u.1 u.2),some (pr v.1 v.2),some (oD lo),some (oD hi),x8,x9,x10,x11]/\LoA (ac rs hs u) (re rs hs v g) i lo/\HiA (ac rs hs u) (re rs hs v g) i hi) h (by rw[ZI,ZL];lia) ⟨rfl,none,none,_,_,_,_,rfl,.inl ⟨rfl,fun j hj=>by lia⟩,.inl ⟨rfl,fun j hj=>by lia⟩⟩ (fun i ρ M' hI=>hI.1▸⟨h,h'⟩) ?_ ?_
 ·rintro i ρ _ hi ⟨rfl,lo,hi',x8,x9,x10,x11,rfl,h1,h2⟩;have hi1:i<rs.length:=by rw[ZI]at hi;exact hi
  obtain⟨_,ei⟩:=Zdr hi;have ec:rs[i]=cy rs i:=by rw[Zb4 hi1]
  rw[ei,ec,ZfF];have bp:=hb _ (Z0 (i:=(i:Int)) hne);have zx:=Ze4 (i:=(i:Int)) hz (by lia)
  simp![Zm];refine Zrh (i:=i) su sv hS hf (by lia) zx hk hg rfl rfl h1 h2 fun lo hi y10 y11 h3 h4=>?_
  exact⟨rfl,lo,hi,_,_,_,_,rfl,h3,h4⟩
 ·rintro ρ _ ⟨rfl,lo,hi',x8,x9,x10,x11,rfl,h1,h2⟩;rw[ZI]at h1 h2;have dp:∀j,0<((cq hs j).den:Int):=fun j=>Int.natCast_pos.mpr (bZ (cq hs j).den_nz);cases lo with
  |none=>
   obtain⟨j,hj,z⟩:=hp;rcases h1 with⟨_,h1⟩|⟨_,z',_⟩
   ·exact absurd (fj z (dp j)) (h1 j hj)
   ·cases z'
  |some l=>
   cases hi' with
   |none=>
    obtain⟨j,hj,z⟩:=hn;rcases h2 with⟨_,h2⟩|⟨_,z',_⟩
    ·exact absurd (Int.mul_neg_of_neg_of_pos z (dp j)) (h2 j hj)
    ·cases z'
   |some h9=>
    have en:=ZuL h1 h2;obtain⟨bl,bh,ll⟩:=hR l h9 h1 h2;simp![oD];refine⟨by lia,?_⟩
    refine Ztg (xs:=Zbp l (h9+1-l).toNat) (fun ρ=>∃x,ρ=[x,some (.int g),some (pr u.1 u.2),some (pr v.1 v.2)]) (fun c=>pr (qt u v g (l+(c:Int))).1 (qt u v g (l+(c:Int))).2) (by rw[Zci];lia) (by simp[cnt]) ⟨_,rfl⟩ (fun L c hc=>rfl) ?_ ?_
    ·rintro c hc ρ L ⟨x,rfl⟩;rw[ZiC];rw[Zci]at hc;have bo:(l+(c:Int)).natAbs<2^63:=by lia
     generalize l+(c:Int)=o9 at *;have f1:Zs g v.2:=Zr f f hg (by have:=sv.2;lia) (by lia) (by lia)
     have f2:Zs g v.1:=Zr f f hg (by have:=sv.1;lia) (by lia) (by lia)
     have f3:Zs o9 u.2:=Zr 63 f bo (by have:=su.2;lia) (by lia) (by lia)
     have f4:Zs o9 u.1:=Zr 63 f bo (by have:=su.1;lia) (by lia) (by lia)
     simp![ZG f1,ZG f2,ZG f3,ZG f4];exact⟨⟨_,rfl⟩,rfl⟩
    ·rw[Zci]
     have:=q l h9 en
     unfold prs ZnU at this;rw[cT]at this;exact this
end DT
namespace DT
open L2 DL
open CV CN CU CS
open Rb BD Ri
section
variable {rs:List Pt}{hs:List Rat}{u v:Pt}{g l h:Int}{c V:Nat}{p:RP}
noncomputable def Bx(c:Nat)(q:RP):Prop:=(-(c:Rat)<=q.1/\q.1<=(c:Rat))/\ -(c:Rat)<=q.2/\q.2<=(c:Rat)
theorem box(hS:Smo rs)(hc:∀p,Cor rs hs p->Bx c p)(hq:Win rs hs q):Bx c q:=by
 have key:∀v:Pt,v≠(0,0)->(∀p,Cor rs hs p-> -(c:Rat)<=slp p v)-> -(c:Rat)<=slp q v:=by
  intro v hv hc;obtain⟨p,cp,lp⟩:=Zdo hS hv hq
  have:=hc p cp
  have:=lp q hq
  grind
 have k1:=key (1,0) (by decide) fun p cp=>by have:=hc p cp;unfold slp;unfold Bx at this;grind
 have k2:=key (-1,0) (by decide) fun p cp=>by have:=hc p cp;unfold slp;unfold Bx at this;grind
 have k3:=key (0,1) (by decide) fun p cp=>by have:=hc p cp;unfold slp;unfold Bx at this;grind
 have k4:=key (0,-1) (by decide) fun p cp=>by have:=hc p cp;unfold slp;unfold Bx at this;grind
 unfold slp at *;unfold Bx;grind
theorem mid(hp:Win rs hs p)(hq:Win rs hs q){g:Rat}(h1:slp p u<=g)(h2:g<=slp q u):∃x,Win rs hs x/\slp x u=g:=by
 by_cases e:slp q u-slp p u=0
 ·exact⟨p,hp,by grind⟩
 ·have d0:0<slp q u-slp p u:=by grind
  obtain⟨t,ht⟩:∃t:Rat,t*(slp q u-slp p u)=g-slp p u:=⟨(g-slp p u)/(slp q u-slp p u),Rat.div_mul_cancel e⟩;have t0:0<=t:=by
   apply Classical.byContradiction;intro z
   have:=i4 d0 (a:=t) (b:=0)
   grind
  have t1:t<=1:=by
   apply Classical.byContradiction;intro z
   have:=i4 d0 (a:=1) (b:=t)
   grind
  refine⟨(p.1+t*(q.1-p.1),p.2+t*(q.2-p.2)),fun i hi=>?_,?_⟩
  ·have a:=hp i hi;have b:=hq i hi;have m1:=aA a (show 0<=1-t by grind)
   have m2:=aA b t0
   have:slp (p.1+t*(q.1-p.1),p.2+t*(q.2-p.2)) (cy rs i)=(1-t)*slp p (cy rs i)+t*slp q (cy rs i):=by unfold slp;grind
   rw[this];grind
  ·have:slp (p.1+t*(q.1-p.1),p.2+t*(q.2-p.2)) u=slp p u+t*(slp q u-slp p u):=by unfold slp;grind
   rw[this,ht];grind
noncomputable def ry(u:Pt)(x:RP)(d:Rat):RP:=(x.1-d*u.2,x.2+d*u.1)
theorem ZgL(hx:X u v=1)(d:Rat)(r:Pt):slp (ry u x d) r=slp x r+d*(X u r:Rat):=by
 rw[Zbx];unfold slp ry;grind
theorem ZlT(hx:X u v=1)(xu:slp x u=(g:Rat))(o:Rat)(j:Nat): -(cq hs j)<=slp (ry u x (o-slp x v)) (cy rs j)↔0<=(ac rs hs u j:Rat)*o+(re rs hs v g j:Rat):=by
 rw[ZgL hx,Za2 hx (p:=x),xu];unfold ac re;have hd:(0:Rat)<((cq hs j).den:Rat):=fF.mpr (bZ (cq hs j).den_nz);have e:((cq hs j).num:Rat)=cq hs j*((cq hs j).den:Rat):=BD.ZcF _;simp only[aJ,bU,e,ay];have e2:((X u (cy rs j):Int):Rat)*((cq hs j).den:Rat)*o+(cq hs j*((cq hs j).den:Rat)+((X (cy rs j) v:Int):Rat)*(g:Rat)*((cq hs j).den:Rat))=(((cq hs j).den:Rat))*(cq hs j+(((X (cy rs j) v:Int):Rat)*(g:Rat)+((X u (cy rs j):Int):Rat)*o)):=by grind
 rw[e2];constructor
 ·intro z;exact iA (by grind) (by grind)
 ·intro z
  have:((cq hs j).den:Rat)*0<=((cq hs j).den:Rat)*(cq hs j+(((X (cy rs j) v:Int):Rat)*(g:Rat)+((X u (cy rs j):Int):Rat)*o)):=by grind
  have:=jK this hd
  grind
theorem Zri(hx:X u v=1)(wx:Win rs hs x)(xu:slp x u=(g:Rat))(o:Rat)(hf:∀j<rs.length,ac rs hs u j≠0->0<=(ac rs hs u j:Rat)*o+(re rs hs v g j:Rat)):Win rs hs (ry u x (o-slp x v)):=by
 intro j hj;by_cases c:ac rs hs u j=0
 ·have hd:((cq hs j).den:Int)≠0:=by have:=(cq hs j).den_nz;lia
  unfold ac at c;have c0:X u (cy rs j)=0:=(fC.mp c).resolve_right hd;rw[ZgL hx,c0]
  have:=wx j hj
  grind
 ·exact(ZlT hx xu o j).mpr (hf j hj c)
theorem Zrj(hy:Bx c y)(hv:sm V v): -((2*c*V:Nat):Rat)<=slp y v/\slp y v<=((2*c*V:Nat):Rat):=by
 have cc:(0:Rat)<=(c:Rat):=gW;have key:∀(a:Rat)(b:Int),-(c:Rat)<=a->a<=(c:Rat)->b.natAbs<=V-> -((c:Rat)*(V:Rat))<=a*(b:Rat)/\a*(b:Rat)<=(c:Rat)*(V:Rat):=by
  intro a b h1 h2 h3;have b1:(b:Rat)<=(V:Rat):=by
   rw[<-ay];exact a7.mpr (by lia)
  have b2: -(V:Rat)<=(b:Rat):=by
   rw[<-ay,<-bT];exact a7.mpr (by lia)
  have m1:=iA (show 0<=(c:Rat)-a by grind) (show 0<=(V:Rat)-b by grind)
  have m2:=iA (show 0<=(c:Rat)+a by grind) (show 0<=(V:Rat)+b by grind)
  have m3:=iA (show 0<=(c:Rat)+a by grind) (show 0<=(V:Rat)-b by grind)
  have m4:=iA (show 0<=(c:Rat)-a by grind) (show 0<=(V:Rat)+b by grind)
  grind
 have k1:=key y.1 v.1 hy.1.1 hy.1.2 hv.1;have k2:=key y.2 v.2 hy.2.1 hy.2.2 hv.2;rw[show 2*c*V=c*V+c*V by grind,Rat.natCast_add,eK]
 unfold slp;grind
theorem Zrk(hS:Smo rs)(hx:X u v=1)(hc:∀p,Cor rs hs p->Bx c p)(hv:sm V v)(hp:Win rs hs p)(hq:Win rs hs q)(h1:slp p u<=(g:Rat))(h2:(g:Rat)<=slp q u)(hl:LoA (ac rs hs u) (re rs hs v g) rs.length (some l))(hh:HiA (ac rs hs u) (re rs hs v g) rs.length (some h)):l.natAbs<=2*c*V+1/\h.natAbs<=2*c*V+1/\h-l<=2*c:=by
 obtain⟨x,wx,xu⟩:=mid hp hq h1 h2;have en:=ZuL hl hh;rcases hl with⟨z,_⟩|⟨l',z,l1,j1,hj1,p1,e1⟩
 ·cases z
 cases z;rcases hh with⟨z,_⟩|⟨h',z,h1',j2,hj2,p2,e2⟩
 ·cases z
 cases z;have fx:∀j<rs.length,0<=(ac rs hs u j:Rat)*slp x v+(re rs hs v g j:Rat):=fun j hj=>(ZlT hx xu _ j).mp (by
  rw[show slp x v-slp x v=0 by grind,ZgL hx]
  have:=wx j hj
  grind)
 have uv:=hx;have xv:X u v=1:=hx;have bd:∀o:Rat,(∀j<rs.length,ac rs hs u j≠0->0<=(ac rs hs u j:Rat)*o+(re rs hs v g j:Rat))->Bx c (ry u x (o-slp x v))/\ -((2*c*V:Nat):Rat)<=o/\o<=((2*c*V:Nat):Rat):=by
  intro o ho;have w:=box hS hc (Zri hx wx xu o ho);have s:=Zrj w hv;rw[ZgL hx,hx]at s;refine⟨w,?_⟩;grind
 have bx:=bd (slp x v) fun j hj _=>fx j hj;have cs:∀{a o r:Int},0<=a*o+r->0<=(a:Rat)*(o:Rat)+(r:Rat):=fun{a o r} z=>by
  rw[<-aJ,<-bU];exact dY.mpr z
 have lo1:∀j<rs.length,0<ac rs hs u j->0<=ac rs hs u j*l+re rs hs v g j:=fun j hj c=>(ZdS c).mp (l1 j hj c);have hi1:∀j<rs.length,ac rs hs u j<0->0<=ac rs hs u j*h+re rs hs v g j:=fun j hj c=>(ZgK c).mp (h1' j hj c);have fl:(l:Rat)<=slp x v->∀j<rs.length,ac rs hs u j≠0->0<=(ac rs hs u j:Rat)*(l:Rat)+(re rs hs v g j:Rat):=by
  intro z j hj ne;rcases(show 0<ac rs hs u j\/ac rs hs u j<0 by lia)with s|s
  ·exact cs (lo1 j hj s)
  ·have:=fx j hj
   have s':(0:Rat)<= -(ac rs hs u j:Rat):=by
    rw[<-bT];exact dY.mpr (by lia)
   have:=aA z s'
   grind
 have fh:slp x v<=(h:Rat)->∀j<rs.length,ac rs hs u j≠0->0<=(ac rs hs u j:Rat)*(h:Rat)+(re rs hs v g j:Rat):=by
  intro z j hj ne;rcases(show ac rs hs u j<0\/0<ac rs hs u j by lia)with s|s
  ·exact cs (hi1 j hj s)
  ·have:=fx j hj
   have s':(0:Rat)<=(ac rs hs u j:Rat):=dY.mpr (by lia)
   have:=aA z s'
   grind
 have l2:((l-1:Int):Rat)<slp x v:=by
  have n1:¬0<=ac rs hs u j1*(l-1)+re rs hs v g j1:=fun z=>by
   have:=(ZdS p1).mpr z
   lia
  have n2:((ac rs hs u j1*(l-1)+re rs hs v g j1:Int):Rat)<0:=by
   have:=c6.mpr (show ac rs hs u j1*(l-1)+re rs hs v g j1<0 by lia)
   simpa using this
  rw[bU,aJ]at n2
  have:=fx j1 hj1
  have pp:(0:Rat)<(ac rs hs u j1:Rat):=da.mpr p1;apply Classical.byContradiction;intro z
  have:=aA (show slp x v<=((l-1:Int):Rat)by grind) (show(0:Rat)<=(ac rs hs u j1:Rat)by grind)
  grind
 have h3:slp x v<((h+1:Int):Rat):=by
  have n1:¬0<=ac rs hs u j2*(h+1)+re rs hs v g j2:=fun z=>by
   have:=(ZgK p2).mpr z
   lia
  have n2:((ac rs hs u j2*(h+1)+re rs hs v g j2:Int):Rat)<0:=by
   have:=c6.mpr (show ac rs hs u j2*(h+1)+re rs hs v g j2<0 by lia)
   simpa using this
  rw[bU,aJ]at n2
  have:=fx j2 hj2
  have pp:(0:Rat)<= -(ac rs hs u j2:Rat):=by
   rw[<-bT];exact dY.mpr (by lia)
  apply Classical.byContradiction;intro z
  have:=aA (show((h+1:Int):Rat)<=slp x v by grind) pp
  grind
 have ib:∀z:Int,-((2*c*V:Nat):Rat)-1<(z:Rat)+1->(z:Rat)-1<((2*c*V:Nat):Rat)+1->z.natAbs<=2*c*V+1:=by
  intro z a b;generalize 2*c*V=K at *;have a':((-(K:Int)-1:Int):Rat)<((z+1:Int):Rat):=by
   simp only[eJ,bT,bU,ay];grind
  have b':((z-1:Int):Rat)<(((K:Int)+1:Int):Rat):=by
   simp only[eJ,bU,ay];grind
  have:=c6.mp a'
  have:=c6.mp b'
  lia
 simp only[eJ,bU]at l2 h3;have bl: -((2*c*V:Nat):Rat)<=(l:Rat):=by
  by_cases z:(l:Rat)<=slp x v
  ·exact(bd l (fl z)).2.1
  ·grind
 have bh:(h:Rat)<=((2*c*V:Nat):Rat):=by
  by_cases z:slp x v<=(h:Rat)
  ·exact(bd h (fh z)).2.2
  ·grind
 refine⟨ib l (by grind) (by grind),ib h (by grind) (by grind),?_⟩
 apply Classical.byContradiction;intro z;have a1:=(en l).mp ⟨by lia,by lia⟩
 have a2:=(en h).mp ⟨by lia,by lia⟩
 have c1:=(bd l fun j hj ne=>cs (a1 j hj ne)).1;have c2:=(bd h fun j hj ne=>cs (a2 j hj ne)).1;unfold Bx ry at c1 c2;simp only at c1 c2;have n1:∀w:Int,-(2*(c:Rat))<=((h:Rat)-l)*(w:Rat)->((h:Rat)-l)*(w:Rat)<=2*(c:Rat)->w=0:=by
  intro w q1 q2;have q1':((-(2*(c:Int)):Int):Rat)<=(((h-l)*w:Int):Rat):=by
   simp only[eJ,bT,aJ,ay];grind
  have q2':(((h-l)*w:Int):Rat)<=((2*(c:Int):Int):Rat):=by
   simp only[eJ,aJ,ay];grind
  have r1:=a7.mp q1';have r2:=a7.mp q2';apply Classical.byContradiction;intro wn;rcases(show 1<=w\/w<= -1 by lia)with s|s
  ·have:=cM s (show 0<=h-l by lia)
   lia
  ·have:=cM s (show 0<=h-l by lia)
   lia
 have u1:=n1 u.1 (by grind) (by grind)
 have u2:=n1 u.2 (by grind) (by grind)
 unfold X at hx;rw[u1,u2]at hx;lia
end
end DT
namespace DT
open L2 DL
open CV CN CU CS
open CR (rt Sz)
open CH (rts ZL)
open CD (pts ZO ZaV)
open Rb BD Ri
noncomputable def yl(a b:Pt):Prop:=a.2<b.2\/(a.2=b.2/\a.1<b.1)
noncomputable def kd(m:Pt):List Int:=[m.2,m.1]
def wP(B:Nat)(ms:List RP):List Pt:=ms.map fun p=>(stc B p.1,stc B p.2)
section
variable {M:Sto}{e:Nat}{ds:List Pt}{r:Pt}{a:Int}{c:Nat}
theorem ZfP(h:∀x∈xs,x.den ∣ Bt):ZdQ xs ∣ Bt:=by
 have:∀(xs:List Rat)(b:Nat),b ∣ Bt->(∀x∈xs,x.den ∣ Bt)->xs.foldl (fun b x=>gK b x.den) b ∣ Bt:=by
  intro xs
  induction xs with
  |nil=>intro b h _;exact h
  |cons x r ih=>intro b h hx;exact ih _ (Nat.lcm_dvd h (hx x (by simp))) fun y hy=>hx y (aG _ hy)
 exact this xs 1 (Nat.one_dvd _) h
theorem ZlU(hx:x.den ∣ B)(h1: -(c:Rat)<=x)(h2:x<=(c:Rat)):(stc B x).natAbs<=c*B:=by
 have e:=Zb7 hx;have b0:(0:Rat)<=(B:Rat):=gW;have m1:=bI h1 b0;have m2:=bI h2 b0;have q1:((-((c*B:Nat):Int):Int):Rat)<=(stc B x:Rat):=by
  rw[e,bT,ay,eK];grind
 have q2:(stc B x:Rat)<=(((c*B:Nat):Int):Rat):=by
  rw[e,ay,eK];grind
 have:=a7.mp q1
 have:=a7.mp q2
 generalize c*B=z at *;lia
theorem Zei(h1:p.1.den ∣ B)(h2:p.2.den ∣ B)(r:Pt):((pd (stc B p.1,stc B p.2) r:Int):Rat)=slp p r*(B:Rat):=by
 unfold pd slp;simp only[bU,aJ,Zb7 h1,Zb7 h2];grind
theorem ZlV(e:kd p=kd r):p=r:=by
 unfold kd at e;simp only[dC,and_true]at e;exact b5 e.2 e.1
theorem ZtL(ne:kd p≠kd r)(e:ST.le (kd p) (kd r)):yl p r:=by
 have e:HT.ZaX (kd r) (kd p)=false:=e;unfold kd at e ne;rw[HT.ZQ]at e;by_cases c:r.2=p.2
 ·rw[if_pos c,HT.ZQ]at e;by_cases d:r.1=p.1
  ·exact absurd (by rw[c,d]) ne
  ·rw[if_neg d]at e
   have:=of_decide_eq_false e
   exact .inr ⟨c.symm,by lia⟩
 ·rw[if_neg c]at e
  have:=of_decide_eq_false e
  exact .inl (by lia)
theorem Zrl{ρ:Ro}:∀ds:List Pt,Zc7 (Z5 (Zc (e2 dIx (Zf 0) (eC (.int 1))) (Zc (e2 dIx (Zf 0) (eC (.int 0))) aNil))) [] ρ M (prs ds) (ds.map kd)
 |[]=>.nil
 |a::r=>by
  have ih:=Zrl (ρ:=ρ) r;refine .cons ⟨?_,by simp[kd]⟩ ih
  have:wO (Z5 (Zc (e2 dIx (Zf 0) (eC (.int 1))) (Zc (e2 dIx (Zf 0) (eC (.int 0))) aNil)) [some (pr a.1 a.2)] M) (fun d M'=>d=tupD (kd a)/\M'=M) (fun _ _=>False):=by
   simp![Zm];rfl
  obtain⟨d,M',e,e1,e2⟩:=Zgt this;show(Z5 _ [some (pr a.1 a.2)] M)=_;rw[e,e1,e2]
theorem Zv6(h:C<=8192):(4*C+2)*Sc C<2^45:=by
 have h1:C*C<=8192*8192:=dz h h;have e1:Sc C=8*(C*C)+4*C:=by unfold Sc;grind
 have h2:Sc C<=536903680:=by lia
 have h3:=dz (show 4*C+2<=32770 by lia) h2
 lia
theorem ZnV(hx:X u v=1)(hw:∀o,l<=o/\o<=h↔Win rs hs (ip (Ri.qt u v g o)))(m:Pt):m∈ZnU u v g l h↔Win rs hs (ip m)/\pd m u=g:=by
 unfold ZnU;rw[aK];constructor
 ·rintro⟨c,hc,rfl⟩;have hc:=bv.mp hc;refine⟨(hw _).mp ⟨by lia,by lia⟩,?_⟩
  have:=Zjj hx g (l+(c:Int)) u
  rw[XX,hx]at this;show pd (Ri.qt u v g (l+(c:Int))) u=g;rw[this];lia
 ·rintro⟨w,e⟩;have q:=ZtI hx m;rw[e]at q;have b:=(hw (pd m v)).mpr (by rw[q];exact w)
  refine⟨(pd m v-l).toNat,bv.mpr (by lia),?_⟩
  rw[show l+((pd m v-l).toNat:Int)=pd m v by lia]
  exact q
theorem Zrm(hx:X u v=1):(ZnU u v g l h).Nodup:=by
 unfold ZnU;refine fL.mpr (iN.imp (fun{a b} ne z=>ne ?_) List.nodup_range);have z:pd (Ri.qt u v g (l+(a:Int))) v=pd (Ri.qt u v g (l+(b:Int))) v:=congrArg (fun m=>pd m v) z;rw[Zjj hx,Zjj hx,hx]at z;lia
theorem Zrn(h:M[n]?=some (.lst (prs rs)))(hS:Smo rs)(hb:Nr B rs)(hl:rs.length<=31)(h':M[m]?=some (.lst (rts hs)))(e:hs.length=rs.length)(hz:∀x∈hs,Sz k x)(hk:k<=900)(hc:∀p,Cor rs hs p->Bx c p)(hd:∀p,Cor rs hs p->p.1.den ∣ Bt/\p.2.den ∣ Bt)(b0:0<Bt)(b1:Bt<=8192)(hC:c*Bt<=8192)(hN:∀ds:List Pt,ds.Nodup->(∀m∈ds,Win rs hs (ip m))->ds.length<64)(q:∀ds o M',ds.Pairwise yl->(∀m,m∈ds↔Win rs hs (ip m))->Kp M M'->M.length<=o->M'[o]?=some (.lst (prs ds))->Q (.ref o) M')(hB:B<=400:=by first|decide|assumption):wO (F_dots [.ref n,.ref m] M) Q E:=by
 have hn:=ZA h;have hm:=ZA h';simp![F_dots,Zjl];refine Zrd h hS hb hl h' e hz hk fun ms o M1 bo sz ln K1 lo r1=>?_;have ho:=ZA r1;simp![ZiD];refine ZlO r1 (by lia) ?_
 have zf:∀x∈ZbR ms,Sz (4*k+61) x:=fun x hx=>by
  obtain⟨m,hm,e|e⟩:=Zbe.mp hx
  ·rw[e];exact(sz m hm).1
  ·rw[e];exact(sz m hm).2
 simp![ZgG (M:=M1++[SO.lst (rts (ZbR ms))]) (n:=M1.length) (xs:=ZbR ms) (k:=4*k+61) (by simp) (by rw[ZcT];lia) zf (by lia)]
 have dv:Dv (ZdQ (ZbR ms)) ms:=fun m hm=>⟨ZcS (Zbe.mpr ⟨m,hm,.inl rfl⟩),ZcS (Zbe.mpr ⟨m,hm,.inr rfl⟩)⟩;have ld:ZdQ (ZbR ms) ∣ Bt:=ZfP fun x hx=>by
  obtain⟨m,hm,e|e⟩:=Zbe.mp hx
  ·rw[e];exact(hd m ((bo.1 m).mp hm)).1
  ·rw[e];exact(hd m ((bo.1 m).mp hm)).2
 have l0:=Zeg (ZbR ms);have l1:=mh b0 ld;generalize ZdQ (ZbR ms)=L at *;have Lb:L<2^14:=by lia
 have K2:Kp M1 (M1++[SO.lst (rts (ZbR ms))]):=Kp.app;have r2:=K2.get r1;have K2:=K1.trans K2;generalize M1++[SO.lst (rts (ZbR ms))]=M2 at *;refine Znt (xs:=pts ms) (fun ρ=>∃x y,ρ=[x,y,some (.int (L:Int))]) (fun i=>pr ((wP L ms).getD i (0,0)).1 ((wP L ms).getD i (0,0)).2) r2 (by rw[ZO];lia) ⟨_,_,rfl⟩ ?_ ?_
 ·rintro i hi ρ L' ⟨x,y,rfl⟩;have hi':i<ms.length:=by rw[ZO]at hi;exact hi
  rw[ZaV];have eg:(wP L ms).getD i (0,0)=(stc L ms[i].1,stc L ms[i].2):=by simp[wP,hi']
  rw[eg];have z:=sz ms[i] (cj hi');generalize ms[i]=p at *;simp![rp,Zbd z.1 (by lia) Lb (by lia),Zbd z.2 (by lia) Lb (by lia)]
  exact⟨_,_,rfl⟩
 have ew:(aH (pts ms).length).map (fun i=>pr ((wP L ms).getD i (0,0)).1 ((wP L ms).getD i (0,0)).2)=prs (wP L ms):=by
  unfold prs;refine dQ (by simp[wP,ZO]) fun i h1 h2=>?_
  have:i<(wP L ms).length:=by simpa using h2
  simp[this]
 rw[ew];have r3:(M2++[SO.lst (prs (wP L ms))])[M2.length]?=some (.lst (prs (wP L ms))):=by simp
 have K3:Kp M (M2++[SO.lst (prs (wP L ms))]):=K2.trans Kp.app;have e3:(M2++[SO.lst (prs (wP L ms))]).length=M2.length+1:=by simp
 have k2:=K2.1;generalize hM3:M2++[SO.lst (prs (wP L ms))]=M3 at *;have eq0:eqF 12 (M3++[SO.lst []]) (.ref M2.length) (.ref M3.length)=some (decide (ms=[])):=by
  have a1:=(Kp.app (L:=[SO.lst []])).get r3;rw[Zp3 a1 (show(M3++[SO.lst []])[M3.length]?=some (.lst [])by simp)]
  cases ms with
  |nil=>rfl
  |cons a r=>rfl
 simp![eq0];have K4:Kp M (M3++[SO.lst []]):=K3.trans Kp.app;have r4:=(Kp.app (L:=[SO.lst []])).get r3;have k4:=K4.1;have e4:(M3++[SO.lst []]).length=M2.length+2:=by simp[e3]
 generalize M3++[SO.lst []]=M4 at *;refine brS (fun z=>?_) (fun hne=>?_)
 ·simp![Zm];refine q [] M4.length _ .nil (fun m=>⟨fun z=>(by cases z),fun w=>?_⟩) (K4.trans Kp.app) (by lia) (by simp[prs])
  obtain⟨p,_,cp,_⟩:=Zjk hS (u:=(1,0)) (by decide) w
  have:=(bo.1 p).mpr cp
  rw[z]at this;cases this
 ·have wne:wP L ms≠[]:=fun z=>hne (cr.mp z);have wl:(wP L ms).length<1000:=by simp[wP];lia
  have cB:c*L<=8192:=aT (jc c l1) hC;have wsm:∀p∈wP L ms,sm 8192 p:=fun p hp=>by
   obtain⟨m,hm,rfl⟩:=aK.mp hp;have bx:=hc m ((bo.1 m).mp hm);exact⟨aT (ZlU (dv m hm).1 bx.1.1 bx.1.2) cB,aT (ZlU (dv m hm).2 bx.2.1 bx.2.2) cB⟩
  simp![Zm];refine ZtK (C:=8192) (e:=14) r4 wne wl wsm (by decide) (by decide) (by decide) fun u v M5 hx su sv K5=>?_
  have r5:=K5.get r4;have K5:=K4.trans K5;have k5:=K5.1;have Vb:=Zv6 (C:=8192) (by decide)
  generalize (4*8192+2)*Sc 8192=V at *;simp![Zm];refine Znt (xs:=prs (wP L ms)) (fun ρ=>∃x,ρ=[x,some (.tup [pr u.1 u.2,pr v.1 v.2])]) (fun i=>.int (pd ((wP L ms).getD i (0,0)) u)) r5 (by simp[prs];lia) ⟨_,rfl⟩ ?_ ?_
  ·rintro i hi ρ L' ⟨x,rfl⟩;obtain⟨hi',ei⟩:=Zdr hi;rw[ei];have eg:(wP L ms).getD i (0,0)=(wP L ms)[i]:=by simp[hi']
   rw[eg];have hp':=wsm (wP L ms)[i] (cj hi');generalize (wP L ms)[i]=p at *;simp![Ze7 hp' (show 8192<2^14 by decide) (by lia) su Vb (by lia)]
   exact⟨_,rfl⟩
  rw[ZgJ];have r6:(M5++[SO.lst (nts (gv (wP L ms) u))])[M5.length]?=some (.lst (nts (gv (wP L ms) u))):=by simp
  have K6:Kp M (M5++[SO.lst (nts (gv (wP L ms) u))]):=K5.trans Kp.app;have e6:(M5++[SO.lst (nts (gv (wP L ms) u))]).length=M5.length+1:=by simp
  generalize M5++[SO.lst (nts (gv (wP L ms) u))]=M6 at *;have r7:(M6++[SO.lst []])[M5.length]?=some (.lst (nts (gv (wP L ms) u))):=(Kp.app (L:=[SO.lst []])).get r6;have f7:(M6++[SO.lst []])[M6.length]?=some (.lst (prs [])):=by simp[prs]
  have K7:Kp M (M6++[SO.lst []]):=K6.trans Kp.app;have k6:=K6.1;simp![r7,CD.ZM,(ZfM (r:=u) wne).1,(ZfN (r:=u) wne).1,CR.ZcD (j:=(L:Int)) (k:=14) (by lia) (by simpa using Lb) (by decide)]
  generalize M6++[SO.lst []]=M7 at *;obtain⟨_,⟨pm,hpm,epm⟩,lmx⟩:=ZfM (r:=u) wne;obtain⟨_,⟨pn,hpn,epn⟩,lmn⟩:=ZfN (r:=u) wne;have sp:∀p∈wP L ms,(pd p u).natAbs<2^60:=fun p hp=>by
   have s1:=ZaA (wsm p hp).1 su.1;have s2:=ZaA (wsm p hp).2 su.2;unfold pd;lia
  have s1:=sp pm hpm;have s2:=sp pn hpn;rw[<-epm]at s1;rw[<-epn]at s2;generalize mx (wP L ms) u=mX at *;generalize mn (wP L ms) u=mN at *;have Lp:(0:Int)<(L:Int):=by lia
  have d1:∀g:Int,g<=mX/(L:Int)↔g*(L:Int)<=mX:=fun g=>Int.le_ediv_iff_mul_le Lp;have d2:∀g:Int,-(-mN/(L:Int))<=g↔mN<=(L:Int)*g:=fun g=>by
   rw[ZdS Lp];lia
  have b1:(mX/(L:Int)).natAbs<2^60:=by
   have z1:=(d1 (2^60)).mp;have z2:=(d1 (-(2^60-1))).mpr;lia
  have b2:(-(-mN/(L:Int))).natAbs<2^60:=by
   have z1:=(d2 (2^60-1)).mpr;have z2:=(d2 (-(2^60))).mp;lia
  generalize mX/(L:Int)=gh at *;generalize -(-mN/(L:Int))=gl at *;have inr:∀m,Win rs hs (ip m)->gl<=pd m u/\pd m u<=gh:=by
   intro m w;have une:u≠(0,0):=fun z=>by rw[z]at hx;simp[X]at hx
   obtain⟨p1,p2,c1,c2,q1,q2⟩:=Zjk hS une w;have m1:=(bo.1 p1).mpr c1;have m2:=(bo.1 p2).mpr c2;have w1:=lmn _ (aK.mpr ⟨p1,m1,rfl⟩);have w2:=lmx _ (aK.mpr ⟨p2,m2,rfl⟩);have t1:=Zei (dv p1 m1).1 (dv p1 m1).2 u;have t2:=Zei (dv p2 m2).1 (dv p2 m2).2 u;have L0:(0:Rat)<=(L:Rat):=gW;have y1:=bI q1 L0;have y2:=bI q2 L0;rw[<-t1,<-ay,<-aJ]at y1;rw[<-t2,<-ay,<-aJ]at y2;have y1:=a7.mp y1;have y2:=a7.mp y2;refine⟨(d2 _).mpr ?_,(d1 _).mpr ?_⟩
   ·rw[Int.mul_comm];exact mJ w1 y1
   ·exact mJ y2 w2
  have rowp:∀g,gl<=g->g<=gh->∃p q,Win rs hs p/\Win rs hs q/\slp p u<=(g:Rat)/\(g:Rat)<=slp q u:=by
   intro g g1 g2;obtain⟨p1,m1,e1⟩:=aK.mp hpn;obtain⟨p2,m2,e2⟩:=aK.mp hpm;have t1:=Zei (dv p1 m1).1 (dv p1 m1).2 u;have t2:=Zei (dv p2 m2).1 (dv p2 m2).2 u;rw[e1,<-epn]at t1;rw[e2,<-epm]at t2;have y1:=a7.mpr ((d2 g).mp g1);have y2:=a7.mpr ((d1 g).mp g2);rw[t1,aJ,ay,Rat.mul_comm (L:Rat)]at y1;rw[t2,aJ,ay]at y2;have L0:(0:Rat)<(L:Rat):=fF.mpr l0;exact⟨p1,p2,((bo.1 p1).mp m1).1,((bo.1 p2).mp m2).1,fV y1 L0,fV y2 L0⟩
  have une:u≠(0,0):=fun z=>by rw[z]at hx;simp[X]at hx
  have bt:=both hS une;refine⟨by lia,?_⟩
  refine Zb2 (I:=fun i ρ M'=>Kp M M'/\∃F x8,ρ=[some (.ref n),some (.ref m),some (.ref o),some (.int (L:Int)),some (.ref M2.length),some (.tup [pr u.1 u.2,pr v.1 v.2]),some (.ref M5.length),some (.ref M6.length),x8]/\M'[M6.length]?=some (.lst (prs F))/\F.Nodup/\∀m,m∈F↔Win rs hs (ip m)/\pd m u<gl+(i:Int)) ⟨K7,[],_,rfl,f7,.nil,fun m=>⟨fun z=>(by cases z),fun z=>by have:=(inr m z.1).1;have:=z.2;lia⟩⟩ ?_ ?_
  ·rintro i ρ M8 hi ⟨K8,F,x8,rfl,f8,nd,mem⟩;have hg:gl<=gl+(i:Int)/\gl+(i:Int)<=gh:=by lia
   obtain⟨p,q',wp,wq,q1,q2⟩:=rowp (gl+(i:Int)) hg.1 hg.2;have mem':∀m,m∈F↔Win rs hs (ip m)/\pd m u<gl+(i:Int):=mem;have gb:(gl+(i:Int)).natAbs<2^60:=by lia
   have nx:gl+((i+1:Nat):Int)=gl+(i:Int)+1:=by lia
   simp only[nx];generalize gl+(i:Int)=g at *;simp![Zdq,f8];refine ZkQ (f:=60) (K8.get h) (K8.get h') e hS.ne (fun x hx=>by have:=hb x hx;lia) (by lia) hz hk su sv (by lia) (by lia) gb bt.1 bt.2 (fun l h9 a1 a2=>?_) fun l h9 hw=>?_
   ·have rb:=Zrk hS hx hc sv wp wq q1 q2 a1 a2;have c1:c<=8192:=by
     have:=jc c b0
     lia
    have:2*c*V<=2*8192*V:=cf _ (by lia)
    lia
   ·have hw:∀o,l<=o/\o<=h9↔Win rs hs (ip (Ri.qt u v g o)):=fun o=>(hw o).trans (ZnR hx wp wq q1 q2 o).symm;have rm:=ZnV hx hw;have rn:=Zrm (g:=g) (l:=l) (h:=h9) hx;generalize ZnU u v g l h9=N at *;have k8:=K8.1;have l8:=ZA f8;have f9:=(Kp.app (L:=[SO.lst (prs N)])).get f8;have n9:(M8++[SO.lst (prs N)])[M8.length]?=some (.lst (prs N)):=by simp
    have nd2:(F++N).Nodup:=jO.mpr ⟨nd,rn,fun a ha b hb z=>by
     subst z
     have:=((mem' a).mp ha).2
     have:=((rm a).mp hb).2
     lia⟩
    have ln2:=hN (F++N) nd2 fun m hm=>by
     rcases aY.mp hm with z|z
     ·exact((mem' m).mp z).1
     ·exact((rm m).mp z).1
    rw[a6]at ln2;simp![f9,n9];refine⟨by lia,(K8.trans Kp.app).set (by lia),F++N,_,rfl,by rw[aN (by simp;lia)],nd2,fun m=>?_⟩
    rw[aY,mem',rm];constructor
    ·rintro(⟨w,z⟩|⟨w,z⟩)
     ·exact⟨w,by lia⟩
     ·exact⟨w,by lia⟩
    ·rintro⟨w,z⟩;by_cases y:pd m u<g
     ·exact .inl ⟨w,y⟩
     ·exact .inr ⟨w,by lia⟩
  ·rintro ρ M8 ⟨K8,F,x8,rfl,f8,nd,mem⟩;have mem':∀m,m∈F↔Win rs hs (ip m):=fun m=>(mem m).trans ⟨fun z=>z.1,fun w=>⟨w,by have:=inr m w;lia⟩⟩
   have ln:=hN F nd fun m hm=>(mem' m).mp hm;simp![ZlN];obtain⟨ds,pm',pw,es⟩:=ZgI (f:=kd) (g:=fun(m:Pt)=>pr m.1 m.2) (0,0) (fun a _ b _ z=>ZlV z) nd;have kn:(F.map kd).Nodup:=fL.mpr (iN.imp (fun ne e=>ne (ZlV e)) nd);rw[Zd7 f8 ⟨by rw[ZI];exact ln,kn,Zrl F⟩,show Zkq (F.map kd) (prs F)=prs ds from es]
   refine(?_:Q _ _);have k8:=K8.1;exact q ds M8.length _ (pw.imp fun z=>ZtL z.1 z.2) (fun m=>(pm'.mem_iff).trans (mem' m)) (K8.trans Kp.app) k8 (by simp)
end
end DT
namespace DU
open L2 DL
open CN (cq)
open CS (slp)
open CT (rl0)
open DL
open TW Rb Ri
theorem ZlW(h:X a b=1):X (ZcR a b p) (ZcR a b q)=X p q:=by
 unfold X ZcR at *;simp only;grind
def chk:Nat->List Pt->Bool
 |0,_=>false
 |f+1,rs=>
  if rs.length=3 then decide (X (cy rs 0) (cy rs 1)=1)&&decide (rs=[cy rs 0,cy rs 1,ZcR (cy rs 0) (cy rs 1) (-1,-1)])
  else if rs.length=4 then decide (X (cy rs 0) (cy rs 1)=1)&&decide (rs=[cy rs 0,cy rs 1,ZcR (cy rs 0) (cy rs 1) (-1,X (cy rs 0) (cy rs 2)),ZcR (cy rs 0) (cy rs 1) (0,-1)])
  else(aH rs.length).any fun k=>decide (k<(rs.eraseIdx (k+1)).length)&&(decide (rs=ins (rs.eraseIdx (k+1)) k ((cy (rs.eraseIdx (k+1)) k).1+(cy (rs.eraseIdx (k+1)) (k+1)).1,(cy (rs.eraseIdx (k+1)) k).2+(cy (rs.eraseIdx (k+1)) (k+1)).2))&&chk f (rs.eraseIdx (k+1)))
theorem Zjn:∀(f:Nat){rs:List Pt},chk f rs=true->Smo rs
 |0,_,h=>by cases h
 |f+1,rs,h=>by
  unfold chk at h
  split at h
  ·rw[aS]at h;have h1:=of_decide_eq_true h.1;have h2:=of_decide_eq_true h.2
   have:=CC.Ztn.map (f:=ZcR (cy rs 0) (cy rs 1)) fun p q=>ZlW h1
   rw[h2];have e:=ZiY (a:=cy rs 0) (b:=cy rs 1);simp only[aL,fm,e.1,e.2]at this;exact this
  ·split at h
   ·rw[aS]at h;have h1:=of_decide_eq_true h.1;have h2:=of_decide_eq_true h.2
    have:=(CC.ZuD (X (cy rs 0) (cy rs 2))).map (f:=ZcR (cy rs 0) (cy rs 1)) fun p q=>ZlW h1
    rw[h2];have e:=ZiY (a:=cy rs 0) (b:=cy rs 1);simp only[aL,fm,e.1,e.2]at this;exact this
   ·obtain⟨k,_,hk⟩:=iI.mp h;rw[aS,aS]at hk;have s:=(Zjn f hk.2.2).ins (of_decide_eq_true hk.1);rw[<-of_decide_eq_true hk.2.1]at s;exact s
noncomputable def crn(r s:Pt):Pt:=(r.2-s.2,s.1-r.1)
def dua(R:List Pt)(L:List Int):List Pt:=(aH R.length).flatMap fun i=>(aH (L.getD i 0+2).toNat).map fun(s:Nat)=>((crn (cy R ((i:Int)-1)) (cy R i)).1+s*(cy R i).2,(crn (cy R ((i:Int)-1)) (cy R i)).2-s*(cy R i).1)
def bse(L:List Int):List Pt:=rl0 (1,0) (0,1) (L.drop 1++L.take 1)
def gd(n:Nat)(L:List Int):Bool:=
 let R:=bse L
 let O:=dua R L
 decide (O.length+n=12)&&((aH O.length).any fun k=>chk 10 (O.drop k++O.take k))&&(O.all fun d=>R.all fun r=>decide (-1<=pd d r))
  && ((aH O.length).all fun i=>R.any fun r=>decide (pd (cy O (i:Nat)) r= -1)&&decide (pd (cy O ((i:Nat)+1)) r= -1))
  && ((aH R.length).all fun i=>O.contains (crn (cy R (i:Nat)) (cy R ((i:Nat)+1))))
  && (O.all fun d=>decide (d.1.natAbs<=8/\d.2.natAbs<=8))&&RT.ge2 (ZF O)
theorem ZtM:([3,4,5,6,7,8,9].all fun n=>(RT.al n).all fun L=>gd n L)=true:=by decide +kernel
section
variable {rs O:List Pt}
theorem ZgM:∀(k:Nat)(i:Int),ZdO rs i k=(aH k).map fun(j:Nat)=>T rs (i+1+j)
 |0,i=>rfl
 |k+1,i=>by
  rw[ZdO,ZgM k,ik,aL,cT];congr 1
  ·simp
  ·refine b6 fun j _=>?_;simp only[mm];congr 1;lia
theorem ZtN(i:Int):T rs (i+rs.length)=T rs i:=by
 unfold T;rw[show i+(rs.length:Int)-1=i-1+rs.length by lia,show i+(rs.length:Int)+1=i+1+rs.length by lia,ZS,ZS]
theorem ZnW(h:0<rs.length):ZdO rs 0 rs.length=(ZF rs).drop 1++(ZF rs).take 1:=by
 rw[ZgM];refine dQ (by simp[ZF];lia) fun i h1 h2=>?_
 simp at h1;by_cases c:i+1<rs.length
 ·rw[List.getElem_append_left (by simp[ZF];lia)]
  simp[ZF];congr 1;lia
 ·rw[List.getElem_append_right (by simp[ZF];lia)]
  have:i+1=rs.length:=by lia
  simp[ZF];rw[show(1:Int)+(i:Int)=0+(rs.length:Int)by lia,ZtN]
  congr 1;lia
structure Opp(rs O:List Pt):Prop where
 sm:Smo O
 ln:O.length+rs.length=12
 ge:∀d∈O,∀r∈rs,-1<=pd d r
 ed:∀i:Nat,i<O.length->∃r∈rs,pd (cy O i) r= -1/\pd (cy O (i+1)) r= -1
 co:∀i:Nat,i<rs.length->crn (cy rs i) (cy rs (i+1))∈O
 bd:∀c:Nat,Nr c rs->∀d∈O,d.1.natAbs<=16*c/\d.2.natAbs<=16*c
 tg:∀t∈ZF O,-2<=t
theorem ZfQ(h:X a b=1):pd (Ri.qt a b d.1 d.2) (ZcR a b r)=pd d r:=by
 unfold pd Ri.qt ZcR X at *;simp only;grind
theorem Zv7(h:X a b=1):X (Ri.qt a b d.1 d.2) (Ri.qt a b e.1 e.2)=X d e:=by
 unfold Ri.qt X at *;simp only;grind
theorem ZkR:crn (ZcR a b r) (ZcR a b s)=Ri.qt a b (crn r s).1 (crn r s).2:=by
 unfold crn ZcR Ri.qt;apply b5<;>simp only<;>grind
theorem Zro(h:Smo rs)(l9:rs.length<=9)(hg:RT.ge2 (ZF rs)=true):∃O,Opp rs O:=by
 have m:=RT.cls rs.length rfl l9 h hg;have l3:=h.len;have g:gd rs.length (ZF rs)=true:=by
  have:=bD.mp ZtM rs.length (by
   have:rs.length=3\/rs.length=4\/rs.length=5\/rs.length=6\/rs.length=7\/rs.length=8\/rs.length=9:=by lia
   simp only[ar,cJ,or_false];exact this)
  exact bD.mp this _ m
 have led:=(ZnB (f:=id) (fun _ _ _=>rfl) h (.inl (by simpa using h.one 0))).2.2
 rw[ZnW (by lia),List.map_id]at led
 have ab:X (cy rs 0) (cy rs 1)=1:=by simpa using h.one 0
 simp only[id]at led;obtain⟨a,ha⟩:∃a,a=cy rs 0:=⟨_,rfl⟩;obtain⟨b,hb⟩:∃b,b=cy rs 1:=⟨_,rfl⟩;rw[<-ha,<-hb]at led ab;have eR:(bse (ZF rs)).map (ZcR a b)=rs:=led;unfold gd at g;simp only[aS]at g;obtain⟨⟨⟨⟨⟨⟨g1,g2⟩,g3⟩,g4⟩,g5⟩,g6⟩,g7⟩:=g;generalize bse (ZF rs)=R at *;generalize dua R (ZF rs)=D at *;have lR:R.length=rs.length:=by rw[<-eR,aB]
 have neR:R≠[]:=fun z=>by rw[z]at lR;simp at lR;lia
 have g1:=of_decide_eq_true g1;have neD:D≠[]:=fun z=>by rw[z]at g1;simp at g1;lia
 have sD:Smo D:=by
  obtain⟨k,hk,c⟩:=iI.mp g2;have hk:=bv.mp hk;have s:=Zjn _ c;have s2:=s.rot (k:=D.length-k) (by simp)
  rw[i3 (by simp),iZ (by simp)]at s2
  have e1:(D.drop k).drop (D.length-k)=[]:=bW (by simp)
  have e2:(D.drop k).take (D.length-k)=D.drop k:=by rw[bf (by simp)]
  rw[e1,e2,bS,dh]at s2;exact s2
 have fX:∀p q:Pt,X (Ri.qt a b p.1 p.2) (Ri.qt a b q.1 q.2)=X p q:=fun p q=>Zv7 ab;have cD:∀i,cy (D.map fun d=>Ri.qt a b d.1 d.2) i=Ri.qt a b (cy D i).1 (cy D i).2:=fun i=>ZdN neD;have cR:∀i,cy rs i=ZcR a b (cy R i):=fun i=>by rw[<-eR];exact ZdN neR
 refine⟨D.map fun d=>Ri.qt a b d.1 d.2,sD.map fX,by rw[aB];exact g1,?_,?_,?_,?_,?_⟩
 ·intro d hd r hr;obtain⟨d',hd',rfl⟩:=aK.mp hd;rw[<-eR]at hr;obtain⟨r',hr',rfl⟩:=aK.mp hr;rw[ZfQ ab];exact of_decide_eq_true (bD.mp (bD.mp g3 d' hd') r' hr')
 ·intro i hi;rw[aB]at hi;obtain⟨r,hr,c⟩:=iI.mp (bD.mp g4 i (bv.mpr hi));rw[aS]at c;refine⟨ZcR a b r,by rw[<-eR];exact aK.mpr ⟨r,hr,rfl⟩,?_,?_⟩
  ·rw[cD,ZfQ ab];exact of_decide_eq_true c.1
  ·rw[cD,ZfQ ab];exact of_decide_eq_true c.2
 ·intro i hi;rw[cR,cR,ZkR]
  have:=bD.mp g5 i (bv.mpr (by lia))
  exact aK.mpr ⟨_,List.contains_iff_mem.mp this,rfl⟩
 ·intro c hc d hd;obtain⟨d',hd',rfl⟩:=aK.mp hd;have b8:=of_decide_eq_true (bD.mp g6 d' hd');have h0:=hc (cy rs 0) (Z0 h.ne);have h1:=hc (cy rs 1) (Z0 h.ne);rw[<-ha]at h0;rw[<-hb]at h1;have m1:=ZaA b8.1 (show b.2.natAbs<=c by lia)
  have m2:=ZaA b8.2 (show a.2.natAbs<=c by lia)
  have m3:=ZaA b8.2 (show a.1.natAbs<=c by lia)
  have m4:=ZaA b8.1 (show b.1.natAbs<=c by lia)
  unfold Ri.qt;simp only;lia
 ·intro t ht;have g7:=RT.Zbc.mp g7 t;refine g7 ?_
  have:ZF (D.map fun d=>Ri.qt a b d.1 d.2)=ZF D:=by
   unfold ZF T;rw[aB];refine b6 fun i _=>?_;rw[cD,cD,fX]
  rw[this]at ht;exact ht
noncomputable def h1(rs:List Pt):List Rat:=bw rs.length 1
theorem ZkS{i:Nat}(hi:i<rs.length):cq (h1 rs) i=1:=by
 rw[CN.ZiT (by simp[h1];exact hi)]
 simp[h1]
theorem ZlX:Win rs (h1 rs) p↔∀i:Nat,i<rs.length->(-1:Rat)<=slp p (cy rs i):=by
 constructor
 ·intro w i hi
  have:=w i hi
  rw[ZkS hi]at this;exact this
 ·intro w i hi;rw[ZkS hi];exact w i hi
theorem Zct(h:p∈rs):∃i:Nat,i<rs.length/\cy rs i=p:=by
 obtain⟨i,hi,e⟩:=List.mem_iff_getElem.mp h;exact⟨i,hi,by rw[Zb4 hi];exact e⟩
theorem Zjo(h:Smo rs):Win rs (h1 rs) (ip m)↔∀r∈rs,-1<=pd m r:=by
 rw[ZlX];have cst:∀z:Int,(-1:Rat)<=(z:Rat) ↔ -1<=z:=fun z=>by
  rw[show(-1:Rat)=((-1:Int):Rat)by rfl]
  exact a7
 constructor
 ·intro w r hr;obtain⟨i,hi,e⟩:=Zct hr
  have:=w i hi
  rw[ZdR,cst,e]at this;exact this
 ·intro w i hi;rw[ZdR,cst];exact w _ (Z0 h.ne)
theorem Opp.dots(o:Opp rs O)(h:Smo rs):Win rs (h1 rs) (ip m)↔m=(0,0)\/m∈O:=by
 rw[Zjo h];constructor
 ·intro w;by_cases z:m=(0,0)
  ·exact .inl z
  ·obtain⟨i,hi,a,b⟩:=Zji o.sm z;obtain⟨r,hr,e1,e2⟩:=o.ed i hi;have one:=o.sm.one i;have l:=w r hr;have id:pd m r=X m (cy O (i+1))*pd (cy O i) r+X (cy O i) m*pd (cy O (i+1)) r:=by
    unfold pd X at *;grind
   rw[e1,e2]at id;have a0:X (cy O i) m=0:=by lia
   have b0:X m (cy O (i+1))=1:=by lia
   have:m=cy O i:=by
    unfold X at *;exact b5 (by grind) (by grind)
   rw[this];exact .inr (Z0 o.sm.ne)
 ·rintro(rfl|z)
  ·intro r _;simp[pd]
  ·exact o.ge m z
theorem Opp.cor(o:Opp rs O)(h:Smo rs)(hp:Cor rs (h1 rs) p):∃d∈O,p=ip d:=by
 obtain⟨w,i,j,oi,oj,ne⟩:=hp;obtain⟨hi,ei⟩:=oi;obtain⟨hj,ej⟩:=oj;rw[ZkS hi]at ei;rw[ZkS hj]at ej;have w:=ZlX.mp w;obtain⟨N,v,n0,v1,v2⟩:∃(N:Nat) (v:Pt),0<N/\(v.1:Rat)=p.1*(N:Rat)/\(v.2:Rat)=p.2*(N:Rat):=by
  refine⟨p.1.den*p.2.den,(p.1.num*(p.2.den:Int),p.2.num*(p.1.den:Int)),Nat.mul_pos (bZ p.1.den_nz) (bZ p.2.den_nz),?_,?_⟩
  ·simp only[aJ,eK,ay,BD.ZcF p.1];grind
  ·simp only[aJ,eK,ay,BD.ZcF p.2];grind
 have sN:∀r:Pt,((pd v r:Int):Rat)=slp p r*(N:Rat):=fun r=>by
  unfold pd slp;rw[bU,aJ,aJ,v1,v2];grind
 have ge:∀r∈rs,-(N:Int)<=pd v r:=fun r hr=>by
  obtain⟨k,hk,e⟩:=Zct hr
  have:=bI (w k hk) (show(0:Rat)<=(N:Rat)from gW)
  rw[<-sN,e]at this;refine a7.mp ?_;rw[bT,ay];grind
 have eq:∀r:Pt,slp p r= -1->pd v r= -(N:Int):=fun r hr=>by
  have:=sN r
  rw[hr]at this;refine Rat.intCast_inj.mp ?_;rw[this,bT,ay];grind
 have qi:=eq _ ei;have qj:=eq _ ej;have vn:v≠(0,0):=fun z=>by rw[z]at qi;simp[pd]at qi;lia
 obtain⟨k,hk,a,b⟩:=Zji o.sm vn;obtain⟨r,hr,e1,e2⟩:=o.ed k hk;have one:=o.sm.one k;have id:∀s,pd v s=X v (cy O (k+1))*pd (cy O k) s+X (cy O k) v*pd (cy O (k+1)) s:=fun s=>by
  unfold pd X at *;grind
 have l:=ge r hr;rw[id,e1,e2]at l;have m1:=Z0 (i:=(k:Int)) o.sm.ne;have m2:=Z0 (i:=(k:Int)+1) o.sm.ne;have tight:∀s∈rs,pd v s= -(N:Int)->X v (cy O (k+1))+X (cy O k) v=N/\pd (cy O k) s= -1/\(0<X (cy O k) v->pd (cy O (k+1)) s= -1):=by
  intro s hs es;have g1:=o.ge _ m1 s hs;have g2:=o.ge _ m2 s hs;rw[id]at es;generalize pd (cy O k) s=x at *;generalize pd (cy O (k+1)) s=y at *;generalize X v (cy O (k+1))=c at *;generalize X (cy O k) v=d at *;have p1:=aU (show 0<=c by lia) (show 0<=x+1 by lia)
  have p2:=aU (show 0<=d by lia) (show 0<=y+1 by lia)
  have s1:c*(x+1)+d*(y+1)=c+d-N:=by grind
  refine⟨by lia,?_,fun dp=>?_⟩
  ·have z:c*(x+1)=0:=by omega
   rcases fC.mp z with z|z<;>lia
  ·have z:d*(y+1)=0:=by omega
   rcases fC.mp z with z|z<;>lia
 have ti:=tight _ (Z0 h.ne) qi;have tj:=tight _ (Z0 h.ne) qj;have b0:X (cy O k) v=0:=by
  apply Classical.byContradiction;intro z;have y1:=ti.2.2 (by lia)
  have y2:=tj.2.2 (by lia)
  have y3:=ti.2.1;have y4:=tj.2.1;apply ne;unfold pd X at *;grind
 have ve:v=((N:Int)*(cy O k).1,(N:Int)*(cy O k).2):=by
  have c0:X v (cy O (k+1))=N:=by lia
  unfold X at *;exact b5 (by grind) (by grind)
 refine⟨cy O k,m1,?_⟩;have N0:(N:Rat)≠0:=by
  have:(0:Rat)<(N:Rat):=fF.mpr n0
  grind
 rw[ve]at v1 v2;simp only[aJ,ay]at v1 v2;unfold ip;refine b5 ?_ ?_
 ·simp only
  have:(p.1-((cy O k).1:Rat))*(N:Rat)=0:=by grind
  have:=(Rat.mul_eq_zero.mp this).resolve_right N0
  grind
 ·simp only
  have:(p.2-((cy O k).2:Rat))*(N:Rat)=0:=by grind
  have:=(Rat.mul_eq_zero.mp this).resolve_right N0
  grind
end
end DU
namespace OP
open L2 DL
open CC (F_crossed F_law_cross F_law_tags F_law_turn)
open CE (F_numbers)
open DT (F_dots)
def Zb9:Sv:=(sIf (tv (e2 dLt (Zj (ZaS gg) (Zc (Zj F_numbers (Zc (Zf 0) aNil)) aNil)) (ZbM (eC (.int 2))))) (ZcB (PySem.Str.ofString "NoOne") (Zc (eC (.str (PySem.Str.ofString "a one has no number below -2"))) aNil)) sNil)
def F_ask_one:W3:=fnF Zb9 1 0
def Zbh:Sv:=(sIf (ZbL (tv (e2 dGt (Zj F_crossed (Zc (Zf 0) (Zc (Zf 3) aNil))) (eC (.int 0)))) (Zel (tv (e2 dIs (Zf 2) (eC .non))) (tv (e2 dGt (Zj F_crossed (Zc (Zf 3) (Zc (Zf 2) aNil))) (eC (.int 0)))))) (ZJ (gNm 2) (Zf 3)) sNil)
def Zcu:Sv:=(ZB (ZJ (gNm 2) (eC .non)) (ZB (Zj0 (gNm 3) (Zf 1) Zbh) (Z9 (Zf 2))))
def F_next_dot:W3:=fnF Zcu 2 2
def ZX:Sv:=(Za4 (Zgi mApp (Zf 2) (Zc (Zj F_next_dot (Zc (e2 dIx (Zf 2) (ZbM (eC (.int 1)))) (Zc (Zf 1) aNil))) aNil)))
def Zap:Sv:=(ZB (Za4 (Zj F_ask_one (Zc (Zf 0) aNil))) (ZB (ZJ (gNm 1) (Zai (iSq (Zj F_dots (Zc (Zf 0) (Zc (Zai (iSq (Zf 0)) 1 [] (gNm 0) (fun _ M=>.ok true M) (Z5 (Zc (eC (.int 1)) (Zc (eC (.int 1)) aNil)))) aNil)))) 1 [] (gNm 0) (tv (e2 dNe (Zf 0) (Z5 (Zc (eC (.int 0)) (Zc (eC (.int 0)) aNil))))) (Zf 0))) (ZB (ZJ (gNm 2) (Zdt (Zc (e2 dIx (Zf 1) (eC (.int 0))) aNil))) (ZB (sWh (tv (e2 dLt (Zj bLen (Zc (Zf 2) aNil)) (Zj bLen (Zc (Zf 1) aNil)))) ZX) (Z9 (Zf 2))))))
def F_opposite_one:W3:=fnF Zap 1 2
def Zbi:Sv:=(ZB (ZJ (gNm 4) (e2 dMod (Zf 0) (Zj bLen (Zc (Zf 2) aNil)))) (ZB (ZJ (gNm 0) (e2 dDiv (Zf 0) (eC (.int 9)))) (ZB (ZJ (gNm 5) (e2 dIx (Zf 2) (Zf 4))) (ZB (ZJ (gNm 6) (e2 dIx (Zf 2) (e2 dMod (e2 dAdd (Zf 4) (eC (.int 1))) (Zj bLen (Zc (Zf 2) aNil))))) (ZB (ZJ (gNm 7) (Z5 (Zc (e2 dAdd (e2 dIx (Zf 5) (eC (.int 0))) (e2 dIx (Zf 6) (eC (.int 0)))) (Zc (e2 dAdd (e2 dIx (Zf 5) (eC (.int 1))) (e2 dIx (Zf 6) (eC (.int 1)))) aNil)))) (ZB (ZJ (gNm 8) (e2 dAdd (e2 dAdd (eSl (Zf 2) oNo (oSo (e2 dAdd (Zf 4) (eC (.int 1))))) (Zdt (Zc (Zf 7) aNil))) (eSl (Zf 2) (oSo (e2 dAdd (Zf 4) (eC (.int 1)))) oNo))) (sIf (ZbL (tv (e2 dLt (Zj bLen (Zc (Zf 2) aNil)) (Zf 1))) (tv (e2 dGe (Zj (ZaS gg) (Zc (Zj F_law_tags (Zc (Zf 8) aNil)) aNil)) (ZbM (eC (.int 2)))))) (ZJ (gNm 2) (Zf 8)) sNil)))))))
def Zcv:Sv:=(ZB (ZJ (gNm 1) (e2 dAdd (eC (.int 3)) (e2 dMod (Zf 0) (eC (.int 7))))) (ZB (ZJ (gNm 2) (Zdt (Zc (Z5 (Zc (eC (.int 1)) (Zc (eC (.int 0)) aNil))) (Zc (Z5 (Zc (eC (.int 0)) (Zc (eC (.int 1)) aNil))) (Zc (Z5 (Zc (ZbM (eC (.int 1))) (Zc (ZbM (eC (.int 1))) aNil))) aNil))))) (ZB (sIf (tv (e2 dGt (e2 dMod (e2 dDiv (Zf 0) (eC (.int 7))) (eC (.int 4))) (eC (.int 0)))) (ZJ (gNm 2) (Zdt (Zc (Z5 (Zc (eC (.int 1)) (Zc (eC (.int 0)) aNil))) (Zc (Z5 (Zc (eC (.int 0)) (Zc (eC (.int 1)) aNil))) (Zc (Z5 (Zc (ZbM (eC (.int 1))) (Zc (e2 dSub (e2 dMod (e2 dDiv (Zf 0) (eC (.int 7))) (eC (.int 4))) (eC (.int 1))) aNil))) (Zc (Z5 (Zc (eC (.int 0)) (Zc (ZbM (eC (.int 1))) aNil))) aNil)))))) sNil) (ZB (ZJ (gNm 0) (e2 dDiv (Zf 0) (eC (.int 28)))) (ZB (ZbH (gNm 3) (Zc (eC (.int 24)) aNil) Zbi) (ZB (ZJ (gNm 2) (Zj F_law_turn (Zc (Zf 2) (Zc (Zf 0) aNil)))) (ZB (ZJ (gNm 4) (e2 dMod (e2 dDiv (Zf 0) (e2 dPow (eC (.int 10)) (eC (.int 12)))) (Zj bLen (Zc (Zf 2) aNil)))) (Z9 (e2 dAdd (eSl (Zf 2) (oSo (Zf 4)) oNo) (eSl (Zf 2) oNo (oSo (Zf 4))))))))))))
def F_law_ones:W3:=fnF Zcv 1 8
def Zbj:Sv:=(ZB (ZJ (gTp (gCs (gNm 4) (gCs (gNm 5) gNl))) (e2 dIx (Zf 0) (Zf 3))) (ZB (ZJ (gTp (gCs (gNm 6) (gCs (gNm 7) gNl))) (e2 dIx (Zf 0) (e2 dMod (e2 dAdd (Zf 3) (eC (.int 1))) (Zf 1)))) (Za4 (Zgi mApp (Zf 2) (Zc (Z5 (Zc (e2 dSub (Zf 5) (Zf 7)) (Zc (e2 dSub (Zf 6) (Zf 4)) aNil))) aNil)))))
def Zbk:Sv:=(ZB (ZJ (gNm 11) (Zj (ZaS gg) (Zc (Zai (iSq (Zf 0)) 1 [4,5] (gNm 0) (fun _ M=>.ok true M) (e2 dAdd (e2 dMul (Zf 1) (e2 dIx (Zf 0) (eC (.int 0)))) (e2 dMul (Zf 2) (e2 dIx (Zf 0) (eC (.int 1)))))) aNil))) (sIf (ZbL (tv (e2 dGe (Zf 11) (ZbM (eC (.int 1))))) (tv (e2 dNe (Z5 (Zc (Zf 4) (Zc (Zf 5) aNil))) (Z5 (Zc (eC (.int 0)) (Zc (eC (.int 0)) aNil)))))) (Za4 (Zgi mApp (Zf 10) (Zc (Z5 (Zc (Zf 4) (Zc (Zf 5) aNil))) aNil))) sNil))
def Zbl:Sv:=(Zc0 (gNm 4) (Zc (Zf 8) (Zc (e2 dAdd (Zf 9) (eC (.int 1))) aNil)) Zbk)
def Zcw:Sv:=(ZB (ZJ (gNm 1) (Zj bLen (Zc (Zf 0) aNil))) (ZB (ZJ (gNm 2) (Zdt aNil)) (ZB (ZbH (gNm 3) (Zc (Zf 1) aNil) Zbj) (ZB (ZJ (gNm 8) (Zj (ZaS gg) (Zc (Zai (iSq (Zf 2)) 1 [] (gNm 0) (fun _ M=>.ok true M) (e2 dIx (Zf 0) (eC (.int 0)))) aNil))) (ZB (ZJ (gNm 9) (Zj (ZaS jj) (Zc (Zai (iSq (Zf 2)) 1 [] (gNm 0) (fun _ M=>.ok true M) (e2 dIx (Zf 0) (eC (.int 0)))) aNil))) (ZB (ZJ (gNm 10) (Zdt aNil)) (ZB (Zc0 (gNm 5) (Zc (Zj (ZaS gg) (Zc (Zai (iSq (Zf 2)) 1 [] (gNm 0) (fun _ M=>.ok true M) (e2 dIx (Zf 0) (eC (.int 1)))) aNil)) (Zc (e2 dAdd (Zj (ZaS jj) (Zc (Zai (iSq (Zf 2)) 1 [] (gNm 0) (fun _ M=>.ok true M) (e2 dIx (Zf 0) (eC (.int 1)))) aNil)) (eC (.int 1))) aNil)) Zbl) (Z9 (Zf 10)))))))))
def F_law_dots:W3:=fnF Zcw 1 11
end OP
namespace OP
open L2 DL
open CV CN CU CS
open CR (rt Sz)
open CH (rts ZL)
open Rb BD Ri DU
open DT (yl Bx)
def Bst(p:Pt)(W:List Pt)(k:Nat)(b:Option Pt):Prop:=(b=none/\∀w∈W.take k,¬0<X p w)\/∃q,b=some q/\q∈W/\0<X p q/\∀w∈W.take k,0<X p w->X w q<=0
noncomputable def oP:Option Pt->D|none=>.non|some p=>pr p.1 p.2
noncomputable def Sml(W:List Pt):Prop:=∀w∈W,w.1.natAbs<=100000/\w.2.natAbs<=100000
section
variable {m:Nat}{O W:List Pt}{b:Option Pt}
theorem Zjp(hk:k<W.length)(h:Bst p W k b):(¬0<X p W[k]->Bst p W (k+1) b)/\(0<X p W[k]->(b=none\/∃q,b=some q/\0<X W[k] q)->Bst p W (k+1) (some W[k]))/\(∀q,b=some q->¬0<X W[k] q->Bst p W (k+1) b):=by
 have tk:W.take (k+1)=W.take k++[W[k]]:=cw hk;have hm:W[k]∈W:=cj hk;generalize W[k]=w at *;unfold Bst;rw[tk];refine⟨fun z=>?_,fun z c=>?_,fun q e c=>?_⟩
 ·rcases h with⟨e,h⟩|⟨q,e,m,x,h⟩
  ·refine .inl ⟨e,fun v hv=>?_⟩;rcases aY.mp hv with y|y
   ·exact h v y
   ·simp at y;rw[y];exact z
  ·refine .inr ⟨q,e,m,x,fun v hv y'=>?_⟩;rcases aY.mp hv with y|y
   ·exact h v y y'
   ·simp at y;rw[y]at y';exact absurd y' z
 ·refine .inr ⟨w,rfl,hm,z,fun v hv y'=>?_⟩;rcases aY.mp hv with y|y
  ·rcases h with⟨e,h⟩|⟨q,e,m,x,h⟩
   ·exact absurd y' (h v y)
   ·have hv:=h v y y';rcases c with c|⟨q',c,c'⟩
    ·rw[c]at e;cases e
    ·rw[c]at e;cases e;have id:X p q*X v w=X p w*X v q-X p v*X w q:=by unfold X;grind
     apply Classical.byContradiction;intro t;have t1:=fj x (show 0<X v w by lia)
     have t2:=aU (show 0<=X p w by lia) (show 0<= -X v q by lia)
     have t3:=fj y' c';rw[jU]at t2;lia
  ·simp at y;rw[y,XX];lia
 ·rcases h with⟨e',h⟩|⟨q',e',m,x,h⟩
  ·rw[e]at e';cases e'
  ·rw[e]at e';cases e';refine .inr ⟨q,e,m,x,fun v hv y'=>?_⟩;rcases aY.mp hv with y|y
   ·exact h v y y'
   ·simp at y;rw[y];lia
theorem ZnX(h:Smo O)(hq:q∈O)(hp:0<X (cy O i) q)(hb:X (cy O (i+1)) q<=0):q=cy O (i+1):=by
 obtain⟨a,ha,ea⟩:=Zq3 h.ne i;have e0:=ea 0;have e1:=ea 1;rw[Int.add_zero,Int.add_zero]at e0;rw[e0]at hp;rw[e1]at hb ⊢;obtain⟨j,hj,ej⟩:=Zct hq;have one:=h.one a;have x0:X q (cy O ((a:Int)+1))=0:=by
  apply Classical.byContradiction;intro z;have s:X q (cy O ((a:Int)+1))= - X (cy O ((a:Int)+1)) q:=by unfold X;grind
  rw[<-ej]at hp s z hb;exact free h ha hj hp (by lia)
 have o2:=h.one j;rw[ej]at o2;have qe:q=(X (cy O a) q*(cy O ((a:Int)+1)).1,X (cy O a) q*(cy O ((a:Int)+1)).2):=by
  unfold X at *;exact b5 (by simp only;grind) (by simp only;grind)
 have q1:=congrArg iX qe;have q2:=congrArg kc qe;simp only at q1 q2
 have:X (cy O a) q*X (cy O ((a:Int)+1)) (cy O ((j:Int)+1))=1:=by
  refine Eq.trans ?_ o2;clear one hp hb x0 o2 qe ea;generalize cy O ((j:Int)+1)=t at *;generalize cy O ((a:Int)+1)=b at *;generalize X (cy O a) q=x at *;unfold X;rw[q1,q2];grind
 have c1:X (cy O a) q=1:=by
  exact Int.eq_one_of_mul_eq_one_right (by lia) this
 rw[c1]at qe
 simpa using qe
theorem Zrp(h:M[n]?=some (.lst (prs W)))(hl:W.length<=1000)(hs:Sml W)(sp:p.1.natAbs<=100000/\p.2.natAbs<=100000)(hO:Smo O)(hm:∀w,w∈W↔w∈O)(hp:p=cy O i)(q:Q (pr (cy O (i+1)).1 (cy O (i+1)).2) M):wO (F_next_dot [pr p.1 p.2,.ref n] M) Q E:=by
 have hn:=ZA h;simp![F_next_dot,Zcu];refine Zda (xs:=prs W) (fun k ρ M'=>M'=M/\∃b x,ρ=[some (pr p.1 p.2),some (.ref n),some (oP b),x]/\Bst p W k b) h ⟨rfl,none,_,rfl,.inl ⟨rfl,fun w hw=>by simp at hw⟩⟩ (fun k ρ M' hI=>hI.1▸h) ?_ ?_
 ·rintro k ρ _ hk ⟨rfl,b,x,rfl,hb⟩;have hk':k<W.length:=by rw[ZI]at hk;exact hk
  obtain⟨_,ei⟩:=DT.Zdr hk;have st:=Zjp hk' hb;have sw:=hs _ (cj hk');rw[ei];generalize W[k]=w at *;have e1:p.1*w.2-p.2*w.1=X p w:=rfl;simp![Zbh,CC.Za1 (a:=p.1) (b:=p.2) (c:=w.1) (d:=w.2) (by lia) (by lia),e1]
  refine brO (fun c=>?_) (fun c=>?_)
  ·cases b with
   |none=>
    simp![oP];exact⟨some w,_,rfl,st.2.1 c (.inl rfl)⟩
   |some q=>
    have e2:w.1*q.2-w.2*q.1=X w q:=rfl;simp![oP,CC.Za1 (a:=w.1) (b:=w.2) (c:=q.1) (d:=q.2) (by lia) (by lia),e2]
    refine brS (fun d=>?_) (fun d=>?_)
    ·simp![Zm];exact⟨some w,_,rfl,st.2.1 c (.inr ⟨q,rfl,d⟩)⟩
    ·simp![Zm];exact⟨some q,_,rfl,st.2.2 q rfl d⟩
  ·simp![Zm];exact⟨b,_,rfl,st.1 c⟩
 ·rintro ρ _ ⟨rfl,b,x,rfl,hb⟩;rw[ZI]at hb;have nx:=hO.one i;rw[<-hp]at nx;have mn:cy O (i+1)∈W:=(hm _).mpr (Z0 hO.ne);rw[<-iM (l:=W)]at mn;rcases hb with⟨rfl,hb⟩|⟨b',rfl,m,x0,hb⟩
  ·exact absurd (show 0<X p (cy O (i+1))by lia) (hb _ mn)
  ·have:=ZnX hO (i:=i) ((hm _).mp m) (by rw[<-hp];exact x0) (hb _ mn (by lia))
   subst this;simp![oP];exact q
theorem Zrq(h:yl p p):False:=by rcases h with h|h<;>lia
theorem ZfR(h:W.Pairwise yl):W.Nodup:=h.imp fun{a b} (z:yl a b)=>(fun e=>Zrq (p:=b) (by rw[e]at z;exact z):a≠b)
theorem ZnY{a b:List Pt}(ha:a.Pairwise yl)(hb:b.Pairwise yl)(h:∀m,m∈a↔m∈b):a=b:=
 j3 (fun x y _ _ h1 h2=>by unfold DT.yl at h1 h2;lia) ha hb ((jI (ZfR ha) (ZfR hb)).mpr h)
theorem Zjq:∀{a b:List Pt},a.Nodup->(∀m∈a,m∈b)->a.length<=b.length:=by
 intro a
 induction a with
 |nil=>intro b _ _;simp
 |cons x a ih=>
  intro b nd h;rw[eH]at nd;have hx:=h x (by simp)
  have:=ih (b:=b.erase x) nd.2 fun m hm=>(List.mem_erase_of_ne (fun(z:m=x)=>nd.1 (by rw[<-z];exact hm))).mpr (h m (aG _ hm))
  rw[List.length_erase_of_mem hx]at this
  have:=List.length_pos_of_mem hx
  simp only[bC];lia
theorem Zjr(h:Smo O):O.Nodup:=gp.mpr fun i j hi hj hij e=>by
 have:=h.rn.inj hi hj (by rw[Zb4 hi,Zb4 hj];exact e)
 lia
theorem ZtO(h:M[n]?=some (.lst (prs rs)))(hs:Smo rs)(hb:Nr 400 rs)(hl:rs.length<=1000)(ge:RT.ge2 (ZF rs)=true)(q:∀M',Kp M M'->Q .non M'):wO (F_ask_one [.ref n] M) Q E:=by
 have hn:=ZA h;simp![F_ask_one,Zb9];refine CE.ZiQ h hs (by lia) (fun x hx=>by have:=hb x hx;lia) ?_
 obtain⟨v,hv⟩:∃v,(ZF rs).min?=some v:=by
  cases e:(ZF rs).min? with
  |some v=>exact⟨v,rfl⟩
  |none=>
   rw[fJ]at e;have z:(ZF rs).length=0:=by rw[e];rfl
   rw[ZT]at z
   have:=hs.len
   lia
 have v2: -2<=v:=RT.Zbc.mp ge v (d6.mp hv).1;simp![CC.ZM,hv];exact q _ Kp.app
theorem Zrr:rts (h1 rs)=(aH rs.length).map fun _=>pr 1 1:=by
 unfold CH.rts h1;rw[List.map_replicate];refine dQ (by simp) fun i a b=>?_
 simp
theorem ZnZ{c:Nat}(h:M[n]?=some (.lst (prs rs)))(hS:Smo rs)(l9:rs.length<=9)(ge:RT.ge2 (ZF rs)=true)(hb:Nr c rs)(hc:c<=400)(op:Opp rs O)(hW:W.Pairwise yl)(mW:∀m,m∈W↔m∈O)(q:∀F s a M',s<O.length->F=(aH O.length).map (fun(j:Nat)=>cy O ((s:Nat)+j))->W[0]?=some (cy O s)->Kp M M'->M.length<=a->M'[a]?=some (.lst (prs F))->Q (.ref a) M'):wO (F_opposite_one [.ref n] M) Q E:=by
 have hn:=ZA h;have b4:Nr 400 rs:=fun x hx=>by have:=hb x hx;lia
 have ol:=op.ln;have lW:W.length=O.length:=Nat.le_antisymm (Zjq (ZfR hW) fun m hm=>(mW m).mp hm) (Zjq (Zjr op.sm) fun m hm=>(mW m).mpr hm);simp![F_opposite_one,Zap];refine ZtO h hS b4 (by lia) ge fun M1 K1=>?_
 simp![Zm];refine Znt (xs:=prs rs) (fun ρ=>∃x,ρ=[x]) (fun _=>pr 1 1) (K1.get h) (by rw[ZI];lia) ⟨_,rfl⟩ ?_ ?_
 ·rintro i hi ρ L ⟨x,rfl⟩;simp![Zm];exact⟨_,rfl⟩
 rw[ZI,<-Zrr];have K2:Kp M (M1++[SO.lst (rts (h1 rs))]):=K1.trans Kp.app;have r2:(M1++[SO.lst (rts (h1 rs))])[M1.length]?=some (.lst (rts (h1 rs))):=by simp
 generalize M1++[SO.lst (rts (h1 rs))]=M2 at *;simp![Zm];refine DT.Zrn (k:=2) (Bt:=1) (c:=16*c) (B:=(c:Int)) (K2.get h) hS hb (by lia) r2 (by simp[h1]) (fun x hx=>?_) (by lia) (fun p hp=>?_) (fun p hp=>?_) (by decide) (by decide) (by lia) (fun ds nd hd=>?_) (fun ds o M3 pw mem K3 lo r3=>?_) (by lia)
 ·rw[List.eq_of_mem_replicate hx];exact⟨by decide,by decide⟩
 ·obtain⟨d,hd,rfl⟩:=op.cor hS hp;have b:=op.bd c hb d hd;have cast:∀z:Int,z.natAbs<=16*c-> -((16*c:Nat):Rat)<=(z:Rat)/\(z:Rat)<=((16*c:Nat):Rat):=fun z hz=>by
   rw[<-ay,<-bT];exact⟨a7.mpr (by lia),a7.mpr (by lia)⟩
  exact⟨cast _ b.1,cast _ b.2⟩
 ·obtain⟨d,hd,rfl⟩:=op.cor hS hp;exact⟨⟨1,rfl⟩,⟨1,rfl⟩⟩
 ·have:=Zjq (b:=(0,0)::O) nd fun m hm=>by
   rcases(op.dots hS).mp (hd m hm)with z|z
   ·rw[z];simp
   ·exact aG _ z
  simp at this;lia
 have mem:∀m,m∈ds↔m=(0,0)\/m∈O:=fun m=>(mem m).trans (op.dots hS);have n0:(0,0)∉O:=fun z=>by
  obtain⟨i,hi,e⟩:=Zct z
  have:=op.sm.one i
  rw[e]at this;simp[X]at this
 have eW:ds.filter (fun m=>decide (m≠(0,0)))=W:=ZnY (pw.filter _) hW fun m=>by
  rw[gF,mem,mW];constructor
  ·rintro⟨a|a,b⟩
   ·rw[a]at b;simp at b
   ·exact a
  ·intro a;exact⟨.inr a,decide_eq_true fun z=>n0 (z▸a)⟩
 have sW:Sml W:=fun w hw=>by
  have:=op.bd c hb w ((mW w).mp hw)
  lia
 have K3:=K2.trans K3;have l3:=ZA r3;have dl:ds.length<=1000:=by
  have:=Zjq (b:=(0,0)::O) (ZfR pw) fun m hm=>by
   rcases(mem m).mp hm with z|z
   ·rw[z];simp
   ·exact aG _ z
  simp at this;lia
 simp![Zm];refine Ziz (xs:=prs ds) (Q:=fun M2=>_) (fun i ρ M'=>(∃x,ρ=[x])/\M'=M3++[.lst (prs ((ds.take i).filter fun m=>decide (m≠(0,0))))]) _ 0 _ _ (by simp) (by rw[Zfu r3];lia) ⟨⟨_,rfl⟩,rfl⟩ (fun i ρ M' hi hI=>?_) ?_ ?_
 ·obtain⟨-,rfl⟩:=hI;exact Zgv (by rw[Zkx l3];exact r3)
 ·rintro i ρ M' hi ⟨⟨x,rfl⟩,rfl⟩;obtain⟨hi',ei⟩:=DT.Zdr hi;rw[ei];have le:((ds.take i).filter fun m=>decide (m≠(0,0))).length<=ds.length:=aT (List.length_filter_le _ _) (by rw[cI];lia)
  have nx:(ds.take (i+1)).filter (fun m=>decide (m≠(0,0)))=(ds.take i).filter (fun m=>decide (m≠(0,0)))++[ds[i]].filter (fun m=>decide (m≠(0,0))):=by
   rw[cw hi',List.filter_append]
  rw[nx];generalize ds[i]=w at *;simp![Zoa];by_cases c:w=(0,0)
  ·have e0:[w].filter (fun m=>decide (m≠(0,0)))=[]:=by simp[c]
   rw[e0,cg,decide_eq_true (show(w.1,w.2)=((0:Int),(0:Int))from c),dM,Zsl];exact⟨⟨_,rfl⟩,rfl⟩
  ·have e0:[w].filter (fun m=>decide (m≠(0,0)))=[w]:=by simp[c]
   rw[e0,decide_eq_false (show ¬(w.1,w.2)=((0:Int),(0:Int))from c),lg,ZpI];simp![Zm];exact⟨by lia,⟨_,rfl⟩⟩
 rintro ρ M' ⟨-,rfl⟩;rw[ZI,bf (aj _),eW];have K4:Kp M (M3++[SO.lst (prs W)]):=K3.trans Kp.app;have r4:(M3++[SO.lst (prs W)])[M3.length]?=some (.lst (prs W)):=by simp
 have k3:=K3.1;have e4:(M3++[SO.lst (prs W)]).length=M3.length+1:=by simp
 generalize M3++[SO.lst (prs W)]=M4 at *;have l9':=op.sm.len;have w0:cy W 0∈W:=Z0 fun z=>by rw[z]at lW;simp at lW;lia
 obtain⟨s,hs,es⟩:=Zct ((mW _).mp w0);simp![r4,ZaN];rw[<-es];have r5:(M4++[SO.lst (prs [cy O s])])[M4.length]?=some (.lst (prs ((aH (0+1)).map fun(j:Nat)=>cy O ((s:Int)+j)))):=by simp
 have K5:Kp M (M4++[SO.lst (prs [cy O s])]):=K4.trans Kp.app;have s5:=(Kp.app (L:=[SO.lst (prs [cy O s])])).get r4;have k4:=K4.1;show wS (sWh _ _ _ (M4++[SO.lst (prs [cy O s])])) _ _ _ _ _;generalize M4++[SO.lst (prs [cy O s])]=M5 at *;refine Znr (fun j ρ M'=>Kp M M'/\M'[M3.length]?=some (.lst (prs W))/\ρ=[some (.ref n),some (.ref M3.length),some (.ref M4.length)]/\∃t:Nat,t+1<=O.length/\j=O.length-t/\M'[M4.length]?=some (.lst (prs ((aH (t+1)).map fun(j:Nat)=>cy O ((s:Int)+j))))) ?_ O.length _ _ ⟨K5,s5,rfl,0,by lia,by lia,r5⟩
 rintro j _ M6 ⟨K6,s6,rfl,t,ht,rfl,r6⟩;have ln:((aH (t+1)).map fun(j:Nat)=>cy O ((s:Int)+j)).length=t+1:=by simp
 have hd6:=ZA r6;simp![s6,r6,ln];refine Zns (fun hlt=>?_) (fun hlt=>?_)
 ·have la:cy ((aH (t+1)).map fun(j:Nat)=>cy O ((s:Int)+j)) (-1)=cy O ((s:Int)+t):=by
   rw[<-ZS,ln,show(-1:Int)+((t+1:Nat):Int)=(t:Nat)by lia,Zb4 (by rw[ln];lia)]
   simp
  simp![ZX,r6,ZaN,la];have so:=sW _ ((mW _).mpr (Z0 (i:=(s:Int)+t) op.sm.ne));refine Zrp s6 (by lia) sW so op.sm mW rfl ?_
  simp![r6];refine⟨by rw[List.length_range];lia,O.length-(t+1),by lia,K6.set (by lia),s6,t+1,by lia,rfl,?_⟩
  rw[fB (n:=t+1),dE,show(s:Int)+t+1=s+((t+1:Nat):Int)by lia]
  rfl
 ·simp![Zm];refine q _ s M4.length M6 hs ?_ ?_ K6 (by lia) r6
  ·rw[show t+1=O.length by lia]
  ·rw[es];cases W with
   |nil=>cases w0
   |cons a r=>simp[cy]
end
end OP
namespace OP
open L2 DL
open CV
open Rb Ri DU
open DT (yl)
theorem ZkT(op:Opp rs O)(h:Smo rs):(∀r∈rs,-1<=pd m r)↔m=(0,0)\/m∈O:=(Zjo h).symm.trans (op.dots h)
theorem Zca(op:Opp rs O)(h:Smo rs)(hv:v≠(0,0))(hd:d∈O):∃k:Nat,k<rs.length/\pd (crn (cy rs k) (cy rs (k+1))) v<=pd d v:=by
 obtain⟨i,hi,a,b⟩:=Zji h hv;refine⟨i,hi,?_⟩;have g1:=op.ge d hd _ (Z0 (i:=(i:Int)) h.ne);have g2:=op.ge d hd _ (Z0 (i:=(i:Int)+1) h.ne);have one:=h.one i;have e1:pd (crn (cy rs i) (cy rs (i+1))) v= -(X v (cy rs (i+1))+X (cy rs i) v):=by
  unfold pd crn X at *;simp only;grind
 have e2:pd d v=X v (cy rs (i+1))*pd d (cy rs i)+X (cy rs i) v*pd d (cy rs (i+1)):=by
  unfold pd X at *;grind
 have m1:=aU (show 0<=X v (cy rs (i+1))by lia) (show 0<=pd d (cy rs i)+1 by lia)
 have m2:=aU a (show 0<=pd d (cy rs (i+1))+1 by lia)
 rw[Int.mul_add]at m1 m2;lia
theorem Ze8{L:List Int}(h:L≠[]):∃v,L.min?=some v/\v∈L/\∀x∈L,v<=x:=by
 cases e:L.min? with
 |none=>exact absurd (fJ.mp e) h
 |some v=>exact⟨v,rfl,d6.mp e⟩
theorem Zdh{L:List Int}(h:L≠[]):∃v,L.max?=some v/\v∈L/\∀x∈L,x<=v:=by
 cases e:L.max? with
 |none=>exact absurd (iF.mp e) h
 |some v=>exact⟨v,rfl,iD.mp e⟩
theorem Zjs(h:M[n]?=some (.lst (prs P)))(hl:P.length<1000){k:Nat}(hρ:roB 1 fr ρ=none::R)(hg:∀p∈P,∀L,wO (g (some (pr p.1 p.2)::R) (M++L)) (fun y M2=>y=.int (f p)/\M2=M++L) (fun _ _=>False))(q:Q (.ref M.length) (M++[.lst (nts (P.map f))])):kCo (gNm 0) (fun _ M=>.ok true M) g 1 fr ρ Q (.sto n) M:=by
 refine Znt (xs:=prs P) (fun ρ=>∃x,ρ=x::R) (fun i=>.int (f (P.getD i (0,0)))) h (by rw[ZI];lia) ⟨_,hρ⟩ ?_ ?_
 ·rintro i hi ρ L ⟨x,rfl⟩;obtain⟨hi',ei⟩:=DT.Zdr hi;rw[ei];have eg:P.getD i (0,0)=P[i]:=by simp[hi']
  rw[eg]
  have:=hg P[i] (cj hi') L
  simp![Zm];exact⟨⟨_,rfl⟩,this⟩
 ·have:(aH (prs P).length).map (fun i=>D.int (f (P.getD i (0,0))))=nts (P.map f):=by
   unfold nts;rw[cT,ZI];refine dQ (by simp) fun i h1 h2=>?_
   simp at h1 h2;simp[h2]
  rw[this];exact q
theorem Zrs(h:M[n]?=some (.lst (prs P)))(hl:P.length<1000)(hρ:roB 1 [] ρ=[none])(q:Q (.ref M.length) (M++[.lst (nts (P.map (·.1)))])):kCo (gNm 0) (fun _ M=>.ok true M) (e2 dIx (Zf 0) (eC (.int 0))) 1 [] ρ Q (.sto n) M:=
 Zjs (k:=0) h hl hρ (fun p _ L=>by simp![Zm]) q
theorem Zrt(h:M[n]?=some (.lst (prs P)))(hl:P.length<1000)(hρ:roB 1 [] ρ=[none])(q:Q (.ref M.length) (M++[.lst (nts (P.map (·.2)))])):kCo (gNm 0) (fun _ M=>.ok true M) (e2 dIx (Zf 0) (eC (.int 1))) 1 [] ρ Q (.sto n) M:=
 Zjs (k:=0) h hl hρ (fun p _ L=>by simp![Zm]) q
def crs(rs:List Pt)(i:Nat):List Pt:=(aH i).map fun(i:Nat)=>crn (cy rs i) (cy rs (i+1))
theorem Zjt(h:M[n]?=some (.lst (prs rs)))(hS:Smo rs)(hb:Nr 200 rs)(l9:rs.length<=9)(op:Opp rs O)(q:∀W a M',W.Pairwise yl->(∀m,m∈W↔m∈O)->Kp M M'->M.length<=a->M'[a]?=some (.lst (prs W))->Q (.ref a) M'):wO (F_law_dots [.ref n] M) Q E:=by
 have hn:=ZA h;have l3:=hS.len;simp! -implicitDefEqProofs [F_law_dots,Zcw,h];have r1:(M++[SO.lst []])[M.length]?=some (.lst (prs (crs rs 0))):=by simp[crs,prs]
 have K1:Kp M (M++[SO.lst []]):=Kp.app;refine⟨by lia,?_⟩
 rw[dA];generalize M++[SO.lst []]=M1 at *;refine Zb2 (n:=rs.length) (lo:=0) (fun i ρ M'=>Kp M M'/\M'[M.length]?=some (.lst (prs (crs rs i)))/\∃x3 x4 x5 x6 x7 x8 x9 x10 x11,ρ=[some (.ref n),some (.int rs.length),some (.ref M.length),x3,x4,x5,x6,x7,x8,x9,x10,x11]) ⟨K1,r1,_,_,_,_,_,_,_,_,_,rfl⟩ ?_ ?_
 ·rintro i ρ M2 hi ⟨K2,r2,x3,x4,x5,x6,x7,x8,x9,x10,x11,rfl⟩;rw[show(0:Int)+(i:Nat)=i by lia]
  have e1:=Zab (i:=(i:Int)+1) (m:=rs.length) (by lia)
  have l2:=ZA r2;have cl:(crs rs i).length=i:=by simp[crs]
  simp! -implicitDefEqProofs [Zbj,K2.get h,ZaN,Zb3,r2];refine⟨by lia,K2.set (aj _),?_,_,_,_,_,_,_,_,_,_,rfl⟩
  unfold crs;rw[fB,dE];rfl
 rintro ρ M2 ⟨K2,r2,x3,x4,x5,x6,x7,x8,x9,x10,x11,rfl⟩;have cl:(crs rs rs.length).length=rs.length:=by simp[crs]
 have cm:∀{k:Nat},k<rs.length->crn (cy rs k) (cy rs (k+1))∈crs rs rs.length:=fun{k} hk=>aK.mpr ⟨k,bv.mpr hk,rfl⟩;have cO:∀c∈crs rs rs.length,c∈O:=fun c hc=>by
  obtain⟨k,hk,rfl⟩:=aK.mp hc;exact op.co k (bv.mp hk)
 have bO:∀d∈O,d.1.natAbs<=3200/\d.2.natAbs<=3200:=fun d hd=>op.bd 200 hb d hd;have cne:crs rs rs.length≠[]:=fun z=>by rw[z]at cl;simp at cl;lia
 have bx:∀d∈O,(∃c∈crs rs rs.length,c.1<=d.1)/\(∃c∈crs rs rs.length,d.1<=c.1)/\(∃c∈crs rs rs.length,c.2<=d.2)/\(∃c∈crs rs rs.length,d.2<=c.2):=by
  intro d hd;refine⟨?_,?_,?_,?_⟩
  ·obtain⟨k,hk,z⟩:=Zca op hS (v:=(1,0)) (by decide) hd
   exact⟨_,cm hk,by unfold pd at z;simp only at z;lia⟩
  ·obtain⟨k,hk,z⟩:=Zca op hS (v:=(-1,0)) (by decide) hd
   exact⟨_,cm hk,by unfold pd at z;simp only at z;lia⟩
  ·obtain⟨k,hk,z⟩:=Zca op hS (v:=(0,1)) (by decide) hd
   exact⟨_,cm hk,by unfold pd at z;simp only at z;lia⟩
  ·obtain⟨k,hk,z⟩:=Zca op hS (v:=(0,-1)) (by decide) hd
   exact⟨_,cm hk,by unfold pd at z;simp only at z;lia⟩
 generalize crs rs rs.length=C at *;obtain⟨lo,elo,mlo,glo⟩:=Ze8 (L:=C.map (·.1)) (fun z=>cne (cr.mp z));obtain⟨hi,ehi,mhi,ghi⟩:=Zdh (L:=C.map (·.1)) (fun z=>cne (cr.mp z));obtain⟨yo,eyo,myo,gyo⟩:=Ze8 (L:=C.map (·.2)) (fun z=>cne (cr.mp z));obtain⟨yi,eyi,myi,gyi⟩:=Zdh (L:=C.map (·.2)) (fun z=>cne (cr.mp z));have box:∀d∈O,lo<=d.1/\d.1<=hi/\yo<=d.2/\d.2<=yi:=by
  intro d hd;obtain⟨⟨c1,m1,z1⟩,⟨c2,m2,z2⟩,⟨c3,m3,z3⟩,⟨c4,m4,z4⟩⟩:=bx d hd;have g1:=glo _ (aK.mpr ⟨c1,m1,rfl⟩);have g2:=ghi _ (aK.mpr ⟨c2,m2,rfl⟩);have g3:=gyo _ (aK.mpr ⟨c3,m3,rfl⟩);have g4:=gyi _ (aK.mpr ⟨c4,m4,rfl⟩);lia
 have bb:(lo.natAbs<=3200/\hi.natAbs<=3200)/\yo.natAbs<=3200/\yi.natAbs<=3200:=by
  obtain⟨c1,m1,rfl⟩:=aK.mp mlo;obtain⟨c2,m2,rfl⟩:=aK.mp mhi;obtain⟨c3,m3,rfl⟩:=aK.mp myo;obtain⟨c4,m4,rfl⟩:=aK.mp myi;exact⟨⟨(bO _ (cO _ m1)).1,(bO _ (cO _ m2)).1⟩,(bO _ (cO _ m3)).2,(bO _ (cO _ m4)).2⟩
 simp! -implicitDefEqProofs [Zm];refine Zrs r2 (by lia) rfl ?_
 have K3:Kp M2 (M2++[SO.lst (nts (C.map (·.1)))]):=Kp.app;simp! -implicitDefEqProofs [CC.ZM,elo];generalize M2++[SO.lst (nts (C.map (·.1)))]=M3 at *;refine Zrs (K3.get r2) (by lia) rfl ?_
 simp! -implicitDefEqProofs [CC.ZM,ehi];have f5:(M3++[SO.lst (nts (C.map (·.1))),SO.lst []])[M3.length+1]?=some (.lst (prs [])):=by simp[prs]
 have K5:Kp M2 (M3++[SO.lst (nts (C.map (·.1))),SO.lst []]):=K3.trans Kp.app;have lf:M2.length<=M3.length+1:=by have:=K3.1;lia
 generalize M3.length+1=fr at *;generalize M3++[SO.lst (nts (C.map (·.1))),SO.lst []]=M5 at *;refine Zrt (K5.get r2) (by lia) rfl ?_
 have K6:Kp M5 (M5++[SO.lst (nts (C.map (·.2)))]):=Kp.app;simp! -implicitDefEqProofs [CC.ZM,eyo];generalize M5++[SO.lst (nts (C.map (·.2)))]=M6 at *;refine Zrt ((K5.trans K6).get r2) (by lia) rfl ?_
 have K7:Kp M5 (M6++[SO.lst (nts (C.map (·.2)))]):=K6.trans Kp.app;simp! -implicitDefEqProofs [CC.ZM,eyi];generalize M6++[SO.lst (nts (C.map (·.2)))]=M7 at *;have K7':Kp M M7:=K2.trans (K5.trans K7);have f7:=K7.get f5;have km:=K2.1;refine⟨by lia,?_⟩
 refine Zb2 (fun i ρ M'=>Kp M M'/\∃F x3 x4 x5 x6 x7 x11,ρ=[some (.ref n),some (.int rs.length),some (.ref M.length),x3,x4,x5,x6,x7,some (.int lo),some (.int hi),some (.ref fr),x11]/\M'[fr]?=some (.lst (prs F))/\F.Pairwise yl/\∀m,m∈F↔m∈O/\m.2<yo+(i:Int)) ⟨K7',[],_,_,_,_,_,_,rfl,f7,.nil,fun m=>⟨fun z=>(by cases z),fun z=>by have:=(box m z.1).2.2.1;have:=z.2;lia⟩⟩ ?_ ?_
 ·rintro i ρ M8 hi' ⟨K8,F,x3,x4,x5,x6,x7,x11,rfl,f8,pw,mem⟩;have hy:yo<=yo+(i:Int)/\yo+(i:Int)<=yi:=by lia
  have nx:yo+((i+1:Nat):Int)=yo+(i:Int)+1:=by lia
  simp only[nx];generalize yo+(i:Int)=y at *;simp! -implicitDefEqProofs [Zbl];refine⟨by lia,?_⟩
  refine Zb2 (fun j ρ M'=>Kp M M'/\∃F x3 x4 x6 x7 x11,ρ=[some (.ref n),some (.int rs.length),some (.ref M.length),x3,x4,some (.int y),x6,x7,some (.int lo),some (.int hi),some (.ref fr),x11]/\M'[fr]?=some (.lst (prs F))/\F.Pairwise yl/\∀m,m∈F↔m∈O/\(m.2<y\/(m.2=y/\m.1<lo+(j:Int)))) ⟨K8,F,_,_,_,_,_,rfl,f8,pw,fun m=>?_⟩ ?_ ?_
  ·rw[mem];constructor
   ·rintro⟨a,b⟩;exact⟨a,.inl b⟩
   ·rintro⟨a,b|b⟩
    ·exact⟨a,b⟩
    ·have:=box m a
     lia
  ·rintro j ρ M9 hj ⟨K9,F,x3,x4,x6,x7,x11,rfl,f9,pw,mem⟩;have hx:lo<=lo+(j:Int)/\lo+(j:Int)<=hi:=by lia
   have nj:lo+((j+1:Nat):Int)=lo+(j:Int)+1:=by lia
   simp only[nj];generalize lo+(j:Int)=x at *;have b9:=K9.get h;have l9':=ZA f9;simp! -implicitDefEqProofs [Zbk];refine Zjs (k:=0) (P:=rs) (f:=fun r=>pd (x,y) r) (R:=[some (.int x),some (.int y)]) b9 (by lia) rfl (fun p hp L=>?_) ?_
   ·have bp:=hb p hp;simp! -implicitDefEqProofs [Zm];rfl
   obtain⟨le,ele,mle,gle⟩:=Ze8 (L:=rs.map fun r=>pd (x,y) r) (fun z=>hS.ne (cr.mp z));have iff: -1<=le↔(x,y)=(0,0)\/(x,y)∈O:=by
    rw[<-ZkT op hS];constructor
    ·intro z r hr
     have:=gle _ (aK.mpr ⟨r,hr,rfl⟩)
     lia
    ·intro z;obtain⟨r,hr,e⟩:=aK.mp mle
     have:=z r hr
     lia
   have n0:((0,0):Pt)∉O:=fun z=>by
    obtain⟨i,hi,e⟩:=Zct z
    have:=op.sm.one i
    rw[e]at this;simp[X]at this
   have K10:Kp M (M9++[SO.lst (nts (rs.map fun r=>pd (x,y) r))]):=K9.trans Kp.app;have f10:=(Kp.app (L:=[SO.lst (nts (rs.map fun r=>pd (x,y) r))])).get f9;simp! -implicitDefEqProofs [CC.ZM,ele];generalize M9++[SO.lst (nts (rs.map fun r=>pd (x,y) r))]=M10 at *;have l10:=ZA f10;have skip:¬(x,y)∈O->∀m,m∈F↔m∈O/\(m.2<y\/(m.2=y/\m.1<x+1)):=fun z m=>by
    rw[mem];constructor
    ·rintro⟨a,b⟩;exact⟨a,by lia⟩
    ·rintro⟨a,b⟩;refine⟨a,?_⟩;rcases b with b|⟨b,c⟩
     ·exact .inl b
     ·refine .inr ⟨b,?_⟩;apply Classical.byContradiction;intro w;exact z (by rw[show(x,y)=m from b5 (by simp only;lia) (by simp only;lia)];exact a)
   refine brO (fun c=>?_) (fun c=>?_)
   ·simp! -implicitDefEqProofs [Zoa];refine Zt9 (fun d=>?_) (fun d=>?_)
    ·have d':¬(x,y)=((0,0):Pt):=fun z=>by rw[decide_eq_true (show((x,y):Int×Int)=(0,0)from z)]at d;cases d
     have mO:=((iff.mp (by lia)).resolve_left d')
     simp! -implicitDefEqProofs [f10];have fO:∀m∈F,m∈O:=fun m hm=>((mem m).mp hm).1;have fl:F.length<=O.length:=Zjq (ZfR pw) fO;have ol:=op.ln;refine⟨by lia,K10.set (by lia),F++[(x,y)],_,_,_,_,_,rfl,rfl,List.pairwise_append.mpr ⟨pw,by simp,fun a ha b hb=>?_⟩,fun m=>?_⟩
     ·simp at hb;rw[hb]
      have:=((mem a).mp ha).2
      unfold DT.yl;simp only;lia
     ·rw[aY,mem];constructor
      ·rintro(⟨a,b⟩|a)
       ·exact⟨a,by lia⟩
       ·simp at a;rw[a];exact⟨mO,.inr ⟨rfl,by simp only;lia⟩⟩
      ·rintro⟨a,b⟩;by_cases w:m.2=y/\m.1=x
       ·exact .inr (by simp;exact b5 w.2 w.1)
       ·exact .inl ⟨a,by lia⟩
    ·have d':(x,y)=((0,0):Pt):=by simpa using d
     simp! -implicitDefEqProofs [Zm];exact⟨K10,F,_,_,_,_,_,rfl,f10,pw,skip (by rw[d'];exact n0)⟩
   ·simp! -implicitDefEqProofs [Zm];exact⟨K10,F,_,_,_,_,_,rfl,f10,pw,skip fun z=>c (iff.mpr (.inr z))⟩
  ·rintro ρ M9 ⟨K9,F,x3,x4,x6,x7,x11,rfl,f9,pw,mem⟩;refine⟨K9,F,_,_,_,_,_,_,rfl,f9,pw,fun m=>?_⟩;rw[mem];constructor
   ·rintro⟨a,b|b⟩
    ·exact⟨a,by lia⟩
    ·exact⟨a,by lia⟩
   ·rintro⟨a,b⟩
    have:=box m a
    refine⟨a,?_⟩;lia
 ·rintro ρ M8 ⟨K8,F,x3,x4,x5,x6,x7,x11,rfl,f8,pw,mem⟩;simp! -implicitDefEqProofs [Zm];refine q F fr M8 pw (fun m=>(mem m).trans ⟨fun z=>z.1,fun z=>⟨z,?_⟩⟩) K8 (by lia) f8
  have:=box m z
  lia
end OP
namespace OP
open L2 DL
open CV
section
variable {rs:List Pt}
structure One(rs:List Pt):Prop where
 sm:Smo rs
 nr:Nr 200 rs
 l9:rs.length<=9
 ge:RT.ge2 (ZF rs)=true
theorem Zru(i d:Int):cy rs (i%rs.length+d)=cy rs (i+d):=by
 unfold cy;rw[iy]
theorem ZtP(i:Int):T rs (i%rs.length)=T rs i:=by
 unfold T;have e1:cy rs (i%rs.length-1)=cy rs (i-1):=by
  rw[show i%(rs.length:Int)-1=i%rs.length + -1 by lia,show i-1=i + -1 by lia]
  exact Zru i (-1)
 rw[e1,Zru i 1]
theorem Zb8(ne:rs≠[]):RT.ge2 (ZF rs)=true↔∀i:Int,-2<=T rs i:=by
 rw[RT.Zbc];constructor
 ·intro h i;have e:=Zab (i:=i) (m:=rs.length) (by have:=gy.mpr ne;lia)
  have:=h (T rs ((i%rs.length).toNat:Nat)) (by unfold ZF;exact aK.mpr ⟨(i%rs.length).toNat,bv.mpr e.1,rfl⟩)
  rw[ma e.2,ZtP]at this;exact this
 ·intro h t ht;unfold ZF at ht;obtain⟨i,-,rfl⟩:=aK.mp ht;exact h i
theorem One.rot(h:One rs)(hk:k<=rs.length):One (rs.drop k++rs.take k):=by
 have s:=h.sm.rot (k:=k) hk;refine⟨s,h.nr.rot,by rw[a6,fZ,cI];have:=h.l9;lia,(Zb8 s.ne).mpr fun i=>?_⟩
 unfold T;rw[ZbI hk,ZbI hk]
 have:=(Zb8 h.sm.ne).mp h.ge (i+k)
 unfold T at this;rw[show i-1+(k:Int)=i+k-1 by lia,show i+1+(k:Int)=i+k+1 by lia]
 exact this
theorem One.turn(h:One rs)(hx:∀i j:Int,X (cy ss i) (cy ss j)=X (cy rs i) (cy rs j))(s1:Smo ss)(s2:Nr 200 ss)(s3:ss.length=rs.length):One ss:=by
 refine⟨s1,s2,by rw[s3];exact h.l9,(Zb8 s1.ne).mpr fun i=>?_⟩
 have:=(Zb8 h.sm.ne).mp h.ge i
 unfold T at this ⊢;rw[hx];exact this
noncomputable def bn(n:Nat):Int:=2^(n-3)
theorem Zn0(h:n<=10):bn n<=128/\1<=bn n:=by
 unfold bn
 have:n-3=0\/n-3=1\/n-3=2\/n-3=3\/n-3=4\/n-3=5\/n-3=6\/n-3=7:=by lia
 rcases this with e|e|e|e|e|e|e|e<;>rw[e]<;>decide
theorem Zn1(h:3<=n):bn (n+1)=2*bn n:=by
 unfold bn;rw[show n+1-3=(n-3)+1 by lia,Int.pow_succ]
 lia
structure Gr1(rs:List Pt):Prop where
 sm:Smo rs
 nr:Nr (bn rs.length) rs
 l9:rs.length<=9
 ge:RT.ge2 (ZF rs)=true
theorem Gr1.one(h:Gr1 rs):One rs:=⟨h.sm,fun x hx=>by have:=h.nr x hx;have:=Zn0 (n:=rs.length) (by have:=h.l9;lia);lia,h.l9,h.ge⟩
theorem gr3:Gr1 [(1,0),(0,1),(-1,-1)]:=⟨CC.Ztn,fun x hx=>by simp at hx;rcases hx with rfl|rfl|rfl<;>decide,by decide,by rw[RT.Zq4 CC.Ztn rfl];decide⟩
theorem gr4(h:0<=t/\t<=2):Gr1 [(1,0),(0,1),(-1,t),(0,-1)]:=by
 refine⟨CC.ZuD t,fun x hx=>?_,by simp,?_⟩
 ·have:bn [((1:Int),(0:Int)),(0,1),(-1,t),(0,-1)].length=2:=rfl
  rw[this];simp at hx;rcases hx with rfl|rfl|rfl|rfl<;>simp<;>lia
 ·have:t=0\/t=1\/t=2:=by lia
  rcases this with rfl|rfl|rfl<;>decide +kernel
theorem Gr1.ins{k:Nat}(h:Gr1 rs)(hk:k<rs.length)(hl:rs.length<9)(hg:RT.ge2 (ZF (ins rs k ((cy rs k).1+(cy rs (k+1)).1,(cy rs k).2+(cy rs (k+1)).2)))=true):Gr1 (ins rs k ((cy rs k).1+(cy rs (k+1)).1,(cy rs k).2+(cy rs (k+1)).2)):=by
 have l:=Zea (rs:=rs) (p:=((cy rs k).1+(cy rs (k+1)).1,(cy rs k).2+(cy rs (k+1)).2)) hk;refine⟨h.sm.ins hk,?_,by lia,hg⟩
 rw[l,Zn1 h.sm.len];have b:=Zn0 (n:=rs.length) (by lia)
 have b1:=Nr.cy h.nr h.sm.ne k;have b2:=Nr.cy h.nr h.sm.ne (k+1);exact Nr.ins (fun x hx=>by have:=h.nr x hx;lia) (by simp only;lia)
theorem ZlY(hc:0<=c)(q:∀ss m M',One ss->M'[m]?=some (.lst (prs ss))->Kp M M'->Q (.ref m) M'):wO (F_law_ones [.int c] M) Q E:=by
 simp![F_law_ones,Zcv];have m7:=dF c (show(7:Int)≠0 by decide)
 have m7':=cC c (show(0:Int)<7 by decide)
 have m4':=cC (c/7) (show(0:Int)<4 by decide)
 refine ZsY (fun ρ M'=>∃ss m,ρ=[some (.int c),some (.int (3+c%7)),some (.ref m),none,none,none,none,none,none]/\Gr1 ss/\M'[m]?=some (.lst (prs ss))/\Kp M M') ?_ ?_
 ·refine brS (fun z=>?_) (fun z=>?_)
  ·simp![Zm];exact⟨_,_,rfl,gr4 (t:=c/7%4-1) (by lia),by rw[ZrH];rfl,Kp.app⟩
  ·simp![Zm];exact⟨_,_,rfl,gr3,by rw[Zkw];rfl,Kp.app⟩
 rintro _ M1 ⟨ss,m,rfl,g1,r1,K1⟩;have d28:=jb hc (show(0:Int)<=28 by decide)
 simp![Zm];have hct:3+c%7<=9:=by lia
 generalize c/28=c1 at *;generalize 3+c%7=ct at *;refine Zb2 (fun i ρ M'=>∃ss m c1 x3 x4 x5 x6 x7 x8,ρ=[some (.int c1),some (.int ct),some (.ref m),x3,x4,x5,x6,x7,x8]/\0<=c1/\Gr1 ss/\M'[m]?=some (.lst (prs ss))/\Kp M M') ⟨ss,m,c1,_,_,_,_,_,_,rfl,d28,g1,r1,K1⟩ ?_ ?_
 ·rintro i ρ M2 hi ⟨ss,m,c1,x3,x4,x5,x6,x7,x8,rfl,hc1,g,r,K⟩;have hm:=ZA r;have l3:=g.sm.len;have l9:=g.l9;have a0:=dF c1 (show(ss.length:Int)≠0 by lia)
  have a1:=cC c1 (show(0:Int)<(ss.length:Int)by lia)
  have d9:=jb hc1 (show(0:Int)<=9 by decide)
  obtain⟨kk,hkk⟩:∃kk:Nat,c1%(ss.length:Int)=kk:=⟨(c1%(ss.length:Int)).toNat,by lia⟩
  have e1:=Zab (i:=(kk:Int)+1) (m:=ss.length) (by lia)
  have le:((kk:Int)+1).toNat=kk+1:=by lia
  simp![Zbi,r,hkk,ZaN,Zb3,le];refine⟨by rw[cI];lia,by rw[cI,fZ];lia,?_⟩
  have gi:=fun hl hg=>Gr1.ins (k:=kk) g (by lia) hl hg
  have li:=Zea (rs:=ss) (k:=kk) (p:=((cy ss kk).1+(cy ss (kk+1)).1,(cy ss kk).2+(cy ss (kk+1)).2)) (by lia)
  have bi:Nr 18446744073709551615 (ins ss kk ((cy ss kk).1+(cy ss (kk+1)).1,(cy ss kk).2+(cy ss (kk+1)).2)):=by
   have b:=Zn0 (n:=ss.length) (by lia)
   have b1:=Nr.cy g.nr g.sm.ne kk;have b2:=Nr.cy g.nr g.sm.ne (kk+1);exact Nr.ins (fun x hx=>by have:=g.nr x hx;lia) (by simp only;lia)
  generalize hA:M2++[SO.lst (prs (ss.take (kk+1))),SO.lst [D.tup [D.int ((cy ss kk).1+(cy ss (kk+1)).1),D.int ((cy ss kk).2+(cy ss (kk+1)).2)]],SO.lst (prs (ss.take (kk+1)++[((cy ss kk).1+(cy ss (kk+1)).1,(cy ss kk).2+(cy ss (kk+1)).2)])),SO.lst (prs (ss.drop (kk+1))),SO.lst (prs (ss.take (kk+1)++((cy ss kk).1+(cy ss (kk+1)).1,(cy ss kk).2+(cy ss (kk+1)).2)::ss.drop (kk+1)))]=M3;have K3:Kp M2 M3:=by rw[<-hA];exact Kp.app
  have rn:M3[M2.length+4]?=some (.lst (prs (ins ss kk ((cy ss kk).1+(cy ss (kk+1)).1,(cy ss kk).2+(cy ss (kk+1)).2)))):=by rw[<-hA,ZrH];rfl
  clear hA;generalize M2.length+4=on at *;generalize ins ss kk ((cy ss kk).1+(cy ss (kk+1)).1,(cy ss kk).2+(cy ss (kk+1)).2)=ms at *;refine ZvG (fun b M'=>Kp M3 M'/\(b=true->(ss.length:Int)<ct/\RT.ge2 (ZF ms)=true)) ?_ ?_
  ·refine brO (fun z=>?_) (fun z=>?_)
   ·simp![Zm];refine CC.Zly rn (by lia) (by lia) bi ?_
    have K4:Kp M3 (M3++[SO.lst (nts (ZF ms))]):=Kp.app;obtain⟨v,hv⟩:∃v,(ZF ms).min?=some v:=by
     cases e:(ZF ms).min? with
     |some v=>exact⟨v,rfl⟩
     |none=>
      rw[fJ]at e;have z:(ZF ms).length=0:=by rw[e];rfl
      rw[ZT]at z;lia
    simp![CC.ZM,hv];refine⟨K4,fun u=>⟨z,?_⟩⟩;have u:=of_decide_eq_true u;rw[RT.Zbc];intro t ht
    have:=(d6.mp hv).2 t ht
    lia
   ·simp![Zm];exact⟨Kp.refl,fun u=>by cases u⟩
  rintro b M4 ⟨K4,hb⟩;simp![Zm];refine Zt9 (fun z=>?_) (fun z=>?_)
  ·obtain⟨z1,z2⟩:=hb z;simp![Zm];exact⟨ms,on,_,_,_,_,_,_,_,rfl,d9,gi (by lia) z2,K4.get rn,K.trans (K3.trans K4)⟩
  ·simp![Zm];exact⟨ss,m,_,_,_,_,_,_,_,rfl,d9,g,(K3.trans K4).get r,K.trans (K3.trans K4)⟩
 ·rintro ρ M2 ⟨ss,m,c1,x3,x4,x5,x6,x7,x8,rfl,hc1,g,r,K⟩;have o:=g.one;simp![Zm];refine CC.Znu r o.sm o.nr (by have:=o.l9;lia) fun ts mt M3 hx t1 t2 t3 t4 t5 t6=>?_
  have ot:=o.turn hx t1 t2 t3;have K3:Kp M2 M3:=⟨t5,t6⟩;have l3:=t1.len;have l9:=ot.l9;have d12:=jb hc1 (show(0:Int)<=1000000000000 by decide)
  have a0:=dF (c1/1000000000000) (show(ts.length:Int)≠0 by lia)
  have a1:=cC (c1/1000000000000) (show(0:Int)<(ts.length:Int)by lia)
  obtain⟨kk,hkk⟩:∃kk:Nat,c1/1000000000000%(ts.length:Int)=kk:=⟨(c1/1000000000000%(ts.length:Int)).toNat,by lia⟩
  have le:((kk:Nat):Int).toNat=kk:=by lia
  have hm3:=ZA t4;simp![t4,hkk,le];refine⟨by rw[fZ,cI];lia,q _ _ _ (ot.rot (k:=kk) (by lia)) (by rw[ZrH];rfl) (K.trans (K3.trans Kp.app))⟩
end
end OP
namespace K62
open CR (Zco F_is_whole Zau ZaP F_greatest_divisor ZfB F_ratio ZfC F_times)
open CC (ZaG F_crossed ZaH F_following Z4 ZaI F_unspanned Zat F_ask_smooth Za9 F_law_cell_at Zdd F_law_cross Zba Zbb Zck F_law_turn Zcl F_law_tags ZW Zal ZaU F_law_are_rays)
open DT (Zdp F_product ZfO F_width Zcq F_lessened ZaL Zby F_least_wide ZaB Zcr F_two_ways Z6 Zbf F_dots_across Zdq Zjl F_dots)
open CS (ZfE F_minus Zbw F_ask_height ZaJ F_slope_through)
open CD (ZiZ F_less)
open BD (Zac ZaK F_common_bottom ZbQ F_stretched Zdl Zi4 F_edge Zcp F_in_order Zdm Zdn Zi5 F_body)
open OP (Zbh Zcu F_next_dot ZX Zbi Zcv F_law_ones Zbj Zbk Zbl Zcw F_law_dots)
open L2 DL
structure Txt(K:Fg) (mg:Str->Option ae):Prop extends Bs mg where
 gl:∀c v,PySem.W.nsIn K aO c=some (some v)->mg c=some v
 d:Dfs K top tab
 ex_NotSmooth:ZmE K "NotSmooth"=true
 ex_NoRatio:ZmE K "NoRatio"=true
 ex_NoHeight:ZmE K "NoHeight"=true
 lm_m:Zm5 K=true
 lb_in_order:ZrG K "in_order"=true
 lb_dots:ZrG K "dots"=true
 ex_NoOne:ZmE K "NoOne"=true
section
variable {P:cH}{w:c8}{K:Fg}{mg:Str->Option ae}{base:Heap}
def Zb6:Sv:=(ZB (Za4 (Zj F_ask_smooth (Zc (Zf 0) aNil))) (Z9 (Zai (iR1 (Zc (Zj bLen (Zc (Zf 0) aNil)) aNil)) 1 [0] (gNm 0) (fun _ M=>.ok true M) (Zj F_crossed (Zc (Zj F_following (Zc (Zf 1) (Zc (Zf 0) aNil))) (Zc (e2 dIx (Zf 1) (e2 dSub (Zf 0) (eC (.int 1)))) aNil))))))
def F_numbers:W3:=fnF Zb6 1 0
def Zb9:Sv:=(sIf (tv (e2 dLt (Zj (ZaS gg) (Zc (Zj F_numbers (Zc (Zf 0) aNil)) aNil)) (ZbM (eC (.int 2))))) (ZcB (PySem.Str.ofString "NoOne") (Zc (eC (.str (PySem.Str.ofString "a one has no number below -2"))) aNil)) sNil)
def F_ask_one:W3:=fnF Zb9 1 0
def Zap:Sv:=(ZB (Za4 (Zj F_ask_one (Zc (Zf 0) aNil))) (ZB (ZJ (gNm 1) (Zai (iSq (Zj F_dots (Zc (Zf 0) (Zc (Zai (iSq (Zf 0)) 1 [] (gNm 0) (fun _ M=>.ok true M) (Z5 (Zc (eC (.int 1)) (Zc (eC (.int 1)) aNil)))) aNil)))) 1 [] (gNm 0) (tv (e2 dNe (Zf 0) (Z5 (Zc (eC (.int 0)) (Zc (eC (.int 0)) aNil))))) (Zf 0))) (ZB (ZJ (gNm 2) (Zdt (Zc (e2 dIx (Zf 1) (eC (.int 0))) aNil))) (ZB (sWh (tv (e2 dLt (Zj bLen (Zc (Zf 2) aNil)) (Zj bLen (Zc (Zf 1) aNil)))) ZX) (Z9 (Zf 2))))))
def F_opposite_one:W3:=fnF Zap 1 2
def ZbK:Sv:=(ZB (ZJ (gNm 5) (e2 dIx (Zf 2) (e2 dMod (e2 dAdd (Zf 4) (eC (.int 1))) (Zj bLen (Zc (Zf 2) aNil))))) (ZB (sIf (tv (e2 dNe (Zj F_law_cross (Zc (e2 dIx (Zf 2) (Zf 4)) (Zc (Zf 5) aNil))) (eC (.int 1)))) (Z9 (eC (.bl false))) sNil) (sIf (Zel (ZbL (tv (e2 dLt (e2 dIx (e2 dIx (Zf 2) (Zf 4)) (eC (.int 1))) (eC (.int 0)))) (tv (e2 dGt (e2 dIx (Zf 5) (eC (.int 1))) (eC (.int 0))))) (ZbL (tv (e2 dEq (e2 dIx (e2 dIx (Zf 2) (Zf 4)) (eC (.int 1))) (eC (.int 0)))) (tv (e2 dGt (e2 dIx (e2 dIx (Zf 2) (Zf 4)) (eC (.int 0))) (eC (.int 0)))))) (ZJ (gNm 3) (e2 dAdd (Zf 3) (eC (.int 1)))) sNil)))
def Zds:Sv:=(ZB (sIf (Zel (Zcd (tv (Zj F_law_are_rays (Zc (Zf 2) aNil)))) (tv (e2 dNe (e2 dAdd (Zj bLen (Zc (Zf 2) aNil)) (Zj bLen (Zc (Zf 0) aNil))) (eC (.int 12))))) (Z9 (eC (.bl false))) sNil) (ZB (sIf (Zel (tv (e2 dNe (Zj bSrt (Zc (Zf 2) aNil)) (Zj bSrt (Zc (Zf 1) aNil)))) (tv (e2 dNe (e2 dIx (Zf 2) (eC (.int 0))) (e2 dIx (Zf 1) (eC (.int 0)))))) (Z9 (eC (.bl false))) sNil) (ZB (ZJ (gNm 3) (eC (.int 0))) (ZB (ZbH (gNm 4) (Zc (Zj bLen (Zc (Zf 2) aNil)) aNil) ZbK) (Z9 (ZgX (e2 dEq (Zf 3) (eC (.int 1))) (e2 dGe (Zj (ZaS gg) (Zc (Zj F_law_tags (Zc (Zf 2) aNil)) aNil)) (ZbM (eC (.int 2))))))))))
def F_law_right:W3:=fnF Zds 3 3
def Zej:Sv:=(ZB (ZJ (gNm 2) (Zj F_law_ones (Zc (Zj F_law_cell_at (Zc (Zf 0) (Zc (Zf 1) aNil))) aNil))) (ZB (sIf (tv (e2 dGt (Zj (ZaS jj) (Zc (Zai (iSq (Zf 2)) 2 [] (gTp (gCs (gNm 0) (gCs (gNm 1) gNl))) (fun _ M=>.ok true M) (e2 dAdd (Zj bAbs (Zc (Zf 0) aNil)) (Zj bAbs (Zc (Zf 1) aNil)))) aNil)) (eC (.int 10)))) (ZJ (gNm 2) (Zdt (Zc (Z5 (Zc (eC (.int 1)) (Zc (eC (.int 0)) aNil))) (Zc (Z5 (Zc (eC (.int 0)) (Zc (eC (.int 1)) aNil))) (Zc (Z5 (Zc (ZbM (eC (.int 1))) (Zc (ZbM (eC (.int 1))) aNil))) aNil))))) sNil) (ZB (ZJ (gNm 3) (Zj F_law_dots (Zc (Zf 2) aNil))) (ZB (ZJ (gNm 4) (Zj bList (Zc (Zf 2) aNil))) (ZB (ZJ (gNm 5) (Zj F_opposite_one (Zc (Zf 4) aNil))) (ZB (sIf (Zel (tv (e2 dNe (Zf 4) (Zf 2))) (Zcd (tv (Zj F_law_right (Zc (Zf 2) (Zc (Zf 3) (Zc (Zf 5) aNil))))))) (Z9 (eC (.bl false))) sNil) (ZB (Za4 (Zgi mApp (Zf 5) (Zc (Z5 (Zc (eC (.int 0)) (Zc (eC (.int 0)) aNil))) aNil))) (sIf (Zel (Zcd (tv (Zj F_law_right (Zc (Zf 2) (Zc (Zf 3) (Zc (Zj F_opposite_one (Zc (Zf 4) aNil)) aNil)))))) (tv (e2 dNe (Zf 4) (Zf 2)))) (Z9 (eC (.bl false))) sNil))))))))
def Zrv:Sv:=(ZB (ZbH (gNm 1) (Zc (Zj bMax (Zc (eC (.int 2)) (Zc (Zj bMin (Zc (Zj bLen (Zc (Zf 0) aNil)) (Zc (eC (.int 3)) aNil))) aNil))) aNil) Zej) (Z9 (eC (.bl true))))
def Zek:W3:=fnF Zrv 1 5
variable (T:Txt K mg)
include T
theorem C1:Cal P w K mg base "is_whole" 1 1 F_is_whole:=ZV (N:=["thing"]) (T.d.at 0 7) T.gl fun _ _ _ _ _ _ _ nd hr θ=>(Zh (Zx (Zk2 (ZdB ZhO T.b_isinstance T.b_int Zla (Za 0)) (Zk1 (ZoU (ZdB Zf7 T.b_isinstance T.b_bool ZhU (Za 0)))))))
theorem C2:Cal P w K mg base "greatest_divisor" 101 2 F_greatest_divisor:=ZV (N:=["one","other","high","low"]) (T.d.at 1 8) T.gl fun _ _ _ _ _ _ _ nd hr θ=>(Zg (ZdD 2 3 (Zv hr (by decide)) nd (Zb (Zl ZbB ZdA T.b_abs ZdF (Zb (Za 0) Zd)) (Zb (Zl ZbB ZdA T.b_abs ZdF (Zb (Za 1) Zd)) Zd)))
  (Zg (ZcN θ.own (Zt (Zbo hr.units) ZcH (Za 3) Ze) (Zh (ZdD 2 3 (Zv hr (by decide)) nd (Zb (Za 3) (Zb (Zae (Za 2) (Za 3)) Zd)))))
  (Zh (Zx (Za 2)))))
theorem C3:Cal P w K mg base "crossed" 1 2 F_crossed:=ZV (N:=["one","other"]) (T.d.at 2 10) T.gl fun _ _ _ _ _ _ _ nd hr θ=>(Zh (Zx (Zad (ZD (Zp (Za 0) Ze) (Zp (Za 1) Ze)) (ZD (Zp (Za 0) Ze) (Zp (Za 1) Ze)))))
theorem C4:Cal P w K mg base "product" 1 2 F_product:=ZV (N:=["one","other"]) (T.d.at 3 11) T.gl fun _ _ _ _ _ _ _ nd hr θ=>(Zh (Zx (ZK (ZD (Zp (Za 0) Ze) (Zp (Za 1) Ze)) (ZD (Zp (Za 0) Ze) (Zp (Za 1) Ze)))))
theorem C5:Cal P w K mg base "following" 1 2 F_following:=ZV (N:=["things","at"]) (T.d.at 4 13) T.gl fun _ _ _ _ _ _ _ nd hr θ=>(Zh (Zx (Zp (Za 0) (Zae (ZK (Za 1) Ze) (Zl Zo ZZ T.b_len PySem.boot_len (Zb (Za 0) Zd))))))
theorem C6:Cal P w K mg base "unspanned" 101 1 F_unspanned:=ZV (N:=["rays","at","ray"]) (T.d.at 5 14) T.gl fun _ _ _ _ _ _ _ nd hr θ=>(Zg (Zfn θ.own (ZmK (hr.hd (by decide)) T.b_enumerate (Zb (Za 0) Zd)) (Zay (Zv hr (by decide)) (Zu (Zk 1 nd) (Zu (Zk 2 nd) Z2)) (hlen:=(ZC (ZC (fun _ _ _ h=>Z3 h))))) (Zh (ZP (Zt (Zbo hr.units) ZcH (Zi (C3 T) θ hr (Zb (Za 2) (Zb (Zi (C5 T) θ hr (Zb (Za 0) (Zb (Za 1) Zd))) Zd))) Ze) (Zh (Zx (Za 1))) Zz)))
  (Zh (Zx ZbF)))
theorem C7:Cal P w K mg base "ask_smooth" 102 1 F_ask_smooth:=ZV (N:=["rays","at"]) (T.d.at 6 15) T.gl fun _ _ _ _ _ _ _ nd hr θ=>(Zg (Zn 1 nd (Zi (C6 T) θ hr (Zb (Za 0) Zd))) (Zh (ZP (Zt ZhL ZjW (Za 1) ZbF) (Zh (ZbY θ T.ex_NotSmooth T.gl (hr.hd (by decide)) (Zb (Zpn (Zbv Zcy (Zbv (ZmN (Za 1)) (Zbv Zcy Zlf)))) Zd))) Zz)))
theorem C8:Cal P w K mg base "numbers" 103 1 F_numbers:=ZV (N:=["rays"]) (T.d.at 7 17) T.gl fun _ _ _ _ _ _ _ nd hr θ=>(Zg (Zah (Zi (C7 T) θ hr (Zb (Za 0) Zd))) (Zh (Zx (Zaj (ZdK ["rays"] ["at","rays"] (dS 17) 1 [0]) (ZeG T.b_range (Zb (Zl Zo ZZ T.b_len PySem.boot_len (Zb (Za 0) Zd)) Zd)) fun _ _ _ _ _=>⟨(Zk 0 (show bG (["at","rays"]:List Str)by decide +kernel)),(dJ ⟨rfl,rfl⟩),(Zi (C3 T) Za6 hr (Zb (Zi (C5 T) Za6 hr (Zb (Za 1) (Zb (Za 0) Zd))) (Zb (Zp (Za 1) (Zad (Za 0) Ze)) Zd)))⟩))))
theorem C9:Cal P w K mg base "ratio" 102 2 F_ratio:=ZV (N:=["top","bottom","part"]) (T.d.at 8 19) T.gl fun _ _ _ _ _ _ _ nd hr θ=>(Zg (ZP (ZcY (Zce (Zcz (Zbn (Zi (C1 T) θ hr (Zb (Za 0) Zd)))) (ZaY (Zcz (Zbn (Zi (C1 T) θ hr (Zb (Za 1) Zd))))))) (Zh (ZbY θ T.ex_NoRatio T.gl (hr.hd (by decide)) (Zb Zcy Zd))) Zz)
  (Zg (ZP (Zt (ZbU hr.units) ZdX (Za 1) Ze) (Zh (ZbY θ T.ex_NoRatio T.gl (hr.hd (by decide)) (Zb Zcy Zd))) Zz)
  (Zg (Zn 2 nd (Zi (C2 T) θ hr (Zb (Za 0) (Zb (Za 1) Zd)))) (Zg (ZP (Zt Zcb Zcf (Za 1) Ze) (Zh (Zn 2 nd (ZR (Za 2)))) Zz) (Zh (Zx (Zw (Zb (ZY (Za 0) (Za 2)) (Zb (ZY (Za 1) (Za 2)) Zd)))))))))
theorem C10:Cal P w K mg base "minus" 103 2 F_minus:=ZV (N:=["one","other"]) (T.d.at 9 20) T.gl fun _ _ _ _ _ _ _ nd hr θ=>(Zh (Zx (Zi (C9 T) θ hr (Zb (Zad (ZD (Zp (Za 0) Ze) (Zp (Za 1) Ze)) (ZD (Zp (Za 1) Ze) (Zp (Za 0) Ze))) (Zb (ZD (Zp (Za 0) Ze) (Zp (Za 1) Ze)) Zd)))))
theorem C11:Cal P w K mg base "times" 103 2 F_times:=ZV (N:=["one","other"]) (T.d.at 10 21) T.gl fun _ _ _ _ _ _ _ nd hr θ=>(Zh (Zx (Zi (C9 T) θ hr (Zb (ZD (Zp (Za 0) Ze) (Zp (Za 1) Ze)) (Zb (ZD (Zp (Za 0) Ze) (Zp (Za 1) Ze)) Zd)))))
theorem C12:Cal P w K mg base "less" 1 2 F_less:=ZV (N:=["one","other"]) (T.d.at 11 22) T.gl fun _ _ _ _ _ _ _ nd hr θ=>(Zh (Zx (ZhG Zcb Zcf (ZD (Zp (Za 0) Ze) (Zp (Za 1) Ze)) (ZD (Zp (Za 1) Ze) (Zp (Za 0) Ze)))))
theorem C13:Cal P w K mg base "common_bottom" 102 1 F_common_bottom:=ZV (N:=["ones","bottom","one"]) (T.d.at 12 23) T.gl fun _ _ _ _ _ _ _ nd hr θ=>(Zg (Zn 1 nd Ze) (Zg (ZdE θ.own (Za 0) (Zk 2 nd) (Zh (Zn 1 nd (ZD (Za 1) (ZY (Zp (Za 2) Ze) (Zi (C2 T) θ hr (Zb (Za 1) (Zb (Zp (Za 2) Ze) Zd)))))))) (Zh (Zx (Za 1)))))
theorem C14:Cal P w K mg base "stretched" 1 2 F_stretched:=ZV (N:=["one","bottom"]) (T.d.at 13 24) T.gl fun _ _ _ _ _ _ _ nd hr θ=>(Zh (Zx (ZD (Zp (Za 0) Ze) (ZY (Za 1) (Zp (Za 0) Ze)))))
theorem C15:Cal P w K mg base "ask_height" 101 2 F_ask_height:=ZV (N:=["rays","height"]) (T.d.at 14 26) T.gl fun _ _ _ _ _ _ _ nd hr θ=>(Zh (ZP (Zt (Zbo hr.units) ZcH (Zl Zo ZZ T.b_len PySem.boot_len (Zb (Za 1) Zd)) (Zl Zo ZZ T.b_len PySem.boot_len (Zb (Za 0) Zd))) (Zh (ZbY θ T.ex_NoHeight T.gl (hr.hd (by decide)) (Zb (Zpn (Zbv Zcy (Zbv (ZmN (Zl Zo ZZ T.b_len PySem.boot_len (Zb (Za 0) Zd))) (Zbv Zcy (Zbv (ZmN (Zl Zo ZZ T.b_len PySem.boot_len (Zb (Za 1) Zd))) (Zbv Zcy Zlf)))))) Zd))) Zz))
theorem C16:Cal P w K mg base "slope_through" 104 2 F_slope_through:=ZV (N:=["rays","height","a","b","c","d","first","second"]) (T.d.at 15 27) T.gl fun _ _ _ _ _ _ _ nd hr θ=>(Zg (ZdC (Zw (Zb (Zp (Za 0) Ze) (Zb (Zp (Za 0) Ze) Zd))) (Zay (Zv hr (by decide)) (Zu (Zay (Zv hr (by decide)) (Zu (Zk 2 nd) (Zu (Zk 3 nd) Z2)) (hlen:=(ZC (ZC (fun _ _ _ h=>Z3 h))))) (Zu (Zay (Zv hr (by decide)) (Zu (Zk 4 nd) (Zu (Zk 5 nd) Z2)) (hlen:=(ZC (ZC (fun _ _ _ h=>Z3 h))))) Z2)) (hlen:=(ZC (ZC (fun _ _ _ h=>Z3 h))))))
  (Zg (ZdD 6 7 (Zv hr (by decide)) nd (Zb (Zp (Za 1) Ze) (Zb (Zp (Za 1) Ze) Zd)))
  (Zh (Zx (Zw (Zb (Zi (C10 T) θ hr (Zb (Zi (C11 T) θ hr (Zb (Za 6) (Zb (Zw (Zb (Za 5) (Zb Ze Zd))) Zd))) (Zb (Zi (C11 T) θ hr (Zb (Za 7) (Zb (Zw (Zb (Za 3) (Zb Ze Zd))) Zd))) Zd))) (Zb (Zi (C10 T) θ hr (Zb (Zi (C11 T) θ hr (Zb (Za 7) (Zb (Zw (Zb (Za 2) (Zb Ze Zd))) Zd))) (Zb (Zi (C11 T) θ hr (Zb (Za 6) (Zb (Zw (Zb (Za 4) (Zb Ze Zd))) Zd))) Zd))) Zd)))))))
theorem C17:Cal P w K mg base "edge" 105 3 F_edge:=ZV (N:=["rays","height","at","ray","behind","own","low","high","other","its","across","asked","bottom"]) (T.d.at 16 29) T.gl fun _ _ _ _ _ _ _ nd hr θ=>(Zg (ZdC (Zw (Zb (Zp (Za 0) (Za 2)) (Zb (Zi (C5 T) θ hr (Zb (Za 0) (Zb (Za 2) Zd))) Zd))) (Zay (Zv hr (by decide)) (Zu (Zk 3 nd) (Zu (Zk 4 nd) Z2)) (hlen:=(ZC (ZC (fun _ _ _ h=>Z3 h))))))
  (Zg (Zn 5 nd (Zp (Za 1) (Za 2))) (Zg (Zia ZbF (Zk 6 nd) (Zk 7 nd)) (Zg (Zfn θ.own (Zle (hr.hd (by decide)) T.b_zip (Zb (Za 0) (Zb (Za 1) Zd))) (Zay (Zv hr (by decide)) (Zu (Zk 8 nd) (Zu (Zk 9 nd) Z2)) (hlen:=(ZC (ZC (fun _ _ _ h=>Z3 h))))) (Zg (Zn 10 nd (Zi (C3 T) θ hr (Zb (Za 3) (Zb (Za 8) Zd))))
  (Zg (Zn 11 nd (Zad (ZD (ZD (Zi (C3 T) θ hr (Zb (Za 8) (Zb (Za 4) Zd))) (Zp (Za 5) Ze)) (Zp (Za 9) Ze)) (ZD (Zp (Za 9) Ze) (Zp (Za 5) Ze)))) (Zg (Zn 12 nd (ZD (ZD (Za 10) (Zp (Za 5) Ze)) (Zp (Za 9) Ze))) (Zg (ZP (ZcY (ZbG (Zt (ZbU hr.units) ZdX (Za 10) Ze) (ZaQ (Zt ZcU ZcZ (Za 11) Ze)))) (Zh (Zx (ZaE Zd))) Zz) (Zg (ZP (ZcY (ZbG (Zt ZcU ZcZ (Za 10) Ze) (ZaQ (ZcY (Zce (Zt Zez ZhM (Za 6) ZbF) (ZaY (Zbn (Zi (C12 T) θ hr (Zb (Za 6) (Zb (Zw (Zb (Za 11) (Zb (Za 12) Zd))) Zd)))))))))) (Zh (Zn 6 nd (Zw (Zb (Za 11) (Zb (Za 12) Zd))))) Zz) (Zh (ZP (ZcY (ZbG (Zt Zcb Zcf (Za 10) Ze) (ZaQ (ZcY (Zce (Zt Zez ZhM (Za 7) ZbF) (ZaY (Zbn (Zi (C12 T) θ hr (Zb (Zw (Zb (ZR (Za 11)) (Zb (ZR (Za 12)) Zd))) (Zb (Za 7) Zd)))))))))) (Zh (Zn 7 nd (Zw (Zb (ZR (Za 11)) (Zb (ZR (Za 12)) Zd))))) Zz))))))))
  (Zg (ZP (Zbn (Zi (C12 T) θ hr (Zb (Za 7) (Zb (Za 6) Zd)))) (Zh (Zx (ZaE Zd))) Zz) (Zh (Zx (Zaj (ZdK ["rays","height","at","ray","behind","own","low","high","other","its","across","asked","bottom"] ["end","ray","behind","own"] (dS 29) 1 [3,4,5]) (Zaf (Zw (Zb (Za 6) (Zb (Za 7) Zd)))) fun _ _ _ _ _=>⟨(Zk 0 (show bG (["end","ray","behind","own"]:List Str)by decide +kernel)),(dJ ⟨rfl,rfl⟩),(Zi (C16 T) Za6 hr (Zb (ZaE (Zb (Za 1) (Zb (Za 2) Zd))) (Zb (ZaE (Zb (Zw (Zb (ZR (Zp (Za 3) Ze)) (Zb (Zp (Za 3) Ze) Zd))) (Zb (Zi (C9 T) Za6 hr (Zb (Zp (Za 0) Ze) (Zb (Zp (Za 0) Ze) Zd))) Zd))) Zd)))⟩))))))))
theorem C18:Cal P w K mg base "in_order" 106 1 F_in_order:=Zln (N:=["points","bottom"]) (T.d.at 17 30) T.lb_in_order T.gl fun _ _ _ _ _ _ _ hc nd hr θ=>(Zg (Zn 1 nd (Zi (C13 T) θ hr (Zb (Zgm (ZdK ["points","bottom"] ["point","part"] (dS 30) 2 []) (Zaf (Za 0)) fun _ _ _ _ _=>⟨(Zk 0 (show bG (["point","part"]:List Str)by decide +kernel)),(dJ ⟨rfl,rfl⟩),(Zaf (Za 0)),(Zk 1 (show bG (["point","part"]:List Str)by decide +kernel)),(dJ ⟨rfl,rfl⟩),(Za 1)⟩) Zd)))
  (Zh (Zx (Zgp (k:=102) (Zgr T.lm_m) hc (hr.mono (by decide)) (Zt5 (x:="point") ["points","bottom"] ["point","bottom"] (dS 30) [1]) T.b_sorted (Zb (Za 0) Zd) (fun _ _ _ _ _ hr=>(Zw (Zb (Zi (C14 T) Zio hr (Zb (Zp (Za 0) Ze) (Zb (Za 1) Zd))) (Zb (Zi (C14 T) Zio hr (Zb (Zp (Za 0) Ze) (Zb (Za 1) Zd))) Zd))))))))
theorem C19:Cal P w K mg base "body" 107 2 F_body:=ZV (N:=["rays","height","met","at","point"]) (T.d.at 18 31) T.gl fun _ _ _ _ _ _ _ nd hr θ=>(Zg (Zah (Zi (C7 T) θ hr (Zb (Za 0) Zd))) (Zg (Zah (Zi (C15 T) θ hr (Zb (Za 0) (Zb (Za 1) Zd)))) (Zg (Zn 2 nd Zpq) (Zg (ZbC θ.own T.b_range (Zb (Zl Zo ZZ T.b_len PySem.boot_len (Zb (Za 0) Zd)) Zd) (Zk 3 nd) (Zh (ZdE θ.own (Zi (C17 T) θ hr (Zb (Za 0) (Zb (Za 1) (Zb (Za 3) Zd)))) (Zk 4 nd) (Zh (ZmS hr.units (Za 2) (Za 4) ZcX))))) (Zh (Zx (Zi (C18 T) θ hr (Zb (ZeA (Zg4 (hr.hd (by decide))) ZmT T.b_list Zfi (Zb (Za 2) Zd)) Zd))))))))
theorem C20:Cal P w K mg base "width" 101 2 F_width:=ZV (N:=["points","ray","given"]) (T.d.at 19 33) T.gl fun _ _ _ _ _ _ _ nd hr θ=>(Zg (Zd1 2 nd (ZdK ["points","ray","given"] ["point","ray"] (dS 33) 1 [1]) (Zaf (Za 0)) fun _ _ _ _ _=>⟨(Zk 0 (show bG (["point","ray"]:List Str)by decide +kernel)),(dJ ⟨rfl,rfl⟩),(Zi (C4 T) Za6 hr (Zb (Za 0) (Zb (Za 1) Zd)))⟩)
  (Zh (Zx (Zad (Zl (Za0 (Zv hr (by decide))) Zcg T.b_max Zc1 (Zb (Za 2) Zd)) (Zl (Zas (Zv hr (by decide))) Zbu T.b_min ZbV (Zb (Za 2) Zd))))))
theorem C21:Cal P w K mg base "lessened" 1 3 F_lessened:=ZV (N:=["wide","many","narrow"]) (T.d.at 20 34) T.gl fun _ _ _ _ _ _ _ nd hr θ=>(Zh (Zx (Zw (Zb (Zad (Zp (Za 0) Ze) (ZD (Za 1) (Zp (Za 2) Ze))) (Zb (Zad (Zp (Za 0) Ze) (ZD (Za 1) (Zp (Za 2) Ze))) Zd)))))
theorem C22:Cal P w K mg base "least_wide" 102 3 F_least_wide:=ZV (N:=["points","wide","narrow","high","low","middle","here","onward"]) (T.d.at 21 35) T.gl fun _ _ _ _ _ _ _ nd hr θ=>(Zg (Zn 3 nd (ZK (ZY (ZD Ze (Zi (C20 T) θ hr (Zb (Za 0) (Zb (Za 1) Zd)))) (Zi (C20 T) θ hr (Zb (Za 0) (Zb (Za 2) Zd)))) Ze)) (Zg (Zn 4 nd (ZR (Za 3))) (Zg (ZcN θ.own (Zt Zcb Zcf (Za 4) (Za 3)) (Zg (Zn 5 nd (ZY (ZK (Za 4) (Za 3)) Ze)) (Zg (ZdD 6 7 (Zv hr (by decide)) nd (Zb (Zi (C21 T) θ hr (Zb (Za 1) (Zb (Za 5) (Zb (Za 2) Zd)))) (Zb (Zi (C21 T) θ hr (Zb (Za 1) (Zb (ZK (Za 5) Ze) (Zb (Za 2) Zd)))) Zd)))
  (Zh (ZP (Zt ZoB Zo1 (Zi (C20 T) θ hr (Zb (Za 0) (Zb (Za 6) Zd))) (Zi (C20 T) θ hr (Zb (Za 0) (Zb (Za 7) Zd)))) (Zh (Zn 3 nd (Za 5))) (Zh (Zn 4 nd (ZK (Za 5) Ze))))))))
  (Zh (Zx (Zi (C21 T) θ hr (Zb (Za 1) (Zb (Za 4) (Zb (Za 2) Zd)))))))))
theorem C23:Cal P w K mg base "two_ways" 103 1 F_two_ways:=ZV (N:=["points","narrow","wide","sign"]) (T.d.at 22 36) T.gl fun _ _ _ _ _ _ _ nd hr θ=>(Zg (ZdC (Zw (Zb (Zw (Zb Ze (Zb Ze Zd))) (Zb (Zw (Zb Ze (Zb Ze Zd))) Zd))) (Zay (Zv hr (by decide)) (Zu (Zk 1 nd) (Zu (Zk 2 nd) Z2)) (hlen:=(ZC (ZC (fun _ _ _ h=>Z3 h))))))
  (Zg (ZP (Zt Zcb Zcf (Zi (C20 T) θ hr (Zb (Za 0) (Zb (Za 2) Zd))) (Zi (C20 T) θ hr (Zb (Za 0) (Zb (Za 1) Zd)))) (Zh (ZdD 1 2 (Zv hr (by decide)) nd (Zb (Za 2) (Zb (Za 1) Zd)))) Zz)
  (Zg (ZcN θ.own (Zt ZcU ZcZ (Zi (C20 T) θ hr (Zb (Za 0) (Zb (Za 1) Zd))) Ze) (Zg (Zn 2 nd (Zi (C22 T) θ hr (Zb (Za 0) (Zb (Za 2) (Zb (Za 1) Zd))))) (Zg (ZP (Zt ZjJ ZjU (Zi (C20 T) θ hr (Zb (Za 0) (Zb (Za 2) Zd))) (Zi (C20 T) θ hr (Zb (Za 0) (Zb (Za 1) Zd)))) (Zh Zo7) Zz) (Zh (ZdD 1 2 (Zv hr (by decide)) nd (Zb (Za 2) (Zb (Za 1) Zd)))))))
  (Zg (Zn 3 nd (Zi (C3 T) θ hr (Zb (Za 1) (Zb (Za 2) Zd)))) (Zh (Zx (Zw (Zb (Za 1) (Zb (Zw (Zb (ZD (Za 3) (Zp (Za 2) Ze)) (Zb (ZD (Za 3) (Zp (Za 2) Ze)) Zd))) Zd)))))))))
theorem C24:Cal P w K mg base "dots_across" 101 4 F_dots_across:=ZV (N:=["rays","height","ways","given","narrow","wide","low","high","ray","own","across","reach"]) (T.d.at 23 37) T.gl fun _ _ _ _ _ _ _ nd hr θ=>(Zg (ZdC (Za 2) (Zay (Zv hr (by decide)) (Zu (Zk 4 nd) (Zu (Zk 5 nd) Z2)) (hlen:=(ZC (ZC (fun _ _ _ h=>Z3 h))))))
  (Zg (Zia ZbF (Zk 6 nd) (Zk 7 nd)) (Zg (Zfn θ.own (Zle (hr.hd (by decide)) T.b_zip (Zb (Za 0) (Zb (Za 1) Zd))) (Zay (Zv hr (by decide)) (Zu (Zk 8 nd) (Zu (Zk 9 nd) Z2)) (hlen:=(ZC (ZC (fun _ _ _ h=>Z3 h))))) (Zg (Zn 10 nd (ZD (Zi (C3 T) θ hr (Zb (Za 4) (Zb (Za 8) Zd))) (Zp (Za 9) Ze)))
  (Zg (Zn 11 nd (ZK (Zp (Za 9) Ze) (ZD (ZD (Zi (C3 T) θ hr (Zb (Za 8) (Zb (Za 5) Zd))) (Za 3)) (Zp (Za 9) Ze)))) (Zg (ZP (ZcY (ZbG (Zt ZcU ZcZ (Za 10) Ze) (ZaQ (ZcY (Zce (Zt Zez ZhM (Za 6) ZbF) (ZaY (Zt ZcU ZcZ (ZR (ZY (Za 11) (Za 10))) (Za 6)))))))) (Zh (Zn 6 nd (ZR (ZY (Za 11) (Za 10))))) Zz) (Zh (ZP (ZcY (ZbG (Zt Zcb Zcf (Za 10) Ze) (ZaQ (ZcY (Zce (Zt Zez ZhM (Za 7) ZbF) (ZaY (Zt Zcb Zcf (ZY (Za 11) (ZR (Za 10))) (Za 7)))))))) (Zh (Zn 7 nd (ZY (Za 11) (ZR (Za 10))))) Zz))))))
  (Zh (Zx (Zaj (ZdK ["rays","height","ways","given","narrow","wide","low","high","ray","own","across","reach"] ["other","given","narrow","wide"] (dS 37) 1 [3,4,5]) (ZhZ T.b_range (Zb (Za 6) (Zb (ZK (Za 7) Ze) Zd))) fun _ _ _ _ _=>⟨(Zk 0 (show bG (["other","given","narrow","wide"]:List Str)by decide +kernel)),(dJ ⟨rfl,rfl⟩),(Zw (Zb (Zad (ZD (Za 1) (Zp (Za 3) Ze)) (ZD (Za 0) (Zp (Za 2) Ze))) (Zb (Zad (ZD (Za 0) (Zp (Za 2) Ze)) (ZD (Za 1) (Zp (Za 3) Ze))) Zd)))⟩))))))
theorem C25:Cal P w K mg base "dots" 111 2 F_dots:=Zln (N:=["rays","height","points","bottom","wholes","ways","given","found","row"]) (T.d.at 24 38) T.lb_dots T.gl fun _ _ _ _ _ _ _ hc nd hr θ=>(Zg (Zn 2 nd (Zi (C19 T) θ hr (Zb (Za 0) (Zb (Za 1) Zd)))) (Zg (Zn 3 nd (Zi (C13 T) θ hr (Zb (Zgm (ZdK ["rays","height","points","bottom","wholes","ways","given","found","row"] ["point","part"] (dS 38) 2 []) (Zaf (Za 2)) fun _ _ _ _ _=>⟨(Zk 0 (show bG (["point","part"]:List Str)by decide +kernel)),(dJ ⟨rfl,rfl⟩),(Zaf (Za 0)),(Zk 1 (show bG (["point","part"]:List Str)by decide +kernel)),(dJ ⟨rfl,rfl⟩),(Za 1)⟩) Zd)))
  (Zg (Zd1 4 nd (ZdK ["rays","height","points","bottom","wholes","ways","given","found","row"] ["x","y","bottom"] (dS 38) 2 [3]) (Zaf (Za 2)) fun _ _ _ _ _=>⟨(Zay (Zv hr (by decide)) (Zu (Zk 0 (show bG (["x","y","bottom"]:List Str)by decide +kernel)) (Zu (Zk 1 (show bG (["x","y","bottom"]:List Str)by decide +kernel)) Z2)) (hlen:=(ZC (ZC (fun _ _ _ h=>Z3 h))))),(dJ ⟨rfl,rfl⟩),(Zw (Zb (Zi (C14 T) Za6 hr (Zb (Za 0) (Zb (Za 2) Zd))) (Zb (Zi (C14 T) Za6 hr (Zb (Za 1) (Zb (Za 2) Zd))) Zd)))⟩)
  (Zg (ZP (Zt (ZbU hr.units) ZdX (Za 4) (ZaE Zd)) (Zh (Zx (ZaE Zd))) Zz) (Zg (Zn 5 nd (Zi (C23 T) θ hr (Zb (Za 4) Zd))) (Zg (Zd1 6 nd (ZdK ["rays","height","points","bottom","wholes","ways","given","found","row"] ["point","ways"] (dS 38) 1 [5]) (Zaf (Za 4)) fun _ _ _ _ _=>⟨(Zk 0 (show bG (["point","ways"]:List Str)by decide +kernel)),(dJ ⟨rfl,rfl⟩),(Zi (C4 T) Za6 hr (Zb (Za 0) (Zb (Zp (Za 1) Ze) Zd)))⟩)
  (Zg (Zn 7 nd (ZaE Zd)) (Zg (ZdZ θ.own T.b_range (Zb (ZR (ZY (ZR (Zl (Zas (Zv hr (by decide))) Zbu T.b_min ZbV (Zb (Za 6) Zd))) (Za 3))) (Zb (ZK (ZY (Zl (Za0 (Zv hr (by decide))) Zcg T.b_max Zc1 (Zb (Za 6) Zd)) (Za 3)) Ze) Zd)) (Zk 8 nd) (Zh (Zah (Zpf PySem.F.slot_list_extend PySem.F.type_list_extend Zhw Zph (Za 7) (Zb (Zi (C24 T) θ hr (Zb (Za 0) (Zb (Za 1) (Zb (Za 5) (Zb (Za 8) Zd))))) Zd)))))
  (Zh (Zx (Zgp (k:=107) (Zgr T.lm_m) hc (hr.mono (by decide)) (Zt5 (x:="dot") ["rays","height","points","bottom","wholes","ways","given","found","row"] ["dot"] (dS 38) []) T.b_sorted (Zb (Za 7) Zd) (fun _ _ _ _ _ hr=>(Zw (Zb (Zp (Za 0) Ze) (Zb (Zp (Za 0) Ze) Zd)))))))))))))))
theorem C26:Cal P w K mg base "ask_one" 104 1 F_ask_one:=ZV (N:=["rays"]) (T.d.at 25 40) T.gl fun _ _ _ _ _ _ _ nd hr θ=>(Zh (ZP (Zt Zcb Zcf (Zl (Zas (Zv hr (by decide))) Zbu T.b_min ZbV (Zb (Zi (C8 T) θ hr (Zb (Za 0) Zd)) Zd)) (ZR Ze)) (Zh (ZbY θ T.ex_NoOne T.gl (hr.hd (by decide)) (Zb Zcy Zd))) Zz))
theorem C27:Cal P w K mg base "next_dot" 2 2 F_next_dot:=ZV (N:=["dot","others","best","other"]) (T.d.at 26 41) T.gl fun _ _ _ _ _ _ _ nd hr θ=>(Zg (Zn 2 nd ZbF) (Zg (ZdE θ.own (Za 1) (Zk 3 nd) (Zh (ZP (ZcY (ZbG (Zt ZcU ZcZ (Zi (C3 T) θ hr (Zb (Za 0) (Zb (Za 3) Zd))) Ze) (ZaQ (ZcY (Zce (Zt Zez ZhM (Za 2) ZbF) (ZaY (Zt ZcU ZcZ (Zi (C3 T) θ hr (Zb (Za 3) (Zb (Za 2) Zd))) Ze))))))) (Zh (Zn 2 nd (Za 3))) Zz))) (Zh (Zx (Za 2)))))
theorem C28:Cal P w K mg base "opposite_one" 112 1 F_opposite_one:=ZV (N:=["rays","others","told"]) (T.d.at 27 42) T.gl fun _ _ _ _ _ _ _ nd hr θ=>(Zg (Zah (Zi (C26 T) θ hr (Zb (Za 0) Zd))) (Zg (Zd1 1 nd (ZdK (n:=0) ["rays","others","told"] ["dot"] (dS 42) 1 []) (Zaf (Zi (C25 T) θ hr (Zb (Za 0) (Zb (Zaj (ZdK (n:=0) ["rays","others","told"] ["ray"] (dS 42) 1 []) (Zaf (Za 0)) fun _ _ _ _ _=>⟨(Zk 0 (show bG (["ray"]:List Str)by decide +kernel)),(dJ ⟨rfl,rfl⟩),(Zw (Zb Ze (Zb Ze Zd)))⟩) Zd)))) fun _ _ _ _ _=>⟨(Zk 0 (show bG (["dot"]:List Str)by decide +kernel)),(mQ ⟨_,rfl,(Zt (Zbo hr.units) ZcH (Za 0) (Zw (Zb Ze (Zb Ze Zd))))⟩),(Za 0)⟩)
  (Zg (Zn 2 nd (ZaE (Zb (Zp (Za 1) Ze) Zd))) (Zg (ZcN θ.own (Zt Zcb Zcf (Zl Zo ZZ T.b_len PySem.boot_len (Zb (Za 2) Zd)) (Zl Zo ZZ T.b_len PySem.boot_len (Zb (Za 1) Zd))) (Zh (Zah (Zar (Za 2) (Zi (C27 T) θ hr (Zb (Zp (Za 2) (ZR Ze)) (Zb (Za 1) Zd))))))) (Zh (Zx (Za 2)))))))
theorem C29:Cal P w K mg base "_law_cell_at" 1 2 F_law_cell_at:=ZV (N:=["_law_script","_law_k","_law_cell","_law_one"]) (T.d.at 28 44) T.gl fun _ _ _ _ _ _ _ nd hr θ=>(Zg (Zn 2 nd Ze) (Zg (ZP (Zt Zcb Zcf (Za 1) (Zl Zo ZZ T.b_len PySem.boot_len (Zb (Za 0) Zd))) (Zh (Zn 2 nd (Zae (Zp (Za 0) (Za 1)) (Zdz Ze Ze)))) Zz) (Zg (ZP (Zt Zcb Zcf (Za 2) (Zdz Ze Ze)) (Zg (Zn 3 nd (Zae (ZD (ZK (Za 2) (ZD Ze (ZK (Za 1) Ze))) Ze) (Zdz Ze Ze))) (Zh (Zn 2 nd (Zae (ZY (ZD (Za 3) (Za 3)) (Zdz Ze Ze)) (Zdz Ze Ze))))) Zz) (Zh (Zx (Za 2))))))
theorem C30:Cal P w K mg base "_law_cross" 1 2 F_law_cross:=ZV (N:=["_law_one","_law_other"]) (T.d.at 29 45) T.gl fun _ _ _ _ _ _ _ nd hr θ=>(Zh (Zx (Zad (ZD (Zp (Za 0) Ze) (Zp (Za 1) Ze)) (ZD (Zp (Za 0) Ze) (Zp (Za 1) Ze)))))
theorem C31:Cal P w K mg base "_law_turn" 101 2 F_law_turn:=ZV (N:=["_law_rays","_law_cell","_law_k","_law_much","_law_way","_law_new","_law_x","_law_y"]) (T.d.at 30 46) T.gl fun _ _ _ _ _ _ _ nd hr θ=>(Zg (ZbC θ.own T.b_range (Zb Ze Zd) (Zk 2 nd) (Zg (Zn 3 nd (Zad (Zae (ZY (Za 1) Ze) Ze) Ze)) (Zg (ZP (Zt (ZbU hr.units) ZdX (Zae (ZY (Za 1) Ze) Ze) Ze) (Zh (Zn 3 nd (Zad (Zae (ZY (Za 1) Ze) Ze) Ze))) Zz) (Zg (Zn 4 nd (Zae (Za 1) Ze)) (Zg (Zn 1 nd (ZY (Za 1) Ze)) (Zg (Zn 5 nd (ZaE Zd)) (Zg (ZdE θ.own (Za 0) (Zay (Zv hr (by decide)) (Zu (Zk 6 nd) (Zu (Zk 7 nd) Z2)) (hlen:=(ZC (ZC (fun _ _ _ h=>Z3 h))))) (Zh (ZP (Zt (ZbU hr.units) ZdX (Za 4) Ze) (Zh (Zah (Zar (Za 5) (Zw (Zb (ZK (Za 6) (ZD (Za 3) (Za 7))) (Zb (Za 7) Zd)))))) (Zh (ZP (Zt (ZbU hr.units) ZdX (Za 4) Ze) (Zh (Zah (Zar (Za 5) (Zw (Zb (Za 6) (Zb (ZK (Za 7) (ZD (Za 3) (Za 6))) Zd)))))) (Zh (ZP (Zt (ZbU hr.units) ZdX (Za 4) Ze) (Zh (Zah (Zar (Za 5) (Zw (Zb (Zad Ze (Za 7)) (Zb (Za 6) Zd)))))) (Zh (Zah (Zar (Za 5) (Zw (Zb (Za 6) (Zb (Za 7) Zd)))))))))))))
  (Zh (ZP (Zt ZoB Zo1 (Zl (Za0 (Zv hr (by decide))) Zcg T.b_max Zc1 (Zb (ZK (Zaj (ZdK (n:=0) ["_law_rays","_law_cell","_law_k","_law_much","_law_way","_law_new","_law_x","_law_y"] ["_law_x","_law_y"] (dS 46) 2 []) (Zaf (Za 5)) fun _ _ _ _ _=>⟨(Zay (Zv hr (by decide)) (Zu (Zk 0 (show bG (["_law_x","_law_y"]:List Str)by decide +kernel)) (Zu (Zk 1 (show bG (["_law_x","_law_y"]:List Str)by decide +kernel)) Z2)) (hlen:=(ZC (ZC (fun _ _ _ h=>Z3 h))))),(dJ ⟨rfl,rfl⟩),(Zl ZbB ZdA T.b_abs ZdF (Zb (Za 0) Zd))⟩) (Zaj (ZdK (n:=0) ["_law_rays","_law_cell","_law_k","_law_much","_law_way","_law_new","_law_x","_law_y"] ["_law_x","_law_y"] (dS 46) 2 []) (Zaf (Za 5)) fun _ _ _ _ _=>⟨(Zay (Zv hr (by decide)) (Zu (Zk 0 (show bG (["_law_x","_law_y"]:List Str)by decide +kernel)) (Zu (Zk 1 (show bG (["_law_x","_law_y"]:List Str)by decide +kernel)) Z2)) (hlen:=(ZC (ZC (fun _ _ _ h=>Z3 h))))),(dJ ⟨rfl,rfl⟩),(Zl ZbB ZdA T.b_abs ZdF (Zb (Za 1) Zd))⟩)) Zd)) Ze) (Zh (Zn 0 nd (Za 5))) Zz)))))))))
  (Zh (Zx (Za 0))))
theorem C32:Cal P w K mg base "_law_tags" 2 1 F_law_tags:=ZV (N:=["_law_rays","_law_many"]) (T.d.at 31 47) T.gl fun _ _ _ _ _ _ _ nd hr θ=>(Zg (Zn 1 nd (Zl Zo ZZ T.b_len PySem.boot_len (Zb (Za 0) Zd))) (Zh (Zx (Zaj (ZdK ["_law_rays","_law_many"] ["_law_k","_law_rays","_law_many"] (dS 47) 1 [0,1]) (ZeG T.b_range (Zb (Za 1) Zd)) fun _ _ _ _ _=>⟨(Zk 0 (show bG (["_law_k","_law_rays","_law_many"]:List Str)by decide +kernel)),(dJ ⟨rfl,rfl⟩),(Zad Ze (Zi (C30 T) Za6 hr (Zb (Zp (Za 1) (Zad (Za 0) Ze)) (Zb (Zp (Za 1) (Zae (ZK (Za 0) Ze) (Za 2))) Zd))))⟩))))
theorem C33:Cal P w K mg base "_law_are_rays" 1 1 F_law_are_rays:=ZV (N:=["_law_found","_law_ray","_law_x"]) (T.d.at 32 48) T.gl fun _ _ _ _ _ _ _ nd hr θ=>(Zg (ZP (Zcz (Zbn (ZdB ZjX T.b_isinstance T.b_list Zfi (Za 0)))) (Zh (Zx ZcX)) Zz) (Zg (ZdE θ.own (Za 0) (Zk 1 nd) (Zg (ZP (ZcY (Zce (Zcz (Zbn (ZdB ZhP T.b_isinstance T.b_tuple Zj2 (Za 1)))) (ZaY (Zt (Zbo hr.units) ZcH (Zl Zo ZZ T.b_len PySem.boot_len (Zb (Za 1) Zd)) Ze)))) (Zh (Zx ZcX)) Zz) (Zh (ZdE θ.own (Za 1) (Zk 2 nd) (Zh (ZP (ZcY (Zce (Zcz (Zbn (ZdB ZhO T.b_isinstance T.b_int Zla (Za 2)))) (ZaY (Zbn (ZdB Zf7 T.b_isinstance T.b_bool ZhU (Za 2)))))) (Zh (Zx ZcX)) Zz)))))) (Zh (Zx ZcX))))
theorem C34:Cal P w K mg base "_law_ones" 102 1 F_law_ones:=ZV (N:=["_law_cell","_law_count","_law_rays","_law_k","_law_at","_law_one","_law_other","_law_new","_law_more"]) (T.d.at 33 49) T.gl fun _ _ _ _ _ _ _ nd hr θ=>(Zg (Zn 1 nd (ZK Ze (Zae (Za 0) Ze))) (Zg (Zn 2 nd (ZaE (Zb (Zw (Zb Ze (Zb Ze Zd))) (Zb (Zw (Zb Ze (Zb Ze Zd))) (Zb (Zw (Zb (ZR Ze) (Zb (ZR Ze) Zd))) Zd))))) (Zg (ZP (Zt ZcU ZcZ (Zae (ZY (Za 0) Ze) Ze) Ze) (Zh (Zn 2 nd (ZaE (Zb (Zw (Zb Ze (Zb Ze Zd))) (Zb (Zw (Zb Ze (Zb Ze Zd))) (Zb (Zw (Zb (ZR Ze) (Zb (Zad (Zae (ZY (Za 0) Ze) Ze) Ze) Zd))) (Zb (Zw (Zb Ze (Zb (ZR Ze) Zd))) Zd))))))) Zz) (Zg (Zn 0 nd (ZY (Za 0) Ze)) (Zg (ZbC θ.own T.b_range (Zb Ze Zd) (Zk 3 nd) (Zg (Zn 4 nd (Zae (Za 0) (Zl Zo ZZ T.b_len PySem.boot_len (Zb (Za 2) Zd)))) (Zg (Zn 0 nd (ZY (Za 0) Ze)) (Zg (Zn 5 nd (Zp (Za 2) (Za 4))) (Zg (Zn 6 nd (Zp (Za 2) (Zae (ZK (Za 4) Ze) (Zl Zo ZZ T.b_len PySem.boot_len (Zb (Za 2) Zd))))) (Zg (Zn 7 nd (Zw (Zb (ZK (Zp (Za 5) Ze) (Zp (Za 6) Ze)) (Zb (ZK (Zp (Za 5) Ze) (Zp (Za 6) Ze)) Zd)))) (Zg (Zn 8 nd (ZK (ZK (Zj9 (Za 2) Zj7 (Zj8 (ZK (Za 4) Ze))) (ZaE (Zb (Za 7) Zd))) (Zj9 (Za 2) (Zj8 (ZK (Za 4) Ze)) Zj7))) (Zh (ZP (ZcY (ZbG (Zt Zcb Zcf (Zl Zo ZZ T.b_len PySem.boot_len (Zb (Za 2) Zd)) (Za 1)) (ZaQ (Zt ZjJ ZjU (Zl (Zas (Zv hr (by decide))) Zbu T.b_min ZbV (Zb (Zi (C32 T) θ hr (Zb (Za 8) Zd)) Zd)) (ZR Ze))))) (Zh (Zn 2 nd (Za 8))) Zz)))))))))
  (Zg (Zn 2 nd (Zi (C31 T) θ hr (Zb (Za 2) (Zb (Za 0) Zd)))) (Zg (Zn 4 nd (Zae (ZY (Za 0) (Zdz Ze Ze)) (Zl Zo ZZ T.b_len PySem.boot_len (Zb (Za 2) Zd)))) (Zh (Zx (ZK (Zj9 (Za 2) (Zj8 (Za 4)) Zj7) (Zj9 (Za 2) Zj7 (Zj8 (Za 4)))))))))))))
theorem C35:Cal P w K mg base "_law_dots" 101 1 F_law_dots:=ZV (N:=["_law_rays","_law_many","_law_points","_law_k","_law_x","_law_y","_law_z","_law_w","_law_low","_law_high","_law_found","_law_least"]) (T.d.at 34 50) T.gl fun _ _ _ _ _ _ _ nd hr θ=>(Zg (Zn 1 nd (Zl Zo ZZ T.b_len PySem.boot_len (Zb (Za 0) Zd))) (Zg (Zn 2 nd (ZaE Zd)) (Zg (ZbC θ.own T.b_range (Zb (Za 1) Zd) (Zk 3 nd) (Zg (ZdC (Zp (Za 0) (Za 3)) (Zay (Zv hr (by decide)) (Zu (Zk 4 nd) (Zu (Zk 5 nd) Z2)) (hlen:=(ZC (ZC (fun _ _ _ h=>Z3 h))))))
  (Zg (ZdC (Zp (Za 0) (Zae (ZK (Za 3) Ze) (Za 1))) (Zay (Zv hr (by decide)) (Zu (Zk 6 nd) (Zu (Zk 7 nd) Z2)) (hlen:=(ZC (ZC (fun _ _ _ h=>Z3 h))))))
  (Zh (Zah (Zar (Za 2) (Zw (Zb (Zad (Za 5) (Za 7)) (Zb (Zad (Za 6) (Za 4)) Zd)))))))))
  (Zg (Zn 8 nd (Zl (Zas (Zv hr (by decide))) Zbu T.b_min ZbV (Zb (Zaj (ZdK ["_law_rays","_law_many","_law_points","_law_k","_law_x","_law_y","_law_z","_law_w","_law_low","_law_high","_law_found","_law_least"] ["_law_point"] (dS 50) 1 []) (Zaf (Za 2)) fun _ _ _ _ _=>⟨(Zk 0 (show bG (["_law_point"]:List Str)by decide +kernel)),(dJ ⟨rfl,rfl⟩),(Zp (Za 0) Ze)⟩) Zd)))
  (Zg (Zn 9 nd (Zl (Za0 (Zv hr (by decide))) Zcg T.b_max Zc1 (Zb (Zaj (ZdK ["_law_rays","_law_many","_law_points","_law_k","_law_x","_law_y","_law_z","_law_w","_law_low","_law_high","_law_found","_law_least"] ["_law_point"] (dS 50) 1 []) (Zaf (Za 2)) fun _ _ _ _ _=>⟨(Zk 0 (show bG (["_law_point"]:List Str)by decide +kernel)),(dJ ⟨rfl,rfl⟩),(Zp (Za 0) Ze)⟩) Zd)))
  (Zg (Zn 10 nd (ZaE Zd)) (Zg (ZdZ θ.own T.b_range (Zb (Zl (Zas (Zv hr (by decide))) Zbu T.b_min ZbV (Zb (Zaj (ZdK ["_law_rays","_law_many","_law_points","_law_k","_law_x","_law_y","_law_z","_law_w","_law_low","_law_high","_law_found","_law_least"] ["_law_point"] (dS 50) 1 []) (Zaf (Za 2)) fun _ _ _ _ _=>⟨(Zk 0 (show bG (["_law_point"]:List Str)by decide +kernel)),(dJ ⟨rfl,rfl⟩),(Zp (Za 0) Ze)⟩) Zd)) (Zb (ZK (Zl (Za0 (Zv hr (by decide))) Zcg T.b_max Zc1 (Zb (Zaj (ZdK ["_law_rays","_law_many","_law_points","_law_k","_law_x","_law_y","_law_z","_law_w","_law_low","_law_high","_law_found","_law_least"] ["_law_point"] (dS 50) 1 []) (Zaf (Za 2)) fun _ _ _ _ _=>⟨(Zk 0 (show bG (["_law_point"]:List Str)by decide +kernel)),(dJ ⟨rfl,rfl⟩),(Zp (Za 0) Ze)⟩) Zd)) Ze) Zd)) (Zk 5 nd) (Zh (ZdZ θ.own T.b_range (Zb (Za 8) (Zb (ZK (Za 9) Ze) Zd)) (Zk 4 nd) (Zg (Zn 11 nd (Zl (Zas (Zv hr (by decide))) Zbu T.b_min ZbV (Zb (Zaj (ZdK ["_law_rays","_law_many","_law_points","_law_k","_law_x","_law_y","_law_z","_law_w","_law_low","_law_high","_law_found","_law_least"] ["_law_ray","_law_x","_law_y"] (dS 50) 1 [4,5]) (Zaf (Za 0)) fun _ _ _ _ _=>⟨(Zk 0 (show bG (["_law_ray","_law_x","_law_y"]:List Str)by decide +kernel)),(dJ ⟨rfl,rfl⟩),(ZK (ZD (Za 1) (Zp (Za 0) Ze)) (ZD (Za 2) (Zp (Za 0) Ze)))⟩) Zd)))
  (Zh (ZP (ZcY (ZbG (Zt ZjJ ZjU (Za 11) (ZR Ze)) (ZaQ (Zt (Zbo hr.units) ZcH (Zw (Zb (Za 4) (Zb (Za 5) Zd))) (Zw (Zb Ze (Zb Ze Zd))))))) (Zh (Zah (Zar (Za 10) (Zw (Zb (Za 4) (Zb (Za 5) Zd)))))) Zz))))))
  (Zh (Zx (Za 10))))))))))
theorem C36:Cal P w K mg base "_law_right" 101 3 F_law_right:=ZV (N:=["_law_rays","_law_due","_law_found","_law_passed","_law_k","_law_behind"]) (T.d.at 35 51) T.gl fun _ _ _ _ _ _ _ nd hr θ=>(Zg (ZP (ZcY (Zce (Zcz (Zbn (Zi (C33 T) θ hr (Zb (Za 2) Zd)))) (ZaY (Zt (Zbo hr.units) ZcH (ZK (Zl Zo ZZ T.b_len PySem.boot_len (Zb (Za 2) Zd)) (Zl Zo ZZ T.b_len PySem.boot_len (Zb (Za 0) Zd))) Ze)))) (Zh (Zx ZcX)) Zz) (Zg (ZP (ZcY (Zce (Zt (Zbo hr.units) ZcH (Zl Zc4 ZeT T.b_sorted Zc5 (Zb (Za 2) Zd)) (Zl Zc4 ZeT T.b_sorted Zc5 (Zb (Za 1) Zd))) (ZaY (Zt (Zbo hr.units) ZcH (Zp (Za 2) Ze) (Zp (Za 1) Ze))))) (Zh (Zx ZcX)) Zz) (Zg (Zn 3 nd Ze) (Zg (ZbC θ.own T.b_range (Zb (Zl Zo ZZ T.b_len PySem.boot_len (Zb (Za 2) Zd)) Zd) (Zk 4 nd) (Zg (Zn 5 nd (Zp (Za 2) (Zae (ZK (Za 4) Ze) (Zl Zo ZZ T.b_len PySem.boot_len (Zb (Za 2) Zd))))) (Zg (ZP (Zt (Zbo hr.units) ZcH (Zi (C30 T) θ hr (Zb (Zp (Za 2) (Za 4)) (Zb (Za 5) Zd))) Ze) (Zh (Zx ZcX)) Zz) (Zh (ZP (ZcY (Zce (ZcY (ZbG (Zt Zcb Zcf (Zp (Zp (Za 2) (Za 4)) Ze) Ze) (ZaQ (Zt ZcU ZcZ (Zp (Za 5) Ze) Ze)))) (ZaY (ZcY (ZbG (Zt (ZbU hr.units) ZdX (Zp (Zp (Za 2) (Za 4)) Ze) Ze) (ZaQ (Zt ZcU ZcZ (Zp (Zp (Za 2) (Za 4)) Ze) Ze))))))) (Zh (Zn 3 nd (ZK (Za 3) Ze))) Zz))))) (Zh (Zx (Zk2 (ZhG (ZbU hr.units) ZdX (Za 3) Ze) (Zk1 (ZhG ZjJ ZjU (Zl (Zas (Zv hr (by decide))) Zbu T.b_min ZbV (Zb (Zi (C32 T) θ hr (Zb (Za 2) Zd)) Zd)) (ZR Ze))))))))))
theorem Zrw{f:Addr}{fd:iS}(F:Fun K "law" "law" (top 52) f fd):FnOk P w K mg base (CXE P w) 113 f fd ["_law_script"] (spD K Zek):=
 have nd:bG (["_law_script","_law_place","_law_rays","_law_due","_law_lent","_law_found"]:List Str):=by decide +kernel
 Zo8 (N:=["_law_script","_law_place","_law_rays","_law_due","_law_lent","_law_found"]) F ⟨rfl,rfl,rfl,nd,rfl,by decide +kernel,by decide +kernel⟩ rfl rfl fun _ _ _ _ _ _ hr θ=>(Zg (ZbC θ.own T.b_range (Zb (Zl (Zho (Zv hr (by decide))) Zo4 T.b_max Zc1 (Zb Ze (Zb (Zl (Zhp (Zv hr (by decide))) Zo5 T.b_min ZbV (Zb (Zl Zo ZZ T.b_len PySem.boot_len (Zb (Za 0) Zd)) (Zb Ze Zd))) Zd))) Zd) (Zk 1 nd) (Zg (Zn 2 nd (Zi (C34 T) θ hr (Zb (Zi (C29 T) θ hr (Zb (Za 0) (Zb (Za 1) Zd))) Zd)))
  (Zg (ZP (Zt ZcU ZcZ (Zl (Za0 (Zv hr (by decide))) Zcg T.b_max Zc1 (Zb (Zaj (ZdK (n:=0) ["_law_script","_law_place","_law_rays","_law_due","_law_lent","_law_found"] ["_law_x","_law_y"] (dS 52) 2 []) (Zaf (Za 2)) fun _ _ _ _ _=>⟨(Zay (Zv hr (by decide)) (Zu (Zk 0 (show bG (["_law_x","_law_y"]:List Str)by decide +kernel)) (Zu (Zk 1 (show bG (["_law_x","_law_y"]:List Str)by decide +kernel)) Z2)) (hlen:=(ZC (ZC (fun _ _ _ h=>Z3 h))))),(dJ ⟨rfl,rfl⟩),(ZK (Zl ZbB ZdA T.b_abs ZdF (Zb (Za 0) Zd)) (Zl ZbB ZdA T.b_abs ZdF (Zb (Za 1) Zd)))⟩) Zd)) Ze) (Zh (Zn 2 nd (ZaE (Zb (Zw (Zb Ze (Zb Ze Zd))) (Zb (Zw (Zb Ze (Zb Ze Zd))) (Zb (Zw (Zb (ZR Ze) (Zb (ZR Ze) Zd))) Zd)))))) Zz)
  (Zg (Zn 3 nd (Zi (C35 T) θ hr (Zb (Za 2) Zd))) (Zg (Zn 4 nd (ZeA Zeu Zmz T.b_list Zfi (Zb (Za 2) Zd))) (Zg (Zn 5 nd (Zi (C28 T) θ hr (Zb (Za 4) Zd))) (Zg (ZP (ZcY (Zce (Zt (Zbo hr.units) ZcH (Za 4) (Za 2)) (ZaY (Zcz (Zbn (Zi (C36 T) θ hr (Zb (Za 2) (Zb (Za 3) (Zb (Za 5) Zd))))))))) (Zh (Zx ZcX)) Zz) (Zg (Zah (Zar (Za 5) (Zw (Zb Ze (Zb Ze Zd))))) (Zh (ZP (ZcY (Zce (Zcz (Zbn (Zi (C36 T) θ hr (Zb (Za 2) (Zb (Za 3) (Zb (Zi (C28 T) θ hr (Zb (Za 4) Zd)) Zd)))))) (ZaY (Zt (Zbo hr.units) ZcH (Za 4) (Za 2))))) (Zh (Zx ZcX)) Zz))))))))))
  (Zh (Zx ZcX)))
end
theorem fin{l:PySem.W.OpenLaw}(X:K.In h)(G:h.Ns aO mg)(hfa:mg "law"=some (.ref fa))(T:Txt K mg):∃fd:iS,(∀(s:aC)(v:ae),lQ s fd ⟨[v],[]⟩ [("_law_script",v)])/\∀base:Heap,K.In base->base.Ns aO mg->FnOk l.prog w K mg base (CXE l.prog w) 113 fa fd ["_law_script"] (spD K Zek):=
 Zo9 (l:=l) (w:=w) X G hfa (T.d.at 36 52) (fun _ _ _ _ _ _ _=>rfl) fun base fd F=>Zrw (base:=base) T F
end K62
namespace K62
open L2 DL
open CV
open Rb Ri DU TW
open DT (yl)
open OP (One ZlY Zjt ZnZ ZfR Zjr Zb8 Ze8 Zdh)
theorem ZtQ:F_opposite_one=OP.F_opposite_one:=rfl
section
variable {Q:W0}{k i:Nat}{rs O:List Pt}
noncomputable def kp(p:Pt):List Int:=[p.1,p.2]
noncomputable def up(l:List Int):Pt:=(l.getD 0 0,l.getD 1 0)
def sp(rs:List Pt):List Pt:=(ST.srt (rs.map kp)).map up
theorem ZtR(h:rs.Perm cs):sp rs=sp cs:=by unfold sp;rw[ST.Zpx (h.map kp)]
theorem ZgN:∀rs:List Pt,ksD (prs rs)=some (rs.map kp)
 |[]=>rfl
 |x::r=>by
  have:=ZgN r
  show ksD (pr x.1 x.2::prs r)=_;rw[ksD,this];rfl
theorem Zn2:(ST.srt (rs.map kp)).map tupD=prs (sp rs):=by
 have h:∀l∈ST.srt (rs.map kp),tupD l=pr (up l).1 (up l).2:=fun l hl=>by
  obtain⟨x,-,rfl⟩:=aK.mp ((ST.Za7 _).mem_iff.mp hl);rfl
 rw[b6 h];unfold sp prs;rw[cT];rfl
theorem Zrx(h:M[n]?=some (.lst (prs rs)))(hl:rs.length<64):wO (bSrt [.ref n] M) Q E=Q (.ref M.length) (M++[.lst (prs (sp rs))]):=by
 have:bSrt [.ref n] M=.ok (.ref M.length) (M++[.lst (prs (sp rs))]):=by simp only[bSrt,h,Zim,ZI,ZgN,if_pos hl,Zn2]
 rw[this];rfl
theorem ZlZ{f:Pt->Pt->Nat}:∀(k:Nat)(j:Int),sf f rs j (k+1)=sf f rs j k+f (cy rs (j+k)) (cy rs (j+k+1))
 |0,j=>by simp[sf]
 |k+1,j=>by
  rw[sf,ZlZ k (j+1),sf];rw[show j+1+(k:Int)=j+((k+1:Nat):Int)by lia]
  lia
theorem ZkU(h:X a b=1):(a.2<0/\0<b.2\/a.2=0/\0<a.1)↔0<=X a (1,0)/\0<X (1,0) b:=by
 unfold X at *;simp only;constructor
 ·rintro(⟨h1,h2⟩|⟨h1,h2⟩)
  ·lia
  ·rw[h1]at h;refine⟨by lia,?_⟩
   apply Classical.byContradiction;intro z
   have:=aU (show 0<=a.1 by lia) (show 0<= -b.2 by lia)
   rw[jU]at this;lia
 ·rintro⟨h1,h2⟩;by_cases c:a.2=0
  ·refine .inr ⟨c,?_⟩;rw[c]at h;apply Classical.byContradiction;intro z
   have:=aU (show 0<= -a.1 by lia) (show 0<=b.2 by lia)
   rw[lM]at this;lia
  ·exact .inl (by lia)
theorem Zry(hs:s<O.length):(aH O.length).map (fun(j:Nat)=>cy O ((s:Nat)+j))=O.drop s++O.take s:=by
 have e:=ZiX (us:=O.drop s++O.take s);have l:(O.drop s++O.take s).length=O.length:=by simp;lia
 rw[l]at e;rw[<-e];refine b6 fun j _=>?_;rw[ZbI (by lia),Int.add_comm]
theorem Zju(hr:M[n]?=some (.lst (prs rs)))(hd:M[m]?=some (.lst (prs W)))(hf:M[a]?=some (.lst (prs F)))(op:Opp rs O)(hb:Nr 200 rs)(hW:W.Pairwise yl)(mW:∀m,m∈W↔m∈O)(hs:s<O.length)(eF:F=(aH O.length).map fun(j:Nat)=>cy O ((s:Nat)+j))(w0:W[0]?=some (cy O s))(q:∀M',Kp M M'->Q (.bl true) M'):wO (F_law_right [.ref n,.ref m,.ref a] M) Q E:=by
 have hn:=ZA hr;have hm:=ZA hd;have ha:=ZA hf;rw[Zry hs]at eF;have lF:F.length=O.length:=by rw[eF];simp;lia
 have sF:Smo F:=by rw[eF];exact op.sm.rot (by lia)
 have cF:∀i,cy F i=cy O (i+s):=fun i=>by rw[eF];exact ZbI (by lia)
 have tF:RT.ge2 (ZF F)=true:=(Zb8 sF.ne).mpr fun i=>by
  have t:=(Zb8 op.sm.ne).mp (RT.Zbc.mpr op.tg) (i+s);unfold T at *;rw[cF,cF,show i-1+(s:Int)=i+s-1 by lia,show i+1+(s:Int)=i+s+1 by lia]
  exact t
 have pF:F.Perm W:=(jI (Zjr sF) (ZfR hW)).mpr fun x=>by
  rw[mW,eF,aY];constructor
  ·rintro(z|z)
   ·exact fU z
   ·exact eO z
  ·intro z;rw[<-dh s O,aY]at z;exact z.symm
 have lW:W.length=O.length:=by rw[<-pF.length_eq,lF]
 have bF:Nr 18446744073709551615 F:=fun x hx=>by
  have:=op.bd 200 hb x (by have:=(pF.mem_iff).mp hx;exact(mW x).mp this)
  lia
 have ol:=op.ln;have l3:=op.sm.len;have e12:(F.length:Int)+(rs.length:Int)=12:=by lia
 simp! -implicitDefEqProofs [F_law_right,Zds];refine CC.Zg7 hf ?_;simp! -implicitDefEqProofs [hf,hr,e12];rw[Zrx hf (by lia)]
 have K1:Kp M (M++[SO.lst (prs (sp F))]):=Kp.app;have r1:(M++[SO.lst (prs (sp F))])[M.length]?=some (.lst (prs (sp F))):=by simp
 generalize M++[SO.lst (prs (sp F))]=M1 at *;generalize hA:M.length=aa at *;simp! -implicitDefEqProofs [Zrx (K1.get hd) (by lia)]
 have r2:=(Kp.app (L:=[SO.lst (prs (sp W))])).get r1;have s2:(M1++[SO.lst (prs (sp W))])[M1.length]?=some (.lst (prs (sp W))):=by simp
 have K2:Kp M (M1++[SO.lst (prs (sp W))]):=K1.trans Kp.app;generalize M1++[SO.lst (prs (sp W))]=M2 at *;generalize M1.length=bb at *;have q1:eqF 12 M2 (.ref aa) (.ref bb)=some (decide (sp F=sp W)):=Znk r2 s2;rw[decide_eq_true (ZtR pF)]at q1;have f2:=K2.get hf;have d2:=K2.get hd;have c0:cy W 0=cy F 0:=by
  rw[cF];cases W with
  |nil=>cases w0
  |cons x r=>
   simp at w0;simp[cy,w0]
 simp! -implicitDefEqProofs [q1,f2,d2,ZaN,Zoa,c0];have q2:eqF 12 M2 (pr (cy F 0).1 (cy F 0).2) (pr (cy F 0).1 (cy F 0).2)=some true:=by rw[Zoa];simp
 refine⟨by lia,?_⟩
 rw[dA];have lf:=ZA f2;refine Zb2 (n:=F.length) (lo:=0) (fun i ρ M'=>M'=M2/\∃x4 x5,ρ=[some (.ref n),some (.ref m),some (.ref a),some (.int (sf (in1 (1,0)) F 0 i:Nat)),x4,x5]) ⟨rfl,_,_,rfl⟩ ?_ ?_
 ·rintro i ρ _ hi ⟨rfl,x4,x5,rfl⟩;rw[show(0:Int)+(i:Nat)=i by lia,ZlZ]
  have e1:=Zab (i:=(i:Int)+1) (m:=F.length) (by lia)
  have b1:=bF.cy sF.ne i;have on:(cy F i).1*(cy F ((i:Int)+1)).2-(cy F i).2*(cy F ((i:Int)+1)).1=1:=sF.one i;have ps:=ZkU (sF.one i);have i1:in1 (1,0) (cy F i) (cy F ((i:Int)+1))=if((cy F i).2<0/\0<(cy F ((i:Int)+1)).2\/(cy F i).2=0/\0<(cy F i).1)then 1 else 0:=by
   unfold in1;by_cases c:0<=X (cy F i) (1,0)/\0<X (1,0) (cy F ((i:Int)+1))
   ·rw[if_pos c,if_pos (ps.mpr c)]
   ·rw[if_neg c,if_neg (fun z=>c (ps.mp z))]
  rw[show(0:Int)+(i:Int)=i by lia,i1]
  clear i1 ps;simp! -implicitDefEqProofs [ZbK,f2,ZaN,Zb3,CC.ZiI (a:=(cy F i).1) (b:=(cy F i).2) (c:=(cy F ((i:Int)+1)).1) (d:=(cy F ((i:Int)+1)).2) (by lia) (by lia),on]
  generalize sf (in1 (1,0)) F 0 i=z9;have yes:((cy F i).2<0/\0<(cy F ((i:Int)+1)).2\/(cy F i).2=0/\0<(cy F i).1)->((z9+if((cy F i).2<0/\0<(cy F ((i:Int)+1)).2\/(cy F i).2=0/\0<(cy F i).1)then 1 else 0:Nat):Int)=(z9:Int)+1:=fun c=>by rw[if_pos c];rfl
  have no:¬((cy F i).2<0/\0<(cy F ((i:Int)+1)).2\/(cy F i).2=0/\0<(cy F i).1)->((z9+if((cy F i).2<0/\0<(cy F ((i:Int)+1)).2\/(cy F i).2=0/\0<(cy F i).1)then 1 else 0:Nat):Int)=(z9:Int):=fun c=>by rw[if_neg c];rfl
  generalize ((z9+if((cy F i).2<0/\0<(cy F ((i:Int)+1)).2\/(cy F i).2=0/\0<(cy F i).1)then 1 else 0:Nat):Int)=y9 at *;generalize (z9:Int)=z9' at *;refine brO (fun c=>?_) (fun c=>?_)
  ·simp! -implicitDefEqProofs [Zm];refine brO (fun d=>?_) (fun d=>?_)
   ·simp! -implicitDefEqProofs [Zm];rw[yes (.inl ⟨c,d⟩)];exact⟨_,_,rfl⟩
   ·simp! -implicitDefEqProofs [f2,ZaN,Znj];rw[no (by lia)]
    exact⟨_,_,rfl⟩
  ·simp! -implicitDefEqProofs [f2,ZaN,Znj];refine brO (fun d=>?_) (fun d=>?_)
   ·simp! -implicitDefEqProofs [f2,ZaN];refine brS (fun e=>?_) (fun e=>?_)
    ·simp! -implicitDefEqProofs [Zm];rw[yes (.inr ⟨d,e⟩)];exact⟨_,_,rfl⟩
    ·simp! -implicitDefEqProofs [Zm];rw[no (by lia)]
     exact⟨_,_,rfl⟩
   ·simp! -implicitDefEqProofs [Zm];rw[no (by lia)]
    exact⟨_,_,rfl⟩
 ·rintro ρ _ ⟨rfl,x4,x5,rfl⟩;rw[<-Zdi sF.ne,(sF.fan (1,0) (by decide)).1]
  simp! -implicitDefEqProofs [Zm];refine CC.Zly f2 (by lia) (by lia) bF ?_
  obtain⟨v,hv,mv,gv⟩:=Ze8 (L:=ZF F) (fun z=>by have:=congrArg iU z;rw[ZT,fA]at this;lia)
  have v2:=RT.Zbc.mp tF v mv;simp! -implicitDefEqProofs [CC.ZM,hv];exact q _ (K2.trans Kp.app)
noncomputable def B3:List Pt:=[(1,0),(0,1),(-1,-1)]
theorem Zn3{ns:List Int}(hN:∀y2 y3 y4 y5 M',Kp M M'->N [some (.rol (ns.map D.int)),some (.int (i:Int)),y2,y3,y4,y5] M'):wS (Zej [some (.rol (ns.map D.int)),some (.int (i:Int)),x2,x3,x4,x5] M) N Q B C E:=by
 simp! -implicitDefEqProofs [Zej];refine CC.ZiJ (k:=i) fun c hc=>?_;simp! -implicitDefEqProofs [Zm];refine ZlY hc fun ss m M1 o1 r1 K1=>?_;have l9:=o1.l9;have l3:=o1.sm.len;simp! -implicitDefEqProofs [Zm];refine Znt (xs:=prs ss) (fun ρ=>∃x y,ρ=[x,y]) (fun i=>.int (((ss.getD i (0,0)).1.natAbs:Int)+((ss.getD i (0,0)).2.natAbs:Int))) r1 (by rw[ZI];lia) ⟨_,_,rfl⟩ ?_ ?_
 ·rintro i hi ρ L ⟨x,y,rfl⟩;obtain⟨hi',ei⟩:=DT.Zdr hi;rw[ei];have eg:ss.getD i (0,0)=ss[i]:=by simp[hi']
  rw[eg];generalize ss[i]=p at *;simp! -implicitDefEqProofs [Zm];exact⟨_,_,rfl⟩
 have eL:(aH (prs ss).length).map (fun i=>D.int (((ss.getD i (0,0)).1.natAbs:Int)+((ss.getD i (0,0)).2.natAbs:Int)))=nts (ss.map fun p=>(p.1.natAbs:Int)+(p.2.natAbs:Int)):=by
  unfold nts;rw[cT,ZI];refine dQ (by simp) fun i h1 h2=>?_
  simp at h1 h2;simp[h2]
 rw[eL];obtain⟨v,hv,-,-⟩:=Zdh (L:=ss.map fun p=>(p.1.natAbs:Int)+(p.2.natAbs:Int)) (fun z=>o1.sm.ne (cr.mp z));have K2:Kp M (M1++[SO.lst (nts (ss.map fun p=>(p.1.natAbs:Int)+(p.2.natAbs:Int)))]):=K1.trans Kp.app;have r2:=(Kp.app (L:=[SO.lst (nts (ss.map fun p=>(p.1.natAbs:Int)+(p.2.natAbs:Int)))])).get r1;simp! -implicitDefEqProofs [CC.ZM,hv];generalize M1++[SO.lst (nts (ss.map fun p=>(p.1.natAbs:Int)+(p.2.natAbs:Int)))]=M2 at *;refine ZsY (fun ρ M'=>∃ss m,ρ=[some (.rol (ns.map D.int)),some (.int (i:Int)),some (.ref m),x3,x4,x5]/\One ss/\M'[m]?=some (.lst (prs ss))/\Kp M M') ?_ ?_
 ·refine brS (fun z=>?_) (fun z=>?_)
  ·simp! -implicitDefEqProofs [Zm];exact⟨_,_,rfl,OP.gr3.one,by rw[Zkw];rfl,K2.trans Kp.app⟩
  ·simp! -implicitDefEqProofs [Zm];exact⟨ss,m,rfl,o1,r2,K2⟩
 clear o1 r1 K1 r2 K2 hv eL l9 l3;rintro _ M3 ⟨ss,m,rfl,o,r3,K3⟩;have l9:=o.l9;have l3:=o.sm.len;have hm:=ZA r3;have b2:Nr ((200:Nat):Int) ss:=fun x hx=>by have:=o.nr x hx;lia
 obtain⟨O,op⟩:=Zro o.sm o.l9 o.ge;simp! -implicitDefEqProofs [Zm];refine Zjt r3 o.sm o.nr o.l9 op fun W w M4 pw mem K4 lw r4=>?_;have s4:=K4.get r3;have hm4:=ZA s4;simp! -implicitDefEqProofs [s4];have K5:Kp M3 (M4++[SO.lst (prs ss)]):=K4.trans Kp.app;have r5:(M4++[SO.lst (prs ss)])[M4.length]?=some (.lst (prs ss)):=by simp
 have w5:=(Kp.app (L:=[SO.lst (prs ss)])).get r4;have lw4:=ZA r4;generalize M4++[SO.lst (prs ss)]=M5 at *;generalize hlt:M4.length=lt at *;have l5:=ZA r5;rw[ZtQ];refine ZnZ (c:=200) r5 o.sm o.l9 o.ge b2 (by decide) op pw mem fun F s a M6 hs eF w0 K6 la r6=>?_
 have s6:=K6.get (K5.get r3);have t6:=K6.get r5;have w6:=K6.get w5;have e6:eqF 12 M6 (.ref lt) (.ref m)=some (decide (ss=ss)):=Znk t6 s6;rw[decide_eq_true rfl]at e6;simp! -implicitDefEqProofs [e6];refine Zju s6 w6 r6 op o.nr pw mem hs eF w0 fun M7 K7=>?_;have r7:=K7.get r6;have l7:=ZA r7;have fl:F.length<=12:=by rw[eF];simp;have:=op.ln;lia
 simp! -implicitDefEqProofs [r7];refine⟨by lia,?_⟩
 have KA:Kp M5 (M7.set a (SO.lst (prs (F++[(0,0)])))):=(K6.trans K7).set la;generalize M7.set a (SO.lst (prs (F++[(0,0)])))=M8 at *;refine ZnZ (c:=200) (KA.get r5) o.sm o.l9 o.ge b2 (by decide) op pw mem fun F2 s2 a2 M9 hs2 eF2 w02 K9 la2 r9=>?_
 have KB:=KA.trans K9;have s9:=KB.get (K5.get r3);simp! -implicitDefEqProofs [Zm];refine Zju s9 (KB.get w5) r9 op o.nr pw mem hs2 eF2 w02 fun M10 K10=>?_;have KC:=KB.trans K10;have e10:eqF 12 M10 (.ref lt) (.ref m)=some (decide (ss=ss)):=Znk (KC.get r5) (KC.get (K5.get r3));rw[decide_eq_true rfl]at e10;simp! -implicitDefEqProofs [e10];exact hN _ _ _ _ _ (K3.trans (K5.trans KC))
theorem ZtS{ns:List Int}(hns:ns.length<=63)(q:∀M',Q (.bl true) M'):wO (Zek [.rol (ns.map D.int)] M) Q E:=by
 simp! -implicitDefEqProofs [Zek,Zrv];refine⟨by lia,?_⟩
 refine Zb2 (fun _ ρ M'=>Kp M M'/\∃x1 x2 x3 x4 x5,ρ=[some (.rol (ns.map D.int)),x1,x2,x3,x4,x5]) ⟨Kp.refl,_,_,_,_,_,rfl⟩ ?_ ?_
 ·rintro i ρ M5 hi ⟨K5,x1,x2,x3,x4,x5,rfl⟩;rw[show(0:Int)+(i:Int)=i by lia]
  simp! -implicitDefEqProofs [Zm];exact Zn3 fun _ _ _ _ M6 K6=>⟨K5.trans K6,_,_,_,_,_,rfl⟩
 ·rintro ρ M5 ⟨K5,x1,x2,x3,x4,x5,rfl⟩;simp! -implicitDefEqProofs [Zm];exact q _
theorem law_true(ns:List Int)(h:ns.length<=63):∃M',Zek [.rol (ns.map D.int)] []=.ok (.bl true) M':=by
 have w:∀M:Sto,∃M',Zek [.rol (ns.map D.int)] M=.ok (.bl true) M':=by
  intro M;have w:wO (Zek [.rol (ns.map D.int)] M) (fun d _=>d=.bl true) (fun _ _=>False):=ZtS h fun _=>rfl;obtain⟨d,M',e,rfl⟩:=Zgt w;exact⟨M',e⟩
 exact w []
end
end K62
namespace K62
open L2 DL
theorem Zv8{l:PySem.W.OpenLaw}{K:lu->Fg}{T:Fg}(hn:l.most=some 63)(hdf:d.params.defaults=[])(hY:∀(w:c8)(h:Heap),YP w h->(K w.params).In h/\T.In h)(hT:∀w:c8,Zgq (K w.params) T=true)(F:∀(w:c8)(mg:Str->Option ae)(fa:Addr)(h:Heap),(K w.params).In h->h.Ns aO mg->mg d.name=some (.ref fa)->∃fd:iS,(∀(s:aC)(u:ae),lQ s fd ⟨[u],[]⟩ [("_law_script",u)])/\∀base:Heap,(K w.params).In base->base.Ns aO mg->FnOk l.prog w (K w.params) mg base (CXE l.prog w) 113 fa fd ["_law_script"] (spD (K w.params) Zek)):PySem.W.WalkO q loose XP YP l.row.toRowW d [] (fun f vs=>PySem.call f vs):=
 L2.Zkr (T:=fun _=>T) (n:=63) (k:=113) (x:="_law_script") (CX:=fun w=>CXE l.prog w) (sp:=fun w=>spD (K w.params) Zek) hn (by decide) hdf ⟨fun _=>rfl,rfl,by decide,by decide⟩ hY hT F (fun _ _ a ns hl hS=>DL.Zm3 hS (law_true ns hl)) fun _ _ _ _ _ ⟨_,_,_,_,_,_,_,_,_,_,_,_,_,q⟩=>q
end K62
open PySem.W PyProof.Rows
set_option maxRecDepth 1000000 in
set_option maxHeartbeats 0 in
theorem PySem.Challenge.cw_rayround_k62_opposite_ones_holds : PySem.Challenge.rw_rayround_k62_opposite_ones.Holds := by
 w_on
 refine holds_law K62.Zu3 fun _=>?_;refine holds_open (q:=K62.qf PySem.Challenge.pw_rayround_k62_opposite_ones) (loose:=K62.lo) (Xt:=fun s=>xlAt (K62.qf PySem.Challenge.pw_rayround_k62_opposite_ones) [] s&&recOk [] s) (XP:=XL (K62.qf PySem.Challenge.pw_rayround_k62_opposite_ones) []) (Yf:=Hook.obs K62.Hk) (Ya:=Hook.val K62.Hk) (YP:=Hook.says K62.Hk) (N:=2883) ?hl (Hook.of K62.Hk) (Hook.keeps K62.Hk) (fun s e=>xl_of s (lO.mp e).1) XL.keeps (by rfl) (by rfl) (by rfl) (fun s e=>recFacts_of (lO.mp e).2) (by rfl) (by first|assumption|decide +kernel) (by decide +kernel) ⟨rfl,rfl,rfl,rfl,rfl,by decide +kernel⟩ ?hw ?hc
 case hl=>exact HD.ZhA rfl (by decide) (fun s=>rfl) (by decide) K62.ZrZ
 case hw=>w_witness2
 case hc=>
  refine K62.Zv8 (l:=PySem.Challenge.rw_rayround_k62_opposite_ones) (K:=K62.Kf PySem.Challenge.pw_rayround_k62_opposite_ones) (T:=K62.Tf) rfl rfl (fun w h Y=>⟨DL.Zm4 (PySem.W.kIn_of Y),DL.Zks (PySem.W.kIn_of Y) (by kernel_rfl)⟩) (fun w=>by kernel_rfl) ?F
  intro w mg fa h KX G hmg;refine K62.fin KX G hmg ⟨DL.Bs.of KX G ?_,fun c v e=>PySem.W.mg_of KX G e,DL.Dfs.of ?_,?_,?_,?_,?_,?_,?_,?_⟩
  all_goals kernel_rfl
