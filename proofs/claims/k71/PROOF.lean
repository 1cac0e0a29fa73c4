import PyProof.Rows.All
import Wide.All
import OpenK.AllK
import Wide.FinOn
import Lean
import PyProof.EqAt
import PyProof.EqKinds
import PyProof.TupleCall
import PyProof.FString
import PyProof.Rows.TupIter
import KE.KDictList
import PyProof.ZipIter
import PyProof.ListNew
import PyProof.RulesAssignMore
import PyProof.ReprRoads
import PyProof.FitsInt
import PyProof.Rows.Range3
import KE.KSortKey
import KE.KLam
import PyProof.CallFns
import PyProof.StrWalks
import KE.KIntText
import PyProof.ListStr
import PySem.Challenge.RW_rayround_k71_papers_of_any_thing
set_option maxRecDepth 100000
set_option linter.all false
set_option Elab.async false
set_option maxHeartbeats 4000000
local macro_rules|`(⋯)=>`(by lia)
noncomputable section
set_option bootstrap.genMatcherCode false
set_option genSizeOf false
set_option genSizeOfSpec false
set_option compiler.extract_closed false
open Array renaming length_toList→bf,getElem?_toList→bo,getElem?_eq_some_iff→bS,perm_iff_toList_perm→bT,getElem?_setIfInBounds_self_of_lt→b6,getElem?_setIfInBounds_ne→cK,toList_extract→cT,toList_append→dL,size_push→d8,toList_push→eI,toList_reverse→eU,toList_inj→eZ,append_empty→fP,forIn_toList→ic,append_assoc→ii,getElem?_extract→i6,getElem?_push→jX
open Bool renaming and_eq_true→aV,false_eq_true→aX,false_ne_true→dg,not_eq_true'→dz,not_true→dD,and_eq_true_iff→gQ,not_eq_false'→iu,eq_iff_iff→jg
open Classical renaming byContradiction→iA
open False renaming elim→cF
open Int renaming gcd→bQ,emod_lt_of_pos→dh,emod_eq_of_lt→dA,natAbs_mul→dP,mul_le_mul_of_nonneg_right→dQ,emod_nonneg→d9,mul_nonpos_of_nonneg_of_nonpos→fQ,toNat_natCast→fY,nonneg_of_mul_nonneg_right→gF,mul_pos→gN,mul_zero→hO,fmod_eq_emod_of_nonneg→ix,fdiv_eq_ediv_of_nonneg→iy,mul_sub→iF,emod_emod_of_dvd→jI,mul_ediv_cancel'→jK,mul_nonneg→jL,one_mul→lE
open List renaming getElem?_eq_getElem→aq,getElem?_eq_some_iff→au,range→ay,length_map→aC,size_toArray→aE,length_cons→aH,getElem?_append_right→aJ,mem_cons_of_mem→aL,mem_cons→aM,map_cons→aN,getElem?_append_left→aO,getElem_cons_zero→aR,getElem?_set_ne→aU,Nodup→aW,getElem?_set_self→aY,replicate→aZ,length_append→a8,all_eq_true→bh,getElem?_eq_none→bj,getElem?_eq_none_iff→bq,getElem_of_mem→bw,getElem_cons_succ→bB,mem_append_right→bE,length_replicate→bF,lookup_cons→bG,getElem?_map→bH,zipWith→bJ,mem_cons_self→bM,append_nil→bR,getElem_mem→bW,not_mem_nil→cf,take_of_length_le→cg,drop_eq_getElem_cons→cj,extract_eq_drop_take→cp,length_nil→cC,length_take→cD,mem_of_getElem?→cE,length_set→cJ,getElem_append_right→cM,getElem_append_left→cQ,append_assoc→cU,mem_append→cV,map_append→cZ,filterMap_cons→c6,getD_eq_getElem?_getD→di,mem_map→dy,getElem_zipWith→dB,getElem?_cons_succ→dN,eq_nil_of_length_eq_zero→dR,drop_eq_nil_of_le→dX,length_eq_one_iff→dY,find?_cons→d7,perm_append_comm→eE,take_append_drop→eF,ext_getElem?→eG,length_drop→eW,filter_cons→eY,getElem?_take_of_lt→fB,mem_filter→fF,forIn_cons→fK,range_succ→fN,lookup→fS,findIdx?_eq_some_iff_getElem→fW,mem_range→f7,map_nil→ge,forIn_nil→gj,getElem?_toArray→gr,cons_append→gE,mem_append_left→gI,length→gJ,getElem?_mapIdx→gM,mem_of_mem_take→gP,nodup_cons→gR,mem_replicate→ip,mem_singleton→iq,getElem?_drop→ir,pairwise_cons→iw,filter_append→iz,length_range→iC,range_succ_eq_map→i5,of_mem_zip→jc,nil_append→je,length_singleton→jh,getElem_toArray→jA,drop_zero→jC,mem_of_mem_drop→jM,getElem_mapIdx→j9,length_pos_iff→kc,Pairwise→kj,all_cons→kq,map_map→k9,all_nil→lf
open List.cons renaming injEq→ja
open Nat renaming le_refl→ac,lt_of_lt_of_le→aF,ne_of_lt→aI,le_trans→aQ,lt_irrefl→bU,ne_of_gt→ce,sub_self→c7,zero_le→c8,lt_succ_self→df,pow_le_pow_right→dC,add_assoc→eA,le_of_lt→eV,zero_add→ff,min_eq_left→fM,le_succ→fR,lt_trans→gf,add_zero→gk,lt_of_le_of_lt→im,le_of_ble_eq_true→jo,log2_lt→jH,mul_le_mul→jJ,pow_succ→k7
open Ne renaming symm→bD
open Option renaming map_eq_some_iff→ar,isSome_iff_exists→cP,map_some→eu,isNone_iff_eq_none→fg,getD_some→gD
open Option.some renaming injEq→aj,inj→a9
open Or renaming inl→bZ,inr→i3
open Prod renaming ext→eO
open Prod.mk renaming injEq→ke
open PyProof.Rows renaming wpS_bind→ao,wpS_pure→aw,Keyed→aK,callWith_type1→bA,SortSt→bY,wpS_forRange→bV,seqObj→cL,slot_tuple_getitem→dH,wpS_mono→dO,setPending→eQ,wpS_modify→eT,AllBare→fG,IntsAre→f9,failedOf→gL,wpS_get→hJ,assignInOrder_cons→ik,envOfC→iL,mirror→iN,reverseSlice'→iO,wpS_lift→iU,subscriptTail_builtinR→iZ,listItems_at→i7,pairsOf_size→i8,wpS_reverse→jD,getElem?_mirror_all→jY,subscriptTail→kh,firstOfTuple'→kr,setArr→kJ,IsTup→lJ,tuples'→lG
open PyProof.Rows.IsTup renaming new→lx
open PyProof.Rows.SortSt renaming mk'→kH
open PySem renaming Value→aa,model→ae,starEach→af,Shared→az,mainGlobals→aG,Builtin→dI,bootBuiltins→bg,NameKind→cR,PyData→ca,Heap→lH,strLen_append→bN,Program→bO,cellsFrom→bP,Around→cb,wpAny_newObj_type→bX,wpAny_field→b7,backTo→b8,World→cu,wpAny_truthy_bool→cx,compareOp→cB,foldedSetIterable→cG,wpAny_rule→cN,wpAny_holding→cO,sizeLine_eq→c9,wpAny_isInstance→db,wpAny_call_entry→dc,wpAny_passesOwn→dq,assignEach→dE,wpAny_setField→dM,binaryOp→dZ,importedModules→d6,PassesOwn→eB,wpAny_loadPart_at→eJ,wpAny_seqItems→eL,sysModules→eM,excClassObj→eP,behindInMarks→fA,wpAny_specialOf→fE,wpAny_execs_nil→fH,letOwnedTupleGo→fJ,wpAny_updateSeq→fL,sliceBounds→fU,rawInt→fX,tupleKeyHash→f6,FuncData→f8,plainObj_wpAny_Assign_Attribute→gn,isSubtype_tuple_tuple→gp,isInstance→gz,wpAny_forIn_list→gA,attributeBase→gH,keywordEach→gK,preSum→gS,cLine→gU,codeAny→gY,Keyword→gZ,swapsWith→hU,noteFrame→hW,pushCells→hZ,wpAny_tupleItemsOf→ib,Thread→io,wpAny_pyIter_list→iD,wpAny_Call_ofName→iE,pyNext→iG,wpAny_attempt→iH,swapsWithSole→iI,swappedStores→iJ,intBits_le_64→iK,plainId_quiet→iM,wpAny_callSpecial?_slot→iQ,codeAny_mono→iX,getItem→iY,denote→i4,codeAny_builtin→i9,wpAny_loadPart'→jd,pushCells_keeps→jf,wpAny_formatField_int→jp,wpAny_formatField_str→jq,IsRangeIter→jr,subscripted→jt,backToKw→ju,Params→jv,compTurn→jz,codeAny_call_builtin→jF,BindsTo→jO,callerA→jP,treeTable→jQ,valueAt→jS,setFlight→jU,wpAny_isSubtype_exc→j8,Scope→kg,builtinsNs→kA,wpAny_call→kC,IsPart→kD,typeIs_int→kE,wpAny_typeOf→kO,OsState→kS,OwnTail→kX,ExcBaseFacts→kZ,seqItems?→lg,eqIsQuiet→lp,tupleKind→lw,DictEntry→lA,wpAny_throw→lC,unsupported→lD,leaving→lF
open PySem.Around renaming under_plainId→jB,under→kL
open PySem.Builtin.Int renaming intBits→fq
open PySem.Builtin.List renaming listTooLong→fC,listItems→gm
open PySem.Builtin.Range renaming rangeSize→iS
open PySem.Builtin.Slice renaming slicePlaces→dm,sliceAdjust→fk,sliceApplied→il
open PySem.Builtin.Tuple renaming tupleHashOf→ci,tupleExact→dF,tupleItemsOf→ia
open PySem.Code renaming isFrame→kM
open PySem.Data renaming dict→hV,fields→js
open PySem.EntryCells renaming newEntry→jW
open PySem.Heap renaming get?_update_other→av,get?_push_size→aS,get?_update_self→bC,size_push→eK,get?_none_of_le→eN,SameBut→fZ,ExtBut→iB,MadeExcOf→jG,get?_update_ne→jZ
open PySem.NameKind renaming free→da,cell→dG
open PySem.Obj renaming mapSeq→b9,isFreed_of_fields→dj,data_mapFields→dW,mapFields→fv
open PySem.PyData renaming list→cA
open PySem.SeqAt renaming EqAt→kz
open PySem.Str renaming ofString→aB,empty→jV
open PySem.Value renaming ref→aA,type→aT,none→bK,int→gB,builtin→gG,bool→ig,str→jN
open PySem.W renaming findIn→cH,boot_heap→dw,SharedT→dJ,specialIn→eD,looks_mroIn→fV,mroIn→gq,takesIn→hG,clsIn→iT,hasDictIn→iV,stepOk→jw,Looks→jy,boot_drawn→kF,typeIn→kG,through→kP,stepT→kR,looks_findIn→kW,looks_typeIn→kY,boot_toks→lB
open Rat renaming normalize→ku
open Sum renaming inr→gW,inl→iW
open True renaming intro→cW
open PySem PySem.Spec
theorem Qrf(h:0=0:=by rfl):True:=trivial
theorem Qde(h:0=0:=by decide):True:=trivial
theorem Qin(h:0=0:=by intro _;rfl):True:=trivial
noncomputable abbrev Fg:=PySem.W.Frag
noncomputable abbrev Vp:=aa->az->Prop
noncomputable abbrev Pn:=List (Addr×Obj)
noncomputable abbrev Wb:=@wpAny_bind
noncomputable abbrev Hq:=@lH.get?_push_of_some
noncomputable abbrev Hz:=@lH.lt_size
noncomputable abbrev Wp:=@wpAny_pure
noncomputable abbrev Gq:=@aq
namespace DQ
open PyProof.Rows
noncomputable def ZbX(A:cb)(h:Heap):Prop:=A.handled=none\/∃ea oe vs,A.handled=some (.ref ea)/\h.get? ea=some oe/\oe.data=.fields vs/\vs[2]?=some .none
theorem ZbX.keeps(q:ZbX A h)(k:∀b o,h.get? b=some o->h'.get? b=some o):ZbX A h':=by
 rcases q with q|⟨ea,oe,vs,e1,e2,e3,e4⟩
 .exact .inl q
 .exact .inr ⟨ea,oe,vs,e1,k _ _ e2,e3,e4⟩
theorem ZdP:entryFor table "proto.unchain"=some dI.«proto.unchain» :=entryFor_of_fast (by kernel_rfl)
theorem Ze6{Q:α->az->Prop}(q:ZbX A s.heap)(he:s.heap.get? e=some oe)(hd:oe.data=.fields vs)(hz:2<vs.size)(h:∀h',(∀b o,b≠e->s.heap.get? b=some o->h'.get? b=some o)->(∃o,h'.get? e=some o/\o.cls=oe.cls)->E (.ref e) {s with heap:=h'}):wpAny (ae prog w) A (raiseNew (.ref e):Sem α) Q E s:=by
 have same:E (.ref e) s:=h s.heap (λ_ _ _ x=>x) ⟨oe,he,rfl⟩;unfold raiseNew;refine Wb (wpAny_handled ?_);rcases q with q|⟨ea,oa,ws,q1,q2,q3,q4⟩
 .rw[q];exact Wb (Wp (lC same))
 .rw[q1];dsimp only;by_cases c:(aA ea != aA e)=true
  .rw[if_pos c];refine Wb (cO (wpAny_runValue (i9 ZdP ?_)));unfold dI.«proto.unchain»;refine Wb (b7 q2 q3 q4 ?_);refine Wb (Wp ?_);have sf:wpAny (ae prog w) A (setField (.ref e) 2 (.ref ea)) (λ_ s'=>wpAny (ae prog w) A (throw (aA e):Sem α) Q E s') E s:=by
    refine dM he hd hz (lC (h _ (λb o hb x=>?_) ⟨_,bC _ he (dj (dW hd _)),Obj.cls_mapFields _ _⟩));rw[av _ _ (bD hb)];exact x
   exact Wp (Wb sf)
  .rw[if_neg c];exact lC same
theorem Zcx{Q:α->az->Prop}(q:ZbX A s.heap)(h:∀h' e,(∀b o,s.heap.get? b=some o->h'.get? b=some o)->(∃o,h'.get? e=some o/\o.cls=.type "StopIteration")->E (.ref e) {s with heap:=h'}):wpAny (ae prog w) A (newExc (.type "StopIteration") [] >>= λx=>(raiseNew x:Sem α)) Q E s:=by
 refine Wb ?_;simp only[newExc,newTuple];refine Wb (bX ?_ (by size_fits))
 refine Wb (m:=firstArgMember _ _) (wpAny_of_eq (a:=bK) (by first|rfl|(simp only[firstArgMember];rfl)) ?_)
 refine bX ?_ (by size_fits)
 refine Ze6 (q.keeps λb o x=>Hq _ (Hq _ x)) (aS _ rfl) rfl (by rw[Array.size_append];exact aF (by decide:2<6) (Nat.le_add_right _ _)) λh' k he=>?_
 exact h h' _ (λb o x=>k b o (aI (aF (Hz x) (by rw[eK];exact fR _))) (Hq _ (Hq _ x))) he
theorem ZlK(he:∃o,s.heap.get? e=some o/\o.cls=.type "StopIteration")(h:Q true s):wpAny (ae prog w) A (gz (.ref e) (.type "StopIteration")) Q E s:=
 let ⟨o,e1,e2⟩:=he
 db (T:="StopIteration") (b:=true) ⟨o,e1,e2⟩ isSubtype_stop h
theorem ZbX.in1(q:ZbX A h):ZbX A.in1 h:=q
noncomputable def Zg5(it:Addr)(s:az)(e:aa)(s':az):Prop:=∃a,e=.ref a/\(∃o,s'.heap.get? a=some o/\o.cls=.type "StopIteration")/\∃h',iB it s.heap h'/\s'={s with heap:=h'}
theorem Zg6{id:String}(hT:s.TypeIs (.ref it) T)(sl:Slot T (aB "__next__") id)(hb:entryFor table id=some b)(ha:argsOk id ⟨[.ref it],[]⟩)(h:wpAny (ae prog w) A.in1 (b ⟨[.ref it],[]⟩) (λ_ _=>False) (Zg5 it s) s)(hQ:∀h',iB it s.heap h'->Q none {s with heap:=h'}):wpAny (ae prog w) A (iG (.ref it)) Q E s:=by
 unfold iG;refine Wb (iH (iQ (name:=aB "__next__") hT sl (dc sl hT hb (wpAny_mono h (λ_ _ z=>z.elim) λe s' z=>?_) ha)));obtain⟨a,rfl,ho,h',eb,rfl⟩:=z;exact Wb (ZlK ho (Wp (hQ h' eb)))
theorem Zg7{step:Int}(q:ZbX A s.heap)(hit:jr s.heap it x left step)(hl:left<=0)(hQ:∀h',iB it s.heap h'->Q none {s with heap:=h'}):wpAny (ae prog w) A (iG (.ref it)) Q E s:=by
 refine Zg6 ⟨_,hit,rfl⟩ F.slot_range_iterator_next F.entry_range_iterator_next (F.args_range_iterator_next_1 _) ?_ hQ;refine Wb (m:=field (.ref it) 0) (b7 hit rfl (x:=fX x) rfl ?_);refine Wb (m:=field (.ref it) 1) (b7 hit rfl (x:=fX left) rfl ?_);refine Wb (m:=field (.ref it) 2) (b7 hit rfl (x:=fX step) rfl ?_);dsimp only[fX];rw[if_pos hl];refine Wb (cN (Wb ?_));exact Zcx q.in1 λh' e k ho=>⟨e,rfl,ho,h',λb o _ z=>k b o z,rfl⟩
theorem ZnR{i:Nat}(q:ZbX A s.heap)(ho:s.heap.get? it=some o)(hd:o.data=.fields #[.ref l,.int i 0])(hol:s.heap.get? l=some ol)(hdl:ol.data=.seq items n)(hx:items[i]?=none):wpAny (ae prog w) A.in1 (dI.«list_iterator.__next__» ⟨[.ref it],[]⟩) (λ_ _=>False) (Zg5 it s) s:=by
 refine Wb (m:=field (.ref it) 0) (b7 ho hd (x:=.ref l) rfl ?_);dsimp only;rw[if_neg (show ¬((aA l==bK)=true)from dg)];refine Wb (m:=field (.ref it) 1) (b7 ho hd (x:=.int i 0) rfl ?_);refine Wb (m:=lg (.ref l)) (eL hol hdl ?_);simp only[fY,hx];refine Wb (cN (Wb (dM ho hd (by simp) ?_)))
 have q2:ZbX A.in1 (s.heap.update it (fv (·.setIfInBounds 0 bK))):=by
  rcases q with q|⟨ea,oe,vs,e1,e2,e3,e4⟩
  .exact .inl q
  .refine .inr ⟨ea,oe,vs,e1,?_,e3,e4⟩;rw[av _ _ (λz=>?_)]
   .exact e2
   .rw[<-z,ho]at e2;cases e2;rw[hd]at e3;cases e3;simp at e4
 refine Zcx q2 λh' e k ho=>⟨e,rfl,ho,h',λb o hb z=>k b o ?_,rfl⟩;rw[av _ _ (bD hb)];exact z
theorem ZnS{i:Nat}(q:ZbX A s.heap)(ho:s.heap.get? it=some o)(hd:o.data=.fields #[.ref l,.int i 0])(hol:s.heap.get? l=some ol)(hdl:ol.data=.seq items n)(hx:items[i]?=none):wpAny (ae prog w) A.in1 (dI.«tuple_iterator.__next__» ⟨[.ref it],[]⟩) (λ_ _=>False) (Zg5 it s) s:=by
 refine Wb (m:=field (.ref it) 0) (b7 ho hd (x:=.ref l) rfl ?_);dsimp only;rw[if_neg (show ¬((aA l==bK)=true)from dg)];refine Wb (m:=field (.ref it) 1) (b7 ho hd (x:=.int i 0) rfl ?_);refine Wb (m:=lg (.ref l)) (eL hol hdl ?_);simp only[fY,hx];refine Wb (cN (Wb (dM ho hd (by simp) ?_)))
 have q2:ZbX A.in1 (s.heap.update it (fv (·.setIfInBounds 0 bK))):=by
  rcases q with q|⟨ea,oe,vs,e1,e2,e3,e4⟩
  .exact .inl q
  .refine .inr ⟨ea,oe,vs,e1,?_,e3,e4⟩;rw[av _ _ (λz=>?_)]
   .exact e2
   .rw[<-z,ho]at e2;cases e2;rw[hd]at e3;cases e3;simp at e4
 refine Zcx q2 λh' e k ho=>⟨e,rfl,ho,h',λb o hb z=>k b o ?_,rfl⟩;rw[av _ _ (bD hb)];exact z
theorem Zju{items}(q:ZbX A s.heap)(hit:s.heap.IsListIter it l i)(hl:s.heap.IsList l items)(hx:items[i]?=none)(hQ:∀h',iB it s.heap h'->Q none {s with heap:=h'}):wpAny (ae prog w) A (iG (.ref it)) Q E s:=by
 obtain⟨o,ho,hc,hd⟩:=id hit;obtain⟨ol,hol,_,nl,hdl⟩:=hl;exact Zg6 hit.typeIs slot_listiter_next entry_listiter_next (args_listiter_next _) (ZnR q ho hd hol hdl hx) hQ
theorem Zg8{items}(q:ZbX A s.heap)(hit:s.heap.IsTupleIter it l i)(hl:s.heap.IsTuple l items)(hx:items[i]?=none)(hQ:∀h',iB it s.heap h'->Q none {s with heap:=h'}):wpAny (ae prog w) A (iG (.ref it)) Q E s:=by
 obtain⟨o,ho,hc,hd⟩:=id hit;obtain⟨ol,hol,_,nl,hdl⟩:=hl;exact Zg6 hit.typeIs F.slot_tuple_iterator_next F.entry_tuple_iterator_next (F.args_tuple_iterator_next_1 _) (ZnS q ho hd hol hdl hx) hQ
end DQ
namespace PySem
namespace NK
variable {prog:bO}{w:cu}{K:Type}[DecidableEq K](knd:KeyKind prog w K)
inductive ItemsT(h:Heap):List (List K)->List aa->Prop where
 |nil:ItemsT h [] []
 |cons {k:List K} {a:Addr} {ks:List (List K)} {vs:List aa}:IsTupleKey knd h k a->ItemsT h ks vs->ItemsT h (k::ks) (.ref a::vs)
noncomputable def ZaS(h:Heap)(ks:List (List K))(a:Addr):Prop:=∃o items n,h.get? a=some o/\o.cls=.type "tuple"/\o.data=.seq items n/\ItemsT knd h ks items.toList
variable {knd}
theorem ItemsT.inj{h:Heap}{x y:List (List K)}{vs:List aa}(hx:ItemsT knd h x vs):ItemsT knd h y vs->x=y:=by
 intro hy
 induction hx generalizing y with
 |nil=>cases hy;rfl
 |cons k1 _ ih=>
  cases hy with
  |cons k2 t=>rw[k1.inj k2,ih t]
theorem ZaS.typeIs{s:az}{ks:List (List K)}{a:Addr}(x:ZaS knd s.heap ks a):s.TypeIs (.ref a) "tuple":=let ⟨o,_,_,ho,hc,_⟩:=x;⟨o,ho,hc⟩
theorem ZaS.inj{h:Heap}{a:Addr}{x y:List (List K)}(hx:ZaS knd h x a)(hy:ZaS knd h y a):x=y:=by
 obtain⟨o,i1,n1,e1,_,d1,q1⟩:=hx;obtain⟨o2,i2,n2,e2,_,d2,q2⟩:=hy;rw[e1]at e2;cases e2;rw[d1]at d2;cases d2;exact q1.inj q2
theorem ItemsT.keeps{h h':Heap}{ks:List (List K)}{vs:List aa}{d:Addr}{o:Obj}{es ep}(x:ItemsT knd h ks vs)(ho:h.get? d=some o)(hd:o.data=.dict es ep)(hs:fZ d h h'):ItemsT knd h' ks vs:=by
 induction x with
 |nil=>exact .nil
 |cons k _ ih=>exact .cons (k.keeps ho hd hs) ih
theorem ZaS.keeps{h h':Heap}{ks:List (List K)}{a d:Addr}{o:Obj}{es ep}(x:ZaS knd h ks a)(ho:h.get? d=some o)(hd:o.data=.dict es ep)(hs:fZ d h h'):ZaS knd h' ks a:=by
 obtain⟨o1,items,n,e1,c1,d1,q⟩:=x;have ne:a≠d:=by
  intro z;subst z;rw[e1]at ho;cases ho;rw[d1]at hd;cases hd
 exact⟨o1,items,n,by rw[hs.2 a ne];exact e1,c1,d1,q.keeps ho hd hs⟩
noncomputable def ZlL(knd:KeyKind prog w K)(ks:List (List K)):Int:=reduceHash (ci (ks.map (f6 knd)))
noncomputable def ZdB(ks:List (List K)):Nat:=(ks.map λk=>k.length+1).sum
variable {A:cb}{E:Vp}{s:az}
theorem Zg9{ks:List (List K)}{a:Addr}{Q:Int->az->Prop}(hu:A.units+1<gU)(hk:ZaS knd s.heap ks a)(h:Q (ZlL knd ks) {s with toks:=s.toks+(ZdB ks+1)}):wpAny (ae prog w) A (pyHash (.ref a)) Q E s:=by
 have hT:=hk.typeIs;obtain⟨o,items,n,ho,_,hd,hi⟩:=hk;unfold pyHash
 first|unfold pyHashByItsType|skip
 first|refine Wb (wpAny_cRoomFor_or (.inr ⋯) ?_)|skip
 refine Wb (fE hT F.slot_tuple_hash.lookup ?_);show wpAny _ _ (if(some (gG "tuple.__hash__")==some bK)=true then _ else _) Q E s
 rw[if_neg (by rw[beq_builtin_none];exact dg)]
 refine Wb (fE hT F.slot_tuple_hash.lookup ?_);show wpAny _ _ (callSpecialIfBoundUnlessNone? (.ref a) "__hash__" _ >>= _) Q E s;refine Wb (wpAny_callSpecialIfBoundUnlessNone?_slot hT F.slot_tuple_hash (dc F.slot_tuple_hash hT F.entry_tuple_hash ?_ (F.args_tuple_hash_1 _)));show wpAny _ _ (ia (.ref a) >>= _) _ _ s;refine Wb (ib ho hd ?_);refine Wb ?_;rw[<-ic];refine gA _
  (λZam (b:Array Int) s'=>∃done left,ks=done++left/\ItemsT knd s.heap left Zam/\b.toList=done.map (f6 knd)/\s'={s with toks:=s.toks+ZdB done})
  _ ?_ ?_ _ _ ⟨[],ks,rfl,hi,rfl,rfl⟩
 .rintro x Zam b s' ⟨done,left,rfl,hl,hb,rfl⟩;cases hl with
  |@cons k a' ks' _ h1 hl'=>
   refine Wb (wpAny_pyHash_tuple (knd:=knd) (ks:=k) (s:={s with toks:=s.toks+ZdB done}) (by exact hu) h1 ?_)
   first
    |exact Wp ⟨done++[k],ks',by simp,hl',by simp[hb],by simp[ZdB,eA]⟩
    |exact Wb (Wp (Wp ⟨done++[k],ks',by simp,hl',by simp[hb],by simp[ZdB,eA]⟩))
 .rintro b s' ⟨done,left,rfl,hl,hb,rfl⟩;cases hl;rw[bR]at h;show wpAny _ _ (retInt (ci b.toList)) _ _ _;rw[hb];refine wpAny_ret_mkInt ?_;show wpAny _ _ (if(decide (-(2:Int)^63<=ci (done.map (f6 knd)))&&decide (ci (done.map (f6 knd))<2^63))=true then _ else _) Q E _
  unfold ZlL reduceHash at h;by_cases hr:(decide (-(2:Int)^63<=ci (done.map (f6 knd)))&&decide (ci (done.map (f6 knd))<2^63))=true
  .rw[if_pos hr];rw[if_pos hr]at h;exact Wp (by simpa [eA]using h)
  .rw[if_neg hr];rw[if_neg hr]at h;exact Wb (cN (Wp (by simpa [eA]using h)))
theorem ZlM{x y:List (List K)}{a b:Addr}{P:Fin->az->Prop}(hu:A.units<gU)(hx:ZaS knd s.heap x a)(hy:ZaS knd s.heap y b)(h:P (.done (.ret (.bool (decide (x=y))))) s):wpAny (ae prog w) A (dI.«tuple.__eq__» ⟨[.ref a,.ref b],[]⟩) P E s:=by
 have hTb:=hy.typeIs;obtain⟨oa,xs,na,hoa,_,hda,hia⟩:=hx;obtain⟨ob,ys,nb,hob,_,hdb,hib⟩:=hy;show wpAny _ _ (gz (.ref b) (.type "tuple") >>= _) _ _ s;refine Wb (db hTb gp ?_);simp only[dD,aX,if_false];refine Wb (ib hoa hda ?_);refine Wb (ib hob hdb ?_);refine Wb ?_;refine gA _
  (λZam r s'=>r.1=none/\s'=s/\∃x' y' xs' ys',Zam=List.zip xs' ys'/\ItemsT knd s.heap x' xs'/\ItemsT knd s.heap y' ys'/\decide (x'=y')=decide (x=y)/\(xs'.length==ys'.length)=(xs.size==ys.size))
  _ ?_ ?_ _ _ ⟨rfl,rfl,x,y,xs.toList,ys.toList,rfl,hia,hib,rfl,by simp⟩
 .rintro⟨u,v⟩ Zam r s' ⟨hr,rfl,x',y',xs',ys',hz,hx',hy',hdec,hlen⟩;cases hx' with
  |nil=>simp at hz
  |@cons k1 u' x'' xs'' h1 hx''=>
   cases hy' with
   |nil=>simp at hz
   |@cons k2 v' y'' ys'' h2 hy''=>
    simp only[List.zip_cons_cons,ja,ke]at hz;obtain⟨⟨rfl,rfl⟩,rfl⟩:=hz;refine Wb (wpAny_eqBool_tuple (knd:=knd) (x:=k1) (y:=k2) hu h1 h2 ?_);by_cases hk:k1=k2
    .subst hk;rw[decide_eq_true rfl];simp only[dD,aX,if_false];refine Wp ⟨rfl,rfl,x'',y'',xs'',ys'',rfl,hx'',hy'',?_,by simpa using hlen⟩
     rw[<-hdec];by_cases hxy:x''=y''
     .simp[hxy]
     .simp[hxy]
    .rw[decide_eq_false hk];simp only[Bool.not_false,if_true];have hf:decide (x=y)=false:=by rw[<-hdec];simp[hk]
     rw[hf]at h;exact Wb (Wp (Wp (Wp h)))
 .rintro⟨r1,r2⟩ s' ⟨hr,rfl,x',y',xs',ys',hz,hx',hy',hdec,hlen⟩;simp only at hr;subst hr;refine Wp ?_;have hfin:(xs.size==ys.size)=decide (x=y):=by
   rw[<-hdec,<-hlen];cases hx' with
   |nil=>
    cases hy' with
    |nil=>simp
    |cons _ _=>simp
   |cons _ _=>
    cases hy' with
    |nil=>simp
    |cons _ _=>simp at hz
  show P (.done (.ret (.bool (xs.size==ys.size)))) s';rw[hfin];exact h
theorem ZlN{x y:List (List K)}{a b:Addr}{Q:Bool->az->Prop}(hu:A.units+1<gU)(hx:ZaS knd s.heap x a)(hy:ZaS knd s.heap y b)(h:Q (decide (x=y)) s):wpAny (ae prog w) A (eqBool (.ref a) (.ref b)) Q E s:=by
 unfold eqBool
 try with_reducible refine cO ?_
 show wpAny _ _ (if(aA a==aA b)=true then _ else _) Q E s
 by_cases hab:(aA a==aA b)=true
 .rw[if_pos hab];have e:a=b:=by have:=eq_of_beq hab;injection this
  subst e;obtain rfl:=hx.inj hy;exact Wb (cN (Wp (by simpa using h)))
 .rw[if_neg hab];exact Wb (wpAny_richCompare_same_room (op:=.Eq) hx.typeIs hy.typeIs F.slot_tuple_eq
   (dc F.slot_tuple_eq hx.typeIs F.entry_tuple_eq (ZlM (by exact hu) hx hy ⟨_,rfl,(λe=>nomatch e),cx h⟩) (F.args_tuple_eq_2 _ _)) ⋯)
theorem Zha{ks:List K}{a:Addr}{Q:Bool->az->Prop}(m:Nat)(hk:IsTupleKey knd s.heap ks a)(h:Q true s):wpAny (ae prog w) A (lp (m+1) (.ref a)) Q E s:=by
 have hT:=hk.typeIs;obtain⟨o,items,n,ho,_,hd,hi⟩:=hk;unfold lp;refine Wb (fE hT F.slot_tuple_eq.lookup ?_);show wpAny _ _ (gz (.ref a) (.type "tuple") >>= _) _ _ s;refine Wb (db hT gp ?_);simp only[dD,aX,if_false];refine Wb (eL ho hd ?_);refine Wb ?_;show wpAny _ _ (forIn items _ _) _ _ s;rw[<-ic];refine gA _ (λZam r s'=>r.1=none/\s'=s/\∀v∈Zam,carriedByValue v=true) _ ?_ ?_ _ _ ⟨rfl,rfl,hi.byValue⟩
 .rintro v Zam r s' ⟨hr,rfl,hall⟩;rw[eqIsQuiet_byValue _ (hall v bM)];refine Wb (Wp ?_);simp only[dD,aX,if_false];exact Wp ⟨rfl,rfl,λu hu'=>hall u (aL _ hu')⟩
 .rintro⟨r1,r2⟩ s' ⟨hr,rfl,_⟩;simp only at hr;subst hr;exact Wp h
theorem Zgw{ks:List (List K)}{a:Addr}{Q:Bool->az->Prop}(hk:ZaS knd s.heap ks a)(h:Q true s):wpAny (ae prog w) A (lp 8 (.ref a)) Q E s:=by
 have hT:=hk.typeIs;obtain⟨o,items,n,ho,_,hd,hi⟩:=hk;unfold lp;refine Wb (fE hT F.slot_tuple_eq.lookup ?_);show wpAny _ _ (gz (.ref a) (.type "tuple") >>= _) _ _ s;refine Wb (db hT gp ?_);simp only[dD,aX,if_false];refine Wb (eL ho hd ?_);refine Wb ?_;show wpAny _ _ (forIn items _ _) _ _ s;rw[<-ic];refine gA _ (λZam r s'=>r.1=none/\s'=s/\∃ks',ItemsT knd s.heap ks' Zam) _ ?_ ?_ _ _ ⟨rfl,rfl,ks,hi⟩
 .rintro v Zam r s' ⟨hr,rfl,ks',hall⟩;cases hall with
  |cons k1 t=>
   refine Wb (Zha 6 k1 ?_);simp only[dD,aX,if_false];exact Wp ⟨rfl,rfl,_,t⟩
 .rintro⟨r1,r2⟩ s' ⟨hr,rfl,_⟩;simp only at hr;subst hr;exact Wp h
end NK
def Zjv{prog:bO}{w:cu}{K:Type}[DecidableEq K](knd:KeyKind prog w K):HeapKind prog w (List (List K)) where
 is:=NK.ZaS knd
 hash:=NK.ZlL knd
 draws:=λks=>NK.ZdB ks+1
 room:=λA=>A.units+1<gU
 inj:=λhx hy=>hx.inj hy
 keeps:=λx ho hd hs=>x.keeps ho hd hs
 pyHash:=λhu hk h=>NK.Zg9 hu hk h
 eqBool:=λhu hx hy h=>NK.ZlN hu hx hy h
 quiet:=λhk h=>NK.Zgw hk h
end PySem
namespace L2
open PyProof.Rows
noncomputable abbrev Key:=Sum Int Str
noncomputable def Zgx:Key->aa->Bool
 |.inl k,v=>aa.isInt k v
 |.inr x,v=>aa.isStrOf x v
noncomputable def Zud(w:cu):Key->Int
 |.inl k=>hashInt k
 |.inr x=>hashStr w x
theorem Z4:∀{k:Key}{v:aa},Zgx k v=true->(∃i t,k=iW i/\v=gB i t)\/(∃x t,k=gW x/\v=jN x t)
 |.inl i,v,h=>by
  obtain⟨t,e⟩:=aa.isInt_shape (k:=i) (v:=v) h;exact .inl ⟨i,t,rfl,e⟩
 |.inr x,v,h=>by
  obtain⟨t,e⟩:=aa.isStrOf_shape (x:=x) (v:=v) h;exact .inr ⟨x,t,rfl,e⟩
theorem Zhb(i:Int)(t:Tok):Zgx (.inl i) (.int i t)=true:=by simp[Zgx,aa.isInt]
theorem Zhc(x:Str)(t:Tok):Zgx (.inr x) (.str x t)=true:=by simp[Zgx,aa.isStrOf]
theorem ZnT(a b:Int):decide ((iW a:Key)=iW b)=(a==b):=by
 by_cases e:a=b
 .subst e;simp
 .have h:¬(iW a:Key)=iW b:=λq=>e (iW.inj q);rw[decide_eq_false h];exact(beq_eq_false_iff_ne.mpr e).symm
theorem ZnU(a b:Str):decide ((gW a:Key)=gW b)=decide (a=b):=by
 by_cases e:a=b
 .subst e;simp
 .have h:¬(gW a:Key)=gW b:=λq=>e (gW.inj q);rw[decide_eq_false h,decide_eq_false e]
theorem ZnV(a:Int)(b:Str):decide ((iW a:Key)=gW b)=false:=decide_eq_false (λq=>nomatch q)
theorem ZnW(a:Str)(b:Int):decide ((gW a:Key)=iW b)=false:=decide_eq_false (λq=>nomatch q)
def Zaq(prog:bO)(w:cu):PySem.KeyKind prog w Key where
 is:=Zgx
 hash:=Zud w
 inj:=λv a b ha hb=>by
  rcases Z4 ha with⟨i,t,rfl,rfl⟩|⟨x,t,rfl,rfl⟩
  .rcases Z4 hb with⟨j,u,rfl,e⟩|⟨y,u,rfl,e⟩
   .injection e with e1 _;rw[e1]
   .exact nomatch e
  .rcases Z4 hb with⟨j,u,rfl,e⟩|⟨y,u,rfl,e⟩
   .exact nomatch e
   .injection e with e1 _;rw[e1]
 byValue:=λk v h=>by
  rcases Z4 h with⟨i,t,rfl,rfl⟩|⟨x,t,rfl,rfl⟩<;>rfl
 pyHash:=λhv h=>by
  rcases Z4 hv with⟨i,t,rfl,rfl⟩|⟨x,t,rfl,rfl⟩
  .exact wpAny_pyHash_int h
  .exact wpAny_pyHash_str h
 eqBool:=λhu hv h=>by
  rcases Z4 hu with⟨i,t,rfl,rfl⟩|⟨x,t,rfl,rfl⟩
  .rcases Z4 hv with⟨j,u,rfl,rfl⟩|⟨y,u,rfl,rfl⟩
   .rw[ZnT]at h;exact wpAny_eqBool_int h
   .rw[ZnV]at h;exact kz.int_str i t y u _ _ _ _ h
  .rcases Z4 hv with⟨j,u,rfl,rfl⟩|⟨y,u,rfl,rfl⟩
   .rw[ZnW]at h;exact kz.str_int x t j u _ _ _ _ h
   .rw[ZnU]at h;exact wpAny_eqBool_str h
 «strs» :=λk x t v h=>by
  rcases Z4 h with⟨i,u,rfl,e⟩|⟨y,u,rfl,e⟩
  .exact nomatch e
  .injection e with e1 _;subst e1;cases v<;>rfl
theorem Ze7(prog:bO)(w:cu)(i:Int)(t:Tok):(Zaq prog w).is (.inl i) (.int i t)=true:=Zhb i t
theorem Ze8(prog:bO)(w:cu)(x:Str)(t:Tok):(Zaq prog w).is (.inr x) (.str x t)=true:=Zhc x t
inductive V where
 |non|bl (b:Bool)|int (i:Int)|str (x:Str)|byt (b:Array UInt8)|flt (b:UInt64)|ref (a:Addr)|ty (n:String)
 deriving DecidableEq
noncomputable def Zah:V->aa->Prop
 |.non,u=>u=bK
 |.bl b,u=>u=ig b
 |.int i,u=>∃t,u=gB i t
 |.str x,u=>∃t,u=jN x t
 |.byt b,u=>∃t,u=aa.bytes b t
 |.flt b,u=>∃t,u=aa.float b t
 |.ref a,u=>u=aA a
 |.ty n,u=>u=aT n
abbrev Zaj:List V->List aa->Prop:=Paired Zah
theorem Zaj.length(r:Zaj xs us):xs.length=us.length:=Paired.length r
theorem Zaj.get:∀{xs:List V}{us:List aa}{i:Nat}{x:V},Zaj xs us->xs[i]?=some x->∃u,us[i]?=some u/\Zah x u
 |_,_,_,_,.nil,e=>by simp at e
 |_,_,0,_,.cons r _,e=>by simp at e;subst e;exact⟨_,rfl,r⟩
 |_,_,i+1,x,.cons _ t,e=>by
  obtain⟨u,h1,h2⟩:=Zaj.get (i:=i) (x:=x) t (by simpa using e)
  exact⟨u,by simpa using h1,h2⟩
theorem Zaj.append:∀{xs ys:List V}{us ws:List aa},Zaj xs us->Zaj ys ws->Zaj (xs++ys) (us++ws)
 |_,_,_,_,.nil,s=>s
 |_,_,_,_,.cons r t,s=>.cons r (Zaj.append t s)
theorem Zaj.take:∀{xs:List V}{us:List aa}(n:Nat),Zaj xs us->Zaj (xs.take n) (us.take n)
 |_,_,0,_=>.nil
 |_,_,_+1,.nil=>.nil
 |_,_,n+1,.cons r t=>.cons r (Zaj.take n t)
theorem Zaj.drop:∀{xs:List V}{us:List aa}(n:Nat),Zaj xs us->Zaj (xs.drop n) (us.drop n)
 |_,_,0,r=>r
 |_,_,_+1,.nil=>.nil
 |_,_,n+1,.cons _ t=>Zaj.drop n t
def Zgy:Option V->Option aa->Prop
 |some v,some u=>Zah v u
 |none,none=>True
 |_,_=>False
def KV{κ:Type}:List (κ×V)->List (κ×aa)->Prop:=Paired λ(p:κ×V) (q:κ×aa)=>p.1=q.1/\Zah p.2 q.2
noncomputable def kV:Key->V
 |.inl i=>.int i
 |.inr x=>.str x
inductive HO where
 |lst (xs:List V)
 |tup (xs:List V)
 |dK (kvs:List (Key×V))|dT (kvs:List (List Key×V))|dU (kvs:List (List (List Key)×V))
 |set (S:Int->Bool) (n:Nat)
 |ins (C dx:Addr) (fs:List (Str×V))
 |own (x:Addr)
 |xd (fs:List (Str×V))
 |met (f x:Addr)
 |rng (lo hi:Int)
 |frz (o:Obj) (u:HO)
 |tbl (ps:Array aa)
 |ext (φ:Heap->Prop)
noncomputable abbrev Hp:=Addr->Option HO
noncomputable def upd(H:Hp)(a:Addr)(o:HO):Hp:=λb=>if b=a then some o else H b
theorem Zs:upd H a o a=some o:=by unfold upd;rw[if_pos rfl]
theorem Zv(h:b≠a):upd H a o b=H b:=by unfold upd;rw[if_neg h]
theorem ZX{H:Hp}(h:H a=some o)(h':H b=none):a≠b:=by
 intro e;subst e;rw[h]at h';cases h'
def ZnX(H:Hp)(ks:List (List Key))(b:Addr):Prop:=∃cs:List Addr,H b=some (.tup (cs.map V.ref))/\Paired (λ(k:List Key) (c:Addr)=>H c=some (.tup (k.map kV))) ks cs
section
variable (P:bO)(w:cu)
def ZaN(H:Hp)(h:Heap)(a:Addr):HO->Prop
 |.lst xs=>xs.length<=sizeLine/\∃(its:List aa) (n:Nat),Zaj xs its/\h.get? a=some {cls:=.type "list",data:=.seq its.toArray n}
 |.tup xs=>xs.length<=sizeLine/\∃its:List aa,Zaj xs its/\lJ h a its.toArray
 |.dK kvs=>kvs.length<=sizeLine/\(a==eM)=false/\∃vs,KV kvs vs/\h.DictOf (Zaq P w) a vs
 |.dT kvs=>kvs.length<=sizeLine/\(a==eM)=false/\∃xs:List (List Key×Addr×aa),
   Paired (λ(p:List Key×V) (q:List Key×Addr×aa)=>p.1=q.1/\H q.2.1=some (.tup (p.1.map kV))/\Zah p.2 q.2.2) kvs xs/\
   ∃o es ep,h.get? a=some o/\o.ExactDict/\o.data=.dict es ep/\es.toList=xs.map (entryOfKey (lw (Zaq P w)))/\(xs.map (·.1)).Nodup
 |.dU kvs=>kvs.length<=sizeLine/\(a==eM)=false/\∃xs:List (List (List Key)×Addr×aa),
   Paired (λ(p:List (List Key)×V) (q:List (List Key)×Addr×aa)=>p.1=q.1/\ZnX H p.1 q.2.1/\Zah p.2 q.2.2) kvs xs/\
   ∃o es ep,h.get? a=some o/\o.ExactDict/\o.data=.dict es ep/\es.toList=xs.map (entryOfKey (Zjv (Zaq P w)))/\(xs.map (·.1)).Nodup
 |.set S n=>h.SetOf (intKind P w) a S n
 |.ins C dx fs=>H dx=some (.own a)/\fs.length<=1000/\dx≠a/\h.get? a=some (PySem.W.instObj C dx)/\
   ∃mA,h.Ns1 dx mA/\(∀f,Zgy (fs.lookup f) (mA f))/\PySem.Within mA (fs.map (·.1))
 |.own _=>∃o,h.get? a=some o
 |.xd fs=>∃mA,h.Ns1 a mA/\∀f,Zgy (fs.lookup f) (mA f)
 |.rng lo hi=>∃t u v,h.get? a=some {cls:=.type "range",data:=.fields #[.int lo t,.int hi u,.int 1 v]}
 |.frz o u=>h.get? a=some o/\ZaN H h a u
 |.tbl ps=>h.get? a=some {cls:=.none,data:=.fields ps}/\TriplesOk ps.toList/\∀pos cv,codeAmong pos ps.toList=some cv->∃c' o vs q t,cv=.ref c'/\H c'=some (.own a)/\h.get? c'=some o/\o.data=.fields vs/\vs[1]?=some (.str q t)
 |.met f x=>h.get? a=some (PySem.W.methodObj (.ref f) (.ref x))
 |.ext φ=>φ h/\(∃o,h.get? a=some o)/\∀h1 h2:Heap,φ h1->(∀o,h1.get? a=some o->h2.get? a=some o)->φ h2
def HOk(H:Hp)(h:Heap):Prop:=∀a o,H a=some o->ZaN P w H h a o
end
section
variable {a:Addr}
theorem ZaN.lt(x:ZaN P w H h a o):a<h.objs.size:=by
 cases o with
 |lst xs=>obtain⟨_,_,_,_,e⟩:=x;exact Hz e
 |tup xs=>obtain⟨_,_,_,p⟩:=x;exact p.lt
 |dK kvs=>obtain⟨_,_,_,_,o,_,_,e,_⟩:=x;exact Hz e
 |dT kvs=>obtain⟨_,_,_,_,o,_,_,e,_⟩:=x;exact Hz e
 |dU kvs=>obtain⟨_,_,_,_,o,_,_,e,_⟩:=x;exact Hz e
 |set S n=>obtain⟨o,_,_,_,e,_⟩:=x;exact Hz e
 |ins C dx fs=>obtain⟨_,_,_,e,_⟩:=x;exact Hz e
 |own y=>obtain⟨_,e⟩:=x;exact Hz e
 |xd fs=>obtain⟨_,⟨_,_,_,e,_⟩,_⟩:=x;exact Hz e
 |rng lo hi=>obtain⟨_,_,_,e⟩:=x;exact Hz e
 |frz ob u=>obtain⟨e,_⟩:=x;exact Hz e
 |tbl ps=>exact Hz x.1
 |met f y=>exact Hz (show h.get? a=some _ from x)
 |ext φ=>obtain⟨_,⟨_,e⟩,_⟩:=x;exact Hz e
theorem Paired.mapP{α β:Type}{F G:α->β->Prop}:∀{l₁:List α}{l₂:List β},Paired F l₁ l₂->(∀a b,F a b->G a b)->Paired G l₁ l₂
 |_,_,.nil,_=>.nil
 |_,_,.cons r t,f=>.cons (f _ _ r) (Paired.mapP t f)
theorem ZaN.stay(x:ZaN P w H h a o)(k:∀b u,(b=a\/H b=some (.own a))->h.get? b=some u->h'.get? b=some u)(ho:∀b,H b=some (.own a)->H' b=some (.own a))(ht:∀b xs,H b=some (.tup xs)->H' b=some (.tup xs)):ZaN P w H' h' a o:=by
 induction o with
 |lst xs=>obtain⟨z,its,n,r,e⟩:=x;exact⟨z,its,n,r,k _ _ (.inl rfl) e⟩
 |tup xs=>obtain⟨z,its,r,ob,e,c⟩:=x;exact⟨z,its,r,ob,k _ _ (.inl rfl) e,c⟩
 |dK kvs=>obtain⟨z,y,vs,r,ob,es,ep,e,c⟩:=x;exact⟨z,y,vs,r,ob,es,ep,k _ _ (.inl rfl) e,c⟩
 |dT kvs=>
  obtain⟨z,y,xs,r,ob,es,ep,e,c⟩:=x;exact⟨z,y,xs,Paired.mapP r λp q z=>⟨z.1,ht _ _ z.2.1,z.2.2⟩,ob,es,ep,k _ _ (.inl rfl) e,c⟩
 |dU kvs=>
  obtain⟨z,y,xs,r,ob,es,ep,e,c⟩:=x;exact⟨z,y,xs,Paired.mapP r λp q z=>⟨z.1,let ⟨cs,z1,z2⟩:=z.2.1;⟨cs,ht _ _ z1,Paired.mapP z2 λ_ _ t=>ht _ _ t⟩,z.2.2⟩,ob,es,ep,k _ _ (.inl rfl) e,c⟩
 |set S n=>obtain⟨ob,es,ep,t,e,c⟩:=x;exact⟨ob,es,ep,t,k _ _ (.inl rfl) e,c⟩
 |ins C dx fs=>
  obtain⟨d,z,ne,e,mA,⟨od,es,ep,e2,c⟩,r⟩:=x;exact⟨ho _ d,z,ne,k _ _ (.inl rfl) e,mA,⟨od,es,ep,k _ _ (.inr d) e2,c⟩,r⟩
 |own y=>obtain⟨ob,e⟩:=x;exact⟨ob,k _ _ (.inl rfl) e⟩
 |xd fs=>obtain⟨mA,⟨od,es,ep,e,c⟩,r⟩:=x;exact⟨mA,⟨od,es,ep,k _ _ (.inl rfl) e,c⟩,r⟩
 |rng lo hi=>obtain⟨t,u,v,e⟩:=x;exact⟨t,u,v,k _ _ (.inl rfl) e⟩
 |frz ob u ih=>obtain⟨e,q⟩:=x;exact⟨k _ _ (.inl rfl) e,ih q⟩
 |tbl ps=>
  exact⟨k a _ (.inl rfl) x.1,x.2.1,λpos cv e=>let ⟨c',ob,vs,q,t,e1,e2,e3,e4⟩:=x.2.2 pos cv e;⟨c',ob,vs,q,t,e1,ho _ e2,k _ _ (.inr e2) e3,e4⟩⟩
 |met f y=>
  have e:h.get? a=some (PySem.W.methodObj (.ref f) (.ref y)):=x;show h'.get? a=some (PySem.W.methodObj (.ref f) (.ref y));exact k a _ (.inl rfl) e
 |ext φ=>obtain⟨p,⟨o,e⟩,st⟩:=x;exact⟨st _ _ p λo q=>k _ _ (.inl rfl) q,⟨o,k _ _ (.inl rfl) e⟩,st⟩
theorem HOk.lt(x:HOk P w H h)(e:H a=some o):a<h.objs.size:=(x a o e).lt
theorem HOk.fresh(x:HOk P w H h)(e:h.objs.size<=a):H a=none:=by
 cases q:H a with
 |none=>rfl
 |some u=>exact absurd (aF (x.lt q) e) (bU _)
theorem HOk.kept(x:HOk P w H h)(k:∀b u,h.get? b=some u->h'.get? b=some u):HOk P w H h':=λa o e=>
 (x a o e).stay (λb u _ q=>k b u q) (λ_ q=>q) λ_ _ q=>q
theorem HOk.laid(x:HOk P w H h)(k:∀b u,h.get? b=some u->h'.get? b=some u)(hp:h.objs.size<=a)(new:ZaN P w (upd H a o) h' a o):HOk P w (upd H a o) h':=λb u e=>by
 have hn:=x.fresh hp;by_cases hb:b=a
 .subst hb;rw[Zs]at e;cases e;exact new
 .rw[Zv hb]at e;exact(x b u e).stay (λc v _ q=>k c v q) (λc q=>by rw[Zv (ZX q hn)];exact q) λc xs q=>by rw[Zv (ZX q hn)];exact q
end
noncomputable def Rd(H:Hp)(a:Addr)(u:HO):Prop:=H a=some u\/∃o,H a=some (.frz o u)
theorem Rd.ok(r:Rd H a u)(x:HOk P w H h):ZaN P w H h a u:=by
 rcases r with r|⟨o,r⟩
 .exact x a u r
 .obtain⟨_,q⟩:=x a _ r;exact q
noncomputable def Mut:Option HO->Prop
 |some (.lst _)=>True
 |some (.dK _)=>True
 |some (.dT _)=>True
 |some (.dU _)=>True
 |some (.set _ _)=>True
 |some (.ins _ _ _)=>True
 |some (.ext _)=>True
 |_=>False
theorem HOk.write(ok:HOk P w H h)(mu:Mut (H x))(he:e=x\/H e=some (.own x))(k:∀b u,b≠e->h.get? b=some u->h'.get? b=some u)(heo:∃u,h'.get? e=some u)(new:ZaN P w (upd H x o') h' x o'):HOk P w (upd H x o') h':=λb u q=>by
 have nown:∀c y,H c=some (.own y)->c≠x:=λc y r z=>by subst z;rw[r]at mu;exact mu
 have ntup:∀c xs,H c=some (.tup xs)->c≠x:=λc xs r z=>by subst z;rw[r]at mu;exact mu
 by_cases hb:b=x
 .subst hb;rw[Zs]at q;cases q;exact new
 .rw[Zv hb]at q;by_cases hbe:b=e
  .have q':H b=some (.own x):=by
    rcases he with z|z
    .exact absurd (hbe.trans z) hb
    .rw[hbe];exact z
   rw[q]at q';cases q';obtain⟨v,hv⟩:=heo;exact⟨v,by rw[hbe];exact hv⟩
  .refine(ok b u q).stay (λc v hc r=>k c v ?_ r) (λc r=>by rw[Zv (nown c b r)];exact r) λc xs r=>by rw[Zv (ntup c xs r)];exact r
   rcases hc with rfl|hc
   .exact hbe
   .rintro rfl;rcases he with z|z
    .exact nown c b hc z
    .rw[hc]at z;cases z;exact hb rfl
structure Un(fs ex:List Addr) (H H':Hp) (h h':Heap):Prop where
 keep:∀b o,h.get? b=some o->H b=none->b∉fs->b∉ex->h'.get? b=some o
 slot:∀b o,h.get? b=some o->H b=none->b∈fs->b∉ex->∃sl,h'.get? b=some {o with slots:=sl}
 free:∀b o,h.get? b=some o->H b=none->b∉ex->H' b=none
 there:∀b o,h.get? b=some o->b∉ex->∃o',h'.get? b=some o'
 tups:∀b xs,H b=some (.tup xs)->H' b=some (.tup xs)
 frzs:∀b o u,H b=some (.frz o u)->H' b=some (.frz o u)
 tbls:∀b ps,H b=some (.tbl ps)->∃more,H' b=some (.tbl (ps++more))
theorem Un.any(u:Un fs ex H H1 h h1)(q:h.get? b=some ob)(n:H b=none)(hx:b∉ex):∃sl,h1.get? b=some {ob with slots:=sl}:=by
 by_cases hb:b∈fs
 .exact u.slot b ob q n hb hx
 .exact⟨ob.slots,u.keep b ob q n hb hx⟩
theorem Un.kept(k:∀b u,h.get? b=some u->h'.get? b=some u):Un fs ex H H h h':=
 ⟨λb ob q _ _ _=>k b ob q,λb ob q _ _ _=>⟨ob.slots,k b ob q⟩,λ_ _ _ n _=>n,λb ob q _=>⟨ob,k b ob q⟩,λ_ _ q=>q,λ_ _ _ q=>q,λ_ ps q=>⟨#[],by rw[q];simp⟩⟩
theorem Un.refl:Un fs ex H H h h:=Un.kept λ_ _ q=>q
theorem Un.laid(k:∀b u,h.get? b=some u->h'.get? b=some u)(hp:h.objs.size<=a)(hn:H a=none):Un fs ex H (upd H a o) h h' where
 keep:=λb u q _ _ _=>k b u q
 slot:=λb u q _ _ _=>⟨u.slots,k b u q⟩
 free:=λb u q n _=>by rw[Zv (aI (aF (Hz q) hp))];exact n
 there:=λb u q _=>⟨u,k b u q⟩
 tups:=λb xs q=>by rw[Zv (ZX q hn)];exact q
 frzs:=λb u xs q=>by rw[Zv (ZX q hn)];exact q
 tbls:=λb ps q=>⟨#[],by rw[Zv (ZX q hn),q];simp⟩
theorem Un.write(mu:Mut (H x))(he:e=x\/H e=some (.own x))(k:∀b u,b≠e->h.get? b=some u->h'.get? b=some u)(heo:∃u,h'.get? e=some u):Un fs ex H (upd H x o) h h':=by
 have hx:∀b,H b=none->b≠x:=λb n z=>by subst z;rw[n]at mu;exact mu
 have hb:∀b,H b=none->b≠e:=λb n z=>by
  subst z;rcases he with r|r
  .exact hx b n r
  .rw[n]at r;cases r
 have hm:∀b u,H b=some u->¬Mut (some u)->b≠x:=λb u q nm z=>by subst z;rw[q]at mu;exact nm mu
 refine⟨λb u q n _ _=>k b u (hb b n) q,λb u q n _ _=>⟨u.slots,k b u (hb b n) q⟩,λb u q n _=>by rw[Zv (hx b n)];exact n,λb u q _=>?_,
  λb xs q=>by rw[Zv (hm b _ q λz=>z)];exact q,λb u xs q=>by rw[Zv (hm b _ q λz=>z)];exact q,λb ps q=>⟨#[],by rw[Zv (hm b _ q λz=>z),q];simp⟩⟩
 by_cases hbe:b=e
 .subst hbe;exact heo
 .exact⟨u,k b u hbe q⟩
noncomputable def trk(h:Heap)(H:Hp):List Addr:=(ay h.objs.size).filter λa=>(H a).isSome
def Zjs(h:Heap)(H:Hp):Heap:=PySem.W.hideAll h (trk h H)
theorem Zhd(h:Heap)(H:Hp):(Zjs h H).objs.size=h.objs.size:=PySem.W.hideAll_size _ _
theorem ZfH(e:h.get? b=some o)(n:H b=none):(Zjs h H).get? b=some o:=
 PySem.W.hideAll_get _ e λhm=>by
  have q:(H b).isSome=true:=(fF.mp hm).2;rw[n]at q;simp at q
theorem Zhe(e:(Zjs h H).get? b=some o):h.get? b=some o/\H b=none:=by
 have e':h.get? b=some o:=PySem.W.of_hideAll (trk h H) e;refine⟨e',?_⟩;cases q:H b with
 |none=>rfl
 |some x=>
  have hm:b∈trk h H:=fF.mpr ⟨f7.mpr (Hz e'),by simp[q]⟩
  have z:(Zjs h H).get? b=none:=PySem.W.hideAll_none (trk h H) hm;rw[z]at e;cases e
noncomputable def ZlO(g h:Heap)(L:Addr):Pn:=(ay h.objs.size).filterMap λa=>if a=L\/(g.get? a).isSome=true then none else(h.get? a).map λo=>(a,o)
def Zam(g h:Heap)(L d:Addr):Pn:=(ZlO g h L).filter λp=>decide (p.1≠d)
structure Mod(K:Fg) (mg:Str->Option aa) (base:Heap):Prop where
 kin:K.In base
 glob:base.Ns aG mg
 blt:∃mb,base.Ns kA mb/\∀x:Str,x≠"__name__"->mb x=bg x
 nolimit:base.NoLimit
structure Cx where
 prog:bO
 w:cu
 K:Fg
 mg:Str->Option aa
 base:Heap
 A:cb
 N:List Str
 s₀:az
 H₀:Hp
 env:Env
 outer:List Env
 stack:List Env
 ex:List Addr
 fn:Str->Bool
 calm:Bool
 pn:Pn
 xe:Vp
 fxs:Option (List Bool×List (Option V))
noncomputable def frs(l:List Env):List Addr:=l.filterMap (·.frame)
abbrev Cx.fs(X:Cx):List Addr:=frs X.outer
noncomputable def Vis(sc:kg)(x:Str):Prop:=sc.names.lookup x=some .local\/sc.names.lookup x=some .cell\/sc.names.lookup x=some .free
noncomputable def Loc(sc:kg)(x:Str):Prop:=sc.names.lookup x=some .local\/sc.names.lookup x=some .cell
noncomputable def Zue(env:Env)(h:Heap)(m:Str->Option aa)(x:Str)(u:aa):Prop:=
 (env.kindOf x=some .local/\m x=some u)\/((env.kindOf x=some .cell\/env.kindOf x=some .free)/\∃c,env.cells.lookup x=some c/\h.IsCell c (some u))
noncomputable def TbP(K:Fg)(P:Addr):Prop:=∃(c:Addr) (o:Obj) (vs:Array aa),K.lookup c=some o/\o.cls=.type "code"/\o.data=.fields vs/\vs[11]?=some (.ref P)
def Tbs(K:Fg)(H:Hp):Prop:=∀P,TbP K P->∃ps,H P=some (.tbl ps)
theorem Tbs.un{K:Fg}(t:Tbs K H)(u:Un fs ex H H' h h'):Tbs K H':=λP z=>let ⟨ps,e⟩:=t P z;let ⟨m,e'⟩:=u.tbls P ps e;⟨_,e'⟩
structure Cx.Ok(X:Cx):Prop where
 mod:Mod X.K X.mg X.base
 kind:X.env.scope.kind=.function
 glob:X.env.globals=aG
 blt:X.env.builtins=kA
 above:X.s₀.heap.objs.size<=X.env.locals
 inj:∀x y c,X.env.cells.lookup x=some c->X.env.cells.lookup y=some c->x=y
 has:∀x,(X.env.kindOf x=some .cell\/X.env.kindOf x=some .free)->∃c,X.env.cells.lookup x=some c
 cab:∀x c,X.fn x=true->X.env.cells.lookup x=some c->X.s₀.heap.objs.size<=c
 hd:X.calm=true->X.A.handled=none
 frames:X.A.frames=some X.stack
 stk:X.stack=X.outer\/(X.stack=X.env::X.outer/\X.env.frame=some X.env.locals)
 exf:∀b∈X.ex,b≠X.env.locals/\∀x c,X.env.cells.lookup x=some c->c≠b
 bs:∀b o,X.base.get? b=some o->X.s₀.heap.get? b=some o/\X.H₀ b=none
 bsz:X.base.objs.size<=X.s₀.heap.objs.size
 noex:∀b o,X.base.get? b=some o->b∉X.ex
 exfs:∀b∈X.ex,b∉X.fs
 funs:X.s₀.heap.FunFrames X.base X.outer
 frf:∀b∈X.fs,X.H₀ b=none
 tb:Tbs X.K X.H₀
noncomputable def Qd(A:cb)(H:Hp):Prop:=A.handled=none\/∃ea oe u vs,A.handled=some (.ref ea)/\H ea=some (.frz oe u)/\oe.data=.fields vs/\vs[2]?=some .none
theorem Qd.mono(q:Qd A H)(k:∀b o u,H b=some (.frz o u)->H' b=some (.frz o u)):Qd A H':=by
 rcases q with q|⟨ea,oe,u,vs,e1,e2,e3,e4⟩
 .exact .inl q
 .exact .inr ⟨ea,oe,u,vs,e1,k _ _ _ e2,e3,e4⟩
noncomputable def Cx.may(X:Cx)(i:Nat):Bool:=match X.fxs with|none=>true|some (W,_)=>W[i]? == some true
noncomputable def Cx.Fx(X:Cx)(σ:List (Option V)):Prop:=∀W σ0,X.fxs=some (W,σ0)->∀j:Nat,W[j]?=some false->σ[j]?=σ0[j]?
theorem Cx.Fx.free {X:Cx}(h:X.fxs=none):X.Fx σ:=λW σ0 e=>by rw[h]at e;cases e
theorem Cx.Fx.set {X:Cx}(h:X.Fx σ)(m:X.may i=true):X.Fx (σ.set i v):=λW σ0 e j hj=>by
 have ne:i≠j:=λz=>by
  unfold Cx.may at m;rw[e,z]at m;have m':(W[j]? == some true)=true:=m;rw[hj]at m';cases m'
 rw[aU ne];exact h W σ0 e j hj
structure Inv(X:Cx) (pins:Pn) (σ:List (Option V)) (H:Hp) (s:az):Prop where
 ok:X.Ok
 os:s.os=X.s₀.os
 bare:fG s.gens
 base:Un X.fs X.ex X.H₀ H X.s₀.heap s.heap
 loc:∃m,s.heap.Ns X.env.locals m/\∀(i:Nat)(x:Str)(v:V),X.N[i]?=some x->σ[i]?=some (some v)->Vis X.env.scope x->∃u,Zah v u/\Zue X.env s.heap m x u
 cell:∀x c,X.env.cells.lookup x=some c->∃v,s.heap.IsCell c v
 free:H X.env.locals=none
 freeC:∀x c,X.env.cells.lookup x=some c->H c=none
 pin:∀p∈X.pn++pins,s.heap.get? p.1=some p.2/\H p.1=none/\p.1≠X.env.locals/\p.1∉X.fs/\∀v,p.2.data≠ .cell v
 hok:HOk X.prog X.w H s.heap
 len:σ.length=X.N.length
 qd:Qd X.A H
 fx:X.Fx σ
section
variable {X:Cx}
theorem Cx.Ok.nofr (ok:X.Ok)(e:X.base.get? b=some o):b∉X.fs:=λhb=>by
 have:=(ok.funs.mem hb).1
 rw[e]at this;cases this
theorem Inv.bs(I:Inv X pins σ H s):∀b o,X.base.get? b=some o->s.heap.get? b=some o/\H b=none:=λb o e=>
 ⟨I.base.keep b o (I.ok.bs b o e).1 (I.ok.bs b o e).2 (I.ok.nofr e) (I.ok.noex b o e),I.base.free b o (I.ok.bs b o e).1 (I.ok.bs b o e).2 (I.ok.noex b o e)⟩
theorem Inv.qh(I:Inv X pins σ H s):DQ.ZbX X.A s.heap:=by
 rcases I.qd with q|⟨ea,oe,u,vs,e1,e2,e3,e4⟩
 .exact .inl q
 .exact .inr ⟨ea,oe,vs,e1,(I.hok _ _ e2).1,e3,e4⟩
theorem Inv.bk(I:Inv X pins σ H s):∀b o,X.base.get? b=some o->s.heap.get? b=some o:=λb o e=>(I.bs b o e).1
theorem Inv.mod(I:Inv X pins σ H s):Mod X.K X.mg X.base:=I.ok.mod
theorem Inv.kIn(I:Inv X pins σ H s):X.K.In s.heap:=I.ok.mod.kin.keeps I.bk
theorem Inv.fr(I:Inv X pins σ H s):∃m,Fr X.base X.env.locals s.heap m:=
 let ⟨m,hn,_⟩:=I.loc
 ⟨m,hn,I.bk,aQ I.ok.bsz I.ok.above⟩
theorem Inv.lt(I:Inv X pins σ H s):X.env.locals<s.heap.objs.size:=let ⟨_,hn,_⟩:=I.loc;hn.lt
theorem Inv.sz(I:Inv X pins σ H s):X.s₀.heap.objs.size<=s.heap.objs.size:=aQ I.ok.above (eV I.lt)
theorem Inv.nofs(I:Inv X pins σ H s){a:Addr}(h:s.heap.objs.size<=a):a∉X.fs:=λhb=>by
 obtain⟨_,o,ho,_⟩:=I.ok.funs.mem hb;exact absurd (aF (Hz ho) (aQ I.sz h)) (bU _)
theorem Inv.cne(I:Inv X pins σ H s):∀x c,X.env.cells.lookup x=some c->c≠X.env.locals:=λx c e z=>by
 obtain⟨v,o,ho,hd⟩:=I.cell x c e;obtain⟨m,⟨o',es,ep,ho',hd',_⟩,_⟩:=I.loc;rw[z,ho']at ho;cases ho;rw[hd']at hd;cases hd
theorem Inv.funs(I:Inv X pins σ H s):s.heap.FunFrames X.base X.outer:=by
 have all:∀(l:List Env),(∀b∈frs l,b∈X.fs)->X.s₀.heap.FunFrames X.base l->s.heap.FunFrames X.base l:=by
  intro l
  induction l with
  |nil=>intro _ _;trivial
  |cons env r ih=>
   intro hs hl;obtain⟨hk,⟨L,o,hf,hn,ho,hd⟩,hr⟩:=hl;have hL:L∈X.fs:=hs L (by unfold frs;rw[c6,hf];exact bM)
   obtain⟨sl,e⟩:=I.base.slot L o ho (I.ok.frf L hL) hL λz=>I.ok.exfs L z hL;exact⟨hk,⟨L,_,hf,hn,e,hd⟩,ih (λb hb=>hs b (by unfold frs;rw[c6,hf];exact aL _ hb)) hr⟩
 exact all X.outer (λ_ hb=>hb) I.ok.funs
theorem Inv.stack(I:Inv X pins σ H s):s.heap.FunFrames X.base X.stack:=by
 rcases I.ok.stk with e|⟨e,hf⟩
 .rw[e];exact I.funs
 .rw[e];obtain⟨m,hn,_⟩:=I.loc;refine .cons (by rw[I.ok.kind];decide) hf hn ?_ I.funs
  exact eN (aQ I.ok.bsz I.ok.above)
theorem Inv.stkSub(I:Inv X pins σ H s):∀b∈frs X.stack,b∈X.env.locals::X.fs:=λb hb=>by
 rcases I.ok.stk with e|⟨e,hf⟩
 .rw[e]at hb;exact aL _ hb
 .rw[e]at hb;unfold frs at hb;rw[c6,hf]at hb;exact hb
theorem Inv.stkFree(I:Inv X pins σ H s):∀b∈frs X.stack,H b=none:=λb hb=>by
 rcases aM.mp (I.stkSub b hb)with e|hb
 .rw[e];exact I.free
 .obtain⟨_,o,ho,_⟩:=I.ok.funs.mem hb;exact I.base.free b o ho (I.ok.frf b hb) λz=>I.ok.exfs b z hb
theorem Inv.step{ch:List Addr}(I:Inv X pins σ H s)(hch:∀b∈ch,(b∈X.ex\/X.s₀.heap.objs.size<=b)/\b≠X.env.locals/\(∀x c,X.env.cells.lookup x=some c->c≠b)/\∀p∈X.pn++pins,p.1≠b)(keep:∀b o,b≠X.env.locals->b∉X.fs->b∉ch->s.heap.get? b=some o->H b=none->h'.get? b=some o)(slot:∀b o,b≠X.env.locals->b∈X.fs->b∉ch->s.heap.get? b=some o->H b=none->∃sl,h'.get? b=some {o with slots:=sl})(free:∀b o,b∉ch->s.heap.get? b=some o->H b=none->H' b=none)(there:∀b o,b∉ch->s.heap.get? b=some o->∃o',h'.get? b=some o')(tups:∀b xs,H b=some (.tup xs)->H' b=some (.tup xs))(frzs:∀b o u,H b=some (.frz o u)->H' b=some (.frz o u))(tbls:∀b ps,H b=some (.tbl ps)->∃more,H' b=some (.tbl (ps++more)))(ns:∀m,s.heap.Ns X.env.locals m->h'.Ns X.env.locals m)(hok:HOk X.prog X.w H' h')(hg:fG g'):Inv X pins σ H' {s with heap:=h',gens:=g',drawn:=d',toks:=t'}:=by
 have neL:∀b o,X.s₀.heap.get? b=some o->b≠X.env.locals:=λb o e=>aI (aF (Hz e) I.ok.above);have neC:∀b o,X.s₀.heap.get? b=some o->b∉X.ex->b∉ch:=λb o e hx hb=>by
  rcases(hch b hb).1 with z|z
  .exact hx z
  .exact absurd (aF (Hz e) z) (bU _)
 have cellK:∀x c,X.env.cells.lookup x=some c->∀v,s.heap.IsCell c v->h'.IsCell c v:=λx c e v ⟨o,ho,hd⟩=>by
  have nch:c∉ch:=λz=>(hch c z).2.2.1 x c e rfl;by_cases hc:c∈X.fs
  .obtain⟨sl,q⟩:=slot c o (I.cne x c e) hc nch ho (I.freeC x c e);exact⟨_,q,hd⟩
  .exact⟨o,keep c o (I.cne x c e) hc nch ho (I.freeC x c e),hd⟩
 refine⟨I.ok,I.os,hg,⟨λb o e n hb hx=>?_,λb o e n hb hx=>?_,λb o e n hx=>?_,λb o e hx=>?_,λb xs e=>tups b xs (I.base.tups b xs e),λb o xs e=>frzs b o xs (I.base.frzs b o xs e),λb ps e=>?_⟩,?_,λx c e=>?_,?_,λx c e=>?_,λp hp=>?_,hok,I.len,I.qd.mono frzs,I.fx⟩
 .exact keep b o (neL b o e) hb (neC b o e hx) (I.base.keep b o e n hb hx) (I.base.free b o e n hx)
 .obtain⟨sl,e1⟩:=I.base.slot b o e n hb hx;obtain⟨sl',e2⟩:=slot b _ (neL b o e) hb (neC b o e hx) e1 (I.base.free b o e n hx);exact⟨sl',e2⟩
 .obtain⟨o',e1⟩:=I.base.there b o e hx;exact free b o' (neC b o e hx) e1 (I.base.free b o e n hx)
 .obtain⟨o',e1⟩:=I.base.there b o e hx;exact there b o' (neC b o e hx) e1
 .obtain⟨m1,e1⟩:=I.base.tbls b ps e;obtain⟨m2,e2⟩:=tbls b _ e1;exact⟨m1++m2,by rw[e2,ii]⟩
 .obtain⟨m,hn,hl⟩:=I.loc;refine⟨m,ns m hn,λi x v e1 e2 e3=>?_⟩;obtain⟨u,r,l⟩:=hl i x v e1 e2 e3;refine⟨u,r,?_⟩;rcases l with l|⟨k,c,e,z⟩
  .exact .inl l
  .exact .inr ⟨k,c,e,cellK x c e _ z⟩
 .obtain⟨v,z⟩:=I.cell x c e;exact⟨v,cellK x c e v z⟩
 .obtain⟨m,⟨o,_,_,ho,_⟩,_⟩:=I.loc;exact free _ o (λz=>(hch _ z).2.1 rfl) ho I.free
 .obtain⟨v,o,ho,hd⟩:=I.cell x c e;exact free c o (λz=>(hch c z).2.2.1 x c e rfl) ho (I.freeC x c e)
 .obtain⟨e,n,ne,nf,d⟩:=I.pin p hp;have nch:p.1∉ch:=λz=>(hch p.1 z).2.2.2 p hp rfl;exact⟨keep p.1 p.2 ne nf nch e n,free p.1 p.2 nch e n,ne,nf,d⟩
theorem Inv.un(I:Inv X pins σ H s)(u:Un X.fs [] H H' s.heap h')(hok:HOk X.prog X.w H' h'):Inv X pins σ H' {s with heap:=h',toks:=t'}:=by
 obtain⟨m,⟨o,es,ep,ho,r⟩,_⟩:=id I.loc;obtain⟨sl,hL⟩:=u.any ho I.free (by simp)
 exact I.step (g':=s.gens) (d':=s.drawn) (ch:=[]) (λ_ z=>nomatch z) (λb o _ hb _ e n=>u.keep b o e n hb (by simp)) (λb o _ hb _ e n=>u.slot b o e n hb (by simp)) (λb o _ e n=>u.free b o e n (by simp)) (λb o _ e=>u.there b o e (by simp)) u.tups u.frzs u.tbls (λm' hm=>by
  obtain⟨o',es',ep',ho',r'⟩:=hm;rw[ho]at ho';cases ho';exact⟨_,es',ep',hL,r'⟩) hok I.bare
theorem Inv.call(I:Inv X pins σ H s)(u:Un (frs X.stack) ch H H' s.heap h')(hok:HOk X.prog X.w H' h')(hg:fG g')(hch:∀b∈ch,(b∈X.ex\/X.s₀.heap.objs.size<=b)/\b≠X.env.locals/\(∀x c,X.env.cells.lookup x=some c->c≠b)/\∀p∈X.pn++pins,p.1≠b):Inv X pins σ H' {s with heap:=h',gens:=g',drawn:=d',toks:=t'}:=by
 obtain⟨m,⟨o,es,ep,ho,r⟩,_⟩:=id I.loc;obtain⟨sl,hL⟩:=u.any ho I.free λz=>(hch _ z).2.1 rfl;exact I.step (ch:=ch) hch (λb o hL hb hc e n=>u.keep b o e n (λz=>(aM.mp (I.stkSub b z)).elim hL hb) hc) (λb o _ _ hc e n=>u.any e n hc) (λb o hc e n=>u.free b o e n hc) (λb o hc e=>u.there b o e hc) u.tups u.frzs u.tbls (λm' hm=>by
  obtain⟨o',es',ep',ho',r'⟩:=hm;rw[ho]at ho';cases ho';exact⟨_,es',ep',hL,r'⟩) hok hg
theorem Inv.turned(I:Inv X pins σ H s)(k:∀b o,b≠it->s.heap.get? b=some o->h'.get? b=some o)(hn:H it=none)(hL:it≠X.env.locals)(h1:it∈X.ex\/X.s₀.heap.objs.size<=it)(h2:∀x c,X.env.cells.lookup x=some c->c≠it)(h3:∀p∈X.pn++pins,p.1≠it):Inv X pins σ H {s with heap:=h',toks:=t'}:=by
 have nit:∀b u,H b=some u->b≠it:=λb u e z=>by rw[z,hn]at e;cases e
 refine I.step (g':=s.gens) (d':=s.drawn) (ch:=[it]) (λb hb=>?_) (λb o _ _ hc e _=>k b o (λz=>hc (by simp[z])) e) (λb o _ _ hc e _=>⟨o.slots,k b o (λz=>hc (by simp[z])) e⟩) (λ_ _ _ _ n=>n)
  (λb o hc e=>⟨o,k b o (λz=>hc (by simp[z])) e⟩) (λ_ _ e=>e) (λ_ _ _ e=>e) (λb ps e=>⟨#[],by rw[e];simp⟩) (λm hm=>?_) (λb u e=>?_) I.bare
 .have e:b=it:=by simpa using hb
  subst e;exact⟨h1,hL,h2,h3⟩
 .obtain⟨o,es,ep,ho,r⟩:=hm;exact⟨o,es,ep,k _ o (bD hL) ho,r⟩
 .refine(I.hok b u e).stay (λc v hc q=>k c v ?_ q) (λ_ q=>q) λ_ _ q=>q;rcases hc with z|z
  .rw[z];exact nit b u e
  .exact nit c _ z
theorem Inv.tok(I:Inv X pins σ H s)(t:Nat):Inv X pins σ H {s with toks:=t}:=I.un (h':=s.heap) (t':=t) Un.refl I.hok
theorem Inv.kept(I:Inv X pins σ H s)(k:∀b u,s.heap.get? b=some u->h'.get? b=some u):Inv X pins σ H {s with heap:=h',toks:=t'}:=I.un (Un.kept k) (I.hok.kept k)
theorem Inv.laid(I:Inv X pins σ H s)(k:∀b u,s.heap.get? b=some u->h'.get? b=some u)(hp:s.heap.objs.size<=a)(new:ZaN X.prog X.w (upd H a o) h' a o):Inv X pins σ (upd H a o) {s with heap:=h',toks:=t'}:=I.un (Un.laid k hp (I.hok.fresh hp)) (I.hok.laid k hp new)
theorem Inv.write(I:Inv X pins σ H s)(mu:Mut (H x))(he:e=x\/H e=some (.own x))(k:∀b u,b≠e->s.heap.get? b=some u->h'.get? b=some u)(heo:∃u,h'.get? e=some u)(new:ZaN X.prog X.w (upd H x o) h' x o):Inv X pins σ (upd H x o) {s with heap:=h',toks:=t'}:=I.un (Un.write mu he k heo) (I.hok.write mu he k heo new)
theorem Inv.pins_of(I:Inv X pins σ H s)(h:∀p∈pins',s.heap.get? p.1=some p.2/\H p.1=none/\p.1≠X.env.locals/\p.1∉X.fs/\∀v,p.2.data≠ .cell v):Inv X pins' σ H s:=
 ⟨I.ok,I.os,I.bare,I.base,I.loc,I.cell,I.free,I.freeC,λp hp=>(cV.mp hp).elim (λz=>I.pin p (gI _ z)) (h p),I.hok,I.len,I.qd,I.fx⟩
theorem ZfI{N:List Str}(hN:N.Nodup){i:Nat}(a:N[i]?=some x)(b:N[j]?=some x):i=j:=by
 obtain⟨h1,e1⟩:=au.mp a;obtain⟨h2,e2⟩:=au.mp b;exact(List.getElem_inj hN).mp (e1.trans e2.symm)
theorem Zek(I:Inv X pins σ H s)(hN:X.N.Nodup)(hi:X.N[i]?=some x)(hx:Loc X.env.scope x)(hm:X.may i=true)(r:Zah v u)(h:∀s',Inv X pins (σ.set i (some v)) H s'->(∃a,fZ a s.heap s'.heap/\(a=X.env.locals\/X.env.cells.lookup x=some a))->Q () s')(hf:X.fn x=true\/X.env.scope.names.lookup x=some .local:=by first|exact .inl rfl|exact .inr rfl|assumption):wpAny M A (storeName X.env x u) Q E s:=by
 obtain⟨m,hn,hl⟩:=id I.loc;have hcls:(X.env.scope.kind == .class||(X.env.scope.kind == .module&&X.env.locals != X.env.globals))=false:=by rw[I.ok.kind];rfl
 have hiσ:i<σ.length:=by rw[I.len];exact(au.mp hi).1
 have cne:=I.cne;have tracked:∀{a:Addr}{h':Heap},(∃o,s.heap.get? a=some o/\H a=none)->fZ a s.heap h'->HOk X.prog X.w H h':=λ{a h'} ha hs b ob e=>by
  obtain⟨_,_,hfree⟩:=ha;refine(I.hok b ob e).stay (λc w' hc q=>(hs.2 c ?_).trans q) (λ_ q=>q) λ_ _ q=>q;rintro rfl;rcases hc with rfl|hc
  .rw[hfree]at e;cases e
  .rw[hfree]at hc;cases hc
 rcases hx with hk|hk
 .refine wpAny_storeName_local hk hn (λh' hn' hs=>?_) hcls;obtain⟨oL,_,_,hoL,_⟩:=id hn;refine h _ ⟨I.ok,I.os,I.bare,⟨λb o e n hb hx=>?_,λb o e n hb hx=>?_,I.base.free,λb o e hx=>?_,I.base.tups,I.base.frzs,I.base.tbls⟩,⟨_,hn',λj y v' e1 e2 e3=>?_⟩,λy c e=>?_,I.free,I.freeC,λp hp=>?_,tracked ⟨oL,hoL,I.free⟩ hs,by simpa using I.len,I.qd,I.fx.set hm⟩ ⟨_,hs,.inl rfl⟩
  .exact(hs.2 b (aI (aF (Hz e) I.ok.above))).trans (I.base.keep b o e n hb hx)
  .obtain⟨sl,e1⟩:=I.base.slot b o e n hb hx;exact⟨sl,(hs.2 b (aI (aF (Hz e) I.ok.above))).trans e1⟩
  .obtain⟨o',e1⟩:=I.base.there b o e hx;exact⟨o',(hs.2 b (aI (aF (Hz e) I.ok.above))).trans e1⟩
  .by_cases hj:j=i
   .subst hj;rw[hi]at e1;cases e1;rw[aY hiσ]at e2;cases e2;exact⟨u,r,.inl ⟨hk,by simp⟩⟩
   .rw[aU (bD hj)]at e2;obtain⟨u',r',q⟩:=hl j y v' e1 e2 e3;refine⟨u',r',?_⟩;rcases q with⟨k,e⟩|⟨k,c,e,z⟩
    .refine .inl ⟨k,?_⟩
     have:y≠x:=λe=>hj (ZfI hN e1 (e▸hi))
     simp[this,e]
    .exact .inr ⟨k,c,e,z.sameBut hs (cne y c e)⟩
  .obtain⟨w',z⟩:=I.cell y c e;exact⟨w',z.sameBut hs (cne y c e)⟩
  .obtain⟨e,n,ne,nf,d⟩:=I.pin p hp;exact⟨(hs.2 p.1 ne).trans e,n,ne,nf,d⟩
 .have hfn:X.fn x=true:=by
   rcases hf with z|z
   .exact z
   .rw[z]at hk;cases hk
  obtain⟨c,hc⟩:=I.ok.has x (.inl hk);obtain⟨w',z⟩:=I.cell x c hc;refine wpAny_storeName_cell I.ok.kind hk hc z (λh' hc' hs=>?_);obtain⟨oc,hoc,hocd⟩:=id z;refine h {s with heap:=h'} ⟨I.ok,I.os,I.bare,⟨λb o e n hb hx=>?_,λb o e n hb hx=>?_,I.base.free,λb o e hx=>?_,I.base.tups,I.base.frzs,I.base.tbls⟩,⟨m,hn.sameBut hs (bD (cne x c hc)),λj y v' e1 e2 e3=>?_⟩,λy c' e=>?_,I.free,I.freeC,λp hp=>?_,tracked ⟨oc,hoc,I.freeC x c hc⟩ hs,by simpa using I.len,I.qd,I.fx.set hm⟩ ⟨c,hs,.inr hc⟩
  .exact(hs.2 b (aI (aF (Hz e) (I.ok.cab x c hfn hc)))).trans (I.base.keep b o e n hb hx)
  .obtain⟨sl,e1⟩:=I.base.slot b o e n hb hx;exact⟨sl,(hs.2 b (aI (aF (Hz e) (I.ok.cab x c hfn hc)))).trans e1⟩
  .obtain⟨o',e1⟩:=I.base.there b o e hx;exact⟨o',(hs.2 b (aI (aF (Hz e) (I.ok.cab x c hfn hc)))).trans e1⟩
  .by_cases hj:j=i
   .subst hj;rw[hi]at e1;cases e1;rw[aY hiσ]at e2;cases e2;exact⟨u,r,.inr ⟨.inl hk,c,hc,hc'⟩⟩
   .rw[aU (bD hj)]at e2;obtain⟨u',r',q⟩:=hl j y v' e1 e2 e3;refine⟨u',r',?_⟩;rcases q with q|⟨k,c',e,z'⟩
    .exact .inl q
    .refine .inr ⟨k,c',e,z'.sameBut hs ?_⟩;rintro rfl;exact hj (ZfI hN e1 (I.ok.inj _ _ _ e hc▸hi))
  .by_cases hcc:c'=c
   .subst hcc;exact⟨_,hc'⟩
   .obtain⟨w2,z2⟩:=I.cell y c' e;exact⟨w2,z2.sameBut hs hcc⟩
  .obtain⟨e,n,ne,nf,d⟩:=I.pin p hp;refine⟨(hs.2 p.1 ?_).trans e,n,ne,nf,d⟩;intro q;rw[q,hoc]at e;have q':oc=p.2:=a9 e;exact d w' (by rw[<-q'];exact hocd)
theorem ZcW(I:Inv X pins σ H s)(hN:X.N.Nodup)(hi:X.N[i]?=some x)(hx:Loc X.env.scope x)(hm:X.may i=true)(r:Zah v u)(h:∀s',Inv X pins (σ.set i (some v)) H s'->Q () s')(hf:X.fn x=true\/X.env.scope.names.lookup x=some .local:=by first|exact .inl rfl|exact .inr rfl|assumption):wpAny M A (storeName X.env x u) Q E s:=
 Zek I hN hi hx hm r (λs' I' _=>h s' I') hf
theorem Inv.call'(I:Inv X pins σ H s)(ho:s'.os=s.os)(u:Un (frs X.stack) ch H H' s.heap s'.heap)(hok:HOk X.prog X.w H' s'.heap)(hg:fG s'.gens)(hch:∀b∈ch,(b∈X.ex\/X.s₀.heap.objs.size<=b)/\b≠X.env.locals/\(∀x c,X.env.cells.lookup x=some c->c≠b)/\∀p∈X.pn++pins,p.1≠b):Inv X pins σ H' s':=by
 obtain⟨h',g',d',t',o'⟩:=s';have e:o'=s.os:=ho;subst e;exact I.call (g':=g') (t':=t') (d':=d') u hok hg hch
end
abbrev XK:=aa->Option Addr->Hp->Prop
noncomputable abbrev St:=List (Option V)
abbrev VK:=V->Hp->Prop
abbrev TE:=St->Hp->VK->Prop
abbrev TT:=St->Hp->(Bool->Hp->Prop)->Prop
abbrev TA:=St->Hp->(List V->Hp->Prop)->Prop
structure Ends where
 nx:St->Hp->Prop
 rt:VK
 bk:St->Hp->Prop:=λ_ _=>False
 ct:St->Hp->Prop:=λ_ _=>False
abbrev TS:=Ends->St->Hp->Prop
def EP(X:Cx)(pins:Pn)(σ:St)(Q:VK)(u:aa)(s':az):Prop:=∃v H',Inv X pins σ H' s'/\Zah v u/\Q v H'
noncomputable def TP(X:Cx)(pins:Pn)(σ:St)(Q:Bool->Hp->Prop)(b:Bool)(s':az):Prop:=∃H',Inv X pins σ H' s'/\Q b H'
def AP(X:Cx)(pins:Pn)(σ:St)(Q:List V->Hp->Prop)(us:List aa)(s':az):Prop:=∃vs H',Inv X pins σ H' s'/\Zaj vs us/\Q vs H'
def SP(X:Cx)(pins:Pn)(D:Ends)(f:Flow)(s':az):Prop:=
 match f with
 |.next=>∃σ' H',Inv X pins σ' H' s'/\D.nx σ' H'
 |.brk=>∃σ' H',Inv X pins σ' H' s'/\D.bk σ' H'
 |.cont=>∃σ' H',Inv X pins σ' H' s'/\D.ct σ' H'
 |.ret u=>∃v σ' H',Inv X pins σ' H' s'/\Zah v u/\D.rt v H'
def PE(X:Cx)(e:Expr)(t:TE):Prop:=
 ∀(pins:Pn)(s:az)(σ:St)(H:Hp)(Q:VK),Inv X pins σ H s->t σ H Q->wpAny (ae X.prog X.w) X.A (eval e X.env) (EP X pins σ Q) X.xe s
def PT(X:Cx)(e:Expr)(t:TT):Prop:=
 ∀(pins:Pn)(s:az)(σ:St)(H:Hp)(Q:Bool->Hp->Prop),Inv X pins σ H s->t σ H Q->wpAny (ae X.prog X.w) X.A (isTrue e X.env (eval e X.env)) (TP X pins σ Q) X.xe s
def PW(X:Cx)(e:Expr)(t:TT):Prop:=
 ∀(whole:Sem aa)(pins:Pn)(s:az)(σ:St)(H:Hp)(Q:Bool->Hp->Prop),Inv X pins σ H s->t σ H Q->wpAny (ae X.prog X.w) X.A (isTrue e X.env whole) (TP X pins σ Q) X.xe s
theorem PW.pt(h:PW X e t):PT X e t:=h _
def PA(X:Cx)(es:List Expr)(t:TA):Prop:=
 ∀(pos:Pos)(pins:Pn)(s:az)(σ:St)(H:Hp)(Q:List V->Hp->Prop),Inv X pins σ H s->t σ H Q->wpAny (ae X.prog X.w) X.A (spliced (b8 pos (af es X.env))) (AP X pins σ Q) X.xe s
def PS(X:Cx)(st:Stmt)(t:TS):Prop:=
 ∀(pins:Pn)(s:az)(σ:St)(H:Hp)(D:Ends),Inv X pins σ H s->t D σ H->wpAny (ae X.prog X.w) X.A (exec st X.env) (SP X pins D) X.xe s
def PSs(X:Cx)(st:List Stmt)(t:TS):Prop:=
 ∀(pins:Pn)(s:az)(σ:St)(H:Hp)(D:Ends),Inv X pins σ H s->t D σ H->wpAny (ae X.prog X.w) X.A (execs st X.env) (SP X pins D) X.xe s
theorem thn{t:Sem α}{Q Q':α->az->Prop}(h:wpAny M A t Q E s)(hQ:∀a s,Q a s->Q' a s):wpAny M A t Q' E s:=wpAny_mono h hQ λ_ _ x=>x
section
variable {X:Cx}
noncomputable def ZtA(i:Nat):TE:=λσ H Q=>∃v,σ[i]?=some (some v)/\Q v H
noncomputable def tC(v:V):TE:=λ_ H Q=>Q v H
theorem Zcf(hN:X.N[i]?=some x)(hv:Vis X.env.scope x)(hd:autoParam ((x==("__debug__":Str))=false) Qde._auto_1)(hcd:autoParam ((x==("__classdict__":Str))=false) Qde._auto_1):PE X (.Name x pos) (ZtA i):=by
 intro pins s σ H Q I h;obtain⟨v,e,h⟩:=h;obtain⟨m,hn,hl⟩:=I.loc;obtain⟨u,r,l⟩:=hl i x v hN e hv;have fin:EP X pins σ Q u s:=⟨v,H,I,r,h⟩;rcases l with⟨hk,hm⟩|⟨hk,c,hc,hcell⟩
 .exact wpAny_Name (wpAny_loadName_local I.ok.kind hk hn hm fin) hd
 .rcases hk with hk|hk
  .exact wpAny_Name (wpAny_loadName_cell I.ok.kind hk hc hcell fin) hd
  .exact wpAny_Name (wpAny_loadName_free I.ok.kind hk hc hcell fin hcd) hd
theorem ZnY{i j pos}:PE X (.Constant (.int i) j pos) (tC (.int i)):=λ_ _ _ H _ I h=>wpAny_Constant_int ⟨.int i,H,I.tok _,⟨_,rfl⟩,h⟩
theorem Zrw{b j pos}:PE X (.Constant (.bool b) j pos) (tC (.bl b)):=λ_ _ _ H _ I h=>Constant_bool ⟨.bl b,H,I,rfl,h⟩
theorem ZnZ{j pos}:PE X (.Constant .none j pos) (tC .non):=λ_ _ _ H _ I h=>Constant_none ⟨.non,H,I,rfl,h⟩
theorem ZfJ{x j pos}:PE X (.Constant (.str x) j pos) (tC (.str x)):=λ_ _ _ H _ I h=>Calls.Constant_str ⟨.str x,H,I.tok _,⟨_,rfl⟩,h⟩
noncomputable def Gl(X:Cx)(x:Str):Prop:=X.env.kindOf x=some .globalImplicit
theorem ZdQ(I:Inv X pins σ H s)(hg:Gl X x)(hm:X.mg x=some u)(h:Q u s)(hd:autoParam ((x==("__debug__":Str))=false) Qde._auto_1):wpAny (ae X.prog X.w) X.A (eval (.Name x pos) X.env) Q E s:=
 Calls.Name_function_global I.ok.kind hg (Calls.loadGlobal_global (by rw[I.ok.glob];exact I.mod.glob.keeps I.bk) hm h) hd
theorem Zb0(I:Inv X pins σ H s)(hg:Gl X x)(hm:X.mg x=none)(hv:bg x=some u)(h:Q u s)(hn:autoParam (x≠"__name__") Qde._auto_1)(hd:autoParam ((x==("__debug__":Str))=false) Qde._auto_1):wpAny (ae X.prog X.w) X.A (eval (.Name x pos) X.env) Q E s:=by
 obtain⟨mb,h1,h2⟩:=I.mod.blt;exact Calls.Name_function_global I.ok.kind hg (Calls.loadGlobal_builtin (by rw[I.ok.glob];exact I.mod.glob.keeps I.bk) hm (by rw[I.ok.blt];exact h1.keeps I.bk) ((h2 x hn).trans hv) h) hd
theorem ZlP(hg:Gl X x)(hm:X.mg x=none)(hv:bg x=some u)(r:Zah v u)(hn:autoParam (x≠"__name__") Qde._auto_1)(hd:autoParam ((x==("__debug__":Str))=false) Qde._auto_1):PE X (.Name x pos) (tC v):=
 λ_ _ _ H _ I h=>Zb0 I hg hm hv ⟨v,H,I,r,h⟩ hn hd
variable {tb:TE}
noncomputable def tB(t:TE):TT:=λσ H Q=>t σ H λx H1=>∃c,x=.bl c/\Q c H1
theorem Zn0(h:PE X e t)(he:autoParam (∀whole,isTrue e X.env whole=(do let v <-whole;standAt e.pos;holding [v] (truthy v))) Qin._auto_1):PT X e (tB t):=by
 intro pins s σ H Q I hw;refine isTrue_plain (thn (h pins s σ H _ I hw) λv s1 hz=>?_) (he _);obtain⟨x,H1,I1,r1,q1⟩:=hz;obtain⟨d,rfl,q⟩:=q1;cases r1;exact cx ⟨H1,I1,q⟩
variable {Zam:List Expr}
noncomputable def Zuf(t u:TT):TT:=λσ H Q=>t σ H λc H1=>if c=true then u σ H1 Q else Q false H1
noncomputable def tOr(t u:TT):TT:=λσ H Q=>t σ H λc H1=>if c=true then Q true H1 else u σ H1 Q
noncomputable def Zug(t:TT):TT:=λσ H Q=>t σ H λc H1=>Q (!c) H1
theorem pw_and1(ha:PT X a tA):PW X (.BoolOp .And [a] pos) tA:=by
 intro wh pins s σ H Q I h;refine isTrue_and (thn (ha pins s σ H Q I h) λc s1 e=>?_);cases c with
 |true=>exact isTrue_and_nil e
 |false=>exact e
theorem pw_or1(ha:PT X a tA):PW X (.BoolOp .Or [a] pos) tA:=by
 intro wh pins s σ H Q I h;refine isTrue_or (thn (ha pins s σ H Q I h) λc s1 e=>?_);cases c with
 |false=>exact isTrue_or_nil e
 |true=>exact e
theorem pw_and(ha:PT X a tA)(hb:PW X (.BoolOp .And (b::Zam) pos) tB'):PW X (.BoolOp .And (a::b::Zam) pos) (Zuf tA tB'):=by
 intro wh pins s σ H Q I h;refine isTrue_and (thn (ha pins s σ H _ I h) λc s1 hz=>?_);obtain⟨H1,I1,q1⟩:=hz;cases c with
 |true=>exact hb wh pins s1 σ H1 Q I1 q1
 |false=>exact⟨H1,I1,q1⟩
theorem pw_or(ha:PT X a tA)(hb:PW X (.BoolOp .Or (b::Zam) pos) tB'):PW X (.BoolOp .Or (a::b::Zam) pos) (tOr tA tB'):=by
 intro wh pins s σ H Q I h;refine isTrue_or (thn (ha pins s σ H _ I h) λc s1 hz=>?_);obtain⟨H1,I1,q1⟩:=hz;cases c with
 |true=>exact⟨H1,I1,q1⟩
 |false=>exact hb wh pins s1 σ H1 Q I1 q1
theorem Zn1(ha:PT X a tA):PT X (.UnaryOp .Not a pos) (Zug tA):=by
 intro pins s σ H Q I h;exact isTrue_not (ha pins s σ H (λc H1=>Q (!c) H1) I h)
noncomputable def Zrx(ta tb:TE):TE:=λσ H Q=>ta σ H λx H1=>∃c,x=.bl c/\if c=true then tb σ H1 Q else Q (.bl false) H1
noncomputable def Zuh(ta tb:TE):TE:=λσ H Q=>ta σ H λx H1=>∃c,x=.bl c/\if c=true then Q (.bl true) H1 else tb σ H1 Q
noncomputable def Zry(ta:TE):TE:=λσ H Q=>ta σ H λx H1=>∃c,x=.bl c/\Q (.bl (!c)) H1
theorem Zn2{op}(h:PE X a t):PE X (.BoolOp op [a] pos) t:=λpins s σ H Q I hw=>BoolOp_one (h pins s σ H Q I hw)
theorem Zn3(ha:PE X a ta)(hb:PE X (.BoolOp .And (b::Zam) pos) tb):PE X (.BoolOp .And (a::b::Zam) pos) (Zrx ta tb):=by
 intro pins s σ H Q I h;refine BoolOp_and (thn (ha pins s σ H _ I h) λv s1 hz=>?_);obtain⟨x,H1,I1,r1,q1⟩:=hz;obtain⟨c,rfl,q1⟩:=q1;cases r1;refine cx ?_;cases c with
 |true=>exact hb pins s1 σ H1 Q I1 q1
 |false=>exact⟨.bl false,H1,I1,rfl,q1⟩
theorem Zrz(ha:PE X a ta)(hb:PE X (.BoolOp .Or (b::Zam) pos) tb):PE X (.BoolOp .Or (a::b::Zam) pos) (Zuh ta tb):=by
 intro pins s σ H Q I h;refine BoolOp_or (thn (ha pins s σ H _ I h) λv s1 hz=>?_);obtain⟨x,H1,I1,r1,q1⟩:=hz;obtain⟨c,rfl,q1⟩:=q1;cases r1;refine cx ?_;cases c with
 |false=>exact hb pins s1 σ H1 Q I1 q1
 |true=>exact⟨.bl true,H1,I1,rfl,q1⟩
theorem Zn4(ha:PE X a ta):PE X (.UnaryOp .Not a pos) (Zry ta):=by
 intro pins s σ H Q I h;refine UnaryOp_ (thn (ha pins s σ H _ I h) λv s1 hz=>?_);obtain⟨x,H1,I1,r1,q1⟩:=hz;obtain⟨c,rfl,q1⟩:=q1;cases r1;exact not_of (cx ⟨.bl (!c),H1,I1,rfl,q1⟩)
noncomputable def tIf(t:TT)(ta tb:TE):TE:=λσ H Q=>t σ H λc H1=>if c=true then ta σ H1 Q else tb σ H1 Q
theorem Zjw(hc:PT X c tA)(ha:PE X a ta)(hb:PE X b tb):PE X (.IfExp c a b pos) (tIf tA ta tb):=by
 intro pins s σ H Q I h;refine wpAny_IfExp (thn (hc pins s σ H _ I h) λd s1 hz=>?_);obtain⟨H1,I1,q1⟩:=hz;cases d with
 |true=>exact ha pins s1 σ H1 Q I1 q1
 |false=>exact hb pins s1 σ H1 Q I1 q1
end
def SqL(K:Fg)(H:Hp)(a:Addr)(xs:List V):Prop:=
 Rd H a (.lst xs)\/
  ∃(o:Obj) (its:Array aa) (n:Nat),K.lookup a=some o/\o.cls=.type "list"/\o.dict=none/\o.data=.seq its n/\its.size<=sizeLine/\Zaj xs its.toList
def SqT(K:Fg)(H:Hp)(a:Addr)(xs:List V):Prop:=
 Rd H a (.tup xs)\/
  ∃(o:Obj) (its:Array aa) (n:Nat),K.lookup a=some o/\o.cls=.type "tuple"/\o.data=.seq its n/\its.size<=sizeLine/\Zaj xs its.toList
noncomputable def Zui:aa->Option V
 |.none=>some .non
 |.bool b=>some (.bl b)
 |.int i _=>some (.int i)
 |.str x _=>some (.str x)
 |.bytes b _=>some (.byt b)
 |.float b _=>some (.flt b)
 |.ref a=>some (.ref a)
 |.type n=>some (.ty n)
 |_=>none
theorem Zah.abs(r:Zah x u):Zui u=some x:=by
 cases x with
 |non=>cases r;rfl
 |bl _=>cases r;rfl
 |int _=>obtain⟨t,rfl⟩:=r;rfl
 |str _=>obtain⟨t,rfl⟩:=r;rfl
 |byt _=>obtain⟨t,rfl⟩:=r;rfl
 |flt _=>obtain⟨t,rfl⟩:=r;rfl
 |ref _=>cases r;rfl
 |ty _=>cases r;rfl
theorem Zah.inj(r:Zah x u)(q:Zah y u):x=y:=a9 (r.abs.symm.trans q.abs)
theorem Zaj.inj:∀{xs ys:List V}{us:List aa},Zaj xs us->Zaj ys us->xs=ys:=by
 intro xs ys us h
 induction h generalizing ys with
 |nil=>intro h;cases h;rfl
 |cons r t ih=>intro h;cases h with|cons r2 t2=>rw[r.inj r2,ih t2]
theorem SqL.of{K:Fg}(h:H a=some (.lst xs)):SqL K H a xs:=.inl (.inl h)
theorem SqT.of{K:Fg}(h:H a=some (.tup xs)):SqT K H a xs:=.inl (.inl h)
theorem Inv.list(I:Inv X pins σ H s)(h:SqL X.K H a xs):∃its:List aa,Zaj xs its/\PlainL s.heap a its.toArray/\xs.length<=sizeLine:=by
 rcases h with h|⟨o,its,n,hk,hc,hd,hs,hz,r⟩
 .obtain⟨z,its,n,r,e⟩:=h.ok I.hok;exact⟨its,r,⟨_,n,e,rfl,rfl,rfl⟩,z⟩
 .refine⟨its.toList,r,⟨o,n,I.kIn a o hk,hc,hd,by simpa using hs⟩,?_⟩
  have e:=r.length;simp only[bf]at e;lia
theorem Inv.tuple(I:Inv X pins σ H s)(h:SqT X.K H a xs):∃its:List aa,Zaj xs its/\lJ s.heap a its.toArray/\xs.length<=sizeLine:=by
 rcases h with h|⟨o,its,n,hk,hc,hs,hz,r⟩
 .obtain⟨z,its,r,p⟩:=h.ok I.hok;exact⟨its,r,p,z⟩
 .refine⟨its.toList,r,⟨o,I.kIn a o hk,hc,n,by simpa using hs⟩,?_⟩
  have e:=r.length;simp only[bf]at e;lia
theorem Inv.list_inj(I:Inv X pins σ H s)(h:SqL X.K H a xs)(h':SqL X.K H a ys):xs=ys:=by
 obtain⟨its,r,⟨o,n,e,_,_,d⟩,_⟩:=I.list h;obtain⟨its',r',⟨o',n',e',_,_,d'⟩,_⟩:=I.list h';rw[e]at e';cases e';rw[d]at d';injection d' with d1 _
 have:its=its':=by simpa using congrArg Array.toList d1
 subst this;exact r.inj r'
theorem Inv.tuple_inj(I:Inv X pins σ H s)(h:SqT X.K H a xs)(h':SqT X.K H a ys):xs=ys:=by
 obtain⟨its,r,⟨o,e,_,n,d⟩,_⟩:=I.tuple h;obtain⟨its',r',⟨o',e',_,n',d'⟩,_⟩:=I.tuple h';rw[e]at e';cases e';rw[d]at d';injection d' with d1 _
 have:its=its':=by simpa using congrArg Array.toList d1
 subst this;exact r.inj r'
noncomputable abbrev Cx.wish(X:Cx)(E:Vp):Cx:={X with xe:=E}
abbrev Cx.nox(X:Cx):Cx:=X.wish λ_ _=>False
theorem Cx.Ok.wish {X:Cx}(ok:X.Ok)(E:Vp):(X.wish E).Ok:=
 ⟨ok.mod,ok.kind,ok.glob,ok.blt,ok.above,ok.inj,ok.has,ok.cab,ok.hd,ok.frames,ok.stk,ok.exf,ok.bs,ok.bsz,ok.noex,ok.exfs,ok.funs,ok.frf,ok.tb⟩
theorem Cx.Ok.unwish {X:Cx}(ok:(X.wish E).Ok):X.Ok:=
 ⟨ok.mod,ok.kind,ok.glob,ok.blt,ok.above,ok.inj,ok.has,ok.cab,ok.hd,ok.frames,ok.stk,ok.exf,ok.bs,ok.bsz,ok.noex,ok.exfs,ok.funs,ok.frf,ok.tb⟩
theorem Inv.wish(I:Inv X pins σ H s)(E:Vp):Inv (X.wish E) pins σ H s:=⟨I.ok.wish E,I.os,I.bare,I.base,I.loc,I.cell,I.free,I.freeC,I.pin,I.hok,I.len,I.qd,I.fx⟩
theorem Inv.unwish(I:Inv (X.wish E) pins σ H s):Inv X pins σ H s:=⟨I.ok.unwish,I.os,I.bare,I.base,I.loc,I.cell,I.free,I.freeC,I.pin,I.hok,I.len,I.qd,I.fx⟩
theorem SP.unwish(h:SP (X.wish E) pins D f s'):SP X pins D f s':=by
 cases f with
 |next=>obtain⟨σ',H',I,q⟩:=h;exact⟨σ',H',I.unwish,q⟩
 |brk=>obtain⟨σ',H',I,q⟩:=h;exact⟨σ',H',I.unwish,q⟩
 |cont=>obtain⟨σ',H',I,q⟩:=h;exact⟨σ',H',I.unwish,q⟩
 |ret u=>obtain⟨v,σ',H',I,r,q⟩:=h;exact⟨v,σ',H',I.unwish,r,q⟩
theorem PSs.nox{st:List Stmt}(h:PSs X.nox st t):PSs X st t:=λpins s σ H D I hw=>
 wpAny_mono (h pins s σ H D (I.wish _) hw) (λ_ _ q=>q.unwish) λ_ _ z=>cF z
section
variable {X:Cx}{st:Stmt}{Zam:List Stmt}
noncomputable def tNext:TS:=λD σ H=>D.nx σ H
noncomputable def ZrA(t u:TS):TS:=λD σ H=>t {D with nx:=u D} σ H
theorem ZlQ:PSs X [] tNext:=λ_ _ σ H _ I h=>fH ⟨σ,H,I,h⟩
theorem ZdR(h1:PS X st t)(h2:PSs X Zam u):PSs X (st::Zam) (ZrA t u):=by
 intro pins s σ H D I h;refine wpAny_execs_cons (thn (h1 pins s σ H {D with nx:=u D} I h) λf s1 q=>?_);cases f with
 |next=>
  obtain⟨σ',H',I',q⟩:=q;exact h2 pins s1 σ' H' D I' q
 |ret v=>exact q
 |brk=>exact q
 |cont=>exact q
theorem Zhf(h1:PS X st t):PSs X [st] t:=by
 intro pins s σ H D I h;refine wpAny_execs_cons (thn (h1 pins s σ H D I h) λf s1 q=>?_);cases f with
 |next=>exact fH q
 |ret v=>exact q
 |brk=>exact q
 |cont=>exact q
theorem Inv.quiet(I:Inv X pins σ H s):interactive X.env=false:=by simp[interactive,I.ok.kind]
noncomputable def Zn5(te:TE):TS:=λD σ H=>te σ H λ_ H1=>D.nx σ H1
theorem Zhg(he:PE X e te)(hs:autoParam (hU e none pos.line X.env=pure false) Qrf._auto_1):PS X (.Expr e pos) (Zn5 te):=by
 intro pins s σ H D I h;exact wpAny_Expr_any (thn (he pins s σ H _ I h) λv s1 ⟨x,H1,I1,r1,q1⟩=>⟨σ,H1,I1,q1⟩) I.quiet hs
noncomputable def Zuj(te:TE):TS:=λD σ H=>te σ H D.rt
theorem Zn6(he:PE X e te):PS X (.Return (some e) pos) (Zuj te):=by
 intro pins s σ H D I h;exact wpAny_Return_some (thn (he pins s σ H _ I h) λv s1 ⟨x,H1,I1,r1,q1⟩=>⟨x,σ,H1,I1,r1,q1⟩)
noncomputable def Zuk(c:TT)(t u:TS):TS:=λD σ H=>c σ H λb H1=>if b=true then t D σ H1 else u D σ H1
theorem ZrB(hc:PT X c tc)(ha:PSs X a t)(hb:PSs X b u):PS X (.If c a b pos) (Zuk tc t u):=by
 intro pins s σ H D I h;refine wpAny_If (thn (hc pins s σ H _ I h) λd s1 hz=>?_);obtain⟨H1,I1,q1⟩:=hz;cases d with
 |true=>exact ha pins s1 σ H1 D I1 q1
 |false=>exact hb pins s1 σ H1 D I1 q1
noncomputable def tNever:TS:=λ_ _ _=>False
theorem Zjx:PS X st tNever:=λ_ _ _ _ _ _ h=>h.elim
end
abbrev TG:=V->St->Hp->(St->Hp->Prop)->Prop
abbrev TGs:=List V->St->Hp->(St->Hp->Prop)->Prop
def PG(X:Cx)(target:Expr)(t:TG):Prop:=
 ∀(pins:Pn)(s:az)(σ:St)(H:Hp)(v:V)(u:aa)(Q:St->Hp->Prop),Inv X pins σ H s->Zah v u->t v σ H Q->
  wpAny (ae X.prog X.w) X.A (assign target X.env u) (λ_ s'=>∃σ' H',Inv X pins σ' H' s'/\Q σ' H') X.xe s
def PGs(X:Cx)(ts:List Expr)(t:TGs):Prop:=
 ∀(pins:Pn)(s:az)(σ:St)(H:Hp)(vs:List V)(us:List aa)(Q:St->Hp->Prop),Inv X pins σ H s->Zaj vs us->t vs σ H Q->
  wpAny (ae X.prog X.w) X.A (assignInOrder ((dE ts X.env).map (·.2)) us) (λ_ s'=>∃σ' H',Inv X pins σ' H' s'/\Q σ' H') X.xe s
noncomputable def Zn7(i:Nat):TG:=λv σ H Q=>Q (σ.set i (some v)) H
theorem ZlR(hN:X.N.Nodup)(hi:X.N[i]?=some x)(hx:Loc X.env.scope x)(hm:X.may i=true)(hf:X.fn x=true\/X.env.scope.names.lookup x=some .local:=by first|exact .inl rfl|exact .inr rfl|assumption):PG X (.Name x pos) (Zn7 i):=by
 intro pins s σ H v u Q I r h;exact wpAny_assign_Name (ZcW I hN hi hx hm r (λs' I'=>⟨_,H,I',h⟩) hf)
noncomputable def gNil:TGs:=λvs σ H Q=>vs=[]/\Q σ H
noncomputable def ZrC(t:TG)(u:TGs):TGs:=λvs σ H Q=>∃v r,vs=v::r/\t v σ H λσ' H'=>u r σ' H' Q
theorem ZlS:PGs X [] gNil:=by
 intro pins s σ H vs us Q I r h;obtain⟨e,h⟩:=h;subst e;cases r;exact assignInOrder_nil ⟨σ,H,I,h⟩
theorem Zjy(h1:PG X e t)(h2:PGs X es u)(hs:autoParam ((dE (e::es) X.env).map (·.2)=assign e X.env::(dE es X.env).map (·.2)) Qrf._auto_1):PGs X (e::es) (ZrC t u):=by
 intro pins s σ H vs us Q I r h;obtain⟨v,vr,e1,h⟩:=h;subst e1;cases r with
 |cons r rr=>
  rw[hs];refine ik (thn (h1 pins s σ H _ _ _ I r h) λ_ s1 hz=>?_);obtain⟨σ1,H1,I1,q1⟩:=hz;exact h2 pins s1 σ1 H1 _ _ Q I1 rr q1
def Zul(K:Fg)(n:Nat)(t:TGs):TG:=λv σ H Q=>∃a xs,v=.ref a/\SqT K H a xs/\xs.length=n/\t xs σ H Q
theorem Zn8(hc:X.calm=true)(h:PGs X es t)(hn:autoParam ((dE es X.env).length=n) Qrf._auto_1)(hst:autoParam ((dE es X.env).findIdx? (·.1)=none) Qrf._auto_1):PG X (.Tuple es k pos) (Zul X.K n t):=by
 intro pins s σ H v u Q I r hw;obtain⟨a,xs,e1,hq,hl,hw⟩:=hw;subst e1;cases r;obtain⟨its,rv,ht,hz⟩:=I.tuple hq;refine assign_Tuple_tuple (I.ok.hd hc) ht (by simp[hn,<-hl,rv.length]) hst λh' hx=>?_
 have I1:Inv X pins σ H {s with heap:=h'}:=I.kept (t':=s.toks) λb o e=>hx b o (aI (Hz e)) e;exact h pins _ σ H xs _ Q I1 (by simpa using rv) hw
noncomputable def ZtB(te:TE)(g:TG):TS:=λD σ H=>te σ H λx H1=>g x σ H1 D.nx
theorem Zn9(he:PE X e te)(hg:PG X tg g)(hs:autoParam (iI [tg] e pos.line X.env=pure false) Qrf._auto_1)(hw:autoParam (iJ [tg] e X.env=pure none) Qrf._auto_1)(h1:autoParam ((dE [tg] X.env).map (·.2)=[assign tg X.env]) Qrf._auto_1):PS X (.Assign [tg] e pos) (ZtB te g):=by
 intro pins s σ H D I h;refine wpAny_Assign_stores (thn (he pins s σ H _ I h) λv s1 hz=>?_) hs hw;obtain⟨x,H1,I1,r1,q1⟩:=hz;rw[h1];exact thn (hg pins s1 σ H1 x v _ I1 r1 q1) λ_ s2 q=>q
theorem Zoa(hN:X.N.Nodup)(hi:X.N[i]?=some x)(hx:Loc X.env.scope x)(hm:X.may i=true)(he:PE X e te)(hs:autoParam (hU e (some (.Name x pos')) pos.line X.env=pure false) Qrf._auto_1)(hf:X.fn x=true\/X.env.scope.names.lookup x=some .local:=by first|exact .inl rfl|exact .inr rfl|assumption) :
  PS X (.Assign [.Name x pos'] e pos) (ZtB te (Zn7 i)):=by
 intro pins s σ H D I h;refine wpAny_Assign_Name (thn (he pins s σ H _ I h) λv s1 hz=>?_) hs;obtain⟨y,H1,I1,r1,q1⟩:=hz;exact ZcW I1 hN hi hx hm r1 (λs2 I2=>⟨_,H1,I2,q1⟩) hf
noncomputable def Zum(i j:Nat)(ta:TA):TS:=λD σ H=>ta σ H λvs H1=>∃v w,vs=[v,w]/\D.nx ((σ.set i (some v)).set j (some w)) H1
theorem Zob{kt k2 pt2}(hc:X.calm=true)(mi:X.may i=true)(mj:X.may j=true)(hN:X.N.Nodup)(hi:X.N[i]?=some x)(hj:X.N[j]?=some y)(hij:i≠j)(hx:X.env.scope.names.lookup x=some .local)(hy:X.env.scope.names.lookup y=some .local)(ha:PA X [a,b] ta)(hw:iJ [.Tuple [.Name x px,.Name y py] kt pt] (.Tuple [a,b] k2 pt2) X.env=pure (some [x,y]))(hs:autoParam (iI [.Tuple [.Name x px,.Name y py] kt pt] (.Tuple [a,b] k2 pt2) pos.line X.env=pure false) Qrf._auto_1) :
  PS X (.Assign [.Tuple [.Name x px,.Name y py] kt pt] (.Tuple [a,b] k2 pt2) pos) (Zum i j ta):=by
 intro pins s σ H D I h;rw[exec_Assign_arm];refine Wb (wpAny_standAt ?_);rw[hs];refine Wb (Wp ?_);rw[if_neg (by decide)]
 refine Wb (Tuple_ (thn (ha _ pins s σ H _ I h) λus s1 hz=>?_));obtain⟨vs,H1,I1,r1,q1⟩:=hz;obtain⟨v,w,e1,q1⟩:=q1;subst e1;obtain⟨u1,u2,rfl,rv,rw'⟩:∃u1 u2,us=[u1,u2]/\Zah v u1/\Zah w u2:=by
  cases r1 with
  |cons p q=>
   cases q with
   |cons p' q'=>
    cases q';exact⟨_,_,rfl,p,p'⟩
 refine bX ?_ (by show 2<=sizeLine;decide)
 have I2:Inv X pins σ H1 {s1 with heap:=s1.heap.push {cls:=.type "tuple",data:=.seq [u1,u2].toArray}}:=I1.kept (t':=s1.toks) λb o e=>Hq _ e;rw[hw];refine Wb (Wp ?_);show wpAny (ae X.prog X.w) X.A (do rule "assign.swapped-stores";let items <-unpackItems (.ref s1.heap.objs.size) 2 none;assignInOrder [λv=>bindName X.env y v,λv=>bindName X.env x v] items.reverse;pure Flow.next) _ _ _
 refine Wb (cN (Wb (unpackItems_tuple (items:= #[u1,u2]) (I.ok.hd hc) (lx s1.heap _) λh' hx'=>?_)));have I3:=I2.kept (h':=h') (t':=s1.toks) λb o e=>hx' b o (aI (Hz e)) e;show wpAny _ _ (assignInOrder [λv=>bindName X.env y v,λv=>bindName X.env x v] [u2,u1] >>= λ_=>pure Flow.next) _ _ _
 refine Wb (ik (wpAny_bindName (ZcW I3 hN hj (.inl hy) mj rw' (λs2 I4=>?_) (.inr hy))));refine ik (wpAny_bindName (ZcW I4 hN hi (.inl hx) mi rv (λs3 I5=>assignInOrder_nil (Wp ?_)) (.inr hx)));rw[List.set_comm _ _ (bD hij)]at I5;exact⟨_,H1,I5,q1⟩
def Zoc(c:TT)(tb:TS):TS:=λD σ H=>∃W:Nat->St->Hp->Prop,(∃m,W m σ H)/\∀m σ H,W m σ H->
 c σ H λb H1=>if b=true then ∃N:St->Hp->Prop,(∀σ' H',N σ' H'->∃m',m'<m/\W m' σ' H')/\tb {D with nx:=N,ct:=N,bk:=D.nx} σ H1 else D.nx σ H1
theorem Zjz(hp:eB (ae X.prog X.w) X.A X.env X.xe)(hc:PT X c tc)(hb:PSs X body tb):PS X (.While c body [] pos) (Zoc tc tb):=by
 intro pins s σ H D I h;obtain⟨W,⟨m0,w0⟩,turn⟩:=h;refine wpAny_While (codeAny_whileLoop (λn s'=>∃σ' H',Inv X pins σ' H' s'/\W n σ' H') ?_ m0 ⟨σ,H,I,w0⟩);rintro n s1 ⟨σ1,H1,I1,w1⟩;refine dq hp (thn (hc pins s1 σ1 H1 _ I1 (turn n σ1 H1 w1)) λb s2 hz=>?_);obtain⟨H2,I2,q2⟩:=hz;cases b with
 |true=>
  obtain⟨N,hN,q2⟩:=q2;rw[if_pos rfl];refine dq hp (thn (hb pins s2 σ1 H2 _ I2 q2) λf s3 q3=>?_);cases f with
  |next=>
   obtain⟨σ3,H3,I3,n3⟩:=q3;obtain⟨m',hm,w3⟩:=hN σ3 H3 n3;exact⟨m',hm,σ3,H3,I3,w3⟩
  |cont=>
   obtain⟨σ3,H3,I3,n3⟩:=q3;obtain⟨m',hm,w3⟩:=hN σ3 H3 n3;exact⟨m',hm,σ3,H3,I3,w3⟩
  |brk=>exact q3
  |ret v=>exact q3
 |false=>
  rw[if_neg dg];exact fH ⟨σ1,H2,I2,q2⟩
structure It where
 go:Nat->Hp->Prop
 yld:Nat->Hp->V->Hp->Prop
 stop:Nat->Hp->Prop
def Ze4(X:Cx)(pins:Pn)(H:Hp)(b:Addr):Prop:=
 H b=none/\b≠X.env.locals/\b∉X.fs/\(b∈X.ex\/X.s₀.heap.objs.size<=b)/\(∀x c,X.env.cells.lookup x=some c->c≠b)/\∀p∈X.pn++pins,p.1≠b
theorem Inv.fpOk(I:Inv X pins σ H s)(hb:s.heap.objs.size<=b)(hn:H' b=none):Ze4 X pins H' b:=by
 refine⟨hn,ce (aF I.lt hb),I.nofs hb,.inr (aQ I.sz hb),λx c e z=>?_,λp hp z=>?_⟩
 .obtain⟨v,q⟩:=I.cell x c e;exact absurd (aF q.lt (by rw[z];exact hb)) (bU _)
 .exact absurd (aF (Hz (I.pin p hp).1) (by rw[z];exact hb)) (bU _)
structure Turn(P:bO) (w:cu) (K:Fg) (B:cb) (tg:Expr) (J:It) (fp:List Addr) (it:Addr) (tn:Nat->Heap->Prop):Prop where
 mem:it∈fp
 obj:∀i h,tn i h->∀b∈fp,∃o,h.get? b=some o/\∀v,o.data≠ .cell v
 keep:∀i h h',tn i h->(∀b∈fp,∀o,h.get? b=some o->h'.get? b=some o)->tn i h'
 item:∀(X:Cx),X.prog=P->X.w=w->X.K=K->X.A=B->∀(i:Nat)(pins:Pn)(s:az)(σ:St)(H:Hp)(E:Vp),Inv X pins σ H s->(∀b∈fp,Ze4 X pins H b)->tn i s.heap->J.go i H->
  wpAny (ae P w) X.A (iG (.ref it)) (λr s1=>∃u,r=some u/\ wpAny (ae P w) X.A (fJ tg (.ref it) u) (λ_ s2=>∃x H',Inv X pins σ H' s2/\Zah x u/\J.yld i H x H'/\tn (i+1) s2.heap/\∀b∈fp,H' b=none) E s1) E s
 done:∀(X:Cx),X.prog=P->X.w=w->X.K=K->X.A=B->∀(i:Nat)(pins:Pn)(s:az)(σ:St)(H:Hp)(E:Vp),Inv X pins σ H s->(∀b∈fp,Ze4 X pins H b)->tn i s.heap->J.stop i H->
  wpAny (ae P w) X.A (iG (.ref it)) (λr s1=>r=none/\Inv X pins σ H s1) E s
 self:∀(A:cb)(i:Nat)(s:az)(Q:Vp)(E:Vp),tn i s.heap->Q (.ref it) s->wpAny (ae P w) A (pyIter (.ref it)) Q E s
abbrev TI:=St->Hp->(It->Hp->Prop)->Prop
def PIE(X:Cx)(pins:Pn)(σ:St)(tg:Expr)(R:It->Hp->Prop)(itv:aa)(s2:az):Prop:=
 ∃(it:Addr) (fp:List Addr) (tn:Nat->Heap->Prop) (J:It) (H':Hp),itv=.ref it/\Inv X pins σ H' s2/\Turn X.prog X.w X.K X.A tg J fp it tn/\tn 0 s2.heap/\(∀b∈fp,Ze4 X pins H' b)/\R J H'
def PI(X:Cx)(tg iter:Expr)(wi:TI):Prop:=
 ∀(pins:Pn)(s:az)(σ:St)(H:Hp)(R:It->Hp->Prop),Inv X pins σ H s->wi σ H R->
  wpAny (ae X.prog X.w) X.A (eval iter X.env) (λv s1=>wpAny (ae X.prog X.w) X.A (pyIter v) (PIE X pins σ tg R) X.xe s1) X.xe s
theorem ZlT(ho:s.heap.get? it=some o)(hc:o.cls=.type n)(hd:o.data=.fields vs)(hn:["enumerate","zip","dict_itemiterator","dict_reverseitemiterator","odict_iterator","itertools.zip_longest","itertools.pairwise"].contains n=false)(hQ:Q () s):wpAny M A (fJ tg (.ref it) u) Q E s:=by
 unfold fJ;cases tg<;>first
  |exact Wp hQ
  | (cases u<;>first
    |exact Wp hQ
    | (refine Wb (wpAny_load ho ?_)
       rw[hc,hd];show wpAny M A (if(["enumerate","zip","dict_itemiterator","dict_reverseitemiterator","odict_iterator","itertools.zip_longest","itertools.pairwise"].contains n&&vs[0]? == some (fX _))=true then _ else _) Q E s
       rw[if_neg (by intro h;rw[hn,Bool.false_and]at h;cases h)]
       exact Wp hQ))
def Itl(K:Fg)(a:Addr):It:=
 ⟨λi H=>∃xs x,SqL K H a xs/\xs[i]?=some x,λi H x H'=>H'=H/\∀xs,SqL K H a xs->xs[i]?=some x,λi H=>∃xs,SqL K H a xs/\xs.length<=i⟩
def Itt(K:Fg)(a:Addr):It:=
 ⟨λi H=>∃xs x,SqT K H a xs/\xs[i]?=some x,λi H x H'=>H'=H/\∀xs,SqT K H a xs->xs[i]?=some x,λi H=>∃xs,SqT K H a xs/\xs.length<=i⟩
noncomputable def Itr(lo:Int)(n:Nat):It:=⟨λi _=>i<n,λi H x H'=>H'=H/\x=.int (lo+i),λi _=>n<=i⟩
theorem Zhh{K:Fg}(a it:Addr):Turn P w K B tg (Itl K a) [it] it (λi h=>h.IsListIter it a i) where
 mem:=by simp
 obj:=λi h st b hb=>by
  have e:b=it:=by simpa using hb
  subst e;obtain⟨o,e,c,d⟩:=st;exact⟨o,e,λv z=>by rw[d]at z;cases z⟩
 keep:=λi h h' st k=>st.at λo e=>k it (by simp) o e
 item:=by
  intro X hP hw hK hB i pins s σ H E I hf st hg;subst hP hw hK;obtain⟨xs,x,hq,hx⟩:=hg;obtain⟨its,rv,p,hz⟩:=I.list hq;obtain⟨u,hu,ru⟩:=rv.get hx;obtain⟨f0,f1,f2,f3,f4,f5⟩:=hf it (by simp)
  refine wpAny_pyNext_list_item st p.isList (x:=u) (by simpa using hu) λh' st' sb=>?_
  have I1:Inv X pins σ H {s with heap:=h'}:=I.turned (t':=s.toks) (λb o hb e=>(sb.2 b hb).trans e) f0 f1 f3 f4 f5;obtain⟨o,e,c,d⟩:=id st';exact⟨u,rfl,ZlT (s:={s with heap:=h'}) e c d (by decide) ⟨x,H,I1,ru,⟨rfl,λys hy=>by rw[I.list_inj hy hq];exact hx⟩,st',λb hb=>(hf b hb).1⟩⟩
 done:=by
  intro X hP hw hK hB i pins s σ H E I hf st hg;subst hP hw hK;obtain⟨xs,hq,hx⟩:=hg;obtain⟨its,rv,p,hz⟩:=I.list hq;obtain⟨f0,f1,f2,f3,f4,f5⟩:=hf it (by simp)
  have hl:=rv.length;exact DQ.Zju I.qh st p.isList (by simp;lia) λh' eb=>⟨rfl,I.turned (t':=s.toks) (λb o hb e=>eb b o hb e) f0 f1 f3 f4 f5⟩
 self:=λ_ _ _ _ _ st h=>wpAny_pyIter_listiter st h
theorem Zgz{K:Fg}(a it:Addr):Turn P w K B tg (Itt K a) [it] it (λi h=>h.IsTupleIter it a i) where
 mem:=by simp
 obj:=λi h st b hb=>by
  have e:b=it:=by simpa using hb
  subst e;obtain⟨o,e,c,d⟩:=st;exact⟨o,e,λv z=>by rw[d]at z;cases z⟩
 keep:=λi h h' st k=>st.at λo e=>k it (by simp) o e
 item:=by
  intro X hP hw hK hB i pins s σ H E I hf st hg;subst hP hw hK;obtain⟨xs,x,hq,hx⟩:=hg;obtain⟨its,rv,p,hz⟩:=I.tuple hq;obtain⟨u,hu,ru⟩:=rv.get hx;obtain⟨f0,f1,f2,f3,f4,f5⟩:=hf it (by simp)
  refine wpAny_pyNext_tuple_item st (show s.heap.IsTuple a its.toArray from p) (x:=u) (by simpa using hu) λh' st' sb=>?_
  have I1:Inv X pins σ H {s with heap:=h'}:=I.turned (t':=s.toks) (λb o hb e=>(sb.2 b hb).trans e) f0 f1 f3 f4 f5;obtain⟨o,e,c,d⟩:=id st';exact⟨u,rfl,ZlT (s:={s with heap:=h'}) e c d (by decide) ⟨x,H,I1,ru,⟨rfl,λys hy=>by rw[I.tuple_inj hy hq];exact hx⟩,st',λb hb=>(hf b hb).1⟩⟩
 done:=by
  intro X hP hw hK hB i pins s σ H E I hf st hg;subst hP hw hK;obtain⟨xs,hq,hx⟩:=hg;obtain⟨its,rv,p,hz⟩:=I.tuple hq;obtain⟨f0,f1,f2,f3,f4,f5⟩:=hf it (by simp)
  have hl:=rv.length;exact DQ.Zg8 I.qh st (show s.heap.IsTuple a its.toArray from p) (by simp;lia) λh' eb=>⟨rfl,I.turned (t':=s.toks) (λb o hb e=>eb b o hb e) f0 f1 f3 f4 f5⟩
 self:=λ_ _ _ _ _ st h=>wpAny_pyIter_tupleiter st h
theorem ZgA{K:Fg}(it:Addr)(lo:Int)(n:Nat):Turn P w K B tg (Itr lo n) [it] it (λi h=>jr h it (lo+(i:Nat)*1) ((n:Int)-(i:Nat)) 1) where
 mem:=by simp
 obj:=λi h st b hb=>by
  have e:b=it:=by simpa using hb
  subst e;exact⟨_,st,λv z=>by
   have z':js _=Data.cell v:=z;cases z'⟩
 keep:=λi h h' st k=>k it (by simp) _ st
 item:=by
  intro X hP hw hK hB i pins s σ H E I hf st hg;subst hP hw hK;obtain⟨f0,f1,f2,f3,f4,f5⟩:=hf it (by simp)
  have hlt:i<n:=hg;refine wpAny_pyNext_range_item st ⋯ λh' st' sb=>?_
  have I1:Inv X pins σ H {s with heap:=h',toks:=s.toks+1}:=I.turned (λb o hb e=>(sb.2 b hb).trans e) f0 f1 f3 f4 f5;have st2:jr h' it (lo+((i+1:Nat):Int)*1) ((n:Int)-((i+1:Nat):Int)) 1:=by
   have e1:lo+((i+1:Nat):Int)*1=lo+(i:Nat)*1+1:=⋯
   have e2:(n:Int)-((i+1:Nat):Int)=(n:Int)-(i:Nat)-1:=⋯
   rw[e1,e2];exact st'
  refine⟨_,rfl,ZlT (s:={s with heap:=h',toks:=s.toks+1}) (n:="range_iterator") st2 rfl rfl (by decide) ⟨.int (lo+i),H,I1,⟨s.toks,?_⟩,⟨rfl,rfl⟩,st2,λb hb=>(hf b hb).1⟩⟩
  rw[Int.mul_one]
 done:=by
  intro X hP hw hK hB i pins s σ H E I hf st hg;subst hP hw hK;obtain⟨f0,f1,f2,f3,f4,f5⟩:=hf it (by simp)
  exact DQ.Zg7 I.qh st (by have:n<=i:=hg;lia) λh' eb=>⟨rfl,I.turned (t':=s.toks) (λb o hb e=>eb b o hb e) f0 f1 f3 f4 f5⟩
 self:=λ_ _ _ _ _ st h=>wpAny_pyIter_rangeiter st h
theorem ZjA{lo:Int}(I:Inv X pins σ H s)(h1: -(2^62)<=lo)(h2:lo<2^62)(h3: -(2^62)<=hi)(h4:hi<2^62)(q:R (Itr lo (hi-lo).toNat) H):wpAny (ae X.prog X.w) X.A (pyIter (.ref s.heap.objs.size)) (PIE X pins σ tg R) E {s with heap:=s.heap.push {cls:=.type "range",data:=.fields #[.int lo t,.int hi u,.int 1 v]},toks:=tk}:=by
 refine wpAny_pyIter_range (IsRange.new ..) (small_one h1 h2 h3 h4) ?_;have I1:Inv X pins σ H {s with heap:=s.heap.push {cls:=.type "range",data:=.fields #[.int lo t,.int hi u,.int 1 v]},toks:=tk}:=I.kept λb o e=>Hq _ e;refine⟨(s.heap.push {cls:=.type "range",data:=.fields #[.int lo t,.int hi u,.int 1 v]}).objs.size,[(s.heap.push {cls:=.type "range",data:=.fields #[.int lo t,.int hi u,.int 1 v]}).objs.size],_,_,H,rfl,I1.kept (t':=tk) λb o e=>Hq _ e,ZgA _ lo (hi-lo).toNat,?_,λb hb=>?_,q⟩
 .have e1:lo+((0:Nat):Int)*1=lo:=by simp
  have e2:(((hi-lo).toNat:Nat):Int)-((0:Nat):Int)=iS lo hi 1:=by rw[rangeSize_one];split<;>lia
  show jr _ _ (lo+((0:Nat):Int)*1) ((((hi-lo).toNat:Nat):Int)-((0:Nat):Int)) 1;rw[e1,e2];exact aS _ rfl
 .have e:b=(s.heap.push {cls:=.type "range",data:=.fields #[.int lo t,.int hi u,.int 1 v]}).objs.size:=by simpa using hb
  subst e;exact I1.fpOk (ac _) (I1.hok.fresh (ac _))
def ZrD(ta:TA):TI:=λσ H R=>ta σ H λvs H1=>∃j:Int,vs=[.int j]/\ -(2^62)<=j/\j<2^62/\R (Itr 0 j.toNat) H1
theorem Zel(hg:Gl X "range")(hm:X.mg "range"=none)(ha:PA X [a] ta)(hs:autoParam (af [a] X.env=[(false,eval a X.env)]) Qrf._auto_1):PI X tg (.Call (.Name "range" p) [a] [] pos) (ZrD ta):=by
 intro pins s σ H R I h;refine Call_ (Zb0 I hg hm boot_range (bA (thn (ha pos pins s σ H _ I h) λus s1 hz=>?_) hs rfl));obtain⟨vs,H1,I1,r1,q1⟩:=hz;obtain⟨j,e,q1,q2,q⟩:=q1;subst e;cases r1 with
 |cons r rr=>
  cases rr;obtain⟨t,rfl⟩:=r;exact call_range_1 (ZjA I1 ⋯ ⋯ q1 q2 (by simpa using q))
def Zun(wi:TI)(g:TG)(tb:TS):TS:=λD σ H=>wi σ H λJ H1=>∃W:Nat->Nat->St->Hp->Prop,(∃m,W 0 m σ H1)/\∀i m σ H,W i m σ H->
 (J.stop i H/\D.nx σ H)\/(J.go i H/\∃N:St->Hp->Prop,(∀σ' H',N σ' H'->∃m',m'<m/\W (i+1) m' σ' H')/\∀x H',J.yld i H x H'->g x σ H' λσ2 H2=>tb {D with nx:=N,ct:=N,bk:=D.nx} σ2 H2)
noncomputable def ZdC(fp:List Addr)(h:Heap):Pn:=fp.filterMap λb=>(h.get? b).map λo=>(b,o)
theorem ZbQ(hb:b∈fp)(e:h.get? b=some o):(b,o)∈ZdC fp h:=List.mem_filterMap.mpr ⟨b,hb,by rw[e];rfl⟩
theorem Zhi(hp:p∈ZdC fp h):p.1∈fp/\h.get? p.1=some p.2:=by
 obtain⟨b,hb,e⟩:=List.mem_filterMap.mp hp;cases q:h.get? b with
 |none=>rw[q]at e;cases e
 |some o=>
  rw[q]at e;have e':(b,o)=p:=a9 e;subst e';exact⟨hb,q⟩
theorem Inv.pinned(I:Inv X pins σ H s)(hf:∀b∈fp,Ze4 X pins H b)(ho:∀b∈fp,∃o,s.heap.get? b=some o/\∀v,o.data≠ .cell v):Inv X (pins++ZdC fp s.heap) σ H s:=
 I.pins_of λp hp=>(cV.mp hp).elim (λz=>I.pin p (bE _ z)) λz=>by
  obtain⟨hb,e⟩:=Zhi z;obtain⟨f0,f1,f2,_⟩:=hf p.1 hb;obtain⟨o,e',d⟩:=ho p.1 hb;rw[e]at e';cases e';exact⟨e,f0,f1,f2,d⟩
theorem Inv.unpinned(I:Inv X (pins++pl) σ H s):Inv X pins σ H s:=I.pins_of λp hp=>I.pin p (bE _ (gI _ hp))
theorem Zhj(hp:eB (ae X.prog X.w) X.A X.env X.xe)(hi:PI X tg iter wi)(hg:PG X tg g)(hb:PSs X body tb)(hs:autoParam (∀x,cG iter X.env x=pure x) Qin._auto_1):PS X (.For tg iter body [] pos) (Zun wi g tb):=by
 intro pins s σ H D I h;refine wpAny_For (thn (hi pins s σ H _ I h) λv s1 h1=>thn h1 λitv s2 h2=>?_) hs;obtain⟨it,fp,tn,J,H2,e,I2,T,st2,f2,W,⟨m0,w0⟩,turn⟩:=h2;subst e;have stat:∀{H':Hp},(∀b∈fp,H' b=none)->∀b∈fp,Ze4 X pins H' b:=λhn b hb=>⟨hn b hb,(f2 b hb).2⟩;refine codeAny_forLoop_any (λn s'=>∃i σ' H',Inv X pins σ' H' s'/\tn i s'.heap/\(∀b∈fp,H' b=none)/\W i n σ' H') ?_ m0 ⟨0,σ,H2,I2,st2,λb hb=>(f2 b hb).1,w0⟩;rintro n s3 ⟨i,σ3,H3,I3,st3,fr3,w3⟩;rcases turn i n σ3 H3 w3 with⟨stop,qn⟩|⟨go,N,hN,step⟩
 .refine dq hp (thn (T.done X rfl rfl rfl rfl i pins s3 σ3 H3 X.xe I3 (stat fr3) st3 stop) λr s4 hz=>?_);obtain⟨hr,I4⟩:=hz;subst hr;exact fH ⟨σ3,H3,I4,qn⟩
 .refine dq hp (thn (T.item X rfl rfl rfl rfl i pins s3 σ3 H3 X.xe I3 (stat fr3) st3 go) λr s4 hz=>?_);obtain⟨u,hr,h4⟩:=hz;subst hr;refine dq hp (thn h4 λ_ s5 hz=>?_);obtain⟨x,H5,I5,r5,y5,st5,fr5⟩:=hz;have I5':=I5.pinned (stat fr5) (T.obj _ _ st5);refine dq hp (thn (hg _ s5 σ3 H5 x u _ I5' r5 (step x H5 y5)) λ_ s6 hz=>?_);obtain⟨σ6,H6,I6,q6⟩:=hz;refine dq hp (thn (hb _ s6 σ6 H6 _ I6 q6) λf s7 q7=>?_);have again:∀{σ7:St}{H7:Hp},Inv X (pins++ZdC fp s5.heap) σ7 H7 s7->N σ7 H7->∃m,m<n/\∃i σ' H',Inv X pins σ' H' s7/\tn i s7.heap/\(∀b∈fp,H' b=none)/\W i m σ' H':=λ{σ7 H7} I7 n7=>by
   obtain⟨m',hm,w7⟩:=hN σ7 H7 n7;refine⟨m',hm,i+1,σ7,H7,I7.unpinned,T.keep _ _ _ st5 λb hb o e=>(I7.pin (b,o) (bE _ (bE _ (ZbQ hb e)))).1,λb hb=>?_,w7⟩;obtain⟨o,e,d⟩:=T.obj _ _ st5 b hb;exact(I7.pin (b,o) (bE _ (bE _ (ZbQ hb e)))).2.1
  cases f with
  |next=>obtain⟨σ7,H7,I7,n7⟩:=q7;exact again I7 n7
  |cont=>obtain⟨σ7,H7,I7,n7⟩:=q7;exact again I7 n7
  |brk=>obtain⟨σ7,H7,I7,q7⟩:=q7;exact⟨σ7,H7,I7.unpinned,q7⟩
  |ret v=>obtain⟨x7,σ7,H7,I7,r7,q7⟩:=q7;exact⟨x7,σ7,H7,I7.unpinned,r7,q7⟩
theorem ZjB{K:Fg}{g:TG}{tb:TS}{D:Ends}(Pv:Nat->St->Hp->Prop)(h0:Pv 0 σ H)(hl:∀i σ H,i<=xs.length->Pv i σ H->SqL K H a xs)(hs:∀i x σ H,xs[i]?=some x->Pv i σ H->g x σ H λσ2 H2=>tb {D with nx:=Pv (i+1),ct:=Pv (i+1),bk:=D.nx} σ2 H2)(hd:∀σ H,Pv xs.length σ H->D.nx σ H):∃W:Nat->Nat->St->Hp->Prop,(∃m,W 0 m σ H)/\∀i m σ H,W i m σ H->((Itl K a).stop i H/\D.nx σ H)\/((Itl K a).go i H/\∃N:St->Hp->Prop,(∀σ' H',N σ' H'->∃m',m'<m/\W (i+1) m' σ' H')/\∀x H',(Itl K a).yld i H x H'->g x σ H' λσ2 H2=>tb {D with nx:=N,ct:=N,bk:=D.nx} σ2 H2):=by
 refine⟨λi m σ H=>m=xs.length-i/\i<=xs.length/\Pv i σ H,⟨xs.length,by simp,c8 _,h0⟩,?_⟩
 rintro i m σ H ⟨rfl,hi,p⟩;have q:=hl i σ H hi p;by_cases hlt:i<xs.length
 .refine .inr ⟨⟨xs,xs[i],q,by simp[hlt]⟩,Pv (i+1),λσ' H' p'=>⟨xs.length-(i+1),⋯,rfl,hlt,p'⟩,λx H' y=>?_⟩
  obtain⟨e,y⟩:=y;subst e;exact hs i x σ _ (y xs q) p
 .have e:i=xs.length:=⋯
  subst e;exact .inl ⟨⟨xs,q,ac _⟩,hd σ H p⟩
theorem ZlU{K:Fg}{g:TG}{tb:TS}{D:Ends}(Pv:Nat->St->Hp->Prop)(h0:Pv 0 σ H)(hl:∀i σ H,i<=xs.length->Pv i σ H->SqT K H a xs)(hs:∀i x σ H,xs[i]?=some x->Pv i σ H->g x σ H λσ2 H2=>tb {D with nx:=Pv (i+1),ct:=Pv (i+1),bk:=D.nx} σ2 H2)(hd:∀σ H,Pv xs.length σ H->D.nx σ H):∃W:Nat->Nat->St->Hp->Prop,(∃m,W 0 m σ H)/\∀i m σ H,W i m σ H->((Itt K a).stop i H/\D.nx σ H)\/((Itt K a).go i H/\∃N:St->Hp->Prop,(∀σ' H',N σ' H'->∃m',m'<m/\W (i+1) m' σ' H')/\∀x H',(Itt K a).yld i H x H'->g x σ H' λσ2 H2=>tb {D with nx:=N,ct:=N,bk:=D.nx} σ2 H2):=by
 refine⟨λi m σ H=>m=xs.length-i/\i<=xs.length/\Pv i σ H,⟨xs.length,by simp,c8 _,h0⟩,?_⟩
 rintro i m σ H ⟨rfl,hi,p⟩;have q:=hl i σ H hi p;by_cases hlt:i<xs.length
 .refine .inr ⟨⟨xs,xs[i],q,by simp[hlt]⟩,Pv (i+1),λσ' H' p'=>⟨xs.length-(i+1),⋯,rfl,hlt,p'⟩,λx H' y=>?_⟩
  obtain⟨e,y⟩:=y;subst e;exact hs i x σ _ (y xs q) p
 .have e:i=xs.length:=⋯
  subst e;exact .inl ⟨⟨xs,q,ac _⟩,hd σ H p⟩
theorem Zhk{lo:Int}{g:TG}{tb:TS}{D:Ends}(Pv:Nat->St->Hp->Prop)(h0:Pv 0 σ H)(hs:∀i σ H,i<n->Pv i σ H->g (.int (lo+i)) σ H λσ2 H2=>tb {D with nx:=Pv (i+1),ct:=Pv (i+1),bk:=D.nx} σ2 H2)(hd:∀σ H,Pv n σ H->D.nx σ H):∃W:Nat->Nat->St->Hp->Prop,(∃m,W 0 m σ H)/\∀i m σ H,W i m σ H->((Itr lo n).stop i H/\D.nx σ H)\/((Itr lo n).go i H/\∃N:St->Hp->Prop,(∀σ' H',N σ' H'->∃m',m'<m/\W (i+1) m' σ' H')/\∀x H',(Itr lo n).yld i H x H'->g x σ H' λσ2 H2=>tb {D with nx:=N,ct:=N,bk:=D.nx} σ2 H2):=by
 refine⟨λi m σ H=>m=n-i/\i<=n/\Pv i σ H,⟨n,by simp,c8 _,h0⟩,?_⟩
 rintro i m σ H ⟨rfl,hi,p⟩;by_cases hlt:i<n
 .refine .inr ⟨hlt,Pv (i+1),λσ' H' p'=>⟨n-(i+1),⋯,rfl,hlt,p'⟩,λx H' y=>?_⟩
  obtain⟨e,y⟩:=y;subst e y;exact hs i σ _ hlt p
 .have e:i=n:=⋯
  subst e;exact .inl ⟨ac _,hd σ H p⟩
abbrev R2:=V->V->Hp->VK->Prop
def OpR(X:Cx)(f:aa->aa->Sem aa)(r:R2):Prop:=
 ∀(pins:Pn)(s:az)(σ:St)(H:Hp)(x y:V)(v u:aa)(Q:VK),Inv X pins σ H s->Zah x v->Zah y u->r x y H Q->
  wpAny (ae X.prog X.w) X.A (f v u) (EP X pins σ Q) X.xe s
def UnR(X:Cx)(f:aa->Sem aa)(r:V->Hp->VK->Prop):Prop:=
 ∀(pins:Pn)(s:az)(σ:St)(H:Hp)(x:V)(v:aa)(Q:VK),Inv X pins σ H s->Zah x v->r x H Q->
  wpAny (ae X.prog X.w) X.A (f v) (EP X pins σ Q) X.xe s
def Zcg(X:Cx)(f:aa)(r:List V->Hp->VK->Prop):Prop:=
 ∀(pins:Pn)(s:az)(σ:St)(H:Hp)(xs:List V)(us:List aa)(Q:VK),Inv X pins σ H s->Zaj xs us->r xs H Q->
  wpAny (ae X.prog X.w) X.A (call f us) (EP X pins σ Q) X.xe s
noncomputable def tOp(r:R2)(ta tb:TE):TE:=λσ H Q=>ta σ H λx H1=>tb σ H1 λy H2=>r x y H2 Q
noncomputable def tUn(r:V->Hp->VK->Prop)(ta:TE):TE:=λσ H Q=>ta σ H λx H1=>r x H1 Q
noncomputable def rI(C:Int->Int->Prop)(g:Int->Int->V):R2:=λx y H Q=>∃i j,x=.int i/\y=.int j/\C i j/\Q (g i j) H
noncomputable def rI0(g:Int->Int->V):R2:=λx y H Q=>∃i j,x=.int i/\y=.int j/\Q (g i j) H
noncomputable def rU(g:Int->V):V->Hp->VK->Prop:=λx H Q=>∃i,x=.int i/\Q (g i) H
theorem ZrE(ha:PE X a ta)(hb:PE X b tb){R:V->V->Hp->Prop}(I:Inv X pins σ H s)(h:ta σ H λx H1=>tb σ H1 λy H2=>R x y H2){f:aa->aa->Sem aa}(hf:∀v u s2 x y H2,Inv X pins σ H2 s2->Zah x v->Zah y u->R x y H2->wpAny (ae X.prog X.w) X.A (f v u) Q X.xe s2):wpAny (ae X.prog X.w) X.A (eval a X.env) (λv s₁=>wpAny (ae X.prog X.w) X.A (eval b X.env) (λu s₂=>wpAny (ae X.prog X.w) X.A (f v u) Q X.xe s₂) X.xe s₁) X.xe s:=by
 refine thn (ha pins s σ H _ I h) λv s1 hz=>?_;obtain⟨x,H1,I1,r1,q1⟩:=hz;refine thn (hb pins s1 σ H1 _ I1 q1) λu s2 hz=>?_;obtain⟨y,H2,I2,r2,q2⟩:=hz;exact hf v u s2 x y H2 I2 r1 r2 q2
theorem ZrF(ho:OpR X (dZ op) r)(ha:PE X a ta)(hb:PE X b tb):PE X (.BinOp a op b pos) (tOp r ta tb):=by
 intro pins s σ H Q I h;exact wpAny_BinOp (ZrE ha hb I h λv u s2 x y H2 I2 rx ry q=>ho pins s2 σ H2 x y v u Q I2 rx ry q)
theorem ZrG(ho:UnR X (unaryOp op) r)(ha:PE X a ta):PE X (.UnaryOp op a pos) (tUn r ta):=by
 intro pins s σ H Q I h;exact UnaryOp_ (thn (ha pins s σ H _ I h) λv s1 ⟨x,H1,I1,r1,q1⟩=>ho pins s1 σ H1 x v Q I1 r1 q1)
theorem opI{g:Int->Int->Int}(rule:∀(i j:Int)(t u:Tok)(s:az)(Q:Vp)(E:Vp),C i j->Q (.int (g i j) s.toks) {s with toks:=s.toks+1}->wpAny (ae X.prog X.w) X.A (f (.int i t) (.int j u)) Q E s):OpR X f (rI C λi j=>.int (g i j)):=by
 intro pins s σ H x y v u Q I rx ry h;obtain⟨i,j,rfl,rfl,hc,q⟩:=h;obtain⟨t,rfl⟩:=rx;obtain⟨t',rfl⟩:=ry;exact rule i j t t' s _ _ hc ⟨.int (g i j),H,I.tok _,⟨_,rfl⟩,q⟩
theorem ZtC{g:Int->Int->Int}(rule:∀(i j:Int)(t u:Tok)(s:az)(Q:Vp)(E:Vp),Q (.int (g i j) s.toks) {s with toks:=s.toks+1}->wpAny (ae X.prog X.w) X.A (f (.int i t) (.int j u)) Q E s):OpR X f (rI0 λi j=>.int (g i j)):=by
 intro pins s σ H x y v u Q I rx ry h;obtain⟨i,j,rfl,rfl,q⟩:=h;obtain⟨t,rfl⟩:=rx;obtain⟨t',rfl⟩:=ry;exact rule i j t t' s _ _ ⟨.int (g i j),H,I.tok _,⟨_,rfl⟩,q⟩
theorem Zrd{g:Int->Int->Bool}(rule:∀(i j:Int)(t u:Tok)(s:az)(Q:Vp)(E:Vp),Q (.bool (g i j)) s->wpAny (ae X.prog X.w) X.A (f (.int i t) (.int j u)) Q E s):OpR X f (rI0 λi j=>.bl (g i j)):=by
 intro pins s σ H x y v u Q I rx ry h;obtain⟨i,j,rfl,rfl,q⟩:=h;obtain⟨t,rfl⟩:=rx;obtain⟨t',rfl⟩:=ry;exact rule i j t t' s _ _ ⟨.bl (g i j),H,I,rfl,q⟩
noncomputable def ZtD(i j:Int):Prop:=0<=j/\j<=1000000/\i.natAbs<2^64
noncomputable def ZtE(i j:Int):Prop:=(-(2^64)<i/\i<2^64)\/(-(2^64)<j/\j<2^64)
theorem ZtE.ok(h:ZtE i j):IntMulOk i j:=by
 rcases h with⟨h1,h2⟩|⟨h1,h2⟩
 .exact .of_left (iK h1 h2)
 .exact .of_right (iK h1 h2)
theorem Zod:OpR X (dZ .Add) (rI0 λi j=>.int (i+j)):=ZtC λ_ _ _ _ _ _ _ q=>add_int q
theorem Zoe:OpR X (dZ .Sub) (rI0 λi j=>.int (i-j)):=ZtC λ_ _ _ _ _ _ _ q=>sub_int q
theorem ZlV:OpR X (dZ .Mod) (rI (λ_ j=>j≠0) λi j=>.int (i.fmod j)):=opI λ_ _ _ _ _ _ _ hc q=>mod_int' hc q
theorem Zof:OpR X (dZ .Pow) (rI ZtD λi j=>.int (i^j.toNat)):=opI λ_ _ _ _ _ _ _ hc q=>pow_int_small hc.1 hc.2.1 hc.2.2 q
theorem unI{g:Int->Int}(rule:∀(i:Int)(t:Tok)(s:az)(Q:Vp)(E:Vp),Q (.int (g i) s.toks) {s with toks:=s.toks+1}->wpAny (ae X.prog X.w) X.A (f (.int i t)) Q E s):UnR X f (rU λi=>.int (g i)):=by
 intro pins s σ H x v Q I rx h;obtain⟨i,rfl,q⟩:=h;obtain⟨t,rfl⟩:=rx;exact rule i t s _ _ ⟨.int (g i),H,I.tok _,⟨_,rfl⟩,q⟩
theorem Zog:UnR X (unaryOp .USub) (rU λi=>.int (-i)):=unI λ_ _ _ _ _ q=>neg_int q
theorem ZbH:OpR X (cB .Lt) (rI0 λi j=>.bl (decide (i<j))):=Zrd λ_ _ _ _ _ _ _ q=>lt_int q
theorem Zhl:OpR X (cB .LtE) (rI0 λi j=>.bl (decide (i<=j))):=Zrd λ_ _ _ _ _ _ _ q=>le_int q
theorem Zhm:OpR X (cB .Gt) (rI0 λi j=>.bl (decide (j<i))):=Zrd λ_ _ _ _ _ _ _ q=>gt_int q
theorem ZjC:OpR X (cB .GtE) (rI0 λi j=>.bl (decide (j<=i))):=Zrd λ_ _ _ _ _ _ _ q=>ge_int q
theorem OpR.or(h:OpR X f r)(h':OpR X f r'):OpR X f (λx y H Q=>r x y H Q\/r' x y H Q):=by
 intro pins s σ H x y v u Q I rx ry q;rcases q with q|q
 .exact h pins s σ H x y v u Q I rx ry q
 .exact h' pins s σ H x y v u Q I rx ry q
theorem ZkW(b:Expr)(h:autoParam (op≠ .In) Qde._auto_1)(h2:autoParam (op≠ .NotIn) Qde._auto_1):fA op b=false:=by
 have e1:(op==CmpOp.In)=false:=by cases op<;>first|rfl|exact absurd rfl h
 have e2:(op==CmpOp.NotIn)=false:=by cases op<;>first|rfl|exact absurd rfl h2
 cases b<;>simp[fA,e1,e2]
theorem ZlW(ho:OpR X (cB op) r)(ha:PE X a ta)(hb:PE X b tb)(hm:fA op b=false):PE X (.Compare a [op] [b] pos) (tOp r ta tb):=by
 intro pins s σ H Q I h;exact wpAny_Compare1 (ZrE ha hb I h λv u s2 x y H2 I2 rx ry q=>ho pins s2 σ H2 x y v u Q I2 rx ry q) hm
noncomputable def Zoh(t:TE):TT:=λσ H Q=>t σ H λx H'=>∃k,x=.bl k/\Q k H'
theorem ZlX(ho:OpR X (cB op) r)(ha:PE X a ta)(hb:PE X b tb)(hm:fA op b=false):PT X (.Compare a [op] [b] pos) (Zoh (tOp r ta tb)):=by
 intro pins s σ H Q I h;refine wpAny_isTrue_Compare1 (thn (ha pins s σ H _ I h) λv s1 ⟨x,H1,I1,r1,q1⟩=>thn (hb pins s1 σ H1 _ I1 q1) λu s2 ⟨y,H2,I2,r2,q2⟩=>thn (ho pins s2 σ H2 x y v u _ I2 r1 r2 q2) λc s3 ⟨z,H3,I3,r3,k,e,q3⟩=>?_) hm
 subst e;cases r3;exact cx ⟨H3,I3,q3⟩
noncomputable def ZkX(r r':R2)(ta tb tc:TE):TE:=λσ H Q=>ta σ H λx H1=>tb σ H1 λy H2=>r x y H2 λz H3=>∃k,z=.bl k/\
 (if k=true then tc σ H3 λw' H4=>r' y w' H4 Q else Q (.bl false) H3)
theorem ZjD(ho:OpR X (cB op) r)(ho':OpR X (cB op') r')(ha:PE X a ta)(hb:PE X b tb)(hc:PE X c tc)(hm:lastMarks [op,op'] [b,c]=false:=by with_unfolding_all rfl):PE X (.Compare a [op,op'] [b,c] pos) (ZkX r r' ta tb tc):=by
 intro pins s σ H Q I h;refine Compare_chain (thn (ha pins s σ H _ I h) λv s1 ⟨x,H1,I1,r1,q1⟩=>chain_link (thn (hb pins s1 σ H1 _ I1 q1) λu s2 ⟨y,H2,I2,r2,q2⟩=>thn (ho pins s2 σ H2 x y v u _ I2 r1 r2 q2) λd s3 ⟨z,H3,I3,r3,k,e,q3⟩=>?_)) hm
 subst e;cases r3;refine cx ?_;cases k with
 |false=>exact ite_ff ⟨.bl false,H3,I3,rfl,q3⟩
 |true=>exact ite_tt (chain_last (thn (hc pins s3 σ H3 _ I3 q3) λw' s4 ⟨z',H4,I4,r4,q4⟩=>ho' pins s4 σ H4 y z' u w' Q I4 r2 r4 q4))
theorem Zhn:(sizeLine:Nat)<2^63:=by rw[c9];decide
theorem ZgB:OpR X (dZ .Add) (λx y H Q=>∃i j,x=.str i/\y=.str j/\i.length+j.length<=sizeLine/\Q (.str (i++j)) H):=by
 intro pins s σ H x y v u Q I rx ry h;obtain⟨i,j,rfl,rfl,hz,q⟩:=h;obtain⟨t,rfl⟩:=rx;obtain⟨t',rfl⟩:=ry;exact add_str (λt' tk=>⟨.str (i++j),H,I.tok _,⟨_,rfl⟩,q⟩) hz
theorem Zdx(r:Zaj [x] us):∃u,us=[u]/\Zah x u:=by
 cases r with
 |cons r1 r2=>cases r2;exact⟨_,rfl,r1⟩
theorem Zho(r:Zaj [x,y] us):∃u w',us=[u,w']/\Zah x u/\Zah y w':=by
 cases r with
 |cons r1 r2=>
  cases r2 with
  |cons r3 r4=>cases r4;exact⟨_,_,rfl,r1,r3⟩
theorem Zch:Zcg X (.builtin "abs") (λxs H Q=>∃i,xs=[.int i]/\Q (.int (if i<0 then -i else i)) H):=by
 intro pins s σ H xs us Q I r h;obtain⟨i,rfl,q⟩:=h;obtain⟨u,rfl,t,rfl⟩:=Zdx r;exact call_abs_int λu tk=>⟨.int (if i<0 then -i else i),H,I.tok _,⟨_,rfl⟩,q⟩
theorem Zhp(hc:X.calm=true):Zcg X (.builtin "max") (λxs H Q=>∃i j,xs=[.int i,.int j]/\Q (.int (if j>i then j else i)) H):=by
 intro pins s σ H xs us Q I r h;obtain⟨i,j,rfl,q⟩:=h;obtain⟨u,w',rfl,⟨t,rfl⟩,⟨t',rfl⟩⟩:=Zho r;refine max_two_ints (I.ok.hd hc) λh' tk k=>⟨_,H,I.kept k,?_,q⟩;by_cases hj:j>i
 .rw[if_pos hj,if_pos hj];exact⟨_,rfl⟩
 .rw[if_neg hj,if_neg hj];exact⟨_,rfl⟩
theorem Zhq(hc:X.calm=true):Zcg X (.builtin "min") (λxs H Q=>∃i j,xs=[.int i,.int j]/\Q (.int (if j<i then j else i)) H):=by
 intro pins s σ H xs us Q I r h;obtain⟨i,j,rfl,q⟩:=h;obtain⟨u,w',rfl,⟨t,rfl⟩,⟨t',rfl⟩⟩:=Zho r;refine min_two_ints (I.ok.hd hc) λh' tk k=>⟨_,H,I.kept k,?_,q⟩;by_cases hj:j<i
 .rw[if_pos hj,if_pos hj];exact⟨_,rfl⟩
 .rw[if_neg hj,if_neg hj];exact⟨_,rfl⟩
theorem Zhr:Zcg X (.type "int") (λxs H Q=>(∃i,xs=[.int i]/\Q (.int i) H)\/∃k,xs=[.bl k]/\Q (.int (if k then 1 else 0)) H):=by
 intro pins s σ H xs us Q I r h;rcases h with⟨i,rfl,q⟩|⟨k,rfl,q⟩
 .obtain⟨u,rfl,t,rfl⟩:=Zdx r;exact call_int_int ⟨.int i,H,I,⟨_,rfl⟩,q⟩
 .obtain⟨u,rfl,r1⟩:=Zdx r;cases r1;exact call_int_bool ⟨.int (if k then 1 else 0),H,I.tok _,⟨_,rfl⟩,q⟩
noncomputable def ZkY(f:Str)(v:V):List (Str×V)->List (Str×V)
 |[]=>[(f,v)]
 | (g,x)::r=>if g=f then(g,v)::r else(g,x)::ZkY f v r
theorem Zc4(f g:Str)(v:V):∀fs:List (Str×V),(ZkY f v fs).lookup g=if g=f then some v else fs.lookup g
 |[]=>by
  show fS g [(f,v)]=_;by_cases h:g=f
  .have hb:(g==f)=true:=beq_iff_eq.mpr h;simp only[fS,hb,if_pos h]
  .have hb:(g==f)=false:=beq_eq_false_iff_ne.mpr h;simp only[fS,hb,if_neg h]
 | (k,x)::r=>by
  have ih:=Zc4 f g v r;rw[show ZkY f v ((k,x)::r)=(if k=f then(k,v)::r else(k,x)::ZkY f v r)from rfl]
  by_cases hk:k=f
  .rw[if_pos hk];by_cases h:g=k
   .have hb:(g==k)=true:=beq_iff_eq.mpr h;simp only[fS,hb,if_pos (h.trans hk)]
   .have hb:(g==k)=false:=beq_eq_false_iff_ne.mpr h;simp only[fS,hb,if_neg (λe:g=f=>h (e.trans hk.symm))]
  .rw[if_neg hk];by_cases h:g=k
   .have hb:(g==k)=true:=beq_iff_eq.mpr h;simp only[fS,hb,if_neg (λe:g=f=>hk (h.symm.trans e))]
   .have hb:(g==k)=false:=beq_eq_false_iff_ne.mpr h;simp only[fS,hb];exact ih
theorem Zgy.some_of(r:Zgy (some v) o):∃u,o=some u/\Zah v u:=by
 cases o with
 |none=>exact(show False from r).elim
 |some u=>exact⟨u,rfl,r⟩
theorem Zgy.none_of(r:Zgy none o):o=none:=by
 cases o with
 |none=>rfl
 |some u=>exact(show False from r).elim
structure Room(k:Nat) (A:cb):Prop where
 hd:100<=k->A.handled=none
 gd:A.guards=some []
 dp:A.depth+3*k+5<recursionLimit
 un:A.units+16*k+200<gU
theorem Room.mono(r:Room k A)(h:j<=k):Room j A:=⟨λz=>r.hd (aQ z h),r.gd,by have:=r.dp;lia,by have:=r.un;lia⟩
theorem Room.deeper(r:Room (k+1) A)(env:Env):Room k (A.deeper env):=
 ⟨λz=>r.hd (Nat.le_succ_of_le z),r.gd,by have:=r.dp;show A.depth+1+3*k+5<_;lia,by have:=r.un;show A.units+3+16*k+200<_;lia⟩
theorem ZgC{A:cb}:(A.under (.builtin "type.__call__" ⟨.ref C::us,kw⟩)).depth=A.depth+1:=by
 first|rfl|simp[kL,Code.weight,Code.isCreation,Code.isGuard,Code.isCaller,Code.frames,kM,guardIds]
theorem ZgD{A:cb}:(A.under (.builtin "type.__call__" ⟨.ref C::us,kw⟩)).units=A.units+1:=by
 first|rfl|simp[kL,Code.cUnits,Code.frames,kM]
theorem Room.make(r:Room (k+1) A)(C:Addr)(us:List aa)(kw:List (Str×aa)):Room k (A.under (.builtin "type.__call__" ⟨.ref C::us,kw⟩)):=
 ⟨λz=>r.hd (Nat.le_succ_of_le z),r.gd,by have:=r.dp;rw[ZgC];lia,by have:=r.un;rw[ZgD];lia⟩
theorem Room.depth(r:Room k A):A.depth<recursionLimit:=by have:=r.dp;lia
theorem Room.units(r:Room k A):A.units+64<gU:=by have:=r.un;lia
noncomputable def tNil:TA:=λ_ H Q=>Q [] H
noncomputable def ZrH(ta:TE)(tr:TA):TA:=λσ H Q=>ta σ H λx H1=>tr σ H1 λxs H2=>Q (x::xs) H2
theorem Zhs:PA X [] tNil:=λ_ _ _ _ H Q I h=>Calls.spliced_nil ⟨[],H,I,.nil,h⟩
theorem Zc5(ha:PE X e te)(hr:PA X es t)(hs:autoParam (af (e::es) X.env=(false,eval e X.env)::af es X.env) Qrf._auto_1):PA X (e::es) (ZrH te t):=by
 intro pos pins s σ H Q I h;rw[hs];show wpAny _ _ (spliced ((false,eval e X.env)::b8 pos (af es X.env))) _ _ s;refine Calls.spliced_cons (thn (ha pins s σ H _ I h) λu s1 hz=>?_);obtain⟨x,H1,I1,r1,q1⟩:=hz;exact thn (hr pos pins s1 σ H1 _ I1 q1) λus s2 ⟨xs,H2,I2,r2,q2⟩=>⟨x::xs,H2,I2,.cons r1 r2,q2⟩
def Zuo(t:TA):TE:=λσ H Q=>t σ H λxs H1=>xs.length<=sizeLine/\∀p,H1 p=none->Q (.ref p) (upd H1 p (.tup xs))
def Zup(t:TA):TE:=λσ H Q=>t σ H λxs H1=>xs.length<=sizeLine/\∀p,H1 p=none->Q (.ref p) (upd H1 p (.lst xs))
theorem Zoi{x1}(h:PA X es t):PE X (.Tuple es x1 pos) (Zuo t):=by
 intro pins s σ H Q I hq;refine wpAny_Tuple_spliced (thn (h pos pins s σ H _ I hq) λus s1 ⟨xs,H1,I1,r,z,q⟩=>⟨by rw[<-r.length];exact z,?_⟩)
 have hf:H1 s1.heap.objs.size=none:=I1.hok.fresh (ac _);refine⟨.ref s1.heap.objs.size,upd H1 s1.heap.objs.size (.tup xs),I1.laid (t':=s1.toks) (λb u e=>Hq _ e) (ac _) ?_,rfl,q _ hf⟩;exact⟨z,us,r,⟨_,aS _ rfl,rfl,_,rfl⟩⟩
theorem Zoj(h:PA X es t):PE X (.List es pos) (Zup t):=by
 intro pins s σ H Q I hq;refine wpAny_List_spliced (thn (h pos pins s σ H _ I hq) λus s1 ⟨xs,H1,I1,r,z,q⟩=>⟨by rw[<-r.length];exact z,?_⟩)
 have hf:H1 s1.heap.objs.size=none:=I1.hok.fresh (ac _);refine⟨.ref s1.heap.objs.size,upd H1 s1.heap.objs.size (.lst xs),I1.laid (t':=s1.toks) (λb u e=>Hq _ e) (ac _) ?_,rfl,q _ hf⟩;exact⟨z,us,0,r,aS _ rfl⟩
abbrev Sp:=List V->Hp->VK->XK->Prop
abbrev CXT:=List Env->Hp->az->XK->aa->az->Prop
structure Env0(P:bO) (w:cu) (K:Fg) (mg:Str->Option aa) (base:Heap) (A:cb) (outer:List Env) (s:az) (H:Hp):Prop where
 frames:A.frames=some outer
 mod:Mod K mg base
 bs:∀b o,base.get? b=some o->s.heap.get? b=some o/\H b=none
 bsz:base.objs.size<=s.heap.objs.size
 funs:s.heap.FunFrames base outer
 frf:∀b∈frs outer,H b=none
 hok:HOk P w H s.heap
 bare:fG s.gens
 qd:Qd A H
 tb:Tbs K H
def CE(outer:List Env)(P:bO)(w:cu)(H:Hp)(s:az)(Q:VK)(u:aa)(s':az):Prop:=
 ∃v H',s'.os=s.os/\fG s'.gens/\Un (frs outer) [] H H' s.heap s'.heap/\HOk P w H' s'.heap/\Zah v u/\Q v H'
def CR(CX:CXT)(outer:List Env)(P:bO)(w:cu)(H:Hp)(s:az)(Q:VK)(E:XK)(r:Result)(s':az):Prop:=
 match r with
 |.ok (.ret u)=>CE outer P w H s Q u s'
 |.ok _=>False
 |.error e=>CX outer H s E e s'
structure FnOk(P:bO) (w:cu) (K:Fg) (mg:Str->Option aa) (base:Heap) (CX:CXT) (k:Nat) (f:Addr) (fd:f8) (ps:List Str) (sp:Sp):Prop where
 len:∀vs H Q E,sp vs H Q E->vs.length=ps.length
 run:∀(A:cb)(outer:List Env)(s:az)(H:Hp)(args:Args)(us:List aa)(vs:List V)(Q:VK)(E:XK),Room k A->Env0 P w K mg base A outer s H->jO s fd args (ps.zip us)->Zaj vs us->sp vs H Q E->
  gY (ae P w) A (.call (.ref f) args) (CR CX outer P w H s Q E) s
theorem Env0.make{K:Fg}(e:Env0 P w K mg base A outer s H)(C:Addr)(us:List aa)(kw:List (Str×aa)):Env0 P w K mg base (A.under (.builtin "type.__call__" ⟨.ref C::us,kw⟩)) outer s H:=⟨by first|exact e.frames|(simpa [kL,Code.envs,kM,pushEnvs]using e.frames),e.mod,e.bs,e.bsz,e.funs,e.frf,e.hok,e.bare,e.qd,e.tb⟩
theorem Inv.env0(I:Inv X pins σ H s):Env0 X.prog X.w X.K X.mg X.base X.A X.stack s H:=
 ⟨I.ok.frames,I.ok.mod,I.bs,aQ I.ok.bsz I.sz,I.stack,I.stkFree,I.hok,I.bare,I.qd,I.ok.tb.un I.base⟩
theorem Inv.after(I:Inv X pins σ H s)(h:CE X.stack X.prog X.w H s Q u s'):EP X pins σ Q u s':=by
 obtain⟨v,H',os,bare,un,hok,r,q⟩:=h;obtain⟨hh,g,d,t,os'⟩:=s';obtain rfl:os'=s.os:=os;exact⟨v,H',I.call (h':=hh) (g':=g) (d':=d) (t':=t) (ch:=[]) un hok bare (λb z=>absurd z (by simp)),r,q⟩
noncomputable def ZrI(sp:Sp)(dvs:List V)(E:XK)(t:TA):TE:=λσ H Q=>t σ H λvs H1=>sp (vs++dvs) H1 Q E
noncomputable def ZdS(K:Fg)(fd:f8)(ps:List Str)(ds:List aa):Prop:=
 ∀(s:az)(us:List aa),K.In s.heap->(us++ds).length=ps.length->jO s fd ⟨us,[]⟩ (ps.zip (us++ds))
theorem ZdS.all{K:Fg}(h:∀us:List aa,us.length=ps.length->bindArgs fd ⟨us,[]⟩=pure (ps.zip us)):ZdS K fd ps []:=λs us _ hl=>by
 rw[bR]at hl ⊢;exact .of_eq (h us hl)
def Zht(CX:CXT)(X:Cx)(E:XK):Prop:=∀(pins:Pn)(σ:St)(H:Hp)(s:az)(e:aa)(s':az),Inv X pins σ H s->CX X.stack H s E e s'->X.xe e s'
theorem Zok(F:FnOk X.prog X.w X.K X.mg X.base CX k f fd ps sp)(hr:Room k X.A)(hb:ZdS X.K fd ps ds)(hd:Zaj dvs ds)(hx:Zht CX X E)(I:Inv X pins σ H s)(r:Zaj vs us)(h:sp (vs++dvs) H Q E):wpAny (ae X.prog X.w) X.A (call (.ref f) us) (EP X pins σ Q) X.xe s:=by
 have r2:Zaj (vs++dvs) (us++ds):=r.append hd;have hl:(us++ds).length=ps.length:=by rw[<-r2.length];exact F.len _ _ _ _ h
 refine kC (iX (F.run X.A X.stack s H ⟨us,[]⟩ (us++ds) (vs++dvs) Q E hr I.env0 (hb s us I.kIn hl) r2 h) λr s' hq=>?_);cases r with
 |error e=>exact hx pins σ H s e s' I hq
 |ok fl=>
  cases fl with
  |ret u=>exact I.after hq
  |next=>exact cF hq
  |brk=>exact cF hq
  |cont=>exact cF hq
theorem ZlY(F:FnOk X.prog X.w X.K X.mg X.base CX k f fd ps sp)(hr:Room k X.A)(hg:Gl X x)(hm:X.mg x=some (.ref f))(hk:PySem.W.keepIn X.K (.ref f)=true)(hb:ZdS X.K fd ps ds)(hd:Zaj dvs ds)(hx:Zht CX X E)(ha:PA X (e::es) t)(hdb:autoParam ((x==("__debug__":Str))=false) Qde._auto_1)(he:autoParam (af (e::es) X.env=(false,eval e X.env)::af es X.env) Qrf._auto_1)(hpl:autoParam ((b8 pos (af es X.env)).any (·.1)=false) Qrf._auto_1):
  PE X (.Call (.Name x p) (e::es) [] pos) (ZrI sp dvs E t):=by
 intro pins s σ H Q I h;refine wpAny_Call_Name_kw (ZdQ I hg hm ?_ hdb);refine PySem.W.callWith_K (h₀:=X.base) I.ok.mod.kin hk (thn (ha pos pins s σ H _ I h) λus s1 ⟨vs,H1,I1,r,q⟩=>⟨I1.kIn,?_⟩) he hpl;exact Zok F hr hb hd hx I1 r q
structure FnScope(N P:List Str) (sc:kg):Prop where
 kind:sc.kind=.function
 co:sc.isCoroutine=false
 gen:sc.isGenerator=false
 nd:N.Nodup
 pre:N.take P.length=P
 par:∀x∈P,sc.names.lookup x=some .local\/sc.names.lookup x=some .cell
 nofree:∀y∈sc.names,y.2≠ .free
theorem Zem{kindOf:Str->Option cR}{x:Str}:∀{binds:List (Str×aa)} {m:Str->Option aa},(∀v,(x,v)∉binds)->bindL kindOf binds m x=m x
 |[],_,_=>rfl
 | (n,v)::r,m,h=>by
  unfold bindL;rw[Zem λw hw=>h w (aL _ hw)];split
  .have:x≠n:=by rintro rfl;exact h v bM
   simp[this]
  .rfl
theorem Zen{kindOf:Str->Option cR}{x:Str}:∀{binds:List (Str×aa)} {m:Str->Option aa},(∀v,(x,v)∉binds)->bindC kindOf binds m x=m x
 |[],_,_=>rfl
 | (n,v)::r,m,h=>by
  unfold bindC;rw[Zen λw hw=>h w (aL _ hw)];split
  .rfl
  .have:x≠n:=by rintro rfl;exact h v bM
   simp[this]
theorem Zeo{kindOf:Str->Option cR}{x:Str}{v:aa}:∀{P:List Str}{vs:List aa}{i:Nat}{m:Str->Option aa},P.Nodup->P[i]?=some x->vs[i]?=some v->kindOf x=some .local->bindL kindOf (P.zip vs) m x=some v
 |[],_,_,_,_,h,_,_=>by simp at h
 |_::_,[],_,_,_,_,h,_=>by simp at h
 |p::P,w::vs,0,m,nd,h1,h2,hk=>by
  simp at h1 h2;subst h1;subst h2;show bindL kindOf ((p,w)::P.zip vs) m p=_;unfold bindL;rw[Zem λv hv=>(gR.mp nd).1 (jc hv).1,if_pos hk];simp
 |p::P,w::vs,i+1,m,nd,h1,h2,hk=>by
  show bindL kindOf ((p,w)::P.zip vs) m x=_;unfold bindL;exact Zeo (i:=i) (gR.mp nd).2 (by simpa using h1) (by simpa using h2) hk
theorem Zep{kindOf:Str->Option cR}{x:Str}{v:aa}:∀{P:List Str}{vs:List aa}{i:Nat}{m:Str->Option aa},P.Nodup->P[i]?=some x->vs[i]?=some v->kindOf x≠some .local->bindC kindOf (P.zip vs) m x=some v
 |[],_,_,_,_,h,_,_=>by simp at h
 |_::_,[],_,_,_,_,h,_=>by simp at h
 |p::P,w::vs,0,m,nd,h1,h2,hk=>by
  simp at h1 h2;subst h1;subst h2;show bindC kindOf ((p,w)::P.zip vs) m p=_;unfold bindC;rw[Zen λv hv=>(gR.mp nd).1 (jc hv).1,if_neg hk];simp
 |p::P,w::vs,i+1,m,nd,h1,h2,hk=>by
  show bindC kindOf ((p,w)::P.zip vs) m x=_;unfold bindC;exact Zep (i:=i) (gR.mp nd).2 (by simpa using h1) (by simpa using h2) hk
noncomputable def start(N:List Str)(vs:List V):St:=vs.map some++aZ (N.length-vs.length) none
noncomputable def Zg3(CX:CXT)(P:bO)(w:cu)(K:Fg)(mg:Str->Option aa)(base:Heap)(N:List Str)(qual:Str)(scope:kg)(f:Addr)(cd:aa)(A:cb)(outer:List Env)(s:az)(H:Hp)(E:XK):Cx where
 prog:=P
 w:=w
 K:=K
 mg:=mg
 base:=base
 A:=A.deeper (iL qual scope s.heap.objs.size f cd)
 N:=N
 s₀:=s
 H₀:=H
 env:=iL qual scope s.heap.objs.size f cd
 outer:=outer
 stack:=iL qual scope s.heap.objs.size f cd::outer
 ex:=[]
 calm:=A.handled.isNone
 fxs:=none
 fn:=λ_=>true
 pn:=[]
 xe:=λe s'=>wpAny (ae P w) (A.deeper (iL qual scope s.heap.objs.size f cd)) (lF (iL qual scope s.heap.objs.size f cd) e) (λ_ s''=>CX outer H s E e s'') (λe' s''=>CX outer H s E e' s'') s'
theorem ZfK{sc:kg}(h:sc.names.lookup x=some .cell):∃c,(bP n sc.names []).lookup x=some c:=by
 have q:=PySem.W.cellsFrom_some sc.names n [] (.inl h);exact cP.mp q
theorem Zhu{K:Fg}(S:FnScope N ps scope)(e0:Env0 P w K mg base A outer s H)(hl:vs.length=ps.length)(r:Zaj vs us)(x:InCallC s s.heap.objs.size (bindL (iL qual scope s.heap.objs.size f cd).kindOf (ps.zip us) λ_=>none) (bP (s.heap.objs.size+1) scope.names []) (bindC (iL qual scope s.heap.objs.size f cd).kindOf (ps.zip us) λ_=>none) s1):Inv (Zg3 CX P w K mg base N qual scope f cd A outer s H E) [] (start N vs) H s1:=by
 have hpl:ps.length<=N.length:=by have:=congrArg gJ S.pre;rw[cD]at this;lia
 obtain⟨h1,tk,rfl,hk⟩:=x.done;have noA:∀b:Addr,b∉(Zg3 CX P w K mg base N qual scope f cd A outer s H E).ex:=λb z=>absurd (show b∈([]:List Addr)from z) (by simp)
 refine⟨⟨e0.mod,S.kind,rfl,rfl,ac _,λy z c h1 h2=>?_,λy hy=>?_,λy c _ h=>?_,λz=>fg.mp z,cb.frames_deeper e0.frames,.inr ⟨rfl,rfl⟩,λb z=>absurd z (noA b),e0.bs,e0.bsz,λb _ _=>noA b,λb z=>absurd z (noA b),e0.funs,e0.frf,e0.tb⟩,rfl,e0.bare,Un.kept hk,⟨_,x.toInCall.ns,λi y v h1 h2 h3=>?_⟩,λy c h=>⟨_,x.cell y c h⟩,e0.hok.fresh (ac _),λy c h=>?_,λp hp=>absurd (show p∈([]:Pn)from hp) (by simp),e0.hok.kept hk,?_,e0.qd,.free rfl⟩
 .exact name_of_addr x.apart (PySem.mem_of_lookup h1) (PySem.mem_of_lookup h2)
 .have hy:scope.names.lookup y=some .cell\/scope.names.lookup y=some .free:=hy;rcases hy with hy|hy
  .exact ZfK hy
  .exact absurd rfl (S.nofree _ (PySem.mem_of_lookup hy))
 .exact eV (x.above y c (PySem.mem_of_lookup h))
 .have hi:i<vs.length:=by
   unfold start at h2;by_cases hi:i<vs.length
   .exact hi
   .rw[aJ (by simpa using hi)]at h2
    rw[List.getElem?_replicate]at h2
    split at h2<;>cases h2
  have ha:vs[i]?=some v:=by
   unfold start at h2;rw[aO (by simpa using hi),bH]at h2
   cases e:vs[i]? with
   |none=>rw[e]at h2;cases h2
   |some a=>rw[e]at h2;cases h2;rfl
  obtain⟨u,hu,rv⟩:=r.get ha;have hp:ps[i]?=some y:=by
   rw[<-S.pre,fB ⋯];exact h1
  have ndP:ps.Nodup:=by rw[<-S.pre];exact S.nd.sublist (List.take_sublist _ _)
  refine⟨u,rv,?_⟩;rcases S.par y (cE hp)with k|k
  .exact .inl ⟨k,Zeo ndP hp hu k⟩
  .obtain⟨c,e⟩:=ZfK (n:=s.heap.objs.size+1) k;refine .inr ⟨.inl k,c,e,?_⟩;have q:=x.cell y c e;rw[Zep ndP hp hu (by show scope.names.lookup y≠_;rw[k];decide)]at q
   exact q
 .exact e0.hok.fresh (eV (x.above y c (PySem.mem_of_lookup h)))
 .unfold start;show _=N.length;rw[a8,aC,bF];lia
theorem ZlZ{K:Fg}{kV:aa}(lk:K.lookup f=some ⟨oc,od,.func (PySem.W.fnOf name qual params body scope dV kV doc pm an cdv ct),osl⟩)(hcd:PySem.W.codeIn K cdv qual=true)(S:FnScope N ps scope)(len:∀vs H Q E,sp vs H Q E->vs.length=ps.length)(hbody:∀(A:cb)(outer:List Env)(s:az)(H:Hp)(vs:List V)(Q:VK)(E:XK),Room k (A.deeper (iL qual scope s.heap.objs.size f cdv))->sp vs H Q E->∃t,PSs (Zg3 CX P w K mg base N qual scope f cdv A outer s H E) body t/\t {nx:=λ_ H'=>Q .non H',rt:=Q} (start N vs) H):FnOk P w K mg base CX (k+1) f (PySem.W.fnOf name qual params body scope dV kV doc pm an cdv ct) ps sp:=by
 refine⟨len,λA outer s H args us vs Q E hr e0 hb r hsp=>?_⟩;have hl:=len _ _ _ _ hsp;have KX:K.In s.heap:=e0.mod.kin.keeps λb o e=>(e0.bs b o e).1;have lim:s.heap.NoLimit:=e0.mod.nolimit.keeps λb o e=>(e0.bs b o e).1;have hkind:∀y∈ps.zip us,scope.names.lookup y.1=some .local\/(scope.names.lookup y.1=some .cell/\((bP (s.heap.objs.size+1) scope.names []).lookup y.1).isSome=true):=λ⟨n,v⟩ hy=>by
  rcases S.par n (jc hy).1 with q|q
  .exact .inl q
  .exact .inr ⟨q,PySem.W.cellsFrom_some _ _ _ (.inl q)⟩
 refine codeAny_call_function hr.depth (KX _ _ lk) rfl S.co S.gen rfl (PySem.W.codeRec_of KX hcd) (hb _ _ _ _ ?_);refine wpAny_newFunctionEnv_cells S.kind hkind λenv he s1 x=>?_;subst he;refine⟨lim.keeps x.toInCall.keep,codeAny_func ?_⟩;obtain⟨t,ht,hq⟩:=hbody A outer s H vs Q E (hr.deeper _) hsp;have I:Inv (Zg3 CX P w K mg base N qual scope f cdv A outer s H E) [] (start N vs) H s1:=Zhu S e0 hl r x;refine wpAny_mono (ht [] s1 (start N vs) H _ I hq) (λfl s' hs=>?_) λe s' hs=>hs;have fin:∀{σ':St}{H':Hp}{v:V}{u:aa},Inv (Zg3 CX P w K mg base N qual scope f cdv A outer s H E) [] σ' H' s'->Zah v u->Q v H'->CE outer P w H s Q u s':=
  λ{σ' H' v u} J rv q=>⟨v,H',J.os,J.bare,J.base,J.hok,rv,q⟩
 cases fl with
 |ret u=>
  obtain⟨v,σ',H',J,rv,q⟩:=hs;exact fin J rv q
 |next=>
  obtain⟨σ',H',J,q⟩:=hs;exact fin (v:=V.non) (u:=bK) J rfl q
 |brk=>
  obtain⟨_,_,_,q⟩:=hs;exact cF q
 |cont=>
  obtain⟨_,_,_,q⟩:=hs;exact cF q
section
variable {pos:Pos}{id:String}
noncomputable def tCB(r:List V->Hp->VK->Prop)(t:TA):TE:=λσ H Q=>t σ H λvs H1=>r vs H1 Q
theorem ZfL(hc:Zcg X (.builtin id) r)(hg:Gl X x)(hm:X.mg x=none)(hv:bg x=some (.builtin id))(ha:PA X (e::es) t)(hn:autoParam (x≠"__name__") Qde._auto_1)(hdb:autoParam ((x==("__debug__":Str))=false) Qde._auto_1)
  (he:af (e::es) X.env=(false,eval e X.env)::af es X.env:=by rfl) (hpl:(b8 pos (af es X.env)).any (·.1)=false:=by rfl):PE X (.Call (.Name x p) (e::es) [] pos) (tCB r t):=by
 intro pins s σ H Q I h;refine wpAny_Call_Name_kw (Zb0 I hg hm hv ?_ hn hdb);exact PyProof.Rows.callWith_builtin1 (thn (ha pos pins s σ H _ I h) λus s1 ⟨vs,H1,I1,r1,q1⟩=>hc pins s1 σ H1 vs us Q I1 r1 q1) he hpl
theorem Zhv(hc:Zcg X (.type T) r)(hg:Gl X x)(hm:X.mg x=none)(hv:bg x=some (.type T))(ha:PA X (e::es) t)(hn:autoParam (x≠"__name__") Qde._auto_1)(hdb:autoParam ((x==("__debug__":Str))=false) Qde._auto_1)
  (he:af (e::es) X.env=(false,eval e X.env)::af es X.env:=by rfl) (hpl:(b8 pos (af es X.env)).any (·.1)=false:=by rfl):PE X (.Call (.Name x p) (e::es) [] pos) (tCB r t):=by
 intro pins s σ H Q I h;refine wpAny_Call_Name_kw (Zb0 I hg hm hv ?_ hn hdb);exact bA (thn (ha pos pins s σ H _ I h) λus s1 ⟨vs,H1,I1,r1,q1⟩=>hc pins s1 σ H1 vs us Q I1 r1 q1) he hpl
end
end L2
namespace HT
open PyProof.Rows
noncomputable def Zbn:List Int->List Int->Bool
 |[],[]=>false
 |[],_::_=>true
 |_::_,[]=>false
 |x::xs,y::ys=>if x=y then Zbn xs ys else decide (x<y)
theorem ZaQ(x y:Int)(xs ys:List Int):Zbn (x::xs) (y::ys)=if x=y then Zbn xs ys else decide (x<y):=rfl
theorem ZjE(A:cb)(s:az)(a:Int)(t:Tok)(c:Int)(u:Tok):∃e,kz A s (.int a t) (.int c u) e/\(e=true↔a=c):=
 ⟨(a==c),kz.int_int a t c u,by simp⟩
theorem ZjF(A:cb)(s:az)(a:Int)(t:Tok)(c:Int)(u:Tok)(prog:bO)(w:cu)(E:Vp)(Q:Vp)(h:Q (.bool (decide (a<c))) s):wpAny (ae prog w) A (richCompare .Lt (.int a t) (.int c u)) Q E s:=
 (PyProof.Rows.lt_int h:wpAny (ae prog w) A (cB .Lt (.int a t) (.int c u)) Q E s)
section
open PySem.SeqAt
open PySem.AutoSeq1 (wpAny_loadPart')
open PySem.MeetsSeq PySem.MeetsSeq2 PySem.MeetsSeq3
end
theorem Zl0(ht:lJ s.heap t vs.toArray)(hb:lJ s.heap b ws.toArray)(hv:vs≠[])(h1:ws=[]->Q (.ref t) s)(h2:ws≠[]->Q (.ref s.heap.objs.size) {s with heap:=s.heap.push {cls:=.type "tuple",data:=.seq (vs++ws).toArray}})(hsz:vs.length+ws.length<=sizeLine):wpAny (ae prog w) A (dZ .Add (.ref t) (.ref b)) Q E s:=by
 obtain⟨⟨cls,dd,data,sl⟩,ho,hc,n,hd⟩:=id ht;obtain⟨⟨cls2,dd2,data2,sl2⟩,ho2,hc2,n2,hd2⟩:=id hb;simp only at hc hd hc2 hd2;subst hc hd hc2 hd2;have e:vs.toArray++ws.toArray=(vs++ws).toArray:=by simp
 by_cases hw:ws=[]
 .exact concat_meets ⟨_,ho,rfl⟩ ⟨_,ho2,rfl⟩ noFill_tuple_add seq_tuple_add PySem.F.slot_tuple_add PySem.F.entry_tuple_add (PySem.F.args_tuple_add_2 _ _)
   (tuple_addW1 t b vs.toArray ws.toArray n n2 dd dd2 sl sl2 (by simpa using hv) (by simp[hw])) ⟨ho,ho2,h1 hw⟩
 .refine concat_meets ⟨_,ho,rfl⟩ ⟨_,ho2,rfl⟩ noFill_tuple_add seq_tuple_add PySem.F.slot_tuple_add PySem.F.entry_tuple_add (PySem.F.args_tuple_add_2 _ _)
   (tuple_addW2 t b vs.toArray ws.toArray n n2 dd dd2 sl sl2 (by simpa using hv) (by simpa using hw) (by rw[aE,aE];exact hsz)) ⟨ho,ho2,?_⟩
  rw[e];exact h2 hw
noncomputable def sIx(n d:Nat):Option Int->Nat
 |none=>d
 |some v=>if v<0 then(v+(n:Int)).toNat else min v.toNat n
theorem ZjG(n d:Nat):sIx n d none=d:=rfl
theorem Zl1(n d k:Nat):sIx n d (some (k:Int))=min k n:=by
 show(if(k:Int)<0 then((k:Int)+(n:Int)).toNat else min (k:Int).toNat n)=min k n
 rw[if_neg ⋯,fY]
theorem Zol(n d:Nat)(hd:d<=n)(o:Option Int):sIx n d o<=n:=by
 cases o with
 |none=>exact hd
 |some v=>
  show(if v<0 then(v+(n:Int)).toNat else min v.toNat n)<=n
  by_cases hv:v<0
  .rw[if_pos hv];lia
  .rw[if_neg hv];exact Nat.min_le_right _ _
theorem Zhw(v:Int)(n d:Nat):(if v<0 then max (v+(n:Int)) 0 else min v (n:Int))=((sIx n d (some v):Nat):Int):=by
 show(if v<0 then max (v+(n:Int)) 0 else min v (n:Int))=(((if v<0 then(v+(n:Int)).toNat else min v.toNat n):Nat):Int)
 by_cases hv:v<0
 .simp only[if_pos hv];lia
 .simp only[if_neg hv];lia
theorem ZgE(lo hi:Option Int)(n:Nat):fk lo hi 1 (n:Int)=(((sIx n 0 lo:Nat):Int),((sIx n n hi:Nat):Int)):=by
 have h1:¬((1:Int)<0):=⋯
 unfold fk;simp only[h1,if_false];refine eO ?_ ?_
 .cases lo with
  |none=>rfl
  |some v=>exact Zhw v n 0
 .cases hi with
  |none=>rfl
  |some v=>exact Zhw v n n
theorem ZgF(i j:Nat):dm (i:Int) (j:Int) 1=j-i:=by
 unfold dm;have h1:(1:Int)>0:=⋯
 simp only[h1,if_true,Int.ediv_one]
 split<;>lia
theorem ZdD(p:kD v o)(h:Q o s):wpAny (ae prog w) A (dI.Slice.slicePartIndex v) Q E s:=by
 cases p with
 |none=>exact slicePart_none h
 |int i t=>exact slicePart_int h
theorem ZcS{lo:Option Int}{n:Nat}(hs:s.heap.IsSliceOf sl vl vu .none)(pl:kD vl lo)(pu:kD vu hi)(h:Q (((sIx n 0 lo:Nat):Int),1,sIx n n hi-sIx n 0 lo) s):wpAny (ae prog w) A (il (.ref sl) (pure (n:Int))) Q E s:=by
 obtain⟨os,hos,hcs,hds⟩:=id hs;unfold il dI.Slice.sliceFields;refine Wb (Wb (b7 hos hds (x:=vl) rfl (Wb (b7 hos hds (x:=vu) rfl (Wb (b7 hos hds (x:=.none) rfl (Wp ?_)))))));refine Wb (slicePart_none ?_);show wpAny _ _ (if((1:Int)==0)=true then _ else _) _ _ s
 rw[if_neg (by decide)]
 refine Wb (ZdD pl (Wb (ZdD pu (Wb (Wp ?_)))));show wpAny _ _ (match fk lo hi 1 (n:Int)with|(lo,hi)=>pure (lo,(1:Int),dm lo hi 1)) _ _ s
 rw[ZgE lo hi n];show wpAny _ _ (pure (((sIx n 0 lo:Nat):Int),(1:Int),dm ((sIx n 0 lo:Nat):Int) ((sIx n n hi:Nat):Int) 1)) _ _ s;rw[ZgF];exact Wp h
theorem ZjH(xs:Array aa)(i k:Nat):((ay k).filterMap λ(m:Nat)=>xs[((i:Int)+(m:Int)*1).toNat]?).toArray=((xs.toList.drop i).take k).toArray:=by
 have e:(λ(m:Nat)=>xs[((i:Int)+(m:Int)*1).toNat]?)=λm=>xs[i+m]?:=by
  funext m
  have:((i:Int)+(m:Int)*1).toNat=i+m:=⋯
  rw[this]
 rw[e]
 have:=pick_run xs i k
 rw[List.filterMap_map]at this;have e2:((λx=>xs[x]?)∘λx=>i+x)=λm=>xs[i+m]?:=rfl;rw[e2]at this;rw[this]
theorem Zcy{lo:Option Int}(ht:lJ s.heap t items)(hs:s.heap.IsSliceOf sl vl vu .none)(pl:kD vl lo)(pu:kD vu hi)(hw:¬(sIx items.size 0 lo=0/\sIx items.size items.size hi=items.size))(h:Q (.ref s.heap.objs.size) {s with heap:=s.heap.push {cls:=.type "tuple",data:=.seq ((items.toList.drop (sIx items.size 0 lo)).take (sIx items.size items.size hi-sIx items.size 0 lo)).toArray}})(hsz:items.size<=sizeLine):wpAny (ae prog w) A (iY (.ref t) (.ref sl)) Q E s:=by
 have htake:sizeOk (.seq ((items.toList.drop (sIx items.size 0 lo)).take (sIx items.size items.size hi-sIx items.size 0 lo)).toArray):=by
  show((items.toList.drop (sIx items.size 0 lo)).take (sIx items.size items.size hi-sIx items.size 0 lo)).toArray.size<=sizeLine;rw[aE,cD,eW,bf]
  omega
 have hj:sIx items.size items.size hi<=items.size:=Zol _ _ (ac _) hi;obtain⟨os,hos,hcs,hds⟩:=id hs;have hTs:s.TypeIs (.ref sl) "slice":=⟨os,hos,hcs⟩;unfold iY
 try with_reducible refine cO ?_
 first|refine Wb (Wp ?_)|skip
 refine Wb (wpAny_sequenceKey ht.typeIs (by decide) ?_)
 refine Wb (iQ (name:=aB "__getitem__") ht.typeIs dH (dc dH ht.typeIs entry_tuple_getitem ?_ (args_tuple_getitem _ _)))
 show wpAny _ _ (ia (.ref t) >>= _) _ _ s;refine Wb (tupleItemsOf_ ht ?_);refine Wb (kO hTs ?_);rw[if_pos (by decide)]
 refine Wb (ZcS hs pl pu ?_);have hno:¬((((sIx items.size 0 lo:Nat):Int)==0&&(1:Int)==1&&(sIx items.size items.size hi-sIx items.size 0 lo)==items.size)=true):=by
  intro q;rw[aV,aV]at q;have q1:((sIx items.size 0 lo:Nat):Int)=0:=eq_of_beq q.1.1;have q2:sIx items.size items.size hi-sIx items.size 0 lo=items.size:=eq_of_beq q.2;exact hw ⟨by omega,by omega⟩
 show wpAny _ _ (if(((sIx items.size 0 lo:Nat):Int)==0&&(1:Int)==1&&(sIx items.size items.size hi-sIx items.size 0 lo)==items.size)=true then _ else _) _ _ s
 rw[if_neg hno,ZjH]
 first
  |exact Wb (m:=dF _) (bX (Wp ⟨_,rfl,Wp h⟩) htake)
  |exact Wb (m:=dF _) (bX (Wb (Wp (Wp ⟨_,rfl,Wp h⟩))) htake)
  |exact Wb (Wb (m:=dF _) (bX (Wp (Wp ⟨_,rfl,Wp h⟩)) htake))
  |exact Wb (Wb (m:=dF _) (bX (Wp ⟨_,rfl,Wp h⟩) htake))
end HT
namespace L2
open PyProof.Rows
abbrev TO:=St->Hp->(Option Int->Hp->Prop)->Prop
def PO(X:Cx)(e:Option Expr)(t:TO):Prop:=
 ∀(pins:Pn)(s:az)(σ:St)(H:Hp)(Q:Option Int->Hp->Prop),Inv X pins σ H s->t σ H Q->
  wpAny (ae X.prog X.w) X.A (evalPart e X.env) (λu s'=>∃o H',Inv X pins σ H' s'/\kD u o/\Q o H') X.xe s
noncomputable def tNoPart:TO:=λ_ H Q=>Q none H
noncomputable def ZrJ(t:TE):TO:=λσ H Q=>t σ H λx H1=>∃i,x=.int i/\Q (some i) H1
theorem ZgG:∀{us:List aa},Zaj (ns.map V.int) us->f9 us ns:=by
 induction ns with
 |nil=>intro us r;rw[ge]at r;cases r;exact .nil
 |cons n ns ih=>
  intro us r;rw[aN]at r;cases r with
  |cons r1 r2=>
   obtain⟨t,e⟩:=r1;subst e;exact .cons n t (ih r2)
section
variable {lo hi:Option Expr}{tl:TO}
theorem Zl2:PO X none tNoPart:=by
 intro pins s σ H Q I h;rw[evalPart_none];exact Wp ⟨none,H,I,.none,h⟩
theorem Zl3(h:PE X e te):PO X (some e) (ZrJ te):=by
 intro pins s σ H Q I hw;rw[evalPart_some];refine thn (h pins s σ H _ I hw) λu s1 hz=>?_;obtain⟨x,H1,I1,r1,q1⟩:=hz;obtain⟨i,rfl,q⟩:=q1;obtain⟨t,rfl⟩:=r1;exact⟨some i,H1,I1,.int i t,q⟩
def SlR(X:Cx)(r:V->Option Int->Option Int->Hp->VK->Prop):Prop:=
 ∀(pins:Pn)(s:az)(σ:St)(H:Hp)(x:V)(v vl vu:aa)(lo hi:Option Int)(sl:Addr)(Q:VK),Inv X pins σ H s->Zah x v->s.heap.IsSliceOf sl vl vu .none->kD vl lo->kD vu hi->r x lo hi H Q->
  ∃T id,typeLookup (.type T) "__getitem__"=pure (some (.builtin id))/\s.TypeIs v T/\wpAny (ae X.prog X.w) X.A (iY v (.ref sl)) (EP X pins σ Q) X.xe s
theorem SlR.or(h:SlR X r)(h':SlR X r'):SlR X (λx lo hi H Q=>r x lo hi H Q\/r' x lo hi H Q):=by
 intro pins s σ H x v vl vu lo hi sl Q I rx hs pl pu q;rcases q with q|q
 .exact h pins s σ H x v vl vu lo hi sl Q I rx hs pl pu q
 .exact h' pins s σ H x v vl vu lo hi sl Q I rx hs pl pu q
noncomputable def tSl(r:V->Option Int->Option Int->Hp->VK->Prop)(te:TE)(tl th:TO):TE:=λσ H Q=>te σ H λx H1=>tl σ H1 λl H2=>th σ H2 λu H3=>r x l u H3 Q
theorem ZjI(hr:SlR X r)(he:PE X e te)(hl:PO X lo tl)(hu:PO X hi th):PE X (.Subscript e (.Slice lo hi none p2) pos) (tSl r te tl th):=by
 intro pins s σ H Q I h;refine Subscript_ (thn (he pins s σ H _ I h) λv s1 hz=>?_);obtain⟨x,H1,I1,r1,q1⟩:=hz;refine wpAny_Slice (thn (hl pins s1 σ H1 _ I1 q1) λvl s2 ⟨l,H2,I2,pl,q2⟩=>thn (hu pins s2 σ H2 _ I2 q2) λvu s3 hz=>?_);obtain⟨u,H3,I3,pu,q3⟩:=hz;rw[evalPart_none];refine Wp ?_;have I4:Inv X pins σ H3 {s3 with heap:=s3.heap.push {cls:=.type "slice",data:=.fields #[vl,vu,.none]}}:=I3.kept (t':=s3.toks) λb ob q=>Hq _ q;obtain⟨T,id,hT,ht,hg⟩:=hr pins {s3 with heap:=s3.heap.push {cls:=.type "slice",data:=.fields #[vl,vu,.none]}} σ H3 x v vl vu l u s3.heap.objs.size Q I4 r1 (lH.IsSliceOf.new ..) pl pu q3;show wpAny (ae X.prog X.w) X.A (kh e (.Slice lo hi none p2) v (.ref s3.heap.objs.size)) (EP X pins σ Q) X.xe {s3 with heap:=s3.heap.push {cls:=.type "slice",data:=.fields #[vl,vu,.none]}};exact tail_any (ops:=[.ref s3.heap.objs.size,v]) ht hT hg (by with_unfolding_all rfl)
def ZkZ(xs:List V)(lo hi:Option Int):List V:=(xs.drop (HT.sIx xs.length 0 lo)).take (HT.sIx xs.length xs.length hi-HT.sIx xs.length 0 lo)
theorem Zc6(xs:List V)(lo hi:Option Int):(ZkZ xs lo hi).length<=xs.length:=by
 unfold ZkZ;rw[cD,eW];lia
def Zuq(K:Fg):V->Option Int->Option Int->Hp->VK->Prop:=λx lo hi H Q=>∃a xs,x=.ref a/\SqT K H a xs/\
 ¬(HT.sIx xs.length 0 lo=0/\HT.sIx xs.length xs.length hi=xs.length)/\∀p,H p=none->Q (.ref p) (upd H p (.tup (ZkZ xs lo hi)))
theorem Zom:SlR X (Zuq X.K):=by
 intro pins s σ H x v vl vu lo hi sl Q I rx hs pl pu h;obtain⟨a,xs,rfl,hx,hw,q⟩:=h;cases rx;obtain⟨its,r,ht,hz⟩:=I.tuple hx;have hlen:its.toArray.size=xs.length:=by rw[aE];exact r.length.symm
 refine⟨"tuple",_,dH.lookup,ht.typeIs,?_⟩;refine HT.Zcy ht hs pl pu (by rw[hlen];exact hw) ?_ (by rw[hlen];exact hz)
 rw[hlen];refine⟨.ref s.heap.objs.size,_,I.laid (t':=s.toks) (o:=.tup (ZkZ xs lo hi)) (λb ob q=>Hq _ q) (ac _) ?_,rfl,q _ (I.hok.fresh (ac _))⟩;exact⟨aQ (Zc6 xs lo hi) hz,_,(r.drop (HT.sIx xs.length 0 lo)).take (HT.sIx xs.length xs.length hi-HT.sIx xs.length 0 lo),lx _ _⟩
def Zl4(K:Fg):R2:=λx y H Q=>∃a b xs ys,x=.ref a/\y=.ref b/\SqT K H a xs/\SqT K H b ys/\xs≠[]/\xs.length+ys.length<=sizeLine/\
 (ys=[]->Q (.ref a) H)/\(ys≠[]->∀p,H p=none->Q (.ref p) (upd H p (.tup (xs++ys))))
theorem Zaj.nil_iff(r:Zaj xs us):us=[]↔xs=[]:=by
 cases r with
 |nil=>simp
 |cons _ _=>simp
theorem Zl5:OpR X (dZ .Add) (Zl4 X.K):=by
 intro pins s σ H x y v u Q I rx ry h;obtain⟨a,b,xs,ys,rfl,rfl,ha,hb,hx,hz,q1,q2⟩:=h;cases rx;cases ry;obtain⟨its,r1,p1,_⟩:=I.tuple ha;obtain⟨its2,r2,p2,_⟩:=I.tuple hb;refine HT.Zl0 p1 p2 (λz=>hx (r1.nil_iff.mp z)) (λz=>⟨.ref a,H,I,rfl,q1 (r2.nil_iff.mp z)⟩) (λz=>?_) (by rw[<-r1.length,<-r2.length];exact hz)
 refine⟨.ref s.heap.objs.size,_,I.laid (t':=s.toks) (o:=.tup (xs++ys)) (λb ob q=>Hq _ q) (ac _) ?_,rfl,q2 (λw=>z (r2.nil_iff.mpr w)) _ (I.hok.fresh (ac _))⟩;exact⟨by rw[a8];exact hz,_,r1.append r2,lx _ _⟩
end
noncomputable def ixN(n:Nat)(i:Int):Option Nat:=if 0<=i then(if i<n then some i.toNat else none)else if -(n:Int)<=i then some (i+n).toNat else none
def atI{α:Type}(xs:List α)(i:Int):Option α:=(ixN xs.length i).bind λj=>xs[j]?
theorem Zl6(h:ixN n i=some j):seqIndex? i n=some j/\j<n/\ -(n:Int)<=i/\i<n:=by
 unfold ixN at h;by_cases h0:0<=i
 .rw[if_pos h0]at h;by_cases h1:i<n
  .rw[if_pos h1]at h;have e:i.toNat=j:=a9 h;exact⟨by rw[seqIndex_of h0 h1,e],⋯,⋯,h1⟩
  .rw[if_neg h1]at h;cases h
 .rw[if_neg h0]at h;by_cases h1: -(n:Int)<=i
  .rw[if_pos h1]at h;have e:(i+n).toNat=j:=a9 h;exact⟨by rw[seqIndex_neg ⋯ h1,e],⋯,h1,⋯⟩
  .rw[if_neg h1]at h;cases h
theorem Zhx{xs:List α}{v:α}(h:atI xs i=some v):∃j,seqIndex? i xs.length=some j/\xs[j]?=some v/\j<xs.length/\ -(xs.length:Int)<=i/\i<xs.length:=by
 unfold atI at h;cases e:ixN xs.length i with
 |none=>rw[e]at h;cases h
 |some j=>
  rw[e]at h;obtain⟨h1,h2,h3,h4⟩:=Zl6 e;exact⟨j,h1,h,h2,h3,h4⟩
theorem Zl7{xs:List α}{j:Nat}{v:α}(h:xs[j]?=some v):atI xs (j:Int)=some v:=by
 have hj:j<xs.length:=(au.mp h).1;have e:ixN xs.length (j:Int)=some j:=by
  unfold ixN;rw[if_pos ⋯,if_pos ⋯];simp
 unfold atI;rw[e];exact h
noncomputable def Zhy(b:Expr):Prop:=∀o i,jt b false o i=operate [o,i] (iY o i)
def IxR(X:Cx)(r:R2):Prop:=
 ∀(value slice:Expr)(pins:Pn)(s:az)(σ:St)(H:Hp)(x y:V)(v u:aa)(Q:VK),Inv X pins σ H s->Zah x v->Zah y u->r x y H Q->
  jt slice false v u=operate [v,u] (iY v u)->wpAny (ae X.prog X.w) X.A (kh value slice v u) (EP X pins σ Q) X.xe s
def MtR(X:Cx)(id:String)(r:V->List V->Hp->VK->Prop):Prop:=
 ∀(pins:Pn)(s:az)(σ:St)(H:Hp)(x:V)(xs:List V)(v:aa)(us:List aa)(Q:VK),Inv X pins σ H s->Zah x v->Zaj xs us->r x xs H Q->
  wpAny (ae X.prog X.w) X.A (call (.builtin id) (v::us)) (EP X pins σ Q) X.xe s
section
variable {X:Cx}{a:Expr}
theorem IxR.or(h:IxR X r)(h':IxR X r'):IxR X (λx y H Q=>r x y H Q\/r' x y H Q):=by
 intro value slice pins s σ H x y v u Q I rx ry q hs;rcases q with q|q
 .exact h value slice pins s σ H x y v u Q I rx ry q hs
 .exact h' value slice pins s σ H x y v u Q I rx ry q hs
theorem ZrK(hr:IxR X r)(ha:PE X a ta)(hb:PE X b tb)(hs:Zhy b):PE X (.Subscript a b pos) (tOp r ta tb):=by
 intro pins s σ H Q I h;exact Subscript_ (ZrE ha hb I h λv u s2 x y H2 I2 rx ry q=>hr a b pins s2 σ H2 x y v u Q I2 rx ry q (hs _ _))
def ZtF(K:Fg):R2:=λx y H Q=>∃p xs i v,x=.ref p/\y=.int i/\SqL K H p xs/\atI xs i=some v/\Q v H
def ZtG(K:Fg):R2:=λx y H Q=>∃p xs i v,x=.ref p/\y=.int i/\SqT K H p xs/\atI xs i=some v/\Q v H
theorem Zl8:IxR X (ZtF X.K):=by
 intro value slice pins s σ H x y v u Q I rx ry h hs;obtain⟨p,xs,i,z,rfl,rfl,hq,he,q⟩:=h;cases rx;obtain⟨t,rfl⟩:=ry;obtain⟨its,r,pl,hz⟩:=I.list hq;obtain⟨j,h1,h2,h3,h4,h5⟩:=Zhx he;obtain⟨w,ew,rw'⟩:=r.get h2;have hl:=r.length;have hn:=Zhn;have fin:EP X pins σ Q w s:=⟨z,H,I,rw',q⟩;by_cases h0:0<=i
 .have hj:i.toNat=j:=by
   rw[seqIndex_of h0 h5]at h1;exact a9 h1
  exact item_listR pl.isList h0 ⋯ (by rw[hj];simpa using ew) fin hs
 .have hj:(i+(its.toArray.size:Int)).toNat=j:=by
   rw[seqIndex_neg ⋯ h4]at h1
   rw[aE,<-hl];exact a9 h1
  exact iZ (x:=w) pl.isList.typeIs slot_list_getitem.lookup
   (wpAny_getItem_list_neg (Q:=λr s'=>r=w/\EP X pins σ Q r s') pl.isList ⋯ (by rw[aE]<;>lia) ⋯ (by rw[hj];simpa using ew) ⟨rfl,fin⟩) hs
theorem Zon:IxR X (ZtG X.K):=by
 intro value slice pins s σ H x y v u Q I rx ry h hs;obtain⟨p,xs,i,z,rfl,rfl,hq,he,q⟩:=h;cases rx;obtain⟨t,rfl⟩:=ry;obtain⟨its,r,pl,hz⟩:=I.tuple hq;obtain⟨j,h1,h2,h3,h4,h5⟩:=Zhx he;obtain⟨w,ew,rw'⟩:=r.get h2;have hl:=r.length;have hn:=Zhn;have fin:EP X pins σ Q w s:=⟨z,H,I,rw',q⟩;exact iZ (x:=w) pl.typeIs slot_tuple_getitem.lookup
  (getItem_tuple (j:=j) (Q:=λr s'=>r=w/\EP X pins σ Q r s') pl ⋯ ⋯ (by rw[aE,<-hl];exact h1) (by simpa using ew) ⟨rfl,fin⟩) hs
theorem Inv.lst{pins:Pn}{σ:St}{H:Hp}{s:az}{p:Addr}{xs:List V}(I:Inv X pins σ H s)(h:H p=some (.lst xs)):∃(its:List aa) (n:Nat),Zaj xs its/\s.heap.get? p=some {cls:=.type "list",data:=.seq its.toArray n}/\xs.length<=sizeLine:=by
 obtain⟨z,its,n,r,e⟩:=I.hok p _ h;exact⟨its,n,r,e,z⟩
theorem Zeq(lo hi:Option Int)(n:Nat):(fU lo hi none n).1=((HT.sIx n 0 lo:Nat):Int)/\(fU lo hi none n).2.1=((HT.sIx n n hi:Nat):Int)/\(fU lo hi none n).2.2=1:=by
 refine⟨?_,?_,rfl⟩
 .cases lo with
  |none=>simp[fU,HT.sIx]
  |some i=>
   simp only[fU,HT.sIx,Option.getD_none,show(1:Int)>0 by decide,if_true]
   by_cases h:i<0
   .simp only[h,if_true]<;>lia
   .simp only[h,if_false]<;>lia
 .cases hi with
  |none=>simp[fU,HT.sIx]
  |some i=>
   simp only[fU,HT.sIx,Option.getD_none,show(1:Int)>0 by decide,if_true]
   by_cases h:i<0
   .simp only[h,if_true]<;>lia
   .simp only[h,if_false]<;>lia
theorem ZdT(its:List aa)(lo hi:Option Int):slicePick its.toArray lo hi none=((its.drop (HT.sIx its.length 0 lo)).take (HT.sIx its.length its.length hi-HT.sIx its.length 0 lo)).toArray:=by
 obtain⟨h1,h2,h3⟩:=Zeq lo hi its.toArray.size;unfold slicePick;rw[h1,h2,h3];simp only[sliceRange_one,pick_run,aE]<;>rfl
def Zur(K:Fg):V->Option Int->Option Int->Hp->VK->Prop:=λx lo hi H Q=>∃a xs,x=.ref a/\SqL K H a xs/\∀p,H p=none->Q (.ref p) (upd H p (.lst (ZkZ xs lo hi)))
theorem Zl9:SlR X (Zur X.K):=by
 intro pins s σ H x v vl vu lo hi sl Q I rx hs pl pu h;obtain⟨a,xs,rfl,hx,q⟩:=h;cases rx;obtain⟨its,r,ht,hz⟩:=I.list hx;have hlen:=r.length;refine⟨"list",_,slot_list_getitem.lookup,ht.isList.typeIs,?_⟩;refine wpAny_getItem_list_slice ht.isList hs pl pu .none (by simp) ?_ (by rw[aE]<;>lia)
 rw[ZdT,<-hlen];refine⟨.ref s.heap.objs.size,_,I.laid (t':=s.toks) (o:=.lst (ZkZ xs lo hi)) (λb ob q=>Hq _ q) (ac _) ?_,rfl,q _ (I.hok.fresh (ac _))⟩;exact⟨aQ (Zc6 xs lo hi) hz,_,0,(r.drop (HT.sIx xs.length 0 lo)).take (HT.sIx xs.length xs.length hi-HT.sIx xs.length 0 lo),aS _ rfl⟩
theorem Zk:Zcg X (.builtin "len") (λxs H Q=>∃p ys,xs=[.ref p]/\(SqL X.K H p ys\/SqT X.K H p ys)/\Q (.int ys.length) H):=by
 intro pins s σ H xs us Q I r h;obtain⟨p,ys,rfl,hq,q⟩:=h;obtain⟨u,rfl,rx⟩:=Zdx r;cases rx;have hn:=Zhn;rcases hq with hq|hq
 .obtain⟨its,r',pl,hz⟩:=I.list hq;have hlen:=r'.length;exact Calls.call_len_list pl.isList (by simp only[aE]<;>lia) ⟨.int ys.length,H,I.tok _,⟨s.toks+1,by rw[aE,hlen]⟩,q⟩
 .obtain⟨its,r',pl,hz⟩:=I.tuple hq;have hlen:=r'.length;exact len_tuple pl (by simp only[aE]<;>lia) ⟨.int ys.length,H,I.tok _,⟨s.toks+1,by rw[aE,hlen]⟩,q⟩
theorem ZG:Zcg X (.type "tuple") (λxs H Q=>∃p ys,xs=[.ref p]/\((SqL X.K H p ys/\∀l,H l=none->Q (.ref l) (upd H l (.tup ys)))\/(SqT X.K H p ys/\Q (.ref p) H))):=by
 intro pins s σ H xs us Q I r h;obtain⟨p,ys,rfl,h⟩:=h;obtain⟨u,rfl,rx⟩:=Zdx r;cases rx;rcases h with⟨hq,q⟩|⟨hq,q⟩
 .obtain⟨its,r',pl,hz⟩:=I.list hq;have hlen:=r'.length;refine call_tuple_list pl.isList (λh' kp=>?_) (by simp only[aE]<;>lia)
  have I1:Inv X pins σ H {s with heap:=h'}:=I.kept (t':=s.toks) kp;have I2:Inv X pins σ (upd H h'.objs.size (.tup ys)) {s with heap:=h'.push {cls:=.type "tuple",data:=.seq its.toArray}}:=
   I1.laid (t':=s.toks) (λb o e=>Hq _ e) (ac _) (show ZaN X.prog X.w _ _ _ (.tup ys)from⟨hz,its,r',lx _ _⟩)
  exact⟨.ref h'.objs.size,_,I2,rfl,q _ (I1.hok.fresh (ac _))⟩
 .obtain⟨its,r',pl,hz⟩:=I.tuple hq;exact call_tuple_same pl ⟨.ref p,H,I,rfl,q⟩
def tyV(K:Fg)(T:String)(x:V)(H:Hp):Prop:=match x with
 |.str _=>T="str"
 |.int _=>T="int"
 |.ref p=>(T="list"/\∃xs,SqL K H p xs)\/(T="tuple"/\∃o,K.lookup p=some o/\o.cls=.type "tuple"/\o.dict=none)\/
   (T="dict"/\((∃kvs,H p=some (.dK kvs))\/∃kvs,H p=some (.dT kvs)))\/(T="set"/\∃S n,H p=some (.set S n))
 |_=>False
theorem Zoo(I:Inv X pins σ H s)(r:Zah x v)(ty:tyV X.K T x H):s.TypeIs v T/\∀a,v=.ref a->∃ob,s.heap.get? a=some ob/\ob.dict=none:=by
 cases x with
 |str z=>
  obtain⟨t,rfl⟩:=r;cases(show T="str" from ty);exact⟨typeIs_str s z t,λ_ e=>nomatch e⟩
 |int i=>
  obtain⟨t,rfl⟩:=r;cases(show T="int" from ty);exact⟨kE s i t,λ_ e=>nomatch e⟩
 |ref p=>
  cases r;rcases ty with⟨rfl,xs,hq⟩|⟨rfl,o,hk,hc,hd⟩|⟨rfl,hk⟩|⟨rfl,S,n,hk⟩
  .obtain⟨its,_,pl,_⟩:=I.list hq;refine⟨pl.isList.typeIs,λa e=>?_⟩;cases e;obtain⟨o,n,e,c,hd,_⟩:=pl;exact⟨o,e,hd⟩
  .refine⟨⟨o,I.kIn p o hk,hc⟩,λa e=>?_⟩;cases e;exact⟨o,I.kIn _ o hk,hd⟩
  .have z:∃o,s.heap.get? p=some o/\o.ExactDict:=by
    rcases hk with⟨kvs,hk⟩|⟨kvs,hk⟩
    .obtain⟨_,_,_,_,o,_,_,e,ex,_⟩:=I.hok p _ hk;exact⟨o,e,ex⟩
    .obtain⟨_,_,_,_,o,_,_,e,ex,_⟩:=I.hok p _ hk;exact⟨o,e,ex⟩
   obtain⟨o,e,ex⟩:=z;refine⟨⟨o,e,ex.1⟩,λa e2=>?_⟩;cases e2;exact⟨o,e,ex.2.1⟩
  .obtain⟨o,_,_,_,e,ex,_⟩:=I.hok p _ hk;refine⟨⟨o,e,ex.1⟩,λa e2=>?_⟩;cases e2;exact⟨o,e,ex.2.1⟩
 |_=>exact cF ty
def tBM(K:Fg)(T:String)(r:V->List V->Hp->VK->Prop)(to:TE)(t:TA):TE:=λσ H Q=>to σ H λx H1=>tyV K T x H1/\t σ H1 λxs H2=>r x xs H2 Q
variable {cpos:Pos}{id:String}
theorem ZrL(pa:PlainAttrs T)(slot:Slot T name id)(hty:typeOf (.builtin id)=pure (.type "method_descriptor"))(hm:MtR X id r)(ho:PE X o to)(ha:PA X (e::es) t)(hbase:autoParam (gH o name X.env (eval o X.env)=eval o X.env) Qrf._auto_1)
  (hfew:((b8 cpos (af (e::es) X.env)).all (λx=> !x.1)&&(ju cpos (gK [] X.env)).all (λx=>x.1.isSome) && decide ((e::es).length+([]:List gZ).length+(if([]:List gZ).isEmpty then 0 else 1)<30))=true:=by rfl)
  (hline:(apos.endLine==cpos.line)=true:=by rfl) (hs:af (e::es) X.env=(false,eval e X.env)::af es X.env:=by rfl) (hplain:(b8 cpos (af es X.env)).any (·.1)=false:=by rfl):
  PE X (.Call (.Attribute o name apos) (e::es) [] cpos) (tBM X.K T r to t):=by
 intro pins s σ H Q I h;refine wpAny_Call_method_late hbase hfew hline rfl (thn (ho pins s σ H _ I h) λv s1 hz=>?_);obtain⟨x,H1,I1,r1,ty,q1⟩:=hz;obtain⟨h1,h2⟩:=Zoo I1 r1 ty;refine⟨T,id,pa,slot,hty,h1,h2,?_⟩;have hA:=ha cpos pins s1 σ H1 _ I1 q1;rw[hs]at hA ⊢;refine Calls.callWith_builtin (by show(false||(b8 cpos (af es X.env)).any (·.1))=false;rw[hplain]<;>rfl) (Calls.evalArgs_plain ?_)
 exact thn hA λus s2 ⟨vs,H2,I2,r2,q2⟩=>hm pins s2 σ H2 x vs v us Q I2 r1 r2 q2
end
def MtM(X:Cx)(id:String)(r:V->List V->Hp->VK->Prop):Prop:=
 ∀(pins:Pn)(s:az)(σ:St)(H:Hp)(x:V)(xs:List V)(v:aa)(us:List aa)(Q:VK),Inv X pins σ H s->Zah x v->Zaj xs us->r x xs H Q->
  wpAny (ae X.prog X.w) X.A (call (.builtin id) (v::us)) (EP X pins σ Q) X.xe s
theorem Zaj.one:∀{x:V}{us:List aa},Zaj [x] us->∃u,us=[u]/\Zah x u:=by
 intro _ _ h;cases h with|cons r t=>cases t;exact⟨_,rfl,r⟩
theorem Inv.lset{its:List aa}(I:Inv X pins σ H s)(hH:H l=some (.lst xs))(e:s.heap.get? l=some {cls:=.type "list",data:=.seq its.toArray n})(hf:f its.toArray=its'.toArray)(hv:Zaj ys its')(hz:ys.length<=sizeLine):Inv X pins σ (upd H l (.lst ys)) {s with heap:=s.heap.update l (b9 f),toks:=t'}:=by
 have q:=PySem.IsL.update e f;rw[hf]at q;refine I.write (x:=l) (e:=l) (by rw[hH];exact trivial) (.inl rfl) (λb' u hb hu=>(av s.heap (b9 f) (bD hb)).trans hu) ⟨_,q⟩ ?_
 exact⟨hz,its',_,hv,q⟩
theorem Inv.lnew(I:Inv X pins σ H s)(hv:Zaj ys its)(hz:ys.length<=sizeLine):Inv X pins σ (upd H s.heap.objs.size (.lst ys)) {s with heap:=s.heap.push {cls:=.type "list",data:=.seq its.toArray},toks:=t'}:=
 I.laid (λ_ _ q=>Hq _ q) (ac _) ⟨hz,its,0,hv,aS _ rfl⟩
theorem Inv.fresh(I:Inv X pins σ H s):H s.heap.objs.size=none:=I.hok.fresh (ac _)
theorem Inv.lstM(I:Inv X pins σ H s)(hH:H l=some (.lst xs)):xs.length<=sizeLine/\∃(its:List aa) (n:Nat),Zaj xs its/\xs.length=its.length/\s.heap.get? l=some {cls:=.type "list",data:=.seq its.toArray n}:=by
 obtain⟨z,its,n,r,e⟩:=I.hok l _ hH;exact⟨z,its,n,r,r.length,e⟩
theorem ZjJ(h:n<=sizeLine):fC n=false:=by
 unfold fC;exact decide_eq_false ⋯
def rAppend:V->List V->Hp->VK->Prop:=λx vs H Q=>∃l xs y,x=.ref l/\vs=[y]/\H l=some (.lst xs)/\xs.length<sizeLine/\Q .non (upd H l (.lst (xs++[y])))
theorem Zer:MtM X "list.append" rAppend:=by
 intro pins s σ H x vs v us Q I rx rv h;obtain⟨l,xs,y,rfl,rfl,hH,hz,q⟩:=h;cases rx;obtain⟨u,rfl,ru⟩:=rv.one;obtain⟨z,its,n,r,hl,e⟩:=I.lstM hH;refine call_meets F.slot_list_append ⟨_,e,rfl⟩ F.entry_list_append (F.args_list_append_2 _ _) (PySem.list_append l its.toArray n u (by rw[aE];lia)) ⟨e,?_⟩
 refine⟨.non,_,I.lset (its':=its++[u]) hH e (by simp) (r.append (.cons ru .nil)) ?_,rfl,q⟩
 rw[a8,jh];lia
def rExtend:V->List V->Hp->VK->Prop:=λx vs H Q=>∃l b xs zs,x=.ref l/\vs=[.ref b]/\H l=some (.lst xs)/\H b=some (.lst zs)/\xs.length+zs.length<=sizeLine/\Q .non (upd H l (.lst (xs++zs)))
theorem Zop:MtM X "list.extend" rExtend:=by
 intro pins s σ H x vs v us Q I rx rv h;obtain⟨l,b,xs,zs,rfl,rfl,hH,hB,hz,q⟩:=h;cases rx;obtain⟨u,rfl,ru⟩:=rv.one;cases ru;obtain⟨z,its,n,r,hl,e⟩:=I.lstM hH;obtain⟨z2,its2,n2,r2,hl2,e2⟩:=I.lstM hB;have hsz:its.toArray.size+its2.toArray.size<=sizeLine:=by rw[aE,aE];lia
 have hlong:¬(!its.toArray.isEmpty&&fC (its.toArray.size+its2.toArray.size))=true:=by
  rw[ZjJ hsz,Bool.and_false];exact dg
 refine call_meets F.slot_list_extend ⟨_,e,rfl⟩ F.entry_list_extend (F.args_list_extend_2 _ _)
  (AutoSeq1.list_extend_list_list_0 l its.toArray n b its2.toArray n2 hlong (by rw[aE];lia) ⋯) ⟨e,e2,?_⟩
 refine⟨.non,_,I.lset (its':=its++its2) hH e (by simp) (r.append r2) ?_,rfl,q⟩
 rw[a8];lia
def rCat:R2:=λx y H Q=>∃l b xs zs,x=.ref l/\y=.ref b/\H l=some (.lst xs)/\H b=some (.lst zs)/\xs.length+zs.length<=sizeLine/\∀p,H p=none->Q (.ref p) (upd H p (.lst (xs++zs)))
theorem Zoq:OpR X (dZ .Add) rCat:=by
 intro pins s σ H x y v u Q I rx ry h;obtain⟨l,b,xs,zs,rfl,rfl,hH,hB,hz,q⟩:=h;cases rx;cases ry;obtain⟨z,its,n,r,hl,e⟩:=I.lstM hH;obtain⟨z2,its2,n2,r2,hl2,e2⟩:=I.lstM hB;refine PySem.P.add_list e e2 ?_ (by rw[aE,aE];lia)
 have ea:its.toArray++its2.toArray=(its++its2).toArray:=by simp
 rw[ea];exact⟨.ref _,_,I.lnew (t':=s.toks) (r.append r2) (by rw[a8];lia),rfl,q _ I.fresh⟩
end L2
namespace Att
open PySem.W PySem.Calls PyProof.Rows
theorem Zc7:∀(ns:List Int)(vs:List aa),WellAll P h vs (ns.map WData.int)->f9 vs ns:=by
 intro ns
 induction ns with
 |nil=>
  intro vs w;rw[ge]at w;cases w;exact .nil
 |cons n ns ih=>
  intro vs w;rw[aN]at w;cases w with
  |cons a b=>
   cases a;exact .cons _ _ (ih _ b)
theorem Zhz{l:OpenLaw}(hn:l.most=some n)(hpre:l.row.toRowW.claim.pre args=true)(hwl:WellAll P h vals args):∃a vs ns,vals=[aA a]/\args=[WData.list (ns.map WData.int)]/\h.get? a=some {cls:=.type "list",data:=.seq vs.toArray}/\f9 vs ns/\ns.length<=n:=by
 have hsh:WShape.hasAll [] args [.list .int]=true:=(pre_splitW hpre).1;have hc:l.pre.holds [] {args:=args}=true:=(pre_splitW hpre).2;obtain⟨d,r,rfl,h1,h2⟩:=hasAllW_cons hsh;obtain rfl:=hasAllW_nil h2;obtain⟨xs,rfl,h3⟩:=hasW_list h1;obtain⟨ns,rfl⟩:=items_int h3;have hlen:ns.length<=n:=by
  unfold OpenLaw.pre at hc;have h4:(WTm.not (.lt (.lit (.int (n:Int))) (.len (.arg 0)))).holds [] {args:=[.list (ns.map .int)]}=true:=by
   have h4:=(holds_andW hc).1;rw[hn]at h4;exact h4
  have h5:=condW_of h4 (w_not (w_lt w_lit (w_len_list (w_arg rfl))));rw[aC]at h5;refine Nat.le_of_not_lt λq=>?_;have q':(n:Int)<((ns.length:Nat):Int):=⋯
  first
   | (rw[decide_eq_true q']at h5;exact absurd h5 (by decide))
   | (simp at h5;lia)
 cases hwl with
 |cons w1 w2=>
  cases w2;cases w1 with
  |list ho hall=>exact⟨_,_,ns,rfl,rfl,ho,Zc7 ns _ hall,hlen⟩
theorem ZhA(l:OpenLaw)(args:List WData):l.row.toRowW.claim.post args (.bool true) args=true:=
 postW_of (r:=l.row.toRowW) (X:=(true==true))
  (show WShape.has [] (.bool true) .bool=true by first|rfl|decide|simp[WShape.has,WShape.arms,WShape.armsAll])
  (show(WTm.eq .res (.lit (.bool true))).value [] {args:=args,res:=some (.bool true),after:=args}=some (.bool (true==true))from w_eq_bool (w_res rfl) w_lit) rfl
theorem Ze9{l:OpenLaw}(hn:l.most=some n)(hdf:d.params.defaults=[])(call:∀(w:cu)(s₀ s₁:az)(mg mb:Str->Option aa)(fa:Addr)(o:Obj)(pm cd doc:aa)(a:Addr)(vs:List aa)(ns:List Int),Ground q loose [] XP w s₀ mg mb s₁.heap->YP w s₁.heap->s₁.heap.get? fa=some o->o.data=.func (docDef d.name d.params d.body d.scope pm cd doc)->s₁.heap.CodeRec cd d.name->mg d.name=some (.ref fa)->s₁.heap.get? a=some {cls:=.type "list",data:=.seq vs.toArray}->f9 vs ns->ns.length<=n->s₁.gens= #[]->gY (ae l.prog w) jP (.call (.ref fa) ⟨[.ref a],[]⟩) (λr s'=>r=.ok (.ret (.bool true))/\OldK s₁.heap s'.heap/\s'.os=s₁.os/\fG s'.gens) s₁):WalkO q loose XP YP l.row.toRowW d [] (λf vs=>PySem.call f vs):=by
 intro w s₀ s₁ mg mb G Y fa o pm cd doc dV kV ho hd hcd hD hmg hg args vals as hpre hlay hrd hwl hlo;obtain rfl:dV=.none:=Dflts.none hD hdf;obtain rfl:kV=.none:=Dflts.noKw hD;obtain⟨a,vs,ns,rfl,rfl,hobj,hints,hlen⟩:=Zhz hn hpre hwl;refine enter_call (iX (call w s₀ s₁ mg mb fa o pm cd doc a vs ns G Y ho (fd_plain hd) hcd hmg hobj hints hlen hg) λr s' hq=>?_);obtain⟨rfl,h2,h3,h4⟩:=hq;exact⟨.inl ⟨.bool true,.bool true,[],rfl,λ_=>rfl,.bool true,ZhA l _,λ_=>⟨kj.nil,λ_ hm=>(nomatch hm)⟩⟩,h2,h3,h4⟩
end Att
namespace L2
open PyProof.Rows
theorem Zes:∀{vs:List aa}{ns:List Int},f9 vs ns->Zaj (ns.map V.int) vs
 |_,_,.nil=>.nil
 |_,_,.cons n t h=>.cons ⟨t,rfl⟩ (Zes h)
noncomputable def Zbo(s:Stmt):Arguments:=match s with
 |.FunctionDef _ a _ _ _ _ _ _ _ _=>a
 |_=>{posonlyargs:=[],args:=[],vararg:=none,kwonlyargs:=[],kw_defaults:=[],kwarg:=none,defaults:=[]}
noncomputable def ZaD(s:Stmt):List Stmt:=match s with
 |.FunctionDef _ _ b _ _ _ _ _ _ _=>b
 |_=>[]
noncomputable def Zx(s:Stmt):kg:=match s with
 |.FunctionDef _ _ _ _ _ _ sc _ _ _=>sc
 |_=>{kind:=.function,names:=[],isGenerator:=false,isCoroutine:=false}
noncomputable abbrev CX0:CXT:=λ_ _ _ _ _ _=>False
noncomputable abbrev E0:XK:=λ_ _ _=>False
structure Fun(K:Fg) (x qual:Str) (st:Stmt) (f:Addr) (fd:f8):Prop where
 ex:∃(oc:aa) (od:Option Addr) (kV doc pm:aa) (an:Option Addr) (cdv ct:aa) (osl:Array (Option aa)),
  fd=PySem.W.fnOf x qual (Zbo st) (ZaD st) (Zx st) .none kV doc pm an cdv ct/\K.lookup f=some ⟨oc,od,.func fd,osl⟩/\PySem.W.codeIn K cdv qual=true
 kp:PySem.W.keepIn K (.ref f)=true
section
variable {K:Fg}
theorem Fun.ok{st:Stmt}(F:Fun K x qual st f fd)(S:FnScope N ps (Zx st))(len:∀vs H Q E,sp vs H Q E->vs.length=ps.length)(hbody:∀(cdv:aa)(A:cb)(outer:List Env)(s:az)(H:Hp)(vs:List V)(Q:VK)(E:XK),Room k (A.deeper (iL qual (Zx st) s.heap.objs.size f cdv))->sp vs H Q E->∃t,PSs (Zg3 CX0 P w K mg base N qual (Zx st) f cdv A outer s H E).nox (ZaD st) t/\t {nx:=λ_ H'=>Q .non H',rt:=Q} (start N vs) H):FnOk P w K mg base CX0 (k+1) f fd ps sp:=by
 obtain⟨oc,od,kV,doc,pm,an,cdv,ct,osl,rfl,lk,hcd⟩:=F.ex;refine ZlZ lk hcd S len λA outer s H vs Q E hr hsp=>?_;obtain⟨t,h,q⟩:=hbody cdv A outer s H vs Q E hr hsp;exact⟨t,h.nox,q⟩
theorem Fun.binds{st:Stmt}(F:Fun K x qual st f fd)(h:∀(kV doc pm:aa)(an:Option Addr)(cdv ct:aa)(us:List aa),us.length=ps.length->bindArgs (PySem.W.fnOf x qual (Zbo st) (ZaD st) (Zx st) .none kV doc pm an cdv ct) ⟨us,[]⟩=pure (ps.zip us)):ZdS K fd ps []:=by
 obtain⟨oc,od,kV,doc,pm,an,cdv,ct,osl,rfl,lk,hcd⟩:=F.ex;exact .all (h kV doc pm an cdv ct)
theorem Zk0{st:Stmt}{kV:aa}(l:K.lookup f=some ⟨oc,od,.func (PySem.W.fnOf x qual (Zbo st) (ZaD st) (Zx st) .none kV doc pm an cdv ct),osl⟩)(c:PySem.W.codeIn K cdv qual=true)(k:PySem.W.keepIn K (.ref f)=true):Fun K x qual st f (PySem.W.fnOf x qual (Zbo st) (ZaD st) (Zx st) .none kV doc pm an cdv ct):=⟨⟨oc,od,kV,doc,pm,an,cdv,ct,osl,rfl,l,c⟩,k⟩
end
theorem ZhB(h:n<=1000):n<sizeLine:=im h (by decide)
theorem pv(i:Nat)(hN:autoParam (X.N[i]?=some x) Qrf._auto_1)(hv:Vis X.env.scope x:=by first|exact bZ rfl|exact i3 (bZ rfl)|exact i3 (i3 rfl))(hd:autoParam ((x==("__debug__":Str))=false) Qde._auto_1)(hcd:autoParam ((x==("__classdict__":Str))=false) Qde._auto_1):PE X (.Name x pos) (ZtA i):=Zcf hN hv hd hcd
theorem ZjK{A:Prop}(h:B):if false=true then A else B:=by
 rw[if_neg dg];exact h
theorem ZjL{A:Prop}(h:A):if true=true then A else B:=by
 rw[if_pos rfl];exact h
end L2
namespace DL
open PyProof.Rows L2
structure Rw where
 n:String
 i:Nat
 f:Nat
 m:String
 t:Nat
 u:Nat
 ln:Nat
 na:Nat
 b:Bool
 v:Nat
noncomputable def zz1(P:jv)(s:String)(n:Nat)(v:aa):lA:={hash:=ca.keyHash P (aB s),key:=jN (aB s) n,val:=v}
noncomputable def zz3(s:String)(n:Nat):aa:=jN (aB s) n
noncomputable def zz4(n:Int):aa:=gB n 0
noncomputable def zz6(b:Bool)(n:Nat):aa:=if b then .ref n else .none
def Rw.fo(p:Nat->Stmt)(r:Rw):Obj:=⟨.type "function",none,.func (PySem.W.fnOf r.n r.n (Zbo (p r.i)) (ZaD (p r.i)) (Zx (p r.i)) .none .none .none (.str r.m r.t) none (.ref (r.f-1)) .none),#[]⟩
def Rw.co(r:Rw):Obj:={cls:=aT "code",data:=js #[zz3 r.n r.u,zz3 r.n (r.u+1),zz3 "/claim/cut.py" (r.u+2),zz4 r.ln,zz4 r.na,zz4 0,zz4 0,zz4 3,.ref (r.f-(if r.b then 6 else 4)),.bool true,zz4 181,.ref (r.f-(if r.b then 5 else 3)),.none,zz6 r.b (r.f-4),zz6 r.b (r.f-3),.ref (r.f-2),zz4 r.v,zz4 r.ln,zz3 "/claim/cut.py" (r.v+1)]}
def Rw.de(P:jv)(r:Rw):lA:=zz1 P r.n (r.v+2) (.ref r.f)
def Rw.en(p:Nat->Stmt)(r:Rw):Fg:=[(r.f,r.fo p),(r.f-1,r.co)]
structure Cw where
 n:String
 f:Nat
 t:Nat
 ln:Nat
def Cw.cls(r:Cw):Obj:={cls:=aT "type",data:=Data.cls {name:=aB r.n,bases:=[aA 24],mro:=[aA r.f,aA 24,aT "ValueError",aT "Exception",aT "BaseException",aT "object"],ns:=r.f-1,qualname:=aB r.n},slots:= #[some (aA (r.f-9)),none,some (zz3 r.n r.t),some (zz3 r.n (r.t+8)),some (gG "ValueError.__new__"),some (ig true)]}
def Cw.ns(P:jv)(r:Cw):Obj:={cls:=aT "dict",data:=hV #[zz1 P "__module__" (r.t+7) (zz3 "rayround.errors" 187),zz1 P "__firstlineno__" (r.t+11) (gB r.ln (r.t+10)),zz1 P "__static_attributes__" (r.t+12) (aA (r.f-2)),zz1 P "__doc__" (r.t+13) bK] 2}
def Cw.de(P:jv)(r:Cw):lA:=zz1 P r.n (r.t+15) (.ref r.f)
def Cw.en(P:jv)(r:Cw):Fg:=[(r.f,r.cls),(r.f-1,r.ns P)]
noncomputable def ZjM(s:Stmt)(i:Nat):Stmt:=match s with
 |.ClassDef _ _ _ b _ _ _ _ _ _ _=>b.getD i s
 |_=>s
end DL
namespace HD
open PySem.W PyProof.Rows
noncomputable def Zre(thr:io->Bool)(stp:dJ->io->Option (dJ×io))(n:Nat):dJ->io->Option dJ:=
 Nat.rec (motive:=λ_=>dJ->io->Option dJ) (λ_ _=>none) (λ_ ih s t=>Bool.rec (motive:=λ_=>Option dJ) (Option.rec (motive:=λ_=>Option dJ) none (λr=>ih r.1 r.2) (stp s t)) (some s) (thr t)) n
noncomputable def ZjN(ok:io->Bool)(stp:dJ->io->Option (dJ×io))(s:dJ)(t:io):Option (dJ×io):=Bool.rec (motive:=λ_=>Option (dJ×io)) none (stp s t) (ok t)
section
variable {tb:String->Option dI}{p:bO}{w:cu}{n₀:Nat}{ann:Option aa}
theorem Zk1:∀{n:Nat}{s s':dJ}{t:io},Zre kP (ZjN (jw n₀ ann) (kR (i4 tb) p w)) n s t=some s'->topRun tb p w n₀ ann n s.abs t=some s'.abs
 |0,s,s',t,h=>by cases h
 |n+1,s,s',t,h=>by
  unfold topRun
  change Bool.rec (motive:=λ_=>Option dJ) (Option.rec (motive:=λ_=>Option dJ) none (λr=>Zre kP (ZjN (jw n₀ ann) (kR (i4 tb) p w)) n r.1 r.2) (ZjN (jw n₀ ann) (kR (i4 tb) p w) s t)) (some s) (kP t)=some s' at h
  cases ht:kP t with
  |true=>
   rw[ht]at h;have h':some s=some s':=h;cases h';rfl
  |false=>
   rw[ht]at h;cases hk:jw n₀ ann t with
   |false=>
    have e:ZjN (jw n₀ ann) (kR (i4 tb) p w) s t=none:=by unfold ZjN;rw[hk]
    rw[e]at h;cases h
   |true=>
    have e:ZjN (jw n₀ ann) (kR (i4 tb) p w) s t=kR (i4 tb) p w s t:=by unfold ZjN;rw[hk]
    rw[e]at h;cases hs:kR (i4 tb) p w s t with
    |none=>rw[hs]at h;cases h
    |some r=>
     obtain⟨s2,t2⟩:=r;rw[hs]at h
     have:=stepT_spec hs
     rw[this];exact Zk1 (n:=n) h
end
noncomputable def T0(w:cu)(os:kS):dJ:=
 ⟨[boot_o_0,boot_o_1,boot_o_2,boot_o_3,boot_o_4,boot_o_5,boot_o_6,boot_o_7,boot_o_8,boot_o_9,boot_o_10].foldl (λ(r:Nat×BT) o=>(r.1+1,r.2.ins r.1 (o w.params))) (0,.nil) |>.2,11,(dw w.params).life,#[],kF,lB,os⟩
theorem Zor(w:cu)(os:kS):(T0 w os).abs=⟨dw w.params,#[],kF,lB,os⟩:=by kernel_rfl
theorem Zma:aB "__annotations__"=⟨#[95,95,97,110,110,111,116,97,116,105,111,110,115,95,95]⟩:=by decide +kernel
theorem ZhC{Yf:az->α}{Ya:cu->α}(e:opening p=plainProg p.main.scope.names)(hN:Nat.ble 600 N=true)(f:∀s,fenceModules? p s=some s)(le:Nat.ble M N=true)(ZrM:∀(w:cu)(os:kS),(Zre kP (ZjN (jw 11 (some (.ref 6))) (kR (i4 jQ) p w)) M (T0 w os) (topStub p)).map (λs=>((staticsOk (d6 p.main.body) (dw w.params) s.abs.heap&&namesBound p s.abs.heap&&gensDone s.abs&&laidKept (dw w.params) s.abs.heap),openSeen q loose (d6 p.main.body) Xt true s.abs,Yf s.abs))=some (true,openGood q loose,Ya w)):LeftO p q loose Xt Yf Ya N:=λw=>by
 obtain⟨⟨h,gs,d,k,os⟩,e1,e2⟩:=ar.mp (boot_open e hN f w);obtain⟨rfl,rfl,rfl,rfl⟩:h=dw w.params/\gs=Array.mk []/\d=kF/\k=lB:=by simpa using e2
 obtain⟨s',r1,r2⟩:=ar.mp (ZrM w os);obtain⟨l1,l2,l3⟩:_/\_/\_:=by simpa only[ke]using r2
 have r:=Zk1 r1;rw[Zor]at r;have r:=topRun_mono (N-M) _ _ _ _ r;rw[show M+(N-M)=N by have:=jo le;lia]at r
 have z1:((dw w.params).isNs aG&&(Array.mk []:Array GenState).size==0)=true:=by kernel_rfl
 have z2:(dw w.params).objs.size=11:=rfl;have z3:(dw w.params).nsMap aG "__annotations__"=some (.ref 6):=by
  rw[Zma]
  kernel_rfl
 have t:topFrom jQ p w N ⟨dw w.params,Array.mk [],kF,lB,os⟩=some s'.abs:=by
  unfold topFrom;dsimp only;rw[z1,z2,z3,r];show(match staticsOk (d6 p.main.body) (dw w.params) s'.abs.heap&&namesBound p s'.abs.heap&&gensDone s'.abs&&laidKept (dw w.params) s'.abs.heap with|true=>_|false=>_)=_
  rw[l1]
 unfold openEnds;rw[e1];show(topFrom jQ p w N _).map _=_;rw[t];exact congrArg some (eO l2 l3)
end HD
namespace HD
open PySem.W
theorem ZrN:@jw=@PySem.W.Fast.tw6613529449190102663:=PySem.W.Fast.te6613529449190102663
theorem Zmb:@kR=@PySem.W.Fast.tw10156331382660048174:=PySem.W.Fast.te10156331382660048174
theorem Zos:@i4=@PySem.W.Fast.tw11892475500146522536:=PySem.W.Fast.te11892475500146522536
theorem Zot:@jQ=@PySem.W.Fast.tw14364793385576792824:=PySem.W.Fast.te14364793385576792824
theorem Zmc:@openSeen=@PySem.W.Fast.tw4187177175401517315:=PySem.W.Fast.te4187177175401517315
theorem Zou:@d6=@PySem.W.Fast.tw5923862056798008813:=PySem.W.Fast.te5923862056798008813
end HD
namespace K71
open L2 DL
noncomputable def top(i:Nat):Stmt:=PySem.Challenge.pw_rayround_k71_papers_of_any_thing.main.body.getD i (.Pass ⟨0,0,0,0⟩)
def dS(i:Nat):List (Str×cR):=(Zx (top i)).names
noncomputable abbrev rw0(n:String)(i f u ln na:Nat)(b:Bool)(v:Nat):Rw:=⟨n,i,f,"rayround.wholes",314,u,ln,na,b,v⟩
noncomputable abbrev rw1(n:String)(i f u ln na:Nat)(b:Bool)(v:Nat):Rw:=⟨n,i,f,"rayround.pairs",333,u,ln,na,b,v⟩
noncomputable abbrev rw2(n:String)(i f u ln na:Nat)(b:Bool)(v:Nat):Rw:=⟨n,i,f,"rayround.rounds",401,u,ln,na,b,v⟩
noncomputable abbrev rw3(n:String)(i f u ln na:Nat)(b:Bool)(v:Nat):Rw:=⟨n,i,f,"rayround.numbers",449,u,ln,na,b,v⟩
noncomputable abbrev rw4(n:String)(i f u ln na:Nat)(b:Bool)(v:Nat):Rw:=⟨n,i,f,"rayround.ratios",457,u,ln,na,b,v⟩
noncomputable abbrev rw5(n:String)(i f u ln na:Nat)(b:Bool)(v:Nat):Rw:=⟨n,i,f,"rayround.heights",499,u,ln,na,b,v⟩
noncomputable abbrev rw6(n:String)(i f u ln na:Nat)(b:Bool)(v:Nat):Rw:=⟨n,i,f,"rayround.walks",522,u,ln,na,b,v⟩
noncomputable abbrev rw7(n:String)(i f u ln na:Nat)(b:Bool)(v:Nat):Rw:=⟨n,i,f,"rayround.papers",541,u,ln,na,b,v⟩
noncomputable abbrev rw8(n:String)(i f u ln na:Nat)(b:Bool)(v:Nat):Rw:=⟨n,i,f,"law_rayround_k71_papers_of_any_thing",612,u,ln,na,b,v⟩
def tab:List Rw:=[rw0 "is_whole" 9 113 316 21 1 true 320,rw0 "greatest_divisor" 10 120 323 23 2 true 330,rw1 "is_pair" 12 127 335 29 1 true 339,rw1 "crossed" 13 134 342 31 2 true 347,rw1 "product" 14 141 350 33 2 true 355,rw1 "common" 15 148 358 35 1 true 362,rw1 "is_ray" 16 155 365 37 1 true 369,rw1 "spanned" 17 162 372 39 2 true 377,rw1 "is_turning" 18 169 380 41 1 true 384,rw1 "turned" 19 176 387 45 2 true 398,rw2 "following" 21 183 403 50 2 true 408,rw2 "met_direction" 22 190 411 52 2 true 416,rw2 "look_round" 23 195 419 54 1 false 422,rw2 "is_round" 24 202 425 65 1 true 429,rw2 "unspanned" 25 209 432 71 1 true 438,rw2 "ask_smooth" 26 216 441 76 1 true 446,rw3 "numbers" 28 221 451 81 1 false 454,rw4 "ratio" 30 228 459 85 2 true 465,rw4 "plus" 31 235 468 94 2 true 473,rw4 "times" 32 242 476 96 2 true 481,rw4 "less" 33 249 484 98 2 true 489,rw4 "is_ratio" 34 256 492 100 1 true 496,rw5 "ask_height" 36 263 501 105 2 true 506,rw5 "bends" 37 270 509 108 2 true 519,rw6 "ask_place" 39 277 524 117 2 true 529,rw6 "taken_out" 40 284 532 120 2 true 538,rw7 "is_smooth" 42 291 543 127 1 true 547,rw7 "is_height" 43 296 550 129 2 false 553,rw7 "walk_stands" 44 303 556 131 3 true 564,rw7 "turning_stands" 45 308 567 143 3 false 570,rw7 "show_stands" 46 313 573 147 3 false 576,rw7 "wedge_stands" 47 318 579 149 4 false 582,rw7 "crosses_below" 48 323 585 160 2 false 588,rw7 "parting_stands" 49 328 591 172 4 false 594,rw7 "none_stands" 50 333 597 181 3 false 600,rw7 "stands" 51 340 603 194 1 true 609,rw8 "_law_cell_at" 53 347 614 210 2 true 621,rw8 "_law_cross" 54 354 624 218 2 true 629,rw8 "_law_whole" 55 361 632 220 1 true 636,rw8 "_law_is_pair" 56 368 639 222 1 true 643,rw8 "_law_common" 57 375 646 224 2 true 651,rw8 "_law_is_round" 58 382 654 230 2 true 665,rw8 "_law_thing" 59 389 668 246 2 true 677,rw8 "_law_part" 60 396 680 261 1 true 686,rw8 "_law_drawn" 61 403 689 269 1 true 697,rw8 "_law_may_stand" 62 410 700 283 1 true 705,rw8 "_law_copy" 63 415 708 292 1 false 711,rw8 "law" 64 422 714 298 1 true 722]
noncomputable def Zov(p:bO)(i:Nat):Stmt:=p.main.body.getD i (.Pass ⟨0,0,0,0⟩)
noncomputable def Zrf:List Cw:=[⟨"NoRatio",37,207,4⟩,⟨"NotSmooth",68,250,12⟩,⟨"NoPlace",80,266,14⟩,⟨"NoMinus",92,282,16⟩,⟨"NoHeight",104,298,18⟩]
def Kf(p:bO)(P:jv):Fg:=(3,{cls:=aT "dict",data:=hV ([zz1 P "__name__" 165 (zz3 "law_rayround_k71_papers_of_any_thing" 612),zz1 P "__doc__" 166 (bK),zz1 P "__package__" 167 (bK),zz1 P "__loader__" 168 (gG "__main__.__loader__#opaque"),zz1 P "__spec__" 169 (bK),zz1 P "__annotations__" 170 (aA 6),zz1 P "__builtins__" 171 (aA 4),zz1 P "__file__" 173 (zz3 "/claim/cut.py" 172),zz1 P "__cached__" 174 (bK),zz1 P "RayError" 206 (aA 24)]++(Zrf.take 1).map (·.de P)++[zz1 P "NoRound" 249 (aA 56)]++(Zrf.drop 1).map (·.de P)++tab.map (·.de P)).toArray 64})::tab.flatMap (·.en (Zov p))++Zrf.flatMap (·.en P)++[(53,⟨.type "function",none,.func (PySem.W.fnOf "__init__" "NoRound.__init__" (Zbo (ZjM (Zov p 3) 0)) (ZaD (ZjM (Zov p 3) 0)) (Zx (ZjM (Zov p 3) 0)) .none .none .none (.str "rayround.errors" 187) none (.ref 52) .none),#[]⟩),
 (52,{cls:=aT "code",data:=js #[zz3 "__init__" 235,zz3 "NoRound.__init__" 236,zz3 "/claim/cut.py" 237,zz4 8,zz4 3,zz4 0,zz4 0,zz4 3,aA 47,ig true,zz4 181,aA 48,bK,aA 49,aA 50,aA 51,zz4 241,zz4 8,zz3 "/claim/cut.py" 242]}),
 (2,{cls:=bK,data:=hV #[]}),
 (23,{cls:=aT "dict",data:=hV #[zz1 P "__module__" 196 (zz3 "rayround.errors" 187),zz1 P "__firstlineno__" 200 (gB 2 199),zz1 P "__static_attributes__" 201 (aA 22),zz1 P "__weakref__" 203 (aA 25),zz1 P "__doc__" 204 (bK)] 3}),
 (24,{cls:=aT "type",data:=Data.cls {name:=aB "RayError",bases:=[aT "ValueError"],mro:=[aA 24,aT "ValueError",aT "Exception",aT "BaseException",aT "object"],ns:=23,qualname:=aB "RayError",subclasses:=[aA 37,aA 56,aA 68,aA 80,aA 92,aA 104]},slots:= #[some (aA 15),none,some (zz3 "RayError" 189),some (zz3 "RayError" 197),some (gG "ValueError.__new__"),some (ig true)]}),
 (55,{cls:=aT "dict",data:=hV #[zz1 P "__module__" 230 (zz3 "rayround.errors" 187),zz1 P "__firstlineno__" 234 (gB 6 233),zz1 P "__init__" 243 (aA 53),zz1 P "__static_attributes__" 246 (aA 54),zz1 P "__doc__" 247 (bK)] 2}),
 (56,{cls:=aT "type",data:=Data.cls {name:=aB "NoRound",bases:=[aA 24],mro:=[aA 56,aA 24,aT "ValueError",aT "Exception",aT "BaseException",aT "object"],ns:=55,qualname:=aB "NoRound"},slots:= #[some (aA 40),none,some (zz3 "NoRound" 223),some (zz3 "NoRound" 231),some (gG "ValueError.__new__"),some (ig true)]})]
def asK:List Addr:=3::tab.flatMap (λr=>[r.f,r.f-1])++Zrf.flatMap (λr=>[r.f,r.f-1])++[53,52,2,23,24,55,56]
def Tf:Fg:=tab.map (λr=>(r.f-(if r.b then 5 else 3),{cls:=.none,data:=.fields #[]}))++[(48,{cls:=.none,data:=.fields #[]})]
def asT:List Addr:=asK++tab.map (λr=>r.f-(if r.b then 5 else 3))++[48]
theorem Zow(p:bO)(P:jv):asT=(Kf p P++Tf).map (·.1):=by kernel_rfl
def qf(p:bO):bO:={p with main:={p.main with body:=[Zov p 64]}}
noncomputable def lo:List Str:=(["__name__","RayError","NoRatio","NoRound","NotSmooth","NoPlace","NoMinus","NoHeight","is_whole","greatest_divisor","is_pair","crossed","product","common","is_ray","spanned","is_turning","turned","following","met_direction","look_round","is_round","unspanned","ask_smooth","numbers","ratio","plus","times","less","is_ratio","ask_height","bends","ask_place","taken_out","is_smooth","is_height","walk_stands","turning_stands","show_stands","wedge_stands","crosses_below","parting_stands","none_stands","stands","_law_cell_at","_law_cross","_law_whole","_law_is_pair","_law_common","_law_is_round","_law_thing","_law_part","_law_drawn","_law_may_stand","_law_copy"]:List String).map aB
open PySem.W
noncomputable abbrev pw:=PySem.Challenge.pw_rayround_k71_papers_of_any_thing
abbrev Hk:Hook:=kHook (λP=>Kf pw P++Tf) asT (Zow pw)
set_option maxRecDepth 1000000 in
set_option maxHeartbeats 0 in
theorem ZrM(w:cu)(os:kS):(HD.Zre kP (HD.ZjN (jw 11 (some (.ref 6))) (kR (i4 jQ) PySem.Challenge.pw_rayround_k71_papers_of_any_thing w)) 3060 (HD.T0 w os) (topStub PySem.Challenge.pw_rayround_k71_papers_of_any_thing)).map (λs=>((staticsOk (d6 PySem.Challenge.pw_rayround_k71_papers_of_any_thing.main.body) (dw w.params) s.abs.heap&&namesBound PySem.Challenge.pw_rayround_k71_papers_of_any_thing s.abs.heap&&gensDone s.abs&&laidKept (dw w.params) s.abs.heap),openSeen (qf PySem.Challenge.pw_rayround_k71_papers_of_any_thing) lo (d6 PySem.Challenge.pw_rayround_k71_papers_of_any_thing.main.body) (λs=>xlAt (qf PySem.Challenge.pw_rayround_k71_papers_of_any_thing) [] s&&recOk [] s) true s.abs,asT.map s.abs.heap.get?))=some (true,openGood (qf PySem.Challenge.pw_rayround_k71_papers_of_any_thing) lo,(Kf PySem.Challenge.pw_rayround_k71_papers_of_any_thing w.params++Tf).map λx=>some x.2):=by
 rw[HD.ZrN,HD.Zmb,HD.Zos,HD.Zot,HD.Zmc,HD.Zou]
 kernel_rfl
set_option maxRecDepth 1000000 in
set_option maxHeartbeats 0 in
theorem Zus:PySem.W.OpenLaw.wellSaid PySem.Challenge.rw_rayround_k71_papers_of_any_thing=true:=by kernel_rfl
end K71
namespace L2
open PyProof.Rows
section
variable (P:bO)(w:cu)
end
section
variable {κ:Type}[DecidableEq κ]
noncomputable def Zfa(kvs:List (κ×V))(k:κ):Option V:=(kvs.find? λkv=>decide (kv.1=k)).map (·.2)
noncomputable def ZhD(kvs:List (κ×V))(k:κ)(v:V):List (κ×V):=
 if(kvs.any λkv=>decide (kv.1=k))=true then kvs.map (λkv=>if kv.1=k then(kv.1,v)else kv)else kvs++[(k,v)]
theorem ZdU{p:κ×V}{r:List (κ×V)}{k:κ}(e:p.1=k):Zfa (p::r) k=some p.2:=by simp[Zfa,d7,e]
theorem ZdV{p:κ×V}{r:List (κ×V)}{k:κ}(e:¬p.1=k):Zfa (p::r) k=Zfa r k:=by simp[Zfa,d7,e]
theorem Zfb(kvs:List (κ×V))(k:κ)(v:V):(ZhD kvs k v).length<=kvs.length+1:=by
 unfold ZhD;split
 .rw[aC];lia
 .rw[a8,aH,cC];lia
theorem Zgy.isSome_eq(r:Zgy o u):o.isSome=u.isSome:=by
 cases o with
 |none=>cases u with
  |none=>rfl
  |some _=>exact(show False from r).elim
 |some _=>cases u with
  |none=>exact(show False from r).elim
  |some _=>rfl
theorem KV.val{kvs:List (κ×V)}{vs:List (κ×aa)}(r:KV kvs vs)(k:κ):Zgy (Zfa kvs k) (jS vs k):=by
 unfold KV at r
 induction r with
 |nil=>exact cW
 |@cons p q ps qs h t ih=>
  obtain⟨h1,h2⟩:=h;by_cases e:p.1=k
  .have e':q.1=k:=h1.symm.trans e;have b:jS (q::qs) k=some q.2:=by simp[jS,d7,e']
   rw[ZdU e,b];exact h2
  .have e':¬q.1=k:=λz=>e (h1.trans z);have b:jS (q::qs) k=jS qs k:=by simp[jS,d7,e']
   rw[ZdV e,b];exact ih
theorem KV.any{kvs:List (κ×V)}{vs:List (κ×aa)}(r:KV kvs vs)(k:κ):(kvs.any λkv=>decide (kv.1=k))=vs.any λkv=>decide (kv.1=k):=by
 unfold KV at r
 induction r with
 |nil=>rfl
 |cons h t ih=>rw[List.any_cons,List.any_cons,ih,h.1]
theorem KV.repl{kvs:List (κ×V)}{vs:List (κ×aa)}(r:KV kvs vs)(k:κ){y:V}{u:aa}(ry:Zah y u):KV (kvs.map λkv=>if kv.1=k then(kv.1,y)else kv) (vs.map λkv=>if kv.1=k then(kv.1,u)else kv):=by
 unfold KV at r ⊢
 induction r with
 |nil=>exact .nil
 |@cons p q ps qs h t ih=>
  rw[aN,aN];refine .cons ?_ ih;obtain⟨h1,h2⟩:=h;by_cases e:p.1=k
  .rw[if_pos e,if_pos (h1.symm.trans e)];exact⟨h1,ry⟩
  .rw[if_neg e,if_neg (λz=>e (h1.trans z))];exact⟨h1,h2⟩
theorem KV.put{kvs:List (κ×V)}{vs:List (κ×aa)}(r:KV kvs vs)(k:κ){y:V}{u:aa}(ry:Zah y u):KV (ZhD kvs k y) (stored vs k u):=by
 unfold ZhD stored;rw[r.any k];by_cases e:(vs.any λkv=>decide (kv.1=k))=true
 .rw[if_pos e,if_pos e];exact r.repl k ry
 .rw[if_neg e,if_neg e];exact Paired.snoc r ⟨rfl,ry⟩
theorem KV.keys{kvs:List (κ×V)}{vs:List (κ×aa)}(r:KV kvs vs):kvs.map (·.1)=vs.map (·.1):=by
 unfold KV at r
 induction r with
 |nil=>rfl
 |cons h t ih=>rw[aN,aN,ih,h.1]
theorem KV.length{kvs:List (κ×V)}{vs:List (κ×aa)}(r:KV kvs vs):kvs.length=vs.length:=Paired.length r
end
theorem ZjO(r:Zah (kV k) u):(Zaq P w).is k u=true:=by
 cases k with
 |inl i=>obtain⟨t,e⟩:=(show ∃t,u=gB i t from r);subst e;exact Ze7 P w i t
 |inr x=>obtain⟨t,e⟩:=(show ∃t,u=jN x t from r);subst e;exact Ze8 P w x t
theorem Zet{P:bO}{w:cu}:∀{ks:List Key}{us:List aa},Zaj (ks.map kV) us->ItemsAre (Zaq P w) ks us
 |[],_,r=>by rw[ge]at r;cases r;exact .nil
 |k::ks,_,r=>by
  rw[aN]at r;cases r with
  |cons h t=>exact .cons (ZjO h) (Zet t)
abbrev KT(H:Hp):List (List Key×V)->List (List Key×Addr×aa)->Prop:=Paired λp q=>p.1=q.1/\H q.2.1=some (.tup (p.1.map kV))/\Zah p.2 q.2.2
theorem KT.val(r:KT H kvs xs)(k:List Key):Zgy (Zfa kvs k) ((atKey xs k).map (·.2)):=by
 induction r with
 |nil=>exact cW
 |@cons p q ps qs h t ih=>
  obtain⟨h1,_,h2⟩:=h;by_cases e:p.1=k
  .have e':q.1=k:=h1.symm.trans e;have b:atKey (q::qs) k=some q.2:=by simp[atKey,d7,e']
   rw[ZdU e,b];exact h2
  .have e':¬q.1=k:=λz=>e (h1.trans z);have b:atKey (q::qs) k=atKey qs k:=by simp[atKey,d7,e']
   rw[ZdV e,b];exact ih
theorem Zox(ok:HOk P w H h)(e:Rd H a u):ZaN P w H h a u:=e.ok ok
theorem ZjP(ok:HOk P w H h)(e:Rd H a (.dK kvs)):kvs.length<=sizeLine/\(a==eM)=false/\∃vs,KV kvs vs/\h.DictOf (Zaq P w) a vs:=
 show ZaN P w H h a (.dK kvs)from Zox ok e
theorem ZrO(ok:HOk P w H h)(e:H a=some (.dK kvs)):kvs.length<=sizeLine/\(a==eM)=false/\∃vs,KV kvs vs/\h.DictOf (Zaq P w) a vs:=ZjP ok (.inl e)
theorem ZhE(ok:HOk P w H h)(e:H a=some (.tup (ks.map kV))):(lw (Zaq P w)).is h ks a:=by
 obtain⟨_,its,r,o,h1,h2,n,h3⟩:=(show ZaN P w H h a (.tup (ks.map kV))from ok a _ e);exact⟨o,its.toArray,n,h1,h2,h3,by simpa using Zet r⟩
theorem Zmd(ok:HOk P w H h)(e:Rd H a (.dT kvs)):kvs.length<=sizeLine/\(a==eM)=false/\∃xs,KT H kvs xs/\h.DictOfH (lw (Zaq P w)) a xs:=by
 obtain⟨z,y,xs,r,o,es,ep,h1,h2,h3,h4,h5⟩:=(show ZaN P w H h a (.dT kvs)from Zox ok e);refine⟨z,y,xs,r,o,es,ep,h1,h2,h3,h4,λx hx=>?_,h5⟩;have all:∀{l:List (List Key×V)} {m:List (List Key×Addr×aa)},KT H l m->∀x∈m,(lw (Zaq P w)).is h x.1 x.2.1:=by
  intro l m q
  induction q with
  |nil=>intro x hx;exact nomatch hx
  |@cons p q ps qs hq t ih=>
   intro x hx;rcases aM.mp hx with e|hx
   .subst e;exact ZhE ok (by rw[<-hq.1];exact hq.2.1)
   .exact ih x hx
 exact all r x hx
def ZnK(H:Hp)(a:Addr)(y:V)(r:Option V):Prop:=
 (∃kvs k,Rd H a (.dK kvs)/\y=kV k/\r=Zfa kvs k)\/∃kvs k b,Rd H a (.dT kvs)/\y=.ref b/\H b=some (.tup (k.map kV))/\r=Zfa kvs k
theorem Inv.big(I:Inv X pins σ H s):eM<s.heap.objs.size:=by
 have h:aG<s.heap.objs.size:=(I.mod.glob.keeps I.bk).lt;exact gf (by decide) h
theorem ZhF(hu:A.units+1<gU)(I:Inv X pins σ H s)(g:ZnK H a y (some v))(ry:Zah y u)(h:∀w' s',Inv X pins σ H s'->Zah v w'->Q w' s'):wpAny (ae X.prog X.w) A (iY (.ref a) u) Q E s:=by
 rcases g with⟨kvs,k,e,ey,l⟩|⟨kvs,k,b,e,ey,eb,l⟩
 .subst ey;obtain⟨z,hd,vs,rel,dd⟩:=ZjP I.hok e;obtain⟨w',hw,rw'⟩:=Zgy.some_of (v:=v) (o:=jS vs k) (by rw[l];exact rel.val k)
  exact wpAny_getItem_of (ZjO ry) dd.mapOf hw (h w' _ (I.tok _) rw')
 .subst ey;cases(show u=aA b from ry);obtain⟨z,hd,xs,rel,dd⟩:=Zmd I.hok e;obtain⟨w',hw,rw'⟩:=Zgy.some_of (v:=v) (o:=(atKey xs k).map (·.2)) (by rw[l];exact rel.val k)
  obtain⟨p,hp,hp2⟩:=ar.mp hw;refine wpAny_getItem_heap (tupleKind_room_in1 hu) (ZhE I.hok eb) dd hp ?_;rw[hp2];exact h w' _ (I.tok _) rw'
theorem Zme(hu:A.units+1<gU)(I:Inv X pins σ H s)(g:ZnK H a y o)(ry:Zah y u)(h:∀s',Inv X pins σ H s'->Q (.bool (!o.isSome)) s'):wpAny (ae X.prog X.w) A (cB .NotIn u (.ref a)) Q E s:=by
 rcases g with⟨kvs,k,e,ey,l⟩|⟨kvs,k,b,e,ey,eb,l⟩
 .subst ey;obtain⟨z,hd,vs,rel,dd⟩:=ZjP I.hok e;refine wpAny_notIn_of (ZjO ry) hd dd.mapOf ?_;rw[<-(rel.val k).isSome_eq,<-l];exact h _ (I.tok _)
 .subst ey;cases(show u=aA b from ry);obtain⟨z,hd,xs,rel,dd⟩:=Zmd I.hok e;refine wpAny_notIn_heap (tupleKind_room_in1 hu) (ZhE I.hok eb) hd dd ?_;have q:=(rel.val k).isSome_eq;rw[Option.isSome_map]at q;rw[<-q,<-l];exact h _ (I.tok _)
theorem Zmf(I:Inv X pins σ H s)(mu:Mut (H a))(hs:fZ a s.heap h')(he:∃q,h'.get? a=some q)(new:ZaN X.prog X.w (upd H a ob) h' a ob):Inv X pins σ (upd H a ob) {s with heap:=h',toks:=t'}:=
 I.write (x:=a) (e:=a) mu (.inl rfl) (λb q hb z=>(hs.2 b hb).trans z) he new
theorem Zoy(z:kvs.length<=sizeLine)(hd:(a==eM)=false)(rel:KV kvs vs)(dd:h'.DictOf (Zaq P w) a vs):ZaN P w H' h' a (.dK kvs):=⟨z,hd,vs,rel,dd⟩
noncomputable def ZrP(i:Expr):Prop:=∀ov iv,jt i false ov iv=operate [ov,iv] (iY ov iv)
theorem Zmg{id:String}(hl:typeLookup (.type T) "__getitem__"=pure (some (.builtin id)))(hs:ZrP slice)(h:wpAny (ae prog w) A (eval value env) (λo s₁=>wpAny (ae prog w) A (eval slice env) (λi s₂=>s₂.TypeIs o T/\wpAny (ae prog w) A (iY o i) Q E s₂) E s₁) E s):wpAny (ae prog w) A (eval (.Subscript value slice pos) env) Q E s:=by
 refine Subscript_ (wpAny_mono h (λo s₁ h₁=>wpAny_mono h₁ (λi s₂ h₂=>?_) λ_ _ x=>x) λ_ _ x=>x);obtain⟨hT,h₂⟩:=h₂;unfold kh;refine Wb ?_;rw[getitemInPython_of_ne hT.not_modules];refine Wb (fE hT hl ?_);have fin:wpAny (ae prog w) A (jt slice false o i) (λr s₃=>wpAny (ae prog w) A (letTemporaryGo value o r >>= λ_=>pure r) Q E s₃) E s₂:=by
  rw[hs o i];exact wpAny_operating (wpAny_mono h₂ (λr s₃ h₃=>Wb (wpAny_letTemporaryGo (Wp h₃))) λ_ _ x=>x)
 first
  |exact Wp (Wb fin)
  |exact Wb (Wp (Wb fin))
  |exact Wb fin
theorem Zfc(I:Inv X pins σ H s)(g:ZnK H a y o):s.TypeIs (.ref a) "dict":=by
 rcases g with⟨kvs,k,e,_,_⟩|⟨kvs,k,b,e,_,_,_⟩
 .obtain⟨_,_,vs,_,dd⟩:=ZjP I.hok e;exact dd.typeIs
 .obtain⟨_,_,xs,_,dd⟩:=Zmd I.hok e;exact dd.typeIs
def ZrQ(td ty:TE):TE:=λσ H Q=>td σ H λx H1=>ty σ H1 λy H2=>∃a v,x=.ref a/\ZnK H2 a y (some v)/\Q v H2
theorem Zmh(hu:X.A.units+1<gU)(ho:PE X o td)(hi:PE X i ty)(hs:ZrP i):PE X (.Subscript o i pos) (ZrQ td ty):=by
 intro pins s σ H Q I h;refine Zmg PySem.F.slot_dict_getitem.lookup hs (thn (ho pins s σ H _ I h) λu s1 ⟨x,H1,I1,rx,q1⟩=>thn (hi pins s1 σ H1 _ I1 q1) λiv s2 ⟨y,H2,I2,ry,a,v,ex,g,q2⟩=>?_);subst ex;obtain rfl:u=aA a:=rx;exact⟨Zfc I2 g,ZhF hu I2 g ry λw' s3 I3 rw'=>⟨v,H2,I3,rw',q2⟩⟩
theorem ZjQ(h:Heap)(hb:eM<h.objs.size):ZaN P w H (h.push {cls:=.type "dict",data:=.dict #[]}) h.objs.size (.dK []):=
 ⟨c8 _,beq_eq_false_iff_ne.mpr (bD (aI hb)),[],.nil,lH.DictOf.new h⟩
noncomputable def ZfM:List (TE×TE)->St->Hp->(List (V×V)->Hp->Prop)->Prop
 |[],_,H,Q=>Q [] H
 | (tk,tv)::r,σ,H,Q=>tk σ H λx H1=>tv σ H1 λy H2=>ZfM r σ H2 λps H3=>Q ((x,y)::ps) H3
abbrev VV:List (V×V)->List (aa×aa)->Prop:=Paired λp q=>Zah p.1 q.1/\Zah p.2 q.2
def PPs(X:Cx)(pos:Pos)(keys:List (Option Expr))(values:List Expr)(trs:List (TE×TE)):Prop:=
 ∀(pins:Pn)(s:az)(σ:St)(H:Hp)(Q:List (V×V)->Hp->Prop),Inv X pins σ H s->ZfM trs σ H Q->
  wpAny (ae X.prog X.w) X.A (evalPairs (pairTrees keys values X.env pos)) (λvs s'=>∃ps H',Inv X pins σ H' s'/\VV ps vs/\Q ps H') X.xe s
theorem Zmi:PPs X pos [] [] []:=λpins s σ H Q I h=>pairTrees_nil_walk ⟨[],H,I,.nil,h⟩
theorem ZjR(hk:PE X k tk)(hv:PE X v tv)(hr:PPs X pos ks vs trs):PPs X pos (some k::ks) (v::vs) ((tk,tv)::trs):=λpins s σ H Q I h=>
 pairTrees_cons_walk (thn (hk pins s σ H _ I h) λu s1 ⟨x,H1,I1,rx,q1⟩=>thn (hv pins s1 σ H1 _ I1 q1) λw2 s2 ⟨y,H2,I2,ry,q2⟩=>thn (hr pins s2 σ H2 _ I2 q2) λws s3 ⟨ps,H3,I3,rel,q3⟩=>⟨(x,y)::ps,H3,I3,.cons ⟨rx,ry⟩ rel,q3⟩)
def Zc8(kvs more:List (Key×V)):List (Key×V):=more.foldl (λacc kv=>ZhD acc kv.1 kv.2) kvs
theorem KV.merge:∀{more:List (Key×V)} {rs:List (Key×aa)} {kvs:List (Key×V)} {vs:List (Key×aa)},KV more rs->KV kvs vs->KV (Zc8 kvs more) (merged vs rs):=by
 intro more rs kvs vs r;unfold KV at r
 induction r generalizing kvs vs with
 |nil=>intro q;exact q
 |@cons p q ps qs h t ih=>
  intro r0;have e:KV (ZhD kvs p.1 p.2) (stored vs q.1 q.2):=by
   have:=r0.put p.1 h.2
   rw[<-h.1];exact this
  exact ih e
theorem Zci:∀(more kvs:List (Key×V)),(Zc8 kvs more).length<=kvs.length+more.length
 |[],kvs=>by show kvs.length<=kvs.length+0;lia
 |p::r,kvs=>by
  have h1:=Zci r (ZhD kvs p.1 p.2);have h2:=Zfb kvs p.1 p.2;show(Zc8 (ZhD kvs p.1 p.2) r).length<=_;rw[aH];lia
theorem ZdE{P:bO}{w:cu}:∀{kvs:List (Key×V)} {ws:List (aa×aa)},VV (kvs.map λkv=>(kV kv.1,kv.2)) ws->∃rs,Carries (Zaq P w) ws rs/\KV kvs rs
 |[],_,r=>by rw[ge]at r;cases r;exact⟨[],cW,.nil⟩
 |p::kvs,_,r=>by
  rw[aN]at r;cases r with
  |@cons a b as bs h t=>
   obtain⟨rs,c,q⟩:=ZdE (P:=P) (w:=w) t;obtain⟨b1,b2⟩:=b;exact⟨(p.1,b2)::rs,⟨ZjO h.1,rfl,c⟩,.cons ⟨rfl,h.2⟩ q⟩
def ZrR(trs:List (TE×TE)):TE:=λσ H Q=>∀p,H p=none->ZfM trs σ (upd H p (.dK [])) λps H2=>H2 p=some (.dK [])/\∃kvs:List (Key×V),ps=kvs.map (λkv=>(kV kv.1,kv.2))/\kvs.length<=15/\Q (.ref p) (upd H2 p (.dK (Zc8 [] kvs)))
theorem Zmj(h:PPs X pos keys values trs)(hall:keys.all (·.isSome)=true)(hl:keys.length=values.length)(h0:keys≠[])(h15:keys.length<=15):PE X (.Dict keys values pos) (ZrR trs):=by
 intro pins s σ H Q I q;have hn:=I.hok.fresh (ac s.heap.objs.size);have I1:=I.laid (a:=s.heap.objs.size) (o:=.dK []) (h':=s.heap.push {cls:=.type "dict",data:=.dict #[]}) (t':=s.toks) (λ_ _ q=>Hq _ q) (ac _) (ZjQ s.heap I.big);refine wpAny_Dict_walk (knd:=Zaq X.prog X.w) hall hl h0 h15 (thn (h pins _ σ _ _ I1 (q _ hn)) λws s2 ⟨ps,H2,I2,rel,e,kvs,ep,lk,q2⟩=>?_);subst ep;obtain⟨rs,c,rk⟩:=ZdE (P:=X.prog) (w:=X.w) rel;obtain⟨z,hd,vs0,r0,dd⟩:=ZrO I2.hok e;cases r0;refine⟨rs,c,dd,λh' dd' hs=>⟨.ref s.heap.objs.size,_,?_,rfl,q2⟩⟩;have hz:(Zc8 [] kvs).length<=sizeLine:=by
  have h1:=Zci kvs [];rw[cC]at h1;rw[c9];lia
 have he:∃q,h'.get? s.heap.objs.size=some q:=let ⟨q,_,_,hq,_⟩:=dd';⟨q,hq⟩;exact Zmf I2 (by rw[e];exact cW) hs he (Zoy hz hd (rk.merge .nil) dd')
structure M1(X:Cx) (o:Expr) (m:Str) (apos:Pos) (e:Expr) (cpos:Pos):Prop where
 base:gH o m X.env (eval o X.env)=eval o X.env
 few:((b8 cpos (af [e] X.env)).all (λx=> !x.1)&&(ju cpos (gK [] X.env)).all (λx=>x.1.isSome) && decide (([e]:List Expr).length+([]:List gZ).length+(if([]:List gZ).isEmpty then 0 else 1)<30))=true
 line:(apos.endLine==cpos.line)=true
 trees:b8 cpos (af [e] X.env)=[(false,eval e X.env)]
structure M2(X:Cx) (o:Expr) (m:Str) (apos:Pos) (e f:Expr) (cpos:Pos):Prop where
 base:gH o m X.env (eval o X.env)=eval o X.env
 few:((b8 cpos (af [e,f] X.env)).all (λx=> !x.1)&&(ju cpos (gK [] X.env)).all (λx=>x.1.isSome) && decide (([e,f]:List Expr).length+([]:List gZ).length+(if([]:List gZ).isEmpty then 0 else 1)<30))=true
 line:(apos.endLine==cpos.line)=true
 trees:b8 cpos (af [e,f] X.env)=[(false,eval e X.env),(false,eval f X.env)]
def IsD(H:Hp)(a:Addr):Prop:=(∃kvs,Rd H a (.dK kvs))\/∃kvs,Rd H a (.dT kvs)
end L2
namespace Att
open PySem.W PySem.Calls PyProof.Rows
end Att
namespace L2
open PyProof.Rows
section
variable {κ:Type}[DecidableEq κ]
end
end L2
namespace DQ
open PyProof.Rows
structure Fly(B:Heap) (l:List Env) (e:Addr) (cls:aa) (dct:Option Addr) (fl:aa) (h:Heap):Prop where
 stay:B.StaysIn h
 new:B.get? e=none
 frames:h.FunFrames B l
 obj:∃oe vs T oT ts,h.get? e=some oe/\oe.cls=cls/\oe.dict=dct/\oe.data=.fields vs/\vs[2]?=some .none/\vs[1]?=some (.ref T)/\B.get? T=none/\T≠e/\h.get? T=some oT/\oT.data=.fields ts/\ts[3]?=some fl
theorem Fly.tail(f:Fly B (env::l) e cls dct fl h):Fly B l e cls dct fl h:=⟨f.stay,f.new,f.frames.2.2,f.obj⟩
section
variable {outer:List Env}
theorem apart{h:Heap}(hl:h.FunFrames B l)(he:h.get? e=some oe)(hd:oe.data=.fields vs):e∉l.filterMap (·.frame):=λz=>by
 obtain⟨_,o,h1,h2⟩:=hl.mem z;rw[he]at h1;cases h1;exact h2 vs hd
theorem Zc9(hfr:A.frames=some (env::outer))(hl:s.heap.FunFrames B (env::outer))(hf:env.frame=some L)(he:s.heap.get? e=some oe)(hs:B.StaysIn s.heap)(hb:B.get? e=none)(hd:oe.data=.fields vs)(hz:2<vs.size)(h2:vs[2]?=some .none)(h:∀h',Fly B (env::outer) e oe.cls oe.dict (fX L) h'->s.heap.UpToSlots h'->Q () {s with heap:=h'}):wpAny M A (frameOf env >>= λa=>entryPlaceOf L hn >>= λpl=>jW head a .none (fX L) .none pl >>= λb=>setField (.ref e) 1 b) Q E s:=by
 have ne:=apart hl he hd;refine Wb (wpAny_frameOf_fun hfr hl hf λh1 k1=>Wb (wpAny_entryPlaceOf λpl hpl=>Wb ?_));unfold jW newFields;refine bX ?_ (hpl.sizeOk5 _ _ _ _ _);generalize hT:([head,aA L,bK,fX L,bK]++(if pl.isEmpty then aZ 6 bK else pl)).toArray=ts;have h3:ts[3]?=some (fX L):=by
  rw[<-hT];rcases hpl with rfl|⟨_,_,_,_,_,_,_,rfl⟩<;>simp
 have e1:h1.get? e=some oe:=(k1.2.1 e ne).trans he;have s1:B.StaysIn h1:=λb o hbo=>(k1.2.1 b λz=>by rw[(hl.mem z).1]at hbo;cases hbo).trans (hs b o hbo)
 generalize hoT:({cls:=.type "traceback",dict:=none,data:=.fields ts}:Obj)=oT;have dT:oT.data=.fields ts:=by rw[<-hoT]
 have fT:oT.isFreed=false:=dj dT;have e2:(h1.push oT).get? e=some oe:=Hq _ e1;have nT:h1.objs.size≠e:=ce (Hz e1);refine dM e2 hd (gf (by decide) hz) (h _ ?_ ?_)
 .have d3:=dW hd (·.setIfInBounds 1 (aA h1.objs.size));have e3:=bC (fv (·.setIfInBounds 1 (aA h1.objs.size))) e2 (dj d3);have keep:∀b o,b≠e->h1.get? b=some o->((h1.push oT).update e (fv (·.setIfInBounds 1 (aA h1.objs.size)))).get? b=some o:=λb o hbe x=>by
   rw[av _ _ (bD hbe)];exact Hq _ x
  have gT:(h1.push oT).get? h1.objs.size=some oT:=aS _ fT;refine⟨λb o x=>keep b o (λz=>by rw[z,hb]at x;cases x) (s1 b o x),hb,hl.of_keeps λb o x y=>?_,_,_,h1.objs.size,oT,ts,e3,Obj.cls_mapFields _ _,?_,d3,?_,?_,s1.fresh,nT,?_,dT,h3⟩
  .obtain⟨sl,z⟩:=k1.2.2 b o x;exact⟨_,keep b _ (λw=>y vs (by rw[w,he]at x;cases x;exact hd)) z,rfl⟩
  .obtain⟨c,d,dd,sl⟩:=oe;cases hd;rfl
  .rw[cK (by decide)]
   exact h2
  .rw[b6 (gf (by decide) hz)]
  .rw[av _ _ (bD nT)];exact gT
 .intro b o x y;obtain⟨sl,z⟩:=k1.2.2 b o x;refine⟨sl,?_⟩;rw[av _ _ (λw=>y vs (by rw[<-w,he]at x;cases x;exact hd))]
  exact Hq _ z
theorem ZcX(f:Fly B l e cls dct fl s.heap)(h:∀h',Fly B l e cls dct .none h'->s.heap.UpToSlots h'->Q () {s with heap:=h'}):wpAny M A (jU (.ref e) none) Q E s:=by
 obtain⟨st,nw,fr,oe,vs,T,oT,ts,g1,g2,g3,g4,g5,g6,g7,g8,g9,g10,g11⟩:=f;have hz:3<ts.size:=(bS.mp g11).1;unfold jU;refine Wb (b7 g1 g4 g6 ?_);rw[if_pos (by simp)]
 have oth:∀b o,b≠T->s.heap.get? b=some o->(s.heap.update T (fv (·.setIfInBounds 3 bK))).get? b=some o:=λb o hb x=>by
  rw[av _ _ (bD hb)];exact x
 have nr:∀b o,s.heap.get? b=some o->(∀vs,o.data≠ .fields vs)->b≠T:=λb o x y z=>by
  rw[z,g9]at x;cases x;exact y ts g10
 refine dM g9 g10 hz (h _ ⟨λb o x=>oth b o (λz=>by rw[z,g7]at x;cases x) (st b o x),nw,fr.of_keeps λb o x y=>⟨o,oth b o (nr b o x y) x,rfl⟩,?_⟩ λb o x y=>⟨o.slots,oth b o (nr b o x y) x⟩)
 exact⟨oe,vs,T,_,_,oth e oe (bD g8) g1,g2,g3,g4,g5,g6,g7,g8,bC _ g9 (dj (dW g10 _)),dW g10 _,by rw[b6 hz];rfl⟩
theorem ZfN(hfr:A.frames=some (env::outer))(hf:env.frame=some L)(f:Fly B (env::outer) e cls dct .none s.heap)(h:∀h',Fly B (env::outer) e cls dct (fX L) h'->s.heap.UpToSlots h'->Q () {s with heap:=h'}):wpAny M A (hW (.ref e) env) Q E s:=by
 obtain⟨st,nw,fr,oe,vs,T,oT,ts,g1,g2,g3,g4,g5,g6,g7,g8,g9,g10,g11⟩:=f;unfold hW;simp only[hf];refine Wb (b7 g1 g4 g6 ?_);rw[if_pos (by simp)]
 refine Wb (b7 g9 g10 g11 ?_);rw[if_neg (by simp[fX])]
 have oth:∀b o,b≠T->s.heap.get? b=some o->(s.heap.update T (fv (·.setIfInBounds 3 bK))).get? b=some o:=λb o hb x=>by
  rw[av _ _ (bD hb)];exact x
 have nr:∀b o,s.heap.get? b=some o->(∀vs,o.data≠ .fields vs)->b≠T:=λb o x y z=>by
  rw[z,g9]at x;cases x;exact y ts g10
 refine Wb (dM g9 g10 (bS.mp g11).1 ?_);refine Zc9 hfr (fr.of_keeps λb o x y=>⟨o,oth b o (nr b o x y) x,rfl⟩) hf (oth e oe (bD g8) g1) (λb o x=>oth b o (λz=>by rw[z,g7]at x;cases x) (st b o x)) nw g4 (bS.mp g5).1 g5 λh' k1 k2=>h h' (g2▸g3▸k1) ?_
 intro b o x y;exact k2 b o (oth b o (nr b o x y) x) y
theorem ZhG(hfr:A.frames=some (env::outer))(hf:env.frame=some L)(f:Fly B (env::outer) e cls dct .none s.heap)(h:∀h',Fly B outer e cls dct .none h'->s.heap.UpToSlots h'->Q () {s with heap:=h'}):wpAny M A (lF env (.ref e)) Q E s:=by
 unfold lF;refine Wb (ZfN hfr hf f λh1 k1 u1=>?_);exact ZcX (s:={s with heap:=h1}) k1 λh2 k2 u2=>h h2 k2.tail (u1.trans u2)
theorem ZhH(hfr:A.frames=some (env::outer))(hf:env.frame=some L)(hl:s.heap.FunFrames B (env::outer))(he:s.heap.get? e=some oe)(hs:B.StaysIn s.heap)(hb:B.get? e=none)(hd:oe.data=.fields vs)(h1:vs[1]?=some .none)(h2:vs[2]?=some .none)(h:∀h',Fly B outer e oe.cls oe.dict .none h'->s.heap.UpToSlots h'->Q () {s with heap:=h'}):wpAny M A (lF env (.ref e)) Q E s:=by
 unfold lF hW;simp only[hf];refine Wb (Wb (b7 he hd h1 ?_));rw[if_neg (by decide)]
 refine Zc9 hfr hl hf he hs hb hd (bS.mp h2).1 h2 λh' k1 u1=>?_;exact ZcX (s:={s with heap:=h'}) k1 λh2 k2 u2=>h h2 k2.tail (u1.trans u2)
end
end DQ
namespace DQ
open PyProof.Rows
open PySem.W (Looks findIn mroIn specialIn takesIn clsIn looks_findIn looks_mroIn looks_find findObj KitX)
structure ExcC(K:Fg) (C:Addr):Prop where
 ga:cH K (.ref C) "__getattribute__"=some (some (.builtin "BaseException.__getattribute__"))
 gt:cH K (.ref C) "__getattr__"=some none
 cl:cH K (.ref C) "__class__"=some (some (.builtin "object.__class__"))
 gs:eD K (.builtin "object.__class__") "__get__"=some (some (.builtin "getset_descriptor.__get__"))
 tk:hG K (.builtin "object.__class__")=some true
 bx:gq K C (.type "BaseException")=some true
 ob:gq K C (.type "object")=some true
 is:(iT K C).isSome=true
end DQ
namespace DL
open PyProof.Rows L2
inductive D where
 |non
 |bl (b:Bool)
 |int (i:Int)
 |str (x:Str)
 |tup (xs:List D)
 |rol (xs:List D)
 |con (xs:List D)
 |ref (n:Nat)
 |err (c:Str) (xs:List D)
 |dk (n:Nat)
 |dt (n:Nat)
 |du (n:Nat)
 |fn (c:Str)
inductive SO where
 |lst (xs:List D)
noncomputable abbrev Sto:=List SO
noncomputable abbrev Ro:=List (Option D)
abbrev W2:=Str->Sto->Prop
abbrev W1:=Ro->Sto->Prop
abbrev W0:=D->Sto->Prop
def SqF(K:Fg)(H:Hp)(a:Addr)(xs:List V):Prop:=
 (∃o,H a=some (.frz o (.lst xs)))\/∃(o:Obj) (its:Array aa) (n:Nat),K.lookup a=some o/\o.cls=.type "list"/\o.dict=none/\o.data=.seq its n/\its.size<=sizeLine/\Zaj xs its.toList
theorem SqF.sq{K:Fg}(h:SqF K H a xs):SqL K H a xs:=by
 rcases h with⟨o,h⟩|h
 .exact .inl (.inr ⟨o,h⟩)
 .exact .inr h
def SqK(K:Fg)(a:Addr)(xs:List V):Prop:=∃(o:Obj) (its:Array aa) (n:Nat),K.lookup a=some o/\o.cls=.type "tuple"/\o.data=.seq its n/\its.size<=sizeLine/\Zaj xs its.toList/\o.dict=none
theorem SqK.sq{K:Fg}(h:SqK K a xs):SqT K H a xs:=by
 obtain⟨o,its,n,h1,h2,h3,h4,h5,_⟩:=h;exact .inr ⟨o,its,n,h1,h2,h3,h4,h5⟩
noncomputable def ZtH:List Str:=[PySem.Str.ofString "where",PySem.Str.ofString "at"]
def EOk(H:Hp)(p C:Addr)(xs:List V):Prop:=∃oe u vs,H p=some (.frz oe u)/\oe.cls=.ref C/\oe.data=.fields vs/\vs[2]?=some .none/\((xs=[]/\oe.dict=none)\/∃dx fs,oe.dict=some dx/\H dx=some (.xd fs)/\fs.map (·.2)=xs/\fs.map (·.1)=ZtH)
noncomputable def Kn(H:Hp)(p:Addr):Option Nat:=match H p with|some (.lst _)=>some 0|some (.dK _)=>some 1|some (.dT _)=>some 2|some (.dU _)=>some 3|some (.frz _ (.dK _))=>some 1|some (.frz _ (.dT _))=>some 2|_=>none
structure RefK(H:Hp) (α:List Addr) (j n:Nat) (p:Addr):Prop where
 at':α[n]?=some p
 kn:Kn H p=some j
theorem Kn.lst{H:Hp}{p:Addr}{xs:List V}(h:H p=some (.lst xs)):Kn H p=some 0:=by unfold Kn;rw[h]
theorem Kn.ne(h:Kn H p=some j)(hq:H q=none):Kn (upd H q o) p=some j:=by
 have:p≠q:=by
  intro z;unfold Kn at h;rw[z,hq]at h;cases h
 unfold Kn;rw[Zv this];exact h
mutual
inductive Rep(K:Fg) (H:Hp) (α:List Addr):V->D->Prop where
 |non:Rep K H α .non .non
 |bl (b:Bool):Rep K H α (.bl b) (.bl b)
 |int (i:Int):Rep K H α (.int i) (.int i)
 |str (x:Str):Rep K H α (.str x) (.str x)
 |tup {p:Addr} {xs:List V} {ds:List D}:H p=some (.tup xs)->Reps K H α xs ds->Rep K H α (.ref p) (.tup ds)
 |rol {p:Addr} {xs:List V} {ds:List D}:SqF K H p xs->Reps K H α xs ds->Rep K H α (.ref p) (.rol ds)
 |con {p:Addr} {xs:List V} {ds:List D}:SqK K p xs->Reps K H α xs ds->Rep K H α (.ref p) (.con ds)
 |ref {p:Addr} {n:Nat}:RefK H α 0 n p->Rep K H α (.ref p) (.ref n)
 |dk {p:Addr} {n:Nat}:RefK H α 1 n p->Rep K H α (.ref p) (.dk n)
 |dt {p:Addr} {n:Nat}:RefK H α 2 n p->Rep K H α (.ref p) (.dt n)
 |du {p:Addr} {n:Nat}:RefK H α 3 n p->Rep K H α (.ref p) (.du n)
 |fn {p:Addr} {c:Str}:PySem.W.nsIn K aG c=some (some (.ref p))->Rep K H α (.ref p) (.fn c)
 |err {p C:Addr} {c:Str} {xs:List V} {ds:List D}:PySem.W.nsIn K aG c=some (some (.ref C))->EOk H p C xs->Reps K H α xs ds->Rep K H α (.ref p) (.err c ds)
inductive Reps(K:Fg) (H:Hp) (α:List Addr):List V->List D->Prop where
 |nil:Reps K H α [] []
 |cons {v:V} {d:D} {vs:List V} {ds:List D}:Rep K H α v d->Reps K H α vs ds->Reps K H α (v::vs) (d::ds)
end
structure Ext(K:Fg) (H H':Hp) (α α':List Addr):Prop where
 tup:∀p xs,H p=some (.tup xs)->H' p=some (.tup xs)
 rol:∀p xs,SqF K H p xs->SqF K H' p xs
 err:∀p C xs,EOk H p C xs->EOk H' p C xs
 kn:∀p j,Kn H p=some j->Kn H' p=some j
 fz:∀p o u,H p=some (.frz o u)->H' p=some (.frz o u)
 al:∃β,α'=α++β
section
variable {K:Fg}{H:Hp}{α α1:List Addr}
theorem Ext.refl:Ext K H H α α:=⟨λ_ _ h=>h,λ_ _ h=>h,λ_ _ _ h=>h,λ_ _ h=>h,λ_ _ _ h=>h,[],(bR _).symm⟩
theorem Ext.trans(a:Ext K H H1 α α1)(b:Ext K H1 H2 α1 α2):Ext K H H2 α α2:=by
 obtain⟨b1,e1⟩:=a.al;obtain⟨b2,e2⟩:=b.al;exact⟨λp xs h=>b.tup p xs (a.tup p xs h),λp xs h=>b.rol p xs (a.rol p xs h),λp C xs h=>b.err p C xs (a.err p C xs h),λp j h=>b.kn p j (a.kn p j h),λp o u h=>b.fz p o u (a.fz p o u h),b1++b2,by rw[e2,e1,cU]⟩
theorem Ext.get0(e:Ext K H H' α α'){n:Nat}(h:α[n]?=some p):α'[n]?=some p:=by
 obtain⟨β,e1⟩:=e.al;have hl:n<α.length:=(au.mp h).1;rw[e1,aO hl];exact h
theorem Ext.get(e:Ext K H H' α α')(h:RefK H α j n p):RefK H' α' j n p:=⟨e.get0 h.at',e.kn _ _ h.kn⟩
theorem Rep.mono(e:Ext K H H' α α')(h:Rep K H α v d):Rep K H' α' v d:=
 Rep.rec (motive_1:=λv d _=>Rep K H' α' v d) (motive_2:=λv d _=>Reps K H' α' v d) .non .bl .int .str (λh _ r=>.tup (e.tup _ _ h) r) (λh _ r=>.rol (e.rol _ _ h) r) (λh _ r=>.con h r) (λh=>.ref (e.get h)) (λh=>.dk (e.get h)) (λh=>.dt (e.get h)) (λh=>.du (e.get h)) .fn (λn h _ r=>.err n (e.err _ _ _ h) r) .nil (λ_ _ r t=>.cons r t) h
theorem Reps.mono(e:Ext K H H' α α')(h:Reps K H α v d):Reps K H' α' v d:=by
 induction d generalizing v with
 |nil=>cases h;exact .nil
 |cons _ _ ih=>cases h with|cons r t=>exact .cons (r.mono e) (ih t)
theorem Reps.length:∀{vs:List V}{ds:List D},Reps K H α vs ds->vs.length=ds.length:=by
 intro vs
 induction vs with
 |nil=>intro ds h;cases h;rfl
 |cons v vs ih=>
  intro ds h;cases h with
  |cons _ t=>rw[aH,aH,ih t]
theorem Reps.get:∀{vs:List V}{ds:List D}{i:Nat}{d:D},Reps K H α vs ds->ds[i]?=some d->∃v,vs[i]?=some v/\Rep K H α v d
 |_,_,_,_,.nil,e=>by simp at e
 |_,_,0,_,.cons r _,e=>by simp at e;subst e;exact⟨_,rfl,r⟩
 |_,_,i+1,d,.cons _ t,e=>by
  obtain⟨u,h1,h2⟩:=Reps.get (i:=i) (d:=d) t (by simpa using e)
  exact⟨u,by simpa using h1,h2⟩
theorem Reps.append:∀{vs ws:List V}{ds es:List D},Reps K H α vs ds->Reps K H α ws es->Reps K H α (vs++ws) (ds++es):=by
 intro vs
 induction vs with
 |nil=>intro ws ds es h s;cases h;exact s
 |cons v vs ih=>
  intro ws ds es h s;cases h with
  |cons r t=>exact .cons r (ih t s)
theorem Reps.ints:∀(ns:List Int),Reps K H α (ns.map V.int) (ns.map D.int)
 |[]=>.nil
 |n::r=>.cons (.int n) (Reps.ints r)
theorem ZhI(h:H q=some (.tup xs))(hp:∀u,H p=some u->(∀ys,u≠ .tup ys)/\∀ob w,u≠ .frz ob w):upd H p o q=some (.tup xs):=by
 rw[Zv (λe=>(hp _ (e▸h)).1 _ rfl)];exact h
theorem ZhJ(h:SqF K H q xs)(hp:∀u,H p=some u->∀ob w,u≠ .frz ob w):SqF K (upd H p o) q xs:=by
 rcases h with⟨ob,h⟩|h
 .refine .inl ⟨ob,?_⟩;rw[Zv (λe=>hp _ (e▸h) _ _ rfl)];exact h
 .exact .inr h
theorem Zk2(h:H q=some (.frz ob u))(hp:∀u,H p=some u->∀ob w,u≠ .frz ob w):upd H p o q=some (.frz ob u):=by
 rw[Zv (λe=>hp _ (e▸h) _ _ rfl)];exact h
theorem ZhK(h:EOk H q C xs)(hp:∀u,H p=some u->(∀ob w,u≠ .frz ob w)/\∀fs,u≠ .xd fs):EOk (upd H p o) q C xs:=by
 obtain⟨oe,u,vs,h1,h2,h3,h4,h5⟩:=h;refine⟨oe,u,vs,?_,h2,h3,h4,?_⟩
 .rw[Zv (λe=>(hp _ (e▸h1)).1 _ _ rfl)];exact h1
 .rcases h5 with h5|⟨dx,fs,k1,k2,k3⟩
  .exact .inl h5
  .refine .inr ⟨dx,fs,k1,?_,k3⟩;rw[Zv (λe=>(hp _ (e▸k2)).2 _ rfl)];exact k2
theorem Ext.new(h:H p=none):Ext K H (upd H p o) α (α++β):=
 ⟨λq xs z=>ZhI z (λu e=>(by rw[h]at e;cases e)),λq xs z=>ZhJ z (λu e=>(by rw[h]at e;cases e)),λq C xs z=>ZhK z (λu e=>(by rw[h]at e;cases e)),λq j z=>Kn.ne z h,λq o u z=>Zk2 z (λu e=>(by rw[h]at e;cases e)),β,rfl⟩
theorem Ext.new0(h:H p=none):Ext K H (upd H p o) α α:=by
 have e:=Ext.new (K:=K) (H:=H) (α:=α) (o:=o) h (β:=[]);rw[bR]at e;exact e
theorem Ext.wrK(h:Kn H p=some j)(nf:∀ob w,H p≠some (.frz ob w))(h':Kn (upd H p o) p=some j):Ext K H (upd H p o) α α:=by
 have ne (u:HO) (e:H p=some u):(∀ys,u≠ .tup ys)/\(∀ob w,u≠ .frz ob w)/\∀fs,u≠ .xd fs:=by
  unfold Kn at h;rw[e]at h;refine⟨λys z=>?_,λob w z=>nf ob w (by rw[e,z]),λfs z=>?_⟩<;>subst z<;>cases h
 refine⟨λq xs z=>ZhI z λu e=>⟨(ne u e).1,(ne u e).2.1⟩,λq xs z=>ZhJ z λu e=>(ne u e).2.1,λq C xs z=>ZhK z λu e=>⟨(ne u e).2.1,(ne u e).2.2⟩,λq i z=>?_,λq ob u z=>Zk2 z λu e=>(ne u e).2.1,[],(bR _).symm⟩;by_cases c:q=p
 .subst c;rw[h]at z;cases z;exact h'
 .unfold Kn;rw[Zv c];exact z
theorem Ext.wr(h:H p=some (.lst xs)):Ext K H (upd H p (.lst ys)) α α:=Ext.wrK (Kn.lst h) (λob w z=>by rw[h]at z;cases z) (Kn.lst Zs)
noncomputable def ZjS:Key->D
 |.inl i=>.int i
 |.inr x=>.str x
def Zfd(ks:List Key):D:=.tup (ks.map ZjS)
def Zut(ks:List (List Key)):D:=.tup (ks.map Zfd)
noncomputable def Za5(K:Fg)(H:Hp)(α:List Addr){κ:Type}(key:κ->D)(kvs:List (κ×V))(ds:List D):Prop:=
 ∃es:List D,ds=bJ (λkv e=>D.tup [key kv.1,e]) kvs es/\Reps K H α (kvs.map (·.2)) es
def SOk(K:Fg)(H:Hp)(α:List Addr)(p:Addr):SO->Prop
 |.lst ds=>(∃xs,H p=some (.lst xs)/\Reps K H α xs ds)\/(∃kvs,H p=some (.dK kvs)/\Za5 K H α ZjS kvs ds)\/(∃kvs,H p=some (.dT kvs)/\Za5 K H α Zfd kvs ds)\/(∃o kvs r,H p=some (.frz o (.dK kvs))/\ds=.non::r/\Za5 K H α ZjS kvs r)\/(∃o kvs r,H p=some (.frz o (.dT kvs))/\ds=.non::r/\Za5 K H α Zfd kvs r)\/(∃kvs,H p=some (.dU kvs)/\Za5 K H α Zut kvs ds)
theorem SOk.there(h:SOk K H α p o):∃u,H p=some u:=by
 cases o with
 |lst ds=>rcases h with⟨_,e,_⟩|⟨_,e,_⟩|⟨_,e,_⟩|⟨_,_,_,e,_⟩|⟨_,_,_,e,_⟩|⟨_,e,_⟩<;>exact⟨_,e⟩
theorem SOk.mono(h:SOk K H α p o)(ex:Ext K H H' α α')(e:H' p=H p):SOk K H' α' p o:=by
 cases o with
 |lst ds=>
  rcases h with⟨xs,h1,h2⟩|⟨kvs,h1,es,h2,h3⟩|⟨kvs,h1,es,h2,h3⟩|⟨o,kvs,r,h1,h0,es,h2,h3⟩|⟨o,kvs,r,h1,h0,es,h2,h3⟩|⟨kvs,h1,es,h2,h3⟩
  .exact .inl ⟨xs,e.trans h1,Reps.mono ex h2⟩
  .exact .inr (.inl ⟨kvs,e.trans h1,es,h2,Reps.mono ex h3⟩)
  .exact .inr (.inr (.inl ⟨kvs,e.trans h1,es,h2,Reps.mono ex h3⟩))
  .exact .inr (.inr (.inr (.inl ⟨o,kvs,r,e.trans h1,h0,es,h2,Reps.mono ex h3⟩)))
  .exact .inr (.inr (.inr (.inr (.inl ⟨o,kvs,r,e.trans h1,h0,es,h2,Reps.mono ex h3⟩))))
  .exact .inr (.inr (.inr (.inr (.inr ⟨kvs,e.trans h1,es,h2,Reps.mono ex h3⟩))))
structure HR(K:Fg) (H:Hp) (α:List Addr) (M:Sto):Prop where
 len:α.length=M.length
 nd:α.Nodup
 ob:∀(n:Nat)(p:Addr)(o:SO),α[n]?=some p->M[n]?=some o->SOk K H α p o
theorem HR.nil:HR K H [] []:=⟨rfl,List.nodup_nil,λn p o h=>by simp at h⟩
theorem Kn.at{H:Hp}(k:Kn H p=some j)(e:H p=some u):(match some u with|some (.lst _)=>some 0|some (.dK _)=>some 1|some (.dT _)=>some 2|some (.dU _)=>some 3|some (.frz _ (.dK _))=>some 1|some (.frz _ (.dT _))=>some 2|_=>none)=some j:=by
 unfold Kn at k;rw[e]at k;exact k
theorem HR.at(h:HR K H α M)(e:RefK H α 0 n p)(m:M[n]?=some (.lst ds)):∃xs,H p=some (.lst xs)/\Reps K H α xs ds:=by
 rcases h.ob n p _ e.at' m with h1|⟨_,h1,_⟩|⟨_,h1,_⟩|⟨_,_,_,h1,_⟩|⟨_,_,_,h1,_⟩|⟨_,h1,_⟩
 .exact h1
 all_goals exact absurd (Kn.at e.kn h1) (λz=>nomatch z)
theorem HR.atK(h:HR K H α M)(e:RefK H α 1 n p)(m:M[n]?=some (.lst ds)):(∃kvs,H p=some (.dK kvs)/\Za5 K H α ZjS kvs ds)\/∃o kvs r,H p=some (.frz o (.dK kvs))/\ds=.non::r/\Za5 K H α ZjS kvs r:=by
 rcases h.ob n p _ e.at' m with⟨_,h1,_⟩|h1|⟨_,h1,_⟩|h1|⟨_,_,_,h1,_⟩|⟨_,h1,_⟩
 .exact absurd (Kn.at e.kn h1) (λz=>nomatch z)
 .exact .inl h1
 .exact absurd (Kn.at e.kn h1) (λz=>nomatch z)
 .exact .inr h1
 all_goals exact absurd (Kn.at e.kn h1) (λz=>nomatch z)
theorem HR.atT(h:HR K H α M)(e:RefK H α 2 n p)(m:M[n]?=some (.lst ds)):(∃kvs,H p=some (.dT kvs)/\Za5 K H α Zfd kvs ds)\/∃o kvs r,H p=some (.frz o (.dT kvs))/\ds=.non::r/\Za5 K H α Zfd kvs r:=by
 rcases h.ob n p _ e.at' m with⟨_,h1,_⟩|⟨_,h1,_⟩|h1|⟨_,_,_,h1,_⟩|h1|⟨_,h1,_⟩
 .exact absurd (Kn.at e.kn h1) (λz=>nomatch z)
 .exact absurd (Kn.at e.kn h1) (λz=>nomatch z)
 .exact .inl h1
 .exact absurd (Kn.at e.kn h1) (λz=>nomatch z)
 .exact .inr h1
 .exact absurd (Kn.at e.kn h1) (λz=>nomatch z)
theorem RefK.lst{n:Nat}{p:Addr}(e:RefK H α 0 n p):∃xs,H p=some (.lst xs):=by
 have:=e.kn
 unfold Kn at this
 split at this
 .rename_i xs h;exact⟨xs,h⟩
 all_goals cases this
theorem HR.some_at(h:HR K H α M)(e:RefK H α 0 n p):∃xs,H p=some (.lst xs):=e.lst
theorem HR.there(h:HR K H α M){n:Nat}(e:α[n]?=some p):∃u,H p=some u:=by
 have hl:n<α.length:=(au.mp e).1;have hm:n<M.length:=by rw[<-h.len];exact hl
 exact(h.ob n p M[n] e (Gq hm)).there
theorem HR.tup{M:Sto}{p:Addr}{o:HO}(h:HR K H α M)(hp:H p=none):HR K (upd H p o) α M:=
 ⟨h.len,h.nd,λn q so e m=>by
  obtain⟨u,hu⟩:=h.there e;exact(h.ob n q so e m).mono (Ext.new0 hp) (Zv (ZX hu hp))⟩
theorem HR.newO(h:HR K H α M)(hp:H p=none)(r:SOk K (upd H p o) (α++[p]) p so):HR K (upd H p o) (α++[p]) (M++[so]):=by
 have ex:Ext K H (upd H p o) α (α++[p]):=Ext.new hp;refine⟨by rw[a8,a8,h.len];rfl,?_,λn q so' e m=>?_⟩
 .refine List.nodup_append.mpr ⟨h.nd,by simp,λa ha b hb=>?_⟩
  have hb':b=p:=by simpa using hb
  obtain⟨n,hn,e⟩:=bw ha;obtain⟨u,z⟩:=h.there (n:=n) (p:=a) (by rw[aq hn,e])
  rw[hb'];exact ZX z hp
 .by_cases hn:n<α.length
  .rw[aO hn]at e;rw[aO (by rw[<-h.len];exact hn)]at m
   obtain⟨u,hu⟩:=h.there e;exact(h.ob n q so' e m).mono ex (Zv (ZX hu hp))
  .have en:n=α.length:=by
    have:n<(α++[p]).length:=(au.mp e).1
    rw[a8,jh]at this;lia
   subst en;rw[aJ (ac _),c7]at e;rw[h.len,aJ (ac _),c7]at m;cases e;cases m;exact r
theorem HR.new(h:HR K H α M)(hp:H p=none)(r:Reps K H α xs ds):HR K (upd H p (.lst xs)) (α++[p]) (M++[.lst ds]):=
 h.newO hp (.inl ⟨xs,Zs,Reps.mono (Ext.new hp) r⟩)
theorem ZjT{n:Nat}(h:α.Nodup)(a:α[n]?=some p)(b:α[m]?=some p):n=m:=by
 obtain⟨h1,e1⟩:=au.mp a;obtain⟨h2,e2⟩:=au.mp b;exact(List.getElem_inj h).mp (e1.trans e2.symm)
theorem HR.wrO(h:HR K H α M)(e:α[n]?=some p)(ex:Ext K H (upd H p o) α α)(r:SOk K (upd H p o) α p so):HR K (upd H p o) α (M.set n so):=by
 have hn:n<M.length:=by rw[<-h.len];exact(au.mp e).1
 refine⟨by rw[cJ];exact h.len,h.nd,λk q so' e' m=>?_⟩
 by_cases hk:k=n
 .subst hk;rw[e]at e';cases e';rw[aY hn]at m;cases m;exact r
 .rw[aU (bD hk)]at m;have hq:q≠p:=λz=>hk (ZjT h.nd (z▸e') e);exact(h.ob k q so' e' m).mono ex (Zv hq)
theorem HR.wr(h:HR K H α M)(e:RefK H α 0 n p)(hp:H p=some (.lst ys))(r:Reps K H α xs ds):HR K (upd H p (.lst xs)) α (M.set n (.lst ds)):=
 h.wrO e.at' (Ext.wr hp) (.inl ⟨xs,Zs,Reps.mono (Ext.wr hp) r⟩)
end
inductive Out(β:Type) where
 |ok (a:β) (M:Sto)
 |exc (c:Str) (M:Sto)
 |bad
abbrev W3:=List D->Sto->Out D
noncomputable def Out.bind(o:Out β)(f:β->Sto->Out γ):Out γ:=match o with
 |.ok a M=>f a M
 |.exc c M=>.exc c M
 |.bad=>.bad
inductive Fl where
 |nx (ρ:Ro) (M:Sto)
 |ret (d:D) (M:Sto)
 |brk (ρ:Ro) (M:Sto)
 |cnt (ρ:Ro) (M:Sto)
 |exc (c:Str) (M:Sto)
 |bad
noncomputable def ZhL(c:Str):Bool:=c==PySem.Str.ofString "NoRound"
def XO(K:Fg)(H:Hp)(α:List Addr)(c:Str)(M:Sto)(dct:Option Addr):Prop:=
 (ZhL c=false/\HR K H α M/\dct=none)\/(ZhL c=true/\∃(M0:Sto) (ds:List D) (dx:Addr) (fs:List (Str×V)),M=M0++[.lst ds]/\HR K H α M0/\dct=some dx/\H dx=some (.xd fs)/\fs.map (·.1)=ZtH/\Reps K H α (fs.map (·.2)) ds)
def OG{β γ:Type}(K:Fg)(R:Hp->List Addr->γ->β->Prop)(H:Hp)(α:List Addr)(ξ:XK)(Q:γ->Hp->Prop):Out β->Prop
 |.ok d M'=>∀v H' α',Ext K H H' α α'->HR K H' α' M'->R H' α' v d->Q v H'
 |.exc c M'=>∀C H' α',PySem.W.nsIn K aG c=some (some (.ref C))->Ext K H H' α α'->∀dct,XO K H' α' c M' dct->ξ (.ref C) dct H'
 |.bad=>False
theorem OG.ext{K:Fg}{R:Hp->List Addr->γ->β->Prop}{Q:γ->Hp->Prop}{o:Out β}(h:OG K R H α ξ Q o)(e:Ext K H H1 α α1):OG K R H1 α1 ξ Q o:=by
 cases o with
 |ok d M'=>exact λv H' α' e'=>h v H' α' (e.trans e')
 |exc c M'=>exact λC H' α' n e'=>h C H' α' n (e.trans e')
 |bad=>exact h
abbrev OP(K:Fg):=OG K (Rep K)
abbrev OT(K:Fg):=OG (β:=Bool) (γ:=Bool) K (λ_ _ v d=>v=d)
abbrev OA(K:Fg):=OG K (Reps K)
noncomputable def SR(K:Fg)(H:Hp)(α:List Addr)(σ:L2.St)(ρ:Ro):Prop:=σ.length=ρ.length/\∀(i:Nat)(d:D),ρ[i]?=some (some d)->∃v,σ[i]?=some (some v)/\Rep K H α v d
theorem SR.mono{K:Fg}(h:SR K H α σ ρ)(e:Ext K H H' α α'):SR K H' α' σ ρ:=
 ⟨h.1,λi d q=>let ⟨v,a,b⟩:=h.2 i d q;⟨v,a,Rep.mono e b⟩⟩
theorem SR.set{K:Fg}(h:SR K H α σ ρ)(i:Nat)(r:Rep K H α v d):SR K H α (σ.set i (some v)) (ρ.set i (some d)):=by
 refine⟨by rw[cJ,cJ];exact h.1,λj e q=>?_⟩
 by_cases hj:j=i
 .subst hj;have hl:j<ρ.length:=by
   have:=(au.mp q).1
   rw[cJ]at this;exact this
  rw[aY hl]at q;cases q;exact⟨v,by rw[aY (by rw[h.1];exact hl)],r⟩
 .rw[aU (bD hj)]at q;rw[aU (bD hj)];exact h.2 j e q
abbrev Ev:=Ro->Sto->Out D
abbrev Tv:=Ro->Sto->Out Bool
abbrev Av:=Ro->Sto->Out (List D)
abbrev Sv:=Ro->Sto->Fl
def DE(X:Cx)(ξ:XK)(e:Expr)(f:Ev):Prop:=∃t:TE,PE X e t/\∀σ ρ H α M Q,SR X.K H α σ ρ->HR X.K H α M->OP X.K H α ξ Q (f ρ M)->t σ H Q
def DT(X:Cx)(ξ:XK)(e:Expr)(f:Tv):Prop:=∃t:TT,PT X e t/\∀σ ρ H α M Q,SR X.K H α σ ρ->HR X.K H α M->OT X.K H α ξ Q (f ρ M)->t σ H Q
def DW(X:Cx)(ξ:XK)(e:Expr)(f:Tv):Prop:=∃t:TT,PW X e t/\∀σ ρ H α M Q,SR X.K H α σ ρ->HR X.K H α M->OT X.K H α ξ Q (f ρ M)->t σ H Q
def DA(X:Cx)(ξ:XK)(es:List Expr)(f:Av):Prop:=∃t:TA,PA X es t/\∀σ ρ H α M Q,SR X.K H α σ ρ->HR X.K H α M->OA X.K H α ξ Q (f ρ M)->t σ H Q
theorem OG.seq{K:Fg}{R:Hp->List Addr->γ->β->Prop}{R':Hp->List Addr->γ'->β'->Prop}{Q:γ'->Hp->Prop}{Q1:γ->Hp->Prop}{o:Out β}{f:β->Sto->Out β'}(h:OG K R' H α ξ Q (o.bind f))(k:∀d M' v H' α',Ext K H H' α α'->HR K H' α' M'->R H' α' v d->OG K R' H' α' ξ Q (f d M')->Q1 v H'):OG K R H α ξ Q1 o:=by
 cases o with
 |ok d M'=>exact λv H' α' e hr r=>k d M' v H' α' e hr r (OG.ext (o:=f d M') h e)
 |exc c M'=>exact h
 |bad=>exact h
section
variable {X:Cx}{ξ:XK}{fa fb:Ev}{pos:Pos}
noncomputable def Zi(i:Nat):Ev:=λρ M=>match ρ[i]? with|some (some d)=>.ok d M|_=>.bad
noncomputable def eC(d:D):Ev:=λ_ M=>.ok d M
theorem Zb(i:Nat)(hN:autoParam (X.N[i]?=some x) Qrf._auto_1)(hv:Vis X.env.scope x:=by first|exact bZ rfl|exact i3 (bZ rfl)|exact i3 (i3 rfl))(hd:autoParam ((x==("__debug__":Str))=false) Qde._auto_1)(hcd:autoParam ((x==("__classdict__":Str))=false) Qde._auto_1):DE X ξ (.Name x pos) (Zi i):=by
 refine⟨_,Zcf hN hv hd hcd,λσ ρ H α M Q s h q=>?_⟩;unfold Zi at q;cases e:ρ[i]? with
 |none=>rw[e]at q;exact q.elim
 |some o=>
  cases o with
  |none=>rw[e]at q;exact q.elim
  |some d=>
   rw[e]at q;obtain⟨v,h1,h2⟩:=s.2 i d e;exact⟨v,h1,q v H α Ext.refl h h2⟩
theorem Zc{j pos}:DE X ξ (.Constant (.int i) j pos) (eC (.int i)):=⟨_,ZnY,λ_ _ H α M _ _ h q=>q _ H α Ext.refl h (.int i)⟩
theorem ZW{j pos}:DE X ξ (.Constant (.bool i) j pos) (eC (.bl i)):=⟨_,Zrw,λ_ _ H α M _ _ h q=>q _ H α Ext.refl h (.bl i)⟩
theorem ZcK{j pos}:DE X ξ (.Constant .none j pos) (eC .non):=⟨_,ZnZ,λ_ _ H α M _ _ h q=>q _ H α Ext.refl h .non⟩
theorem ZH{j pos}:DE X ξ (.Constant (.str x) j pos) (eC (.str x)):=⟨_,ZfJ,λ_ _ H α M _ _ h q=>q _ H α Ext.refl h (.str x)⟩
abbrev Bo:=D->D->Sto->Out D
def e2(f:Bo)(fa fb:Ev):Ev:=λρ M=>(fa ρ M).bind λx M1=>(fb ρ M1).bind λy M2=>f x y M2
def BO(X:Cx)(ξ:XK)(r:R2)(f:Bo):Prop:=∀H α M v w x y Q,HR X.K H α M->Rep X.K H α v x->Rep X.K H α w y->OP X.K H α ξ Q (f x y M)->r v w H Q
theorem two{r:R2}{f:Bo}(hb:BO X ξ r f){ta tb:TE}(qa:∀σ ρ H α M Q,SR X.K H α σ ρ->HR X.K H α M->OP X.K H α ξ Q (fa ρ M)->ta σ H Q)(qb:∀σ ρ H α M Q,SR X.K H α σ ρ->HR X.K H α M->OP X.K H α ξ Q (fb ρ M)->tb σ H Q):∀σ ρ H α M Q,SR X.K H α σ ρ->HR X.K H α M->OP X.K H α ξ Q (e2 f fa fb ρ M)->tOp r ta tb σ H Q:=by
 intro σ ρ H α M Q s h q;refine qa σ ρ H α M _ s h (OG.seq q λx M1 v H1 α1 e1 h1 r1 q1=>?_);refine qb σ ρ H1 α1 M1 _ (s.mono e1) h1 (OG.seq q1 λy M2 w H2 α2 e2 h2 r2 q2=>?_);exact hb H2 α2 M2 v w x y Q h2 (Rep.mono e2 r1) r2 q2
theorem ZgH(ho:OpR X (dZ op) r)(hf:BO X ξ r f)(ha:DE X ξ a fa)(hb:DE X ξ b fb):DE X ξ (.BinOp a op b pos) (e2 f fa fb):=by
 obtain⟨ta,ha,qa⟩:=ha;obtain⟨tb,hb,qb⟩:=hb;exact⟨_,ZrF ho ha hb,two hf qa qb⟩
theorem Zab(ho:OpR X (cB op) r)(hf:BO X ξ r f)(ha:DE X ξ a fa)(hb:DE X ξ b fb)(hm:fA op b=false:=by first|exact ZkW _|with_unfolding_all rfl):DE X ξ (.Compare a [op] [b] pos) (e2 f fa fb):=by
 obtain⟨ta,ha,qa⟩:=ha;obtain⟨tb,hb,qb⟩:=hb;exact⟨_,ZlW ho ha hb hm,two hf qa qb⟩
def tv(f:Ev):Tv:=λρ M=>(f ρ M).bind λx M1=>match x with|.bl k=>.ok k M1|_=>.bad
theorem Zoz{t:TE}{f:Ev}(qa:∀σ ρ H α M Q,SR X.K H α σ ρ->HR X.K H α M->OP X.K H α ξ Q (f ρ M)->t σ H Q):∀σ ρ H α M Q,SR X.K H α σ ρ->HR X.K H α M->OT X.K H α ξ Q (tv f ρ M)->Zoh t σ H Q:=by
 intro σ ρ H α M Q s h q;refine qa σ ρ H α M _ s h (OG.seq q λx M1 v H1 α1 e1 h1 r1 q1=>?_);cases r1 with
 |bl k=>exact⟨k,rfl,q1 k H1 α1 Ext.refl h1 rfl⟩
 |_=>exact q1.elim
theorem Zr(ho:OpR X (cB op) r)(hf:BO X ξ r f)(ha:DE X ξ a fa)(hb:DE X ξ b fb)(hm:fA op b=false:=by first|exact ZkW _|with_unfolding_all rfl):DT X ξ (.Compare a [op] [b] pos) (tv (e2 f fa fb)):=by
 obtain⟨ta,ha,qa⟩:=ha;obtain⟨tb,hb,qb⟩:=hb;exact⟨_,ZlX ho ha hb hm,Zoz (two hf qa qb)⟩
theorem Zw(h:DE X ξ e fa)(he:autoParam (∀whole,isTrue e X.env whole=(do let v <-whole;standAt e.pos;holding [v] (truthy v))) Qin._auto_1):DT X ξ e (tv fa):=by
 obtain⟨ta,ha,qa⟩:=h;exact⟨_,Zn0 ha he,Zoz qa⟩
variable {Zam:List Expr}
def Zb6(f g:Tv):Tv:=λρ M=>(f ρ M).bind λk M1=>if k=true then g ρ M1 else .ok false M1
def Zbz(f g:Tv):Tv:=λρ M=>(f ρ M).bind λk M1=>if k=true then .ok true M1 else g ρ M1
def ZY(f:Tv):Tv:=λρ M=>(f ρ M).bind λk M1=>.ok (!k) M1
theorem Zbp(ha:DT X ξ a ga):DW X ξ (.BoolOp .And [a] pos) ga:=let ⟨_,h,q⟩:=ha;⟨_,pw_and1 h,q⟩
theorem ZZ(ha:DT X ξ a ga):DW X ξ (.BoolOp .Or [a] pos) ga:=let ⟨_,h,q⟩:=ha;⟨_,pw_or1 h,q⟩
theorem Zcj(ha:DT X ξ a ga)(hb:DW X ξ (.BoolOp .And (b::Zam) pos) gb):DW X ξ (.BoolOp .And (a::b::Zam) pos) (Zb6 ga gb):=by
 obtain⟨ta,ha,qa⟩:=ha;obtain⟨tb,hb,qb⟩:=hb;refine⟨_,pw_and ha hb,λσ ρ H α M Q s h q=>?_⟩;refine qa σ ρ H α M _ s h (OG.seq q λk M1 v H1 α1 e1 h1 r1 q1=>?_);cases r1;cases k with
 |true=>exact ZjL (qb σ ρ H1 α1 M1 Q (s.mono e1) h1 q1)
 |false=>exact ZjK (q1 false H1 α1 Ext.refl h1 rfl)
theorem Zac(ha:DT X ξ a ga)(hb:DW X ξ (.BoolOp .Or (b::Zam) pos) gb):DW X ξ (.BoolOp .Or (a::b::Zam) pos) (Zbz ga gb):=by
 obtain⟨ta,ha,qa⟩:=ha;obtain⟨tb,hb,qb⟩:=hb;refine⟨_,pw_or ha hb,λσ ρ H α M Q s h q=>?_⟩;refine qa σ ρ H α M _ s h (OG.seq q λk M1 v H1 α1 e1 h1 r1 q1=>?_);cases r1;cases k with
 |true=>exact ZjL (q1 true H1 α1 Ext.refl h1 rfl)
 |false=>exact ZjK (qb σ ρ H1 α1 M1 Q (s.mono e1) h1 q1)
theorem ZbG(h:DW X ξ e ga):DT X ξ e ga:=let ⟨_,h,q⟩:=h;⟨_,h.pt,q⟩
theorem ZP(ha:DT X ξ a ga):DT X ξ (.UnaryOp .Not a pos) (ZY ga):=by
 obtain⟨ta,ha,qa⟩:=ha;refine⟨_,Zn1 ha,λσ ρ H α M Q s h q=>?_⟩;refine qa σ ρ H α M _ s h (OG.seq q λk M1 v H1 α1 e1 h1 r1 q1=>?_);cases r1;exact q1 (!k) H1 α1 Ext.refl h1 rfl
def Zav(f g:Ev):Ev:=λρ M=>(f ρ M).bind λx M1=>match x with|.bl k=>if k=true then g ρ M1 else .ok (.bl false) M1|_=>.bad
def ZoA(f g:Ev):Ev:=λρ M=>(f ρ M).bind λx M1=>match x with|.bl k=>if k=true then .ok (.bl true) M1 else g ρ M1|_=>.bad
def ZgI(f:Ev):Ev:=λρ M=>(f ρ M).bind λx M1=>match x with|.bl k=>.ok (.bl (!k)) M1|_=>.bad
theorem ZaL{op}(ha:DE X ξ a fa):DE X ξ (.BoolOp op [a] pos) fa:=let ⟨_,h,q⟩:=ha;⟨_,Zn2 h,q⟩
theorem Zak(ha:DE X ξ a fa)(hb:DE X ξ (.BoolOp .And (b::Zam) pos) fb):DE X ξ (.BoolOp .And (a::b::Zam) pos) (Zav fa fb):=by
 obtain⟨ta,ha,qa⟩:=ha;obtain⟨tb,hb,qb⟩:=hb;refine⟨_,Zn3 ha hb,λσ ρ H α M Q s h q=>?_⟩;refine qa σ ρ H α M _ s h (OG.seq q λx M1 v H1 α1 e1 h1 r1 q1=>?_);cases r1 with
 |bl k=>
  refine⟨k,rfl,?_⟩;cases k with
  |true=>exact ZjL (qb σ ρ H1 α1 M1 Q (s.mono e1) h1 q1)
  |false=>exact ZjK (q1 _ H1 α1 Ext.refl h1 (.bl false))
 |_=>exact q1.elim
theorem ZrS(ha:DE X ξ a fa)(hb:DE X ξ (.BoolOp .Or (b::Zam) pos) fb):DE X ξ (.BoolOp .Or (a::b::Zam) pos) (ZoA fa fb):=by
 obtain⟨ta,ha,qa⟩:=ha;obtain⟨tb,hb,qb⟩:=hb;refine⟨_,Zrz ha hb,λσ ρ H α M Q s h q=>?_⟩;refine qa σ ρ H α M _ s h (OG.seq q λx M1 v H1 α1 e1 h1 r1 q1=>?_);cases r1 with
 |bl k=>
  refine⟨k,rfl,?_⟩;cases k with
  |true=>exact ZjL (q1 _ H1 α1 Ext.refl h1 (.bl true))
  |false=>exact ZjK (qb σ ρ H1 α1 M1 Q (s.mono e1) h1 q1)
 |_=>exact q1.elim
theorem Zk3(ha:DE X ξ a fa):DE X ξ (.UnaryOp .Not a pos) (ZgI fa):=by
 obtain⟨ta,ha,qa⟩:=ha;refine⟨_,Zn4 ha,λσ ρ H α M Q s h q=>?_⟩;refine qa σ ρ H α M _ s h (OG.seq q λx M1 v H1 α1 e1 h1 r1 q1=>?_);cases r1 with
 |bl k=>exact⟨k,rfl,q1 _ H1 α1 Ext.refl h1 (.bl (!k))⟩
 |_=>exact q1.elim
def eIf(c:Tv)(f g:Ev):Ev:=λρ M=>(c ρ M).bind λk M1=>if k=true then f ρ M1 else g ρ M1
theorem ZrT(hc:DT X ξ c ga)(ha:DE X ξ a fa)(hb:DE X ξ b fb):DE X ξ (.IfExp c a b pos) (eIf ga fa fb):=by
 obtain⟨tc,hc,qc⟩:=hc;obtain⟨ta,ha,qa⟩:=ha;obtain⟨tb,hb,qb⟩:=hb;refine⟨_,Zjw hc ha hb,λσ ρ H α M Q s h q=>?_⟩;refine qc σ ρ H α M _ s h (OG.seq q λk M1 v H1 α1 e1 h1 r1 q1=>?_);cases r1;cases k with
 |true=>exact ZjL (qa σ ρ H1 α1 M1 Q (s.mono e1) h1 q1)
 |false=>exact ZjK (qb σ ρ H1 α1 M1 Q (s.mono e1) h1 q1)
noncomputable def aNil:Av:=λ_ M=>.ok [] M
def Zd(f:Ev)(g:Av):Av:=λρ M=>(f ρ M).bind λx M1=>(g ρ M1).bind λxs M2=>.ok (x::xs) M2
theorem Ze:DA X ξ [] aNil:=⟨_,Zhs,λ_ _ H α M _ _ h q=>q _ H α Ext.refl h .nil⟩
theorem Za(ha:DE X ξ e fa)(hr:DA X ξ es fs)(hs:autoParam (af (e::es) X.env=(false,eval e X.env)::af es X.env) Qrf._auto_1):DA X ξ (e::es) (Zd fa fs):=by
 obtain⟨ta,ha,qa⟩:=ha;obtain⟨tb,hb,qb⟩:=hr;refine⟨_,Zc5 ha hb hs,λσ ρ H α M Q s h q=>?_⟩;refine qa σ ρ H α M _ s h (OG.seq q λx M1 v H1 α1 e1 h1 r1 q1=>?_);refine qb σ ρ H1 α1 M1 _ (s.mono e1) h1 (OG.seq q1 λy M2 w H2 α2 e2 h2 r2 q2=>?_);exact q2 _ H2 α2 Ext.refl h2 (.cons (Rep.mono e2 r1) r2)
def ZaK(f:Av):Ev:=λρ M=>(f ρ M).bind λxs M1=>if xs.length<=1000 then .ok (.tup xs) M1 else .bad
def ZcY(f:Av):Ev:=λρ M=>(f ρ M).bind λxs M1=>if xs.length<=1000 then .ok (.ref M1.length) (M1++[.lst xs])else .bad
theorem Zmk(h:n<=1000):n<=sizeLine:=eV (ZhB h)
theorem ZB{x1}(ha:DA X ξ es fs):DE X ξ (.Tuple es x1 pos) (ZaK fs):=by
 obtain⟨ta,ha,qa⟩:=ha;refine⟨_,Zoi ha,λσ ρ H α M Q s h q=>?_⟩;refine qa σ ρ H α M _ s h (OG.seq q λxs M1 vs H1 α1 e1 h1 r1 q1=>?_);by_cases hl:xs.length<=1000
 .rw[if_pos hl]at q1;refine⟨by rw[r1.length];exact Zmk hl,λp hp=>q1 _ _ α1 (Ext.new0 hp) (h1.tup hp) (.tup Zs (Reps.mono (Ext.new0 hp) r1))⟩
 .rw[if_neg hl]at q1;exact q1.elim
theorem HR.last{K:Fg}(h:HR K H α M)(p:Addr):(α++[p])[M.length]?=some p:=by
 rw[<-h.len,aJ (ac _),c7];rfl
theorem Z0(ha:DA X ξ es fs):DE X ξ (.List es pos) (ZcY fs):=by
 obtain⟨ta,ha,qa⟩:=ha;refine⟨_,Zoj ha,λσ ρ H α M Q s h q=>?_⟩;refine qa σ ρ H α M _ s h (OG.seq q λxs M1 vs H1 α1 e1 h1 r1 q1=>?_);by_cases hl:xs.length<=1000
 .rw[if_pos hl]at q1;refine⟨by rw[r1.length];exact Zmk hl,λp hp=>q1 _ _ (α1++[p]) (Ext.new hp) (h1.new hp r1) (.ref ⟨h1.last p,Kn.lst Zs⟩)⟩
 .rw[if_neg hl]at q1;exact q1.elim
end
end DL
namespace DL
open PyProof.Rows L2
open PySem.SeqAt (EqAt RcAt RcNeAt)
noncomputable def ZN(i j:Int):Prop:=fq i<=64\/fq j<=64\/(fq i<=60000000/\fq j<=60000000)
instance (i j:Int):Decidable (ZN i j):=by unfold ZN;infer_instance
theorem ZN.ok(h:ZN i j):IntMulOk i j:=by
 rcases h with h|h|⟨h1,h2⟩
 .exact .of_left h
 .exact .of_right h
 .exact .of_le h1 h2 (by decide)
theorem Z6(m n:Nat)(h1:i.natAbs<2^m)(h2:j.natAbs<2^n)(hm:autoParam (m<=60000000) Qde._auto_1)(hn:autoParam (n<=60000000) Qde._auto_1):ZN i j:=
 .inr (.inr ⟨aQ (intBits_le_iff.mpr h1) hm,aQ (intBits_le_iff.mpr h2) hn⟩)
noncomputable def Zbb(j:Int):Prop:=j≠0/\j.natAbs.log2<9000
instance (j:Int):Decidable (Zbb j):=by unfold Zbb;infer_instance
theorem Zml:OpR X (dZ .Mult) (rI ZN λi j=>.int (i*j)):=opI λ_ _ _ _ _ _ _ hc q=>mul_int q hc.ok
theorem ZjU:OpR X (dZ .FloorDiv) (rI (λ_ j=>Zbb j) λi j=>.int (i.fdiv j)):=opI λ_ _ _ _ _ _ _ hc q=>floordiv_int hc.1 q (.inl (PyProof.noPylong_of_log2 hc.2))
noncomputable def dAdd:Bo:=λx y M=>match x,y with
 |.int i,.int j=>.ok (.int (i+j)) M
 |.str i,.str j=>if i.length+j.length<=100000 then .ok (.str (i++j)) M else .bad
 |.ref n,.ref m=>match M[n]?,M[m]? with
  |some (.lst xs),some (.lst ys)=>if xs.length+ys.length<=10000000 then .ok (.ref M.length) (M++[.lst (xs++ys)])else .bad
  |_,_=>.bad
 |.tup xs,.tup ys=>if xs.length+ys.length<=100000/\xs≠[]then .ok (.tup (xs++ys)) M else .bad
 |_,_=>.bad
noncomputable def dSub:Bo:=λx y M=>match x,y with|.int i,.int j=>.ok (.int (i-j)) M|_,_=>.bad
def dMul:Bo:=λx y M=>match x,y with|.int i,.int j=>if ZN i j then .ok (.int (i*j)) M else .bad|_,_=>.bad
def dDiv:Bo:=λx y M=>match x,y with|.int i,.int j=>if Zbb j then .ok (.int (i.fdiv j)) M else .bad|_,_=>.bad
noncomputable def dMod:Bo:=λx y M=>match x,y with|.int i,.int j=>if j≠0 then .ok (.int (i.fmod j)) M else .bad|_,_=>.bad
noncomputable def dPow:Bo:=λx y M=>match x,y with|.int i,.int j=>if 0<=j/\j<=1000000/\i.natAbs<2^64 then .ok (.int (i^j.toNat)) M else .bad|_,_=>.bad
noncomputable def dLt:Bo:=λx y M=>match x,y with|.int i,.int j=>.ok (.bl (decide (i<j))) M|_,_=>.bad
noncomputable def dLe:Bo:=λx y M=>match x,y with|.int i,.int j=>.ok (.bl (decide (i<=j))) M|_,_=>.bad
noncomputable def dGt:Bo:=λx y M=>match x,y with|.int i,.int j=>.ok (.bl (decide (j<i))) M|_,_=>.bad
noncomputable def dGe:Bo:=λx y M=>match x,y with|.int i,.int j=>.ok (.bl (decide (j<=i))) M|_,_=>.bad
theorem ZoB(h:n<=100000):n<=sizeLine:=aQ h (by decide)
section
variable {X:Cx}{ξ:XK}
theorem Zck{r:R2}{f:Bo}{C:Int->Int->Prop}[∀i j,Decidable (C i j)]{g:Int->Int->D}{gV:Int->Int->V}(hg:∀H α i j,Rep X.K H α (gV i j) (g i j))(hf:∀x y M,f x y M=match x,y with|.int i,.int j=>if C i j then .ok (g i j) M else .bad|_,_=>.bad)(hr:∀i j H Q,C i j->Q (gV i j) H->r (.int i) (.int j) H Q):BO X ξ r f:=by
 intro H α M v w x y Q h rv rw' q;rw[hf]at q;cases rv<;>first|exact q.elim|skip
 cases rw'<;>first|exact q.elim|skip
 rename_i i j;by_cases c:C i j
 .simp only[if_pos c]at q;exact hr i j H Q c (q _ H α Ext.refl h (hg H α i j))
 .simp only[if_neg c]at q;exact q.elim
theorem ZoC:BO X ξ (rI0 λi j=>.int (i-j)) dSub:=Zck (C:=λ_ _=>True) (λ_ _ i j=>.int (i-j)) (λx y M=>by cases x<;>cases y<;>simp[dSub]) λi j H Q _ q=>⟨i,j,rfl,rfl,q⟩
theorem ZoD:BO X ξ (rI ZN λi j=>.int (i*j)) dMul:=Zck (C:=ZN) (λ_ _ i j=>.int (i*j)) (λx y M=>by cases x<;>cases y<;>rfl) λi j H Q c q=>⟨i,j,rfl,rfl,c,q⟩
theorem ZoE:BO X ξ (rI (λ_ j=>Zbb j) λi j=>.int (i.fdiv j)) dDiv:=Zck (C:=λ_ j=>Zbb j) (λ_ _ i j=>.int (i.fdiv j)) (λx y M=>by cases x<;>cases y<;>rfl) λi j H Q c q=>⟨i,j,rfl,rfl,c,q⟩
theorem ZoF:BO X ξ (rI (λ_ j=>j≠0) λi j=>.int (i.fmod j)) dMod:=Zck (C:=λ_ j=>j≠0) (λ_ _ i j=>.int (i.fmod j)) (λx y M=>by cases x<;>cases y<;>rfl) λi j H Q c q=>⟨i,j,rfl,rfl,c,q⟩
theorem ZoG:BO X ξ (rI ZtD λi j=>.int (i^j.toNat)) dPow:=Zck (C:=λi j=>0<=j/\j<=1000000/\i.natAbs<2^64) (λ_ _ i j=>.int (i^j.toNat)) (λx y M=>by cases x<;>cases y<;>rfl) λi j H Q c q=>⟨i,j,rfl,rfl,c,q⟩
theorem ZbI:BO X ξ (rI0 λi j=>.bl (decide (i<j))) dLt:=Zck (C:=λ_ _=>True) (λ_ _ i j=>.bl _) (λx y M=>by cases x<;>cases y<;>simp[dLt]) λi j H Q _ q=>⟨i,j,rfl,rfl,q⟩
theorem ZhM:BO X ξ (rI0 λi j=>.bl (decide (i<=j))) dLe:=Zck (C:=λ_ _=>True) (λ_ _ i j=>.bl _) (λx y M=>by cases x<;>cases y<;>simp[dLe]) λi j H Q _ q=>⟨i,j,rfl,rfl,q⟩
theorem ZhN:BO X ξ (rI0 λi j=>.bl (decide (j<i))) dGt:=Zck (C:=λ_ _=>True) (λ_ _ i j=>.bl _) (λx y M=>by cases x<;>cases y<;>simp[dGt]) λi j H Q _ q=>⟨i,j,rfl,rfl,q⟩
theorem ZjV:BO X ξ (rI0 λi j=>.bl (decide (j<=i))) dGe:=Zck (C:=λ_ _=>True) (λ_ _ i j=>.bl _) (λx y M=>by cases x<;>cases y<;>simp[dGe]) λi j H Q _ q=>⟨i,j,rfl,rfl,q⟩
theorem Zmm:OpR X (dZ .Add) (λx y H Q=>(rI0 (λi j=>.int (i+j)) x y H Q\/(∃i j,x=.str i/\y=.str j/\i.length+j.length<=sizeLine/\Q (.str (i++j)) H))\/(rCat x y H Q\/Zl4 X.K x y H Q)):=
 OpR.or (OpR.or Zod ZgB) (OpR.or Zoq Zl5)
theorem ZoH:BO X ξ (λx y H Q=>(rI0 (λi j=>.int (i+j)) x y H Q\/(∃i j,x=.str i/\y=.str j/\i.length+j.length<=sizeLine/\Q (.str (i++j)) H))\/(rCat x y H Q\/Zl4 X.K x y H Q)) dAdd:=by
 intro H α M v w x y Q h rv rw' q;unfold dAdd at q
 split at q
 .rename_i i j;cases rv;cases rw';exact .inl (.inl ⟨i,j,rfl,rfl,q _ H α Ext.refl h (.int (i+j))⟩)
 .rename_i i j;cases rv;cases rw'
  split at q
  .rename_i c;exact .inl (.inr ⟨i,j,rfl,rfl,ZoB c,q _ H α Ext.refl h (.str _)⟩)
  .exact q.elim
 .rename_i n m;cases rv with
  |@ref p _ hp=>
   cases rw' with
   |@ref p2 _ hp2=>
    split at q
    .rename_i ds ds2 e1 e2
     split at q
     .rename_i c;obtain⟨xs,g1,r1⟩:=h.at hp e1;obtain⟨ys,g2,r2⟩:=h.at hp2 e2;refine .inr (.inl ⟨p,p2,xs,ys,rfl,rfl,g1,g2,by rw[r1.length,r2.length];exact aQ c (by decide),λl hl=>?_⟩)
      exact q _ _ (α++[l]) (Ext.new hl) (h.new hl (r1.append r2)) (.ref ⟨h.last l,Kn.lst Zs⟩)
     .exact q.elim
    .exact q.elim
 .rename_i ds ds2;cases rv with
  |@tup p xs _ hp rp=>
   cases rw' with
   |@tup p2 xs2 _ hp2 rp2=>
    split at q
    .rename_i c;have nx:xs≠[]:=λz=>c.2 (by have:=rp.length;rw[z]at this;exact dR this.symm)
     refine .inr (.inr ⟨p,p2,xs,xs2,rfl,rfl,(SqT.of hp),(SqT.of hp2),nx,by rw[rp.length,rp2.length];exact ZoB c.1,λz=>?_,λ_ l hl=>?_⟩)
     .subst z;cases rp2;rw[bR]at q;exact q _ H α Ext.refl h (.tup hp rp)
     .exact q _ _ α (Ext.new0 hl) (h.tup hl) (.tup Zs (Reps.mono (Ext.new0 hl) (rp.append rp2)))
    .exact q.elim
 .exact q.elim
theorem ZaM(ha:DE X ξ a fa)(hb:DE X ξ b fb):DE X ξ (.BinOp a .Add b pos) (e2 dAdd fa fb):=ZgH Zmm ZoH ha hb
theorem Zal(ha:DE X ξ a fa)(hb:DE X ξ b fb):DE X ξ (.BinOp a .Sub b pos) (e2 dSub fa fb):=ZgH Zoe ZoC ha hb
theorem Zad(ha:DE X ξ a fa)(hb:DE X ξ b fb):DE X ξ (.BinOp a .Mult b pos) (e2 dMul fa fb):=ZgH Zml ZoD ha hb
theorem ZU(ha:DE X ξ a fa)(hb:DE X ξ b fb):DE X ξ (.BinOp a .FloorDiv b pos) (e2 dDiv fa fb):=ZgH ZjU ZoE ha hb
theorem ZD(ha:DE X ξ a fa)(hb:DE X ξ b fb):DE X ξ (.BinOp a .Mod b pos) (e2 dMod fa fb):=ZgH ZlV ZoF ha hb
theorem Zb1(ha:DE X ξ a fa)(hb:DE X ξ b fb):DE X ξ (.BinOp a .Pow b pos) (e2 dPow fa fb):=ZgH Zof ZoG ha hb
def Zfe(f:Ev):Ev:=λρ M=>(f ρ M).bind λx M1=>match x with|.int i=>.ok (.int (-i)) M1|_=>.bad
theorem Zb2(ha:DE X ξ a fa):DE X ξ (.UnaryOp .USub a pos) (Zfe fa):=by
 obtain⟨ta,ha,qa⟩:=ha;refine⟨_,ZrG Zog ha,λσ ρ H α M Q s h q=>?_⟩;refine qa σ ρ H α M _ s h (OG.seq q λx M1 v H1 α1 e1 h1 r1 q1=>?_);cases r1 with
 |int i=>exact⟨i,rfl,q1 _ H1 α1 Ext.refl h1 (.int (-i))⟩
 |_=>exact q1.elim
def atD(xs:List D)(i:Int)(M:Sto):Out D:=match atI xs i with|some d=>.ok d M|none=>.bad
def dIx:Bo:=λx y M=>match x,y with
 |.tup xs,.int i=>atD xs i M
 |.rol xs,.int i=>atD xs i M
 |.ref n,.int i=>match M[n]? with|some (.lst xs)=>atD xs i M|_=>.bad
 |_,_=>.bad
theorem Reps.atI{K:Fg}(r:Reps K H α vs ds)(h:L2.atI ds i=some d):∃v,L2.atI vs i=some v/\Rep K H α v d:=by
 unfold L2.atI at h ⊢;rw[r.length];cases e:ixN ds.length i with
 |none=>rw[e]at h;cases h
 |some j=>
  rw[e]at h;exact r.get h
theorem ZrU:BO X ξ (λx y H Q=>ZtF X.K x y H Q\/ZtG X.K x y H Q) dIx:=by
 intro H α M v w x y Q h rv rw' q;have at':∀{ds:List D}{i:Int},OP X.K H α ξ Q (atD ds i M)->∃d,L2.atI ds i=some d/\OP X.K H α ξ Q (.ok d M):=λ{ds i} q=>by
  unfold atD at q;cases e:L2.atI ds i with
  |none=>rw[e]at q;exact q.elim
  |some d=>rw[e]at q;exact⟨d,rfl,q⟩
 unfold dIx at q
 split at q
 .rename_i ds i;cases rw';cases rv with
  |@tup p xs _ hp rp=>
   obtain⟨d,e,q⟩:=at' q;obtain⟨v,h1,h2⟩:=rp.atI e;exact .inr ⟨p,xs,i,v,rfl,rfl,(SqT.of hp),h1,q v H α Ext.refl h h2⟩
 .rename_i ds i;cases rw';cases rv with
  |@rol p xs _ hp rp=>
   obtain⟨d,e,q⟩:=at' q;obtain⟨v,h1,h2⟩:=rp.atI e;exact .inl ⟨p,xs,i,v,rfl,rfl,hp.sq,h1,q v H α Ext.refl h h2⟩
 .rename_i n i;cases rw';cases rv with
  |@ref p _ hp=>
   split at q
   .rename_i ds e1;obtain⟨d,e,q⟩:=at' q;obtain⟨xs,g1,r1⟩:=h.at hp e1;obtain⟨v,h1,h2⟩:=r1.atI e;exact .inl ⟨p,xs,i,v,rfl,rfl,SqL.of g1,h1,q v H α Ext.refl h h2⟩
   .exact q.elim
 .exact q.elim
theorem Zt(ha:DE X ξ a fa)(hb:DE X ξ b fb)(hs:Zhy b:=by exact λ_ _=>rfl):DE X ξ (.Subscript a b pos) (e2 dIx fa fb):=by
 obtain⟨ta,ha,qa⟩:=ha;obtain⟨tb,hb,qb⟩:=hb;exact⟨_,ZrK (IxR.or Zl8 Zon) ha hb hs,two ZrU qa qb⟩
end
inductive Kd where
 |non|bl (b:Bool)|int (i:Int)|str (x:Str)|tup (xs:List D)|lst (xs:List D)
noncomputable def kd(M:Sto):D->Option Kd
 |.non=>some .non
 |.bl b=>some (.bl b)
 |.int i=>some (.int i)
 |.str x=>some (.str x)
 |.tup xs=>some (.tup xs)
 |.rol xs=>some (.lst xs)
 |.con xs=>some (.tup xs)
 |.ref n=>match M[n]? with|some (.lst xs)=>some (.lst xs)|_=>none
 |.err _ _=>none
 |.dk _=>none
 |.dt _=>none
 |.du _=>none
 |.fn _=>none
noncomputable def eqL(f:D->D->Option Bool):List D->List D->Option Bool
 |[],[]=>some true
 |x::xs,y::ys=>match f x y with|some a=>(match eqL f xs ys with|some b=>some (a&&b)|none=>none)|none=>none
 |_,_=>some false
def eqK(f:D->D->Option Bool):Kd->Kd->Option Bool
 |.non,.non=>some true
 |.bl a,.bl b=>some (a==b)
 |.bl a,.int b=>some ((if a then 1 else 0)==b)
 |.int a,.bl b=>some (a==(if b then 1 else 0))
 |.int a,.int b=>some (a==b)
 |.str a,.str b=>some (a==b)
 |.tup xs,.tup ys=>eqL f xs ys
 |.lst xs,.lst ys=>if xs.length=ys.length then eqL f xs ys else some false
 |_,_=>some false
def eqF:Nat->Sto->D->D->Option Bool
 |0,_,_,_=>none
 |n+1,M,x,y=>match kd M x,kd M y with|some a,some b=>eqK (eqF n M) a b|_,_=>none
inductive Vw(X:Cx) (H:Hp) (α:List Addr) (s:az):Kd->aa->Prop where
 |non:Vw X H α s .non .none
 |bl (b:Bool):Vw X H α s (.bl b) (.bool b)
 |int (i:Int) (t:Tok):Vw X H α s (.int i) (.int i t)
 |str (x:Str) (t:Tok):Vw X H α s (.str x) (.str x t)
 |tup {p:Addr} {xs:List V} {ds:List D} {its:List aa}:s.heap.IsTuple p its.toArray->Zaj xs its->Reps X.K H α xs ds->Vw X H α s (.tup ds) (.ref p)
 |lst {p:Addr} {xs:List V} {ds:List D} {its:List aa}:s.heap.IsList p its.toArray->Zaj xs its->Reps X.K H α xs ds->Vw X H α s (.lst ds) (.ref p)
section
variable {X:Cx}{pins:Pn}{σ:L2.St}{H:Hp}{s:az}{α:List Addr}{M:Sto}
theorem vw(I:Inv X pins σ H s)(h:HR X.K H α M)(r:Rep X.K H α v x)(ru:Zah v u)(e:kd M x=some k):Vw X H α s k u:=by
 cases r with
 |non=>cases e;cases ru;exact .non
 |bl b=>cases e;cases ru;exact .bl b
 |int i=>cases e;obtain⟨t,rfl⟩:=ru;exact .int i t
 |str x=>cases e;obtain⟨t,rfl⟩:=ru;exact .str x t
 |err _ _ _=>cases e
 |dk _=>cases e
 |dt _=>cases e
 |du _=>cases e
 |fn _=>cases e
 |@tup p xs ds hp rp=>
  cases e;cases ru;obtain⟨its,h1,h2,_⟩:=I.tuple (SqT.of hp);exact .tup h2 h1 rp
 |@con p xs ds hp rp=>
  cases e;cases ru;obtain⟨its,h1,h2,_⟩:=I.tuple hp.sq;exact .tup h2 h1 rp
 |@rol p xs ds hp rp=>
  cases e;cases ru;obtain⟨its,h1,h2,_⟩:=I.list hp.sq;exact .lst h2.isList h1 rp
 |@ref p n hp=>
  cases ru;cases e1:M[n]? with
  |none=>simp only[kd,e1]at e;cases e
  |some o=>
   cases o with
   |lst ds=>
    simp only[kd,e1]at e;cases e;obtain⟨xs,g1,r1⟩:=h.at hp e1;obtain⟨its,h1,h2,_⟩:=I.list (SqL.of g1);exact .lst h2.isList h1 r1
noncomputable def Eq3(A:cb)(s:az)(u z:aa)(b:Bool):Prop:=EqAt A s u z b/\RcAt A s u z b/\RcNeAt A s u z (!b)
theorem ZhO{f:D->D->Option Bool}:∀{xs ys:List D}{b:Bool},eqL f xs ys=some b->(∀(j:Nat) x y,xs[j]?=some x->ys[j]?=some y->∃c,f x y=some c)/\b=((ay (min xs.length ys.length)).all (λj=>match xs[j]?,ys[j]? with|some x,some y=>(f x y).getD false|_,_=>false)&&xs.length==ys.length)
 |[],[],b,e=>by
  simp only[eqL,aj]at e;subst e;exact⟨λj x y h=>(by simp at h),(by simp)⟩
 |x::xs,[],b,e=>by
  simp only[eqL,aj]at e;subst e;exact⟨λj x y h1 h2=>(by simp at h2),(by simp)⟩
 |[],y::ys,b,e=>by
  simp only[eqL,aj]at e;subst e;exact⟨λj x y h1 h2=>(by simp at h1),(by simp)⟩
 |x::xs,y::ys,b,e=>by
  cases e1:f x y with
  |none=>simp only[eqL,e1]at e;cases e
  |some a=>
   cases e2:eqL f xs ys with
   |none=>simp only[eqL,e1,e2]at e;cases e
   |some c=>
    simp only[eqL,e1,e2,aj]at e;subst e;obtain⟨h1,h2⟩:=ZhO e2;refine⟨λj x' y' g1 g2=>?_,?_⟩
    .cases j with
     |zero=>
      simp at g1 g2;subst g1 g2;exact⟨a,e1⟩
     |succ j=>
      simp at g1 g2;exact h1 j x' y' g1 g2
    .have em:min (x::xs).length (y::ys).length=min xs.length ys.length+1:=by simp only[aH];lia
     rw[em,i5,kq,List.all_map,h2];simp[e1,Bool.and_assoc,Function.comp_def]
theorem ZjW(I:Inv X pins σ H s)(h:HR X.K H α M):∀(n:Nat){v:V}{x y:D}{b:Bool},Rep X.K H α v x->Rep X.K H α v y->eqF n M x y=some b->b=true:=by
 intro n
 induction n with
 |zero=>intro v x y b _ _ e;simp only[eqF]at e;cases e
 |succ n ih=>
  have lists:∀(vs:List V)(xs ys:List D)(b:Bool),Reps X.K H α vs xs->Reps X.K H α vs ys->eqL (eqF n M) xs ys=some b->b=true:=by
   intro vs
   induction vs with
   |nil=>
    intro xs ys b r1 r2 e;cases r1;cases r2;simp only[eqL,aj]at e;exact e.symm
   |cons v vs iv=>
    intro xs ys b r1 r2 e;cases r1 with
    |cons p1 t1=>
     cases r2 with
     |cons p2 t2=>
      rename_i d1 ds1 d2 ds2;cases e1:eqF n M d1 d2 with
      |none=>simp only[eqL,e1]at e;cases e
      |some a=>
       cases e2:eqL (eqF n M) ds1 ds2 with
       |none=>simp only[eqL,e1,e2]at e;cases e
       |some c=>
        simp only[eqL,e1,e2,aj]at e;rw[<-e,ih p1 p2 e1,iv _ _ _ t1 t2 e2];rfl
  intro v x y b r1 r2 e;have nl:∀{p:Addr}{xs ys:List V},SqT X.K H p xs->SqL X.K H p ys->False:=λ{p xs ys} a c=>by
   obtain⟨i1,_,⟨o1,g1,c1,_⟩,_⟩:=I.tuple a;obtain⟨i2,_,⟨o2,_,g2,c2,_⟩,_⟩:=I.list c;rw[g1]at g2;cases g2;rw[c1]at c2;exact absurd c2 (by decide)
  have ll:∀{p:Addr}{n:Nat}{ds:List D},RefK H α 0 n p->M[n]?=some (.lst ds)->∃vs,SqL X.K H p vs/\Reps X.K H α vs ds:=λ{p n ds} a c=>by
   obtain⟨xs,g1,r1⟩:=h.at a c;exact⟨xs,SqL.of g1,r1⟩
  cases r1 with
  |non=>cases r2;simp only[eqF,kd,eqK,aj]at e;exact e.symm
  |bl c=>cases r2;simp only[eqF,kd,eqK,aj,beq_self_eq_true]at e;exact e.symm
  |int c=>cases r2;simp only[eqF,kd,eqK,aj,beq_self_eq_true]at e;exact e.symm
  |str c=>cases r2;simp only[eqF,kd,eqK,aj,beq_self_eq_true]at e;exact e.symm
  |err _ _ _=>simp[eqF,kd]at e
  |dk _=>simp[eqF,kd]at e
  |dt _=>simp[eqF,kd]at e
  |du _=>simp[eqF,kd]at e
  |fn _=>simp[eqF,kd]at e
  |@tup p xs ds hp rp=>
   cases r2 with
   |@tup _ xs2 ds2 hp2 rp2=>
    cases I.tuple_inj (SqT.of hp) (SqT.of hp2);simp only[eqF,kd,eqK]at e;exact lists _ _ _ _ rp rp2 e
   |@con _ xs2 ds2 hp2 rp2=>
    cases I.tuple_inj (SqT.of hp) hp2.sq;simp only[eqF,kd,eqK]at e;exact lists _ _ _ _ rp rp2 e
   |@rol _ xs2 ds2 hp2 rp2=>exact(nl (SqT.of hp) hp2.sq).elim
   |err _ _ _=>simp[eqF,kd]at e
   |dk _=>simp[eqF,kd]at e
   |dt _=>simp[eqF,kd]at e
   |du _=>simp[eqF,kd]at e
   |fn _=>simp[eqF,kd]at e
   |@ref _ n2 hp2=>
    obtain⟨ys,g⟩:=h.some_at hp2;exact(nl (SqT.of hp) (SqL.of g)).elim
  |@con p xs ds hp rp=>
   cases r2 with
   |@tup _ xs2 ds2 hp2 rp2=>
    cases I.tuple_inj hp.sq (SqT.of hp2);simp only[eqF,kd,eqK]at e;exact lists _ _ _ _ rp rp2 e
   |@con _ xs2 ds2 hp2 rp2=>
    cases I.tuple_inj hp.sq hp2.sq;simp only[eqF,kd,eqK]at e;exact lists _ _ _ _ rp rp2 e
   |@rol _ xs2 ds2 hp2 rp2=>exact(nl hp.sq hp2.sq).elim
   |err _ _ _=>simp[eqF,kd]at e
   |dk _=>simp[eqF,kd]at e
   |dt _=>simp[eqF,kd]at e
   |du _=>simp[eqF,kd]at e
   |fn _=>simp[eqF,kd]at e
   |@ref _ n2 hp2=>
    obtain⟨ys,g⟩:=h.some_at hp2;exact(nl hp.sq (SqL.of g)).elim
  |@rol p xs ds hp rp=>
   cases r2 with
   |@tup _ xs2 ds2 hp2 rp2=>exact(nl (SqT.of hp2) hp.sq).elim
   |@con _ xs2 ds2 hp2 rp2=>exact(nl hp2.sq hp.sq).elim
   |err _ _ _=>simp[eqF,kd]at e
   |dk _=>simp[eqF,kd]at e
   |dt _=>simp[eqF,kd]at e
   |du _=>simp[eqF,kd]at e
   |fn _=>simp[eqF,kd]at e
   |@rol _ xs2 ds2 hp2 rp2=>
    cases I.list_inj hp.sq hp2.sq;simp only[eqF,kd,eqK,if_pos (rp.length.symm.trans rp2.length)]at e;exact lists _ _ _ _ rp rp2 e
   |@ref _ n2 hp2=>
    cases e1:M[n2]? with
    |none=>simp only[eqF,kd,e1]at e;cases e
    |some o=>
     cases o with
     |lst ds2=>
      obtain⟨ys,g,r⟩:=ll hp2 e1;cases I.list_inj hp.sq g;simp only[eqF,kd,e1,eqK,if_pos (rp.length.symm.trans r.length)]at e;exact lists _ _ _ _ rp r e
  |@ref p n1 hp=>
   cases e0:M[n1]? with
   |none=>simp only[eqF,kd,e0]at e;cases e
   |some o0=>
    cases o0 with
    |lst ds=>
     obtain⟨xs,g0,rp⟩:=ll hp e0;cases r2 with
     |@tup _ xs2 ds2 hp2 rp2=>exact(nl (SqT.of hp2) g0).elim
     |@con _ xs2 ds2 hp2 rp2=>exact(nl hp2.sq g0).elim
     |err _ _ _=>simp[eqF,kd,e0]at e
     |dk _=>simp[eqF,kd,e0]at e
     |dt _=>simp[eqF,kd,e0]at e
     |du _=>simp[eqF,kd,e0]at e
     |fn _=>simp[eqF,kd,e0]at e
     |@rol _ xs2 ds2 hp2 rp2=>
      cases I.list_inj g0 hp2.sq;simp only[eqF,kd,e0,eqK,if_pos (rp.length.symm.trans rp2.length)]at e;exact lists _ _ _ _ rp rp2 e
     |@ref _ n2 hp2=>
      cases e1:M[n2]? with
      |none=>simp only[eqF,kd,e0,e1]at e;cases e
      |some o=>
       cases o with
       |lst ds2=>
        obtain⟨ys,g,r⟩:=ll hp2 e1;cases I.list_inj g0 g;simp only[eqF,kd,e0,e1,eqK,if_pos (rp.length.symm.trans r.length)]at e;exact lists _ _ _ _ rp r e
end
end DL
namespace DL
open PyProof.Rows L2
open PySem.SeqAt (EqAt RcAt RcNeAt)
section
variable {X:Cx}{pins:Pn}{σ:L2.St}{H:Hp}{s:az}{α:List Addr}{M:Sto}
theorem ZfO(v1:Zaj xs1 i1)(v2:Zaj xs2 i2)(r1:Reps X.K H α xs1 ds1)(r2:Reps X.K H α xs2 ds2)(ih:∀(x y:D)(v w:V)(u z:aa)(b:Bool),eqF n M x y=some b->Rep X.K H α v x->Rep X.K H α w y->Zah v u->Zah w z->EqAt A s u z b)(e:eqL (eqF n M) ds1 ds2=some b):∃f:Nat->Bool,(∀(j:Nat)(h1:j<i1.toArray.size)(h2:j<i2.toArray.size),EqAt A s i1.toArray[j] i2.toArray[j] (f j))/\b=((ay (min i1.toArray.size i2.toArray.size)).all f&&i1.toArray.size==i2.toArray.size):=by
 obtain⟨g1,g2⟩:=ZhO e;have l1:i1.toArray.size=ds1.length:=by rw[aE,<-v1.length,r1.length]
 have l2:i2.toArray.size=ds2.length:=by rw[aE,<-v2.length,r2.length]
 refine⟨_,λj h1 h2=>?_,by rw[l1,l2];exact g2⟩
 have k1:j<ds1.length:=by rw[<-l1];exact h1
 have k2:j<ds2.length:=by rw[<-l2];exact h2
 obtain⟨c,hc⟩:=g1 j _ _ (Gq k1) (Gq k2);obtain⟨v,a1,a2⟩:=r1.get (Gq k1);obtain⟨w,b1,b2⟩:=r2.get (Gq k2);obtain⟨u,a3,a4⟩:=v1.get a1;obtain⟨z,b3,b4⟩:=v2.get b1;have q:=ih _ _ v w u z c hc a2 b2 a4 b4;simp only[aq k1,aq k2,hc,gD];have e1:i1.toArray[j]=u:=by
  have:=au.mp a3
  obtain⟨_,z⟩:=this
  simpa using z
 have e2:i2.toArray[j]=z:=by
  have:=au.mp b3
  obtain⟨_,z⟩:=this
  simpa using z
 rw[e1,e2];exact q
theorem ZhP(I:Inv X pins σ H s)(h:HR X.K H α M)(e:eqF n M x y=some b)(rx:Rep X.K H α v x)(ry:Rep X.K H α w y)(rv:Zah v (.ref p))(rw':Zah w (.ref q))(k:RcAt A s (.ref p) (.ref q) b)(k':RcNeAt A s (.ref p) (.ref q) (!b)):Eq3 A s (.ref p) (.ref q) b:=by
 refine⟨?_,k,k'⟩;by_cases c:p=q
 .subst c;cases Zah.inj rv rw';rw[ZjW I h n rx ry e];exact EqAt.same _
 .exact EqAt.of_refs c k
theorem eq3(I:Inv X pins σ H s)(h:HR X.K H α M):∀(n:Nat)(x y:D)(v w:V)(u z:aa)(b:Bool)(A:cb),A.units+n<gU->eqF n M x y=some b->Rep X.K H α v x->Rep X.K H α w y->Zah v u->Zah w z->Eq3 A s u z b:=by
 intro n
 induction n with
 |zero=>intro x y v w u z b A _ e;simp only[eqF]at e;cases e
 |succ n ih=>
  intro x y v w u z b A hn e rx ry rv rw';have hu:A.units<gU:=⋯
  have e0:=e;unfold eqF at e;cases ka:kd M x with
  |none=>rw[ka]at e;cases e
  |some ka'=>
   cases kb:kd M y with
   |none=>rw[ka,kb]at e;cases e
   |some kb'=>
    rw[ka,kb]at e;have va:=vw I h rx rv ka;have vb:=vw I h ry rw' kb;have deep:∀(x y:D)(v w:V)(u z:aa)(b:Bool),eqF n M x y=some b->Rep X.K H α v x->Rep X.K H α w y->Zah v u->Zah w z->EqAt A.in1 s u z b:=λx y v w u z b e a1 a2 a3 a4=>
     (ih x y v w u z b A.in1 (by rw[cb.in1_units];lia) e a1 a2 a3 a4).1
    cases va with
    |non=>
     cases vb<;>simp only[eqK,aj]at e<;>subst e
     .exact⟨EqAt.same _,.none_none,.none_none⟩
     .exact⟨.none_bool _,.none_bool _,.none_bool _⟩
     .exact⟨.none_int _ _,.none_int _ _,.none_int _ _⟩
     .exact⟨.none_str _ _,.none_str _ _,.none_str _ _⟩
     .rename_i g _ _;exact⟨.none_tuple g hu,.none_tuple g hu,.none_tuple g hu⟩
     .rename_i g _ _;exact⟨.none_list g hu,.none_list g hu,.none_list g hu⟩
    |bl c=>
     cases vb<;>simp only[eqK,aj]at e<;>subst e
     .exact⟨.bool_none _,.bool_none _,.bool_none _⟩
     .exact⟨.bool_bool _ _,.bool_bool _ _,.bool_bool _ _⟩
     .exact⟨.bool_int _ _ _,.bool_int _ _ _,.bool_int _ _ _⟩
     .exact⟨.bool_str _ _ _,.bool_str _ _ _,.bool_str _ _ _⟩
     .rename_i g _ _;exact⟨.bool_tuple _ g hu,.bool_tuple _ g hu,.bool_tuple _ g hu⟩
     .rename_i g _ _;exact⟨.bool_list _ g hu,.bool_list _ g hu,.bool_list _ g hu⟩
    |int c t=>
     cases vb<;>simp only[eqK,aj]at e<;>subst e
     .exact⟨.int_none _ _,.int_none _ _,.int_none _ _⟩
     .exact⟨.int_bool _ _ _,.int_bool _ _ _,.int_bool _ _ _⟩
     .exact⟨.int_int _ _ _ _,.int_int _ _ _ _,.int_int _ _ _ _⟩
     .exact⟨.int_str _ _ _ _,.int_str _ _ _ _,.int_str _ _ _ _⟩
     .rename_i g _ _;exact⟨.int_tuple _ _ g hu,.int_tuple _ _ g hu,.int_tuple _ _ g hu⟩
     .rename_i g _ _;exact⟨.int_list _ _ g hu,.int_list _ _ g hu,.int_list _ _ g hu⟩
    |str c t=>
     cases vb<;>simp only[eqK,aj]at e<;>subst e
     .exact⟨.str_none _ _,.str_none _ _,.str_none _ _⟩
     .exact⟨.str_bool _ _ _,.str_bool _ _ _,.str_bool _ _ _⟩
     .exact⟨.str_int _ _ _ _,.str_int _ _ _ _,.str_int _ _ _ _⟩
     .exact⟨.str_str _ _ _ _,.str_str _ _ _ _,.str_str _ _ _ _⟩
     .rename_i g _ _;exact⟨.str_tuple _ _ g hu,.str_tuple _ _ g hu,.str_tuple _ _ g hu⟩
     .rename_i g _ _;exact⟨.str_list _ _ g hu,.str_list _ _ g hu,.str_list _ _ g hu⟩
    |@tup p xs ds its g1 w1 q1=>
     cases vb with
     |@tup p2 xs2 ds2 its2 g2 w2 q2=>
      simp only[eqK]at e;obtain⟨f,hf,hb⟩:=ZfO w1 w2 q1 q2 deep e;subst hb;exact ZhP I h e0 rx ry rv rw' (.tuples g1 g2 hu hf) (.tuples g1 g2 hu hf)
     |@lst p2 xs2 ds2 its2 g2 w2 q2=>
      simp only[eqK,aj]at e;subst e;exact ZhP I h e0 rx ry rv rw' (.tuple_list g1 g2 hu) (.tuple_list g1 g2 hu)
     |non=>simp only[eqK,aj]at e;subst e;exact⟨.tuple_none g1 hu,.tuple_none g1 hu,.tuple_none g1 hu⟩
     |bl c=>simp only[eqK,aj]at e;subst e;exact⟨.tuple_bool _ g1 hu,.tuple_bool _ g1 hu,.tuple_bool _ g1 hu⟩
     |int c t=>simp only[eqK,aj]at e;subst e;exact⟨.tuple_int _ _ g1 hu,.tuple_int _ _ g1 hu,.tuple_int _ _ g1 hu⟩
     |str c t=>simp only[eqK,aj]at e;subst e;exact⟨.tuple_str _ _ g1 hu,.tuple_str _ _ g1 hu,.tuple_str _ _ g1 hu⟩
    |@lst p xs ds its g1 w1 q1=>
     cases vb with
     |@lst p2 xs2 ds2 its2 g2 w2 q2=>
      simp only[eqK]at e;have l1:its.toArray.size=ds.length:=by rw[aE,<-w1.length,q1.length]
      have l2:its2.toArray.size=ds2.length:=by rw[aE,<-w2.length,q2.length]
      by_cases c:ds.length=ds2.length
      .rw[if_pos c]at e;have hs:its.toArray.size=its2.toArray.size:=by rw[l1,l2,c]
       obtain⟨f,hf,hb⟩:=ZfO w1 w2 q1 q2 deep e;rw[hs,Nat.min_self,beq_self_eq_true,Bool.and_true,<-hs]at hb;subst hb;exact ZhP I h e0 rx ry rv rw' (.lists g1 g2 hs hu hf) (.lists g1 g2 hs hu hf)
      .rw[if_neg c]at e;have e':false=b:=a9 e;subst e';have hs:(its.toArray.size != its2.toArray.size)=true:=by rw[l1,l2];simpa using c
       exact ZhP I h e0 rx ry rv rw' (.lists_lengths g1 g2 hs hu) (.lists_lengths g1 g2 hs hu)
     |@tup p2 xs2 ds2 its2 g2 w2 q2=>
      simp only[eqK,aj]at e;subst e;exact ZhP I h e0 rx ry rv rw' (.list_tuple g1 g2 hu) (.list_tuple g1 g2 hu)
     |non=>simp only[eqK,aj]at e;subst e;exact⟨.list_none g1 hu,.list_none g1 hu,.list_none g1 hu⟩
     |bl c=>simp only[eqK,aj]at e;subst e;exact⟨.list_bool _ g1 hu,.list_bool _ g1 hu,.list_bool _ g1 hu⟩
     |int c t=>simp only[eqK,aj]at e;subst e;exact⟨.list_int _ _ g1 hu,.list_int _ _ g1 hu,.list_int _ _ g1 hu⟩
     |str c t=>simp only[eqK,aj]at e;subst e;exact⟨.list_str _ _ g1 hu,.list_str _ _ g1 hu,.list_str _ _ g1 hu⟩
end
section
def Zrg(X:Cx)(neg:Bool):R2:=λv w H Q=>∃α M x y b,HR X.K H α M/\Rep X.K H α v x/\Rep X.K H α w y/\eqF 12 M x y=some b/\Q (.bl (neg ^^ b)) H
theorem ZF(hu:X.A.units+64<gU):OpR X (cB .Eq) (Zrg X false):=by
 intro pins s σ H v w u z Q I rv rw' hz;obtain⟨α,M,x,y,b,h,rx,ry,e,q⟩:=hz;refine(eq3 I h 12 x y v w u z b X.A ⋯ e rx ry rv rw').2.1 _ _ _ _ ⟨.bl b,H,I,rfl,?_⟩
 simpa using q
theorem ZaT(hu:X.A.units+64<gU):OpR X (cB .NotEq) (Zrg X true):=by
 intro pins s σ H v w u z Q I rv rw' hz;obtain⟨α,M,x,y,b,h,rx,ry,e,q⟩:=hz;refine(eq3 I h 12 x y v w u z b X.A ⋯ e rx ry rv rw').2.2 _ _ _ _ ⟨.bl (!b),H,I,rfl,?_⟩
 simpa using q
def dEq:Bo:=λx y M=>match eqF 12 M x y with|some b=>.ok (.bl b) M|none=>.bad
def dNe:Bo:=λx y M=>match eqF 12 M x y with|some b=>.ok (.bl (!b)) M|none=>.bad
theorem Z2:BO X ξ (Zrg X false) dEq:=by
 intro H α M v w x y Q h rv rw' q;unfold dEq at q;cases e:eqF 12 M x y with
 |none=>rw[e]at q;exact q.elim
 |some b=>rw[e]at q;exact⟨α,M,x,y,b,h,rv,rw',e,by simpa using q _ H α Ext.refl h (.bl b)⟩
theorem Zb7:BO X ξ (Zrg X true) dNe:=by
 intro H α M v w x y Q h rv rw' q;unfold dNe at q;cases e:eqF 12 M x y with
 |none=>rw[e]at q;exact q.elim
 |some b=>rw[e]at q;exact⟨α,M,x,y,b,h,rv,rw',e,by simpa using q _ H α Ext.refl h (.bl (!b))⟩
noncomputable def ZhQ:V->Bool
 |.non=>true
 |.bl _=>true
 |_=>false
def rIs(neg:Bool):R2:=λv w H Q=>ZhQ w=true/\Q (.bl (neg ^^ decide (v=w))) H
theorem ZfP(rv:Zah v u)(rw':Zah w z)(p:ZhQ w=true):plainIs u z=true/\(u==z)=decide (v=w):=by
 cases w with
 |non=>
  cases rw';cases v with
  |non=>cases rv;exact⟨rfl,rfl⟩
  |bl b=>cases rv;exact⟨rfl,by rw[decide_eq_false (λz=>(nomatch z))];rfl⟩
  |int b=>obtain⟨t,rfl⟩:=rv;exact⟨rfl,by rw[decide_eq_false (λz=>(nomatch z))];rfl⟩
  |str b=>obtain⟨t,rfl⟩:=rv;exact⟨rfl,by rw[decide_eq_false (λz=>(nomatch z))];rfl⟩
  |byt b=>obtain⟨t,rfl⟩:=rv;exact⟨rfl,by rw[decide_eq_false (λz=>(nomatch z))];rfl⟩
  |flt b=>obtain⟨t,rfl⟩:=rv;exact⟨rfl,by rw[decide_eq_false (λz=>(nomatch z))];rfl⟩
  |ref b=>cases rv;exact⟨rfl,by rw[decide_eq_false (λz=>(nomatch z))];rfl⟩
  |ty b=>cases rv;exact⟨rfl,by rw[decide_eq_false (λz=>(nomatch z))];rfl⟩
 |bl c=>
  cases rw';cases v with
  |non=>cases rv;exact⟨rfl,by rw[decide_eq_false (λz=>(nomatch z))];rfl⟩
  |bl b=>cases rv;refine⟨rfl,?_⟩;cases b<;>cases c<;>rfl
  |int b=>obtain⟨t,rfl⟩:=rv;exact⟨rfl,by rw[decide_eq_false (λz=>(nomatch z))];rfl⟩
  |str b=>obtain⟨t,rfl⟩:=rv;exact⟨rfl,by rw[decide_eq_false (λz=>(nomatch z))];rfl⟩
  |byt b=>obtain⟨t,rfl⟩:=rv;exact⟨rfl,by rw[decide_eq_false (λz=>(nomatch z))];rfl⟩
  |flt b=>obtain⟨t,rfl⟩:=rv;exact⟨rfl,by rw[decide_eq_false (λz=>(nomatch z))];rfl⟩
  |ref b=>cases rv;exact⟨rfl,by rw[decide_eq_false (λz=>(nomatch z))];rfl⟩
  |ty b=>cases rv;exact⟨rfl,by rw[decide_eq_false (λz=>(nomatch z))];rfl⟩
 |_=>cases p
theorem ZhR:OpR X (cB .Is) (rIs false):=by
 intro pins s σ H v w u z Q I rv rw' hz;obtain⟨p,q⟩:=hz;obtain⟨h1,h2⟩:=ZfP rv rw' p;refine wpAny_is_plain h1 ⟨.bl (u==z),H,I,rfl,?_⟩;rw[h2]
 simpa using q
theorem ZhS:OpR X (cB .IsNot) (rIs true):=by
 intro pins s σ H v w u z Q I rv rw' hz;obtain⟨p,q⟩:=hz;obtain⟨h1,h2⟩:=ZfP rv rw' p;refine wpAny_isNot_plain h1 ⟨.bl (!(u==z)),H,I,rfl,?_⟩;rw[h2]
 simpa using q
noncomputable def isP:D->D->Option Bool
 |.non,.non=>some true
 |.bl a,.bl b=>some (a==b)
 |_,.non=>some false
 |_,.bl _=>some false
 |_,_=>none
def dIs:Bo:=λx y M=>match isP x y with|some b=>.ok (.bl b) M|none=>.bad
def dIsNot:Bo:=λx y M=>match isP x y with|some b=>.ok (.bl (!b)) M|none=>.bad
theorem Zk4{K:Fg}(rv:Rep K H α v x)(rw':Rep K H α w y)(e:isP x y=some b):ZhQ w=true/\decide (v=w)=b:=by
 unfold isP at e
 split at e
 .cases rv;cases rw';cases e;exact⟨rfl,rfl⟩
 .rename_i c d;cases rv;cases rw';cases e;refine⟨rfl,?_⟩;cases c<;>cases d<;>rfl
 .rename_i hx;cases rw';cases e;refine⟨rfl,decide_eq_false λz=>?_⟩;subst z;cases rv;exact hx rfl
 .rename_i c hx;cases rw';cases e;refine⟨rfl,decide_eq_false λz=>?_⟩;subst z;cases rv;exact hx _ rfl
 .cases e
theorem Zmn:BO X ξ (rIs false) dIs:=by
 intro H α M v w x y Q h rv rw' q;unfold dIs at q;cases e:isP x y with
 |none=>rw[e]at q;exact q.elim
 |some b=>
  rw[e]at q;obtain⟨p,d⟩:=Zk4 rv rw' e;exact⟨p,by rw[d];simpa using q _ H α Ext.refl h (.bl b)⟩
theorem ZjX:BO X ξ (rIs true) dIsNot:=by
 intro H α M v w x y Q h rv rw' q;unfold dIsNot at q;cases e:isP x y with
 |none=>rw[e]at q;exact q.elim
 |some b=>
  rw[e]at q;obtain⟨p,d⟩:=Zk4 rv rw' e;exact⟨p,by rw[d];simpa using q _ H α Ext.refl h (.bl (!b))⟩
noncomputable def ZoI:D->Bool
 |.non=>true
 |.bl _=>true
 |.int _=>true
 |.str _=>true
 |_=>false
noncomputable def Zuu:D->D->Bool
 |.non,.non=>true
 |.bl a,.bl b=>a==b
 |.bl a,.int b=>(if a then 1 else 0)==b
 |.int a,.bl b=>a==(if b then 1 else 0)
 |.int a,.int b=>a==b
 |.str a,.str b=>a==b
 |_,_=>false
noncomputable def Zej(M:Sto):D->Option (List D)
 |.tup xs=>some xs
 |.rol xs=>some xs
 |.con xs=>some xs
 |.ref n=>match M[n]? with|some (.lst xs)=>some xs|_=>none
 |_=>none
theorem Zmo{K:Fg}(h:HR K H α M)(r:Rep K H α v x)(e:Zej M x=some ds):∃p xs,v=.ref p/\(SqL K H p xs\/SqT K H p xs)/\Reps K H α xs ds:=by
 cases r with
 |@tup p xs ds hp rp=>cases e;exact⟨p,xs,rfl,.inr (SqT.of hp),rp⟩
 |@con p xs ds hp rp=>cases e;exact⟨p,xs,rfl,.inr hp.sq,rp⟩
 |@rol p xs ds hp rp=>cases e;exact⟨p,xs,rfl,.inl hp.sq,rp⟩
 |@ref p n hp=>
  cases e1:M[n]? with
  |none=>simp only[Zej,e1]at e;cases e
  |some o=>
   cases o with
   |lst es=>
    simp only[Zej,e1]at e;cases e;obtain⟨xs,g1,r1⟩:=h.at hp e1;exact⟨p,xs,rfl,.inl (SqL.of g1),r1⟩
 |_=>cases e
theorem ZjY{K:Fg}(h:HR K H α M)(r:Rep K H α v x)(e:Zej M x=some ds)(nc:∀ys,x≠ .con ys):∃p xs,v=.ref p/\(SqL K H p xs\/H p=some (.tup xs))/\Reps K H α xs ds:=by
 cases r with
 |con _ _=>exact absurd rfl (nc _)
 |@tup p xs ds hp rp=>cases e;exact⟨p,xs,rfl,.inr hp,rp⟩
 |@rol p xs ds hp rp=>cases e;exact⟨p,xs,rfl,.inl hp.sq,rp⟩
 |@ref p n hp=>
  cases e1:M[n]? with
  |none=>simp only[Zej,e1]at e;cases e
  |some o=>
   cases o with
   |lst es=>
    simp only[Zej,e1]at e;cases e;obtain⟨xs,g1,r1⟩:=h.at hp e1;exact⟨p,xs,rfl,.inl (SqL.of g1),r1⟩
 |_=>cases e
def inD(x y:D)(M:Sto):Option Bool:=match Zej M y with|some ds=>if ZoI x=true/\ds.all ZoI=true then some (ds.any λy=>Zuu y x)else none|none=>none
variable {x:Str}{id T:String}
def Zj(f:W3)(fs:Av):Ev:=λρ M=>(fs ρ M).bind f
def CO(X:Cx)(ξ:XK)(r:List V->Hp->VK->Prop)(f:W3):Prop:=∀H α M vs ds Q,HR X.K H α M->Reps X.K H α vs ds->OP X.K H α ξ Q (f ds M)->r vs H Q
theorem Zn(hc:Zcg X (.builtin id) r)(hf:CO X ξ r f)(hm:X.mg x=none)(hv:bg x=some (.builtin id))(ha:DA X ξ (e::es) fs)(hg:autoParam (Gl X x) Qrf._auto_1)(hn:autoParam (x≠"__name__") Qde._auto_1)(hdb:autoParam ((x==("__debug__":Str))=false) Qde._auto_1)
  (he:af (e::es) X.env=(false,eval e X.env)::af es X.env:=by rfl) (hpl:(b8 pos (af es X.env)).any (·.1)=false:=by rfl):DE X ξ (.Call (.Name x p) (e::es) [] pos) (Zj f fs):=by
 obtain⟨ta,ha,qa⟩:=ha;refine⟨_,ZfL hc hg hm hv ha hn hdb he hpl,λσ ρ H α M Q s h q=>?_⟩;exact qa σ ρ H α M _ s h (OG.seq q λds M1 vs H1 α1 e1 h1 r1 q1=>hf H1 α1 M1 vs ds Q h1 r1 q1)
theorem Z5(hc:Zcg X (.type T) r)(hf:CO X ξ r f)(hm:X.mg x=none)(hv:bg x=some (.type T))(ha:DA X ξ (e::es) fs)(hg:autoParam (Gl X x) Qrf._auto_1)(hn:autoParam (x≠"__name__") Qde._auto_1)(hdb:autoParam ((x==("__debug__":Str))=false) Qde._auto_1)
  (he:af (e::es) X.env=(false,eval e X.env)::af es X.env:=by rfl) (hpl:(b8 pos (af es X.env)).any (·.1)=false:=by rfl):DE X ξ (.Call (.Name x p) (e::es) [] pos) (Zj f fs):=by
 obtain⟨ta,ha,qa⟩:=ha;refine⟨_,Zhv hc hg hm hv ha hn hdb he hpl,λσ ρ H α M Q s h q=>?_⟩;exact qa σ ρ H α M _ s h (OG.seq q λds M1 vs H1 α1 e1 h1 r1 q1=>hf H1 α1 M1 vs ds Q h1 r1 q1)
def bLen:W3:=λds M=>match ds with
 |[x]=>match Zej M x with|some xs=>.ok (.int xs.length) M|none=>.bad
 |_=>.bad
theorem ZM:CO X ξ (λxs H Q=>∃p ys,xs=[.ref p]/\(SqL X.K H p ys\/SqT X.K H p ys)/\Q (.int ys.length) H) bLen:=by
 intro H α M vs ds Q h rs q;unfold bLen at q;cases rs with
 |nil=>exact q.elim
 |@cons v x vs ds r t=>
  cases t with
  |cons _ _=>exact q.elim
  |nil=>
  cases e:Zej M x with
  |none=>simp only[e]at q;exact q.elim
  |some ys=>
   simp only[e]at q;obtain⟨p,xs,rfl,h2,h3⟩:=Zmo h r e;exact⟨p,xs,rfl,h2,by rw[h3.length];exact q _ H α Ext.refl h (.int _)⟩
noncomputable def bAbs:W3:=λds M=>match ds with|[.int i]=>.ok (.int (if i<0 then -i else i)) M|_=>.bad
theorem Zeu:CO X ξ (λxs H Q=>∃i,xs=[.int i]/\Q (.int (if i<0 then -i else i)) H) bAbs:=by
 intro H α M vs ds Q h rs q;unfold bAbs at q
 split at q
 .cases rs with
  |cons r t=>
   cases t;cases r;exact⟨_,rfl,q _ H α Ext.refl h (.int _)⟩
 .exact q.elim
noncomputable def bMax:W3:=λds M=>match ds with|[.int i,.int j]=>.ok (.int (if j>i then j else i)) M|_=>.bad
noncomputable def bMin:W3:=λds M=>match ds with|[.int i,.int j]=>.ok (.int (if j<i then j else i)) M|_=>.bad
theorem Zk5{g:Int->Int->Int}(hf:∀ds M,f ds M=match ds with|[.int i,.int j]=>.ok (.int (g i j)) M|_=>.bad):CO X ξ (λxs H Q=>∃i j,xs=[.int i,.int j]/\Q (.int (g i j)) H) f:=by
 intro H α M vs ds Q h rs q;rw[hf]at q
 split at q
 .rename_i i j;cases rs with
  |cons r t=>
   cases t with
   |cons r' t'=>
    cases t';cases r;cases r';exact⟨i,j,rfl,q _ H α Ext.refl h (.int _)⟩
 .exact q.elim
theorem ZoJ:CO X ξ (λxs H Q=>∃i j,xs=[.int i,.int j]/\Q (.int (if j>i then j else i)) H) bMax:=Zk5 (g:=λi j=>if j>i then j else i) λds M=>rfl
theorem ZoK:CO X ξ (λxs H Q=>∃i j,xs=[.int i,.int j]/\Q (.int (if j<i then j else i)) H) bMin:=Zk5 (g:=λi j=>if j<i then j else i) λds M=>rfl
noncomputable def bInt:W3:=λds M=>match ds with|[.int i]=>.ok (.int i) M|[.bl k]=>.ok (.int (if k then 1 else 0)) M|_=>.bad
theorem ZoL:CO X ξ (λxs H Q=>(∃i,xs=[.int i]/\Q (.int i) H)\/∃k,xs=[.bl k]/\Q (.int (if k then 1 else 0)) H) bInt:=by
 intro H α M vs ds Q h rs q;unfold bInt at q
 split at q
 .cases rs with
  |cons r t=>
   cases t;cases r;exact .inl ⟨_,rfl,q _ H α Ext.refl h (.int _)⟩
 .cases rs with
  |cons r t=>
   cases t;cases r;exact .inr ⟨_,rfl,q _ H α Ext.refl h (.int _)⟩
 .exact q.elim
def ZoM:W3:=λds M=>match ds with
 |[x]=>match Zej M x with|some xs=>.ok (.ref M.length) (M++[.lst xs])|none=>.bad
 |_=>.bad
def ZaB(M:Sto)(x:D):Option String:=match kd M x with
 |some .non=>some "NoneType"
 |some (.bl _)=>some "bool"
 |some (.int _)=>some "int"
 |some (.str _)=>some "str"
 |some (.tup _)=>some "tuple"
 |some (.lst _)=>some "list"
 |none=>none
noncomputable def Zb3(t T:String):Bool:=t==T||(t=="bool"&&T=="int")
def ZcL(T:String)(f:Ev):Ev:=λρ M=>(f ρ M).bind λx M1=>match ZaB M1 x with|some t=>.ok (.bl (Zb3 t T)) M1|none=>.bad
def Zuv(X:Cx)(T:String):List V->Hp->VK->Prop:=λvs H Q=>∃v α M x t,vs=[v,.ty T]/\HR X.K H α M/\Rep X.K H α v x/\ZaB M x=some t/\Q (.bl (Zb3 t T)) H
structure Kit(K:Fg) (T:String):Prop where
 non:PySem.W.kitOne K (.type "NoneType") (.type T)=some (Zb3 "NoneType" T)
 bl:PySem.W.kitOne K (.type "bool") (.type T)=some (Zb3 "bool" T)
 int:PySem.W.kitOne K (.type "int") (.type T)=some (Zb3 "int" T)
 str:PySem.W.kitOne K (.type "str") (.type T)=some (Zb3 "str" T)
 tup:PySem.W.kitOne K (.type "tuple") (.type T)=some (Zb3 "tuple" T)
 lst:PySem.W.kitOne K (.type "list") (.type T)=some (Zb3 "list" T)
theorem ZhT{K:Fg}:Kit K "int":=⟨rfl,rfl,rfl,rfl,rfl,rfl⟩
theorem ZdW{K:Fg}:Kit K "bool":=⟨rfl,rfl,rfl,rfl,rfl,rfl⟩
theorem Zae{K:Fg}:Kit K "tuple":=⟨rfl,rfl,rfl,rfl,rfl,rfl⟩
theorem Zap{K:Fg}:Kit K "list":=⟨rfl,rfl,rfl,rfl,rfl,rfl⟩
theorem Zmp{K:Fg}:Kit K "str":=⟨rfl,rfl,rfl,rfl,rfl,rfl⟩
theorem ZjZ(kt:Kit X.K T):Zcg X (.builtin "isinstance") (Zuv X T):=by
 intro pins s σ H vs us Q I rs hz;obtain⟨v,α,M,x,t,e1,h,rx,et,q⟩:=hz;subst e1;obtain⟨u,w,rfl,ru,rw'⟩:=Zho rs;cases rw';unfold ZaB at et;cases ek:kd M x with
 |none=>rw[ek]at et;cases et
 |some k=>
  rw[ek]at et;have va:=vw I h rx ru ek;have fin:∀tk,EP X pins σ Q (.bool (Zb3 t T)) {s with toks:=tk}:=λtk=>⟨.bl _,H,I.tok tk,rfl,q⟩;cases va with
  |non=>cases et;exact PySem.W.kia_one PySem.W.kitx_none I.kIn cW kt.non (λz=>nomatch z) fin
  |bl b=>cases et;exact PySem.W.kia_one PySem.W.kitx_bool I.kIn cW kt.bl (λz=>nomatch z) fin
  |int i t=>cases et;exact PySem.W.kia_one PySem.W.kitx_int I.kIn cW kt.int (λz=>nomatch z) fin
  |str i t=>cases et;exact PySem.W.kia_one PySem.W.kitx_str I.kIn cW kt.str (λz=>nomatch z) fin
  |tup g _ _=>cases et;obtain⟨o,h1,h2,_⟩:=g;exact PySem.W.kia_one PySem.W.kitx_tuple I.kIn ⟨o,h1,h2⟩ kt.tup (λz=>nomatch z) fin
  |lst g _ _=>cases et;obtain⟨o,h1,h2,_⟩:=g;exact PySem.W.kia_one PySem.W.kitx_list I.kIn ⟨o,h1,h2⟩ kt.lst (λz=>nomatch z) fin
theorem ZV(kt:Kit X.K T)(hm:X.mg "isinstance"=none)(hmT:X.mg y=none)(hvT:bg y=some (.type T))(ha:DE X ξ e fa)(hg:autoParam (Gl X "isinstance") Qrf._auto_1)(hgT:autoParam (Gl X y) Qrf._auto_1)(hn:autoParam (y≠"__name__") Qde._auto_1)(hdb:autoParam ((y==("__debug__":Str))=false) Qde._auto_1)(he:autoParam (af [e,.Name y p2] X.env=(false,eval e X.env)::af [.Name y p2] X.env) Qrf._auto_1)(he2:autoParam (af [.Name y p2] X.env=(false,eval (.Name y p2) X.env)::af [] X.env) Qrf._auto_1)(hpl:autoParam ((b8 pos (af [.Name y p2] X.env)).any (·.1)=false) Qrf._auto_1):DE X ξ (.Call (.Name "isinstance" p) [e,.Name y p2] [] pos) (ZcL T fa):=by
 obtain⟨ta,ha,qa⟩:=ha;refine⟨_,ZfL (ZjZ kt) hg hm (by with_unfolding_all rfl) (Zc5 ha (Zc5 (ZlP hgT hmT hvT (v:=.ty T) rfl hn hdb) Zhs he2) he) (by decide) (by decide) he hpl,λσ ρ H α M Q s h q=>?_⟩
 refine qa σ ρ H α M _ s h (OG.seq q λx M1 v H1 α1 e1 h1 r1 q1=>?_);cases et:ZaB M1 x with
 |none=>simp only[et]at q1;exact q1.elim
 |some t=>
  simp only[et]at q1;exact⟨v,α1,M1,x,t,rfl,h1,r1,et,q1 _ H1 α1 Ext.refl h1 (.bl _)⟩
end
end DL
namespace DL
open PyProof.Rows L2
def CXE(P:bO)(w:cu):CXT:=λouter H s E e s'=>∃(ea C:Addr) (dct:Option Addr) (B:Heap) (H':Hp),e=.ref ea/\s'.os=s.os/\fG s'.gens/\Un (frs outer) [] H H' s.heap s'.heap/\HOk P w H' s'.heap/\
 DQ.Fly B outer ea (.ref C) dct .none s'.heap/\(∀b u,H' b=some u->∃o,B.get? b=some o)/\(∀b o,s.heap.get? b=some o->b∉frs outer->∃o',B.get? b=some o')/\E (.ref C) dct H'
structure Thr(X:Cx) (ξ:XK):Prop where
 own:eB (ae X.prog X.w) X.A X.env X.xe
 ps:Zht (CXE X.prog X.w) X ξ
 mak:∀(pins:Pn)(σ:L2.St)(H H':Hp)(s s':az)(e:Addr)(oe:Obj)(vs:Array aa)(C:Addr),Inv X pins σ H s->s'.os=s.os->fG s'.gens->Un (frs X.stack) [] H H' s.heap s'.heap->HOk X.prog X.w H' s'.heap->s.heap.get? e=none->s'.heap.get? e=some oe->oe.cls=.ref C->
  oe.data=.fields vs->vs[1]?=some .none->vs[2]?=some .none->H' e=none->ξ (.ref C) oe.dict H'->X.xe (.ref e) s'
theorem Zev{h b1 b2:Heap}:∀{l:List Env},h.FunFrames b1 l->(∀b∈frs l,b2.get? b=none)->h.FunFrames b2 l
 |[],_,_=>trivial
 |env::r,⟨h1,⟨L,o,h2,h3,h4,h5⟩,h6⟩,k=>⟨h1,⟨L,o,h2,k L (by unfold frs;rw[c6,h2];exact bM),h4,h5⟩,Zev h6 λb hb=>k b (by
   unfold frs;rw[c6,h2];exact aL _ hb)⟩
section
variable {B:Heap}
theorem Zk6(hx:X.ex=[])(I:Inv X pins σ H s)(u:Un (frs X.stack) [] H H' s.heap h1)(hok:HOk X.prog X.w H' h1)(t1:∀b q,H' b=some q->∃o,B.get? b=some o)(t2:∀b o,s.heap.get? b=some o->b∉frs X.stack->∃o',B.get? b=some o')(st1:B.StaysIn h1)(st2:B.StaysIn h2)(up:h1.UpToSlots h2):Un X.fs [] X.H₀ H' X.s₀.heap h2/\HOk X.prog X.w H' h2/\∀b o,X.s₀.heap.get? b=some o->b∉X.fs->∃o',B.get? b=some o':=by
 have kB:∀b ob o,B.get? b=some ob->h1.get? b=some o->h2.get? b=some o:=λb ob o e x=>by
  have z:=st1 b ob e;rw[x]at z;cases z;exact st2 b _ e
 have nx:∀b,b∉X.ex:=λb=>by rw[hx];simp
 have nL:∀b o,X.s₀.heap.get? b=some o->b∉X.fs->b∉frs X.stack:=λb o e n z=>by
  rcases aM.mp (I.stkSub b z)with q|q
  .exact absurd (Hz e) (by rw[q];exact Nat.not_lt_of_le I.ok.above)
  .exact n q
 have th:∀b o,X.s₀.heap.get? b=some o->b∉X.fs->∃o',B.get? b=some o':=λb o e n=>by
  obtain⟨o',e'⟩:=I.base.there b o e (nx b);exact t2 b o' e' (nL b o e n)
 have sl:∀b o,X.s₀.heap.get? b=some o->X.H₀ b=none->b∈X.fs->∃sl,h2.get? b=some {o with slots:=sl}:=λb o e n hb=>by
  obtain⟨s1,e1⟩:=I.base.slot b o e n hb (nx b);obtain⟨s2,e2⟩:=u.any e1 (I.base.free b o e n (nx b)) (by simp)
  obtain⟨_,o',g1,g2⟩:=I.ok.funs.mem hb;rw[e]at g1;cases g1;obtain⟨s3,e3⟩:=up b _ e2 g2;exact⟨s3,e3⟩
 refine⟨⟨λb o e n hb _=>?_,λb o e n hb _=>sl b o e n hb,λb o e n _=>?_,λb o e _=>?_,λb xs e=>u.tups b xs (I.base.tups b xs e),λb o xs e=>u.frzs b o xs (I.base.frzs b o xs e),λb ps e=>?_⟩,λa o e=>?_,th⟩
 .obtain⟨ob,g⟩:=th b o e hb;exact kB b ob o g (u.keep b o (I.base.keep b o e n hb (nx b)) (I.base.free b o e n (nx b)) (nL b o e hb) (by simp))
 .obtain⟨o',e'⟩:=I.base.there b o e (nx b);exact u.free b o' e' (I.base.free b o e n (nx b)) (by simp)
 .by_cases hb:b∈X.fs
  .obtain⟨s1,e1⟩:=sl b o e (I.ok.frf b hb) hb;exact⟨_,e1⟩
  .obtain⟨ob,g⟩:=th b o e hb;exact⟨ob,st2 b ob g⟩
 .obtain⟨m1,e1⟩:=I.base.tbls b ps e;obtain⟨m2,e2⟩:=u.tbls b _ e1;exact⟨m1++m2,by rw[e2,ii]⟩
 .refine(hok a o e).stay (λb q hb x=>?_) (λ_ q=>q) λ_ _ q=>q;have tr:∃q,H' b=some q:=by
   rcases hb with z|z
   .exact⟨o,z▸e⟩
   .exact⟨_,z⟩
  obtain⟨q',z⟩:=tr;obtain⟨ob,g⟩:=t1 b q' z;exact kB b ob q g x
end
theorem ZcZ(x:ZaN P w H h a o):∃ob,h.get? a=some ob:=by
 cases o with
 |lst xs=>obtain⟨_,_,_,_,e⟩:=x;exact⟨_,e⟩
 |tup xs=>obtain⟨_,_,_,ob,e,_⟩:=x;exact⟨_,e⟩
 |dK kvs=>obtain⟨_,_,_,_,o,_,_,e,_⟩:=x;exact⟨_,e⟩
 |dT kvs=>obtain⟨_,_,_,_,o,_,_,e,_⟩:=x;exact⟨_,e⟩
 |dU kvs=>obtain⟨_,_,_,_,o,_,_,e,_⟩:=x;exact⟨_,e⟩
 |set S n=>obtain⟨o,_,_,_,e,_⟩:=x;exact⟨_,e⟩
 |ins C dx fs=>obtain⟨_,_,_,e,_⟩:=x;exact⟨_,e⟩
 |own y=>exact x
 |xd fs=>obtain⟨_,⟨_,_,_,e,_⟩,_⟩:=x;exact⟨_,e⟩
 |rng lo hi=>obtain⟨_,_,_,e⟩:=x;exact⟨_,e⟩
 |frz ob u=>obtain⟨e,_⟩:=x;exact⟨_,e⟩
 |tbl ps=>exact⟨_,x.1⟩
 |met f y=>exact⟨_,(show h.get? a=some _ from x)⟩
 |ext φ=>obtain⟨_,e,_⟩:=x;exact e
def Zjt(h:Heap)(l:List Addr):Heap:=Zjs h λb=>if b∈l then some (.own 0)else none
theorem ZfQ(e:h.get? b=some o)(n:b∉l):(Zjt h l).get? b=some o:=ZfH e (if_neg n)
theorem ZhU(e:(Zjt h l).get? b=some o):h.get? b=some o/\b∉l:=by
 obtain⟨a,n⟩:=Zhe e;refine⟨a,λz=>?_⟩;simp only[if_pos z]at n;cases n
theorem Zew(n:b∈l):(Zjt h l).get? b=none:=by
 cases q:(Zjt h l).get? b with
 |none=>rfl
 |some o=>exact absurd n (ZhU q).2
theorem Zex{h h' b1:Heap}:∀{l:List Env},h.FunFrames b1 l->(∀b o,b∈frs l->h.get? b=some o->∃o',h'.get? b=some o'/\o'.data=o.data)->h'.FunFrames b1 l
 |[],_,_=>trivial
 |env::r,⟨h1,⟨L,o,h2,h3,h4,h5⟩,h6⟩,k=>by
  have m:frs (env::r)=L::frs r:=by unfold frs;rw[c6,h2]
  obtain⟨o',g1,g2⟩:=k L o (by rw[m];exact bM) h4
  exact⟨h1,⟨L,o',h2,h3,g1,λvs=>g2▸h5 vs⟩,Zex h6 λb o hb=>k b o (by rw[m];exact aL _ hb)⟩
theorem Zey{s':az}(I:Inv X pins σ H s)(un:Un (frs X.stack) [] H H' s.heap s'.heap)(hok:HOk X.prog X.w H' s'.heap)(hn:s.heap.get? e=none)(he:s'.heap.get? e=some oe)(hne:H' e=none):(∀b u,H' b=some u->∃o,(Zjt s'.heap (e::frs X.stack)).get? b=some o)/\(∀b o,s.heap.get? b=some o->b∉frs X.stack->∃o',(Zjt s'.heap (e::frs X.stack)).get? b=some o')/\(Zjt s'.heap (e::frs X.stack)).StaysIn s'.heap/\s'.heap.FunFrames (Zjt s'.heap (e::frs X.stack)) X.stack/\(Zjt s'.heap (e::frs X.stack)).get? e=none:=by
 have nfr:∀b∈frs X.stack,H' b=none:=λb hb=>by
  obtain⟨_,o',g1,g2⟩:=I.stack.mem hb;exact un.free b o' g1 (I.stkFree b hb) (by simp)
 refine⟨λb u x=>?_,λb o x n=>?_,λb o x=>(ZhU x).1,Zex (Zev I.stack λb hb=>Zew (aL _ hb)) λb o hb x=>?_,Zew (by simp)⟩
 .obtain⟨o,g⟩:=ZcZ (hok b u x);refine⟨o,ZfQ g λz=>?_⟩;rcases aM.mp z with z|z
  .rw[z,hne]at x;cases x
  .rw[nfr b z]at x;cases x
 .obtain⟨o',g⟩:=un.there b o x (by simp)
  refine⟨o',ZfQ g λz=>?_⟩;rcases aM.mp z with z|z
  .rw[z,hn]at x;cases x
  .exact n z
 .obtain⟨sl,g⟩:=un.any x (I.stkFree b hb) (by simp)
  exact⟨_,g,rfl⟩
theorem ZoN{K:Fg}:Thr (Zg3 (CXE P w) P w K mg base N qual scope f cd A outer s H E) E:=by
 refine⟨eB.leaving,λpins σ H1 s1 e s2 I h=>?_,λpins σ H1 H' s1 s' e oe vs C I os bare un hok hn he hc hd v1 v2 hne q=>?_⟩
 .obtain⟨ea,C,dct,B,H2,rfl,os,bare,un,hok,fl,t1,t2,q⟩:=h;refine DQ.ZhG (outer:=outer) I.ok.frames rfl fl λh3 f3 up=>?_;obtain⟨a1,a2,a3⟩:=Zk6 rfl I un hok t1 t2 fl.stay f3.stay up;exact⟨ea,C,dct,B,H2,rfl,os.trans I.os,bare,a1,a2,f3,t1,a3,q⟩
 .obtain⟨t1,t2,hs,hl,hb⟩:=Zey I un hok hn he hne;refine DQ.ZhH (s:=s') (outer:=outer) I.ok.frames rfl hl he hs hb hd v1 v2 λh3 f3 up=>?_;obtain⟨a1,a2,a3⟩:=Zk6 rfl I un hok t1 t2 hs f3.stay up;rw[hc]at f3;exact⟨e,C,oe.dict,_,H',rfl,os.trans I.os,bare,a1,a2,f3,t1,a3,q⟩
end DL
namespace DL
open PyProof.Rows L2
def FP(K:Fg)(H:Hp)(α:List Addr)(ξ:XK)(Dn:Ends):Fl->Prop
 |.nx ρ' M'=>∀σ' H' α',Ext K H H' α α'->HR K H' α' M'->SR K H' α' σ' ρ'->Dn.nx σ' H'
 |.brk ρ' M'=>∀σ' H' α',Ext K H H' α α'->HR K H' α' M'->SR K H' α' σ' ρ'->Dn.bk σ' H'
 |.cnt ρ' M'=>∀σ' H' α',Ext K H H' α α'->HR K H' α' M'->SR K H' α' σ' ρ'->Dn.ct σ' H'
 |.ret d M'=>∀v H' α',Ext K H H' α α'->HR K H' α' M'->Rep K H' α' v d->Dn.rt v H'
 |.exc c M'=>∀C H' α',PySem.W.nsIn K aG c=some (some (.ref C))->Ext K H H' α α'->∀dct,XO K H' α' c M' dct->ξ (.ref C) dct H'
 |.bad=>False
theorem FP.ext{K:Fg}(h:FP K H α ξ Dn o)(e:Ext K H H1 α α1):FP K H1 α1 ξ Dn o:=by
 cases o with
 |nx ρ M=>exact λσ' H' α' e'=>h σ' H' α' (e.trans e')
 |brk ρ M=>exact λσ' H' α' e'=>h σ' H' α' (e.trans e')
 |cnt ρ M=>exact λσ' H' α' e'=>h σ' H' α' (e.trans e')
 |ret d M=>exact λv H' α' e'=>h v H' α' (e.trans e')
 |exc c M=>exact λC H' α' n e'=>h C H' α' n (e.trans e')
 |bad=>exact h
def DS(X:Cx)(ξ:XK)(st:Stmt)(g:Sv):Prop:=∃t:TS,PS X st t/\∀σ ρ H α M Dn,SR X.K H α σ ρ->HR X.K H α M->FP X.K H α ξ Dn (g ρ M)->t Dn σ H
def DSs(X:Cx)(ξ:XK)(st:List Stmt)(g:Sv):Prop:=∃t:TS,PSs X st t/\∀σ ρ H α M Dn,SR X.K H α σ ρ->HR X.K H α M->FP X.K H α ξ Dn (g ρ M)->t Dn σ H
noncomputable def Zbh(o:Out β)(k:β->Sto->Fl):Fl:=match o with
 |.ok a M=>k a M
 |.exc c M=>.exc c M
 |.bad=>.bad
theorem FP.seq{K:Fg}{R:Hp->List Addr->γ->β->Prop}{Q1:γ->Hp->Prop}{o:Out β}{f:β->Sto->Fl}(h:FP K H α ξ Dn (Zbh o f))(k:∀d M' v H' α',Ext K H H' α α'->HR K H' α' M'->R H' α' v d->FP K H' α' ξ Dn (f d M')->Q1 v H'):OG K R H α ξ Q1 o:=by
 cases o with
 |ok d M'=>exact λv H' α' e hr r=>k d M' v H' α' e hr r (FP.ext (o:=f d M') h e)
 |exc c M'=>exact h
 |bad=>exact h
noncomputable def ZC(g h:Sv):Sv:=λρ M=>match g ρ M with
 |.nx ρ1 M1=>h ρ1 M1
 |o=>o
noncomputable def sNil:Sv:=λρ M=>.nx ρ M
def ZR(f:Ev):Sv:=λρ M=>Zbh (f ρ M) λd M1=>.ret d M1
noncomputable def ZoO:Sv:=λ_ M=>.ret .non M
def ZcT(f:Ev):Sv:=λρ M=>Zbh (f ρ M) λ_ M1=>.nx ρ M1
def sIf(c:Tv)(g h:Sv):Sv:=λρ M=>Zbh (c ρ M) λk M1=>if k=true then g ρ M1 else h ρ M1
noncomputable def sBad:Sv:=λ_ _=>.bad
abbrev Tg:=D->Ro->Option Ro
abbrev Tgs:=List D->Ro->Option Ro
noncomputable def gNm(i:Nat):Tg:=λd ρ=>some (ρ.set i (some d))
noncomputable def gNl:Tgs:=λds ρ=>match ds with|[]=>some ρ|_=>none
noncomputable def gCs(g:Tg)(gs:Tgs):Tgs:=λds ρ=>match ds with|d::r=>(match g d ρ with|some ρ1=>gs r ρ1|none=>none)|[]=>none
noncomputable def gTp(gs:Tgs):Tg:=λd ρ=>match d with|.tup ds=>gs ds ρ|_=>none
def Zan(g:Tg)(f:Ev):Sv:=λρ M=>Zbh (f ρ M) λd M1=>match g d ρ with|some ρ1=>.nx ρ1 M1|none=>.bad
def ZgJ(i j:Nat)(fs:Av):Sv:=λρ M=>Zbh (fs ρ M) λds M1=>match ds with|[v,w]=>.nx ((ρ.set i (some v)).set j (some w)) M1|_=>.bad
def Zuw(fo fi fe:Ev):Sv:=λρ M=>Zbh (fe ρ M) λd M1=>Zbh (fo ρ M1) λo M2=>Zbh (fi ρ M2) λi M3=>match o,i with
 |.ref n,.int k=>(match M3[n]? with
  |some (.lst xs)=>(match ixN xs.length k with|some j=>.nx ρ (M3.set n (.lst (xs.set j d)))|none=>.bad)
  |_=>.bad)
 |_,_=>.bad
section
variable {X:Cx}{ξ:XK}{st:Stmt}{g h:Sv}{e:Expr}{f:Ev}{c:Expr}
theorem Zo:DSs X ξ [] sNil:=⟨_,ZlQ,λσ ρ H α M Dn s h q=>q σ H α Ext.refl h s⟩
theorem Zf(h1:DS X ξ st g)(h2:DSs X ξ sts h):DSs X ξ (st::sts) (ZC g h):=by
 obtain⟨t1,p1,q1⟩:=h1;obtain⟨t2,p2,q2⟩:=h2;refine⟨_,ZdR p1 p2,λσ ρ H α M Dn s hh q=>q1 σ ρ H α M {Dn with nx:=t2 Dn} s hh ?_⟩;unfold ZC at q;cases e:g ρ M with
 |nx ρ1 M1=>rw[e]at q;exact λσ' H' α' ex hr sr=>q2 σ' ρ1 H' α' M1 Dn sr hr (FP.ext q ex)
 |brk ρ1 M1=>rw[e]at q;exact q
 |cnt ρ1 M1=>rw[e]at q;exact q
 |ret d M1=>rw[e]at q;exact q
 |exc c M1=>rw[e]at q;exact q
 |bad=>rw[e]at q;exact q
theorem Zg(h1:DS X ξ st g):DSs X ξ [st] g:=let ⟨_,p,q⟩:=h1;⟨_,Zhf p,q⟩
theorem Zl(he:DE X ξ e f):DS X ξ (.Return (some e) pos) (ZR f):=by
 obtain⟨t,p,q⟩:=he;exact⟨_,Zn6 p,λσ ρ H α M Dn s hh w=>q σ ρ H α M _ s hh (FP.seq w λd M1 v H1 α1 e1 h1 r1 w1=>w1 v H1 α1 Ext.refl h1 r1)⟩
theorem ZaU(he:DE X ξ e f)(hs:autoParam (hU e none pos.line X.env=pure false) Qrf._auto_1):DS X ξ (.Expr e pos) (ZcT f):=by
 obtain⟨t,p,q⟩:=he;exact⟨_,Zhg p hs,λσ ρ H α M Dn s hh w=>q σ ρ H α M _ s hh (FP.seq w λd M1 v H1 α1 e1 h1 r1 w1=>w1 σ H1 α1 Ext.refl h1 (s.mono e1))⟩
theorem Zz(hc:DT X ξ c fc)(ha:DSs X ξ a g)(hb:DSs X ξ b h):DS X ξ (.If c a b pos) (sIf fc g h):=by
 obtain⟨tc,pc,qc⟩:=hc;obtain⟨ta,pa,qa⟩:=ha;obtain⟨tb,pb,qb⟩:=hb;refine⟨_,ZrB pc pa pb,λσ ρ H α M Dn s hh w=>qc σ ρ H α M _ s hh (FP.seq w λk M1 v H1 α1 e1 h1 r1 w1=>?_)⟩;cases r1;cases k with
 |true=>exact ZjL (qa σ ρ H1 α1 M1 Dn (s.mono e1) h1 w1)
 |false=>exact ZjK (qb σ ρ H1 α1 M1 Dn (s.mono e1) h1 w1)
theorem ZbA:DS X ξ st sBad:=⟨_,Zjx,λσ ρ H α M Dn s h q=>q⟩
def DG(X:Cx)(tg:Expr)(g:Tg):Prop:=∃t:TG,PG X tg t/\∀v d σ ρ H α ρ' Q,SR X.K H α σ ρ->Rep X.K H α v d->g d ρ=some ρ'->(∀σ',SR X.K H α σ' ρ'->Q σ' H)->t v σ H Q
def DGs(X:Cx)(tgs:List Expr)(g:Tgs):Prop:=∃t:TGs,PGs X tgs t/\∀vs ds σ ρ H α ρ' Q,SR X.K H α σ ρ->Reps X.K H α vs ds->g ds ρ=some ρ'->(∀σ',SR X.K H α σ' ρ'->Q σ' H)->t vs σ H Q
theorem Zp(i:Nat)(hN:X.N.Nodup)(hi:autoParam (X.N[i]?=some x) Qrf._auto_1)(hx:Loc X.env.scope x:=by first|exact bZ rfl|exact i3 rfl)(hm:autoParam (X.may i=true) Qrf._auto_1)(hf:X.fn x=true\/X.env.scope.names.lookup x=some .local:=by first|exact .inl rfl|exact .inr rfl|assumption):DG X (.Name x pos) (gNm i):=by
 refine⟨_,ZlR hN hi hx hm hf,λv d σ ρ H α ρ' Q s r e k=>?_⟩;cases e;exact k _ (s.set i r)
theorem Z8:DGs X [] gNl:=by
 refine⟨_,ZlS,λvs ds σ ρ H α ρ' Q s r e k=>?_⟩;cases r with
 |nil=>cases e;exact⟨rfl,k _ s⟩
 |cons _ _=>cases e
theorem Zu{g:Tg}(h1:DG X e g)(h2:DGs X es gs)(hs:autoParam ((dE (e::es) X.env).map (·.2)=assign e X.env::(dE es X.env).map (·.2)) Qrf._auto_1):DGs X (e::es) (gCs g gs):=by
 obtain⟨t1,p1,q1⟩:=h1;obtain⟨t2,p2,q2⟩:=h2;refine⟨_,Zjy p1 p2 hs,λvs ds σ ρ H α ρ' Q s r e k=>?_⟩;cases r with
 |nil=>cases e
 |cons r rr=>
  rename_i v d vs ds;cases e1:g d ρ with
  |none=>simp only[gCs,e1]at e;cases e
  |some ρ1=>
   simp only[gCs,e1]at e;exact⟨v,vs,rfl,q1 v d σ ρ H α ρ1 _ s r e1 λσ' s'=>q2 vs ds σ' ρ1 H α ρ' Q s' rr e k⟩
theorem ZaC(hc:X.calm=true)(h:DGs X es gs)(hn:autoParam ((dE es X.env).length=n) Qrf._auto_1)(hlen:∀ds ρ ρ',gs ds ρ=some ρ'->ds.length=n)(hst:autoParam ((dE es X.env).findIdx? (·.1)=none) Qrf._auto_1):DG X (.Tuple es k pos) (gTp gs):=by
 obtain⟨t,p,q⟩:=h;refine⟨_,Zn8 hc p hn hst,λv d σ ρ H α ρ' Q s r e k=>?_⟩;cases r with
 |@tup a xs ds hp rp=>
  have e':gs ds ρ=some ρ':=e;exact⟨a,xs,rfl,(SqT.of hp),by rw[rp.length];exact hlen ds ρ ρ' e',q xs ds σ ρ H α ρ' Q s rp e' k⟩
 |_=>cases e
theorem Z9(h:gNl ds ρ=some ρ'):ds.length=0:=by cases ds with|nil=>rfl|cons _ _=>cases h
theorem Zy{g:Tg}(h:∀ds ρ ρ',gs ds ρ=some ρ'->ds.length=n)(ds:List D)(ρ ρ':Ro)(e:gCs g gs ds ρ=some ρ'):ds.length=n+1:=by
 cases ds with
 |nil=>cases e
 |cons d r=>
  cases e1:g d ρ with
  |none=>simp only[gCs,e1]at e;cases e
  |some ρ1=>simp only[gCs,e1]at e;rw[aH,h r ρ1 ρ' e]
theorem Zq(i:Nat)(hN:X.N.Nodup)(he:DE X ξ e f)(hi:autoParam (X.N[i]?=some x) Qrf._auto_1)(hx:Loc X.env.scope x:=by first|exact bZ rfl|exact i3 rfl)(hm:autoParam (X.may i=true) Qrf._auto_1)(hs:autoParam (hU e (some (.Name x pos')) pos.line X.env=pure false) Qrf._auto_1)(hf:X.fn x=true\/X.env.scope.names.lookup x=some .local:=by first|exact .inl rfl|exact .inr rfl|assumption) :
  DS X ξ (.Assign [.Name x pos'] e pos) (Zan (gNm i) f):=by
 obtain⟨t,p,q⟩:=he;exact⟨_,Zoa hN hi hx hm p hs hf,λσ ρ H α M Dn s hh w=>q σ ρ H α M _ s hh (FP.seq w λd M1 v H1 α1 e1 h1 r1 w1=>w1 _ H1 α1 Ext.refl h1 ((s.mono e1).set i r1))⟩
theorem ZfR(he:DE X ξ e f)(hg:DG X tg gt)(hs:autoParam (iI [tg] e pos.line X.env=pure false) Qrf._auto_1)(hw:autoParam (iJ [tg] e X.env=pure none) Qrf._auto_1)(h1:autoParam ((dE [tg] X.env).map (·.2)=[assign tg X.env]) Qrf._auto_1):DS X ξ (.Assign [tg] e pos) (Zan gt f):=by
 obtain⟨t,p,q⟩:=he;obtain⟨tt,pt,qt⟩:=hg;refine⟨_,Zn9 p pt hs hw h1,λσ ρ H α M Dn s hh w=>q σ ρ H α M _ s hh (FP.seq w λd M1 v H1 α1 e1 h1 r1 w1=>?_)⟩;cases eg:gt d ρ with
 |none=>simp only[eg]at w1;exact w1.elim
 |some ρ1=>
  simp only[eg]at w1;exact qt v d σ ρ H1 α1 ρ1 _ (s.mono e1) r1 eg λσ' s'=>w1 σ' H1 α1 Ext.refl h1 s'
theorem ZfS(i j:Nat){kt k2 pt2}(hc:X.calm=true)(hN:X.N.Nodup)(ha:DA X ξ [a,b] fs)(hi:autoParam (X.N[i]?=some x) Qrf._auto_1)(hj:autoParam (X.N[j]?=some y) Qrf._auto_1)(mi:autoParam (X.may i=true) Qrf._auto_1)(mj:autoParam (X.may j=true) Qrf._auto_1)(hij:autoParam (i≠j) Qde._auto_1)(hx:autoParam (X.env.scope.names.lookup x=some .local) Qrf._auto_1)(hy:autoParam (X.env.scope.names.lookup y=some .local) Qrf._auto_1)(hw:autoParam (iJ [.Tuple [.Name x px,.Name y py] kt pt] (.Tuple [a,b] k2 pt2) X.env=pure (some [x,y])) Qrf._auto_1)(hs:autoParam (iI [.Tuple [.Name x px,.Name y py] kt pt] (.Tuple [a,b] k2 pt2) pos.line X.env=pure false) Qrf._auto_1) :
  DS X ξ (.Assign [.Tuple [.Name x px,.Name y py] kt pt] (.Tuple [a,b] k2 pt2) pos) (ZgJ i j fs):=by
 obtain⟨t,p,q⟩:=ha;refine⟨_,Zob hc mi mj hN hi hj hij hx hy p hw hs,λσ ρ H α M Dn s hh w=>q σ ρ H α M _ s hh (FP.seq w λds M1 vs H1 α1 e1 h1 r1 w1=>?_)⟩;cases r1 with
 |nil=>exact w1.elim
 |cons r t=>
  cases t with
  |nil=>exact w1.elim
  |cons r' t=>
   cases t with
   |cons _ _=>exact w1.elim
   |nil=>exact⟨_,_,rfl,w1 _ H1 α1 Ext.refl h1 (((s.mono e1).set i r).set j r')⟩
noncomputable def whN(c:Tv)(g:Sv):Nat->Ro->Sto->Option Fl
 |0,_,_=>none
 |n+1,ρ,M=>match c ρ M with
  |.ok true M1=>(match g ρ M1 with
   |.nx ρ2 M2=>whN c g n ρ2 M2
   |.cnt ρ2 M2=>whN c g n ρ2 M2
   |.brk ρ2 M2=>some (.nx ρ2 M2)
   |o=>some o)
  |.ok false M1=>some (.nx ρ M1)
  |.exc e M1=>some (.exc e M1)
  |.bad=>some .bad
theorem Zc0{c:Tv}{g:Sv}:∀{n:Nat}{ρ:Ro}{M:Sto}{o:Fl},whN c g n ρ M=some o->∀k,whN c g (n+k) ρ M=some o
 |0,_,_,_,e,_=>by simp only[whN]at e;cases e
 |n+1,ρ,M,o,e,k=>by
  have ek:n+1+k=(n+k)+1:=⋯
  rw[ek];unfold whN at e ⊢;cases ec:c ρ M with
  |bad=>rw[ec]at e;exact e
  |exc x M1=>rw[ec]at e;exact e
  |ok b M1=>
   rw[ec]at e;cases b with
   |false=>exact e
   |true=>
    cases eg:g ρ M1 with
    |nx ρ2 M2=>simp only[eg]at e ⊢;exact Zc0 e k
    |cnt ρ2 M2=>simp only[eg]at e ⊢;exact Zc0 e k
    |brk ρ2 M2=>simp only[eg]at e ⊢;exact e
    |ret d M2=>simp only[eg]at e ⊢;exact e
    |exc x M2=>simp only[eg]at e ⊢;exact e
    |bad=>simp only[eg]at e ⊢;exact e
open Classical in
def sWh(c:Tv)(g:Sv):Sv:=λρ M=>if h:∃o n,whN c g n ρ M=some o then Classical.choose h else .bad
theorem ZhV{c:Tv}{g:Sv}(e:whN c g n ρ M=some o):sWh c g ρ M=o:=by
 have hx:∃o n,whN c g n ρ M=some o:=⟨o,n,e⟩;unfold sWh;rw[dif_pos hx];obtain⟨m,em⟩:=Classical.choose_spec hx;have h1:=Zc0 em n;have h2:=Zc0 e m;rw[Nat.add_comm]at h2;rw[h1]at h2;exact a9 h2
theorem Zk7{c:Tv}{g:Sv}(e:sWh c g ρ M≠ .bad):∃n,whN c g n ρ M=some (sWh c g ρ M):=by
 by_cases hx:∃o n,whN c g n ρ M=some o
 .obtain⟨o,n,h⟩:=hx;exact⟨n,by rw[ZhV h];exact h⟩
 .unfold sWh at e;rw[dif_neg hx]at e;exact absurd rfl e
theorem ZhW{c:Tv}{g:Sv}{M1:Sto}(h:c ρ M=.ok false M1):sWh c g ρ M=.nx ρ M1:=ZhV (n:=1) (by simp only[whN,h])
theorem Zj0{c:Tv}{g:Sv}{M1 M2:Sto}(h:c ρ M=.ok true M1)(h2:g ρ M1=.nx ρ2 M2)(hb:sWh c g ρ2 M2≠ .bad):sWh c g ρ M=sWh c g ρ2 M2:=by
 obtain⟨n,e⟩:=Zk7 hb;exact ZhV (n:=n+1) (by simp only[whN,h,h2];exact e)
theorem ZfT(hp:eB (ae X.prog X.w) X.A X.env X.xe)(hc:DT X ξ c fc)(hb:DSs X ξ body g):DS X ξ (.While c body [] pos) (sWh fc g):=by
 obtain⟨tc,pc,qc⟩:=hc;obtain⟨tb,pb,qb⟩:=hb;refine⟨_,Zjz hp pc pb,λσ ρ H α M Dn s hh w=>?_⟩;have nb:sWh fc g ρ M≠ .bad:=λz=>by rw[z]at w;exact w
 obtain⟨n,en⟩:=Zk7 nb;generalize sWh fc g ρ M=o at w en;refine⟨λm σ' H'=>∃ρ' α' M',Ext X.K H H' α α'/\SR X.K H' α' σ' ρ'/\HR X.K H' α' M'/\whN fc g m ρ' M'=some o,⟨n,ρ,α,M,Ext.refl,s,hh,en⟩,?_⟩;rintro m σ1 H1 ⟨ρ1,α1,M1,e1,s1,h1,en1⟩;cases m with
 |zero=>simp only[whN]at en1;cases en1
 |succ m=>
  refine qc σ1 ρ1 H1 α1 M1 _ s1 h1 ?_;unfold whN at en1;cases ec:fc ρ1 M1 with
  |bad=>rw[ec]at en1;cases en1;exact w.elim
  |exc x M2=>
   rw[ec]at en1;cases en1;exact λC H' α' nn ex hr=>w C H' α' nn (e1.trans ex) hr
  |ok b M2=>
   rw[ec]at en1;intro v H2 α2 e2 h2 ev;cases ev;cases b with
   |false=>
    cases en1;exact ZjK (w σ1 H2 α2 (e1.trans e2) h2 (s1.mono e2))
   |true=>
    refine ZjL ⟨λσ' H'=>∃ρ' α' M',Ext X.K H H' α α'/\SR X.K H' α' σ' ρ'/\HR X.K H' α' M'/\whN fc g m ρ' M'=some o,λσ' H' z=>⟨m,df m,z⟩,?_⟩;refine qb σ1 ρ1 H2 α2 M2 _ (s1.mono e2) h2 ?_;have e12:=e1.trans e2;cases eg:g ρ1 M2 with
    |nx ρ2 M3=>simp only[eg]at en1;exact λσ' H' α' ex hr sr=>⟨ρ2,α',M3,e12.trans ex,sr,hr,en1⟩
    |cnt ρ2 M3=>simp only[eg]at en1;exact λσ' H' α' ex hr sr=>⟨ρ2,α',M3,e12.trans ex,sr,hr,en1⟩
    |brk ρ2 M3=>simp only[eg]at en1;cases en1;exact λσ' H' α' ex hr sr=>w σ' H' α' (e12.trans ex) hr sr
    |ret d M3=>simp only[eg]at en1;cases en1;exact λv H' α' ex hr sr=>w v H' α' (e12.trans ex) hr sr
    |exc x M3=>simp only[eg]at en1;cases en1;exact λC H' α' nn ex hr=>w C H' α' nn (e12.trans ex) hr
    |bad=>simp only[eg]at en1;cases en1;exact w.elim
noncomputable def Zb8(tg:Tg)(g:Sv):List D->Ro->Sto->Fl
 |[],ρ,M=>.nx ρ M
 |d::r,ρ,M=>match tg d ρ with
  |none=>.bad
  |some ρ1=>(match g ρ1 M with
   |.nx ρ2 M2=>Zb8 tg g r ρ2 M2
   |.cnt ρ2 M2=>Zb8 tg g r ρ2 M2
   |.brk ρ2 M2=>.nx ρ2 M2
   |o=>o)
noncomputable def Zg4(tg:Tg)(g:Sv)(n:Nat):Nat->Nat->Ro->Sto->Fl
 |f,i,ρ,M=>match M[n]? with
  |some (.lst xs)=>(match xs[i]? with
   |none=>.nx ρ M
   |some d=>(match f with
    |0=>.bad
    |f+1=>(match tg d ρ with
     |none=>.bad
     |some ρ1=>(match g ρ1 M with
      |.nx ρ2 M2=>Zg4 tg g n f (i+1) ρ2 M2
      |.cnt ρ2 M2=>Zg4 tg g n f (i+1) ρ2 M2
      |.brk ρ2 M2=>.nx ρ2 M2
      |o=>o))))
  |none=>.bad
def ZaO(lo:Int)(n:Nat):List D:=(ay n).map λ(i:Nat)=>D.int (lo+i)
def Zk8(tg:Tg)(g:Sv)(d:D)(ρ:Ro)(M:Sto):Fl:=match d with
 |.tup xs=>Zb8 tg g xs ρ M
 |.rol xs=>Zb8 tg g xs ρ M
 |.ref n=>(match M[n]? with|some (.lst xs)=>Zg4 tg g n xs.length 0 ρ M|none=>.bad)
 |_=>.bad
def ZnL(tg:Tg)(f:Ev)(g:Sv):Sv:=λρ M=>Zbh (f ρ M) λd M1=>Zk8 tg g d ρ M1
def ZcM(tg:Tg)(fs:Av)(g:Sv):Sv:=λρ M=>Zbh (fs ρ M) λds M1=>match ds with
 |[.int j]=>if -(2^62)<=j/\j<2^62 then Zb8 tg g (ZaO 0 j.toNat) ρ M1 else .bad
 |_=>.bad
theorem ZfU{lo:Int}(h:i<n):(ZaO lo n)[i]?=some (.int (lo+i)):=by
 unfold ZaO;rw[bH,List.getElem?_range h];rfl
theorem ZdX{lo:Int}:(ZaO lo n).length=n:=by unfold ZaO;rw[aC,iC]
theorem ZhX{lo:Int}(h:i<n):(ZaO lo n).drop i=.int (lo+i)::(ZaO lo n).drop (i+1):=by
 have hl:i<(ZaO lo n).length:=by rw[ZdX];exact h
 have e:=ZfU (lo:=lo) h;rw[aq hl]at e;rw[cj hl,a9 e]
theorem Zj1{tg:Expr}{gt:Tg}{tt:TG}{tb:TS}{k:Ro->Sto->Fl}(w:FP X.K H α ξ Dn o)(qt:∀v d σ ρ H α ρ' Q,SR X.K H α σ ρ->Rep X.K H α v d->gt d ρ=some ρ'->(∀σ',SR X.K H α σ' ρ'->Q σ' H)->tt v σ H Q)(qb:∀σ ρ H α M Dn,SR X.K H α σ ρ->HR X.K H α M->FP X.K H α ξ Dn (g ρ M)->tb Dn σ H){M1:Sto}(e1:Ext X.K H H1 α α1)(s1:SR X.K H1 α1 σ1 ρ1)(h1:HR X.K H1 α1 M1)(r:Rep X.K H1 α1 v d)(en:(match gt d ρ1 with|none=>Fl.bad|some ρ2=>(match g ρ2 M1 with|.nx ρ3 M3=>k ρ3 M3|.cnt ρ3 M3=>k ρ3 M3|.brk ρ3 M3=>.nx ρ3 M3|o=>o))=o)(hN:∀σ' H',(∃ρ' α' M',Ext X.K H H' α α'/\SR X.K H' α' σ' ρ'/\HR X.K H' α' M'/\k ρ' M'=o)->N σ' H'):tt v σ1 H1 λσ2 H2=>tb {Dn with nx:=N,ct:=N,bk:=Dn.nx} σ2 H2:=by
 cases eg:gt d ρ1 with
 |none=>rw[eg]at en;cases en;exact w.elim
 |some ρ2=>
  simp only[eg]at en;refine qt v d σ1 ρ1 H1 α1 ρ2 _ s1 r eg λσ2 s2=>qb σ2 ρ2 H1 α1 M1 _ s2 h1 ?_;cases ex:g ρ2 M1 with
  |nx ρ3 M3=>simp only[ex]at en;exact λσ' H' α' e2 hr sr=>hN _ _ ⟨ρ3,α',M3,e1.trans e2,sr,hr,en⟩
  |cnt ρ3 M3=>simp only[ex]at en;exact λσ' H' α' e2 hr sr=>hN _ _ ⟨ρ3,α',M3,e1.trans e2,sr,hr,en⟩
  |brk ρ3 M3=>simp only[ex]at en;cases en;exact λσ' H' α' e2 hr sr=>w σ' H' α' (e1.trans e2) hr sr
  |ret d M3=>simp only[ex]at en;cases en;exact λv H' α' e2 hr sr=>w v H' α' (e1.trans e2) hr sr
  |exc x M3=>simp only[ex]at en;cases en;exact λC H' α' nn e2 hr=>w C H' α' nn (e1.trans e2) hr
  |bad=>simp only[ex]at en;cases en;exact w.elim
theorem ZoP{tg:Expr}{tt:TG}{tb:TS}{lo:Int}(qt:∀v d σ ρ H α ρ' Q,SR X.K H α σ ρ->Rep X.K H α v d->gt d ρ=some ρ'->(∀σ',SR X.K H α σ' ρ'->Q σ' H)->tt v σ H Q)(qb:∀σ ρ H α M Dn,SR X.K H α σ ρ->HR X.K H α M->FP X.K H α ξ Dn (g ρ M)->tb Dn σ H)(s:SR X.K H α σ ρ)(hh:HR X.K H α M)(w:FP X.K H α ξ Dn (Zb8 gt g (ZaO lo n) ρ M)):∃W:Nat->Nat->L2.St->Hp->Prop,(∃m,W 0 m σ H)/\∀i m σ H,W i m σ H->((Itr lo n).stop i H/\Dn.nx σ H)\/((Itr lo n).go i H/\∃N:L2.St->Hp->Prop,(∀σ' H',N σ' H'->∃m',m'<m/\W (i+1) m' σ' H')/\∀x H',(Itr lo n).yld i H x H'->tt x σ H' λσ2 H2=>tb {Dn with nx:=N,ct:=N,bk:=Dn.nx} σ2 H2):=by
 generalize ho:Zb8 gt g (ZaO lo n) ρ M=o at w;refine Zhk (λi σ' H'=>∃ρ' α' M',Ext X.K H H' α α'/\SR X.K H' α' σ' ρ'/\HR X.K H' α' M'/\Zb8 gt g ((ZaO lo n).drop i) ρ' M'=o) ⟨ρ,α,M,Ext.refl,s,hh,ho⟩ ?_ ?_
 .rintro i σ1 H1 hi ⟨ρ1,α1,M1,e1,s1,h1,en⟩;rw[ZhX hi]at en;exact Zj1 (tg:=tg) w qt qb e1 s1 h1 (.int (lo+i)) en (λσ' H' z=>z)
 .rintro σ1 H1 ⟨ρ1,α1,M1,e1,s1,h1,en⟩;rw[dX (by rw[ZdX];exact ac _)]at en
  cases en;exact w σ1 H1 α1 e1 h1 s1
theorem Za6(hp:eB (ae X.prog X.w) X.A X.env X.xe)(hm:X.mg "range"=none)(ha:DA X ξ [a] fs)(hg:DG X tg gt)(hb:DSs X ξ body g)(hgl:autoParam (Gl X "range") Qrf._auto_1)(hs:autoParam (af [a] X.env=[(false,eval a X.env)]) Qrf._auto_1)(hf:autoParam (∀x,cG (.Call (.Name "range" p) [a] [] p2) X.env x=pure x) Qin._auto_1):DS X ξ (.For tg (.Call (.Name "range" p) [a] [] p2) body [] pos) (ZcM gt fs g):=by
 obtain⟨ta,pa,qa⟩:=ha;obtain⟨tt,pt,qt⟩:=hg;obtain⟨tb,pb,qb⟩:=hb;refine⟨_,Zhj hp (Zel hgl hm pa hs) pt pb hf,λσ ρ H α M Dn s hh w=>qa σ ρ H α M _ s hh (FP.seq w λds M1 vs H1 α1 e1 h1 r1 w1=>?_)⟩;cases r1 with
 |nil=>exact w1.elim
 |cons r tz=>
  cases tz with
  |cons _ _=>cases r<;>exact w1.elim
  |nil=>
   cases r with
   |int j=>
    by_cases c: -(2^62)<=j/\j<2^62
    .simp only[if_pos c]at w1;exact⟨j,rfl,c.1,c.2,ZoP (tg:=tg) qt qb (s.mono e1) h1 w1⟩
    .simp only[if_neg c]at w1;exact w1.elim
   |_=>exact w1.elim
def Zux(K:Fg)(tl:TE):TI:=λσ H R=>tl σ H λx H1=>∃a,x=.ref a/\(((∃xs,SqL K H1 a xs)/\R (Itl K a) H1)\/((∃xs,SqT K H1 a xs)/\R (Itt K a) H1))
theorem Zk9(hl:PE X l tl):PI X tg l (Zux X.K tl):=by
 intro pins s σ H R I h;refine thn (hl pins s σ H _ I h) λv s1 hz=>?_;obtain⟨x,H1,I1,r1,q1⟩:=hz;obtain⟨a,e,q⟩:=q1;subst e;cases r1;have fp:∀b∈[s1.heap.objs.size],Ze4 X pins H1 b:=λb hb=>by
  have e:b=s1.heap.objs.size:=by simpa using hb
  subst e;exact I1.fpOk (ac _) (I1.hok.fresh (ac _))
 rcases q with⟨⟨xs,hq⟩,q⟩|⟨⟨xs,hq⟩,q⟩
 .obtain⟨its,rv,p,hz⟩:=I1.list hq;refine iD p.isList ?_;exact⟨s1.heap.objs.size,[s1.heap.objs.size],_,_,H1,rfl,I1.kept (t':=s1.toks) λb o e=>Hq _ e,Zhh a _,⟨_,aS _ rfl,rfl,rfl⟩,fp,q⟩
 .obtain⟨its,rv,p,hz⟩:=I1.tuple hq;refine wpAny_pyIter_tuple (show s1.heap.IsTuple a its.toArray from p) ?_;exact⟨s1.heap.objs.size,[s1.heap.objs.size],_,_,H1,rfl,I1.kept (t':=s1.toks) λb o e=>Hq _ e,Zgz a _,⟨_,aS _ rfl,rfl,rfl⟩,fp,q⟩
theorem ZhY{f:Ev}(hp:eB (ae X.prog X.w) X.A X.env X.xe)(hl:DE X ξ l f)(hg:DG X tg gt)(hb:DSs X ξ body g)(hf:autoParam (∀x,cG l X.env x=pure x) Qin._auto_1):DS X ξ (.For tg l body [] pos) (ZnL gt f g):=by
 obtain⟨ta,pa,qa⟩:=hl;obtain⟨tt,pt,qt⟩:=hg;obtain⟨tb,pb,qb⟩:=hb;refine⟨_,Zhj hp (Zk9 pa) pt pb hf,λσ ρ H α M Dn s hh w=>qa σ ρ H α M _ s hh (FP.seq w λd M1 v H1 α1 e1 h1 r1 w1=>?_)⟩;have s1:=s.mono e1;have pure_:∀(ds:List D)(xs:List V),Reps X.K H1 α1 xs ds->FP X.K H1 α1 ξ Dn (Zb8 gt g ds ρ M1)->∀(i:Nat) σ' H',(∃ρ' α' M',Ext X.K H1 H' α1 α'/\SR X.K H' α' σ' ρ'/\HR X.K H' α' M'/\Zb8 gt g (ds.drop i) ρ' M'=Zb8 gt g ds ρ M1)->
   (∀x,xs[i]?=some x->tt x σ' H' λσ2 H2=>tb {Dn with nx:=λσ H=>∃ρ' α' M',Ext X.K H1 H α1 α'/\SR X.K H α' σ ρ'/\HR X.K H α' M'/\Zb8 gt g (ds.drop (i+1)) ρ' M'=Zb8 gt g ds ρ M1,ct:=λσ H=>∃ρ' α' M',Ext X.K H1 H α1 α'/\SR X.K H α' σ ρ'/\HR X.K H α' M'/\Zb8 gt g (ds.drop (i+1)) ρ' M'=Zb8 gt g ds ρ M1,bk:=Dn.nx} σ2 H2)/\
   (i=xs.length->Dn.nx σ' H'):=by
  intro ds xs r w1 i σ' H' hz;obtain⟨ρ',α',M',ex,sr,hr,en⟩:=hz;refine⟨λx hx=>?_,λhi=>?_⟩
  .have hi:i<ds.length:=by rw[<-r.length];exact(au.mp hx).1
   obtain⟨v,g1,g2⟩:=r.get (Gq hi);rw[hx]at g1;cases g1;rw[cj hi]at en;exact Zj1 (tg:=tg) w1 qt qb ex sr hr (Rep.mono ex g2) en (λσ' H' z=>z)
  .rw[hi,r.length,List.drop_length]at en;have en':Fl.nx ρ' M'=Zb8 gt g ds ρ M1:=en;rw[<-en']at w1;exact w1 σ' H' α' ex hr sr
 cases r1 with
 |@tup p xs ds hp rp=>
  have w2:FP X.K H1 α1 ξ Dn (Zb8 gt g ds ρ M1):=w1;refine⟨p,rfl,.inr ⟨⟨xs,(SqT.of hp)⟩,ZlU (K:=X.K) (a:=p) (xs:=xs) (λi σ' H'=>∃ρ' α' M',Ext X.K H1 H' α1 α'/\SR X.K H' α' σ' ρ'/\HR X.K H' α' M'/\Zb8 gt g (ds.drop i) ρ' M'=Zb8 gt g ds ρ M1) ⟨ρ,α1,M1,Ext.refl,s1,h1,rfl⟩ ?_ ?_ ?_⟩⟩
  .rintro i σ' H' _ ⟨ρ',α',M',ex,_⟩;exact SqT.of (ex.tup _ _ hp)
  .intro i x σ' H' hx z;exact(pure_ ds xs rp w2 i σ' H' z).1 x hx
  .intro σ' H' z;exact(pure_ ds xs rp w2 _ σ' H' z).2 rfl
 |@rol p xs ds hp rp=>
  have w2:FP X.K H1 α1 ξ Dn (Zb8 gt g ds ρ M1):=w1;refine⟨p,rfl,.inl ⟨⟨xs,hp.sq⟩,ZjB (K:=X.K) (a:=p) (xs:=xs) (λi σ' H'=>∃ρ' α' M',Ext X.K H1 H' α1 α'/\SR X.K H' α' σ' ρ'/\HR X.K H' α' M'/\Zb8 gt g (ds.drop i) ρ' M'=Zb8 gt g ds ρ M1) ⟨ρ,α1,M1,Ext.refl,s1,h1,rfl⟩ ?_ ?_ ?_⟩⟩
  .rintro i σ' H' _ ⟨ρ',α',M',ex,_⟩;exact(ex.rol _ _ hp).sq
  .intro i x σ' H' hx z;exact(pure_ ds xs rp w2 i σ' H' z).1 x hx
  .intro σ' H' z;exact(pure_ ds xs rp w2 _ σ' H' z).2 rfl
 |@ref p n hp=>
  cases em:M1[n]? with
  |none=>simp only[Zk8,em]at w1;exact w1.elim
  |some so=>
   cases so with
   |lst ds=>
    simp only[Zk8,em]at w1;obtain⟨xs0,g0,r0⟩:=h1.at hp em;generalize eo:Zg4 gt g n ds.length 0 ρ M1=o at w1;refine⟨p,rfl,.inl ⟨⟨xs0,SqL.of g0⟩,λi m σ' H'=>∃ρ' α' M',Ext X.K H1 H' α1 α'/\SR X.K H' α' σ' ρ'/\HR X.K H' α' M'/\Zg4 gt g n m i ρ' M'=o,⟨ds.length,ρ,α1,M1,Ext.refl,s1,h1,eo⟩,?_⟩⟩;rintro i m σ' H' ⟨ρ',α',M',ex,sr,hr,en⟩;unfold Zg4 at en;cases em2:M'[n]? with
    |none=>simp only[em2]at en;cases en;exact w1.elim
    |some so2=>
     cases so2 with
     |lst ds2=>
      simp only[em2]at en;obtain⟨xs,g1,g2⟩:=hr.at (ex.get hp) em2;cases ei:ds2[i]? with
      |none=>
       simp only[ei]at en;cases en;refine .inl ⟨⟨xs,SqL.of g1,?_⟩,w1 σ' H' α' ex hr sr⟩;rw[g2.length];exact bq.mp ei
      |some d=>
       simp only[ei]at en;obtain⟨v,k1,k2⟩:=g2.get ei;cases m with
       |zero=>cases en;exact w1.elim
       |succ m=>
        refine .inr ⟨⟨xs,v,SqL.of g1,k1⟩,λσ2 H2=>∃ρ' α' M',Ext X.K H1 H2 α1 α'/\SR X.K H2 α' σ2 ρ'/\HR X.K H2 α' M'/\Zg4 gt g n m (i+1) ρ' M'=o,λσ2 H2 z=>⟨m,df m,z⟩,λx H2 y=>?_⟩;obtain⟨ey,y⟩:=y;subst ey;have ev:=y xs (SqL.of g1);rw[k1]at ev;cases ev;exact Zj1 (tg:=tg) w1 qt qb ex sr hr k2 en (λσ' H' z=>z)
 |_=>exact w1.elim
end
noncomputable def fnF(g:Sv)(n k:Nat):W3:=λds M=>if ds.length=n then(match g (ds.map some++aZ k none) M with
 |.ret d M'=>.ok d M'
 |.nx _ M'=>.ok .non M'
 |.exc c M'=>.exc c M'
 |_=>.bad)else .bad
def spD(K:Fg)(F:W3):Sp:=λvs H Q E=>∃ds α M,Reps K H α vs ds/\HR K H α M/\OP K H α E Q (F ds M)
theorem Zez:∀{ds:List D}{k i:Nat}{d:D},(ds.map some++aZ k none)[i]?=some (some d)->ds[i]?=some d
 |[],k,i,d,h=>by
  rw[ge,je]at h
  have:=cE h
  rw[ip]at this;cases this.2
 |x::r,k,0,d,h=>by simpa using h
 |x::r,k,i+1,d,h=>by
  rw[aN,gE,dN]at h;rw[dN];exact Zez h
theorem SR.start{K:Fg}{H:Hp}{α:List Addr}{N:List Str}{vs:List V}{ds:List D}{k:Nat}(r:Reps K H α vs ds)(hk:k=N.length-ds.length):SR K H α (start N vs) (ds.map some++aZ k none):=by
 unfold L2.start;refine⟨by simp only[a8,aC,bF,r.length,hk],λi d h=>?_⟩
 obtain⟨v,h1,h2⟩:=r.get (Zez h);refine⟨v,?_,h2⟩;have hl:i<vs.length:=(au.mp h1).1;rw[aO (by rw[aC];exact hl),bH,h1]
 rfl
section
variable {P:bO}{K:Fg}
theorem ZoQ{st:Stmt}(F:Fun K x qual st f fd)(S:FnScope N ps (Zx st))(hn:n=ps.length)(hm:m=N.length-n)(hb:∀(cdv:aa)(A:cb)(outer:List Env)(s:az)(H:Hp)(E:XK),Room k (A.deeper (iL qual (Zx st) s.heap.objs.size f cdv))->Thr (Zg3 (CXE P w) P w K mg base N qual (Zx st) f cdv A outer s H E) E->DSs (Zg3 (CXE P w) P w K mg base N qual (Zx st) f cdv A outer s H E) E (ZaD st) g):FnOk P w K mg base (CXE P w) (k+1) f fd ps (spD K (fnF g n m)):=by
 obtain⟨oc,od,kV,doc,pm,an,cdv,ct,osl,rfl,lk,hcd⟩:=F.ex;refine ZlZ lk hcd S (λvs H Q E h=>?_) (λA outer s H vs Q E hr h=>?_)
 .obtain⟨ds,α,M,r,_,q⟩:=h;by_cases c:ds.length=n
  .rw[r.length,c,hn]
  .simp only[fnF,if_neg c]at q;exact q.elim
 .obtain⟨ds,α,M,r,hh,q⟩:=h;obtain⟨t,p,w'⟩:=hb cdv A outer s H E hr ZoN;by_cases c:ds.length=n
  .simp only[fnF,if_pos c]at q;refine⟨t,p,w' _ _ H α M _ (SR.start (N:=N) r (k:=m) (by rw[hm,c])) hh ?_⟩
   cases e:g (ds.map some++aZ m none) M with
   |nx ρ' M'=>simp only[e]at q;exact λσ' H' α' ex hr sr=>q _ H' α' ex hr .non
   |ret d M'=>simp only[e]at q;exact q
   |exc x M'=>simp only[e]at q;exact q
   |brk ρ' M'=>simp only[e]at q;exact q.elim
   |cnt ρ' M'=>simp only[e]at q;exact q.elim
   |bad=>simp only[e]at q;exact q.elim
  .simp only[fnF,if_neg c]at q;exact q.elim
end
theorem Zmq(G:FnOk X.prog X.w X.K X.mg X.base (CXE X.prog X.w) k f fd ps (spD X.K F))(T:Thr X ξ)(hr:Room k X.A)(hm:X.mg x=some (.ref f))(hk:PySem.W.keepIn X.K (.ref f)=true)(hb:ZdS X.K fd ps [])(ha:DA X ξ (e::es) fs)(hg:autoParam (Gl X x) Qrf._auto_1)
  (hdb:(x==("__debug__":Str))=false:=by decide) (he:af (e::es) X.env=(false,eval e X.env)::af es X.env:=by rfl) (hpl:(b8 pos (af es X.env)).any (·.1)=false:=by rfl):DE X ξ (.Call (.Name x p) (e::es) [] pos) (Zj F fs):=by
 obtain⟨t,pa,qa⟩:=ha;refine⟨_,ZlY G hr hg hm hk hb .nil T.ps pa hdb he hpl,λσ ρ H α M Q s hh q=>qa σ ρ H α M _ s hh (OG.seq q λds M1 vs H1 α1 e1 h1 r1 q1=>?_)⟩;rw[bR];exact⟨ds,α1,M1,r1,h1,q1⟩
end DL
namespace DL
open PyProof.Rows L2
theorem ZeA:bg "abs"=some (.builtin "abs"):=by decide +kernel
theorem ZhZ:bg "int"=some (.type "int"):=by decide +kernel
theorem Zff:bg "bool"=some (.type "bool"):=by decide +kernel
theorem ZoR:bg "str"=some (.type "str"):=by decide +kernel
theorem Zaw:bg "list"=some (.type "list"):=by decide +kernel
theorem ZK:bg "tuple"=some (.type "tuple"):=by decide +kernel
theorem ZoS:bg "max"=some (.builtin "max"):=by decide +kernel
theorem ZoT:bg "min"=some (.builtin "min"):=by decide +kernel
theorem ZcN:bg "all"=some (.builtin "all"):=by decide +kernel
def Cal(P:bO)(w:cu)(K:Fg)(mg:Str->Option aa)(base:Heap)(x:Str)(k n:Nat)(F:W3):Prop:=
 ∃(f:Addr) (fd:f8) (ps:List Str),FnOk P w K mg base (CXE P w) k f fd ps (spD K F)/\mg x=some (.ref f)/\PySem.W.keepIn K (.ref f)=true/\ps.length=n/\ZdS K fd ps []
theorem Zj2(C:Cal X.prog X.w X.K X.mg X.base x k n F)(T:Thr X ξ)(hr:Room k X.A)(ha:DA X ξ (e::es) fs)(hg:autoParam (Gl X x) Qrf._auto_1)(hdb:autoParam ((x==("__debug__":Str))=false) Qde._auto_1)(he:autoParam (af (e::es) X.env=(false,eval e X.env)::af es X.env) Qrf._auto_1)(hpl:autoParam ((b8 pos (af es X.env)).any (·.1)=false) Qrf._auto_1):DE X ξ (.Call (.Name x p) (e::es) [] pos) (Zj F fs):=by
 obtain⟨f,fd,ps,G,hm,hk,_,hb⟩:=C;exact Zmq G T hr hm hk hb ha hg hdb he hpl
end DL
namespace DL
open PyProof.Rows L2
noncomputable def bl:List Str:=["ValueError","abs","all","any","bool","dict","enumerate","int","isinstance","len","list","max","min","range","repr","reversed","sorted","str","sum","tuple","zip"]
structure Bs(mg:Str->Option aa):Prop where
 b_ValueError:mg "ValueError"=none
 b_abs:mg "abs"=none
 b_all:mg "all"=none
 b_any:mg "any"=none
 b_bool:mg "bool"=none
 b_dict:mg "dict"=none
 b_enumerate:mg "enumerate"=none
 b_int:mg "int"=none
 b_isinstance:mg "isinstance"=none
 b_len:mg "len"=none
 b_list:mg "list"=none
 b_max:mg "max"=none
 b_min:mg "min"=none
 b_range:mg "range"=none
 b_repr:mg "repr"=none
 b_reversed:mg "reversed"=none
 b_sorted:mg "sorted"=none
 b_str:mg "str"=none
 b_sum:mg "sum"=none
 b_tuple:mg "tuple"=none
 b_zip:mg "zip"=none
theorem Bs.of{K:Fg}(X:K.In h)(G:h.Ns aG mg)(z:bl.map (PySem.W.nsIn K aG)=bl.map λ_=>some none):Bs mg:=by
 have q (x:Str) (m:x∈bl):mg x=none:=PySem.W.mg_none_of X G (List.map_inj_left.mp z x m)
 constructor<;>exact q _ (by decide +kernel)
noncomputable def Df(K:Fg)(x:Str)(st:Stmt):Prop:=∃f fd,PySem.W.nsIn K aG x=some (some (.ref f))/\Fun K x x st f fd
def Dfs(K:Fg)(p:Nat->Stmt)(L:List Rw):Prop:=
 L.map (λr=>(PySem.W.nsIn K aG r.n,K.lookup r.f,PySem.W.codeIn K (.ref (r.f-1)) r.n,PySem.W.keepIn K (.ref r.f)))=L.map λr=>(some (some (.ref r.f)),some (r.fo p),true,true)
theorem Dfs.of{K:Fg}(h:L.map (λr=>(PySem.W.nsIn K aG r.n,K.lookup r.f,PySem.W.codeIn K (.ref (r.f-1)) r.n,PySem.W.keepIn K (.ref r.f)))=L.map λr=>(some (some (.ref r.f)),some (r.fo p),true,true)):Dfs K p L:=h
theorem Dfs.at{K:Fg}(h:Dfs K p L)(j i:Nat)(e:autoParam ((L[j]?).map (λr=>(aB r.n,r.i))=some (x,i)) Qrf._auto_1):Df K x (p i):=by
 obtain⟨r,m,e⟩:=ar.mp e;have q:=List.map_inj_left.mp h r (cE m);cases e;simp only[ke]at q;exact⟨_,_,q.1,Zk0 q.2.1 q.2.2.1 q.2.2.2⟩
section
variable {P:bO}{K:Fg}{mg:Str->Option aa}
theorem Zuy{α:Type}{P:List α->Prop}(h:P []):∀us:List α,us.length=0->P us
 |[],_=>h
theorem Zuz{α:Type}{P:List α->Prop}(h:∀x0,P [x0]):∀us:List α,us.length=1->P us
 |[x0],_=>h x0
theorem ZuA{α:Type}{P:List α->Prop}(h:∀x0 x1,P [x0,x1]):∀us:List α,us.length=2->P us
 |[x0,x1],_=>h x0 x1
theorem len3{α:Type}{P:List α->Prop}(h:∀x0 x1 x2,P [x0,x1,x2]):∀us:List α,us.length=3->P us
 |[x0,x1,x2],_=>h x0 x1 x2
theorem len4{α:Type}{P:List α->Prop}(h:∀x0 x1 x2 x3,P [x0,x1,x2,x3]):∀us:List α,us.length=4->P us
 |[x0,x1,x2,x3],_=>h x0 x1 x2 x3
theorem ZuB{α:Type}{P:List α->Prop}(h:∀x0 x1 x2 x3 x4,P [x0,x1,x2,x3,x4]):∀us:List α,us.length=5->P us
 |[x0,x1,x2,x3,x4],_=>h x0 x1 x2 x3 x4
theorem ZuC{α:Type}{P:List α->Prop}(h:∀x0 x1 x2 x3 x4 x5,P [x0,x1,x2,x3,x4,x5]):∀us:List α,us.length=6->P us
 |[x0,x1,x2,x3,x4,x5],_=>h x0 x1 x2 x3 x4 x5
theorem ZJ{st:Stmt}(D:Df K x st)(gl:∀c v,PySem.W.nsIn K aG c=some (some v)->mg c=some v)(hb:∀(cdv:aa)(A:cb)(outer:List Env)(s:az)(H:Hp)(E:XK)(f:Addr),N.Nodup->Room k (A.deeper (iL x (Zx st) s.heap.objs.size f cdv))->Thr (Zg3 (CXE P w) P w K mg base N x (Zx st) f cdv A outer s H E) E->DSs (Zg3 (CXE P w) P w K mg base N x (Zx st) f cdv A outer s H E) E (ZaD st) g)(h1:autoParam ((Zx st).kind=.function) Qrf._auto_1)(h2:autoParam ((Zx st).isCoroutine=false) Qrf._auto_1)(h3:autoParam ((Zx st).isGenerator=false) Qrf._auto_1)(h4:N.Nodup:=by decide +kernel)(h5:autoParam ((N.take n).length=n) Qrf._auto_1)(h6:∀y∈N.take n,(Zx st).names.lookup y=some .local\/(Zx st).names.lookup y=some .cell:=by decide +kernel)(h7:∀y∈(Zx st).names,y.2≠ .free:=by decide +kernel)(hm:autoParam (m=N.length-n) Qrf._auto_1)(bi:∀(kV doc pm:aa)(an:Option Addr)(cdv ct:aa)(us:List aa),us.length=n->bindArgs (PySem.W.fnOf x x (Zbo st) (ZaD st) (Zx st) .none kV doc pm an cdv ct) ⟨us,[]⟩=pure ((N.take n).zip us):=by first|exact λ_ _ _ _ _ _=>Zuz λ_=>rfl|exact λ_ _ _ _ _ _=>ZuA λ_ _=>rfl|exact λ_ _ _ _ _ _=>len3 λ_ _ _=>rfl|exact λ_ _ _ _ _ _=>len4 λ_ _ _ _=>rfl|exact λ_ _ _ _ _ _=>ZuB λ_ _ _ _ _=>rfl|exact λ_ _ _ _ _ _=>ZuC λ_ _ _ _ _ _=>rfl|exact λ_ _ _ _ _ _=>Zuy rfl):Cal P w K mg base x (k+1) n (fnF g n m):=by
 obtain⟨f,fd,a,F⟩:=D;have S:FnScope N (N.take n) (Zx st):=⟨h1,h2,h3,h4,by rw[h5],h6,h7⟩
 exact⟨f,fd,N.take n,ZoQ F S h5.symm hm (λcdv A outer s H E hr θ=>hb cdv A outer s H E f h4 hr θ),gl _ _ a,F.kp,h5,F.binds (λkV doc pm an cdv ct us hu=>bi kV doc pm an cdv ct us (hu.trans h5))⟩
theorem Zh(C:Cal X.prog X.w X.K X.mg X.base x k n F)(T:Thr X ξ)(hr:Room j X.A)(ha:DA X ξ (e::es) fs)(hj:autoParam (k<=j) Qde._auto_1)(hg:autoParam (Gl X x) Qrf._auto_1)(hdb:autoParam ((x==("__debug__":Str))=false) Qde._auto_1)(he:autoParam (af (e::es) X.env=(false,eval e X.env)::af es X.env) Qrf._auto_1)(hpl:autoParam ((b8 pos (af es X.env)).any (·.1)=false) Qrf._auto_1):DE X ξ (.Call (.Name x p) (e::es) [] pos) (Zj F fs):=Zj2 C T (hr.mono hj) ha hg hdb he hpl
theorem ZoU{l:PySem.W.OpenLaw}{st:Stmt}(X:K.In h)(G:h.Ns aG mg)(hfa:mg "law"=some (.ref fa))(D:Df K "law" st)(b:∀(kV doc pm:aa)(an:Option Addr)(cdv ct:aa)(v:aa),bindArgs (PySem.W.fnOf "law" "law" (Zbo st) (ZaD st) (Zx st) .none kV doc pm an cdv ct) ⟨[v],[]⟩=pure [(y,v)])(q:∀base fd,Fun K "law" "law" st fa fd->FnOk l.prog w K mg base (CXE l.prog w) k fa fd [y] (spD K F)):∃fd:f8,(∀(s:az)(v:aa),jO s fd ⟨[v],[]⟩ [(y,v)])/\∀base:Heap,K.In base->base.Ns aG mg->FnOk l.prog w K mg base (CXE l.prog w) k fa fd [y] (spD K F):=by
 obtain⟨f,fd,a,F⟩:=D;have e:=hfa.symm.trans (PySem.W.mg_of X G a);cases e;refine⟨fd,?_,λbase _ _=>q base fd F⟩;obtain⟨oc,od,kV,doc,pm,an,cdv,ct,osl,rfl,lk,hcd⟩:=F.ex;exact λs v=>.of_eq (b kV doc pm an cdv ct v)
end
end DL
namespace DL
open PyProof.Rows L2
inductive Src where
 |pur (ds:List D)
 |sto (n:Nat)
 |zip (n m:Nat)
 |enu (n:Nat)
 |rev (n l:Nat)
 |zips (ns:List Nat)
 |dct (n:Nat)
 |zipT (n:Nat) (es:List D)
def Zh0(M:Sto)(i:Nat):List Nat->Option (Option (List D))
 |[]=>some (some [])
 |n::ns=>match M[n]? with
  |none=>none
  |some (.lst xs)=>match Zh0 M i ns with
   |none=>none
   |some r=>match xs[i]?,r with|some x,some ds=>some (some (x::ds))|_,_=>some none
def nxt(src:Src)(i:Nat)(M:Sto):Option (Option D):=match src with
 |.pur ds=>some ds[i]?
 |.sto n=>match M[n]? with|some (.lst xs)=>some xs[i]?|none=>none
 |.zip n m=>match M[n]?,M[m]? with
  |some (.lst xs),some (.lst ys)=>(match xs[i]?,ys[i]? with|some x,some y=>some (some (.tup [x,y]))|_,_=>some none)
  |_,_=>none
 |.enu n=>match M[n]? with|some (.lst xs)=>(match xs[i]? with|some x=>some (some (.tup [.int i,x]))|none=>some none)|none=>none
 |.zipT n es=>match M[n]? with|some (.lst xs)=>(match xs[i]?,es[i]? with|some x,some y=>some (some (.tup [x,y]))|_,_=>some none)|none=>none
 |.dct n=>match M[n]? with|some (.lst (.non::r))=>(match r[i]? with|some (.tup (k::_))=>some (some k)|some _=>none|none=>some none)|_=>none
 |.zips ns=>match Zh0 M i ns with|some (some ds)=>some (some (.tup ds))|some none=>some none|none=>none
 |.rev n l=>match M[n]? with|some (.lst xs)=>if i<l then(match xs[l-1-i]? with|some x=>some (some x)|none=>none)else(if i=l then some none else none)|none=>none
def cnt(src:Src)(M:Sto):Nat:=match src with
 |.pur ds=>ds.length
 |.sto n=>match M[n]? with|some (.lst xs)=>xs.length|none=>0
 |.zip n _=>match M[n]? with|some (.lst xs)=>xs.length|none=>0
 |.enu n=>match M[n]? with|some (.lst xs)=>xs.length|none=>0
 |.rev _ l=>l
 |.zipT n _=>match M[n]? with|some (.lst xs)=>xs.length|none=>0
 |.dct n=>match M[n]? with|some (.lst xs)=>xs.length|none=>0
 |.zips ns=>match ns with|n::_=>(match M[n]? with|some (.lst xs)=>xs.length|none=>0)|[]=>0
def Ats(H:Hp)(α:List Addr):List Nat->List Addr->Prop
 |[],[]=>True
 |n::ns,l::ls=>RefK H α 0 n l/\Ats H α ns ls
 |_,_=>False
def Zrh(K:Fg)(H:Hp)(α:List Addr)(J:It)(src:Src):Prop:=∀(i:Nat) H' α' M',Ext K H H' α α'->HR K H' α' M'->match nxt src i M' with
 |some none=>J.stop i H'
 |some (some d)=>J.go i H'/\∀x H'',J.yld i H' x H''->Ext K H' H'' α' α'/\HR K H'' α' M'/\Rep K H'' α' x d
 |none=>True
def DI(X:Cx)(ξ:XK)(tg iter:Expr)(f:Ro->Sto->Out Src):Prop:=∃wi:TI,PI X tg iter wi/\∀σ ρ H α M R,SR X.K H α σ ρ->HR X.K H α M->OG X.K (Zrh X.K) H α ξ R (f ρ M)->wi σ H R
def iR1(fs:Av):Ro->Sto->Out Src:=λρ M=>(fs ρ M).bind λds M1=>match ds with
 |[.int j]=>if -(2^62)<=j/\j<2^62 then .ok (.pur (ZaO 0 j.toNat)) M1 else .bad
 |_=>.bad
theorem ZgK{K:Fg}{lo:Int}:Zrh K H α (Itr lo n) (.pur (ZaO lo n)):=by
 intro i H' α' M' ex hr;show match some (ZaO lo n)[i]? with|some none=>_|some (some d)=>_|none=>True
 by_cases h:i<n
 .rw[ZfU h];refine⟨h,λx H'' y=>?_⟩;obtain⟨e1,e2⟩:=y;subst e1 e2;exact⟨Ext.refl,hr,.int _⟩
 .rw[bj (by rw[ZdX];lia)]
  exact Nat.le_of_not_lt h
theorem Zh1(hm:X.mg "range"=none)(ha:DA X ξ [a] fs)(hgl:autoParam (Gl X "range") Qrf._auto_1)(hs:autoParam (af [a] X.env=[(false,eval a X.env)]) Qrf._auto_1):DI X ξ tg (.Call (.Name "range" p) [a] [] pos) (iR1 fs):=by
 obtain⟨ta,pa,qa⟩:=ha;refine⟨_,Zel hgl hm pa hs,λσ ρ H α M R s hh q=>qa σ ρ H α M _ s hh (OG.seq q λds M1 vs H1 α1 e1 h1 r1 w1=>?_)⟩;cases r1 with
 |nil=>exact w1.elim
 |cons r tz=>
  cases tz with
  |cons _ _=>cases r<;>exact w1.elim
  |nil=>
   cases r with
   |int j=>
    by_cases c: -(2^62)<=j/\j<2^62
    .simp only[if_pos c]at w1;exact⟨j,rfl,c.1,c.2,w1 _ H1 α1 Ext.refl h1 ZgK⟩
    .simp only[if_neg c]at w1;exact w1.elim
   |_=>exact w1.elim
def iSq(f:Ev):Ro->Sto->Out Src:=λρ M=>(f ρ M).bind λd M1=>match d with
 |.tup ds=>.ok (.pur ds) M1
 |.rol ds=>.ok (.pur ds) M1
 |.con ds=>.ok (.pur ds) M1
 |.ref n=>.ok (.sto n) M1
 |_=>.bad
theorem ZaH(ha:DE X ξ a f):DI X ξ tg a (iSq f):=by
 obtain⟨ta,pa,qa⟩:=ha;refine⟨_,Zk9 pa,λσ ρ H α M R s hh q=>qa σ ρ H α M _ s hh (OG.seq q λd M1 v H1 α1 e1 h1 r1 w1=>?_)⟩;cases r1 with
 |@tup p xs ds hp rp=>
  refine⟨p,rfl,.inr ⟨⟨xs,(SqT.of hp)⟩,w1 (Itt X.K p) H1 α1 Ext.refl h1 ?_⟩⟩;intro i H' α' M' ex hr;show match some ds[i]? with|some none=>_|some (some d)=>_|none=>True
  cases ei:ds[i]? with
  |none=>exact⟨xs,SqT.of (ex.tup _ _ hp),by rw[rp.length];exact bq.mp ei⟩
  |some d=>
   obtain⟨v,k1,k2⟩:=rp.get ei;refine⟨⟨xs,v,SqT.of (ex.tup _ _ hp),k1⟩,λx H'' y=>?_⟩;obtain⟨ey,y⟩:=y;have z:=y xs (SqT.of (ex.tup _ _ hp));rw[k1]at z;cases z;subst ey;exact⟨Ext.refl,hr,Rep.mono ex k2⟩
 |@con p xs ds hp rp=>
  refine⟨p,rfl,.inr ⟨⟨xs,hp.sq⟩,w1 (Itt X.K p) H1 α1 Ext.refl h1 ?_⟩⟩;intro i H' α' M' ex hr;show match some ds[i]? with|some none=>_|some (some d)=>_|none=>True
  cases ei:ds[i]? with
  |none=>exact⟨xs,hp.sq,by rw[rp.length];exact bq.mp ei⟩
  |some d=>
   obtain⟨v,k1,k2⟩:=rp.get ei;refine⟨⟨xs,v,hp.sq,k1⟩,λx H'' y=>?_⟩;obtain⟨ey,y⟩:=y;have z:=y xs hp.sq;rw[k1]at z;cases z;subst ey;exact⟨Ext.refl,hr,Rep.mono ex k2⟩
 |@rol p xs ds hp rp=>
  refine⟨p,rfl,.inl ⟨⟨xs,hp.sq⟩,w1 (Itl X.K p) H1 α1 Ext.refl h1 ?_⟩⟩;intro i H' α' M' ex hr;show match some ds[i]? with|some none=>_|some (some d)=>_|none=>True
  have hq:=(ex.rol _ _ hp).sq;cases ei:ds[i]? with
  |none=>exact⟨xs,hq,by rw[rp.length];exact bq.mp ei⟩
  |some d=>
   obtain⟨v,k1,k2⟩:=rp.get ei;refine⟨⟨xs,v,hq,k1⟩,λx H'' y=>?_⟩;obtain⟨ey,y⟩:=y;have z:=y xs hq;rw[k1]at z;cases z;subst ey;exact⟨Ext.refl,hr,Rep.mono ex k2⟩
 |@ref p n hp=>
  obtain⟨xs0,g0⟩:=h1.some_at hp;refine⟨p,rfl,.inl ⟨⟨xs0,SqL.of g0⟩,w1 (Itl X.K p) H1 α1 Ext.refl h1 ?_⟩⟩;intro i H' α' M' ex hr;show match(match M'[n]? with|some (.lst xs)=>some xs[i]?|none=>none)with|some none=>_|some (some d)=>_|none=>True
  cases em:M'[n]? with
  |none=>exact cW
  |some so=>
   cases so with
   |lst ds=>
    obtain⟨xs,g1,g2⟩:=hr.at (ex.get hp) em;show match some ds[i]? with|some none=>_|some (some d)=>_|none=>True
    cases ei:ds[i]? with
    |none=>exact⟨xs,SqL.of g1,by rw[g2.length];exact bq.mp ei⟩
    |some d=>
     obtain⟨v,k1,k2⟩:=g2.get ei;refine⟨⟨xs,v,SqL.of g1,k1⟩,λx H'' y=>?_⟩;obtain⟨ey,y⟩:=y;have z:=y xs (SqL.of g1);rw[k1]at z;cases z;subst ey;exact⟨Ext.refl,hr,k2⟩
 |_=>exact w1.elim
theorem ZaV:∀(names:List (Str×cR)) (n:Nat) (acc:List (Str×Addr)),bP n names acc=bP n names []++acc
 |[],_,_=>rfl
 | (x,kd)::r,n,acc=>by
  unfold bP;split
  .rw[ZaV r (n+1) ((x,n)::acc),ZaV r (n+1) [(x,n)]];simp
  .exact ZaV r n acc
theorem Zb9:∀(names:List (Str×cR)) (n:Nat) (x:Str) (c:Addr),(x,c)∈bP n names []->(x,dG)∈names
 |[],_,_,_,h=>by simp[bP]at h
 | (y,kd)::r,n,x,c,h=>by
  unfold bP at h
  split at h
  .rename_i hk;rw[ZaV]at h;rcases cV.mp h with h|h
   .exact aL _ (Zb9 r (n+1) x c h)
   .have e:=iq.mp h;cases e
    have:kd=.cell:=by simpa using hk
    rw[this];exact bM
  .exact aL _ (Zb9 r n x c h)
theorem ZdY{α:Type}:∀{l r:List (Str×α)} {x:Str} {c:α},(l++r).lookup x=some c->l.lookup x=some c\/(l.lookup x=none/\r.lookup x=some c)
 |[],r,x,c,h=>.inr ⟨rfl,h⟩
 | (y,d)::l,r,x,c,h=>by
  rw[gE,bG]at h;rw[bG];cases e:x==y with
  |true=>rw[e]at h;exact .inl h
  |false=>rw[e]at h;exact ZdY h
theorem ZdF{α:Type}:∀{l r:List (Str×α)} {x:Str},(∀c,(x,c)∉l)->(l++r).lookup x=r.lookup x
 |[],_,_,_=>rfl
 | (y,d)::l,r,x,h=>by
  rw[gE,bG];cases e:x==y with
  |true=>
   have:x=y:=by simpa using e
   exact absurd (by rw[this];exact bM) (h d)
  |false=>exact ZdF λc hc=>h c (aL _ hc)
theorem Zh2(hQ:Q (newEnv scope s.heap.objs.size globals (bP (s.heap.objs.size+1) scope.names cl) qual none .none (some env) kA) {s with heap:=hZ (s.heap.push {cls:=.type "dict",data:=.dict #[]}) scope.names}):wpAny M A (newFunctionEnv scope globals cl [] qual none .none (some env)) Q E s:=by
 simp only[newFunctionEnv,Option.isSome_some,if_true];refine Wb (wpAny_alloc ?_);refine Wb (wpAny_layCells _ (λname kind cells=>by cases hkc:kind==dG<;>simp[hkc]) _ _ _ _ ?_)
 rw[show({s with heap:=s.heap.push {cls:=.type "dict",data:=.dict #[]}}:az).heap.objs.size=s.heap.objs.size+1 from eK ..];exact Wb (Wp (Wp hQ))
theorem _root_.PySem.W.cellsFrom_mem {x:Str}:∀(names:List (Str×cR)) (n:Nat) (acc:List (Str×Addr)),(x,dG)∈names->((bP n names acc).lookup x).isSome=true
 |[],_,_,h=>by simp at h
 | (y,kd)::r,n,acc,h=>by
  have acc_some:∀(names:List (Str×cR)) (n:Nat) (acc:List (Str×Addr)),(acc.lookup x).isSome=true->((bP n names acc).lookup x).isSome=true:=λnames n acc h=>PySem.W.cellsFrom_some names n acc (.inr h);unfold bP;split
  .rcases aM.mp h with e|e
   .cases e;refine acc_some _ _ _ ?_;rw[bG];simp
   .exact PySem.W.cellsFrom_mem r _ _ e
  .rename_i hk;rcases aM.mp h with e|e
   .cases e;simp at hk
   .exact PySem.W.cellsFrom_mem r _ _ e
noncomputable def blk(X:Cx)(scope:kg)(cl:List (Str×Addr))(N:List Str)(C:Addr)(fp:List Addr)(s:az)(H:Hp):Cx:=
 {X with N:=N,s₀:=s,H₀:=H,env:=compEnvC scope (bP (C+1) scope.names cl) C X.env,outer:=X.stack,stack:=X.stack,ex:=fp,fn:=λx=>scope.names.any λy=>y.1==x&&y.2 == .cell,pn:=[],xe:=λ_ _=>False,fxs:=none}
theorem ZQ:Thr (blk X scope cl N C fp s H) E0:=
 ⟨eB.never,λ_ _ _ _ _ _ _ h=>by obtain⟨_,_,_,_,_,_,_,_,_,_,_,_,_,q⟩:=h;exact q,λ_ _ _ _ _ _ _ _ _ _ _ _ _ _ _ _ _ _ _ _ _ _ q=>q⟩
def ZeB(src:Src)(tg:Tg)(c:Tv)(f:Ev)(n:Nat):Nat->Nat->Ro->Sto->Out Unit
 |fuel,i,ρ,M=>match nxt src i M with
  |none=>.bad
  |some none=>.ok () M
  |some (some d)=>(match fuel with
   |0=>.bad
   |fuel+1=>(match tg d ρ with
    |none=>.bad
    |some ρ1=>(match c ρ1 M with
     |.ok true M1=>(match f ρ1 M1 with
      |.ok x M2=>(match M2[n]? with
       |some (.lst xs)=>if xs.length<10000000 then ZeB src tg c f n fuel (i+1) ρ1 (M2.set n (.lst (xs++[x])))else .bad
       |none=>.bad)
      |_=>.bad)
     |.ok false M1=>ZeB src tg c f n fuel (i+1) ρ1 M1
     |_=>.bad)))
noncomputable def roB(k:Nat)(fr:List Nat)(ρ:Ro):Ro:=aZ k none++fr.map λi=>(ρ[i]?).join
def ZaP(fi:Ro->Sto->Out Src)(k:Nat)(fr:List Nat)(tg:Tg)(c:Tv)(f:Ev):Ev:=λρ M=>(fi ρ M).bind λsrc M1=>match ZeB src tg c f M1.length (cnt src M1) 0 (roB k fr ρ) (M1++[.lst []])with
 |.ok _ M2=>.ok (.ref M1.length) M2
 |_=>.bad
structure Blk(X:Cx) (scope:kg) (cl:List (Str×Addr)) (N:List Str) (k:Nat) (fr:List Nat):Prop where
 clos:closureFor scope X.env=pure cl
 kind:scope.kind=.function
 names:∀y∈scope.names,y.2=.local->scope.names.lookup y.1=some .local
 sub:∀x c,cl.lookup x=some c->X.env.cells.lookup x=some c
 has:∀n x,((relabel scope X.env).names.lookup x=some .cell\/(relabel scope X.env).names.lookup x=some .free)->∃c,(bP n scope.names cl).lookup x=some c
 len:N.length=k+fr.length
 at_:∀(j i:Nat),fr[j]?=some i->∃x,N[k+j]?=some x/\X.N[i]?=some x/\X.env.kindOf x=some .cell/\((relabel scope X.env).names.lookup x=some .cell\/(relabel scope X.env).names.lookup x=some .free)/\cl.lookup x=X.env.cells.lookup x/\(x,dG)∉scope.names
noncomputable def ZgL(target iter:Expr)(ifs:List Expr)(it:aa)(env:Env)(body ag:Sem Fin):Sem Fin:=do
 standAt iter.pos
 match <-iG it with
 |none=>pure (.done .next)
 |some v=>
  fJ target it v
  assign target env v
  let mut ok:=true
  for c in ifs do
   if ok then ok <-isTrue c env (eval c env)
  if ok then body else ag
noncomputable def Zmr(e elt:Expr)(d:Nat)(it acc:aa)(env:Env):Sem Fin:=do
 (do let _ <-call (.builtin "list.append") [acc,<-eval elt env])
 again (.compLoop e d it acc env)
theorem ZfV(elt t0 i0:Expr)(f0:List Expr)(sc:kg)(pos:Pos)(it acc:aa)(env:Env):jz (.ListComp elt [⟨t0,i0,f0,0⟩] sc pos) 0 it acc env=ZgL t0 i0 f0 it env (Zmr (.ListComp elt [⟨t0,i0,f0,0⟩] sc pos) elt 0 it acc env) (again (.compLoop (.ListComp elt [⟨t0,i0,f0,0⟩] sc pos) 0 it acc env)):=by rfl
theorem ZgM(he:jz (.ListComp elt gens scope pos) d it acc env=ZgL target iter ifs it env body (again (.compLoop (.ListComp elt gens scope pos) d it acc env)))(I:Nat->az->Prop)(turn:∀n s,I n s->wpAny (ae prog w) A (iG it) (λr s₁=>match r with
   |none=>R (.ok .next) s₁
   |some v=>wpAny (ae prog w) A (fJ target it v) (λ_ s₁=>wpAny (ae prog w) A (assign target env v) (λ_ s₂=>
     wpAny (ae prog w) A (forIn ifs true λc r=>if r=true then do let ok <-isTrue c env (eval c env);pure (ForInStep.yield ok)else pure (ForInStep.yield r)) (λok s₃=>
      if ok=true then wpAny (ae prog w) A body (λfin s₅=>fin=.again (.compLoop (.ListComp elt gens scope pos) d it acc env)/\∃m,m<n/\I m s₅) (λ_ _=>False) s₃
      else ∃m,m<n/\I m s₃) (λ_ _=>False) s₂) (λ_ _=>False) s₁) (λ_ _=>False) s₁) (λ_ _=>False) s)
  (n:Nat) (h:I n s):
  gY (ae prog w) A (.compLoop (.ListComp elt gens scope pos) d it acc env) R s:=by
 refine codeAny_loop rfl I (λn s hI=>?_) n h;show wpAny _ A ((jz (.ListComp elt gens scope pos) d it acc env).onRaise (λx=>do hW x env;theTreesLotGoes x)) _ _ s
 refine wpAny_noted ?_;rw[he];unfold ZgL;refine Wb (wpAny_standAt (Wb (wpAny_mono (turn n s hI) (λr s₁ h₁=>?_) λ_ _ h'=>h'.elim)));cases r with
 |none=>exact Wp h₁
 |some v=>
  refine Wb (wpAny_mono h₁ (λ_ s₁ h₁=>?_) λ_ _ h'=>h'.elim);refine Wb (wpAny_mono h₁ (λ_ s₂ h₂=>Wb (wpAny_mono h₂ (λok s₃ h₃=>?_) λ_ _ h'=>h'.elim)) λ_ _ h'=>h'.elim);cases ok with
  |false=>exact Wp ⟨rfl,h₃⟩
  |true=>
   refine wpAny_mono h₃ (λfin s₅ h₅=>?_) λ_ _ h'=>h'.elim;obtain⟨rfl,h5⟩:=h₅;exact⟨rfl,h5⟩
def DC(X:Cx)(ifs:List Expr)(c:Tv):Prop:=(ifs=[]/\c=λ_ M=>.ok true M)\/∃e,ifs=[e]/\DT X E0 e c
def Zfg(src:Src)(tg:Tg)(c:Tv)(g:Ro->Sto->Out Ro):Nat->Nat->Ro->Sto->Out Ro
 |fuel,i,ρ,M=>match nxt src i M with
  |none=>.bad
  |some none=>.ok ρ M
  |some (some d)=>(match fuel with
   |0=>.bad
   |fuel+1=>(match tg d ρ with
    |none=>.bad
    |some ρ1=>(match c ρ1 M with
     |.ok true M1=>(match g ρ1 M1 with
      |.ok ρ2 M2=>Zfg src tg c g fuel (i+1) ρ2 M2
      |_=>.bad)
     |.ok false M1=>Zfg src tg c g fuel (i+1) ρ1 M1
     |_=>.bad)))
noncomputable def gEm(f:Ev)(n:Nat):Ro->Sto->Out Ro:=λρ M=>match f ρ M with
 |.ok x M2=>(match M2[n]? with
  |some (.lst xs)=>if xs.length<10000000 then .ok ρ (M2.set n (.lst (xs++[x])))else .bad
  |none=>.bad)
 |_=>.bad
def ZdG(fi:Ro->Sto->Out Src)(k:Nat)(fr:List Nat)(tg:Tg)(c:Tv)(g:Nat->Ro->Sto->Out Ro):Ev:=λρ M=>(fi ρ M).bind λsrc M1=>match Zfg src tg c (g M1.length) (cnt src M1) 0 (roB k fr ρ) (M1++[.lst []])with
 |.ok _ M2=>.ok (.ref M1.length) M2
 |_=>.bad
def ZfW(Y:Cx)(D:Addr)(n0:Nat)(c:Code)(m:Sem Fin)(g:Ro->Sto->Out Ro):Prop:=∀pins s σ ρ H α M ρ' M',Inv Y pins σ H s->SR Y.K H α σ ρ->HR Y.K H α M->RefK H α 0 n0 D->g ρ M=.ok ρ' M'->
 wpAny (ae Y.prog Y.w) Y.A m (λfin s'=>fin=.again c/\∃σ' H' α',Inv Y pins σ' H' s'/\Ext Y.K H H' α α'/\SR Y.K H' α' σ' ρ'/\HR Y.K H' α' M') (λ_ _=>False) s
def CmP(Y:Cx)(pins:Pn)(fp:List Addr)(tn:Nat->Heap->Prop)(H3:Hp)(α3:List Addr)(g:Nat->Nat->Ro->Sto->Prop)(n:Nat)(s':az):Prop:=
 ∃i σ' ρ' H' α' M',Inv Y pins σ' H' s'/\tn i s'.heap/\(∀b∈fp,H' b=none)/\SR Y.K H' α' σ' ρ'/\HR Y.K H' α' M'/\Ext Y.K H3 H' α3 α'/\g n i ρ' M'
theorem Zh3{D:Addr}(hct:jz (.ListComp elt gens scope pos) d0 (.ref it) (.ref D) Y.env=ZgL tg iter ifs (.ref it) Y.env body (again (.compLoop (.ListComp elt gens scope pos) d0 (.ref it) (.ref D) Y.env)))(T:Turn Y.prog Y.w Y.K Y.A tg J fp it tn)(hxe:∀x y,Y.xe x y->False)(fp5:∀{H':Hp},(∀b∈fp,H' b=none)->∀b∈fp,Ze4 Y pins H' b)(hg:DG Y tg gt)(tst:DC Y ifs c)(hb:ZfW Y D n0 (.compLoop (.ListComp elt gens scope pos) d0 (.ref it) (.ref D) Y.env) body g)(sc:Zrh Y.K H3 α3 J src)(aD:RefK H3 α3 0 n0 D)(I4:Inv Y pins σ0 H3 s4)(st4:tn 0 s4.heap)(fr4:∀b∈fp,H3 b=none)(sr:SR Y.K H3 α3 σ0 ρ0)(h3:HR Y.K H3 α3 M3)(er:Zfg src gt c g fuel 0 ρ0 M3=.ok ρ9 M9)(post:∀σ5 H5 α5 s6,Inv Y pins σ5 H5 s6->Ext Y.K H3 H5 α3 α5->SR Y.K H5 α5 σ5 ρ9->HR Y.K H5 α5 M9->R (.ok .next) s6):gY (ae Y.prog Y.w) Y.A (.compLoop (.ListComp elt gens scope pos) d0 (.ref it) (.ref D) Y.env) R s4:=by
 obtain⟨tt,pt,qt⟩:=hg;refine ZgM hct (CmP Y pins fp tn H3 α3 λn i ρ' M'=>Zfg src gt c g n i ρ' M'=.ok ρ9 M9) ?_ fuel ⟨0,σ0,ρ0,H3,α3,M3,I4,st4,fr4,sr,h3,Ext.refl,er⟩;rintro n s5 ⟨i,σ5,ρ5,H5,α5,M5,I5,st5,fr5,sr5,hr5,ex5,en⟩;have src5:=sc i H5 α5 M5 ex5 hr5;rw[Zfg]at en;cases ex:nxt src i M5 with
 |none=>rw[ex]at en;cases en
 |some od=>
  rw[ex]at src5 en;cases od with
  |none=>
   cases en;have fin:=T.done Y rfl rfl rfl rfl i pins s5 σ5 H5 (λ_ _=>False) I5 (fp5 fr5) st5 src5;refine thn fin λr s6 w6=>?_;obtain⟨hr6,I6⟩:=w6;subst hr6;exact post σ5 H5 α5 s6 I6 ex5 sr5 hr5
  |some d=>
   obtain⟨go,yl⟩:=src5;cases n with
   |zero=>cases en
   |succ n=>
    simp only at en;have itm:=T.item Y rfl rfl rfl rfl i pins s5 σ5 H5 (λ_ _=>False) I5 (fp5 fr5) st5 go;refine thn itm λr s6 hz=>?_;obtain⟨u,hr6,w6⟩:=hz;subst hr6;refine thn w6 λ_ s7 hz=>?_;obtain⟨x,H7,I7,r7,y7,st7,fr7⟩:=hz;obtain⟨ex7,hr7,rp7⟩:=yl x H7 y7;have sr5:=sr5.mono ex7;have hr5:=hr7;have ex5:=ex5.trans ex7;have I7':=I7.pinned (fp5 fr7) (T.obj _ _ st7);cases eg:gt d ρ5 with
    |none=>rw[eg]at en;cases en
    |some ρ6=>
     rw[eg]at en;simp only at en;have asg:=pt _ s7 σ5 H7 x u _ I7' r7 (qt x d σ5 ρ5 H7 α5 ρ6 (λσ' H'=>H'=H7/\SR Y.K H7 α5 σ' ρ6) sr5 rp7 eg λσ' s'=>⟨rfl,s'⟩);refine wpAny_mono asg (λ_ s8 hz=>?_) (λx y z=>hxe x y z);obtain⟨σ8,H8,I8,z8,sr8⟩:=hz;subst z8;have again':∀{σ9:L2.St}{H9:Hp}{s9:az},Inv Y (pins++ZdC fp s7.heap) σ9 H9 s9->Inv Y pins σ9 H9 s9/\tn (i+1) s9.heap/\∀b∈fp,H9 b=none:=λ{σ9 H9 s9} I9=>by
      refine⟨I9.unpinned,T.keep _ _ _ st7 λb hb o e=>(I9.pin (b,o) (bE _ (bE _ (ZbQ hb e)))).1,λb hb=>?_⟩;obtain⟨o,e,_⟩:=T.obj _ _ st7 b hb;exact(I9.pin (b,o) (bE _ (bE _ (ZbQ hb e)))).2.1
     have after:∀(kk:Bool)(M8:Sto)(H9:Hp)(α9:List Addr)(s9:az),Inv Y (pins++ZdC fp s7.heap) σ8 H9 s9->Ext Y.K H8 H9 α5 α9->HR Y.K H9 α9 M8->c ρ6 M5=.ok kk M8->
       (if kk=true then wpAny (ae Y.prog Y.w) Y.A body (λfin s₅=>fin=.again (.compLoop (.ListComp elt gens scope pos) d0 (.ref it) (.ref D) Y.env)/\∃m,m<n+1/\CmP Y pins fp tn H3 α3 (λn i ρ' M'=>Zfg src gt c g n i ρ' M'=.ok ρ9 M9) m s₅) (λ_ _=>False) s9 else ∃m,m<n+1/\CmP Y pins fp tn H3 α3 (λn i ρ' M'=>Zfg src gt c g n i ρ' M'=.ok ρ9 M9) m s9):=by
      intro kk M8 H9 α9 s9 I9 ex9 hr9 ec;rw[ec]at en;cases kk with
      |false=>
       obtain⟨a1,a2,a3⟩:=again' I9;exact ZjK ⟨n,df n,i+1,σ8,ρ6,H9,α9,M8,a1,a2,a3,sr8.mono ex9,hr9,ex5.trans ex9,en⟩
      |true=>
       simp only at en;refine ZjL ?_;cases ef:g ρ6 M8 with
       |exc x9 M10=>rw[ef]at en;cases en
       |bad=>rw[ef]at en;cases en
       |ok ρ10 M10=>
        rw[ef]at en;simp only at en;refine thn (hb _ s9 σ8 ρ6 H9 α9 M8 ρ10 M10 I9 (sr8.mono ex9) hr9 (ex9.get (ex5.get aD)) ef) λfin s10 hz=>?_;obtain⟨hf,σ10,H10,α10,I10,ex10,sr10,hr10⟩:=hz;obtain⟨a1,a2,a3⟩:=again' I10;exact⟨hf,n,df n,i+1,σ10,ρ10,H10,α10,M10,a1,a2,a3,sr10,hr10,(ex5.trans ex9).trans ex10,en⟩
     rcases tst with⟨rfl,ec⟩|⟨e,rfl,tt',ptt,qtt⟩
     .refine wpAny_tests_nil ?_;exact after true M5 H8 α5 s8 I8 Ext.refl hr5 (by rw[ec])
     .refine wpAny_tests_one ?_;cases ec:c ρ6 M5 with
      |exc x9 M10=>rw[ec]at en;cases en
      |bad=>rw[ec]at en;cases en
      |ok kk M8=>
       have tv':=ptt _ s8 σ8 H8 (λb H'=>b=kk/\∃α',Ext Y.K H8 H' α5 α'/\HR Y.K H' α' M8) I8 (qtt σ8 ρ6 H8 α5 M5 _ sr8 hr5 (by
        rw[ec];exact λv H' α' e h r=>⟨r,α',e,h⟩))
       refine wpAny_mono tv' (λb s9 hz=>?_) (λx y z=>hxe x y z);obtain⟨H9,I9,zb,α9,ex9,hr9⟩:=hz;subst zb;exact after b M8 H9 α9 s9 I9 ex9 hr9 ec
theorem ZeC{D:Addr}(hxe:∀x y,Y.xe x y->False)(he:DE Y E0 elt f):ZfW Y D n0 (.compLoop e d0 (.ref it) (.ref D) Y.env) (Zmr e elt d0 (.ref it) (.ref D) Y.env) (gEm f n0):=by
 obtain⟨te,pe,qe⟩:=he;intro pins s σ ρ H α M ρ' M' I sr hr aD en;unfold gEm at en;cases ef:f ρ M with
 |exc x9 M10=>rw[ef]at en;cases en
 |bad=>rw[ef]at en;cases en
 |ok y M10=>
  rw[ef]at en;simp only at en;have ev:=pe _ s σ H (λv H'=>∃α',Ext Y.K H H' α α'/\HR Y.K H' α' M10/\Rep Y.K H' α' v y) I (qe σ ρ H α M _ sr hr (by
   rw[ef];exact λv H' α' e h r=>⟨α',e,h,r⟩))
  unfold Zmr;refine Wb (Wb (wpAny_mono ev (λyv s10 hz=>?_) (λx y z=>hxe x y z)));obtain⟨v,H10,I10,r10,α10,ex10,hr10,rp10⟩:=hz;cases em:M10[n0]? with
  |none=>rw[em]at en;cases en
  |some so=>
   cases so with
   |lst ds=>
    rw[em]at en;simp only at en;by_cases cz:ds.length<10000000
    .rw[if_pos cz]at en;cases en;have aD10:=ex10.get aD;obtain⟨xs,g1,g2⟩:=hr10.at aD10 em;have ap:=Zer (X:=Y) _ s10 σ H10 (.ref D) [v] (.ref D) [yv] (λ_ H'=>H'=upd H10 D (.lst (xs++[v]))) I10 rfl (.cons r10 .nil) ⟨D,xs,v,rfl,rfl,g1,by rw[g2.length];exact aF cz (by decide),rfl⟩
     refine Wb (wpAny_mono ap (λ_ s11 hz=>?_) (λx y z=>hxe x y z));obtain⟨v11,H11,I11,_,z11⟩:=hz;subst z11;have exw:Ext Y.K H10 (upd H10 D (.lst (xs++[v]))) α10 α10:=Ext.wr g1;exact Wp (Wp ⟨rfl,σ,_,α10,I11,ex10.trans exw,(sr.mono ex10).mono exw,hr10.wr aD10 g1 (g2.append (.cons rp10 .nil))⟩)
    .rw[if_neg cz]at en;cases en
section
variable {X:Cx}{tg iter elt:Expr}{Zam:List Comprehension}{scope:kg}{k:Nat}{fi:Ro->Sto->Out Src}{gt:Tg}{g:Nat->Ro->Sto->Out Ro}{bd:aa->aa->Env->Sem Fin}
theorem join_some{α:Type}{o:Option (Option α)}{v:α}(h:o.join=some v):o=some (some v):=by
 cases o with
 |none=>cases h
 |some x=>cases x with
  |none=>cases h
  |some y=>cases h;rfl
theorem Zms(h:(roB k fr ρ)[i]?=some (some d)):∃j r,i=k+j/\fr[j]?=some r/\ρ[r]?=some (some d):=by
 unfold roB at h;by_cases hi:i<k
 .rw[aO (by rw[bF];exact hi)]at h
  have:=cE h
  rw[ip]at this;cases this.2
 .rw[aJ (by rw[bF];lia),bF,bH]at h
  cases e:fr[i-k]? with
  |none=>rw[e]at h;cases h
  |some r=>
   rw[e]at h;exact⟨i-k,r,⋯,e,join_some (a9 h)⟩
noncomputable def stB(k:Nat)(fr:List Nat)(σ:L2.St):L2.St:=aZ k none++fr.map λi=>(σ[i]?).join
theorem Zmt(h:(stB k fr σ)[i]?=some (some d)):∃j r,i=k+j/\fr[j]?=some r/\σ[r]?=some (some d):=by
 unfold stB at h;by_cases hi:i<k
 .rw[aO (by rw[bF];exact hi)]at h
  have:=cE h
  rw[ip]at this;cases this.2
 .rw[aJ (by rw[bF];lia),bF,bH]at h
  cases e:fr[i-k]? with
  |none=>rw[e]at h;cases h
  |some r=>
   rw[e]at h;exact⟨i-k,r,⋯,e,join_some (a9 h)⟩
theorem SR.blk{K:Fg}(h:SR K H α σ ρ):SR K H α (stB k fr σ) (roB k fr ρ):=by
 refine⟨by simp[stB,roB],λi d e=>?_⟩
 obtain⟨j,r,rfl,e1,e2⟩:=Zms e;obtain⟨v,e3,e4⟩:=h.2 r d e2;refine⟨v,?_,e4⟩;unfold stB;rw[aJ (by rw[bF];lia),bF,bH,Nat.add_sub_cancel_left,e1]
 show some (σ[r]?).join=_;rw[e3];rfl
theorem Zj3(h:Heap):CellsOk (hZ (h.push {cls:=.type "dict",data:=.dict #[]}) scope.names) (h.objs.size+1) (bP (h.objs.size+1) scope.names []):=by
 have:=cellsFrom_ok scope.names (h.push {cls:=.type "dict",data:=.dict #[]}) (h.objs.size+1) [] ⟨λ_ _ hm=>(nomatch hm),kj.nil⟩ (by rw[eK];exact ac _)
 rw[eK]at this;exact this
theorem Zcl(B:Blk X scope cl N k fr){h:Heap}(e:(bP (h.objs.size+1) scope.names cl).lookup x=some c):(X.env.cells.lookup x=some c)\/((x,c)∈bP (h.objs.size+1) scope.names []/\h.objs.size+1<=c):=by
 rw[ZaV]at e;rcases ZdY e with z|⟨_,z⟩
 .have m:=PySem.mem_of_lookup z;exact .inr ⟨m,((Zj3 h).empty x c m).2⟩
 .exact .inl (B.sub x c z)
theorem Zla(B:Blk X scope cl N k fr){fp:List Addr}(I:Inv X pins σ H s)(hf:∀b∈fp,Ze4 X pins H b)(hlt:∀b∈fp,b<s.heap.objs.size)(hb:b∈fp)(h:(bP (s.heap.objs.size+1) scope.names cl).lookup x=some c):c≠b:=by
 rcases Zcl B h with z|⟨_,z⟩
 .exact(hf b hb).2.2.2.2.1 x c z
 .exact ce (gf (hlt b hb) z)
theorem Zlb(B:Blk X scope cl N k fr)(I:Inv X pins σ H s)(hf:∀b∈fp,Ze4 X pins H b)(hlt:∀b∈fp,b<s.heap.objs.size):(blk X scope cl N s.heap.objs.size fp s H).Ok where
 mod:=I.ok.mod
 kind:=B.kind
 glob:=I.ok.glob
 blt:=I.ok.blt
 above:=ac _
 inj:=λx y c h1 h2=>by
  have old:∀{x c},X.env.cells.lookup x=some c->c<s.heap.objs.size:=λ{x c} e=>by
   obtain⟨v,q⟩:=I.cell x c e;exact q.lt
  rcases Zcl B h1 with z|⟨m1,z⟩<;>rcases Zcl B h2 with w|⟨m2,w⟩
  .exact I.ok.inj x y c z w
  .exact absurd (gf (old z) w) (bU _)
  .exact absurd (gf (old w) z) (bU _)
  .exact name_of_addr (Zj3 (scope:=scope) s.heap).apart m1 m2
 has:=λx h=>B.has _ x h
 cab:=λx c h e=>by
  obtain⟨y,hy,hz⟩:=List.any_eq_true.mp h;simp only[aV,beq_iff_eq]at hz;have e':(bP (s.heap.objs.size+1) scope.names []++cl).lookup x=some c:=by rw[<-ZaV];exact e
  have hs:=PySem.W.cellsFrom_mem scope.names (s.heap.objs.size+1) [] (x:=x) (by rw[<-hz.1,<-hz.2];exact hy)
  rcases ZdY e' with z|⟨z,_⟩
  .exact eV ((Zj3 (scope:=scope) s.heap).empty x c (PySem.mem_of_lookup z)).2
  .rw[z]at hs;cases hs
 hd:=I.ok.hd
 frames:=I.ok.frames
 stk:=.inl rfl
 exf:=λb hb=>⟨aI (hlt b hb),λx c h=>Zla B I hf hlt hb h⟩
 bs:=I.bs
 bsz:=aQ I.ok.bsz I.sz
 noex:=λb o e hb=>by
  rcases(hf b hb).2.2.2.1 with z|z
  .exact I.ok.noex b o e z
  .exact absurd (aF (Hz (I.ok.bs b o e).1) z) (bU _)
 exfs:=λb hb z=>by
  rcases aM.mp (I.stkSub b z)with e|e
  .exact(hf b hb).2.1 e
  .exact(hf b hb).2.2.1 e
 funs:=I.stack
 frf:=I.stkFree
 tb:=I.ok.tb.un I.base
theorem Zmu(B:Blk X scope cl N k fr)(I:Inv X pins σ H s)(hf:∀b∈fp,Ze4 X pins H b)(hlt:∀b∈fp,b<s.heap.objs.size):Inv (blk X scope cl N s.heap.objs.size fp s H) [] (stB k fr σ) H {s with heap:=hZ (s.heap.push {cls:=.type "dict",data:=.dict #[]}) scope.names}:=by
 have hk:∀b o,s.heap.get? b=some o->(hZ (s.heap.push {cls:=.type "dict",data:=.dict #[]}) scope.names).get? b=some o:=λb o e=>jf _ _ b o (Hq _ e);have hn:(hZ (s.heap.push {cls:=.type "dict",data:=.dict #[]}) scope.names).Ns s.heap.objs.size (λ_=>none):=(lH.Ns.new s.heap (.type "dict")).keeps (jf _ _);have nw:=Zj3 (scope:=scope) s.heap;exact {
  ok:=Zlb B I hf hlt
  os:=rfl
  bare:=I.bare
  base:=Un.kept hk
  loc:=by
   refine⟨_,hn,λi x v e1 e2 e3=>?_⟩;obtain⟨j,r,rfl,g1,g2⟩:=Zmt e2;obtain⟨y,k1,k2,k3,k4,k5,k6⟩:=B.at_ j r g1;have exy:x=y:=a9 (e1.symm.trans k1);subst exy;obtain⟨m0,hm0,hl⟩:=I.loc;obtain⟨u,ru,lk⟩:=hl r x v k2 g2 (.inr (.inl k3));refine⟨u,ru,?_⟩;rcases lk with⟨z,_⟩|⟨_,c,z1,⟨o,z2,z3⟩⟩
   .rw[k3]at z;cases z
   .refine .inr ⟨k4,c,?_,⟨o,hk _ _ z2,z3⟩⟩;show(bP (s.heap.objs.size+1) scope.names cl).lookup x=some c;rw[ZaV,ZdF λc' hc'=>k6 (Zb9 _ _ _ _ hc')];exact k5.trans z1
  cell:=λx c h=>by
   rcases Zcl B h with z|⟨m,_⟩
   .obtain⟨v,o,e1,e2⟩:=I.cell x c z;exact⟨v,o,hk _ _ e1,e2⟩
   .exact⟨none,(nw.empty x c m).1⟩
  free:=I.fresh
  freeC:=λx c h=>by
   rcases Zcl B h with z|⟨_,z⟩
   .exact I.freeC x c z
   .exact I.hok.fresh (eV z)
  pin:=λp hp=>(by simp[blk]at hp)
  hok:=I.hok.kept hk
  len:=by
   show(stB k fr σ).length=N.length;rw[B.len];simp[stB]
  qd:=I.qd
  fx:=.free rfl}
theorem Zj4(B:Blk X scope cl N k fr)(I3:Inv X pins σ H3 s3)(f3:∀b∈fp,Ze4 X pins H3 b)(I6:Inv (blk X scope cl N s3.heap.objs.size fp s3 H3) [] σ5 H5 s6):Inv X pins σ H5 s6/\∀(σ':L2.St)(s8:az)(h':Heap),Inv X pins σ' H5 s8->(∀b o,b≠s3.heap.objs.size->s8.heap.get? b=some o->h'.get? b=some o)->Inv X pins σ' H5 {s8 with heap:=h',toks:=s8.toks}:=by
 refine⟨I3.call' (s':=s6) (ch:=fp) I6.os I6.base I6.hok I6.bare λb hb=>?_,λσ' s8 h' I8 sb=>?_⟩
 .obtain⟨_,z1,z2,z3,z4,z5⟩:=f3 b hb;exact⟨z3,z1,z4,z5⟩
 .exact I8.turned (it:=s3.heap.objs.size) sb I6.free (ce I3.lt) (.inr I3.sz)
   (λx c h z=>by
    obtain⟨v,o,e,_⟩:=I3.cell x c h;exact absurd (Hz e) (by rw[z];exact bU _)) (λp hp z=>by
    have:=(I3.pin p hp).1
    exact absurd (Hz this) (by rw[z];exact bU _))
theorem ZfX(B:Blk X scope cl N k fr)(pi:PI X tg iter wi)(hg:∀C fp s H,DG (blk X scope cl N C fp s H) tg gt)(ht:∀C fp s H,DC (blk X scope cl N C fp s H) ifs c)(hct:∀it acc env,jz (.ListComp elt (⟨tg,iter,ifs,0⟩::Zam) scope pos) 0 it acc env=ZgL tg iter ifs it env (bd it acc env) (again (.compLoop (.ListComp elt (⟨tg,iter,ifs,0⟩::Zam) scope pos) 0 it acc env)))(he:∀C fp s H (D n0:Nat) (it:Addr),ZfW (blk X scope cl N C fp s H) D n0 (.compLoop (.ListComp elt (⟨tg,iter,ifs,0⟩::Zam) scope pos) 0 (.ref it) (.ref D) (blk X scope cl N C fp s H).env) (bd (.ref it) (.ref D) (blk X scope cl N C fp s H).env) (g n0))(hs:∀x,cG iter X.env x=pure x)(sr:SR X.K H α σ ρ)(I:Inv X pins σ H s)(w:wi σ H λJ H2=>∃α2 M2 src ρ9 M9,Ext X.K H H2 α α2/\HR X.K H2 α2 M2/\Zrh X.K H2 α2 J src/\Zfg src gt c (g M2.length) (cnt src M2) 0 (roB k fr ρ) (M2++[.lst []])=.ok ρ9 M9/\∀(D C:Addr) H5 α5 s6 m6,Ext X.K H2 H5 α2 α5->HR X.K H5 α5 M9->RefK H5 α5 0 M2.length D->Inv X pins σ H5 s6->s6.heap.Ns C m6->C≠X.env.locals->(∀x,X.env.cells.lookup x≠some C)->(∀(σ':L2.St)(s8:az)(h':Heap),Inv X pins σ' H5 s8->(∀b o,b≠C->s8.heap.get? b=some o->h'.get? b=some o)->Inv X pins σ' H5 {s8 with heap:=h',toks:=s8.toks})->compPost (ae X.prog X.w) X.A X.xe use P (.ref D) C (.ok .next) s6):wpAny (ae X.prog X.w) X.A (comprehension (.ListComp elt (⟨tg,iter,ifs,0⟩::Zam) scope pos) scope X.env pos' (newList []) false (eval iter X.env) use) P X.xe s:=by
 refine wpAny_comprehension_free rfl hs B.clos B.kind B.names ?_;refine thn (pi pins s σ H _ I w) λv s1 w1=>thn w1 λitv s2 w2=>?_;obtain⟨it,fp,tn,J,H2,rfl,I2,T,st2,f2,α2,M2,src,ρ9,M9,e2,h2,sc,er,op2⟩:=w2;have srI:=sr.mono e2;refine bX ?_;have I3:Inv X pins σ (upd H2 s2.heap.objs.size (.lst [])) {s2 with heap:=s2.heap.push {cls:=.type "list",data:=.seq ([]:List aa).toArray}}:=I2.lnew (its:=[]) (t':=s2.toks) .nil (c8 _);have fD:H2 s2.heap.objs.size=none:=I2.fresh;generalize hD:s2.heap.objs.size=D at I3 fD;generalize hs3:({s2 with heap:=s2.heap.push {cls:=.type "list",data:=.seq ([]:List aa).toArray}}:az)=s3 at I3;generalize hH3:upd H2 D (.lst [])=H3 at I3;have h3:HR X.K H3 (α2++[D]) (M2++[.lst []]):=by rw[<-hH3];exact h2.new fD .nil
 have e3:Ext X.K H2 H3 α2 (α2++[D]):=by rw[<-hH3];exact Ext.new fD
 have aD:RefK H3 (α2++[D]) 0 M2.length D:=⟨h2.last D,by first|exact Kn.lst Zs|(rw[<-hH3];exact Kn.lst Zs)⟩
 have lt2:∀b∈fp,b<s2.heap.objs.size:=λb hb=>let ⟨o,e,_⟩:=T.obj _ _ st2 b hb;Hz e;have keep3:∀b o,s2.heap.get? b=some o->s3.heap.get? b=some o:=λb o e=>by rw[<-hs3];exact Hq _ e
 have f3:∀b∈fp,Ze4 X pins H3 b:=λb hb=>⟨by rw[<-hH3,Zv (by rw[<-hD];exact aI (lt2 b hb))];exact(f2 b hb).1,(f2 b hb).2⟩
 have lt3:∀b∈fp,b<s3.heap.objs.size:=λb hb=>let ⟨o,e,_⟩:=T.obj _ _ st2 b hb;Hz (keep3 b o e);have st3:tn 0 s3.heap:=T.keep _ _ _ st2 λb _ o e=>keep3 b o e;refine Zh2 ?_;have keep4:∀b o,s3.heap.get? b=some o->(hZ (s3.heap.push {cls:=.type "dict",data:=.dict #[]}) scope.names).get? b=some o:=λb o e=>jf _ _ b o (Hq _ e);have I4:=Zmu B I3 f3 lt3;generalize hZ (s3.heap.push {cls:=.type "dict",data:=.dict #[]}) scope.names=h₁ at keep4 I4;have st4:tn 0 h₁:=T.keep _ _ _ st3 λb _ o e=>keep4 b o e;have fp5:∀{H':Hp},(∀b∈fp,H' b=none)->∀b∈fp,Ze4 (blk X scope cl N s3.heap.objs.size fp s3 H3) [] H' b:=λhn b hb=>⟨hn b hb,aI (lt3 b hb),(Zlb B I3 f3 lt3).exfs b hb,.inl hb,λx c h=>Zla B I3 f3 lt3 hb h,λp hp=>(by simp[blk]at hp)⟩
 have loop:gY (ae X.prog X.w) X.A (.compLoop (.ListComp elt (⟨tg,iter,ifs,0⟩::Zam) scope pos) 0 (.ref it) (.ref D) (compEnvC scope (bP (s3.heap.objs.size+1) scope.names cl) s3.heap.objs.size X.env)) (compPost (ae X.prog X.w) X.A X.xe use P (.ref D) s3.heap.objs.size) {s3 with heap:=h₁}:=by
  refine Zh3 (Y:=blk X scope cl N s3.heap.objs.size fp s3 H3) (hct _ _ _) T (λ_ _ z=>z) fp5 (hg _ fp s3 H3) (ht _ fp s3 H3) (he _ fp s3 H3 D M2.length it) (λi H' α' M' ex hr=>sc i H' α' M' (e3.trans ex) hr) aD I4 st4 (λb hb=>(f3 b hb).1) ((srI.blk).mono e3) h3 er ?_;intro σ5 H5 α5 s6 I6 ex5 sr5 hr5;obtain⟨I7,I8⟩:=Zj4 B I3 f3 I6;obtain⟨m6,hm6,_⟩:=id I6.loc;exact op2 D _ H5 α5 s6 m6 (e3.trans ex5) hr5 (ex5.get aD) I7 hm6 (ce I3.lt) (λx h=>by
   obtain⟨v,o,e,_⟩:=I3.cell x _ h;exact absurd (Hz e) (bU _)) I8
 exact codeAny_compStart_list loop (T.self X.A 0 _ _ _ st4 loop)
theorem Zj5(B:Blk X scope cl N k fr)(hi:DI X ξ tg iter fi)(hg:∀C fp s H,DG (blk X scope cl N C fp s H) tg gt)(ht:∀C fp s H,DC (blk X scope cl N C fp s H) ifs c)(hct:∀it acc env,jz (.ListComp elt (⟨tg,iter,ifs,0⟩::Zam) scope pos) 0 it acc env=ZgL tg iter ifs it env (bd it acc env) (again (.compLoop (.ListComp elt (⟨tg,iter,ifs,0⟩::Zam) scope pos) 0 it acc env)))(he:∀C fp s H (D n0:Nat) (it:Addr),ZfW (blk X scope cl N C fp s H) D n0 (.compLoop (.ListComp elt (⟨tg,iter,ifs,0⟩::Zam) scope pos) 0 (.ref it) (.ref D) (blk X scope cl N C fp s H).env) (bd (.ref it) (.ref D) (blk X scope cl N C fp s H).env) (g n0))(hs:∀x,cG iter X.env x=pure x):DE X ξ (.ListComp elt (⟨tg,iter,ifs,0⟩::Zam) scope pos) (ZdG fi k fr gt c g):=by
 obtain⟨wi,pi,qi⟩:=hi;refine⟨λσ H Q=>∃ρ α M,SR X.K H α σ ρ/\HR X.K H α M/\OP X.K H α ξ Q (ZdG fi k fr gt c g ρ M),?_,λσ ρ H α M Q s h q=>⟨ρ,α,M,s,h,q⟩⟩;rintro pins s σ H Q I ⟨ρ,α,M,sr,hr,op⟩;rw[eval_ListComp];refine ZfX B pi hg ht hct he hs sr I (qi σ ρ H α M _ sr hr (OG.seq op λsrc M1 J H1 α1 e1 h1 r1 q1=>?_));cases er:Zfg src gt c (g M1.length) (cnt src M1) 0 (roB k fr ρ) (M1++[.lst []])with
 |ok u9 M9=>
  rw[er]at q1;exact⟨α1,M1,src,u9,M9,e1,h1,r1,er,λD C H5 α5 s6 m6 ex5 hr5 aD I7 hm6 _ _ I8=>⟨m6,hm6,λh' sb=>⟨.ref D,H5,I8 σ s6 h' I7 (λb o hb e=>(sb.2 b hb).trans e),rfl,q1 _ H5 α5 ex5 hr5 (.ref aD)⟩⟩⟩
 |_=>rw[er]at q1;exact q1.elim
theorem ZoV{tg:Tg}:∀(fuel i:Nat)(ρ:Ro)(M:Sto),ZeB src tg c f n fuel i ρ M=(Zfg src tg c (gEm f n) fuel i ρ M).bind λ_ M=>.ok () M:=by
 intro fuel
 induction fuel with
 |zero=>
  intro i ρ M;rw[ZeB,Zfg];rcases nxt src i M with _|_|d<;>rfl
 |succ fuel ih=>
  intro i ρ M;rw[ZeB,Zfg];rcases nxt src i M with _|_|d
  .rfl
  .rfl
  .dsimp only;cases tg d ρ with
   |none=>rfl
   |some ρ1=>
    dsimp only;rcases c ρ1 M with⟨_|_,M1⟩|_|_
    .exact ih _ _ _
    .dsimp only[gEm];rcases f ρ1 M1 with⟨x,M2⟩|_|_
     .dsimp only;rcases M2[n]? with _|⟨xs⟩
      .rfl
      .dsimp only;split
       .exact ih _ _ _
       .rfl
     .rfl
     .rfl
    .rfl
    .rfl
theorem ZfY:ZaP fi k fr gt c f=ZdG fi k fr gt c (gEm f):=by
 funext ρ M;unfold ZaP ZdG;congr 1;funext src M1;rw[ZoV];cases Zfg src gt c (gEm f M1.length) (cnt src M1) 0 (roB k fr ρ) (M1++[.lst []])<;>rfl
theorem ZS(B:Blk X scope cl N k fr)(hi:DI X ξ tg iter fi)(h:Blk X scope cl N k fr->∀C fp s H,DG (blk X scope cl N C fp s H) tg gt/\DC (blk X scope cl N C fp s H) ifs c/\DE (blk X scope cl N C fp s H) E0 elt f)(hs:autoParam (∀x,cG iter X.env x=pure x) Qin._auto_1):DE X ξ (.ListComp elt [⟨tg,iter,ifs,0⟩] scope pos) (ZaP fi k fr gt c f):=
 ZfY▸Zj5 B hi (λC fp s H=>(h B C fp s H).1) (λC fp s H=>(h B C fp s H).2.1) (ZfV elt tg iter ifs scope pos) (λC fp s H D n0 it=>ZeC (λ_ _ z=>z) (h B C fp s H).2.2) hs
end
end DL
namespace DL
open PyProof.Rows L2
theorem Zri{names:List (Str×cR)}{env:Env}(h:names.all (λy=>y.2 != .cell&&y.2 != .free)=true):(names.map λ(n,k)=>if(k==da&&env.scope.kind == .function&&env.kindOf n==some .cell)then(n,dG)else(n,k))=names:=by
 induction names with
 |nil=>rfl
 |cons y r ih=>
  rw[kq,aV]at h;obtain⟨n,kd⟩:=y;have hk:(kd==da)=false:=by
   have h1:=h.1;rw[aV]at h1;have h2:=h1.2;cases kd<;>first|rfl|simp at h2
  rw[aN,ih h.2];simp[hk]
theorem Zfh{env:Env}:∀(names:List (Str×cR)) (acc:List (Str×Addr)),(∀y∈names,y.2=.free->∃c,env.cells.lookup y.1=some c)->(forIn names acc λ(x:Str×cR) (cs:List (Str×Addr))=>if x.2==da then(do let a <-cellOf env x.1;pure (ForInStep.yield ((x.1,a)::cs)))else(pure (ForInStep.yield cs):Sem _))=
   (pure (((names.filter λy=>y.2 == .free).map λy=>(y.1,(env.cells.lookup y.1).getD 0)).reverse++acc):Sem (List (Str×Addr)))
 |[],acc,_=>by simp
 | (n,kd)::r,acc,h=>by
  rw[fK];by_cases hk:(kd==da)=true
  .obtain⟨c,hc⟩:=h (n,kd) bM (by simpa using hk)
   have e1:cellOf env n=pure c:=by unfold cellOf;rw[hc]
   have ih:=Zfh r ((n,c)::acc) λy hy=>h y (aL _ hy);simp only[hk,if_true,e1,pure_bind];refine Eq.trans ih ?_;simp[eY,hk,hc]
  .have ih:=Zfh r acc λy hy=>h y (aL _ hy);simp only[hk,if_false,pure_bind];refine Eq.trans ih ?_;simp[eY,hk]
noncomputable def clF(scope:kg)(env:Env):List (Str×Addr):=((scope.names.filter λy=>y.2 == .free).map λy=>(y.1,(env.cells.lookup y.1).getD 0)).reverse
theorem ZdH{env:Env}:∀{l:List (Str×cR)} {x:Str} {c:Addr},(l.map λy=>(y.1,(env.cells.lookup y.1).getD 0)).lookup x=some c->c=(env.cells.lookup x).getD 0/\∃y∈l,y.1=x
 |[],x,c,h=>by simp at h
 |y::r,x,c,h=>by
  rw[aN,bG]at h;cases e:x==y.1 with
  |true=>
   rw[e]at h;have ex:x=y.1:=by simpa using e
   cases h;exact⟨by rw[ex],y,bM,ex.symm⟩
  |false=>
   rw[e]at h;obtain⟨h1,z,h2,h3⟩:=ZdH h;exact⟨h1,z,aL _ h2,h3⟩
theorem Zcm{α:Type}:∀{l:List (Str×α)} {x:Str},(∃y∈l,y.1=x)->∃c,l.lookup x=some c
 |[],x,h=>by obtain⟨y,h1,_⟩:=h;simp at h1
 |z::r,x,h=>by
  rw[bG];cases e:x==z.1 with
  |true=>exact⟨_,rfl⟩
  |false=>
   obtain⟨y,h1,h2⟩:=h;rcases aM.mp h1 with q|q
   .subst q;rw[h2]at e;simp at e
   .exact Zcm ⟨y,q,h2⟩
theorem ZaF{env:Env}(nc:∀n,env.scope.names.lookup n=env.kindOf n):∀{names:List (Str×cR)} {x:Str} {kd:cR},(names.map λ(n,k)=>if(k==da&&env.scope.kind == .function&&env.kindOf n==some .cell)then(n,dG)else(n,k)).lookup x=some kd->names.lookup x=some kd\/(names.lookup x=some .free/\kd=.cell)
 |[],x,kd,h=>by simp at h
 | (n,q)::r,x,kd,h=>by
  rw[aN,bG]at h;rw[bG];dsimp only at h ⊢;by_cases c:(q==da&&env.scope.kind == .function&&env.kindOf n==some .cell)=true
  .rw[if_pos c]at h;dsimp only at h;cases e:x==n with
   |true=>
    rw[e]at h;cases h;simp only[aV,beq_iff_eq]at c;exact .inr ⟨by rw[c.1.1],rfl⟩
   |false=>rw[e]at h;exact ZaF nc h
  .rw[if_neg c]at h;dsimp only at h;cases e:x==n with
   |true=>rw[e]at h;exact .inl h
   |false=>rw[e]at h;exact ZaF nc h
theorem ZbJ{env:Env}:∀{names:List (Str×cR)} {x:Str},names.lookup x=some .free->(∃kd,(kd=dG\/kd=da)/\(names.map λ(n,k)=>if(k==da&&env.scope.kind == .function&&env.kindOf n==some .cell)then(n,dG)else(n,k)).lookup x=some kd)
 |[],x,h=>by simp at h
 | (n,q)::r,x,h=>by
  rw[bG]at h;rw[aN,bG];by_cases c:(q==da&&env.scope.kind == .function&&env.kindOf n==some .cell)=true
  .dsimp only;rw[if_pos c];cases e:x==n with
   |true=>exact⟨_,.inl rfl,rfl⟩
   |false=>rw[e]at h;exact ZbJ h
  .dsimp only;rw[if_neg c];cases e:x==n with
   |true=>rw[e]at h;exact⟨q,.inr (a9 h),rfl⟩
   |false=>rw[e]at h;exact ZbJ h
noncomputable def ZrV(XN N:List Str)(dn sn:List (Str×cR))(k:Nat)(fr:List Nat):Bool:=
 (sn.all λy=>(y.2 != .free||dn.lookup y.1==some .cell)&&(y.2 != .local||sn.lookup y.1==some .local))&&N.length==k+fr.length &&
  (ay fr.length).all λj=>match fr[j]? with
   |some i=>(match N[k+j]?,XN[i]? with|some x,some y=>x==y&&dn.lookup x==some .cell&&sn.lookup x==some .free&&sn.all (λy=> !(y.1==x&&y.2 == .cell))|_,_=>false)
   |none=>false
theorem ZuD(hN:X.N=XN)(hd:X.env.scope.names=dn)(cel:∀x,dn.lookup x=some .cell->∃c,X.env.cells.lookup x=some c)(hk:scope.kind=.function)(h:ZrV XN N dn scope.names k fr=true):Blk X scope (clF scope X.env) N k fr:=by
 unfold ZrV at h;simp only[aV,bh,bne_iff_ne,ne_eq,Bool.or_eq_true,beq_iff_eq]at h;obtain⟨⟨h1,h2⟩,h3⟩:=h;have kind:∀x,X.env.kindOf x=dn.lookup x:=λx=>by rw[<-hd];rfl
 have frc:∀y∈scope.names,y.2=.free->∃c,X.env.cells.lookup y.1=some c:=λy hy e=>by
  rcases(h1 y hy).1 with z|z
  .exact absurd e z
  .exact cel _ z
 have sub:∀x c,(clF scope X.env).lookup x=some c->X.env.cells.lookup x=some c:=λx c e=>by
  unfold clF at e;rw[<-List.map_reverse]at e;obtain⟨e1,y,e2,e3⟩:=ZdH e;have e4:=fF.mp (List.mem_reverse.mp e2);obtain⟨c',g⟩:=frc y e4.1 (by simpa using e4.2)
  rw[e3]at g;rw[g]at e1 ⊢;rw[e1];rfl
 have has:∀x,scope.names.lookup x=some .free->∃c,(clF scope X.env).lookup x=some c:=λx e=>by
  refine Zcm ?_;have m:=PySem.mem_of_lookup e;exact⟨(x,(X.env.cells.lookup x).getD 0),List.mem_reverse.mpr (dy.mpr ⟨(x,.free),fF.mpr ⟨m,by simp⟩,rfl⟩),rfl⟩
 refine⟨?_,hk,λy hy e=>?_,sub,λn x z=>?_,h2,λj i e=>?_⟩
 .have:=Zfh (env:=X.env) scope.names [] frc
  rw[bR]at this;unfold closureFor;exact(congrArg (λ(m:Sem (List (Str×Addr)))=>m >>= λcs=>(pure cs:Sem (List (Str×Addr)))) this).trans (pure_bind _ _)
 .rcases(h1 y hy).2 with z|z
  .exact absurd e z
  .exact z
 .have nc:∀m,X.env.scope.names.lookup m=X.env.kindOf m:=λm=>rfl;have own:scope.names.lookup x=some .cell->∃c,(bP n scope.names (clF scope X.env)).lookup x=some c:=λe=>cP.mp (PySem.W.cellsFrom_some scope.names n _ (.inl e));have oth:scope.names.lookup x=some .free->∃c,(bP n scope.names (clF scope X.env)).lookup x=some c:=λe=>by
   obtain⟨c,hc⟩:=has x e;exact cP.mp (PySem.W.cellsFrom_some scope.names n _ (.inr (by rw[hc];rfl)))
  rcases z with z|z
  .rcases ZaF nc z with q|q
   .exact own q
   .exact oth q.1
  .rcases ZaF nc z with q|q
   .exact oth q
   .cases q.2
 .have hj:j<fr.length:=(au.mp e).1;have q:=h3 j (f7.mpr hj);rw[e]at q;dsimp only at q;cases e1:N[k+j]? with
  |none=>rw[e1]at q;cases q
  |some x=>
   cases e2:XN[i]? with
   |none=>rw[e1,e2]at q;cases q
   |some y=>
    rw[e1,e2]at q;simp only[aV,beq_iff_eq]at q;obtain⟨⟨⟨q1,q2⟩,q3⟩,q4⟩:=q;subst q1;obtain⟨kd,r1,r2⟩:=ZbJ (env:=X.env) q3;obtain⟨c,r3⟩:=has x q3;refine⟨x,rfl,by rw[hN];exact e2,by rw[kind];exact q2,?_,r3.trans (sub x c r3).symm,λhm=>?_⟩
    .rcases r1 with r1|r1
     .exact .inl (r1▸r2)
     .exact .inr (r1▸r2)
    .have:=bh.mp q4 _ hm
     simp at this
theorem Zc1(XN N:List Str)(dn:List (Str×cR))(k:Nat)(fr:List Nat)(hN:autoParam (X.N=XN) Qrf._auto_1)(hd:autoParam (X.env.scope.names=dn) Qrf._auto_1)(hc:autoParam (X.env.cells=bP n dn []) Qrf._auto_1)(hk:autoParam (scope.kind=.function) Qrf._auto_1)(h:ZrV XN N dn scope.names k fr=true:=by decide +kernel):Blk X scope (clF scope X.env) N k fr:=
 ZuD hN hd (λx e=>by
  have:=PySem.W.cellsFrom_some dn n [] (.inl e)
  rw[hc];exact cP.mp this) hk h
def ZtI(X:Cx):List V->Hp->VK->Prop:=λvs H Q=>∃(p:Addr) (bs:List Bool),vs=[.ref p]/\SqL X.K H p (bs.map V.bl)/\Q (.bl (bs.all id)) H
theorem ZeD:∀{bs:List Bool}{us:List aa}{i:Nat}{u:aa},Zaj (bs.map V.bl) us->us[i]?=some u->∃b,bs[i]?=some b/\u=.bool b
 |[],us,i,u,h,e=>by cases h;simp at e
 |b::r,us,i,u,h,e=>by
  cases h with
  |cons h1 h2=>
   cases i with
   |zero=>simp at e;subst e;exact⟨b,rfl,h1⟩
   |succ i=>simp at e;obtain⟨b',g1,g2⟩:=ZeD h2 e;exact⟨b',by simpa using g1,g2⟩
theorem ZgN(bs:List Bool):((ay bs.length).all λi=>(bs[i]?).getD true)=bs.all id:=by
 rw[jg,bh,bh];constructor
 .intro h b hb;obtain⟨i,hi,e⟩:=bw hb
  have:=h i (f7.mpr hi)
  simp only[aq hi,gD,e]at this;exact this
 .intro h i hi;have hi':=f7.mp hi;simp only[aq hi',gD];exact h _ (bW hi')
theorem Za7(hc:X.calm=true):Zcg X (.builtin "all") (ZtI X):=by
 intro pins s σ H vs us Q I rs hz;obtain⟨p,bs,e,hl,q⟩:=hz;subst e;obtain⟨u,rfl,ru⟩:=Zdx rs;cases ru;obtain⟨its,hv,hp,hz⟩:=I.list hl;have hlt:p<s.heap.objs.size:=by obtain⟨_,e,_⟩:=hp.isList;exact Hz e
 refine call_all_walk (iD hp.isList ?_);refine⟨s.heap.objs.size,[s.heap.objs.size,p],[s.heap.objs.size],its.toArray.size,_,_,λi=>(bs[i]?).getD true,rfl,Walks.list (A:=X.A.in1) (I.ok.hd hc) _ p (aI hlt) its.toArray,⟨⟨_,aS _ rfl,rfl,rfl⟩,hp.isList.push _⟩,λi v s' Q' E' hP hQ=>?_,λh' tk hk=>?_⟩
 .obtain⟨b,e,rfl⟩:=ZeD (i:=i) (u:=v) hv (by simpa using hP)
  simp only[e,gD]at hQ;exact cx hQ
 .have e:((ay its.toArray.size).all λi=>(bs[i]?).getD true)=bs.all id:=by
   rw[aE,<-hv.length,aC];exact ZgN bs
  rw[e];exact⟨.bl (bs.all id),H,I.kept λb o e=>hk b o (λhm=>by rw[iq.mp hm]at e;exact bU _ (Hz e)) (Hq _ e),rfl,q⟩
def Zar:List D->Option (List Bool)
 |[]=>some []
 |.bl b::r=>match Zar r with|some bs=>some (b::bs)|none=>none
 |_::_=>none
theorem Zh4{K:Fg}(h9:Reps K H α vs ds):Zar ds=some bs->vs=bs.map V.bl:=by
 induction ds generalizing vs bs with
 |nil=>intro e;cases h9;cases e;rfl
 |cons d ds ih9=>
  intro e;cases h9 with
  |cons r t=>
   cases r with
   |bl b=>
    cases e1:Zar ds with
    |none=>simp only[Zar,e1]at e;cases e
    |some cs=>
     simp only[Zar,e1,aj]at e;subst e;rw[ih9 t e1];rfl
   |_=>cases e
def bAll:W3:=λds M=>match ds with
 |[.ref n]=>(match M[n]? with|some (.lst xs)=>(match Zar xs with|some bs=>.ok (.bl (bs.all id)) M|none=>.bad)|none=>.bad)
 |_=>.bad
theorem ZcO:CO X ξ (ZtI X) bAll:=by
 intro H α M vs ds Q h rs q;cases rs with
 |nil=>exact q.elim
 |cons r tz=>
  cases tz with
  |cons _ _=>cases r<;>exact q.elim
  |nil=>
   cases r with
   |@ref p n hp=>
    cases e1:M[n]? with
    |none=>simp only[bAll,e1]at q;exact q.elim
    |some so=>
     cases so with
     |lst es=>
      cases e2:Zar es with
      |none=>simp only[bAll,e1,e2]at q;exact q.elim
      |some bs=>
       simp only[bAll,e1,e2]at q;obtain⟨xs,g1,g2⟩:=h.at hp e1
       have:=Zh4 g2 e2
       subst this;exact⟨p,bs,rfl,SqL.of g1,q _ H α Ext.refl h (.bl _)⟩
   |_=>exact q.elim
end DL
namespace DL
open PyProof.Rows L2
end DL
namespace DL
open PyProof.Rows L2
end DL
namespace DL
open PyProof.Rows L2
open PySem.W (nsIn excIn tailIn nsOkIn mroIn clsIn typeIn findIn specialIn takesIn kitOne Looks)
noncomputable abbrev bmV:List aa:=[.type "ValueError",.type "Exception",.type "BaseException",.type "object"]
noncomputable def Zcz(K:Fg)(c:Str):Option Addr:=match nsIn K aG c with|some (some (.ref C))=>some C|_=>none
theorem Zbq{K:Fg}(h:Zcz K c=some C):nsIn K aG c=some (some (.ref C)):=by
 unfold Zcz at h
 split at h
 .rename_i C' e;cases h;exact e
 .cases h
def Zlc(K:Fg)(c:Str):Bool:=match Zcz K c with
 |some C=>excIn K C bmV "ValueError.__new__"&&cH K (.ref C) "__getattribute__"==some (some (.builtin "BaseException.__getattribute__"))&&cH K (.ref C) "__getattr__"==some none&&cH K (.ref C) "__class__"==some (some (.builtin "object.__class__")) &&
  eD K (.builtin "object.__class__") "__get__"==some (some (.builtin "getset_descriptor.__get__"))&&hG K (.builtin "object.__class__")==some true&&gq K C (.type "BaseException")==some true&&gq K C (.type "object")==some true&&(iT K C).isSome
 |none=>false
def Zj6(K:Fg)(c:Str):Bool:=match Zcz K c with
 |some C=>cH K (.ref C) "__getattribute__"==some (some (.builtin "BaseException.__getattribute__"))&&cH K (.ref C) "__getattr__"==some none&&cH K (.ref C) "__class__"==some (some (.builtin "object.__class__")) &&
  eD K (.builtin "object.__class__") "__get__"==some (some (.builtin "getset_descriptor.__get__"))&&hG K (.builtin "object.__class__")==some true&&gq K C (.type "BaseException")==some true&&gq K C (.type "object")==some true&&(iT K C).isSome
 |none=>false
theorem Zrj{K:Fg}(h:Zj6 K c=true):∃C,nsIn K aG c=some (some (.ref C))/\DQ.ExcC K C:=by
 unfold Zj6 at h
 split at h
 .rename_i C e;simp only[aV,beq_iff_eq]at h;obtain⟨⟨⟨⟨⟨⟨⟨h2,h3⟩,h4⟩,h5⟩,h6⟩,h7⟩,h8⟩,h9⟩:=h;exact⟨C,Zbq e,h2,h3,h4,h5,h6,h7,h8,h9⟩
 .cases h
theorem Zmv{K:Fg}(h:Zlc K c=true):∃C,nsIn K aG c=some (some (.ref C))/\excIn K C bmV "ValueError.__new__"=true/\DQ.ExcC K C:=by
 unfold Zlc at h
 split at h
 .rename_i C e;simp only[aV,beq_iff_eq]at h;obtain⟨⟨⟨⟨⟨⟨⟨⟨h1,h2⟩,h3⟩,h4⟩,h5⟩,h6⟩,h7⟩,h8⟩,h9⟩:=h;exact⟨C,Zbq e,h1,h2,h3,h4,h5,h6,h7,h8,h9⟩
 .cases h
theorem Zmw{K:Fg}(X:K.In h)(q:excIn K C bmB newId=true):∃bm N nm q bs hdct sn sub ab col dd k0 k1 k2 k3 k5 mN,h.get? C=some (eP nm q C N bs bm hdct sn sub ab col dd k0 k1 k2 k3 k5 newId)/\h.Ns N mN/\mN "__init__"=none/\kX h bmB bm:=by
 unfold excIn at q
 split at q
 .rename_i dd cd sl ho
  split at q
  .rename_i C' bm k0 k1 k2 k3 n k5 hm hs;simp only[aV,beq_iff_eq,dz]at q;obtain⟨⟨⟨⟨⟨rfl,rfl⟩,hdel⟩,ht⟩,hok⟩,hni⟩:=q;obtain⟨nm,bs,mro,ns,qn,hd,sn,sub,ab,col,del⟩:=cd;dsimp only at hm hdel hok hni;subst hm hdel;obtain⟨l⟩:=sl;simp only at hs;subst hs;exact⟨bm,ns,nm,qn,bs,hd,sn,sub,ab,col,dd,k0,k1,k2,k3,k5,_,X _ _ ho,.of_isNs (PySem.W.isNs_of_in X hok),PySem.W.nsMap_none_of_in X hok hni,PySem.W.tail_of_in X ht⟩
  .cases q
 .cases q
def Zh5(K:Fg)(d:Str)(cs:List Str):Bool:=match Zcz K d with
 |some D=>gq K D (.type "BaseException")==some true&&kG K (.ref D)==some (.type "type")&&(iT K D).isSome&&cs.all λc=>Zj6 K c&&(match Zcz K c with|some C=>gq K C (.ref D)==some true|none=>false)
 |none=>false
theorem ZfZ{K:Fg}(h:nsIn K aG c=some (some (.ref C))):Zcz K c=some C:=by
 unfold Zcz;rw[h]
theorem Zld(k:HOk P w H h)(hn:h.get? e=none):H e=none:=by
 cases z:H e with
 |none=>rfl
 |some u=>obtain⟨o,g⟩:=ZcZ (k e u z);rw[hn]at g;cases g
def ZbB(c:Str)(fs:Av):Sv:=λρ M=>Zbh (fs ρ M) λds M1=>if ds.length<=1000 then .exc c M1 else .bad
theorem ZbR(T:Thr X ξ)(hx:Zlc X.K x=true)(gl:∀c v,nsIn X.K aG c=some (some v)->X.mg c=some v)(hh:X.A.handled=none)(ha:DA X ξ (a::as) fs)(hg:autoParam (Gl X x) Qrf._auto_1)(hdb:autoParam ((x==("__debug__":Str))=false) Qde._auto_1)(hf:autoParam (ZhL x=false) Qde._auto_1)(he:autoParam (af (a::as) X.env=(false,eval a X.env)::af as X.env) Qrf._auto_1)(hpl:autoParam ((b8 cpos (af as X.env)).any (·.1)=false) Qrf._auto_1):DS X ξ (.Raise (some (.Call (.Name x np) (a::as) [] cpos)) none pos) (ZbB x fs):=by
 obtain⟨ta,pa,qa⟩:=ha;obtain⟨C,hC,hq,_⟩:=Zmv hx;refine⟨λDn σ H=>ta σ H λvs H1=>vs.length<=sizeLine/\ξ (.ref C) none H1,λpins s σ H Dn I h=>?_,λσ ρ H α M Dn s h q=>?_⟩
 .obtain⟨tl,N,nm,q,bs,hdct,sn,sub,ab,col,dd,k0,k1,k2,k3,k5,mN,gC,hN,hni,TL⟩:=Zmw I.ok.mod.kin hq;refine wpAny_Raise_call_subT (C:=C) (nm:=nm) (q:=q) (N:=N) (bs:=bs) (bm:=tl) (hdct:=hdct) (sn:=sn) (sub:=sub) (ab:=ab) (col:=col) (dd:=dd) (k0:=k0) (k1:=k1) (k2:=k2) (k3:=k3) (k5:=k5) F.excBase_ValueError (mN:=mN)
   (TL.hasType F.excBase_ValueError.hasBase) hh (by rw[he];show(false||(b8 cpos (af as X.env)).any (·.1))=false;rw[hpl];rfl) hni (ZdQ I hg (gl x _ hC) ⟨rfl,?_⟩ hdb)
  have hs:=pa cpos pins s σ H _ I h;rw[he]at hs ⊢;refine Calls.evalArgs_plain (wpAny_mono hs (λus s2 ⟨vs,H1,I1,r1,z1,z2⟩=>⟨rfl,by rw[<-r1.length];exact z1,I1.bk _ _ gC,hN.keeps I1.bk,TL.keeps I1.bk,λh' e m=>?_⟩) λ_ _ y=>y)
  obtain⟨t,g1,g2,g3⟩:=m.there;exact T.mak pins σ H1 H1 s2 {s2 with heap:=h'} e _ _ C I1 rfl I1.bare (Un.kept m.keeps) (I1.hok.kept m.keeps) m.new g1 rfl rfl rfl rfl (Zld I1.hok m.new) z2
 .refine qa σ ρ H α M _ s h (FP.seq q λds M1 vs H1 α1 e1 h1 r1 w1=>?_);by_cases hl:ds.length<=1000
  .rw[if_pos hl]at w1;exact⟨by rw[r1.length];exact Zmk hl,w1 C H1 α1 hC Ext.refl none (.inl ⟨hf,h1,rfl⟩)⟩
  .rw[if_neg hl]at w1;exact w1.elim
end DL
namespace DL
open PyProof.Rows L2
open PySem.W (nsIn excIn tailIn nsOkIn mroIn clsIn typeIn findIn specialIn takesIn kitOne Looks looks_mroIn looks_typeIn)
theorem Zh6{K:Fg}{D:Addr}(X:K.In s.heap)(I:PySem.W.InstAt s.heap e oe C od)(hD:kG K (.ref D)=some (.type "type"))(hi:(iT K D).isSome=true)(hb:gq K D (.type "BaseException")=some true)(hm:gq K C (.ref D)=some b)(h:Q b s):wpAny (ae prog w) A (excMatches (.ref e) (.ref D)) Q E s:=by
 obtain⟨hh,g,d,tk,os⟩:=s;have L0:=I.type (M:=ae prog w);have L1:=kY (M:=ae prog w) X hD;have L2:jy (ae prog w) hh (gz (.ref D) (.type "tuple")) false:=L1.andThen (jy.of_pure tc_notTuple);have L3:jy (ae prog w) hh (isType (.ref D)) true:=by
  obtain⟨cd,hc⟩:=cP.mp hi;unfold iT at hc
  split at hc
  .rename_i o1 o2 o3 o4 ho;intro A' Q' E' s' k q;unfold isType loadHead;exact Wb (wpAny_loadPart (k _ _ (X _ _ ho)) (Wp q))
  .cases hc
 have L4:=fV (M:=ae prog w) X hb;have L5:=fV (M:=ae prog w) X hm;have L6:jy (ae prog w) hh (isExcClass (.ref D)) true:=L3.andThen (by simpa using L4)
 unfold excMatches;refine Wb (L2.at ?_);simp only[aX,if_false];refine Wb (m:=forIn [aA D] _ _) ?_;rw[fK];refine Wb (Wb (L6.at ?_));simp only[dD,aX,if_false];refine Wp ?_;dsimp only;rw[gj];refine Wp (Wb (L0.at (Wb ?_)));rw[fK];refine Wb (Wb (L5.at ?_));cases b with
 |true=>exact Wp (Wp (Wp h))
 |false=>
  simp only[aX,if_false];refine Wp ?_;dsimp only;rw[gj];exact Wp (Wp h)
noncomputable def Cx.han(X:Cx)(e:Addr):Cx:={X with A:=X.A.mark (some (.ref e)),calm:=false,xe:=λ_ _=>False}
noncomputable def Cx.tri(X:Cx)(pn:Pn)(xe:Vp)(W:List Bool)(σ:L2.St):Cx:={X with pn:=pn,xe:=xe,fxs:=some (W,σ)}
theorem ZoW(ok:X.Ok):(Cx.han X e).Ok:=
 ⟨ok.mod,ok.kind,ok.glob,ok.blt,ok.above,ok.inj,ok.has,ok.cab,λz=>(by cases z),ok.frames,ok.stk,ok.exf,ok.bs,ok.bsz,ok.noex,ok.exfs,ok.funs,ok.frf,ok.tb⟩
theorem Zj7(ok:(Cx.han X e).Ok)(hh:X.A.handled=none):X.Ok:=
 ⟨ok.mod,ok.kind,ok.glob,ok.blt,ok.above,ok.inj,ok.has,ok.cab,λ_=>hh,ok.frames,ok.stk,ok.exf,ok.bs,ok.bsz,ok.noex,ok.exfs,ok.funs,ok.frf,ok.tb⟩
theorem ZoX(ok:X.Ok):(Cx.tri X pn xe W σ).Ok:=
 ⟨ok.mod,ok.kind,ok.glob,ok.blt,ok.above,ok.inj,ok.has,ok.cab,ok.hd,ok.frames,ok.stk,ok.exf,ok.bs,ok.bsz,ok.noex,ok.exfs,ok.funs,ok.frf,ok.tb⟩
theorem Zj8(ok:(Cx.tri X pn xe W σ).Ok):X.Ok:=
 ⟨ok.mod,ok.kind,ok.glob,ok.blt,ok.above,ok.inj,ok.has,ok.cab,ok.hd,ok.frames,ok.stk,ok.exf,ok.bs,ok.bsz,ok.noex,ok.exfs,ok.funs,ok.frf,ok.tb⟩
theorem Zmx(I:Inv X pins σ H s)(q:Qd (X.A.mark (some (.ref e))) H):Inv (Cx.han X e) pins σ H s:=⟨ZoW I.ok,I.os,I.bare,I.base,I.loc,I.cell,I.free,I.freeC,I.pin,I.hok,I.len,q,I.fx⟩
theorem ZeE(I:Inv (Cx.han X e) pins σ H s)(hh:X.A.handled=none):Inv X pins σ H s:=⟨Zj7 I.ok hh,I.os,I.bare,I.base,I.loc,I.cell,I.free,I.freeC,I.pin,I.hok,I.len,.inl hh,I.fx⟩
theorem Zmy(I:Inv X pins σ H s):Inv (Cx.tri X (X.pn++pins) xe W σ) [] σ H s:=⟨ZoX I.ok,I.os,I.bare,I.base,I.loc,I.cell,I.free,I.freeC,λp hp=>I.pin p (by rw[bR]at hp;exact hp),I.hok,I.len,I.qd,λW' σ0 e j _=>by cases e;rfl⟩
theorem Zbi(hx:X.fxs=none)(I:Inv (Cx.tri X (X.pn++pins) xe W σ0) pins' σ H s):Inv X pins σ H s:=⟨Zj8 I.ok,I.os,I.bare,I.base,I.loc,I.cell,I.free,I.freeC,λp hp=>I.pin p (gI _ hp),I.hok,I.len,I.qd,.free hx⟩
theorem Zh7(I:Inv X pins σ H s)(hn:H a=none)(he:s.heap.get? a=some o)(hd:o.data=.fields vs)(h0:X.s₀.heap.get? a=none)(hp:∀p∈X.pn++pins,p.1≠a):Inv X pins σ (upd H a (.frz o (.own 0))) s:=by
 have ne:∀b u,H b=some u->b≠a:=λb u z q=>by rw[q,hn]at z;cases z
 refine⟨I.ok,I.os,I.bare,⟨I.base.keep,I.base.slot,λb o' x n hx=>?_,I.base.there,λb xs x=>?_,λb o' u x=>?_,λb ps x=>?_⟩,I.loc,I.cell,?_,λx c z=>?_,λp hp'=>?_,λb u z=>?_,I.len,I.qd.mono λb o' u x=>?_,I.fx⟩
 .rw[Zv (λz=>by rw[z,h0]at x;cases x)]
  exact I.base.free b o' x n hx
 .have:=I.base.tups b xs x
  rw[Zv (ne b _ this)];exact this
 .have:=I.base.frzs b o' u x
  rw[Zv (ne b _ this)];exact this
 .obtain⟨m1,z⟩:=I.base.tbls b ps x;exact⟨m1,by rw[Zv (ne b _ z)];exact z⟩
 .rw[Zv (λz=>?_)]
  .exact I.free
  .obtain⟨m,⟨oL,es,ep,hoL,hdL,r⟩,_⟩:=I.loc;rw[z,he]at hoL;cases hoL;rw[hd]at hdL;cases hdL
 .rw[Zv (λq=>?_)]
  .exact I.freeC x c z
  .obtain⟨v,oc,g1,g2⟩:=I.cell x c z;rw[q,he]at g1;cases g1;rw[hd]at g2;cases g2
 .obtain⟨g1,g2,g3,g4,g5⟩:=I.pin p hp';exact⟨g1,by rw[Zv (hp p hp')];exact g2,g3,g4,g5⟩
 .by_cases hb:b=a
  .subst hb;rw[Zs]at z;cases z;exact⟨he,⟨o,he⟩⟩
  .rw[Zv hb]at z;exact(I.hok b u z).stay (λ_ _ _ q=>q) (λc q=>by rw[Zv (ne c _ q)];exact q) λc xs q=>by rw[Zv (ne c _ q)];exact q
 .rw[Zv (ne b _ x)];exact x
theorem Zmz{B:Heap}(I:Inv X pins σ H s)(u:Un (frs X.stack) [] H H' s.heap h1)(hok:HOk X.prog X.w H' h1)(t1:∀b q,H' b=some q->∃o,B.get? b=some o)(t2:∀b o,s.heap.get? b=some o->b∉frs X.stack->∃o',B.get? b=some o')(st1:B.StaysIn h1)(st2:B.StaysIn h2)(up:h1.UpToSlots h2):Un (frs X.stack) [] H H' s.heap h2/\HOk X.prog X.w H' h2:=by
 have kB:∀b ob o,B.get? b=some ob->h1.get? b=some o->h2.get? b=some o:=λb ob o e x=>by
  have z:=st1 b ob e;rw[x]at z;cases z;exact st2 b _ e
 have sl:∀b o,s.heap.get? b=some o->H b=none->b∈frs X.stack->∃sl,h2.get? b=some {o with slots:=sl}:=λb o x n hb=>by
  obtain⟨s2,e2⟩:=u.any x n (by simp)
  obtain⟨_,o',g1,g2⟩:=I.stack.mem hb;rw[x]at g1;cases g1;obtain⟨s3,e3⟩:=up b _ e2 g2;exact⟨s3,e3⟩
 refine⟨⟨λb o x n hb _=>?_,λb o x n hb _=>sl b o x n hb,u.free,λb o x _=>?_,u.tups,u.frzs,u.tbls⟩,λa o x=>?_⟩
 .obtain⟨ob,g⟩:=t2 b o x hb;exact kB b ob o g (u.keep b o x n hb (by simp))
 .by_cases hb:b∈frs X.stack
  .obtain⟨s1,e1⟩:=sl b o x (I.stkFree b hb) hb;exact⟨_,e1⟩
  .obtain⟨ob,g⟩:=t2 b o x hb;exact⟨ob,st2 b ob g⟩
 .refine(hok a o x).stay (λb q hb y=>?_) (λ_ q=>q) λ_ _ q=>q;have tr:∃q,H' b=some q:=by
   rcases hb with z|z
   .exact⟨o,z▸x⟩
   .exact⟨_,z⟩
  obtain⟨q',z⟩:=tr;obtain⟨ob,g⟩:=t1 b q' z;exact kB b ob q g y
theorem ZgO{A:cb}(hfr:A.frames=some (env::outer))(hf:env.frame=some L)(hl:s.heap.FunFrames B (env::outer))(he:s.heap.get? e=some oe)(hs:B.StaysIn s.heap)(hb:B.get? e=none)(hd:oe.data=.fields vs)(h1:vs[1]?=some .none)(h2:vs[2]?=some .none)(h:∀h',DQ.Fly B (env::outer) e oe.cls oe.dict (fX L) h'->s.heap.UpToSlots h'->Q () {s with heap:=h'}):wpAny M A (hW (.ref e) env) Q E s:=by
 unfold hW;simp only[hf];refine Wb (b7 he hd h1 ?_);rw[if_neg (by decide)]
 exact DQ.Zc9 hfr hl hf he hs hb hd (bS.mp h2).1 h2 h
noncomputable def kpR:List Bool->Ro->Ro
 |b::m,x::r=>(bif b then none else x)::kpR m r
 |_,[]=>[]
 |[],_::r=>none::kpR [] r
theorem Zfi:∀(W:List Bool)(ρ:Ro),(kpR W ρ).length=ρ.length
 |[],[]=>rfl
 |_::_,[]=>rfl
 |[],_::r=>by rw[kpR,aH,aH,Zfi [] r]
 |_::m,_::r=>by rw[kpR,aH,aH,Zfi m r]
theorem Zh8:∀(W:List Bool)(ρ:Ro)(j:Nat)(d:D),(kpR W ρ)[j]?=some (some d)->W[j]?=some false/\ρ[j]?=some (some d)
 |[],[],_,_,h=>by simp[kpR]at h
 |_::_,[],_,_,h=>by simp[kpR]at h
 |[],_::r,0,_,h=>by simp[kpR]at h
 |[],x::r,j+1,d,h=>by
  have:=Zh8 [] r j d (by simpa [kpR]using h)
  simp at this
 |b::m,x::r,0,d,h=>by
  cases b with
  |true=>simp[kpR]at h
  |false=>exact⟨rfl,by simpa [kpR]using h⟩
 |b::m,x::r,j+1,d,h=>by
  have:=Zh8 m r j d (by simpa [kpR]using h)
  simpa using this
def fsE(c:Str)(M:Sto):List D:=if ZhL c=true then(match M.getLast? with|some (.lst xs)=>xs|none=>[])else[]
def stE(c:Str)(M:Sto):Sto:=if ZhL c=true then M.dropLast else M
theorem ZoY(h:ZhL c=false):fsE c M=[]:=by unfold fsE;rw[h];rfl
theorem ZmA(h:ZhL c=false):stE c M=M:=by unfold stE;rw[h];rfl
theorem ZrW{M:Sto}(h:ZhL c=true):fsE c (M++[.lst ds])=ds:=by unfold fsE;rw[if_pos h,List.getLast?_concat]
theorem ZoZ(h:ZhL c=true):stE c (M++[.lst ds])=M:=by unfold stE;rw[if_pos h,List.dropLast_concat]
theorem XO.hr{K:Fg}(h:XO K H α c M dct):HR K H α (stE c M):=by
 rcases h with⟨h1,h2,_⟩|⟨h1,M0,ds,dx,fs,rfl,h2,_⟩
 .rw[ZmA h1];exact h2
 .rw[ZoZ h1];exact h2
theorem XO.inst{K:Fg}(h:XO K H α c M oe.dict)(hok:HOk P w H hp)(he:hp.get? e=some oe)(k2:oe.cls=.ref C)(k4:oe.data=.fields vs):∃od,PySem.W.InstAt hp e oe C od:=by
 have nc:PySem.W.notCls oe=true:=by unfold PySem.W.notCls;rw[k4]
 rcases h with⟨h1,h2,h3⟩|⟨h1,M0,ds,dx,fs,_,h2,h3,h4,h5,h6⟩
 .exact⟨none,he,k2,nc,by rw[h3];trivial⟩
 .obtain⟨o,g⟩:=ZcZ (hok _ _ h4);exact⟨some o,he,k2,nc,by rw[h3];exact g⟩
theorem ZA{A:cb}(hr:Room k (A.deeper env))(h:100<=k):A.handled.isNone=true:=by
 have e:A.handled=none:=hr.hd h;rw[e];rfl
end DL
namespace DL
open PyProof.Rows L2
abbrev Me:=D->List D->Sto->Out D
def MO(X:Cx)(ξ:XK)(r:V->List V->Hp->VK->Prop)(g:Me):Prop:=∀H α M v vs x ds Q,HR X.K H α M->Rep X.K H α v x->Reps X.K H α vs ds->OP X.K H α ξ Q (g x ds M)->r v vs H Q
theorem HR.wrE{K:Fg}(h:HR K H α M)(e:RefK H α 0 n p)(hp:H p=some (.lst ys))(r:Reps K H α xs ds):Ext K H (upd H p (.lst xs)) α α/\HR K (upd H p (.lst xs)) α (M.set n (.lst ds)):=
 ⟨Ext.wr hp,h.wr e hp r⟩
section
variable {es:List Expr}{id:String}{r:V->List V->Hp->VK->Prop}
noncomputable def ZmB(x:D)(M:Sto):Bool:=match x with|.ref n=>M[n]?.isSome|_=>false
def Zj9(g:Me)(fo:Ev)(fs:Av):Ev:=λρ M=>(fo ρ M).bind λx M1=>if ZmB x M1=true then(fs ρ M1).bind λds M2=>g x ds M2 else .bad
theorem ZmC{K:Fg}(h:HR K H α M)(rx:Rep K H α v x)(k:ZmB x M=true):tyV K "list" v H:=by
 cases rx with
 |@ref p n hp=>
  obtain⟨xs,g⟩:=h.some_at hp;exact .inl ⟨rfl,_,SqL.of g⟩
 |_=>cases k
theorem Zo0(slot:Slot "list" name id)(hty:typeOf (.builtin id)=pure (.type "method_descriptor"))(hm:MtR X id r)(hf:MO X ξ r g)(ho:DE X ξ o fo)(ha:DA X ξ (e::es) fs)(hbase:autoParam (gH o name X.env (eval o X.env)=eval o X.env) Qrf._auto_1)
  (hfew:((b8 cpos (af (e::es) X.env)).all (λx=> !x.1)&&(ju cpos (gK [] X.env)).all (λx=>x.1.isSome) && decide ((e::es).length+([]:List gZ).length+(if([]:List gZ).isEmpty then 0 else 1)<30))=true:=by rfl)
  (hline:(apos.endLine==cpos.line)=true:=by rfl) (hs:af (e::es) X.env=(false,eval e X.env)::af es X.env:=by rfl) (hplain:(b8 cpos (af es X.env)).any (·.1)=false:=by rfl):
  DE X ξ (.Call (.Attribute o name apos) (e::es) [] cpos) (Zj9 g fo fs):=by
 obtain⟨to,po,qo⟩:=ho;obtain⟨ta,pa,qa⟩:=ha;refine⟨_,ZrL PySem.F.plainAttrs_list slot hty hm po pa hbase hfew hline hs hplain,λσ ρ H α M Q s h q=>?_⟩;refine qo σ ρ H α M _ s h (OG.seq q λx M1 v H1 α1 e1 h1 r1 q1=>?_);by_cases k:ZmB x M1=true
 .rw[if_pos k]at q1;exact⟨ZmC h1 r1 k,qa σ ρ H1 α1 M1 _ (s.mono e1) h1 (OG.seq q1 λds M2 vs H2 α2 e2 h2 r2 q2=>hf H2 α2 M2 v vs x ds Q h2 (Rep.mono e2 r1) r2 q2)⟩
 .rw[if_neg k]at q1;exact q1.elim
noncomputable def mApp:Me:=λx ds M=>match x,ds with
 |.ref n,[d]=>(match M[n]? with|some (.lst xs)=>if xs.length<10000000 then .ok .non (M.set n (.lst (xs++[d])))else .bad|none=>.bad)
 |_,_=>.bad
theorem Zo1:MO X ξ rAppend mApp:=by
 intro H α M v vs x ds Q h rx rs q;cases rx with
 |@ref p n hp=>
  cases rs with
  |nil=>exact q.elim
  |@cons u d _ _ ru tz=>
   cases tz with
   |cons _ _=>exact q.elim
   |nil=>
    cases em:M[n]? with
    |none=>simp only[mApp,em]at q;exact q.elim
    |some so=>
     cases so with
     |lst es=>
      obtain⟨xs,g1,g2⟩:=h.at hp em;by_cases c:es.length<10000000
      .simp only[mApp,em,if_pos c]at q;obtain⟨k1,k2⟩:=h.wrE hp g1 (g2.append (.cons ru .nil));exact⟨p,xs,u,rfl,rfl,g1,by rw[g2.length];exact aF c (by decide),q _ _ α k1 k2 .non⟩
      .simp only[mApp,em,if_neg c]at q;exact q.elim
 |_=>cases rs<;>exact q.elim
theorem ZaW(ho:DE X ξ o fo)(ha:DE X ξ e fa)(hbase:autoParam (gH o "append" X.env (eval o X.env)=eval o X.env) Qrf._auto_1)
  (hfew:((b8 cpos (af [e] X.env)).all (λx=> !x.1)&&(ju cpos (gK [] X.env)).all (λx=>x.1.isSome) && decide ([e].length+([]:List gZ).length+(if([]:List gZ).isEmpty then 0 else 1)<30))=true:=by rfl)
  (hline:(apos.endLine==cpos.line)=true:=by rfl) (hs:af [e] X.env=(false,eval e X.env)::af [] X.env:=by rfl) (hplain:(b8 cpos (af [] X.env)).any (·.1)=false:=by rfl):
  DE X ξ (.Call (.Attribute o "append" apos) [e] [] cpos) (Zj9 mApp fo (Zd fa aNil)):=Zo0 PySem.F.slot_list_append PySem.F.type_list_append Zer Zo1 ho (Za ha Ze hs) hbase hfew hline hs hplain
def DO(X:Cx)(ξ:XK)(e:Option Expr)(f:Ro->Sto->Out (Option Int)):Prop:=∃t:TO,PO X e t/\∀σ ρ H α M (Q:Option Int->Hp->Prop),SR X.K H α σ ρ->HR X.K H α M->OG X.K (λ_ _ v d=>v=d) H α ξ Q (f ρ M)->t σ H Q
noncomputable def oNo:Ro->Sto->Out (Option Int):=λ_ M=>.ok none M
def oSo(f:Ev):Ro->Sto->Out (Option Int):=λρ M=>(f ρ M).bind λx M1=>match x with|.int i=>.ok (some i) M1|_=>.bad
theorem Zka:DO X ξ none oNo:=⟨_,Zl2,λσ ρ H α M Q s h q=>q none H α Ext.refl h rfl⟩
theorem Zkb(ha:DE X ξ e fa):DO X ξ (some e) (oSo fa):=by
 obtain⟨ta,pa,qa⟩:=ha;refine⟨_,Zl3 pa,λσ ρ H α M Q s h q=>?_⟩;refine qa σ ρ H α M _ s h (OG.seq q λx M1 v H1 α1 e1 h1 r1 q1=>?_);cases r1 with
 |int i=>exact⟨i,rfl,q1 (some i) H1 α1 Ext.refl h1 rfl⟩
 |_=>exact q1.elim
def ZeF(xs:List D)(lo hi:Option Int):List D:=(xs.drop (HT.sIx xs.length 0 lo)).take (HT.sIx xs.length xs.length hi-HT.sIx xs.length 0 lo)
theorem Reps.drop{K:Fg}{H:Hp}{α:List Addr}:∀(n:Nat){vs:List V}{ds:List D},Reps K H α vs ds->Reps K H α (vs.drop n) (ds.drop n)
 |0,_,_,h=>h
 |_+1,_,_,.nil=>.nil
 |n+1,_,_,.cons _ t=>Reps.drop n t
theorem Reps.take{K:Fg}{H:Hp}{α:List Addr}:∀(n:Nat){vs:List V}{ds:List D},Reps K H α vs ds->Reps K H α (vs.take n) (ds.take n)
 |0,_,_,_=>.nil
 |_+1,_,_,.nil=>.nil
 |n+1,_,_,.cons r t=>.cons r (Reps.take n t)
theorem Reps.cut{K:Fg}(r:Reps K H α vs ds)(lo hi:Option Int):Reps K H α (ZkZ vs lo hi) (ZeF ds lo hi):=by
 unfold ZkZ ZeF;rw[r.length];exact(r.drop _).take _
def eSl(f:Ev)(lo hi:Ro->Sto->Out (Option Int)):Ev:=λρ M=>(f ρ M).bind λx M1=>(lo ρ M1).bind λl M2=>(hi ρ M2).bind λu M3=>match x with
 |.ref n=>(match M3[n]? with|some (.lst xs)=>.ok (.ref M3.length) (M3++[.lst (ZeF xs l u)])|none=>.bad)
 |.rol xs=>.ok (.ref M3.length) (M3++[.lst (ZeF xs l u)])
 |.tup xs=>if HT.sIx xs.length 0 l=0/\HT.sIx xs.length xs.length u=xs.length then .bad else .ok (.tup (ZeF xs l u)) M3
 |_=>.bad
theorem Zkc{lo:Option Expr}(he:DE X ξ e fa)(hl:DO X ξ lo fl)(hh:DO X ξ hi fh):DE X ξ (.Subscript e (.Slice lo hi none p2) pos) (eSl fa fl fh):=by
 obtain⟨ta,pa,qa⟩:=he;obtain⟨tl,pl,ql⟩:=hl;obtain⟨th,ph,qh⟩:=hh;refine⟨_,ZjI (SlR.or Zl9 Zom) pa pl ph,λσ ρ H α M Q s h q=>?_⟩;refine qa σ ρ H α M _ s h (OG.seq q λx M1 v H1 α1 e1 h1 r1 q1=>?_);refine ql σ ρ H1 α1 M1 _ (s.mono e1) h1 (OG.seq q1 λl M2 l' H2 α2 e2 h2 r2 q2=>?_);refine qh σ ρ H2 α2 M2 _ ((s.mono e1).mono e2) h2 (OG.seq q2 λu M3 u' H3 α3 e3 h3 r3 q3=>?_);cases r2;cases r3;cases Rep.mono e3 (Rep.mono e2 r1)with
 |@ref p n hp=>
  cases em:M3[n]? with
  |none=>simp only[em]at q3;exact q3.elim
  |some so=>
   cases so with
   |lst es=>
    simp only[em]at q3;obtain⟨xs,g1,g2⟩:=h3.at hp em;exact .inl ⟨p,xs,rfl,SqL.of g1,λa ha=>q3 _ _ (α3++[a]) (Ext.new ha) (h3.new ha (g2.cut l u)) (.ref ⟨h3.last a,Kn.lst Zs⟩)⟩
 |@rol p xs ds hp rp=>
  have q4:OP X.K H3 α3 ξ Q (.ok (.ref M3.length) (M3++[.lst (ZeF ds l u)])):=q3;exact .inl ⟨p,xs,rfl,hp.sq,λa ha=>q4 _ _ (α3++[a]) (Ext.new ha) (h3.new ha (rp.cut l u)) (.ref ⟨h3.last a,Kn.lst Zs⟩)⟩
 |@tup p xs ds hp rp=>
  by_cases c:HT.sIx ds.length 0 l=0/\HT.sIx ds.length ds.length u=ds.length
  .simp only[if_pos c]at q3;exact q3.elim
  .simp only[if_neg c]at q3;exact .inr ⟨p,xs,rfl,(SqT.of hp),by rw[rp.length];exact c,λa ha=>q3 _ _ α3 (Ext.new0 ha) (h3.tup ha) (.tup Zs (Reps.mono (Ext.new0 ha) (rp.cut l u)))⟩
 |_=>exact q3.elim
def Zrk(M:Sto)(x:D):Option (List D):=match x with|.con _=>none|y=>Zej M y
theorem Zh9(e:Zrk M x=some ys):Zej M x=some ys/\∀zs,x≠ .con zs:=by
 cases x with
 |con _=>cases e
 |_=>exact⟨e,λ_ z=>by cases z⟩
def bTup:W3:=λds M=>match ds with
 |[x]=>match Zrk M x with|some xs=>.ok (.tup xs) M|none=>.bad
 |_=>.bad
theorem ZbK:CO X ξ (λxs H Q=>∃p ys,xs=[.ref p]/\((SqL X.K H p ys/\∀l,H l=none->Q (.ref l) (upd H l (.tup ys)))\/(SqT X.K H p ys/\Q (.ref p) H))) bTup:=by
 intro H α M vs ds Q h rs q;unfold bTup at q;cases rs with
 |nil=>exact q.elim
 |@cons _ x _ _ r tz=>
  cases tz with
  |cons _ _=>exact q.elim
  |nil=>
   cases e:Zrk M x with
   |none=>simp only[e]at q;exact q.elim
   |some ys=>
    simp only[e]at q;obtain⟨p,xs,rfl,h2,h3⟩:=ZjY h r (Zh9 e).1 (Zh9 e).2;rcases h2 with h2|h2
    .exact⟨p,xs,rfl,.inl ⟨h2,λl hl=>q _ _ α (Ext.new0 hl) (h.tup hl) (.tup Zs (Reps.mono (Ext.new0 hl) h3))⟩⟩
    .exact⟨p,xs,rfl,.inr ⟨SqT.of h2,q _ H α Ext.refl h (.tup h2 h3)⟩⟩
end
end DL
namespace DL
open PyProof.Rows L2
def Zfj(tg:Tg)(g:Sv)(src:Src):Nat->Nat->Ro->Sto->Fl
 |f,i,ρ,M=>match nxt src i M with
  |none=>.bad
  |some none=>.nx ρ M
  |some (some d)=>(match f with
   |0=>.bad
   |f+1=>(match tg d ρ with
    |none=>.bad
    |some ρ1=>(match g ρ1 M with
     |.nx ρ2 M2=>Zfj tg g src f (i+1) ρ2 M2
     |.cnt ρ2 M2=>Zfj tg g src f (i+1) ρ2 M2
     |.brk ρ2 M2=>.nx ρ2 M2
     |o=>o)))
def Zdy(tg:Tg)(fi:Ro->Sto->Out Src)(g:Sv):Sv:=λρ M=>Zbh (fi ρ M) λsrc M1=>Zfj tg g src (cnt src M1) 0 ρ M1
theorem ZcA(hp:eB (ae X.prog X.w) X.A X.env X.xe)(hi:DI X ξ tg iter fi)(hg:DG X tg gt)(hb:DSs X ξ body g)(hf:autoParam (∀x,cG iter X.env x=pure x) Qin._auto_1):DS X ξ (.For tg iter body [] pos) (Zdy gt fi g):=by
 obtain⟨wi,pi,qi⟩:=hi;obtain⟨tt,pt,qt⟩:=hg;obtain⟨tb,pb,qb⟩:=hb;refine⟨_,Zhj hp pi pt pb hf,λσ ρ H α M Dn s hh w=>qi σ ρ H α M _ s hh (FP.seq w λsrc M1 J H1 α1 e1 h1 sc w1=>?_)⟩;generalize eo:Zfj gt g src (cnt src M1) 0 ρ M1=o at w1;refine⟨λi m σ' H'=>∃ρ' α' M',Ext X.K H1 H' α1 α'/\SR X.K H' α' σ' ρ'/\HR X.K H' α' M'/\Zfj gt g src m i ρ' M'=o,⟨cnt src M1,ρ,α1,M1,Ext.refl,s.mono e1,h1,eo⟩,?_⟩;rintro i m σ' H' ⟨ρ',α',M',ex,sr,hr,en⟩;have s5:=sc i H' α' M' ex hr;unfold Zfj at en;cases en1:nxt src i M' with
 |none=>rw[en1]at en;cases en;exact w1.elim
 |some od=>
  rw[en1]at en s5;cases od with
  |none=>cases en;exact .inl ⟨s5,w1 σ' H' α' ex hr sr⟩
  |some d=>
   obtain⟨go,yl⟩:=s5;cases m with
   |zero=>cases en;exact w1.elim
   |succ m=>
    simp only at en;refine .inr ⟨go,λσ2 H2=>∃ρ' α' M',Ext X.K H1 H2 α1 α'/\SR X.K H2 α' σ2 ρ'/\HR X.K H2 α' M'/\Zfj gt g src m (i+1) ρ' M'=o,λσ2 H2 z=>⟨m,df m,z⟩,λx H2 y=>?_⟩;obtain⟨ex7,hr7,rp7⟩:=yl x H2 y;exact Zj1 (tg:=tg) w1 qt qb (ex.trans ex7) (sr.mono ex7) hr7 rp7 en (λσ' H' z=>z)
theorem Zia{ch:List Addr}(I:Inv X pins σ H s)(k:∀b o,b∉ch->s.heap.get? b=some o->h'.get? b=some o)(hf:∀b∈ch,Ze4 X pins H b):Inv X pins σ H {s with heap:=h',toks:=t'}:=by
 have nit:∀b u,H b=some u->b∉ch:=λb u e z=>by rw[(hf b z).1]at e;cases e
 have hL:X.env.locals∉ch:=λz=>(hf _ z).2.1 rfl;refine I.step (g':=s.gens) (d':=s.drawn) (ch:=ch) (λb hb=>?_) (λb o _ _ hc e _=>k b o hc e) (λb o _ _ hc e _=>⟨o.slots,k b o hc e⟩) (λ_ _ _ _ n=>n)
  (λb o hc e=>⟨o,k b o hc e⟩) (λ_ _ e=>e) (λ_ _ _ e=>e) (λb ps e=>⟨#[],by rw[e];simp⟩) (λm hm=>?_) (λb u e=>?_) I.bare
 .obtain⟨_,z1,_,z3,z4,z5⟩:=hf b hb;exact⟨z3,z1,z4,z5⟩
 .obtain⟨o,es,ep,ho,r⟩:=hm;exact⟨o,es,ep,k _ o hL ho,r⟩
 .refine(I.hok b u e).stay (λc v hc q=>k c v ?_ q) (λ_ q=>q) λ_ _ q=>q;rcases hc with z|z
  .rw[z];exact nit b u e
  .exact nit c _ z
theorem Zle{ch:List Addr}(I:Inv X pins σ H s)(hf:∀b∈ch,Ze4 X pins H b)(hlt:∀b∈ch,b<s.heap.objs.size)(rv:Zaj vs us)(hz:vs.length<=sizeLine)(k:∀b o,b∉ch->s.heap.get? b=some o->h'.get? b=some o)(ht:h'.get? s.heap.objs.size=some {cls:=.type "tuple",data:=.seq us.toArray}):Inv X pins σ (upd H s.heap.objs.size (.tup vs)) {s with heap:=h',toks:=t'}/\H s.heap.objs.size=none/\∀b∈ch,upd H s.heap.objs.size (.tup vs) b=none:=by
 have fr:H s.heap.objs.size=none:=I.hok.fresh (ac _);have hn:∀b∈ch,upd H s.heap.objs.size (.tup vs) b=none:=λb hb=>by rw[Zv (aI (hlt b hb))];exact(hf b hb).1
 have I1:Inv X pins σ (upd H s.heap.objs.size (.tup vs)) {s with heap:=s.heap.push {cls:=.type "tuple",data:=.seq us.toArray},toks:=t'}:=
  I.laid (t':=t') (o:=.tup vs) (λ_ _ q=>Hq _ q) (ac _) ⟨hz,us,rv,_,aS _ rfl,rfl,_,rfl⟩
 refine⟨Zia (s:={s with heap:=s.heap.push {cls:=.type "tuple",data:=.seq us.toArray},toks:=t'}) (t':=t') (ch:=ch) I1 (λb o hb e=>?_) (λb hb=>⟨hn b hb,(hf b hb).2⟩),fr,hn⟩;by_cases c:b=s.heap.objs.size
 .subst c;have e':(s.heap.push {cls:=.type "tuple",data:=.seq us.toArray}).get? s.heap.objs.size=some o:=e;rw[aS _ rfl]at e';cases e';exact ht
 .refine k b o hb ?_;have e':(s.heap.push {cls:=.type "tuple",data:=.seq us.toArray}).get? b=some o:=e;have hl:b<s.heap.objs.size:=by
   have q:b<s.heap.objs.size+1:=by
    have z:=Hz e'
    rwa [eK]at z
   exact Nat.lt_of_le_of_ne (Nat.le_of_lt_succ q) c
  have q:(s.heap.push {cls:=.type "tuple",data:=.seq us.toArray}).get? b=s.heap.get? b:=by
   unfold lH.get? lH.push;simp only[jX];rw[if_neg (aI hl)]
  rwa [q]at e'
def Ite(K:Fg)(a:Addr):It:=
 ⟨λi H=>∃xs x,SqL K H a xs/\xs[i]?=some x,λi H y H'=>∃p,H p=none/\y=.ref p/\∀xs x,SqL K H a xs->xs[i]?=some x->H'=upd H p (.tup [.int i,x]),λi H=>∃xs,SqL K H a xs/\xs.length<=i⟩
def Itz(K:Fg)(a b:Addr):It:=
 ⟨λi H=>∃xs ys x y,SqL K H a xs/\SqL K H b ys/\xs[i]?=some x/\ys[i]?=some y,λi H v H'=>∃p,H p=none/\v=.ref p/\∀xs ys x y,SqL K H a xs->SqL K H b ys->xs[i]?=some x->ys[i]?=some y->H'=upd H p (.tup [x,y]),λi H=>∃xs ys,SqL K H a xs/\SqL K H b ys/\(xs.length<=i\/ys.length<=i)⟩
theorem Zib{K:Fg}(hB:B.handled=none)(a e it:Addr)(hne:e≠it):Turn P w K B (.Tuple elts k0 tp) (Ite K a) [e,it] e (λi h=>(∃old,IsEnum h e it (i:Int) old)/\h.IsListIter it a i) where
 mem:=by simp
 obj:=λi h st b hb=>by
  obtain⟨⟨old,h1⟩,o,e2,c2,d2⟩:=st;rcases aM.mp hb with z|z
  .subst z;exact⟨_,h1,λv z=>by cases z⟩
  .have z':b=it:=by simpa using z
   subst z';exact⟨o,e2,λv z=>by rw[d2]at z;cases z⟩
 keep:=λi h h' st k=>⟨let ⟨old,z⟩:=st.1;⟨old,k e (by simp) _ z⟩,st.2.at λo z=>k it (by simp) o z⟩
 item:=by
  intro X hP hw hK hA i pins s σ H E I hf st hg;subst hP hw hK hA;obtain⟨⟨old,h1⟩,h2⟩:=st;obtain⟨xs,x,hq,hx⟩:=hg;obtain⟨its,rv,p,hz⟩:=I.list hq;obtain⟨u,hu,ru⟩:=rv.get hx;have lt:∀b∈[e,it],b<s.heap.objs.size:=λb hb=>by
   rcases aM.mp hb with z|z
   .subst z;exact Hz h1
   .have z':b=it:=by simpa using z
    subst z';obtain⟨o,e2,_⟩:=h2;exact Hz e2
  refine wpAny_pyNext_enum_item h1 h2 p.isList (x:=u) (by simpa using hu) hne λh' o1 o2 o3 o4 o5=>⟨_,rfl,?_⟩
  refine wpAny_letOwnedTupleGo_enum (s:={s with heap:=h',toks:=s.toks+1}) o1 λh'' q1 q2=>?_;have pe:s.heap.objs.size≠e:=ce (lt e (by simp))
  have ie:it≠e:=bD hne;obtain⟨J1,J2,J3⟩:=Zle (h':=h'') (t':=s.toks+1) (ch:=[e,it]) (vs:=[.int i,x]) (us:=[.int i s.toks,u]) I hf lt (.cons ⟨_,rfl⟩ (.cons ru .nil)) (by show 2<=sizeLine;decide)
   (λb o hb z=>by
    have n1:b≠e:=λy=>hb (by simp[y])
    have n2:b≠it:=λy=>hb (by simp[y])
    exact(q2.2 b n1).trans (o5 b o n1 n2 z)) ((q2.2 _ pe).trans o3)
  refine⟨.ref s.heap.objs.size,_,J1,rfl,⟨_,J2,rfl,λys y hy hy2=>?_⟩,⟨⟨u,by simpa using q1⟩,o2.at λo z=>(q2.2 it ie).trans z⟩,J3⟩
  rw[I.list_inj hy hq,hx]at hy2;cases hy2;rfl
 done:=by
  intro X hP hw hK hA i pins s σ H E I hf st hg;subst hP hw hK hA;obtain⟨⟨old,h1⟩,h2⟩:=st;obtain⟨xs,hq,hx⟩:=hg;obtain⟨its,rv,p,hz⟩:=I.list hq;obtain⟨f0,f1,f2,f3,f4,f5⟩:=hf it (by simp)
  refine wpAny_pyNext_enum_end hB h1 h2 p.isList (by simp only[gr];exact bj (by rw[<-rv.length];exact hx)) λh' ext=>⟨rfl,?_⟩
  exact I.turned (t':=s.toks) (it:=it) (λb o hb z=>ext b o hb z) f0 f1 f3 f4 f5
 self:=λA i s Q E st q=>by
  obtain⟨⟨old,h1⟩,_⟩:=st;have hT:s.TypeIs (.ref e) "enumerate":=⟨_,h1,rfl⟩;refine wpAny_pyIter_slot hT F.slot_enumerate_iter (dc F.slot_enumerate_iter hT F.entry_enumerate_iter ?_ (F.args_enumerate_iter_1 _));show wpAny _ _ (ret (.ref e)) _ _ s;exact Wp ⟨_,rfl,"enumerate",_,hT,F.slot_enumerate_next.lookup,q⟩
theorem Zkd{K:Fg}(hB:B.handled=none){TI TO:Addr}(D:ZipApart z TI TO i1 i2 a b):Turn P w K B (.Tuple elts k0 tp) (Itz K a b) [z,TI,TO,i1,i2] z (λi h=>IsZip h z TI TO .none/\IsPair h TI (.ref i1) (.ref i2)/\(∃x y,IsPair h TO x y)/\h.IsListIter i1 a i/\h.IsListIter i2 b i) where
 mem:=by simp
 obj:=λi h st c hc=>by
  obtain⟨h1,h2,⟨x,y,h3⟩,⟨o4,e4,c4,d4⟩,⟨o5,e5,c5,d5⟩⟩:=st;simp only[aM,cf,or_false]at hc;rcases hc with rfl|rfl|rfl|rfl|rfl
  .exact⟨_,h1,λv q=>by cases q⟩
  .exact⟨_,h2,λv q=>by cases q⟩
  .exact⟨_,h3,λv q=>by cases q⟩
  .exact⟨o4,e4,λv q=>by rw[d4]at q;cases q⟩
  .exact⟨o5,e5,λv q=>by rw[d5]at q;cases q⟩
 keep:=λi h h' st k=>by
  obtain⟨h1,h2,⟨x,y,h3⟩,h4,h5⟩:=st;exact⟨k z (by simp) _ h1,k TI (by simp) _ h2,⟨x,y,k TO (by simp) _ h3⟩,h4.at λo q=>k i1 (by simp) o q,h5.at λo q=>k i2 (by simp) o q⟩
 item:=by
  intro X hP hw hK hA i pins s σ H E I hf st hg;subst hP hw hK hA;obtain⟨h1,h2,⟨x0,y0,h3⟩,h4,h5⟩:=st;obtain⟨xs,ys,x,y,hq,hq2,hx,hy⟩:=hg;obtain⟨its,rv,p,hz⟩:=I.list hq;obtain⟨its2,rv2,p2,hz2⟩:=I.list hq2;obtain⟨u,hu,ru⟩:=rv.get hx;obtain⟨u2,hu2,ru2⟩:=rv2.get hy;have lt:∀c∈[z,TI,TO,i1,i2],c<s.heap.objs.size:=λc hc=>by
   simp only[aM,cf,or_false]at hc;rcases hc with rfl|rfl|rfl|rfl|rfl
   .exact Hz h1
   .exact Hz h2
   .exact Hz h3
   .obtain⟨o,e2,_⟩:=h4;exact Hz e2
   .obtain⟨o,e2,_⟩:=h5;exact Hz e2
  refine wpAny_pyNext_zip_item D h1 h2 h3 h4 h5 p.isList p2.isList (x:=u) (y:=u2) (by simpa using hu) (by simpa using hu2) λh' o1 o2 o3 o4 o5 o6 o7=>⟨_,rfl,?_⟩
  refine wpAny_letOwnedTupleGo_zip (s:={s with heap:=h'}) o1 λh'' q1 q2=>?_;have pe:s.heap.objs.size≠z:=ce (lt z (by simp))
  obtain⟨J1,J2,J3⟩:=Zle (h':=h'') (t':=s.toks) (ch:=[z,TI,TO,i1,i2]) (vs:=[x,y]) (us:=[u,u2]) I hf lt (.cons ru (.cons ru2 .nil)) (by show 2<=sizeLine;decide)
   (λc o hc q=>by
    simp only[aM,cf,or_false,not_or]at hc;exact(q2.2 c hc.1).trans (o7 c o hc.1 hc.2.2.1 hc.2.2.2.1 hc.2.2.2.2 q)) ((q2.2 _ pe).trans o5)
  refine⟨.ref s.heap.objs.size,_,J1,rfl,⟨_,J2,rfl,λxs' ys' x' y' hx1 hy1 hx2 hy2=>?_⟩,⟨q1,(q2.2 TI D.TIz).trans (o7 TI _ D.TIz D.TITO D.TIi1 D.TIi2 h2),⟨u,u2,(q2.2 TO D.TOz).trans o2⟩,o3.at λo q=>(q2.2 i1 D.i1z).trans q,o4.at λo q=>(q2.2 i2 D.i2z).trans q⟩,J3⟩;rw[I.list_inj hx1 hq,hx]at hx2;rw[I.list_inj hy1 hq2,hy]at hy2;cases hx2;cases hy2;rfl
 done:=by
  intro X hP hw hK hA i pins s σ H E I hf st hg;subst hP hw hK hA;obtain⟨h1,h2,⟨x0,y0,h3⟩,h4,h5⟩:=st;obtain⟨xs,ys,hq,hq2,hx⟩:=hg;obtain⟨its,rv,p,hz⟩:=I.list hq;obtain⟨its2,rv2,p2,hz2⟩:=I.list hq2;have he:its.toArray[i]?=none\/its2.toArray[i]?=none:=by
   rcases hx with hx|hx
   .exact .inl (by simp only[gr];exact bj (by rw[<-rv.length];exact hx))
   .exact .inr (by simp only[gr];exact bj (by rw[<-rv2.length];exact hx))
  refine wpAny_pyNext_zip_end hB D h1 h2 h3 h4 h5 p.isList p2.isList he λh' keep=>⟨rfl,?_⟩;refine Zia (t':=s.toks) (ch:=[z,TI,TO,i1,i2]) I (λc o hc q=>?_) hf;simp only[aM,cf,or_false,not_or]at hc;exact keep c o hc.1 hc.2.2.1 hc.2.2.2.1 hc.2.2.2.2 q
 self:=λA i s Q E st q=>wpAny_pyIter_zip st.1 q
theorem Zo2{n:Nat}(h1:a<n)(h2:b<n):ZipApart (n+4) (n+2) (n+3) n (n+1) a b:=⟨aI ⋯,aI ⋯,aI ⋯,aI ⋯,aI ⋯,ce ⋯,ce ⋯,ce ⋯,ce ⋯,aI ⋯,aI ⋯,aI ⋯,aI ⋯,aI ⋯,aI ⋯,aI ⋯,aI ⋯,aI ⋯⟩
theorem Zo3:bg "zip"=some (.type "zip"):=by decide +kernel
theorem ZeG:bg "enumerate"=some (.type "enumerate"):=by decide +kernel
def ZrX(K:Fg)(t:TA):TI:=λσ H R=>t σ H λvs H1=>∃l xs,vs=[.ref l]/\SqL K H1 l xs/\R (Ite K l) H1
def ZuE(K:Fg)(t:TA):TI:=λσ H R=>t σ H λvs H1=>∃l l2 xs ys,vs=[.ref l,.ref l2]/\SqL K H1 l xs/\SqL K H1 l2 ys/\R (Itz K l l2) H1
theorem ZmD(hc:X.A.handled=none)(hg:Gl X "enumerate")(hm:X.mg "enumerate"=none)(ha:PA X [a] ta)(hs:autoParam (af [a] X.env=(false,eval a X.env)::af [] X.env) Qrf._auto_1)(hpl:autoParam ((b8 pos (af [] X.env)).any (·.1)=false) Qrf._auto_1):
  PI X (.Tuple elts k0 tp) (.Call (.Name "enumerate" p) [a] [] pos) (ZrX X.K ta):=by
 intro pins s σ H R I h;refine wpAny_Call_Name_kw (Zb0 I hg hm ZeG (bA (thn (ha pos pins s σ H _ I h) λus s1 hz=>?_) hs hpl) (by decide) (by decide))
 obtain⟨vs,H1,I1,r1,q1⟩:=hz;obtain⟨l,xs,rfl,hq,q⟩:=q1;obtain⟨u,rfl,ru⟩:=Zdx r1;cases ru;obtain⟨its,rv,pl,hz⟩:=I1.list hq;refine call_enumerate_list pl.isList λh' e1 e2 e3 e4=>?_;have T:=Zib (P:=X.prog) (w:=X.w) (K:=X.K) (B:=X.A) (elts:=elts) (k0:=k0) (tp:=tp) hc l (s1.heap.objs.size+1) s1.heap.objs.size (ce (df _));have I2:Inv X pins σ H1 {s1 with heap:=h',toks:=s1.toks}:=I1.kept (t':=s1.toks) e4;refine T.self X.A 0 {s1 with heap:=h'} _ _ ⟨⟨_,e1⟩,e2⟩ ⟨_,_,_,_,H1,rfl,I2,T,⟨⟨_,e1⟩,e2⟩,λb hb=>?_,q⟩;have hb':s1.heap.objs.size<=b:=by
  simp only[aM,cf,or_false]at hb;rcases hb with rfl|rfl<;>lia
 exact I1.fpOk hb' (I1.hok.fresh hb')
theorem Zo4(hc:X.A.handled=none)(hg:Gl X "zip")(hm:X.mg "zip"=none)(ha:PA X [a,b] ta)(hs:autoParam (af [a,b] X.env=(false,eval a X.env)::af [b] X.env) Qrf._auto_1)(hpl:autoParam ((b8 pos (af [b] X.env)).any (·.1)=false) Qrf._auto_1):
  PI X (.Tuple elts k0 tp) (.Call (.Name "zip" p) [a,b] [] pos) (ZuE X.K ta):=by
 intro pins s σ H R I h;refine wpAny_Call_Name_kw (Zb0 I hg hm Zo3 (bA (thn (ha pos pins s σ H _ I h) λus s1 hz=>?_) hs hpl) (by decide) (by decide))
 obtain⟨vs,H1,I1,r1,q1⟩:=hz;obtain⟨l,l2,xs,ys,rfl,hq,hq2,q⟩:=q1;obtain⟨u,u2,rfl,ru,ru2⟩:=Zho r1;cases ru;cases ru2;obtain⟨its,rv,pl,hz⟩:=I1.list hq;obtain⟨its2,rv2,pl2,hz2⟩:=I1.list hq2;have lt1:l<s1.heap.objs.size:=by obtain⟨_,e,_⟩:=pl.isList;exact Hz e
 have lt2:l2<s1.heap.objs.size:=by obtain⟨_,e,_⟩:=pl2.isList;exact Hz e
 refine call_zip_2 pl.isList pl2.isList λh' e1 e2 e3 e4 e5 e6 e7=>?_;have D:=Zo2 lt1 lt2;have T:=Zkd (P:=X.prog) (w:=X.w) (K:=X.K) (B:=X.A) (elts:=elts) (k0:=k0) (tp:=tp) hc D;have I2:Inv X pins σ H1 {s1 with heap:=h',toks:=s1.toks}:=I1.kept (t':=s1.toks) e7;refine T.self X.A 0 {s1 with heap:=h'} _ _ ⟨e1,e2,⟨_,_,e3⟩,e4,e5⟩ ⟨_,_,_,_,H1,rfl,I2,T,⟨e1,e2,⟨_,_,e3⟩,e4,e5⟩,λc hc=>?_,q⟩;have hb':s1.heap.objs.size<=c:=by
  simp only[aM,cf,or_false]at hc;rcases hc with rfl|rfl|rfl|rfl|rfl<;>lia
 exact I1.fpOk hb' (I1.hok.fresh hb')
def iEn(fs:Av):Ro->Sto->Out Src:=λρ M=>(fs ρ M).bind λds M1=>match ds with|[.ref n]=>.ok (.enu n) M1|_=>.bad
def iZp(fs:Av):Ro->Sto->Out Src:=λρ M=>(fs ρ M).bind λds M1=>match ds with|[.ref n,.ref m]=>.ok (.zip n m) M1|_=>.bad
theorem Zda(hc:X.A.handled=none)(hm:X.mg "enumerate"=none)(ha:DA X ξ [a] fs)(hg:autoParam (Gl X "enumerate") Qrf._auto_1)(hs:autoParam (af [a] X.env=(false,eval a X.env)::af [] X.env) Qrf._auto_1)(hpl:autoParam ((b8 pos (af [] X.env)).any (·.1)=false) Qrf._auto_1):
  DI X ξ (.Tuple elts k0 tp) (.Call (.Name "enumerate" p) [a] [] pos) (iEn fs):=by
 obtain⟨ta,pa,qa⟩:=ha;refine⟨_,ZmD hc hg hm pa hs hpl,λσ ρ H α M R s hh q=>qa σ ρ H α M _ s hh (OG.seq q λds M1 vs H1 α1 e1 h1 r1 w1=>?_)⟩;cases r1 with
 |nil=>exact w1.elim
 |cons r tz=>
  cases tz with
  |cons _ _=>cases r<;>exact w1.elim
  |nil=>
   cases r with
   |@ref l n hp=>
    obtain⟨xs0,g0⟩:=h1.some_at hp;refine⟨l,xs0,rfl,SqL.of g0,w1 _ H1 α1 Ext.refl h1 λi H' α' M' ex hr=>?_⟩;cases em:M'[n]? with
    |none=>rw[show nxt (.enu n) i M'=none by simp only[nxt,em]];exact cW
    |some so=>
     cases so with
     |lst es=>
      obtain⟨xs,g1,g2⟩:=hr.at (ex.get hp) em;cases ei:es[i]? with
      |none=>rw[show nxt (.enu n) i M'=some none by simp only[nxt,em,ei]];exact⟨xs,SqL.of g1,by rw[g2.length];exact bq.mp ei⟩
      |some d=>
       obtain⟨v,k1,k2⟩:=g2.get ei;rw[show nxt (.enu n) i M'=some (some (D.tup [D.int i,d]))by simp only[nxt,em,ei]]
       refine⟨⟨xs,v,SqL.of g1,k1⟩,λx H'' y=>?_⟩;obtain⟨pp,y1,rfl,y3⟩:=y;have y4:=y3 xs v (SqL.of g1) k1;subst y4;exact⟨Ext.new0 y1,hr.tup y1,.tup Zs (.cons (.int i) (.cons (Rep.mono (Ext.new0 y1) k2) .nil))⟩
   |_=>exact w1.elim
theorem Zdb(hc:X.A.handled=none)(hm:X.mg "zip"=none)(ha:DA X ξ [a,b] fs)(hg:autoParam (Gl X "zip") Qrf._auto_1)(hs:autoParam (af [a,b] X.env=(false,eval a X.env)::af [b] X.env) Qrf._auto_1)(hpl:autoParam ((b8 pos (af [b] X.env)).any (·.1)=false) Qrf._auto_1):
  DI X ξ (.Tuple elts k0 tp) (.Call (.Name "zip" p) [a,b] [] pos) (iZp fs):=by
 obtain⟨ta,pa,qa⟩:=ha;refine⟨_,Zo4 hc hg hm pa hs hpl,λσ ρ H α M R s hh q=>qa σ ρ H α M _ s hh (OG.seq q λds M1 vs H1 α1 e1 h1 r1 w1=>?_)⟩
 split at w1
 .rename_i n m;cases r1 with
  |cons r t=>
   cases t with
   |cons r' t=>
    cases t;cases r with
    |ref hp=>
    cases r' with
    |ref hp2=>
    rename_i l l2;obtain⟨xs0,g0⟩:=h1.some_at hp;obtain⟨ys0,g0'⟩:=h1.some_at hp2;refine⟨l,l2,xs0,ys0,rfl,SqL.of g0,SqL.of g0',w1 _ H1 α1 Ext.refl h1 λi H' α' M' ex hr=>?_⟩;cases em:M'[n]? with
    |none=>rw[show nxt (.zip n m) i M'=none by simp only[nxt,em]];exact cW
    |some so=>
     cases em2:M'[m]? with
     |none=>cases so;rw[show nxt (.zip n m) i M'=none by simp only[nxt,em,em2]];exact cW
     |some so2=>
      cases so with
      |lst es=>
       cases so2 with
       |lst es2=>
        obtain⟨xs,g1,g2⟩:=hr.at (ex.get hp) em;obtain⟨ys,g3,g4⟩:=hr.at (ex.get hp2) em2;cases ei:es[i]? with
        |none=>rw[show nxt (.zip n m) i M'=some none by simp only[nxt,em,em2,ei]];exact⟨xs,ys,SqL.of g1,SqL.of g3,.inl (by rw[g2.length];exact bq.mp ei)⟩
        |some d=>
         cases ej:es2[i]? with
         |none=>rw[show nxt (.zip n m) i M'=some none by simp only[nxt,em,em2,ei,ej]];exact⟨xs,ys,SqL.of g1,SqL.of g3,.inr (by rw[g4.length];exact bq.mp ej)⟩
         |some d2=>
          obtain⟨v,k1,k2⟩:=g2.get ei;obtain⟨v2,k3,k4⟩:=g4.get ej;rw[show nxt (.zip n m) i M'=some (some (D.tup [d,d2]))by simp only[nxt,em,em2,ei,ej]]
          refine⟨⟨xs,ys,v,v2,SqL.of g1,SqL.of g3,k1,k3⟩,λx H'' y=>?_⟩;obtain⟨pp,y1,rfl,y3⟩:=y;have y4:=y3 xs ys v v2 (SqL.of g1) (SqL.of g3) k1 k3;subst y4;exact⟨Ext.new0 y1,hr.tup y1,.tup Zs (.cons (Rep.mono (Ext.new0 y1) k2) (.cons (Rep.mono (Ext.new0 y1) k4) .nil))⟩
 .exact w1.elim
end DL
namespace DL
open PyProof.Rows L2
open PySem.SeqAt (EqAt RcAt RcNeAt)
inductive Ks(X:Cx) (H:Hp) (α:List Addr):Kd->Kd->Prop where
 |non:Ks X H α .non .non
 |bl (b:Bool):Ks X H α (.bl b) (.bl b)
 |int (i:Int):Ks X H α (.int i) (.int i)
 |str (x:Str):Ks X H α (.str x) (.str x)
 |tup {vs:List V} {ds es:List D}:Reps X.K H α vs ds->Reps X.K H α vs es->Ks X H α (.tup ds) (.tup es)
 |lst {vs:List V} {ds es:List D}:Reps X.K H α vs ds->Reps X.K H α vs es->Ks X H α (.lst ds) (.lst es)
section
variable {X:Cx}{pins:Pn}{σ:L2.St}{H:Hp}{s:az}{α:List Addr}{M:Sto}
theorem Zo5(h:HR X.K H α M){x:D}(r:Rep X.K H α v x)(e:kd M x=some k):(match k with|.tup ds=>∃p vs,v=.ref p/\SqT X.K H p vs/\Reps X.K H α vs ds|.lst ds=>∃p vs,v=.ref p/\SqL X.K H p vs/\Reps X.K H α vs ds|.non=>v=.non|.bl b=>v=.bl b|.int i=>v=.int i|.str x=>v=.str x):=by
 cases r with
 |non=>cases e;rfl
 |bl b=>cases e;rfl
 |int i=>cases e;rfl
 |str x=>cases e;rfl
 |err _ _ _=>cases e
 |dk _=>cases e
 |dt _=>cases e
 |du _=>cases e
 |fn _=>cases e
 |@tup p xs ds hp rp=>cases e;exact⟨p,xs,rfl,(SqT.of hp),rp⟩
 |@con p xs ds hp rp=>cases e;exact⟨p,xs,rfl,hp.sq,rp⟩
 |@rol p xs ds hp rp=>cases e;exact⟨p,xs,rfl,hp.sq,rp⟩
 |@ref p n hp=>
  cases e1:M[n]? with
  |none=>simp only[kd,e1]at e;cases e
  |some o=>
   cases o with
   |lst ds=>
    simp only[kd,e1]at e;cases e;obtain⟨xs,g1,r1⟩:=h.at hp e1;exact⟨p,xs,rfl,SqL.of g1,r1⟩
theorem Zic(I:Inv X pins σ H s)(h:HR X.K H α M)(rx:Rep X.K H α v x)(ry:Rep X.K H α v y)(ex:kd M x=some k)(ey:kd M y=some l):Ks X H α k l:=by
 have a:=Zo5 h rx ex;have b:=Zo5 h ry ey;have nl:∀{p:Addr}{xs ys:List V},SqT X.K H p xs->SqL X.K H p ys->False:=λ{p xs ys} a c=>by
  obtain⟨i1,_,⟨o1,g1,c1,_⟩,_⟩:=I.tuple a;obtain⟨i2,_,⟨o2,_,g2,c2,_⟩,_⟩:=I.list c;rw[g1]at g2;cases g2;rw[c1]at c2;exact absurd c2 (by decide)
 cases k with
 |non=>cases a;cases l<;>first|(cases b;done)|exact .non|(obtain⟨_,_,q,_⟩:=b;cases q)
 |bl c=>cases a;cases l<;>first|(cases b;done)|(cases b;exact .bl c)|(obtain⟨_,_,q,_⟩:=b;cases q)
 |int c=>cases a;cases l<;>first|(cases b;done)|(cases b;exact .int c)|(obtain⟨_,_,q,_⟩:=b;cases q)
 |str c=>cases a;cases l<;>first|(cases b;done)|(cases b;exact .str c)|(obtain⟨_,_,q,_⟩:=b;cases q)
 |tup ds=>
  obtain⟨p,vs,rfl,q1,q2⟩:=a;cases l with
  |tup es=>
   obtain⟨p2,vs2,e2,q3,q4⟩:=b;cases e2;cases I.tuple_inj q1 q3;exact .tup q2 q4
  |lst es=>
   obtain⟨p2,vs2,e2,q3,q4⟩:=b;cases e2;exact(nl q1 q3).elim
  |_=>cases b
 |lst ds=>
  obtain⟨p,vs,rfl,q1,q2⟩:=a;cases l with
  |lst es=>
   obtain⟨p2,vs2,e2,q3,q4⟩:=b;cases e2;cases I.list_inj q1 q3;exact .lst q2 q4
  |tup es=>
   obtain⟨p2,vs2,e2,q3,q4⟩:=b;cases e2;exact(nl q3 q1).elim
  |_=>cases b
theorem Zlf(I:Inv X pins σ H s)(h:HR X.K H α M):∀(n:Nat){v w:V}{x x' y y':D}{b b':Bool},Rep X.K H α v x->Rep X.K H α v x'->Rep X.K H α w y->Rep X.K H α w y'->eqF n M x y=some b->eqF n M x' y'=some b'->b=b':=by
 intro n
 induction n with
 |zero=>intro v w x x' y y' b b' _ _ _ _ e;simp only[eqF]at e;cases e
 |succ n ih=>
  have lists:∀(vs ws:List V)(xs xs' ys ys':List D)(b b':Bool),Reps X.K H α vs xs->Reps X.K H α vs xs'->Reps X.K H α ws ys->Reps X.K H α ws ys'->eqL (eqF n M) xs ys=some b->eqL (eqF n M) xs' ys'=some b'->b=b':=by
   intro vs
   induction vs with
   |nil=>
    intro ws xs xs' ys ys' b b' r1 r2 r3 r4 e e';cases r1;cases r2;cases r3 with
    |nil=>cases r4;simp only[eqL,aj]at e e';rw[<-e,<-e']
    |cons _ _=>cases r4;simp only[eqL,aj]at e e';rw[<-e,<-e']
   |cons v vs iv=>
    intro ws xs xs' ys ys' b b' r1 r2 r3 r4 e e';cases r1 with
    |cons p1 t1=>
     cases r2 with
     |cons p2 t2=>
      cases r3 with
      |nil=>cases r4;simp only[eqL,aj]at e e';rw[<-e,<-e']
      |cons p3 t3=>
       cases r4 with
       |cons p4 t4=>
        rename_i d1 ds1 d2 ds2 w d3 ws ds3 d4 ds4;cases a1:eqF n M d1 d3 with
        |none=>simp only[eqL,a1]at e;cases e
        |some a=>
         cases a2:eqF n M d2 d4 with
         |none=>simp only[eqL,a2]at e';cases e'
         |some a'=>
          cases c1:eqL (eqF n M) ds1 ds3 with
          |none=>simp only[eqL,a1,c1]at e;cases e
          |some c=>
           cases c2:eqL (eqF n M) ds2 ds4 with
           |none=>simp only[eqL,a2,c2]at e';cases e'
           |some c'=>
            simp only[eqL,a1,c1,aj]at e;simp only[eqL,a2,c2,aj]at e';rw[<-e,<-e',ih p1 p2 p3 p4 a1 a2,iv _ _ _ _ _ _ _ t1 t2 t3 t4 c1 c2]
  intro v w x x' y y' b b' rx rx' ry ry' e e';unfold eqF at e e';cases k1:kd M x with
  |none=>rw[k1]at e;cases e
  |some ka=>
   cases k2:kd M y with
   |none=>rw[k1,k2]at e;cases e
   |some kb=>
    cases k3:kd M x' with
    |none=>rw[k3]at e';cases e'
    |some ka'=>
     cases k4:kd M y' with
     |none=>rw[k3,k4]at e';cases e'
     |some kb'=>
      rw[k1,k2]at e;rw[k3,k4]at e';have s1:=Zic I h rx rx' k1 k3;have s2:=Zic I h ry ry' k2 k4;cases s1 with
      |tup a1 a2=>
       cases s2 with
       |tup b1 b2=>simp only[eqK]at e e';exact lists _ _ _ _ _ _ _ _ a1 a2 b1 b2 e e'
       |_=>simp only[eqK,aj]at e e';rw[<-e,<-e']
      |lst a1 a2=>
       cases s2 with
       |lst b1 b2=>
        simp only[eqK]at e e';rw[<-a1.length,<-b1.length]at e;rw[<-a2.length,<-b2.length]at e'
        split at e
        .rename_i c;rw[if_pos c]at e';exact lists _ _ _ _ _ _ _ _ a1 a2 b1 b2 e e'
        .rename_i c;rw[if_neg c]at e';cases e;cases e';rfl
       |_=>simp only[eqK,aj]at e e';rw[<-e,<-e']
      |_=>cases s2<;>(simp only[eqK,aj]at e e';rw[<-e,<-e'])
def eqs(M:Sto)(d:D):List D->Option (List Bool)
 |[]=>some []
 |x::r=>match eqF 12 M x d with|some b=>(match eqs M d r with|some bs=>some (b::bs)|none=>none)|none=>none
theorem Zid:∀{M:Sto}{d:D}{xs:List D}{bs:List Bool},eqs M d xs=some bs->bs.length=xs.length
 |_,_,[],_,e=>by cases e;rfl
 |M,d,x::r,bs,e=>by
  cases e1:eqF 12 M x d with
  |none=>simp only[eqs,e1]at e;cases e
  |some b=>
   cases e2:eqs M d r with
   |none=>simp only[eqs,e1,e2]at e;cases e
   |some cs=>simp only[eqs,e1,e2,aj]at e;subst e;rw[aH,aH,Zid e2]
theorem Zie:∀{M:Sto}{d:D}{xs:List D}{bs:List Bool}{i:Nat}{x:D},eqs M d xs=some bs->xs[i]?=some x->∃b,bs[i]?=some b/\eqF 12 M x d=some b
 |_,_,[],_,i,x,e,hx=>by simp at hx
 |M,d,y::r,bs,i,x,e,hx=>by
  cases e1:eqF 12 M y d with
  |none=>simp only[eqs,e1]at e;cases e
  |some b=>
   cases e2:eqs M d r with
   |none=>simp only[eqs,e1,e2]at e;cases e
   |some cs=>
    simp only[eqs,e1,e2,aj]at e;subst e;cases i with
    |zero=>simp at hx;subst hx;exact⟨b,rfl,e1⟩
    |succ i=>simp at hx;obtain⟨b',q1,q2⟩:=Zie e2 hx;exact⟨b',by simpa using q1,q2⟩
open Classical in
theorem ZmE{A:cb}(hu:A.units+64<gU)(I:Inv X pins σ H s)(h:HR X.K H α M)(rv:Zaj vs us)(rp:Reps X.K H α vs ds)(ru:Zah v u)(rd:Rep X.K H α v d)(e:eqs M d ds=some bs):∃f:aa->Bool,(∀y,y∈us.toArray->EqAt A.in1 s y u (f y))/\us.map f=bs:=by
 have ll:us.length=ds.length:=by rw[<-rv.length,rp.length]
 have at_:∀(i:Nat) y,us[i]?=some y->∃w x b,Zah w y/\Rep X.K H α w x/\bs[i]?=some b/\eqF 12 M x d=some b:=λi y hy=>by
  have hi:i<ds.length:=by rw[<-ll];exact(au.mp hy).1
  obtain⟨w,a1,a2⟩:=rp.get (Gq hi);obtain⟨y',a3,a4⟩:=rv.get a1;rw[hy]at a3;cases a3;obtain⟨b,a5,a6⟩:=Zie e (Gq hi);exact⟨w,_,b,a4,a2,a5,a6⟩
 refine⟨λy=>decide (∃w x,Zah w y/\Rep X.K H α w x/\eqF 12 M x d=some true),λy hy=>?_,?_⟩
 .obtain⟨i,hi,ey⟩:=bw (by simpa using hy)
  obtain⟨w,x,b,q1,q2,q3,q4⟩:=at_ i y (by rw[aq hi,ey])
  have hb:decide (∃w x,Zah w y/\Rep X.K H α w x/\eqF 12 M x d=some true)=b:=by
   cases b with
   |true=>exact decide_eq_true ⟨w,x,q1,q2,q4⟩
   |false=>
    refine decide_eq_false λhz=>?_;obtain⟨w',x',z1,z2,z3⟩:=hz;cases Zah.inj z1 q1
    have:=Zlf I h 12 z2 q2 rd rd z3 q4
    cases this
  show EqAt A.in1 s y u (decide (∃w x,Zah w y/\Rep X.K H α w x/\eqF 12 M x d=some true));rw[hb];exact(eq3 I h 12 x d w v y u b A.in1 (by rw[cb.in1_units];lia) q4 q2 rd q1 ru).1
 .apply eG;intro i;rw[bH];cases hy:us[i]? with
  |none=>
   have:bs[i]?=none:=bj (by rw[Zid e,<-ll];exact bq.mp hy)
   rw[this];rfl
  |some y=>
   obtain⟨w,x,b,q1,q2,q3,q4⟩:=at_ i y hy;rw[q3];show some _=some b;congr 1;cases b with
   |true=>exact decide_eq_true ⟨w,x,q1,q2,q4⟩
   |false=>
    refine decide_eq_false λhz=>?_;obtain⟨w',x',z1,z2,z3⟩:=hz;cases Zah.inj z1 q1
    have:=Zlf I h 12 z2 q2 rd rd z3 q4
    cases this
end
def inE(x y:D)(M:Sto):Option Bool:=match Zej M y with|some ds=>(match eqs M x ds with|some bs=>some (bs.any id)|none=>none)|none=>none
def Zo6(X:Cx):V->List V->Hp->VK->Prop:=λv vs H Q=>∃α M d ds bs p xs u j,HR X.K H α M/\v=.ref p/\vs=[u]/\Rep X.K H α u d/\SqL X.K H p xs/\Reps X.K H α xs ds/\eqs M d ds=some bs/\bs.findIdx? id=some j/\Q (.int (j:Nat)) H
theorem Zo7(hu:X.A.units+64<gU):MtR X "list.index" (Zo6 X):=by
 intro pins s σ H x vs v us Q I rx rv hh;obtain⟨α,M,d,ds,bs,p,xs,u,j,h,e1,e2,rd,hq,rp,e,ej,q⟩:=hh;subst e1 e2;cases rx;obtain⟨uv,rfl,ru⟩:=Zdx rv;obtain⟨its,r,pl,hz⟩:=I.list hq;obtain⟨f,f1,f2⟩:=ZmE (A:=X.A) hu I h r rp ru rd e;obtain⟨⟨cls,dd,data,sl⟩,ho,hc,n,hd⟩:=pl.isList;simp only at hc hd;subst hc hd;obtain⟨jl,j1,j2⟩:=fW.mp ej;have lb:bs.length=its.length:=by rw[<-f2,aC]
 have at_:∀(m:Nat)(hm:m<its.length),bs[m]?=some (f its[m]):=λm hm=>by rw[<-f2,bH,aq hm];rfl
 have hj:j<its.toArray.size:=by rw[aE,<-lb];exact jl
 have hit:f its.toArray[j]=true:=by
  have:=at_ j (by rw[<-lb];exact jl)
  rw[aq jl]at this
  have:=a9 this
  simp only[jA];rw[<-this];exact j1
 have hno:∀m (hm:m<its.toArray.size),m<j->f its.toArray[m]=false:=λm hm hmj=>by
  have hm':m<its.length:=by simpa using hm
  have:=at_ m hm'
  rw[aq ⋯]at this
  have:=a9 this
  simp only[jA];rw[<-this]
  simpa using j2 m hmj
 have hs:(j:Int)<2^63-1:=by
  have h1:j<its.length:=by rw[<-lb];exact jl
  have h2:its.length<=sizeLine:=by rw[<-r.length];exact hz
  have h3:sizeLine<2^62:=by decide
  lia
 refine call_meets F.slot_list_index ⟨_,ho,rfl⟩ F.entry_list_index (F.args_list_index_2 _ _) (SeqAt.list_indexAt p its.toArray n dd sl uv f j hj hs hit hno) ⟨ho,f1,?_⟩;exact⟨.int (j:Nat),H,I.tok _,⟨_,rfl⟩,q⟩
def mIdx:Me:=λx ds M=>match x,ds with
 |.ref n,[d]=>(match M[n]? with|some (.lst xs)=>(match eqs M d xs with|some bs=>(match bs.findIdx? id with|some j=>.ok (.int (j:Nat)) M|none=>.bad)|none=>.bad)|none=>.bad)
 |_,_=>.bad
theorem Zo8:MO X ξ (Zo6 X) mIdx:=by
 intro H α M v vs x ds Q h rx rs q;cases rx with
 |@ref p n hp=>
  cases rs with
  |nil=>exact q.elim
  |@cons u d _ _ ru tz=>
   cases tz with
   |cons _ _=>exact q.elim
   |nil=>
    cases em:M[n]? with
    |none=>simp only[mIdx,em]at q;exact q.elim
    |some so=>
     cases so with
     |lst es=>
      cases e2:eqs M d es with
      |none=>simp only[mIdx,em,e2]at q;exact q.elim
      |some bs=>
       cases e3:bs.findIdx? id with
       |none=>simp only[mIdx,em,e2,e3]at q;exact q.elim
       |some j=>
        simp only[mIdx,em,e2,e3]at q;obtain⟨xs,g1,g2⟩:=h.at hp em;exact⟨α,M,d,es,bs,p,xs,u,j,h,rfl,rfl,ru,SqL.of g1,g2,e2,e3,q _ H α Ext.refl h (.int _)⟩
 |_=>cases rs<;>exact q.elim
noncomputable def ZbY:List D->Option (List Int)
 |[]=>some []
 |.int b::r=>match ZbY r with|some bs=>some (b::bs)|none=>none
 |_::_=>none
theorem Zke{K:Fg}(h:Reps K H α vs ds)(e:ZbY ds=some bs):vs=bs.map V.int:=by
 induction ds generalizing vs bs with
 |nil=>cases h;cases e;rfl
 |cons d ds ih=>
  cases h with
  |cons r t=>
   cases r with
   |int b=>
    cases e1:ZbY ds with
    |none=>simp only[ZbY,e1]at e;cases e
    |some cs=>
     simp only[ZbY,e1,aj]at e;subst e;rw[ih t e1];rfl
   |_=>cases e
def Zkf(X:Cx)(g:List Int->Option V):List V->Hp->VK->Prop:=λvs H Q=>∃(p:Addr) (ns:List Int) (v:V),vs=[.ref p]/\SqL X.K H p (ns.map V.int)/\g ns=some v/\Q v H
theorem Zf0:∀{ns:List Int}{us:List aa}{i:Nat}{u:aa},Zaj (ns.map V.int) us->us[i]?=some u->∃t,u=.int (ns.getD i 0) t
 |[],us,i,u,h,e=>by cases h;simp at e
 |b::r,us,i,u,h,e=>by
  cases h with
  |cons h1 h2=>
   cases i with
   |zero=>simp at e;subst e;exact h1
   |succ i=>simp at e;obtain⟨t,g⟩:=Zf0 h2 e;exact⟨t,by simpa using g⟩
theorem Zif(hc:X.calm=true){ns:List Int}(I:Inv X pins σ H s)(hl:SqL X.K H p (ns.map V.int))(q:∀(its:List aa)(it:Addr),Zaj (ns.map V.int) its->its.length=ns.length->it=s.heap.objs.size->Walks X.prog X.w X.A.in1 it [it,p] [it] its.toArray.size (λi v=>its.toArray[i]?=some v) (λi h=>h.IsListIter it p i/\h.IsList p its.toArray)->(∀b∈[it,p],b<(s.heap.push {cls:=.type "list_iterator",data:=.fields #[.ref p,.int 0 0]}).objs.size)->((s.heap.push {cls:=.type "list_iterator",data:=.fields #[.ref p,.int 0 0]}).IsListIter it p 0/\(s.heap.push {cls:=.type "list_iterator",data:=.fields #[.ref p,.int 0 0]}).IsList p its.toArray)->(∀h' tk,(∀b o,b∉[it]->(s.heap.push {cls:=.type "list_iterator",data:=.fields #[.ref p,.int 0 0]}).get? b=some o->h'.get? b=some o)->Inv X pins σ H {s with heap:=h',toks:=tk})->Q (.ref it) {s with heap:=s.heap.push {cls:=.type "list_iterator",data:=.fields #[.ref p,.int 0 0]}}):wpAny (ae X.prog X.w) X.A.in1 (pyIter (.ref p)) Q E s:=by
 obtain⟨its,hv,hp,hz⟩:=I.list hl;have hlt:p<s.heap.objs.size:=by obtain⟨_,e,_⟩:=hp.isList;exact Hz e
 refine iD hp.isList ?_;refine q its s.heap.objs.size hv (by rw[<-hv.length,aC]) rfl (Walks.list (A:=X.A.in1) (I.ok.hd hc) _ p (aI hlt) its.toArray) (λb hb=>?_) ⟨⟨_,aS _ rfl,rfl,rfl⟩,hp.isList.push _⟩ λh' tk hk=>?_
 .rw[eK];simp only[aM,cf,or_false]at hb;rcases hb with rfl|rfl
  .exact df _
  .exact Nat.lt_succ_of_lt hlt
 .exact I.kept λb o e=>hk b o (λhm=>by rw[iq.mp hm]at e;exact bU _ (Hz e)) (Hq _ e)
theorem Zdc(ns:List Int):∀j,gS (λi=>ns.getD i 0) j=(ns.take j).sum
 |0=>rfl
 |j+1=>by
  show gS (λi=>ns.getD i 0) j+ns.getD j 0=_;rw[Zdc ns j];by_cases h:j<ns.length
  .rw[List.take_succ_eq_append_getElem h,List.sum_append_int];simp[h]
  .rw[cg ⋯,cg ⋯]
   simp[h]
def Zfk(g:List Int->Option Int):W3:=λds M=>match ds with
 |[x]=>(match Zej M x with|some xs=>(match x with|.con _=>.bad|.tup _=>.bad|_=>(match ZbY xs with|some ns=>(match g ns with|some i=>.ok (.int i) M|none=>.bad)|none=>.bad))|none=>.bad)
 |_=>.bad
theorem ZmF(hg:∀ns i,g ns=some i->gV ns=some (.int i)):CO X ξ (Zkf X gV) (Zfk g):=by
 intro H α M vs ds Q h rs q;unfold Zfk at q;cases rs with
 |nil=>exact q.elim
 |@cons _ x _ _ r tz=>
  cases tz with
  |cons _ _=>exact q.elim
  |nil=>
   have fin:∀(p:Addr)(xs:List V)(ys:List D),SqL X.K H p xs->Reps X.K H α xs ys->OP X.K H α ξ Q (match ZbY ys with|some ns=>(match g ns with|some i=>.ok (.int i) M|none=>.bad)|none=>.bad)->Zkf X gV [.ref p] H Q:=λp xs ys k1 k2 q=>by
    cases e1:ZbY ys with
    |none=>rw[e1]at q;exact q.elim
    |some ns=>
     cases e2:g ns with
     |none=>simp only[e1,e2]at q;exact q.elim
     |some i=>
      simp only[e1,e2]at q
      have:=Zke k2 e1
      subst this;exact⟨p,ns,.int i,rfl,k1,hg _ _ e2,q _ H α Ext.refl h (.int i)⟩
   cases r with
   |@rol p xs ds hp rp=>exact fin p xs ds hp.sq rp q
   |@ref p n hp=>
    cases em:M[n]? with
    |none=>simp only[Zej,em]at q;exact q.elim
    |some so=>
     cases so with
     |lst es=>
      simp only[Zej,em]at q;obtain⟨xs,g1,g2⟩:=h.at hp em;exact fin p xs es (SqL.of g1) g2 q
   |tup _ _=>exact q.elim
   |con _ _=>exact q.elim
   |_=>exact q.elim
theorem Zlg:bg "sum"=some (.builtin "sum"):=by decide +kernel
end DL
namespace DL
open PyProof.Rows L2
section
variable {prog:bO}{w:cu}{A:cb}{R:Result->az->Prop}{I:Addr}{fp wr:List Addr}{n:Nat}{P:Nat->aa->Prop}{St:Nat->Heap->Prop}
theorem Zig(W:Walks prog w A.in1 I fp wr n P St)(val:Nat->Int)(hval:∀i v,P i v->∃t,v=.int (val i) t)(S:Addr)(hSf:S∉fp):∀(k i:Nat)(g:Int)(s:az)(tA:Tok)(c:Nat),(g=0\/g=2)->n-i=k->i<=n->St i s.heap->s.heap.get? S=some {cls:=.type "list",dict:=none,data:=.seq #[.int (gS val i) tA] c,slots:= #[]}->(∀h' tk t',(∀b o,b∉wr->b≠S->s.heap.get? b=some o->h'.get? b=some o)->R (.ok (.ret (.int (gS val n) t'))) {s with heap:=h',toks:=tk})->gY (ae prog w) A (.builtin "sum.loop" ⟨[.ref I,.ref S,fX g,fX 0],[]⟩) R s:=by
 have hSw:S∉wr:=λh=>hSf (W.sub _ h);intro k
 induction k with
 |zero=>
  intro i g s tA c hg hk hi hst hS hR;have hin:i=n:=⋯
  subst hin;refine i9 F.entry_sum_loop ?_;rw[jB F.plain_sum_loop _];show wpAny _ A.in1 (lg (.ref S) >>= _) _ _ s;refine Wb (eL hS rfl ?_);show wpAny _ A.in1 (tryCatch (iG (.ref I)) _ >>= _) _ _ s;refine Wb (wpAny_tryCatch (W.done s _ _ hst λh' tk hk'=>?_));exact Wp (hR h' tk tA λb o hbw _ e=>hk' b o hbw e)
 |succ k ih=>
  intro i g s tA c hg hk hi hst hS hR;have hlt:i<n:=⋯
  refine i9 F.entry_sum_loop ?_;rw[jB F.plain_sum_loop _];show wpAny _ A.in1 (lg (.ref S) >>= _) _ _ s;refine Wb (eL hS rfl ?_);show wpAny _ A.in1 (tryCatch (iG (.ref I)) _ >>= _) _ _ s;refine Wb (wpAny_tryCatch (W.item i s _ _ hlt hst λv h' tk hP hst' hk'=>?_));obtain⟨t,rfl⟩:=hval i v hP;have hS':=hk' S _ hSw hS;rcases hg with rfl|rfl
  .show wpAny _ A.in1 (if(_:Bool)=true then(mkInt (gS val i+val i) >>= _)else _) _ _ _
   split
   .refine Wb (wpAny_mkInt ?_);show wpAny _ A.in1 (updateSeq S (λ_=> #[.int (gS val i+val i) tk]) >>= _) _ _ _;refine Wb ?_;refine fL hS' rfl (Wp ⟨iM F.plain_sum_loop _,ih (i+1) 0 _ tk _ (.inl rfl) ⋯ hlt (W.frame _ _ _ hst' λb hb o e=>?_) (bC _ hS' rfl) λh'' tk'' t'' hk''=>?_⟩)
    .exact(av _ _ (λh:S=b=>hSf (by rw[h];exact hb))).trans e
    .exact hR h'' tk'' t'' λb o hbw hbS e=>hk'' b o hbw hbS ((av _ _ (bD hbS)).trans (hk' b o hbw e))
   .refine Wb (cN ?_);refine Wb (iH (cO (add_int ?_)));show wpAny _ A.in1 (updateSeq S (λ_=> #[.int (gS val i+val i) tk]) >>= _) _ _ _;refine Wb (fL hS' rfl ?_);refine Wb (wpAny_letGo ?_);show wpAny _ A.in1 (updateSeq S (λ_=> #[.int (gS val i+val i) tk]) >>= _) _ _ _;have hS2:=bC (b9 λ_=>(#[.int (gS val i+val i) tk]:Array aa)) hS' rfl;refine Wb (fL hS2 rfl (Wp ⟨iM F.plain_sum_loop _,ih (i+1) 2 _ tk _ (.inr rfl) ⋯ hlt (W.frame _ _ _ hst' λb hb o e=>?_) (bC _ hS2 rfl) λh'' tk'' t'' hk''=>?_⟩))
    .have nb:S≠b:=λh:S=b=>hSf (by rw[h];exact hb)
     exact(av _ _ nb).trans ((av _ _ nb).trans e)
    .exact hR h'' tk'' t'' λb o hbw hbS e=>hk'' b o hbw hbS ((av _ _ (bD hbS)).trans ((av _ _ (bD hbS)).trans (hk' b o hbw e)))
  .show wpAny _ A.in1 (if((2:Int) != 0)=true then _ else _) _ _ _
   rw[if_pos (by decide)]
   refine Wb (iH (cO (add_int ?_)));show wpAny _ A.in1 (updateSeq S (λ_=> #[.int (gS val i+val i) tk]) >>= _) _ _ _;refine Wb (fL hS' rfl ?_);refine Wb (wpAny_letGo ?_);show wpAny _ A.in1 (updateSeq S (λ_=> #[.int (gS val i+val i) tk]) >>= _) _ _ _;have hS2:=bC (b9 λ_=>(#[.int (gS val i+val i) tk]:Array aa)) hS' rfl;refine Wb (fL hS2 rfl (Wp ⟨iM F.plain_sum_loop _,ih (i+1) 2 _ tk _ (.inr rfl) ⋯ hlt (W.frame _ _ _ hst' λb hb o e=>?_) (bC _ hS2 rfl) λh'' tk'' t'' hk''=>?_⟩))
   .have nb:S≠b:=λh:S=b=>hSf (by rw[h];exact hb)
    exact(av _ _ nb).trans ((av _ _ nb).trans e)
   .exact hR h'' tk'' t'' λb o hbw hbS e=>hk'' b o hbw hbS ((av _ _ (bD hbS)).trans ((av _ _ (bD hbS)).trans (hk' b o hbw e)))
end
theorem Zih(h:wpAny (ae prog w) A.in1 (pyIter x) (λit s₂=>∃I fp wr n P St val,it=.ref I/\Walks prog w A.in1 I fp wr n P St/\St 0 s₂.heap/\(∀b∈fp,b<s₂.heap.objs.size)/\(∀i v,P i v->∃t,v=.int (val i) t)/\∀h' tk t',(∀b o,b∉wr->s₂.heap.get? b=some o->h'.get? b=some o)->Q (.int (gS val n) t') {s₂ with heap:=h',toks:=tk}) E s):wpAny (ae prog w) A (call (.builtin "sum") [x]) Q E s:=by
 refine call_function_tree F.kind_sum F.plain_sum F.entry_sum (F.args_sum1 _) ?_;unfold dI.«sum»;simp only[aH,cC];rw[if_neg (by decide)]
 refine Wb (wpAny_of_eq (show dI.Builtins.bindParams "sum" ["start"] 0 {}=pure [none]from rfl) ?_);refine Wb (wpAny_mono h (λit s₂ h₂=>?_) λ_ _ e=>e);obtain⟨I,fp,wr,n,P,St,val,rfl,W,hst,hfp,hval,hQ⟩:=h₂;refine Wb (wpAny_mkInt ?_);refine Wb (Wp ?_);simp only[fK,gj];refine Wb (Wb (Wb (db (T:="int") (b:=false) (kE _ _ _) PySem.sub_int_str ?_)));simp only[aX,if_false];refine Wp (Wb (Wb (db (T:="int") (b:=false) (kE _ _ _) PySem.sub_int_bytes ?_)));simp only[aX,if_false];refine Wp (Wb (Wb (db (T:="int") (b:=false) (kE _ _ _) PySem.sub_int_bytearray ?_)));simp only[aX,if_false];refine Wp (Wp ?_);refine Wb (bX ?_);have hSf:s₂.heap.objs.size∉fp:=λhm=>bU _ (hfp _ hm);refine Wp ⟨iM F.plain_sum_loop _,Zig W val hval s₂.heap.objs.size hSf n 0 0 _ s₂.toks 0 (.inl rfl) rfl (c8 _) (W.frame _ _ _ hst λb _ o e=>Hq _ e) (aS _ rfl) λh' tk t' hk=>?_⟩
 exact hQ h' tk t' λb o hbw e=>hk b o hbw (aI (Hz e)) (Hq _ e)
def Zo9(ns:List Int):Option V:=some (.int ns.sum)
def Zpa(ns:List Int):Option Int:=some ns.sum
theorem ZeH(hc:X.calm=true):Zcg X (.builtin "sum") (Zkf X Zo9):=by
 intro pins s σ H vs us Q I rs hh;obtain⟨p,ns,v,e,hl,hg,q⟩:=hh;subst e;obtain⟨u,rfl,ru⟩:=Zdx rs;cases ru;cases hg;refine Zih (Zif hc I hl λits it hv hlen ei W hfp st back=>?_);refine⟨it,_,_,_,_,_,λi=>ns.getD i 0,rfl,W,st,hfp,λi v hP=>Zf0 hv (by simpa using hP),λh' tk t' hk=>⟨.int ns.sum,H,back h' tk hk,⟨t',?_⟩,q⟩⟩
 rw[Zdc,aE,hlen,List.take_length]
theorem Zii:CO X ξ (Zkf X Zo9) (Zfk Zpa):=ZmF λns i e=>by
 cases e;rfl
end DL
namespace DL
open PyProof.Rows L2
noncomputable def kK:D->Option Key
 |.int i=>some (.inl i)
 |.str x=>some (.inr x)
 |_=>none
def kKs:List D->Option (List Key)
 |[]=>some []
 |d::r=>match kK d,kKs r with|some k,some ks=>some (k::ks)|_,_=>none
def kT:D->Option (List Key)
 |.tup ds=>kKs ds
 |_=>none
theorem Zij(k:Key):kK (ZjS k)=some k:=by cases k<;>rfl
theorem Zf1:∀(ks:List Key),kKs (ks.map ZjS)=some ks
 |[]=>rfl
 |k::ks=>by rw[aN,kKs,Zij,Zf1 ks]
theorem Zkg(ks:List Key):kT (Zfd ks)=some ks:=Zf1 ks
section
variable {κ:Type}[DecidableEq κ]
noncomputable def ZeI(dec:D->Option κ)(k:κ):List D->Option D
 |[]=>none
 |.tup [a,v]::r=>if dec a=some k then some v else ZeI dec k r
 |_::r=>ZeI dec k r
variable {K:Fg}{H H':Hp}{α α':List Addr}{key:κ->D}{dec:D->Option κ}
theorem ZeJ:Za5 K H α key [] []:=⟨[],rfl,.nil⟩
theorem Zdd(hd:∀k,dec (key k)=some k):∀{kvs:List (κ×V)} {es:List D} (k:κ),Reps K H α (kvs.map (·.2)) es->
  match ZeI dec k (bJ (λkv e=>D.tup [key kv.1,e]) kvs es)with|none=>Zfa kvs k=none|some d=>∃v,Zfa kvs k=some v/\Rep K H α v d
 |[],es,k,h=>by cases h;rfl
 | (k',v)::kvs,_,k,.cons r t=>by
  simp only[List.zipWith_cons_cons,ZeI,hd,aj];by_cases c:k'=k
  .rw[if_pos c];exact⟨v,ZdU (p:=(k',v)) c,r⟩
  .rw[if_neg c]
   have:=Zdd hd k t
   have e:Zfa ((k',v)::kvs) k=Zfa kvs k:=ZdV (p:=(k',v)) c;rw[e];exact this
theorem Zik{kvs:List (κ×V)}{ds:List D}(h:Za5 K H α key kvs ds):kvs.length=ds.length:=by
 obtain⟨es,rfl,hr⟩:=h
 have:=hr.length
 rw[aC]at this;simp[this]
theorem ZgP{kvs:List (κ×V)}{ds:List D}(h:Za5 K H α key kvs ds)(e:Ext K H H' α α'):Za5 K H' α' key kvs ds:=by
 obtain⟨es,h1,h2⟩:=h;exact⟨es,h1,Reps.mono e h2⟩
end
noncomputable def ZrY(K:Fg)(H:Hp)(α:List Addr)(o:Option D)(ov:Option V):Prop:=match o with|none=>ov=none|some d=>∃u,ov=some u/\Rep K H α u d
theorem ZtJ(h:a+64<b):a+1<b:=⋯
def ZdZ(M:Sto)(x k:D):Option (Option D):=match x with
 |.dk n=>(match kK k,M[n]? with|some kk,some (.lst ds)=>some (ZeI kK kk ds)|_,_=>none)
 |.dt n=>(match kT k,M[n]? with|some kk,some (.lst ds)=>some (ZeI kT kk ds)|_,_=>none)
 |_=>none
section
variable {X:Cx}{α:List Addr}
theorem Zil(r:Rep X.K H α v d)(e:kK d=some k):v=kV k:=by
 cases r with
 |int i=>cases e;rfl
 |str x=>cases e;rfl
 |_=>cases e
theorem Zkh(h9:Reps X.K H α vs ds):kKs ds=some ks->vs=ks.map kV:=by
 induction ds generalizing vs ks with
 |nil=>intro e;cases h9;cases e;rfl
 |cons d ds ih9=>
  intro e;cases h9 with
  |cons r t=>
   unfold kKs at e
   split at e
   .rename_i k ks' e1 e2;cases e;rw[aN,Zil r e1,ih9 t e2]
   .cases e
theorem Zim(h:HR X.K H α M)(r:Rep X.K H α v x)(rk:Rep X.K H α w k)(e:ZdZ M x k=some o):∃a ov,v=.ref a/\ZnK H a w ov/\IsD H a/\ZrY X.K H α o ov:=by
 cases r with
 |@dk p n hp=>
  simp only[ZdZ]at e
  split at e
  .rename_i kk ds e1 e2;cases e;obtain⟨kvs,es,g1,g2,ed⟩:∃kvs es,Rd H p (.dK kvs)/\Reps X.K H α (kvs.map (·.2)) es/\ZeI kK kk ds=ZeI kK kk (bJ (λkv e=>D.tup [ZjS kv.1,e]) kvs es):=by
    rcases h.atK hp e2 with⟨kvs,g1,es,rfl,g2⟩|⟨o,kvs,_,g1,rfl,es,rfl,g2⟩
    .exact⟨kvs,es,.inl g1,g2,rfl⟩
    .exact⟨kvs,es,.inr ⟨o,g1⟩,g2,rfl⟩
   rw[ed];have pv:=Zdd Zij kk g2;refine⟨p,Zfa kvs kk,rfl,.inl ⟨kvs,kk,g1,Zil rk e1,rfl⟩,.inl ⟨kvs,g1⟩,?_⟩;unfold ZrY;exact pv
  .cases e
 |@dt p n hp=>
  simp only[ZdZ]at e
  split at e
  .rename_i kk ds e1 e2;cases e;obtain⟨kvs,es,g1,g2,ed⟩:∃kvs es,Rd H p (.dT kvs)/\Reps X.K H α (kvs.map (·.2)) es/\ZeI kT kk ds=ZeI kT kk (bJ (λkv e=>D.tup [Zfd kv.1,e]) kvs es):=by
    rcases h.atT hp e2 with⟨kvs,g1,es,rfl,g2⟩|⟨o,kvs,_,g1,rfl,es,rfl,g2⟩
    .exact⟨kvs,es,.inl g1,g2,rfl⟩
    .exact⟨kvs,es,.inr ⟨o,g1⟩,g2,rfl⟩
   rw[ed];have pv:=Zdd Zkg kk g2;cases rk with
   |@tup b xs ds' hb rb=>
    refine⟨p,Zfa kvs kk,rfl,.inr ⟨kvs,kk,b,g1,rfl,by rw[hb,Zkh rb e1],rfl⟩,.inr ⟨kvs,g1⟩,?_⟩
    unfold ZrY;exact pv
   |_=>cases e1
  .cases e
 |_=>cases e
end
def ZnM:Bo:=λx k M=>match ZdZ M x k with|some (some d)=>.ok d M|_=>.bad
theorem ZmG(hu:X.A.units+64<gU)(ho:DE X ξ o fo)(hi:DE X ξ i fi)(hs:ZrP i:=by exact λ_ _=>rfl):DE X ξ (.Subscript o i pos) (e2 ZnM fo fi):=by
 obtain⟨to,po,qo⟩:=ho;obtain⟨ti,pi,qi⟩:=hi;refine⟨_,Zmh (ZtJ hu) po pi hs,λσ ρ H α M Q s h q=>?_⟩;refine qo σ ρ H α M _ s h (OG.seq q λx M1 v H1 α1 e1 h1 r1 q1=>?_);refine qi σ ρ H1 α1 M1 _ (s.mono e1) h1 (OG.seq q1 λy M2 w H2 α2 e2 h2 r2 q2=>?_);unfold ZnM at q2;cases eg:ZdZ M2 x y with
 |none=>rw[eg]at q2;exact q2.elim
 |some oo=>
  cases oo with
  |none=>rw[eg]at q2;exact q2.elim
  |some d=>
   rw[eg]at q2;obtain⟨a,ov,g1,g2,_,u,rfl,g4⟩:=Zim h2 (Rep.mono e2 r1) r2 eg;exact⟨a,u,g1,g2,q2 u H2 α2 Ext.refl h2 g4⟩
def ZtK(neg:Bool):R2:=λv w H Q=>∃a o,w=.ref a/\ZnK H a v o/\Q (.bl (neg ^^ o.isSome)) H
def ZnN(neg:Bool):Bo:=λk x M=>match ZdZ M x k with|some o=>.ok (.bl (neg ^^ o.isSome)) M|none=>.bad
theorem Zin(hu:X.A.units+64<gU):OpR X (cB .NotIn) (ZtK true):=by
 intro pins s σ H x y v u Q I rx ry hz;obtain⟨a,ov,e1,g,q⟩:=hz;subst e1;cases(show u=aA a from ry);exact Zme (ZtJ hu) I g rx λs' I'=>⟨.bl (!ov.isSome),H,I',rfl,by simpa using q⟩
theorem Zpb:BO X ξ (ZtK neg) (ZnN neg):=by
 intro H α M v w x y Q h r1 r2 q;unfold ZnN at q;cases eg:ZdZ M y x with
 |none=>rw[eg]at q;exact q.elim
 |some oo=>
  rw[eg]at q;obtain⟨a,ov,g1,g2,_,g4⟩:=Zim h r2 r1 eg;have es:ov.isSome=oo.isSome:=by
   cases oo with
   |none=>rw[show ov=none from g4];rfl
   |some d=>obtain⟨u,rfl,_⟩:=g4;rfl
  exact⟨a,ov,g1,g2,by rw[es];exact q _ H α Ext.refl h (.bl _)⟩
end DL
namespace DL
open PyProof.Rows L2
end DL
namespace DL
open PyProof.Rows L2
section
variable {e2:Expr}{es:List Expr}
def eFm(f:Ev):Ev:=λρ M=>(f ρ M).bind λx M1=>match x with
 |.int i=>if i.natAbs.log2<1900 then .ok (.str (aB (toString i))) M1 else .bad
 |.str y=>if y.length<=100000 then .ok (.str y) M1 else .bad
 |_=>.bad
theorem Zki(ha:DE X ξ e f):DE X ξ (.FormattedValue e (-1) none pos) (eFm f):=by
 obtain⟨ta,pa,qa⟩:=ha;refine⟨λσ H Q=>ta σ H λx H1=>(∃i,x=.int i/\i.natAbs.log2<1900/\Q (.str (aB (toString i))) H1)\/∃y,x=.str y/\y.length<=100000/\Q (.str y) H1,λpins s σ H Q I h=>?_,λσ ρ H α M Q s h q=>?_⟩
 .refine wpAny_FormattedValue_plain (wpAny_mono (pa pins s σ H _ I h) (λv s1 hz=>?_) λ_ _ z=>z);obtain⟨x,H1,I1,r1,q1⟩:=hz;rcases q1 with⟨i,rfl,hi,q⟩|⟨y,rfl,hy,q⟩
  .obtain⟨t,rfl⟩:=r1;exact jp ⋯ ⟨.str (aB (toString i)),H1,I1.tok _,⟨_,rfl⟩,q⟩
  .obtain⟨t,rfl⟩:=r1;exact jq ⟨.str y,H1,I1,⟨_,rfl⟩,q⟩ ⟨.str y,H1,I1.tok _,⟨_,rfl⟩,q⟩ (aQ hy (by rw[c9];decide))
 .refine qa σ ρ H α M _ s h (OG.seq q λx M1 v H1 α1 e1 h1 r1 q1=>?_);cases r1 with
  |int i=>
   by_cases hi:i.natAbs.log2<1900
   .simp only[hi,if_true]at q1;exact .inl ⟨i,rfl,hi,q1 _ H1 α1 Ext.refl h1 (.str _)⟩
   .simp only[hi,if_false]at q1;exact q1.elim
  |str y=>
   by_cases hi:y.length<=100000
   .simp only[hi,if_true]at q1;exact .inr ⟨y,rfl,hi,q1 _ H1 α1 Ext.refl h1 (.str _)⟩
   .simp only[hi,if_false]at q1;exact q1.elim
  |_=>exact q1.elim
abbrev Jv:=Str->Ro->Sto->Out Str
def PJ(X:Cx)(es:List Expr)(t:L2.St->Hp->Str->(Str->Hp->Prop)->Prop):Prop:=
 ∀(pins:Pn)(s:az)(σ:L2.St)(H:Hp)(acc:Str)(Q:Str->Hp->Prop),Inv X pins σ H s->t σ H acc Q->Joins (ae X.prog X.w) X.A X.xe (evalEach es X.env) acc (λout s1=>out.length<=100000/\∃H',Inv X pins σ H' s1/\Q out H') s
def DJ(X:Cx)(ξ:XK)(es:List Expr)(g:Jv):Prop:=∃t,PJ X es t/\∀σ ρ H α M acc (Q:Str->Hp->Prop),SR X.K H α σ ρ->HR X.K H α M->OG X.K (λ_ _ v d=>v=d) H α ξ Q (g acc ρ M)->t σ H acc Q
noncomputable def jNil:Jv:=λacc _ M=>if acc.length<=100000 then .ok acc M else .bad
def ZbZ(f:Ev)(g:Jv):Jv:=λacc ρ M=>(f ρ M).bind λx M1=>match x with
 |.str y=>if(acc++y).length<=100000 then g (acc++y) ρ M1 else .bad
 |_=>.bad
def eFs(g:Jv):Ev:=λρ M=>(g jV ρ M).bind λx M1=>.ok (.str x) M1
theorem Zio:DJ X ξ [] jNil:=by
 refine⟨λσ H acc Q=>acc.length<=100000/\Q acc H,λpins s σ H acc Q I h=>⟨h.1,H,I,h.2⟩,λσ ρ H α M acc Q s h q=>?_⟩;unfold jNil at q;by_cases hl:acc.length<=100000
 .rw[if_pos hl]at q;exact⟨hl,q acc H α Ext.refl h rfl⟩
 .rw[if_neg hl]at q;exact q.elim
theorem Zbc(ha:DE X ξ e f)(hr:DJ X ξ es g):DJ X ξ (e::es) (ZbZ f g):=by
 obtain⟨ta,pa,qa⟩:=ha;obtain⟨tr,pr',qr⟩:=hr;refine⟨λσ H acc Q=>ta σ H λx H1=>∃y,x=.str y/\(acc++y).length<=100000/\tr σ H1 (acc++y) Q,λpins s σ H acc Q I h=>?_,λσ ρ H α M acc Q s h q=>?_⟩
 .show wpAny _ _ (eval e X.env) _ _ s;refine wpAny_mono (pa pins s σ H _ I h) (λv s1 hz=>?_) λ_ _ z=>z;obtain⟨x,H1,I1,r1,q1⟩:=hz;obtain⟨y,rfl,hy,q⟩:=q1;obtain⟨t,rfl⟩:=r1;exact⟨y,t,rfl,aQ hy (by rw[c9];decide),pr' pins s1 σ H1 (acc++y) Q I1 q⟩
 .refine qa σ ρ H α M _ s h (OG.seq q λx M1 v H1 α1 e1 h1 r1 q1=>?_);cases r1 with
  |str y=>
   by_cases hi:(acc++y).length<=100000
   .simp only[hi,if_true]at q1;exact⟨y,rfl,hi,qr σ ρ H1 α1 M1 (acc++y) Q (s.mono e1) h1 q1⟩
   .simp only[hi,if_false]at q1;exact q1.elim
  |_=>exact q1.elim
theorem ZmH(h:DJ X ξ (e1::e2::es) g):DE X ξ (.JoinedStr (e1::e2::es) pos) (eFs g):=by
 obtain⟨t,pj,qj⟩:=h;refine⟨λσ H Q=>t σ H jV λx H1=>Q (.str x) H1,λpins s σ H Q I h=>?_,λσ ρ H α M Q s h q=>?_⟩
 .refine wpAny_JoinedStr ?_
  have:=pj pins s σ H jV _ I h
  have mono:∀(ms:List (Sem aa)) (acc:Str) (P R:Str->az->Prop) (s:az),(∀o s,P o s->R o s)->Joins (ae X.prog X.w) X.A X.xe ms acc P s->Joins (ae X.prog X.w) X.A X.xe ms acc R s:=by
   intro ms
   induction ms with
   |nil=>intro acc P R s hp hj;exact hp _ _ hj
   |cons m r ih=>
    intro acc P R s hp hj;exact wpAny_mono hj (λv s1 ⟨y,t,e,l,k⟩=>⟨y,t,e,l,ih _ P R s1 hp k⟩) λ_ _ z=>z
  refine mono _ _ _ _ s (λo s1 hz=>?_) this;obtain⟨hl,H',I',q⟩:=hz;exact⟨aQ hl (by rw[c9];decide),.str o,H',I'.tok _,⟨_,rfl⟩,q⟩
 .refine qj σ ρ H α M jV _ s h (OG.seq q λx M1 v H1 α1 e1 h1 r1 q1=>?_);cases r1;exact q1 _ H1 α1 Ext.refl h1 (.str x)
end
end DL
namespace DL
open PyProof.Rows L2
theorem ZgQ{o:Out β}{f:β->Sto->Out γ}{g:γ->Sto->Fl}:Zbh (o.bind f) g=Zbh o λx M=>Zbh (f x M) g:=by cases o<;>rfl
theorem ZmI(iv:Nat)(hN:X.N.Nodup)(B:Blk X scope cl N k fr)(hi:DI X ξ tg iter fi)(h:Blk X scope cl N k fr->∀C fp s H,DG (blk X scope cl N C fp s H) tg gt/\DC (blk X scope cl N C fp s H) ifs c/\DE (blk X scope cl N C fp s H) E0 elt f)(hiv:autoParam (X.N[iv]?=some x) Qrf._auto_1)(hxl:Loc X.env.scope x:=by first|exact bZ rfl|exact i3 rfl)(hm:autoParam (X.may iv=true) Qrf._auto_1)(hsw:autoParam (hU (.ListComp elt [⟨tg,iter,ifs,0⟩] scope pos) (some (.Name x pos')) spos.line X.env=pure true) Qrf._auto_1)(hf:X.fn x=true\/X.env.scope.names.lookup x=some .local:=by first|exact .inl rfl|exact .inr rfl|assumption)(hs:autoParam (∀x,cG iter X.env x=pure x) Qin._auto_1):DS X ξ (.Assign [.Name x pos'] (.ListComp elt [⟨tg,iter,ifs,0⟩] scope pos) spos) (Zan (gNm iv) (ZaP fi k fr gt c f)):=by
 rw[ZfY];obtain⟨wi,pi,qi⟩:=hi;refine⟨λDn σ H=>∃ρ α M,SR X.K H α σ ρ/\HR X.K H α M/\FP X.K H α ξ Dn (Zan (gNm iv) (ZdG fi k fr gt c (gEm f)) ρ M),?_,λσ ρ H α M Dn s h q=>⟨ρ,α,M,s,h,q⟩⟩;rintro pins s σ H Dn I ⟨ρ,α,M,sr,hr,op⟩;rw[exec_Assign_Name_used _ _ _ _ hsw];refine Wb (wpAny_standAt (Wb ?_));show wpAny _ X.A (do let _ <-comprehension (.ListComp elt [⟨tg,iter,ifs,0⟩] scope pos) scope X.env _ (newList []) false (eval iter X.env) (some (assign (.Name x pos') X.env))) _ _ s
 unfold Zan ZdG at op;rw[ZgQ]at op;refine Wb (wpAny_mono (ZfX (P:=λ_ s'=>SP X pins Dn .next s') (g:=gEm f) B pi (λC fp s H=>(h B C fp s H).1) (λC fp s H=>(h B C fp s H).2.1) (ZfV elt tg iter ifs scope pos) (λC fp s H D n0 it=>ZeC (λ_ _ z=>z) (h B C fp s H).2.2) hs sr I (qi σ ρ H α M _ sr hr (FP.seq op λsrc M1 J H1 α1 e1 h1 r1 q1=>?_))) (λ_ s' hq=>Wp (Wp hq)) λ_ _ e=>e)
 cases er:Zfg src gt c (gEm f M1.length) (cnt src M1) 0 (roB k fr ρ) (M1++[.lst []])with
 |ok u9 M9=>
  rw[er]at q1;refine⟨α1,M1,src,u9,M9,e1,h1,r1,er,λD C H5 α5 s6 m6 ex5 hr5 aD I7 hm6 nl nc tu=>?_⟩;refine wpAny_assign_Name (Zek (v:=.ref D) I7 hN hiv hxl hm rfl (λs8 I8 hz=>?_) hf);obtain⟨a,sb8,ha⟩:=hz;have nca:C≠a:=by
   rcases ha with e|e
   .rw[e];exact nl
   .intro z;exact nc x (z▸e)
  exact⟨m6,hm6.sameBut sb8 nca,λh' sb=>⟨_,H5,tu _ s8 h' I8 (λb o hb e=>(sb.2 b hb).trans e),q1 _ H5 α5 ex5 hr5 (((sr.mono e1).mono ex5).set iv (.ref aD))⟩⟩
 |_=>rw[er]at q1;exact q1.elim
end DL
namespace DQ
open PyProof.Rows
end DQ
namespace DL
open PyProof.Rows L2
end DL
namespace DL
open PyProof.Rows L2
noncomputable def ZuF:Bo:=λx y M=>match x,y with
 |.ref n,.int k=>match M[n]? with
  |some (.lst xs)=>if(-9223372036854775808<=k/\k<9223372036854775808)/\xs.length*k.toNat<=100000 then .ok (.ref M.length) (M++[.lst (aZ k.toNat xs).flatten])else .bad
  |none=>.bad
 |_,_=>.bad
end DL
namespace DL
open L2
open PySem.W
end DL
namespace DL3
open PyProof.Rows L2 DL
open PySem.Sem (wp)
end DL3
namespace DL4
open PyProof.Rows L2 DL
open PySem.Sem (wp)
end DL4
namespace DLy2
open PyProof.Rows L2 DL
open PySem.Sem (wp)
end DLy2
namespace PySem.SeqAt
open PySem.AutoSeq1 (wpAny_loadPart')
open MeetsSeq MeetsSeq2 MeetsSeq3 SeqRoads2
end PySem.SeqAt
namespace DL
open PyProof.Rows L2
open PySem.SeqAt
noncomputable def ZeK:List D->Option (List Int)
 |[]=>some []
 |.int i::r=>match ZeK r with|some is=>some (i::is)|none=>none
 |_::_=>none
theorem Zip{K:Fg}(h9:Reps K H α vs ds):ZeK ds=some a->vs=a.map V.int:=by
 induction ds generalizing vs a with
 |nil=>intro e;cases h9;cases e;rfl
 |cons d ds ih9=>
  intro e;cases h9 with
  |cons r t=>
   cases r with
   |int i=>
    unfold ZeK at e
    split at e
    .rename_i is e1;cases e;rw[ih9 t e1];rfl
    .cases e
   |_=>cases e
section
variable {H:Hp}{α:List Addr}
theorem Ziq:∀{xs:List V}{us:List aa}{j:Nat}{u:aa},Zaj xs us->us[j]?=some u->∃x,xs[j]?=some x/\Zah x u
 |[],us,j,u,h,e=>by cases h;simp at e
 |x::xs,us,j,u,h,e=>by
  cases h with
  |cons h1 h2=>
   cases j with
   |zero=>simp at e;subst e;exact⟨x,rfl,h1⟩
   |succ j=>simp at e;obtain⟨y,g1,g2⟩:=Ziq h2 e;exact⟨y,by simpa using g1,g2⟩
theorem Zfl{K:Fg}:∀{xs:List V}{ds:List D}{j:Nat}{x:V},Reps K H α xs ds->xs[j]?=some x->∃d,ds[j]?=some d/\Rep K H α x d
 |_,_,j,x,.nil,e=>by simp at e
 |_,_,0,x,.cons r _,e=>by simp at e;subst e;exact⟨_,rfl,r⟩
 |_,_,j+1,x,.cons _ t,e=>by
  obtain⟨d,g1,g2⟩:=Zfl (j:=j) t (by simpa using e)
  exact⟨d,by simpa using g1,g2⟩
end
end DL
namespace PySem
open PySem.Sem (wp)
end PySem
namespace DL
open PyProof.Rows L2
open PySem.SeqAt
end DL
namespace HT
open PyProof.Rows
section
open PySem.SeqAt
open PySem.AutoSeq1 (wpAny_loadPart')
open PySem.MeetsSeq PySem.MeetsSeq2 PySem.MeetsSeq3
end
end HT
namespace DL
open PyProof.Rows L2
end DL
namespace DL
open PyProof.Rows L2
end DL
namespace DL
open PyProof.Rows L2
end DL
namespace DL
open PyProof.Rows L2
end DL
namespace DL
open PyProof.Rows L2 PySem.W
end DL
namespace DL
open PyProof.Rows L2 PySem.W
def ZmJ(lo:Int)(n:Nat):List V:=(ay n).map λ(i:Nat)=>V.int (lo+i)
theorem Zf2(lo:Int):∀(l:List aa)(k:Nat),(∀j v,l[j]?=some v->∃t,v=gB (lo+((k+j:Nat):Int)) t)->Zaj ((List.range' k l.length).map λ(i:Nat)=>V.int (lo+i)) l
 |[],_,_=>.nil
 |x::l,k,h=>by
  rw[aH,List.range'_succ,aN];refine .cons ?_ (Zf2 lo l (k+1) λj v e=>?_)
  .obtain⟨t,e⟩:=h 0 x rfl;exact⟨t,e⟩
  .have:=h (j+1) v e
   rw[show k+1+j=k+(j+1)by lia]
   exact this
theorem Zf3{lo:Int}(hc:X.A.handled=none)(I:Inv X pins σ H s)(h1: -(2^62)<=lo)(h2:lo<2^62)(h3: -(2^62)<=hi)(h4:hi<2^62)(hz:(hi-lo).toNat<=10000000)(q:∀l,H l=none->Q (.ref l) (upd H l (.lst (ZmJ lo (hi-lo).toNat)))):wpAny (ae X.prog X.w) X.A (call (.type "list") [.ref s.heap.objs.size]) (EP X pins σ Q) X.xe {s with heap:=s.heap.push {cls:=.type "range",data:=.fields #[.int lo t,.int hi u,.int 1 v]},toks:=tk}:=by
 have I1:Inv X pins σ H {s with heap:=s.heap.push {cls:=.type "range",data:=.fields #[.int lo t,.int hi u,.int 1 v]},toks:=tk}:=I.kept λb o e=>Hq _ e;have hn:iS lo hi 1=((hi-lo).toNat:Nat):=by rw[rangeSize_one];split<;>lia
 refine call_list_range hc (IsRange.new ..) (small_one h1 h2 h3 h4) hn (aQ hz (by decide)) λh' tk' acc c keep hS hacc=>?_
 have hv:Zaj (ZmJ lo (hi-lo).toNat) acc.toList:=by
  obtain⟨a1,a2⟩:=hacc
  have:=Zf2 lo acc.toList 0 λj v e=>by
   obtain⟨t,e1⟩:=a2 j v (by rw[<-bo];exact e)
   exact⟨t,by rw[e1];simp⟩
  unfold ZmJ;rw[List.range_eq_range',<-a1,<-bf];exact this
 exact⟨.ref _,_,I1.laid (t':=tk') (o:=.lst (ZmJ lo (hi-lo).toNat)) keep (ac _) ⟨by unfold ZmJ;rw[aC,iC];exact aQ hz (by decide),acc.toList,c,hv,by simpa using hS⟩,rfl,q _ (I1.hok.fresh (ac _))⟩
def ZuG(ta:TA):TE:=λσ H Q=>ta σ H λvs H1=>∃j:Int,vs=[.int j]/\ -(2^62)<=j/\j<=10000000/\∀l,H1 l=none->Q (.ref l) (upd H1 l (.lst (ZmJ 0 j.toNat)))
def ZuH(ta:TA):TE:=λσ H Q=>ta σ H λvs H1=>∃i j:Int,vs=[.int i,.int j]/\(-(2^62)<=i/\i<2^62/\ -(2^62)<=j/\j<2^62)/\(j-i).toNat<=10000000/\∀l,H1 l=none->Q (.ref l) (upd H1 l (.lst (ZmJ i (j-i).toNat)))
theorem Zpc(hc:X.A.handled=none)(hm:X.mg "range"=none)(hml:X.mg "list"=none)(ha:PA X [a] ta)(hg:autoParam (Gl X "range") Qrf._auto_1)(hgl:autoParam (Gl X "list") Qrf._auto_1)(hs:autoParam (af [a] X.env=[(false,eval a X.env)]) Qrf._auto_1)(hs':autoParam (af [.Call (.Name "range" p) [a] [] pos] X.env=[(false,eval (.Call (.Name "range" p) [a] [] pos) X.env)]) Qrf._auto_1) :
  PE X (.Call (.Name "list" p0) [.Call (.Name "range" p) [a] [] pos] [] pos0) (ZuG ta):=by
 intro pins s σ H Q I h;refine wpAny_Call_Name_kw (Zb0 I hgl hml Zaw (bA (by
  rw[hs'];refine Calls.spliced_cons (Call_ (Zb0 I hg hm boot_range (bA (thn (ha pos pins s σ H _ I h) λus s1 hz=>?_) hs rfl)));obtain⟨vs,H1,I1,r1,q1⟩:=hz;obtain⟨j,e,q1,q2,q⟩:=q1;subst e;cases r1 with
  |cons r rr=>
   cases rr;obtain⟨t,rfl⟩:=r;exact call_range_1 (Calls.spliced_nil (Zf3 hc I1 ⋯ ⋯ q1 ⋯ ⋯ (by rw[Int.sub_zero];exact q)))) hs' rfl))
theorem Zpd(hc:X.A.handled=none)(hm:X.mg "range"=none)(hml:X.mg "list"=none)(ha:PA X [a,b] ta)(hg:autoParam (Gl X "range") Qrf._auto_1)(hgl:autoParam (Gl X "list") Qrf._auto_1)(hs:autoParam (af [a,b] X.env=[(false,eval a X.env),(false,eval b X.env)]) Qrf._auto_1)(hs2:autoParam (af [b] X.env=[(false,eval b X.env)]) Qrf._auto_1)(hs':autoParam (af [.Call (.Name "range" p) [a,b] [] pos] X.env=[(false,eval (.Call (.Name "range" p) [a,b] [] pos) X.env)]) Qrf._auto_1) :
  PE X (.Call (.Name "list" p0) [.Call (.Name "range" p) [a,b] [] pos] [] pos0) (ZuH ta):=by
 intro pins s σ H Q I h;refine wpAny_Call_Name_kw (Zb0 I hgl hml Zaw (bA (by
  rw[hs'];refine Calls.spliced_cons (Call_ (Zb0 I hg hm boot_range (bA (thn (ha pos pins s σ H _ I h) λus s1 hz=>?_) (by rw[hs,hs2]) (by rw[hs2];rfl))))
  obtain⟨vs,H1,I1,r1,q1⟩:=hz;obtain⟨i,j,e,⟨q1,q2,q3,q4⟩,z,q⟩:=q1;subst e;cases r1 with
  |cons r rr=>
   cases rr with
   |cons r' rr=>
    cases rr;obtain⟨t,rfl⟩:=r;obtain⟨t',rfl⟩:=r';exact call_range_2 (Calls.spliced_nil (Zf3 hc I1 q1 q2 q3 q4 z q))) hs' rfl))
theorem Zd0{K:Fg}{H:Hp}{α:List Addr}{lo:Int}:∀l:List Nat,Reps K H α (l.map λ(i:Nat)=>V.int (lo+i)) (l.map λ(i:Nat)=>D.int (lo+i))
 |[]=>.nil
 |_::l=>.cons (.int _) (Zd0 l)
def Zrl(fs:Av):Ev:=λρ M=>(fs ρ M).bind λds M1=>match ds with
 |[.int j]=>if -(2^62)<=j/\j<=10000000 then .ok (.ref M1.length) (M1++[.lst (ZaO 0 j.toNat)])else .bad
 |_=>.bad
def Zrm(fs:Av):Ev:=λρ M=>(fs ρ M).bind λds M1=>match ds with
 |[.int i,.int j]=>if(-(2^62)<=i/\i<2^62/\ -(2^62)<=j/\j<2^62)/\(j-i).toNat<=10000000 then .ok (.ref M1.length) (M1++[.lst (ZaO i (j-i).toNat)])else .bad
 |_=>.bad
theorem Zpe(hc:X.A.handled=none)(hm:X.mg "range"=none)(hml:X.mg "list"=none)(ha:DA X ξ [a] fs)(hg:autoParam (Gl X "range") Qrf._auto_1)(hgl:autoParam (Gl X "list") Qrf._auto_1)(hs:autoParam (af [a] X.env=[(false,eval a X.env)]) Qrf._auto_1)(hs':autoParam (af [.Call (.Name "range" p) [a] [] pos] X.env=[(false,eval (.Call (.Name "range" p) [a] [] pos) X.env)]) Qrf._auto_1):
  DE X ξ (.Call (.Name "list" p0) [.Call (.Name "range" p) [a] [] pos] [] pos0) (Zrl fs):=by
 obtain⟨ta,pa,qa⟩:=ha;refine⟨_,Zpc hc hm hml pa hg hgl hs hs',λσ ρ H α M Q s hh q=>qa σ ρ H α M _ s hh (OG.seq q λds M1 vs H1 α1 e1 h1 r1 w1=>?_)⟩;cases r1 with
 |nil=>exact w1.elim
 |cons r tz=>
  cases tz with
  |cons _ _=>cases r<;>exact w1.elim
  |nil=>
   cases r with
   |int j=>
    by_cases c: -(2^62)<=j/\j<=10000000
    .simp only[if_pos c]at w1;exact⟨j,rfl,c.1,c.2,λl hl=>w1 _ _ (α1++[l]) (Ext.new hl) (h1.new hl (Zd0 _)) (.ref ⟨h1.last l,Kn.lst Zs⟩)⟩
    .simp only[if_neg c]at w1;exact w1.elim
   |_=>exact w1.elim
theorem Zpf(hc:X.A.handled=none)(hm:X.mg "range"=none)(hml:X.mg "list"=none)(ha:DA X ξ [a,b] fs)(hg:autoParam (Gl X "range") Qrf._auto_1)(hgl:autoParam (Gl X "list") Qrf._auto_1)(hs:autoParam (af [a,b] X.env=[(false,eval a X.env),(false,eval b X.env)]) Qrf._auto_1)(hs2:autoParam (af [b] X.env=[(false,eval b X.env)]) Qrf._auto_1)(hs':autoParam (af [.Call (.Name "range" p) [a,b] [] pos] X.env=[(false,eval (.Call (.Name "range" p) [a,b] [] pos) X.env)]) Qrf._auto_1):
  DE X ξ (.Call (.Name "list" p0) [.Call (.Name "range" p) [a,b] [] pos] [] pos0) (Zrm fs):=by
 obtain⟨ta,pa,qa⟩:=ha;refine⟨_,Zpd hc hm hml pa hg hgl hs hs2 hs',λσ ρ H α M Q s hh q=>qa σ ρ H α M _ s hh (OG.seq q λds M1 vs H1 α1 e1 h1 r1 w1=>?_)⟩
 split at w1
 .rename_i i j;cases r1 with
  |cons r t=>
   cases t with
   |cons r' t=>
    cases t;cases r;cases r';by_cases c:(-(2^62)<=i/\i<2^62/\ -(2^62)<=j/\j<2^62)/\(j-i).toNat<=10000000
    .simp only[if_pos c]at w1;exact⟨i,j,rfl,c.1,c.2,λl hl=>w1 _ _ (α1++[l]) (Ext.new hl) (h1.new hl (Zd0 _)) (.ref ⟨h1.last l,Kn.lst Zs⟩)⟩
    .simp only[if_neg c]at w1;exact w1.elim
 .exact w1.elim
end DL
namespace DL
open PyProof.Rows L2 PySem.W
abbrev IsZ(h:Heap)(z TI TO:Addr)(f0:aa)(f1:Bool):Prop:=
 h.get? z=some {cls:=.type "zip",dict:=none,data:=.fields #[f0,.bool f1,.bool false,.ref TI,.ref TO],slots:= #[]}
section
variable {s:az}
def ZSt(z TI TO i1 i2 l1 l2:Addr)(xs ys:Array aa)(i:Nat)(h:Heap):Prop:=
 ((IsZip h z TI TO .none/\∃a b,IsPair h TO a b)\/∃(T:Addr) (f1:Bool) (oT:Obj),IsZ h z TI TO (fX T) f1/\h.get? T=some oT/\T≠z/\T≠i1/\T≠i2/\oT.cls=.type "tuple")/\IsPair h TI (.ref i1) (.ref i2)/\h.IsListIter i1 l1 i/\h.IsListIter i2 l2 i/\h.IsList l1 xs/\h.IsList l2 ys
theorem ZSt.keep{TI TO:Addr}(st:ZSt z TI TO i1 i2 l1 l2 xs ys i h)(hS:∃o,h.get? S=some o/\o.cls=.type "list")(n1:S≠l1)(n2:S≠l2)(hk:∀c o,c≠S->h.get? c=some o->h'.get? c=some o):ZSt z TI TO i1 i2 l1 l2 xs ys i h':=by
 obtain⟨oS,eS,cS⟩:=hS;have ne:∀{c o},h.get? c=some o->o.cls≠ .type "list"->c≠S:=λe q z=>by subst z;rw[eS]at e;cases e;exact q cS
 obtain⟨st,hTI,h1,h2,hl1,hl2⟩:=st;refine⟨?_,hk _ _ (ne hTI (by simp)) hTI,?_,?_,hl1.at λo e=>hk _ o n1.symm e,hl2.at λo e=>hk _ o n2.symm e⟩
 .rcases st with⟨hz,a,b,hTO⟩|⟨T,f1,oT,hz,hT,t1,t2,t3,t4⟩
  .exact .inl ⟨hk _ _ (ne hz (by simp)) hz,a,b,hk _ _ (ne hTO (by simp)) hTO⟩
  .exact .inr ⟨T,f1,oT,hk _ _ (ne hz (by simp)) hz,hk _ _ (ne hT (by rw[t4];simp)) hT,t1,t2,t3,t4⟩
 .obtain⟨o,e,c,r⟩:=h1;exact⟨o,hk _ _ (ne e (by rw[c];simp)) e,c,r⟩
 .obtain⟨o,e,c,r⟩:=h2;exact⟨o,hk _ _ (ne e (by rw[c];simp)) e,c,r⟩
theorem ZSt.type{TI TO:Addr}(st:ZSt z TI TO i1 i2 l1 l2 xs ys i s.heap):s.TypeIs (.ref z) "zip":=by
 rcases st.1 with⟨hz,_⟩|⟨T,f1,oT,hz,_⟩
 .exact⟨_,hz,rfl⟩
 .exact⟨_,hz,rfl⟩
theorem ZSt.iter{TI TO:Addr}(st:ZSt z TI TO i1 i2 l1 l2 xs ys i s.heap)(h:Q (.ref z) s):wpAny (ae prog w) A (pyIter (.ref z)) Q E s:=by
 have hT:=st.type;refine wpAny_pyIter_slot hT F.slot_zip_iter (dc F.slot_zip_iter hT F.entry_zip_iter ?_ (F.args_zip_iter_1 _));show wpAny _ _ (ret (.ref z)) _ _ s;exact Wp ⟨_,rfl,"zip",_,hT,F.slot_zip_next.lookup,h⟩
end
end DL
namespace DL
open PyProof.Rows L2 PySem.W
end DL
namespace DL
open PyProof.Rows L2
end DL
namespace DL
open PyProof.Rows L2 PySem.W
end DL
namespace DL
open PyProof.Rows L2
def eCV(i:Nat)(tab:List (Str×(W3)))(fs:Av):Ev:=λρ M=>match ρ[i]? with
 |some (some (.fn c))=>(match tab.lookup c with|some F=>(fs ρ M).bind λds M1=>F ds M1|none=>.bad)
 |_=>.bad
def Zrn:List (Str×Ev)->Ro->Sto->Out (List D)
 |[],_,M=>.ok [] M
 | (k,f)::r,ρ,M=>(f ρ M).bind λd M1=>(Zrn r ρ M1).bind λds M2=>.ok (.tup [.str k,d]::ds) M2
def Zpg(kfs:List (Str×Ev)):Ev:=λρ M=>(Zrn kfs ρ (M++[.lst []])).bind λds M1=>match M1[M.length]? with
 |some (.lst [])=>.ok (.dk M.length) (M1.set M.length (.lst ds))
 |_=>.bad
def PR(names:List Str)(K:Fg)(H:Hp)(α:List Addr)(ps:List (V×V))(ds:List D):Prop:=∃kvs:List (Key×V),ps=kvs.map (λkv=>(kV kv.1,kv.2))/\kvs.map (·.1)=names.map gW/\Za5 K H α ZjS kvs ds
def DPs(X:Cx)(ξ:XK)(pos:Pos)(keys:List (Option Expr))(values:List Expr)(kfs:List (Str×Ev)):Prop:=∃trs,PPs X pos keys values trs/\∀σ ρ H α M Q,SR X.K H α σ ρ->HR X.K H α M->OG X.K (PR (kfs.map (·.1)) X.K) H α ξ Q (Zrn kfs ρ M)->ZfM trs σ H Q
theorem ZmK:DPs X ξ pos [] [] []:=⟨[],Zmi,λσ ρ H α M Q s h q=>q [] H α Ext.refl h ⟨[],rfl,rfl,ZeJ⟩⟩
theorem Zcn(hv:DE X ξ v f)(hr:DPs X ξ pos keys values kfs):DPs X ξ pos (some (.Constant (.str k) jj p)::keys) (v::values) ((k,f)::kfs):=by
 obtain⟨tv,pv,qv⟩:=hv;obtain⟨trs,pr,qr⟩:=hr;refine⟨(tC (.str k),tv)::trs,ZjR ZfJ pv pr,λσ ρ H α M Q s h q=>?_⟩;refine qv σ ρ H α M _ s h (OG.seq q λd M1 v H1 α1 e1 h1 r1 w1=>?_);refine qr σ ρ H1 α1 M1 _ (s.mono e1) h1 (OG.seq w1 λds M2 ps H2 α2 e2 h2 r2 w2=>?_);obtain⟨kvs,g1,g2,es,g3,g4⟩:=r2;refine w2 _ H2 α2 Ext.refl h2 ⟨(.inr k,v)::kvs,by rw[g1];rfl,by rw[aN,g2];rfl,d::es,by rw[g3];rfl,.cons (Rep.mono e2 r1) g4⟩
theorem Zkj{kvs:List (Key×V)}(h:k∉kvs.map (·.1)):ZhD kvs k v=kvs++[(k,v)]:=by
 unfold ZhD;rw[if_neg];intro z;obtain⟨x,hx,e⟩:=List.any_eq_true.mp z;exact h (dy.mpr ⟨x,hx,by simpa using e⟩)
theorem ZeL:∀(more kvs:List (Key×V)),((kvs++more).map (·.1)).Nodup->Zc8 kvs more=kvs++more
 |[],kvs,_=>(bR _).symm
 |m::more,kvs,h=>by
  have e:kvs++m::more=(kvs++[m])++more:=by simp
  have hn:m.1∉kvs.map (·.1):=by
   rw[cZ,List.nodup_append]at h;exact λz=>h.2.2 _ z _ (by simp) rfl
  show Zc8 (ZhD kvs m.1 m.2) more=_;rw[Zkj hn,ZeL more _ (by rw[<-e];exact h),<-e]
theorem ZmL(h:DPs X ξ pos keys values kfs)(nd:(kfs.map (·.1)).Nodup)(l15:kfs.length<=15)(hall:autoParam (keys.all (·.isSome)=true) Qrf._auto_1)(hl:autoParam (keys.length=values.length) Qrf._auto_1)(h0:keys≠[]:=by simp)(h15:autoParam (keys.length<=15) Qde._auto_1):DE X ξ (.Dict keys values pos) (Zpg kfs):=by
 obtain⟨trs,pr,qr⟩:=h;refine⟨_,Zmj pr hall hl h0 h15,λσ ρ H α M Q s h q p hp=>?_⟩;have kn:Kn (upd H p (.dK [])) p=some 1:=by unfold Kn;rw[Zs]
 have ex:Ext X.K H (upd H p (.dK [])) α (α++[p]):=Ext.new hp;have h1:HR X.K (upd H p (.dK [])) (α++[p]) (M++[.lst []]):=h.newO hp (.inr (.inl ⟨[],Zs,ZeJ⟩));have rk:RefK (upd H p (.dK [])) (α++[p]) 1 M.length p:=⟨h.last p,kn⟩;refine qr σ ρ _ _ _ _ (s.mono ex) h1 (OG.seq (OG.ext q ex) λds M2 ps H2 α2 e2 h2 r2 w2=>?_);obtain⟨kvs,g1,g2,g3⟩:=r2;have rk2:=e2.get rk
 split at w2
 .rename_i em;rcases h2.atK rk2 em with⟨kv0,k1,k2⟩|⟨_,_,_,_,k2,_⟩
  .have:kv0=[]:=dR (by rw[Zik k2];rfl)
   subst this;refine⟨k1,kvs,g1,?_,?_⟩
   .have:=congrArg gJ g2
    rw[aC,aC,aC]at this;lia
   .have hn:(kvs.map (·.1)).Nodup:=by
     rw[g2];exact kj.map _ (λa b hab z=>hab (gW.inj z)) nd
    rw[ZeL kvs [] (by simpa using hn),je]
    have kn2:Kn (upd H2 p (.dK kvs)) p=some 1:=by unfold Kn;rw[Zs]
    have exw:Ext X.K H2 (upd H2 p (.dK kvs)) α2 α2:=Ext.wrK rk2.kn (λ_ _ z=>by rw[k1]at z;cases z) kn2
    exact w2 _ _ α2 exw (h2.wrO rk2.at' exw (.inr (.inl ⟨kvs,Zs,ZgP g3 exw⟩))) (.dk (exw.get rk2))
  .cases k2
 .exact w2.elim
end DL
namespace DL
open PyProof.Rows L2
noncomputable def ZaR(f:D->Option ca):List D->Option (List ca)
 |[]=>some []
 |d::r=>match f d,ZaR f r with|some a,some b=>some (a::b)|_,_=>none
end DL
namespace DL
open PyProof.Rows L2
end DL
namespace DL
open L2
section
variable {X:Cx}{ξ:XK}{fa fb fc:Ev}
noncomputable def ZmM(f:Ev):Prop:=∀ρ,(∃d,∀M,f ρ M=.ok d M)\/∀M,f ρ M=.bad
theorem Zph:ZmM (eC d):=λ_=>.inl ⟨d,λ_=>rfl⟩
theorem ZrZ{r r':R2}{f g:Bo}(hp:ZmM fb)(hf:BO X ξ r f)(hg:BO X ξ r' g){ta tb tc:TE}(qa:∀σ ρ H α M Q,SR X.K H α σ ρ->HR X.K H α M->OP X.K H α ξ Q (fa ρ M)->ta σ H Q)(qb:∀σ ρ H α M Q,SR X.K H α σ ρ->HR X.K H α M->OP X.K H α ξ Q (fb ρ M)->tb σ H Q)(qc:∀σ ρ H α M Q,SR X.K H α σ ρ->HR X.K H α M->OP X.K H α ξ Q (fc ρ M)->tc σ H Q):∀σ ρ H α M Q,SR X.K H α σ ρ->HR X.K H α M->OP X.K H α ξ Q (Zav (e2 f fa fb) (e2 g fb fc) ρ M)->ZkX r r' ta tb tc σ H Q:=by
 intro σ ρ H α M Q s h q;unfold Zav e2 at q;rcases hp ρ with⟨d,hd⟩|hd
 .have q:OP X.K H α ξ Q ((fa ρ M).bind λx M1=>(fb ρ M1).bind λy M2=>(f x y M2).bind λz M3=>match z with|.bl k=>if k=true then(fc ρ M3).bind λw M4=>g d w M4 else .ok (.bl false) M3|_=>.bad):=by
   simp only[hd,Out.bind]at q ⊢;cases e:fa ρ M with
   |ok x M1=>simp only[e]at q ⊢;exact q
   |exc c M1=>simp only[e]at q ⊢;exact q
   |bad=>simp only[e]at q ⊢;exact q
  refine qa σ ρ H α M _ s h (OG.seq q λx M1 v H1 α1 e1 h1 r1 q1=>?_);rw[hd]at q1;refine qb σ ρ H1 α1 M1 _ (s.mono e1) h1 ?_;rw[hd];intro w H2 α2 e2 h2 r2;have q2:=OG.ext (o:=(f x d M1).bind λz M3=>match z with|.bl k=>if k=true then(fc ρ M3).bind λw M4=>g d w M4 else .ok (.bl false) M3|_=>.bad) q1 e2
  refine hf H2 α2 M1 v w x d _ h2 (Rep.mono e2 r1) r2 (OG.seq q2 λz M3 u H3 α3 e3 h3 r3 q3=>?_);cases r3 with
  |bl k=>
   refine⟨k,rfl,?_⟩;cases k with
   |true=>
    refine ZjL (qc σ ρ H3 α3 M3 _ ((s.mono e1).mono (e2.trans e3)) h3 (OG.seq q3 λw' M4 u' H4 α4 e4 h4 r4 q4=>?_));exact hg H4 α4 M4 w u' d w' Q h4 (Rep.mono (e3.trans e4) r2) r4 q4
   |false=>exact ZjK (q3 _ H3 α3 Ext.refl h3 (.bl false))
  |_=>exact q3.elim
 .simp only[hd]at q;refine qa σ ρ H α M _ s h ?_;cases e:fa ρ M with
  |ok x M1=>rw[e]at q;exact q.elim
  |exc c M1=>rw[e]at q;exact q
  |bad=>rw[e]at q;exact q
theorem Zpi(ho:OpR X (cB op) r)(hf:BO X ξ r f)(ho':OpR X (cB op') r')(hg:BO X ξ r' g)(hp:ZmM fb)(ha:DE X ξ a fa)(hb:DE X ξ b fb)(hc:DE X ξ c fc)(hm:lastMarks [op,op'] [b,c]=false:=by with_unfolding_all rfl):DE X ξ (.Compare a [op,op'] [b,c] pos) (Zav (e2 f fa fb) (e2 g fb fc)):=by
 obtain⟨ta,ha,qa⟩:=ha;obtain⟨tb,hb,qb⟩:=hb;obtain⟨tc,hc,qc⟩:=hc;exact⟨_,ZjD ho ho' ha hb hc hm,ZrZ hp hf hg qa qb qc⟩
end
end DL
namespace DL
open PyProof.Rows L2 PySem.W
end DL
namespace PySem.SeqAt
open MeetsSeq MeetsSeq2 MeetsSeq3 SeqRoads2
end PySem.SeqAt
namespace DL
open PyProof.Rows L2 PySem.W
end DL
namespace ST
open PyProof.Rows
abbrev lt(a b:List Int):Bool:=HT.Zbn a b
def le(a b:List Int):Prop:=lt b a=false
theorem Zir:∀a:List Int,lt a a=false
 |[]=>rfl
 |x::r=>by
  show HT.Zbn (x::r) (x::r)=false;rw[HT.ZaQ,if_pos rfl];exact Zir r
theorem ZmN:∀{a b c:List Int},lt a b=true->lt b c=true->lt a c=true
 |[],[],_,h,_=>by cases h
 |[],_::_,[],_,h=>by cases h
 |[],_::_,_::_,_,_=>rfl
 |_::_,[],_,h,_=>by cases h
 |_::_,_::_,[],_,h=>by cases h
 |x::a,y::b,z::c,h,g=>by
  show HT.Zbn (x::a) (z::c)=true;have h:HT.Zbn (x::a) (y::b)=true:=h;have g:HT.Zbn (y::b) (z::c)=true:=g;rw[HT.ZaQ]at h g ⊢;by_cases e1:x=y
  .subst e1;rw[if_pos rfl]at h;by_cases e2:x=z
   .rw[if_pos e2]at g ⊢;exact ZmN h g
   .rw[if_neg e2]at g ⊢;exact g
  .rw[if_neg e1]at h;have h:=of_decide_eq_true h;by_cases e2:y=z
   .subst e2;rw[if_neg e1];exact decide_eq_true h
   .rw[if_neg e2]at g;have g:=of_decide_eq_true g;rw[if_neg ⋯]
    exact decide_eq_true ⋯
theorem ZeM:∀{a b:List Int},lt a b=false->lt b a=false->a=b
 |[],[],_,_=>rfl
 |[],_::_,h,_=>by cases h
 |_::_,[],_,h=>by cases h
 |x::a,y::b,h,g=>by
  have h:HT.Zbn (x::a) (y::b)=false:=h;have g:HT.Zbn (y::b) (x::a)=false:=g;rw[HT.ZaQ]at h g;by_cases e:x=y
  .subst e;rw[if_pos rfl]at h g;rw[ZeM h g]
  .rw[if_neg e]at h;rw[if_neg (bD e)]at g
   have:=of_decide_eq_false h
   have:=of_decide_eq_false g
   lia
theorem Zde(a:List Int):le a a:=Zir a
theorem ZcB(h:lt a b=true):le a b:=by
 unfold le;cases e:lt b a with
 |false=>rfl
 |true=>have:=ZmN h e;rw[Zir]at this;cases this
theorem ZcU(h:le a b)(g:le b c):le a c:=by
 unfold le at *;cases e:lt c a with
 |false=>rfl
 |true=>
  cases e2:lt b a with
  |true=>rw[e2]at h;cases h
  |false=>
   cases e3:lt a b with
   |true=>rw[ZmN e e3]at g;cases g
   |false=>
    have:=ZeM e3 e2
    subst this;rw[e]at g;cases g
theorem Zfm(h:lt a b=true)(g:le b c):lt a c=true:=by
 cases e:lt a c with
 |true=>rfl
 |false=>have:=ZcU g e;unfold le at this;rw[h]at this;cases this
variable (kf:aK->List Int)
noncomputable def ky(xs:Array aK)(i:Nat):List Int:=match xs[i]? with|some p=>kf p|none=>[]
def Up(xs:Array aK)(n:Nat):Prop:=∀i j,i<=j->j<n->le (ky kf xs i) (ky kf xs j)
def Dn(xs:Array aK)(n:Nat):Prop:=∀i j,i<=j->j<n->le (ky kf xs j) (ky kf xs i)
variable {kf}
theorem Zdf{xs ys:Array aK}{i j:Nat}(h:xs[i]?=ys[j]?):ky kf xs i=ky kf ys j:=by unfold ky;rw[h]
theorem Zis{xs:Array aK}{i j:Nat}(hj:j<=xs.size)(k:Nat):ky kf (iN xs i j ((j-i)/2)) k=if i<=k/\k<j then ky kf xs (i+j-1-k)else ky kf xs k:=by
 have g:=jY (i:=i) hj k;split
 .rename_i c;rw[if_pos c]at g;exact Zdf g
 .rename_i c;rw[if_neg c]at g;exact Zdf g
theorem ZaE{xs:Array aK}{i j:Nat}(hj:j<=xs.size)(hs:∀k,i<=k->k<j->ky kf xs k=ky kf xs (j-1))(k:Nat):ky kf (iN xs i j ((j-i)/2)) k=ky kf xs k:=by
 rw[Zis hj];split
 .rename_i c;rw[hs k c.1 c.2,hs (i+j-1-k) (by omega) (by omega)]
 .rfl
theorem Zpj{xs:Array aK}{p d:Nat}(hp:p<xs.size)(hd:d<=p)(k:Nat):ky kf (bubble xs p d) k=if k=p-d then ky kf xs p else if p-d<k/\k<=p then ky kf xs (k-1)else ky kf xs k:=by
 have g:=getElem?_bubble hp d hd k;by_cases c1:k=p-d
 .rw[if_pos c1]at g ⊢;exact Zdf g
 .rw[if_neg c1]at g ⊢;by_cases c2:p-d<k/\k<=p
  .rw[if_pos c2]at g ⊢;exact Zdf g
  .rw[if_neg c2]at g ⊢;exact Zdf g
end ST
namespace ST
open PyProof.Rows
noncomputable abbrev SM:=StateT bY Sem
noncomputable def Zbr:Bool->aK->Array aK->Nat->Nat->Nat->SM (Option Nat):=sortPriv% PySem.Builtin.gallop
noncomputable def Zd1:Array aK->Array aK->SM (Array aK):=sortPriv% PySem.Builtin.mergeLo
noncomputable def Zd2:Array aK->Array aK->SM (Array aK):=sortPriv% PySem.Builtin.mergeHi
noncomputable def Zdg:Nat->SM Unit:=sortPriv% PySem.Builtin.setMinGallop
noncomputable abbrev ZdI(st:bY)(g:Nat):bY:=kH (kindOf st) (arrOf st) (pendingOf st) g (gL st)
theorem ZbS(g:Nat):Zdg g=modify λs=>ZdI s g:=rfl
theorem ZnO(left:Bool)(q:aK)(xs:Array aK)(b n p:Nat):Zbr left q xs b n p=(do
  let far (i:Nat):SM (Option Bool):=do
   let y <-elem' xs (b+i)
   if left then lt' y q else return (<-lt' q y).map (!·)
  let mut d:=0
  let mut e:=1
  let mut l:=0
  let mut h:=0
  let some rt <-far p|return none
  if rt then
   let top:=n-p
   for _ in [0:n] do
    if e ≥ top then break
    let some go <-far (p+e)|return none
    if !go then break
    d:=e
    e:=2*e+1
   l:=p+d+1
   h:=p+min e top
  else
   let top:=p+1
   for _ in [0:n] do
    if e ≥ top then break
    let some go <-far (p-e)|return none
    if go then break
    d:=e
    e:=2*e+1
   l:=p+1-min e top
   h:=p-d
  for _ in [0:n] do
   if l ≥ h then break
   let c:=l+(h-l)/2
   let some go <-far c|return none
   if go then l:=c+1 else h:=c
  return some h):=rfl
theorem Zfn(i:Nat):mergeAt' i=(do
  let t <-get
  let (some (a,n,pw),some (b,m,_)):=((pendingOf t)[i]?,(pendingOf t)[i+1]?)|lD "internal:list.sort.pending"
  set (eQ t (((pendingOf t).setIfInBounds i (a,n+m,pw)).eraseIdxIfInBounds (i+1)))
  let some k <-Zbr false (<-elem' (arrOf t) b) (arrOf t) a n 0|return false
  let (a,n):=(a+k,n-k)
  if n==0 then return true
  let some m <-Zbr true (<-elem' (arrOf t) (a+n-1)) (arrOf t) b m (m-1)|return false
  if m==0 then return true
  let x:=(arrOf t).extract a b
  let y:=(arrOf t).extract b (b+m)
  let z <-if n<=m then Zd1 x y else Zd2 x y
  modify λt=>kJ t (z.toList.zipIdx.foldl (λo (p,j)=>o.setIfInBounds (a+j) p) (arrOf t))
  return (gL (<-get)).isNone):=rfl
end ST
namespace ST
open PyProof.Rows
theorem Zfo(h:le a b)(g:lt b c=true):lt a c=true:=by
 cases e:lt a c with
 |true=>rfl
 |false=>
  have z:=ZcU (a:=c) (b:=a) (c:=b) e h;unfold le at z;rw[g]at z;cases z
structure Cp(M:Model) (A:cb) (E:Vp) (s:az) (kf:aK->List Int) (G:aK->Prop) (B:bY->Prop):Prop where
 cmp:∀st p q (Q:Option Bool->bY->Prop),B st->G p->G q->Q (some (lt (kf p) (kf q))) st->wpS M A E s (lt' p q) Q st
 gal:∀st g,B st->B (ZdI st g)
 pen:∀st p,B st->B (eQ st p)
 put:∀st xs,B st->xs.Perm (arrOf st)->B (kJ st xs)
 good:∀st,B st->∀p∈(arrOf st).toList,G p
 fail:∀st,B st->gL st=none
def frk(left:Bool)(a c:List Int):Bool:=if left then lt c a else !lt a c
theorem Zkk(h:le c d)(f:frk left a d=true):frk left a c=true:=by
 unfold frk at *;cases left with
 |true=>exact Zfo h f
 |false=>
  have f:(!lt a d)=true:=f;show(!lt a c)=true;rw[dz]at f ⊢;exact ZcU h f
section
variable {prog:bO}{w:cu}{A:cb}{E:Vp}{s:az}{kf:aK->List Int}{G:aK->Prop}{B:bY->Prop}{st:bY}{xs:Array aK}
theorem Zaf(h:xs[i]?=some p)(q:Q p st):wpS (ae prog w) A E s (elem' xs i) Q st:=by
 rw[elem'_eq,h];exact aw q
noncomputable def Gs(G:aK->Prop)(xs:Array aK):Prop:=∀(i:Nat)(p:aK),xs[i]?=some p->G p
section
variable (left:Bool)(q:aK)(xs:Array aK)(b n p:Nat)
noncomputable def ZmO(i:Nat):SM (Option Bool):=do
 let y <-elem' xs (b+i)
 if left then lt' y q else return (<-lt' q y).map (!·)
def gaL(l h:Nat):SM (Option Nat):=do
 let s <-forIn [0:n] ((none,l,h):Option (Option Nat)×Nat×Nat) λ_ s=>
  if s.2.1 ≥ s.2.2 then pure (.done (none,s.2.1,s.2.2))else do
   match <-ZmO left q xs b (s.2.1+(s.2.2-s.2.1)/2)with
   |some go=>if go then pure (.yield (none,s.2.1+(s.2.2-s.2.1)/2+1,s.2.2))else pure (.yield (none,s.2.1,s.2.1+(s.2.2-s.2.1)/2))
   |_=>pure (.done (some none,s.2.1,s.2.2))
 match s.1 with
 |some r=>pure r
 |none=>pure (some s.2.2)
def gaU:SM (Option Nat):=do
 let s <-forIn [0:n] ((none,0,1):Option (Option Nat)×Nat×Nat) λ_ s=>
  if s.2.2 ≥ n-p then pure (.done (none,s.2.1,s.2.2))else do
   match <-ZmO left q xs b (p+s.2.2)with
   |some go=>if !go then pure (.done (none,s.2.1,s.2.2))else pure (.yield (none,s.2.2,2*s.2.2+1))
   |_=>pure (.done (some none,s.2.1,s.2.2))
 match s.1 with
 |some r=>pure r
 |none=>gaL left q xs b n (p+s.2.1+1) (p+min s.2.2 (n-p))
def gaD:SM (Option Nat):=do
 let s <-forIn [0:n] ((none,0,1):Option (Option Nat)×Nat×Nat) λ_ s=>
  if s.2.2 ≥ p+1 then pure (.done (none,s.2.1,s.2.2))else do
   match <-ZmO left q xs b (p-s.2.2)with
   |some go=>if go then pure (.done (none,s.2.1,s.2.2))else pure (.yield (none,s.2.2,2*s.2.2+1))
   |_=>pure (.done (some none,s.2.1,s.2.2))
 match s.1 with
 |some r=>pure r
 |none=>gaL left q xs b n (p+1-min s.2.2 (p+1)) (p-s.2.1)
theorem Zit:Zbr left q xs b n p=(do
  match <-ZmO left q xs b p with
  |some rt=>if rt then gaU left q xs b n p else gaD left q xs b n p
  |_=>pure none):=by kernel_rfl
end
section
variable {left:Bool}{q:aK}{b n p:Nat}{f:Nat->Bool}{Q:Option Nat->bY->Prop}
variable (step:∀{i:Nat}{Q:Option Bool->bY->Prop},i<n->Q (some (f i)) st->wpS (ae prog w) A E s (ZmO left q xs b i) Q st)(dn:∀i j,i<=j->j<n->f j=true->f i=true)(h:∀k,k<=n->(∀i,i<k->f i=true)->(∀i,k<=i->i<n->f i=false)->Q (some k) st)
include step dn h
theorem Zpk{l hh:Nat}(l1:l<=hh)(l2:hh<=n)(a1:∀i,i<l->f i=true)(a2:∀i,hh<=i->i<n->f i=false):wpS (ae prog w) A E s (gaL left q xs b n l hh) Q st:=by
 have up:∀i j,i<=j->j<n->f i=false->f j=false:=λi j ij jn fi=>by
  cases e:f j with
  |false=>rfl
  |true=>rw[dn i j ij jn e]at fi;cases fi
 unfold gaL;refine ao (dO (bV (λx c t=>t=st/\∃l hh,c=(none,l,hh)/\(l<=hh/\hh<=n/\hh-l<=n-x)/\(∀i,i<l->f i=true)/\∀i,hh<=i->i<n->f i=false) (Q:=λc t=>t=st/\∃k,c=(none,k,k)/\k<=n/\(∀i,i<k->f i=true)/\∀i,k<=i->i<n->f i=false) (λx c t _ xn hI=>?_) (λc t hI=>?_) ⟨rfl,l,hh,rfl,⋯,a1,a2⟩) λc t hI=>?_)
 .obtain⟨rfl,l,hh,rfl,⟨c1,c2,c3⟩,b1,b2⟩:=hI;dsimp only;by_cases c:l=hh
  .subst c;rw[if_pos (ac _)];exact aw ⟨rfl,l,rfl,c2,b1,b2⟩
  .rw[if_neg ⋯]
   have hm:l<=l+(hh-l)/2/\l+(hh-l)/2<hh:=⋯
   generalize l+(hh-l)/2=m at *;refine ao (step ⋯ ?_)
   cases z:f m with
   |true=>exact aw ⟨rfl,_,_,rfl,⋯,λi hi=>dn i m ⋯ ⋯ z,b2⟩
   |false=>exact aw ⟨rfl,_,_,rfl,⋯,b1,λi hi hn=>up m i hi hn z⟩
 .obtain⟨rfl,l,hh,rfl,⟨c1,c2,c3⟩,b1,b2⟩:=hI;obtain rfl:l=hh:=⋯
  exact⟨rfl,l,rfl,c2,b1,b2⟩
 .obtain⟨rfl,k,rfl,c2,b1,b2⟩:=hI;exact aw (h k c2 b1 b2)
variable (hp:p<n)
include hp
theorem Zr0(z:f p=true):wpS (ae prog w) A E s (gaU left q xs b n p) Q st:=by
 unfold gaU;refine ao (dO (bV (λx c t=>t=st/\∃d e,c=(none,d,e)/\(d<e/\x<e)/\p+d<n/\f (p+d)=true) (Q:=λc t=>t=st/\∃d e,c=(none,d,e)/\d<e/\p+d<n/\f (p+d)=true/\(n-p<=e\/f (p+e)=false)) (λx c t _ xn hI=>?_) (λc t hI=>?_) ⟨rfl,0,1,rfl,⋯,hp,z⟩) λc t hI=>?_)
 .obtain⟨rfl,d,e,rfl,⟨c1,c2⟩,b1,b2⟩:=hI;dsimp only;by_cases c:e ≥ n-p
  .rw[if_pos c];exact aw ⟨rfl,d,e,rfl,c1,b1,b2,.inl c⟩
  .rw[if_neg c];refine ao (step ⋯ ?_)
   cases y:f (p+e)with
   |true=>exact aw ⟨rfl,e,2*e+1,rfl,⋯,⋯,y⟩
   |false=>exact aw ⟨rfl,d,e,rfl,c1,b1,b2,.inr y⟩
 .obtain⟨rfl,d,e,rfl,⟨c1,c2⟩,b1,b2⟩:=hI;exact⟨rfl,d,e,rfl,c1,b1,b2,.inl ⋯⟩
 .obtain⟨rfl,d,e,rfl,c1,b1,b2,b3⟩:=hI;dsimp only;refine Zpk step dn h ⋯ ⋯ (λi hi=>dn i (p+d) ⋯ b1 b2) λi hi hn=>?_
  rcases b3 with b3|b3
  .lia
  .cases e':f i with
   |false=>rfl
   |true=>rw[dn (p+e) i ⋯ hn e']at b3;cases b3
theorem Zr1(z:f p=false):wpS (ae prog w) A E s (gaD left q xs b n p) Q st:=by
 unfold gaD;refine ao (dO (bV (λx c t=>t=st/\∃d e,c=(none,d,e)/\(d<e/\x<e)/\d<=p/\f (p-d)=false) (Q:=λc t=>t=st/\∃d e,c=(none,d,e)/\d<e/\d<=p/\f (p-d)=false/\(p+1<=e\/f (p-e)=true)) (λx c t _ xn hI=>?_) (λc t hI=>?_) ⟨rfl,0,1,rfl,⋯,⋯,z⟩) λc t hI=>?_)
 .obtain⟨rfl,d,e,rfl,⟨c1,c2⟩,b1,b2⟩:=hI;dsimp only;by_cases c:e ≥ p+1
  .rw[if_pos c];exact aw ⟨rfl,d,e,rfl,c1,b1,b2,.inl c⟩
  .rw[if_neg c];refine ao (step ⋯ ?_)
   cases y:f (p-e)with
   |true=>exact aw ⟨rfl,d,e,rfl,c1,b1,b2,.inr y⟩
   |false=>exact aw ⟨rfl,e,2*e+1,rfl,⋯,⋯,y⟩
 .obtain⟨rfl,d,e,rfl,⟨c1,c2⟩,b1,b2⟩:=hI;exact⟨rfl,d,e,rfl,c1,b1,b2,.inl ⋯⟩
 .obtain⟨rfl,d,e,rfl,c1,b1,b2,b3⟩:=hI;dsimp only;refine Zpk step dn h ⋯ ⋯ (λi hi=>?_) λi hi hn=>?_
  .rcases b3 with b3|b3
   .lia
   .exact dn i (p-e) ⋯ ⋯ b3
  .cases e':f i with
   |false=>rfl
   |true=>rw[dn (p-d) i hi hn e']at b2;cases b2
end
theorem ZbT(C:Cp (ae prog w) A E s kf G B)(hB:B st)(hq:G q)(hg:Gs G xs)(hp:p<n)(hx:b+n<=xs.size)(hu:∀i j,i<=j->j<n->le (ky kf xs (b+i)) (ky kf xs (b+j)))(h:∀k,k<=n->(∀i,i<k->frk left (kf q) (ky kf xs (b+i))=true)->(∀i,k<=i->i<n->frk left (kf q) (ky kf xs (b+i))=false)->Q (some k) st):wpS (ae prog w) A E s (Zbr left q xs b n p) Q st:=by
 have dn:∀i j,i<=j->j<n->frk left (kf q) (ky kf xs (b+j))=true->frk left (kf q) (ky kf xs (b+i))=true:=λi j ij jn fj=>Zkk (hu i j ij jn) fj;have step:∀{i:Nat}{Q:Option Bool->bY->Prop},i<n->Q (some (frk left (kf q) (ky kf xs (b+i)))) st->wpS (ae prog w) A E s (ZmO left q xs b i) Q st:=λ{i Q} hi hQ=>by
  have e:xs[b+i]?=some (xs[b+i]'⋯):=getElem?_pos xs (b+i) ⋯
  have ek:ky kf xs (b+i)=kf (xs[b+i]'⋯):=by unfold ky;rw[e]
  rw[ek]at hQ;unfold ZmO;refine ao (Zaf e ?_);cases left with
  |true=>exact C.cmp st _ _ _ hB (hg _ _ e) hq hQ
  |false=>exact ao (C.cmp st _ _ _ hB hq (hg _ _ e) (aw hQ))
 rw[Zit];refine ao (step hp ?_);cases z:frk left (kf q) (ky kf xs (b+p))with
 |true=>exact Zr0 (f:=λi=>frk left (kf q) (ky kf xs (b+i))) step dn h hp z
 |false=>exact Zr1 (f:=λi=>frk left (kf q) (ky kf xs (b+i))) step dn h hp z
end
end ST
namespace ST
open PyProof.Rows
section
variable {kf:aK->List Int}{x y z:Array aK}{u v:Nat}
theorem ZbL{z:Array aK}:ky kf (z.push p) j=if j=z.size then kf p else ky kf z j:=by
 unfold ky;rw[jX];by_cases c:j=z.size
 .rw[if_pos c,if_pos c]
 .rw[if_neg c,if_neg c]
theorem Z3{x:Array aK}(h:i<x.size):ky kf x i=kf x[i]:=by unfold ky;rw[getElem?_pos x i h]
structure MI(kf:aK->List Int) (x y z:Array aK) (u v:Nat):Prop where
 p:z.toList.Perm (x.toList.take u++y.toList.take v)
 s:Up kf z z.size
 a:∀i,u<=i->i<x.size->∀j,j<z.size->le (ky kf z j) (ky kf x i)
 b:∀i,v<=i->i<y.size->∀j,j<z.size->le (ky kf z j) (ky kf y i)
 lu:u<=x.size
 lv:v<=y.size
theorem MI.sym(h:MI kf x y z u v):MI kf y x z v u:=⟨h.p.trans eE,h.s,h.b,h.a,h.lv,h.lu⟩
theorem Up.push{z:Array aK}(h:Up kf z z.size)(hp:∀j,j<z.size->le (ky kf z j) (kf p)):Up kf (z.push p) (z.push p).size:=by
 intro i j ij hj;rw[d8]at hj;rw[ZbL,ZbL];by_cases c:j=z.size
 .rw[if_pos c];by_cases d:i=z.size
  .rw[if_pos d];exact Zde _
  .rw[if_neg d];exact hp i ⋯
 .rw[if_neg c,if_neg ⋯]
  exact h i j ij ⋯
theorem MI.pushX(h:MI kf x y z u v)(sx:Up kf x x.size)(sy:Up kf y y.size)(hu:u<x.size)(hy:v<y.size->le (ky kf x u) (ky kf y v)):MI kf x y (z.push x[u]) (u+1) v:=by
 refine⟨?_,h.s.push λj hj=>by rw[<-Z3 (kf:=kf) hu];exact h.a u (ac _) hu j hj,λi hi hx j hj=>?_,λi hi hyy j hj=>?_,hu,h.lv⟩
 .rw[eI,List.take_succ,bo,getElem?_pos x u hu];refine(h.p.append_right _).trans ?_;show(x.toList.take u++y.toList.take v++[x[u]]).Perm (x.toList.take u++[x[u]]++y.toList.take v);rw[cU,cU];exact eE.append_left _
 .rw[d8]at hj;rw[ZbL];by_cases c:j=z.size
  .rw[if_pos c,<-Z3 (kf:=kf) hu];exact sx u i ⋯ hx
  .rw[if_neg c];exact h.a i ⋯ hx j ⋯
 .rw[d8]at hj;rw[ZbL];by_cases c:j=z.size
  .rw[if_pos c,<-Z3 (kf:=kf) hu];exact ZcU (hy ⋯) (sy v i hi hyy)
  .rw[if_neg c];exact h.b i hi hyy j ⋯
theorem MI.pushY(h:MI kf x y z u v)(sx:Up kf x x.size)(sy:Up kf y y.size)(hv:v<y.size)(hx:u<x.size->le (ky kf y v) (ky kf x u)):MI kf x y (z.push y[v]) u (v+1):=(h.sym.pushX sy sx hv hx).sym
theorem Zf4{x:Array aK}{u:Nat}(h:u+k<x.size):x.extract u (u+(k+1))=(x.extract u (u+k)).push x[u+k]:=by
 apply eZ.mp;rw[eI,cT,cT,cp,cp,show u+(k+1)-u=k+1 by lia,show u+k-u=k by lia,List.take_succ,ir,bo,getElem?_pos x (u+k) h]
 rfl
theorem MI.chunkX(sx:Up kf x x.size)(sy:Up kf y y.size)(h:MI kf x y z u v):∀k,u+k<=x.size->(∀i,i<k->v<y.size->le (ky kf x (u+i)) (ky kf y v))->MI kf x y (z++x.extract u (u+k)) (u+k) v
 |0,_,_=>by
  have:x.extract u (u+0)= #[]:=by
   apply eZ.mp;rw[cT,cp];simp
  rw[this,fP];exact h
 |k+1,hk,hc=>by
  have ih:=MI.chunkX sx sy h k ⋯ λi hi=>hc i ⋯
  rw[Zf4 ⋯,Array.append_push]
  exact ih.pushX sx sy ⋯ λhv=>hc k ⋯ hv
theorem MI.chunkY(sx:Up kf x x.size)(sy:Up kf y y.size)(h:MI kf x y z u v)(k:Nat)(hk:v+k<=y.size)(hc:∀i,i<k->u<x.size->le (ky kf y (v+i)) (ky kf x u)):MI kf x y (z++y.extract v (v+k)) u (v+k):=(MI.chunkX sy sx h.sym k hk hc).sym
def Md(kf:aK->List Int)(x y out:Array aK):Prop:=out.Perm (x++y)/\Up kf out out.size
theorem MI.md(h:MI kf x y out x.size y.size):Md kf x y out:=by
 refine⟨bT.mpr ?_,h.s⟩
 have:=h.p
 rw[cg (by simp),cg (by simp)]at this
 rw[dL];exact this
theorem MI.fin(sx:Up kf x x.size)(sy:Up kf y y.size)(h:MI kf x y z u v)(he:u=x.size\/v=y.size):Md kf x y (z++x.extract u x.size++y.extract v y.size):=by
 have lu:=h.lu;have lv:=h.lv;have h1:=h.chunkX sx sy (x.size-u) ⋯ λi hi hv=>⋯
 rw[show u+(x.size-u)=x.size by lia]at h1
 have h2:=h1.chunkY sx sy (y.size-v) ⋯ λi hi hu=>⋯
 rw[show v+(y.size-v)=y.size by lia]at h2
 exact h2.md
theorem MI.tail(sx:Up kf x x.size)(sy:Up kf y y.size)(h:MI kf x y z u v)(he:u+1=x.size)(hl:∀i,i<y.size->le (ky kf y i) (ky kf x (x.size-1))):Md kf x y (z++y.extract v y.size++x.extract u x.size):=by
 have lv:=h.lv;have h1:=h.chunkY sx sy (y.size-v) ⋯ λi hi hu=>by
  rw[show u=x.size-1 by lia]
  exact hl _ ⋯
 rw[show v+(y.size-v)=y.size by lia]at h1
 have h2:=h1.chunkX sx sy (x.size-u) ⋯ λi hi hv=>⋯
 rw[show u+(x.size-u)=x.size by lia]at h2
 exact h2.md
end
noncomputable abbrev R7:=Option (Array aK)×Array aK×Nat×Nat×Nat×Nat×Nat
noncomputable abbrev R6:=Option (Array aK)×Array aK×Nat×Nat×Nat×Nat
noncomputable abbrev R5:=Option (Array aK)×Array aK×Nat×Nat×Nat
section
variable (x y:Array aK)
noncomputable abbrev fi(z:Array aK)(u v:Nat):=z++x.extract u x.size++y.extract v y.size
noncomputable abbrev tl(z:Array aK)(u v:Nat):=z++y.extract v y.size++x.extract u x.size
def lo3(z:Array aK)(u v g c d:Nat):SM (ForInStep R7):=do
 let e <-elem' x u
 if u+1+1==x.size then pure (.done (some (tl x y (z.push e) (u+1) v),z.push e,u+1,v,g,c,d))
 else if decide (c<7)&&decide (d<7)then pure (.done (none,z.push e,u+1,v,g,c,d))else pure (.yield (none,z.push e,u+1,v,g,c,d))
def lo2(z:Array aK)(u v g c d:Nat):SM (ForInStep R7):=do
 let e <-elem' y v
 if v+1==y.size then pure (.done (some (fi x y (z.push e) u (v+1)),z.push e,u,v+1,g,c,d))
 else do
  let e2 <-elem' x u
  match <-Zbr true e2 y (v+1) (y.size-(v+1)) 0 with
  |some k=>
   if k>0 then
    if v+1+k==y.size then pure (.done (some (fi x y (z.push e++y.extract (v+1) (v+1+k)) u (v+1+k)),z.push e++y.extract (v+1) (v+1+k),u,v+1+k,g,c,k))
    else lo3 x y (z.push e++y.extract (v+1) (v+1+k)) u (v+1+k) g c k
   else lo3 x y (z.push e) u (v+1) g c k
  |_=>pure (.done (some (fi x y (z.push e) u (v+1)),z.push e,u,v+1,g,c,d))
def lo1(z:Array aK)(u v g c d:Nat):SM (ForInStep R7):=do
 Zdg g
 let e <-elem' y v
 match <-Zbr false e x u (x.size-u) 0 with
 |some k=>
  if k>0 then
   if u+k+1==x.size then pure (.done (some (tl x y (z++x.extract u (u+k)) (u+k) v),z++x.extract u (u+k),u+k,v,g,k,d))
   else if u+k==x.size then pure (.done (some (fi x y (z++x.extract u (u+k)) (u+k) v),z++x.extract u (u+k),u+k,v,g,k,d))
   else lo2 x y (z++x.extract u (u+k)) (u+k) v g k d
  else lo2 x y z u v g k d
 |_=>pure (.done (some (fi x y z u v),z,u,v,g,c,d))
def lo0(g:Nat)(z:Array aK)(u v c d:Nat):SM (ForInStep R6):=do
 let a <-elem' y v
 let b <-elem' x u
 match <-lt' a b with
 |some w=>
  if w then do
   let e <-elem' y v
   if v+1==y.size then pure (.done (some (fi x y (z.push e) u (v+1)),z.push e,u,v+1,0,d+1))
   else if d+1 ≥ g then pure (.done (none,z.push e,u,v+1,0,d+1))else pure (.yield (none,z.push e,u,v+1,0,d+1))
  else do
   let e <-elem' x u
   if u+1+1==x.size then pure (.done (some (tl x y (z.push e) (u+1) v),z.push e,u+1,v,c+1,0))
   else if c+1 ≥ g then pure (.done (none,z.push e,u+1,v,c+1,0))else pure (.yield (none,z.push e,u+1,v,c+1,0))
 |_=>pure (.done (some (fi x y z u v),z,u,v,c,d))
def loA(z:Array aK)(u v g:Nat):SM (ForInStep R5):=do
 let s <-forIn [0:x.size+y.size] ((none,z,u,v,0,0):R6) λ_ s=>lo0 x y g s.2.1 s.2.2.1 s.2.2.2.1 s.2.2.2.2.1 s.2.2.2.2.2
 match s.1 with
 |some r=>pure (.done (some r,s.2.1,s.2.2.1,s.2.2.2.1,g))
 |none=>do
  liftM (PySem.rule "list.sort.gallop")
  let t <-forIn [0:x.size+y.size] ((none,s.2.1,s.2.2.1,s.2.2.2.1,g+1,s.2.2.2.2.1,s.2.2.2.2.2):R7) λ_ s=>
   if s.2.2.2.2.1>1 then lo1 x y s.2.1 s.2.2.1 s.2.2.2.1 (s.2.2.2.2.1-1) s.2.2.2.2.2.1 s.2.2.2.2.2.2 else lo1 x y s.2.1 s.2.2.1 s.2.2.2.1 s.2.2.2.2.1 s.2.2.2.2.2.1 s.2.2.2.2.2.2
  match t.1 with
  |some r=>pure (.done (some r,t.2.1,t.2.2.1,t.2.2.2.1,t.2.2.2.2.1))
  |none=>do
   Zdg (t.2.2.2.2.1+1)
   pure (.yield (none,t.2.1,t.2.2.1,t.2.2.2.1,t.2.2.2.2.1+1))
theorem Zr2:Zd1 x y=(do
  liftM (PySem.rule "list.sort.merge-lo")
  let e <-elem' y 0
  if 1==y.size then pure (fi x y #[e] 0 1)
  else if 0+1==x.size then pure (tl x y #[e] 0 1)
  else do
   let st <-get
   let s <-forIn [0:x.size+y.size] ((none,#[e],0,1,gallopOf st):R5) λ_ s=>loA x y s.2.1 s.2.2.1 s.2.2.2.1 s.2.2.2.2
   match s.1 with
   |some r=>pure r
   |none=>liftM (lD "internal:list.sort.merge-bound":Sem _)):=by
 kernel_rfl
end
section
variable {prog:bO}{w:cu}{A:cb}{E:Vp}{s:az}{kf:aK->List Int}{G:aK->Prop}{B:bY->Prop}{st:bY}{x y z:Array aK}{u v g c d:Nat}
def En(R:ForInStep R7->bY->Prop)(st:bY)(kf:aK->List Int)(x y:Array aK)(N:Nat):Prop:=
 (∀out r,Md kf x y out->R (.done (some out,r)) st)/\∀z u v g c d,MI kf x y z u v->u+1<x.size->v<y.size->N<=u+v->R (.done (none,z,u,v,g,c,d)) st/\R (.yield (none,z,u,v,g,c,d)) st
section
variable {R:ForInStep R7->bY->Prop}{N:Nat}(q:En R st kf x y N)(sx:Up kf x x.size)(sy:Up kf y y.size)(hl:∀i,i<y.size->le (ky kf y i) (ky kf x (x.size-1)))(hI:MI kf x y z u v)(hu:u+1<x.size)(hv:v<y.size)
include q sx sy hl hI hu hv
theorem Zpl(hle:le (ky kf x u) (ky kf y v))(hN:N<=u+v+1):wpS (ae prog w) A E s (lo3 x y z u v g c d) R st:=by
 have hu':u<x.size:=⋯
 unfold lo3;refine ao (Zaf (getElem?_pos x u hu') ?_);have m1:=hI.pushX sx sy hu' λ_=>hle;by_cases c1:u+1+1=x.size
 .rw[if_pos (by simpa using c1)]
  exact aw (q.1 _ _ (m1.tail sx sy c1 hl))
 .rw[if_neg (by simpa using c1)]
  have q:=q.2 _ _ _ g c d m1 ⋯ hv ⋯
  split
  .exact aw q.1
  .exact aw q.2
variable (C:Cp (ae prog w) A E s kf G B)(hB:B st)(gx:Gs G x)(gy:Gs G y)
include C hB gx gy
theorem Zpm(hlt:le (ky kf y v) (ky kf x u))(hN:N<=u+v+2):wpS (ae prog w) A E s (lo2 x y z u v g c d) R st:=by
 have hu':u<x.size:=⋯
 unfold lo2;refine ao (Zaf (getElem?_pos y v hv) ?_);have m1:=hI.pushY sx sy hv λ_=>hlt;by_cases c1:v+1=y.size
 .rw[if_pos (by simpa using c1)]
  exact aw (q.1 _ _ (m1.fin sx sy (.inr c1)))
 rw[if_neg (by simpa using c1)]
 refine ao (Zaf (getElem?_pos x u hu') (ao (ZbT C hB (gx u _ (getElem?_pos x u hu')) gy ⋯ ⋯ (λi j ij jn=>sy _ _ ⋯ ⋯) λk kn a1 a2=>?_)))
 have a2:v+1+k<y.size->le (ky kf x u) (ky kf y (v+1+k)):=λhk=>by
  have:=a2 k (ac _) ⋯
  rw[<-Z3 (kf:=kf) hu']at this;exact this
 dsimp only;by_cases ck:k>0
 .rw[if_pos ck];have m4:=m1.chunkY sx sy k ⋯ λi hi _=>by
   have:=a1 i hi
   rw[<-Z3 (kf:=kf) hu']at this;exact ZcB this
  by_cases e3:v+1+k=y.size
  .rw[if_pos (by simpa using e3)]
   exact aw (q.1 _ _ (m4.fin sx sy (.inr e3)))
  .rw[if_neg (by simpa using e3)]
   exact Zpl q sx sy hl m4 hu ⋯ (a2 ⋯) ⋯
 .rw[if_neg ck];obtain rfl:k=0:=⋯
  exact Zpl q sx sy hl m1 hu ⋯ (a2 ⋯) ⋯
omit q hB in
theorem Zr3(q:En R (ZdI st g) kf x y N)(hB:B (ZdI st g))(hN:N<=u+v+1):wpS (ae prog w) A E s (lo1 x y z u v g c d) R st:=by
 unfold lo1;rw[ZbS];refine ao (eT (ao (Zaf (getElem?_pos y v hv) (ao (ZbT C hB (gy v _ (getElem?_pos y v hv)) gx ⋯ ⋯ (λi j ij jn=>sx _ _ ⋯ ⋯) λk kn a1 a2=>?_)))))
 have f2:u+k<x.size->le (ky kf y v) (ky kf x (u+k)):=λhn=>by
  have q:=a2 k (ac _) ⋯
  unfold frk at q;rw[if_neg (by simp),iu,<-Z3 (kf:=kf) hv]at q
  exact ZcB q
 dsimp only;by_cases ck:k>0
 .rw[if_pos ck];have mk:=hI.chunkX sx sy k ⋯ λi hi _=>by
   have q:=a1 i hi;unfold frk at q;rw[if_neg (by simp),dz,<-Z3 (kf:=kf) hv]at q
   exact q
  by_cases e1:u+k+1=x.size
  .rw[if_pos (by simpa using e1)]
   exact aw (q.1 _ _ (mk.tail sx sy e1 hl))
  rw[if_neg (by simpa using e1)]
  by_cases e2:u+k=x.size
  .rw[if_pos (by simpa using e2)]
   exact aw (q.1 _ _ (mk.fin sx sy (.inl e2)))
  rw[if_neg (by simpa using e2)]
  exact Zpm q sx sy hl mk ⋯ hv C hB gx gy (f2 ⋯) ⋯
 .rw[if_neg ck];obtain rfl:k=0:=⋯
  exact Zpm q sx sy hl hI hu hv C hB gx gy (f2 ⋯) ⋯
end
theorem Zr4(C:Cp (ae prog w) A E s kf G B)(hB:B st)(gx:Gs G x)(gy:Gs G y)(sx:Up kf x x.size)(sy:Up kf y y.size)(hl:∀i,i<y.size->le (ky kf y i) (ky kf x (x.size-1)))(hI:MI kf x y z u v)(hu:u+1<x.size)(hv:v<y.size)(q1:∀out r,Md kf x y out->R (.done (some out,r)) st)(q2:∀z' u' v' c d,MI kf x y z' u' v'->u'+1<x.size->v'<y.size->u+v<=u'+v'->R (.done (none,z',u',v',c,d)) st/\R (.yield (none,z',u',v',c,d)) st):wpS (ae prog w) A E s (lo0 x y g z u v c d) R st:=by
 have hu2:u<x.size:=⋯
 have ex:=getElem?_pos x u hu2;have ey:=getElem?_pos y v hv;unfold lo0;refine ao (Zaf ey (ao (Zaf ex (ao (C.cmp st _ _ _ hB (gy v _ ey) (gx u _ ex) ?_)))));rw[<-Z3 (kf:=kf) hu2,<-Z3 (kf:=kf) hv];dsimp only;cases wn:lt (ky kf y v) (ky kf x u)with
 |true=>
  rw[if_pos rfl];refine ao (Zaf ey ?_);have m1:=hI.pushY sx sy hv λ_=>ZcB wn;by_cases c3:v+1=y.size
  .rw[if_pos (by simpa using c3)]
   exact aw (q1 _ _ (m1.fin sx sy (.inr c3)))
  .rw[if_neg (by simpa using c3)]
   have q:=q2 _ _ _ 0 (d+1) m1 hu ⋯ ⋯
   split
   .exact aw q.1
   .exact aw q.2
 |false=>
  rw[if_neg (by simp)]
  refine ao (Zaf ex ?_);have m1:=hI.pushX sx sy hu2 λ_=>wn;by_cases c3:u+1+1=x.size
  .rw[if_pos (by simpa using c3)]
   exact aw (q1 _ _ (m1.tail sx sy c3 hl))
  .rw[if_neg (by simpa using c3)]
   have q:=q2 _ _ _ (c+1) 0 m1 ⋯ hv ⋯
   split
   .exact aw q.1
   .exact aw q.2
theorem Zr5(C:Cp (ae prog w) A E s kf G B)(hB:B st)(gx:Gs G x)(gy:Gs G y)(sx:Up kf x x.size)(sy:Up kf y y.size)(hl:∀i,i<y.size->le (ky kf y i) (ky kf x (x.size-1)))(hI:MI kf x y z u v)(hu:u+1<x.size)(hv:v<y.size)(q1:∀out r t,B t->arrOf t=arrOf st->pendingOf t=pendingOf st->Md kf x y out->R (.done (some out,r)) t)(q2:∀z' u' v' g t,B t->arrOf t=arrOf st->pendingOf t=pendingOf st->MI kf x y z' u' v'->u'+1<x.size->v'<y.size->u+v<u'+v'->R (.yield (none,z',u',v',g)) t):wpS (ae prog w) A E s (loA x y z u v g) R st:=by
 unfold loA;refine ao (dO (bV (λn r t'=>t'=st/\∃z' u' v' c d,r=(none,z',u',v',c,d)/\(MI kf x y z' u' v'/\u'+1<x.size/\v'<y.size)/\u+v<=u'+v') (Q:=λ(r:R6) t'=>t'=st/\((∃out rr,r=(some out,rr)/\Md kf x y out)\/∃z' u' v' c d,r=(none,z',u',v',c,d)/\(MI kf x y z' u' v'/\u'+1<x.size/\v'<y.size)/\u+v<=u'+v')) (λn r t' _ nn hI=>?_) (λr t' hI=>⟨hI.1,.inr hI.2⟩) ⟨rfl,z,u,v,0,0,rfl,⟨hI,hu,hv⟩,ac _⟩) λr t' hI=>?_)
 .obtain⟨rfl,z',u',v',c,d,rfl,⟨m',hu',hv'⟩,hn'⟩:=hI;dsimp only;exact Zr4 C hB gx gy sx sy hl m' hu' hv' (λout r md=>⟨rfl,.inl ⟨out,r,rfl,md⟩⟩) λz' u' v' c d m h1 h2 h3=>⟨⟨rfl,.inr ⟨_,_,_,_,_,rfl,⟨m,h1,h2⟩,⋯⟩⟩,rfl,_,_,_,_,_,rfl,⟨m,h1,h2⟩,⋯⟩
 obtain⟨rfl,hI⟩:=hI;rcases hI with⟨out,rr,rfl,md⟩|⟨z',u',v',c,d,rfl,⟨m',hu',hv'⟩,hn'⟩
 .exact aw (q1 _ _ _ hB rfl rfl md)
 refine ao (iU (cN ⟨rfl,ao (dO (bV (λn r t=>(B t/\arrOf t=arrOf t'/\pendingOf t=pendingOf t')/\∃z u v g c d,r=(none,z,u,v,g,c,d)/\(MI kf x y z u v/\u+1<x.size/\v<y.size)/\u'+v'+n<=u+v) (Q:=λ(r:R7) t=>(B t/\arrOf t=arrOf t'/\pendingOf t=pendingOf t')/\((∃out rr,r=(some out,rr)/\Md kf x y out)\/∃z u v g c d,r=(none,z,u,v,g,c,d)/\(MI kf x y z u v/\u+1<x.size/\v<y.size)/\u'+v'+1<=u+v)) (λn r t _ nn hI=>?_) (λr t hI=>?_) ⟨⟨hB,rfl,rfl⟩,z',u',v',g+1,c,d,rfl,⟨m',hu',hv'⟩,⋯⟩) λr t hI=>?_)⟩))
 .obtain⟨⟨d1,d2,d3⟩,z,u,v,g,c,d,rfl,⟨m,hu,hv⟩,hn⟩:=hI;dsimp only
  split<;>exact Zr3 sx sy hl m hu hv C gx gy (N:=u+v+1) ⟨λout r md=>⟨⟨C.gal t _ d1,d2,d3⟩,.inl ⟨out,r,rfl,md⟩⟩,λz' u' v' g c d m h1 h2 h3=>⟨⟨⟨C.gal t _ d1,d2,d3⟩,.inr ⟨_,_,_,_,_,_,rfl,⟨m,h1,h2⟩,⋯⟩⟩,⟨C.gal t _ d1,d2,d3⟩,_,_,_,_,_,_,rfl,⟨m,h1,h2⟩,⋯⟩⟩ (C.gal t _ d1) (ac _)
 .obtain⟨hs,z,u,v,g,c,d,rfl,iv,hn⟩:=hI;exact⟨hs,.inr ⟨z,u,v,g,c,d,rfl,iv,⋯⟩⟩
 obtain⟨⟨d1,d2,d3⟩,hI⟩:=hI;rcases hI with⟨out,rr,rfl,md⟩|⟨z,u,v,g,c,d,rfl,⟨m,h1,h2⟩,hn2⟩
 .exact aw (q1 _ _ _ d1 d2 d3 md)
 .dsimp only;rw[ZbS];exact ao (eT (aw (q2 _ _ _ _ _ (C.gal t _ d1) d2 d3 m h1 h2 ⋯)))
theorem ZuI(C:Cp (ae prog w) A E s kf G B)(hB:B st)(gx:Gs G x)(gy:Gs G y)(sx:Up kf x x.size)(sy:Up kf y y.size)(x1:1<=x.size)(y1:1<=y.size)(h0:le (ky kf y 0) (ky kf x 0))(hl:∀i,i<y.size->le (ky kf y i) (ky kf x (x.size-1)))(h:∀out t,B t->arrOf t=arrOf st->pendingOf t=pendingOf st->Md kf x y out->Q out t):wpS (ae prog w) A E s (Zd1 x y) Q st:=by
 rw[Zr2];refine ao (iU (cN ⟨rfl,ao (Zaf (getElem?_pos y 0 y1) ?_)⟩));have m0:MI kf x y #[y[0]] 0 1:=by
  have e:MI kf x y #[] 0 0:=⟨by simp,λi j ij hj=>by simp at hj,λ_ _ _ j hj=>by simp at hj,λ_ _ _ j hj=>by simp at hj,⋯,⋯⟩
  exact e.pushY sx sy y1 λ_=>h0
 by_cases c1:1=y.size
 .rw[if_pos (by simpa using c1)]
  exact aw (h _ st hB rfl rfl (m0.fin sx sy (.inr c1)))
 rw[if_neg (by simpa using c1)]
 by_cases c2:0+1=x.size
 .rw[if_pos (by simpa using c2)]
  exact aw (h _ st hB rfl rfl (m0.tail sx sy c2 hl))
 rw[if_neg (by simpa using c2)]
 refine ao (hJ (ao (dO (bV (λn r t=>(B t/\arrOf t=arrOf st/\pendingOf t=pendingOf st)/\∃z u v g,r=(none,z,u,v,g)/\(MI kf x y z u v/\u+1<x.size/\v<y.size)/\n+1<=u+v) (Q:=λ(r:R5) t=>(B t/\arrOf t=arrOf st/\pendingOf t=pendingOf st)/\∃out rr,r=(some out,rr)/\Md kf x y out) (λn r t _ nn hI=>?_) (λr t hI=>?_) ⟨⟨hB,rfl,rfl⟩,_,_,_,_,rfl,⟨m0,⋯,⋯⟩,⋯⟩) λr t hI=>?_)))
 .obtain⟨⟨b1,b2,b3⟩,z,u,v,g,rfl,⟨m,hu,hv⟩,hn⟩:=hI;dsimp only;exact Zr5 C b1 gx gy sx sy hl m hu hv (λout r t d1 d2 d3 md=>⟨⟨d1,d2.trans b2,d3.trans b3⟩,out,r,rfl,md⟩) λz' u' v' g t d1 d2 d3 m h1 h2 h3=>⟨⟨d1,d2.trans b2,d3.trans b3⟩,_,_,_,_,rfl,⟨m,h1,h2⟩,⋯⟩
 .obtain⟨_,z,u,v,g,rfl,⟨m,hu,hv⟩,hn⟩:=hI;lia
 .obtain⟨⟨b1,b2,b3⟩,out,rr,rfl,md⟩:=hI;exact aw (h out t b1 b2 b3 md)
end
end ST
namespace ST
open PyProof.Rows
section
variable {kf:aK->List Int}{x y z:Array aK}{u v:Nat}
structure MH(kf:aK->List Int) (x y z:Array aK) (u v:Nat):Prop where
 p:z.toList.Perm (x.toList.drop u++y.toList.drop v)
 s:Dn kf z z.size
 a:∀i,i<u->∀j,j<z.size->le (ky kf x i) (ky kf z j)
 b:∀i,i<v->∀j,j<z.size->le (ky kf y i) (ky kf z j)
 lu:u<=x.size
 lv:v<=y.size
theorem MH.sym(h:MH kf x y z u v):MH kf y x z v u:=⟨h.p.trans eE,h.s,h.b,h.a,h.lv,h.lu⟩
theorem Dn.push{z:Array aK}(h:Dn kf z z.size)(hp:∀j,j<z.size->le (kf p) (ky kf z j)):Dn kf (z.push p) (z.push p).size:=by
 intro i j ij hj;rw[d8]at hj;rw[ZbL,ZbL];by_cases c:j=z.size
 .rw[if_pos c];by_cases d:i=z.size
  .rw[if_pos d];exact Zde _
  .rw[if_neg d];exact hp i ⋯
 .rw[if_neg c,if_neg ⋯]
  exact h i j ij ⋯
theorem MH.pushX(h:MH kf x y z (u+1) v)(sx:Up kf x x.size)(sy:Up kf y y.size)(hy:0<v->le (ky kf y (v-1)) (ky kf x u)):MH kf x y (z.push (x[u]'(h.lu))) u v:=by
 have hu:u<x.size:=h.lu;have lv:=h.lv;refine⟨?_,h.s.push λj hj=>by rw[<-Z3 (kf:=kf) hu];exact h.a u ⋯ j hj,λi hi j hj=>?_,λi hi j hj=>?_,⋯,h.lv⟩
 .rw[eI,cj (i:=u) (by simpa using hu)]
  refine(h.p.append_right _).trans ?_;show(x.toList.drop (u+1)++y.toList.drop v++[x[u]]).Perm (x[u]::x.toList.drop (u+1)++y.toList.drop v);exact eE
 .rw[d8]at hj;rw[ZbL];by_cases c:j=z.size
  .rw[if_pos c,<-Z3 (kf:=kf) hu];exact sx i u ⋯ hu
  .rw[if_neg c];exact h.a i ⋯ j ⋯
 .rw[d8]at hj;rw[ZbL];by_cases c:j=z.size
  .rw[if_pos c,<-Z3 (kf:=kf) hu];exact ZcU (sy i (v-1) ⋯ ⋯) (hy ⋯)
  .rw[if_neg c];exact h.b i hi j ⋯
theorem MH.pushY(h:MH kf x y z u (v+1))(sx:Up kf x x.size)(sy:Up kf y y.size)(hx:0<u->le (ky kf x (u-1)) (ky kf y v)):MH kf x y (z.push (y[v]'(h.lv))) u v:=(h.sym.pushX sy sx hx).sym
theorem ZmP{x:Array aK}(h:r+k<x.size):(x.extract r (r+(k+1))).reverse= #[x[r+k]]++(x.extract r (r+k)).reverse:=by
 rw[Zf4 h];apply eZ.mp;rw[eU,eI,List.reverse_append,dL,eU];rfl
theorem MH.chunkX(sx:Up kf x x.size)(sy:Up kf y y.size):∀(k r:Nat)(z:Array aK),MH kf x y z (r+k) v->(∀i,r<=i->i<r+k->0<v->le (ky kf y (v-1)) (ky kf x i))->MH kf x y (z++(x.extract r (r+k)).reverse) r v
 |0,r,z,h,_=>by
  have:(x.extract r (r+0)).reverse= #[]:=by
   apply eZ.mp;rw[eU,cT,cp];simp
  rw[this,fP];exact h
 |k+1,r,z,h,hc=>by
  have lu:=h.lu;have m1:=MH.pushX (u:=r+k) h sx sy λhv=>hc (r+k) ⋯ ⋯ hv
  have ih:=MH.chunkX sx sy k r _ m1 λi a b=>hc i a ⋯
  rw[ZmP ⋯,<-ii]
  exact ih
theorem MH.cX(sx:Up kf x x.size)(sy:Up kf y y.size)(h:MH kf x y z u v)(hr:r<=u)(hc:∀i,r<=i->i<u->0<v->le (ky kf y (v-1)) (ky kf x i)):MH kf x y (z++(x.extract r u).reverse) r v:=by
 have:=MH.chunkX sx sy (u-r) r z (by rw[show r+(u-r)=u by lia];exact h) λi a b=>hc i a ⋯
 rw[show r+(u-r)=u by lia]at this
 exact this
theorem MH.cY(sx:Up kf x x.size)(sy:Up kf y y.size)(h:MH kf x y z u v)(hr:r<=v)(hc:∀i,r<=i->i<v->0<u->le (ky kf x (u-1)) (ky kf y i)):MH kf x y (z++(y.extract r v).reverse) u r:=(MH.cX sy sx h.sym hr hc).sym
theorem MH.md(h:MH kf x y z 0 0):Md kf x y z.reverse:=by
 refine⟨bT.mpr ?_,λi j ij hj=>?_⟩
 .have:=h.p
  rw[jC,jC]at this;rw[dL,eU];exact(List.reverse_perm _).trans this
 .have k:∀i,i<z.size->ky kf z.reverse i=ky kf z (z.size-1-i):=λi hi=>by
   unfold ky;rw[Array.getElem?_reverse hi]
  rw[Array.size_reverse]at hj;rw[k i ⋯,k j hj]
  exact h.s _ _ ⋯ ⋯
theorem MH.fin(sx:Up kf x x.size)(sy:Up kf y y.size)(h:MH kf x y z u v)(he:u=0\/v=0):Md kf x y (x.extract 0 u++y.extract 0 v++z.reverse):=by
 have h1:=h.cY sx sy (c8 v) λi a b c=>⋯
 have h2:=(h1.cX sx sy (c8 u) λi a b c=>⋯).md
 simpa using h2
theorem MH.tail(sx:Up kf x x.size)(sy:Up kf y y.size)(h:MH kf x y z u v)(he:v=1)(hl:∀i,i<x.size->le (ky kf y 0) (ky kf x i)):Md kf x y (y.extract 0 v++x.extract 0 u++z.reverse):=by
 have lu:=h.lu;have h1:=h.cX sx sy (c8 u) λi a b c=>by
  subst he;exact hl i ⋯
 have h2:=(h1.cY sx sy (c8 v) λi a b c=>⋯).md
 simpa using h2
end
noncomputable abbrev H7:=Option (Array aK)×Nat×Nat×Array aK×Nat×Nat×Nat
noncomputable abbrev H6:=Option (Array aK)×Nat×Nat×Array aK×Nat×Nat
noncomputable abbrev H5:=Option (Array aK)×Nat×Nat×Array aK×Nat
section
variable (x y:Array aK)
noncomputable abbrev fh(z:Array aK)(u v:Nat):=x.extract 0 u++y.extract 0 v++z.reverse
noncomputable abbrev th(z:Array aK)(u v:Nat):=y.extract 0 v++x.extract 0 u++z.reverse
def hi3(z:Array aK)(u v g c d:Nat):SM (ForInStep H7):=do
 let e <-elem' x (u-1)
 if u-1==0 then pure (.done (some (fh x y (z.push e) (u-1) v),u-1,v,z.push e,g,c,d))
 else if decide (c<7)&&decide (d<7)then pure (.done (none,u-1,v,z.push e,g,c,d))else pure (.yield (none,u-1,v,z.push e,g,c,d))
def hi2(z:Array aK)(u v g c d:Nat):SM (ForInStep H7):=do
 let e <-elem' y (v-1)
 if v-1==1 then pure (.done (some (th x y (z.push e) u (v-1)),u,v-1,z.push e,g,c,d))
 else do
  let e2 <-elem' x (u-1)
  match <-Zbr true e2 y 0 (v-1) (v-1-1)with
  |some r=>
   if v-1-r>0 then
    if r==1 then pure (.done (some (th x y (z.push e++(y.extract r (v-1)).reverse) u r),u,r,z.push e++(y.extract r (v-1)).reverse,g,c,v-1-r))
    else if r==0 then pure (.done (some (fh x y (z.push e++(y.extract r (v-1)).reverse) u r),u,r,z.push e++(y.extract r (v-1)).reverse,g,c,v-1-r))
    else hi3 x y (z.push e++(y.extract r (v-1)).reverse) u r g c (v-1-r)
   else hi3 x y (z.push e) u (v-1) g c (v-1-r)
  |_=>pure (.done (some (fh x y (z.push e) u (v-1)),u,v-1,z.push e,g,c,d))
def hi1(z:Array aK)(u v g c d:Nat):SM (ForInStep H7):=do
 Zdg g
 let e <-elem' y (v-1)
 match <-Zbr false e x 0 u (u-1)with
 |some r=>
  if u-r>0 then
   if r==0 then pure (.done (some (fh x y (z++(x.extract r u).reverse) r v),r,v,z++(x.extract r u).reverse,g,u-r,d))
   else hi2 x y (z++(x.extract r u).reverse) r v g (u-r) d
  else hi2 x y z u v g (u-r) d
 |_=>pure (.done (some (fh x y z u v),u,v,z,g,c,d))
def hi0(g:Nat)(z:Array aK)(u v c d:Nat):SM (ForInStep H6):=do
 let a <-elem' y (v-1)
 let b <-elem' x (u-1)
 match <-lt' a b with
 |some w=>
  if w then do
   let e <-elem' x (u-1)
   if u-1==0 then pure (.done (some (fh x y (z.push e) (u-1) v),u-1,v,z.push e,c+1,0))
   else if c+1 ≥ g then pure (.done (none,u-1,v,z.push e,c+1,0))else pure (.yield (none,u-1,v,z.push e,c+1,0))
  else do
   let e <-elem' y (v-1)
   if v-1==1 then pure (.done (some (th x y (z.push e) u (v-1)),u,v-1,z.push e,0,d+1))
   else if d+1 ≥ g then pure (.done (none,u,v-1,z.push e,0,d+1))else pure (.yield (none,u,v-1,z.push e,0,d+1))
 |_=>pure (.done (some (fh x y z u v),u,v,z,c,d))
def hiA(z:Array aK)(u v g:Nat):SM (ForInStep H5):=do
 let s <-forIn [0:x.size+y.size] ((none,u,v,z,0,0):H6) λ_ s=>hi0 x y g s.2.2.2.1 s.2.1 s.2.2.1 s.2.2.2.2.1 s.2.2.2.2.2
 match s.1 with
 |some r=>pure (.done (some r,s.2.1,s.2.2.1,s.2.2.2.1,g))
 |none=>do
  liftM (PySem.rule "list.sort.gallop")
  let t <-forIn [0:x.size+y.size] ((none,s.2.1,s.2.2.1,s.2.2.2.1,g+1,s.2.2.2.2.1,s.2.2.2.2.2):H7) λ_ s=>
   if s.2.2.2.2.1>1 then hi1 x y s.2.2.2.1 s.2.1 s.2.2.1 (s.2.2.2.2.1-1) s.2.2.2.2.2.1 s.2.2.2.2.2.2 else hi1 x y s.2.2.2.1 s.2.1 s.2.2.1 s.2.2.2.2.1 s.2.2.2.2.2.1 s.2.2.2.2.2.2
  match t.1 with
  |some r=>pure (.done (some r,t.2.1,t.2.2.1,t.2.2.2.1,t.2.2.2.2.1))
  |none=>do
   Zdg (t.2.2.2.2.1+1)
   pure (.yield (none,t.2.1,t.2.2.1,t.2.2.2.1,t.2.2.2.2.1+1))
theorem Zr6:Zd2 x y=(do
  liftM (PySem.rule "list.sort.merge-hi")
  let e <-elem' x (x.size-1)
  if x.size-1==0 then pure (fh x y #[e] (x.size-1) y.size)
  else if y.size==1 then pure (th x y #[e] (x.size-1) y.size)
  else do
   let st <-get
   let s <-forIn [0:x.size+y.size] ((none,x.size-1,y.size,#[e],gallopOf st):H5) λ_ s=>hiA x y s.2.2.2.1 s.2.1 s.2.2.1 s.2.2.2.2
   match s.1 with
   |some r=>pure r
   |none=>liftM (lD "internal:list.sort.merge-bound":Sem _)):=by kernel_rfl
end
section
variable {prog:bO}{w:cu}{A:cb}{E:Vp}{s:az}{kf:aK->List Int}{G:aK->Prop}{B:bY->Prop}{st:bY}{x y z:Array aK}{u v g c d:Nat}
theorem MH.pX(h:MH kf x y z u v)(hu:0<u)(sx:Up kf x x.size)(sy:Up kf y y.size)(hy:0<v->le (ky kf y (v-1)) (ky kf x (u-1))):MH kf x y (z.push (x[u-1]'(by have:=h.lu;lia))) (u-1) v:=by
 obtain⟨k,rfl⟩:∃k,u=k+1:=⟨u-1,⋯⟩
 exact h.pushX sx sy hy
theorem MH.pY(h:MH kf x y z u v)(hv:0<v)(sx:Up kf x x.size)(sy:Up kf y y.size)(hx:0<u->le (ky kf x (u-1)) (ky kf y (v-1))):MH kf x y (z.push (y[v-1]'(by have:=h.lv;lia))) u (v-1):=by
 obtain⟨k,rfl⟩:∃k,v=k+1:=⟨v-1,⋯⟩
 exact h.pushY sx sy hx
def Eh(R:ForInStep H7->bY->Prop)(st:bY)(kf:aK->List Int)(x y:Array aK)(N:Nat):Prop:=
 (∀out r,Md kf x y out->R (.done (some out,r)) st)/\∀z u v g c d,MH kf x y z u v->0<u->1<v->u+v<=N->R (.done (none,u,v,z,g,c,d)) st/\R (.yield (none,u,v,z,g,c,d)) st
section
variable {R:ForInStep H7->bY->Prop}{N:Nat}(q:Eh R st kf x y N)(sx:Up kf x x.size)(sy:Up kf y y.size)(hl:∀i,i<x.size->le (ky kf y 0) (ky kf x i))(hI:MH kf x y z u v)(hu:0<u)(hv:1<v)
include q sx sy hI hu hv
theorem Zpn(hle:le (ky kf y (v-1)) (ky kf x (u-1)))(hN:u+v<=N+1):wpS (ae prog w) A E s (hi3 x y z u v g c d) R st:=by
 have hu':u-1<x.size:=by have:=hI.lu;lia
 unfold hi3;refine ao (Zaf (getElem?_pos x (u-1) hu') ?_);have m1:=hI.pX hu sx sy λ_=>hle;by_cases c1:u-1=0
 .rw[if_pos (by simpa using c1)]
  exact aw (q.1 _ _ (m1.fin sx sy (.inl c1)))
 .rw[if_neg (by simpa using c1)]
  have q:=q.2 _ _ _ g c d m1 ⋯ hv ⋯
  split
  .exact aw q.1
  .exact aw q.2
variable (C:Cp (ae prog w) A E s kf G B)(hB:B st)(gx:Gs G x)(gy:Gs G y)
include C hB gx gy hl
theorem Zpo(hle:le (ky kf x (u-1)) (ky kf y (v-1)))(hN:u+v<=N+2):wpS (ae prog w) A E s (hi2 x y z u v g c d) R st:=by
 have hu':u-1<x.size:=by have:=hI.lu;lia
 have hv':v-1<y.size:=by have:=hI.lv;lia
 unfold hi2;refine ao (Zaf (getElem?_pos y (v-1) hv') ?_);have m1:=hI.pY ⋯ sx sy λ_=>hle
 by_cases c1:v-1=1
 .rw[if_pos (by simpa using c1)]
  exact aw (q.1 _ _ (m1.tail sx sy c1 hl))
 rw[if_neg (by simpa using c1)]
 refine ao (Zaf (getElem?_pos x (u-1) hu') (ao (ZbT C hB (gx (u-1) _ (getElem?_pos x (u-1) hu')) gy ⋯ ⋯ (λi j ij jn=>sy _ _ ⋯ ⋯) λr kn a1 a2=>?_)))
 have g2:0<r->le (ky kf y (r-1)) (ky kf x (u-1)):=λhk=>by
  have q:=a1 (r-1) ⋯
  unfold frk at q;rw[if_pos rfl,<-Z3 (kf:=kf) hu',ff]at q;exact ZcB q
 dsimp only;by_cases ck:v-1-r>0
 .rw[if_pos ck];have m4:=m1.cY sx sy (r:=r) ⋯ λi hi hn _=>by
   have q:=a2 i hi hn;unfold frk at q;rw[if_pos rfl,<-Z3 (kf:=kf) hu',ff]at q;exact q
  by_cases e3:r=1
  .rw[if_pos (by simpa using e3)]
   exact aw (q.1 _ _ (m4.tail sx sy e3 hl))
  rw[if_neg (by simpa using e3)]
  by_cases e4:r=0
  .rw[if_pos (by simpa using e4)]
   exact aw (q.1 _ _ (m4.fin sx sy (.inr e4)))
  rw[if_neg (by simpa using e4)]
  exact Zpn q sx sy m4 hu ⋯ (g2 ⋯) ⋯
 .rw[if_neg ck];obtain rfl:r=v-1:=⋯
  exact Zpn q sx sy m1 hu ⋯ (g2 ⋯) ⋯
omit q hB in
theorem Zr7(q:Eh R (ZdI st g) kf x y N)(hB:B (ZdI st g))(hN:u+v<=N+1):wpS (ae prog w) A E s (hi1 x y z u v g c d) R st:=by
 have hv1:v-1<y.size:=by have:=hI.lv;lia
 have lu:=hI.lu;unfold hi1;rw[ZbS];refine ao (eT (ao (Zaf (getElem?_pos y (v-1) hv1) (ao (ZbT C hB (gy (v-1) _ (getElem?_pos y (v-1) hv1)) gx ⋯ ⋯ (λi j ij jn=>sx _ _ ⋯ ⋯) λr kn a1 a2=>?_)))))
 have f1:0<r->le (ky kf x (r-1)) (ky kf y (v-1)):=λhi=>by
  have q:=a1 (r-1) ⋯
  unfold frk at q;rw[if_neg (by simp),dz,<-Z3 (kf:=kf) hv1,ff]at q
  exact q
 dsimp only;by_cases ck:u-r>0
 .rw[if_pos ck];have mk:=hI.cX sx sy (r:=r) ⋯ λi hi hn _=>by
   have q:=a2 i hi ⋯
   unfold frk at q;rw[if_neg (by simp),iu,<-Z3 (kf:=kf) hv1,ff]at q
   exact ZcB q
  by_cases e1:r=0
  .rw[if_pos (by simpa using e1)]
   exact aw (q.1 _ _ (mk.fin sx sy (.inl e1)))
  rw[if_neg (by simpa using e1)]
  exact Zpo q sx sy hl mk ⋯ hv C hB gx gy (f1 ⋯) ⋯
 .rw[if_neg ck];obtain rfl:r=u:=⋯
  exact Zpo q sx sy hl hI hu hv C hB gx gy (f1 hu) ⋯
end
theorem Zr8(C:Cp (ae prog w) A E s kf G B)(hB:B st)(gx:Gs G x)(gy:Gs G y)(sx:Up kf x x.size)(sy:Up kf y y.size)(hl:∀i,i<x.size->le (ky kf y 0) (ky kf x i))(hI:MH kf x y z u v)(hu:0<u)(hv:1<v)(q1:∀out r,Md kf x y out->R (.done (some out,r)) st)(q2:∀z' u' v' c d,MH kf x y z' u' v'->0<u'->1<v'->u'+v'<=u+v->R (.done (none,u',v',z',c,d)) st/\R (.yield (none,u',v',z',c,d)) st):wpS (ae prog w) A E s (hi0 x y g z u v c d) R st:=by
 have hu2:u-1<x.size:=by have:=hI.lu;lia
 have hv2:v-1<y.size:=by have:=hI.lv;lia
 have ex:=getElem?_pos x (u-1) hu2;have ey:=getElem?_pos y (v-1) hv2;unfold hi0;refine ao (Zaf ey (ao (Zaf ex (ao (C.cmp st _ _ _ hB (gy _ _ ey) (gx _ _ ex) ?_)))));rw[<-Z3 (kf:=kf) hu2,<-Z3 (kf:=kf) hv2];dsimp only;cases wn:lt (ky kf y (v-1)) (ky kf x (u-1))with
 |true=>
  rw[if_pos rfl];refine ao (Zaf ex ?_);have m1:=hI.pX hu sx sy λ_=>ZcB wn;by_cases c3:u-1=0
  .rw[if_pos (by simpa using c3)]
   exact aw (q1 _ _ (m1.fin sx sy (.inl c3)))
  .rw[if_neg (by simpa using c3)]
   have q:=q2 _ _ _ (c+1) 0 m1 ⋯ hv ⋯
   split
   .exact aw q.1
   .exact aw q.2
 |false=>
  rw[if_neg (by simp)]
  refine ao (Zaf ey ?_);have m1:=hI.pY ⋯ sx sy λ_=>wn
  by_cases c3:v-1=1
  .rw[if_pos (by simpa using c3)]
   exact aw (q1 _ _ (m1.tail sx sy c3 hl))
  .rw[if_neg (by simpa using c3)]
   have q:=q2 _ _ _ 0 (d+1) m1 hu ⋯ ⋯
   split
   .exact aw q.1
   .exact aw q.2
theorem Zr9(C:Cp (ae prog w) A E s kf G B)(hB:B st)(gx:Gs G x)(gy:Gs G y)(sx:Up kf x x.size)(sy:Up kf y y.size)(hl:∀i,i<x.size->le (ky kf y 0) (ky kf x i))(hI:MH kf x y z u v)(hu:0<u)(hv:1<v)(q1:∀out r t,B t->arrOf t=arrOf st->pendingOf t=pendingOf st->Md kf x y out->R (.done (some out,r)) t)(q2:∀z' u' v' g t,B t->arrOf t=arrOf st->pendingOf t=pendingOf st->MH kf x y z' u' v'->0<u'->1<v'->u'+v'<u+v->R (.yield (none,u',v',z',g)) t):wpS (ae prog w) A E s (hiA x y z u v g) R st:=by
 unfold hiA;have lu:=hI.lu;have lv:=hI.lv;refine ao (dO (bV (λn r t'=>t'=st/\∃z' u' v' c d,r=(none,u',v',z',c,d)/\(MH kf x y z' u' v'/\0<u'/\1<v')/\u'+v'<=u+v) (Q:=λ(r:H6) t'=>t'=st/\((∃out rr,r=(some out,rr)/\Md kf x y out)\/∃z' u' v' c d,r=(none,u',v',z',c,d)/\(MH kf x y z' u' v'/\0<u'/\1<v')/\u'+v'<=u+v)) (λn r t' _ nn hI=>?_) (λr t' hI=>⟨hI.1,.inr hI.2⟩) ⟨rfl,z,u,v,0,0,rfl,⟨hI,hu,hv⟩,ac _⟩) λr t' hI=>?_)
 .obtain⟨rfl,z',u',v',c,d,rfl,⟨m',hu',hv'⟩,hn'⟩:=hI;dsimp only;exact Zr8 C hB gx gy sx sy hl m' hu' hv' (λout r md=>⟨rfl,.inl ⟨out,r,rfl,md⟩⟩) λz' u' v' c d m h1 h2 h3=>⟨⟨rfl,.inr ⟨_,_,_,_,_,rfl,⟨m,h1,h2⟩,⋯⟩⟩,rfl,_,_,_,_,_,rfl,⟨m,h1,h2⟩,⋯⟩
 obtain⟨rfl,hI⟩:=hI;rcases hI with⟨out,rr,rfl,md⟩|⟨z',u',v',c,d,rfl,⟨m',hu',hv'⟩,hn'⟩
 .exact aw (q1 _ _ _ hB rfl rfl md)
 refine ao (iU (cN ⟨rfl,ao (dO (bV (λn r t=>(B t/\arrOf t=arrOf t'/\pendingOf t=pendingOf t')/\∃z u v g c d,r=(none,u,v,z,g,c,d)/\(MH kf x y z u v/\0<u/\1<v)/\u+v+n<=u'+v') (Q:=λ(r:H7) t=>(B t/\arrOf t=arrOf t'/\pendingOf t=pendingOf t')/\((∃out rr,r=(some out,rr)/\Md kf x y out)\/∃z u v g c d,r=(none,u,v,z,g,c,d)/\(MH kf x y z u v/\0<u/\1<v)/\u+v+1<=u'+v')) (λn r t _ nn hI=>?_) (λr t hI=>?_) ⟨⟨hB,rfl,rfl⟩,z',u',v',g+1,c,d,rfl,⟨m',hu',hv'⟩,⋯⟩) λr t hI=>?_)⟩))
 .obtain⟨⟨d1,d2,d3⟩,z,u,v,g,c,d,rfl,⟨m,hu,hv⟩,hn⟩:=hI;dsimp only
  split<;>exact Zr7 sx sy hl m hu hv C gx gy (N:=u+v-1) ⟨λout r md=>⟨⟨C.gal t _ d1,d2,d3⟩,.inl ⟨out,r,rfl,md⟩⟩,λz' u' v' g c d m h1 h2 h3=>⟨⟨⟨C.gal t _ d1,d2,d3⟩,.inr ⟨_,_,_,_,_,_,rfl,⟨m,h1,h2⟩,⋯⟩⟩,⟨C.gal t _ d1,d2,d3⟩,_,_,_,_,_,_,rfl,⟨m,h1,h2⟩,⋯⟩⟩ (C.gal t _ d1) ⋯
 .obtain⟨hs,z,u,v,g,c,d,rfl,iv,hn⟩:=hI;exact⟨hs,.inr ⟨z,u,v,g,c,d,rfl,iv,⋯⟩⟩
 obtain⟨⟨d1,d2,d3⟩,hI⟩:=hI;rcases hI with⟨out,rr,rfl,md⟩|⟨z,u,v,g,c,d,rfl,⟨m,h1,h2⟩,hn2⟩
 .exact aw (q1 _ _ _ d1 d2 d3 md)
 .dsimp only;rw[ZbS];exact ao (eT (aw (q2 _ _ _ _ _ (C.gal t _ d1) d2 d3 m h1 h2 ⋯)))
theorem ZuJ(C:Cp (ae prog w) A E s kf G B)(hB:B st)(gx:Gs G x)(gy:Gs G y)(sx:Up kf x x.size)(sy:Up kf y y.size)(x1:1<=x.size)(y1:1<=y.size)(h0:∀i,i<y.size->le (ky kf y i) (ky kf x (x.size-1)))(hl:∀i,i<x.size->le (ky kf y 0) (ky kf x i))(h:∀out t,B t->arrOf t=arrOf st->pendingOf t=pendingOf st->Md kf x y out->Q out t):wpS (ae prog w) A E s (Zd2 x y) Q st:=by
 rw[Zr6];have x1':x.size-1<x.size:=⋯
 refine ao (iU (cN ⟨rfl,ao (Zaf (getElem?_pos x (x.size-1) x1') ?_)⟩));have m0:MH kf x y #[x[x.size-1]] (x.size-1) y.size:=by
  have e:MH kf x y #[] x.size y.size:=⟨by simp,λi j ij hj=>by simp at hj,λ_ _ j hj=>by simp at hj,λ_ _ j hj=>by simp at hj,ac _,ac _⟩
  exact e.pX ⋯ sx sy λ_=>h0 _ ⋯
 by_cases c1:x.size-1=0
 .rw[if_pos (by simpa using c1)]
  exact aw (h _ st hB rfl rfl (m0.fin sx sy (.inl c1)))
 rw[if_neg (by simpa using c1)]
 by_cases c2:y.size=1
 .rw[if_pos (by simpa using c2)]
  exact aw (h _ st hB rfl rfl (m0.tail sx sy c2 hl))
 rw[if_neg (by simpa using c2)]
 refine ao (hJ (ao (dO (bV (λn r t=>(B t/\arrOf t=arrOf st/\pendingOf t=pendingOf st)/\∃z u v g,r=(none,u,v,z,g)/\(MH kf x y z u v/\0<u/\1<v)/\u+v+n+1<=x.size+y.size) (Q:=λ(r:H5) t=>(B t/\arrOf t=arrOf st/\pendingOf t=pendingOf st)/\∃out rr,r=(some out,rr)/\Md kf x y out) (λn r t _ nn hI=>?_) (λr t hI=>?_) ⟨⟨hB,rfl,rfl⟩,#[x[x.size-1]],x.size-1,y.size,_,rfl,⟨m0,⋯,⋯⟩,⋯⟩) λr t hI=>?_)))
 .obtain⟨⟨b1,b2,b3⟩,z,u,v,g,rfl,⟨m,hu,hv⟩,hn⟩:=hI;dsimp only;exact Zr9 C b1 gx gy sx sy hl m hu hv (λout r t d1 d2 d3 md=>⟨⟨d1,d2.trans b2,d3.trans b3⟩,out,r,rfl,md⟩) λz' u' v' g t d1 d2 d3 m h1 h2 h3=>⟨⟨d1,d2.trans b2,d3.trans b3⟩,_,_,_,_,rfl,⟨m,h1,h2⟩,⋯⟩
 .obtain⟨_,z,u,v,g,rfl,⟨m,hu,hv⟩,hn⟩:=hI;lia
 .obtain⟨⟨b1,b2,b3⟩,out,rr,rfl,md⟩:=hI;exact aw (h out t b1 b2 b3 md)
end
end ST
namespace ST
open PyProof.Rows
def Zpp(lo a n:Nat):SM AscSt:=forIn [a:n] ((none,a):AscSt) λ_ r=>do
 let y <-ltAt' (lo+r.2) (lo+r.2-1)
 match y with
 |some b=>if b=true then pure (.done (none,r.2))else pure (.yield (none,r.2+1))
 |_=>pure (.done (some none,r.2))
def Zkl(lo m n:Nat):SM (Option Nat):=do
 iO lo (lo+m)
 let r <-Zpp lo m n
 match r.1 with
 |some q=>pure q
 |none=>pure (some r.2)
def Zkm(lo m n:Nat):SM DescSt:=forIn [m:n] ((none,m,0):DescSt) λ_ r=>do
 let y <-ltAt' (lo+r.2.1) (lo+r.2.1-1)
 match y with
 |some b=>
  if b=true then
   if r.2.2>0 then do
    iO (lo+r.2.1-(r.2.2+1)) (lo+r.2.1)
    pure (.yield (none,r.2.1+1,0))
   else pure (.yield (none,r.2.1+1,0))
  else do
   let y <-ltAt' (lo+r.2.1-1) (lo+r.2.1)
   match y with
   |some b=>if b=true then pure (.done (none,r.2.1,r.2.2))else pure (.yield (none,r.2.1+1,r.2.2+1))
   |_=>pure (.done (some none,r.2.1,r.2.2))
 |_=>pure (.done (some none,r.2.1,r.2.2))
def Zkn(lo m n:Nat):SM (Option Nat):=do
 liftM (rule "list.sort.descending-run")
 let r <-Zkm lo (m+1) n
 match r.1 with
 |some q=>pure q
 |none=>
  if r.2.2>0 then do
   iO (lo+r.2.1-(r.2.2+1)) (lo+r.2.1)
   Zkl lo r.2.1 n
  else Zkl lo r.2.1 n
theorem ZmQ(lo n:Nat):countRun' lo n=(do
  let r <-Zpp lo 1 n
  match r.1 with
  |some q=>pure q
  |none=>
   if(r.2==n)=true then pure (some r.2)
   else if r.2>1 then do
    let y <-ltAt' lo (lo+r.2-1)
    match y with
    |some b=>if b=true then pure (some r.2)else do
      iO lo (lo+r.2)
      Zkn lo r.2 n
    |_=>pure none
   else Zkn lo r.2 n):=by
 rw[countRun'_eq];unfold Zkn Zkl Zkm Zpp;dsimp only;congr 1;funext r;obtain⟨r,m⟩:=r;cases r with
 |some r=>rfl
 |none=>
  dsimp only;split
  .rfl
  .split
   .congr 1;funext y;cases y with
    |none=>rfl
    |some b=>
     dsimp only;split
     .rfl
     .congr 1;funext _;congr 1;funext _;congr 1;funext q;obtain⟨q,a,c⟩:=q;cases q with
      |some q=>rfl
      |none=>
       dsimp only;split
       .congr 1;funext _;congr 1;funext _;congr 1;funext z;obtain⟨z,k⟩:=z;cases z<;>rfl
       .congr 1;funext _;congr 1;funext z;obtain⟨z,k⟩:=z;cases z<;>rfl
   .congr 1;funext _;congr 1;funext q;obtain⟨q,a,c⟩:=q;cases q with
    |some q=>rfl
    |none=>
     dsimp only;split
     .congr 1;funext _;congr 1;funext _;congr 1;funext z;obtain⟨z,k⟩:=z;cases z<;>rfl
     .congr 1;funext _;congr 1;funext z;obtain⟨z,k⟩:=z;cases z<;>rfl
variable {kf:aK->List Int}
def UpL(kf:aK->List Int)(lo:Nat)(xs:Array aK)(n:Nat):Prop:=∀i j,i<=j->j<n->le (ky kf xs (lo+i)) (ky kf xs (lo+j))
def DnL(kf:aK->List Int)(lo:Nat)(xs:Array aK)(n:Nat):Prop:=∀i j,i<=j->j<n->le (ky kf xs (lo+j)) (ky kf xs (lo+i))
structure Cl(M:Model) (A:cb) (E:Vp) (s:az) (kf:aK->List Int) (B:bY->Prop) (lo N:Nat):Prop where
 sz:∀st,B st->(arrOf st).size=N
 put:∀st xs,B st->xs.Perm (arrOf st)->(∀k,k<lo->xs[k]?=(arrOf st)[k]?)->B (kJ st xs)
 cmp:∀st i j (Q:Option Bool->bY->Prop),B st->i<N->j<N->Q (some (lt (ky kf (arrOf st) i) (ky kf (arrOf st) j))) st->wpS M A E s (ltAt' i j) Q st
section
variable {s:az}{B:bY->Prop}{lo N:Nat}
theorem Cl.mir(C:Cl M A E s kf B lo N){st:bY}(hB:B st)(hi:lo<=i)(hj:j<=N):B (kJ st (iN (arrOf st) i j ((j-i)/2))):=
 C.put st _ hB (mirror_perm ..) λk hk=>by
  rw[jY (by rw[C.sz st hB];exact hj),if_neg ⋯]
theorem UpL.more(h:UpL kf lo xs n)(h1:1<=n)(hl:le (ky kf xs (lo+n-1)) (ky kf xs (lo+n))):UpL kf lo xs (n+1):=by
 intro i j ij jn;by_cases c:j<n
 .exact h i j ij c
 .have:j=n:=⋯
  subst this;by_cases c2:i=j
  .subst c2;exact Zde _
  .rw[show lo+j-1=lo+(j-1)by lia]at hl
   exact ZcU (h i (j-1) ⋯ ⋯) hl
theorem DnL.more(h:DnL kf lo xs n)(h1:1<=n)(hl:le (ky kf xs (lo+n)) (ky kf xs (lo+n-1))):DnL kf lo xs (n+1):=by
 intro i j ij jn;by_cases c:j<n
 .exact h i j ij c
 .have:j=n:=⋯
  subst this;by_cases c2:i=j
  .subst c2;exact Zde _
  .rw[show lo+j-1=lo+(j-1)by lia]at hl
   exact ZcU hl (h i (j-1) ⋯ ⋯)
theorem Zlh(C:Cl (ae prog w) A E s kf B lo N){st:bY}(hn:lo+n<=N)(ha:1<=a)(an:a<=n)(hB:B st)(hu:UpL kf lo (arrOf st) a)(q:∀m,a<=m->m<=n->UpL kf lo (arrOf st) m->(m=n\/lt (ky kf (arrOf st) (lo+m)) (ky kf (arrOf st) (lo+m-1))=true)->Q (none,m) st):wpS (ae prog w) A E s (Zpp lo a n) Q st:=by
 unfold Zpp;refine bV (λx c t=>t=st/\c=(none,x)/\UpL kf lo (arrOf st) x) (λx c t ax xn hI=>?_) (λc t hI=>?_) ⟨rfl,rfl,hu⟩
 .obtain⟨rfl,rfl,h⟩:=hI;refine ao (C.cmp t (lo+x) (lo+x-1) _ hB ⋯ ⋯ ?_)
  cases z:lt (ky kf (arrOf t) (lo+x)) (ky kf (arrOf t) (lo+x-1))with
  |true=>exact aw (q x ax ⋯ h (.inr z))
  |false=>exact aw ⟨rfl,rfl,h.more ⋯ z⟩
 .obtain⟨rfl,rfl,h⟩:=hI;rw[Nat.max_eq_right an]at h ⊢;exact q n an (ac _) h (.inl rfl)
theorem Ziu(C:Cl (ae prog w) A E s kf B lo N){st:bY}(hn:lo+n<=N)(h1:1<=m)(mn:m<=n)(hB:B st)(hd:DnL kf lo (arrOf st) m)(q:∀m t,B t->1<=m->m<=n->UpL kf lo (arrOf t) m->Q (some m) t):wpS (ae prog w) A E s (Zkl lo m n) Q st:=by
 have sz:=C.sz st hB;have hB':=C.mir (i:=lo) (j:=lo+m) hB (ac _) ⋯
 refine ao (jD (ao (Zlh C hn h1 mn hB' (λi j ij jm=>?_) λk k1 k2 hu _=>aw (q k _ hB' ⋯ k2 hu))))
 show le (ky kf (iN (arrOf st) lo (lo+m) ((lo+m-lo)/2)) (lo+i)) (ky kf (iN (arrOf st) lo (lo+m) ((lo+m-lo)/2)) (lo+j));rw[Zis ⋯,Zis ⋯,if_pos ⟨⋯,⋯⟩,if_pos ⟨⋯,⋯⟩,show lo+(lo+m)-1-(lo+i)=lo+(m-1-i)by lia,show lo+(lo+m)-1-(lo+j)=lo+(m-1-j)by lia]
 exact hd _ _ ⋯ ⋯
def EqL(kf:aK->List Int)(lo:Nat)(xs:Array aK)(x e:Nat):Prop:=e+1<=x/\∀i,lo+x-(e+1)<=i->i<lo+x->ky kf xs i=ky kf xs (lo+x-1)
theorem Zsa(h:1<=x):EqL kf lo xs x 0:=⟨⋯,λi a b=>by rw[show i=lo+x-1 by lia]⟩
theorem ZmR(C:Cl (ae prog w) A E s kf B lo N){st:bY}(hn:lo+n<=N)(h1:1<=m)(mn:m<=n)(hB:B st)(hd:DnL kf lo (arrOf st) m)(q:∀x e t,B t->m<=x->x<=n->DnL kf lo (arrOf t) x->EqL kf lo (arrOf t) x e->Q (none,x,e) t):wpS (ae prog w) A E s (Zkm lo m n) Q st:=by
 unfold Zkm;refine bV (λx c t=>∃e,c=(none,x,e)/\B t/\DnL kf lo (arrOf t) x/\EqL kf lo (arrOf t) x e) (λx c t ax xn hI=>?_) (λc t hI=>?_) ⟨0,rfl,hB,hd,Zsa h1⟩
 .obtain⟨e,rfl,hB,hd,he⟩:=hI;have sz:=C.sz t hB;refine ao (C.cmp t (lo+x) (lo+x-1) _ hB ⋯ ⋯ ?_)
  cases z:lt (ky kf (arrOf t) (lo+x)) (ky kf (arrOf t) (lo+x-1))with
  |true=>
   have up1:=hd.more ⋯ (ZcB z)
   show wpS _ _ _ _ (if e>0 then _ else _) _ _
   by_cases c:e>0
   .rw[if_pos c];refine ao (jD (aw ⟨0,rfl,C.mir (i:=lo+x-(e+1)) (j:=lo+x) hB (by have:=he.1;lia) ⋯,λi j ij jx=>?_,Zsa ⋯⟩))
    show le (ky kf (iN (arrOf t) (lo+x-(e+1)) (lo+x) ((lo+x-(lo+x-(e+1)))/2)) (lo+j)) (ky kf (iN (arrOf t) (lo+x-(e+1)) (lo+x) ((lo+x-(lo+x-(e+1)))/2)) (lo+i));rw[ZaE ⋯ he.2,ZaE ⋯ he.2]
    exact up1 i j ij jx
   .rw[if_neg c];exact aw ⟨0,rfl,hB,up1,Zsa ⋯⟩
  |false=>
   refine ao (C.cmp t (lo+x-1) (lo+x) _ hB ⋯ ⋯ ?_)
   cases z2:lt (ky kf (arrOf t) (lo+x-1)) (ky kf (arrOf t) (lo+x))with
   |true=>exact aw (q x e t hB ax ⋯ hd he)
   |false=>
    have ee:ky kf (arrOf t) (lo+x)=ky kf (arrOf t) (lo+x-1):=ZeM z z2;refine aw ⟨e+1,rfl,hB,hd.more ⋯ z2,by have:=he.1;lia,λi a b=>?_⟩
    rw[show lo+(x+1)-1=lo+x by lia]
    by_cases c:i=lo+x
    .rw[c]
    .rw[ee];exact he.2 i ⋯ ⋯
 .obtain⟨e,rfl,hB,hd,he⟩:=hI;rw[Nat.max_eq_right mn]at hd he ⊢;exact q n e t hB mn (ac _) hd he
theorem Ziv(C:Cl (ae prog w) A E s kf B lo N){st:bY}(hn:lo+n<=N)(mn:m+1<=n)(hB:B st)(hd:DnL kf lo (arrOf st) (m+1))(q:∀m t,B t->1<=m->m<=n->UpL kf lo (arrOf t) m->Q (some m) t):wpS (ae prog w) A E s (Zkn lo m n) Q st:=by
 refine ao (iU (cN ⟨rfl,ao (ZmR C hn ⋯ mn hB hd λx e t hB hx xn hd he=>?_)⟩))
 have sz:=C.sz t hB;show wpS _ _ _ _ (if e>0 then _ else _) _ _
 by_cases c:e>0
 .rw[if_pos c];refine ao (jD (Ziu (m:=x) C hn ⋯ xn (C.mir (i:=lo+x-(e+1)) (j:=lo+x) hB (by have:=he.1;lia) ⋯) (λi j ij jx=>?_) q))
  show le (ky kf (iN (arrOf t) (lo+x-(e+1)) (lo+x) ((lo+x-(lo+x-(e+1)))/2)) (lo+j)) (ky kf (iN (arrOf t) (lo+x-(e+1)) (lo+x) ((lo+x-(lo+x-(e+1)))/2)) (lo+i));rw[ZaE ⋯ he.2,ZaE ⋯ he.2]
  exact hd i j ij jx
 .rw[if_neg c];exact Ziu (m:=x) C hn ⋯ xn hB hd q
theorem Zpq(C:Cl (ae prog w) A E s kf B lo N){st:bY}(hn:lo+n<=N)(h1:1<=n)(hB:B st)(q:∀m t,B t->1<=m->m<=n->UpL kf lo (arrOf t) m->Q (some m) t):wpS (ae prog w) A E s (countRun' lo n) Q st:=by
 have sz:=C.sz st hB;rw[ZmQ];refine ao (Zlh C hn (ac 1) h1 hB (λi j ij j1=>by rw[show i=j by lia];exact Zde _) λm m1 m2 hu ho=>?_)
 show wpS _ _ _ _ (if(m==n)=true then _ else _) _ _
 by_cases c:m=n
 .rw[if_pos (by simpa using c)]
  exact aw (q m st hB m1 m2 hu)
 .rw[if_neg (by simpa using c)]
  have hl:=ho.resolve_left c;by_cases c1:m>1
  .rw[if_pos c1];refine ao (C.cmp st lo (lo+m-1) _ hB ⋯ ⋯ ?_)
   cases z:lt (ky kf (arrOf st) lo) (ky kf (arrOf st) (lo+m-1))with
   |true=>exact aw (q m st hB m1 m2 hu)
   |false=>
    have al:∀k,lo<=k->k<lo+m->ky kf (arrOf st) k=ky kf (arrOf st) (lo+m-1):=λk k0 km=>by
     obtain⟨i,rfl⟩:∃i,k=lo+i:=⟨k-lo,⋯⟩
     have a1:=hu 0 i ⋯ ⋯
     have a2:=hu i (m-1) ⋯ ⋯
     rw[gk]at a1;rw[show lo+(m-1)=lo+m-1 by lia]at a2
     exact ZeM (ZcU z a1) a2
    refine ao (jD (Ziv C hn ⋯ (C.mir hB (ac _) ⋯) (λi j ij jx=>?_) q))
    show le (ky kf (iN (arrOf st) lo (lo+m) ((lo+m-lo)/2)) (lo+j)) (ky kf (iN (arrOf st) lo (lo+m) ((lo+m-lo)/2)) (lo+i));rw[ZaE ⋯ al,ZaE ⋯ al]
    by_cases d:j<m
    .rw[al (lo+i) ⋯ ⋯,al (lo+j) ⋯ ⋯];exact Zde _
    .have:j=m:=⋯
     subst this;by_cases d2:i=j
     .rw[d2];exact Zde _
     .rw[al (lo+i) ⋯ ⋯];exact ZcB hl
  .rw[if_neg c1]
   have:m=1:=⋯
   subst this;refine Ziv C hn ⋯ hB (λi j ij jx=>?_) q
   by_cases d2:i=j
   .rw[d2];exact Zde _
   .rw[show i=0 by lia,show j=1 by lia];exact ZcB hl
theorem Zpr{lo:Nat}(hs:lo+k<X.size)(lk:l<=k)(hu:UpL kf lo X k)(lo':∀i,i<l->le (ky kf X (lo+i)) (ky kf X (lo+k)))(hi:∀i,l<=i->i<k->lt (ky kf X (lo+k)) (ky kf X (lo+i))=true):UpL kf lo (bubble X (lo+k) (lo+k-(lo+l))) (k+1):=by
 have hd:lo+k-(lo+l)<=lo+k:=Nat.sub_le _ _;have e:∀i,ky kf (bubble X (lo+k) (lo+k-(lo+l))) (lo+i)=if i=l then ky kf X (lo+k)else if l<i/\i<=k then ky kf X (lo+(i-1))else ky kf X (lo+i):=λi=>by
  rw[Zpj hs hd,show lo+k-(lo+k-(lo+l))=lo+l by lia]
  by_cases c:i=l
  .rw[if_pos ⋯,if_pos c]
  .rw[if_neg ⋯,if_neg c]
   by_cases d:l<i/\i<=k
   .rw[if_pos ⋯,if_pos d,show lo+i-1=lo+(i-1)by lia]
   .rw[if_neg ⋯,if_neg d]
 intro i j ij jk;rw[e,e];clear e hd hs;split
 .split
  .exact Zde _
  .rw[if_pos ⋯];exact ZcB (hi _ ⋯ ⋯)
 .split
  .rw[if_neg ⋯,if_pos ⋯];exact hu _ _ ⋯ ⋯
  .split
   .exact lo' _ ⋯
   .split
    .exact hu _ _ ⋯ ⋯
    .exact hu _ _ ⋯ ⋯
theorem Zps(C:Cl (ae prog w) A E s kf B lo N){st:bY}(hn:lo+n<=N)(hk:ok<=n)(hB:B st)(hu:UpL kf lo (arrOf st) ok)(q:∀t,B t->UpL kf lo (arrOf t) n->Q true t):wpS (ae prog w) A E s (binarySort' lo n ok) Q st:=by
 rw[binarySort'_eq];refine ao (dO (bV (λk c t=>c=(none,())/\B t/\UpL kf lo (arrOf t) (min k n)) (Q:=λc t=>c=(none,())/\B t/\UpL kf lo (arrOf t) n) (λk c t ak kn hI=>?_) (λc t hI=>?_) ⟨rfl,hB,λi j ij jn=>?_⟩) λc t hI=>?_)
 .obtain⟨rfl,hB,hu⟩:=hI;rw[fM ⋯]at hu
  have sz:=C.sz t hB;have kN:lo+k<N:=⋯
  refine ao (dO (bV (λx c t'=>t'=t/\∃l r,c=(none,l,r)/\(l<=r/\r<=k/\r-l<=k-x)/\(∀i,i<l->le (ky kf (arrOf t) (lo+i)) (ky kf (arrOf t) (lo+k)))/\∀i,r<=i->i<k->lt (ky kf (arrOf t) (lo+k)) (ky kf (arrOf t) (lo+i))=true) (Q:=λc t'=>t'=t/\∃l r,c=(none,l,r)/\l<=k/\(∀i,i<l->le (ky kf (arrOf t) (lo+i)) (ky kf (arrOf t) (lo+k)))/\∀i,l<=i->i<k->lt (ky kf (arrOf t) (lo+k)) (ky kf (arrOf t) (lo+i))=true) (λx c t' _ xk hI=>?_) (λc t' hI=>?_) ⟨rfl,0,k,rfl,⋯,λi hi=>⋯,λi a b=>⋯⟩) λc t' hI=>?_)
  .obtain⟨rfl,l,r,rfl,⟨lr,rk,hm⟩,lo',hi⟩:=hI;show wpS _ _ _ _ (if l ≥ r then _ else _) _ _
   by_cases c:l ≥ r
   .rw[if_pos c]
    have:l=r:=⋯
    subst this;exact aw ⟨rfl,l,l,rfl,rk,lo',hi⟩
   .rw[if_neg c];refine ao (C.cmp t' (lo+k) (lo+(l+r)/2) _ hB kN ⋯ ?_)
    cases z:lt (ky kf (arrOf t') (lo+k)) (ky kf (arrOf t') (lo+(l+r)/2))with
    |true=>exact aw ⟨rfl,l,(l+r)/2,rfl,⋯,lo',λi a b=>Zfm z (hu _ _ a b)⟩
    |false=>exact aw ⟨rfl,(l+r)/2+1,r,rfl,⋯,λi a=>ZcU (hu i ((l+r)/2) ⋯ ⋯) z,hi⟩
  .obtain⟨rfl,l,r,rfl,⟨lr,rk,hm⟩,lo',hi⟩:=hI
   have:l=r:=⋯
   subst this;exact⟨rfl,l,l,rfl,rk,lo',hi⟩
  .obtain⟨rfl,l,r,rfl,lk,lo',hi⟩:=hI;show wpS _ _ _ _ (moveDown' (lo+k) (lo+l) >>= λ_=>pure (ForInStep.yield (none,()))) _ _;rw[moveDown'_eq];have hd:lo+k-(lo+l)<=lo+k:=⋯
   refine ao (eT (aw ⟨rfl,C.put t' _ hB (bubble_perm ..) (λi hi=>by rw[getElem?_bubble ⋯ _ hd,if_neg ⋯,if_neg ⋯]),?_⟩))
   rw[fM ⋯]
   exact Zpr ⋯ lk hu lo' hi
 .obtain⟨rfl,hB,hu⟩:=hI;rw[show min (max (max ok 1) n) n=n by lia]at hu
  exact⟨rfl,hB,hu⟩
 .by_cases c:ok=0
  .rw[show i=j by lia];exact Zde _
  .exact hu i j ij ⋯
 .obtain⟨rfl,hB,hu⟩:=hI;exact aw (q t hB hu)
end
end ST
namespace ST
open PyProof.Rows
theorem Zfp(a:Nat):∀(out:List aK)(n:Nat)(xs:Array aK)(k:Nat),a+n+out.length<=xs.size->((out.zipIdx n).foldl (λo (q:aK×Nat)=>o.setIfInBounds (a+q.2) q.1) xs)[k]?=if a+n<=k/\k<a+n+out.length then out[k-(a+n)]? else xs[k]?
 |[],n,xs,k,_=>by
  rw[if_neg (by simp)]
  rfl
 |p::out,n,xs,k,h=>by
  rw[aH]at h;rw[List.zipIdx_cons,List.foldl_cons,Zfp a out (n+1) _ k (by rw[Array.size_setIfInBounds];lia)]
  rw[aH];by_cases c:k=a+n
  .subst c;rw[if_neg ⋯,if_pos ⋯,b6 ⋯,c7]
   rfl
  .by_cases d:a+n<=k/\k<a+n+(out.length+1)
   .rw[if_pos ⋯,if_pos d,show k-(a+n)=(k-(a+(n+1)))+1 by lia,dN]
   .rw[if_neg ⋯,if_neg d,cK ⋯]
theorem Zko{xs:Array aK}(h:a+out.length<=xs.size):((out.zipIdx).foldl (λo (q:aK×Nat)=>o.setIfInBounds (a+q.2) q.1) xs).toList=xs.toList.take a++out++xs.toList.drop (a+out.length):=by
 have hl:xs.toList.length=xs.size:=bf;apply eG;intro k;rw[bo,Zfp a out 0 xs k ⋯,gk,cU]
 by_cases c:k<a
 .rw[if_neg ⋯,aO (by rw[cD,hl];lia),List.getElem?_take,if_pos c,bo]
 .rw[aJ (by rw[cD,hl];lia),cD,hl,fM ⋯]
  by_cases d:k<a+out.length
  .rw[if_pos ⋯,aO ⋯]
  .rw[if_neg ⋯,aJ ⋯,ir,bo]
   congr 1;lia
def Seg(kf:aK->List Int)(xs:Array aK)(a b:Nat):Prop:=∀i j,a<=i->i<=j->j<b->le (ky kf xs i) (ky kf xs j)
theorem Zli(hb:b<=xs.size)(hi:i<b-a):ky kf (xs.extract a b) i=ky kf xs (a+i):=by
 unfold ky;rw[i6,if_pos ⋯]
theorem Zlj{xs:Array aK}(hb:b<=xs.size):(xs.extract a b).size=b-a:=by rw[Array.size_extract];lia
section
variable {prog:bO}{st:bY}
theorem ZmS{st:bY}(h:Q ⟨⟩ st'):wpS M A E s (set st':SM PUnit) Q st:=by
 unfold wpS;rw[StateT.run_set];exact Wp ⟨rfl,h⟩
theorem Zd3(s1:Seg kf X a Q)(s2:Seg kf X Q T)(cr:∀i j,a<=i->i<Q->Q<=j->j<T->le (ky kf X i) (ky kf X j)):Seg kf X a T:=λi j ai ij jb=>by
 by_cases d1:j<Q
 .exact s1 i j ai ij d1
 .by_cases d2:i<Q
  .exact cr i j ai d2 ⋯ jb
  .exact s2 i j ⋯ ij jb
theorem Ziw(QR:Q<=R)(RT:R<=T)(PQ:P<=Q)(s1:Seg kf X a Q)(s2:Seg kf X Q T)(pre:∀i j,a<=i->i<P->Q<=j->j<T->le (ky kf X i) (ky kf X j))(suf:∀i j,a<=i->i<Q->R<=j->j<T->le (ky kf X i) (ky kf X j))(aP:a<=P)(mem:∀j,P<=j->j<R->∃l,P<=l/\l<R/\ky kf Y j=ky kf X l)(sY:Seg kf Y P R)(ko:∀j,¬(P<=j/\j<R)->ky kf Y j=ky kf X j):Seg kf Y a T:=by
 refine Zd3 (Q:=R) (Zd3 (Q:=P) (λi j ai ij jb=>?_) sY λi j ai iP Pj jR=>?_) (λi j ai ij jb=>?_) λi j ai iR Rj jT=>?_
 .rw[ko i ⋯,ko j ⋯]
  exact s1 i j ai ij ⋯
 .rw[ko i ⋯]
  obtain⟨l,l1,l2,l3⟩:=mem j Pj jR;rw[l3];by_cases c:l<Q
  .exact s1 i l ai ⋯ c
  .exact pre i l ai iP ⋯ ⋯
 .rw[ko i ⋯,ko j ⋯]
  exact s2 i j ⋯ ij jb
 .rw[ko j ⋯]
  have key:∀l,a<=l->l<R->le (ky kf X l) (ky kf X j):=λl h1 h2=>by
   by_cases c:l<Q
   .exact suf l j h1 c Rj jT
   .exact s2 l j ⋯ ⋯ jT
  by_cases c:i<P
  .rw[ko i ⋯]
   exact key i ai iR
  .obtain⟨l,l1,l2,l3⟩:=mem i ⋯ iR
   rw[l3];exact key l ⋯ l2
theorem ZuK(C:Cp (ae prog w) A E s kf G B)(hB:B st)(h1:(pendingOf st)[i]?=some (a,n,p))(h2:(pendingOf st)[i+1]?=some (b,m,q))(hb:b=a+n)(n1:1<=n)(m1:1<=m)(hs:b+m<=(arrOf st).size)(s1:Seg kf (arrOf st) a b)(s2:Seg kf (arrOf st) b (b+m))(h:∀t,B t->pendingOf t=((pendingOf st).setIfInBounds i (a,n+m,p)).eraseIdxIfInBounds (i+1)->(arrOf t).size=(arrOf st).size->(∀k,¬(a<=k/\k<b+m)->(arrOf t)[k]?=(arrOf st)[k]?)->Seg kf (arrOf t) a (b+m)->Q true t):wpS (ae prog w) A E s (mergeAt' i) Q st:=by
 subst hb;generalize hX:arrOf st=X at hs s1 s2 h;have gX:Gs G X:=λk r hk=>by
  subst hX;exact C.good st hB r (by rw[Array.mem_toList_iff];exact Array.mem_of_getElem? hk)
 rw[Zfn];refine ao (hJ ?_);dsimp only;rw[h1,h2];dsimp only;have b2:=C.pen st (((pendingOf st).setIfInBounds i (a,n+m,p)).eraseIdxIfInBounds (i+1)) hB;refine ao (ZmS ?_);rw[hX];have hbX:a+n<X.size:=⋯
 have hcX:a+n-1<X.size:=⋯
 refine ao (Zaf (getElem?_pos X (a+n) hbX) (ao (ZbT C b2 (gX _ _ (getElem?_pos X (a+n) hbX)) gX ⋯ ⋯ (λi j ij jn=>s1 _ _ ⋯ ⋯ ⋯) λk kn f1 f2=>?_)))
 rw[<-Z3 (kf:=kf) hbX]at f1 f2;have g1:∀j,j<k->le (ky kf X (a+j)) (ky kf X (a+n)):=λj hj=>by
  have z:=f1 j hj;unfold frk at z;rw[if_neg (by simp),dz]at z
  exact z
 have g2:∀j,k<=j->j<n->lt (ky kf X (a+n)) (ky kf X (a+j))=true:=λj hj hn=>by
  have z:=f2 j hj hn;unfold frk at z;rw[if_neg (by simp),iu]at z
  exact z
 have pre:∀i j,a<=i->i<a+k->a+n<=j->j<a+n+m->le (ky kf X i) (ky kf X j):=λi j c d e f=>by
  have:=g1 (i-a) ⋯
  rw[show a+(i-a)=i by lia]at this
  exact ZcU this (s2 _ _ (ac _) e f)
 dsimp only;by_cases c1:n-k=0
 .rw[if_pos (by simpa using c1)]
  exact aw (h _ b2 rfl (by rw[<-hX]) (λ_ _=>by rw[<-hX]) (by
   show Seg kf (arrOf st) a (a+n+m);rw[hX];exact Zd3 s1 s2 λi j a b=>pre i j a ⋯))
 rw[if_neg (by simpa using c1),show a+k+(n-k)-1=a+n-1 by lia]
 refine ao (Zaf (getElem?_pos X (a+n-1) hcX) (ao (ZbT C b2 (gX _ _ (getElem?_pos X (a+n-1) hcX)) gX ⋯ hs (λi j ij jn=>s2 _ _ ⋯ ⋯ ⋯) λr rn e1 e2=>?_)))
 rw[<-Z3 (kf:=kf) hcX]at e1 e2;have k1:∀j,j<r->le (ky kf X (a+n+j)) (ky kf X (a+n-1)):=λj hj=>by
  have z:=e1 j hj;unfold frk at z;rw[if_pos rfl]at z;exact ZcB z
 have k2:∀j,r<=j->j<m->le (ky kf X (a+n-1)) (ky kf X (a+n+j)):=λj hj hn=>by
  have z:=e2 j hj hn;unfold frk at z;rw[if_pos rfl]at z;exact z
 have suf:∀i j,a<=i->i<a+n->a+n+r<=j->j<a+n+m->le (ky kf X i) (ky kf X j):=λi j c d e f=>by
  have:=k2 (j-(a+n)) ⋯ ⋯
  rw[show a+n+(j-(a+n))=j by lia]at this
  exact ZcU (s1 i (a+n-1) c ⋯ ⋯) this
 dsimp only;by_cases c2:r=0
 .rw[if_pos (by simpa using c2)]
  exact aw (h _ b2 rfl (by rw[<-hX]) (λ_ _=>by rw[<-hX]) (by
   show Seg kf (arrOf st) a (a+n+m);rw[hX];exact Zd3 s1 s2 λi j a b c d=>suf i j a b ⋯ d))
 rw[if_neg (by simpa using c2)]
 have zx:(X.extract (a+k) (a+n)).size=n-k:=by rw[Zlj ⋯];lia
 have zy:(X.extract (a+n) (a+n+r)).size=r:=by rw[Zlj ⋯];lia
 have kx:∀j,j<n-k->ky kf (X.extract (a+k) (a+n)) j=ky kf X (a+k+j):=λj hj=>Zli ⋯ ⋯
 have kyy:∀j,j<r->ky kf (X.extract (a+n) (a+n+r)) j=ky kf X (a+n+j):=λj hj=>Zli ⋯ ⋯
 have gsx:∀u v,Gs G (X.extract u v):=λu v j z hj=>by
  rw[i6]at hj
  split at hj
  .exact gX _ _ hj
  .cases hj
 have sx:Up kf (X.extract (a+k) (a+n)) (X.extract (a+k) (a+n)).size:=λi j ij hj=>by
  rw[zx]at hj;rw[kx i ⋯,kx j hj]
  exact s1 _ _ ⋯ ⋯ ⋯
 have sy:Up kf (X.extract (a+n) (a+n+r)) (X.extract (a+n) (a+n+r)).size:=λi j ij hj=>by
  rw[zy]at hj;rw[kyy i ⋯,kyy j hj]
  exact s2 _ _ ⋯ ⋯ ⋯
 have first:∀i,i<n-k->le (ky kf (X.extract (a+n) (a+n+r)) 0) (ky kf (X.extract (a+k) (a+n)) i):=λi hi=>by
  rw[kyy 0 ⋯,kx i hi,gk,eA]
  exact ZcB (g2 (k+i) ⋯ ⋯)
 have last:∀i,i<r->le (ky kf (X.extract (a+n) (a+n+r)) i) (ky kf (X.extract (a+k) (a+n)) ((X.extract (a+k) (a+n)).size-1)):=λi hi=>by
  rw[zx,kyy i hi,kx (n-k-1) ⋯,show a+k+(n-k-1)=a+n-1 by lia]
  exact k1 i hi
 have go:∀out t,B t->arrOf t=arrOf (eQ st (((pendingOf st).setIfInBounds i (a,n+m,p)).eraseIdxIfInBounds (i+1)))->pendingOf t=pendingOf (eQ st (((pendingOf st).setIfInBounds i (a,n+m,p)).eraseIdxIfInBounds (i+1)))->Md kf (X.extract (a+k) (a+n)) (X.extract (a+n) (a+n+r)) out->
   Q true (kJ t ((out.toList.zipIdx).foldl (λo (q:aK×Nat)=>o.setIfInBounds (a+k+q.2) q.1) (arrOf t))):=by
  intro out t bt ea ep md
  replace ea:arrOf t=X:=ea.trans hX
  have zo:out.size=n-k+r:=by rw[md.1.size_eq,Array.size_append,zx,zy]
  have hlen:a+k+out.toList.length<=X.size:=by rw[bf];lia
  rw[ea];generalize hY:(out.toList.zipIdx).foldl (λo (q:aK×Nat)=>o.setIfInBounds (a+k+q.2) q.1) X=Y;have yg:∀j:Nat,Y[j]?=if a+k<=j/\j<a+n+r then out[j-(a+k)]? else X[j]?:=λj=>by
   rw[<-hY,Zfp (a+k) out.toList 0 X j ⋯,gk,bf,bo,zo]
   by_cases c:a+k<=j/\j<a+n+r
   .rw[if_pos ⋯,if_pos c]
   .rw[if_neg ⋯,if_neg c]
  have xl:X.toList=X.toList.take (a+k)++((X.extract (a+k) (a+n)).toList++(X.extract (a+n) (a+n+r)).toList)++X.toList.drop (a+n+r):=by
   rw[cT,cT,cp,cp];have e1:X.toList.drop (a+k)=(X.toList.drop (a+k)).take (a+n-(a+k))++X.toList.drop (a+n):=by
    conv=>lhs;rw[<-eF (a+n-(a+k)) (X.toList.drop (a+k))]
    rw[List.drop_drop,show a+k+(a+n-(a+k))=a+n by lia]
   have e2:X.toList.drop (a+n)=(X.toList.drop (a+n)).take (a+n+r-(a+n))++X.toList.drop (a+n+r):=by
    conv=>lhs;rw[<-eF (a+n+r-(a+n)) (X.toList.drop (a+n))]
    rw[List.drop_drop,show a+n+(a+n+r-(a+n))=a+n+r by lia]
   rw[cU,cU,<-e2,<-e1,eF]
  have pm:Y.Perm X:=bT.mpr (by
   rw[xl,<-hY,Zko hlen,bf,zo,show a+k+(n-k+r)=a+n+r by lia]
   refine List.Perm.append_right _ (List.Perm.append_left _ ?_);rw[<-dL];exact bT.mp md.1)
  have mem:∀j,j<out.size->∃l,a+k<=l/\l<a+n+r/\ky kf out j=ky kf X l:=λj hj=>by
   have hm:out[j]∈(X.extract (a+k) (a+n)++X.extract (a+n) (a+n+r)).toList:=(bT.mp md.1).mem_iff.mp (by simp)
   rw[dL]at hm;rcases cV.mp hm with hm|hm
   .obtain⟨l,hl,el⟩:=bw hm;rw[bf,zx]at hl;refine⟨a+k+l,⋯,⋯,?_⟩
    rw[<-kx l hl,Z3 hj,Z3 ⋯,<-el]
    rfl
   .obtain⟨l,hl,el⟩:=bw hm;rw[bf,zy]at hl;refine⟨a+n+l,⋯,⋯,?_⟩
    rw[<-kyy l hl,Z3 hj,Z3 ⋯,<-el]
    rfl
  have ki:∀j,a+k<=j->j<a+n+r->ky kf Y j=ky kf out (j-(a+k)):=λj c d=>Zdf (by rw[yg,if_pos ⟨c,d⟩])
  have ko:∀j,¬(a+k<=j/\j<a+n+r)->ky kf Y j=ky kf X j:=λj c=>Zdf (by rw[yg,if_neg c])
  refine h _ (C.put t _ bt (by rw[ea];exact pm)) ep pm.size_eq (λj c=>?_) (Ziw (Y:=Y) (P:=a+k) (R:=a+n+r) ⋯ ⋯ ⋯ s1 s2 pre suf ⋯ (λj c d=>?_) (λi j c e d=>?_) ko)
  .show Y[j]?=X[j]?;rw[yg,if_neg ⋯]
  .rw[ki j c d];exact mem _ ⋯
  .rw[ki i c ⋯,ki j ⋯ d]
   exact md.2 _ _ ⋯ ⋯
 have fl:∀(out:Array aK) t,B t->Q true (kJ t ((out.toList.zipIdx).foldl (λo (q:aK×Nat)=>o.setIfInBounds (a+k+q.2) q.1) (arrOf t)))->wpS (ae prog w) A E s (do
   modify λt=>kJ t ((out.toList.zipIdx).foldl (λo (q:aK×Nat)=>o.setIfInBounds (a+k+q.2) q.1) (arrOf t))
   return (gL (<-get)).isNone) Q t:=λout t bt hq=>by
  refine ao (eT (ao (hJ (aw ?_))));rw[show(gL (kJ t ((out.toList.zipIdx).foldl (λo (q:aK×Nat)=>o.setIfInBounds (a+k+q.2) q.1) (arrOf t)))).isNone=true from by
   show(gL t).isNone=true;rw[C.fail t bt]
   rfl]
  exact hq
 by_cases c3:n-k<=r
 .rw[if_pos c3];exact ao (ZuI C b2 (gsx _ _) (gsx _ _) sx sy ⋯ ⋯ (first 0 ⋯) (λi hi=>last i ⋯) λout t bt ea ep md=>fl out t bt (go out t bt ea ep md))
 .rw[if_neg c3];exact ao (ZuJ C b2 (gsx _ _) (gsx _ _) sx sy ⋯ ⋯ (λi hi=>last i ⋯) (λi hi=>first i ⋯) λout t bt ea ep md=>fl out t bt (go out t bt ea ep md))
end
end ST
namespace ST
open PyProof.Rows
variable {kf:aK->List Int}
def Pd(kf:aK->List Int)(xs:Array aK):Nat->List (Nat×Nat)->Nat->Prop
 |a,[],b=>a=b
 |a,(c,n)::r,b=>c=a/\1<=n/\Seg kf xs a (a+n)/\Pd kf xs (a+n) r b
theorem Pd.app{xs:Array aK}{b:Nat}{S:List (Nat×Nat)}:∀{P:List (Nat×Nat)} {a:Nat},Pd kf xs a (P++S) b↔∃c,Pd kf xs a P c/\Pd kf xs c S b
 |[],a=>⟨λh=>⟨a,rfl,h⟩,λ⟨c,h,k⟩=>by cases h;exact k⟩
 | (c,n)::P,a=>by
  constructor
  .rintro⟨h1,h2,h3,h4⟩;obtain⟨d,k1,k2⟩:=Pd.app.mp h4;exact⟨d,⟨h1,h2,h3,k1⟩,k2⟩
  .rintro⟨d,⟨h1,h2,h3,k1⟩,k2⟩;exact⟨h1,h2,h3,Pd.app.mpr ⟨d,k1,k2⟩⟩
theorem Pd.le{xs:Array aK}{b:Nat}:∀{L:List (Nat×Nat)} {a:Nat},Pd kf xs a L b->a+L.length<=b
 |[],a,h=>by cases h;simp
 | (c,n)::P,a,⟨_,h2,_,h4⟩=>by
  have:=h4.le
  rw[aH];lia
theorem Seg.same(h:Seg kf xs a b)(e:∀k,a<=k->k<b->ys[k]?=xs[k]?):Seg kf ys a b:=λi j ai ij jb=>by
 rw[Zdf (e i ai ⋯),Zdf (e j ⋯ jb)]
 exact h i j ai ij jb
theorem Pd.same{xs ys:Array aK}{b:Nat}:∀{L:List (Nat×Nat)} {a:Nat},Pd kf xs a L b->(∀k,a<=k->k<b->ys[k]?=xs[k]?)->Pd kf ys a L b
 |[],a,h,_=>h
 | (c,n)::P,a,⟨h1,h2,h3,h4⟩,e=>⟨h1,h2,h3.same λk c d=>e k c (by have:=h4.le;lia),h4.same λk c d=>e k ⋯ d⟩
noncomputable def pl(p:Array (Nat×Nat×Nat)):List (Nat×Nat):=p.toList.map λx=>(x.1,x.2.1)
theorem Zpt{α:Type}{P S:List α}{x y z:α}:((P++x::y::S).set P.length z).eraseIdx (P.length+1)=P++z::S:=by
 induction P with
 |nil=>rfl
 |cons a P ih=>show a::((P++x::y::S).set P.length z).eraseIdx (P.length+1)=_;rw[ih];rfl
section
variable {prog:bO}{w:cu}{st:bY}
theorem Zpu{α:Type}{L:List α}(h:i+1<L.length):∃P x y S,L=P++x::y::S/\P.length=i:=by
 refine⟨L.take i,L[i],L[i+1],L.drop (i+2),?_,by rw[cD];lia⟩
 rw[<-cj h,<-cj ⋯,eF]
theorem Zix(C:Cp (ae prog w) A E s kf G B)(hB:B st){lo:Nat}(hp:Pd kf (arrOf st) 0 (pl (pendingOf st)) lo)(hi:i+1<(pendingOf st).size)(hl:lo<=(arrOf st).size)(h:∀t,B t->Pd kf (arrOf t) 0 (pl (pendingOf t)) lo->(pendingOf t).size+1=(pendingOf st).size->(arrOf t).size=(arrOf st).size->(∀k,lo<=k->(arrOf t)[k]?=(arrOf st)[k]?)->Q true t):wpS (ae prog w) A E s (mergeAt' i) Q st:=by
 obtain⟨P,x,y,S,e,el⟩:=Zpu (L:=(pendingOf st).toList) (i:=i) (by simpa using hi)
 obtain⟨a,n,p⟩:=x;obtain⟨b,m,q⟩:=y;have hp':=hp;unfold pl at hp';rw[e,cZ,Pd.app]at hp';obtain⟨c,p1,p2⟩:=hp';obtain⟨rfl,n1,s1,rfl,m1,s2,p3⟩:=p2;dsimp only at p1 n1 s1 e m1 s2 p3;have lc:=p1.le;have lb:=p3.le;have g1:(pendingOf st)[i]?=some (a,n,p):=by
  rw[<-bo,e,<-el,aJ (ac _),c7];rfl
 have g2:(pendingOf st)[i+1]?=some (a+n,m,q):=by
  rw[<-bo,e,<-el,aJ ⋯,show P.length+1-P.length=1 by lia]
  rfl
 refine ZuK C hB g1 g2 rfl n1 m1 ⋯ s1 s2 λt bt ept zt ot sg=>?_
 have etl:(pendingOf t).toList=P++(a,n+m,p)::S:=by
  rw[ept]
  have:(((pendingOf st).setIfInBounds i (a,n+m,p)).eraseIdxIfInBounds (i+1)).toList=((pendingOf st).toList.set i (a,n+m,p)).eraseIdx (i+1):=by
   simp[Array.toList_eraseIdxIfInBounds]
  rw[this,e,<-el,Zpt]
 have zz:(pendingOf t).size+1=(pendingOf st).size:=by
  rw[<-bf,<-bf,etl,e];simp;lia
 refine h t bt ?_ zz zt λk hk=>ot k ⋯
 unfold pl;rw[etl,cZ,Pd.app];refine⟨a,p1.same λk _ hk=>ot k ⋯,rfl,(by show 1<=n+m;lia),?_,?_⟩
 .show Seg kf (arrOf t) a (a+(n+m));rw[<-eA];exact sg
 .show Pd kf (arrOf t) (a+(n+m)) _ lo;rw[<-eA];exact p3.same λk hk _=>ot k ⋯
theorem Cl.of(C:Cp (ae prog w) A E s kf G B)(hz:∀t,B t->(arrOf t).size=N)(lo:Nat)(p0:Array (Nat×Nat×Nat))(X:Array aK):Cl (ae prog w) A E s kf (λt=>B t/\pendingOf t=p0/\∀k,k<lo->(arrOf t)[k]?=X[k]?) lo N where
 sz t h:=hz t h.1
 put t xs h hp hk:=⟨C.put t xs h.1 hp,h.2.1,λk kl=>(hk k kl).trans (h.2.2 k kl)⟩
 cmp t i j Q h hi hj q:=by
  have z:=hz t h.1;have e1:(arrOf t)[i]?=some ((arrOf t)[i]'⋯):=getElem?_pos _ i ⋯
  have e2:(arrOf t)[j]?=some ((arrOf t)[j]'⋯):=getElem?_pos _ j ⋯
  rw[ltAt'_eq];refine ao (hJ ?_);show wpS _ _ _ _ (elem' (arrOf t) i >>= λx=>elem' (arrOf t) j >>= λy=>lt' x y) Q t;refine ao (Zaf e1 (ao (Zaf e2 (C.cmp t _ _ _ h.1 (C.good t h.1 _ (by simp)) (C.good t h.1 _ (by simp)) ?_))))
  rw[Z3 ⋯,Z3 ⋯]at q
  exact q
theorem ZmT:pl (p.push x)=pl p++[(x.1,x.2.1)]:=by
 unfold pl;rw[eI,cZ];rfl
theorem Zlk:(pl p).length=p.size:=by unfold pl;rw[aC,bf]
theorem Zpv:pl (p.modify i λ(a,n,_)=>(a,n,v))=pl p:=by
 unfold pl;apply eG;intro k;rw[bH,bH,bo,bo,Array.getElem?_modify];split
 .cases p[k]?<;>rfl
 .rfl
def ruC(N lo n:Nat):SM (ForInStep (Option Unit×Nat)):=do
 let st <-get
 match(pendingOf st).back? with
 |some (s1,n1,_)=>do
  let s <-forIn [0:N] ((none,()):Option Unit×Unit) λ_ _=>do
   let st <-get
   match if(pendingOf st).size>1 then(pendingOf st)[(pendingOf st).size-2]? else none with
   |some (_,_,older)=>
    if older<=power' N (2*s1+n1) (2*s1+n1+n1+n) N then pure (.done (none,()))else do
     let b <-mergeAt' ((pendingOf st).size-2)
     if !b then pure (.done (some (),()))else pure (.yield (none,()))
   |_=>pure (.done (none,()))
  match s.1 with
  |some r=>pure (.done (some r,lo))
  |none=>do
   modify λs=>eQ s ((pendingOf s).modify ((pendingOf s).size-1) λ(st,len,_)=>(st,len,power' N (2*s1+n1) (2*s1+n1+n1+n) N))
   modify λs=>eQ s ((pendingOf s).push (lo,n,0))
   pure (.yield (none,lo+n))
 |_=>do
  modify λs=>eQ s ((pendingOf s).push (lo,n,0))
  pure (.yield (none,lo+n))
def ruB(N mr lo:Nat):SM (ForInStep (Option Unit×Nat)):=
 if lo ≥ N then pure (.done (none,lo))else do
  match <-countRun' lo (N-lo)with
  |some n=>
   if n<mr then do
    liftM (PySem.rule "list.sort.binary-insertion")
    let b <-binarySort' lo (min (N-lo) mr) n
    if !b then pure (.done (some (),lo))else ruC N lo (min (N-lo) mr)
   else ruC N lo n
  |_=>pure (.done (some (),lo))
theorem ZmU:sortRuns'=(do
  let st <-get
  let s <-forIn [0:(arrOf st).size] ((none,0):Option Unit×Nat) λ_ s=>ruB (arrOf st).size (minRun' (arrOf st).size (arrOf st).size 0) s.2
  match s.1 with
  |some r=>pure r
  |none=>do
   let s <-forIn [0:(arrOf st).size] ((none,()):Option Unit×Unit) λ_ _=>do
    let t <-get
    if(pendingOf t).size<=1 then pure (.done (none,()))else do
     let b <-mergeAt' (if Option.any (λx=>decide (x<(pendingOf t)[(pendingOf t).size-2+1]?.elim 0 λx=>x.2.1)) (if(pendingOf t).size-2>0 then Option.map (λx=>x.2.1) (pendingOf t)[(pendingOf t).size-2-1]? else none)=true then(pendingOf t).size-2-1 else(pendingOf t).size-2)
     if !b then pure (.done (some (),()))else pure (.yield (none,()))
   match s.1 with
   |some r=>pure r
   |none=>pure ()):=by kernel_rfl
theorem Zpw(C:Cp (ae prog w) A E s kf G B)(hz:∀t,B t->(arrOf t).size=N){lo:Nat}(h1:1<=n)(hn:lo+n<=N)(hB:B st)(eX:arrOf st=X)(up:UpL kf lo X n)(pd:Pd kf X 0 (pl (pendingOf st)) lo)(q:∀t,B t->Pd kf (arrOf t) 0 (pl (pendingOf t)) (lo+n)->R (.yield (none,lo+n)) t):wpS (ae prog w) A E s (ruC N lo n) R st:=by
 subst eX;unfold ruC;refine ao (hJ ?_);have fin:∀t3,B t3->Pd kf (arrOf t3) 0 (pl (pendingOf t3)) lo->(∀k,lo<=k->(arrOf t3)[k]?=(arrOf st)[k]?)->R (.yield (none,lo+n)) (eQ t3 ((pendingOf t3).push (lo,n,0))):=λt3 b3 p3 f3=>by
  refine q _ (C.pen t3 _ b3) ?_;show Pd kf (arrOf t3) 0 (pl ((pendingOf t3).push (lo,n,0))) (lo+n);rw[ZmT,Pd.app];refine⟨lo,p3,rfl,h1,λi j a ij (jb:j<lo+n)=>?_,rfl⟩;rw[Zdf (f3 i a),Zdf (f3 j ⋯)]
  have:=up (i-lo) (j-lo) ⋯ ⋯
  rw[show lo+(i-lo)=i by lia,show lo+(j-lo)=j by lia]at this
  exact this
 cases hbk:(pendingOf st).back? with
 |none=>exact ao (eT (aw (fin st hB pd λ_ _=>rfl)))
 |some x=>
  obtain⟨u1,u2,u3⟩:=x;dsimp only;refine ao (dO (bV (λn r t=>B t/\r=(none,())/\Pd kf (arrOf t) 0 (pl (pendingOf t)) lo/\∀k,lo<=k->(arrOf t)[k]?=(arrOf st)[k]?) (Q:=λr t=>B t/\r=(none,())/\Pd kf (arrOf t) 0 (pl (pendingOf t)) lo/\∀k,lo<=k->(arrOf t)[k]?=(arrOf st)[k]?) (λn r t _ nn hI=>?_) (λr t hI=>hI) ⟨hB,rfl,pd,λ_ _=>rfl⟩) λr t hI=>?_)
  .obtain⟨bt,rfl,pt,ft⟩:=hI;refine ao (hJ ?_);by_cases c:(pendingOf t).size>1
   .rw[if_pos c,getElem?_pos (pendingOf t) ((pendingOf t).size-2) ⋯]
    generalize (pendingOf t)[(pendingOf t).size-2]=y;obtain⟨y1,y2,y3⟩:=y;dsimp only;split
    .exact aw ⟨bt,rfl,pt,ft⟩
    .refine ao (Zix C bt pt ⋯ (by rw[hz t bt];lia) λt3 b3 p3 z3 zt ot=>?_)
     rw[if_neg (by simp)]
     exact aw ⟨b3,rfl,p3,λk hk=>(ot k hk).trans (ft k hk)⟩
   .rw[if_neg c];exact aw ⟨bt,rfl,pt,ft⟩
  .obtain⟨bt,rfl,pt,ft⟩:=hI;dsimp only;refine ao (eT (ao (eT (aw (fin (eQ t _) (C.pen t _ bt) ?_ ft)))));show Pd kf (arrOf t) 0 (pl ((pendingOf t).modify _ _)) lo;rw[Zpv];exact pt
theorem Ziy(C:Cp (ae prog w) A E s kf G B)(hz:∀t,B t->(arrOf t).size=N)(n1:1<=N)(hB:B st)(hp:pendingOf st= #[])(h:∀t,B t->Up kf (arrOf t) N->Q () t):wpS (ae prog w) A E s sortRuns' Q st:=by
 rw[ZmU];refine ao (hJ ?_);rw[hz st hB];generalize minRun' N N 0=mr;refine ao (dO (bV (λn r t=>B t/\∃lo,r=(none,lo)/\(n<=lo/\lo<=N)/\Pd kf (arrOf t) 0 (pl (pendingOf t)) lo) (Q:=λr t=>B t/\r=(none,N)/\Pd kf (arrOf t) 0 (pl (pendingOf t)) N) (λn r t _ nn hI=>?_) (λr t hI=>?_) ⟨hB,0,rfl,⋯,by rw[hp];rfl⟩) λr t hI=>?_)
 .obtain⟨bt,lo,rfl,⟨l1,l2⟩,pd⟩:=hI;dsimp only;unfold ruB;by_cases c:lo ≥ N
  .rw[if_pos c]
   have:lo=N:=⋯
   subst this;exact aw ⟨bt,rfl,pd⟩
  rw[if_neg c];have fin:∀n':Nat,1<=n'->lo+n'<=N->∀t,B t->Pd kf (arrOf t) 0 (pl (pendingOf t)) (lo+n')->B t/\∃lo',((none,lo+n'):Option Unit×Nat)=(none,lo')/\(n+1<=lo'/\lo'<=N)/\Pd kf (arrOf t) 0 (pl (pendingOf t)) lo':=λn' a b t bt p=>⟨bt,_,rfl,⋯,p⟩
  refine ao (Zpq (Cl.of C hz lo (pendingOf t) (arrOf t)) ⋯ ⋯ ⟨bt,rfl,λ_ _=>rfl⟩ λm t1 b1 m1 m2 up1=>?_)
  have b1':=b1;obtain⟨b1,e1,fr1⟩:=b1;dsimp only;by_cases cm:m<mr
  .rw[if_pos cm];refine ao (iU (cN ⟨rfl,ao (Zps (Cl.of C hz lo (pendingOf t) (arrOf t)) ⋯ ⋯ b1' up1 λt2 b2 up2=>?_)⟩))
   obtain⟨b2,hpe,hfr⟩:=b2;rw[if_neg (by simp)]
   exact Zpw C hz ⋯ ⋯ b2 rfl up2 (by rw[hpe];exact pd.same λk _ hk=>hfr k hk) (fin _ ⋯ ⋯)
  .rw[if_neg cm];exact Zpw C hz ⋯ ⋯ b1 rfl up1 (by rw[e1];exact pd.same λk _ hk=>fr1 k hk) (fin _ ⋯ ⋯)
 .obtain⟨bt,lo,rfl,⟨l1,l2⟩,pd⟩:=hI
  have:lo=N:=⋯
  subst this;exact⟨bt,rfl,pd⟩
 .obtain⟨bt,rfl,pd⟩:=hI;dsimp only;refine ao (dO (bV (λn r t=>B t/\r=(none,())/\(pendingOf t).size+n<=N/\Pd kf (arrOf t) 0 (pl (pendingOf t)) N) (Q:=λr t=>B t/\r=(none,())/\(pendingOf t).size<=1/\Pd kf (arrOf t) 0 (pl (pendingOf t)) N) (λn r t _ nn hI=>?_) (λr t hI=>?_) ⟨bt,rfl,by have:=pd.le;rw[Zlk]at this;lia,pd⟩) λr t hI=>?_)
  .obtain⟨bt,rfl,zn,pd⟩:=hI;refine ao (hJ ?_);by_cases c:(pendingOf t).size<=1
   .rw[if_pos c];exact aw ⟨bt,rfl,c,pd⟩
   rw[if_neg c];have key:∀(c:Bool)(a k:Nat),a+1<k->(if c=true then a-1 else a)+1<k:=λc a k h=>by cases c<;>simp<;>lia
   refine ao (Zix C bt pd (key _ _ _ ⋯) (by rw[hz t bt];lia) λt3 b3 p3 z3 zt ot=>?_)
   rw[if_neg (by simp)]
   exact aw ⟨b3,rfl,⋯,p3⟩
  .obtain⟨bt,rfl,zn,pd⟩:=hI;exact⟨bt,rfl,⋯,pd⟩
  .obtain⟨bt,rfl,zn,pd⟩:=hI;refine aw (h t bt ?_);rw[<-Zlk]at zn
   match pl (pendingOf t),zn,pd with
   |[],_,e=>exact λi j ij hj=>by cases e;lia
   |[(a,n)],_,⟨h1,h2,h3,h4⟩=>
    cases h1
    have:0+n=N:=h4
    rw[this]at h3;exact λi j ij hj=>h3 i j ⋯ ij hj
   |_::_::_,z,_=>simp at z
end
end ST
namespace ST
open PyProof.Rows
section
variable {prog:bO}{w:cu}{A:cb}{E:Vp}{s:az}
theorem Ziz(x y:aa):keyLt' (lG true) x y=(do
  let xs <-gm x
  let ys <-gm y
  for ((p,q),i)in (xs.toList.zip ys.toList).zipIdx do
   if !(<-eqBool p q)then return <-oneLt' (true&&i==0) p q
  return decide (xs.size<ys.size)):=rfl
noncomputable def Zpx(x:(aa×aa)×Nat)(_:Option Bool×Unit):Sem (ForInStep (Option Bool×Unit)):=match x with
 | ((p,q),i)=>do
  let b <-eqBool p q
  if(!b)=true then do
   let r <-oneLt' (true&&i==0) p q
   pure (ForInStep.done (some r,()))
  else pure (ForInStep.yield (none,()))
theorem ZiA(h:Q (decide (a<b)) s):wpAny (ae prog w) A (oneLt' f (.int a t) (.int b u)) Q E s:=by
 cases f with
 |true=>exact oneLt_int h
 |false=>
  rw[oneLt'_eq];simp only[aX,if_false];exact Wb (HT.ZjF _ _ _ _ _ _ _ _ _ _ (cx h))
theorem Zkp:∀{us vs:List aa}{ns ms:List Int},f9 us ns->f9 vs ms->∀(k:Nat)(Q:Option Bool×Unit->az->Prop),(∀b,b=HT.Zbn ns ms->Q (some b,()) s)->(HT.Zbn ns ms=decide (us.length<vs.length)->Q (none,()) s)->wpAny (ae prog w) A (forIn ((us.zip vs).zipIdx k) (none,()) Zpx) Q E s:=by
 intro us vs ns ms hu
 induction hu generalizing vs ms with
 |nil=>
  intro hv k Q _ h2;simp only[List.zip_nil_left,List.zipIdx_nil,gj];refine Wp (h2 ?_);cases hv<;>simp[HT.Zbn]
 |@cons n t us ns hu ih=>
  intro hv k Q h1 h2;cases hv with
  |nil=>
   simp only[List.zip_nil_right,List.zipIdx_nil,gj];exact Wp (h2 (by simp[HT.Zbn]))
  |@cons m u vs ms hv=>
   rw[List.zip_cons_cons,List.zipIdx_cons,fK];obtain⟨e,he,hi⟩:=HT.ZjE A s n t m u;refine Wb (Wb (he prog w _ _ ?_));cases e with
   |true=>
    have:n=m:=hi.mp rfl
    subst this;refine Wp (ih hv (k+1) Q (λb hb=>h1 b ?_) λz=>h2 ?_)
    .rw[HT.ZaQ,if_pos rfl];exact hb
    .rw[HT.ZaQ,if_pos rfl,z];simp
   |false=>
    have:n≠m:=λz=>by have:=hi.mpr z;cases this
    refine Wb (ZiA (Wp (Wp (h1 _ ?_))));rw[HT.ZaQ,if_neg this]
def ZcC(h:Heap)(v:aa)(ns:List Int):Prop:=∃a o its n,v=.ref a/\h.get? a=some o/\o.cls=.type "tuple"/\o.data=.seq its n/\f9 its.toList ns
theorem ZiB:∀{us:List aa}{ns ms:List Int},f9 us ns->f9 us ms->ns=ms:=by
 intro us ns ms h
 induction h generalizing ms with
 |nil=>intro g;cases g;rfl
 |cons n t h ih=>
  intro g;cases g with
  |cons _ _ g=>rw[ih g]
theorem ZcC.uniq(a:ZcC h v ns)(b:ZcC h v ms):ns=ms:=by
 obtain⟨p,o,its,n,rfl,e1,e2,e3,e4⟩:=a;obtain⟨p',o',its',n',e5,f1,f2,f3,f4⟩:=b;cases e5;rw[e1]at f1;cases f1;rw[e3]at f3;cases f3;exact ZiB e4 f4
theorem ZcC.kept(a:ZcC h v ns)(k:∀p o,h.get? p=some o->o.cls=.type "tuple"->h'.get? p=some o):ZcC h' v ns:=by
 obtain⟨p,o,its,n,e0,e1,e2,e3,e4⟩:=a;exact⟨p,o,its,n,e0,k p o e1 e2,e2,e3,e4⟩
theorem Zsb(hx:ZcC s.heap x ns)(hy:ZcC s.heap y ms)(q:Q (HT.Zbn ns ms) s):wpAny (ae prog w) A (keyLt' (lG true) x y) Q E s:=by
 obtain⟨a,o,its,n,rfl,e1,e2,e3,e4⟩:=hx;obtain⟨b,o',its',n',rfl,f1,f2,f3,f4⟩:=hy;rw[Ziz];refine Wb (i7 e1 e3 (Wb (i7 f1 f3 ?_)));show wpAny _ _ (forIn ((its.toList.zip its'.toList).zipIdx 0) (none,()) Zpx >>= _) _ _ _;refine Wb (Zkp e4 f4 0 _ (λb hb=>?_) λz=>?_)
 .rw[hb];exact Wp q
 .show wpAny _ _ (pure (decide (its.size<its'.size))) _ _ _;rw[show decide (its.size<its'.size)=HT.Zbn ns ms by rw[z];simp]
  exact Wp q
open Classical in
def kfH(h:Heap)(p:aK):List Int:=if e:∃ns,ZcC h p.1 ns then e.choose else[]
theorem ZiC(e:ZcC h p.1 ns):kfH h p=ns:=by
 unfold kfH;rw[dif_pos ⟨ns,e⟩];exact(Exists.choose_spec (⟨ns,e⟩:∃ns,ZcC h p.1 ns)).uniq e
structure TB(a₀:Array aK) (st:bY):Prop where
 perm:(arrOf st).Perm a₀
 kind:kindOf st=lG true
 fail:gL st=none
theorem TB.size{st:bY}(h:TB a₀ st):(arrOf st).size=a₀.size:=h.perm.size_eq
theorem Zsc(hk:∀p∈a₀.toList,∃ns,ZcC s.heap p.1 ns):Cp (ae prog w) A E s (kfH s.heap) (λp=>∃ns,ZcC s.heap p.1 ns) (TB a₀) where
 cmp st p q Q h hp hq g:=by
  obtain⟨ns,t1⟩:=hp;obtain⟨ms,t2⟩:=hq;rw[ZiC t1,ZiC t2]at g;rw[lt'_eq];refine ao (hJ ?_);rw[h.kind];exact ao (iU (iH (Zsb t1 t2 ⟨rfl,aw g⟩)))
 gal st g h:=⟨h.perm,h.kind,h.fail⟩
 pen st p h:=⟨h.perm,h.kind,h.fail⟩
 put st xs h hp:=⟨hp.trans h.perm,h.kind,h.fail⟩
 good st h p hp:=hk p ((bT.mp h.perm).mem_iff.mp hp)
 fail st h:=h.fail
theorem ZmV(hk:∀p∈a₀.toList,∃ns,ZcC s.heap p.1 ns)(n1:1<=a₀.size):wpS (ae prog w) A E s sortRuns' (λ_ t=>TB a₀ t/\Up (kfH s.heap) (arrOf t) a₀.size) (kH (lG true) a₀ #[] 7 none):=
 Ziy (B:=TB a₀) (N:=a₀.size) (Zsc hk) (λ_ h=>h.size) n1 ⟨Array.Perm.refl _,rfl,rfl⟩ rfl λt h u=>⟨h,u⟩
theorem ZmW(h:ZcC s.heap v (n::ns))(q:∀t,Q (some (.int n t)) s):wpAny (ae prog w) A (kr v) Q E s:=by
 obtain⟨a,o,its,m,rfl,e1,e2,e3,e4⟩:=h;have e:kr (.ref a)=(do
  if(<-typeOf (.ref a)) != .type "tuple" then return none
  return (<-gm (.ref a))[0]?):=rfl
 rw[e];refine Wb (kO ⟨o,e1,e2⟩ ?_);rw[if_neg (by decide)]
 refine Wb (i7 e1 e3 (Wp ?_));cases its with
 |mk l=>
  cases e4 with
  |cons n t h=>exact q t
theorem Zf5:∀{vs:List aa},(∀v∈vs,∃n ns,ZcC s.heap v (n::ns))->∀(Q:List (Option aa)->az->Prop),(∀us ns,f9 us ns->us.length=vs.length->Q (us.map some) s)->wpAny (ae prog w) A (vs.mapM kr) Q E s
 |[],_,Q,q=>by
  rw[List.mapM_nil];exact Wp (q [] [] .nil rfl)
 |v::vs,h,Q,q=>by
  obtain⟨n,ns,hv⟩:=h v (by simp)
  rw[List.mapM_cons];refine Wb (ZmW hv λt=>Wb (Zf5 (λx hx=>h x (aL _ hx)) _ λus ms hi hl=>Wp ?_));exact q (.int n t::us) (n::ms) (.cons n t hi) (by simp[hl])
theorem Zpy(h:∀v∈vs,∃n ns,ZcC s.heap v (n::ns))(ne:vs≠[])(q:Q (lG true) s):wpAny (ae prog w) A (keyKind' vs.toArray) Q E s:=by
 rw[keyKind'_eq,List.mapM_toArray];simp only[map_eq_pure_bind,bind_assoc,pure_bind];refine Wb (Zf5 h _ λus ns hi hl=>?_);have a1:((us.map some).toArray.all λx=>x.isSome)=true:=by simp
 rw[if_pos a1];refine Wb (cN ?_);have a2:(us.map some).toArray.filterMap id=us.toArray:=by simp
 rw[a2,oneTypeOnly'_eq,List.mapM_toArray,mapM_typeOf_ints hi];cases us with
 |nil=>exact absurd (dR hl.symm) ne
 |cons u us=>
  simp only[map_pure,pure_bind];have b0:(List.map (λ_=>aT "int") (u::us)).toArray[0]?=some (aT "int"):=by simp
  have b1:((List.map (λ_=>aT "int") (u::us)).toArray.all λx=>x==aT "int")=true:=by
   rw[List.all_toArray,List.all_map,bh];exact λ_ _=>rfl
  rw[b0];show wpAny _ _ (pure (if((List.map (λ_=>aT "int") (u::us)).toArray.all λx=>x==aT "int")=true then some (aT "int")else none) >>= _) _ _ _
  rw[if_pos b1];exact Wb (Wp (Wp q))
theorem Zpz(ho:s.heap.get? a=some (cL "list" vs.toArray n))(hk:∀v∈vs,∃k ns,ZcC s.heap v (k::ns))(h64:vs.length<1000000)(q:∀out:List aa,out.Perm vs->(∀i j (hi:i<out.length) (hj:j<out.length),i<=j->∀ns ms,ZcC s.heap out[i] ns->ZcC s.heap out[j] ms->HT.Zbn ms ns=false)->P (.done (.ret .none)) {s with heap:=sortedHeap s.heap a vs out.toArray}):wpAny (ae prog w) A (dI.«list.sort» ⟨[.ref a],[]⟩) P E s:=by
 have al:a<s.heap.objs.size:=Hz ho;obtain⟨e1,o1⟩:∃e1,(s.heap.update a (b9 λ_=> #[])).get? a=some (cL "list" #[] e1):=⟨_,get?_update_seq ho (λ_=> #[])⟩;have o2:(((s.heap.update a (b9 λ_=> #[])).push (cL "tuple" vs.toArray 0)).push (cL "list" #[] 0)).get? a=some (cL "list" #[] e1):=
  Hq _ (Hq _ o1)
 have kp:∀v ns,ZcC s.heap v ns->ZcC (((s.heap.update a (b9 λ_=> #[])).push (cL "tuple" vs.toArray 0)).push (cL "list" #[] 0)) v ns:=λv ns ht=>ht.kept λp o ep ec=>by
  have:p≠a:=λz=>by
   subst z;rw[ho]at ep;cases ep
   revert ec
   show ¬(aT "list"=aT "tuple")
   decide
  exact Hq _ (Hq _ ((av _ _ (bD this)).trans ep))
 rw[list_sort_plain];refine Wb (i7 ho rfl (Wb (listUpdate_at ho rfl (Wb (seqEpoch_at o1 rfl (Wb (wpAny_newTuple (Wb (wpAny_newList (cO ?_))))))))));show wpAny _ _ _ P E {s with heap:=((s.heap.update a (b9 λ_=> #[])).push (cL "tuple" vs.toArray 0)).push (cL "list" #[] 0)};have vz:vs.toArray.size=vs.length:=by simp
 have fin:∀xs:Array aK,xs.Perm (pairsOf vs)->(∀i j,i<=j->j<vs.length->le (ky (kfH (((s.heap.update a (b9 λ_=> #[])).push (cL "tuple" vs.toArray 0)).push (cL "list" #[] 0))) xs i) (ky (kfH (((s.heap.update a (b9 λ_=> #[])).push (cL "tuple" vs.toArray 0)).push (cL "list" #[] 0))) xs j))->
   P (.done (.ret .none)) {s with heap:=sortedHeap s.heap a vs (xs.map (·.2))}:=by
  intro xs hp hu;have hl:xs.toList.Perm (vs.zip vs):=by rw[<-pairsOf_toList];exact bT.mp hp
  have hm:∀p∈xs.toList,p.1=p.2/\p.1∈vs:=λp hp=>mem_zip_self (hl.mem_iff.mp hp);have e2:(xs.toList.map (·.2)).Perm vs:=by
   have:=hl.map (λp:aK=>p.2)
   rwa [List.map_snd_zip (ac _)]at this
  have ea:xs.map (·.2)=(xs.toList.map (·.2)).toArray:=by
   apply eZ.mp;simp
  rw[ea];refine q _ e2 λi j hi hj ij ns ms t1 t2=>?_;have li:i<xs.size:=by simpa using hi
  have lj:j<xs.size:=by simpa using hj
  have lv:xs.size=vs.length:=by rw[hp.size_eq,i8]
  have kk:∀k (hk:k<xs.size) (ns:List Int),ZcC s.heap (xs[k]).2 ns->ky (kfH (((s.heap.update a (b9 λ_=> #[])).push (cL "tuple" vs.toArray 0)).push (cL "list" #[] 0))) xs k=ns:=λk hk ns ht=>by
   unfold ky;rw[getElem?_pos xs k hk];exact ZiC (kp _ _ (by rw[(hm xs[k] (by simp)).1];exact ht))
  have:=hu i j ij ⋯
  rw[kk i li ns (by simpa using t1),kk j lj ms (by simpa using t2)]at this
  exact this
 have Zam:∀st':bY,(arrOf st').Perm (pairsOf vs)->gL st'=none->(∀i j,i<=j->j<vs.length->le (ky (kfH (((s.heap.update a (b9 λ_=> #[])).push (cL "tuple" vs.toArray 0)).push (cL "list" #[] 0))) (arrOf st') i) (ky (kfH (((s.heap.update a (b9 λ_=> #[])).push (cL "tuple" vs.toArray 0)).push (cL "list" #[] 0))) (arrOf st') j))->
   wpAny (ae prog w) A (do
    let b <-seqEpoch a
    dI.List.listUpdate (.ref a) λ_=>(arrOf st').map (·.2)
    if let some e:=gL st' then rule "list.sort.comparison-raised";throw e
    if(b != e1)=true then rule "list.sort.modified";raiseError "ValueError" "list modified during sort"
    ret .none) P E {s with heap:=((s.heap.update a (b9 λ_=> #[])).push (cL "tuple" vs.toArray 0)).push (cL "list" #[] 0)}:=by
  intro st' hp hf hu;refine Wb (seqEpoch_at o2 rfl (Wb (listUpdate_at o2 rfl ?_ (hsz2:=?_))))
  .rw[hf];simp only[bne_self_eq_false,aX,if_false];exact Wp (fin _ hp hu)
  .rw[Array.size_map,hp.size_eq,i8,c9];lia
 by_cases c:vs.toArray.size<2
 .rw[if_pos c,if_pos c];refine Wb (Wp ?_);show wpAny _ _ ((pure ():StateT bY Sem Unit).run (kH general' (vs.toArray.zip vs.toArray) #[] 7 none) >>= _) _ _ _;rw[StateT.run_pure];exact Wb (Wp (Zam (kH general' (vs.toArray.zip vs.toArray) #[] 7 none) (Array.Perm.refl _) rfl λi j ij jn=>by rw[show i=j by lia];exact Zde _))
 .rw[if_neg c,if_neg c];refine Wb (Zpy (λv hv=>?_) (λz=>?_) (Wb (wpAny_mono (ZmV (a₀:=pairsOf vs) (λp hp=>?_) (by rw[i8];lia)) ?_ λ_ _ z=>z)))
  .obtain⟨k,ns,ht⟩:=hk v hv;exact⟨k,ns,kp _ _ ht⟩
  .rw[z]at c;simp at c
  .rw[pairsOf_toList]at hp;obtain⟨k,ns,ht⟩:=hk p.1 (mem_zip_self hp).2;exact⟨_,kp _ _ ht⟩
  .rintro⟨⟨⟩,t'⟩ s' ⟨rfl,tb,hu⟩;rw[i8]at hu;exact Zam t' tb.perm tb.fail hu
theorem Zkq(hl:s.heap.IsList l vs.toArray)(hk:∀v∈vs,∃k ns,ZcC s.heap v (k::ns))(h64:vs.length<1000000)(q:∀out:List aa,out.Perm vs->(∀i j (hi:i<out.length) (hj:j<out.length),i<=j->∀ns ms,ZcC s.heap out[i] ns->ZcC s.heap out[j] ms->HT.Zbn ms ns=false)->Q (.ref (s.heap.objs.size+1)) {s with heap:=sortedAll s.heap vs out.toArray}):wpAny (ae prog w) A (call (.builtin "sorted") [.ref l]) Q E s:=by
 have z1:((s.heap.push (cL "list" #[] 0)).update s.heap.objs.size (b9 (· ++ vs.toArray))).objs.size=s.heap.objs.size+1:=by rw[lH.size_update,size_push']
 have o1:(((s.heap.push (cL "list" #[] 0)).update s.heap.objs.size (b9 (· ++ vs.toArray))).push (cL "list" vs.toArray 0)).get? (s.heap.objs.size+1)=some (cL "list" vs.toArray 0):=by
  rw[<-z1];exact aS _ rfl
 have kp:∀p o,s.heap.get? p=some o->(((s.heap.push (cL "list" #[] 0)).update s.heap.objs.size (b9 (· ++ vs.toArray))).push (cL "list" vs.toArray 0)).get? p=some o:=λp o ep=>
  Hq _ ((av _ _ (ce (Hz ep))).trans (Hq _ ep))
 refine Calls.call_function_entry kind_sorted plain_sorted entry_sorted (args_sorted1 _) ?_;unfold dI.«sorted»;refine Wb (m:=checkCount "sorted" 1 1 _) (Wp (Wb (collect_list hl (Wb (wpAny_newList ?_)))));show wpAny _ _ _ _ _ {s with heap:=((s.heap.push (cL "list" #[] 0)).update s.heap.objs.size (b9 (· ++ vs.toArray))).push (cL "list" vs.toArray 0)};rw[z1];refine Wb (cO (dc slot_list_sort ⟨_,o1,rfl⟩ entry_list_sort (Zpz o1 (λv hv=>?_) h64 λout hp hs=>⟨_,rfl,Wp ⟨_,rfl,q out hp λi j hi hj ij ns ms t1 t2=>hs i j hi hj ij ns ms (t1.kept λp o e _=>kp p o e) (t2.kept λp o e _=>kp p o e)⟩⟩) (args_list_sort _)));obtain⟨k,ns,ht⟩:=hk v hv;exact⟨k,ns,ht.kept λp o e _=>kp p o e⟩
end
end ST
namespace ST
def ins(x:List Int):List (List Int)->List (List Int)
 |[]=>[x]
 |y::r=>if lt y x=true then y::ins x r else x::y::r
def srt:List (List Int)->List (List Int)
 |[]=>[]
 |x::r=>ins x (srt r)
theorem Zd4(x:List Int):∀l,(ins x l).Perm (x::l)
 |[]=>.refl _
 |y::r=>by
  unfold ins;split
  .exact((Zd4 x r).cons y).trans (.swap x y r)
  .exact .refl _
theorem Zd5:∀l,(srt l).Perm l
 |[]=>.refl _
 |x::r=>(Zd4 x (srt r)).trans ((Zd5 r).cons x)
theorem Zll(x:List Int):∀l,l.Pairwise le->(ins x l).Pairwise le
 |[],_=>List.pairwise_singleton _ _
 |y::r,h=>by
  obtain⟨h1,h2⟩:=iw.mp h;unfold ins;split
  .rename_i c;refine iw.mpr ⟨λz hz=>?_,Zll x r h2⟩;rcases aM.mp ((Zd4 x r).mem_iff.mp hz)with rfl|hz
   .exact ZcB c
   .exact h1 z hz
  .rename_i c;have c:le x y:=by unfold le;simpa using c
   refine iw.mpr ⟨λz hz=>?_,h⟩;rcases aM.mp hz with rfl|hz
   .exact c
   .exact ZcU c (h1 z hz)
theorem Zlm:∀l,(srt l).Pairwise le
 |[]=>.nil
 |x::r=>Zll x _ (Zlm r)
theorem Zkr(hp:a.Perm b)(h:a.Pairwise le):a=srt b:=
 List.Perm.eq_of_pairwise (λx y _ _ h1 h2=>ZeM h2 h1) h (Zlm b) (hp.trans (Zd5 b).symm)
end ST
namespace DL
open PyProof.Rows L2 PySem.W
theorem Zdh{F:α->β->Prop}{us us':List β}(hp:us'.Perm us):∀{xs:List α},Paired F xs us->∃xs',xs'.Perm xs/\Paired F xs' us':=by
 induction hp with
 |nil=>intro xs h;exact⟨xs,.refl _,h⟩
 |@cons a l1 l2 h ih=>
  intro xs r;cases r with
  |cons r1 r2=>
   obtain⟨xs',p1,p2⟩:=ih r2;exact⟨_::xs',p1.cons _,.cons r1 p2⟩
 |swap a b l=>
  intro xs r;cases r with
  |cons r1 r2=>
   cases r2 with
   |cons r2 r3=>exact⟨_::_::_,.swap _ _ _,.cons r2 (.cons r1 r3)⟩
 |trans h1 h2 i1 i2=>
  intro xs r;obtain⟨x1,p1,q1⟩:=i2 r;obtain⟨x2,p2,q2⟩:=i1 q1;exact⟨x2,p2.trans p1,q2⟩
theorem ZiD{K:Fg}(hp:vs'.Perm vs):∀{ds:List D},Reps K H α vs ds->∃ds',ds'.Perm ds/\Reps K H α vs' ds':=by
 induction hp with
 |nil=>intro xs h;exact⟨xs,.refl _,h⟩
 |@cons a l1 l2 h ih=>
  intro xs r;cases r with
  |cons r1 r2=>
   obtain⟨xs',p1,p2⟩:=ih r2;exact⟨_::xs',p1.cons _,.cons r1 p2⟩
 |swap a b l=>
  intro xs r;cases r with
  |cons r1 r2=>
   cases r2 with
   |cons r2 r3=>exact⟨_::_::_,.swap _ _ _,.cons r2 (.cons r1 r3)⟩
 |trans h1 h2 i1 i2=>
  intro xs r;obtain⟨x1,p1,q1⟩:=i2 r;obtain⟨x2,p2,q2⟩:=i1 q1;exact⟨x2,p2.trans p1,q2⟩
def ZnP(K:Fg)(H:Hp)(x:V)(ns:List Int):Prop:=∃q,x=.ref q/\SqT K H q (ns.map V.int)
section
variable {X:Cx}
def Zsd(X:Cx):List V->Hp->VK->Prop:=λvs H Q=>∃p xs,vs=[.ref p]/\SqL X.K H p xs/\xs.length<1000000/\(∀x∈xs,∃k ns,ZnP X.K H x (k::ns))/\
 ∀l ys,H l=none->ys.Perm xs->(∀i j (hi:i<ys.length) (hj:j<ys.length),i<=j->∀ns ms,ZnP X.K H ys[i] ns->ZnP X.K H ys[j] ms->ST.le ns ms)->Q (.ref l) (upd H l (.lst ys))
theorem Zd6(I:Inv X pins σ H s)(h:ZnP X.K H x ns)(r:Zah x u):ST.ZcC s.heap u ns:=by
 obtain⟨q,rfl,hq⟩:=h;cases r;obtain⟨its,r2,⟨o,k1,k2,n,k3⟩,_⟩:=I.tuple hq;exact⟨q,o,its.toArray,n,rfl,k1,k2,k3,by simpa using ZgG r2⟩
theorem Zdi:Zcg X (.builtin "sorted") (Zsd X):=by
 intro pins s σ H vs us Q I rs hh;obtain⟨p,xs,e,hl,h64,hk,q⟩:=hh;subst e;obtain⟨u,rfl,ru⟩:=Zdx rs;cases ru;obtain⟨its,rv,pl,hz⟩:=I.list hl;refine ST.Zkq (vs:=its) pl.isList (λv hv=>?_) (by rw[<-rv.length];exact h64) λout hp hs=>?_
 .obtain⟨i,hi,rfl⟩:=bw hv;obtain⟨x,e1,e2⟩:=Ziq rv (Gq hi);obtain⟨k,ns,hx⟩:=hk x (cE e1);exact⟨k,ns,Zd6 I hx e2⟩
 .obtain⟨ys,p1,p2⟩:=Zdh hp rv;obtain⟨n,hn⟩:=sortedAll_at s.heap its out.toArray;refine⟨.ref _,_,I.laid (t':=s.toks) (o:=.lst ys) (λ_ _ h=>sortedAll_old h) (fR _) ⟨by rw[p1.length_eq];exact hz,out,n,p2,hn⟩,rfl,q _ ys (I.hok.fresh (fR _)) p1 λi j hi hj ij ns ms k1 k2=>?_⟩
  have hl:ys.length=out.length:=Zaj.length p2;have a1:∀i (hi:i<ys.length),Zah ys[i] (out[i]'⋯):=λi hi=>by
   obtain⟨u,e1,e2⟩:=Zaj.get p2 (Gq hi);rw[aq ⋯]at e1
   cases e1;exact e2
  exact hs i j ⋯ ⋯ ij ns ms (Zd6 I k1 (a1 i hi)) (Zd6 I k2 (a1 j hj))
theorem ZeN:bg "sorted"=some (.builtin "sorted"):=by decide +kernel
def kyD:D->Option (List Int)
 |.tup xs=>(match ZeK xs with|some (k::ns)=>some (k::ns)|_=>none)
 |_=>none
def ksD:List D->Option (List (List Int))
 |[]=>some []
 |d::r=>match kyD d,ksD r with|some k,some ks=>some (k::ks)|_,_=>none
def tupD(ns:List Int):D:=.tup (ns.map D.int)
def ZiE(ds:List D)(M:Sto):Out D:=if ds.length<1000000 then(match ksD ds with|some ks=>.ok (.ref M.length) (M++[.lst ((ST.srt ks).map tupD)])|none=>.bad)else .bad
def bSrt:W3:=λds M=>match ds with
 |[.ref n]=>(match M[n]? with|some (.lst xs)=>ZiE xs M|none=>.bad)
 |[.rol xs]=>ZiE xs M
 |_=>.bad
theorem ZeO:∀{xs:List D}{a:List Int},ZeK xs=some a->xs=a.map D.int
 |[],a,e=>by cases e;rfl
 |x::r,a,e=>by
  cases x with
  |int i=>
   unfold ZeK at e
   split at e
   .rename_i is e1;cases e;rw[ZeO e1];rfl
   .cases e
  |_=>cases e
theorem ZeP:∀a:List Int,ZeK (a.map D.int)=some a
 |[]=>rfl
 |i::r=>by rw[aN,ZeK,ZeP r]
theorem ZpA(h:kyD d=some ns):d=tupD ns/\∃k r,ns=k::r:=by
 unfold kyD at h
 split at h
 .rename_i xs
  split at h
  .rename_i k r e;cases h;exact⟨by unfold tupD;rw[<-ZeO e],k,r,rfl⟩
  .cases h
 .cases h
theorem Zln:∀{ds:List D}{ks:List (List Int)},ksD ds=some ks->ds=ks.map tupD/\∀k∈ks,k≠[]
 |[],ks,e=>by cases e;exact⟨rfl,λk hk=>by cases hk⟩
 |d::r,ks,e=>by
  unfold ksD at e
  split at e
  .rename_i k ks' e1 e2;cases e;obtain⟨h1,h2⟩:=Zln e2;obtain⟨h3,k0,r0,h4⟩:=ZpA e1;refine⟨by rw[aN,<-h1,<-h3],λx hx=>?_⟩
   rcases aM.mp hx with rfl|hx
   .rw[h4];exact List.cons_ne_nil _ _
   .exact h2 x hx
  .cases e
theorem ZiF(r:Rep X.K H α v (tupD ns)):ZnP X.K H v ns:=by
 cases r with
 |tup hp rp=>
  have:=Zip rp (ZeP ns)
  subst this;exact⟨_,rfl,SqT.of hp⟩
theorem ZeQ:CO X ξ (Zsd X) bSrt:=by
 intro H α M vs ds Q h rs q;have fin:∀(p:Addr)(xs:List V)(ys:List D),SqL X.K H p xs->Reps X.K H α xs ys->OP X.K H α ξ Q (ZiE ys M)->Zsd X [.ref p] H Q:=λp xs ys k1 k2 q=>by
  unfold ZiE at q
  split at q
  .rename_i c;cases e:ksD ys with
   |none=>simp only[e]at q;exact q.elim
   |some ks=>
    simp only[e]at q;obtain⟨e1,e2⟩:=Zln e;subst e1;refine⟨p,xs,rfl,k1,by rw[k2.length];exact c,λx hx=>?_,λl zs hl hp hs=>?_⟩
    .obtain⟨i,hi,rfl⟩:=bw hx;obtain⟨d,d1,d2⟩:=Zfl k2 (Gq hi);obtain⟨k,hk,rfl⟩:=dy.mp (cE d1)
     match k,e2 k hk,d2 with
     |a::b,_,d2=>exact⟨a,b,ZiF d2⟩
     |[],z,_=>exact absurd rfl z
    .obtain⟨ds',p1,p2⟩:=ZiD hp k2;obtain⟨ks',p3,p4⟩:∃ks':List (List Int),ks'.Perm ks/\ds'=ks'.map tupD:=by
      have:Paired (λ(a:List Int) d=>d=tupD a) ks (ks.map tupD):=by
       clear k2 c e p1 hp e2 q
       induction ks with
       |nil=>exact .nil
       |cons a b ih=>exact .cons rfl ih
      obtain⟨ks',q1,q2⟩:=Zdh p1 this;refine⟨ks',q1,?_⟩;clear q1 p1 p2
      induction q2 with
      |nil=>rfl
      |cons h _ ih=>rw[aN,h,ih]
     subst p4;have hup:ks'.Pairwise ST.le:=by
      refine List.pairwise_iff_getElem.mpr λi j hi hj ij=>?_;have lz:zs.length=ks'.length:=by rw[p2.length,aC]
      have kk:∀i (hi:i<ks'.length),ZnP X.K H (zs[i]'⋯) ks'[i]:=λi hi=>by
       obtain⟨d,d1,d2⟩:=Zfl p2 (Gq (show i<zs.length by lia))
       rw[bH,aq hi]at d1;cases d1;exact ZiF d2
      exact hs i j ⋯ ⋯ (eV ij) _ _ (kk i hi) (kk j hj)
     rw[ST.Zkr p3 hup]at p2;exact q _ _ (α++[l]) (Ext.new hl) (h.new hl p2) (.ref ⟨h.last l,Kn.lst Zs⟩)
  .exact q.elim
 cases rs with
 |nil=>exact q.elim
 |@cons _ x _ _ r tz=>
  cases tz with
  |cons _ _=>cases r<;>exact q.elim
  |nil=>
   cases r with
   |@rol p xs ds hp rp=>exact fin p xs ds hp.sq rp q
   |@ref p n hp=>
    cases em:M[n]? with
    |none=>simp only[bSrt,em]at q;exact q.elim
    |some so=>
     cases so with
     |lst es=>
      simp only[bSrt,em]at q;obtain⟨xs,g1,g2⟩:=h.at hp em;exact fin p xs es (SqL.of g1) g2 q
   |_=>exact q.elim
end
end DL
namespace ST
open PyProof.Rows
end ST
namespace DL
open PyProof.Rows L2
def Zro(K:Fg)(v:aa)(c P:Addr):Prop:=v=.ref c/\c≠P/\∃(o:Obj) (vs:Array aa) (file:Str) (tf:Tok) (flags:Int) (tg:Tok) (inF:Bool) (text:Int) (tt:Tok),K.lookup c=some o/\o.cls=.type "code"/\o.data=.fields vs/\vs[11]?=some (.ref P)/\vs.getD 11 .none=.ref P/\vs.getD 18 .none=.str file tf/\vs.getD 7 .none=.int flags tg/\vs.getD 9 .none=.bool inF/\vs.getD 10 .none=.int text tt
theorem Zro.tb{K:Fg}(h:Zro K v c P):TbP K P:=by
 obtain⟨_,_,o,vs,_,_,_,_,_,_,_,e1,e2,e3,e4,_⟩:=h;exact⟨c,o,vs,e1,e2,e3,e4⟩
theorem Zro.hd{K:Fg}(x:Zro K v c P)(k:K.In h):PySem.W.CodeHd h c P:=by
 obtain⟨_,ne,o,vs,file,tf,flags,tg,inF,text,tt,e1,e2,e3,e4,e5,e6,e7,e8,e9⟩:=x;exact⟨o,vs,file,tf,flags,tg,inF,text,tt,k _ _ e1,e2,e3,e4,e5,e6,e7,e8,e9,ne⟩
end DL
namespace DL
open PyProof.Rows L2
end DL
namespace L2
open PyProof.Rows
noncomputable def Zse(o:Option Obj):Bool:=match o with
 |some ⟨.none,none,.fields ⟨[]⟩,⟨[]⟩⟩=>true
 |_=>false
theorem ZmX(h:Zse o=true):o=some {cls:=.none,data:=.fields #[]}:=by
 unfold Zse at h
 split at h
 .rfl
 .cases h
theorem ZiG{o:Obj}{a:Addr}:∀{l:Pn},l.lookup a=some o->(a,o)∈l
 |[],h=>by cases h
 | (b,u)::r,h=>by
  rw[bG]at h;cases e:a==b with
  |true=>
   rw[e]at h
   have:a=b:=by simpa using e
   cases h;rw[this];exact bM
  |false=>
   rw[e]at h;exact aL _ (ZiG h)
def Zf6(K T:Fg):Bool:=K.all λp=>match p.2 with
 |⟨.type n,_,.fields vs,_⟩=>if n="code" then(match(vs[11]? :Option aa)with
  |some (.ref P)=>(K.lookup P).isNone&&Zse (T.lookup P)
  |_=>true)else true
 |_=>true
theorem ZiH{K:Fg}(h:Zf6 K T=true)(t:TbP K P):K.lookup P=none/\T.lookup P=some {cls:=.none,data:=.fields #[]}:=by
 obtain⟨c,⟨oc,od,dt,sl⟩,vs,e1,e2,e3,e4⟩:=t;have q:=bh.mp h _ (ZiG e1);cases e2;cases e3;dsimp only at q;rw[if_pos rfl,e4]at q;simp only[aV,fg]at q;exact⟨q.1,ZmX q.2⟩
theorem ZiI{K:Fg}(KX:K.In s₁.heap)(TX:T.In s₁.heap)(hT:Zf6 K T=true)(hns:s₁.heap.Ns aG mg)(hb:s₁.heap.Ns kA mb)(hbb:∀x:Str,x≠"__name__"->mb x=bg x)(hlim:s₁.heap.NoLimit)(hg:s₁.gens= #[])(ha:s₁.heap.get? a=some {cls:=.type "list",data:=.seq vs.toArray})(hi:f9 vs ns)(hl:ns.length<=sizeLine)(hr:Room k jP)(F:∀base:Heap,K.In base->base.Ns aG mg->FnOk P w K mg base CX k fa fd [x] sp)(hbind:∀(s:az)(u:aa),jO s fd ⟨[u],[]⟩ [(x,u)])(hsp:∀H:Hp,DL.SqF K H a (ns.map V.int)->sp [.ref a] H (λv _=>v=.bl true) λ_ _ _=>False)(hCX:∀H e s',CX [] H s₁ (λ_ _ _=>False) e s'->False):gY (ae P w) jP (.call (.ref fa) ⟨[.ref a],[]⟩) (λr s'=>r=.ok (.ret (.bool true))/\OldK s₁.heap s'.heap/\s'.os=s₁.os/\fG s'.gens) s₁:=by
 have rv:=Zes hi;have lenV:=hi.length;have tb:∀{b:Addr},TbP K b->s₁.heap.get? b=some {cls:=.none,data:=.fields #[]}:=λt=>TX _ _ (ZiH hT t).2;have core:∀H:Hp,DL.SqF K H a (ns.map V.int)->HOk P w H s₁.heap->(∀b u,H b=some u->(b=a/\K.lookup a=none/\∃o xs,u=.frz o (.lst xs))\/(TbP K b/\u=.tbl #[]))->Tbs K H->
   gY (ae P w) jP (.call (.ref fa) ⟨[.ref a],[]⟩) (λr s'=>r=.ok (.ret (.bool true))/\OldK s₁.heap s'.heap/\s'.os=s₁.os/\fG s'.gens) s₁:=by
  intro H hS hok hA hTb;have base_of:∀{b:Addr}{o:Obj},s₁.heap.get? b=some o->H b=none->(Zjs s₁.heap H).get? b=some o:=λe n=>ZfH e n;have noA:∀{b:Addr}{o:Obj}{es:Array lA}{ep:Nat},s₁.heap.get? b=some o->o.data=.dict es ep->H b=none:=λ{b o es ep} e d=>by
   cases q:H b with
   |none=>rfl
   |some u=>
    rcases hA b u q with⟨rfl,_⟩|⟨t,_⟩
    .rw[ha]at e;cases e;have d':Data.seq vs.toArray _=hV es ep:=d;cases d'
    .rw[tb t]at e;cases e;have d':js _=hV es ep:=d;cases d'
  have nsK:∀{b:Addr}{m:Str->Option aa},s₁.heap.Ns b m->(Zjs s₁.heap H).Ns b m:=λ{b m} ⟨o,es,ep,e,d,r⟩=>⟨o,es,ep,base_of e (noA e d),d,r⟩;have hKb:K.In (Zjs s₁.heap H):=λb o e=>base_of (KX b o e) (by
   cases q:H b with
   |none=>rfl
   |some u=>
    rcases hA b u q with⟨rfl,z,_⟩|⟨t,_⟩
    .rw[z]at e;cases e
    .rw[(ZiH hT t).1]at e;cases e)
  have hM:Mod K mg (Zjs s₁.heap H):=⟨hKb,nsK hns,⟨mb,nsK hb,hbb⟩,let ⟨mc,h1,h2⟩:=hlim;⟨mc,nsK h1,h2⟩⟩;have e0:Env0 P w K mg (Zjs s₁.heap H) jP [] s₁ H:=⟨rfl,hM,λb o e=>Zhe e,Nat.le_of_eq (Zhd _ _),trivial,λb hb=>absurd (show b∈([]:List Addr)from hb) (by simp),hok,.of_eq hg,.inl rfl,hTb⟩
  refine iX ((F _ hKb (nsK hns)).run jP [] s₁ H ⟨[.ref a],[]⟩ [.ref a] [.ref a] _ _ hr e0 (hbind s₁ (.ref a)) (.cons rfl .nil) (hsp H hS)) λr s' h=>?_;cases r with
  |error e=>exact(hCX H e s' h).elim
  |ok fl=>
   cases fl with
   |next=>exact cF h
   |brk=>exact cF h
   |cont=>exact cF h
   |ret u=>
    obtain⟨v,H',os,bare,un,hok',r',q⟩:=h;have q':v=.bl true:=q;subst q';obtain rfl:u=ig true:=r';have fin:∀b o,s₁.heap.get? b=some o->asItWas s₁.heap s'.heap b o:=λb o e=>by
     cases q:H b with
     |none=>exact .inl (un.keep b o e q (by intro z;exact absurd (show b∈([]:List Addr)from z) (by simp)) (by simp))
     |some u=>
      rcases hA b u q with⟨_,_,ob,xs,rfl⟩|⟨t,rfl⟩
      .have z2:=un.frzs b ob _ q;obtain⟨e1,_⟩:=hok b _ q;obtain⟨e2,_⟩:=hok' b _ z2;rw[e]at e1;cases e1;exact .inl e2
      .obtain⟨more,z2⟩:=un.tbls b _ q;have e2:=(hok' b _ z2).1;have e1:=tb t;rw[e]at e1;cases e1;obtain⟨c,oc,vs',f1,f2,f3,f4⟩:=t;exact .inr (.inl ⟨⟨c,oc,vs',KX _ _ f1,f2,f3,f4⟩,rfl,#[],more,rfl,e2⟩)
    refine⟨rfl,⟨fin,λb o e=>?_⟩,os,bare⟩;rcases fin b o e with z|⟨_,_,vs',m,_,z⟩|⟨_,_,⟨o',_,_,z,_⟩,_⟩
    .exact⟨_,z⟩
    .exact⟨_,z⟩
    .exact⟨_,z⟩
 have tok:∀H:Hp,∀b,TbP K b->H b=some (.tbl #[])->ZaN P w H s₁.heap b (.tbl #[]):=λH b t _=>⟨tb t,cW,λpos cv z=>by cases z⟩
 have na:¬TbP K a:=λt=>by
  have:=tb t
  rw[ha]at this;cases this
 cases hk:K.lookup a with
 |some o=>
  have e:=KX a o hk;rw[ha]at e;cases e
  classical
  refine core (λb=>if TbP K b then some (.tbl #[])else none) (.inr ⟨_,vs.toArray,_,hk,rfl,rfl,rfl,by rw[aE,lenV];exact hl,by simpa using rv⟩) (λb u z=>?_) (λb u z=>?_) (λb t=>⟨_,if_pos t⟩)
  .by_cases t:TbP K b
   .have z':=(if_pos t).symm.trans z;cases z';exact tok _ b t (if_pos t)
   .have z':=(if_neg t).symm.trans z;cases z'
  .by_cases t:TbP K b
   .have z':=(if_pos t).symm.trans z;cases z';exact .inr ⟨t,rfl⟩
   .have z':=(if_neg t).symm.trans z;cases z'
 |none=>
  classical
  let H:Hp:=λb=>if b=a then some (.frz {cls:=.type "list",data:=.seq vs.toArray} (.lst (ns.map V.int)))else if TbP K b then some (.tbl #[])else none
  have hHa:H a=some (.frz {cls:=.type "list",data:=.seq vs.toArray} (.lst (ns.map V.int))):=if_pos rfl;have hHt:∀b,TbP K b->H b=some (.tbl #[]):=λb t=>by
   show(if b=a then _ else if TbP K b then _ else _)=_
   have nb:b≠a:=λz=>na (z▸t);rw[if_neg nb,if_pos t]
  have hHn:∀b,b≠a->¬TbP K b->H b=none:=λb n t=>by
   show(if b=a then _ else if TbP K b then _ else _)=_
   rw[if_neg n,if_neg t]
  refine core H (.inl ⟨_,hHa⟩) (λb u z=>?_) (λb u z=>?_) (λb t=>⟨_,hHt b t⟩)
  .by_cases hb:b=a
   .subst hb;rw[hHa]at z;cases z;exact⟨ha,by rw[aC];exact hl,vs,_,rv,ha⟩
   .by_cases t:TbP K b
    .rw[hHt b t]at z;cases z;exact tok _ b t (hHt b t)
    .rw[hHn b hb t]at z;cases z
  .by_cases hb:b=a
   .subst hb;rw[hHa]at z;cases z;exact .inl ⟨rfl,hk,_,_,rfl⟩
   .by_cases t:TbP K b
    .rw[hHt b t]at z;cases z;exact .inr ⟨t,rfl⟩
    .rw[hHn b hb t]at z;cases z
theorem Zks{l:PySem.W.OpenLaw}{K T:jv->Fg}{CX:cu->CXT}{sp:cu->Sp}(hn:l.most=some n)(hn2:n<=sizeLine)(hdf:d.params.defaults=[])(hr:Room k jP)(hY:∀(w:cu)(h:Heap),YP w h->(K w.params).In h/\(T w.params).In h)(hT:∀w:cu,Zf6 (K w.params) (T w.params)=true)(F:∀(w:cu)(mg:Str->Option aa)(fa:Addr)(h:Heap),(K w.params).In h->h.Ns aG mg->mg d.name=some (.ref fa)->∃fd:f8,(∀(s:az)(u:aa),jO s fd ⟨[u],[]⟩ [(x,u)])/\∀base:Heap,(K w.params).In base->base.Ns aG mg->FnOk l.prog w (K w.params) mg base (CX w) k fa fd [x] (sp w))(hsp:∀(w:cu)(H:Hp)(a:Addr)(ns:List Int),ns.length<=n->DL.SqF (K w.params) H a (ns.map V.int)->sp w [.ref a] H (λv _=>v=.bl true) λ_ _ _=>False)(hCX:∀(w:cu)(H:Hp)(s:az)(e:aa)(s':az),CX w [] H s (λ_ _ _=>False) e s'->False):PySem.W.WalkO q loose XP YP l.row.toRowW d [] (λf vs=>PySem.call f vs):=by
 refine Att.Ze9 hn hdf λw s₀ s₁ mg mb fa o pm cd doc a vs ns G Y ho hd hcd hmg hobj hints hlen hg=>?_;obtain⟨KX,TX⟩:=hY w _ Y;obtain⟨fd,hb,hF⟩:=F w mg fa _ KX G.T.g hmg;exact ZiI KX TX (hT w) G.T.g G.T.b G.T.builtins G.T.nolimit hg hobj hints (aQ hlen hn2) hr hF hb (λH hS=>hsp w H a ns hlen hS) λH e s'=>hCX w H s₁ e s'
end L2
namespace DL
open PyProof.Rows L2
theorem ZmY{K:Fg}{ns:List Int}(hF:SqF K H a (ns.map V.int))(h:∃M',F [.rol (ns.map D.int)] []=.ok (.bl true) M'):spD K F [.ref a] H (λv _=>v=.bl true) (λ_ _ _=>False):=by
 obtain⟨M',e⟩:=h;refine⟨[.rol (ns.map D.int)],[],[],.cons (.rol hF (Reps.ints ns)) .nil,HR.nil,?_⟩;rw[e];intro v H' α' _ _ r;cases r;rfl
theorem ZmZ{K:Fg}(x:PySem.W.Frag.In (K++T) h):K.In h:=λb o e=>x b o (by rw[List.lookup_append,e];rfl)
theorem Zkt{K:Fg}(x:PySem.W.Frag.In (K++T) h)(d:T.all (λp=>(K.lookup p.1).isNone)=true):T.In h:=λb o e=>x b o (by
 have q:=bh.mp d _ (ZiG e);rw[List.lookup_append,fg.mp q];exact e)
end DL
namespace DL
open PyProof.Rows L2
theorem Reps.tk{K:Fg}{H:Hp}{α:List Addr}:∀{vs:List V}{ds:List D}(i:Nat),Reps K H α vs ds->Reps K H α (vs.take i) (ds.take i)
 |_,_,0,_=>.nil
 |_,_,_+1,.nil=>.nil
 |_,_,i+1,.cons r t=>.cons r (Reps.tk i t)
end DL
namespace DL
open PyProof.Rows L2
end DL
namespace DL
open L2
end DL
namespace DQ
open PyProof.Rows
end DQ
namespace DL
open PyProof.Rows L2
end DL
namespace SX
open PySem.Builtin.Str DL
noncomputable def stp(s:Str)(c L:Nat)(b:Array Nat×Nat)(a:Nat):Array Nat×Nat:=if(decide (b.1.size<L)&&decide (b.2<=a)&&decide (a+1<=s.length)&&subAt s ⟨#[c]⟩ a)=true then(b.1.push a,a+1)else(b.1,b.2)
noncomputable def pb(f:Nat->Nat->Str)(n:Nat):Nat->List Nat->List Str
 |a,[]=>[f a n]
 |a,i::r=>f a i::pb f n (i+1) r
noncomputable def jn(c:Nat):List (List Nat)->List Nat
 |[]=>[]
 |[a]=>a
 |a::r=>a++c::jn c r
end SX
namespace DL
open PyProof.Rows L2 SX
def okT(z:Str)(lo hi:Option Int):Prop:=0<=lo.getD 0/\lo.getD 0<=hi.getD z.cps.toList.length/\lo.getD 0<=z.cps.toList.length
instance (z:Str) (lo hi:Option Int):Decidable (okT z lo hi):=by unfold okT;infer_instance
end DL
namespace DL
open PyProof.Rows L2
end DL
namespace DQ
open PyProof.Rows
open Builtin Builtin.ObjectAttr
open PySem.W (Looks findIn mroIn specialIn takesIn clsIn looks_findIn looks_mroIn looks_find findObj handedIn hasDictIn lookIn)
section
variable {w:cu}{s:az}{K:Fg}{e:Addr}{oe:Obj}{od:Option Obj}{v:aa}
noncomputable def ZpB:aa->Bool
 |.ref _=>true
 |_=>false
def Zku:List aa->Bool
 |[]=>false
 |v::r=>if ZpB v then Zku r else(v::r)==[.type "ValueError",.type "Exception",.type "BaseException",.type "object"]
theorem Zkv{v:aa}(h:ZpB v=true):∃a,v=.ref a:=by
 cases v<;>first|exact⟨_,rfl⟩|cases h
theorem Zf7(self:aa):∀{l:List aa},Zku l=true->refuseLoop self "__setattr__" l=pure ()/\l.contains (.type "object")=true/\l.isEmpty=false
 |[],h=>by cases h
 |v::r,h=>by
  unfold Zku at h
  split at h
  .rename_i q;obtain⟨a,rfl⟩:=Zkv q;obtain⟨h1,h2,_⟩:=Zf7 self h;exact⟨by rw[refuseLoop_ref];exact h1,by rw[List.contains_cons,h2,Bool.or_true],rfl⟩
  .have e:=eq_of_beq h;rw[e];exact⟨PySem.F.store_ValueError.passes self,by decide +kernel,rfl⟩
def ZcD(K:Fg)(C:Addr):Bool:=(iT K C).any λcd=>Zku cd.mro
theorem ZiJ(X:K.In s.heap)(I:PySem.W.InstAt s.heap e oe C od)(hp:ZcD K C=true)(ht:PySem.W.takerIn K C name=some none)(h:∀b,wpAny (ae prog w) A.in1 (storeInOwnDict (.ref e) (.ref C) (.str name tk) name v b) (λfin s'=>match fin with|.done f=>R (.ok f) s'|.again c'=>c'.quiet=true/\gY (ae prog w) A c' R s') (λe s'=>R (.error e) s') s) :
  gY (ae prog w) A (.call (.builtin "object.__setattr__") ⟨[.ref e,.str name tk,v],[]⟩) R s:=by
 have SF:=PySem.F.store_object;obtain⟨cd,hc,ho⟩:=PySem.W.any_some hp;obtain⟨r1,r2,r3⟩:=Zf7 (.ref e) ho;have sub:jy (ae prog w) s.heap (gz (.ref e) (.type "object")) true:=I.type.andThen (fV X (by unfold gq;rw[hc,Option.bind_some,if_neg (by rw[r3];decide),r2]))
 refine jF SF.slot.plain SF.entry (@PySem.W.check_slot (ae prog w) _ _ s "object.__setattr__" "object" "__setattr__" (.ref e) [.str name tk,v] [] _ SF.kind SF.split sub (SF.args (.ref e) (.str name tk) v) ?_);obtain⟨attr,ha,hr⟩:=Option.bind_eq_some_iff.mp ht;have hm:jy (ae prog w) s.heap (mroOf (.ref C)) cd.mro:=(PySem.W.looks_clsIn X hc).andThen .now;have L3:jy (ae prog w) s.heap (dI.ObjectAttr.storeTaker? attr) none:=by
  cases attr with
  |none=>exact .now
  |some a=>
   obtain⟨b,hb,e⟩:=ar.mp hr;refine(PySem.W.looks_takesIn X hb).andThen ?_;cases b
   .exact .now
   .cases e
 rw[PySem.W.osa_eq,refuse_eq];refine Wb (Wb (I.type.here (Wb (hm.here ?_))));rw[r1];refine Wp (Wb (I.type.here (Wb ((kW X ha).here (Wb (L3.here ?_))))));exact h _
theorem ZpC(X:K.In s.heap)(I:PySem.W.InstAt s.heap e oe C od)(hs:cH K (.ref C) "__setattr__"=some (some (.builtin "object.__setattr__")))(hp:ZcD K C=true)(ht:PySem.W.takerIn K C name=some none)(h:∀b,wpAny (ae prog w) A.in1 (storeInOwnDict (.ref e) (.ref C) (.str name s.toks) name v b) (λfin s'=>match fin with|.done (.ret _)=>Q () s'|_=>False) E {s with toks:=s.toks+1}):wpAny (ae prog w) A (setAttr (.ref e) name v) Q E s:=by
 refine PySem.W.set_plain X I hs (ZiJ (s:={s with toks:=s.toks+1}) X I hp ht λb=>wpAny_mono (h b) (λfin s' z=>?_) λ_ _ z=>z);rcases fin with(_|_|_|_)|_<;>first|exact z|exact z.elim
theorem Zm0(X:K.In s.heap)(hx:s.heap.get? e=some oe)(hc:oe.cls=.ref C)(hd:oe.data=.fields vs)(hn:oe.dict=none)(hs:cH K (.ref C) "__setattr__"=some (some (.builtin "object.__setattr__")))(hp:ZcD K C=true)(ht:PySem.W.takerIn K C name=some none)(hh:iV K C=true)(h:∀h',h'.get? e=some {oe with dict:=some s.heap.objs.size}->h'.Ns1 s.heap.objs.size (λy=>if y=name then some v else none)->(∀b o,b≠e->s.heap.get? b=some o->h'.get? b=some o)->Q () {s with heap:=h',toks:=s.toks+2}):wpAny (ae prog w) A (setAttr (.ref e) name v) Q E s:=by
 have I:PySem.W.InstAt s.heap e oe C none:=⟨hx,hc,by unfold PySem.W.notCls;rw[hd],by rw[hn];trivial⟩
 refine ZpC X I hs hp ht λb=>?_;obtain⟨cd,hcd,hd'⟩:=PySem.W.any_some hh;refine Wb (Wp (Wb (Wb (wpAny_loadPart hx ?_))));rw[hc];refine Wb (PySem.W.Looks.here (s:={s with toks:=s.toks+1}) (PySem.W.looks_clsIn X hcd) ?_);rw[hd',hn];dsimp only;rw[if_neg (by decide),if_neg (by simp[typeHasDict]),hd]
 dsimp only;obtain⟨hp0,g,d,t,os⟩:=s;dsimp only at hx h ⊢;have hx₁:(hp0.push {cls:=.type "dict",data:=.dict #[]}).get? e=some oe:=Hq _ hx;have hxs:e≠hp0.objs.size:=aI (Hz hx);refine Wb (wpAny_alloc' ?_);refine Wb (wpAny_update' hx₁ ?_);refine Wp ?_;have hgd:((hp0.push {cls:=.type "dict",data:=.dict #[]}).update e λo=>{cls:=o.cls,dict:=some hp0.objs.size,data:=o.data,slots:=o.slots}).get? hp0.objs.size=some {cls:=.type "dict",data:=.dict #[]}:=
  (jZ _ _ _ _ hxs.symm).trans (lH.get?_push_at rfl rfl)
 have hnd:((hp0.push {cls:=.type "dict",data:=.dict #[]}).update e λo=>{cls:=o.cls,dict:=some hp0.objs.size,data:=o.data,slots:=o.slots}).Ns hp0.objs.size (λ_=>none):=
  ⟨_,#[],_,hgd,rfl,λe he=>absurd he (by simp),λ_=>rfl⟩
 show wpAny _ _ (storeInDict hp0.objs.size (.str name t) name v) _ _ _;unfold storeInDict newKeyGuard;refine Wb (Wp (Wb (wpAny_nsSet1 (lH.Ns1.of_empty hnd) λh' hn' hs=>?_)));obtain⟨oD,esD,epD,hoD,hdD,hcD⟩:=hn'.count (PySem.Within.cons name v PySem.Within.nil);refine Wb (wpAny_lookBehind hoD (by rw[hdD];exact pastItsLine_dict (aQ hcD (by rw[aH,cC,c9];lia))) ?_)
 refine Wp (h h' ?_ hn' λb ob hbx hb=>?_)
 .refine(hs.2 e hxs).trans (bC _ hx₁ ?_);obtain⟨oc,odi,odt,osl⟩:=oe;dsimp only at hd;subst hd;rfl
 .exact(hs.2 b (aI (Hz hb))).trans ((jZ _ _ _ _ hbx).trans (Hq _ hb))
theorem Zm1(X:K.In s.heap)(I:PySem.W.InstAt s.heap e oe C od)(hd:oe.dict=some dx)(hns:s.heap.Ns1 dx mA)(hs:cH K (.ref C) "__setattr__"=some (some (.builtin "object.__setattr__")))(hp:ZcD K C=true)(ht:PySem.W.takerIn K C name=some none)(hh:iV K C=true)(hw:PySem.Within mA ns)(hsz:ns.length<=1000)(h:∀h',h'.Ns1 dx (λy=>if y=name then some v else mA y)->fZ dx s.heap h'->Q () {s with heap:=h',toks:=s.toks+2}):wpAny (ae prog w) A (setAttr (.ref e) name v) Q E s:=by
 refine ZpC X I hs hp ht λb=>?_;obtain⟨cd,hcd,hd'⟩:=PySem.W.any_some hh;refine Wb (Wp (Wb (Wb (wpAny_loadPart I.at_ ?_))));rw[I.cls];refine Wb (PySem.W.Looks.here (s:={s with toks:=s.toks+1}) (PySem.W.looks_clsIn X hcd) ?_);rw[hd',hd];refine Wp (a:=some dx) (Wb (Wp (Wb ?_)));refine wpAny_nsSet1 (s:={s with toks:=s.toks+1}) hns λh' hn2 hs2=>?_;obtain⟨oD,esD,epD,hoD,hdD,hcD⟩:=hn2.count (PySem.Within.cons name v hw);refine Wb (wpAny_lookBehind hoD (by rw[hdD];exact pastItsLine_dict (aQ hcD (by rw[aH,c9];lia))) ?_)
 exact Wp (h _ hn2 hs2)
theorem ZiK{os:kS}(T:kX h [.type "ValueError",.type "Exception",.type "BaseException",.type "object"] bm)(hC:h.get? C=some (eP nm q C N bs bm hdct sn sub ab col dd k0 k1 k2 k3 k5 "ValueError.__new__"))(he:h.get? e=some oe)(hc:oe.cls=.ref C)(hd:oe.data=.fields vs)(h0:vs[0]?=some (.ref t0))(hq:∀h',(∀b o,b≠e->h.get? b=some o->h'.get? b=some o)->h'.get? e=some {oe with data:=.fields (vs.setIfInBounds 0 (.ref h.objs.size))}->Q .none ⟨h',g,d,t,os⟩):wpAny (ae prog w) A (call (.builtin "ValueError.__init__") [.ref e,v]) Q E ⟨h,g,d,t,os⟩:=by
 refine kC (jF F.excBase_ValueError.init.plain F.excBase_ValueError.initEntry (wpAny_check_init_subT F.excBase_ValueError T hC he hc ?_));have hz:0<vs.size:=(bS.mp h0).1;have he1:(h.push {cls:=aT "tuple",data:=Data.seq #[v]}).get? e=some oe:=Hq _ he
 wp_walk
 rw[hd];refine Wp ?_;rw[h0];refine Wp (Wb (dM he1 hd hz ?_))
 wp_walk
 refine hq _ (λb o hb x=>?_) ?_
 .rw[av _ _ (bD hb)];exact Hq _ x
 .rw[bC _ he1 (dj (dW hd _))];obtain⟨oc,odi,odt,osl⟩:=oe;dsimp only at hd;subst hd;rfl
end
section
variable {os:kS}
variable {bm:List aa}{initId:String}
theorem Zdz(F:kZ B newId initId bmB)(T:kX h bmB bm)(hC:h.get? C=some (eP nm q C N bs bm hdct sn sub ab col dd k0 k1 k2 k3 k5 newId))(hn:h.Ns N mN)(hi:mN "__init__"=some (.ref fI))(hfI:h.get? fI=some oI)(hfc:oI.cls=.type "function")(hq:∀h' e,jG h h' e (.ref C) Zam->wpAny (ae prog w) A (call (.ref fI) (.ref e::Zam)) (λr s'=>r=.none/\Q (.done (.ret (.ref e))) s') E ⟨h',g,d,t,os⟩)(hrest:Zam.length<=sizeLine):wpAny (ae prog w) A (dI.«type.__call__» ⟨.ref C::Zam,[]⟩) Q E ⟨h,g,d,t,os⟩:=by
 repeat (first|with_reducible refine eJ hC ?_|with_reducible refine wpAny_madeBy_exc hC ?_|wp_step)
 refine codeAny_call_builtin_code (Code.quiet_builtin _ F.quiet) (wpAny_check_new_subT F T hC ?_);refine codeAny_exc_new_subT F T hC ?_ hrest;show wpAny _ _ _ _ _ _;have hC₁:=Hq {cls:=.ref C,data:=.fields #[.ref h.objs.size,.none,.none,.none,.bool false,.none]}
  (Hq {cls:=.type "tuple",data:=.seq Zam.toArray} hC)
 have hfI₁:=Hq {cls:=.ref C,data:=.fields #[.ref h.objs.size,.none,.none,.none,.bool false,.none]}
  (Hq {cls:=.type "tuple",data:=.seq Zam.toArray} hfI)
 have hn₁:((h.push {cls:=.type "tuple",data:=.seq Zam.toArray}).push {cls:=.ref C,data:=.fields #[.ref h.objs.size,.none,.none,.none,.bool false,.none]}).Ns N mN:=
  let ⟨o,es,ep,e,r⟩:=hn;⟨o,es,ep,Hq _ (Hq _ e),r⟩
 have hget:((h.push {cls:=.type "tuple",data:=.seq Zam.toArray}).push {cls:=.ref C,data:=.fields #[.ref h.objs.size,.none,.none,.none,.bool false,.none]}).get? (h.objs.size+1)=some
   {cls:=.ref C,data:=.fields #[.ref h.objs.size,.none,.none,.none,.bool false,.none]}:=by heap_get
 have hcC:(aA C::bm).contains (.ref C)=true:=by simp
 have T₁:=T.keeps (h':=(h.push {cls:=.type "tuple",data:=.seq Zam.toArray}).push {cls:=.ref C,data:=.fields #[.ref h.objs.size,.none,.none,.none,.bool false,.none]})
  λb o e=>Hq _ (Hq _ e)
 unfold gz
 repeat (first|with_reducible refine eJ hget ?_|(with_reducible refine j8 hC₁ ?_;rw[hcC])|wp_step)
 show wpAny _ _ (typeLookup (.ref C) _) _ _ _;refine wpAny_typeLookup_tail hC₁ hn₁ T₁ F.mroIs F.init.lookup ?_;rw[hi];refine cO (Wb ?_);unfold bindSpecial;refine Wb (kO (T:="function") ⟨_,hfI₁,hfc⟩ ?_);rw[if_pos (by decide)]
 refine Wp (Wb (wpAny_mono (hq _ (h.objs.size+1) ⟨λb o hb=>Hq _ (Hq _ hb),eN (fR _),h.objs.size,hget,eN (ac _),?_⟩) (λr s' hr=>?_) λ_ _ x=>x))
 .exact Hq _ (lH.get?_push_at rfl rfl)
 .obtain⟨rfl,hQ⟩:=hr
  wp_walk
  exact hQ
theorem ZiL(F:kZ B newId initId bmB)(T:kX h bmB bm)(hC:h.get? C=some (eP nm q C N bs bm hdct sn sub ab col dd k0 k1 k2 k3 k5 newId))(hn:h.Ns N mN)(hi:mN "__init__"=some (.ref fI))(hfI:h.get? fI=some oI)(hfc:oI.cls=.type "function")(hq:∀h' e,jG h h' e (.ref C) Zam->wpAny (ae prog w) (A.under (.builtin "type.__call__" ⟨.ref C::Zam,[]⟩)) (call (.ref fI) (.ref e::Zam)) (λr s'=>r=.none/\Q (.ref e) s') E ⟨h',g,d,t,os⟩)(hrest:Zam.length<=sizeLine):wpAny (ae prog w) A (call (.ref C) Zam) Q E ⟨h,g,d,t,os⟩:=by
 have f1:=tc_lookup;have f2:=tc_bind (.ref C);have hT:(⟨h,g,d,t,os⟩:az).TypeIs (.ref C) "type":=⟨_,hC,rfl⟩;refine kC (codeAny_of_tree ?_);show wpAny _ _ (callAny (.ref C) _) _ _ _
 repeat (any_goals (first|assumption|with_reducible refine eJ hC ?_|wp_step))
 refine⟨rfl,?_⟩;refine codeAny_call_builtin_at (Code.quiet_builtin _ (by decide +kernel)) entry_typeCall (wpAny_check_type_call_sub hC (Zdz (hrest:=hrest) F T hC hn hi hfI hfc λh' e hm=>?_))
 exact hq h' e hm
end
theorem ZcE(hbase:bm.contains (.type "BaseException")=true)(hh:A.handled=none)(h:wpAny (ae prog w) A x (λv s₁=>∃e oe vs,v=.ref e/\s₁.heap.get? C=some (eP nm q C N bs bm hdct sn sub ab col dd k0 k1 k2 k3 k5 newId)/\s₁.heap.get? e=some oe/\oe.cls=.ref C/\oe.data=.fields vs/\vs[1]?=some .none/\E (.ref e) s₁) E s):wpAny (ae prog w) A (raiseStmt env (some x) none) Q E s:=by
 have hcB:(aA C::bm).contains (.type "BaseException")=true:=by rw[List.contains_cons,hbase,Bool.or_true]
 unfold raiseStmt;refine Wb (wpAny_mono h (λv s₁ h₁=>?_) λ_ _ x=>x);obtain⟨e,⟨oc,odi,odt,osl⟩,vs,rfl,hC,he,hc,hd,h1,hE⟩:=h₁;dsimp only at hc hd;subst hc hd;obtain⟨hp,g,d,tk,os⟩:=s₁
 repeat (first|with_reducible refine eJ he ?_|with_reducible refine eJ hC ?_|(with_reducible refine j8 hC ?_;rw[hcB])|wp_step)
 rw[h1];refine Wp ?_;rw[if_neg (by decide)]
 exact Wp (wpAny_raiseNew_none hh hE)
theorem ZgR(F:kZ B newId initId bmB)(hbase:bm.contains (.type "BaseException")=true)(hh:A.handled=none)(hplain:(b8 cpos (af args env)).any (·.1)=false)(hi:mN "__init__"=some (.ref fI))(hfc:oI.cls=.type "function")(h:wpAny (ae prog w) A (eval (.Name x np) env) (λf s₁=>f=.ref C/\wpAny (ae prog w) A (evalArgs (.ref C) true (b8 cpos (af args env)) [])
   (λa s₂=>a.kw=[]/\a.pos.length<=sizeLine/\s₂.heap.get? C=some (eP nm q C N bs bm hdct sn sub ab col dd k0 k1 k2 k3 k5 newId)/\s₂.heap.Ns N mN/\kX s₂.heap bmB bm/\s₂.heap.get? fI=some oI/\ ∀h' e,jG s₂.heap h' e (.ref C) a.pos->wpAny (ae prog w) (A.under (.builtin "type.__call__" ⟨.ref C::a.pos,[]⟩)) (call (.ref fI) (.ref e::a.pos)) (λr s'=>r=.none/\∃oe vs,s'.heap.get? C=some (eP nm q C N bs bm hdct sn sub ab col dd k0 k1 k2 k3 k5 newId)/\s'.heap.get? e=some oe/\oe.cls=.ref C/\oe.data=.fields vs/\vs[1]?=some .none/\E (.ref e) s') E {s₂ with heap:=h'}) E s₁) E s) :
  wpAny (ae prog w) A (exec (.Raise (some (.Call (.Name x np) args [] cpos)) none pos) env) Q E s:=by
 rw[arm_exec_Raise]
 first
  |refine Wb (wpAny_standAt (ZcE (C:=C) (nm:=nm) (q:=q) (N:=N) (bs:=bs) (bm:=bm) (hdct:=hdct) (sn:=sn) (sub:=sub) (ab:=ab) (col:=col) (dd:=dd) (k0:=k0) (k1:=k1) (k2:=k2) (k3:=k3) (k5:=k5) (newId:=newId) hbase hh (Wb (wpAny_mono (iE (wpAny_mono h (λf s₁ h₁=>?_) λ_ _ x=>x)) (λv s₃ h₃=>Wb (wpAny_standAt (Wp h₃))) λ_ _ x=>x))))
  | (simp only[evalOpt,Option.map];refine Wb (wpAny_standAt (ZcE (C:=C) (nm:=nm) (q:=q) (N:=N) (bs:=bs) (bm:=bm) (hdct:=hdct) (sn:=sn) (sub:=sub) (ab:=ab) (col:=col) (dd:=dd) (k0:=k0) (k1:=k1) (k2:=k2) (k3:=k3) (k5:=k5) (newId:=newId) hbase hh (Wb (wpAny_mono (iE (wpAny_mono h (λf s₁ h₁=>?_) λ_ _ x=>x)) (λv s₃ h₃=>Wb (wpAny_standAt (Wp h₃))) λ_ _ x=>x)))))
  | (refine Wb (wpAny_standAt (ZcE (C:=C) (nm:=nm) (q:=q) (N:=N) (bs:=bs) (bm:=bm) (hdct:=hdct) (sn:=sn) (sub:=sub) (ab:=ab) (col:=col) (dd:=dd) (k0:=k0) (k1:=k1) (k2:=k2) (k3:=k3) (k5:=k5) (newId:=newId) hbase hh ?_));refine Wb (wpAny_mono (iE (wpAny_mono h (λf s₁ h₁=>?_) λ_ _ x=>x)) (λv s₃ h₃=>Wb (wpAny_standAt (Wp h₃))) λ_ _ x=>x))
 obtain⟨rfl,h₁⟩:=h₁;unfold callWith;refine Wb (cO (wpAny_mono h₁ (λa s₂ h₂=>Wb (wpAny_standAt ?_)) λ_ _ x=>x));obtain⟨apos,akw⟩:=a;obtain⟨hkw,hlen,hC,hn,T,hfI,h₂⟩:=h₂;obtain rfl:akw=[]:=hkw;obtain⟨hp,g,d,tk,os⟩:=s₂;simp only[hplain];refine Wb (wpAny_keeperOf_exc hC ?_);refine Wb (ZiL (hrest:=hlen) F T hC hn hi hfI hfc λh' e hm=>wpAny_mono (h₂ h' e hm) (λr s' z=>⟨z.1,Wb (cO (wpAny_point (Wp ?_)))⟩) λ_ _ x=>x);obtain⟨-,oe,vs,z1,z2,z3,z4,z5,z6⟩:=z;exact⟨e,oe,vs,rfl,z1,z2,z3,z4,z5,z6⟩
end DQ
namespace DL
open PyProof.Rows L2
open PySem.W (nsIn excIn tailIn nsOkIn mroIn clsIn typeIn findIn specialIn takesIn hasDictIn readsIn findCls handedIn)
def Zf8(K:Fg)(C fI:Addr)(bmB:List aa)(newId:String):Bool:=match K.lookup C with
 |some ⟨.type "type",_,.cls cd,sl⟩=>(match cd.mro,sl.toList with
  |.ref C'::bm,[_,_,_,_,some (.builtin n),_]=>C'==C&&n==newId && !cd.hasDel&&tailIn K bmB bm&&nsOkIn K cd.ns&&nsIn K cd.ns "__init__"==some (some (.ref fI))
  |_,_=>false)
 |_=>false
theorem ZgS{K:Fg}(X:K.In h)(G:h.Ns N mg)(e:nsIn K N n=some (some v)):mg n=some v:=by
 obtain⟨o,es,ep,ho,hd,_,hf⟩:=G;unfold PySem.W.nsIn at e
 split at e
 .rename_i c d es' n' sl q
  have:=X _ _ q
  rw[ho]at this;cases this;cases hd
  split at e
  .rename_i en he;cases e;rw[<-hf];unfold nsFind findBy;rw[<-Array.find?_toList,he];rfl
  .split at e<;>cases e
 .cases e
theorem Zf9{K:Fg}(X:K.In h)(q:Zf8 K C fI bmB newId=true):∃bm N nm q bs hdct sn sub ab col dd k0 k1 k2 k3 k5 mN,h.get? C=some (eP nm q C N bs bm hdct sn sub ab col dd k0 k1 k2 k3 k5 newId)/\h.Ns N mN/\mN "__init__"=some (.ref fI)/\kX h bmB bm:=by
 unfold Zf8 at q
 split at q
 .rename_i dd cd sl ho
  split at q
  .rename_i C' bm k0 k1 k2 k3 n k5 hm hs;simp only[aV,beq_iff_eq,dz]at q;obtain⟨⟨⟨⟨⟨rfl,rfl⟩,hdel⟩,ht⟩,hok⟩,hni⟩:=q;obtain⟨nm,bs,mro,ns,qn,hd,sn,sub,ab,col,del⟩:=cd;dsimp only at hm hdel hok hni;subst hm hdel;obtain⟨l⟩:=sl;simp only at hs;subst hs;have G:h.Ns ns _:=.of_isNs (PySem.W.isNs_of_in X hok);exact⟨bm,ns,nm,qn,bs,hd,sn,sub,ab,col,dd,k0,k1,k2,k3,k5,_,X _ _ ho,G,ZgS X G hni,PySem.W.tail_of_in X ht⟩
  .cases q
 .cases q
def ZiM(K:Fg)(c:Str)(fI:Addr):Bool:=match Zcz K c with
 |some C=>Zf8 K C fI bmV "ValueError.__new__"&&cH K (.ref C) "__getattribute__"==some (some (.builtin "BaseException.__getattribute__"))&&cH K (.ref C) "__getattr__"==some none&&cH K (.ref C) "__class__"==some (some (.builtin "object.__class__")) &&
  eD K (.builtin "object.__class__") "__get__"==some (some (.builtin "getset_descriptor.__get__"))&&hG K (.builtin "object.__class__")==some true&&gq K C (.type "BaseException")==some true&&gq K C (.type "object")==some true&&(iT K C).isSome &&
  cH K (.ref C) "__setattr__"==some (some (.builtin "object.__setattr__"))&&DQ.ZcD K C&&iV K C&&cH K (.ref C) "where"==some none&&cH K (.ref C) "at"==some none&&kG K (.ref fI)==some (.type "function")
 |none=>false
structure ExF(K:Fg) (C fI:Addr):Prop where
 inn:Zf8 K C fI bmV "ValueError.__new__"=true
 exc:DQ.ExcC K C
 sa:cH K (.ref C) "__setattr__"=some (some (.builtin "object.__setattr__"))
 ov:DQ.ZcD K C=true
 hd:iV K C=true
 fw:cH K (.ref C) "where"=some none
 fa:cH K (.ref C) "at"=some none
 ty:kG K (.ref fI)=some (.type "function")
theorem Zga{K:Fg}(h:ZiM K c fI=true):∃C,nsIn K aG c=some (some (.ref C))/\ExF K C fI:=by
 unfold ZiM at h
 split at h
 .rename_i C e;simp only[aV,beq_iff_eq]at h;obtain⟨⟨⟨⟨⟨⟨⟨⟨⟨⟨⟨⟨⟨⟨h1,h2⟩,h3⟩,h4⟩,h5⟩,h6⟩,h7⟩,h8⟩,h9⟩,h10⟩,h11⟩,h12⟩,h13⟩,h14⟩,h15⟩:=h;exact⟨C,Zbq e,h1,⟨h2,h3,h4,h5,h6,h7,h8,h9⟩,h10,h11,h12,h13,h14,h15⟩
 .cases h
theorem Zgb{K:Fg}(h:cH K (.ref C) f=some none):PySem.W.takerIn K C f=some none:=by unfold PySem.W.takerIn;rw[h];rfl
def Mkg(C e:Addr)(dct:Option Addr)(h:Heap):Prop:=∃oe vs t0,h.get? e=some oe/\oe.cls=.ref C/\oe.dict=dct/\oe.data=.fields vs/\vs[0]?=some (.ref t0)/\vs[1]?=some .none/\vs[2]?=some .none
theorem ZiN(m:Mkg C e dct h):ZaN P w H h e (.ext (Mkg C e dct)):=
 ⟨m,let ⟨oe,_,_,g,_⟩:=m;⟨oe,g⟩,λ_ _ ⟨oe,vs,t0,g,r⟩ k=>⟨oe,vs,t0,k _ g,r⟩⟩
theorem Zd7(I:Inv X pins σ H s)(ch:Addr->Prop)(c1:∀b,ch b->(∃φ,H b=some (.ext φ))\/(∃fs,H b=some (.xd fs))\/s.heap.get? b=none)(k:∀b o,¬ch b->s.heap.get? b=some o->h'.get? b=some o)(th:∀b,ch b->∃o,h'.get? b=some o)(hH:∀b,¬ch b->H' b=H b)(ok:∀b u,ch b->H' b=some u->ZaN X.prog X.w H' h' b u):Inv X pins σ H' {s with heap:=h',toks:=t}:=by
 have nn:∀b o,s.heap.get? b=some o->H b=none->¬ch b:=λb o x n c=>by
  rcases c1 b c with⟨φ,z⟩|⟨fs,z⟩|z
  .rw[n]at z;cases z
  .rw[n]at z;cases z
  .rw[x]at z;cases z
 have nt:∀b u,H b=some u->(∀φ,u≠ .ext φ)->(∀fs,u≠ .xd fs)->¬ch b:=λb u q n1 n2 c=>by
  rcases c1 b c with⟨φ,z⟩|⟨fs,z⟩|z
  .rw[q]at z;cases z;exact n1 _ rfl
  .rw[q]at z;cases z;exact n2 _ rfl
  .obtain⟨o,g⟩:=ZcZ (I.hok b u q);rw[z]at g;cases g
 refine I.call' (s':={s with heap:=h',toks:=t}) (ch:=[]) rfl ⟨λb o x n _ _=>k b o (nn b o x n) x,λb o x n _ _=>⟨o.slots,k b o (nn b o x n) x⟩,λb o x n _=>by rw[hH b (nn b o x n)];exact n,λb o x _=>?_,λb xs q=>?_,λb o u q=>?_,λb ps q=>⟨#[],?_⟩⟩ (λb u q=>?_) I.bare (λb z=>absurd z (by simp))
 .by_cases c:ch b
  .exact th b c
  .exact⟨o,k b o c x⟩
 .rw[hH b (nt b _ q (by simp) (by simp))];exact q
 .rw[hH b (nt b _ q (by simp) (by simp))];exact q
 .rw[hH b (nt b _ q (by simp) (by simp)),fP];exact q
 .by_cases c:ch b
  .exact ok b u c q
  .rw[hH b c]at q;refine(I.hok b u q).stay (λa v ha r=>k a v ?_ r) (λa r=>?_) λa xs r=>?_
   .rcases ha with rfl|ha
    .exact c
    .exact nt a _ ha (by simp) (by simp)
   .rw[hH a (nt a _ r (by simp) (by simp))];exact r
   .rw[hH a (nt a _ r (by simp) (by simp))];exact r
noncomputable def tFm(ta:TE):TE:=λσ H Q=>ta σ H λx H1=>(∃i,x=.int i/\i.natAbs.log2<1900/\Q (.str (aB (toString i))) H1)\/∃y,x=.str y/\y.length<=100000/\Q (.str y) H1
theorem ZpD(pa:PE X e ta):PE X (.FormattedValue e (-1) none pos) (tFm ta):=by
 intro pins s σ H Q I h;refine wpAny_FormattedValue_plain (wpAny_mono (pa pins s σ H _ I h) (λv s1 hz=>?_) λ_ _ z=>z);obtain⟨x,H1,I1,r1,q1⟩:=hz;rcases q1 with⟨i,rfl,hi,q⟩|⟨y,rfl,hy,q⟩
 .obtain⟨t,rfl⟩:=r1;exact jp ⋯ ⟨.str (aB (toString i)),H1,I1.tok _,⟨_,rfl⟩,q⟩
 .obtain⟨t,rfl⟩:=r1;exact jq ⟨.str y,H1,I1,⟨_,rfl⟩,q⟩ ⟨.str y,H1,I1.tok _,⟨_,rfl⟩,q⟩ (aQ hy (by rw[c9];decide))
noncomputable def tF4(a b:Str)(i j:Nat):TE:=λσ H Q=>∃y n,σ[i]?=some (some (.str y))/\σ[j]?=some (some (.int n))/\a.length<=1000/\b.length<=1000/\y.length<=1000/\n.natAbs.log2<1900/\(aB (toString n)).length<=10000/\∀x,Q (.str x) H
theorem Zsf(h1:X.N[i]?=some n1)(h2:X.N[j]?=some n2)(v1:Vis X.env.scope n1)(v2:Vis X.env.scope n2)(d1:autoParam ((n1==("__debug__":Str))=false) Qde._auto_1)(d2:autoParam ((n2==("__debug__":Str))=false) Qde._auto_1)(c1:autoParam ((n1==("__classdict__":Str))=false) Qde._auto_1)(c2:autoParam ((n2==("__classdict__":Str))=false) Qde._auto_1) :
  PE X (.JoinedStr [.Constant (.str a) k1 p1,.FormattedValue (.Name n1 p2) (-1) none p3,.Constant (.str b) k2 p4,.FormattedValue (.Name n2 p5) (-1) none p6] pos) (tF4 a b i j):=by
 intro pins s σ H Q I hz;obtain⟨y,n,e1,e2,la,lb,ly,ln,lt,q⟩:=hz;have sz:∀{x:Str},x.length<=100000->x.length<=sizeLine:=λh=>aQ h (by rw[c9];decide)
 have l0:(jV:Str).length=0:=by decide
 refine wpAny_JoinedStr ?_;show wpAny _ _ (eval (.Constant (.str a) k1 p1) X.env) _ _ s;refine wpAny_mono (ZfJ (X:=X) pins s σ H (λx H1=>x=.str a/\H1=H) I ⟨rfl,rfl⟩) (λv s1 hz=>?_) λ_ _ z=>z;obtain⟨x,H1,I1,r1,q1⟩:=hz;obtain⟨rfl,rfl⟩:=q1;obtain⟨t,rfl⟩:=r1;refine⟨a,t,rfl,sz (by rw[bN];lia),?_⟩
 show wpAny _ _ (eval (.FormattedValue (.Name n1 p2) (-1) none p3) X.env) _ _ s1;refine wpAny_mono (ZpD (Zcf h1 v1 d1 c1) pins s1 σ H1 (λx H2=>x=.str y/\H2=H1) I1 ⟨_,e1,.inr ⟨y,rfl,⋯,rfl,rfl⟩⟩) (λv s2 hz=>?_) λ_ _ z=>z
 obtain⟨x,H2,I2,r2,q2⟩:=hz;obtain⟨rfl,rfl⟩:=q2;obtain⟨t2,rfl⟩:=r2;refine⟨y,t2,rfl,sz (by rw[bN,bN];lia),?_⟩
 show wpAny _ _ (eval (.Constant (.str b) k2 p4) X.env) _ _ s2;refine wpAny_mono (ZfJ (X:=X) pins s2 σ H2 (λx H1=>x=.str b/\H1=H2) I2 ⟨rfl,rfl⟩) (λv s3 hz=>?_) λ_ _ z=>z;obtain⟨x,H3,I3,r3,q3⟩:=hz;obtain⟨rfl,rfl⟩:=q3;obtain⟨t3,rfl⟩:=r3;refine⟨b,t3,rfl,sz (by rw[bN,bN,bN];lia),?_⟩
 show wpAny _ _ (eval (.FormattedValue (.Name n2 p5) (-1) none p6) X.env) _ _ s3;refine wpAny_mono (ZpD (Zcf h2 v2 d2 c2) pins s3 σ H3 (λx H2=>x=.str (aB (toString n))/\H2=H3) I3 ⟨_,e2,.inl ⟨n,rfl,ln,rfl,rfl⟩⟩) (λv s4 hz=>?_) λ_ _ z=>z;obtain⟨x,H4,I4,r4,q4⟩:=hz;obtain⟨rfl,rfl⟩:=q4;obtain⟨t4,rfl⟩:=r4;refine⟨_,t4,rfl,sz (by rw[bN,bN,bN,bN];lia),?_⟩
 exact⟨sz (by rw[bN,bN,bN,bN];lia),.str _,H4,I4.tok _,⟨_,rfl⟩,q _⟩
def Zgc(K:Fg)(r:Str):Bool:=match Zcz K r with
 |some R=>eD K (.ref R) "__getattribute__"==some (some (.builtin "type.__getattribute__"))&&readsIn K R (.type "type")&&(match findCls K (.ref R) (.type "type") "__init__" with|some (.val v)=>v == .builtin "ValueError.__init__"|_=>false)
 |none=>false
theorem Zkw(hb:Zgc X.K r=true)(gl:∀c v,nsIn X.K aG c=some (some v)->X.mg c=some v)(hg:Gl X r)(hc:ExF X.K C fI)(hn:X.N[0]?=some sn)(hv:Vis X.env.scope sn)(pf:PE X fe tf)(d1:autoParam ((sn==("__debug__":Str))=false) Qde._auto_1)(c1:autoParam ((sn==("__classdict__":Str))=false) Qde._auto_1)(hdb:autoParam ((r==("__debug__":Str))=false) Qde._auto_1)(hs:autoParam (af [.Name sn p3,fe] X.env=(false,eval (.Name sn p3) X.env)::af [fe] X.env) Qrf._auto_1)(hs2:autoParam (af [fe] X.env=(false,eval fe X.env)::af [] X.env) Qrf._auto_1)(hpl:autoParam ((b8 p4 (af [fe] X.env)).any (·.1)=false) Qrf._auto_1)(ht:eval (.Call (.Attribute (.Name r p1) "__init__" p2) [.Name sn p3,fe] [] p4) X.env=(do
   let ov <-eval (.Name r p1) X.env
   standAt p2.atName
   let (f,first) <-holding [ov] (getMethod ov "__init__" pl)
   callWith p4 f first (b8 p4 (af [.Name sn p3,fe] X.env)) (ju p4 (gK [] X.env))):=by rfl) :
  PE X (.Call (.Attribute (.Name r p1) "__init__" p2) [.Name sn p3,fe] [] p4) (λσ H Q=>∃e,σ[0]?=some (some (.ref e))/\H e=some (.ext (Mkg C e none))/\tf σ H λx H1=>∃y,[V.ref e,x]=[V.ref e,y]/\H1=H/\Q .non H):=by
 unfold Zgc at hb
 split at hb
 case h_2=>cases hb
 rename_i R hR;simp only[aV,beq_iff_eq]at hb;obtain⟨⟨b1,b2⟩,b3⟩:=hb
 split at b3
 case h_2=>cases b3
 rename_i v0 b4;have b5:=eq_of_beq b3;subst b5;intro pins s σ H Q I hz;obtain⟨e,e0,he,q⟩:=hz;refine PySem.W.methodCall_KW (pl:=pl) (ZdQ I hg (gl r _ (Zbq hR)) ?_ hdb) ht;refine PySem.W.method_cls I.kIn b1 (PySem.W.cls_value I.kIn b2 b4 rfl ?_);have I1:=I.tok (s.toks+1);have hA:=Zc5 (Zcf hn hv d1 c1) (Zc5 pf Zhs hs2) hs p4 pins {s with toks:=s.toks+1} σ H (λvs H1=>∃x,vs=[V.ref e,x]/\H1=H/\Q .non H) I1 ⟨_,e0,q⟩;rw[hs]at hA ⊢;refine Calls.callWith_builtin (by show(false||(b8 p4 (af [fe] X.env)).any (·.1))=false;rw[hpl]<;>rfl) (Calls.evalArgs_plain (thn hA λus s2 hz=>?_))
 obtain⟨vs,H2,I2,r2,x,ev,eh,q2⟩:=hz;subst ev eh;obtain⟨u1,u2,rfl,r3,r4⟩:=Zho r2;cases(show u1=aA e from r3);obtain⟨tl,N,nm,qn,bs,hdct,sn',sub,ab,col,dd,k0,k1,k2,k3,k5,mN,gC,hN,hni,TL⟩:=Zf9 I2.kIn hc.inn;obtain⟨⟨oe,vs,t0,g1,g2,g3,g4,g5,g6,g7⟩,_,_⟩:=I2.hok e _ he;obtain⟨hp,gg,dd',tk,os⟩:=s2;refine DQ.ZiK TL gC g1 g2 g4 g5 λh' k1 k2=>⟨.non,H2,?_,rfl,q2⟩;have hz:0<vs.size:=(bS.mp g5).1;refine Zd7 (s:=⟨hp,gg,dd',tk,os⟩) (t:=tk) I2 (λb=>b=e) (λb z=>.inl ⟨_,z▸he⟩) (λb o z x=>k1 b o z x) (λb z=>⟨_,z▸k2⟩) (λb z=>rfl) λb u z q'=>?_;subst z;rw[he]at q';cases q';refine ZiN ⟨_,_,hp.objs.size,k2,g2,g3,rfl,?_,?_,?_⟩
 .rw[b6 hz]
 .rw[cK (by decide)];exact g6
 .rw[cK (by decide)];exact g7
theorem Zsg{f:Str}{v:V}:[(f,v)].lookup g=if g=f then some v else none:=by
 rw[bG];by_cases c:g=f
 .subst c;simp
 .rw[if_neg c,show(g==f)=false by simpa using c];rfl
theorem Zm2{i:Nat}(hc:ExF X.K C fI)(hf:cH X.K (.ref C) f=some none)(hn:X.N[0]?=some sn)(hv:Vis X.env.scope sn)(hn2:X.N[i]?=some vn)(hv2:Vis X.env.scope vn)(d1:autoParam ((sn==("__debug__":Str))=false) Qde._auto_1)(c1:autoParam ((sn==("__classdict__":Str))=false) Qde._auto_1)(d2:autoParam ((vn==("__debug__":Str))=false) Qde._auto_1)(c2:autoParam ((vn==("__classdict__":Str))=false) Qde._auto_1)(hs:autoParam (hU (.Name vn p3) (some (.Attribute (.Name sn p1) f p2)) pos.line X.env=pure false) Qrf._auto_1) :
  PS X (.Assign [.Attribute (.Name sn p1) f p2] (.Name vn p3) pos) (λDn σ H=>∃e v,σ[0]?=some (some (.ref e))/\σ[i]?=some (some v)/\H e=some (.ext (Mkg C e none))/\∀dx,H dx=none->dx≠e->Dn.nx σ (upd (upd H e (.ext (Mkg C e (some dx)))) dx (.xd [(f,v)]))):=by
 intro pins s σ H Dn I hz;obtain⟨e,v,e0,e1,he,q⟩:=hz;refine gn (thn (Zcf hn2 hv2 d2 c2 pins s σ H (λy H1=>y=v/\H1=H) I ⟨v,e1,rfl,rfl⟩) λu s1 ⟨y,H1,I1,ry,ey,eh⟩=>thn (Zcf hn hv d1 c1 pins s1 σ H1 (λy H2=>y=.ref e/\H2=H) I1 ⟨.ref e,e0,rfl,eh⟩) λov s2 hz=>?_) hs;obtain⟨x,H2,I2,rx,ex,eh2⟩:=hz;subst ey ex eh2;obtain rfl:ov=aA e:=rx;obtain⟨⟨oe,vs,t0,g1,g2,g3,g4,g5,g6,g7⟩,_,_⟩:=I2.hok e _ he;have nd:s2.heap.objs.size≠e:=ce (Hz g1);refine DQ.Zm0 I2.kIn g1 g2 g4 g3 hc.sa hc.ov (Zgb hf) hc.hd λh' k1 k2 k3=>⟨σ,_,?_,q s2.heap.objs.size (I2.hok.fresh (ac _)) nd⟩;refine Zd7 I2 (λb=>b=e\/b=s2.heap.objs.size) (λb z=>?_) (λb o z x=>k3 b o (λw=>z (.inl w)) x) (λb z=>?_) (λb z=>?_) λb u z q'=>?_
 .rcases z with z|z
  .exact .inl ⟨_,z▸he⟩
  .exact .inr (.inr (z▸eN (ac _)))
 .rcases z with z|z
  .exact⟨_,z▸k1⟩
  .obtain⟨od,_,_,g,_⟩:=k2;exact⟨od,z▸g⟩
 .rw[Zv (λw=>z (.inr w)),Zv (λw=>z (.inl w))]
 .rcases z with z|z
  .subst z;rw[Zv (bD nd),Zs]at q';cases q';exact ZiN ⟨_,vs,t0,k1,g2,rfl,g4,g5,g6,g7⟩
  .subst z;rw[Zs]at q';cases q';refine⟨_,k2,λg=>?_⟩;rw[Zsg];by_cases c:g=f
   .rw[if_pos c,if_pos c];exact ry
   .rw[if_neg c,if_neg c];trivial
theorem ZeR{g:Str}:∀{fs:List (Str×V)},g∉fs.map (·.1)->fs.lookup g=none
 |[],_=>rfl
 | (a,v)::r,h=>by
  rw[aN,aM,not_or]at h;rw[bG,show(g==a)=false by simpa using h.1]
  exact ZeR h.2
theorem Zm3{i:Nat}(hc:ExF X.K C fI)(hf:cH X.K (.ref C) f=some none)(hn:X.N[0]?=some sn)(hv:Vis X.env.scope sn)(hn2:X.N[i]?=some vn)(hv2:Vis X.env.scope vn)(d1:autoParam ((sn==("__debug__":Str))=false) Qde._auto_1)(c1:autoParam ((sn==("__classdict__":Str))=false) Qde._auto_1)(d2:autoParam ((vn==("__debug__":Str))=false) Qde._auto_1)(c2:autoParam ((vn==("__classdict__":Str))=false) Qde._auto_1)(hs:autoParam (hU (.Name vn p3) (some (.Attribute (.Name sn p1) f p2)) pos.line X.env=pure false) Qrf._auto_1) :
  PS X (.Assign [.Attribute (.Name sn p1) f p2] (.Name vn p3) pos) (λDn σ H=>∃e v dx fs,σ[0]?=some (some (.ref e))/\σ[i]?=some (some v)/\H e=some (.ext (Mkg C e (some dx)))/\H dx=some (.xd fs)/\fs.length<=100/\Dn.nx σ (upd H dx (.xd (ZkY f v fs)))):=by
 intro pins s σ H Dn I hz;obtain⟨e,v,dx,fs,e0,e1,he,hdx,hl,q⟩:=hz;refine gn (thn (Zcf hn2 hv2 d2 c2 pins s σ H (λy H1=>y=v/\H1=H) I ⟨v,e1,rfl,rfl⟩) λu s1 ⟨y,H1,I1,ry,ey,eh⟩=>thn (Zcf hn hv d1 c1 pins s1 σ H1 (λy H2=>y=.ref e/\H2=H) I1 ⟨.ref e,e0,rfl,eh⟩) λov s2 hz=>?_) hs;obtain⟨x,H2,I2,rx,ex,eh2⟩:=hz;subst ey ex eh2;obtain rfl:ov=aA e:=rx;obtain⟨⟨oe,vs,t0,g1,g2,g3,g4,g5,g6,g7⟩,_,_⟩:=I2.hok e _ he;obtain⟨mA,hns,hr⟩:=I2.hok dx _ hdx;obtain⟨od,es,ep,god,_⟩:=id hns;have ne:e≠dx:=λz=>by rw[z,hdx]at he;cases he
 have inst:PySem.W.InstAt s2.heap e oe C (some od):=⟨g1,g2,by unfold PySem.W.notCls;rw[g4],by rw[g3];exact god⟩
 refine DQ.Zm1 (ns:=fs.map (·.1)) I2.kIn inst g3 hns hc.sa hc.ov (Zgb hf) hc.hd (λg hg=>?_) (by rw[aC];lia) λh' k1 k2=>⟨σ,_,?_,q⟩
 .apply iA;intro z
  have:=hr g
  rw[ZeR z]at this;exact hg (Zgy.none_of this)
 .refine Zd7 I2 (λb=>b=dx) (λb z=>.inr (.inl ⟨_,z▸hdx⟩)) (λb o z x=>(k2.2 b z).trans x) (λb z=>?_) (λb z=>Zv z) λb u z q'=>?_
  .obtain⟨o',_,_,g,_⟩:=k1;exact⟨o',z▸g⟩
  .subst z;rw[Zs]at q';cases q';refine⟨_,k1,λg=>?_⟩;rw[Zc4];by_cases c:g=f
   .rw[if_pos c,if_pos c];exact ry
   .rw[if_neg c,if_neg c];exact hr g
noncomputable def N3:List Str:=["self","where","at"]
def spI(C:Addr):Sp:=λvs H Q _=>∃e y n,vs=[.ref e,.str y,.int n]/\H e=some (.ext (Mkg C e none))/\y.length<=1000/\n.natAbs.log2<1000/\
 ∀dx,H dx=none->dx≠e->Q .non (upd (upd (upd H e (.ext (Mkg C e (some dx)))) dx (.xd [(PySem.Str.ofString "where",.str y)])) dx (.xd [(PySem.Str.ofString "where",.str y),(PySem.Str.ofString "at",.int n)]))
def ZuL(C:Addr)(a b:Str):TS:=ZrA (Zn5 (λσ H Q=>∃e,σ[0]?=some (some (.ref e))/\H e=some (.ext (Mkg C e none))/\tF4 a b 1 2 σ H λx H1=>∃y,[V.ref e,x]=[V.ref e,y]/\H1=H/\Q .non H))
 (ZrA (λDn σ H=>∃e v,σ[0]?=some (some (.ref e))/\σ[1]?=some (some v)/\H e=some (.ext (Mkg C e none))/\∀dx,H dx=none->dx≠e->Dn.nx σ (upd (upd H e (.ext (Mkg C e (some dx)))) dx (.xd [(PySem.Str.ofString "where",v)]))) (λDn σ H=>∃e v dx fs,σ[0]?=some (some (.ref e))/\σ[2]?=some (some v)/\H e=some (.ext (Mkg C e (some dx)))/\H dx=some (.xd fs)/\fs.length<=100/\Dn.nx σ (upd H dx (.xd (ZkY (PySem.Str.ofString "at") v fs)))))
section
variable {K:Fg}
theorem Zm4{n:Int}(h:n.natAbs.log2<1000):(aB (toString n)).length<=10000:=by
 rw[PySem.ofString_length];exact aQ (int_text_length_le (by decide) h) (by decide)
theorem Zm5{st:Stmt}(F:Fun K x qual st f fd)(S:FnScope N3 N3 (Zx st))(la:a.length<=1000)(lb:b.length<=1000)(hb:∀(cdv:aa)(A:cb)(outer:List Env)(s:az)(H:Hp)(E:XK),PSs (Zg3 (CXE P w) P w K mg base N3 qual (Zx st) f cdv A outer s H E) (ZaD st) (ZuL C a b)):FnOk P w K mg base (CXE P w) (k+1) f fd N3 (spI C):=by
 obtain⟨oc,od,kV,doc,pm,an,cdv,ct,osl,rfl,lk,hcd⟩:=F.ex;refine ZlZ lk hcd S (λvs H Q E h=>?_) (λA outer s H vs Q E hr h=>?_)
 .obtain⟨e,y,n,rfl,_⟩:=h;rfl
 .obtain⟨e,y,n,rfl,he,hy,hn,q⟩:=h;refine⟨_,hb cdv A outer s H E,?_⟩;refine⟨e,rfl,he,y,n,rfl,rfl,la,lb,hy,⋯,Zm4 hn,λx=>⟨_,rfl,rfl,?_⟩⟩
  refine⟨e,.str y,rfl,rfl,he,λdx h1 h2=>?_⟩;refine⟨e,.int n,dx,[(PySem.Str.ofString "where",.str y)],rfl,rfl,by rw[Zv (bD h2),Zs],Zs,by simp,?_⟩
  have:=q dx h1 h2
  rw[show ZkY (PySem.Str.ofString "at") (V.int n) [(PySem.Str.ofString "where",V.str y)]=[(PySem.Str.ofString "where",V.str y),(PySem.Str.ofString "at",V.int n)]by
   unfold ZkY;rw[if_neg (by decide +kernel)]
   rfl]
  exact this
end
def Zbs(c:Str)(fs:Av):Sv:=λρ M=>Zbh (fs ρ M) λds M1=>match ds with
 |[.str y,.int n]=>if y.length<=1000/\n.natAbs.log2<1000 then .exc c (M1++[.lst [.str y,.int n]])else .bad
 |_=>.bad
theorem ZiO(T:Thr X ξ)(hx:ZiM X.K x f=true)(hf:ZhL x=true)(gl:∀c v,nsIn X.K aG c=some (some v)->X.mg c=some v)(hh:X.A.handled=none)(G:∀C,ExF X.K C f->FnOk X.prog X.w X.K X.mg X.base (CXE X.prog X.w) k f fd N3 (spI C))(hr:Room (k+1) X.A)(hb:ZdS X.K fd N3 [])(lk:X.K.lookup f=some oI)(lc:oI.cls=.type "function")(ha:DA X ξ [a,b] fs)(hg:autoParam (Gl X x) Qrf._auto_1)(hdb:autoParam ((x==("__debug__":Str))=false) Qde._auto_1)(he:autoParam (af [a,b] X.env=(false,eval a X.env)::af [b] X.env) Qrf._auto_1)(hpl:autoParam ((b8 cpos (af [b] X.env)).any (·.1)=false) Qrf._auto_1):DS X ξ (.Raise (some (.Call (.Name x np) [a,b] [] cpos)) none pos) (Zbs x fs):=by
 obtain⟨ta,pa,qa⟩:=ha;obtain⟨C,hC,hE⟩:=Zga hx;refine⟨λDn σ H=>ta σ H λvs H1=>∃y n,vs=[.str y,.int n]/\y.length<=1000/\n.natAbs.log2<1000/\∀dx,H1 dx=none->ξ (.ref C) (some dx) (upd H1 dx (.xd [(PySem.Str.ofString "where",.str y),(PySem.Str.ofString "at",.int n)])),λpins s σ H Dn I h=>?_,λσ ρ H α M Dn s h q=>?_⟩
 .obtain⟨tl,N,nm,q,bs,hdct,sn,sub,ab,col,dd,k0,k1,k2,k3,k5,mN,gC,hN,hni,TL⟩:=Zf9 I.ok.mod.kin hE.inn;refine DQ.ZgR (C:=C) (nm:=nm) (q:=q) (N:=N) (bs:=bs) (bm:=tl) (hdct:=hdct) (sn:=sn) (sub:=sub) (ab:=ab) (col:=col) (dd:=dd) (k0:=k0) (k1:=k1) (k2:=k2) (k3:=k3) (k5:=k5) (mN:=mN) (oI:=oI) F.excBase_ValueError
   (TL.hasType F.excBase_ValueError.hasBase) hh (by rw[he];show(false||(b8 cpos (af [b] X.env)).any (·.1))=false;rw[hpl];rfl) hni lc (ZdQ I hg (gl x _ hC) ⟨rfl,?_⟩ hdb)
  have hs:=pa cpos pins s σ H _ I h;rw[he]at hs ⊢;refine Calls.evalArgs_plain (wpAny_mono hs (λus s2 ⟨vs,H1,I1,r1,y,n,ev,hy,hn,q⟩=>⟨rfl,?_,I1.bk _ _ gC,hN.keeps I1.bk,TL.keeps I1.bk,I1.kIn _ _ lk,λh' e m=>?_⟩) λ_ _ y=>y)
  .rw[<-r1.length,ev];exact aQ (show 2<=1000 by decide) (by rw[c9];decide)
  .subst ev;obtain⟨t0,g1,g2,g3⟩:=m.there;have ne:∀b o,s2.heap.get? b=some o->b≠e:=λb o x z=>by rw[z,m.new]at x;cases x
   have h1e:H1 e=none:=Zld I1.hok m.new;have I2:Inv X pins σ (upd H1 e (.ext (Mkg C e none))) {s2 with heap:=h'}:=by
    refine Zd7 (t:=s2.toks) I1 (λb=>b=e) (λb z=>.inr (.inr (z▸m.new))) (λb o z x=>m.keeps b o x) (λb z=>⟨_,z▸g1⟩) (λb z=>Zv z) λb u z q'=>?_;subst z;rw[Zs]at q';cases q';exact ZiN ⟨_,_,t0,g1,rfl,rfl,rfl,rfl,rfl,rfl⟩
   have r2:Zaj (V.ref e::[.str y,.int n]) (aA e::us):=.cons rfl r1;have hl:(aA e::us++[]).length=N3.length:=by rw[bR,<-r2.length];rfl
   have hsp:spI C [V.ref e,.str y,.int n] (upd H1 e (.ext (Mkg C e none))) (λv H'=>v=.non/\∃dx,H1 dx=none/\dx≠e/\H'=upd (upd (upd (upd H1 e (.ext (Mkg C e none))) e (.ext (Mkg C e (some dx)))) dx (.xd [(PySem.Str.ofString "where",.str y)])) dx (.xd [(PySem.Str.ofString "where",.str y),(PySem.Str.ofString "at",.int n)])) ξ:=
    ⟨e,y,n,rfl,Zs,hy,hn,λdx h1 h2=>⟨rfl,dx,by rw[Zv h2]at h1;exact h1,h2,rfl⟩⟩
   have bd:=hb {s2 with heap:=h'} (aA e::us) I2.kIn hl;rw[bR]at bd;refine kC (iX ((G C hE).run _ X.stack {s2 with heap:=h'} _ ⟨aA e::us,[]⟩ (aA e::us) _ _ ξ (hr.make C us []) (I2.env0.make C us []) bd r2 hsp) λr s' hq=>?_);cases r with
   |error e'=>exact T.ps pins σ _ _ e' s' I2 hq
   |ok fl=>
    cases fl with
    |next=>exact cF hq
    |brk=>exact cF hq
    |cont=>exact cF hq
    |ret u=>
     obtain⟨v,H',I3,rv,ev,_⟩:=I2.after hq;obtain⟨v',H',os,bare,un,hok,rv',ev',dx,hdx,dne,eH⟩:=hq;subst ev';refine⟨rv',?_⟩;have hHe:H' e=some (.ext (Mkg C e (some dx))):=by rw[eH,Zv (bD dne),Zv (bD dne),Zs]
     have hHd:H' dx=some (.xd [(PySem.Str.ofString "where",.str y),(PySem.Str.ofString "at",.int n)]):=by rw[eH,Zs]
     have hHo:∀b,b≠e->b≠dx->H' b=H1 b:=λb z1 z2=>by rw[eH,Zv z2,Zv z2,Zv z1,Zv z1]
     have dxn:s2.heap.get? dx=none:=by
      cases z:s2.heap.get? dx with
      |none=>rfl
      |some o=>
       have:=un.free dx o (m.keeps _ _ z) (by rw[Zv dne];exact hdx) (by simp)
       rw[hHd]at this;cases this
     have h2n:∀b o,s2.heap.get? b=some o->H1 b=none->upd H1 e (.ext (Mkg C e none)) b=none:=λb o x z=>by rw[Zv (ne b o x)];exact z
     have nd:∀b o,s2.heap.get? b=some o->b≠dx:=λb o x z=>by rw[z,dxn]at x;cases x
     obtain⟨⟨oe,vs,t1,j1,j2,j3,j4,j5,j6,j7⟩,_,_⟩:=hok e _ hHe;refine⟨oe,vs,I3.bk _ _ gC,j1,j2,j4,j6,?_⟩;refine T.mak pins σ H1 (upd H1 dx (.xd [(PySem.Str.ofString "where",.str y),(PySem.Str.ofString "at",.int n)])) s2 s' e oe vs C I1 os bare ⟨λb o x z hb _=>un.keep b o (m.keeps b o x) (h2n b o x z) hb (by simp),λb o x z hb _=>un.slot b o (m.keeps b o x) (h2n b o x z) hb (by simp),λb o x z _=>by rw[Zv (nd b o x)];exact z,λb o x _=>un.there b o (m.keeps b o x) (by simp),λb xs z=>?_,λb o u z=>?_,λb ps z=>⟨#[],?_⟩⟩ (λb u z=>?_) m.new j1 j2 j4 j6 j7 (by rw[Zv (bD dne)];exact h1e) (by rw[j3];exact q dx hdx)
     .rw[Zv (ZX z hdx)];exact z
     .rw[Zv (ZX z hdx)];exact z
     .rw[Zv (ZX z hdx),fP];exact z
     .by_cases c:b=dx
      .subst c;rw[Zs]at z;cases z
       have:=hok b _ hHd
       exact this
      .rw[Zv c]at z;have be:b≠e:=λw=>by rw[w,h1e]at z;cases z
       have zb:H' b=some u:=by rw[hHo b be c];exact z
       have tr:∀a v,H' a=some v->(∀φ,v≠ .ext φ)->(∀fs,v≠ .xd fs)->upd H1 dx (.xd [(PySem.Str.ofString "where",.str y),(PySem.Str.ofString "at",.int n)]) a=some v:=λa v r n1 n2=>by
        have a1:a≠e:=λw=>by rw[w,hHe]at r;cases r;exact n1 _ rfl
        have a2:a≠dx:=λw=>by rw[w,hHd]at r;cases r;exact n2 _ rfl
        rw[Zv a2,<-hHo a a1 a2];exact r
       exact(hok b u zb).stay (λ_ _ _ r=>r) (λa r=>tr a _ r (by simp) (by simp)) λa xs r=>tr a _ r (by simp) (by simp)
 .refine qa σ ρ H α M _ s h (FP.seq q λds M1 vs H1 α1 e1 h1 r1 w1=>?_)
  split at w1
  .rename_i y n;cases r1 with
   |cons ra rt=>
    cases rt with
    |cons rb rc=>
     cases rc;cases ra;cases rb;by_cases hl:y.length<=1000/\n.natAbs.log2<1000
     .rw[if_pos hl]at w1;exact⟨y,n,rfl,hl.1,hl.2,λdx hdx=>w1 C _ α1 hC (Ext.new0 hdx) (some dx) (.inr ⟨hf,M1,_,dx,_,rfl,h1.tup hdx,rfl,Zs,rfl,.cons (.str y) (.cons (.int n) .nil)⟩)⟩
     .rw[if_neg hl]at w1;exact w1.elim
  .exact w1.elim
structure IniOk(K:Fg) (x qual:Str) (st:Stmt) (f:Addr) (fd:f8):Prop where
 ex:ZiM K x f=true
 fn:Fun K "__init__" qual st f fd
 bs:Zgc K "RayError"=true
 bi:ZdS K fd N3 []
theorem Zco{st:Stmt}(J:∃f fd,IniOk X.K x qual st f fd)(G:∀f fd C,IniOk X.K x qual st f fd->ExF X.K C f->FnOk X.prog X.w X.K X.mg X.base (CXE X.prog X.w) k f fd N3 (spI C))(T:Thr X ξ)(hf:ZhL x=true)(gl:∀c v,nsIn X.K aG c=some (some v)->X.mg c=some v)(hh:X.A.handled=none)(hr:Room (k+1) X.A)(ha:DA X ξ [a,b] fs)(hg:autoParam (Gl X x) Qrf._auto_1)(hdb:autoParam ((x==("__debug__":Str))=false) Qde._auto_1)(he:autoParam (af [a,b] X.env=(false,eval a X.env)::af [b] X.env) Qrf._auto_1)(hpl:autoParam ((b8 cpos (af [b] X.env)).any (·.1)=false) Qrf._auto_1):DS X ξ (.Raise (some (.Call (.Name x np) [a,b] [] cpos)) none pos) (Zbs x fs):=by
 obtain⟨f,fd,J⟩:=J;obtain⟨oc,od,kV,doc,pm,an,cdv,ct,osl,_,lk,hcd⟩:=J.fn.ex;obtain⟨C,hC,hE⟩:=Zga J.ex;have ty:=hE.ty;have lc:oc=.type "function":=by
  have:(X.K.lookup f).map (·.cls)=some (.type "function"):=ty
  rw[lk]at this;exact a9 this
 exact ZiO T J.ex hf gl hh (λC hE=>G f fd C J hE) hr J.bi lk lc ha hg hdb he hpl
end DL
namespace DL
open PyProof.Rows L2
open PySem.W (nsIn excIn tailIn nsOkIn mroIn clsIn typeIn findIn specialIn takesIn kitOne Looks looks_mroIn looks_typeIn exmAny exm_tup2)
theorem ZiP(f:DQ.Fly B l e cls dct fl h)(k:∀b o,h.get? b=some o->h'.get? b=some o):DQ.Fly B l e cls dct fl h':=by
 obtain⟨st,nw,fr,oe,vs,T,oT,ts,g1,g2,g3,g4,g5,g6,g7,g8,g9,g10,g11⟩:=f;exact⟨λb o q=>k b o (st b o q),nw,fr.of_keeps λb o q _=>⟨o,k b o q,rfl⟩,oe,vs,T,oT,ts,k _ _ g1,g2,g3,g4,g5,g6,g7,g8,k _ _ g9,g10,g11⟩
def Zgd(X:Cx)(t:Expr)(cs:List Str):Prop:=∀c∈cs,∀C,nsIn X.K aG c=some (some (.ref C))->∀(A':cb)(E:Vp)(Q:Bool->az->Prop)(s:az)(pins:Pn)(σ:L2.St)(H:Hp)(e:Addr)(oe:Obj)(od:Option Obj),
 Inv X pins σ H s->PySem.W.InstAt s.heap e oe C od->(∀h',(∀q o,s.heap.get? q=some o->h'.get? q=some o)->Q true {s with heap:=h'})->wpAny (ae X.prog X.w) A' (eval t X.env) (λv s1=>wpAny (ae X.prog X.w) A' (excMatches (.ref e) v) Q E s1) E s
theorem Zkx(hcat:Zh5 X.K d cs=true)(gl:∀c v,nsIn X.K aG c=some (some v)->X.mg c=some v)(hg:autoParam (Gl X d) Qrf._auto_1)(hdb:autoParam ((d==("__debug__":Str))=false) Qde._auto_1):Zgd X (.Name d np) cs:=by
 unfold Zh5 at hcat
 split at hcat
 case h_2=>cases hcat
 rename_i D hD;simp only[aV,beq_iff_eq,bh]at hcat;obtain⟨⟨⟨hD3,hD1⟩,hD2⟩,hall⟩:=hcat;intro c hc C hC A' E Q s pins σ H e oe od J I q;have hm:=hall c hc;rw[ZfZ hC]at hm;refine Calls.Name_function_global J.ok.kind hg (Calls.loadGlobal_global (by rw[J.ok.glob];exact J.mod.glob.keeps J.bk) (gl d _ (Zbq hD)) ?_) hdb
 exact Zh6 (od:=od) J.kIn I hD1 hD2 hD3 (by simpa using hm.2) (q s.heap λ_ _ z=>z)
def Zfq(K:Fg)(d d':Str)(cs:List Str):Bool:=match Zcz K d,Zcz K d' with
 |some D,some D'=>cs.all λc=>Zj6 K c&&(match Zcz K c with|some C=>exmAny K (.ref C) [.ref D,.ref D']==some true|none=>false)
 |_,_=>false
theorem Zky(hcat:Zfq X.K d d' cs=true)(gl:∀c v,nsIn X.K aG c=some (some v)->X.mg c=some v)(hg:autoParam (Gl X d) Qrf._auto_1)(hdb:autoParam ((d==("__debug__":Str))=false) Qde._auto_1)(hg':autoParam (Gl X d') Qrf._auto_1)(hdb':autoParam ((d'==("__debug__":Str))=false) Qde._auto_1):Zgd X (.Tuple [.Name d np,.Name d' np'] kk tp) cs:=by
 unfold Zfq at hcat
 split at hcat
 case h_2=>cases hcat
 rename_i D D' hD hD';simp only[aV,bh]at hcat;intro c hc C hC A' E Q s pins σ H e oe od J I q;have hm:=hcat c hc;rw[ZfZ hC]at hm;refine wpAny_Tuple ?_;refine wpAny_items_cons (Calls.Name_function_global J.ok.kind hg (Calls.loadGlobal_global (by rw[J.ok.glob];exact J.mod.glob.keeps J.bk) (gl d _ (Zbq hD)) ?_) hdb)
 refine wpAny_items_cons (Calls.Name_function_global J.ok.kind hg' (Calls.loadGlobal_global (by rw[J.ok.glob];exact J.mod.glob.keeps J.bk) (gl d' _ (Zbq hD')) ?_) hdb')
 refine wpAny_items_nil ⟨by size_fits,?_⟩
 have kp:∀q o,s.heap.get? q=some o->(s.heap.push {cls:=.type "tuple",data:=.seq [aA D,aA D'].toArray}).get? q=some o:=λ_ _ z=>Hq _ z;exact(exm_tup2 (J.kIn.keeps kp) ((I.type (M:=ae X.prog X.w)).keeps kp) (aS s.heap rfl) (beq_iff_eq.mp hm.2)).here (q _ kp)
def ZeS(gb:Sv)(cs:List Str)(W:List Bool)(gh:Sv):Sv:=λρ M=>match gb ρ M with
 |.exc c M1=>if cs.contains c=true then(match gh (kpR W ρ) (stE c M1)with
  |.ret d M2=>.ret d M2
  |.nx ρ2 M2=>.nx ρ2 M2
  |_=>.bad)else .bad
 |o=>o
theorem Zkz{s2:az}{M1:Sto}(ht:Zgd X t cs)(hc:c∈cs)(srk:SR X.K H2 α1 σ1 ρk)(hx:X.ex=[])(hh:X.A.handled=none)(hC2:nsIn X.K aG c=some (some (.ref C)))(hs:∀ea,DSs (Cx.han X ea) E0 (b0::suite) gh)(I1:Inv X pins σ1 H1 s1)(os:s2.os=s1.os)(bare:fG s2.gens)(un:Un (frs X.stack) [] H1 H2 s1.heap s2.heap)(hok:HOk X.prog X.w H2 s2.heap)(t1:∀b u,H2 b=some u->∃o,B.get? b=some o)(t2:∀b o,s1.heap.get? b=some o->b∉frs X.stack->∃o',B.get? b=some o')(st2:B.StaysIn s2.heap)(fly:DQ.Fly B X.stack ea (.ref C) dct fl h3)(up3:s2.heap.UpToSlots h3)(xo:XO X.K H2 α1 c M1 dct)(fp:∀H3,Ext X.K H2 H3 α1 α1->FP X.K H3 α1 E0 {nx:=Dn.nx,rt:=Dn.rt} (gh ρk (stE c M1))):wpAny (ae X.prog X.w) X.A (jU (.ref ea) none) (λ_ s₃=>wpAny (ae X.prog X.w) X.A (handleBy (.ref ea) X.env [.ExceptHandler (some t) none (b0::suite) hpos]) (SP X pins Dn) X.xe s₃) X.xe {s2 with heap:=h3}:=by
 refine DQ.ZcX (s:={s2 with heap:=h3}) fly λh4 f4 up4=>?_;have inv:∀h,B.StaysIn h->s2.heap.UpToSlots h->Inv X pins σ1 H2 {s2 with heap:=h}:=λh st up=>by
  obtain⟨a1,a2⟩:=Zmz I1 un hok t1 t2 st2 st up;exact I1.call' (s':={s2 with heap:=h}) (ch:=[]) os a1 a2 bare λb z=>absurd z (by simp)
 have J4:=inv h4 f4.stay (up3.trans up4);obtain⟨oe4,vs4,T4,oT4,ts4,g1,g2,g3,g4,g5,g6⟩:=id f4.obj;refine wpAny_handleBy_cons (codeAny_handlers_test ?_) (by intro q;cases q)
 obtain⟨od4,in4⟩:=XO.inst (g3▸xo) J4.hok g1 g2 g4;refine ht c hc C hC2 _ _ _ _ _ _ _ ea oe4 od4 J4 in4 λh4' kp=>?_;have f4':DQ.Fly B X.stack ea (.ref C) dct .none h4':=ZiP f4 kp;have up4':s2.heap.UpToSlots h4':=(up3.trans up4).trans (lH.UpToSlots.of_keeps kp);refine codeAny_handlers_suite ?_;refine DQ.ZcX (s:={s2 with heap:=h4'}) f4' λh5 f5 up5=>?_;have J5:=inv h5 f5.stay (up4'.trans up5);obtain⟨oe,vs,T5,oT5,ts5,k1,k2,k3,k4,k5,k6⟩:=id f5.obj;have nB:B.get? ea=none:=f5.new;have hn:H2 ea=none:=by
  cases z:H2 ea with
  |none=>rfl
  |some u=>obtain⟨o,q⟩:=t1 ea u z;rw[nB]at q;cases q
 have nf:ea∉frs X.stack:=DQ.apart f5.frames k1 k4;have h0:X.s₀.heap.get? ea=none:=by
  cases z:X.s₀.heap.get? ea with
  |none=>rfl
  |some o=>
   have nx:ea∉X.ex:=by rw[hx];simp
   obtain⟨o',q⟩:=I1.base.there ea o z nx;obtain⟨o2,q2⟩:=t2 ea o' q nf;rw[nB]at q2;cases q2
 have hp:∀p∈X.pn++pins,p.1≠ea:=λp hp z=>by
  obtain⟨q1,_,q3,q4,_⟩:=I1.pin p hp;obtain⟨o2,q2⟩:=t2 p.1 p.2 q1 (by rw[z];exact nf)
  rw[z,nB]at q2;cases q2
 have J6:=Zh7 J5 hn k1 k4 h0 hp;have J7:=Zmx (e:=ea) J6 (.inr ⟨ea,oe,.own 0,vs,rfl,Zs,k4,k5⟩);have ex:Ext X.K H2 (upd H2 ea (.frz oe (.own 0))) α1 α1:=Ext.new0 hn;obtain⟨ts,ps,qs⟩:=hs ea;have run:=ps pins _ _ _ {nx:=Dn.nx,rt:=Dn.rt} J7 (qs _ _ _ α1 (stE c M1) _ (srk.mono ex) (xo.hr.tup hn) (fp _ ex));refine wpAny_mono run (λf s9 h9=>?_) (λ_ _ z=>z.elim);cases f with
 |next=>
  obtain⟨σ',H',J9,q⟩:=h9;exact⟨_,H',ZeE J9 hh,q⟩
 |ret u=>
  obtain⟨v,σ',H',J9,r,q⟩:=h9;exact⟨v,_,H',ZeE J9 hh,r,q⟩
 |brk=>obtain⟨_,_,_,q⟩:=h9;exact cF q
 |cont=>obtain⟨_,_,_,q⟩:=h9;exact cF q
theorem ZiQ(ht:Zgd X t cs)(hh:X.A.handled=none)(hx:X.ex=[])(hst:X.stack=X.env::X.outer)(hf:X.env.frame=some X.env.locals)(W:List Bool)(hb:∀pn xe σ ξ',Thr (Cx.tri X pn xe W σ) ξ'->DSs (Cx.tri X pn xe W σ) ξ' body gb)(hs:∀ea,DSs (Cx.han X ea) E0 (b0::suite) gh)(fxn:autoParam (X.fxs=none) Qrf._auto_1)
  :
  DS X ξ (.Try body [.ExceptHandler (some t) none (b0::suite) hpos] [] [] pos) (ZeS gb cs W gh):=by
 refine⟨λDn σ H=>∃ρ α M,SR X.K H α σ ρ/\HR X.K H α M/\FP X.K H α ξ Dn (ZeS gb cs W gh ρ M),?_,λσ ρ H α M Dn s h q=>⟨ρ,α,M,s,h,q⟩⟩;rintro pins s σ H Dn I ⟨ρ,α,M,sr,hr,fp⟩;refine wpAny_Try_except ?_;have lenρ:ρ.length=X.N.length:=by rw[<-sr.1];exact I.len
 generalize hxe:(λ(e:aa) (s₁:az)=>wpAny (ae X.prog X.w) X.A (hW e X.env) (λ_ s₂=>wpAny (ae X.prog X.w) X.A (jU e none) (λ_ s₃=>wpAny (ae X.prog X.w) X.A (handleBy e X.env [.ExceptHandler (some t) none (b0::suite) hpos]) (SP X pins Dn) X.xe s₃) X.xe s₂) X.xe s₁)=xe';have own:eB (ae X.prog X.w) X.A X.env xe':=by
  rw[<-hxe];exact eB.looking
 have land:∀{pins':Pn}{σ1:L2.St}{H1 H2:Hp}{s1 s2:az}{h3 B:Heap}{ea C:Addr}{fl:aa}{dct:Option Addr},Inv (Cx.tri X (X.pn++pins) xe' W σ) pins' σ1 H1 s1->s2.os=s1.os->fG s2.gens->Un (frs X.stack) [] H1 H2 s1.heap s2.heap->HOk X.prog X.w H2 s2.heap->
   (∀b u,H2 b=some u->∃o,B.get? b=some o)->(∀b o,s1.heap.get? b=some o->b∉frs X.stack->∃o',B.get? b=some o')->B.StaysIn s2.heap->DQ.Fly B X.stack ea (.ref C) dct fl h3->s2.heap.UpToSlots h3->
   (∃c M1 α',gb ρ M=.exc c M1/\nsIn X.K aG c=some (some (.ref C))/\Ext X.K H H2 α α'/\XO X.K H2 α' c M1 dct)->
   wpAny (ae X.prog X.w) X.A (jU (.ref ea) none) (λ_ s₃=>wpAny (ae X.prog X.w) X.A (handleBy (.ref ea) X.env [.ExceptHandler (some t) none (b0::suite) hpos]) (SP X pins Dn) X.xe s₃) X.xe {s2 with heap:=h3}:=by
  intro pins' σ1 H1 H2 s1 s2 h3 B ea C fl dct I1 os bare un hok t1 t2 st2 fly up3 hz;obtain⟨c,M1,α',eg,hC2,ex,hr1⟩:=hz;unfold ZeS at fp;simp only[eg]at fp;by_cases hc:cs.contains c=true
  .rw[if_pos hc]at fp;refine Zkz (ρk:=kpR W ρ) ht (List.contains_iff_mem.mp hc) ?_ hx hh hC2 hs (Zbi fxn I1) os bare un hok t1 t2 st2 fly up3 hr1 λH3 ex3=>?_
   .refine⟨by rw[Zfi,lenρ];exact I1.len,λj dd e=>?_⟩
    obtain⟨w1,w2⟩:=Zh8 W ρ j dd e;obtain⟨v,v1,v2⟩:=sr.2 j dd w2;exact⟨v,(I1.fx W σ rfl j w1).trans v1,Rep.mono ex v2⟩
   cases er:gh (kpR W ρ) (stE c M1)with
   |ret dd M2=>rw[er]at fp;exact FP.ext (o:=.ret dd M2) fp (ex.trans ex3)
   |nx ρ2 M2=>rw[er]at fp;exact FP.ext (o:=.nx ρ2 M2) fp (ex.trans ex3)
   |brk ρ2 M2=>rw[er]at fp;exact fp.elim
   |cnt ρ2 M2=>rw[er]at fp;exact fp.elim
   |exc x M2=>rw[er]at fp;exact fp.elim
   |bad=>rw[er]at fp;exact fp.elim
  .rw[if_neg hc]at fp;exact fp.elim
 have T:Thr (Cx.tri X (X.pn++pins) xe' W σ) (λcls dct H'=>∃C c M1 α',cls=.ref C/\gb ρ M=.exc c M1/\nsIn X.K aG c=some (some (.ref C))/\Ext X.K H H' α α'/\XO X.K H' α' c M1 dct):=by
  refine⟨own,λpins' σ1 H1 s1 e s2 I1 h=>?_,λpins' σ1 H1 H' s1 s' e oe vs C I1 os bare un hok hn he hc hd v1 v2 hne q=>?_⟩
  .obtain⟨ea,C,dct,B,H2,rfl,os,bare,un,hok,fl,t1,t2,C',c,M1,α',q1,q3,q4,q5,q6⟩:=h;cases q1;show xe' (.ref ea) s2;rw[<-hxe];have fl':DQ.Fly B (X.env::X.outer) ea (.ref C) dct .none s2.heap:=hst▸fl;refine DQ.ZfN (by rw[<-hst];exact I1.ok.frames) hf fl' λh3 f3 up=>?_
   exact land I1 os bare un hok t1 t2 fl.stay (hst▸f3) up ⟨c,M1,α',q3,q4,q5,q6⟩
  .obtain⟨C',c,M1,α',q1,q3,q4,q5,q6⟩:=q;cases q1;show xe' (.ref e) s';rw[<-hxe];have I2:=Zbi fxn I1;obtain⟨t1,t2,hs',hl',hb'⟩:=Zey I2 un hok hn he hne;generalize Zjt s'.heap (e::frs X.stack)=B at t2 hs' hl' hb' t1;refine ZgO (s:=s') (by rw[<-hst];exact I2.ok.frames) hf (hst▸hl') he hs' hb' hd v1 v2 λh3 f3 up=>?_
   rw[hc]at f3;exact land (s2:=s') I1 os bare un hok t1 t2 hs' (hst▸f3) up ⟨c,M1,α',q3,q4,q5,q6⟩
 obtain⟨tb,pb,qb⟩:=hb _ _ _ _ T;have fpb:FP X.K H α (λcls dct H'=>∃C c M1 α',cls=.ref C/\gb ρ M=.exc c M1/\nsIn X.K aG c=some (some (.ref C))/\Ext X.K H H' α α'/\XO X.K H' α' c M1 dct) Dn (gb ρ M):=by
  unfold ZeS at fp;cases eg:gb ρ M with
  |exc c M1=>exact λC H' α' n1 e1 dct h1=>⟨C,c,M1,α',rfl,rfl,n1,e1,h1⟩
  |nx ρ2 M2=>rw[eg]at fp;exact fp
  |ret d2 M2=>rw[eg]at fp;exact fp
  |brk ρ2 M2=>rw[eg]at fp;exact fp
  |cnt ρ2 M2=>rw[eg]at fp;exact fp
  |bad=>rw[eg]at fp;exact fp
 have run:=pb [] s σ H Dn (Zmy I) (qb σ ρ H α M Dn sr hr fpb);refine wpAny_mono run (λf s1 h1=>?_) (λe s1 h1=>?_)
 .cases f with
  |next=>
   obtain⟨σ',H',J,q⟩:=h1;exact fH ⟨σ',H',Zbi fxn J,q⟩
  |brk=>obtain⟨σ',H',J,q⟩:=h1;exact⟨σ',H',Zbi fxn J,q⟩
  |cont=>obtain⟨σ',H',J,q⟩:=h1;exact⟨σ',H',Zbi fxn J,q⟩
  |ret u=>obtain⟨v,σ',H',J,r,q⟩:=h1;exact⟨v,σ',H',Zbi fxn J,r,q⟩
 .exact h1
end DL
namespace DL
open PyProof.Rows L2
theorem Zm6(hl:ds.length=n)(h:g (ds.map some++aZ k none) M=.ret d M'):fnF g n k ds M=.ok d M':=by
 unfold fnF;rw[if_pos hl,h]
theorem ZiR{M1:Sto}(e:g ρ M=.nx ρ1 M1):ZC g h ρ M=h ρ1 M1:=by
 unfold ZC;rw[e]
theorem ZiS(h1: -(2^64)<j)(h2:j<2^64):ZN i j:=.inr (.inl (iK h1 h2))
theorem ZiT(h1: -(2^64)<i)(h2:i<2^64):ZN i j:=.inl (iK h1 h2)
theorem at0{x:D}:atI (x::r) 0=some x:=by
 show(ixN (r.length+1) 0).bind _=_;unfold ixN;rw[if_pos (by decide),if_pos ⋯]
 rfl
theorem at1{x:D}:atI (x::y::r) 1=some y:=by
 show(ixN (r.length+2) 1).bind _=_;unfold ixN;rw[if_pos (by decide),if_pos ⋯]
 rfl
theorem ix0:ixN (n+1) 0=some 0:=by
 unfold ixN;rw[if_pos (by decide),if_pos ⋯]
 rfl
theorem ix1:ixN (n+2) 1=some 1:=by
 unfold ixN;rw[if_pos (by decide),if_pos ⋯]
 rfl
theorem ZkA{ns:List Int}(h:k<ns.length):atI (ns.map D.int) (k:Int)=some (.int ns[k]):=Zl7 (by rw[bH,aq h];rfl)
theorem Zge{ρ:Ro}(h:ρ[i]?=some x):ρ.set i x=ρ:=by
 apply eG;intro k;by_cases hk:k=i
 .subst hk;rw[aY (au.mp h).1,h]
 .rw[aU (bD hk)]
def cEu(i j:Nat):Sv:=ZgJ i j (Zd (Zi j) (Zd (e2 dMod (Zi i) (Zi j)) aNil))
theorem Zlo{c:Tv}{i j:Nat}{M:Sto}(hij:i≠j)(hc:∀(ρ:Ro)(b:Nat),ρ[j]?=some (some (.int b))->c ρ M=.ok (decide (b≠0)) M):∀(b a:Nat)(ρ:Ro),ρ[i]?=some (some (.int a))->ρ[j]?=some (some (.int b))->sWh c (cEu i j) ρ M=.nx ((ρ.set i (some (.int (Nat.gcd a b:Nat)))).set j (some (.int 0))) M:=by
 intro b
 induction b using Nat.strongRecOn with
 |ind b ih=>
  intro a ρ hi hj;by_cases h0:b=0
  .subst h0;rw[ZhW (M1:=M) (by rw[hc ρ 0 hj];rfl),Nat.gcd_zero_right,Zge hi,Zge (x:=some (.int 0)) hj]
  .have hl:i<ρ.length:=(au.mp hi).1;have hl2:j<ρ.length:=(au.mp hj).1;have ht:c ρ M=.ok true M:=by rw[hc ρ b hj,decide_eq_true h0]
   have hb:cEu i j ρ M=.nx ((ρ.set i (some (.int b))).set j (some (.int (a%b:Nat)))) M:=by
    have hb0:¬(b:Int)=0:=⋯
    have hm:(a:Int).fmod (b:Int)=((a%b:Nat):Int):=by rw[ix _ ⋯];rfl
    simp[cEu,ZgJ,Zd,aNil,Zi,e2,dMod,Out.bind,Zbh,hi,hj,hb0,hm,h0]
   have g1:((ρ.set i (some (.int b))).set j (some (.int (a%b:Nat))))[i]?=some (some (.int b)):=by
    rw[aU (bD hij),aY hl]
   have g2:((ρ.set i (some (.int b))).set j (some (.int (a%b:Nat))))[j]?=some (some (.int (a%b:Nat))):=by
    rw[aY (by simpa using hl2)]
   have q:=ih (a%b) (Nat.mod_lt _ ⋯) b _ g1 g2
   rw[Zj0 ht hb (by rw[q];intro z;cases z),q]
   have eg:Nat.gcd b (a%b)=Nat.gcd a b:=by rw[Nat.gcd_comm b,<-Nat.gcd_rec,Nat.gcd_comm]
   rw[eg,List.set_comm _ _ (bD hij),List.set_set,List.set_set]
theorem ZpE:eqF 12 M (.int a) (.int b)=some (a==b):=rfl
theorem ne0(ρ:Ro)(b:Nat)(h:ρ[j]?=some (some (.int b))):tv (e2 dNe (Zi j) (eC (.int 0))) ρ M=.ok (decide (b≠0)) M:=by
 simp[tv,e2,Zi,eC,h,Out.bind,dNe,ZpE];by_cases c:b=0
 .subst c;rfl
 .have:¬(b:Int)=0:=⋯
  simp[c,this]
theorem gt0(ρ:Ro)(b:Nat)(h:ρ[j]?=some (some (.int b))):tv (e2 dGt (Zi j) (eC (.int 0))) ρ M=.ok (decide (b≠0)) M:=by
 simp[tv,e2,Zi,eC,h,Out.bind,dGt];by_cases c:b=0
 .subst c;rfl
 .have:0<b:=⋯
  simp[c,this]
theorem ZiU(a:Int):(if a<0 then -a else a)=(a.natAbs:Int):=by split<;>lia
def ZuM:Sv:=(ZC (ZgJ 2 3 (Zd (Zj bAbs (Zd (Zi 0) aNil)) (Zd (Zj bAbs (Zd (Zi 1) aNil)) aNil))) (ZC (sWh (tv (e2 dNe (Zi 3) (eC (.int 0)))) (ZgJ 2 3 (Zd (Zi 3) (Zd (e2 dMod (Zi 2) (Zi 3)) aNil)))) (ZR (Zi 2))))
def FGcd:W3:=fnF ZuM 2 2
theorem ZiV(a b:Int)(M:Sto):FGcd [.int a,.int b] M=.ok (.int (bQ a b:Nat)) M:=by
 refine Zm6 rfl ?_;refine(ZiR (ρ1:=[some (.int a),some (.int b),some (.int (a.natAbs:Nat)),some (.int (b.natAbs:Nat))]) (M1:=M) ?_).trans ?_
 .simp[fnF,ZC,sNil,ZR,ZoO,ZcT,sIf,Zan,ZgJ,Zuw,Zbh,gNm,gNl,gCs,gTp,DL.e2,Zi,eC,ZaK,ZcY,Zj,Zd,aNil,tv,Zb6,Zbz,ZY,Zav,ZoA,ZgI,eIf,Zfe,ZcL,Out.bind,dAdd,dSub,dMul,dDiv,dMod,dPow,dLt,dLe,dGt,dGe,dIx,atD,at0,at1,ix0,ix1,bLen,bAbs,bMax,bMin,bInt,ZoM,Zej,ZaB,kd,Zb3,dIs,dIsNot,isP,ZiU]
 .have q:=Zlo (c:=tv (e2 dNe (Zi 3) (eC (.int 0)))) (i:=2) (j:=3) (M:=M) (by decide) ne0 b.natAbs a.natAbs [some (.int a),some (.int b),some (.int (a.natAbs:Nat)),some (.int (b.natAbs:Nat))] rfl rfl
  refine(ZiR q).trans ?_;rfl
end DL
namespace DL
open PyProof.Rows L2
end DL
namespace DL
open PyProof.Rows L2
noncomputable def wO(o:Out β)(Q:β->Sto->Prop)(E:W2):Prop:=match o with
 |.ok a M=>Q a M
 |.exc c M=>E c M
 |.bad=>False
def wS(f:Fl)(N:W1)(R:W0)(B C:W1)(E:W2):Prop:=match f with
 |.nx ρ M=>N ρ M
 |.ret d M=>R d M
 |.brk ρ M=>B ρ M
 |.cnt ρ M=>C ρ M
 |.exc c M=>E c M
 |.bad=>False
noncomputable def Br(k:Bool)(A B:Prop):Prop:=(k=true->A)/\(k=false->B)
noncomputable def wG{β:Type}(o:Option β)(N:β->Prop):Prop:=match o with|some ρ=>N ρ|none=>False
noncomputable def wV(o:Option (Option D))(Q:D->Prop):Prop:=match o with|some (some d)=>Q d|_=>False
noncomputable def wI(x:D)(Q:Int->Prop):Prop:=match x with|.int i=>Q i|_=>False
noncomputable def wR(x:D)(Q:Nat->Prop):Prop:=match x with|.ref i=>Q i|_=>False
noncomputable def w1(x:List D)(Q:D->Prop):Prop:=match x with|[v]=>Q v|_=>False
noncomputable def w2(x:List D)(Q:D->D->Prop):Prop:=match x with|[v,w]=>Q v w|_=>False
noncomputable def wL(o:Option SO)(Q:List D->Prop):Prop:=match o with|some (.lst xs)=>Q xs|none=>False
section
variable {β:Type}{QG:β->Prop}{y:β}
theorem ZuN:w1 [d] Q=Q d:=rfl
theorem ZuO:w2 [d,x] Q2=Q2 d x:=rfl
theorem ZuP:wV (some (some d)) Q=Q d:=rfl
theorem ZuQ:wI (.int i) QI=QI i:=rfl
theorem ZuR:wR (.ref n) QR=QR n:=rfl
theorem ZuS:wL (some (.lst xs)) QL=QL xs:=rfl
theorem ZuT:wG (some y) QG=QG y:=rfl
end
section
variable {β:Type}{Q:β->Sto->Prop}{E:W2}
theorem Zm{d:β}:wO (.ok d M) Q E=Q d M:=rfl
theorem ZpF:wO (.exc c M:Out β) Q E=E c M:=rfl
theorem ZtL:Br true A A'=A:=by simp[Br]
theorem ZuU:Br false A A'=A':=by simp[Br]
theorem br(h1:k=true->A)(h2:k=false->A'):Br k A A':=⟨h1,h2⟩
theorem ZaX{o:Out β}{Q':β->Sto->Prop}(h:wO o Q E)(hq:∀d M,Q d M->Q' d M)(he:∀c M,E c M->E' c M):wO o Q' E':=by
 cases o with
 |ok d M=>exact hq d M h
 |exc c M=>exact he c M h
 |bad=>exact h
theorem Zgf{o:Out β}(h:wO o Q (λ_ _=>False)):∃d M',o=.ok d M'/\Q d M':=by
 cases o with
 |ok d M=>exact⟨d,M,rfl,h⟩
 |exc c M=>exact h.elim
 |bad=>exact h.elim
theorem ZI{o:Out γ}{f:γ->Sto->Out β}:wO (o.bind f) Q E=wO o (λx M1=>wO (f x M1) Q E) E:=by cases o<;>rfl
end
section
variable {E:W2}{N B C:W1}{R:W0}{ρ:Ro}{M:Sto}{e f:Ev}
theorem Zsh:wO (e2 op f g ρ M) Q E=wO (f ρ M) (λx M1=>wO (g ρ M1) (λy M2=>wO (op x y M2) Q E) E) E:=by
 unfold e2;rw[ZI];congr 1;funext x M1;rw[ZI]
theorem ZuV:wO (Zi i ρ M) Q E=wV ρ[i]? (λd=>Q d M):=by
 unfold Zi;cases ρ[i]? with
 |none=>rfl
 |some o=>cases o<;>rfl
theorem Zm7:wO (Zj F fs ρ M) Q E=wO (fs ρ M) (λds M1=>wO (F ds M1) Q E) E:=ZI
theorem Zm8:wO (Zd f fs ρ M) Q E=wO (f ρ M) (λx M1=>wO (fs ρ M1) (λxs M2=>Q (x::xs) M2) E) E:=by
 unfold Zd;rw[ZI];congr 1;funext x M1;rw[ZI];congr 1
theorem ZpG:wO (ZaK fs ρ M) Q E=wO (fs ρ M) (λxs M1=>xs.length<=1000/\Q (.tup xs) M1) E:=by
 unfold ZaK;rw[ZI];congr 1;funext x M1;by_cases h:x.length<=1000
 .rw[if_pos h];simp[h,wO]
 .rw[if_neg h];simp[h,wO]
theorem ZpH:wO (ZcY fs ρ M) Q E=wO (fs ρ M) (λxs M1=>xs.length<=1000/\Q (.ref M1.length) (M1++[.lst xs])) E:=by
 unfold ZcY;rw[ZI];congr 1;funext x M1;by_cases h:x.length<=1000
 .rw[if_pos h];simp[h,wO]
 .rw[if_neg h];simp[h,wO]
theorem ZpI:wO (ZY t ρ M) Q E=wO (t ρ M) (λk M1=>Q (!k) M1) E:=by
 unfold ZY;rw[ZI];congr 1
theorem ZpJ:wS (ZC a b ρ M) N R B C E=wS (a ρ M) (λρ1 M1=>wS (b ρ1 M1) N R B C E) R B C E:=by
 unfold ZC;cases a ρ M<;>rfl
theorem ZaY{o:Out β}{k:β->Sto->Fl}:wS (Zbh o k) N R B C E=wO o (λx M1=>wS (k x M1) N R B C E) E:=by cases o<;>rfl
theorem ZpK:wS (ZR f ρ M) N R B C E=wO (f ρ M) R E:=ZaY
theorem Zm9:wS (ZcT f ρ M) N R B C E=wO (f ρ M) (λ_ M1=>N ρ M1) E:=ZaY
theorem ZpL:wS (Zan (gNm i) f ρ M) N R B C E=wO (f ρ M) (λd M1=>N (ρ.set i (some d)) M1) E:=ZaY
theorem Zna:wS (Zan (gTp gs) f ρ M) N R B C E=wO (f ρ M) (λd M1=>wG (gTp gs d ρ) (λr=>N r M1)) E:=by
 unfold Zan;rw[ZaY];congr 1;funext d M1;cases gTp gs d ρ<;>rfl
theorem ZpM:wS (ZgJ i j fs ρ M) N R B C E=wO (fs ρ M) (λds M1=>w2 ds λv w=>N ((ρ.set i (some v)).set j (some w)) M1) E:=by
 unfold ZgJ;rw[ZaY];congr 1;funext ds M1;rcases ds with _|⟨v,_|⟨w,_|⟨z,r⟩⟩⟩<;>rfl
theorem ZkB:wS (ZbB c fs ρ M) N R B C E=wO (fs ρ M) (λds M1=>ds.length<=1000/\E c M1) E:=by
 unfold ZbB;rw[ZaY];congr 1;funext ds M1;by_cases h:ds.length<=1000
 .rw[if_pos h];simp[h,wS]
 .rw[if_neg h];simp[h,wS]
theorem wF(hl:ds.length=n):wO (fnF a n k ds M) Q E=wS (a (ds.map some++aZ k none) M) (λ_ M1=>Q .non M1) Q (λ_ _=>False) (λ_ _=>False) E:=by
 unfold fnF;rw[if_pos hl];cases a (ds.map some++aZ k none) M<;>rfl
variable {tg:Tg}{bd:Sv}
theorem ZiW(I:Nat->Ro->Sto->Prop):∀(xs:List D)(k:Nat)(ρ:Ro)(M:Sto),I k ρ M->(∀i ρ M (h:i<xs.length),I (k+i) ρ M->wG (tg xs[i] ρ) λr=>wS (bd r M) (I (k+i+1)) R N (I (k+i+1)) E)->(∀ρ M,I (k+xs.length) ρ M->N ρ M)->wS (Zb8 tg bd xs ρ M) N R B C E
 |[],k,ρ,M,h,_,hn=>hn ρ M h
 |x::xs,k,ρ,M,h,st,hn=>by
  have s:=st 0 ρ M (by simp) h
  unfold Zb8;simp only[aR,gk]at s;cases e:tg x ρ with
  |none=>rw[e]at s;exact s.elim
  |some ρ1=>
   rw[e]at s;simp only[wG]at s;have rc:∀ρ2 M2,I (k+1) ρ2 M2->wS (Zb8 tg bd xs ρ2 M2) N R B C E:=λρ2 M2 h2=>ZiW I xs (k+1) ρ2 M2 h2 (λi ρ M hi hI=>by
    have z:=st (i+1) ρ M (by simp;lia) (by rw[show k+(i+1)=k+1+i by lia];exact hI)
    simp only[bB]at z;rw[show k+(i+1)+1=k+1+i+1 by lia]at z
    exact z) (λρ M hI=>hn ρ M (by rw[show k+(x::xs).length=k+1+xs.length by simp;lia];exact hI))
   cases eg:bd ρ1 M<;>rw[eg]at s<;>simp only[eg]
   .exact rc _ _ s
   .exact s
   .exact s
   .exact rc _ _ s
   .exact s
   .exact s
theorem Znb:wS (ZcM tg fs bd ρ M) N R B C E=wO (fs ρ M) (λds M1=>w1 ds λd=>wI d λj=>(-(2^62)<=j/\j<2^62)/\wS (Zb8 tg bd (ZaO 0 j.toNat) ρ M1) N R B C E) E:=by
 unfold ZcM;rw[ZaY];congr 1;funext ds M1;rcases ds with _|⟨v,_|⟨w,r⟩⟩
 .rfl
 .cases v<;>try rfl
  rename_i j;by_cases h: -(2^62)<=j/\j<2^62
  .simp only[w1,wI,eq_true h,true_and,if_true]
  .simp only[w1,wI,eq_false h,false_and,if_false];rfl
 .cases v<;>rfl
theorem Zgg(I:Nat->Ro->Sto->Prop){lo:Int}(h0:I 0 ρ M)(st:∀i ρ M,i<n->I i ρ M->wG (tg (.int (lo+i)) ρ) λr=>wS (bd r M) (I (i+1)) R N (I (i+1)) E)(hn:∀ρ M,I n ρ M->N ρ M):wS (Zb8 tg bd (ZaO lo n) ρ M) N R B C E:=by
 have hl:(ZaO lo n).length=n:=by simp[ZaO]
 refine ZiW I _ 0 ρ M h0 (λi ρ M h hI=>?_) (λρ M hI=>hn ρ M (by rw[hl,ff]at hI;exact hI))
 have:(ZaO lo n)[i]=.int (lo+i):=by simp[ZaO]
 rw[this];rw[ff]at *;exact st i ρ M (by rw[hl]at h;exact h) hI
theorem ZpN:wS (ZnL tg f bd ρ M) N R B C E=wO (f ρ M) (λd M1=>wS (Zk8 tg bd d ρ M1) N R B C E) E:=ZaY
theorem Znc(I:Nat->Ro->Sto->Prop){n:Nat}{xs:List D}:∀(f i:Nat)(ρ:Ro)(M:Sto),i+f=xs.length->I i ρ M->(∀i ρ M,I i ρ M->M[n]?=some (.lst xs))->(∀i ρ M (h:i<xs.length),I i ρ M->wG (tg xs[i] ρ) λr=>wS (bd r M) (I (i+1)) R N (I (i+1)) E)->(∀ρ M,I xs.length ρ M->N ρ M)->wS (Zg4 tg bd n f i ρ M) N R B C E:=by
  intro f
  induction f with
  |zero=>
   intro i ρ M e h hm st hn;have hx:=hm _ _ _ h;unfold Zg4;rw[hx]
   have:xs[i]?=none:=bj ⋯
   simp only[this];exact hn ρ M (by rw[show xs.length=i by lia];exact h)
  |succ f ih=>
   intro i ρ M e h hm st hn;have hx:=hm _ _ _ h;unfold Zg4;rw[hx];have hi:i<xs.length:=⋯
   have:xs[i]?=some xs[i]:=Gq hi
   simp only[this];have s:=st i ρ M hi h;cases e:tg xs[i] ρ with
   |none=>rw[e]at s;exact s.elim
   |some ρ1=>
    rw[e]at s;simp only[wG]at s;have rc:∀ρ2 M2,I (i+1) ρ2 M2->wS (Zg4 tg bd n f (i+1) ρ2 M2) N R B C E:=λρ2 M2 h2=>ih (i+1) ρ2 M2 ⋯ h2 hm st hn
    cases eg:bd ρ1 M<;>rw[eg]at s<;>simp only[eg]
    .exact rc _ _ s
    .exact s
    .exact s
    .exact rc _ _ s
    .exact s
    .exact s
theorem Zfr(I:Nat->Ro->Sto->Prop)(hM:M[n]?=some (.lst xs))(h0:I 0 ρ M)(hm:∀i ρ M,I i ρ M->M[n]?=some (.lst xs))(st:∀i ρ M (h:i<xs.length),I i ρ M->wG (tg xs[i] ρ) λr=>wS (bd r M) (I (i+1)) R N (I (i+1)) E)(hn:∀ρ M,I xs.length ρ M->N ρ M):wS (Zk8 tg bd (.ref n) ρ M) N R B C E:=by
 show wS (match M[n]? with|some (.lst xs)=>Zg4 tg bd n xs.length 0 ρ M|none=>.bad) N R B C E
 rw[hM];exact Znc I xs.length 0 ρ M ⋯ h0 hm st hn
theorem Znd:wS (Zdy tg fi bd ρ M) N R B C E=wO (fi ρ M) (λsrc M1=>wS (Zfj tg bd src (cnt src M1) 0 ρ M1) N R B C E) E:=ZaY
theorem Zlp(I:Nat->Ro->Sto->Prop){src:Src}{xs:List D}:∀(f i:Nat)(ρ:Ro)(M:Sto),i<=xs.length->xs.length<=i+f->I i ρ M->(∀i ρ M,i<=xs.length->I i ρ M->nxt src i M=some xs[i]?)->(∀i ρ M (h:i<xs.length),I i ρ M->wG (tg xs[i] ρ) λr=>wS (bd r M) (I (i+1)) R N (I (i+1)) E)->(∀ρ M,I xs.length ρ M->N ρ M)->wS (Zfj tg bd src f i ρ M) N R B C E:=by
  intro f
  induction f with
  |zero=>
   intro i ρ M le e h hm st hn;have hx:=hm _ _ _ le h;unfold Zfj;rw[hx];have hi:¬i<xs.length:=⋯
   have:xs[i]?=none:=bj ⋯
   simp only[this];exact hn ρ M (by rw[show xs.length=i by lia];exact h)
  |succ f ih=>
   intro i ρ M le e h hm st hn;have hx:=hm _ _ _ le h;unfold Zfj;rw[hx];by_cases hi:i<xs.length
   .have:xs[i]?=some xs[i]:=Gq hi
    simp only[this];have s:=st i ρ M hi h;cases e:tg xs[i] ρ with
    |none=>rw[e]at s;exact s.elim
    |some ρ1=>
     rw[e]at s;simp only[wG]at s;have rc:∀ρ2 M2,I (i+1) ρ2 M2->wS (Zfj tg bd src f (i+1) ρ2 M2) N R B C E:=λρ2 M2 h2=>ih (i+1) ρ2 M2 ⋯ ⋯ h2 hm st hn
     cases eg:bd ρ1 M<;>rw[eg]at s<;>simp only[eg]
     .exact rc _ _ s
     .exact s
     .exact s
     .exact rc _ _ s
     .exact s
     .exact s
   .have:xs[i]?=none:=bj ⋯
    simp only[this];exact hn ρ M (by rw[show xs.length=i by lia];exact h)
theorem Zne:wO (ZaP fi k fr tg c f ρ M) Q E=wO (fi ρ M) (λsrc M1=>wO (ZeB src tg c f M1.length (cnt src M1) 0 (roB k fr ρ) (M1++[.lst []])) (λ_ M2=>Q (.ref M1.length) M2) (λ_ _=>False)) E:=by
 unfold ZaP;rw[ZI];congr 1;funext src M1;cases ZeB src tg c f M1.length (cnt src M1) 0 (roB k fr ρ) (M1++[.lst []])<;>rfl
theorem Zgh(I:Nat->Ro->Sto->Prop){src:Src}{xs:List D}{c:Tv}{m:Nat}{Q:Sto->Prop}:∀(fu i:Nat)(ρ:Ro)(M:Sto),i<=xs.length->xs.length<=i+fu->I i ρ M->(∀i ρ M,i<=xs.length->I i ρ M->nxt src i M=some xs[i]?)->(∀i ρ M (h:i<xs.length),I i ρ M->wG (tg xs[i] ρ) λr=>wO (c r M) (λk M1=>Br k (wO (f r M1) (λy M2=>wL M2[m]? λys=>ys.length<10000000/\I (i+1) r (M2.set m (.lst (ys++[y])))) (λ_ _=>False)) (I (i+1) r M1)) (λ_ _=>False))->(∀ρ M,I xs.length ρ M->Q M)->wO (ZeB src tg c f m fu i ρ M) (λ_ M2=>Q M2) (λ_ _=>False):=by
  intro fu
  induction fu with
  |zero=>
   intro i ρ M le e h hm st hn;have hx:=hm _ _ _ le h;unfold ZeB;rw[hx];have hi:¬i<xs.length:=⋯
   have:xs[i]?=none:=bj ⋯
   simp only[this];exact hn ρ M (by rw[show xs.length=i by lia];exact h)
  |succ fu ih=>
   intro i ρ M le e h hm st hn;have hx:=hm _ _ _ le h;unfold ZeB;rw[hx];by_cases hi:i<xs.length
   .have:xs[i]?=some xs[i]:=Gq hi
    simp only[this];have s:=st i ρ M hi h;cases e:tg xs[i] ρ with
    |none=>rw[e]at s;exact s.elim
    |some ρ1=>
     rw[e]at s;simp only[wG]at s;have rc:∀ρ2 M2,I (i+1) ρ2 M2->wO (ZeB src tg c f m fu (i+1) ρ2 M2) (λ_ M2=>Q M2) (λ_ _=>False):=λρ2 M2 h2=>ih (i+1) ρ2 M2 ⋯ ⋯ h2 hm st hn
     cases ec:c ρ1 M with
     |bad=>rw[ec]at s;exact s.elim
     |exc _ _=>rw[ec]at s;exact s.elim
     |ok k M1=>
      rw[ec]at s;rw[Zm]at s;cases k with
      |false=>
       rw[ZuU]at s;simp only[ec];exact rc _ _ s
      |true=>
       rw[ZtL]at s;simp only[ec];cases ef:f ρ1 M1 with
       |bad=>rw[ef]at s;exact s.elim
       |exc _ _=>rw[ef]at s;exact s.elim
       |ok y M2=>
        rw[ef,Zm]at s;simp only[ef];cases ey:M2[m]? with
        |none=>rw[ey]at s;exact s.elim
        |some o=>
         cases o with
         |lst ys=>
          rw[ey]at s;simp only[wL,ey]at s ⊢;rw[if_pos s.1];exact rc _ _ s.2
   .have:xs[i]?=none:=bj ⋯
    simp only[this];exact hn ρ M (by rw[show xs.length=i by lia];exact h)
end
end DL
namespace DL
open PyProof.Rows L2
section
variable {M:Sto}{n:Nat}{lo:Ro->Sto->Out (Option Int)}
theorem ZeT(h: -(18446744073709551616)<i/\i<18446744073709551616):ZN i j:=ZiT h.1 h.2
theorem Zd8(h: -(18446744073709551616)<j/\j<18446744073709551616):ZN i j:=ZiS h.1 h.2
theorem ZeU(h:0<j/\j<18446744073709551616):Zbb j:=by
 refine⟨⋯,?_⟩
 have:j.natAbs.log2<64:=(jH ⋯).mpr ⋯
 lia
theorem Zsi:wO (dAdd (.int i) (.int j) M) Q E=Q (.int (i+j)) M:=rfl
theorem Zsj:wO (dSub (.int i) (.int j) M) Q E=Q (.int (i-j)) M:=rfl
theorem Zaa(h:ZN i j):wO (dMul (.int i) (.int j) M) Q E=Q (.int (i*j)) M:=by
 show wO (if ZN i j then _ else _) Q E=_
 rw[if_pos h];rfl
theorem Zsk(h: -(18446744073709551616)<i/\i<18446744073709551616):wO (dMul (.int i) (.int j) M) Q E=Q (.int (i*j)) M:=Zaa (ZeT h)
theorem ZpO(h: -(18446744073709551616)<j/\j<18446744073709551616):wO (dMul (.int i) (.int j) M) Q E=Q (.int (i*j)) M:=Zaa (Zd8 h)
theorem Zsl(h:0<j/\j<18446744073709551616):wO (dDiv (.int i) (.int j) M) Q E=Q (.int (i/j)) M:=by
 show wO (if Zbb j then _ else _) Q E=_
 rw[if_pos (ZeU h),iy _ ⋯];rfl
theorem Zsm(h:0<j):wO (dMod (.int i) (.int j) M) Q E=Q (.int (i%j)) M:=by
 show wO (if j≠0 then _ else _) Q E=_
 rw[if_pos ⋯,ix _ ⋯];rfl
theorem Zsn(h:0<=j/\j<=1000000/\i.natAbs<18446744073709551616):wO (dPow (.int i) (.int j) M) Q E=Q (.int (i^j.toNat)) M:=by
 show wO (if 0<=j/\j<=1000000/\i.natAbs<2^64 then _ else _) Q E=_
 rw[if_pos ⟨h.1,h.2.1,⋯⟩];rfl
theorem ZuW:wO (dLt (.int i) (.int j) M) Q E=Q (.bl (decide (i<j))) M:=rfl
theorem ZuX:wO (dLe (.int i) (.int j) M) Q E=Q (.bl (decide (i<=j))) M:=rfl
theorem ZuY:wO (dGt (.int i) (.int j) M) Q E=Q (.bl (decide (j<i))) M:=rfl
theorem ZuZ:wO (dGe (.int i) (.int j) M) Q E=Q (.bl (decide (j<=i))) M:=rfl
theorem Zso:wO (dAdd (.ref n) (.ref m) M) Q E=wL M[n]? λxs=>wL M[m]? λys=>xs.length+ys.length<=10000000/\Q (.ref M.length) (M++[.lst (xs++ys)]):=by
 show wO (match M[n]?,M[m]? with|some (.lst xs),some (.lst ys)=>_|_,_=>_) Q E=_
 cases e1:M[n]? with
 |none=>rfl
 |some o=>
  cases o with
  |lst xs=>
   cases e2:M[m]? with
   |none=>rfl
   |some p=>
    cases p with
    |lst ys=>
     by_cases h:xs.length+ys.length<=10000000
     .simp[wL,h,wO]
     .simp[wL,h,wO]
theorem Zu0:wO (dEq x y M) Q E=wG (eqF 12 M x y) λb=>Q (.bl b) M:=by
 show wO (match eqF 12 M x y with|some b=>_|none=>_) Q E=_
 cases eqF 12 M x y<;>rfl
theorem Zu1:wO (dNe x y M) Q E=wG (eqF 12 M x y) λb=>Q (.bl (!b)) M:=by
 show wO (match eqF 12 M x y with|some b=>_|none=>_) Q E=_
 cases eqF 12 M x y<;>rfl
theorem Zu2:wO (dIs x y M) Q E=wG (isP x y) λb=>Q (.bl b) M:=by
 show wO (match isP x y with|some b=>_|none=>_) Q E=_
 cases isP x y<;>rfl
theorem Zsp:wO (dIsNot x y M) Q E=wG (isP x y) λb=>Q (.bl (!b)) M:=by
 show wO (match isP x y with|some b=>_|none=>_) Q E=_
 cases isP x y<;>rfl
theorem Znf:wO (atD xs i M) Q E=wG (atI xs i) λd=>Q d M:=by
 unfold atD;cases atI xs i<;>rfl
theorem Zsq:wO (dIx (.tup xs) (.int i) M) Q E=wG (atI xs i) λd=>Q d M:=Znf
theorem Zsr:wO (dIx (.rol xs) (.int i) M) Q E=wG (atI xs i) λd=>Q d M:=Znf
theorem Zss:wO (dIx (.ref n) (.int i) M) Q E=wL M[n]? λxs=>wG (atI xs i) λd=>Q d M:=by
 show wO (match M[n]? with|some (.lst xs)=>atD xs i M|_=>.bad) Q E=_
 cases e1:M[n]? with
 |none=>rfl
 |some o=>cases o with|lst xs=>exact Znf
theorem ZpP:wO (bLen [.ref n] M) Q E=wL M[n]? λxs=>Q (.int xs.length) M:=by
 show wO (match(match M[n]? with|some (.lst xs)=>some xs|_=>none)with|some xs=>_|none=>_) Q E=_
 cases e1:M[n]? with
 |none=>rfl
 |some o=>cases o with|lst xs=>rfl
theorem ZpQ:wO (bLen [.tup xs] M) Q E=Q (.int xs.length) M:=rfl
theorem ZpR:wO (bLen [.rol xs] M) Q E=Q (.int xs.length) M:=rfl
theorem Zst:wO (bAbs [.int i] M) Q E=Q (.int (i.natAbs:Int)) M:=by rw[<-ZiU];rfl
theorem Zsu:wO (bMax [.int i,.int j] M) Q E=Q (.int (max i j)) M:=by
 have:max i j=if j>i then j else i:=by split<;>lia
 rw[this];rfl
theorem Zsv:wO (bMin [.int i,.int j] M) Q E=Q (.int (min i j)) M:=by
 have:min i j=if j<i then j else i:=by split<;>lia
 rw[this];rfl
theorem ZpS:wO (bInt [.bl k] M) Q E=Q (.int (if k then 1 else 0)) M:=rfl
theorem ZpT:wO (bInt [.int i] M) Q E=Q (.int i) M:=rfl
theorem Zng:wO (ZoM [.tup xs] M) Q E=Q (.ref M.length) (M++[.lst xs]):=rfl
theorem Zsw:wO (bAll [.ref n] M) Q E=wL M[n]? λxs=>wG (Zar xs) λbs=>Q (.bl (bs.all id)) M:=by
 show wO (match M[n]? with|some (.lst xs)=>(match Zar xs with|some bs=>Out.ok (.bl (bs.all id)) M|none=>.bad)|none=>.bad) Q E=_
 cases e1:M[n]? with
 |none=>rfl
 |some o=>
  cases o with
  |lst xs=>
   show wO (match Zar xs with|some bs=>Out.ok (.bl (bs.all id)) M|none=>.bad) Q E=wG (Zar xs) _
   cases Zar xs<;>rfl
theorem ZpU:wO (Zfk g [.ref n] M) Q E=wL M[n]? λxs=>wG (ZbY xs) λns=>wG (g ns) λi=>Q (.int i) M:=by
 show wO (match(match M[n]? with|some (.lst xs)=>some xs|_=>none)with|some xs=>(match ZbY xs with|some ns=>(match g ns with|some i=>Out.ok (.int i) M|none=>.bad)|none=>.bad)|none=>.bad) Q E=_
 cases e1:M[n]? with
 |none=>rfl
 |some o=>
  cases o with
  |lst xs=>
   show wO (match ZbY xs with|some ns=>(match g ns with|some i=>Out.ok (.int i) M|none=>.bad)|none=>.bad) Q E=wG (ZbY xs) _
   cases ZbY xs with
   |none=>rfl
   |some ns=>
    show wO (match g ns with|some i=>Out.ok (.int i) M|none=>.bad) Q E=wG (g ns) _
    cases g ns<;>rfl
theorem Zu3:wO (Zj9 g fo fs ρ M) Q E=wO (fo ρ M) (λx M1=>ZmB x M1=true/\wO (fs ρ M1) (λds M2=>wO (g x ds M2) Q E) E) E:=by
 unfold Zj9;rw[ZI];congr 1;funext x M1;by_cases h:ZmB x M1=true
 .simp only[h,if_true,true_and];rw[ZI]
 .simp[h,wO]
theorem ZpV:ZmB (.ref n) M=M[n]?.isSome:=rfl
theorem Zsx:wO (mApp (.ref n) [d] M) Q E=wL M[n]? λxs=>xs.length<10000000/\Q .non (M.set n (.lst (xs++[d]))):=by
 show wO (match M[n]? with|some (.lst xs)=>if xs.length<10000000 then _ else _|none=>_) Q E=_
 cases e1:M[n]? with
 |none=>rfl
 |some o=>
  cases o with
  |lst xs=>
   by_cases h:xs.length<10000000
   .simp[wL,h,wO]
   .simp[wL,h,wO]
def slR(x:D)(l u:Option Int)(M3:Sto):Out D:=match x with
 |.ref n=>(match M3[n]? with|some (.lst xs)=>.ok (.ref M3.length) (M3++[.lst (ZeF xs l u)])|none=>.bad)
 |.rol xs=>.ok (.ref M3.length) (M3++[.lst (ZeF xs l u)])
 |.tup xs=>if HT.sIx xs.length 0 l=0/\HT.sIx xs.length xs.length u=xs.length then .bad else .ok (.tup (ZeF xs l u)) M3
 |_=>.bad
theorem Zsy:wO (eSl f lo hi ρ M) Q E=wO (f ρ M) (λx M1=>wO (lo ρ M1) (λl M2=>wO (hi ρ M2) (λu M3=>wO (slR x l u M3) Q E) E) E) E:=by
 unfold eSl;rw[ZI];congr 1;funext x M1;rw[ZI];congr 1;funext l M2;rw[ZI];congr 1
theorem Zsz:wO (slR (.ref n) l u M) Q E=wL M[n]? λxs=>Q (.ref M.length) (M++[.lst (ZeF xs l u)]):=by
 unfold slR;cases e1:M[n]? with
 |none=>simp only[e1];rfl
 |some o=>cases o with|lst xs=>simp only[e1];rfl
theorem ZsA:wO (oSo f ρ M) Q E=wO (f ρ M) (λx M1=>wI x λi=>Q (some i) M1) E:=by
 unfold oSo;rw[ZI];congr 1;funext x M1;cases x<;>rfl
theorem ZpW(h:0<=i):ZeF xs none (some i)=xs.take i.toNat:=by
 unfold ZeF;simp only[HT.sIx];rw[if_neg ⋯,jC,Nat.sub_zero]
 by_cases c:i.toNat<=xs.length
 .rw[fM c]
 .rw[Nat.min_eq_right ⋯,cg (ac _),cg ⋯]
theorem ZkC(h:0<=i):ZeF xs (some i) none=xs.drop i.toNat:=by
 unfold ZeF;simp only[HT.sIx];rw[if_neg ⋯]
 by_cases c:i.toNat<=xs.length
 .rw[fM c,cg (by simp)]
 .rw[Nat.min_eq_right ⋯,dX (ac _),dX ⋯,List.take_nil]
theorem ZgT{L:Sto}:(M++L)[M.length]?=L[0]?:=by rw[aJ (ac _),c7]
theorem Ze5{L:Sto}:(M++L)[M.length+i]?=L[i]?:=by rw[aJ ⋯];congr 1;lia
theorem Zcp{L:Sto}(h:n<M.length):(M++L)[n]?=M[n]?:=aO h
theorem Zlq{L:Sto}:(M++L).set M.length o=M++L.set 0 o:=by rw[List.set_append_right _ _ (ac _),c7]
theorem ZpX(h:k≠n):(M.set n o)[k]?=M[k]?:=aU (bD h)
theorem ZpY(h:n<M.length):(M.set n o)[n]?=some o:=aY h
theorem Zas(h:M[n]?=some o):n<M.length:=(au.mp h).1
noncomputable abbrev pr(x y:Int):D:=.tup [.int x,.int y]
def prs(rs:List (Int×Int)):List D:=rs.map λp=>pr p.1 p.2
def nts(ns:List Int):List D:=ns.map D.int
theorem ZO:(prs rs).length=rs.length:=aC _
theorem Zbd:(nts rs).length=rs.length:=aC _
theorem Znh:prs a++prs b=prs (a++b):=(cZ).symm
theorem ZkD:(prs a).take n=prs (a.take n):=List.map_take.symm
theorem ZkE:(prs a).drop n=prs (a.drop n):=List.map_drop.symm
theorem ZkF:pr a b::prs r=prs ((a,b)::r):=rfl
noncomputable def cy(rs:List (Int×Int))(i:Int):Int×Int:=rs.getD (i%rs.length).toNat (0,0)
noncomputable def cn(rs:List Int)(i:Int):Int:=rs.getD (i%rs.length).toNat 0
theorem ZiX{n:Nat}(h: -(n:Int)<=i/\i<n):ixN n i=some (i%n).toNat:=by
 unfold ixN;by_cases c:0<=i
 .rw[if_pos c,if_pos h.2,dA c h.2]
 .rw[if_neg c,if_pos h.1]
  have:i%n=i+n:=by
   rw[<-Int.add_emod_right,dA ⋯ ⋯]
  rw[this]
theorem Zgi(h: -(rs.length:Int)<=i/\i<rs.length):atI (prs rs) i=some (pr (cy rs i).1 (cy rs i).2):=by
 unfold atI;rw[ZO,ZiX h];have hp:(i%rs.length).toNat<rs.length:=by
  have:=dh i (show(0:Int)<rs.length by lia)
  have:=d9 i (show(rs.length:Int)≠0 by lia)
  lia
 simp[prs,cy,aq hp]
theorem ZiY(h: -(rs.length:Int)<=i/\i<rs.length):atI (nts rs) i=some (.int (cn rs i)):=by
 unfold atI;rw[Zbd,ZiX h];have hp:(i%rs.length).toNat<rs.length:=by
  have:=dh i (show(0:Int)<rs.length by lia)
  have:=d9 i (show(rs.length:Int)≠0 by lia)
  lia
 simp[nts,cn,aq hp]
theorem Zgj:cy rs (i%rs.length)=cy rs i:=by unfold cy;rw[jI _ (Int.dvd_refl _)]
theorem ZeV:cy rs (i+rs.length)=cy rs i:=by unfold cy;rw[Int.add_emod_right]
theorem Zlr:cy rs (i-rs.length)=cy rs i:=by unfold cy;rw[Int.sub_emod_right]
theorem ZpZ{rs:List (Int×Int)}(h:k<rs.length):cy rs k=rs[k]:=by
 unfold cy;rw[dA ⋯ ⋯]
 simp[aq h]
theorem ZeW{rs:List Int}(h:k<rs.length):cn rs k=rs[k]:=by
 unfold cn;rw[dA ⋯ ⋯]
 simp[aq h]
theorem ZkG:eqF (n+1) M (.int a) (.int b)=some (decide (a=b)):=rfl
theorem Zu4:eqF (n+1) M (.bl a) (.bl b)=some (a==b):=rfl
theorem Zrp:eqF (n+2) M (pr a b) (pr c d)=some (decide ((a,b)=(c,d))):=by
 show some ((a==c)&&((b==d)&&true))=_;congr 1;rw[jg];simp
theorem Zls:eqL (eqF (n+2) M) (prs rs) (prs ss)=some (decide (rs=ss)):=by
 induction rs generalizing ss with
 |nil=>cases ss<;>rfl
 |cons r rs ih=>
  cases ss with
  |nil=>rfl
  |cons s ss=>
   show(match eqF (n+2) M (pr r.1 r.2) (pr s.1 s.2)with|some a=>(match eqL _ (prs rs) (prs ss)with|some b=>some (a&&b)|none=>none)|none=>none)=_
   rw[Zrp,ih];simp only[];congr 1;rw[jg];obtain⟨r1,r2⟩:=r;obtain⟨s1,s2⟩:=s;simp
theorem Zp0(h1:M[n]?=some (.lst xs))(h2:M[m]?=some (.lst ys)):eqF (k+1) M (.ref n) (.ref m)=if xs.length=ys.length then eqL (eqF k M) xs ys else some false:=by
 show(match kd M (.ref n),kd M (.ref m)with|some a,some b=>eqK (eqF k M) a b|_,_=>none)=_
 have e1:kd M (.ref n)=some (.lst xs):=by show(match M[n]? with|some (.lst xs)=>some (Kd.lst xs)|_=>none)=_;rw[h1]
 have e2:kd M (.ref m)=some (.lst ys):=by show(match M[m]? with|some (.lst xs)=>some (Kd.lst xs)|_=>none)=_;rw[h2]
 rw[e1,e2];rfl
theorem Zp1:ZaB M (.int i)=some "int":=rfl
theorem ZsB:ZaB M (.bl b)=some "bool":=rfl
theorem Zp2:ZaB M (.tup xs)=some "tuple":=rfl
theorem Zp3:ZaB M .non=some "NoneType":=rfl
theorem ZaI(h:M[n]?=some (.lst xs)):ZaB M (.ref n)=some "list":=by
 show(match(match M[n]? with|some (.lst xs)=>some (Kd.lst xs)|_=>none)with|some .non=>_|some (.bl _)=>_|some (.int _)=>_|some (.str _)=>_|some (.tup _)=>_|some (.lst _)=>_|none=>_)=_
 rw[h]
end
end DL
namespace DL
open PyProof.Rows L2
section
variable {ρ:Ro}{xs:List D}
theorem Zu5:wO (iR1 fs ρ M) QS E=wO (fs ρ M) (λds M1=>w1 ds λd=>wI d λj=>(-(2^62)<=j/\j<2^62)/\QS (.pur (ZaO 0 j.toNat)) M1) E:=by
 unfold iR1;rw[ZI];congr 1;funext ds M1;rcases ds with _|⟨v,_|⟨w,r⟩⟩
 .rfl
 .cases v<;>try rfl
  rename_i j;by_cases h: -(2^62)<=j/\j<2^62
  .simp only[w1,wI,eq_true h,true_and,if_true,Zm]
  .simp only[w1,wI,eq_false h,false_and,if_false];rfl
 .cases v<;>rfl
theorem Zu6:wO (iEn fs ρ M) QS E=wO (fs ρ M) (λds M1=>w1 ds λd=>wR d λn=>QS (.enu n) M1) E:=by
 unfold iEn;rw[ZI];congr 1;funext ds M1;rcases ds with _|⟨v,_|⟨w,r⟩⟩<;>try rfl
 .cases v<;>rfl
 .cases v<;>rfl
theorem Zu7:wO (iZp fs ρ M) QS E=wO (fs ρ M) (λds M1=>w2 ds λx y=>wR x λn=>wR y λm=>QS (.zip n m) M1) E:=by
 unfold iZp;rw[ZI];congr 1;funext ds M1;rcases ds with _|⟨v,_|⟨w,_|⟨w',r⟩⟩⟩<;>try rfl
 .cases v<;>rfl
 .cases v<;>cases w<;>rfl
 .cases v<;>cases w<;>rfl
noncomputable def Zni(Q:W0)(ρ:Ro)(M:Sto):Prop:=Q .non M
theorem wF1:wO (fnF bd 1 k [x] M) Q E=wS (bd (some x::aZ k none) M) (Zni Q) Q (λ_ _=>False) (λ_ _=>False) E:=wF rfl
theorem wF2:wO (fnF bd 2 k [x,y] M) Q E=wS (bd (some x::some y::aZ k none) M) (Zni Q) Q (λ_ _=>False) (λ_ _=>False) E:=wF rfl
theorem wF3:wO (fnF bd 3 k [x,y,z] M) Q E=wS (bd (some x::some y::some z::aZ k none) M) (Zni Q) Q (λ_ _=>False) (λ_ _=>False) E:=wF rfl
theorem wF4:wO (fnF bd 4 k [x,y,z,d] M) Q E=wS (bd (some x::some y::some z::some d::aZ k none) M) (Zni Q) Q (λ_ _=>False) (λ_ _=>False) E:=wF rfl
theorem ZkH:prs a++[pr b c]=prs (a++[(b,c)]):=by simp[prs]
theorem ZkI:D.int b::nts r=nts (b::r):=rfl
theorem ZsC:isP .non .non=some true:=rfl
theorem ZsD:isP (.int i) .non=some false:=rfl
theorem ZsE:isP (.tup xs) .non=some false:=rfl
theorem ZsF:isP (.ref n) .non=some false:=rfl
theorem ZcF(h:M[n]?=some (.lst xs)):cnt (.sto n) M=xs.length:=by show(match M[n]? with|some (.lst xs)=>xs.length|none=>0)=_;rw[h]
theorem ZiZ(h:M[n]?=some (.lst xs)):cnt (.enu n) M=xs.length:=by show(match M[n]? with|some (.lst xs)=>xs.length|none=>0)=_;rw[h]
theorem ZcG(h:M[n]?=some (.lst xs)):cnt (.zip n m) M=xs.length:=by show(match M[n]? with|some (.lst xs)=>xs.length|none=>0)=_;rw[h]
theorem at2{r:List D}:atI (x::y::z::r) 2=some z:=by
 show(ixN (r.length+3) 2).bind _=_;unfold ixN;rw[if_pos (by decide),if_pos ⋯]
 rfl
theorem at3{r:List D}:atI (x::y::z::d::r) 3=some d:=by
 show(ixN (r.length+4) 3).bind _=_;unfold ixN;rw[if_pos (by decide),if_pos ⋯]
 rfl
theorem Zp4:Zb3 "int" "int"=true:=rfl
theorem Zp5:Zb3 "int" "bool"=false:=rfl
theorem Zp6:Zb3 "bool" "int"=true:=rfl
theorem Zp7:Zb3 "bool" "bool"=true:=rfl
theorem Zp8:Zb3 "tuple" "tuple"=true:=rfl
theorem Zp9:Zb3 "list" "list"=true:=rfl
theorem Zqa:Zb3 "tuple" "int"=false:=rfl
theorem Zqb:Zb3 "tuple" "list"=false:=rfl
theorem Zqc:Zb3 "list" "tuple"=false:=rfl
theorem Zqd:Zb3 "list" "int"=false:=rfl
theorem Zqe:Zb3 "NoneType" "tuple"=false:=rfl
theorem Zqf:Zb3 "NoneType" "list"=false:=rfl
theorem Zlt(h:M[n]?=some (.lst xs)):nxt (.enu n) k M=some ((xs[k]?).map λd=>D.tup [.int k,d]):=by
 show(match M[n]? with|some (.lst xs)=>(match xs[k]? with|some x=>some (some (D.tup [.int k,x]))|none=>some none)|none=>none)=_
 rw[h];simp only[];cases xs[k]?<;>rfl
theorem ZdJ(h:M[n]?=some (.lst xs)):nxt (.sto n) k M=some xs[k]?:=by
 show(match M[n]? with|some (.lst xs)=>some xs[k]?|none=>none)=_
 rw[h]
theorem Zqg(h:bb<=100000):∀acc:Str,acc.length<=bb->wO (jNil acc ρ M) (λ_ M'=>M'=M) E:=by
 intro acc ha;unfold jNil;rw[if_pos ⋯]
 exact rfl
theorem Zu8(hl:a.length<=1000)(hb:bb+1000<=100000)(h:∀acc:Str,acc.length<=bb+1000->wO (g acc ρ M) (λ_ M'=>M'=M) E):∀acc:Str,acc.length<=bb->wO (ZbZ (eC (.str a)) g acc ρ M) (λ_ M'=>M'=M) E:=by
 intro acc ha;have e:(acc++a).length<=bb+1000:=by rw[bN];lia
 show wO (if(acc++a).length<=100000 then g (acc++a) ρ M else .bad) _ _
 rw[if_pos ⋯]
 exact h _ e
theorem Zu9(hf:f ρ M=.ok (.int i) M)(hi: -(18446744073709551616)<i/\i<18446744073709551616)(hb:bb+100<=100000)(h:∀acc:Str,acc.length<=bb+100->wO (g acc ρ M) (λ_ M'=>M'=M) E):∀acc:Str,acc.length<=bb->wO (ZbZ (eFm f) g acc ρ M) (λ_ M'=>M'=M) E:=by
 intro acc ha;have l:i.natAbs.log2<65:=by
  by_cases z:i.natAbs=0
  .rw[z];decide
  .exact(jH z).mpr ⋯
 have tl:(aB (toString i)).length<=66:=by rw[PySem.ofString_length];exact int_text_length_le (by decide) l
 have e:(acc++aB (toString i)).length<=bb+100:=by rw[bN];lia
 unfold ZbZ eFm;rw[hf];simp only[Out.bind];rw[if_pos ⋯]
 simp only[];rw[if_pos ⋯]
 exact h _ e
theorem Zva(h:∀acc:Str,acc.length<=0->wO (g acc ρ M) (λ_ M'=>M'=M) E)(q:∀x,Q (.str x) M):wO (eFs g ρ M) Q E:=by
 unfold eFs;rw[ZI];refine ZaX (h _ (by decide)) (λx M' e=>?_) (λ_ _ z=>z)
 subst e;exact q x
theorem ZeX(I:Nat->Ro->Sto->Prop)(hM:M[n]?=some (.lst xs))(h0:I 0 ρ M)(hm:∀i ρ M,I i ρ M->M[n]?=some (.lst xs))(st:∀(i:Nat) ρ M (h:i<xs.length),I i ρ M->wG (tg (.tup [.int i,xs[i]]) ρ) λr=>wS (bd r M) (I (i+1)) R N (I (i+1)) E)(hn:∀ρ M,I xs.length ρ M->N ρ M):wS (Zfj tg bd (.enu n) (cnt (.enu n) M) 0 ρ M) N R B C E:=by
 rw[ZiZ hM];have hl:(xs.mapIdx λ(k:Nat) d=>D.tup [.int k,d]).length=xs.length:=by simp
 refine Zlp I (xs:=xs.mapIdx λ(k:Nat) d=>D.tup [.int k,d]) _ 0 ρ M (by simp) (by simp) h0 (λi ρ M _ hI=>?_) (λi ρ M h hI=>?_) (λρ M hI=>hn ρ M (by rw[hl]at hI;exact hI))
 .rw[Zlt (hm _ _ _ hI),gM]
 .rw[j9];exact st i ρ M (by rw[hl]at h;exact h) hI
theorem Zdj(h:M[n]?=some (.lst xs))(h':M[m]?=some (.lst ys)):nxt (.zip n m) k M=some ((bJ (λa b=>D.tup [a,b]) xs ys)[k]?):=by
 show(match M[n]?,M[m]? with|some (.lst xs),some (.lst ys)=>(match xs[k]?,ys[k]? with|some x,some y=>some (some (D.tup [x,y]))|_,_=>some none)|_,_=>none)=_
 rw[h,h',List.getElem?_zipWith];simp only[];cases xs[k]?<;>cases ys[k]?<;>rfl
theorem Zlu(I:Nat->Ro->Sto->Prop)(hM:M[n]?=some (.lst xs))(hl:xs.length<=ys.length)(h0:I 0 ρ M)(hm:∀i ρ M,I i ρ M->M[n]?=some (.lst xs)/\M[m]?=some (.lst ys))(st:∀(i:Nat) ρ M (h:i<xs.length),I i ρ M->wG (tg (.tup [xs[i],ys[i]]) ρ) λr=>wS (bd r M) (I (i+1)) R N (I (i+1)) E)(hn:∀ρ M,I xs.length ρ M->N ρ M):wS (Zfj tg bd (.zip n m) (cnt (.zip n m) M) 0 ρ M) N R B C E:=by
 rw[ZcG hM];have hz:(bJ (λa b=>D.tup [a,b]) xs ys).length=xs.length:=by simp;lia
 refine Zlp I (xs:=bJ (λa b=>D.tup [a,b]) xs ys) _ 0 ρ M (by simp) (by simp;lia) h0 (λi ρ M _ hI=>?_) (λi ρ M h hI=>?_) (λρ M hI=>hn ρ M (by rw[hz]at hI;exact hI))
 .rw[Zdj (hm _ _ _ hI).1 (hm _ _ _ hI).2]
 .rw[dB];exact st i ρ M (by rw[hz]at h;exact h) hI
theorem Znj(Inv:Ro->Prop)(F:Nat->D){Q:Sto->Prop}(hl:xs.length<10000000)(hcnt:xs.length<=cnt src M)(h0:Inv ρ)(hs:∀(L:Sto)(i:Nat),i<=xs.length->nxt src i (M++L)=some xs[i]?)(st:∀(i:Nat)(h:i<xs.length)(ρ:Ro)(L:Sto),Inv ρ->wG (tg xs[i] ρ) λr=>Inv r/\wO (f r (M++L)) (λy M2=>y=F i/\M2=M++L) (λ_ _=>False))(hq:Q (M++[.lst ((ay xs.length).map F)])):wO (ZeB src tg (λ_ M=>.ok true M) f M.length (cnt src M) 0 ρ (M++[.lst []])) (λ_ M2=>Q M2) (λ_ _=>False):=by
 refine Zgh (λi ρ M'=>Inv ρ/\M'=M++[.lst ((ay i).map F)]) (xs:=xs) _ 0 ρ _ (by simp) ⋯ ⟨h0,rfl⟩ (λi ρ M' hi hI=>by rw[hI.2];exact hs _ i hi) (λi ρ M' h hI=>?_) (λρ M' hI=>by rw[hI.2];exact hq)
 obtain⟨hI,rfl⟩:=hI;have s:=st i h ρ [.lst ((ay i).map F)] hI;cases e:tg xs[i] ρ with
 |none=>rw[e]at s;exact s.elim
 |some r=>
  rw[e]at s;obtain⟨hr,s⟩:=s;show Br true _ _;rw[ZtL];refine ZaX s (λy M2 ⟨h1,h2⟩=>?_) (λ_ _ z=>z);subst h1 h2;rw[ZgT];refine⟨by simp;lia,hr,?_⟩
  rw[Zlq,fN,cZ];rfl
theorem Zbt{lo:Int}:(ZaO lo n).length=n:=by simp[ZaO]
theorem Zfs{lo:Int}(h:k<(ZaO lo n).length):(ZaO lo n)[k]=.int (lo+k):=by simp[ZaO]
theorem Zi0:(ay n).map (λi=>D.int (F i))=nts ((ay n).map F):=by simp[nts]
theorem ZkJ{F G:Nat->Int}:(ay n).map (λi=>pr (F i) (G i))=prs ((ay n).map λi=>(F i,G i)):=by simp[prs]
end
end DL
namespace DL
open PyProof.Rows L2
section
variable {E:W2}{N B C:W1}{R:W0}{ρ:Ro}{M:Sto}{f:Ev}{xs:List D}{a bd:Sv}
def kU{β:Type}(u:β->Sto->Out γ)(Q:γ->Sto->Prop)(E:W2)(x:β)(M:Sto):Prop:=wO (u x M) Q E
noncomputable def kQ{β γ:Type}(Q:γ->Sto->Prop)(c:β->γ)(M:Sto)(x:β):Prop:=Q (c x) M
def kB2(op:Bo)(x:D)(Q:W0)(E:W2)(y:D)(M:Sto):Prop:=wO (op x y M) Q E
def kB1(op:Bo)(g:Ev)(ρ:Ro)(Q:W0)(E:W2)(x:D)(M:Sto):Prop:=wO (g ρ M) (kB2 op x Q E) E
theorem Zvb:wO (e2 op f g ρ M) Q E=wO (f ρ M) (kB1 op g ρ Q E) E:=Zsh
theorem y_c:wO (eC d ρ M) Q E=Q d M:=rfl
theorem y_v:wO (Zi k ρ M) Q E=wV ρ[k]? (kQ Q id M):=ZuV
theorem Zqh:wO (Zj F fs ρ M) Q E=wO (fs ρ M) (kU F Q E) E:=Zm7
noncomputable def kA2(x:D)(Q:List D->Sto->Prop)(xs:List D)(M:Sto):Prop:=Q (x::xs) M
def kA1(fs:Av)(ρ:Ro)(Q:List D->Sto->Prop)(E:W2)(x:D)(M:Sto):Prop:=wO (fs ρ M) (kA2 x Q) E
theorem ZsG:wO (aNil ρ M) QL E=QL [] M:=rfl
theorem Zqi:wO (Zd f fs ρ M) QL E=wO (f ρ M) (kA1 fs ρ QL E) E:=Zm8
noncomputable def kTu(Q:W0)(xs:List D)(M:Sto):Prop:=xs.length<=1000/\Q (.tup xs) M
noncomputable def kLs(Q:W0)(xs:List D)(M:Sto):Prop:=xs.length<=1000/\Q (.ref M.length) (M++[.lst xs])
theorem ZsH:wO (ZaK fs ρ M) Q E=wO (fs ρ M) (kTu Q) E:=ZpG
theorem ZsI:wO (ZcY fs ρ M) Q E=wO (fs ρ M) (kLs Q) E:=ZpH
noncomputable def ZtM(x:D)(M:Sto):Out D:=match x with|.int i=>.ok (.int (-i)) M|_=>.bad
theorem ZsJ:wO (Zfe f ρ M) Q E=wO (f ρ M) (kU ZtM Q E) E:=by unfold Zfe;exact ZI
theorem Zqj:wO (ZtM (.int i) M) Q E=Q (.int (-i)) M:=rfl
def ZsK(T:String)(x:D)(M:Sto):Out D:=match ZaB M x with|some t=>.ok (.bl (Zb3 t T)) M|none=>.bad
theorem ZsL:wO (ZcL T f ρ M) Q E=wO (f ρ M) (kU (ZsK T) Q E) E:=by unfold ZcL;exact ZI
def kTy(T:String)(Q:W0)(M:Sto)(t:String):Prop:=Q (.bl (Zb3 t T)) M
theorem Zqk:wO (ZsK T x M) Q E=wG (ZaB M x) (kTy T Q M):=by unfold ZsK;cases ZaB M x<;>rfl
noncomputable def tC(b:Bool):Tv:=λ_ M=>.ok b M
def BrO(k:Bool)(f g:Ro->Sto->Out β)(ρ:Ro)(M:Sto)(Q:β->Sto->Prop)(E:W2):Prop:=wO ((if k=true then f else g) ρ M) Q E
theorem Zvc{fO gO:Ro->Sto->Out β}{QO:β->Sto->Prop}:BrO true fO gO ρ M QO E=wO (fO ρ M) QO E:=rfl
theorem Zvd{fO gO:Ro->Sto->Out β}{QO:β->Sto->Prop}:BrO false fO gO ρ M QO E=wO (gO ρ M) QO E:=rfl
theorem brO{β:Type}{fO gO:Ro->Sto->Out β}{QO:β->Sto->Prop}{p:Prop}[Decidable p](h1:p->wO (fO ρ M) QO E)(h2:¬p->wO (gO ρ M) QO E):BrO (decide p) fO gO ρ M QO E:=by
 by_cases h:p
 .rw[decide_eq_true h];exact h1 h
 .rw[decide_eq_false h];exact h2 h
theorem Zve{β:Type}{fO gO:Ro->Sto->Out β}{QO:β->Sto->Prop}{p:Prop}[Decidable p](h1:¬p->wO (fO ρ M) QO E)(h2:p->wO (gO ρ M) QO E):BrO (!decide p) fO gO ρ M QO E:=by
 by_cases h:p
 .rw[decide_eq_true h];exact h2 h
 .rw[decide_eq_false h];exact h1 h
theorem Zql{fO gO:Ro->Sto->Out β}{QO:β->Sto->Prop}(h1:b=true->wO (fO ρ M) QO E)(h2:b=false->wO (gO ρ M) QO E):BrO b fO gO ρ M QO E:=by
 cases b
 .exact h2 rfl
 .exact h1 rfl
theorem ZkK{fO gO:Ro->Sto->Out β}{QO:β->Sto->Prop}(P:β->Sto->Prop)(h:BrO b fO gO ρ M P E)(hn:∀x M,P x M->QO x M):BrO b fO gO ρ M QO E:=by
 cases b
 .exact ZaX h hn (λ_ _ z=>z)
 .exact ZaX h hn (λ_ _ z=>z)
def kIf(f g:Ev)(ρ:Ro)(Q:W0)(E:W2)(k:Bool)(M:Sto):Prop:=BrO k f g ρ M Q E
theorem Zvf:wO (eIf t f g ρ M) Q E=wO (t ρ M) (kIf f g ρ Q E) E:=by unfold eIf;rw[ZI];congr 1;funext k M1;cases k<;>rfl
def ZtN(g:Ev)(ρ:Ro)(x:D)(M:Sto):Out D:=match x with|.bl k=>if k=true then g ρ M else .ok (.bl false) M|_=>.bad
def oOr(g:Ev)(ρ:Ro)(x:D)(M:Sto):Out D:=match x with|.bl k=>if k=true then .ok (.bl true) M else g ρ M|_=>.bad
def ZtO(x:D)(M:Sto):Out D:=match x with|.bl k=>.ok (.bl (!k)) M|_=>.bad
def oTv(x:D)(M:Sto):Out Bool:=match x with|.bl k=>.ok k M|_=>.bad
theorem ZsM:wO (Zav f g ρ M) Q E=wO (f ρ M) (kU (ZtN g ρ) Q E) E:=by unfold Zav;exact ZI
theorem Zvg:wO (ZoA f g ρ M) Q E=wO (f ρ M) (kU (oOr g ρ) Q E) E:=by unfold ZoA;exact ZI
theorem ZsN:wO (ZgI f ρ M) Q E=wO (f ρ M) (kU ZtO Q E) E:=by unfold ZgI;exact ZI
theorem Zqm:wO (ZtN g ρ (.bl b) M) Q E=BrO b g (eC (.bl false)) ρ M Q E:=by cases b<;>rfl
theorem ZsO:wO (oOr g ρ (.bl b) M) Q E=BrO b (eC (.bl true)) g ρ M Q E:=by cases b<;>rfl
theorem Zqn:wO (ZtO (.bl b) M) Q E=Q (.bl (!b)) M:=rfl
theorem Zvh:wO (tv f ρ M) QB E=wO (f ρ M) (kU oTv QB E) E:=by unfold tv;exact ZI
theorem ZsP:wO (oTv (.bl b) M) QB E=QB b M:=rfl
def kTA(u:Tv)(ρ:Ro)(Q:Bool->Sto->Prop)(E:W2)(k:Bool)(M:Sto):Prop:=BrO k u (tC false) ρ M Q E
def kTO(u:Tv)(ρ:Ro)(Q:Bool->Sto->Prop)(E:W2)(k:Bool)(M:Sto):Prop:=BrO k (tC true) u ρ M Q E
noncomputable def kTN(Q:Bool->Sto->Prop)(k:Bool)(M:Sto):Prop:=Q (!k) M
theorem Zvi:wO (tC b ρ M) QB E=QB b M:=rfl
theorem Zqo:wO (Zb6 t u ρ M) QB E=wO (t ρ M) (kTA u ρ QB E) E:=by unfold Zb6;rw[ZI];congr 1;funext k M1;cases k<;>rfl
theorem ZsQ:wO (Zbz t u ρ M) QB E=wO (t ρ M) (kTO u ρ QB E) E:=by unfold Zbz;rw[ZI];congr 1;funext k M1;cases k<;>rfl
theorem Zqp:wO (ZY t ρ M) QB E=wO (t ρ M) (kTN QB) E:=ZpI
def kSq(b:Sv)(N:W1)(R:W0)(B C:W1)(E:W2)(ρ:Ro)(M:Sto):Prop:=wS (b ρ M) N R B C E
theorem ZsR:wS (ZC a bd ρ M) N R B C E=wS (a ρ M) (kSq bd N R B C E) R B C E:=ZpJ
theorem Zqq:wS (sNil ρ M) N R B C E=N ρ M:=rfl
theorem ZsS:wS (ZR f ρ M) N R B C E=wO (f ρ M) R E:=ZpK
theorem Zqr:wS (ZoO ρ M) N R B C E=R .non M:=rfl
noncomputable def kDr(ρ:Ro)(N:W1)(d:D)(M:Sto):Prop:=N ρ M
theorem Zqs:wS (ZcT f ρ M) N R B C E=wO (f ρ M) (kDr ρ N) E:=Zm9
def BrS(k:Bool)(a b:Sv)(ρ:Ro)(M:Sto)(N:W1)(R:W0)(B C:W1)(E:W2):Prop:=wS ((if k=true then a else b) ρ M) N R B C E
theorem Zvj:BrS true a bd ρ M N R B C E=wS (a ρ M) N R B C E:=rfl
theorem Zvk:BrS false a bd ρ M N R B C E=wS (bd ρ M) N R B C E:=rfl
theorem brS{p:Prop}[Decidable p](h1:p->wS (a ρ M) N R B C E)(h2:¬p->wS (bd ρ M) N R B C E):BrS (decide p) a bd ρ M N R B C E:=by
 by_cases h:p
 .rw[decide_eq_true h];exact h1 h
 .rw[decide_eq_false h];exact h2 h
theorem Zqt{p:Prop}[Decidable p](h1:¬p->wS (a ρ M) N R B C E)(h2:p->wS (bd ρ M) N R B C E):BrS (!decide p) a bd ρ M N R B C E:=by
 by_cases h:p
 .rw[decide_eq_true h];exact h2 h
 .rw[decide_eq_false h];exact h1 h
def kSi(a b:Sv)(ρ:Ro)(N:W1)(R:W0)(B C:W1)(E:W2)(k:Bool)(M:Sto):Prop:=BrS k a b ρ M N R B C E
theorem ZsT:wS (sIf t a bd ρ M) N R B C E=wO (t ρ M) (kSi a bd ρ N R B C E) E:=by unfold sIf;rw[ZaY];congr 1;funext k M1;cases k<;>rfl
noncomputable def kAs(i:Nat)(ρ:Ro)(N:W1)(d:D)(M:Sto):Prop:=N (ρ.set i (some d)) M
theorem ZsU:wS (Zan (gNm k) f ρ M) N R B C E=wO (f ρ M) (kAs k ρ N) E:=ZpL
def kAt(gs:Tgs)(ρ:Ro)(N:W1)(d:D)(M:Sto):Prop:=wG (gTp gs d ρ) (kQ N id M)
theorem Zqu:wS (Zan (gTp gs) f ρ M) N R B C E=wO (f ρ M) (kAt gs ρ N) E:=Zna
noncomputable def ZtP(i j:Nat)(ρ:Ro)(N:W1)(M:Sto)(v w:D):Prop:=N ((ρ.set i (some v)).set j (some w)) M
def kPa(i j:Nat)(ρ:Ro)(N:W1)(ds:List D)(M:Sto):Prop:=w2 ds (ZtP i j ρ N M)
theorem ZsV:wS (ZgJ k m fs ρ M) N R B C E=wO (fs ρ M) (kPa k m ρ N) E:=ZpM
noncomputable def kRa(c:Str)(E:W2)(ds:List D)(M:Sto):Prop:=ds.length<=1000/\E c M
theorem Znk:wS (ZbB c fs ρ M) N R B C E=wO (fs ρ M) (kRa c E) E:=ZkB
def ZtQ(tg:Tg)(bd:Sv)(ρ:Ro)(N:W1)(R:W0)(B C:W1)(E:W2)(M:Sto)(j:Int):Prop:=(-(2^62)<=j/\j<2^62)/\wS (Zb8 tg bd (ZaO 0 j.toNat) ρ M) N R B C E
def ZtR(tg:Tg)(bd:Sv)(ρ:Ro)(N:W1)(R:W0)(B C:W1)(E:W2)(M:Sto)(d:D):Prop:=wI d (ZtQ tg bd ρ N R B C E M)
def kR1(tg:Tg)(bd:Sv)(ρ:Ro)(N:W1)(R:W0)(B C:W1)(E:W2)(ds:List D)(M:Sto):Prop:=w1 ds (ZtR tg bd ρ N R B C E M)
theorem Zqv:wS (ZcM tg fs bd ρ M) N R B C E=wO (fs ρ M) (kR1 tg bd ρ N R B C E) E:=Znb
def kFo(tg:Tg)(bd:Sv)(ρ:Ro)(N:W1)(R:W0)(B C:W1)(E:W2)(d:D)(M:Sto):Prop:=wS (Zk8 tg bd d ρ M) N R B C E
theorem ZsW:wS (ZnL tg f bd ρ M) N R B C E=wO (f ρ M) (kFo tg bd ρ N R B C E) E:=ZpN
theorem Zqw:wS (Zk8 tg bd (.tup xs) ρ M) N R B C E=wS (Zb8 tg bd xs ρ M) N R B C E:=rfl
theorem Zqx:wS (Zk8 tg bd (.rol xs) ρ M) N R B C E=wS (Zb8 tg bd xs ρ M) N R B C E:=rfl
def kFs(tg:Tg)(bd:Sv)(ρ:Ro)(N:W1)(R:W0)(B C:W1)(E:W2)(src:Src)(M:Sto):Prop:=wS (Zfj tg bd src (cnt src M) 0 ρ M) N R B C E
theorem Zqy:wS (Zdy tg fi bd ρ M) N R B C E=wO (fi ρ M) (kFs tg bd ρ N R B C E) E:=Znd
def hT(cs:List Str)(gh:Sv)(W:List Bool)(i:Nat)(ρ:Ro)(c:Str)(M:Sto):Fl:=if cs.contains c=true then(match gh ((kpR W ρ).set i (some (.err c (fsE c M)))) (stE c M)with|.ret d M2=>.ret d M2|.nx _ M2=>.nx (aZ ρ.length none) M2|_=>.bad)else .bad
theorem ZgU:fsE (PySem.Str.ofString "NoPlace") M=[]:=ZoY (by decide +kernel)
theorem ZgV:stE (PySem.Str.ofString "NoPlace") M=M:=ZmA (by decide +kernel)
theorem ZgW:fsE (PySem.Str.ofString "NoMinus") M=[]:=ZoY (by decide +kernel)
theorem ZgX:stE (PySem.Str.ofString "NoMinus") M=M:=ZmA (by decide +kernel)
theorem ZgY:fsE (PySem.Str.ofString "NoRound") (M++[.lst xs])=xs:=ZrW (by decide +kernel)
theorem ZgZ:stE (PySem.Str.ofString "NoRound") (M++[.lst xs])=M:=ZoZ (by decide +kernel)
noncomputable def Zvl(Q:W0)(M1:Sto)(u:Unit)(M:Sto):Prop:=Q (.ref M1.length) M
def kCo(tg:Tg)(c:Tv)(f:Ev)(k:Nat)(fr:List Nat)(ρ:Ro)(Q:W0)(src:Src)(M:Sto):Prop:=wO (ZeB src tg c f M.length (cnt src M) 0 (roB k fr ρ) (M++[.lst []])) (Zvl Q M) (λ_ _=>False)
theorem Zqz:wO (ZaP fi k fr tg t f ρ M) Q E=wO (fi ρ M) (kCo tg t f k fr ρ Q) E:=Zne
def ZtS(QS:Src->Sto->Prop)(M:Sto)(j:Int):Prop:=(-(2^62)<=j/\j<2^62)/\QS (.pur (ZaO 0 j.toNat)) M
def ZtT(QS:Src->Sto->Prop)(M:Sto)(d:D):Prop:=wI d (ZtS QS M)
def kS1(QS:Src->Sto->Prop)(ds:List D)(M:Sto):Prop:=w1 ds (ZtT QS M)
theorem Zvm:wO (iR1 fs ρ M) QS E=wO (fs ρ M) (kS1 QS) E:=Zu5
noncomputable def oSq(d:D)(M:Sto):Out Src:=match d with|.tup ds=>.ok (.pur ds) M|.rol ds=>.ok (.pur ds) M|.con ds=>.ok (.pur ds) M|.ref n=>.ok (.sto n) M|_=>.bad
theorem Zvn:wO (iSq f ρ M) QS E=wO (f ρ M) (kU oSq QS E) E:=by unfold iSq;exact ZI
theorem ZsX:wO (oSq (.tup xs) M) QS E=QS (.pur xs) M:=rfl
theorem ZsY:wO (oSq (.rol xs) M) QS E=QS (.pur xs) M:=rfl
theorem ZsZ:wO (oSq (.ref n) M) QS E=QS (.sto n) M:=rfl
def ZtU(QS:Src->Sto->Prop)(M:Sto)(d:D):Prop:=wR d (kQ QS .enu M)
def kEn(QS:Src->Sto->Prop)(ds:List D)(M:Sto):Prop:=w1 ds (ZtU QS M)
theorem Zvo:wO (iEn fs ρ M) QS E=wO (fs ρ M) (kEn QS) E:=Zu6
def ZtV(QS:Src->Sto->Prop)(M:Sto)(y:D)(n:Nat):Prop:=wR y (kQ QS (.zip n) M)
def ZtW(QS:Src->Sto->Prop)(M:Sto)(x y:D):Prop:=wR x (ZtV QS M y)
def kZp(QS:Src->Sto->Prop)(ds:List D)(M:Sto):Prop:=w2 ds (ZtW QS M)
theorem Zvp:wO (iZp fs ρ M) QS E=wO (fs ρ M) (kZp QS) E:=Zu7
noncomputable def ZqA(xs:List D)(M:Sto)(Q:W0)(ys:List D):Prop:=xs.length+ys.length<=10000000/\Q (.ref M.length) (M++[.lst (xs++ys)])
def ZtX(m:Nat)(M:Sto)(Q:W0)(xs:List D):Prop:=wL M[m]? (ZqA xs M Q)
theorem Zs0:wO (dAdd (.ref n) (.ref m) M) Q E=wL M[n]? (ZtX m M Q):=Zso
noncomputable def Zrq(i:Int)(M:Sto)(Q:W0)(xs:List D):Prop:=((-9223372036854775808<=i/\i<9223372036854775808)/\xs.length*i.toNat<=100000)/\Q (.ref M.length) (M++[.lst (aZ i.toNat xs).flatten])
theorem Zs1:wO (ZuF (.ref n) (.int i) M) Q E=wL M[n]? (Zrq i M Q):=by
 show wO (match M[n]? with|some (.lst xs)=>if(-9223372036854775808<=i/\i<9223372036854775808)/\xs.length*i.toNat<=100000 then Out.ok (.ref M.length) (M++[.lst (aZ i.toNat xs).flatten])else .bad|none=>.bad) Q E=_
 cases e1:M[n]? with
 |none=>rfl
 |some o=>
  cases o with
  |lst xs=>
   show wO (if(-9223372036854775808<=i/\i<9223372036854775808)/\xs.length*i.toNat<=100000 then Out.ok (.ref M.length) (M++[.lst (aZ i.toNat xs).flatten])else .bad) Q E=Zrq i M Q xs
   unfold Zrq;by_cases h:(-9223372036854775808<=i/\i<9223372036854775808)/\xs.length*i.toNat<=100000
   .rw[if_pos h];simp only[eq_true h,true_and];rfl
   .rw[if_neg h];simp only[eq_false h,false_and];rfl
def kEq(Q:W0)(M:Sto)(b:Bool):Prop:=Q (.bl b) M
def kNe(Q:W0)(M:Sto)(b:Bool):Prop:=Q (.bl (!b)) M
theorem Zvq:wO (dEq x y M) Q E=wG (eqF 12 M x y) (kEq Q M):=Zu0
theorem Zvr:wO (dNe x y M) Q E=wG (eqF 12 M x y) (kNe Q M):=Zu1
theorem Zvs:wO (dIs x y M) Q E=wG (isP x y) (kEq Q M):=Zu2
theorem Zs2:wO (dIsNot x y M) Q E=wG (isP x y) (kNe Q M):=Zsp
theorem Zs3:wO (dIx (.tup xs) (.int i) M) Q E=wG (atI xs i) (kQ Q id M):=Zsq
theorem Zs4:wO (dIx (.rol xs) (.int i) M) Q E=wG (atI xs i) (kQ Q id M):=Zsr
def kIx(i:Int)(Q:W0)(M:Sto)(xs:List D):Prop:=wG (atI xs i) (kQ Q id M)
theorem Zs5:wO (dIx (.ref n) (.int i) M) Q E=wL M[n]? (kIx i Q M):=Zss
noncomputable def ZtY(Q:W0)(M:Sto)(xs:List D):Prop:=Q (.int xs.length) M
theorem ZqB:wO (bLen [.ref n] M) Q E=wL M[n]? (ZtY Q M):=ZpP
def ZtZ(Q:W0)(M:Sto)(bs:List Bool):Prop:=Q (.bl (bs.all id)) M
def kAl(Q:W0)(M:Sto)(xs:List D):Prop:=wG (Zar xs) (ZtZ Q M)
theorem Zs6:wO (bAll [.ref n] M) Q E=wL M[n]? (kAl Q M):=Zsw
def Zt0(g:List Int->Option Int)(Q:W0)(M:Sto)(ns:List Int):Prop:=wG (g ns) (kQ Q .int M)
def Zt1(g:List Int->Option Int)(Q:W0)(M:Sto)(xs:List D):Prop:=wG (ZbY xs) (Zt0 g Q M)
theorem ZqC:wO (Zfk gi [.ref n] M) Q E=wL M[n]? (Zt1 gi Q M):=ZpU
def kMt(g:Me)(fs:Av)(ρ:Ro)(Q:W0)(E:W2)(x:D)(M:Sto):Prop:=ZmB x M=true/\wO (fs ρ M) (kU (g x) Q E) E
theorem Zvt:wO (Zj9 me fo fs ρ M) Q E=wO (fo ρ M) (kMt me fs ρ Q E) E:=Zu3
noncomputable def Zt2(n:Nat)(d:D)(Q:W0)(M:Sto)(xs:List D):Prop:=xs.length<10000000/\Q .non (M.set n (.lst (xs++[d])))
theorem Zs7:wO (mApp (.ref n) [d] M) Q E=wL M[n]? (Zt2 n d Q M):=Zsx
def Znl(Q:W0)(M:Sto)(bs:List Bool):Prop:=wG (bs.findIdx? id) (kQ Q (λ(j:Nat)=>.int j) M)
def Zt3(d:D)(Q:W0)(M:Sto)(xs:List D):Prop:=wG (eqs M d xs) (Znl Q M)
theorem Zs8:wO (mIdx (.ref n) [d] M) Q E=wL M[n]? (Zt3 d Q M):=by
 show wO (match M[n]? with|some (.lst xs)=>(match eqs M d xs with|some bs=>(match bs.findIdx? id with|some j=>Out.ok (.int (j:Nat)) M|none=>.bad)|none=>.bad)|none=>.bad) Q E=_
 cases e1:M[n]? with
 |none=>rfl
 |some o=>
  cases o with
  |lst xs=>
   show wO (match eqs M d xs with|some bs=>(match bs.findIdx? id with|some j=>Out.ok (.int (j:Nat)) M|none=>.bad)|none=>.bad) Q E=wG (eqs M d xs) (Znl Q M)
   cases eqs M d xs with
   |none=>rfl
   |some bs=>
    show wO (match bs.findIdx? id with|some j=>Out.ok (.int (j:Nat)) M|none=>.bad) Q E=wG (bs.findIdx? id) _
    cases bs.findIdx? id<;>rfl
def Zt4(l u:Option Int)(Q:W0)(M:Sto)(xs:List D):Prop:=Q (.ref M.length) (M++[.lst (ZeF xs l u)])
def Zt5(x:D)(l:Option Int)(Q:W0)(E:W2)(u:Option Int)(M:Sto):Prop:=wO (slR x l u M) Q E
def Zt6(x:D)(hi:Ro->Sto->Out (Option Int))(ρ:Ro)(Q:W0)(E:W2)(l:Option Int)(M:Sto):Prop:=wO (hi ρ M) (Zt5 x l Q E) E
def Zt7(lo hi:Ro->Sto->Out (Option Int))(ρ:Ro)(Q:W0)(E:W2)(x:D)(M:Sto):Prop:=wO (lo ρ M) (Zt6 x hi ρ Q E) E
theorem Zvu{lo:Ro->Sto->Out (Option Int)}:wO (eSl f lo hi ρ M) Q E=wO (f ρ M) (Zt7 lo hi ρ Q E) E:=Zsy
theorem Zs9:wO (slR (.ref n) l u' M) Q E=wL M[n]? (Zt4 l u' Q M):=Zsz
theorem Zta:wO (oNo ρ M) QI E=QI none M:=rfl
def Zt8(Q:Option Int->Sto->Prop)(x:D)(M:Sto):Prop:=wI x (kQ Q some M)
theorem Ztb:wO (oSo f ρ M) QI E=wO (f ρ M) (Zt8 QI) E:=ZsA
theorem Zi1(h:k<n):ixN n (k:Int)=some k:=by
 unfold ixN;rw[if_pos ⋯,if_pos ⋯]
 simp
theorem Znm(Inv:Ro->Prop)(F:Nat->D)(hl:xs.length<10000000)(hcnt:xs.length<=cnt src M)(h0:Inv (roB k fr ρ))(hs:∀(L:Sto)(i:Nat),i<=xs.length->nxt src i (M++L)=some xs[i]?)(st:∀(i:Nat)(h:i<xs.length)(ρ:Ro)(L:Sto),Inv ρ->wG (tg xs[i] ρ) λr=>Inv r/\wO (f r (M++L)) (λy M2=>y=F i/\M2=M++L) (λ_ _=>False))(hq:Q (.ref M.length) (M++[.lst ((ay xs.length).map F)])):kCo tg (λ_ M=>.ok true M) f k fr ρ Q src M:=Znj (Q:=λM2=>Q (.ref M.length) M2) Inv F hl hcnt h0 hs st hq
theorem Zvv(Inv:Ro->Prop)(F:Nat->D)(hl:n<10000000)(h0:Inv (roB k fr ρ))(st:∀(i:Nat)(h:i<n)(ρ:Ro)(L:Sto),Inv ρ->wG (tg (.int i) ρ) λr=>Inv r/\wO (f r (M++L)) (λy M2=>y=F i/\M2=M++L) (λ_ _=>False))(hq:Q (.ref M.length) (M++[.lst ((ay n).map F)])):kCo tg (λ_ M=>.ok true M) f k fr ρ Q (.pur (ZaO 0 n)) M:=by
 refine Znm (xs:=ZaO 0 n) Inv F (by rw[Zbt];exact hl) (by simp[cnt]) h0 (λL i hi=>rfl) (λi hi ρ L hI=>?_) (by rw[Zbt];exact hq)
 rw[Zfs]
 have:=st i (by rw[Zbt]at hi;exact hi) ρ L hI
 rw[show(0:Int)+(i:Nat)=i by lia]
 exact this
theorem Ztc(Inv:Ro->Prop)(F:Nat->D)(hM:M[n]?=some (.lst xs))(hl:xs.length<10000000)(h0:Inv (roB k fr ρ))(st:∀(i:Nat)(h:i<xs.length)(ρ:Ro)(L:Sto),Inv ρ->wG (tg xs[i] ρ) λr=>Inv r/\wO (f r (M++L)) (λy M2=>y=F i/\M2=M++L) (λ_ _=>False))(hq:Q (.ref M.length) (M++[.lst ((ay xs.length).map F)])):kCo tg (λ_ M=>.ok true M) f k fr ρ Q (.sto n) M:=
 Znm (xs:=xs) Inv F hl (by rw[ZcF hM];exact ac _) h0 (λL i hi=>by rw[ZdJ];rw[aO (Zas hM)];exact hM) st hq
end
end DL
namespace DL
open L2
end DL
namespace DL
open L2
noncomputable def Ztd(c:Str)(E:W2)(ds:List D)(M:Sto):Prop:=match ds with
 |[.str y,.int n]=>(y.length<=1000/\n.natAbs.log2<1000)/\E c (M++[.lst [.str y,.int n]])
 |_=>False
theorem ZeY:Ztd c E [.str y,.int n] M=((y.length<=1000/\n.natAbs.log2<1000)/\E c (M++[.lst [.str y,.int n]])):=rfl
theorem Zcq(h:wO (fs ρ M) (Ztd c E) E):wS (Zbs c fs ρ M) N R B C E:=by
 unfold Zbs;rw[ZaY];refine ZaX h (λds M1 k=>?_) (λ_ _ z=>z);unfold Ztd at k
 split at k
 .rename_i y n;show wS (if _ then _ else _) _ _ _ _ _
  rw[if_pos k.1];exact k.2
 .exact k.elim
end DL
namespace DL
open L2
def Zrr(cs:List Str)(gh:Sv)(W:List Bool)(ρ:Ro)(N:W1)(R:W0)(c:Str)(M:Sto):Prop:=cs.contains c=true/\wS (gh (kpR W ρ) (stE c M)) N R (λ_ _=>False) (λ_ _=>False) (λ_ _=>False)
theorem Zlv:wS (ZeS gb cs W gh ρ M) N R B C E=wS (gb ρ M) N R B C (Zrr cs gh W ρ N R):=by
 unfold ZeS;cases e:gb ρ M<;>try rfl
 rename_i c M1;show wS (if cs.contains c=true then _ else _) N R B C E=Zrr cs gh W ρ N R c M1
 unfold Zrr;by_cases h:cs.contains c=true
 .rw[if_pos h];simp only[h,true_and];cases gh (kpR W ρ) (stE c M1)<;>rfl
 .rw[if_neg h];simp only[h,aX,false_and];rfl
theorem Zi2:Zrr cs gh W ρ N R c M=(cs.contains c=true/\wS (gh (kpR W ρ) (stE c M)) N R (λ_ _=>False) (λ_ _=>False) (λ_ _=>False)):=rfl
end DL
namespace DL
open L2
end DL
namespace DL
noncomputable abbrev Pt:=Int×Int
noncomputable def X(p q:Pt):Int:=p.1*q.2-p.2*q.1
section
variable {rs:List Pt}{i:Int}
theorem Zcr{α:Type}{l:List α}{d:α}(h:n<l.length):l.getD n d=l[n]:=by simp[aq h]
theorem Zg0(h:0<=i/\i<rs.length):cy rs i=rs.getD i.toNat (0,0):=by
 unfold cy;rw[dA h.1 h.2]
theorem Zca{m:Nat}(h:m≠0):(i%m).toNat<m/\0<=i%m:=by
 have:=dh i (show(0:Int)<m by lia)
 have:=d9 i (show(m:Int)≠0 by lia)
 lia
theorem Zat(h:rs≠[]):cy rs i∈rs:=by
 have hl:rs.length≠0:=by simpa using h
 unfold cy;rw[Zcr (Zca hl).1];exact bW _
theorem Zlw{f:Pt->Pt}(h:rs≠[]):cy (rs.map f) i=f (cy rs i):=by
 have hl:rs.length≠0:=by simpa using h
 unfold cy;rw[aC,Zcr (by rw[aC];exact(Zca hl).1),Zcr (Zca hl).1,List.getElem_map]
theorem Zft{P:Pt->Pt->Prop}(hn:rs.length≠0)(h:∀i:Int,0<=i->i<rs.length->P (cy rs i) (cy rs (i+1)))(i:Int):P (cy rs i) (cy rs (i+1)):=by
 have e1:cy rs i=cy rs (i%rs.length):=Zgj.symm;have e2:cy rs (i+1)=cy rs (i%rs.length+1):=by
  unfold cy;rw[Int.emod_add_emod]
 rw[e1,e2];obtain⟨a,b⟩:=Zca (i:=i) hn;exact h _ b ⋯
noncomputable def cc(f:Pt->Pt->Nat):List Pt->Nat
 |a::b::r=>f a b+cc f (b::r)
 |_=>0
def cyc(f:Pt->Pt->Nat)(rs:List Pt):Nat:=cc f (rs++rs.take 1)
theorem Zlx{f:Pt->Pt->Nat}{g:Pt->Pt}:∀(L:List Pt),cc f (L.map g)=cc (λa b=>f (g a) (g b)) L
 |[]=>rfl
 |[_]=>rfl
 |a::b::L=>by
  have:=Zlx (f:=f) (g:=g) (b::L)
  simp only[aN,cc]at this ⊢;lia
theorem Zdk(L:List Pt):cyc f (L.map g)=cyc (λa b=>f (g a) (g b)) L:=by
 unfold cyc;rw[<-List.map_take,<-cZ,Zlx]
def in1(w a b:Pt):Nat:=if 0<=X a w/\0<X w b then 1 else 0
def in2(w a b:Pt):Nat:=if 0<X a w/\0<=X w b then 1 else 0
def Fan(rs:List Pt):Prop:=∀w:Pt,w≠(0,0)->cyc (in1 w) rs=1/\cyc (in2 w) rs=1
theorem Zrs:X p q=0-X q p:=by unfold X;grind
theorem Zte{L R:List Pt}:cy (L++a::R) L.length=a:=by
 rw[Zg0 (by simp;lia)]
 simp
theorem ZqD{f:Pt->Pt}(hs:s=1\/s= -1)(hf:∀p q,X (f p) (f q)=s*X p q)(w:Pt)(hw:w≠(0,0)):∃w':Pt,w'≠(0,0)/\∀a,X (f a) w=s*X a w':=by
 have d:=hf (1,0) (0,1);have d1:X (f (1,0)) (f (0,1))=s:=by rw[d];simp[X]
 have lin:∀a,(f a).1=a.1*(f (1,0)).1+a.2*(f (0,1)).1/\(f a).2=a.1*(f (1,0)).2+a.2*(f (0,1)).2:=by
  intro a;have h1:=hf a (1,0);have h2:=hf a (0,1);generalize f a=u at *;generalize f (1,0)=e1 at *;generalize f (0,1)=e2 at *;unfold X at *;rcases hs with rfl|rfl<;>constructor<;>grind
 refine⟨(X w (f (0,1))*s,X (f (1,0)) w*s),?_,?_⟩
 .intro z;apply hw;have z1:=congrArg Prod.fst z;have z2:=congrArg Prod.snd z;simp only at z1 z2;generalize f (1,0)=e1 at *;generalize f (0,1)=e2 at *;unfold X at *;apply eO
  .rcases hs with rfl|rfl<;>simp only[]<;>grind
  .rcases hs with rfl|rfl<;>simp only[]<;>grind
 .intro a;obtain⟨l1,l2⟩:=lin a;unfold X;rw[l1,l2];rcases hs with rfl|rfl<;>simp only[]<;>grind
theorem Fan.map(h:Fan rs)(hf:∀p q,X (f p) (f q)=X p q):Fan (rs.map f):=λw hw=>by
 obtain⟨w',hw',e⟩:=ZqD (s:=1) (.inl rfl) (λp q=>by rw[hf,lE]) w hw
 have e2:∀a,X w (f a)=X w' a:=λa=>by rw[Zrs,e,Zrs (p:=w')];lia
 have c1:∀a b,in1 w (f a) (f b)=in1 w' a b:=λa b=>by unfold in1;rw[e,e2,lE]
 have c2:∀a b,in2 w (f a) (f b)=in2 w' a b:=λa b=>by unfold in2;rw[e,e2,lE]
 rw[Zdk,Zdk,show(λa b=>in1 w (f a) (f b))=in1 w' from funext λa=>funext λb=>c1 a b,show(λa b=>in2 w (f a) (f b))=in2 w' from funext λa=>funext λb=>c2 a b];exact h w' hw'
structure Smo(rs:List Pt):Prop where
 len:3<=rs.length
 one:∀i:Int,X (cy rs i) (cy rs (i+1))=1
 fan:Fan rs
theorem Smo.ne(h:Smo rs):rs≠[]:=by
 intro z
 have:=h.len
 rw[z]at this;simp at this
theorem Smo.map(h:Smo rs)(hf:∀p q,X (f p) (f q)=X p q):Smo (rs.map f):=by
 refine⟨by have:=h.len;simp;lia,λi=>?_,h.fan.map hf⟩
 rw[Zlw h.ne,Zlw h.ne,hf];exact h.one i
end
end DL
namespace CC
open L2 DL
def Zbj:Sv:=(ZR (e2 dSub (e2 dMul (e2 dIx (Zi 0) (eC (.int 0))) (e2 dIx (Zi 1) (eC (.int 1)))) (e2 dMul (e2 dIx (Zi 0) (eC (.int 1))) (e2 dIx (Zi 1) (eC (.int 0))))))
def F_crossed:W3:=fnF Zbj 2 0
def ZaZ:Sv:=(ZR (e2 dIx (Zi 0) (e2 dMod (e2 dAdd (Zi 1) (eC (.int 1))) (Zj bLen (Zd (Zi 0) aNil)))))
def F_following:W3:=fnF ZaZ 2 0
def ZaG:Sv:=(sIf (tv (e2 dNe (Zj F_crossed (Zd (Zi 2) (Zd (Zj F_following (Zd (Zi 0) (Zd (Zi 1) aNil))) aNil))) (eC (.int 1)))) (ZR (Zi 1)) sNil)
def Zbu:Sv:=(ZC (Zdy (gTp (gCs (gNm 1) (gCs (gNm 2) gNl))) (iEn (Zd (Zi 0) aNil)) ZaG) (ZR (eC .non)))
def F_unspanned:W3:=fnF Zbu 1 2
def Za8:Sv:=(ZC (Zan (gNm 1) (Zj F_unspanned (Zd (Zi 0) aNil))) (sIf (tv (e2 dIsNot (Zi 1) (eC .non))) (ZbB (PySem.Str.ofString "NotSmooth") (Zd (eFs (ZbZ (eC (.str (PySem.Str.ofString "ray "))) (ZbZ (eFm (Zi 1)) (ZbZ (eC (.str (PySem.Str.ofString " does not cross the next one in 1"))) jNil)))) aNil)) sNil))
def F_ask_smooth:W3:=fnF Za8 1 1
def Za0:Sv:=(sIf (Zbz (tv (e2 dLt (Zi 1) (eC (.int 0)))) (tv (e2 dGe (Zi 1) (Zj bLen (Zd (Zi 0) aNil))))) (ZbB (PySem.Str.ofString "NoPlace") (Zd (eFs (ZbZ (eC (.str (PySem.Str.ofString "a place is from 0 to "))) (ZbZ (eFm (e2 dSub (Zj bLen (Zd (Zi 0) aNil)) (eC (.int 1)))) jNil))) aNil)) sNil)
def F_ask_place:W3:=fnF Za0 2 0
def Zbv:Sv:=(ZC (Zan (gNm 2) (eC (.int 0))) (ZC (sIf (tv (e2 dLt (Zi 1) (Zj bLen (Zd (Zi 0) aNil)))) (Zan (gNm 2) (e2 dMod (e2 dIx (Zi 0) (Zi 1)) (e2 dPow (eC (.int 10)) (eC (.int 60))))) sNil) (ZC (sIf (tv (e2 dLt (Zi 2) (e2 dPow (eC (.int 10)) (eC (.int 18))))) (ZC (Zan (gNm 3) (e2 dMod (e2 dMul (e2 dAdd (Zi 2) (e2 dMul (eC (.int 1442695040888963407)) (e2 dAdd (Zi 1) (eC (.int 1))))) (eC (.int 6364136223846793005))) (e2 dPow (eC (.int 10)) (eC (.int 37))))) (Zan (gNm 2) (e2 dMod (e2 dDiv (e2 dMul (Zi 3) (Zi 3)) (e2 dPow (eC (.int 10)) (eC (.int 17)))) (e2 dPow (eC (.int 10)) (eC (.int 56)))))) sNil) (ZR (Zi 2)))))
def F_law_cell_at:W3:=fnF Zbv 2 2
def Zcb:Sv:=(ZR (e2 dSub (e2 dMul (e2 dIx (Zi 0) (eC (.int 0))) (e2 dIx (Zi 1) (eC (.int 1)))) (e2 dMul (e2 dIx (Zi 0) (eC (.int 1))) (e2 dIx (Zi 1) (eC (.int 0))))))
def F_law_cross:W3:=fnF Zcb 2 0
end CC
open L2 DL
set_option hygiene false
set_option compiler.extract_closed false
local macro_rules|`(tactic|simp! $c:optConfig [$ls,*])=>do let x←("Zvb y_c y_v Zqh ZsG Zqi ZsH ZsI ZsJ Zqj ZsL Zqk Zvc Zvd Zvf ZsM Zvg ZsN Zqm ZsO Zqn Zvh ZsP Zvi Zqo ZsQ Zqp ZsR Zqq ZsS Zqr Zqs Zvj Zvk ZsT ZsU Zqu ZsV Znk Zqv ZsW Zqw Zqx Zqy ZgU ZgV ZgW ZgX ZgY ZgZ Zqz Zvm Zvn ZsX ZsY ZsZ Zvo Zvp Zs0 Zs1 Zvq Zvr Zvs Zs2 Zs3 Zs4 Zs5 ZqB Zs6 ZqC Zvt Zs7 Zs8 Zvu Zs9 Zta Ztb kU kQ kB2 kB1 kA2 kA1 kTu kLs kTy kIf kTA kTO kTN kSq kDr kSi kAs kAt ZtP kPa kRa ZtQ ZtR kR1 kFo kFs ZtS ZtT kS1 ZtU kEn ZtV ZtW kZp ZqA ZtX Zrq kEq kNe kIx ZtY ZtZ kAl Zt0 Zt1 kMt Zt2 Znl Zt3 Zt4 Zt5 Zt6 Zt7 Zt8 ZkD ZkE Znh ZkF ZkH ZkI Zni decide_eq_true decide_eq_false wF1 wF2 wF3 wF4 Zm ZpF ZuP ZuQ ZuR ZuS ZuT ZuN ZuO Zsi Zsj Zsk ZpO Zsl Zsm Zsn ZuW ZuX ZuY ZuZ ZpQ ZpR Zst Zsu Zsv ZpS ZpT Zng ZpV ZpW ZkC ZsC ZsD ZsE ZsF id roB kpR cond_true cond_false at0 at1 at2 at3 gTp gCs gNl gNm List.set_cons_zero List.set_cons_succ List.getElem?_cons_zero dN aH cC a8 aC aN ge gE je cU bR List.replicate_succ List.replicate_zero Option.join_some Option.isSome_some ZgT Ze5 Zcp Zlq ZpX ZpY ZO Zbd ZkG Zu4 Zrp Zp1 ZsB Zp2 Zp3 Zp4 Zp5 Zp6 Zp7 Zp8 Zp9 Zqa Zqb Zqc Zqd Zqe Zqf true_and and_true dD Bool.not_false decide_true decide_false Nat.reduceAdd Nat.reduceLeDiff Nat.reduceLT gk ff Int.reducePow Int.reduceToNat Int.reduceNeg Int.reduceMod Int.reduceDiv Int.reduceAdd Int.reduceSub Int.reduceMul Int.cast_ofNat_Int Int.reduceEq Int.reduceLT Int.reduceLE".splitOn " ").toArray.mapM fun s=>`(Lean.Parser.Tactic.simpLemma|$(Lean.mkIdent s.toName):ident);`(tactic|simp $c:optConfig (disch := lia) only [$x,*,$ls,*])
set_option hygiene true
namespace CC
open L2 DL
section
variable {i:Int}{rs:List Pt}
theorem ZeZ(ha: -(18446744073709551616)<a/\a<18446744073709551616)(hb: -(18446744073709551616)<b/\b<18446744073709551616):wO (F_crossed [pr a b,pr c d] M) Q E=Q (.int (a*d-b*c)) M:=by
 simp![F_crossed,Zbj]
theorem Zbw(h:M[n]?=some (.lst (prs rs)))(hi:0<=i/\i<rs.length):wO (F_following [.ref n,.int i] M) Q E=Q (pr (cy rs (i+1)).1 (cy rs (i+1)).2) M:=by
 have e:=Zca (i:=i+1) (m:=rs.length) ⋯
 simp![F_following,ZaZ,h,Zgi,Zgj]
theorem Za1{rs:List Pt}{i:Nat}(h:i<(prs rs).length):(prs rs)[i]=pr (cy rs i).1 (cy rs i).2:=by
 have h':i<rs.length:=by rw[ZO]at h;exact h
 rw[ZpZ h'];simp[prs]
theorem ZqE{i:Int}(hi:0<=i/\i<10^60)(hj:0<=j/\j<10^60):ZN i j:=Z6 200 200 (show i.natAbs<2^200 by lia) (show j.natAbs<2^200 by lia) (by decide) (by decide)
theorem Zi3{ns:List Int}{k:Nat}(q:∀c:Int,0<=c->Q (.int c) M):wO (F_law_cell_at [.rol (ns.map D.int),.int k] M) Q E:=by
 have tail:∀v:Int,0<=v->Q (.int v) M:=q;simp! -implicitDefEqProofs [F_law_cell_at,Zbv];refine brS (λh1=>?_) (λh1=>?_)
 .have h2:k<ns.length:=by simpa using h1
  simp! -implicitDefEqProofs [ZkA h2];obtain⟨c,hc,c0⟩:∃c:Int,ns[k]%1000000000000000000000000000000000000000000000000000000000000=c/\0<=c:=⟨_,rfl,⋯⟩
  rw[hc];refine brS (λh1=>?_) (λh1=>?_)
  .simp! -implicitDefEqProofs [];rw[Zaa (ZqE ⋯ ⋯)]
   simp! -implicitDefEqProofs [];exact q _ ⋯
  .simp! -implicitDefEqProofs [];exact q _ c0
 .obtain⟨c,hc,c0⟩:∃c:Int,0=c/\0<=c:=⟨_,rfl,⋯⟩
  rw[hc];simp! -implicitDefEqProofs [];rw[Zaa (ZqE ⋯ ⋯)]
  simp! -implicitDefEqProofs [];exact q _ ⋯
noncomputable def tf(w m:Int)(p:Pt):Pt:=if w=0 then(p.1+m*p.2,p.2)else if w=1 then(p.1,p.2+m*p.1)else if w=2 then(0-p.2,p.1)else p
theorem Ze0:ZbY (nts xs)=some xs:=by
 induction xs with
 |nil=>rfl
 |cons x r ih=>show(match ZbY (nts r)with|some bs=>some (x::bs)|none=>none)=_;rw[ih]
end
end CC
namespace DL
def T(rs:List Pt)(i:Int):Int:=0-X (cy rs (i-1)) (cy rs (i+1))
def ZaA(rs:List Pt):List Int:=(ay rs.length).map λ(i:Nat)=>T rs i
theorem Zbk:(ZaA rs).length=rs.length:=by simp[ZaA]
end DL
namespace CC
open L2 DL
end CC
namespace DL
noncomputable def del(rs:List Pt)(k:Nat):List Pt:=rs.take k++rs.drop (k+1)
section
variable {rs:List Pt}{k:Nat}{j:Int}
theorem ZqF(p q:Pt):X p q=0-X q p:=by unfold X;grind
theorem Zfu(hk:k<rs.length):(del rs k).length=rs.length-1:=by simp[del];lia
theorem Zi4(hk:k<rs.length)(h0:0<=j)(h1:j<rs.length-1):cy (del rs k) j=if j<k then cy rs j else cy rs (j+1):=by
 have hL:=Zfu hk;rw[Zg0 (by rw[hL];lia)]
 unfold del;rw[di];by_cases c1:j<k
 .rw[if_pos c1,Zg0 ⋯,di,aO (by simp;lia),fB ⋯]
 .have hl:(rs.take k).length=k:=by simp;lia
  rw[if_neg c1,Zg0 ⋯,di,aJ (by rw[hl];lia),hl,ir]
  congr 2;lia
theorem Znn(hk:k<rs.length)(hn:3<=rs.length)(hj:j=rs.length-1):cy (del rs k) j=if k=0 then cy rs (rs.length+1)else cy rs rs.length:=by
 have hL:=Zfu hk;have e:=Zlr (rs:=del rs k) (i:=j);rw[hL]at e;rw[<-e,show j-((rs.length-1:Nat):Int)=0 by lia,Zi4 hk ⋯ ⋯]
 by_cases c:k=0
 .rw[if_neg ⋯,if_pos c,<-ZeV (rs:=rs) (i:=0+1)]
  exact congrArg _ ⋯
 .rw[if_pos ⋯,if_neg c,<-ZeV (rs:=rs) (i:=0)]
  exact congrArg _ ⋯
end
noncomputable def nm(p:Pt):Int:=p.1*p.1+p.2*p.2
end DL
namespace CE
open L2 DL
open CC (Zbj F_crossed ZaZ F_following ZaG Zbu F_unspanned Za8 F_ask_smooth)
def Zdl:Sv:=(ZC (ZcT (Zj F_ask_smooth (Zd (Zi 0) aNil))) (ZR (ZaP (iR1 (Zd (Zj bLen (Zd (Zi 0) aNil)) aNil)) 1 [0] (gNm 0) (λ_ M=>.ok true M) (Zj F_crossed (Zd (Zj F_following (Zd (Zi 1) (Zd (Zi 0) aNil))) (Zd (e2 dIx (Zi 1) (e2 dSub (Zi 0) (eC (.int 1)))) aNil))))))
def F_numbers:W3:=fnF Zdl 1 0
def Za0:Sv:=(sIf (Zbz (tv (e2 dLt (Zi 1) (eC (.int 0)))) (tv (e2 dGe (Zi 1) (Zj bLen (Zd (Zi 0) aNil))))) (ZbB (PySem.Str.ofString "NoPlace") (Zd (eFs (ZbZ (eC (.str (PySem.Str.ofString "a place is from 0 to "))) (ZbZ (eFm (e2 dSub (Zj bLen (Zd (Zi 0) aNil)) (eC (.int 1)))) jNil))) aNil)) sNil)
def F_ask_place:W3:=fnF Za0 2 0
def Zbx:Sv:=(ZC (Zan (gNm 2) (Zj F_numbers (Zd (Zi 0) aNil))) (ZC (ZcT (Zj F_ask_place (Zd (Zi 0) (Zd (Zi 1) aNil)))) (ZC (sIf (Zbz (tv (e2 dNe (e2 dIx (Zi 2) (Zi 1)) (Zfe (eC (.int 1))))) (tv (e2 dLt (Zj bLen (Zd (Zi 0) aNil)) (eC (.int 4))))) (ZbB (PySem.Str.ofString "NoMinus") (Zd (eC (.str (PySem.Str.ofString "a ray of number -1 is taken out, of four rays or more"))) aNil)) sNil) (ZR (e2 dAdd (eSl (Zi 0) oNo (oSo (Zi 1))) (eSl (Zi 0) (oSo (e2 dAdd (Zi 1) (eC (.int 1)))) oNo))))))
def F_taken_out:W3:=fnF Zbx 2 1
end CE
namespace CE
open L2 DL
end CE
namespace CF
open L2 DL CC
end CF
namespace CF
open L2 DL
end CF
namespace DL
open L2 DL
end DL
namespace CB
open L2 DL
end CB
namespace DL
noncomputable def hj(t b:Int):List Int:=if h:0<b then -((-t)/b)::hj b (-((-t)/b)*b-t)else[]
termination_by b.toNat
decreasing_by
 have h1:=d9 (-t) (show b≠0 by lia)
 have h2:=dh (-t) h;have h3:=Int.emod_add_mul_ediv (-t) b;rw[Int.neg_mul,Int.mul_comm];lia
end DL
namespace CB
open L2 DL
section
variable {a:Int}{u v w:Pt}
noncomputable abbrev Bd(b:Int)(p:Pt):Prop:=(-b<=p.1/\p.1<=b)/\ -b<=p.2/\p.2<=b
structure Wg(u v:Pt):Prop where
 gu:bQ u.1 u.2=1
 gv:bQ v.1 v.2=1
 bu:Bd 1000 u
 bv:Bd 1000 v
 pos:0<X u v
theorem Wg.le(h:Wg u v):X u v<=2000000:=by
 obtain⟨_,_,⟨⟨a1,a2⟩,a3,a4⟩,⟨⟨b1,b2⟩,b3,b4⟩,_⟩:=h;have m:∀x y:Int,-1000<=x->x<=1000-> -1000<=y->y<=1000->(x*y).natAbs<=1000*1000:=by
  intro x y _ _ _ _;rw[dP];exact jJ ⋯ ⋯
 have p1:=m u.1 v.2 a1 a2 b3 b4;have p2:=m u.2 v.1 a3 a4 b1 b2;unfold X;lia
structure Fb(u v w:Pt):Prop where
 one:X u w=1
 lo:0<=X w v
 hi:X w v<X u v
theorem Fb.uniq{w:Pt}(h:Fb u v w)(k:Fb u v w'):w=w':=by
 obtain⟨h1,a1,a2⟩:=h;obtain⟨h2,b1,b2⟩:=k;have e1:w'.1=X w' w*u.1+w.1/\w'.2=X w' w*u.2+w.2:=by unfold X at *;constructor<;>grind
 have e2:X w' v=X w' w*X u v+X w v:=by
  have:X w' v=X (X w' w*u.1+w.1,X w' w*u.2+w.2) v:=by rw[<-e1.1,<-e1.2]
  rw[this];unfold X;simp only;grind
 generalize X w' w=k at *;have k0:k=0:=by
  apply iA;intro c;by_cases p:1<=k
  .have:1*X u v<=k*X u v:=dQ p ⋯
   lia
  .have:k*X u v<=(-1)*X u v:=dQ ⋯ ⋯
   lia
 rw[k0]at e1;apply eO<;>lia
noncomputable def btw:Pt->Pt->List Int->List Pt
 |_,_,[]=>[]
 |a,r,k::ks=>r::btw r (k*r.1-a.1,k*r.2-a.2) ks
end
end CB
namespace CB
open L2 DL
section
variable {a b d:Int}
def Ch:List Pt->Prop
 |a::b::r=>X a b=1/\Ch (b::r)
 |_=>True
noncomputable def Tr(a b d:Pt):Prop:=∃k:Int,2<=k/\a.1+d.1=k*b.1/\a.2+d.2=k*b.2
def Cv:List Pt->Prop
 |a::b::d::r=>Tr a b d/\Cv (b::d::r)
 |_=>True
end
end CB
namespace CA
open L2 DL
end CA
namespace CA
open L2 DL
abbrev mt(a b c d:Int):D:=.tup [pr a b,pr c d]
end CA
namespace CY
open L2 DL CA
end CY
namespace CY
open L2 DL
end CY
namespace CR
open L2 DL
def Z7:Sv:=(ZR (Zav (ZcL "int" (Zi 0)) (ZgI (ZcL "bool" (Zi 0)))))
def F_is_whole:W3:=fnF Z7 1 0
def ZaJ:Sv:=(ZgJ 2 3 (Zd (Zi 3) (Zd (e2 dMod (Zi 2) (Zi 3)) aNil)))
def Za9:Sv:=(ZC (ZgJ 2 3 (Zd (Zj bAbs (Zd (Zi 0) aNil)) (Zd (Zj bAbs (Zd (Zi 1) aNil)) aNil))) (ZC (sWh (tv (e2 dNe (Zi 3) (eC (.int 0)))) ZaJ) (ZR (Zi 2))))
def F_greatest_divisor:W3:=fnF Za9 2 2
def Zfv:Sv:=(ZC (sIf (Zbz (ZY (tv (Zj F_is_whole (Zd (Zi 0) aNil)))) (ZY (tv (Zj F_is_whole (Zd (Zi 1) aNil))))) (ZbB (PySem.Str.ofString "NoRatio") (Zd (eC (.str (PySem.Str.ofString "a ratio is made of two whole numbers"))) aNil)) sNil) (ZC (sIf (tv (e2 dEq (Zi 1) (eC (.int 0)))) (ZbB (PySem.Str.ofString "NoRatio") (Zd (eC (.str (PySem.Str.ofString "the bottom of a ratio is not 0"))) aNil)) sNil) (ZC (Zan (gNm 2) (Zj F_greatest_divisor (Zd (Zi 0) (Zd (Zi 1) aNil)))) (ZC (sIf (tv (e2 dLt (Zi 1) (eC (.int 0)))) (Zan (gNm 2) (Zfe (Zi 2))) sNil) (ZR (ZaK (Zd (e2 dDiv (Zi 0) (Zi 2)) (Zd (e2 dDiv (Zi 1) (Zi 2)) aNil))))))))
def F_ratio:W3:=fnF Zfv 2 1
def Zi5:Sv:=(ZR (Zj F_ratio (Zd (e2 dAdd (e2 dMul (e2 dIx (Zi 0) (eC (.int 0))) (e2 dIx (Zi 1) (eC (.int 1)))) (e2 dMul (e2 dIx (Zi 1) (eC (.int 0))) (e2 dIx (Zi 0) (eC (.int 1))))) (Zd (e2 dMul (e2 dIx (Zi 0) (eC (.int 1))) (e2 dIx (Zi 1) (eC (.int 1)))) aNil))))
def F_plus:W3:=fnF Zi5 2 0
def Zfw:Sv:=(ZR (Zj F_ratio (Zd (e2 dMul (e2 dIx (Zi 0) (eC (.int 0))) (e2 dIx (Zi 1) (eC (.int 0)))) (Zd (e2 dMul (e2 dIx (Zi 0) (eC (.int 1))) (e2 dIx (Zi 1) (eC (.int 1)))) aNil))))
def F_times:W3:=fnF Zfw 2 0
def Zcc:Sv:=(ZR (Zav (ZcL "int" (Zi 0)) (ZgI (ZcL "bool" (Zi 0)))))
def F_law_whole:W3:=fnF Zcc 1 0
end CR
namespace CR
open L2 DL
abbrev rt(q:Rat):D:=pr q.num (q.den:Int)
noncomputable def Sz(k:Nat)(q:Rat):Prop:=q.num.natAbs<2^k/\q.den<2^k
theorem Zno:F_greatest_divisor=FGcd:=rfl
theorem Zly(h:0<j)(hk:j.natAbs<2^k)(hk2:k<=8000):wO (dDiv (.int i) (.int j) M) Q E=Q (.int (i/j)) M:=by
 have:Zbb j:=⟨⋯,by
  have:j.natAbs.log2<k:=(jH ⋯).mpr hk
  lia⟩
 show wO (if Zbb j then _ else _) Q E=_
 rw[if_pos this,iy _ ⋯];rfl
theorem Znp(hb:b≠0):rt (ku t b hb)=pr (t/(bQ t b:Nat)) ((b:Int)/(bQ t b:Nat)):=by
 unfold rt;rw[Rat.num_normalize,Rat.den_normalize,Int.natCast_ediv];rfl
theorem ZqG{b:Nat}(hb:b≠0)(h:b<2^k):0<bQ t b/\bQ t b<2^k:=by
 have h1:bQ t b ∣ b:=Int.gcd_dvd_natAbs_right t b;have h2:=Nat.le_of_dvd ⋯ h1
 have h3:bQ t b≠0:=λz=>by
  rw[z]at h1;exact hb (Nat.eq_zero_of_zero_dvd h1)
 lia
theorem Zi6{b:Nat}(hb:b≠0)(h:b<2^k)(hk:k<=8000):wO (F_ratio [.int t,.int b] M) Q E=Q (rt (ku t b hb)) M:=by
 obtain⟨g0,g1⟩:=ZqG (t:=t) hb h;have gw:∀{Q:W0},wO (FGcd [.int t,.int b] M) Q E=Q (.int (bQ t b:Nat)) M:=by
  intro Q;rw[ZiV];rfl
 rw[Znp hb];generalize bQ t b=g at *;simp![F_ratio,Zfv,F_is_whole,Z7,Zno,gw];rw[Zly (k:=k) ⋯ (by simpa using g1) hk]
 simp![Zm];rw[Zly (k:=k) ⋯ (by simpa using g1) hk]
 simp![Zm]
theorem Zi7(hb:b≠0)(ht:t.natAbs<2^k)(h:b<2^k):Sz k (ku t b hb):=by
 refine⟨?_,?_⟩
 .rw[Rat.num_normalize];exact im (Int.natAbs_ediv_le_natAbs _ _) ht
 .rw[Rat.den_normalize];exact im (Nat.div_le_self _ _) h
theorem ZcP(hx:x<2^k)(hy:y<2^l):x*y<2^(k+l):=by
 rw[Nat.pow_add];exact Nat.mul_lt_mul'' hx hy
theorem Zgk(hp:Sz k p)(hq:Sz l q)(hk:k+l<=8000):wO (F_plus [rt p,rt q] M) Q E=Q (rt (p+q)) M:=by
 have nz:p.den*q.den≠0:=Nat.mul_ne_zero p.den_nz q.den_nz;have f1:ZN p.num (q.den:Int):=Z6 k l hp.1 (by simpa using hq.2) ⋯ ⋯
 have f2:ZN q.num (p.den:Int):=Z6 l k hq.1 (by simpa using hp.2) ⋯ ⋯
 have f3:ZN (p.den:Int) (q.den:Int):=Z6 k l (by simpa using hp.2) (by simpa using hq.2) ⋯ ⋯
 simp![F_plus,Zi5,Zaa f1,Zaa f2,Zaa f3];rw[show(p.den:Int)*(q.den:Int)=((p.den*q.den:Nat):Int)by simp,Zi6 nz (ZcP hp.2 hq.2) hk,<-Rat.add_def]
theorem Zfx(hp:Sz k p)(hq:Sz l q)(hk:k+l<=8000):wO (F_times [rt p,rt q] M) Q E=Q (rt (p*q)) M:=by
 have nz:p.den*q.den≠0:=Nat.mul_ne_zero p.den_nz q.den_nz;have f1:ZN p.num q.num:=Z6 k l hp.1 hq.1 ⋯ ⋯
 have f3:ZN (p.den:Int) (q.den:Int):=Z6 k l (by simpa using hp.2) (by simpa using hq.2) ⋯ ⋯
 simp![F_times,Zfw,Zaa f1,Zaa f3];rw[show(p.den:Int)*(q.den:Int)=((p.den*q.den:Nat):Int)by simp,Zi6 nz (ZcP hp.2 hq.2) hk,<-Rat.mul_def]
theorem Zgl(hp:Sz k p)(hq:Sz l q):Sz (k+l) (p*q):=by
 rw[Rat.mul_def];exact Zi7 _ (by rw[dP];exact ZcP hp.1 hq.1) (ZcP hp.2 hq.2)
theorem Zgm(hp:Sz k p)(hq:Sz l q):Sz (k+l+1) (p+q):=by
 rw[Rat.add_def];have h1:=ZcP hp.1 hq.2;have h2:=ZcP hq.1 hp.2;have h3:=ZcP hp.2 hq.2;rw[Nat.add_comm l k]at h2;refine Zi7 _ ?_ ?_
 .have e1:(p.num*(q.den:Int)).natAbs=p.num.natAbs*q.den:=by rw[dP];rfl
  have e2:(q.num*(p.den:Int)).natAbs=q.num.natAbs*p.den:=by rw[dP];rfl
  have:=Int.natAbs_add_le (p.num*(q.den:Int)) (q.num*(p.den:Int))
  rw[k7];lia
 .rw[k7];lia
end CR
namespace CH
open L2 DL CA CR
end CH
namespace CH
open L2 DL
open CR (rt Sz)
def rts(hs:List Rat):List D:=hs.map rt
theorem ZE:(rts hs).length=hs.length:=aC _
theorem Zai:rts hs++[rt q]=rts (hs++[q]):=by simp[rts]
end CH
namespace CS
open L2 DL CC CR
def ZbM:Sv:=(sIf (tv (e2 dNe (Zj bLen (Zd (Zi 1) aNil)) (Zj bLen (Zd (Zi 0) aNil)))) (ZbB (PySem.Str.ofString "NoHeight") (Zd (eFs (ZbZ (eC (.str (PySem.Str.ofString "a height of "))) (ZbZ (eFm (Zj bLen (Zd (Zi 0) aNil))) (ZbZ (eC (.str (PySem.Str.ofString " rays has not "))) (ZbZ (eFm (Zj bLen (Zd (Zi 1) aNil))) (ZbZ (eC (.str (PySem.Str.ofString " ratios"))) jNil)))))) aNil)) sNil)
def F_ask_height:W3:=fnF ZbM 2 0
end CS
namespace CS
open L2 DL
open CR (rt Sz)
theorem Zlz(z:Int):pr z 1=rt (z:Rat):=by
 unfold rt;rw[Rat.num_intCast,Rat.den_intCast];rfl
theorem Zgn{z:Int}(h:z.natAbs<2^k)(hk:1<=k):Sz k (z:Rat):=by
 refine⟨by rw[Rat.num_intCast];exact h,by rw[Rat.den_intCast];exact Nat.one_lt_two_pow ⋯⟩
end CS
namespace CN
open L2 DL
open CE (F_numbers)
open CC (F_following)
open CR (F_plus F_times)
open CS (F_ask_height)
def ZcH:Sv:=(ZC (Zan (gNm 6) (Zj F_plus (Zd (e2 dIx (Zi 1) (e2 dSub (Zi 4) (eC (.int 1)))) (Zd (Zj F_following (Zd (Zi 1) (Zd (Zi 4) aNil))) aNil)))) (ZcT (Zj9 mApp (Zi 3) (Zd (Zj F_plus (Zd (Zi 6) (Zd (Zj F_times (Zd (ZaK (Zd (e2 dIx (Zi 2) (Zi 4)) (Zd (eC (.int 1)) aNil))) (Zd (Zi 5) aNil))) aNil))) aNil))))
def Zfy:Sv:=(ZC (Zan (gNm 2) (Zj F_numbers (Zd (Zi 0) aNil))) (ZC (ZcT (Zj F_ask_height (Zd (Zi 0) (Zd (Zi 1) aNil)))) (ZC (Zan (gNm 3) (ZcY aNil)) (ZC (Zdy (gTp (gCs (gNm 4) (gCs (gNm 5) gNl))) (iEn (Zd (Zi 1) aNil)) ZcH) (ZR (Zi 3))))))
def F_bends:W3:=fnF Zfy 2 5
end CN
namespace CN
open L2 DL
open CR (rt Sz)
open CH (rts ZE Zai)
noncomputable def cq(hs:List Rat)(i:Int):Rat:=hs.getD (i%hs.length).toNat 0
theorem Zgo(h: -(hs.length:Int)<=i/\i<hs.length):atI (rts hs) i=some (rt (cq hs i)):=by
 unfold atI;rw[ZE,ZiX h];have hp:(i%hs.length).toNat<hs.length:=by
  have:=dh i (show(0:Int)<hs.length by lia)
  have:=d9 i (show(hs.length:Int)≠0 by lia)
  lia
 simp[rts,cq,aq hp]
theorem Zgp:cq hs (i%hs.length)=cq hs i:=by unfold cq;rw[jI _ (Int.dvd_refl _)]
theorem Ze1{hs:List Rat}(h:k<hs.length):cq hs k=hs[k]:=by
 unfold cq;rw[dA ⋯ ⋯]
 simp[aq h]
theorem ZcV(h:∀x∈hs,Sz k x)(hn:hs.length≠0):Sz k (cq hs i):=by
 unfold cq
 have:=(Zca (i:=i) hn).1
 rw[di,aq this];exact h _ (bW this)
theorem Zbe(h:i<(rts hs).length):(rts hs)[i]=rt (cq hs i):=by
 rw[ZE]at h;rw[Ze1 h];simp[rts]
def bnd(rs:List Pt)(hs:List Rat)(i:Int):Rat:=cq hs (i-1)+cq hs (i+1)+(T rs i:Rat)*cq hs i
def bds(rs:List Pt)(hs:List Rat)(n:Nat):List Rat:=(ay n).map λ(i:Nat)=>bnd rs hs i
theorem Zd9:(bds rs hs n).length=n:=by simp[bds]
theorem Zea:bds rs hs (n+1)=bds rs hs n++[bnd rs hs n]:=by simp[bds,fN]
section
variable {Q:W0}
theorem Zi8(h:M[n]?=some (.lst (rts hs)))(hi:0<=i/\i<hs.length):wO (CC.F_following [.ref n,.int i] M) Q E=Q (rt (cq hs (i+1))) M:=by
 have e:=Zca (i:=i+1) (m:=hs.length) ⋯
 simp![CC.F_following,CC.ZaZ,h,Zgo,Zgp,ZE]
theorem ZbN(h:M[n]?=some (.lst (prs rs)))(h':M[m]?=some (.lst (rts hs)))(e:hs.length=rs.length)(q:Q .non M):wO (CS.F_ask_height [.ref n,.ref m] M) Q E:=by
 simp![CS.F_ask_height,CS.ZbM,h,h',ZE,e];exact q
end
end CN
namespace CN
open L2 DL
open CR (rt Sz)
open CH (rts ZE Zai)
end CN
namespace CN
open L2 DL
open CR (rt Sz)
open CH (rts ZE Zai)
end CN
namespace CU
open L2 DL
open CC (F_ask_smooth)
open CS (F_ask_height)
end CU
namespace CU
open L2 DL
open CR (rt Sz)
open CH (rts ZE Zai)
open CN CS
def thr(rs:List Pt)(hs:List Rat):Rat×Rat:=(cq hs 0*(cy rs 1).2-cq hs 1*(cy rs 0).2,cq hs 1*(cy rs 0).1-cq hs 0*(cy rs 1).1)
abbrev rp(m:Rat×Rat):D:=.tup [rt m.1,rt m.2]
theorem ZqH(h:rt p=rt q):p=q:=by
 unfold rt pr at h;injection h with h;injection h with h1 h;injection h with h2;injection h1 with h1;injection h2 with h2;exact Rat.ext h1 ⋯
theorem Znq:rts xs=rts ys↔xs=ys:=by
 refine⟨λh=>?_,λh=>by rw[h]⟩
 induction xs generalizing ys with
 |nil=>cases ys with
  |nil=>rfl
  |cons y ys=>simp[rts]at h
 |cons x xs ih=>
  cases ys with
  |nil=>simp[rts]at h
  |cons y ys=>
   simp only[rts,aN,ja]at h;rw[ZqH h.1,ih h.2]
theorem Zeb:rts hs=prs (hs.map λq=>(q.num,(q.den:Int))):=by
 simp[rts,prs]
theorem ZqI{xs:List Rat}:xs.map (λq=>(q.num,(q.den:Int)))=ys.map (λq=>(q.num,(q.den:Int)))↔xs=ys:=by
 refine⟨λh=>?_,λh=>by rw[h]⟩
 rw[<-Znq,Zeb,Zeb,h]
section
variable {m:Nat}
theorem Ztf(h1:M[n]?=some (.lst (rts xs)))(h2:M[m]?=some (.lst (rts ys))):eqF (k+3) M (.ref n) (.ref m)=some (decide (xs=ys)):=by
 rw[Zp0 h1 h2,Zeb,Zeb,Zls];by_cases e:xs=ys
 .subst e;simp
 .rw[decide_eq_false e];split
  .rw[decide_eq_false (λz=>e (ZqI.mp z))]
  .rfl
theorem ZqJ(h1:M[n]?=some (.lst (prs rs))){ss:List Pt}(h2:M[m]?=some (.lst (prs ss))):eqF (k+3) M (.ref n) (.ref m)=some (decide (rs=ss)):=by
 rw[Zp0 h1 h2,Zls];by_cases e:rs=ss
 .subst e;simp
 .rw[decide_eq_false e]
  split<;>rfl
theorem Zvw:eqF (k+2) M (rt p) (rt q)=some (decide (p=q)):=by
 rw[show eqF (k+2) M (rt p) (rt q)=some (decide ((p.num,(p.den:Int))=(q.num,(q.den:Int))))from Zrp];congr 1;apply decide_eq_decide.mpr;exact⟨λh=>Rat.ext (congrArg (·.1) h) (by have:=congrArg (·.2) h;simp only at this;lia),λh=>by subst h;rfl⟩
theorem Ztg(h:M[n]?=some (.lst ds)):wO (bTup [.ref n] M) Q E=Q (.tup ds) M:=by
 unfold bTup Zrk;simp only[Zej,h,wO]
theorem Znr{F:Nat->Rat}(h1:xs.length=n)(h:∀i<n,F i=cq xs i):(ay n).map (λ(i:Nat)=>rt (F i))=rts xs:=by
 apply List.ext_getElem
 .rw[ZE,h1];simp
 .intro i hi hi';simp at hi;rw[Zbe];simp[h i hi]
end
end CU
namespace CV
open L2 DL
open CR (rt Sz)
open CH (rts ZE Zai)
open CN CU CS
noncomputable def Kp(M M':Sto):Prop:=M.length<=M'.length/\∀j<M.length,M'[j]?=M[j]?
section
variable {M' M1 M2:Sto}{j:Nat}
theorem Kp.get(k:Kp M M')(h:M[j]?=some o):M'[j]?=some o:=(k.2 _ (Zas h)).trans h
theorem Kp.refl:Kp M M:=⟨ac _,λ_ _=>rfl⟩
theorem Kp.trans(a:Kp M M1)(b:Kp M1 M2):Kp M M2:=⟨aQ a.1 b.1,λj h=>(b.2 j (aF h a.1)).trans (a.2 j h)⟩
theorem Kp.app:Kp M (M++L):=⟨by simp,λj h=>Zcp h⟩
theorem Kp.set(a:Kp M M1)(h:M.length<=j):Kp M (M1.set j o):=⟨by rw[cJ];exact a.1,λi hi=>by rw[aU ⋯];exact a.2 i hi⟩
end
theorem Zec(h:Sz a x)(hab:a<=b):Sz b x:=⟨aF h.1 (dC (by decide) hab),aF h.2 (dC (by decide) hab)⟩
theorem Zth(ru:M[mu]?=some (.lst (rts u)))(rv:M[mv]?=some (.lst (rts v)))(lu:u.length=N)(lv:v.length=N)(hN:N<=1000)(lz:zs.length=N)(hf:∀(i:Nat),i<N->∀L,wO (f [some (rt (cq u i)),some (rt (cq v i))] (M++L)) (λy M2=>y=rt (cq zs i)/\M2=M++L) (λ_ _=>False))(q:Q (.ref M.length) (M++[.lst (rts zs)])):kCo (gTp (gCs (gNm 0) (gCs (gNm 1) gNl))) (λ_ M=>.ok true M) f 2 [] ρ Q (.zip mu mv) M:=by
 have hz:(bJ (λa b=>D.tup [a,b]) (rts u) (rts v)).length=N:=by simp[ZE];lia
 have hu:=Zas ru;have hv:=Zas rv;refine Znm (xs:=bJ (λa b=>D.tup [a,b]) (rts u) (rts v)) (λρ=>∃x y,ρ=[x,y]) (λ(i:Nat)=>rt (cq zs i)) ⋯ (by rw[ZcG ru,hz,ZE];lia) ⟨_,_,rfl⟩ (λL i hi=>?_) ?_ (by rw[hz,Znr (xs:=zs) lz (λi hi=>rfl)];exact q)
 .rw[Zdj (by rw[Zcp hu];exact ru) (by rw[Zcp hv];exact rv)]
 .rintro i hi ρ L ⟨x,y,rfl⟩;rw[hz]at hi;rw[dB,Zbe,Zbe];simp![Zm];exact⟨⟨_,_,rfl⟩,hf i hi L⟩
end CV
namespace CW
open L2 DL
open CE (F_numbers F_taken_out)
end CW
namespace CW
open L2 DL
open CV
end CW
namespace CB
open L2 DL
noncomputable def fbv(u v:Pt):Pt:=@dite _ (∃w,Fb u v w) (Classical.propDecidable _) (λh=>h.choose) (λ_=>(0,0))
def seg(u v:Pt):List Pt:=u::btw u (fbv u v) (hj (X u v) (X (fbv u v) v))
def Zti:List Pt->List Pt
 |a::b::r=>seg a b++Zti (b::r)
 |_=>[]
def lrd(rs:List Pt):List Pt:=Zti (rs++rs.take 1)
end CB
namespace CL
open L2 DL
open CC (F_following)
end CL
namespace CL
open L2 DL
open CV CB
end CL
namespace TW
open DL
noncomputable def nx(b:Int)(p q:Pt):Pt:=(0-b*q.1-p.1,0-b*q.2-p.2)
noncomputable def ng(p:Pt):Pt:=(0-p.1,0-p.2)
def run(p q:Pt):List Int->Pt×Pt
 |[]=>(p,q)
 |b::bs=>run q (nx b p q) bs
def ew(p q:Pt):Nat:=in1 (1,0) p q+in1 (-1,0) p q
noncomputable def st(a:Pt):Int:=if 0<a.2\/(a.2=0/\a.1<0)then 1 else 0
end TW
namespace TW
open DL
section
variable {rs:List Pt}
def Zvx(rs:List Pt):Int->Nat->List Int
 |_,0=>[]
 |i,k+1=>T rs (i+1)::Zvx rs (i+1) k
def sf(f:Pt->Pt->Nat)(rs:List Pt):Int->Nat->Nat
 |_,0=>0
 |i,k+1=>f (cy rs i) (cy rs (i+1))+sf f rs (i+1) k
theorem Ztj(hn:rs≠[]):∀(k i:Nat),i+k=rs.length->cc f ((rs++rs.take 1).drop i)=sf f rs i k:=by
 have l0:0<rs.length:=kc.mpr hn;have ga:∀i:Nat,i<=rs.length->(rs++rs.take 1)[i]?=some (cy rs i):=by
  intro i hi;by_cases c:i<rs.length
  .rw[aO c,Zg0 ⋯,Zcr ⋯,aq c]
   simp
  .have:i=rs.length:=⋯
   subst this;rw[aJ (ac _),c7,<-Zlr,Int.sub_self,Zg0 ⋯,Zcr ⋯]
   rw[fB (by decide),aq ⋯]
   simp
 have lch:(rs++rs.take 1).length=rs.length+1:=by simp;lia
 have dr:∀i:Nat,i<=rs.length->(rs++rs.take 1).drop i=cy rs i::(rs++rs.take 1).drop (i+1):=by
  intro i hi;rw[cj ⋯]
  have:=ga i hi
  rw[aq ⋯]at this
  rw[a9 this]
 intro k
 induction k with
 |zero=>
  intro i hi;rw[dr i ⋯,dX ⋯]
  rfl
 |succ k ih=>
  intro i hi
  have:=ih (i+1) ⋯
  rw[dr i ⋯]
  rw[dr (i+1) ⋯]at this ⊢
  rw[cc,this,sf];rfl
theorem ZqK(hn:rs≠[]):cyc f rs=sf f rs 0 rs.length:=by
 have:=Ztj (f:=f) hn rs.length 0 ⋯
 exact this
end
end TW
namespace CT
open L2 DL
end CT
namespace CT
open L2 DL
open CV TW
section
variable {L:List Int}
def Cl(L:List Int):Prop:=run (1,0) (0,1) L=((1,0),(0,1))
instance (L:List Int):Decidable (Cl L):=by unfold Cl;infer_instance
end
end CT
namespace CT
open L2 DL
open CV
open TW (nx)
end CT
namespace DL
open CB (Wg Bd)
section
variable {rs:List Pt}
theorem ZkL(hl:rs≠[])(h:cyc f rs=0)(i:Int):f (cy rs i) (cy rs (i+1))=0:=by
 have l0:rs.length≠0:=λz=>hl (List.length_eq_zero_iff.mp z);refine Zft (P:=λa b=>f a b=0) l0 ?_ i;intro i h0 h1;rw[TW.ZqK hl]at h
 have:∀(k:Nat)(j:Int),TW.sf f rs j k=0->∀m:Nat,m<k->f (cy rs (j+m)) (cy rs (j+m+1))=0:=by
  intro k
  induction k with
  |zero=>intro j _ m hm;lia
  |succ k ih=>
   intro j h m hm;rw[TW.sf]at h;cases m with
   |zero=>
    rw[show j+((0:Nat):Int)=j by lia]
    lia
   |succ m=>
    have:=ih (j+1) ⋯ m ⋯
    rw[show j+((m+1:Nat):Int)=j+1+m by lia]
    exact this
 have:=this rs.length 0 h i.toNat ⋯
 rw[show(0:Int)+(i.toNat:Nat)=i by lia]at this
 exact this
def nxp(a b:Pt):Nat:=if 0<X a b then 0 else 1
theorem Ztk(h:nxp a b=0):0<X a b:=by
 unfold nxp at h
 split at h
 .assumption
 .lia
structure Rn(rs:List Pt):Prop where
 len:3<=rs.length
 ps:cyc nxp rs=0
 gc:∀p∈rs,bQ p.1 p.2=1
 fan:Fan rs
theorem Rn.ne(h:Rn rs):rs≠[]:=by
 intro z
 have:=h.len
 rw[z]at this;simp at this
theorem Rn.pos(h:Rn rs)(i:Int):0<X (cy rs i) (cy rs (i+1)):=Ztk (ZkL h.ne h.ps i)
theorem ZqL{p:Pt}(h:p∈rs):∃i:Int,p=cy rs i:=by
 obtain⟨L,R,rfl⟩:=List.append_of_mem h;exact⟨L.length,Zte.symm⟩
end
end DL
namespace CZ
open L2 DL
end CZ
namespace DL
open TW
open CT (Cl)
end DL
namespace CB
open DL
section
variable {u v w:Pt}
def kl:List Pt->List Int
 |a::b::d::r=>X a d::kl (b::d::r)
 |_=>[]
theorem Xvv(p:Pt):X p p=0:=by unfold X;grind
theorem Ztl:∀(r:List Pt)(a b:Pt)(v:Pt),Ch (a::b::r)->Cv (a::b::r)->(b::r).getLast (by simp)=v->0<=X b v/\X b v<X a v
 |[],a,b,v,h,_,e=>by
  have:b=v:=e
  subst this;rw[Xvv,h.1];lia
 |c::r,a,b,v,h,k,e=>by
  have ih:=Ztl r b c v h.2 k.2 (by rw[<-e];simp[List.getLast_cons])
  obtain⟨m,m2,e1,e2⟩:=k.1;have ex:X a v+X c v=m*X b v:=by unfold X;grind
  have:2*X b v<=m*X b v:=dQ m2 ⋯
  lia
theorem Zns(hb:0<b)(h0:0<=c)(h1:c<b)(e:t+c=k*b): -((-t)/b)=k:=by
 have: -t=c+b*(-k):=by grind
 rw[this,Int.add_mul_ediv_left _ _ ⋯,Int.ediv_eq_zero_of_lt h0 h1]
 lia
theorem only:∀(ws:List Pt)(u v w:Pt),Ch (u::(ws++[v]))->Cv (u::(ws++[v]))->Fb u v w->ws=btw u w (hj (X u v) (X w v))/\kl (u::(ws++[v]))=hj (X u v) (X w v)
 |[],u,v,w,h,k,f=>by
  have h1:X u v=1:=h.1;have l:=f.lo;have l2:=f.hi;have w0:X w v=0:=⋯
  rw[w0];unfold hj;rw[dif_neg (by decide)]
  exact⟨rfl,rfl⟩
 |x::ws,u,v,w,h,k,f=>by
  have hl:(x::(ws++[v])).getLast (by simp)=v:=by simp[List.getLast_cons]
  have d:=Ztl (ws++[v]) u x v h k hl;have fx:Fb u v x:=⟨h.1,d.1,d.2⟩;have ew:=fx.uniq f;subst ew;obtain⟨y,R,eR⟩:∃y R,ws++[v]=y::R:=by
   cases ws with
   |nil=>exact⟨v,[],rfl⟩
   |cons y R=>exact⟨y,R++[v],rfl⟩
  have h':Ch (x::y::R):=by rw[<-eR];exact h.2
  have kk:Cv (u::x::y::R):=by rw[<-eR];exact k
  have hl2:(y::R).getLast (by simp)=v:=by
   have:(ws++[v]).getLast (by simp)=v:=by simp
   simpa [eR]using this
  have d2:=Ztl R x y v h' kk.2 hl2;obtain⟨m,m2,e1,e2⟩:=kk.1;have ex:X u v+X y v=m*X x v:=by unfold X;grind
  have hc:=Zns ⋯ d2.1 d2.2 ex
  have ey:(m*x.1-u.1,m*x.2-u.2)=y:=by apply eO<;>simp only<;>lia
  have m3:X u y=m:=by
   have:=h.1
   rw[<-ey];unfold X at *;simp only;grind
  have fy:Fb x v y:=⟨h'.1,d2.1,d2.2⟩;have ih:=only ws x v y (by rw[eR];exact h') (by rw[eR];exact kk.2) fy
  have ej:hj (X u v) (X x v)=m::hj (X x v) (X y v):=by
   rw[hj,dif_pos ⋯,hc]
   congr 2;lia
  rw[ej];constructor
  .rw[btw,ey,<-ih.1]
  .show kl (u::x::(ws++[v]))=_;rw[eR,kl,m3,<-eR,ih.2]
end
end CB
namespace CD
open L2 DL
open CC (F_ask_smooth)
def Zi9:Sv:=(ZR (e2 dLt (e2 dMul (e2 dIx (Zi 0) (eC (.int 0))) (e2 dIx (Zi 1) (eC (.int 1)))) (e2 dMul (e2 dIx (Zi 1) (eC (.int 0))) (e2 dIx (Zi 0) (eC (.int 1))))))
def F_less:W3:=fnF Zi9 2 0
end CD
namespace CD
open L2 DL
open CV
open CB (Bd)
open CR (rt Sz)
open CH (rts ZE Zai)
noncomputable abbrev tb(a b c d:Int):SO:=.lst [.int a,.int b,.int c,.int d]
end CD
namespace CD
open L2 DL
open CV
open CB (Bd)
open CR (rt Sz)
open CH (rts ZE Zai)
noncomputable def gg(a b c d:Int)(p:Pt):Pt:=(a*p.1+b*p.2,c*p.1+d*p.2)
theorem ZlA(u v:Pt):X (gg a b c d u) (gg a b c d v)=(a*d-b*c)*X u v:=by unfold X gg;simp only;grind
noncomputable def sg{α:Type}(neg:Bool)(k:Nat)(L:List α):List α:=(if neg then L.reverse else L).drop k++(if neg then L.reverse else L).take k
end CD
namespace CD
open L2 DL
open CV CN CU CS
open CR (rt Sz)
open CH (rts ZE Zai)
end CD
namespace DL
open TW
open CN (cq bnd Ze1 Zgp)
end DL
namespace CO
open L2 DL
open CC (F_following)
open CN (F_bends)
open CD (F_less)
end CO
namespace CO
open L2 DL
open CV CN CU CS CD
open CR (rt Sz)
open CH (rts ZE Zai)
theorem Zt9(h1:X p q=1)(h2:X q r=1):p.1+r.1=X p r*q.1/\p.2+r.2=X p r*q.2:=by
 unfold X at *
 constructor<;>grind
end CO
namespace CQ
open L2 DL
end CQ
namespace CQ
open L2 DL
open CV
open CB (Bd)
open CD (gg ZlA sg tb)
end CQ
namespace CQ
open L2 DL
open CV
open CB (Bd)
open CD (gg ZlA sg tb)
end CQ
namespace CQ
open L2 DL
open CV
open CB (Bd)
open CD (gg ZlA sg tb)
noncomputable def shp(p:Pt):Pt:=if bQ p.1 p.2=0 then(1,0)else(p.1/bQ p.1 p.2,p.2/bQ p.1 p.2)
theorem Znt(p:Pt):bQ (shp p).1 (shp p).2=1:=by
 unfold shp;split
 .rfl
 .exact Int.gcd_ediv_gcd_ediv_gcd ⋯
theorem Zdm{p:Pt}(h:p≠(0,0)):∃g:Int,0<g/\p=(g*(shp p).1,g*(shp p).2):=by
 have ng:bQ p.1 p.2≠0:=λz=>h (by
  obtain⟨h1,h2⟩:=Int.gcd_eq_zero_iff.mp z;exact eO h1 h2)
 refine⟨bQ p.1 p.2,⋯,?_⟩
 unfold shp;rw[if_neg ng];exact eO (jK (Int.gcd_dvd_left ..)).symm (jK (Int.gcd_dvd_right ..)).symm
theorem Zrt{k:Int}(hk:0<k):0<k*y↔0<y:=by
 refine⟨λh=>?_,λh=>gN hk h⟩;by_cases c:0<y
 .exact c
 .have:=jL (a:=k) (b:=0-y) ⋯ ⋯
  rw[iF,hO]at this;lia
theorem Zja{f g:Pt->Pt->Nat}:∀{L:List Pt},(∀a∈L,∀b∈L,f a b=g a b)->cc f L=cc g L
 |[],_=>rfl
 |[_],_=>rfl
 |a::b::r,h=>by
  have ih:=Zja (L:=b::r) λx hx y hy=>h x (aL _ hx) y (aL _ hy);show f a b+cc f (b::r)=g a b+cc g (b::r);rw[ih,h a (by simp) b (by simp)]
theorem Zed(h:∀a∈L,∀b∈L,f a b=g a b):cyc f L=cyc g L:=by
 refine Zja λa ha b hb=>h a ?_ b ?_
 .rcases cV.mp ha with ha|ha
  .exact ha
  .exact gP ha
 .rcases cV.mp hb with hb|hb
  .exact hb
  .exact gP hb
theorem Rn.led(h:Rn rs)(hd:0<a*d-b*c):Rn (rs.map λp=>shp (gg a b c d p)):=by
 have nz:∀p∈rs,gg a b c d p≠(0,0):=λp hp z=>by
  obtain⟨i,rfl⟩:=ZqL hp
  have:=h.pos i
  have e:=ZlA (a:=a) (b:=b) (c:=c) (d:=d) (cy rs i) (cy rs (i+1));rw[z]at e;have e0:X (0,0) (gg a b c d (cy rs (i+1)))=0:=by unfold X;simp only;grind
  rw[e0]at e
  have:=gN hd this
  lia
 have xs:∀p∈rs,∀q∈rs,∃k:Int,0<k/\k*X (shp (gg a b c d p)) (shp (gg a b c d q))=(a*d-b*c)*X p q:=λp hp q hq=>by
  obtain⟨k,hk,ek⟩:=Zdm (nz p hp);obtain⟨l,hl,el⟩:=Zdm (nz q hq);refine⟨k*l,gN hk hl,?_⟩;rw[<-ZlA];generalize shp (gg a b c d p)=u at *;generalize shp (gg a b c d q)=v at *;rw[ek,el];unfold X;simp only;grind
 refine⟨by rw[aC];exact h.len,?_,?_,?_⟩
 .rw[Zdk,Zed (g:=nxp)]
  .exact h.ps
  .intro p hp q hq;obtain⟨k,hk,e⟩:=xs p hp q hq
   have:(0<X (shp (gg a b c d p)) (shp (gg a b c d q)))=(0<X p q):=by
    rw[<-propext (Zrt hk),e,propext (Zrt hd)]
   unfold nxp;simp only[this]
 .intro p hp;obtain⟨q,-,rfl⟩:=dy.mp hp;exact Znt _
 .intro w hw;have key:∀q∈rs,∃k:Int,0<k/\k*X (shp (gg a b c d q)) w=X q (d*w.1-b*w.2,a*w.2-c*w.1):=λq hq=>by
   obtain⟨k,hk,ek⟩:=Zdm (nz q hq);refine⟨k,hk,?_⟩;generalize shp (gg a b c d q)=u at *;have e1:=congrArg Prod.fst ek;have e2:=congrArg Prod.snd ek;unfold gg at e1 e2;simp only at e1 e2;unfold X;simp only;grind
  have hw':(d*w.1-b*w.2,a*w.2-c*w.1)≠(0,0):=λz=>hw (by
   have z1:=congrArg Prod.fst z;have z2:=congrArg Prod.snd z;simp only at z1 z2;have f1:(a*d-b*c)*w.1=0:=by grind
   have f2:(a*d-b*c)*w.2=0:=by grind
   have g1:=(Int.mul_eq_zero.mp f1).resolve_left ⋯
   have g2:=(Int.mul_eq_zero.mp f2).resolve_left ⋯
   exact eO g1 g2)
  have hf:=h.fan _ hw';generalize (d*w.1-b*w.2,a*w.2-c*w.1)=w' at *;have sg:∀q∈rs,(0<=X (shp (gg a b c d q)) w)=(0<=X q w')/\(0<X (shp (gg a b c d q)) w)=(0<X q w')/\(0<=X w (shp (gg a b c d q)))=(0<=X w' q)/\(0<X w (shp (gg a b c d q)))=(0<X w' q):=λq hq=>by
   obtain⟨k,hk,e⟩:=key q hq;have s1:=Zrs (p:=w) (q:=shp (gg a b c d q));have s2:=Zrs (p:=w') (q:=q);generalize X (shp (gg a b c d q)) w=y at *;generalize X q w'=z at *;rw[s1,s2,<-e];refine⟨propext ⟨λh=>jL ⋯ h,λh=>gF h hk⟩,(propext (Zrt hk)).symm,propext ⟨λh=>?_,λh=>?_⟩,propext ⟨λh=>?_,λh=>?_⟩⟩
   .have:=jL (a:=k) (b:=0-y) ⋯ h
    rw[iF,hO]at this;exact this
   .have:0<=k*(0-y):=by rw[iF,hO];exact h
    exact gF this hk
   .have:=gN (a:=k) (b:=0-y) hk h
    rw[iF,hO]at this;exact this
   .have:0<k*(0-y):=by rw[iF,hO];exact h
    exact(Zrt hk).mp this
  have h1:cyc (λp q=>in1 w (shp (gg a b c d p)) (shp (gg a b c d q))) rs=cyc (in1 w') rs:=Zed λp hp q hq=>by
   unfold in1;simp only[(sg p hp).1,(sg q hq).2.2.2]
  have h2:cyc (λp q=>in2 w (shp (gg a b c d p)) (shp (gg a b c d q))) rs=cyc (in2 w') rs:=Zed λp hp q hq=>by
   unfold in2;simp only[(sg p hp).2.1,(sg q hq).2.2.1]
  rw[Zdk,Zdk,h1,h2];exact hf
end CQ
namespace CQ
open L2 DL
open CV
open CB (Bd)
open CD (gg ZlA sg tb)
end CQ
namespace CB
open L2 DL
open CD (gg ZlA sg)
end CB
namespace CX
open L2 DL
open CE (F_numbers)
open CC (F_following)
end CX
namespace CX
open L2 DL
open CV
open CB (Bd lrd)
def ltP:List Pt->List Pt->Bool
 |[],[]=>false
 |[],_::_=>true
 |_::_,[]=>false
 |x::xs,y::ys=>if x=y then ltP xs ys else HT.Zbn [x.1,x.2] [y.1,y.2]
end CX
namespace CX
open L2 DL
open CV
open CB (Bd lrd)
def mkr(rs ls:List Pt):List Pt:=(ay ls.length).map λ(i:Nat)=>(T ls i,if cy ls i∈rs then 1 else 0)
end CX
namespace CX
open L2 DL
open CV
open CB (Bd lrd)
noncomputable def onw(L:List Pt)(i:Nat):List Pt:=L.drop i++L.take i
def rdg(L:List Pt)(i:Nat)(b:Bool):List Pt:=if b then(onw L i).take 1++((onw L i).drop 1).reverse else onw L i
def bsd(ls:List Pt)(i:Nat)(b:Bool):Pt:=if b then cy ls ((i:Int)-1)else cy ls ((i:Int)+1)
def Bst(lo:Nat)(L ls:List Pt)(S:Nat->Bool->Prop)(v3 v4:D)(M:Sto):Prop:=(v3=.non/\v4=.non/\∀i b,¬S i b)\/∃i b o,(S i b/\lo<=o)/\v3=.ref o/\v4=.tup [pr (cy ls (i:Nat)).1 (cy ls (i:Nat)).2,pr (bsd ls i b).1 (bsd ls i b).2]/\M[o]?=some (.lst (prs (rdg L i b)))/\∀i' b',S i' b'->ltP (rdg L i' b') (rdg L i b)=false
theorem Bst.congr(h:∀i b,S i b↔S' i b)(k:Bst lo L ls S v3 v4 M):Bst lo L ls S' v3 v4 M:=by
 rcases k with⟨h1,h2,h3⟩|⟨i,b,o,h1,h2,h3,h4,h5⟩
 .exact .inl ⟨h1,h2,λi b k=>h3 i b ((h i b).mpr k)⟩
 .exact .inr ⟨i,b,o,⟨(h i b).mp h1.1,h1.2⟩,h2,h3,h4,λi' b' k=>h5 i' b' ((h i' b').mpr k)⟩
end CX
namespace CX
open L2 DL
open CB (Bd lrd Zti seg)
open CD (gg ZlA sg)
def fn(L:List Pt)(x s:Int):List Pt:=(ay L.length).map λ(t:Nat)=>cy L (x+s*t)
noncomputable def sn(b:Bool):Int:=if b then -1 else 1
end CX
namespace CX
open L2 DL
open CB (Bd lrd)
open CV
open CD (gg sg)
end CX
namespace CP
open L2 DL
open CC (F_crossed)
def Zdn:Sv:=(ZR (e2 dEq (Zj bAbs (Zd (Zj F_crossed (Zd (Zi 0) (Zd (Zi 1) aNil))) aNil)) (eC (.int 1))))
def F_spanned:W3:=fnF Zdn 2 0
def Zee:Sv:=(ZC (Zan (gTp (gCs (gTp (gCs (gNm 2) (gCs (gNm 3) gNl))) (gCs (gTp (gCs (gNm 4) (gCs (gNm 5) gNl))) gNl))) (Zi 0)) (ZC (Zan (gTp (gCs (gNm 6) (gCs (gNm 7) gNl))) (Zi 1)) (ZR (ZaK (Zd (e2 dAdd (e2 dMul (Zi 2) (Zi 6)) (e2 dMul (Zi 3) (Zi 7))) (Zd (e2 dAdd (e2 dMul (Zi 4) (Zi 6)) (e2 dMul (Zi 5) (Zi 7))) aNil))))))
def F_turned:W3:=fnF Zee 2 6
end CP
namespace CP
open L2 DL
open CB (Bd lrd)
open CV CX
open CD (gg sg)
open CC (F_crossed Zbj)
section
variable {rs:List Pt}
noncomputable def kp(p:Pt):List Int:=[p.1,p.2]
noncomputable def up(l:List Int):Pt:=(l.getD 0 0,l.getD 1 0)
def sp(rs:List Pt):List Pt:=(ST.srt (rs.map kp)).map up
theorem Zgq:∀rs:List Pt,ksD (prs rs)=some (rs.map kp)
 |[]=>rfl
 |x::r=>by
  have:=Zgq r
  show ksD (pr x.1 x.2::prs r)=_;rw[ksD,this];rfl
theorem Znu:(ST.srt (rs.map kp)).map tupD=prs (sp rs):=by
 have h:∀l∈ST.srt (rs.map kp),tupD l=pr (up l).1 (up l).2:=λl hl=>by
  obtain⟨x,-,rfl⟩:=dy.mp ((ST.Zd5 _).mem_iff.mp hl);rfl
 rw[List.map_congr_left h];unfold sp prs;rw[k9];rfl
theorem ZqM(h:M[n]?=some (.lst (prs rs)))(hl:rs.length<64):bSrt [.ref n] M=.ok (.ref M.length) (M++[.lst (prs (sp rs))]):=by
 simp only[bSrt,h,ZiE,ZO,Zgq,if_pos (show rs.length<1000000 by lia),Znu]
theorem pb(hx: -200<=x/\x<=200)(hy: -200<=y/\y<=200): -40000<=x*y/\x*y<=40000:=by
 have:(x*y).natAbs<=200*200:=by rw[dP];exact jJ ⋯ ⋯
 lia
def Bs(rs:List Pt)(i:Nat)(b:Bool):Prop:=i<(lrd rs).length/\∀i' b',i'<(lrd rs).length->ltP (rdg (mkr rs (lrd rs)) i' b') (rdg (mkr rs (lrd rs)) i b)=false
def Ztm(rs cs:List Pt):Prop:=∀i b i' b',Bs rs i b->Bs cs i' b'->rdg (mkr rs (lrd rs)) i b=rdg (mkr cs (lrd cs)) i' b'
theorem Ztm.symm(h:Ztm rs cs):Ztm cs rs:=λi b i' b' h1 h2=>(h i' b' i b h2 h1).symm
end
end CP
namespace CG
open L2 DL
open CC (F_crossed F_following)
open CR (F_is_whole F_greatest_divisor F_law_whole)
def Zao:Sv:=(ZR (Zav (ZcL "tuple" (Zi 0)) (Zav (e2 dEq (Zj bLen (Zd (Zi 0) aNil)) (eC (.int 2))) (Zav (Zj F_is_whole (Zd (e2 dIx (Zi 0) (eC (.int 0))) aNil)) (Zj F_is_whole (Zd (e2 dIx (Zi 0) (eC (.int 1))) aNil))))))
def F_is_pair:W3:=fnF Zao 1 0
def Zef:Sv:=(ZR (Zj F_greatest_divisor (Zd (e2 dIx (Zi 0) (eC (.int 0))) (Zd (e2 dIx (Zi 0) (eC (.int 1))) aNil))))
def F_common:W3:=fnF Zef 1 0
def Zc2:Sv:=(ZR (Zav (Zj F_is_pair (Zd (Zi 0) aNil)) (e2 dEq (Zj F_common (Zd (Zi 0) aNil)) (eC (.int 1)))))
def F_is_ray:W3:=fnF Zc2 1 0
def Za2:Sv:=(ZR (ZoA (e2 dEq (Zi 0) (ZaK (Zd (eC (.int 1)) (Zd (eC (.int 0)) aNil)))) (Zav (e2 dLt (e2 dIx (Zi 0) (eC (.int 1))) (eC (.int 0))) (e2 dLt (eC (.int 0)) (e2 dIx (Zi 1) (eC (.int 1)))))))
def F_met_direction:W3:=fnF Za2 2 0
def Zax:Sv:=(sIf (ZY (tv (Zj F_is_ray (Zd (Zi 2) aNil)))) (Zbs (PySem.Str.ofString "NoRound") (Zd (eC (.str (PySem.Str.ofString "ray"))) (Zd (Zi 1) aNil))) sNil)
def Zay:Sv:=(sIf (tv (e2 dLe (Zj F_crossed (Zd (Zi 2) (Zd (Zj F_following (Zd (Zi 0) (Zd (Zi 1) aNil))) aNil))) (eC (.int 0)))) (Zbs (PySem.Str.ofString "NoRound") (Zd (eC (.str (PySem.Str.ofString "wedge"))) (Zd (Zi 1) aNil))) sNil)
def Zau:Sv:=(ZC (sIf (Zbz (ZY (tv (ZcL "list" (Zi 0)))) (tv (e2 dLt (Zj bLen (Zd (Zi 0) aNil)) (eC (.int 3))))) (Zbs (PySem.Str.ofString "NoRound") (Zd (eC (.str (PySem.Str.ofString "round"))) (Zd (eC (.int 0)) aNil))) sNil) (ZC (Zdy (gTp (gCs (gNm 1) (gCs (gNm 2) gNl))) (iEn (Zd (Zi 0) aNil)) Zax) (ZC (Zdy (gTp (gCs (gNm 1) (gCs (gNm 2) gNl))) (iEn (Zd (Zi 0) aNil)) Zay) (sIf (tv (e2 dGt (Zj bLen (Zd (ZaP (iEn (Zd (Zi 0) aNil)) 2 [0] (gTp (gCs (gNm 0) (gCs (gNm 1) gNl))) (tv (Zj F_met_direction (Zd (Zi 1) (Zd (Zj F_following (Zd (Zi 2) (Zd (Zi 0) aNil))) aNil)))) (Zi 0)) aNil)) (eC (.int 1)))) (Zbs (PySem.Str.ofString "NoRound") (Zd (eC (.str (PySem.Str.ofString "turns"))) (Zd (eC (.int 0)) aNil))) sNil))))
def F_look_round:W3:=fnF Zau 1 2
end CG
namespace CG
open L2 DL
open CB (Bd)
open CV (Kp)
open CC (F_following)
noncomputable abbrev NR:Str:=PySem.Str.ofString "NoRound"
noncomputable def met(a b:Pt):Bool:=decide (a=(1,0))||(decide (a.2<0)&&decide (0<b.2))
def ZdA(rs:List Pt):Nat:=((ay rs.length).filter λ(i:Nat)=>met (cy rs i) (cy rs (i+1))).length
section
variable {Q:W0}{E:W2}{u:Pt}
theorem ZaI(h:M[m]?=some (.lst xs)):ZaB M (.ref m)=some "list":=by simp[ZaB,kd,h]
theorem ZqN:wO (F_is_pair [pr u.1 u.2] M) Q E=Q (.bl true) M:=by
 simp![F_is_pair,Zao,CR.F_is_whole,CR.Z7]
theorem ZkM(q:Q (.bl (decide (bQ u.1 u.2=1))) M):wO (F_is_ray [pr u.1 u.2] M) Q E:=by
 simp![F_is_ray,Zc2,ZqN];simp![F_common,Zef,CR.Zno];rw[ZiV];simp![Zm];have e:decide (((bQ u.1 u.2:Nat):Int)=1)=decide (bQ u.1 u.2=1):=decide_eq_decide.mpr ⋯
 rw[e];exact q
theorem Ztn(q:Q (.bl (met u v)) M):wO (F_met_direction [pr u.1 u.2,pr v.1 v.2] M) Q E:=by
 unfold met at q;simp![F_met_direction,Za2];refine brO (λz=>?_) (λz=>?_)
 .simp![Zm];have e:u=(1,0):=z;rw[decide_eq_true e,Bool.true_or]at q;exact q
 .simp![Zm];have e:¬u=(1,0):=z;rw[decide_eq_false e,Bool.false_or]at q;refine brO (λz2=>?_) (λz2=>?_)
  .simp![Zm];rw[decide_eq_true z2,Bool.true_and]at q;exact q
  .simp![Zm];rw[decide_eq_false z2,Bool.false_and]at q;exact q
theorem ZlB{i:Nat}(h:i<=2000000):((i:Int)).natAbs.log2<1000:=by
 rw[Int.natAbs_natCast];by_cases c:i=0
 .rw[c];decide
 .exact aF ((jH c).mpr (show i<2^21 by lia)) (by decide)
noncomputable def BG:Int:=10^40
theorem mfB(ha: -BG<=a/\a<=BG)(hb: -BG<=b/\b<=BG):ZN a b:=by
 unfold BG at *;exact Z6 140 140 (show a.natAbs<2^140 by lia) (show b.natAbs<2^140 by lia) (by decide) (by decide)
theorem Zfz(hp:Bd BG p)(hq:Bd BG q):wO (CC.F_crossed [pr p.1 p.2,pr q.1 q.2] M) Q E=Q (.int (X p q)) M:=by
 simp![CC.F_crossed,CC.Zbj,Zaa (mfB hp.1 hq.2),Zaa (mfB hp.2 hq.1)];rfl
theorem Znv(h:M[m]?=some (.lst (prs rs)))(hl:3<=rs.length/\rs.length<=2000000)(hb:∀p∈rs,Bd BG p)(hg:∀p∈rs,bQ p.1 p.2=1)(h1:∀i:Nat,i<rs.length->(∀j:Nat,j<i->0<X (cy rs j) (cy rs (j+1)))->¬0<X (cy rs i) (cy rs (i+1))->E NR (M++[.lst [.str (PySem.Str.ofString "wedge"),.int i]]))(h2:(∀i:Nat,i<rs.length->0<X (cy rs i) (cy rs (i+1)))->1<ZdA rs->∀M',Kp M M'->E NR (M'++[.lst [.str (PySem.Str.ofString "turns"),.int 0]]))(h3:(∀i:Nat,i<rs.length->0<X (cy rs i) (cy rs (i+1)))->ZdA rs<=1->∀M',Kp M M'->Q .non M'):wS ((ZC (Zdy (gTp (gCs (gNm 1) (gCs (gNm 2) gNl))) (iEn (Zd (Zi 0) aNil)) Zay) (sIf (tv (e2 dGt (Zj bLen (Zd (ZaP (iEn (Zd (Zi 0) aNil)) 2 [0] (gTp (gCs (gNm 0) (gCs (gNm 1) gNl))) (tv (Zj F_met_direction (Zd (Zi 1) (Zd (Zj F_following (Zd (Zi 2) (Zd (Zi 0) aNil))) aNil)))) (Zi 0)) aNil)) (eC (.int 1)))) (Zbs (PySem.Str.ofString "NoRound") (Zd (eC (.str (PySem.Str.ofString "turns"))) (Zd (eC (.int 0)) aNil))) sNil)) [some (.ref m),x,y] M) (Zni Q) Q (λ_ _=>False) (λ_ _=>False) E:=by
 have ne:rs≠[]:=by intro z;rw[z]at hl;simp at hl
 simp![Zm];refine ZeX (λi ρ M'=>M'=M/\(∃x y,ρ=[some (.ref m),x,y])/\∀j:Nat,j<i->0<X (cy rs j) (cy rs (j+1))) h ⟨rfl,⟨_,_,rfl⟩,λj hj=>⋯⟩ (λi ρ M' hI=>by rw[hI.1];exact h) ?_ ?_
 .rintro i ρ M' hi ⟨e,⟨x,y,rfl⟩,hj⟩;rw[e];clear e M';rw[ZO]at hi;rw[CC.Za1];have cw:∀{Q:W0}{E:W2},wO (CC.F_crossed [pr (cy rs i).1 (cy rs i).2,pr (cy rs (i+1)).1 (cy rs (i+1)).2] M) Q E=Q (.int (X (cy rs i) (cy rs (i+1)))) M:=Zfz (hb _ (Zat ne)) (hb _ (Zat ne));simp![Zay,CC.Zbw h,cw];refine brS (λz=>?_) (λz=>?_)
  .refine Zcq ?_;simp![ZeY];exact⟨⟨by decide +kernel,ZlB ⋯⟩,h1 i hi hj ⋯⟩
  .simp![Zm];refine⟨⟨_,_,rfl⟩,λj hj'=>?_⟩;by_cases c:j<i
   .exact hj j c
   .have:j=i:=⋯
    subst this;lia
 rintro ρ M' ⟨e,⟨x,y,rfl⟩,hj⟩;rw[e];clear e M';rw[ZO]at hj;simp![Zm];show wO (ZeB (.enu m) _ _ _ M.length (cnt (.enu m) M) 0 _ (M++[.lst []])) _ _;have hln:((prs rs).mapIdx λ(k:Nat) d=>D.tup [.int k,d]).length=rs.length:=by simp[ZO]
 have lm:=Zas h;refine Zgh (xs:=(prs rs).mapIdx λ(k:Nat) d=>D.tup [.int k,d]) (λi ρ M'=>(∃x y,ρ=[x,y,some (.ref m)])/\M'=M++[.lst (((ay i).filter λ(i:Nat)=>met (cy rs i) (cy rs (i+1))).map λ(i:Nat)=>D.int i)]) _ 0 _ _ (by simp) (by rw[ZiZ h,hln,ZO];lia) ⟨⟨_,_,rfl⟩,rfl⟩ (λi ρ M' hi hI=>?_) ?_ ?_
 .rw[hI.2,Zlt (by rw[Zcp lm];exact h),gM]
 .rintro i ρ M' hi ⟨⟨x,y,rfl⟩,rfl⟩;have hi':i<rs.length:=by rw[hln]at hi;exact hi
  have hM:(M++[SO.lst (((ay i).filter λ(i:Nat)=>met (cy rs i) (cy rs (i+1))).map λ(i:Nat)=>D.int i)])[m]?=some (.lst (prs rs)):=by rw[Zcp lm];exact h
  rw[j9,CC.Za1];simp![CC.Zbw hM];refine Ztn ?_;simp![Zm];refine br (λz=>?_) (λz=>?_)
  .simp![Zm];have l1:((ay i).filter λ(i:Nat)=>met (cy rs i) (cy rs (i+1))).length<=i:=by
    have:=List.length_filter_le (λ(i:Nat)=>met (cy rs i) (cy rs (i+1))) (ay i)
    rw[iC]at this;exact this
   refine⟨⋯,?_⟩
   rw[fN,iz,cZ];simp[eY,z]
  .refine⟨⟨_,_,rfl⟩,?_⟩;rw[fN,iz];simp[eY,z]
 .rintro ρ M' ⟨-,rfl⟩;rw[hln];have hlen:(((ay rs.length).filter λ(i:Nat)=>met (cy rs i) (cy rs (i+1))).map λ(i:Nat)=>D.int i).length=ZdA rs:=by rw[aC];rfl
  have t:(M++[SO.lst (((ay rs.length).filter λ(i:Nat)=>met (cy rs i) (cy rs (i+1))).map λ(i:Nat)=>D.int i)])[M.length]?=some (.lst (((ay rs.length).filter λ(i:Nat)=>met (cy rs i) (cy rs (i+1))).map λ(i:Nat)=>D.int i)):=by simp
  have K1:Kp M (M++[SO.lst (((ay rs.length).filter λ(i:Nat)=>met (cy rs i) (cy rs (i+1))).map λ(i:Nat)=>D.int i)]):=Kp.app;generalize M++[SO.lst (((ay rs.length).filter λ(i:Nat)=>met (cy rs i) (cy rs (i+1))).map λ(i:Nat)=>D.int i)]=M1 at *;generalize ((ay rs.length).filter λ(i:Nat)=>met (cy rs i) (cy rs (i+1))).map (λ(i:Nat)=>D.int i)=L at *;show kA1 _ _ _ _ (.ref M.length) M1;simp![t];rw[hlen];refine brS (λz=>?_) (λz=>?_)
  .refine Zcq ?_;simp![ZeY];exact⟨⟨by decide +kernel,by decide +kernel⟩,h2 hj ⋯ M1 K1⟩
  .simp![Zm];exact h3 hj ⋯ M1 K1
theorem ZqO(h:M[m]?=some (.lst (prs rs)))(hl:3<=rs.length/\rs.length<=2000000)(hb:∀p∈rs,Bd BG p)(hg:∀p∈rs,bQ p.1 p.2=1)(h1:∀i:Nat,i<rs.length->(∀j:Nat,j<i->0<X (cy rs j) (cy rs (j+1)))->¬0<X (cy rs i) (cy rs (i+1))->E NR (M++[.lst [.str (PySem.Str.ofString "wedge"),.int i]]))(h2:(∀i:Nat,i<rs.length->0<X (cy rs i) (cy rs (i+1)))->1<ZdA rs->∀M',Kp M M'->E NR (M'++[.lst [.str (PySem.Str.ofString "turns"),.int 0]]))(h3:(∀i:Nat,i<rs.length->0<X (cy rs i) (cy rs (i+1)))->ZdA rs<=1->∀M',Kp M M'->Q .non M'):wO (F_look_round [.ref m] M) Q E:=by
 have ne:rs≠[]:=by intro z;rw[z]at hl;simp at hl
 simp![F_look_round,Zau,ZaI h,h];refine ZeX (λi ρ M'=>M'=M/\∃x y,ρ=[some (.ref m),x,y]) h ⟨rfl,_,_,rfl⟩ (λi ρ M' hI=>by rw[hI.1];exact h) ?_ ?_
 .rintro i ρ M' hi ⟨e,x,y,rfl⟩;rw[e];clear e M';rw[ZO]at hi;rw[CC.Za1];simp![Zax];refine ZkM ?_;rw[hg _ (Zat ne),decide_eq_true rfl];simp![Zm];exact⟨_,_,rfl⟩
 rintro ρ M' ⟨e,x,y,rfl⟩;rw[e];clear e M';exact Znv h hl hb hg h1 h2 h3
end
end CG
namespace DL
open L2
open CV (Kp)
def tre(M:Sto):Nat->D->Option ca
 |0,_=>none
 |k+1,d=>match d with
  |.non=>some .none
  |.bl b=>some (.bool b)
  |.int i=>some (.int i)
  |.str x=>some (.str x)
  |.tup xs=>(ZaR (tre M k) xs).map .tuple
  |.ref n=>(match M[n]? with|some (.lst xs)=>(ZaR (tre M k) xs).map .list|none=>none)
  |_=>none
section
variable {M N:Sto}{k:Nat}{d:D}{t:ca}
theorem Zcs{f g:D->Option ca}(h:∀d t,f d=some t->g d=some t):∀(xs:List D)(ts:List ca),ZaR f xs=some ts->ZaR g xs=some ts
 |[],ts,e=>e
 |x::r,ts,e=>by
  unfold ZaR at e ⊢
  split at e
  .rename_i a b e1 e2;rw[h x a e1,Zcs h r b e2];exact e
  .cases e
theorem ZT{f:D->Option ca}:∀{xs:List D}{ts:List ca},ZaR f xs=some ts↔xs.length=ts.length/\∀i (h:i<xs.length) (h':i<ts.length),f xs[i]=some ts[i]
 |[],[]=>by simp[ZaR]
 |[],t::ts=>by simp[ZaR]
 |x::r,[]=>by
  unfold ZaR;constructor
  .intro e
   split at e<;>cases e
  .rintro⟨e,_⟩;cases e
 |x::r,t::ts=>by
  unfold ZaR;constructor
  .intro e
   split at e
   .rename_i a b e1 e2;cases e;obtain⟨l,g⟩:=ZT.mp e2;refine⟨by rw[aH,aH,l],λi h h'=>?_⟩
    cases i with
    |zero=>exact e1
    |succ i=>exact g i (by simpa using h) (by simpa using h')
   .cases e
  .rintro⟨l,g⟩;have e1:=g 0 (by simp) (by simp)
   have e2:ZaR f r=some ts:=ZT.mpr ⟨by simpa using l,λi h h'=>g (i+1) (by simp;lia) (by simp;lia)⟩
   simp only[aR]at e1;rw[e1,e2]
def Poi:SO:=.lst [.fn (PySem.Str.ofString "")]
theorem ZlC:tre M k (.fn x)=none:=by cases k<;>rfl
theorem ZfA(h:∀(j:Nat) o,M[j]?=some o->o≠Poi->N[j]?=some o):∀(k:Nat)(d:D)(t:ca),tre M k d=some t->tre N k d=some t
 |0,_,_,e=>e
 |k+1,d,t,e=>by
  have ih:=Zcs (ZfA h k);have mp:∀{c:List ca->ca}{xs:List D},(ZaR (tre M k) xs).map c=some t->(ZaR (tre N k) xs).map c=some t:=λ{c xs} e=>by
   obtain⟨ts,e1,e2⟩:=ar.mp e;rw[ih xs ts e1,<-e2];rfl
  cases d with
  |tup xs=>exact mp e
  |ref j=>
   change (match M[j]? with|some (.lst xs)=>(ZaR (tre M k) xs).map cA|none=>none)=some t at e
   show(match N[j]? with|some (.lst xs)=>(ZaR (tre N k) xs).map cA|none=>none)=some t
   cases em:M[j]? with
   |none=>rw[em]at e;cases e
   |some o=>
    cases o with
    |lst xs=>
     rw[em]at e;have ne:SO.lst xs≠Poi:=λz=>by
      cases z
      change (ZaR (tre M k) [.fn (PySem.Str.ofString "")]).map cA=some t at e
      have z:ZaR (tre M k) [.fn (PySem.Str.ofString "")]=none:=by rw[ZaR,ZlC]
      rw[z]at e;cases e
     rw[h j _ em ne];exact mp e
  |_=>exact e
theorem Zgr(h:Kp M N)(e:tre M k d=some t):tre N k d=some t:=ZfA (λj o z _=>h.get z) k d t e
def poi(P:Nat->Bool)(M:Sto):Sto:=M.mapIdx λi o=>if P i=true then Poi else o
theorem Zdo:(poi P M)[j]?=M[j]?.map λo=>if P j=true then Poi else o:=by unfold poi;rw[gM]
theorem Znw(M:Sto):poi (λ_=>false) M=M:=by
 apply eG;intro j;rw[Zdo];cases M[j]?<;>rfl
theorem Za3(hp:∀(j:Nat),P' j=true->P j=true\/M[j]?=none)(h:∀(j:Nat) o,P j=false->M[j]?=some o->M'[j]?=some o)(e:tre (poi P M) k d=some t):tre (poi P' M') k d=some t:=by
 refine ZfA (λj o z ne=>?_) k d t e;rw[Zdo]at z ⊢;cases em:M[j]? with
 |none=>rw[em]at z;cases z
 |some o'=>
  rw[em]at z;simp only[eu,aj]at z;by_cases c:P j=true
  .rw[if_pos c]at z;exact absurd z.symm ne
  .rw[if_neg c]at z;subst z;have c':¬P' j=true:=λq=>by
    rcases hp j q with q|q
    .exact c q
    .rw[em]at q;cases q
   rw[h j _ (by simpa using c) em]
   simp only[eu,if_neg c']
theorem ZqP(e:tre (poi P M) k d=some t):tre M k d=some t:=by
 have:=Za3 (P:=P) (P':=λ_=>false) (M:=M) (M':=M) (λj z=>by cases z) (λj o _ z=>z) e
 rw[Znw]at this;exact this
theorem ZcI(e:tre M k d=some (.int i)):d=.int i:=by
 cases k with
 |zero=>cases e
 |succ k=>
  cases d with
  |int j=>cases e;rfl
  |tup xs=>obtain⟨_,_,z⟩:=ar.mp e;cases z
  |ref n=>
   change (match M[n]? with|some (.lst xs)=>(ZaR (tre M k) xs).map cA|none=>none)=_ at e
   cases em:M[n]? with
   |none=>rw[em]at e;cases e
   |some o=>cases o with|lst xs=>rw[em]at e;obtain⟨_,_,z⟩:=ar.mp e;cases z
  |_=>cases e
theorem Zgs(e:tre M k d=some (.bool i)):d=.bl i:=by
 cases k with
 |zero=>cases e
 |succ k=>
  cases d with
  |bl j=>cases e;rfl
  |tup xs=>obtain⟨_,_,z⟩:=ar.mp e;cases z
  |ref n=>
   change (match M[n]? with|some (.lst xs)=>(ZaR (tre M k) xs).map cA|none=>none)=_ at e
   cases em:M[n]? with
   |none=>rw[em]at e;cases e
   |some o=>cases o with|lst xs=>rw[em]at e;obtain⟨_,_,z⟩:=ar.mp e;cases z
  |_=>cases e
theorem ZfB(e:tre M k d=some (.str i)):d=.str i:=by
 cases k with
 |zero=>cases e
 |succ k=>
  cases d with
  |str j=>cases e;rfl
  |tup xs=>obtain⟨_,_,z⟩:=ar.mp e;cases z
  |ref n=>
   change (match M[n]? with|some (.lst xs)=>(ZaR (tre M k) xs).map cA|none=>none)=_ at e
   cases em:M[n]? with
   |none=>rw[em]at e;cases e
   |some o=>cases o with|lst xs=>rw[em]at e;obtain⟨_,_,z⟩:=ar.mp e;cases z
  |_=>cases e
theorem ZfC(e:tre M k d=some (.tuple ts)):∃l xs,k=l+1/\d=.tup xs/\ZaR (tre M l) xs=some ts:=by
 cases k with
 |zero=>cases e
 |succ k=>
  cases d with
  |tup xs=>obtain⟨us,z1,z⟩:=ar.mp e;cases z;exact⟨k,xs,rfl,rfl,z1⟩
  |ref n=>
   change (match M[n]? with|some (.lst xs)=>(ZaR (tre M k) xs).map cA|none=>none)=_ at e
   cases em:M[n]? with
   |none=>rw[em]at e;cases e
   |some o=>cases o with|lst xs=>rw[em]at e;obtain⟨_,_,z⟩:=ar.mp e;cases z
  |_=>cases e
theorem ZfD(e:tre M k d=some (.list ts)):∃l n xs,k=l+1/\d=.ref n/\M[n]?=some (.lst xs)/\ZaR (tre M l) xs=some ts:=by
 cases k with
 |zero=>cases e
 |succ k=>
  cases d with
  |tup xs=>obtain⟨us,z1,z⟩:=ar.mp e;cases z
  |ref n=>
   change (match M[n]? with|some (.lst xs)=>(ZaR (tre M k) xs).map cA|none=>none)=_ at e
   cases em:M[n]? with
   |none=>rw[em]at e;cases e
   |some o=>cases o with|lst xs=>rw[em]at e;obtain⟨us,z1,z⟩:=ar.mp e;cases z;exact⟨k,n,xs,rfl,rfl,em,z1⟩
  |_=>cases e
theorem ZdK(e:ZaR (tre M l) xs=some ts):tre M (l+1) (.tup xs)=some (.tuple ts):=by
 show(ZaR (tre M l) xs).map ca.tuple=_;rw[e];rfl
theorem ZbU(h:M[n]?=some (.lst xs))(e:ZaR (tre M l) xs=some ts):tre M (l+1) (.ref n)=some (.list ts):=by
 show(match M[n]? with|some (.lst xs)=>(ZaR (tre M l) xs).map cA|none=>none)=_
 rw[h];show(ZaR (tre M l) xs).map cA=_;rw[e];rfl
theorem ZfE{f:D->D->Option Bool}{g:D->Option ca}(h:∀a b t,g a=some t->g b=some t->f a b=some true):∀{xs ys:List D}{ts:List ca},ZaR g xs=some ts->ZaR g ys=some ts->eqL f xs ys=some true
 |[],[],_,_,_=>rfl
 |[],y::ys,ts,e1,e2=>by
  cases e1
  have:=(ZT.mp e2).1
  cases this
 |x::xs,[],ts,e1,e2=>by
  cases e2
  have:=(ZT.mp e1).1
  cases this
 |x::xs,y::ys,ts,e1,e2=>by
  unfold ZaR at e1 e2
  split at e1
  .rename_i a b a1 a2;cases e1
   split at e2
   .rename_i a' b' b1 b2;cases e2;have e3:=h x y a a1 b1;have e4:=ZfE h a2 b2;unfold eqL;rw[e3,e4];rfl
   .cases e2
  .cases e1
theorem Zjb:∀{k:Nat}{a b:D}{t:ca}(j:Nat),tre M k a=some t->tre M k b=some t->eqF (k+j) M a b=some true
 |0,_,_,_,_,e,_=>by cases e
 |k+1,a,b,t,j,e1,e2=>by
  have ih:∀a b t,tre M k a=some t->tre M k b=some t->eqF (k+j) M a b=some true:=λa b t x y=>Zjb j x y;rw[show k+1+j=(k+j)+1 by lia]
  cases t with
  |none=>
   have n1:a=.non:=by
    cases a with
    |non=>rfl
    |tup xs=>obtain⟨_,_,z⟩:=ar.mp e1;cases z
    |ref n=>
     change (match M[n]? with|some (.lst xs)=>(ZaR (tre M k) xs).map cA|none=>none)=_ at e1
     cases em:M[n]? with
     |none=>rw[em]at e1;cases e1
     |some o=>cases o with|lst xs=>rw[em]at e1;obtain⟨_,_,z⟩:=ar.mp e1;cases z
    |_=>cases e1
   have n2:b=.non:=by
    cases b with
    |non=>rfl
    |tup xs=>obtain⟨_,_,z⟩:=ar.mp e2;cases z
    |ref n=>
     change (match M[n]? with|some (.lst xs)=>(ZaR (tre M k) xs).map cA|none=>none)=_ at e2
     cases em:M[n]? with
     |none=>rw[em]at e2;cases e2
     |some o=>cases o with|lst xs=>rw[em]at e2;obtain⟨_,_,z⟩:=ar.mp e2;cases z
    |_=>cases e2
   subst n1 n2;rfl
  |int i=>
   rw[ZcI e1,ZcI e2];show some (i==i)=some true;simp
  |bool i=>
   rw[Zgs e1,Zgs e2];show some (i==i)=some true;simp
  |str i=>
   rw[ZfB e1,ZfB e2];show some (i==i)=some true;simp
  |tuple ts=>
   obtain⟨l,xs,rfl',rfl,h1⟩:=ZfC e1;obtain⟨l',ys,rfl'',rfl,h2⟩:=ZfC e2;cases rfl';cases rfl'';exact ZfE ih h1 h2
  |list ts=>
   obtain⟨l,m,xs,rfl',rfl,hm,h1⟩:=ZfD e1;obtain⟨l',n,ys,rfl'',rfl,hn,h2⟩:=ZfD e2;cases rfl';cases rfl'';show(match kd M (.ref m),kd M (.ref n)with|some a,some b=>eqK (eqF (k+j) M) a b|_,_=>none)=some true
   simp only[kd,hm,hn];show(if xs.length=ys.length then eqL (eqF (k+j) M) xs ys else some false)=some true
   rw[if_pos ((ZT.mp h1).1.trans (ZT.mp h2).1.symm)];exact ZfE ih h1 h2
  |_=>
   exfalso;cases a with
   |tup xs=>obtain⟨_,_,z⟩:=ar.mp e1;cases z
   |ref n=>
    change (match M[n]? with|some (.lst xs)=>(ZaR (tre M k) xs).map cA|none=>none)=_ at e1
    cases em:M[n]? with
    |none=>rw[em]at e1;cases e1
    |some o=>cases o with|lst xs=>rw[em]at e1;obtain⟨_,_,z⟩:=ar.mp e1;cases z
   |_=>cases e1
end
end DL
namespace K71
open CR (Z7 F_is_whole ZaJ Za9 F_greatest_divisor Zfv F_ratio Zi5 F_plus Zfw F_times Zcc F_law_whole)
open CG (Zao F_is_pair Zef F_common Zc2 F_is_ray Za2 F_met_direction Zax Zay Zau F_look_round)
open CC (Zbj F_crossed ZaZ F_following ZaG Zbu F_unspanned Za8 F_ask_smooth Za0 F_ask_place Zbv F_law_cell_at Zcb F_law_cross)
open CP (Zdn F_spanned Zee F_turned)
open CE (Zdl F_numbers)
open CD (Zi9 F_less)
open CS (ZbM F_ask_height)
open CN (ZcH Zfy F_bends)
open L2 DL
abbrev ZcQ:Stmt:=ZjM (top 3) 0
structure Txt(K:Fg) (mg:Str->Option aa):Prop extends Bs mg where
 gl:∀c v,PySem.W.nsIn K aG c=some (some v)->mg c=some v
 d:Dfs K top tab
 in_NoRound:∃f fd,IniOk K "NoRound" "NoRound.__init__" ZcQ f fd
 ct_NoRound:Zh5 K "NoRound" [PySem.Str.ofString "NoRound"]=true
 ex_NotSmooth:Zlc K "NotSmooth"=true
 ex_NoRatio:Zlc K "NoRatio"=true
 ex_NoHeight:Zlc K "NoHeight"=true
 ex_NoPlace:Zlc K "NoPlace"=true
 ex_NoMinus:Zlc K "NoMinus"=true
 cu_NoPlace__NoMinus:Zfq K "NoPlace" "NoMinus" [PySem.Str.ofString "NoPlace",PySem.Str.ofString "NoMinus"]=true
section
variable {P:bO}{w:cu}{K:Fg}{mg:Str->Option aa}{base:Heap}
theorem Znx:FnScope N3 N3 (Zx ZcQ):=⟨rfl,rfl,rfl,by decide +kernel,rfl,by decide +kernel,by decide +kernel⟩
theorem Zeg(J:IniOk K "NoRound" "NoRound.__init__" ZcQ f fd)(gl:∀c v,PySem.W.nsIn K aG c=some (some v)->mg c=some v)(hE:ExF K C f):FnOk P w K mg base (CXE P w) 1 f fd N3 (spI C):=
 Zm5 (k:=0) (a:=PySem.Str.ofString "no round: ") (b:=PySem.Str.ofString " ") J.fn Znx (by decide +kernel) (by decide +kernel) λcdv A outer s H E=>ZdR (Zhg (Zkw J.bs gl rfl hE rfl (bZ rfl) (Zsf rfl rfl (bZ rfl) (bZ rfl)))) (ZdR (Zm2 hE hE.fw rfl (bZ rfl) rfl (bZ rfl)) (Zhf (Zm3 hE hE.fa rfl (bZ rfl) rfl (bZ rfl))))
theorem Zvy{K:Fg}(lI:K.lookup fI=some ⟨.type "function",none,.func (PySem.W.fnOf "__init__" "NoRound.__init__" (Zbo ZcQ) (ZaD ZcQ) (Zx ZcQ) .none .none .none (.str m t) none (.ref c) .none),#[]⟩)(cI:PySem.W.codeIn K (.ref c) "NoRound.__init__"=true)(kI:PySem.W.keepIn K (.ref fI)=true)(xI:ZiM K "NoRound" fI=true)(bI:Zgc K "RayError"=true):∃f fd,IniOk K "NoRound" "NoRound.__init__" ZcQ f fd:=
 have RI:=Zk0 (st:=ZcQ) lI cI kI
 ⟨fI,_,xI,RI,bI,RI.binds (ps:=N3) λ_ _ _ _ _ _=>len3 λ_ _ _=>rfl⟩
def Ze2:Sv:=(ZR (e2 dAdd (e2 dMul (e2 dIx (Zi 0) (eC (.int 0))) (e2 dIx (Zi 1) (eC (.int 0)))) (e2 dMul (e2 dIx (Zi 0) (eC (.int 1))) (e2 dIx (Zi 1) (eC (.int 1))))))
def F_product:W3:=fnF Ze2 2 0
def Zba:Sv:=(ZC (sIf (Zbz (ZY (tv (ZcL "tuple" (Zi 0)))) (tv (e2 dNe (Zj bLen (Zd (Zi 0) aNil)) (eC (.int 2))))) (ZR (eC (.bl false))) sNil) (ZR (Zav (Zj F_is_pair (Zd (e2 dIx (Zi 0) (eC (.int 0))) aNil)) (Zav (Zj F_is_pair (Zd (e2 dIx (Zi 0) (eC (.int 1))) aNil)) (Zj F_spanned (Zd (e2 dIx (Zi 0) (eC (.int 0))) (Zd (e2 dIx (Zi 0) (eC (.int 1))) aNil)))))))
def F_is_turning:W3:=fnF Zba 1 0
def ZdL:Sv:=(ZC (ZeS (ZcT (Zj F_look_round (Zd (Zi 0) aNil))) [PySem.Str.ofString "NoRound"] [false] (ZR (eC (.bl false)))) (ZR (eC (.bl true))))
def F_is_round:W3:=fnF ZdL 1 0
def ZbV:Sv:=(ZC (sIf (Zbz (ZY (tv (ZcL "tuple" (Zi 0)))) (Zbz (tv (e2 dNe (Zj bLen (Zd (Zi 0) aNil)) (eC (.int 2)))) (Zbz (ZY (tv (Zj F_is_whole (Zd (e2 dIx (Zi 0) (eC (.int 0))) aNil)))) (ZY (tv (Zj F_is_whole (Zd (e2 dIx (Zi 0) (eC (.int 1))) aNil))))))) (ZR (eC (.bl false))) sNil) (ZR (Zav (e2 dGe (e2 dIx (Zi 0) (eC (.int 1))) (eC (.int 1))) (e2 dEq (Zj F_greatest_divisor (Zd (e2 dIx (Zi 0) (eC (.int 0))) (Zd (e2 dIx (Zi 0) (eC (.int 1))) aNil))) (eC (.int 1))))))
def F_is_ratio:W3:=fnF ZbV 1 0
def Zbx:Sv:=(ZC (Zan (gNm 2) (Zj F_numbers (Zd (Zi 0) aNil))) (ZC (ZcT (Zj F_ask_place (Zd (Zi 0) (Zd (Zi 1) aNil)))) (ZC (sIf (Zbz (tv (e2 dNe (e2 dIx (Zi 2) (Zi 1)) (Zfe (eC (.int 1))))) (tv (e2 dLt (Zj bLen (Zd (Zi 0) aNil)) (eC (.int 4))))) (ZbB (PySem.Str.ofString "NoMinus") (Zd (eC (.str (PySem.Str.ofString "a ray of number -1 is taken out, of four rays or more"))) aNil)) sNil) (ZR (e2 dAdd (eSl (Zi 0) oNo (oSo (Zi 1))) (eSl (Zi 0) (oSo (e2 dAdd (Zi 1) (eC (.int 1)))) oNo))))))
def F_taken_out:W3:=fnF Zbx 2 1
def Zdp:Sv:=(ZR (Zav (Zj F_is_round (Zd (Zi 0) aNil)) (e2 dIs (Zj F_unspanned (Zd (Zi 0) aNil)) (eC .non))))
def F_is_smooth:W3:=fnF Zdp 1 0
def Zcd:Sv:=(ZR (Zav (ZcL "list" (Zi 0)) (Zav (e2 dEq (Zj bLen (Zd (Zi 0) aNil)) (Zj bLen (Zd (Zi 1) aNil))) (Zj bAll (Zd (ZaP (iSq (Zi 0)) 1 [] (gNm 0) (λ_ M=>.ok true M) (Zj F_is_ratio (Zd (Zi 0) aNil))) aNil)))))
def F_is_height:W3:=fnF Zcd 2 0
def ZbC:Sv:=(ZC (sIf (ZY (tv (Zj F_is_whole (Zd (Zi 4) aNil)))) (ZR (eC (.bl false))) sNil) (ZeS (Zan (gNm 3) (Zj F_taken_out (Zd (Zi 3) (Zd (Zi 4) aNil)))) [PySem.Str.ofString "NoPlace",PySem.Str.ofString "NoMinus"] [false,false,false,true,false] (ZR (eC (.bl false)))))
def Zct:Sv:=(ZC (sIf (Zbz (ZY (tv (Zj F_is_smooth (Zd (Zi 0) aNil)))) (Zbz (ZY (tv (ZcL "list" (Zi 1)))) (ZY (tv (Zj F_is_round (Zd (Zi 2) aNil)))))) (ZR (eC (.bl false))) sNil) (ZC (Zan (gNm 3) (Zi 0)) (ZC (ZnL (gNm 4) (Zi 1) ZbC) (ZR (Zav (e2 dEq (Zi 3) (Zi 2)) (e2 dLe (Zj bLen (Zd (Zi 2) aNil)) (eC (.int 4))))))))
def F_walk_stands:W3:=fnF Zct 3 2
def ZbD:Sv:=(ZC (sIf (Zbz (ZY (tv (Zj F_is_round (Zd (Zi 0) aNil)))) (Zbz (ZY (tv (Zj F_is_round (Zd (Zi 1) aNil)))) (ZY (tv (Zj F_is_turning (Zd (Zi 2) aNil)))))) (ZR (eC (.bl false))) sNil) (ZR (e2 dEq (Zj bSrt (Zd (ZaP (iSq (Zi 0)) 1 [2] (gNm 0) (λ_ M=>.ok true M) (Zj F_turned (Zd (Zi 1) (Zd (Zi 0) aNil)))) aNil)) (Zj bSrt (Zd (Zi 1) aNil)))))
def F_turning_stands:W3:=fnF ZbD 3 0
def Zcu:Sv:=(ZR (Zav (Zj F_is_pair (Zd (Zi 0) aNil)) (Zav (e2 dEq (Zj F_product (Zd (Zi 0) (Zd (Zi 1) aNil))) (eC (.int 1))) (Zj bAll (Zd (ZaP (iSq (Zi 2)) 1 [0] (gNm 0) (λ_ M=>.ok true M) (e2 dGe (Zj F_product (Zd (Zi 1) (Zd (Zi 0) aNil))) (eC (.int 1)))) aNil)))))
def F_show_stands:W3:=fnF Zcu 3 0
def Zbf:Sv:=(ZC (sIf (Zbz (ZY (tv (Zj F_is_ray (Zd (Zi 0) aNil)))) (Zbz (ZY (tv (Zj F_is_ray (Zd (Zi 1) aNil)))) (tv (e2 dLe (Zj F_crossed (Zd (Zi 0) (Zd (Zi 1) aNil))) (eC (.int 0)))))) (ZR (eC (.bl false))) sNil) (ZC (sIf (Zbz (ZY (tv (ZcL "list" (Zi 2)))) (Zbz (ZY (tv (ZcL "list" (Zi 3)))) (tv (e2 dNe (Zj bLen (Zd (Zi 2) aNil)) (Zj bLen (Zd (Zi 3) aNil)))))) (ZR (eC (.bl false))) sNil) (ZC (sIf (ZY (tv (Zj bAll (Zd (ZaP (iSq (Zi 2)) 1 [] (gNm 0) (λ_ M=>.ok true M) (Zj F_is_ray (Zd (Zi 0) aNil))) aNil)))) (ZR (eC (.bl false))) sNil) (ZC (Zan (gNm 4) (e2 dAdd (e2 dAdd (ZcY (Zd (Zi 0) aNil)) (Zi 2)) (ZcY (Zd (Zi 1) aNil)))) (ZC (sIf (ZY (tv (Zj bAll (Zd (ZaP (iZp (Zd (Zi 4) (Zd (eSl (Zi 4) (oSo (eC (.int 1))) oNo) aNil))) 2 [] (gTp (gCs (gNm 0) (gCs (gNm 1) gNl))) (λ_ M=>.ok true M) (e2 dEq (Zj F_crossed (Zd (Zi 0) (Zd (Zi 1) aNil))) (eC (.int 1)))) aNil)))) (ZR (eC (.bl false))) sNil) (ZR (Zj bAll (Zd (ZaP (iZp (Zd (Zi 2) (Zd (Zi 3) aNil))) 2 [4] (gTp (gCs (gNm 0) (gCs (gNm 1) gNl))) (λ_ M=>.ok true M) (Zj F_show_stands (Zd (Zi 1) (Zd (Zi 0) (Zd (Zi 2) aNil))))) aNil))))))))
def F_wedge_stands:W3:=fnF Zbf 4 1
def Zaz:Sv:=(ZC (Zan (gTp (gCs (gNm 5) (gCs (gNm 6) gNl))) (eIf (tv (e2 dIx (Zi 2) (Zi 7))) (ZaK (Zd (Zi 6) (Zd (e2 dSub (e2 dMul (Zfe (e2 dIx (Zi 4) (Zi 7))) (Zi 6)) (Zi 5)) aNil))) (ZaK (Zd (eC (.int 0)) (Zd (eC (.int 1)) aNil))))) (sIf (tv (e2 dLe (Zi 6) (eC (.int 0)))) (ZR (eC (.bl false))) sNil))
def ZbO:Sv:=(ZC (Zan (gNm 2) (ZaP (iSq (Zi 1)) 1 [] (gNm 0) (λ_ M=>.ok true M) (Zj F_less (Zd (ZaK (Zd (eC (.int 0)) (Zd (eC (.int 1)) aNil))) (Zd (Zi 0) aNil))))) (ZC (sIf (tv (Zj bAll (Zd (Zi 2) aNil))) (ZR (eC (.bl false))) sNil) (ZC (Zan (gNm 3) (Zj9 mIdx (Zi 2) (Zd (eC (.bl false)) aNil))) (ZC (Zan (gNm 4) (Zj F_numbers (Zd (Zi 0) aNil))) (ZC (Zan (gTp (gCs (gNm 5) (gCs (gNm 6) gNl))) (ZaK (Zd (eC (.int 0)) (Zd (eC (.int 1)) aNil)))) (ZC (ZnL (gNm 7) (e2 dAdd (Zrm (Zd (Zi 3) (Zd (Zj bLen (Zd (Zi 0) aNil)) aNil))) (Zrl (Zd (Zi 3) aNil))) Zaz) (ZR (eC (.bl true)))))))))
def F_crosses_below:W3:=fnF ZbO 2 6
def Za4:Sv:=(sIf (Zbz (tv (Zj F_less (Zd (Zi 4) (Zd (ZaK (Zd (eC (.int 0)) (Zd (eC (.int 1)) aNil))) aNil)))) (Zbz (tv (Zj F_less (Zd (Zi 5) (Zd (ZaK (Zd (eC (.int 0)) (Zd (eC (.int 1)) aNil))) aNil)))) (tv (e2 dNe (Zj F_times (Zd (Zi 4) (Zd (Zi 5) aNil))) (ZaK (Zd (eC (.int 0)) (Zd (eC (.int 1)) aNil))))))) (ZR (eC (.bl false))) sNil)
def ZbE:Sv:=(ZC (sIf (Zbz (ZY (tv (Zj F_is_smooth (Zd (Zi 0) aNil)))) (ZY (tv (Zj bAll (Zd (ZaP (iSq (ZaK (Zd (Zi 1) (Zd (Zi 2) (Zd (Zi 3) aNil))))) 1 [0] (gNm 0) (λ_ M=>.ok true M) (Zj F_is_height (Zd (Zi 0) (Zd (Zi 1) aNil)))) aNil))))) (ZR (eC (.bl false))) sNil) (ZC (sIf (tv (e2 dNe (ZaP (iZp (Zd (Zi 2) (Zd (Zi 3) aNil))) 2 [] (gTp (gCs (gNm 0) (gCs (gNm 1) gNl))) (λ_ M=>.ok true M) (Zj F_plus (Zd (Zi 0) (Zd (Zi 1) aNil)))) (Zi 1))) (ZR (eC (.bl false))) sNil) (ZC (Zdy (gTp (gCs (gNm 4) (gCs (gNm 5) gNl))) (iZp (Zd (Zj F_bends (Zd (Zi 0) (Zd (Zi 2) aNil))) (Zd (Zi 3) aNil))) Za4) (ZR (Zj F_crosses_below (Zd (Zi 0) (Zd (Zi 3) aNil)))))))
def F_parting_stands:W3:=fnF ZbE 4 2
def ZbF:Sv:=(Zan (gNm 5) (Zj F_plus (Zd (Zi 5) (Zd (Zj F_times (Zd (ZaK (Zd (Zi 6) (Zd (eC (.int 1)) aNil))) (Zd (Zi 7) aNil))) aNil))))
def Zcv:Sv:=(ZC (sIf (Zbz (ZY (tv (Zj F_is_smooth (Zd (Zi 0) aNil)))) (ZY (tv (Zj F_is_height (Zd (Zi 1) (Zd (Zi 0) aNil)))))) (ZR (eC (.bl false))) sNil) (ZC (sIf (Zbz (ZY (tv (ZcL "list" (Zi 2)))) (tv (e2 dNe (Zj bLen (Zd (Zi 2) aNil)) (Zj bLen (Zd (Zi 0) aNil))))) (ZR (eC (.bl false))) sNil) (ZC (sIf (ZY (tv (Zj bAll (Zd (ZaP (iSq (Zi 2)) 1 [] (gNm 0) (λ_ M=>.ok true M) (Zav (Zj F_is_whole (Zd (Zi 0) aNil)) (e2 dGe (Zi 0) (eC (.int 0))))) aNil)))) (ZR (eC (.bl false))) sNil) (ZC (Zan (gNm 3) (Zj (Zfk Zpa) (Zd (ZaP (iZp (Zd (Zi 2) (Zd (Zi 0) aNil))) 2 [] (gTp (gCs (gNm 0) (gCs (gNm 1) gNl))) (λ_ M=>.ok true M) (e2 dMul (Zi 0) (e2 dIx (Zi 1) (eC (.int 0))))) aNil))) (ZC (Zan (gNm 4) (Zj (Zfk Zpa) (Zd (ZaP (iZp (Zd (Zi 2) (Zd (Zi 0) aNil))) 2 [] (gTp (gCs (gNm 0) (gCs (gNm 1) gNl))) (λ_ M=>.ok true M) (e2 dMul (Zi 0) (e2 dIx (Zi 1) (eC (.int 1))))) aNil))) (ZC (Zan (gNm 5) (ZaK (Zd (eC (.int 0)) (Zd (eC (.int 1)) aNil)))) (ZC (Zdy (gTp (gCs (gNm 6) (gCs (gNm 7) gNl))) (iZp (Zd (Zi 2) (Zd (Zi 1) aNil))) ZbF) (ZR (Zav (e2 dEq (ZaK (Zd (Zi 3) (Zd (Zi 4) aNil))) (ZaK (Zd (eC (.int 0)) (Zd (eC (.int 0)) aNil)))) (Zj F_less (Zd (Zi 5) (Zd (ZaK (Zd (eC (.int 0)) (Zd (eC (.int 1)) aNil))) aNil))))))))))))
def F_none_stands:W3:=fnF Zcv 3 5
def Zc3:Sv:=(ZC (sIf (Zbz (ZY (tv (ZcL "tuple" (Zi 0)))) (tv (e2 dLt (Zj bLen (Zd (Zi 0) aNil)) (eC (.int 4))))) (ZR (eC (.bl false))) sNil) (ZC (ZgJ 1 2 (Zd (e2 dIx (Zi 0) (eC (.int 0))) (Zd (eSl (Zi 0) (oSo (eC (.int 1))) oNo) aNil))) (ZC (sIf (Zb6 (tv (e2 dEq (Zi 1) (eC (.str (PySem.Str.ofString "walk"))))) (tv (e2 dEq (Zj bLen (Zd (Zi 2) aNil)) (eC (.int 3))))) (ZR (Zj F_walk_stands (Zd (e2 dIx (Zi 2) (eC (.int 0))) (Zd (e2 dIx (Zi 2) (eC (.int 1))) (Zd (e2 dIx (Zi 2) (eC (.int 2))) aNil))))) sNil) (ZC (sIf (Zb6 (tv (e2 dEq (Zi 1) (eC (.str (PySem.Str.ofString "turning"))))) (tv (e2 dEq (Zj bLen (Zd (Zi 2) aNil)) (eC (.int 3))))) (ZR (Zj F_turning_stands (Zd (e2 dIx (Zi 2) (eC (.int 0))) (Zd (e2 dIx (Zi 2) (eC (.int 1))) (Zd (e2 dIx (Zi 2) (eC (.int 2))) aNil))))) sNil) (ZC (sIf (Zb6 (tv (e2 dEq (Zi 1) (eC (.str (PySem.Str.ofString "wedge"))))) (tv (e2 dEq (Zj bLen (Zd (Zi 2) aNil)) (eC (.int 4))))) (ZR (Zj F_wedge_stands (Zd (e2 dIx (Zi 2) (eC (.int 0))) (Zd (e2 dIx (Zi 2) (eC (.int 1))) (Zd (e2 dIx (Zi 2) (eC (.int 2))) (Zd (e2 dIx (Zi 2) (eC (.int 3))) aNil)))))) sNil) (ZC (sIf (Zb6 (tv (e2 dEq (Zi 1) (eC (.str (PySem.Str.ofString "parting"))))) (tv (e2 dEq (Zj bLen (Zd (Zi 2) aNil)) (eC (.int 4))))) (ZR (Zj F_parting_stands (Zd (e2 dIx (Zi 2) (eC (.int 0))) (Zd (e2 dIx (Zi 2) (eC (.int 1))) (Zd (e2 dIx (Zi 2) (eC (.int 2))) (Zd (e2 dIx (Zi 2) (eC (.int 3))) aNil)))))) sNil) (ZC (sIf (Zb6 (tv (e2 dEq (Zi 1) (eC (.str (PySem.Str.ofString "none"))))) (tv (e2 dEq (Zj bLen (Zd (Zi 2) aNil)) (eC (.int 3))))) (ZR (Zj F_none_stands (Zd (e2 dIx (Zi 2) (eC (.int 0))) (Zd (e2 dIx (Zi 2) (eC (.int 1))) (Zd (e2 dIx (Zi 2) (eC (.int 2))) aNil))))) sNil) (ZR (eC (.bl false))))))))))
def F_stands:W3:=fnF Zc3 1 2
def Zcw:Sv:=(ZR (Zav (ZcL "tuple" (Zi 0)) (Zav (e2 dEq (Zj bLen (Zd (Zi 0) aNil)) (eC (.int 2))) (Zav (Zj F_law_whole (Zd (e2 dIx (Zi 0) (eC (.int 0))) aNil)) (Zj F_law_whole (Zd (e2 dIx (Zi 0) (eC (.int 1))) aNil))))))
def F_law_is_pair:W3:=fnF Zcw 1 0
def ZbP:Sv:=(ZgJ 0 1 (Zd (Zi 1) (Zd (e2 dMod (Zi 0) (Zi 1)) aNil)))
def ZcR:Sv:=(ZC (Zan (gNm 0) (Zj bAbs (Zd (Zi 0) aNil))) (ZC (Zan (gNm 1) (Zj bAbs (Zd (Zi 1) aNil))) (ZC (sWh (tv (e2 dGt (Zi 1) (eC (.int 0)))) ZbP) (ZR (Zi 0)))))
def F_law_common:W3:=fnF ZcR 2 0
def Zbl:Sv:=(sIf (Zbz (ZY (tv (Zj F_law_is_pair (Zd (Zi 2) aNil)))) (tv (e2 dNe (Zj F_law_common (Zd (e2 dIx (Zi 2) (eC (.int 0))) (Zd (e2 dIx (Zi 2) (eC (.int 1))) aNil))) (eC (.int 1))))) (ZR (eC (.bl false))) sNil)
def Zbm:Sv:=(ZC (Zan (gNm 5) (e2 dIx (Zi 0) (Zi 4))) (ZC (Zan (gNm 6) (e2 dIx (Zi 0) (e2 dMod (e2 dAdd (Zi 4) (eC (.int 1))) (Zj bLen (Zd (Zi 0) aNil))))) (ZC (Zan (gNm 7) (Zj F_law_cross (Zd (Zi 5) (Zd (Zi 6) aNil)))) (ZC (sIf (Zbz (tv (e2 dLe (Zi 7) (eC (.int 0)))) (Zb6 (tv (Zi 1)) (tv (e2 dNe (Zi 7) (eC (.int 1)))))) (ZR (eC (.bl false))) sNil) (sIf (Zbz (Zb6 (tv (e2 dEq (e2 dIx (Zi 5) (eC (.int 1))) (eC (.int 0)))) (tv (e2 dGt (e2 dIx (Zi 5) (eC (.int 0))) (eC (.int 0))))) (Zb6 (tv (e2 dGt (Zj F_law_cross (Zd (Zi 5) (Zd (ZaK (Zd (eC (.int 1)) (Zd (eC (.int 0)) aNil))) aNil))) (eC (.int 0)))) (tv (e2 dGt (Zj F_law_cross (Zd (ZaK (Zd (eC (.int 1)) (Zd (eC (.int 0)) aNil))) (Zd (Zi 6) aNil))) (eC (.int 0)))))) (Zan (gNm 3) (e2 dAdd (Zi 3) (eC (.int 1)))) sNil)))))
def Zb4:Sv:=(ZC (sIf (Zbz (ZY (tv (ZcL "list" (Zi 0)))) (tv (e2 dLt (Zj bLen (Zd (Zi 0) aNil)) (eC (.int 3))))) (ZR (eC (.bl false))) sNil) (ZC (ZnL (gNm 2) (Zi 0) Zbl) (ZC (Zan (gNm 3) (eC (.int 0))) (ZC (ZcM (gNm 4) (Zd (Zj bLen (Zd (Zi 0) aNil)) aNil) Zbm) (ZR (e2 dEq (Zi 3) (eC (.int 1))))))))
def F_law_is_round:W3:=fnF Zb4 2 6
def Zb5(F_law_thing:W3):Sv:=(ZC (ZcT (Zj9 mApp (Zi 3) (Zd (Zj F_law_thing (Zd (Zi 0) (Zd (e2 dSub (Zi 1) (eC (.int 1))) aNil))) aNil))) (Zan (gNm 0) (e2 dDiv (Zi 0) (eC (.int 997)))))
def Zag(F_law_thing:W3):Sv:=(ZC (Zan (gNm 2) (e2 dMod (Zi 0) (eC (.int 8)))) (ZC (Zan (gNm 0) (e2 dDiv (Zi 0) (eC (.int 8)))) (ZC (sIf (Zbz (tv (e2 dEq (Zi 1) (eC (.int 0)))) (tv (e2 dLt (Zi 2) (eC (.int 3))))) (ZC (Zan (gNm 3) (ZcY (Zd (e2 dSub (e2 dMod (Zi 0) (eC (.int 9))) (eC (.int 4))) (Zd (eC (.bl true)) (Zd (eC .non) (Zd (eC (.str (PySem.Str.ofString "walk"))) (Zd (eC (.str (PySem.Str.ofString ""))) (Zd (e2 dSub (eC (.int 0)) (e2 dMod (Zi 0) (e2 dPow (eC (.int 10)) (eC (.int 30))))) (Zd (eC (.int 1)) (Zd (eC (.bl false)) aNil)))))))))) (ZR (e2 dIx (Zi 3) (e2 dMod (e2 dDiv (Zi 0) (eC (.int 9))) (eC (.int 8)))))) sNil) (ZC (Zan (gNm 3) (ZcY aNil)) (ZC (Zan (gNm 4) (e2 dMod (Zi 0) (eC (.int 5)))) (ZC (Zan (gNm 0) (e2 dDiv (Zi 0) (eC (.int 5)))) (ZC (ZcM (gNm 5) (Zd (Zi 4) aNil) (Zb5 F_law_thing)) (ZC (sIf (tv (e2 dEq (e2 dMod (Zi 2) (eC (.int 2))) (eC (.int 0)))) (ZR (Zi 3)) sNil) (ZR (Zj bTup (Zd (Zi 3) aNil)))))))))))
def F_law_thing_0:W3:=fnF (ZC sBad (ZC sBad (ZC sBad (ZC sBad (ZC sBad (ZC sBad (ZC sBad (ZC sBad sBad)))))))) 2 4
def F_law_thing_1:W3:=fnF (Zag F_law_thing_0) 2 4
def F_law_thing_2:W3:=fnF (Zag F_law_thing_1) 2 4
def F_law_thing_3:W3:=fnF (Zag F_law_thing_2) 2 4
def F_law_thing_4:W3:=fnF (Zag F_law_thing_3) 2 4
def F_law_thing:W3:=fnF (Zag F_law_thing_4) 2 4
def ZdM:Sv:=(ZC (Zan (gNm 1) (e2 dMod (Zi 0) (eC (.int 6)))) (ZC (Zan (gNm 0) (e2 dDiv (Zi 0) (eC (.int 6)))) (ZC (Zan (gNm 2) (ZcY (Zd (ZcY (Zd (ZaK (Zd (eC (.int 1)) (Zd (eC (.int 0)) aNil))) (Zd (ZaK (Zd (eC (.int 0)) (Zd (eC (.int 1)) aNil))) (Zd (ZaK (Zd (Zfe (eC (.int 1))) (Zd (Zfe (eC (.int 1))) aNil))) aNil)))) (Zd (ZcY (Zd (ZaK (Zd (eC (.int 1)) (Zd (eC (.int 0)) aNil))) (Zd (ZaK (Zd (eC (.int 0)) (Zd (eC (.int 1)) aNil))) (Zd (ZaK (Zd (Zfe (eC (.int 1))) (Zd (eC (.int 0)) aNil))) (Zd (ZaK (Zd (eC (.int 0)) (Zd (Zfe (eC (.int 1))) aNil))) aNil))))) (Zd (ZcY (Zd (eC (.int 0)) (Zd (eC (.int 1)) (Zd (eC (.int 2)) aNil)))) (Zd (ZcY (Zd (ZaK (Zd (eC (.int 1)) (Zd (eC (.int 0)) aNil))) (Zd (ZaK (Zd (eC (.int 0)) (Zd (eC (.int 1)) aNil))) aNil))) (Zd (ZcY aNil) aNil))))))) (ZC (Zan (gNm 2) (e2 dAdd (Zi 2) (ZcY (Zd (ZcY (Zd (ZaK (Zd (eC (.int 1)) (Zd (eC (.int 1)) aNil))) (Zd (ZaK (Zd (eC (.int 0)) (Zd (eC (.int 1)) aNil))) (Zd (ZaK (Zd (eC (.int 2)) (Zd (eC (.int 1)) aNil))) aNil)))) (Zd (ZaK (Zd (ZaK (Zd (eC (.int 1)) (Zd (eC (.int 0)) aNil))) (Zd (ZaK (Zd (eC (.int 0)) (Zd (eC (.int 1)) aNil))) aNil))) (Zd (ZaK (Zd (eC (.int 0)) (Zd (eC (.int 1)) aNil))) (Zd (ZcY (Zd (ZaK (Zd (eC (.int 0)) (Zd (eC (.int 1)) aNil))) (Zd (ZaK (Zd (eC (.int 1)) (Zd (eC (.int 2)) aNil))) (Zd (ZaK (Zd (Zfe (eC (.int 3))) (Zd (eC (.int 1)) aNil))) aNil)))) (Zd (eC (.int 0)) (Zd (ZcY (Zd (ZaK (Zd (eC (.int 1)) (Zd (eC (.int 0)) aNil))) (Zd (ZaK (Zd (eC (.int 0)) (Zd (eC (.int 1)) aNil))) (Zd (ZaK (Zd (Zfe (eC (.int 1))) (Zd (Zfe (eC (.int 2))) aNil))) aNil)))) aNil))))))))) (ZC (sIf (tv (e2 dLt (Zi 1) (eC (.int 4)))) (ZR (e2 dIx (Zi 2) (e2 dMod (Zi 0) (eC (.int 11))))) sNil) (ZR (Zj F_law_thing (Zd (Zi 0) (Zd (eC (.int 3)) aNil)))))))))
def F_law_part:W3:=fnF ZdM 1 2
def Zbg:Sv:=(ZC (ZcT (Zj9 mApp (Zi 2) (Zd (Zj F_law_part (Zd (Zi 0) aNil)) aNil))) (Zan (gNm 0) (e2 dDiv (Zi 0) (eC (.int 4099)))))
def Zdq:Sv:=(ZC (sIf (tv (e2 dEq (e2 dMod (Zi 0) (eC (.int 4))) (eC (.int 0)))) (ZR (Zj F_law_thing (Zd (e2 dDiv (Zi 0) (eC (.int 4))) (Zd (eC (.int 4)) aNil)))) sNil) (ZC (Zan (gNm 1) (ZcY (Zd (eC (.str (PySem.Str.ofString "walk"))) (Zd (eC (.str (PySem.Str.ofString "turning"))) (Zd (eC (.str (PySem.Str.ofString "wedge"))) (Zd (eC (.str (PySem.Str.ofString "parting"))) (Zd (eC (.str (PySem.Str.ofString "none"))) (Zd (eC (.str (PySem.Str.ofString "Walk"))) (Zd (eC (.str (PySem.Str.ofString ""))) (Zd (eC (.str (PySem.Str.ofString "papers"))) aNil)))))))))) (ZC (Zan (gNm 2) (ZcY (Zd (e2 dIx (Zi 1) (e2 dMod (e2 dDiv (Zi 0) (eC (.int 4))) (eC (.int 8)))) aNil))) (ZC (Zan (gNm 0) (e2 dDiv (Zi 0) (eC (.int 32)))) (ZC (Zan (gNm 3) (e2 dAdd (eC (.int 3)) (e2 dMod (Zi 0) (eC (.int 3))))) (ZC (Zan (gNm 0) (e2 dDiv (Zi 0) (eC (.int 3)))) (ZC (ZcM (gNm 4) (Zd (e2 dSub (Zi 3) (Zj bInt (Zd (e2 dEq (e2 dMod (Zi 0) (eC (.int 16))) (eC (.int 0))) aNil))) aNil) Zbg) (ZC (sIf (tv (e2 dEq (e2 dMod (Zi 0) (eC (.int 9))) (eC (.int 0)))) (ZR (Zi 2)) sNil) (ZR (Zj bTup (Zd (Zi 2) aNil)))))))))))
def F_law_drawn:W3:=fnF Zdq 1 4
def Z1:Sv:=(ZC (sIf (Zbz (ZY (tv (ZcL "tuple" (Zi 0)))) (Zbz (tv (e2 dEq (Zj bLen (Zd (Zi 0) aNil)) (eC (.int 0)))) (ZY (tv (ZcL "str" (e2 dIx (Zi 0) (eC (.int 0)))))))) (ZR (eC (.bl false))) sNil) (ZC (Zan (gNm 1) (Zpg [(PySem.Str.ofString "walk",(eC (.int 4))),(PySem.Str.ofString "turning",(eC (.int 4))),(PySem.Str.ofString "none",(eC (.int 4))),(PySem.Str.ofString "wedge",(eC (.int 5))),(PySem.Str.ofString "parting",(eC (.int 5)))])) (ZC (sIf (Zbz (tv (e2 (ZnN true) (e2 dIx (Zi 0) (eC (.int 0))) (Zi 1))) (tv (e2 dNe (Zj bLen (Zd (Zi 0) aNil)) (e2 ZnM (Zi 1) (e2 dIx (Zi 0) (eC (.int 0))))))) (ZR (eC (.bl false))) sNil) (ZC (sIf (tv (e2 dEq (e2 dIx (Zi 0) (eC (.int 0))) (eC (.str (PySem.Str.ofString "wedge"))))) (ZR (Zav (Zj F_law_is_pair (Zd (e2 dIx (Zi 0) (eC (.int 1))) aNil)) (Zj F_law_is_pair (Zd (e2 dIx (Zi 0) (eC (.int 2))) aNil)))) sNil) (ZR (Zj F_law_is_round (Zd (e2 dIx (Zi 0) (eC (.int 1))) (Zd (e2 dNe (e2 dIx (Zi 0) (eC (.int 0))) (eC (.str (PySem.Str.ofString "turning")))) aNil))))))))
def F_law_may_stand:W3:=fnF Z1 1 1
def ZL(F_law_copy:W3):Sv:=(ZC (sIf (tv (ZcL "list" (Zi 0))) (ZR (ZaP (iSq (Zi 0)) 1 [] (gNm 0) (λ_ M=>.ok true M) (Zj F_law_copy (Zd (Zi 0) aNil)))) sNil) (ZC (sIf (tv (ZcL "tuple" (Zi 0))) (ZR (Zj bTup (Zd (ZaP (iSq (Zi 0)) 1 [] (gNm 0) (λ_ M=>.ok true M) (Zj F_law_copy (Zd (Zi 0) aNil))) aNil))) sNil) (ZR (Zi 0))))
def F_law_copy_0:W3:=fnF (ZC sBad (ZC sBad sBad)) 1 0
def F_law_copy_1:W3:=fnF (ZL F_law_copy_0) 1 0
def F_law_copy_2:W3:=fnF (ZL F_law_copy_1) 1 0
def F_law_copy_3:W3:=fnF (ZL F_law_copy_2) 1 0
def F_law_copy_4:W3:=fnF (ZL F_law_copy_3) 1 0
def F_law_copy:W3:=fnF (ZL F_law_copy_4) 1 0
def Zeh:Sv:=(ZC (Zan (gNm 2) (Zj F_law_drawn (Zd (Zj F_law_cell_at (Zd (Zi 0) (Zd (Zi 1) aNil))) aNil))) (ZC (Zan (gNm 3) (Zj F_law_copy (Zd (Zi 2) aNil))) (ZC (Zan (gNm 4) (Zj F_stands (Zd (Zi 3) aNil))) (ZC (sIf (Zbz (ZY (tv (ZcL "bool" (Zi 4)))) (tv (e2 dNe (Zi 3) (Zi 2)))) (ZR (eC (.bl false))) sNil) (sIf (Zb6 (tv (Zi 4)) (ZY (tv (Zj F_law_may_stand (Zd (Zi 2) aNil))))) (ZR (eC (.bl false))) sNil)))))
def ZqQ:Sv:=(ZC (ZcM (gNm 1) (Zd (Zj bMax (Zd (eC (.int 2)) (Zd (Zj bMin (Zd (Zj bLen (Zd (Zi 0) aNil)) (Zd (eC (.int 60)) aNil))) aNil))) aNil) Zeh) (ZR (Zav (e2 dIs (Zj F_stands (Zd (ZaK (Zd (eC (.str (PySem.Str.ofString "wedge"))) (Zd (ZaK (Zd (eC (.int 1)) (Zd (eC (.int 0)) aNil))) (Zd (ZaK (Zd (eC (.int 0)) (Zd (eC (.int 1)) aNil))) (Zd (ZcY aNil) (Zd (ZcY aNil) aNil)))))) aNil)) (eC (.bl true))) (e2 dIs (Zj F_stands (Zd (ZaK aNil) aNil)) (eC (.bl false))))))
def ZfF:W3:=fnF ZqQ 1 4
variable (T:Txt K mg)
include T
theorem C1:Cal P w K mg base "is_whole" 1 1 F_is_whole:=ZJ (N:=["thing"]) (T.d.at 0 9) T.gl λ_ _ _ _ _ _ _ nd hr θ=>(Zg (Zl (Zak (ZV ZhT T.b_isinstance T.b_int ZhZ (Zb 0)) (ZaL (Zk3 (ZV ZdW T.b_isinstance T.b_bool Zff (Zb 0)))))))
theorem C2:Cal P w K mg base "greatest_divisor" 101 2 F_greatest_divisor:=ZJ (N:=["one","other","high","low"]) (T.d.at 1 10) T.gl λ_ _ _ _ _ _ _ nd hr θ=>(Zf (ZfS 2 3 (ZA hr (by decide)) nd (Za (Zn Zch Zeu T.b_abs ZeA (Za (Zb 0) Ze)) (Za (Zn Zch Zeu T.b_abs ZeA (Za (Zb 1) Ze)) Ze)))
  (Zf (ZfT θ.own (Zr (ZaT hr.units) Zb7 (Zb 3) Zc) (Zg (ZfS 2 3 (ZA hr (by decide)) nd (Za (Zb 3) (Za (ZD (Zb 2) (Zb 3)) Ze)))))
  (Zg (Zl (Zb 2)))))
theorem C3:Cal P w K mg base "is_pair" 2 1 F_is_pair:=ZJ (N:=["thing"]) (T.d.at 2 12) T.gl λ_ _ _ _ _ _ _ nd hr θ=>(Zg (Zl (Zak (ZV Zae T.b_isinstance T.b_tuple ZK (Zb 0)) (Zak (Zab (ZF hr.units) Z2 (Zn Zk ZM T.b_len PySem.boot_len (Za (Zb 0) Ze)) Zc) (Zak (Zh (C1 T) θ hr (Za (Zt (Zb 0) Zc) Ze)) (ZaL (Zh (C1 T) θ hr (Za (Zt (Zb 0) Zc) Ze))))))))
theorem C4:Cal P w K mg base "crossed" 1 2 F_crossed:=ZJ (N:=["one","other"]) (T.d.at 3 13) T.gl λ_ _ _ _ _ _ _ nd hr θ=>(Zg (Zl (Zal (Zad (Zt (Zb 0) Zc) (Zt (Zb 1) Zc)) (Zad (Zt (Zb 0) Zc) (Zt (Zb 1) Zc)))))
theorem C5:Cal P w K mg base "product" 1 2 F_product:=ZJ (N:=["one","other"]) (T.d.at 4 14) T.gl λ_ _ _ _ _ _ _ nd hr θ=>(Zg (Zl (ZaM (Zad (Zt (Zb 0) Zc) (Zt (Zb 1) Zc)) (Zad (Zt (Zb 0) Zc) (Zt (Zb 1) Zc)))))
theorem C6:Cal P w K mg base "common" 102 1 F_common:=ZJ (N:=["pair"]) (T.d.at 5 15) T.gl λ_ _ _ _ _ _ _ nd hr θ=>(Zg (Zl (Zh (C2 T) θ hr (Za (Zt (Zb 0) Zc) (Za (Zt (Zb 0) Zc) Ze)))))
theorem C7:Cal P w K mg base "is_ray" 103 1 F_is_ray:=ZJ (N:=["thing"]) (T.d.at 6 16) T.gl λ_ _ _ _ _ _ _ nd hr θ=>(Zg (Zl (Zak (Zh (C3 T) θ hr (Za (Zb 0) Ze)) (ZaL (Zab (ZF hr.units) Z2 (Zh (C6 T) θ hr (Za (Zb 0) Ze)) Zc)))))
theorem C8:Cal P w K mg base "spanned" 2 2 F_spanned:=ZJ (N:=["one","other"]) (T.d.at 7 17) T.gl λ_ _ _ _ _ _ _ nd hr θ=>(Zg (Zl (Zab (ZF hr.units) Z2 (Zn Zch Zeu T.b_abs ZeA (Za (Zh (C4 T) θ hr (Za (Zb 0) (Za (Zb 1) Ze))) Ze)) Zc)))
theorem C9:Cal P w K mg base "is_turning" 3 1 F_is_turning:=ZJ (N:=["thing"]) (T.d.at 8 18) T.gl λ_ _ _ _ _ _ _ nd hr θ=>(Zf (Zz (ZbG (Zac (ZP (Zw (ZV Zae T.b_isinstance T.b_tuple ZK (Zb 0)))) (ZZ (Zr (ZaT hr.units) Zb7 (Zn Zk ZM T.b_len PySem.boot_len (Za (Zb 0) Ze)) Zc)))) (Zg (Zl ZW)) Zo) (Zg (Zl (Zak (Zh (C3 T) θ hr (Za (Zt (Zb 0) Zc) Ze)) (Zak (Zh (C3 T) θ hr (Za (Zt (Zb 0) Zc) Ze)) (ZaL (Zh (C8 T) θ hr (Za (Zt (Zb 0) Zc) (Za (Zt (Zb 0) Zc) Ze)))))))))
theorem C10:Cal P w K mg base "turned" 101 2 F_turned:=ZJ (N:=["turning","pair","a","b","c","d","x","y"]) (T.d.at 9 19) T.gl λ_ _ _ _ _ _ _ nd hr θ=>(Zf (ZfR (Zb 0) (ZaC (ZA hr (by decide)) (Zu (ZaC (ZA hr (by decide)) (Zu (Zp 2 nd) (Zu (Zp 3 nd) Z8)) (hlen:=(Zy (Zy (λ_ _ _ h=>Z9 h))))) (Zu (ZaC (ZA hr (by decide)) (Zu (Zp 4 nd) (Zu (Zp 5 nd) Z8)) (hlen:=(Zy (Zy (λ_ _ _ h=>Z9 h))))) Z8)) (hlen:=(Zy (Zy (λ_ _ _ h=>Z9 h))))))
  (Zf (ZfR (Zb 1) (ZaC (ZA hr (by decide)) (Zu (Zp 6 nd) (Zu (Zp 7 nd) Z8)) (hlen:=(Zy (Zy (λ_ _ _ h=>Z9 h))))))
  (Zg (Zl (ZB (Za (ZaM (Zad (Zb 2) (Zb 6)) (Zad (Zb 3) (Zb 7))) (Za (ZaM (Zad (Zb 4) (Zb 6)) (Zad (Zb 5) (Zb 7))) Ze)))))))
theorem C11:Cal P w K mg base "following" 1 2 F_following:=ZJ (N:=["things","at"]) (T.d.at 10 21) T.gl λ_ _ _ _ _ _ _ nd hr θ=>(Zg (Zl (Zt (Zb 0) (ZD (ZaM (Zb 1) Zc) (Zn Zk ZM T.b_len PySem.boot_len (Za (Zb 0) Ze))))))
theorem C12:Cal P w K mg base "met_direction" 1 2 F_met_direction:=ZJ (N:=["ray","behind"]) (T.d.at 11 22) T.gl λ_ _ _ _ _ _ _ nd hr θ=>(Zg (Zl (ZrS (Zab (ZF hr.units) Z2 (Zb 0) (ZB (Za Zc (Za Zc Ze)))) (ZaL (Zpi ZbH ZbI ZbH ZbI Zph (Zt (Zb 0) Zc) Zc (Zt (Zb 1) Zc))))))
theorem C13:Cal P w K mg base "look_round" 104 1 F_look_round:=ZJ (N:=["thing","at","ray"]) (T.d.at 12 23) T.gl λ_ _ _ _ _ _ _ nd hr θ=>(Zf (Zz (ZbG (Zac (ZP (Zw (ZV Zap T.b_isinstance T.b_list Zaw (Zb 0)))) (ZZ (Zr ZbH ZbI (Zn Zk ZM T.b_len PySem.boot_len (Za (Zb 0) Ze)) Zc)))) (Zg (Zco T.in_NoRound (λf fd C J E=>Zeg J T.gl E) θ (by decide +kernel) T.gl (hr.hd (by decide)) (hr.mono (by decide)) (Za ZH (Za Zc Ze)))) Zo)
  (Zf (ZcA θ.own (Zda (hr.hd (by decide)) T.b_enumerate (Za (Zb 0) Ze)) (ZaC (ZA hr (by decide)) (Zu (Zp 1 nd) (Zu (Zp 2 nd) Z8)) (hlen:=(Zy (Zy (λ_ _ _ h=>Z9 h))))) (Zg (Zz (ZP (Zw (Zh (C7 T) θ hr (Za (Zb 2) Ze)))) (Zg (Zco T.in_NoRound (λf fd C J E=>Zeg J T.gl E) θ (by decide +kernel) T.gl (hr.hd (by decide)) (hr.mono (by decide)) (Za ZH (Za (Zb 1) Ze)))) Zo)))
  (Zf (ZcA θ.own (Zda (hr.hd (by decide)) T.b_enumerate (Za (Zb 0) Ze)) (ZaC (ZA hr (by decide)) (Zu (Zp 1 nd) (Zu (Zp 2 nd) Z8)) (hlen:=(Zy (Zy (λ_ _ _ h=>Z9 h))))) (Zg (Zz (Zr Zhl ZhM (Zh (C4 T) θ hr (Za (Zb 2) (Za (Zh (C11 T) θ hr (Za (Zb 0) (Za (Zb 1) Ze))) Ze))) Zc) (Zg (Zco T.in_NoRound (λf fd C J E=>Zeg J T.gl E) θ (by decide +kernel) T.gl (hr.hd (by decide)) (hr.mono (by decide)) (Za ZH (Za (Zb 1) Ze)))) Zo)))
  (Zg (Zz (Zr Zhm ZhN (Zn Zk ZM T.b_len PySem.boot_len (Za (ZS (Zc1 ["thing","at","ray"] ["at","ray","thing"] (dS 23) 2 [0]) (Zda (hr.hd (by decide)) T.b_enumerate (Za (Zb 0) Ze)) λ_ _ _ _ _=>⟨(ZaC (ZA hr (by decide)) (Zu (Zp 0 (show aW (["at","ray","thing"]:List Str)by decide +kernel)) (Zu (Zp 1 (show aW (["at","ray","thing"]:List Str)by decide +kernel)) Z8)) (hlen:=(Zy (Zy (λ_ _ _ h=>Z9 h))))),(i3 ⟨_,rfl,(Zw (Zh (C12 T) ZQ hr (Za (Zb 1) (Za (Zh (C11 T) ZQ hr (Za (Zb 2) (Za (Zb 0) Ze))) Ze))))⟩),(Zb 0)⟩) Ze)) Zc) (Zg (Zco T.in_NoRound (λf fd C J E=>Zeg J T.gl E) θ (by decide +kernel) T.gl (hr.hd (by decide)) (hr.mono (by decide)) (Za ZH (Za Zc Ze)))) Zo)))))
theorem C14:Cal P w K mg base "is_round" 105 1 F_is_round:=ZJ (N:=["thing"]) (T.d.at 13 24) T.gl λ_ _ _ _ _ _ _ nd hr θ=>(Zf (ZiQ (Zkx T.ct_NoRound T.gl) (hr.hd (by decide)) rfl rfl rfl [false] (λpn xe σ ξ' θ'=>(Zg (ZaU (Zh (C13 T) θ' hr (Za (Zb 0) Ze))))) (λea=>(Zg (Zl ZW))))
  (Zg (Zl ZW)))
theorem C15:Cal P w K mg base "unspanned" 101 1 F_unspanned:=ZJ (N:=["rays","at","ray"]) (T.d.at 14 25) T.gl λ_ _ _ _ _ _ _ nd hr θ=>(Zf (ZcA θ.own (Zda (hr.hd (by decide)) T.b_enumerate (Za (Zb 0) Ze)) (ZaC (ZA hr (by decide)) (Zu (Zp 1 nd) (Zu (Zp 2 nd) Z8)) (hlen:=(Zy (Zy (λ_ _ _ h=>Z9 h))))) (Zg (Zz (Zr (ZaT hr.units) Zb7 (Zh (C4 T) θ hr (Za (Zb 2) (Za (Zh (C11 T) θ hr (Za (Zb 0) (Za (Zb 1) Ze))) Ze))) Zc) (Zg (Zl (Zb 1))) Zo)))
  (Zg (Zl ZcK)))
theorem C16:Cal P w K mg base "ask_smooth" 102 1 F_ask_smooth:=ZJ (N:=["rays","at"]) (T.d.at 15 26) T.gl λ_ _ _ _ _ _ _ nd hr θ=>(Zf (Zq 1 nd (Zh (C15 T) θ hr (Za (Zb 0) Ze))) (Zg (Zz (Zr ZhS ZjX (Zb 1) ZcK) (Zg (ZbR θ T.ex_NotSmooth T.gl (hr.hd (by decide)) (Za (ZmH (Zbc ZH (Zbc (Zki (Zb 1)) (Zbc ZH Zio)))) Ze))) Zo)))
theorem C17:Cal P w K mg base "numbers" 103 1 F_numbers:=ZJ (N:=["rays"]) (T.d.at 16 28) T.gl λ_ _ _ _ _ _ _ nd hr θ=>(Zf (ZaU (Zh (C16 T) θ hr (Za (Zb 0) Ze))) (Zg (Zl (ZS (Zc1 ["rays"] ["at","rays"] (dS 28) 1 [0]) (Zh1 T.b_range (Za (Zn Zk ZM T.b_len PySem.boot_len (Za (Zb 0) Ze)) Ze)) λ_ _ _ _ _=>⟨(Zp 0 (show aW (["at","rays"]:List Str)by decide +kernel)),(bZ ⟨rfl,rfl⟩),(Zh (C4 T) ZQ hr (Za (Zh (C11 T) ZQ hr (Za (Zb 1) (Za (Zb 0) Ze))) (Za (Zt (Zb 1) (Zal (Zb 0) Zc)) Ze)))⟩))))
theorem C18:Cal P w K mg base "ratio" 102 2 F_ratio:=ZJ (N:=["top","bottom","part"]) (T.d.at 17 30) T.gl λ_ _ _ _ _ _ _ nd hr θ=>(Zf (Zz (ZbG (Zac (ZP (Zw (Zh (C1 T) θ hr (Za (Zb 0) Ze)))) (ZZ (ZP (Zw (Zh (C1 T) θ hr (Za (Zb 1) Ze))))))) (Zg (ZbR θ T.ex_NoRatio T.gl (hr.hd (by decide)) (Za ZH Ze))) Zo)
  (Zf (Zz (Zr (ZF hr.units) Z2 (Zb 1) Zc) (Zg (ZbR θ T.ex_NoRatio T.gl (hr.hd (by decide)) (Za ZH Ze))) Zo)
  (Zf (Zq 2 nd (Zh (C2 T) θ hr (Za (Zb 0) (Za (Zb 1) Ze)))) (Zf (Zz (Zr ZbH ZbI (Zb 1) Zc) (Zg (Zq 2 nd (Zb2 (Zb 2)))) Zo) (Zg (Zl (ZB (Za (ZU (Zb 0) (Zb 2)) (Za (ZU (Zb 1) (Zb 2)) Ze)))))))))
theorem C19:Cal P w K mg base "plus" 103 2 F_plus:=ZJ (N:=["one","other"]) (T.d.at 18 31) T.gl λ_ _ _ _ _ _ _ nd hr θ=>(Zg (Zl (Zh (C18 T) θ hr (Za (ZaM (Zad (Zt (Zb 0) Zc) (Zt (Zb 1) Zc)) (Zad (Zt (Zb 1) Zc) (Zt (Zb 0) Zc))) (Za (Zad (Zt (Zb 0) Zc) (Zt (Zb 1) Zc)) Ze)))))
theorem C20:Cal P w K mg base "times" 103 2 F_times:=ZJ (N:=["one","other"]) (T.d.at 19 32) T.gl λ_ _ _ _ _ _ _ nd hr θ=>(Zg (Zl (Zh (C18 T) θ hr (Za (Zad (Zt (Zb 0) Zc) (Zt (Zb 1) Zc)) (Za (Zad (Zt (Zb 0) Zc) (Zt (Zb 1) Zc)) Ze)))))
theorem C21:Cal P w K mg base "less" 1 2 F_less:=ZJ (N:=["one","other"]) (T.d.at 20 33) T.gl λ_ _ _ _ _ _ _ nd hr θ=>(Zg (Zl (Zab ZbH ZbI (Zad (Zt (Zb 0) Zc) (Zt (Zb 1) Zc)) (Zad (Zt (Zb 1) Zc) (Zt (Zb 0) Zc)))))
theorem C22:Cal P w K mg base "is_ratio" 102 1 F_is_ratio:=ZJ (N:=["thing"]) (T.d.at 21 34) T.gl λ_ _ _ _ _ _ _ nd hr θ=>(Zf (Zz (ZbG (Zac (ZP (Zw (ZV Zae T.b_isinstance T.b_tuple ZK (Zb 0)))) (Zac (Zr (ZaT hr.units) Zb7 (Zn Zk ZM T.b_len PySem.boot_len (Za (Zb 0) Ze)) Zc) (Zac (ZP (Zw (Zh (C1 T) θ hr (Za (Zt (Zb 0) Zc) Ze)))) (ZZ (ZP (Zw (Zh (C1 T) θ hr (Za (Zt (Zb 0) Zc) Ze))))))))) (Zg (Zl ZW)) Zo) (Zg (Zl (Zak (Zab ZjC ZjV (Zt (Zb 0) Zc) Zc) (ZaL (Zab (ZF hr.units) Z2 (Zh (C2 T) θ hr (Za (Zt (Zb 0) Zc) (Za (Zt (Zb 0) Zc) Ze))) Zc))))))
theorem C23:Cal P w K mg base "ask_height" 101 2 F_ask_height:=ZJ (N:=["rays","height"]) (T.d.at 22 36) T.gl λ_ _ _ _ _ _ _ nd hr θ=>(Zg (Zz (Zr (ZaT hr.units) Zb7 (Zn Zk ZM T.b_len PySem.boot_len (Za (Zb 1) Ze)) (Zn Zk ZM T.b_len PySem.boot_len (Za (Zb 0) Ze))) (Zg (ZbR θ T.ex_NoHeight T.gl (hr.hd (by decide)) (Za (ZmH (Zbc ZH (Zbc (Zki (Zn Zk ZM T.b_len PySem.boot_len (Za (Zb 0) Ze))) (Zbc ZH (Zbc (Zki (Zn Zk ZM T.b_len PySem.boot_len (Za (Zb 1) Ze))) (Zbc ZH Zio)))))) Ze))) Zo))
theorem C24:Cal P w K mg base "bends" 104 2 F_bends:=ZJ (N:=["rays","height","row","told","at","own","beside"]) (T.d.at 23 37) T.gl λ_ _ _ _ _ _ _ nd hr θ=>(Zf (Zq 2 nd (Zh (C17 T) θ hr (Za (Zb 0) Ze))) (Zf (ZaU (Zh (C23 T) θ hr (Za (Zb 0) (Za (Zb 1) Ze)))) (Zf (Zq 3 nd (Z0 Ze)) (Zf (ZcA θ.own (Zda (hr.hd (by decide)) T.b_enumerate (Za (Zb 1) Ze)) (ZaC (ZA hr (by decide)) (Zu (Zp 4 nd) (Zu (Zp 5 nd) Z8)) (hlen:=(Zy (Zy (λ_ _ _ h=>Z9 h))))) (Zf (Zq 6 nd (Zh (C19 T) θ hr (Za (Zt (Zb 1) (Zal (Zb 4) Zc)) (Za (Zh (C11 T) θ hr (Za (Zb 1) (Za (Zb 4) Ze))) Ze))))
  (Zg (ZaU (ZaW (Zb 3) (Zh (C19 T) θ hr (Za (Zb 6) (Za (Zh (C20 T) θ hr (Za (ZB (Za (Zt (Zb 2) (Zb 4)) (Za Zc Ze))) (Za (Zb 5) Ze))) Ze))))))))
  (Zg (Zl (Zb 3)))))))
theorem C25:Cal P w K mg base "ask_place" 101 2 F_ask_place:=ZJ (N:=["rays","at"]) (T.d.at 24 39) T.gl λ_ _ _ _ _ _ _ nd hr θ=>(Zg (Zz (ZbG (Zac (Zr ZbH ZbI (Zb 1) Zc) (ZZ (Zr ZjC ZjV (Zb 1) (Zn Zk ZM T.b_len PySem.boot_len (Za (Zb 0) Ze)))))) (Zg (ZbR θ T.ex_NoPlace T.gl (hr.hd (by decide)) (Za (ZmH (Zbc ZH (Zbc (Zki (Zal (Zn Zk ZM T.b_len PySem.boot_len (Za (Zb 0) Ze)) Zc)) Zio))) Ze))) Zo))
theorem C26:Cal P w K mg base "taken_out" 104 2 F_taken_out:=ZJ (N:=["rays","at","row"]) (T.d.at 25 40) T.gl λ_ _ _ _ _ _ _ nd hr θ=>(Zf (Zq 2 nd (Zh (C17 T) θ hr (Za (Zb 0) Ze))) (Zf (ZaU (Zh (C25 T) θ hr (Za (Zb 0) (Za (Zb 1) Ze)))) (Zf (Zz (ZbG (Zac (Zr (ZaT hr.units) Zb7 (Zt (Zb 2) (Zb 1)) (Zb2 Zc)) (ZZ (Zr ZbH ZbI (Zn Zk ZM T.b_len PySem.boot_len (Za (Zb 0) Ze)) Zc)))) (Zg (ZbR θ T.ex_NoMinus T.gl (hr.hd (by decide)) (Za ZH Ze))) Zo)
  (Zg (Zl (ZaM (Zkc (Zb 0) Zka (Zkb (Zb 1))) (Zkc (Zb 0) (Zkb (ZaM (Zb 1) Zc)) Zka)))))))
theorem C27:Cal P w K mg base "is_smooth" 106 1 F_is_smooth:=ZJ (N:=["thing"]) (T.d.at 26 42) T.gl λ_ _ _ _ _ _ _ nd hr θ=>(Zg (Zl (Zak (Zh (C14 T) θ hr (Za (Zb 0) Ze)) (ZaL (Zab ZhR Zmn (Zh (C15 T) θ hr (Za (Zb 0) Ze)) ZcK)))))
theorem C28:Cal P w K mg base "is_height" 103 2 F_is_height:=ZJ (N:=["thing","rays"]) (T.d.at 27 43) T.gl λ_ _ _ _ _ _ _ nd hr θ=>(Zg (Zl (Zak (ZV Zap T.b_isinstance T.b_list Zaw (Zb 0)) (Zak (Zab (ZF hr.units) Z2 (Zn Zk ZM T.b_len PySem.boot_len (Za (Zb 0) Ze)) (Zn Zk ZM T.b_len PySem.boot_len (Za (Zb 1) Ze))) (ZaL (Zn (Za7 (ZA hr (by decide))) ZcO T.b_all ZcN (Za (ZS (Zc1 (n:=0) ["thing","rays"] ["own"] (dS 43) 1 []) (ZaH (Zb 0)) λ_ _ _ _ _=>⟨(Zp 0 (show aW (["own"]:List Str)by decide +kernel)),(bZ ⟨rfl,rfl⟩),(Zh (C22 T) ZQ hr (Za (Zb 0) Ze))⟩) Ze)))))))
theorem C29:Cal P w K mg base "walk_stands" 107 3 F_walk_stands:=ZJ (N:=["rays","places","last","left","at"]) (T.d.at 28 44) T.gl λ_ _ _ _ _ _ _ nd hr θ=>(Zf (Zz (ZbG (Zac (ZP (Zw (Zh (C27 T) θ hr (Za (Zb 0) Ze)))) (Zac (ZP (Zw (ZV Zap T.b_isinstance T.b_list Zaw (Zb 1)))) (ZZ (ZP (Zw (Zh (C14 T) θ hr (Za (Zb 2) Ze)))))))) (Zg (Zl ZW)) Zo) (Zf (Zq 3 nd (Zb 0)) (Zf (ZhY θ.own (Zb 1) (Zp 4 nd) (Zf (Zz (ZP (Zw (Zh (C1 T) θ hr (Za (Zb 4) Ze)))) (Zg (Zl ZW)) Zo) (Zg (ZiQ (Zky T.cu_NoPlace__NoMinus T.gl) (hr.hd (by decide)) rfl rfl rfl [false,false,false,true,false] (λpn xe σ ξ' θ'=>(Zg (Zq 3 nd (Zh (C26 T) θ' hr (Za (Zb 3) (Za (Zb 4) Ze)))))) (λea=>(Zg (Zl ZW)))))))
  (Zg (Zl (Zak (Zab (ZF hr.units) Z2 (Zb 3) (Zb 2)) (ZaL (Zab Zhl ZhM (Zn Zk ZM T.b_len PySem.boot_len (Za (Zb 2) Ze)) Zc))))))))
theorem C30:Cal P w K mg base "turning_stands" 106 3 F_turning_stands:=ZJ (N:=["one","other","turning"]) (T.d.at 29 45) T.gl λ_ _ _ _ _ _ _ nd hr θ=>(Zf (Zz (ZbG (Zac (ZP (Zw (Zh (C14 T) θ hr (Za (Zb 0) Ze)))) (Zac (ZP (Zw (Zh (C14 T) θ hr (Za (Zb 1) Ze)))) (ZZ (ZP (Zw (Zh (C9 T) θ hr (Za (Zb 2) Ze)))))))) (Zg (Zl ZW)) Zo) (Zg (Zl (Zab (ZF hr.units) Z2 (Zn Zdi ZeQ T.b_sorted ZeN (Za (ZS (Zc1 ["one","other","turning"] ["ray","turning"] (dS 45) 1 [2]) (ZaH (Zb 0)) λ_ _ _ _ _=>⟨(Zp 0 (show aW (["ray","turning"]:List Str)by decide +kernel)),(bZ ⟨rfl,rfl⟩),(Zh (C10 T) ZQ hr (Za (Zb 1) (Za (Zb 0) Ze)))⟩) Ze)) (Zn Zdi ZeQ T.b_sorted ZeN (Za (Zb 1) Ze))))))
theorem C31:Cal P w K mg base "show_stands" 101 3 F_show_stands:=ZJ (N:=["show","ray","wedge"]) (T.d.at 30 46) T.gl λ_ _ _ _ _ _ _ nd hr θ=>(Zg (Zl (Zak (Zh (C3 T) θ hr (Za (Zb 0) Ze)) (Zak (Zab (ZF hr.units) Z2 (Zh (C5 T) θ hr (Za (Zb 0) (Za (Zb 1) Ze))) Zc) (ZaL (Zn (Za7 (ZA hr (by decide))) ZcO T.b_all ZcN (Za (ZS (Zc1 ["show","ray","wedge"] ["other","show"] (dS 46) 1 [0]) (ZaH (Zb 2)) λ_ _ _ _ _=>⟨(Zp 0 (show aW (["other","show"]:List Str)by decide +kernel)),(bZ ⟨rfl,rfl⟩),(Zab ZjC ZjV (Zh (C5 T) ZQ hr (Za (Zb 1) (Za (Zb 0) Ze))) Zc)⟩) Ze)))))))
theorem C32:Cal P w K mg base "wedge_stands" 104 4 F_wedge_stands:=ZJ (N:=["u","v","rays","shows","wedge"]) (T.d.at 31 47) T.gl λ_ _ _ _ _ _ _ nd hr θ=>(Zf (Zz (ZbG (Zac (ZP (Zw (Zh (C7 T) θ hr (Za (Zb 0) Ze)))) (Zac (ZP (Zw (Zh (C7 T) θ hr (Za (Zb 1) Ze)))) (ZZ (Zr Zhl ZhM (Zh (C4 T) θ hr (Za (Zb 0) (Za (Zb 1) Ze))) Zc))))) (Zg (Zl ZW)) Zo) (Zf (Zz (ZbG (Zac (ZP (Zw (ZV Zap T.b_isinstance T.b_list Zaw (Zb 2)))) (Zac (ZP (Zw (ZV Zap T.b_isinstance T.b_list Zaw (Zb 3)))) (ZZ (Zr (ZaT hr.units) Zb7 (Zn Zk ZM T.b_len PySem.boot_len (Za (Zb 2) Ze)) (Zn Zk ZM T.b_len PySem.boot_len (Za (Zb 3) Ze))))))) (Zg (Zl ZW)) Zo) (Zf (Zz (ZP (Zw (Zn (Za7 (ZA hr (by decide))) ZcO T.b_all ZcN (Za (ZS (Zc1 ["u","v","rays","shows","wedge"] ["ray"] (dS 47) 1 []) (ZaH (Zb 2)) λ_ _ _ _ _=>⟨(Zp 0 (show aW (["ray"]:List Str)by decide +kernel)),(bZ ⟨rfl,rfl⟩),(Zh (C7 T) ZQ hr (Za (Zb 0) Ze))⟩) Ze)))) (Zg (Zl ZW)) Zo)
  (Zf (Zq 4 nd (ZaM (ZaM (Z0 (Za (Zb 0) Ze)) (Zb 2)) (Z0 (Za (Zb 1) Ze)))) (Zf (Zz (ZP (Zw (Zn (Za7 (ZA hr (by decide))) ZcO T.b_all ZcN (Za (ZS (Zc1 ["u","v","rays","shows","wedge"] ["ray","behind"] (dS 47) 2 []) (Zdb (hr.hd (by decide)) T.b_zip (Za (Zb 4) (Za (Zkc (Zb 4) (Zkb Zc) Zka) Ze))) λ_ _ _ _ _=>⟨(ZaC (ZA hr (by decide)) (Zu (Zp 0 (show aW (["ray","behind"]:List Str)by decide +kernel)) (Zu (Zp 1 (show aW (["ray","behind"]:List Str)by decide +kernel)) Z8)) (hlen:=(Zy (Zy (λ_ _ _ h=>Z9 h))))),(bZ ⟨rfl,rfl⟩),(Zab (ZF hr.units) Z2 (Zh (C4 T) ZQ hr (Za (Zb 0) (Za (Zb 1) Ze))) Zc)⟩) Ze)))) (Zg (Zl ZW)) Zo)
  (Zg (Zl (Zn (Za7 (ZA hr (by decide))) ZcO T.b_all ZcN (Za (ZS (Zc1 ["u","v","rays","shows","wedge"] ["ray","show","wedge"] (dS 47) 2 [4]) (Zdb (hr.hd (by decide)) T.b_zip (Za (Zb 2) (Za (Zb 3) Ze))) λ_ _ _ _ _=>⟨(ZaC (ZA hr (by decide)) (Zu (Zp 0 (show aW (["ray","show","wedge"]:List Str)by decide +kernel)) (Zu (Zp 1 (show aW (["ray","show","wedge"]:List Str)by decide +kernel)) Z8)) (hlen:=(Zy (Zy (λ_ _ _ h=>Z9 h))))),(bZ ⟨rfl,rfl⟩),(Zh (C31 T) ZQ hr (Za (Zb 1) (Za (Zb 0) (Za (Zb 2) Ze))))⟩) Ze)))))))))
theorem C33:Cal P w K mg base "crosses_below" 104 2 F_crosses_below:=ZJ (N:=["rays","stuck","marks","start","row","ahead","here","at"]) (T.d.at 32 48) T.gl λ_ _ _ _ _ _ _ nd hr θ=>(Zf (ZmI 2 nd (Zc1 (n:=0) ["rays","stuck","marks","start","row","ahead","here","at"] ["own"] (dS 48) 1 []) (ZaH (Zb 1)) λ_ _ _ _ _=>⟨(Zp 0 (show aW (["own"]:List Str)by decide +kernel)),(bZ ⟨rfl,rfl⟩),(Zh (C21 T) ZQ hr (Za (ZB (Za Zc (Za Zc Ze))) (Za (Zb 0) Ze)))⟩)
  (Zf (Zz (Zw (Zn (Za7 (ZA hr (by decide))) ZcO T.b_all ZcN (Za (Zb 2) Ze))) (Zg (Zl ZW)) Zo)
  (Zf (Zq 3 nd (Zo0 PySem.F.slot_list_index PySem.F.type_list_index (Zo7 hr.units) Zo8 (Zb 2) (Za ZW Ze))) (Zf (Zq 4 nd (Zh (C17 T) θ hr (Za (Zb 0) Ze))) (Zf (ZfR (ZB (Za Zc (Za Zc Ze))) (ZaC (ZA hr (by decide)) (Zu (Zp 5 nd) (Zu (Zp 6 nd) Z8)) (hlen:=(Zy (Zy (λ_ _ _ h=>Z9 h))))))
  (Zf (ZhY θ.own (ZaM (Zpf (hr.hd (by decide)) T.b_range T.b_list (Za (Zb 3) (Za (Zn Zk ZM T.b_len PySem.boot_len (Za (Zb 0) Ze)) Ze))) (Zpe (hr.hd (by decide)) T.b_range T.b_list (Za (Zb 3) Ze))) (Zp 7 nd) (Zf (ZfR (ZrT (Zw (Zt (Zb 2) (Zb 7))) (ZB (Za (Zb 6) (Za (Zal (Zad (Zb2 (Zt (Zb 4) (Zb 7))) (Zb 6)) (Zb 5)) Ze))) (ZB (Za Zc (Za Zc Ze)))) (ZaC (ZA hr (by decide)) (Zu (Zp 5 nd) (Zu (Zp 6 nd) Z8)) (hlen:=(Zy (Zy (λ_ _ _ h=>Z9 h))))))
  (Zg (Zz (Zr Zhl ZhM (Zb 6) Zc) (Zg (Zl ZW)) Zo))))
  (Zg (Zl ZW))))))))
theorem C34:Cal P w K mg base "parting_stands" 107 4 F_parting_stands:=ZJ (N:=["rays","height","first","stuck","bend","rest"]) (T.d.at 33 49) T.gl λ_ _ _ _ _ _ _ nd hr θ=>(Zf (Zz (ZbG (Zac (ZP (Zw (Zh (C27 T) θ hr (Za (Zb 0) Ze)))) (ZZ (ZP (Zw (Zn (Za7 (ZA hr (by decide))) ZcO T.b_all ZcN (Za (ZS (Zc1 ["rays","height","first","stuck","bend","rest"] ["thing","rays"] (dS 49) 1 [0]) (ZaH (ZB (Za (Zb 1) (Za (Zb 2) (Za (Zb 3) Ze))))) λ_ _ _ _ _=>⟨(Zp 0 (show aW (["thing","rays"]:List Str)by decide +kernel)),(bZ ⟨rfl,rfl⟩),(Zh (C28 T) ZQ hr (Za (Zb 0) (Za (Zb 1) Ze)))⟩) Ze))))))) (Zg (Zl ZW)) Zo)
  (Zf (Zz (Zr (ZaT hr.units) Zb7 (ZS (Zc1 ["rays","height","first","stuck","bend","rest"] ["part","rest"] (dS 49) 2 []) (Zdb (hr.hd (by decide)) T.b_zip (Za (Zb 2) (Za (Zb 3) Ze))) λ_ _ _ _ _=>⟨(ZaC (ZA hr (by decide)) (Zu (Zp 0 (show aW (["part","rest"]:List Str)by decide +kernel)) (Zu (Zp 1 (show aW (["part","rest"]:List Str)by decide +kernel)) Z8)) (hlen:=(Zy (Zy (λ_ _ _ h=>Z9 h))))),(bZ ⟨rfl,rfl⟩),(Zh (C19 T) ZQ hr (Za (Zb 0) (Za (Zb 1) Ze)))⟩) (Zb 1)) (Zg (Zl ZW)) Zo)
  (Zf (ZcA θ.own (Zdb (hr.hd (by decide)) T.b_zip (Za (Zh (C24 T) θ hr (Za (Zb 0) (Za (Zb 2) Ze))) (Za (Zb 3) Ze))) (ZaC (ZA hr (by decide)) (Zu (Zp 4 nd) (Zu (Zp 5 nd) Z8)) (hlen:=(Zy (Zy (λ_ _ _ h=>Z9 h))))) (Zg (Zz (ZbG (Zac (Zw (Zh (C21 T) θ hr (Za (Zb 4) (Za (ZB (Za Zc (Za Zc Ze))) Ze)))) (Zac (Zw (Zh (C21 T) θ hr (Za (Zb 5) (Za (ZB (Za Zc (Za Zc Ze))) Ze)))) (ZZ (Zr (ZaT hr.units) Zb7 (Zh (C20 T) θ hr (Za (Zb 4) (Za (Zb 5) Ze))) (ZB (Za Zc (Za Zc Ze)))))))) (Zg (Zl ZW)) Zo)))
  (Zg (Zl (Zh (C33 T) θ hr (Za (Zb 0) (Za (Zb 3) Ze))))))))
theorem C35:Cal P w K mg base "none_stands" 107 3 F_none_stands:=ZJ (N:=["rays","height","weights","x","y","total","weight","own"]) (T.d.at 34 50) T.gl λ_ _ _ _ _ _ _ nd hr θ=>(Zf (Zz (ZbG (Zac (ZP (Zw (Zh (C27 T) θ hr (Za (Zb 0) Ze)))) (ZZ (ZP (Zw (Zh (C28 T) θ hr (Za (Zb 1) (Za (Zb 0) Ze)))))))) (Zg (Zl ZW)) Zo) (Zf (Zz (ZbG (Zac (ZP (Zw (ZV Zap T.b_isinstance T.b_list Zaw (Zb 2)))) (ZZ (Zr (ZaT hr.units) Zb7 (Zn Zk ZM T.b_len PySem.boot_len (Za (Zb 2) Ze)) (Zn Zk ZM T.b_len PySem.boot_len (Za (Zb 0) Ze)))))) (Zg (Zl ZW)) Zo) (Zf (Zz (ZP (Zw (Zn (Za7 (ZA hr (by decide))) ZcO T.b_all ZcN (Za (ZS (Zc1 (n:=0) ["rays","height","weights","x","y","total","weight","own"] ["weight"] (dS 50) 1 []) (ZaH (Zb 2)) λ_ _ _ _ _=>⟨(Zp 0 (show aW (["weight"]:List Str)by decide +kernel)),(bZ ⟨rfl,rfl⟩),(Zak (Zh (C1 T) ZQ hr (Za (Zb 0) Ze)) (ZaL (Zab ZjC ZjV (Zb 0) Zc)))⟩) Ze)))) (Zg (Zl ZW)) Zo)
  (Zf (Zq 3 nd (Zn (ZeH (ZA hr (by decide))) Zii T.b_sum Zlg (Za (ZS (Zc1 (n:=0) ["rays","height","weights","x","y","total","weight","own"] ["weight","ray"] (dS 50) 2 []) (Zdb (hr.hd (by decide)) T.b_zip (Za (Zb 2) (Za (Zb 0) Ze))) λ_ _ _ _ _=>⟨(ZaC (ZA hr (by decide)) (Zu (Zp 0 (show aW (["weight","ray"]:List Str)by decide +kernel)) (Zu (Zp 1 (show aW (["weight","ray"]:List Str)by decide +kernel)) Z8)) (hlen:=(Zy (Zy (λ_ _ _ h=>Z9 h))))),(bZ ⟨rfl,rfl⟩),(Zad (Zb 0) (Zt (Zb 1) Zc))⟩) Ze)))
  (Zf (Zq 4 nd (Zn (ZeH (ZA hr (by decide))) Zii T.b_sum Zlg (Za (ZS (Zc1 (n:=0) ["rays","height","weights","x","y","total","weight","own"] ["weight","ray"] (dS 50) 2 []) (Zdb (hr.hd (by decide)) T.b_zip (Za (Zb 2) (Za (Zb 0) Ze))) λ_ _ _ _ _=>⟨(ZaC (ZA hr (by decide)) (Zu (Zp 0 (show aW (["weight","ray"]:List Str)by decide +kernel)) (Zu (Zp 1 (show aW (["weight","ray"]:List Str)by decide +kernel)) Z8)) (hlen:=(Zy (Zy (λ_ _ _ h=>Z9 h))))),(bZ ⟨rfl,rfl⟩),(Zad (Zb 0) (Zt (Zb 1) Zc))⟩) Ze)))
  (Zf (Zq 5 nd (ZB (Za Zc (Za Zc Ze)))) (Zf (ZcA θ.own (Zdb (hr.hd (by decide)) T.b_zip (Za (Zb 2) (Za (Zb 1) Ze))) (ZaC (ZA hr (by decide)) (Zu (Zp 6 nd) (Zu (Zp 7 nd) Z8)) (hlen:=(Zy (Zy (λ_ _ _ h=>Z9 h))))) (Zg (Zq 5 nd (Zh (C19 T) θ hr (Za (Zb 5) (Za (Zh (C20 T) θ hr (Za (ZB (Za (Zb 6) (Za Zc Ze))) (Za (Zb 7) Ze))) Ze))))))
  (Zg (Zl (Zak (Zab (ZF hr.units) Z2 (ZB (Za (Zb 3) (Za (Zb 4) Ze))) (ZB (Za Zc (Za Zc Ze)))) (ZaL (Zh (C21 T) θ hr (Za (Zb 5) (Za (ZB (Za Zc (Za Zc Ze))) Ze))))))))))))))
theorem C36:Cal P w K mg base "stands" 108 1 F_stands:=ZJ (N:=["thing","word","parts"]) (T.d.at 35 51) T.gl λ_ _ _ _ _ _ _ nd hr θ=>(Zf (Zz (ZbG (Zac (ZP (Zw (ZV Zae T.b_isinstance T.b_tuple ZK (Zb 0)))) (ZZ (Zr ZbH ZbI (Zn Zk ZM T.b_len PySem.boot_len (Za (Zb 0) Ze)) Zc)))) (Zg (Zl ZW)) Zo) (Zf (ZfS 1 2 (ZA hr (by decide)) nd (Za (Zt (Zb 0) Zc) (Za (Zkc (Zb 0) (Zkb Zc) Zka) Ze)))
  (Zf (Zz (ZbG (Zcj (Zr (ZF hr.units) Z2 (Zb 1) ZH) (Zbp (Zr (ZF hr.units) Z2 (Zn Zk ZM T.b_len PySem.boot_len (Za (Zb 2) Ze)) Zc)))) (Zg (Zl (Zh (C29 T) θ hr (Za (Zt (Zb 2) Zc) (Za (Zt (Zb 2) Zc) (Za (Zt (Zb 2) Zc) Ze)))))) Zo) (Zf (Zz (ZbG (Zcj (Zr (ZF hr.units) Z2 (Zb 1) ZH) (Zbp (Zr (ZF hr.units) Z2 (Zn Zk ZM T.b_len PySem.boot_len (Za (Zb 2) Ze)) Zc)))) (Zg (Zl (Zh (C30 T) θ hr (Za (Zt (Zb 2) Zc) (Za (Zt (Zb 2) Zc) (Za (Zt (Zb 2) Zc) Ze)))))) Zo) (Zf (Zz (ZbG (Zcj (Zr (ZF hr.units) Z2 (Zb 1) ZH) (Zbp (Zr (ZF hr.units) Z2 (Zn Zk ZM T.b_len PySem.boot_len (Za (Zb 2) Ze)) Zc)))) (Zg (Zl (Zh (C32 T) θ hr (Za (Zt (Zb 2) Zc) (Za (Zt (Zb 2) Zc) (Za (Zt (Zb 2) Zc) (Za (Zt (Zb 2) Zc) Ze))))))) Zo) (Zf (Zz (ZbG (Zcj (Zr (ZF hr.units) Z2 (Zb 1) ZH) (Zbp (Zr (ZF hr.units) Z2 (Zn Zk ZM T.b_len PySem.boot_len (Za (Zb 2) Ze)) Zc)))) (Zg (Zl (Zh (C34 T) θ hr (Za (Zt (Zb 2) Zc) (Za (Zt (Zb 2) Zc) (Za (Zt (Zb 2) Zc) (Za (Zt (Zb 2) Zc) Ze))))))) Zo) (Zf (Zz (ZbG (Zcj (Zr (ZF hr.units) Z2 (Zb 1) ZH) (Zbp (Zr (ZF hr.units) Z2 (Zn Zk ZM T.b_len PySem.boot_len (Za (Zb 2) Ze)) Zc)))) (Zg (Zl (Zh (C35 T) θ hr (Za (Zt (Zb 2) Zc) (Za (Zt (Zb 2) Zc) (Za (Zt (Zb 2) Zc) Ze)))))) Zo) (Zg (Zl ZW)))))))))
theorem C37:Cal P w K mg base "_law_cell_at" 1 2 F_law_cell_at:=ZJ (N:=["_law_script","_law_k","_law_cell","_law_one"]) (T.d.at 36 53) T.gl λ_ _ _ _ _ _ _ nd hr θ=>(Zf (Zq 2 nd Zc) (Zf (Zz (Zr ZbH ZbI (Zb 1) (Zn Zk ZM T.b_len PySem.boot_len (Za (Zb 0) Ze))) (Zg (Zq 2 nd (ZD (Zt (Zb 0) (Zb 1)) (Zb1 Zc Zc)))) Zo) (Zf (Zz (Zr ZbH ZbI (Zb 2) (Zb1 Zc Zc)) (Zf (Zq 3 nd (ZD (Zad (ZaM (Zb 2) (Zad Zc (ZaM (Zb 1) Zc))) Zc) (Zb1 Zc Zc))) (Zg (Zq 2 nd (ZD (ZU (Zad (Zb 3) (Zb 3)) (Zb1 Zc Zc)) (Zb1 Zc Zc))))) Zo) (Zg (Zl (Zb 2))))))
theorem C38:Cal P w K mg base "_law_cross" 1 2 F_law_cross:=ZJ (N:=["_law_one","_law_other"]) (T.d.at 37 54) T.gl λ_ _ _ _ _ _ _ nd hr θ=>(Zg (Zl (Zal (Zad (Zt (Zb 0) Zc) (Zt (Zb 1) Zc)) (Zad (Zt (Zb 0) Zc) (Zt (Zb 1) Zc)))))
theorem C39:Cal P w K mg base "_law_whole" 1 1 F_law_whole:=ZJ (N:=["_law_x"]) (T.d.at 38 55) T.gl λ_ _ _ _ _ _ _ nd hr θ=>(Zg (Zl (Zak (ZV ZhT T.b_isinstance T.b_int ZhZ (Zb 0)) (ZaL (Zk3 (ZV ZdW T.b_isinstance T.b_bool Zff (Zb 0)))))))
theorem C40:Cal P w K mg base "_law_is_pair" 2 1 F_law_is_pair:=ZJ (N:=["_law_thing_here"]) (T.d.at 39 56) T.gl λ_ _ _ _ _ _ _ nd hr θ=>(Zg (Zl (Zak (ZV Zae T.b_isinstance T.b_tuple ZK (Zb 0)) (Zak (Zab (ZF hr.units) Z2 (Zn Zk ZM T.b_len PySem.boot_len (Za (Zb 0) Ze)) Zc) (Zak (Zh (C39 T) θ hr (Za (Zt (Zb 0) Zc) Ze)) (ZaL (Zh (C39 T) θ hr (Za (Zt (Zb 0) Zc) Ze))))))))
theorem C41:Cal P w K mg base "_law_common" 101 2 F_law_common:=ZJ (N:=["_law_one","_law_other"]) (T.d.at 40 57) T.gl λ_ _ _ _ _ _ _ nd hr θ=>(Zf (Zq 0 nd (Zn Zch Zeu T.b_abs ZeA (Za (Zb 0) Ze))) (Zf (Zq 1 nd (Zn Zch Zeu T.b_abs ZeA (Za (Zb 1) Ze))) (Zf (ZfT θ.own (Zr Zhm ZhN (Zb 1) Zc) (Zg (ZfS 0 1 (ZA hr (by decide)) nd (Za (Zb 1) (Za (ZD (Zb 0) (Zb 1)) Ze)))))
  (Zg (Zl (Zb 0))))))
theorem C42:Cal P w K mg base "_law_is_round" 102 2 F_law_is_round:=ZJ (N:=["_law_thing_here","_law_smooth","_law_ray","_law_passed","_law_k","_law_here","_law_behind","_law_far"]) (T.d.at 41 58) T.gl λ_ _ _ _ _ _ _ nd hr θ=>(Zf (Zz (ZbG (Zac (ZP (Zw (ZV Zap T.b_isinstance T.b_list Zaw (Zb 0)))) (ZZ (Zr ZbH ZbI (Zn Zk ZM T.b_len PySem.boot_len (Za (Zb 0) Ze)) Zc)))) (Zg (Zl ZW)) Zo) (Zf (ZhY θ.own (Zb 0) (Zp 2 nd) (Zg (Zz (ZbG (Zac (ZP (Zw (Zh (C40 T) θ hr (Za (Zb 2) Ze)))) (ZZ (Zr (ZaT hr.units) Zb7 (Zh (C41 T) θ hr (Za (Zt (Zb 2) Zc) (Za (Zt (Zb 2) Zc) Ze))) Zc)))) (Zg (Zl ZW)) Zo))) (Zf (Zq 3 nd Zc) (Zf (Za6 θ.own T.b_range (Za (Zn Zk ZM T.b_len PySem.boot_len (Za (Zb 0) Ze)) Ze) (Zp 4 nd) (Zf (Zq 5 nd (Zt (Zb 0) (Zb 4))) (Zf (Zq 6 nd (Zt (Zb 0) (ZD (ZaM (Zb 4) Zc) (Zn Zk ZM T.b_len PySem.boot_len (Za (Zb 0) Ze))))) (Zf (Zq 7 nd (Zh (C38 T) θ hr (Za (Zb 5) (Za (Zb 6) Ze)))) (Zf (Zz (ZbG (Zac (Zr Zhl ZhM (Zb 7) Zc) (ZZ (ZbG (Zcj (Zw (Zb 1)) (Zbp (Zr (ZaT hr.units) Zb7 (Zb 7) Zc))))))) (Zg (Zl ZW)) Zo) (Zg (Zz (ZbG (Zac (ZbG (Zcj (Zr (ZF hr.units) Z2 (Zt (Zb 5) Zc) Zc) (Zbp (Zr Zhm ZhN (Zt (Zb 5) Zc) Zc)))) (ZZ (ZbG (Zcj (Zr Zhm ZhN (Zh (C38 T) θ hr (Za (Zb 5) (Za (ZB (Za Zc (Za Zc Ze))) Ze))) Zc) (Zbp (Zr Zhm ZhN (Zh (C38 T) θ hr (Za (ZB (Za Zc (Za Zc Ze))) (Za (Zb 6) Ze))) Zc))))))) (Zg (Zq 3 nd (ZaM (Zb 3) Zc))) Zo))))))) (Zg (Zl (Zab (ZF hr.units) Z2 (Zb 3) Zc)))))))
theorem Zto:Cal P w K mg base "_law_thing" 1 2 F_law_thing_0:=ZJ (N:=["_law_cell","_law_deep","_law_kind","_law_some","_law_count","_law_k"]) (T.d.at 42 59) T.gl λ_ _ _ _ _ _ _ nd hr θ=>(Zf ZbA (Zf ZbA (Zf ZbA (Zf ZbA (Zf ZbA (Zf ZbA (Zf ZbA (Zf ZbA (Zg ZbA)))))))))
theorem Ztp:Cal P w K mg base "_law_thing" 2 2 F_law_thing_1:=ZJ (N:=["_law_cell","_law_deep","_law_kind","_law_some","_law_count","_law_k"]) (T.d.at 42 59) T.gl λ_ _ _ _ _ _ _ nd hr θ=>(Zf (Zq 2 nd (ZD (Zb 0) Zc)) (Zf (Zq 0 nd (ZU (Zb 0) Zc)) (Zf (Zz (ZbG (Zac (Zr (ZF hr.units) Z2 (Zb 1) Zc) (ZZ (Zr ZbH ZbI (Zb 2) Zc)))) (Zf (Zq 3 nd (Z0 (Za (Zal (ZD (Zb 0) Zc) Zc) (Za ZW (Za ZcK (Za ZH (Za ZH (Za (Zal Zc (ZD (Zb 0) (Zb1 Zc Zc))) (Za Zc (Za ZW Ze)))))))))) (Zg (Zl (Zt (Zb 3) (ZD (ZU (Zb 0) Zc) Zc))))) Zo) (Zf (Zq 3 nd (Z0 Ze)) (Zf (Zq 4 nd (ZD (Zb 0) Zc)) (Zf (Zq 0 nd (ZU (Zb 0) Zc)) (Zf (Za6 θ.own T.b_range (Za (Zb 4) Ze) (Zp 5 nd) (Zf (ZaU (ZaW (Zb 3) (Zh (Zto T) θ hr (Za (Zb 0) (Za (Zal (Zb 1) Zc) Ze))))) (Zg (Zq 0 nd (ZU (Zb 0) Zc))))) (Zf (Zz (Zr (ZF hr.units) Z2 (ZD (Zb 2) Zc) Zc) (Zg (Zl (Zb 3))) Zo) (Zg (Zl (Z5 ZG ZbK T.b_tuple ZK (Za (Zb 3) Ze))))))))))))
theorem Ztq:Cal P w K mg base "_law_thing" 3 2 F_law_thing_2:=ZJ (N:=["_law_cell","_law_deep","_law_kind","_law_some","_law_count","_law_k"]) (T.d.at 42 59) T.gl λ_ _ _ _ _ _ _ nd hr θ=>(Zf (Zq 2 nd (ZD (Zb 0) Zc)) (Zf (Zq 0 nd (ZU (Zb 0) Zc)) (Zf (Zz (ZbG (Zac (Zr (ZF hr.units) Z2 (Zb 1) Zc) (ZZ (Zr ZbH ZbI (Zb 2) Zc)))) (Zf (Zq 3 nd (Z0 (Za (Zal (ZD (Zb 0) Zc) Zc) (Za ZW (Za ZcK (Za ZH (Za ZH (Za (Zal Zc (ZD (Zb 0) (Zb1 Zc Zc))) (Za Zc (Za ZW Ze)))))))))) (Zg (Zl (Zt (Zb 3) (ZD (ZU (Zb 0) Zc) Zc))))) Zo) (Zf (Zq 3 nd (Z0 Ze)) (Zf (Zq 4 nd (ZD (Zb 0) Zc)) (Zf (Zq 0 nd (ZU (Zb 0) Zc)) (Zf (Za6 θ.own T.b_range (Za (Zb 4) Ze) (Zp 5 nd) (Zf (ZaU (ZaW (Zb 3) (Zh (Ztp T) θ hr (Za (Zb 0) (Za (Zal (Zb 1) Zc) Ze))))) (Zg (Zq 0 nd (ZU (Zb 0) Zc))))) (Zf (Zz (Zr (ZF hr.units) Z2 (ZD (Zb 2) Zc) Zc) (Zg (Zl (Zb 3))) Zo) (Zg (Zl (Z5 ZG ZbK T.b_tuple ZK (Za (Zb 3) Ze))))))))))))
theorem Ztr:Cal P w K mg base "_law_thing" 4 2 F_law_thing_3:=ZJ (N:=["_law_cell","_law_deep","_law_kind","_law_some","_law_count","_law_k"]) (T.d.at 42 59) T.gl λ_ _ _ _ _ _ _ nd hr θ=>(Zf (Zq 2 nd (ZD (Zb 0) Zc)) (Zf (Zq 0 nd (ZU (Zb 0) Zc)) (Zf (Zz (ZbG (Zac (Zr (ZF hr.units) Z2 (Zb 1) Zc) (ZZ (Zr ZbH ZbI (Zb 2) Zc)))) (Zf (Zq 3 nd (Z0 (Za (Zal (ZD (Zb 0) Zc) Zc) (Za ZW (Za ZcK (Za ZH (Za ZH (Za (Zal Zc (ZD (Zb 0) (Zb1 Zc Zc))) (Za Zc (Za ZW Ze)))))))))) (Zg (Zl (Zt (Zb 3) (ZD (ZU (Zb 0) Zc) Zc))))) Zo) (Zf (Zq 3 nd (Z0 Ze)) (Zf (Zq 4 nd (ZD (Zb 0) Zc)) (Zf (Zq 0 nd (ZU (Zb 0) Zc)) (Zf (Za6 θ.own T.b_range (Za (Zb 4) Ze) (Zp 5 nd) (Zf (ZaU (ZaW (Zb 3) (Zh (Ztq T) θ hr (Za (Zb 0) (Za (Zal (Zb 1) Zc) Ze))))) (Zg (Zq 0 nd (ZU (Zb 0) Zc))))) (Zf (Zz (Zr (ZF hr.units) Z2 (ZD (Zb 2) Zc) Zc) (Zg (Zl (Zb 3))) Zo) (Zg (Zl (Z5 ZG ZbK T.b_tuple ZK (Za (Zb 3) Ze))))))))))))
theorem Zts:Cal P w K mg base "_law_thing" 5 2 F_law_thing_4:=ZJ (N:=["_law_cell","_law_deep","_law_kind","_law_some","_law_count","_law_k"]) (T.d.at 42 59) T.gl λ_ _ _ _ _ _ _ nd hr θ=>(Zf (Zq 2 nd (ZD (Zb 0) Zc)) (Zf (Zq 0 nd (ZU (Zb 0) Zc)) (Zf (Zz (ZbG (Zac (Zr (ZF hr.units) Z2 (Zb 1) Zc) (ZZ (Zr ZbH ZbI (Zb 2) Zc)))) (Zf (Zq 3 nd (Z0 (Za (Zal (ZD (Zb 0) Zc) Zc) (Za ZW (Za ZcK (Za ZH (Za ZH (Za (Zal Zc (ZD (Zb 0) (Zb1 Zc Zc))) (Za Zc (Za ZW Ze)))))))))) (Zg (Zl (Zt (Zb 3) (ZD (ZU (Zb 0) Zc) Zc))))) Zo) (Zf (Zq 3 nd (Z0 Ze)) (Zf (Zq 4 nd (ZD (Zb 0) Zc)) (Zf (Zq 0 nd (ZU (Zb 0) Zc)) (Zf (Za6 θ.own T.b_range (Za (Zb 4) Ze) (Zp 5 nd) (Zf (ZaU (ZaW (Zb 3) (Zh (Ztr T) θ hr (Za (Zb 0) (Za (Zal (Zb 1) Zc) Ze))))) (Zg (Zq 0 nd (ZU (Zb 0) Zc))))) (Zf (Zz (Zr (ZF hr.units) Z2 (ZD (Zb 2) Zc) Zc) (Zg (Zl (Zb 3))) Zo) (Zg (Zl (Z5 ZG ZbK T.b_tuple ZK (Za (Zb 3) Ze))))))))))))
theorem C43:Cal P w K mg base "_law_thing" 6 2 F_law_thing:=ZJ (N:=["_law_cell","_law_deep","_law_kind","_law_some","_law_count","_law_k"]) (T.d.at 42 59) T.gl λ_ _ _ _ _ _ _ nd hr θ=>(Zf (Zq 2 nd (ZD (Zb 0) Zc)) (Zf (Zq 0 nd (ZU (Zb 0) Zc)) (Zf (Zz (ZbG (Zac (Zr (ZF hr.units) Z2 (Zb 1) Zc) (ZZ (Zr ZbH ZbI (Zb 2) Zc)))) (Zf (Zq 3 nd (Z0 (Za (Zal (ZD (Zb 0) Zc) Zc) (Za ZW (Za ZcK (Za ZH (Za ZH (Za (Zal Zc (ZD (Zb 0) (Zb1 Zc Zc))) (Za Zc (Za ZW Ze)))))))))) (Zg (Zl (Zt (Zb 3) (ZD (ZU (Zb 0) Zc) Zc))))) Zo) (Zf (Zq 3 nd (Z0 Ze)) (Zf (Zq 4 nd (ZD (Zb 0) Zc)) (Zf (Zq 0 nd (ZU (Zb 0) Zc)) (Zf (Za6 θ.own T.b_range (Za (Zb 4) Ze) (Zp 5 nd) (Zf (ZaU (ZaW (Zb 3) (Zh (Zts T) θ hr (Za (Zb 0) (Za (Zal (Zb 1) Zc) Ze))))) (Zg (Zq 0 nd (ZU (Zb 0) Zc))))) (Zf (Zz (Zr (ZF hr.units) Z2 (ZD (Zb 2) Zc) Zc) (Zg (Zl (Zb 3))) Zo) (Zg (Zl (Z5 ZG ZbK T.b_tuple ZK (Za (Zb 3) Ze))))))))))))
theorem C44:Cal P w K mg base "_law_part" 7 1 F_law_part:=ZJ (N:=["_law_cell","_law_kind","_law_some"]) (T.d.at 43 60) T.gl λ_ _ _ _ _ _ _ nd hr θ=>(Zf (Zq 1 nd (ZD (Zb 0) Zc)) (Zf (Zq 0 nd (ZU (Zb 0) Zc)) (Zf (Zq 2 nd (Z0 (Za (Z0 (Za (ZB (Za Zc (Za Zc Ze))) (Za (ZB (Za Zc (Za Zc Ze))) (Za (ZB (Za (Zb2 Zc) (Za (Zb2 Zc) Ze))) Ze)))) (Za (Z0 (Za (ZB (Za Zc (Za Zc Ze))) (Za (ZB (Za Zc (Za Zc Ze))) (Za (ZB (Za (Zb2 Zc) (Za Zc Ze))) (Za (ZB (Za Zc (Za (Zb2 Zc) Ze))) Ze))))) (Za (Z0 (Za Zc (Za Zc (Za Zc Ze)))) (Za (Z0 (Za (ZB (Za Zc (Za Zc Ze))) (Za (ZB (Za Zc (Za Zc Ze))) Ze))) (Za (Z0 Ze) Ze))))))) (Zf (Zq 2 nd (ZaM (Zb 2) (Z0 (Za (Z0 (Za (ZB (Za Zc (Za Zc Ze))) (Za (ZB (Za Zc (Za Zc Ze))) (Za (ZB (Za Zc (Za Zc Ze))) Ze)))) (Za (ZB (Za (ZB (Za Zc (Za Zc Ze))) (Za (ZB (Za Zc (Za Zc Ze))) Ze))) (Za (ZB (Za Zc (Za Zc Ze))) (Za (Z0 (Za (ZB (Za Zc (Za Zc Ze))) (Za (ZB (Za Zc (Za Zc Ze))) (Za (ZB (Za (Zb2 Zc) (Za Zc Ze))) Ze)))) (Za Zc (Za (Z0 (Za (ZB (Za Zc (Za Zc Ze))) (Za (ZB (Za Zc (Za Zc Ze))) (Za (ZB (Za (Zb2 Zc) (Za (Zb2 Zc) Ze))) Ze)))) Ze))))))))) (Zf (Zz (Zr ZbH ZbI (Zb 1) Zc) (Zg (Zl (Zt (Zb 2) (ZD (Zb 0) Zc)))) Zo) (Zg (Zl (Zh (C43 T) θ hr (Za (Zb 0) (Za Zc Ze))))))))))
theorem C45:Cal P w K mg base "_law_drawn" 8 1 F_law_drawn:=ZJ (N:=["_law_cell","_law_words","_law_some","_law_count","_law_k"]) (T.d.at 44 61) T.gl λ_ _ _ _ _ _ _ nd hr θ=>(Zf (Zz (Zr (ZF hr.units) Z2 (ZD (Zb 0) Zc) Zc) (Zg (Zl (Zh (C43 T) θ hr (Za (ZU (Zb 0) Zc) (Za Zc Ze))))) Zo) (Zf (Zq 1 nd (Z0 (Za ZH (Za ZH (Za ZH (Za ZH (Za ZH (Za ZH (Za ZH (Za ZH Ze)))))))))) (Zf (Zq 2 nd (Z0 (Za (Zt (Zb 1) (ZD (ZU (Zb 0) Zc) Zc)) Ze))) (Zf (Zq 0 nd (ZU (Zb 0) Zc)) (Zf (Zq 3 nd (ZaM Zc (ZD (Zb 0) Zc))) (Zf (Zq 0 nd (ZU (Zb 0) Zc)) (Zf (Za6 θ.own T.b_range (Za (Zal (Zb 3) (Z5 Zhr ZoL T.b_int ZhZ (Za (Zab (ZF hr.units) Z2 (ZD (Zb 0) Zc) Zc) Ze))) Ze) (Zp 4 nd) (Zf (ZaU (ZaW (Zb 2) (Zh (C44 T) θ hr (Za (Zb 0) Ze)))) (Zg (Zq 0 nd (ZU (Zb 0) Zc))))) (Zf (Zz (Zr (ZF hr.units) Z2 (ZD (Zb 0) Zc) Zc) (Zg (Zl (Zb 2))) Zo) (Zg (Zl (Z5 ZG ZbK T.b_tuple ZK (Za (Zb 2) Ze))))))))))))
theorem C46:Cal P w K mg base "_law_may_stand" 103 1 F_law_may_stand:=ZJ (N:=["_law_thing_here","_law_parts"]) (T.d.at 45 62) T.gl λ_ _ _ _ _ _ _ nd hr θ=>(Zf (Zz (ZbG (Zac (ZP (Zw (ZV Zae T.b_isinstance T.b_tuple ZK (Zb 0)))) (Zac (Zr (ZF hr.units) Z2 (Zn Zk ZM T.b_len PySem.boot_len (Za (Zb 0) Ze)) Zc) (ZZ (ZP (Zw (ZV Zmp T.b_isinstance T.b_str ZoR (Zt (Zb 0) Zc)))))))) (Zg (Zl ZW)) Zo) (Zf (Zq 1 nd (ZmL (Zcn Zc (Zcn Zc (Zcn Zc (Zcn Zc (Zcn Zc ZmK))))) (by decide +kernel) (by decide)))
  (Zf (Zz (ZbG (Zac (Zr (Zin hr.units) Zpb (Zt (Zb 0) Zc) (Zb 1)) (ZZ (Zr (ZaT hr.units) Zb7 (Zn Zk ZM T.b_len PySem.boot_len (Za (Zb 0) Ze)) (ZmG hr.units (Zb 1) (Zt (Zb 0) Zc)))))) (Zg (Zl ZW)) Zo) (Zf (Zz (Zr (ZF hr.units) Z2 (Zt (Zb 0) Zc) ZH) (Zg (Zl (Zak (Zh (C40 T) θ hr (Za (Zt (Zb 0) Zc) Ze)) (ZaL (Zh (C40 T) θ hr (Za (Zt (Zb 0) Zc) Ze)))))) Zo) (Zg (Zl (Zh (C42 T) θ hr (Za (Zt (Zb 0) Zc) (Za (Zab (ZaT hr.units) Zb7 (Zt (Zb 0) Zc) ZH) Ze)))))))))
theorem ZqR:Cal P w K mg base "_law_copy" 1 1 F_law_copy_0:=ZJ (N:=["_law_thing_here"]) (T.d.at 46 63) T.gl λ_ _ _ _ _ _ _ nd hr θ=>(Zf ZbA (Zf ZbA (Zg ZbA)))
theorem ZqS:Cal P w K mg base "_law_copy" 2 1 F_law_copy_1:=ZJ (N:=["_law_thing_here"]) (T.d.at 46 63) T.gl λ_ _ _ _ _ _ _ nd hr θ=>(Zf (Zz (Zw (ZV Zap T.b_isinstance T.b_list Zaw (Zb 0))) (Zg (Zl (ZS (Zc1 (n:=0) ["_law_thing_here"] ["_law_one"] (dS 63) 1 []) (ZaH (Zb 0)) λ_ _ _ _ _=>⟨(Zp 0 (show aW (["_law_one"]:List Str)by decide +kernel)),(bZ ⟨rfl,rfl⟩),(Zh (ZqR T) ZQ hr (Za (Zb 0) Ze))⟩))) Zo)
  (Zf (Zz (Zw (ZV Zae T.b_isinstance T.b_tuple ZK (Zb 0))) (Zg (Zl (Z5 ZG ZbK T.b_tuple ZK (Za (ZS (Zc1 (n:=0) ["_law_thing_here"] ["_law_one"] (dS 63) 1 []) (ZaH (Zb 0)) λ_ _ _ _ _=>⟨(Zp 0 (show aW (["_law_one"]:List Str)by decide +kernel)),(bZ ⟨rfl,rfl⟩),(Zh (ZqR T) ZQ hr (Za (Zb 0) Ze))⟩) Ze)))) Zo)
  (Zg (Zl (Zb 0)))))
theorem ZqT:Cal P w K mg base "_law_copy" 3 1 F_law_copy_2:=ZJ (N:=["_law_thing_here"]) (T.d.at 46 63) T.gl λ_ _ _ _ _ _ _ nd hr θ=>(Zf (Zz (Zw (ZV Zap T.b_isinstance T.b_list Zaw (Zb 0))) (Zg (Zl (ZS (Zc1 (n:=0) ["_law_thing_here"] ["_law_one"] (dS 63) 1 []) (ZaH (Zb 0)) λ_ _ _ _ _=>⟨(Zp 0 (show aW (["_law_one"]:List Str)by decide +kernel)),(bZ ⟨rfl,rfl⟩),(Zh (ZqS T) ZQ hr (Za (Zb 0) Ze))⟩))) Zo)
  (Zf (Zz (Zw (ZV Zae T.b_isinstance T.b_tuple ZK (Zb 0))) (Zg (Zl (Z5 ZG ZbK T.b_tuple ZK (Za (ZS (Zc1 (n:=0) ["_law_thing_here"] ["_law_one"] (dS 63) 1 []) (ZaH (Zb 0)) λ_ _ _ _ _=>⟨(Zp 0 (show aW (["_law_one"]:List Str)by decide +kernel)),(bZ ⟨rfl,rfl⟩),(Zh (ZqS T) ZQ hr (Za (Zb 0) Ze))⟩) Ze)))) Zo)
  (Zg (Zl (Zb 0)))))
theorem ZqU:Cal P w K mg base "_law_copy" 4 1 F_law_copy_3:=ZJ (N:=["_law_thing_here"]) (T.d.at 46 63) T.gl λ_ _ _ _ _ _ _ nd hr θ=>(Zf (Zz (Zw (ZV Zap T.b_isinstance T.b_list Zaw (Zb 0))) (Zg (Zl (ZS (Zc1 (n:=0) ["_law_thing_here"] ["_law_one"] (dS 63) 1 []) (ZaH (Zb 0)) λ_ _ _ _ _=>⟨(Zp 0 (show aW (["_law_one"]:List Str)by decide +kernel)),(bZ ⟨rfl,rfl⟩),(Zh (ZqT T) ZQ hr (Za (Zb 0) Ze))⟩))) Zo)
  (Zf (Zz (Zw (ZV Zae T.b_isinstance T.b_tuple ZK (Zb 0))) (Zg (Zl (Z5 ZG ZbK T.b_tuple ZK (Za (ZS (Zc1 (n:=0) ["_law_thing_here"] ["_law_one"] (dS 63) 1 []) (ZaH (Zb 0)) λ_ _ _ _ _=>⟨(Zp 0 (show aW (["_law_one"]:List Str)by decide +kernel)),(bZ ⟨rfl,rfl⟩),(Zh (ZqT T) ZQ hr (Za (Zb 0) Ze))⟩) Ze)))) Zo)
  (Zg (Zl (Zb 0)))))
theorem ZqV:Cal P w K mg base "_law_copy" 5 1 F_law_copy_4:=ZJ (N:=["_law_thing_here"]) (T.d.at 46 63) T.gl λ_ _ _ _ _ _ _ nd hr θ=>(Zf (Zz (Zw (ZV Zap T.b_isinstance T.b_list Zaw (Zb 0))) (Zg (Zl (ZS (Zc1 (n:=0) ["_law_thing_here"] ["_law_one"] (dS 63) 1 []) (ZaH (Zb 0)) λ_ _ _ _ _=>⟨(Zp 0 (show aW (["_law_one"]:List Str)by decide +kernel)),(bZ ⟨rfl,rfl⟩),(Zh (ZqU T) ZQ hr (Za (Zb 0) Ze))⟩))) Zo)
  (Zf (Zz (Zw (ZV Zae T.b_isinstance T.b_tuple ZK (Zb 0))) (Zg (Zl (Z5 ZG ZbK T.b_tuple ZK (Za (ZS (Zc1 (n:=0) ["_law_thing_here"] ["_law_one"] (dS 63) 1 []) (ZaH (Zb 0)) λ_ _ _ _ _=>⟨(Zp 0 (show aW (["_law_one"]:List Str)by decide +kernel)),(bZ ⟨rfl,rfl⟩),(Zh (ZqU T) ZQ hr (Za (Zb 0) Ze))⟩) Ze)))) Zo)
  (Zg (Zl (Zb 0)))))
theorem C47:Cal P w K mg base "_law_copy" 6 1 F_law_copy:=ZJ (N:=["_law_thing_here"]) (T.d.at 46 63) T.gl λ_ _ _ _ _ _ _ nd hr θ=>(Zf (Zz (Zw (ZV Zap T.b_isinstance T.b_list Zaw (Zb 0))) (Zg (Zl (ZS (Zc1 (n:=0) ["_law_thing_here"] ["_law_one"] (dS 63) 1 []) (ZaH (Zb 0)) λ_ _ _ _ _=>⟨(Zp 0 (show aW (["_law_one"]:List Str)by decide +kernel)),(bZ ⟨rfl,rfl⟩),(Zh (ZqV T) ZQ hr (Za (Zb 0) Ze))⟩))) Zo)
  (Zf (Zz (Zw (ZV Zae T.b_isinstance T.b_tuple ZK (Zb 0))) (Zg (Zl (Z5 ZG ZbK T.b_tuple ZK (Za (ZS (Zc1 (n:=0) ["_law_thing_here"] ["_law_one"] (dS 63) 1 []) (ZaH (Zb 0)) λ_ _ _ _ _=>⟨(Zp 0 (show aW (["_law_one"]:List Str)by decide +kernel)),(bZ ⟨rfl,rfl⟩),(Zh (ZqV T) ZQ hr (Za (Zb 0) Ze))⟩) Ze)))) Zo)
  (Zg (Zl (Zb 0)))))
theorem ZqW{f:Addr}{fd:f8}(F:Fun K "law" "law" (top 64) f fd):FnOk P w K mg base (CXE P w) 109 f fd ["_law_script"] (spD K ZfF):=
 have nd:aW (["_law_script","_law_place","_law_thing_here","_law_lent","_law_found"]:List Str):=by decide +kernel
 ZoQ (N:=["_law_script","_law_place","_law_thing_here","_law_lent","_law_found"]) F ⟨rfl,rfl,rfl,nd,rfl,by decide +kernel,by decide +kernel⟩ rfl rfl λ_ _ _ _ _ _ hr θ=>(Zf (Za6 θ.own T.b_range (Za (Zn (Zhp (ZA hr (by decide))) ZoJ T.b_max ZoS (Za Zc (Za (Zn (Zhq (ZA hr (by decide))) ZoK T.b_min ZoT (Za (Zn Zk ZM T.b_len PySem.boot_len (Za (Zb 0) Ze)) (Za Zc Ze))) Ze))) Ze) (Zp 1 nd) (Zf (Zq 2 nd (Zh (C45 T) θ hr (Za (Zh (C37 T) θ hr (Za (Zb 0) (Za (Zb 1) Ze))) Ze)))
  (Zf (Zq 3 nd (Zh (C47 T) θ hr (Za (Zb 2) Ze))) (Zf (Zq 4 nd (Zh (C36 T) θ hr (Za (Zb 3) Ze))) (Zf (Zz (ZbG (Zac (ZP (Zw (ZV ZdW T.b_isinstance T.b_bool Zff (Zb 4)))) (ZZ (Zr (ZaT hr.units) Zb7 (Zb 3) (Zb 2))))) (Zg (Zl ZW)) Zo) (Zg (Zz (ZbG (Zcj (Zw (Zb 4)) (Zbp (ZP (Zw (Zh (C46 T) θ hr (Za (Zb 2) Ze))))))) (Zg (Zl ZW)) Zo)))))))
  (Zg (Zl (Zak (Zab ZhR Zmn (Zh (C36 T) θ hr (Za (ZB (Za ZH (Za (ZB (Za Zc (Za Zc Ze))) (Za (ZB (Za Zc (Za Zc Ze))) (Za (Z0 Ze) (Za (Z0 Ze) Ze)))))) Ze)) ZW) (ZaL (Zab ZhR Zmn (Zh (C36 T) θ hr (Za (ZB Ze) Ze)) ZW))))))
end
theorem fin{l:PySem.W.OpenLaw}(X:K.In h)(G:h.Ns aG mg)(hfa:mg "law"=some (.ref fa))(T:Txt K mg):∃fd:f8,(∀(s:az)(v:aa),jO s fd ⟨[v],[]⟩ [("_law_script",v)])/\∀base:Heap,K.In base->base.Ns aG mg->FnOk l.prog w K mg base (CXE l.prog w) 109 fa fd ["_law_script"] (spD K ZfF):=
 ZoU (l:=l) (w:=w) X G hfa (T.d.at 47 64) (λ_ _ _ _ _ _ _=>rfl) λbase fd F=>ZqW (base:=base) T F
end K71
namespace K71
open L2 DL
open CB (Bd)
open CV (Kp)
open CG (met ZdA BG mfB)
open CR (rt Sz)
def okT:Nat->ca->Prop
 |_+1,.int i=> -BG<=i/\i<=BG
 |k+1,.tuple ts=>ts.length<=12/\∀t∈ts,okT k t
 |k+1,.list ts=>ts.length<=12/\∀t∈ts,okT k t
 |_,_=>True
def Th(M:Sto)(k:Nat)(d:D)(t:ca):Prop:=tre M k d=some t/\okT k t
def Ths(M:Sto)(k:Nat)(xs:List D)(ts:List ca):Prop:=ZaR (tre M k) xs=some ts/\∀t∈ts,okT k t
theorem Th.up(K:Kp M M')(h:Th M k d t):Th M' k d t:=⟨Zgr K h.1,h.2⟩
theorem Ths.len(h:Ths M k xs ts):xs.length=ts.length:=(ZT.mp h.1).1
theorem Ths.at(h:Ths M k xs ts)(a:i<xs.length)(b:i<ts.length):Th M k xs[i] ts[i]:=⟨(ZT.mp h.1).2 i a b,h.2 _ (bW b)⟩
theorem Th.ex(h:Th M k d t):(d=.non/\t=.none)\/(∃b,d=.bl b/\t=.bool b)\/(∃i,d=.int i/\t=.int i/\ -BG<=i/\i<=BG)\/(∃x,d=.str x/\t=.str x)\/(∃l xs ts,k=l+1/\d=.tup xs/\t=.tuple ts/\Ths M l xs ts/\ts.length<=12)\/∃l m xs ts,k=l+1/\d=.ref m/\M[m]?=some (.lst xs)/\t=.list ts/\Ths M l xs ts/\ts.length<=12:=by
 obtain⟨e,o⟩:=h;cases k with
 |zero=>cases e
 |succ k=>
  cases d with
  |non=>cases e;exact .inl ⟨rfl,rfl⟩
  |bl b=>cases e;exact .inr (.inl ⟨_,rfl,rfl⟩)
  |int i=>cases e;exact .inr (.inr (.inl ⟨_,rfl,rfl,o⟩))
  |str x=>cases e;exact .inr (.inr (.inr (.inl ⟨_,rfl,rfl⟩)))
  |tup xs=>
   obtain⟨ts,e1,e2⟩:=ar.mp e;subst e2;exact .inr (.inr (.inr (.inr (.inl ⟨k,xs,ts,rfl,rfl,rfl,⟨e1,o.2⟩,o.1⟩))))
  |ref m=>
   change (match M[m]? with|some (.lst xs)=>(ZaR (tre M k) xs).map cA|none=>none)=_ at e
   cases em:M[m]? with
   |none=>rw[em]at e;cases e
   |some z=>
    cases z with
    |lst xs=>
     rw[em]at e;obtain⟨ts,e1,e2⟩:=ar.mp e;subst e2;exact .inr (.inr (.inr (.inr (.inr ⟨k,m,xs,ts,rfl,rfl,em,rfl,⟨e1,o.2⟩,o.1⟩))))
  |_=>cases e
theorem Zdr:ZaB M (.str x)=some "str":=rfl
theorem ZqX:Zb3 "str" "int"=false:=rfl
theorem ZqY:Zb3 "NoneType" "int"=false:=rfl
theorem ZqZ:Zb3 "str" "tuple"=false:=rfl
theorem Zq0:Zb3 "bool" "tuple"=false:=rfl
theorem Zq1:Zb3 "int" "tuple"=false:=rfl
noncomputable def wB:ca->Bool
 |.int _=>true
 |_=>false
def pB:ca->Bool
 |.tuple [a,b]=>wB a&&wB b
 |_=>false
noncomputable def rB:ca->Bool
 |.tuple [.int a,.int b]=>decide (bQ a b=1)
 |_=>false
theorem Zru(h:wB t=true):∃i,t=.int i:=by
 unfold wB at h
 split at h
 .exact⟨_,rfl⟩
 .cases h
theorem Zvz(h:pB t=true):∃a b,t=.tuple [.int a,.int b]:=by
 unfold pB at h
 split at h
 .obtain⟨h1,h2⟩:=gQ.mp h;obtain⟨a,rfl⟩:=Zru h1;obtain⟨b,rfl⟩:=Zru h2;exact⟨a,b,rfl⟩
 .cases h
theorem Zua(h:pB t=false):rB t=false:=by
 unfold rB;split
 .cases h
 .rfl
noncomputable def trP(rs:List Pt):List ca:=rs.map λp=>.tuple [.int p.1,.int p.2]
theorem Zei:∀{ts:List ca},(∀t∈ts,rB t=true)->∃rs:List Pt,ts=trP rs/\∀p∈rs,bQ p.1 p.2=1
 |[],_=>⟨[],rfl,λp hp=>by simp at hp⟩
 |t::ts,h=>by
  obtain⟨rs,e,g⟩:=Zei (ts:=ts) λx hx=>h x (by simp[hx])
  have r:=h t (by simp)
  unfold rB at r
  split at r
  .rename_i a b;refine⟨(a,b)::rs,by rw[e];rfl,λq hq=>?_⟩
   rcases aM.mp hq with rfl|hq
   .exact of_decide_eq_true r
   .exact g q hq
  .cases r
section
variable {M:Sto}{k:Nat}{rs:List Pt}{d:D}{t:ca}{xs:List D}
theorem Th.pr(h:Th M k d t)(p:pB t=true):∃p:Pt,d=pr p.1 p.2/\t=.tuple [.int p.1,.int p.2]/\Bd BG p:=by
 obtain⟨a,b,rfl⟩:=Zvz p;rcases h.ex with⟨_,e⟩|⟨b,_,e⟩|⟨i,_,e,_⟩|⟨x,_,e⟩|⟨l,xs,ts,rfl,rfl,e,h,_⟩|⟨l,m,xs,ts,rfl,_,_,e,_⟩
 all_goals first|cases e;done|skip
 cases e;have len:=h.len
 match xs,len with
 |[x,y],_=>
  have a1:=h.at (i:=0) (by simp) (by simp)
  have b1:=h.at (i:=1) (by simp) (by simp)
  simp only[aR,bB]at a1 b1;have a2:=ZcI a1.1;have b2:=ZcI b1.1;subst a2 b2;cases l with
  |zero=>exact absurd a1.1 (by intro z;cases z)
  |succ l=>exact⟨(a,b),rfl,rfl,a1.2,b1.2⟩
theorem Ths.prs(h:Ths M k xs (trP rs)):xs=prs rs/\∀p∈rs,Bd BG p:=by
 have l:=h.len;have l2:(trP rs).length=rs.length:=by simp[trP]
 have one:∀i (hi:i<rs.length),∃hx:i<xs.length,xs[i]=DL.pr rs[i].1 rs[i].2/\Bd BG rs[i]:=λi hi=>by
  have hx:i<xs.length:=⋯
  have a:=h.at hx ⋯
  have e:(trP rs)[i]'(by lia)=.tuple [.int rs[i].1,.int rs[i].2]:=by simp[trP]
  rw[e]at a;obtain⟨p,e1,e2,b⟩:=a.pr rfl;simp only[ca.tuple.injEq,ja,ca.int.injEq]at e2;have e3:p=rs[i]:=eO e2.1.symm e2.2.1.symm;subst e3;exact⟨hx,e1,b⟩
 constructor
 .apply List.ext_getElem
  .rw[ZO];lia
  .intro i h1 h2;obtain⟨_,e,_⟩:=one i ⋯
   rw[e];simp[DL.prs]
 .intro p hp;obtain⟨i,hi,rfl⟩:=bw hp;exact(one i hi).2.2
theorem ZcJ(h:Th M k d t)(q:Q (.bl (wB t)) M):wO (CR.F_is_whole [d] M) Q E:=by
 rcases h.ex with⟨rfl,rfl⟩|⟨b,rfl,rfl⟩|⟨i,rfl,rfl,_⟩|⟨x,rfl,rfl⟩|⟨l,xs,ts,rfl,rfl,rfl,_⟩|⟨l,m,xs,ts,rfl,rfl,hm,rfl,_⟩
 .simp![CR.F_is_whole,CR.Z7,ZqY];exact q
 .simp![CR.F_is_whole,CR.Z7];exact q
 .simp![CR.F_is_whole,CR.Z7];exact q
 .simp![CR.F_is_whole,CR.Z7,Zdr,ZqX];exact q
 .simp![CR.F_is_whole,CR.Z7];exact q
 .simp![CR.F_is_whole,CR.Z7,CG.ZaI hm];exact q
theorem Zjc{xs:List D}(h:xs.length≠2):decide ((xs.length:Int)=2)=false:=decide_eq_false ⋯
theorem Ztt(h:ts.length≠2):pB (.tuple ts)=false:=by
 unfold pB;split
 .rename_i e;cases e;exact absurd rfl h
 .rfl
theorem Zgt(h:Th M k d t)(q:Q (.bl (pB t)) M):wO (CG.F_is_pair [d] M) Q E:=by
 rcases h.ex with⟨rfl,rfl⟩|⟨b,rfl,rfl⟩|⟨i,rfl,rfl,_⟩|⟨x,rfl,rfl⟩|⟨l,xs,ts,rfl,rfl,rfl,h,_⟩|⟨l,m,xs,ts,rfl,rfl,hm,rfl,_⟩
 .simp![CG.F_is_pair,CG.Zao];exact q
 .simp![CG.F_is_pair,CG.Zao,Zq0];exact q
 .simp![CG.F_is_pair,CG.Zao,Zq1];exact q
 .simp![CG.F_is_pair,CG.Zao,Zdr,ZqZ];exact q
 .have l1:=h.len;by_cases c:xs.length=2
  .match xs,ts,c,l1,h,q with
   |[x,y],[s,t],_,_,h,q=>
   have a1:=h.at (i:=0) (by simp) (by simp)
   have b1:=h.at (i:=1) (by simp) (by simp)
   simp only[aR,bB]at a1 b1;simp![CG.F_is_pair,CG.Zao];refine ZcJ a1 ?_
   change Q (.bl (wB s&&wB t)) M at q
   cases e:wB s
   .rw[e]at q;simp![Zm];exact q
   .rw[e]at q;simp![Zm];refine ZcJ b1 ?_;exact q
  .rw[Ztt ⋯]at q
   simp![CG.F_is_pair,CG.Zao,ZkG,Zjc c];exact q
 .simp![CG.F_is_pair,CG.Zao,CG.ZaI hm];exact q
theorem ZkN(h:Th M k d t)(q:Q (.bl (rB t)) M):wO (CG.F_is_ray [d] M) Q E:=by
 cases e:pB t with
 |true=>
  obtain⟨p,rfl,rfl,b⟩:=h.pr e;exact CG.ZkM q
 |false=>
  rw[Zua e]at q;simp![CG.F_is_ray,CG.Zc2];refine Zgt h ?_;rw[e];simp![Zm];exact q
theorem ZdN(Inv:Ro->Prop)(P:Nat->D->Prop)(hl:xs.length<=1000)(hcnt:xs.length<=cnt src M)(h0:Inv (roB nn fr ρ))(hs:∀M',Kp M M'->∀i,i<=xs.length->nxt src i M'=some xs[i]?)(st:∀i (h:i<xs.length) r M1,Inv r->Kp M M1->wG (tg xs[i] r) λr=>Inv r/\wO (f r M1) (λy M2=>Kp M1 M2/\P i y) (λ_ _=>False))(q:∀ys M',Kp M M'->M'[M.length]?=some (.lst ys)->ys.length=xs.length->(∀i (h:i<ys.length),P i ys[i])->Q (.ref M.length) M'):kCo tg (λ_ M=>.ok true M) f nn fr ρ Q src M:=by
 show wO (ZeB src tg (λ_ M=>.ok true M) f M.length (cnt src M) 0 (roB nn fr ρ) (M++[.lst []])) _ _;refine Zgh (xs:=xs) (λi ρ M'=>Inv ρ/\Kp M M'/\∃ys,M'[M.length]?=some (.lst ys)/\ys.length=i/\∀j (h:j<ys.length),P j ys[j]) _ 0 _ _ ⋯ ⋯ ⟨h0,Kp.app,[],by simp,rfl,λj h=>by simp at h⟩ (λi ρ M' hi hI=>hs M' hI.2.1 i hi) ?_ ?_
 .rintro i ρ M1 hi ⟨I,K,ys,hy,ly,hP⟩;have s:=st i hi ρ M1 I K;cases e:tg xs[i] ρ with
  |none=>rw[e]at s;exact s.elim
  |some r=>
   rw[e]at s;obtain⟨I2,s⟩:=s;refine(show ∀P:Ro->Prop,P r->wG (some r) P from λP h=>h) _ ?_;refine(show ∀P:Prop,P->Br true P _ from λP h=>⟨λ_=>h,λz=>by cases z⟩) _ ?_
   refine ZaX s (λy M2 h=>?_) (λ_ _ z=>z);have hy2:=h.1.get hy;rw[hy2];refine⟨⋯,I2,Kp.set (K.trans h.1) (ac _),ys++[y],aY (Zas hy2),by simp[ly],λj hj=>?_⟩
   by_cases c:j<ys.length
   .rw[cQ c];exact hP j c
   .have e2:j=ys.length:=by simp at hj;lia
    subst e2;rw[cM (ac _)];simp only[c7,aR,ly];exact h.2
 .rintro ρ M1 ⟨-,K,ys,hy,ly,hP⟩;exact q ys M1 K hy ly hP
theorem Zg1{P:Nat->Bool->Prop}:∀{ys:List D},(∀i (h:i<ys.length),∃b,ys[i]=.bl b/\P i b)->∃bs,Zar ys=some bs/\ys=bs.map D.bl/\∀i (h:i<bs.length),P i bs[i]:=by
 intro ys
 induction ys generalizing P with
 |nil=>exact λ_=>⟨[],rfl,rfl,λi h=>by simp at h⟩
 |cons y r ih=>
  intro h;obtain⟨b,e,p⟩:=h 0 (by simp)
  obtain⟨bs,e1,e2,e3⟩:=ih (P:=λi b=>P (i+1) b) λi hi=>h (i+1) (by simp;lia)
  simp only[aR]at e;subst e;refine⟨b::bs,by unfold Zar;rw[e1],by rw[e2];rfl,λi hi=>?_⟩
  cases i with
  |zero=>exact p
  |succ i=>exact e3 i (by simpa using hi)
end
end K71
namespace K71
open L2 DL
open CB (Bd)
open CV (Kp)
open CG (met ZdA BG mfB Zfz)
open CR (rt Sz)
def Rnd(rs:List Pt):Prop:=3<=rs.length/\(∀p∈rs,bQ p.1 p.2=1)/\(∀j:Nat,j<rs.length->0<X (cy rs j) (cy rs (j+1)))/\ZdA rs<=1
def Rb(b:Bool)(rs:List Pt):Prop:=Rnd rs/\(b=true->∀j:Nat,j<rs.length->X (cy rs j) (cy rs (j+1))=1)
def Rt(b:Bool)(t:ca):Prop:=∃rs,t=.list (trP rs)/\Rb b rs
def One(rs:List Pt):Prop:=3<=rs.length/\∀i:Int,X (cy rs i) (cy rs (i+1))=1
theorem One.ne(o:One rs):rs≠[]:=by intro z;have:=o.1;rw[z]at this;simp at this
theorem Rb.one(h:Rb true rs):One rs:=⟨h.1.1,Zft (P:=λa b=>X a b=1) (by have:=h.1.1;lia) λi h0 h1=>by
 have:=h.2 rfl i.toNat ⋯
 rw[show((i.toNat:Nat):Int)=i by lia]at this
 exact this⟩
theorem One.del{rs:List Pt}{k:Nat}(h:One rs)(hk:k<rs.length)(h4:4<=rs.length)(ht:T rs k= -1):One (del rs k):=by
 have hL:=Zfu hk;refine⟨⋯,Zft (P:=λa b=>X a b=1) ⋯ ?_⟩
 intro j h0 h1;rw[hL]at h1;have xk:X (cy rs (k-1)) (cy rs (k+1))=1:=by unfold T at ht;lia
 rw[Zi4 hk h0 ⋯]
 by_cases c:j+1<rs.length-1
 .rw[Zi4 hk ⋯ ⋯]
  by_cases c1:j+1<k
  .rw[if_pos ⋯,if_pos c1];exact h.2 j
  .by_cases c2:j+1=k
   .rw[if_pos ⋯,if_neg c1,show j=(k:Int)-1 by lia,show(k:Int)-1+1+1=k+1 by lia]
    exact xk
   .rw[if_neg ⋯,if_neg c1];exact h.2 (j+1)
 .have jE:j+1=rs.length-1:=⋯
  rw[Znn hk ⋯ jE]
  by_cases c0:k=0
  .subst c0;rw[if_neg ⋯,if_pos rfl,show j+1=((0:Nat):Int)-1+rs.length by lia,ZeV,show(rs.length:Int)+1=((0:Nat):Int)+1+rs.length by lia,ZeV]
   exact xk
  .rw[if_neg c0];by_cases c2:j+1=k
   .rw[if_pos ⋯,show j=(k:Int)-1 by lia,show(rs.length:Int)=k+1 by lia]
    exact xk
   .rw[if_neg ⋯,show j+1=(rs.length:Int)-1 by lia]
    have:=h.2 (rs.length-1)
    rw[show(rs.length:Int)-1+1=rs.length by lia]at this
    exact this
theorem Th.lq(h:Th M k d t):(∃ty,ZaB M d=some ty/\Zb3 ty "list"=false)\/∃l m xs ts,d=.ref m/\M[m]?=some (.lst xs)/\t=.list ts/\Ths M l xs ts/\ts.length<=12:=by
 rcases h.ex with⟨rfl,rfl⟩|⟨b,rfl,rfl⟩|⟨i,rfl,rfl,_⟩|⟨x,rfl,rfl⟩|⟨l,xs,ts,rfl,rfl,rfl,h,_⟩|⟨l,m,xs,ts,rfl,rfl,hm,rfl,hs,hl⟩
 .exact .inl ⟨_,rfl,rfl⟩
 .exact .inl ⟨_,rfl,rfl⟩
 .exact .inl ⟨_,rfl,rfl⟩
 .exact .inl ⟨_,rfl,rfl⟩
 .exact .inl ⟨_,rfl,rfl⟩
 .exact .inr ⟨l,m,xs,ts,rfl,hm,rfl,hs,hl⟩
theorem Th.tq(h:Th M k d t):(∃ty,ZaB M d=some ty/\Zb3 ty "tuple"=false)\/∃l xs ts,k=l+1/\d=.tup xs/\t=.tuple ts/\Ths M l xs ts/\ts.length<=12:=by
 rcases h.ex with⟨rfl,rfl⟩|⟨b,rfl,rfl⟩|⟨i,rfl,rfl,_⟩|⟨x,rfl,rfl⟩|⟨l,xs,ts,rfl,rfl,rfl,hs,hl⟩|⟨l,m,xs,ts,rfl,rfl,hm,rfl,hs,hl⟩
 .exact .inl ⟨_,rfl,rfl⟩
 .exact .inl ⟨_,rfl,rfl⟩
 .exact .inl ⟨_,rfl,rfl⟩
 .exact .inl ⟨_,rfl,rfl⟩
 .exact .inr ⟨l,xs,ts,rfl,rfl,rfl,hs,hl⟩
 .exact .inl ⟨_,CG.ZaI hm,rfl⟩
theorem Zq2(h:Th M k d t)(x:∀M' y z,Kp M M'->E CG.NR (M'++[.lst [y,z]]))(q:∀M' m rs,Kp M M'->d=.ref m->M[m]?=some (.lst (prs rs))->t=.list (trP rs)->Rnd rs->(∀p∈rs,Bd BG p)->rs.length<=12->Q .non M'):wO (CG.F_look_round [d] M) Q E:=by
 rcases h.lq with⟨ty,a,b⟩|⟨l,m,xs,ts,rfl,hm,rfl,hs,hl⟩
 .simp![CG.F_look_round,CG.Zau,a,b];refine Zcq ?_;simp![ZeY];exact⟨⟨by decide +kernel,by decide +kernel⟩,x M _ _ Kp.refl⟩
 have len:=hs.len;by_cases l3:xs.length<3
 .simp![CG.F_look_round,CG.Zau,CG.ZaI hm,hm];refine Zcq ?_;simp![ZeY];exact⟨⟨by decide +kernel,by decide +kernel⟩,x M _ _ Kp.refl⟩
 by_cases hr:∀t∈ts,rB t=true
 .obtain⟨rs,rfl,g⟩:=Zei hr;obtain⟨rfl,hb⟩:=hs.prs;rw[ZO]at l3 len;exact CG.ZqO hm ⋯ hb g (λi hi _ np=>x M _ _ Kp.refl) (λ_ c M' K=>x M' _ _ K) (λpos c M' K=>q M' m rs K rfl hm rfl ⟨⋯,g,pos,c⟩ hb ⋯)
 .simp![CG.F_look_round,CG.Zau,CG.ZaI hm,hm];refine ZeX (λk ρ M'=>M'=M/\(∃x y,ρ=[some (.ref m),x,y])/\∀j (hj:j<ts.length),j<k->rB ts[j]=true) hm ⟨rfl,⟨_,_,rfl⟩,λj _ hj=>⋯⟩ (λk ρ M' hI=>by rw[hI.1];exact hm) ?_ ?_
  .rintro k ρ M' hk ⟨e1,⟨x1,y1,rfl⟩,ki⟩;rw[e1];clear e1 M';simp![CG.Zax];refine ZkN (hs.at hk ⋯) ?_
   cases c:rB (ts[k]'⋯)with
   |true=>
    simp![Zm];refine⟨⟨_,_,rfl⟩,λj hj hjk=>?_⟩;by_cases z:j<k
    .exact ki j hj z
    .have e:j=k:=⋯
     subst e;exact c
   |false=>
    simp![Zm];refine Zcq ?_;simp![ZeY];exact⟨⟨by decide +kernel,CG.ZlB ⋯⟩,x M _ _ Kp.refl⟩
  .rintro ρ M' ⟨_,_,ki⟩;exact absurd (λt ht=>by
    obtain⟨j,hj,rfl⟩:=bw ht;exact ki j hj ⋯) hr
theorem ZbW(h:Th M k d t)(q1:∀M',Kp M M'->Q (.bl false) M')(q2:∀M' m rs,Kp M M'->d=.ref m->M[m]?=some (.lst (prs rs))->t=.list (trP rs)->Rnd rs->(∀p∈rs,Bd BG p)->rs.length<=12->Q (.bl true) M'):wO (F_is_round [d] M) Q E:=by
 simp![F_is_round,ZdL,Zlv];refine Zq2 h (λM' y z K=>?_) (λM' m rs K a b c e f g=>?_)
 .simp![Zi2,CG.NR];exact⟨by decide +kernel,q1 M' K⟩
 .simp![Zm];exact q2 M' m rs K a b c e f g
theorem ZlD(h:M[m]?=some (.lst (prs rs)))(ne:rs≠[])(hb:∀p∈rs,Bd BG p)(q1:(∀j:Nat,j<rs.length->X (cy rs j) (cy rs (j+1))=1)->Q .non M)(q2:∀j:Nat,(¬∀i:Int,X (cy rs i) (cy rs (i+1))=1)->Q (.int j) M):wO (CC.F_unspanned [.ref m] M) Q E:=by
 simp![CC.F_unspanned,CC.Zbu];refine ZeX (λi ρ M'=>M'=M/\(∃x y,ρ=[some (.ref m),x,y])/\∀j:Nat,j<i->X (cy rs j) (cy rs (j+1))=1) h ⟨rfl,⟨_,_,rfl⟩,λj hj=>⋯⟩ (λi ρ M' hI=>by rw[hI.1];exact h) ?_ ?_
 .rintro i ρ M' hi ⟨e,⟨x,y,rfl⟩,hj⟩;rw[e];clear e M';rw[CC.Za1];rw[ZO]at hi;simp![CC.ZaG,CC.Zbw h,Zfz (hb _ (Zat (i:=(i:Int)) ne)) (hb _ (Zat (i:=(i:Int)+1) ne))];refine Zqt (λz=>?_) (λz=>?_)
  .simp![Zm];exact q2 i λy=>z (y i)
  .simp![Zm];refine⟨⟨_,_,rfl⟩,λj hj'=>?_⟩;by_cases c:j<i
   .exact hj j c
   .rw[show j=i by lia]
    exact z
 .rintro ρ M' ⟨e,⟨x,y,rfl⟩,hj⟩;rw[e];rw[ZO]at hj;simp![Zm];exact q1 hj
theorem Zce(h:Th M k d t)(q1:∀M',Kp M M'->Q (.bl false) M')(q2:∀M' m rs,Kp M M'->d=.ref m->M[m]?=some (.lst (prs rs))->t=.list (trP rs)->Rb true rs->(∀p∈rs,Bd BG p)->rs.length<=12->Q (.bl true) M'):wO (F_is_smooth [d] M) Q E:=by
 simp![F_is_smooth,Zdp];refine ZbW h (λM' K=>?_) (λM' m rs K a b c e f g=>?_)
 .simp![Zm];exact q1 M' K
 .subst a;simp![Zm];refine ZlD (K.get b) (by intro z;have:=e.1;rw[z]at this;simp at this) f (λo=>?_) (λj _=>?_)
  .simp![Zm];exact q2 M' m rs K rfl b c ⟨e,λ_=>o⟩ f g
  .simp![Zm];exact q1 M' K
theorem Zds(h:M[n]?=some (.lst (prs rs)))(o:One rs)(hl:rs.length<=1000)(hb:∀p∈rs,Bd BG p)(q:Q (.ref M.length) (M++[.lst (nts (ZaA rs))])):wO (CE.F_numbers [.ref n] M) Q E:=by
 have hm:=Zas h;have hn:=o.1;simp![CE.F_numbers,CE.Zdl,CC.F_ask_smooth,CC.Za8];refine ZlD h o.ne hb (λ_=>?_) (λj z=>absurd o.2 z);simp![h];refine⟨⋯,?_⟩
 rw[show((rs.length:Int)).toNat=rs.length by lia]
 refine Zvv (λρ=>∃x,ρ=[x,some (.ref n)]) (λ(i:Nat)=>.int (T rs i)) ⋯ ⟨_,rfl⟩ ?_ (by rw[Zi0];exact q)
 rintro i hi ρ L ⟨x,rfl⟩;have hL:(M++L)[n]?=some (.lst (prs rs)):=by rw[Zcp hm];exact h
 simp![CC.Zbw hL,h,Zgi,Zfz (hb _ (Zat (i:=(i:Int)+1) o.ne)) (hb _ (Zat (i:=(i:Int)-1) o.ne))];refine⟨⟨_,rfl⟩,?_⟩;unfold T;rw[<-ZqF]
theorem ZkO(hb:∀p∈rs,Bd BG p)(hn:rs≠[]):(T rs i).natAbs<2^270:=by
 have a:=hb _ (Zat (i:=i-1) hn);have b:=hb _ (Zat (i:=i+1) hn);unfold T X;have h (x y:Int) (hx: -BG<=x/\x<=BG) (hy: -BG<=y/\y<=BG): -(10^80)<=x*y/\x*y<=10^80:=by
  unfold BG at hx hy
  have:(x*y).natAbs<=10^40*10^40:=by rw[dP];exact jJ ⋯ ⋯
  lia
 have h1:=h _ _ a.1 b.2;have h2:=h _ _ a.2 b.1;lia
theorem ZfG(h:M[n]?=some (.lst (prs rs)))(o:One rs)(hl:rs.length<=1000)(hb:∀p∈rs,Bd BG p)(e1:∀M',Kp M M'->E (PySem.Str.ofString "NoPlace") M')(e2:∀M',Kp M M'->E (PySem.Str.ofString "NoMinus") M')(q:∀M' m k,Kp M M'->M'[m]?=some (.lst (prs (del rs k)))->One (del rs k)->Q (.ref m) M'):wO (CE.F_taken_out [.ref n,.int i] M) Q E:=by
 have hm:=Zas h;have hn:=o.1;simp![CE.F_taken_out,CE.Zbx];refine Zds h o hl hb ?_;have K:Kp M (M++[SO.lst (nts (ZaA rs))]):=Kp.app;have h2:=K.get h;have lt2:=Zas h2;have tg:(M++[SO.lst (nts (ZaA rs))])[M.length]?=some (.lst (nts (ZaA rs))):=ZgT;generalize M++[SO.lst (nts (ZaA rs))]=M1 at *;simp![CE.F_ask_place,CE.Za0];by_cases c:i<0\/(rs.length:Int)<=i
 .refine ZkK (λb M'=>b=true/\M'=M1) ?_ ?_
  .refine brO (λz=>?_) (λz=>?_)
   .simp![Zm]
   .simp![h2]
  .rintro b M2 ⟨rfl,e⟩;rw[e];clear e M2;simp![Zm];refine Zva ?_ ?_
   .refine Zu8 (bb:=0) ?_ ?_ ?_
    .rw[PySem.ofString_length];exact(by decide:(21:Nat)<=1000)
    .lia
    refine Zu9 (i:=(rs.length:Int)-1) ?_ ?_ ?_ ?_
    .have:=Zgf (o:=DL.e2 dSub (Zj bLen (Zd (Zi 0) aNil)) (eC (D.int 1)) [some (D.ref n),some (D.int i)] M1) (Q:=λd M'=>d=.int ((rs.length:Int)-1)/\M'=M1) (by simp![h2])
     obtain⟨d,M',e,e1,e2⟩:=this;rw[e,e1,e2]
    .lia
    .lia
    exact Zqg ⋯
   intro x;simp![Zm];exact e1 _ K
 .obtain⟨k,rfl⟩:∃k:Nat,i=k:=⟨i.toNat,⋯⟩
  have ct:cn (ZaA rs) k=T rs k:=by rw[ZeW (by rw[Zbk];lia)];simp[ZaA]
  have tl:=Zbk (rs:=rs);simp![h2,tg,ZiY,tl,ct];by_cases c2:T rs k= -1/\4<=rs.length
  .obtain⟨ht,h4⟩:=c2;have le:((k:Int)+1).toNat=k+1:=⋯
   have le2:(k:Int).toNat=k:=⋯
   simp![ht,h2,le,le2];refine⟨by rw[cD,eW];lia,?_⟩
   exact q _ _ k (K.trans Kp.app) (by rw[Ze5];rfl) (o.del ⋯ h4 ht)
  .refine ZkK (λb M'=>b=true/\M'=M1) ?_ ?_
   .refine Zve (λz=>?_) (λz=>?_)
    .simp![Zm]
    .simp![h2]
   .rintro b M2 ⟨rfl,e⟩;rw[e];clear e M2;simp![Zm];exact e2 _ K
theorem Zq3(h1:Th M k d1 t1)(h2:Th M k d2 t2)(h3:Th M k d3 t3)(q1:∀M',Kp M M'->Q (.bl false) M')(q2:∀M' b,Kp M M'->Rt true t1->Q (.bl b) M'):wO (F_walk_stands [d1,d2,d3] M) Q E:=by
 simp![F_walk_stands,Zct];refine Zce h1 (λM' K=>?_) (λM1 mr rs K1 a hr ta sm br lr=>?_)
 .simp![Zm];exact q1 M' K
 subst a;rcases(h2.up K1).lq with⟨ty,a,b⟩|⟨l,mp,xs,ts,rfl,hp,rfl,hs,hl⟩
 .simp![a,b];exact q1 M1 K1
 simp![CG.ZaI hp];refine ZbW (h3.up K1) (λM' K=>?_) (λM2 ml ls K2 a2 hl2 tb rn bl ll=>?_)
 .simp![Zm];exact q1 M' (K1.trans K)
 subst a2;have K:=K1.trans K2;have hp2:=K2.get hp;have len:=hs.len;simp![Zm];refine Zfr (λi ρ M'=>Kp M2 M'/\∃cur x y,ρ=[some (.ref mr),some (.ref mp),some (.ref ml),some (.ref x),y]/\M'[x]?=some (.lst (prs cur))/\One cur/\(∀p∈cur,p∈rs)/\cur.length<=1000) hp2 ⟨Kp.refl,rs,mr,_,rfl,K.get hr,sm.one,λp hp=>hp,⋯⟩ (λi ρ M' hI=>hI.1.get hp2) ?_ ?_
 .rintro i ρ M3 hi ⟨K3,cur,x,y,rfl,h3,o3,in3,l3⟩;have hi2:=(hs.at hi ⋯).up (K2.trans K3)
  generalize xs[i]=dd at *;simp![ZbC];refine ZcJ hi2 ?_;cases c:wB (ts[i]'⋯)with
  |false=>
   simp![Zm];exact q1 _ (K.trans K3)
  |true=>
   obtain⟨z,ez⟩:=Zru c;rw[ez]at hi2
   have:=ZcI hi2.1
   subst this;simp![Zlv];refine ZfG h3 o3 l3 (λp hp=>br p (in3 p hp)) (λM' K4=>?_) (λM' K4=>?_) (λM' m k K4 hm od=>?_)
   .simp![Zi2];exact⟨by decide +kernel,q1 M' ((K.trans K3).trans K4)⟩
   .simp![Zi2];exact⟨by decide +kernel,q1 M' ((K.trans K3).trans K4)⟩
   .simp![Zm];refine⟨K3.trans K4,del cur k,m,_,rfl,hm,od,λp hp=>in3 p ?_,?_⟩
    .unfold del at hp;rcases cV.mp hp with z|z
     .exact gP z
     .exact jM z
    .unfold del;rw[a8,cD,eW];lia
 rintro ρ M3 ⟨K3,cur,x,y,rfl,h3,o3,in3,l3⟩;have hl3:=(K2.trans K3).get hl2;have KK:=K.trans K3;have rt:Rt true t1:=⟨rs,ta,sm⟩;simp![CU.ZqJ h3 hl3];refine brO (λz=>?_) (λz=>?_)
 .simp![hl3];exact q2 _ _ KK rt
 .simp![Zm];exact q2 _ _ KK rt
end K71
namespace K71
open L2 DL
open CB (Bd)
open CV (Kp)
open CG (met ZdA BG mfB Zfz)
open CR (rt Sz)
open CH (rts ZE Zai)
open CN (cq)
theorem Zgu:Zar ((ay N).map λi=>D.bl (f i))=some ((ay N).map f):=by
 induction N generalizing f with
 |zero=>rfl
 |succ n ih=>
  rw[i5,aN,aN,k9,k9];unfold Zar;rw[show(λi=>D.bl (f i))∘Nat.succ=λi=>D.bl ((f∘Nat.succ) i)from rfl,ih]
noncomputable def ld(a b c d:Int)(p:Pt):Pt:=(a*p.1+b*p.2,c*p.1+d*p.2)
theorem Ze3(h:Th M k d t)(q1:Q (.bl false) M)(q2:∀p r:Pt,d=.tup [pr p.1 p.2,pr r.1 r.2]->Bd BG p->Bd BG r->Q (.bl true) M):wO (F_is_turning [d] M) Q E:=by
 rcases h.tq with⟨ty,a,b⟩|⟨l,xs,ts,rfl,rfl,rfl,hs,hl⟩
 .simp![F_is_turning,Zba,a,b];exact q1
 have l1:=hs.len;by_cases c:xs.length=2
 case neg=>
  simp![F_is_turning,Zba,ZkG,Zjc c];exact q1
 match xs,ts,c,l1,hs with
 |[x,y],[s,t],_,_,hs=>
 have a1:=hs.at (i:=0) (by simp) (by simp)
 have b1:=hs.at (i:=1) (by simp) (by simp)
 simp only[aR,bB]at a1 b1;simp![F_is_turning,Zba];refine Zgt a1 ?_;cases e:pB s with
 |false=>
  simp![Zm];exact q1
 |true=>
  simp![Zm];refine Zgt b1 ?_;cases e2:pB t with
  |false=>
   simp![Zm];exact q1
  |true=>
   obtain⟨p,rfl,_,bp⟩:=a1.pr e;obtain⟨r,rfl,_,br⟩:=b1.pr e2;simp![CP.F_spanned,CP.Zdn,Zfz bp br];by_cases z:(((X p r).natAbs:Nat):Int)=1
   .rw[decide_eq_true z];exact q2 p r rfl bp br
   .rw[decide_eq_false z];exact q1
theorem ZkP(hp:Bd BG p)(hr:Bd BG r)(hu:Bd BG u):wO (CP.F_turned [.tup [pr p.1 p.2,pr r.1 r.2],pr u.1 u.2] M) Q E=Q (pr (ld p.1 p.2 r.1 r.2 u).1 (ld p.1 p.2 r.1 r.2 u).2) M:=by
 simp![CP.F_turned,CP.Zee,Zaa (mfB hp.1 hu.1),Zaa (mfB hp.2 hu.2),Zaa (mfB hr.1 hu.1),Zaa (mfB hr.2 hu.2),ld]
theorem Zjd(h1:Th M k d1 t1)(h2:Th M k d2 t2)(h3:Th M k d3 t3)(q1:∀M',Kp M M'->Q (.bl false) M')(q2:∀M' b,Kp M M'->Rt false t1->Q (.bl b) M'):wO (F_turning_stands [d1,d2,d3] M) Q E:=by
 simp![F_turning_stands,ZbD];refine ZbW h1 (λM' K=>?_) (λM1 m1 one K1 a r1 ta rn1 b1 l1=>?_)
 .simp![Zm];exact q1 M' K
 subst a;simp![Zm];refine ZbW (h2.up K1) (λM' K=>?_) (λM2 m2 other K2 a r2 tb rn2 b2 l2=>?_)
 .simp![Zm];exact q1 M' (K1.trans K)
 subst a;have K0:=K1.trans K2;have R1:=K0.get r1;have R2:=K2.get r2;simp![Zm];refine Ze3 (h3.up K0) ?_ (λp r e bp br=>?_)
 .simp![Zm];exact q1 M2 K0
 subst e;have ne:one≠[]:=by intro z;have:=rn1.1;rw[z]at this;simp at this
 simp![Zm];refine Ztc (λρ=>∃x,ρ=[x,some (.tup [pr p.1 p.2,pr r.1 r.2])]) (λ(i:Nat)=>pr (ld p.1 p.2 r.1 r.2 (cy one i)).1 (ld p.1 p.2 r.1 r.2 (cy one i)).2) R1 (by rw[ZO];lia) ⟨_,rfl⟩ ?_ ?_
 .rintro i hi ρ L ⟨x,rfl⟩;rw[ZO]at hi;rw[CC.Za1];simp![ZkP bp br (b1 _ (Zat (i:=(i:Int)) ne))];exact⟨_,rfl⟩
 rw[ZO,ZkJ (F:=λ(i:Nat)=>(ld p.1 p.2 r.1 r.2 (cy one i)).1) (G:=λ(i:Nat)=>(ld p.1 p.2 r.1 r.2 (cy one i)).2)];generalize hled:(ay one.length).map (λ(i:Nat)=>((ld p.1 p.2 r.1 r.2 (cy one i)).1,(ld p.1 p.2 r.1 r.2 (cy one i)).2))=led;have ll:led.length=one.length:=by rw[<-hled];simp
 have K3:Kp M2 (M2++[.lst (prs led)]):=Kp.app;have r1:(M2++[SO.lst (prs led)])[M2.length]?=some (.lst (prs led)):=by simp
 have r2:=K3.get R2;generalize M2++[SO.lst (prs led)]=M3 at *;have e1:=CP.ZqM r1 ⋯
 simp![e1];have K4:Kp M3 (M3++[.lst (prs (CP.sp led))]):=Kp.app;have r3:(M3++[SO.lst (prs (CP.sp led))])[M3.length]?=some (.lst (prs (CP.sp led))):=by simp
 have r4:=K4.get r2;generalize M3++[SO.lst (prs (CP.sp led))]=M4 at *;have e2:=CP.ZqM r4 ⋯
 simp![e2];have K5:Kp M4 (M4++[.lst (prs (CP.sp other))]):=Kp.app;have r5:(M4++[SO.lst (prs (CP.sp other))])[M4.length]?=some (.lst (prs (CP.sp other))):=by simp
 have r6:=K5.get r3;generalize M4++[SO.lst (prs (CP.sp other))]=M5 at *;simp![CU.ZqJ (k:=9) r6 r5];exact q2 _ _ (((K0.trans K3).trans K4).trans K5) ⟨one,ta,rn1,λz=>nomatch z⟩
theorem ZlE(hu:Bd BG u)(hv:Bd BG v):wO (F_product [pr u.1 u.2,pr v.1 v.2] M) Q E=Q (.int (u.1*v.1+u.2*v.2)) M:=by
 simp![F_product,Ze2,Zaa (mfB hu.1 hv.1),Zaa (mfB hu.2 hv.2)]
theorem Zq4(h:Th M k d t)(hu:Bd BG u)(hw:M[m]?=some (.lst (prs rs)))(hl:rs.length<=1000)(hb:∀p∈rs,Bd BG p)(q:∀M' b,Kp M M'->Q (.bl b) M'):wO (F_show_stands [d,pr u.1 u.2,.ref m] M) Q E:=by
 simp![F_show_stands,Zcu];refine Zgt h ?_;cases e:pB t with
 |false=>
  simp![Zm];exact q M _ Kp.refl
 |true=>
  obtain⟨p,rfl,_,bp⟩:=h.pr e;simp![ZlE bp hu];refine brO (λz=>?_) (λz=>?_)
  .simp![Zm];refine Ztc (λρ=>∃x,ρ=[x,some (pr p.1 p.2)]) (λ(i:Nat)=>.bl (decide (1<=p.1*(cy rs i).1+p.2*(cy rs i).2))) hw (by rw[ZO];lia) ⟨_,rfl⟩ ?_ ?_
   .rintro i hi ρ L ⟨x,rfl⟩;rw[CC.Za1 hi];rw[ZO]at hi;simp![ZlE bp (hb _ (Zat (i:=(i:Int)) (by intro z;rw[z]at hi;simp at hi)))]
    exact⟨_,rfl⟩
   .rw[ZO];simp![Zgu];exact q _ _ Kp.app
  .simp![Zm];exact q M _ Kp.refl
theorem Zrv(h:rB t=true):pB t=true:=by
 cases e:pB t with
 |true=>rfl
 |false=>rw[Zua e]at h;cases h
theorem Zny(h1:Th M k d1 t1)(h2:Th M k d2 t2)(h3:Th M k d3 t3)(h4:Th M k d4 t4)(q1:∀M',Kp M M'->Q (.bl false) M')(q2:∀M' b,Kp M M'->pB t1=true->pB t2=true->Q (.bl b) M'):wO (F_wedge_stands [d1,d2,d3,d4] M) Q E:=by
 simp![F_wedge_stands,Zbf];refine ZkN h1 ?_;cases e1:rB t1 with
 |false=>
  simp![Zm];exact q1 M Kp.refl
 |true=>
 obtain⟨u,rfl,_,bu⟩:=h1.pr (Zrv e1);simp![Zm];refine ZkN h2 ?_;cases e2:rB t2 with
 |false=>
  simp![Zm];exact q1 M Kp.refl
 |true=>
 obtain⟨v,rfl,_,bv⟩:=h2.pr (Zrv e2);have Q1:∀M' b,Kp M M'->Q (.bl b) M':=λM' b K=>q2 M' b K (Zrv e1) (Zrv e2);clear q1 q2;simp![Zfz bu bv];refine brS (λz=>?_) (λz=>?_)
 .simp![Zm];exact Q1 M _ Kp.refl
 simp![Zm];rcases h3.lq with⟨ty,a,b⟩|⟨l3,m3,xs3,ts3,rfl,hm3,rfl,hs3,hl3⟩
 .simp![a,b];exact Q1 M _ Kp.refl
 simp![CG.ZaI hm3];rcases h4.lq with⟨ty,a,b⟩|⟨l4,m4,xs4,ts4,rfl,hm4,rfl,hs4,hl4⟩
 .simp![a,b];exact Q1 M _ Kp.refl
 have len3:=hs3.len;have len4:=hs4.len;simp![CG.ZaI hm4,hm3,hm4];refine Zqt (λz=>?_) (λz=>?_)
 .simp![Zm];exact Q1 M _ Kp.refl
 simp![Zm];refine ZdN (xs:=xs3) (λr=>∃x,r=[x]) (λi y=>∃b,y=.bl b/\∃hi:i<ts3.length,b=rB ts3[i]) ⋯ (by rw[ZcF hm3];lia) ⟨_,rfl⟩ (λM' K i hi=>ZdJ (K.get hm3)) ?_ ?_
 .rintro i hi r M1 ⟨x,rfl⟩ K;simp![Zm];refine⟨⟨_,rfl⟩,ZkN ((hs3.at hi ⋯).up K) ⟨Kp.refl,_,rfl,⋯,rfl⟩⟩
 intro ys M1 K1 hy ly hP;obtain⟨bs,e,rfl,hB⟩:=Zg1 hP;rw[aC]at ly;simp![hy,e];cases ea:bs.all id with
 |false=>
  simp![Zm];exact Q1 M1 _ K1
 |true=>
 obtain⟨rs,rfl,g⟩:=Zei (ts:=ts3) λt ht=>by
  obtain⟨i,hi,rfl⟩:=bw ht;obtain⟨_,e⟩:=hB i ⋯
  rw[<-e];exact bh.mp ea _ (bW _)
 obtain⟨rfl,hb⟩:=hs3.prs;have r3:=K1.get hm3;have lt3:=Zas r3;rw[ZO]at len3 z;simp![r3];refine⟨⋯,⋯,?_⟩
 generalize hM2:M1++[SO.lst [pr u.1 u.2],SO.lst (prs ((u.1,u.2)::rs)),SO.lst [pr v.1 v.2],SO.lst (prs ((u.1,u.2)::(rs++[(v.1,v.2)]))),SO.lst (prs (List.drop 1 ((u.1,u.2)::(rs++[(v.1,v.2)]))))]=M2;have K2:Kp M1 M2:=hM2▸Kp.app;have c2:M2[M1.length+3]?=some (.lst (prs (u::(rs++[v])))):=by rw[<-hM2,Ze5];rfl
 have D2:M2[M1.length+4]?=some (.lst (prs ((u::(rs++[v])).drop 1))):=by rw[<-hM2,Ze5];rfl
 clear hM2;have lc:(u::(rs++[v])).length=rs.length+2:=by simp
 have bc:∀p∈u::(rs++[v]),Bd BG p:=by
  intro p hp;simp at hp;rcases hp with rfl|hp|rfl
  .exact bu
  .exact hb p hp
  .exact bv
 generalize u::(rs++[v])=cn at *;generalize M1.length+3=oc at *;generalize M1.length+4=od at *;have K3:=K1.trans K2;have hz:(bJ (λa b=>D.tup [a,b]) (prs cn) (prs (cn.drop 1))).length=rs.length+1:=by simp[ZO];lia
 refine Znm (xs:=bJ (λa b=>D.tup [a,b]) (prs cn) (prs (cn.drop 1))) (λρ=>∃x y,ρ=[x,y]) (λ(i:Nat)=>.bl (decide (X (cy cn i) (cy (cn.drop 1) i)=1))) ⋯ (by rw[ZcG c2,hz,ZO];lia) ⟨_,_,rfl⟩ (λL i hi=>?_) ?_ ?_
 .rw[Zdj (by rw[Zcp (Zas c2)];exact c2) (by rw[Zcp (Zas D2)];exact D2)]
 .rintro i hi ρ L ⟨x,y,rfl⟩;rw[hz]at hi;rw[dB,CC.Za1,CC.Za1];have ne1:cn≠[]:=by intro z;rw[z]at lc;simp at lc
  have ne2:cn.drop 1≠[]:=by intro z;have:=congrArg gJ z;rw[eW]at this;simp at this;lia
  simp![Zfz (bc _ (Zat (i:=(i:Int)) ne1)) (bc _ (jM (Zat (i:=(i:Int)) ne2)))];exact⟨_,_,rfl⟩
 have eb2:=Zgu (N:=(bJ (λa b=>D.tup [a,b]) (prs cn) (prs (cn.drop 1))).length) (f:=λ(i:Nat)=>decide (X (cy cn i) (cy (cn.drop 1) i)=1));generalize (ay (bJ (λa b=>D.tup [a,b]) (prs cn) (prs (cn.drop 1))).length).map (λ(i:Nat)=>decide (X (cy cn i) (cy (cn.drop 1) i)=1))=bs2 at *;generalize (ay (bJ (λa b=>D.tup [a,b]) (prs cn) (prs (cn.drop 1))).length).map (λ(i:Nat)=>D.bl (decide (X (cy cn i) (cy (cn.drop 1) i)=1)))=zs at *;simp![eb2];have K4:Kp M2 (M2++[SO.lst zs]):=Kp.app;generalize M2++[SO.lst zs]=M4 at *;have K5:=K3.trans K4;cases bs2.all id with
 |false=>
  simp![Zm];exact Q1 _ _ K5
 |true=>
 simp![Zm];have c4:=K4.get c2;have r4:=(K2.trans K4).get r3;have s4:=K5.get hm4;have hz:(bJ (λa b=>D.tup [a,b]) (prs rs) xs4).length=rs.length:=by simp[ZO];lia
 refine ZdN (xs:=bJ (λa b=>D.tup [a,b]) (prs rs) xs4) (λr=>∃x y,r=[x,y,some (.ref oc)]) (λi y=>∃b,y=.bl b/\True) ⋯ (by rw[ZcG r4,hz,ZO];lia) ⟨_,_,rfl⟩ (λM' K i hi=>Zdj (K.get r4) (K.get s4)) ?_ ?_
 .rintro i hi r M6 ⟨x,y,rfl⟩ K;rw[hz]at hi;rw[dB,CC.Za1];have h6:=(hs4.at (i:=i) ⋯ ⋯).up (K5.trans K)
  generalize xs4[i]=dd at *;simp![Zm];exact⟨⟨_,_,rfl⟩,Zq4 h6 (hb _ (Zat (by intro z;rw[z]at hi;simp at hi))) (K.get c4) ⋯ bc λM' b K=>⟨K,_,rfl⟩⟩
 intro ys M6 K6 hy ly hP;obtain⟨bs,e,-,-⟩:=Zg1 hP;simp![hy,e];exact Q1 _ _ (K5.trans K6)
end K71
namespace K71
open L2 DL
open CB (Bd)
open CV (Kp Zec)
open CG (met ZdA BG mfB Zfz)
open CR (rt Sz)
open CH (rts ZE Zai)
open CN (cq ZcV Ze1 Zgp Zgo Zbe bnd bds Zd9 Zea Zi8 ZbN)
section
variable {M:Sto}{w:Pt}{hs:List Rat}
theorem Znz(h: -BG<=i/\i<=BG):i.natAbs<2^140:=by
 unfold BG at h;lia
theorem Zg2(h:Th M k d t)(q:∀b,(b=true->∃x:Rat,d=rt x/\Sz 140 x)->Q (.bl b) M):wO (F_is_ratio [d] M) Q E:=by
 have q0:Q (.bl false) M:=q false λz=>nomatch z;rcases h.tq with⟨ty,a,b⟩|⟨l,xs,ts,rfl,rfl,rfl,hs,hl⟩
 .simp![F_is_ratio,ZbV,a,b];exact q0
 have l1:=hs.len;by_cases c:xs.length=2
 case neg=>
  simp![F_is_ratio,ZbV,ZkG,Zjc c];exact q0
 match xs,ts,c,l1,hs with
 |[x,y],[s,t],_,_,hs=>
 have a1:=hs.at (i:=0) (by simp) (by simp)
 have b1:=hs.at (i:=1) (by simp) (by simp)
 simp only[aR,bB]at a1 b1;simp![F_is_ratio,ZbV];refine ZcJ a1 ?_;cases e:wB s with
 |false=>
  simp![Zm];exact q0
 |true=>
  simp![Zm];refine ZcJ b1 ?_;cases e2:wB t with
  |false=>
   simp![Zm];exact q0
  |true=>
   have e3:pB (.tuple [s,t])=true:=by show(wB s&&wB t)=true;rw[e,e2];rfl
   obtain⟨p,e4,-,bp⟩:=h.pr e3;cases e4;simp![Zm];refine brO (λz=>?_) (λz=>?_)
   .simp![CR.Zno];rw[ZiV];simp![Zm];by_cases g:((bQ p.1 p.2:Nat):Int)=1
    .rw[decide_eq_true g];have h2:((p.2.toNat:Nat):Int)=p.2:=⋯
     refine q true λ_=>⟨⟨p.1,p.2.toNat,⋯,?_⟩,?_,Znz bp.1,?_⟩
     .have:bQ p.1 p.2=1:=⋯
      unfold Nat.Coprime;unfold bQ at this;rw[show p.2.natAbs=p.2.toNat by lia]at this
      exact this
     .show DL.pr p.1 p.2=DL.pr p.1 ((p.2.toNat:Nat):Int);rw[h2]
     .have:=Znz bp.2
      show p.2.toNat<2^140;lia
    .rw[decide_eq_false g];exact q0
   .simp![Zm];exact q0
def Hg(M:Sto)(d:D)(n:Nat):Prop:=∃m hs,d=.ref m/\M[m]?=some (.lst (rts hs))/\hs.length=n/\∀x∈hs,Sz 140 x
theorem Hg.up(K:Kp M M')(h:Hg M d n):Hg M' d n:=let ⟨m,hs,a,b,c⟩:=h;⟨m,hs,a,K.get b,c⟩
theorem Zje:∀{ys:List D},(∀y∈ys,∃x:Rat,y=rt x/\Sz 140 x)->∃hs,ys=rts hs/\∀x∈hs,Sz 140 x
 |[],_=>⟨[],rfl,λx hx=>by simp at hx⟩
 |y::r,h=>by
  obtain⟨hs,e,z⟩:=Zje (ys:=r) λy hy=>h y (by simp[hy])
  obtain⟨x,rfl,zx⟩:=h y (by simp)
  exact⟨x::hs,by rw[e];rfl,λw hw=>by
   rcases aM.mp hw with rfl|hw
   .exact zx
   .exact z w hw⟩
theorem Zdt(h:Th M k d t)(hr:M[n]?=some (.lst (prs rs)))(q:∀M' b,Kp M M'->(b=true->Hg M d rs.length)->Q (.bl b) M'):wO (F_is_height [d,.ref n] M) Q E:=by
 have q0:∀M',Kp M M'->Q (.bl false) M':=λM' K=>q M' false K λz=>nomatch z;rcases h.lq with⟨ty,a,b⟩|⟨l,m,xs,ts,rfl,hm,rfl,hs,hl⟩
 .simp![F_is_height,Zcd,a,b];exact q0 M Kp.refl
 have len:=hs.len;simp![F_is_height,Zcd,CG.ZaI hm,hm,hr];refine brO (λz=>?_) (λz=>?_)
 .simp![Zm];refine ZdN (xs:=xs) (λr=>∃x,r=[x]) (λi y=>∃b,y=.bl b/\∃hi:i<xs.length,b=true->∃x:Rat,xs[i]=rt x/\Sz 140 x) ⋯ (by rw[ZcF hm];lia) ⟨_,rfl⟩ (λM' K i hi=>ZdJ (K.get hm)) ?_ ?_
  .rintro i hi r M1 ⟨x,rfl⟩ K;simp![Zm];exact⟨⟨_,rfl⟩,Zg2 ((hs.at hi ⋯).up K) λb hb=>⟨Kp.refl,_,rfl,hi,hb⟩⟩
  intro ys M1 K1 hy ly hP;obtain⟨bs,e,rfl,hB⟩:=Zg1 hP;rw[aC]at ly;simp![hy,e];refine q M1 _ K1 λea=>?_;obtain⟨hs',rfl,z'⟩:=Zje (ys:=xs) λy hy=>by
   obtain⟨i,hi,rfl⟩:=bw hy;obtain⟨_,e⟩:=hB i ⋯
   exact e (bh.mp ea _ (bW _))
  rw[ZE]at z;exact⟨m,hs',rfl,hm,⋯,z'⟩
 .simp![Zm];exact q0 M Kp.refl
theorem Zgv(hp:Sz k p)(hq:Sz l q)(hk:k+l<=8000)(h:∀b,Q (.bl b) M):wO (CD.F_less [rt p,rt q] M) Q E:=by
 have f1:ZN p.num (q.den:Int):=Z6 k l hp.1 (by simpa using hq.2) ⋯ ⋯
 have f2:ZN q.num (p.den:Int):=Z6 l k hq.1 (by simpa using hp.2) ⋯ ⋯
 simp![CD.F_less,CD.Zi9,Zaa f1,Zaa f2];exact h _
theorem sz0:Sz 1 (0:Rat):=⟨by decide,by decide⟩
theorem ZnA(hb:∀p∈rs,Bd BG p)(hn:rs≠[])(hh:hs.length≠0)(hz:∀x∈hs,Sz 140 x):Sz 1000 (bnd rs hs i):=by
 have:=CR.Zgm (CR.Zgm (ZcV (i:=i-1) hz hh) (ZcV (i:=i+1) hz hh)) (CR.Zgl (CS.Zgn (ZkO (i:=i) hb hn) (by decide)) (ZcV (i:=i) hz hh))
 exact Zec this (by decide)
theorem ZnB(h:M[n]?=some (.lst (prs rs)))(o:One rs)(hl:rs.length<=1000)(hb:∀p∈rs,Bd BG p)(h':M[m]?=some (.lst (rts hs)))(e:hs.length=rs.length)(hz:∀x∈hs,Sz 140 x)(q:∀m' M',Kp M M'->M'[m']?=some (.lst (rts (bds rs hs rs.length)))->Q (.ref m') M'):wO (CN.F_bends [.ref n,.ref m] M) Q E:=by
 have hn:=Zas h;have hm:=Zas h';have hne:=o.ne;have h3:=o.1;simp![CN.F_bends,CN.Zfy];refine Zds h o hl hb ?_;have g1:(M++[SO.lst (nts (ZaA rs))])[n]?=some (.lst (prs rs)):=by rw[Zcp hn];exact h
 have g2:(M++[SO.lst (nts (ZaA rs))])[m]?=some (.lst (rts hs)):=by rw[Zcp hm];exact h'
 simp![Zm];refine ZbN g1 g2 e ?_;simp![Zm];have r0:(M++[SO.lst (nts (ZaA rs)),SO.lst []])[M.length+1]?=some (.lst (rts (bds rs hs 0))):=by simp[rts,bds]
 have G0:M.length+2<=(M++[SO.lst (nts (ZaA rs)),SO.lst []]).length/\(M++[SO.lst (nts (ZaA rs)),SO.lst []])[M.length]?=some (.lst (nts (ZaA rs)))/\∀j<M.length,(M++[SO.lst (nts (ZaA rs)),SO.lst []])[j]?=M[j]?:=⟨by simp,by simp,λj hj=>Zcp hj⟩
 generalize M++[SO.lst (nts (ZaA rs)),SO.lst []]=M1 at r0 G0 ⊢;have hm1:=(G0.2.2 m hm).trans h';refine ZeX (λi ρ M'=>(∃x4 x5 x6,ρ=[some (.ref n),some (.ref m),some (.ref M.length),some (.ref (M.length+1)),x4,x5,x6])/\M'[M.length+1]?=some (.lst (rts (bds rs hs i)))/\M.length+2<=M'.length/\M'[M.length]?=some (.lst (nts (ZaA rs)))/\∀j<M.length,M'[j]?=M[j]?) hm1 ⟨⟨_,_,_,rfl⟩,r0,G0⟩ (λi ρ M' hI=>(hI.2.2.2.2 m hm).trans h') ?_ ?_
 .rintro i ρ M2 hi ⟨⟨x4,x5,x6,rfl⟩,r2,l2,t2,o2⟩;have hm2:=(o2 m hm).trans h';rw[Zbe hi];rw[ZE]at hi;have hi':i<rs.length:=⋯
  have hh:hs.length≠0:=⋯
  have ct:cn (ZaA rs) i=T rs i:=by rw[ZeW (by rw[Zbk];exact hi')];simp[ZaA]
  have tl:=Zbk (rs:=rs);have z (i):=ZcV (i:=i) hz hh;simp![CN.ZcH,Zgo,Zi8 hm2,hm2,ZE];rw[CR.Zgk (z _) (z _) ⋯]
  simp![t2,ZiY,ct];rw[show D.tup [D.int (T rs i),D.int 1]=rt (T rs i:Rat)from CS.Zlz _,CR.Zfx (CS.Zgn (ZkO (i:=i) hb hne) (by decide)) (z _) ⋯]
  simp![Zm];rw[CR.Zgk (CR.Zgm (z _) (z _)) (CR.Zgl (CS.Zgn (ZkO (i:=i) hb hne) (by decide)) (z _)) ⋯]
  simp![r2];exact⟨by rw[ZE,Zd9];lia,⟨_,_,_,rfl⟩,by rw[Zai,Zea];rfl,by rw[cJ];exact l2,t2,λj hj=>by rw[aU ⋯];exact o2 j hj⟩
 .rintro ρ M2 ⟨⟨x4,x5,x6,rfl⟩,r2,l2,t2,o2⟩;simp![Zm];rw[ZE,e]at r2;exact q _ _ ⟨⋯,o2⟩ r2
theorem Zq5:∀(bs:List Bool),eqs M (.bl false) (bs.map D.bl)=some (bs.map λb=>b==false)
 |[]=>rfl
 |b::r=>by
  rw[aN,aN,eqs,Zq5 r];show(match some (b==false)with|some b=>(match some (r.map λb=>b==false)with|some bs=>some (b::bs)|none=>none)|none=>none)=_
  rfl
theorem Zq6{bs:List Bool}(h:bs.all id=false):∃j,(bs.map λb=>b==false).findIdx? id=some j/\j<bs.length:=by
 cases e:(bs.map λb=>b==false).findIdx? id with
 |some j=>
  obtain⟨hj,_⟩:=fW.mp e;exact⟨j,rfl,by simpa using hj⟩
 |none=>
  exfalso
  have:bs.all id=true:=by
   rw[bh];intro b hb
   have:=List.findIdx?_eq_none_iff.mp e (b==false) (dy.mpr ⟨b,hb,rfl⟩)
   cases b
   .simp at this
   .rfl
  rw[this]at h;cases h
theorem Ztu(hf:wO (fs ρ M) (λds M1=>ds=[.int i,.int j]/\M1=M) (λ_ _=>False))(hb:0<=i/\i<=j/\j<=1000)(q:Q (.ref M.length) (M++[.lst (ZaO i (j-i).toNat)])):wO (Zrm fs ρ M) Q E:=by
 obtain⟨ds,M1,e,rfl,rfl⟩:=Zgf hf;unfold Zrm;rw[e];show wO (if _ then _ else _) Q E
 rw[if_pos ⟨⟨⋯,⋯,⋯,⋯⟩,⋯⟩]
 exact q
theorem Ztv(hf:wO (fs ρ M) (λds M1=>ds=[.int j]/\M1=M) (λ_ _=>False))(hb:0<=j/\j<=1000)(q:Q (.ref M.length) (M++[.lst (ZaO 0 j.toNat)])):wO (Zrl fs ρ M) Q E:=by
 obtain⟨ds,M1,e,rfl,rfl⟩:=Zgf hf;unfold Zrl;rw[e];show wO (if _ then _ else _) Q E
 rw[if_pos ⟨⋯,⋯⟩]
 exact q
theorem ZvA{bs:List Bool}{at' mt:Nat}(hy:M[mm]?=some (.lst (bs.map D.bl)))(tg:M[mt]?=some (.lst (nts (ZaA rs))))(hl:bs.length=rs.length)(hat:at'<rs.length)(tb:(T rs at').natAbs<2^270)(hi:i<12)(ba:a.natAbs<2^(300*i+1))(bb:b.natAbs<2^(300*i+1))(hR:∀b,R (.bl b) M)(hN:∀(a b:Int)(x:Option D),a.natAbs<2^(300*(i+1)+1)->b.natAbs<2^(300*(i+1)+1)->N [x0,x1,some (.ref mm),x3,some (.ref mt),some (.int a),some (.int b),x] M):wS (Zaz [x0,x1,some (.ref mm),x3,some (.ref mt),some (.int a),some (.int b),some (.int at')] M) N R B C E:=by
 have am:atI (bs.map D.bl) (at':Int)=some (.bl (bs[at']'⋯)):=by
  unfold atI;rw[aC,Zi1 ⋯]
  simp
 have tl:=Zbk (rs:=rs);have ct:cn (ZaA rs) at'=T rs at':=by rw[ZeW (by rw[Zbk];exact hat)];simp[ZaA]
 have at2:atI (nts (ZaA rs)) (at':Int)=some (.int (T rs at')):=by rw[ZiY ⋯,ct]
 generalize T rs at'=tt at *;generalize bs[at']'(by lia)=bt at *
 generalize (at':Int)=ai at *;simp![Zaz,hy,am];have up:∀z:Int,z.natAbs<2^(300*i+1)->z.natAbs<2^(300*(i+1)+1):=λz hz=>aF hz (dC (by decide) ⋯)
 cases bt with
 |true=>
  have fm:ZN (-tt) b:=Z6 270 (300*i+1) (by rw[Int.natAbs_neg];exact tb) bb (by decide) ⋯
  simp![tg,at2,Zaa fm];have bn:(-tt*b-a).natAbs<2^(300*(i+1)+1):=by
   have m1:(-tt*b).natAbs<2^(270+(300*i+1)):=by
    rw[dP,Int.natAbs_neg];exact CR.ZcP tb bb
   have m2:(2:Nat)^(270+(300*i+1))<=2^(300*i+300):=dC (by decide) ⋯
   have m3:(2:Nat)^(300*i+1)<=2^(300*i+300):=dC (by decide) ⋯
   rw[show 300*(i+1)+1=(300*i+300)+1 by lia,k7]
   generalize (2:Nat)^(300*i+300)=G at *;lia
  refine brS (λz=>?_) (λz=>?_)
  .simp![Zm];exact hR _
  .simp![Zm];exact hN _ _ _ (up _ bb) bn
 |false=>
  simp![Zm];refine hN _ _ _ ?_ ?_
  .exact Nat.pos_of_ne_zero (by simp)
  .exact Nat.one_lt_two_pow ⋯
theorem Zjf(h:M[n]?=some (.lst (prs rs)))(o:One rs)(hl:rs.length<=12)(hb:∀p∈rs,Bd BG p)(h':M[m]?=some (.lst (rts hs)))(e:hs.length=rs.length)(hz:∀x∈hs,Sz 140 x)(q:∀M' b,Kp M M'->Q (.bl b) M'):wO (F_crosses_below [.ref n,.ref m] M) Q E:=by
 have h3:=o.1;simp! -implicitDefEqProofs [F_crosses_below,ZbO];refine ZdN (xs:=rts hs) (λr=>∃x,r=[x]) (λi y=>∃b,y=.bl b/\(λ_ _=>True) i b) (by rw[ZE];lia) (by rw[ZcF h'];lia) ⟨_,rfl⟩ (λM' K i hi=>ZdJ (K.get h')) ?_ ?_
 .rintro i hi r M1 ⟨x,rfl⟩ K;rw[Zbe hi];rw[ZE]at hi;simp! -implicitDefEqProofs [];exact⟨⟨_,rfl⟩,Zgv sz0 (ZcV hz ⋯) (by decide) λb=>⟨Kp.refl,_,rfl⟩⟩
 intro ys M1 K1 hy ly hP;obtain⟨bs,eb,rfl,-⟩:=Zg1 hP;rw[aC,ZE]at ly;simp! -implicitDefEqProofs [hy,eb];cases ea:bs.all id with
 |true=>
  simp! -implicitDefEqProofs [];exact q M1 _ K1
 |false=>
 obtain⟨j,ej,hj⟩:=Zq6 ea;simp! -implicitDefEqProofs [hy,Zq5,ej];generalize hji:(j:Int)=ji;refine Zds (K1.get h) o ⋯ hb ?_
 have K2:Kp M1 (M1++[.lst (nts (ZaA rs))]):=Kp.app;have tg:(M1++[.lst (nts (ZaA rs))])[M1.length]?=some (.lst (nts (ZaA rs))):=ZgT;generalize M1++[SO.lst (nts (ZaA rs))]=M2 at *;have hy2:=K2.get hy;have h2:=(K1.trans K2).get h;have e1:((rs.length:Int)-ji).toNat=rs.length-j:=⋯
 simp! -implicitDefEqProofs [];refine Ztu (i:=ji) (j:=rs.length) (by simp! -implicitDefEqProofs [h2]) ⋯ ?_
 rw[e1];simp! -implicitDefEqProofs [];refine Ztv (j:=ji) (by simp! -implicitDefEqProofs []) ⋯ ?_
 simp! -implicitDefEqProofs [Zbt];refine⟨⋯,?_⟩
 have ll:(ZaO ji (rs.length-j)++ZaO 0 ji.toNat).length=rs.length:=by rw[a8,Zbt,Zbt];lia
 have li:∀i (hi:i<(ZaO ji (rs.length-j)++ZaO 0 ji.toNat).length),∃a:Nat,a<rs.length/\(ZaO ji (rs.length-j)++ZaO 0 ji.toNat)[i]=.int a:=λi hi=>by
  by_cases c:i<rs.length-j
  .rw[cQ (by rw[Zbt];exact c),Zfs]
   exact⟨j+i,⋯,by rw[<-hji];simp⟩
  .rw[cM (by rw[Zbt];lia),Zfs]
   refine⟨i-(rs.length-j),?_,?_⟩
   .lia
   .rw[Zbt];simp
 generalize hM3:M2++[SO.lst (ZaO ji (rs.length-j)),SO.lst (ZaO 0 ji.toNat),SO.lst (ZaO ji (rs.length-j)++ZaO 0 ji.toNat)]=M3;have K3:Kp M2 M3:=hM3▸Kp.app;have g3:M3[M2.length+2]?=some (.lst (ZaO ji (rs.length-j)++ZaO 0 ji.toNat)):=by rw[<-hM3,Ze5];rfl
 clear hM3;generalize ZaO ji (rs.length-j)++ZaO 0 ji.toNat=zs at *;generalize M2.length+2=om at *;have hy3:=K3.get hy2;have tg3:=K3.get tg;have KK:=(K1.trans K2).trans K3;refine Zfr (λi ρ M'=>M'=M3/\∃(a b:Int) (x:Option D),ρ=[some (.ref n),some (.ref m),some (.ref M.length),some (.int ji),some (.ref M1.length),some (.int a),some (.int b),x]/\a.natAbs<2^(300*i+1)/\b.natAbs<2^(300*i+1)) g3 ⟨rfl,0,1,_,rfl,by decide,by decide⟩ (λi ρ M' hI=>by rw[hI.1];exact g3) ?_ ?_
 .rintro i ρ M' hi ⟨e9,a,b,x,rfl,ba,bb⟩;rw[e9];clear e9 M';obtain⟨at',hat,eat⟩:=li i hi;rw[eat];exact ZvA hy3 tg3 ⋯ hat (ZkO hb o.ne) ⋯ ba bb (λb=>q M3 b KK) λa b x ba bb=>⟨rfl,a,b,x,rfl,ba,bb⟩
 .rintro ρ M' ⟨e9,a,b,x,rfl,ba,bb⟩;rw[e9];simp! -implicitDefEqProofs [];exact q M3 _ KK
end
end K71
namespace K71
open L2 DL
open CB (Bd)
open CV (Kp Zec)
open CG (met ZdA BG mfB Zfz)
open CR (rt Sz)
open CH (rts ZE Zai)
open CN (cq ZcV Ze1 Zgp Zgo Zbe bnd bds Zd9 Zea Zi8 ZbN)
section
variable {w:Pt}
theorem Hg.dn(K:Kp M M')(h:Th M k d t)(H:Hg M' d n):Hg M d n:=by
 obtain⟨m,hs,rfl,e,r⟩:=H;rcases h.ex with⟨z,_⟩|⟨b,z,_⟩|⟨i,z,_⟩|⟨x,z,_⟩|⟨l,xs,ts,_,z,_⟩|⟨l,m',xs,ts,_,z,hm,_⟩
 all_goals cases z
 have:=K.get hm
 rw[e]at this;cases this;exact⟨m,hs,rfl,hm,r⟩
theorem Zq7(h:i<n):cq ((ay n).map f) i=f i:=by
 rw[Ze1 (by simp;exact h)]
 simp
theorem Zjg(h1:Th M k d1 t1)(h2:Th M k d2 t2)(h3:Th M k d3 t3)(h4:Th M k d4 t4)(q1:∀M',Kp M M'->Q (.bl false) M')(q2:∀M' b,Kp M M'->Rt true t1->Q (.bl b) M'):wO (F_parting_stands [d1,d2,d3,d4] M) Q E:=by
 simp![F_parting_stands,ZbE];refine Zce h1 (λM' K=>?_) (λM1 mr rs K1 a hr ta sm br lr=>?_)
 .simp![Zm];exact q1 M' K
 subst a;have rt:Rt true t1:=⟨rs,ta,sm⟩;simp![Zm];have hr1:=K1.get hr;have g2:=h2.up K1;have g3:=h3.up K1;have g4:=h4.up K1;refine ZdN (xs:=[d2,d3,d4]) (λr=>∃x,r=[x,some (.ref mr)]) (λi y=>∃b,y=.bl b/\∃hi:i<[d2,d3,d4].length,b=true->Hg M1 [d2,d3,d4][i] rs.length) (jo rfl) (ac _) ⟨_,rfl⟩ (λM' K i hi=>rfl) ?_ ?_
 .rintro i hi r M2 ⟨x,rfl⟩ K;have hh:∃t,Th M1 k [d2,d3,d4][i] t:=by
   match i,hi with
   |0,_=>exact⟨_,g2⟩
   |1,_=>exact⟨_,g3⟩
   |2,_=>exact⟨_,g4⟩
  obtain⟨t,ht⟩:=hh;simp![Zm];refine⟨⟨_,rfl⟩,Zdt (ht.up K) (K.get hr1) λM' b K' hb=>⟨K',_,rfl,hi,λz=>?_⟩⟩;exact(hb z).dn K ht
 intro ys M2 K2 hy ly hP;obtain⟨bs,eb,rfl,hB⟩:=Zg1 hP;rw[aC]at ly;simp![hy,eb];cases ea:bs.all id with
 |false=>
  simp![Zm];exact q1 _ (K1.trans K2)
 |true=>
 have all (i:Nat) (hi:i<3):Hg M1 ([d2,d3,d4][i]'hi) rs.length:=by
  obtain⟨_,e⟩:=hB i (by rw[ly];exact hi)
  exact e (bh.mp ea _ (bW _))
 obtain⟨m2,h2s,e2,a2,l2,z2⟩:=(all 0 (by decide)).up K2
 obtain⟨m3,h3s,e3,a3,l3,z3⟩:=(all 1 (by decide)).up K2
 obtain⟨m4,h4s,e4,a4,l4,z4⟩:=(all 2 (by decide)).up K2
 simp only[aR,bB]at e2 e3 e4;subst e2 e3 e4;have hr2:=K2.get hr1;have K3:=K1.trans K2;clear all hB eb hP g2 g3 g4;have h3r:=sm.one.1;simp![Zm];refine CV.Zth (u:=h3s) (v:=h4s) (zs:=(ay rs.length).map λ(i:Nat)=>cq h3s i+cq h4s i) (N:=rs.length) a3 a4 l3 l4 ⋯ (by simp) ?_ ?_
 .intro i hi L;simp![Zm];rw[CR.Zgk (ZcV (i:=i) z3 ⋯) (ZcV (i:=i) z4 ⋯) (by decide),Zq7 hi]
  exact⟨rfl,rfl⟩
 have K4:Kp M2 (M2++[.lst (rts ((ay rs.length).map λ(i:Nat)=>cq h3s i+cq h4s i))]):=Kp.app;have r4:(M2++[SO.lst (rts ((ay rs.length).map λ(i:Nat)=>cq h3s i+cq h4s i))])[M2.length]?=some (.lst (rts ((ay rs.length).map λ(i:Nat)=>cq h3s i+cq h4s i))):=ZgT;generalize (ay rs.length).map (λ(i:Nat)=>cq h3s i+cq h4s i)=sm3 at *;generalize M2++[SO.lst (rts sm3)]=M4 at *;simp![CU.Ztf (k:=9) r4 (K4.get a2)];have K5:=K3.trans K4;refine Zqt (λz=>?_) (λz=>?_)
 .simp![Zm];exact q1 _ K5
 simp![Zm];refine ZnB (K4.get hr2) sm.one ⋯ br (K4.get a3) l3 z3 λmb M6 K6 hb=>?_
 have a6:=(K4.trans K6).get a4;have K7:=K5.trans K6;have bl:=Zd9 (rs:=rs) (hs:=h3s) (n:=rs.length);have bz:∀x∈bds rs h3s rs.length,Sz 1000 x:=λx hx=>by
  unfold bds at hx;obtain⟨i,-,rfl⟩:=dy.mp hx;exact ZnA br sm.one.ne ⋯ z3
 generalize bds rs h3s rs.length=bs3 at *;simp![Zm];refine Zlu (xs:=rts bs3) (ys:=rts h4s) (λi ρ M'=>M'=M6/\∃x y,ρ=[some (.ref mr),some (.ref m2),some (.ref m3),some (.ref m4),x,y]) hb (by rw[ZE,ZE];lia) ⟨rfl,_,_,rfl⟩ (λi ρ M' hI=>by rw[hI.1];exact⟨hb,a6⟩) ?_ ?_
 .rintro i ρ M' hi ⟨e,x,y,rfl⟩;rw[e];clear e M';rw[Zbe hi,Zbe];rw[ZE]at hi;have zb:=ZcV (i:=i) bz ⋯
  have zs:=ZcV (i:=i) z4 ⋯
  generalize cq bs3 i=x at *;generalize cq h4s i=y at *;simp![Za4];refine Zgv zb sz0 (by decide) λb=>?_
  cases b with
  |true=>
   simp![Zm];exact q1 _ K7
  |false=>
  simp![Zm];refine Zgv zs sz0 (by decide) λb=>?_
  cases b with
  |true=>
   simp![Zm];exact q1 _ K7
  |false=>
  simp![Zm];rw[CR.Zfx zb zs (by decide)]
  have e0:D.tup [D.int 0,D.int 1]=CR.rt (0:Rat):=rfl;simp![e0,CU.Zvw];refine Zqt (λz=>?_) (λz=>?_)
  .simp![Zm];exact q1 _ K7
  .simp![Zm];exact⟨_,_,rfl⟩
 rintro ρ M' ⟨e,x,y,rfl⟩;rw[e];clear e M';simp![Zm];exact Zjf ((K4.trans K6).get hr2) sm.one ⋯ br a6 l4 z4 λM' b K=>q2 _ _ (K7.trans K) rt
theorem Zjh:∀{ys:List D},(∀y∈ys,∃i:Int,y=.int i/\ -BG<=i/\i<=BG)->∃L:List Int,ys=nts L/\∀i∈L,-BG<=i/\i<=BG
 |[],_=>⟨[],rfl,λx hx=>by simp at hx⟩
 |y::r,h=>by
  obtain⟨L,e,z⟩:=Zjh (ys:=r) λy hy=>h y (by simp[hy])
  obtain⟨x,rfl,zx⟩:=h y (by simp)
  exact⟨x::L,by rw[e];rfl,λw hw=>by
   rcases aM.mp hw with rfl|hw
   .exact zx
   .exact z w hw⟩
theorem ZlF{L:List Int}(h:i<L.length):cn L i∈L:=by rw[ZeW h];exact bW _
theorem Zji(h:i<(nts L).length):(nts L)[i]=.int (cn L i):=by
 rw[Zbd]at h;rw[ZeW h];simp[nts]
theorem ZlG{F:Nat->Int}(ha:M[a]?=some (.lst (nts L)))(hb:M[b]?=some (.lst (prs rs)))(e:L.length=rs.length)(hl:rs.length<=1000)(hf:∀(i:Nat)(M':Sto),i<rs.length->wO (f [some (.int (cn L i)),some (pr (cy rs i).1 (cy rs i).2)] M') (λy M2=>y=.int (F i)/\M2=M') (λ_ _=>False))(q:∀M' L,Kp M M'->M'[M.length]?=some (.lst (nts L))->Q (.ref M.length) M'):kCo (gTp (gCs (gNm 0) (gCs (gNm 1) gNl))) (λ_ M=>.ok true M) f 2 [] ρ Q (.zip a b) M:=by
 have hz:(bJ (λa b=>D.tup [a,b]) (nts L) (prs rs)).length=rs.length:=by simp[Zbd,ZO];lia
 refine Znm (xs:=bJ (λa b=>D.tup [a,b]) (nts L) (prs rs)) (λρ=>∃x y,ρ=[x,y]) (λ(i:Nat)=>.int (F i)) ⋯ (by rw[ZcG ha,hz,Zbd];lia) ⟨_,_,rfl⟩ (λM' i hi=>?_) ?_ ?_
 .exact Zdj (by rw[Zcp (Zas ha)];exact ha) (by rw[Zcp (Zas hb)];exact hb)
 .rintro i hi ρ L' ⟨x,y,rfl⟩;rw[hz]at hi;rw[dB,Zji,CC.Za1];simp![Zm];exact⟨⟨_,_,rfl⟩,hf i _ hi⟩
 rw[hz,Zi0];exact q _ ((ay rs.length).map F) Kp.app (by simp)
theorem Zq8(h1:Th M k d1 t1)(h2:Th M k d2 t2)(h3:Th M k d3 t3)(q1:∀M',Kp M M'->Q (.bl false) M')(q2:∀M' b,Kp M M'->Rt true t1->Q (.bl b) M'):wO (F_none_stands [d1,d2,d3] M) Q E:=by
 simp![F_none_stands,Zcv];refine Zce h1 (λM' K=>?_) (λM1 mr rs K1 a hr ta sm br lr=>?_)
 .simp![Zm];exact q1 M' K
 subst a;have rt:Rt true t1:=⟨rs,ta,sm⟩;have h3r:=sm.one.1;simp![Zm];have hr1:=K1.get hr;refine Zdt (h2.up K1) hr1 λM2 b K2 hb=>?_;have K3:=K1.trans K2;cases b with
 |false=>
  simp![Zm];exact q1 _ K3
 |true=>
 obtain⟨mh,hs,rfl,ah,lh,zh⟩:=(hb rfl).up K2;clear hb;have hr2:=K2.get hr1;rcases(h3.up K3).lq with⟨ty,a,b⟩|⟨l,mw,xs,ts,rfl,hw,rfl,hts,hl⟩
 .simp![a,b];exact q1 _ K3
 have len:=hts.len;simp![CG.ZaI hw,hw,hr2];refine Zqt (λz=>?_) (λz=>?_)
 .simp![Zm];exact q1 _ K3
 simp![Zm];refine ZdN (xs:=xs) (λr=>∃x,r=[x]) (λi y=>∃b,y=.bl b/\∃hi:i<xs.length,b=true->∃z:Int,xs[i]=.int z/\ -BG<=z/\z<=BG) ⋯ (by rw[ZcF hw];lia) ⟨_,rfl⟩ (λM' K i hi=>ZdJ (K.get hw)) ?_ ?_
 .rintro i hi r M4 ⟨x,rfl⟩ K;simp![Zm];refine⟨⟨_,rfl⟩,ZcJ ((hts.at hi ⋯).up K) ?_⟩
  cases e:wB (ts[i]'⋯)with
  |false=>
   simp![Zm];exact⟨Kp.refl,_,rfl,hi,λz=>nomatch z⟩
  |true=>
   obtain⟨v,ev⟩:=Zru e;have hx:=hts.at hi ⋯
   rw[ev]at hx;have e2:=ZcI hx.1;rw[e2];simp![Zm];refine⟨Kp.refl,_,rfl,hi,λ_=>⟨v,e2,?_⟩⟩
   have:=hx.2
   cases l with
   |zero=>exact absurd hx.1 (by intro z;cases z)
   |succ l=>exact this
 intro ys M4 K4 hy ly hP;obtain⟨bs,eb,rfl,hB⟩:=Zg1 hP;rw[aC]at ly;have K5:=K3.trans K4;simp![hy,eb];cases ea:bs.all id with
 |false=>
  simp![Zm];exact q1 _ K5
 |true=>
 obtain⟨L,rfl,bL⟩:=Zjh (ys:=xs) λy hy=>by
  obtain⟨i,hi,rfl⟩:=bw hy;obtain⟨_,e⟩:=hB i ⋯
  exact e (bh.mp ea _ (bW _))
 rw[Zbd]at z len;have w4:=K4.get hw;have r4:=K4.get hr2;have a4:=K4.get ah;clear eb hB hP;have e9:L.length=rs.length:=⋯
 have mu (i:Nat) (hi:i<rs.length) (p:Int) (hp: -BG<=p/\p<=BG):ZN (cn L i) p:=mfB (bL _ (ZlF ⋯)) hp
 have bb (i:Nat):=br _ (Zat (i:=(i:Int)) sm.one.ne);simp![Zm];refine ZlG (F:=λi=>cn L i*(cy rs i).1) w4 r4 e9 ⋯ (λi M' hi=>?_) (λM6 L1 K6 hL1=>?_)
 .simp![Zaa (mu i hi _ (bb i).1)]
 simp![hL1,CC.Ze0,Zpa];refine ZlG (F:=λi=>cn L i*(cy rs i).2) (K6.get w4) (K6.get r4) e9 ⋯ (λi M' hi=>?_) (λM7 L2 K7 hL2=>?_)
 .simp![Zaa (mu i hi _ (bb i).2)]
 simp![hL2,CC.Ze0,Zpa];have K8:=(K5.trans K6).trans K7;generalize L1.sum=x1;generalize L2.sum=x2;have w7:=(K6.trans K7).get w4;have a7:=(K6.trans K7).get a4;refine Zlu (xs:=nts L) (ys:=rts hs) (λi ρ M'=>M'=M7/\∃(s:Rat) (x y:Option D),ρ=[some (.ref mr),some (.ref mh),some (.ref mw),some (.int x1),some (.int x2),some (CR.rt s),x,y]/\Sz (400*i+1) s) w7 (by rw[ZE,Zbd];lia) ⟨rfl,0,_,_,rfl,sz0⟩ (λi ρ M' hI=>by rw[hI.1];exact⟨w7,a7⟩) ?_ ?_
 .rintro i ρ M' hi ⟨e,s,x,y,rfl,zs⟩;rw[e];clear e M';rw[Zji,Zbe];rw[Zbd]at hi;have zw:Sz 140 ((cn L i:Int):Rat):=CS.Zgn (Znz (bL _ (ZlF hi))) (by decide)
  have zh':=ZcV (i:=i) zh ⋯
  have e1:D.tup [D.int (cn L i),D.int 1]=CR.rt (cn L i:Rat):=CS.Zlz _;generalize ((cn L i:Int):Rat)=x at *;generalize cq hs i=y at *;simp![ZbF,e1];rw[CR.Zfx zw zh' (by decide)]
  simp![Zm];rw[CR.Zgk zs (CR.Zgl zw zh') ⋯]
  simp![Zm];exact⟨_,_,_,rfl,Zec (CR.Zgm zs (CR.Zgl zw zh')) ⋯⟩
 rintro ρ M' ⟨e,s,x,y,rfl,zs⟩;rw[e];clear e M';rw[Zbd]at zs;have e0:D.tup [D.int 0,D.int 1]=CR.rt (0:Rat):=rfl;simp![Zrp];refine brO (λz=>?_) (λz=>?_)
 .simp![Zm];exact Zgv zs sz0 ⋯ λb=>q2 _ _ K8 rt
 .simp![Zm];exact q2 _ _ K8 rt
end
end K71
namespace K71
open L2 DL
open CB (Bd)
open CV (Kp Zec)
open CG (met ZdA BG mfB Zfz)
def May(t:ca):Prop:=∃w a b c r,t=.tuple (.str w::a::b::c::r)/\((w=PySem.Str.ofString "walk"/\r=[]/\Rt true a)\/(w=PySem.Str.ofString "turning"/\r=[]/\Rt false a)\/(w=PySem.Str.ofString "none"/\r=[]/\Rt true a)\/(w=PySem.Str.ofString "wedge"/\r.length=1/\pB a=true/\pB b=true)\/(w=PySem.Str.ofString "parting"/\r.length=1/\Rt true a))
noncomputable def isS(t:ca)(s:Str):Bool:=match t with|.str x=>x==s|_=>false
theorem Zjj(h:isS t s=true):t=.str s:=by
 unfold isS at h
 split at h
 .rw[eq_of_beq h]
 .cases h
theorem q_s(h:Th M k d t):eqF 12 M d (.str s)=some (isS t s):=by
 rcases h.ex with⟨rfl,rfl⟩|⟨b,rfl,rfl⟩|⟨i,rfl,rfl,_⟩|⟨x,rfl,rfl⟩|⟨l,xs,ts,rfl,rfl,rfl,_⟩|⟨l,m,xs,ts,rfl,rfl,hm,rfl,_⟩
 any_goals rfl
 have e:kd M (.ref m)=some (.lst xs):=by show(match M[m]? with|some (.lst xs)=>some (Kd.lst xs)|_=>none)=_;rw[hm]
 show(match kd M (.ref m),kd M (.str s)with|some a,some b=>eqK (eqF 11 M) a b|_,_=>none)=_
 rw[e];rfl
theorem Ztw{α:Type}{xs:List α}(h:4<=xs.length):∃a b c d r,xs=a::b::c::d::r:=by
 rcases xs with _|⟨a,_|⟨b,_|⟨c,_|⟨d,r⟩⟩⟩⟩
 any_goals simp at h
 exact⟨a,b,c,d,r,rfl⟩
theorem Zub:slR (.tup (x::xs)) (some 1) none M=.ok (.tup xs) M:=by
 show(if HT.sIx (xs.length+1) 0 (some 1)=0/\HT.sIx (xs.length+1) (xs.length+1) none=xs.length+1 then Out.bad else .ok (D.tup (ZeF (x::xs) (some 1) none)) M)=_
 have e:HT.sIx (xs.length+1) 0 (some 1)=1:=by
  have:=HT.Zl1 (xs.length+1) 0 1
  rw[show((1:Nat):Int)=1 from rfl]at this;rw[this];lia
 rw[if_neg (by rw[e];simp)]
 unfold ZeF;rw[aH,e,HT.ZjG];simp
theorem ZkQ(h:Th M k d t)(q1:∀M',Kp M M'->Q (.bl false) M')(q2:∀M' b,Kp M M'->May t->Q (.bl b) M'):wO (F_stands [d] M) Q E:=by
 simp![F_stands,Zc3];rcases h.tq with⟨ty,a,b⟩|⟨l,xs,ts,rfl,rfl,rfl,hs,hl⟩
 .simp![a,b];exact q1 M Kp.refl
 have len:=hs.len;simp![Zm];refine brS (λz=>?_) (λz=>?_)
 .simp![Zm];exact q1 M Kp.refl
 obtain⟨x0,x1,x2,x3,xr,rfl⟩:=Ztw (xs:=xs) ⋯
 obtain⟨w0,w1,w2,w3,tr,rfl⟩:=Ztw (xs:=ts) ⋯
 have a0:=hs.at (i:=0) (by simp) (by simp)
 have a1:=hs.at (i:=1) (by simp) (by simp)
 have a2:=hs.at (i:=2) (by simp) (by simp)
 have a3:=hs.at (i:=3) (by simp) (by simp)
 simp only[aR,bB]at a0 a1 a2 a3;simp only[aH]at len;have l3:decide (((xr.length+1+1+1:Nat):Int)=3)=decide (tr=[]):=by
  cases tr with
  |nil=>simp at len;subst len;rfl
  |cons y tr=>exact(decide_eq_false (by simp at len;lia)).trans (decide_eq_false (by simp)).symm
 have l4:decide (((xr.length+1+1+1:Nat):Int)=4)=decide (tr.length=1):=by
  by_cases c:tr.length=1
  .exact(decide_eq_true ⋯).trans (decide_eq_true c).symm
  .exact(decide_eq_false ⋯).trans (decide_eq_false c).symm
 simp![Zub,q_s a0];refine ZkK (λb M'=>M'=M/\(b=true->w0=.str (PySem.Str.ofString "walk")/\tr=[])) ?_ ?_
 .refine Zql (λe=>?_) (λe=>?_)
  .simp![l3];exact λz=>⟨Zjj e,of_decide_eq_true z⟩
  .simp![Zm];exact λz=>nomatch z
 rintro b M' ⟨e,hb⟩;rw[e];clear e M';cases b with
 |true=>
  obtain⟨e,c⟩:=hb rfl;subst e;simp![Zm];subst c;refine Zq3 a1 a2 a3 q1 (λM' b K r=>q2 M' b K ⟨_,_,_,_,_,rfl,.inl ⟨rfl,rfl,r⟩⟩)
 |false=>
 clear hb;simp![q_s a0];refine ZkK (λb M'=>M'=M/\(b=true->w0=.str (PySem.Str.ofString "turning")/\tr=[])) ?_ ?_
 .refine Zql (λe=>?_) (λe=>?_)
  .simp![l3];exact λz=>⟨Zjj e,of_decide_eq_true z⟩
  .simp![Zm];exact λz=>nomatch z
 rintro b M' ⟨e,hb⟩;rw[e];clear e M';cases b with
 |true=>
  obtain⟨e,c⟩:=hb rfl;subst e;simp![Zm];subst c;refine Zjd a1 a2 a3 q1 (λM' b K r=>q2 M' b K ⟨_,_,_,_,_,rfl,.inr (.inl ⟨rfl,rfl,r⟩)⟩)
 |false=>
 clear hb;simp![q_s a0];refine ZkK (λb M'=>M'=M/\(b=true->w0=.str (PySem.Str.ofString "wedge")/\tr.length=1)) ?_ ?_
 .refine Zql (λe=>?_) (λe=>?_)
  .simp![l4];exact λz=>⟨Zjj e,of_decide_eq_true z⟩
  .simp![Zm];exact λz=>nomatch z
 rintro b M' ⟨e,hb⟩;rw[e];clear e M';cases b with
 |true=>
  obtain⟨e,c⟩:=hb rfl;subst e;simp![Zm];obtain⟨w4,rfl⟩:=dY.mp c;obtain⟨x4,rfl⟩:=dY.mp (show xr.length=1 by simp at len;lia)
  have a4:=hs.at (i:=4) (by simp) (by simp)
  simp only[aR,bB]at a4;simp![at3];refine Zny a1 a2 a3 a4 q1 (λM' b K r r'=>q2 M' b K ⟨_,_,_,_,_,rfl,.inr (.inr (.inr (.inl ⟨rfl,rfl,r,r'⟩)))⟩)
 |false=>
 clear hb;simp![q_s a0];refine ZkK (λb M'=>M'=M/\(b=true->w0=.str (PySem.Str.ofString "parting")/\tr.length=1)) ?_ ?_
 .refine Zql (λe=>?_) (λe=>?_)
  .simp![l4];exact λz=>⟨Zjj e,of_decide_eq_true z⟩
  .simp![Zm];exact λz=>nomatch z
 rintro b M' ⟨e,hb⟩;rw[e];clear e M';cases b with
 |true=>
  obtain⟨e,c⟩:=hb rfl;subst e;simp![Zm];obtain⟨w4,rfl⟩:=dY.mp c;obtain⟨x4,rfl⟩:=dY.mp (show xr.length=1 by simp at len;lia)
  have a4:=hs.at (i:=4) (by simp) (by simp)
  simp only[aR,bB]at a4;simp![at3];refine Zjg a1 a2 a3 a4 q1 (λM' b K r=>q2 M' b K ⟨_,_,_,_,_,rfl,.inr (.inr (.inr (.inr (⟨rfl,rfl,r⟩))))⟩)
 |false=>
 clear hb;simp![q_s a0];refine ZkK (λb M'=>M'=M/\(b=true->w0=.str (PySem.Str.ofString "none")/\tr=[])) ?_ ?_
 .refine Zql (λe=>?_) (λe=>?_)
  .simp![l3];exact λz=>⟨Zjj e,of_decide_eq_true z⟩
  .simp![Zm];exact λz=>nomatch z
 rintro b M' ⟨e,hb⟩;rw[e];clear e M';cases b with
 |true=>
  obtain⟨e,c⟩:=hb rfl;subst e;simp![Zm];subst c;refine Zq8 a1 a2 a3 q1 (λM' b K r=>q2 M' b K ⟨_,_,_,_,_,rfl,.inr (.inr (.inl ⟨rfl,rfl,r⟩))⟩)
 |false=>
 clear hb;simp![Zm];exact q1 M Kp.refl
end K71
namespace K71
open L2 DL
open CB (Bd)
open CV (Kp Zec)
open CG (met ZdA BG mfB Zfz)
section
variable {M:Sto}{u:Pt}
noncomputable def low(p:Pt):Prop:=p.2<0\/p=(-1,0)
noncomputable def upp(p:Pt):Prop:=0<p.2
theorem ZnC(g:bQ p.1 p.2=1)(h:p≠(1,0)):low p\/upp p:=by
 by_cases c:p.2=0
 .left
  right
  rw[c,Int.gcd_zero_right]at g
  have:p.1=1\/p.1= -1:=⋯
  rcases this with z|z
  .exact absurd (eO z c) h
  .exact eO z c
 .unfold low upp;lia
theorem ZnD(ha:upp a)(hb:upp b)(hc:upp c)(h1:0<X a b)(h2:0<X b c):0<X a c:=by
 unfold upp at *;have e:X a c*b.2=X a b*c.2+X b c*a.2:=by unfold X;grind
 have p1:=gN h1 hc;have p2:=gN h2 ha
 have:0<X a c*b.2:=⋯
 exact Int.pos_of_mul_pos_left this ⋯
theorem ZnE(ha:low a)(hb:low b)(hc:low c)(h1:0<X a b)(h2:0<X b c):0<X a c:=by
 have a0:a.2<=0:=by rcases ha with z|z;lia;rw[z];decide
 have c0:c.2<=0:=by rcases hc with z|z;lia;rw[z];decide
 have b0:b.2<0:=by
  rcases hb with z|z
  .exact z
  .rw[z]at h1;unfold X at h1;simp only at h1;lia
 have e:X a c*b.2=X a b*c.2+X b c*a.2:=by unfold X;grind
 have p1:X a b*c.2<=0:=fQ ⋯ c0
 have p2:X b c*a.2<=0:=fQ ⋯ a0
 have p3:X a c*b.2<0:=by
  by_cases z:c.2<0
  .have:X a b*c.2<0:=Int.mul_neg_of_pos_of_neg h1 z
   lia
  .have c1:c=(-1,0):=by rcases hc with q|q;lia;exact q
   rw[c1]at h2;unfold X at h2;simp only at h2;lia
 by_cases z:0<X a c
 .exact z
 .have:0<=X a c*b.2:=Int.mul_nonneg_of_nonpos_of_nonpos ⋯ ⋯
  lia
theorem ZkR(ne:rs≠[])(hg:∀p∈rs,bQ p.1 p.2=1)(pos:∀j:Nat,j<rs.length->0<X (cy rs j) (cy rs (j+1))):1<=ZdA rs:=by
 rcases Nat.eq_zero_or_pos (ZdA rs)with z|z
 case inr=>exact z
 exfalso;have un:∀j:Nat,j<rs.length->met (cy rs j) (cy rs (j+1))=false:=λj hj=>by
  cases c:met (cy rs j) (cy rs (j+1))with
  |false=>rfl
  |true=>
   have m:j∈(ay rs.length).filter λ(i:Nat)=>met (cy rs i) (cy rs (i+1)):=fF.mpr ⟨f7.mpr hj,c⟩
   have:=List.length_pos_of_mem m
   unfold ZdA at z;lia
 have l0:0<rs.length:=kc.mpr ne;have per:∀j:Nat,∃k:Nat,k<rs.length/\cy rs j=cy rs k/\cy rs (j+1)=cy rs (k+1):=λj=>by
  refine⟨j%rs.length,Nat.mod_lt _ l0,?_,?_⟩
  .rw[Int.natCast_emod,Zgj]
  .rw[Int.natCast_emod];unfold cy;rw[show((j:Int)%(rs.length:Int)+1)%(rs.length:Int)=((j:Int)+1)%(rs.length:Int)by rw[Int.emod_add_emod]]
 have pos':∀j:Nat,0<X (cy rs j) (cy rs (j+1)):=λj=>by
  obtain⟨k,hk,e1,e2⟩:=per j;rw[e1,e2];exact pos k hk
 have un':∀j:Nat,met (cy rs j) (cy rs (j+1))=false:=λj=>by
  obtain⟨k,hk,e1,e2⟩:=per j;rw[e1,e2];exact un k hk
 have nE:∀j:Nat,cy rs j≠(1,0):=λj q=>by
  have:=un' j
  unfold met at this;rw[decide_eq_true q,Bool.true_or]at this;cases this
 have hf:∀j:Nat,low (cy rs j)\/upp (cy rs j):=λj=>ZnC (hg _ (Zat ne)) (nE j);have st:∀j:Nat,low (cy rs j)->low (cy rs (j+1:Nat)):=λj hl=>by
  rcases hf (j+1)with q|q
  .exact q
  .exfalso;have u1:=un' j;have p1:=pos' j;have e1:((j+1:Nat):Int)=(j:Int)+1:=⋯
   rw[e1]at q;unfold met at u1;rcases hl with w|w
   .rw[decide_eq_true w,decide_eq_true (show 0<(cy rs ((j:Int)+1)).2 from q)]at u1;simp at u1
   .rw[w]at p1;unfold X at p1;unfold upp at q;simp only at p1;lia
 have fin:∀(S:Pt->Prop),(∀j:Nat,S (cy rs j))->(∀{a b c:Pt},S a->S b->S c->0<X a b->0<X b c->0<X a c)->False:=λS hS tr=>by
  have all:∀j:Nat,0<X (cy rs 0) (cy rs (j+1:Nat)):=by
   intro j
   induction j with
   |zero=>exact pos' 0
   |succ j ih=>exact tr (hS 0) (hS (j+1)) (hS (j+1+1)) ih (pos' (j+1))
  have:=all (rs.length-1)
  rw[show((rs.length-1+1:Nat):Int)=0+(rs.length:Int)by lia,ZeV]at this
  unfold X at this;have e:(cy rs 0).1*(cy rs 0).2-(cy rs 0).2*(cy rs 0).1=0:=by grind
  lia
 by_cases c:∃j:Nat,low (cy rs j)
 .obtain⟨j0,h0⟩:=c;have up:∀k:Nat,low (cy rs (j0+k:Nat)):=λk=>by
   induction k with
   |zero=>exact h0
   |succ k ih=>exact st _ ih
  refine fin low (λj=>?_) (λa b c=>ZnE a b c)
  have:=up (j+rs.length*j0-j0)
  have e:((j0+(j+rs.length*j0-j0):Nat):Int)=(j:Int)+rs.length*j0:=by
   have:j0<=rs.length*j0:=Nat.le_mul_of_pos_left _ l0
   rw[show j0+(j+rs.length*j0-j0)=j+rs.length*j0 by lia]
   simp
  rw[e]at this;unfold cy at this ⊢;rw[Int.add_mul_emod_self_left]at this;exact this
 .exact fin upp (λj=>(hf j).resolve_left λq=>c ⟨j,q⟩) (λa b c=>ZnD a b c)
theorem ZkS(q:Q (.int (bQ a b:Nat)) M):wO (F_law_common [.int a,.int b] M) Q E:=by
 have e:=Zlo (c:=tv (e2 dGt (Zi 1) (eC (.int 0)))) (i:=0) (j:=1) (M:=M) (by decide) gt0 b.natAbs a.natAbs [some (.int (a.natAbs:Nat)),some (.int (b.natAbs:Nat))] rfl rfl
 have e':sWh (tv (e2 dGt (Zi 1) (eC (.int 0)))) ZbP [some (.int (a.natAbs:Nat)),some (.int (b.natAbs:Nat))] M=_:=e;simp![F_law_common,ZcR];rw[e'];simp![Zm];exact q
theorem Zjk:wO (F_law_is_pair [pr u.1 u.2] M) Q E=Q (.bl true) M:=by
 simp![F_law_is_pair,Zcw,CR.F_law_whole,CR.Zcc]
theorem ZkT(k:Nat):((ay (k+1)).filter λ(i:Nat)=>met (cy rs i) (cy rs (i+1))).length=((ay k).filter λ(i:Nat)=>met (cy rs i) (cy rs (i+1))).length+(if met (cy rs k) (cy rs (k+1))then 1 else 0):=by
 rw[fN,iz,a8];congr 1;cases c:met (cy rs k) (cy rs (k+1))<;>simp[eY,c]
theorem ZnF(hp:Bd BG p)(hq:Bd BG q):wO (CC.F_law_cross [pr p.1 p.2,pr q.1 q.2] M) Q E=Q (.int (X p q)) M:=by
 simp![CC.F_law_cross,CC.Zcb,Zaa (mfB hp.1 hq.2),Zaa (mfB hp.2 hq.1),X]
theorem Zuc:Bd BG (1,0):=by unfold Bd BG;lia
theorem Zby(h:M[m]?=some (.lst (prs rs)))(hl:rs.length<=1000)(hb:∀p∈rs,Bd BG p)(r:Rb b rs)(q:Q (.bl true) M):wO (F_law_is_round [.ref m,.bl b] M) Q E:=by
 have l3:=r.1.1;have ne:rs≠[]:=by intro z;rw[z]at l3;simp at l3
 have hg:=r.1.2.1;simp![F_law_is_round,Zb4,CG.ZaI h,h];refine Zfr (λi ρ M'=>M'=M/\∃x,ρ=[some (.ref m),some (.bl b),x,none,none,none,none,none]) h ⟨rfl,_,rfl⟩ (λi ρ M' hI=>by rw[hI.1];exact h) ?_ ?_
 .rintro i ρ M' hi ⟨e,x,rfl⟩;rw[e];clear e M';rw[CC.Za1];simp![Zbl,Zjk];refine ZkS ?_;simp![hg _ (Zat (i:=(i:Int)) ne)];exact⟨_,rfl⟩
 rintro ρ M' ⟨e,x,rfl⟩;rw[e];clear e M';simp![h];refine⟨⋯,?_⟩
 rw[fY];refine Zgg (λi ρ M'=>M'=M/\∃x2 x4 x5 x6 x7,ρ=[some (.ref m),some (.bl b),x2,some (.int (((ay i).filter λ(i:Nat)=>met (cy rs i) (cy rs (i+1))).length:Nat)),x4,x5,x6,x7]) ⟨rfl,_,_,_,_,_,rfl⟩ ?_ ?_
 .rintro i ρ M' hi ⟨e,x2,x4,x5,x6,x7,rfl⟩;rw[e];clear e M';rw[show(0:Int)+(i:Int)=i by lia]
  have am:atI (prs rs) (((i:Int)+1)%(rs.length:Int))=some (pr (cy rs (i+1)).1 (cy rs (i+1)).2):=by
   have e1:=d9 ((i:Int)+1) (show(rs.length:Int)≠0 by lia)
   have e2:=dh ((i:Int)+1) (show(0:Int)<rs.length by lia)
   rw[Zgi ⟨⋯,e2⟩,Zgj]
  have cs:=ZkT (rs:=rs) i;have g1:=hg _ (Zat (i:=(i:Int)) ne);have b1:=hb _ (Zat (i:=(i:Int)) ne);have b2:=hb _ (Zat (i:=(i:Int)+1) ne);have ps:=r.1.2.2.1 i hi;have on:b=true->X (cy rs i) (cy rs (i+1))=1:=λe=>r.2 e i hi;have am0:atI (prs rs) (i:Int)=some (pr (cy rs i).1 (cy rs i).2):=Zgi ⟨⋯,⋯⟩
  generalize ((ay i).filter λ(i:Nat)=>met (cy rs i) (cy rs (i+1))).length=c0 at *;generalize ((ay (i+1)).filter λ(i:Nat)=>met (cy rs i) (cy rs (i+1))).length=c1 at *;generalize cy rs i=u at *;generalize cy rs (i+1)=v at *;have c1w:∀{Q:W0}{E:W2},wO (CC.F_law_cross [pr u.1 u.2,pr 1 0] M) Q E=Q (.int (X u (1,0))) M:=ZnF (q:=(1,0)) b1 Zuc;have c2w:∀{Q:W0}{E:W2},wO (CC.F_law_cross [pr 1 0,pr v.1 v.2] M) Q E=Q (.int (X (1,0) v)) M:=ZnF (p:=(1,0)) Zuc b2;simp![Zbm,h,am0,am,ZnF b1 b2];refine ZkK (λr M'=>M'=M/\r=false) ?_ ?_
  .cases b with
   |false=>simp![Zm]
   |true=>simp![on rfl]
  rintro r M' ⟨e,e2⟩;rw[e,e2];clear e e2 M';simp![Zm];have x1:X u (1,0)= -u.2:=by unfold X;simp only;lia
  have x2:X (1,0) v=v.2:=by unfold X;simp only;lia
  have mt:met u v=true↔(u.2=0/\0<u.1)\/(u.2<0/\0<v.2):=by
   unfold met;simp only[Bool.or_eq_true,aV,decide_eq_true_iff];refine or_congr ⟨λz=>by rw[z];exact⟨rfl,by decide⟩,λz=>?_⟩ Iff.rfl
   rw[z.1,Int.gcd_zero_right]at g1;exact eO (by show u.1=1;lia) z.1
  have my:(u.2=0/\0<u.1)\/(u.2<0/\0<v.2)->c1=c0+1:=λz=>by rw[cs,if_pos (mt.mpr z)]
  have mn:¬((u.2=0/\0<u.1)\/(u.2<0/\0<v.2))->c1=c0:=λz=>by rw[cs,if_neg λy=>z (mt.mp y)];rfl
  clear cs mt;have sec:¬(u.2=0/\0<u.1)->∀{N':Bool->Sto->Prop}{E':W2}{ρ:Ro},ρ[5]?=some (some (pr u.1 u.2))->ρ[6]?=some (some (pr v.1 v.2))->(∀b,(b=true↔u.2<0/\0<v.2)->N' b M)->wO (Zb6 (tv (e2 dGt (Zj CC.F_law_cross (Zd (Zi 5) (Zd (ZaK (Zd (eC (D.int 1)) (Zd (eC (D.int 0)) aNil))) aNil))) (eC (D.int 0)))) (tv (e2 dGt (Zj CC.F_law_cross (Zd (ZaK (Zd (eC (D.int 1)) (Zd (eC (D.int 0)) aNil))) (Zd (Zi 6) aNil))) (eC (D.int 0)))) ρ M) N' E':=by
   intro _ N' E' ρ h5 h6 hn;simp![h5,c1w,x1];refine brO (λz3=>?_) (λz3=>?_)
   .simp![h6,c2w,x2];by_cases z4:0<v.2
    .rw[decide_eq_true z4];exact hn true ⟨λ_=>⟨⋯,z4⟩,λ_=>rfl⟩
    .rw[decide_eq_false z4];exact hn false ⟨λz=>(nomatch z),λz=>absurd z.2 z4⟩
   .simp![Zm];exact hn false ⟨λz=>(nomatch z),λz=>⋯⟩
  have fin (b:Bool) (hb':b=true↔u.2<0/\0<v.2) (h1:¬(u.2=0/\0<u.1)):c1=c0+(if b=true then 1 else 0):=by
   cases b with
   |true=>exact my (.inr (hb'.mp rfl))
   |false=>exact mn λz=>z.elim h1 λz=>nomatch hb'.mpr z
  refine brO (λz1=>?_) (λz1=>?_)
  .simp![Zm];refine brO (λz2=>?_) (λz2=>?_)
   .simp![Zm];exact⟨_,_,_,_,_,by rw[my (.inl ⟨z1,z2⟩)];rfl⟩
   .refine sec (λz=>z2 z.2) rfl rfl λb hb'=>?_;have e:=fin b hb' λz=>z2 z.2;cases b with
    |true=>
     simp![Zm];exact⟨_,_,_,_,_,by rw[e];rfl⟩
    |false=>
     simp![Zm];exact⟨_,_,_,_,_,by rw[e];rfl⟩
  .refine sec (λz=>z1 z.1) rfl rfl λb hb'=>?_;have e:=fin b hb' λz=>z1 z.1;cases b with
   |true=>
    simp![Zm];exact⟨_,_,_,_,_,by rw[e];rfl⟩
   |false=>
    simp![Zm];exact⟨_,_,_,_,_,by rw[e];rfl⟩
 rintro ρ M' ⟨e,x2,x4,x5,x6,x7,rfl⟩;rw[e];clear e M';have e1:ZdA rs=1:=Nat.le_antisymm r.1.2.2.2 (ZkR ne hg r.1.2.2.1);unfold ZdA at e1;rw[e1];simp![Zm];exact q
theorem Rt.at(h:Th M k d t)(r:Rt b t):∃m rs,d=.ref m/\M[m]?=some (.lst (prs rs))/\Rb b rs/\(∀p∈rs,Bd BG p)/\rs.length<=1000:=by
 obtain⟨rs,rfl,r⟩:=r;rcases h.lq with⟨ty,a,b⟩|⟨l,m,xs,ts,rfl,hm,e,hs,hl⟩
 .obtain⟨l,n,xs,_,rfl,hm,_⟩:=ZfD h.1;rw[CG.ZaI hm]at a;cases a;cases b
 .cases e;obtain⟨rfl,hb⟩:=hs.prs;simp only[trP,aC]at hl;exact⟨m,rs,rfl,hm,r,hb,⋯⟩
theorem Zjl(h:Zrn kfs ρ (M++[.lst []])=.ok ds (M++[.lst []]))(q:Q (.dk M.length) (M++[.lst ds])):wO (Zpg kfs ρ M) Q E:=by
 have e1:(M++[SO.lst []])[M.length]?=some (.lst []):=by simp
 have e2:(M++[SO.lst []]).set M.length (.lst ds)=M++[.lst ds]:=by simp
 have e:Zpg kfs ρ M=.ok (.dk M.length) (M++[.lst ds]):=by
  unfold Zpg;simp only[h,Out.bind,e1,e2]
 rw[e];exact q
theorem Zjm(h:M[n]?=some (.lst ds))(e:ZeI kK (.inr s) ds=some x):wO (ZnN true (.str s) (.dk n) M) Q E=Q (.bl false) M:=by
 have e2:ZnN true (.str s) (.dk n) M=.ok (.bl false) M:=by
  have e1:kK (.str s)=some (.inr s):=rfl;simp only[ZnN,ZdZ,e1,h,e];rfl
 rw[e2];rfl
theorem Zjn(h:M[n]?=some (.lst ds))(e:ZeI kK (.inr s) ds=some x):wO (ZnM (.dk n) (.str s) M) Q E=Q x M:=by
 have e2:ZnM (.dk n) (.str s) M=.ok x M:=by
  have e1:kK (.str s)=some (.inr s):=rfl;simp only[ZnM,ZdZ,e1,h,e]
 rw[e2];rfl
theorem ZnQ:eqF (k+1) M (.str a) (.str b)=some (a==b):=rfl
theorem Zdu:Zb3 "str" "str"=true:=rfl
theorem ZdO(h:Th M k d t)(p:pB t=true):wO (F_law_is_pair [d] M) Q E=Q (.bl true) M:=by
 obtain⟨v,rfl,-,-⟩:=h.pr p;exact Zjk
noncomputable def pts:List D:=[.tup [.str (PySem.Str.ofString "walk"),.int 4],.tup [.str (PySem.Str.ofString "turning"),.int 4],.tup [.str (PySem.Str.ofString "none"),.int 4],.tup [.str (PySem.Str.ofString "wedge"),.int 5],.tup [.str (PySem.Str.ofString "parting"),.int 5]]
theorem Zjo(h:Th M k d t)(my:May t)(q:∀M',Kp M M'->Q (.bl true) M'):wO (F_law_may_stand [d] M) Q E:=by
 obtain⟨w,a,b,c,r,rfl,my⟩:=my;rcases h.tq with⟨ty,a,b⟩|⟨l,xs,ts,rfl,rfl,e,hs,hl⟩
 .obtain⟨l,xs,_,rfl,_⟩:=ZfC h.1;cases a;cases b
 cases e;have len:=hs.len;obtain⟨x0,x1,x2,x3,xr,rfl⟩:=Ztw (xs:=xs) (by simp at len;lia)
 have a0:=hs.at (i:=0) (by simp) (by simp)
 have a1:=hs.at (i:=1) (by simp) (by simp)
 have a2:=hs.at (i:=2) (by simp) (by simp)
 simp only[aR,bB]at a0 a1 a2;simp only[aH]at len;have e0:=ZfB a0.1;subst e0;have K:Kp M (M++[.lst pts]):=Kp.app;have hp:(M++[SO.lst pts])[M.length]?=some (.lst pts):=by simp
 have q':=q _ K;have b1:=a1.up K;have b2:=a2.up K;rcases my with⟨rfl,rfl,m⟩|⟨rfl,rfl,m⟩|⟨rfl,rfl,m⟩|⟨rfl,lr,m⟩|⟨rfl,lr,m⟩
 .have dv:ZeI kK (.inr (PySem.Str.ofString "walk")) pts=some (.int 4):=by rfl
  have ln:((xr.length+1+1+1+1:Nat):Int)=4:=by rw[cC]at len;lia
  obtain⟨m',rs,rfl,hm,r,hb,hl⟩:=m.at b1;have w1:(PySem.Str.ofString "walk"==PySem.Str.ofString "wedge")=false:=by decide +kernel
  have w2:(PySem.Str.ofString "walk"==PySem.Str.ofString "turning")=false:=by decide +kernel
  simp![F_law_may_stand,Z1,Zdr,Zdu];refine Zjl (ds:=pts) rfl ?_;simp![Zjm hp dv,Zjn hp dv,ln,ZnQ,w1,w2];exact Zby hm hl hb r q'
 .have dv:ZeI kK (.inr (PySem.Str.ofString "turning")) pts=some (.int 4):=by rfl
  have ln:((xr.length+1+1+1+1:Nat):Int)=4:=by rw[cC]at len;lia
  obtain⟨m',rs,rfl,hm,r,hb,hl⟩:=m.at b1;have w1:(PySem.Str.ofString "turning"==PySem.Str.ofString "wedge")=false:=by decide +kernel
  simp![F_law_may_stand,Z1,Zdr,Zdu];refine Zjl (ds:=pts) rfl ?_;simp![Zjm hp dv,Zjn hp dv,ln,ZnQ,w1,beq_self_eq_true];exact Zby hm hl hb r q'
 .have dv:ZeI kK (.inr (PySem.Str.ofString "none")) pts=some (.int 4):=by rfl
  have ln:((xr.length+1+1+1+1:Nat):Int)=4:=by rw[cC]at len;lia
  obtain⟨m',rs,rfl,hm,r,hb,hl⟩:=m.at b1;have w1:(PySem.Str.ofString "none"==PySem.Str.ofString "wedge")=false:=by decide +kernel
  have w2:(PySem.Str.ofString "none"==PySem.Str.ofString "turning")=false:=by decide +kernel
  simp![F_law_may_stand,Z1,Zdr,Zdu];refine Zjl (ds:=pts) rfl ?_;simp![Zjm hp dv,Zjn hp dv,ln,ZnQ,w1,w2];exact Zby hm hl hb r q'
 .have dv:ZeI kK (.inr (PySem.Str.ofString "wedge")) pts=some (.int 5):=by rfl
  have ln:((xr.length+1+1+1+1:Nat):Int)=5:=⋯
  simp![F_law_may_stand,Z1,Zdr,Zdu];refine Zjl (ds:=pts) rfl ?_;simp![Zjm hp dv,Zjn hp dv,ln,ZnQ,beq_self_eq_true,ZdO b1 m.1,ZdO b2 m.2];exact q'
 .have dv:ZeI kK (.inr (PySem.Str.ofString "parting")) pts=some (.int 5):=by rfl
  have ln:((xr.length+1+1+1+1:Nat):Int)=5:=⋯
  obtain⟨m',rs,rfl,hm,r,hb,hl⟩:=m.at b1;have w1:(PySem.Str.ofString "parting"==PySem.Str.ofString "wedge")=false:=by decide +kernel
  have w2:(PySem.Str.ofString "parting"==PySem.Str.ofString "turning")=false:=by decide +kernel
  simp![F_law_may_stand,Z1,Zdr,Zdu];refine Zjl (ds:=pts) rfl ?_;simp![Zjm hp dv,Zjn hp dv,ln,ZnQ,w1,w2];exact Zby hm hl hb r q'
end
end K71
namespace K71
open L2 DL
open CB (Bd)
open CV (Kp Zec)
open CG (met ZdA BG mfB Zfz)
noncomputable def old(n:Nat):Nat->Bool:=λi=>decide (i<n)
def NT(n:Nat)(M':Sto)(k:Nat)(d:D):Prop:=∃t,okT k t/\tre (poi (old n) M') k d=some t
def NR(m:Nat)(M:Sto)(k n:Nat):Prop:=m<M.length/\∃ys,M[m]?=some (.lst ys)/\ys.length=n/\∃ts,ZaR (tre (poi (old (m+1)) M) k) ys=some ts/\∀t∈ts,okT k t
section
variable {M M' M1 M2:Sto}{n m k l:Nat}{d:D}{xs:List D}
theorem NT.leaf(h:d=.non\/(∃b,d=.bl b)\/(∃i:Int,d=.int i/\ -BG<=i/\i<=BG)\/∃s,d=.str s):NT n M (k+1) d:=by
 rcases h with rfl|⟨b,rfl⟩|⟨i,rfl,h⟩|⟨s,rfl⟩
 .exact⟨_,by exact trivial,rfl⟩
 .exact⟨_,by exact trivial,rfl⟩
 .exact⟨.int i,h,rfl⟩
 .exact⟨_,by exact trivial,rfl⟩
theorem NR.new:NR M.length (M++[.lst []]) k 0:=⟨by simp,[],by simp,rfl,[],rfl,λt h=>by simp at h⟩
theorem ZkU(h:ZaR f xs=some ts)(e:f d=some t):ZaR f (xs++[d])=some (ts++[t]):=by
 obtain⟨l,g⟩:=ZT.mp h;refine ZT.mpr ⟨by simp[l],λi h h'=>?_⟩
 by_cases c:i<xs.length
 .rw[cQ c,cQ ⋯]
  exact g i c ⋯
 .have e2:i=xs.length:=by simp at h;lia
  subst e2;rw[cM (ac _),cM ⋯]
  simp[l,e]
theorem NR.add(h:NR m M1 k n)(K:Kp M1 M2)(e:M2[m]?=some (.lst ys))(hy:NT M1.length M2 k d):ys.length=n/\NR m (M2.set m (.lst (ys++[d]))) k (n+1):=by
 obtain⟨lt,zs,e1,l1,ts,a1,o1⟩:=h;have e2:=K.get e1;rw[e]at e2;cases e2;obtain⟨t,ot,et⟩:=hy;refine⟨l1,by rw[cJ];exact aF lt K.1,ys++[d],aY (aF lt K.1),by simp[l1],ts++[t],?_,λz hz=>?_⟩
 .have gs (j:Nat) (o:SO) (p:¬j<m+1) (q:M2[j]?=some o):(M2.set m (.lst (ys++[d])))[j]?=some o:=by rw[aU ⋯];exact q
  refine ZkU (Zcs (λd t z=>Za3 (λj q=>.inl q) (λj o p q=>gs j o (of_decide_eq_false p) (K.get q)) z) _ _ a1) ?_;exact Za3 (λj q=>.inl (decide_eq_true (by have:=of_decide_eq_true q;lia))) (λj o p q=>gs j o (by have:=of_decide_eq_false p;lia) q) et
 .rcases cV.mp hz with z|z
  .exact o1 _ z
  .simp at z;rw[z];exact ot
theorem NR.list(h:NR m M1 k n)(hn:n<=12)(hm:l<=m):NT l M1 (k+1) (.ref m):=by
 obtain⟨lt,ys,e,ly,ts,a,o⟩:=h;refine⟨.list ts,⟨by rw[<-(ZT.mp a).1];lia,o⟩,ZbU ?_ (Zcs (λd t z=>Za3 (λj q=>.inl (decide_eq_true (by have:=of_decide_eq_true q;lia))) (λj o p q=>q) z) _ _ a)⟩
 rw[Zdo,e,eu,if_neg (by unfold old;simp;lia)]
theorem NR.tup(h:NR m M1 k n)(hn:n<=12)(hm:l<=m):∃ys,M1[m]?=some (.lst ys)/\NT l M1 (k+1) (.tup ys):=by
 obtain⟨lt,ys,e,ly,ts,a,o⟩:=h;exact⟨ys,e,.tuple ts,⟨by rw[<-(ZT.mp a).1];lia,o⟩,ZdK (Zcs (λd t z=>Za3 (λj q=>.inl (decide_eq_true (by have:=of_decide_eq_true q;lia))) (λj o p q=>q) z) _ _ a)⟩
theorem Zjp{i:Int}(h:0<=i/\i<xs.length):∃d∈xs,atI xs i=some d:=by
 obtain⟨j,rfl⟩:=Int.eq_ofNat_of_zero_le h.1;have hj:j<xs.length:=⋯
 exact⟨xs[j],bW hj,by unfold atI;rw[Zi1 hj];simp⟩
def thF:Nat->List D->Sto->Out D
 |0=>F_law_thing_0
 |k+1=>fnF (Zag (thF k)) 2 4
theorem Ztx:F_law_thing=thF 5:=rfl
theorem Zjq:∀(k j:Nat){M:Sto}{c:Int},j<k->0<=c->wO (thF k [.int c,.int j] M) (λd M'=>Kp M M'/\NT M.length M' (j+1) d) (λ_ _=>False)
 |0,j,M,c,h,_=>⋯
 |k+1,j,M,c,h,c0=>by
  show wO (fnF (Zag (thF k)) 2 4 [.int c,.int j] M) _ _;generalize hji:(j:Int)=ji;simp! -implicitDefEqProofs [Zag];have e8:∃kd:Int,c%8=kd/\0<=kd/\kd<8:=⟨_,rfl,⋯,⋯⟩
  obtain⟨kd,ek,k0,k8⟩:=e8;obtain⟨c1,ec,hc1⟩:∃c1:Int,c/8=c1/\0<=c1:=⟨_,rfl,⋯⟩
  rw[ek,ec];refine ZkK (λb M'=>M'=M/\(b=false->j≠0)) ?_ ?_
  .refine brO (λz=>?_) (λz=>?_)
   .simp! -implicitDefEqProofs [];exact λz=>nomatch z
   .simp! -implicitDefEqProofs [];exact λ_=>⋯
  rintro b M' ⟨e,hb⟩;rw[e];clear e M';cases b with
  |true=>
   simp! -implicitDefEqProofs [];obtain⟨d,hd,e⟩:=Zjp (xs:=[D.int (c1%9-4),D.bl true,D.non,D.str (aB "walk"),D.str (aB ""),D.int (0-c1%1000000000000000000000000000000),D.int 1,D.bl false]) (i:=c1/9%8) (by constructor;lia;simp only[aH,cC];lia)
   rw[e];refine⟨Kp.app,NT.leaf ?_⟩;simp only[aM,cf,or_false]at hd;unfold BG;rcases hd with rfl|rfl|rfl|rfl|rfl|rfl|rfl|rfl
   .exact .inr (.inr (.inl ⟨_,rfl,⋯,⋯⟩))
   .exact .inr (.inl ⟨_,rfl⟩)
   .exact .inl rfl
   .exact .inr (.inr (.inr ⟨_,rfl⟩))
   .exact .inr (.inr (.inr ⟨_,rfl⟩))
   .exact .inr (.inr (.inl ⟨_,rfl,⋯,⋯⟩))
   .exact .inr (.inr (.inl ⟨_,rfl,⋯,⋯⟩))
   .exact .inr (.inl ⟨_,rfl⟩)
  |false=>
   have hj:=hb rfl;obtain⟨i,rfl⟩:∃i,j=i+1:=⟨j-1,⋯⟩
   have ih:=@Zjq k i;simp! -implicitDefEqProofs [];refine⟨⋯,?_⟩
   refine Zgg (λn ρ M'=>Kp M M'/\NR M.length M' (i+1) n/\∃(c:Int) (x:Option D),0<=c/\ρ=[some (.int c),some (.int ji),some (.int kd),some (.ref M.length),some (.int (c1%5)),x]) ⟨Kp.app,NR.new,c1/5,_,⋯,rfl⟩ ?_ ?_
   .rintro n ρ M1 hn ⟨K,hr,c,x,hc,rfl⟩;simp! -implicitDefEqProofs [Zb5];rw[show ji-1=(i:Int)by lia]
    obtain⟨lt,ys,ey,ly,tl⟩:=hr;refine⟨by rw[ey];rfl,ZaX (ih ⋯ hc) (λd M2 h=>?_) (λ_ _ z=>z.elim)⟩
    obtain⟨K2,hd⟩:=h;have e2:=K2.get ey;have ad:=NR.add ⟨lt,ys,ey,ly,tl⟩ K2 e2 hd;simp! -implicitDefEqProofs [e2];refine⟨⋯,Kp.set (K.trans K2) (ac _),ad.2,_,_,?_,rfl⟩
    lia
   .rintro ρ M1 ⟨K,hr,c,x,hc,rfl⟩;simp! -implicitDefEqProofs [];refine brS (λz=>?_) (λz=>?_)
    .simp! -implicitDefEqProofs [];exact⟨K,hr.list ⋯ (ac _)⟩
    .obtain⟨ys,ey,ht⟩:=hr.tup (l:=M.length) ⋯ (ac _)
     simp! -implicitDefEqProofs [CU.Ztg ey];exact⟨K,ht⟩
end
end K71
namespace K71
open L2 DL
open CB (Bd)
open CV (Kp Zec)
open CG (met ZdA BG mfB Zfz)
section
variable {M M' M1 M2:Sto}{m k l:Nat}{d:D}{t:ca}{xs:List D}{ts:List ca}{s:Str}
theorem Zjr(h:j<5)(c0:0<=c)(q:∀d M',Kp M M'->NT M.length M' (j+1) d->Q d M'):wO (F_law_thing [.int c,.int j] M) Q E:=by
 rw[Ztx];exact ZaX (Zjq 5 j h c0) (λd M' h=>q d M' h.1 h.2) (λ_ _ z=>z.elim)
theorem NT.lo(h:NT n M k d)(l:m<=n):NT m M k d:=by
 obtain⟨t,o,e⟩:=h;exact⟨t,o,Za3 (λj q=>.inl (decide_eq_true (by have:=of_decide_eq_true q;lia))) (λj o p q=>q) e⟩
theorem NT.up(h:NT n M k d)(K:Kp M M'):NT n M' k d:=by
 obtain⟨t,o,e⟩:=h;exact⟨t,o,Za3 (λj q=>.inl q) (λj o p q=>K.get q) e⟩
theorem Zdv(h:M[m]?=some (.lst (prs rs)))(hn:n<=m)(hl:rs.length<=12)(hb:∀p∈rs,Bd BG p):NT n M (k+3) (.ref m):=by
 refine⟨.list (trP rs),⟨by simp[trP];exact hl,λt ht=>?_⟩,ZbU (xs:=prs rs) ?_ ?_⟩
 .obtain⟨p,hp,rfl⟩:=dy.mp ht;refine⟨by simp,λt ht=>?_⟩
  simp at ht;rcases ht with rfl|rfl
  .exact(hb p hp).1
  .exact(hb p hp).2
 .rw[Zdo,h,eu,if_neg (by unfold old;simp;lia)]
 .refine ZT.mpr ⟨by simp[trP,ZO],λi h h'=>?_⟩
  simp[prs,trP];rfl
theorem Zq9(h:M[m]?=some (.lst (nts L)))(hn:n<=m)(hl:L.length<=12)(hb:∀p∈L,-BG<=p/\p<=BG):NT n M (k+2) (.ref m):=by
 refine⟨.list (L.map .int),⟨by simp;exact hl,λt ht=>?_⟩,ZbU (xs:=DL.nts L) ?_ ?_⟩
 .obtain⟨p,hp,rfl⟩:=dy.mp ht;exact hb p hp
 .rw[Zdo,h,eu,if_neg (by unfold old;simp;lia)]
 .refine ZT.mpr ⟨by simp[Zbd],λi h h'=>?_⟩
  simp[DL.nts];rfl
theorem Zty(hb:Bd BG p):NT n M (k+2) (pr p.1 p.2):=by
 refine⟨.tuple [.int p.1,.int p.2],⟨by simp,λt ht=>?_⟩,rfl⟩
 simp at ht;rcases ht with rfl|rfl
 .exact hb.1
 .exact hb.2
noncomputable def bdB(p:Pt):Bool:=decide (p.1.natAbs<=5)&&decide (p.2.natAbs<=5)
theorem ZlH(h:bdB p=true):Bd BG p:=by
 unfold bdB at h;simp at h;unfold Bd BG;lia
theorem Zdw{rs:List Pt}(h:rs.all bdB=true):∀p∈rs,Bd BG p:=λp hp=>ZlH (bh.mp h p hp)
theorem Zra(c0:0<=c)(q:∀d M',Kp M M'->NT M.length M' 4 d->Q d M'):wO (F_law_part [.int c] M) Q E:=by
 simp! -implicitDefEqProofs [F_law_part,ZdM];generalize hL:M++_=M';have K:Kp M M':=hL▸Kp.app;have g0:M'[M.length]?=some (.lst (prs [(1,0),(0,1),(-1,-1)])):=by rw[<-hL,ZgT];rfl
 have g1:M'[M.length+1]?=some (.lst (prs [(1,0),(0,1),(-1,0),(0,-1)])):=by rw[<-hL,Ze5];rfl
 have g3:M'[M.length+3]?=some (.lst (prs [(1,0),(0,1)])):=by rw[<-hL,Ze5];rfl
 have g4:M'[M.length+4]?=some (.lst (prs [])):=by rw[<-hL,Ze5];rfl
 have g6:M'[M.length+6]?=some (.lst (prs [(1,1),(0,1),(2,1)])):=by rw[<-hL,Ze5];rfl
 have g7:M'[M.length+7]?=some (.lst (prs [(0,1),(1,2),(-3,1)])):=by rw[<-hL,Ze5];rfl
 have g8:M'[M.length+8]?=some (.lst (prs [(1,0),(0,1),(-1,-2)])):=by rw[<-hL,Ze5];rfl
 have g2:M'[M.length+2]?=some (.lst (nts [0,1,2])):=by rw[<-hL,Ze5];rfl
 have g10:∃L:List D,M'[M.length+10]?=some (.lst L)/\L.length=11/\∀d∈L,NT M.length M' 4 d:=by
  refine⟨[.ref M.length,.ref (M.length+1),.ref (M.length+2),.ref (M.length+3),.ref (M.length+4),.ref (M.length+6),.tup [DL.pr 1 0,DL.pr 0 1],DL.pr 0 1,.ref (M.length+7),.int 0,.ref (M.length+8)],by rw[<-hL,Ze5];rfl,rfl,λd hd=>?_⟩
  simp only[aM,cf,or_false]at hd;rcases hd with rfl|rfl|rfl|rfl|rfl|rfl|rfl|rfl|rfl|rfl|rfl
  .exact Zdv g0 ⋯ (by decide) (Zdw rfl)
  .exact Zdv g1 ⋯ (by decide) (Zdw rfl)
  .exact Zq9 g2 ⋯ (by decide) (λp hp=>by unfold BG;simp at hp;lia)
  .exact Zdv g3 ⋯ (by decide) (Zdw rfl)
  .exact Zdv g4 ⋯ (by decide) (Zdw rfl)
  .exact Zdv g6 ⋯ (by decide) (Zdw rfl)
  .refine⟨.tuple (trP [(1,0),(0,1)]),⟨by decide,λt ht=>?_⟩,rfl⟩
   simp[trP]at ht;rcases ht with rfl|rfl
   .exact⟨by decide,λt ht=>by simp at ht;rcases ht with rfl|rfl<;>exact⟨by decide,by decide⟩⟩
   .exact⟨by decide,λt ht=>by simp at ht;rcases ht with rfl|rfl<;>exact⟨by decide,by decide⟩⟩
  .exact Zty (p:=(0,1)) (ZlH rfl)
  .exact Zdv g7 ⋯ (by decide) (Zdw rfl)
  .exact NT.leaf (.inr (.inr (.inl ⟨_,rfl,by decide,by decide⟩)))
  .exact Zdv g8 ⋯ (by decide) (Zdw rfl)
 clear hL g0 g1 g2 g3 g4 g6 g7 g8;obtain⟨L,g10,ll,hL⟩:=g10;generalize M.length+10=o at *;refine brS (λz=>?_) (λz=>?_)
 .simp! -implicitDefEqProofs [g10];obtain⟨d,hd,e⟩:=Zjp (xs:=L) (i:=c/6%11) ⋯
  rw[e];exact q d M' K (hL d hd)
 .simp! -implicitDefEqProofs [];exact Zjr (j:=3) (by decide) ⋯ λd M2 K2 h=>q d M2 (K.trans K2) (h.lo K.1)
theorem ZnG(c0:0<=c)(q:∀d M',Kp M M'->NT M.length M' 5 d->Q d M'):wO (F_law_drawn [.int c] M) Q E:=by
 simp! -implicitDefEqProofs [F_law_drawn,Zdq];refine brS (λz=>?_) (λz=>?_)
 .simp! -implicitDefEqProofs [];exact Zjr (j:=4) (by decide) ⋯ q
 .obtain⟨d,hd,e⟩:=Zjp (xs:=[D.str (aB "walk"),D.str (aB "turning"),D.str (aB "wedge"),D.str (aB "parting"),D.str (aB "none"),D.str (aB "Walk"),D.str (aB ""),D.str (aB "papers")]) (i:=c/4%8) (by constructor;lia;simp only[aH,cC];lia)
  obtain⟨s,rfl⟩:∃s,d=.str s:=by
   simp only[aM,cf,or_false]at hd;rcases hd with rfl|rfl|rfl|rfl|rfl|rfl|rfl|rfl<;>exact⟨_,rfl⟩
  clear hd;simp! -implicitDefEqProofs [];rw[e];clear e;simp! -implicitDefEqProofs [];generalize [D.str (aB "walk"),D.str (aB "turning"),D.str (aB "wedge"),D.str (aB "parting"),D.str (aB "none"),D.str (aB "Walk"),D.str (aB ""),D.str (aB "papers")]=W;have fin:∀N:Int,0<=N->N<=5->(-4611686018427387904<=N/\N<4611686018427387904)/\wS (Zb8 (gNm 4) Zbg (ZaO 0 N.toNat) [some (D.int (c/32/3)),some (D.ref M.length),some (D.ref (M.length+1)),some (D.int (3+c/32%3)),none] (M++[.lst W,.lst [.str s]])) (kSq (ZC (sIf (tv (e2 dEq (e2 dMod (Zi 0) (eC (D.int 9))) (eC (D.int 0)))) (ZR (Zi 2)) sNil) (ZR (Zj bTup (Zd (Zi 2) aNil)))) (Zni Q) Q (λ_ _=>False) (λ_ _=>False) E) Q (λ_ _=>False) (λ_ _=>False) E:=by
   intro N h0 h5;refine⟨⋯,?_⟩
   have r0:NR (M.length+1) (M++[.lst W,.lst [.str s]]) 4 1:=⟨by simp,[.str s],by rw[Ze5];rfl,rfl,[.str s],rfl,λt ht=>by simp at ht;rw[ht];exact trivial⟩
   refine Zgg (λn ρ M'=>Kp M M'/\NR (M.length+1) M' 4 (n+1)/\∃(c:Int) (x y z:Option D),0<=c/\ρ=[some (.int c),x,some (.ref (M.length+1)),y,z]) ⟨Kp.app,r0,c/32/3,_,_,_,⋯,rfl⟩ ?_ ?_
   .rintro n ρ M1 hn ⟨K,hr,c,x,y,z,hc,rfl⟩;simp! -implicitDefEqProofs [Zbg];obtain⟨lt,ys,ey,ly,tl⟩:=hr;refine⟨by rw[ey];rfl,Zra hc λd M2 K2 hd=>?_⟩
    have e2:=K2.get ey;have ad:=NR.add ⟨lt,ys,ey,ly,tl⟩ K2 e2 hd;simp! -implicitDefEqProofs [e2];exact⟨⋯,Kp.set (K.trans K2) (fR _),ad.2,_,_,_,_,⋯,rfl⟩
   .rintro ρ M1 ⟨K,hr,c,x,y,z,hc,rfl⟩;simp! -implicitDefEqProofs [];refine brS (λz=>?_) (λz=>?_)
    .simp! -implicitDefEqProofs [];exact q _ _ K (hr.list ⋯ (fR _))
    .obtain⟨ys,ey,ht⟩:=hr.tup (l:=M.length) ⋯ (fR _)
     simp! -implicitDefEqProofs [CU.Ztg ey];exact q _ _ K ht
  exact fin _ (by split<;>lia) (by split<;>lia)
theorem ZlI{xs:List D}(S:List D->Sto->Nat->Prop)(hl:xs.length<=1000)(hcnt:xs.length<=cnt src M)(hs:∀M',Kp M M'->∀i,i<=xs.length->nxt src i M'=some xs[i]?)(h0:∀M',S [] M' 0)(hS:∀ys M1 M2 i,S ys M1 i->(∀j o,j≠M.length->M1[j]?=some o->M2[j]?=some o)->S ys M2 i)(st:∀i (h:i<xs.length) ys M1,Kp M M1->M.length<M1.length->S ys M1 i->wO (F [xs[i]] M1) (λy M2=>Kp M1 M2/\S (ys++[y]) M2 (i+1)) (λ_ _=>False))(q:∀ys M',Kp M M'->M'[M.length]?=some (.lst ys)->S ys M' xs.length->ys.length=xs.length->Q (.ref M.length) M'):kCo (gNm 0) (λ_ M=>.ok true M) (Zj F (Zd (Zi 0) aNil)) 1 [] ρ Q src M:=by
 show wO (ZeB src (gNm 0) (λ_ M=>.ok true M) (Zj F (Zd (Zi 0) aNil)) M.length (cnt src M) 0 [none] (M++[.lst []])) _ _;refine Zgh (xs:=xs) (λi ρ M'=>(∃x,ρ=[x])/\Kp M M'/\M.length<M'.length/\∃ys,M'[M.length]?=some (.lst ys)/\ys.length=i/\S ys M' i) _ 0 _ _ ⋯ ⋯ ⟨⟨_,rfl⟩,Kp.app,by simp,[],by simp,rfl,h0 _⟩ (λi ρ M' hi hI=>hs M' hI.2.1 i hi) ?_ ?_
 .rintro i ρ M1 hi ⟨⟨x,rfl⟩,K,lt,ys,hy,ly,hS1⟩;rw[show gNm 0 xs[i] [x]=some [some xs[i]]from rfl];refine(show ∀P:Ro->Prop,P [some xs[i]]->wG (some [some xs[i]]) P from λP h=>h) _ ?_;refine(show ∀P:Prop,P->Br true P _ from λP h=>⟨λ_=>h,λz=>by cases z⟩) _ ?_
  refine(show wO (F [xs[i]] M1) _ _->wO (Zj F (Zd (Zi 0) aNil) [some xs[i]] M1) _ _ from λh=>h) ?_;refine ZaX (st i hi ys M1 K lt hS1) (λy M2 h=>?_) (λ_ _ z=>z);have hy2:=h.1.get hy;rw[hy2];refine⟨⋯,⟨_,rfl⟩,⟨by rw[cJ];exact(K.trans h.1).1,λj hj=>by rw[aU ⋯];exact(K.trans h.1).2 j hj⟩,by rw[cJ];have:=h.1.1;lia,ys++[y],aY (by have:=h.1.1;lia),by simp[ly],?_⟩
  exact hS _ _ _ _ h.2 λj o hj e=>by rw[aU (bD hj)];exact e
 .rintro ρ M1 ⟨-,K,lt,ys,hy,ly,hS1⟩;exact q ys M1 K hy hS1 ly
section
variable {S:List D->Sto->Nat->Prop}
theorem Zrb(hl:xs.length<=1000)(h0:∀M',S [] M' 0)(hS:∀ys M1 M2 i,S ys M1 i->(∀j o,j≠M.length->M1[j]?=some o->M2[j]?=some o)->S ys M2 i)(st:∀i (h:i<xs.length) ys M1,Kp M M1->M.length<M1.length->S ys M1 i->wO (G [xs[i]] M1) (λy M2=>Kp M1 M2/\S (ys++[y]) M2 (i+1)) (λ_ _=>False))(q:∀ys M',Kp M M'->S ys M' xs.length->ys.length=xs.length->Q (.tup ys) M'):wO (fnF (ZL G) 1 0 [.tup xs] M) Q E:=by
 simp![ZL];refine ZlI S hl (by simp[cnt]) (λM' K i hi=>rfl) h0 hS st λys M' K e s l=>?_
 show wO (bTup [.ref M.length] M') Q E;rw[CU.Ztg e];exact q ys M' K s l
theorem Zrc(h:M[m]?=some (.lst xs))(hl:xs.length<=1000)(h0:∀M',S [] M' 0)(hS:∀ys M1 M2 i,S ys M1 i->(∀j o,j≠M.length->M1[j]?=some o->M2[j]?=some o)->S ys M2 i)(st:∀i (h:i<xs.length) ys M1,Kp M M1->M.length<M1.length->S ys M1 i->wO (G [xs[i]] M1) (λy M2=>Kp M1 M2/\S (ys++[y]) M2 (i+1)) (λ_ _=>False))(q:∀ys M',Kp M M'->M'[M.length]?=some (.lst ys)->S ys M' xs.length->ys.length=xs.length->Q (.ref M.length) M'):wO (fnF (ZL G) 1 0 [.ref m] M) Q E:=by
 simp![ZL,ZaI h];refine ZlI S hl (by rw[ZcF h];exact ac _) (λM' K i hi=>by rw[ZdJ];exact K.get h) h0 hS st λys M' K e s l=>?_
 exact q ys M' K e s l
end
def cpF:Nat->List D->Sto->Out D
 |0=>F_law_copy_0
 |k+1=>fnF (ZL (cpF k)) 1 0
theorem Ztz:F_law_copy=cpF 5:=rfl
theorem ZnH{xs:List D}{ts:List ca}{k:Nat}(h:(poi P M)[m]?=some (.lst xs))(e:ZaR (tre K k) xs=some ts):M[m]?=some (.lst xs):=by
 rw[Zdo]at h;obtain⟨o,h1,h2⟩:=ar.mp h;by_cases c:P m=true
 .rw[if_pos c]at h2;cases h2;have z:ZaR (tre K k) [.fn (PySem.Str.ofString "")]=none:=by rw[ZaR,ZlC]
  rw[z]at e;cases e
 .rw[if_neg c]at h2;rw[h1,h2]
theorem ZlJ:∀(k:Nat){M:Sto}{P:Nat->Bool}{d:D}{t:ca},(∀i,P i=true->i<M.length)->tre (poi P M) k d=some t->okT k t->wO (cpF k [d] M) (λd' M'=>Kp M M'/\tre (poi P M') k d'=some t) (λ_ _=>False)
 |0,_,_,_,_,_,e,_=>by cases e
 |k+1,M,P,d,t,hP,e,sh=>by
  have ih:=@ZlJ k;have row:∀(xs:List D)(ts:List ca),ZaR (tre (poi P M) k) xs=some ts->(∀t∈ts,okT k t)->ts.length<=12->∃S:List D->Sto->Nat->Prop,(∀M',S [] M' 0)/\(∀ys M1 M2 i,S ys M1 i->(∀(j:Nat) o,j≠M.length->M1[j]?=some o->M2[j]?=some o)->S ys M2 i)/\
    (∀i (h:i<xs.length) ys M1,Kp M M1->M.length<M1.length->S ys M1 i->wO (cpF k [xs[i]] M1) (λy M2=>Kp M1 M2/\S (ys++[y]) M2 (i+1)) (λ_ _=>False))/\∀ys M',S ys M' xs.length->ZaR (tre (poi P M') k) ys=some ts:=by
   intro xs ts ea st lt;obtain⟨l0,g0⟩:=ZT.mp ea;refine⟨λys M1 i=>ys.length=i/\∀j (h:j<ys.length) (h':j<ts.length),tre (poi (λi=>P i||i==M.length) M1) k ys[j]=some ts[j],λM'=>⟨rfl,λj h=>by simp at h⟩,λys M1 M2 i hs k=>⟨hs.1,λj h h'=>?_⟩,λi h ys M1 K lt1 hs=>?_,λys M' hs=>?_⟩
   .exact Za3 (λj q=>.inl q) (λj o z q=>k j o (by simp at z;exact z.2) q) (hs.2 j h h')
   .have hi:i<ts.length:=⋯
    have e1:tre (poi (λi=>P i||i==M.length) M1) k xs[i]=some ts[i]:=Za3 (λj q=>by
     simp at q;rcases q with q|q
     .exact .inl q
     .exact .inr (by rw[q];exact bj (ac _))) (λj o _ q=>K.get q) (g0 i h hi)
    refine ZaX (ih (M:=M1) (P:=λi=>P i||i==M.length) (λj q=>?_) e1 (st _ (bW hi))) (λy M2 q=>⟨q.1,?_,λj hj hj'=>?_⟩) (λ_ _ z=>z)
    .simp at q;rcases q with q|q
     .have:=hP j q;lia
     .lia
    .rw[a8,hs.1];rfl
    .by_cases c:j<ys.length
     .rw[cQ c];exact Za3 (λj q=>.inl q) (λj o _ z=>q.1.get z) (hs.2 j c hj')
     .have e2:j=ys.length:=by simp at hj;lia
      subst e2;rw[cM (ac _)]
      have:ys.length=i:=hs.1
      simp only[c7,aR,this];exact q.2
   .refine ZT.mpr ⟨by rw[hs.1];exact l0,λj h h'=>?_⟩
    exact Za3 (λj q=>.inl (by simp;exact .inl q)) (λj o _ z=>z) (hs.2 j h h')
  show wO (fnF (ZL (cpF k)) 1 0 [d] M) _ _;cases d with
  |non=>
   simp![ZL];exact⟨Kp.refl,e⟩
  |int i=>
   simp![ZL];exact⟨Kp.refl,e⟩
  |bl b=>
   simp![ZL];exact⟨Kp.refl,e⟩
  |str x=>
   simp![ZL];exact⟨Kp.refl,e⟩
  |tup xs=>
   obtain⟨ts,e1,e2⟩:=ar.mp e;subst e2;obtain⟨S,h0,hS,st,fin⟩:=row xs ts e1 sh.2 sh.1;refine Zrb (S:=S) (by rw[(ZT.mp e1).1];exact aQ sh.1 (by decide)) h0 hS st λys M' K s l=>⟨K,?_⟩
   exact ZdK (fin ys M' s)
  |ref m=>
   change (match(poi P M)[m]? with|some (.lst xs)=>(ZaR (tre (poi P M) k) xs).map cA|none=>none)=_ at e
   cases em:(poi P M)[m]? with
   |none=>rw[em]at e;cases e
   |some o=>
    cases o with
    |lst xs=>
     rw[em]at e;obtain⟨ts,e1,e2⟩:=ar.mp e;subst e2;obtain⟨S,h0,hS,st,fin⟩:=row xs ts e1 sh.2 sh.1;refine Zrc (S:=S) (ZnH em e1) (by rw[(ZT.mp e1).1];exact aQ sh.1 (by decide)) h0 hS st λys M' K hm s l=>⟨K,?_⟩
     refine ZbU ?_ (fin ys M' s);rw[Zdo,hm]
     have:¬P M.length=true:=λz=>bU _ (hP _ z)
     simp only[eu,if_neg this]
  |_=>cases e
end
end K71
namespace K71
open L2 DL
open CB (Bd)
open CV (Kp Zec)
open CG (met ZdA BG mfB Zfz)
theorem ZnI{ns:List Int}{i:Nat}(hi:i<=60)(hN:∀x2 x3 x4 M,N [some (.rol (ns.map D.int)),some (.int i),x2,x3,x4] M):wS (Zeh [some (.rol (ns.map D.int)),some (.int i),x2,x3,x4] M) N R B C E:=by
 simp! -implicitDefEqProofs [Zeh];refine CC.Zi3 λc c0=>?_;refine ZnG c0 λd M1 K1 hd=>?_;obtain⟨t,ot,et⟩:=hd;have et:=ZqP et;simp! -implicitDefEqProofs [];rw[Ztz];refine ZaX (ZlJ 5 (P:=λ_=>false) (λi z=>by cases z) (by rw[Znw];exact et) ot) (λd' M2 hd=>?_) (λ_ _ z=>z.elim)
 obtain⟨K2,et2⟩:=hd;rw[Znw]at et2;simp! -implicitDefEqProofs [];have fin:∀M3 b,Kp M2 M3->(b=true->May t)->kAs 4 [some (.rol (ns.map D.int)),some (.int i),some d,some d',x4] (kSq (ZC (sIf (Zbz (ZY (tv (ZcL "bool" (Zi 4)))) (tv (e2 dNe (Zi 3) (Zi 2)))) (ZR (eC (.bl false))) sNil) (sIf (Zb6 (tv (Zi 4)) (ZY (tv (Zj F_law_may_stand (Zd (Zi 2) aNil))))) (ZR (eC (.bl false))) sNil)) N R B C E) (.bl b) M3:=by
  intro M3 b K3 hb;have eq1:eqF 12 M3 d' d=some true:=Zjb (k:=5) 7 (Zgr K3 et2) (Zgr (K2.trans K3) et);simp! -implicitDefEqProofs [eq1];cases b with
  |false=>
   simp! -implicitDefEqProofs [];exact hN _ _ _ _
  |true=>
   simp! -implicitDefEqProofs [];refine Zjo (k:=5) ⟨Zgr (K2.trans K3) et,ot⟩ (hb rfl) λM4 K4=>?_;simp! -implicitDefEqProofs [];exact hN _ _ _ _
 refine ZkQ (k:=5) ⟨et2,ot⟩ (λM3 K3=>fin M3 false K3 λz=>nomatch z) (λM3 b K3 m=>fin M3 b K3 λ_=>m)
theorem ZnJ(h:M[n]?=some (.lst []))(h':M[m]?=some (.lst []))(q:∀M',Q (.bl true) M'):wO (F_stands [.tup [.str (PySem.Str.ofString "wedge"),pr 1 0,pr 0 1,.ref n,.ref m]] M) Q E:=by
 have w1:(PySem.Str.ofString "wedge"==PySem.Str.ofString "walk")=false:=by decide +kernel
 have w2:(PySem.Str.ofString "wedge"==PySem.Str.ofString "turning")=false:=by decide +kernel
 simp![F_stands,Zc3,Zub,ZnQ,w1,w2,beq_self_eq_true,at3];simp![F_wedge_stands,Zbf];refine CG.ZkM (u:=(1,0)) ?_;rw[show decide (bQ ((1,0):Pt).1 ((1,0):Pt).2=1)=true from rfl];simp![Zm];refine CG.ZkM (u:=(0,1)) ?_;rw[show decide (bQ ((0,1):Pt).1 ((0,1):Pt).2=1)=true from rfl];simp![CC.ZeZ (a:=1) (b:=0) (c:=0) (d:=1) ⋯ ⋯,CG.ZaI h,CG.ZaI h',h,h']
 refine Ztc (λρ=>∃x,ρ=[x]) (λ_=>.non) h (by decide) ⟨_,rfl⟩ (λi hi=>absurd hi (Nat.not_lt_zero _)) ?_
 have k1:=Zas h;have k1':=Zas h';rw[show(ay (gJ ([]:List D))).map (λ_=>D.non)=[]from rfl];simp![show Zar []=some []from rfl,lf,h];generalize hL:M++_=M2;have K:Kp M M2:=hL▸Kp.app;have g4:M2[M.length+4]?=some (.lst [pr 1 0,pr 0 1]):=by rw[<-hL,Ze5];rfl
 have g5:M2[M.length+5]?=some (.lst [pr 0 1]):=by rw[<-hL,Ze5];rfl
 clear hL;have h2:=K.get h;have h2':=K.get h';generalize M.length+4=o4 at *;generalize M.length+5=o5 at *;refine Znm (xs:=[.tup [pr 1 0,pr 0 1]]) (λρ=>∃x y,ρ=[x,y]) (λ_=>.bl true) (by decide) (by rw[ZcG g4];decide) ⟨_,_,rfl⟩ (λL i hi=>Zdj ((Kp.app (L:=L)).get g4) ((Kp.app (L:=L)).get g5)) ?_ ?_
 .rintro i hi ρ L ⟨x,y,rfl⟩;obtain rfl:i=0:=by simp at hi;exact hi
  refine⟨⟨_,_,rfl⟩,?_⟩;simp![CC.ZeZ (a:=1) (b:=0) (c:=0) (d:=1) ⋯ ⋯]
 rw[show(ay (gJ [D.tup [pr 1 0,pr 0 1]])).map (λ_=>D.bl true)=[.bl true]from rfl];simp![show Zar [.bl true]=some [true]from rfl,kq,lf,Bool.and_self];have k2:=Zas h2;have k2':=Zas h2';refine Znm (xs:=[]) (λρ=>True) (λ_=>.bl true) (by decide) (c8 _) trivial (λL i hi=>Zdj (xs:=[]) (ys:=[]) ((Kp.app.trans Kp.app).get h2) ((Kp.app.trans Kp.app).get h2')) (λi hi=>absurd hi (Nat.not_lt_zero _)) ?_
 rw[show(ay (gJ ([]:List D))).map (λ_=>D.bl true)=[]from rfl];simp![show Zar []=some []from rfl,lf];exact q _
theorem ZkV(q:Q (.bl false) M):wO (F_stands [.tup []] M) Q E:=by
 simp![F_stands,Zc3];exact q
theorem law_true(ns:List Int)(h:ns.length<=63):∃M',ZfF [.rol (ns.map D.int)] []=.ok (.bl true) M':=by
 have w:wO (ZfF [.rol (ns.map D.int)] []) (λd _=>d=.bl true) (λ_ _=>False):=by
  simp![ZfF,ZqQ];refine⟨⋯,?_⟩
  refine Zgg (λ_ ρ _=>∃x1 x2 x3 x4,ρ=[some (.rol (ns.map D.int)),x1,x2,x3,x4]) ⟨_,_,_,_,rfl⟩ ?_ ?_
  .rintro i ρ M hi ⟨x1,x2,x3,x4,rfl⟩;rw[show(0:Int)+(i:Int)=i by lia]
   simp![Zm];exact ZnI ⋯ λ_ _ _ _=>⟨_,_,_,_,rfl⟩
  .rintro ρ M ⟨x1,x2,x3,x4,rfl⟩;simp![Zm];refine ZnJ (n:=M.length) (m:=M.length+1) (by simp) (by simp) λM'=>?_
   simp![show isP (.bl true) (.bl true)=some true from rfl];refine ZkV ?_;simp![show isP (.bl false) (.bl false)=some true from rfl]
 obtain⟨d,M',e,rfl⟩:=Zgf w;exact⟨M',e⟩
end K71
namespace K71
open L2 DL
theorem ZvB{l:PySem.W.OpenLaw}{K:jv->Fg}{T:Fg}(hn:l.most=some 63)(hdf:d.params.defaults=[])(hY:∀(w:cu)(h:Heap),YP w h->(K w.params).In h/\T.In h)(hT:∀w:cu,Zf6 (K w.params) T=true)(F:∀(w:cu)(mg:Str->Option aa)(fa:Addr)(h:Heap),(K w.params).In h->h.Ns aG mg->mg d.name=some (.ref fa)->∃fd:f8,(∀(s:az)(u:aa),jO s fd ⟨[u],[]⟩ [("_law_script",u)])/\∀base:Heap,(K w.params).In base->base.Ns aG mg->FnOk l.prog w (K w.params) mg base (CXE l.prog w) 109 fa fd ["_law_script"] (spD (K w.params) ZfF)):PySem.W.WalkO q loose XP YP l.row.toRowW d [] (λf vs=>PySem.call f vs):=
 L2.Zks (T:=λ_=>T) (n:=63) (k:=109) (x:="_law_script") (CX:=λw=>CXE l.prog w) (sp:=λw=>spD (K w.params) ZfF) hn (by decide) hdf ⟨λ_=>rfl,rfl,by decide,by decide⟩ hY hT F (λ_ _ a ns hl hS=>DL.ZmY hS (law_true ns hl)) λ_ _ _ _ _ h=>by obtain⟨_,_,_,_,_,_,_,_,_,_,_,_,_,q⟩:=h;exact q
end K71
open PySem.W PyProof.Rows
set_option maxRecDepth 1000000 in
set_option maxHeartbeats 0 in
theorem PySem.Challenge.cw_rayround_k71_papers_of_any_thing_holds : PySem.Challenge.rw_rayround_k71_papers_of_any_thing.Holds := by
 w_on
 refine holds_law K71.Zus λ_=>?_;refine holds_open (q:=K71.qf PySem.Challenge.pw_rayround_k71_papers_of_any_thing) (loose:=K71.lo) (Xt:=λs=>xlAt (K71.qf PySem.Challenge.pw_rayround_k71_papers_of_any_thing) [] s&&recOk [] s) (XP:=XL (K71.qf PySem.Challenge.pw_rayround_k71_papers_of_any_thing) []) (Yf:=Hook.obs K71.Hk) (Ya:=Hook.val K71.Hk) (YP:=Hook.says K71.Hk) (N:=3660) ?hl (Hook.of K71.Hk) (Hook.keeps K71.Hk) (λs e=>xl_of s (gQ.mp e).1) XL.keeps (by rfl) (by rfl) (by rfl) (λs e=>recFacts_of (gQ.mp e).2) (by rfl) (by first|assumption|decide +kernel) (by decide +kernel) ⟨rfl,rfl,rfl,rfl,rfl,by decide +kernel⟩ ?hw ?hc
 case hl=>exact HD.ZhC rfl (by decide) (λs=>rfl) (by decide) K71.ZrM
 case hw=>w_witness2
 case hc=>
  refine K71.ZvB (l:=PySem.Challenge.rw_rayround_k71_papers_of_any_thing) (K:=K71.Kf PySem.Challenge.pw_rayround_k71_papers_of_any_thing) (T:=K71.Tf) rfl rfl (λw h Y=>⟨DL.ZmZ (PySem.W.kIn_of Y),DL.Zkt (PySem.W.kIn_of Y) (by kernel_rfl)⟩) (λw=>by kernel_rfl) ?F
  intro w mg fa h KX G hmg;refine K71.fin KX G hmg ⟨DL.Bs.of KX G ?_,λc v e=>PySem.W.mg_of KX G e,DL.Dfs.of ?_,K71.Zvy (fI:=53) (c:=52) (m:="rayround.errors") (t:=187) ?_ ?_ ?_ ?_ ?_,?_,?_,?_,?_,?_,?_,?_⟩
  all_goals kernel_rfl
