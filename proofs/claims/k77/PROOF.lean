import PyProof.Rows.All
import Wide.All
import OpenK.AllK
import Wide.FinOn
import Lean
import PyProof.EqAt
import PyProof.EqKinds
import PyProof.TupleCall
import PyProof.FString
import PyProof.Rows.TupIter
import KE.KDictList
import PyProof.ZipIter
import PyProof.ListNew
import PyProof.RulesAssignMore
import PyProof.ReprRoads
import PyProof.FitsInt
import PyProof.Rows.Range3
import KE.KSortKey
import KE.KLam
import PyProof.CallFns
import PyProof.StrWalks
import KE.KIntText
import PyProof.ListStr
import PySem.Challenge.RW_rayround_k77_texts_refused
set_option maxRecDepth 100000
set_option linter.all false
set_option Elab.async false
set_option maxHeartbeats 4000000
noncomputable section
set_option bootstrap.genMatcherCode false
set_option genSizeOf false
set_option genSizeOfSpec false
set_option compiler.extract_closed false
open Array renaming getElem?_eq_some_iff→aV,getElem?_setIfInBounds_self_of_lt→bZ,toList_inj→cV,length_toList→dh,getElem?_setIfInBounds_ne→dZ,getElem?_toList→eX,toList_extract→fH,forIn_toList→iq,append_assoc→iw,all_eq_true→iN,toList→kG
open Bool renaming and_eq_true→aR,false_eq_true→bK,false_ne_true→cD,not_true→dW,eq_iff_iff→eQ,not_eq_true'→gz,false_and→iy,and_false→iC,or_eq_true→js,and_eq_true_iff→jY,or_false→kC
open Classical renaming byContradiction→cQ
open False renaming elim→cm
open Int renaming gcd→bq,fmod_eq_emod_of_nonneg→ce,emod_lt_of_pos→dG,mul_nonpos_of_nonneg_of_nonpos→dH,natAbs_ediv_le_natAbs→dM,mul_le_mul_of_nonneg_right→eE,emod_nonneg→eU,emod_eq_of_lt→fk,fdiv_eq_ediv_of_nonneg→fJ,mul_neg_of_pos_of_neg→fR,toNat_natCast→gm,mul_nonneg→iF,gcd_dvd_right→iM,dvd_mul_of_dvd_right→iT,natCast_emod→i3,dvd_mul_of_dvd_left→i5,gcd_dvd_left→i6,natCast_dvd_natCast→i7,ediv_one→je,emod_emod_of_dvd→jQ,one_mul→jS,natAbs_mul→jU,gcd_eq_zero_iff→kx,mul_pos→lu
open List renaming length_append→aa,length_map→ae,getElem?_eq_some_iff→aj,mem_cons_of_mem→ak,length_cons→ao,getElem?_eq_getElem→aq,size_toArray→ar,replicate→aB,getElem?_set_ne→aG,getElem?_append_left→aH,range→aJ,mem_cons→aK,map_cons→aL,getElem?_append_right→aM,getD_eq_getElem?_getD→aN,mem_cons_self→aO,getElem?_set_self→aP,cons_append→aS,mem_append_right→aT,getElem?_eq_none→aU,getElem_mem→aX,append_nil→aY,length_replicate→aZ,getElem?_map→a7,drop_eq_nil_of_le→a8,mem_map→a9,all_eq_true→bh,take_of_length_le→bp,mem_append→bC,length_take→bF,lookup_cons→bG,getElem_map→bH,map_map→bM,length_drop→bO,length_nil→bS,Nodup→bV,getElem?_eq_none_iff→cj,filterMap_cons→ck,replicate_succ→cr,append_assoc→cu,length_singleton→cA,length_set→cB,map_append→cC,reverse_cons→cK,length_reverse→cM,nil_append→cO,getElem?_take_of_lt→cY,sum_cons→c6,mem_of_getElem?→c8,mem_of_mem_take→c9,mem_of_mem_drop→da,getElem?_cons_succ→db,getElem_of_mem→di,map_nil→dj,filter_cons→dC,mem_singleton→dF,cons_prefix_cons→dI,drop_eq_getElem_cons→dJ,extract_eq_drop_take→dL,lookup→dP,length→dQ,flatten_cons→dR,mem_range→d8,eq_nil_of_length_eq_zero→eF,contains_cons→eJ,filter_append→eM,mem_append_left→fA,not_mem_nil→fP,take_succ_cons→fU,foldl_cons→fX,range_succ→fY,infix_cons→fZ,getElem?_replicate→f9,getElem?_toArray→gF,take_append_drop→gG,drop_append→gP,ext_getElem→gQ,mem_filter→hU,nodup_cons→hW,length_pos_iff→ic,infix_cons_iff→ig,mem_map_of_mem→ii,zip_cons_cons→ir,mem_replicate→iE,ext_getElem?→iJ,getElem?_cons_zero→iY,take_append→iZ,length_eq_zero_iff→i4,take_length→i8,map→i9,foldl→jh,getElem_cons_drop→jm,of_mem_zip→jp,forIn_cons→jr,getElem?_reverse→ju,contains_iff_mem→jw,singleton_append→jy,length_filter_le→jA,drop_zero→jN,getElem?_mapIdx→jR,take_zero→jT,take_succ→jV,getElem_toArray→jW,infix_rfl→jX,getElem?_range→km,getElem_mapIdx→ku
open List.cons renaming injEq→hO
open Nat renaming le_refl→au,lt_of_lt_of_le→ay,le_trans→aE,ne_of_lt→bj,lt_irrefl→bU,lt_of_le_of_lt→cU,ne_of_gt→cX,lt_trans→dq,lt_succ_self→eA,gcd_comm→eK,pow_le_pow_right→fK,sub_self→fM,gcd_zero_right→f7,le_of_lt→gp,add_assoc→gR,zero_le→gY,log2_lt→iI,mod_lt→jk,strongRecOn→jt,eq_one_of_dvd_one→jz,gcd_rec→jP,succ_mul→kM,gcd→kW,zero_add→kX,le_succ→lg
open Ne renaming symm→bJ
open Option renaming isSome_iff_exists→bP,map_eq_some_iff→eI,getD_some→fN,isNone_iff_eq_none→fQ,bind_some→iW
open Option.some renaming injEq→am,inj→aQ
open Or renaming inl→dw,inr→hX
open Prod renaming ext→jF
open Prod.mk renaming injEq→gS
open PyProof.Rows renaming slot_tuple_getitem→bR,AllBare→d6,callWith_type1→eZ,assignInOrder_cons→ix,envOfC→iQ,subscriptTail_builtinR→jf,entry_tuple_getitem→kh,subscriptTail→kA,IsTup→lx,IntsAre→lv
open PyProof.Rows.IsTup renaming new→kZ
open PySem renaming Value→ah,starEach→af,mainGlobals→ai,model→az,Shared→aC,Builtin→eY,wpAny_field→bf,wpAny_newObj_type→bA,bootBuiltins→bB,NameKind→c7,cellsFrom→bD,backTo→bT,Heap→lw,strLen_append→bW,foldedSetIterable→bY,compareOp→cE,Program→cF,wpAny_setField→cG,wpAny_truthy_bool→cJ,Around→dc,World→df,wpAny_call_entry→dA,PassesOwn→eV,noteFrame→dB,assignEach→dD,wpAny_passesOwn→dN,binaryOp→d9,wpAny_getItem_str_slice→eD,wpAny_execs_nil→eN,letOwnedTupleGo→eO,importedModules→eP,wpAny_loadPart_at→fj,sizeLine_eq→fB,sliceBounds→fC,excClassObj→fF,setFlight→fL,behindInMarks→fV,attributeBase→fW,wpAny_callSpecial?_slot→f8,keywordEach→ge,pushCells→gi,rawInt→gk,tupleKeyHash→gn,FuncData→gq,codeAny→gx,Keyword→gy,plainObj_wpAny_Assign_Attribute→gD,isSubtype_tuple_tuple→gE,isInstance→gH,wpAny_isInstance→gI,wpAny_rule→gJ,wpAny_forIn_list→gK,swapsWith→gL,call_meets→gM,swapsWithSole→gU,swappedStores→gW,codeAny_call_builtin→gZ,compTurn→hG,wpAny_specialOf→hJ,pushCells_keeps→hZ,post_val_or_str→ia,wpAny_seqItems→io,wpAny_tupleItemsOf→ip,typeIs_str→iz,wpAny_call→iA,Thread→iD,slot_list_getitem→iH,wpAny_Call_ofName→iL,pyNext→iO,intBits_le_64→iP,wpAny_getItem_list_slice→iR,wpAny_comprehension_free→iS,backToKw→iV,getItem→jc,codeAny_mono→jd,denote→ji,codeAny_compStart_list→jj,cLine→jo,wpAny_loadPart'→jq,codeAny_handlers_test→jv,exec_Assign_Name_used→jx,wpAny_throw→jB,IsRangeIter→jC,Scope→jD,Params→jG,compEnvC→jJ,handleBy→jM,BindsTo→j8,leaving→j9,slicePick→kc,callerA→ke,treeTable→kg,wpAny_handleBy_cons→ko,wpAny_isSubtype_exc→kr,wpAny_attempt→kz,builtinsNs→kD,IsPart→kE,wpAny_typeOf→kK,seqIndex_neg→kL,OsState→kP,OwnTail→kR,ExcBaseFacts→kT,eqIsQuiet→kY,DictEntry→k7,strValues→k9,JoinOk→lf,field→li,subscripted→lj,seqIndex_of→lq
open PySem.Around renaming under→kH
open PySem.Builtin.Int renaming intBits→fS
open PySem.Builtin.List renaming listTooLong→dX
open PySem.Builtin.Slice renaming slicePlaces→bN,sliceAdjust→cP,sliceApplied→dE,sliceFields→iG
open PySem.Builtin.Str renaming occurrences→ba,strKind→cN,partsBetween→cZ,strSliceIndices→ff
open PySem.Builtin.Tuple renaming tupleExact→bQ,tupleHashOf→ci,tupleItemsOf→fq
open PySem.Code renaming isFrame→kJ
open PySem.Data renaming dict→im,fields→jE
open PySem.EntryCells renaming newEntry→kj
open PySem.Heap renaming get?_update_other→aI,get?_push_size→aW,get?_update_self→cx,SameBut→eG,get?_none_of_le→ft,size_push→gj,ExtBut→gX,MadeExcOf→jO,get?_update_ne→kq
open PySem.Heap.IsSliceOf renaming new→iB
open PySem.NameKind renaming free→dz,cell→dY
open PySem.Obj renaming isFreed_of_fields→cR,data_mapFields→cT,mapFields→dy,mapSeq→jg
open PySem.PassesOwn renaming looking→iK
open PySem.Str renaming ofString→bc,length→fG
open PySem.Value renaming ref→aA,none→bE,type→bL,builtin→cW,bool→iu,int→iU,str→jZ
open PySem.W renaming findIn→cL,boot_heap→dO,SharedT→d7,specialIn→eW,looks_mroIn→fE,mroIn→gf,clsIn→ib,takesIn→ij,looks_findIn→ik,hasDictIn→iX,stepOk→jH,Looks→jI,typeIn→jK,kitOne→jL,boot_drawn→kF,through→kN,stepT→kO,looks_typeIn→kS,boot_toks→k8
open Rat renaming normalize→bX,num_normalize→gA,den_normalize→gB
open Sum renaming inl→ja,inr→jb
open True renaming intro→gN
open PySem PySem.Spec
theorem Qrf(h:0=0:=by rfl):True:=trivial
theorem Qde(h:0=0:=by decide):True:=trivial
theorem Qin(h:0=0:=by intro _;rfl):True:=trivial
noncomputable abbrev Fg:=PySem.W.Frag
noncomputable abbrev Vp:=ah->aC->Prop
noncomputable abbrev Pn:=List (Addr×Obj)
noncomputable abbrev Wb:=@wpAny_bind
noncomputable abbrev Hq:=@lw.get?_push_of_some
noncomputable abbrev Hz:=@lw.lt_size
noncomputable abbrev Wp:=@wpAny_pure
noncomputable abbrev Gq:=@aq
namespace DQ
open PyProof.Rows
noncomputable def Zbq(A:dc)(h:Heap):Prop:=A.handled=none\/∃ea oe vs,A.handled=some (.ref ea)/\h.get? ea=some oe/\oe.data=.fields vs/\vs[2]?=some .none
theorem Zbq.keeps(q:Zbq A h)(k:∀b o,h.get? b=some o->h'.get? b=some o):Zbq A h':=by
 rcases q with q|⟨ea,oe,vs,e1,e2,e3,e4⟩
 ·exact .inl q
 ·exact .inr ⟨ea,oe,vs,e1,k _ _ e2,e3,e4⟩
theorem Zem:entryFor table "proto.unchain"=some eY.«proto.unchain» :=entryFor_of_fast (by kernel_rfl)
theorem ZfZ{Q:α->aC->Prop}(q:Zbq A s.heap)(he:s.heap.get? e=some oe)(hd:oe.data=.fields vs)(hz:2<vs.size)(h:∀h',(∀b o,b≠e->s.heap.get? b=some o->h'.get? b=some o)->(∃o,h'.get? e=some o/\o.cls=oe.cls)->E (.ref e) {s with heap:=h'}):wpAny (az prog w) A (raiseNew (.ref e):Sem α) Q E s:=by
 have same:E (.ref e) s:=h s.heap (fun _ _ _ x=>x) ⟨oe,he,rfl⟩;unfold raiseNew;refine Wb (wpAny_handled ?_);rcases q with q|⟨ea,oa,ws,q1,q2,q3,q4⟩
 ·rw[q];exact Wb (Wp (jB same))
 ·rw[q1];dsimp only;by_cases c:(aA ea != aA e)=true
  ·rw[if_pos c];refine Wb (wpAny_holding (wpAny_runValue (codeAny_builtin Zem ?_)));unfold eY.«proto.unchain»;refine Wb (bf q2 q3 q4 ?_);refine Wb (Wp ?_);have sf:wpAny (az prog w) A (setField (.ref e) 2 (.ref ea)) (fun _ s'=>wpAny (az prog w) A (throw (aA e):Sem α) Q E s') E s:=by
    refine cG he hd hz (jB (h _ (fun b o hb x=>?_) ⟨_,cx _ he (cR (cT hd _)),Obj.cls_mapFields _ _⟩));rw[aI _ _ (bJ hb)];exact x
   exact Wp (Wb sf)
  ·rw[if_neg c];exact jB same
theorem ZbM{Q:α->aC->Prop}(q:Zbq A s.heap)(h:∀h' e,(∀b o,s.heap.get? b=some o->h'.get? b=some o)->(∃o,h'.get? e=some o/\o.cls=.type "StopIteration")->E (.ref e) {s with heap:=h'}):wpAny (az prog w) A (newExc (.type "StopIteration") [] >>= fun x=>(raiseNew x:Sem α)) Q E s:=by
 refine Wb ?_;simp only[newExc,newTuple];refine Wb (bA ?_ (by size_fits))
 refine Wb (m:=firstArgMember _ _) (wpAny_of_eq (a:=bE) (by first|rfl|(simp only[firstArgMember];rfl)) ?_)
 refine bA ?_ (by size_fits)
 refine ZfZ (q.keeps fun b o x=>Hq _ (Hq _ x)) (aW _ rfl) rfl (by rw[Array.size_append];exact ay (by decide:2<6) (Nat.le_add_right _ _)) fun h' k he=>?_
 exact h h' _ (fun b o x=>k b o (bj (ay (Hz x) (by rw[gj];exact lg _))) (Hq _ (Hq _ x))) he
theorem Zma(he:∃o,s.heap.get? e=some o/\o.cls=.type "StopIteration")(h:Q true s):wpAny (az prog w) A (gH (.ref e) (.type "StopIteration")) Q E s:=
 let ⟨o,e1,e2⟩:=he
 gI (T:="StopIteration") (b:=true) ⟨o,e1,e2⟩ isSubtype_stop h
theorem Zbq.in1(q:Zbq A h):Zbq A.in1 h:=q
noncomputable def ZhS(it:Addr)(s:aC)(e:ah)(s':aC):Prop:=∃a,e=.ref a/\(∃o,s'.heap.get? a=some o/\o.cls=.type "StopIteration")/\∃h',gX it s.heap h'/\s'={s with heap:=h'}
theorem Zgt{id:String}(hT:s.TypeIs (.ref it) T)(sl:Slot T (bc "__next__") id)(hb:entryFor table id=some b)(ha:argsOk id ⟨[.ref it],[]⟩)(h:wpAny (az prog w) A.in1 (b ⟨[.ref it],[]⟩) (fun _ _=>False) (ZhS it s) s)(hQ:∀h',gX it s.heap h'->Q none {s with heap:=h'}):wpAny (az prog w) A (iO (.ref it)) Q E s:=by
 unfold iO;refine Wb (kz (f8 (name:=bc "__next__") hT sl (dA sl hT hb (wpAny_mono h (fun _ _ z=>z.elim) fun e s' z=>?_) ha)));obtain⟨a,rfl,ho,h',eb,rfl⟩:=z;exact Wb (Zma ho (Wp (hQ h' eb)))
theorem ZhT{step:Int}(q:Zbq A s.heap)(hit:jC s.heap it x left step)(hl:left<=0)(hQ:∀h',gX it s.heap h'->Q none {s with heap:=h'}):wpAny (az prog w) A (iO (.ref it)) Q E s:=by
 refine Zgt ⟨_,hit,rfl⟩ F.slot_range_iterator_next F.entry_range_iterator_next (F.args_range_iterator_next_1 _) ?_ hQ;refine Wb (m:=li (.ref it) 0) (bf hit rfl (x:=gk x) rfl ?_);refine Wb (m:=li (.ref it) 1) (bf hit rfl (x:=gk left) rfl ?_);refine Wb (m:=li (.ref it) 2) (bf hit rfl (x:=gk step) rfl ?_);dsimp only[gk];rw[if_pos hl];refine Wb (gJ (Wb ?_));exact ZbM q.in1 fun h' e k ho=>⟨e,rfl,ho,h',fun b o _ z=>k b o z,rfl⟩
theorem ZnV{i:Nat}(q:Zbq A s.heap)(ho:s.heap.get? it=some o)(hd:o.data=.fields #[.ref l,.int i 0])(hol:s.heap.get? l=some ol)(hdl:ol.data=.seq items n)(hx:items[i]?=none):wpAny (az prog w) A.in1 (eY.«list_iterator.__next__» ⟨[.ref it],[]⟩) (fun _ _=>False) (ZhS it s) s:=by
 refine Wb (m:=li (.ref it) 0) (bf ho hd (x:=.ref l) rfl ?_);dsimp only;rw[if_neg (show ¬((aA l==bE)=true)from cD)];refine Wb (m:=li (.ref it) 1) (bf ho hd (x:=.int i 0) rfl ?_);refine Wb (m:=seqItems? (.ref l)) (io hol hdl ?_);simp only[gm,hx];refine Wb (gJ (Wb (cG ho hd (by simp) ?_)))
 have q2:Zbq A.in1 (s.heap.update it (dy (·.setIfInBounds 0 bE))):=by
  rcases q with q|⟨ea,oe,vs,e1,e2,e3,e4⟩
  ·exact .inl q
  ·refine .inr ⟨ea,oe,vs,e1,?_,e3,e4⟩;rw[aI _ _ (fun z=>?_)]
   ·exact e2
   ·rw[<-z,ho]at e2;cases e2;rw[hd]at e3;cases e3;simp at e4
 refine ZbM q2 fun h' e k ho=>⟨e,rfl,ho,h',fun b o hb z=>k b o ?_,rfl⟩;rw[aI _ _ (bJ hb)];exact z
theorem ZnW{i:Nat}(q:Zbq A s.heap)(ho:s.heap.get? it=some o)(hd:o.data=.fields #[.ref l,.int i 0])(hol:s.heap.get? l=some ol)(hdl:ol.data=.seq items n)(hx:items[i]?=none):wpAny (az prog w) A.in1 (eY.«tuple_iterator.__next__» ⟨[.ref it],[]⟩) (fun _ _=>False) (ZhS it s) s:=by
 refine Wb (m:=li (.ref it) 0) (bf ho hd (x:=.ref l) rfl ?_);dsimp only;rw[if_neg (show ¬((aA l==bE)=true)from cD)];refine Wb (m:=li (.ref it) 1) (bf ho hd (x:=.int i 0) rfl ?_);refine Wb (m:=seqItems? (.ref l)) (io hol hdl ?_);simp only[gm,hx];refine Wb (gJ (Wb (cG ho hd (by simp) ?_)))
 have q2:Zbq A.in1 (s.heap.update it (dy (·.setIfInBounds 0 bE))):=by
  rcases q with q|⟨ea,oe,vs,e1,e2,e3,e4⟩
  ·exact .inl q
  ·refine .inr ⟨ea,oe,vs,e1,?_,e3,e4⟩;rw[aI _ _ (fun z=>?_)]
   ·exact e2
   ·rw[<-z,ho]at e2;cases e2;rw[hd]at e3;cases e3;simp at e4
 refine ZbM q2 fun h' e k ho=>⟨e,rfl,ho,h',fun b o hb z=>k b o ?_,rfl⟩;rw[aI _ _ (bJ hb)];exact z
theorem Zj5{items}(q:Zbq A s.heap)(hit:s.heap.IsListIter it l i)(hl:s.heap.IsList l items)(hx:items[i]?=none)(hQ:∀h',gX it s.heap h'->Q none {s with heap:=h'}):wpAny (az prog w) A (iO (.ref it)) Q E s:=by
 obtain⟨o,ho,hc,hd⟩:=id hit;obtain⟨ol,hol,_,nl,hdl⟩:=hl;exact Zgt hit.typeIs slot_listiter_next entry_listiter_next (args_listiter_next _) (ZnV q ho hd hol hdl hx) hQ
theorem ZhU{items}(q:Zbq A s.heap)(hit:s.heap.IsTupleIter it l i)(hl:s.heap.IsTuple l items)(hx:items[i]?=none)(hQ:∀h',gX it s.heap h'->Q none {s with heap:=h'}):wpAny (az prog w) A (iO (.ref it)) Q E s:=by
 obtain⟨o,ho,hc,hd⟩:=id hit;obtain⟨ol,hol,_,nl,hdl⟩:=hl;exact Zgt hit.typeIs F.slot_tuple_iterator_next F.entry_tuple_iterator_next (F.args_tuple_iterator_next_1 _) (ZnW q ho hd hol hdl hx) hQ
end DQ
namespace PySem
namespace NK
variable {prog:cF}{w:df}{K:Type}[DecidableEq K](knd:KeyKind prog w K)
inductive ItemsT(h:Heap):List (List K)->List ah->Prop where
 |nil:ItemsT h [] []
 |cons {k:List K} {a:Addr} {ks:List (List K)} {vs:List ah}:IsTupleKey knd h k a->ItemsT h ks vs->ItemsT h (k::ks) (.ref a::vs)
noncomputable def ZaD(h:Heap)(ks:List (List K))(a:Addr):Prop:=∃o items n,h.get? a=some o/\o.cls=.type "tuple"/\o.data=.seq items n/\ItemsT knd h ks items.toList
variable {knd}
theorem ItemsT.inj{h:Heap}{x y:List (List K)}{vs:List ah}(hx:ItemsT knd h x vs):ItemsT knd h y vs->x=y:=by
 intro hy
 induction hx generalizing y with
 |nil=>cases hy;rfl
 |cons k1 _ ih=>
  cases hy with
  |cons k2 t=>rw[k1.inj k2,ih t]
theorem ZaD.typeIs{s:aC}{ks:List (List K)}{a:Addr}(x:ZaD knd s.heap ks a):s.TypeIs (.ref a) "tuple":=let ⟨o,_,_,ho,hc,_⟩:=x;⟨o,ho,hc⟩
theorem ZaD.inj{h:Heap}{a:Addr}{x y:List (List K)}(hx:ZaD knd h x a)(hy:ZaD knd h y a):x=y:=by
 obtain⟨o,i1,n1,e1,_,d1,q1⟩:=hx;obtain⟨o2,i2,n2,e2,_,d2,q2⟩:=hy;rw[e1]at e2;cases e2;rw[d1]at d2;cases d2;exact q1.inj q2
theorem ItemsT.keeps{h h':Heap}{ks:List (List K)}{vs:List ah}{d:Addr}{o:Obj}{es ep}(x:ItemsT knd h ks vs)(ho:h.get? d=some o)(hd:o.data=.dict es ep)(hs:eG d h h'):ItemsT knd h' ks vs:=by
 induction x with
 |nil=>exact .nil
 |cons k _ ih=>exact .cons (k.keeps ho hd hs) ih
theorem ZaD.keeps{h h':Heap}{ks:List (List K)}{a d:Addr}{o:Obj}{es ep}(x:ZaD knd h ks a)(ho:h.get? d=some o)(hd:o.data=.dict es ep)(hs:eG d h h'):ZaD knd h' ks a:=by
 obtain⟨o1,items,n,e1,c1,d1,q⟩:=x;have ne:a≠d:=by
  intro z;subst z;rw[e1]at ho;cases ho;rw[d1]at hd;cases hd
 exact⟨o1,items,n,by rw[hs.2 a ne];exact e1,c1,d1,q.keeps ho hd hs⟩
noncomputable def Zmb(knd:KeyKind prog w K)(ks:List (List K)):Int:=reduceHash (ci (ks.map (gn knd)))
noncomputable def Zd7(ks:List (List K)):Nat:=(ks.map fun k=>k.length+1).sum
variable {A:dc}{E:Vp}{s:aC}
theorem ZhV{ks:List (List K)}{a:Addr}{Q:Int->aC->Prop}(hu:A.units+1<jo)(hk:ZaD knd s.heap ks a)(h:Q (Zmb knd ks) {s with toks:=s.toks+(Zd7 ks+1)}):wpAny (az prog w) A (pyHash (.ref a)) Q E s:=by
 have hT:=hk.typeIs;obtain⟨o,items,n,ho,_,hd,hi⟩:=hk;unfold pyHash
 first|unfold pyHashByItsType|skip
 first|refine Wb (wpAny_cRoomFor_or (.inr (by lia)) ?_)|skip
 refine Wb (hJ hT F.slot_tuple_hash.lookup ?_);show wpAny _ _ (if(some (cW "tuple.__hash__")==some bE)=true then _ else _) Q E s
 rw[if_neg (by rw[beq_builtin_none];exact cD)]
 refine Wb (hJ hT F.slot_tuple_hash.lookup ?_);show wpAny _ _ (callSpecialIfBoundUnlessNone? (.ref a) "__hash__" _ >>= _) Q E s;refine Wb (wpAny_callSpecialIfBoundUnlessNone?_slot hT F.slot_tuple_hash (dA F.slot_tuple_hash hT F.entry_tuple_hash ?_ (F.args_tuple_hash_1 _)));show wpAny _ _ (fq (.ref a) >>= _) _ _ s;refine Wb (ip ho hd ?_);refine Wb ?_;rw[<-iq];refine gK _
  (fun rest (b:Array Int) s'=>∃done left,ks=done++left/\ItemsT knd s.heap left rest/\b.toList=done.map (gn knd)/\s'={s with toks:=s.toks+Zd7 done})
  _ ?_ ?_ _ _ ⟨[],ks,rfl,hi,rfl,rfl⟩
 ·rintro x rest b s' ⟨done,left,rfl,hl,hb,rfl⟩;cases hl with
  |@cons k a' ks' _ h1 hl'=>
   refine Wb (wpAny_pyHash_tuple (knd:=knd) (ks:=k) (s:={s with toks:=s.toks+Zd7 done}) (by exact hu) h1 ?_)
   first
    |exact Wp ⟨done++[k],ks',by simp,hl',by simp[hb],by simp[Zd7,gR]⟩
    |exact Wb (Wp (Wp ⟨done++[k],ks',by simp,hl',by simp[hb],by simp[Zd7,gR]⟩))
 ·rintro b s' ⟨done,left,rfl,hl,hb,rfl⟩;cases hl;rw[aY]at h;show wpAny _ _ (retInt (ci b.toList)) _ _ _;rw[hb];refine wpAny_ret_mkInt ?_;show wpAny _ _ (if(decide (-(2:Int)^63<=ci (done.map (gn knd)))&&decide (ci (done.map (gn knd))<2^63))=true then _ else _) Q E _
  unfold Zmb reduceHash at h;by_cases hr:(decide (-(2:Int)^63<=ci (done.map (gn knd)))&&decide (ci (done.map (gn knd))<2^63))=true
  ·rw[if_pos hr];rw[if_pos hr]at h;exact Wp (by simpa [gR]using h)
  ·rw[if_neg hr];rw[if_neg hr]at h;exact Wb (gJ (Wp (by simpa [gR]using h)))
theorem Zmc{x y:List (List K)}{a b:Addr}{P:Fin->aC->Prop}(hu:A.units<jo)(hx:ZaD knd s.heap x a)(hy:ZaD knd s.heap y b)(h:P (.done (.ret (.bool (decide (x=y))))) s):wpAny (az prog w) A (eY.«tuple.__eq__» ⟨[.ref a,.ref b],[]⟩) P E s:=by
 have hTb:=hy.typeIs;obtain⟨oa,xs,na,hoa,_,hda,hia⟩:=hx;obtain⟨ob,ys,nb,hob,_,hdb,hib⟩:=hy;show wpAny _ _ (gH (.ref b) (.type "tuple") >>= _) _ _ s;refine Wb (gI hTb gE ?_);simp only[dW,bK,if_false];refine Wb (ip hoa hda ?_);refine Wb (ip hob hdb ?_);refine Wb ?_;refine gK _
  (fun rest r s'=>r.1=none/\s'=s/\∃x' y' xs' ys',rest=List.zip xs' ys'/\ItemsT knd s.heap x' xs'/\ItemsT knd s.heap y' ys'/\decide (x'=y')=decide (x=y)/\(xs'.length==ys'.length)=(xs.size==ys.size))
  _ ?_ ?_ _ _ ⟨rfl,rfl,x,y,xs.toList,ys.toList,rfl,hia,hib,rfl,by simp⟩
 ·rintro⟨u,v⟩ rest r s' ⟨hr,rfl,x',y',xs',ys',hz,hx',hy',hdec,hlen⟩;cases hx' with
  |nil=>simp at hz
  |@cons k1 u' x'' xs'' h1 hx''=>
   cases hy' with
   |nil=>simp at hz
   |@cons k2 v' y'' ys'' h2 hy''=>
    simp only[ir,hO,gS]at hz;obtain⟨⟨rfl,rfl⟩,rfl⟩:=hz;refine Wb (wpAny_eqBool_tuple (knd:=knd) (x:=k1) (y:=k2) hu h1 h2 ?_);by_cases hk:k1=k2
    ·subst hk;rw[decide_eq_true rfl];simp only[dW,bK,if_false];refine Wp ⟨rfl,rfl,x'',y'',xs'',ys'',rfl,hx'',hy'',?_,by simpa using hlen⟩
     rw[<-hdec];by_cases hxy:x''=y''
     ·simp[hxy]
     ·simp[hxy]
    ·rw[decide_eq_false hk];simp only[Bool.not_false,if_true];have hf:decide (x=y)=false:=by rw[<-hdec];simp[hk]
     rw[hf]at h;exact Wb (Wp (Wp (Wp h)))
 ·rintro⟨r1,r2⟩ s' ⟨hr,rfl,x',y',xs',ys',hz,hx',hy',hdec,hlen⟩;simp only at hr;subst hr;refine Wp ?_;have hfin:(xs.size==ys.size)=decide (x=y):=by
   rw[<-hdec,<-hlen];cases hx' with
   |nil=>
    cases hy' with
    |nil=>simp
    |cons _ _=>simp
   |cons _ _=>
    cases hy' with
    |nil=>simp
    |cons _ _=>simp at hz
  show P (.done (.ret (.bool (xs.size==ys.size)))) s';rw[hfin];exact h
theorem Zmd{x y:List (List K)}{a b:Addr}{Q:Bool->aC->Prop}(hu:A.units+1<jo)(hx:ZaD knd s.heap x a)(hy:ZaD knd s.heap y b)(h:Q (decide (x=y)) s):wpAny (az prog w) A (eqBool (.ref a) (.ref b)) Q E s:=by
 unfold eqBool
 try with_reducible refine wpAny_holding ?_
 show wpAny _ _ (if(aA a==aA b)=true then _ else _) Q E s
 by_cases hab:(aA a==aA b)=true
 ·rw[if_pos hab];have e:a=b:=by have:=eq_of_beq hab;injection this
  subst e;obtain rfl:=hx.inj hy;exact Wb (gJ (Wp (by simpa using h)))
 ·rw[if_neg hab];exact Wb (wpAny_richCompare_same_room (op:=.Eq) hx.typeIs hy.typeIs F.slot_tuple_eq
   (dA F.slot_tuple_eq hx.typeIs F.entry_tuple_eq (Zmc (by exact hu) hx hy ⟨_,rfl,(fun e=>nomatch e),cJ h⟩) (F.args_tuple_eq_2 _ _)) (by lia))
theorem ZhW{ks:List K}{a:Addr}{Q:Bool->aC->Prop}(m:Nat)(hk:IsTupleKey knd s.heap ks a)(h:Q true s):wpAny (az prog w) A (kY (m+1) (.ref a)) Q E s:=by
 have hT:=hk.typeIs;obtain⟨o,items,n,ho,_,hd,hi⟩:=hk;unfold kY;refine Wb (hJ hT F.slot_tuple_eq.lookup ?_);show wpAny _ _ (gH (.ref a) (.type "tuple") >>= _) _ _ s;refine Wb (gI hT gE ?_);simp only[dW,bK,if_false];refine Wb (io ho hd ?_);refine Wb ?_;show wpAny _ _ (forIn items _ _) _ _ s;rw[<-iq];refine gK _ (fun rest r s'=>r.1=none/\s'=s/\∀v∈rest,carriedByValue v=true) _ ?_ ?_ _ _ ⟨rfl,rfl,hi.byValue⟩
 ·rintro v rest r s' ⟨hr,rfl,hall⟩;rw[eqIsQuiet_byValue _ (hall v aO)];refine Wb (Wp ?_);simp only[dW,bK,if_false];exact Wp ⟨rfl,rfl,fun u hu'=>hall u (ak _ hu')⟩
 ·rintro⟨r1,r2⟩ s' ⟨hr,rfl,_⟩;simp only at hr;subst hr;exact Wp h
theorem Zhk{ks:List (List K)}{a:Addr}{Q:Bool->aC->Prop}(hk:ZaD knd s.heap ks a)(h:Q true s):wpAny (az prog w) A (kY 8 (.ref a)) Q E s:=by
 have hT:=hk.typeIs;obtain⟨o,items,n,ho,_,hd,hi⟩:=hk;unfold kY;refine Wb (hJ hT F.slot_tuple_eq.lookup ?_);show wpAny _ _ (gH (.ref a) (.type "tuple") >>= _) _ _ s;refine Wb (gI hT gE ?_);simp only[dW,bK,if_false];refine Wb (io ho hd ?_);refine Wb ?_;show wpAny _ _ (forIn items _ _) _ _ s;rw[<-iq];refine gK _ (fun rest r s'=>r.1=none/\s'=s/\∃ks',ItemsT knd s.heap ks' rest) _ ?_ ?_ _ _ ⟨rfl,rfl,ks,hi⟩
 ·rintro v rest r s' ⟨hr,rfl,ks',hall⟩;cases hall with
  |cons k1 t=>
   refine Wb (ZhW 6 k1 ?_);simp only[dW,bK,if_false];exact Wp ⟨rfl,rfl,_,t⟩
 ·rintro⟨r1,r2⟩ s' ⟨hr,rfl,_⟩;simp only at hr;subst hr;exact Wp h
end NK
def Zj6{prog:cF}{w:df}{K:Type}[DecidableEq K](knd:KeyKind prog w K):HeapKind prog w (List (List K)) where
 is:=NK.ZaD knd
 hash:=NK.Zmb knd
 draws:=fun ks=>NK.Zd7 ks+1
 room:=fun A=>A.units+1<jo
 inj:=fun hx hy=>hx.inj hy
 keeps:=fun x ho hd hs=>x.keeps ho hd hs
 pyHash:=fun hu hk h=>NK.ZhV hu hk h
 eqBool:=fun hu hx hy h=>NK.Zmd hu hx hy h
 quiet:=fun hk h=>NK.Zhk hk h
end PySem
namespace L2
open PyProof.Rows
noncomputable abbrev Key:=Sum Int Str
noncomputable def ZnX:Key->ah->Bool
 |.inl k,v=>ah.isInt k v
 |.inr x,v=>ah.isStrOf x v
noncomputable def ZtP(w:df):Key->Int
 |.inl k=>hashInt k
 |.inr x=>hashStr w x
theorem ZQ:∀{k:Key}{v:ah},ZnX k v=true->(∃i t,k=ja i/\v=iU i t)\/(∃x t,k=jb x/\v=jZ x t)
 |.inl i,v,h=>by
  obtain⟨t,e⟩:=ah.isInt_shape (k:=i) (v:=v) h;exact .inl ⟨i,t,rfl,e⟩
 |.inr x,v,h=>by
  obtain⟨t,e⟩:=ah.isStrOf_shape (x:=x) (v:=v) h;exact .inr ⟨x,t,rfl,e⟩
theorem ZnY(a b:Int):decide ((ja a:Key)=ja b)=(a==b):=by
 by_cases e:a=b
 ·subst e;simp
 ·have h:¬(ja a:Key)=ja b:=fun q=>e (ja.inj q);rw[decide_eq_false h];exact(beq_eq_false_iff_ne.mpr e).symm
theorem ZnZ(a b:Str):decide ((jb a:Key)=jb b)=decide (a=b):=by
 by_cases e:a=b
 ·subst e;simp
 ·have h:¬(jb a:Key)=jb b:=fun q=>e (jb.inj q);rw[decide_eq_false h,decide_eq_false e]
theorem Zn0(a:Int)(b:Str):decide ((ja a:Key)=jb b)=false:=decide_eq_false (fun q=>nomatch q)
theorem Zn1(a:Str)(b:Int):decide ((jb a:Key)=ja b)=false:=decide_eq_false (fun q=>nomatch q)
def Zf0(prog:cF)(w:df):PySem.KeyKind prog w Key where
 is:=ZnX
 hash:=ZtP w
 inj:=fun v a b ha hb=>by
  rcases ZQ ha with⟨i,t,rfl,rfl⟩|⟨x,t,rfl,rfl⟩
  ·rcases ZQ hb with⟨j,u,rfl,e⟩|⟨y,u,rfl,e⟩
   ·injection e with e1 _;rw[e1]
   ·exact nomatch e
  ·rcases ZQ hb with⟨j,u,rfl,e⟩|⟨y,u,rfl,e⟩
   ·exact nomatch e
   ·injection e with e1 _;rw[e1]
 byValue:=fun k v h=>by
  rcases ZQ h with⟨i,t,rfl,rfl⟩|⟨x,t,rfl,rfl⟩<;>rfl
 pyHash:=fun hv h=>by
  rcases ZQ hv with⟨i,t,rfl,rfl⟩|⟨x,t,rfl,rfl⟩
  ·exact wpAny_pyHash_int h
  ·exact wpAny_pyHash_str h
 eqBool:=fun hu hv h=>by
  rcases ZQ hu with⟨i,t,rfl,rfl⟩|⟨x,t,rfl,rfl⟩
  ·rcases ZQ hv with⟨j,u,rfl,rfl⟩|⟨y,u,rfl,rfl⟩
   ·rw[ZnY]at h;exact wpAny_eqBool_int h
   ·rw[Zn0]at h;exact SeqAt.EqAt.int_str i t y u _ _ _ _ h
  ·rcases ZQ hv with⟨j,u,rfl,rfl⟩|⟨y,u,rfl,rfl⟩
   ·rw[Zn1]at h;exact SeqAt.EqAt.str_int x t j u _ _ _ _ h
   ·rw[ZnZ]at h;exact wpAny_eqBool_str h
 «strs» :=fun k x t v h=>by
  rcases ZQ h with⟨i,u,rfl,e⟩|⟨y,u,rfl,e⟩
  ·exact nomatch e
  ·injection e with e1 _;subst e1;cases v<;>rfl
inductive V where
 |non|bl (b:Bool)|int (i:Int)|str (x:Str)|byt (b:Array UInt8)|flt (b:UInt64)|ref (a:Addr)|ty (n:String)
 deriving DecidableEq
noncomputable def ZY:V->ah->Prop
 |.non,u=>u=bE
 |.bl b,u=>u=iu b
 |.int i,u=>∃t,u=iU i t
 |.str x,u=>∃t,u=jZ x t
 |.byt b,u=>∃t,u=ah.bytes b t
 |.flt b,u=>∃t,u=ah.float b t
 |.ref a,u=>u=aA a
 |.ty n,u=>u=bL n
abbrev ZR:List V->List ah->Prop:=Paired ZY
theorem ZR.length(r:ZR xs us):xs.length=us.length:=Paired.length r
theorem ZR.get:∀{xs:List V}{us:List ah}{i:Nat}{x:V},ZR xs us->xs[i]?=some x->∃u,us[i]?=some u/\ZY x u
 |_,_,_,_,.nil,e=>by simp at e
 |_,_,0,_,.cons r _,e=>by simp at e;subst e;exact⟨_,rfl,r⟩
 |_,_,i+1,x,.cons _ t,e=>by
  obtain⟨u,h1,h2⟩:=ZR.get (i:=i) (x:=x) t (by simpa using e)
  exact⟨u,by simpa using h1,h2⟩
theorem ZR.set{x:V}{u:ah}(r:ZY x u):∀{xs:List V}{us:List ah}(i:Nat),ZR xs us->ZR (xs.set i x) (us.set i u)
 |_,_,_,.nil=>.nil
 |_,_,0,.cons _ t=>.cons r t
 |_,_,i+1,.cons q t=>.cons q (ZR.set r i t)
theorem ZR.append:∀{xs ys:List V}{us ws:List ah},ZR xs us->ZR ys ws->ZR (xs++ys) (us++ws)
 |_,_,_,_,.nil,s=>s
 |_,_,_,_,.cons r t,s=>.cons r (ZR.append t s)
theorem ZR.take:∀{xs:List V}{us:List ah}(n:Nat),ZR xs us->ZR (xs.take n) (us.take n)
 |_,_,0,_=>.nil
 |_,_,_+1,.nil=>.nil
 |_,_,n+1,.cons r t=>.cons r (ZR.take n t)
theorem ZR.drop:∀{xs:List V}{us:List ah}(n:Nat),ZR xs us->ZR (xs.drop n) (us.drop n)
 |_,_,0,r=>r
 |_,_,_+1,.nil=>.nil
 |_,_,n+1,.cons _ t=>ZR.drop n t
def Zn2:Option V->Option ah->Prop
 |some v,some u=>ZY v u
 |none,none=>True
 |_,_=>False
def KV{κ:Type}:List (κ×V)->List (κ×ah)->Prop:=Paired fun(p:κ×V) (q:κ×ah)=>p.1=q.1/\ZY p.2 q.2
noncomputable def kV:Key->V
 |.inl i=>.int i
 |.inr x=>.str x
inductive HO where
 |lst (xs:List V)
 |tup (xs:List V)
 |dK (kvs:List (Key×V))|dT (kvs:List (List Key×V))|dU (kvs:List (List (List Key)×V))
 |set (S:Int->Bool) (n:Nat)
 |ins (C dx:Addr) (fs:List (Str×V))
 |own (x:Addr)
 |xd (fs:List (Str×V))
 |met (f x:Addr)
 |rng (lo hi:Int)
 |frz (o:Obj) (u:HO)
 |tbl (ps:Array ah)
 |ext (φ:Heap->Prop)
noncomputable abbrev Hp:=Addr->Option HO
noncomputable def upd(H:Hp)(a:Addr)(o:HO):Hp:=fun b=>if b=a then some o else H b
theorem Zp:upd H a o a=some o:=by unfold upd;rw[if_pos rfl]
theorem Zs(h:b≠a):upd H a o b=H b:=by unfold upd;rw[if_neg h]
theorem ZN{H:Hp}(h:H a=some o)(h':H b=none):a≠b:=by
 intro e;subst e;rw[h]at h';cases h'
def Zn3(H:Hp)(ks:List (List Key))(b:Addr):Prop:=∃cs:List Addr,H b=some (.tup (cs.map V.ref))/\Paired (fun(k:List Key) (c:Addr)=>H c=some (.tup (k.map kV))) ks cs
section
variable (P:cF)(w:df)
def Za5(H:Hp)(h:Heap)(a:Addr):HO->Prop
 |.lst xs=>xs.length<=sizeLine/\∃(its:List ah) (n:Nat),ZR xs its/\h.get? a=some {cls:=.type "list",data:=.seq its.toArray n}
 |.tup xs=>xs.length<=sizeLine/\∃its:List ah,ZR xs its/\lx h a its.toArray
 |.dK kvs=>kvs.length<=sizeLine/\(a==sysModules)=false/\∃vs,KV kvs vs/\h.DictOf (Zf0 P w) a vs
 |.dT kvs=>kvs.length<=sizeLine/\(a==sysModules)=false/\∃xs:List (List Key×Addr×ah),
   Paired (fun(p:List Key×V) (q:List Key×Addr×ah)=>p.1=q.1/\H q.2.1=some (.tup (p.1.map kV))/\ZY p.2 q.2.2) kvs xs/\
   ∃o es ep,h.get? a=some o/\o.ExactDict/\o.data=.dict es ep/\es.toList=xs.map (entryOfKey (tupleKind (Zf0 P w)))/\(xs.map (·.1)).Nodup
 |.dU kvs=>kvs.length<=sizeLine/\(a==sysModules)=false/\∃xs:List (List (List Key)×Addr×ah),
   Paired (fun(p:List (List Key)×V) (q:List (List Key)×Addr×ah)=>p.1=q.1/\Zn3 H p.1 q.2.1/\ZY p.2 q.2.2) kvs xs/\
   ∃o es ep,h.get? a=some o/\o.ExactDict/\o.data=.dict es ep/\es.toList=xs.map (entryOfKey (Zj6 (Zf0 P w)))/\(xs.map (·.1)).Nodup
 |.set S n=>h.SetOf (intKind P w) a S n
 |.ins C dx fs=>H dx=some (.own a)/\fs.length<=1000/\dx≠a/\h.get? a=some (PySem.W.instObj C dx)/\
   ∃mA,h.Ns1 dx mA/\(∀f,Zn2 (fs.lookup f) (mA f))/\PySem.Within mA (fs.map (·.1))
 |.own _=>∃o,h.get? a=some o
 |.xd fs=>∃mA,h.Ns1 a mA/\∀f,Zn2 (fs.lookup f) (mA f)
 |.rng lo hi=>∃t u v,h.get? a=some {cls:=.type "range",data:=.fields #[.int lo t,.int hi u,.int 1 v]}
 |.frz o u=>h.get? a=some o/\Za5 H h a u
 |.tbl ps=>h.get? a=some {cls:=.none,data:=.fields ps}/\TriplesOk ps.toList/\∀pos cv,codeAmong pos ps.toList=some cv->∃c' o vs q t,cv=.ref c'/\H c'=some (.own a)/\h.get? c'=some o/\o.data=.fields vs/\vs[1]?=some (.str q t)
 |.met f x=>h.get? a=some (PySem.W.methodObj (.ref f) (.ref x))
 |.ext φ=>φ h/\(∃o,h.get? a=some o)/\∀h1 h2:Heap,φ h1->(∀o,h1.get? a=some o->h2.get? a=some o)->φ h2
def HOk(H:Hp)(h:Heap):Prop:=∀a o,H a=some o->Za5 P w H h a o
end
section
variable {a:Addr}
theorem Za5.lt(x:Za5 P w H h a o):a<h.objs.size:=by
 cases o with
 |lst xs=>obtain⟨_,_,_,_,e⟩:=x;exact Hz e
 |tup xs=>obtain⟨_,_,_,p⟩:=x;exact p.lt
 |dK kvs=>obtain⟨_,_,_,_,o,_,_,e,_⟩:=x;exact Hz e
 |dT kvs=>obtain⟨_,_,_,_,o,_,_,e,_⟩:=x;exact Hz e
 |dU kvs=>obtain⟨_,_,_,_,o,_,_,e,_⟩:=x;exact Hz e
 |set S n=>obtain⟨o,_,_,_,e,_⟩:=x;exact Hz e
 |ins C dx fs=>obtain⟨_,_,_,e,_⟩:=x;exact Hz e
 |own y=>obtain⟨_,e⟩:=x;exact Hz e
 |xd fs=>obtain⟨_,⟨_,_,_,e,_⟩,_⟩:=x;exact Hz e
 |rng lo hi=>obtain⟨_,_,_,e⟩:=x;exact Hz e
 |frz ob u=>obtain⟨e,_⟩:=x;exact Hz e
 |tbl ps=>exact Hz x.1
 |met f y=>exact Hz (show h.get? a=some _ from x)
 |ext φ=>obtain⟨_,⟨_,e⟩,_⟩:=x;exact Hz e
theorem Paired.mapP{α β:Type}{F G:α->β->Prop}:∀{l₁:List α}{l₂:List β},Paired F l₁ l₂->(∀a b,F a b->G a b)->Paired G l₁ l₂
 |_,_,.nil,_=>.nil
 |_,_,.cons r t,f=>.cons (f _ _ r) (Paired.mapP t f)
theorem Za5.stay(x:Za5 P w H h a o)(k:∀b u,(b=a\/H b=some (.own a))->h.get? b=some u->h'.get? b=some u)(ho:∀b,H b=some (.own a)->H' b=some (.own a))(ht:∀b xs,H b=some (.tup xs)->H' b=some (.tup xs)):Za5 P w H' h' a o:=by
 induction o with
 |lst xs=>obtain⟨z,its,n,r,e⟩:=x;exact⟨z,its,n,r,k _ _ (.inl rfl) e⟩
 |tup xs=>obtain⟨z,its,r,ob,e,c⟩:=x;exact⟨z,its,r,ob,k _ _ (.inl rfl) e,c⟩
 |dK kvs=>obtain⟨z,y,vs,r,ob,es,ep,e,c⟩:=x;exact⟨z,y,vs,r,ob,es,ep,k _ _ (.inl rfl) e,c⟩
 |dT kvs=>
  obtain⟨z,y,xs,r,ob,es,ep,e,c⟩:=x;exact⟨z,y,xs,Paired.mapP r fun p q z=>⟨z.1,ht _ _ z.2.1,z.2.2⟩,ob,es,ep,k _ _ (.inl rfl) e,c⟩
 |dU kvs=>
  obtain⟨z,y,xs,r,ob,es,ep,e,c⟩:=x;exact⟨z,y,xs,Paired.mapP r fun p q z=>⟨z.1,let ⟨cs,z1,z2⟩:=z.2.1;⟨cs,ht _ _ z1,Paired.mapP z2 fun _ _ t=>ht _ _ t⟩,z.2.2⟩,ob,es,ep,k _ _ (.inl rfl) e,c⟩
 |set S n=>obtain⟨ob,es,ep,t,e,c⟩:=x;exact⟨ob,es,ep,t,k _ _ (.inl rfl) e,c⟩
 |ins C dx fs=>
  obtain⟨d,z,ne,e,mA,⟨od,es,ep,e2,c⟩,r⟩:=x;exact⟨ho _ d,z,ne,k _ _ (.inl rfl) e,mA,⟨od,es,ep,k _ _ (.inr d) e2,c⟩,r⟩
 |own y=>obtain⟨ob,e⟩:=x;exact⟨ob,k _ _ (.inl rfl) e⟩
 |xd fs=>obtain⟨mA,⟨od,es,ep,e,c⟩,r⟩:=x;exact⟨mA,⟨od,es,ep,k _ _ (.inl rfl) e,c⟩,r⟩
 |rng lo hi=>obtain⟨t,u,v,e⟩:=x;exact⟨t,u,v,k _ _ (.inl rfl) e⟩
 |frz ob u ih=>obtain⟨e,q⟩:=x;exact⟨k _ _ (.inl rfl) e,ih q⟩
 |tbl ps=>
  exact⟨k a _ (.inl rfl) x.1,x.2.1,fun pos cv e=>let ⟨c',ob,vs,q,t,e1,e2,e3,e4⟩:=x.2.2 pos cv e;⟨c',ob,vs,q,t,e1,ho _ e2,k _ _ (.inr e2) e3,e4⟩⟩
 |met f y=>
  have e:h.get? a=some (PySem.W.methodObj (.ref f) (.ref y)):=x;show h'.get? a=some (PySem.W.methodObj (.ref f) (.ref y));exact k a _ (.inl rfl) e
 |ext φ=>obtain⟨p,⟨o,e⟩,st⟩:=x;exact⟨st _ _ p fun o q=>k _ _ (.inl rfl) q,⟨o,k _ _ (.inl rfl) e⟩,st⟩
theorem HOk.lt(x:HOk P w H h)(e:H a=some o):a<h.objs.size:=(x a o e).lt
theorem HOk.fresh(x:HOk P w H h)(e:h.objs.size<=a):H a=none:=by
 cases q:H a with
 |none=>rfl
 |some u=>exact absurd (ay (x.lt q) e) (bU _)
theorem HOk.kept(x:HOk P w H h)(k:∀b u,h.get? b=some u->h'.get? b=some u):HOk P w H h':=fun a o e=>
 (x a o e).stay (fun b u _ q=>k b u q) (fun _ q=>q) fun _ _ q=>q
theorem HOk.laid(x:HOk P w H h)(k:∀b u,h.get? b=some u->h'.get? b=some u)(hp:h.objs.size<=a)(new:Za5 P w (upd H a o) h' a o):HOk P w (upd H a o) h':=fun b u e=>by
 have hn:=x.fresh hp;by_cases hb:b=a
 ·subst hb;rw[Zp]at e;cases e;exact new
 ·rw[Zs hb]at e;exact(x b u e).stay (fun c v _ q=>k c v q) (fun c q=>by rw[Zs (ZN q hn)];exact q) fun c xs q=>by rw[Zs (ZN q hn)];exact q
end
noncomputable def Rd(H:Hp)(a:Addr)(u:HO):Prop:=H a=some u\/∃o,H a=some (.frz o u)
theorem Rd.ok(r:Rd H a u)(x:HOk P w H h):Za5 P w H h a u:=by
 rcases r with r|⟨o,r⟩
 ·exact x a u r
 ·obtain⟨_,q⟩:=x a _ r;exact q
noncomputable def Mut:Option HO->Prop
 |some (.lst _)=>True
 |some (.dK _)=>True
 |some (.dT _)=>True
 |some (.dU _)=>True
 |some (.set _ _)=>True
 |some (.ins _ _ _)=>True
 |some (.ext _)=>True
 |_=>False
theorem HOk.write(ok:HOk P w H h)(mu:Mut (H x))(he:e=x\/H e=some (.own x))(k:∀b u,b≠e->h.get? b=some u->h'.get? b=some u)(heo:∃u,h'.get? e=some u)(new:Za5 P w (upd H x o') h' x o'):HOk P w (upd H x o') h':=fun b u q=>by
 have nown:∀c y,H c=some (.own y)->c≠x:=fun c y r z=>by subst z;rw[r]at mu;exact mu
 have ntup:∀c xs,H c=some (.tup xs)->c≠x:=fun c xs r z=>by subst z;rw[r]at mu;exact mu
 by_cases hb:b=x
 ·subst hb;rw[Zp]at q;cases q;exact new
 ·rw[Zs hb]at q;by_cases hbe:b=e
  ·have q':H b=some (.own x):=by
    rcases he with z|z
    ·exact absurd (hbe.trans z) hb
    ·rw[hbe];exact z
   rw[q]at q';cases q';obtain⟨v,hv⟩:=heo;exact⟨v,by rw[hbe];exact hv⟩
  ·refine(ok b u q).stay (fun c v hc r=>k c v ?_ r) (fun c r=>by rw[Zs (nown c b r)];exact r) fun c xs r=>by rw[Zs (ntup c xs r)];exact r
   rcases hc with rfl|hc
   ·exact hbe
   ·rintro rfl;rcases he with z|z
    ·exact nown c b hc z
    ·rw[hc]at z;cases z;exact hb rfl
structure Un(fs ex:List Addr) (H H':Hp) (h h':Heap):Prop where
 keep:∀b o,h.get? b=some o->H b=none->b∉fs->b∉ex->h'.get? b=some o
 slot:∀b o,h.get? b=some o->H b=none->b∈fs->b∉ex->∃sl,h'.get? b=some {o with slots:=sl}
 free:∀b o,h.get? b=some o->H b=none->b∉ex->H' b=none
 there:∀b o,h.get? b=some o->b∉ex->∃o',h'.get? b=some o'
 tups:∀b xs,H b=some (.tup xs)->H' b=some (.tup xs)
 frzs:∀b o u,H b=some (.frz o u)->H' b=some (.frz o u)
 tbls:∀b ps,H b=some (.tbl ps)->∃more,H' b=some (.tbl (ps++more))
theorem Un.any(u:Un fs ex H H1 h h1)(q:h.get? b=some ob)(n:H b=none)(hx:b∉ex):∃sl,h1.get? b=some {ob with slots:=sl}:=by
 by_cases hb:b∈fs
 ·exact u.slot b ob q n hb hx
 ·exact⟨ob.slots,u.keep b ob q n hb hx⟩
theorem Un.kept(k:∀b u,h.get? b=some u->h'.get? b=some u):Un fs ex H H h h':=
 ⟨fun b ob q _ _ _=>k b ob q,fun b ob q _ _ _=>⟨ob.slots,k b ob q⟩,fun _ _ _ n _=>n,fun b ob q _=>⟨ob,k b ob q⟩,fun _ _ q=>q,fun _ _ _ q=>q,fun _ ps q=>⟨#[],by rw[q];simp⟩⟩
theorem Un.refl:Un fs ex H H h h:=Un.kept fun _ _ q=>q
theorem Un.laid(k:∀b u,h.get? b=some u->h'.get? b=some u)(hp:h.objs.size<=a)(hn:H a=none):Un fs ex H (upd H a o) h h' where
 keep:=fun b u q _ _ _=>k b u q
 slot:=fun b u q _ _ _=>⟨u.slots,k b u q⟩
 free:=fun b u q n _=>by rw[Zs (bj (ay (Hz q) hp))];exact n
 there:=fun b u q _=>⟨u,k b u q⟩
 tups:=fun b xs q=>by rw[Zs (ZN q hn)];exact q
 frzs:=fun b u xs q=>by rw[Zs (ZN q hn)];exact q
 tbls:=fun b ps q=>⟨#[],by rw[Zs (ZN q hn),q];simp⟩
theorem Un.write(mu:Mut (H x))(he:e=x\/H e=some (.own x))(k:∀b u,b≠e->h.get? b=some u->h'.get? b=some u)(heo:∃u,h'.get? e=some u):Un fs ex H (upd H x o) h h':=by
 have hx:∀b,H b=none->b≠x:=fun b n z=>by subst z;rw[n]at mu;exact mu
 have hb:∀b,H b=none->b≠e:=fun b n z=>by
  subst z;rcases he with r|r
  ·exact hx b n r
  ·rw[n]at r;cases r
 have hm:∀b u,H b=some u->¬Mut (some u)->b≠x:=fun b u q nm z=>by subst z;rw[q]at mu;exact nm mu
 refine⟨fun b u q n _ _=>k b u (hb b n) q,fun b u q n _ _=>⟨u.slots,k b u (hb b n) q⟩,fun b u q n _=>by rw[Zs (hx b n)];exact n,fun b u q _=>?_,
  fun b xs q=>by rw[Zs (hm b _ q fun z=>z)];exact q,fun b u xs q=>by rw[Zs (hm b _ q fun z=>z)];exact q,fun b ps q=>⟨#[],by rw[Zs (hm b _ q fun z=>z),q];simp⟩⟩
 by_cases hbe:b=e
 ·subst hbe;exact heo
 ·exact⟨u,k b u hbe q⟩
noncomputable def trk(h:Heap)(H:Hp):List Addr:=(aJ h.objs.size).filter fun a=>(H a).isSome
def Zj4(h:Heap)(H:Hp):Heap:=PySem.W.hideAll h (trk h H)
theorem ZhX(h:Heap)(H:Hp):(Zj4 h H).objs.size=h.objs.size:=PySem.W.hideAll_size _ _
theorem Zgu(e:h.get? b=some o)(n:H b=none):(Zj4 h H).get? b=some o:=
 PySem.W.hideAll_get _ e fun hm=>by
  have q:(H b).isSome=true:=(hU.mp hm).2;rw[n]at q;simp at q
theorem ZhY(e:(Zj4 h H).get? b=some o):h.get? b=some o/\H b=none:=by
 have e':h.get? b=some o:=PySem.W.of_hideAll (trk h H) e;refine⟨e',?_⟩;cases q:H b with
 |none=>rfl
 |some x=>
  have hm:b∈trk h H:=hU.mpr ⟨d8.mpr (Hz e'),by simp[q]⟩
  have z:(Zj4 h H).get? b=none:=PySem.W.hideAll_none (trk h H) hm;rw[z]at e;cases e
structure Mod(K:Fg) (mg:Str->Option ah) (base:Heap):Prop where
 kin:K.In base
 glob:base.Ns ai mg
 blt:∃mb,base.Ns kD mb/\∀x:Str,x≠"__name__"->mb x=bB x
 nolimit:base.NoLimit
structure Cx where
 prog:cF
 w:df
 K:Fg
 mg:Str->Option ah
 base:Heap
 A:dc
 N:List Str
 s₀:aC
 H₀:Hp
 env:Env
 outer:List Env
 stack:List Env
 ex:List Addr
 fn:Str->Bool
 calm:Bool
 pn:Pn
 xe:Vp
 fxs:Option (List Bool×List (Option V))
noncomputable def frs(l:List Env):List Addr:=l.filterMap (·.frame)
abbrev Cx.fs(X:Cx):List Addr:=frs X.outer
noncomputable def Vis(sc:jD)(x:Str):Prop:=sc.names.lookup x=some .local\/sc.names.lookup x=some .cell\/sc.names.lookup x=some .free
noncomputable def Loc(sc:jD)(x:Str):Prop:=sc.names.lookup x=some .local\/sc.names.lookup x=some .cell
noncomputable def ZtQ(env:Env)(h:Heap)(m:Str->Option ah)(x:Str)(u:ah):Prop:=
 (env.kindOf x=some .local/\m x=some u)\/((env.kindOf x=some .cell\/env.kindOf x=some .free)/\∃c,env.cells.lookup x=some c/\h.IsCell c (some u))
noncomputable def TbP(K:Fg)(P:Addr):Prop:=∃(c:Addr) (o:Obj) (vs:Array ah),K.lookup c=some o/\o.cls=.type "code"/\o.data=.fields vs/\vs[11]?=some (.ref P)
def Tbs(K:Fg)(H:Hp):Prop:=∀P,TbP K P->∃ps,H P=some (.tbl ps)
theorem Tbs.un{K:Fg}(t:Tbs K H)(u:Un fs ex H H' h h'):Tbs K H':=fun P z=>let ⟨ps,e⟩:=t P z;let ⟨m,e'⟩:=u.tbls P ps e;⟨_,e'⟩
structure Cx.Ok(X:Cx):Prop where
 mod:Mod X.K X.mg X.base
 kind:X.env.scope.kind=.function
 glob:X.env.globals=ai
 blt:X.env.builtins=kD
 above:X.s₀.heap.objs.size<=X.env.locals
 inj:∀x y c,X.env.cells.lookup x=some c->X.env.cells.lookup y=some c->x=y
 has:∀x,(X.env.kindOf x=some .cell\/X.env.kindOf x=some .free)->∃c,X.env.cells.lookup x=some c
 cab:∀x c,X.fn x=true->X.env.cells.lookup x=some c->X.s₀.heap.objs.size<=c
 hd:X.calm=true->X.A.handled=none
 frames:X.A.frames=some X.stack
 stk:X.stack=X.outer\/(X.stack=X.env::X.outer/\X.env.frame=some X.env.locals)
 exf:∀b∈X.ex,b≠X.env.locals/\∀x c,X.env.cells.lookup x=some c->c≠b
 bs:∀b o,X.base.get? b=some o->X.s₀.heap.get? b=some o/\X.H₀ b=none
 bsz:X.base.objs.size<=X.s₀.heap.objs.size
 noex:∀b o,X.base.get? b=some o->b∉X.ex
 exfs:∀b∈X.ex,b∉X.fs
 funs:X.s₀.heap.FunFrames X.base X.outer
 frf:∀b∈X.fs,X.H₀ b=none
 tb:Tbs X.K X.H₀
noncomputable def Qd(A:dc)(H:Hp):Prop:=A.handled=none\/∃ea oe u vs,A.handled=some (.ref ea)/\H ea=some (.frz oe u)/\oe.data=.fields vs/\vs[2]?=some .none
theorem Qd.mono(q:Qd A H)(k:∀b o u,H b=some (.frz o u)->H' b=some (.frz o u)):Qd A H':=by
 rcases q with q|⟨ea,oe,u,vs,e1,e2,e3,e4⟩
 ·exact .inl q
 ·exact .inr ⟨ea,oe,u,vs,e1,k _ _ _ e2,e3,e4⟩
noncomputable def Cx.may(X:Cx)(i:Nat):Bool:=match X.fxs with|none=>true|some (W,_)=>W[i]? == some true
noncomputable def Cx.Fx(X:Cx)(σ:List (Option V)):Prop:=∀W σ0,X.fxs=some (W,σ0)->∀j:Nat,W[j]?=some false->σ[j]?=σ0[j]?
theorem Cx.Fx.free {X:Cx}(h:X.fxs=none):X.Fx σ:=fun W σ0 e=>by rw[h]at e;cases e
theorem Cx.Fx.set {X:Cx}(h:X.Fx σ)(m:X.may i=true):X.Fx (σ.set i v):=fun W σ0 e j hj=>by
 have ne:i≠j:=fun z=>by
  unfold Cx.may at m;rw[e,z]at m;have m':(W[j]? == some true)=true:=m;rw[hj]at m';cases m'
 rw[aG ne];exact h W σ0 e j hj
structure Inv(X:Cx) (pins:Pn) (σ:List (Option V)) (H:Hp) (s:aC):Prop where
 ok:X.Ok
 os:s.os=X.s₀.os
 bare:d6 s.gens
 base:Un X.fs X.ex X.H₀ H X.s₀.heap s.heap
 loc:∃m,s.heap.Ns X.env.locals m/\∀(i:Nat)(x:Str)(v:V),X.N[i]?=some x->σ[i]?=some (some v)->Vis X.env.scope x->∃u,ZY v u/\ZtQ X.env s.heap m x u
 cell:∀x c,X.env.cells.lookup x=some c->∃v,s.heap.IsCell c v
 free:H X.env.locals=none
 freeC:∀x c,X.env.cells.lookup x=some c->H c=none
 pin:∀p∈X.pn++pins,s.heap.get? p.1=some p.2/\H p.1=none/\p.1≠X.env.locals/\p.1∉X.fs/\∀v,p.2.data≠ .cell v
 hok:HOk X.prog X.w H s.heap
 len:σ.length=X.N.length
 qd:Qd X.A H
 fx:X.Fx σ
section
variable {X:Cx}
theorem Cx.Ok.nofr (ok:X.Ok)(e:X.base.get? b=some o):b∉X.fs:=fun hb=>by
 have:=(ok.funs.mem hb).1
 rw[e]at this;cases this
theorem Inv.bs(I:Inv X pins σ H s):∀b o,X.base.get? b=some o->s.heap.get? b=some o/\H b=none:=fun b o e=>
 ⟨I.base.keep b o (I.ok.bs b o e).1 (I.ok.bs b o e).2 (I.ok.nofr e) (I.ok.noex b o e),I.base.free b o (I.ok.bs b o e).1 (I.ok.bs b o e).2 (I.ok.noex b o e)⟩
theorem Inv.qh(I:Inv X pins σ H s):DQ.Zbq X.A s.heap:=by
 rcases I.qd with q|⟨ea,oe,u,vs,e1,e2,e3,e4⟩
 ·exact .inl q
 ·exact .inr ⟨ea,oe,vs,e1,(I.hok _ _ e2).1,e3,e4⟩
theorem Inv.bk(I:Inv X pins σ H s):∀b o,X.base.get? b=some o->s.heap.get? b=some o:=fun b o e=>(I.bs b o e).1
theorem Inv.mod(I:Inv X pins σ H s):Mod X.K X.mg X.base:=I.ok.mod
theorem Inv.kIn(I:Inv X pins σ H s):X.K.In s.heap:=I.ok.mod.kin.keeps I.bk
theorem Inv.fr(I:Inv X pins σ H s):∃m,Fr X.base X.env.locals s.heap m:=
 let ⟨m,hn,_⟩:=I.loc
 ⟨m,hn,I.bk,aE I.ok.bsz I.ok.above⟩
theorem Inv.lt(I:Inv X pins σ H s):X.env.locals<s.heap.objs.size:=let ⟨_,hn,_⟩:=I.loc;hn.lt
theorem Inv.sz(I:Inv X pins σ H s):X.s₀.heap.objs.size<=s.heap.objs.size:=aE I.ok.above (gp I.lt)
theorem Inv.nofs(I:Inv X pins σ H s){a:Addr}(h:s.heap.objs.size<=a):a∉X.fs:=fun hb=>by
 obtain⟨_,o,ho,_⟩:=I.ok.funs.mem hb;exact absurd (ay (Hz ho) (aE I.sz h)) (bU _)
theorem Inv.cne(I:Inv X pins σ H s):∀x c,X.env.cells.lookup x=some c->c≠X.env.locals:=fun x c e z=>by
 obtain⟨v,o,ho,hd⟩:=I.cell x c e;obtain⟨m,⟨o',es,ep,ho',hd',_⟩,_⟩:=I.loc;rw[z,ho']at ho;cases ho;rw[hd']at hd;cases hd
theorem Inv.funs(I:Inv X pins σ H s):s.heap.FunFrames X.base X.outer:=by
 have all:∀(l:List Env),(∀b∈frs l,b∈X.fs)->X.s₀.heap.FunFrames X.base l->s.heap.FunFrames X.base l:=by
  intro l
  induction l with
  |nil=>intro _ _;trivial
  |cons env r ih=>
   intro hs hl;obtain⟨hk,⟨L,o,hf,hn,ho,hd⟩,hr⟩:=hl;have hL:L∈X.fs:=hs L (by unfold frs;rw[ck,hf];exact aO)
   obtain⟨sl,e⟩:=I.base.slot L o ho (I.ok.frf L hL) hL fun z=>I.ok.exfs L z hL;exact⟨hk,⟨L,_,hf,hn,e,hd⟩,ih (fun b hb=>hs b (by unfold frs;rw[ck,hf];exact ak _ hb)) hr⟩
 exact all X.outer (fun _ hb=>hb) I.ok.funs
theorem Inv.stack(I:Inv X pins σ H s):s.heap.FunFrames X.base X.stack:=by
 rcases I.ok.stk with e|⟨e,hf⟩
 ·rw[e];exact I.funs
 ·rw[e];obtain⟨m,hn,_⟩:=I.loc;refine .cons (by rw[I.ok.kind];decide) hf hn ?_ I.funs
  exact ft (aE I.ok.bsz I.ok.above)
theorem Inv.stkSub(I:Inv X pins σ H s):∀b∈frs X.stack,b∈X.env.locals::X.fs:=fun b hb=>by
 rcases I.ok.stk with e|⟨e,hf⟩
 ·rw[e]at hb;exact ak _ hb
 ·rw[e]at hb;unfold frs at hb;rw[ck,hf]at hb;exact hb
theorem Inv.stkFree(I:Inv X pins σ H s):∀b∈frs X.stack,H b=none:=fun b hb=>by
 rcases aK.mp (I.stkSub b hb)with e|hb
 ·rw[e];exact I.free
 ·obtain⟨_,o,ho,_⟩:=I.ok.funs.mem hb;exact I.base.free b o ho (I.ok.frf b hb) fun z=>I.ok.exfs b z hb
theorem Inv.step{ch:List Addr}(I:Inv X pins σ H s)(hch:∀b∈ch,(b∈X.ex\/X.s₀.heap.objs.size<=b)/\b≠X.env.locals/\(∀x c,X.env.cells.lookup x=some c->c≠b)/\∀p∈X.pn++pins,p.1≠b)(keep:∀b o,b≠X.env.locals->b∉X.fs->b∉ch->s.heap.get? b=some o->H b=none->h'.get? b=some o)(slot:∀b o,b≠X.env.locals->b∈X.fs->b∉ch->s.heap.get? b=some o->H b=none->∃sl,h'.get? b=some {o with slots:=sl})(free:∀b o,b∉ch->s.heap.get? b=some o->H b=none->H' b=none)(there:∀b o,b∉ch->s.heap.get? b=some o->∃o',h'.get? b=some o')(tups:∀b xs,H b=some (.tup xs)->H' b=some (.tup xs))(frzs:∀b o u,H b=some (.frz o u)->H' b=some (.frz o u))(tbls:∀b ps,H b=some (.tbl ps)->∃more,H' b=some (.tbl (ps++more)))(ns:∀m,s.heap.Ns X.env.locals m->h'.Ns X.env.locals m)(hok:HOk X.prog X.w H' h')(hg:d6 g'):Inv X pins σ H' {s with heap:=h',gens:=g',drawn:=d',toks:=t'}:=by
 have neL:∀b o,X.s₀.heap.get? b=some o->b≠X.env.locals:=fun b o e=>bj (ay (Hz e) I.ok.above);have neC:∀b o,X.s₀.heap.get? b=some o->b∉X.ex->b∉ch:=fun b o e hx hb=>by
  rcases(hch b hb).1 with z|z
  ·exact hx z
  ·exact absurd (ay (Hz e) z) (bU _)
 have cellK:∀x c,X.env.cells.lookup x=some c->∀v,s.heap.IsCell c v->h'.IsCell c v:=fun x c e v ⟨o,ho,hd⟩=>by
  have nch:c∉ch:=fun z=>(hch c z).2.2.1 x c e rfl;by_cases hc:c∈X.fs
  ·obtain⟨sl,q⟩:=slot c o (I.cne x c e) hc nch ho (I.freeC x c e);exact⟨_,q,hd⟩
  ·exact⟨o,keep c o (I.cne x c e) hc nch ho (I.freeC x c e),hd⟩
 refine⟨I.ok,I.os,hg,⟨fun b o e n hb hx=>?_,fun b o e n hb hx=>?_,fun b o e n hx=>?_,fun b o e hx=>?_,fun b xs e=>tups b xs (I.base.tups b xs e),fun b o xs e=>frzs b o xs (I.base.frzs b o xs e),fun b ps e=>?_⟩,?_,fun x c e=>?_,?_,fun x c e=>?_,fun p hp=>?_,hok,I.len,I.qd.mono frzs,I.fx⟩
 ·exact keep b o (neL b o e) hb (neC b o e hx) (I.base.keep b o e n hb hx) (I.base.free b o e n hx)
 ·obtain⟨sl,e1⟩:=I.base.slot b o e n hb hx;obtain⟨sl',e2⟩:=slot b _ (neL b o e) hb (neC b o e hx) e1 (I.base.free b o e n hx);exact⟨sl',e2⟩
 ·obtain⟨o',e1⟩:=I.base.there b o e hx;exact free b o' (neC b o e hx) e1 (I.base.free b o e n hx)
 ·obtain⟨o',e1⟩:=I.base.there b o e hx;exact there b o' (neC b o e hx) e1
 ·obtain⟨m1,e1⟩:=I.base.tbls b ps e;obtain⟨m2,e2⟩:=tbls b _ e1;exact⟨m1++m2,by rw[e2,iw]⟩
 ·obtain⟨m,hn,hl⟩:=I.loc;refine⟨m,ns m hn,fun i x v e1 e2 e3=>?_⟩;obtain⟨u,r,l⟩:=hl i x v e1 e2 e3;refine⟨u,r,?_⟩;rcases l with l|⟨k,c,e,z⟩
  ·exact .inl l
  ·exact .inr ⟨k,c,e,cellK x c e _ z⟩
 ·obtain⟨v,z⟩:=I.cell x c e;exact⟨v,cellK x c e v z⟩
 ·obtain⟨m,⟨o,_,_,ho,_⟩,_⟩:=I.loc;exact free _ o (fun z=>(hch _ z).2.1 rfl) ho I.free
 ·obtain⟨v,o,ho,hd⟩:=I.cell x c e;exact free c o (fun z=>(hch c z).2.2.1 x c e rfl) ho (I.freeC x c e)
 ·obtain⟨e,n,ne,nf,d⟩:=I.pin p hp;have nch:p.1∉ch:=fun z=>(hch p.1 z).2.2.2 p hp rfl;exact⟨keep p.1 p.2 ne nf nch e n,free p.1 p.2 nch e n,ne,nf,d⟩
theorem Inv.un(I:Inv X pins σ H s)(u:Un X.fs [] H H' s.heap h')(hok:HOk X.prog X.w H' h'):Inv X pins σ H' {s with heap:=h',toks:=t'}:=by
 obtain⟨m,⟨o,es,ep,ho,r⟩,_⟩:=id I.loc;obtain⟨sl,hL⟩:=u.any ho I.free (by simp)
 exact I.step (g':=s.gens) (d':=s.drawn) (ch:=[]) (fun _ z=>nomatch z) (fun b o _ hb _ e n=>u.keep b o e n hb (by simp)) (fun b o _ hb _ e n=>u.slot b o e n hb (by simp)) (fun b o _ e n=>u.free b o e n (by simp)) (fun b o _ e=>u.there b o e (by simp)) u.tups u.frzs u.tbls (fun m' hm=>by
  obtain⟨o',es',ep',ho',r'⟩:=hm;rw[ho]at ho';cases ho';exact⟨_,es',ep',hL,r'⟩) hok I.bare
theorem Inv.call(I:Inv X pins σ H s)(u:Un (frs X.stack) ch H H' s.heap h')(hok:HOk X.prog X.w H' h')(hg:d6 g')(hch:∀b∈ch,(b∈X.ex\/X.s₀.heap.objs.size<=b)/\b≠X.env.locals/\(∀x c,X.env.cells.lookup x=some c->c≠b)/\∀p∈X.pn++pins,p.1≠b):Inv X pins σ H' {s with heap:=h',gens:=g',drawn:=d',toks:=t'}:=by
 obtain⟨m,⟨o,es,ep,ho,r⟩,_⟩:=id I.loc;obtain⟨sl,hL⟩:=u.any ho I.free fun z=>(hch _ z).2.1 rfl;exact I.step (ch:=ch) hch (fun b o hL hb hc e n=>u.keep b o e n (fun z=>(aK.mp (I.stkSub b z)).elim hL hb) hc) (fun b o _ _ hc e n=>u.any e n hc) (fun b o hc e n=>u.free b o e n hc) (fun b o hc e=>u.there b o e hc) u.tups u.frzs u.tbls (fun m' hm=>by
  obtain⟨o',es',ep',ho',r'⟩:=hm;rw[ho]at ho';cases ho';exact⟨_,es',ep',hL,r'⟩) hok hg
theorem Inv.turned(I:Inv X pins σ H s)(k:∀b o,b≠it->s.heap.get? b=some o->h'.get? b=some o)(hn:H it=none)(hL:it≠X.env.locals)(h1:it∈X.ex\/X.s₀.heap.objs.size<=it)(h2:∀x c,X.env.cells.lookup x=some c->c≠it)(h3:∀p∈X.pn++pins,p.1≠it):Inv X pins σ H {s with heap:=h',toks:=t'}:=by
 have nit:∀b u,H b=some u->b≠it:=fun b u e z=>by rw[z,hn]at e;cases e
 refine I.step (g':=s.gens) (d':=s.drawn) (ch:=[it]) (fun b hb=>?_) (fun b o _ _ hc e _=>k b o (fun z=>hc (by simp[z])) e) (fun b o _ _ hc e _=>⟨o.slots,k b o (fun z=>hc (by simp[z])) e⟩) (fun _ _ _ _ n=>n)
  (fun b o hc e=>⟨o,k b o (fun z=>hc (by simp[z])) e⟩) (fun _ _ e=>e) (fun _ _ _ e=>e) (fun b ps e=>⟨#[],by rw[e];simp⟩) (fun m hm=>?_) (fun b u e=>?_) I.bare
 ·have e:b=it:=by simpa using hb
  subst e;exact⟨h1,hL,h2,h3⟩
 ·obtain⟨o,es,ep,ho,r⟩:=hm;exact⟨o,es,ep,k _ o (bJ hL) ho,r⟩
 ·refine(I.hok b u e).stay (fun c v hc q=>k c v ?_ q) (fun _ q=>q) fun _ _ q=>q;rcases hc with z|z
  ·rw[z];exact nit b u e
  ·exact nit c _ z
theorem Inv.tok(I:Inv X pins σ H s)(t:Nat):Inv X pins σ H {s with toks:=t}:=I.un (h':=s.heap) (t':=t) Un.refl I.hok
theorem Inv.kept(I:Inv X pins σ H s)(k:∀b u,s.heap.get? b=some u->h'.get? b=some u):Inv X pins σ H {s with heap:=h',toks:=t'}:=I.un (Un.kept k) (I.hok.kept k)
theorem Inv.laid(I:Inv X pins σ H s)(k:∀b u,s.heap.get? b=some u->h'.get? b=some u)(hp:s.heap.objs.size<=a)(new:Za5 X.prog X.w (upd H a o) h' a o):Inv X pins σ (upd H a o) {s with heap:=h',toks:=t'}:=I.un (Un.laid k hp (I.hok.fresh hp)) (I.hok.laid k hp new)
theorem Inv.write(I:Inv X pins σ H s)(mu:Mut (H x))(he:e=x\/H e=some (.own x))(k:∀b u,b≠e->s.heap.get? b=some u->h'.get? b=some u)(heo:∃u,h'.get? e=some u)(new:Za5 X.prog X.w (upd H x o) h' x o):Inv X pins σ (upd H x o) {s with heap:=h',toks:=t'}:=I.un (Un.write mu he k heo) (I.hok.write mu he k heo new)
theorem Inv.pins_of(I:Inv X pins σ H s)(h:∀p∈pins',s.heap.get? p.1=some p.2/\H p.1=none/\p.1≠X.env.locals/\p.1∉X.fs/\∀v,p.2.data≠ .cell v):Inv X pins' σ H s:=
 ⟨I.ok,I.os,I.bare,I.base,I.loc,I.cell,I.free,I.freeC,fun p hp=>(bC.mp hp).elim (fun z=>I.pin p (fA _ z)) (h p),I.hok,I.len,I.qd,I.fx⟩
theorem Zgv{N:List Str}(hN:N.Nodup){i:Nat}(a:N[i]?=some x)(b:N[j]?=some x):i=j:=by
 obtain⟨h1,e1⟩:=aj.mp a;obtain⟨h2,e2⟩:=aj.mp b;exact(List.getElem_inj hN).mp (e1.trans e2.symm)
theorem Zdh(I:Inv X pins σ H s)(hN:X.N.Nodup)(hi:X.N[i]?=some x)(hx:Loc X.env.scope x)(hm:X.may i=true)(r:ZY v u)(h:∀s',Inv X pins (σ.set i (some v)) H s'->(∃a,eG a s.heap s'.heap/\(a=X.env.locals\/X.env.cells.lookup x=some a))->Q () s')(hf:X.fn x=true\/X.env.scope.names.lookup x=some .local:=by first|exact .inl rfl|exact .inr rfl|assumption):wpAny M A (storeName X.env x u) Q E s:=by
 obtain⟨m,hn,hl⟩:=id I.loc;have hcls:(X.env.scope.kind == .class||(X.env.scope.kind == .module&&X.env.locals != X.env.globals))=false:=by rw[I.ok.kind];rfl
 have hiσ:i<σ.length:=by rw[I.len];exact(aj.mp hi).1
 have cne:=I.cne;have tracked:∀{a:Addr}{h':Heap},(∃o,s.heap.get? a=some o/\H a=none)->eG a s.heap h'->HOk X.prog X.w H h':=fun{a h'} ha hs b ob e=>by
  obtain⟨_,_,hfree⟩:=ha;refine(I.hok b ob e).stay (fun c w' hc q=>(hs.2 c ?_).trans q) (fun _ q=>q) fun _ _ q=>q;rintro rfl;rcases hc with rfl|hc
  ·rw[hfree]at e;cases e
  ·rw[hfree]at hc;cases hc
 rcases hx with hk|hk
 ·refine wpAny_storeName_local hk hn (fun h' hn' hs=>?_) hcls;obtain⟨oL,_,_,hoL,_⟩:=id hn;refine h _ ⟨I.ok,I.os,I.bare,⟨fun b o e n hb hx=>?_,fun b o e n hb hx=>?_,I.base.free,fun b o e hx=>?_,I.base.tups,I.base.frzs,I.base.tbls⟩,⟨_,hn',fun j y v' e1 e2 e3=>?_⟩,fun y c e=>?_,I.free,I.freeC,fun p hp=>?_,tracked ⟨oL,hoL,I.free⟩ hs,by simpa using I.len,I.qd,I.fx.set hm⟩ ⟨_,hs,.inl rfl⟩
  ·exact(hs.2 b (bj (ay (Hz e) I.ok.above))).trans (I.base.keep b o e n hb hx)
  ·obtain⟨sl,e1⟩:=I.base.slot b o e n hb hx;exact⟨sl,(hs.2 b (bj (ay (Hz e) I.ok.above))).trans e1⟩
  ·obtain⟨o',e1⟩:=I.base.there b o e hx;exact⟨o',(hs.2 b (bj (ay (Hz e) I.ok.above))).trans e1⟩
  ·by_cases hj:j=i
   ·subst hj;rw[hi]at e1;cases e1;rw[aP hiσ]at e2;cases e2;exact⟨u,r,.inl ⟨hk,by simp⟩⟩
   ·rw[aG (bJ hj)]at e2;obtain⟨u',r',q⟩:=hl j y v' e1 e2 e3;refine⟨u',r',?_⟩;rcases q with⟨k,e⟩|⟨k,c,e,z⟩
    ·refine .inl ⟨k,?_⟩
     have:y≠x:=fun e=>hj (Zgv hN e1 (e▸hi))
     simp[this,e]
    ·exact .inr ⟨k,c,e,z.sameBut hs (cne y c e)⟩
  ·obtain⟨w',z⟩:=I.cell y c e;exact⟨w',z.sameBut hs (cne y c e)⟩
  ·obtain⟨e,n,ne,nf,d⟩:=I.pin p hp;exact⟨(hs.2 p.1 ne).trans e,n,ne,nf,d⟩
 ·have hfn:X.fn x=true:=by
   rcases hf with z|z
   ·exact z
   ·rw[z]at hk;cases hk
  obtain⟨c,hc⟩:=I.ok.has x (.inl hk);obtain⟨w',z⟩:=I.cell x c hc;refine wpAny_storeName_cell I.ok.kind hk hc z (fun h' hc' hs=>?_);obtain⟨oc,hoc,hocd⟩:=id z;refine h {s with heap:=h'} ⟨I.ok,I.os,I.bare,⟨fun b o e n hb hx=>?_,fun b o e n hb hx=>?_,I.base.free,fun b o e hx=>?_,I.base.tups,I.base.frzs,I.base.tbls⟩,⟨m,hn.sameBut hs (bJ (cne x c hc)),fun j y v' e1 e2 e3=>?_⟩,fun y c' e=>?_,I.free,I.freeC,fun p hp=>?_,tracked ⟨oc,hoc,I.freeC x c hc⟩ hs,by simpa using I.len,I.qd,I.fx.set hm⟩ ⟨c,hs,.inr hc⟩
  ·exact(hs.2 b (bj (ay (Hz e) (I.ok.cab x c hfn hc)))).trans (I.base.keep b o e n hb hx)
  ·obtain⟨sl,e1⟩:=I.base.slot b o e n hb hx;exact⟨sl,(hs.2 b (bj (ay (Hz e) (I.ok.cab x c hfn hc)))).trans e1⟩
  ·obtain⟨o',e1⟩:=I.base.there b o e hx;exact⟨o',(hs.2 b (bj (ay (Hz e) (I.ok.cab x c hfn hc)))).trans e1⟩
  ·by_cases hj:j=i
   ·subst hj;rw[hi]at e1;cases e1;rw[aP hiσ]at e2;cases e2;exact⟨u,r,.inr ⟨.inl hk,c,hc,hc'⟩⟩
   ·rw[aG (bJ hj)]at e2;obtain⟨u',r',q⟩:=hl j y v' e1 e2 e3;refine⟨u',r',?_⟩;rcases q with q|⟨k,c',e,z'⟩
    ·exact .inl q
    ·refine .inr ⟨k,c',e,z'.sameBut hs ?_⟩;rintro rfl;exact hj (Zgv hN e1 (I.ok.inj _ _ _ e hc▸hi))
  ·by_cases hcc:c'=c
   ·subst hcc;exact⟨_,hc'⟩
   ·obtain⟨w2,z2⟩:=I.cell y c' e;exact⟨w2,z2.sameBut hs hcc⟩
  ·obtain⟨e,n,ne,nf,d⟩:=I.pin p hp;refine⟨(hs.2 p.1 ?_).trans e,n,ne,nf,d⟩;intro q;rw[q,hoc]at e;have q':oc=p.2:=aQ e;exact d w' (by rw[<-q'];exact hocd)
theorem Zcg(I:Inv X pins σ H s)(hN:X.N.Nodup)(hi:X.N[i]?=some x)(hx:Loc X.env.scope x)(hm:X.may i=true)(r:ZY v u)(h:∀s',Inv X pins (σ.set i (some v)) H s'->Q () s')(hf:X.fn x=true\/X.env.scope.names.lookup x=some .local:=by first|exact .inl rfl|exact .inr rfl|assumption):wpAny M A (storeName X.env x u) Q E s:=
 Zdh I hN hi hx hm r (fun s' I' _=>h s' I') hf
theorem Inv.call'(I:Inv X pins σ H s)(ho:s'.os=s.os)(u:Un (frs X.stack) ch H H' s.heap s'.heap)(hok:HOk X.prog X.w H' s'.heap)(hg:d6 s'.gens)(hch:∀b∈ch,(b∈X.ex\/X.s₀.heap.objs.size<=b)/\b≠X.env.locals/\(∀x c,X.env.cells.lookup x=some c->c≠b)/\∀p∈X.pn++pins,p.1≠b):Inv X pins σ H' s':=by
 obtain⟨h',g',d',t',o'⟩:=s';have e:o'=s.os:=ho;subst e;exact I.call (g':=g') (t':=t') (d':=d') u hok hg hch
end
abbrev XK:=ah->Option Addr->Hp->Prop
noncomputable abbrev St:=List (Option V)
abbrev VK:=V->Hp->Prop
abbrev TE:=St->Hp->VK->Prop
abbrev TT:=St->Hp->(Bool->Hp->Prop)->Prop
abbrev TA:=St->Hp->(List V->Hp->Prop)->Prop
structure Ends where
 nx:St->Hp->Prop
 rt:VK
 bk:St->Hp->Prop:=fun _ _=>False
 ct:St->Hp->Prop:=fun _ _=>False
abbrev TS:=Ends->St->Hp->Prop
def EP(X:Cx)(pins:Pn)(σ:St)(Q:VK)(u:ah)(s':aC):Prop:=∃v H',Inv X pins σ H' s'/\ZY v u/\Q v H'
noncomputable def TP(X:Cx)(pins:Pn)(σ:St)(Q:Bool->Hp->Prop)(b:Bool)(s':aC):Prop:=∃H',Inv X pins σ H' s'/\Q b H'
def AP(X:Cx)(pins:Pn)(σ:St)(Q:List V->Hp->Prop)(us:List ah)(s':aC):Prop:=∃vs H',Inv X pins σ H' s'/\ZR vs us/\Q vs H'
def SP(X:Cx)(pins:Pn)(D:Ends)(f:Flow)(s':aC):Prop:=
 match f with
 |.next=>∃σ' H',Inv X pins σ' H' s'/\D.nx σ' H'
 |.brk=>∃σ' H',Inv X pins σ' H' s'/\D.bk σ' H'
 |.cont=>∃σ' H',Inv X pins σ' H' s'/\D.ct σ' H'
 |.ret u=>∃v σ' H',Inv X pins σ' H' s'/\ZY v u/\D.rt v H'
def PE(X:Cx)(e:Expr)(t:TE):Prop:=
 ∀(pins:Pn)(s:aC)(σ:St)(H:Hp)(Q:VK),Inv X pins σ H s->t σ H Q->wpAny (az X.prog X.w) X.A (eval e X.env) (EP X pins σ Q) X.xe s
def PT(X:Cx)(e:Expr)(t:TT):Prop:=
 ∀(pins:Pn)(s:aC)(σ:St)(H:Hp)(Q:Bool->Hp->Prop),Inv X pins σ H s->t σ H Q->wpAny (az X.prog X.w) X.A (isTrue e X.env (eval e X.env)) (TP X pins σ Q) X.xe s
def PW(X:Cx)(e:Expr)(t:TT):Prop:=
 ∀(whole:Sem ah)(pins:Pn)(s:aC)(σ:St)(H:Hp)(Q:Bool->Hp->Prop),Inv X pins σ H s->t σ H Q->wpAny (az X.prog X.w) X.A (isTrue e X.env whole) (TP X pins σ Q) X.xe s
theorem PW.pt(h:PW X e t):PT X e t:=h _
def PA(X:Cx)(es:List Expr)(t:TA):Prop:=
 ∀(pos:Pos)(pins:Pn)(s:aC)(σ:St)(H:Hp)(Q:List V->Hp->Prop),Inv X pins σ H s->t σ H Q->wpAny (az X.prog X.w) X.A (spliced (bT pos (af es X.env))) (AP X pins σ Q) X.xe s
def PS(X:Cx)(st:Stmt)(t:TS):Prop:=
 ∀(pins:Pn)(s:aC)(σ:St)(H:Hp)(D:Ends),Inv X pins σ H s->t D σ H->wpAny (az X.prog X.w) X.A (exec st X.env) (SP X pins D) X.xe s
def PSs(X:Cx)(st:List Stmt)(t:TS):Prop:=
 ∀(pins:Pn)(s:aC)(σ:St)(H:Hp)(D:Ends),Inv X pins σ H s->t D σ H->wpAny (az X.prog X.w) X.A (execs st X.env) (SP X pins D) X.xe s
theorem thn{t:Sem α}{Q Q':α->aC->Prop}(h:wpAny M A t Q E s)(hQ:∀a s,Q a s->Q' a s):wpAny M A t Q' E s:=wpAny_mono h hQ fun _ _ x=>x
noncomputable def ZtR(i:Nat):TE:=fun σ H Q=>∃v,σ[i]?=some (some v)/\Q v H
noncomputable def tC(v:V):TE:=fun _ H Q=>Q v H
theorem Zch(hN:X.N[i]?=some x)(hv:Vis X.env.scope x)(hd:autoParam ((x==("__debug__":Str))=false) Qde._auto_1)(hcd:autoParam ((x==("__classdict__":Str))=false) Qde._auto_1):PE X (.Name x pos) (ZtR i):=by
 intro pins s σ H Q I h;obtain⟨v,e,h⟩:=h;obtain⟨m,hn,hl⟩:=I.loc;obtain⟨u,r,l⟩:=hl i x v hN e hv;have fin:EP X pins σ Q u s:=⟨v,H,I,r,h⟩;rcases l with⟨hk,hm⟩|⟨hk,c,hc,hcell⟩
 ·exact wpAny_Name (wpAny_loadName_local I.ok.kind hk hn hm fin) hd
 ·rcases hk with hk|hk
  ·exact wpAny_Name (wpAny_loadName_cell I.ok.kind hk hc hcell fin) hd
  ·exact wpAny_Name (wpAny_loadName_free I.ok.kind hk hc hcell fin hcd) hd
theorem Zlj{i j pos}:PE X (.Constant (.int i) j pos) (tC (.int i)):=fun _ _ _ H _ I h=>wpAny_Constant_int ⟨.int i,H,I.tok _,⟨_,rfl⟩,h⟩
theorem Zrm{b j pos}:PE X (.Constant (.bool b) j pos) (tC (.bl b)):=fun _ _ _ H _ I h=>Constant_bool ⟨.bl b,H,I,rfl,h⟩
theorem Zn4{j pos}:PE X (.Constant .none j pos) (tC .non):=fun _ _ _ H _ I h=>Constant_none ⟨.non,H,I,rfl,h⟩
theorem ZhZ{x j pos}:PE X (.Constant (.str x) j pos) (tC (.str x)):=fun _ _ _ H _ I h=>Calls.Constant_str ⟨.str x,H,I.tok _,⟨_,rfl⟩,h⟩
noncomputable def Gl(X:Cx)(x:Str):Prop:=X.env.kindOf x=some .globalImplicit
theorem Zdi(I:Inv X pins σ H s)(hg:Gl X x)(hm:X.mg x=some u)(h:Q u s)(hd:autoParam ((x==("__debug__":Str))=false) Qde._auto_1):wpAny (az X.prog X.w) X.A (eval (.Name x pos) X.env) Q E s:=
 Calls.Name_function_global I.ok.kind hg (Calls.loadGlobal_global (by rw[I.ok.glob];exact I.mod.glob.keeps I.bk) hm h) hd
theorem Zfd(I:Inv X pins σ H s)(hg:Gl X x)(hm:X.mg x=none)(hv:bB x=some u)(h:Q u s)(hn:autoParam (x≠"__name__") Qde._auto_1)(hd:autoParam ((x==("__debug__":Str))=false) Qde._auto_1):wpAny (az X.prog X.w) X.A (eval (.Name x pos) X.env) Q E s:=by
 obtain⟨mb,h1,h2⟩:=I.mod.blt;exact Calls.Name_function_global I.ok.kind hg (Calls.loadGlobal_builtin (by rw[I.ok.glob];exact I.mod.glob.keeps I.bk) hm (by rw[I.ok.blt];exact h1.keeps I.bk) ((h2 x hn).trans hv) h) hd
theorem Zh0(hg:Gl X x)(hm:X.mg x=some u)(r:ZY v u)(hd:autoParam ((x==("__debug__":Str))=false) Qde._auto_1):PE X (.Name x pos) (tC v):=
 fun _ _ _ H _ I h=>Zdi I hg hm ⟨v,H,I,r,h⟩ hd
theorem Zh1(hg:Gl X x)(hm:X.mg x=none)(hv:bB x=some u)(r:ZY v u)(hn:autoParam (x≠"__name__") Qde._auto_1)(hd:autoParam ((x==("__debug__":Str))=false) Qde._auto_1):PE X (.Name x pos) (tC v):=
 fun _ _ _ H _ I h=>Zfd I hg hm hv ⟨v,H,I,r,h⟩ hn hd
noncomputable def tB(t:TE):TT:=fun σ H Q=>t σ H fun x H1=>∃c,x=.bl c/\Q c H1
theorem Zn5(h:PE X e t)(he:autoParam (∀whole,isTrue e X.env whole=(do let v <-whole;standAt e.pos;holding [v] (truthy v))) Qin._auto_1):PT X e (tB t):=by
 intro pins s σ H Q I hw;refine isTrue_plain (thn (h pins s σ H _ I hw) fun v s1 hz=>?_) (he _);obtain⟨x,H1,I1,r1,q1⟩:=hz;obtain⟨d,rfl,q⟩:=q1;cases r1;exact cJ ⟨H1,I1,q⟩
noncomputable def ZtS(t u:TT):TT:=fun σ H Q=>t σ H fun c H1=>if c=true then u σ H1 Q else Q false H1
noncomputable def tOr(t u:TT):TT:=fun σ H Q=>t σ H fun c H1=>if c=true then Q true H1 else u σ H1 Q
noncomputable def ZtT(t:TT):TT:=fun σ H Q=>t σ H fun c H1=>Q (!c) H1
theorem pw_and1(ha:PT X a tA):PW X (.BoolOp .And [a] pos) tA:=by
 intro wh pins s σ H Q I h;refine isTrue_and (thn (ha pins s σ H Q I h) fun c s1 e=>?_);cases c with
 |true=>exact isTrue_and_nil e
 |false=>exact e
theorem pw_or1(ha:PT X a tA):PW X (.BoolOp .Or [a] pos) tA:=by
 intro wh pins s σ H Q I h;refine isTrue_or (thn (ha pins s σ H Q I h) fun c s1 e=>?_);cases c with
 |false=>exact isTrue_or_nil e
 |true=>exact e
theorem pw_and(ha:PT X a tA)(hb:PW X (.BoolOp .And (b::rest) pos) tB'):PW X (.BoolOp .And (a::b::rest) pos) (ZtS tA tB'):=by
 intro wh pins s σ H Q I h;refine isTrue_and (thn (ha pins s σ H _ I h) fun c s1 hz=>?_);obtain⟨H1,I1,q1⟩:=hz;cases c with
 |true=>exact hb wh pins s1 σ H1 Q I1 q1
 |false=>exact⟨H1,I1,q1⟩
theorem pw_or(ha:PT X a tA)(hb:PW X (.BoolOp .Or (b::rest) pos) tB'):PW X (.BoolOp .Or (a::b::rest) pos) (tOr tA tB'):=by
 intro wh pins s σ H Q I h;refine isTrue_or (thn (ha pins s σ H _ I h) fun c s1 hz=>?_);obtain⟨H1,I1,q1⟩:=hz;cases c with
 |true=>exact⟨H1,I1,q1⟩
 |false=>exact hb wh pins s1 σ H1 Q I1 q1
theorem Zn6(ha:PT X a tA):PT X (.UnaryOp .Not a pos) (ZtT tA):=by
 intro pins s σ H Q I h;exact isTrue_not (ha pins s σ H (fun c H1=>Q (!c) H1) I h)
noncomputable def Zrn(ta tb:TE):TE:=fun σ H Q=>ta σ H fun x H1=>∃c,x=.bl c/\if c=true then tb σ H1 Q else Q (.bl false) H1
noncomputable def ZtU(ta tb:TE):TE:=fun σ H Q=>ta σ H fun x H1=>∃c,x=.bl c/\if c=true then Q (.bl true) H1 else tb σ H1 Q
noncomputable def Zro(ta:TE):TE:=fun σ H Q=>ta σ H fun x H1=>∃c,x=.bl c/\Q (.bl (!c)) H1
theorem Zn7{op}(h:PE X a t):PE X (.BoolOp op [a] pos) t:=fun pins s σ H Q I hw=>BoolOp_one (h pins s σ H Q I hw)
theorem Zn8(ha:PE X a ta)(hb:PE X (.BoolOp .And (b::rest) pos) tb):PE X (.BoolOp .And (a::b::rest) pos) (Zrn ta tb):=by
 intro pins s σ H Q I h;refine BoolOp_and (thn (ha pins s σ H _ I h) fun v s1 hz=>?_);obtain⟨x,H1,I1,r1,q1⟩:=hz;obtain⟨c,rfl,q1⟩:=q1;cases r1;refine cJ ?_;cases c with
 |true=>exact hb pins s1 σ H1 Q I1 q1
 |false=>exact⟨.bl false,H1,I1,rfl,q1⟩
theorem Zrp(ha:PE X a ta)(hb:PE X (.BoolOp .Or (b::rest) pos) tb):PE X (.BoolOp .Or (a::b::rest) pos) (ZtU ta tb):=by
 intro pins s σ H Q I h;refine BoolOp_or (thn (ha pins s σ H _ I h) fun v s1 hz=>?_);obtain⟨x,H1,I1,r1,q1⟩:=hz;obtain⟨c,rfl,q1⟩:=q1;cases r1;refine cJ ?_;cases c with
 |false=>exact hb pins s1 σ H1 Q I1 q1
 |true=>exact⟨.bl true,H1,I1,rfl,q1⟩
theorem Zn9(ha:PE X a ta):PE X (.UnaryOp .Not a pos) (Zro ta):=by
 intro pins s σ H Q I h;refine UnaryOp_ (thn (ha pins s σ H _ I h) fun v s1 hz=>?_);obtain⟨x,H1,I1,r1,q1⟩:=hz;obtain⟨c,rfl,q1⟩:=q1;cases r1;exact not_of (cJ ⟨.bl (!c),H1,I1,rfl,q1⟩)
noncomputable def tIf(t:TT)(ta tb:TE):TE:=fun σ H Q=>t σ H fun c H1=>if c=true then ta σ H1 Q else tb σ H1 Q
theorem Zj7(hc:PT X c tA)(ha:PE X a ta)(hb:PE X b tb):PE X (.IfExp c a b pos) (tIf tA ta tb):=by
 intro pins s σ H Q I h;refine wpAny_IfExp (thn (hc pins s σ H _ I h) fun d s1 hz=>?_);obtain⟨H1,I1,q1⟩:=hz;cases d with
 |true=>exact ha pins s1 σ H1 Q I1 q1
 |false=>exact hb pins s1 σ H1 Q I1 q1
def SqL(K:Fg)(H:Hp)(a:Addr)(xs:List V):Prop:=
 Rd H a (.lst xs)\/
  ∃(o:Obj) (its:Array ah) (n:Nat),K.lookup a=some o/\o.cls=.type "list"/\o.dict=none/\o.data=.seq its n/\its.size<=sizeLine/\ZR xs its.toList
def SqT(K:Fg)(H:Hp)(a:Addr)(xs:List V):Prop:=
 Rd H a (.tup xs)\/
  ∃(o:Obj) (its:Array ah) (n:Nat),K.lookup a=some o/\o.cls=.type "tuple"/\o.data=.seq its n/\its.size<=sizeLine/\ZR xs its.toList
noncomputable def ZtV:ah->Option V
 |.none=>some .non
 |.bool b=>some (.bl b)
 |.int i _=>some (.int i)
 |.str x _=>some (.str x)
 |.bytes b _=>some (.byt b)
 |.float b _=>some (.flt b)
 |.ref a=>some (.ref a)
 |.type n=>some (.ty n)
 |_=>none
theorem ZY.abs(r:ZY x u):ZtV u=some x:=by
 cases x with
 |non=>cases r;rfl
 |bl _=>cases r;rfl
 |int _=>obtain⟨t,rfl⟩:=r;rfl
 |str _=>obtain⟨t,rfl⟩:=r;rfl
 |byt _=>obtain⟨t,rfl⟩:=r;rfl
 |flt _=>obtain⟨t,rfl⟩:=r;rfl
 |ref _=>cases r;rfl
 |ty _=>cases r;rfl
theorem ZY.inj(r:ZY x u)(q:ZY y u):x=y:=aQ (r.abs.symm.trans q.abs)
theorem ZR.inj:∀{xs ys:List V}{us:List ah},ZR xs us->ZR ys us->xs=ys:=by
 intro xs ys us h
 induction h generalizing ys with
 |nil=>intro h;cases h;rfl
 |cons r t ih=>intro h;cases h with|cons r2 t2=>rw[r.inj r2,ih t2]
theorem SqL.of{K:Fg}(h:H a=some (.lst xs)):SqL K H a xs:=.inl (.inl h)
theorem SqT.of{K:Fg}(h:H a=some (.tup xs)):SqT K H a xs:=.inl (.inl h)
theorem Inv.list(I:Inv X pins σ H s)(h:SqL X.K H a xs):∃its:List ah,ZR xs its/\PlainL s.heap a its.toArray/\xs.length<=sizeLine:=by
 rcases h with h|⟨o,its,n,hk,hc,hd,hs,hz,r⟩
 ·obtain⟨z,its,n,r,e⟩:=h.ok I.hok;exact⟨its,r,⟨_,n,e,rfl,rfl,rfl⟩,z⟩
 ·refine⟨its.toList,r,⟨o,n,I.kIn a o hk,hc,hd,by simpa using hs⟩,?_⟩
  have e:=r.length;simp only[dh]at e;lia
theorem Inv.tuple(I:Inv X pins σ H s)(h:SqT X.K H a xs):∃its:List ah,ZR xs its/\lx s.heap a its.toArray/\xs.length<=sizeLine:=by
 rcases h with h|⟨o,its,n,hk,hc,hs,hz,r⟩
 ·obtain⟨z,its,r,p⟩:=h.ok I.hok;exact⟨its,r,p,z⟩
 ·refine⟨its.toList,r,⟨o,I.kIn a o hk,hc,n,by simpa using hs⟩,?_⟩
  have e:=r.length;simp only[dh]at e;lia
theorem Inv.list_inj(I:Inv X pins σ H s)(h:SqL X.K H a xs)(h':SqL X.K H a ys):xs=ys:=by
 obtain⟨its,r,⟨o,n,e,_,_,d⟩,_⟩:=I.list h;obtain⟨its',r',⟨o',n',e',_,_,d'⟩,_⟩:=I.list h';rw[e]at e';cases e';rw[d]at d';injection d' with d1 _
 have:its=its':=by simpa using congrArg kG d1
 subst this;exact r.inj r'
theorem Inv.tuple_inj(I:Inv X pins σ H s)(h:SqT X.K H a xs)(h':SqT X.K H a ys):xs=ys:=by
 obtain⟨its,r,⟨o,e,_,n,d⟩,_⟩:=I.tuple h;obtain⟨its',r',⟨o',e',_,n',d'⟩,_⟩:=I.tuple h';rw[e]at e';cases e';rw[d]at d';injection d' with d1 _
 have:its=its':=by simpa using congrArg kG d1
 subst this;exact r.inj r'
noncomputable abbrev Cx.wish(X:Cx)(E:Vp):Cx:={X with xe:=E}
abbrev Cx.nox(X:Cx):Cx:=X.wish fun _ _=>False
theorem Cx.Ok.wish {X:Cx}(ok:X.Ok)(E:Vp):(X.wish E).Ok:=
 ⟨ok.mod,ok.kind,ok.glob,ok.blt,ok.above,ok.inj,ok.has,ok.cab,ok.hd,ok.frames,ok.stk,ok.exf,ok.bs,ok.bsz,ok.noex,ok.exfs,ok.funs,ok.frf,ok.tb⟩
theorem Cx.Ok.unwish {X:Cx}(ok:(X.wish E).Ok):X.Ok:=
 ⟨ok.mod,ok.kind,ok.glob,ok.blt,ok.above,ok.inj,ok.has,ok.cab,ok.hd,ok.frames,ok.stk,ok.exf,ok.bs,ok.bsz,ok.noex,ok.exfs,ok.funs,ok.frf,ok.tb⟩
theorem Inv.wish(I:Inv X pins σ H s)(E:Vp):Inv (X.wish E) pins σ H s:=⟨I.ok.wish E,I.os,I.bare,I.base,I.loc,I.cell,I.free,I.freeC,I.pin,I.hok,I.len,I.qd,I.fx⟩
theorem Inv.unwish(I:Inv (X.wish E) pins σ H s):Inv X pins σ H s:=⟨I.ok.unwish,I.os,I.bare,I.base,I.loc,I.cell,I.free,I.freeC,I.pin,I.hok,I.len,I.qd,I.fx⟩
theorem SP.unwish(h:SP (X.wish E) pins D f s'):SP X pins D f s':=by
 cases f with
 |next=>obtain⟨σ',H',I,q⟩:=h;exact⟨σ',H',I.unwish,q⟩
 |brk=>obtain⟨σ',H',I,q⟩:=h;exact⟨σ',H',I.unwish,q⟩
 |cont=>obtain⟨σ',H',I,q⟩:=h;exact⟨σ',H',I.unwish,q⟩
 |ret u=>obtain⟨v,σ',H',I,r,q⟩:=h;exact⟨v,σ',H',I.unwish,r,q⟩
theorem PSs.nox{st:List Stmt}(h:PSs X.nox st t):PSs X st t:=fun pins s σ H D I hw=>
 wpAny_mono (h pins s σ H D (I.wish _) hw) (fun _ _ q=>q.unwish) fun _ _ z=>cm z
section
variable {st:Stmt}{rest:List Stmt}
noncomputable def tNext:TS:=fun D σ H=>D.nx σ H
noncomputable def Zrq(t u:TS):TS:=fun D σ H=>t {D with nx:=u D} σ H
theorem Zme:PSs X [] tNext:=fun _ _ σ H _ I h=>eN ⟨σ,H,I,h⟩
theorem Zen(h1:PS X st t)(h2:PSs X rest u):PSs X (st::rest) (Zrq t u):=by
 intro pins s σ H D I h;refine wpAny_execs_cons (thn (h1 pins s σ H {D with nx:=u D} I h) fun f s1 q=>?_);cases f with
 |next=>
  obtain⟨σ',H',I',q⟩:=q;exact h2 pins s1 σ' H' D I' q
 |ret v=>exact q
 |brk=>exact q
 |cont=>exact q
theorem Zh2(h1:PS X st t):PSs X [st] t:=by
 intro pins s σ H D I h;refine wpAny_execs_cons (thn (h1 pins s σ H D I h) fun f s1 q=>?_);cases f with
 |next=>exact eN q
 |ret v=>exact q
 |brk=>exact q
 |cont=>exact q
theorem Inv.quiet(I:Inv X pins σ H s):interactive X.env=false:=by simp[interactive,I.ok.kind]
noncomputable def Zoa(te:TE):TS:=fun D σ H=>te σ H fun _ H1=>D.nx σ H1
theorem Zh3(he:PE X e te)(hs:autoParam (gL e none pos.line X.env=pure false) Qrf._auto_1):PS X (.Expr e pos) (Zoa te):=by
 intro pins s σ H D I h;exact wpAny_Expr_any (thn (he pins s σ H _ I h) fun v s1 ⟨x,H1,I1,r1,q1⟩=>⟨σ,H1,I1,q1⟩) I.quiet hs
noncomputable def ZtW(te:TE):TS:=fun D σ H=>te σ H D.rt
theorem Zob(he:PE X e te):PS X (.Return (some e) pos) (ZtW te):=by
 intro pins s σ H D I h;exact wpAny_Return_some (thn (he pins s σ H _ I h) fun v s1 ⟨x,H1,I1,r1,q1⟩=>⟨x,σ,H1,I1,r1,q1⟩)
noncomputable def ZtX(c:TT)(t u:TS):TS:=fun D σ H=>c σ H fun b H1=>if b=true then t D σ H1 else u D σ H1
theorem Zrr(hc:PT X c tc)(ha:PSs X a t)(hb:PSs X b u):PS X (.If c a b pos) (ZtX tc t u):=by
 intro pins s σ H D I h;refine wpAny_If (thn (hc pins s σ H _ I h) fun d s1 hz=>?_);obtain⟨H1,I1,q1⟩:=hz;cases d with
 |true=>exact ha pins s1 σ H1 D I1 q1
 |false=>exact hb pins s1 σ H1 D I1 q1
end
abbrev TG:=V->St->Hp->(St->Hp->Prop)->Prop
abbrev TGs:=List V->St->Hp->(St->Hp->Prop)->Prop
def PG(X:Cx)(target:Expr)(t:TG):Prop:=
 ∀(pins:Pn)(s:aC)(σ:St)(H:Hp)(v:V)(u:ah)(Q:St->Hp->Prop),Inv X pins σ H s->ZY v u->t v σ H Q->
  wpAny (az X.prog X.w) X.A (assign target X.env u) (fun _ s'=>∃σ' H',Inv X pins σ' H' s'/\Q σ' H') X.xe s
def PGs(X:Cx)(ts:List Expr)(t:TGs):Prop:=
 ∀(pins:Pn)(s:aC)(σ:St)(H:Hp)(vs:List V)(us:List ah)(Q:St->Hp->Prop),Inv X pins σ H s->ZR vs us->t vs σ H Q->
  wpAny (az X.prog X.w) X.A (assignInOrder ((dD ts X.env).map (·.2)) us) (fun _ s'=>∃σ' H',Inv X pins σ' H' s'/\Q σ' H') X.xe s
abbrev Zrs:=V->V->V->Hp->(Hp->Prop)->Prop
def Ztc(X:Cx)(t:Zrs):Prop:=
 ∀(pins:Pn)(s:aC)(σ:St)(H:Hp)(o i v:V)(ov iv u:ah)(Q:Hp->Prop),Inv X pins σ H s->ZY o ov->ZY i iv->ZY v u->t o i v H Q->
  wpAny (az X.prog X.w) X.A (setItem ov iv u) (fun _ s'=>∃H',Inv X pins σ H' s'/\Q H') X.xe s
noncomputable def Zoc(i:Nat):TG:=fun v σ H Q=>Q (σ.set i (some v)) H
theorem Zmf(hN:X.N.Nodup)(hi:X.N[i]?=some x)(hx:Loc X.env.scope x)(hm:X.may i=true)(hf:X.fn x=true\/X.env.scope.names.lookup x=some .local:=by first|exact .inl rfl|exact .inr rfl|assumption):PG X (.Name x pos) (Zoc i):=by
 intro pins s σ H v u Q I r h;exact wpAny_assign_Name (Zcg I hN hi hx hm r (fun s' I'=>⟨_,H,I',h⟩) hf)
noncomputable def gNil:TGs:=fun vs σ H Q=>vs=[]/\Q σ H
noncomputable def Zrt(t:TG)(u:TGs):TGs:=fun vs σ H Q=>∃v r,vs=v::r/\t v σ H fun σ' H'=>u r σ' H' Q
theorem Zmg:PGs X [] gNil:=by
 intro pins s σ H vs us Q I r h;obtain⟨e,h⟩:=h;subst e;cases r;exact assignInOrder_nil ⟨σ,H,I,h⟩
theorem Zj8(h1:PG X e t)(h2:PGs X es u)(hs:autoParam ((dD (e::es) X.env).map (·.2)=assign e X.env::(dD es X.env).map (·.2)) Qrf._auto_1):PGs X (e::es) (Zrt t u):=by
 intro pins s σ H vs us Q I r h;obtain⟨v,vr,e1,h⟩:=h;subst e1;cases r with
 |cons r rr=>
  rw[hs];refine ix (thn (h1 pins s σ H _ _ _ I r h) fun _ s1 hz=>?_);obtain⟨σ1,H1,I1,q1⟩:=hz;exact h2 pins s1 σ1 H1 _ _ Q I1 rr q1
def ZtY(K:Fg)(n:Nat)(t:TGs):TG:=fun v σ H Q=>∃a xs,v=.ref a/\SqT K H a xs/\xs.length=n/\t xs σ H Q
theorem Zod(hc:X.calm=true)(h:PGs X es t)(hn:autoParam ((dD es X.env).length=n) Qrf._auto_1)(hst:autoParam ((dD es X.env).findIdx? (·.1)=none) Qrf._auto_1):PG X (.Tuple es k pos) (ZtY X.K n t):=by
 intro pins s σ H v u Q I r hw;obtain⟨a,xs,e1,hq,hl,hw⟩:=hw;subst e1;cases r;obtain⟨its,rv,ht,hz⟩:=I.tuple hq;refine assign_Tuple_tuple (I.ok.hd hc) ht (by simp[hn,<-hl,rv.length]) hst fun h' hx=>?_
 have I1:Inv X pins σ H {s with heap:=h'}:=I.kept (t':=s.toks) fun b o e=>hx b o (bj (Hz e)) e;exact h pins _ σ H xs _ Q I1 (by simpa using rv) hw
noncomputable def ZtZ(to ti:TE)(t:Zrs):TG:=fun v σ H Q=>to σ H fun o H1=>ti σ H1 fun i H2=>t o i v H2 fun H3=>Q σ H3
theorem Zoe(ho:PE X o to)(hi:PE X i ti)(hs:Ztc X t)(ha:∀v,assign (.Subscript o i pos) X.env v=(do
   let ov <-holding [v] (eval o X.env)
   let iv <-holding [v,ov] (eval i X.env)
   standAt pos
   holding [v,ov,iv] (setItem ov iv v)
   release [v,ov,iv] []):=by intro _;rfl):PG X (.Subscript o i pos) (ZtZ to ti t):=by
 intro pins s σ H v u Q I r h;rw[ha];refine Wb (wpAny_holding (thn (ho pins s σ H _ I h) fun ov s1 hz=>?_));obtain⟨x,H1,I1,r1,q1⟩:=hz;refine Wb (wpAny_holding (thn (hi pins s1 σ H1 _ I1 q1) fun iv s2 hz=>?_));obtain⟨y,H2,I2,r2,q2⟩:=hz;refine Wb (wpAny_standAt (Wb (wpAny_holding (thn (hs pins s2 σ H2 x y v ov iv u _ I2 r1 r2 r q2) fun _ s3 hz=>?_))));obtain⟨H3,I3,q3⟩:=hz;exact wpAny_release ⟨σ,H3,I3,q3⟩
noncomputable def Ztd(te:TE)(g:TG):TS:=fun D σ H=>te σ H fun x H1=>g x σ H1 D.nx
theorem Zlk(he:PE X e te)(hg:PG X tg g)(hs:autoParam (gU [tg] e pos.line X.env=pure false) Qrf._auto_1)(hw:autoParam (gW [tg] e X.env=pure none) Qrf._auto_1)(h1:autoParam ((dD [tg] X.env).map (·.2)=[assign tg X.env]) Qrf._auto_1):PS X (.Assign [tg] e pos) (Ztd te g):=by
 intro pins s σ H D I h;refine wpAny_Assign_stores (thn (he pins s σ H _ I h) fun v s1 hz=>?_) hs hw;obtain⟨x,H1,I1,r1,q1⟩:=hz;rw[h1];exact thn (hg pins s1 σ H1 x v _ I1 r1 q1) fun _ s2 q=>q
theorem Zof(hN:X.N.Nodup)(hi:X.N[i]?=some x)(hx:Loc X.env.scope x)(hm:X.may i=true)(he:PE X e te)(hs:autoParam (gL e (some (.Name x pos')) pos.line X.env=pure false) Qrf._auto_1)(hf:X.fn x=true\/X.env.scope.names.lookup x=some .local:=by first|exact .inl rfl|exact .inr rfl|assumption) :
  PS X (.Assign [.Name x pos'] e pos) (Ztd te (Zoc i)):=by
 intro pins s σ H D I h;refine wpAny_Assign_Name (thn (he pins s σ H _ I h) fun v s1 hz=>?_) hs;obtain⟨y,H1,I1,r1,q1⟩:=hz;exact Zcg I1 hN hi hx hm r1 (fun s2 I2=>⟨_,H1,I2,q1⟩) hf
noncomputable def Zt0(i j:Nat)(ta:TA):TS:=fun D σ H=>ta σ H fun vs H1=>∃v w,vs=[v,w]/\D.nx ((σ.set i (some v)).set j (some w)) H1
theorem Zog{kt k2 pt2}(hc:X.calm=true)(mi:X.may i=true)(mj:X.may j=true)(hN:X.N.Nodup)(hi:X.N[i]?=some x)(hj:X.N[j]?=some y)(hij:i≠j)(hx:X.env.scope.names.lookup x=some .local)(hy:X.env.scope.names.lookup y=some .local)(ha:PA X [a,b] ta)(hw:gW [.Tuple [.Name x px,.Name y py] kt pt] (.Tuple [a,b] k2 pt2) X.env=pure (some [x,y]))(hs:autoParam (gU [.Tuple [.Name x px,.Name y py] kt pt] (.Tuple [a,b] k2 pt2) pos.line X.env=pure false) Qrf._auto_1) :
  PS X (.Assign [.Tuple [.Name x px,.Name y py] kt pt] (.Tuple [a,b] k2 pt2) pos) (Zt0 i j ta):=by
 intro pins s σ H D I h;rw[exec_Assign_arm];refine Wb (wpAny_standAt ?_);rw[hs];refine Wb (Wp ?_);rw[if_neg (by decide)]
 refine Wb (Tuple_ (thn (ha _ pins s σ H _ I h) fun us s1 hz=>?_));obtain⟨vs,H1,I1,r1,q1⟩:=hz;obtain⟨v,w,e1,q1⟩:=q1;subst e1;obtain⟨u1,u2,rfl,rv,rw'⟩:∃u1 u2,us=[u1,u2]/\ZY v u1/\ZY w u2:=by
  cases r1 with
  |cons p q=>
   cases q with
   |cons p' q'=>
    cases q';exact⟨_,_,rfl,p,p'⟩
 refine bA ?_ (by show 2<=sizeLine;decide)
 have I2:Inv X pins σ H1 {s1 with heap:=s1.heap.push {cls:=.type "tuple",data:=.seq [u1,u2].toArray}}:=I1.kept (t':=s1.toks) fun b o e=>Hq _ e;rw[hw];refine Wb (Wp ?_);show wpAny (az X.prog X.w) X.A (do rule "assign.swapped-stores";let items <-unpackItems (.ref s1.heap.objs.size) 2 none;assignInOrder [fun v=>bindName X.env y v,fun v=>bindName X.env x v] items.reverse;pure Flow.next) _ _ _
 refine Wb (gJ (Wb (unpackItems_tuple (items:= #[u1,u2]) (I.ok.hd hc) (kZ s1.heap _) fun h' hx'=>?_)));have I3:=I2.kept (h':=h') (t':=s1.toks) fun b o e=>hx' b o (bj (Hz e)) e;show wpAny _ _ (assignInOrder [fun v=>bindName X.env y v,fun v=>bindName X.env x v] [u2,u1] >>= fun _=>pure Flow.next) _ _ _
 refine Wb (ix (wpAny_bindName (Zcg I3 hN hj (.inl hy) mj rw' (fun s2 I4=>?_) (.inr hy))));refine ix (wpAny_bindName (Zcg I4 hN hi (.inl hx) mi rv (fun s3 I5=>assignInOrder_nil (Wp ?_)) (.inr hx)));rw[List.set_comm _ _ (bJ hij)]at I5;exact⟨_,H1,I5,q1⟩
def Zoh(c:TT)(tb:TS):TS:=fun D σ H=>∃W:Nat->St->Hp->Prop,(∃m,W m σ H)/\∀m σ H,W m σ H->
 c σ H fun b H1=>if b=true then ∃N:St->Hp->Prop,(∀σ' H',N σ' H'->∃m',m'<m/\W m' σ' H')/\tb {D with nx:=N,ct:=N,bk:=D.nx} σ H1 else D.nx σ H1
theorem Zj9(hp:eV (az X.prog X.w) X.A X.env X.xe)(hc:PT X c tc)(hb:PSs X body tb):PS X (.While c body [] pos) (Zoh tc tb):=by
 intro pins s σ H D I h;obtain⟨W,⟨m0,w0⟩,turn⟩:=h;refine wpAny_While (codeAny_whileLoop (fun n s'=>∃σ' H',Inv X pins σ' H' s'/\W n σ' H') ?_ m0 ⟨σ,H,I,w0⟩);rintro n s1 ⟨σ1,H1,I1,w1⟩;refine dN hp (thn (hc pins s1 σ1 H1 _ I1 (turn n σ1 H1 w1)) fun b s2 hz=>?_);obtain⟨H2,I2,q2⟩:=hz;cases b with
 |true=>
  obtain⟨N,hN,q2⟩:=q2;rw[if_pos rfl];refine dN hp (thn (hb pins s2 σ1 H2 _ I2 q2) fun f s3 q3=>?_);cases f with
  |next=>
   obtain⟨σ3,H3,I3,n3⟩:=q3;obtain⟨m',hm,w3⟩:=hN σ3 H3 n3;exact⟨m',hm,σ3,H3,I3,w3⟩
  |cont=>
   obtain⟨σ3,H3,I3,n3⟩:=q3;obtain⟨m',hm,w3⟩:=hN σ3 H3 n3;exact⟨m',hm,σ3,H3,I3,w3⟩
  |brk=>exact q3
  |ret v=>exact q3
 |false=>
  rw[if_neg cD];exact eN ⟨σ1,H2,I2,q2⟩
structure It where
 go:Nat->Hp->Prop
 yld:Nat->Hp->V->Hp->Prop
 stop:Nat->Hp->Prop
def Zd4(X:Cx)(pins:Pn)(H:Hp)(b:Addr):Prop:=
 H b=none/\b≠X.env.locals/\b∉X.fs/\(b∈X.ex\/X.s₀.heap.objs.size<=b)/\(∀x c,X.env.cells.lookup x=some c->c≠b)/\∀p∈X.pn++pins,p.1≠b
theorem Inv.fpOk(I:Inv X pins σ H s)(hb:s.heap.objs.size<=b)(hn:H' b=none):Zd4 X pins H' b:=by
 refine⟨hn,cX (ay I.lt hb),I.nofs hb,.inr (aE I.sz hb),fun x c e z=>?_,fun p hp z=>?_⟩
 ·obtain⟨v,q⟩:=I.cell x c e;exact absurd (ay q.lt (by rw[z];exact hb)) (bU _)
 ·exact absurd (ay (Hz (I.pin p hp).1) (by rw[z];exact hb)) (bU _)
structure Turn(P:cF) (w:df) (K:Fg) (B:dc) (tg:Expr) (J:It) (fp:List Addr) (it:Addr) (tn:Nat->Heap->Prop):Prop where
 mem:it∈fp
 obj:∀i h,tn i h->∀b∈fp,∃o,h.get? b=some o/\∀v,o.data≠ .cell v
 keep:∀i h h',tn i h->(∀b∈fp,∀o,h.get? b=some o->h'.get? b=some o)->tn i h'
 item:∀(X:Cx),X.prog=P->X.w=w->X.K=K->X.A=B->∀(i:Nat)(pins:Pn)(s:aC)(σ:St)(H:Hp)(E:Vp),Inv X pins σ H s->(∀b∈fp,Zd4 X pins H b)->tn i s.heap->J.go i H->
  wpAny (az P w) X.A (iO (.ref it)) (fun r s1=>∃u,r=some u/\ wpAny (az P w) X.A (eO tg (.ref it) u) (fun _ s2=>∃x H',Inv X pins σ H' s2/\ZY x u/\J.yld i H x H'/\tn (i+1) s2.heap/\∀b∈fp,H' b=none) E s1) E s
 done:∀(X:Cx),X.prog=P->X.w=w->X.K=K->X.A=B->∀(i:Nat)(pins:Pn)(s:aC)(σ:St)(H:Hp)(E:Vp),Inv X pins σ H s->(∀b∈fp,Zd4 X pins H b)->tn i s.heap->J.stop i H->
  wpAny (az P w) X.A (iO (.ref it)) (fun r s1=>r=none/\Inv X pins σ H s1) E s
 self:∀(A:dc)(i:Nat)(s:aC)(Q:Vp)(E:Vp),tn i s.heap->Q (.ref it) s->wpAny (az P w) A (pyIter (.ref it)) Q E s
abbrev TI:=St->Hp->(It->Hp->Prop)->Prop
def PIE(X:Cx)(pins:Pn)(σ:St)(tg:Expr)(R:It->Hp->Prop)(itv:ah)(s2:aC):Prop:=
 ∃(it:Addr) (fp:List Addr) (tn:Nat->Heap->Prop) (J:It) (H':Hp),itv=.ref it/\Inv X pins σ H' s2/\Turn X.prog X.w X.K X.A tg J fp it tn/\tn 0 s2.heap/\(∀b∈fp,Zd4 X pins H' b)/\R J H'
def PI(X:Cx)(tg iter:Expr)(wi:TI):Prop:=
 ∀(pins:Pn)(s:aC)(σ:St)(H:Hp)(R:It->Hp->Prop),Inv X pins σ H s->wi σ H R->
  wpAny (az X.prog X.w) X.A (eval iter X.env) (fun v s1=>wpAny (az X.prog X.w) X.A (pyIter v) (PIE X pins σ tg R) X.xe s1) X.xe s
theorem Zka(ho:s.heap.get? it=some o)(hc:o.cls=.type n)(hd:o.data=.fields vs)(hn:["enumerate","zip","dict_itemiterator","dict_reverseitemiterator","odict_iterator","itertools.zip_longest","itertools.pairwise"].contains n=false)(hQ:Q () s):wpAny M A (eO tg (.ref it) u) Q E s:=by
 unfold eO;cases tg<;>first
  |exact Wp hQ
  | (cases u<;>first
    |exact Wp hQ
    | (refine Wb (wpAny_load ho ?_)
       rw[hc,hd];show wpAny M A (if(["enumerate","zip","dict_itemiterator","dict_reverseitemiterator","odict_iterator","itertools.zip_longest","itertools.pairwise"].contains n&&vs[0]? == some (gk _))=true then _ else _) Q E s
       rw[if_neg (by intro h;rw[hn,iy]at h;cases h)]
       exact Wp hQ))
def Itl(K:Fg)(a:Addr):It:=
 ⟨fun i H=>∃xs x,SqL K H a xs/\xs[i]?=some x,fun i H x H'=>H'=H/\∀xs,SqL K H a xs->xs[i]?=some x,fun i H=>∃xs,SqL K H a xs/\xs.length<=i⟩
def Itt(K:Fg)(a:Addr):It:=
 ⟨fun i H=>∃xs x,SqT K H a xs/\xs[i]?=some x,fun i H x H'=>H'=H/\∀xs,SqT K H a xs->xs[i]?=some x,fun i H=>∃xs,SqT K H a xs/\xs.length<=i⟩
noncomputable def Itr(lo:Int)(n:Nat):It:=⟨fun i _=>i<n,fun i H x H'=>H'=H/\x=.int (lo+i),fun i _=>n<=i⟩
theorem Zh4{K:Fg}(a it:Addr):Turn P w K B tg (Itl K a) [it] it (fun i h=>h.IsListIter it a i) where
 mem:=by simp
 obj:=fun i h st b hb=>by
  have e:b=it:=by simpa using hb
  subst e;obtain⟨o,e,c,d⟩:=st;exact⟨o,e,fun v z=>by rw[d]at z;cases z⟩
 keep:=fun i h h' st k=>st.at fun o e=>k it (by simp) o e
 item:=by
  intro X hP hw hK hB i pins s σ H E I hf st hg;subst hP hw hK;obtain⟨xs,x,hq,hx⟩:=hg;obtain⟨its,rv,p,hz⟩:=I.list hq;obtain⟨u,hu,ru⟩:=rv.get hx;obtain⟨f0,f1,f2,f3,f4,f5⟩:=hf it (by simp)
  refine wpAny_pyNext_list_item st p.isList (x:=u) (by simpa using hu) fun h' st' sb=>?_
  have I1:Inv X pins σ H {s with heap:=h'}:=I.turned (t':=s.toks) (fun b o hb e=>(sb.2 b hb).trans e) f0 f1 f3 f4 f5;obtain⟨o,e,c,d⟩:=id st';exact⟨u,rfl,Zka (s:={s with heap:=h'}) e c d (by decide) ⟨x,H,I1,ru,⟨rfl,fun ys hy=>by rw[I.list_inj hy hq];exact hx⟩,st',fun b hb=>(hf b hb).1⟩⟩
 done:=by
  intro X hP hw hK hB i pins s σ H E I hf st hg;subst hP hw hK;obtain⟨xs,hq,hx⟩:=hg;obtain⟨its,rv,p,hz⟩:=I.list hq;obtain⟨f0,f1,f2,f3,f4,f5⟩:=hf it (by simp)
  have hl:=rv.length;exact DQ.Zj5 I.qh st p.isList (by simp;lia) fun h' eb=>⟨rfl,I.turned (t':=s.toks) (fun b o hb e=>eb b o hb e) f0 f1 f3 f4 f5⟩
 self:=fun _ _ _ _ _ st h=>wpAny_pyIter_listiter st h
theorem Zhl{K:Fg}(a it:Addr):Turn P w K B tg (Itt K a) [it] it (fun i h=>h.IsTupleIter it a i) where
 mem:=by simp
 obj:=fun i h st b hb=>by
  have e:b=it:=by simpa using hb
  subst e;obtain⟨o,e,c,d⟩:=st;exact⟨o,e,fun v z=>by rw[d]at z;cases z⟩
 keep:=fun i h h' st k=>st.at fun o e=>k it (by simp) o e
 item:=by
  intro X hP hw hK hB i pins s σ H E I hf st hg;subst hP hw hK;obtain⟨xs,x,hq,hx⟩:=hg;obtain⟨its,rv,p,hz⟩:=I.tuple hq;obtain⟨u,hu,ru⟩:=rv.get hx;obtain⟨f0,f1,f2,f3,f4,f5⟩:=hf it (by simp)
  refine wpAny_pyNext_tuple_item st (show s.heap.IsTuple a its.toArray from p) (x:=u) (by simpa using hu) fun h' st' sb=>?_
  have I1:Inv X pins σ H {s with heap:=h'}:=I.turned (t':=s.toks) (fun b o hb e=>(sb.2 b hb).trans e) f0 f1 f3 f4 f5;obtain⟨o,e,c,d⟩:=id st';exact⟨u,rfl,Zka (s:={s with heap:=h'}) e c d (by decide) ⟨x,H,I1,ru,⟨rfl,fun ys hy=>by rw[I.tuple_inj hy hq];exact hx⟩,st',fun b hb=>(hf b hb).1⟩⟩
 done:=by
  intro X hP hw hK hB i pins s σ H E I hf st hg;subst hP hw hK;obtain⟨xs,hq,hx⟩:=hg;obtain⟨its,rv,p,hz⟩:=I.tuple hq;obtain⟨f0,f1,f2,f3,f4,f5⟩:=hf it (by simp)
  have hl:=rv.length;exact DQ.ZhU I.qh st (show s.heap.IsTuple a its.toArray from p) (by simp;lia) fun h' eb=>⟨rfl,I.turned (t':=s.toks) (fun b o hb e=>eb b o hb e) f0 f1 f3 f4 f5⟩
 self:=fun _ _ _ _ _ st h=>wpAny_pyIter_tupleiter st h
theorem Zhm{K:Fg}(it:Addr)(lo:Int)(n:Nat):Turn P w K B tg (Itr lo n) [it] it (fun i h=>jC h it (lo+(i:Nat)*1) ((n:Int)-(i:Nat)) 1) where
 mem:=by simp
 obj:=fun i h st b hb=>by
  have e:b=it:=by simpa using hb
  subst e;exact⟨_,st,fun v z=>by
   have z':jE _=Data.cell v:=z;cases z'⟩
 keep:=fun i h h' st k=>k it (by simp) _ st
 item:=by
  intro X hP hw hK hB i pins s σ H E I hf st hg;subst hP hw hK;obtain⟨f0,f1,f2,f3,f4,f5⟩:=hf it (by simp)
  have hlt:i<n:=hg;refine wpAny_pyNext_range_item st (by lia) fun h' st' sb=>?_
  have I1:Inv X pins σ H {s with heap:=h',toks:=s.toks+1}:=I.turned (fun b o hb e=>(sb.2 b hb).trans e) f0 f1 f3 f4 f5;have st2:jC h' it (lo+((i+1:Nat):Int)*1) ((n:Int)-((i+1:Nat):Int)) 1:=by
   have e1:lo+((i+1:Nat):Int)*1=lo+(i:Nat)*1+1:=by lia
   have e2:(n:Int)-((i+1:Nat):Int)=(n:Int)-(i:Nat)-1:=by lia
   rw[e1,e2];exact st'
  refine⟨_,rfl,Zka (s:={s with heap:=h',toks:=s.toks+1}) (n:="range_iterator") st2 rfl rfl (by decide) ⟨.int (lo+i),H,I1,⟨s.toks,?_⟩,⟨rfl,rfl⟩,st2,fun b hb=>(hf b hb).1⟩⟩
  rw[Int.mul_one]
 done:=by
  intro X hP hw hK hB i pins s σ H E I hf st hg;subst hP hw hK;obtain⟨f0,f1,f2,f3,f4,f5⟩:=hf it (by simp)
  exact DQ.ZhT I.qh st (by have:n<=i:=hg;lia) fun h' eb=>⟨rfl,I.turned (t':=s.toks) (fun b o hb e=>eb b o hb e) f0 f1 f3 f4 f5⟩
 self:=fun _ _ _ _ _ st h=>wpAny_pyIter_rangeiter st h
theorem Zkb{lo:Int}(I:Inv X pins σ H s)(h1: -(2^62)<=lo)(h2:lo<2^62)(h3: -(2^62)<=hi)(h4:hi<2^62)(q:R (Itr lo (hi-lo).toNat) H):wpAny (az X.prog X.w) X.A (pyIter (.ref s.heap.objs.size)) (PIE X pins σ tg R) E {s with heap:=s.heap.push {cls:=.type "range",data:=.fields #[.int lo t,.int hi u,.int 1 v]},toks:=tk}:=by
 refine wpAny_pyIter_range (IsRange.new ..) (small_one h1 h2 h3 h4) ?_;have I1:Inv X pins σ H {s with heap:=s.heap.push {cls:=.type "range",data:=.fields #[.int lo t,.int hi u,.int 1 v]},toks:=tk}:=I.kept fun b o e=>Hq _ e;refine⟨(s.heap.push {cls:=.type "range",data:=.fields #[.int lo t,.int hi u,.int 1 v]}).objs.size,[(s.heap.push {cls:=.type "range",data:=.fields #[.int lo t,.int hi u,.int 1 v]}).objs.size],_,_,H,rfl,I1.kept (t':=tk) fun b o e=>Hq _ e,Zhm _ lo (hi-lo).toNat,?_,fun b hb=>?_,q⟩
 ·have e1:lo+((0:Nat):Int)*1=lo:=by simp
  have e2:(((hi-lo).toNat:Nat):Int)-((0:Nat):Int)=eY.Range.rangeSize lo hi 1:=by rw[rangeSize_one];split<;>lia
  show jC _ _ (lo+((0:Nat):Int)*1) ((((hi-lo).toNat:Nat):Int)-((0:Nat):Int)) 1;rw[e1,e2];exact aW _ rfl
 ·have e:b=(s.heap.push {cls:=.type "range",data:=.fields #[.int lo t,.int hi u,.int 1 v]}).objs.size:=by simpa using hb
  subst e;exact I1.fpOk (au _) (I1.hok.fresh (au _))
def Zru(ta:TA):TI:=fun σ H R=>ta σ H fun vs H1=>∃j:Int,vs=[.int j]/\ -(2^62)<=j/\j<2^62/\R (Itr 0 j.toNat) H1
theorem Zfe(hg:Gl X "range")(hm:X.mg "range"=none)(ha:PA X [a] ta)(hs:autoParam (af [a] X.env=[(false,eval a X.env)]) Qrf._auto_1):PI X tg (.Call (.Name "range" p) [a] [] pos) (Zru ta):=by
 intro pins s σ H R I h;refine Call_ (Zfd I hg hm boot_range (eZ (thn (ha pos pins s σ H _ I h) fun us s1 hz=>?_) hs rfl));obtain⟨vs,H1,I1,r1,q1⟩:=hz;obtain⟨j,e,q1,q2,q⟩:=q1;subst e;cases r1 with
 |cons r rr=>
  cases rr;obtain⟨t,rfl⟩:=r;exact call_range_1 (Zkb I1 (by lia) (by lia) q1 q2 (by simpa using q))
def Zt1(wi:TI)(g:TG)(tb:TS):TS:=fun D σ H=>wi σ H fun J H1=>∃W:Nat->Nat->St->Hp->Prop,(∃m,W 0 m σ H1)/\∀i m σ H,W i m σ H->
 (J.stop i H/\D.nx σ H)\/(J.go i H/\∃N:St->Hp->Prop,(∀σ' H',N σ' H'->∃m',m'<m/\W (i+1) m' σ' H')/\∀x H',J.yld i H x H'->g x σ H' fun σ2 H2=>tb {D with nx:=N,ct:=N,bk:=D.nx} σ2 H2)
noncomputable def Zdj(fp:List Addr)(h:Heap):Pn:=fp.filterMap fun b=>(h.get? b).map fun o=>(b,o)
theorem ZaC(hb:b∈fp)(e:h.get? b=some o):(b,o)∈Zdj fp h:=List.mem_filterMap.mpr ⟨b,hb,by rw[e];rfl⟩
theorem Zh5(hp:p∈Zdj fp h):p.1∈fp/\h.get? p.1=some p.2:=by
 obtain⟨b,hb,e⟩:=List.mem_filterMap.mp hp;cases q:h.get? b with
 |none=>rw[q]at e;cases e
 |some o=>
  rw[q]at e;have e':(b,o)=p:=aQ e;subst e';exact⟨hb,q⟩
theorem Inv.pinned(I:Inv X pins σ H s)(hf:∀b∈fp,Zd4 X pins H b)(ho:∀b∈fp,∃o,s.heap.get? b=some o/\∀v,o.data≠ .cell v):Inv X (pins++Zdj fp s.heap) σ H s:=
 I.pins_of fun p hp=>(bC.mp hp).elim (fun z=>I.pin p (aT _ z)) fun z=>by
  obtain⟨hb,e⟩:=Zh5 z;obtain⟨f0,f1,f2,_⟩:=hf p.1 hb;obtain⟨o,e',d⟩:=ho p.1 hb;rw[e]at e';cases e';exact⟨e,f0,f1,f2,d⟩
theorem Inv.unpinned(I:Inv X (pins++pl) σ H s):Inv X pins σ H s:=I.pins_of fun p hp=>I.pin p (aT _ (fA _ hp))
theorem Zll(hp:eV (az X.prog X.w) X.A X.env X.xe)(hi:PI X tg iter wi)(hg:PG X tg g)(hb:PSs X body tb)(hs:autoParam (∀x,bY iter X.env x=pure x) Qin._auto_1):PS X (.For tg iter body [] pos) (Zt1 wi g tb):=by
 intro pins s σ H D I h;refine wpAny_For (thn (hi pins s σ H _ I h) fun v s1 h1=>thn h1 fun itv s2 h2=>?_) hs;obtain⟨it,fp,tn,J,H2,e,I2,T,st2,f2,W,⟨m0,w0⟩,turn⟩:=h2;subst e;have stat:∀{H':Hp},(∀b∈fp,H' b=none)->∀b∈fp,Zd4 X pins H' b:=fun hn b hb=>⟨hn b hb,(f2 b hb).2⟩;refine codeAny_forLoop_any (fun n s'=>∃i σ' H',Inv X pins σ' H' s'/\tn i s'.heap/\(∀b∈fp,H' b=none)/\W i n σ' H') ?_ m0 ⟨0,σ,H2,I2,st2,fun b hb=>(f2 b hb).1,w0⟩;rintro n s3 ⟨i,σ3,H3,I3,st3,fr3,w3⟩;rcases turn i n σ3 H3 w3 with⟨stop,qn⟩|⟨go,N,hN,step⟩
 ·refine dN hp (thn (T.done X rfl rfl rfl rfl i pins s3 σ3 H3 X.xe I3 (stat fr3) st3 stop) fun r s4 hz=>?_);obtain⟨hr,I4⟩:=hz;subst hr;exact eN ⟨σ3,H3,I4,qn⟩
 ·refine dN hp (thn (T.item X rfl rfl rfl rfl i pins s3 σ3 H3 X.xe I3 (stat fr3) st3 go) fun r s4 hz=>?_);obtain⟨u,hr,h4⟩:=hz;subst hr;refine dN hp (thn h4 fun _ s5 hz=>?_);obtain⟨x,H5,I5,r5,y5,st5,fr5⟩:=hz;have I5':=I5.pinned (stat fr5) (T.obj _ _ st5);refine dN hp (thn (hg _ s5 σ3 H5 x u _ I5' r5 (step x H5 y5)) fun _ s6 hz=>?_);obtain⟨σ6,H6,I6,q6⟩:=hz;refine dN hp (thn (hb _ s6 σ6 H6 _ I6 q6) fun f s7 q7=>?_);have again:∀{σ7:St}{H7:Hp},Inv X (pins++Zdj fp s5.heap) σ7 H7 s7->N σ7 H7->∃m,m<n/\∃i σ' H',Inv X pins σ' H' s7/\tn i s7.heap/\(∀b∈fp,H' b=none)/\W i m σ' H':=fun{σ7 H7} I7 n7=>by
   obtain⟨m',hm,w7⟩:=hN σ7 H7 n7;refine⟨m',hm,i+1,σ7,H7,I7.unpinned,T.keep _ _ _ st5 fun b hb o e=>(I7.pin (b,o) (aT _ (aT _ (ZaC hb e)))).1,fun b hb=>?_,w7⟩;obtain⟨o,e,d⟩:=T.obj _ _ st5 b hb;exact(I7.pin (b,o) (aT _ (aT _ (ZaC hb e)))).2.1
  cases f with
  |next=>obtain⟨σ7,H7,I7,n7⟩:=q7;exact again I7 n7
  |cont=>obtain⟨σ7,H7,I7,n7⟩:=q7;exact again I7 n7
  |brk=>obtain⟨σ7,H7,I7,q7⟩:=q7;exact⟨σ7,H7,I7.unpinned,q7⟩
  |ret v=>obtain⟨x7,σ7,H7,I7,r7,q7⟩:=q7;exact⟨x7,σ7,H7,I7.unpinned,r7,q7⟩
theorem Zh6{lo:Int}{g:TG}{tb:TS}{D:Ends}(Pv:Nat->St->Hp->Prop)(h0:Pv 0 σ H)(hs:∀i σ H,i<n->Pv i σ H->g (.int (lo+i)) σ H fun σ2 H2=>tb {D with nx:=Pv (i+1),ct:=Pv (i+1),bk:=D.nx} σ2 H2)(hd:∀σ H,Pv n σ H->D.nx σ H):∃W:Nat->Nat->St->Hp->Prop,(∃m,W 0 m σ H)/\∀i m σ H,W i m σ H->((Itr lo n).stop i H/\D.nx σ H)\/((Itr lo n).go i H/\∃N:St->Hp->Prop,(∀σ' H',N σ' H'->∃m',m'<m/\W (i+1) m' σ' H')/\∀x H',(Itr lo n).yld i H x H'->g x σ H' fun σ2 H2=>tb {D with nx:=N,ct:=N,bk:=D.nx} σ2 H2):=by
 refine⟨fun i m σ H=>m=n-i/\i<=n/\Pv i σ H,⟨n,by simp,gY _,h0⟩,?_⟩
 rintro i m σ H ⟨rfl,hi,p⟩;by_cases hlt:i<n
 ·refine .inr ⟨hlt,Pv (i+1),fun σ' H' p'=>⟨n-(i+1),by lia,rfl,hlt,p'⟩,fun x H' y=>?_⟩
  obtain⟨e,y⟩:=y;subst e y;exact hs i σ _ hlt p
 ·have e:i=n:=by lia
  subst e;exact .inl ⟨au _,hd σ H p⟩
abbrev R2:=V->V->Hp->VK->Prop
def OpR(X:Cx)(f:ah->ah->Sem ah)(r:R2):Prop:=
 ∀(pins:Pn)(s:aC)(σ:St)(H:Hp)(x y:V)(v u:ah)(Q:VK),Inv X pins σ H s->ZY x v->ZY y u->r x y H Q->
  wpAny (az X.prog X.w) X.A (f v u) (EP X pins σ Q) X.xe s
def UnR(X:Cx)(f:ah->Sem ah)(r:V->Hp->VK->Prop):Prop:=
 ∀(pins:Pn)(s:aC)(σ:St)(H:Hp)(x:V)(v:ah)(Q:VK),Inv X pins σ H s->ZY x v->r x H Q->
  wpAny (az X.prog X.w) X.A (f v) (EP X pins σ Q) X.xe s
def Zbr(X:Cx)(f:ah)(r:List V->Hp->VK->Prop):Prop:=
 ∀(pins:Pn)(s:aC)(σ:St)(H:Hp)(xs:List V)(us:List ah)(Q:VK),Inv X pins σ H s->ZR xs us->r xs H Q->
  wpAny (az X.prog X.w) X.A (call f us) (EP X pins σ Q) X.xe s
noncomputable def tOp(r:R2)(ta tb:TE):TE:=fun σ H Q=>ta σ H fun x H1=>tb σ H1 fun y H2=>r x y H2 Q
noncomputable def tUn(r:V->Hp->VK->Prop)(ta:TE):TE:=fun σ H Q=>ta σ H fun x H1=>r x H1 Q
noncomputable def rI(C:Int->Int->Prop)(g:Int->Int->V):R2:=fun x y H Q=>∃i j,x=.int i/\y=.int j/\C i j/\Q (g i j) H
noncomputable def rI0(g:Int->Int->V):R2:=fun x y H Q=>∃i j,x=.int i/\y=.int j/\Q (g i j) H
noncomputable def rU(g:Int->V):V->Hp->VK->Prop:=fun x H Q=>∃i,x=.int i/\Q (g i) H
theorem Zq4(ha:PE X a ta)(hb:PE X b tb){R:V->V->Hp->Prop}(I:Inv X pins σ H s)(h:ta σ H fun x H1=>tb σ H1 fun y H2=>R x y H2){f:ah->ah->Sem ah}(hf:∀v u s2 x y H2,Inv X pins σ H2 s2->ZY x v->ZY y u->R x y H2->wpAny (az X.prog X.w) X.A (f v u) Q X.xe s2):wpAny (az X.prog X.w) X.A (eval a X.env) (fun v s₁=>wpAny (az X.prog X.w) X.A (eval b X.env) (fun u s₂=>wpAny (az X.prog X.w) X.A (f v u) Q X.xe s₂) X.xe s₁) X.xe s:=by
 refine thn (ha pins s σ H _ I h) fun v s1 hz=>?_;obtain⟨x,H1,I1,r1,q1⟩:=hz;refine thn (hb pins s1 σ H1 _ I1 q1) fun u s2 hz=>?_;obtain⟨y,H2,I2,r2,q2⟩:=hz;exact hf v u s2 x y H2 I2 r1 r2 q2
theorem Zrv(ho:OpR X (d9 op) r)(ha:PE X a ta)(hb:PE X b tb):PE X (.BinOp a op b pos) (tOp r ta tb):=by
 intro pins s σ H Q I h;exact wpAny_BinOp (Zq4 ha hb I h fun v u s2 x y H2 I2 rx ry q=>ho pins s2 σ H2 x y v u Q I2 rx ry q)
theorem Zoi(ho:UnR X (unaryOp op) r)(ha:PE X a ta):PE X (.UnaryOp op a pos) (tUn r ta):=by
 intro pins s σ H Q I h;exact UnaryOp_ (thn (ha pins s σ H _ I h) fun v s1 ⟨x,H1,I1,r1,q1⟩=>ho pins s1 σ H1 x v Q I1 r1 q1)
theorem opI{g:Int->Int->Int}(rule:∀(i j:Int)(t u:Tok)(s:aC)(Q:Vp)(E:Vp),C i j->Q (.int (g i j) s.toks) {s with toks:=s.toks+1}->wpAny (az X.prog X.w) X.A (f (.int i t) (.int j u)) Q E s):OpR X f (rI C fun i j=>.int (g i j)):=by
 intro pins s σ H x y v u Q I rx ry h;obtain⟨i,j,rfl,rfl,hc,q⟩:=h;obtain⟨t,rfl⟩:=rx;obtain⟨t',rfl⟩:=ry;exact rule i j t t' s _ _ hc ⟨.int (g i j),H,I.tok _,⟨_,rfl⟩,q⟩
theorem Zte{g:Int->Int->Int}(rule:∀(i j:Int)(t u:Tok)(s:aC)(Q:Vp)(E:Vp),Q (.int (g i j) s.toks) {s with toks:=s.toks+1}->wpAny (az X.prog X.w) X.A (f (.int i t) (.int j u)) Q E s):OpR X f (rI0 fun i j=>.int (g i j)):=by
 intro pins s σ H x y v u Q I rx ry h;obtain⟨i,j,rfl,rfl,q⟩:=h;obtain⟨t,rfl⟩:=rx;obtain⟨t',rfl⟩:=ry;exact rule i j t t' s _ _ ⟨.int (g i j),H,I.tok _,⟨_,rfl⟩,q⟩
theorem Zq5{g:Int->Int->Bool}(rule:∀(i j:Int)(t u:Tok)(s:aC)(Q:Vp)(E:Vp),Q (.bool (g i j)) s->wpAny (az X.prog X.w) X.A (f (.int i t) (.int j u)) Q E s):OpR X f (rI0 fun i j=>.bl (g i j)):=by
 intro pins s σ H x y v u Q I rx ry h;obtain⟨i,j,rfl,rfl,q⟩:=h;obtain⟨t,rfl⟩:=rx;obtain⟨t',rfl⟩:=ry;exact rule i j t t' s _ _ ⟨.bl (g i j),H,I,rfl,q⟩
noncomputable def Ztf(i j:Int):Prop:=0<=j/\j<=1000000/\i.natAbs<2^64
noncomputable def Ztg(i j:Int):Prop:=(-(2^64)<i/\i<2^64)\/(-(2^64)<j/\j<2^64)
theorem Ztg.ok(h:Ztg i j):IntMulOk i j:=by
 rcases h with⟨h1,h2⟩|⟨h1,h2⟩
 ·exact .of_left (iP h1 h2)
 ·exact .of_right (iP h1 h2)
theorem Zoj:OpR X (d9 .Add) (rI0 fun i j=>.int (i+j)):=Zte fun _ _ _ _ _ _ _ q=>add_int q
theorem Zok:OpR X (d9 .Sub) (rI0 fun i j=>.int (i-j)):=Zte fun _ _ _ _ _ _ _ q=>sub_int q
theorem Zmh:OpR X (d9 .Mod) (rI (fun _ j=>j≠0) fun i j=>.int (i.fmod j)):=opI fun _ _ _ _ _ _ _ hc q=>mod_int' hc q
theorem Zol:OpR X (d9 .Pow) (rI Ztf fun i j=>.int (i^j.toNat)):=opI fun _ _ _ _ _ _ _ hc q=>pow_int_small hc.1 hc.2.1 hc.2.2 q
theorem unI{g:Int->Int}(rule:∀(i:Int)(t:Tok)(s:aC)(Q:Vp)(E:Vp),Q (.int (g i) s.toks) {s with toks:=s.toks+1}->wpAny (az X.prog X.w) X.A (f (.int i t)) Q E s):UnR X f (rU fun i=>.int (g i)):=by
 intro pins s σ H x v Q I rx h;obtain⟨i,rfl,q⟩:=h;obtain⟨t,rfl⟩:=rx;exact rule i t s _ _ ⟨.int (g i),H,I.tok _,⟨_,rfl⟩,q⟩
theorem Zlm:UnR X (unaryOp .USub) (rU fun i=>.int (-i)):=unI fun _ _ _ _ _ q=>neg_int q
theorem Zom(I:Inv X pins σ H s)(q:Q (.bl k) H)(e:k=k'):EP X pins σ Q (.bool k') s:=by
 subst e;exact⟨.bl k,H,I,rfl,q⟩
theorem Zdk:OpR X (cE .Lt) (rI0 fun i j=>.bl (decide (i<j))):=Zq5 fun _ _ _ _ _ _ _ q=>lt_int q
theorem Zkc:OpR X (cE .LtE) (rI0 fun i j=>.bl (decide (i<=j))):=Zq5 fun _ _ _ _ _ _ _ q=>le_int q
theorem Zci:OpR X (cE .Gt) (rI0 fun i j=>.bl (decide (j<i))):=Zq5 fun _ _ _ _ _ _ _ q=>gt_int q
theorem Zon:OpR X (cE .GtE) (rI0 fun i j=>.bl (decide (j<=i))):=Zq5 fun _ _ _ _ _ _ _ q=>ge_int q
theorem Zh7:OpR X (cE .In) (fun x y H Q=>∃i j,x=.str i/\y=.str j/\Q (.bl (!(ba j i 0 j.length 1).isEmpty)) H):=by
 intro pins s σ H x y v u Q I rx ry h;obtain⟨i,j,rfl,rfl,q⟩:=h;obtain⟨t,rfl⟩:=rx;obtain⟨t',rfl⟩:=ry;exact in_str (Zom I q rfl)
theorem OpR.or(h:OpR X f r)(h':OpR X f r'):OpR X f (fun x y H Q=>r x y H Q\/r' x y H Q):=by
 intro pins s σ H x y v u Q I rx ry q;rcases q with q|q
 ·exact h pins s σ H x y v u Q I rx ry q
 ·exact h' pins s σ H x y v u Q I rx ry q
theorem Zln(b:Expr)(h:autoParam (op≠ .In) Qde._auto_1)(h2:autoParam (op≠ .NotIn) Qde._auto_1):fV op b=false:=by
 have e1:(op==CmpOp.In)=false:=by cases op<;>first|rfl|exact absurd rfl h
 have e2:(op==CmpOp.NotIn)=false:=by cases op<;>first|rfl|exact absurd rfl h2
 cases b<;>simp[fV,e1,e2]
theorem Zmi(ho:OpR X (cE op) r)(ha:PE X a ta)(hb:PE X b tb)(hm:fV op b=false):PE X (.Compare a [op] [b] pos) (tOp r ta tb):=by
 intro pins s σ H Q I h;exact wpAny_Compare1 (Zq4 ha hb I h fun v u s2 x y H2 I2 rx ry q=>ho pins s2 σ H2 x y v u Q I2 rx ry q) hm
noncomputable def Zoo(t:TE):TT:=fun σ H Q=>t σ H fun x H'=>∃k,x=.bl k/\Q k H'
theorem Zmj(ho:OpR X (cE op) r)(ha:PE X a ta)(hb:PE X b tb)(hm:fV op b=false):PT X (.Compare a [op] [b] pos) (Zoo (tOp r ta tb)):=by
 intro pins s σ H Q I h;refine wpAny_isTrue_Compare1 (thn (ha pins s σ H _ I h) fun v s1 ⟨x,H1,I1,r1,q1⟩=>thn (hb pins s1 σ H1 _ I1 q1) fun u s2 ⟨y,H2,I2,r2,q2⟩=>thn (ho pins s2 σ H2 x y v u _ I2 r1 r2 q2) fun c s3 ⟨z,H3,I3,r3,k,e,q3⟩=>?_) hm
 subst e;cases r3;exact cJ ⟨H3,I3,q3⟩
noncomputable def Zlo(r r':R2)(ta tb tc:TE):TE:=fun σ H Q=>ta σ H fun x H1=>tb σ H1 fun y H2=>r x y H2 fun z H3=>∃k,z=.bl k/\
 (if k=true then tc σ H3 fun w' H4=>r' y w' H4 Q else Q (.bl false) H3)
theorem Zkd(ho:OpR X (cE op) r)(ho':OpR X (cE op') r')(ha:PE X a ta)(hb:PE X b tb)(hc:PE X c tc)(hm:lastMarks [op,op'] [b,c]=false:=by with_unfolding_all rfl):PE X (.Compare a [op,op'] [b,c] pos) (Zlo r r' ta tb tc):=by
 intro pins s σ H Q I h;refine Compare_chain (thn (ha pins s σ H _ I h) fun v s1 ⟨x,H1,I1,r1,q1⟩=>chain_link (thn (hb pins s1 σ H1 _ I1 q1) fun u s2 ⟨y,H2,I2,r2,q2⟩=>thn (ho pins s2 σ H2 x y v u _ I2 r1 r2 q2) fun d s3 ⟨z,H3,I3,r3,k,e,q3⟩=>?_)) hm
 subst e;cases r3;refine cJ ?_;cases k with
 |false=>exact ite_ff ⟨.bl false,H3,I3,rfl,q3⟩
 |true=>exact ite_tt (chain_last (thn (hc pins s3 σ H3 _ I3 q3) fun w' s4 ⟨z',H4,I4,r4,q4⟩=>ho' pins s4 σ H4 y z' u w' Q I4 r2 r4 q4))
theorem Zff:(sizeLine:Nat)<2^63:=by rw[fB];decide
theorem Zhn:OpR X (d9 .Add) (fun x y H Q=>∃i j,x=.str i/\y=.str j/\i.length+j.length<=sizeLine/\Q (.str (i++j)) H):=by
 intro pins s σ H x y v u Q I rx ry h;obtain⟨i,j,rfl,rfl,hz,q⟩:=h;obtain⟨t,rfl⟩:=rx;obtain⟨t',rfl⟩:=ry;exact add_str (fun t' tk=>⟨.str (i++j),H,I.tok _,⟨_,rfl⟩,q⟩) hz
noncomputable def Zgw(b:Expr):Prop:=∀o i,lj b false o i=operate [o,i] (jc o i)
theorem Zf1(ha:PE X a ta)(hb:PE X b tb)(hs:Zgw b):PE X (.Subscript a b pos) (tOp (fun x y H Q=>∃z i c,x=.str z/\y=.int i/\0<=i/\i<2^63/\i<z.length/\z.cps[i.toNat]?=some c/\Q (.str ⟨#[c]⟩) H) ta tb):=by
 intro pins s σ H Q I h;refine Subscript_ (Zq4 ha hb I h fun v u s2 x y H2 I2 rx ry q=>?_);obtain⟨z,i,c,rfl,rfl,h0,h63,h1,hc,q⟩:=q;obtain⟨t,rfl⟩:=rx;obtain⟨t',rfl⟩:=ry;have e:seqIndex? i z.length=some i.toNat:=PySem.StrLaws.seqIndex_nonneg h0 h1;exact tail_any (iz s2 z t) slot_str_getitem.lookup (getItem_str (c:=c) (by
  have e1:decide (i < -(2^63:Int))=false:=decide_eq_false (by lia)
  have e2:decide (i ≥ 2^63)=false:=decide_eq_false (by lia)
  rw[e1,e2]<;>rfl) (by rw[e];exact hc) ⟨.str ⟨#[c]⟩,H2,I2.tok _,⟨_,rfl⟩,q⟩) (hs _ _)
theorem ZbV(r:ZR [x] us):∃u,us=[u]/\ZY x u:=by
 cases r with
 |cons r1 r2=>cases r2;exact⟨_,rfl,r1⟩
theorem Zh8(r:ZR [x,y] us):∃u w',us=[u,w']/\ZY x u/\ZY y w':=by
 cases r with
 |cons r1 r2=>
  cases r2 with
  |cons r3 r4=>cases r4;exact⟨_,_,rfl,r1,r3⟩
theorem ZaA:Zbr X (.builtin "abs") (fun xs H Q=>∃i,xs=[.int i]/\Q (.int (if i<0 then -i else i)) H):=by
 intro pins s σ H xs us Q I r h;obtain⟨i,rfl,q⟩:=h;obtain⟨u,rfl,t,rfl⟩:=ZbV r;exact call_abs_int fun u tk=>⟨.int (if i<0 then -i else i),H,I.tok _,⟨_,rfl⟩,q⟩
theorem Zh9(hc:X.calm=true):Zbr X (.builtin "max") (fun xs H Q=>∃i j,xs=[.int i,.int j]/\Q (.int (if j>i then j else i)) H):=by
 intro pins s σ H xs us Q I r h;obtain⟨i,j,rfl,q⟩:=h;obtain⟨u,w',rfl,⟨t,rfl⟩,⟨t',rfl⟩⟩:=Zh8 r;refine max_two_ints (I.ok.hd hc) fun h' tk k=>⟨_,H,I.kept k,?_,q⟩;by_cases hj:j>i
 ·rw[if_pos hj,if_pos hj];exact⟨_,rfl⟩
 ·rw[if_neg hj,if_neg hj];exact⟨_,rfl⟩
theorem Zia(hc:X.calm=true):Zbr X (.builtin "min") (fun xs H Q=>∃i j,xs=[.int i,.int j]/\Q (.int (if j<i then j else i)) H):=by
 intro pins s σ H xs us Q I r h;obtain⟨i,j,rfl,q⟩:=h;obtain⟨u,w',rfl,⟨t,rfl⟩,⟨t',rfl⟩⟩:=Zh8 r;refine min_two_ints (I.ok.hd hc) fun h' tk k=>⟨_,H,I.kept k,?_,q⟩;by_cases hj:j<i
 ·rw[if_pos hj,if_pos hj];exact⟨_,rfl⟩
 ·rw[if_neg hj,if_neg hj];exact⟨_,rfl⟩
theorem ZaX:Zbr X (.type "int") (fun xs H Q=>(∃i,xs=[.int i]/\Q (.int i) H)\/∃k,xs=[.bl k]/\Q (.int (if k then 1 else 0)) H):=by
 intro pins s σ H xs us Q I r h;rcases h with⟨i,rfl,q⟩|⟨k,rfl,q⟩
 ·obtain⟨u,rfl,t,rfl⟩:=ZbV r;exact call_int_int ⟨.int i,H,I,⟨_,rfl⟩,q⟩
 ·obtain⟨u,rfl,r1⟩:=ZbV r;cases r1;exact call_int_bool ⟨.int (if k then 1 else 0),H,I.tok _,⟨_,rfl⟩,q⟩
theorem Z2:Zbr X (.type "str") (fun xs H Q=>∃i,xs=[.int i]/\i.natAbs.log2<1920/\Q (.str (toString i)) H):=by
 intro pins s σ H xs us Q I r h;obtain⟨i,rfl,hz,q⟩:=h;obtain⟨u,rfl,t,rfl⟩:=ZbV r;exact PySem.P.str_of_int hz ⟨.str _,H,I.tok _,⟨_,rfl⟩,q⟩
noncomputable def Zlp(f:Str)(v:V):List (Str×V)->List (Str×V)
 |[]=>[(f,v)]
 | (g,x)::r=>if g=f then(g,v)::r else(g,x)::Zlp f v r
theorem Zdl(f g:Str)(v:V):∀fs:List (Str×V),(Zlp f v fs).lookup g=if g=f then some v else fs.lookup g
 |[]=>by
  show dP g [(f,v)]=_;by_cases h:g=f
  ·have hb:(g==f)=true:=beq_iff_eq.mpr h;simp only[dP,hb,if_pos h]
  ·have hb:(g==f)=false:=beq_eq_false_iff_ne.mpr h;simp only[dP,hb,if_neg h]
 | (k,x)::r=>by
  have ih:=Zdl f g v r;rw[show Zlp f v ((k,x)::r)=(if k=f then(k,v)::r else(k,x)::Zlp f v r)from rfl]
  by_cases hk:k=f
  ·rw[if_pos hk];by_cases h:g=k
   ·have hb:(g==k)=true:=beq_iff_eq.mpr h;simp only[dP,hb,if_pos (h.trans hk)]
   ·have hb:(g==k)=false:=beq_eq_false_iff_ne.mpr h;simp only[dP,hb,if_neg (fun e:g=f=>h (e.trans hk.symm))]
  ·rw[if_neg hk];by_cases h:g=k
   ·have hb:(g==k)=true:=beq_iff_eq.mpr h;simp only[dP,hb,if_neg (fun e:g=f=>hk (h.symm.trans e))]
   ·have hb:(g==k)=false:=beq_eq_false_iff_ne.mpr h;simp only[dP,hb];exact ih
theorem Zn2.none_of(r:Zn2 none o):o=none:=by
 cases o with
 |none=>rfl
 |some u=>exact(show False from r).elim
structure Room(k:Nat) (A:dc):Prop where
 hd:100<=k->A.handled=none
 gd:A.guards=some []
 dp:A.depth+3*k+5<recursionLimit
 un:A.units+16*k+200<jo
theorem Room.mono(r:Room k A)(h:j<=k):Room j A:=⟨fun z=>r.hd (aE z h),r.gd,by have:=r.dp;lia,by have:=r.un;lia⟩
theorem Room.deeper(r:Room (k+1) A)(env:Env):Room k (A.deeper env):=
 ⟨fun z=>r.hd (Nat.le_succ_of_le z),r.gd,by have:=r.dp;show A.depth+1+3*k+5<_;lia,by have:=r.un;show A.units+3+16*k+200<_;lia⟩
theorem Zho{A:dc}:(A.under (.builtin "type.__call__" ⟨.ref C::us,kw⟩)).depth=A.depth+1:=by
 first|rfl|simp[kH,Code.weight,Code.isCreation,Code.isGuard,Code.isCaller,Code.frames,kJ,guardIds]
theorem Zhp{A:dc}:(A.under (.builtin "type.__call__" ⟨.ref C::us,kw⟩)).units=A.units+1:=by
 first|rfl|simp[kH,Code.cUnits,Code.frames,kJ]
theorem Room.make(r:Room (k+1) A)(C:Addr)(us:List ah)(kw:List (Str×ah)):Room k (A.under (.builtin "type.__call__" ⟨.ref C::us,kw⟩)):=
 ⟨fun z=>r.hd (Nat.le_succ_of_le z),r.gd,by have:=r.dp;rw[Zho];lia,by have:=r.un;rw[Zhp];lia⟩
theorem Room.depth(r:Room k A):A.depth<recursionLimit:=by have:=r.dp;lia
theorem Room.units(r:Room k A):A.units+64<jo:=by have:=r.un;lia
noncomputable def tNil:TA:=fun _ H Q=>Q [] H
noncomputable def Zrw(ta:TE)(tr:TA):TA:=fun σ H Q=>ta σ H fun x H1=>tr σ H1 fun xs H2=>Q (x::xs) H2
theorem Zgx:PA X [] tNil:=fun _ _ _ _ H Q I h=>Calls.spliced_nil ⟨[],H,I,.nil,h⟩
theorem Zb3(ha:PE X e te)(hr:PA X es t)(hs:autoParam (af (e::es) X.env=(false,eval e X.env)::af es X.env) Qrf._auto_1):PA X (e::es) (Zrw te t):=by
 intro pos pins s σ H Q I h;rw[hs];show wpAny _ _ (spliced ((false,eval e X.env)::bT pos (af es X.env))) _ _ s;refine Calls.spliced_cons (thn (ha pins s σ H _ I h) fun u s1 hz=>?_);obtain⟨x,H1,I1,r1,q1⟩:=hz;exact thn (hr pos pins s1 σ H1 _ I1 q1) fun us s2 ⟨xs,H2,I2,r2,q2⟩=>⟨x::xs,H2,I2,.cons r1 r2,q2⟩
def Zt2(t:TA):TE:=fun σ H Q=>t σ H fun xs H1=>xs.length<=sizeLine/\∀p,H1 p=none->Q (.ref p) (upd H1 p (.tup xs))
def Zt3(t:TA):TE:=fun σ H Q=>t σ H fun xs H1=>xs.length<=sizeLine/\∀p,H1 p=none->Q (.ref p) (upd H1 p (.lst xs))
theorem Zop{x1}(h:PA X es t):PE X (.Tuple es x1 pos) (Zt2 t):=by
 intro pins s σ H Q I hq;refine wpAny_Tuple_spliced (thn (h pos pins s σ H _ I hq) fun us s1 ⟨xs,H1,I1,r,z,q⟩=>⟨by rw[<-r.length];exact z,?_⟩)
 have hf:H1 s1.heap.objs.size=none:=I1.hok.fresh (au _);refine⟨.ref s1.heap.objs.size,upd H1 s1.heap.objs.size (.tup xs),I1.laid (t':=s1.toks) (fun b u e=>Hq _ e) (au _) ?_,rfl,q _ hf⟩;exact⟨z,us,r,⟨_,aW _ rfl,rfl,_,rfl⟩⟩
theorem Zoq(h:PA X es t):PE X (.List es pos) (Zt3 t):=by
 intro pins s σ H Q I hq;refine wpAny_List_spliced (thn (h pos pins s σ H _ I hq) fun us s1 ⟨xs,H1,I1,r,z,q⟩=>⟨by rw[<-r.length];exact z,?_⟩)
 have hf:H1 s1.heap.objs.size=none:=I1.hok.fresh (au _);refine⟨.ref s1.heap.objs.size,upd H1 s1.heap.objs.size (.lst xs),I1.laid (t':=s1.toks) (fun b u e=>Hq _ e) (au _) ?_,rfl,q _ hf⟩;exact⟨z,us,0,r,aW _ rfl⟩
abbrev Sp:=List V->Hp->VK->XK->Prop
abbrev CXT:=List Env->Hp->aC->XK->ah->aC->Prop
structure Env0(P:cF) (w:df) (K:Fg) (mg:Str->Option ah) (base:Heap) (A:dc) (outer:List Env) (s:aC) (H:Hp):Prop where
 frames:A.frames=some outer
 mod:Mod K mg base
 bs:∀b o,base.get? b=some o->s.heap.get? b=some o/\H b=none
 bsz:base.objs.size<=s.heap.objs.size
 funs:s.heap.FunFrames base outer
 frf:∀b∈frs outer,H b=none
 hok:HOk P w H s.heap
 bare:d6 s.gens
 qd:Qd A H
 tb:Tbs K H
def CE(outer:List Env)(P:cF)(w:df)(H:Hp)(s:aC)(Q:VK)(u:ah)(s':aC):Prop:=
 ∃v H',s'.os=s.os/\d6 s'.gens/\Un (frs outer) [] H H' s.heap s'.heap/\HOk P w H' s'.heap/\ZY v u/\Q v H'
def CR(CX:CXT)(outer:List Env)(P:cF)(w:df)(H:Hp)(s:aC)(Q:VK)(E:XK)(r:Result)(s':aC):Prop:=
 match r with
 |.ok (.ret u)=>CE outer P w H s Q u s'
 |.ok _=>False
 |.error e=>CX outer H s E e s'
structure FnOk(P:cF) (w:df) (K:Fg) (mg:Str->Option ah) (base:Heap) (CX:CXT) (k:Nat) (f:Addr) (fd:gq) (ps:List Str) (sp:Sp):Prop where
 len:∀vs H Q E,sp vs H Q E->vs.length=ps.length
 run:∀(A:dc)(outer:List Env)(s:aC)(H:Hp)(args:Args)(us:List ah)(vs:List V)(Q:VK)(E:XK),Room k A->Env0 P w K mg base A outer s H->j8 s fd args (ps.zip us)->ZR vs us->sp vs H Q E->
  gx (az P w) A (.call (.ref f) args) (CR CX outer P w H s Q E) s
theorem Env0.make{K:Fg}(e:Env0 P w K mg base A outer s H)(C:Addr)(us:List ah)(kw:List (Str×ah)):Env0 P w K mg base (A.under (.builtin "type.__call__" ⟨.ref C::us,kw⟩)) outer s H:=⟨by first|exact e.frames|(simpa [kH,Code.envs,kJ,pushEnvs]using e.frames),e.mod,e.bs,e.bsz,e.funs,e.frf,e.hok,e.bare,e.qd,e.tb⟩
theorem Inv.env0(I:Inv X pins σ H s):Env0 X.prog X.w X.K X.mg X.base X.A X.stack s H:=
 ⟨I.ok.frames,I.ok.mod,I.bs,aE I.ok.bsz I.sz,I.stack,I.stkFree,I.hok,I.bare,I.qd,I.ok.tb.un I.base⟩
theorem Inv.after(I:Inv X pins σ H s)(h:CE X.stack X.prog X.w H s Q u s'):EP X pins σ Q u s':=by
 obtain⟨v,H',os,bare,un,hok,r,q⟩:=h;obtain⟨hh,g,d,t,os'⟩:=s';obtain rfl:os'=s.os:=os;exact⟨v,H',I.call (h':=hh) (g':=g) (d':=d) (t':=t) (ch:=[]) un hok bare (fun b z=>absurd z (by simp)),r,q⟩
noncomputable def Zrx(sp:Sp)(dvs:List V)(E:XK)(t:TA):TE:=fun σ H Q=>t σ H fun vs H1=>sp (vs++dvs) H1 Q E
noncomputable def Zeo(K:Fg)(fd:gq)(ps:List Str)(ds:List ah):Prop:=
 ∀(s:aC)(us:List ah),K.In s.heap->(us++ds).length=ps.length->j8 s fd ⟨us,[]⟩ (ps.zip (us++ds))
theorem Zeo.all{K:Fg}(h:∀us:List ah,us.length=ps.length->bindArgs fd ⟨us,[]⟩=pure (ps.zip us)):Zeo K fd ps []:=fun s us _ hl=>by
 rw[aY]at hl ⊢;exact .of_eq (h us hl)
def Zib(CX:CXT)(X:Cx)(E:XK):Prop:=∀(pins:Pn)(σ:St)(H:Hp)(s:aC)(e:ah)(s':aC),Inv X pins σ H s->CX X.stack H s E e s'->X.xe e s'
theorem Zic(F:FnOk X.prog X.w X.K X.mg X.base CX k f fd ps sp)(hr:Room k X.A)(hb:Zeo X.K fd ps ds)(hd:ZR dvs ds)(hx:Zib CX X E)(I:Inv X pins σ H s)(r:ZR vs us)(h:sp (vs++dvs) H Q E):wpAny (az X.prog X.w) X.A (call (.ref f) us) (EP X pins σ Q) X.xe s:=by
 have r2:ZR (vs++dvs) (us++ds):=r.append hd;have hl:(us++ds).length=ps.length:=by rw[<-r2.length];exact F.len _ _ _ _ h
 refine iA (jd (F.run X.A X.stack s H ⟨us,[]⟩ (us++ds) (vs++dvs) Q E hr I.env0 (hb s us I.kIn hl) r2 h) fun r s' hq=>?_);cases r with
 |error e=>exact hx pins σ H s e s' I hq
 |ok fl=>
  cases fl with
  |ret u=>exact I.after hq
  |next=>exact cm hq
  |brk=>exact cm hq
  |cont=>exact cm hq
theorem Zmk(F:FnOk X.prog X.w X.K X.mg X.base CX k f fd ps sp)(hr:Room k X.A)(hg:Gl X x)(hm:X.mg x=some (.ref f))(hk:PySem.W.keepIn X.K (.ref f)=true)(hb:Zeo X.K fd ps ds)(hd:ZR dvs ds)(hx:Zib CX X E)(ha:PA X (e::es) t)(hdb:autoParam ((x==("__debug__":Str))=false) Qde._auto_1)(he:autoParam (af (e::es) X.env=(false,eval e X.env)::af es X.env) Qrf._auto_1)(hpl:autoParam ((bT pos (af es X.env)).any (·.1)=false) Qrf._auto_1):
  PE X (.Call (.Name x p) (e::es) [] pos) (Zrx sp dvs E t):=by
 intro pins s σ H Q I h;refine wpAny_Call_Name_kw (Zdi I hg hm ?_ hdb);refine PySem.W.callWith_K (h₀:=X.base) I.ok.mod.kin hk (thn (ha pos pins s σ H _ I h) fun us s1 ⟨vs,H1,I1,r,q⟩=>⟨I1.kIn,?_⟩) he hpl;exact Zic F hr hb hd hx I1 r q
structure FnScope(N P:List Str) (sc:jD):Prop where
 kind:sc.kind=.function
 co:sc.isCoroutine=false
 gen:sc.isGenerator=false
 nd:N.Nodup
 pre:N.take P.length=P
 par:∀x∈P,sc.names.lookup x=some .local\/sc.names.lookup x=some .cell
 nofree:∀y∈sc.names,y.2≠ .free
theorem Zfg{kindOf:Str->Option c7}{x:Str}:∀{binds:List (Str×ah)} {m:Str->Option ah},(∀v,(x,v)∉binds)->bindL kindOf binds m x=m x
 |[],_,_=>rfl
 | (n,v)::r,m,h=>by
  unfold bindL;rw[Zfg fun w hw=>h w (ak _ hw)];split
  ·have:x≠n:=by rintro rfl;exact h v aO
   simp[this]
  ·rfl
theorem Zfh{kindOf:Str->Option c7}{x:Str}:∀{binds:List (Str×ah)} {m:Str->Option ah},(∀v,(x,v)∉binds)->bindC kindOf binds m x=m x
 |[],_,_=>rfl
 | (n,v)::r,m,h=>by
  unfold bindC;rw[Zfh fun w hw=>h w (ak _ hw)];split
  ·rfl
  ·have:x≠n:=by rintro rfl;exact h v aO
   simp[this]
theorem Zfi{kindOf:Str->Option c7}{x:Str}{v:ah}:∀{P:List Str}{vs:List ah}{i:Nat}{m:Str->Option ah},P.Nodup->P[i]?=some x->vs[i]?=some v->kindOf x=some .local->bindL kindOf (P.zip vs) m x=some v
 |[],_,_,_,_,h,_,_=>by simp at h
 |_::_,[],_,_,_,_,h,_=>by simp at h
 |p::P,w::vs,0,m,nd,h1,h2,hk=>by
  simp at h1 h2;subst h1;subst h2;show bindL kindOf ((p,w)::P.zip vs) m p=_;unfold bindL;rw[Zfg fun v hv=>(hW.mp nd).1 (jp hv).1,if_pos hk];simp
 |p::P,w::vs,i+1,m,nd,h1,h2,hk=>by
  show bindL kindOf ((p,w)::P.zip vs) m x=_;unfold bindL;exact Zfi (i:=i) (hW.mp nd).2 (by simpa using h1) (by simpa using h2) hk
theorem Zfj{kindOf:Str->Option c7}{x:Str}{v:ah}:∀{P:List Str}{vs:List ah}{i:Nat}{m:Str->Option ah},P.Nodup->P[i]?=some x->vs[i]?=some v->kindOf x≠some .local->bindC kindOf (P.zip vs) m x=some v
 |[],_,_,_,_,h,_,_=>by simp at h
 |_::_,[],_,_,_,_,h,_=>by simp at h
 |p::P,w::vs,0,m,nd,h1,h2,hk=>by
  simp at h1 h2;subst h1;subst h2;show bindC kindOf ((p,w)::P.zip vs) m p=_;unfold bindC;rw[Zfh fun v hv=>(hW.mp nd).1 (jp hv).1,if_neg hk];simp
 |p::P,w::vs,i+1,m,nd,h1,h2,hk=>by
  show bindC kindOf ((p,w)::P.zip vs) m x=_;unfold bindC;exact Zfj (i:=i) (hW.mp nd).2 (by simpa using h1) (by simpa using h2) hk
noncomputable def start(N:List Str)(vs:List V):St:=vs.map some++aB (N.length-vs.length) none
noncomputable def Zhq(CX:CXT)(P:cF)(w:df)(K:Fg)(mg:Str->Option ah)(base:Heap)(N:List Str)(qual:Str)(scope:jD)(f:Addr)(cd:ah)(A:dc)(outer:List Env)(s:aC)(H:Hp)(E:XK):Cx where
 prog:=P
 w:=w
 K:=K
 mg:=mg
 base:=base
 A:=A.deeper (iQ qual scope s.heap.objs.size f cd)
 N:=N
 s₀:=s
 H₀:=H
 env:=iQ qual scope s.heap.objs.size f cd
 outer:=outer
 stack:=iQ qual scope s.heap.objs.size f cd::outer
 ex:=[]
 calm:=A.handled.isNone
 fxs:=none
 fn:=fun _=>true
 pn:=[]
 xe:=fun e s'=>wpAny (az P w) (A.deeper (iQ qual scope s.heap.objs.size f cd)) (j9 (iQ qual scope s.heap.objs.size f cd) e) (fun _ s''=>CX outer H s E e s'') (fun e' s''=>CX outer H s E e' s'') s'
theorem Zgy{sc:jD}(h:sc.names.lookup x=some .cell):∃c,(bD n sc.names []).lookup x=some c:=by
 have q:=PySem.W.cellsFrom_some sc.names n [] (.inl h);exact bP.mp q
theorem Zid{K:Fg}(S:FnScope N ps scope)(e0:Env0 P w K mg base A outer s H)(hl:vs.length=ps.length)(r:ZR vs us)(x:InCallC s s.heap.objs.size (bindL (iQ qual scope s.heap.objs.size f cd).kindOf (ps.zip us) fun _=>none) (bD (s.heap.objs.size+1) scope.names []) (bindC (iQ qual scope s.heap.objs.size f cd).kindOf (ps.zip us) fun _=>none) s1):Inv (Zhq CX P w K mg base N qual scope f cd A outer s H E) [] (start N vs) H s1:=by
 have hpl:ps.length<=N.length:=by have:=congrArg dQ S.pre;rw[bF]at this;lia
 obtain⟨h1,tk,rfl,hk⟩:=x.done;have noA:∀b:Addr,b∉(Zhq CX P w K mg base N qual scope f cd A outer s H E).ex:=fun b z=>absurd (show b∈([]:List Addr)from z) (by simp)
 refine⟨⟨e0.mod,S.kind,rfl,rfl,au _,fun y z c h1 h2=>?_,fun y hy=>?_,fun y c _ h=>?_,fun z=>fQ.mp z,dc.frames_deeper e0.frames,.inr ⟨rfl,rfl⟩,fun b z=>absurd z (noA b),e0.bs,e0.bsz,fun b _ _=>noA b,fun b z=>absurd z (noA b),e0.funs,e0.frf,e0.tb⟩,rfl,e0.bare,Un.kept hk,⟨_,x.toInCall.ns,fun i y v h1 h2 h3=>?_⟩,fun y c h=>⟨_,x.cell y c h⟩,e0.hok.fresh (au _),fun y c h=>?_,fun p hp=>absurd (show p∈([]:Pn)from hp) (by simp),e0.hok.kept hk,?_,e0.qd,.free rfl⟩
 ·exact name_of_addr x.apart (PySem.mem_of_lookup h1) (PySem.mem_of_lookup h2)
 ·have hy:scope.names.lookup y=some .cell\/scope.names.lookup y=some .free:=hy;rcases hy with hy|hy
  ·exact Zgy hy
  ·exact absurd rfl (S.nofree _ (PySem.mem_of_lookup hy))
 ·exact gp (x.above y c (PySem.mem_of_lookup h))
 ·have hi:i<vs.length:=by
   unfold start at h2;by_cases hi:i<vs.length
   ·exact hi
   ·rw[aM (by simpa using hi)]at h2
    rw[f9]at h2
    split at h2<;>cases h2
  have ha:vs[i]?=some v:=by
   unfold start at h2;rw[aH (by simpa using hi),a7]at h2
   cases e:vs[i]? with
   |none=>rw[e]at h2;cases h2
   |some a=>rw[e]at h2;cases h2;rfl
  obtain⟨u,hu,rv⟩:=r.get ha;have hp:ps[i]?=some y:=by
   rw[<-S.pre,cY (by lia)];exact h1
  have ndP:ps.Nodup:=by rw[<-S.pre];exact S.nd.sublist (List.take_sublist _ _)
  refine⟨u,rv,?_⟩;rcases S.par y (c8 hp)with k|k
  ·exact .inl ⟨k,Zfi ndP hp hu k⟩
  ·obtain⟨c,e⟩:=Zgy (n:=s.heap.objs.size+1) k;refine .inr ⟨.inl k,c,e,?_⟩;have q:=x.cell y c e;rw[Zfj ndP hp hu (by show scope.names.lookup y≠_;rw[k];decide)]at q
   exact q
 ·exact e0.hok.fresh (gp (x.above y c (PySem.mem_of_lookup h)))
 ·unfold start;show _=N.length;rw[aa,ae,aZ];lia
theorem Zml{K:Fg}{kV:ah}(lk:K.lookup f=some ⟨oc,od,.func (PySem.W.fnOf name qual params body scope dV kV doc pm an cdv ct),osl⟩)(hcd:PySem.W.codeIn K cdv qual=true)(S:FnScope N ps scope)(len:∀vs H Q E,sp vs H Q E->vs.length=ps.length)(hbody:∀(A:dc)(outer:List Env)(s:aC)(H:Hp)(vs:List V)(Q:VK)(E:XK),Room k (A.deeper (iQ qual scope s.heap.objs.size f cdv))->sp vs H Q E->∃t,PSs (Zhq CX P w K mg base N qual scope f cdv A outer s H E) body t/\t {nx:=fun _ H'=>Q .non H',rt:=Q} (start N vs) H):FnOk P w K mg base CX (k+1) f (PySem.W.fnOf name qual params body scope dV kV doc pm an cdv ct) ps sp:=by
 refine⟨len,fun A outer s H args us vs Q E hr e0 hb r hsp=>?_⟩;have hl:=len _ _ _ _ hsp;have KX:K.In s.heap:=e0.mod.kin.keeps fun b o e=>(e0.bs b o e).1;have lim:s.heap.NoLimit:=e0.mod.nolimit.keeps fun b o e=>(e0.bs b o e).1;have hkind:∀y∈ps.zip us,scope.names.lookup y.1=some .local\/(scope.names.lookup y.1=some .cell/\((bD (s.heap.objs.size+1) scope.names []).lookup y.1).isSome=true):=fun⟨n,v⟩ hy=>by
  rcases S.par n (jp hy).1 with q|q
  ·exact .inl q
  ·exact .inr ⟨q,PySem.W.cellsFrom_some _ _ _ (.inl q)⟩
 refine codeAny_call_function hr.depth (KX _ _ lk) rfl S.co S.gen rfl (PySem.W.codeRec_of KX hcd) (hb _ _ _ _ ?_);refine wpAny_newFunctionEnv_cells S.kind hkind fun env he s1 x=>?_;subst he;refine⟨lim.keeps x.toInCall.keep,codeAny_func ?_⟩;obtain⟨t,ht,hq⟩:=hbody A outer s H vs Q E (hr.deeper _) hsp;have I:Inv (Zhq CX P w K mg base N qual scope f cdv A outer s H E) [] (start N vs) H s1:=Zid S e0 hl r x;refine wpAny_mono (ht [] s1 (start N vs) H _ I hq) (fun fl s' hs=>?_) fun e s' hs=>hs;have fin:∀{σ':St}{H':Hp}{v:V}{u:ah},Inv (Zhq CX P w K mg base N qual scope f cdv A outer s H E) [] σ' H' s'->ZY v u->Q v H'->CE outer P w H s Q u s':=
  fun{σ' H' v u} J rv q=>⟨v,H',J.os,J.bare,J.base,J.hok,rv,q⟩
 cases fl with
 |ret u=>
  obtain⟨v,σ',H',J,rv,q⟩:=hs;exact fin J rv q
 |next=>
  obtain⟨σ',H',J,q⟩:=hs;exact fin (v:=V.non) (u:=bE) J rfl q
 |brk=>
  obtain⟨_,_,_,q⟩:=hs;exact cm q
 |cont=>
  obtain⟨_,_,_,q⟩:=hs;exact cm q
section
variable {t:TA}{id:String}
noncomputable def tCB(r:List V->Hp->VK->Prop)(t:TA):TE:=fun σ H Q=>t σ H fun vs H1=>r vs H1 Q
theorem Zep(hc:Zbr X (.builtin id) r)(hg:Gl X x)(hm:X.mg x=none)(hv:bB x=some (.builtin id))(ha:PA X (e::es) t)(hn:autoParam (x≠"__name__") Qde._auto_1)(hdb:autoParam ((x==("__debug__":Str))=false) Qde._auto_1)
  (he:af (e::es) X.env=(false,eval e X.env)::af es X.env:=by rfl) (hpl:(bT pos (af es X.env)).any (·.1)=false:=by rfl):PE X (.Call (.Name x p) (e::es) [] pos) (tCB r t):=by
 intro pins s σ H Q I h;refine wpAny_Call_Name_kw (Zfd I hg hm hv ?_ hn hdb);exact PyProof.Rows.callWith_builtin1 (thn (ha pos pins s σ H _ I h) fun us s1 ⟨vs,H1,I1,r1,q1⟩=>hc pins s1 σ H1 vs us Q I1 r1 q1) he hpl
theorem Zie(hc:Zbr X (.type T) r)(hg:Gl X x)(hm:X.mg x=none)(hv:bB x=some (.type T))(ha:PA X (e::es) t)(hn:autoParam (x≠"__name__") Qde._auto_1)(hdb:autoParam ((x==("__debug__":Str))=false) Qde._auto_1)
  (he:af (e::es) X.env=(false,eval e X.env)::af es X.env:=by rfl) (hpl:(bT pos (af es X.env)).any (·.1)=false:=by rfl):PE X (.Call (.Name x p) (e::es) [] pos) (tCB r t):=by
 intro pins s σ H Q I h;refine wpAny_Call_Name_kw (Zfd I hg hm hv ?_ hn hdb);exact eZ (thn (ha pos pins s σ H _ I h) fun us s1 ⟨vs,H1,I1,r1,q1⟩=>hc pins s1 σ H1 vs us Q I1 r1 q1) he hpl
end
end L2
namespace HT
open PyProof.Rows
noncomputable def Zmm:List Int->List Int->Bool
 |[],[]=>false
 |[],_::_=>true
 |_::_,[]=>false
 |x::xs,y::ys=>if x=y then Zmm xs ys else decide (x<y)
section
open PySem.SeqAt
open PySem.AutoSeq1 (wpAny_loadPart')
open PySem.MeetsSeq PySem.MeetsSeq2 PySem.MeetsSeq3
end
theorem Zmn(ht:lx s.heap t vs.toArray)(hb:lx s.heap b ws.toArray)(hv:vs≠[])(h1:ws=[]->Q (.ref t) s)(h2:ws≠[]->Q (.ref s.heap.objs.size) {s with heap:=s.heap.push {cls:=.type "tuple",data:=.seq (vs++ws).toArray}})(hsz:vs.length+ws.length<=sizeLine):wpAny (az prog w) A (d9 .Add (.ref t) (.ref b)) Q E s:=by
 obtain⟨⟨cls,dd,data,sl⟩,ho,hc,n,hd⟩:=id ht;obtain⟨⟨cls2,dd2,data2,sl2⟩,ho2,hc2,n2,hd2⟩:=id hb;simp only at hc hd hc2 hd2;subst hc hd hc2 hd2;have e:vs.toArray++ws.toArray=(vs++ws).toArray:=by simp
 by_cases hw:ws=[]
 ·exact concat_meets ⟨_,ho,rfl⟩ ⟨_,ho2,rfl⟩ noFill_tuple_add seq_tuple_add PySem.F.slot_tuple_add PySem.F.entry_tuple_add (PySem.F.args_tuple_add_2 _ _)
   (tuple_addW1 t b vs.toArray ws.toArray n n2 dd dd2 sl sl2 (by simpa using hv) (by simp[hw])) ⟨ho,ho2,h1 hw⟩
 ·refine concat_meets ⟨_,ho,rfl⟩ ⟨_,ho2,rfl⟩ noFill_tuple_add seq_tuple_add PySem.F.slot_tuple_add PySem.F.entry_tuple_add (PySem.F.args_tuple_add_2 _ _)
   (tuple_addW2 t b vs.toArray ws.toArray n n2 dd dd2 sl sl2 (by simpa using hv) (by simpa using hw) (by rw[ar,ar];exact hsz)) ⟨ho,ho2,?_⟩
  rw[e];exact h2 hw
noncomputable def sIx(n d:Nat):Option Int->Nat
 |none=>d
 |some v=>if v<0 then(v+(n:Int)).toNat else min v.toNat n
theorem Zor(n d:Nat)(hd:d<=n)(o:Option Int):sIx n d o<=n:=by
 cases o with
 |none=>exact hd
 |some v=>
  show(if v<0 then(v+(n:Int)).toNat else min v.toNat n)<=n
  by_cases hv:v<0
  ·rw[if_pos hv];lia
  ·rw[if_neg hv];exact Nat.min_le_right _ _
theorem Zif(v:Int)(n d:Nat):(if v<0 then max (v+(n:Int)) 0 else min v (n:Int))=((sIx n d (some v):Nat):Int):=by
 show(if v<0 then max (v+(n:Int)) 0 else min v (n:Int))=(((if v<0 then(v+(n:Int)).toNat else min v.toNat n):Nat):Int)
 by_cases hv:v<0
 ·simp only[if_pos hv];lia
 ·simp only[if_neg hv];lia
theorem Zhr(lo hi:Option Int)(n:Nat):cP lo hi 1 (n:Int)=(((sIx n 0 lo:Nat):Int),((sIx n n hi:Nat):Int)):=by
 have h1:¬((1:Int)<0):=by lia
 unfold cP;simp only[h1,if_false];refine jF ?_ ?_
 ·cases lo with
  |none=>rfl
  |some v=>exact Zif v n 0
 ·cases hi with
  |none=>rfl
  |some v=>exact Zif v n n
theorem Zhs(i j:Nat):bN (i:Int) (j:Int) 1=j-i:=by
 unfold bN;have h1:(1:Int)>0:=by lia
 simp only[h1,if_true,je]
 split<;>lia
theorem ZaY(p:kE v o)(h:Q o s):wpAny (az prog w) A (eY.Slice.slicePartIndex v) Q E s:=by
 cases p with
 |none=>exact slicePart_none h
 |int i t=>exact slicePart_int h
theorem Zda{lo:Option Int}{n:Nat}(hs:s.heap.IsSliceOf sl vl vu .none)(pl:kE vl lo)(pu:kE vu hi)(h:Q (((sIx n 0 lo:Nat):Int),1,sIx n n hi-sIx n 0 lo) s):wpAny (az prog w) A (dE (.ref sl) (pure (n:Int))) Q E s:=by
 obtain⟨os,hos,hcs,hds⟩:=id hs;unfold dE iG;refine Wb (Wb (bf hos hds (x:=vl) rfl (Wb (bf hos hds (x:=vu) rfl (Wb (bf hos hds (x:=.none) rfl (Wp ?_)))))));refine Wb (slicePart_none ?_);show wpAny _ _ (if((1:Int)==0)=true then _ else _) _ _ s
 rw[if_neg (by decide)]
 refine Wb (ZaY pl (Wb (ZaY pu (Wb (Wp ?_)))));show wpAny _ _ (match cP lo hi 1 (n:Int)with|(lo,hi)=>pure (lo,(1:Int),bN lo hi 1)) _ _ s
 rw[Zhr lo hi n];show wpAny _ _ (pure (((sIx n 0 lo:Nat):Int),(1:Int),bN ((sIx n 0 lo:Nat):Int) ((sIx n n hi:Nat):Int) 1)) _ _ s;rw[Zhs];exact Wp h
theorem Zke(xs:Array ah)(i k:Nat):((aJ k).filterMap fun(m:Nat)=>xs[((i:Int)+(m:Int)*1).toNat]?).toArray=((xs.toList.drop i).take k).toArray:=by
 have e:(fun(m:Nat)=>xs[((i:Int)+(m:Int)*1).toNat]?)=fun m=>xs[i+m]?:=by
  funext m
  have:((i:Int)+(m:Int)*1).toNat=i+m:=by lia
  rw[this]
 rw[e]
 have:=pick_run xs i k
 rw[List.filterMap_map]at this;have e2:((fun x=>xs[x]?)∘fun x=>i+x)=fun m=>xs[i+m]?:=rfl;rw[e2]at this;rw[this]
theorem ZcI{lo:Option Int}(ht:lx s.heap t items)(hs:s.heap.IsSliceOf sl vl vu .none)(pl:kE vl lo)(pu:kE vu hi)(hw:¬(sIx items.size 0 lo=0/\sIx items.size items.size hi=items.size))(h:Q (.ref s.heap.objs.size) {s with heap:=s.heap.push {cls:=.type "tuple",data:=.seq ((items.toList.drop (sIx items.size 0 lo)).take (sIx items.size items.size hi-sIx items.size 0 lo)).toArray}})(hsz:items.size<=sizeLine):wpAny (az prog w) A (jc (.ref t) (.ref sl)) Q E s:=by
 have htake:sizeOk (.seq ((items.toList.drop (sIx items.size 0 lo)).take (sIx items.size items.size hi-sIx items.size 0 lo)).toArray):=by
  show((items.toList.drop (sIx items.size 0 lo)).take (sIx items.size items.size hi-sIx items.size 0 lo)).toArray.size<=sizeLine;rw[ar,bF,bO,dh];lia
 have hj:sIx items.size items.size hi<=items.size:=Zor _ _ (au _) hi;obtain⟨os,hos,hcs,hds⟩:=id hs;have hTs:s.TypeIs (.ref sl) "slice":=⟨os,hos,hcs⟩;unfold jc
 try with_reducible refine wpAny_holding ?_
 first|refine Wb (Wp ?_)|skip
 refine Wb (wpAny_sequenceKey ht.typeIs (by decide) ?_)
 refine Wb (f8 (name:=bc "__getitem__") ht.typeIs bR (dA bR ht.typeIs kh ?_ (args_tuple_getitem _ _)))
 show wpAny _ _ (fq (.ref t) >>= _) _ _ s;refine Wb (tupleItemsOf_ ht ?_);refine Wb (kK hTs ?_);rw[if_pos (by decide)]
 refine Wb (Zda hs pl pu ?_);have hno:¬((((sIx items.size 0 lo:Nat):Int)==0&&(1:Int)==1&&(sIx items.size items.size hi-sIx items.size 0 lo)==items.size)=true):=by
  intro q;rw[aR,aR]at q;have q1:((sIx items.size 0 lo:Nat):Int)=0:=eq_of_beq q.1.1;have q2:sIx items.size items.size hi-sIx items.size 0 lo=items.size:=eq_of_beq q.2;exact hw ⟨by lia,by lia⟩
 show wpAny _ _ (if(((sIx items.size 0 lo:Nat):Int)==0&&(1:Int)==1&&(sIx items.size items.size hi-sIx items.size 0 lo)==items.size)=true then _ else _) _ _ s
 rw[if_neg hno,Zke]
 first
  |exact Wb (m:=bQ _) (bA (Wp ⟨_,rfl,Wp h⟩) htake)
  |exact Wb (m:=bQ _) (bA (Wb (Wp (Wp ⟨_,rfl,Wp h⟩))) htake)
  |exact Wb (Wb (m:=bQ _) (bA (Wp (Wp ⟨_,rfl,Wp h⟩)) htake))
  |exact Wb (Wb (m:=bQ _) (bA (Wp ⟨_,rfl,Wp h⟩) htake))
end HT
namespace L2
open PyProof.Rows
abbrev TO:=St->Hp->(Option Int->Hp->Prop)->Prop
def PO(X:Cx)(e:Option Expr)(t:TO):Prop:=
 ∀(pins:Pn)(s:aC)(σ:St)(H:Hp)(Q:Option Int->Hp->Prop),Inv X pins σ H s->t σ H Q->
  wpAny (az X.prog X.w) X.A (evalPart e X.env) (fun u s'=>∃o H',Inv X pins σ H' s'/\kE u o/\Q o H') X.xe s
noncomputable def tNoPart:TO:=fun _ H Q=>Q none H
noncomputable def Zry(t:TE):TO:=fun σ H Q=>t σ H fun x H1=>∃i,x=.int i/\Q (some i) H1
section
variable {lo hi:Option Expr}{th:TO}
theorem Zmo:PO X none tNoPart:=by
 intro pins s σ H Q I h;rw[evalPart_none];exact Wp ⟨none,H,I,.none,h⟩
theorem Zmp(h:PE X e te):PO X (some e) (Zry te):=by
 intro pins s σ H Q I hw;rw[evalPart_some];refine thn (h pins s σ H _ I hw) fun u s1 hz=>?_;obtain⟨x,H1,I1,r1,q1⟩:=hz;obtain⟨i,rfl,q⟩:=q1;obtain⟨t,rfl⟩:=r1;exact⟨some i,H1,I1,.int i t,q⟩
def SlR(X:Cx)(r:V->Option Int->Option Int->Hp->VK->Prop):Prop:=
 ∀(pins:Pn)(s:aC)(σ:St)(H:Hp)(x:V)(v vl vu:ah)(lo hi:Option Int)(sl:Addr)(Q:VK),Inv X pins σ H s->ZY x v->s.heap.IsSliceOf sl vl vu .none->kE vl lo->kE vu hi->r x lo hi H Q->
  ∃T id,typeLookup (.type T) "__getitem__"=pure (some (.builtin id))/\s.TypeIs v T/\wpAny (az X.prog X.w) X.A (jc v (.ref sl)) (EP X pins σ Q) X.xe s
theorem SlR.or(h:SlR X r)(h':SlR X r'):SlR X (fun x lo hi H Q=>r x lo hi H Q\/r' x lo hi H Q):=by
 intro pins s σ H x v vl vu lo hi sl Q I rx hs pl pu q;rcases q with q|q
 ·exact h pins s σ H x v vl vu lo hi sl Q I rx hs pl pu q
 ·exact h' pins s σ H x v vl vu lo hi sl Q I rx hs pl pu q
noncomputable def tSl(r:V->Option Int->Option Int->Hp->VK->Prop)(te:TE)(tl th:TO):TE:=fun σ H Q=>te σ H fun x H1=>tl σ H1 fun l H2=>th σ H2 fun u H3=>r x l u H3 Q
theorem Zgz(hr:SlR X r)(he:PE X e te)(hl:PO X lo tl)(hu:PO X hi th):PE X (.Subscript e (.Slice lo hi none p2) pos) (tSl r te tl th):=by
 intro pins s σ H Q I h;refine Subscript_ (thn (he pins s σ H _ I h) fun v s1 hz=>?_);obtain⟨x,H1,I1,r1,q1⟩:=hz;refine wpAny_Slice (thn (hl pins s1 σ H1 _ I1 q1) fun vl s2 ⟨l,H2,I2,pl,q2⟩=>thn (hu pins s2 σ H2 _ I2 q2) fun vu s3 hz=>?_);obtain⟨u,H3,I3,pu,q3⟩:=hz;rw[evalPart_none];refine Wp ?_;have I4:Inv X pins σ H3 {s3 with heap:=s3.heap.push {cls:=.type "slice",data:=.fields #[vl,vu,.none]}}:=I3.kept (t':=s3.toks) fun b ob q=>Hq _ q;obtain⟨T,id,hT,ht,hg⟩:=hr pins {s3 with heap:=s3.heap.push {cls:=.type "slice",data:=.fields #[vl,vu,.none]}} σ H3 x v vl vu l u s3.heap.objs.size Q I4 r1 (iB ..) pl pu q3;show wpAny (az X.prog X.w) X.A (kA e (.Slice lo hi none p2) v (.ref s3.heap.objs.size)) (EP X pins σ Q) X.xe {s3 with heap:=s3.heap.push {cls:=.type "slice",data:=.fields #[vl,vu,.none]}};exact tail_any (ops:=[.ref s3.heap.objs.size,v]) ht hT hg (by with_unfolding_all rfl)
def Zlq(xs:List V)(lo hi:Option Int):List V:=(xs.drop (HT.sIx xs.length 0 lo)).take (HT.sIx xs.length xs.length hi-HT.sIx xs.length 0 lo)
theorem Zdm(xs:List V)(lo hi:Option Int):(Zlq xs lo hi).length<=xs.length:=by
 unfold Zlq;rw[bF,bO];lia
def Zt4(K:Fg):V->Option Int->Option Int->Hp->VK->Prop:=fun x lo hi H Q=>∃a xs,x=.ref a/\SqT K H a xs/\
 ¬(HT.sIx xs.length 0 lo=0/\HT.sIx xs.length xs.length hi=xs.length)/\∀p,H p=none->Q (.ref p) (upd H p (.tup (Zlq xs lo hi)))
theorem Zos:SlR X (Zt4 X.K):=by
 intro pins s σ H x v vl vu lo hi sl Q I rx hs pl pu h;obtain⟨a,xs,rfl,hx,hw,q⟩:=h;cases rx;obtain⟨its,r,ht,hz⟩:=I.tuple hx;have hlen:its.toArray.size=xs.length:=by rw[ar];exact r.length.symm
 refine⟨"tuple",_,bR.lookup,ht.typeIs,?_⟩;refine HT.ZcI ht hs pl pu (by rw[hlen];exact hw) ?_ (by rw[hlen];exact hz)
 rw[hlen];refine⟨.ref s.heap.objs.size,_,I.laid (t':=s.toks) (o:=.tup (Zlq xs lo hi)) (fun b ob q=>Hq _ q) (au _) ?_,rfl,q _ (I.hok.fresh (au _))⟩;exact⟨aE (Zdm xs lo hi) hz,_,(r.drop (HT.sIx xs.length 0 lo)).take (HT.sIx xs.length xs.length hi-HT.sIx xs.length 0 lo),kZ _ _⟩
def Zmq(K:Fg):R2:=fun x y H Q=>∃a b xs ys,x=.ref a/\y=.ref b/\SqT K H a xs/\SqT K H b ys/\xs≠[]/\xs.length+ys.length<=sizeLine/\
 (ys=[]->Q (.ref a) H)/\(ys≠[]->∀p,H p=none->Q (.ref p) (upd H p (.tup (xs++ys))))
theorem ZR.nil_iff(r:ZR xs us):us=[]↔xs=[]:=by
 cases r with
 |nil=>simp
 |cons _ _=>simp
theorem Zmr:OpR X (d9 .Add) (Zmq X.K):=by
 intro pins s σ H x y v u Q I rx ry h;obtain⟨a,b,xs,ys,rfl,rfl,ha,hb,hx,hz,q1,q2⟩:=h;cases rx;cases ry;obtain⟨its,r1,p1,_⟩:=I.tuple ha;obtain⟨its2,r2,p2,_⟩:=I.tuple hb;refine HT.Zmn p1 p2 (fun z=>hx (r1.nil_iff.mp z)) (fun z=>⟨.ref a,H,I,rfl,q1 (r2.nil_iff.mp z)⟩) (fun z=>?_) (by rw[<-r1.length,<-r2.length];exact hz)
 refine⟨.ref s.heap.objs.size,_,I.laid (t':=s.toks) (o:=.tup (xs++ys)) (fun b ob q=>Hq _ q) (au _) ?_,rfl,q2 (fun w=>z (r2.nil_iff.mpr w)) _ (I.hok.fresh (au _))⟩;exact⟨by rw[aa];exact hz,_,r1.append r2,kZ _ _⟩
end
noncomputable def ixN(n:Nat)(i:Int):Option Nat:=if 0<=i then(if i<n then some i.toNat else none)else if -(n:Int)<=i then some (i+n).toNat else none
def atI{α:Type}(xs:List α)(i:Int):Option α:=(ixN xs.length i).bind fun j=>xs[j]?
theorem Zig(h:ixN n i=some j):seqIndex? i n=some j/\j<n/\ -(n:Int)<=i/\i<n:=by
 unfold ixN at h;by_cases h0:0<=i
 ·rw[if_pos h0]at h;by_cases h1:i<n
  ·rw[if_pos h1]at h;have e:i.toNat=j:=aQ h;exact⟨by rw[lq h0 h1,e],by lia,by lia,h1⟩
  ·rw[if_neg h1]at h;cases h
 ·rw[if_neg h0]at h;by_cases h1: -(n:Int)<=i
  ·rw[if_pos h1]at h;have e:(i+n).toNat=j:=aQ h;exact⟨by rw[kL (by lia) h1,e],by lia,h1,by lia⟩
  ·rw[if_neg h1]at h;cases h
theorem Zih{xs:List α}{v:α}(h:atI xs i=some v):∃j,seqIndex? i xs.length=some j/\xs[j]?=some v/\j<xs.length/\ -(xs.length:Int)<=i/\i<xs.length:=by
 unfold atI at h;cases e:ixN xs.length i with
 |none=>rw[e]at h;cases h
 |some j=>
  rw[e]at h;obtain⟨h1,h2,h3,h4⟩:=Zig e;exact⟨j,h1,h,h2,h3,h4⟩
theorem Zii{xs:List α}{j:Nat}{v:α}(h:xs[j]?=some v):atI xs (j:Int)=some v:=by
 have hj:j<xs.length:=(aj.mp h).1;have e:ixN xs.length (j:Int)=some j:=by
  unfold ixN;rw[if_pos (by lia),if_pos (by lia)];simp
 unfold atI;rw[e];exact h
noncomputable def Zij(b:Expr):Prop:=∀o i,lj b false o i=operate [o,i] (jc o i)
def IxR(X:Cx)(r:R2):Prop:=
 ∀(value slice:Expr)(pins:Pn)(s:aC)(σ:St)(H:Hp)(x y:V)(v u:ah)(Q:VK),Inv X pins σ H s->ZY x v->ZY y u->r x y H Q->
  lj slice false v u=operate [v,u] (jc v u)->wpAny (az X.prog X.w) X.A (kA value slice v u) (EP X pins σ Q) X.xe s
def MtR(X:Cx)(id:String)(r:V->List V->Hp->VK->Prop):Prop:=
 ∀(pins:Pn)(s:aC)(σ:St)(H:Hp)(x:V)(xs:List V)(v:ah)(us:List ah)(Q:VK),Inv X pins σ H s->ZY x v->ZR xs us->r x xs H Q->
  wpAny (az X.prog X.w) X.A (call (.builtin id) (v::us)) (EP X pins σ Q) X.xe s
section
variable {X:Cx}{a:Expr}
theorem IxR.or(h:IxR X r)(h':IxR X r'):IxR X (fun x y H Q=>r x y H Q\/r' x y H Q):=by
 intro value slice pins s σ H x y v u Q I rx ry q hs;rcases q with q|q
 ·exact h value slice pins s σ H x y v u Q I rx ry q hs
 ·exact h' value slice pins s σ H x y v u Q I rx ry q hs
theorem Zrz(hr:IxR X r)(ha:PE X a ta)(hb:PE X b tb)(hs:Zij b):PE X (.Subscript a b pos) (tOp r ta tb):=by
 intro pins s σ H Q I h;exact Subscript_ (Zq4 ha hb I h fun v u s2 x y H2 I2 rx ry q=>hr a b pins s2 σ H2 x y v u Q I2 rx ry q (hs _ _))
def Zth(K:Fg):R2:=fun x y H Q=>∃p xs i v,x=.ref p/\y=.int i/\SqL K H p xs/\atI xs i=some v/\Q v H
def rIxT(K:Fg):R2:=fun x y H Q=>∃p xs i v,x=.ref p/\y=.int i/\SqT K H p xs/\atI xs i=some v/\Q v H
theorem Zms:IxR X (Zth X.K):=by
 intro value slice pins s σ H x y v u Q I rx ry h hs;obtain⟨p,xs,i,z,rfl,rfl,hq,he,q⟩:=h;cases rx;obtain⟨t,rfl⟩:=ry;obtain⟨its,r,pl,hz⟩:=I.list hq;obtain⟨j,h1,h2,h3,h4,h5⟩:=Zih he;obtain⟨w,ew,rw'⟩:=r.get h2;have hl:=r.length;have hn:=Zff;have fin:EP X pins σ Q w s:=⟨z,H,I,rw',q⟩;by_cases h0:0<=i
 ·have hj:i.toNat=j:=by
   rw[lq h0 h5]at h1;exact aQ h1
  exact item_listR pl.isList h0 (by lia) (by rw[hj];simpa using ew) fin hs
 ·have hj:(i+(its.toArray.size:Int)).toNat=j:=by
   rw[kL (by lia) h4]at h1
   rw[ar,<-hl];exact aQ h1
  exact jf (x:=w) pl.isList.typeIs iH.lookup
   (wpAny_getItem_list_neg (Q:=fun r s'=>r=w/\EP X pins σ Q r s') pl.isList (by lia) (by rw[ar]<;>lia) (by lia) (by rw[hj];simpa using ew) ⟨rfl,fin⟩) hs
theorem Zot:IxR X (rIxT X.K):=by
 intro value slice pins s σ H x y v u Q I rx ry h hs;obtain⟨p,xs,i,z,rfl,rfl,hq,he,q⟩:=h;cases rx;obtain⟨t,rfl⟩:=ry;obtain⟨its,r,pl,hz⟩:=I.tuple hq;obtain⟨j,h1,h2,h3,h4,h5⟩:=Zih he;obtain⟨w,ew,rw'⟩:=r.get h2;have hl:=r.length;have hn:=Zff;have fin:EP X pins σ Q w s:=⟨z,H,I,rw',q⟩;exact jf (x:=w) pl.typeIs slot_tuple_getitem.lookup
  (getItem_tuple (j:=j) (Q:=fun r s'=>r=w/\EP X pins σ Q r s') pl (by lia) (by lia) (by rw[ar,<-hl];exact h1) (by simpa using ew) ⟨rfl,fin⟩) hs
theorem Zht(its:List ah)(n j:Nat)(u:ah):jg (·.setIfInBounds j u) {cls:=.type "list",data:=.seq its.toArray n}={cls:=.type "list",data:=.seq (its.set j u).toArray n}:=by
 simp[jg]
theorem Inv.lst{pins:Pn}{σ:St}{H:Hp}{s:aC}{p:Addr}{xs:List V}(I:Inv X pins σ H s)(h:H p=some (.lst xs)):∃(its:List ah) (n:Nat),ZR xs its/\s.heap.get? p=some {cls:=.type "list",data:=.seq its.toArray n}/\xs.length<=sizeLine:=by
 obtain⟨z,its,n,r,e⟩:=I.hok p _ h;exact⟨its,n,r,e,z⟩
theorem Inv.lstUpd{its:List ah}(I:Inv X pins σ H s)(h:H p=some (.lst xs))(ho:s.heap.get? p=some {cls:=.type "list",data:=.seq its.toArray n})(hf:f {cls:=.type "list",data:=.seq its.toArray n}={cls:=.type "list",data:=.seq its'.toArray n'})(r:ZR ys its')(hz:ys.length<=sizeLine)(t:Nat):Inv X pins σ (upd H p (.lst ys)) {s with heap:=s.heap.update p f,toks:=t}:=by
 have e:(s.heap.update p f).get? p=some {cls:=.type "list",data:=.seq its'.toArray n'}:=by
  rw[cx f ho (by rw[hf]<;>rfl),hf]
 refine I.write (x:=p) (e:=p) (by rw[h];trivial) (.inl rfl) (fun b u hb q=>(aI _ _ (bJ hb)).trans q) ⟨_,e⟩ ?_
 exact⟨hz,its',n',r,e⟩
def rSetL:V->V->V->Hp->(Hp->Prop)->Prop:=fun o i v H Q=>∃p xs k j,o=.ref p/\i=.int k/\H p=some (.lst xs)/\ixN xs.length k=some j/\Q (upd H p (.lst (xs.set j v)))
theorem Zkf:Ztc X rSetL:=by
 intro pins s σ H o i v ov iv u Q I ro ri rv h;obtain⟨p,xs,k,j,rfl,rfl,hp,hj,q⟩:=h;cases ro;obtain⟨t,rfl⟩:=ri;obtain⟨its,n,r,ho,hz⟩:=I.lst hp;obtain⟨h1,h2,h3,h4⟩:=Zig hj;have hl:=r.length;have hn:=Zff;have I':Inv X pins σ (upd H p (.lst (xs.set j v))) {s with heap:=s.heap.update p (jg (·.setIfInBounds j u))}:=
  I.lstUpd hp ho (Zht its n j u) (r.set rv j) (by rw[cB];exact hz) s.toks
 by_cases h0:0<=k
 ·have hk:k.toNat=j:=by
   rw[lq h0 h4]at h1;exact aQ h1
  exact PySem.W.ki_setAt ho h0 (by lia) (by rw[ar,<-hl];exact h4) (by rw[hk];exact⟨_,I',q⟩)
 ·have hk:(k+(its.toArray.size:Int)).toNat=j:=by
   rw[kL (by lia) h3]at h1
   rw[ar,<-hl];exact aQ h1
  exact PySem.W.ki_setBack ho (by lia) (by rw[ar,<-hl];exact h3) (by lia) (by rw[hk];exact⟨_,I',q⟩)
theorem Zfk(lo hi:Option Int)(n:Nat):(fC lo hi none n).1=((HT.sIx n 0 lo:Nat):Int)/\(fC lo hi none n).2.1=((HT.sIx n n hi:Nat):Int)/\(fC lo hi none n).2.2=1:=by
 refine⟨?_,?_,rfl⟩
 ·cases lo with
  |none=>simp[fC,HT.sIx]
  |some i=>
   simp only[fC,HT.sIx,Option.getD_none,show(1:Int)>0 by decide,if_true]
   by_cases h:i<0
   ·simp only[h,if_true]<;>lia
   ·simp only[h,if_false]<;>lia
 ·cases hi with
  |none=>simp[fC,HT.sIx]
  |some i=>
   simp only[fC,HT.sIx,Option.getD_none,show(1:Int)>0 by decide,if_true]
   by_cases h:i<0
   ·simp only[h,if_true]<;>lia
   ·simp only[h,if_false]<;>lia
theorem Zeq(its:List ah)(lo hi:Option Int):kc its.toArray lo hi none=((its.drop (HT.sIx its.length 0 lo)).take (HT.sIx its.length its.length hi-HT.sIx its.length 0 lo)).toArray:=by
 obtain⟨h1,h2,h3⟩:=Zfk lo hi its.toArray.size;unfold kc;rw[h1,h2,h3];simp only[sliceRange_one,pick_run,ar]<;>rfl
def Zt5(K:Fg):V->Option Int->Option Int->Hp->VK->Prop:=fun x lo hi H Q=>∃a xs,x=.ref a/\SqL K H a xs/\∀p,H p=none->Q (.ref p) (upd H p (.lst (Zlq xs lo hi)))
theorem Zmt:SlR X (Zt5 X.K):=by
 intro pins s σ H x v vl vu lo hi sl Q I rx hs pl pu h;obtain⟨a,xs,rfl,hx,q⟩:=h;cases rx;obtain⟨its,r,ht,hz⟩:=I.list hx;have hlen:=r.length;refine⟨"list",_,iH.lookup,ht.isList.typeIs,?_⟩;refine iR ht.isList hs pl pu .none (by simp) ?_ (by rw[ar]<;>lia)
 rw[Zeq,<-hlen];refine⟨.ref s.heap.objs.size,_,I.laid (t':=s.toks) (o:=.lst (Zlq xs lo hi)) (fun b ob q=>Hq _ q) (au _) ?_,rfl,q _ (I.hok.fresh (au _))⟩;exact⟨aE (Zdm xs lo hi) hz,_,0,(r.drop (HT.sIx xs.length 0 lo)).take (HT.sIx xs.length xs.length hi-HT.sIx xs.length 0 lo),aW _ rfl⟩
theorem Zl:Zbr X (.builtin "len") (fun xs H Q=>∃p ys,xs=[.ref p]/\(SqL X.K H p ys\/SqT X.K H p ys)/\Q (.int ys.length) H):=by
 intro pins s σ H xs us Q I r h;obtain⟨p,ys,rfl,hq,q⟩:=h;obtain⟨u,rfl,rx⟩:=ZbV r;cases rx;have hn:=Zff;rcases hq with hq|hq
 ·obtain⟨its,r',pl,hz⟩:=I.list hq;have hlen:=r'.length;exact Calls.call_len_list pl.isList (by simp only[ar]<;>lia) ⟨.int ys.length,H,I.tok _,⟨s.toks+1,by rw[ar,hlen]⟩,q⟩
 ·obtain⟨its,r',pl,hz⟩:=I.tuple hq;have hlen:=r'.length;exact len_tuple pl (by simp only[ar]<;>lia) ⟨.int ys.length,H,I.tok _,⟨s.toks+1,by rw[ar,hlen]⟩,q⟩
theorem ZaO:Zbr X (.builtin "len") (fun xs H Q=>∃z,xs=[.str z]/\z.length<=sizeLine/\Q (.int z.length) H):=by
 intro pins s σ H xs us Q I r h;obtain⟨z,rfl,hz,q⟩:=h;obtain⟨u,rfl,t,rfl⟩:=ZbV r;have hn:=Zff;exact len_str (by lia) ⟨.int z.length,H,I.tok _,⟨_,rfl⟩,q⟩
theorem Zfl:Zbr X (.type "list") (fun xs H Q=>∃p ys,xs=[.ref p]/\(SqL X.K H p ys\/SqT X.K H p ys)/\∀l,H l=none->Q (.ref l) (upd H l (.lst ys))):=by
 intro pins s σ H xs us Q I r h;obtain⟨p,ys,rfl,hq,q⟩:=h;obtain⟨u,rfl,rx⟩:=ZbV r;cases rx;have fin:∀(its:List ah),ZR ys its->ys.length<=sizeLine->∀(h':Heap)(c':Nat),(∀b o',s.heap.get? b=some o'->h'.get? b=some o')->
   h'.get? s.heap.objs.size=some {cls:=.type "list",dict:=none,data:=.seq its.toArray c',slots:= #[]}->EP X pins σ Q (.ref s.heap.objs.size) {s with heap:=h'}:=fun its r' hz h' c' kp e=>
  ⟨.ref s.heap.objs.size,_,I.laid (t':=s.toks) kp (au _) (show Za5 X.prog X.w _ h' _ (.lst ys)from⟨hz,its,c',r',e⟩),rfl,q _ (I.hok.fresh (au _))⟩
 rcases hq with hq|hq
 ·obtain⟨its,r',pl,hz⟩:=I.list hq;have hlen:=r'.length;obtain⟨o,ho,hc,n,hd⟩:=pl.isList;exact call_list_seq p (.inl rfl) ho hc hd (fun h' c' kp e=>fin its r' hz h' c' kp e) (by simp only[ar]<;>lia)
 ·obtain⟨its,r',pl,hz⟩:=I.tuple hq;have hlen:=r'.length;obtain⟨o,ho,hc,n,hd⟩:=pl;exact call_list_seq p (.inr rfl) ho hc hd (fun h' c' kp e=>fin its r' hz h' c' kp e) (by simp only[ar]<;>lia)
theorem ZaB:Zbr X (.type "tuple") (fun xs H Q=>∃p ys,xs=[.ref p]/\((SqL X.K H p ys/\∀l,H l=none->Q (.ref l) (upd H l (.tup ys)))\/(SqT X.K H p ys/\Q (.ref p) H))):=by
 intro pins s σ H xs us Q I r h;obtain⟨p,ys,rfl,h⟩:=h;obtain⟨u,rfl,rx⟩:=ZbV r;cases rx;rcases h with⟨hq,q⟩|⟨hq,q⟩
 ·obtain⟨its,r',pl,hz⟩:=I.list hq;have hlen:=r'.length;refine call_tuple_list pl.isList (fun h' kp=>?_) (by simp only[ar]<;>lia)
  have I1:Inv X pins σ H {s with heap:=h'}:=I.kept (t':=s.toks) kp;have I2:Inv X pins σ (upd H h'.objs.size (.tup ys)) {s with heap:=h'.push {cls:=.type "tuple",data:=.seq its.toArray}}:=
   I1.laid (t':=s.toks) (fun b o e=>Hq _ e) (au _) (show Za5 X.prog X.w _ _ _ (.tup ys)from⟨hz,its,r',kZ _ _⟩)
  exact⟨.ref h'.objs.size,_,I2,rfl,q _ (I1.hok.fresh (au _))⟩
 ·obtain⟨its,r',pl,hz⟩:=I.tuple hq;exact call_tuple_same pl ⟨.ref p,H,I,rfl,q⟩
def tyV(K:Fg)(T:String)(x:V)(H:Hp):Prop:=match x with
 |.str _=>T="str"
 |.int _=>T="int"
 |.ref p=>(T="list"/\∃xs,SqL K H p xs)\/(T="tuple"/\∃o,K.lookup p=some o/\o.cls=.type "tuple"/\o.dict=none)\/
   (T="dict"/\((∃kvs,H p=some (.dK kvs))\/∃kvs,H p=some (.dT kvs)))\/(T="set"/\∃S n,H p=some (.set S n))
 |_=>False
theorem Zou(I:Inv X pins σ H s)(r:ZY x v)(ty:tyV X.K T x H):s.TypeIs v T/\∀a,v=.ref a->∃ob,s.heap.get? a=some ob/\ob.dict=none:=by
 cases x with
 |str z=>
  obtain⟨t,rfl⟩:=r;cases(show T="str" from ty);exact⟨iz s z t,fun _ e=>nomatch e⟩
 |int i=>
  obtain⟨t,rfl⟩:=r;cases(show T="int" from ty);exact⟨typeIs_int s i t,fun _ e=>nomatch e⟩
 |ref p=>
  cases r;rcases ty with⟨rfl,xs,hq⟩|⟨rfl,o,hk,hc,hd⟩|⟨rfl,hk⟩|⟨rfl,S,n,hk⟩
  ·obtain⟨its,_,pl,_⟩:=I.list hq;refine⟨pl.isList.typeIs,fun a e=>?_⟩;cases e;obtain⟨o,n,e,c,hd,_⟩:=pl;exact⟨o,e,hd⟩
  ·refine⟨⟨o,I.kIn p o hk,hc⟩,fun a e=>?_⟩;cases e;exact⟨o,I.kIn _ o hk,hd⟩
  ·have z:∃o,s.heap.get? p=some o/\o.ExactDict:=by
    rcases hk with⟨kvs,hk⟩|⟨kvs,hk⟩
    ·obtain⟨_,_,_,_,o,_,_,e,ex,_⟩:=I.hok p _ hk;exact⟨o,e,ex⟩
    ·obtain⟨_,_,_,_,o,_,_,e,ex,_⟩:=I.hok p _ hk;exact⟨o,e,ex⟩
   obtain⟨o,e,ex⟩:=z;refine⟨⟨o,e,ex.1⟩,fun a e2=>?_⟩;cases e2;exact⟨o,e,ex.2.1⟩
  ·obtain⟨o,_,_,_,e,ex,_⟩:=I.hok p _ hk;refine⟨⟨o,e,ex.1⟩,fun a e2=>?_⟩;cases e2;exact⟨o,e,ex.2.1⟩
 |_=>exact cm ty
def tBM(K:Fg)(T:String)(r:V->List V->Hp->VK->Prop)(to:TE)(t:TA):TE:=fun σ H Q=>to σ H fun x H1=>tyV K T x H1/\t σ H1 fun xs H2=>r x xs H2 Q
variable {id:String}
theorem Zov(pa:PlainAttrs T)(slot:Slot T name id)(hty:typeOf (.builtin id)=pure (.type "method_descriptor"))(hm:MtR X id r)(ho:PE X o to)(ha:PA X (e::es) t)(hbase:autoParam (fW o name X.env (eval o X.env)=eval o X.env) Qrf._auto_1)
  (hfew:((bT cpos (af (e::es) X.env)).all (fun x=> !x.1)&&(iV cpos (ge [] X.env)).all (fun x=>x.1.isSome) && decide ((e::es).length+([]:List gy).length+(if([]:List gy).isEmpty then 0 else 1)<30))=true:=by rfl)
  (hline:(apos.endLine==cpos.line)=true:=by rfl) (hs:af (e::es) X.env=(false,eval e X.env)::af es X.env:=by rfl) (hplain:(bT cpos (af es X.env)).any (·.1)=false:=by rfl):
  PE X (.Call (.Attribute o name apos) (e::es) [] cpos) (tBM X.K T r to t):=by
 intro pins s σ H Q I h;refine wpAny_Call_method_late hbase hfew hline rfl (thn (ho pins s σ H _ I h) fun v s1 hz=>?_);obtain⟨x,H1,I1,r1,ty,q1⟩:=hz;obtain⟨h1,h2⟩:=Zou I1 r1 ty;refine⟨T,id,pa,slot,hty,h1,h2,?_⟩;have hA:=ha cpos pins s1 σ H1 _ I1 q1;rw[hs]at hA ⊢;refine Calls.callWith_builtin (by show(false||(bT cpos (af es X.env)).any (·.1))=false;rw[hplain]<;>rfl) (Calls.evalArgs_plain ?_)
 exact thn hA fun us s2 ⟨vs,H2,I2,r2,q2⟩=>hm pins s2 σ H2 x vs v us Q I2 r1 r2 q2
end
def MtM(X:Cx)(id:String)(r:V->List V->Hp->VK->Prop):Prop:=
 ∀(pins:Pn)(s:aC)(σ:St)(H:Hp)(x:V)(xs:List V)(v:ah)(us:List ah)(Q:VK),Inv X pins σ H s->ZY x v->ZR xs us->r x xs H Q->
  wpAny (az X.prog X.w) X.A (call (.builtin id) (v::us)) (EP X pins σ Q) X.xe s
theorem ZR.one:∀{x:V}{us:List ah},ZR [x] us->∃u,us=[u]/\ZY x u:=by
 intro _ _ h;cases h with|cons r t=>cases t;exact⟨_,rfl,r⟩
theorem ZR.reverse(h:ZR xs us):ZR xs.reverse us.reverse:=by
 induction h with
 |nil=>exact .nil
 |cons r t ih=>rw[cK,cK];exact ZR.append ih (.cons r .nil)
theorem ZR.rep{xs:List V}{us:List ah}(h:ZR xs us):∀k:Nat,ZR (aB k xs).flatten (aB k us).flatten
 |0=>.nil
 |k+1=>by
  rw[cr,cr,dR,dR];exact ZR.append h (ZR.rep h k)
theorem Zfm(its:List ah):∀(k:Nat)(acc:List ah),jh (fun x1 x2=>x1++x2) acc.toArray (aB k its.toArray)=(acc++(aB k its).flatten).toArray
 |0,acc=>by simp
 |k+1,acc=>by
  have e:acc.toArray++its.toArray=(acc++its).toArray:=by simp
  have e2:(acc++its)++(aB k its).flatten=acc++(aB (k+1) its).flatten:=by
   rw[cr,dR,cu]
  rw[<-e2,<-Zfm its k (acc++its),<-e,cr,fX]
theorem Inv.lset{its:List ah}(I:Inv X pins σ H s)(hH:H l=some (.lst xs))(e:s.heap.get? l=some {cls:=.type "list",data:=.seq its.toArray n})(hf:f its.toArray=its'.toArray)(hv:ZR ys its')(hz:ys.length<=sizeLine):Inv X pins σ (upd H l (.lst ys)) {s with heap:=s.heap.update l (jg f),toks:=t'}:=by
 have q:=PySem.IsL.update e f;rw[hf]at q;refine I.write (x:=l) (e:=l) (by rw[hH];exact trivial) (.inl rfl) (fun b' u hb hu=>(aI s.heap (jg f) (bJ hb)).trans hu) ⟨_,q⟩ ?_
 exact⟨hz,its',_,hv,q⟩
theorem Inv.lnew(I:Inv X pins σ H s)(hv:ZR ys its)(hz:ys.length<=sizeLine):Inv X pins σ (upd H s.heap.objs.size (.lst ys)) {s with heap:=s.heap.push {cls:=.type "list",data:=.seq its.toArray},toks:=t'}:=
 I.laid (fun _ _ q=>Hq _ q) (au _) ⟨hz,its,0,hv,aW _ rfl⟩
theorem Inv.fresh(I:Inv X pins σ H s):H s.heap.objs.size=none:=I.hok.fresh (au _)
theorem Inv.lstM(I:Inv X pins σ H s)(hH:H l=some (.lst xs)):xs.length<=sizeLine/\∃(its:List ah) (n:Nat),ZR xs its/\xs.length=its.length/\s.heap.get? l=some {cls:=.type "list",data:=.seq its.toArray n}:=by
 obtain⟨z,its,n,r,e⟩:=I.hok l _ hH;exact⟨z,its,n,r,r.length,e⟩
theorem ZgA(h:n<=sizeLine):dX n=false:=by
 unfold dX;exact decide_eq_false (by lia)
def rAppend:V->List V->Hp->VK->Prop:=fun x vs H Q=>∃l xs y,x=.ref l/\vs=[y]/\H l=some (.lst xs)/\xs.length<sizeLine/\Q .non (upd H l (.lst (xs++[y])))
theorem Zdn:MtM X "list.append" rAppend:=by
 intro pins s σ H x vs v us Q I rx rv h;obtain⟨l,xs,y,rfl,rfl,hH,hz,q⟩:=h;cases rx;obtain⟨u,rfl,ru⟩:=rv.one;obtain⟨z,its,n,r,hl,e⟩:=I.lstM hH;refine gM F.slot_list_append ⟨_,e,rfl⟩ F.entry_list_append (F.args_list_append_2 _ _) (PySem.list_append l its.toArray n u (by rw[ar];lia)) ⟨e,?_⟩
 refine⟨.non,_,I.lset (its':=its++[u]) hH e (by simp) (r.append (.cons ru .nil)) ?_,rfl,q⟩
 rw[aa,cA];lia
def rExtend:V->List V->Hp->VK->Prop:=fun x vs H Q=>∃l b xs zs,x=.ref l/\vs=[.ref b]/\H l=some (.lst xs)/\H b=some (.lst zs)/\xs.length+zs.length<=sizeLine/\Q .non (upd H l (.lst (xs++zs)))
theorem Zow:MtM X "list.extend" rExtend:=by
 intro pins s σ H x vs v us Q I rx rv h;obtain⟨l,b,xs,zs,rfl,rfl,hH,hB,hz,q⟩:=h;cases rx;obtain⟨u,rfl,ru⟩:=rv.one;cases ru;obtain⟨z,its,n,r,hl,e⟩:=I.lstM hH;obtain⟨z2,its2,n2,r2,hl2,e2⟩:=I.lstM hB;have hsz:its.toArray.size+its2.toArray.size<=sizeLine:=by rw[ar,ar];lia
 have hlong:¬(!its.toArray.isEmpty&&dX (its.toArray.size+its2.toArray.size))=true:=by
  rw[ZgA hsz,iC];exact cD
 refine gM F.slot_list_extend ⟨_,e,rfl⟩ F.entry_list_extend (F.args_list_extend_2 _ _)
  (AutoSeq1.list_extend_list_list_0 l its.toArray n b its2.toArray n2 hlong (by rw[ar];lia) (by lia)) ⟨e,e2,?_⟩
 refine⟨.non,_,I.lset (its':=its++its2) hH e (by simp) (r.append r2) ?_,rfl,q⟩
 rw[aa];lia
def rCat:R2:=fun x y H Q=>∃l b xs zs,x=.ref l/\y=.ref b/\H l=some (.lst xs)/\H b=some (.lst zs)/\xs.length+zs.length<=sizeLine/\∀p,H p=none->Q (.ref p) (upd H p (.lst (xs++zs)))
theorem Zox:OpR X (d9 .Add) rCat:=by
 intro pins s σ H x y v u Q I rx ry h;obtain⟨l,b,xs,zs,rfl,rfl,hH,hB,hz,q⟩:=h;cases rx;cases ry;obtain⟨z,its,n,r,hl,e⟩:=I.lstM hH;obtain⟨z2,its2,n2,r2,hl2,e2⟩:=I.lstM hB;refine PySem.P.add_list e e2 ?_ (by rw[ar,ar];lia)
 have ea:its.toArray++its2.toArray=(its++its2).toArray:=by simp
 rw[ea];exact⟨.ref _,_,I.lnew (t':=s.toks) (r.append r2) (by rw[aa];lia),rfl,q _ I.fresh⟩
def rRep:R2:=fun x y H Q=>∃l k xs,x=.ref l/\y=.int k/\H l=some (.lst xs)/\ -(2^63)<=k/\k<2^63/\xs.length*k.toNat<=sizeLine/\
 ∀p,H p=none->Q (.ref p) (upd H p (.lst (aB k.toNat xs).flatten))
theorem Zmu{α:Type}(xs:List α)(k:Nat):(aB k xs).flatten.length=k*xs.length:=by
 induction k with
 |zero=>simp
 |succ k ih=>rw[cr,dR,aa,ih,kM,Nat.add_comm]
theorem Zoy:OpR X (d9 .Mult) rRep:=by
 intro pins s σ H x y v u Q I rx ry h;obtain⟨l,k,xs,rfl,rfl,hH,h1,h2,hz,q⟩:=h;cases rx;obtain⟨t,rfl⟩:=ry;obtain⟨z,its,n,r,hl,e⟩:=I.lstM hH;have hlen:its.toArray.size*k.toNat<=sizeLine:=by rw[ar,<-hl];exact hz
 have hcap:¬its.toArray.size*k.toNat>(2^63-1)/8:=by
  have:(sizeLine:Nat)<=(2^63-1)/8:=by decide
  lia
 have hfit:¬(!Builtin.List.listFitsIndex k)=true:=by
  rw[fitsIndex_both h1 h2];exact cD
 have hlong:¬dX (its.toArray.size*k.toNat)=true:=by
  rw[ZgA hlen];exact cD
 have hnew:jh (fun x1 x2=>x1++x2) #[] (aB (if its.toArray.isEmpty=true then 0 else k.toNat) its.toArray)=(aB k.toNat its).flatten.toArray:=by
  have f0:∀m:Nat,jh (fun x1 x2=>x1++x2) #[] (aB m its.toArray)=(aB m its).flatten.toArray:=fun m=>by
   have:=Zfm its m []
   rw[cO]at this;exact this
  rw[f0];cases its with
  |nil=>simp
  |cons a r'=>rw[if_neg (by simp)]
 refine wpAny_binaryOp_repeat_ref (T:="list") (U:="int") (by decide) ⟨_,e,rfl⟩ (fun s'=>typeIs_int s' k t) noFill_list_mul F.fills_int_mul F.slot_int_rmul repeat_list F.slot_int_index.lookup
  (gM F.slot_int_rmul (typeIs_int s k t) F.entry_int_rmul (F.args_int_rmul_2 _ _) (int___rmul___int_list k t l its.toArray n) ⟨e,rfl,⟨_,e,rfl⟩,gM F.slot_list_mul ⟨_,e,rfl⟩ F.entry_list_mul (F.args_list_mul_2 _ _) (AutoListH.list___mul___list_int_3 l its.toArray n k t hfit hcap hlong) ⟨e,?_⟩⟩)
 rw[hnew];exact⟨.ref _,_,I.lnew (t':=s.toks) (r.rep k.toNat) (by rw[Zmu,Nat.mul_comm];exact hz),rfl,q _ I.fresh⟩
end L2
namespace Att
open PySem.W PySem.Calls PyProof.Rows
theorem Zdo:∀(ns:List Int)(vs:List ah),WellAll P h vs (ns.map WData.int)->lv vs ns:=by
 intro ns
 induction ns with
 |nil=>
  intro vs w;rw[dj]at w;cases w;exact .nil
 |cons n ns ih=>
  intro vs w;rw[aL]at w;cases w with
  |cons a b=>
   cases a;exact .cons _ _ (ih _ b)
theorem Zik{l:OpenLaw}(hn:l.most=some n)(hpre:l.row.toRowW.claim.pre args=true)(hwl:WellAll P h vals args):∃a vs ns,vals=[aA a]/\args=[WData.list (ns.map WData.int)]/\h.get? a=some {cls:=.type "list",data:=.seq vs.toArray}/\lv vs ns/\ns.length<=n:=by
 have hsh:WShape.hasAll [] args [.list .int]=true:=(pre_splitW hpre).1;have hc:l.pre.holds [] {args:=args}=true:=(pre_splitW hpre).2;obtain⟨d,r,rfl,h1,h2⟩:=hasAllW_cons hsh;obtain rfl:=hasAllW_nil h2;obtain⟨xs,rfl,h3⟩:=hasW_list h1;obtain⟨ns,rfl⟩:=items_int h3;have hlen:ns.length<=n:=by
  unfold OpenLaw.pre at hc;have h4:(WTm.not (.lt (.lit (.int (n:Int))) (.len (.arg 0)))).holds [] {args:=[.list (ns.map .int)]}=true:=by
   have h4:=(holds_andW hc).1;rw[hn]at h4;exact h4
  have h5:=condW_of h4 (w_not (w_lt w_lit (w_len_list (w_arg rfl))));rw[ae]at h5;refine Nat.le_of_not_lt fun q=>?_;have q':(n:Int)<((ns.length:Nat):Int):=by lia
  first
   | (rw[decide_eq_true q']at h5;exact absurd h5 (by decide))
   | (simp at h5;lia)
 cases hwl with
 |cons w1 w2=>
  cases w2;cases w1 with
  |list ho hall=>exact⟨_,_,ns,rfl,rfl,ho,Zdo ns _ hall,hlen⟩
theorem Zil(l:OpenLaw)(args:List WData):l.row.toRowW.claim.post args (.bool true) args=true:=
 postW_of (r:=l.row.toRowW) (X:=(true==true))
  (show WShape.has [] (.bool true) .bool=true by first|rfl|decide|simp[WShape.has,WShape.arms,WShape.armsAll])
  (show(WTm.eq .res (.lit (.bool true))).value [] {args:=args,res:=some (.bool true),after:=args}=some (.bool (true==true))from w_eq_bool (w_res rfl) w_lit) rfl
theorem Zf2{l:OpenLaw}(hn:l.most=some n)(hdf:d.params.defaults=[])(call:∀(w:df)(s₀ s₁:aC)(mg mb:Str->Option ah)(fa:Addr)(o:Obj)(pm cd doc:ah)(a:Addr)(vs:List ah)(ns:List Int),Ground q loose [] XP w s₀ mg mb s₁.heap->YP w s₁.heap->s₁.heap.get? fa=some o->o.data=.func (docDef d.name d.params d.body d.scope pm cd doc)->s₁.heap.CodeRec cd d.name->mg d.name=some (.ref fa)->s₁.heap.get? a=some {cls:=.type "list",data:=.seq vs.toArray}->lv vs ns->ns.length<=n->s₁.gens= #[]->gx (az l.prog w) ke (.call (.ref fa) ⟨[.ref a],[]⟩) (fun r s'=>r=.ok (.ret (.bool true))/\OldK s₁.heap s'.heap/\s'.os=s₁.os/\d6 s'.gens) s₁):WalkO q loose XP YP l.row.toRowW d [] (fun f vs=>PySem.call f vs):=by
 intro w s₀ s₁ mg mb G Y fa o pm cd doc dV kV ho hd hcd hD hmg hg args vals as hpre hlay hrd hwl hlo;obtain rfl:dV=.none:=Dflts.none hD hdf;obtain rfl:kV=.none:=Dflts.noKw hD;obtain⟨a,vs,ns,rfl,rfl,hobj,hints,hlen⟩:=Zik hn hpre hwl;refine enter_call (jd (call w s₀ s₁ mg mb fa o pm cd doc a vs ns G Y ho (fd_plain hd) hcd hmg hobj hints hlen hg) fun r s' hq=>?_);obtain⟨rfl,h2,h3,h4⟩:=hq;exact⟨.inl ⟨.bool true,.bool true,[],rfl,fun _=>rfl,.bool true,Zil l _,fun _=>⟨List.Pairwise.nil,fun _ hm=>(nomatch hm)⟩⟩,h2,h3,h4⟩
end Att
namespace L2
open PyProof.Rows
theorem Zfn:∀{vs:List ah}{ns:List Int},lv vs ns->ZR (ns.map V.int) vs
 |_,_,.nil=>.nil
 |_,_,.cons n t h=>.cons ⟨t,rfl⟩ (Zfn h)
noncomputable def Za6(s:Stmt):Arguments:=match s with
 |.FunctionDef _ a _ _ _ _ _ _ _ _=>a
 |_=>{posonlyargs:=[],args:=[],vararg:=none,kwonlyargs:=[],kw_defaults:=[],kwarg:=none,defaults:=[]}
noncomputable def Zad(s:Stmt):List Stmt:=match s with
 |.FunctionDef _ _ b _ _ _ _ _ _ _=>b
 |_=>[]
noncomputable def Zz(s:Stmt):jD:=match s with
 |.FunctionDef _ _ _ _ _ _ sc _ _ _=>sc
 |_=>{kind:=.function,names:=[],isGenerator:=false,isCoroutine:=false}
noncomputable abbrev CX0:CXT:=fun _ _ _ _ _ _=>False
noncomputable abbrev E0:XK:=fun _ _ _=>False
structure Fun(K:Fg) (x qual:Str) (st:Stmt) (f:Addr) (fd:gq):Prop where
 ex:∃(oc:ah) (od:Option Addr) (kV doc pm:ah) (an:Option Addr) (cdv ct:ah) (osl:Array (Option ah)),
  fd=PySem.W.fnOf x qual (Za6 st) (Zad st) (Zz st) .none kV doc pm an cdv ct/\K.lookup f=some ⟨oc,od,.func fd,osl⟩/\PySem.W.codeIn K cdv qual=true
 kp:PySem.W.keepIn K (.ref f)=true
section
variable {K:Fg}
theorem Fun.ok{st:Stmt}(F:Fun K x qual st f fd)(S:FnScope N ps (Zz st))(len:∀vs H Q E,sp vs H Q E->vs.length=ps.length)(hbody:∀(cdv:ah)(A:dc)(outer:List Env)(s:aC)(H:Hp)(vs:List V)(Q:VK)(E:XK),Room k (A.deeper (iQ qual (Zz st) s.heap.objs.size f cdv))->sp vs H Q E->∃t,PSs (Zhq CX0 P w K mg base N qual (Zz st) f cdv A outer s H E).nox (Zad st) t/\t {nx:=fun _ H'=>Q .non H',rt:=Q} (start N vs) H):FnOk P w K mg base CX0 (k+1) f fd ps sp:=by
 obtain⟨oc,od,kV,doc,pm,an,cdv,ct,osl,rfl,lk,hcd⟩:=F.ex;refine Zml lk hcd S len fun A outer s H vs Q E hr hsp=>?_;obtain⟨t,h,q⟩:=hbody cdv A outer s H vs Q E hr hsp;exact⟨t,h.nox,q⟩
theorem Fun.binds{st:Stmt}(F:Fun K x qual st f fd)(h:∀(kV doc pm:ah)(an:Option Addr)(cdv ct:ah)(us:List ah),us.length=ps.length->bindArgs (PySem.W.fnOf x qual (Za6 st) (Zad st) (Zz st) .none kV doc pm an cdv ct) ⟨us,[]⟩=pure (ps.zip us)):Zeo K fd ps []:=by
 obtain⟨oc,od,kV,doc,pm,an,cdv,ct,osl,rfl,lk,hcd⟩:=F.ex;exact .all (h kV doc pm an cdv ct)
theorem Zlr{st:Stmt}{kV:ah}(l:K.lookup f=some ⟨oc,od,.func (PySem.W.fnOf x qual (Za6 st) (Zad st) (Zz st) .none kV doc pm an cdv ct),osl⟩)(c:PySem.W.codeIn K cdv qual=true)(k:PySem.W.keepIn K (.ref f)=true):Fun K x qual st f (PySem.W.fnOf x qual (Za6 st) (Zad st) (Zz st) .none kV doc pm an cdv ct):=⟨⟨oc,od,kV,doc,pm,an,cdv,ct,osl,rfl,l,c⟩,k⟩
end
theorem Zim(h:n<=1000):n<sizeLine:=cU h (by decide)
theorem Zkg{A:Prop}(h:B):if false=true then A else B:=by
 rw[if_neg cD];exact h
theorem Zkh{A:Prop}(h:A):if true=true then A else B:=by
 rw[if_pos rfl];exact h
end L2
namespace DL
open PyProof.Rows L2
structure Rw where
 n:String
 i:Nat
 f:Nat
 m:String
 t:Nat
 u:Nat
 ln:Nat
 na:Nat
 b:Bool
 v:Nat
noncomputable def zz1(P:jG)(s:String)(n:Nat)(v:ah):k7:={hash:=PyData.keyHash P (bc s),key:=jZ (bc s) n,val:=v}
noncomputable def zz3(s:String)(n:Nat):ah:=jZ (bc s) n
noncomputable def zz4(n:Int):ah:=iU n 0
noncomputable def zz6(b:Bool)(n:Nat):ah:=if b then .ref n else .none
def Rw.fo(p:Nat->Stmt)(r:Rw):Obj:=⟨.type "function",none,.func (PySem.W.fnOf r.n r.n (Za6 (p r.i)) (Zad (p r.i)) (Zz (p r.i)) .none .none .none (.str r.m r.t) none (.ref (r.f-1)) .none),#[]⟩
def Rw.co(r:Rw):Obj:={cls:=bL "code",data:=jE #[zz3 r.n r.u,zz3 r.n (r.u+1),zz3 "/claim/cut.py" (r.u+2),zz4 r.ln,zz4 r.na,zz4 0,zz4 0,zz4 3,.ref (r.f-(if r.b then 6 else 4)),.bool true,zz4 181,.ref (r.f-(if r.b then 5 else 3)),.none,zz6 r.b (r.f-4),zz6 r.b (r.f-3),.ref (r.f-2),zz4 r.v,zz4 r.ln,zz3 "/claim/cut.py" (r.v+1)]}
def Rw.de(P:jG)(r:Rw):k7:=zz1 P r.n (r.v+2) (.ref r.f)
def Rw.en(p:Nat->Stmt)(r:Rw):Fg:=[(r.f,r.fo p),(r.f-1,r.co)]
structure Cw where
 n:String
 f:Nat
 t:Nat
 ln:Nat
def Cw.cls(r:Cw):Obj:={cls:=bL "type",data:=Data.cls {name:=bc r.n,bases:=[aA 24],mro:=[aA r.f,aA 24,bL "ValueError",bL "Exception",bL "BaseException",bL "object"],ns:=r.f-1,qualname:=bc r.n},slots:= #[some (aA (r.f-9)),none,some (zz3 r.n r.t),some (zz3 r.n (r.t+8)),some (cW "ValueError.__new__"),some (iu true)]}
def Cw.ns(P:jG)(r:Cw):Obj:={cls:=bL "dict",data:=im #[zz1 P "__module__" (r.t+7) (zz3 "rayround.errors" 187),zz1 P "__firstlineno__" (r.t+11) (iU r.ln (r.t+10)),zz1 P "__static_attributes__" (r.t+12) (aA (r.f-2)),zz1 P "__doc__" (r.t+13) bE] 2}
def Cw.de(P:jG)(r:Cw):k7:=zz1 P r.n (r.t+15) (.ref r.f)
def Cw.en(P:jG)(r:Cw):Fg:=[(r.f,r.cls),(r.f-1,r.ns P)]
noncomputable def Zki(s:Stmt)(i:Nat):Stmt:=match s with
 |.ClassDef _ _ _ b _ _ _ _ _ _ _=>b.getD i s
 |_=>s
end DL
namespace HD
open PySem.W PyProof.Rows
noncomputable def Zq6(thr:iD->Bool)(stp:d7->iD->Option (d7×iD))(n:Nat):d7->iD->Option d7:=
 Nat.rec (motive:=fun _=>d7->iD->Option d7) (fun _ _=>none) (fun _ ih s t=>Bool.rec (motive:=fun _=>Option d7) (Option.rec (motive:=fun _=>Option d7) none (fun r=>ih r.1 r.2) (stp s t)) (some s) (thr t)) n
noncomputable def Zkj(ok:iD->Bool)(stp:d7->iD->Option (d7×iD))(s:d7)(t:iD):Option (d7×iD):=Bool.rec (motive:=fun _=>Option (d7×iD)) none (stp s t) (ok t)
section
variable {tb:String->Option eY}{p:cF}{w:df}{n₀:Nat}{ann:Option ah}
theorem Zls:∀{n:Nat}{s s':d7}{t:iD},Zq6 kN (Zkj (jH n₀ ann) (kO (ji tb) p w)) n s t=some s'->topRun tb p w n₀ ann n s.abs t=some s'.abs
 |0,s,s',t,h=>by cases h
 |n+1,s,s',t,h=>by
  unfold topRun
  change Bool.rec (motive:=fun _=>Option d7) (Option.rec (motive:=fun _=>Option d7) none (fun r=>Zq6 kN (Zkj (jH n₀ ann) (kO (ji tb) p w)) n r.1 r.2) (Zkj (jH n₀ ann) (kO (ji tb) p w) s t)) (some s) (kN t)=some s' at h
  cases ht:kN t with
  |true=>
   rw[ht]at h;have h':some s=some s':=h;cases h';rfl
  |false=>
   rw[ht]at h;cases hk:jH n₀ ann t with
   |false=>
    have e:Zkj (jH n₀ ann) (kO (ji tb) p w) s t=none:=by unfold Zkj;rw[hk]
    rw[e]at h;cases h
   |true=>
    have e:Zkj (jH n₀ ann) (kO (ji tb) p w) s t=kO (ji tb) p w s t:=by unfold Zkj;rw[hk]
    rw[e]at h;cases hs:kO (ji tb) p w s t with
    |none=>rw[hs]at h;cases h
    |some r=>
     obtain⟨s2,t2⟩:=r;rw[hs]at h
     have:=stepT_spec hs
     rw[this];exact Zls (n:=n) h
end
noncomputable def T0(w:df)(os:kP):d7:=
 ⟨[boot_o_0,boot_o_1,boot_o_2,boot_o_3,boot_o_4,boot_o_5,boot_o_6,boot_o_7,boot_o_8,boot_o_9,boot_o_10].foldl (fun(r:Nat×BT) o=>(r.1+1,r.2.ins r.1 (o w.params))) (0,.nil) |>.2,11,(dO w.params).life,#[],kF,k8,os⟩
theorem Zoz(w:df)(os:kP):(T0 w os).abs=⟨dO w.params,#[],kF,k8,os⟩:=by kernel_rfl
theorem Zmv:bc "__annotations__"=⟨#[95,95,97,110,110,111,116,97,116,105,111,110,115,95,95]⟩:=by decide +kernel
theorem Zin{Yf:aC->α}{Ya:df->α}(e:opening p=plainProg p.main.scope.names)(hN:Nat.ble 600 N=true)(f:∀s,fenceModules? p s=some s)(le:Nat.ble M N=true)(ZrA:∀(w:df)(os:kP),(Zq6 kN (Zkj (jH 11 (some (.ref 6))) (kO (ji kg) p w)) M (T0 w os) (topStub p)).map (fun s=>((staticsOk (eP p.main.body) (dO w.params) s.abs.heap&&namesBound p s.abs.heap&&gensDone s.abs&&laidKept (dO w.params) s.abs.heap),openSeen q loose (eP p.main.body) Xt true s.abs,Yf s.abs))=some (true,openGood q loose,Ya w)):LeftO p q loose Xt Yf Ya N:=fun w=>by
 obtain⟨⟨h,gs,d,k,os⟩,e1,e2⟩:=eI.mp (boot_open e hN f w);obtain⟨rfl,rfl,rfl,rfl⟩:h=dO w.params/\gs=Array.mk []/\d=kF/\k=k8:=by simpa using e2
 obtain⟨s',r1,r2⟩:=eI.mp (ZrA w os);obtain⟨l1,l2,l3⟩:_/\_/\_:=by simpa only[gS]using r2
 have r:=Zls r1;rw[Zoz]at r;have r:=topRun_mono (N-M) _ _ _ _ r;rw[show M+(N-M)=N by have:=Nat.le_of_ble_eq_true le;lia]at r
 have z1:((dO w.params).isNs ai&&(Array.mk []:Array GenState).size==0)=true:=by kernel_rfl
 have z2:(dO w.params).objs.size=11:=rfl;have z3:(dO w.params).nsMap ai "__annotations__"=some (.ref 6):=by
  rw[Zmv]
  kernel_rfl
 have t:topFrom kg p w N ⟨dO w.params,Array.mk [],kF,k8,os⟩=some s'.abs:=by
  unfold topFrom;dsimp only;rw[z1,z2,z3,r];show(match staticsOk (eP p.main.body) (dO w.params) s'.abs.heap&&namesBound p s'.abs.heap&&gensDone s'.abs&&laidKept (dO w.params) s'.abs.heap with|true=>_|false=>_)=_
  rw[l1]
 unfold openEnds;rw[e1];show(topFrom kg p w N _).map _=_;rw[t];exact congrArg some (jF l2 l3)
end HD
namespace HD
open PySem.W
theorem ZrB:@jH=@PySem.W.Fast.tw6613529449190102663:=PySem.W.Fast.te6613529449190102663
theorem Zmw:@kO=@PySem.W.Fast.tw10156331382660048174:=PySem.W.Fast.te10156331382660048174
theorem ZoA:@ji=@PySem.W.Fast.tw11892475500146522536:=PySem.W.Fast.te11892475500146522536
theorem ZoB:@kg=@PySem.W.Fast.tw14364793385576792824:=PySem.W.Fast.te14364793385576792824
theorem Zmx:@openSeen=@PySem.W.Fast.tw4187177175401517315:=PySem.W.Fast.te4187177175401517315
theorem ZoC:@eP=@PySem.W.Fast.tw5923862056798008813:=PySem.W.Fast.te5923862056798008813
end HD
namespace K77
open L2 DL
noncomputable def top(i:Nat):Stmt:=PySem.Challenge.pw_rayround_k77_texts_refused.main.body.getD i (.Pass ⟨0,0,0,0⟩)
def dS(i:Nat):List (Str×c7):=(Zz (top i)).names
noncomputable abbrev rw0(n:String)(i f u ln na:Nat)(b:Bool)(v:Nat):Rw:=⟨n,i,f,"rayround.wholes",458,u,ln,na,b,v⟩
noncomputable abbrev rw1(n:String)(i f u ln na:Nat)(b:Bool)(v:Nat):Rw:=⟨n,i,f,"rayround.ratios",477,u,ln,na,b,v⟩
noncomputable abbrev rw2(n:String)(i f u ln na:Nat)(b:Bool)(v:Nat):Rw:=⟨n,i,f,"rayround.pairs",486,u,ln,na,b,v⟩
noncomputable abbrev rw3(n:String)(i f u ln na:Nat)(b:Bool)(v:Nat):Rw:=⟨n,i,f,"rayround.rounds",517,u,ln,na,b,v⟩
noncomputable abbrev rw4(n:String)(i f u ln na:Nat)(b:Bool)(v:Nat):Rw:=⟨n,i,f,"rayround.texts",548,u,ln,na,b,v⟩
noncomputable abbrev rw5(n:String)(i f u ln na:Nat)(b:Bool)(v:Nat):Rw:=⟨n,i,f,"law_rayround_k77_texts_refused",593,u,ln,na,b,v⟩
def tab:List Rw:=[rw0 "is_whole" 18 221 460 39 1 true 464,rw0 "greatest_divisor" 19 228 467 41 2 true 474,rw1 "is_ratio" 21 235 479 47 1 true 483,rw2 "is_pair" 23 242 488 52 1 true 492,rw2 "crossed" 24 249 495 54 2 true 500,rw2 "common" 25 256 503 56 1 true 507,rw2 "is_ray" 26 263 510 58 1 true 514,rw3 "following" 28 270 519 61 2 true 524,rw3 "met_direction" 29 277 527 63 2 true 532,rw3 "look_round" 30 282 535 65 1 false 538,rw3 "is_round" 31 289 541 76 1 true 545,rw4 "words_of" 33 296 550 83 1 true 554,rw4 "read_number" 34 301 557 87 1 false 560,rw4 "read_ratio" 35 306 563 94 1 false 566,rw4 "read_pair" 36 311 569 102 1 false 572,rw4 "read_round" 37 316 575 107 1 false 578,rw4 "read_height" 38 321 581 112 1 false 584,rw4 "read_row" 39 326 587 114 1 false 590,rw5 "_law_bag" 41 333 595 119 2 true 602,rw5 "_law_digit" 42 340 605 125 2 true 611,rw5 "_law_led" 43 347 614 132 2 true 621,rw5 "_law_both" 44 354 624 135 2 true 631,rw5 "_law_turning" 45 361 634 139 1 true 642,rw5 "_law_cross" 46 368 645 146 2 true 650,rw5 "_law_sum" 47 375 653 148 2 true 658,rw5 "_law_near" 48 382 661 150 1 true 665,rw5 "_law_brought" 49 387 668 152 3 false 671,rw5 "_law_smooth" 50 394 674 159 1 true 684,rw5 "_law_straight" 51 401 687 169 1 true 693,rw5 "_law_put" 52 408 696 174 2 true 703,rw5 "_law_any" 53 415 706 180 1 true 716,rw5 "_law_low" 54 422 719 193 2 true 726,rw5 "_law_height" 55 429 729 198 2 true 739,rw5 "_law_long" 56 436 742 213 1 true 746,rw5 "_law_whole" 57 443 749 215 1 true 753,rw5 "_law_classes" 58 448 756 217 1 false 759,rw5 "_law_is_ray" 59 455 762 223 1 true 766,rw5 "_law_has_east" 60 462 769 227 2 true 774,rw5 "_law_fault" 61 469 777 231 1 true 784,rw5 "_law_number_in" 62 474 787 246 1 false 790,rw5 "_law_pair_in" 63 479 793 258 1 false 796,rw5 "_law_ratio_in" 64 484 799 263 1 false 802,rw5 "_law_list_in" 65 489 805 272 2 false 808,rw5 "_law_rays_text" 66 494 811 277 1 false 814,rw5 "_law_ratio_text" 67 501 817 279 1 true 821,rw5 "_law_height_text" 68 506 824 283 1 false 827,rw5 "_law_row_text" 69 511 830 285 1 false 833,rw5 "_law_due" 70 518 836 287 2 true 842,rw5 "_law_told" 71 525 845 294 2 true 851,rw5 "_law_changed" 72 532 854 299 2 true 863,rw5 "law" 73 537 866 315 1 false 869]
noncomputable def ZoD(p:cF)(i:Nat):Stmt:=p.main.body.getD i (.Pass ⟨0,0,0,0⟩)
noncomputable def Zq7:List Cw:=[⟨"NoRatio",37,207,4⟩,⟨"NoTurning",49,223,6⟩,⟨"NotSmooth",80,266,14⟩,⟨"NoWedge",92,282,16⟩,⟨"NoRow",104,298,18⟩,⟨"NoPlace",116,314,20⟩,⟨"NoMinus",128,330,22⟩,⟨"NoFour",140,346,24⟩,⟨"NoHeight",152,362,26⟩,⟨"NoBend",164,378,28⟩,⟨"NoBody",176,394,30⟩,⟨"NoOne",188,410,32⟩,⟨"NoText",200,426,34⟩,⟨"Unknown",212,442,36⟩]
def Kf(p:cF)(P:jG):Fg:=(3,{cls:=bL "dict",data:=im ([zz1 P "__name__" 165 (zz3 "law_rayround_k77_texts_refused" 593),zz1 P "__doc__" 166 (bE),zz1 P "__package__" 167 (bE),zz1 P "__loader__" 168 (cW "__main__.__loader__#opaque"),zz1 P "__spec__" 169 (bE),zz1 P "__annotations__" 170 (aA 6),zz1 P "__builtins__" 171 (aA 4),zz1 P "__file__" 173 (zz3 "/claim/cut.py" 172),zz1 P "__cached__" 174 (bE),zz1 P "RayError" 206 (aA 24)]++(Zq7.take 2).map (·.de P)++[zz1 P "NoRound" 265 (aA 68)]++(Zq7.drop 2).map (·.de P)++tab.map (·.de P)).toArray 76})::tab.flatMap (·.en (ZoD p))++Zq7.flatMap (·.en P)++[(65,⟨.type "function",none,.func (PySem.W.fnOf "__init__" "NoRound.__init__" (Za6 (Zki (ZoD p 4) 0)) (Zad (Zki (ZoD p 4) 0)) (Zz (Zki (ZoD p 4) 0)) .none .none .none (.str "rayround.errors" 187) none (.ref 64) .none),#[]⟩),
 (64,{cls:=bL "code",data:=jE #[zz3 "__init__" 251,zz3 "NoRound.__init__" 252,zz3 "/claim/cut.py" 253,zz4 10,zz4 3,zz4 0,zz4 0,zz4 3,aA 59,iu true,zz4 181,aA 60,bE,aA 61,aA 62,aA 63,zz4 257,zz4 10,zz3 "/claim/cut.py" 258]}),
 (2,{cls:=bE,data:=im #[]}),
 (23,{cls:=bL "dict",data:=im #[zz1 P "__module__" 196 (zz3 "rayround.errors" 187),zz1 P "__firstlineno__" 200 (iU 2 199),zz1 P "__static_attributes__" 201 (aA 22),zz1 P "__weakref__" 203 (aA 25),zz1 P "__doc__" 204 (bE)] 3}),
 (24,{cls:=bL "type",data:=Data.cls {name:=bc "RayError",bases:=[bL "ValueError"],mro:=[aA 24,bL "ValueError",bL "Exception",bL "BaseException",bL "object"],ns:=23,qualname:=bc "RayError",subclasses:=[aA 37,aA 49,aA 68,aA 80,aA 92,aA 104,aA 116,aA 128,aA 140,aA 152,aA 164,aA 176,aA 188,aA 200,aA 212]},slots:= #[some (aA 15),none,some (zz3 "RayError" 189),some (zz3 "RayError" 197),some (cW "ValueError.__new__"),some (iu true)]}),
 (67,{cls:=bL "dict",data:=im #[zz1 P "__module__" 246 (zz3 "rayround.errors" 187),zz1 P "__firstlineno__" 250 (iU 8 249),zz1 P "__init__" 259 (aA 65),zz1 P "__static_attributes__" 262 (aA 66),zz1 P "__doc__" 263 (bE)] 2}),
 (68,{cls:=bL "type",data:=Data.cls {name:=bc "NoRound",bases:=[aA 24],mro:=[aA 68,aA 24,bL "ValueError",bL "Exception",bL "BaseException",bL "object"],ns:=67,qualname:=bc "NoRound"},slots:= #[some (aA 52),none,some (zz3 "NoRound" 239),some (zz3 "NoRound" 247),some (cW "ValueError.__new__"),some (iu true)]})]
def asK:List Addr:=3::tab.flatMap (fun r=>[r.f,r.f-1])++Zq7.flatMap (fun r=>[r.f,r.f-1])++[65,64,2,23,24,67,68]
def Tf:Fg:=tab.map (fun r=>(r.f-(if r.b then 5 else 3),{cls:=.none,data:=.fields #[]}))++[(60,{cls:=.none,data:=.fields #[]})]
def asT:List Addr:=asK++tab.map (fun r=>r.f-(if r.b then 5 else 3))++[60]
theorem ZoE(p:cF)(P:jG):asT=(Kf p P++Tf).map (·.1):=by kernel_rfl
def qf(p:cF):cF:={p with main:={p.main with body:=[ZoD p 73]}}
noncomputable def lo:List Str:=(["__name__","RayError","NoRatio","NoTurning","NoRound","NotSmooth","NoWedge","NoRow","NoPlace","NoMinus","NoFour","NoHeight","NoBend","NoBody","NoOne","NoText","Unknown","is_whole","greatest_divisor","is_ratio","is_pair","crossed","common","is_ray","following","met_direction","look_round","is_round","words_of","read_number","read_ratio","read_pair","read_round","read_height","read_row","_law_bag","_law_digit","_law_led","_law_both","_law_turning","_law_cross","_law_sum","_law_near","_law_brought","_law_smooth","_law_straight","_law_put","_law_any","_law_low","_law_height","_law_long","_law_whole","_law_classes","_law_is_ray","_law_has_east","_law_fault","_law_number_in","_law_pair_in","_law_ratio_in","_law_list_in","_law_rays_text","_law_ratio_text","_law_height_text","_law_row_text","_law_due","_law_told","_law_changed"]:List String).map bc
open PySem.W
noncomputable abbrev pw:=PySem.Challenge.pw_rayround_k77_texts_refused
abbrev Hk:Hook:=kHook (fun P=>Kf pw P++Tf) asT (ZoE pw)
set_option maxRecDepth 1000000 in
set_option maxHeartbeats 0 in
theorem ZrA(w:df)(os:kP):(HD.Zq6 kN (HD.Zkj (jH 11 (some (.ref 6))) (kO (ji kg) PySem.Challenge.pw_rayround_k77_texts_refused w)) 5011 (HD.T0 w os) (topStub PySem.Challenge.pw_rayround_k77_texts_refused)).map (fun s=>((staticsOk (eP PySem.Challenge.pw_rayround_k77_texts_refused.main.body) (dO w.params) s.abs.heap&&namesBound PySem.Challenge.pw_rayround_k77_texts_refused s.abs.heap&&gensDone s.abs&&laidKept (dO w.params) s.abs.heap),openSeen (qf PySem.Challenge.pw_rayround_k77_texts_refused) lo (eP PySem.Challenge.pw_rayround_k77_texts_refused.main.body) (fun s=>xlAt (qf PySem.Challenge.pw_rayround_k77_texts_refused) [] s&&recOk [] s) true s.abs,asT.map s.abs.heap.get?))=some (true,openGood (qf PySem.Challenge.pw_rayround_k77_texts_refused) lo,(Kf PySem.Challenge.pw_rayround_k77_texts_refused w.params++Tf).map fun x=>some x.2):=by
 rw[HD.ZrB,HD.Zmw,HD.ZoA,HD.ZoB,HD.Zmx,HD.ZoC]
 kernel_rfl
set_option maxRecDepth 1000000 in
set_option maxHeartbeats 0 in
theorem Zt6:PySem.W.OpenLaw.wellSaid PySem.Challenge.rw_rayround_k77_texts_refused=true:=by kernel_rfl
end K77
namespace L2
open PyProof.Rows
section
variable (P:cF)(w:df)
end
section
variable {κ:Type}[DecidableEq κ]
theorem KV.length{kvs:List (κ×V)}{vs:List (κ×ah)}(r:KV kvs vs):kvs.length=vs.length:=Paired.length r
end
structure M1(X:Cx) (o:Expr) (m:Str) (apos:Pos) (e:Expr) (cpos:Pos):Prop where
 base:fW o m X.env (eval o X.env)=eval o X.env
 few:((bT cpos (af [e] X.env)).all (fun x=> !x.1)&&(iV cpos (ge [] X.env)).all (fun x=>x.1.isSome) && decide (([e]:List Expr).length+([]:List gy).length+(if([]:List gy).isEmpty then 0 else 1)<30))=true
 line:(apos.endLine==cpos.line)=true
 trees:bT cpos (af [e] X.env)=[(false,eval e X.env)]
structure M2(X:Cx) (o:Expr) (m:Str) (apos:Pos) (e f:Expr) (cpos:Pos):Prop where
 base:fW o m X.env (eval o X.env)=eval o X.env
 few:((bT cpos (af [e,f] X.env)).all (fun x=> !x.1)&&(iV cpos (ge [] X.env)).all (fun x=>x.1.isSome) && decide (([e,f]:List Expr).length+([]:List gy).length+(if([]:List gy).isEmpty then 0 else 1)<30))=true
 line:(apos.endLine==cpos.line)=true
 trees:bT cpos (af [e,f] X.env)=[(false,eval e X.env),(false,eval f X.env)]
end L2
namespace Att
open PySem.W PySem.Calls PyProof.Rows
end Att
namespace L2
open PyProof.Rows
section
variable {κ:Type}[DecidableEq κ]
end
end L2
namespace DQ
open PyProof.Rows
structure Fly(B:Heap) (l:List Env) (e:Addr) (cls:ah) (dct:Option Addr) (fl:ah) (h:Heap):Prop where
 stay:B.StaysIn h
 new:B.get? e=none
 frames:h.FunFrames B l
 obj:∃oe vs T oT ts,h.get? e=some oe/\oe.cls=cls/\oe.dict=dct/\oe.data=.fields vs/\vs[2]?=some .none/\vs[1]?=some (.ref T)/\B.get? T=none/\T≠e/\h.get? T=some oT/\oT.data=.fields ts/\ts[3]?=some fl
theorem Fly.tail(f:Fly B (env::l) e cls dct fl h):Fly B l e cls dct fl h:=⟨f.stay,f.new,f.frames.2.2,f.obj⟩
section
variable {outer:List Env}
theorem apart{h:Heap}(hl:h.FunFrames B l)(he:h.get? e=some oe)(hd:oe.data=.fields vs):e∉l.filterMap (·.frame):=fun z=>by
 obtain⟨_,o,h1,h2⟩:=hl.mem z;rw[he]at h1;cases h1;exact h2 vs hd
theorem Zcj(hfr:A.frames=some (env::outer))(hl:s.heap.FunFrames B (env::outer))(hf:env.frame=some L)(he:s.heap.get? e=some oe)(hs:B.StaysIn s.heap)(hb:B.get? e=none)(hd:oe.data=.fields vs)(hz:2<vs.size)(h2:vs[2]?=some .none)(h:∀h',Fly B (env::outer) e oe.cls oe.dict (gk L) h'->s.heap.UpToSlots h'->Q () {s with heap:=h'}):wpAny M A (frameOf env >>= fun a=>entryPlaceOf L hn >>= fun pl=>kj head a .none (gk L) .none pl >>= fun b=>setField (.ref e) 1 b) Q E s:=by
 have ne:=apart hl he hd;refine Wb (wpAny_frameOf_fun hfr hl hf fun h1 k1=>Wb (wpAny_entryPlaceOf fun pl hpl=>Wb ?_));unfold kj newFields;refine bA ?_ (hpl.sizeOk5 _ _ _ _ _);generalize hT:([head,aA L,bE,gk L,bE]++(if pl.isEmpty then aB 6 bE else pl)).toArray=ts;have h3:ts[3]?=some (gk L):=by
  rw[<-hT];rcases hpl with rfl|⟨_,_,_,_,_,_,_,rfl⟩<;>simp
 have e1:h1.get? e=some oe:=(k1.2.1 e ne).trans he;have s1:B.StaysIn h1:=fun b o hbo=>(k1.2.1 b fun z=>by rw[(hl.mem z).1]at hbo;cases hbo).trans (hs b o hbo)
 generalize hoT:({cls:=.type "traceback",dict:=none,data:=.fields ts}:Obj)=oT;have dT:oT.data=.fields ts:=by rw[<-hoT]
 have fT:oT.isFreed=false:=cR dT;have e2:(h1.push oT).get? e=some oe:=Hq _ e1;have nT:h1.objs.size≠e:=cX (Hz e1);refine cG e2 hd (dq (by decide) hz) (h _ ?_ ?_)
 ·have d3:=cT hd (·.setIfInBounds 1 (aA h1.objs.size));have e3:=cx (dy (·.setIfInBounds 1 (aA h1.objs.size))) e2 (cR d3);have keep:∀b o,b≠e->h1.get? b=some o->((h1.push oT).update e (dy (·.setIfInBounds 1 (aA h1.objs.size)))).get? b=some o:=fun b o hbe x=>by
   rw[aI _ _ (bJ hbe)];exact Hq _ x
  have gT:(h1.push oT).get? h1.objs.size=some oT:=aW _ fT;refine⟨fun b o x=>keep b o (fun z=>by rw[z,hb]at x;cases x) (s1 b o x),hb,hl.of_keeps fun b o x y=>?_,_,_,h1.objs.size,oT,ts,e3,Obj.cls_mapFields _ _,?_,d3,?_,?_,s1.fresh,nT,?_,dT,h3⟩
  ·obtain⟨sl,z⟩:=k1.2.2 b o x;exact⟨_,keep b _ (fun w=>y vs (by rw[w,he]at x;cases x;exact hd)) z,rfl⟩
  ·obtain⟨c,d,dd,sl⟩:=oe;cases hd;rfl
  ·rw[dZ (by decide)]
   exact h2
  ·rw[bZ (dq (by decide) hz)]
  ·rw[aI _ _ (bJ nT)];exact gT
 ·intro b o x y;obtain⟨sl,z⟩:=k1.2.2 b o x;refine⟨sl,?_⟩;rw[aI _ _ (fun w=>y vs (by rw[<-w,he]at x;cases x;exact hd))]
  exact Hq _ z
theorem Za7(f:Fly B l e cls dct fl s.heap)(h:∀h',Fly B l e cls dct .none h'->s.heap.UpToSlots h'->Q () {s with heap:=h'}):wpAny M A (fL (.ref e) none) Q E s:=by
 obtain⟨st,nw,fr,oe,vs,T,oT,ts,g1,g2,g3,g4,g5,g6,g7,g8,g9,g10,g11⟩:=f;have hz:3<ts.size:=(aV.mp g11).1;unfold fL;refine Wb (bf g1 g4 g6 ?_);rw[if_pos (by simp)]
 have oth:∀b o,b≠T->s.heap.get? b=some o->(s.heap.update T (dy (·.setIfInBounds 3 bE))).get? b=some o:=fun b o hb x=>by
  rw[aI _ _ (bJ hb)];exact x
 have nr:∀b o,s.heap.get? b=some o->(∀vs,o.data≠ .fields vs)->b≠T:=fun b o x y z=>by
  rw[z,g9]at x;cases x;exact y ts g10
 refine cG g9 g10 hz (h _ ⟨fun b o x=>oth b o (fun z=>by rw[z,g7]at x;cases x) (st b o x),nw,fr.of_keeps fun b o x y=>⟨o,oth b o (nr b o x y) x,rfl⟩,?_⟩ fun b o x y=>⟨o.slots,oth b o (nr b o x y) x⟩)
 exact⟨oe,vs,T,_,_,oth e oe (bJ g8) g1,g2,g3,g4,g5,g6,g7,g8,cx _ g9 (cR (cT g10 _)),cT g10 _,by rw[bZ hz];rfl⟩
theorem Zdc(hfr:A.frames=some (env::outer))(hf:env.frame=some L)(f:Fly B (env::outer) e cls dct .none s.heap)(h:∀h',Fly B (env::outer) e cls dct (gk L) h'->s.heap.UpToSlots h'->Q () {s with heap:=h'}):wpAny M A (dB (.ref e) env) Q E s:=by
 obtain⟨st,nw,fr,oe,vs,T,oT,ts,g1,g2,g3,g4,g5,g6,g7,g8,g9,g10,g11⟩:=f;unfold dB;simp only[hf];refine Wb (bf g1 g4 g6 ?_);rw[if_pos (by simp)]
 refine Wb (bf g9 g10 g11 ?_);rw[if_neg (by simp[gk])]
 have oth:∀b o,b≠T->s.heap.get? b=some o->(s.heap.update T (dy (·.setIfInBounds 3 bE))).get? b=some o:=fun b o hb x=>by
  rw[aI _ _ (bJ hb)];exact x
 have nr:∀b o,s.heap.get? b=some o->(∀vs,o.data≠ .fields vs)->b≠T:=fun b o x y z=>by
  rw[z,g9]at x;cases x;exact y ts g10
 refine Wb (cG g9 g10 (aV.mp g11).1 ?_);refine Zcj hfr (fr.of_keeps fun b o x y=>⟨o,oth b o (nr b o x y) x,rfl⟩) hf (oth e oe (bJ g8) g1) (fun b o x=>oth b o (fun z=>by rw[z,g7]at x;cases x) (st b o x)) nw g4 (aV.mp g5).1 g5 fun h' k1 k2=>h h' (g2▸g3▸k1) ?_
 intro b o x y;exact k2 b o (oth b o (nr b o x y) x) y
theorem Zio(hfr:A.frames=some (env::outer))(hf:env.frame=some L)(f:Fly B (env::outer) e cls dct .none s.heap)(h:∀h',Fly B outer e cls dct .none h'->s.heap.UpToSlots h'->Q () {s with heap:=h'}):wpAny M A (j9 env (.ref e)) Q E s:=by
 unfold j9;refine Wb (Zdc hfr hf f fun h1 k1 u1=>?_);exact Za7 (s:={s with heap:=h1}) k1 fun h2 k2 u2=>h h2 k2.tail (u1.trans u2)
theorem Zip(hfr:A.frames=some (env::outer))(hf:env.frame=some L)(hl:s.heap.FunFrames B (env::outer))(he:s.heap.get? e=some oe)(hs:B.StaysIn s.heap)(hb:B.get? e=none)(hd:oe.data=.fields vs)(h1:vs[1]?=some .none)(h2:vs[2]?=some .none)(h:∀h',Fly B outer e oe.cls oe.dict .none h'->s.heap.UpToSlots h'->Q () {s with heap:=h'}):wpAny M A (j9 env (.ref e)) Q E s:=by
 unfold j9 dB;simp only[hf];refine Wb (Wb (bf he hd h1 ?_));rw[if_neg (by decide)]
 refine Zcj hfr hl hf he hs hb hd (aV.mp h2).1 h2 fun h' k1 u1=>?_;exact Za7 (s:={s with heap:=h'}) k1 fun h2 k2 u2=>h h2 k2.tail (u1.trans u2)
end
end DQ
namespace DQ
open PyProof.Rows
open PySem.W (Looks findIn mroIn specialIn takesIn clsIn looks_findIn looks_mroIn looks_find findObj KitX)
structure ExcC(K:Fg) (C:Addr):Prop where
 ga:cL K (.ref C) "__getattribute__"=some (some (.builtin "BaseException.__getattribute__"))
 gt:cL K (.ref C) "__getattr__"=some none
 cl:cL K (.ref C) "__class__"=some (some (.builtin "object.__class__"))
 gs:eW K (.builtin "object.__class__") "__get__"=some (some (.builtin "getset_descriptor.__get__"))
 tk:ij K (.builtin "object.__class__")=some true
 bx:gf K C (.type "BaseException")=some true
 ob:gf K C (.type "object")=some true
 is:(ib K C).isSome=true
section
variable {prog:cF}{s:aC}{K:Fg}{C:Addr}{od:Option Obj}
theorem Zkk(c:ExcC K C)(X:K.In s.heap)(I:PySem.W.InstAt s.heap e oe C od)(h:Q () s):wpAny (az prog w) A (checkBuiltinCall "BaseException.__getattribute__" ⟨[.ref e,nameV],[]⟩) Q E s:=by
 have hk:builtinKind "BaseException.__getattribute__"=some .slot:=by decide +kernel
 have hp:splitId "BaseException.__getattribute__"=some ("BaseException","__getattribute__"):=by decide +kernel
 obtain⟨hh,g,d,t,os⟩:=s;have L0:=I.type (M:=az prog w);have L1:=fE (M:=az prog w) X c.bx;have ha:=F.args_bexc_ga (.ref e) nameV;simp only[checkBuiltinCall,hk,hp];refine Wb (Wb (L0.at (L1.at ?_)))
 repeat (any_goals (first|assumption|wp_step))
theorem Ziq(c:ExcC K C)(X:K.In s.heap)(I:PySem.W.InstAt s.heap e oe C od)(h:Q (.done (.ret (.ref C))) s):wpAny (az prog w) A (eY.«object.__getattribute__» ⟨[.ref e,.str "__class__" tk],[]⟩) Q E s:=by
 have hf:findObj K C od "__class__"=some (.bind (.builtin "getset_descriptor.__get__") (.builtin "object.__class__")):=by
  obtain⟨cd,hc⟩:=bP.mp c.is;unfold findObj;rw[hc,iW,c.cl,iW];simp[c.gs,c.tk]
 have fin:∀{E':Vp}{Q':Vp},Q' (.ref C) s->wpAny (az prog w) A (call (.builtin "getset_descriptor.__get__") [.builtin "object.__class__",.ref e,.ref C]) Q' E' s:=fun{E' Q'} z=>iA (PySem.W.class_get X I c.ob z);obtain⟨hh,g,d,t,os⟩:=s;have L0:=I.type (M:=az prog w);have L1:=looks_find (M:=az prog w) X I hf;refine Wb (Wp (Wb (Wp (Wb (L0.at (Wb (L1.at ?_)))))));refine Wb (wpAny_holding (fin ?_));exact Wp h
theorem ZoF{fill:Bool}(c:ExcC K C)(X:K.In s.heap)(I:PySem.W.InstAt s.heap e oe C od)(h:Q (.ref C) s):wpAny (az prog w) A (getAttrBy (.ref e) (.str "__class__" tk) fill expr) Q E s:=by
 have hc:∀{E':Vp}{Q':Vp},Q' (.ref C) s->wpAny (az prog w) A (call (.builtin "BaseException.__getattribute__") [.ref e,.str "__class__" tk]) Q' E' s:=fun{E' Q'} z=>
  iA (gZ F.attr_ValueError.ga.plain F.entry_bexc_ga (Zkk c X I (Ziq c X I z)))
 obtain⟨hh,g,d,t,os⟩:=s;have L0:=I.type (M:=az prog w);have L1:=ik (M:=az prog w) X c.ga;have L2:=ik (M:=az prog w) X c.gt;have hb:=F.attr_ValueError.ga.bind (.ref e);have hx:(onTheHeap (aA C)&&cW "BaseException.__getattribute__"==cW "object.__getattribute__")=false:=by rw[show(cW "BaseException.__getattribute__"==cW "object.__getattribute__")=false by decide +kernel];rfl
 have hy:(expr&&onTheHeap (cW "BaseException.__getattribute__"))=false:=by cases expr<;>rfl
 unfold getAttrBy;refine wpAny_holding (Wb (L0.at (Wb (L1.at ?_))));dsimp only;rw[hx,if_neg (by decide)]
 unfold getAttrByItsOwn hookBefore;rw[if_pos (show onTheHeap (aA C)=true from rfl)];refine Wb (L2.at (Wb (kz (wpAny_holding ?_))));unfold callGetattribute;rw[hy,if_neg (by decide)]
 unfold boundAndCalled;refine Wb (wpAny_of_eq hb (hc ?_));exact Wp h
theorem Zkl(c:ExcC K C)(X:K.In s.heap)(I:PySem.W.InstAt s.heap e oe C od)(h:Q (some (.ref C)) {s with toks:=s.toks+1}):wpAny (az prog w) A (getAttr? (.ref e) "__class__") Q E s:=by
 unfold getAttr? getAttrBy?;refine Wb (wpAny_mkText (Wb (kz (ZoF (s:={s with toks:=s.toks+1}) c X I (Wp h)))))
theorem Zkm(c:ExcC K C):KitX K (.ref e) (.ref C) (fun h=>PySem.W.InstAt h e oe C od) where
 ty:=fun _ _ _ I=>I.type
 it:=fun M h X _=>by
  obtain⟨cd,hc⟩:=bP.mp c.is;unfold ib at hc
  split at hc
  ·rename_i o1 o2 o3 o4 ho;intro A' Q' E' s' k q;unfold isType loadHead;exact Wb (wpAny_loadPart (k _ _ (X _ _ ho)) (Wp q))
  ·cases hc
 ne:=fun h tp dd its n sl X htp=>by
  obtain⟨cd,hc⟩:=bP.mp c.is;refine Bool.eq_false_iff.mpr fun q=>?_;cases aA.inj (beq_iff_eq.mp q);unfold ib at hc
  split at hc
  ·rename_i o1 o2 o3 o4 ho;cases(X _ _ ho).symm.trans htp
  ·cases hc
 ca:=fun X I k=>Zkl c X I k
end
end DQ
namespace DL
open PyProof.Rows L2
inductive D where
 |non
 |bl (b:Bool)
 |int (i:Int)
 |str (x:Str)
 |tup (xs:List D)
 |rol (xs:List D)
 |con (xs:List D)
 |ref (n:Nat)
 |err (c:Str) (xs:List D)
 |dk (n:Nat)
 |dt (n:Nat)
 |du (n:Nat)
 |fn (c:Str)
inductive SO where
 |lst (xs:List D)
noncomputable abbrev Sto:=List SO
noncomputable abbrev Ro:=List (Option D)
abbrev W2:=Str->Sto->Prop
abbrev W1:=Ro->Sto->Prop
abbrev W0:=D->Sto->Prop
def SqF(K:Fg)(H:Hp)(a:Addr)(xs:List V):Prop:=
 (∃o,H a=some (.frz o (.lst xs)))\/∃(o:Obj) (its:Array ah) (n:Nat),K.lookup a=some o/\o.cls=.type "list"/\o.dict=none/\o.data=.seq its n/\its.size<=sizeLine/\ZR xs its.toList
theorem SqF.sq{K:Fg}(h:SqF K H a xs):SqL K H a xs:=by
 rcases h with⟨o,h⟩|h
 ·exact .inl (.inr ⟨o,h⟩)
 ·exact .inr h
def SqK(K:Fg)(a:Addr)(xs:List V):Prop:=∃(o:Obj) (its:Array ah) (n:Nat),K.lookup a=some o/\o.cls=.type "tuple"/\o.data=.seq its n/\its.size<=sizeLine/\ZR xs its.toList/\o.dict=none
theorem SqK.sq{K:Fg}(h:SqK K a xs):SqT K H a xs:=by
 obtain⟨o,its,n,h1,h2,h3,h4,h5,_⟩:=h;exact .inr ⟨o,its,n,h1,h2,h3,h4,h5⟩
noncomputable def Zti:List Str:=[PySem.Str.ofString "where",PySem.Str.ofString "at"]
def EOk(H:Hp)(p C:Addr)(xs:List V):Prop:=∃oe u vs,H p=some (.frz oe u)/\oe.cls=.ref C/\oe.data=.fields vs/\vs[2]?=some .none/\((xs=[]/\oe.dict=none)\/∃dx fs,oe.dict=some dx/\H dx=some (.xd fs)/\fs.map (·.2)=xs/\fs.map (·.1)=Zti)
noncomputable def Kn(H:Hp)(p:Addr):Option Nat:=match H p with|some (.lst _)=>some 0|some (.dK _)=>some 1|some (.dT _)=>some 2|some (.dU _)=>some 3|some (.frz _ (.dK _))=>some 1|some (.frz _ (.dT _))=>some 2|_=>none
structure RefK(H:Hp) (α:List Addr) (j n:Nat) (p:Addr):Prop where
 at':α[n]?=some p
 kn:Kn H p=some j
theorem Kn.lst{H:Hp}{p:Addr}{xs:List V}(h:H p=some (.lst xs)):Kn H p=some 0:=by unfold Kn;rw[h]
theorem Kn.ne(h:Kn H p=some j)(hq:H q=none):Kn (upd H q o) p=some j:=by
 have:p≠q:=by
  intro z;unfold Kn at h;rw[z,hq]at h;cases h
 unfold Kn;rw[Zs this];exact h
mutual
inductive Rep(K:Fg) (H:Hp) (α:List Addr):V->D->Prop where
 |non:Rep K H α .non .non
 |bl (b:Bool):Rep K H α (.bl b) (.bl b)
 |int (i:Int):Rep K H α (.int i) (.int i)
 |str (x:Str):Rep K H α (.str x) (.str x)
 |tup {p:Addr} {xs:List V} {ds:List D}:H p=some (.tup xs)->Reps K H α xs ds->Rep K H α (.ref p) (.tup ds)
 |rol {p:Addr} {xs:List V} {ds:List D}:SqF K H p xs->Reps K H α xs ds->Rep K H α (.ref p) (.rol ds)
 |con {p:Addr} {xs:List V} {ds:List D}:SqK K p xs->Reps K H α xs ds->Rep K H α (.ref p) (.con ds)
 |ref {p:Addr} {n:Nat}:RefK H α 0 n p->Rep K H α (.ref p) (.ref n)
 |dk {p:Addr} {n:Nat}:RefK H α 1 n p->Rep K H α (.ref p) (.dk n)
 |dt {p:Addr} {n:Nat}:RefK H α 2 n p->Rep K H α (.ref p) (.dt n)
 |du {p:Addr} {n:Nat}:RefK H α 3 n p->Rep K H α (.ref p) (.du n)
 |fn {p:Addr} {c:Str}:PySem.W.nsIn K ai c=some (some (.ref p))->Rep K H α (.ref p) (.fn c)
 |err {p C:Addr} {c:Str} {xs:List V} {ds:List D}:PySem.W.nsIn K ai c=some (some (.ref C))->EOk H p C xs->Reps K H α xs ds->Rep K H α (.ref p) (.err c ds)
inductive Reps(K:Fg) (H:Hp) (α:List Addr):List V->List D->Prop where
 |nil:Reps K H α [] []
 |cons {v:V} {d:D} {vs:List V} {ds:List D}:Rep K H α v d->Reps K H α vs ds->Reps K H α (v::vs) (d::ds)
end
structure Ext(K:Fg) (H H':Hp) (α α':List Addr):Prop where
 tup:∀p xs,H p=some (.tup xs)->H' p=some (.tup xs)
 rol:∀p xs,SqF K H p xs->SqF K H' p xs
 err:∀p C xs,EOk H p C xs->EOk H' p C xs
 kn:∀p j,Kn H p=some j->Kn H' p=some j
 fz:∀p o u,H p=some (.frz o u)->H' p=some (.frz o u)
 al:∃β,α'=α++β
section
variable {K:Fg}{H H1 H':Hp}{α:List Addr}
theorem Ext.refl:Ext K H H α α:=⟨fun _ _ h=>h,fun _ _ h=>h,fun _ _ _ h=>h,fun _ _ h=>h,fun _ _ _ h=>h,[],(aY _).symm⟩
theorem Ext.trans(a:Ext K H H1 α α1)(b:Ext K H1 H2 α1 α2):Ext K H H2 α α2:=by
 obtain⟨b1,e1⟩:=a.al;obtain⟨b2,e2⟩:=b.al;exact⟨fun p xs h=>b.tup p xs (a.tup p xs h),fun p xs h=>b.rol p xs (a.rol p xs h),fun p C xs h=>b.err p C xs (a.err p C xs h),fun p j h=>b.kn p j (a.kn p j h),fun p o u h=>b.fz p o u (a.fz p o u h),b1++b2,by rw[e2,e1,cu]⟩
theorem Ext.get0(e:Ext K H H' α α'){n:Nat}(h:α[n]?=some p):α'[n]?=some p:=by
 obtain⟨β,e1⟩:=e.al;have hl:n<α.length:=(aj.mp h).1;rw[e1,aH hl];exact h
theorem Ext.get(e:Ext K H H' α α')(h:RefK H α j n p):RefK H' α' j n p:=⟨e.get0 h.at',e.kn _ _ h.kn⟩
theorem Rep.mono(e:Ext K H H' α α')(h:Rep K H α v d):Rep K H' α' v d:=
 Rep.rec (motive_1:=fun v d _=>Rep K H' α' v d) (motive_2:=fun v d _=>Reps K H' α' v d) .non .bl .int .str (fun h _ r=>.tup (e.tup _ _ h) r) (fun h _ r=>.rol (e.rol _ _ h) r) (fun h _ r=>.con h r) (fun h=>.ref (e.get h)) (fun h=>.dk (e.get h)) (fun h=>.dt (e.get h)) (fun h=>.du (e.get h)) .fn (fun n h _ r=>.err n (e.err _ _ _ h) r) .nil (fun _ _ r t=>.cons r t) h
theorem Reps.mono(e:Ext K H H' α α')(h:Reps K H α v d):Reps K H' α' v d:=by
 induction d generalizing v with
 |nil=>cases h;exact .nil
 |cons _ _ ih=>cases h with|cons r t=>exact .cons (r.mono e) (ih t)
theorem Reps.length:∀{vs:List V}{ds:List D},Reps K H α vs ds->vs.length=ds.length:=by
 intro vs
 induction vs with
 |nil=>intro ds h;cases h;rfl
 |cons v vs ih=>
  intro ds h;cases h with
  |cons _ t=>rw[ao,ao,ih t]
theorem Reps.get:∀{vs:List V}{ds:List D}{i:Nat}{d:D},Reps K H α vs ds->ds[i]?=some d->∃v,vs[i]?=some v/\Rep K H α v d
 |_,_,_,_,.nil,e=>by simp at e
 |_,_,0,_,.cons r _,e=>by simp at e;subst e;exact⟨_,rfl,r⟩
 |_,_,i+1,d,.cons _ t,e=>by
  obtain⟨u,h1,h2⟩:=Reps.get (i:=i) (d:=d) t (by simpa using e)
  exact⟨u,by simpa using h1,h2⟩
theorem Reps.set{v:V}{d:D}(r:Rep K H α v d):∀{vs:List V}{ds:List D}(i:Nat),Reps K H α vs ds->Reps K H α (vs.set i v) (ds.set i d)
 |_,_,_,.nil=>.nil
 |_,_,0,.cons _ t=>.cons r t
 |_,_,i+1,.cons q t=>.cons q (Reps.set r i t)
theorem Reps.append:∀{vs ws:List V}{ds es:List D},Reps K H α vs ds->Reps K H α ws es->Reps K H α (vs++ws) (ds++es):=by
 intro vs
 induction vs with
 |nil=>intro ws ds es h s;cases h;exact s
 |cons v vs ih=>
  intro ws ds es h s;cases h with
  |cons r t=>exact .cons r (ih t s)
theorem Reps.ints:∀(ns:List Int),Reps K H α (ns.map V.int) (ns.map D.int)
 |[]=>.nil
 |n::r=>.cons (.int n) (Reps.ints r)
theorem Zir(h:H q=some (.tup xs))(hp:∀u,H p=some u->(∀ys,u≠ .tup ys)/\∀ob w,u≠ .frz ob w):upd H p o q=some (.tup xs):=by
 rw[Zs (fun e=>(hp _ (e▸h)).1 _ rfl)];exact h
theorem Zis(h:SqF K H q xs)(hp:∀u,H p=some u->∀ob w,u≠ .frz ob w):SqF K (upd H p o) q xs:=by
 rcases h with⟨ob,h⟩|h
 ·refine .inl ⟨ob,?_⟩;rw[Zs (fun e=>hp _ (e▸h) _ _ rfl)];exact h
 ·exact .inr h
theorem Zlt(h:H q=some (.frz ob u))(hp:∀u,H p=some u->∀ob w,u≠ .frz ob w):upd H p o q=some (.frz ob u):=by
 rw[Zs (fun e=>hp _ (e▸h) _ _ rfl)];exact h
theorem Zit(h:EOk H q C xs)(hp:∀u,H p=some u->(∀ob w,u≠ .frz ob w)/\∀fs,u≠ .xd fs):EOk (upd H p o) q C xs:=by
 obtain⟨oe,u,vs,h1,h2,h3,h4,h5⟩:=h;refine⟨oe,u,vs,?_,h2,h3,h4,?_⟩
 ·rw[Zs (fun e=>(hp _ (e▸h1)).1 _ _ rfl)];exact h1
 ·rcases h5 with h5|⟨dx,fs,k1,k2,k3⟩
  ·exact .inl h5
  ·refine .inr ⟨dx,fs,k1,?_,k3⟩;rw[Zs (fun e=>(hp _ (e▸k2)).2 _ rfl)];exact k2
theorem Ext.new(h:H p=none):Ext K H (upd H p o) α (α++β):=
 ⟨fun q xs z=>Zir z (fun u e=>(by rw[h]at e;cases e)),fun q xs z=>Zis z (fun u e=>(by rw[h]at e;cases e)),fun q C xs z=>Zit z (fun u e=>(by rw[h]at e;cases e)),fun q j z=>Kn.ne z h,fun q o u z=>Zlt z (fun u e=>(by rw[h]at e;cases e)),β,rfl⟩
theorem Ext.new0(h:H p=none):Ext K H (upd H p o) α α:=by
 have e:=Ext.new (K:=K) (H:=H) (α:=α) (o:=o) h (β:=[]);rw[aY]at e;exact e
theorem Ext.wrK(h:Kn H p=some j)(nf:∀ob w,H p≠some (.frz ob w))(h':Kn (upd H p o) p=some j):Ext K H (upd H p o) α α:=by
 have ne (u:HO) (e:H p=some u):(∀ys,u≠ .tup ys)/\(∀ob w,u≠ .frz ob w)/\∀fs,u≠ .xd fs:=by
  unfold Kn at h;rw[e]at h;refine⟨fun ys z=>?_,fun ob w z=>nf ob w (by rw[e,z]),fun fs z=>?_⟩<;>subst z<;>cases h
 refine⟨fun q xs z=>Zir z fun u e=>⟨(ne u e).1,(ne u e).2.1⟩,fun q xs z=>Zis z fun u e=>(ne u e).2.1,fun q C xs z=>Zit z fun u e=>⟨(ne u e).2.1,(ne u e).2.2⟩,fun q i z=>?_,fun q ob u z=>Zlt z fun u e=>(ne u e).2.1,[],(aY _).symm⟩;by_cases c:q=p
 ·subst c;rw[h]at z;cases z;exact h'
 ·unfold Kn;rw[Zs c];exact z
theorem Ext.wr(h:H p=some (.lst xs)):Ext K H (upd H p (.lst ys)) α α:=Ext.wrK (Kn.lst h) (fun ob w z=>by rw[h]at z;cases z) (Kn.lst Zp)
noncomputable def ZrC:Key->D
 |.inl i=>.int i
 |.inr x=>.str x
def Zmy(ks:List Key):D:=.tup (ks.map ZrC)
def Zt7(ks:List (List Key)):D:=.tup (ks.map Zmy)
noncomputable def Zfo(K:Fg)(H:Hp)(α:List Addr){κ:Type}(key:κ->D)(kvs:List (κ×V))(ds:List D):Prop:=
 ∃es:List D,ds=List.zipWith (fun kv e=>D.tup [key kv.1,e]) kvs es/\Reps K H α (kvs.map (·.2)) es
def SOk(K:Fg)(H:Hp)(α:List Addr)(p:Addr):SO->Prop
 |.lst ds=>(∃xs,H p=some (.lst xs)/\Reps K H α xs ds)\/(∃kvs,H p=some (.dK kvs)/\Zfo K H α ZrC kvs ds)\/(∃kvs,H p=some (.dT kvs)/\Zfo K H α Zmy kvs ds)\/(∃o kvs r,H p=some (.frz o (.dK kvs))/\ds=.non::r/\Zfo K H α ZrC kvs r)\/(∃o kvs r,H p=some (.frz o (.dT kvs))/\ds=.non::r/\Zfo K H α Zmy kvs r)\/(∃kvs,H p=some (.dU kvs)/\Zfo K H α Zt7 kvs ds)
theorem SOk.there(h:SOk K H α p o):∃u,H p=some u:=by
 cases o with
 |lst ds=>rcases h with⟨_,e,_⟩|⟨_,e,_⟩|⟨_,e,_⟩|⟨_,_,_,e,_⟩|⟨_,_,_,e,_⟩|⟨_,e,_⟩<;>exact⟨_,e⟩
theorem SOk.mono(h:SOk K H α p o)(ex:Ext K H H' α α')(e:H' p=H p):SOk K H' α' p o:=by
 cases o with
 |lst ds=>
  rcases h with⟨xs,h1,h2⟩|⟨kvs,h1,es,h2,h3⟩|⟨kvs,h1,es,h2,h3⟩|⟨o,kvs,r,h1,h0,es,h2,h3⟩|⟨o,kvs,r,h1,h0,es,h2,h3⟩|⟨kvs,h1,es,h2,h3⟩
  ·exact .inl ⟨xs,e.trans h1,Reps.mono ex h2⟩
  ·exact .inr (.inl ⟨kvs,e.trans h1,es,h2,Reps.mono ex h3⟩)
  ·exact .inr (.inr (.inl ⟨kvs,e.trans h1,es,h2,Reps.mono ex h3⟩))
  ·exact .inr (.inr (.inr (.inl ⟨o,kvs,r,e.trans h1,h0,es,h2,Reps.mono ex h3⟩)))
  ·exact .inr (.inr (.inr (.inr (.inl ⟨o,kvs,r,e.trans h1,h0,es,h2,Reps.mono ex h3⟩))))
  ·exact .inr (.inr (.inr (.inr (.inr ⟨kvs,e.trans h1,es,h2,Reps.mono ex h3⟩))))
structure HR(K:Fg) (H:Hp) (α:List Addr) (M:Sto):Prop where
 len:α.length=M.length
 nd:α.Nodup
 ob:∀(n:Nat)(p:Addr)(o:SO),α[n]?=some p->M[n]?=some o->SOk K H α p o
theorem HR.nil:HR K H [] []:=⟨rfl,List.nodup_nil,fun n p o h=>by simp at h⟩
theorem Kn.at{H:Hp}(k:Kn H p=some j)(e:H p=some u):(match some u with|some (.lst _)=>some 0|some (.dK _)=>some 1|some (.dT _)=>some 2|some (.dU _)=>some 3|some (.frz _ (.dK _))=>some 1|some (.frz _ (.dT _))=>some 2|_=>none)=some j:=by
 unfold Kn at k;rw[e]at k;exact k
theorem HR.at(h:HR K H α M)(e:RefK H α 0 n p)(m:M[n]?=some (.lst ds)):∃xs,H p=some (.lst xs)/\Reps K H α xs ds:=by
 rcases h.ob n p _ e.at' m with h1|⟨_,h1,_⟩|⟨_,h1,_⟩|⟨_,_,_,h1,_⟩|⟨_,_,_,h1,_⟩|⟨_,h1,_⟩
 ·exact h1
 all_goals exact absurd (Kn.at e.kn h1) (fun z=>nomatch z)
theorem RefK.lst{n:Nat}{p:Addr}(e:RefK H α 0 n p):∃xs,H p=some (.lst xs):=by
 have:=e.kn
 unfold Kn at this
 split at this
 ·rename_i xs h;exact⟨xs,h⟩
 all_goals cases this
theorem HR.some_at(h:HR K H α M)(e:RefK H α 0 n p):∃xs,H p=some (.lst xs):=e.lst
theorem HR.there(h:HR K H α M){n:Nat}(e:α[n]?=some p):∃u,H p=some u:=by
 have hl:n<α.length:=(aj.mp e).1;have hm:n<M.length:=by rw[<-h.len];exact hl
 exact(h.ob n p M[n] e (Gq hm)).there
theorem HR.tup{M:Sto}{p:Addr}{o:HO}(h:HR K H α M)(hp:H p=none):HR K (upd H p o) α M:=
 ⟨h.len,h.nd,fun n q so e m=>by
  obtain⟨u,hu⟩:=h.there e;exact(h.ob n q so e m).mono (Ext.new0 hp) (Zs (ZN hu hp))⟩
theorem HR.newO(h:HR K H α M)(hp:H p=none)(r:SOk K (upd H p o) (α++[p]) p so):HR K (upd H p o) (α++[p]) (M++[so]):=by
 have ex:Ext K H (upd H p o) α (α++[p]):=Ext.new hp;refine⟨by rw[aa,aa,h.len];rfl,?_,fun n q so' e m=>?_⟩
 ·refine List.nodup_append.mpr ⟨h.nd,by simp,fun a ha b hb=>?_⟩
  have hb':b=p:=by simpa using hb
  obtain⟨n,hn,e⟩:=di ha;obtain⟨u,z⟩:=h.there (n:=n) (p:=a) (by rw[aq hn,e])
  rw[hb'];exact ZN z hp
 ·by_cases hn:n<α.length
  ·rw[aH hn]at e;rw[aH (by rw[<-h.len];exact hn)]at m
   obtain⟨u,hu⟩:=h.there e;exact(h.ob n q so' e m).mono ex (Zs (ZN hu hp))
  ·have en:n=α.length:=by
    have:n<(α++[p]).length:=(aj.mp e).1
    rw[aa,cA]at this;lia
   subst en;rw[aM (au _),fM]at e;rw[h.len,aM (au _),fM]at m;cases e;cases m;exact r
theorem HR.new(h:HR K H α M)(hp:H p=none)(r:Reps K H α xs ds):HR K (upd H p (.lst xs)) (α++[p]) (M++[.lst ds]):=
 h.newO hp (.inl ⟨xs,Zp,Reps.mono (Ext.new hp) r⟩)
theorem Zkn{n:Nat}(h:α.Nodup)(a:α[n]?=some p)(b:α[m]?=some p):n=m:=by
 obtain⟨h1,e1⟩:=aj.mp a;obtain⟨h2,e2⟩:=aj.mp b;exact(List.getElem_inj h).mp (e1.trans e2.symm)
theorem HR.wrO(h:HR K H α M)(e:α[n]?=some p)(ex:Ext K H (upd H p o) α α)(r:SOk K (upd H p o) α p so):HR K (upd H p o) α (M.set n so):=by
 have hn:n<M.length:=by rw[<-h.len];exact(aj.mp e).1
 refine⟨by rw[cB];exact h.len,h.nd,fun k q so' e' m=>?_⟩
 by_cases hk:k=n
 ·subst hk;rw[e]at e';cases e';rw[aP hn]at m;cases m;exact r
 ·rw[aG (bJ hk)]at m;have hq:q≠p:=fun z=>hk (Zkn h.nd (z▸e') e);exact(h.ob k q so' e' m).mono ex (Zs hq)
theorem HR.wr(h:HR K H α M)(e:RefK H α 0 n p)(hp:H p=some (.lst ys))(r:Reps K H α xs ds):HR K (upd H p (.lst xs)) α (M.set n (.lst ds)):=
 h.wrO e.at' (Ext.wr hp) (.inl ⟨xs,Zp,Reps.mono (Ext.wr hp) r⟩)
end
inductive Out(β:Type) where
 |ok (a:β) (M:Sto)
 |exc (c:Str) (M:Sto)
 |bad
abbrev W3:=List D->Sto->Out D
noncomputable def Out.bind(o:Out β)(f:β->Sto->Out γ):Out γ:=match o with
 |.ok a M=>f a M
 |.exc c M=>.exc c M
 |.bad=>.bad
inductive Fl where
 |nx (ρ:Ro) (M:Sto)
 |ret (d:D) (M:Sto)
 |brk (ρ:Ro) (M:Sto)
 |cnt (ρ:Ro) (M:Sto)
 |exc (c:Str) (M:Sto)
 |bad
noncomputable def Ziu(c:Str):Bool:=c==PySem.Str.ofString "NoRound"
def XO(K:Fg)(H:Hp)(α:List Addr)(c:Str)(M:Sto)(dct:Option Addr):Prop:=
 (Ziu c=false/\HR K H α M/\dct=none)\/(Ziu c=true/\∃(M0:Sto) (ds:List D) (dx:Addr) (fs:List (Str×V)),M=M0++[.lst ds]/\HR K H α M0/\dct=some dx/\H dx=some (.xd fs)/\fs.map (·.1)=Zti/\Reps K H α (fs.map (·.2)) ds)
def OG{β γ:Type}(K:Fg)(R:Hp->List Addr->γ->β->Prop)(H:Hp)(α:List Addr)(ξ:XK)(Q:γ->Hp->Prop):Out β->Prop
 |.ok d M'=>∀v H' α',Ext K H H' α α'->HR K H' α' M'->R H' α' v d->Q v H'
 |.exc c M'=>∀C H' α',PySem.W.nsIn K ai c=some (some (.ref C))->Ext K H H' α α'->∀dct,XO K H' α' c M' dct->ξ (.ref C) dct H'
 |.bad=>False
theorem OG.ext{K:Fg}{R:Hp->List Addr->γ->β->Prop}{Q:γ->Hp->Prop}{o:Out β}(h:OG K R H α ξ Q o)(e:Ext K H H1 α α1):OG K R H1 α1 ξ Q o:=by
 cases o with
 |ok d M'=>exact fun v H' α' e'=>h v H' α' (e.trans e')
 |exc c M'=>exact fun C H' α' n e'=>h C H' α' n (e.trans e')
 |bad=>exact h
abbrev OP(K:Fg):=OG K (Rep K)
abbrev OT(K:Fg):=OG (β:=Bool) (γ:=Bool) K (fun _ _ v d=>v=d)
abbrev OA(K:Fg):=OG K (Reps K)
noncomputable def SR(K:Fg)(H:Hp)(α:List Addr)(σ:L2.St)(ρ:Ro):Prop:=σ.length=ρ.length/\∀(i:Nat)(d:D),ρ[i]?=some (some d)->∃v,σ[i]?=some (some v)/\Rep K H α v d
theorem SR.mono{K:Fg}(h:SR K H α σ ρ)(e:Ext K H H' α α'):SR K H' α' σ ρ:=
 ⟨h.1,fun i d q=>let ⟨v,a,b⟩:=h.2 i d q;⟨v,a,Rep.mono e b⟩⟩
theorem SR.set{K:Fg}(h:SR K H α σ ρ)(i:Nat)(r:Rep K H α v d):SR K H α (σ.set i (some v)) (ρ.set i (some d)):=by
 refine⟨by rw[cB,cB];exact h.1,fun j e q=>?_⟩
 by_cases hj:j=i
 ·subst hj;have hl:j<ρ.length:=by
   have:=(aj.mp q).1
   rw[cB]at this;exact this
  rw[aP hl]at q;cases q;exact⟨v,by rw[aP (by rw[h.1];exact hl)],r⟩
 ·rw[aG (bJ hj)]at q;rw[aG (bJ hj)];exact h.2 j e q
abbrev Ev:=Ro->Sto->Out D
abbrev Tv:=Ro->Sto->Out Bool
abbrev Av:=Ro->Sto->Out (List D)
abbrev Sv:=Ro->Sto->Fl
def DE(X:Cx)(ξ:XK)(e:Expr)(f:Ev):Prop:=∃t:TE,PE X e t/\∀σ ρ H α M Q,SR X.K H α σ ρ->HR X.K H α M->OP X.K H α ξ Q (f ρ M)->t σ H Q
def DT(X:Cx)(ξ:XK)(e:Expr)(f:Tv):Prop:=∃t:TT,PT X e t/\∀σ ρ H α M Q,SR X.K H α σ ρ->HR X.K H α M->OT X.K H α ξ Q (f ρ M)->t σ H Q
def DW(X:Cx)(ξ:XK)(e:Expr)(f:Tv):Prop:=∃t:TT,PW X e t/\∀σ ρ H α M Q,SR X.K H α σ ρ->HR X.K H α M->OT X.K H α ξ Q (f ρ M)->t σ H Q
def DA(X:Cx)(ξ:XK)(es:List Expr)(f:Av):Prop:=∃t:TA,PA X es t/\∀σ ρ H α M Q,SR X.K H α σ ρ->HR X.K H α M->OA X.K H α ξ Q (f ρ M)->t σ H Q
theorem OG.seq{K:Fg}{R:Hp->List Addr->γ->β->Prop}{R':Hp->List Addr->γ'->β'->Prop}{Q:γ'->Hp->Prop}{Q1:γ->Hp->Prop}{o:Out β}{f:β->Sto->Out β'}(h:OG K R' H α ξ Q (o.bind f))(k:∀d M' v H' α',Ext K H H' α α'->HR K H' α' M'->R H' α' v d->OG K R' H' α' ξ Q (f d M')->Q1 v H'):OG K R H α ξ Q1 o:=by
 cases o with
 |ok d M'=>exact fun v H' α' e hr r=>k d M' v H' α' e hr r (OG.ext (o:=f d M') h e)
 |exc c M'=>exact h
 |bad=>exact h
section
variable {X:Cx}{ξ:XK}{fa fb:Ev}
noncomputable def Zg(i:Nat):Ev:=fun ρ M=>match ρ[i]? with|some (some d)=>.ok d M|_=>.bad
noncomputable def eC(d:D):Ev:=fun _ M=>.ok d M
theorem Zb(i:Nat)(hN:autoParam (X.N[i]?=some x) Qrf._auto_1)(hv:Vis X.env.scope x:=by first|exact dw rfl|exact hX (dw rfl)|exact hX (hX rfl))(hd:autoParam ((x==("__debug__":Str))=false) Qde._auto_1)(hcd:autoParam ((x==("__classdict__":Str))=false) Qde._auto_1):DE X ξ (.Name x pos) (Zg i):=by
 refine⟨_,Zch hN hv hd hcd,fun σ ρ H α M Q s h q=>?_⟩;unfold Zg at q;cases e:ρ[i]? with
 |none=>rw[e]at q;exact q.elim
 |some o=>
  cases o with
  |none=>rw[e]at q;exact q.elim
  |some d=>
   rw[e]at q;obtain⟨v,h1,h2⟩:=s.2 i d e;exact⟨v,h1,q v H α Ext.refl h h2⟩
theorem Ze{j pos}:DE X ξ (.Constant (.int i) j pos) (eC (.int i)):=⟨_,Zlj,fun _ _ H α M _ _ h q=>q _ H α Ext.refl h (.int i)⟩
theorem Zer{j pos}:DE X ξ (.Constant (.bool i) j pos) (eC (.bl i)):=⟨_,Zrm,fun _ _ H α M _ _ h q=>q _ H α Ext.refl h (.bl i)⟩
theorem Z5{j pos}:DE X ξ (.Constant .none j pos) (eC .non):=⟨_,Zn4,fun _ _ H α M _ _ h q=>q _ H α Ext.refl h .non⟩
theorem Zw{j pos}:DE X ξ (.Constant (.str x) j pos) (eC (.str x)):=⟨_,ZhZ,fun _ _ H α M _ _ h q=>q _ H α Ext.refl h (.str x)⟩
abbrev Bo:=D->D->Sto->Out D
def e2(f:Bo)(fa fb:Ev):Ev:=fun ρ M=>(fa ρ M).bind fun x M1=>(fb ρ M1).bind fun y M2=>f x y M2
def BO(X:Cx)(ξ:XK)(r:R2)(f:Bo):Prop:=∀H α M v w x y Q,HR X.K H α M->Rep X.K H α v x->Rep X.K H α w y->OP X.K H α ξ Q (f x y M)->r v w H Q
theorem two{r:R2}{f:Bo}(hb:BO X ξ r f){ta tb:TE}(qa:∀σ ρ H α M Q,SR X.K H α σ ρ->HR X.K H α M->OP X.K H α ξ Q (fa ρ M)->ta σ H Q)(qb:∀σ ρ H α M Q,SR X.K H α σ ρ->HR X.K H α M->OP X.K H α ξ Q (fb ρ M)->tb σ H Q):∀σ ρ H α M Q,SR X.K H α σ ρ->HR X.K H α M->OP X.K H α ξ Q (e2 f fa fb ρ M)->tOp r ta tb σ H Q:=by
 intro σ ρ H α M Q s h q;refine qa σ ρ H α M _ s h (OG.seq q fun x M1 v H1 α1 e1 h1 r1 q1=>?_);refine qb σ ρ H1 α1 M1 _ (s.mono e1) h1 (OG.seq q1 fun y M2 w H2 α2 e2 h2 r2 q2=>?_);exact hb H2 α2 M2 v w x y Q h2 (Rep.mono e2 r1) r2 q2
theorem Zf3(ho:OpR X (d9 op) r)(hf:BO X ξ r f)(ha:DE X ξ a fa)(hb:DE X ξ b fb):DE X ξ (.BinOp a op b pos) (e2 f fa fb):=by
 obtain⟨ta,ha,qa⟩:=ha;obtain⟨tb,hb,qb⟩:=hb;exact⟨_,Zrv ho ha hb,two hf qa qb⟩
theorem Zab(ho:OpR X (cE op) r)(hf:BO X ξ r f)(ha:DE X ξ a fa)(hb:DE X ξ b fb)(hm:fV op b=false:=by first|exact Zln _|with_unfolding_all rfl):DE X ξ (.Compare a [op] [b] pos) (e2 f fa fb):=by
 obtain⟨ta,ha,qa⟩:=ha;obtain⟨tb,hb,qb⟩:=hb;exact⟨_,Zmi ho ha hb hm,two hf qa qb⟩
def tv(f:Ev):Tv:=fun ρ M=>(f ρ M).bind fun x M1=>match x with|.bl k=>.ok k M1|_=>.bad
theorem ZoG{t:TE}{f:Ev}(qa:∀σ ρ H α M Q,SR X.K H α σ ρ->HR X.K H α M->OP X.K H α ξ Q (f ρ M)->t σ H Q):∀σ ρ H α M Q,SR X.K H α σ ρ->HR X.K H α M->OT X.K H α ξ Q (tv f ρ M)->Zoo t σ H Q:=by
 intro σ ρ H α M Q s h q;refine qa σ ρ H α M _ s h (OG.seq q fun x M1 v H1 α1 e1 h1 r1 q1=>?_);cases r1 with
 |bl k=>exact⟨k,rfl,q1 k H1 α1 Ext.refl h1 rfl⟩
 |_=>exact q1.elim
theorem Zq(ho:OpR X (cE op) r)(hf:BO X ξ r f)(ha:DE X ξ a fa)(hb:DE X ξ b fb)(hm:fV op b=false:=by first|exact Zln _|with_unfolding_all rfl):DT X ξ (.Compare a [op] [b] pos) (tv (e2 f fa fb)):=by
 obtain⟨ta,ha,qa⟩:=ha;obtain⟨tb,hb,qb⟩:=hb;exact⟨_,Zmj ho ha hb hm,ZoG (two hf qa qb)⟩
theorem Z3(h:DE X ξ e fa)(he:autoParam (∀whole,isTrue e X.env whole=(do let v <-whole;standAt e.pos;holding [v] (truthy v))) Qin._auto_1):DT X ξ e (tv fa):=by
 obtain⟨ta,ha,qa⟩:=h;exact⟨_,Zn5 ha he,ZoG qa⟩
def Zar(f g:Tv):Tv:=fun ρ M=>(f ρ M).bind fun k M1=>if k=true then g ρ M1 else .ok false M1
def Zb4(f g:Tv):Tv:=fun ρ M=>(f ρ M).bind fun k M1=>if k=true then .ok true M1 else g ρ M1
def Z9(f:Tv):Tv:=fun ρ M=>(f ρ M).bind fun k M1=>.ok (!k) M1
theorem ZaV(ha:DT X ξ a ga):DW X ξ (.BoolOp .And [a] pos) ga:=let ⟨_,h,q⟩:=ha;⟨_,pw_and1 h,q⟩
theorem ZaZ(ha:DT X ξ a ga):DW X ξ (.BoolOp .Or [a] pos) ga:=let ⟨_,h,q⟩:=ha;⟨_,pw_or1 h,q⟩
theorem Zbt(ha:DT X ξ a ga)(hb:DW X ξ (.BoolOp .And (b::rest) pos) gb):DW X ξ (.BoolOp .And (a::b::rest) pos) (Zar ga gb):=by
 obtain⟨ta,ha,qa⟩:=ha;obtain⟨tb,hb,qb⟩:=hb;refine⟨_,pw_and ha hb,fun σ ρ H α M Q s h q=>?_⟩;refine qa σ ρ H α M _ s h (OG.seq q fun k M1 v H1 α1 e1 h1 r1 q1=>?_);cases r1;cases k with
 |true=>exact Zkh (qb σ ρ H1 α1 M1 Q (s.mono e1) h1 q1)
 |false=>exact Zkg (q1 false H1 α1 Ext.refl h1 rfl)
theorem Za8(ha:DT X ξ a ga)(hb:DW X ξ (.BoolOp .Or (b::rest) pos) gb):DW X ξ (.BoolOp .Or (a::b::rest) pos) (Zb4 ga gb):=by
 obtain⟨ta,ha,qa⟩:=ha;obtain⟨tb,hb,qb⟩:=hb;refine⟨_,pw_or ha hb,fun σ ρ H α M Q s h q=>?_⟩;refine qa σ ρ H α M _ s h (OG.seq q fun k M1 v H1 α1 e1 h1 r1 q1=>?_);cases r1;cases k with
 |true=>exact Zkh (q1 true H1 α1 Ext.refl h1 rfl)
 |false=>exact Zkg (qb σ ρ H1 α1 M1 Q (s.mono e1) h1 q1)
theorem Zdp(h:DW X ξ e ga):DT X ξ e ga:=let ⟨_,h,q⟩:=h;⟨_,h.pt,q⟩
theorem ZaE(ha:DT X ξ a ga):DT X ξ (.UnaryOp .Not a pos) (Z9 ga):=by
 obtain⟨ta,ha,qa⟩:=ha;refine⟨_,Zn6 ha,fun σ ρ H α M Q s h q=>?_⟩;refine qa σ ρ H α M _ s h (OG.seq q fun k M1 v H1 α1 e1 h1 r1 q1=>?_);cases r1;exact q1 (!k) H1 α1 Ext.refl h1 rfl
def Zav(f g:Ev):Ev:=fun ρ M=>(f ρ M).bind fun x M1=>match x with|.bl k=>if k=true then g ρ M1 else .ok (.bl false) M1|_=>.bad
def ZhP(f g:Ev):Ev:=fun ρ M=>(f ρ M).bind fun x M1=>match x with|.bl k=>if k=true then .ok (.bl true) M1 else g ρ M1|_=>.bad
def ZcJ(f:Ev):Ev:=fun ρ M=>(f ρ M).bind fun x M1=>match x with|.bl k=>.ok (.bl (!k)) M1|_=>.bad
theorem Zck{op}(ha:DE X ξ a fa):DE X ξ (.BoolOp op [a] pos) fa:=let ⟨_,h,q⟩:=ha;⟨_,Zn7 h,q⟩
theorem ZbX(ha:DE X ξ a fa)(hb:DE X ξ (.BoolOp .And (b::rest) pos) fb):DE X ξ (.BoolOp .And (a::b::rest) pos) (Zav fa fb):=by
 obtain⟨ta,ha,qa⟩:=ha;obtain⟨tb,hb,qb⟩:=hb;refine⟨_,Zn8 ha hb,fun σ ρ H α M Q s h q=>?_⟩;refine qa σ ρ H α M _ s h (OG.seq q fun x M1 v H1 α1 e1 h1 r1 q1=>?_);cases r1 with
 |bl k=>
  refine⟨k,rfl,?_⟩;cases k with
  |true=>exact Zkh (qb σ ρ H1 α1 M1 Q (s.mono e1) h1 q1)
  |false=>exact Zkg (q1 _ H1 α1 Ext.refl h1 (.bl false))
 |_=>exact q1.elim
theorem ZrD(ha:DE X ξ a fa)(hb:DE X ξ (.BoolOp .Or (b::rest) pos) fb):DE X ξ (.BoolOp .Or (a::b::rest) pos) (ZhP fa fb):=by
 obtain⟨ta,ha,qa⟩:=ha;obtain⟨tb,hb,qb⟩:=hb;refine⟨_,Zrp ha hb,fun σ ρ H α M Q s h q=>?_⟩;refine qa σ ρ H α M _ s h (OG.seq q fun x M1 v H1 α1 e1 h1 r1 q1=>?_);cases r1 with
 |bl k=>
  refine⟨k,rfl,?_⟩;cases k with
  |true=>exact Zkh (q1 _ H1 α1 Ext.refl h1 (.bl true))
  |false=>exact Zkg (qb σ ρ H1 α1 M1 Q (s.mono e1) h1 q1)
 |_=>exact q1.elim
theorem Zlu(ha:DE X ξ a fa):DE X ξ (.UnaryOp .Not a pos) (ZcJ fa):=by
 obtain⟨ta,ha,qa⟩:=ha;refine⟨_,Zn9 ha,fun σ ρ H α M Q s h q=>?_⟩;refine qa σ ρ H α M _ s h (OG.seq q fun x M1 v H1 α1 e1 h1 r1 q1=>?_);cases r1 with
 |bl k=>exact⟨k,rfl,q1 _ H1 α1 Ext.refl h1 (.bl (!k))⟩
 |_=>exact q1.elim
def eIf(c:Tv)(f g:Ev):Ev:=fun ρ M=>(c ρ M).bind fun k M1=>if k=true then f ρ M1 else g ρ M1
theorem ZrE(hc:DT X ξ c ga)(ha:DE X ξ a fa)(hb:DE X ξ b fb):DE X ξ (.IfExp c a b pos) (eIf ga fa fb):=by
 obtain⟨tc,hc,qc⟩:=hc;obtain⟨ta,ha,qa⟩:=ha;obtain⟨tb,hb,qb⟩:=hb;refine⟨_,Zj7 hc ha hb,fun σ ρ H α M Q s h q=>?_⟩;refine qc σ ρ H α M _ s h (OG.seq q fun k M1 v H1 α1 e1 h1 r1 q1=>?_);cases r1;cases k with
 |true=>exact Zkh (qa σ ρ H1 α1 M1 Q (s.mono e1) h1 q1)
 |false=>exact Zkg (qb σ ρ H1 α1 M1 Q (s.mono e1) h1 q1)
noncomputable def aNil:Av:=fun _ M=>.ok [] M
def Zc(f:Ev)(g:Av):Av:=fun ρ M=>(f ρ M).bind fun x M1=>(g ρ M1).bind fun xs M2=>.ok (x::xs) M2
theorem Zd:DA X ξ [] aNil:=⟨_,Zgx,fun _ _ H α M _ _ h q=>q _ H α Ext.refl h .nil⟩
theorem Za(ha:DE X ξ e fa)(hr:DA X ξ es fs)(hs:autoParam (af (e::es) X.env=(false,eval e X.env)::af es X.env) Qrf._auto_1):DA X ξ (e::es) (Zc fa fs):=by
 obtain⟨ta,ha,qa⟩:=ha;obtain⟨tb,hb,qb⟩:=hr;refine⟨_,Zb3 ha hb hs,fun σ ρ H α M Q s h q=>?_⟩;refine qa σ ρ H α M _ s h (OG.seq q fun x M1 v H1 α1 e1 h1 r1 q1=>?_);refine qb σ ρ H1 α1 M1 _ (s.mono e1) h1 (OG.seq q1 fun y M2 w H2 α2 e2 h2 r2 q2=>?_);exact q2 _ H2 α2 Ext.refl h2 (.cons (Rep.mono e2 r1) r2)
def Z6(f:Av):Ev:=fun ρ M=>(f ρ M).bind fun xs M1=>if xs.length<=1000 then .ok (.tup xs) M1 else .bad
def Zak(f:Av):Ev:=fun ρ M=>(f ρ M).bind fun xs M1=>if xs.length<=1000 then .ok (.ref M1.length) (M1++[.lst xs])else .bad
theorem Zmz(h:n<=1000):n<=sizeLine:=gp (Zim h)
theorem ZA{x1}(ha:DA X ξ es fs):DE X ξ (.Tuple es x1 pos) (Z6 fs):=by
 obtain⟨ta,ha,qa⟩:=ha;refine⟨_,Zop ha,fun σ ρ H α M Q s h q=>?_⟩;refine qa σ ρ H α M _ s h (OG.seq q fun xs M1 vs H1 α1 e1 h1 r1 q1=>?_);by_cases hl:xs.length<=1000
 ·rw[if_pos hl]at q1;refine⟨by rw[r1.length];exact Zmz hl,fun p hp=>q1 _ _ α1 (Ext.new0 hp) (h1.tup hp) (.tup Zp (Reps.mono (Ext.new0 hp) r1))⟩
 ·rw[if_neg hl]at q1;exact q1.elim
theorem HR.last{K:Fg}(h:HR K H α M)(p:Addr):(α++[p])[M.length]?=some p:=by
 rw[<-h.len,aM (au _),fM];rfl
theorem ZI(ha:DA X ξ es fs):DE X ξ (.List es pos) (Zak fs):=by
 obtain⟨ta,ha,qa⟩:=ha;refine⟨_,Zoq ha,fun σ ρ H α M Q s h q=>?_⟩;refine qa σ ρ H α M _ s h (OG.seq q fun xs M1 vs H1 α1 e1 h1 r1 q1=>?_);by_cases hl:xs.length<=1000
 ·rw[if_pos hl]at q1;refine⟨by rw[r1.length];exact Zmz hl,fun p hp=>q1 _ _ (α1++[p]) (Ext.new hp) (h1.new hp r1) (.ref ⟨h1.last p,Kn.lst Zp⟩)⟩
 ·rw[if_neg hl]at q1;exact q1.elim
end
end DL
namespace DL
open PyProof.Rows L2
open PySem.SeqAt (EqAt RcAt RcNeAt)
noncomputable def ZL(i j:Int):Prop:=fS i<=64\/fS j<=64\/(fS i<=60000000/\fS j<=60000000)
instance (i j:Int):Decidable (ZL i j):=by unfold ZL;infer_instance
theorem ZL.ok(h:ZL i j):IntMulOk i j:=by
 rcases h with h|h|⟨h1,h2⟩
 ·exact .of_left h
 ·exact .of_right h
 ·exact .of_le h1 h2 (by decide)
noncomputable def Zae(j:Int):Prop:=j≠0/\j.natAbs.log2<9000
instance (j:Int):Decidable (Zae j):=by unfold Zae;infer_instance
theorem Zhu(h0:j≠0)(h:j.natAbs<2^9000):Zae j:=⟨h0,(iI (by lia)).mpr h⟩
theorem ZmA:OpR X (d9 .Mult) (rI ZL fun i j=>.int (i*j)):=opI fun _ _ _ _ _ _ _ hc q=>mul_int q hc.ok
theorem Zko:OpR X (d9 .FloorDiv) (rI (fun _ j=>Zae j) fun i j=>.int (i.fdiv j)):=opI fun _ _ _ _ _ _ _ hc q=>floordiv_int hc.1 q (.inl (PyProof.noPylong_of_log2 hc.2))
noncomputable def dAdd:Bo:=fun x y M=>match x,y with
 |.int i,.int j=>.ok (.int (i+j)) M
 |.str i,.str j=>if i.length+j.length<=100000 then .ok (.str (i++j)) M else .bad
 |.ref n,.ref m=>match M[n]?,M[m]? with
  |some (.lst xs),some (.lst ys)=>if xs.length+ys.length<=10000000 then .ok (.ref M.length) (M++[.lst (xs++ys)])else .bad
  |_,_=>.bad
 |.tup xs,.tup ys=>if xs.length+ys.length<=100000/\xs≠[]then .ok (.tup (xs++ys)) M else .bad
 |_,_=>.bad
noncomputable def dSub:Bo:=fun x y M=>match x,y with|.int i,.int j=>.ok (.int (i-j)) M|_,_=>.bad
def dMul:Bo:=fun x y M=>match x,y with|.int i,.int j=>if ZL i j then .ok (.int (i*j)) M else .bad|_,_=>.bad
def dDiv:Bo:=fun x y M=>match x,y with|.int i,.int j=>if Zae j then .ok (.int (i.fdiv j)) M else .bad|_,_=>.bad
noncomputable def dMod:Bo:=fun x y M=>match x,y with|.int i,.int j=>if j≠0 then .ok (.int (i.fmod j)) M else .bad|_,_=>.bad
noncomputable def dPow:Bo:=fun x y M=>match x,y with|.int i,.int j=>if 0<=j/\j<=1000000/\i.natAbs<2^64 then .ok (.int (i^j.toNat)) M else .bad|_,_=>.bad
noncomputable def dLt:Bo:=fun x y M=>match x,y with|.int i,.int j=>.ok (.bl (decide (i<j))) M|_,_=>.bad
noncomputable def dLe:Bo:=fun x y M=>match x,y with|.int i,.int j=>.ok (.bl (decide (i<=j))) M|_,_=>.bad
noncomputable def dGt:Bo:=fun x y M=>match x,y with|.int i,.int j=>.ok (.bl (decide (j<i))) M|_,_=>.bad
noncomputable def dGe:Bo:=fun x y M=>match x,y with|.int i,.int j=>.ok (.bl (decide (j<=i))) M|_,_=>.bad
theorem Ziv(h:n<=100000):n<=sizeLine:=aE h (by decide)
section
variable {X:Cx}{ξ:XK}
theorem Zcl{r:R2}{f:Bo}{C:Int->Int->Prop}[∀i j,Decidable (C i j)]{g:Int->Int->D}{gV:Int->Int->V}(hg:∀H α i j,Rep X.K H α (gV i j) (g i j))(hf:∀x y M,f x y M=match x,y with|.int i,.int j=>if C i j then .ok (g i j) M else .bad|_,_=>.bad)(hr:∀i j H Q,C i j->Q (gV i j) H->r (.int i) (.int j) H Q):BO X ξ r f:=by
 intro H α M v w x y Q h rv rw' q;rw[hf]at q;cases rv<;>first|exact q.elim|skip
 cases rw'<;>first|exact q.elim|skip
 rename_i i j;by_cases c:C i j
 ·simp only[if_pos c]at q;exact hr i j H Q c (q _ H α Ext.refl h (hg H α i j))
 ·simp only[if_neg c]at q;exact q.elim
theorem ZoH:BO X ξ (rI0 fun i j=>.int (i-j)) dSub:=Zcl (C:=fun _ _=>True) (fun _ _ i j=>.int (i-j)) (fun x y M=>by cases x<;>cases y<;>simp[dSub]) fun i j H Q _ q=>⟨i,j,rfl,rfl,q⟩
theorem ZoI:BO X ξ (rI ZL fun i j=>.int (i*j)) dMul:=Zcl (C:=ZL) (fun _ _ i j=>.int (i*j)) (fun x y M=>by cases x<;>cases y<;>rfl) fun i j H Q c q=>⟨i,j,rfl,rfl,c,q⟩
theorem ZoJ:BO X ξ (rI (fun _ j=>Zae j) fun i j=>.int (i.fdiv j)) dDiv:=Zcl (C:=fun _ j=>Zae j) (fun _ _ i j=>.int (i.fdiv j)) (fun x y M=>by cases x<;>cases y<;>rfl) fun i j H Q c q=>⟨i,j,rfl,rfl,c,q⟩
theorem ZoK:BO X ξ (rI (fun _ j=>j≠0) fun i j=>.int (i.fmod j)) dMod:=Zcl (C:=fun _ j=>j≠0) (fun _ _ i j=>.int (i.fmod j)) (fun x y M=>by cases x<;>cases y<;>rfl) fun i j H Q c q=>⟨i,j,rfl,rfl,c,q⟩
theorem ZoL:BO X ξ (rI Ztf fun i j=>.int (i^j.toNat)) dPow:=Zcl (C:=fun i j=>0<=j/\j<=1000000/\i.natAbs<2^64) (fun _ _ i j=>.int (i^j.toNat)) (fun x y M=>by cases x<;>cases y<;>rfl) fun i j H Q c q=>⟨i,j,rfl,rfl,c,q⟩
theorem Zdq:BO X ξ (rI0 fun i j=>.bl (decide (i<j))) dLt:=Zcl (C:=fun _ _=>True) (fun _ _ i j=>.bl _) (fun x y M=>by cases x<;>cases y<;>simp[dLt]) fun i j H Q _ q=>⟨i,j,rfl,rfl,q⟩
theorem Zkp:BO X ξ (rI0 fun i j=>.bl (decide (i<=j))) dLe:=Zcl (C:=fun _ _=>True) (fun _ _ i j=>.bl _) (fun x y M=>by cases x<;>cases y<;>simp[dLe]) fun i j H Q _ q=>⟨i,j,rfl,rfl,q⟩
theorem Zcm:BO X ξ (rI0 fun i j=>.bl (decide (j<i))) dGt:=Zcl (C:=fun _ _=>True) (fun _ _ i j=>.bl _) (fun x y M=>by cases x<;>cases y<;>simp[dGt]) fun i j H Q _ q=>⟨i,j,rfl,rfl,q⟩
theorem ZoM:BO X ξ (rI0 fun i j=>.bl (decide (j<=i))) dGe:=Zcl (C:=fun _ _=>True) (fun _ _ i j=>.bl _) (fun x y M=>by cases x<;>cases y<;>simp[dGe]) fun i j H Q _ q=>⟨i,j,rfl,rfl,q⟩
theorem ZmB:OpR X (d9 .Add) (fun x y H Q=>(rI0 (fun i j=>.int (i+j)) x y H Q\/(∃i j,x=.str i/\y=.str j/\i.length+j.length<=sizeLine/\Q (.str (i++j)) H))\/(rCat x y H Q\/Zmq X.K x y H Q)):=
 OpR.or (OpR.or Zoj Zhn) (OpR.or Zox Zmr)
theorem ZoN:BO X ξ (fun x y H Q=>(rI0 (fun i j=>.int (i+j)) x y H Q\/(∃i j,x=.str i/\y=.str j/\i.length+j.length<=sizeLine/\Q (.str (i++j)) H))\/(rCat x y H Q\/Zmq X.K x y H Q)) dAdd:=by
 intro H α M v w x y Q h rv rw' q;unfold dAdd at q
 split at q
 ·rename_i i j;cases rv;cases rw';exact .inl (.inl ⟨i,j,rfl,rfl,q _ H α Ext.refl h (.int (i+j))⟩)
 ·rename_i i j;cases rv;cases rw'
  split at q
  ·rename_i c;exact .inl (.inr ⟨i,j,rfl,rfl,Ziv c,q _ H α Ext.refl h (.str _)⟩)
  ·exact q.elim
 ·rename_i n m;cases rv with
  |@ref p _ hp=>
   cases rw' with
   |@ref p2 _ hp2=>
    split at q
    ·rename_i ds ds2 e1 e2
     split at q
     ·rename_i c;obtain⟨xs,g1,r1⟩:=h.at hp e1;obtain⟨ys,g2,r2⟩:=h.at hp2 e2;refine .inr (.inl ⟨p,p2,xs,ys,rfl,rfl,g1,g2,by rw[r1.length,r2.length];exact aE c (by decide),fun l hl=>?_⟩)
      exact q _ _ (α++[l]) (Ext.new hl) (h.new hl (r1.append r2)) (.ref ⟨h.last l,Kn.lst Zp⟩)
     ·exact q.elim
    ·exact q.elim
 ·rename_i ds ds2;cases rv with
  |@tup p xs _ hp rp=>
   cases rw' with
   |@tup p2 xs2 _ hp2 rp2=>
    split at q
    ·rename_i c;have nx:xs≠[]:=fun z=>c.2 (by have:=rp.length;rw[z]at this;exact eF this.symm)
     refine .inr (.inr ⟨p,p2,xs,xs2,rfl,rfl,(SqT.of hp),(SqT.of hp2),nx,by rw[rp.length,rp2.length];exact Ziv c.1,fun z=>?_,fun _ l hl=>?_⟩)
     ·subst z;cases rp2;rw[aY]at q;exact q _ H α Ext.refl h (.tup hp rp)
     ·exact q _ _ α (Ext.new0 hl) (h.tup hl) (.tup Zp (Reps.mono (Ext.new0 hl) (rp.append rp2)))
    ·exact q.elim
 ·exact q.elim
theorem Zx(ha:DE X ξ a fa)(hb:DE X ξ b fb):DE X ξ (.BinOp a .Add b pos) (e2 dAdd fa fb):=Zf3 ZmB ZoN ha hb
theorem Zbn(ha:DE X ξ a fa)(hb:DE X ξ b fb):DE X ξ (.BinOp a .Sub b pos) (e2 dSub fa fb):=Zf3 Zok ZoH ha hb
theorem Z4(ha:DE X ξ a fa)(hb:DE X ξ b fb):DE X ξ (.BinOp a .Mult b pos) (e2 dMul fa fb):=Zf3 ZmA ZoI ha hb
theorem Zc1(ha:DE X ξ a fa)(hb:DE X ξ b fb):DE X ξ (.BinOp a .FloorDiv b pos) (e2 dDiv fa fb):=Zf3 Zko ZoJ ha hb
theorem Zas(ha:DE X ξ a fa)(hb:DE X ξ b fb):DE X ξ (.BinOp a .Mod b pos) (e2 dMod fa fb):=Zf3 Zmh ZoK ha hb
theorem Zd8(ha:DE X ξ a fa)(hb:DE X ξ b fb):DE X ξ (.BinOp a .Pow b pos) (e2 dPow fa fb):=Zf3 Zol ZoL ha hb
def Zfa(f:Ev):Ev:=fun ρ M=>(f ρ M).bind fun x M1=>match x with|.int i=>.ok (.int (-i)) M1|_=>.bad
theorem Zdr(ha:DE X ξ a fa):DE X ξ (.UnaryOp .USub a pos) (Zfa fa):=by
 obtain⟨ta,ha,qa⟩:=ha;refine⟨_,Zoi Zlm ha,fun σ ρ H α M Q s h q=>?_⟩;refine qa σ ρ H α M _ s h (OG.seq q fun x M1 v H1 α1 e1 h1 r1 q1=>?_);cases r1 with
 |int i=>exact⟨i,rfl,q1 _ H1 α1 Ext.refl h1 (.int (-i))⟩
 |_=>exact q1.elim
def atD(xs:List D)(i:Int)(M:Sto):Out D:=match atI xs i with|some d=>.ok d M|none=>.bad
def dIx:Bo:=fun x y M=>match x,y with
 |.tup xs,.int i=>atD xs i M
 |.rol xs,.int i=>atD xs i M
 |.ref n,.int i=>match M[n]? with|some (.lst xs)=>atD xs i M|_=>.bad
 |_,_=>.bad
theorem Reps.atI{K:Fg}(r:Reps K H α vs ds)(h:L2.atI ds i=some d):∃v,L2.atI vs i=some v/\Rep K H α v d:=by
 unfold L2.atI at h ⊢;rw[r.length];cases e:ixN ds.length i with
 |none=>rw[e]at h;cases h
 |some j=>
  rw[e]at h;exact r.get h
theorem ZrF:BO X ξ (fun x y H Q=>Zth X.K x y H Q\/rIxT X.K x y H Q) dIx:=by
 intro H α M v w x y Q h rv rw' q;have at':∀{ds:List D}{i:Int},OP X.K H α ξ Q (atD ds i M)->∃d,L2.atI ds i=some d/\OP X.K H α ξ Q (.ok d M):=fun{ds i} q=>by
  unfold atD at q;cases e:L2.atI ds i with
  |none=>rw[e]at q;exact q.elim
  |some d=>rw[e]at q;exact⟨d,rfl,q⟩
 unfold dIx at q
 split at q
 ·rename_i ds i;cases rw';cases rv with
  |@tup p xs _ hp rp=>
   obtain⟨d,e,q⟩:=at' q;obtain⟨v,h1,h2⟩:=rp.atI e;exact .inr ⟨p,xs,i,v,rfl,rfl,(SqT.of hp),h1,q v H α Ext.refl h h2⟩
 ·rename_i ds i;cases rw';cases rv with
  |@rol p xs _ hp rp=>
   obtain⟨d,e,q⟩:=at' q;obtain⟨v,h1,h2⟩:=rp.atI e;exact .inl ⟨p,xs,i,v,rfl,rfl,hp.sq,h1,q v H α Ext.refl h h2⟩
 ·rename_i n i;cases rw';cases rv with
  |@ref p _ hp=>
   split at q
   ·rename_i ds e1;obtain⟨d,e,q⟩:=at' q;obtain⟨xs,g1,r1⟩:=h.at hp e1;obtain⟨v,h1,h2⟩:=r1.atI e;exact .inl ⟨p,xs,i,v,rfl,rfl,SqL.of g1,h1,q v H α Ext.refl h h2⟩
   ·exact q.elim
 ·exact q.elim
theorem Zo(ha:DE X ξ a fa)(hb:DE X ξ b fb)(hs:Zij b:=by exact fun _ _=>rfl):DE X ξ (.Subscript a b pos) (e2 dIx fa fb):=by
 obtain⟨ta,ha,qa⟩:=ha;obtain⟨tb,hb,qb⟩:=hb;exact⟨_,Zrz (IxR.or Zms Zot) ha hb hs,two ZrF qa qb⟩
end
inductive Kd where
 |non|bl (b:Bool)|int (i:Int)|str (x:Str)|tup (xs:List D)|lst (xs:List D)
noncomputable def kd(M:Sto):D->Option Kd
 |.non=>some .non
 |.bl b=>some (.bl b)
 |.int i=>some (.int i)
 |.str x=>some (.str x)
 |.tup xs=>some (.tup xs)
 |.rol xs=>some (.lst xs)
 |.con xs=>some (.tup xs)
 |.ref n=>match M[n]? with|some (.lst xs)=>some (.lst xs)|_=>none
 |.err _ _=>none
 |.dk _=>none
 |.dt _=>none
 |.du _=>none
 |.fn _=>none
noncomputable def eqL(f:D->D->Option Bool):List D->List D->Option Bool
 |[],[]=>some true
 |x::xs,y::ys=>match f x y with|some a=>(match eqL f xs ys with|some b=>some (a&&b)|none=>none)|none=>none
 |_,_=>some false
def eqK(f:D->D->Option Bool):Kd->Kd->Option Bool
 |.non,.non=>some true
 |.bl a,.bl b=>some (a==b)
 |.bl a,.int b=>some ((if a then 1 else 0)==b)
 |.int a,.bl b=>some (a==(if b then 1 else 0))
 |.int a,.int b=>some (a==b)
 |.str a,.str b=>some (a==b)
 |.tup xs,.tup ys=>eqL f xs ys
 |.lst xs,.lst ys=>if xs.length=ys.length then eqL f xs ys else some false
 |_,_=>some false
def eqF:Nat->Sto->D->D->Option Bool
 |0,_,_,_=>none
 |n+1,M,x,y=>match kd M x,kd M y with|some a,some b=>eqK (eqF n M) a b|_,_=>none
inductive Vw(X:Cx) (H:Hp) (α:List Addr) (s:aC):Kd->ah->Prop where
 |non:Vw X H α s .non .none
 |bl (b:Bool):Vw X H α s (.bl b) (.bool b)
 |int (i:Int) (t:Tok):Vw X H α s (.int i) (.int i t)
 |str (x:Str) (t:Tok):Vw X H α s (.str x) (.str x t)
 |tup {p:Addr} {xs:List V} {ds:List D} {its:List ah}:s.heap.IsTuple p its.toArray->ZR xs its->Reps X.K H α xs ds->Vw X H α s (.tup ds) (.ref p)
 |lst {p:Addr} {xs:List V} {ds:List D} {its:List ah}:s.heap.IsList p its.toArray->ZR xs its->Reps X.K H α xs ds->Vw X H α s (.lst ds) (.ref p)
section
variable {X:Cx}{pins:Pn}{σ:L2.St}{H:Hp}{s:aC}{α:List Addr}{M:Sto}
theorem vw(I:Inv X pins σ H s)(h:HR X.K H α M)(r:Rep X.K H α v x)(ru:ZY v u)(e:kd M x=some k):Vw X H α s k u:=by
 cases r with
 |non=>cases e;cases ru;exact .non
 |bl b=>cases e;cases ru;exact .bl b
 |int i=>cases e;obtain⟨t,rfl⟩:=ru;exact .int i t
 |str x=>cases e;obtain⟨t,rfl⟩:=ru;exact .str x t
 |err _ _ _=>cases e
 |dk _=>cases e
 |dt _=>cases e
 |du _=>cases e
 |fn _=>cases e
 |@tup p xs ds hp rp=>
  cases e;cases ru;obtain⟨its,h1,h2,_⟩:=I.tuple (SqT.of hp);exact .tup h2 h1 rp
 |@con p xs ds hp rp=>
  cases e;cases ru;obtain⟨its,h1,h2,_⟩:=I.tuple hp.sq;exact .tup h2 h1 rp
 |@rol p xs ds hp rp=>
  cases e;cases ru;obtain⟨its,h1,h2,_⟩:=I.list hp.sq;exact .lst h2.isList h1 rp
 |@ref p n hp=>
  cases ru;cases e1:M[n]? with
  |none=>simp only[kd,e1]at e;cases e
  |some o=>
   cases o with
   |lst ds=>
    simp only[kd,e1]at e;cases e;obtain⟨xs,g1,r1⟩:=h.at hp e1;obtain⟨its,h1,h2,_⟩:=I.list (SqL.of g1);exact .lst h2.isList h1 r1
noncomputable def Eq3(A:dc)(s:aC)(u z:ah)(b:Bool):Prop:=EqAt A s u z b/\RcAt A s u z b/\RcNeAt A s u z (!b)
theorem Ziw{f:D->D->Option Bool}:∀{xs ys:List D}{b:Bool},eqL f xs ys=some b->(∀(j:Nat) x y,xs[j]?=some x->ys[j]?=some y->∃c,f x y=some c)/\b=((aJ (min xs.length ys.length)).all (fun j=>match xs[j]?,ys[j]? with|some x,some y=>(f x y).getD false|_,_=>false)&&xs.length==ys.length)
 |[],[],b,e=>by
  simp only[eqL,am]at e;subst e;exact⟨fun j x y h=>(by simp at h),(by simp)⟩
 |x::xs,[],b,e=>by
  simp only[eqL,am]at e;subst e;exact⟨fun j x y h1 h2=>(by simp at h2),(by simp)⟩
 |[],y::ys,b,e=>by
  simp only[eqL,am]at e;subst e;exact⟨fun j x y h1 h2=>(by simp at h1),(by simp)⟩
 |x::xs,y::ys,b,e=>by
  cases e1:f x y with
  |none=>simp only[eqL,e1]at e;cases e
  |some a=>
   cases e2:eqL f xs ys with
   |none=>simp only[eqL,e1,e2]at e;cases e
   |some c=>
    simp only[eqL,e1,e2,am]at e;subst e;obtain⟨h1,h2⟩:=Ziw e2;refine⟨fun j x' y' g1 g2=>?_,?_⟩
    ·cases j with
     |zero=>
      simp at g1 g2;subst g1 g2;exact⟨a,e1⟩
     |succ j=>
      simp at g1 g2;exact h1 j x' y' g1 g2
    ·have em:min (x::xs).length (y::ys).length=min xs.length ys.length+1:=by simp only[ao];lia
     rw[em,List.range_succ_eq_map,List.all_cons,List.all_map,h2];simp[e1,Bool.and_assoc,Function.comp_def]
theorem Zkq(I:Inv X pins σ H s)(h:HR X.K H α M):∀(n:Nat){v:V}{x y:D}{b:Bool},Rep X.K H α v x->Rep X.K H α v y->eqF n M x y=some b->b=true:=by
 intro n
 induction n with
 |zero=>intro v x y b _ _ e;simp only[eqF]at e;cases e
 |succ n ih=>
  have lists:∀(vs:List V)(xs ys:List D)(b:Bool),Reps X.K H α vs xs->Reps X.K H α vs ys->eqL (eqF n M) xs ys=some b->b=true:=by
   intro vs
   induction vs with
   |nil=>
    intro xs ys b r1 r2 e;cases r1;cases r2;simp only[eqL,am]at e;exact e.symm
   |cons v vs iv=>
    intro xs ys b r1 r2 e;cases r1 with
    |cons p1 t1=>
     cases r2 with
     |cons p2 t2=>
      rename_i d1 ds1 d2 ds2;cases e1:eqF n M d1 d2 with
      |none=>simp only[eqL,e1]at e;cases e
      |some a=>
       cases e2:eqL (eqF n M) ds1 ds2 with
       |none=>simp only[eqL,e1,e2]at e;cases e
       |some c=>
        simp only[eqL,e1,e2,am]at e;rw[<-e,ih p1 p2 e1,iv _ _ _ t1 t2 e2];rfl
  intro v x y b r1 r2 e;have nl:∀{p:Addr}{xs ys:List V},SqT X.K H p xs->SqL X.K H p ys->False:=fun{p xs ys} a c=>by
   obtain⟨i1,_,⟨o1,g1,c1,_⟩,_⟩:=I.tuple a;obtain⟨i2,_,⟨o2,_,g2,c2,_⟩,_⟩:=I.list c;rw[g1]at g2;cases g2;rw[c1]at c2;exact absurd c2 (by decide)
  have ll:∀{p:Addr}{n:Nat}{ds:List D},RefK H α 0 n p->M[n]?=some (.lst ds)->∃vs,SqL X.K H p vs/\Reps X.K H α vs ds:=fun{p n ds} a c=>by
   obtain⟨xs,g1,r1⟩:=h.at a c;exact⟨xs,SqL.of g1,r1⟩
  cases r1 with
  |non=>cases r2;simp only[eqF,kd,eqK,am]at e;exact e.symm
  |bl c=>cases r2;simp only[eqF,kd,eqK,am,beq_self_eq_true]at e;exact e.symm
  |int c=>cases r2;simp only[eqF,kd,eqK,am,beq_self_eq_true]at e;exact e.symm
  |str c=>cases r2;simp only[eqF,kd,eqK,am,beq_self_eq_true]at e;exact e.symm
  |err _ _ _=>simp[eqF,kd]at e
  |dk _=>simp[eqF,kd]at e
  |dt _=>simp[eqF,kd]at e
  |du _=>simp[eqF,kd]at e
  |fn _=>simp[eqF,kd]at e
  |@tup p xs ds hp rp=>
   cases r2 with
   |@tup _ xs2 ds2 hp2 rp2=>
    cases I.tuple_inj (SqT.of hp) (SqT.of hp2);simp only[eqF,kd,eqK]at e;exact lists _ _ _ _ rp rp2 e
   |@con _ xs2 ds2 hp2 rp2=>
    cases I.tuple_inj (SqT.of hp) hp2.sq;simp only[eqF,kd,eqK]at e;exact lists _ _ _ _ rp rp2 e
   |@rol _ xs2 ds2 hp2 rp2=>exact(nl (SqT.of hp) hp2.sq).elim
   |err _ _ _=>simp[eqF,kd]at e
   |dk _=>simp[eqF,kd]at e
   |dt _=>simp[eqF,kd]at e
   |du _=>simp[eqF,kd]at e
   |fn _=>simp[eqF,kd]at e
   |@ref _ n2 hp2=>
    obtain⟨ys,g⟩:=h.some_at hp2;exact(nl (SqT.of hp) (SqL.of g)).elim
  |@con p xs ds hp rp=>
   cases r2 with
   |@tup _ xs2 ds2 hp2 rp2=>
    cases I.tuple_inj hp.sq (SqT.of hp2);simp only[eqF,kd,eqK]at e;exact lists _ _ _ _ rp rp2 e
   |@con _ xs2 ds2 hp2 rp2=>
    cases I.tuple_inj hp.sq hp2.sq;simp only[eqF,kd,eqK]at e;exact lists _ _ _ _ rp rp2 e
   |@rol _ xs2 ds2 hp2 rp2=>exact(nl hp.sq hp2.sq).elim
   |err _ _ _=>simp[eqF,kd]at e
   |dk _=>simp[eqF,kd]at e
   |dt _=>simp[eqF,kd]at e
   |du _=>simp[eqF,kd]at e
   |fn _=>simp[eqF,kd]at e
   |@ref _ n2 hp2=>
    obtain⟨ys,g⟩:=h.some_at hp2;exact(nl hp.sq (SqL.of g)).elim
  |@rol p xs ds hp rp=>
   cases r2 with
   |@tup _ xs2 ds2 hp2 rp2=>exact(nl (SqT.of hp2) hp.sq).elim
   |@con _ xs2 ds2 hp2 rp2=>exact(nl hp2.sq hp.sq).elim
   |err _ _ _=>simp[eqF,kd]at e
   |dk _=>simp[eqF,kd]at e
   |dt _=>simp[eqF,kd]at e
   |du _=>simp[eqF,kd]at e
   |fn _=>simp[eqF,kd]at e
   |@rol _ xs2 ds2 hp2 rp2=>
    cases I.list_inj hp.sq hp2.sq;simp only[eqF,kd,eqK,if_pos (rp.length.symm.trans rp2.length)]at e;exact lists _ _ _ _ rp rp2 e
   |@ref _ n2 hp2=>
    cases e1:M[n2]? with
    |none=>simp only[eqF,kd,e1]at e;cases e
    |some o=>
     cases o with
     |lst ds2=>
      obtain⟨ys,g,r⟩:=ll hp2 e1;cases I.list_inj hp.sq g;simp only[eqF,kd,e1,eqK,if_pos (rp.length.symm.trans r.length)]at e;exact lists _ _ _ _ rp r e
  |@ref p n1 hp=>
   cases e0:M[n1]? with
   |none=>simp only[eqF,kd,e0]at e;cases e
   |some o0=>
    cases o0 with
    |lst ds=>
     obtain⟨xs,g0,rp⟩:=ll hp e0;cases r2 with
     |@tup _ xs2 ds2 hp2 rp2=>exact(nl (SqT.of hp2) g0).elim
     |@con _ xs2 ds2 hp2 rp2=>exact(nl hp2.sq g0).elim
     |err _ _ _=>simp[eqF,kd,e0]at e
     |dk _=>simp[eqF,kd,e0]at e
     |dt _=>simp[eqF,kd,e0]at e
     |du _=>simp[eqF,kd,e0]at e
     |fn _=>simp[eqF,kd,e0]at e
     |@rol _ xs2 ds2 hp2 rp2=>
      cases I.list_inj g0 hp2.sq;simp only[eqF,kd,e0,eqK,if_pos (rp.length.symm.trans rp2.length)]at e;exact lists _ _ _ _ rp rp2 e
     |@ref _ n2 hp2=>
      cases e1:M[n2]? with
      |none=>simp only[eqF,kd,e0,e1]at e;cases e
      |some o=>
       cases o with
       |lst ds2=>
        obtain⟨ys,g,r⟩:=ll hp2 e1;cases I.list_inj g0 g;simp only[eqF,kd,e0,e1,eqK,if_pos (rp.length.symm.trans r.length)]at e;exact lists _ _ _ _ rp r e
end
end DL
namespace DL
open PyProof.Rows L2
open PySem.SeqAt (EqAt RcAt RcNeAt)
section
variable {X:Cx}{pins:Pn}{σ:L2.St}{H:Hp}{s:aC}{α:List Addr}{M:Sto}
theorem ZgB(v1:ZR xs1 i1)(v2:ZR xs2 i2)(r1:Reps X.K H α xs1 ds1)(r2:Reps X.K H α xs2 ds2)(ih:∀(x y:D)(v w:V)(u z:ah)(b:Bool),eqF n M x y=some b->Rep X.K H α v x->Rep X.K H α w y->ZY v u->ZY w z->EqAt A s u z b)(e:eqL (eqF n M) ds1 ds2=some b):∃f:Nat->Bool,(∀(j:Nat)(h1:j<i1.toArray.size)(h2:j<i2.toArray.size),EqAt A s i1.toArray[j] i2.toArray[j] (f j))/\b=((aJ (min i1.toArray.size i2.toArray.size)).all f&&i1.toArray.size==i2.toArray.size):=by
 obtain⟨g1,g2⟩:=Ziw e;have l1:i1.toArray.size=ds1.length:=by rw[ar,<-v1.length,r1.length]
 have l2:i2.toArray.size=ds2.length:=by rw[ar,<-v2.length,r2.length]
 refine⟨_,fun j h1 h2=>?_,by rw[l1,l2];exact g2⟩
 have k1:j<ds1.length:=by rw[<-l1];exact h1
 have k2:j<ds2.length:=by rw[<-l2];exact h2
 obtain⟨c,hc⟩:=g1 j _ _ (Gq k1) (Gq k2);obtain⟨v,a1,a2⟩:=r1.get (Gq k1);obtain⟨w,b1,b2⟩:=r2.get (Gq k2);obtain⟨u,a3,a4⟩:=v1.get a1;obtain⟨z,b3,b4⟩:=v2.get b1;have q:=ih _ _ v w u z c hc a2 b2 a4 b4;simp only[aq k1,aq k2,hc,fN];have e1:i1.toArray[j]=u:=by
  have:=aj.mp a3
  obtain⟨_,z⟩:=this
  simpa using z
 have e2:i2.toArray[j]=z:=by
  have:=aj.mp b3
  obtain⟨_,z⟩:=this
  simpa using z
 rw[e1,e2];exact q
theorem Zix(I:Inv X pins σ H s)(h:HR X.K H α M)(e:eqF n M x y=some b)(rx:Rep X.K H α v x)(ry:Rep X.K H α w y)(rv:ZY v (.ref p))(rw':ZY w (.ref q))(k:RcAt A s (.ref p) (.ref q) b)(k':RcNeAt A s (.ref p) (.ref q) (!b)):Eq3 A s (.ref p) (.ref q) b:=by
 refine⟨?_,k,k'⟩;by_cases c:p=q
 ·subst c;cases ZY.inj rv rw';rw[Zkq I h n rx ry e];exact EqAt.same _
 ·exact EqAt.of_refs c k
theorem eq3(I:Inv X pins σ H s)(h:HR X.K H α M):∀(n:Nat)(x y:D)(v w:V)(u z:ah)(b:Bool)(A:dc),A.units+n<jo->eqF n M x y=some b->Rep X.K H α v x->Rep X.K H α w y->ZY v u->ZY w z->Eq3 A s u z b:=by
 intro n
 induction n with
 |zero=>intro x y v w u z b A _ e;simp only[eqF]at e;cases e
 |succ n ih=>
  intro x y v w u z b A hn e rx ry rv rw';have hu:A.units<jo:=by lia
  have e0:=e;unfold eqF at e;cases ka:kd M x with
  |none=>rw[ka]at e;cases e
  |some ka'=>
   cases kb:kd M y with
   |none=>rw[ka,kb]at e;cases e
   |some kb'=>
    rw[ka,kb]at e;have va:=vw I h rx rv ka;have vb:=vw I h ry rw' kb;have deep:∀(x y:D)(v w:V)(u z:ah)(b:Bool),eqF n M x y=some b->Rep X.K H α v x->Rep X.K H α w y->ZY v u->ZY w z->EqAt A.in1 s u z b:=fun x y v w u z b e a1 a2 a3 a4=>
     (ih x y v w u z b A.in1 (by rw[dc.in1_units];lia) e a1 a2 a3 a4).1
    cases va with
    |non=>
     cases vb<;>simp only[eqK,am]at e<;>subst e
     ·exact⟨EqAt.same _,.none_none,.none_none⟩
     ·exact⟨.none_bool _,.none_bool _,.none_bool _⟩
     ·exact⟨.none_int _ _,.none_int _ _,.none_int _ _⟩
     ·exact⟨.none_str _ _,.none_str _ _,.none_str _ _⟩
     ·rename_i g _ _;exact⟨.none_tuple g hu,.none_tuple g hu,.none_tuple g hu⟩
     ·rename_i g _ _;exact⟨.none_list g hu,.none_list g hu,.none_list g hu⟩
    |bl c=>
     cases vb<;>simp only[eqK,am]at e<;>subst e
     ·exact⟨.bool_none _,.bool_none _,.bool_none _⟩
     ·exact⟨.bool_bool _ _,.bool_bool _ _,.bool_bool _ _⟩
     ·exact⟨.bool_int _ _ _,.bool_int _ _ _,.bool_int _ _ _⟩
     ·exact⟨.bool_str _ _ _,.bool_str _ _ _,.bool_str _ _ _⟩
     ·rename_i g _ _;exact⟨.bool_tuple _ g hu,.bool_tuple _ g hu,.bool_tuple _ g hu⟩
     ·rename_i g _ _;exact⟨.bool_list _ g hu,.bool_list _ g hu,.bool_list _ g hu⟩
    |int c t=>
     cases vb<;>simp only[eqK,am]at e<;>subst e
     ·exact⟨.int_none _ _,.int_none _ _,.int_none _ _⟩
     ·exact⟨.int_bool _ _ _,.int_bool _ _ _,.int_bool _ _ _⟩
     ·exact⟨.int_int _ _ _ _,.int_int _ _ _ _,.int_int _ _ _ _⟩
     ·exact⟨.int_str _ _ _ _,.int_str _ _ _ _,.int_str _ _ _ _⟩
     ·rename_i g _ _;exact⟨.int_tuple _ _ g hu,.int_tuple _ _ g hu,.int_tuple _ _ g hu⟩
     ·rename_i g _ _;exact⟨.int_list _ _ g hu,.int_list _ _ g hu,.int_list _ _ g hu⟩
    |str c t=>
     cases vb<;>simp only[eqK,am]at e<;>subst e
     ·exact⟨.str_none _ _,.str_none _ _,.str_none _ _⟩
     ·exact⟨.str_bool _ _ _,.str_bool _ _ _,.str_bool _ _ _⟩
     ·exact⟨.str_int _ _ _ _,.str_int _ _ _ _,.str_int _ _ _ _⟩
     ·exact⟨.str_str _ _ _ _,.str_str _ _ _ _,.str_str _ _ _ _⟩
     ·rename_i g _ _;exact⟨.str_tuple _ _ g hu,.str_tuple _ _ g hu,.str_tuple _ _ g hu⟩
     ·rename_i g _ _;exact⟨.str_list _ _ g hu,.str_list _ _ g hu,.str_list _ _ g hu⟩
    |@tup p xs ds its g1 w1 q1=>
     cases vb with
     |@tup p2 xs2 ds2 its2 g2 w2 q2=>
      simp only[eqK]at e;obtain⟨f,hf,hb⟩:=ZgB w1 w2 q1 q2 deep e;subst hb;exact Zix I h e0 rx ry rv rw' (.tuples g1 g2 hu hf) (.tuples g1 g2 hu hf)
     |@lst p2 xs2 ds2 its2 g2 w2 q2=>
      simp only[eqK,am]at e;subst e;exact Zix I h e0 rx ry rv rw' (.tuple_list g1 g2 hu) (.tuple_list g1 g2 hu)
     |non=>simp only[eqK,am]at e;subst e;exact⟨.tuple_none g1 hu,.tuple_none g1 hu,.tuple_none g1 hu⟩
     |bl c=>simp only[eqK,am]at e;subst e;exact⟨.tuple_bool _ g1 hu,.tuple_bool _ g1 hu,.tuple_bool _ g1 hu⟩
     |int c t=>simp only[eqK,am]at e;subst e;exact⟨.tuple_int _ _ g1 hu,.tuple_int _ _ g1 hu,.tuple_int _ _ g1 hu⟩
     |str c t=>simp only[eqK,am]at e;subst e;exact⟨.tuple_str _ _ g1 hu,.tuple_str _ _ g1 hu,.tuple_str _ _ g1 hu⟩
    |@lst p xs ds its g1 w1 q1=>
     cases vb with
     |@lst p2 xs2 ds2 its2 g2 w2 q2=>
      simp only[eqK]at e;have l1:its.toArray.size=ds.length:=by rw[ar,<-w1.length,q1.length]
      have l2:its2.toArray.size=ds2.length:=by rw[ar,<-w2.length,q2.length]
      by_cases c:ds.length=ds2.length
      ·rw[if_pos c]at e;have hs:its.toArray.size=its2.toArray.size:=by rw[l1,l2,c]
       obtain⟨f,hf,hb⟩:=ZgB w1 w2 q1 q2 deep e;rw[hs,Nat.min_self,beq_self_eq_true,Bool.and_true,<-hs]at hb;subst hb;exact Zix I h e0 rx ry rv rw' (.lists g1 g2 hs hu hf) (.lists g1 g2 hs hu hf)
      ·rw[if_neg c]at e;have e':false=b:=aQ e;subst e';have hs:(its.toArray.size != its2.toArray.size)=true:=by rw[l1,l2];simpa using c
       exact Zix I h e0 rx ry rv rw' (.lists_lengths g1 g2 hs hu) (.lists_lengths g1 g2 hs hu)
     |@tup p2 xs2 ds2 its2 g2 w2 q2=>
      simp only[eqK,am]at e;subst e;exact Zix I h e0 rx ry rv rw' (.list_tuple g1 g2 hu) (.list_tuple g1 g2 hu)
     |non=>simp only[eqK,am]at e;subst e;exact⟨.list_none g1 hu,.list_none g1 hu,.list_none g1 hu⟩
     |bl c=>simp only[eqK,am]at e;subst e;exact⟨.list_bool _ g1 hu,.list_bool _ g1 hu,.list_bool _ g1 hu⟩
     |int c t=>simp only[eqK,am]at e;subst e;exact⟨.list_int _ _ g1 hu,.list_int _ _ g1 hu,.list_int _ _ g1 hu⟩
     |str c t=>simp only[eqK,am]at e;subst e;exact⟨.list_str _ _ g1 hu,.list_str _ _ g1 hu,.list_str _ _ g1 hu⟩
end
section
def Zq8(X:Cx)(neg:Bool):R2:=fun v w H Q=>∃α M x y b,HR X.K H α M/\Rep X.K H α v x/\Rep X.K H α w y/\eqF 12 M x y=some b/\Q (.bl (neg ^^ b)) H
theorem ZJ(hu:X.A.units+64<jo):OpR X (cE .Eq) (Zq8 X false):=by
 intro pins s σ H v w u z Q I rv rw' hz;obtain⟨α,M,x,y,b,h,rx,ry,e,q⟩:=hz;refine(eq3 I h 12 x y v w u z b X.A (by lia) e rx ry rv rw').2.1 _ _ _ _ ⟨.bl b,H,I,rfl,?_⟩
 simpa using q
theorem ZaP(hu:X.A.units+64<jo):OpR X (cE .NotEq) (Zq8 X true):=by
 intro pins s σ H v w u z Q I rv rw' hz;obtain⟨α,M,x,y,b,h,rx,ry,e,q⟩:=hz;refine(eq3 I h 12 x y v w u z b X.A (by lia) e rx ry rv rw').2.2 _ _ _ _ ⟨.bl (!b),H,I,rfl,?_⟩
 simpa using q
def dEq:Bo:=fun x y M=>match eqF 12 M x y with|some b=>.ok (.bl b) M|none=>.bad
def dNe:Bo:=fun x y M=>match eqF 12 M x y with|some b=>.ok (.bl (!b)) M|none=>.bad
theorem Z1:BO X ξ (Zq8 X false) dEq:=by
 intro H α M v w x y Q h rv rw' q;unfold dEq at q;cases e:eqF 12 M x y with
 |none=>rw[e]at q;exact q.elim
 |some b=>rw[e]at q;exact⟨α,M,x,y,b,h,rv,rw',e,by simpa using q _ H α Ext.refl h (.bl b)⟩
theorem Zcn:BO X ξ (Zq8 X true) dNe:=by
 intro H α M v w x y Q h rv rw' q;unfold dNe at q;cases e:eqF 12 M x y with
 |none=>rw[e]at q;exact q.elim
 |some b=>rw[e]at q;exact⟨α,M,x,y,b,h,rv,rw',e,by simpa using q _ H α Ext.refl h (.bl (!b))⟩
noncomputable def Ziy:V->Bool
 |.non=>true
 |.bl _=>true
 |_=>false
def rIs(neg:Bool):R2:=fun v w H Q=>Ziy w=true/\Q (.bl (neg ^^ decide (v=w))) H
theorem Zkr(rv:ZY v u)(rw':ZY w z)(p:Ziy w=true):plainIs u z=true/\(u==z)=decide (v=w):=by
 cases w with
 |non=>
  cases rw';cases v with
  |non=>cases rv;exact⟨rfl,rfl⟩
  |bl b=>cases rv;exact⟨rfl,by rw[decide_eq_false (fun z=>(nomatch z))];rfl⟩
  |int b=>obtain⟨t,rfl⟩:=rv;exact⟨rfl,by rw[decide_eq_false (fun z=>(nomatch z))];rfl⟩
  |str b=>obtain⟨t,rfl⟩:=rv;exact⟨rfl,by rw[decide_eq_false (fun z=>(nomatch z))];rfl⟩
  |byt b=>obtain⟨t,rfl⟩:=rv;exact⟨rfl,by rw[decide_eq_false (fun z=>(nomatch z))];rfl⟩
  |flt b=>obtain⟨t,rfl⟩:=rv;exact⟨rfl,by rw[decide_eq_false (fun z=>(nomatch z))];rfl⟩
  |ref b=>cases rv;exact⟨rfl,by rw[decide_eq_false (fun z=>(nomatch z))];rfl⟩
  |ty b=>cases rv;exact⟨rfl,by rw[decide_eq_false (fun z=>(nomatch z))];rfl⟩
 |bl c=>
  cases rw';cases v with
  |non=>cases rv;exact⟨rfl,by rw[decide_eq_false (fun z=>(nomatch z))];rfl⟩
  |bl b=>cases rv;refine⟨rfl,?_⟩;cases b<;>cases c<;>rfl
  |int b=>obtain⟨t,rfl⟩:=rv;exact⟨rfl,by rw[decide_eq_false (fun z=>(nomatch z))];rfl⟩
  |str b=>obtain⟨t,rfl⟩:=rv;exact⟨rfl,by rw[decide_eq_false (fun z=>(nomatch z))];rfl⟩
  |byt b=>obtain⟨t,rfl⟩:=rv;exact⟨rfl,by rw[decide_eq_false (fun z=>(nomatch z))];rfl⟩
  |flt b=>obtain⟨t,rfl⟩:=rv;exact⟨rfl,by rw[decide_eq_false (fun z=>(nomatch z))];rfl⟩
  |ref b=>cases rv;exact⟨rfl,by rw[decide_eq_false (fun z=>(nomatch z))];rfl⟩
  |ty b=>cases rv;exact⟨rfl,by rw[decide_eq_false (fun z=>(nomatch z))];rfl⟩
 |_=>cases p
theorem Za0:OpR X (cE .IsNot) (rIs true):=by
 intro pins s σ H v w u z Q I rv rw' hz;obtain⟨p,q⟩:=hz;obtain⟨h1,h2⟩:=Zkr rv rw' p;refine wpAny_isNot_plain h1 ⟨.bl (!(u==z)),H,I,rfl,?_⟩;rw[h2]
 simpa using q
noncomputable def isP:D->D->Option Bool
 |.non,.non=>some true
 |.bl a,.bl b=>some (a==b)
 |_,.non=>some false
 |_,.bl _=>some false
 |_,_=>none
def dIs:Bo:=fun x y M=>match isP x y with|some b=>.ok (.bl b) M|none=>.bad
def dIsNot:Bo:=fun x y M=>match isP x y with|some b=>.ok (.bl (!b)) M|none=>.bad
theorem ZoO{K:Fg}(rv:Rep K H α v x)(rw':Rep K H α w y)(e:isP x y=some b):Ziy w=true/\decide (v=w)=b:=by
 unfold isP at e
 split at e
 ·cases rv;cases rw';cases e;exact⟨rfl,rfl⟩
 ·rename_i c d;cases rv;cases rw';cases e;refine⟨rfl,?_⟩;cases c<;>cases d<;>rfl
 ·rename_i hx;cases rw';cases e;refine⟨rfl,decide_eq_false fun z=>?_⟩;subst z;cases rv;exact hx rfl
 ·rename_i c hx;cases rw';cases e;refine⟨rfl,decide_eq_false fun z=>?_⟩;subst z;cases rv;exact hx _ rfl
 ·cases e
theorem ZbN:BO X ξ (rIs true) dIsNot:=by
 intro H α M v w x y Q h rv rw' q;unfold dIsNot at q;cases e:isP x y with
 |none=>rw[e]at q;exact q.elim
 |some b=>
  rw[e]at q;obtain⟨p,d⟩:=ZoO rv rw' e;exact⟨p,by rw[d];simpa using q _ H α Ext.refl h (.bl (!b))⟩
noncomputable def ZoP:D->Bool
 |.non=>true
 |.bl _=>true
 |.int _=>true
 |.str _=>true
 |_=>false
noncomputable def Zt8:D->D->Bool
 |.non,.non=>true
 |.bl a,.bl b=>a==b
 |.bl a,.int b=>(if a then 1 else 0)==b
 |.int a,.bl b=>a==(if b then 1 else 0)
 |.int a,.int b=>a==b
 |.str a,.str b=>a==b
 |_,_=>false
noncomputable def Zcf(M:Sto):D->Option (List D)
 |.tup xs=>some xs
 |.rol xs=>some xs
 |.con xs=>some xs
 |.ref n=>match M[n]? with|some (.lst xs)=>some xs|_=>none
 |_=>none
theorem Zes{K:Fg}(h:HR K H α M)(r:Rep K H α v x)(e:Zcf M x=some ds):∃p xs,v=.ref p/\(SqL K H p xs\/SqT K H p xs)/\Reps K H α xs ds:=by
 cases r with
 |@tup p xs ds hp rp=>cases e;exact⟨p,xs,rfl,.inr (SqT.of hp),rp⟩
 |@con p xs ds hp rp=>cases e;exact⟨p,xs,rfl,.inr hp.sq,rp⟩
 |@rol p xs ds hp rp=>cases e;exact⟨p,xs,rfl,.inl hp.sq,rp⟩
 |@ref p n hp=>
  cases e1:M[n]? with
  |none=>simp only[Zcf,e1]at e;cases e
  |some o=>
   cases o with
   |lst es=>
    simp only[Zcf,e1]at e;cases e;obtain⟨xs,g1,r1⟩:=h.at hp e1;exact⟨p,xs,rfl,.inl (SqL.of g1),r1⟩
 |_=>cases e
theorem Zks{K:Fg}(h:HR K H α M)(r:Rep K H α v x)(e:Zcf M x=some ds)(nc:∀ys,x≠ .con ys):∃p xs,v=.ref p/\(SqL K H p xs\/H p=some (.tup xs))/\Reps K H α xs ds:=by
 cases r with
 |con _ _=>exact absurd rfl (nc _)
 |@tup p xs ds hp rp=>cases e;exact⟨p,xs,rfl,.inr hp,rp⟩
 |@rol p xs ds hp rp=>cases e;exact⟨p,xs,rfl,.inl hp.sq,rp⟩
 |@ref p n hp=>
  cases e1:M[n]? with
  |none=>simp only[Zcf,e1]at e;cases e
  |some o=>
   cases o with
   |lst es=>
    simp only[Zcf,e1]at e;cases e;obtain⟨xs,g1,r1⟩:=h.at hp e1;exact⟨p,xs,rfl,.inl (SqL.of g1),r1⟩
 |_=>cases e
def inD(x y:D)(M:Sto):Option Bool:=match Zcf M y with|some ds=>if ZoP x=true/\ds.all ZoP=true then some (ds.any fun y=>Zt8 y x)else none|none=>none
variable {x:Str}{id T:String}{r:List V->Hp->VK->Prop}
def Zj(f:W3)(fs:Av):Ev:=fun ρ M=>(fs ρ M).bind f
def CO(X:Cx)(ξ:XK)(r:List V->Hp->VK->Prop)(f:W3):Prop:=∀H α M vs ds Q,HR X.K H α M->Reps X.K H α vs ds->OP X.K H α ξ Q (f ds M)->r vs H Q
theorem Zn(hc:Zbr X (.builtin id) r)(hf:CO X ξ r f)(hm:X.mg x=none)(hv:bB x=some (.builtin id))(ha:DA X ξ (e::es) fs)(hg:autoParam (Gl X x) Qrf._auto_1)(hn:autoParam (x≠"__name__") Qde._auto_1)(hdb:autoParam ((x==("__debug__":Str))=false) Qde._auto_1)
  (he:af (e::es) X.env=(false,eval e X.env)::af es X.env:=by rfl) (hpl:(bT pos (af es X.env)).any (·.1)=false:=by rfl):DE X ξ (.Call (.Name x p) (e::es) [] pos) (Zj f fs):=by
 obtain⟨ta,ha,qa⟩:=ha;refine⟨_,Zep hc hg hm hv ha hn hdb he hpl,fun σ ρ H α M Q s h q=>?_⟩;exact qa σ ρ H α M _ s h (OG.seq q fun ds M1 vs H1 α1 e1 h1 r1 q1=>hf H1 α1 M1 vs ds Q h1 r1 q1)
theorem ZD(hc:Zbr X (.type T) r)(hf:CO X ξ r f)(hm:X.mg x=none)(hv:bB x=some (.type T))(ha:DA X ξ (e::es) fs)(hg:autoParam (Gl X x) Qrf._auto_1)(hn:autoParam (x≠"__name__") Qde._auto_1)(hdb:autoParam ((x==("__debug__":Str))=false) Qde._auto_1)
  (he:af (e::es) X.env=(false,eval e X.env)::af es X.env:=by rfl) (hpl:(bT pos (af es X.env)).any (·.1)=false:=by rfl):DE X ξ (.Call (.Name x p) (e::es) [] pos) (Zj f fs):=by
 obtain⟨ta,ha,qa⟩:=ha;refine⟨_,Zie hc hg hm hv ha hn hdb he hpl,fun σ ρ H α M Q s h q=>?_⟩;exact qa σ ρ H α M _ s h (OG.seq q fun ds M1 vs H1 α1 e1 h1 r1 q1=>hf H1 α1 M1 vs ds Q h1 r1 q1)
def bLen:W3:=fun ds M=>match ds with
 |[x]=>match Zcf M x with|some xs=>.ok (.int xs.length) M|none=>.bad
 |_=>.bad
theorem ZK:CO X ξ (fun xs H Q=>∃p ys,xs=[.ref p]/\(SqL X.K H p ys\/SqT X.K H p ys)/\Q (.int ys.length) H) bLen:=by
 intro H α M vs ds Q h rs q;unfold bLen at q;cases rs with
 |nil=>exact q.elim
 |@cons v x vs ds r t=>
  cases t with
  |cons _ _=>exact q.elim
  |nil=>
  cases e:Zcf M x with
  |none=>simp only[e]at q;exact q.elim
  |some ys=>
   simp only[e]at q;obtain⟨p,xs,rfl,h2,h3⟩:=Zes h r e;exact⟨p,xs,rfl,h2,by rw[h3.length];exact q _ H α Ext.refl h (.int _)⟩
noncomputable def bAbs:W3:=fun ds M=>match ds with|[.int i]=>.ok (.int (if i<0 then -i else i)) M|_=>.bad
theorem Zco:CO X ξ (fun xs H Q=>∃i,xs=[.int i]/\Q (.int (if i<0 then -i else i)) H) bAbs:=by
 intro H α M vs ds Q h rs q;unfold bAbs at q
 split at q
 ·cases rs with
  |cons r t=>
   cases t;cases r;exact⟨_,rfl,q _ H α Ext.refl h (.int _)⟩
 ·exact q.elim
noncomputable def bMax:W3:=fun ds M=>match ds with|[.int i,.int j]=>.ok (.int (if j>i then j else i)) M|_=>.bad
noncomputable def bMin:W3:=fun ds M=>match ds with|[.int i,.int j]=>.ok (.int (if j<i then j else i)) M|_=>.bad
theorem Zlv{g:Int->Int->Int}(hf:∀ds M,f ds M=match ds with|[.int i,.int j]=>.ok (.int (g i j)) M|_=>.bad):CO X ξ (fun xs H Q=>∃i j,xs=[.int i,.int j]/\Q (.int (g i j)) H) f:=by
 intro H α M vs ds Q h rs q;rw[hf]at q
 split at q
 ·rename_i i j;cases rs with
  |cons r t=>
   cases t with
   |cons r' t'=>
    cases t';cases r;cases r';exact⟨i,j,rfl,q _ H α Ext.refl h (.int _)⟩
 ·exact q.elim
theorem ZoQ:CO X ξ (fun xs H Q=>∃i j,xs=[.int i,.int j]/\Q (.int (if j>i then j else i)) H) bMax:=Zlv (g:=fun i j=>if j>i then j else i) fun ds M=>rfl
theorem ZoR:CO X ξ (fun xs H Q=>∃i j,xs=[.int i,.int j]/\Q (.int (if j<i then j else i)) H) bMin:=Zlv (g:=fun i j=>if j<i then j else i) fun ds M=>rfl
noncomputable def bInt:W3:=fun ds M=>match ds with|[.int i]=>.ok (.int i) M|[.bl k]=>.ok (.int (if k then 1 else 0)) M|_=>.bad
theorem Zd9:CO X ξ (fun xs H Q=>(∃i,xs=[.int i]/\Q (.int i) H)\/∃k,xs=[.bl k]/\Q (.int (if k then 1 else 0)) H) bInt:=by
 intro H α M vs ds Q h rs q;unfold bInt at q
 split at q
 ·cases rs with
  |cons r t=>
   cases t;cases r;exact .inl ⟨_,rfl,q _ H α Ext.refl h (.int _)⟩
 ·cases rs with
  |cons r t=>
   cases t;cases r;exact .inr ⟨_,rfl,q _ H α Ext.refl h (.int _)⟩
 ·exact q.elim
def bList:W3:=fun ds M=>match ds with
 |[x]=>match Zcf M x with|some xs=>.ok (.ref M.length) (M++[.lst xs])|none=>.bad
 |_=>.bad
theorem ZmC:CO X ξ (fun xs H Q=>∃p ys,xs=[.ref p]/\(SqL X.K H p ys\/SqT X.K H p ys)/\∀l,H l=none->Q (.ref l) (upd H l (.lst ys))) bList:=by
 intro H α M vs ds Q h rs q;unfold bList at q;cases rs with
 |nil=>exact q.elim
 |@cons v x vs ds r t=>
  cases t with
  |cons _ _=>exact q.elim
  |nil=>
  cases e:Zcf M x with
  |none=>simp only[e]at q;exact q.elim
  |some ys=>
   simp only[e]at q;obtain⟨p,xs,rfl,h2,h3⟩:=Zes h r e;exact⟨p,xs,rfl,h2,fun l hl=>q _ _ (α++[l]) (Ext.new hl) (h.new hl h3) (.ref ⟨h.last l,Kn.lst Zp⟩)⟩
def ZO(M:Sto)(x:D):Option String:=match kd M x with
 |some .non=>some "NoneType"
 |some (.bl _)=>some "bool"
 |some (.int _)=>some "int"
 |some (.str _)=>some "str"
 |some (.tup _)=>some "tuple"
 |some (.lst _)=>some "list"
 |none=>none
noncomputable def Zbs(t T:String):Bool:=t==T||(t=="bool"&&T=="int")
def Zd2(T:String)(f:Ev):Ev:=fun ρ M=>(f ρ M).bind fun x M1=>match ZO M1 x with|some t=>.ok (.bl (Zbs t T)) M1|none=>.bad
def Zt9(X:Cx)(T:String):List V->Hp->VK->Prop:=fun vs H Q=>∃v α M x t,vs=[v,.ty T]/\HR X.K H α M/\Rep X.K H α v x/\ZO M x=some t/\Q (.bl (Zbs t T)) H
structure Kit(K:Fg) (T:String):Prop where
 non:PySem.W.kitOne K (.type "NoneType") (.type T)=some (Zbs "NoneType" T)
 bl:PySem.W.kitOne K (.type "bool") (.type T)=some (Zbs "bool" T)
 int:PySem.W.kitOne K (.type "int") (.type T)=some (Zbs "int" T)
 str:PySem.W.kitOne K (.type "str") (.type T)=some (Zbs "str" T)
 tup:PySem.W.kitOne K (.type "tuple") (.type T)=some (Zbs "tuple" T)
 lst:PySem.W.kitOne K (.type "list") (.type T)=some (Zbs "list" T)
theorem Ziz{K:Fg}:Kit K "int":=⟨rfl,rfl,rfl,rfl,rfl,rfl⟩
theorem ZgC{K:Fg}:Kit K "bool":=⟨rfl,rfl,rfl,rfl,rfl,rfl⟩
theorem Zds{K:Fg}:Kit K "tuple":=⟨rfl,rfl,rfl,rfl,rfl,rfl⟩
theorem ZgD{K:Fg}:Kit K "list":=⟨rfl,rfl,rfl,rfl,rfl,rfl⟩
theorem ZmD{K:Fg}:Kit K "str":=⟨rfl,rfl,rfl,rfl,rfl,rfl⟩
theorem Zkt(kt:Kit X.K T):Zbr X (.builtin "isinstance") (Zt9 X T):=by
 intro pins s σ H vs us Q I rs hz;obtain⟨v,α,M,x,t,e1,h,rx,et,q⟩:=hz;subst e1;obtain⟨u,w,rfl,ru,rw'⟩:=Zh8 rs;cases rw';unfold ZO at et;cases ek:kd M x with
 |none=>rw[ek]at et;cases et
 |some k=>
  rw[ek]at et;have va:=vw I h rx ru ek;have fin:∀tk,EP X pins σ Q (.bool (Zbs t T)) {s with toks:=tk}:=fun tk=>⟨.bl _,H,I.tok tk,rfl,q⟩;cases va with
  |non=>cases et;exact PySem.W.kia_one PySem.W.kitx_none I.kIn gN kt.non (fun z=>nomatch z) fin
  |bl b=>cases et;exact PySem.W.kia_one PySem.W.kitx_bool I.kIn gN kt.bl (fun z=>nomatch z) fin
  |int i t=>cases et;exact PySem.W.kia_one PySem.W.kitx_int I.kIn gN kt.int (fun z=>nomatch z) fin
  |str i t=>cases et;exact PySem.W.kia_one PySem.W.kitx_str I.kIn gN kt.str (fun z=>nomatch z) fin
  |tup g _ _=>cases et;obtain⟨o,h1,h2,_⟩:=g;exact PySem.W.kia_one PySem.W.kitx_tuple I.kIn ⟨o,h1,h2⟩ kt.tup (fun z=>nomatch z) fin
  |lst g _ _=>cases et;obtain⟨o,h1,h2,_⟩:=g;exact PySem.W.kia_one PySem.W.kitx_list I.kIn ⟨o,h1,h2⟩ kt.lst (fun z=>nomatch z) fin
theorem ZbY(kt:Kit X.K T)(hm:X.mg "isinstance"=none)(hmT:X.mg y=none)(hvT:bB y=some (.type T))(ha:DE X ξ e fa)(hg:autoParam (Gl X "isinstance") Qrf._auto_1)(hgT:autoParam (Gl X y) Qrf._auto_1)(hn:autoParam (y≠"__name__") Qde._auto_1)(hdb:autoParam ((y==("__debug__":Str))=false) Qde._auto_1)(he:autoParam (af [e,.Name y p2] X.env=(false,eval e X.env)::af [.Name y p2] X.env) Qrf._auto_1)(he2:autoParam (af [.Name y p2] X.env=(false,eval (.Name y p2) X.env)::af [] X.env) Qrf._auto_1)(hpl:autoParam ((bT pos (af [.Name y p2] X.env)).any (·.1)=false) Qrf._auto_1):DE X ξ (.Call (.Name "isinstance" p) [e,.Name y p2] [] pos) (Zd2 T fa):=by
 obtain⟨ta,ha,qa⟩:=ha;refine⟨_,Zep (Zkt kt) hg hm (by with_unfolding_all rfl) (Zb3 ha (Zb3 (Zh1 hgT hmT hvT (v:=.ty T) rfl hn hdb) Zgx he2) he) (by decide) (by decide) he hpl,fun σ ρ H α M Q s h q=>?_⟩
 refine qa σ ρ H α M _ s h (OG.seq q fun x M1 v H1 α1 e1 h1 r1 q1=>?_);cases et:ZO M1 x with
 |none=>simp only[et]at q1;exact q1.elim
 |some t=>
  simp only[et]at q1;exact⟨v,α1,M1,x,t,rfl,h1,r1,et,q1 _ H1 α1 Ext.refl h1 (.bl _)⟩
end
end DL
namespace DL
open PyProof.Rows L2
def CXE(P:cF)(w:df):CXT:=fun outer H s E e s'=>∃(ea C:Addr) (dct:Option Addr) (B:Heap) (H':Hp),e=.ref ea/\s'.os=s.os/\d6 s'.gens/\Un (frs outer) [] H H' s.heap s'.heap/\HOk P w H' s'.heap/\
 DQ.Fly B outer ea (.ref C) dct .none s'.heap/\(∀b u,H' b=some u->∃o,B.get? b=some o)/\(∀b o,s.heap.get? b=some o->b∉frs outer->∃o',B.get? b=some o')/\E (.ref C) dct H'
structure Thr(X:Cx) (ξ:XK):Prop where
 own:eV (az X.prog X.w) X.A X.env X.xe
 ps:Zib (CXE X.prog X.w) X ξ
 mak:∀(pins:Pn)(σ:L2.St)(H H':Hp)(s s':aC)(e:Addr)(oe:Obj)(vs:Array ah)(C:Addr),Inv X pins σ H s->s'.os=s.os->d6 s'.gens->Un (frs X.stack) [] H H' s.heap s'.heap->HOk X.prog X.w H' s'.heap->s.heap.get? e=none->s'.heap.get? e=some oe->oe.cls=.ref C->
  oe.data=.fields vs->vs[1]?=some .none->vs[2]?=some .none->H' e=none->ξ (.ref C) oe.dict H'->X.xe (.ref e) s'
theorem Zdt{h b1 b2:Heap}:∀{l:List Env},h.FunFrames b1 l->(∀b∈frs l,b2.get? b=none)->h.FunFrames b2 l
 |[],_,_=>trivial
 |env::r,⟨h1,⟨L,o,h2,h3,h4,h5⟩,h6⟩,k=>⟨h1,⟨L,o,h2,k L (by unfold frs;rw[ck,h2];exact aO),h4,h5⟩,Zdt h6 fun b hb=>k b (by
   unfold frs;rw[ck,h2];exact ak _ hb)⟩
section
variable {h1 B:Heap}
theorem Zlw(hx:X.ex=[])(I:Inv X pins σ H s)(u:Un (frs X.stack) [] H H' s.heap h1)(hok:HOk X.prog X.w H' h1)(t1:∀b q,H' b=some q->∃o,B.get? b=some o)(t2:∀b o,s.heap.get? b=some o->b∉frs X.stack->∃o',B.get? b=some o')(st1:B.StaysIn h1)(st2:B.StaysIn h2)(up:h1.UpToSlots h2):Un X.fs [] X.H₀ H' X.s₀.heap h2/\HOk X.prog X.w H' h2/\∀b o,X.s₀.heap.get? b=some o->b∉X.fs->∃o',B.get? b=some o':=by
 have kB:∀b ob o,B.get? b=some ob->h1.get? b=some o->h2.get? b=some o:=fun b ob o e x=>by
  have z:=st1 b ob e;rw[x]at z;cases z;exact st2 b _ e
 have nx:∀b,b∉X.ex:=fun b=>by rw[hx];simp
 have nL:∀b o,X.s₀.heap.get? b=some o->b∉X.fs->b∉frs X.stack:=fun b o e n z=>by
  rcases aK.mp (I.stkSub b z)with q|q
  ·exact absurd (Hz e) (by rw[q];exact Nat.not_lt_of_le I.ok.above)
  ·exact n q
 have th:∀b o,X.s₀.heap.get? b=some o->b∉X.fs->∃o',B.get? b=some o':=fun b o e n=>by
  obtain⟨o',e'⟩:=I.base.there b o e (nx b);exact t2 b o' e' (nL b o e n)
 have sl:∀b o,X.s₀.heap.get? b=some o->X.H₀ b=none->b∈X.fs->∃sl,h2.get? b=some {o with slots:=sl}:=fun b o e n hb=>by
  obtain⟨s1,e1⟩:=I.base.slot b o e n hb (nx b);obtain⟨s2,e2⟩:=u.any e1 (I.base.free b o e n (nx b)) (by simp)
  obtain⟨_,o',g1,g2⟩:=I.ok.funs.mem hb;rw[e]at g1;cases g1;obtain⟨s3,e3⟩:=up b _ e2 g2;exact⟨s3,e3⟩
 refine⟨⟨fun b o e n hb _=>?_,fun b o e n hb _=>sl b o e n hb,fun b o e n _=>?_,fun b o e _=>?_,fun b xs e=>u.tups b xs (I.base.tups b xs e),fun b o xs e=>u.frzs b o xs (I.base.frzs b o xs e),fun b ps e=>?_⟩,fun a o e=>?_,th⟩
 ·obtain⟨ob,g⟩:=th b o e hb;exact kB b ob o g (u.keep b o (I.base.keep b o e n hb (nx b)) (I.base.free b o e n (nx b)) (nL b o e hb) (by simp))
 ·obtain⟨o',e'⟩:=I.base.there b o e (nx b);exact u.free b o' e' (I.base.free b o e n (nx b)) (by simp)
 ·by_cases hb:b∈X.fs
  ·obtain⟨s1,e1⟩:=sl b o e (I.ok.frf b hb) hb;exact⟨_,e1⟩
  ·obtain⟨ob,g⟩:=th b o e hb;exact⟨ob,st2 b ob g⟩
 ·obtain⟨m1,e1⟩:=I.base.tbls b ps e;obtain⟨m2,e2⟩:=u.tbls b _ e1;exact⟨m1++m2,by rw[e2,iw]⟩
 ·refine(hok a o e).stay (fun b q hb x=>?_) (fun _ q=>q) fun _ _ q=>q;have tr:∃q,H' b=some q:=by
   rcases hb with z|z
   ·exact⟨o,z▸e⟩
   ·exact⟨_,z⟩
  obtain⟨q',z⟩:=tr;obtain⟨ob,g⟩:=t1 b q' z;exact kB b ob q g x
end
theorem Zcp(x:Za5 P w H h a o):∃ob,h.get? a=some ob:=by
 cases o with
 |lst xs=>obtain⟨_,_,_,_,e⟩:=x;exact⟨_,e⟩
 |tup xs=>obtain⟨_,_,_,ob,e,_⟩:=x;exact⟨_,e⟩
 |dK kvs=>obtain⟨_,_,_,_,o,_,_,e,_⟩:=x;exact⟨_,e⟩
 |dT kvs=>obtain⟨_,_,_,_,o,_,_,e,_⟩:=x;exact⟨_,e⟩
 |dU kvs=>obtain⟨_,_,_,_,o,_,_,e,_⟩:=x;exact⟨_,e⟩
 |set S n=>obtain⟨o,_,_,_,e,_⟩:=x;exact⟨_,e⟩
 |ins C dx fs=>obtain⟨_,_,_,e,_⟩:=x;exact⟨_,e⟩
 |own y=>exact x
 |xd fs=>obtain⟨_,⟨_,_,_,e,_⟩,_⟩:=x;exact⟨_,e⟩
 |rng lo hi=>obtain⟨_,_,_,e⟩:=x;exact⟨_,e⟩
 |frz ob u=>obtain⟨e,_⟩:=x;exact⟨_,e⟩
 |tbl ps=>exact⟨_,x.1⟩
 |met f y=>exact⟨_,(show h.get? a=some _ from x)⟩
 |ext φ=>obtain⟨_,e,_⟩:=x;exact e
def ZfV(h:Heap)(l:List Addr):Heap:=Zj4 h fun b=>if b∈l then some (.own 0)else none
theorem ZbO(e:h.get? b=some o)(n:b∉l):(ZfV h l).get? b=some o:=Zgu e (if_neg n)
theorem Zet(e:(ZfV h l).get? b=some o):h.get? b=some o/\b∉l:=by
 obtain⟨a,n⟩:=ZhY e;refine⟨a,fun z=>?_⟩;simp only[if_pos z]at n;cases n
theorem Zfp(n:b∈l):(ZfV h l).get? b=none:=by
 cases q:(ZfV h l).get? b with
 |none=>rfl
 |some o=>exact absurd n (Zet q).2
theorem Zdu{h h' b1:Heap}:∀{l:List Env},h.FunFrames b1 l->(∀b o,b∈frs l->h.get? b=some o->∃o',h'.get? b=some o'/\o'.data=o.data)->h'.FunFrames b1 l
 |[],_,_=>trivial
 |env::r,⟨h1,⟨L,o,h2,h3,h4,h5⟩,h6⟩,k=>by
  have m:frs (env::r)=L::frs r:=by unfold frs;rw[ck,h2]
  obtain⟨o',g1,g2⟩:=k L o (by rw[m];exact aO) h4
  exact⟨h1,⟨L,o',h2,h3,g1,fun vs=>g2▸h5 vs⟩,Zdu h6 fun b o hb=>k b o (by rw[m];exact ak _ hb)⟩
theorem Zcq{s':aC}(I:Inv X pins σ H s)(un:Un (frs X.stack) [] H H' s.heap s'.heap)(hok:HOk X.prog X.w H' s'.heap)(hn:s.heap.get? e=none)(he:s'.heap.get? e=some oe)(hne:H' e=none):(∀b u,H' b=some u->∃o,(ZfV s'.heap (e::frs X.stack)).get? b=some o)/\(∀b o,s.heap.get? b=some o->b∉frs X.stack->∃o',(ZfV s'.heap (e::frs X.stack)).get? b=some o')/\(ZfV s'.heap (e::frs X.stack)).StaysIn s'.heap/\s'.heap.FunFrames (ZfV s'.heap (e::frs X.stack)) X.stack/\(ZfV s'.heap (e::frs X.stack)).get? e=none:=by
 have nfr:∀b∈frs X.stack,H' b=none:=fun b hb=>by
  obtain⟨_,o',g1,g2⟩:=I.stack.mem hb;exact un.free b o' g1 (I.stkFree b hb) (by simp)
 refine⟨fun b u x=>?_,fun b o x n=>?_,fun b o x=>(Zet x).1,Zdu (Zdt I.stack fun b hb=>Zfp (ak _ hb)) fun b o hb x=>?_,Zfp (by simp)⟩
 ·obtain⟨o,g⟩:=Zcp (hok b u x);refine⟨o,ZbO g fun z=>?_⟩;rcases aK.mp z with z|z
  ·rw[z,hne]at x;cases x
  ·rw[nfr b z]at x;cases x
 ·obtain⟨o',g⟩:=un.there b o x (by simp)
  refine⟨o',ZbO g fun z=>?_⟩;rcases aK.mp z with z|z
  ·rw[z,hn]at x;cases x
  ·exact n z
 ·obtain⟨sl,g⟩:=un.any x (I.stkFree b hb) (by simp)
  exact⟨_,g,rfl⟩
theorem Zlx{K:Fg}:Thr (Zhq (CXE P w) P w K mg base N qual scope f cd A outer s H E) E:=by
 refine⟨eV.leaving,fun pins σ H1 s1 e s2 I h=>?_,fun pins σ H1 H' s1 s' e oe vs C I os bare un hok hn he hc hd v1 v2 hne q=>?_⟩
 ·obtain⟨ea,C,dct,B,H2,rfl,os,bare,un,hok,fl,t1,t2,q⟩:=h;refine DQ.Zio (outer:=outer) I.ok.frames rfl fl fun h3 f3 up=>?_;obtain⟨a1,a2,a3⟩:=Zlw rfl I un hok t1 t2 fl.stay f3.stay up;exact⟨ea,C,dct,B,H2,rfl,os.trans I.os,bare,a1,a2,f3,t1,a3,q⟩
 ·obtain⟨t1,t2,hs,hl,hb⟩:=Zcq I un hok hn he hne;refine DQ.Zip (s:=s') (outer:=outer) I.ok.frames rfl hl he hs hb hd v1 v2 fun h3 f3 up=>?_;obtain⟨a1,a2,a3⟩:=Zlw rfl I un hok t1 t2 hs f3.stay up;rw[hc]at f3;exact⟨e,C,oe.dict,_,H',rfl,os.trans I.os,bare,a1,a2,f3,t1,a3,q⟩
end DL
namespace DL
open PyProof.Rows L2
def FP(K:Fg)(H:Hp)(α:List Addr)(ξ:XK)(Dn:Ends):Fl->Prop
 |.nx ρ' M'=>∀σ' H' α',Ext K H H' α α'->HR K H' α' M'->SR K H' α' σ' ρ'->Dn.nx σ' H'
 |.brk ρ' M'=>∀σ' H' α',Ext K H H' α α'->HR K H' α' M'->SR K H' α' σ' ρ'->Dn.bk σ' H'
 |.cnt ρ' M'=>∀σ' H' α',Ext K H H' α α'->HR K H' α' M'->SR K H' α' σ' ρ'->Dn.ct σ' H'
 |.ret d M'=>∀v H' α',Ext K H H' α α'->HR K H' α' M'->Rep K H' α' v d->Dn.rt v H'
 |.exc c M'=>∀C H' α',PySem.W.nsIn K ai c=some (some (.ref C))->Ext K H H' α α'->∀dct,XO K H' α' c M' dct->ξ (.ref C) dct H'
 |.bad=>False
theorem FP.ext{K:Fg}(h:FP K H α ξ Dn o)(e:Ext K H H1 α α1):FP K H1 α1 ξ Dn o:=by
 cases o with
 |nx ρ M=>exact fun σ' H' α' e'=>h σ' H' α' (e.trans e')
 |brk ρ M=>exact fun σ' H' α' e'=>h σ' H' α' (e.trans e')
 |cnt ρ M=>exact fun σ' H' α' e'=>h σ' H' α' (e.trans e')
 |ret d M=>exact fun v H' α' e'=>h v H' α' (e.trans e')
 |exc c M=>exact fun C H' α' n e'=>h C H' α' n (e.trans e')
 |bad=>exact h
def DS(X:Cx)(ξ:XK)(st:Stmt)(g:Sv):Prop:=∃t:TS,PS X st t/\∀σ ρ H α M Dn,SR X.K H α σ ρ->HR X.K H α M->FP X.K H α ξ Dn (g ρ M)->t Dn σ H
def DSs(X:Cx)(ξ:XK)(st:List Stmt)(g:Sv):Prop:=∃t:TS,PSs X st t/\∀σ ρ H α M Dn,SR X.K H α σ ρ->HR X.K H α M->FP X.K H α ξ Dn (g ρ M)->t Dn σ H
noncomputable def Zaf(o:Out β)(k:β->Sto->Fl):Fl:=match o with
 |.ok a M=>k a M
 |.exc c M=>.exc c M
 |.bad=>.bad
theorem FP.seq{K:Fg}{R:Hp->List Addr->γ->β->Prop}{Q1:γ->Hp->Prop}{o:Out β}{f:β->Sto->Fl}(h:FP K H α ξ Dn (Zaf o f))(k:∀d M' v H' α',Ext K H H' α α'->HR K H' α' M'->R H' α' v d->FP K H' α' ξ Dn (f d M')->Q1 v H'):OG K R H α ξ Q1 o:=by
 cases o with
 |ok d M'=>exact fun v H' α' e hr r=>k d M' v H' α' e hr r (FP.ext (o:=f d M') h e)
 |exc c M'=>exact h
 |bad=>exact h
noncomputable def Zv(g h:Sv):Sv:=fun ρ M=>match g ρ M with
 |.nx ρ1 M1=>h ρ1 M1
 |o=>o
noncomputable def sNil:Sv:=fun ρ M=>.nx ρ M
def ZE(f:Ev):Sv:=fun ρ M=>Zaf (f ρ M) fun d M1=>.ret d M1
noncomputable def Zeu:Sv:=fun _ M=>.ret .non M
def Zcr(f:Ev):Sv:=fun ρ M=>Zaf (f ρ M) fun _ M1=>.nx ρ M1
def sIf(c:Tv)(g h:Sv):Sv:=fun ρ M=>Zaf (c ρ M) fun k M1=>if k=true then g ρ M1 else h ρ M1
abbrev Tg:=D->Ro->Option Ro
abbrev Tgs:=List D->Ro->Option Ro
noncomputable def gNm(i:Nat):Tg:=fun d ρ=>some (ρ.set i (some d))
noncomputable def gNl:Tgs:=fun ds ρ=>match ds with|[]=>some ρ|_=>none
noncomputable def gCs(g:Tg)(gs:Tgs):Tgs:=fun ds ρ=>match ds with|d::r=>(match g d ρ with|some ρ1=>gs r ρ1|none=>none)|[]=>none
noncomputable def gTp(gs:Tgs):Tg:=fun d ρ=>match d with|.tup ds=>gs ds ρ|_=>none
def ZF(g:Tg)(f:Ev):Sv:=fun ρ M=>Zaf (f ρ M) fun d M1=>match g d ρ with|some ρ1=>.nx ρ1 M1|none=>.bad
def Zd3(i j:Nat)(fs:Av):Sv:=fun ρ M=>Zaf (fs ρ M) fun ds M1=>match ds with|[v,w]=>.nx ((ρ.set i (some v)).set j (some w)) M1|_=>.bad
def Zfq(fo fi fe:Ev):Sv:=fun ρ M=>Zaf (fe ρ M) fun d M1=>Zaf (fo ρ M1) fun o M2=>Zaf (fi ρ M2) fun i M3=>match o,i with
 |.ref n,.int k=>(match M3[n]? with
  |some (.lst xs)=>(match ixN xs.length k with|some j=>.nx ρ (M3.set n (.lst (xs.set j d)))|none=>.bad)
  |_=>.bad)
 |_,_=>.bad
section
variable {X:Cx}{ξ:XK}{st:Stmt}{g:Sv}{e:Expr}{c:Expr}
theorem Zr:DSs X ξ [] sNil:=⟨_,Zme,fun σ ρ H α M Dn s h q=>q σ H α Ext.refl h s⟩
theorem Zf(h1:DS X ξ st g)(h2:DSs X ξ sts h):DSs X ξ (st::sts) (Zv g h):=by
 obtain⟨t1,p1,q1⟩:=h1;obtain⟨t2,p2,q2⟩:=h2;refine⟨_,Zen p1 p2,fun σ ρ H α M Dn s hh q=>q1 σ ρ H α M {Dn with nx:=t2 Dn} s hh ?_⟩;unfold Zv at q;cases e:g ρ M with
 |nx ρ1 M1=>rw[e]at q;exact fun σ' H' α' ex hr sr=>q2 σ' ρ1 H' α' M1 Dn sr hr (FP.ext q ex)
 |brk ρ1 M1=>rw[e]at q;exact q
 |cnt ρ1 M1=>rw[e]at q;exact q
 |ret d M1=>rw[e]at q;exact q
 |exc c M1=>rw[e]at q;exact q
 |bad=>rw[e]at q;exact q
theorem Zi(h1:DS X ξ st g):DSs X ξ [st] g:=let ⟨_,p,q⟩:=h1;⟨_,Zh2 p,q⟩
theorem Zm(he:DE X ξ e f):DS X ξ (.Return (some e) pos) (ZE f):=by
 obtain⟨t,p,q⟩:=he;exact⟨_,Zob p,fun σ ρ H α M Dn s hh w=>q σ ρ H α M _ s hh (FP.seq w fun d M1 v H1 α1 e1 h1 r1 w1=>w1 v H1 α1 Ext.refl h1 r1)⟩
theorem Zf4(he:DE X ξ e f)(hs:autoParam (gL e none pos.line X.env=pure false) Qrf._auto_1):DS X ξ (.Expr e pos) (Zcr f):=by
 obtain⟨t,p,q⟩:=he;exact⟨_,Zh3 p hs,fun σ ρ H α M Dn s hh w=>q σ ρ H α M _ s hh (FP.seq w fun d M1 v H1 α1 e1 h1 r1 w1=>w1 σ H1 α1 Ext.refl h1 (s.mono e1))⟩
theorem ZG(hc:DT X ξ c fc)(ha:DSs X ξ a g)(hb:DSs X ξ b h):DS X ξ (.If c a b pos) (sIf fc g h):=by
 obtain⟨tc,pc,qc⟩:=hc;obtain⟨ta,pa,qa⟩:=ha;obtain⟨tb,pb,qb⟩:=hb;refine⟨_,Zrr pc pa pb,fun σ ρ H α M Dn s hh w=>qc σ ρ H α M _ s hh (FP.seq w fun k M1 v H1 α1 e1 h1 r1 w1=>?_)⟩;cases r1;cases k with
 |true=>exact Zkh (qa σ ρ H1 α1 M1 Dn (s.mono e1) h1 w1)
 |false=>exact Zkg (qb σ ρ H1 α1 M1 Dn (s.mono e1) h1 w1)
def DG(X:Cx)(tg:Expr)(g:Tg):Prop:=∃t:TG,PG X tg t/\∀v d σ ρ H α ρ' Q,SR X.K H α σ ρ->Rep X.K H α v d->g d ρ=some ρ'->(∀σ',SR X.K H α σ' ρ'->Q σ' H)->t v σ H Q
def DGs(X:Cx)(tgs:List Expr)(g:Tgs):Prop:=∃t:TGs,PGs X tgs t/\∀vs ds σ ρ H α ρ' Q,SR X.K H α σ ρ->Reps X.K H α vs ds->g ds ρ=some ρ'->(∀σ',SR X.K H α σ' ρ'->Q σ' H)->t vs σ H Q
theorem Zu(i:Nat)(hN:X.N.Nodup)(hi:autoParam (X.N[i]?=some x) Qrf._auto_1)(hx:Loc X.env.scope x:=by first|exact dw rfl|exact hX rfl)(hm:autoParam (X.may i=true) Qrf._auto_1)(hf:X.fn x=true\/X.env.scope.names.lookup x=some .local:=by first|exact .inl rfl|exact .inr rfl|assumption):DG X (.Name x pos) (gNm i):=by
 refine⟨_,Zmf hN hi hx hm hf,fun v d σ ρ H α ρ' Q s r e k=>?_⟩;cases e;exact k _ (s.set i r)
theorem ZcK:DGs X [] gNl:=by
 refine⟨_,Zmg,fun vs ds σ ρ H α ρ' Q s r e k=>?_⟩;cases r with
 |nil=>cases e;exact⟨rfl,k _ s⟩
 |cons _ _=>cases e
theorem ZZ{g:Tg}(h1:DG X e g)(h2:DGs X es gs)(hs:autoParam ((dD (e::es) X.env).map (·.2)=assign e X.env::(dD es X.env).map (·.2)) Qrf._auto_1):DGs X (e::es) (gCs g gs):=by
 obtain⟨t1,p1,q1⟩:=h1;obtain⟨t2,p2,q2⟩:=h2;refine⟨_,Zj8 p1 p2 hs,fun vs ds σ ρ H α ρ' Q s r e k=>?_⟩;cases r with
 |nil=>cases e
 |cons r rr=>
  rename_i v d vs ds;cases e1:g d ρ with
  |none=>simp only[gCs,e1]at e;cases e
  |some ρ1=>
   simp only[gCs,e1]at e;exact⟨v,vs,rfl,q1 v d σ ρ H α ρ1 _ s r e1 fun σ' s'=>q2 vs ds σ' ρ1 H α ρ' Q s' rr e k⟩
theorem Zea(hc:X.calm=true)(h:DGs X es gs)(hn:autoParam ((dD es X.env).length=n) Qrf._auto_1)(hlen:∀ds ρ ρ',gs ds ρ=some ρ'->ds.length=n)(hst:autoParam ((dD es X.env).findIdx? (·.1)=none) Qrf._auto_1):DG X (.Tuple es k pos) (gTp gs):=by
 obtain⟨t,p,q⟩:=h;refine⟨_,Zod hc p hn hst,fun v d σ ρ H α ρ' Q s r e k=>?_⟩;cases r with
 |@tup a xs ds hp rp=>
  have e':gs ds ρ=some ρ':=e;exact⟨a,xs,rfl,(SqT.of hp),by rw[rp.length];exact hlen ds ρ ρ' e',q xs ds σ ρ H α ρ' Q s rp e' k⟩
 |_=>cases e
theorem ZcL(h:gNl ds ρ=some ρ'):ds.length=0:=by cases ds with|nil=>rfl|cons _ _=>cases h
theorem Zaw{g:Tg}(h:∀ds ρ ρ',gs ds ρ=some ρ'->ds.length=n)(ds:List D)(ρ ρ':Ro)(e:gCs g gs ds ρ=some ρ'):ds.length=n+1:=by
 cases ds with
 |nil=>cases e
 |cons d r=>
  cases e1:g d ρ with
  |none=>simp only[gCs,e1]at e;cases e
  |some ρ1=>simp only[gCs,e1]at e;rw[ao,h r ρ1 ρ' e]
theorem Zt(i:Nat)(hN:X.N.Nodup)(he:DE X ξ e f)(hi:autoParam (X.N[i]?=some x) Qrf._auto_1)(hx:Loc X.env.scope x:=by first|exact dw rfl|exact hX rfl)(hm:autoParam (X.may i=true) Qrf._auto_1)(hs:autoParam (gL e (some (.Name x pos')) pos.line X.env=pure false) Qrf._auto_1)(hf:X.fn x=true\/X.env.scope.names.lookup x=some .local:=by first|exact .inl rfl|exact .inr rfl|assumption) :
  DS X ξ (.Assign [.Name x pos'] e pos) (ZF (gNm i) f):=by
 obtain⟨t,p,q⟩:=he;exact⟨_,Zof hN hi hx hm p hs hf,fun σ ρ H α M Dn s hh w=>q σ ρ H α M _ s hh (FP.seq w fun d M1 v H1 α1 e1 h1 r1 w1=>w1 _ H1 α1 Ext.refl h1 ((s.mono e1).set i r1))⟩
theorem ZoS(he:DE X ξ e f)(hg:DG X tg gt)(hs:autoParam (gU [tg] e pos.line X.env=pure false) Qrf._auto_1)(hw:autoParam (gW [tg] e X.env=pure none) Qrf._auto_1)(h1:autoParam ((dD [tg] X.env).map (·.2)=[assign tg X.env]) Qrf._auto_1):DS X ξ (.Assign [tg] e pos) (ZF gt f):=by
 obtain⟨t,p,q⟩:=he;obtain⟨tt,pt,qt⟩:=hg;refine⟨_,Zlk p pt hs hw h1,fun σ ρ H α M Dn s hh w=>q σ ρ H α M _ s hh (FP.seq w fun d M1 v H1 α1 e1 h1 r1 w1=>?_)⟩;cases eg:gt d ρ with
 |none=>simp only[eg]at w1;exact w1.elim
 |some ρ1=>
  simp only[eg]at w1;exact qt v d σ ρ H1 α1 ρ1 _ (s.mono e1) r1 eg fun σ' s'=>w1 σ' H1 α1 Ext.refl h1 s'
theorem Zeb(i j:Nat){kt k2 pt2}(hc:X.calm=true)(hN:X.N.Nodup)(ha:DA X ξ [a,b] fs)(hi:autoParam (X.N[i]?=some x) Qrf._auto_1)(hj:autoParam (X.N[j]?=some y) Qrf._auto_1)(mi:autoParam (X.may i=true) Qrf._auto_1)(mj:autoParam (X.may j=true) Qrf._auto_1)(hij:autoParam (i≠j) Qde._auto_1)(hx:autoParam (X.env.scope.names.lookup x=some .local) Qrf._auto_1)(hy:autoParam (X.env.scope.names.lookup y=some .local) Qrf._auto_1)(hw:autoParam (gW [.Tuple [.Name x px,.Name y py] kt pt] (.Tuple [a,b] k2 pt2) X.env=pure (some [x,y])) Qrf._auto_1)(hs:autoParam (gU [.Tuple [.Name x px,.Name y py] kt pt] (.Tuple [a,b] k2 pt2) pos.line X.env=pure false) Qrf._auto_1) :
  DS X ξ (.Assign [.Tuple [.Name x px,.Name y py] kt pt] (.Tuple [a,b] k2 pt2) pos) (Zd3 i j fs):=by
 obtain⟨t,p,q⟩:=ha;refine⟨_,Zog hc mi mj hN hi hj hij hx hy p hw hs,fun σ ρ H α M Dn s hh w=>q σ ρ H α M _ s hh (FP.seq w fun ds M1 vs H1 α1 e1 h1 r1 w1=>?_)⟩;cases r1 with
 |nil=>exact w1.elim
 |cons r t=>
  cases t with
  |nil=>exact w1.elim
  |cons r' t=>
   cases t with
   |cons _ _=>exact w1.elim
   |nil=>exact⟨_,_,rfl,w1 _ H1 α1 Ext.refl h1 (((s.mono e1).set i r).set j r')⟩
theorem ZiA(ho:DE X ξ o fo)(hi:DE X ξ i fi)(he:DE X ξ e f)(ha:∀v,assign (.Subscript o i pos') X.env v=(do
   let ov <-holding [v] (eval o X.env)
   let iv <-holding [v,ov] (eval i X.env)
   standAt pos'
   holding [v,ov,iv] (setItem ov iv v)
   release [v,ov,iv] []):=by intro _;rfl) (hs:gU [.Subscript o i pos'] e pos.line X.env=pure false:=by rfl) (hw:gW [.Subscript o i pos'] e X.env=pure none:=by rfl) (h1:(dD [.Subscript o i pos'] X.env).map (·.2)=[assign (.Subscript o i pos') X.env]:=by rfl):DS X ξ (.Assign [.Subscript o i pos'] e pos) (Zfq fo fi f):=by
 obtain⟨t,p,q⟩:=he;obtain⟨to,po,qo⟩:=ho;obtain⟨ti,pi,qi⟩:=hi;refine⟨_,Zlk p (Zoe po pi Zkf ha) hs hw h1,fun σ ρ H α M Dn s hh w=>q σ ρ H α M _ s hh (FP.seq w fun d M1 v H1 α1 e1 h1 r1 w1=>?_)⟩;refine qo σ ρ H1 α1 M1 _ (s.mono e1) h1 (FP.seq w1 fun od M2 ov H2 α2 e2 h2 r2 w2=>?_);refine qi σ ρ H2 α2 M2 _ ((s.mono e1).mono e2) h2 (FP.seq w2 fun kd M3 kv H3 α3 e3 h3 r3 w3=>?_);cases Rep.mono e3 r2 with
 |@ref p n hp=>
  cases r3 with
  |int k=>
   cases em:M3[n]? with
   |none=>simp only[em]at w3;exact w3.elim
   |some so=>
    cases so with
    |lst ds=>
     cases ej:ixN ds.length k with
     |none=>simp only[em,ej]at w3;exact w3.elim
     |some j=>
      simp only[em,ej]at w3;obtain⟨xs,g1,g2⟩:=h3.at hp em;refine⟨p,xs,k,j,rfl,rfl,g1,by rw[g2.length];exact ej,?_⟩
      exact w3 σ _ α3 (Ext.wr g1) (h3.wr hp g1 (Reps.set (Rep.mono e3 (Rep.mono e2 r1)) j g2)) ((((s.mono e1).mono e2).mono e3).mono (Ext.wr g1))
  |_=>exact w3.elim
 |_=>exact w3.elim
noncomputable def whN(c:Tv)(g:Sv):Nat->Ro->Sto->Option Fl
 |0,_,_=>none
 |n+1,ρ,M=>match c ρ M with
  |.ok true M1=>(match g ρ M1 with
   |.nx ρ2 M2=>whN c g n ρ2 M2
   |.cnt ρ2 M2=>whN c g n ρ2 M2
   |.brk ρ2 M2=>some (.nx ρ2 M2)
   |o=>some o)
  |.ok false M1=>some (.nx ρ M1)
  |.exc e M1=>some (.exc e M1)
  |.bad=>some .bad
theorem Zdd{c:Tv}{g:Sv}:∀{n:Nat}{ρ:Ro}{M:Sto}{o:Fl},whN c g n ρ M=some o->∀k,whN c g (n+k) ρ M=some o
 |0,_,_,_,e,_=>by simp only[whN]at e;cases e
 |n+1,ρ,M,o,e,k=>by
  have ek:n+1+k=(n+k)+1:=by lia
  rw[ek];unfold whN at e ⊢;cases ec:c ρ M with
  |bad=>rw[ec]at e;exact e
  |exc x M1=>rw[ec]at e;exact e
  |ok b M1=>
   rw[ec]at e;cases b with
   |false=>exact e
   |true=>
    cases eg:g ρ M1 with
    |nx ρ2 M2=>simp only[eg]at e ⊢;exact Zdd e k
    |cnt ρ2 M2=>simp only[eg]at e ⊢;exact Zdd e k
    |brk ρ2 M2=>simp only[eg]at e ⊢;exact e
    |ret d M2=>simp only[eg]at e ⊢;exact e
    |exc x M2=>simp only[eg]at e ⊢;exact e
    |bad=>simp only[eg]at e ⊢;exact e
open Classical in
def sWh(c:Tv)(g:Sv):Sv:=fun ρ M=>if h:∃o n,whN c g n ρ M=some o then Classical.choose h else .bad
theorem Zc2{c:Tv}{g:Sv}(e:whN c g n ρ M=some o):sWh c g ρ M=o:=by
 have hx:∃o n,whN c g n ρ M=some o:=⟨o,n,e⟩;unfold sWh;rw[dif_pos hx];obtain⟨m,em⟩:=Classical.choose_spec hx;have h1:=Zdd em n;have h2:=Zdd e m;rw[Nat.add_comm]at h2;rw[h1]at h2;exact aQ h2
theorem ZiB{c:Tv}{g:Sv}(e:sWh c g ρ M≠ .bad):∃n,whN c g n ρ M=some (sWh c g ρ M):=by
 by_cases hx:∃o n,whN c g n ρ M=some o
 ·obtain⟨o,n,h⟩:=hx;exact⟨n,by rw[Zc2 h];exact h⟩
 ·unfold sWh at e;rw[dif_neg hx]at e;exact absurd rfl e
theorem Zfr{c:Tv}{g:Sv}{M1:Sto}(h:c ρ M=.ok false M1):sWh c g ρ M=.nx ρ M1:=Zc2 (n:=1) (by simp only[whN,h])
theorem ZgE{c:Tv}{g:Sv}{M1 M2:Sto}(h:c ρ M=.ok true M1)(h2:g ρ M1=.nx ρ2 M2)(hb:sWh c g ρ2 M2≠ .bad):sWh c g ρ M=sWh c g ρ2 M2:=by
 obtain⟨n,e⟩:=ZiB hb;exact Zc2 (n:=n+1) (by simp only[whN,h,h2];exact e)
theorem Zev(hp:eV (az X.prog X.w) X.A X.env X.xe)(hc:DT X ξ c fc)(hb:DSs X ξ body g):DS X ξ (.While c body [] pos) (sWh fc g):=by
 obtain⟨tc,pc,qc⟩:=hc;obtain⟨tb,pb,qb⟩:=hb;refine⟨_,Zj9 hp pc pb,fun σ ρ H α M Dn s hh w=>?_⟩;have nb:sWh fc g ρ M≠ .bad:=fun z=>by rw[z]at w;exact w
 obtain⟨n,en⟩:=ZiB nb;generalize sWh fc g ρ M=o at w en;refine⟨fun m σ' H'=>∃ρ' α' M',Ext X.K H H' α α'/\SR X.K H' α' σ' ρ'/\HR X.K H' α' M'/\whN fc g m ρ' M'=some o,⟨n,ρ,α,M,Ext.refl,s,hh,en⟩,?_⟩;rintro m σ1 H1 ⟨ρ1,α1,M1,e1,s1,h1,en1⟩;cases m with
 |zero=>simp only[whN]at en1;cases en1
 |succ m=>
  refine qc σ1 ρ1 H1 α1 M1 _ s1 h1 ?_;unfold whN at en1;cases ec:fc ρ1 M1 with
  |bad=>rw[ec]at en1;cases en1;exact w.elim
  |exc x M2=>
   rw[ec]at en1;cases en1;exact fun C H' α' nn ex hr=>w C H' α' nn (e1.trans ex) hr
  |ok b M2=>
   rw[ec]at en1;intro v H2 α2 e2 h2 ev;cases ev;cases b with
   |false=>
    cases en1;exact Zkg (w σ1 H2 α2 (e1.trans e2) h2 (s1.mono e2))
   |true=>
    refine Zkh ⟨fun σ' H'=>∃ρ' α' M',Ext X.K H H' α α'/\SR X.K H' α' σ' ρ'/\HR X.K H' α' M'/\whN fc g m ρ' M'=some o,fun σ' H' z=>⟨m,eA m,z⟩,?_⟩;refine qb σ1 ρ1 H2 α2 M2 _ (s1.mono e2) h2 ?_;have e12:=e1.trans e2;cases eg:g ρ1 M2 with
    |nx ρ2 M3=>simp only[eg]at en1;exact fun σ' H' α' ex hr sr=>⟨ρ2,α',M3,e12.trans ex,sr,hr,en1⟩
    |cnt ρ2 M3=>simp only[eg]at en1;exact fun σ' H' α' ex hr sr=>⟨ρ2,α',M3,e12.trans ex,sr,hr,en1⟩
    |brk ρ2 M3=>simp only[eg]at en1;cases en1;exact fun σ' H' α' ex hr sr=>w σ' H' α' (e12.trans ex) hr sr
    |ret d M3=>simp only[eg]at en1;cases en1;exact fun v H' α' ex hr sr=>w v H' α' (e12.trans ex) hr sr
    |exc x M3=>simp only[eg]at en1;cases en1;exact fun C H' α' nn ex hr=>w C H' α' nn (e12.trans ex) hr
    |bad=>simp only[eg]at en1;cases en1;exact w.elim
noncomputable def ZhQ(tg:Tg)(g:Sv):List D->Ro->Sto->Fl
 |[],ρ,M=>.nx ρ M
 |d::r,ρ,M=>match tg d ρ with
  |none=>.bad
  |some ρ1=>(match g ρ1 M with
   |.nx ρ2 M2=>ZhQ tg g r ρ2 M2
   |.cnt ρ2 M2=>ZhQ tg g r ρ2 M2
   |.brk ρ2 M2=>.nx ρ2 M2
   |o=>o)
def Zbu(lo:Int)(n:Nat):List D:=(aJ n).map fun(i:Nat)=>D.int (lo+i)
def ZaF(tg:Tg)(fs:Av)(g:Sv):Sv:=fun ρ M=>Zaf (fs ρ M) fun ds M1=>match ds with
 |[.int j]=>if -(2^62)<=j/\j<2^62 then ZhQ tg g (Zbu 0 j.toNat) ρ M1 else .bad
 |_=>.bad
theorem ZgF{lo:Int}(h:i<n):(Zbu lo n)[i]?=some (.int (lo+i)):=by
 unfold Zbu;rw[a7,km h];rfl
theorem Zew{lo:Int}:(Zbu lo n).length=n:=by unfold Zbu;rw[ae,List.length_range]
theorem ZiC{lo:Int}(h:i<n):(Zbu lo n).drop i=.int (lo+i)::(Zbu lo n).drop (i+1):=by
 have hl:i<(Zbu lo n).length:=by rw[Zew];exact h
 have e:=ZgF (lo:=lo) h;rw[aq hl]at e;rw[dJ hl,aQ e]
theorem ZoT{tg:Expr}{gt:Tg}{tt:TG}{tb:TS}{k:Ro->Sto->Fl}(w:FP X.K H α ξ Dn o)(qt:∀v d σ ρ H α ρ' Q,SR X.K H α σ ρ->Rep X.K H α v d->gt d ρ=some ρ'->(∀σ',SR X.K H α σ' ρ'->Q σ' H)->tt v σ H Q)(qb:∀σ ρ H α M Dn,SR X.K H α σ ρ->HR X.K H α M->FP X.K H α ξ Dn (g ρ M)->tb Dn σ H){M1:Sto}(e1:Ext X.K H H1 α α1)(s1:SR X.K H1 α1 σ1 ρ1)(h1:HR X.K H1 α1 M1)(r:Rep X.K H1 α1 v d)(en:(match gt d ρ1 with|none=>Fl.bad|some ρ2=>(match g ρ2 M1 with|.nx ρ3 M3=>k ρ3 M3|.cnt ρ3 M3=>k ρ3 M3|.brk ρ3 M3=>.nx ρ3 M3|o=>o))=o)(hN:∀σ' H',(∃ρ' α' M',Ext X.K H H' α α'/\SR X.K H' α' σ' ρ'/\HR X.K H' α' M'/\k ρ' M'=o)->N σ' H'):tt v σ1 H1 fun σ2 H2=>tb {Dn with nx:=N,ct:=N,bk:=Dn.nx} σ2 H2:=by
 cases eg:gt d ρ1 with
 |none=>rw[eg]at en;cases en;exact w.elim
 |some ρ2=>
  simp only[eg]at en;refine qt v d σ1 ρ1 H1 α1 ρ2 _ s1 r eg fun σ2 s2=>qb σ2 ρ2 H1 α1 M1 _ s2 h1 ?_;cases ex:g ρ2 M1 with
  |nx ρ3 M3=>simp only[ex]at en;exact fun σ' H' α' e2 hr sr=>hN _ _ ⟨ρ3,α',M3,e1.trans e2,sr,hr,en⟩
  |cnt ρ3 M3=>simp only[ex]at en;exact fun σ' H' α' e2 hr sr=>hN _ _ ⟨ρ3,α',M3,e1.trans e2,sr,hr,en⟩
  |brk ρ3 M3=>simp only[ex]at en;cases en;exact fun σ' H' α' e2 hr sr=>w σ' H' α' (e1.trans e2) hr sr
  |ret d M3=>simp only[ex]at en;cases en;exact fun v H' α' e2 hr sr=>w v H' α' (e1.trans e2) hr sr
  |exc x M3=>simp only[ex]at en;cases en;exact fun C H' α' nn e2 hr=>w C H' α' nn (e1.trans e2) hr
  |bad=>simp only[ex]at en;cases en;exact w.elim
theorem ZoU{tg:Expr}{tt:TG}{tb:TS}{lo:Int}(qt:∀v d σ ρ H α ρ' Q,SR X.K H α σ ρ->Rep X.K H α v d->gt d ρ=some ρ'->(∀σ',SR X.K H α σ' ρ'->Q σ' H)->tt v σ H Q)(qb:∀σ ρ H α M Dn,SR X.K H α σ ρ->HR X.K H α M->FP X.K H α ξ Dn (g ρ M)->tb Dn σ H)(s:SR X.K H α σ ρ)(hh:HR X.K H α M)(w:FP X.K H α ξ Dn (ZhQ gt g (Zbu lo n) ρ M)):∃W:Nat->Nat->L2.St->Hp->Prop,(∃m,W 0 m σ H)/\∀i m σ H,W i m σ H->((Itr lo n).stop i H/\Dn.nx σ H)\/((Itr lo n).go i H/\∃N:L2.St->Hp->Prop,(∀σ' H',N σ' H'->∃m',m'<m/\W (i+1) m' σ' H')/\∀x H',(Itr lo n).yld i H x H'->tt x σ H' fun σ2 H2=>tb {Dn with nx:=N,ct:=N,bk:=Dn.nx} σ2 H2):=by
 generalize ho:ZhQ gt g (Zbu lo n) ρ M=o at w;refine Zh6 (fun i σ' H'=>∃ρ' α' M',Ext X.K H H' α α'/\SR X.K H' α' σ' ρ'/\HR X.K H' α' M'/\ZhQ gt g ((Zbu lo n).drop i) ρ' M'=o) ⟨ρ,α,M,Ext.refl,s,hh,ho⟩ ?_ ?_
 ·rintro i σ1 H1 hi ⟨ρ1,α1,M1,e1,s1,h1,en⟩;rw[ZiC hi]at en;exact ZoT (tg:=tg) w qt qb e1 s1 h1 (.int (lo+i)) en (fun σ' H' z=>z)
 ·rintro σ1 H1 ⟨ρ1,α1,M1,e1,s1,h1,en⟩;rw[a8 (by rw[Zew];exact au _)]at en
  cases en;exact w σ1 H1 α1 e1 h1 s1
theorem Zal(hp:eV (az X.prog X.w) X.A X.env X.xe)(hm:X.mg "range"=none)(ha:DA X ξ [a] fs)(hg:DG X tg gt)(hb:DSs X ξ body g)(hgl:autoParam (Gl X "range") Qrf._auto_1)(hs:autoParam (af [a] X.env=[(false,eval a X.env)]) Qrf._auto_1)(hf:autoParam (∀x,bY (.Call (.Name "range" p) [a] [] p2) X.env x=pure x) Qin._auto_1):DS X ξ (.For tg (.Call (.Name "range" p) [a] [] p2) body [] pos) (ZaF gt fs g):=by
 obtain⟨ta,pa,qa⟩:=ha;obtain⟨tt,pt,qt⟩:=hg;obtain⟨tb,pb,qb⟩:=hb;refine⟨_,Zll hp (Zfe hgl hm pa hs) pt pb hf,fun σ ρ H α M Dn s hh w=>qa σ ρ H α M _ s hh (FP.seq w fun ds M1 vs H1 α1 e1 h1 r1 w1=>?_)⟩;cases r1 with
 |nil=>exact w1.elim
 |cons r tz=>
  cases tz with
  |cons _ _=>cases r<;>exact w1.elim
  |nil=>
   cases r with
   |int j=>
    by_cases c: -(2^62)<=j/\j<2^62
    ·simp only[if_pos c]at w1;exact⟨j,rfl,c.1,c.2,ZoU (tg:=tg) qt qb (s.mono e1) h1 w1⟩
    ·simp only[if_neg c]at w1;exact w1.elim
   |_=>exact w1.elim
def Zua(K:Fg)(tl:TE):TI:=fun σ H R=>tl σ H fun x H1=>∃a,x=.ref a/\(((∃xs,SqL K H1 a xs)/\R (Itl K a) H1)\/((∃xs,SqT K H1 a xs)/\R (Itt K a) H1))
theorem ZoV(hl:PE X l tl):PI X tg l (Zua X.K tl):=by
 intro pins s σ H R I h;refine thn (hl pins s σ H _ I h) fun v s1 hz=>?_;obtain⟨x,H1,I1,r1,q1⟩:=hz;obtain⟨a,e,q⟩:=q1;subst e;cases r1;have fp:∀b∈[s1.heap.objs.size],Zd4 X pins H1 b:=fun b hb=>by
  have e:b=s1.heap.objs.size:=by simpa using hb
  subst e;exact I1.fpOk (au _) (I1.hok.fresh (au _))
 rcases q with⟨⟨xs,hq⟩,q⟩|⟨⟨xs,hq⟩,q⟩
 ·obtain⟨its,rv,p,hz⟩:=I1.list hq;refine wpAny_pyIter_list p.isList ?_;exact⟨s1.heap.objs.size,[s1.heap.objs.size],_,_,H1,rfl,I1.kept (t':=s1.toks) fun b o e=>Hq _ e,Zh4 a _,⟨_,aW _ rfl,rfl,rfl⟩,fp,q⟩
 ·obtain⟨its,rv,p,hz⟩:=I1.tuple hq;refine wpAny_pyIter_tuple (show s1.heap.IsTuple a its.toArray from p) ?_;exact⟨s1.heap.objs.size,[s1.heap.objs.size],_,_,H1,rfl,I1.kept (t':=s1.toks) fun b o e=>Hq _ e,Zhl a _,⟨_,aW _ rfl,rfl,rfl⟩,fp,q⟩
end
noncomputable def fnF(g:Sv)(n k:Nat):W3:=fun ds M=>if ds.length=n then(match g (ds.map some++aB k none) M with
 |.ret d M'=>.ok d M'
 |.nx _ M'=>.ok .non M'
 |.exc c M'=>.exc c M'
 |_=>.bad)else .bad
def spD(K:Fg)(F:W3):Sp:=fun vs H Q E=>∃ds α M,Reps K H α vs ds/\HR K H α M/\OP K H α E Q (F ds M)
theorem Zfs:∀{ds:List D}{k i:Nat}{d:D},(ds.map some++aB k none)[i]?=some (some d)->ds[i]?=some d
 |[],k,i,d,h=>by
  rw[dj,cO]at h
  have:=c8 h
  rw[iE]at this;cases this.2
 |x::r,k,0,d,h=>by simpa using h
 |x::r,k,i+1,d,h=>by
  rw[aL,aS,db]at h;rw[db];exact Zfs h
theorem SR.start{K:Fg}{H:Hp}{α:List Addr}{N:List Str}{vs:List V}{ds:List D}{k:Nat}(r:Reps K H α vs ds)(hk:k=N.length-ds.length):SR K H α (start N vs) (ds.map some++aB k none):=by
 unfold L2.start;refine⟨by simp only[aa,ae,aZ,r.length,hk],fun i d h=>?_⟩
 obtain⟨v,h1,h2⟩:=r.get (Zfs h);refine⟨v,?_,h2⟩;have hl:i<vs.length:=(aj.mp h1).1;rw[aH (by rw[ae];exact hl),a7,h1]
 rfl
section
variable {P:cF}{K:Fg}
theorem ZoW{st:Stmt}(F:Fun K x qual st f fd)(S:FnScope N ps (Zz st))(hn:n=ps.length)(hm:m=N.length-n)(hb:∀(cdv:ah)(A:dc)(outer:List Env)(s:aC)(H:Hp)(E:XK),Room k (A.deeper (iQ qual (Zz st) s.heap.objs.size f cdv))->Thr (Zhq (CXE P w) P w K mg base N qual (Zz st) f cdv A outer s H E) E->DSs (Zhq (CXE P w) P w K mg base N qual (Zz st) f cdv A outer s H E) E (Zad st) g):FnOk P w K mg base (CXE P w) (k+1) f fd ps (spD K (fnF g n m)):=by
 obtain⟨oc,od,kV,doc,pm,an,cdv,ct,osl,rfl,lk,hcd⟩:=F.ex;refine Zml lk hcd S (fun vs H Q E h=>?_) (fun A outer s H vs Q E hr h=>?_)
 ·obtain⟨ds,α,M,r,_,q⟩:=h;by_cases c:ds.length=n
  ·rw[r.length,c,hn]
  ·simp only[fnF,if_neg c]at q;exact q.elim
 ·obtain⟨ds,α,M,r,hh,q⟩:=h;obtain⟨t,p,w'⟩:=hb cdv A outer s H E hr Zlx;by_cases c:ds.length=n
  ·simp only[fnF,if_pos c]at q;refine⟨t,p,w' _ _ H α M _ (SR.start (N:=N) r (k:=m) (by rw[hm,c])) hh ?_⟩
   cases e:g (ds.map some++aB m none) M with
   |nx ρ' M'=>simp only[e]at q;exact fun σ' H' α' ex hr sr=>q _ H' α' ex hr .non
   |ret d M'=>simp only[e]at q;exact q
   |exc x M'=>simp only[e]at q;exact q
   |brk ρ' M'=>simp only[e]at q;exact q.elim
   |cnt ρ' M'=>simp only[e]at q;exact q.elim
   |bad=>simp only[e]at q;exact q.elim
  ·simp only[fnF,if_neg c]at q;exact q.elim
end
theorem ZmE(G:FnOk X.prog X.w X.K X.mg X.base (CXE X.prog X.w) k f fd ps (spD X.K F))(T:Thr X ξ)(hr:Room k X.A)(hm:X.mg x=some (.ref f))(hk:PySem.W.keepIn X.K (.ref f)=true)(hb:Zeo X.K fd ps [])(ha:DA X ξ (e::es) fs)(hg:autoParam (Gl X x) Qrf._auto_1)
  (hdb:(x==("__debug__":Str))=false:=by decide) (he:af (e::es) X.env=(false,eval e X.env)::af es X.env:=by rfl) (hpl:(bT pos (af es X.env)).any (·.1)=false:=by rfl):DE X ξ (.Call (.Name x p) (e::es) [] pos) (Zj F fs):=by
 obtain⟨t,pa,qa⟩:=ha;refine⟨_,Zmk G hr hg hm hk hb .nil T.ps pa hdb he hpl,fun σ ρ H α M Q s hh q=>qa σ ρ H α M _ s hh (OG.seq q fun ds M1 vs H1 α1 e1 h1 r1 q1=>?_)⟩;rw[aY];exact⟨ds,α1,M1,r1,h1,q1⟩
end DL
namespace DL
open PyProof.Rows L2
theorem Zcs:bB "abs"=some (.builtin "abs"):=by decide +kernel
theorem Zct:bB "int"=some (.type "int"):=by decide +kernel
theorem ZiD:bB "bool"=some (.type "bool"):=by decide +kernel
theorem Zdv:bB "str"=some (.type "str"):=by decide +kernel
theorem Zex:bB "list"=some (.type "list"):=by decide +kernel
theorem Za9:bB "tuple"=some (.type "tuple"):=by decide +kernel
theorem ZoX:bB "max"=some (.builtin "max"):=by decide +kernel
theorem ZoY:bB "min"=some (.builtin "min"):=by decide +kernel
theorem Zly:bB "all"=some (.builtin "all"):=by decide +kernel
def Cal(P:cF)(w:df)(K:Fg)(mg:Str->Option ah)(base:Heap)(x:Str)(k n:Nat)(F:W3):Prop:=
 ∃(f:Addr) (fd:gq) (ps:List Str),FnOk P w K mg base (CXE P w) k f fd ps (spD K F)/\mg x=some (.ref f)/\PySem.W.keepIn K (.ref f)=true/\ps.length=n/\Zeo K fd ps []
theorem ZgG(C:Cal X.prog X.w X.K X.mg X.base x k n F)(T:Thr X ξ)(hr:Room k X.A)(ha:DA X ξ (e::es) fs)(hg:autoParam (Gl X x) Qrf._auto_1)(hdb:autoParam ((x==("__debug__":Str))=false) Qde._auto_1)(he:autoParam (af (e::es) X.env=(false,eval e X.env)::af es X.env) Qrf._auto_1)(hpl:autoParam ((bT pos (af es X.env)).any (·.1)=false) Qrf._auto_1):DE X ξ (.Call (.Name x p) (e::es) [] pos) (Zj F fs):=by
 obtain⟨f,fd,ps,G,hm,hk,_,hb⟩:=C;exact ZmE G T hr hm hk hb ha hg hdb he hpl
end DL
namespace DL
open PyProof.Rows L2
noncomputable def bl:List Str:=["ValueError","abs","all","any","bool","dict","enumerate","int","isinstance","len","list","max","min","range","repr","reversed","sorted","str","sum","tuple","zip"]
structure Bs(mg:Str->Option ah):Prop where
 b_ValueError:mg "ValueError"=none
 b_abs:mg "abs"=none
 b_all:mg "all"=none
 b_any:mg "any"=none
 b_bool:mg "bool"=none
 b_dict:mg "dict"=none
 b_enumerate:mg "enumerate"=none
 b_int:mg "int"=none
 b_isinstance:mg "isinstance"=none
 b_len:mg "len"=none
 b_list:mg "list"=none
 b_max:mg "max"=none
 b_min:mg "min"=none
 b_range:mg "range"=none
 b_repr:mg "repr"=none
 b_reversed:mg "reversed"=none
 b_sorted:mg "sorted"=none
 b_str:mg "str"=none
 b_sum:mg "sum"=none
 b_tuple:mg "tuple"=none
 b_zip:mg "zip"=none
theorem Bs.of{K:Fg}(X:K.In h)(G:h.Ns ai mg)(z:bl.map (PySem.W.nsIn K ai)=bl.map fun _=>some none):Bs mg:=by
 have q (x:Str) (m:x∈bl):mg x=none:=PySem.W.mg_none_of X G (List.map_inj_left.mp z x m)
 constructor<;>exact q _ (by decide +kernel)
noncomputable def Df(K:Fg)(x:Str)(st:Stmt):Prop:=∃f fd,PySem.W.nsIn K ai x=some (some (.ref f))/\Fun K x x st f fd
def Dfs(K:Fg)(p:Nat->Stmt)(L:List Rw):Prop:=
 L.map (fun r=>(PySem.W.nsIn K ai r.n,K.lookup r.f,PySem.W.codeIn K (.ref (r.f-1)) r.n,PySem.W.keepIn K (.ref r.f)))=L.map fun r=>(some (some (.ref r.f)),some (r.fo p),true,true)
theorem Dfs.of{K:Fg}(h:L.map (fun r=>(PySem.W.nsIn K ai r.n,K.lookup r.f,PySem.W.codeIn K (.ref (r.f-1)) r.n,PySem.W.keepIn K (.ref r.f)))=L.map fun r=>(some (some (.ref r.f)),some (r.fo p),true,true)):Dfs K p L:=h
theorem Dfs.at{K:Fg}(h:Dfs K p L)(j i:Nat)(e:autoParam ((L[j]?).map (fun r=>(bc r.n,r.i))=some (x,i)) Qrf._auto_1):Df K x (p i):=by
 obtain⟨r,m,e⟩:=eI.mp e;have q:=List.map_inj_left.mp h r (c8 m);cases e;simp only[gS]at q;exact⟨_,_,q.1,Zlr q.2.1 q.2.2.1 q.2.2.2⟩
section
variable {P:cF}{w:df}{K:Fg}{base:Heap}
theorem Zub{α:Type}{P:List α->Prop}(h:P []):∀us:List α,us.length=0->P us
 |[],_=>h
theorem Zuc{α:Type}{P:List α->Prop}(h:∀x0,P [x0]):∀us:List α,us.length=1->P us
 |[x0],_=>h x0
theorem Zud{α:Type}{P:List α->Prop}(h:∀x0 x1,P [x0,x1]):∀us:List α,us.length=2->P us
 |[x0,x1],_=>h x0 x1
theorem Ztj{α:Type}{P:List α->Prop}(h:∀x0 x1 x2,P [x0,x1,x2]):∀us:List α,us.length=3->P us
 |[x0,x1,x2],_=>h x0 x1 x2
theorem Zue{α:Type}{P:List α->Prop}(h:∀x0 x1 x2 x3,P [x0,x1,x2,x3]):∀us:List α,us.length=4->P us
 |[x0,x1,x2,x3],_=>h x0 x1 x2 x3
theorem Zuf{α:Type}{P:List α->Prop}(h:∀x0 x1 x2 x3 x4,P [x0,x1,x2,x3,x4]):∀us:List α,us.length=5->P us
 |[x0,x1,x2,x3,x4],_=>h x0 x1 x2 x3 x4
theorem Zug{α:Type}{P:List α->Prop}(h:∀x0 x1 x2 x3 x4 x5,P [x0,x1,x2,x3,x4,x5]):∀us:List α,us.length=6->P us
 |[x0,x1,x2,x3,x4,x5],_=>h x0 x1 x2 x3 x4 x5
theorem ZH{st:Stmt}(D:Df K x st)(gl:∀c v,PySem.W.nsIn K ai c=some (some v)->mg c=some v)(hb:∀(cdv:ah)(A:dc)(outer:List Env)(s:aC)(H:Hp)(E:XK)(f:Addr),N.Nodup->Room k (A.deeper (iQ x (Zz st) s.heap.objs.size f cdv))->Thr (Zhq (CXE P w) P w K mg base N x (Zz st) f cdv A outer s H E) E->DSs (Zhq (CXE P w) P w K mg base N x (Zz st) f cdv A outer s H E) E (Zad st) g)(h1:autoParam ((Zz st).kind=.function) Qrf._auto_1)(h2:autoParam ((Zz st).isCoroutine=false) Qrf._auto_1)(h3:autoParam ((Zz st).isGenerator=false) Qrf._auto_1)(h4:N.Nodup:=by decide +kernel)(h5:autoParam ((N.take n).length=n) Qrf._auto_1)(h6:∀y∈N.take n,(Zz st).names.lookup y=some .local\/(Zz st).names.lookup y=some .cell:=by decide +kernel)(h7:∀y∈(Zz st).names,y.2≠ .free:=by decide +kernel)(hm:autoParam (m=N.length-n) Qrf._auto_1)(bi:∀(kV doc pm:ah)(an:Option Addr)(cdv ct:ah)(us:List ah),us.length=n->bindArgs (PySem.W.fnOf x x (Za6 st) (Zad st) (Zz st) .none kV doc pm an cdv ct) ⟨us,[]⟩=pure ((N.take n).zip us):=by first|exact fun _ _ _ _ _ _=>Zuc fun _=>rfl|exact fun _ _ _ _ _ _=>Zud fun _ _=>rfl|exact fun _ _ _ _ _ _=>Ztj fun _ _ _=>rfl|exact fun _ _ _ _ _ _=>Zue fun _ _ _ _=>rfl|exact fun _ _ _ _ _ _=>Zuf fun _ _ _ _ _=>rfl|exact fun _ _ _ _ _ _=>Zug fun _ _ _ _ _ _=>rfl|exact fun _ _ _ _ _ _=>Zub rfl):Cal P w K mg base x (k+1) n (fnF g n m):=by
 obtain⟨f,fd,a,F⟩:=D;have S:FnScope N (N.take n) (Zz st):=⟨h1,h2,h3,h4,by rw[h5],h6,h7⟩
 exact⟨f,fd,N.take n,ZoW F S h5.symm hm (fun cdv A outer s H E hr θ=>hb cdv A outer s H E f h4 hr θ),gl _ _ a,F.kp,h5,F.binds (fun kV doc pm an cdv ct us hu=>bi kV doc pm an cdv ct us (hu.trans h5))⟩
theorem Zh(C:Cal X.prog X.w X.K X.mg X.base x k n F)(T:Thr X ξ)(hr:Room j X.A)(ha:DA X ξ (e::es) fs)(hj:autoParam (k<=j) Qde._auto_1)(hg:autoParam (Gl X x) Qrf._auto_1)(hdb:autoParam ((x==("__debug__":Str))=false) Qde._auto_1)(he:autoParam (af (e::es) X.env=(false,eval e X.env)::af es X.env) Qrf._auto_1)(hpl:autoParam ((bT pos (af es X.env)).any (·.1)=false) Qrf._auto_1):DE X ξ (.Call (.Name x p) (e::es) [] pos) (Zj F fs):=ZgG C T (hr.mono hj) ha hg hdb he hpl
theorem ZoZ{l:PySem.W.OpenLaw}{st:Stmt}(X:K.In h)(G:h.Ns ai mg)(hfa:mg "law"=some (.ref fa))(D:Df K "law" st)(b:∀(kV doc pm:ah)(an:Option Addr)(cdv ct:ah)(v:ah),bindArgs (PySem.W.fnOf "law" "law" (Za6 st) (Zad st) (Zz st) .none kV doc pm an cdv ct) ⟨[v],[]⟩=pure [(y,v)])(q:∀base fd,Fun K "law" "law" st fa fd->FnOk l.prog w K mg base (CXE l.prog w) k fa fd [y] (spD K F)):∃fd:gq,(∀(s:aC)(v:ah),j8 s fd ⟨[v],[]⟩ [(y,v)])/\∀base:Heap,K.In base->base.Ns ai mg->FnOk l.prog w K mg base (CXE l.prog w) k fa fd [y] (spD K F):=by
 obtain⟨f,fd,a,F⟩:=D;have e:=hfa.symm.trans (PySem.W.mg_of X G a);cases e;refine⟨fd,?_,fun base _ _=>q base fd F⟩;obtain⟨oc,od,kV,doc,pm,an,cdv,ct,osl,rfl,lk,hcd⟩:=F.ex;exact fun s v=>.of_eq (b kV doc pm an cdv ct v)
end
end DL
namespace DL
open PyProof.Rows L2
inductive Src where
 |pur (ds:List D)
 |sto (n:Nat)
 |zip (n m:Nat)
 |enu (n:Nat)
 |rev (n l:Nat)
 |zips (ns:List Nat)
 |dct (n:Nat)
 |zipT (n:Nat) (es:List D)
def ZiE(M:Sto)(i:Nat):List Nat->Option (Option (List D))
 |[]=>some (some [])
 |n::ns=>match M[n]? with
  |none=>none
  |some (.lst xs)=>match ZiE M i ns with
   |none=>none
   |some r=>match xs[i]?,r with|some x,some ds=>some (some (x::ds))|_,_=>some none
def nxt(src:Src)(i:Nat)(M:Sto):Option (Option D):=match src with
 |.pur ds=>some ds[i]?
 |.sto n=>match M[n]? with|some (.lst xs)=>some xs[i]?|none=>none
 |.zip n m=>match M[n]?,M[m]? with
  |some (.lst xs),some (.lst ys)=>(match xs[i]?,ys[i]? with|some x,some y=>some (some (.tup [x,y]))|_,_=>some none)
  |_,_=>none
 |.enu n=>match M[n]? with|some (.lst xs)=>(match xs[i]? with|some x=>some (some (.tup [.int i,x]))|none=>some none)|none=>none
 |.zipT n es=>match M[n]? with|some (.lst xs)=>(match xs[i]?,es[i]? with|some x,some y=>some (some (.tup [x,y]))|_,_=>some none)|none=>none
 |.dct n=>match M[n]? with|some (.lst (.non::r))=>(match r[i]? with|some (.tup (k::_))=>some (some k)|some _=>none|none=>some none)|_=>none
 |.zips ns=>match ZiE M i ns with|some (some ds)=>some (some (.tup ds))|some none=>some none|none=>none
 |.rev n l=>match M[n]? with|some (.lst xs)=>if i<l then(match xs[l-1-i]? with|some x=>some (some x)|none=>none)else(if i=l then some none else none)|none=>none
def cnt(src:Src)(M:Sto):Nat:=match src with
 |.pur ds=>ds.length
 |.sto n=>match M[n]? with|some (.lst xs)=>xs.length|none=>0
 |.zip n _=>match M[n]? with|some (.lst xs)=>xs.length|none=>0
 |.enu n=>match M[n]? with|some (.lst xs)=>xs.length|none=>0
 |.rev _ l=>l
 |.zipT n _=>match M[n]? with|some (.lst xs)=>xs.length|none=>0
 |.dct n=>match M[n]? with|some (.lst xs)=>xs.length|none=>0
 |.zips ns=>match ns with|n::_=>(match M[n]? with|some (.lst xs)=>xs.length|none=>0)|[]=>0
def Ats(H:Hp)(α:List Addr):List Nat->List Addr->Prop
 |[],[]=>True
 |n::ns,l::ls=>RefK H α 0 n l/\Ats H α ns ls
 |_,_=>False
def ZnS(K:Fg)(H:Hp)(α:List Addr)(J:It)(src:Src):Prop:=∀(i:Nat) H' α' M',Ext K H H' α α'->HR K H' α' M'->match nxt src i M' with
 |some none=>J.stop i H'
 |some (some d)=>J.go i H'/\∀x H'',J.yld i H' x H''->Ext K H' H'' α' α'/\HR K H'' α' M'/\Rep K H'' α' x d
 |none=>True
def DI(X:Cx)(ξ:XK)(tg iter:Expr)(f:Ro->Sto->Out Src):Prop:=∃wi:TI,PI X tg iter wi/\∀σ ρ H α M R,SR X.K H α σ ρ->HR X.K H α M->OG X.K (ZnS X.K) H α ξ R (f ρ M)->wi σ H R
def iR1(fs:Av):Ro->Sto->Out Src:=fun ρ M=>(fs ρ M).bind fun ds M1=>match ds with
 |[.int j]=>if -(2^62)<=j/\j<2^62 then .ok (.pur (Zbu 0 j.toNat)) M1 else .bad
 |_=>.bad
theorem Zhv{K:Fg}{lo:Int}:ZnS K H α (Itr lo n) (.pur (Zbu lo n)):=by
 intro i H' α' M' ex hr;show match some (Zbu lo n)[i]? with|some none=>_|some (some d)=>_|none=>True
 by_cases h:i<n
 ·rw[ZgF h];refine⟨h,fun x H'' y=>?_⟩;obtain⟨e1,e2⟩:=y;subst e1 e2;exact⟨Ext.refl,hr,.int _⟩
 ·rw[aU (by rw[Zew];lia)]
  exact Nat.le_of_not_lt h
theorem Zft(hm:X.mg "range"=none)(ha:DA X ξ [a] fs)(hgl:autoParam (Gl X "range") Qrf._auto_1)(hs:autoParam (af [a] X.env=[(false,eval a X.env)]) Qrf._auto_1):DI X ξ tg (.Call (.Name "range" p) [a] [] pos) (iR1 fs):=by
 obtain⟨ta,pa,qa⟩:=ha;refine⟨_,Zfe hgl hm pa hs,fun σ ρ H α M R s hh q=>qa σ ρ H α M _ s hh (OG.seq q fun ds M1 vs H1 α1 e1 h1 r1 w1=>?_)⟩;cases r1 with
 |nil=>exact w1.elim
 |cons r tz=>
  cases tz with
  |cons _ _=>cases r<;>exact w1.elim
  |nil=>
   cases r with
   |int j=>
    by_cases c: -(2^62)<=j/\j<2^62
    ·simp only[if_pos c]at w1;exact⟨j,rfl,c.1,c.2,w1 _ H1 α1 Ext.refl h1 Zhv⟩
    ·simp only[if_neg c]at w1;exact w1.elim
   |_=>exact w1.elim
def iSq(f:Ev):Ro->Sto->Out Src:=fun ρ M=>(f ρ M).bind fun d M1=>match d with
 |.tup ds=>.ok (.pur ds) M1
 |.rol ds=>.ok (.pur ds) M1
 |.con ds=>.ok (.pur ds) M1
 |.ref n=>.ok (.sto n) M1
 |_=>.bad
theorem Za1(ha:DE X ξ a f):DI X ξ tg a (iSq f):=by
 obtain⟨ta,pa,qa⟩:=ha;refine⟨_,ZoV pa,fun σ ρ H α M R s hh q=>qa σ ρ H α M _ s hh (OG.seq q fun d M1 v H1 α1 e1 h1 r1 w1=>?_)⟩;cases r1 with
 |@tup p xs ds hp rp=>
  refine⟨p,rfl,.inr ⟨⟨xs,(SqT.of hp)⟩,w1 (Itt X.K p) H1 α1 Ext.refl h1 ?_⟩⟩;intro i H' α' M' ex hr;show match some ds[i]? with|some none=>_|some (some d)=>_|none=>True
  cases ei:ds[i]? with
  |none=>exact⟨xs,SqT.of (ex.tup _ _ hp),by rw[rp.length];exact cj.mp ei⟩
  |some d=>
   obtain⟨v,k1,k2⟩:=rp.get ei;refine⟨⟨xs,v,SqT.of (ex.tup _ _ hp),k1⟩,fun x H'' y=>?_⟩;obtain⟨ey,y⟩:=y;have z:=y xs (SqT.of (ex.tup _ _ hp));rw[k1]at z;cases z;subst ey;exact⟨Ext.refl,hr,Rep.mono ex k2⟩
 |@con p xs ds hp rp=>
  refine⟨p,rfl,.inr ⟨⟨xs,hp.sq⟩,w1 (Itt X.K p) H1 α1 Ext.refl h1 ?_⟩⟩;intro i H' α' M' ex hr;show match some ds[i]? with|some none=>_|some (some d)=>_|none=>True
  cases ei:ds[i]? with
  |none=>exact⟨xs,hp.sq,by rw[rp.length];exact cj.mp ei⟩
  |some d=>
   obtain⟨v,k1,k2⟩:=rp.get ei;refine⟨⟨xs,v,hp.sq,k1⟩,fun x H'' y=>?_⟩;obtain⟨ey,y⟩:=y;have z:=y xs hp.sq;rw[k1]at z;cases z;subst ey;exact⟨Ext.refl,hr,Rep.mono ex k2⟩
 |@rol p xs ds hp rp=>
  refine⟨p,rfl,.inl ⟨⟨xs,hp.sq⟩,w1 (Itl X.K p) H1 α1 Ext.refl h1 ?_⟩⟩;intro i H' α' M' ex hr;show match some ds[i]? with|some none=>_|some (some d)=>_|none=>True
  have hq:=(ex.rol _ _ hp).sq;cases ei:ds[i]? with
  |none=>exact⟨xs,hq,by rw[rp.length];exact cj.mp ei⟩
  |some d=>
   obtain⟨v,k1,k2⟩:=rp.get ei;refine⟨⟨xs,v,hq,k1⟩,fun x H'' y=>?_⟩;obtain⟨ey,y⟩:=y;have z:=y xs hq;rw[k1]at z;cases z;subst ey;exact⟨Ext.refl,hr,Rep.mono ex k2⟩
 |@ref p n hp=>
  obtain⟨xs0,g0⟩:=h1.some_at hp;refine⟨p,rfl,.inl ⟨⟨xs0,SqL.of g0⟩,w1 (Itl X.K p) H1 α1 Ext.refl h1 ?_⟩⟩;intro i H' α' M' ex hr;show match(match M'[n]? with|some (.lst xs)=>some xs[i]?|none=>none)with|some none=>_|some (some d)=>_|none=>True
  cases em:M'[n]? with
  |none=>exact gN
  |some so=>
   cases so with
   |lst ds=>
    obtain⟨xs,g1,g2⟩:=hr.at (ex.get hp) em;show match some ds[i]? with|some none=>_|some (some d)=>_|none=>True
    cases ei:ds[i]? with
    |none=>exact⟨xs,SqL.of g1,by rw[g2.length];exact cj.mp ei⟩
    |some d=>
     obtain⟨v,k1,k2⟩:=g2.get ei;refine⟨⟨xs,v,SqL.of g1,k1⟩,fun x H'' y=>?_⟩;obtain⟨ey,y⟩:=y;have z:=y xs (SqL.of g1);rw[k1]at z;cases z;subst ey;exact⟨Ext.refl,hr,k2⟩
 |_=>exact w1.elim
theorem ZaG:∀(names:List (Str×c7)) (n:Nat) (acc:List (Str×Addr)),bD n names acc=bD n names []++acc
 |[],_,_=>rfl
 | (x,kd)::r,n,acc=>by
  unfold bD;split
  ·rw[ZaG r (n+1) ((x,n)::acc),ZaG r (n+1) [(x,n)]];simp
  ·exact ZaG r n acc
theorem Zb5:∀(names:List (Str×c7)) (n:Nat) (x:Str) (c:Addr),(x,c)∈bD n names []->(x,dY)∈names
 |[],_,_,_,h=>by simp[bD]at h
 | (y,kd)::r,n,x,c,h=>by
  unfold bD at h
  split at h
  ·rename_i hk;rw[ZaG]at h;rcases bC.mp h with h|h
   ·exact ak _ (Zb5 r (n+1) x c h)
   ·have e:=dF.mp h;cases e
    have:kd=.cell:=by simpa using hk
    rw[this];exact aO
  ·exact ak _ (Zb5 r n x c h)
theorem Zey{α:Type}:∀{l r:List (Str×α)} {x:Str} {c:α},(l++r).lookup x=some c->l.lookup x=some c\/(l.lookup x=none/\r.lookup x=some c)
 |[],r,x,c,h=>.inr ⟨rfl,h⟩
 | (y,d)::l,r,x,c,h=>by
  rw[aS,bG]at h;rw[bG];cases e:x==y with
  |true=>rw[e]at h;exact .inl h
  |false=>rw[e]at h;exact Zey h
theorem Zec{α:Type}:∀{l r:List (Str×α)} {x:Str},(∀c,(x,c)∉l)->(l++r).lookup x=r.lookup x
 |[],_,_,_=>rfl
 | (y,d)::l,r,x,h=>by
  rw[aS,bG];cases e:x==y with
  |true=>
   have:x=y:=by simpa using e
   exact absurd (by rw[this];exact aO) (h d)
  |false=>exact Zec fun c hc=>h c (ak _ hc)
theorem Zfu(hQ:Q (newEnv scope s.heap.objs.size globals (bD (s.heap.objs.size+1) scope.names cl) qual none .none (some env) kD) {s with heap:=gi (s.heap.push {cls:=.type "dict",data:=.dict #[]}) scope.names}):wpAny M A (newFunctionEnv scope globals cl [] qual none .none (some env)) Q E s:=by
 simp only[newFunctionEnv,Option.isSome_some,if_true];refine Wb (wpAny_alloc ?_);refine Wb (wpAny_layCells _ (fun name kind cells=>by cases hkc:kind==dY<;>simp[hkc]) _ _ _ _ ?_)
 rw[show({s with heap:=s.heap.push {cls:=.type "dict",data:=.dict #[]}}:aC).heap.objs.size=s.heap.objs.size+1 from gj ..];exact Wb (Wp (Wp hQ))
theorem _root_.PySem.W.cellsFrom_mem {x:Str}:∀(names:List (Str×c7)) (n:Nat) (acc:List (Str×Addr)),(x,dY)∈names->((bD n names acc).lookup x).isSome=true
 |[],_,_,h=>by simp at h
 | (y,kd)::r,n,acc,h=>by
  have acc_some:∀(names:List (Str×c7)) (n:Nat) (acc:List (Str×Addr)),(acc.lookup x).isSome=true->((bD n names acc).lookup x).isSome=true:=fun names n acc h=>PySem.W.cellsFrom_some names n acc (.inr h);unfold bD;split
  ·rcases aK.mp h with e|e
   ·cases e;refine acc_some _ _ _ ?_;rw[bG];simp
   ·exact PySem.W.cellsFrom_mem r _ _ e
  ·rename_i hk;rcases aK.mp h with e|e
   ·cases e;simp at hk
   ·exact PySem.W.cellsFrom_mem r _ _ e
noncomputable def blk(X:Cx)(scope:jD)(cl:List (Str×Addr))(N:List Str)(C:Addr)(fp:List Addr)(s:aC)(H:Hp):Cx:=
 {X with N:=N,s₀:=s,H₀:=H,env:=jJ scope (bD (C+1) scope.names cl) C X.env,outer:=X.stack,stack:=X.stack,ex:=fp,fn:=fun x=>scope.names.any fun y=>y.1==x&&y.2 == .cell,pn:=[],xe:=fun _ _=>False,fxs:=none}
theorem Zba:Thr (blk X scope cl N C fp s H) E0:=
 ⟨eV.never,fun _ _ _ _ _ _ _ h=>by obtain⟨_,_,_,_,_,_,_,_,_,_,_,_,_,q⟩:=h;exact q,fun _ _ _ _ _ _ _ _ _ _ _ _ _ _ _ _ _ _ _ _ _ _ q=>q⟩
def Zez(src:Src)(tg:Tg)(c:Tv)(f:Ev)(n:Nat):Nat->Nat->Ro->Sto->Out Unit
 |fuel,i,ρ,M=>match nxt src i M with
  |none=>.bad
  |some none=>.ok () M
  |some (some d)=>(match fuel with
   |0=>.bad
   |fuel+1=>(match tg d ρ with
    |none=>.bad
    |some ρ1=>(match c ρ1 M with
     |.ok true M1=>(match f ρ1 M1 with
      |.ok x M2=>(match M2[n]? with
       |some (.lst xs)=>if xs.length<10000000 then Zez src tg c f n fuel (i+1) ρ1 (M2.set n (.lst (xs++[x])))else .bad
       |none=>.bad)
      |_=>.bad)
     |.ok false M1=>Zez src tg c f n fuel (i+1) ρ1 M1
     |_=>.bad)))
noncomputable def roB(k:Nat)(fr:List Nat)(ρ:Ro):Ro:=aB k none++fr.map fun i=>(ρ[i]?).join
def ZaH(fi:Ro->Sto->Out Src)(k:Nat)(fr:List Nat)(tg:Tg)(c:Tv)(f:Ev):Ev:=fun ρ M=>(fi ρ M).bind fun src M1=>match Zez src tg c f M1.length (cnt src M1) 0 (roB k fr ρ) (M1++[.lst []])with
 |.ok _ M2=>.ok (.ref M1.length) M2
 |_=>.bad
structure Blk(X:Cx) (scope:jD) (cl:List (Str×Addr)) (N:List Str) (k:Nat) (fr:List Nat):Prop where
 clos:closureFor scope X.env=pure cl
 kind:scope.kind=.function
 names:∀y∈scope.names,y.2=.local->scope.names.lookup y.1=some .local
 sub:∀x c,cl.lookup x=some c->X.env.cells.lookup x=some c
 has:∀n x,((relabel scope X.env).names.lookup x=some .cell\/(relabel scope X.env).names.lookup x=some .free)->∃c,(bD n scope.names cl).lookup x=some c
 len:N.length=k+fr.length
 at_:∀(j i:Nat),fr[j]?=some i->∃x,N[k+j]?=some x/\X.N[i]?=some x/\X.env.kindOf x=some .cell/\((relabel scope X.env).names.lookup x=some .cell\/(relabel scope X.env).names.lookup x=some .free)/\cl.lookup x=X.env.cells.lookup x/\(x,dY)∉scope.names
noncomputable def ZeA(target iter:Expr)(ifs:List Expr)(it:ah)(env:Env)(body ag:Sem Fin):Sem Fin:=do
 standAt iter.pos
 match <-iO it with
 |none=>pure (.done .next)
 |some v=>
  eO target it v
  assign target env v
  let mut ok:=true
  for c in ifs do
   if ok then ok <-isTrue c env (eval c env)
  if ok then body else ag
noncomputable def ZiF(e elt:Expr)(d:Nat)(it acc:ah)(env:Env):Sem Fin:=do
 (do let _ <-call (.builtin "list.append") [acc,<-eval elt env])
 again (.compLoop e d it acc env)
theorem ZeB(elt t0 i0:Expr)(f0:List Expr)(sc:jD)(pos:Pos)(it acc:ah)(env:Env):hG (.ListComp elt [⟨t0,i0,f0,0⟩] sc pos) 0 it acc env=ZeA t0 i0 f0 it env (ZiF (.ListComp elt [⟨t0,i0,f0,0⟩] sc pos) elt 0 it acc env) (again (.compLoop (.ListComp elt [⟨t0,i0,f0,0⟩] sc pos) 0 it acc env)):=by rfl
theorem Zhw(he:hG (.ListComp elt gens scope pos) d it acc env=ZeA target iter ifs it env body (again (.compLoop (.ListComp elt gens scope pos) d it acc env)))(I:Nat->aC->Prop)(turn:∀n s,I n s->wpAny (az prog w) A (iO it) (fun r s₁=>match r with
   |none=>R (.ok .next) s₁
   |some v=>wpAny (az prog w) A (eO target it v) (fun _ s₁=>wpAny (az prog w) A (assign target env v) (fun _ s₂=>
     wpAny (az prog w) A (forIn ifs true fun c r=>if r=true then do let ok <-isTrue c env (eval c env);pure (ForInStep.yield ok)else pure (ForInStep.yield r)) (fun ok s₃=>
      if ok=true then wpAny (az prog w) A body (fun fin s₅=>fin=.again (.compLoop (.ListComp elt gens scope pos) d it acc env)/\∃m,m<n/\I m s₅) (fun _ _=>False) s₃
      else ∃m,m<n/\I m s₃) (fun _ _=>False) s₂) (fun _ _=>False) s₁) (fun _ _=>False) s₁) (fun _ _=>False) s)
  (n:Nat) (h:I n s):
  gx (az prog w) A (.compLoop (.ListComp elt gens scope pos) d it acc env) R s:=by
 refine codeAny_loop rfl I (fun n s hI=>?_) n h;show wpAny _ A ((hG (.ListComp elt gens scope pos) d it acc env).onRaise (fun x=>do dB x env;theTreesLotGoes x)) _ _ s
 refine wpAny_noted ?_;rw[he];unfold ZeA;refine Wb (wpAny_standAt (Wb (wpAny_mono (turn n s hI) (fun r s₁ h₁=>?_) fun _ _ h'=>h'.elim)));cases r with
 |none=>exact Wp h₁
 |some v=>
  refine Wb (wpAny_mono h₁ (fun _ s₁ h₁=>?_) fun _ _ h'=>h'.elim);refine Wb (wpAny_mono h₁ (fun _ s₂ h₂=>Wb (wpAny_mono h₂ (fun ok s₃ h₃=>?_) fun _ _ h'=>h'.elim)) fun _ _ h'=>h'.elim);cases ok with
  |false=>exact Wp ⟨rfl,h₃⟩
  |true=>
   refine wpAny_mono h₃ (fun fin s₅ h₅=>?_) fun _ _ h'=>h'.elim;obtain⟨rfl,h5⟩:=h₅;exact⟨rfl,h5⟩
def DC(X:Cx)(ifs:List Expr)(c:Tv):Prop:=(ifs=[]/\c=fun _ M=>.ok true M)\/∃e,ifs=[e]/\DT X E0 e c
def Zf5(src:Src)(tg:Tg)(c:Tv)(g:Ro->Sto->Out Ro):Nat->Nat->Ro->Sto->Out Ro
 |fuel,i,ρ,M=>match nxt src i M with
  |none=>.bad
  |some none=>.ok ρ M
  |some (some d)=>(match fuel with
   |0=>.bad
   |fuel+1=>(match tg d ρ with
    |none=>.bad
    |some ρ1=>(match c ρ1 M with
     |.ok true M1=>(match g ρ1 M1 with
      |.ok ρ2 M2=>Zf5 src tg c g fuel (i+1) ρ2 M2
      |_=>.bad)
     |.ok false M1=>Zf5 src tg c g fuel (i+1) ρ1 M1
     |_=>.bad)))
noncomputable def gEm(f:Ev)(n:Nat):Ro->Sto->Out Ro:=fun ρ M=>match f ρ M with
 |.ok x M2=>(match M2[n]? with
  |some (.lst xs)=>if xs.length<10000000 then .ok ρ (M2.set n (.lst (xs++[x])))else .bad
  |none=>.bad)
 |_=>.bad
def Zed(fi:Ro->Sto->Out Src)(k:Nat)(fr:List Nat)(tg:Tg)(c:Tv)(g:Nat->Ro->Sto->Out Ro):Ev:=fun ρ M=>(fi ρ M).bind fun src M1=>match Zf5 src tg c (g M1.length) (cnt src M1) 0 (roB k fr ρ) (M1++[.lst []])with
 |.ok _ M2=>.ok (.ref M1.length) M2
 |_=>.bad
def ZgH(Y:Cx)(D:Addr)(n0:Nat)(c:Code)(m:Sem Fin)(g:Ro->Sto->Out Ro):Prop:=∀pins s σ ρ H α M ρ' M',Inv Y pins σ H s->SR Y.K H α σ ρ->HR Y.K H α M->RefK H α 0 n0 D->g ρ M=.ok ρ' M'->
 wpAny (az Y.prog Y.w) Y.A m (fun fin s'=>fin=.again c/\∃σ' H' α',Inv Y pins σ' H' s'/\Ext Y.K H H' α α'/\SR Y.K H' α' σ' ρ'/\HR Y.K H' α' M') (fun _ _=>False) s
def CmP(Y:Cx)(pins:Pn)(fp:List Addr)(tn:Nat->Heap->Prop)(H3:Hp)(α3:List Addr)(g:Nat->Nat->Ro->Sto->Prop)(n:Nat)(s':aC):Prop:=
 ∃i σ' ρ' H' α' M',Inv Y pins σ' H' s'/\tn i s'.heap/\(∀b∈fp,H' b=none)/\SR Y.K H' α' σ' ρ'/\HR Y.K H' α' M'/\Ext Y.K H3 H' α3 α'/\g n i ρ' M'
theorem ZiG{D:Addr}(hct:hG (.ListComp elt gens scope pos) d0 (.ref it) (.ref D) Y.env=ZeA tg iter ifs (.ref it) Y.env body (again (.compLoop (.ListComp elt gens scope pos) d0 (.ref it) (.ref D) Y.env)))(T:Turn Y.prog Y.w Y.K Y.A tg J fp it tn)(hxe:∀x y,Y.xe x y->False)(fp5:∀{H':Hp},(∀b∈fp,H' b=none)->∀b∈fp,Zd4 Y pins H' b)(hg:DG Y tg gt)(tst:DC Y ifs c)(hb:ZgH Y D n0 (.compLoop (.ListComp elt gens scope pos) d0 (.ref it) (.ref D) Y.env) body g)(sc:ZnS Y.K H3 α3 J src)(aD:RefK H3 α3 0 n0 D)(I4:Inv Y pins σ0 H3 s4)(st4:tn 0 s4.heap)(fr4:∀b∈fp,H3 b=none)(sr:SR Y.K H3 α3 σ0 ρ0)(h3:HR Y.K H3 α3 M3)(er:Zf5 src gt c g fuel 0 ρ0 M3=.ok ρ9 M9)(post:∀σ5 H5 α5 s6,Inv Y pins σ5 H5 s6->Ext Y.K H3 H5 α3 α5->SR Y.K H5 α5 σ5 ρ9->HR Y.K H5 α5 M9->R (.ok .next) s6):gx (az Y.prog Y.w) Y.A (.compLoop (.ListComp elt gens scope pos) d0 (.ref it) (.ref D) Y.env) R s4:=by
 obtain⟨tt,pt,qt⟩:=hg;refine Zhw hct (CmP Y pins fp tn H3 α3 fun n i ρ' M'=>Zf5 src gt c g n i ρ' M'=.ok ρ9 M9) ?_ fuel ⟨0,σ0,ρ0,H3,α3,M3,I4,st4,fr4,sr,h3,Ext.refl,er⟩;rintro n s5 ⟨i,σ5,ρ5,H5,α5,M5,I5,st5,fr5,sr5,hr5,ex5,en⟩;have src5:=sc i H5 α5 M5 ex5 hr5;rw[Zf5]at en;cases ex:nxt src i M5 with
 |none=>rw[ex]at en;cases en
 |some od=>
  rw[ex]at src5 en;cases od with
  |none=>
   cases en;have fin:=T.done Y rfl rfl rfl rfl i pins s5 σ5 H5 (fun _ _=>False) I5 (fp5 fr5) st5 src5;refine thn fin fun r s6 w6=>?_;obtain⟨hr6,I6⟩:=w6;subst hr6;exact post σ5 H5 α5 s6 I6 ex5 sr5 hr5
  |some d=>
   obtain⟨go,yl⟩:=src5;cases n with
   |zero=>cases en
   |succ n=>
    simp only at en;have itm:=T.item Y rfl rfl rfl rfl i pins s5 σ5 H5 (fun _ _=>False) I5 (fp5 fr5) st5 go;refine thn itm fun r s6 hz=>?_;obtain⟨u,hr6,w6⟩:=hz;subst hr6;refine thn w6 fun _ s7 hz=>?_;obtain⟨x,H7,I7,r7,y7,st7,fr7⟩:=hz;obtain⟨ex7,hr7,rp7⟩:=yl x H7 y7;have sr5:=sr5.mono ex7;have hr5:=hr7;have ex5:=ex5.trans ex7;have I7':=I7.pinned (fp5 fr7) (T.obj _ _ st7);cases eg:gt d ρ5 with
    |none=>rw[eg]at en;cases en
    |some ρ6=>
     rw[eg]at en;simp only at en;have asg:=pt _ s7 σ5 H7 x u _ I7' r7 (qt x d σ5 ρ5 H7 α5 ρ6 (fun σ' H'=>H'=H7/\SR Y.K H7 α5 σ' ρ6) sr5 rp7 eg fun σ' s'=>⟨rfl,s'⟩);refine wpAny_mono asg (fun _ s8 hz=>?_) (fun x y z=>hxe x y z);obtain⟨σ8,H8,I8,z8,sr8⟩:=hz;subst z8;have again':∀{σ9:L2.St}{H9:Hp}{s9:aC},Inv Y (pins++Zdj fp s7.heap) σ9 H9 s9->Inv Y pins σ9 H9 s9/\tn (i+1) s9.heap/\∀b∈fp,H9 b=none:=fun{σ9 H9 s9} I9=>by
      refine⟨I9.unpinned,T.keep _ _ _ st7 fun b hb o e=>(I9.pin (b,o) (aT _ (aT _ (ZaC hb e)))).1,fun b hb=>?_⟩;obtain⟨o,e,_⟩:=T.obj _ _ st7 b hb;exact(I9.pin (b,o) (aT _ (aT _ (ZaC hb e)))).2.1
     have after:∀(kk:Bool)(M8:Sto)(H9:Hp)(α9:List Addr)(s9:aC),Inv Y (pins++Zdj fp s7.heap) σ8 H9 s9->Ext Y.K H8 H9 α5 α9->HR Y.K H9 α9 M8->c ρ6 M5=.ok kk M8->
       (if kk=true then wpAny (az Y.prog Y.w) Y.A body (fun fin s₅=>fin=.again (.compLoop (.ListComp elt gens scope pos) d0 (.ref it) (.ref D) Y.env)/\∃m,m<n+1/\CmP Y pins fp tn H3 α3 (fun n i ρ' M'=>Zf5 src gt c g n i ρ' M'=.ok ρ9 M9) m s₅) (fun _ _=>False) s9 else ∃m,m<n+1/\CmP Y pins fp tn H3 α3 (fun n i ρ' M'=>Zf5 src gt c g n i ρ' M'=.ok ρ9 M9) m s9):=by
      intro kk M8 H9 α9 s9 I9 ex9 hr9 ec;rw[ec]at en;cases kk with
      |false=>
       obtain⟨a1,a2,a3⟩:=again' I9;exact Zkg ⟨n,eA n,i+1,σ8,ρ6,H9,α9,M8,a1,a2,a3,sr8.mono ex9,hr9,ex5.trans ex9,en⟩
      |true=>
       simp only at en;refine Zkh ?_;cases ef:g ρ6 M8 with
       |exc x9 M10=>rw[ef]at en;cases en
       |bad=>rw[ef]at en;cases en
       |ok ρ10 M10=>
        rw[ef]at en;simp only at en;refine thn (hb _ s9 σ8 ρ6 H9 α9 M8 ρ10 M10 I9 (sr8.mono ex9) hr9 (ex9.get (ex5.get aD)) ef) fun fin s10 hz=>?_;obtain⟨hf,σ10,H10,α10,I10,ex10,sr10,hr10⟩:=hz;obtain⟨a1,a2,a3⟩:=again' I10;exact⟨hf,n,eA n,i+1,σ10,ρ10,H10,α10,M10,a1,a2,a3,sr10,hr10,(ex5.trans ex9).trans ex10,en⟩
     rcases tst with⟨rfl,ec⟩|⟨e,rfl,tt',ptt,qtt⟩
     ·refine wpAny_tests_nil ?_;exact after true M5 H8 α5 s8 I8 Ext.refl hr5 (by rw[ec])
     ·refine wpAny_tests_one ?_;cases ec:c ρ6 M5 with
      |exc x9 M10=>rw[ec]at en;cases en
      |bad=>rw[ec]at en;cases en
      |ok kk M8=>
       have tv':=ptt _ s8 σ8 H8 (fun b H'=>b=kk/\∃α',Ext Y.K H8 H' α5 α'/\HR Y.K H' α' M8) I8 (qtt σ8 ρ6 H8 α5 M5 _ sr8 hr5 (by
        rw[ec];exact fun v H' α' e h r=>⟨r,α',e,h⟩))
       refine wpAny_mono tv' (fun b s9 hz=>?_) (fun x y z=>hxe x y z);obtain⟨H9,I9,zb,α9,ex9,hr9⟩:=hz;subst zb;exact after b M8 H9 α9 s9 I9 ex9 hr9 ec
theorem Zfv{D:Addr}(hxe:∀x y,Y.xe x y->False)(he:DE Y E0 elt f):ZgH Y D n0 (.compLoop e d0 (.ref it) (.ref D) Y.env) (ZiF e elt d0 (.ref it) (.ref D) Y.env) (gEm f n0):=by
 obtain⟨te,pe,qe⟩:=he;intro pins s σ ρ H α M ρ' M' I sr hr aD en;unfold gEm at en;cases ef:f ρ M with
 |exc x9 M10=>rw[ef]at en;cases en
 |bad=>rw[ef]at en;cases en
 |ok y M10=>
  rw[ef]at en;simp only at en;have ev:=pe _ s σ H (fun v H'=>∃α',Ext Y.K H H' α α'/\HR Y.K H' α' M10/\Rep Y.K H' α' v y) I (qe σ ρ H α M _ sr hr (by
   rw[ef];exact fun v H' α' e h r=>⟨α',e,h,r⟩))
  unfold ZiF;refine Wb (Wb (wpAny_mono ev (fun yv s10 hz=>?_) (fun x y z=>hxe x y z)));obtain⟨v,H10,I10,r10,α10,ex10,hr10,rp10⟩:=hz;cases em:M10[n0]? with
  |none=>rw[em]at en;cases en
  |some so=>
   cases so with
   |lst ds=>
    rw[em]at en;simp only at en;by_cases cz:ds.length<10000000
    ·rw[if_pos cz]at en;cases en;have aD10:=ex10.get aD;obtain⟨xs,g1,g2⟩:=hr10.at aD10 em;have ap:=Zdn (X:=Y) _ s10 σ H10 (.ref D) [v] (.ref D) [yv] (fun _ H'=>H'=upd H10 D (.lst (xs++[v]))) I10 rfl (.cons r10 .nil) ⟨D,xs,v,rfl,rfl,g1,by rw[g2.length];exact ay cz (by decide),rfl⟩
     refine Wb (wpAny_mono ap (fun _ s11 hz=>?_) (fun x y z=>hxe x y z));obtain⟨v11,H11,I11,_,z11⟩:=hz;subst z11;have exw:Ext Y.K H10 (upd H10 D (.lst (xs++[v]))) α10 α10:=Ext.wr g1;exact Wp (Wp ⟨rfl,σ,_,α10,I11,ex10.trans exw,(sr.mono ex10).mono exw,hr10.wr aD10 g1 (g2.append (.cons rp10 .nil))⟩)
    ·rw[if_neg cz]at en;cases en
section
variable {tg iter elt:Expr}{ifs:List Expr}{rest:List Comprehension}{scope:jD}{cl:List (Str×Addr)}{N:List Str}{k:Nat}{fi:Ro->Sto->Out Src}{gt:Tg}{c:Tv}{g:Nat->Ro->Sto->Out Ro}{pos:Pos}{bd:ah->ah->Env->Sem Fin}
theorem join_some{α:Type}{o:Option (Option α)}{v:α}(h:o.join=some v):o=some (some v):=by
 cases o with
 |none=>cases h
 |some x=>cases x with
  |none=>cases h
  |some y=>cases h;rfl
theorem ZmF(h:(roB k fr ρ)[i]?=some (some d)):∃j r,i=k+j/\fr[j]?=some r/\ρ[r]?=some (some d):=by
 unfold roB at h;by_cases hi:i<k
 ·rw[aH (by rw[aZ];exact hi)]at h
  have:=c8 h
  rw[iE]at this;cases this.2
 ·rw[aM (by rw[aZ];lia),aZ,a7]at h
  cases e:fr[i-k]? with
  |none=>rw[e]at h;cases h
  |some r=>
   rw[e]at h;exact⟨i-k,r,by lia,e,join_some (aQ h)⟩
noncomputable def stB(k:Nat)(fr:List Nat)(σ:L2.St):L2.St:=aB k none++fr.map fun i=>(σ[i]?).join
theorem ZmG(h:(stB k fr σ)[i]?=some (some d)):∃j r,i=k+j/\fr[j]?=some r/\σ[r]?=some (some d):=by
 unfold stB at h;by_cases hi:i<k
 ·rw[aH (by rw[aZ];exact hi)]at h
  have:=c8 h
  rw[iE]at this;cases this.2
 ·rw[aM (by rw[aZ];lia),aZ,a7]at h
  cases e:fr[i-k]? with
  |none=>rw[e]at h;cases h
  |some r=>
   rw[e]at h;exact⟨i-k,r,by lia,e,join_some (aQ h)⟩
theorem SR.blk{K:Fg}(h:SR K H α σ ρ):SR K H α (stB k fr σ) (roB k fr ρ):=by
 refine⟨by simp[stB,roB],fun i d e=>?_⟩
 obtain⟨j,r,rfl,e1,e2⟩:=ZmF e;obtain⟨v,e3,e4⟩:=h.2 r d e2;refine⟨v,?_,e4⟩;unfold stB;rw[aM (by rw[aZ];lia),aZ,a7,Nat.add_sub_cancel_left,e1]
 show some (σ[r]?).join=_;rw[e3];rfl
theorem Zku(h:Heap):CellsOk (gi (h.push {cls:=.type "dict",data:=.dict #[]}) scope.names) (h.objs.size+1) (bD (h.objs.size+1) scope.names []):=by
 have:=cellsFrom_ok scope.names (h.push {cls:=.type "dict",data:=.dict #[]}) (h.objs.size+1) [] ⟨fun _ _ hm=>(nomatch hm),List.Pairwise.nil⟩ (by rw[gj];exact au _)
 rw[gj]at this;exact this
theorem Zcu(B:Blk X scope cl N k fr){h:Heap}{c:Addr}(e:(bD (h.objs.size+1) scope.names cl).lookup x=some c):(X.env.cells.lookup x=some c)\/((x,c)∈bD (h.objs.size+1) scope.names []/\h.objs.size+1<=c):=by
 rw[ZaG]at e;rcases Zey e with z|⟨_,z⟩
 ·have m:=PySem.mem_of_lookup z;exact .inr ⟨m,((Zku h).empty x c m).2⟩
 ·exact .inl (B.sub x c z)
theorem ZiH(B:Blk X scope cl N k fr){fp:List Addr}(I:Inv X pins σ H s)(hf:∀b∈fp,Zd4 X pins H b)(hlt:∀b∈fp,b<s.heap.objs.size)(hb:b∈fp){c:Addr}(h:(bD (s.heap.objs.size+1) scope.names cl).lookup x=some c):c≠b:=by
 rcases Zcu B h with z|⟨_,z⟩
 ·exact(hf b hb).2.2.2.2.1 x c z
 ·exact cX (dq (hlt b hb) z)
theorem ZiI(B:Blk X scope cl N k fr)(I:Inv X pins σ H s)(hf:∀b∈fp,Zd4 X pins H b)(hlt:∀b∈fp,b<s.heap.objs.size):(blk X scope cl N s.heap.objs.size fp s H).Ok where
 mod:=I.ok.mod
 kind:=B.kind
 glob:=I.ok.glob
 blt:=I.ok.blt
 above:=au _
 inj:=fun x y c h1 h2=>by
  have old:∀{x c},X.env.cells.lookup x=some c->c<s.heap.objs.size:=fun{x c} e=>by
   obtain⟨v,q⟩:=I.cell x c e;exact q.lt
  rcases Zcu B h1 with z|⟨m1,z⟩<;>rcases Zcu B h2 with w|⟨m2,w⟩
  ·exact I.ok.inj x y c z w
  ·exact absurd (dq (old z) w) (bU _)
  ·exact absurd (dq (old w) z) (bU _)
  ·exact name_of_addr (Zku (scope:=scope) s.heap).apart m1 m2
 has:=fun x h=>B.has _ x h
 cab:=fun x c h e=>by
  obtain⟨y,hy,hz⟩:=List.any_eq_true.mp h;simp only[aR,beq_iff_eq]at hz;have e':(bD (s.heap.objs.size+1) scope.names []++cl).lookup x=some c:=by rw[<-ZaG];exact e
  have hs:=PySem.W.cellsFrom_mem scope.names (s.heap.objs.size+1) [] (x:=x) (by rw[<-hz.1,<-hz.2];exact hy)
  rcases Zey e' with z|⟨z,_⟩
  ·exact gp ((Zku (scope:=scope) s.heap).empty x c (PySem.mem_of_lookup z)).2
  ·rw[z]at hs;cases hs
 hd:=I.ok.hd
 frames:=I.ok.frames
 stk:=.inl rfl
 exf:=fun b hb=>⟨bj (hlt b hb),fun x c h=>ZiH B I hf hlt hb h⟩
 bs:=I.bs
 bsz:=aE I.ok.bsz I.sz
 noex:=fun b o e hb=>by
  rcases(hf b hb).2.2.2.1 with z|z
  ·exact I.ok.noex b o e z
  ·exact absurd (ay (Hz (I.ok.bs b o e).1) z) (bU _)
 exfs:=fun b hb z=>by
  rcases aK.mp (I.stkSub b z)with e|e
  ·exact(hf b hb).2.1 e
  ·exact(hf b hb).2.2.1 e
 funs:=I.stack
 frf:=I.stkFree
 tb:=I.ok.tb.un I.base
theorem ZiJ(B:Blk X scope cl N k fr)(I:Inv X pins σ H s)(hf:∀b∈fp,Zd4 X pins H b)(hlt:∀b∈fp,b<s.heap.objs.size):Inv (blk X scope cl N s.heap.objs.size fp s H) [] (stB k fr σ) H {s with heap:=gi (s.heap.push {cls:=.type "dict",data:=.dict #[]}) scope.names}:=by
 have hk:∀b o,s.heap.get? b=some o->(gi (s.heap.push {cls:=.type "dict",data:=.dict #[]}) scope.names).get? b=some o:=fun b o e=>hZ _ _ b o (Hq _ e);have hn:(gi (s.heap.push {cls:=.type "dict",data:=.dict #[]}) scope.names).Ns s.heap.objs.size (fun _=>none):=(lw.Ns.new s.heap (.type "dict")).keeps (hZ _ _);have nw:=Zku (scope:=scope) s.heap;exact {
  ok:=ZiI B I hf hlt
  os:=rfl
  bare:=I.bare
  base:=Un.kept hk
  loc:=by
   refine⟨_,hn,fun i x v e1 e2 e3=>?_⟩;obtain⟨j,r,rfl,g1,g2⟩:=ZmG e2;obtain⟨y,k1,k2,k3,k4,k5,k6⟩:=B.at_ j r g1;have exy:x=y:=aQ (e1.symm.trans k1);subst exy;obtain⟨m0,hm0,hl⟩:=I.loc;obtain⟨u,ru,lk⟩:=hl r x v k2 g2 (.inr (.inl k3));refine⟨u,ru,?_⟩;rcases lk with⟨z,_⟩|⟨_,c,z1,⟨o,z2,z3⟩⟩
   ·rw[k3]at z;cases z
   ·refine .inr ⟨k4,c,?_,⟨o,hk _ _ z2,z3⟩⟩;show(bD (s.heap.objs.size+1) scope.names cl).lookup x=some c;rw[ZaG,Zec fun c' hc'=>k6 (Zb5 _ _ _ _ hc')];exact k5.trans z1
  cell:=fun x c h=>by
   rcases Zcu B h with z|⟨m,_⟩
   ·obtain⟨v,o,e1,e2⟩:=I.cell x c z;exact⟨v,o,hk _ _ e1,e2⟩
   ·exact⟨none,(nw.empty x c m).1⟩
  free:=I.fresh
  freeC:=fun x c h=>by
   rcases Zcu B h with z|⟨_,z⟩
   ·exact I.freeC x c z
   ·exact I.hok.fresh (gp z)
  pin:=fun p hp=>(by simp[blk]at hp)
  hok:=I.hok.kept hk
  len:=by
   show(stB k fr σ).length=N.length;rw[B.len];simp[stB]
  qd:=I.qd
  fx:=.free rfl}
theorem Zde(B:Blk X scope cl N k fr)(I3:Inv X pins σ H3 s3)(f3:∀b∈fp,Zd4 X pins H3 b)(I6:Inv (blk X scope cl N s3.heap.objs.size fp s3 H3) [] σ5 H5 s6):Inv X pins σ H5 s6/\∀(σ':L2.St)(s8:aC)(h':Heap),Inv X pins σ' H5 s8->(∀b o,b≠s3.heap.objs.size->s8.heap.get? b=some o->h'.get? b=some o)->Inv X pins σ' H5 {s8 with heap:=h',toks:=s8.toks}:=by
 refine⟨I3.call' (s':=s6) (ch:=fp) I6.os I6.base I6.hok I6.bare fun b hb=>?_,fun σ' s8 h' I8 sb=>?_⟩
 ·obtain⟨_,z1,z2,z3,z4,z5⟩:=f3 b hb;exact⟨z3,z1,z4,z5⟩
 ·exact I8.turned (it:=s3.heap.objs.size) sb I6.free (cX I3.lt) (.inr I3.sz)
   (fun x c h z=>by
    obtain⟨v,o,e,_⟩:=I3.cell x c h;exact absurd (Hz e) (by rw[z];exact bU _)) (fun p hp z=>by
    have:=(I3.pin p hp).1
    exact absurd (Hz this) (by rw[z];exact bU _))
theorem ZgI(B:Blk X scope cl N k fr)(pi:PI X tg iter wi)(hg:∀C fp s H,DG (blk X scope cl N C fp s H) tg gt)(ht:∀C fp s H,DC (blk X scope cl N C fp s H) ifs c)(hct:∀it acc env,hG (.ListComp elt (⟨tg,iter,ifs,0⟩::rest) scope pos) 0 it acc env=ZeA tg iter ifs it env (bd it acc env) (again (.compLoop (.ListComp elt (⟨tg,iter,ifs,0⟩::rest) scope pos) 0 it acc env)))(he:∀C fp s H (D n0:Nat) (it:Addr),ZgH (blk X scope cl N C fp s H) D n0 (.compLoop (.ListComp elt (⟨tg,iter,ifs,0⟩::rest) scope pos) 0 (.ref it) (.ref D) (blk X scope cl N C fp s H).env) (bd (.ref it) (.ref D) (blk X scope cl N C fp s H).env) (g n0))(hs:∀x,bY iter X.env x=pure x)(sr:SR X.K H α σ ρ)(I:Inv X pins σ H s)(w:wi σ H fun J H2=>∃α2 M2 src ρ9 M9,Ext X.K H H2 α α2/\HR X.K H2 α2 M2/\ZnS X.K H2 α2 J src/\Zf5 src gt c (g M2.length) (cnt src M2) 0 (roB k fr ρ) (M2++[.lst []])=.ok ρ9 M9/\∀(D C:Addr) H5 α5 s6 m6,Ext X.K H2 H5 α2 α5->HR X.K H5 α5 M9->RefK H5 α5 0 M2.length D->Inv X pins σ H5 s6->s6.heap.Ns C m6->C≠X.env.locals->(∀x,X.env.cells.lookup x≠some C)->(∀(σ':L2.St)(s8:aC)(h':Heap),Inv X pins σ' H5 s8->(∀b o,b≠C->s8.heap.get? b=some o->h'.get? b=some o)->Inv X pins σ' H5 {s8 with heap:=h',toks:=s8.toks})->compPost (az X.prog X.w) X.A X.xe use P (.ref D) C (.ok .next) s6):wpAny (az X.prog X.w) X.A (comprehension (.ListComp elt (⟨tg,iter,ifs,0⟩::rest) scope pos) scope X.env pos' (newList []) false (eval iter X.env) use) P X.xe s:=by
 refine iS rfl hs B.clos B.kind B.names ?_;refine thn (pi pins s σ H _ I w) fun v s1 w1=>thn w1 fun itv s2 w2=>?_;obtain⟨it,fp,tn,J,H2,rfl,I2,T,st2,f2,α2,M2,src,ρ9,M9,e2,h2,sc,er,op2⟩:=w2;have srI:=sr.mono e2;refine bA ?_;have I3:Inv X pins σ (upd H2 s2.heap.objs.size (.lst [])) {s2 with heap:=s2.heap.push {cls:=.type "list",data:=.seq ([]:List ah).toArray}}:=I2.lnew (its:=[]) (t':=s2.toks) .nil (gY _);have fD:H2 s2.heap.objs.size=none:=I2.fresh;generalize hD:s2.heap.objs.size=D at I3 fD;generalize hs3:({s2 with heap:=s2.heap.push {cls:=.type "list",data:=.seq ([]:List ah).toArray}}:aC)=s3 at I3;generalize hH3:upd H2 D (.lst [])=H3 at I3;have h3:HR X.K H3 (α2++[D]) (M2++[.lst []]):=by rw[<-hH3];exact h2.new fD .nil
 have e3:Ext X.K H2 H3 α2 (α2++[D]):=by rw[<-hH3];exact Ext.new fD
 have aD:RefK H3 (α2++[D]) 0 M2.length D:=⟨h2.last D,by first|exact Kn.lst Zp|(rw[<-hH3];exact Kn.lst Zp)⟩
 have lt2:∀b∈fp,b<s2.heap.objs.size:=fun b hb=>let ⟨o,e,_⟩:=T.obj _ _ st2 b hb;Hz e;have keep3:∀b o,s2.heap.get? b=some o->s3.heap.get? b=some o:=fun b o e=>by rw[<-hs3];exact Hq _ e
 have f3:∀b∈fp,Zd4 X pins H3 b:=fun b hb=>⟨by rw[<-hH3,Zs (by rw[<-hD];exact bj (lt2 b hb))];exact(f2 b hb).1,(f2 b hb).2⟩
 have lt3:∀b∈fp,b<s3.heap.objs.size:=fun b hb=>let ⟨o,e,_⟩:=T.obj _ _ st2 b hb;Hz (keep3 b o e);have st3:tn 0 s3.heap:=T.keep _ _ _ st2 fun b _ o e=>keep3 b o e;refine Zfu ?_;have keep4:∀b o,s3.heap.get? b=some o->(gi (s3.heap.push {cls:=.type "dict",data:=.dict #[]}) scope.names).get? b=some o:=fun b o e=>hZ _ _ b o (Hq _ e);have I4:=ZiJ B I3 f3 lt3;generalize gi (s3.heap.push {cls:=.type "dict",data:=.dict #[]}) scope.names=h₁ at keep4 I4;have st4:tn 0 h₁:=T.keep _ _ _ st3 fun b _ o e=>keep4 b o e;have fp5:∀{H':Hp},(∀b∈fp,H' b=none)->∀b∈fp,Zd4 (blk X scope cl N s3.heap.objs.size fp s3 H3) [] H' b:=fun hn b hb=>⟨hn b hb,bj (lt3 b hb),(ZiI B I3 f3 lt3).exfs b hb,.inl hb,fun x c h=>ZiH B I3 f3 lt3 hb h,fun p hp=>(by simp[blk]at hp)⟩
 have loop:gx (az X.prog X.w) X.A (.compLoop (.ListComp elt (⟨tg,iter,ifs,0⟩::rest) scope pos) 0 (.ref it) (.ref D) (jJ scope (bD (s3.heap.objs.size+1) scope.names cl) s3.heap.objs.size X.env)) (compPost (az X.prog X.w) X.A X.xe use P (.ref D) s3.heap.objs.size) {s3 with heap:=h₁}:=by
  refine ZiG (Y:=blk X scope cl N s3.heap.objs.size fp s3 H3) (hct _ _ _) T (fun _ _ z=>z) fp5 (hg _ fp s3 H3) (ht _ fp s3 H3) (he _ fp s3 H3 D M2.length it) (fun i H' α' M' ex hr=>sc i H' α' M' (e3.trans ex) hr) aD I4 st4 (fun b hb=>(f3 b hb).1) ((srI.blk).mono e3) h3 er ?_;intro σ5 H5 α5 s6 I6 ex5 sr5 hr5;obtain⟨I7,I8⟩:=Zde B I3 f3 I6;obtain⟨m6,hm6,_⟩:=id I6.loc;exact op2 D _ H5 α5 s6 m6 (e3.trans ex5) hr5 (ex5.get aD) I7 hm6 (cX I3.lt) (fun x h=>by
   obtain⟨v,o,e,_⟩:=I3.cell x _ h;exact absurd (Hz e) (bU _)) I8
 exact jj loop (T.self X.A 0 _ _ _ st4 loop)
theorem Zkv(B:Blk X scope cl N k fr)(hi:DI X ξ tg iter fi)(hg:∀C fp s H,DG (blk X scope cl N C fp s H) tg gt)(ht:∀C fp s H,DC (blk X scope cl N C fp s H) ifs c)(hct:∀it acc env,hG (.ListComp elt (⟨tg,iter,ifs,0⟩::rest) scope pos) 0 it acc env=ZeA tg iter ifs it env (bd it acc env) (again (.compLoop (.ListComp elt (⟨tg,iter,ifs,0⟩::rest) scope pos) 0 it acc env)))(he:∀C fp s H (D n0:Nat) (it:Addr),ZgH (blk X scope cl N C fp s H) D n0 (.compLoop (.ListComp elt (⟨tg,iter,ifs,0⟩::rest) scope pos) 0 (.ref it) (.ref D) (blk X scope cl N C fp s H).env) (bd (.ref it) (.ref D) (blk X scope cl N C fp s H).env) (g n0))(hs:∀x,bY iter X.env x=pure x):DE X ξ (.ListComp elt (⟨tg,iter,ifs,0⟩::rest) scope pos) (Zed fi k fr gt c g):=by
 obtain⟨wi,pi,qi⟩:=hi;refine⟨fun σ H Q=>∃ρ α M,SR X.K H α σ ρ/\HR X.K H α M/\OP X.K H α ξ Q (Zed fi k fr gt c g ρ M),?_,fun σ ρ H α M Q s h q=>⟨ρ,α,M,s,h,q⟩⟩;rintro pins s σ H Q I ⟨ρ,α,M,sr,hr,op⟩;rw[eval_ListComp];refine ZgI B pi hg ht hct he hs sr I (qi σ ρ H α M _ sr hr (OG.seq op fun src M1 J H1 α1 e1 h1 r1 q1=>?_));cases er:Zf5 src gt c (g M1.length) (cnt src M1) 0 (roB k fr ρ) (M1++[.lst []])with
 |ok u9 M9=>
  rw[er]at q1;exact⟨α1,M1,src,u9,M9,e1,h1,r1,er,fun D C H5 α5 s6 m6 ex5 hr5 aD I7 hm6 _ _ I8=>⟨m6,hm6,fun h' sb=>⟨.ref D,H5,I8 σ s6 h' I7 (fun b o hb e=>(sb.2 b hb).trans e),rfl,q1 _ H5 α5 ex5 hr5 (.ref aD)⟩⟩⟩
 |_=>rw[er]at q1;exact q1.elim
theorem Zo0{tg:Tg}{c:Tv}:∀(fuel i:Nat)(ρ:Ro)(M:Sto),Zez src tg c f n fuel i ρ M=(Zf5 src tg c (gEm f n) fuel i ρ M).bind fun _ M=>.ok () M:=by
 intro fuel
 induction fuel with
 |zero=>
  intro i ρ M;rw[Zez,Zf5];rcases nxt src i M with _|_|d<;>rfl
 |succ fuel ih=>
  intro i ρ M;rw[Zez,Zf5];rcases nxt src i M with _|_|d
  ·rfl
  ·rfl
  ·dsimp only;cases tg d ρ with
   |none=>rfl
   |some ρ1=>
    dsimp only;rcases c ρ1 M with⟨_|_,M1⟩|_|_
    ·exact ih _ _ _
    ·dsimp only[gEm];rcases f ρ1 M1 with⟨x,M2⟩|_|_
     ·dsimp only;rcases M2[n]? with _|⟨xs⟩
      ·rfl
      ·dsimp only;split
       ·exact ih _ _ _
       ·rfl
     ·rfl
     ·rfl
    ·rfl
    ·rfl
theorem ZgJ:ZaH fi k fr gt c f=Zed fi k fr gt c (gEm f):=by
 funext ρ M;unfold ZaH Zed;congr 1;funext src M1;rw[Zo0];cases Zf5 src gt c (gEm f M1.length) (cnt src M1) 0 (roB k fr ρ) (M1++[.lst []])<;>rfl
theorem Zbv(B:Blk X scope cl N k fr)(hi:DI X ξ tg iter fi)(h:Blk X scope cl N k fr->∀C fp s H,DG (blk X scope cl N C fp s H) tg gt/\DC (blk X scope cl N C fp s H) ifs c/\DE (blk X scope cl N C fp s H) E0 elt f)(hs:autoParam (∀x,bY iter X.env x=pure x) Qin._auto_1):DE X ξ (.ListComp elt [⟨tg,iter,ifs,0⟩] scope pos) (ZaH fi k fr gt c f):=
 ZgJ▸Zkv B hi (fun C fp s H=>(h B C fp s H).1) (fun C fp s H=>(h B C fp s H).2.1) (ZeB elt tg iter ifs scope pos) (fun C fp s H D n0 it=>Zfv (fun _ _ z=>z) (h B C fp s H).2.2) hs
end
end DL
namespace DL
open PyProof.Rows L2
theorem Zq9{names:List (Str×c7)}{env:Env}(h:names.all (fun y=>y.2 != .cell&&y.2 != .free)=true):(names.map fun(n,k)=>if(k==dz&&env.scope.kind == .function&&env.kindOf n==some .cell)then(n,dY)else(n,k))=names:=by
 induction names with
 |nil=>rfl
 |cons y r ih=>
  rw[List.all_cons,aR]at h;obtain⟨n,kd⟩:=y;have hk:(kd==dz)=false:=by
   have h1:=h.1;rw[aR]at h1;have h2:=h1.2;cases kd<;>first|rfl|simp at h2
  rw[aL,ih h.2];simp[hk]
theorem Zf6{env:Env}:∀(names:List (Str×c7)) (acc:List (Str×Addr)),(∀y∈names,y.2=.free->∃c,env.cells.lookup y.1=some c)->(forIn names acc fun(x:Str×c7) (cs:List (Str×Addr))=>if x.2==dz then(do let a <-cellOf env x.1;pure (ForInStep.yield ((x.1,a)::cs)))else(pure (ForInStep.yield cs):Sem _))=
   (pure (((names.filter fun y=>y.2 == .free).map fun y=>(y.1,(env.cells.lookup y.1).getD 0)).reverse++acc):Sem (List (Str×Addr)))
 |[],acc,_=>by simp
 | (n,kd)::r,acc,h=>by
  rw[jr];by_cases hk:(kd==dz)=true
  ·obtain⟨c,hc⟩:=h (n,kd) aO (by simpa using hk)
   have e1:cellOf env n=pure c:=by unfold cellOf;rw[hc]
   have ih:=Zf6 r ((n,c)::acc) fun y hy=>h y (ak _ hy);simp only[hk,if_true,e1,pure_bind];refine Eq.trans ih ?_;simp[dC,hk,hc]
  ·have ih:=Zf6 r acc fun y hy=>h y (ak _ hy);simp only[hk,if_false,pure_bind];refine Eq.trans ih ?_;simp[dC,hk]
noncomputable def clF(scope:jD)(env:Env):List (Str×Addr):=((scope.names.filter fun y=>y.2 == .free).map fun y=>(y.1,(env.cells.lookup y.1).getD 0)).reverse
theorem Zee{env:Env}:∀{l:List (Str×c7)} {x:Str} {c:Addr},(l.map fun y=>(y.1,(env.cells.lookup y.1).getD 0)).lookup x=some c->c=(env.cells.lookup x).getD 0/\∃y∈l,y.1=x
 |[],x,c,h=>by simp at h
 |y::r,x,c,h=>by
  rw[aL,bG]at h;cases e:x==y.1 with
  |true=>
   rw[e]at h;have ex:x=y.1:=by simpa using e
   cases h;exact⟨by rw[ex],y,aO,ex.symm⟩
  |false=>
   rw[e]at h;obtain⟨h1,z,h2,h3⟩:=Zee h;exact⟨h1,z,ak _ h2,h3⟩
theorem Zcv{α:Type}:∀{l:List (Str×α)} {x:Str},(∃y∈l,y.1=x)->∃c,l.lookup x=some c
 |[],x,h=>by obtain⟨y,h1,_⟩:=h;simp at h1
 |z::r,x,h=>by
  rw[bG];cases e:x==z.1 with
  |true=>exact⟨_,rfl⟩
  |false=>
   obtain⟨y,h1,h2⟩:=h;rcases aK.mp h1 with q|q
   ·subst q;rw[h2]at e;simp at e
   ·exact Zcv ⟨y,q,h2⟩
theorem Zam{env:Env}(nc:∀n,env.scope.names.lookup n=env.kindOf n):∀{names:List (Str×c7)} {x:Str} {kd:c7},(names.map fun(n,k)=>if(k==dz&&env.scope.kind == .function&&env.kindOf n==some .cell)then(n,dY)else(n,k)).lookup x=some kd->names.lookup x=some kd\/(names.lookup x=some .free/\kd=.cell)
 |[],x,kd,h=>by simp at h
 | (n,q)::r,x,kd,h=>by
  rw[aL,bG]at h;rw[bG];dsimp only at h ⊢;by_cases c:(q==dz&&env.scope.kind == .function&&env.kindOf n==some .cell)=true
  ·rw[if_pos c]at h;dsimp only at h;cases e:x==n with
   |true=>
    rw[e]at h;cases h;simp only[aR,beq_iff_eq]at c;exact .inr ⟨by rw[c.1.1],rfl⟩
   |false=>rw[e]at h;exact Zam nc h
  ·rw[if_neg c]at h;dsimp only at h;cases e:x==n with
   |true=>rw[e]at h;exact .inl h
   |false=>rw[e]at h;exact Zam nc h
theorem Zbw{env:Env}:∀{names:List (Str×c7)} {x:Str},names.lookup x=some .free->(∃kd,(kd=dY\/kd=dz)/\(names.map fun(n,k)=>if(k==dz&&env.scope.kind == .function&&env.kindOf n==some .cell)then(n,dY)else(n,k)).lookup x=some kd)
 |[],x,h=>by simp at h
 | (n,q)::r,x,h=>by
  rw[bG]at h;rw[aL,bG];by_cases c:(q==dz&&env.scope.kind == .function&&env.kindOf n==some .cell)=true
  ·dsimp only;rw[if_pos c];cases e:x==n with
   |true=>exact⟨_,.inl rfl,rfl⟩
   |false=>rw[e]at h;exact Zbw h
  ·dsimp only;rw[if_neg c];cases e:x==n with
   |true=>rw[e]at h;exact⟨q,.inr (aQ h),rfl⟩
   |false=>rw[e]at h;exact Zbw h
noncomputable def ZrG(XN N:List Str)(dn sn:List (Str×c7))(k:Nat)(fr:List Nat):Bool:=
 (sn.all fun y=>(y.2 != .free||dn.lookup y.1==some .cell)&&(y.2 != .local||sn.lookup y.1==some .local))&&N.length==k+fr.length &&
  (aJ fr.length).all fun j=>match fr[j]? with
   |some i=>(match N[k+j]?,XN[i]? with|some x,some y=>x==y&&dn.lookup x==some .cell&&sn.lookup x==some .free&&sn.all (fun y=> !(y.1==x&&y.2 == .cell))|_,_=>false)
   |none=>false
theorem Zuh(hN:X.N=XN)(hd:X.env.scope.names=dn)(cel:∀x,dn.lookup x=some .cell->∃c,X.env.cells.lookup x=some c)(hk:scope.kind=.function)(h:ZrG XN N dn scope.names k fr=true):Blk X scope (clF scope X.env) N k fr:=by
 unfold ZrG at h;simp only[aR,bh,bne_iff_ne,ne_eq,js,beq_iff_eq]at h;obtain⟨⟨h1,h2⟩,h3⟩:=h;have kind:∀x,X.env.kindOf x=dn.lookup x:=fun x=>by rw[<-hd];rfl
 have frc:∀y∈scope.names,y.2=.free->∃c,X.env.cells.lookup y.1=some c:=fun y hy e=>by
  rcases(h1 y hy).1 with z|z
  ·exact absurd e z
  ·exact cel _ z
 have sub:∀x c,(clF scope X.env).lookup x=some c->X.env.cells.lookup x=some c:=fun x c e=>by
  unfold clF at e;rw[<-List.map_reverse]at e;obtain⟨e1,y,e2,e3⟩:=Zee e;have e4:=hU.mp (List.mem_reverse.mp e2);obtain⟨c',g⟩:=frc y e4.1 (by simpa using e4.2)
  rw[e3]at g;rw[g]at e1 ⊢;rw[e1];rfl
 have has:∀x,scope.names.lookup x=some .free->∃c,(clF scope X.env).lookup x=some c:=fun x e=>by
  refine Zcv ?_;have m:=PySem.mem_of_lookup e;exact⟨(x,(X.env.cells.lookup x).getD 0),List.mem_reverse.mpr (a9.mpr ⟨(x,.free),hU.mpr ⟨m,by simp⟩,rfl⟩),rfl⟩
 refine⟨?_,hk,fun y hy e=>?_,sub,fun n x z=>?_,h2,fun j i e=>?_⟩
 ·have:=Zf6 (env:=X.env) scope.names [] frc
  rw[aY]at this;unfold closureFor;exact(congrArg (fun(m:Sem (List (Str×Addr)))=>m >>= fun cs=>(pure cs:Sem (List (Str×Addr)))) this).trans (pure_bind _ _)
 ·rcases(h1 y hy).2 with z|z
  ·exact absurd e z
  ·exact z
 ·have nc:∀m,X.env.scope.names.lookup m=X.env.kindOf m:=fun m=>rfl;have own:scope.names.lookup x=some .cell->∃c,(bD n scope.names (clF scope X.env)).lookup x=some c:=fun e=>bP.mp (PySem.W.cellsFrom_some scope.names n _ (.inl e));have oth:scope.names.lookup x=some .free->∃c,(bD n scope.names (clF scope X.env)).lookup x=some c:=fun e=>by
   obtain⟨c,hc⟩:=has x e;exact bP.mp (PySem.W.cellsFrom_some scope.names n _ (.inr (by rw[hc];rfl)))
  rcases z with z|z
  ·rcases Zam nc z with q|q
   ·exact own q
   ·exact oth q.1
  ·rcases Zam nc z with q|q
   ·exact oth q
   ·cases q.2
 ·have hj:j<fr.length:=(aj.mp e).1;have q:=h3 j (d8.mpr hj);rw[e]at q;dsimp only at q;cases e1:N[k+j]? with
  |none=>rw[e1]at q;cases q
  |some x=>
   cases e2:XN[i]? with
   |none=>rw[e1,e2]at q;cases q
   |some y=>
    rw[e1,e2]at q;simp only[aR,beq_iff_eq]at q;obtain⟨⟨⟨q1,q2⟩,q3⟩,q4⟩:=q;subst q1;obtain⟨kd,r1,r2⟩:=Zbw (env:=X.env) q3;obtain⟨c,r3⟩:=has x q3;refine⟨x,rfl,by rw[hN];exact e2,by rw[kind];exact q2,?_,r3.trans (sub x c r3).symm,fun hm=>?_⟩
    ·rcases r1 with r1|r1
     ·exact .inl (r1▸r2)
     ·exact .inr (r1▸r2)
    ·have:=bh.mp q4 _ hm
     simp at this
theorem Zfb(XN N:List Str)(dn:List (Str×c7))(k:Nat)(fr:List Nat)(hN:autoParam (X.N=XN) Qrf._auto_1)(hd:autoParam (X.env.scope.names=dn) Qrf._auto_1)(hc:autoParam (X.env.cells=bD n dn []) Qrf._auto_1)(hk:autoParam (scope.kind=.function) Qrf._auto_1)(h:ZrG XN N dn scope.names k fr=true:=by decide +kernel):Blk X scope (clF scope X.env) N k fr:=
 Zuh hN hd (fun x e=>by
  have:=PySem.W.cellsFrom_some dn n [] (.inl e)
  rw[hc];exact bP.mp this) hk h
def Ztk(X:Cx):List V->Hp->VK->Prop:=fun vs H Q=>∃(p:Addr) (bs:List Bool),vs=[.ref p]/\SqL X.K H p (bs.map V.bl)/\Q (.bl (bs.all id)) H
theorem Zfw:∀{bs:List Bool}{us:List ah}{i:Nat}{u:ah},ZR (bs.map V.bl) us->us[i]?=some u->∃b,bs[i]?=some b/\u=.bool b
 |[],us,i,u,h,e=>by cases h;simp at e
 |b::r,us,i,u,h,e=>by
  cases h with
  |cons h1 h2=>
   cases i with
   |zero=>simp at e;subst e;exact⟨b,rfl,h1⟩
   |succ i=>simp at e;obtain⟨b',g1,g2⟩:=Zfw h2 e;exact⟨b',by simpa using g1,g2⟩
theorem Zhx(bs:List Bool):((aJ bs.length).all fun i=>(bs[i]?).getD true)=bs.all id:=by
 rw[eQ,bh,bh];constructor
 ·intro h b hb;obtain⟨i,hi,e⟩:=di hb
  have:=h i (d8.mpr hi)
  simp only[aq hi,fN,e]at this;exact this
 ·intro h i hi;have hi':=d8.mp hi;simp only[aq hi',fN];exact h _ (aX hi')
theorem ZgK(hc:X.calm=true):Zbr X (.builtin "all") (Ztk X):=by
 intro pins s σ H vs us Q I rs hz;obtain⟨p,bs,e,hl,q⟩:=hz;subst e;obtain⟨u,rfl,ru⟩:=ZbV rs;cases ru;obtain⟨its,hv,hp,hz⟩:=I.list hl;have hlt:p<s.heap.objs.size:=by obtain⟨_,e,_⟩:=hp.isList;exact Hz e
 refine call_all_walk (wpAny_pyIter_list hp.isList ?_);refine⟨s.heap.objs.size,[s.heap.objs.size,p],[s.heap.objs.size],its.toArray.size,_,_,fun i=>(bs[i]?).getD true,rfl,Walks.list (A:=X.A.in1) (I.ok.hd hc) _ p (bj hlt) its.toArray,⟨⟨_,aW _ rfl,rfl,rfl⟩,hp.isList.push _⟩,fun i v s' Q' E' hP hQ=>?_,fun h' tk hk=>?_⟩
 ·obtain⟨b,e,rfl⟩:=Zfw (i:=i) (u:=v) hv (by simpa using hP)
  simp only[e,fN]at hQ;exact cJ hQ
 ·have e:((aJ its.toArray.size).all fun i=>(bs[i]?).getD true)=bs.all id:=by
   rw[ar,<-hv.length,ae];exact Zhx bs
  rw[e];exact⟨.bl (bs.all id),H,I.kept fun b o e=>hk b o (fun hm=>by rw[dF.mp hm]at e;exact bU _ (Hz e)) (Hq _ e),rfl,q⟩
def Zaz:List D->Option (List Bool)
 |[]=>some []
 |.bl b::r=>match Zaz r with|some bs=>some (b::bs)|none=>none
 |_::_=>none
theorem ZiK{K:Fg}(h9:Reps K H α vs ds):Zaz ds=some bs->vs=bs.map V.bl:=by
 induction ds generalizing vs bs with
 |nil=>intro e;cases h9;cases e;rfl
 |cons d ds ih9=>
  intro e;cases h9 with
  |cons r t=>
   cases r with
   |bl b=>
    cases e1:Zaz ds with
    |none=>simp only[Zaz,e1]at e;cases e
    |some cs=>
     simp only[Zaz,e1,am]at e;subst e;rw[ih9 t e1];rfl
   |_=>cases e
def bAll:W3:=fun ds M=>match ds with
 |[.ref n]=>(match M[n]? with|some (.lst xs)=>(match Zaz xs with|some bs=>.ok (.bl (bs.all id)) M|none=>.bad)|none=>.bad)
 |_=>.bad
theorem Zlz:CO X ξ (Ztk X) bAll:=by
 intro H α M vs ds Q h rs q;cases rs with
 |nil=>exact q.elim
 |cons r tz=>
  cases tz with
  |cons _ _=>cases r<;>exact q.elim
  |nil=>
   cases r with
   |@ref p n hp=>
    cases e1:M[n]? with
    |none=>simp only[bAll,e1]at q;exact q.elim
    |some so=>
     cases so with
     |lst es=>
      cases e2:Zaz es with
      |none=>simp only[bAll,e1,e2]at q;exact q.elim
      |some bs=>
       simp only[bAll,e1,e2]at q;obtain⟨xs,g1,g2⟩:=h.at hp e1
       have:=ZiK g2 e2
       subst this;exact⟨p,bs,rfl,SqL.of g1,q _ H α Ext.refl h (.bl _)⟩
   |_=>exact q.elim
theorem Zdb{n:Nat}(hs:s.heap.IsSliceOf sl .none .none (.int (-1) t))(h:Q ((n:Int)-1,-1,n) s):wpAny (az prog w) A (dE (.ref sl) (pure (n:Int))) Q E s:=by
 obtain⟨os,hos,hcs,hds⟩:=id hs;unfold dE iG;refine Wb (Wb (bf hos hds (x:=.none) rfl (Wb (bf hos hds (x:=.none) rfl (Wb (bf hos hds (x:=.int (-1) t) rfl (Wp ?_)))))));refine Wb (HT.ZaY (.int (-1) t) ?_);show wpAny _ _ (if((-1:Int)==0)=true then _ else _) _ _ s
 rw[if_neg (by decide)]
 refine Wb (HT.ZaY .none (Wb (HT.ZaY .none (Wb (Wp ?_)))));have e1:cP none none (-1) (n:Int)=((n:Int)-1,-1):=rfl;have e2:bN ((n:Int)-1) (-1) (-1)=n:=by
  unfold bN;rw[if_neg (by decide)]
  by_cases c:0<n
  ·rw[if_pos (by lia)]
   have:((n:Int)-1 - -1-1)/(- -1)+1=n:=by
    rw[show(- -1:Int)=1 from rfl,je];lia
   rw[this];lia
  ·rw[if_neg (by lia)]
   lia
 show wpAny _ _ (match cP none none (-1) (n:Int)with|(lo,hi)=>pure (lo,(-1:Int),bN lo hi (-1))) _ _ s
 rw[e1];show wpAny _ _ (pure ((n:Int)-1,(-1:Int),bN ((n:Int)-1) (-1) (-1))) _ _ s;rw[e2];exact Wp h
theorem ZeC{α β:Type}{f g:α->Option β}:∀{l:List α},(∀m∈l,f m=g m)->l.filterMap f=l.filterMap g
 |[],_=>rfl
 |x::r,h=>by
  rw[ck,ck,h x aO,ZeC fun m hm=>h m (ak _ hm)]
theorem ZgL(xs:Array ah):((aJ xs.size).filterMap fun(m:Nat)=>xs[((xs.size:Int)-1+(m:Int)*(-1)).toNat]?).toArray=xs.toList.reverse.toArray:=by
 congr 1;apply iJ;intro i;have all:(aJ xs.size).filterMap (fun(m:Nat)=>xs[((xs.size:Int)-1+(m:Int)*(-1)).toNat]?)=(aJ xs.size).map fun m=>xs[xs.size-1-m]?.getD .none:=by
  rw[<-List.filterMap_eq_map];refine ZeC fun m hm=>?_;have hm':=d8.mp hm;have e:((xs.size:Int)-1+(m:Int)*(-1)).toNat=xs.size-1-m:=by lia
  rw[e];have hlt:xs.size-1-m<xs.size:=by lia
  simp[hlt]
 rw[all];by_cases hi:i<xs.size
 ·have hlt:xs.size-1-i<xs.size:=by lia
  rw[a7,km hi,ju (by simpa using hi)]
  simp[hlt]
 ·rw[aU (by simpa using hi),aU (by simpa using hi)]
theorem ZcM(ht:lx s.heap t items)(hs:s.heap.IsSliceOf sl .none .none (.int (-1) u))(h:Q (.ref s.heap.objs.size) {s with heap:=s.heap.push {cls:=.type "tuple",data:=.seq items.toList.reverse.toArray}})(hsz:items.size<=sizeLine):wpAny (az prog w) A (jc (.ref t) (.ref sl)) Q E s:=by
 have htake:sizeOk (.seq items.toList.reverse.toArray):=by
  show items.toList.reverse.toArray.size<=sizeLine;rw[ar,cM,dh];exact hsz
 obtain⟨os,hos,hcs,hds⟩:=id hs;have hTs:s.TypeIs (.ref sl) "slice":=⟨os,hos,hcs⟩;unfold jc
 try with_reducible refine wpAny_holding ?_
 first|refine Wb (Wp ?_)|skip
 refine Wb (wpAny_sequenceKey ht.typeIs (by decide) ?_)
 refine Wb (f8 (name:=bc "__getitem__") ht.typeIs bR (dA bR ht.typeIs kh ?_ (args_tuple_getitem _ _)))
 show wpAny _ _ (fq (.ref t) >>= _) _ _ s;refine Wb (tupleItemsOf_ ht ?_);refine Wb (kK hTs ?_);rw[if_pos (by decide)]
 refine Wb (Zdb hs ?_);have hno:¬((((items.size:Int)-1)==0&&(-1:Int)==1&&items.size==items.size)=true):=by
  intro q;rw[aR,aR]at q;exact absurd q.1.2 (by decide)
 show wpAny _ _ (if(((items.size:Int)-1)==0&&(-1:Int)==1&&items.size==items.size)=true then _ else _) _ _ s
 rw[if_neg hno,ZgL]
 first
  |exact Wb (m:=bQ _) (bA (Wp ⟨_,rfl,Wp h⟩) htake)
  |exact Wb (m:=bQ _) (bA (Wb (Wp (Wp ⟨_,rfl,Wp h⟩))) htake)
  |exact Wb (Wb (m:=bQ _) (bA (Wp (Wp ⟨_,rfl,Wp h⟩)) htake))
  |exact Wb (Wb (m:=bQ _) (bA (Wp ⟨_,rfl,Wp h⟩) htake))
theorem Reps.rev{K:Fg}{H:Hp}{α:List Addr}:∀{vs:List V}{ds:List D},Reps K H α vs ds->Reps K H α vs.reverse ds.reverse
 |_,_,.nil=>.nil
 |_,_,.cons r t=>by
  rw[cK,cK];exact(Reps.rev t).append (.cons r .nil)
end DL
namespace DL
open PyProof.Rows L2
end DL
namespace DL
open PyProof.Rows L2
end DL
namespace DL
open PyProof.Rows L2
open PySem.W (nsIn excIn tailIn nsOkIn mroIn clsIn typeIn findIn specialIn takesIn kitOne Looks)
noncomputable abbrev bmV:List ah:=[.type "ValueError",.type "Exception",.type "BaseException",.type "object"]
noncomputable def ZbW(K:Fg)(c:Str):Option Addr:=match nsIn K ai c with|some (some (.ref C))=>some C|_=>none
theorem Zbb{K:Fg}(h:ZbW K c=some C):nsIn K ai c=some (some (.ref C)):=by
 unfold ZbW at h
 split at h
 ·rename_i C' e;cases h;exact e
 ·cases h
def Zra(K:Fg)(c:Str):Bool:=match ZbW K c with
 |some C=>excIn K C bmV "ValueError.__new__"&&cL K (.ref C) "__getattribute__"==some (some (.builtin "BaseException.__getattribute__"))&&cL K (.ref C) "__getattr__"==some none&&cL K (.ref C) "__class__"==some (some (.builtin "object.__class__")) &&
  eW K (.builtin "object.__class__") "__get__"==some (some (.builtin "getset_descriptor.__get__"))&&ij K (.builtin "object.__class__")==some true&&gf K C (.type "BaseException")==some true&&gf K C (.type "object")==some true&&(ib K C).isSome
 |none=>false
def Zhy(K:Fg)(c:Str):Bool:=match ZbW K c with
 |some C=>cL K (.ref C) "__getattribute__"==some (some (.builtin "BaseException.__getattribute__"))&&cL K (.ref C) "__getattr__"==some none&&cL K (.ref C) "__class__"==some (some (.builtin "object.__class__")) &&
  eW K (.builtin "object.__class__") "__get__"==some (some (.builtin "getset_descriptor.__get__"))&&ij K (.builtin "object.__class__")==some true&&gf K C (.type "BaseException")==some true&&gf K C (.type "object")==some true&&(ib K C).isSome
 |none=>false
theorem Zkw{K:Fg}(h:Zhy K c=true):∃C,nsIn K ai c=some (some (.ref C))/\DQ.ExcC K C:=by
 unfold Zhy at h
 split at h
 ·rename_i C e;simp only[aR,beq_iff_eq]at h;obtain⟨⟨⟨⟨⟨⟨⟨h2,h3⟩,h4⟩,h5⟩,h6⟩,h7⟩,h8⟩,h9⟩:=h;exact⟨C,Zbb e,h2,h3,h4,h5,h6,h7,h8,h9⟩
 ·cases h
theorem ZmH{K:Fg}(h:Zra K c=true):∃C,nsIn K ai c=some (some (.ref C))/\excIn K C bmV "ValueError.__new__"=true/\DQ.ExcC K C:=by
 unfold Zra at h
 split at h
 ·rename_i C e;simp only[aR,beq_iff_eq]at h;obtain⟨⟨⟨⟨⟨⟨⟨⟨h1,h2⟩,h3⟩,h4⟩,h5⟩,h6⟩,h7⟩,h8⟩,h9⟩:=h;exact⟨C,Zbb e,h1,h2,h3,h4,h5,h6,h7,h8,h9⟩
 ·cases h
theorem ZmI{K:Fg}(X:K.In h)(q:excIn K C bmB newId=true):∃bm N nm q bs hdct sn sub ab col dd k0 k1 k2 k3 k5 mN,h.get? C=some (fF nm q C N bs bm hdct sn sub ab col dd k0 k1 k2 k3 k5 newId)/\h.Ns N mN/\mN "__init__"=none/\kR h bmB bm:=by
 unfold excIn at q
 split at q
 ·rename_i dd cd sl ho
  split at q
  ·rename_i C' bm k0 k1 k2 k3 n k5 hm hs;simp only[aR,beq_iff_eq,gz]at q;obtain⟨⟨⟨⟨⟨rfl,rfl⟩,hdel⟩,ht⟩,hok⟩,hni⟩:=q;obtain⟨nm,bs,mro,ns,qn,hd,sn,sub,ab,col,del⟩:=cd;dsimp only at hm hdel hok hni;subst hm hdel;obtain⟨l⟩:=sl;simp only at hs;subst hs;exact⟨bm,ns,nm,qn,bs,hd,sn,sub,ab,col,dd,k0,k1,k2,k3,k5,_,X _ _ ho,.of_isNs (PySem.W.isNs_of_in X hok),PySem.W.nsMap_none_of_in X hok hni,PySem.W.tail_of_in X ht⟩
  ·cases q
 ·cases q
def Zbx(K:Fg)(d:Str)(tab:List (Str×Bool)):Bool:=match ZbW K d with
 |some D=>tab.all fun p=>Zhy K p.1&&(match ZbW K p.1 with|some C=>jL K (.ref C) (.ref D)==some p.2|none=>false)
 |none=>false
def ZlA(K:Fg)(T:String)(tab:List (Str×Bool)):Bool:=tab.all fun p=>Zhy K p.1&&(match ZbW K p.1 with|some C=>jL K (.ref C) (.type T)==some p.2|none=>false)
def Zef(K:Fg)(d:Str)(cs:List Str):Bool:=match ZbW K d with
 |some D=>gf K D (.type "BaseException")==some true&&jK K (.ref D)==some (.type "type")&&(ib K D).isSome&&cs.all fun c=>Zhy K c&&(match ZbW K c with|some C=>gf K C (.ref D)==some true|none=>false)
 |none=>false
theorem ZeD{K:Fg}(h:nsIn K ai c=some (some (.ref C))):ZbW K c=some C:=by
 unfold ZbW;rw[h]
theorem ZmJ{α:Type}{tab:List (Str×α)}{b:α}(h:tab.lookup c=some b):(c,b)∈tab:=PySem.mem_of_lookup h
def Zan(tab:List (Str×Bool))(f:Ev):Ev:=fun ρ M=>(f ρ M).bind fun x M1=>match x with|.err c _=>(match tab.lookup c with|some b=>.ok (.bl b) M1|none=>.bad)|_=>.bad
section
variable {p:Pos}{tab:List (Str×Bool)}
def Zui(X:Cx)(cv2:V)(tab:List (Str×Bool)):List V->Hp->VK->Prop:=fun vs H Q=>∃(q:Addr) (C:Addr) (c:Str) (xs:List V) (b:Bool),vs=[.ref q,cv2]/\EOk H q C xs/\nsIn X.K ai c=some (some (.ref C))/\tab.lookup c=some b/\Q (.bl b) H
theorem ZmK(I:Inv X pins σ H s)(h:EOk H q C xs):∃oe od,PySem.W.InstAt s.heap q oe C od:=by
 obtain⟨oe,u,vs,h1,h2,h3,h4,h5⟩:=h;have g:=(I.hok q _ h1).1;have nc:PySem.W.notCls oe=true:=by unfold PySem.W.notCls;rw[h3]
 rcases h5 with⟨_,h5⟩|⟨dx,fs,k1,k2,k3⟩
 ·exact⟨oe,none,g,h2,nc,by rw[h5];trivial⟩
 ·obtain⟨o,he⟩:=Zcp (I.hok _ _ k2);exact⟨oe,some o,g,h2,nc,by rw[k1];exact he⟩
theorem Zkx(hv:∀w,ZY cv2 w->w=cv)(ht:∀c b C,tab.lookup c=some b->nsIn X.K ai c=some (some (.ref C))->DQ.ExcC X.K C/\jL X.K (.ref C) cv=some b):Zbr X (.builtin "isinstance") (Zui X cv2 tab):=by
 intro pins s σ H vs us Q I rs hz;obtain⟨q,C,c,xs,b,e1,h1,h2,h3,h4⟩:=hz;subst e1;obtain⟨u,w,rfl,ru,rw'⟩:=Zh8 rs;cases(show u=aA q from ru);cases hv w rw';obtain⟨oe,od,J⟩:=ZmK I h1;obtain⟨k1,k2⟩:=ht c b C h3 h2;exact PySem.W.kia_one (DQ.Zkm k1) I.kIn J k2 (fun z=>nomatch z) fun tk=>⟨.bl b,H,I.tok tk,rfl,h4⟩
theorem ZlB{K:Fg}{cv:ah}(h:∀p∈tab,Zhy K p.1=true/\∃C,ZbW K p.1=some C/\jL K (.ref C) cv=some p.2):∀c b C,tab.lookup c=some b->nsIn K ai c=some (some (.ref C))->DQ.ExcC K C/\jL K (.ref C) cv=some b:=by
 intro c b C h1 h2;obtain⟨h3,C',h4,h5⟩:=h (c,b) (ZmJ h1);obtain⟨C'',h6,h7⟩:=Zkw h3;rw[h2]at h6;cases h6;rw[ZeD h2]at h4;cases h4;exact⟨h7,h5⟩
theorem ZiL(hv:∀w,ZY cv2 w->w=cv)(ht:∀c b C,tab.lookup c=some b->nsIn X.K ai c=some (some (.ref C))->DQ.ExcC X.K C/\jL X.K (.ref C) cv=some b)(hty:PE X ty (tC cv2))(hm:X.mg "isinstance"=none)(ha:DE X ξ e fa)(hg:autoParam (Gl X "isinstance") Qrf._auto_1)(he:autoParam (af [e,ty] X.env=(false,eval e X.env)::af [ty] X.env) Qrf._auto_1)(he2:autoParam (af [ty] X.env=(false,eval ty X.env)::af [] X.env) Qrf._auto_1)(hpl:autoParam ((bT pos (af [ty] X.env)).any (·.1)=false) Qrf._auto_1):DE X ξ (.Call (.Name "isinstance" p) [e,ty] [] pos) (Zan tab fa):=by
 obtain⟨ta,ha,qa⟩:=ha;refine⟨_,Zep (Zkx hv ht) hg hm (by with_unfolding_all rfl) (Zb3 ha (Zb3 hty Zgx he2) he) (by decide) (by decide) he hpl,fun σ ρ H α M Q s h q=>?_⟩
 refine qa σ ρ H α M _ s h (OG.seq q fun x M1 v H1 α1 e1 h1 r1 q1=>?_);cases r1 with
 |@err q C c xs ds k1 k2 k3=>
  cases et:tab.lookup c with
  |none=>simp only[et]at q1;exact q1.elim
  |some b=>
   simp only[et]at q1;exact⟨q,C,c,xs,b,rfl,k2,k1,et,q1 _ H1 α1 Ext.refl h1 (.bl _)⟩
 |_=>exact q1.elim
theorem ZaI(ht:Zbx X.K y tab=true)(gl:∀c v,nsIn X.K ai c=some (some v)->X.mg c=some v)(hm:X.mg "isinstance"=none)(ha:DE X ξ e fa)(hg:autoParam (Gl X "isinstance") Qrf._auto_1)(hgT:autoParam (Gl X y) Qrf._auto_1)(hdb:autoParam ((y==("__debug__":Str))=false) Qde._auto_1)(he:autoParam (af [e,.Name y p2] X.env=(false,eval e X.env)::af [.Name y p2] X.env) Qrf._auto_1)(he2:autoParam (af [.Name y p2] X.env=(false,eval (.Name y p2) X.env)::af [] X.env) Qrf._auto_1)(hpl:autoParam ((bT pos (af [.Name y p2] X.env)).any (·.1)=false) Qrf._auto_1):DE X ξ (.Call (.Name "isinstance" p) [e,.Name y p2] [] pos) (Zan tab fa):=by
 unfold Zbx at ht
 split at ht
 ·rename_i D hD;refine ZiL (cv:=.ref D) (cv2:=.ref D) (fun w z=>z) (ZlB fun q hq=>?_) (Zh0 hgT (gl y _ (Zbb hD)) rfl hdb) hm ha hg he he2 hpl;have z:=bh.mp ht q hq;rw[aR]at z;refine⟨z.1,?_⟩;cases hc:ZbW X.K q.1 with
  |none=>rw[hc]at z;cases z.2
  |some C=>rw[hc]at z;exact⟨C,rfl,beq_iff_eq.mp z.2⟩
 ·cases ht
theorem Zo1(ht:ZlA X.K T tab=true)(hm:X.mg "isinstance"=none)(hmT:X.mg y=none)(hvT:bB y=some (.type T))(ha:DE X ξ e fa)(hg:autoParam (Gl X "isinstance") Qrf._auto_1)(hgT:autoParam (Gl X y) Qrf._auto_1)(hn:autoParam (y≠"__name__") Qde._auto_1)(hdb:autoParam ((y==("__debug__":Str))=false) Qde._auto_1)(he:autoParam (af [e,.Name y p2] X.env=(false,eval e X.env)::af [.Name y p2] X.env) Qrf._auto_1)(he2:autoParam (af [.Name y p2] X.env=(false,eval (.Name y p2) X.env)::af [] X.env) Qrf._auto_1)(hpl:autoParam ((bT pos (af [.Name y p2] X.env)).any (·.1)=false) Qrf._auto_1):DE X ξ (.Call (.Name "isinstance" p) [e,.Name y p2] [] pos) (Zan tab fa):=by
 refine ZiL (cv:=.type T) (cv2:=.ty T) (fun w z=>z) (ZlB fun q hq=>?_) (Zh1 hgT hmT hvT (v:=.ty T) rfl hn hdb) hm ha hg he he2 hpl;have z:=bh.mp ht q hq;rw[aR]at z;refine⟨z.1,?_⟩;cases hc:ZbW X.K q.1 with
 |none=>rw[hc]at z;cases z.2
 |some C=>rw[hc]at z;exact⟨C,rfl,beq_iff_eq.mp z.2⟩
theorem ZeE:bB "ValueError"=some (.type "ValueError"):=by decide +kernel
theorem ZlC(k:HOk P w H h)(hn:h.get? e=none):H e=none:=by
 cases z:H e with
 |none=>rfl
 |some u=>obtain⟨o,g⟩:=Zcp (k e u z);rw[hn]at g;cases g
def Zby(c:Str)(fs:Av):Sv:=fun ρ M=>Zaf (fs ρ M) fun ds M1=>if ds.length<=1000 then .exc c M1 else .bad
theorem ZbP(T:Thr X ξ)(hx:Zra X.K x=true)(gl:∀c v,nsIn X.K ai c=some (some v)->X.mg c=some v)(hh:X.A.handled=none)(ha:DA X ξ (a::as) fs)(hg:autoParam (Gl X x) Qrf._auto_1)(hdb:autoParam ((x==("__debug__":Str))=false) Qde._auto_1)(hf:autoParam (Ziu x=false) Qde._auto_1)(he:autoParam (af (a::as) X.env=(false,eval a X.env)::af as X.env) Qrf._auto_1)(hpl:autoParam ((bT cpos (af as X.env)).any (·.1)=false) Qrf._auto_1):DS X ξ (.Raise (some (.Call (.Name x np) (a::as) [] cpos)) none pos) (Zby x fs):=by
 obtain⟨ta,pa,qa⟩:=ha;obtain⟨C,hC,hq,_⟩:=ZmH hx;refine⟨fun Dn σ H=>ta σ H fun vs H1=>vs.length<=sizeLine/\ξ (.ref C) none H1,fun pins s σ H Dn I h=>?_,fun σ ρ H α M Dn s h q=>?_⟩
 ·obtain⟨tl,N,nm,q,bs,hdct,sn,sub,ab,col,dd,k0,k1,k2,k3,k5,mN,gC,hN,hni,TL⟩:=ZmI I.ok.mod.kin hq;refine wpAny_Raise_call_subT (C:=C) (nm:=nm) (q:=q) (N:=N) (bs:=bs) (bm:=tl) (hdct:=hdct) (sn:=sn) (sub:=sub) (ab:=ab) (col:=col) (dd:=dd) (k0:=k0) (k1:=k1) (k2:=k2) (k3:=k3) (k5:=k5) F.excBase_ValueError (mN:=mN)
   (TL.hasType F.excBase_ValueError.hasBase) hh (by rw[he];show(false||(bT cpos (af as X.env)).any (·.1))=false;rw[hpl];rfl) hni (Zdi I hg (gl x _ hC) ⟨rfl,?_⟩ hdb)
  have hs:=pa cpos pins s σ H _ I h;rw[he]at hs ⊢;refine Calls.evalArgs_plain (wpAny_mono hs (fun us s2 ⟨vs,H1,I1,r1,z1,z2⟩=>⟨rfl,by rw[<-r1.length];exact z1,I1.bk _ _ gC,hN.keeps I1.bk,TL.keeps I1.bk,fun h' e m=>?_⟩) fun _ _ y=>y)
  obtain⟨t,g1,g2,g3⟩:=m.there;exact T.mak pins σ H1 H1 s2 {s2 with heap:=h'} e _ _ C I1 rfl I1.bare (Un.kept m.keeps) (I1.hok.kept m.keeps) m.new g1 rfl rfl rfl rfl (ZlC I1.hok m.new) z2
 ·refine qa σ ρ H α M _ s h (FP.seq q fun ds M1 vs H1 α1 e1 h1 r1 w1=>?_);by_cases hl:ds.length<=1000
  ·rw[if_pos hl]at w1;exact⟨by rw[r1.length];exact Zmz hl,w1 C H1 α1 hC Ext.refl none (.inl ⟨hf,h1,rfl⟩)⟩
  ·rw[if_neg hl]at w1;exact w1.elim
end
end DL
namespace DL
open PyProof.Rows L2
open PySem.W (nsIn excIn tailIn nsOkIn mroIn clsIn typeIn findIn specialIn takesIn kitOne Looks looks_mroIn looks_typeIn)
theorem Zfx{K:Fg}{D:Addr}(X:K.In s.heap)(I:PySem.W.InstAt s.heap e oe C od)(hD:jK K (.ref D)=some (.type "type"))(hi:(ib K D).isSome=true)(hb:gf K D (.type "BaseException")=some true)(hm:gf K C (.ref D)=some b)(h:Q b s):wpAny (az prog w) A (excMatches (.ref e) (.ref D)) Q E s:=by
 obtain⟨hh,g,d,tk,os⟩:=s;have L0:=I.type (M:=az prog w);have L1:=kS (M:=az prog w) X hD;have L2:jI (az prog w) hh (gH (.ref D) (.type "tuple")) false:=L1.andThen (jI.of_pure tc_notTuple);have L3:jI (az prog w) hh (isType (.ref D)) true:=by
  obtain⟨cd,hc⟩:=bP.mp hi;unfold ib at hc
  split at hc
  ·rename_i o1 o2 o3 o4 ho;intro A' Q' E' s' k q;unfold isType loadHead;exact Wb (wpAny_loadPart (k _ _ (X _ _ ho)) (Wp q))
  ·cases hc
 have L4:=fE (M:=az prog w) X hb;have L5:=fE (M:=az prog w) X hm;have L6:jI (az prog w) hh (isExcClass (.ref D)) true:=L3.andThen (by simpa using L4)
 unfold excMatches;refine Wb (L2.at ?_);simp only[bK,if_false];refine Wb (m:=forIn [aA D] _ _) ?_;rw[jr];refine Wb (Wb (L6.at ?_));simp only[dW,bK,if_false];refine Wp ?_;dsimp only;rw[List.forIn_nil];refine Wp (Wb (L0.at (Wb ?_)));rw[jr];refine Wb (Wb (L5.at ?_));cases b with
 |true=>exact Wp (Wp (Wp h))
 |false=>
  simp only[bK,if_false];refine Wp ?_;dsimp only;rw[List.forIn_nil];exact Wp (Wp h)
noncomputable def Cx.han(X:Cx)(e:Addr):Cx:={X with A:=X.A.mark (some (.ref e)),calm:=false,xe:=fun _ _=>False}
noncomputable def Cx.tri(X:Cx)(pn:Pn)(xe:Vp)(W:List Bool)(σ:L2.St):Cx:={X with pn:=pn,xe:=xe,fxs:=some (W,σ)}
theorem Zfy(r:Room k A)(h:j<=k)(hj:j<100):Room j (A.mark (some v)):=⟨fun z=>absurd z (Nat.not_le_of_lt hj),r.gd,(r.mono h).dp,(r.mono h).un⟩
theorem ZmL:Thr (Cx.han X e) E0:=⟨eV.never,fun _ _ _ _ _ _ _ ⟨_,_,_,_,_,_,_,_,_,_,_,_,_,q⟩=>q,fun _ _ _ _ _ _ _ _ _ _ _ _ _ _ _ _ _ _ _ _ _ _ q=>q⟩
theorem Zo2(ok:X.Ok):(Cx.han X e).Ok:=
 ⟨ok.mod,ok.kind,ok.glob,ok.blt,ok.above,ok.inj,ok.has,ok.cab,fun z=>(by cases z),ok.frames,ok.stk,ok.exf,ok.bs,ok.bsz,ok.noex,ok.exfs,ok.funs,ok.frf,ok.tb⟩
theorem Zky(ok:(Cx.han X e).Ok)(hh:X.A.handled=none):X.Ok:=
 ⟨ok.mod,ok.kind,ok.glob,ok.blt,ok.above,ok.inj,ok.has,ok.cab,fun _=>hh,ok.frames,ok.stk,ok.exf,ok.bs,ok.bsz,ok.noex,ok.exfs,ok.funs,ok.frf,ok.tb⟩
theorem Zo3(ok:X.Ok):(Cx.tri X pn xe W σ).Ok:=
 ⟨ok.mod,ok.kind,ok.glob,ok.blt,ok.above,ok.inj,ok.has,ok.cab,ok.hd,ok.frames,ok.stk,ok.exf,ok.bs,ok.bsz,ok.noex,ok.exfs,ok.funs,ok.frf,ok.tb⟩
theorem Zkz(ok:(Cx.tri X pn xe W σ).Ok):X.Ok:=
 ⟨ok.mod,ok.kind,ok.glob,ok.blt,ok.above,ok.inj,ok.has,ok.cab,ok.hd,ok.frames,ok.stk,ok.exf,ok.bs,ok.bsz,ok.noex,ok.exfs,ok.funs,ok.frf,ok.tb⟩
theorem ZiM(I:Inv X pins σ H s)(q:Qd (X.A.mark (some (.ref e))) H):Inv (Cx.han X e) pins σ H s:=⟨Zo2 I.ok,I.os,I.bare,I.base,I.loc,I.cell,I.free,I.freeC,I.pin,I.hok,I.len,q,I.fx⟩
theorem Zcw(I:Inv (Cx.han X e) pins σ H s)(hh:X.A.handled=none):Inv X pins σ H s:=⟨Zky I.ok hh,I.os,I.bare,I.base,I.loc,I.cell,I.free,I.freeC,I.pin,I.hok,I.len,.inl hh,I.fx⟩
theorem ZiN(I:Inv X pins σ H s):Inv (Cx.tri X (X.pn++pins) xe W σ) [] σ H s:=⟨Zo3 I.ok,I.os,I.bare,I.base,I.loc,I.cell,I.free,I.freeC,fun p hp=>I.pin p (by rw[aY]at hp;exact hp),I.hok,I.len,I.qd,fun W' σ0 e j _=>by cases e;rfl⟩
theorem ZS(hx:X.fxs=none)(I:Inv (Cx.tri X (X.pn++pins) xe W σ0) pins' σ H s):Inv X pins σ H s:=⟨Zkz I.ok,I.os,I.bare,I.base,I.loc,I.cell,I.free,I.freeC,fun p hp=>I.pin p (fA _ hp),I.hok,I.len,I.qd,.free hx⟩
theorem Zfz(fxn:X.fxs=none)(I:Inv X pins σ H s)(hn:h'.Ns X.env.locals m')(hs:eG X.env.locals s.heap h'):Inv X pins (aB X.N.length none) H {s with heap:=h',toks:=t}:=by
 obtain⟨m,⟨oL,es,ep,hoL,hdL,r⟩,hl⟩:=id I.loc;have neL:∀b o,X.s₀.heap.get? b=some o->b≠X.env.locals:=fun b o x=>bj (ay (Hz x) I.ok.above);refine⟨I.ok,I.os,I.bare,⟨fun b o x n hb hx=>(hs.2 b (neL b o x)).trans (I.base.keep b o x n hb hx),fun b o x n hb hx=>?_,I.base.free,fun b o x hx=>?_,I.base.tups,I.base.frzs,I.base.tbls⟩,⟨m',hn,fun i x v e1 e2 e3=>?_⟩,fun x c z=>?_,I.free,I.freeC,fun p hp=>?_,fun b u z=>?_,?_,I.qd,.free fxn⟩
 ·obtain⟨sl,z⟩:=I.base.slot b o x n hb hx;exact⟨sl,(hs.2 b (neL b o x)).trans z⟩
 ·obtain⟨o',z⟩:=I.base.there b o x hx;exact⟨o',(hs.2 b (neL b o x)).trans z⟩
 ·rw[f9]at e2
  split at e2<;>cases e2
 ·obtain⟨v,q⟩:=I.cell x c z;exact⟨v,q.sameBut hs (I.cne x c z)⟩
 ·obtain⟨g1,g2,g3,g4,g5⟩:=I.pin p hp;exact⟨(hs.2 p.1 g3).trans g1,g2,g3,g4,g5⟩
 ·refine(I.hok b u z).stay (fun c w' hc q=>(hs.2 c ?_).trans q) (fun _ q=>q) fun _ _ q=>q;rintro rfl;rcases hc with rfl|hc
  ·rw[I.free]at z;cases z
  ·rw[I.free]at hc;cases hc
 ·rw[aZ]
theorem ZfA(I:Inv X pins σ H s)(hn:H a=none)(he:s.heap.get? a=some o)(hd:o.data=.fields vs)(h0:X.s₀.heap.get? a=none)(hp:∀p∈X.pn++pins,p.1≠a):Inv X pins σ (upd H a (.frz o (.own 0))) s:=by
 have ne:∀b u,H b=some u->b≠a:=fun b u z q=>by rw[q,hn]at z;cases z
 refine⟨I.ok,I.os,I.bare,⟨I.base.keep,I.base.slot,fun b o' x n hx=>?_,I.base.there,fun b xs x=>?_,fun b o' u x=>?_,fun b ps x=>?_⟩,I.loc,I.cell,?_,fun x c z=>?_,fun p hp'=>?_,fun b u z=>?_,I.len,I.qd.mono fun b o' u x=>?_,I.fx⟩
 ·rw[Zs (fun z=>by rw[z,h0]at x;cases x)]
  exact I.base.free b o' x n hx
 ·have:=I.base.tups b xs x
  rw[Zs (ne b _ this)];exact this
 ·have:=I.base.frzs b o' u x
  rw[Zs (ne b _ this)];exact this
 ·obtain⟨m1,z⟩:=I.base.tbls b ps x;exact⟨m1,by rw[Zs (ne b _ z)];exact z⟩
 ·rw[Zs (fun z=>?_)]
  ·exact I.free
  ·obtain⟨m,⟨oL,es,ep,hoL,hdL,r⟩,_⟩:=I.loc;rw[z,he]at hoL;cases hoL;rw[hd]at hdL;cases hdL
 ·rw[Zs (fun q=>?_)]
  ·exact I.freeC x c z
  ·obtain⟨v,oc,g1,g2⟩:=I.cell x c z;rw[q,he]at g1;cases g1;rw[hd]at g2;cases g2
 ·obtain⟨g1,g2,g3,g4,g5⟩:=I.pin p hp';exact⟨g1,by rw[Zs (hp p hp')];exact g2,g3,g4,g5⟩
 ·by_cases hb:b=a
  ·subst hb;rw[Zp]at z;cases z;exact⟨he,⟨o,he⟩⟩
  ·rw[Zs hb]at z;exact(I.hok b u z).stay (fun _ _ _ q=>q) (fun c q=>by rw[Zs (ne c _ q)];exact q) fun c xs q=>by rw[Zs (ne c _ q)];exact q
 ·rw[Zs (ne b _ x)];exact x
theorem ZiO{B:Heap}(I:Inv X pins σ H s)(u:Un (frs X.stack) [] H H' s.heap h1)(hok:HOk X.prog X.w H' h1)(t1:∀b q,H' b=some q->∃o,B.get? b=some o)(t2:∀b o,s.heap.get? b=some o->b∉frs X.stack->∃o',B.get? b=some o')(st1:B.StaysIn h1)(st2:B.StaysIn h2)(up:h1.UpToSlots h2):Un (frs X.stack) [] H H' s.heap h2/\HOk X.prog X.w H' h2:=by
 have kB:∀b ob o,B.get? b=some ob->h1.get? b=some o->h2.get? b=some o:=fun b ob o e x=>by
  have z:=st1 b ob e;rw[x]at z;cases z;exact st2 b _ e
 have sl:∀b o,s.heap.get? b=some o->H b=none->b∈frs X.stack->∃sl,h2.get? b=some {o with slots:=sl}:=fun b o x n hb=>by
  obtain⟨s2,e2⟩:=u.any x n (by simp)
  obtain⟨_,o',g1,g2⟩:=I.stack.mem hb;rw[x]at g1;cases g1;obtain⟨s3,e3⟩:=up b _ e2 g2;exact⟨s3,e3⟩
 refine⟨⟨fun b o x n hb _=>?_,fun b o x n hb _=>sl b o x n hb,u.free,fun b o x _=>?_,u.tups,u.frzs,u.tbls⟩,fun a o x=>?_⟩
 ·obtain⟨ob,g⟩:=t2 b o x hb;exact kB b ob o g (u.keep b o x n hb (by simp))
 ·by_cases hb:b∈frs X.stack
  ·obtain⟨s1,e1⟩:=sl b o x (I.stkFree b hb) hb;exact⟨_,e1⟩
  ·obtain⟨ob,g⟩:=t2 b o x hb;exact⟨ob,st2 b ob g⟩
 ·refine(hok a o x).stay (fun b q hb y=>?_) (fun _ q=>q) fun _ _ q=>q;have tr:∃q,H' b=some q:=by
   rcases hb with z|z
   ·exact⟨o,z▸x⟩
   ·exact⟨_,z⟩
  obtain⟨q',z⟩:=tr;obtain⟨ob,g⟩:=t1 b q' z;exact kB b ob q g y
theorem ZcN{A:dc}(hfr:A.frames=some (env::outer))(hf:env.frame=some L)(hl:s.heap.FunFrames B (env::outer))(he:s.heap.get? e=some oe)(hs:B.StaysIn s.heap)(hb:B.get? e=none)(hd:oe.data=.fields vs)(h1:vs[1]?=some .none)(h2:vs[2]?=some .none)(h:∀h',DQ.Fly B (env::outer) e oe.cls oe.dict (gk L) h'->s.heap.UpToSlots h'->Q () {s with heap:=h'}):wpAny M A (dB (.ref e) env) Q E s:=by
 unfold dB;simp only[hf];refine Wb (bf he hd h1 ?_);rw[if_neg (by decide)]
 exact DQ.Zcj hfr hl hf he hs hb hd (aV.mp h2).1 h2 h
noncomputable def kpR:List Bool->Ro->Ro
 |b::m,x::r=>(bif b then none else x)::kpR m r
 |_,[]=>[]
 |[],_::r=>none::kpR [] r
theorem ZeF:∀(W:List Bool)(ρ:Ro),(kpR W ρ).length=ρ.length
 |[],[]=>rfl
 |_::_,[]=>rfl
 |[],_::r=>by rw[kpR,ao,ao,ZeF [] r]
 |_::m,_::r=>by rw[kpR,ao,ao,ZeF m r]
theorem ZgM:∀(W:List Bool)(ρ:Ro)(j:Nat)(d:D),(kpR W ρ)[j]?=some (some d)->W[j]?=some false/\ρ[j]?=some (some d)
 |[],[],_,_,h=>by simp[kpR]at h
 |_::_,[],_,_,h=>by simp[kpR]at h
 |[],_::r,0,_,h=>by simp[kpR]at h
 |[],x::r,j+1,d,h=>by
  have:=ZgM [] r j d (by simpa [kpR]using h)
  simp at this
 |b::m,x::r,0,d,h=>by
  cases b with
  |true=>simp[kpR]at h
  |false=>exact⟨rfl,by simpa [kpR]using h⟩
 |b::m,x::r,j+1,d,h=>by
  have:=ZgM m r j d (by simpa [kpR]using h)
  simpa using this
def fsE(c:Str)(M:Sto):List D:=if Ziu c=true then(match M.getLast? with|some (.lst xs)=>xs|none=>[])else[]
def stE(c:Str)(M:Sto):Sto:=if Ziu c=true then M.dropLast else M
theorem Zo4(h:Ziu c=false):fsE c M=[]:=by unfold fsE;rw[h];rfl
theorem Zo5(h:Ziu c=false):stE c M=M:=by unfold stE;rw[h];rfl
theorem Zo6{M:Sto}(h:Ziu c=true):fsE c (M++[.lst ds])=ds:=by unfold fsE;rw[if_pos h,List.getLast?_concat]
theorem Zo7(h:Ziu c=true):stE c (M++[.lst ds])=M:=by unfold stE;rw[if_pos h,List.dropLast_concat]
theorem XO.hr{K:Fg}(h:XO K H α c M dct):HR K H α (stE c M):=by
 rcases h with⟨h1,h2,_⟩|⟨h1,M0,ds,dx,fs,rfl,h2,_⟩
 ·rw[Zo5 h1];exact h2
 ·rw[Zo7 h1];exact h2
theorem XO.rep{K:Fg}(h:XO K H α c M oe.dict)(hn:H e=none)(hC:nsIn K ai c=some (some (.ref C)))(k2:oe.cls=.ref C)(k4:oe.data=.fields vs)(k5:vs[2]?=some .none):Rep K (upd H e (.frz oe (.own 0))) α (.ref e) (.err c (fsE c M)):=by
 have ex:Ext K H (upd H e (.frz oe (.own 0))) α α:=Ext.new0 hn;rcases h with⟨h1,h2,h3⟩|⟨h1,M0,ds,dx,fs,rfl,h2,h3,h4,h5,h6⟩
 ·rw[Zo4 h1];exact .err hC ⟨oe,.own 0,vs,Zp,k2,k4,k5,.inl ⟨rfl,h3⟩⟩ .nil
 ·rw[Zo6 h1];refine .err hC ⟨oe,.own 0,vs,Zp,k2,k4,k5,.inr ⟨dx,fs,h3,?_,rfl,h5⟩⟩ (Reps.mono ex h6);rw[Zs (fun z=>by rw[z,hn]at h4;cases h4)]
  exact h4
theorem XO.inst{K:Fg}(h:XO K H α c M oe.dict)(hok:HOk P w H hp)(he:hp.get? e=some oe)(k2:oe.cls=.ref C)(k4:oe.data=.fields vs):∃od,PySem.W.InstAt hp e oe C od:=by
 have nc:PySem.W.notCls oe=true:=by unfold PySem.W.notCls;rw[k4]
 rcases h with⟨h1,h2,h3⟩|⟨h1,M0,ds,dx,fs,_,h2,h3,h4,h5,h6⟩
 ·exact⟨none,he,k2,nc,by rw[h3];trivial⟩
 ·obtain⟨o,g⟩:=Zcp (hok _ _ h4);exact⟨some o,he,k2,nc,by rw[h3];exact g⟩
def ZlD(gb:Sv)(cs:List Str)(W:List Bool)(i:Nat)(gh:Sv):Sv:=fun ρ M=>match gb ρ M with
 |.exc c M1=>if cs.contains c=true then(match gh ((kpR W ρ).set i (some (.err c (fsE c M1)))) (stE c M1)with
  |.ret d M2=>.ret d M2
  |.nx _ M2=>.nx (aB ρ.length none) M2
  |_=>.bad)else .bad
 |o=>o
theorem ZmM{s2:aC}{D:Addr}{M1:Sto}(fxn:X.fxs=none)(srk:SR X.K H2 α1 σ1 ρk)(hx:X.ex=[])(hh:X.A.handled=none)(hN:X.N.Nodup)(hi:X.N[i]?=some n)(hl:X.env.kindOf n=some .local)(hg:Gl X d)(hdb:(d==("__debug__":Str))=false)(hmD:X.mg d=some (.ref D))(hD1:jK X.K (.ref D)=some (.type "type"))(hD2:(ib X.K D).isSome=true)(hD3:gf X.K D (.type "BaseException")=some true)(hC1:gf X.K C (.ref D)=some true)(hC2:nsIn X.K ai c=some (some (.ref C)))(hs:∀ea,DSs (Cx.han X ea) E0 (b0::suite) gh)(I1:Inv X pins σ1 H1 s1)(os:s2.os=s1.os)(bare:d6 s2.gens)(un:Un (frs X.stack) [] H1 H2 s1.heap s2.heap)(hok:HOk X.prog X.w H2 s2.heap)(t1:∀b u,H2 b=some u->∃o,B.get? b=some o)(t2:∀b o,s1.heap.get? b=some o->b∉frs X.stack->∃o',B.get? b=some o')(st2:B.StaysIn s2.heap)(fly:DQ.Fly B X.stack ea (.ref C) dct fl h3)(up3:s2.heap.UpToSlots h3)(xo:XO X.K H2 α1 c M1 dct)(fp:∀H3,Ext X.K H2 H3 α1 α1->FP X.K H3 α1 E0 {nx:=fun _ H'=>Dn.nx (aB X.N.length none) H',rt:=Dn.rt} (gh (ρk.set i (some (.err c (fsE c M1)))) (stE c M1))):wpAny (az X.prog X.w) X.A (fL (.ref ea) none) (fun _ s₃=>wpAny (az X.prog X.w) X.A (jM (.ref ea) X.env [.ExceptHandler (some (.Name d np)) (some n) (b0::suite) hpos]) (SP X pins Dn) X.xe s₃) X.xe {s2 with heap:=h3}:=by
 refine DQ.Za7 (s:={s2 with heap:=h3}) fly fun h4 f4 up4=>?_;have inv:∀h,B.StaysIn h->s2.heap.UpToSlots h->Inv X pins σ1 H2 {s2 with heap:=h}:=fun h st up=>by
  obtain⟨a1,a2⟩:=ZiO I1 un hok t1 t2 st2 st up;exact I1.call' (s':={s2 with heap:=h}) (ch:=[]) os a1 a2 bare fun b z=>absurd z (by simp)
 have J4:=inv h4 f4.stay (up3.trans up4);obtain⟨oe4,vs4,T4,oT4,ts4,g1,g2,g3,g4,g5,g6⟩:=id f4.obj;refine ko (jv ?_) (by intro q;cases q)
 refine Calls.Name_function_global J4.ok.kind hg (Calls.loadGlobal_global (by rw[J4.ok.glob];exact J4.mod.glob.keeps J4.bk) hmD ?_) hdb
 obtain⟨od4,in4⟩:=XO.inst (g3▸xo) J4.hok g1 g2 g4;refine Zfx (od:=od4) J4.kIn in4 hD1 hD2 hD3 hC1 ?_;refine codeAny_handlers_suite_as ?_;refine DQ.Za7 (s:={s2 with heap:=h4}) f4 fun h5 f5 up5=>?_;have J5:=inv h5 f5.stay ((up3.trans up4).trans up5);obtain⟨oe,vs,T5,oT5,ts5,k1,k2,k3,k4,k5,k6⟩:=id f5.obj;have nB:B.get? ea=none:=f5.new;have hn:H2 ea=none:=by
  cases z:H2 ea with
  |none=>rfl
  |some u=>obtain⟨o,q⟩:=t1 ea u z;rw[nB]at q;cases q
 have nf:ea∉frs X.stack:=DQ.apart f5.frames k1 k4;have h0:X.s₀.heap.get? ea=none:=by
  cases z:X.s₀.heap.get? ea with
  |none=>rfl
  |some o=>
   have nx:ea∉X.ex:=by rw[hx];simp
   obtain⟨o',q⟩:=I1.base.there ea o z nx;obtain⟨o2,q2⟩:=t2 ea o' q nf;rw[nB]at q2;cases q2
 have hp:∀p∈X.pn++pins,p.1≠ea:=fun p hp z=>by
  obtain⟨q1,_,q3,q4,_⟩:=I1.pin p hp;obtain⟨o2,q2⟩:=t2 p.1 p.2 q1 (by rw[z];exact nf)
  rw[z,nB]at q2;cases q2
 have J6:=ZfA J5 hn k1 k4 h0 hp;have J7:=ZiM (e:=ea) J6 (.inr ⟨ea,oe,.own 0,vs,rfl,Zp,k4,k5⟩);have il:i<X.N.length:=(aj.mp hi).1;refine Zcg (X:=Cx.han X ea) (v:=.ref ea) J7 hN hi (.inl hl) (by unfold Cx.may;rw[show(Cx.han X ea).fxs=none from fxn]) rfl (fun s8 J8=>?_) (.inr hl)
 have ex:Ext X.K H2 (upd H2 ea (.frz oe (.own 0))) α1 α1:=Ext.new0 hn;have rp:Rep X.K (upd H2 ea (.frz oe (.own 0))) α1 (.ref ea) (.err c (fsE c M1)):=XO.rep (k3▸xo) hn hC2 k2 k4 k5;have sr:SR X.K (upd H2 ea (.frz oe (.own 0))) α1 (σ1.set i (some (.ref ea))) (ρk.set i (some (.err c (fsE c M1)))):=(srk.mono ex).set i rp;obtain⟨ts,ps,qs⟩:=hs ea;have run:=ps pins s8 _ _ {nx:=fun _ H'=>Dn.nx (aB X.N.length none) H',rt:=Dn.rt} J8 (qs _ _ _ α1 (stE c M1) _ sr (xo.hr.tup hn) (fp _ ex));refine wpAny_mono run (fun f s9 h9=>?_) (fun _ _ z=>z.elim);have hcls:(X.env.scope.kind == .class||(X.env.scope.kind == .module&&X.env.locals != X.env.globals))=false:=by rw[J5.ok.kind];rfl
 cases f with
 |next=>
  obtain⟨σ',H',J9,q⟩:=h9;have K9:=Zcw J9 hh;obtain⟨m,hm,_⟩:=id K9.loc;exact wpAny_nameGoes hl hm hcls fun h' m' hn' hs'=>⟨_,H',Zfz fxn K9 hn' hs',q⟩
 |ret u=>
  obtain⟨v,σ',H',J9,r,q⟩:=h9;have K9:=Zcw J9 hh;obtain⟨m,hm,_⟩:=id K9.loc;exact wpAny_nameGoes hl hm hcls fun h' m' hn' hs'=>⟨v,_,H',Zfz fxn K9 hn' hs',r,q⟩
 |brk=>obtain⟨_,_,_,q⟩:=h9;exact cm q
 |cont=>obtain⟨_,_,_,q⟩:=h9;exact cm q
theorem Zo8(hcat:Zef X.K d cs=true)(gl:∀c v,nsIn X.K ai c=some (some v)->X.mg c=some v)(hh:X.A.handled=none)(hx:X.ex=[])(hst:X.stack=X.env::X.outer)(hf:X.env.frame=some X.env.locals)(hN:X.N.Nodup)(W:List Bool)(hb:∀pn xe σ ξ',Thr (Cx.tri X pn xe W σ) ξ'->DSs (Cx.tri X pn xe W σ) ξ' body gb)(hs:∀ea,DSs (Cx.han X ea) E0 (b0::suite) gh)(fxn:autoParam (X.fxs=none) Qrf._auto_1)
  (hi:X.N[i]?=some n:=by rfl) (hl:X.env.kindOf n=some .local:=by rfl) (hg:Gl X d:=by rfl) (hdb:(d==("__debug__":Str))=false:=by decide):
  DS X ξ (.Try body [.ExceptHandler (some (.Name d np)) (some n) (b0::suite) hpos] [] [] pos) (ZlD gb cs W i gh):=by
 unfold Zef at hcat
 split at hcat
 case h_2=>cases hcat
 rename_i D hD;simp only[aR,beq_iff_eq,bh]at hcat;obtain⟨⟨⟨hD3,hD1⟩,hD2⟩,hall⟩:=hcat;refine⟨fun Dn σ H=>∃ρ α M,SR X.K H α σ ρ/\HR X.K H α M/\FP X.K H α ξ Dn (ZlD gb cs W i gh ρ M),?_,fun σ ρ H α M Dn s h q=>⟨ρ,α,M,s,h,q⟩⟩;rintro pins s σ H Dn I ⟨ρ,α,M,sr,hr,fp⟩;refine wpAny_Try_except ?_;have lenρ:ρ.length=X.N.length:=by rw[<-sr.1];exact I.len
 generalize hxe:(fun(e:ah) (s₁:aC)=>wpAny (az X.prog X.w) X.A (dB e X.env) (fun _ s₂=>wpAny (az X.prog X.w) X.A (fL e none) (fun _ s₃=>wpAny (az X.prog X.w) X.A (jM e X.env [.ExceptHandler (some (.Name d np)) (some n) (b0::suite) hpos]) (SP X pins Dn) X.xe s₃) X.xe s₂) X.xe s₁)=xe';have own:eV (az X.prog X.w) X.A X.env xe':=by
  rw[<-hxe];exact iK
 have land:∀{pins':Pn}{σ1:L2.St}{H1 H2:Hp}{s1 s2:aC}{h3 B:Heap}{ea C:Addr}{fl:ah}{dct:Option Addr},Inv (Cx.tri X (X.pn++pins) xe' W σ) pins' σ1 H1 s1->s2.os=s1.os->d6 s2.gens->Un (frs X.stack) [] H1 H2 s1.heap s2.heap->HOk X.prog X.w H2 s2.heap->
   (∀b u,H2 b=some u->∃o,B.get? b=some o)->(∀b o,s1.heap.get? b=some o->b∉frs X.stack->∃o',B.get? b=some o')->B.StaysIn s2.heap->DQ.Fly B X.stack ea (.ref C) dct fl h3->s2.heap.UpToSlots h3->
   (∃c M1 α',gb ρ M=.exc c M1/\nsIn X.K ai c=some (some (.ref C))/\Ext X.K H H2 α α'/\XO X.K H2 α' c M1 dct)->
   wpAny (az X.prog X.w) X.A (fL (.ref ea) none) (fun _ s₃=>wpAny (az X.prog X.w) X.A (jM (.ref ea) X.env [.ExceptHandler (some (.Name d np)) (some n) (b0::suite) hpos]) (SP X pins Dn) X.xe s₃) X.xe {s2 with heap:=h3}:=by
  intro pins' σ1 H1 H2 s1 s2 h3 B ea C fl dct I1 os bare un hok t1 t2 st2 fly up3 hz;obtain⟨c,M1,α',eg,hC2,ex,hr1⟩:=hz;unfold ZlD at fp;simp only[eg]at fp;by_cases hc:cs.contains c=true
  ·rw[if_pos hc]at fp;have hm:=hall c (jw.mp hc);rw[ZeD hC2]at hm;refine ZmM (ρk:=kpR W ρ) fxn ?_ hx hh hN hi hl hg hdb (gl d _ (Zbb hD)) hD1 hD2 hD3 (by simpa using hm.2) hC2 hs (ZS fxn I1) os bare un hok t1 t2 st2 fly up3 hr1 fun H3 ex3=>?_
   ·refine⟨by rw[ZeF,lenρ];exact I1.len,fun j dd e=>?_⟩
    obtain⟨w1,w2⟩:=ZgM W ρ j dd e;obtain⟨v,v1,v2⟩:=sr.2 j dd w2;exact⟨v,(I1.fx W σ rfl j w1).trans v1,Rep.mono ex v2⟩
   rw[lenρ]at fp;cases er:gh ((kpR W ρ).set i (some (.err c (fsE c M1)))) (stE c M1)with
   |ret dd M2=>rw[er]at fp;exact FP.ext (o:=.ret dd M2) fp (ex.trans ex3)
   |nx ρ2 M2=>
    rw[er]at fp;intro σ' H' α'' e1 e2 e3;refine fp _ H' α'' ((ex.trans ex3).trans e1) e2 ⟨by rw[aZ,aZ],fun j dd z=>?_⟩
    rw[f9]at z
    split at z<;>cases z
   |brk ρ2 M2=>rw[er]at fp;exact fp.elim
   |cnt ρ2 M2=>rw[er]at fp;exact fp.elim
   |exc x M2=>rw[er]at fp;exact fp.elim
   |bad=>rw[er]at fp;exact fp.elim
  ·rw[if_neg hc]at fp;exact fp.elim
 have T:Thr (Cx.tri X (X.pn++pins) xe' W σ) (fun cls dct H'=>∃C c M1 α',cls=.ref C/\gb ρ M=.exc c M1/\nsIn X.K ai c=some (some (.ref C))/\Ext X.K H H' α α'/\XO X.K H' α' c M1 dct):=by
  refine⟨own,fun pins' σ1 H1 s1 e s2 I1 h=>?_,fun pins' σ1 H1 H' s1 s' e oe vs C I1 os bare un hok hn he hc hd v1 v2 hne q=>?_⟩
  ·obtain⟨ea,C,dct,B,H2,rfl,os,bare,un,hok,fl,t1,t2,C',c,M1,α',q1,q3,q4,q5,q6⟩:=h;cases q1;show xe' (.ref ea) s2;rw[<-hxe];have fl':DQ.Fly B (X.env::X.outer) ea (.ref C) dct .none s2.heap:=hst▸fl;refine DQ.Zdc (by rw[<-hst];exact I1.ok.frames) hf fl' fun h3 f3 up=>?_
   exact land I1 os bare un hok t1 t2 fl.stay (hst▸f3) up ⟨c,M1,α',q3,q4,q5,q6⟩
  ·obtain⟨C',c,M1,α',q1,q3,q4,q5,q6⟩:=q;cases q1;show xe' (.ref e) s';rw[<-hxe];have I2:=ZS fxn I1;obtain⟨t1,t2,hs',hl',hb'⟩:=Zcq I2 un hok hn he hne;generalize ZfV s'.heap (e::frs X.stack)=B at t2 hs' hl' hb' t1;refine ZcN (s:=s') (by rw[<-hst];exact I2.ok.frames) hf (hst▸hl') he hs' hb' hd v1 v2 fun h3 f3 up=>?_
   rw[hc]at f3;exact land (s2:=s') I1 os bare un hok t1 t2 hs' (hst▸f3) up ⟨c,M1,α',q3,q4,q5,q6⟩
 obtain⟨tb,pb,qb⟩:=hb _ _ _ _ T;have fpb:FP X.K H α (fun cls dct H'=>∃C c M1 α',cls=.ref C/\gb ρ M=.exc c M1/\nsIn X.K ai c=some (some (.ref C))/\Ext X.K H H' α α'/\XO X.K H' α' c M1 dct) Dn (gb ρ M):=by
  unfold ZlD at fp;cases eg:gb ρ M with
  |exc c M1=>exact fun C H' α' n1 e1 dct h1=>⟨C,c,M1,α',rfl,rfl,n1,e1,h1⟩
  |nx ρ2 M2=>rw[eg]at fp;exact fp
  |ret d2 M2=>rw[eg]at fp;exact fp
  |brk ρ2 M2=>rw[eg]at fp;exact fp
  |cnt ρ2 M2=>rw[eg]at fp;exact fp
  |bad=>rw[eg]at fp;exact fp
 have run:=pb [] s σ H Dn (ZiN I) (qb σ ρ H α M Dn sr hr fpb);refine wpAny_mono run (fun f s1 h1=>?_) (fun e s1 h1=>?_)
 ·cases f with
  |next=>
   obtain⟨σ',H',J,q⟩:=h1;exact eN ⟨σ',H',ZS fxn J,q⟩
  |brk=>obtain⟨σ',H',J,q⟩:=h1;exact⟨σ',H',ZS fxn J,q⟩
  |cont=>obtain⟨σ',H',J,q⟩:=h1;exact⟨σ',H',ZS fxn J,q⟩
  |ret u=>obtain⟨v,σ',H',J,r,q⟩:=h1;exact⟨v,σ',H',ZS fxn J,r,q⟩
 ·exact h1
theorem ZW{A:dc}(hr:Room k (A.deeper env))(h:100<=k):A.handled.isNone=true:=by
 have e:A.handled=none:=hr.hd h;rw[e];rfl
end DL
namespace DL
open PyProof.Rows L2
abbrev Me:=D->List D->Sto->Out D
def MO(X:Cx)(ξ:XK)(r:V->List V->Hp->VK->Prop)(g:Me):Prop:=∀H α M v vs x ds Q,HR X.K H α M->Rep X.K H α v x->Reps X.K H α vs ds->OP X.K H α ξ Q (g x ds M)->r v vs H Q
theorem HR.wrE{K:Fg}(h:HR K H α M)(e:RefK H α 0 n p)(hp:H p=some (.lst ys))(r:Reps K H α xs ds):Ext K H (upd H p (.lst xs)) α α/\HR K (upd H p (.lst xs)) α (M.set n (.lst ds)):=
 ⟨Ext.wr hp,h.wr e hp r⟩
section
variable {id:String}{r:V->List V->Hp->VK->Prop}
noncomputable def ZmN(x:D)(M:Sto):Bool:=match x with|.ref n=>M[n]?.isSome|_=>false
def ZmO(g:Me)(fo:Ev)(fs:Av):Ev:=fun ρ M=>(fo ρ M).bind fun x M1=>if ZmN x M1=true then(fs ρ M1).bind fun ds M2=>g x ds M2 else .bad
theorem ZmP{K:Fg}(h:HR K H α M)(rx:Rep K H α v x)(k:ZmN x M=true):tyV K "list" v H:=by
 cases rx with
 |@ref p n hp=>
  obtain⟨xs,g⟩:=h.some_at hp;exact .inl ⟨rfl,_,SqL.of g⟩
 |_=>cases k
theorem ZrH(slot:Slot "list" name id)(hty:typeOf (.builtin id)=pure (.type "method_descriptor"))(hm:MtR X id r)(hf:MO X ξ r g)(ho:DE X ξ o fo)(ha:DA X ξ (e::es) fs)(hbase:autoParam (fW o name X.env (eval o X.env)=eval o X.env) Qrf._auto_1)
  (hfew:((bT cpos (af (e::es) X.env)).all (fun x=> !x.1)&&(iV cpos (ge [] X.env)).all (fun x=>x.1.isSome) && decide ((e::es).length+([]:List gy).length+(if([]:List gy).isEmpty then 0 else 1)<30))=true:=by rfl)
  (hline:(apos.endLine==cpos.line)=true:=by rfl) (hs:af (e::es) X.env=(false,eval e X.env)::af es X.env:=by rfl) (hplain:(bT cpos (af es X.env)).any (·.1)=false:=by rfl):
  DE X ξ (.Call (.Attribute o name apos) (e::es) [] cpos) (ZmO g fo fs):=by
 obtain⟨to,po,qo⟩:=ho;obtain⟨ta,pa,qa⟩:=ha;refine⟨_,Zov PySem.F.plainAttrs_list slot hty hm po pa hbase hfew hline hs hplain,fun σ ρ H α M Q s h q=>?_⟩;refine qo σ ρ H α M _ s h (OG.seq q fun x M1 v H1 α1 e1 h1 r1 q1=>?_);by_cases k:ZmN x M1=true
 ·rw[if_pos k]at q1;exact⟨ZmP h1 r1 k,qa σ ρ H1 α1 M1 _ (s.mono e1) h1 (OG.seq q1 fun ds M2 vs H2 α2 e2 h2 r2 q2=>hf H2 α2 M2 v vs x ds Q h2 (Rep.mono e2 r1) r2 q2)⟩
 ·rw[if_neg k]at q1;exact q1.elim
noncomputable def mApp:Me:=fun x ds M=>match x,ds with
 |.ref n,[d]=>(match M[n]? with|some (.lst xs)=>if xs.length<10000000 then .ok .non (M.set n (.lst (xs++[d])))else .bad|none=>.bad)
 |_,_=>.bad
theorem Zo9:MO X ξ rAppend mApp:=by
 intro H α M v vs x ds Q h rx rs q;cases rx with
 |@ref p n hp=>
  cases rs with
  |nil=>exact q.elim
  |@cons u d _ _ ru tz=>
   cases tz with
   |cons _ _=>exact q.elim
   |nil=>
    cases em:M[n]? with
    |none=>simp only[mApp,em]at q;exact q.elim
    |some so=>
     cases so with
     |lst es=>
      obtain⟨xs,g1,g2⟩:=h.at hp em;by_cases c:es.length<10000000
      ·simp only[mApp,em,if_pos c]at q;obtain⟨k1,k2⟩:=h.wrE hp g1 (g2.append (.cons ru .nil));exact⟨p,xs,u,rfl,rfl,g1,by rw[g2.length];exact ay c (by decide),q _ _ α k1 k2 .non⟩
      ·simp only[mApp,em,if_neg c]at q;exact q.elim
 |_=>cases rs<;>exact q.elim
theorem ZfB(ho:DE X ξ o fo)(ha:DE X ξ e fa)(hbase:autoParam (fW o "append" X.env (eval o X.env)=eval o X.env) Qrf._auto_1)
  (hfew:((bT cpos (af [e] X.env)).all (fun x=> !x.1)&&(iV cpos (ge [] X.env)).all (fun x=>x.1.isSome) && decide ([e].length+([]:List gy).length+(if([]:List gy).isEmpty then 0 else 1)<30))=true:=by rfl)
  (hline:(apos.endLine==cpos.line)=true:=by rfl) (hs:af [e] X.env=(false,eval e X.env)::af [] X.env:=by rfl) (hplain:(bT cpos (af [] X.env)).any (·.1)=false:=by rfl):
  DE X ξ (.Call (.Attribute o "append" apos) [e] [] cpos) (ZmO mApp fo (Zc fa aNil)):=ZrH PySem.F.slot_list_append PySem.F.type_list_append Zdn Zo9 ho (Za ha Zd hs) hbase hfew hline hs hplain
def DO(X:Cx)(ξ:XK)(e:Option Expr)(f:Ro->Sto->Out (Option Int)):Prop:=∃t:TO,PO X e t/\∀σ ρ H α M (Q:Option Int->Hp->Prop),SR X.K H α σ ρ->HR X.K H α M->OG X.K (fun _ _ v d=>v=d) H α ξ Q (f ρ M)->t σ H Q
noncomputable def oNo:Ro->Sto->Out (Option Int):=fun _ M=>.ok none M
def oSo(f:Ev):Ro->Sto->Out (Option Int):=fun ρ M=>(f ρ M).bind fun x M1=>match x with|.int i=>.ok (some i) M1|_=>.bad
theorem Zbc:DO X ξ none oNo:=⟨_,Zmo,fun σ ρ H α M Q s h q=>q none H α Ext.refl h rfl⟩
theorem Zbd(ha:DE X ξ e fa):DO X ξ (some e) (oSo fa):=by
 obtain⟨ta,pa,qa⟩:=ha;refine⟨_,Zmp pa,fun σ ρ H α M Q s h q=>?_⟩;refine qa σ ρ H α M _ s h (OG.seq q fun x M1 v H1 α1 e1 h1 r1 q1=>?_);cases r1 with
 |int i=>exact⟨i,rfl,q1 (some i) H1 α1 Ext.refl h1 rfl⟩
 |_=>exact q1.elim
def Zf7(xs:List D)(lo hi:Option Int):List D:=(xs.drop (HT.sIx xs.length 0 lo)).take (HT.sIx xs.length xs.length hi-HT.sIx xs.length 0 lo)
theorem Reps.drop{K:Fg}{H:Hp}{α:List Addr}:∀(n:Nat){vs:List V}{ds:List D},Reps K H α vs ds->Reps K H α (vs.drop n) (ds.drop n)
 |0,_,_,h=>h
 |_+1,_,_,.nil=>.nil
 |n+1,_,_,.cons _ t=>Reps.drop n t
theorem Reps.take{K:Fg}{H:Hp}{α:List Addr}:∀(n:Nat){vs:List V}{ds:List D},Reps K H α vs ds->Reps K H α (vs.take n) (ds.take n)
 |0,_,_,_=>.nil
 |_+1,_,_,.nil=>.nil
 |n+1,_,_,.cons r t=>.cons r (Reps.take n t)
theorem Reps.cut{K:Fg}(r:Reps K H α vs ds)(lo hi:Option Int):Reps K H α (Zlq vs lo hi) (Zf7 ds lo hi):=by
 unfold Zlq Zf7;rw[r.length];exact(r.drop _).take _
def eSl(f:Ev)(lo hi:Ro->Sto->Out (Option Int)):Ev:=fun ρ M=>(f ρ M).bind fun x M1=>(lo ρ M1).bind fun l M2=>(hi ρ M2).bind fun u M3=>match x with
 |.ref n=>(match M3[n]? with|some (.lst xs)=>.ok (.ref M3.length) (M3++[.lst (Zf7 xs l u)])|none=>.bad)
 |.rol xs=>.ok (.ref M3.length) (M3++[.lst (Zf7 xs l u)])
 |.tup xs=>if HT.sIx xs.length 0 l=0/\HT.sIx xs.length xs.length u=xs.length then .bad else .ok (.tup (Zf7 xs l u)) M3
 |_=>.bad
theorem ZfC{lo:Option Expr}(he:DE X ξ e fa)(hl:DO X ξ lo fl)(hh:DO X ξ hi fh):DE X ξ (.Subscript e (.Slice lo hi none p2) pos) (eSl fa fl fh):=by
 obtain⟨ta,pa,qa⟩:=he;obtain⟨tl,pl,ql⟩:=hl;obtain⟨th,ph,qh⟩:=hh;refine⟨_,Zgz (SlR.or Zmt Zos) pa pl ph,fun σ ρ H α M Q s h q=>?_⟩;refine qa σ ρ H α M _ s h (OG.seq q fun x M1 v H1 α1 e1 h1 r1 q1=>?_);refine ql σ ρ H1 α1 M1 _ (s.mono e1) h1 (OG.seq q1 fun l M2 l' H2 α2 e2 h2 r2 q2=>?_);refine qh σ ρ H2 α2 M2 _ ((s.mono e1).mono e2) h2 (OG.seq q2 fun u M3 u' H3 α3 e3 h3 r3 q3=>?_);cases r2;cases r3;cases Rep.mono e3 (Rep.mono e2 r1)with
 |@ref p n hp=>
  cases em:M3[n]? with
  |none=>simp only[em]at q3;exact q3.elim
  |some so=>
   cases so with
   |lst es=>
    simp only[em]at q3;obtain⟨xs,g1,g2⟩:=h3.at hp em;exact .inl ⟨p,xs,rfl,SqL.of g1,fun a ha=>q3 _ _ (α3++[a]) (Ext.new ha) (h3.new ha (g2.cut l u)) (.ref ⟨h3.last a,Kn.lst Zp⟩)⟩
 |@rol p xs ds hp rp=>
  have q4:OP X.K H3 α3 ξ Q (.ok (.ref M3.length) (M3++[.lst (Zf7 ds l u)])):=q3;exact .inl ⟨p,xs,rfl,hp.sq,fun a ha=>q4 _ _ (α3++[a]) (Ext.new ha) (h3.new ha (rp.cut l u)) (.ref ⟨h3.last a,Kn.lst Zp⟩)⟩
 |@tup p xs ds hp rp=>
  by_cases c:HT.sIx ds.length 0 l=0/\HT.sIx ds.length ds.length u=ds.length
  ·simp only[if_pos c]at q3;exact q3.elim
  ·simp only[if_neg c]at q3;exact .inr ⟨p,xs,rfl,(SqT.of hp),by rw[rp.length];exact c,fun a ha=>q3 _ _ α3 (Ext.new0 ha) (h3.tup ha) (.tup Zp (Reps.mono (Ext.new0 ha) (rp.cut l u)))⟩
 |_=>exact q3.elim
def Zrb(M:Sto)(x:D):Option (List D):=match x with|.con _=>none|y=>Zcf M y
theorem ZiP(e:Zrb M x=some ys):Zcf M x=some ys/\∀zs,x≠ .con zs:=by
 cases x with
 |con _=>cases e
 |_=>exact⟨e,fun _ z=>by cases z⟩
def bTup:W3:=fun ds M=>match ds with
 |[x]=>match Zrb M x with|some xs=>.ok (.tup xs) M|none=>.bad
 |_=>.bad
theorem ZgN:CO X ξ (fun xs H Q=>∃p ys,xs=[.ref p]/\((SqL X.K H p ys/\∀l,H l=none->Q (.ref l) (upd H l (.tup ys)))\/(SqT X.K H p ys/\Q (.ref p) H))) bTup:=by
 intro H α M vs ds Q h rs q;unfold bTup at q;cases rs with
 |nil=>exact q.elim
 |@cons _ x _ _ r tz=>
  cases tz with
  |cons _ _=>exact q.elim
  |nil=>
   cases e:Zrb M x with
   |none=>simp only[e]at q;exact q.elim
   |some ys=>
    simp only[e]at q;obtain⟨p,xs,rfl,h2,h3⟩:=Zks h r (ZiP e).1 (ZiP e).2;rcases h2 with h2|h2
    ·exact⟨p,xs,rfl,.inl ⟨h2,fun l hl=>q _ _ α (Ext.new0 hl) (h.tup hl) (.tup Zp (Reps.mono (Ext.new0 hl) h3))⟩⟩
    ·exact⟨p,xs,rfl,.inr ⟨SqT.of h2,q _ H α Ext.refl h (.tup h2 h3)⟩⟩
end
theorem ZkA(its:List ah):kc its.toArray none none (some (-1))=its.reverse.toArray:=by
 have h:=ZgL its.toArray;have e:kc its.toArray none none (some (-1))=((aJ its.toArray.size).filterMap fun(m:Nat)=>its.toArray[((its.toArray.size:Int)-1+(m:Int)*(-1)).toNat]?).toArray:=by
  unfold kc fC sliceRange;simp only[fN];congr 1;rw[List.filterMap_map];have hc:(if(-1:Int)>0 then(if(if(-1:Int)>0 then(0:Int)else(its.toArray.size:Int)-1)<(if(-1:Int)>0 then(its.toArray.size:Int)else -1)then((if(-1:Int)>0 then(its.toArray.size:Int)else -1)-(if(-1:Int)>0 then(0:Int)else(its.toArray.size:Int)-1) + -1-1) / -1 else 0)else(if(if(-1:Int)>0 then(0:Int)else(its.toArray.size:Int)-1)>(if(-1:Int)>0 then(its.toArray.size:Int)else -1)then((if(-1:Int)>0 then(0:Int)else(its.toArray.size:Int)-1)-(if(-1:Int)>0 then(its.toArray.size:Int)else -1) - -1-1)/(- -1)else 0)).toNat=its.toArray.size:=by
   simp
   split<;>lia
  rw[hc];refine ZeC fun m hm=>?_;simp only[Function.comp];have e2:((if(-1:Int)>0 then(0:Int)else(its.toArray.size:Int)-1) + -1*(m:Int))=(its.toArray.size:Int)-1+(m:Int)*(-1):=by
   rw[if_neg (by decide)]
   lia
  rw[e2]
 rw[e,h]
def eRv(f:Ev):Ev:=fun ρ M=>(f ρ M).bind fun x M1=>match x with
 |.tup xs=>.ok (.tup xs.reverse) M1
 |.ref n=>(match M1[n]? with|some (.lst xs)=>.ok (.ref M1.length) (M1++[.lst xs.reverse])|none=>.bad)
 |.rol xs=>.ok (.ref M1.length) (M1++[.lst xs.reverse])
 |_=>.bad
def tRv(K:Fg)(te:TE):TE:=fun σ H Q=>te σ H fun x H1=>(∃a xs,x=.ref a/\SqT K H1 a xs/\∀p,H1 p=none->Q (.ref p) (upd H1 p (.tup xs.reverse)))\/∃a xs,x=.ref a/\SqL K H1 a xs/\∀p,H1 p=none->Q (.ref p) (upd H1 p (.lst xs.reverse))
theorem ZrI(he:PE X e te):PE X (.Subscript e (.Slice none none (some (.UnaryOp .USub (.Constant (.int 1) j p3) p4)) p2) pos) (tRv X.K te):=by
 intro pins s σ H Q I h;refine Subscript_ (thn (he pins s σ H _ I h) fun v s1 hz=>?_);obtain⟨x,H1,I1,r1,q1⟩:=hz;refine wpAny_Slice ?_;rw[evalPart_none];refine Wp (Wp ?_);rw[evalPart_some];refine thn (Zoi Zlm Zlj pins s1 σ H1 (fun v H'=>v=.int (-1)/\H'=H1) I1 ⟨1,rfl,rfl,rfl⟩) fun u s2 hz=>?_;obtain⟨y,H2,I2,r2,ey,eH⟩:=hz;subst ey eH;obtain⟨t,rfl⟩:=r2;have I4:Inv X pins σ H2 {s2 with heap:=s2.heap.push {cls:=.type "slice",data:=.fields #[.none,.none,.int (-1) t]}}:=I2.kept (t':=s2.toks) fun b ob q=>Hq _ q;show wpAny (az X.prog X.w) X.A (kA e (.Slice none none (some (.UnaryOp .USub (.Constant (.int 1) j p3) p4)) p2) v (.ref s2.heap.objs.size)) (EP X pins σ Q) X.xe {s2 with heap:=s2.heap.push {cls:=.type "slice",data:=.fields #[.none,.none,.int (-1) t]}};rcases q1 with⟨a,xs,rfl,hq,q⟩|⟨a,xs,rfl,hq,q⟩
 ·cases r1;obtain⟨its,rv,ht,hz⟩:=I4.tuple hq;have hsz:its.toArray.size<=sizeLine:=by rw[ar,<-rv.length];exact hz
  refine tail_any (ops:=[.ref a,.ref s2.heap.objs.size]) ht.typeIs bR.lookup (ZcM ht (iB ..) ?_ hsz) (by with_unfolding_all rfl)
  have fr:=I4.fresh;refine⟨.ref _,_,I4.laid (t':=s2.toks) (fun _ _ q=>Hq _ q) (au _) ?_,rfl,q _ fr⟩;exact⟨by rw[cM];exact hz,its.reverse,rv.reverse,_,aW _ rfl,rfl,_,rfl⟩
 ·cases r1;obtain⟨its,rv,ht,hz⟩:=I4.list hq;have hsz:its.toArray.size<=sizeLine:=by rw[ar,<-rv.length];exact hz
  refine tail_any (ops:=[.ref a,.ref s2.heap.objs.size]) ht.isList.typeIs iH.lookup (iR ht.isList (iB ..) .none .none (.int (-1) t) (by decide) ?_ hsz) (by with_unfolding_all rfl)
  rw[ZkA];refine⟨.ref _,_,I4.laid (t':=s2.toks) (o:=.lst xs.reverse) (fun _ _ q=>Hq _ q) (au _) ?_,rfl,q _ (I4.hok.fresh (au _))⟩;exact⟨by rw[cM];exact hz,its.reverse,0,rv.reverse,aW _ rfl⟩
theorem ZrJ(he:DE X ξ e f):DE X ξ (.Subscript e (.Slice none none (some (.UnaryOp .USub (.Constant (.int 1) j p3) p4)) p2) pos) (eRv f):=by
 obtain⟨t,p,q⟩:=he;refine⟨_,ZrI p,fun σ ρ H α M Q s h w=>q σ ρ H α M _ s h (OG.seq w fun x M1 v H1 α1 e1 h1 r1 w1=>?_)⟩;cases r1 with
 |@tup a xs ds hp rp=>exact .inl ⟨a,xs,rfl,(SqT.of hp),fun l hl=>w1 _ _ α1 (Ext.new0 hl) (h1.tup hl) (.tup Zp (Reps.mono (Ext.new0 hl) rp.rev))⟩
 |@rol a xs ds hp rp=>
  have w2:OP X.K H1 α1 ξ Q (.ok (.ref M1.length) (M1++[.lst ds.reverse])):=w1;exact .inr ⟨a,xs,rfl,hp.sq,fun l hl=>w2 _ _ (α1++[l]) (Ext.new hl) (h1.new hl rp.rev) (.ref ⟨h1.last l,Kn.lst Zp⟩)⟩
 |@ref a n hp=>
  cases em:M1[n]? with
  |none=>simp only[em]at w1;exact w1.elim
  |some so=>
   cases so with
   |lst es=>
    simp only[em]at w1;obtain⟨xs,g1,g2⟩:=h1.at hp em;exact .inr ⟨a,xs,rfl,SqL.of g1,fun l hl=>w1 _ _ (α1++[l]) (Ext.new hl) (h1.new hl g2.rev) (.ref ⟨h1.last l,Kn.lst Zp⟩)⟩
 |_=>exact w1.elim
end DL
namespace DL
open PyProof.Rows L2
def ZgO(tg:Tg)(g:Sv)(src:Src):Nat->Nat->Ro->Sto->Fl
 |f,i,ρ,M=>match nxt src i M with
  |none=>.bad
  |some none=>.nx ρ M
  |some (some d)=>(match f with
   |0=>.bad
   |f+1=>(match tg d ρ with
    |none=>.bad
    |some ρ1=>(match g ρ1 M with
     |.nx ρ2 M2=>ZgO tg g src f (i+1) ρ2 M2
     |.cnt ρ2 M2=>ZgO tg g src f (i+1) ρ2 M2
     |.brk ρ2 M2=>.nx ρ2 M2
     |o=>o)))
def Zdw(tg:Tg)(fi:Ro->Sto->Out Src)(g:Sv):Sv:=fun ρ M=>Zaf (fi ρ M) fun src M1=>ZgO tg g src (cnt src M1) 0 ρ M1
theorem Zdx(hp:eV (az X.prog X.w) X.A X.env X.xe)(hi:DI X ξ tg iter fi)(hg:DG X tg gt)(hb:DSs X ξ body g)(hf:autoParam (∀x,bY iter X.env x=pure x) Qin._auto_1):DS X ξ (.For tg iter body [] pos) (Zdw gt fi g):=by
 obtain⟨wi,pi,qi⟩:=hi;obtain⟨tt,pt,qt⟩:=hg;obtain⟨tb,pb,qb⟩:=hb;refine⟨_,Zll hp pi pt pb hf,fun σ ρ H α M Dn s hh w=>qi σ ρ H α M _ s hh (FP.seq w fun src M1 J H1 α1 e1 h1 sc w1=>?_)⟩;generalize eo:ZgO gt g src (cnt src M1) 0 ρ M1=o at w1;refine⟨fun i m σ' H'=>∃ρ' α' M',Ext X.K H1 H' α1 α'/\SR X.K H' α' σ' ρ'/\HR X.K H' α' M'/\ZgO gt g src m i ρ' M'=o,⟨cnt src M1,ρ,α1,M1,Ext.refl,s.mono e1,h1,eo⟩,?_⟩;rintro i m σ' H' ⟨ρ',α',M',ex,sr,hr,en⟩;have s5:=sc i H' α' M' ex hr;unfold ZgO at en;cases en1:nxt src i M' with
 |none=>rw[en1]at en;cases en;exact w1.elim
 |some od=>
  rw[en1]at en s5;cases od with
  |none=>cases en;exact .inl ⟨s5,w1 σ' H' α' ex hr sr⟩
  |some d=>
   obtain⟨go,yl⟩:=s5;cases m with
   |zero=>cases en;exact w1.elim
   |succ m=>
    simp only at en;refine .inr ⟨go,fun σ2 H2=>∃ρ' α' M',Ext X.K H1 H2 α1 α'/\SR X.K H2 α' σ2 ρ'/\HR X.K H2 α' M'/\ZgO gt g src m (i+1) ρ' M'=o,fun σ2 H2 z=>⟨m,eA m,z⟩,fun x H2 y=>?_⟩;obtain⟨ex7,hr7,rp7⟩:=yl x H2 y;exact ZoT (tg:=tg) w1 qt qb (ex.trans ex7) (sr.mono ex7) hr7 rp7 en (fun σ' H' z=>z)
theorem ZiQ{ch:List Addr}(I:Inv X pins σ H s)(k:∀b o,b∉ch->s.heap.get? b=some o->h'.get? b=some o)(hf:∀b∈ch,Zd4 X pins H b):Inv X pins σ H {s with heap:=h',toks:=t'}:=by
 have nit:∀b u,H b=some u->b∉ch:=fun b u e z=>by rw[(hf b z).1]at e;cases e
 have hL:X.env.locals∉ch:=fun z=>(hf _ z).2.1 rfl;refine I.step (g':=s.gens) (d':=s.drawn) (ch:=ch) (fun b hb=>?_) (fun b o _ _ hc e _=>k b o hc e) (fun b o _ _ hc e _=>⟨o.slots,k b o hc e⟩) (fun _ _ _ _ n=>n)
  (fun b o hc e=>⟨o,k b o hc e⟩) (fun _ _ e=>e) (fun _ _ _ e=>e) (fun b ps e=>⟨#[],by rw[e];simp⟩) (fun m hm=>?_) (fun b u e=>?_) I.bare
 ·obtain⟨_,z1,_,z3,z4,z5⟩:=hf b hb;exact⟨z3,z1,z4,z5⟩
 ·obtain⟨o,es,ep,ho,r⟩:=hm;exact⟨o,es,ep,k _ o hL ho,r⟩
 ·refine(I.hok b u e).stay (fun c v hc q=>k c v ?_ q) (fun _ q=>q) fun _ _ q=>q;rcases hc with z|z
  ·rw[z];exact nit b u e
  ·exact nit c _ z
theorem ZlE{ch:List Addr}(I:Inv X pins σ H s)(hf:∀b∈ch,Zd4 X pins H b)(hlt:∀b∈ch,b<s.heap.objs.size)(rv:ZR vs us)(hz:vs.length<=sizeLine)(k:∀b o,b∉ch->s.heap.get? b=some o->h'.get? b=some o)(ht:h'.get? s.heap.objs.size=some {cls:=.type "tuple",data:=.seq us.toArray}):Inv X pins σ (upd H s.heap.objs.size (.tup vs)) {s with heap:=h',toks:=t'}/\H s.heap.objs.size=none/\∀b∈ch,upd H s.heap.objs.size (.tup vs) b=none:=by
 have fr:H s.heap.objs.size=none:=I.hok.fresh (au _);have hn:∀b∈ch,upd H s.heap.objs.size (.tup vs) b=none:=fun b hb=>by rw[Zs (bj (hlt b hb))];exact(hf b hb).1
 have I1:Inv X pins σ (upd H s.heap.objs.size (.tup vs)) {s with heap:=s.heap.push {cls:=.type "tuple",data:=.seq us.toArray},toks:=t'}:=
  I.laid (t':=t') (o:=.tup vs) (fun _ _ q=>Hq _ q) (au _) ⟨hz,us,rv,_,aW _ rfl,rfl,_,rfl⟩
 refine⟨ZiQ (s:={s with heap:=s.heap.push {cls:=.type "tuple",data:=.seq us.toArray},toks:=t'}) (t':=t') (ch:=ch) I1 (fun b o hb e=>?_) (fun b hb=>⟨hn b hb,(hf b hb).2⟩),fr,hn⟩;by_cases c:b=s.heap.objs.size
 ·subst c;have e':(s.heap.push {cls:=.type "tuple",data:=.seq us.toArray}).get? s.heap.objs.size=some o:=e;rw[aW _ rfl]at e';cases e';exact ht
 ·refine k b o hb ?_;have e':(s.heap.push {cls:=.type "tuple",data:=.seq us.toArray}).get? b=some o:=e;have hl:b<s.heap.objs.size:=by
   have q:b<s.heap.objs.size+1:=by
    have z:=Hz e'
    rwa [gj]at z
   exact Nat.lt_of_le_of_ne (Nat.le_of_lt_succ q) c
  have q:(s.heap.push {cls:=.type "tuple",data:=.seq us.toArray}).get? b=s.heap.get? b:=by
   unfold lw.get? lw.push;simp only[Array.getElem?_push];rw[if_neg (bj hl)]
  rwa [q]at e'
def Ite(K:Fg)(a:Addr):It:=
 ⟨fun i H=>∃xs x,SqL K H a xs/\xs[i]?=some x,fun i H y H'=>∃p,H p=none/\y=.ref p/\∀xs x,SqL K H a xs->xs[i]?=some x->H'=upd H p (.tup [.int i,x]),fun i H=>∃xs,SqL K H a xs/\xs.length<=i⟩
def Itz(K:Fg)(a b:Addr):It:=
 ⟨fun i H=>∃xs ys x y,SqL K H a xs/\SqL K H b ys/\xs[i]?=some x/\ys[i]?=some y,fun i H v H'=>∃p,H p=none/\v=.ref p/\∀xs ys x y,SqL K H a xs->SqL K H b ys->xs[i]?=some x->ys[i]?=some y->H'=upd H p (.tup [x,y]),fun i H=>∃xs ys,SqL K H a xs/\SqL K H b ys/\(xs.length<=i\/ys.length<=i)⟩
theorem ZiR{K:Fg}(hB:B.handled=none)(a e it:Addr)(hne:e≠it):Turn P w K B (.Tuple elts k0 tp) (Ite K a) [e,it] e (fun i h=>(∃old,IsEnum h e it (i:Int) old)/\h.IsListIter it a i) where
 mem:=by simp
 obj:=fun i h st b hb=>by
  obtain⟨⟨old,h1⟩,o,e2,c2,d2⟩:=st;rcases aK.mp hb with z|z
  ·subst z;exact⟨_,h1,fun v z=>by cases z⟩
  ·have z':b=it:=by simpa using z
   subst z';exact⟨o,e2,fun v z=>by rw[d2]at z;cases z⟩
 keep:=fun i h h' st k=>⟨let ⟨old,z⟩:=st.1;⟨old,k e (by simp) _ z⟩,st.2.at fun o z=>k it (by simp) o z⟩
 item:=by
  intro X hP hw hK hA i pins s σ H E I hf st hg;subst hP hw hK hA;obtain⟨⟨old,h1⟩,h2⟩:=st;obtain⟨xs,x,hq,hx⟩:=hg;obtain⟨its,rv,p,hz⟩:=I.list hq;obtain⟨u,hu,ru⟩:=rv.get hx;have lt:∀b∈[e,it],b<s.heap.objs.size:=fun b hb=>by
   rcases aK.mp hb with z|z
   ·subst z;exact Hz h1
   ·have z':b=it:=by simpa using z
    subst z';obtain⟨o,e2,_⟩:=h2;exact Hz e2
  refine wpAny_pyNext_enum_item h1 h2 p.isList (x:=u) (by simpa using hu) hne fun h' o1 o2 o3 o4 o5=>⟨_,rfl,?_⟩
  refine wpAny_letOwnedTupleGo_enum (s:={s with heap:=h',toks:=s.toks+1}) o1 fun h'' q1 q2=>?_;have pe:s.heap.objs.size≠e:=cX (lt e (by simp))
  have ie:it≠e:=bJ hne;obtain⟨J1,J2,J3⟩:=ZlE (h':=h'') (t':=s.toks+1) (ch:=[e,it]) (vs:=[.int i,x]) (us:=[.int i s.toks,u]) I hf lt (.cons ⟨_,rfl⟩ (.cons ru .nil)) (by show 2<=sizeLine;decide)
   (fun b o hb z=>by
    have n1:b≠e:=fun y=>hb (by simp[y])
    have n2:b≠it:=fun y=>hb (by simp[y])
    exact(q2.2 b n1).trans (o5 b o n1 n2 z)) ((q2.2 _ pe).trans o3)
  refine⟨.ref s.heap.objs.size,_,J1,rfl,⟨_,J2,rfl,fun ys y hy hy2=>?_⟩,⟨⟨u,by simpa using q1⟩,o2.at fun o z=>(q2.2 it ie).trans z⟩,J3⟩
  rw[I.list_inj hy hq,hx]at hy2;cases hy2;rfl
 done:=by
  intro X hP hw hK hA i pins s σ H E I hf st hg;subst hP hw hK hA;obtain⟨⟨old,h1⟩,h2⟩:=st;obtain⟨xs,hq,hx⟩:=hg;obtain⟨its,rv,p,hz⟩:=I.list hq;obtain⟨f0,f1,f2,f3,f4,f5⟩:=hf it (by simp)
  refine wpAny_pyNext_enum_end hB h1 h2 p.isList (by simp only[gF];exact aU (by rw[<-rv.length];exact hx)) fun h' ext=>⟨rfl,?_⟩
  exact I.turned (t':=s.toks) (it:=it) (fun b o hb z=>ext b o hb z) f0 f1 f3 f4 f5
 self:=fun A i s Q E st q=>by
  obtain⟨⟨old,h1⟩,_⟩:=st;have hT:s.TypeIs (.ref e) "enumerate":=⟨_,h1,rfl⟩;refine wpAny_pyIter_slot hT F.slot_enumerate_iter (dA F.slot_enumerate_iter hT F.entry_enumerate_iter ?_ (F.args_enumerate_iter_1 _));show wpAny _ _ (ret (.ref e)) _ _ s;exact Wp ⟨_,rfl,"enumerate",_,hT,F.slot_enumerate_next.lookup,q⟩
theorem Zrc{K:Fg}(hB:B.handled=none){TI TO:Addr}(D:ZipApart z TI TO i1 i2 a b):Turn P w K B (.Tuple elts k0 tp) (Itz K a b) [z,TI,TO,i1,i2] z (fun i h=>IsZip h z TI TO .none/\IsPair h TI (.ref i1) (.ref i2)/\(∃x y,IsPair h TO x y)/\h.IsListIter i1 a i/\h.IsListIter i2 b i) where
 mem:=by simp
 obj:=fun i h st c hc=>by
  obtain⟨h1,h2,⟨x,y,h3⟩,⟨o4,e4,c4,d4⟩,⟨o5,e5,c5,d5⟩⟩:=st;simp only[aK,fP,or_false]at hc;rcases hc with rfl|rfl|rfl|rfl|rfl
  ·exact⟨_,h1,fun v q=>by cases q⟩
  ·exact⟨_,h2,fun v q=>by cases q⟩
  ·exact⟨_,h3,fun v q=>by cases q⟩
  ·exact⟨o4,e4,fun v q=>by rw[d4]at q;cases q⟩
  ·exact⟨o5,e5,fun v q=>by rw[d5]at q;cases q⟩
 keep:=fun i h h' st k=>by
  obtain⟨h1,h2,⟨x,y,h3⟩,h4,h5⟩:=st;exact⟨k z (by simp) _ h1,k TI (by simp) _ h2,⟨x,y,k TO (by simp) _ h3⟩,h4.at fun o q=>k i1 (by simp) o q,h5.at fun o q=>k i2 (by simp) o q⟩
 item:=by
  intro X hP hw hK hA i pins s σ H E I hf st hg;subst hP hw hK hA;obtain⟨h1,h2,⟨x0,y0,h3⟩,h4,h5⟩:=st;obtain⟨xs,ys,x,y,hq,hq2,hx,hy⟩:=hg;obtain⟨its,rv,p,hz⟩:=I.list hq;obtain⟨its2,rv2,p2,hz2⟩:=I.list hq2;obtain⟨u,hu,ru⟩:=rv.get hx;obtain⟨u2,hu2,ru2⟩:=rv2.get hy;have lt:∀c∈[z,TI,TO,i1,i2],c<s.heap.objs.size:=fun c hc=>by
   simp only[aK,fP,or_false]at hc;rcases hc with rfl|rfl|rfl|rfl|rfl
   ·exact Hz h1
   ·exact Hz h2
   ·exact Hz h3
   ·obtain⟨o,e2,_⟩:=h4;exact Hz e2
   ·obtain⟨o,e2,_⟩:=h5;exact Hz e2
  refine wpAny_pyNext_zip_item D h1 h2 h3 h4 h5 p.isList p2.isList (x:=u) (y:=u2) (by simpa using hu) (by simpa using hu2) fun h' o1 o2 o3 o4 o5 o6 o7=>⟨_,rfl,?_⟩
  refine wpAny_letOwnedTupleGo_zip (s:={s with heap:=h'}) o1 fun h'' q1 q2=>?_;have pe:s.heap.objs.size≠z:=cX (lt z (by simp))
  obtain⟨J1,J2,J3⟩:=ZlE (h':=h'') (t':=s.toks) (ch:=[z,TI,TO,i1,i2]) (vs:=[x,y]) (us:=[u,u2]) I hf lt (.cons ru (.cons ru2 .nil)) (by show 2<=sizeLine;decide)
   (fun c o hc q=>by
    simp only[aK,fP,or_false,not_or]at hc;exact(q2.2 c hc.1).trans (o7 c o hc.1 hc.2.2.1 hc.2.2.2.1 hc.2.2.2.2 q)) ((q2.2 _ pe).trans o5)
  refine⟨.ref s.heap.objs.size,_,J1,rfl,⟨_,J2,rfl,fun xs' ys' x' y' hx1 hy1 hx2 hy2=>?_⟩,⟨q1,(q2.2 TI D.TIz).trans (o7 TI _ D.TIz D.TITO D.TIi1 D.TIi2 h2),⟨u,u2,(q2.2 TO D.TOz).trans o2⟩,o3.at fun o q=>(q2.2 i1 D.i1z).trans q,o4.at fun o q=>(q2.2 i2 D.i2z).trans q⟩,J3⟩;rw[I.list_inj hx1 hq,hx]at hx2;rw[I.list_inj hy1 hq2,hy]at hy2;cases hx2;cases hy2;rfl
 done:=by
  intro X hP hw hK hA i pins s σ H E I hf st hg;subst hP hw hK hA;obtain⟨h1,h2,⟨x0,y0,h3⟩,h4,h5⟩:=st;obtain⟨xs,ys,hq,hq2,hx⟩:=hg;obtain⟨its,rv,p,hz⟩:=I.list hq;obtain⟨its2,rv2,p2,hz2⟩:=I.list hq2;have he:its.toArray[i]?=none\/its2.toArray[i]?=none:=by
   rcases hx with hx|hx
   ·exact .inl (by simp only[gF];exact aU (by rw[<-rv.length];exact hx))
   ·exact .inr (by simp only[gF];exact aU (by rw[<-rv2.length];exact hx))
  refine wpAny_pyNext_zip_end hB D h1 h2 h3 h4 h5 p.isList p2.isList he fun h' keep=>⟨rfl,?_⟩;refine ZiQ (t':=s.toks) (ch:=[z,TI,TO,i1,i2]) I (fun c o hc q=>?_) hf;simp only[aK,fP,or_false,not_or]at hc;exact keep c o hc.1 hc.2.2.1 hc.2.2.2.1 hc.2.2.2.2 q
 self:=fun A i s Q E st q=>wpAny_pyIter_zip st.1 q
theorem ZfD:bB "enumerate"=some (.type "enumerate"):=by decide +kernel
def ZrK(K:Fg)(t:TA):TI:=fun σ H R=>t σ H fun vs H1=>∃l xs,vs=[.ref l]/\SqL K H1 l xs/\R (Ite K l) H1
theorem ZmQ(hc:X.A.handled=none)(hg:Gl X "enumerate")(hm:X.mg "enumerate"=none)(ha:PA X [a] ta)(hs:autoParam (af [a] X.env=(false,eval a X.env)::af [] X.env) Qrf._auto_1)(hpl:autoParam ((bT pos (af [] X.env)).any (·.1)=false) Qrf._auto_1):
  PI X (.Tuple elts k0 tp) (.Call (.Name "enumerate" p) [a] [] pos) (ZrK X.K ta):=by
 intro pins s σ H R I h;refine wpAny_Call_Name_kw (Zfd I hg hm ZfD (eZ (thn (ha pos pins s σ H _ I h) fun us s1 hz=>?_) hs hpl) (by decide) (by decide))
 obtain⟨vs,H1,I1,r1,q1⟩:=hz;obtain⟨l,xs,rfl,hq,q⟩:=q1;obtain⟨u,rfl,ru⟩:=ZbV r1;cases ru;obtain⟨its,rv,pl,hz⟩:=I1.list hq;refine call_enumerate_list pl.isList fun h' e1 e2 e3 e4=>?_;have T:=ZiR (P:=X.prog) (w:=X.w) (K:=X.K) (B:=X.A) (elts:=elts) (k0:=k0) (tp:=tp) hc l (s1.heap.objs.size+1) s1.heap.objs.size (cX (eA _));have I2:Inv X pins σ H1 {s1 with heap:=h',toks:=s1.toks}:=I1.kept (t':=s1.toks) e4;refine T.self X.A 0 {s1 with heap:=h'} _ _ ⟨⟨_,e1⟩,e2⟩ ⟨_,_,_,_,H1,rfl,I2,T,⟨⟨_,e1⟩,e2⟩,fun b hb=>?_,q⟩;have hb':s1.heap.objs.size<=b:=by
  simp only[aK,fP,or_false]at hb;rcases hb with rfl|rfl<;>lia
 exact I1.fpOk hb' (I1.hok.fresh hb')
def iEn(fs:Av):Ro->Sto->Out Src:=fun ρ M=>(fs ρ M).bind fun ds M1=>match ds with|[.ref n]=>.ok (.enu n) M1|_=>.bad
theorem Zdy(hc:X.A.handled=none)(hm:X.mg "enumerate"=none)(ha:DA X ξ [a] fs)(hg:autoParam (Gl X "enumerate") Qrf._auto_1)(hs:autoParam (af [a] X.env=(false,eval a X.env)::af [] X.env) Qrf._auto_1)(hpl:autoParam ((bT pos (af [] X.env)).any (·.1)=false) Qrf._auto_1):
  DI X ξ (.Tuple elts k0 tp) (.Call (.Name "enumerate" p) [a] [] pos) (iEn fs):=by
 obtain⟨ta,pa,qa⟩:=ha;refine⟨_,ZmQ hc hg hm pa hs hpl,fun σ ρ H α M R s hh q=>qa σ ρ H α M _ s hh (OG.seq q fun ds M1 vs H1 α1 e1 h1 r1 w1=>?_)⟩;cases r1 with
 |nil=>exact w1.elim
 |cons r tz=>
  cases tz with
  |cons _ _=>cases r<;>exact w1.elim
  |nil=>
   cases r with
   |@ref l n hp=>
    obtain⟨xs0,g0⟩:=h1.some_at hp;refine⟨l,xs0,rfl,SqL.of g0,w1 _ H1 α1 Ext.refl h1 fun i H' α' M' ex hr=>?_⟩;cases em:M'[n]? with
    |none=>rw[show nxt (.enu n) i M'=none by simp only[nxt,em]];exact gN
    |some so=>
     cases so with
     |lst es=>
      obtain⟨xs,g1,g2⟩:=hr.at (ex.get hp) em;cases ei:es[i]? with
      |none=>rw[show nxt (.enu n) i M'=some none by simp only[nxt,em,ei]];exact⟨xs,SqL.of g1,by rw[g2.length];exact cj.mp ei⟩
      |some d=>
       obtain⟨v,k1,k2⟩:=g2.get ei;rw[show nxt (.enu n) i M'=some (some (D.tup [D.int i,d]))by simp only[nxt,em,ei]]
       refine⟨⟨xs,v,SqL.of g1,k1⟩,fun x H'' y=>?_⟩;obtain⟨pp,y1,rfl,y3⟩:=y;have y4:=y3 xs v (SqL.of g1) k1;subst y4;exact⟨Ext.new0 y1,hr.tup y1,.tup Zp (.cons (.int i) (.cons (Rep.mono (Ext.new0 y1) k2) .nil))⟩
   |_=>exact w1.elim
end DL
namespace DL
open PyProof.Rows L2
open PySem.SeqAt (EqAt RcAt RcNeAt)
inductive Ks(X:Cx) (H:Hp) (α:List Addr):Kd->Kd->Prop where
 |non:Ks X H α .non .non
 |bl (b:Bool):Ks X H α (.bl b) (.bl b)
 |int (i:Int):Ks X H α (.int i) (.int i)
 |str (x:Str):Ks X H α (.str x) (.str x)
 |tup {vs:List V} {ds es:List D}:Reps X.K H α vs ds->Reps X.K H α vs es->Ks X H α (.tup ds) (.tup es)
 |lst {vs:List V} {ds es:List D}:Reps X.K H α vs ds->Reps X.K H α vs es->Ks X H α (.lst ds) (.lst es)
section
variable {X:Cx}{pins:Pn}{σ:L2.St}{H:Hp}{s:aC}{α:List Addr}{M:Sto}
theorem Zpa(h:HR X.K H α M){x:D}(r:Rep X.K H α v x)(e:kd M x=some k):(match k with|.tup ds=>∃p vs,v=.ref p/\SqT X.K H p vs/\Reps X.K H α vs ds|.lst ds=>∃p vs,v=.ref p/\SqL X.K H p vs/\Reps X.K H α vs ds|.non=>v=.non|.bl b=>v=.bl b|.int i=>v=.int i|.str x=>v=.str x):=by
 cases r with
 |non=>cases e;rfl
 |bl b=>cases e;rfl
 |int i=>cases e;rfl
 |str x=>cases e;rfl
 |err _ _ _=>cases e
 |dk _=>cases e
 |dt _=>cases e
 |du _=>cases e
 |fn _=>cases e
 |@tup p xs ds hp rp=>cases e;exact⟨p,xs,rfl,(SqT.of hp),rp⟩
 |@con p xs ds hp rp=>cases e;exact⟨p,xs,rfl,hp.sq,rp⟩
 |@rol p xs ds hp rp=>cases e;exact⟨p,xs,rfl,hp.sq,rp⟩
 |@ref p n hp=>
  cases e1:M[n]? with
  |none=>simp only[kd,e1]at e;cases e
  |some o=>
   cases o with
   |lst ds=>
    simp only[kd,e1]at e;cases e;obtain⟨xs,g1,r1⟩:=h.at hp e1;exact⟨p,xs,rfl,SqL.of g1,r1⟩
theorem ZiS(I:Inv X pins σ H s)(h:HR X.K H α M)(rx:Rep X.K H α v x)(ry:Rep X.K H α v y)(ex:kd M x=some k)(ey:kd M y=some l):Ks X H α k l:=by
 have a:=Zpa h rx ex;have b:=Zpa h ry ey;have nl:∀{p:Addr}{xs ys:List V},SqT X.K H p xs->SqL X.K H p ys->False:=fun{p xs ys} a c=>by
  obtain⟨i1,_,⟨o1,g1,c1,_⟩,_⟩:=I.tuple a;obtain⟨i2,_,⟨o2,_,g2,c2,_⟩,_⟩:=I.list c;rw[g1]at g2;cases g2;rw[c1]at c2;exact absurd c2 (by decide)
 cases k with
 |non=>cases a;cases l<;>first|(cases b;done)|exact .non|(obtain⟨_,_,q,_⟩:=b;cases q)
 |bl c=>cases a;cases l<;>first|(cases b;done)|(cases b;exact .bl c)|(obtain⟨_,_,q,_⟩:=b;cases q)
 |int c=>cases a;cases l<;>first|(cases b;done)|(cases b;exact .int c)|(obtain⟨_,_,q,_⟩:=b;cases q)
 |str c=>cases a;cases l<;>first|(cases b;done)|(cases b;exact .str c)|(obtain⟨_,_,q,_⟩:=b;cases q)
 |tup ds=>
  obtain⟨p,vs,rfl,q1,q2⟩:=a;cases l with
  |tup es=>
   obtain⟨p2,vs2,e2,q3,q4⟩:=b;cases e2;cases I.tuple_inj q1 q3;exact .tup q2 q4
  |lst es=>
   obtain⟨p2,vs2,e2,q3,q4⟩:=b;cases e2;exact(nl q1 q3).elim
  |_=>cases b
 |lst ds=>
  obtain⟨p,vs,rfl,q1,q2⟩:=a;cases l with
  |lst es=>
   obtain⟨p2,vs2,e2,q3,q4⟩:=b;cases e2;cases I.list_inj q1 q3;exact .lst q2 q4
  |tup es=>
   obtain⟨p2,vs2,e2,q3,q4⟩:=b;cases e2;exact(nl q3 q1).elim
  |_=>cases b
theorem ZlF(I:Inv X pins σ H s)(h:HR X.K H α M):∀(n:Nat){v w:V}{x x' y y':D}{b b':Bool},Rep X.K H α v x->Rep X.K H α v x'->Rep X.K H α w y->Rep X.K H α w y'->eqF n M x y=some b->eqF n M x' y'=some b'->b=b':=by
 intro n
 induction n with
 |zero=>intro v w x x' y y' b b' _ _ _ _ e;simp only[eqF]at e;cases e
 |succ n ih=>
  have lists:∀(vs ws:List V)(xs xs' ys ys':List D)(b b':Bool),Reps X.K H α vs xs->Reps X.K H α vs xs'->Reps X.K H α ws ys->Reps X.K H α ws ys'->eqL (eqF n M) xs ys=some b->eqL (eqF n M) xs' ys'=some b'->b=b':=by
   intro vs
   induction vs with
   |nil=>
    intro ws xs xs' ys ys' b b' r1 r2 r3 r4 e e';cases r1;cases r2;cases r3 with
    |nil=>cases r4;simp only[eqL,am]at e e';rw[<-e,<-e']
    |cons _ _=>cases r4;simp only[eqL,am]at e e';rw[<-e,<-e']
   |cons v vs iv=>
    intro ws xs xs' ys ys' b b' r1 r2 r3 r4 e e';cases r1 with
    |cons p1 t1=>
     cases r2 with
     |cons p2 t2=>
      cases r3 with
      |nil=>cases r4;simp only[eqL,am]at e e';rw[<-e,<-e']
      |cons p3 t3=>
       cases r4 with
       |cons p4 t4=>
        rename_i d1 ds1 d2 ds2 w d3 ws ds3 d4 ds4;cases a1:eqF n M d1 d3 with
        |none=>simp only[eqL,a1]at e;cases e
        |some a=>
         cases a2:eqF n M d2 d4 with
         |none=>simp only[eqL,a2]at e';cases e'
         |some a'=>
          cases c1:eqL (eqF n M) ds1 ds3 with
          |none=>simp only[eqL,a1,c1]at e;cases e
          |some c=>
           cases c2:eqL (eqF n M) ds2 ds4 with
           |none=>simp only[eqL,a2,c2]at e';cases e'
           |some c'=>
            simp only[eqL,a1,c1,am]at e;simp only[eqL,a2,c2,am]at e';rw[<-e,<-e',ih p1 p2 p3 p4 a1 a2,iv _ _ _ _ _ _ _ t1 t2 t3 t4 c1 c2]
  intro v w x x' y y' b b' rx rx' ry ry' e e';unfold eqF at e e';cases k1:kd M x with
  |none=>rw[k1]at e;cases e
  |some ka=>
   cases k2:kd M y with
   |none=>rw[k1,k2]at e;cases e
   |some kb=>
    cases k3:kd M x' with
    |none=>rw[k3]at e';cases e'
    |some ka'=>
     cases k4:kd M y' with
     |none=>rw[k3,k4]at e';cases e'
     |some kb'=>
      rw[k1,k2]at e;rw[k3,k4]at e';have s1:=ZiS I h rx rx' k1 k3;have s2:=ZiS I h ry ry' k2 k4;cases s1 with
      |tup a1 a2=>
       cases s2 with
       |tup b1 b2=>simp only[eqK]at e e';exact lists _ _ _ _ _ _ _ _ a1 a2 b1 b2 e e'
       |_=>simp only[eqK,am]at e e';rw[<-e,<-e']
      |lst a1 a2=>
       cases s2 with
       |lst b1 b2=>
        simp only[eqK]at e e';rw[<-a1.length,<-b1.length]at e;rw[<-a2.length,<-b2.length]at e'
        split at e
        ·rename_i c;rw[if_pos c]at e';exact lists _ _ _ _ _ _ _ _ a1 a2 b1 b2 e e'
        ·rename_i c;rw[if_neg c]at e';cases e;cases e';rfl
       |_=>simp only[eqK,am]at e e';rw[<-e,<-e']
      |_=>cases s2<;>(simp only[eqK,am]at e e';rw[<-e,<-e'])
def eqs(M:Sto)(d:D):List D->Option (List Bool)
 |[]=>some []
 |x::r=>match eqF 12 M x d with|some b=>(match eqs M d r with|some bs=>some (b::bs)|none=>none)|none=>none
theorem ZiT:∀{M:Sto}{d:D}{xs:List D}{bs:List Bool},eqs M d xs=some bs->bs.length=xs.length
 |_,_,[],_,e=>by cases e;rfl
 |M,d,x::r,bs,e=>by
  cases e1:eqF 12 M x d with
  |none=>simp only[eqs,e1]at e;cases e
  |some b=>
   cases e2:eqs M d r with
   |none=>simp only[eqs,e1,e2]at e;cases e
   |some cs=>simp only[eqs,e1,e2,am]at e;subst e;rw[ao,ao,ZiT e2]
theorem ZiU:∀{M:Sto}{d:D}{xs:List D}{bs:List Bool}{i:Nat}{x:D},eqs M d xs=some bs->xs[i]?=some x->∃b,bs[i]?=some b/\eqF 12 M x d=some b
 |_,_,[],_,i,x,e,hx=>by simp at hx
 |M,d,y::r,bs,i,x,e,hx=>by
  cases e1:eqF 12 M y d with
  |none=>simp only[eqs,e1]at e;cases e
  |some b=>
   cases e2:eqs M d r with
   |none=>simp only[eqs,e1,e2]at e;cases e
   |some cs=>
    simp only[eqs,e1,e2,am]at e;subst e;cases i with
    |zero=>simp at hx;subst hx;exact⟨b,rfl,e1⟩
    |succ i=>simp at hx;obtain⟨b',q1,q2⟩:=ZiU e2 hx;exact⟨b',by simpa using q1,q2⟩
open Classical in
theorem ZeG{A:dc}(hu:A.units+64<jo)(I:Inv X pins σ H s)(h:HR X.K H α M)(rv:ZR vs us)(rp:Reps X.K H α vs ds)(ru:ZY v u)(rd:Rep X.K H α v d)(e:eqs M d ds=some bs):∃f:ah->Bool,(∀y,y∈us.toArray->EqAt A.in1 s y u (f y))/\us.map f=bs:=by
 have ll:us.length=ds.length:=by rw[<-rv.length,rp.length]
 have at_:∀(i:Nat) y,us[i]?=some y->∃w x b,ZY w y/\Rep X.K H α w x/\bs[i]?=some b/\eqF 12 M x d=some b:=fun i y hy=>by
  have hi:i<ds.length:=by rw[<-ll];exact(aj.mp hy).1
  obtain⟨w,a1,a2⟩:=rp.get (Gq hi);obtain⟨y',a3,a4⟩:=rv.get a1;rw[hy]at a3;cases a3;obtain⟨b,a5,a6⟩:=ZiU e (Gq hi);exact⟨w,_,b,a4,a2,a5,a6⟩
 refine⟨fun y=>decide (∃w x,ZY w y/\Rep X.K H α w x/\eqF 12 M x d=some true),fun y hy=>?_,?_⟩
 ·obtain⟨i,hi,ey⟩:=di (by simpa using hy)
  obtain⟨w,x,b,q1,q2,q3,q4⟩:=at_ i y (by rw[aq hi,ey])
  have hb:decide (∃w x,ZY w y/\Rep X.K H α w x/\eqF 12 M x d=some true)=b:=by
   cases b with
   |true=>exact decide_eq_true ⟨w,x,q1,q2,q4⟩
   |false=>
    refine decide_eq_false fun hz=>?_;obtain⟨w',x',z1,z2,z3⟩:=hz;cases ZY.inj z1 q1
    have:=ZlF I h 12 z2 q2 rd rd z3 q4
    cases this
  show EqAt A.in1 s y u (decide (∃w x,ZY w y/\Rep X.K H α w x/\eqF 12 M x d=some true));rw[hb];exact(eq3 I h 12 x d w v y u b A.in1 (by rw[dc.in1_units];lia) q4 q2 rd q1 ru).1
 ·apply iJ;intro i;rw[a7];cases hy:us[i]? with
  |none=>
   have:bs[i]?=none:=aU (by rw[ZiT e,<-ll];exact cj.mp hy)
   rw[this];rfl
  |some y=>
   obtain⟨w,x,b,q1,q2,q3,q4⟩:=at_ i y hy;rw[q3];show some _=some b;congr 1;cases b with
   |true=>exact decide_eq_true ⟨w,x,q1,q2,q4⟩
   |false=>
    refine decide_eq_false fun hz=>?_;obtain⟨w',x',z1,z2,z3⟩:=hz;cases ZY.inj z1 q1
    have:=ZlF I h 12 z2 q2 rd rd z3 q4
    cases this
end
def Zrd(X:Cx)(neg:Bool):R2:=fun v w H Q=>∃α M d x ds bs p vs,HR X.K H α M/\Rep X.K H α v d/\w=.ref p/\(SqL X.K H p vs\/SqT X.K H p vs)/\Reps X.K H α vs ds/\Zcf M x=some ds/\eqs M d ds=some bs/\Q (.bl (neg ^^ bs.any id)) H
theorem any_map{us:List ah}(e:us.map f=bs):us.toArray.any f=bs.any id:=by
 rw[<-e,List.any_toArray,List.any_map];rfl
theorem ZiV(hu:X.A.units+64<jo):OpR X (cE .In) (Zrd X false):=by
 intro pins s σ H v w u z Q I rv rw' hh;obtain⟨α,M,d,x,ds,bs,p,vs,h,rd,e1,hq,rp,_,e,q⟩:=hh;subst e1;cases rw';rcases hq with hq|hq
 ·obtain⟨its,r,pl,hz⟩:=I.list hq;obtain⟨f,f1,f2⟩:=ZeG (A:=X.A) hu I h r rp rv rd e;refine SeqAt.in_listAt f pl.isList f1 ⟨.bl _,H,I,rfl,?_⟩;rw[any_map f2]
  simpa using q
 ·obtain⟨its,r,pl,hz⟩:=I.tuple hq;obtain⟨f,f1,f2⟩:=ZeG (A:=X.A) hu I h r rp rv rd e;refine SeqAt.in_tupleAt f pl f1 ⟨.bl _,H,I,rfl,?_⟩;rw[any_map f2]
  simpa using q
theorem ZiW(hu:X.A.units+64<jo):OpR X (cE .NotIn) (Zrd X true):=by
 intro pins s σ H v w u z Q I rv rw' hh;obtain⟨α,M,d,x,ds,bs,p,vs,h,rd,e1,hq,rp,_,e,q⟩:=hh;subst e1;cases rw';rcases hq with hq|hq
 ·obtain⟨its,r,pl,hz⟩:=I.list hq;obtain⟨f,f1,f2⟩:=ZeG (A:=X.A) hu I h r rp rv rd e;refine SeqAt.notIn_listAt f pl.isList f1 ⟨.bl _,H,I,rfl,?_⟩;rw[any_map f2]
  simpa using q
 ·obtain⟨its,r,pl,hz⟩:=I.tuple hq;obtain⟨f,f1,f2⟩:=ZeG (A:=X.A) hu I h r rp rv rd e;refine SeqAt.notIn_tupleAt f pl f1 ⟨.bl _,H,I,rfl,?_⟩;rw[any_map f2]
  simpa using q
def inE(x y:D)(M:Sto):Option Bool:=match Zcf M y with|some ds=>(match eqs M x ds with|some bs=>some (bs.any id)|none=>none)|none=>none
def dInE:Bo:=fun x y M=>match inE x y M with|some b=>.ok (.bl b) M|none=>.bad
def dNotInE:Bo:=fun x y M=>match inE x y M with|some b=>.ok (.bl (!b)) M|none=>.bad
theorem ZiX:BO X ξ (Zrd X false) dInE:=by
 intro H α M v w x y Q h rv rw' q;unfold dInE inE at q;cases e1:Zcf M y with
 |none=>simp only[e1]at q;exact q.elim
 |some ds=>
  cases e2:eqs M x ds with
  |none=>simp only[e1,e2]at q;exact q.elim
  |some bs=>
   simp only[e1,e2]at q;obtain⟨p,vs,k1,k2,k3⟩:=Zes h rw' e1;exact⟨α,M,x,y,ds,bs,p,vs,h,rv,k1,k2,k3,e1,e2,by simpa using q _ H α Ext.refl h (.bl _)⟩
theorem ZiY:BO X ξ (Zrd X true) dNotInE:=by
 intro H α M v w x y Q h rv rw' q;unfold dNotInE inE at q;cases e1:Zcf M y with
 |none=>simp only[e1]at q;exact q.elim
 |some ds=>
  cases e2:eqs M x ds with
  |none=>simp only[e1,e2]at q;exact q.elim
  |some bs=>
   simp only[e1,e2]at q;obtain⟨p,vs,k1,k2,k3⟩:=Zes h rw' e1;exact⟨α,M,x,y,ds,bs,p,vs,h,rv,k1,k2,k3,e1,e2,by simpa using q _ H α Ext.refl h (.bl _)⟩
end DL
namespace DL
open PyProof.Rows L2
end DL
namespace DL
open PyProof.Rows L2
section
variable {κ:Type}[DecidableEq κ]
end
end DL
namespace DL
open PyProof.Rows L2
end DL
namespace DL
open PyProof.Rows L2
end DL
namespace DL
open PyProof.Rows L2
theorem Zeg{o:Out β}{f:β->Sto->Out γ}{g:γ->Sto->Fl}:Zaf (o.bind f) g=Zaf o fun x M=>Zaf (f x M) g:=by cases o<;>rfl
theorem Zdz(iv:Nat)(hN:X.N.Nodup)(B:Blk X scope cl N k fr)(hi:DI X ξ tg iter fi)(h:Blk X scope cl N k fr->∀C fp s H,DG (blk X scope cl N C fp s H) tg gt/\DC (blk X scope cl N C fp s H) ifs c/\DE (blk X scope cl N C fp s H) E0 elt f)(hiv:autoParam (X.N[iv]?=some x) Qrf._auto_1)(hxl:Loc X.env.scope x:=by first|exact dw rfl|exact hX rfl)(hm:autoParam (X.may iv=true) Qrf._auto_1)(hsw:autoParam (gL (.ListComp elt [⟨tg,iter,ifs,0⟩] scope pos) (some (.Name x pos')) spos.line X.env=pure true) Qrf._auto_1)(hf:X.fn x=true\/X.env.scope.names.lookup x=some .local:=by first|exact .inl rfl|exact .inr rfl|assumption)(hs:autoParam (∀x,bY iter X.env x=pure x) Qin._auto_1):DS X ξ (.Assign [.Name x pos'] (.ListComp elt [⟨tg,iter,ifs,0⟩] scope pos) spos) (ZF (gNm iv) (ZaH fi k fr gt c f)):=by
 rw[ZgJ];obtain⟨wi,pi,qi⟩:=hi;refine⟨fun Dn σ H=>∃ρ α M,SR X.K H α σ ρ/\HR X.K H α M/\FP X.K H α ξ Dn (ZF (gNm iv) (Zed fi k fr gt c (gEm f)) ρ M),?_,fun σ ρ H α M Dn s h q=>⟨ρ,α,M,s,h,q⟩⟩;rintro pins s σ H Dn I ⟨ρ,α,M,sr,hr,op⟩;rw[jx _ _ _ _ hsw];refine Wb (wpAny_standAt (Wb ?_));show wpAny _ X.A (do let _ <-comprehension (.ListComp elt [⟨tg,iter,ifs,0⟩] scope pos) scope X.env _ (newList []) false (eval iter X.env) (some (assign (.Name x pos') X.env))) _ _ s
 unfold ZF Zed at op;rw[Zeg]at op;refine Wb (wpAny_mono (ZgI (P:=fun _ s'=>SP X pins Dn .next s') (g:=gEm f) B pi (fun C fp s H=>(h B C fp s H).1) (fun C fp s H=>(h B C fp s H).2.1) (ZeB elt tg iter ifs scope pos) (fun C fp s H D n0 it=>Zfv (fun _ _ z=>z) (h B C fp s H).2.2) hs sr I (qi σ ρ H α M _ sr hr (FP.seq op fun src M1 J H1 α1 e1 h1 r1 q1=>?_))) (fun _ s' hq=>Wp (Wp hq)) fun _ _ e=>e)
 cases er:Zf5 src gt c (gEm f M1.length) (cnt src M1) 0 (roB k fr ρ) (M1++[.lst []])with
 |ok u9 M9=>
  rw[er]at q1;refine⟨α1,M1,src,u9,M9,e1,h1,r1,er,fun D C H5 α5 s6 m6 ex5 hr5 aD I7 hm6 nl nc tu=>?_⟩;refine wpAny_assign_Name (Zdh (v:=.ref D) I7 hN hiv hxl hm rfl (fun s8 I8 hz=>?_) hf);obtain⟨a,sb8,ha⟩:=hz;have nca:C≠a:=by
   rcases ha with e|e
   ·rw[e];exact nl
   ·intro z;exact nc x (z▸e)
  exact⟨m6,hm6.sameBut sb8 nca,fun h' sb=>⟨_,H5,tu _ s8 h' I8 (fun b o hb e=>(sb.2 b hb).trans e),q1 _ H5 α5 ex5 hr5 (((sr.mono e1).mono ex5).set iv (.ref aD))⟩⟩
 |_=>rw[er]at q1;exact q1.elim
end DL
namespace DQ
open PyProof.Rows
theorem ZmR(f:Fly B l e cls dct fl s.heap)(h:∀h' fl',Fly B l e cls dct fl' h'->s.heap.UpToSlots h'->Q () {s with heap:=h'}):wpAny M A (fL (.ref e) fr) Q E s:=by
 obtain⟨st,nw,fr',oe,vs,T,oT,ts,g1,g2,g3,g4,g5,g6,g7,g8,g9,g10,g11⟩:=f;have hz:3<ts.size:=(aV.mp g11).1;unfold fL;refine Wb (bf g1 g4 g6 ?_);rw[if_pos (by simp)]
 generalize (fr.elim bE fun f=>gk f)=v;have oth:∀b o,b≠T->s.heap.get? b=some o->(s.heap.update T (dy (·.setIfInBounds 3 v))).get? b=some o:=fun b o hb x=>by
  rw[aI _ _ (bJ hb)];exact x
 have nr:∀b o,s.heap.get? b=some o->(∀vs,o.data≠ .fields vs)->b≠T:=fun b o x y z=>by
  rw[z,g9]at x;cases x;exact y ts g10
 refine cG g9 g10 hz (h _ v ⟨fun b o x=>oth b o (fun z=>by rw[z,g7]at x;cases x) (st b o x),nw,fr'.of_keeps fun b o x y=>⟨o,oth b o (nr b o x y) x,rfl⟩,?_⟩ fun b o x y=>⟨o.slots,oth b o (nr b o x y) x⟩)
 exact⟨oe,vs,T,_,_,oth e oe (bJ g8) g1,g2,g3,g4,g5,g6,g7,g8,cx _ g9 (cR (cT g10 _)),cT g10 _,by rw[bZ hz]⟩
theorem ZkB{Q:α->aC->Prop}(f:Fly B l e cls dct fl s.heap)(h:∀h' fl',Fly B l e cls dct fl' h'->s.heap.UpToSlots h'->E (.ref e) {s with heap:=h'}):wpAny M A (PySem.passOn what (.ref e) cenv:Sem α) Q E s:=by
 have f':=f;obtain⟨st,nw,fr',oe,vs,T,oT,ts,g1,g2,g3,g4,g5,g6,g7,g8,g9,g10,g11⟩:=f';unfold PySem.passOn;refine Wb (bf g1 g4 g6 ?_);rw[if_neg (by simp)]
 refine Wb (ZmR f fun h' fl' k u=>?_);exact jB (h h' fl' k u)
theorem ZiZ(hfr:A.frames=some (env::outer))(hf:env.frame=some L)(f:Fly B (env::outer) e cls dct fl s.heap)(h:∀h' fl',Fly B (env::outer) e cls dct fl' h'->s.heap.UpToSlots h'->Q () {s with heap:=h'}):wpAny M A (dB (.ref e) env) Q E s:=by
 have f':=f;obtain⟨st,nw,fr,oe,vs,T,oT,ts,g1,g2,g3,g4,g5,g6,g7,g8,g9,g10,g11⟩:=f';unfold dB;simp only[hf];refine Wb (bf g1 g4 g6 ?_);rw[if_pos (by simp)]
 refine Wb (bf g9 g10 g11 ?_);by_cases c:(fl==gk L)=true
 ·rw[if_pos c];exact Wp (h s.heap fl f (PySem.Heap.UpToSlots.refl _))
 rw[if_neg c];have oth:∀b o,b≠T->s.heap.get? b=some o->(s.heap.update T (dy (·.setIfInBounds 3 bE))).get? b=some o:=fun b o hb x=>by
  rw[aI _ _ (bJ hb)];exact x
 have nr:∀b o,s.heap.get? b=some o->(∀vs,o.data≠ .fields vs)->b≠T:=fun b o x y z=>by
  rw[z,g9]at x;cases x;exact y ts g10
 refine Wb (cG g9 g10 (aV.mp g11).1 ?_);refine Zcj hfr (fr.of_keeps fun b o x y=>⟨o,oth b o (nr b o x y) x,rfl⟩) hf (oth e oe (bJ g8) g1) (fun b o x=>oth b o (fun z=>by rw[z,g7]at x;cases x) (st b o x)) nw g4 (aV.mp g5).1 g5 fun h' k1 k2=>h h' _ (g2▸g3▸k1) ?_
 intro b o x y;exact k2 b o (oth b o (nr b o x y) x) y
theorem Zhz(hfr:A.frames=some (env::outer))(hf:env.frame=some L)(f:Fly B (env::outer) e cls dct fl s.heap)(h:∀h',Fly B outer e cls dct .none h'->s.heap.UpToSlots h'->Q () {s with heap:=h'}):wpAny M A (j9 env (.ref e)) Q E s:=by
 unfold j9;refine Wb (ZiZ hfr hf f fun h1 fl' k1 u1=>?_);exact Za7 (s:={s with heap:=h1}) k1 fun h2 k2 u2=>h h2 k2.tail (u1.trans u2)
theorem ZmS(f:Fly B l e cls dct fl h)(hC:h.get? C=some oC)(nC:∀vs,oC.data≠ .fields vs)(nf:C∉l.filterMap (·.frame))(sb:eG C h h'):Fly (DL.ZfV B [C]) l e cls dct fl h':=by
 obtain⟨st,nw,fr,oe,vs,T,oT,ts,g1,g2,g3,g4,g5,g6,g7,g8,g9,g10,g11⟩:=f;have ne:e≠C:=fun z=>by rw[z,hC]at g1;cases g1;exact nC _ g4
 have nT:T≠C:=fun z=>by rw[z,hC]at g9;cases g9;exact nC _ g10
 have nn:∀{b},B.get? b=none->(DL.ZfV B [C]).get? b=none:=fun{b} x=>by
  cases q:(DL.ZfV B [C]).get? b with
  |none=>rfl
  |some o=>have:=(DL.Zet q).1;rw[x]at this;cases this
 refine⟨fun b o x=>?_,nn nw,?_,oe,vs,T,oT,ts,(sb.2 e ne).trans g1,g2,g3,g4,g5,g6,nn g7,g8,(sb.2 T nT).trans g9,g10,g11⟩
 ·obtain⟨x1,x2⟩:=DL.Zet x;simp at x2;exact(sb.2 b x2).trans (st b o x1)
 ·refine DL.Zdu (DL.Zdt fr fun b hb=>nn (fr.mem hb).1) fun b o hb x=>⟨o,(sb.2 b fun z=>nf (z▸hb)).trans x,rfl⟩
end DQ
namespace DL
open PyProof.Rows L2
section
variable {h1 B:Heap}
theorem ZmT(hx:X.ex=[])(I:Inv X pins σ H s)(hCt:X.s₀.heap.get? Ct=none)(u:Un (frs X.stack) [Ct] H H' s.heap h1)(hok:HOk X.prog X.w H' h1)(t1:∀b q,H' b=some q->∃o,B.get? b=some o)(t2:∀b o,s.heap.get? b=some o->b∉frs X.stack->b≠Ct->∃o',B.get? b=some o')(st1:B.StaysIn h1)(st2:B.StaysIn h2)(up:h1.UpToSlots h2):Un X.fs [] X.H₀ H' X.s₀.heap h2/\HOk X.prog X.w H' h2/\∀b o,X.s₀.heap.get? b=some o->b∉X.fs->∃o',B.get? b=some o':=by
 have kB:∀b ob o,B.get? b=some ob->h1.get? b=some o->h2.get? b=some o:=fun b ob o e x=>by
  have z:=st1 b ob e;rw[x]at z;cases z;exact st2 b _ e
 have nx:∀b,b∉X.ex:=fun b=>by rw[hx];simp
 have nC:∀b o,X.s₀.heap.get? b=some o->b≠Ct:=fun b o e z=>by rw[z,hCt]at e;cases e
 have nl:∀b o,X.s₀.heap.get? b=some o->b∉[Ct]:=fun b o e z=>nC b o e (dF.mp z);have nL:∀b o,X.s₀.heap.get? b=some o->b∉X.fs->b∉frs X.stack:=fun b o e n z=>by
  rcases aK.mp (I.stkSub b z)with q|q
  ·exact absurd (Hz e) (by rw[q];exact Nat.not_lt_of_le I.ok.above)
  ·exact n q
 have th:∀b o,X.s₀.heap.get? b=some o->b∉X.fs->∃o',B.get? b=some o':=fun b o e n=>by
  obtain⟨o',e'⟩:=I.base.there b o e (nx b);exact t2 b o' e' (nL b o e n) (nC b o e)
 have sl:∀b o,X.s₀.heap.get? b=some o->X.H₀ b=none->b∈X.fs->∃sl,h2.get? b=some {o with slots:=sl}:=fun b o e n hb=>by
  obtain⟨s1,e1⟩:=I.base.slot b o e n hb (nx b);obtain⟨s2,e2⟩:=u.any e1 (I.base.free b o e n (nx b)) (nl b o e);obtain⟨_,o',g1,g2⟩:=I.ok.funs.mem hb;rw[e]at g1;cases g1;obtain⟨s3,e3⟩:=up b _ e2 g2;exact⟨s3,e3⟩
 refine⟨⟨fun b o e n hb _=>?_,fun b o e n hb _=>sl b o e n hb,fun b o e n _=>?_,fun b o e _=>?_,fun b xs e=>u.tups b xs (I.base.tups b xs e),fun b o xs e=>u.frzs b o xs (I.base.frzs b o xs e),fun b ps e=>?_⟩,fun a o e=>?_,th⟩
 ·obtain⟨ob,g⟩:=th b o e hb;exact kB b ob o g (u.keep b o (I.base.keep b o e n hb (nx b)) (I.base.free b o e n (nx b)) (nL b o e hb) (nl b o e))
 ·obtain⟨o',e'⟩:=I.base.there b o e (nx b);exact u.free b o' e' (I.base.free b o e n (nx b)) (nl b o e)
 ·by_cases hb:b∈X.fs
  ·obtain⟨s1,e1⟩:=sl b o e (I.ok.frf b hb) hb;exact⟨_,e1⟩
  ·obtain⟨ob,g⟩:=th b o e hb;exact⟨ob,st2 b ob g⟩
 ·obtain⟨m1,e1⟩:=I.base.tbls b ps e;obtain⟨m2,e2⟩:=u.tbls b _ e1;exact⟨m1++m2,by rw[e2,iw]⟩
 ·refine(hok a o e).stay (fun b q hb x=>?_) (fun _ q=>q) fun _ _ q=>q;have tr:∃q,H' b=some q:=by
   rcases hb with z|z
   ·exact⟨o,z▸e⟩
   ·exact⟨_,z⟩
  obtain⟨q',z⟩:=tr;obtain⟨ob,g⟩:=t1 b q' z;exact kB b ob q g x
end
structure ThrN(X:Cx) (ξ:XK):Prop where
 thr:Thr X ξ
 nt:∀(Ct:Addr)(pins:Pn)(σ:L2.St)(H H':Hp)(s s':aC)(ea C:Addr)(dct:Option Addr)(B:Heap)(fl:ah),Inv X pins σ H s->X.s₀.heap.get? Ct=none->s'.os=s.os->d6 s'.gens->Un (frs X.stack) [Ct] H H' s.heap s'.heap->HOk X.prog X.w H' s'.heap->
  DQ.Fly B X.stack ea (.ref C) dct fl s'.heap->(∀b u,H' b=some u->∃o,B.get? b=some o)->(∀b o,s.heap.get? b=some o->b∉frs X.stack->b≠Ct->∃o',B.get? b=some o')->ξ (.ref C) dct H'->X.xe (.ref ea) s'
theorem ZdA{K:Fg}:ThrN (Zhq (CXE P w) P w K mg base N qual scope f cd A outer s H E) E:=by
 refine⟨Zlx,fun Ct pins σ H1 H' s1 s' ea C dct B fl I hCt os bare un hok fly t1 t2 q=>?_⟩;refine DQ.Zhz (outer:=outer) I.ok.frames rfl fly fun h3 f3 up=>?_;obtain⟨a1,a2,a3⟩:=ZmT rfl I hCt un hok t1 t2 fly.stay f3.stay up;exact⟨ea,C,dct,B,H',rfl,os.trans I.os,bare,a1,a2,f3,t1,a3,q⟩
def Zf8(X:Cx)(scope:jD)(cl:List (Str×Addr))(N:List Str)(C:Addr)(fp:List Addr)(s:aC)(H:Hp)(xe:Vp):Cx:={blk X scope cl N C fp s H with xe:=xe}
theorem Zi0(I:Inv (Zf8 X scope cl N C fp s0 H0 xe) pins σ H s):Inv (blk X scope cl N C fp s0 H0) [] σ H s:=
 ⟨⟨I.ok.mod,I.ok.kind,I.ok.glob,I.ok.blt,I.ok.above,I.ok.inj,I.ok.has,I.ok.cab,I.ok.hd,I.ok.frames,I.ok.stk,I.ok.exf,I.ok.bs,I.ok.bsz,I.ok.noex,I.ok.exfs,I.ok.funs,I.ok.frf,I.ok.tb⟩,I.os,I.bare,I.base,I.loc,I.cell,I.free,I.freeC,fun p hp=>(by simp[blk]at hp),I.hok,I.len,I.qd,.free rfl⟩
theorem Zpb(I:Inv (blk X scope cl N C fp s0 H0) pins σ H s):Inv (Zf8 X scope cl N C fp s0 H0 xe) pins σ H s:=
 ⟨⟨I.ok.mod,I.ok.kind,I.ok.glob,I.ok.blt,I.ok.above,I.ok.inj,I.ok.has,I.ok.cab,I.ok.hd,I.ok.frames,I.ok.stk,I.ok.exf,I.ok.bs,I.ok.bsz,I.ok.noex,I.ok.exfs,I.ok.funs,I.ok.frf,I.ok.tb⟩,I.os,I.bare,I.base,I.loc,I.cell,I.free,I.freeC,I.pin,I.hok,I.len,I.qd,.free rfl⟩
noncomputable def EC(X:Cx)(C:Addr)(e:ah)(s:aC):Prop:=∃m,s.heap.Ns C m/\∀h',eG C s.heap h'->∀cenv:Env,cenv.locals=C->wpAny (az X.prog X.w) X.A (PySem.passOn "comprehension.variables-let-go" e cenv:Sem ah) (fun _ _=>False) X.xe {s with heap:=h'}
def xeC(X:Cx)(env:Env)(C:Addr):Vp:=fun e s=>wpAny (az X.prog X.w) X.A (dB e env) (fun _ s2=>EC X C e s2) (EC X C) s
theorem Zpc(T:ThrN X ξ){s2:aC}(I:Inv X pins σ H1 s1)(c0:X.s₀.heap.get? c=none)(cf:c∉frs X.stack)(cH:H1 c=none)(cn:s1.heap.Ns c m)(os:s2.os=s1.os)(bare:d6 s2.gens)(un:Un (frs X.stack) [] H1 H2 s1.heap s2.heap)(hok:HOk X.prog X.w H2 s2.heap)(t1:∀b u,H2 b=some u->∃o,B.get? b=some o)(t2:∀b o,s1.heap.get? b=some o->b∉frs X.stack->∃o',B.get? b=some o')(st:B.StaysIn s2.heap)(fly:DQ.Fly B X.stack ea (.ref C) dct fl h3)(up:s2.heap.UpToSlots h3)(q:ξ (.ref C) dct H2):EC X c (.ref ea) {s2 with heap:=h3}:=by
 have cn2:s2.heap.Ns c m:=by
  obtain⟨o,es,ep,e1,e2⟩:=cn;exact⟨o,es,ep,un.keep c o e1 cH cf (by simp),e2⟩
 have cn3:h3.Ns c m:=up.ns cn2;refine⟨m,cn3,fun h4 sb cenv hc=>?_⟩;obtain⟨oC,es,ep,g1,g2,_⟩:=cn3;obtain⟨o1,_,_,k1,_⟩:=cn;have H2c:H2 c=none:=un.free c o1 k1 cH (by simp)
 have f4:=DQ.ZmS fly g1 (fun vs z=>by rw[g2]at z;cases z) cf sb
 refine DQ.ZkB (s:={s2 with heap:=h4}) f4 fun h5 fl' f5 u5=>?_;have kB:∀b ob o,B.get? b=some ob->b≠c->s2.heap.get? b=some o->h5.get? b=some o:=fun b ob o e ne x=>by
  have z:=st b ob e;rw[x]at z;cases z;exact f5.stay b _ (ZbO e (by simpa using ne))
 have hc2:∀b u,H2 b=some u->b≠c:=fun b u x z=>by rw[z,H2c]at x;cases x
 have sl:∀b o,s1.heap.get? b=some o->b∈frs X.stack->∃sl,h5.get? b=some {o with slots:=sl}:=fun b o e hb=>by
  obtain⟨s',e2⟩:=un.slot b o e (I.stkFree b hb) hb (by simp)
  obtain⟨_,o',e3,nf⟩:=I.stack.mem hb;rw[e]at e3;cases e3;obtain⟨s3,e4⟩:=up b _ e2 nf;obtain⟨s5,e5⟩:=u5 b _ ((sb.2 b fun z=>cf (z▸hb)).trans e4) nf;exact⟨s5,e5⟩
 refine T.nt c pins σ H1 H2 s1 _ ea C dct (ZfV B [c]) fl' I c0 os bare ⟨fun b o e n hb hx=>?_,fun b o e n hb hx=>sl b o e hb,fun b o e n _=>un.free b o e n (by simp),fun b o e hx=>?_,un.tups,un.frzs,un.tbls⟩ (fun a o e=>?_) f5 (fun b u x=>?_) (fun b o x nf ne=>?_) q
 ·obtain⟨ob,g⟩:=t2 b o e hb;exact kB b ob o g (fun z=>hx (by rw[z];simp)) (un.keep b o e n hb (by simp))
 ·by_cases hb:b∈frs X.stack
  ·obtain⟨s5,e5⟩:=sl b o e hb;exact⟨_,e5⟩
  ·obtain⟨ob,g⟩:=t2 b o e hb;exact⟨ob,f5.stay b ob (ZbO g (by simpa using fun z=>hx (by rw[z];simp)))⟩
 ·refine(hok a o e).stay (fun b q hb x=>?_) (fun _ q=>q) fun _ _ q=>q;have tr:∃q,H2 b=some q:=by
   rcases hb with z|z
   ·exact⟨o,z▸e⟩
   ·exact⟨_,z⟩
  obtain⟨q',z⟩:=tr;obtain⟨ob,g⟩:=t1 b q' z;exact kB b ob q g (hc2 b q' z) x
 ·obtain⟨ob,g⟩:=t1 b u x;exact⟨ob,ZbO g (by simpa using hc2 b u x)⟩
 ·obtain⟨ob,g⟩:=t2 b o x nf;exact⟨ob,ZbO g (by simpa using ne)⟩
theorem ZkC(T:ThrN X ξ)(Bk:Blk X scope cl N k fr)(I3:Inv X pins σ H3 s3)(f3:∀b∈fp,Zd4 X pins H3 b)(hst:X.stack=X.env::X.outer)(hf:X.env.frame=some X.env.locals):Thr (Zf8 X scope cl N s3.heap.objs.size fp s3 H3 (xeC X (jJ scope (bD (s3.heap.objs.size+1) scope.names cl) s3.heap.objs.size X.env) s3.heap.objs.size)) ξ:=by
 have c0:X.s₀.heap.get? s3.heap.objs.size=none:=by
  cases e:X.s₀.heap.get? s3.heap.objs.size with
  |none=>rfl
  |some o=>exact absurd (ay (Hz e) I3.sz) (bU _)
 have cf:s3.heap.objs.size∉frs X.stack:=fun z=>by
  obtain⟨_,o,e,_⟩:=I3.stack.mem z;exact absurd (Hz e) (bU _)
 refine⟨iK,fun pins' σ1 H1 s1 e s2 I1 h=>?_,fun pins' σ1 H1 H' s1 s' e oe vs C I1 os bare un hok hn he hc hd v1 v2 hne q=>?_⟩
 ·obtain⟨ea,C,dct,B,H2,rfl,os,bare,un,hok,fl,t1,t2,q⟩:=h;have IX:=(Zde Bk I3 f3 (Zi0 I1)).1;obtain⟨m,hm,_⟩:=id I1.loc;have fl':DQ.Fly B (X.env::X.outer) ea (.ref C) dct .none s2.heap:=hst▸fl;show wpAny (az X.prog X.w) X.A (dB (.ref ea) X.env) _ _ s2;refine DQ.Zdc (by rw[<-hst];exact IX.ok.frames) hf fl' fun h3 f3' up=>?_
  exact Zpc T IX c0 cf I1.free hm os bare un hok t1 t2 fl.stay (hst▸f3') up q
 ·have IX:=(Zde Bk I3 f3 (Zi0 I1)).1;obtain⟨m,hm,_⟩:=id I1.loc;obtain⟨t1,t2,hs',hl',hb'⟩:=Zcq (X:=X) IX un hok hn he hne;generalize ZfV s'.heap (e::frs X.stack)=B at t2 hs' hl' hb' t1;show wpAny (az X.prog X.w) X.A (dB (.ref e) X.env) _ _ s';refine ZcN (s:=s') (by rw[<-hst];exact IX.ok.frames) hf (hst▸hl') he hs' hb' hd v1 v2 fun h3 f3' up=>?_
  rw[hc]at f3';exact Zpc T IX c0 cf I1.free hm os bare un hok t1 t2 hs' (hst▸f3') up q
theorem Zf9(he:hG (.ListComp elt gens scope pos) d it acc env=ZeA target iter [] it env body (again (.compLoop (.ListComp elt gens scope pos) d it acc env)))(I:Nat->aC->Prop)(hE:∀x s',EE x s'->notedBy (az prog w) A env (fun x s'=>R (.error x) s') x s')(turn:∀n s,I n s->wpAny (az prog w) A (iO it) (fun r s₁=>match r with
   |none=>R (.ok .next) s₁
   |some v=>wpAny (az prog w) A (eO target it v) (fun _ s₁=>wpAny (az prog w) A (assign target env v) (fun _ s₂=>
      wpAny (az prog w) A body (fun fin s₅=>fin=.again (.compLoop (.ListComp elt gens scope pos) d it acc env)/\∃m,m<n/\I m s₅) EE s₂) EE s₁) EE s₁) EE s)
  (n:Nat) (h:I n s):gx (az prog w) A (.compLoop (.ListComp elt gens scope pos) d it acc env) R s:=by
 refine codeAny_loop rfl I (fun n s hI=>?_) n h;show wpAny _ A ((hG (.ListComp elt gens scope pos) d it acc env).onRaise (fun x=>do dB x env;theTreesLotGoes x)) _ _ s
 refine wpAny_noted ?_;rw[he];unfold ZeA;refine Wb (wpAny_standAt (Wb (wpAny_mono (turn n s hI) (fun r s₁ h₁=>?_) hE)));cases r with
 |none=>exact Wp h₁
 |some v=>
  refine Wb (wpAny_mono h₁ (fun _ s₁ h₁=>?_) hE);refine Wb (wpAny_mono h₁ (fun _ s₂ h₂=>Wb (wpAny_tests_nil ?_)) hE);refine wpAny_mono h₂ (fun fin s₅ h₅=>?_) hE;obtain⟨rfl,h5⟩:=h₅;exact⟨rfl,h5⟩
def Zi1(src:Src)(tg:Tg)(f:Ev)(n:Nat):Nat->Nat->Ro->Sto->Out Unit
 |fuel,i,ρ,M=>match nxt src i M with
  |none=>.bad
  |some none=>.ok () M
  |some (some d)=>(match fuel with
   |0=>.bad
   |fuel+1=>(match tg d ρ with
    |none=>.bad
    |some ρ1=>(match f ρ1 M with
     |.ok x M2=>(match M2[n]? with
      |some (.lst xs)=>if xs.length<10000000 then Zi1 src tg f n fuel (i+1) ρ1 (M2.set n (.lst (xs++[x])))else .bad
      |none=>.bad)
     |.exc c M2=>.exc c M2
     |.bad=>.bad)))
theorem Zi2{D:Addr}(hct:hG (.ListComp elt gens scope pos) d0 (.ref it) (.ref D) Y.env=ZeA tg iter [] (.ref it) Y.env (ZiF (.ListComp elt gens scope pos) elt d0 (.ref it) (.ref D) Y.env) (again (.compLoop (.ListComp elt gens scope pos) d0 (.ref it) (.ref D) Y.env)))(T:Turn Y.prog Y.w Y.K Y.A tg J fp it tn)(fp5:∀{H':Hp},(∀b∈fp,H' b=none)->∀b∈fp,Zd4 Y pins H' b)(hg:DG Y tg gt)(hel:DE Y ξ' elt f)(hE:∀x s',Y.xe x s'->notedBy (az Y.prog Y.w) Y.A Y.env (fun x s'=>R (.error x) s') x s')(sc:ZnS Y.K H3 α3 J src)(aD:RefK H3 α3 0 n0 D)(I4:Inv Y pins σ0 H3 s4)(st4:tn 0 s4.heap)(fr4:∀b∈fp,H3 b=none)(sr:SR Y.K H3 α3 σ0 ρ0)(h3:HR Y.K H3 α3 M3)(er:Zi1 src gt f n0 fuel 0 ρ0 M3=res)(nb:res≠ .bad)(hx:∀c M9 C H' α' dct,res=.exc c M9->PySem.W.nsIn Y.K ai c=some (some (.ref C))->Ext Y.K H3 H' α3 α'->XO Y.K H' α' c M9 dct->ξ' (.ref C) dct H')(post:∀M9 σ5 H5 α5 s6,res=.ok () M9->Inv Y pins σ5 H5 s6->Ext Y.K H3 H5 α3 α5->HR Y.K H5 α5 M9->R (.ok .next) s6):gx (az Y.prog Y.w) Y.A (.compLoop (.ListComp elt gens scope pos) d0 (.ref it) (.ref D) Y.env) R s4:=by
 obtain⟨tt,pt,qt⟩:=hg;obtain⟨te,pe,qe⟩:=hel;refine Zf9 (EE:=Y.xe) hct (CmP Y pins fp tn H3 α3 fun n i ρ' M'=>Zi1 src gt f n0 n i ρ' M'=res) hE ?_ fuel ⟨0,σ0,ρ0,H3,α3,M3,I4,st4,fr4,sr,h3,Ext.refl,er⟩;rintro n s5 ⟨i,σ5,ρ5,H5,α5,M5,I5,st5,fr5,sr5,hr5,ex5,en⟩;have src5:=sc i H5 α5 M5 ex5 hr5;rw[Zi1]at en;cases ex:nxt src i M5 with
 |none=>rw[ex]at en;exact absurd en.symm nb
 |some od=>
  rw[ex]at src5 en;cases od with
  |none=>
   have fin:=T.done Y rfl rfl rfl rfl i pins s5 σ5 H5 Y.xe I5 (fp5 fr5) st5 src5;refine thn fin fun r s6 w6=>?_;obtain⟨hr6,I6⟩:=w6;subst hr6;exact post M5 σ5 H5 α5 s6 en.symm I6 ex5 hr5
  |some d=>
   obtain⟨go,yl⟩:=src5;cases n with
   |zero=>exact absurd en.symm nb
   |succ n=>
    simp only at en;have itm:=T.item Y rfl rfl rfl rfl i pins s5 σ5 H5 Y.xe I5 (fp5 fr5) st5 go;refine thn itm fun r s6 hz=>?_;obtain⟨u,hr6,w6⟩:=hz;subst hr6;refine thn w6 fun _ s7 hz=>?_;obtain⟨x,H7,I7,r7,y7,st7,fr7⟩:=hz;obtain⟨ex7,hr7,rp7⟩:=yl x H7 y7;have sr5:=sr5.mono ex7;have hr5:=hr7;have ex5:=ex5.trans ex7;have I7':=I7.pinned (fp5 fr7) (T.obj _ _ st7);cases eg:gt d ρ5 with
    |none=>rw[eg]at en;exact absurd en.symm nb
    |some ρ6=>
     rw[eg]at en;simp only at en;have asg:=pt _ s7 σ5 H7 x u _ I7' r7 (qt x d σ5 ρ5 H7 α5 ρ6 (fun σ' H'=>H'=H7/\SR Y.K H7 α5 σ' ρ6) sr5 rp7 eg fun σ' s'=>⟨rfl,s'⟩);refine wpAny_mono asg (fun _ s8 hz=>?_) (fun _ _ z=>z);obtain⟨σ8,H8,I8,z8,sr8⟩:=hz;subst z8;have again':∀{σ9:L2.St}{H9:Hp}{s9:aC},Inv Y (pins++Zdj fp s7.heap) σ9 H9 s9->Inv Y pins σ9 H9 s9/\tn (i+1) s9.heap/\∀b∈fp,H9 b=none:=fun{σ9 H9 s9} I9=>by
      refine⟨I9.unpinned,T.keep _ _ _ st7 fun b hb o e=>(I9.pin (b,o) (aT _ (aT _ (ZaC hb e)))).1,fun b hb=>?_⟩;obtain⟨o,e,_⟩:=T.obj _ _ st7 b hb;exact(I9.pin (b,o) (aT _ (aT _ (ZaC hb e)))).2.1
     have ev:=pe _ s8 σ8 H8 (fun v H'=>∃α' y M10,f ρ6 M5=.ok y M10/\Ext Y.K H8 H' α5 α'/\HR Y.K H' α' M10/\Rep Y.K H' α' v y) I8 (qe σ8 ρ6 H8 α5 M5 _ sr8 hr5 (by
      cases ef:f ρ6 M5 with
      |ok y M10=>exact fun v H' α' e h r=>⟨α',y,M10,rfl,e,h,r⟩
      |exc c M10=>
       rw[ef]at en;exact fun C H' α' n1 e1 dct h1=>hx c M10 C H' α' dct en.symm n1 (ex5.trans e1) h1
      |bad=>rw[ef]at en;exact absurd en.symm nb))
     unfold ZiF;refine Wb (Wb (wpAny_mono ev (fun yv s10 hz=>?_) (fun _ _ z=>z)));obtain⟨v,H10,I10,r10,α10,y,M10,ef,ex10,hr10,rp10⟩:=hz;rw[ef]at en;simp only at en;cases em:M10[n0]? with
     |none=>rw[em]at en;exact absurd en.symm nb
     |some so=>
      cases so with
      |lst ds=>
       rw[em]at en;simp only at en;by_cases cz:ds.length<10000000
       ·rw[if_pos cz]at en;have aD10:=ex10.get (ex5.get aD);obtain⟨xs,g1,g2⟩:=hr10.at aD10 em;have ap:=Zdn (X:=Y) _ s10 σ8 H10 (.ref D) [v] (.ref D) [yv] (fun _ H'=>H'=upd H10 D (.lst (xs++[v]))) I10 rfl (.cons r10 .nil) ⟨D,xs,v,rfl,rfl,g1,by rw[g2.length];exact ay cz (by decide),rfl⟩
        refine Wb (wpAny_mono ap (fun _ s11 hz=>?_) (fun _ _ z=>z));obtain⟨v11,H11,I11,_,z11⟩:=hz;subst z11;have exw:Ext Y.K H10 (upd H10 D (.lst (xs++[v]))) α10 α10:=Ext.wr g1;obtain⟨a1,a2,a3⟩:=again' I11;exact Wp (Wp ⟨rfl,n,eA n,i+1,σ8,ρ6,_,α10,_,a1,a2,a3,(sr8.mono ex10).mono exw,hr10.wr aD10 g1 (g2.append (.cons rp10 .nil)),(ex5.trans ex10).trans exw,en⟩)
       ·rw[if_neg cz]at en;exact absurd en.symm nb
def Zbo(fi:Ro->Sto->Out Src)(k:Nat)(fr:List Nat)(gt:Tg)(f:Ev):Ev:=fun ρ M=>(fi ρ M).bind fun src M1=>match Zi1 src gt f M1.length (cnt src M1) 0 (roB k fr ρ) (M1++[.lst []])with
 |.ok _ M2=>.ok (.ref M1.length) M2
 |.exc c M2=>.exc c M2
 |.bad=>.bad
theorem ZfE(T0:ThrN X ξ)(B:Blk X scope cl N k fr)(pi:PI X tg iter wi)(h:Blk X scope cl N k fr->∀C fp s H xe,Thr (Zf8 X scope cl N C fp s H xe) ξ->DG (Zf8 X scope cl N C fp s H xe) tg gt/\DE (Zf8 X scope cl N C fp s H xe) ξ elt f)(hs:∀x,bY iter X.env x=pure x)(hst:X.stack=X.env::X.outer)(hfr:X.env.frame=some X.env.locals)(sr:SR X.K H α σ ρ)(I:Inv X pins σ H s)(w:wi σ H fun J H2=>∃α2 M2 src res,Ext X.K H H2 α α2/\HR X.K H2 α2 M2/\ZnS X.K H2 α2 J src/\Zi1 src gt f M2.length (cnt src M2) 0 (roB k fr ρ) (M2++[.lst []])=res/\res≠ .bad/\(∀c M9,res=.exc c M9->∀C H' α',PySem.W.nsIn X.K ai c=some (some (.ref C))->Ext X.K H2 H' α2 α'->∀dct,XO X.K H' α' c M9 dct->ξ (.ref C) dct H')/\∀M9,res=.ok () M9->∀(D C:Addr) H5 α5 s6 m6,Ext X.K H2 H5 α2 α5->HR X.K H5 α5 M9->RefK H5 α5 0 M2.length D->Inv X pins σ H5 s6->s6.heap.Ns C m6->C≠X.env.locals->(∀x,X.env.cells.lookup x≠some C)->(∀(σ':L2.St)(s8:aC)(h':Heap),Inv X pins σ' H5 s8->(∀b o,b≠C->s8.heap.get? b=some o->h'.get? b=some o)->Inv X pins σ' H5 {s8 with heap:=h',toks:=s8.toks})->compPost (az X.prog X.w) X.A X.xe use P (.ref D) C (.ok .next) s6):wpAny (az X.prog X.w) X.A (comprehension (.ListComp elt [⟨tg,iter,[],0⟩] scope pos) scope X.env pos' (newList []) false (eval iter X.env) use) P X.xe s:=by
 refine iS rfl hs B.clos B.kind B.names ?_;refine thn (pi pins s σ H _ I w) fun v s1 w1=>thn w1 fun itv s2 w2=>?_;obtain⟨it,fp,tn,J,H2,rfl,I2,T,st2,f2,α2,M2,src,res,e2,h2,sc,er,nb,ox,op2⟩:=w2;have srI:=sr.mono e2;refine bA ?_;have I3:Inv X pins σ (upd H2 s2.heap.objs.size (.lst [])) {s2 with heap:=s2.heap.push {cls:=.type "list",data:=.seq ([]:List ah).toArray}}:=I2.lnew (its:=[]) (t':=s2.toks) .nil (gY _);have fD:H2 s2.heap.objs.size=none:=I2.fresh;generalize hD:s2.heap.objs.size=D at I3 fD;generalize hs3:({s2 with heap:=s2.heap.push {cls:=.type "list",data:=.seq ([]:List ah).toArray}}:aC)=s3 at I3;generalize hH3:upd H2 D (.lst [])=H3 at I3;have h3:HR X.K H3 (α2++[D]) (M2++[.lst []]):=by rw[<-hH3];exact h2.new fD .nil
 have e3:Ext X.K H2 H3 α2 (α2++[D]):=by rw[<-hH3];exact Ext.new fD
 have aD:RefK H3 (α2++[D]) 0 M2.length D:=⟨h2.last D,by first|exact Kn.lst Zp|(rw[<-hH3];exact Kn.lst Zp)⟩
 have lt2:∀b∈fp,b<s2.heap.objs.size:=fun b hb=>let ⟨o,e,_⟩:=T.obj _ _ st2 b hb;Hz e;have keep3:∀b o,s2.heap.get? b=some o->s3.heap.get? b=some o:=fun b o e=>by rw[<-hs3];exact Hq _ e
 have f3:∀b∈fp,Zd4 X pins H3 b:=fun b hb=>⟨by rw[<-hH3,Zs (by rw[<-hD];exact bj (lt2 b hb))];exact(f2 b hb).1,(f2 b hb).2⟩
 have lt3:∀b∈fp,b<s3.heap.objs.size:=fun b hb=>let ⟨o,e,_⟩:=T.obj _ _ st2 b hb;Hz (keep3 b o e);have st3:tn 0 s3.heap:=T.keep _ _ _ st2 fun b _ o e=>keep3 b o e;refine Zfu ?_;have keep4:∀b o,s3.heap.get? b=some o->(gi (s3.heap.push {cls:=.type "dict",data:=.dict #[]}) scope.names).get? b=some o:=fun b o e=>hZ _ _ b o (Hq _ e);have I4:=ZiJ B I3 f3 lt3;generalize gi (s3.heap.push {cls:=.type "dict",data:=.dict #[]}) scope.names=h₁ at keep4 I4;have st4:tn 0 h₁:=T.keep _ _ _ st3 fun b _ o e=>keep4 b o e;have I4':=Zpb (xe:=xeC X (jJ scope (bD (s3.heap.objs.size+1) scope.names cl) s3.heap.objs.size X.env) s3.heap.objs.size) I4;have θ':=ZkC T0 B I3 f3 hst hfr;obtain⟨hg,hel⟩:=h B s3.heap.objs.size fp s3 H3 _ θ';have fp5:∀{H':Hp},(∀b∈fp,H' b=none)->∀b∈fp,Zd4 (Zf8 X scope cl N s3.heap.objs.size fp s3 H3 (xeC X (jJ scope (bD (s3.heap.objs.size+1) scope.names cl) s3.heap.objs.size X.env) s3.heap.objs.size)) [] H' b:=fun hn b hb=>⟨hn b hb,bj (lt3 b hb),(ZiI B I3 f3 lt3).exfs b hb,.inl hb,fun x c h=>ZiH B I3 f3 lt3 hb h,fun p hp=>(by simp[blk,Zf8]at hp)⟩
 have loop:gx (az X.prog X.w) X.A (.compLoop (.ListComp elt [⟨tg,iter,[],0⟩] scope pos) 0 (.ref it) (.ref D) (jJ scope (bD (s3.heap.objs.size+1) scope.names cl) s3.heap.objs.size X.env)) (compPost (az X.prog X.w) X.A X.xe use P (.ref D) s3.heap.objs.size) {s3 with heap:=h₁}:=by
  refine Zi2 (Y:=Zf8 X scope cl N s3.heap.objs.size fp s3 H3 _) (ZeB elt tg iter [] scope pos _ _ _) T fp5 hg hel (fun x s' z=>by cases use<;>exact z) (fun i H' α' M' ex hr=>sc i H' α' M' (e3.trans ex) hr) aD I4' st4 (fun b hb=>(f3 b hb).1) ((srI.blk).mono e3) h3 er nb ?_ ?_
  ·exact fun c M9 C H' α' dct z n1 e1 h1=>ox c M9 z C H' α' n1 (e3.trans e1) dct h1
  ·intro M9 σ5 H5 α5 s6 z I6 ex5 hr5;obtain⟨I7,I8⟩:=Zde B I3 f3 (Zi0 I6);obtain⟨m6,hm6,_⟩:=id I6.loc;exact op2 M9 z D _ H5 α5 s6 m6 (e3.trans ex5) hr5 (ex5.get aD) I7 hm6 (cX I3.lt) (fun x h=>by
    obtain⟨v,o,e,_⟩:=I3.cell x _ h;exact absurd (Hz e) (bU _)) I8
 exact jj loop (T.self X.A 0 _ _ _ st4 loop)
theorem ZgP(T0:ThrN X ξ)(B:Blk X scope cl N k fr)(hi:DI X ξ tg iter fi)(h:Blk X scope cl N k fr->∀C fp s H xe,Thr (Zf8 X scope cl N C fp s H xe) ξ->DG (Zf8 X scope cl N C fp s H xe) tg gt/\DE (Zf8 X scope cl N C fp s H xe) ξ elt f)(hs:autoParam (∀x,bY iter X.env x=pure x) Qin._auto_1)(hst:autoParam (X.stack=X.env::X.outer) Qrf._auto_1)(hfr:autoParam (X.env.frame=some X.env.locals) Qrf._auto_1):DE X ξ (.ListComp elt [⟨tg,iter,[],0⟩] scope pos) (Zbo fi k fr gt f):=by
 obtain⟨wi,pi,qi⟩:=hi;refine⟨fun σ H Q=>∃ρ α M,SR X.K H α σ ρ/\HR X.K H α M/\OP X.K H α ξ Q (Zbo fi k fr gt f ρ M),?_,fun σ ρ H α M Q s h q=>⟨ρ,α,M,s,h,q⟩⟩;rintro pins s σ H Q I ⟨ρ,α,M,sr,hr,op⟩;rw[eval_ListComp];refine ZfE T0 B pi h hs hst hfr sr I (qi σ ρ H α M _ sr hr (OG.seq op fun src M1 J H1 α1 e1 h1 r1 q1=>⟨α1,M1,src,_,e1,h1,r1,rfl,fun z=>?_,fun c M9 z=>?_,fun M9 z D C H5 α5 s6 m6 ex5 hr5 aD I7 hm6 _ _ I8=>?_⟩))
 ·rw[z]at q1;exact q1
 ·rw[z]at q1;exact q1
 ·rw[z]at q1;exact⟨m6,hm6,fun h' sb=>⟨.ref D,H5,I8 σ s6 h' I7 (fun b o hb e=>(sb.2 b hb).trans e),rfl,q1 _ H5 α5 ex5 hr5 (.ref aD)⟩⟩
theorem ZeH(T0:ThrN X ξ)(iv:Nat)(hN:X.N.Nodup)(B:Blk X scope cl N k fr)(hi:DI X ξ tg iter fi)(h:Blk X scope cl N k fr->∀C fp s H xe,Thr (Zf8 X scope cl N C fp s H xe) ξ->DG (Zf8 X scope cl N C fp s H xe) tg gt/\DE (Zf8 X scope cl N C fp s H xe) ξ elt f)(hiv:autoParam (X.N[iv]?=some x) Qrf._auto_1)(hxl:Loc X.env.scope x:=by first|exact dw rfl|exact hX rfl)(hm:autoParam (X.may iv=true) Qrf._auto_1)(hsw:autoParam (gL (.ListComp elt [⟨tg,iter,[],0⟩] scope pos) (some (.Name x pos')) spos.line X.env=pure true) Qrf._auto_1)(hf:X.fn x=true\/X.env.scope.names.lookup x=some .local:=by first|exact .inl rfl|exact .inr rfl|assumption)(hs:autoParam (∀x,bY iter X.env x=pure x) Qin._auto_1)(hst:autoParam (X.stack=X.env::X.outer) Qrf._auto_1)(hfr:autoParam (X.env.frame=some X.env.locals) Qrf._auto_1):DS X ξ (.Assign [.Name x pos'] (.ListComp elt [⟨tg,iter,[],0⟩] scope pos) spos) (ZF (gNm iv) (Zbo fi k fr gt f)):=by
 obtain⟨wi,pi,qi⟩:=hi;refine⟨fun Dn σ H=>∃ρ α M,SR X.K H α σ ρ/\HR X.K H α M/\FP X.K H α ξ Dn (ZF (gNm iv) (Zbo fi k fr gt f) ρ M),?_,fun σ ρ H α M Dn s h q=>⟨ρ,α,M,s,h,q⟩⟩;rintro pins s σ H Dn I ⟨ρ,α,M,sr,hr,op⟩;rw[jx _ _ _ _ hsw];refine Wb (wpAny_standAt (Wb ?_));show wpAny _ X.A (do let _ <-comprehension (.ListComp elt [⟨tg,iter,[],0⟩] scope pos) scope X.env _ (newList []) false (eval iter X.env) (some (assign (.Name x pos') X.env))) _ _ s
 unfold ZF Zbo at op;rw[Zeg]at op;refine Wb (wpAny_mono (ZfE (P:=fun _ s'=>SP X pins Dn .next s') T0 B pi h hs hst hfr sr I (qi σ ρ H α M _ sr hr (FP.seq op fun src M1 J H1 α1 e1 h1 r1 q1=>⟨α1,M1,src,_,e1,h1,r1,rfl,fun z=>?_,fun c M9 z=>?_,fun M9 z D C H5 α5 s6 m6 ex5 hr5 aD I7 hm6 nl nc tu=>?_⟩))) (fun _ s' hq=>Wp (Wp hq)) fun _ _ e=>e)
 ·rw[z]at q1;exact q1
 ·rw[z]at q1;exact q1
 ·rw[z]at q1;refine wpAny_assign_Name (Zdh (v:=.ref D) I7 hN hiv hxl hm rfl (fun s8 I8 hz=>?_) hf);obtain⟨a,sb8,ha⟩:=hz;have nca:C≠a:=by
   rcases ha with e|e
   ·rw[e];exact nl
   ·intro z;exact nc x (z▸e)
  exact⟨m6,hm6.sameBut sb8 nca,fun h' sb=>⟨_,H5,tu _ s8 h' I8 (fun b o hb e=>(sb.2 b hb).trans e),q1 _ H5 α5 ex5 hr5 (((sr.mono e1).mono ex5).set iv (.ref aD))⟩⟩
end DL
namespace DL
open PyProof.Rows L2
noncomputable def dRep:Bo:=fun x y M=>match x,y with
 |.ref n,.int k=>match M[n]? with
  |some (.lst xs)=>if(-9223372036854775808<=k/\k<9223372036854775808)/\xs.length*k.toNat<=100000 then .ok (.ref M.length) (M++[.lst (aB k.toNat xs).flatten])else .bad
  |none=>.bad
 |_,_=>.bad
theorem Reps.rep{K:Fg}{H:Hp}{α:List Addr}{vs:List V}{ds:List D}(r:Reps K H α vs ds):∀k:Nat,Reps K H α (aB k vs).flatten (aB k ds).flatten
 |0=>.nil
 |k+1=>by
  rw[cr,cr,dR,dR];exact r.append (Reps.rep r k)
theorem Zpd:BO X ξ rRep dRep:=by
 intro H α M v w x y Q h rv rw' q;cases rv with
 |@ref p n hp=>
  cases rw' with
  |int k=>
   cases e1:M[n]? with
   |none=>simp only[dRep,e1]at q;exact q.elim
   |some o=>
    cases o with
    |lst ds=>
     by_cases c:(-9223372036854775808<=k/\k<9223372036854775808)/\ds.length*k.toNat<=100000
     ·simp only[dRep,e1,if_pos c]at q;obtain⟨xs,g1,r1⟩:=h.at hp e1;exact⟨p,k,xs,rfl,rfl,g1,by lia,by lia,by rw[r1.length];exact Ziv c.2,fun l hl=>q _ _ (α++[l]) (Ext.new hl) (h.new hl (r1.rep k.toNat)) (.ref ⟨h.last l,Kn.lst Zp⟩)⟩
     ·simp only[dRep,e1,if_neg c]at q;exact q.elim
  |_=>exact q.elim
 |_=>cases rw'<;>exact q.elim
theorem Zpe(ha:DE X ξ a fa)(hb:DE X ξ b fb):DE X ξ (.BinOp a .Mult b pos) (e2 dRep fa fb):=Zf3 Zoy Zpd ha hb
end DL
namespace DL
open L2
open PySem.W
end DL
namespace DL3
open PyProof.Rows L2 DL
open PySem.Sem (wp)
end DL3
namespace DL4
open PyProof.Rows L2 DL
open PySem.Sem (wp)
end DL4
namespace DLy2
open PyProof.Rows L2 DL
open PySem.Sem (wp)
end DLy2
namespace PySem.SeqAt
open PySem.AutoSeq1 (wpAny_loadPart')
open MeetsSeq MeetsSeq2 MeetsSeq3 SeqRoads2
end PySem.SeqAt
namespace DL
open PyProof.Rows L2
open PySem.SeqAt
end DL
namespace PySem
open PySem.Sem (wp)
end PySem
namespace DL
open PyProof.Rows L2
open PySem.SeqAt
end DL
namespace HT
open PyProof.Rows
section
open PySem.SeqAt
open PySem.AutoSeq1 (wpAny_loadPart')
open PySem.MeetsSeq PySem.MeetsSeq2 PySem.MeetsSeq3
end
end HT
namespace DL
open PyProof.Rows L2
end DL
namespace DL
open PyProof.Rows L2
end DL
namespace DL
open PyProof.Rows L2
end DL
namespace DL
open PyProof.Rows L2
end DL
namespace DL
open PyProof.Rows L2 PySem.W
end DL
namespace DL
open PyProof.Rows L2 PySem.W
end DL
namespace DL
open PyProof.Rows L2 PySem.W
abbrev IsZ(h:Heap)(z TI TO:Addr)(f0:ah)(f1:Bool):Prop:=
 h.get? z=some {cls:=.type "zip",dict:=none,data:=.fields #[f0,.bool f1,.bool false,.ref TI,.ref TO],slots:= #[]}
section
variable {s:aC}
def ZSt(z TI TO i1 i2 l1 l2:Addr)(xs ys:Array ah)(i:Nat)(h:Heap):Prop:=
 ((IsZip h z TI TO .none/\∃a b,IsPair h TO a b)\/∃(T:Addr) (f1:Bool) (oT:Obj),IsZ h z TI TO (gk T) f1/\h.get? T=some oT/\T≠z/\T≠i1/\T≠i2/\oT.cls=.type "tuple")/\IsPair h TI (.ref i1) (.ref i2)/\h.IsListIter i1 l1 i/\h.IsListIter i2 l2 i/\h.IsList l1 xs/\h.IsList l2 ys
theorem ZSt.keep{TI TO:Addr}(st:ZSt z TI TO i1 i2 l1 l2 xs ys i h)(hS:∃o,h.get? S=some o/\o.cls=.type "list")(n1:S≠l1)(n2:S≠l2)(hk:∀c o,c≠S->h.get? c=some o->h'.get? c=some o):ZSt z TI TO i1 i2 l1 l2 xs ys i h':=by
 obtain⟨oS,eS,cS⟩:=hS;have ne:∀{c o},h.get? c=some o->o.cls≠ .type "list"->c≠S:=fun e q z=>by subst z;rw[eS]at e;cases e;exact q cS
 obtain⟨st,hTI,h1,h2,hl1,hl2⟩:=st;refine⟨?_,hk _ _ (ne hTI (by simp)) hTI,?_,?_,hl1.at fun o e=>hk _ o n1.symm e,hl2.at fun o e=>hk _ o n2.symm e⟩
 ·rcases st with⟨hz,a,b,hTO⟩|⟨T,f1,oT,hz,hT,t1,t2,t3,t4⟩
  ·exact .inl ⟨hk _ _ (ne hz (by simp)) hz,a,b,hk _ _ (ne hTO (by simp)) hTO⟩
  ·exact .inr ⟨T,f1,oT,hk _ _ (ne hz (by simp)) hz,hk _ _ (ne hT (by rw[t4];simp)) hT,t1,t2,t3,t4⟩
 ·obtain⟨o,e,c,r⟩:=h1;exact⟨o,hk _ _ (ne e (by rw[c];simp)) e,c,r⟩
 ·obtain⟨o,e,c,r⟩:=h2;exact⟨o,hk _ _ (ne e (by rw[c];simp)) e,c,r⟩
theorem ZSt.type{TI TO:Addr}(st:ZSt z TI TO i1 i2 l1 l2 xs ys i s.heap):s.TypeIs (.ref z) "zip":=by
 rcases st.1 with⟨hz,_⟩|⟨T,f1,oT,hz,_⟩
 ·exact⟨_,hz,rfl⟩
 ·exact⟨_,hz,rfl⟩
theorem ZSt.iter{TI TO:Addr}(st:ZSt z TI TO i1 i2 l1 l2 xs ys i s.heap)(h:Q (.ref z) s):wpAny (az prog w) A (pyIter (.ref z)) Q E s:=by
 have hT:=st.type;refine wpAny_pyIter_slot hT F.slot_zip_iter (dA F.slot_zip_iter hT F.entry_zip_iter ?_ (F.args_zip_iter_1 _));show wpAny _ _ (ret (.ref z)) _ _ s;exact Wp ⟨_,rfl,"zip",_,hT,F.slot_zip_next.lookup,h⟩
end
end DL
namespace DL
open PyProof.Rows L2 PySem.W
end DL
namespace DL
open PyProof.Rows L2
end DL
namespace DL
open PyProof.Rows L2 PySem.W
end DL
namespace DL
open PyProof.Rows L2
theorem ZhA(hq:∃f,PySem.W.nsIn X.K ai c=some (some (.ref f)))(gl:∀c v,PySem.W.nsIn X.K ai c=some (some v)->X.mg c=some v)(hg:autoParam (Gl X c) Qrf._auto_1)(hdb:autoParam ((c==("__debug__":Str))=false) Qde._auto_1):DE X ξ (.Name c p) (eC (.fn c)):=by
 obtain⟨f,hf⟩:=hq;exact⟨_,Zh0 hg (gl c _ hf) (v:=.ref f) rfl hdb,fun σ ρ H α M Q s h q=>q _ H α Ext.refl h (.fn hf)⟩
def eCV(i:Nat)(tab:List (Str×(W3)))(fs:Av):Ev:=fun ρ M=>match ρ[i]? with
 |some (some (.fn c))=>(match tab.lookup c with|some F=>(fs ρ M).bind fun ds M1=>F ds M1|none=>.bad)
 |_=>.bad
def VOk(X:Cx)(tab:List (Str×(W3))):Prop:=∀c F,tab.lookup c=some F->∃k n,Room k X.A/\Cal X.prog X.w X.K X.mg X.base c k n F
theorem Zi3:VOk X []:=fun c F h=>by cases h
theorem ZbQ(hr:Room k X.A)(C:Cal X.prog X.w X.K X.mg X.base c k n F)(t:VOk X tab):VOk X ((c,F)::tab):=fun d G h=>by
 rw[bG]at h
 split at h
 ·rename_i e;cases h;rw[eq_of_beq e];exact⟨k,n,hr,C⟩
 ·exact t d G h
theorem ZkD(hall:VOk X tab)(gl:∀c v,PySem.W.nsIn X.K ai c=some (some v)->X.mg c=some v)(T:Thr X ξ)(ha:DA X ξ (e::es) fs)(hN:autoParam (X.N[i]?=some x) Qrf._auto_1)(hv:Vis X.env.scope x:=by first|exact dw rfl|exact hX (dw rfl)|exact hX (hX rfl))(hdb:autoParam ((x==("__debug__":Str))=false) Qde._auto_1)(hcd:autoParam ((x==("__classdict__":Str))=false) Qde._auto_1)(he:autoParam (af (e::es) X.env=(false,eval e X.env)::af es X.env) Qrf._auto_1)(hpl:autoParam ((bT pos (af es X.env)).any (·.1)=false) Qrf._auto_1):DE X ξ (.Call (.Name x p) (e::es) [] pos) (eCV i tab fs):=by
 obtain⟨t,pa,qa⟩:=ha;refine⟨fun σ H Q=>∃ρ α M,SR X.K H α σ ρ/\HR X.K H α M/\OP X.K H α ξ Q (eCV i tab fs ρ M),fun pins s σ H Q I w=>?_,fun σ ρ H α M Q s h q=>⟨ρ,α,M,s,h,q⟩⟩;obtain⟨ρ,α,M,sr,hr,op⟩:=w;unfold eCV at op
 split at op
 ·rename_i c er
  split at op
  ·rename_i F et;obtain⟨v,hv1,rv⟩:=sr.2 i (.fn c) er;cases rv with
   |@fn f _ hf=>
   obtain⟨k,n,room,f',fd,ps,G,hm,hk,_,hb⟩:=hall c F et;rw[gl c _ hf]at hm;cases hm;refine wpAny_Call_Name_kw (thn (Zch hN hv hdb hcd pins s σ H (fun v H1=>v=.ref f/\H1=H) I ⟨_,hv1,rfl,rfl⟩) fun u s1 w1=>?_);obtain⟨_,H1,I1,r1,ea,eb⟩:=w1;rw[ea]at r1;rw[eb]at I1;cases r1;refine PySem.W.callWith_K (h₀:=X.base) I1.ok.mod.kin hk (thn (pa pos pins s1 σ H (fun vs H1=>spD X.K F vs H1 Q ξ) I1 (qa σ ρ H α M _ sr hr (OG.seq op fun ds M1 vs H1 α1 e1 h1 r1 q1=>⟨ds,α1,M1,r1,h1,q1⟩))) fun us s2 w2=>?_) he hpl;obtain⟨vs,H2,I2,r2,q2⟩:=w2;exact⟨I2.kIn,Zic G room hb .nil T.ps I2 r2 (by rw[aY];exact q2)⟩
  ·exact op.elim
 ·exact op.elim
end DL
namespace DL
open PyProof.Rows L2
end DL
namespace DL
open PyProof.Rows L2
end DL
namespace DL
open L2
section
variable {X:Cx}{ξ:XK}{fa fb fc:Ev}
noncomputable def ZmU(f:Ev):Prop:=∀ρ,(∃d,∀M,f ρ M=.ok d M)\/∀M,f ρ M=.bad
theorem Zpf:ZmU (eC d):=fun _=>.inl ⟨d,fun _=>rfl⟩
theorem ZrL{r r':R2}{f g:Bo}(hp:ZmU fb)(hf:BO X ξ r f)(hg:BO X ξ r' g){ta tb tc:TE}(qa:∀σ ρ H α M Q,SR X.K H α σ ρ->HR X.K H α M->OP X.K H α ξ Q (fa ρ M)->ta σ H Q)(qb:∀σ ρ H α M Q,SR X.K H α σ ρ->HR X.K H α M->OP X.K H α ξ Q (fb ρ M)->tb σ H Q)(qc:∀σ ρ H α M Q,SR X.K H α σ ρ->HR X.K H α M->OP X.K H α ξ Q (fc ρ M)->tc σ H Q):∀σ ρ H α M Q,SR X.K H α σ ρ->HR X.K H α M->OP X.K H α ξ Q (Zav (e2 f fa fb) (e2 g fb fc) ρ M)->Zlo r r' ta tb tc σ H Q:=by
 intro σ ρ H α M Q s h q;unfold Zav e2 at q;rcases hp ρ with⟨d,hd⟩|hd
 ·have q:OP X.K H α ξ Q ((fa ρ M).bind fun x M1=>(fb ρ M1).bind fun y M2=>(f x y M2).bind fun z M3=>match z with|.bl k=>if k=true then(fc ρ M3).bind fun w M4=>g d w M4 else .ok (.bl false) M3|_=>.bad):=by
   simp only[hd,Out.bind]at q ⊢;cases e:fa ρ M with
   |ok x M1=>simp only[e]at q ⊢;exact q
   |exc c M1=>simp only[e]at q ⊢;exact q
   |bad=>simp only[e]at q ⊢;exact q
  refine qa σ ρ H α M _ s h (OG.seq q fun x M1 v H1 α1 e1 h1 r1 q1=>?_);rw[hd]at q1;refine qb σ ρ H1 α1 M1 _ (s.mono e1) h1 ?_;rw[hd];intro w H2 α2 e2 h2 r2;have q2:=OG.ext (o:=(f x d M1).bind fun z M3=>match z with|.bl k=>if k=true then(fc ρ M3).bind fun w M4=>g d w M4 else .ok (.bl false) M3|_=>.bad) q1 e2
  refine hf H2 α2 M1 v w x d _ h2 (Rep.mono e2 r1) r2 (OG.seq q2 fun z M3 u H3 α3 e3 h3 r3 q3=>?_);cases r3 with
  |bl k=>
   refine⟨k,rfl,?_⟩;cases k with
   |true=>
    refine Zkh (qc σ ρ H3 α3 M3 _ ((s.mono e1).mono (e2.trans e3)) h3 (OG.seq q3 fun w' M4 u' H4 α4 e4 h4 r4 q4=>?_));exact hg H4 α4 M4 w u' d w' Q h4 (Rep.mono (e3.trans e4) r2) r4 q4
   |false=>exact Zkg (q3 _ H3 α3 Ext.refl h3 (.bl false))
  |_=>exact q3.elim
 ·simp only[hd]at q;refine qa σ ρ H α M _ s h ?_;cases e:fa ρ M with
  |ok x M1=>rw[e]at q;exact q.elim
  |exc c M1=>rw[e]at q;exact q
  |bad=>rw[e]at q;exact q
theorem Zpg(ho:OpR X (cE op) r)(hf:BO X ξ r f)(ho':OpR X (cE op') r')(hg:BO X ξ r' g)(hp:ZmU fb)(ha:DE X ξ a fa)(hb:DE X ξ b fb)(hc:DE X ξ c fc)(hm:lastMarks [op,op'] [b,c]=false:=by with_unfolding_all rfl):DE X ξ (.Compare a [op,op'] [b,c] pos) (Zav (e2 f fa fb) (e2 g fb fc)):=by
 obtain⟨ta,ha,qa⟩:=ha;obtain⟨tb,hb,qb⟩:=hb;obtain⟨tc,hc,qc⟩:=hc;exact⟨_,Zkd ho ho' ha hb hc hm,ZrL hp hf hg qa qb qc⟩
end
end DL
namespace DL
open PyProof.Rows L2 PySem.W
end DL
namespace PySem.SeqAt
open MeetsSeq MeetsSeq2 MeetsSeq3 SeqRoads2
end PySem.SeqAt
namespace DL
open PyProof.Rows L2 PySem.W
end DL
namespace ST
open PyProof.Rows
abbrev lt(a b:List Int):Bool:=HT.Zmm a b
def le(a b:List Int):Prop:=lt b a=false
variable (kf:Keyed->List Int)
noncomputable def ky(xs:Array Keyed)(i:Nat):List Int:=match xs[i]? with|some p=>kf p|none=>[]
def Dn(xs:Array Keyed)(n:Nat):Prop:=∀i j,i<=j->j<n->le (ky kf xs j) (ky kf xs i)
variable {kf}
end ST
namespace ST
end ST
namespace DL
open PyProof.Rows L2 PySem.W
end DL
namespace ST
open PyProof.Rows
end ST
namespace DL
open PyProof.Rows L2
def Zre(K:Fg)(v:ah)(c P:Addr):Prop:=v=.ref c/\c≠P/\∃(o:Obj) (vs:Array ah) (file:Str) (tf:Tok) (flags:Int) (tg:Tok) (inF:Bool) (text:Int) (tt:Tok),K.lookup c=some o/\o.cls=.type "code"/\o.data=.fields vs/\vs[11]?=some (.ref P)/\vs.getD 11 .none=.ref P/\vs.getD 18 .none=.str file tf/\vs.getD 7 .none=.int flags tg/\vs.getD 9 .none=.bool inF/\vs.getD 10 .none=.int text tt
theorem Zre.tb{K:Fg}(h:Zre K v c P):TbP K P:=by
 obtain⟨_,_,o,vs,_,_,_,_,_,_,_,e1,e2,e3,e4,_⟩:=h;exact⟨c,o,vs,e1,e2,e3,e4⟩
theorem Zre.hd{K:Fg}(x:Zre K v c P)(k:K.In h):PySem.W.CodeHd h c P:=by
 obtain⟨_,ne,o,vs,file,tf,flags,tg,inF,text,tt,e1,e2,e3,e4,e5,e6,e7,e8,e9⟩:=x;exact⟨o,vs,file,tf,flags,tg,inF,text,tt,k _ _ e1,e2,e3,e4,e5,e6,e7,e8,e9,ne⟩
end DL
namespace DL
open PyProof.Rows L2
end DL
namespace L2
open PyProof.Rows
noncomputable def ZrM(o:Option Obj):Bool:=match o with
 |some ⟨.none,none,.fields ⟨[]⟩,⟨[]⟩⟩=>true
 |_=>false
theorem ZmV(h:ZrM o=true):o=some {cls:=.none,data:=.fields #[]}:=by
 unfold ZrM at h
 split at h
 ·rfl
 ·cases h
theorem Zi4{o:Obj}{a:Addr}:∀{l:Pn},l.lookup a=some o->(a,o)∈l
 |[],h=>by cases h
 | (b,u)::r,h=>by
  rw[bG]at h;cases e:a==b with
  |true=>
   rw[e]at h
   have:a=b:=by simpa using e
   cases h;rw[this];exact aO
  |false=>
   rw[e]at h;exact ak _ (Zi4 h)
def ZgQ(K T:Fg):Bool:=K.all fun p=>match p.2 with
 |⟨.type n,_,.fields vs,_⟩=>if n="code" then(match(vs[11]? :Option ah)with
  |some (.ref P)=>(K.lookup P).isNone&&ZrM (T.lookup P)
  |_=>true)else true
 |_=>true
theorem Zi5{K:Fg}(h:ZgQ K T=true)(t:TbP K P):K.lookup P=none/\T.lookup P=some {cls:=.none,data:=.fields #[]}:=by
 obtain⟨c,⟨oc,od,dt,sl⟩,vs,e1,e2,e3,e4⟩:=t;have q:=bh.mp h _ (Zi4 e1);cases e2;cases e3;dsimp only at q;rw[if_pos rfl,e4]at q;simp only[aR,fQ]at q;exact⟨q.1,ZmV q.2⟩
theorem Zi6{K:Fg}(KX:K.In s₁.heap)(TX:T.In s₁.heap)(hT:ZgQ K T=true)(hns:s₁.heap.Ns ai mg)(hb:s₁.heap.Ns kD mb)(hbb:∀x:Str,x≠"__name__"->mb x=bB x)(hlim:s₁.heap.NoLimit)(hg:s₁.gens= #[])(ha:s₁.heap.get? a=some {cls:=.type "list",data:=.seq vs.toArray})(hi:lv vs ns)(hl:ns.length<=sizeLine)(hr:Room k ke)(F:∀base:Heap,K.In base->base.Ns ai mg->FnOk P w K mg base CX k fa fd [x] sp)(hbind:∀(s:aC)(u:ah),j8 s fd ⟨[u],[]⟩ [(x,u)])(hsp:∀H:Hp,DL.SqF K H a (ns.map V.int)->sp [.ref a] H (fun v _=>v=.bl true) fun _ _ _=>False)(hCX:∀H e s',CX [] H s₁ (fun _ _ _=>False) e s'->False):gx (az P w) ke (.call (.ref fa) ⟨[.ref a],[]⟩) (fun r s'=>r=.ok (.ret (.bool true))/\OldK s₁.heap s'.heap/\s'.os=s₁.os/\d6 s'.gens) s₁:=by
 have rv:=Zfn hi;have lenV:=hi.length;have tb:∀{b:Addr},TbP K b->s₁.heap.get? b=some {cls:=.none,data:=.fields #[]}:=fun t=>TX _ _ (Zi5 hT t).2;have core:∀H:Hp,DL.SqF K H a (ns.map V.int)->HOk P w H s₁.heap->(∀b u,H b=some u->(b=a/\K.lookup a=none/\∃o xs,u=.frz o (.lst xs))\/(TbP K b/\u=.tbl #[]))->Tbs K H->
   gx (az P w) ke (.call (.ref fa) ⟨[.ref a],[]⟩) (fun r s'=>r=.ok (.ret (.bool true))/\OldK s₁.heap s'.heap/\s'.os=s₁.os/\d6 s'.gens) s₁:=by
  intro H hS hok hA hTb;have base_of:∀{b:Addr}{o:Obj},s₁.heap.get? b=some o->H b=none->(Zj4 s₁.heap H).get? b=some o:=fun e n=>Zgu e n;have noA:∀{b:Addr}{o:Obj}{es:Array k7}{ep:Nat},s₁.heap.get? b=some o->o.data=.dict es ep->H b=none:=fun{b o es ep} e d=>by
   cases q:H b with
   |none=>rfl
   |some u=>
    rcases hA b u q with⟨rfl,_⟩|⟨t,_⟩
    ·rw[ha]at e;cases e;have d':Data.seq vs.toArray _=im es ep:=d;cases d'
    ·rw[tb t]at e;cases e;have d':jE _=im es ep:=d;cases d'
  have nsK:∀{b:Addr}{m:Str->Option ah},s₁.heap.Ns b m->(Zj4 s₁.heap H).Ns b m:=fun{b m} ⟨o,es,ep,e,d,r⟩=>⟨o,es,ep,base_of e (noA e d),d,r⟩;have hKb:K.In (Zj4 s₁.heap H):=fun b o e=>base_of (KX b o e) (by
   cases q:H b with
   |none=>rfl
   |some u=>
    rcases hA b u q with⟨rfl,z,_⟩|⟨t,_⟩
    ·rw[z]at e;cases e
    ·rw[(Zi5 hT t).1]at e;cases e)
  have hM:Mod K mg (Zj4 s₁.heap H):=⟨hKb,nsK hns,⟨mb,nsK hb,hbb⟩,let ⟨mc,h1,h2⟩:=hlim;⟨mc,nsK h1,h2⟩⟩;have e0:Env0 P w K mg (Zj4 s₁.heap H) ke [] s₁ H:=⟨rfl,hM,fun b o e=>ZhY e,Nat.le_of_eq (ZhX _ _),trivial,fun b hb=>absurd (show b∈([]:List Addr)from hb) (by simp),hok,.of_eq hg,.inl rfl,hTb⟩
  refine jd ((F _ hKb (nsK hns)).run ke [] s₁ H ⟨[.ref a],[]⟩ [.ref a] [.ref a] _ _ hr e0 (hbind s₁ (.ref a)) (.cons rfl .nil) (hsp H hS)) fun r s' h=>?_;cases r with
  |error e=>exact(hCX H e s' h).elim
  |ok fl=>
   cases fl with
   |next=>exact cm h
   |brk=>exact cm h
   |cont=>exact cm h
   |ret u=>
    obtain⟨v,H',os,bare,un,hok',r',q⟩:=h;have q':v=.bl true:=q;subst q';obtain rfl:u=iu true:=r';have fin:∀b o,s₁.heap.get? b=some o->asItWas s₁.heap s'.heap b o:=fun b o e=>by
     cases q:H b with
     |none=>exact .inl (un.keep b o e q (by intro z;exact absurd (show b∈([]:List Addr)from z) (by simp)) (by simp))
     |some u=>
      rcases hA b u q with⟨_,_,ob,xs,rfl⟩|⟨t,rfl⟩
      ·have z2:=un.frzs b ob _ q;obtain⟨e1,_⟩:=hok b _ q;obtain⟨e2,_⟩:=hok' b _ z2;rw[e]at e1;cases e1;exact .inl e2
      ·obtain⟨more,z2⟩:=un.tbls b _ q;have e2:=(hok' b _ z2).1;have e1:=tb t;rw[e]at e1;cases e1;obtain⟨c,oc,vs',f1,f2,f3,f4⟩:=t;exact .inr (.inl ⟨⟨c,oc,vs',KX _ _ f1,f2,f3,f4⟩,rfl,#[],more,rfl,e2⟩)
    refine⟨rfl,⟨fin,fun b o e=>?_⟩,os,bare⟩;rcases fin b o e with z|⟨_,_,vs',m,_,z⟩|⟨_,_,⟨o',_,_,z,_⟩,_⟩
    ·exact⟨_,z⟩
    ·exact⟨_,z⟩
    ·exact⟨_,z⟩
 have tok:∀H:Hp,∀b,TbP K b->H b=some (.tbl #[])->Za5 P w H s₁.heap b (.tbl #[]):=fun H b t _=>⟨tb t,gN,fun pos cv z=>by cases z⟩
 have na:¬TbP K a:=fun t=>by
  have:=tb t
  rw[ha]at this;cases this
 cases hk:K.lookup a with
 |some o=>
  have e:=KX a o hk;rw[ha]at e;cases e
  classical
  refine core (fun b=>if TbP K b then some (.tbl #[])else none) (.inr ⟨_,vs.toArray,_,hk,rfl,rfl,rfl,by rw[ar,lenV];exact hl,by simpa using rv⟩) (fun b u z=>?_) (fun b u z=>?_) (fun b t=>⟨_,if_pos t⟩)
  ·by_cases t:TbP K b
   ·have z':=(if_pos t).symm.trans z;cases z';exact tok _ b t (if_pos t)
   ·have z':=(if_neg t).symm.trans z;cases z'
  ·by_cases t:TbP K b
   ·have z':=(if_pos t).symm.trans z;cases z';exact .inr ⟨t,rfl⟩
   ·have z':=(if_neg t).symm.trans z;cases z'
 |none=>
  classical
  let H:Hp:=fun b=>if b=a then some (.frz {cls:=.type "list",data:=.seq vs.toArray} (.lst (ns.map V.int)))else if TbP K b then some (.tbl #[])else none
  have hHa:H a=some (.frz {cls:=.type "list",data:=.seq vs.toArray} (.lst (ns.map V.int))):=if_pos rfl;have hHt:∀b,TbP K b->H b=some (.tbl #[]):=fun b t=>by
   show(if b=a then _ else if TbP K b then _ else _)=_
   have nb:b≠a:=fun z=>na (z▸t);rw[if_neg nb,if_pos t]
  have hHn:∀b,b≠a->¬TbP K b->H b=none:=fun b n t=>by
   show(if b=a then _ else if TbP K b then _ else _)=_
   rw[if_neg n,if_neg t]
  refine core H (.inl ⟨_,hHa⟩) (fun b u z=>?_) (fun b u z=>?_) (fun b t=>⟨_,hHt b t⟩)
  ·by_cases hb:b=a
   ·subst hb;rw[hHa]at z;cases z;exact⟨ha,by rw[ae];exact hl,vs,_,rv,ha⟩
   ·by_cases t:TbP K b
    ·rw[hHt b t]at z;cases z;exact tok _ b t (hHt b t)
    ·rw[hHn b hb t]at z;cases z
  ·by_cases hb:b=a
   ·subst hb;rw[hHa]at z;cases z;exact .inl ⟨rfl,hk,_,_,rfl⟩
   ·by_cases t:TbP K b
    ·rw[hHt b t]at z;cases z;exact .inr ⟨t,rfl⟩
    ·rw[hHn b hb t]at z;cases z
theorem ZkE{l:PySem.W.OpenLaw}{K T:jG->Fg}{CX:df->CXT}{sp:df->Sp}(hn:l.most=some n)(hn2:n<=sizeLine)(hdf:d.params.defaults=[])(hr:Room k ke)(hY:∀(w:df)(h:Heap),YP w h->(K w.params).In h/\(T w.params).In h)(hT:∀w:df,ZgQ (K w.params) (T w.params)=true)(F:∀(w:df)(mg:Str->Option ah)(fa:Addr)(h:Heap),(K w.params).In h->h.Ns ai mg->mg d.name=some (.ref fa)->∃fd:gq,(∀(s:aC)(u:ah),j8 s fd ⟨[u],[]⟩ [(x,u)])/\∀base:Heap,(K w.params).In base->base.Ns ai mg->FnOk l.prog w (K w.params) mg base (CX w) k fa fd [x] (sp w))(hsp:∀(w:df)(H:Hp)(a:Addr)(ns:List Int),ns.length<=n->DL.SqF (K w.params) H a (ns.map V.int)->sp w [.ref a] H (fun v _=>v=.bl true) fun _ _ _=>False)(hCX:∀(w:df)(H:Hp)(s:aC)(e:ah)(s':aC),CX w [] H s (fun _ _ _=>False) e s'->False):PySem.W.WalkO q loose XP YP l.row.toRowW d [] (fun f vs=>PySem.call f vs):=by
 refine Att.Zf2 hn hdf fun w s₀ s₁ mg mb fa o pm cd doc a vs ns G Y ho hd hcd hmg hobj hints hlen hg=>?_;obtain⟨KX,TX⟩:=hY w _ Y;obtain⟨fd,hb,hF⟩:=F w mg fa _ KX G.T.g hmg;exact Zi6 KX TX (hT w) G.T.g G.T.b G.T.builtins G.T.nolimit hg hobj hints (aE hlen hn2) hr hF hb (fun H hS=>hsp w H a ns hlen hS) fun H e s'=>hCX w H s₁ e s'
end L2
namespace DL
open PyProof.Rows L2
theorem ZmW{K:Fg}{ns:List Int}(hF:SqF K H a (ns.map V.int))(h:∃M',F [.rol (ns.map D.int)] []=.ok (.bl true) M'):spD K F [.ref a] H (fun v _=>v=.bl true) (fun _ _ _=>False):=by
 obtain⟨M',e⟩:=h;refine⟨[.rol (ns.map D.int)],[],[],.cons (.rol hF (Reps.ints ns)) .nil,HR.nil,?_⟩;rw[e];intro v H' α' _ _ r;cases r;rfl
theorem ZmX{K:Fg}(x:PySem.W.Frag.In (K++T) h):K.In h:=fun b o e=>x b o (by rw[List.lookup_append,e];rfl)
theorem ZkF{K:Fg}(x:PySem.W.Frag.In (K++T) h)(d:T.all (fun p=>(K.lookup p.1).isNone)=true):T.In h:=fun b o e=>x b o (by
 have q:=bh.mp d _ (Zi4 e);rw[List.lookup_append,fQ.mp q];exact e)
end DL
namespace DL
open PyProof.Rows L2
theorem Reps.tk{K:Fg}{H:Hp}{α:List Addr}:∀{vs:List V}{ds:List D}(i:Nat),Reps K H α vs ds->Reps K H α (vs.take i) (ds.take i)
 |_,_,0,_=>.nil
 |_,_,_+1,.nil=>.nil
 |_,_,i+1,.cons r t=>.cons r (Reps.tk i t)
end DL
namespace DL
open PyProof.Rows L2
end DL
namespace DL
open L2
end DL
namespace DQ
open PyProof.Rows
theorem ZmY(q:Zbq A s.heap)(hit:s.heap.IsStrIter it "str_ascii_iterator" x t i)(hx:x.cps[i]?=none)(hQ:∀h',gX it s.heap h'->Q none {s with heap:=h'}):wpAny (az prog w) A (iO (.ref it)) Q E s:=by
 obtain⟨o,ho,hc,hd⟩:=id hit;refine Zgt hit.typeIs F.slot_str_ascii_iterator_next F.entry_str_ascii_iterator_next (F.args_str_ascii_iterator_next_1 _) ?_ hQ;refine Wb (m:=li (.ref it) 0) (bf ho hd (x:=.str x t) rfl ?_);refine Wb (m:=li (.ref it) 1) (bf ho hd (x:=.int i 0) rfl ?_);simp only[gm,hx];refine Wb (gJ (Wb (cG ho hd (by simp) (Wb (wpAny_letGo ?_)))))
 have q2:Zbq A.in1 (s.heap.update it (dy (·.setIfInBounds 0 bE))):=by
  rcases q with q|⟨ea,oe,vs,e1,e2,e3,e4⟩
  ·exact .inl q
  ·refine .inr ⟨ea,oe,vs,e1,?_,e3,e4⟩;rw[aI _ _ (fun z=>?_)]
   ·exact e2
   ·rw[<-z,ho]at e2;cases e2;rw[hd]at e3;cases e3;simp at e4
 refine ZbM q2 fun h' e k ho=>⟨e,rfl,ho,h',fun b o hb z=>k b o ?_,rfl⟩;rw[aI _ _ (bJ hb)];exact z
end DQ
namespace DL
open PyProof.Rows L2
noncomputable def Itx(x:Str):It:=⟨fun i _=>i<x.cps.size,fun i H v H'=>H'=H/\∃c,x.cps[i]?=some c/\v=.str ⟨#[c]⟩,fun i _=>x.cps.size<=i⟩
theorem ZkG{K:Fg}(x:Str)(t:Tok)(it:Addr):Turn P w K B tg (Itx x) [it] it (fun i h=>h.IsStrIter it "str_ascii_iterator" x t i) where
 mem:=by simp
 obj:=fun i h st b hb=>by
  have e:b=it:=by simpa using hb
  subst e;obtain⟨o,e,c,d⟩:=st;exact⟨o,e,fun v z=>by rw[d]at z;cases z⟩
 keep:=fun i h h' st k=>let ⟨o,e,r⟩:=st;⟨o,k it (by simp) o e,r⟩
 item:=by
  intro X hP hw hK hB i pins s σ H E I hf st hg;subst hP hw hK;obtain⟨f0,f1,f2,f3,f4,f5⟩:=hf it (by simp)
  have hi:x.cps[i]?=some x.cps[i]:=Array.getElem?_eq_getElem hg;refine wpAny_pyNext_ascii_item st hi fun h' st' sb=>?_;have I1:Inv X pins σ H {s with heap:=h',toks:=s.toks+1}:=I.turned (fun b o hb e=>(sb.2 b hb).trans e) f0 f1 f3 f4 f5;obtain⟨o,e,c,d⟩:=id st';exact⟨_,rfl,Zka (s:={s with heap:=h',toks:=s.toks+1}) e c d (by decide) ⟨.str ⟨#[x.cps[i]]⟩,H,I1,⟨_,rfl⟩,⟨rfl,_,hi,rfl⟩,st',fun b hb=>(hf b hb).1⟩⟩
 done:=by
  intro X hP hw hK hB i pins s σ H E I hf st hg;subst hP hw hK;obtain⟨f0,f1,f2,f3,f4,f5⟩:=hf it (by simp)
  exact DQ.ZmY I.qh st (by simp[show x.cps.size<=i from hg]) fun h' eb=>⟨rfl,I.turned (t':=s.toks) (fun b o hb e=>eb b o hb e) f0 f1 f3 f4 f5⟩
 self:=fun _ _ _ _ _ st h=>wpAny_pyIter_striter_ascii st h
section
variable {e:Expr}{cpos:Pos}{id:String}{r:V->List V->Hp->VK->Prop}
noncomputable def asc(x:Str):Bool:=x.cps.all (· < 128)
def Zuj(tl:TE):TI:=fun σ H R=>tl σ H fun v H1=>∃x,v=.str x/\asc x=true/\R (Itx x) H1
theorem Zph(hl:PE X l tl):PI X tg l (Zuj tl):=by
 intro pins s σ H R I h;refine thn (hl pins s σ H _ I h) fun v s1 hz=>?_;obtain⟨x,H1,I1,r1,q1⟩:=hz;obtain⟨x,rfl,hx,q⟩:=q1;obtain⟨t,rfl⟩:=r1;have fp:∀b∈[s1.heap.objs.size],Zd4 X pins H1 b:=fun b hb=>by
  have e:b=s1.heap.objs.size:=by simpa using hb
  subst e;exact I1.fpOk (au _) (I1.hok.fresh (au _))
 refine wpAny_pyIter_ascii hx ?_;exact⟨s1.heap.objs.size,[s1.heap.objs.size],_,_,H1,rfl,I1.kept (t':=s1.toks) fun b o e=>Hq _ e,ZkG x t _,⟨_,aW _ rfl,rfl,rfl⟩,fp,q⟩
noncomputable def sgs(x:Str):List D:=x.cps.toList.map fun c=>.str ⟨#[c]⟩
def iTx(f:Ev):Ro->Sto->Out Src:=fun ρ M=>(f ρ M).bind fun d M1=>match d with
 |.str x=>if asc x=true then .ok (.pur (sgs x)) M1 else .bad
 |_=>.bad
theorem Zi7(ha:DE X ξ a f):DI X ξ tg a (iTx f):=by
 obtain⟨ta,pa,qa⟩:=ha;refine⟨_,Zph pa,fun σ ρ H α M R s hh q=>qa σ ρ H α M _ s hh (OG.seq q fun d M1 v H1 α1 e1 h1 r1 w1=>?_)⟩;cases r1 with
 |str x=>
  by_cases c:asc x=true
  ·simp only[if_pos c]at w1;refine⟨x,rfl,c,w1 (Itx x) H1 α1 Ext.refl h1 ?_⟩;intro i H' α' M' ex hr;show match some (sgs x)[i]? with|some none=>_|some (some d)=>_|none=>True
   unfold sgs;rw[a7,eX];cases ei:x.cps[i]? with
   |none=>exact Array.getElem?_eq_none_iff.mp ei
   |some c=>
    refine⟨(aV.mp ei).1,fun v H'' y=>?_⟩;obtain⟨rfl,c',e1,rfl⟩:=y;rw[ei]at e1;cases e1;exact⟨Ext.refl,hr,.str _⟩
  ·simp only[if_neg c]at w1;exact w1.elim
 |_=>exact w1.elim
def ZfW(g:Me)(fo:Ev)(fs:Av):Ev:=fun ρ M=>(fo ρ M).bind fun x M1=>match x with|.str y=>(fs ρ M1).bind fun ds M2=>g (.str y) ds M2|_=>.bad
theorem Za2(slot:Slot "str" name id)(hty:typeOf (.builtin id)=pure (.type "method_descriptor"))(hm:MtR X id r)(hf:MO X ξ r g)(ho:DE X ξ o fo)(ha:DA X ξ (e::es) fs)(hbase:autoParam (fW o name X.env (eval o X.env)=eval o X.env) Qrf._auto_1)
  (hfew:((bT cpos (af (e::es) X.env)).all (fun x=> !x.1)&&(iV cpos (ge [] X.env)).all (fun x=>x.1.isSome) && decide ((e::es).length+([]:List gy).length+(if([]:List gy).isEmpty then 0 else 1)<30))=true:=by rfl)
  (hline:(apos.endLine==cpos.line)=true:=by rfl) (hs:af (e::es) X.env=(false,eval e X.env)::af es X.env:=by rfl) (hplain:(bT cpos (af es X.env)).any (·.1)=false:=by rfl):
  DE X ξ (.Call (.Attribute o name apos) (e::es) [] cpos) (ZfW g fo fs):=by
 obtain⟨to,po,qo⟩:=ho;obtain⟨ta,pa,qa⟩:=ha;refine⟨_,Zov PySem.F.plainAttrs_str slot hty hm po pa hbase hfew hline hs hplain,fun σ ρ H α M Q s h q=>?_⟩;refine qo σ ρ H α M _ s h (OG.seq q fun x M1 v H1 α1 e1 h1 r1 q1=>?_);cases r1 with
 |str y=>exact⟨rfl,qa σ ρ H1 α1 M1 _ (s.mono e1) h1 (OG.seq q1 fun ds M2 vs H2 α2 e2 h2 r2 q2=>hf H2 α2 M2 _ vs _ ds Q h2 (.str y) r2 q2)⟩
 |_=>exact q1.elim
def mStw:Me:=fun x ds M=>match x,ds with|.str y,[.str z]=>.ok (.bl (Txt.startswith y z)) M|_,_=>.bad
theorem Zpi:MtM X "str.startswith" (fun x vs H Q=>∃y z,x=.str y/\vs=[.str z]/\Q (.bl (Txt.startswith y z)) H):=by
 intro pins s σ H x vs v us Q I rx rv h;obtain⟨y,z,rfl,rfl,q⟩:=h;obtain⟨t,rfl⟩:=rx;obtain⟨u,rfl,t',rfl⟩:=ZbV rv;exact SC.startswith ⟨.bl _,H,I,rfl,q⟩
theorem Zpj:MO X ξ (fun x vs H Q=>∃y z,x=.str y/\vs=[.str z]/\Q (.bl (Txt.startswith y z)) H) mStw:=by
 intro H α M v vs x ds Q h rx rs q;unfold mStw at q
 split at q
 ·cases rx;cases rs with|cons ru rt=>cases rt;cases ru;exact⟨_,_,rfl,rfl,q _ H α Ext.refl h (.bl _)⟩
 ·exact q.elim
theorem Zi8(r:ZR xs its):∀{ys:List Str},xs=ys.map V.str->∃l:List (Str×Tok),its=k9 l/\l.map (·.1)=ys:=by
 induction r with
 |nil=>intro ys e;cases ys with|nil=>exact⟨[],rfl,rfl⟩|cons _ _=>cases e
 |cons r1 _ ih=>
  intro ys e;cases ys with
  |nil=>cases e
  |cons y ys=>
   cases e;obtain⟨t,rfl⟩:=r1;obtain⟨l,rfl,h2⟩:=ih rfl;exact⟨(y,t)::l,rfl,by rw[aL,h2]⟩
theorem ZfF:∀(l:List (Str×Tok)),ZR ((l.map (·.1)).map V.str) (k9 l)
 |[]=>.nil
 | (y,t)::l=>.cons ⟨t,rfl⟩ (ZfF l)
noncomputable def txs:List D->Option (List Str)
 |[]=>some []
 |.str y::r=>match txs r with|some ys=>some (y::ys)|none=>none
 |_::_=>none
theorem ZlG{K:Fg}{H:Hp}{α:List Addr}:∀{vs:List V}{ds:List D}{ys:List Str},Reps K H α vs ds->txs ds=some ys->vs=ys.map V.str
 |_,_,_,.nil,e=>by cases e;rfl
 |_,_,ys,.cons (v:=v) (d:=d) (ds:=ds) r t,e=>by
  cases r with
  |str y=>
   cases e1:txs ds with
   |none=>simp only[txs,e1]at e;cases e
   |some zs=>
    simp only[txs,e1]at e;cases e;rw[ZlG t e1];rfl
  |_=>cases e
noncomputable def rJoin:V->List V->Hp->VK->Prop:=fun x vs H Q=>∃y l ys,x=.str y/\vs=[.ref l]/\H l=some (.lst (ys.map V.str))/\lf y ys=true/\Q (.str (Txt.join y ys)) H
theorem ZeI:MtM X "str.join" rJoin:=by
 intro pins s σ H x vs v us Q I rx rv h;obtain⟨y,l,ys,rfl,rfl,hH,hj,q⟩:=h;obtain⟨t,rfl⟩:=rx;obtain⟨u,rfl,ru⟩:=ZbV rv;cases ru;obtain⟨z,its,n,r,hl,e⟩:=I.lstM hH;obtain⟨l',rfl,h2⟩:=Zi8 r rfl;exact SC.join (l:=l') ⟨_,e,rfl,_,rfl⟩ h2 hj fun t' k=>⟨.str _,H,I.tok _,⟨_,rfl⟩,q⟩
def mJn:Me:=fun x ds M=>match x,ds with
 |.str y,[.ref n]=>(match M[n]? with|some (.lst xs)=>(match txs xs with|some ys=>if lf y ys=true then .ok (.str (Txt.join y ys)) M else .bad|none=>.bad)|none=>.bad)
 |_,_=>.bad
theorem ZeJ:MO X ξ rJoin mJn:=by
 intro H α M v vs x ds Q h rx rs q;unfold mJn at q
 split at q
 ·rename_i y n;cases rx;cases rs with
  |cons ru rt=>
   cases rt;cases ru with
   |ref hp=>
    cases em:M[n]? with
    |none=>simp only[em]at q;exact q.elim
    |some so=>
     cases so with
     |lst ds=>
      obtain⟨xs,g1,g2⟩:=h.at hp em;cases et:txs ds with
      |none=>simp only[em,et]at q;exact q.elim
      |some ys=>
       by_cases c:lf y ys=true
       ·simp only[em,et,if_pos c]at q;rw[ZlG g2 et]at g1;exact⟨y,_,ys,rfl,rfl,g1,c,q _ H α Ext.refl h (.str _)⟩
       ·simp only[em,et,if_neg c]at q;exact q.elim
 ·exact q.elim
end
end DL
namespace SX
open PySem.Builtin.Str DL
noncomputable def ZfX(c:Nat):List Nat->Nat->List Nat
 |[],_=>[]
 |x::r,k=>if x=c then k::ZfX c r (k+1)else ZfX c r (k+1)
theorem ZfG(c x:Nat)(r:List Nat)(k:Nat):ZfX c (x::r) k=if x=c then k::ZfX c r (k+1)else ZfX c r (k+1):=rfl
theorem ZeK(c:Nat):∀(l:List Nat)(k:Nat),(ZfX c l k).length<=l.length
 |[],_=>au _
 |x::r,k=>by
  rw[ZfG]
  have:=ZeK c r (k+1)
  split<;>simp<;>lia
noncomputable def stp(s:Str)(c L:Nat)(b:Array Nat×Nat)(a:Nat):Array Nat×Nat:=if(decide (b.1.size<L)&&decide (b.2<=a)&&decide (a+1<=s.length)&&subAt s ⟨#[c]⟩ a)=true then(b.1.push a,a+1)else(b.1,b.2)
theorem ZfH(s:Str)(c L:Nat):∀(m i:Nat)(fd:Array Nat)(fr:Nat),i+m=s.cps.toList.length+1->fr<=i->(jh (stp s c L) (fd,fr) (List.range' i m)).1.toList=fd.toList++(ZfX c (s.cps.toList.drop i) i).take (L-fd.size)
 |0,i,fd,fr,h,_=>by
  rw[a8 (by lia)]
  simp[ZfX]
 |m+1,i,fd,fr,h,hf=>by
  rw[List.range'_succ,fX];have hl:s.length=s.cps.toList.length:=by simp[fG]
  have no:∀(q:(decide (fd.size<L)&&decide (fr<=i)&&decide (i+1<=s.length)&&subAt s ⟨#[c]⟩ i)=false),stp s c L (fd,fr) i=(fd,fr):=fun q=>by unfold stp;rw[if_neg (by rw[q];decide)]
  by_cases hi:i<s.cps.toList.length
  ·have e:s.cps.toList.drop i=s.cps.toList[i]::s.cps.toList.drop (i+1):=dJ hi;have hs:subAt s ⟨#[c]⟩ i=decide (s.cps.toList[i]=c):=by
    unfold subAt;rw[show(⟨#[c]⟩:Str).length=1 from rfl];have e2:s.cps.extract i (i+1)= #[s.cps.toList[i]]:=by
     apply cV.mp;rw[fH,dL];rw[e];simp
    rw[e2];by_cases q:s.cps.toList[i]=c
    ·rw[q];simp
    ·rw[decide_eq_false q];apply beq_eq_false_iff_ne.mpr;intro z;injection z with z;injection z with z _;exact q z
   rw[e,ZfG];by_cases q:s.cps.toList[i]=c
   ·by_cases hL:fd.size<L
    ·have y:stp s c L (fd,fr) i=(fd.push i,i+1):=by
      unfold stp;rw[hs,if_pos (by rw[decide_eq_true hL,decide_eq_true hf,decide_eq_true (show i+1<=s.length by lia),decide_eq_true q];rfl)]
     rw[y,ZfH s c L m (i+1) _ _ (by lia) (au _)]
     rw[if_pos q,show L-fd.size=(L-(fd.push i).size)+1 by rw[Array.size_push];lia,fU]
     simp
    ·rw[no (by rw[decide_eq_false hL];rfl)]
     rw[ZfH s c L m (i+1) _ _ (by lia) (by lia),show L-fd.size=0 by lia]
     simp
   ·rw[no (by rw[hs,decide_eq_false q,iC])]
    rw[ZfH s c L m (i+1) _ _ (by lia) (by lia),if_neg q]
  ·rw[no (by rw[decide_eq_false (show ¬i+1<=s.length by lia),iC,iy])]
   rw[ZfH s c L m (i+1) _ _ (by lia) (by lia),a8 (by lia),a8 (by lia)]
   rfl
theorem occ(s:Str)(c L:Nat):occurrences s ⟨#[c]⟩ 0 s.length L=(ZfX c s.cps.toList 0).take L:=by
 have:=ZfH s c L (s.cps.toList.length+1) 0 #[] 0 (by lia) (au _)
 unfold occurrences;dsimp only;rw[Std.Legacy.Range.forIn_eq_forIn_range'];have hz:[0:s.length+1].size=s.cps.toList.length+1:=by simp[Std.Legacy.Range.size,fG]
 rw[hz];simp only[jN,Array.toList_empty,cO,Array.size_empty,Nat.sub_zero]at this;rw[<-this];have q:∀(i:Nat)(t:Array Nat×Nat),(if(decide (t.1.size<L)&&decide (t.2<=i)&&decide (i+(⟨#[c]⟩:Str).length<=s.length)&&subAt s ⟨#[c]⟩ i)=true then(pure (ForInStep.yield (t.1.push i,i+(⟨#[c]⟩:Str).length)):Id _)else pure (ForInStep.yield (t.1,t.2)))
   =pure (ForInStep.yield (stp s c L t i)):=fun i t=>by unfold stp;rw[show(⟨#[c]⟩:Str).length=1 from rfl];split<;>rfl
 simp only[q,List.forIn_pure_yield_eq_foldl];rfl
noncomputable def spl(c:Nat):List Nat->List (List Nat)
 |[]=>[[]]
 |x::r=>if x=c then[]::spl c r else match spl c r with|a::t=>(x::a)::t|[]=>[[x]]
theorem ZeL(c x:Nat)(r:List Nat):spl c (x::r)=if x=c then[]::spl c r else match spl c r with|a::t=>(x::a)::t|[]=>[[x]]:=rfl
theorem ZbZ(c:Nat):∀l,spl c l≠[]
 |[]=>by simp[spl]
 |x::r=>by
  rw[ZeL];split
  ·simp
  ·cases e:spl c r with|nil=>simp|cons a t=>simp
noncomputable def pb(f:Nat->Nat->Str)(n:Nat):Nat->List Nat->List Str
 |a,[]=>[f a n]
 |a,i::r=>f a i::pb f n (i+1) r
theorem ZlH(f:Nat->Nat->Str)(n:Nat):∀(a:Nat)(cs:List Nat),((a::cs.map (· + 1)).zip (cs++[n])).map (fun x=>f x.1 x.2)=pb f n a cs
 |a,[]=>rfl
 |a,i::r=>by
  have:=ZlH f n (i+1) r
  simp only[aL,aS,ir,pb];rw[<-this]
theorem Zi9(s:Str)(c:Nat):∀(l mid:List Nat)(a k:Nat),a+mid.length=k->s.cps.toList.drop a=mid++l->a<=s.cps.toList.length->pb (strSub s) s.length a (ZfX c l k)=(match spl c l with|x::t=>(⟨(mid++x).toArray⟩:Str)::t.map (fun y=>⟨y.toArray⟩)|[]=>[])
 |[],mid,a,k,h,e,ha=>by
  show[strSub s a s.length]=[(⟨(mid++[]).toArray⟩:Str)];have hl:s.length=s.cps.toList.length:=by simp[fG]
  rw[aY]at e;simp only[aY,dj,hO,and_true];unfold strSub;congr 1;apply cV.mp;rw[fH,dL,e,hl];exact bp (by rw[<-e,bO];exact au _)
 |x::r,mid,a,k,h,e,ha=>by
  have hk:k<s.cps.toList.length:=by
   have:=congrArg dQ e
   rw[bO,aa,ao]at this;lia
  by_cases q:x=c
  ·have e2:s.cps.toList.drop (k+1)=[]++r:=by
    have:=congrArg (List.drop (mid.length+1)) e
    rw[List.drop_drop,gP,a8 (lg _),show mid.length+1-mid.length=1 by lia]at this
    rw[<-h,gR];exact this
   have ih:=Zi9 s c r [] (k+1) (k+1) rfl e2 (by lia)
   rw[ZfG,ZeL,if_pos q,if_pos q];show strSub s a k::pb (strSub s) s.length (k+1) (ZfX c r (k+1))=_;rw[ih];simp only[aY];congr 1
   ·unfold strSub;congr 1;apply cV.mp;rw[fH,dL,e,show k-a=mid.length by lia,List.take_left]
   ·cases e3:spl c r with
    |nil=>exact absurd e3 (ZbZ c r)
    |cons y t=>rfl
  ·have ih:=Zi9 s c r (mid++[x]) a (k+1) (by rw[aa];simp;lia) (by rw[e];simp) ha
   rw[ZfG,ZeL,if_neg q,if_neg q,ih];cases e3:spl c r with
   |nil=>exact absurd e3 (ZbZ c r)
   |cons y t=>simp
theorem ZkH(s:Str)(c:Nat)(hc:c<256):Txt.split s ⟨#[c]⟩=(spl c s.cps.toList).map fun l=>(⟨l.toArray⟩:Str):=by
 have hl:s.length=s.cps.toList.length:=by simp[fG]
 have key:partsBetween s (ZfX c s.cps.toList 0) 1=(spl c s.cps.toList).map fun l=>(⟨l.toArray⟩:Str):=by
  have h:=Zi9 s c s.cps.toList [] 0 0 rfl rfl (gY _);rw[<-ZlH]at h;unfold partsBetween;refine Eq.trans ?_ (h.trans ?_)
  ·rfl
  ·cases e3:spl c s.cps.toList with
   |nil=>exact absurd e3 (ZbZ c _)
   |cons y t=>rfl
 have whole:ZfX c s.cps.toList 0=[]->[s]=(spl c s.cps.toList).map fun l=>(⟨l.toArray⟩:Str):=fun e=>by
  rw[<-key,e];unfold partsBetween;simp only[dj,cO,ir,List.zip_nil_right,aL,hO,and_true];unfold strSub;cases s with
  |mk a=>congr 1;apply cV.mp;simp[fG]
 have k1:cN (⟨#[c]⟩:Str)=1:=by
  unfold cN;rw[if_pos (by simp[hc])]
 have k2:decide (cN s<cN (⟨#[c]⟩:Str))=false:=by
  rw[k1];apply decide_eq_false;unfold cN
  split<;>(try split)<;>lia
 have o:occurrences s ⟨#[c]⟩ 0 s.length (s.length+1)=ZfX c s.cps.toList 0:=by
  rw[occ,bp]
  have:=ZeK c s.cps.toList 0
  lia
 unfold Txt.split;rw[k2,kC,o,show(⟨#[c]⟩:Str).length=1 from rfl];split
 ·rename_i h;have h:s.length<1:=of_decide_eq_true h;refine whole ?_
  have:s.cps.toList=[]:=eF (by lia)
  rw[this];rfl
 ·split
  ·rename_i h;exact whole (List.isEmpty_iff.mp h)
  ·exact key
theorem ZrN(s:Str)(c:Nat):(!(occurrences s ⟨#[c]⟩ 0 s.length 1).isEmpty)=s.cps.toList.contains c:=by
 rw[occ]
 have:∀(l:List Nat)(k:Nat),(!((ZfX c l k).take 1).isEmpty)=l.contains c:=by
  intro l
  induction l with
  |nil=>intro k;rfl
  |cons x r ih=>
   intro k;rw[ZfG];by_cases q:x=c
   ·rw[if_pos q,q];simp
   ·rw[if_neg q,ih,eJ]
    have:(c==x)=false:=beq_eq_false_iff_ne.mpr (bJ q)
    rw[this];rfl
 exact this _ 0
noncomputable def jn(c:Nat):List (List Nat)->List Nat
 |[]=>[]
 |[a]=>a
 |a::r=>a++c::jn c r
theorem Zb6(c:Nat)(ys:List Str):(Txt.join ⟨#[c]⟩ ys).cps.toList=jn c (ys.map (·.cps.toList)):=by
 have go:∀(l:List Str)(acc:Array Nat),(l.foldl (fun acc p=>acc ++ #[c]++p.cps) acc).toList=acc.toList++l.flatMap fun p=>c::p.cps.toList:=by
  intro l
  induction l with
  |nil=>intro acc;simp
  |cons a r ih=>intro acc;rw[fX,ih];simp
 have e:∀(a:List Nat)(l:List Str),jn c (a::l.map (·.cps.toList))=a++l.flatMap fun p=>c::p.cps.toList:=by
  intro a l
  induction l generalizing a with
  |nil=>simp[jn]
  |cons b r ih=>
   rw[aL];show a++c::jn c (b.cps.toList::r.map (·.cps.toList))=_;rw[ih];simp
 cases ys with
 |nil=>rfl
 |cons a r=>
  show kG (jh (fun acc p=>acc ++ #[c]++p.cps) a.cps r)=_;rw[go,aL,e]
end SX
namespace DL
open PyProof.Rows L2 SX
def mSpl:Me:=fun x ds M=>match x,ds with
 |.str y,[.str z]=>(match z.cps.toList with|[c]=>if c<128/\y.length<=16000000 then .ok (.ref M.length) (M++[.lst ((spl c y.cps.toList).map fun l=>.str ⟨l.toArray⟩)])else .bad|_=>.bad)
 |_,_=>.bad
def rSpl:V->List V->Hp->VK->Prop:=fun x vs H Q=>∃y c,x=.str y/\vs=[.str ⟨#[c]⟩]/\c<128/\y.length<=16000000/\∀l,H l=none->Q (.ref l) (upd H l (.lst ((Txt.split y ⟨#[c]⟩).map V.str)))
theorem ZkI(x:Str)(c:Nat):(cZ x (ba x ⟨#[c]⟩ 0 x.length (x.length+1)) (⟨#[c]⟩:Str).length).length<=x.length+1:=by
 unfold cZ;rw[occ];have h1:=ZeK c x.cps.toList 0;have h2:x.cps.toList.length=x.length:=by simp[fG]
 have h3:(List.take (x.length+1) (ZfX c x.cps.toList 0)).length<=x.length:=by rw[bF];lia
 simp only[ae,List.length_zip,ao,aa];lia
theorem Zbe:MtM X "str.split" rSpl:=by
 intro pins s σ H x vs v us Q I rx rv h;obtain⟨y,c,rfl,rfl,hc,hy,q⟩:=h;obtain⟨t,rfl⟩:=rx;obtain⟨u,rfl,t',rfl⟩:=ZbV rv;have hz:=fB;have sz:y.length<=sizeLine:=by rw[hz];lia
 have hn:((⟨#[c]⟩:Str).length==0)=false:=rfl;have fin:∀(l:List (Str×Tok)) (k:Nat),l.map (·.1)=Txt.split y ⟨#[c]⟩->l.length<=sizeLine->EP X pins σ Q (.ref s.heap.objs.size) {s with heap:=s.heap.push {cls:=.type "list",data:=.seq (k9 l).toArray},toks:=k}:=fun l k e hl=>
  ⟨.ref s.heap.objs.size,_,I.lnew (its:=k9 l) (t':=k) (e▸ZfF l) (by rw[ae,<-e,ae];exact hl),rfl,q _ I.fresh⟩
 cases h1:(decide (y.length<(⟨#[c]⟩:Str).length)||decide (cN y<cN ⟨#[c]⟩))
 ·cases hf:(ba y ⟨#[c]⟩ 0 y.length (y.length+1)).isEmpty
  ·have hp:(cZ y (ba y ⟨#[c]⟩ 0 y.length (y.length+1)) (⟨#[c]⟩:Str).length).length<=sizeLine:=aE (ZkI y c) (by rw[hz];lia)
   refine gM F.slot_str_split (iz _ _ _) F.entry_str_split (F.args_str_split_2 _ _) (meets_str_split_sep y ⟨#[c]⟩ t t' h1 hn hf sz hp) ?_;show wants _ _ _ {s with toks:=_,heap:=s.heap.push {cls:=.type "list",data:=.seq (strsFrom s.toks (cZ y (ba y ⟨#[c]⟩ 0 y.length (y.length+1)) (⟨#[c]⟩:Str).length)).toArray}};rw[strsFrom_eq];exact fin (numbered s.toks _) _ ((numbered_texts _ _).trans ((if_neg (ne_true_of_eq_false h1)).trans (if_neg (ne_true_of_eq_false hf))).symm) (by
    have:=congrArg dQ (numbered_texts s.toks (cZ y (ba y ⟨#[c]⟩ 0 y.length (y.length+1)) (⟨#[c]⟩:Str).length))
    rw[ae]at this
    lia)
  ·exact gM F.slot_str_split (iz _ _ _) F.entry_str_split (F.args_str_split_2 _ _) (meets_str_split_not_found y ⟨#[c]⟩ t t' h1 hn hf) (fin [(y,t)] s.toks ((if_neg (ne_true_of_eq_false h1)).trans (if_pos hf)).symm (by rw[hz];exact(by decide:1<=16777216)))
 ·exact gM F.slot_str_split (iz _ _ _) F.entry_str_split (F.args_str_split_2 _ _) (meets_str_split_cannot_occur y ⟨#[c]⟩ t t' h1) (fin [(y,t)] s.toks (if_pos h1).symm (by rw[hz];exact(by decide:1<=16777216)))
theorem Reps.strs{K:Fg}{H:Hp}{α:List Addr}:∀ys:List Str,Reps K H α (ys.map V.str) (ys.map D.str)
 |[]=>.nil
 |y::ys=>.cons (.str y) (Reps.strs ys)
theorem ZdB:MO X ξ rSpl mSpl:=by
 intro H α M v vs x ds Q h rx rs q;unfold mSpl at q
 split at q
 ·rename_i y z;cases rx;cases rs with
  |cons ru rt=>
   cases rt;cases ru
   split at q
   ·rename_i c ez;by_cases cc:c<128/\y.length<=16000000
    ·rw[if_pos cc]at q;have e:z=⟨#[c]⟩:=by
      cases z with
      |mk zz=>congr 1;exact cV.mp ez
     subst e;refine⟨y,c,rfl,rfl,cc.1,cc.2,fun l hl=>?_⟩;rw[ZkH y c (by lia)]
     refine q _ _ (α++[l]) (Ext.new hl) (h.new hl ?_) (.ref ⟨h.last l,Kn.lst Zp⟩)
     have:=Reps.strs (K:=X.K) (H:=H) (α:=α) ((spl c y.cps.toList).map fun l=>(⟨l.toArray⟩:Str))
     rw[bM,bM]at this;rw[bM];exact this
    ·rw[if_neg cc]at q;exact q.elim
   ·exact q.elim
 ·exact q.elim
noncomputable def bLenT:W3:=fun ds M=>match ds with|[.str z]=>if z.length<=100000 then .ok (.int z.length) M else .bad|_=>.bad
theorem ZeM:CO X ξ (fun xs H Q=>∃z,xs=[.str z]/\z.length<=sizeLine/\Q (.int z.length) H) bLenT:=by
 intro H α M vs ds Q h rs q;unfold bLenT at q
 split at q
 ·cases rs with
  |cons r t=>
   cases t;cases r
   split at q
   ·rename_i c;exact⟨_,rfl,Ziv c,q _ H α Ext.refl h (.int _)⟩
   ·exact q.elim
 ·exact q.elim
noncomputable def bStr:W3:=fun ds M=>match ds with|[.int i]=>if i.natAbs.log2<1900 then .ok (.str (bc (toString i))) M else .bad|_=>.bad
theorem Zeh:CO X ξ (fun xs H Q=>∃i,xs=[.int i]/\i.natAbs.log2<1920/\Q (.str (toString i)) H) bStr:=by
 intro H α M vs ds Q h rs q;unfold bStr at q
 split at q
 ·cases rs with
  |cons r t=>
   cases t;cases r
   split at q
   ·rename_i c;exact⟨_,rfl,by lia,q _ H α Ext.refl h (.str _)⟩
   ·exact q.elim
 ·exact q.elim
theorem Zja:Zbr X (.type "int") (fun xs H Q=>∃z n,xs=[.str z]/\z.length<=640/\intText? z=some n/\Q (.int n) H):=by
 intro pins s σ H xs us Q I r h;obtain⟨z,n,rfl,hz,hn,q⟩:=h;obtain⟨u,rfl,t,rfl⟩:=ZbV r;exact PySem.W.KIN.call_text hn hz ⟨.int n,H,I.tok _,⟨_,rfl⟩,q⟩
noncomputable def bIntT:W3:=fun ds M=>match ds with|[.str z]=>if z.length<=640 then(match intText? z with|some n=>.ok (.int n) M|none=>.bad)else .bad|_=>.bad
theorem ZmZ:CO X ξ (fun xs H Q=>∃z n,xs=[.str z]/\z.length<=640/\intText? z=some n/\Q (.int n) H) bIntT:=by
 intro H α M vs ds Q h rs q;unfold bIntT at q
 split at q
 ·rename_i z;cases rs with
  |cons r t=>
   cases t;cases r
   split at q
   ·rename_i c;cases e:intText? z with
    |none=>rw[e]at q;exact q.elim
    |some n=>rw[e]at q;exact⟨_,n,rfl,c,e,q _ H α Ext.refl h (.int _)⟩
   ·exact q.elim
 ·exact q.elim
def dInT:Bo:=fun x y M=>match x,y with
 |.str i,.str j=>(match i.cps.toList with|[c]=>.ok (.bl (j.cps.toList.contains c)) M|_=>.bad)
 |_,_=>.bad
theorem Zpk:BO X ξ (fun x y H Q=>∃i j,x=.str i/\y=.str j/\Q (.bl (!(ba j i 0 j.length 1).isEmpty)) H) dInT:=by
 intro H α M v w x y Q h rv rw' q;unfold dInT at q
 split at q
 ·rename_i i j;cases rv;cases rw'
  split at q
  ·rename_i c ez;have e:i=⟨#[c]⟩:=by
    cases i with
    |mk zz=>congr 1;exact cV.mp ez
   subst e;exact⟨_,j,rfl,rfl,by rw[ZrN];exact q _ H α Ext.refl h (.bl _)⟩
  ·exact q.elim
 ·exact q.elim
noncomputable def ZlI:Bo:=fun x y M=>match x,y with
 |.str z,.int i=>if 0<=i/\i<100000 then(match z.cps.toList[i.toNat]? with|some c=>.ok (.str ⟨#[c]⟩) M|none=>.bad)else .bad
 |_,_=>.bad
theorem ZgR(ha:DE X ξ a fa)(hb:DE X ξ b fb)(hs:Zgw b:=by intro _ _;rfl):DE X ξ (.Subscript a b pos) (DL.e2 ZlI fa fb):=by
 obtain⟨ta,pa,qa⟩:=ha;obtain⟨tb,pb,qb⟩:=hb;refine⟨_,Zf1 pa pb hs,fun σ ρ H α M Q s h q=>?_⟩;refine qa σ ρ H α M _ s h (OG.seq q fun x M1 v H1 α1 e1 h1 r1 q1=>qb σ ρ H1 α1 M1 _ (s.mono e1) h1 (OG.seq q1 fun y M2 w H2 α2 e2 h2 r2 q2=>?_));unfold ZlI at q2
 split at q2
 ·rename_i z i;cases r1;cases r2
  split at q2
  ·rename_i c;cases e:z.cps.toList[i.toNat]? with
   |none=>rw[e]at q2;exact q2.elim
   |some d=>
    rw[e]at q2;have el:=(aj.mp e).1;refine⟨z,i,d,rfl,rfl,c.1,by lia,?_,by rw[<-eX];exact e,q2 _ H2 α2 Ext.refl h2 (.str _)⟩
    have:z.length=z.cps.toList.length:=by simp[fG]
    lia
  ·exact q2.elim
 ·exact q2.elim
def rSlS:V->Option Int->Option Int->Hp->VK->Prop:=fun x lo hi H Q=>∃z,x=.str z/\z.length<=sizeLine/\Q (.str (Txt.slice z lo hi)) H
theorem Zpl:SlR X rSlS:=by
 intro pins s σ H x v vl vu lo hi sl Q I rx hs pl pu h;obtain⟨z,rfl,hz,q⟩:=h;obtain⟨t,rfl⟩:=rx;refine⟨"str",_,F.slot_str_getitem.lookup,iz _ _ _,?_⟩;have fin:∀t' k,EP X pins σ Q (.str (Txt.slice z lo hi) t') {s with toks:=k}:=fun t' k=>⟨.str _,H,I.tok _,⟨_,rfl⟩,q⟩;cases pl with
 |none=>
  cases pu with
  |none=>exact eD (l:=none) (u:=none) (st:=none) hs rfl (ia ⟨aE (Txt.slice_le z _ _) hz,fin⟩)
  |int j uj=>exact eD (l:=none) (u:=some (j,uj)) (st:=none) hs rfl (ia ⟨aE (Txt.slice_le z _ _) hz,fin⟩)
 |int i ui=>
  cases pu with
  |none=>exact eD (l:=some (i,ui)) (u:=none) (st:=none) hs rfl (ia ⟨aE (Txt.slice_le z _ _) hz,fin⟩)
  |int j uj=>exact eD (l:=some (i,ui)) (u:=some (j,uj)) (st:=none) hs rfl (ia ⟨aE (Txt.slice_le z _ _) hz,fin⟩)
def Zfc(z:Str)(lo hi:Option Int):Str:=⟨((z.cps.toList.drop (lo.getD 0).toNat).take ((hi.getD z.cps.toList.length).toNat-(lo.getD 0).toNat)).toArray⟩
def okT(z:Str)(lo hi:Option Int):Prop:=0<=lo.getD 0/\lo.getD 0<=hi.getD z.cps.toList.length/\lo.getD 0<=z.cps.toList.length
instance (z:Str) (lo hi:Option Int):Decidable (okT z lo hi):=by unfold okT;infer_instance
theorem Zjb{j:Int}(h:z.length<=j):Txt.slice z l (some j)=Txt.slice z l (some (z.length:Int)):=by
 unfold Txt.slice;have e:ff l (some j) 1 z.length=ff l (some (z.length:Int)) 1 z.length:=by
  have a:¬j<0:=by lia
  have b:¬(z.length:Int)<0:=by lia
  have c:min j (z.length:Int)=z.length:=by lia
  simp[ff,a,b,c]
 rw[e]
theorem Zm0{lo:Option Int}(h:okT z lo hi):Txt.slice z lo hi=Zfc z lo hi:=by
 unfold okT at h;have hl:z.length=z.cps.toList.length:=by simp[fG]
 have k:∀{i j:Int},0<=i/\i<=j/\i<=z.cps.toList.length->Txt.slice z (some i) (some j)=⟨((z.cps.toList.drop i.toNat).take (j.toNat-i.toNat)).toArray⟩:=fun{i j} q=>by
  by_cases c:j<=z.cps.toList.length
  ·rw[eq_of_beq (slice_closes ⟨q.1,q.2.1,c⟩)];congr 3;lia
  ·rw[Zjb (by rw[hl];lia),hl,eq_of_beq (slice_closes ⟨q.1,q.2.2,Int.le_refl _⟩)]
   congr 1;rw[bp (by rw[bO];lia),bp (by rw[bO];lia)]
 have n0:∀u,Txt.slice z none u=Txt.slice z (some 0) u:=fun u=>by unfold Txt.slice;rw[StrLaws.sliceIdx_none_lo]
 have n1:∀l,Txt.slice z l none=Txt.slice z l (some (z.length:Int)):=fun l=>by unfold Txt.slice;rw[StrLaws.sliceIdx_none_hi]
 unfold Zfc;cases lo with
 |none=>
  rw[n0];cases hi with
  |none=>rw[n1,hl];exact k h
  |some j=>exact k h
 |some i=>
  cases hi with
  |none=>rw[n1,hl];exact k h
  |some j=>exact k h
def ZgS(f:Ev)(lo hi:Ro->Sto->Out (Option Int)):Ev:=fun ρ M=>(f ρ M).bind fun x M1=>(lo ρ M1).bind fun l M2=>(hi ρ M2).bind fun u M3=>match x with
 |.str z=>if z.length<=100000/\okT z l u then .ok (.str (Zfc z l u)) M3 else .bad
 |_=>.bad
theorem Zbz{lo:Option Expr}(he:DE X ξ e fa)(hl:DO X ξ lo fl)(hh:DO X ξ hi fh):DE X ξ (.Subscript e (.Slice lo hi none p2) pos) (ZgS fa fl fh):=by
 obtain⟨ta,pa,qa⟩:=he;obtain⟨tl,pl,ql⟩:=hl;obtain⟨th,ph,qh⟩:=hh;refine⟨_,Zgz Zpl pa pl ph,fun σ ρ H α M Q s h q=>?_⟩;refine qa σ ρ H α M _ s h (OG.seq q fun x M1 v H1 α1 e1 h1 r1 q1=>?_);refine ql σ ρ H1 α1 M1 _ (s.mono e1) h1 (OG.seq q1 fun l M2 l' H2 α2 e2 h2 r2 q2=>?_);refine qh σ ρ H2 α2 M2 _ ((s.mono e1).mono e2) h2 (OG.seq q2 fun u M3 u' H3 α3 e3 h3 r3 q3=>?_);cases r2;cases r3;cases r1 with
 |str z=>
  by_cases c:z.length<=100000/\okT z l u
  ·simp only[if_pos c]at q3;exact⟨z,rfl,Ziv c.1,by rw[Zm0 c.2];exact q3 _ H3 α3 Ext.refl h3 (.str _)⟩
  ·simp only[if_neg c]at q3;exact q3.elim
 |_=>exact q3.elim
end DL
namespace DL
open PyProof.Rows L2
theorem Zjc(hc:X.A.handled=none):Zbr X (.type "list") (fun xs H Q=>∃x,xs=[.str x]/\x.cps.size<=sizeLine/\∀l,H l=none->Q (.ref l) (upd H l (.lst (x.cps.toList.map fun c=>V.str ⟨#[c]⟩)))):=by
 intro pins s σ H xs us Q I r h;obtain⟨x,rfl,hz,q⟩:=h;obtain⟨u,rfl,t,rfl⟩:=ZbV r;refine call_list_str hc x t (fun h' tk acc c keep hS hacc=>?_) hz;obtain⟨a1,a2⟩:=hacc;have hv:∀(l:List Nat)(its:List ah),its.length=l.length->(∀(j:Nat)(v:ah),its[j]?=some v->∃(c:Nat) (t':Tok),l[j]?=some c/\v=jZ ⟨#[c]⟩ t')->ZR (l.map fun c=>V.str ⟨#[c]⟩) its:=by
  intro l
  induction l with
  |nil=>intro its e _;rw[eF e];exact .nil
  |cons c l ih=>
   intro its e f;cases its with
   |nil=>cases e
   |cons v its=>
    obtain⟨c',t',k1,k2⟩:=f 0 v rfl;cases k1;exact .cons ⟨t',k2⟩ (ih its (Nat.succ.inj e) fun j v hj=>f (j+1) v hj)
 have hv:=hv x.cps.toList acc.toList (by rw[dh,dh];exact a1) fun j v hj=>by
  rw[eX]at hj;obtain⟨c,t',k1,k2⟩:=a2 j v hj;exact⟨c,t',by rw[eX];exact k1,k2⟩
 exact⟨.ref s.heap.objs.size,_,I.laid (t':=tk) keep (au _) (show Za5 X.prog X.w _ h' _ (.lst _)from⟨by rw[ae];exact hz,_,c,hv,hS⟩),rfl,q _ (I.hok.fresh (au _))⟩
def bLisT:W3:=fun ds M=>match ds with
 |[.str x]=>if x.cps.size<=10000 then .ok (.ref M.length) (M++[.lst (sgs x)])else .bad
 |_=>.bad
theorem ZgT{K:Fg}{H:Hp}{α:List Addr}:∀l:List Nat,Reps K H α (l.map fun c=>V.str ⟨#[c]⟩) (l.map fun c=>D.str ⟨#[c]⟩)
 |[]=>.nil
 |_::l=>.cons (.str _) (ZgT l)
theorem Zm1:CO X ξ (fun xs H Q=>∃x,xs=[.str x]/\x.cps.size<=sizeLine/\∀l,H l=none->Q (.ref l) (upd H l (.lst (x.cps.toList.map fun c=>V.str ⟨#[c]⟩)))) bLisT:=by
 intro H α M vs ds Q h rs q;unfold bLisT at q
 split at q
 ·split at q
  ·rename_i hz;cases rs with|cons r t=>
   cases t;cases r;exact⟨_,rfl,aE hz (by decide),fun l hl=>q _ _ (α++[l]) (Ext.new hl) (h.new hl (ZgT _)) (.ref ⟨h.last l,Kn.lst Zp⟩)⟩
  ·exact q.elim
 ·exact q.elim
noncomputable def rIxT:V->List V->Hp->VK->Prop:=fun x vs H Q=>∃y z i rest,x=.str y/\vs=[.str z]/\ba y z 0 y.length 1=i::rest/\Q (.int (i:Nat)) H
theorem Zpm:MtM X "str.index" rIxT:=by
 intro pins s σ H x vs v us Q I rx rv h;obtain⟨y,z,i,rest,rfl,rfl,ho,q⟩:=h;obtain⟨t,rfl⟩:=rx;obtain⟨u,rfl,t',rfl⟩:=ZbV rv;exact SC.index ho ⟨.int _,H,I.tok _,⟨_,rfl⟩,q⟩
noncomputable def mIxT:Me:=fun x ds M=>match x,ds with
 |.str y,[.str z]=>(match ba y z 0 y.length 1 with|i::_=>.ok (.int (i:Nat)) M|[]=>.bad)
 |_,_=>.bad
theorem Zpn:MO X ξ rIxT mIxT:=by
 intro H α M v vs x ds Q h rx rs q;unfold mIxT at q
 split at q
 ·cases rx;cases rs with|cons ru rt=>cases rt;cases ru;split at q;exact⟨_,_,_,_,rfl,rfl,by assumption,q _ H α Ext.refl h (.int _)⟩;exact q.elim
 ·exact q.elim
def eCE(fg:Ev)(tab:List (Str×(W3)))(fs:Av):Ev:=fun ρ M=>(fg ρ M).bind fun d M1=>match d with
 |.fn c=>(match tab.lookup c with|some F=>(fs ρ M1).bind fun ds M2=>F ds M2|none=>.bad)
 |_=>.bad
theorem ZkJ(hall:VOk X tab)(gl:∀c v,PySem.W.nsIn X.K ai c=some (some v)->X.mg c=some v)(T:Thr X ξ)(hg:DE X ξ g fg)(ha:DA X ξ (e::es) fs)(hcall:autoParam (eval (.Call g (e::es) [] pos) X.env=(do callWith pos (<-eval g X.env) [] (bT pos (af (e::es) X.env)) [])) Qrf._auto_1)(he:autoParam (af (e::es) X.env=(false,eval e X.env)::af es X.env) Qrf._auto_1)(hpl:autoParam ((bT pos (af es X.env)).any (·.1)=false) Qrf._auto_1):DE X ξ (.Call g (e::es) [] pos) (eCE fg tab fs):=by
 obtain⟨tg,pg,qg⟩:=hg;obtain⟨t,pa,qa⟩:=ha;refine⟨fun σ H Q=>∃ρ α M,SR X.K H α σ ρ/\HR X.K H α M/\OP X.K H α ξ Q (eCE fg tab fs ρ M),fun pins s σ H Q I w=>?_,fun σ ρ H α M Q s h q=>⟨ρ,α,M,s,h,q⟩⟩;obtain⟨ρ,α,M,sr,hr,op⟩:=w;rw[hcall];refine Wb (thn (pg pins s σ H (fun v H1=>∃c f α1 M1 F,v=.ref f/\PySem.W.nsIn X.K ai c=some (some (.ref f))/\tab.lookup c=some F/\Ext X.K H H1 α α1/\HR X.K H1 α1 M1/\OP X.K H1 α1 ξ Q ((fs ρ M1).bind fun ds M2=>F ds M2)) I (qg σ ρ H α M _ sr hr (OG.seq op fun d M1 v H1 α1 e1 h1 r1 q1=>?_))) fun u s1 w1=>?_)
 ·cases r1 with
  |@fn f c hf=>
   cases et:tab.lookup c with
   |none=>simp only[et]at q1;exact q1.elim
   |some F=>simp only[et]at q1;exact⟨c,f,α1,M1,F,rfl,hf,et,e1,h1,q1⟩
  |_=>exact q1.elim
 ·obtain⟨v,H1,I1,r1,c,f,α1,M1,F,rfl,hf,et,e1,h1,op1⟩:=w1;cases r1;obtain⟨k,n,room,f',fd,ps,G,hm,hk,_,hb⟩:=hall c F et;rw[gl c _ hf]at hm;cases hm;refine PySem.W.callWith_K (h₀:=X.base) I1.ok.mod.kin hk (thn (pa pos pins s1 σ H1 (fun vs H2=>spD X.K F vs H2 Q ξ) I1 (qa σ ρ H1 α1 M1 _ (sr.mono e1) h1 (OG.seq op1 fun ds M2 vs H2 α2 e2 h2 r2 q2=>⟨ds,α2,M2,r2,h2,q2⟩))) fun us s2 w2=>?_) he hpl;obtain⟨vs,H2,I2,r2,q2⟩:=w2;exact⟨I2.kIn,Zic G room hb .nil T.ps I2 r2 (by rw[aY];exact q2)⟩
end DL
namespace SX
open PySem.NumText
theorem ZdC{x:Str}(h:x.cps.toList=y.cps.toList):x=y:=by
 cases x with
 |mk a=>cases y with|mk b=>congr 1;exact cV.mp h
theorem ZaN(x:Str):x.length=x.cps.toList.length:=by simp[fG]
theorem ZhB(x y:Str):(x++y).cps.toList=x.cps.toList++y.cps.toList:=PySem.W.KT.app_list x y
noncomputable def tx(i:Int):Str:=bc (toString i)
noncomputable def dg(m:Nat):List Nat:=(Nat.toDigits 10 m).map Char.toNat
theorem Zpo(m:Nat):AllDigits (dg m):=by
 intro c hc;obtain⟨ch,hch,e⟩:=a9.mp hc;rw[<-e];exact PyProof.Rows.digit_range (Nat.isDigit_of_mem_toDigits (by decide) (by decide) hch)
theorem ZrO(m:Nat):dg m≠[]:=by
 intro e;have h:=Nat.length_toDigits_pos (b:=10) (n:=m);rw[List.map_eq_nil_iff.mp e]at h;exact absurd h (by decide)
theorem Zrf(i:Int):(tx i).cps.toList=(if i<0 then[45]else[])++dg i.natAbs:=by
 unfold tx;cases i with
 |ofNat m=>
  rw[if_neg (by simp)]
  exact PySem.W.KIN.signs_num m
 |negSucc m=>
  rw[if_pos (Int.negSucc_lt_zero m)];rw[PyProof.Rows.signs_ofString];show(("-"++Nat.repr (m+1)).toList).map Char.toNat=_;rw[String.toList_append,cC,Nat.toList_repr];rfl
theorem ZlJ(hk:0<k)(h:m<10^k):(dg m).length<=k:=by
 unfold dg;rw[ae];exact(Nat.length_toDigits_le_iff (by decide) hk).mpr h
theorem Zc3(h:i.natAbs<10^60):(tx i).length<=61:=by
 rw[ZaN,Zrf,aa]
 have:=ZlJ (by decide) h
 split<;>simp<;>lia
end SX
namespace DQ
open PyProof.Rows
open Builtin Builtin.ObjectAttr
open PySem.W (Looks findIn mroIn specialIn takesIn clsIn looks_findIn looks_mroIn looks_find findObj handedIn hasDictIn lookIn)
section
variable {prog:cF}{E:Vp}{K:Fg}{e:Addr}{oe:Obj}{v:ah}
noncomputable def Zpp:ah->Bool
 |.ref _=>true
 |_=>false
def ZkK:List ah->Bool
 |[]=>false
 |v::r=>if Zpp v then ZkK r else(v::r)==[.type "ValueError",.type "Exception",.type "BaseException",.type "object"]
theorem ZkL{v:ah}(h:Zpp v=true):∃a,v=.ref a:=by
 cases v<;>first|exact⟨_,rfl⟩|cases h
theorem ZgU(self:ah):∀{l:List ah},ZkK l=true->refuseLoop self "__setattr__" l=pure ()/\l.contains (.type "object")=true/\l.isEmpty=false
 |[],h=>by cases h
 |v::r,h=>by
  unfold ZkK at h
  split at h
  ·rename_i q;obtain⟨a,rfl⟩:=ZkL q;obtain⟨h1,h2,_⟩:=ZgU self h;exact⟨by rw[refuseLoop_ref];exact h1,by rw[eJ,h2,Bool.or_true],rfl⟩
  ·have e:=eq_of_beq h;rw[e];exact⟨PySem.F.store_ValueError.passes self,by decide +kernel,rfl⟩
def ZcO(K:Fg)(C:Addr):Bool:=(ib K C).any fun cd=>ZkK cd.mro
theorem Zjd(X:K.In s.heap)(I:PySem.W.InstAt s.heap e oe C od)(hp:ZcO K C=true)(ht:PySem.W.takerIn K C name=some none)(h:∀b,wpAny (az prog w) A.in1 (storeInOwnDict (.ref e) (.ref C) (.str name tk) name v b) (fun fin s'=>match fin with|.done f=>R (.ok f) s'|.again c'=>c'.quiet=true/\gx (az prog w) A c' R s') (fun e s'=>R (.error e) s') s) :
  gx (az prog w) A (.call (.builtin "object.__setattr__") ⟨[.ref e,.str name tk,v],[]⟩) R s:=by
 have SF:=PySem.F.store_object;obtain⟨cd,hc,ho⟩:=PySem.W.any_some hp;obtain⟨r1,r2,r3⟩:=ZgU (.ref e) ho;have sub:jI (az prog w) s.heap (gH (.ref e) (.type "object")) true:=I.type.andThen (fE X (by unfold gf;rw[hc,iW,if_neg (by rw[r3];decide),r2]))
 refine gZ SF.slot.plain SF.entry (@PySem.W.check_slot (az prog w) _ _ s "object.__setattr__" "object" "__setattr__" (.ref e) [.str name tk,v] [] _ SF.kind SF.split sub (SF.args (.ref e) (.str name tk) v) ?_);obtain⟨attr,ha,hr⟩:=Option.bind_eq_some_iff.mp ht;have hm:jI (az prog w) s.heap (mroOf (.ref C)) cd.mro:=(PySem.W.looks_clsIn X hc).andThen .now;have L3:jI (az prog w) s.heap (eY.ObjectAttr.storeTaker? attr) none:=by
  cases attr with
  |none=>exact .now
  |some a=>
   obtain⟨b,hb,e⟩:=eI.mp hr;refine(PySem.W.looks_takesIn X hb).andThen ?_;cases b
   ·exact .now
   ·cases e
 rw[PySem.W.osa_eq,refuse_eq];refine Wb (Wb (I.type.here (Wb (hm.here ?_))));rw[r1];refine Wp (Wb (I.type.here (Wb ((ik X ha).here (Wb (L3.here ?_))))));exact h _
theorem Zpq(X:K.In s.heap)(I:PySem.W.InstAt s.heap e oe C od)(hs:cL K (.ref C) "__setattr__"=some (some (.builtin "object.__setattr__")))(hp:ZcO K C=true)(ht:PySem.W.takerIn K C name=some none)(h:∀b,wpAny (az prog w) A.in1 (storeInOwnDict (.ref e) (.ref C) (.str name s.toks) name v b) (fun fin s'=>match fin with|.done (.ret _)=>Q () s'|_=>False) E {s with toks:=s.toks+1}):wpAny (az prog w) A (setAttr (.ref e) name v) Q E s:=by
 refine PySem.W.set_plain X I hs (Zjd (s:={s with toks:=s.toks+1}) X I hp ht fun b=>wpAny_mono (h b) (fun fin s' z=>?_) fun _ _ z=>z);rcases fin with(_|_|_|_)|_<;>first|exact z|exact z.elim
theorem Zm2(X:K.In s.heap)(hx:s.heap.get? e=some oe)(hc:oe.cls=.ref C)(hd:oe.data=.fields vs)(hn:oe.dict=none)(hs:cL K (.ref C) "__setattr__"=some (some (.builtin "object.__setattr__")))(hp:ZcO K C=true)(ht:PySem.W.takerIn K C name=some none)(hh:iX K C=true)(h:∀h',h'.get? e=some {oe with dict:=some s.heap.objs.size}->h'.Ns1 s.heap.objs.size (fun y=>if y=name then some v else none)->(∀b o,b≠e->s.heap.get? b=some o->h'.get? b=some o)->Q () {s with heap:=h',toks:=s.toks+2}):wpAny (az prog w) A (setAttr (.ref e) name v) Q E s:=by
 have I:PySem.W.InstAt s.heap e oe C none:=⟨hx,hc,by unfold PySem.W.notCls;rw[hd],by rw[hn];trivial⟩
 refine Zpq X I hs hp ht fun b=>?_;obtain⟨cd,hcd,hd'⟩:=PySem.W.any_some hh;refine Wb (Wp (Wb (Wb (wpAny_loadPart hx ?_))));rw[hc];refine Wb (PySem.W.Looks.here (s:={s with toks:=s.toks+1}) (PySem.W.looks_clsIn X hcd) ?_);rw[hd',hn];dsimp only;rw[if_neg (by decide),if_neg (by simp[typeHasDict]),hd]
 dsimp only;obtain⟨hp0,g,d,t,os⟩:=s;dsimp only at hx h ⊢;have hx₁:(hp0.push {cls:=.type "dict",data:=.dict #[]}).get? e=some oe:=Hq _ hx;have hxs:e≠hp0.objs.size:=bj (Hz hx);refine Wb (wpAny_alloc' ?_);refine Wb (wpAny_update' hx₁ ?_);refine Wp ?_;have hgd:((hp0.push {cls:=.type "dict",data:=.dict #[]}).update e fun o=>{cls:=o.cls,dict:=some hp0.objs.size,data:=o.data,slots:=o.slots}).get? hp0.objs.size=some {cls:=.type "dict",data:=.dict #[]}:=
  (kq _ _ _ _ hxs.symm).trans (lw.get?_push_at rfl rfl)
 have hnd:((hp0.push {cls:=.type "dict",data:=.dict #[]}).update e fun o=>{cls:=o.cls,dict:=some hp0.objs.size,data:=o.data,slots:=o.slots}).Ns hp0.objs.size (fun _=>none):=
  ⟨_,#[],_,hgd,rfl,fun e he=>absurd he (by simp),fun _=>rfl⟩
 show wpAny _ _ (storeInDict hp0.objs.size (.str name t) name v) _ _ _;unfold storeInDict newKeyGuard;refine Wb (Wp (Wb (wpAny_nsSet1 (lw.Ns1.of_empty hnd) fun h' hn' hs=>?_)));obtain⟨oD,esD,epD,hoD,hdD,hcD⟩:=hn'.count (PySem.Within.cons name v PySem.Within.nil);refine Wb (wpAny_lookBehind hoD (by rw[hdD];exact pastItsLine_dict (aE hcD (by rw[ao,bS,fB];lia))) ?_)
 refine Wp (h h' ?_ hn' fun b ob hbx hb=>?_)
 ·refine(hs.2 e hxs).trans (cx _ hx₁ ?_);obtain⟨oc,odi,odt,osl⟩:=oe;dsimp only at hd;subst hd;rfl
 ·exact(hs.2 b (bj (Hz hb))).trans ((kq _ _ _ _ hbx).trans (Hq _ hb))
theorem Zm3(X:K.In s.heap)(I:PySem.W.InstAt s.heap e oe C od)(hd:oe.dict=some dx)(hns:s.heap.Ns1 dx mA)(hs:cL K (.ref C) "__setattr__"=some (some (.builtin "object.__setattr__")))(hp:ZcO K C=true)(ht:PySem.W.takerIn K C name=some none)(hh:iX K C=true)(hw:PySem.Within mA ns)(hsz:ns.length<=1000)(h:∀h',h'.Ns1 dx (fun y=>if y=name then some v else mA y)->eG dx s.heap h'->Q () {s with heap:=h',toks:=s.toks+2}):wpAny (az prog w) A (setAttr (.ref e) name v) Q E s:=by
 refine Zpq X I hs hp ht fun b=>?_;obtain⟨cd,hcd,hd'⟩:=PySem.W.any_some hh;refine Wb (Wp (Wb (Wb (wpAny_loadPart I.at_ ?_))));rw[I.cls];refine Wb (PySem.W.Looks.here (s:={s with toks:=s.toks+1}) (PySem.W.looks_clsIn X hcd) ?_);rw[hd',hd];refine Wp (a:=some dx) (Wb (Wp (Wb ?_)));refine wpAny_nsSet1 (s:={s with toks:=s.toks+1}) hns fun h' hn2 hs2=>?_;obtain⟨oD,esD,epD,hoD,hdD,hcD⟩:=hn2.count (PySem.Within.cons name v hw);refine Wb (wpAny_lookBehind hoD (by rw[hdD];exact pastItsLine_dict (aE hcD (by rw[ao,fB];lia))) ?_)
 exact Wp (h _ hn2 hs2)
theorem Zje{os:kP}(T:kR h [.type "ValueError",.type "Exception",.type "BaseException",.type "object"] bm)(hC:h.get? C=some (fF nm q C N bs bm hdct sn sub ab col dd k0 k1 k2 k3 k5 "ValueError.__new__"))(he:h.get? e=some oe)(hc:oe.cls=.ref C)(hd:oe.data=.fields vs)(h0:vs[0]?=some (.ref t0))(hq:∀h',(∀b o,b≠e->h.get? b=some o->h'.get? b=some o)->h'.get? e=some {oe with data:=.fields (vs.setIfInBounds 0 (.ref h.objs.size))}->Q .none ⟨h',g,d,t,os⟩):wpAny (az prog w) A (call (.builtin "ValueError.__init__") [.ref e,v]) Q E ⟨h,g,d,t,os⟩:=by
 refine iA (gZ F.excBase_ValueError.init.plain F.excBase_ValueError.initEntry (wpAny_check_init_subT F.excBase_ValueError T hC he hc ?_));have hz:0<vs.size:=(aV.mp h0).1;have he1:(h.push {cls:=bL "tuple",data:=Data.seq #[v]}).get? e=some oe:=Hq _ he
 wp_walk
 rw[hd];refine Wp ?_;rw[h0];refine Wp (Wb (cG he1 hd hz ?_))
 wp_walk
 refine hq _ (fun b o hb x=>?_) ?_
 ·rw[aI _ _ (bJ hb)];exact Hq _ x
 ·rw[cx _ he1 (cR (cT hd _))];obtain⟨oc,odi,odt,osl⟩:=oe;dsimp only at hd;subst hd;rfl
end
section
variable {os:kP}
variable {k5:Option ah}{initId:String}
theorem Zd5(F:kT B newId initId bmB)(T:kR h bmB bm)(hC:h.get? C=some (fF nm q C N bs bm hdct sn sub ab col dd k0 k1 k2 k3 k5 newId))(hn:h.Ns N mN)(hi:mN "__init__"=some (.ref fI))(hfI:h.get? fI=some oI)(hfc:oI.cls=.type "function")(hq:∀h' e,jO h h' e (.ref C) rest->wpAny (az prog w) A (call (.ref fI) (.ref e::rest)) (fun r s'=>r=.none/\Q (.done (.ret (.ref e))) s') E ⟨h',g,d,t,os⟩)(hrest:rest.length<=sizeLine):wpAny (az prog w) A (eY.«type.__call__» ⟨.ref C::rest,[]⟩) Q E ⟨h,g,d,t,os⟩:=by
 repeat (first|with_reducible refine fj hC ?_|with_reducible refine wpAny_madeBy_exc hC ?_|wp_step)
 refine codeAny_call_builtin_code (Code.quiet_builtin _ F.quiet) (wpAny_check_new_subT F T hC ?_);refine codeAny_exc_new_subT F T hC ?_ hrest;show wpAny _ _ _ _ _ _;have hC₁:=Hq {cls:=.ref C,data:=.fields #[.ref h.objs.size,.none,.none,.none,.bool false,.none]}
  (Hq {cls:=.type "tuple",data:=.seq rest.toArray} hC)
 have hfI₁:=Hq {cls:=.ref C,data:=.fields #[.ref h.objs.size,.none,.none,.none,.bool false,.none]}
  (Hq {cls:=.type "tuple",data:=.seq rest.toArray} hfI)
 have hn₁:((h.push {cls:=.type "tuple",data:=.seq rest.toArray}).push {cls:=.ref C,data:=.fields #[.ref h.objs.size,.none,.none,.none,.bool false,.none]}).Ns N mN:=
  let ⟨o,es,ep,e,r⟩:=hn;⟨o,es,ep,Hq _ (Hq _ e),r⟩
 have hget:((h.push {cls:=.type "tuple",data:=.seq rest.toArray}).push {cls:=.ref C,data:=.fields #[.ref h.objs.size,.none,.none,.none,.bool false,.none]}).get? (h.objs.size+1)=some
   {cls:=.ref C,data:=.fields #[.ref h.objs.size,.none,.none,.none,.bool false,.none]}:=by heap_get
 have hcC:(aA C::bm).contains (.ref C)=true:=by simp
 have T₁:=T.keeps (h':=(h.push {cls:=.type "tuple",data:=.seq rest.toArray}).push {cls:=.ref C,data:=.fields #[.ref h.objs.size,.none,.none,.none,.bool false,.none]})
  fun b o e=>Hq _ (Hq _ e)
 unfold gH
 repeat (first|with_reducible refine fj hget ?_|(with_reducible refine kr hC₁ ?_;rw[hcC])|wp_step)
 show wpAny _ _ (typeLookup (.ref C) _) _ _ _;refine wpAny_typeLookup_tail hC₁ hn₁ T₁ F.mroIs F.init.lookup ?_;rw[hi];refine wpAny_holding (Wb ?_);unfold bindSpecial;refine Wb (kK (T:="function") ⟨_,hfI₁,hfc⟩ ?_);rw[if_pos (by decide)]
 refine Wp (Wb (wpAny_mono (hq _ (h.objs.size+1) ⟨fun b o hb=>Hq _ (Hq _ hb),ft (lg _),h.objs.size,hget,ft (au _),?_⟩) (fun r s' hr=>?_) fun _ _ x=>x))
 ·exact Hq _ (lw.get?_push_at rfl rfl)
 ·obtain⟨rfl,hQ⟩:=hr
  wp_walk
  exact hQ
theorem Zjf(F:kT B newId initId bmB)(T:kR h bmB bm)(hC:h.get? C=some (fF nm q C N bs bm hdct sn sub ab col dd k0 k1 k2 k3 k5 newId))(hn:h.Ns N mN)(hi:mN "__init__"=some (.ref fI))(hfI:h.get? fI=some oI)(hfc:oI.cls=.type "function")(hq:∀h' e,jO h h' e (.ref C) rest->wpAny (az prog w) (A.under (.builtin "type.__call__" ⟨.ref C::rest,[]⟩)) (call (.ref fI) (.ref e::rest)) (fun r s'=>r=.none/\Q (.ref e) s') E ⟨h',g,d,t,os⟩)(hrest:rest.length<=sizeLine):wpAny (az prog w) A (call (.ref C) rest) Q E ⟨h,g,d,t,os⟩:=by
 have f1:=tc_lookup;have f2:=tc_bind (.ref C);have hT:(⟨h,g,d,t,os⟩:aC).TypeIs (.ref C) "type":=⟨_,hC,rfl⟩;refine iA (codeAny_of_tree ?_);show wpAny _ _ (callAny (.ref C) _) _ _ _
 repeat (any_goals (first|assumption|with_reducible refine fj hC ?_|wp_step))
 refine⟨rfl,?_⟩;refine codeAny_call_builtin_at (Code.quiet_builtin _ (by decide +kernel)) entry_typeCall (wpAny_check_type_call_sub hC (Zd5 (hrest:=hrest) F T hC hn hi hfI hfc fun h' e hm=>?_))
 exact hq h' e hm
end
theorem ZcP(hbase:bm.contains (.type "BaseException")=true)(hh:A.handled=none)(h:wpAny (az prog w) A x (fun v s₁=>∃e oe vs,v=.ref e/\s₁.heap.get? C=some (fF nm q C N bs bm hdct sn sub ab col dd k0 k1 k2 k3 k5 newId)/\s₁.heap.get? e=some oe/\oe.cls=.ref C/\oe.data=.fields vs/\vs[1]?=some .none/\E (.ref e) s₁) E s):wpAny (az prog w) A (raiseStmt env (some x) none) Q E s:=by
 have hcB:(aA C::bm).contains (.type "BaseException")=true:=by rw[eJ,hbase,Bool.or_true]
 unfold raiseStmt;refine Wb (wpAny_mono h (fun v s₁ h₁=>?_) fun _ _ x=>x);obtain⟨e,⟨oc,odi,odt,osl⟩,vs,rfl,hC,he,hc,hd,h1,hE⟩:=h₁;dsimp only at hc hd;subst hc hd;obtain⟨hp,g,d,tk,os⟩:=s₁
 repeat (first|with_reducible refine fj he ?_|with_reducible refine fj hC ?_|(with_reducible refine kr hC ?_;rw[hcB])|wp_step)
 rw[h1];refine Wp ?_;rw[if_neg (by decide)]
 exact Wp (wpAny_raiseNew_none hh hE)
theorem ZhC(F:kT B newId initId bmB)(hbase:bm.contains (.type "BaseException")=true)(hh:A.handled=none)(hplain:(bT cpos (af args env)).any (·.1)=false)(hi:mN "__init__"=some (.ref fI))(hfc:oI.cls=.type "function")(h:wpAny (az prog w) A (eval (.Name x np) env) (fun f s₁=>f=.ref C/\wpAny (az prog w) A (evalArgs (.ref C) true (bT cpos (af args env)) [])
   (fun a s₂=>a.kw=[]/\a.pos.length<=sizeLine/\s₂.heap.get? C=some (fF nm q C N bs bm hdct sn sub ab col dd k0 k1 k2 k3 k5 newId)/\s₂.heap.Ns N mN/\kR s₂.heap bmB bm/\s₂.heap.get? fI=some oI/\ ∀h' e,jO s₂.heap h' e (.ref C) a.pos->wpAny (az prog w) (A.under (.builtin "type.__call__" ⟨.ref C::a.pos,[]⟩)) (call (.ref fI) (.ref e::a.pos)) (fun r s'=>r=.none/\∃oe vs,s'.heap.get? C=some (fF nm q C N bs bm hdct sn sub ab col dd k0 k1 k2 k3 k5 newId)/\s'.heap.get? e=some oe/\oe.cls=.ref C/\oe.data=.fields vs/\vs[1]?=some .none/\E (.ref e) s') E {s₂ with heap:=h'}) E s₁) E s) :
  wpAny (az prog w) A (exec (.Raise (some (.Call (.Name x np) args [] cpos)) none pos) env) Q E s:=by
 rw[arm_exec_Raise]
 first
  |refine Wb (wpAny_standAt (ZcP (C:=C) (nm:=nm) (q:=q) (N:=N) (bs:=bs) (bm:=bm) (hdct:=hdct) (sn:=sn) (sub:=sub) (ab:=ab) (col:=col) (dd:=dd) (k0:=k0) (k1:=k1) (k2:=k2) (k3:=k3) (k5:=k5) (newId:=newId) hbase hh (Wb (wpAny_mono (iL (wpAny_mono h (fun f s₁ h₁=>?_) fun _ _ x=>x)) (fun v s₃ h₃=>Wb (wpAny_standAt (Wp h₃))) fun _ _ x=>x))))
  | (simp only[evalOpt,Option.map];refine Wb (wpAny_standAt (ZcP (C:=C) (nm:=nm) (q:=q) (N:=N) (bs:=bs) (bm:=bm) (hdct:=hdct) (sn:=sn) (sub:=sub) (ab:=ab) (col:=col) (dd:=dd) (k0:=k0) (k1:=k1) (k2:=k2) (k3:=k3) (k5:=k5) (newId:=newId) hbase hh (Wb (wpAny_mono (iL (wpAny_mono h (fun f s₁ h₁=>?_) fun _ _ x=>x)) (fun v s₃ h₃=>Wb (wpAny_standAt (Wp h₃))) fun _ _ x=>x)))))
  | (refine Wb (wpAny_standAt (ZcP (C:=C) (nm:=nm) (q:=q) (N:=N) (bs:=bs) (bm:=bm) (hdct:=hdct) (sn:=sn) (sub:=sub) (ab:=ab) (col:=col) (dd:=dd) (k0:=k0) (k1:=k1) (k2:=k2) (k3:=k3) (k5:=k5) (newId:=newId) hbase hh ?_));refine Wb (wpAny_mono (iL (wpAny_mono h (fun f s₁ h₁=>?_) fun _ _ x=>x)) (fun v s₃ h₃=>Wb (wpAny_standAt (Wp h₃))) fun _ _ x=>x))
 obtain⟨rfl,h₁⟩:=h₁;unfold callWith;refine Wb (wpAny_holding (wpAny_mono h₁ (fun a s₂ h₂=>Wb (wpAny_standAt ?_)) fun _ _ x=>x));obtain⟨apos,akw⟩:=a;obtain⟨hkw,hlen,hC,hn,T,hfI,h₂⟩:=h₂;obtain rfl:akw=[]:=hkw;obtain⟨hp,g,d,tk,os⟩:=s₂;simp only[hplain];refine Wb (wpAny_keeperOf_exc hC ?_);refine Wb (Zjf (hrest:=hlen) F T hC hn hi hfI hfc fun h' e hm=>wpAny_mono (h₂ h' e hm) (fun r s' z=>⟨z.1,Wb (wpAny_holding (wpAny_point (Wp ?_)))⟩) fun _ _ x=>x);obtain⟨-,oe,vs,z1,z2,z3,z4,z5,z6⟩:=z;exact⟨e,oe,vs,rfl,z1,z2,z3,z4,z5,z6⟩
end DQ
namespace DL
open PyProof.Rows L2
open PySem.W (nsIn excIn tailIn nsOkIn mroIn clsIn typeIn findIn specialIn takesIn hasDictIn readsIn findCls handedIn)
def ZgV(K:Fg)(C fI:Addr)(bmB:List ah)(newId:String):Bool:=match K.lookup C with
 |some ⟨.type "type",_,.cls cd,sl⟩=>(match cd.mro,sl.toList with
  |.ref C'::bm,[_,_,_,_,some (.builtin n),_]=>C'==C&&n==newId && !cd.hasDel&&tailIn K bmB bm&&nsOkIn K cd.ns&&nsIn K cd.ns "__init__"==some (some (.ref fI))
  |_,_=>false)
 |_=>false
theorem ZhD{K:Fg}(X:K.In h)(G:h.Ns N mg)(e:nsIn K N n=some (some v)):mg n=some v:=by
 obtain⟨o,es,ep,ho,hd,_,hf⟩:=G;unfold PySem.W.nsIn at e
 split at e
 ·rename_i c d es' n' sl q
  have:=X _ _ q
  rw[ho]at this;cases this;cases hd
  split at e
  ·rename_i en he;cases e;rw[<-hf];unfold nsFind findBy;rw[<-Array.find?_toList,he];rfl
  ·split at e<;>cases e
 ·cases e
theorem ZgW{K:Fg}(X:K.In h)(q:ZgV K C fI bmB newId=true):∃bm N nm q bs hdct sn sub ab col dd k0 k1 k2 k3 k5 mN,h.get? C=some (fF nm q C N bs bm hdct sn sub ab col dd k0 k1 k2 k3 k5 newId)/\h.Ns N mN/\mN "__init__"=some (.ref fI)/\kR h bmB bm:=by
 unfold ZgV at q
 split at q
 ·rename_i dd cd sl ho
  split at q
  ·rename_i C' bm k0 k1 k2 k3 n k5 hm hs;simp only[aR,beq_iff_eq,gz]at q;obtain⟨⟨⟨⟨⟨rfl,rfl⟩,hdel⟩,ht⟩,hok⟩,hni⟩:=q;obtain⟨nm,bs,mro,ns,qn,hd,sn,sub,ab,col,del⟩:=cd;dsimp only at hm hdel hok hni;subst hm hdel;obtain⟨l⟩:=sl;simp only at hs;subst hs;have G:h.Ns ns _:=.of_isNs (PySem.W.isNs_of_in X hok);exact⟨bm,ns,nm,qn,bs,hd,sn,sub,ab,col,dd,k0,k1,k2,k3,k5,_,X _ _ ho,G,ZhD X G hni,PySem.W.tail_of_in X ht⟩
  ·cases q
 ·cases q
def Zjg(K:Fg)(c:Str)(fI:Addr):Bool:=match ZbW K c with
 |some C=>ZgV K C fI bmV "ValueError.__new__"&&cL K (.ref C) "__getattribute__"==some (some (.builtin "BaseException.__getattribute__"))&&cL K (.ref C) "__getattr__"==some none&&cL K (.ref C) "__class__"==some (some (.builtin "object.__class__")) &&
  eW K (.builtin "object.__class__") "__get__"==some (some (.builtin "getset_descriptor.__get__"))&&ij K (.builtin "object.__class__")==some true&&gf K C (.type "BaseException")==some true&&gf K C (.type "object")==some true&&(ib K C).isSome &&
  cL K (.ref C) "__setattr__"==some (some (.builtin "object.__setattr__"))&&DQ.ZcO K C&&iX K C&&cL K (.ref C) "where"==some none&&cL K (.ref C) "at"==some none&&jK K (.ref fI)==some (.type "function")
 |none=>false
structure ExF(K:Fg) (C fI:Addr):Prop where
 inn:ZgV K C fI bmV "ValueError.__new__"=true
 exc:DQ.ExcC K C
 sa:cL K (.ref C) "__setattr__"=some (some (.builtin "object.__setattr__"))
 ov:DQ.ZcO K C=true
 hd:iX K C=true
 fw:cL K (.ref C) "where"=some none
 fa:cL K (.ref C) "at"=some none
 ty:jK K (.ref fI)=some (.type "function")
theorem ZgX{K:Fg}(h:Zjg K c fI=true):∃C,nsIn K ai c=some (some (.ref C))/\ExF K C fI:=by
 unfold Zjg at h
 split at h
 ·rename_i C e;simp only[aR,beq_iff_eq]at h;obtain⟨⟨⟨⟨⟨⟨⟨⟨⟨⟨⟨⟨⟨⟨h1,h2⟩,h3⟩,h4⟩,h5⟩,h6⟩,h7⟩,h8⟩,h9⟩,h10⟩,h11⟩,h12⟩,h13⟩,h14⟩,h15⟩:=h;exact⟨C,Zbb e,h1,⟨h2,h3,h4,h5,h6,h7,h8,h9⟩,h10,h11,h12,h13,h14,h15⟩
 ·cases h
theorem ZgY{K:Fg}(h:cL K (.ref C) f=some none):PySem.W.takerIn K C f=some none:=by unfold PySem.W.takerIn;rw[h];rfl
def Mkg(C e:Addr)(dct:Option Addr)(h:Heap):Prop:=∃oe vs t0,h.get? e=some oe/\oe.cls=.ref C/\oe.dict=dct/\oe.data=.fields vs/\vs[0]?=some (.ref t0)/\vs[1]?=some .none/\vs[2]?=some .none
theorem Zjh(m:Mkg C e dct h):Za5 P w H h e (.ext (Mkg C e dct)):=
 ⟨m,let ⟨oe,_,_,g,_⟩:=m;⟨oe,g⟩,fun _ _ ⟨oe,vs,t0,g,r⟩ k=>⟨oe,vs,t0,k _ g,r⟩⟩
theorem ZeN(I:Inv X pins σ H s)(ch:Addr->Prop)(c1:∀b,ch b->(∃φ,H b=some (.ext φ))\/(∃fs,H b=some (.xd fs))\/s.heap.get? b=none)(k:∀b o,¬ch b->s.heap.get? b=some o->h'.get? b=some o)(th:∀b,ch b->∃o,h'.get? b=some o)(hH:∀b,¬ch b->H' b=H b)(ok:∀b u,ch b->H' b=some u->Za5 X.prog X.w H' h' b u):Inv X pins σ H' {s with heap:=h',toks:=t}:=by
 have nn:∀b o,s.heap.get? b=some o->H b=none->¬ch b:=fun b o x n c=>by
  rcases c1 b c with⟨φ,z⟩|⟨fs,z⟩|z
  ·rw[n]at z;cases z
  ·rw[n]at z;cases z
  ·rw[x]at z;cases z
 have nt:∀b u,H b=some u->(∀φ,u≠ .ext φ)->(∀fs,u≠ .xd fs)->¬ch b:=fun b u q n1 n2 c=>by
  rcases c1 b c with⟨φ,z⟩|⟨fs,z⟩|z
  ·rw[q]at z;cases z;exact n1 _ rfl
  ·rw[q]at z;cases z;exact n2 _ rfl
  ·obtain⟨o,g⟩:=Zcp (I.hok b u q);rw[z]at g;cases g
 refine I.call' (s':={s with heap:=h',toks:=t}) (ch:=[]) rfl ⟨fun b o x n _ _=>k b o (nn b o x n) x,fun b o x n _ _=>⟨o.slots,k b o (nn b o x n) x⟩,fun b o x n _=>by rw[hH b (nn b o x n)];exact n,fun b o x _=>?_,fun b xs q=>?_,fun b o u q=>?_,fun b ps q=>⟨#[],?_⟩⟩ (fun b u q=>?_) I.bare (fun b z=>absurd z (by simp))
 ·by_cases c:ch b
  ·exact th b c
  ·exact⟨o,k b o c x⟩
 ·rw[hH b (nt b _ q (by simp) (by simp))];exact q
 ·rw[hH b (nt b _ q (by simp) (by simp))];exact q
 ·rw[hH b (nt b _ q (by simp) (by simp)),Array.append_empty];exact q
 ·by_cases c:ch b
  ·exact ok b u c q
  ·rw[hH b c]at q;refine(I.hok b u q).stay (fun a v ha r=>k a v ?_ r) (fun a r=>?_) fun a xs r=>?_
   ·rcases ha with rfl|ha
    ·exact c
    ·exact nt a _ ha (by simp) (by simp)
   ·rw[hH a (nt a _ r (by simp) (by simp))];exact r
   ·rw[hH a (nt a _ r (by simp) (by simp))];exact r
noncomputable def tFm(ta:TE):TE:=fun σ H Q=>ta σ H fun x H1=>(∃i,x=.int i/\i.natAbs.log2<1900/\Q (.str (bc (toString i))) H1)\/∃y,x=.str y/\y.length<=100000/\Q (.str y) H1
theorem Zpr(pa:PE X e ta):PE X (.FormattedValue e (-1) none pos) (tFm ta):=by
 intro pins s σ H Q I h;refine wpAny_FormattedValue_plain (wpAny_mono (pa pins s σ H _ I h) (fun v s1 hz=>?_) fun _ _ z=>z);obtain⟨x,H1,I1,r1,q1⟩:=hz;rcases q1 with⟨i,rfl,hi,q⟩|⟨y,rfl,hy,q⟩
 ·obtain⟨t,rfl⟩:=r1;exact wpAny_formatField_int (by lia) ⟨.str (bc (toString i)),H1,I1.tok _,⟨_,rfl⟩,q⟩
 ·obtain⟨t,rfl⟩:=r1;exact wpAny_formatField_str ⟨.str y,H1,I1,⟨_,rfl⟩,q⟩ ⟨.str y,H1,I1.tok _,⟨_,rfl⟩,q⟩ (aE hy (by rw[fB];decide))
noncomputable def tF4(a b:Str)(i j:Nat):TE:=fun σ H Q=>∃y n,σ[i]?=some (some (.str y))/\σ[j]?=some (some (.int n))/\a.length<=1000/\b.length<=1000/\y.length<=1000/\n.natAbs.log2<1900/\(bc (toString n)).length<=10000/\∀x,Q (.str x) H
theorem ZrP(h1:X.N[i]?=some n1)(h2:X.N[j]?=some n2)(v1:Vis X.env.scope n1)(v2:Vis X.env.scope n2)(d1:autoParam ((n1==("__debug__":Str))=false) Qde._auto_1)(d2:autoParam ((n2==("__debug__":Str))=false) Qde._auto_1)(c1:autoParam ((n1==("__classdict__":Str))=false) Qde._auto_1)(c2:autoParam ((n2==("__classdict__":Str))=false) Qde._auto_1) :
  PE X (.JoinedStr [.Constant (.str a) k1 p1,.FormattedValue (.Name n1 p2) (-1) none p3,.Constant (.str b) k2 p4,.FormattedValue (.Name n2 p5) (-1) none p6] pos) (tF4 a b i j):=by
 intro pins s σ H Q I hz;obtain⟨y,n,e1,e2,la,lb,ly,ln,lt,q⟩:=hz;have sz:∀{x:Str},x.length<=100000->x.length<=sizeLine:=fun h=>aE h (by rw[fB];decide)
 have l0:(Str.empty:Str).length=0:=by decide
 refine wpAny_JoinedStr ?_;show wpAny _ _ (eval (.Constant (.str a) k1 p1) X.env) _ _ s;refine wpAny_mono (ZhZ (X:=X) pins s σ H (fun x H1=>x=.str a/\H1=H) I ⟨rfl,rfl⟩) (fun v s1 hz=>?_) fun _ _ z=>z;obtain⟨x,H1,I1,r1,q1⟩:=hz;obtain⟨rfl,rfl⟩:=q1;obtain⟨t,rfl⟩:=r1;refine⟨a,t,rfl,sz (by rw[bW];lia),?_⟩
 show wpAny _ _ (eval (.FormattedValue (.Name n1 p2) (-1) none p3) X.env) _ _ s1;refine wpAny_mono (Zpr (Zch h1 v1 d1 c1) pins s1 σ H1 (fun x H2=>x=.str y/\H2=H1) I1 ⟨_,e1,.inr ⟨y,rfl,by lia,rfl,rfl⟩⟩) (fun v s2 hz=>?_) fun _ _ z=>z
 obtain⟨x,H2,I2,r2,q2⟩:=hz;obtain⟨rfl,rfl⟩:=q2;obtain⟨t2,rfl⟩:=r2;refine⟨y,t2,rfl,sz (by rw[bW,bW];lia),?_⟩
 show wpAny _ _ (eval (.Constant (.str b) k2 p4) X.env) _ _ s2;refine wpAny_mono (ZhZ (X:=X) pins s2 σ H2 (fun x H1=>x=.str b/\H1=H2) I2 ⟨rfl,rfl⟩) (fun v s3 hz=>?_) fun _ _ z=>z;obtain⟨x,H3,I3,r3,q3⟩:=hz;obtain⟨rfl,rfl⟩:=q3;obtain⟨t3,rfl⟩:=r3;refine⟨b,t3,rfl,sz (by rw[bW,bW,bW];lia),?_⟩
 show wpAny _ _ (eval (.FormattedValue (.Name n2 p5) (-1) none p6) X.env) _ _ s3;refine wpAny_mono (Zpr (Zch h2 v2 d2 c2) pins s3 σ H3 (fun x H2=>x=.str (bc (toString n))/\H2=H3) I3 ⟨_,e2,.inl ⟨n,rfl,ln,rfl,rfl⟩⟩) (fun v s4 hz=>?_) fun _ _ z=>z;obtain⟨x,H4,I4,r4,q4⟩:=hz;obtain⟨rfl,rfl⟩:=q4;obtain⟨t4,rfl⟩:=r4;refine⟨_,t4,rfl,sz (by rw[bW,bW,bW,bW];lia),?_⟩
 exact⟨sz (by rw[bW,bW,bW,bW];lia),.str _,H4,I4.tok _,⟨_,rfl⟩,q _⟩
def ZgZ(K:Fg)(r:Str):Bool:=match ZbW K r with
 |some R=>eW K (.ref R) "__getattribute__"==some (some (.builtin "type.__getattribute__"))&&readsIn K R (.type "type")&&(match findCls K (.ref R) (.type "type") "__init__" with|some (.val v)=>v == .builtin "ValueError.__init__"|_=>false)
 |none=>false
theorem ZkM(hb:ZgZ X.K r=true)(gl:∀c v,nsIn X.K ai c=some (some v)->X.mg c=some v)(hg:Gl X r)(hc:ExF X.K C fI)(hn:X.N[0]?=some sn)(hv:Vis X.env.scope sn)(pf:PE X fe tf)(d1:autoParam ((sn==("__debug__":Str))=false) Qde._auto_1)(c1:autoParam ((sn==("__classdict__":Str))=false) Qde._auto_1)(hdb:autoParam ((r==("__debug__":Str))=false) Qde._auto_1)(hs:autoParam (af [.Name sn p3,fe] X.env=(false,eval (.Name sn p3) X.env)::af [fe] X.env) Qrf._auto_1)(hs2:autoParam (af [fe] X.env=(false,eval fe X.env)::af [] X.env) Qrf._auto_1)(hpl:autoParam ((bT p4 (af [fe] X.env)).any (·.1)=false) Qrf._auto_1)(ht:eval (.Call (.Attribute (.Name r p1) "__init__" p2) [.Name sn p3,fe] [] p4) X.env=(do
   let ov <-eval (.Name r p1) X.env
   standAt p2.atName
   let (f,first) <-holding [ov] (getMethod ov "__init__" pl)
   callWith p4 f first (bT p4 (af [.Name sn p3,fe] X.env)) (iV p4 (ge [] X.env))):=by rfl) :
  PE X (.Call (.Attribute (.Name r p1) "__init__" p2) [.Name sn p3,fe] [] p4) (fun σ H Q=>∃e,σ[0]?=some (some (.ref e))/\H e=some (.ext (Mkg C e none))/\tf σ H fun x H1=>∃y,[V.ref e,x]=[V.ref e,y]/\H1=H/\Q .non H):=by
 unfold ZgZ at hb
 split at hb
 case h_2=>cases hb
 rename_i R hR;simp only[aR,beq_iff_eq]at hb;obtain⟨⟨b1,b2⟩,b3⟩:=hb
 split at b3
 case h_2=>cases b3
 rename_i v0 b4;have b5:=eq_of_beq b3;subst b5;intro pins s σ H Q I hz;obtain⟨e,e0,he,q⟩:=hz;refine PySem.W.methodCall_KW (pl:=pl) (Zdi I hg (gl r _ (Zbb hR)) ?_ hdb) ht;refine PySem.W.method_cls I.kIn b1 (PySem.W.cls_value I.kIn b2 b4 rfl ?_);have I1:=I.tok (s.toks+1);have hA:=Zb3 (Zch hn hv d1 c1) (Zb3 pf Zgx hs2) hs p4 pins {s with toks:=s.toks+1} σ H (fun vs H1=>∃x,vs=[V.ref e,x]/\H1=H/\Q .non H) I1 ⟨_,e0,q⟩;rw[hs]at hA ⊢;refine Calls.callWith_builtin (by show(false||(bT p4 (af [fe] X.env)).any (·.1))=false;rw[hpl]<;>rfl) (Calls.evalArgs_plain (thn hA fun us s2 hz=>?_))
 obtain⟨vs,H2,I2,r2,x,ev,eh,q2⟩:=hz;subst ev eh;obtain⟨u1,u2,rfl,r3,r4⟩:=Zh8 r2;cases(show u1=aA e from r3);obtain⟨tl,N,nm,qn,bs,hdct,sn',sub,ab,col,dd,k0,k1,k2,k3,k5,mN,gC,hN,hni,TL⟩:=ZgW I2.kIn hc.inn;obtain⟨⟨oe,vs,t0,g1,g2,g3,g4,g5,g6,g7⟩,_,_⟩:=I2.hok e _ he;obtain⟨hp,gg,dd',tk,os⟩:=s2;refine DQ.Zje TL gC g1 g2 g4 g5 fun h' k1 k2=>⟨.non,H2,?_,rfl,q2⟩;have hz:0<vs.size:=(aV.mp g5).1;refine ZeN (s:=⟨hp,gg,dd',tk,os⟩) (t:=tk) I2 (fun b=>b=e) (fun b z=>.inl ⟨_,z▸he⟩) (fun b o z x=>k1 b o z x) (fun b z=>⟨_,z▸k2⟩) (fun b z=>rfl) fun b u z q'=>?_;subst z;rw[he]at q';cases q';refine Zjh ⟨_,_,hp.objs.size,k2,g2,g3,rfl,?_,?_,?_⟩
 ·rw[bZ hz]
 ·rw[dZ (by decide)];exact g6
 ·rw[dZ (by decide)];exact g7
theorem ZrQ{f:Str}{v:V}:[(f,v)].lookup g=if g=f then some v else none:=by
 rw[bG];by_cases c:g=f
 ·subst c;simp
 ·rw[if_neg c,show(g==f)=false by simpa using c];rfl
theorem Zm4{i:Nat}(hc:ExF X.K C fI)(hf:cL X.K (.ref C) f=some none)(hn:X.N[0]?=some sn)(hv:Vis X.env.scope sn)(hn2:X.N[i]?=some vn)(hv2:Vis X.env.scope vn)(d1:autoParam ((sn==("__debug__":Str))=false) Qde._auto_1)(c1:autoParam ((sn==("__classdict__":Str))=false) Qde._auto_1)(d2:autoParam ((vn==("__debug__":Str))=false) Qde._auto_1)(c2:autoParam ((vn==("__classdict__":Str))=false) Qde._auto_1)(hs:autoParam (gL (.Name vn p3) (some (.Attribute (.Name sn p1) f p2)) pos.line X.env=pure false) Qrf._auto_1) :
  PS X (.Assign [.Attribute (.Name sn p1) f p2] (.Name vn p3) pos) (fun Dn σ H=>∃e v,σ[0]?=some (some (.ref e))/\σ[i]?=some (some v)/\H e=some (.ext (Mkg C e none))/\∀dx,H dx=none->dx≠e->Dn.nx σ (upd (upd H e (.ext (Mkg C e (some dx)))) dx (.xd [(f,v)]))):=by
 intro pins s σ H Dn I hz;obtain⟨e,v,e0,e1,he,q⟩:=hz;refine gD (thn (Zch hn2 hv2 d2 c2 pins s σ H (fun y H1=>y=v/\H1=H) I ⟨v,e1,rfl,rfl⟩) fun u s1 ⟨y,H1,I1,ry,ey,eh⟩=>thn (Zch hn hv d1 c1 pins s1 σ H1 (fun y H2=>y=.ref e/\H2=H) I1 ⟨.ref e,e0,rfl,eh⟩) fun ov s2 hz=>?_) hs;obtain⟨x,H2,I2,rx,ex,eh2⟩:=hz;subst ey ex eh2;obtain rfl:ov=aA e:=rx;obtain⟨⟨oe,vs,t0,g1,g2,g3,g4,g5,g6,g7⟩,_,_⟩:=I2.hok e _ he;have nd:s2.heap.objs.size≠e:=cX (Hz g1);refine DQ.Zm2 I2.kIn g1 g2 g4 g3 hc.sa hc.ov (ZgY hf) hc.hd fun h' k1 k2 k3=>⟨σ,_,?_,q s2.heap.objs.size (I2.hok.fresh (au _)) nd⟩;refine ZeN I2 (fun b=>b=e\/b=s2.heap.objs.size) (fun b z=>?_) (fun b o z x=>k3 b o (fun w=>z (.inl w)) x) (fun b z=>?_) (fun b z=>?_) fun b u z q'=>?_
 ·rcases z with z|z
  ·exact .inl ⟨_,z▸he⟩
  ·exact .inr (.inr (z▸ft (au _)))
 ·rcases z with z|z
  ·exact⟨_,z▸k1⟩
  ·obtain⟨od,_,_,g,_⟩:=k2;exact⟨od,z▸g⟩
 ·rw[Zs (fun w=>z (.inr w)),Zs (fun w=>z (.inl w))]
 ·rcases z with z|z
  ·subst z;rw[Zs (bJ nd),Zp]at q';cases q';exact Zjh ⟨_,vs,t0,k1,g2,rfl,g4,g5,g6,g7⟩
  ·subst z;rw[Zp]at q';cases q';refine⟨_,k2,fun g=>?_⟩;rw[ZrQ];by_cases c:g=f
   ·rw[if_pos c,if_pos c];exact ry
   ·rw[if_neg c,if_neg c];trivial
theorem ZfI{g:Str}:∀{fs:List (Str×V)},g∉fs.map (·.1)->fs.lookup g=none
 |[],_=>rfl
 | (a,v)::r,h=>by
  rw[aL,aK,not_or]at h;rw[bG,show(g==a)=false by simpa using h.1]
  exact ZfI h.2
theorem Zm5{i:Nat}(hc:ExF X.K C fI)(hf:cL X.K (.ref C) f=some none)(hn:X.N[0]?=some sn)(hv:Vis X.env.scope sn)(hn2:X.N[i]?=some vn)(hv2:Vis X.env.scope vn)(d1:autoParam ((sn==("__debug__":Str))=false) Qde._auto_1)(c1:autoParam ((sn==("__classdict__":Str))=false) Qde._auto_1)(d2:autoParam ((vn==("__debug__":Str))=false) Qde._auto_1)(c2:autoParam ((vn==("__classdict__":Str))=false) Qde._auto_1)(hs:autoParam (gL (.Name vn p3) (some (.Attribute (.Name sn p1) f p2)) pos.line X.env=pure false) Qrf._auto_1) :
  PS X (.Assign [.Attribute (.Name sn p1) f p2] (.Name vn p3) pos) (fun Dn σ H=>∃e v dx fs,σ[0]?=some (some (.ref e))/\σ[i]?=some (some v)/\H e=some (.ext (Mkg C e (some dx)))/\H dx=some (.xd fs)/\fs.length<=100/\Dn.nx σ (upd H dx (.xd (Zlp f v fs)))):=by
 intro pins s σ H Dn I hz;obtain⟨e,v,dx,fs,e0,e1,he,hdx,hl,q⟩:=hz;refine gD (thn (Zch hn2 hv2 d2 c2 pins s σ H (fun y H1=>y=v/\H1=H) I ⟨v,e1,rfl,rfl⟩) fun u s1 ⟨y,H1,I1,ry,ey,eh⟩=>thn (Zch hn hv d1 c1 pins s1 σ H1 (fun y H2=>y=.ref e/\H2=H) I1 ⟨.ref e,e0,rfl,eh⟩) fun ov s2 hz=>?_) hs;obtain⟨x,H2,I2,rx,ex,eh2⟩:=hz;subst ey ex eh2;obtain rfl:ov=aA e:=rx;obtain⟨⟨oe,vs,t0,g1,g2,g3,g4,g5,g6,g7⟩,_,_⟩:=I2.hok e _ he;obtain⟨mA,hns,hr⟩:=I2.hok dx _ hdx;obtain⟨od,es,ep,god,_⟩:=id hns;have ne:e≠dx:=fun z=>by rw[z,hdx]at he;cases he
 have inst:PySem.W.InstAt s2.heap e oe C (some od):=⟨g1,g2,by unfold PySem.W.notCls;rw[g4],by rw[g3];exact god⟩
 refine DQ.Zm3 (ns:=fs.map (·.1)) I2.kIn inst g3 hns hc.sa hc.ov (ZgY hf) hc.hd (fun g hg=>?_) (by rw[ae];lia) fun h' k1 k2=>⟨σ,_,?_,q⟩
 ·apply cQ;intro z
  have:=hr g
  rw[ZfI z]at this;exact hg (Zn2.none_of this)
 ·refine ZeN I2 (fun b=>b=dx) (fun b z=>.inr (.inl ⟨_,z▸hdx⟩)) (fun b o z x=>(k2.2 b z).trans x) (fun b z=>?_) (fun b z=>Zs z) fun b u z q'=>?_
  ·obtain⟨o',_,_,g,_⟩:=k1;exact⟨o',z▸g⟩
  ·subst z;rw[Zp]at q';cases q';refine⟨_,k1,fun g=>?_⟩;rw[Zdl];by_cases c:g=f
   ·rw[if_pos c,if_pos c];exact ry
   ·rw[if_neg c,if_neg c];exact hr g
noncomputable def N3:List Str:=["self","where","at"]
def spI(C:Addr):Sp:=fun vs H Q _=>∃e y n,vs=[.ref e,.str y,.int n]/\H e=some (.ext (Mkg C e none))/\y.length<=1000/\n.natAbs.log2<1000/\
 ∀dx,H dx=none->dx≠e->Q .non (upd (upd (upd H e (.ext (Mkg C e (some dx)))) dx (.xd [(PySem.Str.ofString "where",.str y)])) dx (.xd [(PySem.Str.ofString "where",.str y),(PySem.Str.ofString "at",.int n)]))
def Zuk(C:Addr)(a b:Str):TS:=Zrq (Zoa (fun σ H Q=>∃e,σ[0]?=some (some (.ref e))/\H e=some (.ext (Mkg C e none))/\tF4 a b 1 2 σ H fun x H1=>∃y,[V.ref e,x]=[V.ref e,y]/\H1=H/\Q .non H))
 (Zrq (fun Dn σ H=>∃e v,σ[0]?=some (some (.ref e))/\σ[1]?=some (some v)/\H e=some (.ext (Mkg C e none))/\∀dx,H dx=none->dx≠e->Dn.nx σ (upd (upd H e (.ext (Mkg C e (some dx)))) dx (.xd [(PySem.Str.ofString "where",v)]))) (fun Dn σ H=>∃e v dx fs,σ[0]?=some (some (.ref e))/\σ[2]?=some (some v)/\H e=some (.ext (Mkg C e (some dx)))/\H dx=some (.xd fs)/\fs.length<=100/\Dn.nx σ (upd H dx (.xd (Zlp (PySem.Str.ofString "at") v fs)))))
section
variable {K:Fg}
theorem Zm6{n:Int}(h:n.natAbs.log2<1000):(bc (toString n)).length<=10000:=by
 rw[PySem.ofString_length];exact aE (int_text_length_le (by decide) h) (by decide)
theorem Zm7{st:Stmt}(F:Fun K x qual st f fd)(S:FnScope N3 N3 (Zz st))(la:a.length<=1000)(lb:b.length<=1000)(hb:∀(cdv:ah)(A:dc)(outer:List Env)(s:aC)(H:Hp)(E:XK),PSs (Zhq (CXE P w) P w K mg base N3 qual (Zz st) f cdv A outer s H E) (Zad st) (Zuk C a b)):FnOk P w K mg base (CXE P w) (k+1) f fd N3 (spI C):=by
 obtain⟨oc,od,kV,doc,pm,an,cdv,ct,osl,rfl,lk,hcd⟩:=F.ex;refine Zml lk hcd S (fun vs H Q E h=>?_) (fun A outer s H vs Q E hr h=>?_)
 ·obtain⟨e,y,n,rfl,_⟩:=h;rfl
 ·obtain⟨e,y,n,rfl,he,hy,hn,q⟩:=h;refine⟨_,hb cdv A outer s H E,?_⟩;refine⟨e,rfl,he,y,n,rfl,rfl,la,lb,hy,by lia,Zm6 hn,fun x=>⟨_,rfl,rfl,?_⟩⟩
  refine⟨e,.str y,rfl,rfl,he,fun dx h1 h2=>?_⟩;refine⟨e,.int n,dx,[(PySem.Str.ofString "where",.str y)],rfl,rfl,by rw[Zs (bJ h2),Zp],Zp,by simp,?_⟩
  have:=q dx h1 h2
  rw[show Zlp (PySem.Str.ofString "at") (V.int n) [(PySem.Str.ofString "where",V.str y)]=[(PySem.Str.ofString "where",V.str y),(PySem.Str.ofString "at",V.int n)]by
   unfold Zlp;rw[if_neg (by decide +kernel)]
   rfl]
  exact this
end
def Zbf(c:Str)(fs:Av):Sv:=fun ρ M=>Zaf (fs ρ M) fun ds M1=>match ds with
 |[.str y,.int n]=>if y.length<=1000/\n.natAbs.log2<1000 then .exc c (M1++[.lst [.str y,.int n]])else .bad
 |_=>.bad
theorem Zji(T:Thr X ξ)(hx:Zjg X.K x f=true)(hf:Ziu x=true)(gl:∀c v,nsIn X.K ai c=some (some v)->X.mg c=some v)(hh:X.A.handled=none)(G:∀C,ExF X.K C f->FnOk X.prog X.w X.K X.mg X.base (CXE X.prog X.w) k f fd N3 (spI C))(hr:Room (k+1) X.A)(hb:Zeo X.K fd N3 [])(lk:X.K.lookup f=some oI)(lc:oI.cls=.type "function")(ha:DA X ξ [a,b] fs)(hg:autoParam (Gl X x) Qrf._auto_1)(hdb:autoParam ((x==("__debug__":Str))=false) Qde._auto_1)(he:autoParam (af [a,b] X.env=(false,eval a X.env)::af [b] X.env) Qrf._auto_1)(hpl:autoParam ((bT cpos (af [b] X.env)).any (·.1)=false) Qrf._auto_1):DS X ξ (.Raise (some (.Call (.Name x np) [a,b] [] cpos)) none pos) (Zbf x fs):=by
 obtain⟨ta,pa,qa⟩:=ha;obtain⟨C,hC,hE⟩:=ZgX hx;refine⟨fun Dn σ H=>ta σ H fun vs H1=>∃y n,vs=[.str y,.int n]/\y.length<=1000/\n.natAbs.log2<1000/\∀dx,H1 dx=none->ξ (.ref C) (some dx) (upd H1 dx (.xd [(PySem.Str.ofString "where",.str y),(PySem.Str.ofString "at",.int n)])),fun pins s σ H Dn I h=>?_,fun σ ρ H α M Dn s h q=>?_⟩
 ·obtain⟨tl,N,nm,q,bs,hdct,sn,sub,ab,col,dd,k0,k1,k2,k3,k5,mN,gC,hN,hni,TL⟩:=ZgW I.ok.mod.kin hE.inn;refine DQ.ZhC (C:=C) (nm:=nm) (q:=q) (N:=N) (bs:=bs) (bm:=tl) (hdct:=hdct) (sn:=sn) (sub:=sub) (ab:=ab) (col:=col) (dd:=dd) (k0:=k0) (k1:=k1) (k2:=k2) (k3:=k3) (k5:=k5) (mN:=mN) (oI:=oI) F.excBase_ValueError
   (TL.hasType F.excBase_ValueError.hasBase) hh (by rw[he];show(false||(bT cpos (af [b] X.env)).any (·.1))=false;rw[hpl];rfl) hni lc (Zdi I hg (gl x _ hC) ⟨rfl,?_⟩ hdb)
  have hs:=pa cpos pins s σ H _ I h;rw[he]at hs ⊢;refine Calls.evalArgs_plain (wpAny_mono hs (fun us s2 ⟨vs,H1,I1,r1,y,n,ev,hy,hn,q⟩=>⟨rfl,?_,I1.bk _ _ gC,hN.keeps I1.bk,TL.keeps I1.bk,I1.kIn _ _ lk,fun h' e m=>?_⟩) fun _ _ y=>y)
  ·rw[<-r1.length,ev];exact aE (show 2<=1000 by decide) (by rw[fB];decide)
  ·subst ev;obtain⟨t0,g1,g2,g3⟩:=m.there;have ne:∀b o,s2.heap.get? b=some o->b≠e:=fun b o x z=>by rw[z,m.new]at x;cases x
   have h1e:H1 e=none:=ZlC I1.hok m.new;have I2:Inv X pins σ (upd H1 e (.ext (Mkg C e none))) {s2 with heap:=h'}:=by
    refine ZeN (t:=s2.toks) I1 (fun b=>b=e) (fun b z=>.inr (.inr (z▸m.new))) (fun b o z x=>m.keeps b o x) (fun b z=>⟨_,z▸g1⟩) (fun b z=>Zs z) fun b u z q'=>?_;subst z;rw[Zp]at q';cases q';exact Zjh ⟨_,_,t0,g1,rfl,rfl,rfl,rfl,rfl,rfl⟩
   have r2:ZR (V.ref e::[.str y,.int n]) (aA e::us):=.cons rfl r1;have hl:(aA e::us++[]).length=N3.length:=by rw[aY,<-r2.length];rfl
   have hsp:spI C [V.ref e,.str y,.int n] (upd H1 e (.ext (Mkg C e none))) (fun v H'=>v=.non/\∃dx,H1 dx=none/\dx≠e/\H'=upd (upd (upd (upd H1 e (.ext (Mkg C e none))) e (.ext (Mkg C e (some dx)))) dx (.xd [(PySem.Str.ofString "where",.str y)])) dx (.xd [(PySem.Str.ofString "where",.str y),(PySem.Str.ofString "at",.int n)])) ξ:=
    ⟨e,y,n,rfl,Zp,hy,hn,fun dx h1 h2=>⟨rfl,dx,by rw[Zs h2]at h1;exact h1,h2,rfl⟩⟩
   have bd:=hb {s2 with heap:=h'} (aA e::us) I2.kIn hl;rw[aY]at bd;refine iA (jd ((G C hE).run _ X.stack {s2 with heap:=h'} _ ⟨aA e::us,[]⟩ (aA e::us) _ _ ξ (hr.make C us []) (I2.env0.make C us []) bd r2 hsp) fun r s' hq=>?_);cases r with
   |error e'=>exact T.ps pins σ _ _ e' s' I2 hq
   |ok fl=>
    cases fl with
    |next=>exact cm hq
    |brk=>exact cm hq
    |cont=>exact cm hq
    |ret u=>
     obtain⟨v,H',I3,rv,ev,_⟩:=I2.after hq;obtain⟨v',H',os,bare,un,hok,rv',ev',dx,hdx,dne,eH⟩:=hq;subst ev';refine⟨rv',?_⟩;have hHe:H' e=some (.ext (Mkg C e (some dx))):=by rw[eH,Zs (bJ dne),Zs (bJ dne),Zp]
     have hHd:H' dx=some (.xd [(PySem.Str.ofString "where",.str y),(PySem.Str.ofString "at",.int n)]):=by rw[eH,Zp]
     have hHo:∀b,b≠e->b≠dx->H' b=H1 b:=fun b z1 z2=>by rw[eH,Zs z2,Zs z2,Zs z1,Zs z1]
     have dxn:s2.heap.get? dx=none:=by
      cases z:s2.heap.get? dx with
      |none=>rfl
      |some o=>
       have:=un.free dx o (m.keeps _ _ z) (by rw[Zs dne];exact hdx) (by simp)
       rw[hHd]at this;cases this
     have h2n:∀b o,s2.heap.get? b=some o->H1 b=none->upd H1 e (.ext (Mkg C e none)) b=none:=fun b o x z=>by rw[Zs (ne b o x)];exact z
     have nd:∀b o,s2.heap.get? b=some o->b≠dx:=fun b o x z=>by rw[z,dxn]at x;cases x
     obtain⟨⟨oe,vs,t1,j1,j2,j3,j4,j5,j6,j7⟩,_,_⟩:=hok e _ hHe;refine⟨oe,vs,I3.bk _ _ gC,j1,j2,j4,j6,?_⟩;refine T.mak pins σ H1 (upd H1 dx (.xd [(PySem.Str.ofString "where",.str y),(PySem.Str.ofString "at",.int n)])) s2 s' e oe vs C I1 os bare ⟨fun b o x z hb _=>un.keep b o (m.keeps b o x) (h2n b o x z) hb (by simp),fun b o x z hb _=>un.slot b o (m.keeps b o x) (h2n b o x z) hb (by simp),fun b o x z _=>by rw[Zs (nd b o x)];exact z,fun b o x _=>un.there b o (m.keeps b o x) (by simp),fun b xs z=>?_,fun b o u z=>?_,fun b ps z=>⟨#[],?_⟩⟩ (fun b u z=>?_) m.new j1 j2 j4 j6 j7 (by rw[Zs (bJ dne)];exact h1e) (by rw[j3];exact q dx hdx)
     ·rw[Zs (ZN z hdx)];exact z
     ·rw[Zs (ZN z hdx)];exact z
     ·rw[Zs (ZN z hdx),Array.append_empty];exact z
     ·by_cases c:b=dx
      ·subst c;rw[Zp]at z;cases z
       have:=hok b _ hHd
       exact this
      ·rw[Zs c]at z;have be:b≠e:=fun w=>by rw[w,h1e]at z;cases z
       have zb:H' b=some u:=by rw[hHo b be c];exact z
       have tr:∀a v,H' a=some v->(∀φ,v≠ .ext φ)->(∀fs,v≠ .xd fs)->upd H1 dx (.xd [(PySem.Str.ofString "where",.str y),(PySem.Str.ofString "at",.int n)]) a=some v:=fun a v r n1 n2=>by
        have a1:a≠e:=fun w=>by rw[w,hHe]at r;cases r;exact n1 _ rfl
        have a2:a≠dx:=fun w=>by rw[w,hHd]at r;cases r;exact n2 _ rfl
        rw[Zs a2,<-hHo a a1 a2];exact r
       exact(hok b u zb).stay (fun _ _ _ r=>r) (fun a r=>tr a _ r (by simp) (by simp)) fun a xs r=>tr a _ r (by simp) (by simp)
 ·refine qa σ ρ H α M _ s h (FP.seq q fun ds M1 vs H1 α1 e1 h1 r1 w1=>?_)
  split at w1
  ·rename_i y n;cases r1 with
   |cons ra rt=>
    cases rt with
    |cons rb rc=>
     cases rc;cases ra;cases rb;by_cases hl:y.length<=1000/\n.natAbs.log2<1000
     ·rw[if_pos hl]at w1;exact⟨y,n,rfl,hl.1,hl.2,fun dx hdx=>w1 C _ α1 hC (Ext.new0 hdx) (some dx) (.inr ⟨hf,M1,_,dx,_,rfl,h1.tup hdx,rfl,Zp,rfl,.cons (.str y) (.cons (.int n) .nil)⟩)⟩
     ·rw[if_neg hl]at w1;exact w1.elim
  ·exact w1.elim
structure IniOk(K:Fg) (x qual:Str) (st:Stmt) (f:Addr) (fd:gq):Prop where
 ex:Zjg K x f=true
 fn:Fun K "__init__" qual st f fd
 bs:ZgZ K "RayError"=true
 bi:Zeo K fd N3 []
theorem Zcx{st:Stmt}(J:∃f fd,IniOk X.K x qual st f fd)(G:∀f fd C,IniOk X.K x qual st f fd->ExF X.K C f->FnOk X.prog X.w X.K X.mg X.base (CXE X.prog X.w) k f fd N3 (spI C))(T:Thr X ξ)(hf:Ziu x=true)(gl:∀c v,nsIn X.K ai c=some (some v)->X.mg c=some v)(hh:X.A.handled=none)(hr:Room (k+1) X.A)(ha:DA X ξ [a,b] fs)(hg:autoParam (Gl X x) Qrf._auto_1)(hdb:autoParam ((x==("__debug__":Str))=false) Qde._auto_1)(he:autoParam (af [a,b] X.env=(false,eval a X.env)::af [b] X.env) Qrf._auto_1)(hpl:autoParam ((bT cpos (af [b] X.env)).any (·.1)=false) Qrf._auto_1):DS X ξ (.Raise (some (.Call (.Name x np) [a,b] [] cpos)) none pos) (Zbf x fs):=by
 obtain⟨f,fd,J⟩:=J;obtain⟨oc,od,kV,doc,pm,an,cdv,ct,osl,_,lk,hcd⟩:=J.fn.ex;obtain⟨C,hC,hE⟩:=ZgX J.ex;have ty:=hE.ty;have lc:oc=.type "function":=by
  have:(X.K.lookup f).map (·.cls)=some (.type "function"):=ty
  rw[lk]at this;exact aQ this
 exact Zji T J.ex hf gl hh (fun C hE=>G f fd C J hE) hr J.bi lk lc ha hg hdb he hpl
end DL
namespace DL
open PyProof.Rows L2
open PySem.W (nsIn excIn tailIn nsOkIn mroIn clsIn typeIn findIn specialIn takesIn kitOne Looks looks_mroIn looks_typeIn exmAny exm_tup2)
theorem Zjj(f:DQ.Fly B l e cls dct fl h)(k:∀b o,h.get? b=some o->h'.get? b=some o):DQ.Fly B l e cls dct fl h':=by
 obtain⟨st,nw,fr,oe,vs,T,oT,ts,g1,g2,g3,g4,g5,g6,g7,g8,g9,g10,g11⟩:=f;exact⟨fun b o q=>k b o (st b o q),nw,fr.of_keeps fun b o q _=>⟨o,k b o q,rfl⟩,oe,vs,T,oT,ts,k _ _ g1,g2,g3,g4,g5,g6,g7,g8,k _ _ g9,g10,g11⟩
def Zjk(X:Cx)(t:Expr)(cs:List Str):Prop:=∀c∈cs,∀C,nsIn X.K ai c=some (some (.ref C))->∀(A':dc)(E:Vp)(Q:Bool->aC->Prop)(s:aC)(pins:Pn)(σ:L2.St)(H:Hp)(e:Addr)(oe:Obj)(od:Option Obj),
 Inv X pins σ H s->PySem.W.InstAt s.heap e oe C od->(∀h',(∀q o,s.heap.get? q=some o->h'.get? q=some o)->Q true {s with heap:=h'})->wpAny (az X.prog X.w) A' (eval t X.env) (fun v s1=>wpAny (az X.prog X.w) A' (excMatches (.ref e) v) Q E s1) E s
theorem ZkN(hcat:Zef X.K d cs=true)(gl:∀c v,nsIn X.K ai c=some (some v)->X.mg c=some v)(hg:autoParam (Gl X d) Qrf._auto_1)(hdb:autoParam ((d==("__debug__":Str))=false) Qde._auto_1):Zjk X (.Name d np) cs:=by
 unfold Zef at hcat
 split at hcat
 case h_2=>cases hcat
 rename_i D hD;simp only[aR,beq_iff_eq,bh]at hcat;obtain⟨⟨⟨hD3,hD1⟩,hD2⟩,hall⟩:=hcat;intro c hc C hC A' E Q s pins σ H e oe od J I q;have hm:=hall c hc;rw[ZeD hC]at hm;refine Calls.Name_function_global J.ok.kind hg (Calls.loadGlobal_global (by rw[J.ok.glob];exact J.mod.glob.keeps J.bk) (gl d _ (Zbb hD)) ?_) hdb
 exact Zfx (od:=od) J.kIn I hD1 hD2 hD3 (by simpa using hm.2) (q s.heap fun _ _ z=>z)
def Zga(gb:Sv)(cs:List Str)(W:List Bool)(gh:Sv):Sv:=fun ρ M=>match gb ρ M with
 |.exc c M1=>if cs.contains c=true then(match gh (kpR W ρ) (stE c M1)with
  |.ret d M2=>.ret d M2
  |.nx ρ2 M2=>.nx ρ2 M2
  |_=>.bad)else .bad
 |o=>o
theorem ZkO{s2:aC}{M1:Sto}(ht:Zjk X t cs)(hc:c∈cs)(srk:SR X.K H2 α1 σ1 ρk)(hx:X.ex=[])(hh:X.A.handled=none)(hC2:nsIn X.K ai c=some (some (.ref C)))(hs:∀ea,DSs (Cx.han X ea) E0 (b0::suite) gh)(I1:Inv X pins σ1 H1 s1)(os:s2.os=s1.os)(bare:d6 s2.gens)(un:Un (frs X.stack) [] H1 H2 s1.heap s2.heap)(hok:HOk X.prog X.w H2 s2.heap)(t1:∀b u,H2 b=some u->∃o,B.get? b=some o)(t2:∀b o,s1.heap.get? b=some o->b∉frs X.stack->∃o',B.get? b=some o')(st2:B.StaysIn s2.heap)(fly:DQ.Fly B X.stack ea (.ref C) dct fl h3)(up3:s2.heap.UpToSlots h3)(xo:XO X.K H2 α1 c M1 dct)(fp:∀H3,Ext X.K H2 H3 α1 α1->FP X.K H3 α1 E0 {nx:=Dn.nx,rt:=Dn.rt} (gh ρk (stE c M1))):wpAny (az X.prog X.w) X.A (fL (.ref ea) none) (fun _ s₃=>wpAny (az X.prog X.w) X.A (jM (.ref ea) X.env [.ExceptHandler (some t) none (b0::suite) hpos]) (SP X pins Dn) X.xe s₃) X.xe {s2 with heap:=h3}:=by
 refine DQ.Za7 (s:={s2 with heap:=h3}) fly fun h4 f4 up4=>?_;have inv:∀h,B.StaysIn h->s2.heap.UpToSlots h->Inv X pins σ1 H2 {s2 with heap:=h}:=fun h st up=>by
  obtain⟨a1,a2⟩:=ZiO I1 un hok t1 t2 st2 st up;exact I1.call' (s':={s2 with heap:=h}) (ch:=[]) os a1 a2 bare fun b z=>absurd z (by simp)
 have J4:=inv h4 f4.stay (up3.trans up4);obtain⟨oe4,vs4,T4,oT4,ts4,g1,g2,g3,g4,g5,g6⟩:=id f4.obj;refine ko (jv ?_) (by intro q;cases q)
 obtain⟨od4,in4⟩:=XO.inst (g3▸xo) J4.hok g1 g2 g4;refine ht c hc C hC2 _ _ _ _ _ _ _ ea oe4 od4 J4 in4 fun h4' kp=>?_;have f4':DQ.Fly B X.stack ea (.ref C) dct .none h4':=Zjj f4 kp;have up4':s2.heap.UpToSlots h4':=(up3.trans up4).trans (lw.UpToSlots.of_keeps kp);refine codeAny_handlers_suite ?_;refine DQ.Za7 (s:={s2 with heap:=h4'}) f4' fun h5 f5 up5=>?_;have J5:=inv h5 f5.stay (up4'.trans up5);obtain⟨oe,vs,T5,oT5,ts5,k1,k2,k3,k4,k5,k6⟩:=id f5.obj;have nB:B.get? ea=none:=f5.new;have hn:H2 ea=none:=by
  cases z:H2 ea with
  |none=>rfl
  |some u=>obtain⟨o,q⟩:=t1 ea u z;rw[nB]at q;cases q
 have nf:ea∉frs X.stack:=DQ.apart f5.frames k1 k4;have h0:X.s₀.heap.get? ea=none:=by
  cases z:X.s₀.heap.get? ea with
  |none=>rfl
  |some o=>
   have nx:ea∉X.ex:=by rw[hx];simp
   obtain⟨o',q⟩:=I1.base.there ea o z nx;obtain⟨o2,q2⟩:=t2 ea o' q nf;rw[nB]at q2;cases q2
 have hp:∀p∈X.pn++pins,p.1≠ea:=fun p hp z=>by
  obtain⟨q1,_,q3,q4,_⟩:=I1.pin p hp;obtain⟨o2,q2⟩:=t2 p.1 p.2 q1 (by rw[z];exact nf)
  rw[z,nB]at q2;cases q2
 have J6:=ZfA J5 hn k1 k4 h0 hp;have J7:=ZiM (e:=ea) J6 (.inr ⟨ea,oe,.own 0,vs,rfl,Zp,k4,k5⟩);have ex:Ext X.K H2 (upd H2 ea (.frz oe (.own 0))) α1 α1:=Ext.new0 hn;obtain⟨ts,ps,qs⟩:=hs ea;have run:=ps pins _ _ _ {nx:=Dn.nx,rt:=Dn.rt} J7 (qs _ _ _ α1 (stE c M1) _ (srk.mono ex) (xo.hr.tup hn) (fp _ ex));refine wpAny_mono run (fun f s9 h9=>?_) (fun _ _ z=>z.elim);cases f with
 |next=>
  obtain⟨σ',H',J9,q⟩:=h9;exact⟨_,H',Zcw J9 hh,q⟩
 |ret u=>
  obtain⟨v,σ',H',J9,r,q⟩:=h9;exact⟨v,_,H',Zcw J9 hh,r,q⟩
 |brk=>obtain⟨_,_,_,q⟩:=h9;exact cm q
 |cont=>obtain⟨_,_,_,q⟩:=h9;exact cm q
theorem Zm8(ht:Zjk X t cs)(hh:X.A.handled=none)(hx:X.ex=[])(hst:X.stack=X.env::X.outer)(hf:X.env.frame=some X.env.locals)(W:List Bool)(hb:∀pn xe σ ξ',Thr (Cx.tri X pn xe W σ) ξ'->DSs (Cx.tri X pn xe W σ) ξ' body gb)(hs:∀ea,DSs (Cx.han X ea) E0 (b0::suite) gh)(fxn:autoParam (X.fxs=none) Qrf._auto_1)
  :
  DS X ξ (.Try body [.ExceptHandler (some t) none (b0::suite) hpos] [] [] pos) (Zga gb cs W gh):=by
 refine⟨fun Dn σ H=>∃ρ α M,SR X.K H α σ ρ/\HR X.K H α M/\FP X.K H α ξ Dn (Zga gb cs W gh ρ M),?_,fun σ ρ H α M Dn s h q=>⟨ρ,α,M,s,h,q⟩⟩;rintro pins s σ H Dn I ⟨ρ,α,M,sr,hr,fp⟩;refine wpAny_Try_except ?_;have lenρ:ρ.length=X.N.length:=by rw[<-sr.1];exact I.len
 generalize hxe:(fun(e:ah) (s₁:aC)=>wpAny (az X.prog X.w) X.A (dB e X.env) (fun _ s₂=>wpAny (az X.prog X.w) X.A (fL e none) (fun _ s₃=>wpAny (az X.prog X.w) X.A (jM e X.env [.ExceptHandler (some t) none (b0::suite) hpos]) (SP X pins Dn) X.xe s₃) X.xe s₂) X.xe s₁)=xe';have own:eV (az X.prog X.w) X.A X.env xe':=by
  rw[<-hxe];exact iK
 have land:∀{pins':Pn}{σ1:L2.St}{H1 H2:Hp}{s1 s2:aC}{h3 B:Heap}{ea C:Addr}{fl:ah}{dct:Option Addr},Inv (Cx.tri X (X.pn++pins) xe' W σ) pins' σ1 H1 s1->s2.os=s1.os->d6 s2.gens->Un (frs X.stack) [] H1 H2 s1.heap s2.heap->HOk X.prog X.w H2 s2.heap->
   (∀b u,H2 b=some u->∃o,B.get? b=some o)->(∀b o,s1.heap.get? b=some o->b∉frs X.stack->∃o',B.get? b=some o')->B.StaysIn s2.heap->DQ.Fly B X.stack ea (.ref C) dct fl h3->s2.heap.UpToSlots h3->
   (∃c M1 α',gb ρ M=.exc c M1/\nsIn X.K ai c=some (some (.ref C))/\Ext X.K H H2 α α'/\XO X.K H2 α' c M1 dct)->
   wpAny (az X.prog X.w) X.A (fL (.ref ea) none) (fun _ s₃=>wpAny (az X.prog X.w) X.A (jM (.ref ea) X.env [.ExceptHandler (some t) none (b0::suite) hpos]) (SP X pins Dn) X.xe s₃) X.xe {s2 with heap:=h3}:=by
  intro pins' σ1 H1 H2 s1 s2 h3 B ea C fl dct I1 os bare un hok t1 t2 st2 fly up3 hz;obtain⟨c,M1,α',eg,hC2,ex,hr1⟩:=hz;unfold Zga at fp;simp only[eg]at fp;by_cases hc:cs.contains c=true
  ·rw[if_pos hc]at fp;refine ZkO (ρk:=kpR W ρ) ht (jw.mp hc) ?_ hx hh hC2 hs (ZS fxn I1) os bare un hok t1 t2 st2 fly up3 hr1 fun H3 ex3=>?_
   ·refine⟨by rw[ZeF,lenρ];exact I1.len,fun j dd e=>?_⟩
    obtain⟨w1,w2⟩:=ZgM W ρ j dd e;obtain⟨v,v1,v2⟩:=sr.2 j dd w2;exact⟨v,(I1.fx W σ rfl j w1).trans v1,Rep.mono ex v2⟩
   cases er:gh (kpR W ρ) (stE c M1)with
   |ret dd M2=>rw[er]at fp;exact FP.ext (o:=.ret dd M2) fp (ex.trans ex3)
   |nx ρ2 M2=>rw[er]at fp;exact FP.ext (o:=.nx ρ2 M2) fp (ex.trans ex3)
   |brk ρ2 M2=>rw[er]at fp;exact fp.elim
   |cnt ρ2 M2=>rw[er]at fp;exact fp.elim
   |exc x M2=>rw[er]at fp;exact fp.elim
   |bad=>rw[er]at fp;exact fp.elim
  ·rw[if_neg hc]at fp;exact fp.elim
 have T:Thr (Cx.tri X (X.pn++pins) xe' W σ) (fun cls dct H'=>∃C c M1 α',cls=.ref C/\gb ρ M=.exc c M1/\nsIn X.K ai c=some (some (.ref C))/\Ext X.K H H' α α'/\XO X.K H' α' c M1 dct):=by
  refine⟨own,fun pins' σ1 H1 s1 e s2 I1 h=>?_,fun pins' σ1 H1 H' s1 s' e oe vs C I1 os bare un hok hn he hc hd v1 v2 hne q=>?_⟩
  ·obtain⟨ea,C,dct,B,H2,rfl,os,bare,un,hok,fl,t1,t2,C',c,M1,α',q1,q3,q4,q5,q6⟩:=h;cases q1;show xe' (.ref ea) s2;rw[<-hxe];have fl':DQ.Fly B (X.env::X.outer) ea (.ref C) dct .none s2.heap:=hst▸fl;refine DQ.Zdc (by rw[<-hst];exact I1.ok.frames) hf fl' fun h3 f3 up=>?_
   exact land I1 os bare un hok t1 t2 fl.stay (hst▸f3) up ⟨c,M1,α',q3,q4,q5,q6⟩
  ·obtain⟨C',c,M1,α',q1,q3,q4,q5,q6⟩:=q;cases q1;show xe' (.ref e) s';rw[<-hxe];have I2:=ZS fxn I1;obtain⟨t1,t2,hs',hl',hb'⟩:=Zcq I2 un hok hn he hne;generalize ZfV s'.heap (e::frs X.stack)=B at t2 hs' hl' hb' t1;refine ZcN (s:=s') (by rw[<-hst];exact I2.ok.frames) hf (hst▸hl') he hs' hb' hd v1 v2 fun h3 f3 up=>?_
   rw[hc]at f3;exact land (s2:=s') I1 os bare un hok t1 t2 hs' (hst▸f3) up ⟨c,M1,α',q3,q4,q5,q6⟩
 obtain⟨tb,pb,qb⟩:=hb _ _ _ _ T;have fpb:FP X.K H α (fun cls dct H'=>∃C c M1 α',cls=.ref C/\gb ρ M=.exc c M1/\nsIn X.K ai c=some (some (.ref C))/\Ext X.K H H' α α'/\XO X.K H' α' c M1 dct) Dn (gb ρ M):=by
  unfold Zga at fp;cases eg:gb ρ M with
  |exc c M1=>exact fun C H' α' n1 e1 dct h1=>⟨C,c,M1,α',rfl,rfl,n1,e1,h1⟩
  |nx ρ2 M2=>rw[eg]at fp;exact fp
  |ret d2 M2=>rw[eg]at fp;exact fp
  |brk ρ2 M2=>rw[eg]at fp;exact fp
  |cnt ρ2 M2=>rw[eg]at fp;exact fp
  |bad=>rw[eg]at fp;exact fp
 have run:=pb [] s σ H Dn (ZiN I) (qb σ ρ H α M Dn sr hr fpb);refine wpAny_mono run (fun f s1 h1=>?_) (fun e s1 h1=>?_)
 ·cases f with
  |next=>
   obtain⟨σ',H',J,q⟩:=h1;exact eN ⟨σ',H',ZS fxn J,q⟩
  |brk=>obtain⟨σ',H',J,q⟩:=h1;exact⟨σ',H',ZS fxn J,q⟩
  |cont=>obtain⟨σ',H',J,q⟩:=h1;exact⟨σ',H',ZS fxn J,q⟩
  |ret u=>obtain⟨v,σ',H',J,r,q⟩:=h1;exact⟨v,σ',H',ZS fxn J,r,q⟩
 ·exact h1
end DL
namespace DL
open PyProof.Rows L2
def Zjl:Sv:=(Zv (sIf (tv (e2 dGt (e2 dIx (Zg 0) (eC (.int 0))) (eC (.int 0)))) (Zv (ZF (gNm 2) (e2 dMod (e2 dIx (Zg 0) (eC (.int 0))) (Zg 1))) (Zv (Zfq (Zg 0) (eC (.int 0)) (e2 dDiv (e2 dIx (Zg 0) (eC (.int 0))) (Zg 1))) (ZE (Zg 2)))) sNil) (Zv (Zfq (Zg 0) (eC (.int 1)) (e2 dMod (e2 dMul (e2 dIx (Zg 0) (eC (.int 1))) (eC (.int 48271))) (eC (.int 2147483647)))) (ZE (e2 dMod (e2 dDiv (e2 dMod (e2 dMul (e2 dIx (Zg 0) (eC (.int 1))) (eC (.int 16807))) (eC (.int 2147483647))) (eC (.int 32))) (Zg 1)))))
def FDigit:W3:=fnF Zjl 2 1
noncomputable def Bag(n:Nat)(M:Sto):Prop:=∃a b:Int,0<=a/\M[n]?=some (.lst [.int a,.int b])
structure Gr(n:Nat) (M M':Sto):Prop where
 len:M.length<=M'.length
 bag:Bag n M'
 keep:∀k,k≠n->k<M.length->M'[k]?=M[k]?
theorem ZeO(hl:ds.length=n)(h:g (ds.map some++aB k none) M=.ret d M'):fnF g n k ds M=.ok d M':=by
 unfold fnF;rw[if_pos hl,h]
theorem ZcQ{M1:Sto}(e:g ρ M=.nx ρ1 M1):Zv g h ρ M=h ρ1 M1:=by
 unfold Zv;rw[e]
theorem Za3(h1: -(2^64)<j)(h2:j<2^64):ZL i j:=.inr (.inl (iP h1 h2))
theorem ZdD(h1: -(2^64)<i)(h2:i<2^64):ZL i j:=.inl (iP h1 h2)
theorem at0{x:D}:atI (x::r) 0=some x:=by
 show(ixN (r.length+1) 0).bind _=_;unfold ixN;rw[if_pos (by decide),if_pos (by lia)]
 rfl
theorem at1{x:D}:atI (x::y::r) 1=some y:=by
 show(ixN (r.length+2) 1).bind _=_;unfold ixN;rw[if_pos (by decide),if_pos (by lia)]
 rfl
theorem ix0:ixN (n+1) 0=some 0:=by
 unfold ixN;rw[if_pos (by decide),if_pos (by lia)]
 rfl
theorem ix1:ixN (n+2) 1=some 1:=by
 unfold ixN;rw[if_pos (by decide),if_pos (by lia)]
 rfl
theorem Zg0(hb:Bag n M)(hm:0<m)(hd:Zae m):∃r M',FDigit [.ref n,.int m] M=.ok (.int r) M'/\0<=r/\r<m/\Gr n M M':=by
 obtain⟨a,b,ha,e⟩:=hb;have hl:n<M.length:=(aj.mp e).1;have hs:∀x,(M.set n x)[n]?=some x:=fun x=>aP hl;have gr:∀a' b',0<=a'->Gr n M (M.set n (.lst [.int a',.int b'])):=fun a' b' h=>⟨by simp,⟨a',b',h,hs _⟩,fun k hk _=>by rw[aG (bJ hk)]⟩
 by_cases c:0<a
 ·refine⟨a.fmod m,M.set n (.lst [.int (a.fdiv m),.int b]),?_,?_,?_,gr _ _ ?_⟩
  ·simp[FDigit,Zjl,fnF,Zv,sNil,ZE,Zeu,Zcr,sIf,ZF,Zd3,Zfq,Zaf,gNm,gNl,gCs,gTp,DL.e2,Zg,eC,Z6,Zak,Zj,Zc,aNil,tv,Zar,Zb4,Z9,Zav,ZhP,ZcJ,eIf,Zfa,Zd2,Out.bind,dAdd,dSub,dMul,dDiv,dMod,dPow,dLt,dLe,dGt,dGe,dIx,atD,at0,at1,ix0,ix1,bLen,bAbs,bMax,bMin,bInt,bList,Zcf,ZO,kd,Zbs,dIs,dIsNot,isP,e,c,hd,Int.ne_of_gt hm]
  ·rw[ce _ (by lia)];exact eU _ (by lia)
  ·rw[ce _ (by lia)];exact dG _ hm
  ·rw[fJ _ (by lia)];exact Int.ediv_nonneg ha (by lia)
 ·refine⟨(((b*48271).fmod 2147483647*16807).fmod 2147483647 |>.fdiv 32).fmod m,M.set n (.lst [.int a,.int ((b*48271).fmod 2147483647)]),?_,?_,?_,gr _ _ ha⟩
  ·have f1:ZL b 48271:=Za3 (by decide) (by decide)
   have f2:ZL ((b*48271).fmod 2147483647) 16807:=Za3 (by decide) (by decide)
   have f3:Zae 32:=by decide +kernel
   simp[FDigit,Zjl,fnF,Zv,sNil,ZE,Zeu,Zcr,sIf,ZF,Zd3,Zfq,Zaf,gNm,gNl,gCs,gTp,DL.e2,Zg,eC,Z6,Zak,Zj,Zc,aNil,tv,Zar,Zb4,Z9,Zav,ZhP,ZcJ,eIf,Zfa,Zd2,Out.bind,dAdd,dSub,dMul,dDiv,dMod,dPow,dLt,dLe,dGt,dGe,dIx,atD,at0,at1,ix0,ix1,bLen,bAbs,bMax,bMin,bInt,bList,Zcf,ZO,kd,Zbs,dIs,dIsNot,isP,e,c,hs,f1,f2,f3,Int.ne_of_gt hm]
  ·rw[ce _ (by lia)];exact eU _ (by lia)
  ·rw[ce _ (by lia)];exact dG _ hm
theorem Bag.lt(h:Bag n M):n<M.length:=let ⟨_,_,_,e⟩:=h;(aj.mp e).1
theorem Bag.app(h:Bag n M)(L:Sto):Bag n (M++L):=by
 have hl:=h.lt;obtain⟨a,b,h1,h2⟩:=h;exact⟨a,b,h1,by rw[aH hl];exact h2⟩
theorem Gr.refl(h:Bag n M):Gr n M M:=⟨au _,h,fun _ _ _=>rfl⟩
theorem Gr.trans{M1 M2:Sto}(a:Gr n M M1)(b:Gr n M1 M2):Gr n M M2:=
 ⟨aE a.len b.len,b.bag,fun k h1 h2=>(b.keep k h1 (ay h2 a.len)).trans (a.keep k h1 h2)⟩
theorem Gr.app(h:Bag n M)(L:Sto):Gr n M (M++L):=⟨by simp,h.app L,fun k _ hk=>by rw[aH hk]⟩
theorem Gr.app2{M1:Sto}(h:Gr n M M1)(L:Sto):Gr n M (M1++L):=h.trans (.app h.bag L)
theorem Gr.new{M1:Sto}(hb:Bag n M)(h:Gr n (M++o::L) M1):M1[M.length]?=some o:=by
 rw[h.keep _ (cX hb.lt) (by simp)]
 simp
def Zul:Sv:=(Zv (ZF (gNm 2) (eC (.int 0))) (Zv (sIf (tv (e2 dLt (Zg 1) (Zj bLen (Zc (Zg 0) aNil)))) (ZF (gNm 2) (Zj bAbs (Zc (e2 dIx (Zg 0) (Zg 1)) aNil))) sNil) (Zv (ZF (gNm 3) (e2 dAdd (eC (.int 1)) (e2 dMod (e2 dAdd (e2 dAdd (e2 dAdd (e2 dMod (Zg 2) (eC (.int 2147483647))) (e2 dMul (e2 dMul (eC (.int 7919)) (Zg 1)) (Zg 1))) (e2 dMul (eC (.int 11)) (Zg 1))) (eC (.int 5))) (eC (.int 2147483646))))) (ZE (Zak (Zc (e2 dMul (Zg 2) (Zj bInt (Zc (e2 dGe (Zg 2) (e2 dPow (eC (.int 10)) (eC (.int 18)))) aNil))) (Zc (Zg 3) aNil)))))))
def FBag:W3:=fnF Zul 2 2
theorem ZkP{ns:List Int}(h:k<ns.length):atI (ns.map D.int) (k:Int)=some (.int ns[k]):=Zii (by rw[a7,aq h];rfl)
theorem Zps{ns:List Int}{k:Nat}(hk:k<1000):∃a b:Int,0<=a/\FBag [.rol (ns.map D.int),.int k] M=.ok (.ref M.length) (M++[.lst [.int a,.int b]]):=by
 have f2:ZL 7919 (k:Int):=ZdD (by decide) (by decide)
 have f3:ZL (7919*(k:Int)) (k:Int):=Za3 (by lia) (by lia)
 have f4:ZL 11 (k:Int):=ZdD (by decide) (by decide)
 have body:∀cell:Int,0<=cell->∃a b:Int,0<=a/\∀M,Zv (ZF (gNm 3) (e2 dAdd (eC (.int 1)) (e2 dMod (e2 dAdd (e2 dAdd (e2 dAdd (e2 dMod (Zg 2) (eC (.int 2147483647))) (e2 dMul (e2 dMul (eC (.int 7919)) (Zg 1)) (Zg 1))) (e2 dMul (eC (.int 11)) (Zg 1))) (eC (.int 5))) (eC (.int 2147483646)))))
   (ZE (Zak (Zc (e2 dMul (Zg 2) (Zj bInt (Zc (e2 dGe (Zg 2) (e2 dPow (eC (.int 10)) (eC (.int 18)))) aNil))) (Zc (Zg 3) aNil)))) [some (.rol (ns.map D.int)),some (.int k),some (.int cell),none] M=.ret (.ref M.length) (M++[.lst [.int a,.int b]]):=by
  intro cell hc;have f5:ZL cell 1:=Za3 (by decide) (by decide)
  have f6:ZL cell 0:=Za3 (by decide) (by decide)
  by_cases c:(10^18:Int)<=cell
  ·refine⟨cell*1,1+(cell.fmod 2147483647+7919*(k:Int)*k+11*k+5).fmod 2147483646,by lia,fun M=>?_⟩
   have c':(1000000000000000000:Int)<=cell:=by lia
   simp[fnF,Zv,sNil,ZE,Zeu,Zcr,sIf,ZF,Zd3,Zfq,Zaf,gNm,gNl,gCs,gTp,DL.e2,Zg,eC,Z6,Zak,Zj,Zc,aNil,tv,Zar,Zb4,Z9,Zav,ZhP,ZcJ,eIf,Zfa,Zd2,Out.bind,dAdd,dSub,dMul,dDiv,dMod,dPow,dLt,dLe,dGt,dGe,dIx,atD,at0,at1,ix0,ix1,bLen,bAbs,bMax,bMin,bInt,bList,Zcf,ZO,kd,Zbs,dIs,dIsNot,isP,f2,f3,f4,f5,f6,c']
  ·refine⟨cell*0,1+(cell.fmod 2147483647+7919*(k:Int)*k+11*k+5).fmod 2147483646,by lia,fun M=>?_⟩
   have c':¬(1000000000000000000:Int)<=cell:=by lia
   simp[fnF,Zv,sNil,ZE,Zeu,Zcr,sIf,ZF,Zd3,Zfq,Zaf,gNm,gNl,gCs,gTp,DL.e2,Zg,eC,Z6,Zak,Zj,Zc,aNil,tv,Zar,Zb4,Z9,Zav,ZhP,ZcJ,eIf,Zfa,Zd2,Out.bind,dAdd,dSub,dMul,dDiv,dMod,dPow,dLt,dLe,dGt,dGe,dIx,atD,at0,at1,ix0,ix1,bLen,bAbs,bMax,bMin,bInt,bList,Zcf,ZO,kd,Zbs,dIs,dIsNot,isP,f2,f3,f4,f5,f6,c']
 by_cases c:k<ns.length
 ·obtain⟨a,b,h,e⟩:=body (if ns[k]<0 then -ns[k]else ns[k]) (by split<;>lia)
  refine⟨a,b,h,ZeO rfl ?_⟩;have c':(k:Int)<(ns.length:Int):=by lia
  refine(ZcQ (ρ1:=[some (.rol (ns.map D.int)),some (.int k),some (.int 0),none]) (M1:=M) rfl).trans ?_;refine(ZcQ (ρ1:=[some (.rol (ns.map D.int)),some (.int k),some (.int (if ns[k]<0 then -ns[k]else ns[k])),none]) (M1:=M) ?_).trans (e M)
  simp[fnF,Zv,sNil,ZE,Zeu,Zcr,sIf,ZF,Zd3,Zfq,Zaf,gNm,gNl,gCs,gTp,DL.e2,Zg,eC,Z6,Zak,Zj,Zc,aNil,tv,Zar,Zb4,Z9,Zav,ZhP,ZcJ,eIf,Zfa,Zd2,Out.bind,dAdd,dSub,dMul,dDiv,dMod,dPow,dLt,dLe,dGt,dGe,dIx,atD,at0,at1,ix0,ix1,bLen,bAbs,bMax,bMin,bInt,bList,Zcf,ZO,kd,Zbs,dIs,dIsNot,isP,ZkP c,c']
 ·obtain⟨a,b,h,e⟩:=body 0 (by lia)
  refine⟨a,b,h,ZeO rfl ?_⟩;have c':¬(k:Int)<(ns.length:Int):=by lia
  refine(ZcQ (ρ1:=[some (.rol (ns.map D.int)),some (.int k),some (.int 0),none]) (M1:=M) rfl).trans ?_;refine(ZcQ (ρ1:=[some (.rol (ns.map D.int)),some (.int k),some (.int 0),none]) (M1:=M) ?_).trans (e M);simp[fnF,Zv,sNil,ZE,Zeu,Zcr,sIf,ZF,Zd3,Zfq,Zaf,gNm,gNl,gCs,gTp,DL.e2,Zg,eC,Z6,Zak,Zj,Zc,aNil,tv,Zar,Zb4,Z9,Zav,ZhP,ZcJ,eIf,Zfa,Zd2,Out.bind,dAdd,dSub,dMul,dDiv,dMod,dPow,dLt,dLe,dGt,dGe,dIx,atD,at0,at1,ix0,ix1,bLen,bAbs,bMax,bMin,bInt,bList,Zcf,ZO,kd,Zbs,dIs,dIsNot,isP,c',c]
theorem Zg1{ρ:Ro}(h:ρ[i]?=some x):ρ.set i x=ρ:=by
 apply iJ;intro k;by_cases hk:k=i
 ·subst hk;rw[aP (aj.mp h).1,h]
 ·rw[aG (bJ hk)]
def cEu(i j:Nat):Sv:=Zd3 i j (Zc (Zg j) (Zc (e2 dMod (Zg i) (Zg j)) aNil))
theorem Zpt{c:Tv}{i j:Nat}{M:Sto}(hij:i≠j)(hc:∀(ρ:Ro)(b:Nat),ρ[j]?=some (some (.int b))->c ρ M=.ok (decide (b≠0)) M):∀(b a:Nat)(ρ:Ro),ρ[i]?=some (some (.int a))->ρ[j]?=some (some (.int b))->sWh c (cEu i j) ρ M=.nx ((ρ.set i (some (.int (kW a b:Nat)))).set j (some (.int 0))) M:=by
 intro b
 induction b using jt with
 |ind b ih=>
  intro a ρ hi hj;by_cases h0:b=0
  ·subst h0;rw[Zfr (M1:=M) (by rw[hc ρ 0 hj];rfl),f7,Zg1 hi,Zg1 (x:=some (.int 0)) hj]
  ·have hl:i<ρ.length:=(aj.mp hi).1;have hl2:j<ρ.length:=(aj.mp hj).1;have ht:c ρ M=.ok true M:=by rw[hc ρ b hj,decide_eq_true h0]
   have hb:cEu i j ρ M=.nx ((ρ.set i (some (.int b))).set j (some (.int (a%b:Nat)))) M:=by
    have hb0:¬(b:Int)=0:=by lia
    have hm:(a:Int).fmod (b:Int)=((a%b:Nat):Int):=by rw[ce _ (by lia)];rfl
    simp[cEu,Zd3,Zc,aNil,Zg,e2,dMod,Out.bind,Zaf,hi,hj,hb0,hm,h0]
   have g1:((ρ.set i (some (.int b))).set j (some (.int (a%b:Nat))))[i]?=some (some (.int b)):=by
    rw[aG (bJ hij),aP hl]
   have g2:((ρ.set i (some (.int b))).set j (some (.int (a%b:Nat))))[j]?=some (some (.int (a%b:Nat))):=by
    rw[aP (by simpa using hl2)]
   have q:=ih (a%b) (jk _ (by lia)) b _ g1 g2
   rw[ZgE ht hb (by rw[q];intro z;cases z),q]
   have eg:kW b (a%b)=kW a b:=by rw[eK b,<-jP,eK]
   rw[eg,List.set_comm _ _ (bJ hij),List.set_set,List.set_set]
theorem Zpu:eqF 12 M (.int a) (.int b)=some (a==b):=rfl
theorem ne0(ρ:Ro)(b:Nat)(h:ρ[j]?=some (some (.int b))):tv (e2 dNe (Zg j) (eC (.int 0))) ρ M=.ok (decide (b≠0)) M:=by
 simp[tv,e2,Zg,eC,h,Out.bind,dNe,Zpu];by_cases c:b=0
 ·subst c;rfl
 ·have:¬(b:Int)=0:=by lia
  simp[c,this]
theorem Zjm(a:Int):(if a<0 then -a else a)=(a.natAbs:Int):=by split<;>lia
def Zum:Sv:=(Zv (Zd3 2 3 (Zc (Zj bAbs (Zc (Zg 0) aNil)) (Zc (Zj bAbs (Zc (Zg 1) aNil)) aNil))) (Zv (sWh (tv (e2 dNe (Zg 3) (eC (.int 0)))) (Zd3 2 3 (Zc (Zg 3) (Zc (e2 dMod (Zg 2) (Zg 3)) aNil)))) (ZE (Zg 2))))
def FGcd:W3:=fnF Zum 2 2
theorem ZlK(a b:Int)(M:Sto):FGcd [.int a,.int b] M=.ok (.int (bq a b:Nat)) M:=by
 refine ZeO rfl ?_;refine(ZcQ (ρ1:=[some (.int a),some (.int b),some (.int (a.natAbs:Nat)),some (.int (b.natAbs:Nat))]) (M1:=M) ?_).trans ?_
 ·simp[fnF,Zv,sNil,ZE,Zeu,Zcr,sIf,ZF,Zd3,Zfq,Zaf,gNm,gNl,gCs,gTp,DL.e2,Zg,eC,Z6,Zak,Zj,Zc,aNil,tv,Zar,Zb4,Z9,Zav,ZhP,ZcJ,eIf,Zfa,Zd2,Out.bind,dAdd,dSub,dMul,dDiv,dMod,dPow,dLt,dLe,dGt,dGe,dIx,atD,at0,at1,ix0,ix1,bLen,bAbs,bMax,bMin,bInt,bList,Zcf,ZO,kd,Zbs,dIs,dIsNot,isP,Zjm]
 ·have q:=Zpt (c:=tv (e2 dNe (Zg 3) (eC (.int 0)))) (i:=2) (j:=3) (M:=M) (by decide) ne0 b.natAbs a.natAbs [some (.int a),some (.int b),some (.int (a.natAbs:Nat)),some (.int (b.natAbs:Nat))] rfl rfl
  refine(ZcQ q).trans ?_;rfl
end DL
namespace DL
open PyProof.Rows L2
theorem Zgb{ds:List D}{tg:Tg}{c:Tv}{f:Ev}{M:Sto}{Inv:Ro->Prop}{P:D->Option D}(ht:∀d∈ds,∀ρ,Inv ρ->∃ρ1,tg d ρ=some ρ1/\Inv ρ1/\∀xs,(∃y,P d=some y/\c ρ1 (M++[.lst xs])=.ok true (M++[.lst xs])/\f ρ1 (M++[.lst xs])=.ok y (M++[.lst xs]))\/(P d=none/\c ρ1 (M++[.lst xs])=.ok false (M++[.lst xs]))):∀(k i:Nat)(ρ:Ro)(xs:List D),i+k=ds.length->Inv ρ->xs.length+k<100000->Zez (.pur ds) tg c f M.length k i ρ (M++[.lst xs])=.ok () (M++[.lst (xs++(ds.drop i).filterMap P)])
 |0,i,ρ,xs,e,_,_=>by
  have hi:ds[i]?=none:=aU (by lia)
  have hd:ds.drop i=[]:=a8 (by lia)
  unfold Zez;simp only[nxt,hi,hd,List.filterMap_nil,aY]
 |k+1,i,ρ,xs,e,hI,hl=>by
  have hi:i<ds.length:=by lia
  have hg:ds[i]?=some ds[i]:=Gq hi;obtain⟨ρ1,e1,I1,h⟩:=ht ds[i] (aX hi) ρ hI;rw[dJ hi];unfold Zez;simp only[nxt,hg,e1];rcases h xs with⟨y,p,h1,h2⟩|⟨p,h1⟩
  ·have l1:(M++[SO.lst xs])[M.length]?=some (.lst xs):=by simp
   have l2:(M++[SO.lst xs]).set M.length (.lst (xs++[y]))=M++[.lst (xs++[y])]:=by simp
   simp only[h1,h2,l1,l2,if_pos (show xs.length<10000000 by lia)]
   rw[Zgb ht k (i+1) ρ1 (xs++[y]) (by lia) I1 (by simp;lia),List.filterMap_cons_some p]
   simp
  ·simp only[h1];rw[Zgb ht k (i+1) ρ1 xs (by lia) I1 (by lia),List.filterMap_cons_none p]
def Zjn(bs:List D)(d:D):Option D:=match d with
 |.int i=>(match atI bs i with|some (.bl true)=>some d|_=>none)
 |_=>none
def ZkQ(t0 t1 t2 t3 t4 t5 t6 t7 t8 t9 t10 t11 t12 t13 t14 tV:List (Str×Bool)):Sv:=(Zv (ZF (gNm 1) (Zak (Zc (Zan t0 (Zg 0)) (Zc (Zan t1 (Zg 0)) (Zc (Zan t2 (Zg 0)) (Zc (Zan t3 (Zg 0)) aNil)))))) (Zv (ZF (gNm 1) (e2 dAdd (Zg 1) (Zak (Zc (Zan t4 (Zg 0)) (Zc (Zan t5 (Zg 0)) (Zc (Zan t6 (Zg 0)) (Zc (Zan t7 (Zg 0)) aNil))))))) (Zv (ZF (gNm 1) (e2 dAdd (Zg 1) (Zak (Zc (Zan t8 (Zg 0)) (Zc (Zan t9 (Zg 0)) (Zc (Zan t10 (Zg 0)) (Zc (Zan t11 (Zg 0)) aNil))))))) (Zv (ZF (gNm 1) (e2 dAdd (Zg 1) (Zak (Zc (Zan t12 (Zg 0)) (Zc (Zan t13 (Zg 0)) (Zc (Zan t14 (Zg 0)) aNil)))))) (ZE (ZaH (iR1 (Zc (eC (.int 15)) aNil)) 1 [0,1] (gNm 0) (Zar (tv (e2 dIx (Zg 2) (Zg 0))) (tv (Zan tV (Zg 1)))) (Zg 0)))))))
theorem ZhE(h0:t0.lookup c=some b0)(h1:t1.lookup c=some b1)(h2:t2.lookup c=some b2)(h3:t3.lookup c=some b3)(h4:t4.lookup c=some b4)(h5:t5.lookup c=some b5)(h6:t6.lookup c=some b6)(h7:t7.lookup c=some b7)(h8:t8.lookup c=some b8)(h9:t9.lookup c=some b9)(h10:t10.lookup c=some b10)(h11:t11.lookup c=some b11)(h12:t12.lookup c=some b12)(h13:t13.lookup c=some b13)(h14:t14.lookup c=some b14)(hV:tV.lookup c=some true):∃L,fnF (ZkQ t0 t1 t2 t3 t4 t5 t6 t7 t8 t9 t10 t11 t12 t13 t14 tV) 1 1 [.err c es] M=.ok (.ref (M.length+7)) (M++L)/\(M++L)[M.length+7]?=some (.lst ((Zbu 0 15).filterMap (Zjn [D.bl b0,D.bl b1,D.bl b2,D.bl b3,D.bl b4,D.bl b5,D.bl b6,D.bl b7,D.bl b8,D.bl b9,D.bl b10,D.bl b11,D.bl b12,D.bl b13,D.bl b14]))):=by
 generalize hL:[SO.lst [D.bl b0,D.bl b1,D.bl b2,D.bl b3],.lst [D.bl b4,D.bl b5,D.bl b6,D.bl b7],.lst [D.bl b0,D.bl b1,D.bl b2,D.bl b3,D.bl b4,D.bl b5,D.bl b6,D.bl b7],.lst [D.bl b8,D.bl b9,D.bl b10,D.bl b11],.lst [D.bl b0,D.bl b1,D.bl b2,D.bl b3,D.bl b4,D.bl b5,D.bl b6,D.bl b7,D.bl b8,D.bl b9,D.bl b10,D.bl b11],.lst [D.bl b12,D.bl b13,D.bl b14],.lst [D.bl b0,D.bl b1,D.bl b2,D.bl b3,D.bl b4,D.bl b5,D.bl b6,D.bl b7,D.bl b8,D.bl b9,D.bl b10,D.bl b11,D.bl b12,D.bl b13,D.bl b14]]=L;have lL:L.length=7:=by subst hL;rfl
 have l6:(M++L)[M.length+6]?=some (.lst [D.bl b0,D.bl b1,D.bl b2,D.bl b3,D.bl b4,D.bl b5,D.bl b6,D.bl b7,D.bl b8,D.bl b9,D.bl b10,D.bl b11,D.bl b12,D.bl b13,D.bl b14]):=by subst hL;simp
 have run:∀rest:Sv,Zv (ZF (gNm 1) (Zak (Zc (Zan t0 (Zg 0)) (Zc (Zan t1 (Zg 0)) (Zc (Zan t2 (Zg 0)) (Zc (Zan t3 (Zg 0)) aNil))))))
   (Zv (ZF (gNm 1) (e2 dAdd (Zg 1) (Zak (Zc (Zan t4 (Zg 0)) (Zc (Zan t5 (Zg 0)) (Zc (Zan t6 (Zg 0)) (Zc (Zan t7 (Zg 0)) aNil))))))) (Zv (ZF (gNm 1) (e2 dAdd (Zg 1) (Zak (Zc (Zan t8 (Zg 0)) (Zc (Zan t9 (Zg 0)) (Zc (Zan t10 (Zg 0)) (Zc (Zan t11 (Zg 0)) aNil))))))) (Zv (ZF (gNm 1) (e2 dAdd (Zg 1) (Zak (Zc (Zan t12 (Zg 0)) (Zc (Zan t13 (Zg 0)) (Zc (Zan t14 (Zg 0)) aNil)))))) rest))) [some (.err c es),none] M=rest [some (.err c es),some (.ref (M.length+6))] (M++L):=by
  intro rest;subst hL;simp[fnF,Zv,sNil,ZE,Zeu,Zcr,sIf,ZF,Zd3,Zfq,Zaf,gNm,gNl,gCs,gTp,DL.e2,Zg,eC,Z6,Zak,Zj,Zc,aNil,tv,Zar,Zb4,Z9,Zav,ZhP,ZcJ,eIf,Zfa,Zd2,Out.bind,dAdd,dSub,dMul,dDiv,dMod,dPow,dLt,dLe,dGt,dGe,dIx,atD,at0,at1,ix0,ix1,bLen,bAbs,bMax,bMin,bInt,bList,Zcf,ZO,kd,Zbs,dIs,dIsNot,isP,Zan,Zby,ZlD,h0,h1,h2,h3,h4,h5,h6,h7,h8,h9,h10,h11,h12,h13,h14]
 have cp:=Zgb (ds:=Zbu 0 15) (tg:=gNm 0) (c:=Zar (tv (e2 dIx (Zg 2) (Zg 0))) (tv (Zan tV (Zg 1)))) (f:=Zg 0) (M:=M++L) (Inv:=fun ρ=>∃x,ρ=[x,some (.err c es),some (.ref (M.length+6))])
  (P:=Zjn [D.bl b0,D.bl b1,D.bl b2,D.bl b3,D.bl b4,D.bl b5,D.bl b6,D.bl b7,D.bl b8,D.bl b9,D.bl b10,D.bl b11,D.bl b12,D.bl b13,D.bl b14]) (by
   intro d hd ρ ⟨x,hρ⟩;subst hρ;obtain⟨i,hi,rfl⟩:=a9.mp hd;have hi':i<15:=d8.mp hi;refine⟨_,rfl,⟨_,rfl⟩,fun xs=>?_⟩;have l7:(M++L++[SO.lst xs])[M.length+6]?=some (.lst [D.bl b0,D.bl b1,D.bl b2,D.bl b3,D.bl b4,D.bl b5,D.bl b6,D.bl b7,D.bl b8,D.bl b9,D.bl b10,D.bl b11,D.bl b12,D.bl b13,D.bl b14]):=by
    rw[aH (by rw[aa,lL];lia)]
    exact l6
   have ei:(0:Int)+(i:Nat)=(i:Nat):=by lia
   rw[ei];obtain⟨b,hb⟩:∃b,atI [D.bl b0,D.bl b1,D.bl b2,D.bl b3,D.bl b4,D.bl b5,D.bl b6,D.bl b7,D.bl b8,D.bl b9,D.bl b10,D.bl b11,D.bl b12,D.bl b13,D.bl b14] (i:Nat)=some (.bl b):=by
    have q:∀i:Nat,i<15->∃b,[D.bl b0,D.bl b1,D.bl b2,D.bl b3,D.bl b4,D.bl b5,D.bl b6,D.bl b7,D.bl b8,D.bl b9,D.bl b10,D.bl b11,D.bl b12,D.bl b13,D.bl b14][i]?=some (.bl b):=by
     intro i hi
     have:i=0\/i=1\/i=2\/i=3\/i=4\/i=5\/i=6\/i=7\/i=8\/i=9\/i=10\/i=11\/i=12\/i=13\/i=14:=by lia
     rcases this with rfl|rfl|rfl|rfl|rfl|rfl|rfl|rfl|rfl|rfl|rfl|rfl|rfl|rfl|rfl<;>exact⟨_,rfl⟩
    obtain⟨b,hb⟩:=q i hi';exact⟨b,Zii hb⟩
   have hc:Zar (tv (e2 dIx (Zg 2) (Zg 0))) (tv (Zan tV (Zg 1))) [some (.int (i:Nat)),some (.err c es),some (.ref (M.length+6))] (M++L++[.lst xs])=.ok b (M++L++[.lst xs]):=by
    cases b<;>simp only[Zar,tv,DL.e2,Zg,iY,db,Out.bind,dIx,l7,atD,hb,Zan,hV,if_pos,if_neg,bK,if_false]
   cases b with
   |true=>exact .inl ⟨.int (i:Nat),by simp only[Zjn,hb],hc,rfl⟩
   |false=>exact .inr ⟨by simp only[Zjn,hb],hc⟩) 15 0 [none,some (.err c es),some (.ref (M.length+6))] [] rfl ⟨none,rfl⟩ (by decide)
 refine⟨L++[.lst ((Zbu 0 15).filterMap (Zjn [D.bl b0,D.bl b1,D.bl b2,D.bl b3,D.bl b4,D.bl b5,D.bl b6,D.bl b7,D.bl b8,D.bl b9,D.bl b10,D.bl b11,D.bl b12,D.bl b13,D.bl b14]))],ZeO rfl ?_,?_⟩
 ·refine(run _).trans ?_;have len:(M++L).length=M.length+7:=by rw[aa,lL]
  have cn:cnt (.pur (Zbu 0 15)) (M++L)=15:=rfl;rw[jN,cO]at cp;simp only[len,cu]at cp;have hr:iR1 (Zc (eC (.int 15)) aNil) [some (.err c es),some (.ref (M.length+6))] (M++L)=.ok (.pur (Zbu 0 15)) (M++L):=rfl;have ho:roB 1 [0,1] [some (.err c es),some (.ref (M.length+6))]=[none,some (.err c es),some (.ref (M.length+6))]:=rfl;simp only[ZE,Zaf,ZaH,hr,Out.bind,cn,ho,cp,len,cu]
 ·rw[<-cu,aM (by rw[aa,lL];lia),aa,lL,fM]
  rfl
end DL
namespace DL
open PyProof.Rows L2
noncomputable def wO(o:Out β)(Q:β->Sto->Prop)(E:W2):Prop:=match o with
 |.ok a M=>Q a M
 |.exc c M=>E c M
 |.bad=>False
def wS(f:Fl)(N:W1)(R:W0)(B C:W1)(E:W2):Prop:=match f with
 |.nx ρ M=>N ρ M
 |.ret d M=>R d M
 |.brk ρ M=>B ρ M
 |.cnt ρ M=>C ρ M
 |.exc c M=>E c M
 |.bad=>False
noncomputable def Br(k:Bool)(A B:Prop):Prop:=(k=true->A)/\(k=false->B)
noncomputable def wG{β:Type}(o:Option β)(N:β->Prop):Prop:=match o with|some ρ=>N ρ|none=>False
noncomputable def wV(o:Option (Option D))(Q:D->Prop):Prop:=match o with|some (some d)=>Q d|_=>False
noncomputable def wI(x:D)(Q:Int->Prop):Prop:=match x with|.int i=>Q i|_=>False
noncomputable def wR(x:D)(Q:Nat->Prop):Prop:=match x with|.ref i=>Q i|_=>False
noncomputable def w1(x:List D)(Q:D->Prop):Prop:=match x with|[v]=>Q v|_=>False
noncomputable def w2(x:List D)(Q:D->D->Prop):Prop:=match x with|[v,w]=>Q v w|_=>False
noncomputable def wL(o:Option SO)(Q:List D->Prop):Prop:=match o with|some (.lst xs)=>Q xs|none=>False
section
variable {β:Type}{QG:β->Prop}{y:β}
theorem Zun:w1 [d] Q=Q d:=rfl
theorem Zuo:w2 [d,x] Q2=Q2 d x:=rfl
theorem Zup:wV (some (some d)) Q=Q d:=rfl
theorem Zuq:wI (.int i) QI=QI i:=rfl
theorem Zur:wR (.ref n) QR=QR n:=rfl
theorem Zus:wL (some (.lst xs)) QL=QL xs:=rfl
theorem Zut:wG (some y) QG=QG y:=rfl
end
section
variable {β:Type}{Q:β->Sto->Prop}{E:W2}{A A':Prop}
theorem Zk{d:β}:wO (.ok d M) Q E=Q d M:=rfl
theorem Zpv:wO (.exc c M:Out β) Q E=E c M:=rfl
theorem Zpw:Br true A A'=A:=by simp[Br]
theorem Ztl:Br false A A'=A':=by simp[Br]
theorem br(h1:k=true->A)(h2:k=false->A'):Br k A A':=⟨h1,h2⟩
theorem brD{p:Prop}[Decidable p](h1:p->A)(h2:¬p->A'):Br (decide p) A A':=⟨fun h=>h1 (of_decide_eq_true h),fun h=>h2 (of_decide_eq_false h)⟩
theorem Zb7{o:Out β}{Q':β->Sto->Prop}(h:wO o Q E)(hq:∀d M,Q d M->Q' d M)(he:∀c M,E c M->E' c M):wO o Q' E':=by
 cases o with
 |ok d M=>exact hq d M h
 |exc c M=>exact he c M h
 |bad=>exact h
theorem Zpx{o:Out β}(h:wO o Q (fun _ _=>False)):∃d M',o=.ok d M'/\Q d M':=by
 cases o with
 |ok d M=>exact⟨d,M,rfl,h⟩
 |exc c M=>exact h.elim
 |bad=>exact h.elim
theorem Zy{o:Out γ}{f:γ->Sto->Out β}:wO (o.bind f) Q E=wO o (fun x M1=>wO (f x M1) Q E) E:=by cases o<;>rfl
end
section
variable {E:W2}{N B C:W1}{R:W0}{ρ:Ro}{M:Sto}{e f:Ev}
theorem ZrR:wO (e2 op f g ρ M) Q E=wO (f ρ M) (fun x M1=>wO (g ρ M1) (fun y M2=>wO (op x y M2) Q E) E) E:=by
 unfold e2;rw[Zy];congr 1;funext x M1;rw[Zy]
theorem Zuu:wO (Zg i ρ M) Q E=wV ρ[i]? (fun d=>Q d M):=by
 unfold Zg;cases ρ[i]? with
 |none=>rfl
 |some o=>cases o<;>rfl
theorem Zm9:wO (Zj F fs ρ M) Q E=wO (fs ρ M) (fun ds M1=>wO (F ds M1) Q E) E:=Zy
theorem Zna:wO (Zc f fs ρ M) Q E=wO (f ρ M) (fun x M1=>wO (fs ρ M1) (fun xs M2=>Q (x::xs) M2) E) E:=by
 unfold Zc;rw[Zy];congr 1;funext x M1;rw[Zy];congr 1
theorem Zpy:wO (Z6 fs ρ M) Q E=wO (fs ρ M) (fun xs M1=>xs.length<=1000/\Q (.tup xs) M1) E:=by
 unfold Z6;rw[Zy];congr 1;funext x M1;by_cases h:x.length<=1000
 ·rw[if_pos h];simp[h,wO]
 ·rw[if_neg h];simp[h,wO]
theorem Zpz:wO (Zak fs ρ M) Q E=wO (fs ρ M) (fun xs M1=>xs.length<=1000/\Q (.ref M1.length) (M1++[.lst xs])) E:=by
 unfold Zak;rw[Zy];congr 1;funext x M1;by_cases h:x.length<=1000
 ·rw[if_pos h];simp[h,wO]
 ·rw[if_neg h];simp[h,wO]
theorem ZpA:wO (Z9 t ρ M) Q E=wO (t ρ M) (fun k M1=>Q (!k) M1) E:=by
 unfold Z9;rw[Zy];congr 1
theorem ZpB:wS (Zv a b ρ M) N R B C E=wS (a ρ M) (fun ρ1 M1=>wS (b ρ1 M1) N R B C E) R B C E:=by
 unfold Zv;cases a ρ M<;>rfl
theorem Zag{o:Out β}{k:β->Sto->Fl}:wS (Zaf o k) N R B C E=wO o (fun x M1=>wS (k x M1) N R B C E) E:=by cases o<;>rfl
theorem ZpC:wS (ZE f ρ M) N R B C E=wO (f ρ M) R E:=Zag
theorem Znb:wS (Zcr f ρ M) N R B C E=wO (f ρ M) (fun _ M1=>N ρ M1) E:=Zag
theorem ZpD:wS (ZF (gNm i) f ρ M) N R B C E=wO (f ρ M) (fun d M1=>N (ρ.set i (some d)) M1) E:=Zag
theorem Znc:wS (ZF (gTp gs) f ρ M) N R B C E=wO (f ρ M) (fun d M1=>wG (gTp gs d ρ) (fun r=>N r M1)) E:=by
 unfold ZF;rw[Zag];congr 1;funext d M1;cases gTp gs d ρ<;>rfl
theorem ZpE:wS (Zd3 i j fs ρ M) N R B C E=wO (fs ρ M) (fun ds M1=>w2 ds fun v w=>N ((ρ.set i (some v)).set j (some w)) M1) E:=by
 unfold Zd3;rw[Zag];congr 1;funext ds M1;rcases ds with _|⟨v,_|⟨w,_|⟨z,r⟩⟩⟩<;>rfl
theorem ZpF:wS (Zfq fo fi f ρ M) N R B C E=wO (f ρ M) (fun d M1=>wO (fo ρ M1) (fun o M2=>wO (fi ρ M2) (fun i M3=>wR o fun n=>wI i fun k=>wL M3[n]? fun xs=>wG (ixN xs.length k) fun j=>N ρ (M3.set n (.lst (xs.set j d)))) E) E) E:=by
 unfold Zfq;rw[Zag];congr 1;funext d M1;rw[Zag];congr 1;funext o M2;rw[Zag];congr 1;funext i M3;cases o<;>cases i<;>try rfl
 rename_i n k;cases e:M3[n]? with
 |none=>simp only[e,wR,wI,wL,wS]
 |some s=>
  cases s with
  |lst xs=>
   cases e2:ixN xs.length k<;>simp only[e,e2,wR,wI,wL,wG,wS]
theorem ZkR:wS (Zby c fs ρ M) N R B C E=wO (fs ρ M) (fun ds M1=>ds.length<=1000/\E c M1) E:=by
 unfold Zby;rw[Zag];congr 1;funext ds M1;by_cases h:ds.length<=1000
 ·rw[if_pos h];simp[h,wS]
 ·rw[if_neg h];simp[h,wS]
theorem wF(hl:ds.length=n):wO (fnF a n k ds M) Q E=wS (a (ds.map some++aB k none) M) (fun _ M1=>Q .non M1) Q (fun _ _=>False) (fun _ _=>False) E:=by
 unfold fnF;rw[if_pos hl];cases a (ds.map some++aB k none) M<;>rfl
theorem Zjo(h:wS o N R B C E)(hn:∀ρ M,N ρ M->N' ρ M)(hr:∀d M,R d M->R' d M)(hb:∀ρ M,B ρ M->B' ρ M)(hc:∀ρ M,C ρ M->C' ρ M)(he:∀c M,E c M->E' c M):wS o N' R' B' C' E':=by
 cases o with
 |nx ρ M=>exact hn _ _ h
 |ret ρ M=>exact hr _ _ h
 |brk ρ M=>exact hb _ _ h
 |cnt ρ M=>exact hc _ _ h
 |exc ρ M=>exact he _ _ h
 |bad=>exact h
variable {tg:Tg}{bd:Sv}
theorem Zjp(I:Nat->Ro->Sto->Prop):∀(xs:List D)(k:Nat)(ρ:Ro)(M:Sto),I k ρ M->(∀i ρ M (h:i<xs.length),I (k+i) ρ M->wG (tg xs[i] ρ) fun r=>wS (bd r M) (I (k+i+1)) R N (I (k+i+1)) E)->(∀ρ M,I (k+xs.length) ρ M->N ρ M)->wS (ZhQ tg bd xs ρ M) N R B C E
 |[],k,ρ,M,h,_,hn=>hn ρ M h
 |x::xs,k,ρ,M,h,st,hn=>by
  have s:=st 0 ρ M (by simp) h
  unfold ZhQ;simp only[List.getElem_cons_zero,Nat.add_zero]at s;cases e:tg x ρ with
  |none=>rw[e]at s;exact s.elim
  |some ρ1=>
   rw[e]at s;simp only[wG]at s;have rc:∀ρ2 M2,I (k+1) ρ2 M2->wS (ZhQ tg bd xs ρ2 M2) N R B C E:=fun ρ2 M2 h2=>Zjp I xs (k+1) ρ2 M2 h2 (fun i ρ M hi hI=>by
    have z:=st (i+1) ρ M (by simp;lia) (by rw[show k+(i+1)=k+1+i by lia];exact hI)
    simp only[List.getElem_cons_succ]at z;rw[show k+(i+1)+1=k+1+i+1 by lia]at z
    exact z) (fun ρ M hI=>hn ρ M (by rw[show k+(x::xs).length=k+1+xs.length by simp;lia];exact hI))
   cases eg:bd ρ1 M<;>rw[eg]at s<;>simp only[eg]
   ·exact rc _ _ s
   ·exact s
   ·exact s
   ·exact rc _ _ s
   ·exact s
   ·exact s
theorem Znd:wS (ZaF tg fs bd ρ M) N R B C E=wO (fs ρ M) (fun ds M1=>w1 ds fun d=>wI d fun j=>(-(2^62)<=j/\j<2^62)/\wS (ZhQ tg bd (Zbu 0 j.toNat) ρ M1) N R B C E) E:=by
 unfold ZaF;rw[Zag];congr 1;funext ds M1;rcases ds with _|⟨v,_|⟨w,r⟩⟩
 ·rfl
 ·cases v<;>try rfl
  rename_i j;by_cases h: -(2^62)<=j/\j<2^62
  ·simp only[w1,wI,eq_true h,true_and,if_true]
  ·simp only[w1,wI,eq_false h,false_and,if_false];rfl
 ·cases v<;>rfl
theorem Zb0(I:Nat->Ro->Sto->Prop){lo:Int}(h0:I 0 ρ M)(st:∀i ρ M,i<n->I i ρ M->wG (tg (.int (lo+i)) ρ) fun r=>wS (bd r M) (I (i+1)) R N (I (i+1)) E)(hn:∀ρ M,I n ρ M->N ρ M):wS (ZhQ tg bd (Zbu lo n) ρ M) N R B C E:=by
 have hl:(Zbu lo n).length=n:=by simp[Zbu]
 refine Zjp I _ 0 ρ M h0 (fun i ρ M h hI=>?_) (fun ρ M hI=>hn ρ M (by rw[hl,kX]at hI;exact hI))
 have:(Zbu lo n)[i]=.int (lo+i):=by simp[Zbu]
 rw[this];rw[kX]at *;exact st i ρ M (by rw[hl]at h;exact h) hI
theorem Zne:wS (Zdw tg fi bd ρ M) N R B C E=wO (fi ρ M) (fun src M1=>wS (ZgO tg bd src (cnt src M1) 0 ρ M1) N R B C E) E:=Zag
theorem ZlL(I:Nat->Ro->Sto->Prop){src:Src}{xs:List D}:∀(f i:Nat)(ρ:Ro)(M:Sto),i<=xs.length->xs.length<=i+f->I i ρ M->(∀i ρ M,i<=xs.length->I i ρ M->nxt src i M=some xs[i]?)->(∀i ρ M (h:i<xs.length),I i ρ M->wG (tg xs[i] ρ) fun r=>wS (bd r M) (I (i+1)) R N (I (i+1)) E)->(∀ρ M,I xs.length ρ M->N ρ M)->wS (ZgO tg bd src f i ρ M) N R B C E:=by
  intro f
  induction f with
  |zero=>
   intro i ρ M le e h hm st hn;have hx:=hm _ _ _ le h;unfold ZgO;rw[hx];have hi:¬i<xs.length:=by lia
   have:xs[i]?=none:=aU (by lia)
   simp only[this];exact hn ρ M (by rw[show xs.length=i by lia];exact h)
  |succ f ih=>
   intro i ρ M le e h hm st hn;have hx:=hm _ _ _ le h;unfold ZgO;rw[hx];by_cases hi:i<xs.length
   ·have:xs[i]?=some xs[i]:=Gq hi
    simp only[this];have s:=st i ρ M hi h;cases e:tg xs[i] ρ with
    |none=>rw[e]at s;exact s.elim
    |some ρ1=>
     rw[e]at s;simp only[wG]at s;have rc:∀ρ2 M2,I (i+1) ρ2 M2->wS (ZgO tg bd src f (i+1) ρ2 M2) N R B C E:=fun ρ2 M2 h2=>ih (i+1) ρ2 M2 (by lia) (by lia) h2 hm st hn
     cases eg:bd ρ1 M<;>rw[eg]at s<;>simp only[eg]
     ·exact rc _ _ s
     ·exact s
     ·exact s
     ·exact rc _ _ s
     ·exact s
     ·exact s
   ·have:xs[i]?=none:=aU (by lia)
    simp only[this];exact hn ρ M (by rw[show xs.length=i by lia];exact h)
theorem ZkS{c:Tv}(I:Nat->Ro->Sto->Prop)(st:∀n ρ M,I n ρ M->wO (c ρ M) (fun k M1=>Br k (wS (bd ρ M1) (fun ρ2 M2=>∃m,m<n/\I m ρ2 M2) R N (fun ρ2 M2=>∃m,m<n/\I m ρ2 M2) E) (N ρ M1)) E):∀(n:Nat)(ρ:Ro)(M:Sto),I n ρ M->wS (sWh c bd ρ M) N R B C E:=by
 intro n
 induction n using jt with
 |ind n ih=>
  intro ρ M h;have s:=st n ρ M h;cases ec:c ρ M with
  |bad=>rw[ec]at s;exact s.elim
  |exc x M1=>rw[ec]at s;rw[Zc2 (n:=1) (o:=.exc x M1) (by simp only[whN,ec])];exact s
  |ok k M1=>
   rw[ec]at s;cases k with
   |false=>
    rw[Zk,Ztl]at s;rw[Zfr ec];exact s
   |true=>
    rw[Zk,Zpw]at s;cases eg:bd ρ M1 with
    |nx ρ2 M2=>
     rw[eg]at s;obtain⟨m,hm,hI⟩:=s;have r:=ih m hm ρ2 M2 hI;rw[ZgE ec eg (by intro z;rw[z]at r;exact r)]
     exact r
    |cnt ρ2 M2=>
     rw[eg]at s;obtain⟨m,hm,hI⟩:=s;have r:=ih m hm ρ2 M2 hI;have nb:sWh c bd ρ2 M2≠ .bad:=by intro z;rw[z]at r;exact r
     obtain⟨j,ej⟩:=ZiB nb;rw[Zc2 (n:=j+1) (o:=sWh c bd ρ2 M2) (by simp only[whN,ec,eg];exact ej)]
     exact r
    |brk ρ2 M2=>rw[eg]at s;rw[Zc2 (n:=1) (o:=.nx ρ2 M2) (by simp only[whN,ec,eg])];exact s
    |ret d M2=>rw[eg]at s;rw[Zc2 (n:=1) (o:=.ret d M2) (by simp only[whN,ec,eg])];exact s
    |exc d M2=>rw[eg]at s;rw[Zc2 (n:=1) (o:=.exc d M2) (by simp only[whN,ec,eg])];exact s
    |bad=>rw[eg]at s;exact s.elim
theorem Znf:wO (ZaH fi k fr tg c f ρ M) Q E=wO (fi ρ M) (fun src M1=>wO (Zez src tg c f M1.length (cnt src M1) 0 (roB k fr ρ) (M1++[.lst []])) (fun _ M2=>Q (.ref M1.length) M2) (fun _ _=>False)) E:=by
 unfold ZaH;rw[Zy];congr 1;funext src M1;cases Zez src tg c f M1.length (cnt src M1) 0 (roB k fr ρ) (M1++[.lst []])<;>rfl
theorem ZfJ(I:Nat->Ro->Sto->Prop){src:Src}{xs:List D}{c:Tv}{m:Nat}{Q:Sto->Prop}:∀(fu i:Nat)(ρ:Ro)(M:Sto),i<=xs.length->xs.length<=i+fu->I i ρ M->(∀i ρ M,i<=xs.length->I i ρ M->nxt src i M=some xs[i]?)->(∀i ρ M (h:i<xs.length),I i ρ M->wG (tg xs[i] ρ) fun r=>wO (c r M) (fun k M1=>Br k (wO (f r M1) (fun y M2=>wL M2[m]? fun ys=>ys.length<10000000/\I (i+1) r (M2.set m (.lst (ys++[y])))) (fun _ _=>False)) (I (i+1) r M1)) (fun _ _=>False))->(∀ρ M,I xs.length ρ M->Q M)->wO (Zez src tg c f m fu i ρ M) (fun _ M2=>Q M2) (fun _ _=>False):=by
  intro fu
  induction fu with
  |zero=>
   intro i ρ M le e h hm st hn;have hx:=hm _ _ _ le h;unfold Zez;rw[hx];have hi:¬i<xs.length:=by lia
   have:xs[i]?=none:=aU (by lia)
   simp only[this];exact hn ρ M (by rw[show xs.length=i by lia];exact h)
  |succ fu ih=>
   intro i ρ M le e h hm st hn;have hx:=hm _ _ _ le h;unfold Zez;rw[hx];by_cases hi:i<xs.length
   ·have:xs[i]?=some xs[i]:=Gq hi
    simp only[this];have s:=st i ρ M hi h;cases e:tg xs[i] ρ with
    |none=>rw[e]at s;exact s.elim
    |some ρ1=>
     rw[e]at s;simp only[wG]at s;have rc:∀ρ2 M2,I (i+1) ρ2 M2->wO (Zez src tg c f m fu (i+1) ρ2 M2) (fun _ M2=>Q M2) (fun _ _=>False):=fun ρ2 M2 h2=>ih (i+1) ρ2 M2 (by lia) (by lia) h2 hm st hn
     cases ec:c ρ1 M with
     |bad=>rw[ec]at s;exact s.elim
     |exc _ _=>rw[ec]at s;exact s.elim
     |ok k M1=>
      rw[ec]at s;rw[Zk]at s;cases k with
      |false=>
       rw[Ztl]at s;simp only[ec];exact rc _ _ s
      |true=>
       rw[Zpw]at s;simp only[ec];cases ef:f ρ1 M1 with
       |bad=>rw[ef]at s;exact s.elim
       |exc _ _=>rw[ef]at s;exact s.elim
       |ok y M2=>
        rw[ef,Zk]at s;simp only[ef];cases ey:M2[m]? with
        |none=>rw[ey]at s;exact s.elim
        |some o=>
         cases o with
         |lst ys=>
          rw[ey]at s;simp only[wL,ey]at s ⊢;rw[if_pos s.1];exact rc _ _ s.2
   ·have:xs[i]?=none:=aU (by lia)
    simp only[this];exact hn ρ M (by rw[show xs.length=i by lia];exact h)
end
end DL
namespace DL
open PyProof.Rows L2
section
variable {M:Sto}{n k:Nat}{lo hi:Ro->Sto->Out (Option Int)}
theorem ZfK(h: -(18446744073709551616)<i/\i<18446744073709551616):ZL i j:=ZdD h.1 h.2
theorem ZeP(h: -(18446744073709551616)<j/\j<18446744073709551616):ZL i j:=Za3 h.1 h.2
theorem Zc4(h:0<j/\j<18446744073709551616):Zae j:=by
 refine⟨by lia,?_⟩
 have:j.natAbs.log2<64:=(iI (by lia)).mpr (by lia)
 lia
theorem ZrS:wO (dAdd (.int i) (.int j) M) Q E=Q (.int (i+j)) M:=rfl
theorem ZrT:wO (dSub (.int i) (.int j) M) Q E=Q (.int (i-j)) M:=rfl
theorem ZlM(h:ZL i j):wO (dMul (.int i) (.int j) M) Q E=Q (.int (i*j)) M:=by
 show wO (if ZL i j then _ else _) Q E=_
 rw[if_pos h];rfl
theorem ZrU(h: -(18446744073709551616)<i/\i<18446744073709551616):wO (dMul (.int i) (.int j) M) Q E=Q (.int (i*j)) M:=ZlM (ZfK h)
theorem ZpG(h: -(18446744073709551616)<j/\j<18446744073709551616):wO (dMul (.int i) (.int j) M) Q E=Q (.int (i*j)) M:=ZlM (ZeP h)
theorem ZrV(h:0<j/\j<18446744073709551616):wO (dDiv (.int i) (.int j) M) Q E=Q (.int (i/j)) M:=by
 show wO (if Zae j then _ else _) Q E=_
 rw[if_pos (Zc4 h),fJ _ (by lia)];rfl
theorem ZrW(h:0<j):wO (dMod (.int i) (.int j) M) Q E=Q (.int (i%j)) M:=by
 show wO (if j≠0 then _ else _) Q E=_
 rw[if_pos (by lia),ce _ (by lia)];rfl
theorem ZrX(h:0<=j/\j<=1000000/\i.natAbs<18446744073709551616):wO (dPow (.int i) (.int j) M) Q E=Q (.int (i^j.toNat)) M:=by
 show wO (if 0<=j/\j<=1000000/\i.natAbs<2^64 then _ else _) Q E=_
 rw[if_pos ⟨h.1,h.2.1,by lia⟩];rfl
theorem Zuv:wO (dLt (.int i) (.int j) M) Q E=Q (.bl (decide (i<j))) M:=rfl
theorem Zuw:wO (dLe (.int i) (.int j) M) Q E=Q (.bl (decide (i<=j))) M:=rfl
theorem Zux:wO (dGt (.int i) (.int j) M) Q E=Q (.bl (decide (j<i))) M:=rfl
theorem Zuy:wO (dGe (.int i) (.int j) M) Q E=Q (.bl (decide (j<=i))) M:=rfl
theorem ZrY:wO (dAdd (.ref n) (.ref m) M) Q E=wL M[n]? fun xs=>wL M[m]? fun ys=>xs.length+ys.length<=10000000/\Q (.ref M.length) (M++[.lst (xs++ys)]):=by
 show wO (match M[n]?,M[m]? with|some (.lst xs),some (.lst ys)=>_|_,_=>_) Q E=_
 cases e1:M[n]? with
 |none=>rfl
 |some o=>
  cases o with
  |lst xs=>
   cases e2:M[m]? with
   |none=>rfl
   |some p=>
    cases p with
    |lst ys=>
     by_cases h:xs.length+ys.length<=10000000
     ·simp[wL,h,wO]
     ·simp[wL,h,wO]
theorem Zuz:wO (dEq x y M) Q E=wG (eqF 12 M x y) fun b=>Q (.bl b) M:=by
 show wO (match eqF 12 M x y with|some b=>_|none=>_) Q E=_
 cases eqF 12 M x y<;>rfl
theorem ZuA:wO (dNe x y M) Q E=wG (eqF 12 M x y) fun b=>Q (.bl (!b)) M:=by
 show wO (match eqF 12 M x y with|some b=>_|none=>_) Q E=_
 cases eqF 12 M x y<;>rfl
theorem ZrZ:wO (dIsNot x y M) Q E=wG (isP x y) fun b=>Q (.bl (!b)) M:=by
 show wO (match isP x y with|some b=>_|none=>_) Q E=_
 cases isP x y<;>rfl
theorem ZpH:wO (atD xs i M) Q E=wG (atI xs i) fun d=>Q d M:=by
 unfold atD;cases atI xs i<;>rfl
theorem Zr0:wO (dIx (.tup xs) (.int i) M) Q E=wG (atI xs i) fun d=>Q d M:=ZpH
theorem Zr1:wO (dIx (.ref n) (.int i) M) Q E=wL M[n]? fun xs=>wG (atI xs i) fun d=>Q d M:=by
 show wO (match M[n]? with|some (.lst xs)=>atD xs i M|_=>.bad) Q E=_
 cases e1:M[n]? with
 |none=>rfl
 |some o=>cases o with|lst xs=>exact ZpH
theorem ZpI:wO (bLen [.ref n] M) Q E=wL M[n]? fun xs=>Q (.int xs.length) M:=by
 show wO (match(match M[n]? with|some (.lst xs)=>some xs|_=>none)with|some xs=>_|none=>_) Q E=_
 cases e1:M[n]? with
 |none=>rfl
 |some o=>cases o with|lst xs=>rfl
theorem ZpJ:wO (bLen [.tup xs] M) Q E=Q (.int xs.length) M:=rfl
theorem ZpK:wO (bLen [.rol xs] M) Q E=Q (.int xs.length) M:=rfl
theorem Zr2:wO (bAbs [.int i] M) Q E=Q (.int (i.natAbs:Int)) M:=by rw[<-Zjm];rfl
theorem Zr3:wO (bMax [.int i,.int j] M) Q E=Q (.int (max i j)) M:=by
 have:max i j=if j>i then j else i:=by split<;>lia
 rw[this];rfl
theorem Zr4:wO (bMin [.int i,.int j] M) Q E=Q (.int (min i j)) M:=by
 have:min i j=if j<i then j else i:=by split<;>lia
 rw[this];rfl
theorem ZpL{k:Bool}:wO (bInt [.bl k] M) Q E=Q (.int (if k then 1 else 0)) M:=rfl
theorem ZpM:wO (bInt [.int i] M) Q E=Q (.int i) M:=rfl
theorem Zng:wO (bList [.ref n] M) Q E=wL M[n]? fun xs=>Q (.ref M.length) (M++[.lst xs]):=by
 show wO (match(match M[n]? with|some (.lst xs)=>some xs|_=>none)with|some xs=>_|none=>_) Q E=_
 cases e1:M[n]? with
 |none=>rfl
 |some o=>cases o with|lst xs=>rfl
theorem Znh:wO (bList [.tup xs] M) Q E=Q (.ref M.length) (M++[.lst xs]):=rfl
theorem Zr5:wO (bAll [.ref n] M) Q E=wL M[n]? fun xs=>wG (Zaz xs) fun bs=>Q (.bl (bs.all id)) M:=by
 show wO (match M[n]? with|some (.lst xs)=>(match Zaz xs with|some bs=>Out.ok (.bl (bs.all id)) M|none=>.bad)|none=>.bad) Q E=_
 cases e1:M[n]? with
 |none=>rfl
 |some o=>
  cases o with
  |lst xs=>
   show wO (match Zaz xs with|some bs=>Out.ok (.bl (bs.all id)) M|none=>.bad) Q E=wG (Zaz xs) _
   cases Zaz xs<;>rfl
theorem ZuB:wO (ZmO g fo fs ρ M) Q E=wO (fo ρ M) (fun x M1=>ZmN x M1=true/\wO (fs ρ M1) (fun ds M2=>wO (g x ds M2) Q E) E) E:=by
 unfold ZmO;rw[Zy];congr 1;funext x M1;by_cases h:ZmN x M1=true
 ·simp only[h,if_true,true_and];rw[Zy]
 ·simp[h,wO]
theorem ZpN:ZmN (.ref n) M=M[n]?.isSome:=rfl
theorem Zr6:wO (mApp (.ref n) [d] M) Q E=wL M[n]? fun xs=>xs.length<10000000/\Q .non (M.set n (.lst (xs++[d]))):=by
 show wO (match M[n]? with|some (.lst xs)=>if xs.length<10000000 then _ else _|none=>_) Q E=_
 cases e1:M[n]? with
 |none=>rfl
 |some o=>
  cases o with
  |lst xs=>
   by_cases h:xs.length<10000000
   ·simp[wL,h,wO]
   ·simp[wL,h,wO]
def slR(x:D)(l u:Option Int)(M3:Sto):Out D:=match x with
 |.ref n=>(match M3[n]? with|some (.lst xs)=>.ok (.ref M3.length) (M3++[.lst (Zf7 xs l u)])|none=>.bad)
 |.rol xs=>.ok (.ref M3.length) (M3++[.lst (Zf7 xs l u)])
 |.tup xs=>if HT.sIx xs.length 0 l=0/\HT.sIx xs.length xs.length u=xs.length then .bad else .ok (.tup (Zf7 xs l u)) M3
 |_=>.bad
theorem Zr7:wO (eSl f lo hi ρ M) Q E=wO (f ρ M) (fun x M1=>wO (lo ρ M1) (fun l M2=>wO (hi ρ M2) (fun u M3=>wO (slR x l u M3) Q E) E) E) E:=by
 unfold eSl;rw[Zy];congr 1;funext x M1;rw[Zy];congr 1;funext l M2;rw[Zy];congr 1
theorem Zr8:wO (slR (.ref n) l u M) Q E=wL M[n]? fun xs=>Q (.ref M.length) (M++[.lst (Zf7 xs l u)]):=by
 unfold slR;cases e1:M[n]? with
 |none=>simp only[e1];rfl
 |some o=>cases o with|lst xs=>simp only[e1];rfl
theorem Zr9:wO (oSo f ρ M) Q E=wO (f ρ M) (fun x M1=>wI x fun i=>Q (some i) M1) E:=by
 unfold oSo;rw[Zy];congr 1;funext x M1;cases x<;>rfl
theorem ZpO(h:0<=i):Zf7 xs none (some i)=xs.take i.toNat:=by
 unfold Zf7;simp only[HT.sIx];rw[if_neg (by lia),jN,Nat.sub_zero]
 by_cases c:i.toNat<=xs.length
 ·rw[Nat.min_eq_left c]
 ·rw[Nat.min_eq_right (by lia),bp (au _),bp (by lia)]
theorem ZkT(h:0<=i):Zf7 xs (some i) none=xs.drop i.toNat:=by
 unfold Zf7;simp only[HT.sIx];rw[if_neg (by lia)]
 by_cases c:i.toNat<=xs.length
 ·rw[Nat.min_eq_left c,bp (by simp)]
 ·rw[Nat.min_eq_right (by lia),a8 (au _),a8 (by lia),List.take_nil]
theorem ZkU{L:Sto}:(M++L)[M.length]?=L[0]?:=by rw[aM (au _),fM]
theorem Zg2{L:Sto}:(M++L)[M.length+i]?=L[i]?:=by rw[aM (by lia)];congr 1;lia
theorem Zbg{L:Sto}(h:n<M.length):(M++L)[n]?=M[n]?:=aH h
theorem ZlN{L:Sto}:(M++L).set M.length o=M++L.set 0 o:=by rw[List.set_append_right _ _ (au _),fM]
theorem ZpP(h:k≠n):(M.set n o)[k]?=M[k]?:=aG (bJ h)
theorem ZpQ(h:n<M.length):(M.set n o)[n]?=some o:=aP h
theorem ZM(h:M[n]?=some o):n<M.length:=(aj.mp h).1
noncomputable abbrev pr(x y:Int):D:=.tup [.int x,.int y]
def prs(rs:List (Int×Int)):List D:=rs.map fun p=>pr p.1 p.2
def nts(ns:List Int):List D:=ns.map D.int
theorem ZC:(prs rs).length=rs.length:=ae _
theorem ZbA:(nts rs).length=rs.length:=ae _
theorem Zni:prs a++prs b=prs (a++b):=(cC).symm
theorem ZkV:(prs a).take n=prs (a.take n):=List.map_take.symm
theorem ZkW:(prs a).drop n=prs (a.drop n):=List.map_drop.symm
theorem ZkX:pr a b::prs r=prs ((a,b)::r):=rfl
noncomputable def cy(rs:List (Int×Int))(i:Int):Int×Int:=rs.getD (i%rs.length).toNat (0,0)
noncomputable def cn(rs:List Int)(i:Int):Int:=rs.getD (i%rs.length).toNat 0
theorem ZlO{n:Nat}(h: -(n:Int)<=i/\i<n):ixN n i=some (i%n).toNat:=by
 unfold ixN;by_cases c:0<=i
 ·rw[if_pos c,if_pos h.2,fk c h.2]
 ·rw[if_neg c,if_pos h.1]
  have:i%n=i+n:=by
   rw[<-Int.add_emod_right,fk (by lia) (by lia)]
  rw[this]
theorem ZdE(h: -(rs.length:Int)<=i/\i<rs.length):atI (prs rs) i=some (pr (cy rs i).1 (cy rs i).2):=by
 unfold atI;rw[ZC,ZlO h];have hp:(i%rs.length).toNat<rs.length:=by
  have:=dG i (show(0:Int)<rs.length by lia)
  have:=eU i (show(rs.length:Int)≠0 by lia)
  lia
 simp[prs,cy,aq hp]
theorem Zc5:cy rs (i%rs.length)=cy rs i:=by unfold cy;rw[jQ _ (Int.dvd_refl _)]
theorem Zg3:cy rs (i+rs.length)=cy rs i:=by unfold cy;rw[Int.add_emod_right]
theorem ZfL:cy rs (i-rs.length)=cy rs i:=by unfold cy;rw[Int.sub_emod_right]
theorem Zjq{rs:List (Int×Int)}{k:Nat}(h:k<rs.length):cy rs k=rs[k]:=by
 unfold cy;rw[fk (by lia) (by lia)]
 simp[aq h]
theorem ZfM:eqF (n+1) M (.int a) (.int b)=some (decide (a=b)):=rfl
theorem ZuC:eqF (n+1) M (.bl a) (.bl b)=some (a==b):=rfl
theorem Zrg:eqF (n+2) M (pr a b) (pr c d)=some (decide ((a,b)=(c,d))):=by
 show some ((a==c)&&((b==d)&&true))=_;congr 1;rw[eQ];simp
theorem ZlP:eqL (eqF (n+2) M) (prs rs) (prs ss)=some (decide (rs=ss)):=by
 induction rs generalizing ss with
 |nil=>cases ss<;>rfl
 |cons r rs ih=>
  cases ss with
  |nil=>rfl
  |cons s ss=>
   show(match eqF (n+2) M (pr r.1 r.2) (pr s.1 s.2)with|some a=>(match eqL _ (prs rs) (prs ss)with|some b=>some (a&&b)|none=>none)|none=>none)=_
   rw[Zrg,ih];simp only[];congr 1;rw[eQ];obtain⟨r1,r2⟩:=r;obtain⟨s1,s2⟩:=s;simp
theorem ZpR:eqL (eqF (n+1) M) (nts rs) (nts ss)=some (decide (rs=ss)):=by
 induction rs generalizing ss with
 |nil=>cases ss<;>rfl
 |cons r rs ih=>
  cases ss with
  |nil=>rfl
  |cons s ss=>
   show(match eqF (n+1) M (.int r) (.int s)with|some a=>(match eqL _ (nts rs) (nts ss)with|some b=>some (a&&b)|none=>none)|none=>none)=_
   rw[ZfM,ih];simp only[];congr 1;rw[eQ];simp
theorem ZkY(h1:M[n]?=some (.lst xs))(h2:M[m]?=some (.lst ys)):eqF (k+1) M (.ref n) (.ref m)=if xs.length=ys.length then eqL (eqF k M) xs ys else some false:=by
 show(match kd M (.ref n),kd M (.ref m)with|some a,some b=>eqK (eqF k M) a b|_,_=>none)=_
 have e1:kd M (.ref n)=some (.lst xs):=by show(match M[n]? with|some (.lst xs)=>some (Kd.lst xs)|_=>none)=_;rw[h1]
 have e2:kd M (.ref m)=some (.lst ys):=by show(match M[m]? with|some (.lst xs)=>some (Kd.lst xs)|_=>none)=_;rw[h2]
 rw[e1,e2];rfl
theorem Zsa(h1:M[n]?=some (.lst (nts rs)))(h2:M[m]?=some (.lst (nts ss))):eqF 12 M (.ref n) (.ref m)=some (decide (rs=ss)):=by
 rw[ZkY h1 h2,ZbA,ZbA];by_cases c:rs.length=ss.length
 ·rw[if_pos c,ZpR]
 ·rw[if_neg c];congr 1
  symm
  exact decide_eq_false fun z=>c (by rw[z])
theorem ZpS:ZO M (.int i)=some "int":=rfl
theorem Zsb:ZO M (.bl b)=some "bool":=rfl
theorem ZpT:ZO M (.tup xs)=some "tuple":=rfl
theorem ZpU:ZO M .non=some "NoneType":=rfl
end
end DL
namespace DL
open PyProof.Rows L2
section
variable {f:Ev}{xs:List D}
theorem ZuD:wO (iR1 fs ρ M) QS E=wO (fs ρ M) (fun ds M1=>w1 ds fun d=>wI d fun j=>(-(2^62)<=j/\j<2^62)/\QS (.pur (Zbu 0 j.toNat)) M1) E:=by
 unfold iR1;rw[Zy];congr 1;funext ds M1;rcases ds with _|⟨v,_|⟨w,r⟩⟩
 ·rfl
 ·cases v<;>try rfl
  rename_i j;by_cases h: -(2^62)<=j/\j<2^62
  ·simp only[w1,wI,eq_true h,true_and,if_true,Zk]
  ·simp only[w1,wI,eq_false h,false_and,if_false];rfl
 ·cases v<;>rfl
theorem ZuE:wO (iEn fs ρ M) QS E=wO (fs ρ M) (fun ds M1=>w1 ds fun d=>wR d fun n=>QS (.enu n) M1) E:=by
 unfold iEn;rw[Zy];congr 1;funext ds M1;rcases ds with _|⟨v,_|⟨w,r⟩⟩<;>try rfl
 ·cases v<;>rfl
 ·cases v<;>rfl
noncomputable def ZpV(Q:W0)(ρ:Ro)(M:Sto):Prop:=Q .non M
theorem wF1:wO (fnF bd 1 k [x] M) Q E=wS (bd (some x::aB k none) M) (ZpV Q) Q (fun _ _=>False) (fun _ _=>False) E:=wF rfl
theorem wF2:wO (fnF bd 2 k [x,y] M) Q E=wS (bd (some x::some y::aB k none) M) (ZpV Q) Q (fun _ _=>False) (fun _ _=>False) E:=wF rfl
theorem wF3:wO (fnF bd 3 k [x,y,z] M) Q E=wS (bd (some x::some y::some z::aB k none) M) (ZpV Q) Q (fun _ _=>False) (fun _ _=>False) E:=wF rfl
theorem ZkZ:prs a++[pr b c]=prs (a++[(b,c)]):=by simp[prs]
theorem Zk0:nts a++[D.int b]=nts (a++[b]):=by simp[nts]
theorem Zk1:D.int b::nts r=nts (b::r):=rfl
theorem Zsc:isP .non .non=some true:=rfl
theorem Zsd:isP (.int i) .non=some false:=rfl
theorem Zse:isP (.tup xs) .non=some false:=rfl
theorem Zsf:isP (.ref n) .non=some false:=rfl
theorem Zgc(h:M[n]?=some (.lst xs)):cnt (.sto n) M=xs.length:=by show(match M[n]? with|some (.lst xs)=>xs.length|none=>0)=_;rw[h]
theorem Zjr(h:M[n]?=some (.lst xs)):cnt (.enu n) M=xs.length:=by show(match M[n]? with|some (.lst xs)=>xs.length|none=>0)=_;rw[h]
theorem at2{r:List D}:atI (x::y::z::r) 2=some z:=by
 show(ixN (r.length+3) 2).bind _=_;unfold ixN;rw[if_pos (by decide),if_pos (by lia)]
 rfl
theorem ZpW:Zbs "int" "int"=true:=rfl
theorem ZpX:Zbs "int" "bool"=false:=rfl
theorem ZpY:Zbs "bool" "int"=true:=rfl
theorem ZpZ:Zbs "bool" "bool"=true:=rfl
theorem Zp0:Zbs "tuple" "tuple"=true:=rfl
theorem Zp1:Zbs "list" "list"=true:=rfl
theorem Zp2:Zbs "tuple" "int"=false:=rfl
theorem Zp3:Zbs "tuple" "list"=false:=rfl
theorem Zp4:Zbs "list" "tuple"=false:=rfl
theorem Zp5:Zbs "list" "int"=false:=rfl
theorem Zp6:Zbs "NoneType" "tuple"=false:=rfl
theorem Zp7:Zbs "NoneType" "list"=false:=rfl
theorem ZlQ(h:M[n]?=some (.lst xs)):nxt (.enu n) k M=some ((xs[k]?).map fun d=>D.tup [.int k,d]):=by
 show(match M[n]? with|some (.lst xs)=>(match xs[k]? with|some x=>some (some (D.tup [.int k,x]))|none=>some none)|none=>none)=_
 rw[h];simp only[];cases xs[k]?<;>rfl
theorem Zjs(h:M[n]?=some (.lst xs)):nxt (.sto n) k M=some xs[k]?:=by
 show(match M[n]? with|some (.lst xs)=>some xs[k]?|none=>none)=_
 rw[h]
theorem Zei(I:Nat->Ro->Sto->Prop)(hM:M[n]?=some (.lst xs))(h0:I 0 ρ M)(hm:∀i ρ M,I i ρ M->M[n]?=some (.lst xs))(st:∀(i:Nat) ρ M (h:i<xs.length),I i ρ M->wG (tg (.tup [.int i,xs[i]]) ρ) fun r=>wS (bd r M) (I (i+1)) R N (I (i+1)) E)(hn:∀ρ M,I xs.length ρ M->N ρ M):wS (ZgO tg bd (.enu n) (cnt (.enu n) M) 0 ρ M) N R B C E:=by
 rw[Zjr hM];have hl:(xs.mapIdx fun(k:Nat) d=>D.tup [.int k,d]).length=xs.length:=by simp
 refine ZlL I (xs:=xs.mapIdx fun(k:Nat) d=>D.tup [.int k,d]) _ 0 ρ M (by simp) (by simp) h0 (fun i ρ M _ hI=>?_) (fun i ρ M h hI=>?_) (fun ρ M hI=>hn ρ M (by rw[hl]at hI;exact hI))
 ·rw[ZlQ (hm _ _ _ hI),jR]
 ·rw[ku];exact st i ρ M (by rw[hl]at h;exact h) hI
theorem Znj(Inv:Ro->Prop)(F:Nat->D){Q:Sto->Prop}(hl:xs.length<10000000)(hcnt:xs.length<=cnt src M)(h0:Inv ρ)(hs:∀(L:Sto)(i:Nat),i<=xs.length->nxt src i (M++L)=some xs[i]?)(st:∀(i:Nat)(h:i<xs.length)(ρ:Ro)(L:Sto),Inv ρ->wG (tg xs[i] ρ) fun r=>Inv r/\wO (f r (M++L)) (fun y M2=>y=F i/\M2=M++L) (fun _ _=>False))(hq:Q (M++[.lst ((aJ xs.length).map F)])):wO (Zez src tg (fun _ M=>.ok true M) f M.length (cnt src M) 0 ρ (M++[.lst []])) (fun _ M2=>Q M2) (fun _ _=>False):=by
 refine ZfJ (fun i ρ M'=>Inv ρ/\M'=M++[.lst ((aJ i).map F)]) (xs:=xs) _ 0 ρ _ (by simp) (by lia) ⟨h0,rfl⟩ (fun i ρ M' hi hI=>by rw[hI.2];exact hs _ i hi) (fun i ρ M' h hI=>?_) (fun ρ M' hI=>by rw[hI.2];exact hq)
 obtain⟨hI,rfl⟩:=hI;have s:=st i h ρ [.lst ((aJ i).map F)] hI;cases e:tg xs[i] ρ with
 |none=>rw[e]at s;exact s.elim
 |some r=>
  rw[e]at s;obtain⟨hr,s⟩:=s;show Br true _ _;rw[Zpw];refine Zb7 s (fun y M2 ⟨h1,h2⟩=>?_) (fun _ _ z=>z);subst h1 h2;rw[ZkU];refine⟨by simp;lia,hr,?_⟩
  rw[ZlN,fY,cC];rfl
theorem Zjt{lo:Int}:(Zbu lo n).length=n:=by simp[Zbu]
theorem Znk{lo:Int}(h:k<(Zbu lo n).length):(Zbu lo n)[k]=.int (lo+k):=by simp[Zbu]
theorem Zk2{F G:Nat->Int}:(aJ n).map (fun i=>pr (F i) (G i))=prs ((aJ n).map fun i=>(F i,G i)):=by simp[prs]
end
end DL
namespace DL
open PyProof.Rows L2
section
variable {E:W2}{N B C:W1}{R:W0}{ρ:Ro}{M:Sto}{f:Ev}{xs:List D}{a bd:Sv}
def kU{β:Type}(u:β->Sto->Out γ)(Q:γ->Sto->Prop)(E:W2)(x:β)(M:Sto):Prop:=wO (u x M) Q E
noncomputable def kQ{β γ:Type}(Q:γ->Sto->Prop)(c:β->γ)(M:Sto)(x:β):Prop:=Q (c x) M
def kB2(op:Bo)(x:D)(Q:W0)(E:W2)(y:D)(M:Sto):Prop:=wO (op x y M) Q E
def kB1(op:Bo)(g:Ev)(ρ:Ro)(Q:W0)(E:W2)(x:D)(M:Sto):Prop:=wO (g ρ M) (kB2 op x Q E) E
theorem ZuF:wO (e2 op f g ρ M) Q E=wO (f ρ M) (kB1 op g ρ Q E) E:=ZrR
theorem y_c:wO (eC d ρ M) Q E=Q d M:=rfl
theorem y_v:wO (Zg k ρ M) Q E=wV ρ[k]? (kQ Q id M):=Zuu
theorem Zp8:wO (Zj F fs ρ M) Q E=wO (fs ρ M) (kU F Q E) E:=Zm9
noncomputable def kA2(x:D)(Q:List D->Sto->Prop)(xs:List D)(M:Sto):Prop:=Q (x::xs) M
def kA1(fs:Av)(ρ:Ro)(Q:List D->Sto->Prop)(E:W2)(x:D)(M:Sto):Prop:=wO (fs ρ M) (kA2 x Q) E
theorem Zsg:wO (aNil ρ M) QL E=QL [] M:=rfl
theorem Zp9:wO (Zc f fs ρ M) QL E=wO (f ρ M) (kA1 fs ρ QL E) E:=Zna
noncomputable def kTu(Q:W0)(xs:List D)(M:Sto):Prop:=xs.length<=1000/\Q (.tup xs) M
noncomputable def kLs(Q:W0)(xs:List D)(M:Sto):Prop:=xs.length<=1000/\Q (.ref M.length) (M++[.lst xs])
theorem Zsh:wO (Z6 fs ρ M) Q E=wO (fs ρ M) (kTu Q) E:=Zpy
theorem Zsi:wO (Zak fs ρ M) Q E=wO (fs ρ M) (kLs Q) E:=Zpz
noncomputable def Ztm(x:D)(M:Sto):Out D:=match x with|.int i=>.ok (.int (-i)) M|_=>.bad
theorem Zsj:wO (Zfa f ρ M) Q E=wO (f ρ M) (kU Ztm Q E) E:=by unfold Zfa;exact Zy
theorem Zqa:wO (Ztm (.int i) M) Q E=Q (.int (-i)) M:=rfl
def Zsk(T:String)(x:D)(M:Sto):Out D:=match ZO M x with|some t=>.ok (.bl (Zbs t T)) M|none=>.bad
theorem Zsl:wO (Zd2 T f ρ M) Q E=wO (f ρ M) (kU (Zsk T) Q E) E:=by unfold Zd2;exact Zy
def kTy(T:String)(Q:W0)(M:Sto)(t:String):Prop:=Q (.bl (Zbs t T)) M
theorem Zqb:wO (Zsk T x M) Q E=wG (ZO M x) (kTy T Q M):=by unfold Zsk;cases ZO M x<;>rfl
noncomputable def tC(b:Bool):Tv:=fun _ M=>.ok b M
def BrO(k:Bool)(f g:Ro->Sto->Out β)(ρ:Ro)(M:Sto)(Q:β->Sto->Prop)(E:W2):Prop:=wO ((if k=true then f else g) ρ M) Q E
theorem ZuG{fO gO:Ro->Sto->Out β}{QO:β->Sto->Prop}:BrO true fO gO ρ M QO E=wO (fO ρ M) QO E:=rfl
theorem ZuH{fO gO:Ro->Sto->Out β}{QO:β->Sto->Prop}:BrO false fO gO ρ M QO E=wO (gO ρ M) QO E:=rfl
theorem brO{β:Type}{fO gO:Ro->Sto->Out β}{QO:β->Sto->Prop}{p:Prop}[Decidable p](h1:p->wO (fO ρ M) QO E)(h2:¬p->wO (gO ρ M) QO E):BrO (decide p) fO gO ρ M QO E:=by
 by_cases h:p
 ·rw[decide_eq_true h];exact h1 h
 ·rw[decide_eq_false h];exact h2 h
theorem Zrh{β:Type}{fO gO:Ro->Sto->Out β}{QO:β->Sto->Prop}{p:Prop}[Decidable p](h1:¬p->wO (fO ρ M) QO E)(h2:p->wO (gO ρ M) QO E):BrO (!decide p) fO gO ρ M QO E:=by
 by_cases h:p
 ·rw[decide_eq_true h];exact h2 h
 ·rw[decide_eq_false h];exact h1 h
theorem ZhF{fO gO:Ro->Sto->Out β}{QO:β->Sto->Prop}(P:β->Sto->Prop)(h:BrO b fO gO ρ M P E)(hn:∀x M,P x M->QO x M):BrO b fO gO ρ M QO E:=by
 cases b
 ·exact Zb7 h hn (fun _ _ z=>z)
 ·exact Zb7 h hn (fun _ _ z=>z)
def kIf(f g:Ev)(ρ:Ro)(Q:W0)(E:W2)(k:Bool)(M:Sto):Prop:=BrO k f g ρ M Q E
theorem ZuI:wO (eIf t f g ρ M) Q E=wO (t ρ M) (kIf f g ρ Q E) E:=by unfold eIf;rw[Zy];congr 1;funext k M1;cases k<;>rfl
def Ztn(g:Ev)(ρ:Ro)(x:D)(M:Sto):Out D:=match x with|.bl k=>if k=true then g ρ M else .ok (.bl false) M|_=>.bad
def oOr(g:Ev)(ρ:Ro)(x:D)(M:Sto):Out D:=match x with|.bl k=>if k=true then .ok (.bl true) M else g ρ M|_=>.bad
def Zto(x:D)(M:Sto):Out D:=match x with|.bl k=>.ok (.bl (!k)) M|_=>.bad
def oTv(x:D)(M:Sto):Out Bool:=match x with|.bl k=>.ok k M|_=>.bad
theorem Zsm:wO (Zav f g ρ M) Q E=wO (f ρ M) (kU (Ztn g ρ) Q E) E:=by unfold Zav;exact Zy
theorem ZuJ:wO (ZhP f g ρ M) Q E=wO (f ρ M) (kU (oOr g ρ) Q E) E:=by unfold ZhP;exact Zy
theorem Zsn:wO (ZcJ f ρ M) Q E=wO (f ρ M) (kU Zto Q E) E:=by unfold ZcJ;exact Zy
theorem Zqc:wO (Ztn g ρ (.bl b) M) Q E=BrO b g (eC (.bl false)) ρ M Q E:=by cases b<;>rfl
theorem Zso:wO (oOr g ρ (.bl b) M) Q E=BrO b (eC (.bl true)) g ρ M Q E:=by cases b<;>rfl
theorem Zqd:wO (Zto (.bl b) M) Q E=Q (.bl (!b)) M:=rfl
theorem ZuK:wO (tv f ρ M) QB E=wO (f ρ M) (kU oTv QB E) E:=by unfold tv;exact Zy
theorem Zsp:wO (oTv (.bl b) M) QB E=QB b M:=rfl
def kTA(u:Tv)(ρ:Ro)(Q:Bool->Sto->Prop)(E:W2)(k:Bool)(M:Sto):Prop:=BrO k u (tC false) ρ M Q E
def kTO(u:Tv)(ρ:Ro)(Q:Bool->Sto->Prop)(E:W2)(k:Bool)(M:Sto):Prop:=BrO k (tC true) u ρ M Q E
noncomputable def kTN(Q:Bool->Sto->Prop)(k:Bool)(M:Sto):Prop:=Q (!k) M
theorem ZuL:wO (tC b ρ M) QB E=QB b M:=rfl
theorem Zqe:wO (Zar t u ρ M) QB E=wO (t ρ M) (kTA u ρ QB E) E:=by unfold Zar;rw[Zy];congr 1;funext k M1;cases k<;>rfl
theorem Zsq:wO (Zb4 t u ρ M) QB E=wO (t ρ M) (kTO u ρ QB E) E:=by unfold Zb4;rw[Zy];congr 1;funext k M1;cases k<;>rfl
theorem Zqf:wO (Z9 t ρ M) QB E=wO (t ρ M) (kTN QB) E:=ZpA
def kSq(b:Sv)(N:W1)(R:W0)(B C:W1)(E:W2)(ρ:Ro)(M:Sto):Prop:=wS (b ρ M) N R B C E
theorem Zsr:wS (Zv a bd ρ M) N R B C E=wS (a ρ M) (kSq bd N R B C E) R B C E:=ZpB
theorem Zqg:wS (sNil ρ M) N R B C E=N ρ M:=rfl
theorem Zss:wS (ZE f ρ M) N R B C E=wO (f ρ M) R E:=ZpC
theorem Zqh:wS (Zeu ρ M) N R B C E=R .non M:=rfl
noncomputable def kDr(ρ:Ro)(N:W1)(d:D)(M:Sto):Prop:=N ρ M
theorem Zqi:wS (Zcr f ρ M) N R B C E=wO (f ρ M) (kDr ρ N) E:=Znb
def BrS(k:Bool)(a b:Sv)(ρ:Ro)(M:Sto)(N:W1)(R:W0)(B C:W1)(E:W2):Prop:=wS ((if k=true then a else b) ρ M) N R B C E
theorem ZuM:BrS true a bd ρ M N R B C E=wS (a ρ M) N R B C E:=rfl
theorem ZuN:BrS false a bd ρ M N R B C E=wS (bd ρ M) N R B C E:=rfl
theorem brS{p:Prop}[Decidable p](h1:p->wS (a ρ M) N R B C E)(h2:¬p->wS (bd ρ M) N R B C E):BrS (decide p) a bd ρ M N R B C E:=by
 by_cases h:p
 ·rw[decide_eq_true h];exact h1 h
 ·rw[decide_eq_false h];exact h2 h
theorem Ztp{p:Prop}[Decidable p](h1:¬p->wS (a ρ M) N R B C E)(h2:p->wS (bd ρ M) N R B C E):BrS (!decide p) a bd ρ M N R B C E:=by
 by_cases h:p
 ·rw[decide_eq_true h];exact h2 h
 ·rw[decide_eq_false h];exact h1 h
theorem Znl(h1:b=true->wS (a ρ M) N R B C E)(h2:b=false->wS (bd ρ M) N R B C E):BrS b a bd ρ M N R B C E:=by
 cases b
 ·exact h2 rfl
 ·exact h1 rfl
theorem ZnT(P:W1)(h:BrS b a bd ρ M P R B C E)(hn:∀ρ M,P ρ M->N ρ M):BrS b a bd ρ M N R B C E:=by
 cases b
 ·exact Zjo h hn (fun _ _ z=>z) (fun _ _ z=>z) (fun _ _ z=>z) (fun _ _ z=>z)
 ·exact Zjo h hn (fun _ _ z=>z) (fun _ _ z=>z) (fun _ _ z=>z) (fun _ _ z=>z)
def kSi(a b:Sv)(ρ:Ro)(N:W1)(R:W0)(B C:W1)(E:W2)(k:Bool)(M:Sto):Prop:=BrS k a b ρ M N R B C E
theorem Zst:wS (sIf t a bd ρ M) N R B C E=wO (t ρ M) (kSi a bd ρ N R B C E) E:=by unfold sIf;rw[Zag];congr 1;funext k M1;cases k<;>rfl
noncomputable def kAs(i:Nat)(ρ:Ro)(N:W1)(d:D)(M:Sto):Prop:=N (ρ.set i (some d)) M
theorem Zsu:wS (ZF (gNm k) f ρ M) N R B C E=wO (f ρ M) (kAs k ρ N) E:=ZpD
def kAt(gs:Tgs)(ρ:Ro)(N:W1)(d:D)(M:Sto):Prop:=wG (gTp gs d ρ) (kQ N id M)
theorem Zqj:wS (ZF (gTp gs) f ρ M) N R B C E=wO (f ρ M) (kAt gs ρ N) E:=Znc
noncomputable def Ztq(i j:Nat)(ρ:Ro)(N:W1)(M:Sto)(v w:D):Prop:=N ((ρ.set i (some v)).set j (some w)) M
def kPa(i j:Nat)(ρ:Ro)(N:W1)(ds:List D)(M:Sto):Prop:=w2 ds (Ztq i j ρ N M)
theorem Zsv:wS (Zd3 k m fs ρ M) N R B C E=wO (fs ρ M) (kPa k m ρ N) E:=ZpE
noncomputable def Ztr(n:Nat)(d:D)(xs:List D)(ρ:Ro)(N:W1)(M:Sto)(j:Nat):Prop:=N ρ (M.set n (.lst (xs.set j d)))
def Zts(n:Nat)(k:Int)(d:D)(ρ:Ro)(N:W1)(M:Sto)(xs:List D):Prop:=wG (ixN xs.length k) (Ztr n d xs ρ N M)
def Ztt(n:Nat)(d:D)(ρ:Ro)(N:W1)(M:Sto)(k:Int):Prop:=wL M[n]? (Zts n k d ρ N M)
def Ztu(i:D)(d:D)(ρ:Ro)(N:W1)(M:Sto)(n:Nat):Prop:=wI i (Ztt n d ρ N M)
def Ztv(o:D)(d:D)(ρ:Ro)(N:W1)(i:D)(M:Sto):Prop:=wR o (Ztu i d ρ N M)
def Ztw(fi:Ev)(d:D)(ρ:Ro)(N:W1)(E:W2)(o:D)(M:Sto):Prop:=wO (fi ρ M) (Ztv o d ρ N) E
def kPu(fo fi:Ev)(ρ:Ro)(N:W1)(E:W2)(d:D)(M:Sto):Prop:=wO (fo ρ M) (Ztw fi d ρ N E) E
theorem Zsw:wS (Zfq fo fi f ρ M) N R B C E=wO (f ρ M) (kPu fo fi ρ N E) E:=ZpF
noncomputable def kRa(c:Str)(E:W2)(ds:List D)(M:Sto):Prop:=ds.length<=1000/\E c M
theorem Znm:wS (Zby c fs ρ M) N R B C E=wO (fs ρ M) (kRa c E) E:=ZkR
def Ztx(tg:Tg)(bd:Sv)(ρ:Ro)(N:W1)(R:W0)(B C:W1)(E:W2)(M:Sto)(j:Int):Prop:=(-(2^62)<=j/\j<2^62)/\wS (ZhQ tg bd (Zbu 0 j.toNat) ρ M) N R B C E
def Zty(tg:Tg)(bd:Sv)(ρ:Ro)(N:W1)(R:W0)(B C:W1)(E:W2)(M:Sto)(d:D):Prop:=wI d (Ztx tg bd ρ N R B C E M)
def kR1(tg:Tg)(bd:Sv)(ρ:Ro)(N:W1)(R:W0)(B C:W1)(E:W2)(ds:List D)(M:Sto):Prop:=w1 ds (Zty tg bd ρ N R B C E M)
theorem Zqk:wS (ZaF tg fs bd ρ M) N R B C E=wO (fs ρ M) (kR1 tg bd ρ N R B C E) E:=Znd
def kFs(tg:Tg)(bd:Sv)(ρ:Ro)(N:W1)(R:W0)(B C:W1)(E:W2)(src:Src)(M:Sto):Prop:=wS (ZgO tg bd src (cnt src M) 0 ρ M) N R B C E
theorem Zql:wS (Zdw tg fi bd ρ M) N R B C E=wO (fi ρ M) (kFs tg bd ρ N R B C E) E:=Zne
def hT(cs:List Str)(gh:Sv)(W:List Bool)(i:Nat)(ρ:Ro)(c:Str)(M:Sto):Fl:=if cs.contains c=true then(match gh ((kpR W ρ).set i (some (.err c (fsE c M)))) (stE c M)with|.ret d M2=>.ret d M2|.nx _ M2=>.nx (aB ρ.length none) M2|_=>.bad)else .bad
def kTr(cs:List Str)(gh:Sv)(W:List Bool)(i:Nat)(ρ:Ro)(N:W1)(R:W0)(B C:W1)(E:W2)(c:Str)(M:Sto):Prop:=cs.contains c=true/\wS (gh ((kpR W ρ).set i (some (.err c (fsE c M)))) (stE c M)) (fun _ M2=>N (aB ρ.length none) M2) R (fun _ _=>False) (fun _ _=>False) (fun _ _=>False)
theorem Zsx:wS (ZlD a cs W k gh ρ M) N R B C E=wS (a ρ M) N R B C (kTr cs gh W k ρ N R B C E):=by
 unfold ZlD;cases e:a ρ M<;>try rfl
 rename_i c M1;show wS (if cs.contains c=true then _ else _) N R B C E=kTr cs gh W k ρ N R B C E c M1
 unfold kTr;by_cases h:cs.contains c=true
 ·rw[if_pos h];simp only[h,true_and];cases gh ((kpR W ρ).set k (some (.err c (fsE c M1)))) (stE c M1)<;>rfl
 ·rw[if_neg h];simp only[h,bK,false_and];rfl
theorem Zju:fsE (PySem.Str.ofString "NoText") M=[]:=Zo4 (by decide +kernel)
theorem Zjv:stE (PySem.Str.ofString "NoText") M=M:=Zo5 (by decide +kernel)
theorem ZhG:fsE (PySem.Str.ofString "NoRound") (M++[.lst xs])=xs:=Zo6 (by decide +kernel)
theorem ZhH:stE (PySem.Str.ofString "NoRound") (M++[.lst xs])=M:=Zo7 (by decide +kernel)
noncomputable def ZuO(Q:W0)(M1:Sto)(u:Unit)(M:Sto):Prop:=Q (.ref M1.length) M
def kCo(tg:Tg)(c:Tv)(f:Ev)(k:Nat)(fr:List Nat)(ρ:Ro)(Q:W0)(src:Src)(M:Sto):Prop:=wO (Zez src tg c f M.length (cnt src M) 0 (roB k fr ρ) (M++[.lst []])) (ZuO Q M) (fun _ _=>False)
theorem Zqm:wO (ZaH fi k fr tg t f ρ M) Q E=wO (fi ρ M) (kCo tg t f k fr ρ Q) E:=Znf
def Ztz(QS:Src->Sto->Prop)(M:Sto)(j:Int):Prop:=(-(2^62)<=j/\j<2^62)/\QS (.pur (Zbu 0 j.toNat)) M
def ZtA(QS:Src->Sto->Prop)(M:Sto)(d:D):Prop:=wI d (Ztz QS M)
def kS1(QS:Src->Sto->Prop)(ds:List D)(M:Sto):Prop:=w1 ds (ZtA QS M)
theorem ZuP:wO (iR1 fs ρ M) QS E=wO (fs ρ M) (kS1 QS) E:=ZuD
noncomputable def oSq(d:D)(M:Sto):Out Src:=match d with|.tup ds=>.ok (.pur ds) M|.rol ds=>.ok (.pur ds) M|.con ds=>.ok (.pur ds) M|.ref n=>.ok (.sto n) M|_=>.bad
theorem ZuQ:wO (iSq f ρ M) QS E=wO (f ρ M) (kU oSq QS E) E:=by unfold iSq;exact Zy
theorem Zsy:wO (oSq (.tup xs) M) QS E=QS (.pur xs) M:=rfl
theorem Zsz:wO (oSq (.rol xs) M) QS E=QS (.pur xs) M:=rfl
theorem ZsA:wO (oSq (.ref n) M) QS E=QS (.sto n) M:=rfl
def ZtB(QS:Src->Sto->Prop)(M:Sto)(d:D):Prop:=wR d (kQ QS .enu M)
def kEn(QS:Src->Sto->Prop)(ds:List D)(M:Sto):Prop:=w1 ds (ZtB QS M)
theorem ZuR:wO (iEn fs ρ M) QS E=wO (fs ρ M) (kEn QS) E:=ZuE
noncomputable def Zqn(xs:List D)(M:Sto)(Q:W0)(ys:List D):Prop:=xs.length+ys.length<=10000000/\Q (.ref M.length) (M++[.lst (xs++ys)])
def ZtC(m:Nat)(M:Sto)(Q:W0)(xs:List D):Prop:=wL M[m]? (Zqn xs M Q)
theorem ZsB:wO (dAdd (.ref n) (.ref m) M) Q E=wL M[n]? (ZtC m M Q):=ZrY
noncomputable def Zri(i:Int)(M:Sto)(Q:W0)(xs:List D):Prop:=((-9223372036854775808<=i/\i<9223372036854775808)/\xs.length*i.toNat<=100000)/\Q (.ref M.length) (M++[.lst (aB i.toNat xs).flatten])
theorem ZsC:wO (dRep (.ref n) (.int i) M) Q E=wL M[n]? (Zri i M Q):=by
 show wO (match M[n]? with|some (.lst xs)=>if(-9223372036854775808<=i/\i<9223372036854775808)/\xs.length*i.toNat<=100000 then Out.ok (.ref M.length) (M++[.lst (aB i.toNat xs).flatten])else .bad|none=>.bad) Q E=_
 cases e1:M[n]? with
 |none=>rfl
 |some o=>
  cases o with
  |lst xs=>
   show wO (if(-9223372036854775808<=i/\i<9223372036854775808)/\xs.length*i.toNat<=100000 then Out.ok (.ref M.length) (M++[.lst (aB i.toNat xs).flatten])else .bad) Q E=Zri i M Q xs
   unfold Zri;by_cases h:(-9223372036854775808<=i/\i<9223372036854775808)/\xs.length*i.toNat<=100000
   ·rw[if_pos h];simp only[eq_true h,true_and];rfl
   ·rw[if_neg h];simp only[eq_false h,false_and];rfl
def kEq(Q:W0)(M:Sto)(b:Bool):Prop:=Q (.bl b) M
def kNe(Q:W0)(M:Sto)(b:Bool):Prop:=Q (.bl (!b)) M
theorem ZuS:wO (dEq x y M) Q E=wG (eqF 12 M x y) (kEq Q M):=Zuz
theorem ZuT:wO (dNe x y M) Q E=wG (eqF 12 M x y) (kNe Q M):=ZuA
theorem ZsD:wO (dIsNot x y M) Q E=wG (isP x y) (kNe Q M):=ZrZ
theorem ZsE:wO (dInE x y M) Q E=wG (inE x y M) (kEq Q M):=by unfold dInE;cases inE x y M<;>rfl
theorem Zk3:wO (dNotInE x y M) Q E=wG (inE x y M) (kNe Q M):=by unfold dNotInE;cases inE x y M<;>rfl
theorem ZsF:wO (dIx (.tup xs) (.int i) M) Q E=wG (atI xs i) (kQ Q id M):=Zr0
def kIx(i:Int)(Q:W0)(M:Sto)(xs:List D):Prop:=wG (atI xs i) (kQ Q id M)
theorem ZsG:wO (dIx (.ref n) (.int i) M) Q E=wL M[n]? (kIx i Q M):=Zr1
noncomputable def ZtD(Q:W0)(M:Sto)(xs:List D):Prop:=Q (.int xs.length) M
theorem Zqo:wO (bLen [.ref n] M) Q E=wL M[n]? (ZtD Q M):=ZpI
noncomputable def kLi(Q:W0)(M:Sto)(xs:List D):Prop:=Q (.ref M.length) (M++[.lst xs])
theorem Znn:wO (bList [.ref n] M) Q E=wL M[n]? (kLi Q M):=Zng
def ZtE(Q:W0)(M:Sto)(bs:List Bool):Prop:=Q (.bl (bs.all id)) M
def kAl(Q:W0)(M:Sto)(xs:List D):Prop:=wG (Zaz xs) (ZtE Q M)
theorem ZsH:wO (bAll [.ref n] M) Q E=wL M[n]? (kAl Q M):=Zr5
def kMt(g:Me)(fs:Av)(ρ:Ro)(Q:W0)(E:W2)(x:D)(M:Sto):Prop:=ZmN x M=true/\wO (fs ρ M) (kU (g x) Q E) E
theorem ZuU:wO (ZmO me fo fs ρ M) Q E=wO (fo ρ M) (kMt me fs ρ Q E) E:=ZuB
noncomputable def ZtF(n:Nat)(d:D)(Q:W0)(M:Sto)(xs:List D):Prop:=xs.length<10000000/\Q .non (M.set n (.lst (xs++[d])))
theorem ZsI:wO (mApp (.ref n) [d] M) Q E=wL M[n]? (ZtF n d Q M):=Zr6
def ZtG(l u:Option Int)(Q:W0)(M:Sto)(xs:List D):Prop:=Q (.ref M.length) (M++[.lst (Zf7 xs l u)])
def ZtH(x:D)(l:Option Int)(Q:W0)(E:W2)(u:Option Int)(M:Sto):Prop:=wO (slR x l u M) Q E
def ZtI(x:D)(hi:Ro->Sto->Out (Option Int))(ρ:Ro)(Q:W0)(E:W2)(l:Option Int)(M:Sto):Prop:=wO (hi ρ M) (ZtH x l Q E) E
def ZtJ(lo hi:Ro->Sto->Out (Option Int))(ρ:Ro)(Q:W0)(E:W2)(x:D)(M:Sto):Prop:=wO (lo ρ M) (ZtI x hi ρ Q E) E
theorem ZuV{lo:Ro->Sto->Out (Option Int)}:wO (eSl f lo hi ρ M) Q E=wO (f ρ M) (ZtJ lo hi ρ Q E) E:=Zr7
theorem ZsJ:wO (slR (.ref n) l u' M) Q E=wL M[n]? (ZtG l u' Q M):=Zr8
theorem ZsK:wO (oNo ρ M) QI E=QI none M:=rfl
def ZtK(Q:Option Int->Sto->Prop)(x:D)(M:Sto):Prop:=wI x (kQ Q some M)
theorem ZsL:wO (oSo f ρ M) QI E=wO (f ρ M) (ZtK QI) E:=Zr9
noncomputable def oRv(x:D)(M1:Sto):Out D:=match x with|.tup xs=>.ok (.tup xs.reverse) M1|.ref n=>(match M1[n]? with|some (.lst xs)=>.ok (.ref M1.length) (M1++[.lst xs.reverse])|none=>.bad)|.rol xs=>.ok (.ref M1.length) (M1++[.lst xs.reverse])|_=>.bad
theorem ZuW:wO (eRv f ρ M) Q E=wO (f ρ M) (kU oRv Q E) E:=by unfold eRv;exact Zy
noncomputable def ZtL(Q:W0)(M:Sto)(xs:List D):Prop:=Q (.ref M.length) (M++[.lst xs.reverse])
theorem ZsM:wO (oRv (.ref n) M) Q E=wL M[n]? (ZtL Q M):=by show wO (match M[n]? with|some (.lst xs)=>Out.ok (.ref M.length) (M++[.lst xs.reverse])|none=>.bad) Q E=_;cases M[n]? with|none=>rfl|some o=>cases o with|lst xs=>rfl
theorem ZsN:wO (oRv (.tup xs) M) Q E=Q (.tup xs.reverse) M:=rfl
def kWh(bd:Sv)(ρ:Ro)(I:W1)(N:W1)(R:W0)(B C:W1)(E:W2)(k:Bool)(M:Sto):Prop:=Br k (wS (bd ρ M) I R N I E) (N ρ M)
theorem Zno(I:Nat->Ro->Sto->Prop)(st:∀n ρ M,I n ρ M->wO (c ρ M) (kWh bd ρ (fun ρ2 M2=>∃m,m<n/\I m ρ2 M2) N R B C E) E)(n:Nat)(ρ:Ro)(M:Sto)(h:I n ρ M):wS (sWh c bd ρ M) N R B C E:=ZkS I st n ρ M h
theorem Znp{I:W1}{p:Prop}[Decidable p](h1:p->wS (bd ρ M) I R N I E)(h2:¬p->N ρ M):kWh bd ρ I N R B C E (decide p) M:=brD h1 h2
theorem Znq(h:k<n):ixN n (k:Int)=some k:=by
 unfold ixN;rw[if_pos (by lia),if_pos (by lia)]
 simp
theorem ZtM(Inv:Ro->Prop)(F:Nat->D)(hl:xs.length<10000000)(hcnt:xs.length<=cnt src M)(h0:Inv (roB k fr ρ))(hs:∀(L:Sto)(i:Nat),i<=xs.length->nxt src i (M++L)=some xs[i]?)(st:∀(i:Nat)(h:i<xs.length)(ρ:Ro)(L:Sto),Inv ρ->wG (tg xs[i] ρ) fun r=>Inv r/\wO (f r (M++L)) (fun y M2=>y=F i/\M2=M++L) (fun _ _=>False))(hq:Q (.ref M.length) (M++[.lst ((aJ xs.length).map F)])):kCo tg (fun _ M=>.ok true M) f k fr ρ Q src M:=Znj (Q:=fun M2=>Q (.ref M.length) M2) Inv F hl hcnt h0 hs st hq
theorem Zqp(Inv:Ro->Prop)(F:Nat->D)(hM:M[n]?=some (.lst xs))(hl:xs.length<10000000)(h0:Inv (roB k fr ρ))(st:∀(i:Nat)(h:i<xs.length)(ρ:Ro)(L:Sto),Inv ρ->wG (tg xs[i] ρ) fun r=>Inv r/\wO (f r (M++L)) (fun y M2=>y=F i/\M2=M++L) (fun _ _=>False))(hq:Q (.ref M.length) (M++[.lst ((aJ xs.length).map F)])):kCo tg (fun _ M=>.ok true M) f k fr ρ Q (.sto n) M:=
 ZtM (xs:=xs) Inv F hl (by rw[Zgc hM];exact au _) h0 (fun L i hi=>by rw[Zjs];rw[aH (ZM hM)];exact hM) st hq
end
end DL
namespace DL
open L2
end DL
namespace DL
open L2
noncomputable def ZsO(c:Str)(E:W2)(ds:List D)(M:Sto):Prop:=match ds with
 |[.str y,.int n]=>(y.length<=1000/\n.natAbs.log2<1000)/\E c (M++[.lst [.str y,.int n]])
 |_=>False
theorem Zg4:ZsO c E [.str y,.int n] M=((y.length<=1000/\n.natAbs.log2<1000)/\E c (M++[.lst [.str y,.int n]])):=rfl
theorem Zdf(h:wO (fs ρ M) (ZsO c E) E):wS (Zbf c fs ρ M) N R B C E:=by
 unfold Zbf;rw[Zag];refine Zb7 h (fun ds M1 k=>?_) (fun _ _ z=>z);unfold ZsO at k
 split at k
 ·rename_i y n;show wS (if _ then _ else _) _ _ _ _ _
  rw[if_pos k.1];exact k.2
 ·exact k.elim
end DL
namespace DL
open L2
def Zrj(cs:List Str)(gh:Sv)(W:List Bool)(ρ:Ro)(N:W1)(R:W0)(c:Str)(M:Sto):Prop:=cs.contains c=true/\wS (gh (kpR W ρ) (stE c M)) N R (fun _ _=>False) (fun _ _=>False) (fun _ _=>False)
theorem Zqq:wS (Zga gb cs W gh ρ M) N R B C E=wS (gb ρ M) N R B C (Zrj cs gh W ρ N R):=by
 unfold Zga;cases e:gb ρ M<;>try rfl
 rename_i c M1;show wS (if cs.contains c=true then _ else _) N R B C E=Zrj cs gh W ρ N R c M1
 unfold Zrj;by_cases h:cs.contains c=true
 ·rw[if_pos h];simp only[h,true_and];cases gh (kpR W ρ) (stE c M1)<;>rfl
 ·rw[if_neg h];simp only[h,bK,false_and];rfl
theorem ZlR:Zrj cs gh W ρ N R c M=(cs.contains c=true/\wS (gh (kpR W ρ) (stE c M)) N R (fun _ _=>False) (fun _ _=>False) (fun _ _=>False)):=rfl
end DL
namespace DL
open PyProof.Rows L2 SX
def kMS(g:Me)(fs:Av)(ρ:Ro)(Q:W0)(E:W2)(x:D)(M:Sto):Prop:=match x with|.str y=>wO (fs ρ M) (kU (g (.str y)) Q E) E|_=>False
theorem ZcR:kMS g fs ρ Q E (.str y) M=wO (fs ρ M) (kU (g (.str y)) Q E) E:=rfl
theorem ZcS:wO (ZfW g fo fs ρ M) Q E=wO (fo ρ M) (kMS g fs ρ Q E) E:=by
 unfold ZfW;rw[Zy];congr 1;funext x M1;cases x<;>first|exact Zy|rfl
theorem ZsP:wO (mStw (.str y) [.str z] M) Q E=Q (.bl (Txt.startswith y z)) M:=rfl
def kJn(y:Str)(Q:W0)(M:Sto)(xs:List D):Prop:=∃ys,txs xs=some ys/\lf y ys=true/\Q (.str (Txt.join y ys)) M
theorem Zqr(h:M[n]?=some (.lst xs))(q:kJn y Q M xs):wO (mJn (.str y) [.ref n] M) Q E:=by
 obtain⟨ys,e,j,q⟩:=q;show wO (match M[n]? with|some (.lst xs)=>(match txs xs with|some ys=>if lf y ys=true then .ok (.str (Txt.join y ys)) M else .bad|none=>.bad)|none=>.bad) Q E
 rw[h];simp only[e,if_pos j];exact q
theorem Zqs(hz:z.cps.toList=[c])(hc:c<128)(hy:y.length<=16000000)(q:Q (.ref M.length) (M++[.lst ((spl c y.cps.toList).map fun l=>.str ⟨l.toArray⟩)])):wO (mSpl (.str y) [.str z] M) Q E:=by
 show wO (match z.cps.toList with|[c]=>if c<128/\y.length<=16000000 then .ok (.ref M.length) (M++[.lst ((spl c y.cps.toList).map fun l=>.str ⟨l.toArray⟩)])else .bad|_=>.bad) Q E
 rw[hz];show wO (if _ then _ else _) Q E
 rw[if_pos ⟨hc,hy⟩];exact q
theorem Zg5:wO (bLenT [.str z] M) Q E=(z.length<=100000/\Q (.int z.length) M):=by
 show wO (if _ then _ else _) Q E=_
 by_cases c:z.length<=100000
 ·rw[if_pos c];exact propext ⟨fun h=>⟨c,h⟩,fun h=>h.2⟩
 ·rw[if_neg c];exact propext ⟨fun h=>h.elim,fun h=>c h.1⟩
theorem Zk4:wO (bStr [.int i] M) Q E=(i.natAbs.log2<1900/\Q (.str (tx i)) M):=by
 show wO (if _ then _ else _) Q E=_
 by_cases c:i.natAbs.log2<1900
 ·rw[if_pos c];exact propext ⟨fun h=>⟨c,h⟩,fun h=>h.2⟩
 ·rw[if_neg c];exact propext ⟨fun h=>h.elim,fun h=>c h.1⟩
theorem ZlS(hl:z.length<=640)(e:intText? z=some k)(q:Q (.int k) M):wO (bIntT [.str z] M) Q E:=by
 show wO (if _ then _ else _) Q E
 rw[if_pos hl,e];exact q
theorem ZsQ:wO (dInT (.str ⟨#[c]⟩) (.str j) M) Q E=Q (.bl (j.cps.toList.contains c)) M:=rfl
theorem Zk5(h:0<=i/\i<100000)(e:z.cps.toList[i.toNat]?=some c)(q:Q (.str ⟨#[c]⟩) M):wO (ZlI (.str z) (.int i) M) Q E:=by
 show wO (if _ then _ else _) Q E
 rw[if_pos h,e];exact q
def kL3(x:D)(l u:Option Int)(Q:W0)(M:Sto):Prop:=match x with|.str z=>(z.length<=100000/\okT z l u)/\Q (.str (Zfc z l u)) M|_=>False
def kL2(x:D)(l:Option Int)(Q:W0)(u:Option Int)(M:Sto):Prop:=kL3 x l u Q M
def kL1(x:D)(hi:Ro->Sto->Out (Option Int))(ρ:Ro)(Q:W0)(E:W2)(l:Option Int)(M:Sto):Prop:=wO (hi ρ M) (kL2 x l Q) E
def kL0(lo hi:Ro->Sto->Out (Option Int))(ρ:Ro)(Q:W0)(E:W2)(x:D)(M:Sto):Prop:=wO (lo ρ M) (kL1 x hi ρ Q E) E
theorem ZfN{lo:Ro->Sto->Out (Option Int)}:wO (ZgS f lo hi ρ M) Q E=wO (f ρ M) (kL0 lo hi ρ Q E) E:=by
 unfold ZgS;rw[Zy];congr 1;funext x M1;rw[Zy];unfold kL0;congr 1;funext l M2;rw[Zy];unfold kL1;congr 1;funext u M3;unfold kL2 kL3;cases x with
 |str z=>
  show wO (if _ then _ else _) Q E=_
  by_cases c:z.length<=100000/\okT z l u
  ·rw[if_pos c];exact propext ⟨fun h=>⟨c,h⟩,fun h=>h.2⟩
  ·rw[if_neg c];exact propext ⟨fun h=>h.elim,fun h=>c h.1⟩
 |_=>rfl
theorem ZfO:kL3 (.str z) l u Q M=((z.length<=100000/\okT z l u)/\Q (.str (Zfc z l u)) M):=rfl
def oTx(d:D)(M:Sto):Out Src:=match d with|.str x=>if asc x=true then .ok (.pur (sgs x)) M else .bad|_=>.bad
theorem Znr:wO (iTx f ρ M) QS E=wO (f ρ M) (kU oTx QS E) E:=by unfold iTx;exact Zy
theorem Zns:wO (oTx (.str z) M) QS E=(asc z=true/\QS (.pur (sgs z)) M):=by
 show wO (if _ then _ else _) QS E=_
 by_cases c:asc z=true
 ·rw[if_pos c];exact propext ⟨fun h=>⟨c,h⟩,fun h=>h.2⟩
 ·rw[if_neg c];exact propext ⟨fun h=>h.elim,fun h=>c h.1⟩
theorem Zcy:wO (dAdd (.str y) (.str z) M) Q E=(y.length+z.length<=100000/\Q (.str (y++z)) M):=by
 show wO (if _ then _ else _) Q E=_
 by_cases c:y.length+z.length<=100000
 ·rw[if_pos c];exact propext ⟨fun h=>⟨c,h⟩,fun h=>h.2⟩
 ·rw[if_neg c];exact propext ⟨fun h=>h.elim,fun h=>c h.1⟩
theorem ZeQ(ys:List Str):txs (ys.map D.str)=some ys:=by
 induction ys with
 |nil=>rfl
 |cons y ys ih=>show(match txs (ys.map D.str)with|some ys=>some (y::ys)|none=>none)=_;rw[ih]
theorem Zcz(hy:y.length<=1)(hb:∀x∈ys,x.length<=b)(hn:ys.length*(b+1)<=16000000):lf y ys=true:=by
 have:∀(l:List Str)(a:Nat),(∀x∈l,x.length<=b)->l.foldl (· + ·.length+y.length) a<=a+l.length*(b+1):=by
  intro l
  induction l with
  |nil=>intro a _;simp
  |cons x l ih=>
   intro a h;rw[fX];have h1:=ih (a+x.length+y.length) fun z m=>h z (ak _ m);have h2:=h x (aO ..);rw[ao,kM];lia
 have t:=this ys 0 hb;unfold lf eY.Str.tooLong;rw[List.foldl_toArray];have hz:=fB;rw[gz,decide_eq_false_iff_not];lia
end DL
namespace DL
noncomputable abbrev Pt:=Int×Int
noncomputable def X(p q:Pt):Int:=p.1*q.2-p.2*q.1
section
variable {rs:List Pt}{i j:Int}{k:Nat}{p:Pt}
theorem ZcA{α:Type}{l:List α}{d:α}(h:n<l.length):l.getD n d=l[n]:=by simp[aq h]
theorem Zb8(h:0<=i/\i<rs.length):cy rs i=rs.getD i.toNat (0,0):=by
 unfold cy;rw[fk h.1 h.2]
theorem Zax{m:Nat}(h:m≠0):(i%m).toNat<m/\0<=i%m:=by
 have:=dG i (show(0:Int)<m by lia)
 have:=eU i (show(m:Int)≠0 by lia)
 lia
theorem Zej(h:rs≠[]):cy rs i∈rs:=by
 have hl:rs.length≠0:=by simpa using h
 unfold cy;rw[ZcA (Zax hl).1];exact aX _
theorem ZlT{f:Pt->Pt}(h:rs≠[]):cy (rs.map f) i=f (cy rs i):=by
 have hl:rs.length≠0:=by simpa using h
 unfold cy;rw[ae,ZcA (by rw[ae];exact(Zax hl).1),ZcA (Zax hl).1,bH]
theorem Zg6(hk:k<=rs.length):cy (rs.drop k++rs.take k) i=cy rs (i+k):=by
 by_cases h:rs.length=0
 ·have:rs=[]:=by simpa using h
  subst this;simp[cy]
 have hL:(rs.drop k++rs.take k).length=rs.length:=by simp;lia
 have e1:cy (rs.drop k++rs.take k) i=cy (rs.drop k++rs.take k) (i%rs.length):=by
  conv=>rhs;rw[<-hL,Zc5]
 have e2:cy rs (i+k)=cy rs (i%rs.length+k):=by
  unfold cy;rw[Int.emod_add_emod]
 rw[e1,e2];obtain⟨a,b⟩:=Zax (i:=i) h;generalize hm:i%(rs.length:Int)=m at *;have hm2:m<rs.length:=by lia
 rw[Zb8 (by rw[hL];lia)]
 by_cases c:m+k<rs.length
 ·rw[Zb8 (by lia)]
  rw[aN,aN,aH (by simp;lia),List.getElem?_drop]
  congr 2;lia
 ·rw[<-ZfL,Zb8 (by lia)]
  rw[aN,aN,aM (by simp;lia),cY (by simp;lia)]
  congr 2;simp;lia
noncomputable def ins(rs:List Pt)(k:Nat)(p:Pt):List Pt:=rs.take (k+1)++p::rs.drop (k+1)
theorem ZcT(hk:k<rs.length):(ins rs k p).length=rs.length+1:=by simp[ins];lia
theorem ZlU(hk:k<rs.length)(h0:0<=j)(h1:j<=rs.length+1):cy (ins rs k p) j=if j<=k then cy rs j else if j=k+1 then p else cy rs (j-1):=by
 have hL:=ZcT (p:=p) hk;by_cases e:j=rs.length+1
 ·subst e;rw[if_neg (by lia),if_neg (by lia)]
  have e1:cy (ins rs k p) (rs.length+1)=cy (ins rs k p) 0:=by
   have:=ZfL (rs:=ins rs k p) (i:=(rs.length:Int)+1)
   rw[hL]at this;rw[<-this];congr 1;lia
  have e2:cy rs ((rs.length:Int)+1-1)=cy rs 0:=by
   rw[<-ZfL];congr 1;lia
  rw[e1,e2,Zb8 (by rw[hL];lia),Zb8 (by lia)]
  unfold ins;rw[aN,aN,aH (by simp;lia),cY (by simp)]
 ·have hj:j<rs.length+1:=by lia
  rw[Zb8 (by rw[hL];lia)]
  unfold ins;rw[aN];by_cases c1:j<=k
  ·rw[if_pos c1,Zb8 (by lia),aN,aH (by simp;lia),cY (by lia)]
  ·rw[if_neg c1,aM (by simp;lia)]
   have hl:(rs.take (k+1)).length=k+1:=by simp;lia
   rw[hl];by_cases c2:j=k+1
   ·rw[if_pos c2]
    have:j.toNat-(k+1)=0:=by lia
    rw[this];rfl
   ·rw[if_neg c2,Zb8 (by lia),aN]
    obtain⟨z,hz⟩:∃z,j.toNat-(k+1)=z+1:=⟨j.toNat-(k+1)-1,by lia⟩
    rw[hz,db,List.getElem?_drop];congr 2;lia
theorem ZeR{P:Pt->Pt->Prop}(hn:rs.length≠0)(h:∀i:Int,0<=i->i<rs.length->P (cy rs i) (cy rs (i+1)))(i:Int):P (cy rs i) (cy rs (i+1)):=by
 have e1:cy rs i=cy rs (i%rs.length):=Zc5.symm;have e2:cy rs (i+1)=cy rs (i%rs.length+1):=by
  unfold cy;rw[Int.emod_add_emod]
 rw[e1,e2];obtain⟨a,b⟩:=Zax (i:=i) hn;exact h _ b (by lia)
noncomputable def cc(f:Pt->Pt->Nat):List Pt->Nat
 |a::b::r=>f a b+cc f (b::r)
 |_=>0
def cyc(f:Pt->Pt->Nat)(rs:List Pt):Nat:=cc f (rs++rs.take 1)
theorem Zc6{f:Pt->Pt->Nat}:∀(L:List Pt)(a:Pt)(R:List Pt),cc f (L++a::R)=cc f (L++[a])+cc f (a::R)
 |[],a,R=>by simp[cc]
 |[b],a,R=>by simp[cc]
 |b::c::L,a,R=>by
  have:=Zc6 (f:=f) (c::L) a R
  simp only[aS,cc]at this ⊢;lia
theorem ZlV{f:Pt->Pt->Nat}{g:Pt->Pt}:∀(L:List Pt),cc f (L.map g)=cc (fun a b=>f (g a) (g b)) L
 |[]=>rfl
 |[_]=>rfl
 |a::b::L=>by
  have:=ZlV (f:=f) (g:=g) (b::L)
  simp only[aL,cc]at this ⊢;lia
theorem ZlW{f:Pt->Pt->Nat}:∀(L:List Pt),cc f L.reverse=cc (fun a b=>f b a) L
 |[]=>rfl
 |[_]=>rfl
 |a::b::L=>by
  have:=ZlW (f:=f) (b::L)
  rw[cK,cK,cu,jy,Zc6];rw[cK]at this;simp only[cc]at this ⊢;lia
theorem Zbh:cyc f (a::r)=cc f (a::(r++[a])):=by simp[cyc]
theorem Zb9(A B:List Pt):cyc f (A++B)=cyc f (B++A):=by
 cases A with
 |nil=>simp
 |cons a A=>
  cases B with
  |nil=>simp
  |cons b B=>
   rw[aS,Zbh,aS,Zbh];have e1:a::(A++b::B++[a])=(a::A)++b::(B++[a]):=by simp
   have e2:b::(B++a::A++[b])=(b::B)++a::(A++[b]):=by simp
   rw[e1,e2,Zc6 (a::A) b,Zc6 (b::B) a];simp only[aS];lia
theorem ZeS(L:List Pt):cyc f (L.map g)=cyc (fun a b=>f (g a) (g b)) L:=by
 unfold cyc;rw[<-List.map_take,<-cC,ZlV]
theorem Zjw(L:List Pt):cyc f L.reverse=cyc (fun a b=>f b a) L:=by
 cases L with
 |nil=>rfl
 |cons a L=>
  rw[cK,Zb9,jy,Zbh,Zbh,<-ZlW];congr 1;simp
def in1(w a b:Pt):Nat:=if 0<=X a w/\0<X w b then 1 else 0
def in2(w a b:Pt):Nat:=if 0<X a w/\0<=X w b then 1 else 0
def Fan(rs:List Pt):Prop:=∀w:Pt,w≠(0,0)->cyc (in1 w) rs=1/\cyc (in2 w) rs=1
theorem Zqt:X w (a.1+b.1,a.2+b.2)=X w a+X w b/\X (a.1+b.1,a.2+b.2) w=X a w+X b w:=by unfold X;constructor<;>grind
theorem ZhI{p:Pt}:X p q=0-X q p:=by unfold X;grind
theorem Znt:in1 w a b=in1 w a (a.1+b.1,a.2+b.2)+in1 w (a.1+b.1,a.2+b.2) b:=by
 have s:=Zqt (a:=a) (b:=b) (w:=w);have e1:=ZhI (p:=w) (q:=a);have e2:=ZhI (p:=b) (q:=w);unfold in1;rw[s.1,s.2,e1,e2];generalize X a w=p;generalize X w b=q
 repeat' split
 all_goals lia
theorem Znu:in2 w a b=in2 w a (a.1+b.1,a.2+b.2)+in2 w (a.1+b.1,a.2+b.2) b:=by
 have s:=Zqt (a:=a) (b:=b) (w:=w);have e1:=ZhI (p:=w) (q:=a);have e2:=ZhI (p:=b) (q:=w);unfold in2;rw[s.1,s.2,e1,e2];generalize X a w=p;generalize X w b=q
 repeat' split
 all_goals lia
theorem Zk6{L R:List Pt}:cy (L++a::R) L.length=a:=by
 rw[Zb8 (by simp;lia)]
 simp
theorem Zqu{L R:List Pt}:cy (L++a::b::R) (L.length+1)=b:=by
 rw[Zb8 (by simp;lia)]
 rw[show((L.length:Int)+1).toNat=L.length+1 by lia]
 simp
theorem Zjx{r:List Pt}:cy (a::r) (r.length+1)=a:=by
 have:=ZfL (rs:=a::r) (i:=(r.length:Int)+1)
 rw[<-this,ao,show(r.length:Int)+1-((r.length+1:Nat):Int)=0 by lia,Zb8 (by simp)]
 rfl
theorem ZdF(hk:k<rs.length)(hf:f (cy rs k) (cy rs (k+1))=f (cy rs k) p+f p (cy rs (k+1))):cyc f (ins rs k p)=cyc f rs:=by
 obtain⟨L,a,R,e,hl⟩:∃L a R,rs=L++a::R/\L.length=k:=⟨rs.take k,rs[k],rs.drop (k+1),by rw[jm,gG],by simp;lia⟩
 have ei:ins rs k p=L++a::p::R:=by
  unfold ins;rw[e,<-hl,iZ,gP,bp (by lia),a8 (by lia)]
  simp
 have ca:cy rs k=a:=by rw[e,<-hl];exact Zk6
 cases R with
 |cons b R=>
  have cb:cy rs (k+1)=b:=by rw[e,<-hl];exact Zqu
  rw[ca,cb]at hf;rw[ei,e,Zb9,Zb9 L];simp only[aS,Zbh,cc];lia
 |nil=>
  cases L with
  |nil=>
   have cb:cy rs (k+1)=a:=by
    rw[e,<-hl];exact Zjx (r:=[]) (a:=a)
   rw[ca,cb]at hf;rw[ei,e];simp[cyc,cc];lia
  |cons b L=>
   have cb:cy rs (k+1)=b:=by
    rw[e,<-hl]
    have:=Zjx (r:=L++[a]) (a:=b)
    simp only[aa,ao,bS]at this ⊢;exact this
   rw[ca,cb]at hf;rw[ei,e];simp only[aS,Zbh];have e1:b::(L++[a,p]++[b])=(b::L)++a::[p,b]:=by simp
   have e2:b::(L++[a]++[b])=(b::L)++a::[b]:=by simp
   rw[e1,e2,Zc6,Zc6 (b::L) a [b]];simp only[cc];lia
theorem Fan.rot(h:Fan rs):Fan (rs.drop k++rs.take k):=fun w hw=>by
 rw[Zb9,Zb9 (rs.drop k),gG];exact h w hw
theorem Fan.ins(h:Fan rs)(hk:k<rs.length):Fan (ins rs k ((cy rs k).1+(cy rs (k+1)).1,(cy rs k).2+(cy rs (k+1)).2)):=fun w hw=>by
 rw[ZdF hk Znt,ZdF hk Znu];exact h w hw
theorem ZlX{f:Pt->Pt}(hs:s=1\/s= -1)(hf:∀p q,X (f p) (f q)=s*X p q)(w:Pt)(hw:w≠(0,0)):∃w':Pt,w'≠(0,0)/\∀a,X (f a) w=s*X a w':=by
 have d:=hf (1,0) (0,1);have d1:X (f (1,0)) (f (0,1))=s:=by rw[d];simp[X]
 have lin:∀a,(f a).1=a.1*(f (1,0)).1+a.2*(f (0,1)).1/\(f a).2=a.1*(f (1,0)).2+a.2*(f (0,1)).2:=by
  intro a;have h1:=hf a (1,0);have h2:=hf a (0,1);generalize f a=u at *;generalize f (1,0)=e1 at *;generalize f (0,1)=e2 at *;unfold X at *;rcases hs with rfl|rfl<;>constructor<;>grind
 refine⟨(X w (f (0,1))*s,X (f (1,0)) w*s),?_,?_⟩
 ·intro z;apply hw;have z1:=congrArg Prod.fst z;have z2:=congrArg Prod.snd z;simp only at z1 z2;generalize f (1,0)=e1 at *;generalize f (0,1)=e2 at *;unfold X at *;apply jF
  ·rcases hs with rfl|rfl<;>simp only[]<;>grind
  ·rcases hs with rfl|rfl<;>simp only[]<;>grind
 ·intro a;obtain⟨l1,l2⟩:=lin a;unfold X;rw[l1,l2];rcases hs with rfl|rfl<;>simp only[]<;>grind
theorem Fan.map(h:Fan rs)(hf:∀p q,X (f p) (f q)=X p q):Fan (rs.map f):=fun w hw=>by
 obtain⟨w',hw',e⟩:=ZlX (s:=1) (.inl rfl) (fun p q=>by rw[hf,jS]) w hw
 have e2:∀a,X w (f a)=X w' a:=fun a=>by rw[ZhI,e,ZhI (p:=w')];lia
 have c1:∀a b,in1 w (f a) (f b)=in1 w' a b:=fun a b=>by unfold in1;rw[e,e2,jS]
 have c2:∀a b,in2 w (f a) (f b)=in2 w' a b:=fun a b=>by unfold in2;rw[e,e2,jS]
 rw[ZeS,ZeS,show(fun a b=>in1 w (f a) (f b))=in1 w' from funext fun a=>funext fun b=>c1 a b,show(fun a b=>in2 w (f a) (f b))=in2 w' from funext fun a=>funext fun b=>c2 a b];exact h w' hw'
theorem Fan.flip(h:Fan rs)(hf:∀p q,X (f p) (f q)= -1*X p q):Fan (rs.map f).reverse:=fun w hw=>by
 obtain⟨w',hw',e⟩:=ZlX (s:= -1) (.inr rfl) hf w hw;have e2:∀a,X w (f a)= -1*X w' a:=fun a=>by rw[ZhI,e,ZhI (p:=w')];lia
 have c1:∀a b,in1 w (f b) (f a)=in2 w' a b:=fun a b=>by
  unfold in1 in2;rw[e,e2,ZhI (p:=b)]
  have:=ZhI (p:=a) (q:=w')
  simp only[show(0<= -1*(0-X w' b)/\0 < -1*X w' a)=(0<X a w'/\0<=X w' b)from propext ⟨fun _=>by lia,fun _=>by lia⟩]
 have c2:∀a b,in2 w (f b) (f a)=in1 w' a b:=fun a b=>by
  unfold in1 in2;rw[e,e2,ZhI (p:=b)]
  have:=ZhI (p:=a) (q:=w')
  simp only[show(0 < -1*(0-X w' b)/\0<= -1*X w' a)=(0<=X a w'/\0<X w' b)from propext ⟨fun _=>by lia,fun _=>by lia⟩]
 rw[Zjw,Zjw,ZeS,ZeS,show(fun a b=>in1 w (f b) (f a))=in2 w' from funext fun a=>funext fun b=>c1 a b,show(fun a b=>in2 w (f b) (f a))=in1 w' from funext fun a=>funext fun b=>c2 a b];exact⟨(h w' hw').2,(h w' hw').1⟩
structure Smo(rs:List Pt):Prop where
 len:3<=rs.length
 one:∀i:Int,X (cy rs i) (cy rs (i+1))=1
 fan:Fan rs
noncomputable def Nr(b:Int)(rs:List Pt):Prop:=∀p∈rs,(-b<=p.1/\p.1<=b)/\ -b<=p.2/\p.2<=b
theorem Smo.ne(h:Smo rs):rs≠[]:=by
 intro z
 have:=h.len
 rw[z]at this;simp at this
theorem Nr.cy{b:Int}(h:Nr b rs)(hn:rs≠[])(i:Int):(-b<=(cy rs i).1/\(cy rs i).1<=b)/\ -b<=(cy rs i).2/\(cy rs i).2<=b:=h _ (Zej hn)
theorem Smo.ins(h:Smo rs)(hk:k<rs.length):Smo (ins rs k ((cy rs k).1+(cy rs (k+1)).1,(cy rs k).2+(cy rs (k+1)).2)):=by
 have hL:=ZcT (p:=((cy rs k).1+(cy rs (k+1)).1,(cy rs k).2+(cy rs (k+1)).2)) hk;refine⟨by rw[hL];have:=h.len;lia,?_,h.fan.ins hk⟩
 refine ZeR (P:=fun a b=>X a b=1) (by lia) ?_
 intro i h0 h1;rw[hL]at h1;rw[ZlU hk h0 (by lia),ZlU hk (by lia) (by lia)]
 have ok:=h.one k;by_cases c1:i+1<=k
 ·rw[if_pos (by lia),if_pos c1];exact h.one i
 ·rw[if_neg c1];by_cases c2:i=k
  ·subst c2;rw[if_pos (by lia),if_pos rfl]
   unfold X at *;grind
  ·rw[if_neg (by lia:¬i<=(k:Int)),if_neg (by lia:¬i+1=(k:Int)+1)]
   by_cases c3:i=k+1
   ·subst c3;rw[if_pos rfl]
    have:(k:Int)+1+1-1=k+1:=by lia
    rw[this];unfold X at *;grind
   ·rw[if_neg c3]
    have:=h.one (i-1)
    have e:i-1+1=i+1-1:=by lia
    rw[e]at this;exact this
theorem Smo.rot(h:Smo rs)(hk:k<=rs.length):Smo (rs.drop k++rs.take k):=by
 refine⟨by have:=h.len;simp;lia,fun i=>?_,h.fan.rot⟩
 rw[Zg6 hk,Zg6 hk]
 have:=h.one (i+k)
 have e:i+(k:Int)+1=i+1+k:=by lia
 rw[e]at this;exact this
theorem Nr.ins{b:Int}(h:Nr b rs)(hp:(-b<=p.1/\p.1<=b)/\ -b<=p.2/\p.2<=b):Nr b (ins rs k p):=by
 intro q hq;rcases bC.mp hq with hq|hq
 ·exact h q (c9 hq)
 ·rcases aK.mp hq with hq|hq
  ·subst hq;exact hp
  ·exact h q (da hq)
theorem Nr.rot(h:Nr b rs):Nr b (rs.drop k++rs.take k):=by
 intro q hq;rcases bC.mp hq with hq|hq
 ·exact h q (da hq)
 ·exact h q (c9 hq)
end
end DL
namespace CC
open L2 DL
def ZdG:Sv:=(ZE (e2 dSub (e2 dMul (e2 dIx (Zg 0) (eC (.int 0))) (e2 dIx (Zg 1) (eC (.int 1)))) (e2 dMul (e2 dIx (Zg 0) (eC (.int 1))) (e2 dIx (Zg 1) (eC (.int 0))))))
def F_crossed:W3:=fnF ZdG 2 0
def Zca:Sv:=(ZE (e2 dIx (Zg 0) (e2 dMod (e2 dAdd (Zg 1) (eC (.int 1))) (Zj bLen (Zc (Zg 0) aNil)))))
def F_following:W3:=fnF Zca 2 0
def Zbi:Sv:=(ZE (e2 dSub (e2 dMul (e2 dIx (Zg 0) (eC (.int 0))) (e2 dIx (Zg 1) (eC (.int 1)))) (e2 dMul (e2 dIx (Zg 0) (eC (.int 1))) (e2 dIx (Zg 1) (eC (.int 0))))))
def F_law_cross:W3:=fnF Zbi 2 0
end CC
open L2 DL
set_option hygiene false
set_option compiler.extract_closed false
local macro_rules|`(tactic|simp! $c:optConfig [$ls,*])=>do let x←("ZuF y_c y_v Zp8 Zsg Zp9 Zsh Zsi Zsj Zqa Zsl Zqb ZuG ZuH ZuI Zsm ZuJ Zsn Zqc Zso Zqd ZuK Zsp ZuL Zqe Zsq Zqf Zsr Zqg Zss Zqh Zqi ZuM ZuN Zst Zsu Zqj Zsv Zsw Znm Zqk Zql Zsx Zju Zjv ZhG ZhH Zqm ZuP ZuQ Zsy Zsz ZsA ZuR ZsB ZsC ZuS ZuT ZsD ZsE Zk3 ZsF ZsG Zqo Znn ZsH ZuU ZsI ZuV ZsJ ZsK ZsL ZuW ZsM ZsN kU kQ kB2 kB1 kA2 kA1 kTu kLs kTy kIf kTA kTO kTN kSq kDr kSi kAs kAt Ztq kPa Ztr Zts Ztt Ztu Ztv Ztw kPu kRa Ztx Zty kR1 kFs kTr Ztz ZtA kS1 ZtB kEn Zqn ZtC Zri kEq kNe kIx ZtD kLi ZtE kAl kMt ZtF ZtG ZtH ZtI ZtJ ZtK ZtL ZkV ZkW Zni ZkX ZkZ Zk1 Zk0 ZpV decide_eq_true decide_eq_false wF1 wF2 wF3 Zk Zpv Zup Zuq Zur Zus Zut Zun Zuo ZrS ZrT ZrU ZpG ZrV ZrW ZrX Zuv Zuw Zux Zuy ZpJ ZpK Zr2 Zr3 Zr4 ZpL ZpM Znh ZpN ZpO ZkT Zsc Zsd Zse Zsf id roB kpR cond_true cond_false at0 at1 at2 gTp gCs gNl gNm List.set_cons_zero List.set_cons_succ iY db ao bS aa ae aL dj aS cO cu aY cr List.replicate_zero Option.join_some Option.isSome_some ZkU Zg2 Zbg ZlN ZpP ZpQ ZC ZbA ZfM ZuC Zrg ZpS Zsb ZpT ZpU ZpW ZpX ZpY ZpZ Zp0 Zp1 Zp2 Zp3 Zp4 Zp5 Zp6 Zp7 true_and and_true dW Bool.not_false decide_true decide_false Nat.reduceAdd Nat.reduceLeDiff Nat.reduceLT Nat.add_zero kX Int.reducePow Int.reduceToNat Int.reduceNeg Int.reduceMod Int.reduceDiv Int.reduceAdd Int.reduceSub Int.reduceMul Int.cast_ofNat_Int Int.reduceEq Int.reduceLT Int.reduceLE".splitOn " ").toArray.mapM fun s=>`(Lean.Parser.Tactic.simpLemma|$(Lean.mkIdent s.toName):ident);`(tactic|simp $c:optConfig (disch := lia) only [$x,*,$ls,*])
set_option hygiene true
namespace CC
open L2 DL
section
variable {Q:W0}
theorem Zjy(ha: -(18446744073709551616)<a/\a<18446744073709551616)(hb: -(18446744073709551616)<b/\b<18446744073709551616):wO (F_crossed [pr a b,pr c d] M) Q E=Q (.int (a*d-b*c)) M:=by
 simp![F_crossed,ZdG]
theorem ZcU(ha: -(18446744073709551616)<a/\a<18446744073709551616)(hb: -(18446744073709551616)<b/\b<18446744073709551616):wO (F_law_cross [pr a b,pr c d] M) Q E=Q (.int (a*d-b*c)) M:=Zjy ha hb
theorem ZdH(h:M[n]?=some (.lst (prs rs)))(hi:0<=i/\i<rs.length):wO (F_following [.ref n,.int i] M) Q E=Q (pr (cy rs (i+1)).1 (cy rs (i+1)).2) M:=by
 have e:=Zax (i:=i+1) (m:=rs.length) (by lia)
 simp![F_following,Zca,h,ZdE,Zc5]
theorem Zcb(h:i<(prs rs).length):(prs rs)[i]=pr (cy rs i).1 (cy rs i).2:=by
 have h':i<rs.length:=by rw[ZC]at h;exact h
 rw[Zjq h'];simp[prs]
noncomputable def tf(w m:Int)(p:Pt):Pt:=if w=0 then(p.1+m*p.2,p.2)else if w=1 then(p.1,p.2+m*p.1)else if w=2 then(0-p.2,p.1)else p
theorem ZdI(h1:X a w=p)(h2:X w b=q):in1 w a b=if 0<=p/\0<q then 1 else 0:=by unfold in1;rw[h1,h2]
theorem ZdJ(h1:X a w=p)(h2:X w b=q):in2 w a b=if 0<p/\0<=q then 1 else 0:=by unfold in2;rw[h1,h2]
theorem ZuX:Fan [(1,0),(0,1),(-1,-1)]:=by
 rintro⟨x,y⟩ hw;have hw':¬(x=0/\y=0):=fun z=>hw (by rw[z.1,z.2])
 have a1:X (1,0) (x,y)=y:=by simp[X]
 have a2:X (0,1) (x,y)= -x:=by simp[X]
 have a3:X (-1,-1) (x,y)=x-y:=by simp[X];lia
 have b1:X (x,y) (0,1)=x:=by simp[X]
 have b2:X (x,y) (-1,-1)=y-x:=by simp[X];lia
 have b3:X (x,y) (1,0)= -y:=by simp[X]
 simp only[cyc,fU,jT,aS,cO,cc];rw[ZdI a1 b1,ZdI a2 b2,ZdI a3 b3,ZdJ a1 b1,ZdJ a2 b2,ZdJ a3 b3];clear a1 a2 a3 b1 b2 b3 hw;constructor
 all_goals
  repeat' split
  all_goals lia
theorem ZuY(f:Int):Fan [(1,0),(0,1),(-1,f),(0,-1)]:=by
 rintro⟨x,y⟩ hw;have hw':¬(x=0/\y=0):=fun z=>hw (by rw[z.1,z.2])
 have h0:x=0->x*f=0:=fun z=>by rw[z,Int.zero_mul]
 have a1:X (1,0) (x,y)=y:=by simp[X]
 have a2:X (0,1) (x,y)= -x:=by simp[X]
 have a3:X (-1,f) (x,y)= -y-x*f:=by unfold X;simp only;grind
 have a4:X (0,-1) (x,y)=x:=by simp[X]
 have b1:X (x,y) (0,1)=x:=by simp[X]
 have b2:X (x,y) (-1,f)=x*f+y:=by unfold X;simp only;grind
 have b3:X (x,y) (0,-1)= -x:=by simp[X]
 have b4:X (x,y) (1,0)= -y:=by simp[X]
 simp only[cyc,fU,jT,aS,cO,cc];rw[ZdI a1 b1,ZdI a2 b2,ZdI a3 b3,ZdI a4 b4,ZdJ a1 b1,ZdJ a2 b2,ZdJ a3 b3,ZdJ a4 b4];clear a1 a2 a3 a4 b1 b2 b3 b4 hw;generalize x*f=z at *;constructor
 all_goals
  repeat' split
  all_goals lia
theorem ZuZ:Smo [(1,0),(0,1),(-1,-1)]:=by
 refine⟨by decide,ZeR (P:=fun a b=>X a b=1) (by decide) ?_,ZuX⟩
 intro i h0 h1
 have:i=0\/i=1\/i=2:=by simp at h1;lia
 rcases this with rfl|rfl|rfl<;>rfl
theorem Zu0(f:Int):Smo [(1,0),(0,1),(-1,f),(0,-1)]:=by
 refine⟨by simp,ZeR (P:=fun a b=>X a b=1) (by simp) ?_,ZuY f⟩
 intro i h0 h1
 have:i=0\/i=1\/i=2\/i=3:=by simp at h1;lia
 rcases this with rfl|rfl|rfl|rfl<;>simp[X,cy]
end
end CC
namespace DL
def T(rs:List Pt)(i:Int):Int:=0-X (cy rs (i-1)) (cy rs (i+1))
end DL
namespace CC
open L2 DL
end CC
namespace DL
noncomputable def del(rs:List Pt)(k:Nat):List Pt:=rs.take k++rs.drop (k+1)
theorem Zqv(p q:Pt):X p q=0-X q p:=by unfold X;grind
theorem Zjz(hk:k<rs.length):(del rs k).length=rs.length-1:=by simp[del];lia
noncomputable def nm(p:Pt):Int:=p.1*p.1+p.2*p.2
theorem Znv(e:R++L=b::(Y++[a]))(hf:f a b=f a p+f p b):cyc f (L++R)=cyc f (L++p::R):=by
 rw[Zb9 L R,e,Zb9 L,aS,e];simp only[Zbh,aS,cc];have e1:b::(Y++[a]++[p])=(b::Y)++a::[p]:=by simp
 have e2:b::(Y++[a]++[b])=(b::Y)++a::[b]:=by simp
 rw[e1,e2,Zc6 (b::Y) a [p],Zc6 (b::Y) a [b]];simp only[cc];lia
end DL
namespace CE
open L2 DL
end CE
namespace CE
open L2 DL
end CE
namespace CF
open L2 DL CC
end CF
namespace CF
open L2 DL
section
variable {rs:List Pt}
theorem Nr.del{b:Int}{k:Nat}(h:Nr b rs):Nr b (del rs k):=fun p hp=>h p (by
 rcases bC.mp hp with z|z
 ·exact c9 z
 ·exact da z)
end
end CF
namespace DL
open L2 DL
end DL
namespace CB
open L2 DL
end CB
namespace DL
noncomputable def hj(t b:Int):List Int:=if h:0<b then -((-t)/b)::hj b (-((-t)/b)*b-t)else[]
termination_by b.toNat
decreasing_by
 have h1:=eU (-t) (show b≠0 by lia)
 have h2:=dG (-t) h;have h3:=Int.emod_add_mul_ediv (-t) b;rw[Int.neg_mul,Int.mul_comm];lia
end DL
namespace CB
open L2 DL
section
variable {a:Int}{u v w:Pt}
noncomputable abbrev Bd(b:Int)(p:Pt):Prop:=(-b<=p.1/\p.1<=b)/\ -b<=p.2/\p.2<=b
structure Wg(u v:Pt):Prop where
 gu:bq u.1 u.2=1
 gv:bq v.1 v.2=1
 bu:Bd 1000 u
 bv:Bd 1000 v
 pos:0<X u v
theorem Wg.le(h:Wg u v):X u v<=2000000:=by
 obtain⟨_,_,⟨⟨a1,a2⟩,a3,a4⟩,⟨⟨b1,b2⟩,b3,b4⟩,_⟩:=h;have m:∀x y:Int,-1000<=x->x<=1000-> -1000<=y->y<=1000->(x*y).natAbs<=1000*1000:=by
  intro x y _ _ _ _;rw[jU];exact Nat.mul_le_mul (by lia) (by lia)
 have p1:=m u.1 v.2 a1 a2 b3 b4;have p2:=m u.2 v.1 a3 a4 b1 b2;unfold X;lia
structure Fb(u v w:Pt):Prop where
 one:X u w=1
 lo:0<=X w v
 hi:X w v<X u v
theorem Fb.uniq{w:Pt}(h:Fb u v w)(k:Fb u v w'):w=w':=by
 obtain⟨h1,a1,a2⟩:=h;obtain⟨h2,b1,b2⟩:=k;have e1:w'.1=X w' w*u.1+w.1/\w'.2=X w' w*u.2+w.2:=by unfold X at *;constructor<;>grind
 have e2:X w' v=X w' w*X u v+X w v:=by
  have:X w' v=X (X w' w*u.1+w.1,X w' w*u.2+w.2) v:=by rw[<-e1.1,<-e1.2]
  rw[this];unfold X;simp only;grind
 generalize X w' w=k at *;have k0:k=0:=by
  apply cQ;intro c;by_cases p:1<=k
  ·have:1*X u v<=k*X u v:=eE p (by lia)
   lia
  ·have:k*X u v<=(-1)*X u v:=eE (by lia) (by lia)
   lia
 rw[k0]at e1;apply jF<;>lia
noncomputable def btw:Pt->Pt->List Int->List Pt
 |_,_,[]=>[]
 |a,r,k::ks=>r::btw r (k*r.1-a.1,k*r.2-a.2) ks
end
end CB
namespace CB
open L2 DL
section
variable {a b d:Int}
def Ch:List Pt->Prop
 |a::b::r=>X a b=1/\Ch (b::r)
 |_=>True
noncomputable def Tr(a b d:Pt):Prop:=∃k:Int,2<=k/\a.1+d.1=k*b.1/\a.2+d.2=k*b.2
def Cv:List Pt->Prop
 |a::b::d::r=>Tr a b d/\Cv (b::d::r)
 |_=>True
end
end CB
namespace CA
open L2 DL
def ZfP:Sv:=(Zv (ZF (gNm 2) (eC (.int 0))) (Zv (sIf (tv (e2 dLt (Zg 1) (Zj bLen (Zc (Zg 0) aNil)))) (ZF (gNm 2) (Zj bAbs (Zc (e2 dIx (Zg 0) (Zg 1)) aNil))) sNil) (Zv (ZF (gNm 3) (e2 dAdd (eC (.int 1)) (e2 dMod (e2 dAdd (e2 dAdd (e2 dAdd (e2 dMod (Zg 2) (eC (.int 2147483647))) (e2 dMul (e2 dMul (eC (.int 7919)) (Zg 1)) (Zg 1))) (e2 dMul (eC (.int 11)) (Zg 1))) (eC (.int 5))) (eC (.int 2147483646))))) (ZE (Zak (Zc (e2 dMul (Zg 2) (Zj bInt (Zc (e2 dGe (Zg 2) (e2 dPow (eC (.int 10)) (eC (.int 18)))) aNil))) (Zc (Zg 3) aNil)))))))
def F_law_bag:W3:=fnF ZfP 2 2
def ZdK:Sv:=(Zv (sIf (tv (e2 dGt (e2 dIx (Zg 0) (eC (.int 0))) (eC (.int 0)))) (Zv (ZF (gNm 2) (e2 dMod (e2 dIx (Zg 0) (eC (.int 0))) (Zg 1))) (Zv (Zfq (Zg 0) (eC (.int 0)) (e2 dDiv (e2 dIx (Zg 0) (eC (.int 0))) (Zg 1))) (ZE (Zg 2)))) sNil) (Zv (Zfq (Zg 0) (eC (.int 1)) (e2 dMod (e2 dMul (e2 dIx (Zg 0) (eC (.int 1))) (eC (.int 48271))) (eC (.int 2147483647)))) (ZE (e2 dMod (e2 dDiv (e2 dMod (e2 dMul (e2 dIx (Zg 0) (eC (.int 1))) (eC (.int 16807))) (eC (.int 2147483647))) (eC (.int 32))) (Zg 1)))))
def F_law_digit:W3:=fnF ZdK 2 1
def ZdL:Sv:=(Zv (ZF (gTp (gCs (gNm 2) (gCs (gNm 3) gNl))) (Zg 0)) (ZE (Z6 (Zc (e2 dAdd (e2 dMul (e2 dIx (Zg 2) (eC (.int 0))) (e2 dIx (Zg 1) (eC (.int 0)))) (e2 dMul (e2 dIx (Zg 2) (eC (.int 1))) (e2 dIx (Zg 1) (eC (.int 1))))) (Zc (e2 dAdd (e2 dMul (e2 dIx (Zg 3) (eC (.int 0))) (e2 dIx (Zg 1) (eC (.int 0)))) (e2 dMul (e2 dIx (Zg 3) (eC (.int 1))) (e2 dIx (Zg 1) (eC (.int 1))))) aNil)))))
def F_law_led:W3:=fnF ZdL 2 2
def ZcV:Sv:=(Zv (ZF (gNm 2) (Zj F_law_led (Zc (Zg 1) (Zc (Z6 (Zc (e2 dIx (e2 dIx (Zg 0) (eC (.int 0))) (eC (.int 0))) (Zc (e2 dIx (e2 dIx (Zg 0) (eC (.int 1))) (eC (.int 0))) aNil))) aNil)))) (Zv (ZF (gNm 3) (Zj F_law_led (Zc (Zg 1) (Zc (Z6 (Zc (e2 dIx (e2 dIx (Zg 0) (eC (.int 0))) (eC (.int 1))) (Zc (e2 dIx (e2 dIx (Zg 0) (eC (.int 1))) (eC (.int 1))) aNil))) aNil)))) (ZE (Z6 (Zc (Z6 (Zc (e2 dIx (Zg 2) (eC (.int 0))) (Zc (e2 dIx (Zg 3) (eC (.int 0))) aNil))) (Zc (Z6 (Zc (e2 dIx (Zg 2) (eC (.int 1))) (Zc (e2 dIx (Zg 3) (eC (.int 1))) aNil))) aNil))))))
def F_law_both:W3:=fnF ZcV 2 2
def Zay:Sv:=(Zv (ZF (gNm 3) (e2 dSub (Zj F_law_digit (Zc (Zg 0) (Zc (eC (.int 7)) aNil))) (eC (.int 3)))) (Zv (ZF (gNm 4) (Zak (Zc (Z6 (Zc (Z6 (Zc (eC (.int 1)) (Zc (Zg 3) aNil))) (Zc (Z6 (Zc (eC (.int 0)) (Zc (eC (.int 1)) aNil))) aNil))) (Zc (Z6 (Zc (Z6 (Zc (eC (.int 1)) (Zc (eC (.int 0)) aNil))) (Zc (Z6 (Zc (Zg 3) (Zc (eC (.int 1)) aNil))) aNil))) (Zc (Z6 (Zc (Z6 (Zc (eC (.int 0)) (Zc (eC (.int 1)) aNil))) (Zc (Z6 (Zc (eC (.int 1)) (Zc (eC (.int 0)) aNil))) aNil))) (Zc (Z6 (Zc (Z6 (Zc (eC (.int 0)) (Zc (Zfa (eC (.int 1))) aNil))) (Zc (Z6 (Zc (eC (.int 1)) (Zc (eC (.int 0)) aNil))) aNil))) aNil)))))) (ZF (gNm 1) (Zj F_law_both (Zc (Zg 1) (Zc (e2 dIx (Zg 4) (Zj F_law_digit (Zc (Zg 0) (Zc (eC (.int 4)) aNil)))) aNil))))))
def Zbj:Sv:=(Zv (ZF (gNm 1) (Z6 (Zc (Z6 (Zc (eC (.int 1)) (Zc (eC (.int 0)) aNil))) (Zc (Z6 (Zc (eC (.int 0)) (Zc (eC (.int 1)) aNil))) aNil)))) (Zv (ZaF (gNm 2) (Zc (Zj F_law_digit (Zc (Zg 0) (Zc (eC (.int 4)) aNil))) aNil) Zay) (ZE (Zg 1))))
def F_law_turning:W3:=fnF Zbj 1 4
def Zbi:Sv:=(ZE (e2 dSub (e2 dMul (e2 dIx (Zg 0) (eC (.int 0))) (e2 dIx (Zg 1) (eC (.int 1)))) (e2 dMul (e2 dIx (Zg 0) (eC (.int 1))) (e2 dIx (Zg 1) (eC (.int 0))))))
def F_law_cross:W3:=fnF Zbi 2 0
def ZdM:Sv:=(ZE (Z6 (Zc (e2 dAdd (e2 dIx (Zg 0) (eC (.int 0))) (e2 dIx (Zg 1) (eC (.int 0)))) (Zc (e2 dAdd (e2 dIx (Zg 0) (eC (.int 1))) (e2 dIx (Zg 1) (eC (.int 1)))) aNil))))
def F_law_sum:W3:=fnF ZdM 2 0
def ZbR:Sv:=(ZE (Zav (e2 dLe (Zj bAbs (Zc (e2 dIx (Zg 0) (eC (.int 0))) aNil)) (eC (.int 200))) (e2 dLe (Zj bAbs (Zc (e2 dIx (Zg 0) (eC (.int 1))) aNil)) (eC (.int 200)))))
def F_law_near:W3:=fnF ZbR 1 0
def Zbk:Sv:=(Zv (ZF (gNm 3) (ZaH (iSq (Zg 0)) 1 [1] (gNm 0) (fun _ M=>.ok true M) (Zj F_law_led (Zc (Zg 1) (Zc (Zg 0) aNil))))) (Zv (sIf (Z9 (tv (Zj bAll (Zc (ZaH (iSq (Zg 3)) 1 [] (gNm 0) (fun _ M=>.ok true M) (Zj F_law_near (Zc (Zg 0) aNil))) aNil)))) (ZF (gNm 3) (Zj bList (Zc (Zg 0) aNil))) (sIf (tv (e2 dLt (Zj F_law_cross (Zc (e2 dIx (Zg 3) (eC (.int 0))) (Zc (e2 dIx (Zg 3) (eC (.int 1))) aNil))) (eC (.int 0)))) (ZF (gNm 3) (eRv (Zg 3))) sNil)) (ZE (e2 dAdd (eSl (Zg 3) (oSo (Zg 2)) oNo) (eSl (Zg 3) oNo (oSo (Zg 2)))))))
def F_law_brought:W3:=fnF Zbk 3 1
def ZaJ:Sv:=(Zv (ZF (gNm 4) (Zj F_law_digit (Zc (Zg 0) (Zc (Zj bLen (Zc (Zg 2) aNil)) aNil)))) (Zv (ZF (gNm 5) (Zj F_law_sum (Zc (e2 dIx (Zg 2) (Zg 4)) (Zc (e2 dIx (Zg 2) (e2 dMod (e2 dAdd (Zg 4) (eC (.int 1))) (Zj bLen (Zc (Zg 2) aNil)))) aNil)))) (sIf (Zar (tv (Zj F_law_near (Zc (Zg 5) aNil))) (tv (e2 dLt (Zj bLen (Zc (Zg 2) aNil)) (eC (.int 14))))) (ZF (gNm 2) (e2 dAdd (e2 dAdd (eSl (Zg 2) oNo (oSo (e2 dAdd (Zg 4) (eC (.int 1))))) (Zak (Zc (Zg 5) aNil))) (eSl (Zg 2) (oSo (e2 dAdd (Zg 4) (eC (.int 1)))) oNo))) sNil)))
def ZbB:Sv:=(Zv (ZF (gNm 1) (Zj F_law_digit (Zc (Zg 0) (Zc (e2 dIx (Zak (Zc (eC (.int 4)) (Zc (eC (.int 4)) (Zc (eC (.int 4)) (Zc (eC (.int 4)) (Zc (eC (.int 4)) (Zc (eC (.int 4)) (Zc (eC (.int 12)) (Zc (eC (.int 201)) aNil))))))))) (Zj F_law_digit (Zc (Zg 0) (Zc (eC (.int 8)) aNil)))) aNil)))) (Zv (ZF (gNm 2) (e2 dIx (Zak (Zc (Zak (Zc (Z6 (Zc (eC (.int 1)) (Zc (eC (.int 0)) aNil))) (Zc (Z6 (Zc (eC (.int 0)) (Zc (eC (.int 1)) aNil))) (Zc (Z6 (Zc (Zfa (eC (.int 1))) (Zc (Zfa (eC (.int 1))) aNil))) aNil)))) (Zc (Zak (Zc (Z6 (Zc (eC (.int 1)) (Zc (eC (.int 0)) aNil))) (Zc (Z6 (Zc (eC (.int 0)) (Zc (eC (.int 1)) aNil))) (Zc (Z6 (Zc (Zfa (eC (.int 1))) (Zc (Zg 1) aNil))) (Zc (Z6 (Zc (eC (.int 0)) (Zc (Zfa (eC (.int 1))) aNil))) aNil))))) aNil))) (Zj F_law_digit (Zc (Zg 0) (Zc (eC (.int 2)) aNil))))) (Zv (ZaF (gNm 3) (Zc (Zj F_law_digit (Zc (Zg 0) (Zc (e2 dIx (Zak (Zc (eC (.int 5)) (Zc (eC (.int 5)) (Zc (eC (.int 12)) (Zc (eC (.int 5)) aNil))))) (Zj F_law_digit (Zc (Zg 0) (Zc (eC (.int 4)) aNil)))) aNil))) aNil) ZaJ) (Zv (ZF (gNm 6) (Zj F_law_digit (Zc (Zg 0) (Zc (Zj bLen (Zc (Zg 2) aNil)) aNil)))) (ZE (Zj F_law_brought (Zc (Zg 2) (Zc (Zj F_law_turning (Zc (Zg 0) aNil)) (Zc (Zg 6) aNil)))))))))
def F_law_smooth:W3:=fnF ZbB 1 6
end CA
namespace CA
open L2 DL
theorem ZjA:F_law_digit=FDigit:=rfl
theorem ZsR:F_law_bag=FBag:=rfl
theorem Zgd:F_law_cross=CC.F_law_cross:=rfl
abbrev mt(a b c d:Int):D:=.tup [pr a b,pr c d]
structure Tn(B a b c d:Int):Prop where
 fa: -B<=a/\a<=B
 fb: -B<=b/\b<=B
 fc: -B<=c/\c<=B
 fd: -B<=d/\d<=B
 det:a*d-b*c=1\/a*d-b*c= -1
theorem ZlY(hx: -B<=x/\x<=B)(hy: -C<=y/\y<=C): -(B*C)<=x*y/\x*y<=B*C:=by
 have h:(x*y).natAbs<=(B*C).natAbs:=by
  rw[jU,jU];exact Nat.mul_le_mul (by lia) (by lia)
 have:0<=B*C:=iF (by lia) (by lia)
 lia
section
variable {rs:List Pt}
theorem ZsS{ns:List Int}{k:Nat}(hk:k<1000)(q:∀a b:Int,0<=a->Q (.ref M.length) (M++[.lst [.int a,.int b]])):wO (F_law_bag [.rol (ns.map D.int),.int k] M) Q E:=by
 obtain⟨a,b,h,e⟩:=Zps (ns:=ns) (k:=k) (M:=M) hk;rw[ZsR,e];exact q a b h
theorem ZB(hb:Bag n M)(ht:0<t/\t<18446744073709551616)(q:∀r M',0<=r->r<t->Gr n M M'->Q (.int r) M'):wO (F_law_digit [.ref n,.int t] M) Q E:=by
 obtain⟨r,M',e,r0,r1,g⟩:=Zg0 hb ht.1 (Zc4 ht);rw[ZjA,e];exact q r M' r0 r1 g
theorem Zqw(h:Tn 1000000 a b c d):wO (F_law_led [mt a b c d,pr x y] M) Q E=Q (pr (a*x+b*y) (c*x+d*y)) M:=by
 obtain⟨h1,h2,h3,h4,_⟩:=h;simp![F_law_led,ZdL]
theorem Zqx(h:Tn 1000000 p q r s):wO (F_law_both [mt a b c d,mt p q r s] M) Q E=Q (mt (p*a+q*c) (p*b+q*d) (r*a+s*c) (r*b+s*d)) M:=by
 simp![F_law_both,ZcV,Zqw h]
theorem Znw(h:Tn B a b c d)(k:Tn 3 p q r s):Tn (6*B) (p*a+q*c) (p*b+q*d) (r*a+s*c) (r*b+s*d):=by
 refine⟨?_,?_,?_,?_,?_⟩
 ·have:=ZlY k.fa h.fa;have:=ZlY k.fb h.fc;lia
 ·have:=ZlY k.fa h.fb;have:=ZlY k.fb h.fd;lia
 ·have:=ZlY k.fc h.fa;have:=ZlY k.fd h.fc;lia
 ·have:=ZlY k.fc h.fb;have:=ZlY k.fd h.fd;lia
 ·have:(p*a+q*c)*(r*b+s*d)-(p*b+q*d)*(r*a+s*c)=(p*s-q*r)*(a*d-b*c):=by grind
  rw[this];rcases h.det with e|e<;>rcases k.det with e'|e'<;>rw[e,e']<;>decide
theorem Tn.mono(h:Tn B a b c d)(hb:B<=B'):Tn B' a b c d:=by
 obtain⟨h1,h2,h3,h4,h5⟩:=h;exact⟨by lia,by lia,by lia,by lia,h5⟩
theorem ZjB(hb:Bag n M)(q:∀a b c d M',Tn 216 a b c d->Gr n M M'->Q (mt a b c d) M'):wO (F_law_turning [.ref n] M) Q E:=by
 simp![F_law_turning,Zbj];refine ZB hb (by decide) fun r M1 r0 r1 g1=>?_
 simp![Zk];refine⟨by lia,?_⟩
 refine Zb0 (fun i ρ M'=>∃a b c d x y z,ρ=[some (.ref n),some (mt a b c d),x,y,z]/\Tn (6^i) a b c d/\Gr n M M') ⟨1,0,0,1,_,_,_,rfl,⟨by decide,by decide,by decide,by decide,.inl (by decide)⟩,g1⟩ ?_ ?_
 ·rintro i ρ M2 hi ⟨a,b,c,d,x,y,z,rfl,tn,gr⟩;simp![Zay];refine ZB gr.bag (by decide) fun s M3 s0 s1 g3=>?_
  simp![Zk];refine ZB (g3.bag.app _) (by decide) fun k M4 k0 k1 g4=>?_
  have hL:=Gr.new g3.bag g4;obtain⟨p,q',r',s',ht,tk⟩:∃p q r' s',atI [mt 1 (s-3) 0 1,mt 1 0 (s-3) 1,mt 0 1 1 0,mt 0 (-1) 1 0] k=some (mt p q r' s')/\Tn 3 p q r' s':=by
   have:k=0\/k=1\/k=2\/k=3:=by lia
   rcases this with rfl|rfl|rfl|rfl
   ·exact⟨1,s-3,0,1,rfl,⟨by decide,by lia,by decide,by decide,.inl (by grind)⟩⟩
   ·exact⟨1,0,s-3,1,rfl,⟨by decide,by decide,by lia,by decide,.inl (by grind)⟩⟩
   ·exact⟨0,1,1,0,rfl,⟨by decide,by decide,by decide,by decide,.inr (by decide)⟩⟩
   ·exact⟨0,-1,1,0,rfl,⟨by decide,by decide,by decide,by decide,.inl (by decide)⟩⟩
  simp![hL,ht,Zqx (tk.mono (by decide))]
  have bt:=Znw tn tk;rw[show(6:Int)*6^i=6^(i+1)by rw[Int.pow_succ,Int.mul_comm]]at bt
  exact⟨_,_,_,_,_,_,_,rfl,bt,(gr.trans g3).trans ((Gr.app g3.bag _).trans g4)⟩
 ·rintro ρ M2 ⟨a,b,c,d,x,y,z,rfl,tn,gr⟩;simp![Zk];refine q a b c d M2 (tn.mono ?_) gr
  have:r.toNat=0\/r.toNat=1\/r.toNat=2\/r.toNat=3:=by lia
  rcases this with e|e|e|e<;>rw[e]<;>decide
theorem ZlZ:wO (F_law_near [pr x y] M) Q E=Q (.bl (decide ((-200<=x/\x<=200)/\ -200<=y/\y<=200))) M:=by
 by_cases h1: -200<=x/\x<=200
 ·simp![F_law_near,ZbR];congr 2;rw[eQ];simp only[decide_eq_true_eq];lia
 ·simp![F_law_near,ZbR]
theorem ZfQ(bs:List Bool):Zaz (bs.map D.bl)=some bs:=by
 induction bs with
 |nil=>rfl
 |cons b r ih=>
  show(match Zaz (r.map D.bl)with|some bs=>some (b::bs)|none=>none)=_
  rw[ih]
theorem Zl0(h:rs≠[])(i:Int):cy rs.reverse i=cy rs (-1-i):=by
 have hl:rs.length≠0:=by simpa using h
 have e1:cy rs.reverse i=cy rs.reverse (i%rs.length):=by
  conv=>rhs;rw[<-cM (as:=rs),Zc5]
 have e2:cy rs (-1-i)=cy rs (-1-i%rs.length):=by
  unfold cy;congr 2;rw[Int.sub_emod,Int.sub_emod (-1) (i%rs.length),jQ _ (Int.dvd_refl _)]
 rw[e1,e2];obtain⟨a,b⟩:=Zax (i:=i) hl;generalize i%(rs.length:Int)=m at *;rw[Zb8 (by rw[cM];lia),<-Zg3 (rs:=rs),Zb8 (by lia)]
 rw[aN,aN,ju (by lia)]
 congr 2;lia
theorem Znx(hl:3<=rs.length)(h:∀i:Int,X (cy rs i) (cy rs (i+1))= -1)(hf:Fan rs.reverse):Smo rs.reverse:=by
 have ne:rs≠[]:=by intro z;rw[z]at hl;simp at hl
 refine⟨by rw[cM];exact hl,fun i=>?_,hf⟩
 rw[Zl0 ne,Zl0 ne,Zqv]
 have:=h (-1-(i+1))
 rw[show -1-(i+1)+1= -1-i by lia]at this
 lia
theorem Zny:(prs rs).reverse=prs rs.reverse:=by simp[prs]
theorem ZjC{st:Int}(h:M[n]?=some (.lst (prs rs)))(hs:Smo rs)(hb:Nr 200 rs)(hl:rs.length<=1000)(ht:Tn 1000000 a b c d)(hst:0<=st/\st<=rs.length)(q:∀ss m M',Smo ss->Nr 200 ss->ss.length=rs.length->M.length<=m->M'[m]?=some (.lst (prs ss))->M.length<=M'.length->(∀k,k<M.length->M'[k]?=M[k]?)->Q (.ref m) M'):wO (F_law_brought [.ref n,mt a b c d,.int st] M) Q E:=by
 have hn:=ZM h;have h3:=hs.len;simp![F_law_brought,Zbk];refine Zqp (fun ρ=>∃x,ρ=[x,some (mt a b c d)]) (fun(i:Nat)=>pr (a*(cy rs i).1+b*(cy rs i).2) (c*(cy rs i).1+d*(cy rs i).2)) h (by rw[ZC];lia) ⟨_,rfl⟩ ?_ ?_
 ·rintro i hi ρ L ⟨x,rfl⟩;rw[CC.Zcb];simp![Zqw ht];exact⟨_,rfl⟩
 rw[Zk2,ZC];generalize hT:((aJ rs.length).map fun(i:Nat)=>(a*(cy rs i).1+b*(cy rs i).2,c*(cy rs i).1+d*(cy rs i).2))=ts;have eT:ts=rs.map fun p=>(a*p.1+b*p.2,c*p.1+d*p.2):=by
  rw[<-hT];apply gQ
  ·simp
  ·intro i h1 h2;simp at h1;simp[Zjq h1]
 have tl:ts.length=rs.length:=by rw[eT];simp
 have tX:∀i:Int,X (cy ts i) (cy ts (i+1))=a*d-b*c:=by
  intro i;rw[eT,ZlT hs.ne,ZlT hs.ne]
  have:=hs.one i
  have e:X (a*(cy rs i).1+b*(cy rs i).2,c*(cy rs i).1+d*(cy rs i).2) (a*(cy rs (i+1)).1+b*(cy rs (i+1)).2,c*(cy rs (i+1)).1+d*(cy rs (i+1)).2)=(a*d-b*c)*X (cy rs i) (cy rs (i+1)):=by unfold X;simp only;grind
  rw[e,this,Int.mul_one]
 have lX:∀p q:Pt,X (a*p.1+b*p.2,c*p.1+d*p.2) (a*q.1+b*q.2,c*q.1+d*q.2)=(a*d-b*c)*X p q:=by
  intro p q;unfold X;simp only;grind
 have tne:ts≠[]:=by intro z;rw[z]at tl;simp at tl;lia
 have k1:(M++[SO.lst (prs ts)])[M.length]?=some (.lst (prs ts)):=by simp
 have k2:(M++[SO.lst (prs ts)])[n]?=some (.lst (prs rs)):=by rw[Zbg hn];exact h
 have l1:(M++[SO.lst (prs ts)]).length=M.length+1:=by simp
 have g1:∀k,k<M.length->(M++[SO.lst (prs ts)])[k]?=M[k]?:=fun k hk=>Zbg hk;generalize M++[SO.lst (prs ts)]=M1 at *;simp![Zk];refine Zqp (fun ρ=>∃x,ρ=[x]) (fun(i:Nat)=>.bl (decide ((-200<=(cy ts i).1/\(cy ts i).1<=200)/\ -200<=(cy ts i).2/\(cy ts i).2<=200))) k1 (by rw[ZC];lia) ⟨_,rfl⟩ ?_ ?_
 ·rintro i hi ρ L ⟨x,rfl⟩;rw[CC.Zcb];simp![ZlZ];exact⟨_,rfl⟩
 have eB:(aJ (prs ts).length).map (fun(i:Nat)=>D.bl (decide ((-200<=(cy ts i).1/\(cy ts i).1<=200)/\ -200<=(cy ts i).2/\(cy ts i).2<=200)))=((aJ ts.length).map fun(i:Nat)=>decide ((-200<=(cy ts i).1/\(cy ts i).1<=200)/\ -200<=(cy ts i).2/\(cy ts i).2<=200)).map D.bl:=by
  rw[bM,ZC];rfl
 rw[eB];generalize hbs:((aJ ts.length).map fun(i:Nat)=>decide ((-200<=(cy ts i).1/\(cy ts i).1<=200)/\ -200<=(cy ts i).2/\(cy ts i).2<=200))=bs;have nr:bs.all id=true->Nr 200 ts:=by
  intro hall p hp;obtain⟨k,hk,rfl⟩:=di hp
  have:=bh.mp hall (decide ((-200<=(cy ts k).1/\(cy ts k).1<=200)/\ -200<=(cy ts k).2/\(cy ts k).2<=200)) (by
   rw[<-hbs];exact a9.mpr ⟨k,d8.mpr hk,rfl⟩)
  have:=of_decide_eq_true this
  rw[Zjq hk]at this;exact this
 simp![ZfQ];refine ZnT (fun ρ M'=>∃ss m,ρ=[some (.ref n),some (mt a b c d),some (.int st),some (.ref m)]/\Smo ss/\Nr 200 ss/\ss.length=rs.length/\M'[m]?=some (.lst (prs ss))/\M1.length<=M'.length/\(∀k,k<M1.length->M'[k]?=M1[k]?)) ?_ ?_
 ·generalize hall:bs.all id=al at *;refine Znl (fun h=>?_) (fun h=>?_)
  ·simp![k2];exact⟨rs,_,rfl,hs,hb,rfl,by rw[Zg2];rfl,by lia,fun k hk=>by rw[Zbg hk]⟩
  ·have al1:al=true:=by simpa using h
   have N:=nr al1;have b0:=Nr.cy N tne 0;simp![k1,ZdE,Zgd,CC.ZcU];have t0:=tX 0;rw[show(0:Int)+1=1 by lia]at t0
   refine brS (fun z=>?_) (fun z=>?_)
   ·simp![k1];have dm:a*d-b*c= -1:=by
     rcases ht.det with e|e
     ·unfold X at t0;lia
     ·exact e
    refine⟨ts.reverse,_,rfl,Znx (by lia) (fun i=>by rw[tX i,dm]) (by rw[eT];exact hs.fan.flip (f:=fun p=>(a*p.1+b*p.2,c*p.1+d*p.2)) fun p q=>by rw[lX,dm]),fun p hp=>N p (by simpa using hp),by rw[cM];exact tl,by rw[Zg2,Zny];rfl,by lia,fun k hk=>by rw[Zbg hk]⟩
   ·simp![Zk];have dm:a*d-b*c=1:=by
     rcases ht.det with e|e
     ·exact e
     ·unfold X at t0;lia
    exact⟨ts,_,rfl,⟨by lia,fun i=>by rw[tX i,dm],by rw[eT];exact hs.fan.map (f:=fun p=>(a*p.1+b*p.2,c*p.1+d*p.2)) fun p q=>by rw[lX,dm,jS]⟩,N,tl,by rw[Zbg (by lia)];exact k1,by lia,fun k hk=>by rw[Zbg hk]⟩
 ·rintro _ M2 ⟨ss,m,rfl,s1,s2,s3,s4,s5,s6⟩;have hm:=ZM s4;simp![s4];refine⟨by rw[bF,bO];lia,?_⟩
  refine q (ss.drop st.toNat++ss.take st.toNat) _ _ (s1.rot (by lia)) (Nr.rot s2) (by rw[aa,bF,bO];lia) (by lia) (by rw[Zg2];rfl) (by rw[aa];lia) (fun k hk=>?_)
  rw[Zbg (by lia),s6 k (by lia),g1 k hk]
theorem ZsT:wO (F_law_sum [pr x y,pr z w] M) Q E=Q (pr (x+z) (y+w)) M:=by
 simp![F_law_sum,ZdM]
theorem Gr.up{M1:Sto}(h:M[k]?=some o)(g:Gr n M M1)(hk:k≠n):M1[k]?=some o:=by
 rw[g.keep k hk (ZM h)];exact h
theorem Zg7(hb:Bag n M)(q:∀ss m M',Smo ss->Nr 200 ss->ss.length<=14->M.length<=m->M'[m]?=some (.lst (prs ss))->Gr n M M'->Q (.ref m) M'):wO (F_law_smooth [.ref n] M) Q E:=by
 have hn:=hb.lt;simp![F_law_smooth,ZbB];refine ZB (hb.app _) (by decide) fun r M1 r0 r1 g1=>?_
 have k1:=Gr.new hb g1;simp![k1];obtain⟨sz,hs,z0,z1⟩:∃f:Int,atI [D.int 4,D.int 4,D.int 4,D.int 4,D.int 4,D.int 4,D.int 12,D.int 201] r=some (.int f)/\1<=f/\f<=201:=by
  have:r=0\/r=1\/r=2\/r=3\/r=4\/r=5\/r=6\/r=7:=by lia
  rcases this with rfl|rfl|rfl|rfl|rfl|rfl|rfl|rfl
  ·exact⟨4,rfl,by decide,by decide⟩
  ·exact⟨4,rfl,by decide,by decide⟩
  ·exact⟨4,rfl,by decide,by decide⟩
  ·exact⟨4,rfl,by decide,by decide⟩
  ·exact⟨4,rfl,by decide,by decide⟩
  ·exact⟨4,rfl,by decide,by decide⟩
  ·exact⟨12,rfl,by decide,by decide⟩
  ·exact⟨201,rfl,by decide,by decide⟩
 simp![hs];refine ZB g1.bag (by lia) fun f M2 f0 f1 g2=>?_
 simp![Zk];have gr2:Gr n M M2:=((Gr.app hb _).trans g1).trans g2;have h2:=gr2.bag;have hn2:=h2.lt;refine ZB (h2.app _) (by decide) fun c M3 c0 c1 g3=>?_
 have e0:M3[M2.length]?=some (.lst [pr 1 0,pr 0 1,pr (-1) (-1)]):=by rw[g3.keep _ (by lia) (by simp),ZkU];rfl
 have e1:M3[M2.length+1]?=some (.lst [pr 1 0,pr 0 1,pr (-1) f,pr 0 (-1)]):=by rw[g3.keep _ (by lia) (by simp),Zg2];rfl
 have e2:M3[M2.length+2]?=some (.lst [.ref M2.length,.ref (M2.length+1)]):=by rw[g3.keep _ (by lia) (by simp),Zg2];rfl
 have gr3:Gr n M M3:=gr2.trans ((Gr.app h2 _).trans g3);have ml:=gr2.len;obtain⟨m,ss,hm,hm0,s1,s2,s3,s4⟩:∃m ss,atI [D.ref M2.length,D.ref (M2.length+1)] c=some (.ref m)/\(m≠n/\M.length<=m)/\Smo ss/\Nr 200 ss/\ss.length<=4/\M3[m]?=some (.lst (prs ss)):=by
  have:c=0\/c=1:=by lia
  rcases this with rfl|rfl
  ·refine⟨M2.length,[(1,0),(0,1),(-1,-1)],rfl,by lia,CC.ZuZ,?_,by simp,e0⟩
   intro p hp;simp at hp;rcases hp with rfl|rfl|rfl<;>simp
  ·refine⟨M2.length+1,[(1,0),(0,1),(-1,f),(0,-1)],rfl,by lia,CC.Zu0 f,?_,by simp,e1⟩
   intro p hp;simp at hp;rcases hp with rfl|rfl|rfl|rfl<;>simp<;>lia
 simp![e2,hm];have h3:=gr3.bag;have hn3:=h3.lt;refine ZB (h3.app _) (by decide) fun k M4 k0 k1' g4=>?_
 have k4:=Gr.new h3 g4;obtain⟨tm,ht,t0,t1⟩:∃f:Int,atI [D.int 5,D.int 5,D.int 12,D.int 5] k=some (.int f)/\1<=f/\f<=12:=by
  have:k=0\/k=1\/k=2\/k=3:=by lia
  rcases this with rfl|rfl|rfl|rfl
  ·exact⟨5,rfl,by decide,by decide⟩
  ·exact⟨5,rfl,by decide,by decide⟩
  ·exact⟨12,rfl,by decide,by decide⟩
  ·exact⟨5,rfl,by decide,by decide⟩
 simp![k4,ht];have gr4:Gr n M M4:=gr3.trans ((Gr.app h3 _).trans g4);have a4:M4[m]?=some (.lst (prs ss)):=by rw[g4.keep _ hm0.1 (by have:=ZM s4;simp;lia),Zbg (ZM s4)];exact s4
 refine ZB gr4.bag (by lia) fun lp M5 lp0 lp1 g5=>?_
 simp![Zk];refine⟨by lia,?_⟩
 refine Zb0 (fun i ρ M'=>∃ss m x1 x3 x4 x5 x6,ρ=[some (.ref n),x1,some (.ref m),x3,x4,x5,x6]/\(m≠n/\M.length<=m)/\Smo ss/\Nr 200 ss/\ss.length<=14/\M'[m]?=some (.lst (prs ss))/\Gr n M M') ⟨ss,m,_,_,_,_,_,rfl,hm0,s1,s2,by lia,Gr.up a4 g5 hm0.1,gr4.trans g5⟩ ?_ ?_
 ·rintro i ρ M6 hi ⟨ss,m,x1,x3,x4,x5,x6,rfl,m0,s1,s2,s3,s4,gr⟩;have sl:=s1.len;simp![ZaJ,s4];refine ZB gr.bag (by lia) fun av M7 a0 a1 g7=>?_
  have b4:=Gr.up s4 g7 m0.1;have hb4:=ZM b4;have gr7:=gr.trans g7;have hn7:=gr7.bag.lt;obtain⟨av,rfl⟩:∃k:Nat,av=k:=⟨av.toNat,by lia⟩
  have e1:=Zax (i:=(av:Int)+1) (m:=ss.length) (by lia)
  simp![b4,ZdE,Zc5,ZsT,ZlZ];have sm:=s1.ins (k:=av) (by lia)
  have nr:=fun h=>Nr.ins (k:=av) (p:=((cy ss av).1+(cy ss (av+1)).1,(cy ss av).2+(cy ss (av+1)).2)) s2 h;generalize (cy ss av).1+(cy ss (av+1)).1=x at *;generalize (cy ss av).2+(cy ss (av+1)).2=y at *;refine ZhF (fun k M'=>M'=M7/\(k=true->((-200<=x/\x<=200)/\ -200<=y/\y<=200)/\ss.length<14)) ?_ ?_
  ·refine brO (fun h=>?_) (fun h=>?_)
   ·simp![b4];exact fun z=>⟨h,by have:=of_decide_eq_true z;lia⟩
   ·simp![Zk];exact fun z=>by cases z
  rintro k M7 ⟨rfl,hk⟩;simp![Zk];refine Znl (fun h=>?_) (fun h=>?_)
  ·have le:((av:Int)+1).toNat=av+1:=by lia
   obtain⟨hk1,hk2⟩:=hk h;simp![b4,le];refine⟨by rw[bF];lia,by rw[bF,bO];lia,ins ss av (x,y),_,_,_,_,_,_,rfl,by have:=gr7.len;lia,sm,nr hk1,by rw[ZcT (by lia)];lia,by rw[Zg2];rfl,gr7.app2 _⟩
  ·simp![Zk];exact⟨ss,m,_,_,_,_,_,rfl,m0,s1,s2,s3,b4,gr7⟩
 ·rintro ρ M6 ⟨ss,m,x1,x3,x4,x5,x6,rfl,m0,s1,s2,s3,s4,gr⟩;have sl:=s1.len;simp![s4];refine ZB gr.bag (by lia) fun st M7 st0 st1 g7=>?_
  have b4:=Gr.up s4 g7 m0.1;simp![Zk];refine ZjB (gr.trans g7).bag fun a b c d M8 tn g8=>?_;have c4:=Gr.up b4 g8 m0.1;have gr8:=(gr.trans g7).trans g8;simp![Zk];refine ZjC c4 s1 s2 (by lia) (tn.mono (by decide)) (by lia) fun tt m' M9 t1 t2 t3 t4 t5 t6 t7=>?_
  refine q tt m' M9 t1 t2 (by lia) (by have:=gr8.len;lia) t5 ⟨by have:=gr8.len;lia,?_,fun k hk hkl=>by rw[t7 k (by have:=gr8.len;lia)];exact gr8.keep k hk hkl⟩
  obtain⟨x,y,x0,hx⟩:=gr8.bag;exact⟨x,y,x0,by rw[t7 n gr8.bag.lt];exact hx⟩
end
end CA
namespace CY
open L2 DL CA
def ZV:Sv:=(Zd3 1 2 (Zc (Zg 2) (Zc (e2 dMod (Zg 1) (Zg 2)) aNil)))
def Zao:Sv:=(Zv (Zd3 1 2 (Zc (Zj bAbs (Zc (e2 dIx (Zg 0) (eC (.int 0))) aNil)) (Zc (Zj bAbs (Zc (e2 dIx (Zg 0) (eC (.int 1))) aNil)) aNil))) (Zv (sWh (tv (e2 dGt (Zg 2) (eC (.int 0)))) ZV) (ZE (Z6 (Zc (e2 dDiv (e2 dIx (Zg 0) (eC (.int 0))) (Zg 1)) (Zc (e2 dDiv (e2 dIx (Zg 0) (eC (.int 1))) (Zg 1)) aNil))))))
def F_law_straight:W3:=fnF Zao 1 2
def ZaQ:Sv:=(Zv (ZF (gNm 3) (e2 dIx (Zg 0) (e2 dMod (e2 dAdd (Zg 2) (eC (.int 1))) (Zj bLen (Zc (Zg 0) aNil))))) (sIf (Zar (tv (e2 dGt (Zj F_law_cross (Zc (e2 dIx (Zg 0) (Zg 2)) (Zc (Zg 1) aNil))) (eC (.int 0)))) (tv (e2 dGt (Zj F_law_cross (Zc (Zg 1) (Zc (Zg 3) aNil))) (eC (.int 0))))) (ZE (e2 dAdd (e2 dAdd (eSl (Zg 0) oNo (oSo (e2 dAdd (Zg 2) (eC (.int 1))))) (Zak (Zc (Zg 1) aNil))) (eSl (Zg 0) (oSo (e2 dAdd (Zg 2) (eC (.int 1)))) oNo))) sNil))
def ZcB:Sv:=(Zv (ZaF (gNm 2) (Zc (Zj bLen (Zc (Zg 0) aNil)) aNil) ZaQ) (ZE (Zg 0)))
def F_law_put:W3:=fnF ZcB 2 2
def ZaR:Sv:=(Zv (ZF (gNm 4) (e2 dSub (Zj F_law_digit (Zc (Zg 0) (Zc (Zg 2) aNil))) (e2 dDiv (Zg 2) (eC (.int 2))))) (Zv (ZF (gNm 5) (e2 dSub (Zj F_law_digit (Zc (Zg 0) (Zc (Zg 2) aNil))) (e2 dDiv (Zg 2) (eC (.int 2))))) (sIf (Zar (tv (e2 dNe (Z6 (Zc (Zg 4) (Zc (Zg 5) aNil))) (Z6 (Zc (eC (.int 0)) (Zc (eC (.int 0)) aNil))))) (tv (e2 dLt (Zj bLen (Zc (Zg 1) aNil)) (eC (.int 14))))) (ZF (gNm 1) (Zj F_law_put (Zc (Zg 1) (Zc (Zj F_law_straight (Zc (Z6 (Zc (Zg 4) (Zc (Zg 5) aNil))) aNil)) aNil)))) sNil)))
def ZaS:Sv:=(Zv (ZF (gNm 6) (Zj F_law_digit (Zc (Zg 0) (Zc (Zj bLen (Zc (Zg 1) aNil)) aNil)))) (sIf (Zar (tv (e2 dGt (Zj bLen (Zc (Zg 1) aNil)) (eC (.int 3)))) (tv (e2 dGt (Zj F_law_cross (Zc (e2 dIx (Zg 1) (e2 dSub (Zg 6) (eC (.int 1)))) (Zc (e2 dIx (Zg 1) (e2 dMod (e2 dAdd (Zg 6) (eC (.int 1))) (Zj bLen (Zc (Zg 1) aNil)))) aNil))) (eC (.int 0))))) (ZF (gNm 1) (e2 dAdd (eSl (Zg 1) oNo (oSo (Zg 6))) (eSl (Zg 1) (oSo (e2 dAdd (Zg 6) (eC (.int 1)))) oNo))) sNil))
def ZcC:Sv:=(Zv (ZF (gNm 1) (Zj F_law_smooth (Zc (Zg 0) aNil))) (Zv (ZF (gNm 2) (e2 dIx (Zak (Zc (eC (.int 7)) (Zc (eC (.int 7)) (Zc (eC (.int 7)) (Zc (eC (.int 41)) (Zc (eC (.int 401)) (Zc (eC (.int 7)) (Zc (eC (.int 7)) (Zc (eC (.int 41)) aNil))))))))) (Zj F_law_digit (Zc (Zg 0) (Zc (eC (.int 8)) aNil))))) (Zv (ZaF (gNm 3) (Zc (Zj F_law_digit (Zc (Zg 0) (Zc (eC (.int 6)) aNil))) aNil) ZaR) (Zv (ZaF (gNm 3) (Zc (Zj F_law_digit (Zc (Zg 0) (Zc (eC (.int 6)) aNil))) aNil) ZaS) (ZE (Zg 1))))))
def F_law_any:W3:=fnF ZcC 1 6
end CY
namespace CY
open L2 DL
theorem ZhJ(h0:(x,y)≠(0,0))(hx: -200<=x/\x<=200)(hy: -200<=y/\y<=200)(q:∀w:Pt,bq w.1 w.2=1->((-200<=w.1/\w.1<=200)/\ -200<=w.2/\w.2<=200)->Q (pr w.1 w.2) M):wO (F_law_straight [pr x y] M) Q E:=by
 simp![F_law_straight,Zao];refine Zno (fun k ρ M'=>M'=M/\∃a b:Nat,ρ=[some (pr x y),some (.int a),some (.int b)]/\k=b/\kW a b=bq x y/\a<=1000/\b<=1000) ?_ y.natAbs _ _ ⟨rfl,x.natAbs,y.natAbs,rfl,rfl,rfl,by lia,by lia⟩
 rintro k ρ M ⟨rfl,a,b,rfl,rfl,g,ha,hk'⟩;simp![Zk];refine Znp (fun h=>?_) (fun h=>?_)
 ·simp![ZV];have hb:0<k:=by lia
  have hm:=jk a hb;refine⟨a%k,hm,k,a%k,by rw[i3],rfl,?_,?_⟩
  ·rw[<-g,eK k,<-jP,eK]
  ·lia
 ·have k0:k=0:=by lia
  subst k0;rw[f7]at g;have ap:0<a:=by
   apply Nat.pos_of_ne_zero;intro z;rw[z]at g
   have:=kx.mp g.symm
   exact h0 (by rw[this.1,this.2])
  simp![Zk];have b1:=dM x a;have b2:=dM y a;refine q (x/a,y/a) ?_ ⟨by simp only;lia,by simp only;lia⟩
  rw[g];exact Int.gcd_ediv_gcd_ediv_gcd (by lia)
theorem Gr.of(hb:Bag n M)(l:M.length<=M'.length)(g:∀k,k<M.length->M'[k]?=M[k]?):Gr n M M':=by
 refine⟨l,?_,fun k _ hk=>g k hk⟩;obtain⟨a,b,h,e⟩:=id hb;exact⟨a,b,h,(g n hb.lt).trans e⟩
end CY
namespace CR
open L2 DL
def Zah:Sv:=(ZE (Zav (Zd2 "int" (Zg 0)) (ZcJ (Zd2 "bool" (Zg 0)))))
def F_is_whole:W3:=fnF Zah 1 0
def Zat:Sv:=(Zd3 2 3 (Zc (Zg 3) (Zc (e2 dMod (Zg 2) (Zg 3)) aNil)))
def ZaT:Sv:=(Zv (Zd3 2 3 (Zc (Zj bAbs (Zc (Zg 0) aNil)) (Zc (Zj bAbs (Zc (Zg 1) aNil)) aNil))) (Zv (sWh (tv (e2 dNe (Zg 3) (eC (.int 0)))) Zat) (ZE (Zg 2))))
def F_greatest_divisor:W3:=fnF ZaT 2 2
def ZbC:Sv:=(Zd3 2 3 (Zc (Zg 3) (Zc (e2 dMod (Zg 2) (Zg 3)) aNil)))
def ZdN:Sv:=(Zv (Zd3 2 3 (Zc (Zj bAbs (Zc (Zg 0) aNil)) (Zc (Zg 1) aNil))) (Zv (sWh (tv (e2 dGt (Zg 3) (eC (.int 0)))) ZbC) (ZE (Z6 (Zc (e2 dDiv (Zg 0) (Zg 2)) (Zc (e2 dDiv (Zg 1) (Zg 2)) aNil))))))
def F_law_low:W3:=fnF ZdN 2 2
def Zcc:Sv:=(ZE (Zav (Zd2 "int" (Zg 0)) (ZcJ (Zd2 "bool" (Zg 0)))))
def F_law_whole:W3:=fnF Zcc 1 0
end CR
namespace CR
open L2 DL
abbrev rt(q:Rat):D:=pr q.num (q.den:Int)
noncomputable def Sz(k:Nat)(q:Rat):Prop:=q.num.natAbs<2^k/\q.den<2^k
theorem Zqy:F_greatest_divisor=FGcd:=rfl
theorem Zl1(h:0<j)(hk:j.natAbs<2^k)(hk2:k<=8000):wO (dDiv (.int i) (.int j) M) Q E=Q (.int (i/j)) M:=by
 have:Zae j:=⟨by lia,by
  have:j.natAbs.log2<k:=(iI (by lia)).mpr hk
  lia⟩
 show wO (if Zae j then _ else _) Q E=_
 rw[if_pos this,fJ _ (by lia)];rfl
theorem Znz(hb:b≠0):rt (bX t b hb)=pr (t/(bq t b:Nat)) ((b:Int)/(bq t b:Nat)):=by
 unfold rt;rw[gA,gB,Int.natCast_ediv];rfl
theorem Zqz{b:Nat}(hb:b≠0)(h:b<2^k):0<bq t b/\bq t b<2^k:=by
 have h1:bq t b ∣ b:=Int.gcd_dvd_natAbs_right t b;have h2:=Nat.le_of_dvd (by lia) h1
 have h3:bq t b≠0:=fun z=>by
  rw[z]at h1;exact hb (Nat.eq_zero_of_zero_dvd h1)
 lia
theorem ZnA{b:Nat}(hb:b≠0)(h:b<2^k)(hk:k<=8000)(q':Q (rt (bX t b hb)) M):wO (F_law_low [.int t,.int b] M) Q E:=by
 obtain⟨g0,g1⟩:=Zqz (t:=t) hb h;rw[Znz hb]at q';simp![F_law_low,ZdN];refine Zno (fun j ρ M'=>M'=M/\∃a c:Nat,ρ=[some (.int t),some (.int b),some (.int a),some (.int c)]/\j=c/\kW a c=bq t b) ?_ b _ _ ⟨rfl,t.natAbs,b,rfl,rfl,rfl⟩;rintro j ρ M ⟨rfl,a,c,rfl,rfl,g⟩;simp![Zk];refine Znp (fun h'=>?_) (fun h'=>?_)
 ·simp![ZbC];have hc:0<j:=by lia
  refine⟨a%j,jk a hc,j,a%j,by rw[i3],rfl,?_⟩
  rw[<-g,eK j,<-jP,eK]
 ·have j0:j=0:=by lia
  subst j0;rw[f7]at g;rw[<-g]at q' g0 g1;simp![Zk];rw[Zl1 (k:=k) (by lia) (by simpa using g1) hk]
  simp![Zk];rw[Zl1 (k:=k) (by lia) (by simpa using g1) hk]
  simp![Zk];exact q'
theorem ZnB(hb:b≠0)(ht:t.natAbs<2^k)(h:b<2^k):Sz k (bX t b hb):=by
 refine⟨?_,?_⟩
 ·rw[gA];exact cU (dM _ _) ht
 ·rw[gB];exact cU (Nat.div_le_self _ _) h
end CR
namespace CH
open L2 DL CA CR
end CH
namespace CH
open L2 DL
open CR (rt Sz)
def rts(hs:List Rat):List D:=hs.map rt
theorem ZU:(rts hs).length=hs.length:=ae _
theorem Z0:rts hs++[rt q]=rts (hs++[q]):=by simp[rts]
end CH
namespace CS
open L2 DL CC CR
end CS
namespace CS
open L2 DL
open CR (rt Sz)
end CS
namespace CN
open L2 DL
open CC (F_following)
open CR (F_law_low)
open CA (F_law_sum)
end CN
namespace CN
open L2 DL
open CR (rt Sz)
open CH (rts ZU Z0)
noncomputable def cq(hs:List Rat)(i:Int):Rat:=hs.getD (i%hs.length).toNat 0
end CN
namespace CN
open L2 DL
open CR (rt Sz)
open CH (rts ZU Z0)
end CN
namespace CN
open L2 DL
open CR (rt Sz)
open CH (rts ZU Z0)
end CN
namespace CU
open L2 DL
open CA (F_law_digit)
open CR (F_law_low)
end CU
namespace CU
open L2 DL
open CR (rt Sz)
open CH (rts ZU Z0)
open CN CS
def thr(rs:List Pt)(hs:List Rat):Rat×Rat:=(cq hs 0*(cy rs 1).2-cq hs 1*(cy rs 0).2,cq hs 1*(cy rs 0).1-cq hs 0*(cy rs 1).1)
abbrev rp(m:Rat×Rat):D:=.tup [rt m.1,rt m.2]
end CU
namespace CV
open L2 DL
open CR (rt Sz)
open CH (rts ZU Z0)
open CN CU CS
noncomputable def Kp(M M':Sto):Prop:=M.length<=M'.length/\∀j<M.length,M'[j]?=M[j]?
section
variable {M M1 M2:Sto}{j:Nat}
theorem Kp.get(k:Kp M M')(h:M[j]?=some o):M'[j]?=some o:=(k.2 _ (ZM h)).trans h
theorem Kp.refl:Kp M M:=⟨au _,fun _ _=>rfl⟩
theorem Kp.trans(a:Kp M M1)(b:Kp M1 M2):Kp M M2:=⟨aE a.1 b.1,fun j h=>(b.2 j (ay h a.1)).trans (a.2 j h)⟩
theorem Kp.app:Kp M (M++L):=⟨by simp,fun j h=>Zbg h⟩
theorem Kp.set(a:Kp M M1)(h:M.length<=j):Kp M (M1.set j o):=⟨by rw[cB];exact a.1,fun i hi=>by rw[aG (by lia)];exact a.2 i hi⟩
theorem Kp.bag(k:Kp M M')(b:Bag n M):Bag n M':=(CY.Gr.of b k.1 k.2).bag
theorem Kp.gr(k:Kp M M')(b:Bag n M):Gr n M M':=CY.Gr.of b k.1 k.2
end
end CV
namespace CW
open L2 DL
end CW
namespace CW
open L2 DL
open CV
end CW
namespace CB
open L2 DL
theorem mid(h1:0<X a p)(h2:0<X p b)(h:0<X a b):in1 w a b=in1 w a p+in1 w p b/\in2 w a b=in2 w a p+in2 w p b:=by
 have e:X a b*X p w=X p b*X a w-X a p*X w b:=by unfold X;grind
 have s:=ZhI (p:=w) (q:=p);have k1:0<=X a w->0<=X p b*X a w:=fun z=>iF (by lia) z
 have k2:0<X a w->0<X p b*X a w:=fun z=>lu h2 z;have k3:X a w<=0->X p b*X a w<=0:=fun z=>dH (by lia) z
 have k3':X a w<0->X p b*X a w<0:=fun z=>fR h2 z;have l1:0<=X w b->0<=X a p*X w b:=fun z=>iF (by lia) z
 have l2:0<X w b->0<X a p*X w b:=fun z=>lu h1 z;have l3:X w b<=0->X a p*X w b<=0:=fun z=>dH (by lia) z
 have l3':X w b<0->X a p*X w b<0:=fun z=>fR h1 z;have m1:0<=X p w->0<=X a b*X p w:=fun z=>iF (by lia) z
 have m2:0<X p w->0<X a b*X p w:=fun z=>lu h z;have m3:X p w<=0->X a b*X p w<=0:=fun z=>dH (by lia) z
 have m3':X p w<0->X a b*X p w<0:=fun z=>fR h z;unfold in1 in2;rw[s];generalize X a b*X p w=z at *;generalize X p b*X a w=y at *;generalize X a p*X w b=x at *;generalize X a w=aw at *;generalize X w b=wb at *;generalize X p w=pw at *;constructor
 all_goals
  repeat' split
  all_goals lia
end CB
namespace CL
open L2 DL
open CC (F_following)
end CL
namespace CL
open L2 DL
open CV CB
end CL
namespace TW
open DL
noncomputable def nx(b:Int)(p q:Pt):Pt:=(0-b*q.1-p.1,0-b*q.2-p.2)
def run(p q:Pt):List Int->Pt×Pt
 |[]=>(p,q)
 |b::bs=>run q (nx b p q) bs
def ew(p q:Pt):Nat:=in1 (1,0) p q+in1 (-1,0) p q
noncomputable def st(a:Pt):Int:=if 0<a.2\/(a.2=0/\a.1<0)then 1 else 0
end TW
namespace TW
open DL
section
variable {rs:List Pt}
def Zu1(rs:List Pt):Int->Nat->List Int
 |_,0=>[]
 |i,k+1=>T rs (i+1)::Zu1 rs (i+1) k
def sf(f:Pt->Pt->Nat)(rs:List Pt):Int->Nat->Nat
 |_,0=>0
 |i,k+1=>f (cy rs i) (cy rs (i+1))+sf f rs (i+1) k
theorem ZsU(hn:rs≠[]):∀(k i:Nat),i+k=rs.length->cc f ((rs++rs.take 1).drop i)=sf f rs i k:=by
 have l0:0<rs.length:=ic.mpr hn;have ga:∀i:Nat,i<=rs.length->(rs++rs.take 1)[i]?=some (cy rs i):=by
  intro i hi;by_cases c:i<rs.length
  ·rw[aH c,Zb8 (by lia),ZcA (by lia),aq c]
   simp
  ·have:i=rs.length:=by lia
   subst this;rw[aM (au _),fM,<-ZfL,Int.sub_self,Zb8 (by lia),ZcA (by lia)]
   rw[cY (by decide),aq (by lia)]
   simp
 have lch:(rs++rs.take 1).length=rs.length+1:=by simp;lia
 have dr:∀i:Nat,i<=rs.length->(rs++rs.take 1).drop i=cy rs i::(rs++rs.take 1).drop (i+1):=by
  intro i hi;rw[dJ (by lia)]
  have:=ga i hi
  rw[aq (by lia)]at this
  rw[aQ this]
 intro k
 induction k with
 |zero=>
  intro i hi;rw[dr i (by lia),a8 (by lia)]
  rfl
 |succ k ih=>
  intro i hi
  have:=ih (i+1) (by lia)
  rw[dr i (by lia)]
  rw[dr (i+1) (by lia)]at this ⊢
  rw[cc,this,sf];rfl
theorem ZjD(hn:rs≠[]):cyc f rs=sf f rs 0 rs.length:=by
 have:=ZsU (f:=f) hn rs.length 0 (by lia)
 exact this
end
end TW
namespace CT
open L2 DL
end CT
namespace CT
open L2 DL
open CV TW
section
variable {L:List Int}
def Cl(L:List Int):Prop:=run (1,0) (0,1) L=((1,0),(0,1))
instance (L:List Int):Decidable (Cl L):=by unfold Cl;infer_instance
end
end CT
namespace CT
open L2 DL
open CV
open TW (nx)
end CT
namespace DL
open CB (mid Wg Bd)
section
variable {rs:List Pt}{k:Nat}
theorem Zk7(hl:rs≠[])(h:cyc f rs=0)(i:Int):f (cy rs i) (cy rs (i+1))=0:=by
 have l0:rs.length≠0:=fun z=>hl (i4.mp z);refine ZeR (P:=fun a b=>f a b=0) l0 ?_ i;intro i h0 h1;rw[TW.ZjD hl]at h
 have:∀(k:Nat)(j:Int),TW.sf f rs j k=0->∀m:Nat,m<k->f (cy rs (j+m)) (cy rs (j+m+1))=0:=by
  intro k
  induction k with
  |zero=>intro j _ m hm;lia
  |succ k ih=>
   intro j h m hm;rw[TW.sf]at h;cases m with
   |zero=>
    rw[show j+((0:Nat):Int)=j by lia]
    lia
   |succ m=>
    have:=ih (j+1) (by lia) m (by lia)
    rw[show j+((m+1:Nat):Int)=j+1+m by lia]
    exact this
 have:=this rs.length 0 h i.toNat (by lia)
 rw[show(0:Int)+(i.toNat:Nat)=i by lia]at this
 exact this
theorem Zge(hl:rs≠[])(h:∀i:Int,f (cy rs i) (cy rs (i+1))=0):cyc f rs=0:=by
 rw[TW.ZjD hl]
 have:∀(k:Nat)(j:Int),TW.sf f rs j k=0:=by
  intro k
  induction k with
  |zero=>intro j;rfl
  |succ k ih=>intro j;rw[TW.sf,h,ih]
 exact this _ _
theorem Zgf(hk:k<rs.length)(h3:3<=rs.length)(hf:f (cy rs (k-1)) (cy rs (k+1))=f (cy rs (k-1)) (cy rs k)+f (cy rs k) (cy rs (k+1))):cyc f (del rs k)=cyc f rs:=by
 obtain⟨L,p,R,e,hl⟩:∃L a R,rs=L++a::R/\L.length=k:=⟨rs.take k,rs[k],rs.drop (k+1),by rw[jm,gG],by simp;lia⟩
 have ed:DL.del rs k=L++R:=by
  unfold DL.del;rw[e,<-hl,iZ,gP,bp (by lia),a8 (by lia)]
  simp
 have lr:(R++L).length=rs.length-1:=by rw[e];simp;lia
 obtain⟨b,Y,a,hY⟩:∃b Y a,R++L=b::(Y++[a]):=by
  match hRL:R++L,lr with
  |[],lr=>simp at lr;lia
  |b::r,lr=>
   have:r≠[]:=by intro z;rw[z]at lr;simp at lr;lia
   exact⟨b,r.dropLast,r.getLast this,by rw[List.dropLast_concat_getLast]⟩
 have er:rs.drop k++rs.take k=p::(R++L):=by
  rw[e,<-hl,iZ,gP,bp (by lia),a8 (by lia)]
  simp
 have c0:cy rs k=p:=by rw[e,<-hl];exact Zk6
 have cb:cy rs (k+1)=b:=by
  have:=Zg6 (rs:=rs) (k:=k) (i:=1) (by lia)
  rw[er,hY]at this;rw[show(k:Int)+1=1+k by lia,<-this]
  exact Zqu (L:=[]) (a:=p) (b:=b)
 have ca:cy rs (k-1)=a:=by
  have:=Zg6 (rs:=rs) (k:=k) (i:= -1) (by lia)
  rw[er,hY]at this;rw[show(k:Int)-1= -1+k by lia,<-this,<-Zg3]
  have:=Zk6 (L:=p::b::Y) (a:=a) (R:=[])
  rw[show(-1:Int)+((p::b::(Y++[a])).length:Nat)=((p::b::Y).length:Nat)by simp;lia]
  simpa using this
 rw[c0,ca,cb]at hf;rw[ed,Znv (p:=p) hY hf,<-e]
def nxp(a b:Pt):Nat:=if 0<X a b then 0 else 1
theorem ZsV(h:nxp a b=0):0<X a b:=by
 unfold nxp at h
 split at h
 ·assumption
 ·lia
theorem ZdO(h:0<X a b):nxp a b=0:=by unfold nxp;rw[if_pos h]
structure Rn(rs:List Pt):Prop where
 len:3<=rs.length
 ps:cyc nxp rs=0
 gc:∀p∈rs,bq p.1 p.2=1
 fan:Fan rs
theorem Rn.ne(h:Rn rs):rs≠[]:=by
 intro z
 have:=h.len
 rw[z]at this;simp at this
theorem Rn.pos(h:Rn rs)(i:Int):0<X (cy rs i) (cy rs (i+1)):=ZsV (Zk7 h.ne h.ps i)
theorem ZsW(h:X a b=1):bq a.1 a.2=1/\bq b.1 b.2=1:=by
 unfold X at h;constructor
 ·have d1:((bq a.1 a.2:Nat):Int) ∣ a.1*b.2-a.2*b.1:=Int.dvd_sub (i5 (i6 _ _)) (i5 (iM _ _));rw[h]at d1;exact jz (i7.mp d1)
 ·have d1:((bq b.1 b.2:Nat):Int) ∣ a.1*b.2-a.2*b.1:=Int.dvd_sub (iT (iM _ _)) (iT (i6 _ _));rw[h]at d1;exact jz (i7.mp d1)
theorem ZqA{p:Pt}(h:p∈rs):∃i:Int,p=cy rs i:=by
 obtain⟨L,R,rfl⟩:=List.append_of_mem h;exact⟨L.length,Zk6.symm⟩
theorem Smo.rn(h:Smo rs):Rn rs:=by
 refine⟨h.len,Zge h.ne fun i=>ZdO (by rw[h.one i];decide),fun p hp=>?_,h.fan⟩
 obtain⟨i,rfl⟩:=ZqA hp;exact(ZsW (h.one i)).1
theorem Rn.ins{w:Pt}(h:Rn rs)(hk:k<rs.length)(gw:bq w.1 w.2=1)(h1:0<X (cy rs k) w)(h2:0<X w (cy rs (k+1))):Rn (ins rs k w):=by
 have hp:=h.pos k;refine⟨by rw[ZcT hk];have:=h.len;lia,?_,?_,?_⟩
 ·rw[ZdF hk (by rw[ZdO hp,ZdO h1,ZdO h2])]
  exact h.ps
 ·intro p hp;rcases bC.mp hp with hp|hp
  ·exact h.gc p (c9 hp)
  ·rcases aK.mp hp with hp|hp
   ·subst hp;exact gw
   ·exact h.gc p (da hp)
 ·intro v hv;rw[ZdF hk (mid h1 h2 hp).1,ZdF hk (mid h1 h2 hp).2];exact h.fan v hv
theorem Rn.del(h:Rn rs)(hk:k<rs.length)(h4:4<=rs.length)(hx:0<X (cy rs (k-1)) (cy rs (k+1))):Rn (DL.del rs k):=by
 have p1:=h.pos (k-1);rw[show(k:Int)-1+1=k by lia]at p1
 have p2:=h.pos k;refine⟨by rw[Zjz hk];lia,?_,?_,?_⟩
 ·rw[Zgf hk (by lia) (by rw[ZdO hx,ZdO p1,ZdO p2])]
  exact h.ps
 ·intro p hp;unfold DL.del at hp;rcases bC.mp hp with hp|hp
  ·exact h.gc p (c9 hp)
  ·exact h.gc p (da hp)
 ·intro v hv;rw[Zgf hk (by lia) (mid p1 p2 hx).1,Zgf hk (by lia) (mid p1 p2 hx).2]
  exact h.fan v hv
end
end DL
namespace CZ
open L2 DL
open CY (F_law_put ZcB ZaQ F_law_any ZcC ZaR ZaS)
theorem ZsX{w:Pt}(h:M[n]?=some (.lst (prs rs)))(hr:Rn rs)(hb:Nr 200 rs)(hl:3<=rs.length/\rs.length<=13)(gw:bq w.1 w.2=1)(hw:(-200<=w.1/\w.1<=200)/\ -200<=w.2/\w.2<=200)(q:∀ss m M',Rn ss->Nr 200 ss->3<=ss.length->ss.length<=14->(m=n\/M.length<=m)->M'[m]?=some (.lst (prs ss))->M.length<=M'.length->(∀k,k<M.length->M'[k]?=M[k]?)->Q (.ref m) M'):wO (F_law_put [.ref n,pr w.1 w.2] M) Q E:=by
 have hn:=ZM h;have ne:rs≠[]:=by intro z;rw[z]at hl;simp at hl
 simp![F_law_put,ZcB,h];refine⟨by lia,?_⟩
 rw[show((rs.length:Int)).toNat=rs.length by lia]
 refine Zb0 (fun i ρ M'=>M'=M/\∃x y,ρ=[some (.ref n),some (pr w.1 w.2),x,y]) ⟨rfl,_,_,rfl⟩ ?_ ?_
 ·rintro k ρ M hk ⟨rfl,x,y,rfl⟩;rw[show(0:Int)+(k:Int)=k by lia]
  have e1:=Zax (i:=(k:Int)+1) (m:=rs.length) (by lia)
  have b1:=Nr.cy hb ne k;simp![ZaQ,h,ZdE,Zc5,CA.Zgd,CC.ZcU];refine ZhF (fun b M'=>M'=M/\(b=true->0<X (cy rs k) w/\0<X w (cy rs (k+1)))) ?_ ?_
  ·refine brO (fun z=>?_) (fun z=>?_)
   ·simp![CC.ZcU];exact fun u=>⟨by unfold X;lia,by unfold X;have:=of_decide_eq_true u;lia⟩
   ·simp![Zk];exact fun u=>by cases u
  rintro b M ⟨rfl,hx⟩;simp![Zk];refine Znl (fun z=>?_) (fun z=>?_)
  ·have le:((k:Int)+1).toNat=k+1:=by lia
   simp![h,le];refine⟨by rw[bF];lia,by rw[bF,bO];lia,?_⟩
   obtain⟨x1,x2⟩:=hx z;exact q (ins rs k (w.1,w.2)) _ _ (hr.ins hk gw x1 x2) (Nr.ins hb hw) (by rw[ZcT hk];lia) (by rw[ZcT hk];lia) (.inr (by lia)) (by rw[Zg2];rfl) (by rw[aa];lia) (fun j hj=>by rw[Zbg hj])
  ·simp![Zk];exact⟨_,_,rfl⟩
 ·rintro ρ M ⟨rfl,x,y,rfl⟩;simp![Zk];exact q rs n M hr hb hl.1 (by lia) (.inl rfl) h (au _) (fun _ _=>rfl)
theorem ZsY(hb:Bag n M)(q:∀ss m M',Rn ss->Nr 200 ss->3<=ss.length->ss.length<=14->M.length<=m->M'[m]?=some (.lst (prs ss))->Gr n M M'->Q (.ref m) M'):wO (F_law_any [.ref n] M) Q E:=by
 have hn:=hb.lt;simp![F_law_any,ZcC];refine CA.Zg7 hb fun ss m M1 s1 s2 s3 m0 s4 gr=>?_;have sl:=s1.len;have hn1:=gr.bag.lt;have gl:=gr.len;simp![Zk];refine CA.ZB (gr.bag.app _) (by decide) fun r M2 r0 r1 g2=>?_
 have k2:=Gr.new gr.bag g2;have hs4:=ZM s4;have a4:M2[m]?=some (.lst (prs ss)):=by rw[g2.keep _ (by lia) (by simp;lia),Zbg hs4];exact s4
 have gr2:Gr n M M2:=gr.trans ((Gr.app gr.bag _).trans g2);obtain⟨wd,hw,w0⟩:∃f:Int,atI [D.int 7,D.int 7,D.int 7,D.int 41,D.int 401,D.int 7,D.int 7,D.int 41] r=some (.int f)/\(f=7\/f=41\/f=401):=by
  have:r=0\/r=1\/r=2\/r=3\/r=4\/r=5\/r=6\/r=7:=by lia
  rcases this with rfl|rfl|rfl|rfl|rfl|rfl|rfl|rfl
  ·exact⟨7,rfl,by decide⟩
  ·exact⟨7,rfl,by decide⟩
  ·exact⟨7,rfl,by decide⟩
  ·exact⟨41,rfl,by decide⟩
  ·exact⟨401,rfl,by decide⟩
  ·exact⟨7,rfl,by decide⟩
  ·exact⟨7,rfl,by decide⟩
  ·exact⟨41,rfl,by decide⟩
 simp![k2,hw];refine CA.ZB gr2.bag (by decide) fun lp M3 lp0 lp1 g3=>?_
 simp![Zk];refine⟨by lia,?_⟩
 refine Zb0 (fun i ρ M'=>∃ss m x3 x4 x5 x6,ρ=[some (.ref n),some (.ref m),some (.int wd),x3,x4,x5,x6]/\(m≠n/\M.length<=m)/\(Rn ss/\Nr 200 ss)/\3<=ss.length/\ss.length<=14/\M'[m]?=some (.lst (prs ss))/\Gr n M M') ⟨ss,m,_,_,_,_,rfl,by lia,⟨s1.rn,s2⟩,sl,s3,CA.Gr.up a4 g3 (by lia),gr2.trans g3⟩ ?_ ?_
 ·rintro i ρ M4 hi ⟨ss,m,x3,x4,x5,x6,rfl,m0,s2,s3,s4,s5,gr⟩;simp![ZaR];refine CA.ZB gr.bag (by lia) fun x M5 a0 a1 g5=>?_
  simp![Zk];refine CA.ZB g5.bag (by lia) fun y M6 b0 b1 g6=>?_
  have gr6:=(gr.trans g5).trans g6;have c5:=CA.Gr.up (CA.Gr.up s5 g5 m0.1) g6 m0.1;have hx: -200<=x-wd/2/\x-wd/2<=200:=by lia
  have hy: -200<=y-wd/2/\y-wd/2<=200:=by lia
  simp![Zk];generalize x-wd/2=x at *;generalize y-wd/2=y at *;refine ZhF (fun b M'=>M'=M6/\(b=true->(x,y)≠(0,0)/\ss.length<14)) ?_ ?_
  ·refine Zrh (fun z=>?_) (fun z=>?_)
   ·simp![c5];exact fun u=>⟨z,by have:=of_decide_eq_true u;lia⟩
   ·simp![Zk];exact fun u=>by cases u
  rintro b M6 ⟨rfl,hb⟩;simp![Zk];refine Znl (fun z=>?_) (fun z=>?_)
  ·obtain⟨h0,h1⟩:=hb z;simp![Zk];refine CY.ZhJ h0 hx hy fun w gw bw=>?_;simp![Zk];refine ZsX c5 s2.1 s2.2 (by lia) gw bw fun tt m' M7 tr t2 t3 t4 t0 t5 t6 t7=>?_
   simp![Zk];have gr7:=gr6.trans (CY.Gr.of gr6.bag t6 t7)
   have:=gr6.len
   exact⟨tt,m',_,_,_,_,rfl,by have:=gr6.bag.lt;lia,⟨tr,t2⟩,t3,t4,t5,gr7⟩
  ·simp![Zk];exact⟨ss,m,_,_,_,_,rfl,m0,s2,s3,s4,c5,gr6⟩
 ·rintro ρ M4 ⟨ss,m,x3,x4,x5,x6,rfl,m0,s2,s3,s4,s5,gr⟩;simp![Zk];refine CA.ZB gr.bag (by decide) fun lp M5 lp0 lp1 g5=>?_
  simp![Zk];refine⟨by lia,?_⟩
  refine Zb0 (fun i ρ M'=>∃ss m x2 x3 x4 x5 x6,ρ=[some (.ref n),some (.ref m),x2,x3,x4,x5,x6]/\(m≠n/\M.length<=m)/\(Rn ss/\Nr 200 ss)/\3<=ss.length/\ss.length<=14/\M'[m]?=some (.lst (prs ss))/\Gr n M M') ⟨ss,m,_,_,_,_,_,rfl,m0,s2,s3,s4,CA.Gr.up s5 g5 m0.1,gr.trans g5⟩ ?_ ?_
  ·rintro i ρ M6 hi ⟨ss,m,x2,x3,x4,x5,x6,rfl,m0,s2,s3,s4,s5,gr⟩;have ne:ss≠[]:=by intro z;rw[z]at s3;simp at s3
   simp![ZaS,s5];refine CA.ZB gr.bag (by lia) fun av M7 a0 a1 g7=>?_
   have c5:=CA.Gr.up s5 g7 m0.1;have hc5:=ZM c5;have gr7:=gr.trans g7;obtain⟨av,rfl⟩:∃k:Nat,av=k:=⟨av.toNat,by lia⟩
   have e1:=Zax (i:=(av:Int)+1) (m:=ss.length) (by lia)
   have b1:=Nr.cy s2.2 ne ((av:Int)-1);simp![c5];refine ZhF (fun b M'=>M'=M7/\(b=true->3<ss.length/\0<X (cy ss (av-1)) (cy ss (av+1)))) ?_ ?_
   ·refine brO (fun z=>?_) (fun z=>?_)
    ·simp![c5,ZdE,Zc5,CA.Zgd,CC.ZcU];exact fun u=>⟨by lia,by unfold X;have:=of_decide_eq_true u;lia⟩
    ·simp![Zk];exact fun u=>by cases u
   rintro b M7 ⟨rfl,hb⟩;simp![Zk];refine Znl (fun z=>?_) (fun z=>?_)
   ·obtain⟨h4,hx⟩:=hb z;have le:((av:Int)+1).toNat=av+1:=by lia
    have le2:(av:Int).toNat=av:=by lia
    simp![c5,le,le2];have dl:=Zjz (rs:=ss) (k:=av) (by lia)
    refine⟨by rw[bF,bO];lia,del ss av,_,_,_,_,_,_,rfl,by have:=gr7.len;have:=gr7.bag.lt;lia,⟨s2.1.del (by lia) (by lia) hx,CF.Nr.del s2.2⟩,by lia,by lia,by rw[Zg2];rfl,gr7.app2 _⟩
   ·simp![Zk];exact⟨ss,m,_,_,_,_,_,rfl,m0,s2,s3,s4,c5,gr7⟩
  ·rintro ρ M6 ⟨ss,m,x2,x3,x4,x5,x6,rfl,m0,s2,s3,s4,s5,gr⟩;simp![Zk];exact q ss m M6 s2.1 s2.2 s3 s4 m0.2 s5 gr
end CZ
namespace DL
open TW
open CT (Cl)
end DL
namespace CB
open DL
section
variable {u v w:Pt}
def kl:List Pt->List Int
 |a::b::d::r=>X a d::kl (b::d::r)
 |_=>[]
theorem Xvv(p:Pt):X p p=0:=by unfold X;grind
theorem ZsZ:∀(r:List Pt)(a b:Pt)(v:Pt),Ch (a::b::r)->Cv (a::b::r)->(b::r).getLast (by simp)=v->0<=X b v/\X b v<X a v
 |[],a,b,v,h,_,e=>by
  have:b=v:=e
  subst this;rw[Xvv,h.1];lia
 |c::r,a,b,v,h,k,e=>by
  have ih:=ZsZ r b c v h.2 k.2 (by rw[<-e];simp[List.getLast_cons])
  obtain⟨m,m2,e1,e2⟩:=k.1;have ex:X a v+X c v=m*X b v:=by unfold X;grind
  have:2*X b v<=m*X b v:=eE m2 (by lia)
  lia
theorem ZnC(hb:0<b)(h0:0<=c)(h1:c<b)(e:t+c=k*b): -((-t)/b)=k:=by
 have: -t=c+b*(-k):=by grind
 rw[this,Int.add_mul_ediv_left _ _ (by lia),Int.ediv_eq_zero_of_lt h0 h1]
 lia
theorem only:∀(ws:List Pt)(u v w:Pt),Ch (u::(ws++[v]))->Cv (u::(ws++[v]))->Fb u v w->ws=btw u w (hj (X u v) (X w v))/\kl (u::(ws++[v]))=hj (X u v) (X w v)
 |[],u,v,w,h,k,f=>by
  have h1:X u v=1:=h.1;have l:=f.lo;have l2:=f.hi;have w0:X w v=0:=by lia
  rw[w0];unfold hj;rw[dif_neg (by decide)]
  exact⟨rfl,rfl⟩
 |x::ws,u,v,w,h,k,f=>by
  have hl:(x::(ws++[v])).getLast (by simp)=v:=by simp[List.getLast_cons]
  have d:=ZsZ (ws++[v]) u x v h k hl;have fx:Fb u v x:=⟨h.1,d.1,d.2⟩;have ew:=fx.uniq f;subst ew;obtain⟨y,R,eR⟩:∃y R,ws++[v]=y::R:=by
   cases ws with
   |nil=>exact⟨v,[],rfl⟩
   |cons y R=>exact⟨y,R++[v],rfl⟩
  have h':Ch (x::y::R):=by rw[<-eR];exact h.2
  have kk:Cv (u::x::y::R):=by rw[<-eR];exact k
  have hl2:(y::R).getLast (by simp)=v:=by
   have:(ws++[v]).getLast (by simp)=v:=by simp
   simpa [eR]using this
  have d2:=ZsZ R x y v h' kk.2 hl2;obtain⟨m,m2,e1,e2⟩:=kk.1;have ex:X u v+X y v=m*X x v:=by unfold X;grind
  have hc:=ZnC (by lia) d2.1 d2.2 ex
  have ey:(m*x.1-u.1,m*x.2-u.2)=y:=by apply jF<;>simp only<;>lia
  have m3:X u y=m:=by
   have:=h.1
   rw[<-ey];unfold X at *;simp only;grind
  have fy:Fb x v y:=⟨h'.1,d2.1,d2.2⟩;have ih:=only ws x v y (by rw[eR];exact h') (by rw[eR];exact kk.2) fy
  have ej:hj (X u v) (X x v)=m::hj (X x v) (X y v):=by
   rw[hj,dif_pos (by lia),hc]
   congr 2;lia
  rw[ej];constructor
  ·rw[btw,ey,<-ih.1]
  ·show kl (u::x::(ws++[v]))=_;rw[eR,kl,m3,<-eR,ih.2]
end
end CB
namespace CD
open L2 DL
end CD
namespace CD
open L2 DL
open CV
open CB (Bd)
open CA (Tn)
open CR (rt Sz)
open CH (rts ZU Z0)
theorem ZnU(I:Ro->Prop)(F:Nat->D)(hM:M[n]?=some (.lst xs))(hl:xs.length<10000000)(h0:I (roB k fr ρ))(st:∀(i:Nat)(h:i<xs.length)(ρ:Ro)(M':Sto),Kp M M'->I ρ->wG (tg xs[i] ρ) fun r=>I r/\wO (f r M') (fun y M2=>y=F i/\Kp M' M2) (fun _ _=>False))(hq:∀M',Kp M M'->M'[M.length]?=some (.lst ((aJ xs.length).map F))->Q (.ref M.length) M'):kCo tg (fun _ M=>.ok true M) f k fr ρ Q (.sto n) M:=by
 refine ZfJ (xs:=xs) (Q:=fun M2=>Q (.ref M.length) M2) (fun i ρ M'=>I ρ/\Kp M M'/\M'[M.length]?=some (.lst ((aJ i).map F))) _ 0 _ _ (by simp) (by rw[Zgc hM];lia) ⟨h0,Kp.app,by simp⟩ (fun i ρ M' hi hI=>by rw[Zjs];exact hI.2.1.get hM) ?_ (fun ρ M' hI=>hq M' hI.2.1 hI.2.2)
 rintro i ρ M' hi ⟨hI,K,r⟩;have s:=st i hi ρ M' K hI;cases e:tg xs[i] ρ with
 |none=>rw[e]at s;exact s.elim
 |some r'=>
  rw[e]at s;obtain⟨hr,s⟩:=s;show Br true _ _;rw[Zpw];refine Zb7 s (fun y M2 ⟨h1,h2⟩=>?_) (fun _ _ z=>z);subst h1;rw[h2.get r];have hl2:=ZM (h2.get r);refine⟨by simp;lia,hr,(K.trans h2).set (au _),?_⟩
  rw[aP hl2,fY,cC];rfl
noncomputable abbrev tb(a b c d:Int):SO:=.lst [.int a,.int b,.int c,.int d]
end CD
namespace DL
open L2
open CV (Kp)
noncomputable def ZaM{α:Type}:List (Option α)->Option (List α)
 |[]=>some []
 |none::_=>none
 |some a::r=>match ZaM r with|some l=>some (a::l)|none=>none
theorem ZT{α:Type}:∀{os:List (Option α)} {l:List α},ZaM os=some l->os=l.map some
 |[],l,h=>by cases h;rfl
 |none::_,l,h=>by cases h
 |some a::r,l,h=>by
  unfold ZaM at h;cases e:ZaM r with
  |none=>rw[e]at h;cases h
  |some q=>rw[e]at h;cases h;rw[ZT e];rfl
theorem Zg8{α:Type}:∀l:List α,ZaM (l.map some)=some l
 |[]=>rfl
 |a::l=>by show(match ZaM (l.map some)with|some l=>some (a::l)|none=>none)=_;rw[Zg8 l]
theorem Zg9{os:List (Option α)}(h:none∈os):ZaM os=none:=by
 cases e:ZaM os with
 |none=>rfl
 |some l=>
  rw[ZT e]at h;obtain⟨x,_,z⟩:=a9.mp h;cases z
theorem ZfR{α:Type}:∀{os:List (Option α)},ZaM os=none->none∈os
 |[],h=>by cases h
 |none::_,_=>aO
 |some a::r,h=>by
  unfold ZaM at h;cases e:ZaM r with
  |none=>exact ak _ (ZfR e)
  |some q=>rw[e]at h;cases h
section
variable {E:W2}{M:Sto}{ρ:Ro}{tg:Tg}{f:Ev}{xs:List D}
def ZqB(tg:Tg)(f:Ev)(k:Nat)(fr:List Nat)(ρ:Ro)(Q:W0)(E:W2)(src:Src)(M:Sto):Prop:=wO (Zi1 src tg f M.length (cnt src M) 0 (roB k fr ρ) (M++[.lst []])) (fun _ M2=>Q (.ref M.length) M2) E
theorem ZbD:wO (Zbo fi k fr tg f ρ M) Q E=wO (fi ρ M) (ZqB tg f k fr ρ Q E) E:=by
 unfold Zbo;rw[Zy];congr 1;funext src M1;unfold ZqB;cases Zi1 src tg f M1.length (cnt src M1) 0 (roB k fr ρ) (M1++[.lst []])<;>rfl
theorem ZnD(I:Nat->Ro->Sto->Prop){src:Src}{m:Nat}{Q:Sto->Prop}:∀(fu i:Nat)(ρ:Ro)(M:Sto),i<=xs.length->xs.length<=i+fu->I i ρ M->(∀i ρ M,i<=xs.length->I i ρ M->nxt src i M=some xs[i]?)->(∀i ρ M (h:i<xs.length),I i ρ M->wG (tg xs[i] ρ) fun r=>wO (f r M) (fun y M2=>wL M2[m]? fun ys=>ys.length<10000000/\I (i+1) r (M2.set m (.lst (ys++[y])))) E)->(∀ρ M,I xs.length ρ M->Q M)->wO (Zi1 src tg f m fu i ρ M) (fun _ M2=>Q M2) E:=by
 intro fu
 induction fu with
 |zero=>
  intro i ρ M le e h hm st hn;have hx:=hm _ _ _ le h;unfold Zi1;rw[hx]
  have:xs[i]?=none:=aU (by lia)
  simp only[this];exact hn ρ M (by rw[show xs.length=i by lia];exact h)
 |succ fu ih=>
  intro i ρ M le e h hm st hn;have hx:=hm _ _ _ le h;unfold Zi1;rw[hx];by_cases hi:i<xs.length
  ·have:xs[i]?=some xs[i]:=Gq hi
   simp only[this];have s:=st i ρ M hi h;cases e1:tg xs[i] ρ with
   |none=>rw[e1]at s;exact s.elim
   |some ρ1=>
    rw[e1]at s
    replace s:wO (f ρ1 M) _ E:=s
    show wO (match f ρ1 M with|.ok x M2=>_|.exc c M2=>_|.bad=>_) _ E
    cases e2:f ρ1 M with
    |bad=>rw[e2]at s;exact s.elim
    |exc c M2=>rw[e2]at s;exact s
    |ok y M2=>
     rw[e2]at s
     replace s:wL M2[m]? _:=s
     simp only;cases e3:M2[m]? with
     |none=>rw[e3]at s;exact s.elim
     |some o=>
      cases o with
      |lst ys=>
       rw[e3]at s;simp only;rw[if_pos s.1];exact ih (i+1) ρ1 _ hi (by lia) s.2 hm st hn
  ·have:xs[i]?=none:=aU (by lia)
   simp only[this];exact hn ρ M (by rw[show xs.length=i by lia];exact h)
theorem ZqC(I:Ro->Prop)(os:List (Option D))(hM:M[n]?=some (.lst xs))(hl:xs.length<10000000)(ho:os.length=xs.length)(h0:I (roB k fr ρ))(st:∀(i:Nat)(h:i<xs.length)(ρ:Ro)(M':Sto),Kp M M'->I ρ->wG (tg xs[i] ρ) fun r=>I r/\wO (f r M') (fun y M2=>os[i]?=some (some y)/\Kp M' M2) (fun e M2=>e=c/\os[i]?=some none/\Kp M' M2))(hq:∀ys M',ZaM os=some ys->Kp M M'->M'[M.length]?=some (.lst ys)->Q (.ref M.length) M')(he:∀M',ZaM os=none->Kp M M'->E c M'):ZqB tg f k fr ρ Q E (.sto n) M:=by
 refine ZnD (xs:=xs) (Q:=fun M2=>Q (.ref M.length) M2) (fun i ρ M'=>I ρ/\Kp M M'/\∃ys,os.take i=ys.map some/\M'[M.length]?=some (.lst ys)) _ 0 _ _ (by simp) (by rw[Zgc hM];lia) ⟨h0,Kp.app,[],by simp,by simp⟩ (fun i ρ M' hi hI=>by rw[Zjs];exact hI.2.1.get hM) ?_ (fun ρ M' hI=>?_)
 ·rintro i ρ M' hi ⟨hI,K,ys,e1,r⟩;have s:=st i hi ρ M' K hI;cases e:tg xs[i] ρ with
  |none=>rw[e]at s;exact s.elim
  |some r'=>
   rw[e]at s;obtain⟨hr,s⟩:=s;refine Zb7 s (fun y M2 ⟨h1,h2⟩=>?_) (fun e' M2 ⟨h1,h2,h3⟩=>?_)
   ·rw[h2.get r];have hl2:=ZM (h2.get r);have ly:ys.length=i:=by
     have:=congrArg dQ e1
     rw[bF,ae]at this;lia
    refine⟨by lia,hr,(K.trans h2).set (au _),ys++[y],?_,?_⟩
    ·rw[jV,h1,e1,cC];rfl
    ·rw[aP hl2]
   ·subst h1;exact he M2 (Zg9 (c8 h2)) (K.trans h3)
 ·obtain⟨_,K,ys,e1,r⟩:=hI;rw[<-ho,i8]at e1;exact hq ys M' (by rw[e1,Zg8]) K r
def kCE(tab:List (Str×(W3)))(fs:Av)(ρ:Ro)(Q:W0)(E:W2)(d:D)(M:Sto):Prop:=match d with
 |.fn c=>wG (tab.lookup c) fun F=>wO (fs ρ M) (kU F Q E) E
 |_=>False
theorem ZnE:wO (eCE fg tab fs ρ M) Q E=wO (fg ρ M) (kCE tab fs ρ Q E) E:=by
 unfold eCE;rw[Zy];congr 1;funext d M1;cases d<;>try rfl
 rename_i c;unfold kCE;simp only;cases tab.lookup c with
 |none=>rfl
 |some F=>exact Zy
theorem Zs0:kCE tab fs ρ Q E (.fn c) M=wG (tab.lookup c) fun F=>wO (fs ρ M) (kU F Q E) E:=rfl
theorem Zu2(h:ρ[i]?=some (some (.fn c)))(ht:tab.lookup c=some F):wO (eCV i tab fs ρ M) Q E=wO (fs ρ M) (kU F Q E) E:=by
 have e:eCV i tab fs ρ M=(fs ρ M).bind fun ds M1=>F ds M1:=by
  unfold eCV;rw[h];simp only[ht]
 rw[e];exact Zy
theorem ZqD:wO (bLisT [.str z] M) Q E=(z.cps.size<=10000/\Q (.ref M.length) (M++[.lst (sgs z)])):=by
 unfold bLisT;by_cases h:z.cps.size<=10000
 ·simp only[if_pos h];exact propext ⟨fun q=>⟨h,q⟩,fun q=>q.2⟩
 ·simp only[if_neg h];exact propext ⟨fun q=>q.elim,fun q=>h q.1⟩
theorem Zs1(h:ba y z 0 y.length 1=i::r)(q:Q (.int i) M):wO (mIxT (.str y) [.str z] M) Q E:=by
 unfold mIxT;simp only[h];exact q
end
end DL
namespace CD
open L2 DL
open CV
open CB (Bd)
open CA (Tn)
open CR (rt Sz)
open CH (rts ZU Z0)
end CD
namespace CD
open L2 DL
open CV CN CU CS
open CR (rt Sz)
open CH (rts ZU Z0)
end CD
namespace DL
open TW
open CN (cq)
end DL
namespace CO
open L2 DL
open CC (F_following)
end CO
namespace CO
open L2 DL
open CV CN CU CS CD
open CA (Tn)
open CR (rt Sz)
open CH (rts ZU Z0)
theorem Zha{f:D->D->Option Bool}:∀{xs:List D},(∀x∈xs,f x x=some true)->eqL f xs xs=some true
 |[],_=>rfl
 |x::xs,h=>by
  rw[eqL,h x (by simp),Zha fun y hy=>h y (ak _ hy)]
  rfl
end CO
namespace CQ
open L2 DL
end CQ
namespace CQ
open L2 DL
open CV
open CB (Bd)
open CA (Tn)
open CD (tb ZnU)
end CQ
namespace CQ
open L2 DL
open CV
open CB (Bd)
open CA (Tn)
open CD (tb ZnU)
end CQ
namespace CQ
open L2 DL
open CV
open CB (Bd)
open CA (Tn)
open CD (tb ZnU)
end CQ
namespace CQ
open L2 DL
open CV
open CB (Bd)
open CA (Tn)
open CD (tb ZnU)
end CQ
namespace CB
open L2 DL
end CB
namespace CX
open L2 DL
open CC (F_following)
end CX
namespace CX
open L2 DL
open CV
open CB (Bd)
def ltP:List Pt->List Pt->Bool
 |[],[]=>false
 |[],_::_=>true
 |_::_,[]=>false
 |x::xs,y::ys=>if x=y then ltP xs ys else HT.Zmm [x.1,x.2] [y.1,y.2]
end CX
namespace CX
open L2 DL
open CV
open CB (Bd)
end CX
namespace CX
open L2 DL
open CV
open CB (Bd)
noncomputable def onw(L:List Pt)(i:Nat):List Pt:=L.drop i++L.take i
def rdg(L:List Pt)(i:Nat)(b:Bool):List Pt:=if b then(onw L i).take 1++((onw L i).drop 1).reverse else onw L i
def bsd(ls:List Pt)(i:Nat)(b:Bool):Pt:=if b then cy ls ((i:Int)-1)else cy ls ((i:Int)+1)
def Bst(lo:Nat)(L ls:List Pt)(S:Nat->Bool->Prop)(v3 v4:D)(M:Sto):Prop:=(v3=.non/\v4=.non/\∀i b,¬S i b)\/∃i b o,(S i b/\lo<=o)/\v3=.ref o/\v4=.tup [pr (cy ls (i:Nat)).1 (cy ls (i:Nat)).2,pr (bsd ls i b).1 (bsd ls i b).2]/\M[o]?=some (.lst (prs (rdg L i b)))/\∀i' b',S i' b'->ltP (rdg L i' b') (rdg L i b)=false
theorem Bst.congr(h:∀i b,S i b↔S' i b)(k:Bst lo L ls S v3 v4 M):Bst lo L ls S' v3 v4 M:=by
 rcases k with⟨h1,h2,h3⟩|⟨i,b,o,h1,h2,h3,h4,h5⟩
 ·exact .inl ⟨h1,h2,fun i b k=>h3 i b ((h i b).mpr k)⟩
 ·exact .inr ⟨i,b,o,⟨(h i b).mp h1.1,h1.2⟩,h2,h3,h4,fun i' b' k=>h5 i' b' ((h i' b').mpr k)⟩
theorem Bst.kp(k:Bst lo L ls S v3 v4 M)(K:Kp M M'):Bst lo L ls S v3 v4 M':=by
 rcases k with h|⟨i,b,o,h1,h2,h3,h4,h5⟩
 ·exact .inl h
 ·exact .inr ⟨i,b,o,h1,h2,h3,K.get h4,h5⟩
end CX
namespace CX
open L2 DL
open CB (Bd)
def fn(L:List Pt)(x s:Int):List Pt:=(aJ L.length).map fun(t:Nat)=>cy L (x+s*t)
noncomputable def sn(b:Bool):Int:=if b then -1 else 1
end CX
namespace CX
open L2 DL
open CB (Bd)
open CV
end CX
namespace CG
open L2 DL
open CC (F_crossed F_following)
open CR (F_is_whole F_greatest_divisor F_law_whole)
def ZcD:Sv:=(ZE (Zav (Zd2 "tuple" (Zg 0)) (Zav (e2 dEq (Zj bLen (Zc (Zg 0) aNil)) (eC (.int 2))) (Zav (Zj F_is_whole (Zc (e2 dIx (Zg 0) (eC (.int 0))) aNil)) (Zj F_is_whole (Zc (e2 dIx (Zg 0) (eC (.int 1))) aNil))))))
def F_is_pair:W3:=fnF ZcD 1 0
def ZeT:Sv:=(ZE (Zj F_greatest_divisor (Zc (e2 dIx (Zg 0) (eC (.int 0))) (Zc (e2 dIx (Zg 0) (eC (.int 1))) aNil))))
def F_common:W3:=fnF ZeT 1 0
def Zdg:Sv:=(ZE (Zav (Zj F_is_pair (Zc (Zg 0) aNil)) (e2 dEq (Zj F_common (Zc (Zg 0) aNil)) (eC (.int 1)))))
def F_is_ray:W3:=fnF Zdg 1 0
def ZaK:Sv:=(ZE (ZhP (e2 dEq (Zg 0) (Z6 (Zc (eC (.int 1)) (Zc (eC (.int 0)) aNil)))) (Zav (e2 dLt (e2 dIx (Zg 0) (eC (.int 1))) (eC (.int 0))) (e2 dLt (eC (.int 0)) (e2 dIx (Zg 1) (eC (.int 1)))))))
def F_met_direction:W3:=fnF ZaK 2 0
def Z7:Sv:=(sIf (Z9 (tv (Zj F_is_ray (Zc (Zg 2) aNil)))) (Zbf (PySem.Str.ofString "NoRound") (Zc (eC (.str (PySem.Str.ofString "ray"))) (Zc (Zg 1) aNil))) sNil)
def Z8:Sv:=(sIf (tv (e2 dLe (Zj F_crossed (Zc (Zg 2) (Zc (Zj F_following (Zc (Zg 0) (Zc (Zg 1) aNil))) aNil))) (eC (.int 0)))) (Zbf (PySem.Str.ofString "NoRound") (Zc (eC (.str (PySem.Str.ofString "wedge"))) (Zc (Zg 1) aNil))) sNil)
def Zau:Sv:=(Zv (sIf (Zb4 (Z9 (tv (Zd2 "list" (Zg 0)))) (tv (e2 dLt (Zj bLen (Zc (Zg 0) aNil)) (eC (.int 3))))) (Zbf (PySem.Str.ofString "NoRound") (Zc (eC (.str (PySem.Str.ofString "round"))) (Zc (eC (.int 0)) aNil))) sNil) (Zv (Zdw (gTp (gCs (gNm 1) (gCs (gNm 2) gNl))) (iEn (Zc (Zg 0) aNil)) Z7) (Zv (Zdw (gTp (gCs (gNm 1) (gCs (gNm 2) gNl))) (iEn (Zc (Zg 0) aNil)) Z8) (sIf (tv (e2 dGt (Zj bLen (Zc (ZaH (iEn (Zc (Zg 0) aNil)) 2 [0] (gTp (gCs (gNm 0) (gCs (gNm 1) gNl))) (tv (Zj F_met_direction (Zc (Zg 1) (Zc (Zj F_following (Zc (Zg 2) (Zc (Zg 0) aNil))) aNil)))) (Zg 0)) aNil)) (eC (.int 1)))) (Zbf (PySem.Str.ofString "NoRound") (Zc (eC (.str (PySem.Str.ofString "turns"))) (Zc (eC (.int 0)) aNil))) sNil))))
def F_look_round:W3:=fnF Zau 1 2
end CG
namespace CG
open L2 DL
open CB (Bd)
open CV (Kp)
open CC (F_following)
noncomputable abbrev NR:Str:=PySem.Str.ofString "NoRound"
noncomputable def met(a b:Pt):Bool:=decide (a=(1,0))||(decide (a.2<0)&&decide (0<b.2))
def Zhb(rs:List Pt):Nat:=((aJ rs.length).filter fun(i:Nat)=>met (cy rs i) (cy rs (i+1))).length
section
variable {E:W2}{u:Pt}
theorem ZdP(h:M[m]?=some (.lst xs)):ZO M (.ref m)=some "list":=by simp[ZO,kd,h]
theorem ZqE:wO (F_is_pair [pr u.1 u.2] M) Q E=Q (.bl true) M:=by
 simp![F_is_pair,ZcD,CR.F_is_whole,CR.Zah]
theorem ZqF(q:Q (.bl (decide (bq u.1 u.2=1))) M):wO (F_is_ray [pr u.1 u.2] M) Q E:=by
 simp![F_is_ray,Zdg,ZqE];simp![F_common,ZeT,CR.Zqy];rw[ZlK];simp![Zk];have e:decide (((bq u.1 u.2:Nat):Int)=1)=decide (bq u.1 u.2=1):=decide_eq_decide.mpr (by lia)
 rw[e];exact q
theorem Zs2(q:Q (.bl (met u v)) M):wO (F_met_direction [pr u.1 u.2,pr v.1 v.2] M) Q E:=by
 unfold met at q;simp![F_met_direction,ZaK];refine brO (fun z=>?_) (fun z=>?_)
 ·simp![Zk];have e:u=(1,0):=z;rw[decide_eq_true e,Bool.true_or]at q;exact q
 ·simp![Zk];have e:¬u=(1,0):=z;rw[decide_eq_false e,Bool.false_or]at q;refine brO (fun z2=>?_) (fun z2=>?_)
  ·simp![Zk];rw[decide_eq_true z2,Bool.true_and]at q;exact q
  ·simp![Zk];rw[decide_eq_false z2,iy]at q;exact q
theorem Zl2{i:Nat}(h:i<=2000000):((i:Int)).natAbs.log2<1000:=by
 rw[Int.natAbs_natCast];by_cases c:i=0
 ·rw[c];decide
 ·exact ay ((iI c).mpr (show i<2^21 by lia)) (by decide)
theorem ZnF(h:M[m]?=some (.lst (prs rs)))(hl:3<=rs.length/\rs.length<=2000000)(hb:∀p∈rs,Bd 1000000000000000000 p)(hg:∀p∈rs,bq p.1 p.2=1)(h1:∀i:Nat,i<rs.length->(∀j:Nat,j<i->0<X (cy rs j) (cy rs (j+1)))->¬0<X (cy rs i) (cy rs (i+1))->E NR (M++[.lst [.str (PySem.Str.ofString "wedge"),.int i]]))(h2:(∀i:Nat,i<rs.length->0<X (cy rs i) (cy rs (i+1)))->1<Zhb rs->∀M',Kp M M'->E NR (M'++[.lst [.str (PySem.Str.ofString "turns"),.int 0]]))(h3:(∀i:Nat,i<rs.length->0<X (cy rs i) (cy rs (i+1)))->Zhb rs<=1->∀M',Kp M M'->Q .non M'):wS ((Zv (Zdw (gTp (gCs (gNm 1) (gCs (gNm 2) gNl))) (iEn (Zc (Zg 0) aNil)) Z8) (sIf (tv (e2 dGt (Zj bLen (Zc (ZaH (iEn (Zc (Zg 0) aNil)) 2 [0] (gTp (gCs (gNm 0) (gCs (gNm 1) gNl))) (tv (Zj F_met_direction (Zc (Zg 1) (Zc (Zj F_following (Zc (Zg 2) (Zc (Zg 0) aNil))) aNil)))) (Zg 0)) aNil)) (eC (.int 1)))) (Zbf (PySem.Str.ofString "NoRound") (Zc (eC (.str (PySem.Str.ofString "turns"))) (Zc (eC (.int 0)) aNil))) sNil)) [some (.ref m),x,y] M) (ZpV Q) Q (fun _ _=>False) (fun _ _=>False) E:=by
 have ne:rs≠[]:=by intro z;rw[z]at hl;simp at hl
 simp![Zk];refine Zei (fun i ρ M'=>M'=M/\(∃x y,ρ=[some (.ref m),x,y])/\∀j:Nat,j<i->0<X (cy rs j) (cy rs (j+1))) h ⟨rfl,⟨_,_,rfl⟩,fun j hj=>by lia⟩ (fun i ρ M' hI=>by rw[hI.1];exact h) ?_ ?_
 ·rintro i ρ M' hi ⟨e,⟨x,y,rfl⟩,hj⟩;rw[e];clear e M';rw[ZC]at hi;rw[CC.Zcb];have b1:=hb _ (Zej (i:=(i:Int)) ne);have cw:∀{Q:W0}{E:W2},wO (CC.F_crossed [pr (cy rs i).1 (cy rs i).2,pr (cy rs (i+1)).1 (cy rs (i+1)).2] M) Q E=Q (.int (X (cy rs i) (cy rs (i+1)))) M:=CC.ZcU (by unfold Bd at b1;lia) (by unfold Bd at b1;lia)
  simp![Z8,CC.ZdH h,cw];refine brS (fun z=>?_) (fun z=>?_)
  ·refine Zdf ?_;simp![Zg4];exact⟨⟨by decide +kernel,Zl2 (by lia)⟩,h1 i hi hj (by lia)⟩
  ·simp![Zk];refine⟨⟨_,_,rfl⟩,fun j hj'=>?_⟩;by_cases c:j<i
   ·exact hj j c
   ·have:j=i:=by lia
    subst this;lia
 rintro ρ M' ⟨e,⟨x,y,rfl⟩,hj⟩;rw[e];clear e M';rw[ZC]at hj;simp![Zk];show wO (Zez (.enu m) _ _ _ M.length (cnt (.enu m) M) 0 _ (M++[.lst []])) _ _;have hln:((prs rs).mapIdx fun(k:Nat) d=>D.tup [.int k,d]).length=rs.length:=by simp[ZC]
 have lm:=ZM h;refine ZfJ (xs:=(prs rs).mapIdx fun(k:Nat) d=>D.tup [.int k,d]) (fun i ρ M'=>(∃x y,ρ=[x,y,some (.ref m)])/\M'=M++[.lst (((aJ i).filter fun(i:Nat)=>met (cy rs i) (cy rs (i+1))).map fun(i:Nat)=>D.int i)]) _ 0 _ _ (by simp) (by rw[Zjr h,hln,ZC];lia) ⟨⟨_,_,rfl⟩,rfl⟩ (fun i ρ M' hi hI=>?_) ?_ ?_
 ·rw[hI.2,ZlQ (by rw[Zbg lm];exact h),jR]
 ·rintro i ρ M' hi ⟨⟨x,y,rfl⟩,rfl⟩;have hi':i<rs.length:=by rw[hln]at hi;exact hi
  have hM:(M++[SO.lst (((aJ i).filter fun(i:Nat)=>met (cy rs i) (cy rs (i+1))).map fun(i:Nat)=>D.int i)])[m]?=some (.lst (prs rs)):=by rw[Zbg lm];exact h
  rw[ku,CC.Zcb];simp![CC.ZdH hM];refine Zs2 ?_;simp![Zk];refine br (fun z=>?_) (fun z=>?_)
  ·simp![Zk];have l1:((aJ i).filter fun(i:Nat)=>met (cy rs i) (cy rs (i+1))).length<=i:=by
    have:=jA (fun(i:Nat)=>met (cy rs i) (cy rs (i+1))) (aJ i)
    rw[List.length_range]at this;exact this
   refine⟨by lia,?_⟩
   rw[fY,eM,cC];simp[dC,z]
  ·refine⟨⟨_,_,rfl⟩,?_⟩;rw[fY,eM];simp[dC,z]
 ·rintro ρ M' ⟨-,rfl⟩;rw[hln];have hlen:(((aJ rs.length).filter fun(i:Nat)=>met (cy rs i) (cy rs (i+1))).map fun(i:Nat)=>D.int i).length=Zhb rs:=by rw[ae];rfl
  have t:(M++[SO.lst (((aJ rs.length).filter fun(i:Nat)=>met (cy rs i) (cy rs (i+1))).map fun(i:Nat)=>D.int i)])[M.length]?=some (.lst (((aJ rs.length).filter fun(i:Nat)=>met (cy rs i) (cy rs (i+1))).map fun(i:Nat)=>D.int i)):=by simp
  have K1:Kp M (M++[SO.lst (((aJ rs.length).filter fun(i:Nat)=>met (cy rs i) (cy rs (i+1))).map fun(i:Nat)=>D.int i)]):=Kp.app;generalize M++[SO.lst (((aJ rs.length).filter fun(i:Nat)=>met (cy rs i) (cy rs (i+1))).map fun(i:Nat)=>D.int i)]=M1 at *;generalize ((aJ rs.length).filter fun(i:Nat)=>met (cy rs i) (cy rs (i+1))).map (fun(i:Nat)=>D.int i)=L at *;show kA1 _ _ _ _ (.ref M.length) M1;simp![t];rw[hlen];refine brS (fun z=>?_) (fun z=>?_)
  ·refine Zdf ?_;simp![Zg4];exact⟨⟨by decide +kernel,by decide +kernel⟩,h2 hj (by lia) M1 K1⟩
  ·simp![Zk];exact h3 hj (by lia) M1 K1
theorem ZjE(h:M[m]?=some (.lst (prs rs)))(hl:3<=rs.length/\rs.length<=2000000)(hb:∀p∈rs,Bd 1000000000000000000 p)(hg:∀p∈rs,bq p.1 p.2=1)(h1:∀i:Nat,i<rs.length->(∀j:Nat,j<i->0<X (cy rs j) (cy rs (j+1)))->¬0<X (cy rs i) (cy rs (i+1))->E NR (M++[.lst [.str (PySem.Str.ofString "wedge"),.int i]]))(h2:(∀i:Nat,i<rs.length->0<X (cy rs i) (cy rs (i+1)))->1<Zhb rs->∀M',Kp M M'->E NR (M'++[.lst [.str (PySem.Str.ofString "turns"),.int 0]]))(h3:(∀i:Nat,i<rs.length->0<X (cy rs i) (cy rs (i+1)))->Zhb rs<=1->∀M',Kp M M'->Q .non M'):wO (F_look_round [.ref m] M) Q E:=by
 have ne:rs≠[]:=by intro z;rw[z]at hl;simp at hl
 simp![F_look_round,Zau,ZdP h,h];refine Zei (fun i ρ M'=>M'=M/\∃x y,ρ=[some (.ref m),x,y]) h ⟨rfl,_,_,rfl⟩ (fun i ρ M' hI=>by rw[hI.1];exact h) ?_ ?_
 ·rintro i ρ M' hi ⟨e,x,y,rfl⟩;rw[e];clear e M';rw[ZC]at hi;rw[CC.Zcb];simp![Z7];refine ZqF ?_;rw[hg _ (Zej ne),decide_eq_true rfl];simp![Zk];exact⟨_,_,rfl⟩
 rintro ρ M' ⟨e,x,y,rfl⟩;rw[e];clear e M';exact ZnF h hl hb hg h1 h2 h3
end
end CG
namespace CJ
open L2 DL
open CC (F_law_cross)
open CR (F_law_whole)
open CY (F_law_straight)
def ZbE:Sv:=(Zv (sIf (Zb4 (Z9 (tv (Zd2 "tuple" (Zg 0)))) (Zb4 (tv (e2 dNe (Zj bLen (Zc (Zg 0) aNil)) (eC (.int 2)))) (Zb4 (Z9 (tv (Zj F_law_whole (Zc (e2 dIx (Zg 0) (eC (.int 0))) aNil)))) (Z9 (tv (Zj F_law_whole (Zc (e2 dIx (Zg 0) (eC (.int 1))) aNil))))))) (ZE (eC (.bl false))) sNil) (ZE (Zav (e2 dNe (Zg 0) (Z6 (Zc (eC (.int 0)) (Zc (eC (.int 0)) aNil)))) (e2 dEq (Zj F_law_straight (Zc (Zg 0) aNil)) (Zg 0)))))
def F_law_is_ray:W3:=fnF ZbE 1 0
def ZaW:Sv:=(Zv (sIf (tv (e2 dEq (e2 dIx (Zg 0) (eC (.int 1))) (eC (.int 0)))) (ZE (e2 dGt (e2 dIx (Zg 0) (eC (.int 0))) (eC (.int 0)))) sNil) (ZE (Zav (e2 dLt (e2 dIx (Zg 0) (eC (.int 1))) (eC (.int 0))) (e2 dGt (e2 dIx (Zg 1) (eC (.int 1))) (eC (.int 0))))))
def F_law_has_east:W3:=fnF ZaW 2 0
def ZX:Sv:=(sIf (Z9 (tv (Zj F_law_is_ray (Zc (Zg 2) aNil)))) (ZE (Z6 (Zc (eC (.str (PySem.Str.ofString "ray"))) (Zc (Zg 1) aNil)))) sNil)
def Zap:Sv:=(sIf (tv (e2 dLe (Zj F_law_cross (Zc (Zg 2) (Zc (e2 dIx (Zg 0) (e2 dMod (e2 dAdd (Zg 1) (eC (.int 1))) (Zj bLen (Zc (Zg 0) aNil)))) aNil))) (eC (.int 0)))) (ZE (Z6 (Zc (eC (.str (PySem.Str.ofString "wedge"))) (Zc (Zg 1) aNil)))) sNil)
def Zaq:Sv:=(ZF (gNm 3) (e2 dAdd (Zg 3) (Zj bInt (Zc (Zj F_law_has_east (Zc (e2 dIx (Zg 0) (e2 dSub (Zg 1) (eC (.int 1)))) (Zc (e2 dIx (Zg 0) (Zg 1)) aNil))) aNil))))
def Zai:Sv:=(Zv (sIf (Zb4 (Z9 (tv (Zd2 "list" (Zg 0)))) (tv (e2 dLt (Zj bLen (Zc (Zg 0) aNil)) (eC (.int 3))))) (ZE (Z6 (Zc (eC (.str (PySem.Str.ofString "round"))) (Zc (eC (.int 0)) aNil)))) sNil) (Zv (Zdw (gTp (gCs (gNm 1) (gCs (gNm 2) gNl))) (iEn (Zc (Zg 0) aNil)) ZX) (Zv (Zdw (gTp (gCs (gNm 1) (gCs (gNm 2) gNl))) (iEn (Zc (Zg 0) aNil)) Zap) (Zv (ZF (gNm 3) (eC (.int 0))) (Zv (ZaF (gNm 1) (Zc (Zj bLen (Zc (Zg 0) aNil)) aNil) Zaq) (Zv (sIf (tv (e2 dGt (Zg 3) (eC (.int 1)))) (ZE (Z6 (Zc (eC (.str (PySem.Str.ofString "turns"))) (Zc (eC (.int 0)) aNil)))) sNil) (ZE (eC .non))))))))
def F_law_fault:W3:=fnF Zai 1 3
end CJ
namespace CJ
open L2 DL
open CB (Bd)
open CV (Kp)
open CG (met Zhb NR)
def Zrk(M:Sto)(x:D):Prop:=∃t,ZO M x=some t/\(Zbs t "int"=false\/t="bool")
def Odd(M:Sto)(d:D):Prop:=(∃t,ZO M d=some t/\Zbs t "tuple"=false)\/∃xs,d=.tup xs/\(xs.length≠2\/∃x y,xs=[x,y]/\(Zrk M x\/(∃i,x=.int i)/\Zrk M y))
def El(M:Sto)(d:D):Option Pt->Prop
 |some p=>d=pr p.1 p.2/\Bd 1000000000000000000 p
 |none=>Odd M d
structure Els(M:Sto) (ds:List D) (L:List (Option Pt)):Prop where
 len:ds.length=L.length
 at':∀i (h:i<ds.length) (h':i<L.length),El M ds[i] L[i]
noncomputable def ZhR(o:Option Pt):Bool:=match o with|some p=>decide (bq p.1 p.2=1)|none=>false
inductive Res:List (Option Pt)->Option (Str×Nat)->Prop where
 |ray {L:List (Option Pt)} (i:Nat) (h:i<L.length):(∀j (hj:j<L.length),j<i->ZhR L[j]=true)->ZhR L[i]=false->Res L (some (PySem.Str.ofString "ray",i))
 |wedge {rs:List Pt} (i:Nat) (h:i<rs.length):(∀p∈rs,bq p.1 p.2=1)->(∀j:Nat,j<i->0<X (cy rs j) (cy rs (j+1)))->¬0<X (cy rs i) (cy rs (i+1))->Res (rs.map some) (some (PySem.Str.ofString "wedge",i))
 |turns {rs:List Pt}:(∀p∈rs,bq p.1 p.2=1)->(∀j:Nat,j<rs.length->0<X (cy rs j) (cy rs (j+1)))->1<Zhb rs->Res (rs.map some) (some (PySem.Str.ofString "turns",0))
 |fine {rs:List Pt}:(∀p∈rs,bq p.1 p.2=1)->(∀j:Nat,j<rs.length->0<X (cy rs j) (cy rs (j+1)))->Zhb rs<=1->Res (rs.map some) none
noncomputable def enc:Option (Str×Nat)->D
 |none=>.non
 |some (w,i)=>.tup [.str w,.int i]
theorem ZqG{p:Nat->Prop}:∀n,p n->∃m,p m/\∀j,j<m->¬p j:=by
 intro n
 induction n using jt with
 |ind n ih=>
  intro h;by_cases c:∃j,j<n/\p j
  ·obtain⟨j,a,b⟩:=c;exact ih j a b
  ·exact⟨n,h,fun j hj z=>c ⟨j,hj,z⟩⟩
theorem Zhc:∀{L:List (Option Pt)},(∀o∈L,ZhR o=true)->∃rs:List Pt,L=rs.map some/\∀p∈rs,bq p.1 p.2=1
 |[],_=>⟨[],rfl,fun p hp=>by simp at hp⟩
 |o::L,h=>by
  obtain⟨rs,e,g⟩:=Zhc (L:=L) fun x hx=>h x (by simp[hx])
  have:=h o (by simp)
  cases o with
  |none=>cases this
  |some p=>
   refine⟨p::rs,by rw[e];rfl,fun q hq=>?_⟩
   rcases aK.mp hq with rfl|hq
   ·exact of_decide_eq_true this
   ·exact g q hq
theorem Res.ex(L:List (Option Pt)):∃r,Res L r:=by
 by_cases c:∃i,∃h:i<L.length,ZhR L[i]=false
 ·obtain⟨n,hn⟩:=c;obtain⟨i,⟨hi,e⟩,hm⟩:=ZqG (p:=fun i=>∃h:i<L.length,ZhR L[i]=false) n hn;refine⟨_,.ray i hi (fun j hj hlt=>?_) e⟩;cases z:ZhR L[j]with
  |true=>rfl
  |false=>exact absurd ⟨hj,z⟩ (hm j hlt)
 ·obtain⟨rs,rfl,g⟩:=Zhc (L:=L) fun o ho=>by
   obtain⟨i,hi,rfl⟩:=di ho;cases z:ZhR L[i]with
   |true=>rfl
   |false=>exact absurd ⟨i,hi,z⟩ c
  by_cases c2:∃i:Nat,i<rs.length/\¬0<X (cy rs i) (cy rs (i+1))
  ·obtain⟨n,hn⟩:=c2;obtain⟨i,⟨hi,e⟩,hm⟩:=ZqG (p:=fun(i:Nat)=>i<rs.length/\¬0<X (cy rs i) (cy rs (i+1))) n hn;refine⟨_,.wedge i hi g (fun j hj=>?_) e⟩;exact cQ fun z=>hm j hj ⟨by lia,z⟩
  ·have pos:∀j:Nat,j<rs.length->0<X (cy rs j) (cy rs (j+1)):=fun j hj=>cQ fun z=>c2 ⟨j,hj,z⟩;by_cases c3:1<Zhb rs
   ·exact⟨_,.turns g pos c3⟩
   ·exact⟨_,.fine g pos (by lia)⟩
theorem ZeU(h:Zrk M x)(q:Q (.bl false) M):wO (CR.F_is_whole [x] M) Q E:=by
 obtain⟨t,a,b⟩:=h;rcases b with b|rfl
 ·simp![CR.F_is_whole,CR.Zah,a,b];exact q
 ·simp![CR.F_is_whole,CR.Zah,a];exact q
theorem ZfS(h:Zrk M x)(q:Q (.bl false) M):wO (CR.F_law_whole [x] M) Q E:=ZeU h q
theorem ZjF:wO (CR.F_is_whole [.int i] M) Q E=Q (.bl true) M:=by
 simp![CR.F_is_whole,CR.Zah]
theorem Zk8:wO (CR.F_law_whole [.int i] M) Q E=Q (.bl true) M:=ZjF
theorem Zl3{xs:List D}(h:xs.length≠2):decide ((xs.length:Int)=2)=false:=decide_eq_false (by lia)
theorem Zs3(h:El M d o)(q:Q (.bl (ZhR o)) M):wO (CG.F_is_ray [d] M) Q E:=by
 cases o with
 |some p=>
  obtain⟨rfl,_⟩:=h;exact CG.ZqF q
 |none=>
  simp![CG.F_is_ray,CG.Zdg,CG.F_is_pair,CG.ZcD];rcases h with⟨t,a,b⟩|⟨xs,rfl,h⟩
  ·simp![a,b];exact q
  ·rcases h with h|⟨x,y,rfl,h⟩
   ·simp![ZfM,Zl3 h];exact q
   ·simp![ZfM];rcases h with h|⟨⟨i,rfl⟩,h⟩
    ·refine ZeU h ?_;simp![Zk];exact q
    ·simp![ZjF];refine ZeU h ?_;simp![Zk];exact q
theorem ZhK(h0:(x,y)≠(0,0))(hx: -1000000000000000000<=x/\x<=1000000000000000000)(hy: -1000000000000000000<=y/\y<=1000000000000000000)(q:Q (pr (x/(bq x y:Nat)) (y/(bq x y:Nat))) M):wO (CY.F_law_straight [pr x y] M) Q E:=by
 simp![CY.F_law_straight,CY.Zao];refine Zno (fun k ρ M'=>M'=M/\∃a b:Nat,ρ=[some (pr x y),some (.int a),some (.int b)]/\k=b/\kW a b=bq x y/\a<=1000000000000000000/\b<=1000000000000000000) ?_ y.natAbs _ _ ⟨rfl,x.natAbs,y.natAbs,rfl,rfl,rfl,by lia,by lia⟩
 rintro k ρ M' ⟨e,a,b,rfl,rfl,g,ha,hk'⟩;rw[e];clear e M';simp![Zk];refine Znp (fun h=>?_) (fun h=>?_)
 ·simp![CY.ZV];have hb:0<k:=by lia
  have hm:=jk a hb;refine⟨a%k,hm,k,a%k,by rw[i3],rfl,?_,?_⟩
  ·rw[<-g,eK k,<-jP,eK]
  ·lia
 ·have k0:k=0:=by lia
  subst k0;rw[f7]at g;have ap:0<a:=by
   apply Nat.pos_of_ne_zero;intro z;rw[z]at g
   have:=kx.mp g.symm
   exact h0 (by rw[this.1,this.2])
  simp![Zk];rw[g];exact q
theorem ZqH{x:Int}(h0:x≠0)(hd:g ∣ x)(h:x/g=x):g=1:=by
 have:=Int.ediv_mul_cancel hd
 rw[h]at this;have e:x*(g-1)=0:=by rw[Int.mul_sub,this];lia
 rcases Int.mul_eq_zero.mp e with z|z
 ·exact absurd z h0
 ·lia
theorem ZnG{p:Pt}(h0:(p.1,p.2)≠(0,0)):decide ((p.1/(bq p.1 p.2:Nat),p.2/(bq p.1 p.2:Nat))=(p.1,p.2))=ZhR (some p):=by
 show _=decide _;rw[decide_eq_decide,gS];constructor
 ·rintro⟨h1,h2⟩;by_cases c:p.1=0
  ·have c2:p.2≠0:=fun z=>h0 (by rw[c,z])
   have:=ZqH c2 (iM ..) h2
   lia
  ·have:=ZqH c (i6 ..) h1
   lia
 ·intro h;rw[h];exact⟨je _,je _⟩
theorem Zl4(h:El M d o)(q:Q (.bl (ZhR o)) M):wO (F_law_is_ray [d] M) Q E:=by
 simp![F_law_is_ray,ZbE];cases o with
 |some p=>
  obtain⟨rfl,hb⟩:=h;unfold Bd at hb;simp![ZfM,CR.F_law_whole,CR.Zcc];refine Zrh (fun z=>?_) (fun z=>?_)
  ·simp![Zk];refine ZhK z hb.1 hb.2 ?_;simp![Zk];rw[ZnG z];exact q
  ·simp![Zk];have e:ZhR (some p)=false:=decide_eq_false fun g=>by
    rw[(Prod.mk.inj z).1,(Prod.mk.inj z).2]at g;simp at g
   rw[<-e];exact q
 |none=>
  rcases h with⟨t,a,b⟩|⟨xs,rfl,h⟩
  ·simp![a,b];exact q
  ·rcases h with h|⟨x,y,rfl,h⟩
   ·simp![ZfM,Zl3 h];exact q
   ·simp![ZfM];rcases h with h|⟨⟨i,rfl⟩,h⟩
    ·refine ZfS h ?_;simp![Zk];exact q
    ·simp![Zk8];refine ZfS h ?_;simp![Zk];exact q
theorem ZqI(g:bq u.1 u.2=1)(q:Q (.bl (met u v)) M):wO (F_law_has_east [pr u.1 u.2,pr v.1 v.2] M) Q E:=by
 unfold met at q;simp![F_law_has_east,ZaW];refine brS (fun z=>?_) (fun z=>?_)
 ·simp![Zk];have e:(decide (u=(1,0))||(decide (u.2<0)&&decide (0<v.2)))=decide (0<u.1):=by
   rw[z,Int.gcd_zero_right]at g
   have:¬(u.2<0):=by lia
   by_cases c:0<u.1
   ·have eu:u=(1,0):=jF (by show u.1=1;lia) z
    simp[eu]
   ·have eu:u≠(1,0):=fun w=>c (by rw[w];decide)
    simp[eu,this,c]
  rw[e]at q;exact q
 ·simp![Zk];have eu:u≠(1,0):=fun w=>z (by rw[w])
  rw[decide_eq_false eu,Bool.false_or]at q;refine brO (fun z2=>?_) (fun z2=>?_)
  ·simp![Zk];rw[decide_eq_true z2,Bool.true_and]at q;exact q
  ·simp![Zk];rw[decide_eq_false z2,iy]at q;exact q
theorem ZcW{rs:List Pt}(h:Els M ds (rs.map some)):ds=prs rs/\∀p∈rs,Bd 1000000000000000000 p:=by
 have l:=h.len;rw[ae]at l;constructor
 ·apply gQ
  ·rw[ZC];exact l
  ·intro i h1 h2
   have:=h.at' i h1 (by rw[ae];lia)
   rw[bH]at this;rw[this.1];simp[prs]
 ·intro p hp;obtain⟨i,hi,rfl⟩:=di hp
  have:=h.at' i (by lia) (by rw[ae];lia)
  rw[bH]at this;exact this.2
theorem Zl5{p:Nat->Prop}(a:∀k,k<i->p k)(b:∀k,k<j->p k)(na:¬p i)(nb:¬p j):i=j:=by
 rcases Nat.lt_trichotomy i j with c|c|c
 ·exact absurd (b i c) na
 ·exact c
 ·exact absurd (a j c) nb
theorem ZqJ(hr:Res L r)(h:M[m]?=some (.lst ds))(he:Els M ds L)(hl:3<=ds.length/\ds.length<=1000)(q1:∀w i,r=some (w,i)->∀M',Kp M M'->E NR (M'++[.lst [.str w,.int i]]))(q2:r=none->∀M',Kp M M'->Q .non M'):wO (CG.F_look_round [.ref m] M) Q E:=by
 have len:=he.len;cases hr with
 |ray i hi hj e=>
  simp![CG.F_look_round,CG.Zau,CG.ZdP h,h];refine Zei (fun k ρ M'=>M'=M/\(∃x y,ρ=[some (.ref m),x,y])/\k<=i) h ⟨rfl,⟨_,_,rfl⟩,gY _⟩ (fun k ρ M' hI=>by rw[hI.1];exact h) ?_ ?_
  ·rintro k ρ M' hk ⟨e1,⟨x,y,rfl⟩,ki⟩;rw[e1];clear e1 M';simp![CG.Z7];refine Zs3 (he.at' k hk (by lia)) ?_
   by_cases c:k<i
   ·rw[hj k (by lia) c]
    simp![Zk];exact⟨⟨_,_,rfl⟩,by lia⟩
   ·have ek:k=i:=by lia
    subst ek;rw[e];simp![Zk];refine Zdf ?_;simp![Zg4];exact⟨⟨by decide +kernel,CG.Zl2 (by lia)⟩,q1 _ _ rfl M Kp.refl⟩
  ·rintro ρ M' ⟨_,_,ki⟩;lia
 |wedge i hi g pos np=>
  obtain⟨rfl,hb⟩:=ZcW he;rw[ZC]at hl;refine CG.ZjE h ⟨hl.1,by lia⟩ hb g (fun i' hi' hj' np'=>?_) (fun all _=>absurd (all i hi) np) (fun all _=>absurd (all i hi) np)
  have:=Zl5 hj' pos np' np
  subst this;exact q1 _ _ rfl M Kp.refl
 |turns g pos c=>
  obtain⟨rfl,hb⟩:=ZcW he;rw[ZC]at hl;exact CG.ZjE h ⟨hl.1,by lia⟩ hb g (fun i hi _ np=>absurd (pos i hi) np) (fun _ _ M' K=>q1 _ _ rfl M' K) (fun _ z=>by lia)
 |fine g pos c=>
  obtain⟨rfl,hb⟩:=ZcW he;rw[ZC]at hl;exact CG.ZjE h ⟨hl.1,by lia⟩ hb g (fun i hi _ np=>absurd (pos i hi) np) (fun _ z=>by lia) (fun _ _ M' K=>q2 rfl M' K)
noncomputable def sm(f:Int->Nat)(a:Int):Nat->Nat
 |0=>0
 |k+1=>sm f a k+f (a+k)
theorem ZqK{f:Int->Nat}:∀k:Nat,sm f (-1) (k+1)=f (-1)+sm f 0 k
 |0=>by simp[sm]
 |k+1=>by
  rw[sm,ZqK k,sm];rw[show(-1:Int)+((k+1:Nat):Int)=0+(k:Int)by lia]
  lia
def mt(rs:List Pt)(i:Int):Nat:=if met (cy rs i) (cy rs (i+1))then 1 else 0
theorem ZnH:Zhb rs=sm (mt rs) 0 rs.length:=by
 have:∀k:Nat,((aJ k).filter fun(i:Nat)=>met (cy rs i) (cy rs (i+1))).length=sm (mt rs) 0 k:=by
  intro k
  induction k with
  |zero=>rfl
  |succ k ih=>
   rw[fY,eM,aa,ih,sm];congr 1;unfold mt;rw[show(0:Int)+(k:Int)=k by lia]
   cases c:met (cy rs k) (cy rs (k+1))<;>simp[dC,c]
 exact this _
theorem ZnI(h:0<rs.length):sm (mt rs) (-1) rs.length=Zhb rs:=by
 obtain⟨k,hk⟩:∃k,rs.length=k+1:=⟨rs.length-1,by lia⟩
 rw[ZnH,hk,ZqK,sm];have e:mt rs (-1)=mt rs (0+(k:Int)):=by
  unfold mt;have e1:cy rs (-1)=cy rs (0+(k:Int)):=by rw[<-Zg3,hk];congr 1<;>lia
  have e2:cy rs (-1+1)=cy rs (0+(k:Int)+1):=by rw[<-Zg3,hk];congr 1<;>lia
  rw[e1,e2]
 lia
theorem Zgg(h:M[m]?=some (.lst (prs rs)))(hl:3<=rs.length/\rs.length<=1000)(hb:∀p∈rs,Bd 1000000000000000000 p)(hg:∀p∈rs,bq p.1 p.2=1)(h1:∀i:Nat,i<rs.length->(∀j:Nat,j<i->0<X (cy rs j) (cy rs (j+1)))->¬0<X (cy rs i) (cy rs (i+1))->Q (.tup [.str (PySem.Str.ofString "wedge"),.int i]) M)(h2:(∀i:Nat,i<rs.length->0<X (cy rs i) (cy rs (i+1)))->1<Zhb rs->Q (.tup [.str (PySem.Str.ofString "turns"),.int 0]) M)(h3:(∀i:Nat,i<rs.length->0<X (cy rs i) (cy rs (i+1)))->Zhb rs<=1->Q .non M):wO (F_law_fault [.ref m] M) Q E:=by
 have ne:rs≠[]:=by intro z;rw[z]at hl;simp at hl
 simp![F_law_fault,Zai,CG.ZdP h,h];refine Zei (fun i ρ M'=>M'=M/\∃x y,ρ=[some (.ref m),x,y,none]) h ⟨rfl,_,_,rfl⟩ (fun i ρ M' hI=>by rw[hI.1];exact h) ?_ ?_
 ·rintro i ρ M' hi ⟨e,x,y,rfl⟩;rw[e];clear e M';rw[ZC]at hi;rw[CC.Zcb];simp![ZX];have mem:cy rs i∈rs:=Zej ne;refine Zl4 (o:=some (cy rs i)) ⟨rfl,hb _ mem⟩ ?_;rw[show ZhR (some (cy rs i))=true from decide_eq_true (hg _ mem)];simp![Zk];exact⟨_,_,rfl⟩
 rintro ρ M' ⟨e,x,y,rfl⟩;rw[e];clear e M';simp![Zk];refine Zei (fun i ρ M'=>M'=M/\(∃x y,ρ=[some (.ref m),x,y,none])/\∀j:Nat,j<i->0<X (cy rs j) (cy rs (j+1))) h ⟨rfl,⟨_,_,rfl⟩,fun j hj=>by lia⟩ (fun i ρ M' hI=>by rw[hI.1];exact h) ?_ ?_
 ·rintro i ρ M' hi ⟨e,⟨x,y,rfl⟩,hj⟩;rw[e];clear e M';rw[ZC]at hi;rw[CC.Zcb];have b1:=hb _ (Zej (i:=(i:Int)) ne);have e1:=Zax (i:=(i:Int)+1) (m:=rs.length) (by lia)
  have cw:∀{Q:W0}{E:W2},wO (CC.F_law_cross [pr (cy rs i).1 (cy rs i).2,pr (cy rs (i+1)).1 (cy rs (i+1)).2] M) Q E=Q (.int (X (cy rs i) (cy rs (i+1)))) M:=CC.ZcU (by unfold Bd at b1;lia) (by unfold Bd at b1;lia)
  simp![Zap,h,ZdE,Zc5,cw];refine brS (fun z=>?_) (fun z=>?_)
  ·simp![Zk];exact h1 i hi hj (by lia)
  ·simp![Zk];refine⟨⟨_,_,rfl⟩,fun j hj'=>?_⟩;by_cases c:j<i
   ·exact hj j c
   ·have:j=i:=by lia
    subst this;lia
 rintro ρ M' ⟨e,⟨x,y,rfl⟩,hj⟩;rw[e];clear e M';rw[ZC]at hj;simp![h];refine⟨by lia,?_⟩
 rw[show((rs.length:Int)).toNat=rs.length by lia]
 refine Zb0 (fun i ρ M'=>M'=M/\∃x y,ρ=[some (.ref m),x,y,some (.int (sm (mt rs) (-1) i))]) ⟨rfl,_,_,rfl⟩ ?_ ?_
 ·rintro i ρ M' hi ⟨e,x,y,rfl⟩;rw[e];clear e M';rw[show(0:Int)+(i:Int)=i by lia]
  simp![Zaq,h,ZdE];refine ZqI (hg _ (Zej ne)) ?_;have e:((sm (mt rs) (-1) i:Nat):Int)+(if met (cy rs ((i:Int)-1)) (cy rs i)=true then 1 else 0)=(sm (mt rs) (-1) (i+1):Nat):=by
   rw[sm];unfold mt;rw[show(-1:Int)+(i:Int)=(i:Int)-1 by lia,show(i:Int)-1+1=i by lia]
   split<;>simp
  simp![e];exact⟨_,_,rfl⟩
 rintro ρ M' ⟨e,x,y,rfl⟩;rw[e,ZnI (by lia)]
 clear e M';simp![Zk];refine brS (fun z=>?_) (fun z=>?_)
 ·simp![Zk];exact h2 hj (by lia)
 ·simp![Zk];exact h3 hj (by lia)
theorem ZnJ(hr:Res L r)(h:M[m]?=some (.lst ds))(he:Els M ds L)(hl:3<=ds.length/\ds.length<=1000)(q:Q (enc r) M):wO (F_law_fault [.ref m] M) Q E:=by
 have len:=he.len;cases hr with
 |ray i hi hj e=>
  simp![F_law_fault,Zai,CG.ZdP h,h];refine Zei (fun k ρ M'=>M'=M/\(∃x y,ρ=[some (.ref m),x,y,none])/\k<=i) h ⟨rfl,⟨_,_,rfl⟩,gY _⟩ (fun k ρ M' hI=>by rw[hI.1];exact h) ?_ ?_
  ·rintro k ρ M' hk ⟨e1,⟨x,y,rfl⟩,ki⟩;rw[e1];clear e1 M';simp![ZX];refine Zl4 (he.at' k hk (by lia)) ?_
   by_cases c:k<i
   ·rw[hj k (by lia) c]
    simp![Zk];exact⟨⟨_,_,rfl⟩,by lia⟩
   ·have ek:k=i:=by lia
    subst ek;rw[e];simp![Zk];exact q
  ·rintro ρ M' ⟨_,_,ki⟩;lia
 |wedge i hi g pos np=>
  obtain⟨rfl,hb⟩:=ZcW he;rw[ZC]at hl;refine Zgg h hl hb g (fun i' hi' hj' np'=>?_) (fun all _=>absurd (all i hi) np) (fun all _=>absurd (all i hi) np)
  have:=Zl5 hj' pos np' np
  subst this;exact q
 |turns g pos c=>
  obtain⟨rfl,hb⟩:=ZcW he;rw[ZC]at hl;exact Zgg h hl hb g (fun i hi _ np=>absurd (pos i hi) np) (fun _ _=>q) (fun _ z=>by lia)
 |fine g pos c=>
  obtain⟨rfl,hb⟩:=ZcW he;rw[ZC]at hl;exact Zgg h hl hb g (fun i hi _ np=>absurd (pos i hi) np) (fun _ z=>by lia) (fun _ _=>q)
end CJ
namespace CI
open L2 DL
open CR (F_is_whole F_greatest_divisor)
def ZbS:Sv:=(Zv (sIf (Zb4 (Z9 (tv (Zd2 "tuple" (Zg 0)))) (Zb4 (tv (e2 dNe (Zj bLen (Zc (Zg 0) aNil)) (eC (.int 2)))) (Zb4 (Z9 (tv (Zj F_is_whole (Zc (e2 dIx (Zg 0) (eC (.int 0))) aNil)))) (Z9 (tv (Zj F_is_whole (Zc (e2 dIx (Zg 0) (eC (.int 1))) aNil))))))) (ZE (eC (.bl false))) sNil) (ZE (Zav (e2 dGe (e2 dIx (Zg 0) (eC (.int 1))) (eC (.int 1))) (e2 dEq (Zj F_greatest_divisor (Zc (e2 dIx (Zg 0) (eC (.int 0))) (Zc (e2 dIx (Zg 0) (eC (.int 1))) aNil))) (eC (.int 1))))))
def F_is_ratio:W3:=fnF ZbS 1 0
def ZbT:Sv:=(Zv (sIf (Z9 (tv (Zd2 "str" (Zg 0)))) (Zby (PySem.Str.ofString "NoText") (Zc (eC (.str (PySem.Str.ofString "the thing is no text"))) aNil)) sNil) (ZE (ZfW mSpl (Zg 0) (Zc (eC (.str (PySem.Str.ofString " "))) aNil))))
def F_words_of:W3:=fnF ZbT 1 0
def Zbl:Sv:=(Zv (ZF (gNm 1) (eIf (tv (ZfW mStw (Zg 0) (Zc (eC (.str (PySem.Str.ofString "-"))) aNil))) (ZgS (Zg 0) (oSo (eC (.int 1))) oNo) (Zg 0))) (Zv (sIf (Zb4 (tv (e2 dLt (Zj bLenT (Zc (Zg 1) aNil)) (eC (.int 1)))) (Zb4 (tv (e2 dGt (Zj bLenT (Zc (Zg 1) aNil)) (eC (.int 60)))) (Z9 (tv (Zj bAll (Zc (ZaH (iTx (Zg 1)) 1 [] (gNm 0) (fun _ M=>.ok true M) (e2 dInT (Zg 0) (eC (.str (PySem.Str.ofString "0123456789"))))) aNil)))))) (Zby (PySem.Str.ofString "NoText") (Zc (eC (.str (PySem.Str.ofString "a number is written by one to sixty figures"))) aNil)) sNil)
 (Zv (sIf (Zar (tv (e2 dEq (e2 ZlI (Zg 1) (eC (.int 0))) (eC (.str (PySem.Str.ofString "0"))))) (tv (e2 dNe (Zg 0) (eC (.str (PySem.Str.ofString "0")))))) (Zby (PySem.Str.ofString "NoText") (Zc (eC (.str (PySem.Str.ofString "a nought ahead stands in 0 alone"))) aNil)) sNil) (ZE (Zj bIntT (Zc (Zg 0) aNil))))))
def F_read_number:W3:=fnF Zbl 1 1
end CI
namespace CI
open L2 DL SX PySem.NumText
open CR (rt Sz)
open CH (rts ZU Z0)
open CV
section
variable {n:Nat}
theorem ZfT{i:Int}(h:i.natAbs<10^60):i.natAbs.log2<1900:=by
 by_cases z:i.natAbs=0
 ·rw[z];decide
 ·exact dq ((iI z).mpr (ay h (by decide:10^60<=2^200))) (by decide)
noncomputable def fgs(l:List Nat):List Nat:=match l with|45::r=>r|_=>l
noncomputable def ten:List Nat:=[48,49,50,51,52,53,54,55,56,57]
def okn(l:List Nat):Prop:=(1<=(fgs l).length/\(fgs l).length<=60/\(fgs l).all (fun c=>ten.contains c)=true)/\((fgs l).head?=some 48->l=[48])
def vln(l:List Nat):Int:=if l.head?=some 45 then -(digitsVal (fgs l):Nat)else(digitsVal (fgs l):Nat)
theorem ZdQ(h:l.head?=some 45):∃r,l=45::r/\fgs l=r:=by
 cases l with
 |nil=>cases h
 |cons a r=>
  have:a=45:=by simpa using h
  subst this;exact⟨r,rfl,rfl⟩
theorem ZdR(h:l.head?≠some 45):fgs l=l:=by
 unfold fgs;split
 ·exact absurd rfl h
 ·rfl
theorem ZeV(c:Nat):ten.contains c=true↔48<=c/\c<=57:=by
 unfold ten;simp only[eJ,List.contains_nil,kC,js,beq_iff_eq];omega
theorem ZjG(z:Str):Txt.startswith z (PySem.Str.ofString "-")=decide (z.cps.toList.head?=some 45):=by
 have e:PySem.Str.ofString "-"=⟨#[45]⟩:=by decide
 rw[e];unfold Txt.startswith eY.Str.subAt;rw[show(⟨#[45]⟩:Str).length=1 from rfl,ZaN];have hx:z.cps.extract 0 (0+1)=(z.cps.toList.take 1).toArray:=by
  apply cV.mp;rw[fH,dL];simp
 rw[hx];cases h:z.cps.toList with
 |nil=>rfl
 |cons a r=>
  simp only[fU,jT,List.head?_cons,am];by_cases c:a=45
  ·subst c;simp
  ·rw[decide_eq_false c]
   have:(#[a]==(⟨#[45]⟩:Str).cps)=false:=by
    apply beq_eq_false_iff_ne.mpr;intro z;injection z with z;injection z with z _;exact c z
   rw[show([a]:List Nat).toArray= #[a]from rfl,this,iC]
theorem Zrl(z:Str):(⟨z.cps.toList.toArray⟩:Str)=z:=ZdC (by simp)
theorem ZfY:eqF (k+1) M (.str x) (.str y)=some (decide (x=y)):=rfl
theorem ZqL(l:List Nat):sgs ⟨l.toArray⟩=l.map fun c=>D.str ⟨#[c]⟩:=by simp[sgs]
def pB(P:Prop)(M:Sto)(b:Bool)(M':Sto):Prop:=(b=true↔P)/\Kp M M'
theorem pBi(h:b=true↔P)(k:Kp M M'):pB P M b M':=⟨h,k⟩
theorem ZjH:Zaz (xs.map D.bl)=some xs:=CA.ZfQ xs
theorem ZnK(hz:asc z=true)(hl:z.length<=100000)(q1:okn z.cps.toList->∀M',Kp M M'->Q (.int (vln z.cps.toList)) M')(q2:¬okn z.cps.toList->∀M',Kp M M'->E (PySem.Str.ofString "NoText") M'):wO (F_read_number [.str z] M) Q E:=by
 have hs:=ZjG z;have hL:=ZaN z;have hk:∀c∈z.cps.toList,c<128:=fun c hc=>by
  have:=hz
  unfold asc at this;rw[iN]at this;obtain⟨i,hi,e⟩:=List.mem_iff_getElem.mp hc;have t:=this i (by simpa using hi)
  rw[<-e]
  simpa using t
 generalize eL:z.cps.toList=L at *;simp![F_read_number,Zbl,ZcS,ZcR,ZsP,hs];refine ZhF (fun d M'=>d=.str ⟨(fgs L).toArray⟩/\M'=M) ?_ ?_
 ·refine brO (fun c=>?_) (fun c=>?_)
  ·obtain⟨r,e1,e2⟩:=ZdQ c;simp![ZfN,kL0,kL1,kL2,ZfO];have e3:Zfc z (some 1) none=⟨(fgs L).toArray⟩:=by
    unfold Zfc;rw[eL,e2,e1];simp
   refine⟨⟨hl,?_⟩,by rw[e3]⟩
   unfold okT;rw[eL,e1];simp;lia
  ·simp![Zk];rw[ZdR c,<-eL,Zrl]
 rintro d M0 ⟨rfl,e0⟩;obtain rfl:=e0.symm;have fl:(fgs L).length<=L.length:=by
  unfold fgs
  split<;>simp
 have fm:∀c∈fgs L,c<128:=fun c hc=>by
  unfold fgs at hc
  split at hc
  ·exact hk c (ak _ hc)
  ·exact hk c hc
 have lF:(⟨(fgs L).toArray⟩:Str).length=(fgs L).length:=by rw[ZaN]
 have aF:asc ⟨(fgs L).toArray⟩=true:=by
  unfold asc;rw[iN];intro i hi;simp only[jW,decide_eq_true_eq];exact fm _ (aX _)
 simp![Zg5,lF];refine⟨by lia,ZhF (pB (¬(1<=(fgs L).length/\(fgs L).length<=60/\(fgs L).all (fun c=>ten.contains c)=true)) M) ?_ ?_⟩
 ·refine brO (fun c=>?_) (fun c=>?_)
  ·simp![Zk];exact pBi (by simp;lia) Kp.refl
  ·simp![Zg5,lF];refine⟨by lia,?_⟩
   refine brO (fun c2=>?_) (fun c2=>?_)
   ·simp![Zk];exact pBi (by simp;lia) Kp.refl
   ·simp![Znr,Zns];rw[ZqL];refine⟨aF,ZtM (xs:=(fgs L).map fun c=>D.str ⟨#[c]⟩) (fun ρ=>∃x,ρ=[x]) (fun i=>.bl (((fgs L).map fun c=>ten.contains c).getD i false)) (by simp;lia) (by simp[cnt]) ⟨_,rfl⟩ (fun L i hi=>rfl) ?_ ?_⟩
    ·rintro j hj ρ L' ⟨x,rfl⟩;have hj':j<(fgs L).length:=by simpa using hj
     rw[bH];have e5:(PySem.Str.ofString "0123456789").cps.toList=ten:=by decide
     simp![ZsQ,e5];refine⟨⟨_,rfl⟩,?_⟩;rw[aN,a7,aq hj'];rfl
    ·have e6:(aJ ((fgs L).map fun c=>D.str ⟨#[c]⟩).length).map (fun i=>D.bl (((fgs L).map fun c=>ten.contains c).getD i false))=((fgs L).map fun c=>ten.contains c).map D.bl:=by
      apply gQ
      ·simp
      ·intro i h1 h2;have h3:i<((fgs L).map fun c=>ten.contains c).length:=by simpa using h2
       rw[bH,List.getElem_range,bH,aN,aq h3];rfl
     rw[e6];simp![ZjH];refine pBi ?_ Kp.app;rw[List.all_map];constructor
     ·intro h;rintro⟨_,_,h3⟩;have h4:(List.all (fgs L) (id∘fun c=>ten.contains c))=true:=h3;rw[h4]at h;cases h
     ·intro h;cases h4:(fgs L).all fun c=>ten.contains c with
      |false=>exact congrArg (! ·) h4
      |true=>exact absurd ⟨by lia,by lia,h4⟩ h
 rintro b M1 ⟨hb,K1⟩;by_cases P:1<=(fgs L).length/\(fgs L).length<=60/\(fgs L).all (fun c=>ten.contains c)=true
 ·have hb':b=false:=by
   cases b with
   |false=>rfl
   |true=>exact absurd P (hb.mp rfl)
  subst hb';obtain⟨a,r,ef⟩:∃a r,fgs L=a::r:=by
   cases h:fgs L with
   |nil=>rw[h]at P;exact absurd P.1 (by decide)
   |cons a r=>exact⟨a,r,rfl⟩
  simp![Zk];refine Zk5 (c:=a) (by decide) (by simp[ef]) ?_
  simp![ZfY];have ea:(decide ((⟨#[a]⟩:Str)=PySem.Str.ofString "0"))=decide (a=48):=by
   rw[show PySem.Str.ofString "0"=⟨#[48]⟩by decide]
   by_cases c:a=48
   ·subst c;simp
   ·rw[decide_eq_false c,decide_eq_false];intro h;injection h with h;injection h with h;injection h with h _;exact c h
  have ez:(decide (z=PySem.Str.ofString "0"))=decide (L=[48]):=by
   rw[<-eL];by_cases c:z.cps.toList=[48]
   ·rw[decide_eq_true c,decide_eq_true (ZdC c)]
   ·rw[decide_eq_false c,decide_eq_false];intro h;rw[h]at c;exact c (by decide)
  have ad:AllDigits (fgs L):=fun c hc=>(ZeV c).mp (bh.mp P.2.2 c hc);have end_:((fgs L).head?=some 48->L=[48])->∀M3,Kp M M3->wO (bIntT [.str z] M3) Q E:=fun ho M3 K3=>by
   have fin:=q1 ⟨P,ho⟩ M3 K3;unfold vln at fin;have l60:z.length<=61:=by
    rw[hL];by_cases c:L.head?=some 45
    ·obtain⟨r',e1,e2⟩:=ZdQ c;rw[e1,ao,<-e2];lia
    ·rw[<-ZdR c];lia
   by_cases c:L.head?=some 45
   ·obtain⟨r',e1,e2⟩:=ZdQ c;rw[if_pos c]at fin;refine ZlS (by lia) (intText_neg (cs:=fgs L) (by rw[eL,e2,e1]) ad (by rw[ef];simp) (by lia)) fin
   ·rw[if_neg c]at fin;have e3:=ZdR c;rw[e3]at ad ef fin;refine ZlS (by lia) ?_ fin
    rw[intText_digits (by rw[eL];exact ad) (by rw[eL,ef];simp) (by lia),eL]
  rw[ea];refine ZhF (pB (a=48/\L≠[48]) M1) ?_ ?_
  ·refine brO (fun c=>?_) (fun c=>?_)
   ·simp![ZfY,ez];exact pBi (by simp[c]) Kp.refl
   ·simp![Zk];exact pBi (by simp[c]) Kp.refl
  rintro b M2 ⟨hb2,K2⟩;have hh:(fgs L).head?=some a:=by rw[ef];rfl
  cases b with
  |true=>
   simp![Zk];obtain⟨h1,h2⟩:=hb2.mp rfl;exact q2 (fun h=>h2 (h.2 (by rw[hh,h1]))) M2 (K1.trans K2)
  |false=>
   simp![Zk];refine end_ (fun h=>?_) M2 (K1.trans K2);rw[hh]at h;by_cases c:L=[48]
   ·exact c
   ·exact absurd (hb2.mpr ⟨by simpa using h,c⟩) (by decide)
 ·have hb':b=true:=hb.mpr P;subst hb';simp![Zk];exact q2 (fun h=>P h.1) M1 K1
def rtx(q:Rat):Str:=if q.den=1 then tx q.num else tx q.num++PySem.Str.ofString "/"++tx q.den
structure Sx6(q:Rat):Prop where
 n:q.num.natAbs<10^60
 d:q.den<10^60
theorem ZdS:(PySem.Str.ofString "/").cps.toList=[47]:=by decide
theorem Zcd:(PySem.Str.ofString " ").cps.toList=[32]:=by decide
theorem ZqM(q:Rat):(rtx q).cps.toList=if q.den=1 then(tx q.num).cps.toList else(tx q.num).cps.toList++47::(tx q.den).cps.toList:=by
 unfold rtx;split
 ·rfl
 ·rw[ZhB,ZhB,ZdS,cu];rfl
theorem ZcX(a b:Str):(a++b).length=a.length+b.length:=by rw[ZaN,ZhB,aa,<-ZaN,<-ZaN]
theorem Zgh(h:Sx6 q):(rtx q).length<=123:=by
 have h1:=Zc3 h.n;have h2:=Zc3 (i:=(q.den:Int)) (by simpa using h.d)
 unfold rtx;split
 ·lia
 ·rw[ZcX,ZcX,ZaN (PySem.Str.ofString "/"),ZdS];simp;lia
theorem ZjI(h:M[n]?=some (.lst xs)):wO (bTup [.ref n] M) Q E=Q (.tup xs) M:=by
 unfold bTup Zrb Zcf;simp only[h];rfl
theorem ZdT{α β:Type}(l:List α)(d:α)(f:α->β):(aJ l.length).map (fun i=>f (l.getD i d))=l.map f:=by
 apply gQ
 ·simp
 ·intro i h1 h2;have h3:i<l.length:=by simpa using h2
  simp[h3]
theorem ZdU{α:Type}{l:List α}{d:α}(h:i<l.length):l.getD i d=l[i]:=by simp[h]
theorem ZqN(h:j<(rts hs).length):(rts hs)[j]=rt (hs[j]'(by rw[ZU]at h;exact h)):=by simp[rts]
def htx(hs:List Rat):Str:=Txt.join (PySem.Str.ofString " ") (hs.map rtx)
def wtx(ns:List Int):Str:=if ns=[]then PySem.Str.ofString "-" else Txt.join (PySem.Str.ofString " ") (ns.map tx)
theorem ZbF:PySem.Str.ofString " "=⟨#[32]⟩:=by decide
theorem Zhd(h:∀y∈ys,y.length<=b):(Txt.join (PySem.Str.ofString " ") ys).length<=ys.length*(b+1):=by
 rw[ZaN,ZbF,Zb6]
 induction ys with
 |nil=>simp[jn]
 |cons y ys ih=>
  have h1:=h y (aO ..);have h2:=ih fun z m=>h z (ak _ m);rw[ZaN]at h1;cases ys with
  |nil=>simp only[aL,dj,jn,ao,bS];lia
  |cons z zs=>
   have e:jn 32 ((y::z::zs).map fun x=>x.cps.toList)=y.cps.toList++32::jn 32 ((z::zs).map fun x=>x.cps.toList):=rfl;rw[e,aa,ao];rw[ao,kM];lia
theorem ZnL(hl:z.length<=16000000)(q:Q (.ref M.length) (M++[.lst ((spl 32 z.cps.toList).map fun l=>.str ⟨l.toArray⟩)])):wO (F_words_of [.str z] M) Q E:=by
 have ty:ZO M (.str z)=some "str":=rfl;have ti:Zbs "str" "str"=true:=by decide
 simp![F_words_of,ZbT,ty,ti,ZcS,ZcR];exact Zqs Zcd (by decide) hl q
end
end CI
namespace TZ
open L2 DL SX PySem.NumText
open CI (fgs ten okn vln)
instance {l:List Nat}:Decidable (okn l):=by unfold okn;infer_instance
def numo(l:List Nat):Option Int:=if okn l then some (vln l)else none
def pairo(l:List Nat):Option Pt:=match ZaM ((spl 44 l).map numo)with|some [a,b]=>some (a,b)|_=>none
def ZP(l:List Nat):Option Pt:=match ZaM ((spl 47 l).map numo)with|some [a]=>some (a,1)|some [a,b]=>if 2<=b/\bq a b=1 then some (a,b)else none|_=>none
def prD(p:Pt):D:=pr p.1 p.2
def item(k:Nat)(w:List Nat):Option D:=match k with|0=>(pairo w).map prD|1=>(ZP w).map prD|_=>(numo w).map D.int
def Zaa(k:Nat)(l:List Nat):Option (List D):=ZaM ((spl 32 l).map (item k))
theorem ZeW{α β:Type}(f:α->β):∀os:List (Option α),ZaM (os.map (Option.map f))=(ZaM os).map (i9 f)
 |[]=>rfl
 |none::_=>rfl
 |some a::r=>by
  show(match ZaM (r.map (Option.map f))with|some l=>some (f a::l)|none=>none)=_
  rw[ZeW f r];show _=(match ZaM r with|some l=>some (a::l)|none=>none).map (i9 f)
  cases ZaM r<;>rfl
noncomputable def As(l:List Nat):Prop:=∀c∈l,c<128
theorem ZjJ(h:As l):asc ⟨l.toArray⟩=true:=by
 unfold asc;rw[iN];intro i hi;simp only[jW,decide_eq_true_eq];exact h _ (aX _)
theorem ZjK:∀(cs:List Nat)(a:Nat),AllDigits cs->cs.foldl (fun acc c=>acc*10+(c-48)) a<(a+1)*10^cs.length
 |[],a,_=>by simp
 |c::cs,a,h=>by
  have h1:=ZjK cs (a*10+(c-48)) h.tail;have h2:=h.head;have h3:(a*10+(c-48)+1)*10^cs.length<=(a+1)*10*10^cs.length:=Nat.mul_le_mul_right _ (by lia)
  rw[fX,ao,Nat.pow_succ];rw[Nat.mul_assoc,Nat.mul_comm 10]at h3;lia
theorem ZqO(h:okn l)(hk:l.length<=k):(vln l).natAbs<10^k:=by
 have ad:AllDigits (fgs l):=fun c hc=>(CI.ZeV c).mp (bh.mp h.1.2.2 c hc);have lt:=ZjK (fgs l) 0 ad;have fl:(fgs l).length<=l.length:=by
  unfold fgs
  split<;>simp
 have le:10^(fgs l).length<=10^k:=fK (by decide) (by lia)
 have e:(vln l).natAbs=digitsVal (fgs l):=by unfold vln;split<;>simp
 rw[e];unfold digitsVal;lia
theorem Zgi(h:numo l=some i)(hk:l.length<=k):i.natAbs<10^k:=by
 unfold numo at h
 split at h
 ·rename_i o;cases h;exact ZqO o hk
 ·cases h
theorem ZnM(h:okn l):l.length<=61:=by
 have:=h.1.2.1
 unfold fgs at this
 split at this
 ·simp;lia
 ·lia
theorem ZeX(c:Nat):∀(l:List Nat),∀w∈spl c l,∀x∈w,x∈l
 |[],w,h,x,hx=>by simp[spl]at h;subst h;simp at hx
 |a::r,w,h,x,hx=>by
  rw[ZeL]at h
  split at h
  ·rcases aK.mp h with e|h
   ·subst e;simp at hx
   ·exact ak _ (ZeX c r w h x hx)
  ·cases e:spl c r with
   |nil=>exact absurd e (ZbZ c r)
   |cons b t=>
    rw[e]at h;rcases aK.mp h with e2|h
    ·subst e2;rcases aK.mp hx with e3|hx
     ·subst e3;exact aO
     ·exact ak _ (ZeX c r b (by rw[e];exact aO) x hx)
    ·exact ak _ (ZeX c r w (by rw[e];exact ak _ h) x hx)
theorem ZdV(c:Nat):∀(l:List Nat),((spl c l).map fun w=>w.length+1).sum=l.length+1
 |[]=>rfl
 |a::r=>by
  have ih:=ZdV c r;rw[ZeL];split
  ·rw[aL,c6,ih];simp;lia
  ·cases e:spl c r with
   |nil=>exact absurd e (ZbZ c r)
   |cons b t=>
    rw[e]at ih;simp only[aL,c6,ao]at ih ⊢;lia
theorem ZjL{f:List Nat->Nat}:∀{L:List (List Nat)} {w:List Nat},w∈L->f w<=(L.map f).sum
 |[],_,h=>by cases h
 |a::L,w,h=>by
  rw[aL,c6];rcases aK.mp h with e|h
  ·subst e;lia
  ·have:=ZjL (f:=f) h
   lia
theorem Zaj(h:w∈spl c l):w.length<=l.length:=by
 have h1:=ZdV c l;have h2:=ZjL (f:=fun w=>w.length+1) h;lia
theorem As.spl{c:Nat}{l w:List Nat}(a:As l)(h:w∈spl c l):As w:=fun x hx=>a x (ZeX c l w h x hx)
noncomputable def Inf(b:Nat)(l:List Nat):Prop:=∀w,w <:+:l->32∉w->w.length<=b
theorem ZjM:∀(l:List Nat){b:List Nat}{t:List (List Nat)},spl 32 l=b::t->b <+:l/\32∉b/\∀w∈t,w <:+:l/\32∉w
 |[],b,t,h=>by cases h;simp
 |a::r,b,t,h=>by
  rw[ZeL]at h;cases e:spl 32 r with
  |nil=>exact absurd e (ZbZ 32 r)
  |cons b' t'=>
   obtain⟨h1,h2,h3⟩:=ZjM r e;rw[e]at h
   split at h
   ·cases h;refine⟨List.nil_prefix,by simp,fun w hw=>?_⟩
    rcases aK.mp hw with e2|hw
    ·subst e2;exact⟨fZ h1.isInfix,h2⟩
    ·exact⟨fZ (h3 w hw).1,(h3 w hw).2⟩
   ·rename_i na;cases h;refine⟨dI.mpr ⟨rfl,h1⟩,fun z=>?_,fun w hw=>⟨fZ (h3 w hw).1,(h3 w hw).2⟩⟩;rcases aK.mp z with z|z
    ·exact na z.symm
    ·exact h2 z
theorem Inf.word(h:Inf b l)(hw:w∈spl 32 l):w.length<=b:=by
 cases e:spl 32 l with
 |nil=>exact absurd e (ZbZ 32 l)
 |cons a t=>
  obtain⟨h1,h2,h3⟩:=ZjM l e;rw[e]at hw;rcases aK.mp hw with e2|hw
  ·subst e2;exact h _ h1.isInfix h2
  ·exact h _ (h3 w hw).1 (h3 w hw).2
theorem Inf.sub(h:Inf b l)(s:k <:+:l):Inf b k:=fun w hw n=>h w (hw.trans s) n
theorem Zgj:∀{A B w:List Nat},w <+:A++B->w <+:A\/∃t,w=A++t/\t <+:B
 |[],B,w,h=>.inr ⟨w,rfl,h⟩
 |a::A,B,[],_=>.inl List.nil_prefix
 |a::A,B,x::w,h=>by
  rw[aS,dI]at h;obtain⟨rfl,h⟩:=h;rcases Zgj h with h|⟨t,e,h⟩
  ·exact .inl (dI.mpr ⟨rfl,h⟩)
  ·exact .inr ⟨t,by rw[e];rfl,h⟩
theorem ZjN:∀{A B w:List Nat},w <:+:A++B->∃u v,w=u++v/\u <:+:A/\v <:+:B
 |[],B,w,h=>⟨[],w,rfl,List.nil_infix,h⟩
 |a::A,B,w,h=>by
  rw[aS,ig]at h;rcases h with h|h
  ·rw[<-aS]at h;rcases Zgj h with h|⟨t,e,h⟩
   ·exact⟨w,[],by simp,h.isInfix,List.nil_infix⟩
   ·exact⟨a::A,t,e,jX,h.isInfix⟩
  ·obtain⟨u,v,e,h1,h2⟩:=ZjN h;exact⟨u,v,e,fZ h1,h2⟩
theorem Inf.app(h:Inf a A)(k:Inf b B):Inf (a+b) (A++B):=fun w hw n=>by
 obtain⟨u,v,rfl,h1,h2⟩:=ZjN hw
 have:=h u h1 fun z=>n (fA _ z)
 have:=k v h2 fun z=>n (aT _ z)
 rw[aa];lia
theorem Inf.up(h:Inf a l)(le:a<=b):Inf b l:=fun w hw n=>aE (h w hw n) le
theorem Inf.len:Inf l.length l:=fun w hw _=>hw.length_le
theorem Inf.blank{b:Nat}{R:List Nat}(h:Inf b R):∀{A:List Nat},Inf b A->Inf b (A++32::R)
 |[],_=>fun w hw n=>by
  rw[cO,ig]at hw;rcases hw with hw|hw
  ·cases w with
   |nil=>simp
   |cons x w=>
    rw[dI]at hw;exact absurd (by rw[hw.1];exact aO) n
  ·exact h w hw n
 |a::A,hA=>fun w hw n=>by
  rw[aS,ig]at hw;rcases hw with hw|hw
  ·rw[<-aS]at hw;rcases Zgj hw with hw|⟨t,e,hw⟩
   ·exact hA w hw.isInfix n
   ·cases t with
    |nil=>rw[e,aY];exact hA _ jX fun z=>n (by rw[e];simpa using z)
    |cons x t=>
     rw[dI]at hw;exact absurd (by rw[e,hw.1];simp) n
  ·exact Inf.blank h (hA.sub (fZ jX)) w hw n
theorem ZjO{b:Nat}:∀{ws:List (List Nat)},(∀w∈ws,w.length<=b)->Inf b (jn 32 ws)
 |[],_=>fun w hw _=>by have:=hw.length_le;simp[jn]at this;simp[this]
 |[y],h=>fun w hw _=>by have a:=List.IsInfix.length_le (show w <:+:y from hw);have:=h y (by simp);lia
 |y::z::ws,h=>by
  have e:jn 32 (y::z::ws)=y++32::jn 32 (z::ws):=rfl;rw[e];exact Inf.blank (ZjO fun w hw=>h w (ak _ hw)) (Inf.len.up (h y (by simp)))
theorem Zhe(c:Nat):∀{ws:List (List Nat)},ws≠[]->(jn c ws).length+1=(ws.map fun w=>w.length+1).sum
 |[],h=>absurd rfl h
 |[y],_=>by simp[jn]
 |y::z::ws,_=>by
  have ih:=Zhe c (ws:=z::ws) (by simp)
  have e:jn c (y::z::ws)=y++c::jn c (z::ws):=rfl;rw[e,aL,c6,<-ih,aa,ao];lia
theorem ZjP:∀{ws:List (List Nat)},(∀w∈ws,As w)->As (jn 32 ws)
 |[],_=>fun c h=>by simp[jn]at h
 |[y],h=>h y (by simp)
 |y::z::ws,h=>fun c hc=>by
  have e:jn 32 (y::z::ws)=y++32::jn 32 (z::ws):=rfl;rw[e]at hc;rcases bC.mp hc with hc|hc
  ·exact h y (by simp) c hc
  ·rcases aK.mp hc with rfl|hc
   ·decide
   ·exact ZjP (fun w hw=>h w (ak _ hw)) c hc
theorem As.app(h:As a)(k:As c):As (a++c):=fun x hx=>(bC.mp hx).elim (h x) (k x)
theorem As.take(h:As l)(i:Nat):As (l.take i):=fun x hx=>h x (c9 hx)
theorem As.drop(h:As l)(i:Nat):As (l.drop i):=fun x hx=>h x (da hx)
theorem Inf.take(h:Inf b l)(i:Nat):Inf b (l.take i):=h.sub (List.take_prefix _ _).isInfix
theorem Inf.drop(h:Inf b l)(i:Nat):Inf b (l.drop i):=h.sub (List.drop_suffix _ _).isInfix
theorem ZeY(c:Nat):Inf 1 [c]:=Inf.len
theorem Zhf(h:pairo l=some p)(hl:l.length<=k+1):p.1.natAbs<10^k/\p.2.natAbs<10^k:=by
 unfold pairo at h
 split at h
 ·rename_i a b e;cases h;have e1:=ZT e;have s:=ZdV 44 l
  match es:spl 44 l,e1 with
  |[u,v],e1=>
   rw[es]at s;simp only[aL,dj,c6,List.sum_nil]at s;simp only[aL,dj,hO,and_true]at e1;exact⟨Zgi e1.1 (by lia),Zgi e1.2 (by lia)⟩
  |[],e1=>cases e1
  |[_],e1=>simp at e1
  |_::_::_::_,e1=>simp at e1
 ·cases h
end TZ
namespace CIr
open L2 DL
open CI (F_words_of F_read_number)
open CG (F_look_round)
def ZcY:Sv:=(Zv (Zga (Zcr (Zj F_look_round (Zc (Zg 0) aNil))) [PySem.Str.ofString "NoRound"] [false] (ZE (eC (.bl false)))) (ZE (eC (.bl true))))
def F_is_round:W3:=fnF ZcY 1 0
end CIr
namespace CIr
open L2 DL SX
open CB (Bd)
open CV CI
open CG (met Zhb)
open TW (sf ZjD)
section
variable {rs:List Pt}
def ptx(p:Pt):Str:=tx p.1++PySem.Str.ofString ","++tx p.2
def otx(rs:List Pt):Str:=Txt.join (PySem.Str.ofString " ") (rs.map ptx)
theorem ZdW:(PySem.Str.ofString ",").cps.toList=[44]:=by decide
theorem ZqP(p:Pt):(ptx p).cps.toList=(tx p.1).cps.toList++44::(tx p.2).cps.toList:=by
 unfold ptx;rw[ZhB,ZhB,ZdW,cu];rfl
noncomputable def Fw(k:Nat)(p:Pt):Prop:=p.1.natAbs<10^k/\p.2.natAbs<10^k
theorem ZjQ(hk:0<k)(h:i.natAbs<10^k):(tx i).length<=k+1:=by
 rw[ZaN,Zrf,aa]
 have:=ZlJ hk h
 split<;>simp<;>lia
theorem Zgk(hk:0<k)(h:Fw k p):(ptx p).length<=2*k+3:=by
 have h1:=ZjQ hk h.1;have h2:=ZjQ hk h.2;unfold ptx;rw[ZcX,ZcX,ZaN (PySem.Str.ofString ","),ZdW];simp;lia
theorem Fw.up(hk:k<=60)(h:Fw k p):p.1.natAbs<10^60/\p.2.natAbs<10^60:=
 ⟨ay h.1 (fK (by decide) hk),ay h.2 (fK (by decide) hk)⟩
theorem ZqQ(h:j<(prs rs).length):(prs rs)[j]=pr (rs[j]'(by rw[ZC]at h;exact h)).1 (rs[j]'(by rw[ZC]at h;exact h)).2:=by simp[prs]
end
end CIr
namespace K77
open CR (Zah F_is_whole Zat ZaT F_greatest_divisor ZbC ZdN F_law_low Zcc F_law_whole)
open CI (ZbS F_is_ratio ZbT F_words_of Zbl F_read_number)
open CG (ZcD F_is_pair ZeT F_common Zdg F_is_ray ZaK F_met_direction Z7 Z8 Zau F_look_round)
open CC (ZdG F_crossed Zca F_following)
open CIr (ZcY F_is_round)
open CA (ZfP F_law_bag ZdK F_law_digit ZdL F_law_led ZcV F_law_both Zay Zbj F_law_turning Zbi F_law_cross ZdM F_law_sum ZbR F_law_near Zbk F_law_brought ZaJ ZbB F_law_smooth)
open CY (ZV Zao F_law_straight ZaQ ZcB F_law_put ZaR ZaS ZcC F_law_any)
open CJ (ZbE F_law_is_ray ZaW F_law_has_east ZX Zaq)
open L2 DL
abbrev Zc7:Stmt:=Zki (top 4) 0
structure Txt(K:Fg) (mg:Str->Option ah):Prop extends Bs mg where
 gl:∀c v,PySem.W.nsIn K ai c=some (some v)->mg c=some v
 d:Dfs K top tab
 in_NoRound:∃f fd,IniOk K "NoRound" "NoRound.__init__" Zc7 f fd
 ct_NoRound:Zef K "NoRound" [PySem.Str.ofString "NoRound"]=true
 ex_NoText:Zra K "NoText"=true
 it_NotSmooth:Zbx K "NotSmooth" [(PySem.Str.ofString "NoRound",false),(PySem.Str.ofString "NoText",false)]=true
 it_NoRound:Zbx K "NoRound" [(PySem.Str.ofString "NoRound",true),(PySem.Str.ofString "NoText",false)]=true
 it_NoTurning:Zbx K "NoTurning" [(PySem.Str.ofString "NoRound",false),(PySem.Str.ofString "NoText",false)]=true
 it_NoRatio:Zbx K "NoRatio" [(PySem.Str.ofString "NoRound",false),(PySem.Str.ofString "NoText",false)]=true
 it_NoMinus:Zbx K "NoMinus" [(PySem.Str.ofString "NoRound",false),(PySem.Str.ofString "NoText",false)]=true
 it_NoPlace:Zbx K "NoPlace" [(PySem.Str.ofString "NoRound",false),(PySem.Str.ofString "NoText",false)]=true
 it_NoRow:Zbx K "NoRow" [(PySem.Str.ofString "NoRound",false),(PySem.Str.ofString "NoText",false)]=true
 it_NoWedge:Zbx K "NoWedge" [(PySem.Str.ofString "NoRound",false),(PySem.Str.ofString "NoText",false)]=true
 it_NoBody:Zbx K "NoBody" [(PySem.Str.ofString "NoRound",false),(PySem.Str.ofString "NoText",false)]=true
 it_NoBend:Zbx K "NoBend" [(PySem.Str.ofString "NoRound",false),(PySem.Str.ofString "NoText",false)]=true
 it_NoHeight:Zbx K "NoHeight" [(PySem.Str.ofString "NoRound",false),(PySem.Str.ofString "NoText",false)]=true
 it_NoFour:Zbx K "NoFour" [(PySem.Str.ofString "NoRound",false),(PySem.Str.ofString "NoText",false)]=true
 it_Unknown:Zbx K "Unknown" [(PySem.Str.ofString "NoRound",false),(PySem.Str.ofString "NoText",false)]=true
 it_NoText:Zbx K "NoText" [(PySem.Str.ofString "NoRound",false),(PySem.Str.ofString "NoText",true)]=true
 it_NoOne:Zbx K "NoOne" [(PySem.Str.ofString "NoRound",false),(PySem.Str.ofString "NoText",false)]=true
 ib_ValueError:ZlA K "ValueError" [(PySem.Str.ofString "NoRound",true),(PySem.Str.ofString "NoText",true)]=true
 fn__law_number_in:∃f,PySem.W.nsIn K ai "_law_number_in"=some (some (.ref f))
 fn__law_ratio_in:∃f,PySem.W.nsIn K ai "_law_ratio_in"=some (some (.ref f))
 fn__law_pair_in:∃f,PySem.W.nsIn K ai "_law_pair_in"=some (some (.ref f))
 fn_read_row:∃f,PySem.W.nsIn K ai "read_row"=some (some (.ref f))
 fn_read_height:∃f,PySem.W.nsIn K ai "read_height"=some (some (.ref f))
 fn_read_round:∃f,PySem.W.nsIn K ai "read_round"=some (some (.ref f))
 ct_RayError:Zef K "RayError" [PySem.Str.ofString "NoRound",PySem.Str.ofString "NoText"]=true
section
variable {P:cF}{w:df}{K:Fg}{mg:Str->Option ah}{base:Heap}
theorem ZnN:FnScope N3 N3 (Zz Zc7):=⟨rfl,rfl,rfl,by decide +kernel,rfl,by decide +kernel,by decide +kernel⟩
theorem ZeZ(J:IniOk K "NoRound" "NoRound.__init__" Zc7 f fd)(gl:∀c v,PySem.W.nsIn K ai c=some (some v)->mg c=some v)(hE:ExF K C f):FnOk P w K mg base (CXE P w) 1 f fd N3 (spI C):=
 Zm7 (k:=0) (a:=PySem.Str.ofString "no round: ") (b:=PySem.Str.ofString " ") J.fn ZnN (by decide +kernel) (by decide +kernel) fun cdv A outer s H E=>Zen (Zh3 (ZkM J.bs gl rfl hE rfl (dw rfl) (ZrP rfl rfl (dw rfl) (dw rfl)))) (Zen (Zm4 hE hE.fw rfl (dw rfl) rfl (dw rfl)) (Zh2 (Zm5 hE hE.fa rfl (dw rfl) rfl (dw rfl))))
theorem Zu3{K:Fg}(lI:K.lookup fI=some ⟨.type "function",none,.func (PySem.W.fnOf "__init__" "NoRound.__init__" (Za6 Zc7) (Zad Zc7) (Zz Zc7) .none .none .none (.str m t) none (.ref c) .none),#[]⟩)(cI:PySem.W.codeIn K (.ref c) "NoRound.__init__"=true)(kI:PySem.W.keepIn K (.ref fI)=true)(xI:Zjg K "NoRound" fI=true)(bI:ZgZ K "RayError"=true):∃f fd,IniOk K "NoRound" "NoRound.__init__" Zc7 f fd:=
 have RI:=Zlr (st:=Zc7) lI cI kI
 ⟨fI,_,xI,RI,bI,RI.binds (ps:=N3) fun _ _ _ _ _ _=>Ztj fun _ _ _=>rfl⟩
def Zc8:Sv:=(Zv (ZF (gNm 1) (Zbo (iSq (ZfW mSpl (Zg 0) (Zc (eC (.str (PySem.Str.ofString "/"))) aNil))) 1 [] (gNm 0) (Zj F_read_number (Zc (Zg 0) aNil)))) (Zv (sIf (tv (e2 dEq (Zj bLen (Zc (Zg 1) aNil)) (eC (.int 1)))) (ZE (Z6 (Zc (e2 dIx (Zg 1) (eC (.int 0))) (Zc (eC (.int 1)) aNil)))) sNil) (Zv (ZF (gNm 2) (Zj bTup (Zc (Zg 1) aNil))) (Zv (sIf (Zb4 (Z9 (tv (Zj F_is_ratio (Zc (Zg 2) aNil)))) (tv (e2 dEq (e2 dIx (Zg 2) (eC (.int 1))) (eC (.int 1))))) (Zby (PySem.Str.ofString "NoText") (Zc (eC (.str (PySem.Str.ofString "a ratio is written in lowest terms, and without a bottom of 1"))) aNil)) sNil) (ZE (Zg 2))))))
def F_read_ratio:W3:=fnF Zc8 1 2
def ZdX:Sv:=(Zv (ZF (gNm 1) (Zbo (iSq (ZfW mSpl (Zg 0) (Zc (eC (.str (PySem.Str.ofString ","))) aNil))) 1 [] (gNm 0) (Zj F_read_number (Zc (Zg 0) aNil)))) (Zv (sIf (tv (e2 dNe (Zj bLen (Zc (Zg 1) aNil)) (eC (.int 2)))) (Zby (PySem.Str.ofString "NoText") (Zc (eC (.str (PySem.Str.ofString "a ray is written as two numbers with a comma between"))) aNil)) sNil) (ZE (Z6 (Zc (e2 dIx (Zg 1) (eC (.int 0))) (Zc (e2 dIx (Zg 1) (eC (.int 1))) aNil))))))
def F_read_pair:W3:=fnF ZdX 1 1
def ZbG:Sv:=(Zv (ZF (gNm 1) (Zbo (iSq (Zj F_words_of (Zc (Zg 0) aNil))) 1 [] (gNm 0) (Zj F_read_pair (Zc (Zg 0) aNil)))) (Zv (sIf (Z9 (tv (Zj F_is_round (Zc (Zg 1) aNil)))) (Zby (PySem.Str.ofString "NoText") (Zc (eC (.str (PySem.Str.ofString "the rays are no round"))) aNil)) sNil) (ZE (Zg 1))))
def F_read_round:W3:=fnF ZbG 1 1
def Zbm:Sv:=(ZE (Zbo (iSq (Zj F_words_of (Zc (Zg 0) aNil))) 1 [] (gNm 0) (Zj F_read_ratio (Zc (Zg 0) aNil))))
def F_read_height:W3:=fnF Zbm 1 0
def ZbU:Sv:=(Zv (sIf (tv (e2 dEq (Zg 0) (eC (.str (PySem.Str.ofString "-"))))) (ZE (Zak aNil)) sNil) (ZE (Zbo (iSq (Zj F_words_of (Zc (Zg 0) aNil))) 1 [] (gNm 0) (Zj F_read_number (Zc (Zg 0) aNil)))))
def F_read_row:W3:=fnF ZbU 1 0
def ZbH:Sv:=(Zv (ZF (gNm 5) (e2 dSub (Zj F_law_digit (Zc (Zg 0) (Zc (eC (.int 27)) aNil))) (eC (.int 6)))) (Zv (ZF (gNm 6) (eC (.int 1))) (Zv (sIf (Zb4 (tv (e2 dEq (Zg 2) (eC (.int 3)))) (tv (e2 dEq (Zg 2) (eC (.int 4))))) (ZF (gNm 6) (e2 dAdd (eC (.int 1)) (Zj F_law_digit (Zc (Zg 0) (Zc (eC (.int 12)) aNil))))) sNil) (Zv (sIf (tv (e2 dEq (Zg 2) (eC (.int 5)))) (Zv (ZF (gNm 5) (e2 dAdd (e2 dSub (Zj F_law_digit (Zc (Zg 0) (Zc (e2 dSub (e2 dMul (eC (.int 2)) (e2 dPow (eC (.int 10)) (eC (.int 12)))) (eC (.int 1))) aNil))) (e2 dPow (eC (.int 10)) (eC (.int 12)))) (eC (.int 1)))) (ZF (gNm 6) (e2 dAdd (eC (.int 1)) (Zj F_law_digit (Zc (Zg 0) (Zc (e2 dSub (e2 dPow (eC (.int 10)) (eC (.int 12))) (eC (.int 1))) aNil)))))) sNil) (Zv (sIf (tv (e2 dEq (Zg 2) (eC (.int 6)))) (ZF (gNm 5) (e2 dMul (Zg 5) (Zj bInt (Zc (e2 dEq (e2 dMod (Zg 5) (eC (.int 4))) (eC (.int 0))) aNil)))) sNil) (Zcr (ZmO mApp (Zg 3) (Zc (Zj F_law_low (Zc (Zg 5) (Zc (Zg 6) aNil))) aNil))))))))
def Zc9:Sv:=(Zv (ZF (gNm 2) (Zj F_law_digit (Zc (Zg 0) (Zc (eC (.int 8)) aNil)))) (Zv (ZF (gNm 3) (Zak aNil)) (Zv (ZaF (gNm 4) (Zc (Zg 1) aNil) ZbH) (ZE (Zg 3)))))
def F_law_height:W3:=fnF Zc9 2 5
def Zek:Sv:=(ZE (e2 dMul (e2 dAdd (e2 dPow (eC (.int 10)) (eC (.int 59))) (Zj F_law_digit (Zc (Zg 0) (Zc (e2 dMul (eC (.int 9)) (e2 dPow (eC (.int 10)) (eC (.int 50)))) aNil)))) (e2 dIx (Zak (Zc (eC (.int 1)) (Zc (Zfa (eC (.int 1))) aNil))) (Zj F_law_digit (Zc (Zg 0) (Zc (eC (.int 2)) aNil))))))
def F_law_long:W3:=fnF Zek 1 0
def Ze0:Sv:=(Zv (ZF (gNm 1) (Zak (Zc (Zan [(PySem.Str.ofString "NoRound",false),(PySem.Str.ofString "NoText",false)] (Zg 0)) (Zc (Zan [(PySem.Str.ofString "NoRound",false),(PySem.Str.ofString "NoText",false)] (Zg 0)) (Zc (Zan [(PySem.Str.ofString "NoRound",true),(PySem.Str.ofString "NoText",false)] (Zg 0)) (Zc (Zan [(PySem.Str.ofString "NoRound",false),(PySem.Str.ofString "NoText",false)] (Zg 0)) aNil)))))) (Zv (ZF (gNm 1) (e2 dAdd (Zg 1) (Zak (Zc (Zan [(PySem.Str.ofString "NoRound",false),(PySem.Str.ofString "NoText",false)] (Zg 0)) (Zc (Zan [(PySem.Str.ofString "NoRound",false),(PySem.Str.ofString "NoText",false)] (Zg 0)) (Zc (Zan [(PySem.Str.ofString "NoRound",false),(PySem.Str.ofString "NoText",false)] (Zg 0)) (Zc (Zan [(PySem.Str.ofString "NoRound",false),(PySem.Str.ofString "NoText",false)] (Zg 0)) aNil))))))) (Zv (ZF (gNm 1) (e2 dAdd (Zg 1) (Zak (Zc (Zan [(PySem.Str.ofString "NoRound",false),(PySem.Str.ofString "NoText",false)] (Zg 0)) (Zc (Zan [(PySem.Str.ofString "NoRound",false),(PySem.Str.ofString "NoText",false)] (Zg 0)) (Zc (Zan [(PySem.Str.ofString "NoRound",false),(PySem.Str.ofString "NoText",false)] (Zg 0)) (Zc (Zan [(PySem.Str.ofString "NoRound",false),(PySem.Str.ofString "NoText",false)] (Zg 0)) aNil))))))) (Zv (ZF (gNm 1) (e2 dAdd (Zg 1) (Zak (Zc (Zan [(PySem.Str.ofString "NoRound",false),(PySem.Str.ofString "NoText",false)] (Zg 0)) (Zc (Zan [(PySem.Str.ofString "NoRound",false),(PySem.Str.ofString "NoText",true)] (Zg 0)) (Zc (Zan [(PySem.Str.ofString "NoRound",false),(PySem.Str.ofString "NoText",false)] (Zg 0)) aNil)))))) (ZE (ZaH (iR1 (Zc (eC (.int 15)) aNil)) 1 [0,1] (gNm 0) (Zar (tv (e2 dIx (Zg 2) (Zg 0))) (tv (Zan [(PySem.Str.ofString "NoRound",true),(PySem.Str.ofString "NoText",true)] (Zg 1)))) (Zg 0)))))))
def F_law_classes:W3:=fnF Ze0 1 1
def Zap:Sv:=(sIf (tv (e2 dLe (Zj F_law_cross (Zc (Zg 2) (Zc (e2 dIx (Zg 0) (e2 dMod (e2 dAdd (Zg 1) (eC (.int 1))) (Zj bLen (Zc (Zg 0) aNil)))) aNil))) (eC (.int 0)))) (ZE (Z6 (Zc (eC (.str (PySem.Str.ofString "wedge"))) (Zc (Zg 1) aNil)))) sNil)
def Zai:Sv:=(Zv (sIf (Zb4 (Z9 (tv (Zd2 "list" (Zg 0)))) (tv (e2 dLt (Zj bLen (Zc (Zg 0) aNil)) (eC (.int 3))))) (ZE (Z6 (Zc (eC (.str (PySem.Str.ofString "round"))) (Zc (eC (.int 0)) aNil)))) sNil) (Zv (Zdw (gTp (gCs (gNm 1) (gCs (gNm 2) gNl))) (iEn (Zc (Zg 0) aNil)) ZX) (Zv (Zdw (gTp (gCs (gNm 1) (gCs (gNm 2) gNl))) (iEn (Zc (Zg 0) aNil)) Zap) (Zv (ZF (gNm 3) (eC (.int 0))) (Zv (ZaF (gNm 1) (Zc (Zj bLen (Zc (Zg 0) aNil)) aNil) Zaq) (Zv (sIf (tv (e2 dGt (Zg 3) (eC (.int 1)))) (ZE (Z6 (Zc (eC (.str (PySem.Str.ofString "turns"))) (Zc (eC (.int 0)) aNil)))) sNil) (ZE (eC .non))))))))
def F_law_fault:W3:=fnF Zai 1 3
def ZaU:Sv:=(ZF (gNm 2) (e2 dAdd (e2 dMul (eC (.int 10)) (Zg 2)) (ZfW mIxT (eC (.str (PySem.Str.ofString "0123456789"))) (Zc (Zg 3) aNil))))
def ZbI:Sv:=(Zv (ZF (gNm 1) (Zg 0)) (Zv (sIf (Zar (tv (e2 dEq (ZgS (Zg 0) oNo (oSo (eC (.int 1)))) (eC (.str (PySem.Str.ofString "-"))))) (tv (e2 dNe (Zg 0) (eC (.str (PySem.Str.ofString "-0")))))) (ZF (gNm 1) (ZgS (Zg 0) (oSo (eC (.int 1))) oNo)) sNil) (Zv (sIf (Zb4 (tv (e2 dEq (Zg 1) (eC (.str (PySem.Str.ofString ""))))) (Zb4 (tv (e2 dGt (Zj bLenT (Zc (Zg 1) aNil)) (eC (.int 60)))) (tv (e2 dNe (ZaH (iTx (Zg 1)) 1 [] (gNm 0) (tv (e2 dNotInE (Zg 0) (Zj bLisT (Zc (eC (.str (PySem.Str.ofString "0123456789"))) aNil)))) (Zg 0)) (Zak aNil))))) (ZE (eC .non)) sNil) (Zv (sIf (Zar (tv (e2 dEq (e2 ZlI (Zg 1) (eC (.int 0))) (eC (.str (PySem.Str.ofString "0"))))) (tv (e2 dNe (Zg 1) (eC (.str (PySem.Str.ofString "0")))))) (ZE (eC .non)) sNil) (Zv (ZF (gNm 2) (eC (.int 0))) (Zv (Zdw (gNm 3) (iTx (Zg 1)) ZaU) (ZE (e2 dMul (Zg 2) (e2 dIx (Zak (Zc (eC (.int 1)) (Zc (Zfa (eC (.int 1))) aNil))) (Zj bInt (Zc (e2 dNe (Zg 1) (Zg 0)) aNil)))))))))))
def F_law_number_in:W3:=fnF ZbI 1 3
def ZcE:Sv:=(Zv (ZF (gNm 1) (ZaH (iSq (ZfW mSpl (Zg 0) (Zc (eC (.str (PySem.Str.ofString ","))) aNil))) 1 [] (gNm 0) (fun _ M=>.ok true M) (Zj F_law_number_in (Zc (Zg 0) aNil)))) (Zv (sIf (Zb4 (tv (e2 dNe (Zj bLen (Zc (Zg 1) aNil)) (eC (.int 2)))) (tv (e2 dInE (eC .non) (Zg 1)))) (ZE (eC .non)) sNil) (ZE (Zj bTup (Zc (Zg 1) aNil)))))
def F_law_pair_in:W3:=fnF ZcE 1 1
def Zb1:Sv:=(Zv (ZF (gNm 1) (ZaH (iSq (ZfW mSpl (Zg 0) (Zc (eC (.str (PySem.Str.ofString "/"))) aNil))) 1 [] (gNm 0) (fun _ M=>.ok true M) (Zj F_law_number_in (Zc (Zg 0) aNil)))) (Zv (sIf (Zb4 (tv (e2 dGt (Zj bLen (Zc (Zg 1) aNil)) (eC (.int 2)))) (tv (e2 dInE (eC .non) (Zg 1)))) (ZE (eC .non)) sNil) (Zv (sIf (tv (e2 dEq (Zj bLen (Zc (Zg 1) aNil)) (eC (.int 1)))) (ZE (Z6 (Zc (e2 dIx (Zg 1) (eC (.int 0))) (Zc (eC (.int 1)) aNil)))) sNil) (Zv (sIf (Zb4 (tv (e2 dLt (e2 dIx (Zg 1) (eC (.int 1))) (eC (.int 2)))) (tv (e2 dNe (Zj F_law_low (Zc (e2 dIx (Zg 1) (eC (.int 0))) (Zc (e2 dIx (Zg 1) (eC (.int 1))) aNil))) (Zj bTup (Zc (Zg 1) aNil))))) (ZE (eC .non)) sNil) (ZE (Zj bTup (Zc (Zg 1) aNil)))))))
def F_law_ratio_in:W3:=fnF Zb1 1 1
def ZcF:Sv:=(Zv (ZF (gNm 2) (ZaH (iSq (ZfW mSpl (Zg 0) (Zc (eC (.str (PySem.Str.ofString " "))) aNil))) 1 [1] (gNm 0) (fun _ M=>.ok true M) (eCV 1 [(PySem.Str.ofString "_law_pair_in",F_law_pair_in),(PySem.Str.ofString "_law_ratio_in",F_law_ratio_in),(PySem.Str.ofString "_law_number_in",F_law_number_in)] (Zc (Zg 0) aNil)))) (Zv (sIf (tv (e2 dInE (eC .non) (Zg 2))) (ZE (eC .non)) sNil) (ZE (Zg 2))))
def F_law_list_in:W3:=fnF ZcF 2 1
def ZbJ:Sv:=(ZE (ZfW mJn (eC (.str (PySem.Str.ofString " "))) (Zc (ZaH (iSq (Zg 0)) 1 [] (gNm 0) (fun _ M=>.ok true M) (e2 dAdd (e2 dAdd (Zj bStr (Zc (e2 dIx (Zg 0) (eC (.int 0))) aNil)) (eC (.str (PySem.Str.ofString ",")))) (Zj bStr (Zc (e2 dIx (Zg 0) (eC (.int 1))) aNil)))) aNil)))
def F_law_rays_text:W3:=fnF ZbJ 1 0
def Zbp:Sv:=(Zv (sIf (tv (e2 dEq (e2 dIx (Zg 0) (eC (.int 1))) (eC (.int 1)))) (ZE (Zj bStr (Zc (e2 dIx (Zg 0) (eC (.int 0))) aNil))) sNil) (ZE (e2 dAdd (e2 dAdd (Zj bStr (Zc (e2 dIx (Zg 0) (eC (.int 0))) aNil)) (eC (.str (PySem.Str.ofString "/")))) (Zj bStr (Zc (e2 dIx (Zg 0) (eC (.int 1))) aNil)))))
def F_law_ratio_text:W3:=fnF Zbp 1 0
def Za4:Sv:=(ZE (ZfW mJn (eC (.str (PySem.Str.ofString " "))) (Zc (ZaH (iSq (Zg 0)) 1 [] (gNm 0) (fun _ M=>.ok true M) (Zj F_law_ratio_text (Zc (Zg 0) aNil))) aNil)))
def F_law_height_text:W3:=fnF Za4 1 0
def Zb2:Sv:=(ZE (ZfW mJn (eC (.str (PySem.Str.ofString " "))) (Zc (e2 dAdd (ZaH (iSq (Zg 0)) 1 [] (gNm 0) (fun _ M=>.ok true M) (Zj bStr (Zc (Zg 0) aNil))) (e2 dRep (Zak (Zc (eC (.str (PySem.Str.ofString "-"))) aNil)) (Zj bInt (Zc (e2 dEq (Zg 0) (Zak aNil)) aNil)))) aNil)))
def F_law_row_text:W3:=fnF Zb2 1 0
def ZaL:Sv:=(Zv (sIf (Zar (tv (e2 dEq (Zg 0) (eC (.int 2)))) (tv (e2 dEq (Zg 1) (eC (.str (PySem.Str.ofString "-")))))) (ZE (Zak aNil)) sNil) (Zv (ZF (gNm 2) (Zj F_law_list_in (Zc (Zg 1) (Zc (e2 dIx (Zak (Zc (eC (.fn (PySem.Str.ofString "_law_pair_in"))) (Zc (eC (.fn (PySem.Str.ofString "_law_ratio_in"))) (Zc (eC (.fn (PySem.Str.ofString "_law_number_in"))) aNil)))) (Zg 0)) aNil)))) (Zv (sIf (Zar (tv (e2 dEq (Zg 0) (eC (.int 0)))) (Zar (tv (e2 dIsNot (Zg 2) (eC .non))) (tv (e2 dIsNot (Zj F_law_fault (Zc (Zg 2) aNil)) (eC .non))))) (ZE (eC .non)) sNil) (ZE (Zg 2)))))
def F_law_due:W3:=fnF ZaL 2 1
def Zel:Sv:=(ZlD (ZE (eCE (e2 dIx (Zak (Zc (eC (.fn (PySem.Str.ofString "read_round"))) (Zc (eC (.fn (PySem.Str.ofString "read_height"))) (Zc (eC (.fn (PySem.Str.ofString "read_row"))) aNil)))) (Zg 0)) [(PySem.Str.ofString "read_round",F_read_round),(PySem.Str.ofString "read_height",F_read_height),(PySem.Str.ofString "read_row",F_read_row)] (Zc (Zg 1) aNil))) [PySem.Str.ofString "NoRound",PySem.Str.ofString "NoText"] [false,false,false] 2 (ZE (e2 dIx (Zak (Zc (eC (.str (PySem.Str.ofString "another refusal"))) (Zc (eC .non) aNil))) (Zj bInt (Zc (e2 dEq (Zj F_law_classes (Zc (Zg 2) aNil)) (Zak (Zc (eC (.int 13)) aNil))) aNil)))))
def F_law_told:W3:=fnF Zel 2 1
def ZcG:Sv:=(Zv (ZF (gNm 2) (Zj F_law_digit (Zc (Zg 0) (Zc (Zj bLenT (Zc (Zg 1) aNil)) aNil)))) (Zv (ZF (gNm 3) (Zj F_law_digit (Zc (Zg 0) (Zc (eC (.int 7)) aNil)))) (Zv (ZF (gNm 4) (e2 ZlI (eC (.str (PySem.Str.ofString "0123456789-/, .ax+_eE~"))) (Zj F_law_digit (Zc (Zg 0) (Zc (eC (.int 22)) aNil))))) (Zv (sIf (tv (e2 dEq (Zg 3) (eC (.int 0)))) (ZE (e2 dAdd (ZgS (Zg 1) oNo (oSo (Zg 2))) (ZgS (Zg 1) (oSo (e2 dAdd (Zg 2) (eC (.int 1)))) oNo))) sNil) (Zv (sIf (tv (e2 dEq (Zg 3) (eC (.int 1)))) (ZE (e2 dAdd (e2 dAdd (ZgS (Zg 1) oNo (oSo (Zg 2))) (e2 ZlI (Zg 1) (Zg 2))) (ZgS (Zg 1) (oSo (Zg 2)) oNo))) sNil) (Zv (sIf (tv (e2 dEq (Zg 3) (eC (.int 2)))) (ZE (e2 dAdd (Zg 1) (e2 dIx (Zak (Zc (eC (.str (PySem.Str.ofString "/"))) (Zc (eC (.str (PySem.Str.ofString " "))) (Zc (eC (.str (PySem.Str.ofString ","))) (Zc (eC (.str (PySem.Str.ofString "0"))) aNil))))) (Zj F_law_digit (Zc (Zg 0) (Zc (eC (.int 4)) aNil)))))) sNil) (Zv (sIf (tv (e2 dEq (Zg 3) (eC (.int 3)))) (Zv (ZF (gNm 5) (ZfW mSpl (Zg 1) (Zc (eC (.str (PySem.Str.ofString " "))) aNil))) (ZE (ZfW mJn (eC (.str (PySem.Str.ofString " "))) (Zc (e2 dAdd (Zg 5) (Zak (Zc (e2 dIx (Zg 5) (e2 dMod (Zg 2) (Zj bLen (Zc (Zg 5) aNil)))) aNil))) aNil)))) sNil) (Zv (sIf (tv (e2 dEq (Zg 3) (eC (.int 4)))) (ZE (e2 dAdd (e2 dAdd (ZgS (Zg 1) oNo (oSo (Zg 2))) (Zg 4)) (ZgS (Zg 1) (oSo (Zg 2)) oNo))) sNil) (ZE (e2 dAdd (e2 dAdd (ZgS (Zg 1) oNo (oSo (Zg 2))) (Zg 4)) (ZgS (Zg 1) (oSo (e2 dAdd (Zg 2) (eC (.int 1)))) oNo)))))))))))
def F_law_changed:W3:=fnF ZcG 2 4
def Ze1:Sv:=(Zv (ZF (gNm 8) (e2 dMod (Zg 7) (eC (.int 3)))) (Zv (ZF (gNm 9) (Zj F_law_changed (Zc (Zg 2) (Zc (e2 dIx (Zg 6) (Zg 8)) aNil)))) (sIf (tv (e2 dNe (Zj F_law_told (Zc (Zg 8) (Zc (Zg 9) aNil))) (Zj F_law_due (Zc (Zg 8) (Zc (Zg 9) aNil))))) (ZE (eC (.bl false))) sNil)))
def Ze2:Sv:=(Zv (sIf (Zb4 (tv (e2 dIsNot (Zj F_law_told (Zc (Zg 8) (Zc (Zg 10) aNil))) (eC .non))) (tv (e2 dIsNot (Zj F_law_told (Zc (Zg 8) (Zc (eC (.str (PySem.Str.ofString ""))) aNil))) (eC .non)))) (ZE (eC (.bl false))) sNil) (sIf (Zb4 (tv (e2 dIsNot (Zj F_law_told (Zc (Zg 8) (Zc (e2 dAdd (e2 dIx (Zg 6) (Zg 8)) (eC (.str (PySem.Str.ofString " ")))) aNil))) (eC .non))) (tv (e2 dIsNot (Zj F_law_told (Zc (Zg 8) (Zc (e2 dAdd (eC (.str (PySem.Str.ofString " "))) (e2 dIx (Zg 6) (Zg 8))) aNil))) (eC .non)))) (ZE (eC (.bl false))) sNil))
def Ze3:Sv:=(Zv (ZF (gNm 2) (Zj F_law_bag (Zc (Zg 0) (Zc (Zg 1) aNil)))) (Zv (ZF (gNm 3) (e2 dIx (Zak (Zc (Zj F_law_smooth (Zc (Zg 2) aNil)) (Zc (Zj F_law_any (Zc (Zg 2) aNil)) aNil))) (Zj F_law_digit (Zc (Zg 2) (Zc (eC (.int 2)) aNil))))) (Zv (ZF (gNm 4) (ZaH (iR1 (Zc (Zj F_law_digit (Zc (Zg 2) (Zc (eC (.int 6)) aNil))) aNil)) 1 [2] (gNm 0) (fun _ M=>.ok true M) (e2 dSub (Zj F_law_digit (Zc (Zg 1) (Zc (eC (.int 121)) aNil))) (eC (.int 60))))) (Zv (ZF (gNm 5) (Zj F_law_height (Zc (Zg 2) (Zc (Zj bLen (Zc (Zg 3) aNil)) aNil)))) (Zv (sIf (tv (e2 dEq (Zj F_law_digit (Zc (Zg 2) (Zc (eC (.int 3)) aNil))) (eC (.int 1)))) (Zv (Zcr (ZmO mApp (Zg 4) (Zc (Zj F_law_long (Zc (Zg 2) aNil)) aNil))) (Zfq (Zg 5) (Zj F_law_digit (Zc (Zg 2) (Zc (Zj bLen (Zc (Zg 3) aNil)) aNil))) (Zj F_law_low (Zc (Zj F_law_long (Zc (Zg 2) aNil)) (Zc (Zj bAbs (Zc (Zj F_law_long (Zc (Zg 2) aNil)) aNil)) aNil))))) sNil) (Zv (ZF (gNm 6) (Zak (Zc (Zj F_law_rays_text (Zc (Zg 3) aNil)) (Zc (Zj F_law_height_text (Zc (Zg 5) aNil)) (Zc (Zj F_law_row_text (Zc (Zg 4) aNil)) aNil))))) (Zv (ZaF (gNm 7) (Zc (eC (.int 6)) aNil) Ze1) (Zv (ZF (gNm 10) (e2 dIx (Zak (Zc (eC .non) (Zc (eC (.int 1)) (Zc (eC (.bl true)) (Zc (Zg 3) (Zc (Z6 (Zc (eC (.int 1)) (Zc (eC (.int 0)) aNil))) (Zc (Zak (Zc (eC (.str (PySem.Str.ofString ""))) aNil)) aNil))))))) (Zj F_law_digit (Zc (Zg 2) (Zc (eC (.int 6)) aNil))))) (ZaF (gNm 8) (Zc (eC (.int 3)) aNil) Ze2)))))))))
def ZqR:Sv:=(Zv (ZaF (gNm 1) (Zc (Zj bMax (Zc (eC (.int 1)) (Zc (Zj bMin (Zc (eC (.int 10)) (Zc (Zj bLen (Zc (Zg 0) aNil)) aNil))) aNil))) aNil) Ze3) (ZE (eC (.bl true))))
def Zgl:W3:=fnF ZqR 1 10
variable (T:Txt K mg)
include T
theorem C1:Cal P w K mg base "is_whole" 1 1 F_is_whole:=ZH (N:=["thing"]) (T.d.at 0 18) T.gl fun _ _ _ _ _ _ _ nd hr θ=>(Zi (Zm (ZbX (ZbY Ziz T.b_isinstance T.b_int Zct (Zb 0)) (Zck (Zlu (ZbY ZgC T.b_isinstance T.b_bool ZiD (Zb 0)))))))
theorem C2:Cal P w K mg base "greatest_divisor" 101 2 F_greatest_divisor:=ZH (N:=["one","other","high","low"]) (T.d.at 1 19) T.gl fun _ _ _ _ _ _ _ nd hr θ=>(Zf (Zeb 2 3 (ZW hr (by decide)) nd (Za (Zn ZaA Zco T.b_abs Zcs (Za (Zb 0) Zd)) (Za (Zn ZaA Zco T.b_abs Zcs (Za (Zb 1) Zd)) Zd)))
  (Zf (Zev θ.own (Zq (ZaP hr.units) Zcn (Zb 3) Ze) (Zi (Zeb 2 3 (ZW hr (by decide)) nd (Za (Zb 3) (Za (Zas (Zb 2) (Zb 3)) Zd)))))
  (Zi (Zm (Zb 2)))))
theorem C3:Cal P w K mg base "is_ratio" 102 1 F_is_ratio:=ZH (N:=["thing"]) (T.d.at 2 21) T.gl fun _ _ _ _ _ _ _ nd hr θ=>(Zf (ZG (Zdp (Za8 (ZaE (Z3 (ZbY Zds T.b_isinstance T.b_tuple Za9 (Zb 0)))) (Za8 (Zq (ZaP hr.units) Zcn (Zn Zl ZK T.b_len PySem.boot_len (Za (Zb 0) Zd)) Ze) (Za8 (ZaE (Z3 (Zh (C1 T) θ hr (Za (Zo (Zb 0) Ze) Zd)))) (ZaZ (ZaE (Z3 (Zh (C1 T) θ hr (Za (Zo (Zb 0) Ze) Zd))))))))) (Zi (Zm Zer)) Zr) (Zi (Zm (ZbX (Zab Zon ZoM (Zo (Zb 0) Ze) Ze) (Zck (Zab (ZJ hr.units) Z1 (Zh (C2 T) θ hr (Za (Zo (Zb 0) Ze) (Za (Zo (Zb 0) Ze) Zd))) Ze))))))
theorem C4:Cal P w K mg base "is_pair" 2 1 F_is_pair:=ZH (N:=["thing"]) (T.d.at 3 23) T.gl fun _ _ _ _ _ _ _ nd hr θ=>(Zi (Zm (ZbX (ZbY Zds T.b_isinstance T.b_tuple Za9 (Zb 0)) (ZbX (Zab (ZJ hr.units) Z1 (Zn Zl ZK T.b_len PySem.boot_len (Za (Zb 0) Zd)) Ze) (ZbX (Zh (C1 T) θ hr (Za (Zo (Zb 0) Ze) Zd)) (Zck (Zh (C1 T) θ hr (Za (Zo (Zb 0) Ze) Zd))))))))
theorem C5:Cal P w K mg base "crossed" 1 2 F_crossed:=ZH (N:=["one","other"]) (T.d.at 4 24) T.gl fun _ _ _ _ _ _ _ nd hr θ=>(Zi (Zm (Zbn (Z4 (Zo (Zb 0) Ze) (Zo (Zb 1) Ze)) (Z4 (Zo (Zb 0) Ze) (Zo (Zb 1) Ze)))))
theorem C6:Cal P w K mg base "common" 102 1 F_common:=ZH (N:=["pair"]) (T.d.at 5 25) T.gl fun _ _ _ _ _ _ _ nd hr θ=>(Zi (Zm (Zh (C2 T) θ hr (Za (Zo (Zb 0) Ze) (Za (Zo (Zb 0) Ze) Zd)))))
theorem C7:Cal P w K mg base "is_ray" 103 1 F_is_ray:=ZH (N:=["thing"]) (T.d.at 6 26) T.gl fun _ _ _ _ _ _ _ nd hr θ=>(Zi (Zm (ZbX (Zh (C4 T) θ hr (Za (Zb 0) Zd)) (Zck (Zab (ZJ hr.units) Z1 (Zh (C6 T) θ hr (Za (Zb 0) Zd)) Ze)))))
theorem C8:Cal P w K mg base "following" 1 2 F_following:=ZH (N:=["things","at"]) (T.d.at 7 28) T.gl fun _ _ _ _ _ _ _ nd hr θ=>(Zi (Zm (Zo (Zb 0) (Zas (Zx (Zb 1) Ze) (Zn Zl ZK T.b_len PySem.boot_len (Za (Zb 0) Zd))))))
theorem C9:Cal P w K mg base "met_direction" 1 2 F_met_direction:=ZH (N:=["ray","behind"]) (T.d.at 8 29) T.gl fun _ _ _ _ _ _ _ nd hr θ=>(Zi (Zm (ZrD (Zab (ZJ hr.units) Z1 (Zb 0) (ZA (Za Ze (Za Ze Zd)))) (Zck (Zpg Zdk Zdq Zdk Zdq Zpf (Zo (Zb 0) Ze) Ze (Zo (Zb 1) Ze))))))
theorem C10:Cal P w K mg base "look_round" 104 1 F_look_round:=ZH (N:=["thing","at","ray"]) (T.d.at 9 30) T.gl fun _ _ _ _ _ _ _ nd hr θ=>(Zf (ZG (Zdp (Za8 (ZaE (Z3 (ZbY ZgD T.b_isinstance T.b_list Zex (Zb 0)))) (ZaZ (Zq Zdk Zdq (Zn Zl ZK T.b_len PySem.boot_len (Za (Zb 0) Zd)) Ze)))) (Zi (Zcx T.in_NoRound (fun f fd C J E=>ZeZ J T.gl E) θ (by decide +kernel) T.gl (hr.hd (by decide)) (hr.mono (by decide)) (Za Zw (Za Ze Zd)))) Zr)
  (Zf (Zdx θ.own (Zdy (hr.hd (by decide)) T.b_enumerate (Za (Zb 0) Zd)) (Zea (ZW hr (by decide)) (ZZ (Zu 1 nd) (ZZ (Zu 2 nd) ZcK)) (hlen:=(Zaw (Zaw (fun _ _ _ h=>ZcL h))))) (Zi (ZG (ZaE (Z3 (Zh (C7 T) θ hr (Za (Zb 2) Zd)))) (Zi (Zcx T.in_NoRound (fun f fd C J E=>ZeZ J T.gl E) θ (by decide +kernel) T.gl (hr.hd (by decide)) (hr.mono (by decide)) (Za Zw (Za (Zb 1) Zd)))) Zr)))
  (Zf (Zdx θ.own (Zdy (hr.hd (by decide)) T.b_enumerate (Za (Zb 0) Zd)) (Zea (ZW hr (by decide)) (ZZ (Zu 1 nd) (ZZ (Zu 2 nd) ZcK)) (hlen:=(Zaw (Zaw (fun _ _ _ h=>ZcL h))))) (Zi (ZG (Zq Zkc Zkp (Zh (C5 T) θ hr (Za (Zb 2) (Za (Zh (C8 T) θ hr (Za (Zb 0) (Za (Zb 1) Zd))) Zd))) Ze) (Zi (Zcx T.in_NoRound (fun f fd C J E=>ZeZ J T.gl E) θ (by decide +kernel) T.gl (hr.hd (by decide)) (hr.mono (by decide)) (Za Zw (Za (Zb 1) Zd)))) Zr)))
  (Zi (ZG (Zq Zci Zcm (Zn Zl ZK T.b_len PySem.boot_len (Za (Zbv (Zfb ["thing","at","ray"] ["at","ray","thing"] (dS 30) 2 [0]) (Zdy (hr.hd (by decide)) T.b_enumerate (Za (Zb 0) Zd)) fun _ _ _ _ _=>⟨(Zea (ZW hr (by decide)) (ZZ (Zu 0 (show bV (["at","ray","thing"]:List Str)by decide +kernel)) (ZZ (Zu 1 (show bV (["at","ray","thing"]:List Str)by decide +kernel)) ZcK)) (hlen:=(Zaw (Zaw (fun _ _ _ h=>ZcL h))))),(hX ⟨_,rfl,(Z3 (Zh (C9 T) Zba hr (Za (Zb 1) (Za (Zh (C8 T) Zba hr (Za (Zb 2) (Za (Zb 0) Zd))) Zd))))⟩),(Zb 0)⟩) Zd)) Ze) (Zi (Zcx T.in_NoRound (fun f fd C J E=>ZeZ J T.gl E) θ (by decide +kernel) T.gl (hr.hd (by decide)) (hr.mono (by decide)) (Za Zw (Za Ze Zd)))) Zr)))))
theorem C11:Cal P w K mg base "is_round" 105 1 F_is_round:=ZH (N:=["thing"]) (T.d.at 10 31) T.gl fun _ _ _ _ _ _ _ nd hr θ=>(Zf (Zm8 (ZkN T.ct_NoRound T.gl) (hr.hd (by decide)) rfl rfl rfl [false] (fun pn xe σ ξ' θ'=>(Zi (Zf4 (Zh (C10 T) θ' hr (Za (Zb 0) Zd))))) (fun ea=>(Zi (Zm Zer))))
  (Zi (Zm Zer)))
theorem C12:Cal P w K mg base "words_of" 101 1 F_words_of:=ZH (N:=["text"]) (T.d.at 11 33) T.gl fun _ _ _ _ _ _ _ nd hr θ=>(Zf (ZG (ZaE (Z3 (ZbY ZmD T.b_isinstance T.b_str Zdv (Zb 0)))) (Zi (ZbP θ T.ex_NoText T.gl (hr.hd (by decide)) (Za Zw Zd))) Zr)
  (Zi (Zm (Za2 PySem.F.slot_str_split PySem.F.type_str_split Zbe ZdB (Zb 0) (Za Zw Zd)))))
theorem C13:Cal P w K mg base "read_number" 101 1 F_read_number:=ZH (N:=["word","figures"]) (T.d.at 12 34) T.gl fun _ _ _ _ _ _ _ nd hr θ=>(Zf (Zt 1 nd (ZrE (Z3 (Za2 PySem.F.slot_str_startswith PySem.F.type_str_startswith Zpi Zpj (Zb 0) (Za Zw Zd))) (Zbz (Zb 0) (Zbd Ze) Zbc) (Zb 0))) (Zf (ZG (Zdp (Za8 (Zq Zdk Zdq (Zn ZaO ZeM T.b_len PySem.boot_len (Za (Zb 1) Zd)) Ze) (Za8 (Zq Zci Zcm (Zn ZaO ZeM T.b_len PySem.boot_len (Za (Zb 1) Zd)) Ze) (ZaZ (ZaE (Z3 (Zn (ZgK (ZW hr (by decide))) Zlz T.b_all Zly (Za (Zbv (Zfb (n:=0) ["word","figures"] ["sign"] (dS 34) 1 []) (Zi7 (Zb 1)) fun _ _ _ _ _=>⟨(Zu 0 (show bV (["sign"]:List Str)by decide +kernel)),(dw ⟨rfl,rfl⟩),(Zab Zh7 Zpk (Zb 0) Zw)⟩) Zd)))))))) (Zi (ZbP θ T.ex_NoText T.gl (hr.hd (by decide)) (Za Zw Zd))) Zr)
  (Zf (ZG (Zdp (Zbt (Zq (ZJ hr.units) Z1 (ZgR (Zb 1) Ze) Zw) (ZaV (Zq (ZaP hr.units) Zcn (Zb 0) Zw)))) (Zi (ZbP θ T.ex_NoText T.gl (hr.hd (by decide)) (Za Zw Zd))) Zr)
  (Zi (Zm (ZD Zja ZmZ T.b_int Zct (Za (Zb 0) Zd)))))))
theorem C14:Cal P w K mg base "read_ratio" 103 1 F_read_ratio:=ZH (N:=["word","parts","one"]) (T.d.at 13 35) T.gl fun _ _ _ _ _ _ _ nd hr θ=>(Zf (ZeH ZdA 1 nd (Zfb (n:=0) ["word","parts","one"] ["part"] (dS 35) 1 []) (Za1 (Za2 PySem.F.slot_str_split PySem.F.type_str_split Zbe ZdB (Zb 0) (Za Zw Zd))) fun _ _ _ _ _ _ θ9=>⟨(Zu 0 (show bV (["part"]:List Str)by decide +kernel)),(Zh (C13 T) θ9 hr (Za (Zb 0) Zd))⟩)
  (Zf (ZG (Zq (ZJ hr.units) Z1 (Zn Zl ZK T.b_len PySem.boot_len (Za (Zb 1) Zd)) Ze) (Zi (Zm (ZA (Za (Zo (Zb 1) Ze) (Za Ze Zd))))) Zr) (Zf (Zt 2 nd (ZD ZaB ZgN T.b_tuple Za9 (Za (Zb 1) Zd))) (Zf (ZG (Zdp (Za8 (ZaE (Z3 (Zh (C3 T) θ hr (Za (Zb 2) Zd)))) (ZaZ (Zq (ZJ hr.units) Z1 (Zo (Zb 2) Ze) Ze)))) (Zi (ZbP θ T.ex_NoText T.gl (hr.hd (by decide)) (Za Zw Zd))) Zr)
  (Zi (Zm (Zb 2)))))))
theorem C15:Cal P w K mg base "read_pair" 102 1 F_read_pair:=ZH (N:=["word","parts"]) (T.d.at 14 36) T.gl fun _ _ _ _ _ _ _ nd hr θ=>(Zf (ZeH ZdA 1 nd (Zfb (n:=0) ["word","parts"] ["part"] (dS 36) 1 []) (Za1 (Za2 PySem.F.slot_str_split PySem.F.type_str_split Zbe ZdB (Zb 0) (Za Zw Zd))) fun _ _ _ _ _ _ θ9=>⟨(Zu 0 (show bV (["part"]:List Str)by decide +kernel)),(Zh (C13 T) θ9 hr (Za (Zb 0) Zd))⟩)
  (Zf (ZG (Zq (ZaP hr.units) Zcn (Zn Zl ZK T.b_len PySem.boot_len (Za (Zb 1) Zd)) Ze) (Zi (ZbP θ T.ex_NoText T.gl (hr.hd (by decide)) (Za Zw Zd))) Zr)
  (Zi (Zm (ZA (Za (Zo (Zb 1) Ze) (Za (Zo (Zb 1) Ze) Zd)))))))
theorem C16:Cal P w K mg base "read_round" 106 1 F_read_round:=ZH (N:=["text","rays"]) (T.d.at 15 37) T.gl fun _ _ _ _ _ _ _ nd hr θ=>(Zf (ZeH ZdA 1 nd (Zfb (n:=0) ["text","rays"] ["word"] (dS 37) 1 []) (Za1 (Zh (C12 T) θ hr (Za (Zb 0) Zd))) fun _ _ _ _ _ _ θ9=>⟨(Zu 0 (show bV (["word"]:List Str)by decide +kernel)),(Zh (C15 T) θ9 hr (Za (Zb 0) Zd))⟩)
  (Zf (ZG (ZaE (Z3 (Zh (C11 T) θ hr (Za (Zb 1) Zd)))) (Zi (ZbP θ T.ex_NoText T.gl (hr.hd (by decide)) (Za Zw Zd))) Zr)
  (Zi (Zm (Zb 1)))))
theorem C17:Cal P w K mg base "read_height" 104 1 F_read_height:=ZH (N:=["text"]) (T.d.at 16 38) T.gl fun _ _ _ _ _ _ _ nd hr θ=>(Zi (Zm (ZgP ZdA (Zfb (n:=0) ["text"] ["word"] (dS 38) 1 []) (Za1 (Zh (C12 T) θ hr (Za (Zb 0) Zd))) fun _ _ _ _ _ _ θ9=>⟨(Zu 0 (show bV (["word"]:List Str)by decide +kernel)),(Zh (C14 T) θ9 hr (Za (Zb 0) Zd))⟩)))
theorem C18:Cal P w K mg base "read_row" 102 1 F_read_row:=ZH (N:=["text"]) (T.d.at 17 39) T.gl fun _ _ _ _ _ _ _ nd hr θ=>(Zf (ZG (Zq (ZJ hr.units) Z1 (Zb 0) Zw) (Zi (Zm (ZI Zd))) Zr) (Zi (Zm (ZgP ZdA (Zfb (n:=0) ["text"] ["word"] (dS 39) 1 []) (Za1 (Zh (C12 T) θ hr (Za (Zb 0) Zd))) fun _ _ _ _ _ _ θ9=>⟨(Zu 0 (show bV (["word"]:List Str)by decide +kernel)),(Zh (C13 T) θ9 hr (Za (Zb 0) Zd))⟩))))
theorem C19:Cal P w K mg base "_law_bag" 1 2 F_law_bag:=ZH (N:=["_law_script","_law_k","_law_cell","_law_state"]) (T.d.at 18 41) T.gl fun _ _ _ _ _ _ _ nd hr θ=>(Zf (Zt 2 nd Ze) (Zf (ZG (Zq Zdk Zdq (Zb 1) (Zn Zl ZK T.b_len PySem.boot_len (Za (Zb 0) Zd))) (Zi (Zt 2 nd (Zn ZaA Zco T.b_abs Zcs (Za (Zo (Zb 0) (Zb 1)) Zd)))) Zr) (Zf (Zt 3 nd (Zx Ze (Zas (Zx (Zx (Zx (Zas (Zb 2) Ze) (Z4 (Z4 Ze (Zb 1)) (Zb 1))) (Z4 Ze (Zb 1))) Ze) Ze))) (Zi (Zm (ZI (Za (Z4 (Zb 2) (ZD ZaX Zd9 T.b_int Zct (Za (Zab Zon ZoM (Zb 2) (Zd8 Ze Ze)) Zd))) (Za (Zb 3) Zd))))))))
theorem C20:Cal P w K mg base "_law_digit" 1 2 F_law_digit:=ZH (N:=["_law_bag_here","_law_many","_law_found"]) (T.d.at 19 42) T.gl fun _ _ _ _ _ _ _ nd hr θ=>(Zf (ZG (Zq Zci Zcm (Zo (Zb 0) Ze) Ze) (Zf (Zt 2 nd (Zas (Zo (Zb 0) Ze) (Zb 1))) (Zf (ZiA (Zb 0) Ze (Zc1 (Zo (Zb 0) Ze) (Zb 1))) (Zi (Zm (Zb 2))))) Zr) (Zf (ZiA (Zb 0) Ze (Zas (Z4 (Zo (Zb 0) Ze) Ze) Ze)) (Zi (Zm (Zas (Zc1 (Zas (Z4 (Zo (Zb 0) Ze) Ze) Ze) Ze) (Zb 1))))))
theorem C21:Cal P w K mg base "_law_led" 101 2 F_law_led:=ZH (N:=["_law_turning_here","_law_pair","_law_first","_law_second"]) (T.d.at 20 43) T.gl fun _ _ _ _ _ _ _ nd hr θ=>(Zf (ZoS (Zb 0) (Zea (ZW hr (by decide)) (ZZ (Zu 2 nd) (ZZ (Zu 3 nd) ZcK)) (hlen:=(Zaw (Zaw (fun _ _ _ h=>ZcL h))))))
  (Zi (Zm (ZA (Za (Zx (Z4 (Zo (Zb 2) Ze) (Zo (Zb 1) Ze)) (Z4 (Zo (Zb 2) Ze) (Zo (Zb 1) Ze))) (Za (Zx (Z4 (Zo (Zb 3) Ze) (Zo (Zb 1) Ze)) (Z4 (Zo (Zb 3) Ze) (Zo (Zb 1) Ze))) Zd))))))
theorem C22:Cal P w K mg base "_law_both" 102 2 F_law_both:=ZH (N:=["_law_one","_law_other","_law_left","_law_right"]) (T.d.at 21 44) T.gl fun _ _ _ _ _ _ _ nd hr θ=>(Zf (Zt 2 nd (Zh (C21 T) θ hr (Za (Zb 1) (Za (ZA (Za (Zo (Zo (Zb 0) Ze) Ze) (Za (Zo (Zo (Zb 0) Ze) Ze) Zd))) Zd)))) (Zf (Zt 3 nd (Zh (C21 T) θ hr (Za (Zb 1) (Za (ZA (Za (Zo (Zo (Zb 0) Ze) Ze) (Za (Zo (Zo (Zb 0) Ze) Ze) Zd))) Zd)))) (Zi (Zm (ZA (Za (ZA (Za (Zo (Zb 2) Ze) (Za (Zo (Zb 3) Ze) Zd))) (Za (ZA (Za (Zo (Zb 2) Ze) (Za (Zo (Zb 3) Ze) Zd))) Zd)))))))
theorem C23:Cal P w K mg base "_law_turning" 103 1 F_law_turning:=ZH (N:=["_law_bag_here","_law_found","_law_k","_law_by","_law_some"]) (T.d.at 22 45) T.gl fun _ _ _ _ _ _ _ nd hr θ=>(Zf (Zt 1 nd (ZA (Za (ZA (Za Ze (Za Ze Zd))) (Za (ZA (Za Ze (Za Ze Zd))) Zd)))) (Zf (Zal θ.own T.b_range (Za (Zh (C20 T) θ hr (Za (Zb 0) (Za Ze Zd))) Zd) (Zu 2 nd) (Zf (Zt 3 nd (Zbn (Zh (C20 T) θ hr (Za (Zb 0) (Za Ze Zd))) Ze)) (Zf (Zt 4 nd (ZI (Za (ZA (Za (ZA (Za Ze (Za (Zb 3) Zd))) (Za (ZA (Za Ze (Za Ze Zd))) Zd))) (Za (ZA (Za (ZA (Za Ze (Za Ze Zd))) (Za (ZA (Za (Zb 3) (Za Ze Zd))) Zd))) (Za (ZA (Za (ZA (Za Ze (Za Ze Zd))) (Za (ZA (Za Ze (Za Ze Zd))) Zd))) (Za (ZA (Za (ZA (Za Ze (Za (Zdr Ze) Zd))) (Za (ZA (Za Ze (Za Ze Zd))) Zd))) Zd)))))) (Zi (Zt 1 nd (Zh (C22 T) θ hr (Za (Zb 1) (Za (Zo (Zb 4) (Zh (C20 T) θ hr (Za (Zb 0) (Za Ze Zd)))) Zd)))))))) (Zi (Zm (Zb 1)))))
theorem C24:Cal P w K mg base "_law_cross" 1 2 F_law_cross:=ZH (N:=["_law_one","_law_other"]) (T.d.at 23 46) T.gl fun _ _ _ _ _ _ _ nd hr θ=>(Zi (Zm (Zbn (Z4 (Zo (Zb 0) Ze) (Zo (Zb 1) Ze)) (Z4 (Zo (Zb 0) Ze) (Zo (Zb 1) Ze)))))
theorem C25:Cal P w K mg base "_law_sum" 1 2 F_law_sum:=ZH (N:=["_law_one","_law_other"]) (T.d.at 24 47) T.gl fun _ _ _ _ _ _ _ nd hr θ=>(Zi (Zm (ZA (Za (Zx (Zo (Zb 0) Ze) (Zo (Zb 1) Ze)) (Za (Zx (Zo (Zb 0) Ze) (Zo (Zb 1) Ze)) Zd)))))
theorem C26:Cal P w K mg base "_law_near" 1 1 F_law_near:=ZH (N:=["_law_pair"]) (T.d.at 25 48) T.gl fun _ _ _ _ _ _ _ nd hr θ=>(Zi (Zm (ZbX (Zab Zkc Zkp (Zn ZaA Zco T.b_abs Zcs (Za (Zo (Zb 0) Ze) Zd)) Ze) (Zck (Zab Zkc Zkp (Zn ZaA Zco T.b_abs Zcs (Za (Zo (Zb 0) Ze) Zd)) Ze)))))
theorem C27:Cal P w K mg base "_law_brought" 102 3 F_law_brought:=ZH (N:=["_law_rays","_law_turning_here","_law_start","_law_led_here"]) (T.d.at 26 49) T.gl fun _ _ _ _ _ _ _ nd hr θ=>(Zf (Zdz 3 nd (Zfb ["_law_rays","_law_turning_here","_law_start","_law_led_here"] ["_law_ray","_law_turning_here"] (dS 49) 1 [1]) (Za1 (Zb 0)) fun _ _ _ _ _=>⟨(Zu 0 (show bV (["_law_ray","_law_turning_here"]:List Str)by decide +kernel)),(dw ⟨rfl,rfl⟩),(Zh (C21 T) Zba hr (Za (Zb 1) (Za (Zb 0) Zd)))⟩)
  (Zf (ZG (ZaE (Z3 (Zn (ZgK (ZW hr (by decide))) Zlz T.b_all Zly (Za (Zbv (Zfb ["_law_rays","_law_turning_here","_law_start","_law_led_here"] ["_law_ray"] (dS 49) 1 []) (Za1 (Zb 3)) fun _ _ _ _ _=>⟨(Zu 0 (show bV (["_law_ray"]:List Str)by decide +kernel)),(dw ⟨rfl,rfl⟩),(Zh (C26 T) Zba hr (Za (Zb 0) Zd))⟩) Zd)))) (Zi (Zt 3 nd (ZD Zfl ZmC T.b_list Zex (Za (Zb 0) Zd)))) (Zi (ZG (Zq Zdk Zdq (Zh (C24 T) θ hr (Za (Zo (Zb 3) Ze) (Za (Zo (Zb 3) Ze) Zd))) Ze) (Zi (Zt 3 nd (ZrJ (Zb 3)))) Zr)))
  (Zi (Zm (Zx (ZfC (Zb 3) (Zbd (Zb 2)) Zbc) (ZfC (Zb 3) Zbc (Zbd (Zb 2))))))))
theorem C28:Cal P w K mg base "_law_smooth" 104 1 F_law_smooth:=ZH (N:=["_law_bag_here","_law_steep","_law_rays","_law_k","_law_at","_law_ray","_law_start"]) (T.d.at 27 50) T.gl fun _ _ _ _ _ _ _ nd hr θ=>(Zf (Zt 1 nd (Zh (C20 T) θ hr (Za (Zb 0) (Za (Zo (ZI (Za Ze (Za Ze (Za Ze (Za Ze (Za Ze (Za Ze (Za Ze (Za Ze Zd))))))))) (Zh (C20 T) θ hr (Za (Zb 0) (Za Ze Zd)))) Zd)))) (Zf (Zt 2 nd (Zo (ZI (Za (ZI (Za (ZA (Za Ze (Za Ze Zd))) (Za (ZA (Za Ze (Za Ze Zd))) (Za (ZA (Za (Zdr Ze) (Za (Zdr Ze) Zd))) Zd)))) (Za (ZI (Za (ZA (Za Ze (Za Ze Zd))) (Za (ZA (Za Ze (Za Ze Zd))) (Za (ZA (Za (Zdr Ze) (Za (Zb 1) Zd))) (Za (ZA (Za Ze (Za (Zdr Ze) Zd))) Zd))))) Zd))) (Zh (C20 T) θ hr (Za (Zb 0) (Za Ze Zd))))) (Zf (Zal θ.own T.b_range (Za (Zh (C20 T) θ hr (Za (Zb 0) (Za (Zo (ZI (Za Ze (Za Ze (Za Ze (Za Ze Zd))))) (Zh (C20 T) θ hr (Za (Zb 0) (Za Ze Zd)))) Zd))) Zd) (Zu 3 nd) (Zf (Zt 4 nd (Zh (C20 T) θ hr (Za (Zb 0) (Za (Zn Zl ZK T.b_len PySem.boot_len (Za (Zb 2) Zd)) Zd)))) (Zf (Zt 5 nd (Zh (C25 T) θ hr (Za (Zo (Zb 2) (Zb 4)) (Za (Zo (Zb 2) (Zas (Zx (Zb 4) Ze) (Zn Zl ZK T.b_len PySem.boot_len (Za (Zb 2) Zd)))) Zd)))) (Zi (ZG (Zdp (Zbt (Z3 (Zh (C26 T) θ hr (Za (Zb 5) Zd))) (ZaV (Zq Zdk Zdq (Zn Zl ZK T.b_len PySem.boot_len (Za (Zb 2) Zd)) Ze)))) (Zi (Zt 2 nd (Zx (Zx (ZfC (Zb 2) Zbc (Zbd (Zx (Zb 4) Ze))) (ZI (Za (Zb 5) Zd))) (ZfC (Zb 2) (Zbd (Zx (Zb 4) Ze)) Zbc)))) Zr))))) (Zf (Zt 6 nd (Zh (C20 T) θ hr (Za (Zb 0) (Za (Zn Zl ZK T.b_len PySem.boot_len (Za (Zb 2) Zd)) Zd)))) (Zi (Zm (Zh (C27 T) θ hr (Za (Zb 2) (Za (Zh (C23 T) θ hr (Za (Zb 0) Zd)) (Za (Zb 6) Zd))))))))))
theorem C29:Cal P w K mg base "_law_straight" 101 1 F_law_straight:=ZH (N:=["_law_pair","_law_one","_law_other"]) (T.d.at 28 51) T.gl fun _ _ _ _ _ _ _ nd hr θ=>(Zf (Zeb 1 2 (ZW hr (by decide)) nd (Za (Zn ZaA Zco T.b_abs Zcs (Za (Zo (Zb 0) Ze) Zd)) (Za (Zn ZaA Zco T.b_abs Zcs (Za (Zo (Zb 0) Ze) Zd)) Zd)))
  (Zf (Zev θ.own (Zq Zci Zcm (Zb 2) Ze) (Zi (Zeb 1 2 (ZW hr (by decide)) nd (Za (Zb 2) (Za (Zas (Zb 1) (Zb 2)) Zd)))))
  (Zi (Zm (ZA (Za (Zc1 (Zo (Zb 0) Ze) (Zb 1)) (Za (Zc1 (Zo (Zb 0) Ze) (Zb 1)) Zd)))))))
theorem C30:Cal P w K mg base "_law_put" 2 2 F_law_put:=ZH (N:=["_law_rays","_law_ray","_law_at","_law_behind"]) (T.d.at 29 52) T.gl fun _ _ _ _ _ _ _ nd hr θ=>(Zf (Zal θ.own T.b_range (Za (Zn Zl ZK T.b_len PySem.boot_len (Za (Zb 0) Zd)) Zd) (Zu 2 nd) (Zf (Zt 3 nd (Zo (Zb 0) (Zas (Zx (Zb 2) Ze) (Zn Zl ZK T.b_len PySem.boot_len (Za (Zb 0) Zd))))) (Zi (ZG (Zdp (Zbt (Zq Zci Zcm (Zh (C24 T) θ hr (Za (Zo (Zb 0) (Zb 2)) (Za (Zb 1) Zd))) Ze) (ZaV (Zq Zci Zcm (Zh (C24 T) θ hr (Za (Zb 1) (Za (Zb 3) Zd))) Ze)))) (Zi (Zm (Zx (Zx (ZfC (Zb 0) Zbc (Zbd (Zx (Zb 2) Ze))) (ZI (Za (Zb 1) Zd))) (ZfC (Zb 0) (Zbd (Zx (Zb 2) Ze)) Zbc)))) Zr)))) (Zi (Zm (Zb 0))))
theorem C31:Cal P w K mg base "_law_any" 105 1 F_law_any:=ZH (N:=["_law_bag_here","_law_rays","_law_wide","_law_k","_law_one","_law_other","_law_at"]) (T.d.at 30 53) T.gl fun _ _ _ _ _ _ _ nd hr θ=>(Zf (Zt 1 nd (Zh (C28 T) θ hr (Za (Zb 0) Zd))) (Zf (Zt 2 nd (Zo (ZI (Za Ze (Za Ze (Za Ze (Za Ze (Za Ze (Za Ze (Za Ze (Za Ze Zd))))))))) (Zh (C20 T) θ hr (Za (Zb 0) (Za Ze Zd))))) (Zf (Zal θ.own T.b_range (Za (Zh (C20 T) θ hr (Za (Zb 0) (Za Ze Zd))) Zd) (Zu 3 nd) (Zf (Zt 4 nd (Zbn (Zh (C20 T) θ hr (Za (Zb 0) (Za (Zb 2) Zd))) (Zc1 (Zb 2) Ze))) (Zf (Zt 5 nd (Zbn (Zh (C20 T) θ hr (Za (Zb 0) (Za (Zb 2) Zd))) (Zc1 (Zb 2) Ze))) (Zi (ZG (Zdp (Zbt (Zq (ZaP hr.units) Zcn (ZA (Za (Zb 4) (Za (Zb 5) Zd))) (ZA (Za Ze (Za Ze Zd)))) (ZaV (Zq Zdk Zdq (Zn Zl ZK T.b_len PySem.boot_len (Za (Zb 1) Zd)) Ze)))) (Zi (Zt 1 nd (Zh (C30 T) θ hr (Za (Zb 1) (Za (Zh (C29 T) θ hr (Za (ZA (Za (Zb 4) (Za (Zb 5) Zd))) Zd)) Zd))))) Zr))))) (Zf (Zal θ.own T.b_range (Za (Zh (C20 T) θ hr (Za (Zb 0) (Za Ze Zd))) Zd) (Zu 3 nd) (Zf (Zt 6 nd (Zh (C20 T) θ hr (Za (Zb 0) (Za (Zn Zl ZK T.b_len PySem.boot_len (Za (Zb 1) Zd)) Zd)))) (Zi (ZG (Zdp (Zbt (Zq Zci Zcm (Zn Zl ZK T.b_len PySem.boot_len (Za (Zb 1) Zd)) Ze) (ZaV (Zq Zci Zcm (Zh (C24 T) θ hr (Za (Zo (Zb 1) (Zbn (Zb 6) Ze)) (Za (Zo (Zb 1) (Zas (Zx (Zb 6) Ze) (Zn Zl ZK T.b_len PySem.boot_len (Za (Zb 1) Zd)))) Zd))) Ze)))) (Zi (Zt 1 nd (Zx (ZfC (Zb 1) Zbc (Zbd (Zb 6))) (ZfC (Zb 1) (Zbd (Zx (Zb 6) Ze)) Zbc)))) Zr)))) (Zi (Zm (Zb 1)))))))
theorem C32:Cal P w K mg base "_law_low" 101 2 F_law_low:=ZH (N:=["_law_top","_law_bottom","_law_one","_law_other"]) (T.d.at 31 54) T.gl fun _ _ _ _ _ _ _ nd hr θ=>(Zf (Zeb 2 3 (ZW hr (by decide)) nd (Za (Zn ZaA Zco T.b_abs Zcs (Za (Zb 0) Zd)) (Za (Zb 1) Zd)))
  (Zf (Zev θ.own (Zq Zci Zcm (Zb 3) Ze) (Zi (Zeb 2 3 (ZW hr (by decide)) nd (Za (Zb 3) (Za (Zas (Zb 2) (Zb 3)) Zd)))))
  (Zi (Zm (ZA (Za (Zc1 (Zb 0) (Zb 2)) (Za (Zc1 (Zb 1) (Zb 2)) Zd)))))))
theorem C33:Cal P w K mg base "_law_height" 102 2 F_law_height:=ZH (N:=["_law_bag_here","_law_many","_law_kind","_law_found","_law_k","_law_top","_law_bottom"]) (T.d.at 32 55) T.gl fun _ _ _ _ _ _ _ nd hr θ=>(Zf (Zt 2 nd (Zh (C20 T) θ hr (Za (Zb 0) (Za Ze Zd)))) (Zf (Zt 3 nd (ZI Zd)) (Zf (Zal θ.own T.b_range (Za (Zb 1) Zd) (Zu 4 nd) (Zf (Zt 5 nd (Zbn (Zh (C20 T) θ hr (Za (Zb 0) (Za Ze Zd))) Ze)) (Zf (Zt 6 nd Ze) (Zf (ZG (Zdp (Za8 (Zq (ZJ hr.units) Z1 (Zb 2) Ze) (ZaZ (Zq (ZJ hr.units) Z1 (Zb 2) Ze)))) (Zi (Zt 6 nd (Zx Ze (Zh (C20 T) θ hr (Za (Zb 0) (Za Ze Zd)))))) Zr) (Zf (ZG (Zq (ZJ hr.units) Z1 (Zb 2) Ze) (Zf (Zt 5 nd (Zx (Zbn (Zh (C20 T) θ hr (Za (Zb 0) (Za (Zbn (Z4 Ze (Zd8 Ze Ze)) Ze) Zd))) (Zd8 Ze Ze)) Ze)) (Zi (Zt 6 nd (Zx Ze (Zh (C20 T) θ hr (Za (Zb 0) (Za (Zbn (Zd8 Ze Ze) Ze) Zd))))))) Zr) (Zf (ZG (Zq (ZJ hr.units) Z1 (Zb 2) Ze) (Zi (Zt 5 nd (Z4 (Zb 5) (ZD ZaX Zd9 T.b_int Zct (Za (Zab (ZJ hr.units) Z1 (Zas (Zb 5) Ze) Ze) Zd))))) Zr) (Zi (Zf4 (ZfB (Zb 3) (Zh (C32 T) θ hr (Za (Zb 5) (Za (Zb 6) Zd)))))))))))) (Zi (Zm (Zb 3))))))
theorem C34:Cal P w K mg base "_law_long" 2 1 F_law_long:=ZH (N:=["_law_bag_here"]) (T.d.at 33 56) T.gl fun _ _ _ _ _ _ _ nd hr θ=>(Zi (Zm (Z4 (Zx (Zd8 Ze Ze) (Zh (C20 T) θ hr (Za (Zb 0) (Za (Z4 Ze (Zd8 Ze Ze)) Zd)))) (Zo (ZI (Za Ze (Za (Zdr Ze) Zd))) (Zh (C20 T) θ hr (Za (Zb 0) (Za Ze Zd)))))))
theorem C35:Cal P w K mg base "_law_whole" 1 1 F_law_whole:=ZH (N:=["_law_thing"]) (T.d.at 34 57) T.gl fun _ _ _ _ _ _ _ nd hr θ=>(Zi (Zm (ZbX (ZbY Ziz T.b_isinstance T.b_int Zct (Zb 0)) (Zck (Zlu (ZbY ZgC T.b_isinstance T.b_bool ZiD (Zb 0)))))))
theorem C36:Cal P w K mg base "_law_classes" 1 1 F_law_classes:=ZH (N:=["_law_e","_law_some"]) (T.d.at 35 58) T.gl fun _ _ _ _ _ _ _ nd hr θ=>(Zf (Zt 1 nd (ZI (Za (ZaI T.it_NoRatio T.gl T.b_isinstance (Zb 0)) (Za (ZaI T.it_NoTurning T.gl T.b_isinstance (Zb 0)) (Za (ZaI T.it_NoRound T.gl T.b_isinstance (Zb 0)) (Za (ZaI T.it_NotSmooth T.gl T.b_isinstance (Zb 0)) Zd)))))) (Zf (Zt 1 nd (Zx (Zb 1) (ZI (Za (ZaI T.it_NoWedge T.gl T.b_isinstance (Zb 0)) (Za (ZaI T.it_NoRow T.gl T.b_isinstance (Zb 0)) (Za (ZaI T.it_NoPlace T.gl T.b_isinstance (Zb 0)) (Za (ZaI T.it_NoMinus T.gl T.b_isinstance (Zb 0)) Zd))))))) (Zf (Zt 1 nd (Zx (Zb 1) (ZI (Za (ZaI T.it_NoFour T.gl T.b_isinstance (Zb 0)) (Za (ZaI T.it_NoHeight T.gl T.b_isinstance (Zb 0)) (Za (ZaI T.it_NoBend T.gl T.b_isinstance (Zb 0)) (Za (ZaI T.it_NoBody T.gl T.b_isinstance (Zb 0)) Zd))))))) (Zf (Zt 1 nd (Zx (Zb 1) (ZI (Za (ZaI T.it_NoOne T.gl T.b_isinstance (Zb 0)) (Za (ZaI T.it_NoText T.gl T.b_isinstance (Zb 0)) (Za (ZaI T.it_Unknown T.gl T.b_isinstance (Zb 0)) Zd)))))) (Zi (Zm (Zbv (Zfb ["_law_e","_law_some"] ["_law_k","_law_e","_law_some"] (dS 58) 1 [0,1]) (Zft T.b_range (Za Ze Zd)) fun _ _ _ _ _=>⟨(Zu 0 (show bV (["_law_k","_law_e","_law_some"]:List Str)by decide +kernel)),(hX ⟨_,rfl,(Zdp (Zbt (Z3 (Zo (Zb 2) (Zb 0))) (ZaV (Z3 (Zo1 T.ib_ValueError T.b_isinstance T.b_ValueError ZeE (Zb 1))))))⟩),(Zb 0)⟩)))))))
theorem C37:Cal P w K mg base "_law_is_ray" 102 1 F_law_is_ray:=ZH (N:=["_law_thing"]) (T.d.at 36 59) T.gl fun _ _ _ _ _ _ _ nd hr θ=>(Zf (ZG (Zdp (Za8 (ZaE (Z3 (ZbY Zds T.b_isinstance T.b_tuple Za9 (Zb 0)))) (Za8 (Zq (ZaP hr.units) Zcn (Zn Zl ZK T.b_len PySem.boot_len (Za (Zb 0) Zd)) Ze) (Za8 (ZaE (Z3 (Zh (C35 T) θ hr (Za (Zo (Zb 0) Ze) Zd)))) (ZaZ (ZaE (Z3 (Zh (C35 T) θ hr (Za (Zo (Zb 0) Ze) Zd))))))))) (Zi (Zm Zer)) Zr) (Zi (Zm (ZbX (Zab (ZaP hr.units) Zcn (Zb 0) (ZA (Za Ze (Za Ze Zd)))) (Zck (Zab (ZJ hr.units) Z1 (Zh (C29 T) θ hr (Za (Zb 0) Zd)) (Zb 0)))))))
theorem C38:Cal P w K mg base "_law_has_east" 1 2 F_law_has_east:=ZH (N:=["_law_one","_law_other"]) (T.d.at 37 60) T.gl fun _ _ _ _ _ _ _ nd hr θ=>(Zf (ZG (Zq (ZJ hr.units) Z1 (Zo (Zb 0) Ze) Ze) (Zi (Zm (Zab Zci Zcm (Zo (Zb 0) Ze) Ze))) Zr) (Zi (Zm (ZbX (Zab Zdk Zdq (Zo (Zb 0) Ze) Ze) (Zck (Zab Zci Zcm (Zo (Zb 1) Ze) Ze))))))
theorem C39:Cal P w K mg base "_law_fault" 103 1 F_law_fault:=ZH (N:=["_law_thing","_law_at","_law_ray","_law_many"]) (T.d.at 38 61) T.gl fun _ _ _ _ _ _ _ nd hr θ=>(Zf (ZG (Zdp (Za8 (ZaE (Z3 (ZbY ZgD T.b_isinstance T.b_list Zex (Zb 0)))) (ZaZ (Zq Zdk Zdq (Zn Zl ZK T.b_len PySem.boot_len (Za (Zb 0) Zd)) Ze)))) (Zi (Zm (ZA (Za Zw (Za Ze Zd))))) Zr) (Zf (Zdx θ.own (Zdy (hr.hd (by decide)) T.b_enumerate (Za (Zb 0) Zd)) (Zea (ZW hr (by decide)) (ZZ (Zu 1 nd) (ZZ (Zu 2 nd) ZcK)) (hlen:=(Zaw (Zaw (fun _ _ _ h=>ZcL h))))) (Zi (ZG (ZaE (Z3 (Zh (C37 T) θ hr (Za (Zb 2) Zd)))) (Zi (Zm (ZA (Za Zw (Za (Zb 1) Zd))))) Zr)))
  (Zf (Zdx θ.own (Zdy (hr.hd (by decide)) T.b_enumerate (Za (Zb 0) Zd)) (Zea (ZW hr (by decide)) (ZZ (Zu 1 nd) (ZZ (Zu 2 nd) ZcK)) (hlen:=(Zaw (Zaw (fun _ _ _ h=>ZcL h))))) (Zi (ZG (Zq Zkc Zkp (Zh (C24 T) θ hr (Za (Zb 2) (Za (Zo (Zb 0) (Zas (Zx (Zb 1) Ze) (Zn Zl ZK T.b_len PySem.boot_len (Za (Zb 0) Zd)))) Zd))) Ze) (Zi (Zm (ZA (Za Zw (Za (Zb 1) Zd))))) Zr)))
  (Zf (Zt 3 nd Ze) (Zf (Zal θ.own T.b_range (Za (Zn Zl ZK T.b_len PySem.boot_len (Za (Zb 0) Zd)) Zd) (Zu 1 nd) (Zi (Zt 3 nd (Zx (Zb 3) (ZD ZaX Zd9 T.b_int Zct (Za (Zh (C38 T) θ hr (Za (Zo (Zb 0) (Zbn (Zb 1) Ze)) (Za (Zo (Zb 0) (Zb 1)) Zd))) Zd)))))) (Zf (ZG (Zq Zci Zcm (Zb 3) Ze) (Zi (Zm (ZA (Za Zw (Za Ze Zd))))) Zr) (Zi (Zm Z5))))))))
theorem C40:Cal P w K mg base "_law_number_in" 101 1 F_law_number_in:=ZH (N:=["_law_word","_law_figures","_law_worth","_law_sign"]) (T.d.at 39 62) T.gl fun _ _ _ _ _ _ _ nd hr θ=>(Zf (Zt 1 nd (Zb 0)) (Zf (ZG (Zdp (Zbt (Zq (ZJ hr.units) Z1 (Zbz (Zb 0) Zbc (Zbd Ze)) Zw) (ZaV (Zq (ZaP hr.units) Zcn (Zb 0) Zw)))) (Zi (Zt 1 nd (Zbz (Zb 0) (Zbd Ze) Zbc))) Zr) (Zf (ZG (Zdp (Za8 (Zq (ZJ hr.units) Z1 (Zb 1) Zw) (Za8 (Zq Zci Zcm (Zn ZaO ZeM T.b_len PySem.boot_len (Za (Zb 1) Zd)) Ze) (ZaZ (Zq (ZaP hr.units) Zcn (Zbv (Zfb (n:=0) ["_law_word","_law_figures","_law_worth","_law_sign"] ["_law_sign"] (dS 62) 1 []) (Zi7 (Zb 1)) fun _ _ _ _ _=>⟨(Zu 0 (show bV (["_law_sign"]:List Str)by decide +kernel)),(hX ⟨_,rfl,(Zq (ZiW hr.units) ZiY (Zb 0) (ZD (Zjc (hr.hd (by decide))) Zm1 T.b_list Zex (Za Zw Zd)))⟩),(Zb 0)⟩) (ZI Zd)))))) (Zi (Zm Z5)) Zr)
  (Zf (ZG (Zdp (Zbt (Zq (ZJ hr.units) Z1 (ZgR (Zb 1) Ze) Zw) (ZaV (Zq (ZaP hr.units) Zcn (Zb 1) Zw)))) (Zi (Zm Z5)) Zr) (Zf (Zt 2 nd Ze) (Zf (Zdx θ.own (Zi7 (Zb 1)) (Zu 3 nd) (Zi (Zt 2 nd (Zx (Z4 Ze (Zb 2)) (Za2 PySem.F.slot_str_index PySem.F.type_str_index Zpm Zpn Zw (Za (Zb 3) Zd)))))) (Zi (Zm (Z4 (Zb 2) (Zo (ZI (Za Ze (Za (Zdr Ze) Zd))) (ZD ZaX Zd9 T.b_int Zct (Za (Zab (ZaP hr.units) Zcn (Zb 1) (Zb 0)) Zd))))))))))))
theorem C41:Cal P w K mg base "_law_pair_in" 102 1 F_law_pair_in:=ZH (N:=["_law_word","_law_parts"]) (T.d.at 40 63) T.gl fun _ _ _ _ _ _ _ nd hr θ=>(Zf (Zdz 1 nd (Zfb (n:=0) ["_law_word","_law_parts"] ["_law_part"] (dS 63) 1 []) (Za1 (Za2 PySem.F.slot_str_split PySem.F.type_str_split Zbe ZdB (Zb 0) (Za Zw Zd))) fun _ _ _ _ _=>⟨(Zu 0 (show bV (["_law_part"]:List Str)by decide +kernel)),(dw ⟨rfl,rfl⟩),(Zh (C40 T) Zba hr (Za (Zb 0) Zd))⟩)
  (Zf (ZG (Zdp (Za8 (Zq (ZaP hr.units) Zcn (Zn Zl ZK T.b_len PySem.boot_len (Za (Zb 1) Zd)) Ze) (ZaZ (Zq (ZiV hr.units) ZiX Z5 (Zb 1))))) (Zi (Zm Z5)) Zr) (Zi (Zm (ZD ZaB ZgN T.b_tuple Za9 (Za (Zb 1) Zd))))))
theorem C42:Cal P w K mg base "_law_ratio_in" 102 1 F_law_ratio_in:=ZH (N:=["_law_word","_law_parts"]) (T.d.at 41 64) T.gl fun _ _ _ _ _ _ _ nd hr θ=>(Zf (Zdz 1 nd (Zfb (n:=0) ["_law_word","_law_parts"] ["_law_part"] (dS 64) 1 []) (Za1 (Za2 PySem.F.slot_str_split PySem.F.type_str_split Zbe ZdB (Zb 0) (Za Zw Zd))) fun _ _ _ _ _=>⟨(Zu 0 (show bV (["_law_part"]:List Str)by decide +kernel)),(dw ⟨rfl,rfl⟩),(Zh (C40 T) Zba hr (Za (Zb 0) Zd))⟩)
  (Zf (ZG (Zdp (Za8 (Zq Zci Zcm (Zn Zl ZK T.b_len PySem.boot_len (Za (Zb 1) Zd)) Ze) (ZaZ (Zq (ZiV hr.units) ZiX Z5 (Zb 1))))) (Zi (Zm Z5)) Zr) (Zf (ZG (Zq (ZJ hr.units) Z1 (Zn Zl ZK T.b_len PySem.boot_len (Za (Zb 1) Zd)) Ze) (Zi (Zm (ZA (Za (Zo (Zb 1) Ze) (Za Ze Zd))))) Zr) (Zf (ZG (Zdp (Za8 (Zq Zdk Zdq (Zo (Zb 1) Ze) Ze) (ZaZ (Zq (ZaP hr.units) Zcn (Zh (C32 T) θ hr (Za (Zo (Zb 1) Ze) (Za (Zo (Zb 1) Ze) Zd))) (ZD ZaB ZgN T.b_tuple Za9 (Za (Zb 1) Zd)))))) (Zi (Zm Z5)) Zr) (Zi (Zm (ZD ZaB ZgN T.b_tuple Za9 (Za (Zb 1) Zd))))))))
theorem C43:Cal P w K mg base "_law_list_in" 103 2 F_law_list_in:=ZH (N:=["_law_text","_law_read","_law_found"]) (T.d.at 42 65) T.gl fun _ _ _ _ _ _ _ nd hr θ=>(Zf (Zdz 2 nd (Zfb ["_law_text","_law_read","_law_found"] ["_law_word","_law_read"] (dS 65) 1 [1]) (Za1 (Za2 PySem.F.slot_str_split PySem.F.type_str_split Zbe ZdB (Zb 0) (Za Zw Zd))) fun _ _ _ _ _=>⟨(Zu 0 (show bV (["_law_word","_law_read"]:List Str)by decide +kernel)),(dw ⟨rfl,rfl⟩),(ZkD (ZbQ (hr.mono (by decide)) (C41 T) (ZbQ (hr.mono (by decide)) (C42 T) (ZbQ (hr.mono (by decide)) (C40 T) Zi3))) T.gl Zba (Za (Zb 0) Zd))⟩)
  (Zf (ZG (Zq (ZiV hr.units) ZiX Z5 (Zb 2)) (Zi (Zm Z5)) Zr) (Zi (Zm (Zb 2)))))
theorem C44:Cal P w K mg base "_law_rays_text" 1 1 F_law_rays_text:=ZH (N:=["_law_rays"]) (T.d.at 43 66) T.gl fun _ _ _ _ _ _ _ nd hr θ=>(Zi (Zm (Za2 PySem.F.slot_str_join PySem.F.type_str_join ZeI ZeJ Zw (Za (Zbv (Zfb (n:=0) ["_law_rays"] ["_law_ray"] (dS 66) 1 []) (Za1 (Zb 0)) fun _ _ _ _ _=>⟨(Zu 0 (show bV (["_law_ray"]:List Str)by decide +kernel)),(dw ⟨rfl,rfl⟩),(Zx (Zx (ZD Z2 Zeh T.b_str Zdv (Za (Zo (Zb 0) Ze) Zd)) Zw) (ZD Z2 Zeh T.b_str Zdv (Za (Zo (Zb 0) Ze) Zd)))⟩) Zd))))
theorem C45:Cal P w K mg base "_law_ratio_text" 1 1 F_law_ratio_text:=ZH (N:=["_law_one"]) (T.d.at 44 67) T.gl fun _ _ _ _ _ _ _ nd hr θ=>(Zf (ZG (Zq (ZJ hr.units) Z1 (Zo (Zb 0) Ze) Ze) (Zi (Zm (ZD Z2 Zeh T.b_str Zdv (Za (Zo (Zb 0) Ze) Zd)))) Zr) (Zi (Zm (Zx (Zx (ZD Z2 Zeh T.b_str Zdv (Za (Zo (Zb 0) Ze) Zd)) Zw) (ZD Z2 Zeh T.b_str Zdv (Za (Zo (Zb 0) Ze) Zd))))))
theorem C46:Cal P w K mg base "_law_height_text" 2 1 F_law_height_text:=ZH (N:=["_law_height_here"]) (T.d.at 45 68) T.gl fun _ _ _ _ _ _ _ nd hr θ=>(Zi (Zm (Za2 PySem.F.slot_str_join PySem.F.type_str_join ZeI ZeJ Zw (Za (Zbv (Zfb (n:=0) ["_law_height_here"] ["_law_one"] (dS 68) 1 []) (Za1 (Zb 0)) fun _ _ _ _ _=>⟨(Zu 0 (show bV (["_law_one"]:List Str)by decide +kernel)),(dw ⟨rfl,rfl⟩),(Zh (C45 T) Zba hr (Za (Zb 0) Zd))⟩) Zd))))
theorem C47:Cal P w K mg base "_law_row_text" 1 1 F_law_row_text:=ZH (N:=["_law_line"]) (T.d.at 46 69) T.gl fun _ _ _ _ _ _ _ nd hr θ=>(Zi (Zm (Za2 PySem.F.slot_str_join PySem.F.type_str_join ZeI ZeJ Zw (Za (Zx (Zbv (Zfb (n:=0) ["_law_line"] ["_law_number"] (dS 69) 1 []) (Za1 (Zb 0)) fun _ _ _ _ _=>⟨(Zu 0 (show bV (["_law_number"]:List Str)by decide +kernel)),(dw ⟨rfl,rfl⟩),(ZD Z2 Zeh T.b_str Zdv (Za (Zb 0) Zd))⟩) (Zpe (ZI (Za Zw Zd)) (ZD ZaX Zd9 T.b_int Zct (Za (Zab (ZJ hr.units) Z1 (Zb 0) (ZI Zd)) Zd)))) Zd))))
theorem C48:Cal P w K mg base "_law_due" 104 2 F_law_due:=ZH (N:=["_law_kind","_law_text","_law_found"]) (T.d.at 47 70) T.gl fun _ _ _ _ _ _ _ nd hr θ=>(Zf (ZG (Zdp (Zbt (Zq (ZJ hr.units) Z1 (Zb 0) Ze) (ZaV (Zq (ZJ hr.units) Z1 (Zb 1) Zw)))) (Zi (Zm (ZI Zd))) Zr) (Zf (Zt 2 nd (Zh (C43 T) θ hr (Za (Zb 1) (Za (Zo (ZI (Za (ZhA T.fn__law_pair_in T.gl) (Za (ZhA T.fn__law_ratio_in T.gl) (Za (ZhA T.fn__law_number_in T.gl) Zd)))) (Zb 0)) Zd)))) (Zf (ZG (Zdp (Zbt (Zq (ZJ hr.units) Z1 (Zb 0) Ze) (Zbt (Zq Za0 ZbN (Zb 2) Z5) (ZaV (Zq Za0 ZbN (Zh (C39 T) θ hr (Za (Zb 2) Zd)) Z5))))) (Zi (Zm Z5)) Zr) (Zi (Zm (Zb 2))))))
theorem C49:Cal P w K mg base "_law_told" 107 2 F_law_told:=ZH (N:=["_law_kind","_law_text","_law_e"]) (T.d.at 48 71) T.gl fun _ _ _ _ _ _ _ nd hr θ=>(Zi (Zo8 T.ct_RayError T.gl (hr.hd (by decide)) rfl rfl rfl nd [false,false,false] (fun pn xe σ ξ' θ'=>(Zi (Zm (ZkJ (ZbQ (hr.mono (by decide)) (C16 T) (ZbQ (hr.mono (by decide)) (C17 T) (ZbQ (hr.mono (by decide)) (C18 T) Zi3))) T.gl θ' (Zo (ZI (Za (ZhA T.fn_read_round T.gl) (Za (ZhA T.fn_read_height T.gl) (Za (ZhA T.fn_read_row T.gl) Zd)))) (Zb 0)) (Za (Zb 1) Zd))))) (fun ea=>(Zi (Zm (Zo (ZI (Za Zw (Za Z5 Zd))) (ZD ZaX Zd9 T.b_int Zct (Za (Zab (ZJ (Zfy (j:=0) hr (by decide) (by decide)).units) Z1 (ZgG (C36 T) ZmL (Zfy hr (by decide) (by decide)) (Za (Zb 2) Zd)) (ZI (Za Ze Zd))) Zd))))))))
theorem C50:Cal P w K mg base "_law_changed" 2 2 F_law_changed:=ZH (N:=["_law_bag_here","_law_text","_law_at","_law_way","_law_sign","_law_words"]) (T.d.at 49 72) T.gl fun _ _ _ _ _ _ _ nd hr θ=>(Zf (Zt 2 nd (Zh (C20 T) θ hr (Za (Zb 0) (Za (Zn ZaO ZeM T.b_len PySem.boot_len (Za (Zb 1) Zd)) Zd)))) (Zf (Zt 3 nd (Zh (C20 T) θ hr (Za (Zb 0) (Za Ze Zd)))) (Zf (Zt 4 nd (ZgR Zw (Zh (C20 T) θ hr (Za (Zb 0) (Za Ze Zd))))) (Zf (ZG (Zq (ZJ hr.units) Z1 (Zb 3) Ze) (Zi (Zm (Zx (Zbz (Zb 1) Zbc (Zbd (Zb 2))) (Zbz (Zb 1) (Zbd (Zx (Zb 2) Ze)) Zbc)))) Zr) (Zf (ZG (Zq (ZJ hr.units) Z1 (Zb 3) Ze) (Zi (Zm (Zx (Zx (Zbz (Zb 1) Zbc (Zbd (Zb 2))) (ZgR (Zb 1) (Zb 2))) (Zbz (Zb 1) (Zbd (Zb 2)) Zbc)))) Zr) (Zf (ZG (Zq (ZJ hr.units) Z1 (Zb 3) Ze) (Zi (Zm (Zx (Zb 1) (Zo (ZI (Za Zw (Za Zw (Za Zw (Za Zw Zd))))) (Zh (C20 T) θ hr (Za (Zb 0) (Za Ze Zd))))))) Zr) (Zf (ZG (Zq (ZJ hr.units) Z1 (Zb 3) Ze) (Zf (Zt 5 nd (Za2 PySem.F.slot_str_split PySem.F.type_str_split Zbe ZdB (Zb 1) (Za Zw Zd))) (Zi (Zm (Za2 PySem.F.slot_str_join PySem.F.type_str_join ZeI ZeJ Zw (Za (Zx (Zb 5) (ZI (Za (Zo (Zb 5) (Zas (Zb 2) (Zn Zl ZK T.b_len PySem.boot_len (Za (Zb 5) Zd)))) Zd))) Zd))))) Zr) (Zf (ZG (Zq (ZJ hr.units) Z1 (Zb 3) Ze) (Zi (Zm (Zx (Zx (Zbz (Zb 1) Zbc (Zbd (Zb 2))) (Zb 4)) (Zbz (Zb 1) (Zbd (Zb 2)) Zbc)))) Zr) (Zi (Zm (Zx (Zx (Zbz (Zb 1) Zbc (Zbd (Zb 2))) (Zb 4)) (Zbz (Zb 1) (Zbd (Zx (Zb 2) Ze)) Zbc))))))))))))
theorem ZjH{f:Addr}{fd:gq}(F:Fun K "law" "law" (top 73) f fd):FnOk P w K mg base (CXE P w) 108 f fd ["_law_script"] (spD K Zgl):=
 have nd:bV (["_law_script","_law_k","_law_bag_here","_law_rays","_law_line","_law_height_here","_law_texts","_law_turn","_law_kind","_law_text","_law_odd"]:List Str):=by decide +kernel
 ZoW (N:=["_law_script","_law_k","_law_bag_here","_law_rays","_law_line","_law_height_here","_law_texts","_law_turn","_law_kind","_law_text","_law_odd"]) F ⟨rfl,rfl,rfl,nd,rfl,by decide +kernel,by decide +kernel⟩ rfl rfl fun _ _ _ _ _ _ hr θ=>(Zf (Zal θ.own T.b_range (Za (Zn (Zh9 (ZW hr (by decide))) ZoQ T.b_max ZoX (Za Ze (Za (Zn (Zia (ZW hr (by decide))) ZoR T.b_min ZoY (Za Ze (Za (Zn Zl ZK T.b_len PySem.boot_len (Za (Zb 0) Zd)) Zd))) Zd))) Zd) (Zu 1 nd) (Zf (Zt 2 nd (Zh (C19 T) θ hr (Za (Zb 0) (Za (Zb 1) Zd))))
  (Zf (Zt 3 nd (Zo (ZI (Za (Zh (C28 T) θ hr (Za (Zb 2) Zd)) (Za (Zh (C31 T) θ hr (Za (Zb 2) Zd)) Zd))) (Zh (C20 T) θ hr (Za (Zb 2) (Za Ze Zd))))) (Zf (Zdz 4 nd (Zfb ["_law_script","_law_k","_law_bag_here","_law_rays","_law_line","_law_height_here","_law_texts","_law_turn","_law_kind","_law_text","_law_odd"] ["_law_turn","_law_bag_here"] (dS 73) 1 [2]) (Zft T.b_range (Za (Zh (C20 T) θ hr (Za (Zb 2) (Za Ze Zd))) Zd)) fun _ _ _ _ _=>⟨(Zu 0 (show bV (["_law_turn","_law_bag_here"]:List Str)by decide +kernel)),(dw ⟨rfl,rfl⟩),(Zbn (Zh (C20 T) Zba hr (Za (Zb 1) (Za Ze Zd))) Ze)⟩)
  (Zf (Zt 5 nd (Zh (C33 T) θ hr (Za (Zb 2) (Za (Zn Zl ZK T.b_len PySem.boot_len (Za (Zb 3) Zd)) Zd)))) (Zf (ZG (Zq (ZJ hr.units) Z1 (Zh (C20 T) θ hr (Za (Zb 2) (Za Ze Zd))) Ze) (Zf (Zf4 (ZfB (Zb 4) (Zh (C34 T) θ hr (Za (Zb 2) Zd)))) (Zi (ZiA (Zb 5) (Zh (C20 T) θ hr (Za (Zb 2) (Za (Zn Zl ZK T.b_len PySem.boot_len (Za (Zb 3) Zd)) Zd))) (Zh (C32 T) θ hr (Za (Zh (C34 T) θ hr (Za (Zb 2) Zd)) (Za (Zn ZaA Zco T.b_abs Zcs (Za (Zh (C34 T) θ hr (Za (Zb 2) Zd)) Zd)) Zd)))))) Zr) (Zf (Zt 6 nd (ZI (Za (Zh (C44 T) θ hr (Za (Zb 3) Zd)) (Za (Zh (C46 T) θ hr (Za (Zb 5) Zd)) (Za (Zh (C47 T) θ hr (Za (Zb 4) Zd)) Zd))))) (Zf (Zal θ.own T.b_range (Za Ze Zd) (Zu 7 nd) (Zf (Zt 8 nd (Zas (Zb 7) Ze)) (Zf (Zt 9 nd (Zh (C50 T) θ hr (Za (Zb 2) (Za (Zo (Zb 6) (Zb 8)) Zd)))) (Zi (ZG (Zq (ZaP hr.units) Zcn (Zh (C49 T) θ hr (Za (Zb 8) (Za (Zb 9) Zd))) (Zh (C48 T) θ hr (Za (Zb 8) (Za (Zb 9) Zd)))) (Zi (Zm Zer)) Zr))))) (Zf (Zt 10 nd (Zo (ZI (Za Z5 (Za Ze (Za Zer (Za (Zb 3) (Za (ZA (Za Ze (Za Ze Zd))) (Za (ZI (Za Zw Zd)) Zd))))))) (Zh (C20 T) θ hr (Za (Zb 2) (Za Ze Zd))))) (Zi (Zal θ.own T.b_range (Za Ze Zd) (Zu 8 nd) (Zf (ZG (Zdp (Za8 (Zq Za0 ZbN (Zh (C49 T) θ hr (Za (Zb 8) (Za (Zb 10) Zd))) Z5) (ZaZ (Zq Za0 ZbN (Zh (C49 T) θ hr (Za (Zb 8) (Za Zw Zd))) Z5)))) (Zi (Zm Zer)) Zr) (Zi (ZG (Zdp (Za8 (Zq Za0 ZbN (Zh (C49 T) θ hr (Za (Zb 8) (Za (Zx (Zo (Zb 6) (Zb 8)) Zw) Zd))) Z5) (ZaZ (Zq Za0 ZbN (Zh (C49 T) θ hr (Za (Zb 8) (Za (Zx Zw (Zo (Zb 6) (Zb 8))) Zd))) Z5)))) (Zi (Zm Zer)) Zr))))))))))))))
  (Zi (Zm Zer)))
end
theorem fin{l:PySem.W.OpenLaw}(X:K.In h)(G:h.Ns ai mg)(hfa:mg "law"=some (.ref fa))(T:Txt K mg):∃fd:gq,(∀(s:aC)(v:ah),j8 s fd ⟨[v],[]⟩ [("_law_script",v)])/\∀base:Heap,K.In base->base.Ns ai mg->FnOk l.prog w K mg base (CXE l.prog w) 108 fa fd ["_law_script"] (spD K Zgl):=
 ZoZ (l:=l) (w:=w) X G hfa (T.d.at 50 73) (fun _ _ _ _ _ _ _=>rfl) fun base fd F=>ZjH (base:=base) T F
end K77
namespace K77
open L2 DL SX TZ
open CV CI
noncomputable abbrev NT:Str:=PySem.Str.ofString "NoText"
theorem ZjR(l:List Nat):(⟨l.toArray⟩:Str).cps.toList=l:=by simp
theorem Zac(l:List Nat):(⟨l.toArray⟩:Str).length=l.length:=by rw[ZaN]
theorem ZjS(ha:As l)(hl:l.length<=100000)(q1:∀i M',numo l=some i->Kp M M'->Q (.int i) M')(q2:∀M',numo l=none->Kp M M'->E NT M'):wO (F_read_number [.str ⟨l.toArray⟩] M) Q E:=
 ZnK (ZjJ ha) (by rw[Zac];exact hl) (fun o M' K=>q1 _ M' (if_pos o) K) (fun o M' K=>q2 M' (if_neg o) K)
theorem ZdY(c:Nat)(l:List Nat):(spl c l).length<=l.length+1:=by
 have s:=ZdV c l;have s2:(spl c l).length<=((spl c l).map fun w=>w.length+1).sum:=by
  generalize spl c l=L
  induction L with
  |nil=>simp
  |cons a L ih=>simp only[ao,aL,c6];lia
 lia
theorem ZjT(hM:M[n]?=some (.lst ((spl c l).map fun w=>D.str ⟨w.toArray⟩)))(ha:As l)(hl:l.length<=100000)(q1:∀L M',ZaM ((spl c l).map numo)=some L->Kp M M'->M'[M.length]?=some (.lst (nts L))->Q (.ref M.length) M')(q2:∀M',ZaM ((spl c l).map numo)=none->Kp M M'->E NT M'):ZqB (gNm 0) (Zj F_read_number (Zc (Zg 0) aNil)) 1 [] ρ Q E (.sto n) M:=by
 have e:ZaM ((spl c l).map fun w=>(numo w).map D.int)=(ZaM ((spl c l).map numo)).map (i9 D.int):=by
  rw[<-ZeW,bM];rfl
 have s:=ZdY c l;refine ZqC (c:=NT) (fun ρ=>∃x,ρ=[x]) ((spl c l).map fun w=>(numo w).map D.int) hM (by rw[ae];lia) (by simp) ⟨_,rfl⟩ ?_ ?_ ?_
 ·rintro i hi ρ M' K ⟨x,rfl⟩;have hi':i<(spl c l).length:=by simpa using hi
  have hw:(spl c l)[i]∈spl c l:=aX hi';rw[bH];simp![Zk];refine⟨⟨_,rfl⟩,ZjS (ha.spl hw) (aE (Zaj hw) hl) (fun j M2 e1 K2=>⟨?_,K2⟩) (fun M2 e1 K2=>⟨rfl,?_,K2⟩)⟩
  ·rw[a7,aq hi'];show some ((numo _).map D.int)=_;rw[e1];rfl
  ·rw[a7,aq hi'];show some ((numo _).map D.int)=_;rw[e1];rfl
 ·intro ys M' e1 K r;rw[e]at e1;cases e2:ZaM ((spl c l).map numo)with
  |none=>rw[e2]at e1;cases e1
  |some L=>
   rw[e2]at e1;cases e1;exact q1 L M' e2 K r
 ·intro M' e1 K;rw[e]at e1;cases e2:ZaM ((spl c l).map numo)with
  |none=>exact q2 M' e2 K
  |some L=>rw[e2]at e1;cases e1
theorem ZcZ(hz:sep.cps.toList=[c])(hc:c<128)(hl:l.length<=100000)(q:∀M',Kp M M'->M.length<M'.length->M'[M.length]?=some (.lst ((spl c l).map fun w=>D.str ⟨w.toArray⟩))->Q (.ref M.length) M'):wO (mSpl (.str ⟨l.toArray⟩) [.str sep] M) Q E:=by
 refine Zqs hz hc (by rw[Zac];lia) ?_
 rw[ZjR];exact q _ Kp.app (by simp) (by simp)
theorem Zl6{L:List Int}(c:(L.length:Int)=2):∃a b,L=[a,b]:=by
 match L,c with
 |[a,b],_=>exact⟨a,b,rfl⟩
 |[],c=>simp at c
 |[_],c=>simp at c
 |_::_::_::_,c=>simp at c;lia
theorem ZqS{L:List Int}(c:(L.length:Int)=1):∃a,L=[a]:=by
 match L,c with
 |[a],_=>exact⟨a,rfl⟩
 |[],c=>simp at c
 |_::_::_,c=>simp at c;lia
theorem Zgm(ha:As l)(hl:l.length<=100000)(q1:∀p M',pairo l=some p->Kp M M'->Q (pr p.1 p.2) M')(q2:∀M',pairo l=none->Kp M M'->E NT M'):wO (F_read_pair [.str ⟨l.toArray⟩] M) Q E:=by
 simp![F_read_pair,ZdX,ZbD,ZcS,ZcR];refine ZcZ CIr.ZdW (by decide) hl fun M1 K1 l1 r1=>?_
 simp![r1];refine ZjT (c:=44) r1 ha hl (fun L M2 e K2 r2=>?_) (fun M2 e K2=>q2 M2 (by unfold pairo;rw[e]) (K1.trans K2))
 have r2':=r2;simp![r2];refine Ztp (fun c=>?_) (fun c=>?_)
 ·simp![Zk];refine q2 M2 ?_ (K1.trans K2);unfold pairo;rw[e]
  match L,c with
  |[a,b],c=>simp at c
  |[],c=>rfl
  |[_],c=>rfl
  |_::_::_::_,c=>rfl
 ·obtain⟨a,b,rfl⟩:=Zl6 c
  replace r2:M2[M1.length]?=some (.lst [.int a,.int b]):=r2
  simp![r2];exact q1 (a,b) M2 (by unfold pairo;rw[e]) (K1.trans K2)
theorem ZqT(h:L.length≠2):decide (((nts L).length:Int)=2)=false:=decide_eq_false (by rw[ZbA];lia)
theorem ZfU(ha:As l)(hl:l.length<=100000)(q1:∀p M',ZP l=some p->Kp M M'->Q (pr p.1 p.2) M')(q2:∀M',ZP l=none->Kp M M'->E NT M'):wO (F_read_ratio [.str ⟨l.toArray⟩] M) Q E:=by
 simp![F_read_ratio,Zc8,ZbD,ZcS,ZcR];refine ZcZ ZdS (by decide) hl fun M1 K1 l1 r1=>?_
 simp![r1];refine ZjT (c:=47) r1 ha hl (fun L M2 e K2 r2=>?_) (fun M2 e K2=>q2 M2 (by unfold ZP;rw[e]) (K1.trans K2))
 have K3:=K1.trans K2;simp![r2];refine brS (fun c=>?_) (fun c=>?_)
 ·obtain⟨a,rfl⟩:=ZqS c
  replace r2:M2[M1.length]?=some (.lst [.int a]):=r2
  simp![r2];exact q1 (a,1) M2 (by unfold ZP;rw[e]) K3
 ·simp![r2,ZjI r2];by_cases h2:L.length=2
  ·obtain⟨a,b,rfl⟩:=Zl6 (L:=L) (by lia)
   have e0:nts [a,b]=[.int a,.int b]:=rfl;have gw:∀{Q:W0},wO (CR.F_greatest_divisor [.int a,.int b] M2) Q E=Q (.int (bq a b:Nat)) M2:=by
    intro Q;rw[CR.Zqy,ZlK];rfl
   have er:ZP l=if 2<=b/\bq a b=1 then some (a,b)else none:=by unfold ZP;rw[e]
   rw[e0];simp![CI.F_is_ratio,CI.ZbS,CR.F_is_whole,CR.Zah,gw];refine brO (fun c1=>?_) (fun c1=>?_)
   ·simp![gw];refine Zrh (fun c2=>?_) (fun c2=>?_)
    ·simp![Zk];exact q2 M2 (by rw[er,if_neg (by lia)]) K3
    ·simp![Zk];refine brS (fun c3=>?_) (fun c3=>?_)
     ·simp![Zk];exact q2 M2 (by rw[er,if_neg (by lia)]) K3
     ·simp![Zk];exact q1 (a,b) M2 (by rw[er,if_pos (by lia)]) K3
   ·simp![Zk];exact q2 M2 (by rw[er,if_neg (by lia)]) K3
  ·have er:ZP l=none:=by
    unfold ZP;rw[e]
    match L,c,h2 with
    |[],_,_=>rfl
    |[_],c,_=>simp at c
    |[_,_],_,h=>simp at h
    |_::_::_::_,_,_=>rfl
   simp![CI.F_is_ratio,CI.ZbS,ZqT h2];exact q2 M2 er K3
theorem Zgn(hM:M[n]?=some (.lst ((spl 32 l).map fun w=>D.str ⟨w.toArray⟩)))(hl:l.length<=100000)(hF:∀w∈spl 32 l,∀{Q:W0}{E:W2}{M:Sto},(∀d M',item k w=some d->Kp M M'->Q d M')->(∀M',item k w=none->Kp M M'->E NT M')->wO (F [.str ⟨w.toArray⟩] M) Q E)(q1:∀L M',Zaa k l=some L->Kp M M'->M'[M.length]?=some (.lst L)->Q (.ref M.length) M')(q2:∀M',Zaa k l=none->Kp M M'->E NT M'):ZqB (gNm 0) (Zj F (Zc (Zg 0) aNil)) 1 [] ρ Q E (.sto n) M:=by
 have s:=ZdY 32 l;refine ZqC (c:=NT) (fun ρ=>∃x,ρ=[x]) ((spl 32 l).map (item k)) hM (by rw[ae];lia) (by simp) ⟨_,rfl⟩ ?_ q1 q2
 rintro i hi ρ M' K ⟨x,rfl⟩;have hi':i<(spl 32 l).length:=by simpa using hi
 have hw:(spl 32 l)[i]∈spl 32 l:=aX hi';rw[bH];simp![Zk];refine⟨⟨_,rfl⟩,hF _ hw (fun j M2 e1 K2=>⟨?_,K2⟩) (fun M2 e1 K2=>⟨rfl,?_,K2⟩)⟩
 ·rw[a7,aq hi'];exact congrArg some e1
 ·rw[a7,aq hi'];exact congrArg some e1
theorem Zgo(hl:l.length<=100000)(q:∀M',Kp M M'->M.length<M'.length->M'[M.length]?=some (.lst ((spl 32 l).map fun w=>D.str ⟨w.toArray⟩))->Q (.ref M.length) M'):wO (CI.F_words_of [.str ⟨l.toArray⟩] M) Q E:=by
 refine ZnL (by rw[Zac];lia) ?_
 rw[ZjR];exact q _ Kp.app (by simp) (by simp)
theorem Ze4(ha:As l)(hl:l.length<=100000)(q1:∀L m M',Zaa 1 l=some L->Kp M M'->M'[m]?=some (.lst L)->Q (.ref m) M')(q2:∀M',Zaa 1 l=none->Kp M M'->E NT M'):wO (F_read_height [.str ⟨l.toArray⟩] M) Q E:=by
 simp![F_read_height,Zbm,ZbD];refine Zgo hl fun M1 K1 l1 r1=>?_;simp![r1];refine Zgn (k:=1) r1 hl (fun w hw Q E M p1 p2=>?_) (fun L M2 e K2 r2=>q1 L _ M2 e (K1.trans K2) r2) (fun M2 e K2=>q2 M2 e (K1.trans K2));refine ZfU (ha.spl hw) (aE (Zaj hw) hl) (fun p M' e K=>p1 _ M' ?_ K) (fun M' e K=>p2 M' ?_ K)
 ·show(ZP w).map prD=_;rw[e];rfl
 ·show(ZP w).map prD=_;rw[e];rfl
theorem ZhL(ha:As l)(hl:l.length<=100000)(hd:l≠[45])(q1:∀L m M',Zaa 2 l=some L->Kp M M'->M'[m]?=some (.lst L)->Q (.ref m) M')(q2:∀M',Zaa 2 l=none->Kp M M'->E NT M'):wO (F_read_row [.str ⟨l.toArray⟩] M) Q E:=by
 have ne:decide ((⟨l.toArray⟩:Str)=PySem.Str.ofString "-")=false:=decide_eq_false fun z=>hd (by
  have e:(PySem.Str.ofString "-").cps.toList=[45]:=by decide
  have:=congrArg (fun s:Str=>s.cps.toList) z
  rw[<-e]
  simpa using this)
 simp![F_read_row,ZbU,ZbD,CI.ZfY,ne];refine Zgo hl fun M1 K1 l1 r1=>?_;simp![r1];refine Zgn (k:=2) r1 hl (fun w hw Q E M p1 p2=>?_) (fun L M2 e K2 r2=>q1 L _ M2 e (K1.trans K2) r2) (fun M2 e K2=>q2 M2 e (K1.trans K2));refine ZjS (ha.spl hw) (aE (Zaj hw) hl) (fun p M' e K=>p1 _ M' ?_ K) (fun M' e K=>p2 M' ?_ K)
 ·show(numo w).map D.int=_;rw[e];rfl
 ·show(numo w).map D.int=_;rw[e];rfl
theorem ZjU(q:∀m M',Kp M M'->M'[m]?=some (.lst [])->Q (.ref m) M'):wO (F_read_row [.str ⟨#[45]⟩] M) Q E:=by
 have ne:decide ((⟨#[45]⟩:Str)=PySem.Str.ofString "-")=true:=by decide
 simp![F_read_row,ZbU,CI.ZfY,ne];exact q _ _ Kp.app (by simp)
theorem Zc0{rs:List Pt}(h:prs rs=prs ss):rs=ss:=by
 have:=ZlP (M:=[]) (n:=0) (rs:=rs) (ss:=ss)
 rw[h,ZlP,decide_eq_true rfl]at this
 simpa using this
theorem ZjV(h:Zaa 0 l=some L):∃rs,L=prs rs/\((spl 32 l).map pairo)=rs.map some:=by
 have e:Zaa 0 l=(ZaM ((spl 32 l).map pairo)).map (i9 prD):=by
  unfold Zaa;rw[<-ZeW,bM];rfl
 rw[e]at h;cases e2:ZaM ((spl 32 l).map pairo)with
 |none=>rw[e2]at h;cases h
 |some rs=>rw[e2]at h;cases h;exact⟨rs,rfl,ZT e2⟩
theorem ZhM(h:M[m]?=some (.lst (prs rs)))(hb:∀p∈rs,CB.Bd 1000000000000000000 p)(hl:rs.length<=1000)(hr:3<=rs.length->CJ.Res (rs.map some) r)(q1:3<=rs.length->r=none->∀M',Kp M M'->Q (.bl true) M')(q2:¬(3<=rs.length/\r=none)->∀M',Kp M M'->Q (.bl false) M'):wO (CIr.F_is_round [.ref m] M) Q E:=by
 simp![CIr.F_is_round,CIr.ZcY,Zqq];by_cases c:3<=rs.length
 ·have els:CJ.Els M (prs rs) (rs.map some):=⟨by rw[ZC,ae],fun i a b=>by
   have b':i<rs.length:=by simpa using b
   rw[bH];exact⟨by simp[prs],hb _ (aX b')⟩⟩
  refine CJ.ZqJ (hr c) h els (by rw[ZC];lia) (fun w i e M' K=>?_) (fun e M' K=>?_)
  ·simp![ZlR];exact⟨by decide +kernel,q2 (fun z=>by rw[z.2]at e;cases e) _ K⟩
  ·simp![Zk];exact q1 c e M' K
 ·simp![CG.F_look_round,CG.Zau,CG.ZdP h,h];refine Zdf ?_;simp![Zg4,ZlR];exact⟨⟨by decide +kernel,by decide +kernel⟩,by decide +kernel,q2 (fun z=>c z.1) M Kp.refl⟩
theorem ZbK(ha:As l)(hl:l.length<=900)(hb:Inf 19 l)(hr:∀rs,Zaa 0 l=some (prs rs)->3<=rs.length->CJ.Res (rs.map some) r)(q1:∀rs m M',Zaa 0 l=some (prs rs)->3<=rs.length->r=none->Kp M M'->M'[m]?=some (.lst (prs rs))->Q (.ref m) M')(q2:∀M',(∀rs,Zaa 0 l=some (prs rs)->¬(3<=rs.length/\r=none))->Kp M M'->E NT M'):wO (F_read_round [.str ⟨l.toArray⟩] M) Q E:=by
 simp![F_read_round,ZbG,ZbD];refine Zgo (by lia) fun M1 K1 l1 r1=>?_
 simp![r1];refine Zgn (k:=0) r1 (by lia) (fun w hw Q E M p1 p2=>?_) (fun L M2 e K2 r2=>?_) (fun M2 e K2=>q2 M2 (fun rs z=>by rw[e]at z;cases z) (K1.trans K2))
 ·refine Zgm (ha.spl hw) (aE (Zaj hw) (by lia)) (fun p M' e K=>p1 _ M' ?_ K) (fun M' e K=>p2 M' ?_ K)
  ·show(pairo w).map prD=_;rw[e];rfl
  ·show(pairo w).map prD=_;rw[e];rfl
 ·obtain⟨rs,rfl,er⟩:=ZjV e;have hbd:∀p∈rs,CB.Bd 1000000000000000000 p:=fun p hp=>by
   have:some p∈(spl 32 l).map pairo:=by rw[er];exact ii hp
   obtain⟨w,hw,e1⟩:=a9.mp this
   have:=Zhf (k:=18) e1 (hb.word hw)
   unfold CB.Bd;lia
  have ln:rs.length<=1000:=by
   have h1:=congrArg dQ er;have h2:=ZdY 32 l;rw[ae,ae]at h1;lia
  simp![Zk];refine ZhM r2 hbd ln (hr rs e) (fun c z M3 K3=>?_) (fun c M3 K3=>?_)
  ·simp![Zk];exact q1 rs _ M3 e c z (K1.trans (K2.trans K3)) (K3.get r2)
  ·simp![Zk];exact q2 M3 (fun rs' z=>by rw[e]at z;have:=Zc0 (aQ z);subst this;exact c) (K1.trans (K2.trans K3))
end K77
namespace K77
open L2 DL SX TZ PySem.NumText
open CV CI
noncomputable def en:Option D->D
 |none=>.non
 |some d=>d
theorem Zce(h:s.cps.toList=b):((⟨a.toArray⟩:Str)=s)=(a=b):=by
 apply propext;constructor
 ·intro z
  have:=congrArg (fun s:Str=>s.cps.toList) z
  rw[<-h]
  simpa using this
 ·rintro rfl;exact ZdC (by simpa using h.symm)
noncomputable def s1(c:Nat):D:=.str ⟨#[c]⟩
theorem Zl7{M:Sto}{c:Nat}:∀L:List Nat,eqs M (s1 c) (L.map s1)=some (L.map fun x=>decide (x=c))
 |[]=>rfl
 |a::L=>by
  show(match eqF 12 M (s1 a) (s1 c)with|some b=>(match eqs M (s1 c) (L.map s1)with|some bs=>some (b::bs)|none=>none)|none=>none)=_
  rw[Zl7 L]
  have:eqF 12 M (s1 a) (s1 c)=some (decide (a=c)):=by
   show some ((⟨#[a]⟩:Str)==⟨#[c]⟩)=_;congr 1;by_cases h:a=c
   ·subst h;simp
   ·rw[decide_eq_false h];exact beq_eq_false_iff_ne.mpr fun z=>h (by injection z with z;injection z with z;injection z)
  rw[this];rfl
theorem ZqU(h:M[n]?=some (.lst (ten.map s1))):inE (s1 c) (.ref n) M=some (ten.contains c):=by
 unfold inE
 have:Zcf M (.ref n)=some (ten.map s1):=by unfold Zcf;simp only[h]
 rw[this];simp only;rw[Zl7];simp only;congr 1;unfold ten;simp only[aL,dj,List.any_cons,List.any_nil,id,kC,eJ,List.contains_nil];rw[eQ];simp only[js,decide_eq_true_eq,beq_iff_eq];lia
noncomputable def Sol(d:D):Prop:=(∃i,d=.int i)\/∃xs,d=.tup xs
theorem Zgp{M:Sto}:∀{os:List (Option D)},(∀d,some d∈os->Sol d)->eqs M .non (os.map en)=some (os.map Option.isNone)
 |[],_=>rfl
 |none::r,h=>by
  show(match eqF 12 M .non .non with|some b=>(match eqs M .non (r.map en)with|some bs=>some (b::bs)|none=>none)|none=>none)=_
  rw[Zgp (os:=r) fun d hd=>h d (ak _ hd)];rfl
 |some d::r,h=>by
  show(match eqF 12 M d .non with|some b=>(match eqs M .non (r.map en)with|some bs=>some (b::bs)|none=>none)|none=>none)=_
  rw[Zgp (os:=r) fun d hd=>h d (ak _ hd)]
  have:eqF 12 M d .non=some false:=by
   rcases h d aO with⟨i,rfl⟩|⟨xs,rfl⟩<;>rfl
  rw[this];rfl
theorem ZjW{os:List (Option D)}(h:M[n]?=some (.lst (os.map en)))(hs:∀d,some d∈os->Sol d):inE .non (.ref n) M=some (ZaM os).isNone:=by
 unfold inE
 have:Zcf M (.ref n)=some (os.map en):=by unfold Zcf;simp only[h]
 rw[this];simp only;rw[Zgp hs];simp only;congr 1;cases e:ZaM os with
 |none=>
  rw[List.any_map,List.any_eq_true.mpr ⟨none,ZfR e,rfl⟩];rfl
 |some L=>
  rw[ZT e,bM];simp
section
variable {l:List Nat}
noncomputable def Ze5(l:List Nat):List Nat:=if l.head?=some 45/\l≠[45,48]then l.tail else l
theorem ZnO(l:List Nat):((1<=(Ze5 l).length/\(Ze5 l).length<=60/\(Ze5 l).all (fun c=>ten.contains c)=true)/\¬((Ze5 l).head?=some 48/\Ze5 l≠[48]))↔okn l:=by
 unfold okn Ze5;by_cases h:l.head?=some 45
 ·obtain⟨r,e1,e2⟩:=ZdQ h;rw[e2];by_cases c:l=[45,48]
  ·have:r=[48]:=by rw[e1]at c;simpa using c
   subst this;rw[if_neg (fun z=>z.2 c),e1];simp[ten]
  ·have hr:r≠[48]:=fun z=>c (by rw[e1,z])
   rw[if_pos ⟨h,c⟩,e1,List.tail_cons]
   have:(45::r)≠[48]:=by simp
   constructor
   ·rintro⟨a,b⟩;exact⟨a,fun z=>absurd ⟨z,hr⟩ b⟩
   ·rintro⟨a,b⟩;exact⟨a,fun z=>this (b z.1)⟩
 ·rw[ZdR h,if_neg (fun z=>h z.1)];constructor
  ·rintro⟨a,b⟩;exact⟨a,fun z=>cQ fun w=>b ⟨z,w⟩⟩
  ·rintro⟨a,b⟩;exact⟨a,fun z=>z.2 (b z.1)⟩
theorem Zk9(h:okn l):vln l=(digitsVal (Ze5 l):Nat)*(if Ze5 l=l then 1 else -1:Int):=by
 unfold vln Ze5;by_cases c:l.head?=some 45
 ·obtain⟨r,e1,e2⟩:=ZdQ c;have c2:l≠[45,48]:=fun z=>by
   rw[e1]at z
   have:r=[48]:=by simpa using z
   subst this
   have:=h.2 (by rw[e2];rfl)
   rw[e1]at this;simp at this
  rw[if_pos c,if_pos ⟨c,c2⟩,e2,e1,List.tail_cons,if_neg (by intro z;have:=congrArg dQ z;simp at this)]
  lia
 ·rw[if_neg c,ZdR c,if_neg (fun z=>c z.1),if_pos rfl];lia
theorem Zla:(l.take 1=[a])=(l.head?=some a):=by
 cases l with
 |nil=>simp
 |cons b r=>simp
theorem ZjX(l:List Nat):sgs ⟨l.toArray⟩=l.map s1:=by simp[sgs,s1]
theorem ZnP:∀c,ten.contains c=true->ba (PySem.Str.ofString "0123456789") ⟨#[c]⟩ 0 (PySem.Str.ofString "0123456789").length 1=[c-48]:=by
 intro c hc;have h:=(ZeV c).mp hc
 have:c=48\/c=49\/c=50\/c=51\/c=52\/c=53\/c=54\/c=55\/c=56\/c=57:=by lia
 rcases this with rfl|rfl|rfl|rfl|rfl|rfl|rfl|rfl|rfl|rfl<;>decide +kernel
theorem Zhg(ha:As l)(hl:l.length<=100000)(q:∀M',Kp M M'->Q (en ((numo l).map D.int)) M'):wO (F_law_number_in [.str ⟨l.toArray⟩] M) Q E:=by
 have e45:(PySem.Str.ofString "-").cps.toList=[45]:=by decide
 have e4548:(PySem.Str.ofString "-0").cps.toList=[45,48]:=by decide
 have e0:(PySem.Str.ofString "").cps.toList=[]:=by decide
 have e48:(PySem.Str.ofString "0").cps.toList=[48]:=by decide
 have c1:Zfc ⟨l.toArray⟩ none (some 1)=⟨(l.take 1).toArray⟩:=by unfold Zfc;simp
 have ok1:(⟨l.toArray⟩:Str).length<=100000/\okT ⟨l.toArray⟩ none (some 1):=⟨by rw[Zac];exact hl,by unfold okT;simp⟩
 have ok2:l.head?=some 45->(⟨l.toArray⟩:Str).length<=100000/\okT ⟨l.toArray⟩ (some 1) none:=fun h=>⟨by rw[Zac];exact hl,by
  unfold okT;cases l with
  |nil=>cases h
  |cons a r=>simp;lia⟩
 have c2:Zfc ⟨l.toArray⟩ (some 1) none=⟨l.tail.toArray⟩:=by unfold Zfc;cases l<;>simp
 simp![F_law_number_in,ZbI,ZfN,kL0,kL1,kL2,ZfO,ZfY,c1];refine⟨ok1,?_⟩;refine ZhF (fun b M'=>M'=M/\(b=true↔l.head?=some 45/\l≠[45,48])) ?_ ?_
 ·rw[decide_eq_decide.mpr (by rw[Zce e45,Zla]:((⟨(l.take 1).toArray⟩:Str)=PySem.Str.ofString "-")↔l.head?=some 45)]
  refine brO (fun c=>?_) (fun c=>?_)
  ·simp![ZfY,Zce e4548];simp[c]
  ·simp![Zk];simp[c]
 rintro b M1 ⟨rfl,hb⟩;refine ZnT (fun ρ M'=>M'=M1/\ρ=[some (.str ⟨l.toArray⟩),some (.str ⟨(Ze5 l).toArray⟩),none,none]) ?_ ?_
 ·refine Znl (fun c=>?_) (fun c=>?_)
  ·have hc:=hb.mp c;simp![ZfN,kL0,kL1,kL2,ZfO,c2];refine⟨ok2 hc.1,?_⟩;unfold Ze5;rw[if_pos hc]
  ·have hc:¬(l.head?=some 45/\l≠[45,48]):=fun z=>by rw[hb.mpr z]at c;cases c
   simp![Zk];unfold Ze5;rw[if_neg hc]
 rintro ρ M2 ⟨rfl,rfl⟩;have fo:=ZnO l;have fv:=Zk9 (l:=l);have fa:As (Ze5 l):=by
  unfold Ze5;split
  ·exact fun c hc=>ha c (List.mem_of_mem_tail hc)
  ·exact ha
 have fl:(Ze5 l).length<=100000:=by
  unfold Ze5;split
  ·rw[List.length_tail];lia
  ·exact hl
 have fne:decide ((⟨(Ze5 l).toArray⟩:Str)=⟨l.toArray⟩)=decide (Ze5 l=l):=decide_eq_decide.mpr (by rw[Zce (ZjR l)])
 clear hb ok1 ok2 c1 c2;generalize Ze5 l=g at *;simp![ZfY,Zce e0];refine ZhF (pB (¬(1<=g.length/\g.length<=60/\g.all (fun c=>ten.contains c)=true)) M2) ?_ ?_
 ·refine brO (fun c=>?_) (fun c=>?_)
  ·simp![Zk];exact pBi (by simp[c]) Kp.refl
  ·have g1:1<=g.length:=by cases g with|nil=>exact absurd rfl c|cons _ _=>simp
   simp![Zg5,Zac];refine⟨fl,?_⟩;refine brO (fun c2=>?_) (fun c2=>?_)
   ·simp![Zk];exact pBi (by simp;lia) Kp.refl
   ·simp![Znr,Zns,ZjX];refine⟨ZjJ fa,?_⟩;show wO (Zez (.pur (g.map s1)) _ _ _ M2.length (cnt (.pur (g.map s1)) M2) 0 _ (M2++[.lst []])) _ _;refine ZfJ (xs:=g.map s1) (fun i ρ M'=>(∃x,ρ=[x])/\Kp M2 M'/\M'[M2.length]?=some (.lst (((g.take i).filter fun c=> !ten.contains c).map s1))) _ 0 _ _ (by simp) (by simp[cnt]) ⟨⟨_,rfl⟩,Kp.app,by simp⟩ (fun i ρ M' hi hI=>rfl) ?_ ?_
    ·rintro i ρ M' hi ⟨⟨x,rfl⟩,K,r⟩;have hi':i<g.length:=by simpa using hi
     rw[bH];simp![ZqD];refine⟨by decide,?_⟩
     have e9:sgs (PySem.Str.ofString "0123456789")=ten.map s1:=by
      unfold sgs;rw[show(PySem.Str.ofString "0123456789").cps.toList=ten by decide]
      rfl
     rw[e9];have K4:Kp M' (M'++[SO.lst (ten.map s1)]):=Kp.app;rw[ZqU (M:=M'++[SO.lst (ten.map s1)]) (by simp)]
     have tk:g.take (i+1)=g.take i++[g[i]]:=by rw[jV,aq hi'];rfl
     generalize M'++[SO.lst (ten.map s1)]=M4 at K4 ⊢;simp![Zk];have r4:=K4.get r;have h4:=ZM r4;refine br (fun z=>?_) (fun z=>?_)
     ·simp![r4];have hlen:((g.take i).filter fun c=> !ten.contains c).length<=i:=aE (jA _ _) (by rw[bF];lia)
      refine⟨by lia,⟨_,rfl⟩,(K.trans K4).set (au _),?_⟩
      rw[tk,eM,cC];simp only[dC,z,List.filter_nil,if_true];rfl
     ·refine⟨⟨_,rfl⟩,K.trans K4,?_⟩;rw[r4,tk,eM];simp only[dC,z,List.filter_nil];simp
    ·rintro ρ M' ⟨-,K,r⟩;rw[ae,i8]at r;show kB1 _ _ _ _ _ (.ref M2.length) M';have h':=ZM r;have hq:eqF 12 (M'++[SO.lst []]) (.ref M2.length) (.ref M'.length)=some (decide (g.filter (fun c=> !ten.contains c)=[])):=by
      rw[ZkY (by rw[Zbg h'];exact r) (show(M'++[SO.lst []])[M'.length]?=some (.lst [])by simp)]
      cases g.filter (fun c=> !ten.contains c)<;>simp[eqL]
     simp![hq];refine pBi ?_ (K.trans Kp.app);rw[gz,decide_eq_false_iff_not,List.filter_eq_nil_iff];constructor
     ·intro h z;exact h fun c hc=>by rw[bh.mp z.2.2 c hc];simp
     ·intro h z;exact h ⟨g1,by lia,bh.mpr fun c hc=>by have:=z c hc;simpa using this⟩
 rintro b M3 ⟨hb,K3⟩;by_cases P:1<=g.length/\g.length<=60/\g.all (fun c=>ten.contains c)=true
 ·have hb':b=false:=by
   cases b with
   |false=>rfl
   |true=>exact absurd P (hb.mp rfl)
  subst hb';obtain⟨a,r,ef⟩:∃a r,g=a::r:=by
   cases h:g with
   |nil=>rw[h]at P;exact absurd P.1 (by decide)
   |cons a r=>exact⟨a,r,rfl⟩
  simp![Zk];refine Zk5 (c:=a) (by decide) (by simp[ef]) ?_
  simp![ZfY];have ea:(decide ((⟨#[a]⟩:Str)=PySem.Str.ofString "0"))=decide (a=48):=decide_eq_decide.mpr (by
   rw[show(⟨#[a]⟩:Str)=⟨[a].toArray⟩from rfl,Zce e48];simp)
  rw[ea];refine ZhF (pB (a=48/\g≠[48]) M3) ?_ ?_
  ·refine brO (fun c=>?_) (fun c=>?_)
   ·simp![ZfY,Zce e48];exact pBi (by simp[c]) Kp.refl
   ·simp![Zk];exact pBi (by simp[c]) Kp.refl
  rintro b M4 ⟨hb2,K4⟩;have hh:g.head?=some a:=by rw[ef];rfl
  cases b with
  |true=>
   simp![Zk];obtain⟨h1,h2⟩:=hb2.mp rfl
   have:numo l=none:=if_neg fun z=>(fo.mpr z).2 ⟨by rw[hh,h1],h2⟩
   rw[this]at q;exact q M4 (K3.trans K4)
  |false=>
   have ok:okn l:=fo.mp ⟨P,fun z=>by
    have:=hb2.mpr ⟨by rw[hh]at z;simpa using z.1,z.2⟩
    cases this⟩
   have nu:numo l=some (vln l):=if_pos ok;rw[nu,fv ok]at q;simp![Znr,Zns,ZjX];refine⟨ZjJ fa,?_⟩;refine ZlL (xs:=g.map s1) (fun i ρ M'=>(∃x,ρ=[some (.str ⟨l.toArray⟩),some (.str ⟨g.toArray⟩),some (.int (digitsVal (g.take i):Nat)),x])/\Kp M2 M') _ 0 _ _ (by simp) (by simp[cnt]) ⟨⟨none,rfl⟩,K3.trans K4⟩ (fun i ρ M hi hI=>rfl) ?_ ?_
   ·rintro i ρ M' hi ⟨⟨x,rfl⟩,K⟩;have hi':i<g.length:=by simpa using hi
    have hc:=bh.mp P.2.2 _ (aX hi');have h10:=(ZeV _).mp hc;rw[bH];have tk:digitsVal (g.take (i+1))=10*digitsVal (g.take i)+(g[i]-48):=by
     rw[jV,aq hi'];unfold digitsVal;rw[List.foldl_append];show _*10+(g[i]-48)=_;lia
    simp![ZaU,s1,ZcS,ZcR];refine Zs1 (ZnP _ hc) ?_;rw[tk];simp![Zk];exact⟨⟨some (.str ⟨#[g[i]]⟩),by rw[Int.natCast_add,Int.natCast_mul];rfl⟩,K⟩
   ·rintro ρ M' ⟨⟨x,rfl⟩,K⟩;rw[ae,i8];simp![ZfY,fne];have fin:=q (M'++[SO.lst [D.int 1,D.int (-1)]]) (K.trans Kp.app);by_cases c:g=l
    ·rw[if_pos c]at fin;rw[decide_eq_true c];show wG (some (D.int 1)) _;simp![Zk];exact fin
    ·rw[if_neg c]at fin;rw[decide_eq_false c];show wG (some (D.int (-1))) _;simp![Zk];exact fin
 ·have hb':b=true:=hb.mpr P;subst hb';simp![Zk]
  have:numo l=none:=if_neg fun z=>P (fo.mpr z).1
  rw[this]at q;exact q M3 K3
theorem Zhh(hM:M[n]?=some (.lst ((spl c l).map fun w=>D.str ⟨w.toArray⟩)))(ha:As l)(hl:l.length<=100000)(q:∀M',Kp M M'->M'[M.length]?=some (.lst (((spl c l).map fun w=>(numo w).map D.int).map en))->Q (.ref M.length) M'):kCo (gNm 0) (fun _ M=>.ok true M) (Zj F_law_number_in (Zc (Zg 0) aNil)) 1 [] ρ Q (.sto n) M:=by
 have s:=ZdY c l;refine CD.ZnU (fun ρ=>∃x,ρ=[x]) (fun i=>en ((numo ((spl c l).getD i [])).map D.int)) hM (by rw[ae];lia) ⟨_,rfl⟩ ?_ fun M2 K2 r2=>?_
 ·rintro i hi ρ M' K ⟨x,rfl⟩;have hi':i<(spl c l).length:=by simpa using hi
  have hw:(spl c l)[i]∈spl c l:=aX hi';rw[bH];simp![Zk];refine⟨⟨_,rfl⟩,Zhg (ha.spl hw) (aE (Zaj hw) hl) fun M2 K2=>?_⟩;rw[ZdU hi'];exact⟨rfl,K2⟩
 ·rw[ae,ZdT (spl c l) [] fun w=>en ((numo w).map D.int)]at r2;rw[bM]at q;exact q M2 K2 r2
theorem ZjY:∀d,some d∈(spl c l).map (fun w=>(numo w).map D.int)->Sol d:=fun d h=>by
 obtain⟨w,_,e⟩:=a9.mp h;cases e2:numo w with
 |none=>rw[e2]at e;cases e
 |some i=>rw[e2]at e;cases e;exact .inl ⟨i,rfl⟩
theorem Ze6:ZaM ((spl c l).map fun w=>(numo w).map D.int)=(ZaM ((spl c l).map numo)).map (i9 D.int):=by
 rw[<-ZeW,bM];rfl
theorem ZjZ{os:List (Option D)}(e0:os=(spl c l).map fun w=>(numo w).map D.int)(e:ZaM ((spl c l).map numo)=some L):os.map en=nts L:=by
 have e1:ZaM os=some (L.map D.int):=by rw[e0,Ze6,e];rfl
 rw[ZT e1,bM];simp[nts,en]
theorem ZdZ(ha:As l)(hl:l.length<=100000)(q:∀M',Kp M M'->Q (en ((pairo l).map prD)) M'):wO (F_law_pair_in [.str ⟨l.toArray⟩] M) Q E:=by
 simp![F_law_pair_in,ZcE,ZcS,ZcR];refine ZcZ CIr.ZdW (by decide) hl fun M1 K1 l1 r1=>?_
 simp![r1];refine Zhh (c:=44) r1 ha hl fun M2 K2 r2=>?_;have K3:=K1.trans K2;have sol:=ZjY (c:=44) (l:=l);generalize e0:(spl 44 l).map (fun w=>(numo w).map D.int)=os at *;have e1:ZaM os=(ZaM ((spl 44 l).map numo)).map (i9 D.int):=by rw[<-e0,Ze6]
 have hin:=ZjW r2 sol;have ln:os.length=(spl 44 l).length:=by rw[<-e0];simp
 simp![r2];refine ZhF (pB (pairo l=none) M2) ?_ ?_
 ·refine Zrh (fun c=>?_) (fun c=>?_)
  ·simp![Zk];refine pBi (by
    simp only[true_iff];unfold pairo;cases e:ZaM ((spl 44 l).map numo)with
    |none=>rfl
    |some L=>
     have:=congrArg dQ (ZT e)
     rw[ae,ae]at this
     match L,this with
     |[_,_],h=>exact absurd (by rw[ln,h];rfl) c
     |[],_=>rfl
     |[_],_=>rfl
     |_::_::_::_,_=>rfl) Kp.refl
  ·simp![hin];refine pBi ?_ Kp.refl;rw[e1];unfold pairo;cases e:ZaM ((spl 44 l).map numo)with
   |none=>simp
   |some L=>
    have:=congrArg dQ (ZT e)
    rw[ae,ae]at this
    match L,this with
    |[_,_],h=>simp
    |[],h=>rw[ln,h]at c;simp at c
    |[_],h=>rw[ln,h]at c;simp at c
    |_::_::_::_,h=>rw[ln,h]at c;simp at c;lia
 rintro b M3 ⟨hb,K4⟩;cases b with
 |true=>
  simp![Zk];rw[hb.mp rfl]at q;exact q M3 (K3.trans K4)
 |false=>
  have np:pairo l≠none:=fun z=>by have:=hb.mpr z;cases this
  unfold pairo at np q
  split at np
  ·rename_i a b e;rw[e]at q;rw[ZjZ e0.symm e]at r2;have r3:=K4.get r2;simp![r3,ZjI r3];exact q M3 (K3.trans K4)
  ·exact absurd rfl np
end
end K77
namespace K77
open L2 DL SX TZ PySem.NumText
open CV CI
open CR (rt)
theorem Zlb(hb:b≠0):(((bX a b hb).num,((bX a b hb).den:Int))=(a,(b:Int)))↔bq a b=1:=by
 rw[gS,gA,gB];have e:bq a b=a.natAbs.gcd b:=rfl;rw[e];constructor
 ·rintro⟨_,h⟩;have h:b/a.natAbs.gcd b=b:=by exact_mod_cast h
  rcases Nat.div_eq_self.mp h with h|h
  ·exact absurd h hb
  ·exact h
 ·intro h;rw[h];simp
section
variable {l:List Nat}{rs:List Pt}
theorem ZhN(ha:As l)(hl:l.length<=100000)(q:∀M',Kp M M'->Q (en ((ZP l).map prD)) M'):wO (F_law_ratio_in [.str ⟨l.toArray⟩] M) Q E:=by
 simp![F_law_ratio_in,Zb1,ZcS,ZcR];refine ZcZ ZdS (by decide) hl fun M1 K1 l1 r1=>?_
 simp![r1];refine Zhh (c:=47) r1 ha hl fun M2 K2 r2=>?_;have K3:=K1.trans K2;have sol:=ZjY (c:=47) (l:=l);generalize e0:(spl 47 l).map (fun w=>(numo w).map D.int)=os at *;have e1:ZaM os=(ZaM ((spl 47 l).map numo)).map (i9 D.int):=by rw[<-e0,Ze6]
 have hin:=ZjW r2 sol;have ln:os.length=(spl 47 l).length:=by rw[<-e0];simp
 simp![r2];refine ZhF (pB (2<os.length\/ZaM ((spl 47 l).map numo)=none) M2) ?_ ?_
 ·refine brO (fun c=>?_) (fun c=>?_)
  ·simp![Zk];exact pBi (by simp only[true_iff];left;lia) Kp.refl
  ·simp![hin];refine pBi ?_ Kp.refl;rw[e1];cases ZaM ((spl 47 l).map numo)<;>simp<;>lia
 rintro b M3 ⟨hb,K4⟩;have r3:=K4.get r2;cases e:ZaM ((spl 47 l).map numo)with
 |none=>
  have hb':b=true:=hb.mpr (.inr e);subst hb';simp![Zk]
  have:ZP l=none:=by unfold ZP;rw[e]
  rw[this]at q;exact q M3 (K3.trans K4)
 |some L=>
  have le:=congrArg dQ (ZT e);rw[ae,ae]at le;have sn:=ZbZ 47 l;rw[ZjZ e0.symm e]at r3;cases b with
  |true=>
   simp![Zk]
   have:ZP l=none:=by
    unfold ZP;rw[e]
    have:=(hb.mp rfl).resolve_right (by rw[e];simp)
    match L,le with
    |[_,_],h=>rw[ln,h]at this;simp at this
    |[_],h=>rw[ln,h]at this;simp at this
    |[],_=>rfl
    |_::_::_::_,_=>rfl
   rw[this]at q;exact q M3 (K3.trans K4)
  |false=>
   have l2:¬2<os.length:=fun z=>by have:=hb.mpr (.inl z);cases this
   simp![r3]
   match L,le with
   |[],h=>exact absurd (i4.mp h) sn
   |_::_::_::_,h=>rw[ln,h]at l2;simp at l2
   |[a],h=>
    have er:ZP l=some (a,1):=by unfold ZP;rw[e]
    rw[er]at q
    replace r3:M3[M1.length]?=some (.lst [.int a]):=r3
    simp![r3];exact q M3 (K3.trans K4)
   |[a,b],h=>
    have er:ZP l=if 2<=b/\bq a b=1 then some (a,b)else none:=by unfold ZP;rw[e]
    rw[er]at q
    replace r3:M3[M1.length]?=some (.lst [.int a,.int b]):=r3
    have ebm:some b∈(spl 47 l).map numo:=by rw[ZT e];simp
    obtain⟨w,hw,ew⟩:=a9.mp ebm;have bb:=Zgi (k:=61) ew (ZnM (by
     unfold numo at ew
     split at ew
     ·assumption
     ·cases ew))
    simp![r3,ZjI r3];refine brO (fun c=>?_) (fun c=>?_)
    ·simp![Zk];rw[if_neg (by lia)]at q
     exact q M3 (K3.trans K4)
    ·obtain⟨bn,rfl⟩:∃k:Nat,b=k:=⟨b.toNat,by lia⟩
     have bz:bn≠0:=by lia
     simp! -implicitDefEqProofs [r3];refine CR.ZnA (k:=210) bz (ay (by simpa using bb) (by decide)) (by decide) ?_
     have hq:eqF 12 M3 (rt (bX a bn bz)) (.tup [.int a,.int bn])=some (decide (bq a bn=1)):=by
      rw[show eqF 12 M3 (rt (bX a bn bz)) (.tup [.int a,.int bn])=some (decide (((bX a bn bz).num,((bX a bn bz).den:Int))=(a,(bn:Int))))from Zrg];rw[decide_eq_decide.mpr (Zlb bz)]
     simp! -implicitDefEqProofs [ZjI r3,hq];refine Ztp (fun c2=>?_) (fun c2=>?_)
     ·simp![Zk];rw[if_neg (fun z=>c2 z.2)]at q;exact q M3 (K3.trans K4)
     ·simp! -implicitDefEqProofs [ZjI r3];rw[if_pos ⟨by lia,c2⟩]at q
      exact q M3 (K3.trans K4)
noncomputable def TD(o:Option (List D))(d:D)(M:Sto):Prop:=match o with
 |none=>d=.non
 |some L=>∃m,d=.ref m/\M[m]?=some (.lst L)
theorem TD.up(h:TD o d M)(K:Kp M M'):TD o d M':=by
 cases o with
 |none=>exact h
 |some L=>obtain⟨m,a,b⟩:=h;exact⟨m,a,K.get b⟩
theorem Zlc:∀d,some d∈(spl 32 l).map (item k)->Sol d:=fun d h=>by
 obtain⟨w,_,e⟩:=a9.mp h
 match k,e with
 |0,e=>
  replace e:(pairo w).map prD=some d:=e
  cases e2:pairo w with
  |none=>rw[e2]at e;cases e
  |some i=>rw[e2]at e;cases e;exact .inr ⟨_,rfl⟩
 |1,e=>
  replace e:(ZP w).map prD=some d:=e
  cases e2:ZP w with
  |none=>rw[e2]at e;cases e
  |some i=>rw[e2]at e;cases e;exact .inr ⟨_,rfl⟩
 |_+2,e=>
  replace e:(numo w).map D.int=some d:=e
  cases e2:numo w with
  |none=>rw[e2]at e;cases e
  |some i=>rw[e2]at e;cases e;exact .inl ⟨_,rfl⟩
theorem ZbL(hc:dP c [(PySem.Str.ofString "_law_pair_in",F_law_pair_in),(PySem.Str.ofString "_law_ratio_in",F_law_ratio_in),(PySem.Str.ofString "_law_number_in",F_law_number_in)]=some F)(ha:As l)(hl:l.length<=100000)(hF:∀w∈spl 32 l,∀{Q:W0}{E:W2}{M:Sto},(∀M',Kp M M'->Q (en (item k w)) M')->wO (F [.str ⟨w.toArray⟩] M) Q E)(q:∀d M',Kp M M'->TD (Zaa k l) d M'->Q d M'):wO (F_law_list_in [.str ⟨l.toArray⟩,.fn c] M) Q E:=by
 simp![F_law_list_in,ZcF,ZcS,ZcR];refine ZcZ Zcd (by decide) hl fun M1 K1 l1 r1=>?_
 simp![r1];have s:=ZdY 32 l;refine CD.ZnU (fun ρ=>∃x,ρ=[x,some (.fn c)]) (fun i=>en (item k ((spl 32 l).getD i []))) r1 (by rw[ae];lia) ⟨_,rfl⟩ ?_ fun M2 K2 r2=>?_
 ·rintro i hi ρ M' K ⟨x,rfl⟩;have hi':i<(spl 32 l).length:=by simpa using hi
  have hw:(spl 32 l)[i]∈spl 32 l:=aX hi';rw[bH];simp![Zk];refine⟨⟨_,rfl⟩,?_⟩;rw[Zu2 (c:=c) rfl hc];simp![Zk];refine hF _ hw fun M2 K2=>?_;rw[ZdU hi'];exact⟨rfl,K2⟩
 ·rw[ae,ZdT (spl 32 l) [] fun w=>en (item k w)]at r2;have r2':M2[M1.length]?=some (.lst (((spl 32 l).map (item k)).map en)):=by rw[bM];exact r2
  have hin:=ZjW r2' Zlc;have K3:=K1.trans K2;simp![hin];cases e:Zaa k l with
  |none=>
   unfold Zaa at e;rw[e];simp![Zk];exact q _ M2 K3 (by unfold Zaa;rw[e];rfl)
  |some L=>
   unfold Zaa at e;rw[e];simp![Zk];rw[ZT e,bM]at r2';rw[show(en∘some:D->D)=id from rfl,List.map_id]at r2';exact q _ M2 K3 (by unfold Zaa;rw[e];exact⟨_,rfl,r2'⟩)
inductive ResT:Nat->List Nat->Option (List D)->Prop where
 |dash:ResT 2 [45] (some [])
 |row {l:List Nat}:l≠[45]->ResT 2 l (Zaa 2 l)
 |height {l:List Nat}:ResT 1 l (Zaa 1 l)
 |bad {l:List Nat}:Zaa 0 l=none->ResT 0 l none
 |short {l:List Nat} {rs:List Pt}:Zaa 0 l=some (prs rs)->rs.length<3->ResT 0 l none
 |round {l:List Nat} {rs:List Pt} {r:Option (Str×Nat)}:Zaa 0 l=some (prs rs)->3<=rs.length->CJ.Res (rs.map some) r->ResT 0 l (if r=none then some (prs rs)else none)
theorem ResT.ex(k:Nat)(l:List Nat)(hk:k<3):∃o,ResT k l o:=by
 match k,hk with
 |0,_=>
  cases e:Zaa 0 l with
  |none=>exact⟨_,.bad e⟩
  |some L=>
   obtain⟨rs,rfl,_⟩:=ZjV e;by_cases c:rs.length<3
   ·exact⟨_,.short e c⟩
   ·obtain⟨r,hr⟩:=CJ.Res.ex (rs.map some);exact⟨_,.round e (by lia) hr⟩
 |1,_=>exact⟨_,.height⟩
 |2,_=>
  by_cases c:l=[45]
  ·subst c;exact⟨_,.dash⟩
  ·exact⟨_,.row c⟩
theorem Zj0:F_law_fault=CJ.F_law_fault:=rfl
theorem Zld{rs:List Pt}(hb:Inf 19 l)(hl:l.length<=900)(e:Zaa 0 l=some (prs rs)):(∀p∈rs,CB.Bd 1000000000000000000 p)/\rs.length<=1000:=by
 obtain⟨rs',e1,er⟩:=ZjV e;obtain rfl:=Zc0 e1;constructor
 ·intro p hp
  have:some p∈(spl 32 l).map pairo:=by rw[er];exact ii hp
  obtain⟨w,hw,e1⟩:=a9.mp this
  have:=Zhf (k:=18) e1 (hb.word hw)
  unfold CB.Bd;lia
 ·have h1:=congrArg dQ er;have h2:=ZdY 32 l;rw[ae,ae]at h1;lia
theorem Zs4(hk:k<3)(hr:ResT k l o)(ha:As l)(hl:l.length<=100000)(h0:k=0->Inf 19 l/\l.length<=900)(q:∀d M',Kp M M'->TD o d M'->Q d M'):wO (F_law_due [.int k,.str ⟨l.toArray⟩] M) Q E:=by
 have e45:(PySem.Str.ofString "-").cps.toList=[45]:=by decide
 cases hr with
 |dash=>
  have e:decide ((⟨#[45]⟩:Str)=PySem.Str.ofString "-")=true:=by decide
  simp![F_law_due,ZaL,ZfY,e];exact q _ _ Kp.app ⟨_,rfl,by simp⟩
 |row c=>
  simp![F_law_due,ZaL,ZfY,Zce e45,c];refine ZbL (k:=2) (F:=F_law_number_in) rfl ha hl (fun w hw Q E M p=>Zhg (ha.spl hw) (aE (Zaj hw) hl) p) fun d M2 K2 td=>?_;simp![Zk];exact q _ M2 (Kp.app.trans K2) td
 |height=>
  simp![F_law_due,ZaL,ZfY];refine ZbL (k:=1) (F:=F_law_ratio_in) rfl ha hl (fun w hw Q E M p=>ZhN (ha.spl hw) (aE (Zaj hw) hl) p) fun d M2 K2 td=>?_;simp![Zk];exact q _ M2 (Kp.app.trans K2) td
 |bad e=>
  simp![F_law_due,ZaL,ZfY];refine ZbL (k:=0) (F:=F_law_pair_in) rfl ha hl (fun w hw Q E M p=>ZdZ (ha.spl hw) (aE (Zaj hw) hl) p) fun d M2 K2 td=>?_;rw[e]at td
  have:d=.non:=td
  subst this;simp![Zk];exact q _ M2 (Kp.app.trans K2) rfl
 |short e c=>
  simp![F_law_due,ZaL,ZfY];refine ZbL (k:=0) (F:=F_law_pair_in) rfl ha hl (fun w hw Q E M p=>ZdZ (ha.spl hw) (aE (Zaj hw) hl) p) fun d M2 K2 td=>?_;rw[e]at td;obtain⟨m,rfl,r⟩:=td;simp![Zj0,CJ.F_law_fault,CJ.Zai,CG.ZdP r,r];exact q _ M2 (Kp.app.trans K2) rfl
 |@round l rs r e c hr=>
  obtain⟨hb,hn⟩:=Zld (h0 rfl).1 (h0 rfl).2 e;simp![F_law_due,ZaL,ZfY];refine ZbL (k:=0) (F:=F_law_pair_in) rfl ha hl (fun w hw Q E M p=>ZdZ (ha.spl hw) (aE (Zaj hw) hl) p) fun d M2 K2 td=>?_;rw[e]at td;obtain⟨m,rfl,rr⟩:=td;have els:CJ.Els M2 (prs rs) (rs.map some):=⟨by rw[ZC,ae],fun i a b=>by
   have b':i<rs.length:=by simpa using b
   rw[bH];exact⟨by simp[prs],hb _ (aX b')⟩⟩
  simp![Zj0];refine CJ.ZnJ hr rr els (by rw[ZC];lia) ?_
  cases r with
  |none=>
   simp![CJ.enc];exact q _ M2 (Kp.app.trans K2) ⟨m,rfl,rr⟩
  |some p=>
   simp![CJ.enc];exact q _ M2 (Kp.app.trans K2) rfl
end
end K77
namespace K77
open L2 DL SX TZ PySem.NumText
open CV CI
theorem Zj1(q:∀L,(M++L)[M.length+7]?=some (.lst [.int 13])->Q (.ref (M.length+7)) (M++L)):wO (F_law_classes [.err NT es] M) Q E:=by
 have ne:(PySem.Str.ofString "NoText"==PySem.Str.ofString "NoRound")=false:=by decide
 have lk:∀a b:Bool,dP NT [(PySem.Str.ofString "NoRound",a),(NT,b)]=some b:=fun a b=>by
  unfold NT;simp[dP,ne]
 obtain⟨L,e1,e2⟩:=ZhE (es:=es) (M:=M) (h0:=lk false false) (h1:=lk false false) (h2:=lk true false) (h3:=lk false false) (h4:=lk false false) (h5:=lk false false) (h6:=lk false false) (h7:=lk false false) (h8:=lk false false) (h9:=lk false false) (h10:=lk false false) (h11:=lk false false) (h12:=lk false false) (h13:=lk false true) (h14:=lk false false) (lk true true);have e:F_law_classes [.err NT es] M=_:=e1;rw[e];exact q L e2
theorem ZcH{k:Nat}(hk:(k=0/\F=F_read_round)\/(k=1/\F=F_read_height)\/(k=2/\F=F_read_row))(hF:∀{M':Sto}{Q:W0}{E:W2},Kp M M'->(∀m L M2,o=some L->Kp M' M2->M2[m]?=some (.lst L)->Q (.ref m) M2)->(∀M2,o=none->Kp M' M2->E NT M2)->wO (F [d] M') Q E)(q:∀d M',Kp M M'->TD o d M'->Q d M'):wO (F_law_told [.int k,d] M) Q E:=by
 have hx:∀M2 es,wO (F_law_classes [.err NT es] M2) (fun v M3=>∃p,v=.ref p/\M3[p]?=some (.lst [.int 13])/\Kp M2 M3) (fun _ _=>False):=fun M2 es=>Zj1 fun L r=>⟨_,rfl,r,Kp.app⟩;have fin:∀p M3,M3[p]?=some (.lst [.int 13])->eqF 12 (M3++[SO.lst [.int 13]]) (.ref p) (.ref M3.length)=some true:=fun p M3 r=>by
  rw[ZkY (by rw[Zbg (ZM r)];exact r) (show(M3++[SO.lst [.int 13]])[M3.length]?=some (.lst [.int 13])by simp)]
  rfl
 rcases hk with⟨rfl,rfl⟩|⟨rfl,rfl⟩|⟨rfl,rfl⟩
 all_goals
  simp![F_law_told,Zel,ZnE,Zs0];show wG (some _) _;refine hF Kp.app (fun m L M2 e K r=>q _ M2 (Kp.app.trans K) (by rw[e];exact⟨m,rfl,r⟩)) (fun M2 e K=>?_)
  have K2:Kp M M2:=Kp.app.trans K;simp![Zk];refine⟨by decide,?_⟩
  refine Zb7 (hx _ _) (fun v M3 hv=>?_) (fun _ _ z=>z.elim);obtain⟨p,rfl,r,K3⟩:=hv;have r2:M3[M2.length]?=some (.lst [.str (PySem.Str.ofString "another refusal"),.non]):=K3.get (by simp)
  have K4:Kp M (M3++[SO.lst [.int 13]]):=K2.trans (Kp.app.trans (K3.trans Kp.app));have r4:(M3++[SO.lst [.int 13]])[M2.length]?=some (.lst [.str (PySem.Str.ofString "another refusal"),.non]):=by rw[Zbg (ZM r2)];exact r2
  simp![fin p M3 r,r4,if_pos];exact q .non _ K4 (by rw[e];rfl)
theorem Zhi(hk:k<3)(hr:ResT k l o)(ha:As l)(hl:l.length<=100000)(h0:k=0->Inf 19 l/\l.length<=900)(q:∀d M',Kp M M'->TD o d M'->Q d M'):wO (F_law_told [.int k,.str ⟨l.toArray⟩] M) Q E:=by
 cases hr with
 |dash=>
  refine ZcH (F:=F_read_row) (.inr (.inr ⟨rfl,rfl⟩)) (fun K p1 p2=>?_) q;exact ZjU fun m M' K r=>p1 m [] M' rfl K r
 |row c=>
  refine ZcH (F:=F_read_row) (.inr (.inr ⟨rfl,rfl⟩)) (fun K p1 p2=>?_) q;exact ZhL ha hl c (fun L m M' e K r=>p1 m L M' e K r) p2
 |height=>
  refine ZcH (F:=F_read_height) (.inr (.inl ⟨rfl,rfl⟩)) (fun K p1 p2=>?_) q;exact Ze4 ha hl (fun L m M' e K r=>p1 m L M' e K r) p2
 |bad e=>
  refine ZcH (F:=F_read_round) (.inl ⟨rfl,rfl⟩) (fun K p1 p2=>?_) q;exact ZbK (r:=none) ha (h0 rfl).2 (h0 rfl).1 (fun rs z=>by rw[e]at z;cases z) (fun rs m M' z=>by rw[e]at z;cases z) (fun M' _ K=>p2 M' rfl K)
 |short e c=>
  refine ZcH (F:=F_read_round) (.inl ⟨rfl,rfl⟩) (fun K p1 p2=>?_) q;refine ZbK (r:=none) ha (h0 rfl).2 (h0 rfl).1 (fun rs z hc=>?_) (fun rs m M' z hc=>?_) (fun M' _ K=>p2 M' rfl K)
  ·rw[e]at z
   have:=Zc0 (aQ z)
   subst this;lia
  ·rw[e]at z
   have:=Zc0 (aQ z)
   subst this;lia
 |@round l rs r e c hr=>
  refine ZcH (F:=F_read_round) (.inl ⟨rfl,rfl⟩) (fun K p1 p2=>?_) q;refine ZbK (r:=r) ha (h0 rfl).2 (h0 rfl).1 (fun rs z hc=>?_) (fun rs m M' z hc hn K r=>?_) (fun M' hn K=>p2 M' ?_ K)
  ·rw[e]at z
   have:=Zc0 (aQ z)
   subst this;exact hr
  ·rw[e]at z
   have:=Zc0 (aQ z)
   subst this;exact p1 m _ M' (if_pos hn) K r
  ·exact if_neg fun z=>hn rs e ⟨c,z⟩
def Zs5(o:Option (List D)):Prop:=∀L,o=some L->∀x∈L,(∃i,x=.int i)\/∃a b:Int,x=pr a b
theorem Zs6(hf:Zs5 o)(h1:TD o d M)(h2:TD o e M):eqF 12 M d e=some true:=by
 cases o with
 |none=>cases h1;cases h2;rfl
 |some L=>
  obtain⟨m,rfl,r1⟩:=h1;obtain⟨m',rfl,r2⟩:=h2;rw[ZkY r1 r2,if_pos rfl];refine CO.Zha fun x hx=>?_;rcases hf L rfl x hx with⟨i,rfl⟩|⟨a,b,rfl⟩
  ·rw[ZfM,decide_eq_true rfl]
  ·rw[Zrg,decide_eq_true rfl]
theorem Zd0:Zs5 (Zaa k l):=fun L e x hx=>by
 unfold Zaa at e
 have:some x∈(spl 32 l).map (item k):=by rw[ZT e];exact ii hx
 obtain⟨w,_,e2⟩:=a9.mp this
 match k,e2 with
 |0,e=>
  replace e:(pairo w).map prD=some x:=e
  cases e2:pairo w with
  |none=>rw[e2]at e;cases e
  |some i=>rw[e2]at e;cases e;exact .inr ⟨_,_,rfl⟩
 |1,e=>
  replace e:(ZP w).map prD=some x:=e
  cases e2:ZP w with
  |none=>rw[e2]at e;cases e
  |some i=>rw[e2]at e;cases e;exact .inr ⟨_,_,rfl⟩
 |_+2,e=>
  replace e:(numo w).map D.int=some x:=e
  cases e2:numo w with
  |none=>rw[e2]at e;cases e
  |some i=>rw[e2]at e;cases e;exact .inl ⟨_,rfl⟩
theorem Zle(h:ResT k l o):Zs5 o:=by
 cases h with
 |dash=>intro L e x hx;cases e;simp at hx
 |row _=>exact Zd0
 |height=>exact Zd0
 |bad _=>intro L e;cases e
 |short _ _=>intro L e;cases e
 |@round l rs r e _ _=>
  intro L e2
  split at e2
  ·exact Zd0 L (e.trans e2)
  ·cases e2
theorem Ze7(hw:w∈spl 32 l)(h:item k w=none)(hd:l≠[45])(hk:k<3):ResT k l none:=by
 have e:Zaa k l=none:=Zg9 (a9.mpr ⟨w,hw,h⟩)
 match k,hk,e with
 |0,_,e=>exact .bad e
 |1,_,e=>have:=ResT.height (l:=l);rw[e]at this;exact this
 |2,_,e=>have:=ResT.row hd;rw[e]at this;exact this
theorem Ze8(hk:k<3):item k []=none:=by
 have n:numo []=none:=by decide
 match k,hk with
 |0,_=>show(pairo []).map prD=none;unfold pairo;simp[spl,n,ZaM]
 |1,_=>show(ZP []).map prD=none;unfold ZP;simp[spl,n,ZaM]
 |2,_=>show(numo []).map D.int=none;rw[n];rfl
theorem Zlf{k:Nat}(hk:k<3)(ht:∀M',Kp M M'->ZO M' d=some t)(hs:Zbs t "str"=false)(he:∀M',Kp M M'->eqF 12 M' d (.str (PySem.Str.ofString "-"))=some false)(q:∀M',Kp M M'->Q .non M'):wO (F_law_told [.int k,d] M) Q E:=by
 have hw:∀{M':Sto}{Q:W0}{E:W2},Kp M M'->E NT M'->wO (CI.F_words_of [d] M') Q E:=fun K p=>by
  simp![CI.F_words_of,CI.ZbT,ht _ K,hs];exact p
 have q':∀d' M',Kp M M'->TD none d' M'->Q d' M':=fun d' M' K z=>by cases z;exact q M' K
 match k,hk with
 |0,_=>
  refine ZcH (F:=F_read_round) (o:=none) (.inl ⟨rfl,rfl⟩) (fun{M'} {Q} {E} K p1 p2=>?_) q';simp![F_read_round,ZbG,ZbD];exact hw K (p2 M' rfl Kp.refl)
 |1,_=>
  refine ZcH (F:=F_read_height) (o:=none) (.inr (.inl ⟨rfl,rfl⟩)) (fun{M'} {Q} {E} K p1 p2=>?_) q';simp![F_read_height,Zbm,ZbD];exact hw K (p2 M' rfl Kp.refl)
 |2,_=>
  refine ZcH (F:=F_read_row) (o:=none) (.inr (.inr ⟨rfl,rfl⟩)) (fun{M'} {Q} {E} K p1 p2=>?_) q';simp![F_read_row,ZbU,ZbD,he M' K];exact hw K (p2 M' rfl Kp.refl)
end K77
namespace K77
open L2 DL SX TZ PySem.NumText
open CR (rt Sz)
open CH (rts ZU Z0)
open CN CU CV CI CIr
section
variable {l:List Nat}{b:Nat}
theorem Zlg{many:Nat}(hm:many<=1000)(hb:Bag n M)(q:∀hs m M',hs.length=many->(∀x∈hs,Sz 42 x)->M.length<=m->M'[m]?=some (.lst (rts hs))->Gr n M M'->Q (.ref m) M'):wO (F_law_height [.ref n,.int many] M) Q E:=by
 have hn:=hb.lt;simp! -implicitDefEqProofs [F_law_height,Zc9];refine CA.ZB hb (by decide) fun kd M1 k0 k1 g1=>?_
 have hn1:=g1.bag.lt;have gl1:=g1.len;simp! -implicitDefEqProofs [Zk];refine⟨by lia,?_⟩
 rw[show((many:Int)).toNat=many by lia]
 have r0:(M1++[SO.lst []])[M1.length]?=some (.lst (rts [])):=by simp[rts]
 have G0:Gr n M (M1++[SO.lst []]):=g1.app2 _;have mne:M1.length≠n/\M.length<=M1.length:=by lia
 generalize M1++[SO.lst []]=M1' at r0 G0 ⊢;generalize M1.length=mf at r0 mne ⊢;refine Zb0 (fun i ρ M'=>∃hs x4 x5 x6,ρ=[some (.ref n),some (.int many),some (.int kd),some (.ref mf),x4,x5,x6]/\hs.length=i/\(∀x∈hs,Sz 42 x)/\M'[mf]?=some (.lst (rts hs))/\Gr n M M') ⟨[],_,_,_,rfl,rfl,by simp,r0,G0⟩ ?_ ?_
 ·rintro i ρ M2 hi ⟨hs,x4,x5,x6,rfl,hl,hz,r2,gr⟩;simp! -implicitDefEqProofs [ZbH];refine CA.ZB gr.bag (by decide) fun t M3 t0 t1 g3=>?_
  have r3:=CA.Gr.up r2 g3 mne.1;have gr3:=gr.trans g3;simp! -implicitDefEqProofs [Zk];refine ZhF (fun _ M'=>M'=M3) ?_ ?_
  ·refine brO (fun z=>?_) (fun z=>?_)
   ·simp! -implicitDefEqProofs [Zk]
   ·simp! -implicitDefEqProofs [Zk]
  rintro b M3 rfl;simp! -implicitDefEqProofs [Zk];refine ZnT (fun ρ M'=>∃bo x4,ρ=[some (.ref n),some (.int many),some (.int kd),some (.ref mf),x4,some (.int (t-6)),some (.int bo)]/\(1<=bo/\bo<=12)/\M'[mf]?=some (.lst (rts hs))/\Gr n M M') ?_ ?_
  ·refine Znl (fun z=>?_) (fun z=>?_)
   ·simp! -implicitDefEqProofs [Zk];refine CA.ZB gr3.bag (by decide) fun u M4 u0 u1 g4=>?_
    simp! -implicitDefEqProofs [Zk];exact⟨_,_,rfl,by lia,CA.Gr.up r3 g4 mne.1,gr3.trans g4⟩
   ·simp! -implicitDefEqProofs [Zk];exact⟨_,_,rfl,by lia,r3,gr3⟩
  rintro _ M4 ⟨bo,x4,rfl,hbo,r4,gr4⟩;simp! -implicitDefEqProofs [Zk];refine ZnT (fun ρ M'=>∃tp bo x4,ρ=[some (.ref n),some (.int many),some (.int kd),some (.ref mf),x4,some (.int tp),some (.int bo)]/\(1<=bo/\bo<=1000000000000)/\(-1000000000000<=tp/\tp<=1000000000000)/\M'[mf]?=some (.lst (rts hs))/\Gr n M M') ?_ ?_
  ·refine brS (fun z=>?_) (fun z=>?_)
   ·simp! -implicitDefEqProofs [Zk];refine CA.ZB gr4.bag (by decide) fun a M5 a0 a1 g5=>?_
    simp! -implicitDefEqProofs [Zk];refine CA.ZB g5.bag (by decide) fun b M6 b0 b1 g6=>?_
    have gr6:=(gr4.trans g5).trans g6;have r6:=CA.Gr.up (CA.Gr.up r4 g5 mne.1) g6 mne.1;simp! -implicitDefEqProofs [Zk];exact⟨_,_,_,rfl,by lia,by lia,r6,gr6⟩
   ·simp! -implicitDefEqProofs [Zk];exact⟨_,_,_,rfl,by lia,by lia,r4,gr4⟩
  rintro _ M5 ⟨tp,bo,x4,rfl,hbo,htp,r5,gr5⟩;simp! -implicitDefEqProofs [Zk];refine ZnT (fun ρ M'=>∃tp x4,ρ=[some (.ref n),some (.int many),some (.int kd),some (.ref mf),x4,some (.int tp),some (.int bo)]/\(-1000000000000<=tp/\tp<=1000000000000)/\M'=M5) ?_ ?_
  ·refine brS (fun z=>?_) (fun z=>?_)
   ·simp! -implicitDefEqProofs [Zk];refine⟨_,_,rfl,?_⟩
    split<;>lia
   ·simp! -implicitDefEqProofs [Zk];exact⟨_,_,rfl,by lia⟩
  rintro _ M5 ⟨tp,x4,rfl,htp,rfl⟩;obtain⟨bn,rfl⟩:∃k:Nat,bo=k:=⟨bo.toNat,by lia⟩
  have bz:bn≠0:=by lia
  simp! -implicitDefEqProofs [r5];refine CR.ZnA (k:=42) bz (by lia) (by decide) ?_
  have sz:=CR.ZnB (t:=tp) (k:=42) bz (by lia) (by lia)
  have hr5:=ZM r5;simp! -implicitDefEqProofs [r5,ZU];refine⟨by lia,?_⟩
  have e:rts hs++[rt (bX tp bn bz)]=rts (hs++[bX tp bn bz]):=Z0;refine⟨hs++[bX tp bn bz],_,_,_,rfl,by simp[hl],?_,?_,?_⟩
  ·intro x hx;rcases bC.mp hx with h|h
   ·exact hz x h
   ·simp at h;rw[h];exact sz
  ·rw[<-e]
  ·obtain⟨l,bg,kp⟩:=gr5;refine⟨by rw[cB];exact l,?_,fun k hk hkl=>?_⟩
   ·obtain⟨a,b,h,hx⟩:=bg;exact⟨a,b,h,by rw[aG mne.1];exact hx⟩
   ·rw[aG (by lia)]
    exact kp k hk hkl
 ·rintro ρ M2 ⟨hs,x4,x5,x6,rfl,hl,hz,r2,gr⟩;simp! -implicitDefEqProofs [Zk];exact q hs mf M2 hl hz mne.2 r2 gr
theorem Ze9(h:Sx6 q)(q':Q (.str (rtx q)) M):wO (F_law_ratio_text [rt q] M) Q E:=by
 have h1:=h.n;have h2:(q.den:Int).natAbs<10^60:=by simpa using h.d
 have h3:=Zgh h;have l1:=Zc3 h1;have l2:=Zc3 h2;have l3:(PySem.Str.ofString "/").length=1:=by rw[ZaN,ZdS];rfl
 have g1:=ZfT h1;have g2:=ZfT h2;unfold rtx at q' h3;simp![F_law_ratio_text,Zbp];refine brS (fun c=>?_) (fun c=>?_)
 ·rw[if_pos (by lia)]at q'
  simp![Zk4];exact⟨g1,q'⟩
 ·rw[if_neg (by lia)]at q' h3
  simp![Zk4,Zcy,ZcX,l3];exact⟨g1,by lia,g2,by lia,q'⟩
theorem Zd6(h:M[n]?=some (.lst (rts hs)))(hl:hs.length<=100)(hz:∀x∈hs,Sx6 x)(q:∀M',Kp M M'->Q (.str (htx hs)) M'):wO (F_law_height_text [.ref n] M) Q E:=by
 simp![F_law_height_text,Za4,ZcS,ZcR];refine Zqp (fun ρ=>∃x,ρ=[x]) (fun i=>D.str (rtx (hs.getD i 0))) h (by rw[ZU];lia) ⟨_,rfl⟩ ?_ ?_
 ·rintro j hj ρ L ⟨x,rfl⟩;rw[ZqN];rw[ZU]at hj;simp![Zk];refine⟨⟨_,rfl⟩,Ze9 (hz _ (aX _)) ?_⟩;rw[ZdU hj];exact⟨rfl,rfl⟩
 ·rw[ZU,ZdT hs 0 fun q=>D.str (rtx q)];have r:(M++[SO.lst (hs.map fun q=>D.str (rtx q))])[M.length]?=some (.lst ((hs.map rtx).map D.str)):=by simp
  simp![Zk];refine Zqr r ⟨hs.map rtx,ZeQ _,Zcz (b:=123) (by rw[ZaN,Zcd];decide) ?_ ?_,q _ Kp.app⟩
  ·intro x hx;obtain⟨y,hy,rfl⟩:=a9.mp hx;exact Zgh (hz y hy)
  ·rw[ae];lia
theorem Zgq(h:M[n]?=some (.lst (nts ns)))(hl:ns.length<=1000)(hz:∀x∈ns,x.natAbs<10^60)(q:∀M',Kp M M'->Q (.str (wtx ns)) M'):wO (F_law_row_text [.ref n] M) Q E:=by
 have hn:=ZM h;simp![F_law_row_text,Zb2,ZcS,ZcR];refine Zqp (fun ρ=>∃x,ρ=[x]) (fun i=>D.str (tx (ns.getD i 0))) h (by rw[ZbA];lia) ⟨_,rfl⟩ ?_ ?_
 ·rintro j hj ρ L ⟨x,rfl⟩;have hj':j<ns.length:=by rw[ZbA]at hj;exact hj
  have e:(nts ns)[j]=.int ns[j]:=by simp[nts]
  rw[e];have g:=ZfT (hz _ (aX hj'));simp![Zk4];refine⟨⟨_,rfl⟩,g,?_⟩;rw[ZdU hj']
 ·rw[ZbA,ZdT ns 0 fun q=>D.str (tx q)];have r1:(M++[SO.lst (ns.map fun q=>D.str (tx q))])[M.length]?=some (.lst ((ns.map tx).map D.str)):=by simp
  have r2:(M++[SO.lst (ns.map fun q=>D.str (tx q))])[n]?=some (.lst (nts ns)):=by rw[Zbg hn];exact h
  have K1:Kp M (M++[SO.lst (ns.map fun q=>D.str (tx q))]):=Kp.app;generalize M++[SO.lst (ns.map fun q=>D.str (tx q))]=M1 at r1 r2 K1 ⊢;have hn1:=ZM r2;have hm1:=ZM r1;have hq:eqF 12 (M1++[SO.lst [D.str (PySem.Str.ofString "-")],SO.lst []]) (.ref n) (.ref (M1.length+1))=some (decide (ns=[])):=Zsa (ss:=[]) (by rw[Zbg hn1];exact r2) (by rw[Zg2];rfl)
  unfold wtx at q;by_cases c:ns=[]
  ·rw[if_pos c]at q;have hq1:=hq;rw[decide_eq_true c]at hq1;subst c;simp![hq1,r1];rw[show((if True then(1:Int)else 0))=1 from rfl];refine⟨by decide,by decide,?_⟩
   refine Zqr (xs:=[D.str (PySem.Str.ofString "-")]) (by rw[Zg2];rfl) ⟨[PySem.Str.ofString "-"],rfl,by decide,?_⟩
   exact q _ (K1.trans Kp.app)
  ·rw[if_neg c]at q;rw[decide_eq_false c]at hq;simp![hq,r1];rw[show((if false=true then(1:Int)else 0))=0 from rfl];refine⟨by decide,by simp;lia,?_⟩
   refine Zqr (xs:=(ns.map tx).map D.str) (by rw[Zg2];simp) ⟨ns.map tx,ZeQ _,Zcz (b:=61) (by rw[ZaN,Zcd];decide) ?_ ?_,q _ (K1.trans Kp.app)⟩
   ·intro x hx;obtain⟨y,hy,rfl⟩:=a9.mp hx;exact Zc3 (hz y hy)
   ·rw[ae];lia
theorem ZnQ(hb:Bag n M)(ht:0<t)(ht':t.natAbs<2^250)(q:∀r M',0<=r->r<t->Gr n M M'->Q (.int r) M'):wO (CA.F_law_digit [.ref n,.int t] M) Q E:=by
 obtain⟨r,M',e,r0,r1,g⟩:=Zg0 hb ht (Zhu (by lia) (ay ht' (fK (by decide) (by decide))))
 rw[CA.ZjA,e];exact q r M' r0 r1 g
theorem Zs7(h:Sz 42 x):Sx6 x/\Sz 200 x:=⟨⟨dq h.1 (by decide),dq h.2 (by decide)⟩,⟨dq h.1 (by decide),dq h.2 (by decide)⟩⟩
def NI(n:Nat)(M:Sto)(i:Nat)(ρ:Ro)(M':Sto):Prop:=(∃x,ρ=[x,some (.ref n)])/\∃L:List Int,L.length=i/\(∀k∈L,-60<=k/\k<=60)/\M'[M.length]?=some (.lst (nts L))/\Gr n M M'
theorem ZqV(hb:Bag n M)(hm:many<=1000)(hρ:ρ[2]?=some (some (.ref n)))(q:∀L M',L.length=many->(∀k∈L,-60<=k/\k<=60)->M'[M.length]?=some (.lst (nts L))->Gr n M M'->Q (.ref M.length) M'):kCo (gNm 0) (fun _ M=>.ok true M) (e2 dSub (Zj CA.F_law_digit (Zc (Zg 1) (Zc (eC (.int 121)) aNil))) (eC (.int 60))) 1 [2] ρ Q (.pur (Zbu 0 many)) M:=by
 have hn:=hb.lt;refine ZfJ (xs:=Zbu 0 many) (Q:=fun M2=>Q (.ref M.length) M2) (NI n M) _ 0 _ _ (by simp) (by simp[cnt]) ⟨⟨none,by simp[roB,hρ]⟩,[],rfl,by simp,by simp[nts],Gr.app hb _⟩ (fun i ρ M' hi hI=>rfl) ?_ ?_
 ·rintro i ρ M2 hi ⟨⟨x,rfl⟩,L,e,ha,hr,gr⟩;rw[Zjt]at hi;rw[Znk];simp![Zk];show Br true _ _;rw[Zpw];simp![Zk];refine CA.ZB gr.bag (by decide) fun k M3 k0 k1 g3=>?_
  have r3:=CA.Gr.up hr g3 (by lia)
  have l3:=ZM r3;simp![r3];refine⟨by lia,⟨_,rfl⟩,L++[k-60],by simp[e],?_,?_,?_⟩
  ·intro z hz;rcases bC.mp hz with h|h
   ·exact ha z h
   ·simp at h;subst h;lia
  ·rw[aP l3]
  ·obtain⟨l,bg,kp⟩:=gr.trans g3;refine⟨by rw[cB];exact l,?_,fun k hk hkl=>?_⟩
   ·obtain⟨a,b,h,hx⟩:=bg;exact⟨a,b,h,by rw[aG (by lia)];exact hx⟩
   ·rw[aG (by lia)]
    exact kp k hk hkl
 ·rintro ρ M2 ⟨⟨x,rfl⟩,L,e,ha,hr,gr⟩;rw[Zjt]at e;exact q L M2 e ha hr gr
theorem Zgr(hk:0<k/\k<=60)(h:M[n]?=some (.lst (prs rs)))(hz:∀p∈rs,Fw k p)(hl:rs.length*(2*k+4)<=16000000)(q:∀M',Kp M M'->Q (.str (otx rs)) M'):wO (F_law_rays_text [.ref n] M) Q E:=by
 have l0:rs.length<=4000000:=by
  have:rs.length*4<=rs.length*(2*k+4):=Nat.mul_le_mul_left _ (by lia)
  lia
 simp![F_law_rays_text,ZbJ,ZcS,ZcR];refine Zqp (fun ρ=>∃x,ρ=[x]) (fun i=>D.str (ptx (rs.getD i (0,0)))) h (by rw[ZC];lia) ⟨_,rfl⟩ ?_ ?_
 ·rintro j hj ρ L ⟨x,rfl⟩;rw[ZqQ];rw[ZC]at hj;have hf:=hz _ (aX hj);have hu:=hf.up hk.2;have pl:=Zgk hk.1 hf;have l1:=Zc3 hu.1;have l2:=Zc3 hu.2;have g1:=ZfT hu.1;have g2:=ZfT hu.2;have l3:(PySem.Str.ofString ",").length=1:=by rw[ZaN,ZdW];rfl
  rw[ZdU hj];unfold ptx at *;simp![Zk4,Zcy,ZcX,l3];exact⟨⟨_,rfl⟩,g1,by lia,g2,by lia⟩
 ·rw[ZC,ZdT rs (0,0) fun q=>D.str (ptx q)];have r:(M++[SO.lst (rs.map fun q=>D.str (ptx q))])[M.length]?=some (.lst ((rs.map ptx).map D.str)):=by simp
  simp![Zk];refine Zqr r ⟨rs.map ptx,ZeQ _,Zcz (b:=2*k+3) (by rw[ZaN,Zcd];decide) ?_ ?_,q _ Kp.app⟩
  ·intro x hx;obtain⟨y,hy,rfl⟩:=a9.mp hx;exact Zgk hk.1 (hz y hy)
  ·rw[ae];exact hl
theorem Zj2(hb:Bag n M)(q:∀x M',x≠0->x.natAbs<10^60->Gr n M M'->Q (.int x) M'):wO (F_law_long [.ref n] M) Q E:=by
 have hn:=hb.lt;simp![F_law_long,Zek];refine ZnQ hb (by decide) (by decide) fun a M1 a0 a1 g1=>?_
 simp![Zk];refine CA.ZB (g1.bag.app _) (by decide) fun s M2 s0 s1 g2=>?_
 have k2:=Gr.new g1.bag g2;have gr2:Gr n M M2:=g1.trans ((Gr.app g1.bag _).trans g2);obtain⟨sg,hs',sg0⟩:∃f:Int,atI [D.int 1,D.int (-1)] s=some (.int f)/\(f=1\/f= -1):=by
  have:s=0\/s=1:=by lia
  rcases this with rfl|rfl
  ·exact⟨1,rfl,.inl rfl⟩
  ·exact⟨-1,rfl,.inr rfl⟩
 simp![k2,hs'];refine q _ M2 ?_ ?_ gr2
 ·rcases sg0 with rfl|rfl<;>lia
 ·rcases sg0 with rfl|rfl<;>lia
theorem Zd1(a c:List Nat):(⟨a.toArray⟩:Str)++(⟨c.toArray⟩:Str)=⟨(a++c).toArray⟩:=ZdC (by rw[ZhB])
theorem Zs8:Zfc ⟨l.toArray⟩ none (some a)=⟨(l.take a.toNat).toArray⟩:=by
 unfold Zfc;simp
theorem ZqW:Zfc ⟨l.toArray⟩ (some a) none=⟨(l.drop a.toNat).toArray⟩:=by
 unfold Zfc;simp[bp]
structure Chg(b:Nat) (l l':List Nat):Prop where
 as:As l'
 len:l'.length<=2*l.length+2
 inf:Inf (2*b+1) l'
noncomputable def sgl:List Nat:=[48,49,50,51,52,53,54,55,56,57,45,47,44,32,46,97,120,43,95,101,69,126]
theorem ZqX:∀x∈sgl,x<128:=by decide
theorem Zu4:(PySem.Str.ofString "0123456789-/, .ax+_eE~").cps.toList=sgl:=by decide
theorem Zu5(h0:0<=i)(hi:i<22)(q:∀c:Nat,c<128->Q (.str ⟨#[c]⟩) M):wO (ZlI (.str (PySem.Str.ofString "0123456789-/, .ax+_eE~")) (.int i) M) Q E:=by
 have hs:sgl.length=22:=rfl;have e1:sgl[i.toNat]?=some (sgl[i.toNat]'(by lia)):=Gq _
 refine Zk5 (c:=sgl[i.toNat]'(by lia)) (by lia) ?_ (q _ (ZqX _ (aX _)))
 rw[Zu4];exact e1
theorem Zgs(ha:As l)(hi:Inf b l)(hc:c<128)(h:(l.take a).length+(l.drop d).length<=2*l.length+1):Chg b l (l.take a++c::l.drop d):=by
 have e:l.take a++c::l.drop d=l.take a++([c]++l.drop d):=rfl;rw[e];refine⟨(ha.take _).app (As.app (fun x hx=>by simp at hx;lia) (ha.drop _)),?_,((hi.take _).app ((ZeY c).app (hi.drop _))).up (by lia)⟩
 rw[aa,aa,cA];lia
theorem Zj3(hb:Bag n M)(h0:0<l.length)(ha:As l)(hl:l.length<=2000)(hi:Inf b l)(q:∀l' M',Chg b l l'->Gr n M M'->Q (.str ⟨l'.toArray⟩) M'):wO (F_law_changed [.ref n,.str ⟨l.toArray⟩] M) Q E:=by
 simp![F_law_changed,ZcG,Zg5,Zac];refine⟨by lia,CA.ZB hb (by lia) fun aZ0 M1 a0 a1 g1=>?_⟩
 simp![Zk];refine CA.ZB g1.bag (by decide) fun way M2 w0 w1 g2=>?_
 simp! -implicitDefEqProofs [Zk];refine CA.ZB g2.bag (by decide) fun sg M3 s0 s1 g3=>?_
 have G3:=g1.trans (g2.trans g3);simp! -implicitDefEqProofs [Zk];refine Zu5 s0 s1 fun c hc=>?_;obtain⟨at',hat⟩:∃k:Nat,aZ0.toNat=k:=⟨_,rfl⟩;have hat1:(aZ0+1).toNat=at'+1:=by lia
 have al:at'<l.length:=by lia
 have ot:(⟨l.toArray⟩:Str).length<=100000/\okT ⟨l.toArray⟩ none (some aZ0):=⟨by rw[Zac];lia,by unfold okT;simp;exact a0⟩
 have od:(⟨l.toArray⟩:Str).length<=100000/\okT ⟨l.toArray⟩ (some aZ0) none:=⟨by rw[Zac];lia,by unfold okT;simp;lia⟩
 have od1:(⟨l.toArray⟩:Str).length<=100000/\okT ⟨l.toArray⟩ (some (aZ0+1)) none:=⟨by rw[Zac];lia,by unfold okT;simp;lia⟩
 have cd1:Zfc ⟨l.toArray⟩ (some (aZ0+1)) none=⟨(l.drop (at'+1)).toArray⟩:=by rw[ZqW,hat1]
 have ct0:Zfc ⟨l.toArray⟩ none (some aZ0)=⟨(l.take at').toArray⟩:=by rw[Zs8,hat]
 have cd0:Zfc ⟨l.toArray⟩ (some aZ0) none=⟨(l.drop at').toArray⟩:=by rw[ZqW,hat]
 have lt:(l.take at').length=at':=by rw[bF];lia
 have ld:(l.drop at').length=l.length-at':=bO;have ld1:(l.drop (at'+1)).length=l.length-(at'+1):=bO;have ac:∀c:Nat,c<128->As [c]:=fun c h x hx=>by simp at hx;lia
 have m1:∀c:Nat,(⟨#[c]⟩:Str)=⟨[c].toArray⟩:=fun _=>rfl;have l1:∀c:Nat,[c].length=1:=fun _=>rfl;simp! -implicitDefEqProofs [Zk];refine brS (fun z=>?_) (fun z=>?_)
 ·simp! -implicitDefEqProofs [ZfN,kL0,kL1,kL2,ZfO,ct0,cd1,Zcy,Zd1,Zac];refine⟨ot,od1,by simp only[aa,ao,bS,lt,ld,ld1];lia,q _ M3 ⟨(ha.take _).app (ha.drop _),by simp only[aa,ao,bS,lt,ld,ld1];lia,((hi.take _).app (hi.drop _)).up (by lia)⟩ G3⟩
 simp! -implicitDefEqProofs [Zk];refine brS (fun z=>?_) (fun z=>?_)
 ·simp! -implicitDefEqProofs [ZfN,kL0,kL1,kL2,ZfO,ct0];refine⟨ot,Zk5 (c:=l[at']) (by lia) (by rw[hat];simp[al]) ?_⟩
  simp! -implicitDefEqProofs [m1,Zcy,Zd1,Zac,ZfN,kL0,kL1,kL2,ZfO,cd0];refine⟨by simp only[aa,ao,bS,lt,ld,ld1];lia,od,by simp only[aa,ao,bS,lt,ld,ld1];lia,q _ M3 (Zgs ha hi (ha _ (aX al)) (by lia)) G3⟩
 simp! -implicitDefEqProofs [Zk];refine brS (fun z=>?_) (fun z=>?_)
 ·simp! -implicitDefEqProofs [Zk];refine CA.ZB (g3.bag.app _) (by decide) fun s M4 s0' s1' g4=>?_
  have k4:=Gr.new g3.bag g4;have G4:Gr n M M4:=G3.trans ((Gr.app g3.bag _).trans g4);obtain⟨c2,hs',hc2⟩:∃c2:Nat,atI [D.str (PySem.Str.ofString "/"),D.str (PySem.Str.ofString " "),D.str (PySem.Str.ofString ","),D.str (PySem.Str.ofString "0")] s=some (.str ⟨[c2].toArray⟩)/\c2<128:=by
   have:s=0\/s=1\/s=2\/s=3:=by lia
   rcases this with rfl|rfl|rfl|rfl
   ·exact⟨47,rfl,by decide⟩
   ·exact⟨32,rfl,by decide⟩
   ·exact⟨44,rfl,by decide⟩
   ·exact⟨48,rfl,by decide⟩
  simp! -implicitDefEqProofs [k4,hs',Zcy,Zd1,Zac];refine⟨by lia,q _ M4 ⟨ha.app (ac _ hc2),by simp only[aa,ao,bS,lt,ld,ld1];lia,(hi.app (ZeY _)).up (by lia)⟩ G4⟩
 simp! -implicitDefEqProofs [Zk];refine brS (fun z=>?_) (fun z=>?_)
 ·simp! -implicitDefEqProofs [ZcS,ZcR];refine ZcZ Zcd (by decide) (by lia) fun M4 K4 l4 r4=>?_
  have sl:=ZdY 32 l;have s0:0<(spl 32 l).length:=ic.mpr (ZbZ 32 l);have em:=Zax (i:=(at':Int)) (m:=(spl 32 l).length) (by lia)
  have G4:Gr n M M4:=G3.trans (K4.gr g3.bag);have e1:0<=aZ0%((spl 32 l).length:Int)/\aZ0%((spl 32 l).length:Int)<(spl 32 l).length:=⟨eU _ (by lia),dG _ (by lia)⟩
  generalize ej:aZ0%((spl 32 l).length:Int)=j at e1;obtain⟨w,hw,ew⟩:∃w∈spl 32 l,atI ((spl 32 l).map fun w=>D.str ⟨w.toArray⟩) j=some (.str ⟨w.toArray⟩):=by
   refine⟨(spl 32 l)[j.toNat]'(by lia),aX _,?_⟩
   unfold atI;rw[ae,ZlO (by lia),fk e1.1 e1.2]
   show((spl 32 l).map fun w=>D.str ⟨w.toArray⟩)[j.toNat]?=_;rw[a7,aq (by lia)]
   rfl
  have dv:0<((spl 32 l).length:Int)/\((spl 32 l).length:Int)<18446744073709551616:=by lia
  simp! -implicitDefEqProofs [r4,ej,ew,ZcS,ZcR];refine⟨by lia,?_⟩
  refine Zqr (xs:=((spl 32 l++[w]).map fun w=>(⟨w.toArray⟩:Str)).map D.str) (by
   rw[bM,cC,Zg2]
   rfl) ⟨(spl 32 l++[w]).map fun w=>(⟨w.toArray⟩:Str),ZeQ _,Zcz (b:=2000) (by rw[ZaN,Zcd];decide) ?_ ?_,?_⟩
  ·intro x hx;obtain⟨y,hy,rfl⟩:=a9.mp hx;rw[Zac];rcases bC.mp hy with hy|hy
   ·exact aE (Zaj hy) hl
   ·rw[dF.mp hy];exact aE (Zaj hw) hl
  ·rw[ae,aa,cA];lia
  ·have ej2:Txt.join (PySem.Str.ofString " ") ((spl 32 l++[w]).map fun w=>(⟨w.toArray⟩:Str))=⟨(jn 32 (spl 32 l++[w])).toArray⟩:=by
    apply ZdC;rw[ZbF,Zb6,bM,ZjR,show((fun x:Str=>x.cps.toList)∘fun w:List Nat=>(⟨w.toArray⟩:Str))=id from funext fun w=>ZjR w,List.map_id]
   rw[ej2];have wd:∀x∈spl 32 l++[w],x∈spl 32 l:=fun x hx=>by
    rcases bC.mp hx with hx|hx
    ·exact hx
    ·rw[dF.mp hx];exact hw
   have jl:=Zhe 32 (ws:=spl 32 l++[w]) (by simp)
   have sm:=ZdV 32 l;have wl:=Zaj hw;rw[cC,List.sum_append,sm]at jl;simp only[aL,dj,c6,List.sum_nil]at jl;refine q _ _ ⟨ZjP fun x hx=>ha.spl (wd x hx),by lia,(ZjO fun x hx=>hi.word (wd x hx)).up (by lia)⟩ (Gr.trans G4 (Gr.app G4.bag _))
 simp! -implicitDefEqProofs [Zk];refine brS (fun z=>?_) (fun z=>?_)
 ·simp! -implicitDefEqProofs [ZfN,kL0,kL1,kL2,ZfO,ct0,m1,Zcy,Zd1,Zac,cd0];refine⟨ot,by simp only[aa,ao,bS,lt,ld,ld1];lia,od,by simp only[aa,ao,bS,lt,ld,ld1];lia,q _ M3 (Zgs ha hi hc (by lia)) G3⟩
 ·simp! -implicitDefEqProofs [ZfN,kL0,kL1,kL2,ZfO,ct0,m1,Zcy,Zd1,Zac,cd1];refine⟨ot,by simp only[aa,ao,bS,lt,ld,ld1];lia,od1,by simp only[aa,ao,bS,lt,ld,ld1];lia,q _ M3 (Zgs ha hi hc (by lia)) G3⟩
theorem ZhO(i:Int):As (tx i).cps.toList:=fun c hc=>by
 rw[Zrf]at hc;rcases bC.mp hc with h|h
 ·split at h
  ·simp at h;lia
  ·cases h
 ·have:=Zpo i.natAbs c h;lia
theorem ZqY(p:Pt):As (ptx p).cps.toList:=by
 rw[ZqP];exact(ZhO _).app (As.app (a:=[44]) (fun x hx=>by simp at hx;lia) (ZhO _))
theorem ZqZ(q:Rat):As (rtx q).cps.toList:=by
 rw[ZqM];split
 ·exact ZhO _
 ·exact(ZhO _).app (As.app (a:=[47]) (fun x hx=>by simp at hx;lia) (ZhO _))
structure Txo(b:Nat) (l:List Nat):Prop where
 as:As l
 pos:0<l.length
 len:l.length<=2000
 inf:Inf b l
theorem Zs9(ne:rs≠[])(hl:rs.length<=14)(hz:∀p∈rs,Fw 3 p):Txo 9 (otx rs).cps.toList/\(otx rs).cps.toList.length<=140:=by
 unfold otx;rw[ZbF,Zb6,bM];have w:∀w∈rs.map ((fun x=>x.cps.toList)∘ptx),w.length<=9:=fun w hw=>by
  obtain⟨p,hp,rfl⟩:=a9.mp hw
  have:=Zgk (k:=3) (by decide) (hz p hp)
  rw[ZaN]at this;exact this
 have sm:∀L:List (List Nat),(∀w∈L,w.length<=9)->(L.map fun w=>w.length+1).sum<=10*L.length:=by
  intro L
  induction L with
  |nil=>intro _;simp
  |cons a L ih=>intro h;have:=h a (by simp);have:=ih fun w hw=>h w (ak _ hw);simp only[aL,c6,ao];lia
 have jl:=Zhe 32 (ws:=rs.map ((fun x=>x.cps.toList)∘ptx)) (by simpa using ne)
 have s1:=sm _ w;rw[ae]at s1;have hp:0<(jn 32 (rs.map ((fun x=>x.cps.toList)∘ptx))).length:=by
  cases rs with
  |nil=>exact absurd rfl ne
  |cons p r=>
   have:0<(ptx p).cps.toList.length:=by rw[ZqP];simp;lia
   rw[aL,aL,c6]at jl
   replace jl:_+1=(ptx p).cps.toList.length+1+_:=jl
   rw[aL];lia
 exact⟨⟨ZjP fun w hw=>by obtain⟨p,hp,rfl⟩:=a9.mp hw;exact ZqY p,hp,by lia,ZjO w⟩,by lia⟩
theorem Zl8(ne:ws≠[])(h:∀w∈ws,0<w.length):0<(jn 32 ws).length:=by
 have:=Zhe 32 ne
 cases ws with
 |nil=>exact absurd rfl ne
 |cons a r=>
  have h1:=h a (by simp)
  rw[aL,c6]at this;lia
theorem Zl9(i:Int):0<(tx i).cps.toList.length:=by
 rw[Zrf,aa]
 have:=ic.mpr (ZrO i.natAbs)
 lia
theorem Zta(ne:hs≠[])(hl:hs.length<=14)(hz:∀x∈hs,Sx6 x):Txo 2000 (htx hs).cps.toList:=by
 have l1:=Zhd (ys:=hs.map rtx) (b:=123) fun x hx=>by
  obtain⟨y,hy,rfl⟩:=a9.mp hx;exact Zgh (hz y hy)
 rw[ae,ZaN]at l1;have l2:(htx hs).cps.toList.length<=2000:=by unfold htx;lia
 refine⟨?_,?_,l2,Inf.len.up l2⟩
 ·unfold htx;rw[ZbF,Zb6,bM];exact ZjP fun w hw=>by obtain⟨p,hp,rfl⟩:=a9.mp hw;exact ZqZ p
 ·unfold htx;rw[ZbF,Zb6,bM];refine Zl8 (by simpa using ne) fun w hw=>?_
  obtain⟨p,hp,rfl⟩:=a9.mp hw;show 0<(rtx p).cps.toList.length;rw[ZqM];split
  ·exact Zl9 _
  ·simp;lia
theorem Ztb(hl:ns.length<=20)(hz:∀x∈ns,x.natAbs<10^60):Txo 2000 (wtx ns).cps.toList:=by
 unfold wtx;split
 ·rw[show(PySem.Str.ofString "-").cps.toList=[45]by decide]
  exact⟨fun c hc=>by simp at hc;lia,by decide,by decide,Inf.len.up (by decide)⟩
 ·rename_i ne;have l1:=Zhd (ys:=ns.map tx) (b:=61) fun x hx=>by
   obtain⟨y,hy,rfl⟩:=a9.mp hx;exact Zc3 (hz y hy)
  rw[ae,ZaN]at l1;have l2:(Txt.join (PySem.Str.ofString " ") (ns.map tx)).cps.toList.length<=2000:=by lia
  refine⟨?_,?_,l2,Inf.len.up l2⟩
  ·rw[ZbF,Zb6,bM];exact ZjP fun w hw=>by obtain⟨p,hp,rfl⟩:=a9.mp hw;exact ZhO p
  ·rw[ZbF,Zb6,bM];refine Zl8 (by simpa using ne) fun w hw=>?_
   obtain⟨p,hp,rfl⟩:=a9.mp hw;exact Zl9 _
def Oth(d:D)(M:Sto):Prop:=∃t,Zbs t "str"=false/\∀M',Kp M M'->ZO M' d=some t/\eqF 12 M' d (.str (PySem.Str.ofString "-"))=some false
theorem Zq0(h:M[m]?=some (.lst xs)):Oth (.ref m) M:=⟨"list",by decide,fun M' K=>⟨CG.ZdP (K.get h),by
 show(match kd M' (.ref m),kd M' (.str (PySem.Str.ofString "-"))with|some a,some b=>eqK (eqF 11 M') a b|_,_=>none)=_
 have e1:kd M' (.ref m)=some (.lst xs):=by show(match M'[m]? with|some (.lst xs)=>some (Kd.lst xs)|_=>none)=_;rw[K.get h]
 rw[e1]
 rfl⟩⟩
theorem Oth.up(h:Oth d M)(K:Kp M M'):Oth d M':=let ⟨t,a,f⟩:=h;⟨t,a,fun M2 K2=>f M2 (K.trans K2)⟩
theorem Zu6{i:Nat}:(i:Int)%3=((i%3:Nat):Int):=by lia
theorem ZtN{j:Nat}(h:j<3):∃z,atI [D.str t0,D.str t1,D.str t2] (j:Int)=some (.str z)/\(j=0/\z=t0\/j=1/\z=t1\/j=2/\z=t2):=by
 match j,h with
 |0,_=>exact⟨t0,rfl,.inl ⟨rfl,rfl⟩⟩
 |1,_=>exact⟨t1,rfl,.inr (.inl ⟨rfl,rfl⟩)⟩
 |2,_=>exact⟨t2,rfl,.inr (.inr ⟨rfl,rfl⟩)⟩
structure Tri(t0 t1 t2:Str):Prop where
 a:Txo 9 t0.cps.toList
 l:t0.cps.toList.length<=140
 b:Txo 2000 t1.cps.toList
 c:Txo 2000 t2.cps.toList
theorem Tri.get(h:Tri t0 t1 t2)(e:j=0/\z=t0\/j=1/\z=t1\/j=2/\z=t2):∃b,Txo b z.cps.toList/\(j=0->b=9/\z.cps.toList.length<=140):=by
 rcases e with⟨rfl,rfl⟩|⟨rfl,rfl⟩|⟨rfl,rfl⟩
 ·exact⟨9,h.a,fun _=>⟨rfl,h.l⟩⟩
 ·exact⟨2000,h.b,fun z=>absurd z (by decide)⟩
 ·exact⟨2000,h.c,fun z=>absurd z (by decide)⟩
theorem Zlh{i mt:Nat}(hi:i<6)(T:Tri t0 t1 t2)(hb:Bag n M)(ht:M[mt]?=some (.lst [.str t0,.str t1,.str t2]))(hmt:mt≠n)(hN:∀x8 x9 M',Gr n M M'->N [some S,some (.int kk),some (.ref n),some (.ref mr),some (.ref ml),some (.ref mh),some (.ref mt),some (.int i),x8,x9,x10] M'):wS (Ze1 [some S,some (.int kk),some (.ref n),some (.ref mr),some (.ref ml),some (.ref mh),some (.ref mt),some (.int i),x8,x9,x10] M) N R B C E:=by
 have h3:i%3<3:=jk _ (by decide)
 obtain⟨z,ez,hz⟩:=ZtN (t0:=t0) (t1:=t1) (t2:=t2) h3;obtain⟨b,to,h0⟩:=T.get hz;simp! -implicitDefEqProofs [Ze1,Zu6];generalize i%3=j at *;simp! -implicitDefEqProofs [ht,ez];rw[<-Zrl z];refine Zj3 hb to.pos to.as to.len to.inf fun l' M1 cg g1=>?_;obtain⟨o,ro⟩:=ResT.ex j l' h3;have hl':l'.length<=100000:=by have:=cg.len;have:=to.len;lia
 have hx:j=0->Inf 19 l'/\l'.length<=900:=fun e=>by
  obtain⟨e1,e2⟩:=h0 e
  have:=cg.inf
  rw[e1]at this;exact⟨this,by have:=cg.len;lia⟩
 simp! -implicitDefEqProofs [Zk];refine Zhi h3 ro cg.as hl' hx fun d1 M2 K2 td1=>?_;simp! -implicitDefEqProofs [Zk];refine Zs4 h3 ro cg.as hl' hx fun d2 M3 K3 td2=>?_;have he:=Zs6 (Zle ro) (td1.up K3) td2;simp! -implicitDefEqProofs [he];exact hN _ _ M3 (g1.trans ((K2.trans K3).gr g1.bag))
theorem Zhj(c:Nat):∀a:List Nat,spl c (a++[c])=spl c a++[[]]
 |[]=>by simp[spl]
 |x::a=>by
  rw[aS,ZeL,ZeL,Zhj c a];split
  ·rfl
  ·cases e:spl c a with
   |nil=>exact absurd e (ZbZ c a)
   |cons b t=>rfl
theorem Zq1(hk:k<3):ResT k (l++[32]) none:=by
 have ne:l++[32]≠[45]:=fun z=>by
  have:32∈l++[32]:=by simp
  rw[z]at this;simp at this
 exact Ze7 (w:=[]) (by rw[Zhj];simp) (Ze8 hk) ne hk
theorem Zq2(hk:k<3):ResT k (32::l) none:=Ze7 (w:=[]) (by rw[ZeL,if_pos rfl];simp) (Ze8 hk) (fun z=>by cases z) hk
theorem Zq3(hk:k<3):ResT k [] none:=Ze7 (w:=[]) (by simp[spl]) (Ze8 hk) (fun z=>by cases z) hk
theorem Zli{k mt:Nat}(hk:k<3)(T:Tri t0 t1 t2)(ht:M[mt]?=some (.lst [.str t0,.str t1,.str t2]))(ho:Oth odd M)(hN:∀M',Kp M M'->N [some S,some (.int kk),some (.ref n),some (.ref mr),some (.ref ml),some (.ref mh),some (.ref mt),x7,some (.int k),x9,some odd] M'):wS (Ze2 [some S,some (.int kk),some (.ref n),some (.ref mr),some (.ref ml),some (.ref mh),some (.ref mt),x7,some (.int k),x9,some odd] M) N R B C E:=by
 obtain⟨z,ez,hz⟩:=ZtN (t0:=t0) (t1:=t1) (t2:=t2) hk;obtain⟨b,to,h0⟩:=T.get hz;obtain⟨t,h1,h2⟩:=ho;have ee:PySem.Str.ofString ""=(⟨([]:List Nat).toArray⟩:Str):=by decide
 have eb:PySem.Str.ofString " "=(⟨[32].toArray⟩:Str):=ZbF;have hl:=to.len;have a32:As [32]:=fun x hx=>by simp at hx;lia
 simp! -implicitDefEqProofs [Ze2];refine Zlf hk (fun M' K=>(h2 M' K).1) h1 (fun M' K=>(h2 M' K).2) fun M1 K1=>?_;simp! -implicitDefEqProofs [ee];refine Zhi hk (Zq3 hk) (fun c hc=>by simp at hc) (by simp) (fun _=>⟨Inf.len.up (by simp),by simp⟩) fun d1 M2 K2 td1=>?_
 replace td1:d1=.non:=td1
 subst td1;have K3:=K1.trans K2;simp! -implicitDefEqProofs [K3.get ht,ez];rw[<-Zrl z,eb];simp! -implicitDefEqProofs [Zcy,Zd1,Zac];refine⟨by lia,Zhi hk (Zq1 hk) (to.as.app a32) (by rw[aa,cA];lia) (fun e=>?_) fun d1 M4 K4 td1=>?_⟩
 ·obtain⟨e1,e2⟩:=h0 e;subst e1;exact⟨(to.inf.app (ZeY _)).up (by decide),by rw[aa,cA];lia⟩
 replace td1:d1=.non:=td1
 subst td1;have K5:=K3.trans K4;simp! -implicitDefEqProofs [K5.get ht,ez];rw[<-Zrl z];simp! -implicitDefEqProofs [Zcy,Zd1,Zac];refine⟨by lia,Zhi hk (Zq2 hk) (As.app (a:=[32]) a32 to.as) (by rw[ao];lia) (fun e=>?_) fun d1 M6 K6 td1=>?_⟩
 ·obtain⟨e1,e2⟩:=h0 e;subst e1;exact⟨(Inf.app (A:=[32]) (ZeY _) to.inf).up (by decide),by rw[ao];lia⟩
 replace td1:d1=.non:=td1
 subst td1;simp! -implicitDefEqProofs [Zk];exact hN M6 (K5.trans K6)
theorem ZtO(g:Gr n M M')(hj:M.length<=j)(hn:j≠n):Gr n M (M'.set j o):=by
 obtain⟨l,bg,kp⟩:=g;refine⟨by rw[cB];exact l,?_,fun k hk hkl=>?_⟩
 ·obtain⟨a,b,h,hx⟩:=bg;exact⟨a,b,h,by rw[aG hn];exact hx⟩
 ·rw[aG (by lia)]
  exact kp k hk hkl
theorem ZnR{ns:List Int}{k:Nat}(hk:k<1000)(hN:∀x2 x3 x4 x5 x6 x7 x8 x9 x10 M',N [some (.rol (ns.map D.int)),some (.int k),x2,x3,x4,x5,x6,x7,x8,x9,x10] M'):wS (Ze3 [some (.rol (ns.map D.int)),some (.int k),x2,x3,x4,x5,x6,x7,x8,x9,x10] M) N R B C E:=by
 simp![Ze3];refine CA.ZsS hk fun a b h0=>?_;have hb:Bag M.length (M++[SO.lst [.int a,.int b]]):=⟨a,b,h0,by simp⟩
 generalize M++[SO.lst [.int a,.int b]]=M0 at hb ⊢;generalize M.length=n at hb ⊢;simp![Zk];refine CA.Zg7 hb fun ss m1 M1 s1 s2 s3 m0 s4 g1=>?_;have n0:=hb.lt;simp![Zk];refine CZ.ZsY g1.bag fun rr m2 M2 r0 r1 r2 r3 r4 r5 g2=>?_;have n1:=g1.bag.lt;have t4:=CA.Gr.up s4 g2 (by lia)
 simp![Zk];refine CA.ZB (g2.bag.app _) (by decide) fun s M3 s0 s1' g3=>?_
 have k3:=Gr.new g2.bag g3;have gb3:Gr n M2 M3:=(Gr.app g2.bag _).trans g3;have u4:=CA.Gr.up t4 gb3 (by lia)
 have u5:=CA.Gr.up r5 gb3 (by lia)
 obtain⟨rs,p,hs',hr,hb2,hl14,hp,pn⟩:∃rs p,atI [D.ref m1,D.ref m2] s=some (.ref p)/\Rn rs/\Nr 200 rs/\rs.length<=14/\M3[p]?=some (.lst (prs rs))/\p≠n:=by
  have:s=0\/s=1:=by lia
  rcases this with rfl|rfl
  ·exact⟨ss,m1,rfl,s1.rn,s2,s3,u4,by lia⟩
  ·exact⟨rr,m2,rfl,r0,r1,r3,u5,by lia⟩
 simp![k3,hs'];refine CA.ZB gb3.bag (by decide) fun c M4 c0 c1 g4=>?_
 have v4:=CA.Gr.up hp g4 pn;obtain⟨cn,rfl⟩:∃k:Nat,c=k:=⟨c.toNat,by lia⟩
 simp! -implicitDefEqProofs [Zk];refine⟨by lia,?_⟩
 rw[gm];refine ZqV g4.bag (by lia) rfl fun ls M5 ll lz r5l g5=>?_
 have v5:=CA.Gr.up v4 g5 pn;have ml:M4.length≠n:=by have:=g4.bag.lt;lia
 generalize hml:M4.length=mlx at r5l ml ⊢;simp! -implicitDefEqProofs [v5];refine Zlg (by lia) g5.bag fun hs mh M6 lh zh mh0 r6 g6=>?_
 have v6:=CA.Gr.up v5 g6 pn;have w6:=CA.Gr.up r5l g6 ml;have mhn:mh≠n:=by have:=g5.bag.lt;lia
 have l5:=ZM r5l;have mhl:mh≠mlx:=by lia
 have p5:=ZM v5;have mhp:mh≠p:=by lia
 have hne:hs≠[]:=fun e=>by have:=hr.len;rw[e]at lh;simp at lh;lia
 simp! -implicitDefEqProofs [Zk];refine CA.ZB g6.bag (by decide) fun d M7 d0 d1 g7=>?_
 have v7:=CA.Gr.up v6 g7 pn;have w7:=CA.Gr.up w6 g7 ml;have h7:=CA.Gr.up r6 g7 mhn;have p4:=ZM v4;have pl:p≠mlx:=by lia
 have zh':∀x∈hs,Sx6 x:=fun x hx=>(Zs7 (zh x hx)).1;simp! -implicitDefEqProofs [Zk];refine ZnT (fun ρ M'=>(ρ=[some (.rol (ns.map D.int)),some (.int k),some (.ref n),some (.ref p),some (.ref mlx),some (.ref mh),x6,x7,x8,x9,x10])/\∃ls hs,ls.length<=20/\(∀x∈ls,x.natAbs<10^60)/\hs≠[]/\hs.length<=14/\(∀x∈hs,Sx6 x)/\Bag n M'/\M'[p]?=some (.lst (prs rs))/\M'[mlx]?=some (.lst (nts ls))/\M'[mh]?=some (.lst (rts hs))) ?_ ?_
 ·refine brS (fun c=>?_) (fun c=>?_)
  ·simp! -implicitDefEqProofs [w7];refine Zj2 g7.bag fun x M8 x0 xl g8=>?_;have v8:=CA.Gr.up v7 g8 pn;have w8:=CA.Gr.up w7 g8 ml;have h8:=CA.Gr.up h7 g8 mhn;simp! -implicitDefEqProofs [w8,ZbA];refine⟨by lia,?_⟩
   have l8:=ZM w8;have w9:(M8.set mlx (SO.lst (nts (ls++[x]))))[mlx]?=some (.lst (nts (ls++[x]))):=aP l8;have v9:(M8.set mlx (SO.lst (nts (ls++[x]))))[p]?=some (.lst (prs rs)):=by rw[aG (bJ pl)];exact v8
   have h9:(M8.set mlx (SO.lst (nts (ls++[x]))))[mh]?=some (.lst (rts hs)):=by rw[aG (bJ mhl)];exact h8
   have b9:Bag n (M8.set mlx (SO.lst (nts (ls++[x])))):=by
    obtain⟨a,b,h,hx⟩:=g8.bag;exact⟨a,b,h,by rw[aG ml];exact hx⟩
   generalize M8.set mlx (SO.lst (nts (ls++[x])))=M9 at w9 v9 h9 b9 ⊢;refine Zj2 b9 fun y M10 y0 yl g10=>?_;simp! -implicitDefEqProofs [Zk];refine Zj2 g10.bag fun u M11 u0 ul g11=>?_;simp! -implicitDefEqProofs [Zk];have v11:=CA.Gr.up (CA.Gr.up v9 g10 pn) g11 pn;have w11:=CA.Gr.up (CA.Gr.up w9 g10 ml) g11 ml;have h11:=CA.Gr.up (CA.Gr.up h9 g10 mhn) g11 mhn;have uz:u.natAbs≠0:=by lia
   have p60:10^60<=2^200:=by decide
   refine CR.ZnA (k:=200) uz (ay ul p60) (by decide) ?_
   have sx:Sx6 (bX y u.natAbs uz):=⟨by
    rw[gA];exact cU (dM _ _) yl,by
    rw[gB];exact cU (Nat.div_le_self _ _) ul⟩
   generalize bX y u.natAbs uz=qq at sx ⊢;simp! -implicitDefEqProofs [v11];refine CA.ZB g11.bag (by have:=hr.len;lia) fun j M12 j0 j1 g12=>?_
   have v12:=CA.Gr.up v11 g12 pn;have w12:=CA.Gr.up w11 g12 ml;have h12:=CA.Gr.up h11 g12 mhn;obtain⟨jn,rfl⟩:∃k:Nat,j=k:=⟨j.toNat,by lia⟩
   have hj:jn<hs.length:=by lia
   simp! -implicitDefEqProofs [h12,ZU,Znq hj];have hm12:=ZM h12;have e:(rts hs).set jn (rt qq)=rts (hs.set jn qq):=by simp[rts,List.map_set]
   rw[e];refine⟨ls++[x],hs.set jn qq,by rw[aa,cA];lia,fun z hz=>?_,by simpa using hne,by rw[cB];lia,fun z hz=>?_,?_,?_,?_,?_⟩
   ·rcases bC.mp hz with hz|hz
    ·have:=lz z hz
     exact cU (show z.natAbs<=60 by lia) (by decide)
    ·rw[dF.mp hz];exact xl
   ·rcases List.mem_or_eq_of_mem_set hz with h|h
    ·exact zh' z h
    ·rw[h];exact sx
   ·obtain⟨a,b,h,hx⟩:=g12.bag;exact⟨a,b,h,by rw[aG mhn];exact hx⟩
   ·exact v12
   ·exact w12
   ·exact aP hm12
  ·simp! -implicitDefEqProofs [Zk];exact⟨ls,hs,by lia,fun z hz=>by
    have:=lz z hz
    exact cU (show z.natAbs<=60 by lia) (by decide),hne,by lia,zh',g7.bag,v7,w7,h7⟩
 rintro _ M8 ⟨rfl,ls,hs,l20,lz,hne,h14,zh,b8,v8,w8,h8⟩;have fw:∀q∈rs,Fw 3 q:=fun q hq=>by have:=hb2 q hq;unfold Fw;lia
 obtain⟨o1,o2⟩:=Zs9 hr.ne hl14 fw;have T:Tri (otx rs) (htx hs) (wtx ls):=⟨o1,o2,Zta hne h14 zh,Ztb l20 lz⟩;simp! -implicitDefEqProofs [Zk];refine Zgr (k:=3) (by decide) v8 fw (by lia) fun M9 K9=>?_
 simp! -implicitDefEqProofs [Zk];refine Zd6 (K9.get h8) (by lia) zh fun M10 K10=>?_
 simp! -implicitDefEqProofs [Zk];refine Zgq ((K9.trans K10).get w8) (by lia) lz fun M11 K11=>?_
 have K12:Kp M8 (M11++[SO.lst [.str (otx rs),.str (htx hs),.str (wtx ls)]]):=(K9.trans (K10.trans K11)).trans Kp.app;have t12:(M11++[SO.lst [.str (otx rs),.str (htx hs),.str (wtx ls)]])[M11.length]?=some (.lst [.str (otx rs),.str (htx hs),.str (wtx ls)]):=by simp
 have tn:M11.length≠n:=by have:=b8.lt;have:=(K9.trans (K10.trans K11)).1;lia
 have b12:=K12.bag b8;have v12:=K12.get v8;simp! -implicitDefEqProofs [Zk];generalize M11++[SO.lst [.str (otx rs),.str (htx hs),.str (wtx ls)]]=M12 at *;generalize M11.length=mt at *;refine Zb0 (fun i ρ M'=>(∃x7 x8 x9,ρ=[some (.rol (ns.map D.int)),some (.int k),some (.ref n),some (.ref p),some (.ref mlx),some (.ref mh),some (.ref mt),x7,x8,x9,x10])/\Gr n M12 M') ⟨⟨_,_,_,rfl⟩,Gr.refl b12⟩ ?_ ?_
 ·rintro i ρ M' hi ⟨⟨x7,x8,x9,rfl⟩,gr⟩;rw[show(0:Int)+(i:Int)=i by lia]
  simp! -implicitDefEqProofs [Zk];exact Zlh hi T gr.bag (CA.Gr.up t12 gr tn) tn fun x8 x9 M' g=>⟨⟨_,_,_,rfl⟩,gr.trans g⟩
 rintro ρ M13 ⟨⟨x7,x8,x9,rfl⟩,gr⟩;have v13:=CA.Gr.up v12 gr pn;have t13:=CA.Gr.up t12 gr tn;simp! -implicitDefEqProofs [Zk];refine CA.ZB (gr.bag.app _) (by decide) fun d M15 d0 d1 g15=>?_
 have n13:=gr.bag.lt;have k15:M15[M13.length+1]?=some (.lst [D.non,D.int 1,D.bl true,D.ref p,D.tup [D.int 1,D.int 0],D.ref M13.length]):=CA.Gr.up (by rw[Zg2];rfl) g15 (by lia)
 have e15:M15[M13.length]?=some (.lst [D.str (PySem.Str.ofString "")]):=CA.Gr.up (by rw[ZkU];rfl) g15 (by lia)
 have G15:Gr n M13 M15:=(Gr.app gr.bag _).trans g15;have v15:=CA.Gr.up v13 G15 pn;have t15:=CA.Gr.up t13 G15 tn;obtain⟨odd,eo,oo⟩:∃odd,atI [D.non,D.int 1,D.bl true,D.ref p,D.tup [D.int 1,D.int 0],D.ref M13.length] d=some odd/\Oth odd M15:=by
  have:d=0\/d=1\/d=2\/d=3\/d=4\/d=5:=by lia
  rcases this with rfl|rfl|rfl|rfl|rfl|rfl
  ·exact⟨_,rfl,"NoneType",by decide,fun _ _=>⟨rfl,rfl⟩⟩
  ·exact⟨_,rfl,"int",by decide,fun _ _=>⟨rfl,rfl⟩⟩
  ·exact⟨_,rfl,"bool",by decide,fun _ _=>⟨rfl,rfl⟩⟩
  ·exact⟨_,rfl,Zq0 v15⟩
  ·exact⟨_,rfl,"tuple",by decide,fun _ _=>⟨rfl,rfl⟩⟩
  ·exact⟨_,rfl,Zq0 e15⟩
 simp! -implicitDefEqProofs [k15,eo];refine Zb0 (fun i ρ M'=>(∃x8,ρ=[some (.rol (ns.map D.int)),some (.int k),some (.ref n),some (.ref p),some (.ref mlx),some (.ref mh),some (.ref mt),x7,x8,x9,some odd])/\Kp M15 M') ⟨⟨_,rfl⟩,Kp.refl⟩ ?_ ?_
 ·rintro i ρ M' hi ⟨⟨x8,rfl⟩,K⟩;rw[show(0:Int)+(i:Int)=i by lia]
  simp! -implicitDefEqProofs [Zk];exact Zli hi T (K.get t15) (oo.up K) fun M2 K2=>⟨⟨_,rfl⟩,K.trans K2⟩
 ·rintro ρ M' ⟨⟨x8,rfl⟩,K⟩;exact hN _ _ _ _ _ _ _ _ _ _
theorem law_true(ns:List Int)(h:ns.length<=63):∃M',Zgl [.rol (ns.map D.int)] []=.ok (.bl true) M':=by
 have w:wO (Zgl [.rol (ns.map D.int)] []) (fun d _=>d=.bl true) (fun _ _=>False):=by
  simp![Zgl,ZqR];refine⟨by lia,?_⟩
  refine Zb0 (fun _ ρ _=>∃x1 x2 x3 x4 x5 x6 x7 x8 x9 x10,ρ=[some (.rol (ns.map D.int)),x1,x2,x3,x4,x5,x6,x7,x8,x9,x10]) ⟨_,_,_,_,_,_,_,_,_,_,rfl⟩ ?_ ?_
  ·rintro i ρ M hi ⟨x1,x2,x3,x4,x5,x6,x7,x8,x9,x10,rfl⟩;rw[show(0:Int)+(i:Int)=i by lia]
   simp![Zk];exact ZnR (by lia) fun _ _ _ _ _ _ _ _ _ _=>⟨_,_,_,_,_,_,_,_,_,_,rfl⟩
  ·rintro ρ M ⟨x1,x2,x3,x4,x5,x6,x7,x8,x9,x10,rfl⟩;simp![Zk]
 obtain⟨d,M',e,rfl⟩:=Zpx w;exact⟨M',e⟩
end
end K77
namespace K77
open L2 DL
theorem Zu7{l:PySem.W.OpenLaw}{K:jG->Fg}{T:Fg}(hn:l.most=some 63)(hdf:d.params.defaults=[])(hY:∀(w:df)(h:Heap),YP w h->(K w.params).In h/\T.In h)(hT:∀w:df,ZgQ (K w.params) T=true)(F:∀(w:df)(mg:Str->Option ah)(fa:Addr)(h:Heap),(K w.params).In h->h.Ns ai mg->mg d.name=some (.ref fa)->∃fd:gq,(∀(s:aC)(u:ah),j8 s fd ⟨[u],[]⟩ [("_law_script",u)])/\∀base:Heap,(K w.params).In base->base.Ns ai mg->FnOk l.prog w (K w.params) mg base (CXE l.prog w) 108 fa fd ["_law_script"] (spD (K w.params) Zgl)):PySem.W.WalkO q loose XP YP l.row.toRowW d [] (fun f vs=>PySem.call f vs):=
 L2.ZkE (T:=fun _=>T) (n:=63) (k:=108) (x:="_law_script") (CX:=fun w=>CXE l.prog w) (sp:=fun w=>spD (K w.params) Zgl) hn (by decide) hdf ⟨fun _=>rfl,rfl,by decide,by decide⟩ hY hT F (fun _ _ a ns hl hS=>DL.ZmW hS (law_true ns hl)) fun _ _ _ _ _ ⟨_,_,_,_,_,_,_,_,_,_,_,_,_,q⟩=>q
end K77
open PySem.W PyProof.Rows
set_option maxRecDepth 1000000 in
set_option maxHeartbeats 0 in
theorem PySem.Challenge.cw_rayround_k77_texts_refused_holds : PySem.Challenge.rw_rayround_k77_texts_refused.Holds := by
 w_on
 refine holds_law K77.Zt6 fun _=>?_;refine holds_open (q:=K77.qf PySem.Challenge.pw_rayround_k77_texts_refused) (loose:=K77.lo) (Xt:=fun s=>xlAt (K77.qf PySem.Challenge.pw_rayround_k77_texts_refused) [] s&&recOk [] s) (XP:=XL (K77.qf PySem.Challenge.pw_rayround_k77_texts_refused) []) (Yf:=Hook.obs K77.Hk) (Ya:=Hook.val K77.Hk) (YP:=Hook.says K77.Hk) (N:=5611) ?hl (Hook.of K77.Hk) (Hook.keeps K77.Hk) (fun s e=>xl_of s (jY.mp e).1) XL.keeps (by rfl) (by rfl) (by rfl) (fun s e=>recFacts_of (jY.mp e).2) (by rfl) (by first|assumption|decide +kernel) (by decide +kernel) ⟨rfl,rfl,rfl,rfl,rfl,by decide +kernel⟩ ?hw ?hc
 case hl=>exact HD.Zin rfl (by decide) (fun s=>rfl) (by decide) K77.ZrA
 case hw=>w_witness2
 case hc=>
  refine K77.Zu7 (l:=PySem.Challenge.rw_rayround_k77_texts_refused) (K:=K77.Kf PySem.Challenge.pw_rayround_k77_texts_refused) (T:=K77.Tf) rfl rfl (fun w h Y=>⟨DL.ZmX (PySem.W.kIn_of Y),DL.ZkF (PySem.W.kIn_of Y) (by kernel_rfl)⟩) (fun w=>by kernel_rfl) ?F
  intro w mg fa h KX G hmg;refine K77.fin KX G hmg ⟨DL.Bs.of KX G ?_,fun c v e=>PySem.W.mg_of KX G e,DL.Dfs.of ?_,K77.Zu3 (fI:=65) (c:=64) (m:="rayround.errors") (t:=187) ?_ ?_ ?_ ?_ ?_,?_,?_,?_,?_,?_,?_,?_,?_,?_,?_,?_,?_,?_,?_,?_,?_,?_,?_,⟨474,?_⟩,⟨484,?_⟩,⟨479,?_⟩,⟨326,?_⟩,⟨321,?_⟩,⟨316,?_⟩,?_⟩
  all_goals kernel_rfl
