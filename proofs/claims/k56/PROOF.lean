import PyProof.Rows.All
import Wide.All
import OpenK.AllK
import Wide.FinOn
import Lean
import PyProof.EqAt
import PyProof.EqKinds
import PyProof.TupleCall
import PyProof.FString
import PyProof.Rows.TupIter
import KE.KDictList
import PyProof.ZipIter
import PyProof.ListNew
import PyProof.RulesAssignMore
import PyProof.ReprRoads
import PyProof.FitsInt
import PyProof.Rows.Range3
import KE.KSortKey
import KE.KLam
import PyProof.CallFns
import PyProof.StrWalks
import KE.KIntText
import PySem.Challenge.RW_rayround_k56_weights_without_a_body
set_option maxRecDepth 100000
set_option linter.all false
set_option Elab.async false
set_option maxHeartbeats 4000000
noncomputable section
set_option bootstrap.genMatcherCode false
set_option genSizeOf false
set_option genSizeOfSpec false
set_option compiler.extract_closed false
open PySem PySem.Spec
noncomputable abbrev Fg:=PySem.W.Frag
noncomputable abbrev Vp:=Value->Shared->Prop
noncomputable abbrev Pn:=List (Addr×Obj)
noncomputable abbrev Wb:=@wpAny_bind
noncomputable abbrev Hq:=@Heap.get?_push_of_some
noncomputable abbrev Hz:=@Heap.lt_size
noncomputable abbrev Wp:=@wpAny_pure
noncomputable abbrev Gq:=@List.getElem?_eq_getElem
theorem Qrf(h:0=0:=by rfl):True:=trivial
theorem Qde(h:0=0:=by decide):True:=trivial
theorem Qin(h:0=0:=by intro _;rfl):True:=trivial
namespace DQ
open PyProof.Rows
noncomputable def ZaJ(A:Around)(h:Heap):Prop:=A.handled=none\/∃ea oe vs,A.handled=some (.ref ea)/\h.get? ea=some oe/\oe.data=.fields vs/\vs[2]?=some .none
theorem ZaJ.keeps(q:ZaJ A h)(k:∀b o,h.get? b=some o->h'.get? b=some o):ZaJ A h':=by
 rcases q with q|⟨ea,oe,vs,e1,e2,e3,e4⟩
 ·exact .inl q
 ·exact .inr ⟨ea,oe,vs,e1,k _ _ e2,e3,e4⟩
theorem Zdi:entryFor table "proto.unchain"=some Builtin.«proto.unchain» :=entryFor_of_fast (by kernel_rfl)
theorem ZeV{Q:α->Shared->Prop}(q:ZaJ A s.heap)(he:s.heap.get? e=some oe)(hd:oe.data=.fields vs)(hz:2<vs.size)(h:∀h',(∀b o,b≠e->s.heap.get? b=some o->h'.get? b=some o)->(∃o,h'.get? e=some o/\o.cls=oe.cls)->E (.ref e) {s with heap:=h'}):wpAny (model prog w) A (raiseNew (.ref e):Sem α) Q E s:=by
 have same:E (.ref e) s:=h s.heap (fun _ _ _ x=>x) ⟨oe,he,rfl⟩;unfold raiseNew;refine Wb (wpAny_handled ?_);rcases q with q|⟨ea,oa,ws,q1,q2,q3,q4⟩
 ·rw[q];exact Wb (Wp (wpAny_throw same))
 ·rw[q1];dsimp only;by_cases c:(Value.ref ea != Value.ref e)=true
  ·rw[if_pos c];refine Wb (wpAny_holding (wpAny_runValue (codeAny_builtin Zdi ?_)));unfold Builtin.«proto.unchain»;refine Wb (wpAny_field q2 q3 q4 ?_);refine Wb (Wp ?_);have sf:wpAny (model prog w) A (setField (.ref e) 2 (.ref ea)) (fun _ s'=>wpAny (model prog w) A (throw (Value.ref e):Sem α) Q E s') E s:=by
    refine wpAny_setField he hd hz (wpAny_throw (h _ (fun b o hb x=>?_) ⟨_,Heap.get?_update_self _ he (Obj.isFreed_of_fields (Obj.data_mapFields hd _)),Obj.cls_mapFields _ _⟩));rw[Heap.get?_update_other _ _ (Ne.symm hb)];exact x
   exact Wp (Wb sf)
  ·rw[if_neg c];exact wpAny_throw same
theorem Zbc{Q:α->Shared->Prop}(q:ZaJ A s.heap)(h:∀h' e,(∀b o,s.heap.get? b=some o->h'.get? b=some o)->(∃o,h'.get? e=some o/\o.cls=.type "StopIteration")->E (.ref e) {s with heap:=h'}):wpAny (model prog w) A (newExc (.type "StopIteration") [] >>= fun x=>(raiseNew x:Sem α)) Q E s:=by
 refine Wb ?_;simp only[newExc,newTuple];refine Wb (wpAny_newObj_type ?_ (by size_fits))
 refine Wb (m:=firstArgMember _ _) (wpAny_of_eq (a:=Value.none) (by first|rfl|(simp only[firstArgMember];rfl)) ?_)
 refine wpAny_newObj_type ?_ (by size_fits)
 refine ZeV (q.keeps fun b o x=>Hq _ (Hq _ x)) (Heap.get?_push_size _ rfl) rfl (by rw[Array.size_append];exact Nat.lt_of_lt_of_le (by decide:2<6) (Nat.le_add_right _ _)) fun h' k he=>?_
 exact h h' _ (fun b o x=>k b o (Nat.ne_of_lt (Nat.lt_of_lt_of_le (Hz x) (by rw[Heap.size_push];exact Nat.le_succ _))) (Hq _ (Hq _ x))) he
theorem ZlA(he:∃o,s.heap.get? e=some o/\o.cls=.type "StopIteration")(h:Q true s):wpAny (model prog w) A (isInstance (.ref e) (.type "StopIteration")) Q E s:=
 let ⟨o,e1,e2⟩:=he
 wpAny_isInstance (T:="StopIteration") (b:=true) ⟨o,e1,e2⟩ isSubtype_stop h
theorem ZaJ.in1(q:ZaJ A h):ZaJ A.in1 h:=q
noncomputable def Zfz(it:Addr)(s:Shared)(e:Value)(s':Shared):Prop:=∃a,e=.ref a/\(∃o,s'.heap.get? a=some o/\o.cls=.type "StopIteration")/\∃h',Heap.ExtBut it s.heap h'/\s'={s with heap:=h'}
theorem ZfA{id:String}(hT:s.TypeIs (.ref it) T)(sl:Slot T (Str.ofString "__next__") id)(hb:entryFor table id=some b)(ha:argsOk id ⟨[.ref it],[]⟩)(h:wpAny (model prog w) A.in1 (b ⟨[.ref it],[]⟩) (fun _ _=>False) (Zfz it s) s)(hQ:∀h',Heap.ExtBut it s.heap h'->Q none {s with heap:=h'}):wpAny (model prog w) A (pyNext (.ref it)) Q E s:=by
 unfold pyNext;refine Wb (wpAny_attempt (wpAny_callSpecial?_slot (name:=Str.ofString "__next__") hT sl (wpAny_call_entry sl hT hb (wpAny_mono h (fun _ _ z=>z.elim) fun e s' z=>?_) ha)));obtain⟨a,rfl,ho,h',eb,rfl⟩:=z;exact Wb (ZlA ho (Wp (hQ h' eb)))
theorem ZdU{step:Int}(q:ZaJ A s.heap)(hit:IsRangeIter s.heap it x left step)(hl:left<=0)(hQ:∀h',Heap.ExtBut it s.heap h'->Q none {s with heap:=h'}):wpAny (model prog w) A (pyNext (.ref it)) Q E s:=by
 refine ZfA ⟨_,hit,rfl⟩ F.slot_range_iterator_next F.entry_range_iterator_next (F.args_range_iterator_next_1 _) ?_ hQ;refine Wb (m:=field (.ref it) 0) (wpAny_field hit rfl (x:=rawInt x) rfl ?_);refine Wb (m:=field (.ref it) 1) (wpAny_field hit rfl (x:=rawInt left) rfl ?_);refine Wb (m:=field (.ref it) 2) (wpAny_field hit rfl (x:=rawInt step) rfl ?_);dsimp only[rawInt];rw[if_pos hl];refine Wb (wpAny_rule (Wb ?_));exact Zbc q.in1 fun h' e k ho=>⟨e,rfl,ho,h',fun b o _ z=>k b o z,rfl⟩
theorem ZnH{i:Nat}(q:ZaJ A s.heap)(ho:s.heap.get? it=some o)(hd:o.data=.fields #[.ref l,.int i 0])(hol:s.heap.get? l=some ol)(hdl:ol.data=.seq items n)(hx:items[i]?=none):wpAny (model prog w) A.in1 (Builtin.«list_iterator.__next__» ⟨[.ref it],[]⟩) (fun _ _=>False) (Zfz it s) s:=by
 refine Wb (m:=field (.ref it) 0) (wpAny_field ho hd (x:=.ref l) rfl ?_);dsimp only;rw[if_neg (show ¬((Value.ref l==Value.none)=true)from Bool.false_ne_true)];refine Wb (m:=field (.ref it) 1) (wpAny_field ho hd (x:=.int i 0) rfl ?_);refine Wb (m:=seqItems? (.ref l)) (wpAny_seqItems hol hdl ?_);simp only[Int.toNat_natCast,hx];refine Wb (wpAny_rule (Wb (wpAny_setField ho hd (by simp) ?_)))
 have q2:ZaJ A.in1 (s.heap.update it (Obj.mapFields (·.setIfInBounds 0 Value.none))):=by
  rcases q with q|⟨ea,oe,vs,e1,e2,e3,e4⟩
  ·exact .inl q
  ·refine .inr ⟨ea,oe,vs,e1,?_,e3,e4⟩;rw[Heap.get?_update_other _ _ (fun z=>?_)]
   ·exact e2
   ·rw[<-z,ho]at e2;cases e2;rw[hd]at e3;cases e3;simp at e4
 refine Zbc q2 fun h' e k ho=>⟨e,rfl,ho,h',fun b o hb z=>k b o ?_,rfl⟩;rw[Heap.get?_update_other _ _ (Ne.symm hb)];exact z
theorem ZnI{i:Nat}(q:ZaJ A s.heap)(ho:s.heap.get? it=some o)(hd:o.data=.fields #[.ref l,.int i 0])(hol:s.heap.get? l=some ol)(hdl:ol.data=.seq items n)(hx:items[i]?=none):wpAny (model prog w) A.in1 (Builtin.«tuple_iterator.__next__» ⟨[.ref it],[]⟩) (fun _ _=>False) (Zfz it s) s:=by
 refine Wb (m:=field (.ref it) 0) (wpAny_field ho hd (x:=.ref l) rfl ?_);dsimp only;rw[if_neg (show ¬((Value.ref l==Value.none)=true)from Bool.false_ne_true)];refine Wb (m:=field (.ref it) 1) (wpAny_field ho hd (x:=.int i 0) rfl ?_);refine Wb (m:=seqItems? (.ref l)) (wpAny_seqItems hol hdl ?_);simp only[Int.toNat_natCast,hx];refine Wb (wpAny_rule (Wb (wpAny_setField ho hd (by simp) ?_)))
 have q2:ZaJ A.in1 (s.heap.update it (Obj.mapFields (·.setIfInBounds 0 Value.none))):=by
  rcases q with q|⟨ea,oe,vs,e1,e2,e3,e4⟩
  ·exact .inl q
  ·refine .inr ⟨ea,oe,vs,e1,?_,e3,e4⟩;rw[Heap.get?_update_other _ _ (fun z=>?_)]
   ·exact e2
   ·rw[<-z,ho]at e2;cases e2;rw[hd]at e3;cases e3;simp at e4
 refine Zbc q2 fun h' e k ho=>⟨e,rfl,ho,h',fun b o hb z=>k b o ?_,rfl⟩;rw[Heap.get?_update_other _ _ (Ne.symm hb)];exact z
theorem Zjv{items}(q:ZaJ A s.heap)(hit:s.heap.IsListIter it l i)(hl:s.heap.IsList l items)(hx:items[i]?=none)(hQ:∀h',Heap.ExtBut it s.heap h'->Q none {s with heap:=h'}):wpAny (model prog w) A (pyNext (.ref it)) Q E s:=by
 obtain⟨o,ho,hc,hd⟩:=id hit;obtain⟨ol,hol,_,nl,hdl⟩:=hl;exact ZfA hit.typeIs slot_listiter_next entry_listiter_next (args_listiter_next _) (ZnH q ho hd hol hdl hx) hQ
theorem ZgW{items}(q:ZaJ A s.heap)(hit:s.heap.IsTupleIter it l i)(hl:s.heap.IsTuple l items)(hx:items[i]?=none)(hQ:∀h',Heap.ExtBut it s.heap h'->Q none {s with heap:=h'}):wpAny (model prog w) A (pyNext (.ref it)) Q E s:=by
 obtain⟨o,ho,hc,hd⟩:=id hit;obtain⟨ol,hol,_,nl,hdl⟩:=hl;exact ZfA hit.typeIs F.slot_tuple_iterator_next F.entry_tuple_iterator_next (F.args_tuple_iterator_next_1 _) (ZnI q ho hd hol hdl hx) hQ
end DQ
namespace PySem
namespace NK
variable {prog:Program}{w:World}{K:Type}[DecidableEq K](knd:KeyKind prog w K)
inductive ItemsT(h:Heap):List (List K)->List Value->Prop where
 |nil:ItemsT h [] []
 |cons {k:List K} {a:Addr} {ks:List (List K)} {vs:List Value}:IsTupleKey knd h k a->ItemsT h ks vs->ItemsT h (k::ks) (.ref a::vs)
noncomputable def Zap(h:Heap)(ks:List (List K))(a:Addr):Prop:=∃o items n,h.get? a=some o/\o.cls=.type "tuple"/\o.data=.seq items n/\ItemsT knd h ks items.toList
variable {knd}
theorem ItemsT.inj{h:Heap}{x y:List (List K)}{vs:List Value}(hx:ItemsT knd h x vs):ItemsT knd h y vs->x=y:=by
 intro hy
 induction hx generalizing y with
 |nil=>cases hy;rfl
 |cons k1 _ ih=>
  cases hy with
  |cons k2 t=>rw[k1.inj k2,ih t]
theorem Zap.typeIs{s:Shared}{ks:List (List K)}{a:Addr}(x:Zap knd s.heap ks a):s.TypeIs (.ref a) "tuple":=let ⟨o,_,_,ho,hc,_⟩:=x;⟨o,ho,hc⟩
theorem Zap.inj{h:Heap}{a:Addr}{x y:List (List K)}(hx:Zap knd h x a)(hy:Zap knd h y a):x=y:=by
 obtain⟨o,i1,n1,e1,_,d1,q1⟩:=hx;obtain⟨o2,i2,n2,e2,_,d2,q2⟩:=hy;rw[e1]at e2;cases e2;rw[d1]at d2;cases d2;exact q1.inj q2
theorem ItemsT.keeps{h h':Heap}{ks:List (List K)}{vs:List Value}{d:Addr}{o:Obj}{es ep}(x:ItemsT knd h ks vs)(ho:h.get? d=some o)(hd:o.data=.dict es ep)(hs:Heap.SameBut d h h'):ItemsT knd h' ks vs:=by
 induction x with
 |nil=>exact .nil
 |cons k _ ih=>exact .cons (k.keeps ho hd hs) ih
theorem Zap.keeps{h h':Heap}{ks:List (List K)}{a d:Addr}{o:Obj}{es ep}(x:Zap knd h ks a)(ho:h.get? d=some o)(hd:o.data=.dict es ep)(hs:Heap.SameBut d h h'):Zap knd h' ks a:=by
 obtain⟨o1,items,n,e1,c1,d1,q⟩:=x;have ne:a≠d:=by
  intro z;subst z;rw[e1]at ho;cases ho;rw[d1]at hd;cases hd
 exact⟨o1,items,n,by rw[hs.2 a ne];exact e1,c1,d1,q.keeps ho hd hs⟩
noncomputable def ZlB(knd:KeyKind prog w K)(ks:List (List K)):Int:=reduceHash (Builtin.Tuple.tupleHashOf (ks.map (tupleKeyHash knd)))
noncomputable def Zc2(ks:List (List K)):Nat:=(ks.map fun k=>k.length+1).sum
variable {A:Around}{E:Vp}{s:Shared}
theorem ZgX{ks:List (List K)}{a:Addr}{Q:Int->Shared->Prop}(hu:A.units+1<cLine)(hk:Zap knd s.heap ks a)(h:Q (ZlB knd ks) {s with toks:=s.toks+(Zc2 ks+1)}):wpAny (model prog w) A (pyHash (.ref a)) Q E s:=by
 have hT:=hk.typeIs;obtain⟨o,items,n,ho,_,hd,hi⟩:=hk;unfold pyHash
 first|unfold pyHashByItsType|skip
 first|refine Wb (wpAny_cRoomFor_or (.inr (by lia)) ?_)|skip
 refine Wb (wpAny_specialOf hT F.slot_tuple_hash.lookup ?_);show wpAny _ _ (if(some (Value.builtin "tuple.__hash__")==some Value.none)=true then _ else _) Q E s
 rw[if_neg (by rw[beq_builtin_none];exact Bool.false_ne_true)]
 refine Wb (wpAny_specialOf hT F.slot_tuple_hash.lookup ?_);show wpAny _ _ (callSpecialIfBoundUnlessNone? (.ref a) "__hash__" _ >>= _) Q E s;refine Wb (wpAny_callSpecialIfBoundUnlessNone?_slot hT F.slot_tuple_hash (wpAny_call_entry F.slot_tuple_hash hT F.entry_tuple_hash ?_ (F.args_tuple_hash_1 _)));show wpAny _ _ (Builtin.Tuple.tupleItemsOf (.ref a) >>= _) _ _ s;refine Wb (wpAny_tupleItemsOf ho hd ?_);refine Wb ?_;rw[<-Array.forIn_toList];refine wpAny_forIn_list _
  (fun rest (b:Array Int) s'=>∃done left,ks=done++left/\ItemsT knd s.heap left rest/\b.toList=done.map (tupleKeyHash knd)/\s'={s with toks:=s.toks+Zc2 done})
  _ ?_ ?_ _ _ ⟨[],ks,rfl,hi,rfl,rfl⟩
 ·rintro x rest b s' ⟨done,left,rfl,hl,hb,rfl⟩;cases hl with
  |@cons k a' ks' _ h1 hl'=>
   refine Wb (wpAny_pyHash_tuple (knd:=knd) (ks:=k) (s:={s with toks:=s.toks+Zc2 done}) (by exact hu) h1 ?_)
   first
    |exact Wp ⟨done++[k],ks',by simp,hl',by simp[hb],by simp[Zc2,Nat.add_assoc]⟩
    |exact Wb (Wp (Wp ⟨done++[k],ks',by simp,hl',by simp[hb],by simp[Zc2,Nat.add_assoc]⟩))
 ·rintro b s' ⟨done,left,rfl,hl,hb,rfl⟩;cases hl;rw[List.append_nil]at h;show wpAny _ _ (retInt (Builtin.Tuple.tupleHashOf b.toList)) _ _ _;rw[hb];refine wpAny_ret_mkInt ?_;show wpAny _ _ (if(decide (-(2:Int)^63<=Builtin.Tuple.tupleHashOf (done.map (tupleKeyHash knd)))&&decide (Builtin.Tuple.tupleHashOf (done.map (tupleKeyHash knd))<2^63))=true then _ else _) Q E _
  unfold ZlB reduceHash at h;by_cases hr:(decide (-(2:Int)^63<=Builtin.Tuple.tupleHashOf (done.map (tupleKeyHash knd)))&&decide (Builtin.Tuple.tupleHashOf (done.map (tupleKeyHash knd))<2^63))=true
  ·rw[if_pos hr];rw[if_pos hr]at h;exact Wp (by simpa [Nat.add_assoc]using h)
  ·rw[if_neg hr];rw[if_neg hr]at h;exact Wb (wpAny_rule (Wp (by simpa [Nat.add_assoc]using h)))
theorem ZlC{x y:List (List K)}{a b:Addr}{P:Fin->Shared->Prop}(hu:A.units<cLine)(hx:Zap knd s.heap x a)(hy:Zap knd s.heap y b)(h:P (.done (.ret (.bool (decide (x=y))))) s):wpAny (model prog w) A (Builtin.«tuple.__eq__» ⟨[.ref a,.ref b],[]⟩) P E s:=by
 have hTb:=hy.typeIs;obtain⟨oa,xs,na,hoa,_,hda,hia⟩:=hx;obtain⟨ob,ys,nb,hob,_,hdb,hib⟩:=hy;show wpAny _ _ (isInstance (.ref b) (.type "tuple") >>= _) _ _ s;refine Wb (wpAny_isInstance hTb isSubtype_tuple_tuple ?_);simp only[Bool.not_true,Bool.false_eq_true,if_false];refine Wb (wpAny_tupleItemsOf hoa hda ?_);refine Wb (wpAny_tupleItemsOf hob hdb ?_);refine Wb ?_;refine wpAny_forIn_list _
  (fun rest r s'=>r.1=none/\s'=s/\∃x' y' xs' ys',rest=List.zip xs' ys'/\ItemsT knd s.heap x' xs'/\ItemsT knd s.heap y' ys'/\decide (x'=y')=decide (x=y)/\(xs'.length==ys'.length)=(xs.size==ys.size))
  _ ?_ ?_ _ _ ⟨rfl,rfl,x,y,xs.toList,ys.toList,rfl,hia,hib,rfl,by simp⟩
 ·rintro⟨u,v⟩ rest r s' ⟨hr,rfl,x',y',xs',ys',hz,hx',hy',hdec,hlen⟩;cases hx' with
  |nil=>simp at hz
  |@cons k1 u' x'' xs'' h1 hx''=>
   cases hy' with
   |nil=>simp at hz
   |@cons k2 v' y'' ys'' h2 hy''=>
    simp only[List.zip_cons_cons,List.cons.injEq,Prod.mk.injEq]at hz;obtain⟨⟨rfl,rfl⟩,rfl⟩:=hz;refine Wb (wpAny_eqBool_tuple (knd:=knd) (x:=k1) (y:=k2) hu h1 h2 ?_);by_cases hk:k1=k2
    ·subst hk;rw[decide_eq_true rfl];simp only[Bool.not_true,Bool.false_eq_true,if_false];refine Wp ⟨rfl,rfl,x'',y'',xs'',ys'',rfl,hx'',hy'',?_,by simpa using hlen⟩
     rw[<-hdec];by_cases hxy:x''=y''
     ·simp[hxy]
     ·simp[hxy]
    ·rw[decide_eq_false hk];simp only[Bool.not_false,if_true];have hf:decide (x=y)=false:=by rw[<-hdec];simp[hk]
     rw[hf]at h;exact Wb (Wp (Wp (Wp h)))
 ·rintro⟨r1,r2⟩ s' ⟨hr,rfl,x',y',xs',ys',hz,hx',hy',hdec,hlen⟩;simp only at hr;subst hr;refine Wp ?_;have hfin:(xs.size==ys.size)=decide (x=y):=by
   rw[<-hdec,<-hlen];cases hx' with
   |nil=>
    cases hy' with
    |nil=>simp
    |cons _ _=>simp
   |cons _ _=>
    cases hy' with
    |nil=>simp
    |cons _ _=>simp at hz
  show P (.done (.ret (.bool (xs.size==ys.size)))) s';rw[hfin];exact h
theorem ZlD{x y:List (List K)}{a b:Addr}{Q:Bool->Shared->Prop}(hu:A.units+1<cLine)(hx:Zap knd s.heap x a)(hy:Zap knd s.heap y b)(h:Q (decide (x=y)) s):wpAny (model prog w) A (eqBool (.ref a) (.ref b)) Q E s:=by
 unfold eqBool
 try with_reducible refine wpAny_holding ?_
 show wpAny _ _ (if(Value.ref a==Value.ref b)=true then _ else _) Q E s
 by_cases hab:(Value.ref a==Value.ref b)=true
 ·rw[if_pos hab];have e:a=b:=by have:=eq_of_beq hab;injection this
  subst e;obtain rfl:=hx.inj hy;exact Wb (wpAny_rule (Wp (by simpa using h)))
 ·rw[if_neg hab];exact Wb (wpAny_richCompare_same_room (op:=.Eq) hx.typeIs hy.typeIs F.slot_tuple_eq
   (wpAny_call_entry F.slot_tuple_eq hx.typeIs F.entry_tuple_eq (ZlC (by exact hu) hx hy ⟨_,rfl,(fun e=>nomatch e),wpAny_truthy_bool h⟩) (F.args_tuple_eq_2 _ _)) (by lia))
theorem ZgY{ks:List K}{a:Addr}{Q:Bool->Shared->Prop}(m:Nat)(hk:IsTupleKey knd s.heap ks a)(h:Q true s):wpAny (model prog w) A (eqIsQuiet (m+1) (.ref a)) Q E s:=by
 have hT:=hk.typeIs;obtain⟨o,items,n,ho,_,hd,hi⟩:=hk;unfold eqIsQuiet;refine Wb (wpAny_specialOf hT F.slot_tuple_eq.lookup ?_);show wpAny _ _ (isInstance (.ref a) (.type "tuple") >>= _) _ _ s;refine Wb (wpAny_isInstance hT isSubtype_tuple_tuple ?_);simp only[Bool.not_true,Bool.false_eq_true,if_false];refine Wb (wpAny_seqItems ho hd ?_);refine Wb ?_;show wpAny _ _ (forIn items _ _) _ _ s;rw[<-Array.forIn_toList];refine wpAny_forIn_list _ (fun rest r s'=>r.1=none/\s'=s/\∀v∈rest,carriedByValue v=true) _ ?_ ?_ _ _ ⟨rfl,rfl,hi.byValue⟩
 ·rintro v rest r s' ⟨hr,rfl,hall⟩;rw[eqIsQuiet_byValue _ (hall v List.mem_cons_self)];refine Wb (Wp ?_);simp only[Bool.not_true,Bool.false_eq_true,if_false];exact Wp ⟨rfl,rfl,fun u hu'=>hall u (List.mem_cons_of_mem _ hu')⟩
 ·rintro⟨r1,r2⟩ s' ⟨hr,rfl,_⟩;simp only at hr;subst hr;exact Wp h
theorem Zgr{ks:List (List K)}{a:Addr}{Q:Bool->Shared->Prop}(hk:Zap knd s.heap ks a)(h:Q true s):wpAny (model prog w) A (eqIsQuiet 8 (.ref a)) Q E s:=by
 have hT:=hk.typeIs;obtain⟨o,items,n,ho,_,hd,hi⟩:=hk;unfold eqIsQuiet;refine Wb (wpAny_specialOf hT F.slot_tuple_eq.lookup ?_);show wpAny _ _ (isInstance (.ref a) (.type "tuple") >>= _) _ _ s;refine Wb (wpAny_isInstance hT isSubtype_tuple_tuple ?_);simp only[Bool.not_true,Bool.false_eq_true,if_false];refine Wb (wpAny_seqItems ho hd ?_);refine Wb ?_;show wpAny _ _ (forIn items _ _) _ _ s;rw[<-Array.forIn_toList];refine wpAny_forIn_list _ (fun rest r s'=>r.1=none/\s'=s/\∃ks',ItemsT knd s.heap ks' rest) _ ?_ ?_ _ _ ⟨rfl,rfl,ks,hi⟩
 ·rintro v rest r s' ⟨hr,rfl,ks',hall⟩;cases hall with
  |cons k1 t=>
   refine Wb (ZgY 6 k1 ?_);simp only[Bool.not_true,Bool.false_eq_true,if_false];exact Wp ⟨rfl,rfl,_,t⟩
 ·rintro⟨r1,r2⟩ s' ⟨hr,rfl,_⟩;simp only at hr;subst hr;exact Wp h
end NK
def Zce{prog:Program}{w:World}{K:Type}[DecidableEq K](knd:KeyKind prog w K):HeapKind prog w (List (List K)) where
 is:=NK.Zap knd
 hash:=NK.ZlB knd
 draws:=fun ks=>NK.Zc2 ks+1
 room:=fun A=>A.units+1<cLine
 inj:=fun hx hy=>hx.inj hy
 keeps:=fun x ho hd hs=>x.keeps ho hd hs
 pyHash:=fun hu hk h=>NK.ZgX hu hk h
 eqBool:=fun hu hx hy h=>NK.ZlD hu hx hy h
 quiet:=fun hk h=>NK.Zgr hk h
end PySem
namespace L2
open PyProof.Rows
noncomputable abbrev Key:=Sum Int Str
noncomputable def Zgs:Key->Value->Bool
 |.inl k,v=>Value.isInt k v
 |.inr x,v=>Value.isStrOf x v
noncomputable def Zt4(w:World):Key->Int
 |.inl k=>hashInt k
 |.inr x=>hashStr w x
theorem ZK:∀{k:Key}{v:Value},Zgs k v=true->(∃i t,k=Sum.inl i/\v=Value.int i t)\/(∃x t,k=Sum.inr x/\v=Value.str x t)
 |.inl i,v,h=>by
  obtain⟨t,e⟩:=Value.isInt_shape (k:=i) (v:=v) h;exact .inl ⟨i,t,rfl,e⟩
 |.inr x,v,h=>by
  obtain⟨t,e⟩:=Value.isStrOf_shape (x:=x) (v:=v) h;exact .inr ⟨x,t,rfl,e⟩
theorem ZgZ(i:Int)(t:Tok):Zgs (.inl i) (.int i t)=true:=by simp[Zgs,Value.isInt]
theorem Zg0(x:Str)(t:Tok):Zgs (.inr x) (.str x t)=true:=by simp[Zgs,Value.isStrOf]
theorem ZnJ(a b:Int):decide ((Sum.inl a:Key)=Sum.inl b)=(a==b):=by
 by_cases e:a=b
 ·subst e;simp
 ·have h:¬(Sum.inl a:Key)=Sum.inl b:=fun q=>e (Sum.inl.inj q);rw[decide_eq_false h];exact(beq_eq_false_iff_ne.mpr e).symm
theorem ZnK(a b:Str):decide ((Sum.inr a:Key)=Sum.inr b)=decide (a=b):=by
 by_cases e:a=b
 ·subst e;simp
 ·have h:¬(Sum.inr a:Key)=Sum.inr b:=fun q=>e (Sum.inr.inj q);rw[decide_eq_false h,decide_eq_false e]
theorem ZnL(a:Int)(b:Str):decide ((Sum.inl a:Key)=Sum.inr b)=false:=decide_eq_false (fun q=>nomatch q)
theorem ZnM(a:Str)(b:Int):decide ((Sum.inr a:Key)=Sum.inl b)=false:=decide_eq_false (fun q=>nomatch q)
def Zag(prog:Program)(w:World):PySem.KeyKind prog w Key where
 is:=Zgs
 hash:=Zt4 w
 inj:=fun v a b ha hb=>by
  rcases ZK ha with⟨i,t,rfl,rfl⟩|⟨x,t,rfl,rfl⟩
  ·rcases ZK hb with⟨j,u,rfl,e⟩|⟨y,u,rfl,e⟩
   ·injection e with e1 _;rw[e1]
   ·exact nomatch e
  ·rcases ZK hb with⟨j,u,rfl,e⟩|⟨y,u,rfl,e⟩
   ·exact nomatch e
   ·injection e with e1 _;rw[e1]
 byValue:=fun k v h=>by
  rcases ZK h with⟨i,t,rfl,rfl⟩|⟨x,t,rfl,rfl⟩<;>rfl
 pyHash:=fun hv h=>by
  rcases ZK hv with⟨i,t,rfl,rfl⟩|⟨x,t,rfl,rfl⟩
  ·exact wpAny_pyHash_int h
  ·exact wpAny_pyHash_str h
 eqBool:=fun hu hv h=>by
  rcases ZK hu with⟨i,t,rfl,rfl⟩|⟨x,t,rfl,rfl⟩
  ·rcases ZK hv with⟨j,u,rfl,rfl⟩|⟨y,u,rfl,rfl⟩
   ·rw[ZnJ]at h;exact wpAny_eqBool_int h
   ·rw[ZnL]at h;exact SeqAt.EqAt.int_str i t y u _ _ _ _ h
  ·rcases ZK hv with⟨j,u,rfl,rfl⟩|⟨y,u,rfl,rfl⟩
   ·rw[ZnM]at h;exact SeqAt.EqAt.str_int x t j u _ _ _ _ h
   ·rw[ZnK]at h;exact wpAny_eqBool_str h
 «strs» :=fun k x t v h=>by
  rcases ZK h with⟨i,u,rfl,e⟩|⟨y,u,rfl,e⟩
  ·exact nomatch e
  ·injection e with e1 _;subst e1;cases v<;>rfl
theorem ZeW(prog:Program)(w:World)(i:Int)(t:Tok):(Zag prog w).is (.inl i) (.int i t)=true:=ZgZ i t
theorem ZeX(prog:Program)(w:World)(x:Str)(t:Tok):(Zag prog w).is (.inr x) (.str x t)=true:=Zg0 x t
inductive V where
 |non|bl (b:Bool)|int (i:Int)|str (x:Str)|byt (b:Array UInt8)|flt (b:UInt64)|ref (a:Addr)|ty (n:String)
 deriving DecidableEq
noncomputable def ZR:V->Value->Prop
 |.non,u=>u=Value.none
 |.bl b,u=>u=Value.bool b
 |.int i,u=>∃t,u=Value.int i t
 |.str x,u=>∃t,u=Value.str x t
 |.byt b,u=>∃t,u=Value.bytes b t
 |.flt b,u=>∃t,u=Value.float b t
 |.ref a,u=>u=Value.ref a
 |.ty n,u=>u=Value.type n
abbrev ZS:List V->List Value->Prop:=Paired ZR
theorem ZS.length(r:ZS xs us):xs.length=us.length:=Paired.length r
theorem ZS.get:∀{xs:List V}{us:List Value}{i:Nat}{x:V},ZS xs us->xs[i]?=some x->∃u,us[i]?=some u/\ZR x u
 |_,_,_,_,.nil,e=>by simp at e
 |_,_,0,_,.cons r _,e=>by simp at e;subst e;exact⟨_,rfl,r⟩
 |_,_,i+1,x,.cons _ t,e=>by
  obtain⟨u,h1,h2⟩:=ZS.get (i:=i) (x:=x) t (by simpa using e)
  exact⟨u,by simpa using h1,h2⟩
theorem ZS.set{x:V}{u:Value}(r:ZR x u):∀{xs:List V}{us:List Value}(i:Nat),ZS xs us->ZS (xs.set i x) (us.set i u)
 |_,_,_,.nil=>.nil
 |_,_,0,.cons _ t=>.cons r t
 |_,_,i+1,.cons q t=>.cons q (ZS.set r i t)
theorem ZS.append:∀{xs ys:List V}{us ws:List Value},ZS xs us->ZS ys ws->ZS (xs++ys) (us++ws)
 |_,_,_,_,.nil,s=>s
 |_,_,_,_,.cons r t,s=>.cons r (ZS.append t s)
theorem ZS.take:∀{xs:List V}{us:List Value}(n:Nat),ZS xs us->ZS (xs.take n) (us.take n)
 |_,_,0,_=>.nil
 |_,_,_+1,.nil=>.nil
 |_,_,n+1,.cons r t=>.cons r (ZS.take n t)
theorem ZS.drop:∀{xs:List V}{us:List Value}(n:Nat),ZS xs us->ZS (xs.drop n) (us.drop n)
 |_,_,0,r=>r
 |_,_,_+1,.nil=>.nil
 |_,_,n+1,.cons _ t=>ZS.drop n t
def ZqH:Option V->Option Value->Prop
 |some v,some u=>ZR v u
 |none,none=>True
 |_,_=>False
def KV{κ:Type}:List (κ×V)->List (κ×Value)->Prop:=Paired fun(p:κ×V) (q:κ×Value)=>p.1=q.1/\ZR p.2 q.2
noncomputable def kV:Key->V
 |.inl i=>.int i
 |.inr x=>.str x
inductive HO where
 |lst (xs:List V)
 |tup (xs:List V)
 |dK (kvs:List (Key×V))|dT (kvs:List (List Key×V))|dU (kvs:List (List (List Key)×V))
 |set (S:Int->Bool) (n:Nat)
 |ins (C dx:Addr) (fs:List (Str×V))
 |own (x:Addr)
 |xd (fs:List (Str×V))
 |met (f x:Addr)
 |rng (lo hi:Int)
 |frz (o:Obj) (u:HO)
 |tbl (ps:Array Value)
 |ext (φ:Heap->Prop)
noncomputable abbrev Hp:=Addr->Option HO
noncomputable def upd(H:Hp)(a:Addr)(o:HO):Hp:=fun b=>if b=a then some o else H b
theorem Zs:upd H a o a=some o:=by unfold upd;rw[if_pos rfl]
theorem Zz(h:b≠a):upd H a o b=H b:=by unfold upd;rw[if_neg h]
theorem ZqT{H:Hp}(h:H a=some o)(h':H b=some u)(d:o≠u):a≠b:=by
 intro e;subst e;rw[h]at h';exact d (Option.some.inj h')
theorem ZW{H:Hp}(h:H a=some o)(h':H b=none):a≠b:=by
 intro e;subst e;rw[h]at h';cases h'
def Zaq(H:Hp)(ks:List (List Key))(b:Addr):Prop:=∃cs:List Addr,H b=some (.tup (cs.map V.ref))/\Paired (fun(k:List Key) (c:Addr)=>H c=some (.tup (k.map kV))) ks cs
section
variable (P:Program)(w:World)
def ZaH(H:Hp)(h:Heap)(a:Addr):HO->Prop
 |.lst xs=>xs.length<=sizeLine/\∃(its:List Value) (n:Nat),ZS xs its/\h.get? a=some {cls:=.type "list",data:=.seq its.toArray n}
 |.tup xs=>xs.length<=sizeLine/\∃its:List Value,ZS xs its/\IsTup h a its.toArray
 |.dK kvs=>kvs.length<=sizeLine/\(a==sysModules)=false/\∃vs,KV kvs vs/\h.DictOf (Zag P w) a vs
 |.dT kvs=>kvs.length<=sizeLine/\(a==sysModules)=false/\∃xs:List (List Key×Addr×Value),
   Paired (fun(p:List Key×V) (q:List Key×Addr×Value)=>p.1=q.1/\H q.2.1=some (.tup (p.1.map kV))/\ZR p.2 q.2.2) kvs xs/\
   ∃o es ep,h.get? a=some o/\o.ExactDict/\o.data=.dict es ep/\es.toList=xs.map (entryOfKey (tupleKind (Zag P w)))/\(xs.map (·.1)).Nodup
 |.dU kvs=>kvs.length<=sizeLine/\(a==sysModules)=false/\∃xs:List (List (List Key)×Addr×Value),
   Paired (fun(p:List (List Key)×V) (q:List (List Key)×Addr×Value)=>p.1=q.1/\Zaq H p.1 q.2.1/\ZR p.2 q.2.2) kvs xs/\
   ∃o es ep,h.get? a=some o/\o.ExactDict/\o.data=.dict es ep/\es.toList=xs.map (entryOfKey (Zce (Zag P w)))/\(xs.map (·.1)).Nodup
 |.set S n=>h.SetOf (intKind P w) a S n
 |.ins C dx fs=>H dx=some (.own a)/\fs.length<=1000/\dx≠a/\h.get? a=some (PySem.W.instObj C dx)/\
   ∃mA,h.Ns1 dx mA/\(∀f,ZqH (fs.lookup f) (mA f))/\PySem.Within mA (fs.map (·.1))
 |.own _=>∃o,h.get? a=some o
 |.xd fs=>∃mA,h.Ns1 a mA/\∀f,ZqH (fs.lookup f) (mA f)
 |.rng lo hi=>∃t u v,h.get? a=some {cls:=.type "range",data:=.fields #[.int lo t,.int hi u,.int 1 v]}
 |.frz o u=>h.get? a=some o/\ZaH H h a u
 |.tbl ps=>h.get? a=some {cls:=.none,data:=.fields ps}/\TriplesOk ps.toList/\∀pos cv,codeAmong pos ps.toList=some cv->∃c' o vs q t,cv=.ref c'/\H c'=some (.own a)/\h.get? c'=some o/\o.data=.fields vs/\vs[1]?=some (.str q t)
 |.met f x=>h.get? a=some (PySem.W.methodObj (.ref f) (.ref x))
 |.ext φ=>φ h/\(∃o,h.get? a=some o)/\∀h1 h2:Heap,φ h1->(∀o,h1.get? a=some o->h2.get? a=some o)->φ h2
def HOk(H:Hp)(h:Heap):Prop:=∀a o,H a=some o->ZaH P w H h a o
end
section
variable {a:Addr}
theorem ZaH.lt(x:ZaH P w H h a o):a<h.objs.size:=by
 cases o with
 |lst xs=>obtain⟨_,_,_,_,e⟩:=x;exact Hz e
 |tup xs=>obtain⟨_,_,_,p⟩:=x;exact p.lt
 |dK kvs=>obtain⟨_,_,_,_,o,_,_,e,_⟩:=x;exact Hz e
 |dT kvs=>obtain⟨_,_,_,_,o,_,_,e,_⟩:=x;exact Hz e
 |dU kvs=>obtain⟨_,_,_,_,o,_,_,e,_⟩:=x;exact Hz e
 |set S n=>obtain⟨o,_,_,_,e,_⟩:=x;exact Hz e
 |ins C dx fs=>obtain⟨_,_,_,e,_⟩:=x;exact Hz e
 |own y=>obtain⟨_,e⟩:=x;exact Hz e
 |xd fs=>obtain⟨_,⟨_,_,_,e,_⟩,_⟩:=x;exact Hz e
 |rng lo hi=>obtain⟨_,_,_,e⟩:=x;exact Hz e
 |frz ob u=>obtain⟨e,_⟩:=x;exact Hz e
 |tbl ps=>exact Hz x.1
 |met f y=>exact Hz (show h.get? a=some _ from x)
 |ext φ=>obtain⟨_,⟨_,e⟩,_⟩:=x;exact Hz e
theorem Paired.mapP{α β:Type}{F G:α->β->Prop}:∀{l₁:List α}{l₂:List β},Paired F l₁ l₂->(∀a b,F a b->G a b)->Paired G l₁ l₂
 |_,_,.nil,_=>.nil
 |_,_,.cons r t,f=>.cons (f _ _ r) (Paired.mapP t f)
theorem ZaH.stay(x:ZaH P w H h a o)(k:∀b u,(b=a\/H b=some (.own a))->h.get? b=some u->h'.get? b=some u)(ho:∀b,H b=some (.own a)->H' b=some (.own a))(ht:∀b xs,H b=some (.tup xs)->H' b=some (.tup xs)):ZaH P w H' h' a o:=by
 induction o with
 |lst xs=>obtain⟨z,its,n,r,e⟩:=x;exact⟨z,its,n,r,k _ _ (.inl rfl) e⟩
 |tup xs=>obtain⟨z,its,r,ob,e,c⟩:=x;exact⟨z,its,r,ob,k _ _ (.inl rfl) e,c⟩
 |dK kvs=>obtain⟨z,y,vs,r,ob,es,ep,e,c⟩:=x;exact⟨z,y,vs,r,ob,es,ep,k _ _ (.inl rfl) e,c⟩
 |dT kvs=>
  obtain⟨z,y,xs,r,ob,es,ep,e,c⟩:=x;exact⟨z,y,xs,Paired.mapP r fun p q z=>⟨z.1,ht _ _ z.2.1,z.2.2⟩,ob,es,ep,k _ _ (.inl rfl) e,c⟩
 |dU kvs=>
  obtain⟨z,y,xs,r,ob,es,ep,e,c⟩:=x;exact⟨z,y,xs,Paired.mapP r fun p q z=>⟨z.1,let ⟨cs,z1,z2⟩:=z.2.1;⟨cs,ht _ _ z1,Paired.mapP z2 fun _ _ t=>ht _ _ t⟩,z.2.2⟩,ob,es,ep,k _ _ (.inl rfl) e,c⟩
 |set S n=>obtain⟨ob,es,ep,t,e,c⟩:=x;exact⟨ob,es,ep,t,k _ _ (.inl rfl) e,c⟩
 |ins C dx fs=>
  obtain⟨d,z,ne,e,mA,⟨od,es,ep,e2,c⟩,r⟩:=x;exact⟨ho _ d,z,ne,k _ _ (.inl rfl) e,mA,⟨od,es,ep,k _ _ (.inr d) e2,c⟩,r⟩
 |own y=>obtain⟨ob,e⟩:=x;exact⟨ob,k _ _ (.inl rfl) e⟩
 |xd fs=>obtain⟨mA,⟨od,es,ep,e,c⟩,r⟩:=x;exact⟨mA,⟨od,es,ep,k _ _ (.inl rfl) e,c⟩,r⟩
 |rng lo hi=>obtain⟨t,u,v,e⟩:=x;exact⟨t,u,v,k _ _ (.inl rfl) e⟩
 |frz ob u ih=>obtain⟨e,q⟩:=x;exact⟨k _ _ (.inl rfl) e,ih q⟩
 |tbl ps=>
  exact⟨k a _ (.inl rfl) x.1,x.2.1,fun pos cv e=>let ⟨c',ob,vs,q,t,e1,e2,e3,e4⟩:=x.2.2 pos cv e;⟨c',ob,vs,q,t,e1,ho _ e2,k _ _ (.inr e2) e3,e4⟩⟩
 |met f y=>
  have e:h.get? a=some (PySem.W.methodObj (.ref f) (.ref y)):=x;show h'.get? a=some (PySem.W.methodObj (.ref f) (.ref y));exact k a _ (.inl rfl) e
 |ext φ=>obtain⟨p,⟨o,e⟩,st⟩:=x;exact⟨st _ _ p fun o q=>k _ _ (.inl rfl) q,⟨o,k _ _ (.inl rfl) e⟩,st⟩
theorem HOk.lt(x:HOk P w H h)(e:H a=some o):a<h.objs.size:=(x a o e).lt
theorem HOk.fresh(x:HOk P w H h)(e:h.objs.size<=a):H a=none:=by
 cases q:H a with
 |none=>rfl
 |some u=>exact absurd (Nat.lt_of_lt_of_le (x.lt q) e) (Nat.lt_irrefl _)
theorem HOk.kept(x:HOk P w H h)(k:∀b u,h.get? b=some u->h'.get? b=some u):HOk P w H h':=fun a o e=>
 (x a o e).stay (fun b u _ q=>k b u q) (fun _ q=>q) fun _ _ q=>q
theorem HOk.laid(x:HOk P w H h)(k:∀b u,h.get? b=some u->h'.get? b=some u)(hp:h.objs.size<=a)(new:ZaH P w (upd H a o) h' a o):HOk P w (upd H a o) h':=fun b u e=>by
 have hn:=x.fresh hp;by_cases hb:b=a
 ·subst hb;rw[Zs]at e;cases e;exact new
 ·rw[Zz hb]at e;exact(x b u e).stay (fun c v _ q=>k c v q) (fun c q=>by rw[Zz (ZW q hn)];exact q) fun c xs q=>by rw[Zz (ZW q hn)];exact q
end
noncomputable def Rd(H:Hp)(a:Addr)(u:HO):Prop:=H a=some u\/∃o,H a=some (.frz o u)
theorem Rd.ok(r:Rd H a u)(x:HOk P w H h):ZaH P w H h a u:=by
 rcases r with r|⟨o,r⟩
 ·exact x a u r
 ·obtain⟨_,q⟩:=x a _ r;exact q
noncomputable def Mut:Option HO->Prop
 |some (.lst _)=>True
 |some (.dK _)=>True
 |some (.dT _)=>True
 |some (.dU _)=>True
 |some (.set _ _)=>True
 |some (.ins _ _ _)=>True
 |some (.ext _)=>True
 |_=>False
theorem HOk.write(ok:HOk P w H h)(mu:Mut (H x))(he:e=x\/H e=some (.own x))(k:∀b u,b≠e->h.get? b=some u->h'.get? b=some u)(heo:∃u,h'.get? e=some u)(new:ZaH P w (upd H x o') h' x o'):HOk P w (upd H x o') h':=fun b u q=>by
 have nown:∀c y,H c=some (.own y)->c≠x:=fun c y r z=>by subst z;rw[r]at mu;exact mu
 have ntup:∀c xs,H c=some (.tup xs)->c≠x:=fun c xs r z=>by subst z;rw[r]at mu;exact mu
 by_cases hb:b=x
 ·subst hb;rw[Zs]at q;cases q;exact new
 ·rw[Zz hb]at q;by_cases hbe:b=e
  ·have q':H b=some (.own x):=by
    rcases he with z|z
    ·exact absurd (hbe.trans z) hb
    ·rw[hbe];exact z
   rw[q]at q';cases q';obtain⟨v,hv⟩:=heo;exact⟨v,by rw[hbe];exact hv⟩
  ·refine(ok b u q).stay (fun c v hc r=>k c v ?_ r) (fun c r=>by rw[Zz (nown c b r)];exact r) fun c xs r=>by rw[Zz (ntup c xs r)];exact r
   rcases hc with rfl|hc
   ·exact hbe
   ·rintro rfl;rcases he with z|z
    ·exact nown c b hc z
    ·rw[hc]at z;cases z;exact hb rfl
structure Un(fs ex:List Addr) (H H':Hp) (h h':Heap):Prop where
 keep:∀b o,h.get? b=some o->H b=none->b∉fs->b∉ex->h'.get? b=some o
 slot:∀b o,h.get? b=some o->H b=none->b∈fs->b∉ex->∃sl,h'.get? b=some {o with slots:=sl}
 free:∀b o,h.get? b=some o->H b=none->b∉ex->H' b=none
 there:∀b o,h.get? b=some o->b∉ex->∃o',h'.get? b=some o'
 tups:∀b xs,H b=some (.tup xs)->H' b=some (.tup xs)
 frzs:∀b o u,H b=some (.frz o u)->H' b=some (.frz o u)
 tbls:∀b ps,H b=some (.tbl ps)->∃more,H' b=some (.tbl (ps++more))
theorem Un.any(u:Un fs ex H H1 h h1)(q:h.get? b=some ob)(n:H b=none)(hx:b∉ex):∃sl,h1.get? b=some {ob with slots:=sl}:=by
 by_cases hb:b∈fs
 ·exact u.slot b ob q n hb hx
 ·exact⟨ob.slots,u.keep b ob q n hb hx⟩
theorem Un.kept(k:∀b u,h.get? b=some u->h'.get? b=some u):Un fs ex H H h h':=
 ⟨fun b ob q _ _ _=>k b ob q,fun b ob q _ _ _=>⟨ob.slots,k b ob q⟩,fun _ _ _ n _=>n,fun b ob q _=>⟨ob,k b ob q⟩,fun _ _ q=>q,fun _ _ _ q=>q,fun _ ps q=>⟨#[],by rw[q];simp⟩⟩
theorem Un.refl:Un fs ex H H h h:=Un.kept fun _ _ q=>q
theorem Un.laid(k:∀b u,h.get? b=some u->h'.get? b=some u)(hp:h.objs.size<=a)(hn:H a=none):Un fs ex H (upd H a o) h h' where
 keep:=fun b u q _ _ _=>k b u q
 slot:=fun b u q _ _ _=>⟨u.slots,k b u q⟩
 free:=fun b u q n _=>by rw[Zz (Nat.ne_of_lt (Nat.lt_of_lt_of_le (Hz q) hp))];exact n
 there:=fun b u q _=>⟨u,k b u q⟩
 tups:=fun b xs q=>by rw[Zz (ZW q hn)];exact q
 frzs:=fun b u xs q=>by rw[Zz (ZW q hn)];exact q
 tbls:=fun b ps q=>⟨#[],by rw[Zz (ZW q hn),q];simp⟩
theorem Un.write(mu:Mut (H x))(he:e=x\/H e=some (.own x))(k:∀b u,b≠e->h.get? b=some u->h'.get? b=some u)(heo:∃u,h'.get? e=some u):Un fs ex H (upd H x o) h h':=by
 have hx:∀b,H b=none->b≠x:=fun b n z=>by subst z;rw[n]at mu;exact mu
 have hb:∀b,H b=none->b≠e:=fun b n z=>by
  subst z;rcases he with r|r
  ·exact hx b n r
  ·rw[n]at r;cases r
 have hm:∀b u,H b=some u->¬Mut (some u)->b≠x:=fun b u q nm z=>by subst z;rw[q]at mu;exact nm mu
 refine⟨fun b u q n _ _=>k b u (hb b n) q,fun b u q n _ _=>⟨u.slots,k b u (hb b n) q⟩,fun b u q n _=>by rw[Zz (hx b n)];exact n,fun b u q _=>?_,
  fun b xs q=>by rw[Zz (hm b _ q fun z=>z)];exact q,fun b u xs q=>by rw[Zz (hm b _ q fun z=>z)];exact q,fun b ps q=>⟨#[],by rw[Zz (hm b _ q fun z=>z),q];simp⟩⟩
 by_cases hbe:b=e
 ·subst hbe;exact heo
 ·exact⟨u,k b u hbe q⟩
noncomputable def trk(h:Heap)(H:Hp):List Addr:=(List.range h.objs.size).filter fun a=>(H a).isSome
def Zjo(h:Heap)(H:Hp):Heap:=PySem.W.hideAll h (trk h H)
theorem Zg1(h:Heap)(H:Hp):(Zjo h H).objs.size=h.objs.size:=PySem.W.hideAll_size _ _
theorem ZfB(e:h.get? b=some o)(n:H b=none):(Zjo h H).get? b=some o:=
 PySem.W.hideAll_get _ e fun hm=>by
  have q:(H b).isSome=true:=(List.mem_filter.mp hm).2;rw[n]at q;simp at q
theorem Zg2(e:(Zjo h H).get? b=some o):h.get? b=some o/\H b=none:=by
 have e':h.get? b=some o:=PySem.W.of_hideAll (trk h H) e;refine⟨e',?_⟩;cases q:H b with
 |none=>rfl
 |some x=>
  have hm:b∈trk h H:=List.mem_filter.mpr ⟨List.mem_range.mpr (Hz e'),by simp[q]⟩
  have z:(Zjo h H).get? b=none:=PySem.W.hideAll_none (trk h H) hm;rw[z]at e;cases e
structure Mod(K:Fg) (mg:Str->Option Value) (base:Heap):Prop where
 kin:K.In base
 glob:base.Ns mainGlobals mg
 blt:∃mb,base.Ns builtinsNs mb/\∀x:Str,x≠"__name__"->mb x=bootBuiltins x
 nolimit:base.NoLimit
structure Cx where
 prog:Program
 w:World
 K:Fg
 mg:Str->Option Value
 base:Heap
 A:Around
 N:List Str
 s₀:Shared
 H₀:Hp
 env:Env
 outer:List Env
 stack:List Env
 ex:List Addr
 fn:Str->Bool
 calm:Bool
 pn:Pn
 xe:Vp
 fxs:Option (List Bool×List (Option V))
noncomputable def frs(l:List Env):List Addr:=l.filterMap (·.frame)
abbrev Cx.fs(X:Cx):List Addr:=frs X.outer
noncomputable def Vis(sc:Scope)(x:Str):Prop:=sc.names.lookup x=some .local\/sc.names.lookup x=some .cell\/sc.names.lookup x=some .free
noncomputable def Loc(sc:Scope)(x:Str):Prop:=sc.names.lookup x=some .local\/sc.names.lookup x=some .cell
noncomputable def Zt5(env:Env)(h:Heap)(m:Str->Option Value)(x:Str)(u:Value):Prop:=
 (env.kindOf x=some .local/\m x=some u)\/((env.kindOf x=some .cell\/env.kindOf x=some .free)/\∃c,env.cells.lookup x=some c/\h.IsCell c (some u))
noncomputable def TbP(K:Fg)(P:Addr):Prop:=∃(c:Addr) (o:Obj) (vs:Array Value),K.lookup c=some o/\o.cls=.type "code"/\o.data=.fields vs/\vs[11]?=some (.ref P)
def Tbs(K:Fg)(H:Hp):Prop:=∀P,TbP K P->∃ps,H P=some (.tbl ps)
theorem Tbs.un{K:Fg}(t:Tbs K H)(u:Un fs ex H H' h h'):Tbs K H':=fun P z=>let ⟨ps,e⟩:=t P z;let ⟨m,e'⟩:=u.tbls P ps e;⟨_,e'⟩
structure Cx.Ok(X:Cx):Prop where
 mod:Mod X.K X.mg X.base
 kind:X.env.scope.kind=.function
 glob:X.env.globals=mainGlobals
 blt:X.env.builtins=builtinsNs
 above:X.s₀.heap.objs.size<=X.env.locals
 inj:∀x y c,X.env.cells.lookup x=some c->X.env.cells.lookup y=some c->x=y
 has:∀x,(X.env.kindOf x=some .cell\/X.env.kindOf x=some .free)->∃c,X.env.cells.lookup x=some c
 cab:∀x c,X.fn x=true->X.env.cells.lookup x=some c->X.s₀.heap.objs.size<=c
 hd:X.calm=true->X.A.handled=none
 frames:X.A.frames=some X.stack
 stk:X.stack=X.outer\/(X.stack=X.env::X.outer/\X.env.frame=some X.env.locals)
 exf:∀b∈X.ex,b≠X.env.locals/\∀x c,X.env.cells.lookup x=some c->c≠b
 bs:∀b o,X.base.get? b=some o->X.s₀.heap.get? b=some o/\X.H₀ b=none
 bsz:X.base.objs.size<=X.s₀.heap.objs.size
 noex:∀b o,X.base.get? b=some o->b∉X.ex
 exfs:∀b∈X.ex,b∉X.fs
 funs:X.s₀.heap.FunFrames X.base X.outer
 frf:∀b∈X.fs,X.H₀ b=none
 tb:Tbs X.K X.H₀
noncomputable def Qd(A:Around)(H:Hp):Prop:=A.handled=none\/∃ea oe u vs,A.handled=some (.ref ea)/\H ea=some (.frz oe u)/\oe.data=.fields vs/\vs[2]?=some .none
theorem Qd.mono(q:Qd A H)(k:∀b o u,H b=some (.frz o u)->H' b=some (.frz o u)):Qd A H':=by
 rcases q with q|⟨ea,oe,u,vs,e1,e2,e3,e4⟩
 ·exact .inl q
 ·exact .inr ⟨ea,oe,u,vs,e1,k _ _ _ e2,e3,e4⟩
noncomputable def Cx.may(X:Cx)(i:Nat):Bool:=match X.fxs with|none=>true|some (W,_)=>W[i]? == some true
noncomputable def Cx.Fx(X:Cx)(σ:List (Option V)):Prop:=∀W σ0,X.fxs=some (W,σ0)->∀j:Nat,W[j]?=some false->σ[j]?=σ0[j]?
theorem Cx.Fx.free {X:Cx}(h:X.fxs=none):X.Fx σ:=fun W σ0 e=>by rw[h]at e;cases e
theorem Cx.Fx.set {X:Cx}(h:X.Fx σ)(m:X.may i=true):X.Fx (σ.set i v):=fun W σ0 e j hj=>by
 have ne:i≠j:=fun z=>by
  unfold Cx.may at m;rw[e,z]at m;have m':(W[j]? == some true)=true:=m;rw[hj]at m';cases m'
 rw[List.getElem?_set_ne ne];exact h W σ0 e j hj
structure Inv(X:Cx) (pins:Pn) (σ:List (Option V)) (H:Hp) (s:Shared):Prop where
 ok:X.Ok
 os:s.os=X.s₀.os
 bare:AllBare s.gens
 base:Un X.fs X.ex X.H₀ H X.s₀.heap s.heap
 loc:∃m,s.heap.Ns X.env.locals m/\∀(i:Nat)(x:Str)(v:V),X.N[i]?=some x->σ[i]?=some (some v)->Vis X.env.scope x->∃u,ZR v u/\Zt5 X.env s.heap m x u
 cell:∀x c,X.env.cells.lookup x=some c->∃v,s.heap.IsCell c v
 free:H X.env.locals=none
 freeC:∀x c,X.env.cells.lookup x=some c->H c=none
 pin:∀p∈X.pn++pins,s.heap.get? p.1=some p.2/\H p.1=none/\p.1≠X.env.locals/\p.1∉X.fs/\∀v,p.2.data≠ .cell v
 hok:HOk X.prog X.w H s.heap
 len:σ.length=X.N.length
 qd:Qd X.A H
 fx:X.Fx σ
section
variable {X:Cx}
theorem Cx.Ok.nofr (ok:X.Ok)(e:X.base.get? b=some o):b∉X.fs:=fun hb=>by
 have:=(ok.funs.mem hb).1
 rw[e]at this;cases this
theorem Inv.bs(I:Inv X pins σ H s):∀b o,X.base.get? b=some o->s.heap.get? b=some o/\H b=none:=fun b o e=>
 ⟨I.base.keep b o (I.ok.bs b o e).1 (I.ok.bs b o e).2 (I.ok.nofr e) (I.ok.noex b o e),I.base.free b o (I.ok.bs b o e).1 (I.ok.bs b o e).2 (I.ok.noex b o e)⟩
theorem Inv.qh(I:Inv X pins σ H s):DQ.ZaJ X.A s.heap:=by
 rcases I.qd with q|⟨ea,oe,u,vs,e1,e2,e3,e4⟩
 ·exact .inl q
 ·exact .inr ⟨ea,oe,vs,e1,(I.hok _ _ e2).1,e3,e4⟩
theorem Inv.bk(I:Inv X pins σ H s):∀b o,X.base.get? b=some o->s.heap.get? b=some o:=fun b o e=>(I.bs b o e).1
theorem Inv.mod(I:Inv X pins σ H s):Mod X.K X.mg X.base:=I.ok.mod
theorem Inv.kIn(I:Inv X pins σ H s):X.K.In s.heap:=I.ok.mod.kin.keeps I.bk
theorem Inv.nolimit(I:Inv X pins σ H s):s.heap.NoLimit:=I.ok.mod.nolimit.keeps I.bk
theorem Inv.fr(I:Inv X pins σ H s):∃m,Fr X.base X.env.locals s.heap m:=
 let ⟨m,hn,_⟩:=I.loc
 ⟨m,hn,I.bk,Nat.le_trans I.ok.bsz I.ok.above⟩
theorem Inv.lt(I:Inv X pins σ H s):X.env.locals<s.heap.objs.size:=let ⟨_,hn,_⟩:=I.loc;hn.lt
theorem Inv.sz(I:Inv X pins σ H s):X.s₀.heap.objs.size<=s.heap.objs.size:=Nat.le_trans I.ok.above (Nat.le_of_lt I.lt)
theorem Inv.nofs(I:Inv X pins σ H s){a:Addr}(h:s.heap.objs.size<=a):a∉X.fs:=fun hb=>by
 obtain⟨_,o,ho,_⟩:=I.ok.funs.mem hb;exact absurd (Nat.lt_of_lt_of_le (Hz ho) (Nat.le_trans I.sz h)) (Nat.lt_irrefl _)
theorem Inv.cne(I:Inv X pins σ H s):∀x c,X.env.cells.lookup x=some c->c≠X.env.locals:=fun x c e z=>by
 obtain⟨v,o,ho,hd⟩:=I.cell x c e;obtain⟨m,⟨o',es,ep,ho',hd',_⟩,_⟩:=I.loc;rw[z,ho']at ho;cases ho;rw[hd']at hd;cases hd
theorem Inv.funs(I:Inv X pins σ H s):s.heap.FunFrames X.base X.outer:=by
 have all:∀(l:List Env),(∀b∈frs l,b∈X.fs)->X.s₀.heap.FunFrames X.base l->s.heap.FunFrames X.base l:=by
  intro l
  induction l with
  |nil=>intro _ _;trivial
  |cons env r ih=>
   intro hs hl;obtain⟨hk,⟨L,o,hf,hn,ho,hd⟩,hr⟩:=hl;have hL:L∈X.fs:=hs L (by unfold frs;rw[List.filterMap_cons,hf];exact List.mem_cons_self)
   obtain⟨sl,e⟩:=I.base.slot L o ho (I.ok.frf L hL) hL fun z=>I.ok.exfs L z hL;exact⟨hk,⟨L,_,hf,hn,e,hd⟩,ih (fun b hb=>hs b (by unfold frs;rw[List.filterMap_cons,hf];exact List.mem_cons_of_mem _ hb)) hr⟩
 exact all X.outer (fun _ hb=>hb) I.ok.funs
theorem Inv.stack(I:Inv X pins σ H s):s.heap.FunFrames X.base X.stack:=by
 rcases I.ok.stk with e|⟨e,hf⟩
 ·rw[e];exact I.funs
 ·rw[e];obtain⟨m,hn,_⟩:=I.loc;refine .cons (by rw[I.ok.kind];decide) hf hn ?_ I.funs
  exact Heap.get?_none_of_le (Nat.le_trans I.ok.bsz I.ok.above)
theorem Inv.stkSub(I:Inv X pins σ H s):∀b∈frs X.stack,b∈X.env.locals::X.fs:=fun b hb=>by
 rcases I.ok.stk with e|⟨e,hf⟩
 ·rw[e]at hb;exact List.mem_cons_of_mem _ hb
 ·rw[e]at hb;unfold frs at hb;rw[List.filterMap_cons,hf]at hb;exact hb
theorem Inv.stkFree(I:Inv X pins σ H s):∀b∈frs X.stack,H b=none:=fun b hb=>by
 rcases List.mem_cons.mp (I.stkSub b hb)with e|hb
 ·rw[e];exact I.free
 ·obtain⟨_,o,ho,_⟩:=I.ok.funs.mem hb;exact I.base.free b o ho (I.ok.frf b hb) fun z=>I.ok.exfs b z hb
theorem Inv.step{ch:List Addr}(I:Inv X pins σ H s)(hch:∀b∈ch,(b∈X.ex\/X.s₀.heap.objs.size<=b)/\b≠X.env.locals/\(∀x c,X.env.cells.lookup x=some c->c≠b)/\∀p∈X.pn++pins,p.1≠b)(keep:∀b o,b≠X.env.locals->b∉X.fs->b∉ch->s.heap.get? b=some o->H b=none->h'.get? b=some o)(slot:∀b o,b≠X.env.locals->b∈X.fs->b∉ch->s.heap.get? b=some o->H b=none->∃sl,h'.get? b=some {o with slots:=sl})(free:∀b o,b∉ch->s.heap.get? b=some o->H b=none->H' b=none)(there:∀b o,b∉ch->s.heap.get? b=some o->∃o',h'.get? b=some o')(tups:∀b xs,H b=some (.tup xs)->H' b=some (.tup xs))(frzs:∀b o u,H b=some (.frz o u)->H' b=some (.frz o u))(tbls:∀b ps,H b=some (.tbl ps)->∃more,H' b=some (.tbl (ps++more)))(ns:∀m,s.heap.Ns X.env.locals m->h'.Ns X.env.locals m)(hok:HOk X.prog X.w H' h')(hg:AllBare g'):Inv X pins σ H' {s with heap:=h',gens:=g',drawn:=d',toks:=t'}:=by
 have neL:∀b o,X.s₀.heap.get? b=some o->b≠X.env.locals:=fun b o e=>Nat.ne_of_lt (Nat.lt_of_lt_of_le (Hz e) I.ok.above);have neC:∀b o,X.s₀.heap.get? b=some o->b∉X.ex->b∉ch:=fun b o e hx hb=>by
  rcases(hch b hb).1 with z|z
  ·exact hx z
  ·exact absurd (Nat.lt_of_lt_of_le (Hz e) z) (Nat.lt_irrefl _)
 have cellK:∀x c,X.env.cells.lookup x=some c->∀v,s.heap.IsCell c v->h'.IsCell c v:=fun x c e v ⟨o,ho,hd⟩=>by
  have nch:c∉ch:=fun z=>(hch c z).2.2.1 x c e rfl;by_cases hc:c∈X.fs
  ·obtain⟨sl,q⟩:=slot c o (I.cne x c e) hc nch ho (I.freeC x c e);exact⟨_,q,hd⟩
  ·exact⟨o,keep c o (I.cne x c e) hc nch ho (I.freeC x c e),hd⟩
 refine⟨I.ok,I.os,hg,⟨fun b o e n hb hx=>?_,fun b o e n hb hx=>?_,fun b o e n hx=>?_,fun b o e hx=>?_,fun b xs e=>tups b xs (I.base.tups b xs e),fun b o xs e=>frzs b o xs (I.base.frzs b o xs e),fun b ps e=>?_⟩,?_,fun x c e=>?_,?_,fun x c e=>?_,fun p hp=>?_,hok,I.len,I.qd.mono frzs,I.fx⟩
 ·exact keep b o (neL b o e) hb (neC b o e hx) (I.base.keep b o e n hb hx) (I.base.free b o e n hx)
 ·obtain⟨sl,e1⟩:=I.base.slot b o e n hb hx;obtain⟨sl',e2⟩:=slot b _ (neL b o e) hb (neC b o e hx) e1 (I.base.free b o e n hx);exact⟨sl',e2⟩
 ·obtain⟨o',e1⟩:=I.base.there b o e hx;exact free b o' (neC b o e hx) e1 (I.base.free b o e n hx)
 ·obtain⟨o',e1⟩:=I.base.there b o e hx;exact there b o' (neC b o e hx) e1
 ·obtain⟨m1,e1⟩:=I.base.tbls b ps e;obtain⟨m2,e2⟩:=tbls b _ e1;exact⟨m1++m2,by rw[e2,Array.append_assoc]⟩
 ·obtain⟨m,hn,hl⟩:=I.loc;refine⟨m,ns m hn,fun i x v e1 e2 e3=>?_⟩;obtain⟨u,r,l⟩:=hl i x v e1 e2 e3;refine⟨u,r,?_⟩;rcases l with l|⟨k,c,e,z⟩
  ·exact .inl l
  ·exact .inr ⟨k,c,e,cellK x c e _ z⟩
 ·obtain⟨v,z⟩:=I.cell x c e;exact⟨v,cellK x c e v z⟩
 ·obtain⟨m,⟨o,_,_,ho,_⟩,_⟩:=I.loc;exact free _ o (fun z=>(hch _ z).2.1 rfl) ho I.free
 ·obtain⟨v,o,ho,hd⟩:=I.cell x c e;exact free c o (fun z=>(hch c z).2.2.1 x c e rfl) ho (I.freeC x c e)
 ·obtain⟨e,n,ne,nf,d⟩:=I.pin p hp;have nch:p.1∉ch:=fun z=>(hch p.1 z).2.2.2 p hp rfl;exact⟨keep p.1 p.2 ne nf nch e n,free p.1 p.2 nch e n,ne,nf,d⟩
theorem Inv.un(I:Inv X pins σ H s)(u:Un X.fs [] H H' s.heap h')(hok:HOk X.prog X.w H' h'):Inv X pins σ H' {s with heap:=h',toks:=t'}:=by
 obtain⟨m,⟨o,es,ep,ho,r⟩,_⟩:=id I.loc;obtain⟨sl,hL⟩:=u.any ho I.free (by simp)
 exact I.step (g':=s.gens) (d':=s.drawn) (ch:=[]) (fun _ z=>nomatch z) (fun b o _ hb _ e n=>u.keep b o e n hb (by simp)) (fun b o _ hb _ e n=>u.slot b o e n hb (by simp)) (fun b o _ e n=>u.free b o e n (by simp)) (fun b o _ e=>u.there b o e (by simp)) u.tups u.frzs u.tbls (fun m' hm=>by
  obtain⟨o',es',ep',ho',r'⟩:=hm;rw[ho]at ho';cases ho';exact⟨_,es',ep',hL,r'⟩) hok I.bare
theorem Inv.call(I:Inv X pins σ H s)(u:Un (frs X.stack) ch H H' s.heap h')(hok:HOk X.prog X.w H' h')(hg:AllBare g')(hch:∀b∈ch,(b∈X.ex\/X.s₀.heap.objs.size<=b)/\b≠X.env.locals/\(∀x c,X.env.cells.lookup x=some c->c≠b)/\∀p∈X.pn++pins,p.1≠b):Inv X pins σ H' {s with heap:=h',gens:=g',drawn:=d',toks:=t'}:=by
 obtain⟨m,⟨o,es,ep,ho,r⟩,_⟩:=id I.loc;obtain⟨sl,hL⟩:=u.any ho I.free fun z=>(hch _ z).2.1 rfl;exact I.step (ch:=ch) hch (fun b o hL hb hc e n=>u.keep b o e n (fun z=>(List.mem_cons.mp (I.stkSub b z)).elim hL hb) hc) (fun b o _ _ hc e n=>u.any e n hc) (fun b o hc e n=>u.free b o e n hc) (fun b o hc e=>u.there b o e hc) u.tups u.frzs u.tbls (fun m' hm=>by
  obtain⟨o',es',ep',ho',r'⟩:=hm;rw[ho]at ho';cases ho';exact⟨_,es',ep',hL,r'⟩) hok hg
theorem Inv.turned(I:Inv X pins σ H s)(k:∀b o,b≠it->s.heap.get? b=some o->h'.get? b=some o)(hn:H it=none)(hL:it≠X.env.locals)(h1:it∈X.ex\/X.s₀.heap.objs.size<=it)(h2:∀x c,X.env.cells.lookup x=some c->c≠it)(h3:∀p∈X.pn++pins,p.1≠it):Inv X pins σ H {s with heap:=h',toks:=t'}:=by
 have nit:∀b u,H b=some u->b≠it:=fun b u e z=>by rw[z,hn]at e;cases e
 refine I.step (g':=s.gens) (d':=s.drawn) (ch:=[it]) (fun b hb=>?_) (fun b o _ _ hc e _=>k b o (fun z=>hc (by simp[z])) e) (fun b o _ _ hc e _=>⟨o.slots,k b o (fun z=>hc (by simp[z])) e⟩) (fun _ _ _ _ n=>n)
  (fun b o hc e=>⟨o,k b o (fun z=>hc (by simp[z])) e⟩) (fun _ _ e=>e) (fun _ _ _ e=>e) (fun b ps e=>⟨#[],by rw[e];simp⟩) (fun m hm=>?_) (fun b u e=>?_) I.bare
 ·have e:b=it:=by simpa using hb
  subst e;exact⟨h1,hL,h2,h3⟩
 ·obtain⟨o,es,ep,ho,r⟩:=hm;exact⟨o,es,ep,k _ o (Ne.symm hL) ho,r⟩
 ·refine(I.hok b u e).stay (fun c v hc q=>k c v ?_ q) (fun _ q=>q) fun _ _ q=>q;rcases hc with z|z
  ·rw[z];exact nit b u e
  ·exact nit c _ z
theorem Inv.tok(I:Inv X pins σ H s)(t:Nat):Inv X pins σ H {s with toks:=t}:=I.un (h':=s.heap) (t':=t) Un.refl I.hok
theorem Inv.kept(I:Inv X pins σ H s)(k:∀b u,s.heap.get? b=some u->h'.get? b=some u):Inv X pins σ H {s with heap:=h',toks:=t'}:=I.un (Un.kept k) (I.hok.kept k)
theorem Inv.laid(I:Inv X pins σ H s)(k:∀b u,s.heap.get? b=some u->h'.get? b=some u)(hp:s.heap.objs.size<=a)(new:ZaH X.prog X.w (upd H a o) h' a o):Inv X pins σ (upd H a o) {s with heap:=h',toks:=t'}:=I.un (Un.laid k hp (I.hok.fresh hp)) (I.hok.laid k hp new)
theorem Inv.write(I:Inv X pins σ H s)(mu:Mut (H x))(he:e=x\/H e=some (.own x))(k:∀b u,b≠e->s.heap.get? b=some u->h'.get? b=some u)(heo:∃u,h'.get? e=some u)(new:ZaH X.prog X.w (upd H x o) h' x o):Inv X pins σ (upd H x o) {s with heap:=h',toks:=t'}:=I.un (Un.write mu he k heo) (I.hok.write mu he k heo new)
theorem Inv.pins_of(I:Inv X pins σ H s)(h:∀p∈pins',s.heap.get? p.1=some p.2/\H p.1=none/\p.1≠X.env.locals/\p.1∉X.fs/\∀v,p.2.data≠ .cell v):Inv X pins' σ H s:=
 ⟨I.ok,I.os,I.bare,I.base,I.loc,I.cell,I.free,I.freeC,fun p hp=>(List.mem_append.mp hp).elim (fun z=>I.pin p (List.mem_append_left _ z)) (h p),I.hok,I.len,I.qd,I.fx⟩
theorem ZfC{N:List Str}(hN:N.Nodup){i:Nat}(a:N[i]?=some x)(b:N[j]?=some x):i=j:=by
 obtain⟨h1,e1⟩:=List.getElem?_eq_some_iff.mp a;obtain⟨h2,e2⟩:=List.getElem?_eq_some_iff.mp b;exact(List.getElem_inj hN).mp (e1.trans e2.symm)
theorem ZdV(I:Inv X pins σ H s)(hN:X.N.Nodup)(hi:X.N[i]?=some x)(hx:Loc X.env.scope x)(hm:X.may i=true)(r:ZR v u)(h:∀s',Inv X pins (σ.set i (some v)) H s'->(∃a,Heap.SameBut a s.heap s'.heap/\(a=X.env.locals\/X.env.cells.lookup x=some a))->Q () s')(hf:X.fn x=true\/X.env.scope.names.lookup x=some .local:=by first|exact .inl rfl|exact .inr rfl|assumption):wpAny M A (storeName X.env x u) Q E s:=by
 obtain⟨m,hn,hl⟩:=id I.loc;have hcls:(X.env.scope.kind == .class||(X.env.scope.kind == .module&&X.env.locals != X.env.globals))=false:=by rw[I.ok.kind];rfl
 have hiσ:i<σ.length:=by rw[I.len];exact(List.getElem?_eq_some_iff.mp hi).1
 have cne:=I.cne;have tracked:∀{a:Addr}{h':Heap},(∃o,s.heap.get? a=some o/\H a=none)->Heap.SameBut a s.heap h'->HOk X.prog X.w H h':=fun{a h'} ha hs b ob e=>by
  obtain⟨_,_,hfree⟩:=ha;refine(I.hok b ob e).stay (fun c w' hc q=>(hs.2 c ?_).trans q) (fun _ q=>q) fun _ _ q=>q;rintro rfl;rcases hc with rfl|hc
  ·rw[hfree]at e;cases e
  ·rw[hfree]at hc;cases hc
 rcases hx with hk|hk
 ·refine wpAny_storeName_local hk hn (fun h' hn' hs=>?_) hcls;obtain⟨oL,_,_,hoL,_⟩:=id hn;refine h _ ⟨I.ok,I.os,I.bare,⟨fun b o e n hb hx=>?_,fun b o e n hb hx=>?_,I.base.free,fun b o e hx=>?_,I.base.tups,I.base.frzs,I.base.tbls⟩,⟨_,hn',fun j y v' e1 e2 e3=>?_⟩,fun y c e=>?_,I.free,I.freeC,fun p hp=>?_,tracked ⟨oL,hoL,I.free⟩ hs,by simpa using I.len,I.qd,I.fx.set hm⟩ ⟨_,hs,.inl rfl⟩
  ·exact(hs.2 b (Nat.ne_of_lt (Nat.lt_of_lt_of_le (Hz e) I.ok.above))).trans (I.base.keep b o e n hb hx)
  ·obtain⟨sl,e1⟩:=I.base.slot b o e n hb hx;exact⟨sl,(hs.2 b (Nat.ne_of_lt (Nat.lt_of_lt_of_le (Hz e) I.ok.above))).trans e1⟩
  ·obtain⟨o',e1⟩:=I.base.there b o e hx;exact⟨o',(hs.2 b (Nat.ne_of_lt (Nat.lt_of_lt_of_le (Hz e) I.ok.above))).trans e1⟩
  ·by_cases hj:j=i
   ·subst hj;rw[hi]at e1;cases e1;rw[List.getElem?_set_self hiσ]at e2;cases e2;exact⟨u,r,.inl ⟨hk,by simp⟩⟩
   ·rw[List.getElem?_set_ne (Ne.symm hj)]at e2;obtain⟨u',r',q⟩:=hl j y v' e1 e2 e3;refine⟨u',r',?_⟩;rcases q with⟨k,e⟩|⟨k,c,e,z⟩
    ·refine .inl ⟨k,?_⟩
     have:y≠x:=fun e=>hj (ZfC hN e1 (e▸hi))
     simp[this,e]
    ·exact .inr ⟨k,c,e,z.sameBut hs (cne y c e)⟩
  ·obtain⟨w',z⟩:=I.cell y c e;exact⟨w',z.sameBut hs (cne y c e)⟩
  ·obtain⟨e,n,ne,nf,d⟩:=I.pin p hp;exact⟨(hs.2 p.1 ne).trans e,n,ne,nf,d⟩
 ·have hfn:X.fn x=true:=by
   rcases hf with z|z
   ·exact z
   ·rw[z]at hk;cases hk
  obtain⟨c,hc⟩:=I.ok.has x (.inl hk);obtain⟨w',z⟩:=I.cell x c hc;refine wpAny_storeName_cell I.ok.kind hk hc z (fun h' hc' hs=>?_);obtain⟨oc,hoc,hocd⟩:=id z;refine h {s with heap:=h'} ⟨I.ok,I.os,I.bare,⟨fun b o e n hb hx=>?_,fun b o e n hb hx=>?_,I.base.free,fun b o e hx=>?_,I.base.tups,I.base.frzs,I.base.tbls⟩,⟨m,hn.sameBut hs (Ne.symm (cne x c hc)),fun j y v' e1 e2 e3=>?_⟩,fun y c' e=>?_,I.free,I.freeC,fun p hp=>?_,tracked ⟨oc,hoc,I.freeC x c hc⟩ hs,by simpa using I.len,I.qd,I.fx.set hm⟩ ⟨c,hs,.inr hc⟩
  ·exact(hs.2 b (Nat.ne_of_lt (Nat.lt_of_lt_of_le (Hz e) (I.ok.cab x c hfn hc)))).trans (I.base.keep b o e n hb hx)
  ·obtain⟨sl,e1⟩:=I.base.slot b o e n hb hx;exact⟨sl,(hs.2 b (Nat.ne_of_lt (Nat.lt_of_lt_of_le (Hz e) (I.ok.cab x c hfn hc)))).trans e1⟩
  ·obtain⟨o',e1⟩:=I.base.there b o e hx;exact⟨o',(hs.2 b (Nat.ne_of_lt (Nat.lt_of_lt_of_le (Hz e) (I.ok.cab x c hfn hc)))).trans e1⟩
  ·by_cases hj:j=i
   ·subst hj;rw[hi]at e1;cases e1;rw[List.getElem?_set_self hiσ]at e2;cases e2;exact⟨u,r,.inr ⟨.inl hk,c,hc,hc'⟩⟩
   ·rw[List.getElem?_set_ne (Ne.symm hj)]at e2;obtain⟨u',r',q⟩:=hl j y v' e1 e2 e3;refine⟨u',r',?_⟩;rcases q with q|⟨k,c',e,z'⟩
    ·exact .inl q
    ·refine .inr ⟨k,c',e,z'.sameBut hs ?_⟩;rintro rfl;exact hj (ZfC hN e1 (I.ok.inj _ _ _ e hc▸hi))
  ·by_cases hcc:c'=c
   ·subst hcc;exact⟨_,hc'⟩
   ·obtain⟨w2,z2⟩:=I.cell y c' e;exact⟨w2,z2.sameBut hs hcc⟩
  ·obtain⟨e,n,ne,nf,d⟩:=I.pin p hp;refine⟨(hs.2 p.1 ?_).trans e,n,ne,nf,d⟩;intro q;rw[q,hoc]at e;have q':oc=p.2:=Option.some.inj e;exact d w' (by rw[<-q'];exact hocd)
theorem Zcf(I:Inv X pins σ H s)(hN:X.N.Nodup)(hi:X.N[i]?=some x)(hx:Loc X.env.scope x)(hm:X.may i=true)(r:ZR v u)(h:∀s',Inv X pins (σ.set i (some v)) H s'->Q () s')(hf:X.fn x=true\/X.env.scope.names.lookup x=some .local:=by first|exact .inl rfl|exact .inr rfl|assumption):wpAny M A (storeName X.env x u) Q E s:=
 ZdV I hN hi hx hm r (fun s' I' _=>h s' I') hf
theorem Inv.call'(I:Inv X pins σ H s)(ho:s'.os=s.os)(u:Un (frs X.stack) ch H H' s.heap s'.heap)(hok:HOk X.prog X.w H' s'.heap)(hg:AllBare s'.gens)(hch:∀b∈ch,(b∈X.ex\/X.s₀.heap.objs.size<=b)/\b≠X.env.locals/\(∀x c,X.env.cells.lookup x=some c->c≠b)/\∀p∈X.pn++pins,p.1≠b):Inv X pins σ H' s':=by
 obtain⟨h',g',d',t',o'⟩:=s';have e:o'=s.os:=ho;subst e;exact I.call (g':=g') (t':=t') (d':=d') u hok hg hch
end
abbrev XK:=Value->Option Addr->Hp->Prop
noncomputable abbrev St:=List (Option V)
abbrev VK:=V->Hp->Prop
abbrev TE:=St->Hp->VK->Prop
abbrev TT:=St->Hp->(Bool->Hp->Prop)->Prop
abbrev TA:=St->Hp->(List V->Hp->Prop)->Prop
structure Ends where
 nx:St->Hp->Prop
 rt:VK
 bk:St->Hp->Prop:=fun _ _=>False
 ct:St->Hp->Prop:=fun _ _=>False
abbrev TS:=Ends->St->Hp->Prop
def EP(X:Cx)(pins:Pn)(σ:St)(Q:VK)(u:Value)(s':Shared):Prop:=∃v H',Inv X pins σ H' s'/\ZR v u/\Q v H'
noncomputable def TP(X:Cx)(pins:Pn)(σ:St)(Q:Bool->Hp->Prop)(b:Bool)(s':Shared):Prop:=∃H',Inv X pins σ H' s'/\Q b H'
def AP(X:Cx)(pins:Pn)(σ:St)(Q:List V->Hp->Prop)(us:List Value)(s':Shared):Prop:=∃vs H',Inv X pins σ H' s'/\ZS vs us/\Q vs H'
def SP(X:Cx)(pins:Pn)(D:Ends)(f:Flow)(s':Shared):Prop:=
 match f with
 |.next=>∃σ' H',Inv X pins σ' H' s'/\D.nx σ' H'
 |.brk=>∃σ' H',Inv X pins σ' H' s'/\D.bk σ' H'
 |.cont=>∃σ' H',Inv X pins σ' H' s'/\D.ct σ' H'
 |.ret u=>∃v σ' H',Inv X pins σ' H' s'/\ZR v u/\D.rt v H'
def PE(X:Cx)(e:Expr)(t:TE):Prop:=
 ∀(pins:Pn)(s:Shared)(σ:St)(H:Hp)(Q:VK),Inv X pins σ H s->t σ H Q->wpAny (model X.prog X.w) X.A (eval e X.env) (EP X pins σ Q) X.xe s
def PT(X:Cx)(e:Expr)(t:TT):Prop:=
 ∀(pins:Pn)(s:Shared)(σ:St)(H:Hp)(Q:Bool->Hp->Prop),Inv X pins σ H s->t σ H Q->wpAny (model X.prog X.w) X.A (isTrue e X.env (eval e X.env)) (TP X pins σ Q) X.xe s
def PW(X:Cx)(e:Expr)(t:TT):Prop:=
 ∀(whole:Sem Value)(pins:Pn)(s:Shared)(σ:St)(H:Hp)(Q:Bool->Hp->Prop),Inv X pins σ H s->t σ H Q->wpAny (model X.prog X.w) X.A (isTrue e X.env whole) (TP X pins σ Q) X.xe s
theorem PW.pt(h:PW X e t):PT X e t:=h _
def PA(X:Cx)(es:List Expr)(t:TA):Prop:=
 ∀(pos:Pos)(pins:Pn)(s:Shared)(σ:St)(H:Hp)(Q:List V->Hp->Prop),Inv X pins σ H s->t σ H Q->wpAny (model X.prog X.w) X.A (spliced (backTo pos (starEach es X.env))) (AP X pins σ Q) X.xe s
def PS(X:Cx)(st:Stmt)(t:TS):Prop:=
 ∀(pins:Pn)(s:Shared)(σ:St)(H:Hp)(D:Ends),Inv X pins σ H s->t D σ H->wpAny (model X.prog X.w) X.A (exec st X.env) (SP X pins D) X.xe s
def PSs(X:Cx)(st:List Stmt)(t:TS):Prop:=
 ∀(pins:Pn)(s:Shared)(σ:St)(H:Hp)(D:Ends),Inv X pins σ H s->t D σ H->wpAny (model X.prog X.w) X.A (execs st X.env) (SP X pins D) X.xe s
theorem thn{t:Sem α}{Q Q':α->Shared->Prop}(h:wpAny M A t Q E s)(hQ:∀a s,Q a s->Q' a s):wpAny M A t Q' E s:=wpAny_mono h hQ fun _ _ x=>x
theorem bin(ha:PE X a ta)(hb:PE X b tb){R:V->V->Hp->Prop}(I:Inv X pins σ H s)(h:ta σ H fun x H1=>tb σ H1 fun y H2=>R x y H2){Q:α->Shared->Prop}{f:Value->Value->Sem α}(hf:∀v u s2 x y H2,Inv X pins σ H2 s2->ZR x v->ZR y u->R x y H2->wpAny (model X.prog X.w) X.A (f v u) Q X.xe s2):wpAny (model X.prog X.w) X.A (eval a X.env) (fun v s₁=>wpAny (model X.prog X.w) X.A (eval b X.env) (fun u s₂=>wpAny (model X.prog X.w) X.A (f v u) Q X.xe s₂) X.xe s₁) X.xe s:=by
 refine thn (ha pins s σ H _ I h) fun v s1 ⟨x,H1,I1,r1,q1⟩=>?_;refine thn (hb pins s1 σ H1 _ I1 q1) fun u s2 ⟨y,H2,I2,r2,q2⟩=>?_;exact hf v u s2 x y H2 I2 r1 r2 q2
noncomputable def Zs4(i:Nat):TE:=fun σ H Q=>∃v,σ[i]?=some (some v)/\Q v H
noncomputable def tC(v:V):TE:=fun _ H Q=>Q v H
theorem ZkM(hN:X.N[i]?=some x)(hv:Vis X.env.scope x)(hd:autoParam ((x==("__debug__":Str))=false) Qde._auto_1)(hcd:autoParam ((x==("__classdict__":Str))=false) Qde._auto_1):PE X (.Name x pos) (Zs4 i):=by
 intro pins s σ H Q I h;obtain⟨v,e,h⟩:=h;obtain⟨m,hn,hl⟩:=I.loc;obtain⟨u,r,l⟩:=hl i x v hN e hv;have fin:EP X pins σ Q u s:=⟨v,H,I,r,h⟩;rcases l with⟨hk,hm⟩|⟨hk,c,hc,hcell⟩
 ·exact wpAny_Name (wpAny_loadName_local I.ok.kind hk hn hm fin) hd
 ·rcases hk with hk|hk
  ·exact wpAny_Name (wpAny_loadName_cell I.ok.kind hk hc hcell fin) hd
  ·exact wpAny_Name (wpAny_loadName_free I.ok.kind hk hc hcell fin hcd) hd
theorem ZnN{i j pos}:PE X (.Constant (.int i) j pos) (tC (.int i)):=fun _ _ _ H _ I h=>wpAny_Constant_int ⟨.int i,H,I.tok _,⟨_,rfl⟩,h⟩
theorem ZqU{b j pos}:PE X (.Constant (.bool b) j pos) (tC (.bl b)):=fun _ _ _ H _ I h=>Constant_bool ⟨.bl b,H,I,rfl,h⟩
theorem ZnO{j pos}:PE X (.Constant .none j pos) (tC .non):=fun _ _ _ H _ I h=>Constant_none ⟨.non,H,I,rfl,h⟩
theorem ZnP{x j pos}:PE X (.Constant (.str x) j pos) (tC (.str x)):=fun _ _ _ H _ I h=>Calls.Constant_str ⟨.str x,H,I.tok _,⟨_,rfl⟩,h⟩
noncomputable def Gl(X:Cx)(x:Str):Prop:=X.env.kindOf x=some .globalImplicit
theorem Zg3(I:Inv X pins σ H s)(hg:Gl X x)(hm:X.mg x=some u)(h:Q u s)(hd:autoParam ((x==("__debug__":Str))=false) Qde._auto_1):wpAny (model X.prog X.w) X.A (eval (.Name x pos) X.env) Q E s:=
 Calls.Name_function_global I.ok.kind hg (Calls.loadGlobal_global (by rw[I.ok.glob];exact I.mod.glob.keeps I.bk) hm h) hd
theorem Zbg(I:Inv X pins σ H s)(hg:Gl X x)(hm:X.mg x=none)(hv:bootBuiltins x=some u)(h:Q u s)(hn:autoParam (x≠"__name__") Qde._auto_1)(hd:autoParam ((x==("__debug__":Str))=false) Qde._auto_1):wpAny (model X.prog X.w) X.A (eval (.Name x pos) X.env) Q E s:=by
 obtain⟨mb,h1,h2⟩:=I.mod.blt;exact Calls.Name_function_global I.ok.kind hg (Calls.loadGlobal_builtin (by rw[I.ok.glob];exact I.mod.glob.keeps I.bk) hm (by rw[I.ok.blt];exact h1.keeps I.bk) ((h2 x hn).trans hv) h) hd
theorem ZlE(hg:Gl X x)(hm:X.mg x=none)(hv:bootBuiltins x=some u)(r:ZR v u)(hn:autoParam (x≠"__name__") Qde._auto_1)(hd:autoParam ((x==("__debug__":Str))=false) Qde._auto_1):PE X (.Name x pos) (tC v):=
 fun _ _ _ H _ I h=>Zbg I hg hm hv ⟨v,H,I,r,h⟩ hn hd
def PC(X:Cx)(op:CmpOp)(a b:Expr)(t:TE):Prop:=
 ∀(pins:Pn)(s:Shared)(σ:St)(H:Hp)(Q:VK),Inv X pins σ H s->t σ H Q->
  wpAny (model X.prog X.w) X.A (eval a X.env) (fun v s₁=>wpAny (model X.prog X.w) X.A (eval b X.env) (fun u s₂=>wpAny (model X.prog X.w) X.A (compareOp op v u) (EP X pins σ Q) X.xe s₂) X.xe s₁) X.xe s
theorem Zjw(b:Expr)(h:op≠ .In)(h2:op≠ .NotIn):behindInMarks op b=false:=by
 have e1:(op==CmpOp.In)=false:=by cases op<;>first|rfl|exact absurd rfl h
 have e2:(op==CmpOp.NotIn)=false:=by cases op<;>first|rfl|exact absurd rfl h2
 cases b<;>simp[behindInMarks,e1,e2]
noncomputable def tB(t:TE):TT:=fun σ H Q=>t σ H fun x H1=>∃c,x=.bl c/\Q c H1
theorem Zs5(h:PC X op a b t)(h1:behindInMarks op b=false:=by first|exact Zjw _ (by decide) (by decide)|rfl):PT X (.Compare a [op] [b] pos) (tB t):=by
 intro pins s σ H Q I hw;refine wpAny_isTrue_Compare1 (thn (h pins s σ H _ I hw) fun v s1 h1=>thn h1 fun u s2 h2=>thn h2 fun c s3 ⟨x,H1,I1,r1,q1⟩=>?_) h1;obtain⟨d,rfl,q⟩:=q1;cases r1;exact wpAny_truthy_bool ⟨H1,I1,q⟩
theorem ZnQ(h:PE X e t)(he:autoParam (∀whole,isTrue e X.env whole=(do let v <-whole;standAt e.pos;holding [v] (truthy v))) Qin._auto_1):PT X e (tB t):=by
 intro pins s σ H Q I hw;refine isTrue_plain (thn (h pins s σ H _ I hw) fun v s1 ⟨x,H1,I1,r1,q1⟩=>?_) (he _);obtain⟨d,rfl,q⟩:=q1;cases r1;exact wpAny_truthy_bool ⟨H1,I1,q⟩
noncomputable def Zt6(t u:TT):TT:=fun σ H Q=>t σ H fun c H1=>if c=true then u σ H1 Q else Q false H1
noncomputable def tOr(t u:TT):TT:=fun σ H Q=>t σ H fun c H1=>if c=true then Q true H1 else u σ H1 Q
noncomputable def Zt7(t:TT):TT:=fun σ H Q=>t σ H fun c H1=>Q (!c) H1
theorem pw_and1(ha:PT X a tA):PW X (.BoolOp .And [a] pos) tA:=by
 intro wh pins s σ H Q I h;refine isTrue_and (thn (ha pins s σ H Q I h) fun c s1 e=>?_);cases c with
 |true=>exact isTrue_and_nil e
 |false=>exact e
theorem pw_or1(ha:PT X a tA):PW X (.BoolOp .Or [a] pos) tA:=by
 intro wh pins s σ H Q I h;refine isTrue_or (thn (ha pins s σ H Q I h) fun c s1 e=>?_);cases c with
 |false=>exact isTrue_or_nil e
 |true=>exact e
theorem pw_and(ha:PT X a tA)(hb:PW X (.BoolOp .And (b::rest) pos) tB'):PW X (.BoolOp .And (a::b::rest) pos) (Zt6 tA tB'):=by
 intro wh pins s σ H Q I h;refine isTrue_and (thn (ha pins s σ H _ I h) fun c s1 ⟨H1,I1,q1⟩=>?_);cases c with
 |true=>exact hb wh pins s1 σ H1 Q I1 q1
 |false=>exact⟨H1,I1,q1⟩
theorem pw_or(ha:PT X a tA)(hb:PW X (.BoolOp .Or (b::rest) pos) tB'):PW X (.BoolOp .Or (a::b::rest) pos) (tOr tA tB'):=by
 intro wh pins s σ H Q I h;refine isTrue_or (thn (ha pins s σ H _ I h) fun c s1 ⟨H1,I1,q1⟩=>?_);cases c with
 |true=>exact⟨H1,I1,q1⟩
 |false=>exact hb wh pins s1 σ H1 Q I1 q1
theorem ZnR(ha:PT X a tA):PT X (.UnaryOp .Not a pos) (Zt7 tA):=by
 intro pins s σ H Q I h;exact isTrue_not (ha pins s σ H (fun c H1=>Q (!c) H1) I h)
noncomputable def ZqV(ta tb:TE):TE:=fun σ H Q=>ta σ H fun x H1=>∃c,x=.bl c/\if c=true then tb σ H1 Q else Q (.bl false) H1
noncomputable def ZqW(ta:TE):TE:=fun σ H Q=>ta σ H fun x H1=>∃c,x=.bl c/\Q (.bl (!c)) H1
theorem ZnS{op}(h:PE X a t):PE X (.BoolOp op [a] pos) t:=fun pins s σ H Q I hw=>BoolOp_one (h pins s σ H Q I hw)
theorem ZnT(ha:PE X a ta)(hb:PE X (.BoolOp .And (b::rest) pos) tb):PE X (.BoolOp .And (a::b::rest) pos) (ZqV ta tb):=by
 intro pins s σ H Q I h;refine BoolOp_and (thn (ha pins s σ H _ I h) fun v s1 ⟨x,H1,I1,r1,q1⟩=>?_);obtain⟨c,rfl,q1⟩:=q1;cases r1;refine wpAny_truthy_bool ?_;cases c with
 |true=>exact hb pins s1 σ H1 Q I1 q1
 |false=>exact⟨.bl false,H1,I1,rfl,q1⟩
theorem ZnU(ha:PE X a ta):PE X (.UnaryOp .Not a pos) (ZqW ta):=by
 intro pins s σ H Q I h;refine UnaryOp_ (thn (ha pins s σ H _ I h) fun v s1 ⟨x,H1,I1,r1,q1⟩=>?_);obtain⟨c,rfl,q1⟩:=q1;cases r1;exact not_of (wpAny_truthy_bool ⟨.bl (!c),H1,I1,rfl,q1⟩)
noncomputable def tIf(t:TT)(ta tb:TE):TE:=fun σ H Q=>t σ H fun c H1=>if c=true then ta σ H1 Q else tb σ H1 Q
theorem Zjx(hc:PT X c tA)(ha:PE X a ta)(hb:PE X b tb):PE X (.IfExp c a b pos) (tIf tA ta tb):=by
 intro pins s σ H Q I h;refine wpAny_IfExp (thn (hc pins s σ H _ I h) fun d s1 ⟨H1,I1,q1⟩=>?_);cases d with
 |true=>exact ha pins s1 σ H1 Q I1 q1
 |false=>exact hb pins s1 σ H1 Q I1 q1
def SqL(K:Fg)(H:Hp)(a:Addr)(xs:List V):Prop:=
 Rd H a (.lst xs)\/
  ∃(o:Obj) (its:Array Value) (n:Nat),K.lookup a=some o/\o.cls=.type "list"/\o.dict=none/\o.data=.seq its n/\its.size<=sizeLine/\ZS xs its.toList
def SqT(K:Fg)(H:Hp)(a:Addr)(xs:List V):Prop:=
 Rd H a (.tup xs)\/
  ∃(o:Obj) (its:Array Value) (n:Nat),K.lookup a=some o/\o.cls=.type "tuple"/\o.data=.seq its n/\its.size<=sizeLine/\ZS xs its.toList
noncomputable def Zt8:Value->Option V
 |.none=>some .non
 |.bool b=>some (.bl b)
 |.int i _=>some (.int i)
 |.str x _=>some (.str x)
 |.bytes b _=>some (.byt b)
 |.float b _=>some (.flt b)
 |.ref a=>some (.ref a)
 |.type n=>some (.ty n)
 |_=>none
theorem ZR.abs(r:ZR x u):Zt8 u=some x:=by
 cases x with
 |non=>cases r;rfl
 |bl _=>cases r;rfl
 |int _=>obtain⟨t,rfl⟩:=r;rfl
 |str _=>obtain⟨t,rfl⟩:=r;rfl
 |byt _=>obtain⟨t,rfl⟩:=r;rfl
 |flt _=>obtain⟨t,rfl⟩:=r;rfl
 |ref _=>cases r;rfl
 |ty _=>cases r;rfl
theorem ZR.inj(r:ZR x u)(q:ZR y u):x=y:=Option.some.inj (r.abs.symm.trans q.abs)
theorem ZS.inj:∀{xs ys:List V}{us:List Value},ZS xs us->ZS ys us->xs=ys
 |_,_,_,.nil,.nil=>rfl
 |_,_,_,.cons r t,.cons r' t'=>by rw[r.inj r',ZS.inj t t']
theorem SqL.of{K:Fg}(h:H a=some (.lst xs)):SqL K H a xs:=.inl (.inl h)
theorem SqT.of{K:Fg}(h:H a=some (.tup xs)):SqT K H a xs:=.inl (.inl h)
theorem Inv.list(I:Inv X pins σ H s)(h:SqL X.K H a xs):∃its:List Value,ZS xs its/\PlainL s.heap a its.toArray/\xs.length<=sizeLine:=by
 rcases h with h|⟨o,its,n,hk,hc,hd,hs,hz,r⟩
 ·obtain⟨z,its,n,r,e⟩:=h.ok I.hok;exact⟨its,r,⟨_,n,e,rfl,rfl,rfl⟩,z⟩
 ·refine⟨its.toList,r,⟨o,n,I.kIn a o hk,hc,hd,by simpa using hs⟩,?_⟩
  have e:=r.length;simp only[Array.length_toList]at e;lia
theorem Inv.tuple(I:Inv X pins σ H s)(h:SqT X.K H a xs):∃its:List Value,ZS xs its/\IsTup s.heap a its.toArray/\xs.length<=sizeLine:=by
 rcases h with h|⟨o,its,n,hk,hc,hs,hz,r⟩
 ·obtain⟨z,its,r,p⟩:=h.ok I.hok;exact⟨its,r,p,z⟩
 ·refine⟨its.toList,r,⟨o,I.kIn a o hk,hc,n,by simpa using hs⟩,?_⟩
  have e:=r.length;simp only[Array.length_toList]at e;lia
theorem Inv.list_inj(I:Inv X pins σ H s)(h:SqL X.K H a xs)(h':SqL X.K H a ys):xs=ys:=by
 obtain⟨its,r,⟨o,n,e,_,_,d⟩,_⟩:=I.list h;obtain⟨its',r',⟨o',n',e',_,_,d'⟩,_⟩:=I.list h';rw[e]at e';cases e';rw[d]at d';injection d' with d1 _
 have:its=its':=by simpa using congrArg Array.toList d1
 subst this;exact r.inj r'
theorem Inv.tuple_inj(I:Inv X pins σ H s)(h:SqT X.K H a xs)(h':SqT X.K H a ys):xs=ys:=by
 obtain⟨its,r,⟨o,e,_,n,d⟩,_⟩:=I.tuple h;obtain⟨its',r',⟨o',e',_,n',d'⟩,_⟩:=I.tuple h';rw[e]at e';cases e';rw[d]at d';injection d' with d1 _
 have:its=its':=by simpa using congrArg Array.toList d1
 subst this;exact r.inj r'
section
variable {st:Stmt}{t u:TS}
noncomputable def tNext:TS:=fun D σ H=>D.nx σ H
noncomputable def Zt9(t u:TS):TS:=fun D σ H=>t {D with nx:=u D} σ H
theorem ZlF:PSs X [] tNext:=fun _ _ σ H _ I h=>wpAny_execs_nil ⟨σ,H,I,h⟩
theorem Zjy(h1:PS X st t)(h2:PSs X rest u):PSs X (st::rest) (Zt9 t u):=by
 intro pins s σ H D I h;refine wpAny_execs_cons (thn (h1 pins s σ H {D with nx:=u D} I h) fun f s1 q=>?_);cases f with
 |next=>
  obtain⟨σ',H',I',q⟩:=q;exact h2 pins s1 σ' H' D I' q
 |ret v=>exact q
 |brk=>exact q
 |cont=>exact q
theorem ZlG(h1:PS X st t):PSs X [st] t:=by
 intro pins s σ H D I h;refine wpAny_execs_cons (thn (h1 pins s σ H D I h) fun f s1 q=>?_);cases f with
 |next=>exact wpAny_execs_nil q
 |ret v=>exact q
 |brk=>exact q
 |cont=>exact q
theorem Inv.quiet(I:Inv X pins σ H s):interactive X.env=false:=by simp[interactive,I.ok.kind]
noncomputable def ZqX(te:TE):TS:=fun D σ H=>te σ H fun _ H1=>D.nx σ H1
theorem ZlH(he:PE X e te)(hs:autoParam (swapsWith e none pos.line X.env=pure false) Qrf._auto_1):PS X (.Expr e pos) (ZqX te):=by
 intro pins s σ H D I h;exact wpAny_Expr_any (thn (he pins s σ H _ I h) fun v s1 ⟨x,H1,I1,r1,q1⟩=>⟨σ,H1,I1,q1⟩) I.quiet hs
noncomputable def Zua(te:TE):TS:=fun D σ H=>te σ H D.rt
theorem ZnV(he:PE X e te):PS X (.Return (some e) pos) (Zua te):=by
 intro pins s σ H D I h;exact wpAny_Return_some (thn (he pins s σ H _ I h) fun v s1 ⟨x,H1,I1,r1,q1⟩=>⟨x,σ,H1,I1,r1,q1⟩)
noncomputable def Zub(c:TT)(t u:TS):TS:=fun D σ H=>c σ H fun b H1=>if b=true then t D σ H1 else u D σ H1
theorem ZqY(hc:PT X c tc)(ha:PSs X a t)(hb:PSs X b u):PS X (.If c a b pos) (Zub tc t u):=by
 intro pins s σ H D I h;refine wpAny_If (thn (hc pins s σ H _ I h) fun d s1 ⟨H1,I1,q1⟩=>?_);cases d with
 |true=>exact ha pins s1 σ H1 D I1 q1
 |false=>exact hb pins s1 σ H1 D I1 q1
end
abbrev TG:=V->St->Hp->(St->Hp->Prop)->Prop
abbrev TGs:=List V->St->Hp->(St->Hp->Prop)->Prop
def PG(X:Cx)(target:Expr)(t:TG):Prop:=
 ∀(pins:Pn)(s:Shared)(σ:St)(H:Hp)(v:V)(u:Value)(Q:St->Hp->Prop),Inv X pins σ H s->ZR v u->t v σ H Q->
  wpAny (model X.prog X.w) X.A (assign target X.env u) (fun _ s'=>∃σ' H',Inv X pins σ' H' s'/\Q σ' H') X.xe s
def PGs(X:Cx)(ts:List Expr)(t:TGs):Prop:=
 ∀(pins:Pn)(s:Shared)(σ:St)(H:Hp)(vs:List V)(us:List Value)(Q:St->Hp->Prop),Inv X pins σ H s->ZS vs us->t vs σ H Q->
  wpAny (model X.prog X.w) X.A (assignInOrder ((assignEach ts X.env).map (·.2)) us) (fun _ s'=>∃σ' H',Inv X pins σ' H' s'/\Q σ' H') X.xe s
abbrev ZqZ:=V->V->V->Hp->(Hp->Prop)->Prop
def Zs6(X:Cx)(t:ZqZ):Prop:=
 ∀(pins:Pn)(s:Shared)(σ:St)(H:Hp)(o i v:V)(ov iv u:Value)(Q:Hp->Prop),Inv X pins σ H s->ZR o ov->ZR i iv->ZR v u->t o i v H Q->
  wpAny (model X.prog X.w) X.A (setItem ov iv u) (fun _ s'=>∃H',Inv X pins σ H' s'/\Q H') X.xe s
noncomputable def ZnW(i:Nat):TG:=fun v σ H Q=>Q (σ.set i (some v)) H
theorem ZlI(hN:X.N.Nodup)(hi:X.N[i]?=some x)(hx:Loc X.env.scope x)(hm:X.may i=true)(hf:X.fn x=true\/X.env.scope.names.lookup x=some .local:=by first|exact .inl rfl|exact .inr rfl|assumption):PG X (.Name x pos) (ZnW i):=by
 intro pins s σ H v u Q I r h;exact wpAny_assign_Name (Zcf I hN hi hx hm r (fun s' I'=>⟨_,H,I',h⟩) hf)
noncomputable def gNil:TGs:=fun vs σ H Q=>vs=[]/\Q σ H
noncomputable def Zq0(t:TG)(u:TGs):TGs:=fun vs σ H Q=>∃v r,vs=v::r/\t v σ H fun σ' H'=>u r σ' H' Q
theorem ZlJ:PGs X [] gNil:=by
 intro pins s σ H vs us Q I r h;obtain⟨e,h⟩:=h;subst e;cases r;exact assignInOrder_nil ⟨σ,H,I,h⟩
theorem Zjz(h1:PG X e t)(h2:PGs X es u)(hs:autoParam ((assignEach (e::es) X.env).map (·.2)=assign e X.env::(assignEach es X.env).map (·.2)) Qrf._auto_1):PGs X (e::es) (Zq0 t u):=by
 intro pins s σ H vs us Q I r h;obtain⟨v,vr,e1,h⟩:=h;subst e1;cases r with
 |cons r rr=>
  rw[hs];refine assignInOrder_cons (thn (h1 pins s σ H _ _ _ I r h) fun _ s1 ⟨σ1,H1,I1,q1⟩=>?_);exact h2 pins s1 σ1 H1 _ _ Q I1 rr q1
def Zuc(K:Fg)(n:Nat)(t:TGs):TG:=fun v σ H Q=>∃a xs,v=.ref a/\SqT K H a xs/\xs.length=n/\t xs σ H Q
theorem ZnX(hc:X.calm=true)(h:PGs X es t)(hn:autoParam ((assignEach es X.env).length=n) Qrf._auto_1)(hst:autoParam ((assignEach es X.env).findIdx? (·.1)=none) Qrf._auto_1):PG X (.Tuple es k pos) (Zuc X.K n t):=by
 intro pins s σ H v u Q I r hw;obtain⟨a,xs,e1,hq,hl,hw⟩:=hw;subst e1;cases r;obtain⟨its,rv,ht,hz⟩:=I.tuple hq;refine assign_Tuple_tuple (I.ok.hd hc) ht (by simp[hn,<-hl,rv.length]) hst fun h' hx=>?_
 have I1:Inv X pins σ H {s with heap:=h'}:=I.kept (t':=s.toks) fun b o e=>hx b o (Nat.ne_of_lt (Hz e)) e;exact h pins _ σ H xs _ Q I1 (by simpa using rv) hw
noncomputable def Zud(to ti:TE)(t:ZqZ):TG:=fun v σ H Q=>to σ H fun o H1=>ti σ H1 fun i H2=>t o i v H2 fun H3=>Q σ H3
theorem ZnY(ho:PE X o to)(hi:PE X i ti)(hs:Zs6 X t)(ha:∀v,assign (.Subscript o i pos) X.env v=(do
   let ov <-holding [v] (eval o X.env)
   let iv <-holding [v,ov] (eval i X.env)
   standAt pos
   holding [v,ov,iv] (setItem ov iv v)
   release [v,ov,iv] []):=by intro _;rfl):PG X (.Subscript o i pos) (Zud to ti t):=by
 intro pins s σ H v u Q I r h;rw[ha];refine Wb (wpAny_holding (thn (ho pins s σ H _ I h) fun ov s1 ⟨x,H1,I1,r1,q1⟩=>?_));refine Wb (wpAny_holding (thn (hi pins s1 σ H1 _ I1 q1) fun iv s2 ⟨y,H2,I2,r2,q2⟩=>?_));refine Wb (wpAny_standAt (Wb (wpAny_holding (thn (hs pins s2 σ H2 x y v ov iv u _ I2 r1 r2 r q2) fun _ s3 ⟨H3,I3,q3⟩=>?_))));exact wpAny_release ⟨σ,H3,I3,q3⟩
noncomputable def Zs7(te:TE)(g:TG):TS:=fun D σ H=>te σ H fun x H1=>g x σ H1 D.nx
theorem Zg4(he:PE X e te)(hg:PG X tg g)(hs:autoParam (swapsWithSole [tg] e pos.line X.env=pure false) Qrf._auto_1)(hw:autoParam (swappedStores [tg] e X.env=pure none) Qrf._auto_1)(h1:autoParam ((assignEach [tg] X.env).map (·.2)=[assign tg X.env]) Qrf._auto_1):PS X (.Assign [tg] e pos) (Zs7 te g):=by
 intro pins s σ H D I h;refine wpAny_Assign_stores (thn (he pins s σ H _ I h) fun v s1 ⟨x,H1,I1,r1,q1⟩=>?_) hs hw;rw[h1];exact thn (hg pins s1 σ H1 x v _ I1 r1 q1) fun _ s2 q=>q
theorem ZnZ(hN:X.N.Nodup)(hi:X.N[i]?=some x)(hx:Loc X.env.scope x)(hm:X.may i=true)(he:PE X e te)(hs:autoParam (swapsWith e (some (.Name x pos')) pos.line X.env=pure false) Qrf._auto_1)(hf:X.fn x=true\/X.env.scope.names.lookup x=some .local:=by first|exact .inl rfl|exact .inr rfl|assumption) :
  PS X (.Assign [.Name x pos'] e pos) (Zs7 te (ZnW i)):=by
 intro pins s σ H D I h;refine wpAny_Assign_Name (thn (he pins s σ H _ I h) fun v s1 ⟨y,H1,I1,r1,q1⟩=>?_) hs;exact Zcf I1 hN hi hx hm r1 (fun s2 I2=>⟨_,H1,I2,q1⟩) hf
noncomputable def Zue(i j:Nat)(ta:TA):TS:=fun D σ H=>ta σ H fun vs H1=>∃v w,vs=[v,w]/\D.nx ((σ.set i (some v)).set j (some w)) H1
theorem Zn0{kt k2 pt2}(hc:X.calm=true)(mi:X.may i=true)(mj:X.may j=true)(hN:X.N.Nodup)(hi:X.N[i]?=some x)(hj:X.N[j]?=some y)(hij:i≠j)(hx:X.env.scope.names.lookup x=some .local)(hy:X.env.scope.names.lookup y=some .local)(ha:PA X [a,b] ta)(hw:swappedStores [.Tuple [.Name x px,.Name y py] kt pt] (.Tuple [a,b] k2 pt2) X.env=pure (some [x,y]))(hs:autoParam (swapsWithSole [.Tuple [.Name x px,.Name y py] kt pt] (.Tuple [a,b] k2 pt2) pos.line X.env=pure false) Qrf._auto_1) :
  PS X (.Assign [.Tuple [.Name x px,.Name y py] kt pt] (.Tuple [a,b] k2 pt2) pos) (Zue i j ta):=by
 intro pins s σ H D I h;rw[exec_Assign_arm];refine Wb (wpAny_standAt ?_);rw[hs];refine Wb (Wp ?_);rw[if_neg (by decide)]
 refine Wb (Tuple_ (thn (ha _ pins s σ H _ I h) fun us s1 ⟨vs,H1,I1,r1,q1⟩=>?_));obtain⟨v,w,e1,q1⟩:=q1;subst e1;obtain⟨u1,u2,rfl,rv,rw'⟩:∃u1 u2,us=[u1,u2]/\ZR v u1/\ZR w u2:=by
  cases r1 with
  |cons p q=>
   cases q with
   |cons p' q'=>
    cases q';exact⟨_,_,rfl,p,p'⟩
 refine wpAny_newObj_type ?_ (by show 2<=sizeLine;decide)
 have I2:Inv X pins σ H1 {s1 with heap:=s1.heap.push {cls:=.type "tuple",data:=.seq [u1,u2].toArray}}:=I1.kept (t':=s1.toks) fun b o e=>Hq _ e;rw[hw];refine Wb (Wp ?_);show wpAny (model X.prog X.w) X.A (do rule "assign.swapped-stores";let items <-unpackItems (.ref s1.heap.objs.size) 2 none;assignInOrder [fun v=>bindName X.env y v,fun v=>bindName X.env x v] items.reverse;pure Flow.next) _ _ _
 refine Wb (wpAny_rule (Wb (unpackItems_tuple (items:= #[u1,u2]) (I.ok.hd hc) (IsTup.new s1.heap _) fun h' hx'=>?_)));have I3:=I2.kept (h':=h') (t':=s1.toks) fun b o e=>hx' b o (Nat.ne_of_lt (Hz e)) e;show wpAny _ _ (assignInOrder [fun v=>bindName X.env y v,fun v=>bindName X.env x v] [u2,u1] >>= fun _=>pure Flow.next) _ _ _
 refine Wb (assignInOrder_cons (wpAny_bindName (Zcf I3 hN hj (.inl hy) mj rw' (fun s2 I4=>?_) (.inr hy))));refine assignInOrder_cons (wpAny_bindName (Zcf I4 hN hi (.inl hx) mi rv (fun s3 I5=>assignInOrder_nil (Wp ?_)) (.inr hx)));rw[List.set_comm _ _ (Ne.symm hij)]at I5;exact⟨_,H1,I5,q1⟩
def Zn1(c:TT)(tb:TS):TS:=fun D σ H=>∃W:Nat->St->Hp->Prop,(∃m,W m σ H)/\∀m σ H,W m σ H->
 c σ H fun b H1=>if b=true then ∃N:St->Hp->Prop,(∀σ' H',N σ' H'->∃m',m'<m/\W m' σ' H')/\tb {D with nx:=N,ct:=N,bk:=D.nx} σ H1 else D.nx σ H1
theorem ZjA(hp:PassesOwn (model X.prog X.w) X.A X.env X.xe)(hc:PT X c tc)(hb:PSs X body tb):PS X (.While c body [] pos) (Zn1 tc tb):=by
 intro pins s σ H D I h;obtain⟨W,⟨m0,w0⟩,turn⟩:=h;refine wpAny_While (codeAny_whileLoop (fun n s'=>∃σ' H',Inv X pins σ' H' s'/\W n σ' H') ?_ m0 ⟨σ,H,I,w0⟩);rintro n s1 ⟨σ1,H1,I1,w1⟩;refine wpAny_passesOwn hp (thn (hc pins s1 σ1 H1 _ I1 (turn n σ1 H1 w1)) fun b s2 ⟨H2,I2,q2⟩=>?_);cases b with
 |true=>
  obtain⟨N,hN,q2⟩:=q2;rw[if_pos rfl];refine wpAny_passesOwn hp (thn (hb pins s2 σ1 H2 _ I2 q2) fun f s3 q3=>?_);cases f with
  |next=>
   obtain⟨σ3,H3,I3,n3⟩:=q3;obtain⟨m',hm,w3⟩:=hN σ3 H3 n3;exact⟨m',hm,σ3,H3,I3,w3⟩
  |cont=>
   obtain⟨σ3,H3,I3,n3⟩:=q3;obtain⟨m',hm,w3⟩:=hN σ3 H3 n3;exact⟨m',hm,σ3,H3,I3,w3⟩
  |brk=>exact q3
  |ret v=>exact q3
 |false=>
  rw[if_neg Bool.false_ne_true];exact wpAny_execs_nil ⟨σ1,H2,I2,q2⟩
structure It where
 go:Nat->Hp->Prop
 yld:Nat->Hp->V->Hp->Prop
 stop:Nat->Hp->Prop
def Zca(X:Cx)(pins:Pn)(H:Hp)(b:Addr):Prop:=
 H b=none/\b≠X.env.locals/\b∉X.fs/\(b∈X.ex\/X.s₀.heap.objs.size<=b)/\(∀x c,X.env.cells.lookup x=some c->c≠b)/\∀p∈X.pn++pins,p.1≠b
theorem Inv.fpOk(I:Inv X pins σ H s)(hb:s.heap.objs.size<=b)(hn:H' b=none):Zca X pins H' b:=by
 refine⟨hn,Nat.ne_of_gt (Nat.lt_of_lt_of_le I.lt hb),I.nofs hb,.inr (Nat.le_trans I.sz hb),fun x c e z=>?_,fun p hp z=>?_⟩
 ·obtain⟨v,q⟩:=I.cell x c e;exact absurd (Nat.lt_of_lt_of_le q.lt (by rw[z];exact hb)) (Nat.lt_irrefl _)
 ·exact absurd (Nat.lt_of_lt_of_le (Hz (I.pin p hp).1) (by rw[z];exact hb)) (Nat.lt_irrefl _)
structure Turn(P:Program) (w:World) (K:Fg) (B:Around) (tg:Expr) (J:It) (fp:List Addr) (it:Addr) (tn:Nat->Heap->Prop):Prop where
 mem:it∈fp
 obj:∀i h,tn i h->∀b∈fp,∃o,h.get? b=some o/\∀v,o.data≠ .cell v
 keep:∀i h h',tn i h->(∀b∈fp,∀o,h.get? b=some o->h'.get? b=some o)->tn i h'
 item:∀(X:Cx),X.prog=P->X.w=w->X.K=K->X.A=B->∀(i:Nat)(pins:Pn)(s:Shared)(σ:St)(H:Hp)(E:Vp),Inv X pins σ H s->(∀b∈fp,Zca X pins H b)->tn i s.heap->J.go i H->
  wpAny (model P w) X.A (pyNext (.ref it)) (fun r s1=>∃u,r=some u/\ wpAny (model P w) X.A (letOwnedTupleGo tg (.ref it) u) (fun _ s2=>∃x H',Inv X pins σ H' s2/\ZR x u/\J.yld i H x H'/\tn (i+1) s2.heap/\∀b∈fp,H' b=none) E s1) E s
 done:∀(X:Cx),X.prog=P->X.w=w->X.K=K->X.A=B->∀(i:Nat)(pins:Pn)(s:Shared)(σ:St)(H:Hp)(E:Vp),Inv X pins σ H s->(∀b∈fp,Zca X pins H b)->tn i s.heap->J.stop i H->
  wpAny (model P w) X.A (pyNext (.ref it)) (fun r s1=>r=none/\Inv X pins σ H s1) E s
 self:∀(A:Around)(i:Nat)(s:Shared)(Q:Vp)(E:Vp),tn i s.heap->Q (.ref it) s->wpAny (model P w) A (pyIter (.ref it)) Q E s
abbrev TI:=St->Hp->(It->Hp->Prop)->Prop
def PIE(X:Cx)(pins:Pn)(σ:St)(tg:Expr)(R:It->Hp->Prop)(itv:Value)(s2:Shared):Prop:=
 ∃(it:Addr) (fp:List Addr) (tn:Nat->Heap->Prop) (J:It) (H':Hp),itv=.ref it/\Inv X pins σ H' s2/\Turn X.prog X.w X.K X.A tg J fp it tn/\tn 0 s2.heap/\(∀b∈fp,Zca X pins H' b)/\R J H'
def PI(X:Cx)(tg iter:Expr)(wi:TI):Prop:=
 ∀(pins:Pn)(s:Shared)(σ:St)(H:Hp)(R:It->Hp->Prop),Inv X pins σ H s->wi σ H R->
  wpAny (model X.prog X.w) X.A (eval iter X.env) (fun v s1=>wpAny (model X.prog X.w) X.A (pyIter v) (PIE X pins σ tg R) X.xe s1) X.xe s
theorem ZjB(ho:s.heap.get? it=some o)(hc:o.cls=.type n)(hd:o.data=.fields vs)(hn:["enumerate","zip","dict_itemiterator","dict_reverseitemiterator","odict_iterator","itertools.zip_longest","itertools.pairwise"].contains n=false)(hQ:Q () s):wpAny M A (letOwnedTupleGo tg (.ref it) u) Q E s:=by
 unfold letOwnedTupleGo;cases tg<;>first
  |exact Wp hQ
  | (cases u<;>first
    |exact Wp hQ
    | (refine Wb (wpAny_load ho ?_)
       rw[hc,hd];show wpAny M A (if(["enumerate","zip","dict_itemiterator","dict_reverseitemiterator","odict_iterator","itertools.zip_longest","itertools.pairwise"].contains n&&vs[0]? == some (rawInt _))=true then _ else _) Q E s
       rw[if_neg (by intro h;rw[hn,Bool.false_and]at h;cases h)]
       exact Wp hQ))
def Itl(K:Fg)(a:Addr):It:=
 ⟨fun i H=>∃xs x,SqL K H a xs/\xs[i]?=some x,fun i H x H'=>H'=H/\∀xs,SqL K H a xs->xs[i]?=some x,fun i H=>∃xs,SqL K H a xs/\xs.length<=i⟩
def Itt(K:Fg)(a:Addr):It:=
 ⟨fun i H=>∃xs x,SqT K H a xs/\xs[i]?=some x,fun i H x H'=>H'=H/\∀xs,SqT K H a xs->xs[i]?=some x,fun i H=>∃xs,SqT K H a xs/\xs.length<=i⟩
noncomputable def Itr(lo:Int)(n:Nat):It:=⟨fun i _=>i<n,fun i H x H'=>H'=H/\x=.int (lo+i),fun i _=>n<=i⟩
theorem Zg5{K:Fg}(a it:Addr):Turn P w K B tg (Itl K a) [it] it (fun i h=>h.IsListIter it a i) where
 mem:=by simp
 obj:=fun i h st b hb=>by
  have e:b=it:=by simpa using hb
  subst e;obtain⟨o,e,c,d⟩:=st;exact⟨o,e,fun v z=>by rw[d]at z;cases z⟩
 keep:=fun i h h' st k=>st.at fun o e=>k it (by simp) o e
 item:=by
  intro X hP hw hK hB i pins s σ H E I hf st hg;subst hP hw hK;obtain⟨xs,x,hq,hx⟩:=hg;obtain⟨its,rv,p,hz⟩:=I.list hq;obtain⟨u,hu,ru⟩:=rv.get hx;obtain⟨f0,f1,f2,f3,f4,f5⟩:=hf it (by simp)
  refine wpAny_pyNext_list_item st p.isList (x:=u) (by simpa using hu) fun h' st' sb=>?_
  have I1:Inv X pins σ H {s with heap:=h'}:=I.turned (t':=s.toks) (fun b o hb e=>(sb.2 b hb).trans e) f0 f1 f3 f4 f5;obtain⟨o,e,c,d⟩:=id st';exact⟨u,rfl,ZjB (s:={s with heap:=h'}) e c d (by decide) ⟨x,H,I1,ru,⟨rfl,fun ys hy=>by rw[I.list_inj hy hq];exact hx⟩,st',fun b hb=>(hf b hb).1⟩⟩
 done:=by
  intro X hP hw hK hB i pins s σ H E I hf st hg;subst hP hw hK;obtain⟨xs,hq,hx⟩:=hg;obtain⟨its,rv,p,hz⟩:=I.list hq;obtain⟨f0,f1,f2,f3,f4,f5⟩:=hf it (by simp)
  have hl:=rv.length;exact DQ.Zjv I.qh st p.isList (by simp;lia) fun h' eb=>⟨rfl,I.turned (t':=s.toks) (fun b o hb e=>eb b o hb e) f0 f1 f3 f4 f5⟩
 self:=fun _ _ _ _ _ st h=>wpAny_pyIter_listiter st h
theorem Zgt{K:Fg}(a it:Addr):Turn P w K B tg (Itt K a) [it] it (fun i h=>h.IsTupleIter it a i) where
 mem:=by simp
 obj:=fun i h st b hb=>by
  have e:b=it:=by simpa using hb
  subst e;obtain⟨o,e,c,d⟩:=st;exact⟨o,e,fun v z=>by rw[d]at z;cases z⟩
 keep:=fun i h h' st k=>st.at fun o e=>k it (by simp) o e
 item:=by
  intro X hP hw hK hB i pins s σ H E I hf st hg;subst hP hw hK;obtain⟨xs,x,hq,hx⟩:=hg;obtain⟨its,rv,p,hz⟩:=I.tuple hq;obtain⟨u,hu,ru⟩:=rv.get hx;obtain⟨f0,f1,f2,f3,f4,f5⟩:=hf it (by simp)
  refine wpAny_pyNext_tuple_item st (show s.heap.IsTuple a its.toArray from p) (x:=u) (by simpa using hu) fun h' st' sb=>?_
  have I1:Inv X pins σ H {s with heap:=h'}:=I.turned (t':=s.toks) (fun b o hb e=>(sb.2 b hb).trans e) f0 f1 f3 f4 f5;obtain⟨o,e,c,d⟩:=id st';exact⟨u,rfl,ZjB (s:={s with heap:=h'}) e c d (by decide) ⟨x,H,I1,ru,⟨rfl,fun ys hy=>by rw[I.tuple_inj hy hq];exact hx⟩,st',fun b hb=>(hf b hb).1⟩⟩
 done:=by
  intro X hP hw hK hB i pins s σ H E I hf st hg;subst hP hw hK;obtain⟨xs,hq,hx⟩:=hg;obtain⟨its,rv,p,hz⟩:=I.tuple hq;obtain⟨f0,f1,f2,f3,f4,f5⟩:=hf it (by simp)
  have hl:=rv.length;exact DQ.ZgW I.qh st (show s.heap.IsTuple a its.toArray from p) (by simp;lia) fun h' eb=>⟨rfl,I.turned (t':=s.toks) (fun b o hb e=>eb b o hb e) f0 f1 f3 f4 f5⟩
 self:=fun _ _ _ _ _ st h=>wpAny_pyIter_tupleiter st h
theorem Zgu{K:Fg}(it:Addr)(lo:Int)(n:Nat):Turn P w K B tg (Itr lo n) [it] it (fun i h=>IsRangeIter h it (lo+(i:Nat)*1) ((n:Int)-(i:Nat)) 1) where
 mem:=by simp
 obj:=fun i h st b hb=>by
  have e:b=it:=by simpa using hb
  subst e;exact⟨_,st,fun v z=>by
   have z':Data.fields _=Data.cell v:=z;cases z'⟩
 keep:=fun i h h' st k=>k it (by simp) _ st
 item:=by
  intro X hP hw hK hB i pins s σ H E I hf st hg;subst hP hw hK;obtain⟨f0,f1,f2,f3,f4,f5⟩:=hf it (by simp)
  have hlt:i<n:=hg;refine wpAny_pyNext_range_item st (by lia) fun h' st' sb=>?_
  have I1:Inv X pins σ H {s with heap:=h',toks:=s.toks+1}:=I.turned (fun b o hb e=>(sb.2 b hb).trans e) f0 f1 f3 f4 f5;have st2:IsRangeIter h' it (lo+((i+1:Nat):Int)*1) ((n:Int)-((i+1:Nat):Int)) 1:=by
   have e1:lo+((i+1:Nat):Int)*1=lo+(i:Nat)*1+1:=by lia
   have e2:(n:Int)-((i+1:Nat):Int)=(n:Int)-(i:Nat)-1:=by lia
   rw[e1,e2];exact st'
  refine⟨_,rfl,ZjB (s:={s with heap:=h',toks:=s.toks+1}) (n:="range_iterator") st2 rfl rfl (by decide) ⟨.int (lo+i),H,I1,⟨s.toks,?_⟩,⟨rfl,rfl⟩,st2,fun b hb=>(hf b hb).1⟩⟩
  rw[Int.mul_one]
 done:=by
  intro X hP hw hK hB i pins s σ H E I hf st hg;subst hP hw hK;obtain⟨f0,f1,f2,f3,f4,f5⟩:=hf it (by simp)
  exact DQ.ZdU I.qh st (by have:n<=i:=hg;lia) fun h' eb=>⟨rfl,I.turned (t':=s.toks) (fun b o hb e=>eb b o hb e) f0 f1 f3 f4 f5⟩
 self:=fun _ _ _ _ _ st h=>wpAny_pyIter_rangeiter st h
theorem ZfD{lo:Int}(I:Inv X pins σ H s)(h1: -(2^62)<=lo)(h2:lo<2^62)(h3: -(2^62)<=hi)(h4:hi<2^62)(q:R (Itr lo (hi-lo).toNat) H):wpAny (model X.prog X.w) X.A (pyIter (.ref s.heap.objs.size)) (PIE X pins σ tg R) E {s with heap:=s.heap.push {cls:=.type "range",data:=.fields #[.int lo t,.int hi u,.int 1 v]},toks:=tk}:=by
 refine wpAny_pyIter_range (IsRange.new ..) (small_one h1 h2 h3 h4) ?_;have I1:Inv X pins σ H {s with heap:=s.heap.push {cls:=.type "range",data:=.fields #[.int lo t,.int hi u,.int 1 v]},toks:=tk}:=I.kept fun b o e=>Hq _ e;refine⟨(s.heap.push {cls:=.type "range",data:=.fields #[.int lo t,.int hi u,.int 1 v]}).objs.size,[(s.heap.push {cls:=.type "range",data:=.fields #[.int lo t,.int hi u,.int 1 v]}).objs.size],_,_,H,rfl,I1.kept (t':=tk) fun b o e=>Hq _ e,Zgu _ lo (hi-lo).toNat,?_,fun b hb=>?_,q⟩
 ·have e1:lo+((0:Nat):Int)*1=lo:=by simp
  have e2:(((hi-lo).toNat:Nat):Int)-((0:Nat):Int)=Builtin.Range.rangeSize lo hi 1:=by rw[rangeSize_one];split<;>lia
  show IsRangeIter _ _ (lo+((0:Nat):Int)*1) ((((hi-lo).toNat:Nat):Int)-((0:Nat):Int)) 1;rw[e1,e2];exact Heap.get?_push_size _ rfl
 ·have e:b=(s.heap.push {cls:=.type "range",data:=.fields #[.int lo t,.int hi u,.int 1 v]}).objs.size:=by simpa using hb
  subst e;exact I1.fpOk (Nat.le_refl _) (I1.hok.fresh (Nat.le_refl _))
def Zq1(ta:TA):TI:=fun σ H R=>ta σ H fun vs H1=>∃j:Int,vs=[.int j]/\ -(2^62)<=j/\j<2^62/\R (Itr 0 j.toNat) H1
def Zq2(ta:TA):TI:=fun σ H R=>ta σ H fun vs H1=>∃i j:Int,vs=[.int i,.int j]/\(-(2^62)<=i/\i<2^62/\ -(2^62)<=j/\j<2^62)/\R (Itr i (j-i).toNat) H1
theorem ZdW(hg:Gl X "range")(hm:X.mg "range"=none)(ha:PA X [a] ta)(hs:autoParam (starEach [a] X.env=[(false,eval a X.env)]) Qrf._auto_1):PI X tg (.Call (.Name "range" p) [a] [] pos) (Zq1 ta):=by
 intro pins s σ H R I h;refine Call_ (Zbg I hg hm boot_range (PyProof.Rows.callWith_type1 (thn (ha pos pins s σ H _ I h) fun us s1 ⟨vs,H1,I1,r1,q1⟩=>?_) hs rfl));obtain⟨j,e,q1,q2,q⟩:=q1;subst e;cases r1 with
 |cons r rr=>
  cases rr;obtain⟨t,rfl⟩:=r;exact call_range_1 (ZfD I1 (by lia) (by lia) q1 q2 (by simpa using q))
theorem ZdX(hg:Gl X "range")(hm:X.mg "range"=none)(ha:PA X [a,b] ta)(hs:autoParam (starEach [a,b] X.env=[(false,eval a X.env),(false,eval b X.env)]) Qrf._auto_1)(hs2:autoParam (starEach [b] X.env=[(false,eval b X.env)]) Qrf._auto_1) :
  PI X tg (.Call (.Name "range" p) [a,b] [] pos) (Zq2 ta):=by
 intro pins s σ H R I h;refine Call_ (Zbg I hg hm boot_range (PyProof.Rows.callWith_type1 (thn (ha pos pins s σ H _ I h) fun us s1 ⟨vs,H1,I1,r1,q1⟩=>?_) (by rw[hs,hs2]) (by rw[hs2];rfl)))
 obtain⟨i,j,e,⟨q1,q2,q3,q4⟩,q⟩:=q1;subst e;cases r1 with
 |cons r rr=>
  cases rr with
  |cons r' rr=>
   cases rr;obtain⟨t,rfl⟩:=r;obtain⟨t',rfl⟩:=r';exact call_range_2 (ZfD I1 q1 q2 q3 q4 q)
def Zuf(wi:TI)(g:TG)(tb:TS):TS:=fun D σ H=>wi σ H fun J H1=>∃W:Nat->Nat->St->Hp->Prop,(∃m,W 0 m σ H1)/\∀i m σ H,W i m σ H->
 (J.stop i H/\D.nx σ H)\/(J.go i H/\∃N:St->Hp->Prop,(∀σ' H',N σ' H'->∃m',m'<m/\W (i+1) m' σ' H')/\∀x H',J.yld i H x H'->g x σ H' fun σ2 H2=>tb {D with nx:=N,ct:=N,bk:=D.nx} σ2 H2)
noncomputable def ZbY(fp:List Addr)(h:Heap):Pn:=fp.filterMap fun b=>(h.get? b).map fun o=>(b,o)
theorem Zao(hb:b∈fp)(e:h.get? b=some o):(b,o)∈ZbY fp h:=List.mem_filterMap.mpr ⟨b,hb,by rw[e];rfl⟩
theorem Zg6(hp:p∈ZbY fp h):p.1∈fp/\h.get? p.1=some p.2:=by
 obtain⟨b,hb,e⟩:=List.mem_filterMap.mp hp;cases q:h.get? b with
 |none=>rw[q]at e;cases e
 |some o=>
  rw[q]at e;have e':(b,o)=p:=Option.some.inj e;subst e';exact⟨hb,q⟩
theorem Inv.pinned(I:Inv X pins σ H s)(hf:∀b∈fp,Zca X pins H b)(ho:∀b∈fp,∃o,s.heap.get? b=some o/\∀v,o.data≠ .cell v):Inv X (pins++ZbY fp s.heap) σ H s:=
 I.pins_of fun p hp=>(List.mem_append.mp hp).elim (fun z=>I.pin p (List.mem_append_right _ z)) fun z=>by
  obtain⟨hb,e⟩:=Zg6 z;obtain⟨f0,f1,f2,_⟩:=hf p.1 hb;obtain⟨o,e',d⟩:=ho p.1 hb;rw[e]at e';cases e';exact⟨e,f0,f1,f2,d⟩
theorem Inv.unpinned(I:Inv X (pins++pl) σ H s):Inv X pins σ H s:=I.pins_of fun p hp=>I.pin p (List.mem_append_right _ (List.mem_append_left _ hp))
theorem ZfE(hp:PassesOwn (model X.prog X.w) X.A X.env X.xe)(hi:PI X tg iter wi)(hg:PG X tg g)(hb:PSs X body tb)(hs:autoParam (∀x,foldedSetIterable iter X.env x=pure x) Qin._auto_1):PS X (.For tg iter body [] pos) (Zuf wi g tb):=by
 intro pins s σ H D I h;refine wpAny_For (thn (hi pins s σ H _ I h) fun v s1 h1=>thn h1 fun itv s2 h2=>?_) hs;obtain⟨it,fp,tn,J,H2,e,I2,T,st2,f2,W,⟨m0,w0⟩,turn⟩:=h2;subst e;have stat:∀{H':Hp},(∀b∈fp,H' b=none)->∀b∈fp,Zca X pins H' b:=fun hn b hb=>⟨hn b hb,(f2 b hb).2⟩;refine codeAny_forLoop_any (fun n s'=>∃i σ' H',Inv X pins σ' H' s'/\tn i s'.heap/\(∀b∈fp,H' b=none)/\W i n σ' H') ?_ m0 ⟨0,σ,H2,I2,st2,fun b hb=>(f2 b hb).1,w0⟩;rintro n s3 ⟨i,σ3,H3,I3,st3,fr3,w3⟩;rcases turn i n σ3 H3 w3 with⟨stop,qn⟩|⟨go,N,hN,step⟩
 ·refine wpAny_passesOwn hp (thn (T.done X rfl rfl rfl rfl i pins s3 σ3 H3 X.xe I3 (stat fr3) st3 stop) fun r s4 ⟨hr,I4⟩=>?_);subst hr;exact wpAny_execs_nil ⟨σ3,H3,I4,qn⟩
 ·refine wpAny_passesOwn hp (thn (T.item X rfl rfl rfl rfl i pins s3 σ3 H3 X.xe I3 (stat fr3) st3 go) fun r s4 ⟨u,hr,h4⟩=>?_);subst hr;refine wpAny_passesOwn hp (thn h4 fun _ s5 ⟨x,H5,I5,r5,y5,st5,fr5⟩=>?_);have I5':=I5.pinned (stat fr5) (T.obj _ _ st5);refine wpAny_passesOwn hp (thn (hg _ s5 σ3 H5 x u _ I5' r5 (step x H5 y5)) fun _ s6 ⟨σ6,H6,I6,q6⟩=>?_);refine wpAny_passesOwn hp (thn (hb _ s6 σ6 H6 _ I6 q6) fun f s7 q7=>?_);have again:∀{σ7:St}{H7:Hp},Inv X (pins++ZbY fp s5.heap) σ7 H7 s7->N σ7 H7->∃m,m<n/\∃i σ' H',Inv X pins σ' H' s7/\tn i s7.heap/\(∀b∈fp,H' b=none)/\W i m σ' H':=fun{σ7 H7} I7 n7=>by
   obtain⟨m',hm,w7⟩:=hN σ7 H7 n7;refine⟨m',hm,i+1,σ7,H7,I7.unpinned,T.keep _ _ _ st5 fun b hb o e=>(I7.pin (b,o) (List.mem_append_right _ (List.mem_append_right _ (Zao hb e)))).1,fun b hb=>?_,w7⟩;obtain⟨o,e,d⟩:=T.obj _ _ st5 b hb;exact(I7.pin (b,o) (List.mem_append_right _ (List.mem_append_right _ (Zao hb e)))).2.1
  cases f with
  |next=>obtain⟨σ7,H7,I7,n7⟩:=q7;exact again I7 n7
  |cont=>obtain⟨σ7,H7,I7,n7⟩:=q7;exact again I7 n7
  |brk=>obtain⟨σ7,H7,I7,q7⟩:=q7;exact⟨σ7,H7,I7.unpinned,q7⟩
  |ret v=>obtain⟨x7,σ7,H7,I7,r7,q7⟩:=q7;exact⟨x7,σ7,H7,I7.unpinned,r7,q7⟩
theorem ZjC{K:Fg}{g:TG}{tb:TS}{D:Ends}(Pv:Nat->St->Hp->Prop)(h0:Pv 0 σ H)(hl:∀i σ H,i<=xs.length->Pv i σ H->SqL K H a xs)(hs:∀i x σ H,xs[i]?=some x->Pv i σ H->g x σ H fun σ2 H2=>tb {D with nx:=Pv (i+1),ct:=Pv (i+1),bk:=D.nx} σ2 H2)(hd:∀σ H,Pv xs.length σ H->D.nx σ H):∃W:Nat->Nat->St->Hp->Prop,(∃m,W 0 m σ H)/\∀i m σ H,W i m σ H->((Itl K a).stop i H/\D.nx σ H)\/((Itl K a).go i H/\∃N:St->Hp->Prop,(∀σ' H',N σ' H'->∃m',m'<m/\W (i+1) m' σ' H')/\∀x H',(Itl K a).yld i H x H'->g x σ H' fun σ2 H2=>tb {D with nx:=N,ct:=N,bk:=D.nx} σ2 H2):=by
 refine⟨fun i m σ H=>m=xs.length-i/\i<=xs.length/\Pv i σ H,⟨xs.length,by simp,Nat.zero_le _,h0⟩,?_⟩
 rintro i m σ H ⟨rfl,hi,p⟩;have q:=hl i σ H hi p;by_cases hlt:i<xs.length
 ·refine .inr ⟨⟨xs,xs[i],q,by simp[hlt]⟩,Pv (i+1),fun σ' H' p'=>⟨xs.length-(i+1),by lia,rfl,hlt,p'⟩,fun x H' y=>?_⟩
  obtain⟨e,y⟩:=y;subst e;exact hs i x σ _ (y xs q) p
 ·have e:i=xs.length:=by lia
  subst e;exact .inl ⟨⟨xs,q,Nat.le_refl _⟩,hd σ H p⟩
theorem ZlK{K:Fg}{g:TG}{tb:TS}{D:Ends}(Pv:Nat->St->Hp->Prop)(h0:Pv 0 σ H)(hl:∀i σ H,i<=xs.length->Pv i σ H->SqT K H a xs)(hs:∀i x σ H,xs[i]?=some x->Pv i σ H->g x σ H fun σ2 H2=>tb {D with nx:=Pv (i+1),ct:=Pv (i+1),bk:=D.nx} σ2 H2)(hd:∀σ H,Pv xs.length σ H->D.nx σ H):∃W:Nat->Nat->St->Hp->Prop,(∃m,W 0 m σ H)/\∀i m σ H,W i m σ H->((Itt K a).stop i H/\D.nx σ H)\/((Itt K a).go i H/\∃N:St->Hp->Prop,(∀σ' H',N σ' H'->∃m',m'<m/\W (i+1) m' σ' H')/\∀x H',(Itt K a).yld i H x H'->g x σ H' fun σ2 H2=>tb {D with nx:=N,ct:=N,bk:=D.nx} σ2 H2):=by
 refine⟨fun i m σ H=>m=xs.length-i/\i<=xs.length/\Pv i σ H,⟨xs.length,by simp,Nat.zero_le _,h0⟩,?_⟩
 rintro i m σ H ⟨rfl,hi,p⟩;have q:=hl i σ H hi p;by_cases hlt:i<xs.length
 ·refine .inr ⟨⟨xs,xs[i],q,by simp[hlt]⟩,Pv (i+1),fun σ' H' p'=>⟨xs.length-(i+1),by lia,rfl,hlt,p'⟩,fun x H' y=>?_⟩
  obtain⟨e,y⟩:=y;subst e;exact hs i x σ _ (y xs q) p
 ·have e:i=xs.length:=by lia
  subst e;exact .inl ⟨⟨xs,q,Nat.le_refl _⟩,hd σ H p⟩
theorem Zg7{lo:Int}{g:TG}{tb:TS}{D:Ends}(Pv:Nat->St->Hp->Prop)(h0:Pv 0 σ H)(hs:∀i σ H,i<n->Pv i σ H->g (.int (lo+i)) σ H fun σ2 H2=>tb {D with nx:=Pv (i+1),ct:=Pv (i+1),bk:=D.nx} σ2 H2)(hd:∀σ H,Pv n σ H->D.nx σ H):∃W:Nat->Nat->St->Hp->Prop,(∃m,W 0 m σ H)/\∀i m σ H,W i m σ H->((Itr lo n).stop i H/\D.nx σ H)\/((Itr lo n).go i H/\∃N:St->Hp->Prop,(∀σ' H',N σ' H'->∃m',m'<m/\W (i+1) m' σ' H')/\∀x H',(Itr lo n).yld i H x H'->g x σ H' fun σ2 H2=>tb {D with nx:=N,ct:=N,bk:=D.nx} σ2 H2):=by
 refine⟨fun i m σ H=>m=n-i/\i<=n/\Pv i σ H,⟨n,by simp,Nat.zero_le _,h0⟩,?_⟩
 rintro i m σ H ⟨rfl,hi,p⟩;by_cases hlt:i<n
 ·refine .inr ⟨hlt,Pv (i+1),fun σ' H' p'=>⟨n-(i+1),by lia,rfl,hlt,p'⟩,fun x H' y=>?_⟩
  obtain⟨e,y⟩:=y;subst e y;exact hs i σ _ hlt p
 ·have e:i=n:=by lia
  subst e;exact .inl ⟨Nat.le_refl _,hd σ H p⟩
abbrev R2:=V->V->Hp->VK->Prop
def OpR(X:Cx)(f:Value->Value->Sem Value)(r:R2):Prop:=
 ∀(pins:Pn)(s:Shared)(σ:St)(H:Hp)(x y:V)(v u:Value)(Q:VK),Inv X pins σ H s->ZR x v->ZR y u->r x y H Q->
  wpAny (model X.prog X.w) X.A (f v u) (EP X pins σ Q) X.xe s
def UnR(X:Cx)(f:Value->Sem Value)(r:V->Hp->VK->Prop):Prop:=
 ∀(pins:Pn)(s:Shared)(σ:St)(H:Hp)(x:V)(v:Value)(Q:VK),Inv X pins σ H s->ZR x v->r x H Q->
  wpAny (model X.prog X.w) X.A (f v) (EP X pins σ Q) X.xe s
def Zbm(X:Cx)(f:Value)(r:List V->Hp->VK->Prop):Prop:=
 ∀(pins:Pn)(s:Shared)(σ:St)(H:Hp)(xs:List V)(us:List Value)(Q:VK),Inv X pins σ H s->ZS xs us->r xs H Q->
  wpAny (model X.prog X.w) X.A (call f us) (EP X pins σ Q) X.xe s
noncomputable def tOp(r:R2)(ta tb:TE):TE:=fun σ H Q=>ta σ H fun x H1=>tb σ H1 fun y H2=>r x y H2 Q
noncomputable def tUn(r:V->Hp->VK->Prop)(ta:TE):TE:=fun σ H Q=>ta σ H fun x H1=>r x H1 Q
noncomputable def rI(C:Int->Int->Prop)(g:Int->Int->V):R2:=fun x y H Q=>∃i j,x=.int i/\y=.int j/\C i j/\Q (g i j) H
noncomputable def rI0(g:Int->Int->V):R2:=fun x y H Q=>∃i j,x=.int i/\y=.int j/\Q (g i j) H
noncomputable def rU(g:Int->V):V->Hp->VK->Prop:=fun x H Q=>∃i,x=.int i/\Q (g i) H
theorem Zq3(ha:PE X a ta)(hb:PE X b tb){R:V->V->Hp->Prop}(I:Inv X pins σ H s)(h:ta σ H fun x H1=>tb σ H1 fun y H2=>R x y H2){f:Value->Value->Sem Value}(hf:∀v u s2 x y H2,Inv X pins σ H2 s2->ZR x v->ZR y u->R x y H2->wpAny (model X.prog X.w) X.A (f v u) Q X.xe s2):wpAny (model X.prog X.w) X.A (eval a X.env) (fun v s₁=>wpAny (model X.prog X.w) X.A (eval b X.env) (fun u s₂=>wpAny (model X.prog X.w) X.A (f v u) Q X.xe s₂) X.xe s₁) X.xe s:=by
 refine thn (ha pins s σ H _ I h) fun v s1 ⟨x,H1,I1,r1,q1⟩=>?_;refine thn (hb pins s1 σ H1 _ I1 q1) fun u s2 ⟨y,H2,I2,r2,q2⟩=>?_;exact hf v u s2 x y H2 I2 r1 r2 q2
theorem Zq4(ho:OpR X (binaryOp op) r)(ha:PE X a ta)(hb:PE X b tb):PE X (.BinOp a op b pos) (tOp r ta tb):=by
 intro pins s σ H Q I h;exact wpAny_BinOp (Zq3 ha hb I h fun v u s2 x y H2 I2 rx ry q=>ho pins s2 σ H2 x y v u Q I2 rx ry q)
theorem Zq5(ho:UnR X (unaryOp op) r)(ha:PE X a ta):PE X (.UnaryOp op a pos) (tUn r ta):=by
 intro pins s σ H Q I h;exact UnaryOp_ (thn (ha pins s σ H _ I h) fun v s1 ⟨x,H1,I1,r1,q1⟩=>ho pins s1 σ H1 x v Q I1 r1 q1)
theorem opI{g:Int->Int->Int}(rule:∀(i j:Int)(t u:Tok)(s:Shared)(Q:Vp)(E:Vp),C i j->Q (.int (g i j) s.toks) {s with toks:=s.toks+1}->wpAny (model X.prog X.w) X.A (f (.int i t) (.int j u)) Q E s):OpR X f (rI C fun i j=>.int (g i j)):=by
 intro pins s σ H x y v u Q I rx ry h;obtain⟨i,j,rfl,rfl,hc,q⟩:=h;obtain⟨t,rfl⟩:=rx;obtain⟨t',rfl⟩:=ry;exact rule i j t t' s _ _ hc ⟨.int (g i j),H,I.tok _,⟨_,rfl⟩,q⟩
theorem Zs8{g:Int->Int->Int}(rule:∀(i j:Int)(t u:Tok)(s:Shared)(Q:Vp)(E:Vp),Q (.int (g i j) s.toks) {s with toks:=s.toks+1}->wpAny (model X.prog X.w) X.A (f (.int i t) (.int j u)) Q E s):OpR X f (rI0 fun i j=>.int (g i j)):=by
 intro pins s σ H x y v u Q I rx ry h;obtain⟨i,j,rfl,rfl,q⟩:=h;obtain⟨t,rfl⟩:=rx;obtain⟨t',rfl⟩:=ry;exact rule i j t t' s _ _ ⟨.int (g i j),H,I.tok _,⟨_,rfl⟩,q⟩
theorem ZqI{g:Int->Int->Bool}(rule:∀(i j:Int)(t u:Tok)(s:Shared)(Q:Vp)(E:Vp),Q (.bool (g i j)) s->wpAny (model X.prog X.w) X.A (f (.int i t) (.int j u)) Q E s):OpR X f (rI0 fun i j=>.bl (g i j)):=by
 intro pins s σ H x y v u Q I rx ry h;obtain⟨i,j,rfl,rfl,q⟩:=h;obtain⟨t,rfl⟩:=rx;obtain⟨t',rfl⟩:=ry;exact rule i j t t' s _ _ ⟨.bl (g i j),H,I,rfl,q⟩
noncomputable def Zs9(i j:Int):Prop:=0<=j/\j<=1000000/\i.natAbs<2^64
theorem Zn2:OpR X (binaryOp .Add) (rI0 fun i j=>.int (i+j)):=Zs8 fun _ _ _ _ _ _ _ q=>add_int q
theorem Zn3:OpR X (binaryOp .Sub) (rI0 fun i j=>.int (i-j)):=Zs8 fun _ _ _ _ _ _ _ q=>sub_int q
theorem ZlL:OpR X (binaryOp .Mod) (rI (fun _ j=>j≠0) fun i j=>.int (i.fmod j)):=opI fun _ _ _ _ _ _ _ hc q=>mod_int' hc q
theorem Zn4:OpR X (binaryOp .Pow) (rI Zs9 fun i j=>.int (i^j.toNat)):=opI fun _ _ _ _ _ _ _ hc q=>pow_int_small hc.1 hc.2.1 hc.2.2 q
theorem unI{g:Int->Int}(rule:∀(i:Int)(t:Tok)(s:Shared)(Q:Vp)(E:Vp),Q (.int (g i) s.toks) {s with toks:=s.toks+1}->wpAny (model X.prog X.w) X.A (f (.int i t)) Q E s):UnR X f (rU fun i=>.int (g i)):=by
 intro pins s σ H x v Q I rx h;obtain⟨i,rfl,q⟩:=h;obtain⟨t,rfl⟩:=rx;exact rule i t s _ _ ⟨.int (g i),H,I.tok _,⟨_,rfl⟩,q⟩
theorem Zn5:UnR X (unaryOp .USub) (rU fun i=>.int (-i)):=unI fun _ _ _ _ _ q=>neg_int q
theorem Zdj:OpR X (compareOp .Lt) (rI0 fun i j=>.bl (decide (i<j))):=ZqI fun _ _ _ _ _ _ _ q=>lt_int q
theorem ZlM:OpR X (compareOp .LtE) (rI0 fun i j=>.bl (decide (i<=j))):=ZqI fun _ _ _ _ _ _ _ q=>le_int q
theorem Zg8:OpR X (compareOp .Gt) (rI0 fun i j=>.bl (decide (j<i))):=ZqI fun _ _ _ _ _ _ _ q=>gt_int q
theorem Zq6:OpR X (compareOp .GtE) (rI0 fun i j=>.bl (decide (j<=i))):=ZqI fun _ _ _ _ _ _ _ q=>ge_int q
theorem OpR.or(h:OpR X f r)(h':OpR X f r'):OpR X f (fun x y H Q=>r x y H Q\/r' x y H Q):=by
 intro pins s σ H x y v u Q I rx ry q;rcases q with q|q
 ·exact h pins s σ H x y v u Q I rx ry q
 ·exact h' pins s σ H x y v u Q I rx ry q
theorem ZkN(b:Expr)(h:autoParam (op≠ .In) Qde._auto_1)(h2:autoParam (op≠ .NotIn) Qde._auto_1):behindInMarks op b=false:=by
 have e1:(op==CmpOp.In)=false:=by cases op<;>first|rfl|exact absurd rfl h
 have e2:(op==CmpOp.NotIn)=false:=by cases op<;>first|rfl|exact absurd rfl h2
 cases b<;>simp[behindInMarks,e1,e2]
theorem ZlN(ho:OpR X (compareOp op) r)(ha:PE X a ta)(hb:PE X b tb)(hm:behindInMarks op b=false):PE X (.Compare a [op] [b] pos) (tOp r ta tb):=by
 intro pins s σ H Q I h;exact wpAny_Compare1 (Zq3 ha hb I h fun v u s2 x y H2 I2 rx ry q=>ho pins s2 σ H2 x y v u Q I2 rx ry q) hm
noncomputable def Zn6(t:TE):TT:=fun σ H Q=>t σ H fun x H'=>∃k,x=.bl k/\Q k H'
theorem ZlO(ho:OpR X (compareOp op) r)(ha:PE X a ta)(hb:PE X b tb)(hm:behindInMarks op b=false):PT X (.Compare a [op] [b] pos) (Zn6 (tOp r ta tb)):=by
 intro pins s σ H Q I h;refine wpAny_isTrue_Compare1 (thn (ha pins s σ H _ I h) fun v s1 ⟨x,H1,I1,r1,q1⟩=>thn (hb pins s1 σ H1 _ I1 q1) fun u s2 ⟨y,H2,I2,r2,q2⟩=>thn (ho pins s2 σ H2 x y v u _ I2 r1 r2 q2) fun c s3 ⟨z,H3,I3,r3,k,e,q3⟩=>?_) hm
 subst e;cases r3;exact wpAny_truthy_bool ⟨H3,I3,q3⟩
theorem ZfF:(sizeLine:Nat)<2^63:=by rw[sizeLine_eq];decide
theorem Zgv:OpR X (binaryOp .Add) (fun x y H Q=>∃i j,x=.str i/\y=.str j/\i.length+j.length<=sizeLine/\Q (.str (i++j)) H):=by
 intro pins s σ H x y v u Q I rx ry h;obtain⟨i,j,rfl,rfl,hz,q⟩:=h;obtain⟨t,rfl⟩:=rx;obtain⟨t',rfl⟩:=ry;exact add_str (fun t' tk=>⟨.str (i++j),H,I.tok _,⟨_,rfl⟩,q⟩) hz
theorem ZcY(r:ZS [x] us):∃u,us=[u]/\ZR x u:=by
 cases r with
 |cons r1 r2=>cases r2;exact⟨_,rfl,r1⟩
theorem ZjD(r:ZS [x,y] us):∃u w',us=[u,w']/\ZR x u/\ZR y w':=by
 cases r with
 |cons r1 r2=>
  cases r2 with
  |cons r3 r4=>cases r4;exact⟨_,_,rfl,r1,r3⟩
theorem Zac:Zbm X (.builtin "abs") (fun xs H Q=>∃i,xs=[.int i]/\Q (.int (if i<0 then -i else i)) H):=by
 intro pins s σ H xs us Q I r h;obtain⟨i,rfl,q⟩:=h;obtain⟨u,rfl,t,rfl⟩:=ZcY r;exact call_abs_int fun u tk=>⟨.int (if i<0 then -i else i),H,I.tok _,⟨_,rfl⟩,q⟩
theorem Zg9(hc:X.calm=true):Zbm X (.builtin "max") (fun xs H Q=>∃i j,xs=[.int i,.int j]/\Q (.int (if j>i then j else i)) H):=by
 intro pins s σ H xs us Q I r h;obtain⟨i,j,rfl,q⟩:=h;obtain⟨u,w',rfl,⟨t,rfl⟩,⟨t',rfl⟩⟩:=ZjD r;refine max_two_ints (I.ok.hd hc) fun h' tk k=>⟨_,H,I.kept k,?_,q⟩;by_cases hj:j>i
 ·rw[if_pos hj,if_pos hj];exact⟨_,rfl⟩
 ·rw[if_neg hj,if_neg hj];exact⟨_,rfl⟩
theorem Zha(hc:X.calm=true):Zbm X (.builtin "min") (fun xs H Q=>∃i j,xs=[.int i,.int j]/\Q (.int (if j<i then j else i)) H):=by
 intro pins s σ H xs us Q I r h;obtain⟨i,j,rfl,q⟩:=h;obtain⟨u,w',rfl,⟨t,rfl⟩,⟨t',rfl⟩⟩:=ZjD r;refine min_two_ints (I.ok.hd hc) fun h' tk k=>⟨_,H,I.kept k,?_,q⟩;by_cases hj:j<i
 ·rw[if_pos hj,if_pos hj];exact⟨_,rfl⟩
 ·rw[if_neg hj,if_neg hj];exact⟨_,rfl⟩
structure Room(k:Nat) (A:Around):Prop where
 hd:100<=k->A.handled=none
 gd:A.guards=some []
 dp:A.depth+3*k+5<recursionLimit
 un:A.units+16*k+200<cLine
theorem Room.mono(r:Room k A)(h:j<=k):Room j A:=⟨fun z=>r.hd (Nat.le_trans z h),r.gd,by have:=r.dp;lia,by have:=r.un;lia⟩
theorem Room.deeper(r:Room (k+1) A)(env:Env):Room k (A.deeper env):=
 ⟨fun z=>r.hd (Nat.le_succ_of_le z),r.gd,by have:=r.dp;show A.depth+1+3*k+5<_;lia,by have:=r.un;show A.units+3+16*k+200<_;lia⟩
theorem Room.in1(r:Room (k+1) A):Room k A.in1:=
 ⟨fun z=>r.hd (Nat.le_succ_of_le z),r.gd,by have:=r.dp;show A.depth+3*k+5<_;lia,by have:=r.un;show A.units+1+16*k+200<_;lia⟩
theorem Room.depth(r:Room k A):A.depth<recursionLimit:=by have:=r.dp;lia
theorem Room.units(r:Room k A):A.units+64<cLine:=by have:=r.un;lia
noncomputable def tNil:TA:=fun _ H Q=>Q [] H
noncomputable def Zq7(ta:TE)(tr:TA):TA:=fun σ H Q=>ta σ H fun x H1=>tr σ H1 fun xs H2=>Q (x::xs) H2
theorem ZkO:PA X [] tNil:=fun _ _ _ _ H Q I h=>Calls.spliced_nil ⟨[],H,I,.nil,h⟩
theorem ZeY(ha:PE X e te)(hr:PA X es t)(hs:autoParam (starEach (e::es) X.env=(false,eval e X.env)::starEach es X.env) Qrf._auto_1):PA X (e::es) (Zq7 te t):=by
 intro pos pins s σ H Q I h;rw[hs];show wpAny _ _ (spliced ((false,eval e X.env)::backTo pos (starEach es X.env))) _ _ s;refine Calls.spliced_cons (thn (ha pins s σ H _ I h) fun u s1 ⟨x,H1,I1,r1,q1⟩=>?_);exact thn (hr pos pins s1 σ H1 _ I1 q1) fun us s2 ⟨xs,H2,I2,r2,q2⟩=>⟨x::xs,H2,I2,.cons r1 r2,q2⟩
def Zug(t:TA):TE:=fun σ H Q=>t σ H fun xs H1=>xs.length<=sizeLine/\∀p,H1 p=none->Q (.ref p) (upd H1 p (.tup xs))
def Zuh(t:TA):TE:=fun σ H Q=>t σ H fun xs H1=>xs.length<=sizeLine/\∀p,H1 p=none->Q (.ref p) (upd H1 p (.lst xs))
theorem Zn7{x1}(h:PA X es t):PE X (.Tuple es x1 pos) (Zug t):=by
 intro pins s σ H Q I hq;refine wpAny_Tuple_spliced (thn (h pos pins s σ H _ I hq) fun us s1 ⟨xs,H1,I1,r,z,q⟩=>⟨by rw[<-r.length];exact z,?_⟩)
 have hf:H1 s1.heap.objs.size=none:=I1.hok.fresh (Nat.le_refl _);refine⟨.ref s1.heap.objs.size,upd H1 s1.heap.objs.size (.tup xs),I1.laid (t':=s1.toks) (fun b u e=>Hq _ e) (Nat.le_refl _) ?_,rfl,q _ hf⟩;exact⟨z,us,r,⟨_,Heap.get?_push_size _ rfl,rfl,_,rfl⟩⟩
theorem Zn8(h:PA X es t):PE X (.List es pos) (Zuh t):=by
 intro pins s σ H Q I hq;refine wpAny_List_spliced (thn (h pos pins s σ H _ I hq) fun us s1 ⟨xs,H1,I1,r,z,q⟩=>⟨by rw[<-r.length];exact z,?_⟩)
 have hf:H1 s1.heap.objs.size=none:=I1.hok.fresh (Nat.le_refl _);refine⟨.ref s1.heap.objs.size,upd H1 s1.heap.objs.size (.lst xs),I1.laid (t':=s1.toks) (fun b u e=>Hq _ e) (Nat.le_refl _) ?_,rfl,q _ hf⟩;exact⟨z,us,0,r,Heap.get?_push_size _ rfl⟩
abbrev Sp:=List V->Hp->VK->XK->Prop
abbrev CXT:=List Env->Hp->Shared->XK->Value->Shared->Prop
structure Env0(P:Program) (w:World) (K:Fg) (mg:Str->Option Value) (base:Heap) (A:Around) (outer:List Env) (s:Shared) (H:Hp):Prop where
 frames:A.frames=some outer
 mod:Mod K mg base
 bs:∀b o,base.get? b=some o->s.heap.get? b=some o/\H b=none
 bsz:base.objs.size<=s.heap.objs.size
 funs:s.heap.FunFrames base outer
 frf:∀b∈frs outer,H b=none
 hok:HOk P w H s.heap
 bare:AllBare s.gens
 qd:Qd A H
 tb:Tbs K H
def CE(outer:List Env)(P:Program)(w:World)(H:Hp)(s:Shared)(Q:VK)(u:Value)(s':Shared):Prop:=
 ∃v H',s'.os=s.os/\AllBare s'.gens/\Un (frs outer) [] H H' s.heap s'.heap/\HOk P w H' s'.heap/\ZR v u/\Q v H'
def CR(CX:CXT)(outer:List Env)(P:Program)(w:World)(H:Hp)(s:Shared)(Q:VK)(E:XK)(r:Result)(s':Shared):Prop:=
 match r with
 |.ok (.ret u)=>CE outer P w H s Q u s'
 |.ok _=>False
 |.error e=>CX outer H s E e s'
structure FnOk(P:Program) (w:World) (K:Fg) (mg:Str->Option Value) (base:Heap) (CX:CXT) (k:Nat) (f:Addr) (fd:FuncData) (ps:List Str) (sp:Sp):Prop where
 len:∀vs H Q E,sp vs H Q E->vs.length=ps.length
 run:∀(A:Around)(outer:List Env)(s:Shared)(H:Hp)(args:Args)(us:List Value)(vs:List V)(Q:VK)(E:XK),Room k A->Env0 P w K mg base A outer s H->BindsTo s fd args (ps.zip us)->ZS vs us->sp vs H Q E->
  codeAny (model P w) A (.call (.ref f) args) (CR CX outer P w H s Q E) s
theorem Inv.env0(I:Inv X pins σ H s):Env0 X.prog X.w X.K X.mg X.base X.A X.stack s H:=
 ⟨I.ok.frames,I.ok.mod,I.bs,Nat.le_trans I.ok.bsz I.sz,I.stack,I.stkFree,I.hok,I.bare,I.qd,I.ok.tb.un I.base⟩
theorem Inv.after(I:Inv X pins σ H s)(h:CE X.stack X.prog X.w H s Q u s'):EP X pins σ Q u s':=by
 obtain⟨v,H',os,bare,un,hok,r,q⟩:=h;obtain⟨hh,g,d,t,os'⟩:=s';obtain rfl:os'=s.os:=os;exact⟨v,H',I.call (h':=hh) (g':=g) (d':=d) (t':=t) (ch:=[]) un hok bare (fun b z=>absurd z (by simp)),r,q⟩
noncomputable def Zq8(sp:Sp)(dvs:List V)(E:XK)(t:TA):TE:=fun σ H Q=>t σ H fun vs H1=>sp (vs++dvs) H1 Q E
noncomputable def ZeZ(K:Fg)(fd:FuncData)(ps:List Str)(ds:List Value):Prop:=
 ∀(s:Shared)(us:List Value),K.In s.heap->(us++ds).length=ps.length->BindsTo s fd ⟨us,[]⟩ (ps.zip (us++ds))
theorem ZeZ.all{K:Fg}(h:∀us:List Value,us.length=ps.length->bindArgs fd ⟨us,[]⟩=pure (ps.zip us)):ZeZ K fd ps []:=fun s us _ hl=>by
 rw[List.append_nil]at hl ⊢;exact .of_eq (h us hl)
def Zhb(CX:CXT)(X:Cx)(E:XK):Prop:=∀(pins:Pn)(σ:St)(H:Hp)(s:Shared)(e:Value)(s':Shared),Inv X pins σ H s->CX X.stack H s E e s'->X.xe e s'
theorem Zn9(F:FnOk X.prog X.w X.K X.mg X.base CX k f fd ps sp)(hr:Room k X.A)(hb:ZeZ X.K fd ps ds)(hd:ZS dvs ds)(hx:Zhb CX X E)(I:Inv X pins σ H s)(r:ZS vs us)(h:sp (vs++dvs) H Q E):wpAny (model X.prog X.w) X.A (call (.ref f) us) (EP X pins σ Q) X.xe s:=by
 have r2:ZS (vs++dvs) (us++ds):=r.append hd;have hl:(us++ds).length=ps.length:=by rw[<-r2.length];exact F.len _ _ _ _ h
 refine wpAny_call (codeAny_mono (F.run X.A X.stack s H ⟨us,[]⟩ (us++ds) (vs++dvs) Q E hr I.env0 (hb s us I.kIn hl) r2 h) fun r s' hq=>?_);cases r with
 |error e=>exact hx pins σ H s e s' I hq
 |ok fl=>
  cases fl with
  |ret u=>exact I.after hq
  |next=>exact False.elim hq
  |brk=>exact False.elim hq
  |cont=>exact False.elim hq
theorem ZlP(F:FnOk X.prog X.w X.K X.mg X.base CX k f fd ps sp)(hr:Room k X.A)(hg:Gl X x)(hm:X.mg x=some (.ref f))(hk:PySem.W.keepIn X.K (.ref f)=true)(hb:ZeZ X.K fd ps ds)(hd:ZS dvs ds)(hx:Zhb CX X E)(ha:PA X (e::es) t)(hdb:autoParam ((x==("__debug__":Str))=false) Qde._auto_1)(he:autoParam (starEach (e::es) X.env=(false,eval e X.env)::starEach es X.env) Qrf._auto_1)(hpl:autoParam ((backTo pos (starEach es X.env)).any (·.1)=false) Qrf._auto_1):
  PE X (.Call (.Name x p) (e::es) [] pos) (Zq8 sp dvs E t):=by
 intro pins s σ H Q I h;refine wpAny_Call_Name_kw (Zg3 I hg hm ?_ hdb);refine PySem.W.callWith_K (h₀:=X.base) I.ok.mod.kin hk (thn (ha pos pins s σ H _ I h) fun us s1 ⟨vs,H1,I1,r,q⟩=>⟨I1.kIn,?_⟩) he hpl;exact Zn9 F hr hb hd hx I1 r q
structure FnScope(N P:List Str) (sc:Scope):Prop where
 kind:sc.kind=.function
 co:sc.isCoroutine=false
 gen:sc.isGenerator=false
 nd:N.Nodup
 pre:N.take P.length=P
 par:∀x∈P,sc.names.lookup x=some .local\/sc.names.lookup x=some .cell
 nofree:∀y∈sc.names,y.2≠ .free
theorem ZdY{kindOf:Str->Option NameKind}{x:Str}:∀{binds:List (Str×Value)} {m:Str->Option Value},(∀v,(x,v)∉binds)->bindL kindOf binds m x=m x
 |[],_,_=>rfl
 | (n,v)::r,m,h=>by
  unfold bindL;rw[ZdY fun w hw=>h w (List.mem_cons_of_mem _ hw)];split
  ·have:x≠n:=by rintro rfl;exact h v List.mem_cons_self
   simp[this]
  ·rfl
theorem ZdZ{kindOf:Str->Option NameKind}{x:Str}:∀{binds:List (Str×Value)} {m:Str->Option Value},(∀v,(x,v)∉binds)->bindC kindOf binds m x=m x
 |[],_,_=>rfl
 | (n,v)::r,m,h=>by
  unfold bindC;rw[ZdZ fun w hw=>h w (List.mem_cons_of_mem _ hw)];split
  ·rfl
  ·have:x≠n:=by rintro rfl;exact h v List.mem_cons_self
   simp[this]
theorem Zd0{kindOf:Str->Option NameKind}{x:Str}{v:Value}:∀{P:List Str}{vs:List Value}{i:Nat}{m:Str->Option Value},P.Nodup->P[i]?=some x->vs[i]?=some v->kindOf x=some .local->bindL kindOf (P.zip vs) m x=some v
 |[],_,_,_,_,h,_,_=>by simp at h
 |_::_,[],_,_,_,_,h,_=>by simp at h
 |p::P,w::vs,0,m,nd,h1,h2,hk=>by
  simp at h1 h2;subst h1;subst h2;show bindL kindOf ((p,w)::P.zip vs) m p=_;unfold bindL;rw[ZdY fun v hv=>(List.nodup_cons.mp nd).1 (List.of_mem_zip hv).1,if_pos hk];simp
 |p::P,w::vs,i+1,m,nd,h1,h2,hk=>by
  show bindL kindOf ((p,w)::P.zip vs) m x=_;unfold bindL;exact Zd0 (i:=i) (List.nodup_cons.mp nd).2 (by simpa using h1) (by simpa using h2) hk
theorem Zd1{kindOf:Str->Option NameKind}{x:Str}{v:Value}:∀{P:List Str}{vs:List Value}{i:Nat}{m:Str->Option Value},P.Nodup->P[i]?=some x->vs[i]?=some v->kindOf x≠some .local->bindC kindOf (P.zip vs) m x=some v
 |[],_,_,_,_,h,_,_=>by simp at h
 |_::_,[],_,_,_,_,h,_=>by simp at h
 |p::P,w::vs,0,m,nd,h1,h2,hk=>by
  simp at h1 h2;subst h1;subst h2;show bindC kindOf ((p,w)::P.zip vs) m p=_;unfold bindC;rw[ZdZ fun v hv=>(List.nodup_cons.mp nd).1 (List.of_mem_zip hv).1,if_neg hk];simp
 |p::P,w::vs,i+1,m,nd,h1,h2,hk=>by
  show bindC kindOf ((p,w)::P.zip vs) m x=_;unfold bindC;exact Zd1 (i:=i) (List.nodup_cons.mp nd).2 (by simpa using h1) (by simpa using h2) hk
noncomputable def start(N:List Str)(vs:List V):St:=vs.map some++List.replicate (N.length-vs.length) none
noncomputable def ZfG(CX:CXT)(P:Program)(w:World)(K:Fg)(mg:Str->Option Value)(base:Heap)(N:List Str)(qual:Str)(scope:Scope)(f:Addr)(cd:Value)(A:Around)(outer:List Env)(s:Shared)(H:Hp)(E:XK):Cx where
 prog:=P
 w:=w
 K:=K
 mg:=mg
 base:=base
 A:=A.deeper (envOfC qual scope s.heap.objs.size f cd)
 N:=N
 s₀:=s
 H₀:=H
 env:=envOfC qual scope s.heap.objs.size f cd
 outer:=outer
 stack:=envOfC qual scope s.heap.objs.size f cd::outer
 ex:=[]
 calm:=A.handled.isNone
 fxs:=none
 fn:=fun _=>true
 pn:=[]
 xe:=fun e s'=>wpAny (model P w) (A.deeper (envOfC qual scope s.heap.objs.size f cd)) (leaving (envOfC qual scope s.heap.objs.size f cd) e) (fun _ s''=>CX outer H s E e s'') (fun e' s''=>CX outer H s E e' s'') s'
theorem ZfH{sc:Scope}(h:sc.names.lookup x=some .cell):∃c,(cellsFrom n sc.names []).lookup x=some c:=by
 have q:=PySem.W.cellsFrom_some sc.names n [] (.inl h);exact Option.isSome_iff_exists.mp q
theorem Zhc{K:Fg}(S:FnScope N ps scope)(e0:Env0 P w K mg base A outer s H)(hl:vs.length=ps.length)(r:ZS vs us)(x:InCallC s s.heap.objs.size (bindL (envOfC qual scope s.heap.objs.size f cd).kindOf (ps.zip us) fun _=>none) (cellsFrom (s.heap.objs.size+1) scope.names []) (bindC (envOfC qual scope s.heap.objs.size f cd).kindOf (ps.zip us) fun _=>none) s1):Inv (ZfG CX P w K mg base N qual scope f cd A outer s H E) [] (start N vs) H s1:=by
 have hpl:ps.length<=N.length:=by have:=congrArg List.length S.pre;rw[List.length_take]at this;lia
 obtain⟨h1,tk,rfl,hk⟩:=x.done;have noA:∀b:Addr,b∉(ZfG CX P w K mg base N qual scope f cd A outer s H E).ex:=fun b z=>absurd (show b∈([]:List Addr)from z) (by simp)
 refine⟨⟨e0.mod,S.kind,rfl,rfl,Nat.le_refl _,fun y z c h1 h2=>?_,fun y hy=>?_,fun y c _ h=>?_,fun z=>Option.isNone_iff_eq_none.mp z,Around.frames_deeper e0.frames,.inr ⟨rfl,rfl⟩,fun b z=>absurd z (noA b),e0.bs,e0.bsz,fun b _ _=>noA b,fun b z=>absurd z (noA b),e0.funs,e0.frf,e0.tb⟩,rfl,e0.bare,Un.kept hk,⟨_,x.toInCall.ns,fun i y v h1 h2 h3=>?_⟩,fun y c h=>⟨_,x.cell y c h⟩,e0.hok.fresh (Nat.le_refl _),fun y c h=>?_,fun p hp=>absurd (show p∈([]:Pn)from hp) (by simp),e0.hok.kept hk,?_,e0.qd,.free rfl⟩
 ·exact name_of_addr x.apart (PySem.mem_of_lookup h1) (PySem.mem_of_lookup h2)
 ·have hy:scope.names.lookup y=some .cell\/scope.names.lookup y=some .free:=hy;rcases hy with hy|hy
  ·exact ZfH hy
  ·exact absurd rfl (S.nofree _ (PySem.mem_of_lookup hy))
 ·exact Nat.le_of_lt (x.above y c (PySem.mem_of_lookup h))
 ·have hi:i<vs.length:=by
   unfold start at h2;by_cases hi:i<vs.length
   ·exact hi
   ·rw[List.getElem?_append_right (by simpa using hi)]at h2
    rw[List.getElem?_replicate]at h2
    split at h2<;>cases h2
  have ha:vs[i]?=some v:=by
   unfold start at h2;rw[List.getElem?_append_left (by simpa using hi),List.getElem?_map]at h2
   cases e:vs[i]? with
   |none=>rw[e]at h2;cases h2
   |some a=>rw[e]at h2;cases h2;rfl
  obtain⟨u,hu,rv⟩:=r.get ha;have hp:ps[i]?=some y:=by
   rw[<-S.pre,List.getElem?_take_of_lt (by lia)];exact h1
  have ndP:ps.Nodup:=by rw[<-S.pre];exact S.nd.sublist (List.take_sublist _ _)
  refine⟨u,rv,?_⟩;rcases S.par y (List.mem_of_getElem? hp)with k|k
  ·exact .inl ⟨k,Zd0 ndP hp hu k⟩
  ·obtain⟨c,e⟩:=ZfH (n:=s.heap.objs.size+1) k;refine .inr ⟨.inl k,c,e,?_⟩;have q:=x.cell y c e;rw[Zd1 ndP hp hu (by show scope.names.lookup y≠_;rw[k];decide)]at q
   exact q
 ·exact e0.hok.fresh (Nat.le_of_lt (x.above y c (PySem.mem_of_lookup h)))
 ·unfold start;show _=N.length;rw[List.length_append,List.length_map,List.length_replicate];lia
theorem Zoa{K:Fg}{kV:Value}(lk:K.lookup f=some ⟨oc,od,.func (PySem.W.fnOf name qual params body scope dV kV doc pm an cdv ct),osl⟩)(hcd:PySem.W.codeIn K cdv qual=true)(S:FnScope N ps scope)(len:∀vs H Q E,sp vs H Q E->vs.length=ps.length)(hbody:∀(A:Around)(outer:List Env)(s:Shared)(H:Hp)(vs:List V)(Q:VK)(E:XK),Room k (A.deeper (envOfC qual scope s.heap.objs.size f cdv))->sp vs H Q E->∃t,PSs (ZfG CX P w K mg base N qual scope f cdv A outer s H E) body t/\t {nx:=fun _ H'=>Q .non H',rt:=Q} (start N vs) H):FnOk P w K mg base CX (k+1) f (PySem.W.fnOf name qual params body scope dV kV doc pm an cdv ct) ps sp:=by
 refine⟨len,fun A outer s H args us vs Q E hr e0 hb r hsp=>?_⟩;have hl:=len _ _ _ _ hsp;have KX:K.In s.heap:=e0.mod.kin.keeps fun b o e=>(e0.bs b o e).1;have lim:s.heap.NoLimit:=e0.mod.nolimit.keeps fun b o e=>(e0.bs b o e).1;have hkind:∀y∈ps.zip us,scope.names.lookup y.1=some .local\/(scope.names.lookup y.1=some .cell/\((cellsFrom (s.heap.objs.size+1) scope.names []).lookup y.1).isSome=true):=fun⟨n,v⟩ hy=>by
  rcases S.par n (List.of_mem_zip hy).1 with q|q
  ·exact .inl q
  ·exact .inr ⟨q,PySem.W.cellsFrom_some _ _ _ (.inl q)⟩
 refine codeAny_call_function hr.depth (KX _ _ lk) rfl S.co S.gen rfl (PySem.W.codeRec_of KX hcd) (hb _ _ _ _ ?_);refine wpAny_newFunctionEnv_cells S.kind hkind fun env he s1 x=>?_;subst he;refine⟨lim.keeps x.toInCall.keep,codeAny_func ?_⟩;obtain⟨t,ht,hq⟩:=hbody A outer s H vs Q E (hr.deeper _) hsp;have I:Inv (ZfG CX P w K mg base N qual scope f cdv A outer s H E) [] (start N vs) H s1:=Zhc S e0 hl r x;refine wpAny_mono (ht [] s1 (start N vs) H _ I hq) (fun fl s' hs=>?_) fun e s' hs=>hs;have fin:∀{σ':St}{H':Hp}{v:V}{u:Value},Inv (ZfG CX P w K mg base N qual scope f cdv A outer s H E) [] σ' H' s'->ZR v u->Q v H'->CE outer P w H s Q u s':=
  fun{σ' H' v u} J rv q=>⟨v,H',J.os,J.bare,J.base,J.hok,rv,q⟩
 cases fl with
 |ret u=>
  obtain⟨v,σ',H',J,rv,q⟩:=hs;exact fin J rv q
 |next=>
  obtain⟨σ',H',J,q⟩:=hs;exact fin (v:=V.non) (u:=Value.none) J rfl q
 |brk=>
  obtain⟨_,_,_,q⟩:=hs;exact False.elim q
 |cont=>
  obtain⟨_,_,_,q⟩:=hs;exact False.elim q
section
variable {id:String}
noncomputable def tCB(r:List V->Hp->VK->Prop)(t:TA):TE:=fun σ H Q=>t σ H fun vs H1=>r vs H1 Q
theorem ZfI(hc:Zbm X (.builtin id) r)(hg:Gl X x)(hm:X.mg x=none)(hv:bootBuiltins x=some (.builtin id))(ha:PA X (e::es) t)(hn:autoParam (x≠"__name__") Qde._auto_1)(hdb:autoParam ((x==("__debug__":Str))=false) Qde._auto_1)
  (he:starEach (e::es) X.env=(false,eval e X.env)::starEach es X.env:=by rfl) (hpl:(backTo pos (starEach es X.env)).any (·.1)=false:=by rfl):PE X (.Call (.Name x p) (e::es) [] pos) (tCB r t):=by
 intro pins s σ H Q I h;refine wpAny_Call_Name_kw (Zbg I hg hm hv ?_ hn hdb);exact PyProof.Rows.callWith_builtin1 (thn (ha pos pins s σ H _ I h) fun us s1 ⟨vs,H1,I1,r1,q1⟩=>hc pins s1 σ H1 vs us Q I1 r1 q1) he hpl
theorem Zhd(hc:Zbm X (.type T) r)(hg:Gl X x)(hm:X.mg x=none)(hv:bootBuiltins x=some (.type T))(ha:PA X (e::es) t)(hn:autoParam (x≠"__name__") Qde._auto_1)(hdb:autoParam ((x==("__debug__":Str))=false) Qde._auto_1)
  (he:starEach (e::es) X.env=(false,eval e X.env)::starEach es X.env:=by rfl) (hpl:(backTo pos (starEach es X.env)).any (·.1)=false:=by rfl):PE X (.Call (.Name x p) (e::es) [] pos) (tCB r t):=by
 intro pins s σ H Q I h;refine wpAny_Call_Name_kw (Zbg I hg hm hv ?_ hn hdb);exact PyProof.Rows.callWith_type1 (thn (ha pos pins s σ H _ I h) fun us s1 ⟨vs,H1,I1,r1,q1⟩=>hc pins s1 σ H1 vs us Q I1 r1 q1) he hpl
end
end L2
namespace HT
open PyProof.Rows
noncomputable def ZaV:List Int->List Int->Bool
 |[],[]=>false
 |[],_::_=>true
 |_::_,[]=>false
 |x::xs,y::ys=>if x=y then ZaV xs ys else decide (x<y)
theorem Z1(x y:Int)(xs ys:List Int):ZaV (x::xs) (y::ys)=if x=y then ZaV xs ys else decide (x<y):=rfl
theorem ZjE(A:Around)(s:Shared)(a:Int)(t:Tok)(c:Int)(u:Tok):∃e,SeqAt.EqAt A s (.int a t) (.int c u) e/\(e=true↔a=c):=
 ⟨(a==c),SeqAt.EqAt.int_int a t c u,by simp⟩
theorem ZjF(A:Around)(s:Shared)(a:Int)(t:Tok)(c:Int)(u:Tok)(prog:Program)(w:World)(E:Vp)(Q:Vp)(h:Q (.bool (decide (a<c))) s):wpAny (model prog w) A (richCompare .Lt (.int a t) (.int c u)) Q E s:=
 (PyProof.Rows.lt_int h:wpAny (model prog w) A (compareOp .Lt (.int a t) (.int c u)) Q E s)
section
open PySem.SeqAt
open PySem.AutoSeq1 (wpAny_loadPart')
open PySem.MeetsSeq PySem.MeetsSeq2 PySem.MeetsSeq3
end
theorem ZlQ(ht:IsTup s.heap t vs.toArray)(hb:IsTup s.heap b ws.toArray)(hv:vs≠[])(h1:ws=[]->Q (.ref t) s)(h2:ws≠[]->Q (.ref s.heap.objs.size) {s with heap:=s.heap.push {cls:=.type "tuple",data:=.seq (vs++ws).toArray}})(hsz:vs.length+ws.length<=sizeLine):wpAny (model prog w) A (binaryOp .Add (.ref t) (.ref b)) Q E s:=by
 obtain⟨⟨cls,dd,data,sl⟩,ho,hc,n,hd⟩:=id ht;obtain⟨⟨cls2,dd2,data2,sl2⟩,ho2,hc2,n2,hd2⟩:=id hb;simp only at hc hd hc2 hd2;subst hc hd hc2 hd2;have e:vs.toArray++ws.toArray=(vs++ws).toArray:=by simp
 by_cases hw:ws=[]
 ·exact concat_meets ⟨_,ho,rfl⟩ ⟨_,ho2,rfl⟩ noFill_tuple_add seq_tuple_add PySem.F.slot_tuple_add PySem.F.entry_tuple_add (PySem.F.args_tuple_add_2 _ _)
   (tuple_addW1 t b vs.toArray ws.toArray n n2 dd dd2 sl sl2 (by simpa using hv) (by simp[hw])) ⟨ho,ho2,h1 hw⟩
 ·refine concat_meets ⟨_,ho,rfl⟩ ⟨_,ho2,rfl⟩ noFill_tuple_add seq_tuple_add PySem.F.slot_tuple_add PySem.F.entry_tuple_add (PySem.F.args_tuple_add_2 _ _)
   (tuple_addW2 t b vs.toArray ws.toArray n n2 dd dd2 sl sl2 (by simpa using hv) (by simpa using hw) (by rw[List.size_toArray,List.size_toArray];exact hsz)) ⟨ho,ho2,?_⟩
  rw[e];exact h2 hw
noncomputable def sIx(n d:Nat):Option Int->Nat
 |none=>d
 |some v=>if v<0 then(v+(n:Int)).toNat else min v.toNat n
theorem Zob(n d:Nat)(hd:d<=n)(o:Option Int):sIx n d o<=n:=by
 cases o with
 |none=>exact hd
 |some v=>
  show(if v<0 then(v+(n:Int)).toNat else min v.toNat n)<=n
  by_cases hv:v<0
  ·rw[if_pos hv];lia
  ·rw[if_neg hv];exact Nat.min_le_right _ _
theorem Zhe(v:Int)(n d:Nat):(if v<0 then max (v+(n:Int)) 0 else min v (n:Int))=((sIx n d (some v):Nat):Int):=by
 show(if v<0 then max (v+(n:Int)) 0 else min v (n:Int))=(((if v<0 then(v+(n:Int)).toNat else min v.toNat n):Nat):Int)
 by_cases hv:v<0
 ·simp only[if_pos hv];lia
 ·simp only[if_neg hv];lia
theorem Zgw(lo hi:Option Int)(n:Nat):Builtin.Slice.sliceAdjust lo hi 1 (n:Int)=(((sIx n 0 lo:Nat):Int),((sIx n n hi:Nat):Int)):=by
 have h1:¬((1:Int)<0):=by lia
 unfold Builtin.Slice.sliceAdjust;simp only[h1,if_false];refine Prod.ext ?_ ?_
 ·cases lo with
  |none=>rfl
  |some v=>exact Zhe v n 0
 ·cases hi with
  |none=>rfl
  |some v=>exact Zhe v n n
theorem Zgx(i j:Nat):Builtin.Slice.slicePlaces (i:Int) (j:Int) 1=j-i:=by
 unfold Builtin.Slice.slicePlaces;have h1:(1:Int)>0:=by lia
 simp only[h1,if_true,Int.ediv_one]
 split<;>lia
theorem Zc3(p:IsPart v o)(h:Q o s):wpAny (model prog w) A (Builtin.Slice.slicePartIndex v) Q E s:=by
 cases p with
 |none=>exact slicePart_none h
 |int i t=>exact slicePart_int h
theorem Zcb{lo:Option Int}{n:Nat}(hs:s.heap.IsSliceOf sl vl vu .none)(pl:IsPart vl lo)(pu:IsPart vu hi)(h:Q (((sIx n 0 lo:Nat):Int),1,sIx n n hi-sIx n 0 lo) s):wpAny (model prog w) A (Builtin.Slice.sliceApplied (.ref sl) (pure (n:Int))) Q E s:=by
 obtain⟨os,hos,hcs,hds⟩:=id hs;unfold Builtin.Slice.sliceApplied Builtin.Slice.sliceFields;refine Wb (Wb (wpAny_field hos hds (x:=vl) rfl (Wb (wpAny_field hos hds (x:=vu) rfl (Wb (wpAny_field hos hds (x:=.none) rfl (Wp ?_)))))));refine Wb (slicePart_none ?_);show wpAny _ _ (if((1:Int)==0)=true then _ else _) _ _ s
 rw[if_neg (by decide)]
 refine Wb (Zc3 pl (Wb (Zc3 pu (Wb (Wp ?_)))));show wpAny _ _ (match Builtin.Slice.sliceAdjust lo hi 1 (n:Int)with|(lo,hi)=>pure (lo,(1:Int),Builtin.Slice.slicePlaces lo hi 1)) _ _ s
 rw[Zgw lo hi n];show wpAny _ _ (pure (((sIx n 0 lo:Nat):Int),(1:Int),Builtin.Slice.slicePlaces ((sIx n 0 lo:Nat):Int) ((sIx n n hi:Nat):Int) 1)) _ _ s;rw[Zgx];exact Wp h
theorem ZjG(xs:Array Value)(i k:Nat):((List.range k).filterMap fun(m:Nat)=>xs[((i:Int)+(m:Int)*1).toNat]?).toArray=((xs.toList.drop i).take k).toArray:=by
 have e:(fun(m:Nat)=>xs[((i:Int)+(m:Int)*1).toNat]?)=fun m=>xs[i+m]?:=by
  funext m
  have:((i:Int)+(m:Int)*1).toNat=i+m:=by lia
  rw[this]
 rw[e]
 have:=pick_run xs i k
 rw[List.filterMap_map]at this;have e2:((fun x=>xs[x]?)∘fun x=>i+x)=fun m=>xs[i+m]?:=rfl;rw[e2]at this;rw[this]
theorem ZbJ{lo:Option Int}(ht:IsTup s.heap t items)(hs:s.heap.IsSliceOf sl vl vu .none)(pl:IsPart vl lo)(pu:IsPart vu hi)(hw:¬(sIx items.size 0 lo=0/\sIx items.size items.size hi=items.size))(h:Q (.ref s.heap.objs.size) {s with heap:=s.heap.push {cls:=.type "tuple",data:=.seq ((items.toList.drop (sIx items.size 0 lo)).take (sIx items.size items.size hi-sIx items.size 0 lo)).toArray}})(hsz:items.size<=sizeLine):wpAny (model prog w) A (getItem (.ref t) (.ref sl)) Q E s:=by
 have htake:sizeOk (.seq ((items.toList.drop (sIx items.size 0 lo)).take (sIx items.size items.size hi-sIx items.size 0 lo)).toArray):=by
  show((items.toList.drop (sIx items.size 0 lo)).take (sIx items.size items.size hi-sIx items.size 0 lo)).toArray.size<=sizeLine;rw[List.size_toArray,List.length_take,List.length_drop,Array.length_toList];lia
 have hj:sIx items.size items.size hi<=items.size:=Zob _ _ (Nat.le_refl _) hi;obtain⟨os,hos,hcs,hds⟩:=id hs;have hTs:s.TypeIs (.ref sl) "slice":=⟨os,hos,hcs⟩;unfold getItem
 try with_reducible refine wpAny_holding ?_
 first|refine Wb (Wp ?_)|skip
 refine Wb (wpAny_sequenceKey ht.typeIs (by decide) ?_)
 refine Wb (wpAny_callSpecial?_slot (name:=Str.ofString "__getitem__") ht.typeIs PyProof.Rows.slot_tuple_getitem (wpAny_call_entry PyProof.Rows.slot_tuple_getitem ht.typeIs entry_tuple_getitem ?_ (args_tuple_getitem _ _)))
 show wpAny _ _ (Builtin.Tuple.tupleItemsOf (.ref t) >>= _) _ _ s;refine Wb (tupleItemsOf_ ht ?_);refine Wb (wpAny_typeOf hTs ?_);rw[if_pos (by decide)]
 refine Wb (Zcb hs pl pu ?_);have hno:¬((((sIx items.size 0 lo:Nat):Int)==0&&(1:Int)==1&&(sIx items.size items.size hi-sIx items.size 0 lo)==items.size)=true):=by
  intro q;rw[Bool.and_eq_true,Bool.and_eq_true]at q;have q1:((sIx items.size 0 lo:Nat):Int)=0:=eq_of_beq q.1.1;have q2:sIx items.size items.size hi-sIx items.size 0 lo=items.size:=eq_of_beq q.2;exact hw ⟨by lia,by lia⟩
 show wpAny _ _ (if(((sIx items.size 0 lo:Nat):Int)==0&&(1:Int)==1&&(sIx items.size items.size hi-sIx items.size 0 lo)==items.size)=true then _ else _) _ _ s
 rw[if_neg hno,ZjG]
 first
  |exact Wb (m:=Builtin.Tuple.tupleExact _) (wpAny_newObj_type (Wp ⟨_,rfl,Wp h⟩) htake)
  |exact Wb (m:=Builtin.Tuple.tupleExact _) (wpAny_newObj_type (Wb (Wp (Wp ⟨_,rfl,Wp h⟩))) htake)
  |exact Wb (Wb (m:=Builtin.Tuple.tupleExact _) (wpAny_newObj_type (Wp (Wp ⟨_,rfl,Wp h⟩)) htake))
  |exact Wb (Wb (m:=Builtin.Tuple.tupleExact _) (wpAny_newObj_type (Wp ⟨_,rfl,Wp h⟩) htake))
end HT
namespace L2
open PyProof.Rows
abbrev TO:=St->Hp->(Option Int->Hp->Prop)->Prop
def PO(X:Cx)(e:Option Expr)(t:TO):Prop:=
 ∀(pins:Pn)(s:Shared)(σ:St)(H:Hp)(Q:Option Int->Hp->Prop),Inv X pins σ H s->t σ H Q->
  wpAny (model X.prog X.w) X.A (evalPart e X.env) (fun u s'=>∃o H',Inv X pins σ H' s'/\IsPart u o/\Q o H') X.xe s
noncomputable def tNoPart:TO:=fun _ H Q=>Q none H
noncomputable def Zq9(t:TE):TO:=fun σ H Q=>t σ H fun x H1=>∃i,x=.int i/\Q (some i) H1
theorem Zgy:∀{us:List Value},ZS (ns.map V.int) us->IntsAre us ns:=by
 induction ns with
 |nil=>intro us r;rw[List.map_nil]at r;cases r;exact .nil
 |cons n ns ih=>
  intro us r;rw[List.map_cons]at r;cases r with
  |cons r1 r2=>
   obtain⟨t,e⟩:=r1;subst e;exact .cons n t (ih r2)
section
variable {lo hi:Option Expr}{p2:Pos}
theorem ZlR:PO X none tNoPart:=by
 intro pins s σ H Q I h;rw[evalPart_none];exact Wp ⟨none,H,I,.none,h⟩
theorem ZlS(h:PE X e te):PO X (some e) (Zq9 te):=by
 intro pins s σ H Q I hw;rw[evalPart_some];refine thn (h pins s σ H _ I hw) fun u s1 ⟨x,H1,I1,r1,q1⟩=>?_;obtain⟨i,rfl,q⟩:=q1;obtain⟨t,rfl⟩:=r1;exact⟨some i,H1,I1,.int i t,q⟩
def SlR(X:Cx)(r:V->Option Int->Option Int->Hp->VK->Prop):Prop:=
 ∀(pins:Pn)(s:Shared)(σ:St)(H:Hp)(x:V)(v vl vu:Value)(lo hi:Option Int)(sl:Addr)(Q:VK),Inv X pins σ H s->ZR x v->s.heap.IsSliceOf sl vl vu .none->IsPart vl lo->IsPart vu hi->r x lo hi H Q->
  ∃T id,typeLookup (.type T) "__getitem__"=pure (some (.builtin id))/\s.TypeIs v T/\wpAny (model X.prog X.w) X.A (getItem v (.ref sl)) (EP X pins σ Q) X.xe s
theorem SlR.or(h:SlR X r)(h':SlR X r'):SlR X (fun x lo hi H Q=>r x lo hi H Q\/r' x lo hi H Q):=by
 intro pins s σ H x v vl vu lo hi sl Q I rx hs pl pu q;rcases q with q|q
 ·exact h pins s σ H x v vl vu lo hi sl Q I rx hs pl pu q
 ·exact h' pins s σ H x v vl vu lo hi sl Q I rx hs pl pu q
noncomputable def tSl(r:V->Option Int->Option Int->Hp->VK->Prop)(te:TE)(tl th:TO):TE:=fun σ H Q=>te σ H fun x H1=>tl σ H1 fun l H2=>th σ H2 fun u H3=>r x l u H3 Q
theorem ZjH(hr:SlR X r)(he:PE X e te)(hl:PO X lo tl)(hu:PO X hi th):PE X (.Subscript e (.Slice lo hi none p2) pos) (tSl r te tl th):=by
 intro pins s σ H Q I h;refine Subscript_ (thn (he pins s σ H _ I h) fun v s1 ⟨x,H1,I1,r1,q1⟩=>?_);refine wpAny_Slice (thn (hl pins s1 σ H1 _ I1 q1) fun vl s2 ⟨l,H2,I2,pl,q2⟩=>thn (hu pins s2 σ H2 _ I2 q2) fun vu s3 ⟨u,H3,I3,pu,q3⟩=>?_);rw[evalPart_none];refine Wp ?_;have I4:Inv X pins σ H3 {s3 with heap:=s3.heap.push {cls:=.type "slice",data:=.fields #[vl,vu,.none]}}:=I3.kept (t':=s3.toks) fun b ob q=>Hq _ q;obtain⟨T,id,hT,ht,hg⟩:=hr pins {s3 with heap:=s3.heap.push {cls:=.type "slice",data:=.fields #[vl,vu,.none]}} σ H3 x v vl vu l u s3.heap.objs.size Q I4 r1 (Heap.IsSliceOf.new ..) pl pu q3;show wpAny (model X.prog X.w) X.A (subscriptTail e (.Slice lo hi none p2) v (.ref s3.heap.objs.size)) (EP X pins σ Q) X.xe {s3 with heap:=s3.heap.push {cls:=.type "slice",data:=.fields #[vl,vu,.none]}};exact tail_any (ops:=[.ref s3.heap.objs.size,v]) ht hT hg (by with_unfolding_all rfl)
def ZkP(xs:List V)(lo hi:Option Int):List V:=(xs.drop (HT.sIx xs.length 0 lo)).take (HT.sIx xs.length xs.length hi-HT.sIx xs.length 0 lo)
theorem Zcp(xs:List V)(lo hi:Option Int):(ZkP xs lo hi).length<=xs.length:=by
 unfold ZkP;rw[List.length_take,List.length_drop];lia
def Zui(K:Fg):V->Option Int->Option Int->Hp->VK->Prop:=fun x lo hi H Q=>∃a xs,x=.ref a/\SqT K H a xs/\
 ¬(HT.sIx xs.length 0 lo=0/\HT.sIx xs.length xs.length hi=xs.length)/\∀p,H p=none->Q (.ref p) (upd H p (.tup (ZkP xs lo hi)))
theorem Zoc:SlR X (Zui X.K):=by
 intro pins s σ H x v vl vu lo hi sl Q I rx hs pl pu h;obtain⟨a,xs,rfl,hx,hw,q⟩:=h;cases rx;obtain⟨its,r,ht,hz⟩:=I.tuple hx;have hlen:its.toArray.size=xs.length:=by rw[List.size_toArray];exact r.length.symm
 refine⟨"tuple",_,PyProof.Rows.slot_tuple_getitem.lookup,ht.typeIs,?_⟩;refine HT.ZbJ ht hs pl pu (by rw[hlen];exact hw) ?_ (by rw[hlen];exact hz)
 rw[hlen];refine⟨.ref s.heap.objs.size,_,I.laid (t':=s.toks) (o:=.tup (ZkP xs lo hi)) (fun b ob q=>Hq _ q) (Nat.le_refl _) ?_,rfl,q _ (I.hok.fresh (Nat.le_refl _))⟩;exact⟨Nat.le_trans (Zcp xs lo hi) hz,_,(r.drop (HT.sIx xs.length 0 lo)).take (HT.sIx xs.length xs.length hi-HT.sIx xs.length 0 lo),IsTup.new _ _⟩
def ZlT(K:Fg):R2:=fun x y H Q=>∃a b xs ys,x=.ref a/\y=.ref b/\SqT K H a xs/\SqT K H b ys/\xs≠[]/\xs.length+ys.length<=sizeLine/\
 (ys=[]->Q (.ref a) H)/\(ys≠[]->∀p,H p=none->Q (.ref p) (upd H p (.tup (xs++ys))))
theorem ZS.nil_iff(r:ZS xs us):us=[]↔xs=[]:=by
 cases r with
 |nil=>simp
 |cons _ _=>simp
theorem ZlU:OpR X (binaryOp .Add) (ZlT X.K):=by
 intro pins s σ H x y v u Q I rx ry h;obtain⟨a,b,xs,ys,rfl,rfl,ha,hb,hx,hz,q1,q2⟩:=h;cases rx;cases ry;obtain⟨its,r1,p1,_⟩:=I.tuple ha;obtain⟨its2,r2,p2,_⟩:=I.tuple hb;refine HT.ZlQ p1 p2 (fun z=>hx (r1.nil_iff.mp z)) (fun z=>⟨.ref a,H,I,rfl,q1 (r2.nil_iff.mp z)⟩) (fun z=>?_) (by rw[<-r1.length,<-r2.length];exact hz)
 refine⟨.ref s.heap.objs.size,_,I.laid (t':=s.toks) (o:=.tup (xs++ys)) (fun b ob q=>Hq _ q) (Nat.le_refl _) ?_,rfl,q2 (fun w=>z (r2.nil_iff.mpr w)) _ (I.hok.fresh (Nat.le_refl _))⟩;exact⟨by rw[List.length_append];exact hz,_,r1.append r2,IsTup.new _ _⟩
end
noncomputable def ixN(n:Nat)(i:Int):Option Nat:=if 0<=i then(if i<n then some i.toNat else none)else if -(n:Int)<=i then some (i+n).toNat else none
def atI{α:Type}(xs:List α)(i:Int):Option α:=(ixN xs.length i).bind fun j=>xs[j]?
theorem Zhf(h:ixN n i=some j):seqIndex? i n=some j/\j<n/\ -(n:Int)<=i/\i<n:=by
 unfold ixN at h;by_cases h0:0<=i
 ·rw[if_pos h0]at h;by_cases h1:i<n
  ·rw[if_pos h1]at h;have e:i.toNat=j:=Option.some.inj h;exact⟨by rw[seqIndex_of h0 h1,e],by lia,by lia,h1⟩
  ·rw[if_neg h1]at h;cases h
 ·rw[if_neg h0]at h;by_cases h1: -(n:Int)<=i
  ·rw[if_pos h1]at h;have e:(i+n).toNat=j:=Option.some.inj h;exact⟨by rw[seqIndex_neg (by lia) h1,e],by lia,h1,by lia⟩
  ·rw[if_neg h1]at h;cases h
theorem Zhg{xs:List α}{v:α}(h:atI xs i=some v):∃j,seqIndex? i xs.length=some j/\xs[j]?=some v/\j<xs.length/\ -(xs.length:Int)<=i/\i<xs.length:=by
 unfold atI at h;cases e:ixN xs.length i with
 |none=>rw[e]at h;cases h
 |some j=>
  rw[e]at h;obtain⟨h1,h2,h3,h4⟩:=Zhf e;exact⟨j,h1,h,h2,h3,h4⟩
theorem ZlV{xs:List α}{j:Nat}{v:α}(h:xs[j]?=some v):atI xs (j:Int)=some v:=by
 have hj:j<xs.length:=(List.getElem?_eq_some_iff.mp h).1;have e:ixN xs.length (j:Int)=some j:=by
  unfold ixN;rw[if_pos (by lia),if_pos (by lia)];simp
 unfold atI;rw[e];exact h
noncomputable def Zhh(b:Expr):Prop:=∀o i,subscripted b false o i=operate [o,i] (getItem o i)
def IxR(X:Cx)(r:R2):Prop:=
 ∀(value slice:Expr)(pins:Pn)(s:Shared)(σ:St)(H:Hp)(x y:V)(v u:Value)(Q:VK),Inv X pins σ H s->ZR x v->ZR y u->r x y H Q->
  subscripted slice false v u=operate [v,u] (getItem v u)->wpAny (model X.prog X.w) X.A (subscriptTail value slice v u) (EP X pins σ Q) X.xe s
def MtR(X:Cx)(id:String)(r:V->List V->Hp->VK->Prop):Prop:=
 ∀(pins:Pn)(s:Shared)(σ:St)(H:Hp)(x:V)(xs:List V)(v:Value)(us:List Value)(Q:VK),Inv X pins σ H s->ZR x v->ZS xs us->r x xs H Q->
  wpAny (model X.prog X.w) X.A (call (.builtin id) (v::us)) (EP X pins σ Q) X.xe s
section
variable {X:Cx}{a:Expr}
theorem IxR.or(h:IxR X r)(h':IxR X r'):IxR X (fun x y H Q=>r x y H Q\/r' x y H Q):=by
 intro value slice pins s σ H x y v u Q I rx ry q hs;rcases q with q|q
 ·exact h value slice pins s σ H x y v u Q I rx ry q hs
 ·exact h' value slice pins s σ H x y v u Q I rx ry q hs
theorem Zra(hr:IxR X r)(ha:PE X a ta)(hb:PE X b tb)(hs:Zhh b):PE X (.Subscript a b pos) (tOp r ta tb):=by
 intro pins s σ H Q I h;exact Subscript_ (Zq3 ha hb I h fun v u s2 x y H2 I2 rx ry q=>hr a b pins s2 σ H2 x y v u Q I2 rx ry q (hs _ _))
def Zta(K:Fg):R2:=fun x y H Q=>∃p xs i v,x=.ref p/\y=.int i/\SqL K H p xs/\atI xs i=some v/\Q v H
def Ztb(K:Fg):R2:=fun x y H Q=>∃p xs i v,x=.ref p/\y=.int i/\SqT K H p xs/\atI xs i=some v/\Q v H
theorem ZlW:IxR X (Zta X.K):=by
 intro value slice pins s σ H x y v u Q I rx ry h hs;obtain⟨p,xs,i,z,rfl,rfl,hq,he,q⟩:=h;cases rx;obtain⟨t,rfl⟩:=ry;obtain⟨its,r,pl,hz⟩:=I.list hq;obtain⟨j,h1,h2,h3,h4,h5⟩:=Zhg he;obtain⟨w,ew,rw'⟩:=r.get h2;have hl:=r.length;have hn:=ZfF;have fin:EP X pins σ Q w s:=⟨z,H,I,rw',q⟩;by_cases h0:0<=i
 ·have hj:i.toNat=j:=by
   rw[seqIndex_of h0 h5]at h1;exact Option.some.inj h1
  exact item_listR pl.isList h0 (by lia) (by rw[hj];simpa using ew) fin hs
 ·have hj:(i+(its.toArray.size:Int)).toNat=j:=by
   rw[seqIndex_neg (by lia) h4]at h1
   rw[List.size_toArray,<-hl];exact Option.some.inj h1
  exact subscriptTail_builtinR (x:=w) pl.isList.typeIs slot_list_getitem.lookup
   (wpAny_getItem_list_neg (Q:=fun r s'=>r=w/\EP X pins σ Q r s') pl.isList (by lia) (by rw[List.size_toArray]<;>lia) (by lia) (by rw[hj];simpa using ew) ⟨rfl,fin⟩) hs
theorem Zod:IxR X (Ztb X.K):=by
 intro value slice pins s σ H x y v u Q I rx ry h hs;obtain⟨p,xs,i,z,rfl,rfl,hq,he,q⟩:=h;cases rx;obtain⟨t,rfl⟩:=ry;obtain⟨its,r,pl,hz⟩:=I.tuple hq;obtain⟨j,h1,h2,h3,h4,h5⟩:=Zhg he;obtain⟨w,ew,rw'⟩:=r.get h2;have hl:=r.length;have hn:=ZfF;have fin:EP X pins σ Q w s:=⟨z,H,I,rw',q⟩;exact subscriptTail_builtinR (x:=w) pl.typeIs slot_tuple_getitem.lookup
  (getItem_tuple (j:=j) (Q:=fun r s'=>r=w/\EP X pins σ Q r s') pl (by lia) (by lia) (by rw[List.size_toArray,<-hl];exact h1) (by simpa using ew) ⟨rfl,fin⟩) hs
theorem Zgz(its:List Value)(n j:Nat)(u:Value):Obj.mapSeq (·.setIfInBounds j u) {cls:=.type "list",data:=.seq its.toArray n}={cls:=.type "list",data:=.seq (its.set j u).toArray n}:=by
 simp[Obj.mapSeq]
theorem Inv.lst{pins:Pn}{σ:St}{H:Hp}{s:Shared}{p:Addr}{xs:List V}(I:Inv X pins σ H s)(h:H p=some (.lst xs)):∃(its:List Value) (n:Nat),ZS xs its/\s.heap.get? p=some {cls:=.type "list",data:=.seq its.toArray n}/\xs.length<=sizeLine:=by
 obtain⟨z,its,n,r,e⟩:=I.hok p _ h;exact⟨its,n,r,e,z⟩
theorem Inv.lstUpd{its:List Value}(I:Inv X pins σ H s)(h:H p=some (.lst xs))(ho:s.heap.get? p=some {cls:=.type "list",data:=.seq its.toArray n})(hf:f {cls:=.type "list",data:=.seq its.toArray n}={cls:=.type "list",data:=.seq its'.toArray n'})(r:ZS ys its')(hz:ys.length<=sizeLine)(t:Nat):Inv X pins σ (upd H p (.lst ys)) {s with heap:=s.heap.update p f,toks:=t}:=by
 have e:(s.heap.update p f).get? p=some {cls:=.type "list",data:=.seq its'.toArray n'}:=by
  rw[Heap.get?_update_self f ho (by rw[hf]<;>rfl),hf]
 refine I.write (x:=p) (e:=p) (by rw[h];trivial) (.inl rfl) (fun b u hb q=>(Heap.get?_update_other _ _ (Ne.symm hb)).trans q) ⟨_,e⟩ ?_
 exact⟨hz,its',n',r,e⟩
def rSetL:V->V->V->Hp->(Hp->Prop)->Prop:=fun o i v H Q=>∃p xs k j,o=.ref p/\i=.int k/\H p=some (.lst xs)/\ixN xs.length k=some j/\Q (upd H p (.lst (xs.set j v)))
theorem ZjI:Zs6 X rSetL:=by
 intro pins s σ H o i v ov iv u Q I ro ri rv h;obtain⟨p,xs,k,j,rfl,rfl,hp,hj,q⟩:=h;cases ro;obtain⟨t,rfl⟩:=ri;obtain⟨its,n,r,ho,hz⟩:=I.lst hp;obtain⟨h1,h2,h3,h4⟩:=Zhf hj;have hl:=r.length;have hn:=ZfF;have I':Inv X pins σ (upd H p (.lst (xs.set j v))) {s with heap:=s.heap.update p (Obj.mapSeq (·.setIfInBounds j u))}:=
  I.lstUpd hp ho (Zgz its n j u) (r.set rv j) (by rw[List.length_set];exact hz) s.toks
 by_cases h0:0<=k
 ·have hk:k.toNat=j:=by
   rw[seqIndex_of h0 h4]at h1;exact Option.some.inj h1
  exact PySem.W.ki_setAt ho h0 (by lia) (by rw[List.size_toArray,<-hl];exact h4) (by rw[hk];exact⟨_,I',q⟩)
 ·have hk:(k+(its.toArray.size:Int)).toNat=j:=by
   rw[seqIndex_neg (by lia) h3]at h1
   rw[List.size_toArray,<-hl];exact Option.some.inj h1
  exact PySem.W.ki_setBack ho (by lia) (by rw[List.size_toArray,<-hl];exact h3) (by lia) (by rw[hk];exact⟨_,I',q⟩)
theorem Zd2(lo hi:Option Int)(n:Nat):(sliceBounds lo hi none n).1=((HT.sIx n 0 lo:Nat):Int)/\(sliceBounds lo hi none n).2.1=((HT.sIx n n hi:Nat):Int)/\(sliceBounds lo hi none n).2.2=1:=by
 refine⟨?_,?_,rfl⟩
 ·cases lo with
  |none=>simp[sliceBounds,HT.sIx]
  |some i=>
   simp only[sliceBounds,HT.sIx,Option.getD_none,show(1:Int)>0 by decide,if_true]
   by_cases h:i<0
   ·simp only[h,if_true]<;>lia
   ·simp only[h,if_false]<;>lia
 ·cases hi with
  |none=>simp[sliceBounds,HT.sIx]
  |some i=>
   simp only[sliceBounds,HT.sIx,Option.getD_none,show(1:Int)>0 by decide,if_true]
   by_cases h:i<0
   ·simp only[h,if_true]<;>lia
   ·simp only[h,if_false]<;>lia
theorem Zdk(its:List Value)(lo hi:Option Int):slicePick its.toArray lo hi none=((its.drop (HT.sIx its.length 0 lo)).take (HT.sIx its.length its.length hi-HT.sIx its.length 0 lo)).toArray:=by
 obtain⟨h1,h2,h3⟩:=Zd2 lo hi its.toArray.size;unfold slicePick;rw[h1,h2,h3];simp only[sliceRange_one,pick_run,List.size_toArray]<;>rfl
def Zuj(K:Fg):V->Option Int->Option Int->Hp->VK->Prop:=fun x lo hi H Q=>∃a xs,x=.ref a/\SqL K H a xs/\∀p,H p=none->Q (.ref p) (upd H p (.lst (ZkP xs lo hi)))
theorem ZlX:SlR X (Zuj X.K):=by
 intro pins s σ H x v vl vu lo hi sl Q I rx hs pl pu h;obtain⟨a,xs,rfl,hx,q⟩:=h;cases rx;obtain⟨its,r,ht,hz⟩:=I.list hx;have hlen:=r.length;refine⟨"list",_,slot_list_getitem.lookup,ht.isList.typeIs,?_⟩;refine wpAny_getItem_list_slice ht.isList hs pl pu .none (by simp) ?_ (by rw[List.size_toArray]<;>lia)
 rw[Zdk,<-hlen];refine⟨.ref s.heap.objs.size,_,I.laid (t':=s.toks) (o:=.lst (ZkP xs lo hi)) (fun b ob q=>Hq _ q) (Nat.le_refl _) ?_,rfl,q _ (I.hok.fresh (Nat.le_refl _))⟩;exact⟨Nat.le_trans (Zcp xs lo hi) hz,_,0,(r.drop (HT.sIx xs.length 0 lo)).take (HT.sIx xs.length xs.length hi-HT.sIx xs.length 0 lo),Heap.get?_push_size _ rfl⟩
theorem Zp:Zbm X (.builtin "len") (fun xs H Q=>∃p ys,xs=[.ref p]/\(SqL X.K H p ys\/SqT X.K H p ys)/\Q (.int ys.length) H):=by
 intro pins s σ H xs us Q I r h;obtain⟨p,ys,rfl,hq,q⟩:=h;obtain⟨u,rfl,rx⟩:=ZcY r;cases rx;have hn:=ZfF;rcases hq with hq|hq
 ·obtain⟨its,r',pl,hz⟩:=I.list hq;have hlen:=r'.length;exact Calls.call_len_list pl.isList (by simp only[List.size_toArray]<;>lia) ⟨.int ys.length,H,I.tok _,⟨s.toks+1,by rw[List.size_toArray,hlen]⟩,q⟩
 ·obtain⟨its,r',pl,hz⟩:=I.tuple hq;have hlen:=r'.length;exact len_tuple pl (by simp only[List.size_toArray]<;>lia) ⟨.int ys.length,H,I.tok _,⟨s.toks+1,by rw[List.size_toArray,hlen]⟩,q⟩
theorem ZbZ:Zbm X (.type "list") (fun xs H Q=>∃p ys,xs=[.ref p]/\(SqL X.K H p ys\/SqT X.K H p ys)/\∀l,H l=none->Q (.ref l) (upd H l (.lst ys))):=by
 intro pins s σ H xs us Q I r h;obtain⟨p,ys,rfl,hq,q⟩:=h;obtain⟨u,rfl,rx⟩:=ZcY r;cases rx;have fin:∀(its:List Value),ZS ys its->ys.length<=sizeLine->∀(h':Heap)(c':Nat),(∀b o',s.heap.get? b=some o'->h'.get? b=some o')->
   h'.get? s.heap.objs.size=some {cls:=.type "list",dict:=none,data:=.seq its.toArray c',slots:= #[]}->EP X pins σ Q (.ref s.heap.objs.size) {s with heap:=h'}:=fun its r' hz h' c' kp e=>
  ⟨.ref s.heap.objs.size,_,I.laid (t':=s.toks) kp (Nat.le_refl _) (show ZaH X.prog X.w _ h' _ (.lst ys)from⟨hz,its,c',r',e⟩),rfl,q _ (I.hok.fresh (Nat.le_refl _))⟩
 rcases hq with hq|hq
 ·obtain⟨its,r',pl,hz⟩:=I.list hq;have hlen:=r'.length;obtain⟨o,ho,hc,n,hd⟩:=pl.isList;exact call_list_seq p (.inl rfl) ho hc hd (fun h' c' kp e=>fin its r' hz h' c' kp e) (by simp only[List.size_toArray]<;>lia)
 ·obtain⟨its,r',pl,hz⟩:=I.tuple hq;have hlen:=r'.length;obtain⟨o,ho,hc,n,hd⟩:=pl;exact call_list_seq p (.inr rfl) ho hc hd (fun h' c' kp e=>fin its r' hz h' c' kp e) (by simp only[List.size_toArray]<;>lia)
def tyV(K:Fg)(T:String)(x:V)(H:Hp):Prop:=match x with
 |.str _=>T="str"
 |.int _=>T="int"
 |.ref p=>(T="list"/\∃xs,SqL K H p xs)\/(T="tuple"/\∃o,K.lookup p=some o/\o.cls=.type "tuple"/\o.dict=none)\/
   (T="dict"/\((∃kvs,H p=some (.dK kvs))\/∃kvs,H p=some (.dT kvs)))\/(T="set"/\∃S n,H p=some (.set S n))
 |_=>False
theorem Zoe(I:Inv X pins σ H s)(r:ZR x v)(ty:tyV X.K T x H):s.TypeIs v T/\∀a,v=.ref a->∃ob,s.heap.get? a=some ob/\ob.dict=none:=by
 cases x with
 |str z=>
  obtain⟨t,rfl⟩:=r;cases(show T="str" from ty);exact⟨typeIs_str s z t,fun _ e=>nomatch e⟩
 |int i=>
  obtain⟨t,rfl⟩:=r;cases(show T="int" from ty);exact⟨typeIs_int s i t,fun _ e=>nomatch e⟩
 |ref p=>
  cases r;rcases ty with⟨rfl,xs,hq⟩|⟨rfl,o,hk,hc,hd⟩|⟨rfl,hk⟩|⟨rfl,S,n,hk⟩
  ·obtain⟨its,_,pl,_⟩:=I.list hq;refine⟨pl.isList.typeIs,fun a e=>?_⟩;cases e;obtain⟨o,n,e,c,hd,_⟩:=pl;exact⟨o,e,hd⟩
  ·refine⟨⟨o,I.kIn p o hk,hc⟩,fun a e=>?_⟩;cases e;exact⟨o,I.kIn _ o hk,hd⟩
  ·have z:∃o,s.heap.get? p=some o/\o.ExactDict:=by
    rcases hk with⟨kvs,hk⟩|⟨kvs,hk⟩
    ·obtain⟨_,_,_,_,o,_,_,e,ex,_⟩:=I.hok p _ hk;exact⟨o,e,ex⟩
    ·obtain⟨_,_,_,_,o,_,_,e,ex,_⟩:=I.hok p _ hk;exact⟨o,e,ex⟩
   obtain⟨o,e,ex⟩:=z;refine⟨⟨o,e,ex.1⟩,fun a e2=>?_⟩;cases e2;exact⟨o,e,ex.2.1⟩
  ·obtain⟨o,_,_,_,e,ex,_⟩:=I.hok p _ hk;refine⟨⟨o,e,ex.1⟩,fun a e2=>?_⟩;cases e2;exact⟨o,e,ex.2.1⟩
 |_=>exact False.elim ty
def tBM(K:Fg)(T:String)(r:V->List V->Hp->VK->Prop)(to:TE)(t:TA):TE:=fun σ H Q=>to σ H fun x H1=>tyV K T x H1/\t σ H1 fun xs H2=>r x xs H2 Q
variable {e:Expr}{id:String}
theorem Zrb(pa:PlainAttrs T)(slot:Slot T name id)(hty:typeOf (.builtin id)=pure (.type "method_descriptor"))(hm:MtR X id r)(ho:PE X o to)(ha:PA X (e::es) t)(hbase:autoParam (attributeBase o name X.env (eval o X.env)=eval o X.env) Qrf._auto_1)
  (hfew:((backTo cpos (starEach (e::es) X.env)).all (fun x=> !x.1)&&(backToKw cpos (keywordEach [] X.env)).all (fun x=>x.1.isSome) && decide ((e::es).length+([]:List Keyword).length+(if([]:List Keyword).isEmpty then 0 else 1)<30))=true:=by rfl)
  (hline:(apos.endLine==cpos.line)=true:=by rfl) (hs:starEach (e::es) X.env=(false,eval e X.env)::starEach es X.env:=by rfl) (hplain:(backTo cpos (starEach es X.env)).any (·.1)=false:=by rfl):
  PE X (.Call (.Attribute o name apos) (e::es) [] cpos) (tBM X.K T r to t):=by
 intro pins s σ H Q I h;refine wpAny_Call_method_late hbase hfew hline rfl (thn (ho pins s σ H _ I h) fun v s1 ⟨x,H1,I1,r1,ty,q1⟩=>?_);obtain⟨h1,h2⟩:=Zoe I1 r1 ty;refine⟨T,id,pa,slot,hty,h1,h2,?_⟩;have hA:=ha cpos pins s1 σ H1 _ I1 q1;rw[hs]at hA ⊢;refine Calls.callWith_builtin (by show(false||(backTo cpos (starEach es X.env)).any (·.1))=false;rw[hplain]<;>rfl) (Calls.evalArgs_plain ?_)
 exact thn hA fun us s2 ⟨vs,H2,I2,r2,q2⟩=>hm pins s2 σ H2 x vs v us Q I2 r1 r2 q2
end
def MtM(X:Cx)(id:String)(r:V->List V->Hp->VK->Prop):Prop:=
 ∀(pins:Pn)(s:Shared)(σ:St)(H:Hp)(x:V)(xs:List V)(v:Value)(us:List Value)(Q:VK),Inv X pins σ H s->ZR x v->ZS xs us->r x xs H Q->
  wpAny (model X.prog X.w) X.A (call (.builtin id) (v::us)) (EP X pins σ Q) X.xe s
theorem ZS.one:∀{x:V}{us:List Value},ZS [x] us->∃u,us=[u]/\ZR x u
 |_,_,.cons r .nil=>⟨_,rfl,r⟩
theorem Inv.lset{its:List Value}(I:Inv X pins σ H s)(hH:H l=some (.lst xs))(e:s.heap.get? l=some {cls:=.type "list",data:=.seq its.toArray n})(hf:f its.toArray=its'.toArray)(hv:ZS ys its')(hz:ys.length<=sizeLine):Inv X pins σ (upd H l (.lst ys)) {s with heap:=s.heap.update l (Obj.mapSeq f),toks:=t'}:=by
 have q:=PySem.IsL.update e f;rw[hf]at q;refine I.write (x:=l) (e:=l) (by rw[hH];exact trivial) (.inl rfl) (fun b' u hb hu=>(Heap.get?_update_other s.heap (Obj.mapSeq f) (Ne.symm hb)).trans hu) ⟨_,q⟩ ?_
 exact⟨hz,its',_,hv,q⟩
theorem Inv.lnew(I:Inv X pins σ H s)(hv:ZS ys its)(hz:ys.length<=sizeLine):Inv X pins σ (upd H s.heap.objs.size (.lst ys)) {s with heap:=s.heap.push {cls:=.type "list",data:=.seq its.toArray},toks:=t'}:=
 I.laid (fun _ _ q=>Hq _ q) (Nat.le_refl _) ⟨hz,its,0,hv,Heap.get?_push_size _ rfl⟩
theorem Inv.fresh(I:Inv X pins σ H s):H s.heap.objs.size=none:=I.hok.fresh (Nat.le_refl _)
theorem Inv.lstM(I:Inv X pins σ H s)(hH:H l=some (.lst xs)):xs.length<=sizeLine/\∃(its:List Value) (n:Nat),ZS xs its/\xs.length=its.length/\s.heap.get? l=some {cls:=.type "list",data:=.seq its.toArray n}:=by
 obtain⟨z,its,n,r,e⟩:=I.hok l _ hH;exact⟨z,its,n,r,r.length,e⟩
theorem ZjJ(h:n<=sizeLine):Builtin.List.listTooLong n=false:=by
 unfold Builtin.List.listTooLong;exact decide_eq_false (by lia)
def rAppend:V->List V->Hp->VK->Prop:=fun x vs H Q=>∃l xs y,x=.ref l/\vs=[y]/\H l=some (.lst xs)/\xs.length<sizeLine/\Q .non (upd H l (.lst (xs++[y])))
theorem Zcq:MtM X "list.append" rAppend:=by
 intro pins s σ H x vs v us Q I rx rv h;obtain⟨l,xs,y,rfl,rfl,hH,hz,q⟩:=h;cases rx;obtain⟨u,rfl,ru⟩:=rv.one;obtain⟨z,its,n,r,hl,e⟩:=I.lstM hH;refine call_meets F.slot_list_append ⟨_,e,rfl⟩ F.entry_list_append (F.args_list_append_2 _ _) (PySem.list_append l its.toArray n u (by rw[List.size_toArray];lia)) ⟨e,?_⟩
 refine⟨.non,_,I.lset (its':=its++[u]) hH e (by simp) (r.append (.cons ru .nil)) ?_,rfl,q⟩
 rw[List.length_append,List.length_singleton];lia
def rExtend:V->List V->Hp->VK->Prop:=fun x vs H Q=>∃l b xs zs,x=.ref l/\vs=[.ref b]/\H l=some (.lst xs)/\H b=some (.lst zs)/\xs.length+zs.length<=sizeLine/\Q .non (upd H l (.lst (xs++zs)))
theorem Zof:MtM X "list.extend" rExtend:=by
 intro pins s σ H x vs v us Q I rx rv h;obtain⟨l,b,xs,zs,rfl,rfl,hH,hB,hz,q⟩:=h;cases rx;obtain⟨u,rfl,ru⟩:=rv.one;cases ru;obtain⟨z,its,n,r,hl,e⟩:=I.lstM hH;obtain⟨z2,its2,n2,r2,hl2,e2⟩:=I.lstM hB;have hsz:its.toArray.size+its2.toArray.size<=sizeLine:=by rw[List.size_toArray,List.size_toArray];lia
 have hlong:¬(!its.toArray.isEmpty&&Builtin.List.listTooLong (its.toArray.size+its2.toArray.size))=true:=by
  rw[ZjJ hsz,Bool.and_false];exact Bool.false_ne_true
 refine call_meets F.slot_list_extend ⟨_,e,rfl⟩ F.entry_list_extend (F.args_list_extend_2 _ _)
  (AutoSeq1.list_extend_list_list_0 l its.toArray n b its2.toArray n2 hlong (by rw[List.size_toArray];lia) (by lia)) ⟨e,e2,?_⟩
 refine⟨.non,_,I.lset (its':=its++its2) hH e (by simp) (r.append r2) ?_,rfl,q⟩
 rw[List.length_append];lia
def rCat:R2:=fun x y H Q=>∃l b xs zs,x=.ref l/\y=.ref b/\H l=some (.lst xs)/\H b=some (.lst zs)/\xs.length+zs.length<=sizeLine/\∀p,H p=none->Q (.ref p) (upd H p (.lst (xs++zs)))
theorem Zog:OpR X (binaryOp .Add) rCat:=by
 intro pins s σ H x y v u Q I rx ry h;obtain⟨l,b,xs,zs,rfl,rfl,hH,hB,hz,q⟩:=h;cases rx;cases ry;obtain⟨z,its,n,r,hl,e⟩:=I.lstM hH;obtain⟨z2,its2,n2,r2,hl2,e2⟩:=I.lstM hB;refine PySem.P.add_list e e2 ?_ (by rw[List.size_toArray,List.size_toArray];lia)
 have ea:its.toArray++its2.toArray=(its++its2).toArray:=by simp
 rw[ea];exact⟨.ref _,_,I.lnew (t':=s.toks) (r.append r2) (by rw[List.length_append];lia),rfl,q _ I.fresh⟩
end L2
namespace Att
open PySem.W PySem.Calls PyProof.Rows
theorem Zcr:∀(ns:List Int)(vs:List Value),WellAll P h vs (ns.map WData.int)->IntsAre vs ns:=by
 intro ns
 induction ns with
 |nil=>
  intro vs w;rw[List.map_nil]at w;cases w;exact .nil
 |cons n ns ih=>
  intro vs w;rw[List.map_cons]at w;cases w with
  |cons a b=>
   cases a;exact .cons _ _ (ih _ b)
theorem Zhi{l:OpenLaw}(hn:l.most=some n)(hpre:l.row.toRowW.claim.pre args=true)(hwl:WellAll P h vals args):∃a vs ns,vals=[Value.ref a]/\args=[WData.list (ns.map WData.int)]/\h.get? a=some {cls:=.type "list",data:=.seq vs.toArray}/\IntsAre vs ns/\ns.length<=n:=by
 have hsh:WShape.hasAll [] args [.list .int]=true:=(pre_splitW hpre).1;have hc:l.pre.holds [] {args:=args}=true:=(pre_splitW hpre).2;obtain⟨d,r,rfl,h1,h2⟩:=hasAllW_cons hsh;obtain rfl:=hasAllW_nil h2;obtain⟨xs,rfl,h3⟩:=hasW_list h1;obtain⟨ns,rfl⟩:=items_int h3;have hlen:ns.length<=n:=by
  unfold OpenLaw.pre at hc;have h4:(WTm.not (.lt (.lit (.int (n:Int))) (.len (.arg 0)))).holds [] {args:=[.list (ns.map .int)]}=true:=by
   have h4:=(holds_andW hc).1;rw[hn]at h4;exact h4
  have h5:=condW_of h4 (w_not (w_lt w_lit (w_len_list (w_arg rfl))));rw[List.length_map]at h5;refine Nat.le_of_not_lt fun q=>?_;have q':(n:Int)<((ns.length:Nat):Int):=by lia
  first
   | (rw[decide_eq_true q']at h5;exact absurd h5 (by decide))
   | (simp at h5;lia)
 cases hwl with
 |cons w1 w2=>
  cases w2;cases w1 with
  |list ho hall=>exact⟨_,_,ns,rfl,rfl,ho,Zcr ns _ hall,hlen⟩
theorem Zhj(l:OpenLaw)(args:List WData):l.row.toRowW.claim.post args (.bool true) args=true:=
 postW_of (r:=l.row.toRowW) (X:=(true==true))
  (show WShape.has [] (.bool true) .bool=true by first|rfl|decide|simp[WShape.has,WShape.arms,WShape.armsAll])
  (show(WTm.eq .res (.lit (.bool true))).value [] {args:=args,res:=some (.bool true),after:=args}=some (.bool (true==true))from w_eq_bool (w_res rfl) w_lit) rfl
theorem Ze0{l:OpenLaw}(hn:l.most=some n)(hdf:d.params.defaults=[])(call:∀(w:World)(s₀ s₁:Shared)(mg mb:Str->Option Value)(fa:Addr)(o:Obj)(pm cd doc:Value)(a:Addr)(vs:List Value)(ns:List Int),Ground q loose [] XP w s₀ mg mb s₁.heap->YP w s₁.heap->s₁.heap.get? fa=some o->o.data=.func (docDef d.name d.params d.body d.scope pm cd doc)->s₁.heap.CodeRec cd d.name->mg d.name=some (.ref fa)->s₁.heap.get? a=some {cls:=.type "list",data:=.seq vs.toArray}->IntsAre vs ns->ns.length<=n->s₁.gens= #[]->codeAny (model l.prog w) callerA (.call (.ref fa) ⟨[.ref a],[]⟩) (fun r s'=>r=.ok (.ret (.bool true))/\OldK s₁.heap s'.heap/\s'.os=s₁.os/\AllBare s'.gens) s₁):WalkO q loose XP YP l.row.toRowW d [] (fun f vs=>PySem.call f vs):=by
 intro w s₀ s₁ mg mb G Y fa o pm cd doc dV kV ho hd hcd hD hmg hg args vals as hpre hlay hrd hwl hlo;obtain rfl:dV=.none:=Dflts.none hD hdf;obtain rfl:kV=.none:=Dflts.noKw hD;obtain⟨a,vs,ns,rfl,rfl,hobj,hints,hlen⟩:=Zhi hn hpre hwl;refine enter_call (codeAny_mono (call w s₀ s₁ mg mb fa o pm cd doc a vs ns G Y ho (fd_plain hd) hcd hmg hobj hints hlen hg) fun r s' hq=>?_);obtain⟨rfl,h2,h3,h4⟩:=hq;exact⟨.inl ⟨.bool true,.bool true,[],rfl,fun _=>rfl,.bool true,Zhj l _,fun _=>⟨List.Pairwise.nil,fun _ hm=>(nomatch hm)⟩⟩,h2,h3,h4⟩
end Att
namespace L2
open PyProof.Rows
theorem Zd3:∀{vs:List Value}{ns:List Int},IntsAre vs ns->ZS (ns.map V.int) vs
 |_,_,.nil=>.nil
 |_,_,.cons n t h=>.cons ⟨t,rfl⟩ (Zd3 h)
noncomputable def ZaW(s:Stmt):Arguments:=match s with
 |.FunctionDef _ a _ _ _ _ _ _ _ _=>a
 |_=>{posonlyargs:=[],args:=[],vararg:=none,kwonlyargs:=[],kw_defaults:=[],kwarg:=none,defaults:=[]}
noncomputable def Zah(s:Stmt):List Stmt:=match s with
 |.FunctionDef _ _ b _ _ _ _ _ _ _=>b
 |_=>[]
noncomputable def Zl(s:Stmt):Scope:=match s with
 |.FunctionDef _ _ _ _ _ _ sc _ _ _=>sc
 |_=>{kind:=.function,names:=[],isGenerator:=false,isCoroutine:=false}
noncomputable abbrev E0:XK:=fun _ _ _=>False
structure Fun(K:Fg) (x qual:Str) (st:Stmt) (f:Addr) (fd:FuncData):Prop where
 ex:∃(oc:Value) (od:Option Addr) (kV doc pm:Value) (an:Option Addr) (cdv ct:Value) (osl:Array (Option Value)),
  fd=PySem.W.fnOf x qual (ZaW st) (Zah st) (Zl st) .none kV doc pm an cdv ct/\K.lookup f=some ⟨oc,od,.func fd,osl⟩/\PySem.W.codeIn K cdv qual=true
 kp:PySem.W.keepIn K (.ref f)=true
section
variable {K:Fg}
theorem Fun.binds{st:Stmt}(F:Fun K x qual st f fd)(h:∀(kV doc pm:Value)(an:Option Addr)(cdv ct:Value)(us:List Value),us.length=ps.length->bindArgs (PySem.W.fnOf x qual (ZaW st) (Zah st) (Zl st) .none kV doc pm an cdv ct) ⟨us,[]⟩=pure (ps.zip us)):ZeZ K fd ps []:=by
 obtain⟨oc,od,kV,doc,pm,an,cdv,ct,osl,rfl,lk,hcd⟩:=F.ex;exact .all (h kV doc pm an cdv ct)
theorem Zoh{st:Stmt}{kV:Value}(l:K.lookup f=some ⟨oc,od,.func (PySem.W.fnOf x qual (ZaW st) (Zah st) (Zl st) .none kV doc pm an cdv ct),osl⟩)(c:PySem.W.codeIn K cdv qual=true)(k:PySem.W.keepIn K (.ref f)=true):Fun K x qual st f (PySem.W.fnOf x qual (ZaW st) (Zah st) (Zl st) .none kV doc pm an cdv ct):=⟨⟨oc,od,kV,doc,pm,an,cdv,ct,osl,rfl,l,c⟩,k⟩
end
theorem Zhk(h:n<=1000):n<sizeLine:=Nat.lt_of_le_of_lt h (by decide)
theorem pv(i:Nat)(hN:autoParam (X.N[i]?=some x) Qrf._auto_1)(hv:Vis X.env.scope x:=by first|exact Or.inl rfl|exact Or.inr (Or.inl rfl)|exact Or.inr (Or.inr rfl))(hd:autoParam ((x==("__debug__":Str))=false) Qde._auto_1)(hcd:autoParam ((x==("__classdict__":Str))=false) Qde._auto_1):PE X (.Name x pos) (Zs4 i):=ZkM hN hv hd hcd
theorem ZkQ{A:Prop}(h:B):if false=true then A else B:=by
 rw[if_neg Bool.false_ne_true];exact h
theorem ZkR{A:Prop}(h:A):if true=true then A else B:=by
 rw[if_pos rfl];exact h
end L2
namespace DL
open PyProof.Rows L2
structure Rw where
 n:String
 i:Nat
 f:Nat
 m:String
 t:Nat
 u:Nat
 ln:Nat
 na:Nat
 b:Bool
 v:Nat
noncomputable def zz1(P:Params)(s:String)(n:Nat)(v:Value):DictEntry:={hash:=PyData.keyHash P (Str.ofString s),key:=Value.str (Str.ofString s) n,val:=v}
noncomputable def zz3(s:String)(n:Nat):Value:=Value.str (Str.ofString s) n
noncomputable def zz4(n:Int):Value:=Value.int n 0
noncomputable def zz6(b:Bool)(n:Nat):Value:=if b then .ref n else .none
def Rw.fo(p:Nat->Stmt)(r:Rw):Obj:=⟨.type "function",none,.func (PySem.W.fnOf r.n r.n (ZaW (p r.i)) (Zah (p r.i)) (Zl (p r.i)) .none .none .none (.str r.m r.t) none (.ref (r.f-1)) .none),#[]⟩
def Rw.co(r:Rw):Obj:={cls:=Value.type "code",data:=Data.fields #[zz3 r.n r.u,zz3 r.n (r.u+1),zz3 "/claim/cut.py" (r.u+2),zz4 r.ln,zz4 r.na,zz4 0,zz4 0,zz4 3,.ref (r.f-(if r.b then 6 else 4)),.bool true,zz4 181,.ref (r.f-(if r.b then 5 else 3)),.none,zz6 r.b (r.f-4),zz6 r.b (r.f-3),.ref (r.f-2),zz4 r.v,zz4 r.ln,zz3 "/claim/cut.py" (r.v+1)]}
def Rw.de(P:Params)(r:Rw):DictEntry:=zz1 P r.n (r.v+2) (.ref r.f)
def Rw.en(p:Nat->Stmt)(r:Rw):Fg:=[(r.f,r.fo p),(r.f-1,r.co)]
structure Cw where
 n:String
 f:Nat
 t:Nat
 ln:Nat
def Cw.cls(r:Cw):Obj:={cls:=Value.type "type",data:=Data.cls {name:=Str.ofString r.n,bases:=[Value.ref 24],mro:=[Value.ref r.f,Value.ref 24,Value.type "ValueError",Value.type "Exception",Value.type "BaseException",Value.type "object"],ns:=r.f-1,qualname:=Str.ofString r.n},slots:= #[some (Value.ref (r.f-9)),none,some (zz3 r.n r.t),some (zz3 r.n (r.t+8)),some (Value.builtin "ValueError.__new__"),some (Value.bool true)]}
def Cw.ns(P:Params)(r:Cw):Obj:={cls:=Value.type "dict",data:=Data.dict #[zz1 P "__module__" (r.t+7) (zz3 "rayround.errors" 187),zz1 P "__firstlineno__" (r.t+11) (Value.int r.ln (r.t+10)),zz1 P "__static_attributes__" (r.t+12) (Value.ref (r.f-2)),zz1 P "__doc__" (r.t+13) Value.none] 2}
def Cw.de(P:Params)(r:Cw):DictEntry:=zz1 P r.n (r.t+15) (.ref r.f)
def Cw.en(P:Params)(r:Cw):Fg:=[(r.f,r.cls),(r.f-1,r.ns P)]
end DL
namespace HD
open PySem.W PyProof.Rows
noncomputable def ZqJ(thr:Thread->Bool)(stp:SharedT->Thread->Option (SharedT×Thread))(n:Nat):SharedT->Thread->Option SharedT:=
 Nat.rec (motive:=fun _=>SharedT->Thread->Option SharedT) (fun _ _=>none) (fun _ ih s t=>Bool.rec (motive:=fun _=>Option SharedT) (Option.rec (motive:=fun _=>Option SharedT) none (fun r=>ih r.1 r.2) (stp s t)) (some s) (thr t)) n
noncomputable def ZjK(ok:Thread->Bool)(stp:SharedT->Thread->Option (SharedT×Thread))(s:SharedT)(t:Thread):Option (SharedT×Thread):=Bool.rec (motive:=fun _=>Option (SharedT×Thread)) none (stp s t) (ok t)
section
variable {tb:String->Option Builtin}{p:Program}{w:World}{n₀:Nat}{ann:Option Value}
theorem ZkS:∀{n:Nat}{s s':SharedT}{t:Thread},ZqJ through (ZjK (stepOk n₀ ann) (stepT (denote tb) p w)) n s t=some s'->topRun tb p w n₀ ann n s.abs t=some s'.abs
 |0,s,s',t,h=>by cases h
 |n+1,s,s',t,h=>by
  unfold topRun
  change Bool.rec (motive:=fun _=>Option SharedT) (Option.rec (motive:=fun _=>Option SharedT) none (fun r=>ZqJ through (ZjK (stepOk n₀ ann) (stepT (denote tb) p w)) n r.1 r.2) (ZjK (stepOk n₀ ann) (stepT (denote tb) p w) s t)) (some s) (through t)=some s' at h
  cases ht:through t with
  |true=>
   rw[ht]at h;have h':some s=some s':=h;cases h';rfl
  |false=>
   rw[ht]at h;cases hk:stepOk n₀ ann t with
   |false=>
    have e:ZjK (stepOk n₀ ann) (stepT (denote tb) p w) s t=none:=by unfold ZjK;rw[hk]
    rw[e]at h;cases h
   |true=>
    have e:ZjK (stepOk n₀ ann) (stepT (denote tb) p w) s t=stepT (denote tb) p w s t:=by unfold ZjK;rw[hk]
    rw[e]at h;cases hs:stepT (denote tb) p w s t with
    |none=>rw[hs]at h;cases h
    |some r=>
     obtain⟨s2,t2⟩:=r;rw[hs]at h
     have:=stepT_spec hs
     rw[this];exact ZkS (n:=n) h
end
noncomputable def T0(w:World)(os:OsState):SharedT:=
 ⟨[boot_o_0,boot_o_1,boot_o_2,boot_o_3,boot_o_4,boot_o_5,boot_o_6,boot_o_7,boot_o_8,boot_o_9,boot_o_10].foldl (fun(r:Nat×BT) o=>(r.1+1,r.2.ins r.1 (o w.params))) (0,.nil) |>.2,11,(boot_heap w.params).life,#[],boot_drawn,boot_toks,os⟩
theorem Zoi(w:World)(os:OsState):(T0 w os).abs=⟨boot_heap w.params,#[],boot_drawn,boot_toks,os⟩:=by kernel_rfl
theorem ZlY:Str.ofString "__annotations__"=⟨#[95,95,97,110,110,111,116,97,116,105,111,110,115,95,95]⟩:=by decide +kernel
theorem Zhl{Yf:Shared->α}{Ya:World->α}(e:opening p=plainProg p.main.scope.names)(hN:Nat.ble 600 N=true)(f:∀s,fenceModules? p s=some s)(le:Nat.ble M N=true)(Zrc:∀(w:World)(os:OsState),(ZqJ through (ZjK (stepOk 11 (some (.ref 6))) (stepT (denote treeTable) p w)) M (T0 w os) (topStub p)).map (fun s=>((staticsOk (importedModules p.main.body) (boot_heap w.params) s.abs.heap&&namesBound p s.abs.heap&&gensDone s.abs&&laidKept (boot_heap w.params) s.abs.heap),openSeen q loose (importedModules p.main.body) Xt true s.abs,Yf s.abs))=some (true,openGood q loose,Ya w)):LeftO p q loose Xt Yf Ya N:=fun w=>by
 obtain⟨⟨h,gs,d,k,os⟩,e1,e2⟩:=Option.map_eq_some_iff.mp (boot_open e hN f w);obtain⟨rfl,rfl,rfl,rfl⟩:h=boot_heap w.params/\gs=Array.mk []/\d=boot_drawn/\k=boot_toks:=by simpa using e2
 obtain⟨s',r1,r2⟩:=Option.map_eq_some_iff.mp (Zrc w os);obtain⟨l1,l2,l3⟩:_/\_/\_:=by simpa only[Prod.mk.injEq]using r2
 have r:=ZkS r1;rw[Zoi]at r;have r:=topRun_mono (N-M) _ _ _ _ r;rw[show M+(N-M)=N by have:=Nat.le_of_ble_eq_true le;lia]at r
 have z1:((boot_heap w.params).isNs mainGlobals&&(Array.mk []:Array GenState).size==0)=true:=by kernel_rfl
 have z2:(boot_heap w.params).objs.size=11:=rfl;have z3:(boot_heap w.params).nsMap mainGlobals "__annotations__"=some (.ref 6):=by
  rw[ZlY]
  kernel_rfl
 have t:topFrom treeTable p w N ⟨boot_heap w.params,Array.mk [],boot_drawn,boot_toks,os⟩=some s'.abs:=by
  unfold topFrom;dsimp only;rw[z1,z2,z3,r];show(match staticsOk (importedModules p.main.body) (boot_heap w.params) s'.abs.heap&&namesBound p s'.abs.heap&&gensDone s'.abs&&laidKept (boot_heap w.params) s'.abs.heap with|true=>_|false=>_)=_
  rw[l1]
 unfold openEnds;rw[e1];show(topFrom treeTable p w N _).map _=_;rw[t];exact congrArg some (Prod.ext l2 l3)
end HD
namespace HD
open PySem.W
theorem Zrd:@stepOk=@PySem.W.Fast.tw6613529449190102663:=PySem.W.Fast.te6613529449190102663
theorem ZlZ:@stepT=@PySem.W.Fast.tw10156331382660048174:=PySem.W.Fast.te10156331382660048174
theorem Zoj:@denote=@PySem.W.Fast.tw11892475500146522536:=PySem.W.Fast.te11892475500146522536
theorem Zok:@treeTable=@PySem.W.Fast.tw14364793385576792824:=PySem.W.Fast.te14364793385576792824
theorem Zl0:@openSeen=@PySem.W.Fast.tw4187177175401517315:=PySem.W.Fast.te4187177175401517315
theorem Zol:@importedModules=@PySem.W.Fast.tw5923862056798008813:=PySem.W.Fast.te5923862056798008813
end HD
namespace K56
open L2 DL
noncomputable def top(i:Nat):Stmt:=PySem.Challenge.pw_rayround_k56_weights_without_a_body.main.body.getD i (.Pass ⟨0,0,0,0⟩)
noncomputable abbrev rw0(n:String)(i f u ln na:Nat)(b:Bool)(v:Nat):Rw:=⟨n,i,f,"rayround.wholes",255,u,ln,na,b,v⟩
noncomputable abbrev rw1(n:String)(i f u ln na:Nat)(b:Bool)(v:Nat):Rw:=⟨n,i,f,"rayround.pairs",274,u,ln,na,b,v⟩
noncomputable abbrev rw2(n:String)(i f u ln na:Nat)(b:Bool)(v:Nat):Rw:=⟨n,i,f,"rayround.rounds",284,u,ln,na,b,v⟩
noncomputable abbrev rw3(n:String)(i f u ln na:Nat)(b:Bool)(v:Nat):Rw:=⟨n,i,f,"rayround.ratios",311,u,ln,na,b,v⟩
noncomputable abbrev rw4(n:String)(i f u ln na:Nat)(b:Bool)(v:Nat):Rw:=⟨n,i,f,"rayround.heights",380,u,ln,na,b,v⟩
noncomputable abbrev rw5(n:String)(i f u ln na:Nat)(b:Bool)(v:Nat):Rw:=⟨n,i,f,"rayround.bodies",412,u,ln,na,b,v⟩
noncomputable abbrev rw6(n:String)(i f u ln na:Nat)(b:Bool)(v:Nat):Rw:=⟨n,i,f,"rayround.corners",437,u,ln,na,b,v⟩
noncomputable abbrev rw7(n:String)(i f u ln na:Nat)(b:Bool)(v:Nat):Rw:=⟨n,i,f,"rayround.partings",452,u,ln,na,b,v⟩
noncomputable abbrev rw8(n:String)(i f u ln na:Nat)(b:Bool)(v:Nat):Rw:=⟨n,i,f,"law_rayround_k56_weights_without_a_body",478,u,ln,na,b,v⟩
def tab:List Rw:=[rw0 "is_whole" 6 70 257 11 1 true 261,rw0 "greatest_divisor" 7 77 264 13 2 true 271,rw1 "crossed" 9 84 276 19 2 true 281,rw2 "following" 11 91 286 22 2 true 291,rw2 "unspanned" 12 98 294 24 1 true 300,rw2 "ask_smooth" 13 105 303 29 1 true 308,rw3 "ratio" 15 112 313 34 2 true 319,rw3 "plus" 16 119 322 43 2 true 327,rw3 "minus" 17 126 330 45 2 true 335,rw3 "times" 18 133 338 47 2 true 343,rw3 "less" 19 140 346 49 2 true 351,rw3 "greatest" 20 147 354 51 1 true 360,rw3 "common_bottom" 21 154 363 57 1 true 369,rw3 "stretched" 22 161 372 62 2 true 377,rw4 "ask_height" 24 168 382 65 2 true 387,rw4 "sloped" 25 175 390 68 2 true 395,rw4 "slope_through" 26 182 398 70 2 true 409,rw5 "edge" 28 187 414 75 3 false 417,rw5 "in_order" 29 192 420 92 1 false 423,rw5 "body" 30 199 426 95 2 true 434,rw6 "contrary" 32 206 439 104 1 true 443,rw6 "height_of" 33 211 446 106 2 false 449,rw7 "balance" 35 216 454 110 2 false 457,rw7 "threes" 36 221 460 114 1 false 463,rw7 "emptying" 37 226 466 116 2 false 469,rw7 "parting" 38 231 472 127 2 false 475,rw8 "_law_cell_at" 40 238 480 134 2 true 487,rw8 "_law_cross" 41 245 490 142 2 true 495,rw8 "_law_turn" 42 250 498 144 2 false 501,rw8 "_law_smooth" 43 257 504 164 2 true 517,rw8 "_law_ratio" 44 264 520 183 2 true 527,rw8 "_law_sum" 45 271 530 189 2 true 535,rw8 "_law_times" 46 278 538 191 2 true 543,rw8 "_law_less" 47 285 546 193 2 true 551,rw8 "_law_dotted" 48 292 554 195 2 true 559,rw8 "_law_within" 49 299 562 197 3 true 569,rw8 "_law_corners" 50 306 572 202 2 true 585,rw8 "_law_are_whole" 51 311 588 215 1 false 591,rw8 "_law_low" 52 318 594 219 2 true 603,rw8 "_law_right" 53 325 606 229 3 true 616,rw8 "law" 54 332 619 242 1 true 629]
noncomputable def Ztc(p:Program)(i:Nat):Stmt:=p.main.body.getD i (.Pass ⟨0,0,0,0⟩)
noncomputable def Zre:List Cw:=[⟨"NoRatio",37,207,4⟩,⟨"NotSmooth",49,223,6⟩,⟨"NoHeight",61,239,8⟩]
def Kf(p:Program)(P:Params):Fg:=(3,{cls:=Value.type "dict",data:=Data.dict ([zz1 P "__name__" 165 (zz3 "law_rayround_k56_weights_without_a_body" 478),zz1 P "__doc__" 166 (Value.none),zz1 P "__package__" 167 (Value.none),zz1 P "__loader__" 168 (Value.builtin "__main__.__loader__#opaque"),zz1 P "__spec__" 169 (Value.none),zz1 P "__annotations__" 170 (Value.ref 6),zz1 P "__builtins__" 171 (Value.ref 4),zz1 P "__file__" 173 (zz3 "/claim/cut.py" 172),zz1 P "__cached__" 174 (Value.none),zz1 P "RayError" 206 (Value.ref 24)]++Zre.map (·.de P)++tab.map (·.de P)).toArray 54})::tab.flatMap (·.en (Ztc p))++Zre.flatMap (·.en P)++[(4,{cls:=Value.type "module",dict:=some 0}),
 (23,{cls:=Value.type "dict",data:=Data.dict #[zz1 P "__module__" 196 (zz3 "rayround.errors" 187),zz1 P "__firstlineno__" 200 (Value.int 2 199),zz1 P "__static_attributes__" 201 (Value.ref 22),zz1 P "__weakref__" 203 (Value.ref 25),zz1 P "__doc__" 204 (Value.none)] 3}),
 (24,{cls:=Value.type "type",data:=Data.cls {name:=Str.ofString "RayError",bases:=[Value.type "ValueError"],mro:=[Value.ref 24,Value.type "ValueError",Value.type "Exception",Value.type "BaseException",Value.type "object"],ns:=23,qualname:=Str.ofString "RayError",subclasses:=[Value.ref 37,Value.ref 49,Value.ref 61]},slots:= #[some (Value.ref 15),none,some (zz3 "RayError" 189),some (zz3 "RayError" 197),some (Value.builtin "ValueError.__new__"),some (Value.bool true)]})]
def asK:List Addr:=3::tab.flatMap (fun r=>[r.f,r.f-1])++Zre.flatMap (fun r=>[r.f,r.f-1])++[4,23,24]
def Tf:Fg:=tab.map (fun r=>(r.f-(if r.b then 5 else 3),{cls:=.none,data:=.fields #[]}))++[]
def asT:List Addr:=asK++tab.map (fun r=>r.f-(if r.b then 5 else 3))++[]
theorem Zom(p:Program)(P:Params):asT=(Kf p P++Tf).map (·.1):=by kernel_rfl
def qf(p:Program):Program:={p with main:={p.main with body:=[Ztc p 54]}}
noncomputable def lo:List Str:=(["__name__","RayError","NoRatio","NotSmooth","NoHeight","is_whole","greatest_divisor","crossed","following","unspanned","ask_smooth","ratio","plus","minus","times","less","greatest","common_bottom","stretched","ask_height","sloped","slope_through","edge","in_order","body","contrary","height_of","balance","threes","emptying","parting","_law_cell_at","_law_cross","_law_turn","_law_smooth","_law_ratio","_law_sum","_law_times","_law_less","_law_dotted","_law_within","_law_corners","_law_are_whole","_law_low","_law_right"]:List String).map Str.ofString
open PySem.W
noncomputable abbrev pw:=PySem.Challenge.pw_rayround_k56_weights_without_a_body
abbrev Hk:Hook:=kHook (fun P=>Kf pw P++Tf) asT (Zom pw)
set_option maxRecDepth 1000000 in
set_option maxHeartbeats 0 in
theorem Zrc(w:World)(os:OsState):(HD.ZqJ through (HD.ZjK (stepOk 11 (some (.ref 6))) (stepT (denote treeTable) PySem.Challenge.pw_rayround_k56_weights_without_a_body w)) 2201 (HD.T0 w os) (topStub PySem.Challenge.pw_rayround_k56_weights_without_a_body)).map (fun s=>((staticsOk (importedModules PySem.Challenge.pw_rayround_k56_weights_without_a_body.main.body) (boot_heap w.params) s.abs.heap&&namesBound PySem.Challenge.pw_rayround_k56_weights_without_a_body s.abs.heap&&gensDone s.abs&&laidKept (boot_heap w.params) s.abs.heap),openSeen (qf PySem.Challenge.pw_rayround_k56_weights_without_a_body) lo (importedModules PySem.Challenge.pw_rayround_k56_weights_without_a_body.main.body) (fun s=>xlAt (qf PySem.Challenge.pw_rayround_k56_weights_without_a_body) [] s&&recOk [] s) true s.abs,asT.map s.abs.heap.get?))=some (true,openGood (qf PySem.Challenge.pw_rayround_k56_weights_without_a_body) lo,(Kf PySem.Challenge.pw_rayround_k56_weights_without_a_body w.params++Tf).map fun x=>some x.2):=by
 rw[HD.Zrd,HD.ZlZ,HD.Zoj,HD.Zok,HD.Zl0,HD.Zol]
 kernel_rfl
set_option maxRecDepth 1000000 in
set_option maxHeartbeats 0 in
theorem Zuk:PySem.W.OpenLaw.wellSaid PySem.Challenge.rw_rayround_k56_weights_without_a_body=true:=by kernel_rfl
end K56
namespace L2
open PyProof.Rows
section
variable (P:Program)(w:World)
end
section
variable {κ:Type}[DecidableEq κ]
noncomputable def ZgS(kvs:List (κ×V))(k:κ):Option V:=(kvs.find? fun kv=>decide (kv.1=k)).map (·.2)
noncomputable def Zjp(kvs:List (κ×V))(k:κ)(v:V):List (κ×V):=
 if(kvs.any fun kv=>decide (kv.1=k))=true then kvs.map (fun kv=>if kv.1=k then(kv.1,v)else kv)else kvs++[(k,v)]
theorem Zcg{p:κ×V}{r:List (κ×V)}{k:κ}(e:p.1=k):ZgS (p::r) k=some p.2:=by simp[ZgS,List.find?_cons,e]
theorem Zch{p:κ×V}{r:List (κ×V)}{k:κ}(e:¬p.1=k):ZgS (p::r) k=ZgS r k:=by simp[ZgS,List.find?_cons,e]
theorem ZfJ(k:κ):∀kvs:List (κ×V),(kvs.any fun kv=>decide (kv.1=k))=(ZgS kvs k).isSome
 |[]=>rfl
 |p::r=>by
  rw[List.any_cons];by_cases e:p.1=k
  ·simp only[Zcg e,decide_eq_true e,Bool.true_or,Option.isSome_some]
  ·rw[Zch e,decide_eq_false e,Bool.false_or];exact ZfJ k r
theorem Ze1(kvs:List (κ×V))(k:κ)(v:V):(Zjp kvs k v).length<=kvs.length+1:=by
 unfold Zjp;split
 ·rw[List.length_map];lia
 ·rw[List.length_append,List.length_cons,List.length_nil];lia
theorem KV.val{kvs:List (κ×V)}{vs:List (κ×Value)}(r:KV kvs vs)(k:κ):ZqH (ZgS kvs k) (valueAt vs k):=by
 unfold KV at r
 induction r with
 |nil=>exact True.intro
 |@cons p q ps qs h t ih=>
  obtain⟨h1,h2⟩:=h;by_cases e:p.1=k
  ·have e':q.1=k:=h1.symm.trans e;have b:valueAt (q::qs) k=some q.2:=by simp[valueAt,List.find?_cons,e']
   rw[Zcg e,b];exact h2
  ·have e':¬q.1=k:=fun z=>e (h1.trans z);have b:valueAt (q::qs) k=valueAt qs k:=by simp[valueAt,List.find?_cons,e']
   rw[Zch e,b];exact ih
theorem KV.keys{kvs:List (κ×V)}{vs:List (κ×Value)}(r:KV kvs vs):kvs.map (·.1)=vs.map (·.1):=by
 unfold KV at r
 induction r with
 |nil=>rfl
 |cons h t ih=>rw[List.map_cons,List.map_cons,ih,h.1]
end
theorem Zrf(r:ZR (kV k) u):(Zag P w).is k u=true:=by
 cases k with
 |inl i=>obtain⟨t,e⟩:=(show ∃t,u=Value.int i t from r);subst e;exact ZeW P w i t
 |inr x=>obtain⟨t,e⟩:=(show ∃t,u=Value.str x t from r);subst e;exact ZeX P w x t
theorem Zd4{P:Program}{w:World}:∀{ks:List Key}{us:List Value},ZS (ks.map kV) us->ItemsAre (Zag P w) ks us
 |[],_,r=>by rw[List.map_nil]at r;cases r;exact .nil
 |k::ks,_,r=>by
  rw[List.map_cons]at r;cases r with
  |cons h t=>exact .cons (Zrf h) (Zd4 t)
abbrev KT(H:Hp):List (List Key×V)->List (List Key×Addr×Value)->Prop:=Paired fun p q=>p.1=q.1/\H q.2.1=some (.tup (p.1.map kV))/\ZR p.2 q.2.2
theorem KT.val(r:KT H kvs xs)(k:List Key):ZqH (ZgS kvs k) ((atKey xs k).map (·.2)):=by
 induction r with
 |nil=>exact True.intro
 |@cons p q ps qs h t ih=>
  obtain⟨h1,_,h2⟩:=h;by_cases e:p.1=k
  ·have e':q.1=k:=h1.symm.trans e;have b:atKey (q::qs) k=some q.2:=by simp[atKey,List.find?_cons,e']
   rw[Zcg e,b];exact h2
  ·have e':¬q.1=k:=fun z=>e (h1.trans z);have b:atKey (q::qs) k=atKey qs k:=by simp[atKey,List.find?_cons,e']
   rw[Zch e,b];exact ih
theorem Zon(ok:HOk P w H h)(e:H a=some (.tup (ks.map kV))):(tupleKind (Zag P w)).is h ks a:=by
 obtain⟨_,its,r,o,h1,h2,n,h3⟩:=(show ZaH P w H h a (.tup (ks.map kV))from ok a _ e);exact⟨o,its.toArray,n,h1,h2,h3,by simpa using Zd4 r⟩
theorem Inv.big(I:Inv X pins σ H s):sysModules<s.heap.objs.size:=by
 have h:mainGlobals<s.heap.objs.size:=(I.mod.glob.keeps I.bk).lt;exact Nat.lt_trans (by decide) h
theorem Zl1(I:Inv X pins σ H s)(mu:Mut (H a))(hs:Heap.SameBut a s.heap h')(he:∃q,h'.get? a=some q)(new:ZaH X.prog X.w (upd H a ob) h' a ob):Inv X pins σ (upd H a ob) {s with heap:=h',toks:=t'}:=
 I.write (x:=a) (e:=a) mu (.inl rfl) (fun b q hb z=>(hs.2 b hb).trans z) he new
structure M1(X:Cx) (o:Expr) (m:Str) (apos:Pos) (e:Expr) (cpos:Pos):Prop where
 base:attributeBase o m X.env (eval o X.env)=eval o X.env
 few:((backTo cpos (starEach [e] X.env)).all (fun x=> !x.1)&&(backToKw cpos (keywordEach [] X.env)).all (fun x=>x.1.isSome) && decide (([e]:List Expr).length+([]:List Keyword).length+(if([]:List Keyword).isEmpty then 0 else 1)<30))=true
 line:(apos.endLine==cpos.line)=true
 trees:backTo cpos (starEach [e] X.env)=[(false,eval e X.env)]
structure M2(X:Cx) (o:Expr) (m:Str) (apos:Pos) (e f:Expr) (cpos:Pos):Prop where
 base:attributeBase o m X.env (eval o X.env)=eval o X.env
 few:((backTo cpos (starEach [e,f] X.env)).all (fun x=> !x.1)&&(backToKw cpos (keywordEach [] X.env)).all (fun x=>x.1.isSome) && decide (([e,f]:List Expr).length+([]:List Keyword).length+(if([]:List Keyword).isEmpty then 0 else 1)<30))=true
 line:(apos.endLine==cpos.line)=true
 trees:backTo cpos (starEach [e,f] X.env)=[(false,eval e X.env),(false,eval f X.env)]
end L2
namespace Att
open PySem.W PySem.Calls PyProof.Rows
end Att
namespace L2
open PyProof.Rows
section
variable {κ:Type}[DecidableEq κ]
end
end L2
namespace DQ
open PyProof.Rows
structure Fly(B:Heap) (l:List Env) (e:Addr) (cls:Value) (dct:Option Addr) (fl:Value) (h:Heap):Prop where
 stay:B.StaysIn h
 new:B.get? e=none
 frames:h.FunFrames B l
 obj:∃oe vs T oT ts,h.get? e=some oe/\oe.cls=cls/\oe.dict=dct/\oe.data=.fields vs/\vs[2]?=some .none/\vs[1]?=some (.ref T)/\B.get? T=none/\T≠e/\h.get? T=some oT/\oT.data=.fields ts/\ts[3]?=some fl
theorem Fly.tail(f:Fly B (env::l) e cls dct fl h):Fly B l e cls dct fl h:=⟨f.stay,f.new,f.frames.2.2,f.obj⟩
section
variable {A:Around}
theorem apart{h:Heap}(hl:h.FunFrames B l)(he:h.get? e=some oe)(hd:oe.data=.fields vs):e∉l.filterMap (·.frame):=fun z=>by
 obtain⟨_,o,h1,h2⟩:=hl.mem z;rw[he]at h1;cases h1;exact h2 vs hd
theorem Zd5(hfr:A.frames=some (env::outer))(hl:s.heap.FunFrames B (env::outer))(hf:env.frame=some L)(he:s.heap.get? e=some oe)(hs:B.StaysIn s.heap)(hb:B.get? e=none)(hd:oe.data=.fields vs)(hz:2<vs.size)(h2:vs[2]?=some .none)(h:∀h',Fly B (env::outer) e oe.cls oe.dict (rawInt L) h'->s.heap.UpToSlots h'->Q () {s with heap:=h'}):wpAny M A (frameOf env >>= fun a=>entryPlaceOf L hn >>= fun pl=>EntryCells.newEntry head a .none (rawInt L) .none pl >>= fun b=>setField (.ref e) 1 b) Q E s:=by
 have ne:=apart hl he hd;refine Wb (wpAny_frameOf_fun hfr hl hf fun h1 k1=>Wb (wpAny_entryPlaceOf fun pl hpl=>Wb ?_));unfold EntryCells.newEntry newFields;refine wpAny_newObj_type ?_ (hpl.sizeOk5 _ _ _ _ _);generalize hT:([head,Value.ref L,Value.none,rawInt L,Value.none]++(if pl.isEmpty then List.replicate 6 Value.none else pl)).toArray=ts;have h3:ts[3]?=some (rawInt L):=by
  rw[<-hT];rcases hpl with rfl|⟨_,_,_,_,_,_,_,rfl⟩<;>simp
 have e1:h1.get? e=some oe:=(k1.2.1 e ne).trans he;have s1:B.StaysIn h1:=fun b o hbo=>(k1.2.1 b fun z=>by rw[(hl.mem z).1]at hbo;cases hbo).trans (hs b o hbo)
 generalize hoT:({cls:=.type "traceback",dict:=none,data:=.fields ts}:Obj)=oT;have dT:oT.data=.fields ts:=by rw[<-hoT]
 have fT:oT.isFreed=false:=Obj.isFreed_of_fields dT;have e2:(h1.push oT).get? e=some oe:=Hq _ e1;have nT:h1.objs.size≠e:=Nat.ne_of_gt (Hz e1);refine wpAny_setField e2 hd (Nat.lt_trans (by decide) hz) (h _ ?_ ?_)
 ·have d3:=Obj.data_mapFields hd (·.setIfInBounds 1 (Value.ref h1.objs.size));have e3:=Heap.get?_update_self (Obj.mapFields (·.setIfInBounds 1 (Value.ref h1.objs.size))) e2 (Obj.isFreed_of_fields d3);have keep:∀b o,b≠e->h1.get? b=some o->((h1.push oT).update e (Obj.mapFields (·.setIfInBounds 1 (Value.ref h1.objs.size)))).get? b=some o:=fun b o hbe x=>by
   rw[Heap.get?_update_other _ _ (Ne.symm hbe)];exact Hq _ x
  have gT:(h1.push oT).get? h1.objs.size=some oT:=Heap.get?_push_size _ fT;refine⟨fun b o x=>keep b o (fun z=>by rw[z,hb]at x;cases x) (s1 b o x),hb,hl.of_keeps fun b o x y=>?_,_,_,h1.objs.size,oT,ts,e3,Obj.cls_mapFields _ _,?_,d3,?_,?_,s1.fresh,nT,?_,dT,h3⟩
  ·obtain⟨sl,z⟩:=k1.2.2 b o x;exact⟨_,keep b _ (fun w=>y vs (by rw[w,he]at x;cases x;exact hd)) z,rfl⟩
  ·obtain⟨c,d,dd,sl⟩:=oe;cases hd;rfl
  ·rw[Array.getElem?_setIfInBounds_ne (by decide)]
   exact h2
  ·rw[Array.getElem?_setIfInBounds_self_of_lt (Nat.lt_trans (by decide) hz)]
  ·rw[Heap.get?_update_other _ _ (Ne.symm nT)];exact gT
 ·intro b o x y;obtain⟨sl,z⟩:=k1.2.2 b o x;refine⟨sl,?_⟩;rw[Heap.get?_update_other _ _ (fun w=>y vs (by rw[<-w,he]at x;cases x;exact hd))]
  exact Hq _ z
theorem ZfK(f:Fly B l e cls dct fl s.heap)(h:∀h',Fly B l e cls dct .none h'->s.heap.UpToSlots h'->Q () {s with heap:=h'}):wpAny M A (setFlight (.ref e) none) Q E s:=by
 obtain⟨st,nw,fr,oe,vs,T,oT,ts,g1,g2,g3,g4,g5,g6,g7,g8,g9,g10,g11⟩:=f;have hz:3<ts.size:=(Array.getElem?_eq_some_iff.mp g11).1;unfold setFlight;refine Wb (wpAny_field g1 g4 g6 ?_);rw[if_pos (by simp)]
 have oth:∀b o,b≠T->s.heap.get? b=some o->(s.heap.update T (Obj.mapFields (·.setIfInBounds 3 Value.none))).get? b=some o:=fun b o hb x=>by
  rw[Heap.get?_update_other _ _ (Ne.symm hb)];exact x
 have nr:∀b o,s.heap.get? b=some o->(∀vs,o.data≠ .fields vs)->b≠T:=fun b o x y z=>by
  rw[z,g9]at x;cases x;exact y ts g10
 refine wpAny_setField g9 g10 hz (h _ ⟨fun b o x=>oth b o (fun z=>by rw[z,g7]at x;cases x) (st b o x),nw,fr.of_keeps fun b o x y=>⟨o,oth b o (nr b o x y) x,rfl⟩,?_⟩ fun b o x y=>⟨o.slots,oth b o (nr b o x y) x⟩)
 exact⟨oe,vs,T,_,_,oth e oe (Ne.symm g8) g1,g2,g3,g4,g5,g6,g7,g8,Heap.get?_update_self _ g9 (Obj.isFreed_of_fields (Obj.data_mapFields g10 _)),Obj.data_mapFields g10 _,by rw[Array.getElem?_setIfInBounds_self_of_lt hz];rfl⟩
theorem ZjL(hfr:A.frames=some (env::outer))(hf:env.frame=some L)(f:Fly B (env::outer) e cls dct .none s.heap)(h:∀h',Fly B (env::outer) e cls dct (rawInt L) h'->s.heap.UpToSlots h'->Q () {s with heap:=h'}):wpAny M A (noteFrame (.ref e) env) Q E s:=by
 obtain⟨st,nw,fr,oe,vs,T,oT,ts,g1,g2,g3,g4,g5,g6,g7,g8,g9,g10,g11⟩:=f;unfold noteFrame;simp only[hf];refine Wb (wpAny_field g1 g4 g6 ?_);rw[if_pos (by simp)]
 refine Wb (wpAny_field g9 g10 g11 ?_);rw[if_neg (by simp[rawInt])]
 have oth:∀b o,b≠T->s.heap.get? b=some o->(s.heap.update T (Obj.mapFields (·.setIfInBounds 3 Value.none))).get? b=some o:=fun b o hb x=>by
  rw[Heap.get?_update_other _ _ (Ne.symm hb)];exact x
 have nr:∀b o,s.heap.get? b=some o->(∀vs,o.data≠ .fields vs)->b≠T:=fun b o x y z=>by
  rw[z,g9]at x;cases x;exact y ts g10
 refine Wb (wpAny_setField g9 g10 (Array.getElem?_eq_some_iff.mp g11).1 ?_);refine Zd5 hfr (fr.of_keeps fun b o x y=>⟨o,oth b o (nr b o x y) x,rfl⟩) hf (oth e oe (Ne.symm g8) g1) (fun b o x=>oth b o (fun z=>by rw[z,g7]at x;cases x) (st b o x)) nw g4 (Array.getElem?_eq_some_iff.mp g5).1 g5 fun h' k1 k2=>h h' (g2▸g3▸k1) ?_
 intro b o x y;exact k2 b o (oth b o (nr b o x y) x) y
theorem Zhm(hfr:A.frames=some (env::outer))(hf:env.frame=some L)(f:Fly B (env::outer) e cls dct .none s.heap)(h:∀h',Fly B outer e cls dct .none h'->s.heap.UpToSlots h'->Q () {s with heap:=h'}):wpAny M A (leaving env (.ref e)) Q E s:=by
 unfold leaving;refine Wb (ZjL hfr hf f fun h1 k1 u1=>?_);exact ZfK (s:={s with heap:=h1}) k1 fun h2 k2 u2=>h h2 k2.tail (u1.trans u2)
theorem Zhn(hfr:A.frames=some (env::outer))(hf:env.frame=some L)(hl:s.heap.FunFrames B (env::outer))(he:s.heap.get? e=some oe)(hs:B.StaysIn s.heap)(hb:B.get? e=none)(hd:oe.data=.fields vs)(h1:vs[1]?=some .none)(h2:vs[2]?=some .none)(h:∀h',Fly B outer e oe.cls oe.dict .none h'->s.heap.UpToSlots h'->Q () {s with heap:=h'}):wpAny M A (leaving env (.ref e)) Q E s:=by
 unfold leaving noteFrame;simp only[hf];refine Wb (Wb (wpAny_field he hd h1 ?_));rw[if_neg (by decide)]
 refine Zd5 hfr hl hf he hs hb hd (Array.getElem?_eq_some_iff.mp h2).1 h2 fun h' k1 u1=>?_;exact ZfK (s:={s with heap:=h'}) k1 fun h2 k2 u2=>h h2 k2.tail (u1.trans u2)
end
end DQ
namespace DQ
open PyProof.Rows
open PySem.W (Looks findIn mroIn specialIn takesIn clsIn looks_findIn looks_mroIn looks_find findObj KitX)
structure ExcC(K:Fg) (C:Addr):Prop where
 ga:findIn K (.ref C) "__getattribute__"=some (some (.builtin "BaseException.__getattribute__"))
 gt:findIn K (.ref C) "__getattr__"=some none
 cl:findIn K (.ref C) "__class__"=some (some (.builtin "object.__class__"))
 gs:specialIn K (.builtin "object.__class__") "__get__"=some (some (.builtin "getset_descriptor.__get__"))
 tk:takesIn K (.builtin "object.__class__")=some true
 bx:mroIn K C (.type "BaseException")=some true
 ob:mroIn K C (.type "object")=some true
 is:(clsIn K C).isSome=true
end DQ
namespace DL
open PyProof.Rows L2
inductive D where
 |non
 |bl (b:Bool)
 |int (i:Int)
 |str (x:Str)
 |tup (xs:List D)
 |rol (xs:List D)
 |con (xs:List D)
 |ref (n:Nat)
 |err (c:Str) (xs:List D)
 |dk (n:Nat)
 |dt (n:Nat)
 |du (n:Nat)
 |fn (c:Str)
inductive SO where
 |lst (xs:List D)
noncomputable abbrev Sto:=List SO
noncomputable abbrev Ro:=List (Option D)
abbrev W2:=Str->Sto->Prop
abbrev W1:=Ro->Sto->Prop
abbrev W0:=D->Sto->Prop
def SqF(K:Fg)(H:Hp)(a:Addr)(xs:List V):Prop:=
 (∃o,H a=some (.frz o (.lst xs)))\/∃(o:Obj) (its:Array Value) (n:Nat),K.lookup a=some o/\o.cls=.type "list"/\o.dict=none/\o.data=.seq its n/\its.size<=sizeLine/\ZS xs its.toList
theorem SqF.sq{K:Fg}(h:SqF K H a xs):SqL K H a xs:=by
 rcases h with⟨o,h⟩|h
 ·exact .inl (.inr ⟨o,h⟩)
 ·exact .inr h
def SqK(K:Fg)(a:Addr)(xs:List V):Prop:=∃(o:Obj) (its:Array Value) (n:Nat),K.lookup a=some o/\o.cls=.type "tuple"/\o.data=.seq its n/\its.size<=sizeLine/\ZS xs its.toList/\o.dict=none
theorem SqK.sq{K:Fg}(h:SqK K a xs):SqT K H a xs:=
 let ⟨o,its,n,h1,h2,h3,h4,h5,_⟩:=h
 .inr ⟨o,its,n,h1,h2,h3,h4,h5⟩
noncomputable def Ztd:List Str:=[PySem.Str.ofString "where",PySem.Str.ofString "at"]
def EOk(H:Hp)(p C:Addr)(xs:List V):Prop:=∃oe u vs,H p=some (.frz oe u)/\oe.cls=.ref C/\oe.data=.fields vs/\vs[2]?=some .none/\((xs=[]/\oe.dict=none)\/∃dx fs,oe.dict=some dx/\H dx=some (.xd fs)/\fs.map (·.2)=xs/\fs.map (·.1)=Ztd)
noncomputable def Kn(H:Hp)(p:Addr):Option Nat:=match H p with|some (.lst _)=>some 0|some (.dK _)=>some 1|some (.dT _)=>some 2|some (.dU _)=>some 3|some (.frz _ (.dK _))=>some 1|some (.frz _ (.dT _))=>some 2|_=>none
structure RefK(H:Hp) (α:List Addr) (j n:Nat) (p:Addr):Prop where
 at':α[n]?=some p
 kn:Kn H p=some j
theorem Kn.lst{H:Hp}{p:Addr}{xs:List V}(h:H p=some (.lst xs)):Kn H p=some 0:=by unfold Kn;rw[h]
theorem Kn.ne(h:Kn H p=some j)(hq:H q=none):Kn (upd H q o) p=some j:=by
 have:p≠q:=by
  intro z;unfold Kn at h;rw[z,hq]at h;cases h
 unfold Kn;rw[Zz this];exact h
mutual
inductive Rep(K:Fg) (H:Hp) (α:List Addr):V->D->Prop where
 |non:Rep K H α .non .non
 |bl (b:Bool):Rep K H α (.bl b) (.bl b)
 |int (i:Int):Rep K H α (.int i) (.int i)
 |str (x:Str):Rep K H α (.str x) (.str x)
 |tup {p:Addr} {xs:List V} {ds:List D}:H p=some (.tup xs)->Reps K H α xs ds->Rep K H α (.ref p) (.tup ds)
 |rol {p:Addr} {xs:List V} {ds:List D}:SqF K H p xs->Reps K H α xs ds->Rep K H α (.ref p) (.rol ds)
 |con {p:Addr} {xs:List V} {ds:List D}:SqK K p xs->Reps K H α xs ds->Rep K H α (.ref p) (.con ds)
 |ref {p:Addr} {n:Nat}:RefK H α 0 n p->Rep K H α (.ref p) (.ref n)
 |dk {p:Addr} {n:Nat}:RefK H α 1 n p->Rep K H α (.ref p) (.dk n)
 |dt {p:Addr} {n:Nat}:RefK H α 2 n p->Rep K H α (.ref p) (.dt n)
 |du {p:Addr} {n:Nat}:RefK H α 3 n p->Rep K H α (.ref p) (.du n)
 |fn {p:Addr} {c:Str}:PySem.W.nsIn K mainGlobals c=some (some (.ref p))->Rep K H α (.ref p) (.fn c)
 |err {p C:Addr} {c:Str} {xs:List V} {ds:List D}:PySem.W.nsIn K mainGlobals c=some (some (.ref C))->EOk H p C xs->Reps K H α xs ds->Rep K H α (.ref p) (.err c ds)
inductive Reps(K:Fg) (H:Hp) (α:List Addr):List V->List D->Prop where
 |nil:Reps K H α [] []
 |cons {v:V} {d:D} {vs:List V} {ds:List D}:Rep K H α v d->Reps K H α vs ds->Reps K H α (v::vs) (d::ds)
end
structure Ext(K:Fg) (H H':Hp) (α α':List Addr):Prop where
 tup:∀p xs,H p=some (.tup xs)->H' p=some (.tup xs)
 rol:∀p xs,SqF K H p xs->SqF K H' p xs
 err:∀p C xs,EOk H p C xs->EOk H' p C xs
 kn:∀p j,Kn H p=some j->Kn H' p=some j
 fz:∀p o u,H p=some (.frz o u)->H' p=some (.frz o u)
 al:∃β,α'=α++β
section
variable {K:Fg}{H H':Hp}{α α':List Addr}
theorem Ext.refl:Ext K H H α α:=⟨fun _ _ h=>h,fun _ _ h=>h,fun _ _ _ h=>h,fun _ _ h=>h,fun _ _ _ h=>h,[],(List.append_nil _).symm⟩
theorem Ext.trans(a:Ext K H H1 α α1)(b:Ext K H1 H2 α1 α2):Ext K H H2 α α2:=by
 obtain⟨b1,e1⟩:=a.al;obtain⟨b2,e2⟩:=b.al;exact⟨fun p xs h=>b.tup p xs (a.tup p xs h),fun p xs h=>b.rol p xs (a.rol p xs h),fun p C xs h=>b.err p C xs (a.err p C xs h),fun p j h=>b.kn p j (a.kn p j h),fun p o u h=>b.fz p o u (a.fz p o u h),b1++b2,by rw[e2,e1,List.append_assoc]⟩
theorem Ext.get0(e:Ext K H H' α α'){n:Nat}(h:α[n]?=some p):α'[n]?=some p:=by
 obtain⟨β,e1⟩:=e.al;have hl:n<α.length:=(List.getElem?_eq_some_iff.mp h).1;rw[e1,List.getElem?_append_left hl];exact h
theorem Ext.get(e:Ext K H H' α α')(h:RefK H α j n p):RefK H' α' j n p:=⟨e.get0 h.at',e.kn _ _ h.kn⟩
mutual
theorem Rep.mono(e:Ext K H H' α α'):∀{v:V}{d:D},Rep K H α v d->Rep K H' α' v d
 |_,_,.non=>.non
 |_,_,.bl b=>.bl b
 |_,_,.int i=>.int i
 |_,_,.str x=>.str x
 |_,_,.tup h r=>.tup (e.tup _ _ h) (Reps.mono e r)
 |_,_,.rol h r=>.rol (e.rol _ _ h) (Reps.mono e r)
 |_,_,.con h r=>.con h (Reps.mono e r)
 |_,_,.ref h=>.ref (e.get h)
 |_,_,.dk h=>.dk (e.get h)
 |_,_,.dt h=>.dt (e.get h)
 |_,_,.du h=>.du (e.get h)
 |_,_,.fn h=>.fn h
 |_,_,.err n h r=>.err n (e.err _ _ _ h) (Reps.mono e r)
theorem Reps.mono(e:Ext K H H' α α'):∀{vs:List V}{ds:List D},Reps K H α vs ds->Reps K H' α' vs ds
 |_,_,.nil=>.nil
 |_,_,.cons r t=>.cons (Rep.mono e r) (Reps.mono e t)
end
theorem Reps.length:∀{vs:List V}{ds:List D},Reps K H α vs ds->vs.length=ds.length
 |_,_,.nil=>rfl
 |_,_,.cons _ t=>by rw[List.length_cons,List.length_cons,Reps.length t]
theorem Reps.get:∀{vs:List V}{ds:List D}{i:Nat}{d:D},Reps K H α vs ds->ds[i]?=some d->∃v,vs[i]?=some v/\Rep K H α v d
 |_,_,_,_,.nil,e=>by simp at e
 |_,_,0,_,.cons r _,e=>by simp at e;subst e;exact⟨_,rfl,r⟩
 |_,_,i+1,d,.cons _ t,e=>by
  obtain⟨u,h1,h2⟩:=Reps.get (i:=i) (d:=d) t (by simpa using e)
  exact⟨u,by simpa using h1,h2⟩
theorem Reps.set{v:V}{d:D}(r:Rep K H α v d):∀{vs:List V}{ds:List D}(i:Nat),Reps K H α vs ds->Reps K H α (vs.set i v) (ds.set i d)
 |_,_,_,.nil=>.nil
 |_,_,0,.cons _ t=>.cons r t
 |_,_,i+1,.cons q t=>.cons q (Reps.set r i t)
theorem Reps.append:∀{vs ws:List V}{ds es:List D},Reps K H α vs ds->Reps K H α ws es->Reps K H α (vs++ws) (ds++es)
 |_,_,_,_,.nil,s=>s
 |_,_,_,_,.cons r t,s=>.cons r (Reps.append t s)
theorem Reps.ints:∀(ns:List Int),Reps K H α (ns.map V.int) (ns.map D.int)
 |[]=>.nil
 |n::r=>.cons (.int n) (Reps.ints r)
theorem Zho(h:H q=some (.tup xs))(hp:∀u,H p=some u->(∀ys,u≠ .tup ys)/\∀ob w,u≠ .frz ob w):upd H p o q=some (.tup xs):=by
 rw[Zz (fun e=>(hp _ (e▸h)).1 _ rfl)];exact h
theorem Zhp(h:SqF K H q xs)(hp:∀u,H p=some u->∀ob w,u≠ .frz ob w):SqF K (upd H p o) q xs:=by
 rcases h with⟨ob,h⟩|h
 ·refine .inl ⟨ob,?_⟩;rw[Zz (fun e=>hp _ (e▸h) _ _ rfl)];exact h
 ·exact .inr h
theorem ZkT(h:H q=some (.frz ob u))(hp:∀u,H p=some u->∀ob w,u≠ .frz ob w):upd H p o q=some (.frz ob u):=by
 rw[Zz (fun e=>hp _ (e▸h) _ _ rfl)];exact h
theorem Zhq(h:EOk H q C xs)(hp:∀u,H p=some u->(∀ob w,u≠ .frz ob w)/\∀fs,u≠ .xd fs):EOk (upd H p o) q C xs:=by
 obtain⟨oe,u,vs,h1,h2,h3,h4,h5⟩:=h;refine⟨oe,u,vs,?_,h2,h3,h4,?_⟩
 ·rw[Zz (fun e=>(hp _ (e▸h1)).1 _ _ rfl)];exact h1
 ·rcases h5 with h5|⟨dx,fs,k1,k2,k3⟩
  ·exact .inl h5
  ·refine .inr ⟨dx,fs,k1,?_,k3⟩;rw[Zz (fun e=>(hp _ (e▸k2)).2 _ rfl)];exact k2
theorem Ext.new(h:H p=none):Ext K H (upd H p o) α (α++β):=
 ⟨fun q xs z=>Zho z (fun u e=>(by rw[h]at e;cases e)),fun q xs z=>Zhp z (fun u e=>(by rw[h]at e;cases e)),fun q C xs z=>Zhq z (fun u e=>(by rw[h]at e;cases e)),fun q j z=>Kn.ne z h,fun q o u z=>ZkT z (fun u e=>(by rw[h]at e;cases e)),β,rfl⟩
theorem Ext.new0(h:H p=none):Ext K H (upd H p o) α α:=by
 have e:=Ext.new (K:=K) (H:=H) (α:=α) (o:=o) h (β:=[]);rw[List.append_nil]at e;exact e
theorem Ext.wrK(h:Kn H p=some j)(nf:∀ob w,H p≠some (.frz ob w))(h':Kn (upd H p o) p=some j):Ext K H (upd H p o) α α:=by
 have ne (u:HO) (e:H p=some u):(∀ys,u≠ .tup ys)/\(∀ob w,u≠ .frz ob w)/\∀fs,u≠ .xd fs:=by
  unfold Kn at h;rw[e]at h;refine⟨fun ys z=>?_,fun ob w z=>nf ob w (by rw[e,z]),fun fs z=>?_⟩<;>subst z<;>cases h
 refine⟨fun q xs z=>Zho z fun u e=>⟨(ne u e).1,(ne u e).2.1⟩,fun q xs z=>Zhp z fun u e=>(ne u e).2.1,fun q C xs z=>Zhq z fun u e=>⟨(ne u e).2.1,(ne u e).2.2⟩,fun q i z=>?_,fun q ob u z=>ZkT z fun u e=>(ne u e).2.1,[],(List.append_nil _).symm⟩;by_cases c:q=p
 ·subst c;rw[h]at z;cases z;exact h'
 ·unfold Kn;rw[Zz c];exact z
theorem Ext.wr(h:H p=some (.lst xs)):Ext K H (upd H p (.lst ys)) α α:=Ext.wrK (Kn.lst h) (fun ob w z=>by rw[h]at z;cases z) (Kn.lst Zs)
noncomputable def ZkU:Key->D
 |.inl i=>.int i
 |.inr x=>.str x
def Zdl(ks:List Key):D:=.tup (ks.map ZkU)
def Zl2(ks:List (List Key)):D:=.tup (ks.map Zdl)
noncomputable def ZaT(K:Fg)(H:Hp)(α:List Addr){κ:Type}(key:κ->D)(kvs:List (κ×V))(ds:List D):Prop:=
 ∃es:List D,ds=List.zipWith (fun kv e=>D.tup [key kv.1,e]) kvs es/\Reps K H α (kvs.map (·.2)) es
def SOk(K:Fg)(H:Hp)(α:List Addr)(p:Addr):SO->Prop
 |.lst ds=>(∃xs,H p=some (.lst xs)/\Reps K H α xs ds)\/(∃kvs,H p=some (.dK kvs)/\ZaT K H α ZkU kvs ds)\/(∃kvs,H p=some (.dT kvs)/\ZaT K H α Zdl kvs ds)\/(∃o kvs r,H p=some (.frz o (.dK kvs))/\ds=.non::r/\ZaT K H α ZkU kvs r)\/(∃o kvs r,H p=some (.frz o (.dT kvs))/\ds=.non::r/\ZaT K H α Zdl kvs r)\/(∃kvs,H p=some (.dU kvs)/\ZaT K H α Zl2 kvs ds)
theorem SOk.there(h:SOk K H α p o):∃u,H p=some u:=by
 cases o with
 |lst ds=>rcases h with⟨_,e,_⟩|⟨_,e,_⟩|⟨_,e,_⟩|⟨_,_,_,e,_⟩|⟨_,_,_,e,_⟩|⟨_,e,_⟩<;>exact⟨_,e⟩
theorem SOk.mono(h:SOk K H α p o)(ex:Ext K H H' α α')(e:H' p=H p):SOk K H' α' p o:=by
 cases o with
 |lst ds=>
  rcases h with⟨xs,h1,h2⟩|⟨kvs,h1,es,h2,h3⟩|⟨kvs,h1,es,h2,h3⟩|⟨o,kvs,r,h1,h0,es,h2,h3⟩|⟨o,kvs,r,h1,h0,es,h2,h3⟩|⟨kvs,h1,es,h2,h3⟩
  ·exact .inl ⟨xs,e.trans h1,Reps.mono ex h2⟩
  ·exact .inr (.inl ⟨kvs,e.trans h1,es,h2,Reps.mono ex h3⟩)
  ·exact .inr (.inr (.inl ⟨kvs,e.trans h1,es,h2,Reps.mono ex h3⟩))
  ·exact .inr (.inr (.inr (.inl ⟨o,kvs,r,e.trans h1,h0,es,h2,Reps.mono ex h3⟩)))
  ·exact .inr (.inr (.inr (.inr (.inl ⟨o,kvs,r,e.trans h1,h0,es,h2,Reps.mono ex h3⟩))))
  ·exact .inr (.inr (.inr (.inr (.inr ⟨kvs,e.trans h1,es,h2,Reps.mono ex h3⟩))))
structure HR(K:Fg) (H:Hp) (α:List Addr) (M:Sto):Prop where
 len:α.length=M.length
 nd:α.Nodup
 ob:∀(n:Nat)(p:Addr)(o:SO),α[n]?=some p->M[n]?=some o->SOk K H α p o
theorem HR.nil:HR K H [] []:=⟨rfl,List.nodup_nil,fun n p o h=>by simp at h⟩
theorem Kn.at{H:Hp}(k:Kn H p=some j)(e:H p=some u):(match some u with|some (.lst _)=>some 0|some (.dK _)=>some 1|some (.dT _)=>some 2|some (.dU _)=>some 3|some (.frz _ (.dK _))=>some 1|some (.frz _ (.dT _))=>some 2|_=>none)=some j:=by
 unfold Kn at k;rw[e]at k;exact k
theorem HR.at(h:HR K H α M)(e:RefK H α 0 n p)(m:M[n]?=some (.lst ds)):∃xs,H p=some (.lst xs)/\Reps K H α xs ds:=by
 rcases h.ob n p _ e.at' m with h1|⟨_,h1,_⟩|⟨_,h1,_⟩|⟨_,_,_,h1,_⟩|⟨_,_,_,h1,_⟩|⟨_,h1,_⟩
 ·exact h1
 all_goals exact absurd (Kn.at e.kn h1) (fun z=>nomatch z)
theorem HR.atU(h:HR K H α M)(e:RefK H α 3 n p)(m:M[n]?=some (.lst ds)):∃kvs,H p=some (.dU kvs)/\ZaT K H α Zl2 kvs ds:=by
 rcases h.ob n p _ e.at' m with⟨_,h1,_⟩|⟨_,h1,_⟩|⟨_,h1,_⟩|⟨_,_,_,h1,_⟩|⟨_,_,_,h1,_⟩|h1
 ·exact absurd (Kn.at e.kn h1) (fun z=>nomatch z)
 ·exact absurd (Kn.at e.kn h1) (fun z=>nomatch z)
 ·exact absurd (Kn.at e.kn h1) (fun z=>nomatch z)
 ·exact absurd (Kn.at e.kn h1) (fun z=>nomatch z)
 ·exact absurd (Kn.at e.kn h1) (fun z=>nomatch z)
 ·exact h1
theorem RefK.lst{n:Nat}{p:Addr}(e:RefK H α 0 n p):∃xs,H p=some (.lst xs):=by
 have:=e.kn
 unfold Kn at this
 split at this
 ·rename_i xs h;exact⟨xs,h⟩
 all_goals cases this
theorem HR.some_at(h:HR K H α M)(e:RefK H α 0 n p):∃xs,H p=some (.lst xs):=e.lst
theorem HR.there(h:HR K H α M){n:Nat}(e:α[n]?=some p):∃u,H p=some u:=by
 have hl:n<α.length:=(List.getElem?_eq_some_iff.mp e).1;have hm:n<M.length:=by rw[<-h.len];exact hl
 exact(h.ob n p M[n] e (Gq hm)).there
theorem HR.tup{M:Sto}{p:Addr}{o:HO}(h:HR K H α M)(hp:H p=none):HR K (upd H p o) α M:=
 ⟨h.len,h.nd,fun n q so e m=>by
  obtain⟨u,hu⟩:=h.there e;exact(h.ob n q so e m).mono (Ext.new0 hp) (Zz (ZW hu hp))⟩
theorem HR.newO(h:HR K H α M)(hp:H p=none)(r:SOk K (upd H p o) (α++[p]) p so):HR K (upd H p o) (α++[p]) (M++[so]):=by
 have ex:Ext K H (upd H p o) α (α++[p]):=Ext.new hp;refine⟨by rw[List.length_append,List.length_append,h.len];rfl,?_,fun n q so' e m=>?_⟩
 ·refine List.nodup_append.mpr ⟨h.nd,by simp,fun a ha b hb=>?_⟩
  have hb':b=p:=by simpa using hb
  obtain⟨n,hn,e⟩:=List.getElem_of_mem ha;obtain⟨u,z⟩:=h.there (n:=n) (p:=a) (by rw[List.getElem?_eq_getElem hn,e])
  rw[hb'];exact ZW z hp
 ·by_cases hn:n<α.length
  ·rw[List.getElem?_append_left hn]at e;rw[List.getElem?_append_left (by rw[<-h.len];exact hn)]at m
   obtain⟨u,hu⟩:=h.there e;exact(h.ob n q so' e m).mono ex (Zz (ZW hu hp))
  ·have en:n=α.length:=by
    have:n<(α++[p]).length:=(List.getElem?_eq_some_iff.mp e).1
    rw[List.length_append,List.length_singleton]at this;lia
   subst en;rw[List.getElem?_append_right (Nat.le_refl _),Nat.sub_self]at e;rw[h.len,List.getElem?_append_right (Nat.le_refl _),Nat.sub_self]at m;cases e;cases m;exact r
theorem HR.new(h:HR K H α M)(hp:H p=none)(r:Reps K H α xs ds):HR K (upd H p (.lst xs)) (α++[p]) (M++[.lst ds]):=
 h.newO hp (.inl ⟨xs,Zs,Reps.mono (Ext.new hp) r⟩)
theorem ZjM{n:Nat}(h:α.Nodup)(a:α[n]?=some p)(b:α[m]?=some p):n=m:=by
 obtain⟨h1,e1⟩:=List.getElem?_eq_some_iff.mp a;obtain⟨h2,e2⟩:=List.getElem?_eq_some_iff.mp b;exact(List.getElem_inj h).mp (e1.trans e2.symm)
theorem HR.wrO(h:HR K H α M)(e:α[n]?=some p)(ex:Ext K H (upd H p o) α α)(r:SOk K (upd H p o) α p so):HR K (upd H p o) α (M.set n so):=by
 have hn:n<M.length:=by rw[<-h.len];exact(List.getElem?_eq_some_iff.mp e).1
 refine⟨by rw[List.length_set];exact h.len,h.nd,fun k q so' e' m=>?_⟩
 by_cases hk:k=n
 ·subst hk;rw[e]at e';cases e';rw[List.getElem?_set_self hn]at m;cases m;exact r
 ·rw[List.getElem?_set_ne (Ne.symm hk)]at m;have hq:q≠p:=fun z=>hk (ZjM h.nd (z▸e') e);exact(h.ob k q so' e' m).mono ex (Zz hq)
theorem HR.wr(h:HR K H α M)(e:RefK H α 0 n p)(hp:H p=some (.lst ys))(r:Reps K H α xs ds):HR K (upd H p (.lst xs)) α (M.set n (.lst ds)):=
 h.wrO e.at' (Ext.wr hp) (.inl ⟨xs,Zs,Reps.mono (Ext.wr hp) r⟩)
end
inductive Out(β:Type) where
 |ok (a:β) (M:Sto)
 |exc (c:Str) (M:Sto)
 |bad
abbrev W3:=List D->Sto->Out D
noncomputable def Out.bind(o:Out β)(f:β->Sto->Out γ):Out γ:=match o with
 |.ok a M=>f a M
 |.exc c M=>.exc c M
 |.bad=>.bad
inductive Fl where
 |nx (ρ:Ro) (M:Sto)
 |ret (d:D) (M:Sto)
 |brk (ρ:Ro) (M:Sto)
 |cnt (ρ:Ro) (M:Sto)
 |exc (c:Str) (M:Sto)
 |bad
noncomputable def Zl3(c:Str):Bool:=c==PySem.Str.ofString "NoRound"
def XO(K:Fg)(H:Hp)(α:List Addr)(c:Str)(M:Sto)(dct:Option Addr):Prop:=
 (Zl3 c=false/\HR K H α M/\dct=none)\/(Zl3 c=true/\∃(M0:Sto) (ds:List D) (dx:Addr) (fs:List (Str×V)),M=M0++[.lst ds]/\HR K H α M0/\dct=some dx/\H dx=some (.xd fs)/\fs.map (·.1)=Ztd/\Reps K H α (fs.map (·.2)) ds)
def OG{β γ:Type}(K:Fg)(R:Hp->List Addr->γ->β->Prop)(H:Hp)(α:List Addr)(ξ:XK)(Q:γ->Hp->Prop):Out β->Prop
 |.ok d M'=>∀v H' α',Ext K H H' α α'->HR K H' α' M'->R H' α' v d->Q v H'
 |.exc c M'=>∀C H' α',PySem.W.nsIn K mainGlobals c=some (some (.ref C))->Ext K H H' α α'->∀dct,XO K H' α' c M' dct->ξ (.ref C) dct H'
 |.bad=>False
theorem OG.ext{K:Fg}{R:Hp->List Addr->γ->β->Prop}{Q:γ->Hp->Prop}{o:Out β}(h:OG K R H α ξ Q o)(e:Ext K H H1 α α1):OG K R H1 α1 ξ Q o:=by
 cases o with
 |ok d M'=>exact fun v H' α' e'=>h v H' α' (e.trans e')
 |exc c M'=>exact fun C H' α' n e'=>h C H' α' n (e.trans e')
 |bad=>exact h
abbrev OP(K:Fg):=OG K (Rep K)
abbrev OT(K:Fg):=OG (β:=Bool) (γ:=Bool) K (fun _ _ v d=>v=d)
abbrev OA(K:Fg):=OG K (Reps K)
noncomputable def SR(K:Fg)(H:Hp)(α:List Addr)(σ:L2.St)(ρ:Ro):Prop:=σ.length=ρ.length/\∀(i:Nat)(d:D),ρ[i]?=some (some d)->∃v,σ[i]?=some (some v)/\Rep K H α v d
theorem SR.mono{K:Fg}(h:SR K H α σ ρ)(e:Ext K H H' α α'):SR K H' α' σ ρ:=
 ⟨h.1,fun i d q=>let ⟨v,a,b⟩:=h.2 i d q;⟨v,a,Rep.mono e b⟩⟩
theorem SR.set{K:Fg}(h:SR K H α σ ρ)(i:Nat)(r:Rep K H α v d):SR K H α (σ.set i (some v)) (ρ.set i (some d)):=by
 refine⟨by rw[List.length_set,List.length_set];exact h.1,fun j e q=>?_⟩
 by_cases hj:j=i
 ·subst hj;have hl:j<ρ.length:=by
   have:=(List.getElem?_eq_some_iff.mp q).1
   rw[List.length_set]at this;exact this
  rw[List.getElem?_set_self hl]at q;cases q;exact⟨v,by rw[List.getElem?_set_self (by rw[h.1];exact hl)],r⟩
 ·rw[List.getElem?_set_ne (Ne.symm hj)]at q;rw[List.getElem?_set_ne (Ne.symm hj)];exact h.2 j e q
abbrev Ev:=Ro->Sto->Out D
abbrev Tv:=Ro->Sto->Out Bool
abbrev Av:=Ro->Sto->Out (List D)
abbrev Sv:=Ro->Sto->Fl
def DE(X:Cx)(ξ:XK)(e:Expr)(f:Ev):Prop:=∃t:TE,PE X e t/\∀σ ρ H α M Q,SR X.K H α σ ρ->HR X.K H α M->OP X.K H α ξ Q (f ρ M)->t σ H Q
def DT(X:Cx)(ξ:XK)(e:Expr)(f:Tv):Prop:=∃t:TT,PT X e t/\∀σ ρ H α M Q,SR X.K H α σ ρ->HR X.K H α M->OT X.K H α ξ Q (f ρ M)->t σ H Q
def DW(X:Cx)(ξ:XK)(e:Expr)(f:Tv):Prop:=∃t:TT,PW X e t/\∀σ ρ H α M Q,SR X.K H α σ ρ->HR X.K H α M->OT X.K H α ξ Q (f ρ M)->t σ H Q
def DA(X:Cx)(ξ:XK)(es:List Expr)(f:Av):Prop:=∃t:TA,PA X es t/\∀σ ρ H α M Q,SR X.K H α σ ρ->HR X.K H α M->OA X.K H α ξ Q (f ρ M)->t σ H Q
theorem OG.seq{K:Fg}{R:Hp->List Addr->γ->β->Prop}{R':Hp->List Addr->γ'->β'->Prop}{Q:γ'->Hp->Prop}{Q1:γ->Hp->Prop}{o:Out β}{f:β->Sto->Out β'}(h:OG K R' H α ξ Q (o.bind f))(k:∀d M' v H' α',Ext K H H' α α'->HR K H' α' M'->R H' α' v d->OG K R' H' α' ξ Q (f d M')->Q1 v H'):OG K R H α ξ Q1 o:=by
 cases o with
 |ok d M'=>exact fun v H' α' e hr r=>k d M' v H' α' e hr r (OG.ext (o:=f d M') h e)
 |exc c M'=>exact h
 |bad=>exact h
section
variable {X:Cx}{ξ:XK}{fa fb:Ev}
noncomputable def Zg(i:Nat):Ev:=fun ρ M=>match ρ[i]? with|some (some d)=>.ok d M|_=>.bad
noncomputable def eC(d:D):Ev:=fun _ M=>.ok d M
theorem Zb(i:Nat)(hN:autoParam (X.N[i]?=some x) Qrf._auto_1)(hv:Vis X.env.scope x:=by first|exact Or.inl rfl|exact Or.inr (Or.inl rfl)|exact Or.inr (Or.inr rfl))(hd:autoParam ((x==("__debug__":Str))=false) Qde._auto_1)(hcd:autoParam ((x==("__classdict__":Str))=false) Qde._auto_1):DE X ξ (.Name x pos) (Zg i):=by
 refine⟨_,ZkM hN hv hd hcd,fun σ ρ H α M Q s h q=>?_⟩;unfold Zg at q;cases e:ρ[i]? with
 |none=>rw[e]at q;exact q.elim
 |some o=>
  cases o with
  |none=>rw[e]at q;exact q.elim
  |some d=>
   rw[e]at q;obtain⟨v,h1,h2⟩:=s.2 i d e;exact⟨v,h1,q v H α Ext.refl h h2⟩
theorem Zd{j pos}:DE X ξ (.Constant (.int i) j pos) (eC (.int i)):=⟨_,ZnN,fun _ _ H α M _ _ h q=>q _ H α Ext.refl h (.int i)⟩
theorem Zcs{j pos}:DE X ξ (.Constant (.bool i) j pos) (eC (.bl i)):=⟨_,ZqU,fun _ _ H α M _ _ h q=>q _ H α Ext.refl h (.bl i)⟩
theorem Zb0{j pos}:DE X ξ (.Constant .none j pos) (eC .non):=⟨_,ZnO,fun _ _ H α M _ _ h q=>q _ H α Ext.refl h .non⟩
theorem ZaX{j pos}:DE X ξ (.Constant (.str x) j pos) (eC (.str x)):=⟨_,ZnP,fun _ _ H α M _ _ h q=>q _ H α Ext.refl h (.str x)⟩
abbrev Bo:=D->D->Sto->Out D
def e2(f:Bo)(fa fb:Ev):Ev:=fun ρ M=>(fa ρ M).bind fun x M1=>(fb ρ M1).bind fun y M2=>f x y M2
def BO(X:Cx)(ξ:XK)(r:R2)(f:Bo):Prop:=∀H α M v w x y Q,HR X.K H α M->Rep X.K H α v x->Rep X.K H α w y->OP X.K H α ξ Q (f x y M)->r v w H Q
theorem two{r:R2}{f:Bo}(hb:BO X ξ r f){ta tb:TE}(qa:∀σ ρ H α M Q,SR X.K H α σ ρ->HR X.K H α M->OP X.K H α ξ Q (fa ρ M)->ta σ H Q)(qb:∀σ ρ H α M Q,SR X.K H α σ ρ->HR X.K H α M->OP X.K H α ξ Q (fb ρ M)->tb σ H Q):∀σ ρ H α M Q,SR X.K H α σ ρ->HR X.K H α M->OP X.K H α ξ Q (e2 f fa fb ρ M)->tOp r ta tb σ H Q:=by
 intro σ ρ H α M Q s h q;refine qa σ ρ H α M _ s h (OG.seq q fun x M1 v H1 α1 e1 h1 r1 q1=>?_);refine qb σ ρ H1 α1 M1 _ (s.mono e1) h1 (OG.seq q1 fun y M2 w H2 α2 e2 h2 r2 q2=>?_);exact hb H2 α2 M2 v w x y Q h2 (Rep.mono e2 r1) r2 q2
theorem ZgA(ho:OpR X (binaryOp op) r)(hf:BO X ξ r f)(ha:DE X ξ a fa)(hb:DE X ξ b fb):DE X ξ (.BinOp a op b pos) (e2 f fa fb):=by
 obtain⟨ta,ha,qa⟩:=ha;obtain⟨tb,hb,qb⟩:=hb;exact⟨_,Zq4 ho ha hb,two hf qa qb⟩
theorem Zd6(ho:OpR X (compareOp op) r)(hf:BO X ξ r f)(ha:DE X ξ a fa)(hb:DE X ξ b fb)(hm:behindInMarks op b=false:=by first|exact ZkN _|with_unfolding_all rfl):DE X ξ (.Compare a [op] [b] pos) (e2 f fa fb):=by
 obtain⟨ta,ha,qa⟩:=ha;obtain⟨tb,hb,qb⟩:=hb;exact⟨_,ZlN ho ha hb hm,two hf qa qb⟩
def tv(f:Ev):Tv:=fun ρ M=>(f ρ M).bind fun x M1=>match x with|.bl k=>.ok k M1|_=>.bad
theorem Zoo{t:TE}{f:Ev}(qa:∀σ ρ H α M Q,SR X.K H α σ ρ->HR X.K H α M->OP X.K H α ξ Q (f ρ M)->t σ H Q):∀σ ρ H α M Q,SR X.K H α σ ρ->HR X.K H α M->OT X.K H α ξ Q (tv f ρ M)->Zn6 t σ H Q:=by
 intro σ ρ H α M Q s h q;refine qa σ ρ H α M _ s h (OG.seq q fun x M1 v H1 α1 e1 h1 r1 q1=>?_);cases r1 with
 |bl k=>exact⟨k,rfl,q1 k H1 α1 Ext.refl h1 rfl⟩
 |_=>exact q1.elim
theorem ZB(ho:OpR X (compareOp op) r)(hf:BO X ξ r f)(ha:DE X ξ a fa)(hb:DE X ξ b fb)(hm:behindInMarks op b=false:=by first|exact ZkN _|with_unfolding_all rfl):DT X ξ (.Compare a [op] [b] pos) (tv (e2 f fa fb)):=by
 obtain⟨ta,ha,qa⟩:=ha;obtain⟨tb,hb,qb⟩:=hb;exact⟨_,ZlO ho ha hb hm,Zoo (two hf qa qb)⟩
theorem ZaI(h:DE X ξ e fa)(he:autoParam (∀whole,isTrue e X.env whole=(do let v <-whole;standAt e.pos;holding [v] (truthy v))) Qin._auto_1):DT X ξ e (tv fa):=by
 obtain⟨ta,ha,qa⟩:=h;exact⟨_,ZnQ ha he,Zoo qa⟩
def Zct(f g:Tv):Tv:=fun ρ M=>(f ρ M).bind fun k M1=>if k=true then g ρ M1 else .ok false M1
def ZgT(f g:Tv):Tv:=fun ρ M=>(f ρ M).bind fun k M1=>if k=true then .ok true M1 else g ρ M1
def Zcc(f:Tv):Tv:=fun ρ M=>(f ρ M).bind fun k M1=>.ok (!k) M1
theorem Zbn(ha:DT X ξ a ga):DW X ξ (.BoolOp .And [a] pos) ga:=let ⟨_,h,q⟩:=ha;⟨_,pw_and1 h,q⟩
theorem Zc4(ha:DT X ξ a ga):DW X ξ (.BoolOp .Or [a] pos) ga:=let ⟨_,h,q⟩:=ha;⟨_,pw_or1 h,q⟩
theorem Zcu(ha:DT X ξ a ga)(hb:DW X ξ (.BoolOp .And (b::rest) pos) gb):DW X ξ (.BoolOp .And (a::b::rest) pos) (Zct ga gb):=by
 obtain⟨ta,ha,qa⟩:=ha;obtain⟨tb,hb,qb⟩:=hb;refine⟨_,pw_and ha hb,fun σ ρ H α M Q s h q=>?_⟩;refine qa σ ρ H α M _ s h (OG.seq q fun k M1 v H1 α1 e1 h1 r1 q1=>?_);cases r1;cases k with
 |true=>exact ZkR (qb σ ρ H1 α1 M1 Q (s.mono e1) h1 q1)
 |false=>exact ZkQ (q1 false H1 α1 Ext.refl h1 rfl)
theorem Zd7(ha:DT X ξ a ga)(hb:DW X ξ (.BoolOp .Or (b::rest) pos) gb):DW X ξ (.BoolOp .Or (a::b::rest) pos) (ZgT ga gb):=by
 obtain⟨ta,ha,qa⟩:=ha;obtain⟨tb,hb,qb⟩:=hb;refine⟨_,pw_or ha hb,fun σ ρ H α M Q s h q=>?_⟩;refine qa σ ρ H α M _ s h (OG.seq q fun k M1 v H1 α1 e1 h1 r1 q1=>?_);cases r1;cases k with
 |true=>exact ZkR (q1 true H1 α1 Ext.refl h1 rfl)
 |false=>exact ZkQ (qb σ ρ H1 α1 M1 Q (s.mono e1) h1 q1)
theorem ZgB(h:DW X ξ e ga):DT X ξ e ga:=let ⟨_,h,q⟩:=h;⟨_,h.pt,q⟩
theorem Zcv(ha:DT X ξ a ga):DT X ξ (.UnaryOp .Not a pos) (Zcc ga):=by
 obtain⟨ta,ha,qa⟩:=ha;refine⟨_,ZnR ha,fun σ ρ H α M Q s h q=>?_⟩;refine qa σ ρ H α M _ s h (OG.seq q fun k M1 v H1 α1 e1 h1 r1 q1=>?_);cases r1;exact q1 (!k) H1 α1 Ext.refl h1 rfl
def Zd8(f g:Ev):Ev:=fun ρ M=>(f ρ M).bind fun x M1=>match x with|.bl k=>if k=true then g ρ M1 else .ok (.bl false) M1|_=>.bad
def Zul(f g:Ev):Ev:=fun ρ M=>(f ρ M).bind fun x M1=>match x with|.bl k=>if k=true then .ok (.bl true) M1 else g ρ M1|_=>.bad
def ZgC(f:Ev):Ev:=fun ρ M=>(f ρ M).bind fun x M1=>match x with|.bl k=>.ok (.bl (!k)) M1|_=>.bad
theorem Zhr{op}(ha:DE X ξ a fa):DE X ξ (.BoolOp op [a] pos) fa:=let ⟨_,h,q⟩:=ha;⟨_,ZnS h,q⟩
theorem ZfL(ha:DE X ξ a fa)(hb:DE X ξ (.BoolOp .And (b::rest) pos) fb):DE X ξ (.BoolOp .And (a::b::rest) pos) (Zd8 fa fb):=by
 obtain⟨ta,ha,qa⟩:=ha;obtain⟨tb,hb,qb⟩:=hb;refine⟨_,ZnT ha hb,fun σ ρ H α M Q s h q=>?_⟩;refine qa σ ρ H α M _ s h (OG.seq q fun x M1 v H1 α1 e1 h1 r1 q1=>?_);cases r1 with
 |bl k=>
  refine⟨k,rfl,?_⟩;cases k with
  |true=>exact ZkR (qb σ ρ H1 α1 M1 Q (s.mono e1) h1 q1)
  |false=>exact ZkQ (q1 _ H1 α1 Ext.refl h1 (.bl false))
 |_=>exact q1.elim
theorem ZkV(ha:DE X ξ a fa):DE X ξ (.UnaryOp .Not a pos) (ZgC fa):=by
 obtain⟨ta,ha,qa⟩:=ha;refine⟨_,ZnU ha,fun σ ρ H α M Q s h q=>?_⟩;refine qa σ ρ H α M _ s h (OG.seq q fun x M1 v H1 α1 e1 h1 r1 q1=>?_);cases r1 with
 |bl k=>exact⟨k,rfl,q1 _ H1 α1 Ext.refl h1 (.bl (!k))⟩
 |_=>exact q1.elim
def eIf(c:Tv)(f g:Ev):Ev:=fun ρ M=>(c ρ M).bind fun k M1=>if k=true then f ρ M1 else g ρ M1
theorem Zrg(hc:DT X ξ c ga)(ha:DE X ξ a fa)(hb:DE X ξ b fb):DE X ξ (.IfExp c a b pos) (eIf ga fa fb):=by
 obtain⟨tc,hc,qc⟩:=hc;obtain⟨ta,ha,qa⟩:=ha;obtain⟨tb,hb,qb⟩:=hb;refine⟨_,Zjx hc ha hb,fun σ ρ H α M Q s h q=>?_⟩;refine qc σ ρ H α M _ s h (OG.seq q fun k M1 v H1 α1 e1 h1 r1 q1=>?_);cases r1;cases k with
 |true=>exact ZkR (qa σ ρ H1 α1 M1 Q (s.mono e1) h1 q1)
 |false=>exact ZkQ (qb σ ρ H1 α1 M1 Q (s.mono e1) h1 q1)
noncomputable def aNil:Av:=fun _ M=>.ok [] M
def Zc(f:Ev)(g:Av):Av:=fun ρ M=>(f ρ M).bind fun x M1=>(g ρ M1).bind fun xs M2=>.ok (x::xs) M2
theorem Ze:DA X ξ [] aNil:=⟨_,ZkO,fun _ _ H α M _ _ h q=>q _ H α Ext.refl h .nil⟩
theorem Za(ha:DE X ξ e fa)(hr:DA X ξ es fs)(hs:autoParam (starEach (e::es) X.env=(false,eval e X.env)::starEach es X.env) Qrf._auto_1):DA X ξ (e::es) (Zc fa fs):=by
 obtain⟨ta,ha,qa⟩:=ha;obtain⟨tb,hb,qb⟩:=hr;refine⟨_,ZeY ha hb hs,fun σ ρ H α M Q s h q=>?_⟩;refine qa σ ρ H α M _ s h (OG.seq q fun x M1 v H1 α1 e1 h1 r1 q1=>?_);refine qb σ ρ H1 α1 M1 _ (s.mono e1) h1 (OG.seq q1 fun y M2 w H2 α2 e2 h2 r2 q2=>?_);exact q2 _ H2 α2 Ext.refl h2 (.cons (Rep.mono e2 r1) r2)
def Zak(f:Av):Ev:=fun ρ M=>(f ρ M).bind fun xs M1=>if xs.length<=1000 then .ok (.tup xs) M1 else .bad
def Zcw(f:Av):Ev:=fun ρ M=>(f ρ M).bind fun xs M1=>if xs.length<=1000 then .ok (.ref M1.length) (M1++[.lst xs])else .bad
theorem small(h:n<=1000):n<=sizeLine:=Nat.le_of_lt (Zhk h)
theorem ZC{x1}(ha:DA X ξ es fs):DE X ξ (.Tuple es x1 pos) (Zak fs):=by
 obtain⟨ta,ha,qa⟩:=ha;refine⟨_,Zn7 ha,fun σ ρ H α M Q s h q=>?_⟩;refine qa σ ρ H α M _ s h (OG.seq q fun xs M1 vs H1 α1 e1 h1 r1 q1=>?_);by_cases hl:xs.length<=1000
 ·rw[if_pos hl]at q1;refine⟨by rw[r1.length];exact small hl,fun p hp=>q1 _ _ α1 (Ext.new0 hp) (h1.tup hp) (.tup Zs (Reps.mono (Ext.new0 hp) r1))⟩
 ·rw[if_neg hl]at q1;exact q1.elim
theorem HR.last{K:Fg}(h:HR K H α M)(p:Addr):(α++[p])[M.length]?=some p:=by
 rw[<-h.len,List.getElem?_append_right (Nat.le_refl _),Nat.sub_self];rfl
theorem Z7(ha:DA X ξ es fs):DE X ξ (.List es pos) (Zcw fs):=by
 obtain⟨ta,ha,qa⟩:=ha;refine⟨_,Zn8 ha,fun σ ρ H α M Q s h q=>?_⟩;refine qa σ ρ H α M _ s h (OG.seq q fun xs M1 vs H1 α1 e1 h1 r1 q1=>?_);by_cases hl:xs.length<=1000
 ·rw[if_pos hl]at q1;refine⟨by rw[r1.length];exact small hl,fun p hp=>q1 _ _ (α1++[p]) (Ext.new hp) (h1.new hp r1) (.ref ⟨h1.last p,Kn.lst Zs⟩)⟩
 ·rw[if_neg hl]at q1;exact q1.elim
end
end DL
namespace DL
open PyProof.Rows L2
open PySem.SeqAt (EqAt RcAt RcNeAt)
noncomputable def Zt(i j:Int):Prop:=Builtin.Int.intBits i<=64\/Builtin.Int.intBits j<=64\/(Builtin.Int.intBits i<=60000000/\Builtin.Int.intBits j<=60000000)
instance (i j:Int):Decidable (Zt i j):=by unfold Zt;infer_instance
theorem Zt.ok(h:Zt i j):IntMulOk i j:=by
 rcases h with h|h|⟨h1,h2⟩
 ·exact .of_left h
 ·exact .of_right h
 ·exact .of_le h1 h2 (by decide)
theorem Zr(m n:Nat)(h1:i.natAbs<2^m)(h2:j.natAbs<2^n)(hm:autoParam (m<=60000000) Qde._auto_1)(hn:autoParam (n<=60000000) Qde._auto_1):Zt i j:=
 .inr (.inr ⟨Nat.le_trans (intBits_le_iff.mpr h1) hm,Nat.le_trans (intBits_le_iff.mpr h2) hn⟩)
noncomputable def ZaB(j:Int):Prop:=j≠0/\j.natAbs.log2<9000
instance (j:Int):Decidable (ZaB j):=by unfold ZaB;infer_instance
theorem Zl4:OpR X (binaryOp .Mult) (rI Zt fun i j=>.int (i*j)):=opI fun _ _ _ _ _ _ _ hc q=>mul_int q hc.ok
theorem ZjN:OpR X (binaryOp .FloorDiv) (rI (fun _ j=>ZaB j) fun i j=>.int (i.fdiv j)):=opI fun _ _ _ _ _ _ _ hc q=>floordiv_int hc.1 q (.inl (PyProof.noPylong_of_log2 hc.2))
noncomputable def dAdd:Bo:=fun x y M=>match x,y with
 |.int i,.int j=>.ok (.int (i+j)) M
 |.str i,.str j=>if i.length+j.length<=100000 then .ok (.str (i++j)) M else .bad
 |.ref n,.ref m=>match M[n]?,M[m]? with
  |some (.lst xs),some (.lst ys)=>if xs.length+ys.length<=10000000 then .ok (.ref M.length) (M++[.lst (xs++ys)])else .bad
  |_,_=>.bad
 |.tup xs,.tup ys=>if xs.length+ys.length<=100000/\xs≠[]then .ok (.tup (xs++ys)) M else .bad
 |_,_=>.bad
noncomputable def dSub:Bo:=fun x y M=>match x,y with|.int i,.int j=>.ok (.int (i-j)) M|_,_=>.bad
def dMul:Bo:=fun x y M=>match x,y with|.int i,.int j=>if Zt i j then .ok (.int (i*j)) M else .bad|_,_=>.bad
def dDiv:Bo:=fun x y M=>match x,y with|.int i,.int j=>if ZaB j then .ok (.int (i.fdiv j)) M else .bad|_,_=>.bad
noncomputable def dMod:Bo:=fun x y M=>match x,y with|.int i,.int j=>if j≠0 then .ok (.int (i.fmod j)) M else .bad|_,_=>.bad
noncomputable def dPow:Bo:=fun x y M=>match x,y with|.int i,.int j=>if 0<=j/\j<=1000000/\i.natAbs<2^64 then .ok (.int (i^j.toNat)) M else .bad|_,_=>.bad
noncomputable def dLt:Bo:=fun x y M=>match x,y with|.int i,.int j=>.ok (.bl (decide (i<j))) M|_,_=>.bad
noncomputable def dLe:Bo:=fun x y M=>match x,y with|.int i,.int j=>.ok (.bl (decide (i<=j))) M|_,_=>.bad
noncomputable def dGt:Bo:=fun x y M=>match x,y with|.int i,.int j=>.ok (.bl (decide (j<i))) M|_,_=>.bad
noncomputable def dGe:Bo:=fun x y M=>match x,y with|.int i,.int j=>.ok (.bl (decide (j<=i))) M|_,_=>.bad
theorem Zop(h:n<=100000):n<=sizeLine:=Nat.le_trans h (by decide)
section
variable {X:Cx}{ξ:XK}
theorem ZbA{r:R2}{f:Bo}{C:Int->Int->Prop}[∀i j,Decidable (C i j)]{g:Int->Int->D}{gV:Int->Int->V}(hg:∀H α i j,Rep X.K H α (gV i j) (g i j))(hf:∀x y M,f x y M=match x,y with|.int i,.int j=>if C i j then .ok (g i j) M else .bad|_,_=>.bad)(hr:∀i j H Q,C i j->Q (gV i j) H->r (.int i) (.int j) H Q):BO X ξ r f:=by
 intro H α M v w x y Q h rv rw' q;rw[hf]at q;cases rv<;>first|exact q.elim|skip
 cases rw'<;>first|exact q.elim|skip
 rename_i i j;by_cases c:C i j
 ·simp only[if_pos c]at q;exact hr i j H Q c (q _ H α Ext.refl h (hg H α i j))
 ·simp only[if_neg c]at q;exact q.elim
theorem Zoq:BO X ξ (rI0 fun i j=>.int (i-j)) dSub:=ZbA (C:=fun _ _=>True) (fun _ _ i j=>.int (i-j)) (fun x y M=>by cases x<;>cases y<;>simp[dSub]) fun i j H Q _ q=>⟨i,j,rfl,rfl,q⟩
theorem Zor:BO X ξ (rI Zt fun i j=>.int (i*j)) dMul:=ZbA (C:=Zt) (fun _ _ i j=>.int (i*j)) (fun x y M=>by cases x<;>cases y<;>rfl) fun i j H Q c q=>⟨i,j,rfl,rfl,c,q⟩
theorem Zos:BO X ξ (rI (fun _ j=>ZaB j) fun i j=>.int (i.fdiv j)) dDiv:=ZbA (C:=fun _ j=>ZaB j) (fun _ _ i j=>.int (i.fdiv j)) (fun x y M=>by cases x<;>cases y<;>rfl) fun i j H Q c q=>⟨i,j,rfl,rfl,c,q⟩
theorem Zot:BO X ξ (rI (fun _ j=>j≠0) fun i j=>.int (i.fmod j)) dMod:=ZbA (C:=fun _ j=>j≠0) (fun _ _ i j=>.int (i.fmod j)) (fun x y M=>by cases x<;>cases y<;>rfl) fun i j H Q c q=>⟨i,j,rfl,rfl,c,q⟩
theorem Zou:BO X ξ (rI Zs9 fun i j=>.int (i^j.toNat)) dPow:=ZbA (C:=fun i j=>0<=j/\j<=1000000/\i.natAbs<2^64) (fun _ _ i j=>.int (i^j.toNat)) (fun x y M=>by cases x<;>cases y<;>rfl) fun i j H Q c q=>⟨i,j,rfl,rfl,c,q⟩
theorem Zdm:BO X ξ (rI0 fun i j=>.bl (decide (i<j))) dLt:=ZbA (C:=fun _ _=>True) (fun _ _ i j=>.bl _) (fun x y M=>by cases x<;>cases y<;>simp[dLt]) fun i j H Q _ q=>⟨i,j,rfl,rfl,q⟩
theorem Zl5:BO X ξ (rI0 fun i j=>.bl (decide (i<=j))) dLe:=ZbA (C:=fun _ _=>True) (fun _ _ i j=>.bl _) (fun x y M=>by cases x<;>cases y<;>simp[dLe]) fun i j H Q _ q=>⟨i,j,rfl,rfl,q⟩
theorem Zhs:BO X ξ (rI0 fun i j=>.bl (decide (j<i))) dGt:=ZbA (C:=fun _ _=>True) (fun _ _ i j=>.bl _) (fun x y M=>by cases x<;>cases y<;>simp[dGt]) fun i j H Q _ q=>⟨i,j,rfl,rfl,q⟩
theorem Zrh:BO X ξ (rI0 fun i j=>.bl (decide (j<=i))) dGe:=ZbA (C:=fun _ _=>True) (fun _ _ i j=>.bl _) (fun x y M=>by cases x<;>cases y<;>simp[dGe]) fun i j H Q _ q=>⟨i,j,rfl,rfl,q⟩
theorem Zl6:OpR X (binaryOp .Add) (fun x y H Q=>(rI0 (fun i j=>.int (i+j)) x y H Q\/(∃i j,x=.str i/\y=.str j/\i.length+j.length<=sizeLine/\Q (.str (i++j)) H))\/(rCat x y H Q\/ZlT X.K x y H Q)):=
 OpR.or (OpR.or Zn2 Zgv) (OpR.or Zog ZlU)
theorem Zov:BO X ξ (fun x y H Q=>(rI0 (fun i j=>.int (i+j)) x y H Q\/(∃i j,x=.str i/\y=.str j/\i.length+j.length<=sizeLine/\Q (.str (i++j)) H))\/(rCat x y H Q\/ZlT X.K x y H Q)) dAdd:=by
 intro H α M v w x y Q h rv rw' q;unfold dAdd at q
 split at q
 ·rename_i i j;cases rv;cases rw';exact .inl (.inl ⟨i,j,rfl,rfl,q _ H α Ext.refl h (.int (i+j))⟩)
 ·rename_i i j;cases rv;cases rw'
  split at q
  ·rename_i c;exact .inl (.inr ⟨i,j,rfl,rfl,Zop c,q _ H α Ext.refl h (.str _)⟩)
  ·exact q.elim
 ·rename_i n m;cases rv with
  |@ref p _ hp=>
   cases rw' with
   |@ref p2 _ hp2=>
    split at q
    ·rename_i ds ds2 e1 e2
     split at q
     ·rename_i c;obtain⟨xs,g1,r1⟩:=h.at hp e1;obtain⟨ys,g2,r2⟩:=h.at hp2 e2;refine .inr (.inl ⟨p,p2,xs,ys,rfl,rfl,g1,g2,by rw[r1.length,r2.length];exact Nat.le_trans c (by decide),fun l hl=>?_⟩)
      exact q _ _ (α++[l]) (Ext.new hl) (h.new hl (r1.append r2)) (.ref ⟨h.last l,Kn.lst Zs⟩)
     ·exact q.elim
    ·exact q.elim
 ·rename_i ds ds2;cases rv with
  |@tup p xs _ hp rp=>
   cases rw' with
   |@tup p2 xs2 _ hp2 rp2=>
    split at q
    ·rename_i c;have nx:xs≠[]:=fun z=>c.2 (by have:=rp.length;rw[z]at this;exact List.eq_nil_of_length_eq_zero this.symm)
     refine .inr (.inr ⟨p,p2,xs,xs2,rfl,rfl,(SqT.of hp),(SqT.of hp2),nx,by rw[rp.length,rp2.length];exact Zop c.1,fun z=>?_,fun _ l hl=>?_⟩)
     ·subst z;cases rp2;rw[List.append_nil]at q;exact q _ H α Ext.refl h (.tup hp rp)
     ·exact q _ _ α (Ext.new0 hl) (h.tup hl) (.tup Zs (Reps.mono (Ext.new0 hl) (rp.append rp2)))
    ·exact q.elim
 ·exact q.elim
theorem ZM(ha:DE X ξ a fa)(hb:DE X ξ b fb):DE X ξ (.BinOp a .Add b pos) (e2 dAdd fa fb):=ZgA Zl6 Zov ha hb
theorem Zay(ha:DE X ξ a fa)(hb:DE X ξ b fb):DE X ξ (.BinOp a .Sub b pos) (e2 dSub fa fb):=ZgA Zn3 Zoq ha hb
theorem Zy(ha:DE X ξ a fa)(hb:DE X ξ b fb):DE X ξ (.BinOp a .Mult b pos) (e2 dMul fa fb):=ZgA Zl4 Zor ha hb
theorem ZT(ha:DE X ξ a fa)(hb:DE X ξ b fb):DE X ξ (.BinOp a .FloorDiv b pos) (e2 dDiv fa fb):=ZgA ZjN Zos ha hb
theorem ZV(ha:DE X ξ a fa)(hb:DE X ξ b fb):DE X ξ (.BinOp a .Mod b pos) (e2 dMod fa fb):=ZgA ZlL Zot ha hb
theorem Zc5(ha:DE X ξ a fa)(hb:DE X ξ b fb):DE X ξ (.BinOp a .Pow b pos) (e2 dPow fa fb):=ZgA Zn4 Zou ha hb
def Ze2(f:Ev):Ev:=fun ρ M=>(f ρ M).bind fun x M1=>match x with|.int i=>.ok (.int (-i)) M1|_=>.bad
theorem ZaY(ha:DE X ξ a fa):DE X ξ (.UnaryOp .USub a pos) (Ze2 fa):=by
 obtain⟨ta,ha,qa⟩:=ha;refine⟨_,Zq5 Zn5 ha,fun σ ρ H α M Q s h q=>?_⟩;refine qa σ ρ H α M _ s h (OG.seq q fun x M1 v H1 α1 e1 h1 r1 q1=>?_);cases r1 with
 |int i=>exact⟨i,rfl,q1 _ H1 α1 Ext.refl h1 (.int (-i))⟩
 |_=>exact q1.elim
def atD(xs:List D)(i:Int)(M:Sto):Out D:=match atI xs i with|some d=>.ok d M|none=>.bad
def dIx:Bo:=fun x y M=>match x,y with
 |.tup xs,.int i=>atD xs i M
 |.rol xs,.int i=>atD xs i M
 |.ref n,.int i=>match M[n]? with|some (.lst xs)=>atD xs i M|_=>.bad
 |_,_=>.bad
theorem Reps.atI{K:Fg}(r:Reps K H α vs ds)(h:L2.atI ds i=some d):∃v,L2.atI vs i=some v/\Rep K H α v d:=by
 unfold L2.atI at h ⊢;rw[r.length];cases e:ixN ds.length i with
 |none=>rw[e]at h;cases h
 |some j=>
  rw[e]at h;exact r.get h
theorem Zri:BO X ξ (fun x y H Q=>Zta X.K x y H Q\/Ztb X.K x y H Q) dIx:=by
 intro H α M v w x y Q h rv rw' q;have at':∀{ds:List D}{i:Int},OP X.K H α ξ Q (atD ds i M)->∃d,L2.atI ds i=some d/\OP X.K H α ξ Q (.ok d M):=fun{ds i} q=>by
  unfold atD at q;cases e:L2.atI ds i with
  |none=>rw[e]at q;exact q.elim
  |some d=>rw[e]at q;exact⟨d,rfl,q⟩
 unfold dIx at q
 split at q
 ·rename_i ds i;cases rw';cases rv with
  |@tup p xs _ hp rp=>
   obtain⟨d,e,q⟩:=at' q;obtain⟨v,h1,h2⟩:=rp.atI e;exact .inr ⟨p,xs,i,v,rfl,rfl,(SqT.of hp),h1,q v H α Ext.refl h h2⟩
 ·rename_i ds i;cases rw';cases rv with
  |@rol p xs _ hp rp=>
   obtain⟨d,e,q⟩:=at' q;obtain⟨v,h1,h2⟩:=rp.atI e;exact .inl ⟨p,xs,i,v,rfl,rfl,hp.sq,h1,q v H α Ext.refl h h2⟩
 ·rename_i n i;cases rw';cases rv with
  |@ref p _ hp=>
   split at q
   ·rename_i ds e1;obtain⟨d,e,q⟩:=at' q;obtain⟨xs,g1,r1⟩:=h.at hp e1;obtain⟨v,h1,h2⟩:=r1.atI e;exact .inl ⟨p,xs,i,v,rfl,rfl,SqL.of g1,h1,q v H α Ext.refl h h2⟩
   ·exact q.elim
 ·exact q.elim
theorem Zk(ha:DE X ξ a fa)(hb:DE X ξ b fb)(hs:Zhh b:=by exact fun _ _=>rfl):DE X ξ (.Subscript a b pos) (e2 dIx fa fb):=by
 obtain⟨ta,ha,qa⟩:=ha;obtain⟨tb,hb,qb⟩:=hb;exact⟨_,Zra (IxR.or ZlW Zod) ha hb hs,two Zri qa qb⟩
end
inductive Kd where
 |non|bl (b:Bool)|int (i:Int)|str (x:Str)|tup (xs:List D)|lst (xs:List D)
noncomputable def kd(M:Sto):D->Option Kd
 |.non=>some .non
 |.bl b=>some (.bl b)
 |.int i=>some (.int i)
 |.str x=>some (.str x)
 |.tup xs=>some (.tup xs)
 |.rol xs=>some (.lst xs)
 |.con xs=>some (.tup xs)
 |.ref n=>match M[n]? with|some (.lst xs)=>some (.lst xs)|_=>none
 |.err _ _=>none
 |.dk _=>none
 |.dt _=>none
 |.du _=>none
 |.fn _=>none
noncomputable def eqL(f:D->D->Option Bool):List D->List D->Option Bool
 |[],[]=>some true
 |x::xs,y::ys=>match f x y with|some a=>(match eqL f xs ys with|some b=>some (a&&b)|none=>none)|none=>none
 |_,_=>some false
def eqK(f:D->D->Option Bool):Kd->Kd->Option Bool
 |.non,.non=>some true
 |.bl a,.bl b=>some (a==b)
 |.bl a,.int b=>some ((if a then 1 else 0)==b)
 |.int a,.bl b=>some (a==(if b then 1 else 0))
 |.int a,.int b=>some (a==b)
 |.str a,.str b=>some (a==b)
 |.tup xs,.tup ys=>eqL f xs ys
 |.lst xs,.lst ys=>if xs.length=ys.length then eqL f xs ys else some false
 |_,_=>some false
def eqF:Nat->Sto->D->D->Option Bool
 |0,_,_,_=>none
 |n+1,M,x,y=>match kd M x,kd M y with|some a,some b=>eqK (eqF n M) a b|_,_=>none
inductive Vw(X:Cx) (H:Hp) (α:List Addr) (s:Shared):Kd->Value->Prop where
 |non:Vw X H α s .non .none
 |bl (b:Bool):Vw X H α s (.bl b) (.bool b)
 |int (i:Int) (t:Tok):Vw X H α s (.int i) (.int i t)
 |str (x:Str) (t:Tok):Vw X H α s (.str x) (.str x t)
 |tup {p:Addr} {xs:List V} {ds:List D} {its:List Value}:s.heap.IsTuple p its.toArray->ZS xs its->Reps X.K H α xs ds->Vw X H α s (.tup ds) (.ref p)
 |lst {p:Addr} {xs:List V} {ds:List D} {its:List Value}:s.heap.IsList p its.toArray->ZS xs its->Reps X.K H α xs ds->Vw X H α s (.lst ds) (.ref p)
section
variable {X:Cx}{pins:Pn}{σ:L2.St}{H:Hp}{s:Shared}{α:List Addr}{M:Sto}
theorem vw(I:Inv X pins σ H s)(h:HR X.K H α M)(r:Rep X.K H α v x)(ru:ZR v u)(e:kd M x=some k):Vw X H α s k u:=by
 cases r with
 |non=>cases e;cases ru;exact .non
 |bl b=>cases e;cases ru;exact .bl b
 |int i=>cases e;obtain⟨t,rfl⟩:=ru;exact .int i t
 |str x=>cases e;obtain⟨t,rfl⟩:=ru;exact .str x t
 |err _ _ _=>cases e
 |dk _=>cases e
 |dt _=>cases e
 |du _=>cases e
 |fn _=>cases e
 |@tup p xs ds hp rp=>
  cases e;cases ru;obtain⟨its,h1,h2,_⟩:=I.tuple (SqT.of hp);exact .tup h2 h1 rp
 |@con p xs ds hp rp=>
  cases e;cases ru;obtain⟨its,h1,h2,_⟩:=I.tuple hp.sq;exact .tup h2 h1 rp
 |@rol p xs ds hp rp=>
  cases e;cases ru;obtain⟨its,h1,h2,_⟩:=I.list hp.sq;exact .lst h2.isList h1 rp
 |@ref p n hp=>
  cases ru;cases e1:M[n]? with
  |none=>simp only[kd,e1]at e;cases e
  |some o=>
   cases o with
   |lst ds=>
    simp only[kd,e1]at e;cases e;obtain⟨xs,g1,r1⟩:=h.at hp e1;obtain⟨its,h1,h2,_⟩:=I.list (SqL.of g1);exact .lst h2.isList h1 r1
noncomputable def Eq3(A:Around)(s:Shared)(u z:Value)(b:Bool):Prop:=EqAt A s u z b/\RcAt A s u z b/\RcNeAt A s u z (!b)
theorem Zht{f:D->D->Option Bool}:∀{xs ys:List D}{b:Bool},eqL f xs ys=some b->(∀(j:Nat) x y,xs[j]?=some x->ys[j]?=some y->∃c,f x y=some c)/\b=((List.range (min xs.length ys.length)).all (fun j=>match xs[j]?,ys[j]? with|some x,some y=>(f x y).getD false|_,_=>false)&&xs.length==ys.length)
 |[],[],b,e=>by
  simp only[eqL,Option.some.injEq]at e;subst e;exact⟨fun j x y h=>(by simp at h),(by simp)⟩
 |x::xs,[],b,e=>by
  simp only[eqL,Option.some.injEq]at e;subst e;exact⟨fun j x y h1 h2=>(by simp at h2),(by simp)⟩
 |[],y::ys,b,e=>by
  simp only[eqL,Option.some.injEq]at e;subst e;exact⟨fun j x y h1 h2=>(by simp at h1),(by simp)⟩
 |x::xs,y::ys,b,e=>by
  cases e1:f x y with
  |none=>simp only[eqL,e1]at e;cases e
  |some a=>
   cases e2:eqL f xs ys with
   |none=>simp only[eqL,e1,e2]at e;cases e
   |some c=>
    simp only[eqL,e1,e2,Option.some.injEq]at e;subst e;obtain⟨h1,h2⟩:=Zht e2;refine⟨fun j x' y' g1 g2=>?_,?_⟩
    ·cases j with
     |zero=>
      simp at g1 g2;subst g1 g2;exact⟨a,e1⟩
     |succ j=>
      simp at g1 g2;exact h1 j x' y' g1 g2
    ·have em:min (x::xs).length (y::ys).length=min xs.length ys.length+1:=by simp only[List.length_cons];lia
     rw[em,List.range_succ_eq_map,List.all_cons,List.all_map,h2];simp[e1,Bool.and_assoc,Function.comp_def]
theorem ZjO(I:Inv X pins σ H s)(h:HR X.K H α M):∀(n:Nat){v:V}{x y:D}{b:Bool},Rep X.K H α v x->Rep X.K H α v y->eqF n M x y=some b->b=true:=by
 intro n
 induction n with
 |zero=>intro v x y b _ _ e;simp only[eqF]at e;cases e
 |succ n ih=>
  have lists:∀(vs:List V)(xs ys:List D)(b:Bool),Reps X.K H α vs xs->Reps X.K H α vs ys->eqL (eqF n M) xs ys=some b->b=true:=by
   intro vs
   induction vs with
   |nil=>
    intro xs ys b r1 r2 e;cases r1;cases r2;simp only[eqL,Option.some.injEq]at e;exact e.symm
   |cons v vs iv=>
    intro xs ys b r1 r2 e;cases r1 with
    |cons p1 t1=>
     cases r2 with
     |cons p2 t2=>
      rename_i d1 ds1 d2 ds2;cases e1:eqF n M d1 d2 with
      |none=>simp only[eqL,e1]at e;cases e
      |some a=>
       cases e2:eqL (eqF n M) ds1 ds2 with
       |none=>simp only[eqL,e1,e2]at e;cases e
       |some c=>
        simp only[eqL,e1,e2,Option.some.injEq]at e;rw[<-e,ih p1 p2 e1,iv _ _ _ t1 t2 e2];rfl
  intro v x y b r1 r2 e;have nl:∀{p:Addr}{xs ys:List V},SqT X.K H p xs->SqL X.K H p ys->False:=fun{p xs ys} a c=>by
   obtain⟨i1,_,⟨o1,g1,c1,_⟩,_⟩:=I.tuple a;obtain⟨i2,_,⟨o2,_,g2,c2,_⟩,_⟩:=I.list c;rw[g1]at g2;cases g2;rw[c1]at c2;exact absurd c2 (by decide)
  have ll:∀{p:Addr}{n:Nat}{ds:List D},RefK H α 0 n p->M[n]?=some (.lst ds)->∃vs,SqL X.K H p vs/\Reps X.K H α vs ds:=fun{p n ds} a c=>by
   obtain⟨xs,g1,r1⟩:=h.at a c;exact⟨xs,SqL.of g1,r1⟩
  cases r1 with
  |non=>cases r2;simp only[eqF,kd,eqK,Option.some.injEq]at e;exact e.symm
  |bl c=>cases r2;simp only[eqF,kd,eqK,Option.some.injEq,beq_self_eq_true]at e;exact e.symm
  |int c=>cases r2;simp only[eqF,kd,eqK,Option.some.injEq,beq_self_eq_true]at e;exact e.symm
  |str c=>cases r2;simp only[eqF,kd,eqK,Option.some.injEq,beq_self_eq_true]at e;exact e.symm
  |err _ _ _=>simp[eqF,kd]at e
  |dk _=>simp[eqF,kd]at e
  |dt _=>simp[eqF,kd]at e
  |du _=>simp[eqF,kd]at e
  |fn _=>simp[eqF,kd]at e
  |@tup p xs ds hp rp=>
   cases r2 with
   |@tup _ xs2 ds2 hp2 rp2=>
    cases I.tuple_inj (SqT.of hp) (SqT.of hp2);simp only[eqF,kd,eqK]at e;exact lists _ _ _ _ rp rp2 e
   |@con _ xs2 ds2 hp2 rp2=>
    cases I.tuple_inj (SqT.of hp) hp2.sq;simp only[eqF,kd,eqK]at e;exact lists _ _ _ _ rp rp2 e
   |@rol _ xs2 ds2 hp2 rp2=>exact(nl (SqT.of hp) hp2.sq).elim
   |err _ _ _=>simp[eqF,kd]at e
   |dk _=>simp[eqF,kd]at e
   |dt _=>simp[eqF,kd]at e
   |du _=>simp[eqF,kd]at e
   |fn _=>simp[eqF,kd]at e
   |@ref _ n2 hp2=>
    obtain⟨ys,g⟩:=h.some_at hp2;exact(nl (SqT.of hp) (SqL.of g)).elim
  |@con p xs ds hp rp=>
   cases r2 with
   |@tup _ xs2 ds2 hp2 rp2=>
    cases I.tuple_inj hp.sq (SqT.of hp2);simp only[eqF,kd,eqK]at e;exact lists _ _ _ _ rp rp2 e
   |@con _ xs2 ds2 hp2 rp2=>
    cases I.tuple_inj hp.sq hp2.sq;simp only[eqF,kd,eqK]at e;exact lists _ _ _ _ rp rp2 e
   |@rol _ xs2 ds2 hp2 rp2=>exact(nl hp.sq hp2.sq).elim
   |err _ _ _=>simp[eqF,kd]at e
   |dk _=>simp[eqF,kd]at e
   |dt _=>simp[eqF,kd]at e
   |du _=>simp[eqF,kd]at e
   |fn _=>simp[eqF,kd]at e
   |@ref _ n2 hp2=>
    obtain⟨ys,g⟩:=h.some_at hp2;exact(nl hp.sq (SqL.of g)).elim
  |@rol p xs ds hp rp=>
   cases r2 with
   |@tup _ xs2 ds2 hp2 rp2=>exact(nl (SqT.of hp2) hp.sq).elim
   |@con _ xs2 ds2 hp2 rp2=>exact(nl hp2.sq hp.sq).elim
   |err _ _ _=>simp[eqF,kd]at e
   |dk _=>simp[eqF,kd]at e
   |dt _=>simp[eqF,kd]at e
   |du _=>simp[eqF,kd]at e
   |fn _=>simp[eqF,kd]at e
   |@rol _ xs2 ds2 hp2 rp2=>
    cases I.list_inj hp.sq hp2.sq;simp only[eqF,kd,eqK,if_pos (rp.length.symm.trans rp2.length)]at e;exact lists _ _ _ _ rp rp2 e
   |@ref _ n2 hp2=>
    cases e1:M[n2]? with
    |none=>simp only[eqF,kd,e1]at e;cases e
    |some o=>
     cases o with
     |lst ds2=>
      obtain⟨ys,g,r⟩:=ll hp2 e1;cases I.list_inj hp.sq g;simp only[eqF,kd,e1,eqK,if_pos (rp.length.symm.trans r.length)]at e;exact lists _ _ _ _ rp r e
  |@ref p n1 hp=>
   cases e0:M[n1]? with
   |none=>simp only[eqF,kd,e0]at e;cases e
   |some o0=>
    cases o0 with
    |lst ds=>
     obtain⟨xs,g0,rp⟩:=ll hp e0;cases r2 with
     |@tup _ xs2 ds2 hp2 rp2=>exact(nl (SqT.of hp2) g0).elim
     |@con _ xs2 ds2 hp2 rp2=>exact(nl hp2.sq g0).elim
     |err _ _ _=>simp[eqF,kd,e0]at e
     |dk _=>simp[eqF,kd,e0]at e
     |dt _=>simp[eqF,kd,e0]at e
     |du _=>simp[eqF,kd,e0]at e
     |fn _=>simp[eqF,kd,e0]at e
     |@rol _ xs2 ds2 hp2 rp2=>
      cases I.list_inj g0 hp2.sq;simp only[eqF,kd,e0,eqK,if_pos (rp.length.symm.trans rp2.length)]at e;exact lists _ _ _ _ rp rp2 e
     |@ref _ n2 hp2=>
      cases e1:M[n2]? with
      |none=>simp only[eqF,kd,e0,e1]at e;cases e
      |some o=>
       cases o with
       |lst ds2=>
        obtain⟨ys,g,r⟩:=ll hp2 e1;cases I.list_inj g0 g;simp only[eqF,kd,e0,e1,eqK,if_pos (rp.length.symm.trans r.length)]at e;exact lists _ _ _ _ rp r e
end
end DL
namespace DL
open PyProof.Rows L2
open PySem.SeqAt (EqAt RcAt RcNeAt)
section
variable {X:Cx}{pins:Pn}{σ:L2.St}{H:Hp}{s:Shared}{α:List Addr}{M:Sto}
theorem ZfM(v1:ZS xs1 i1)(v2:ZS xs2 i2)(r1:Reps X.K H α xs1 ds1)(r2:Reps X.K H α xs2 ds2)(ih:∀(x y:D)(v w:V)(u z:Value)(b:Bool),eqF n M x y=some b->Rep X.K H α v x->Rep X.K H α w y->ZR v u->ZR w z->EqAt A s u z b)(e:eqL (eqF n M) ds1 ds2=some b):∃f:Nat->Bool,(∀(j:Nat)(h1:j<i1.toArray.size)(h2:j<i2.toArray.size),EqAt A s i1.toArray[j] i2.toArray[j] (f j))/\b=((List.range (min i1.toArray.size i2.toArray.size)).all f&&i1.toArray.size==i2.toArray.size):=by
 obtain⟨g1,g2⟩:=Zht e;have l1:i1.toArray.size=ds1.length:=by rw[List.size_toArray,<-v1.length,r1.length]
 have l2:i2.toArray.size=ds2.length:=by rw[List.size_toArray,<-v2.length,r2.length]
 refine⟨_,fun j h1 h2=>?_,by rw[l1,l2];exact g2⟩
 have k1:j<ds1.length:=by rw[<-l1];exact h1
 have k2:j<ds2.length:=by rw[<-l2];exact h2
 obtain⟨c,hc⟩:=g1 j _ _ (Gq k1) (Gq k2);obtain⟨v,a1,a2⟩:=r1.get (Gq k1);obtain⟨w,b1,b2⟩:=r2.get (Gq k2);obtain⟨u,a3,a4⟩:=v1.get a1;obtain⟨z,b3,b4⟩:=v2.get b1;have q:=ih _ _ v w u z c hc a2 b2 a4 b4;simp only[List.getElem?_eq_getElem k1,List.getElem?_eq_getElem k2,hc,Option.getD_some];have e1:i1.toArray[j]=u:=by
  have:=List.getElem?_eq_some_iff.mp a3
  obtain⟨_,z⟩:=this
  simpa using z
 have e2:i2.toArray[j]=z:=by
  have:=List.getElem?_eq_some_iff.mp b3
  obtain⟨_,z⟩:=this
  simpa using z
 rw[e1,e2];exact q
theorem Zhu(I:Inv X pins σ H s)(h:HR X.K H α M)(e:eqF n M x y=some b)(rx:Rep X.K H α v x)(ry:Rep X.K H α w y)(rv:ZR v (.ref p))(rw':ZR w (.ref q))(k:RcAt A s (.ref p) (.ref q) b)(k':RcNeAt A s (.ref p) (.ref q) (!b)):Eq3 A s (.ref p) (.ref q) b:=by
 refine⟨?_,k,k'⟩;by_cases c:p=q
 ·subst c;cases ZR.inj rv rw';rw[ZjO I h n rx ry e];exact EqAt.same _
 ·exact EqAt.of_refs c k
theorem eq3(I:Inv X pins σ H s)(h:HR X.K H α M):∀(n:Nat)(x y:D)(v w:V)(u z:Value)(b:Bool)(A:Around),A.units+n<cLine->eqF n M x y=some b->Rep X.K H α v x->Rep X.K H α w y->ZR v u->ZR w z->Eq3 A s u z b:=by
 intro n
 induction n with
 |zero=>intro x y v w u z b A _ e;simp only[eqF]at e;cases e
 |succ n ih=>
  intro x y v w u z b A hn e rx ry rv rw';have hu:A.units<cLine:=by lia
  have e0:=e;unfold eqF at e;cases ka:kd M x with
  |none=>rw[ka]at e;cases e
  |some ka'=>
   cases kb:kd M y with
   |none=>rw[ka,kb]at e;cases e
   |some kb'=>
    rw[ka,kb]at e;have va:=vw I h rx rv ka;have vb:=vw I h ry rw' kb;have deep:∀(x y:D)(v w:V)(u z:Value)(b:Bool),eqF n M x y=some b->Rep X.K H α v x->Rep X.K H α w y->ZR v u->ZR w z->EqAt A.in1 s u z b:=fun x y v w u z b e a1 a2 a3 a4=>
     (ih x y v w u z b A.in1 (by rw[Around.in1_units];lia) e a1 a2 a3 a4).1
    cases va with
    |non=>
     cases vb<;>simp only[eqK,Option.some.injEq]at e<;>subst e
     ·exact⟨EqAt.same _,.none_none,.none_none⟩
     ·exact⟨.none_bool _,.none_bool _,.none_bool _⟩
     ·exact⟨.none_int _ _,.none_int _ _,.none_int _ _⟩
     ·exact⟨.none_str _ _,.none_str _ _,.none_str _ _⟩
     ·rename_i g _ _;exact⟨.none_tuple g hu,.none_tuple g hu,.none_tuple g hu⟩
     ·rename_i g _ _;exact⟨.none_list g hu,.none_list g hu,.none_list g hu⟩
    |bl c=>
     cases vb<;>simp only[eqK,Option.some.injEq]at e<;>subst e
     ·exact⟨.bool_none _,.bool_none _,.bool_none _⟩
     ·exact⟨.bool_bool _ _,.bool_bool _ _,.bool_bool _ _⟩
     ·exact⟨.bool_int _ _ _,.bool_int _ _ _,.bool_int _ _ _⟩
     ·exact⟨.bool_str _ _ _,.bool_str _ _ _,.bool_str _ _ _⟩
     ·rename_i g _ _;exact⟨.bool_tuple _ g hu,.bool_tuple _ g hu,.bool_tuple _ g hu⟩
     ·rename_i g _ _;exact⟨.bool_list _ g hu,.bool_list _ g hu,.bool_list _ g hu⟩
    |int c t=>
     cases vb<;>simp only[eqK,Option.some.injEq]at e<;>subst e
     ·exact⟨.int_none _ _,.int_none _ _,.int_none _ _⟩
     ·exact⟨.int_bool _ _ _,.int_bool _ _ _,.int_bool _ _ _⟩
     ·exact⟨.int_int _ _ _ _,.int_int _ _ _ _,.int_int _ _ _ _⟩
     ·exact⟨.int_str _ _ _ _,.int_str _ _ _ _,.int_str _ _ _ _⟩
     ·rename_i g _ _;exact⟨.int_tuple _ _ g hu,.int_tuple _ _ g hu,.int_tuple _ _ g hu⟩
     ·rename_i g _ _;exact⟨.int_list _ _ g hu,.int_list _ _ g hu,.int_list _ _ g hu⟩
    |str c t=>
     cases vb<;>simp only[eqK,Option.some.injEq]at e<;>subst e
     ·exact⟨.str_none _ _,.str_none _ _,.str_none _ _⟩
     ·exact⟨.str_bool _ _ _,.str_bool _ _ _,.str_bool _ _ _⟩
     ·exact⟨.str_int _ _ _ _,.str_int _ _ _ _,.str_int _ _ _ _⟩
     ·exact⟨.str_str _ _ _ _,.str_str _ _ _ _,.str_str _ _ _ _⟩
     ·rename_i g _ _;exact⟨.str_tuple _ _ g hu,.str_tuple _ _ g hu,.str_tuple _ _ g hu⟩
     ·rename_i g _ _;exact⟨.str_list _ _ g hu,.str_list _ _ g hu,.str_list _ _ g hu⟩
    |@tup p xs ds its g1 w1 q1=>
     cases vb with
     |@tup p2 xs2 ds2 its2 g2 w2 q2=>
      simp only[eqK]at e;obtain⟨f,hf,hb⟩:=ZfM w1 w2 q1 q2 deep e;subst hb;exact Zhu I h e0 rx ry rv rw' (.tuples g1 g2 hu hf) (.tuples g1 g2 hu hf)
     |@lst p2 xs2 ds2 its2 g2 w2 q2=>
      simp only[eqK,Option.some.injEq]at e;subst e;exact Zhu I h e0 rx ry rv rw' (.tuple_list g1 g2 hu) (.tuple_list g1 g2 hu)
     |non=>simp only[eqK,Option.some.injEq]at e;subst e;exact⟨.tuple_none g1 hu,.tuple_none g1 hu,.tuple_none g1 hu⟩
     |bl c=>simp only[eqK,Option.some.injEq]at e;subst e;exact⟨.tuple_bool _ g1 hu,.tuple_bool _ g1 hu,.tuple_bool _ g1 hu⟩
     |int c t=>simp only[eqK,Option.some.injEq]at e;subst e;exact⟨.tuple_int _ _ g1 hu,.tuple_int _ _ g1 hu,.tuple_int _ _ g1 hu⟩
     |str c t=>simp only[eqK,Option.some.injEq]at e;subst e;exact⟨.tuple_str _ _ g1 hu,.tuple_str _ _ g1 hu,.tuple_str _ _ g1 hu⟩
    |@lst p xs ds its g1 w1 q1=>
     cases vb with
     |@lst p2 xs2 ds2 its2 g2 w2 q2=>
      simp only[eqK]at e;have l1:its.toArray.size=ds.length:=by rw[List.size_toArray,<-w1.length,q1.length]
      have l2:its2.toArray.size=ds2.length:=by rw[List.size_toArray,<-w2.length,q2.length]
      by_cases c:ds.length=ds2.length
      ·rw[if_pos c]at e;have hs:its.toArray.size=its2.toArray.size:=by rw[l1,l2,c]
       obtain⟨f,hf,hb⟩:=ZfM w1 w2 q1 q2 deep e;rw[hs,Nat.min_self,beq_self_eq_true,Bool.and_true,<-hs]at hb;subst hb;exact Zhu I h e0 rx ry rv rw' (.lists g1 g2 hs hu hf) (.lists g1 g2 hs hu hf)
      ·rw[if_neg c]at e;have e':false=b:=Option.some.inj e;subst e';have hs:(its.toArray.size != its2.toArray.size)=true:=by rw[l1,l2];simpa using c
       exact Zhu I h e0 rx ry rv rw' (.lists_lengths g1 g2 hs hu) (.lists_lengths g1 g2 hs hu)
     |@tup p2 xs2 ds2 its2 g2 w2 q2=>
      simp only[eqK,Option.some.injEq]at e;subst e;exact Zhu I h e0 rx ry rv rw' (.list_tuple g1 g2 hu) (.list_tuple g1 g2 hu)
     |non=>simp only[eqK,Option.some.injEq]at e;subst e;exact⟨.list_none g1 hu,.list_none g1 hu,.list_none g1 hu⟩
     |bl c=>simp only[eqK,Option.some.injEq]at e;subst e;exact⟨.list_bool _ g1 hu,.list_bool _ g1 hu,.list_bool _ g1 hu⟩
     |int c t=>simp only[eqK,Option.some.injEq]at e;subst e;exact⟨.list_int _ _ g1 hu,.list_int _ _ g1 hu,.list_int _ _ g1 hu⟩
     |str c t=>simp only[eqK,Option.some.injEq]at e;subst e;exact⟨.list_str _ _ g1 hu,.list_str _ _ g1 hu,.list_str _ _ g1 hu⟩
end
section
def ZqK(X:Cx)(neg:Bool):R2:=fun v w H Q=>∃α M x y b,HR X.K H α M/\Rep X.K H α v x/\Rep X.K H α w y/\eqF 12 M x y=some b/\Q (.bl (neg ^^ b)) H
theorem ZbB(hu:X.A.units+64<cLine):OpR X (compareOp .Eq) (ZqK X false):=by
 intro pins s σ H v w u z Q I rv rw' ⟨α,M,x,y,b,h,rx,ry,e,q⟩;refine(eq3 I h 12 x y v w u z b X.A (by lia) e rx ry rv rw').2.1 _ _ _ _ ⟨.bl b,H,I,rfl,?_⟩
 simpa using q
theorem ZaZ(hu:X.A.units+64<cLine):OpR X (compareOp .NotEq) (ZqK X true):=by
 intro pins s σ H v w u z Q I rv rw' ⟨α,M,x,y,b,h,rx,ry,e,q⟩;refine(eq3 I h 12 x y v w u z b X.A (by lia) e rx ry rv rw').2.2 _ _ _ _ ⟨.bl (!b),H,I,rfl,?_⟩
 simpa using q
def dEq:Bo:=fun x y M=>match eqF 12 M x y with|some b=>.ok (.bl b) M|none=>.bad
def dNe:Bo:=fun x y M=>match eqF 12 M x y with|some b=>.ok (.bl (!b)) M|none=>.bad
theorem Zdn:BO X ξ (ZqK X false) dEq:=by
 intro H α M v w x y Q h rv rw' q;unfold dEq at q;cases e:eqF 12 M x y with
 |none=>rw[e]at q;exact q.elim
 |some b=>rw[e]at q;exact⟨α,M,x,y,b,h,rv,rw',e,by simpa using q _ H α Ext.refl h (.bl b)⟩
theorem Zcx:BO X ξ (ZqK X true) dNe:=by
 intro H α M v w x y Q h rv rw' q;unfold dNe at q;cases e:eqF 12 M x y with
 |none=>rw[e]at q;exact q.elim
 |some b=>rw[e]at q;exact⟨α,M,x,y,b,h,rv,rw',e,by simpa using q _ H α Ext.refl h (.bl (!b))⟩
noncomputable def Zhv:V->Bool
 |.non=>true
 |.bl _=>true
 |_=>false
def rIs(neg:Bool):R2:=fun v w H Q=>Zhv w=true/\Q (.bl (neg ^^ decide (v=w))) H
theorem ZfN(rv:ZR v u)(rw':ZR w z)(p:Zhv w=true):plainIs u z=true/\(u==z)=decide (v=w):=by
 cases w with
 |non=>
  cases rw';cases v with
  |non=>cases rv;exact⟨rfl,rfl⟩
  |bl b=>cases rv;exact⟨rfl,by rw[decide_eq_false (fun z=>(nomatch z))];rfl⟩
  |int b=>obtain⟨t,rfl⟩:=rv;exact⟨rfl,by rw[decide_eq_false (fun z=>(nomatch z))];rfl⟩
  |str b=>obtain⟨t,rfl⟩:=rv;exact⟨rfl,by rw[decide_eq_false (fun z=>(nomatch z))];rfl⟩
  |byt b=>obtain⟨t,rfl⟩:=rv;exact⟨rfl,by rw[decide_eq_false (fun z=>(nomatch z))];rfl⟩
  |flt b=>obtain⟨t,rfl⟩:=rv;exact⟨rfl,by rw[decide_eq_false (fun z=>(nomatch z))];rfl⟩
  |ref b=>cases rv;exact⟨rfl,by rw[decide_eq_false (fun z=>(nomatch z))];rfl⟩
  |ty b=>cases rv;exact⟨rfl,by rw[decide_eq_false (fun z=>(nomatch z))];rfl⟩
 |bl c=>
  cases rw';cases v with
  |non=>cases rv;exact⟨rfl,by rw[decide_eq_false (fun z=>(nomatch z))];rfl⟩
  |bl b=>cases rv;refine⟨rfl,?_⟩;cases b<;>cases c<;>rfl
  |int b=>obtain⟨t,rfl⟩:=rv;exact⟨rfl,by rw[decide_eq_false (fun z=>(nomatch z))];rfl⟩
  |str b=>obtain⟨t,rfl⟩:=rv;exact⟨rfl,by rw[decide_eq_false (fun z=>(nomatch z))];rfl⟩
  |byt b=>obtain⟨t,rfl⟩:=rv;exact⟨rfl,by rw[decide_eq_false (fun z=>(nomatch z))];rfl⟩
  |flt b=>obtain⟨t,rfl⟩:=rv;exact⟨rfl,by rw[decide_eq_false (fun z=>(nomatch z))];rfl⟩
  |ref b=>cases rv;exact⟨rfl,by rw[decide_eq_false (fun z=>(nomatch z))];rfl⟩
  |ty b=>cases rv;exact⟨rfl,by rw[decide_eq_false (fun z=>(nomatch z))];rfl⟩
 |_=>cases p
theorem ZkW:OpR X (compareOp .Is) (rIs false):=by
 intro pins s σ H v w u z Q I rv rw' ⟨p,q⟩;obtain⟨h1,h2⟩:=ZfN rv rw' p;refine wpAny_is_plain h1 ⟨.bl (u==z),H,I,rfl,?_⟩;rw[h2]
 simpa using q
theorem Zd9:OpR X (compareOp .IsNot) (rIs true):=by
 intro pins s σ H v w u z Q I rv rw' ⟨p,q⟩;obtain⟨h1,h2⟩:=ZfN rv rw' p;refine wpAny_isNot_plain h1 ⟨.bl (!(u==z)),H,I,rfl,?_⟩;rw[h2]
 simpa using q
noncomputable def isP:D->D->Option Bool
 |.non,.non=>some true
 |.bl a,.bl b=>some (a==b)
 |_,.non=>some false
 |_,.bl _=>some false
 |_,_=>none
def dIs:Bo:=fun x y M=>match isP x y with|some b=>.ok (.bl b) M|none=>.bad
def dIsNot:Bo:=fun x y M=>match isP x y with|some b=>.ok (.bl (!b)) M|none=>.bad
theorem ZkX{K:Fg}(rv:Rep K H α v x)(rw':Rep K H α w y)(e:isP x y=some b):Zhv w=true/\decide (v=w)=b:=by
 unfold isP at e
 split at e
 ·cases rv;cases rw';cases e;exact⟨rfl,rfl⟩
 ·rename_i c d;cases rv;cases rw';cases e;refine⟨rfl,?_⟩;cases c<;>cases d<;>rfl
 ·rename_i hx;cases rw';cases e;refine⟨rfl,decide_eq_false fun z=>?_⟩;subst z;cases rv;exact hx rfl
 ·rename_i c hx;cases rw';cases e;refine⟨rfl,decide_eq_false fun z=>?_⟩;subst z;cases rv;exact hx _ rfl
 ·cases e
theorem Zow:BO X ξ (rIs false) dIs:=by
 intro H α M v w x y Q h rv rw' q;unfold dIs at q;cases e:isP x y with
 |none=>rw[e]at q;exact q.elim
 |some b=>
  rw[e]at q;obtain⟨p,d⟩:=ZkX rv rw' e;exact⟨p,by rw[d];simpa using q _ H α Ext.refl h (.bl b)⟩
theorem ZfO:BO X ξ (rIs true) dIsNot:=by
 intro H α M v w x y Q h rv rw' q;unfold dIsNot at q;cases e:isP x y with
 |none=>rw[e]at q;exact q.elim
 |some b=>
  rw[e]at q;obtain⟨p,d⟩:=ZkX rv rw' e;exact⟨p,by rw[d];simpa using q _ H α Ext.refl h (.bl (!b))⟩
noncomputable def Zox:D->Bool
 |.non=>true
 |.bl _=>true
 |.int _=>true
 |.str _=>true
 |_=>false
noncomputable def Zum:D->D->Bool
 |.non,.non=>true
 |.bl a,.bl b=>a==b
 |.bl a,.int b=>(if a then 1 else 0)==b
 |.int a,.bl b=>a==(if b then 1 else 0)
 |.int a,.int b=>a==b
 |.str a,.str b=>a==b
 |_,_=>false
noncomputable def Zea(M:Sto):D->Option (List D)
 |.tup xs=>some xs
 |.rol xs=>some xs
 |.con xs=>some xs
 |.ref n=>match M[n]? with|some (.lst xs)=>some xs|_=>none
 |_=>none
theorem Ze3{K:Fg}(h:HR K H α M)(r:Rep K H α v x)(e:Zea M x=some ds):∃p xs,v=.ref p/\(SqL K H p xs\/SqT K H p xs)/\Reps K H α xs ds:=by
 cases r with
 |@tup p xs ds hp rp=>cases e;exact⟨p,xs,rfl,.inr (SqT.of hp),rp⟩
 |@con p xs ds hp rp=>cases e;exact⟨p,xs,rfl,.inr hp.sq,rp⟩
 |@rol p xs ds hp rp=>cases e;exact⟨p,xs,rfl,.inl hp.sq,rp⟩
 |@ref p n hp=>
  cases e1:M[n]? with
  |none=>simp only[Zea,e1]at e;cases e
  |some o=>
   cases o with
   |lst es=>
    simp only[Zea,e1]at e;cases e;obtain⟨xs,g1,r1⟩:=h.at hp e1;exact⟨p,xs,rfl,.inl (SqL.of g1),r1⟩
 |_=>cases e
def inD(x y:D)(M:Sto):Option Bool:=match Zea M y with|some ds=>if Zox x=true/\ds.all Zox=true then some (ds.any fun y=>Zum y x)else none|none=>none
variable {p:Pos}{x:Str}{id T:String}
def Zj(f:W3)(fs:Av):Ev:=fun ρ M=>(fs ρ M).bind f
def CO(X:Cx)(ξ:XK)(r:List V->Hp->VK->Prop)(f:W3):Prop:=∀H α M vs ds Q,HR X.K H α M->Reps X.K H α vs ds->OP X.K H α ξ Q (f ds M)->r vs H Q
theorem Zq(hc:Zbm X (.builtin id) r)(hf:CO X ξ r f)(hm:X.mg x=none)(hv:bootBuiltins x=some (.builtin id))(ha:DA X ξ (e::es) fs)(hg:autoParam (Gl X x) Qrf._auto_1)(hn:autoParam (x≠"__name__") Qde._auto_1)(hdb:autoParam ((x==("__debug__":Str))=false) Qde._auto_1)
  (he:starEach (e::es) X.env=(false,eval e X.env)::starEach es X.env:=by rfl) (hpl:(backTo pos (starEach es X.env)).any (·.1)=false:=by rfl):DE X ξ (.Call (.Name x p) (e::es) [] pos) (Zj f fs):=by
 obtain⟨ta,ha,qa⟩:=ha;refine⟨_,ZfI hc hg hm hv ha hn hdb he hpl,fun σ ρ H α M Q s h q=>?_⟩;exact qa σ ρ H α M _ s h (OG.seq q fun ds M1 vs H1 α1 e1 h1 r1 q1=>hf H1 α1 M1 vs ds Q h1 r1 q1)
theorem Zcy(hc:Zbm X (.type T) r)(hf:CO X ξ r f)(hm:X.mg x=none)(hv:bootBuiltins x=some (.type T))(ha:DA X ξ (e::es) fs)(hg:autoParam (Gl X x) Qrf._auto_1)(hn:autoParam (x≠"__name__") Qde._auto_1)(hdb:autoParam ((x==("__debug__":Str))=false) Qde._auto_1)
  (he:starEach (e::es) X.env=(false,eval e X.env)::starEach es X.env:=by rfl) (hpl:(backTo pos (starEach es X.env)).any (·.1)=false:=by rfl):DE X ξ (.Call (.Name x p) (e::es) [] pos) (Zj f fs):=by
 obtain⟨ta,ha,qa⟩:=ha;refine⟨_,Zhd hc hg hm hv ha hn hdb he hpl,fun σ ρ H α M Q s h q=>?_⟩;exact qa σ ρ H α M _ s h (OG.seq q fun ds M1 vs H1 α1 e1 h1 r1 q1=>hf H1 α1 M1 vs ds Q h1 r1 q1)
def bLen:W3:=fun ds M=>match ds with
 |[x]=>match Zea M x with|some xs=>.ok (.int xs.length) M|none=>.bad
 |_=>.bad
theorem Z0:CO X ξ (fun xs H Q=>∃p ys,xs=[.ref p]/\(SqL X.K H p ys\/SqT X.K H p ys)/\Q (.int ys.length) H) bLen:=by
 intro H α M vs ds Q h rs q;unfold bLen at q;cases rs with
 |nil=>exact q.elim
 |@cons v x vs ds r t=>
  cases t with
  |cons _ _=>exact q.elim
  |nil=>
  cases e:Zea M x with
  |none=>simp only[e]at q;exact q.elim
  |some ys=>
   simp only[e]at q;obtain⟨p,xs,rfl,h2,h3⟩:=Ze3 h r e;exact⟨p,xs,rfl,h2,by rw[h3.length];exact q _ H α Ext.refl h (.int _)⟩
noncomputable def bAbs:W3:=fun ds M=>match ds with|[.int i]=>.ok (.int (if i<0 then -i else i)) M|_=>.bad
theorem Zbh:CO X ξ (fun xs H Q=>∃i,xs=[.int i]/\Q (.int (if i<0 then -i else i)) H) bAbs:=by
 intro H α M vs ds Q h rs q;unfold bAbs at q
 split at q
 ·cases rs with
  |cons r t=>
   cases t;cases r;exact⟨_,rfl,q _ H α Ext.refl h (.int _)⟩
 ·exact q.elim
noncomputable def bMax:W3:=fun ds M=>match ds with|[.int i,.int j]=>.ok (.int (if j>i then j else i)) M|_=>.bad
noncomputable def bMin:W3:=fun ds M=>match ds with|[.int i,.int j]=>.ok (.int (if j<i then j else i)) M|_=>.bad
theorem ZkY{g:Int->Int->Int}(hf:∀ds M,f ds M=match ds with|[.int i,.int j]=>.ok (.int (g i j)) M|_=>.bad):CO X ξ (fun xs H Q=>∃i j,xs=[.int i,.int j]/\Q (.int (g i j)) H) f:=by
 intro H α M vs ds Q h rs q;rw[hf]at q
 split at q
 ·rename_i i j;cases rs with
  |cons r t=>
   cases t with
   |cons r' t'=>
    cases t';cases r;cases r';exact⟨i,j,rfl,q _ H α Ext.refl h (.int _)⟩
 ·exact q.elim
theorem Zoy:CO X ξ (fun xs H Q=>∃i j,xs=[.int i,.int j]/\Q (.int (if j>i then j else i)) H) bMax:=ZkY (g:=fun i j=>if j>i then j else i) fun ds M=>rfl
theorem Zoz:CO X ξ (fun xs H Q=>∃i j,xs=[.int i,.int j]/\Q (.int (if j<i then j else i)) H) bMin:=ZkY (g:=fun i j=>if j<i then j else i) fun ds M=>rfl
noncomputable def Zun:W3:=fun ds M=>match ds with|[.int i]=>.ok (.int i) M|[.bl k]=>.ok (.int (if k then 1 else 0)) M|_=>.bad
def bList:W3:=fun ds M=>match ds with
 |[x]=>match Zea M x with|some xs=>.ok (.ref M.length) (M++[.lst xs])|none=>.bad
 |_=>.bad
theorem Zhw:CO X ξ (fun xs H Q=>∃p ys,xs=[.ref p]/\(SqL X.K H p ys\/SqT X.K H p ys)/\∀l,H l=none->Q (.ref l) (upd H l (.lst ys))) bList:=by
 intro H α M vs ds Q h rs q;unfold bList at q;cases rs with
 |nil=>exact q.elim
 |@cons v x vs ds r t=>
  cases t with
  |cons _ _=>exact q.elim
  |nil=>
  cases e:Zea M x with
  |none=>simp only[e]at q;exact q.elim
  |some ys=>
   simp only[e]at q;obtain⟨p,xs,rfl,h2,h3⟩:=Ze3 h r e;exact⟨p,xs,rfl,h2,fun l hl=>q _ _ (α++[l]) (Ext.new hl) (h.new hl h3) (.ref ⟨h.last l,Kn.lst Zs⟩)⟩
def Za0(M:Sto)(x:D):Option String:=match kd M x with
 |some .non=>some "NoneType"
 |some (.bl _)=>some "bool"
 |some (.int _)=>some "int"
 |some (.str _)=>some "str"
 |some (.tup _)=>some "tuple"
 |some (.lst _)=>some "list"
 |none=>none
noncomputable def ZeU(t T:String):Bool:=t==T||(t=="bool"&&T=="int")
def Zjq(T:String)(f:Ev):Ev:=fun ρ M=>(f ρ M).bind fun x M1=>match Za0 M1 x with|some t=>.ok (.bl (ZeU t T)) M1|none=>.bad
def Zuo(X:Cx)(T:String):List V->Hp->VK->Prop:=fun vs H Q=>∃v α M x t,vs=[v,.ty T]/\HR X.K H α M/\Rep X.K H α v x/\Za0 M x=some t/\Q (.bl (ZeU t T)) H
structure Kit(K:Fg) (T:String):Prop where
 non:PySem.W.kitOne K (.type "NoneType") (.type T)=some (ZeU "NoneType" T)
 bl:PySem.W.kitOne K (.type "bool") (.type T)=some (ZeU "bool" T)
 int:PySem.W.kitOne K (.type "int") (.type T)=some (ZeU "int" T)
 str:PySem.W.kitOne K (.type "str") (.type T)=some (ZeU "str" T)
 tup:PySem.W.kitOne K (.type "tuple") (.type T)=some (ZeU "tuple" T)
 lst:PySem.W.kitOne K (.type "list") (.type T)=some (ZeU "list" T)
theorem Zhx{K:Fg}:Kit K "int":=⟨rfl,rfl,rfl,rfl,rfl,rfl⟩
theorem ZfP{K:Fg}:Kit K "bool":=⟨rfl,rfl,rfl,rfl,rfl,rfl⟩
theorem Zhy{K:Fg}:Kit K "tuple":=⟨rfl,rfl,rfl,rfl,rfl,rfl⟩
theorem ZjP{K:Fg}:Kit K "list":=⟨rfl,rfl,rfl,rfl,rfl,rfl⟩
theorem ZjQ(kt:Kit X.K T):Zbm X (.builtin "isinstance") (Zuo X T):=by
 intro pins s σ H vs us Q I rs ⟨v,α,M,x,t,e1,h,rx,et,q⟩;subst e1;obtain⟨u,w,rfl,ru,rw'⟩:=ZjD rs;cases rw';unfold Za0 at et;cases ek:kd M x with
 |none=>rw[ek]at et;cases et
 |some k=>
  rw[ek]at et;have va:=vw I h rx ru ek;have fin:∀tk,EP X pins σ Q (.bool (ZeU t T)) {s with toks:=tk}:=fun tk=>⟨.bl _,H,I.tok tk,rfl,q⟩;cases va with
  |non=>cases et;exact PySem.W.kia_one PySem.W.kitx_none I.kIn True.intro kt.non (fun z=>nomatch z) fin
  |bl b=>cases et;exact PySem.W.kia_one PySem.W.kitx_bool I.kIn True.intro kt.bl (fun z=>nomatch z) fin
  |int i t=>cases et;exact PySem.W.kia_one PySem.W.kitx_int I.kIn True.intro kt.int (fun z=>nomatch z) fin
  |str i t=>cases et;exact PySem.W.kia_one PySem.W.kitx_str I.kIn True.intro kt.str (fun z=>nomatch z) fin
  |tup g _ _=>cases et;obtain⟨o,h1,h2,_⟩:=g;exact PySem.W.kia_one PySem.W.kitx_tuple I.kIn ⟨o,h1,h2⟩ kt.tup (fun z=>nomatch z) fin
  |lst g _ _=>cases et;obtain⟨o,h1,h2,_⟩:=g;exact PySem.W.kia_one PySem.W.kitx_list I.kIn ⟨o,h1,h2⟩ kt.lst (fun z=>nomatch z) fin
theorem Zc6(kt:Kit X.K T)(hm:X.mg "isinstance"=none)(hmT:X.mg y=none)(hvT:bootBuiltins y=some (.type T))(ha:DE X ξ e fa)(hg:autoParam (Gl X "isinstance") Qrf._auto_1)(hgT:autoParam (Gl X y) Qrf._auto_1)(hn:autoParam (y≠"__name__") Qde._auto_1)(hdb:autoParam ((y==("__debug__":Str))=false) Qde._auto_1)(he:autoParam (starEach [e,.Name y p2] X.env=(false,eval e X.env)::starEach [.Name y p2] X.env) Qrf._auto_1)(he2:autoParam (starEach [.Name y p2] X.env=(false,eval (.Name y p2) X.env)::starEach [] X.env) Qrf._auto_1)(hpl:autoParam ((backTo pos (starEach [.Name y p2] X.env)).any (·.1)=false) Qrf._auto_1):DE X ξ (.Call (.Name "isinstance" p) [e,.Name y p2] [] pos) (Zjq T fa):=by
 obtain⟨ta,ha,qa⟩:=ha;refine⟨_,ZfI (ZjQ kt) hg hm (by with_unfolding_all rfl) (ZeY ha (ZeY (ZlE hgT hmT hvT (v:=.ty T) rfl hn hdb) ZkO he2) he) (by decide) (by decide) he hpl,fun σ ρ H α M Q s h q=>?_⟩
 refine qa σ ρ H α M _ s h (OG.seq q fun x M1 v H1 α1 e1 h1 r1 q1=>?_);cases et:Za0 M1 x with
 |none=>simp only[et]at q1;exact q1.elim
 |some t=>
  simp only[et]at q1;exact⟨v,α1,M1,x,t,rfl,h1,r1,et,q1 _ H1 α1 Ext.refl h1 (.bl _)⟩
end
end DL
namespace DL
open PyProof.Rows L2
def CXE(P:Program)(w:World):CXT:=fun outer H s E e s'=>∃(ea C:Addr) (dct:Option Addr) (B:Heap) (H':Hp),e=.ref ea/\s'.os=s.os/\AllBare s'.gens/\Un (frs outer) [] H H' s.heap s'.heap/\HOk P w H' s'.heap/\
 DQ.Fly B outer ea (.ref C) dct .none s'.heap/\(∀b u,H' b=some u->∃o,B.get? b=some o)/\(∀b o,s.heap.get? b=some o->b∉frs outer->∃o',B.get? b=some o')/\E (.ref C) dct H'
structure Thr(X:Cx) (ξ:XK):Prop where
 own:PassesOwn (model X.prog X.w) X.A X.env X.xe
 ps:Zhb (CXE X.prog X.w) X ξ
 mak:∀(pins:Pn)(σ:L2.St)(H H':Hp)(s s':Shared)(e:Addr)(oe:Obj)(vs:Array Value)(C:Addr),Inv X pins σ H s->s'.os=s.os->AllBare s'.gens->Un (frs X.stack) [] H H' s.heap s'.heap->HOk X.prog X.w H' s'.heap->s.heap.get? e=none->s'.heap.get? e=some oe->oe.cls=.ref C->
  oe.data=.fields vs->vs[1]?=some .none->vs[2]?=some .none->H' e=none->ξ (.ref C) oe.dict H'->X.xe (.ref e) s'
theorem Zeb{h b1 b2:Heap}:∀{l:List Env},h.FunFrames b1 l->(∀b∈frs l,b2.get? b=none)->h.FunFrames b2 l
 |[],_,_=>trivial
 |env::r,⟨h1,⟨L,o,h2,h3,h4,h5⟩,h6⟩,k=>⟨h1,⟨L,o,h2,k L (by unfold frs;rw[List.filterMap_cons,h2];exact List.mem_cons_self),h4,h5⟩,Zeb h6 fun b hb=>k b (by
   unfold frs;rw[List.filterMap_cons,h2];exact List.mem_cons_of_mem _ hb)⟩
section
variable {X:Cx}{B:Heap}
theorem ZkZ(hx:X.ex=[])(I:Inv X pins σ H s)(u:Un (frs X.stack) [] H H' s.heap h1)(hok:HOk X.prog X.w H' h1)(t1:∀b q,H' b=some q->∃o,B.get? b=some o)(t2:∀b o,s.heap.get? b=some o->b∉frs X.stack->∃o',B.get? b=some o')(st1:B.StaysIn h1)(st2:B.StaysIn h2)(up:h1.UpToSlots h2):Un X.fs [] X.H₀ H' X.s₀.heap h2/\HOk X.prog X.w H' h2/\∀b o,X.s₀.heap.get? b=some o->b∉X.fs->∃o',B.get? b=some o':=by
 have kB:∀b ob o,B.get? b=some ob->h1.get? b=some o->h2.get? b=some o:=fun b ob o e x=>by
  have z:=st1 b ob e;rw[x]at z;cases z;exact st2 b _ e
 have nx:∀b,b∉X.ex:=fun b=>by rw[hx];simp
 have nL:∀b o,X.s₀.heap.get? b=some o->b∉X.fs->b∉frs X.stack:=fun b o e n z=>by
  rcases List.mem_cons.mp (I.stkSub b z)with q|q
  ·exact absurd (Hz e) (by rw[q];exact Nat.not_lt_of_le I.ok.above)
  ·exact n q
 have th:∀b o,X.s₀.heap.get? b=some o->b∉X.fs->∃o',B.get? b=some o':=fun b o e n=>by
  obtain⟨o',e'⟩:=I.base.there b o e (nx b);exact t2 b o' e' (nL b o e n)
 have sl:∀b o,X.s₀.heap.get? b=some o->X.H₀ b=none->b∈X.fs->∃sl,h2.get? b=some {o with slots:=sl}:=fun b o e n hb=>by
  obtain⟨s1,e1⟩:=I.base.slot b o e n hb (nx b);obtain⟨s2,e2⟩:=u.any e1 (I.base.free b o e n (nx b)) (by simp)
  obtain⟨_,o',g1,g2⟩:=I.ok.funs.mem hb;rw[e]at g1;cases g1;obtain⟨s3,e3⟩:=up b _ e2 g2;exact⟨s3,e3⟩
 refine⟨⟨fun b o e n hb _=>?_,fun b o e n hb _=>sl b o e n hb,fun b o e n _=>?_,fun b o e _=>?_,fun b xs e=>u.tups b xs (I.base.tups b xs e),fun b o xs e=>u.frzs b o xs (I.base.frzs b o xs e),fun b ps e=>?_⟩,fun a o e=>?_,th⟩
 ·obtain⟨ob,g⟩:=th b o e hb;exact kB b ob o g (u.keep b o (I.base.keep b o e n hb (nx b)) (I.base.free b o e n (nx b)) (nL b o e hb) (by simp))
 ·obtain⟨o',e'⟩:=I.base.there b o e (nx b);exact u.free b o' e' (I.base.free b o e n (nx b)) (by simp)
 ·by_cases hb:b∈X.fs
  ·obtain⟨s1,e1⟩:=sl b o e (I.ok.frf b hb) hb;exact⟨_,e1⟩
  ·obtain⟨ob,g⟩:=th b o e hb;exact⟨ob,st2 b ob g⟩
 ·obtain⟨m1,e1⟩:=I.base.tbls b ps e;obtain⟨m2,e2⟩:=u.tbls b _ e1;exact⟨m1++m2,by rw[e2,Array.append_assoc]⟩
 ·refine(hok a o e).stay (fun b q hb x=>?_) (fun _ q=>q) fun _ _ q=>q;have tr:∃q,H' b=some q:=by
   rcases hb with z|z
   ·exact⟨o,z▸e⟩
   ·exact⟨_,z⟩
  obtain⟨q',z⟩:=tr;obtain⟨ob,g⟩:=t1 b q' z;exact kB b ob q g x
end
theorem ZfQ(x:ZaH P w H h a o):∃ob,h.get? a=some ob:=by
 cases o with
 |lst xs=>obtain⟨_,_,_,_,e⟩:=x;exact⟨_,e⟩
 |tup xs=>obtain⟨_,_,_,ob,e,_⟩:=x;exact⟨_,e⟩
 |dK kvs=>obtain⟨_,_,_,_,o,_,_,e,_⟩:=x;exact⟨_,e⟩
 |dT kvs=>obtain⟨_,_,_,_,o,_,_,e,_⟩:=x;exact⟨_,e⟩
 |dU kvs=>obtain⟨_,_,_,_,o,_,_,e,_⟩:=x;exact⟨_,e⟩
 |set S n=>obtain⟨o,_,_,_,e,_⟩:=x;exact⟨_,e⟩
 |ins C dx fs=>obtain⟨_,_,_,e,_⟩:=x;exact⟨_,e⟩
 |own y=>exact x
 |xd fs=>obtain⟨_,⟨_,_,_,e,_⟩,_⟩:=x;exact⟨_,e⟩
 |rng lo hi=>obtain⟨_,_,_,e⟩:=x;exact⟨_,e⟩
 |frz ob u=>obtain⟨e,_⟩:=x;exact⟨_,e⟩
 |tbl ps=>exact⟨_,x.1⟩
 |met f y=>exact⟨_,(show h.get? a=some _ from x)⟩
 |ext φ=>obtain⟨_,e,_⟩:=x;exact e
def ZjR(h:Heap)(l:List Addr):Heap:=Zjo h fun b=>if b∈l then some (.own 0)else none
theorem ZfR(e:h.get? b=some o)(n:b∉l):(ZjR h l).get? b=some o:=ZfB e (if_neg n)
theorem Zhz(e:(ZjR h l).get? b=some o):h.get? b=some o/\b∉l:=by
 obtain⟨a,n⟩:=Zg2 e;refine⟨a,fun z=>?_⟩;simp only[if_pos z]at n;cases n
theorem Zec(n:b∈l):(ZjR h l).get? b=none:=by
 cases q:(ZjR h l).get? b with
 |none=>rfl
 |some o=>exact absurd n (Zhz q).2
theorem Zed{h h' b1:Heap}:∀{l:List Env},h.FunFrames b1 l->(∀b o,b∈frs l->h.get? b=some o->∃o',h'.get? b=some o'/\o'.data=o.data)->h'.FunFrames b1 l
 |[],_,_=>trivial
 |env::r,⟨h1,⟨L,o,h2,h3,h4,h5⟩,h6⟩,k=>by
  have m:frs (env::r)=L::frs r:=by unfold frs;rw[List.filterMap_cons,h2]
  obtain⟨o',g1,g2⟩:=k L o (by rw[m];exact List.mem_cons_self) h4
  exact⟨h1,⟨L,o',h2,h3,g1,fun vs=>g2▸h5 vs⟩,Zed h6 fun b o hb=>k b o (by rw[m];exact List.mem_cons_of_mem _ hb)⟩
theorem ZhA{s':Shared}(I:Inv X pins σ H s)(un:Un (frs X.stack) [] H H' s.heap s'.heap)(hok:HOk X.prog X.w H' s'.heap)(hn:s.heap.get? e=none)(he:s'.heap.get? e=some oe)(hne:H' e=none):(∀b u,H' b=some u->∃o,(ZjR s'.heap (e::frs X.stack)).get? b=some o)/\(∀b o,s.heap.get? b=some o->b∉frs X.stack->∃o',(ZjR s'.heap (e::frs X.stack)).get? b=some o')/\(ZjR s'.heap (e::frs X.stack)).StaysIn s'.heap/\s'.heap.FunFrames (ZjR s'.heap (e::frs X.stack)) X.stack/\(ZjR s'.heap (e::frs X.stack)).get? e=none:=by
 have nfr:∀b∈frs X.stack,H' b=none:=fun b hb=>by
  obtain⟨_,o',g1,g2⟩:=I.stack.mem hb;exact un.free b o' g1 (I.stkFree b hb) (by simp)
 refine⟨fun b u x=>?_,fun b o x n=>?_,fun b o x=>(Zhz x).1,Zed (Zeb I.stack fun b hb=>Zec (List.mem_cons_of_mem _ hb)) fun b o hb x=>?_,Zec (by simp)⟩
 ·obtain⟨o,g⟩:=ZfQ (hok b u x);refine⟨o,ZfR g fun z=>?_⟩;rcases List.mem_cons.mp z with z|z
  ·rw[z,hne]at x;cases x
  ·rw[nfr b z]at x;cases x
 ·obtain⟨o',g⟩:=un.there b o x (by simp)
  refine⟨o',ZfR g fun z=>?_⟩;rcases List.mem_cons.mp z with z|z
  ·rw[z,hn]at x;cases x
  ·exact n z
 ·obtain⟨sl,g⟩:=un.any x (I.stkFree b hb) (by simp)
  exact⟨_,g,rfl⟩
theorem Zk0{K:Fg}:Thr (ZfG (CXE P w) P w K mg base N qual scope f cd A outer s H E) E:=by
 refine⟨PassesOwn.leaving,fun pins σ H1 s1 e s2 I h=>?_,fun pins σ H1 H' s1 s' e oe vs C I os bare un hok hn he hc hd v1 v2 hne q=>?_⟩
 ·obtain⟨ea,C,dct,B,H2,rfl,os,bare,un,hok,fl,t1,t2,q⟩:=h;refine DQ.Zhm (outer:=outer) I.ok.frames rfl fl fun h3 f3 up=>?_;obtain⟨a1,a2,a3⟩:=ZkZ rfl I un hok t1 t2 fl.stay f3.stay up;exact⟨ea,C,dct,B,H2,rfl,os.trans I.os,bare,a1,a2,f3,t1,a3,q⟩
 ·obtain⟨t1,t2,hs,hl,hb⟩:=ZhA I un hok hn he hne;refine DQ.Zhn (s:=s') (outer:=outer) I.ok.frames rfl hl he hs hb hd v1 v2 fun h3 f3 up=>?_;obtain⟨a1,a2,a3⟩:=ZkZ rfl I un hok t1 t2 hs f3.stay up;rw[hc]at f3;exact⟨e,C,oe.dict,_,H',rfl,os.trans I.os,bare,a1,a2,f3,t1,a3,q⟩
end DL
namespace DL
open PyProof.Rows L2
def FP(K:Fg)(H:Hp)(α:List Addr)(ξ:XK)(Dn:Ends):Fl->Prop
 |.nx ρ' M'=>∀σ' H' α',Ext K H H' α α'->HR K H' α' M'->SR K H' α' σ' ρ'->Dn.nx σ' H'
 |.brk ρ' M'=>∀σ' H' α',Ext K H H' α α'->HR K H' α' M'->SR K H' α' σ' ρ'->Dn.bk σ' H'
 |.cnt ρ' M'=>∀σ' H' α',Ext K H H' α α'->HR K H' α' M'->SR K H' α' σ' ρ'->Dn.ct σ' H'
 |.ret d M'=>∀v H' α',Ext K H H' α α'->HR K H' α' M'->Rep K H' α' v d->Dn.rt v H'
 |.exc c M'=>∀C H' α',PySem.W.nsIn K mainGlobals c=some (some (.ref C))->Ext K H H' α α'->∀dct,XO K H' α' c M' dct->ξ (.ref C) dct H'
 |.bad=>False
theorem FP.ext{K:Fg}(h:FP K H α ξ Dn o)(e:Ext K H H1 α α1):FP K H1 α1 ξ Dn o:=by
 cases o with
 |nx ρ M=>exact fun σ' H' α' e'=>h σ' H' α' (e.trans e')
 |brk ρ M=>exact fun σ' H' α' e'=>h σ' H' α' (e.trans e')
 |cnt ρ M=>exact fun σ' H' α' e'=>h σ' H' α' (e.trans e')
 |ret d M=>exact fun v H' α' e'=>h v H' α' (e.trans e')
 |exc c M=>exact fun C H' α' n e'=>h C H' α' n (e.trans e')
 |bad=>exact h
def DS(X:Cx)(ξ:XK)(st:Stmt)(g:Sv):Prop:=∃t:TS,PS X st t/\∀σ ρ H α M Dn,SR X.K H α σ ρ->HR X.K H α M->FP X.K H α ξ Dn (g ρ M)->t Dn σ H
def DSs(X:Cx)(ξ:XK)(st:List Stmt)(g:Sv):Prop:=∃t:TS,PSs X st t/\∀σ ρ H α M Dn,SR X.K H α σ ρ->HR X.K H α M->FP X.K H α ξ Dn (g ρ M)->t Dn σ H
noncomputable def Z3(o:Out β)(k:β->Sto->Fl):Fl:=match o with
 |.ok a M=>k a M
 |.exc c M=>.exc c M
 |.bad=>.bad
theorem FP.seq{K:Fg}{R:Hp->List Addr->γ->β->Prop}{Q1:γ->Hp->Prop}{o:Out β}{f:β->Sto->Fl}(h:FP K H α ξ Dn (Z3 o f))(k:∀d M' v H' α',Ext K H H' α α'->HR K H' α' M'->R H' α' v d->FP K H' α' ξ Dn (f d M')->Q1 v H'):OG K R H α ξ Q1 o:=by
 cases o with
 |ok d M'=>exact fun v H' α' e hr r=>k d M' v H' α' e hr r (FP.ext (o:=f d M') h e)
 |exc c M'=>exact h
 |bad=>exact h
noncomputable def ZE(g h:Sv):Sv:=fun ρ M=>match g ρ M with
 |.nx ρ1 M1=>h ρ1 M1
 |o=>o
noncomputable def sNil:Sv:=fun ρ M=>.nx ρ M
def Z6(f:Ev):Sv:=fun ρ M=>Z3 (f ρ M) fun d M1=>.ret d M1
noncomputable def Zrj:Sv:=fun _ M=>.ret .non M
def ZbC(f:Ev):Sv:=fun ρ M=>Z3 (f ρ M) fun _ M1=>.nx ρ M1
def sIf(c:Tv)(g h:Sv):Sv:=fun ρ M=>Z3 (c ρ M) fun k M1=>if k=true then g ρ M1 else h ρ M1
abbrev Tg:=D->Ro->Option Ro
abbrev Tgs:=List D->Ro->Option Ro
noncomputable def gNm(i:Nat):Tg:=fun d ρ=>some (ρ.set i (some d))
noncomputable def gNl:Tgs:=fun ds ρ=>match ds with|[]=>some ρ|_=>none
noncomputable def gCs(g:Tg)(gs:Tgs):Tgs:=fun ds ρ=>match ds with|d::r=>(match g d ρ with|some ρ1=>gs r ρ1|none=>none)|[]=>none
noncomputable def gTp(gs:Tgs):Tg:=fun d ρ=>match d with|.tup ds=>gs ds ρ|_=>none
def ZJ(g:Tg)(f:Ev):Sv:=fun ρ M=>Z3 (f ρ M) fun d M1=>match g d ρ with|some ρ1=>.nx ρ1 M1|none=>.bad
def ZgD(i j:Nat)(fs:Av):Sv:=fun ρ M=>Z3 (fs ρ M) fun ds M1=>match ds with|[v,w]=>.nx ((ρ.set i (some v)).set j (some w)) M1|_=>.bad
def Zl7(fo fi fe:Ev):Sv:=fun ρ M=>Z3 (fe ρ M) fun d M1=>Z3 (fo ρ M1) fun o M2=>Z3 (fi ρ M2) fun i M3=>match o,i with
 |.ref n,.int k=>(match M3[n]? with
  |some (.lst xs)=>(match ixN xs.length k with|some j=>.nx ρ (M3.set n (.lst (xs.set j d)))|none=>.bad)
  |_=>.bad)
 |_,_=>.bad
section
variable {X:Cx}{ξ:XK}{st:Stmt}{sts:List Stmt}{g:Sv}{e:Expr}{f:Ev}{c:Expr}
theorem ZA:DSs X ξ [] sNil:=⟨_,ZlF,fun σ ρ H α M Dn s h q=>q σ H α Ext.refl h s⟩
theorem Zf(h1:DS X ξ st g)(h2:DSs X ξ sts h):DSs X ξ (st::sts) (ZE g h):=by
 obtain⟨t1,p1,q1⟩:=h1;obtain⟨t2,p2,q2⟩:=h2;refine⟨_,Zjy p1 p2,fun σ ρ H α M Dn s hh q=>q1 σ ρ H α M {Dn with nx:=t2 Dn} s hh ?_⟩;unfold ZE at q;cases e:g ρ M with
 |nx ρ1 M1=>rw[e]at q;exact fun σ' H' α' ex hr sr=>q2 σ' ρ1 H' α' M1 Dn sr hr (FP.ext q ex)
 |brk ρ1 M1=>rw[e]at q;exact q
 |cnt ρ1 M1=>rw[e]at q;exact q
 |ret d M1=>rw[e]at q;exact q
 |exc c M1=>rw[e]at q;exact q
 |bad=>rw[e]at q;exact q
theorem Zi(h1:DS X ξ st g):DSs X ξ [st] g:=let ⟨_,p,q⟩:=h1;⟨_,ZlG p,q⟩
theorem Zu(he:DE X ξ e f):DS X ξ (.Return (some e) pos) (Z6 f):=by
 obtain⟨t,p,q⟩:=he;exact⟨_,ZnV p,fun σ ρ H α M Dn s hh w=>q σ ρ H α M _ s hh (FP.seq w fun d M1 v H1 α1 e1 h1 r1 w1=>w1 v H1 α1 Ext.refl h1 r1)⟩
theorem ZaC(he:DE X ξ e f)(hs:autoParam (swapsWith e none pos.line X.env=pure false) Qrf._auto_1):DS X ξ (.Expr e pos) (ZbC f):=by
 obtain⟨t,p,q⟩:=he;exact⟨_,ZlH p hs,fun σ ρ H α M Dn s hh w=>q σ ρ H α M _ s hh (FP.seq w fun d M1 v H1 α1 e1 h1 r1 w1=>w1 σ H1 α1 Ext.refl h1 (s.mono e1))⟩
theorem ZZ(hc:DT X ξ c fc)(ha:DSs X ξ a g)(hb:DSs X ξ b h):DS X ξ (.If c a b pos) (sIf fc g h):=by
 obtain⟨tc,pc,qc⟩:=hc;obtain⟨ta,pa,qa⟩:=ha;obtain⟨tb,pb,qb⟩:=hb;refine⟨_,ZqY pc pa pb,fun σ ρ H α M Dn s hh w=>qc σ ρ H α M _ s hh (FP.seq w fun k M1 v H1 α1 e1 h1 r1 w1=>?_)⟩;cases r1;cases k with
 |true=>exact ZkR (qa σ ρ H1 α1 M1 Dn (s.mono e1) h1 w1)
 |false=>exact ZkQ (qb σ ρ H1 α1 M1 Dn (s.mono e1) h1 w1)
def DG(X:Cx)(tg:Expr)(g:Tg):Prop:=∃t:TG,PG X tg t/\∀v d σ ρ H α ρ' Q,SR X.K H α σ ρ->Rep X.K H α v d->g d ρ=some ρ'->(∀σ',SR X.K H α σ' ρ'->Q σ' H)->t v σ H Q
def DGs(X:Cx)(tgs:List Expr)(g:Tgs):Prop:=∃t:TGs,PGs X tgs t/\∀vs ds σ ρ H α ρ' Q,SR X.K H α σ ρ->Reps X.K H α vs ds->g ds ρ=some ρ'->(∀σ',SR X.K H α σ' ρ'->Q σ' H)->t vs σ H Q
theorem Zm(i:Nat)(hN:X.N.Nodup)(hi:autoParam (X.N[i]?=some x) Qrf._auto_1)(hx:Loc X.env.scope x:=by first|exact Or.inl rfl|exact Or.inr rfl)(hm:autoParam (X.may i=true) Qrf._auto_1)(hf:X.fn x=true\/X.env.scope.names.lookup x=some .local:=by first|exact .inl rfl|exact .inr rfl|assumption):DG X (.Name x pos) (gNm i):=by
 refine⟨_,ZlI hN hi hx hm hf,fun v d σ ρ H α ρ' Q s r e k=>?_⟩;cases e;exact k _ (s.set i r)
theorem Z8:DGs X [] gNl:=by
 refine⟨_,ZlJ,fun vs ds σ ρ H α ρ' Q s r e k=>?_⟩;cases r with
 |nil=>cases e;exact⟨rfl,k _ s⟩
 |cons _ _=>cases e
theorem Zw{g:Tg}(h1:DG X e g)(h2:DGs X es gs)(hs:autoParam ((assignEach (e::es) X.env).map (·.2)=assign e X.env::(assignEach es X.env).map (·.2)) Qrf._auto_1):DGs X (e::es) (gCs g gs):=by
 obtain⟨t1,p1,q1⟩:=h1;obtain⟨t2,p2,q2⟩:=h2;refine⟨_,Zjz p1 p2 hs,fun vs ds σ ρ H α ρ' Q s r e k=>?_⟩;cases r with
 |nil=>cases e
 |cons r rr=>
  rename_i v d vs ds;cases e1:g d ρ with
  |none=>simp only[gCs,e1]at e;cases e
  |some ρ1=>
   simp only[gCs,e1]at e;exact⟨v,vs,rfl,q1 v d σ ρ H α ρ1 _ s r e1 fun σ' s'=>q2 vs ds σ' ρ1 H α ρ' Q s' rr e k⟩
theorem ZaU(hc:X.calm=true)(h:DGs X es gs)(hn:autoParam ((assignEach es X.env).length=n) Qrf._auto_1)(hlen:∀ds ρ ρ',gs ds ρ=some ρ'->ds.length=n)(hst:autoParam ((assignEach es X.env).findIdx? (·.1)=none) Qrf._auto_1):DG X (.Tuple es k pos) (gTp gs):=by
 obtain⟨t,p,q⟩:=h;refine⟨_,ZnX hc p hn hst,fun v d σ ρ H α ρ' Q s r e k=>?_⟩;cases r with
 |@tup a xs ds hp rp=>
  have e':gs ds ρ=some ρ':=e;exact⟨a,xs,rfl,(SqT.of hp),by rw[rp.length];exact hlen ds ρ ρ' e',q xs ds σ ρ H α ρ' Q s rp e' k⟩
 |_=>cases e
theorem Z9(h:gNl ds ρ=some ρ'):ds.length=0:=by cases ds with|nil=>rfl|cons _ _=>cases h
theorem ZF{g:Tg}(h:∀ds ρ ρ',gs ds ρ=some ρ'->ds.length=n)(ds:List D)(ρ ρ':Ro)(e:gCs g gs ds ρ=some ρ'):ds.length=n+1:=by
 cases ds with
 |nil=>cases e
 |cons d r=>
  cases e1:g d ρ with
  |none=>simp only[gCs,e1]at e;cases e
  |some ρ1=>simp only[gCs,e1]at e;rw[List.length_cons,h r ρ1 ρ' e]
theorem Zo(i:Nat)(hN:X.N.Nodup)(he:DE X ξ e f)(hi:autoParam (X.N[i]?=some x) Qrf._auto_1)(hx:Loc X.env.scope x:=by first|exact Or.inl rfl|exact Or.inr rfl)(hm:autoParam (X.may i=true) Qrf._auto_1)(hs:autoParam (swapsWith e (some (.Name x pos')) pos.line X.env=pure false) Qrf._auto_1)(hf:X.fn x=true\/X.env.scope.names.lookup x=some .local:=by first|exact .inl rfl|exact .inr rfl|assumption) :
  DS X ξ (.Assign [.Name x pos'] e pos) (ZJ (gNm i) f):=by
 obtain⟨t,p,q⟩:=he;exact⟨_,ZnZ hN hi hx hm p hs hf,fun σ ρ H α M Dn s hh w=>q σ ρ H α M _ s hh (FP.seq w fun d M1 v H1 α1 e1 h1 r1 w1=>w1 _ H1 α1 Ext.refl h1 ((s.mono e1).set i r1))⟩
theorem Zk1(he:DE X ξ e f)(hg:DG X tg gt)(hs:autoParam (swapsWithSole [tg] e pos.line X.env=pure false) Qrf._auto_1)(hw:autoParam (swappedStores [tg] e X.env=pure none) Qrf._auto_1)(h1:autoParam ((assignEach [tg] X.env).map (·.2)=[assign tg X.env]) Qrf._auto_1):DS X ξ (.Assign [tg] e pos) (ZJ gt f):=by
 obtain⟨t,p,q⟩:=he;obtain⟨tt,pt,qt⟩:=hg;refine⟨_,Zg4 p pt hs hw h1,fun σ ρ H α M Dn s hh w=>q σ ρ H α M _ s hh (FP.seq w fun d M1 v H1 α1 e1 h1 r1 w1=>?_)⟩;cases eg:gt d ρ with
 |none=>simp only[eg]at w1;exact w1.elim
 |some ρ1=>
  simp only[eg]at w1;exact qt v d σ ρ H1 α1 ρ1 _ (s.mono e1) r1 eg fun σ' s'=>w1 σ' H1 α1 Ext.refl h1 s'
theorem ZfS(i j:Nat){kt k2 pt2}(hc:X.calm=true)(hN:X.N.Nodup)(ha:DA X ξ [a,b] fs)(hi:autoParam (X.N[i]?=some x) Qrf._auto_1)(hj:autoParam (X.N[j]?=some y) Qrf._auto_1)(mi:autoParam (X.may i=true) Qrf._auto_1)(mj:autoParam (X.may j=true) Qrf._auto_1)(hij:autoParam (i≠j) Qde._auto_1)(hx:autoParam (X.env.scope.names.lookup x=some .local) Qrf._auto_1)(hy:autoParam (X.env.scope.names.lookup y=some .local) Qrf._auto_1)(hw:autoParam (swappedStores [.Tuple [.Name x px,.Name y py] kt pt] (.Tuple [a,b] k2 pt2) X.env=pure (some [x,y])) Qrf._auto_1)(hs:autoParam (swapsWithSole [.Tuple [.Name x px,.Name y py] kt pt] (.Tuple [a,b] k2 pt2) pos.line X.env=pure false) Qrf._auto_1) :
  DS X ξ (.Assign [.Tuple [.Name x px,.Name y py] kt pt] (.Tuple [a,b] k2 pt2) pos) (ZgD i j fs):=by
 obtain⟨t,p,q⟩:=ha;refine⟨_,Zn0 hc mi mj hN hi hj hij hx hy p hw hs,fun σ ρ H α M Dn s hh w=>q σ ρ H α M _ s hh (FP.seq w fun ds M1 vs H1 α1 e1 h1 r1 w1=>?_)⟩
 match r1 with
 |.nil=>exact w1.elim
 |.cons _ .nil=>exact w1.elim
 |.cons _ (.cons _ (.cons _ _))=>exact w1.elim
 |.cons r (.cons r' .nil)=>exact⟨_,_,rfl,w1 _ H1 α1 Ext.refl h1 (((s.mono e1).set i r).set j r')⟩
theorem Zk2(ho:DE X ξ o fo)(hi:DE X ξ i fi)(he:DE X ξ e f)(ha:∀v,assign (.Subscript o i pos') X.env v=(do
   let ov <-holding [v] (eval o X.env)
   let iv <-holding [v,ov] (eval i X.env)
   standAt pos'
   holding [v,ov,iv] (setItem ov iv v)
   release [v,ov,iv] []):=by intro _;rfl) (hs:swapsWithSole [.Subscript o i pos'] e pos.line X.env=pure false:=by rfl) (hw:swappedStores [.Subscript o i pos'] e X.env=pure none:=by rfl) (h1:(assignEach [.Subscript o i pos'] X.env).map (·.2)=[assign (.Subscript o i pos') X.env]:=by rfl):DS X ξ (.Assign [.Subscript o i pos'] e pos) (Zl7 fo fi f):=by
 obtain⟨t,p,q⟩:=he;obtain⟨to,po,qo⟩:=ho;obtain⟨ti,pi,qi⟩:=hi;refine⟨_,Zg4 p (ZnY po pi ZjI ha) hs hw h1,fun σ ρ H α M Dn s hh w=>q σ ρ H α M _ s hh (FP.seq w fun d M1 v H1 α1 e1 h1 r1 w1=>?_)⟩;refine qo σ ρ H1 α1 M1 _ (s.mono e1) h1 (FP.seq w1 fun od M2 ov H2 α2 e2 h2 r2 w2=>?_);refine qi σ ρ H2 α2 M2 _ ((s.mono e1).mono e2) h2 (FP.seq w2 fun kd M3 kv H3 α3 e3 h3 r3 w3=>?_);cases Rep.mono e3 r2 with
 |@ref p n hp=>
  cases r3 with
  |int k=>
   cases em:M3[n]? with
   |none=>simp only[em]at w3;exact w3.elim
   |some so=>
    cases so with
    |lst ds=>
     cases ej:ixN ds.length k with
     |none=>simp only[em,ej]at w3;exact w3.elim
     |some j=>
      simp only[em,ej]at w3;obtain⟨xs,g1,g2⟩:=h3.at hp em;refine⟨p,xs,k,j,rfl,rfl,g1,by rw[g2.length];exact ej,?_⟩
      exact w3 σ _ α3 (Ext.wr g1) (h3.wr hp g1 (Reps.set (Rep.mono e3 (Rep.mono e2 r1)) j g2)) ((((s.mono e1).mono e2).mono e3).mono (Ext.wr g1))
  |_=>exact w3.elim
 |_=>exact w3.elim
noncomputable def whN(c:Tv)(g:Sv):Nat->Ro->Sto->Option Fl
 |0,_,_=>none
 |n+1,ρ,M=>match c ρ M with
  |.ok true M1=>(match g ρ M1 with
   |.nx ρ2 M2=>whN c g n ρ2 M2
   |.cnt ρ2 M2=>whN c g n ρ2 M2
   |.brk ρ2 M2=>some (.nx ρ2 M2)
   |o=>some o)
  |.ok false M1=>some (.nx ρ M1)
  |.exc e M1=>some (.exc e M1)
  |.bad=>some .bad
theorem Zci{c:Tv}{g:Sv}:∀{n:Nat}{ρ:Ro}{M:Sto}{o:Fl},whN c g n ρ M=some o->∀k,whN c g (n+k) ρ M=some o
 |0,_,_,_,e,_=>by simp only[whN]at e;cases e
 |n+1,ρ,M,o,e,k=>by
  have ek:n+1+k=(n+k)+1:=by lia
  rw[ek];unfold whN at e ⊢;cases ec:c ρ M with
  |bad=>rw[ec]at e;exact e
  |exc x M1=>rw[ec]at e;exact e
  |ok b M1=>
   rw[ec]at e;cases b with
   |false=>exact e
   |true=>
    cases eg:g ρ M1 with
    |nx ρ2 M2=>simp only[eg]at e ⊢;exact Zci e k
    |cnt ρ2 M2=>simp only[eg]at e ⊢;exact Zci e k
    |brk ρ2 M2=>simp only[eg]at e ⊢;exact e
    |ret d M2=>simp only[eg]at e ⊢;exact e
    |exc x M2=>simp only[eg]at e ⊢;exact e
    |bad=>simp only[eg]at e ⊢;exact e
open Classical in
def sWh(c:Tv)(g:Sv):Sv:=fun ρ M=>if h:∃o n,whN c g n ρ M=some o then Classical.choose h else .bad
theorem Zb1{c:Tv}{g:Sv}(e:whN c g n ρ M=some o):sWh c g ρ M=o:=by
 have hx:∃o n,whN c g n ρ M=some o:=⟨o,n,e⟩;unfold sWh;rw[dif_pos hx];obtain⟨m,em⟩:=Classical.choose_spec hx;have h1:=Zci em n;have h2:=Zci e m;rw[Nat.add_comm]at h2;rw[h1]at h2;exact Option.some.inj h2
theorem ZhB{c:Tv}{g:Sv}(e:sWh c g ρ M≠ .bad):∃n,whN c g n ρ M=some (sWh c g ρ M):=by
 by_cases hx:∃o n,whN c g n ρ M=some o
 ·obtain⟨o,n,h⟩:=hx;exact⟨n,by rw[Zb1 h];exact h⟩
 ·unfold sWh at e;rw[dif_neg hx]at e;exact absurd rfl e
theorem Zee{c:Tv}{g:Sv}{M1:Sto}(h:c ρ M=.ok false M1):sWh c g ρ M=.nx ρ M1:=Zb1 (n:=1) (by simp only[whN,h])
theorem ZfT{c:Tv}{g:Sv}{M1 M2:Sto}(h:c ρ M=.ok true M1)(h2:g ρ M1=.nx ρ2 M2)(hb:sWh c g ρ2 M2≠ .bad):sWh c g ρ M=sWh c g ρ2 M2:=by
 obtain⟨n,e⟩:=ZhB hb;exact Zb1 (n:=n+1) (by simp only[whN,h,h2];exact e)
theorem ZfU(hp:PassesOwn (model X.prog X.w) X.A X.env X.xe)(hc:DT X ξ c fc)(hb:DSs X ξ body g):DS X ξ (.While c body [] pos) (sWh fc g):=by
 obtain⟨tc,pc,qc⟩:=hc;obtain⟨tb,pb,qb⟩:=hb;refine⟨_,ZjA hp pc pb,fun σ ρ H α M Dn s hh w=>?_⟩;have nb:sWh fc g ρ M≠ .bad:=fun z=>by rw[z]at w;exact w
 obtain⟨n,en⟩:=ZhB nb;generalize sWh fc g ρ M=o at w en;refine⟨fun m σ' H'=>∃ρ' α' M',Ext X.K H H' α α'/\SR X.K H' α' σ' ρ'/\HR X.K H' α' M'/\whN fc g m ρ' M'=some o,⟨n,ρ,α,M,Ext.refl,s,hh,en⟩,?_⟩;rintro m σ1 H1 ⟨ρ1,α1,M1,e1,s1,h1,en1⟩;cases m with
 |zero=>simp only[whN]at en1;cases en1
 |succ m=>
  refine qc σ1 ρ1 H1 α1 M1 _ s1 h1 ?_;unfold whN at en1;cases ec:fc ρ1 M1 with
  |bad=>rw[ec]at en1;cases en1;exact w.elim
  |exc x M2=>
   rw[ec]at en1;cases en1;exact fun C H' α' nn ex hr=>w C H' α' nn (e1.trans ex) hr
  |ok b M2=>
   rw[ec]at en1;intro v H2 α2 e2 h2 ev;cases ev;cases b with
   |false=>
    cases en1;exact ZkQ (w σ1 H2 α2 (e1.trans e2) h2 (s1.mono e2))
   |true=>
    refine ZkR ⟨fun σ' H'=>∃ρ' α' M',Ext X.K H H' α α'/\SR X.K H' α' σ' ρ'/\HR X.K H' α' M'/\whN fc g m ρ' M'=some o,fun σ' H' z=>⟨m,Nat.lt_succ_self m,z⟩,?_⟩;refine qb σ1 ρ1 H2 α2 M2 _ (s1.mono e2) h2 ?_;have e12:=e1.trans e2;cases eg:g ρ1 M2 with
    |nx ρ2 M3=>simp only[eg]at en1;exact fun σ' H' α' ex hr sr=>⟨ρ2,α',M3,e12.trans ex,sr,hr,en1⟩
    |cnt ρ2 M3=>simp only[eg]at en1;exact fun σ' H' α' ex hr sr=>⟨ρ2,α',M3,e12.trans ex,sr,hr,en1⟩
    |brk ρ2 M3=>simp only[eg]at en1;cases en1;exact fun σ' H' α' ex hr sr=>w σ' H' α' (e12.trans ex) hr sr
    |ret d M3=>simp only[eg]at en1;cases en1;exact fun v H' α' ex hr sr=>w v H' α' (e12.trans ex) hr sr
    |exc x M3=>simp only[eg]at en1;cases en1;exact fun C H' α' nn ex hr=>w C H' α' nn (e12.trans ex) hr
    |bad=>simp only[eg]at en1;cases en1;exact w.elim
noncomputable def Zbo(tg:Tg)(g:Sv):List D->Ro->Sto->Fl
 |[],ρ,M=>.nx ρ M
 |d::r,ρ,M=>match tg d ρ with
  |none=>.bad
  |some ρ1=>(match g ρ1 M with
   |.nx ρ2 M2=>Zbo tg g r ρ2 M2
   |.cnt ρ2 M2=>Zbo tg g r ρ2 M2
   |.brk ρ2 M2=>.nx ρ2 M2
   |o=>o)
noncomputable def ZgU(tg:Tg)(g:Sv)(n:Nat):Nat->Nat->Ro->Sto->Fl
 |f,i,ρ,M=>match M[n]? with
  |some (.lst xs)=>(match xs[i]? with
   |none=>.nx ρ M
   |some d=>(match f with
    |0=>.bad
    |f+1=>(match tg d ρ with
     |none=>.bad
     |some ρ1=>(match g ρ1 M with
      |.nx ρ2 M2=>ZgU tg g n f (i+1) ρ2 M2
      |.cnt ρ2 M2=>ZgU tg g n f (i+1) ρ2 M2
      |.brk ρ2 M2=>.nx ρ2 M2
      |o=>o))))
  |none=>.bad
def Zaf(lo:Int)(n:Nat):List D:=(List.range n).map fun(i:Nat)=>D.int (lo+i)
def Zl8(tg:Tg)(g:Sv)(d:D)(ρ:Ro)(M:Sto):Fl:=match d with
 |.tup xs=>Zbo tg g xs ρ M
 |.rol xs=>Zbo tg g xs ρ M
 |.ref n=>(match M[n]? with|some (.lst xs)=>ZgU tg g n xs.length 0 ρ M|none=>.bad)
 |_=>.bad
def Zjr(tg:Tg)(f:Ev)(g:Sv):Sv:=fun ρ M=>Z3 (f ρ M) fun d M1=>Zl8 tg g d ρ M1
def Za1(tg:Tg)(fs:Av)(g:Sv):Sv:=fun ρ M=>Z3 (fs ρ M) fun ds M1=>match ds with
 |[.int j]=>if -(2^62)<=j/\j<2^62 then Zbo tg g (Zaf 0 j.toNat) ρ M1 else .bad
 |_=>.bad
def Zef(tg:Tg)(fs:Av)(g:Sv):Sv:=fun ρ M=>Z3 (fs ρ M) fun ds M1=>match ds with
 |[.int i,.int j]=>if -(2^62)<=i/\i<2^62/\ -(2^62)<=j/\j<2^62 then Zbo tg g (Zaf i (j-i).toNat) ρ M1 else .bad
 |_=>.bad
theorem ZfV{lo:Int}(h:i<n):(Zaf lo n)[i]?=some (.int (lo+i)):=by
 unfold Zaf;rw[List.getElem?_map,List.getElem?_range h];rfl
theorem Zdo{lo:Int}:(Zaf lo n).length=n:=by unfold Zaf;rw[List.length_map,List.length_range]
theorem ZhC{lo:Int}(h:i<n):(Zaf lo n).drop i=.int (lo+i)::(Zaf lo n).drop (i+1):=by
 have hl:i<(Zaf lo n).length:=by rw[Zdo];exact h
 have e:=ZfV (lo:=lo) h;rw[List.getElem?_eq_getElem hl]at e;rw[List.drop_eq_getElem_cons hl,Option.some.inj e]
theorem ZjS{tg:Expr}{gt:Tg}{tt:TG}{tb:TS}{k:Ro->Sto->Fl}(w:FP X.K H α ξ Dn o)(qt:∀v d σ ρ H α ρ' Q,SR X.K H α σ ρ->Rep X.K H α v d->gt d ρ=some ρ'->(∀σ',SR X.K H α σ' ρ'->Q σ' H)->tt v σ H Q)(qb:∀σ ρ H α M Dn,SR X.K H α σ ρ->HR X.K H α M->FP X.K H α ξ Dn (g ρ M)->tb Dn σ H){M1:Sto}(e1:Ext X.K H H1 α α1)(s1:SR X.K H1 α1 σ1 ρ1)(h1:HR X.K H1 α1 M1)(r:Rep X.K H1 α1 v d)(en:(match gt d ρ1 with|none=>Fl.bad|some ρ2=>(match g ρ2 M1 with|.nx ρ3 M3=>k ρ3 M3|.cnt ρ3 M3=>k ρ3 M3|.brk ρ3 M3=>.nx ρ3 M3|o=>o))=o)(hN:∀σ' H',(∃ρ' α' M',Ext X.K H H' α α'/\SR X.K H' α' σ' ρ'/\HR X.K H' α' M'/\k ρ' M'=o)->N σ' H'):tt v σ1 H1 fun σ2 H2=>tb {Dn with nx:=N,ct:=N,bk:=Dn.nx} σ2 H2:=by
 cases eg:gt d ρ1 with
 |none=>rw[eg]at en;cases en;exact w.elim
 |some ρ2=>
  simp only[eg]at en;refine qt v d σ1 ρ1 H1 α1 ρ2 _ s1 r eg fun σ2 s2=>qb σ2 ρ2 H1 α1 M1 _ s2 h1 ?_;cases ex:g ρ2 M1 with
  |nx ρ3 M3=>simp only[ex]at en;exact fun σ' H' α' e2 hr sr=>hN _ _ ⟨ρ3,α',M3,e1.trans e2,sr,hr,en⟩
  |cnt ρ3 M3=>simp only[ex]at en;exact fun σ' H' α' e2 hr sr=>hN _ _ ⟨ρ3,α',M3,e1.trans e2,sr,hr,en⟩
  |brk ρ3 M3=>simp only[ex]at en;cases en;exact fun σ' H' α' e2 hr sr=>w σ' H' α' (e1.trans e2) hr sr
  |ret d M3=>simp only[ex]at en;cases en;exact fun v H' α' e2 hr sr=>w v H' α' (e1.trans e2) hr sr
  |exc x M3=>simp only[ex]at en;cases en;exact fun C H' α' nn e2 hr=>w C H' α' nn (e1.trans e2) hr
  |bad=>simp only[ex]at en;cases en;exact w.elim
theorem Zk3{tg:Expr}{tt:TG}{tb:TS}{lo:Int}(qt:∀v d σ ρ H α ρ' Q,SR X.K H α σ ρ->Rep X.K H α v d->gt d ρ=some ρ'->(∀σ',SR X.K H α σ' ρ'->Q σ' H)->tt v σ H Q)(qb:∀σ ρ H α M Dn,SR X.K H α σ ρ->HR X.K H α M->FP X.K H α ξ Dn (g ρ M)->tb Dn σ H)(s:SR X.K H α σ ρ)(hh:HR X.K H α M)(w:FP X.K H α ξ Dn (Zbo gt g (Zaf lo n) ρ M)):∃W:Nat->Nat->L2.St->Hp->Prop,(∃m,W 0 m σ H)/\∀i m σ H,W i m σ H->((Itr lo n).stop i H/\Dn.nx σ H)\/((Itr lo n).go i H/\∃N:L2.St->Hp->Prop,(∀σ' H',N σ' H'->∃m',m'<m/\W (i+1) m' σ' H')/\∀x H',(Itr lo n).yld i H x H'->tt x σ H' fun σ2 H2=>tb {Dn with nx:=N,ct:=N,bk:=Dn.nx} σ2 H2):=by
 generalize ho:Zbo gt g (Zaf lo n) ρ M=o at w;refine Zg7 (fun i σ' H'=>∃ρ' α' M',Ext X.K H H' α α'/\SR X.K H' α' σ' ρ'/\HR X.K H' α' M'/\Zbo gt g ((Zaf lo n).drop i) ρ' M'=o) ⟨ρ,α,M,Ext.refl,s,hh,ho⟩ ?_ ?_
 ·rintro i σ1 H1 hi ⟨ρ1,α1,M1,e1,s1,h1,en⟩;rw[ZhC hi]at en;exact ZjS (tg:=tg) w qt qb e1 s1 h1 (.int (lo+i)) en (fun σ' H' z=>z)
 ·rintro σ1 H1 ⟨ρ1,α1,M1,e1,s1,h1,en⟩;rw[List.drop_eq_nil_of_le (by rw[Zdo];exact Nat.le_refl _)]at en
  cases en;exact w σ1 H1 α1 e1 h1 s1
theorem ZaK(hp:PassesOwn (model X.prog X.w) X.A X.env X.xe)(hm:X.mg "range"=none)(ha:DA X ξ [a] fs)(hg:DG X tg gt)(hb:DSs X ξ body g)(hgl:autoParam (Gl X "range") Qrf._auto_1)(hs:autoParam (starEach [a] X.env=[(false,eval a X.env)]) Qrf._auto_1)(hf:autoParam (∀x,foldedSetIterable (.Call (.Name "range" p) [a] [] p2) X.env x=pure x) Qin._auto_1):DS X ξ (.For tg (.Call (.Name "range" p) [a] [] p2) body [] pos) (Za1 gt fs g):=by
 obtain⟨ta,pa,qa⟩:=ha;obtain⟨tt,pt,qt⟩:=hg;obtain⟨tb,pb,qb⟩:=hb;refine⟨_,ZfE hp (ZdW hgl hm pa hs) pt pb hf,fun σ ρ H α M Dn s hh w=>qa σ ρ H α M _ s hh (FP.seq w fun ds M1 vs H1 α1 e1 h1 r1 w1=>?_)⟩
 match r1 with
 |.nil=>exact w1.elim
 |.cons r (.cons _ _)=>cases r<;>exact w1.elim
 |.cons r .nil=>
  cases r with
  |int j=>
   by_cases c: -(2^62)<=j/\j<2^62
   ·simp only[if_pos c]at w1;exact⟨j,rfl,c.1,c.2,Zk3 (tg:=tg) qt qb (s.mono e1) h1 w1⟩
   ·simp only[if_neg c]at w1;exact w1.elim
  |_=>exact w1.elim
theorem ZjT(hp:PassesOwn (model X.prog X.w) X.A X.env X.xe)(hm:X.mg "range"=none)(ha:DA X ξ [a,b] fs)(hg:DG X tg gt)(hb:DSs X ξ body g)(hgl:autoParam (Gl X "range") Qrf._auto_1)(hs:autoParam (starEach [a,b] X.env=[(false,eval a X.env),(false,eval b X.env)]) Qrf._auto_1)(hs2:autoParam (starEach [b] X.env=[(false,eval b X.env)]) Qrf._auto_1)(hf:autoParam (∀x,foldedSetIterable (.Call (.Name "range" p) [a,b] [] p2) X.env x=pure x) Qin._auto_1):DS X ξ (.For tg (.Call (.Name "range" p) [a,b] [] p2) body [] pos) (Zef gt fs g):=by
 obtain⟨ta,pa,qa⟩:=ha;obtain⟨tt,pt,qt⟩:=hg;obtain⟨tb,pb,qb⟩:=hb;refine⟨_,ZfE hp (ZdX hgl hm pa hs hs2) pt pb hf,fun σ ρ H α M Dn s hh w=>qa σ ρ H α M _ s hh (FP.seq w fun ds M1 vs H1 α1 e1 h1 r1 w1=>?_)⟩
 split at w1
 ·rename_i i j;cases r1 with
  |cons r t=>
   cases t with
   |cons r' t=>
    cases t;cases r;cases r';by_cases c: -(2^62)<=i/\i<2^62/\ -(2^62)<=j/\j<2^62
    ·simp only[if_pos c]at w1;exact⟨i,j,rfl,c,Zk3 (tg:=tg) qt qb (s.mono e1) h1 w1⟩
    ·simp only[if_neg c]at w1;exact w1.elim
 ·exact w1.elim
def Zup(K:Fg)(tl:TE):TI:=fun σ H R=>tl σ H fun x H1=>∃a,x=.ref a/\(((∃xs,SqL K H1 a xs)/\R (Itl K a) H1)\/((∃xs,SqT K H1 a xs)/\R (Itt K a) H1))
theorem Zk4(hl:PE X l tl):PI X tg l (Zup X.K tl):=by
 intro pins s σ H R I h;refine thn (hl pins s σ H _ I h) fun v s1 ⟨x,H1,I1,r1,q1⟩=>?_;obtain⟨a,e,q⟩:=q1;subst e;cases r1;have fp:∀b∈[s1.heap.objs.size],Zca X pins H1 b:=fun b hb=>by
  have e:b=s1.heap.objs.size:=by simpa using hb
  subst e;exact I1.fpOk (Nat.le_refl _) (I1.hok.fresh (Nat.le_refl _))
 rcases q with⟨⟨xs,hq⟩,q⟩|⟨⟨xs,hq⟩,q⟩
 ·obtain⟨its,rv,p,hz⟩:=I1.list hq;refine wpAny_pyIter_list p.isList ?_;exact⟨s1.heap.objs.size,[s1.heap.objs.size],_,_,H1,rfl,I1.kept (t':=s1.toks) fun b o e=>Hq _ e,Zg5 a _,⟨_,Heap.get?_push_size _ rfl,rfl,rfl⟩,fp,q⟩
 ·obtain⟨its,rv,p,hz⟩:=I1.tuple hq;refine wpAny_pyIter_tuple (show s1.heap.IsTuple a its.toArray from p) ?_;exact⟨s1.heap.objs.size,[s1.heap.objs.size],_,_,H1,rfl,I1.kept (t':=s1.toks) fun b o e=>Hq _ e,Zgt a _,⟨_,Heap.get?_push_size _ rfl,rfl,rfl⟩,fp,q⟩
theorem Zc7{f:Ev}(hp:PassesOwn (model X.prog X.w) X.A X.env X.xe)(hl:DE X ξ l f)(hg:DG X tg gt)(hb:DSs X ξ body g)(hf:autoParam (∀x,foldedSetIterable l X.env x=pure x) Qin._auto_1):DS X ξ (.For tg l body [] pos) (Zjr gt f g):=by
 obtain⟨ta,pa,qa⟩:=hl;obtain⟨tt,pt,qt⟩:=hg;obtain⟨tb,pb,qb⟩:=hb;refine⟨_,ZfE hp (Zk4 pa) pt pb hf,fun σ ρ H α M Dn s hh w=>qa σ ρ H α M _ s hh (FP.seq w fun d M1 v H1 α1 e1 h1 r1 w1=>?_)⟩;have s1:=s.mono e1;have pure_:∀(ds:List D)(xs:List V),Reps X.K H1 α1 xs ds->FP X.K H1 α1 ξ Dn (Zbo gt g ds ρ M1)->∀(i:Nat) σ' H',(∃ρ' α' M',Ext X.K H1 H' α1 α'/\SR X.K H' α' σ' ρ'/\HR X.K H' α' M'/\Zbo gt g (ds.drop i) ρ' M'=Zbo gt g ds ρ M1)->
   (∀x,xs[i]?=some x->tt x σ' H' fun σ2 H2=>tb {Dn with nx:=fun σ H=>∃ρ' α' M',Ext X.K H1 H α1 α'/\SR X.K H α' σ ρ'/\HR X.K H α' M'/\Zbo gt g (ds.drop (i+1)) ρ' M'=Zbo gt g ds ρ M1,ct:=fun σ H=>∃ρ' α' M',Ext X.K H1 H α1 α'/\SR X.K H α' σ ρ'/\HR X.K H α' M'/\Zbo gt g (ds.drop (i+1)) ρ' M'=Zbo gt g ds ρ M1,bk:=Dn.nx} σ2 H2)/\
   (i=xs.length->Dn.nx σ' H'):=by
  intro ds xs r w1 i σ' H' ⟨ρ',α',M',ex,sr,hr,en⟩;refine⟨fun x hx=>?_,fun hi=>?_⟩
  ·have hi:i<ds.length:=by rw[<-r.length];exact(List.getElem?_eq_some_iff.mp hx).1
   obtain⟨v,g1,g2⟩:=r.get (Gq hi);rw[hx]at g1;cases g1;rw[List.drop_eq_getElem_cons hi]at en;exact ZjS (tg:=tg) w1 qt qb ex sr hr (Rep.mono ex g2) en (fun σ' H' z=>z)
  ·rw[hi,r.length,List.drop_length]at en;have en':Fl.nx ρ' M'=Zbo gt g ds ρ M1:=en;rw[<-en']at w1;exact w1 σ' H' α' ex hr sr
 cases r1 with
 |@tup p xs ds hp rp=>
  have w2:FP X.K H1 α1 ξ Dn (Zbo gt g ds ρ M1):=w1;refine⟨p,rfl,.inr ⟨⟨xs,(SqT.of hp)⟩,ZlK (K:=X.K) (a:=p) (xs:=xs) (fun i σ' H'=>∃ρ' α' M',Ext X.K H1 H' α1 α'/\SR X.K H' α' σ' ρ'/\HR X.K H' α' M'/\Zbo gt g (ds.drop i) ρ' M'=Zbo gt g ds ρ M1) ⟨ρ,α1,M1,Ext.refl,s1,h1,rfl⟩ ?_ ?_ ?_⟩⟩
  ·rintro i σ' H' _ ⟨ρ',α',M',ex,_⟩;exact SqT.of (ex.tup _ _ hp)
  ·intro i x σ' H' hx z;exact(pure_ ds xs rp w2 i σ' H' z).1 x hx
  ·intro σ' H' z;exact(pure_ ds xs rp w2 _ σ' H' z).2 rfl
 |@rol p xs ds hp rp=>
  have w2:FP X.K H1 α1 ξ Dn (Zbo gt g ds ρ M1):=w1;refine⟨p,rfl,.inl ⟨⟨xs,hp.sq⟩,ZjC (K:=X.K) (a:=p) (xs:=xs) (fun i σ' H'=>∃ρ' α' M',Ext X.K H1 H' α1 α'/\SR X.K H' α' σ' ρ'/\HR X.K H' α' M'/\Zbo gt g (ds.drop i) ρ' M'=Zbo gt g ds ρ M1) ⟨ρ,α1,M1,Ext.refl,s1,h1,rfl⟩ ?_ ?_ ?_⟩⟩
  ·rintro i σ' H' _ ⟨ρ',α',M',ex,_⟩;exact(ex.rol _ _ hp).sq
  ·intro i x σ' H' hx z;exact(pure_ ds xs rp w2 i σ' H' z).1 x hx
  ·intro σ' H' z;exact(pure_ ds xs rp w2 _ σ' H' z).2 rfl
 |@ref p n hp=>
  cases em:M1[n]? with
  |none=>simp only[Zl8,em]at w1;exact w1.elim
  |some so=>
   cases so with
   |lst ds=>
    simp only[Zl8,em]at w1;obtain⟨xs0,g0,r0⟩:=h1.at hp em;generalize eo:ZgU gt g n ds.length 0 ρ M1=o at w1;refine⟨p,rfl,.inl ⟨⟨xs0,SqL.of g0⟩,fun i m σ' H'=>∃ρ' α' M',Ext X.K H1 H' α1 α'/\SR X.K H' α' σ' ρ'/\HR X.K H' α' M'/\ZgU gt g n m i ρ' M'=o,⟨ds.length,ρ,α1,M1,Ext.refl,s1,h1,eo⟩,?_⟩⟩;rintro i m σ' H' ⟨ρ',α',M',ex,sr,hr,en⟩;unfold ZgU at en;cases em2:M'[n]? with
    |none=>simp only[em2]at en;cases en;exact w1.elim
    |some so2=>
     cases so2 with
     |lst ds2=>
      simp only[em2]at en;obtain⟨xs,g1,g2⟩:=hr.at (ex.get hp) em2;cases ei:ds2[i]? with
      |none=>
       simp only[ei]at en;cases en;refine .inl ⟨⟨xs,SqL.of g1,?_⟩,w1 σ' H' α' ex hr sr⟩;rw[g2.length];exact List.getElem?_eq_none_iff.mp ei
      |some d=>
       simp only[ei]at en;obtain⟨v,k1,k2⟩:=g2.get ei;cases m with
       |zero=>cases en;exact w1.elim
       |succ m=>
        refine .inr ⟨⟨xs,v,SqL.of g1,k1⟩,fun σ2 H2=>∃ρ' α' M',Ext X.K H1 H2 α1 α'/\SR X.K H2 α' σ2 ρ'/\HR X.K H2 α' M'/\ZgU gt g n m (i+1) ρ' M'=o,fun σ2 H2 z=>⟨m,Nat.lt_succ_self m,z⟩,fun x H2 y=>?_⟩;obtain⟨ey,y⟩:=y;subst ey;have ev:=y xs (SqL.of g1);rw[k1]at ev;cases ev;exact ZjS (tg:=tg) w1 qt qb ex sr hr k2 en (fun σ' H' z=>z)
 |_=>exact w1.elim
end
noncomputable def fnF(g:Sv)(n k:Nat):W3:=fun ds M=>if ds.length=n then(match g (ds.map some++List.replicate k none) M with
 |.ret d M'=>.ok d M'
 |.nx _ M'=>.ok .non M'
 |.exc c M'=>.exc c M'
 |_=>.bad)else .bad
def spD(K:Fg)(F:W3):Sp:=fun vs H Q E=>∃ds α M,Reps K H α vs ds/\HR K H α M/\OP K H α E Q (F ds M)
theorem Zeg:∀{ds:List D}{k i:Nat}{d:D},(ds.map some++List.replicate k none)[i]?=some (some d)->ds[i]?=some d
 |[],k,i,d,h=>by
  rw[List.map_nil,List.nil_append]at h
  have:=List.mem_of_getElem? h
  rw[List.mem_replicate]at this;cases this.2
 |x::r,k,0,d,h=>by simpa using h
 |x::r,k,i+1,d,h=>by
  rw[List.map_cons,List.cons_append,List.getElem?_cons_succ]at h;rw[List.getElem?_cons_succ];exact Zeg h
theorem SR.start{K:Fg}{H:Hp}{α:List Addr}{N:List Str}{vs:List V}{ds:List D}{k:Nat}(r:Reps K H α vs ds)(hk:k=N.length-ds.length):SR K H α (start N vs) (ds.map some++List.replicate k none):=by
 unfold L2.start;refine⟨by simp only[List.length_append,List.length_map,List.length_replicate,r.length,hk],fun i d h=>?_⟩
 obtain⟨v,h1,h2⟩:=r.get (Zeg h);refine⟨v,?_,h2⟩;have hl:i<vs.length:=(List.getElem?_eq_some_iff.mp h1).1;rw[List.getElem?_append_left (by rw[List.length_map];exact hl),List.getElem?_map,h1]
 rfl
section
variable {K:Fg}
theorem ZoA{st:Stmt}(F:Fun K x qual st f fd)(S:FnScope N ps (Zl st))(hn:n=ps.length)(hm:m=N.length-n)(hb:∀(cdv:Value)(A:Around)(outer:List Env)(s:Shared)(H:Hp)(E:XK),Room k (A.deeper (envOfC qual (Zl st) s.heap.objs.size f cdv))->Thr (ZfG (CXE P w) P w K mg base N qual (Zl st) f cdv A outer s H E) E->DSs (ZfG (CXE P w) P w K mg base N qual (Zl st) f cdv A outer s H E) E (Zah st) g):FnOk P w K mg base (CXE P w) (k+1) f fd ps (spD K (fnF g n m)):=by
 obtain⟨oc,od,kV,doc,pm,an,cdv,ct,osl,rfl,lk,hcd⟩:=F.ex;refine Zoa lk hcd S (fun vs H Q E h=>?_) (fun A outer s H vs Q E hr h=>?_)
 ·obtain⟨ds,α,M,r,_,q⟩:=h;by_cases c:ds.length=n
  ·rw[r.length,c,hn]
  ·simp only[fnF,if_neg c]at q;exact q.elim
 ·obtain⟨ds,α,M,r,hh,q⟩:=h;obtain⟨t,p,w'⟩:=hb cdv A outer s H E hr Zk0;by_cases c:ds.length=n
  ·simp only[fnF,if_pos c]at q;refine⟨t,p,w' _ _ H α M _ (SR.start (N:=N) r (k:=m) (by rw[hm,c])) hh ?_⟩
   cases e:g (ds.map some++List.replicate m none) M with
   |nx ρ' M'=>simp only[e]at q;exact fun σ' H' α' ex hr sr=>q _ H' α' ex hr .non
   |ret d M'=>simp only[e]at q;exact q
   |exc x M'=>simp only[e]at q;exact q
   |brk ρ' M'=>simp only[e]at q;exact q.elim
   |cnt ρ' M'=>simp only[e]at q;exact q.elim
   |bad=>simp only[e]at q;exact q.elim
  ·simp only[fnF,if_neg c]at q;exact q.elim
end
theorem Zl9(G:FnOk X.prog X.w X.K X.mg X.base (CXE X.prog X.w) k f fd ps (spD X.K F))(T:Thr X ξ)(hr:Room k X.A)(hm:X.mg x=some (.ref f))(hk:PySem.W.keepIn X.K (.ref f)=true)(hb:ZeZ X.K fd ps [])(ha:DA X ξ (e::es) fs)(hg:autoParam (Gl X x) Qrf._auto_1)
  (hdb:(x==("__debug__":Str))=false:=by decide) (he:starEach (e::es) X.env=(false,eval e X.env)::starEach es X.env:=by rfl) (hpl:(backTo pos (starEach es X.env)).any (·.1)=false:=by rfl):DE X ξ (.Call (.Name x p) (e::es) [] pos) (Zj F fs):=by
 obtain⟨t,pa,qa⟩:=ha;refine⟨_,ZlP G hr hg hm hk hb .nil T.ps pa hdb he hpl,fun σ ρ H α M Q s hh q=>qa σ ρ H α M _ s hh (OG.seq q fun ds M1 vs H1 α1 e1 h1 r1 q1=>?_)⟩;rw[List.append_nil];exact⟨ds,α1,M1,r1,h1,q1⟩
end DL
namespace DL
open PyProof.Rows L2
theorem Zbi:bootBuiltins "abs"=some (.builtin "abs"):=by decide +kernel
theorem Zk5:bootBuiltins "int"=some (.type "int"):=by decide +kernel
theorem ZhD:bootBuiltins "bool"=some (.type "bool"):=by decide +kernel
theorem Zdp:bootBuiltins "list"=some (.type "list"):=by decide +kernel
theorem ZjU:bootBuiltins "tuple"=some (.type "tuple"):=by decide +kernel
theorem Zk6:bootBuiltins "max"=some (.builtin "max"):=by decide +kernel
theorem ZhE:bootBuiltins "min"=some (.builtin "min"):=by decide +kernel
theorem ZoB:bootBuiltins "all"=some (.builtin "all"):=by decide +kernel
def Cal(P:Program)(w:World)(K:Fg)(mg:Str->Option Value)(base:Heap)(x:Str)(k n:Nat)(F:W3):Prop:=
 ∃(f:Addr) (fd:FuncData) (ps:List Str),FnOk P w K mg base (CXE P w) k f fd ps (spD K F)/\mg x=some (.ref f)/\PySem.W.keepIn K (.ref f)=true/\ps.length=n/\ZeZ K fd ps []
theorem ZjV(C:Cal X.prog X.w X.K X.mg X.base x k n F)(T:Thr X ξ)(hr:Room k X.A)(ha:DA X ξ (e::es) fs)(hg:autoParam (Gl X x) Qrf._auto_1)(hdb:autoParam ((x==("__debug__":Str))=false) Qde._auto_1)(he:autoParam (starEach (e::es) X.env=(false,eval e X.env)::starEach es X.env) Qrf._auto_1)(hpl:autoParam ((backTo pos (starEach es X.env)).any (·.1)=false) Qrf._auto_1):DE X ξ (.Call (.Name x p) (e::es) [] pos) (Zj F fs):=by
 obtain⟨f,fd,ps,G,hm,hk,_,hb⟩:=C;exact Zl9 G T hr hm hk hb ha hg hdb he hpl
end DL
namespace DL
open PyProof.Rows L2
noncomputable def bl:List Str:=["abs","all","any","bool","dict","enumerate","int","isinstance","len","list","max","min","range","repr","reversed","sorted","str","sum","tuple","zip"]
structure Bs(mg:Str->Option Value):Prop where
 b_abs:mg "abs"=none
 b_all:mg "all"=none
 b_any:mg "any"=none
 b_bool:mg "bool"=none
 b_dict:mg "dict"=none
 b_enumerate:mg "enumerate"=none
 b_int:mg "int"=none
 b_isinstance:mg "isinstance"=none
 b_len:mg "len"=none
 b_list:mg "list"=none
 b_max:mg "max"=none
 b_min:mg "min"=none
 b_range:mg "range"=none
 b_repr:mg "repr"=none
 b_reversed:mg "reversed"=none
 b_sorted:mg "sorted"=none
 b_str:mg "str"=none
 b_sum:mg "sum"=none
 b_tuple:mg "tuple"=none
 b_zip:mg "zip"=none
theorem Bs.of{K:Fg}(X:K.In h)(G:h.Ns mainGlobals mg)(z:bl.map (PySem.W.nsIn K mainGlobals)=bl.map fun _=>some none):Bs mg:=by
 have q (x:Str) (m:x∈bl):mg x=none:=PySem.W.mg_none_of X G (List.map_inj_left.mp z x m)
 constructor<;>exact q _ (by decide +kernel)
noncomputable def Df(K:Fg)(x:Str)(st:Stmt):Prop:=∃f fd,PySem.W.nsIn K mainGlobals x=some (some (.ref f))/\Fun K x x st f fd
def Dfs(K:Fg)(p:Nat->Stmt)(L:List Rw):Prop:=
 L.map (fun r=>(PySem.W.nsIn K mainGlobals r.n,K.lookup r.f,PySem.W.codeIn K (.ref (r.f-1)) r.n,PySem.W.keepIn K (.ref r.f)))=L.map fun r=>(some (some (.ref r.f)),some (r.fo p),true,true)
theorem Dfs.of{K:Fg}(h:L.map (fun r=>(PySem.W.nsIn K mainGlobals r.n,K.lookup r.f,PySem.W.codeIn K (.ref (r.f-1)) r.n,PySem.W.keepIn K (.ref r.f)))=L.map fun r=>(some (some (.ref r.f)),some (r.fo p),true,true)):Dfs K p L:=h
theorem Dfs.at{K:Fg}(h:Dfs K p L)(j i:Nat)(e:autoParam ((L[j]?).map (fun r=>(Str.ofString r.n,r.i))=some (x,i)) Qrf._auto_1):Df K x (p i):=by
 obtain⟨r,m,e⟩:=Option.map_eq_some_iff.mp e;have q:=List.map_inj_left.mp h r (List.mem_of_getElem? m);cases e;simp only[Prod.mk.injEq]at q;exact⟨_,_,q.1,Zoh q.2.1 q.2.2.1 q.2.2.2⟩
section
variable {P:Program}{K:Fg}
theorem Zuq{α:Type}{P:List α->Prop}(h:P []):∀us:List α,us.length=0->P us
 |[],_=>h
theorem Zte{α:Type}{P:List α->Prop}(h:∀x0,P [x0]):∀us:List α,us.length=1->P us
 |[x0],_=>h x0
theorem Ztf{α:Type}{P:List α->Prop}(h:∀x0 x1,P [x0,x1]):∀us:List α,us.length=2->P us
 |[x0,x1],_=>h x0 x1
theorem Ztg{α:Type}{P:List α->Prop}(h:∀x0 x1 x2,P [x0,x1,x2]):∀us:List α,us.length=3->P us
 |[x0,x1,x2],_=>h x0 x1 x2
theorem Zur{α:Type}{P:List α->Prop}(h:∀x0 x1 x2 x3,P [x0,x1,x2,x3]):∀us:List α,us.length=4->P us
 |[x0,x1,x2,x3],_=>h x0 x1 x2 x3
theorem Zus{α:Type}{P:List α->Prop}(h:∀x0 x1 x2 x3 x4,P [x0,x1,x2,x3,x4]):∀us:List α,us.length=5->P us
 |[x0,x1,x2,x3,x4],_=>h x0 x1 x2 x3 x4
theorem Zut{α:Type}{P:List α->Prop}(h:∀x0 x1 x2 x3 x4 x5,P [x0,x1,x2,x3,x4,x5]):∀us:List α,us.length=6->P us
 |[x0,x1,x2,x3,x4,x5],_=>h x0 x1 x2 x3 x4 x5
theorem ZL{st:Stmt}(D:Df K x st)(gl:∀c v,PySem.W.nsIn K mainGlobals c=some (some v)->mg c=some v)(hb:∀(cdv:Value)(A:Around)(outer:List Env)(s:Shared)(H:Hp)(E:XK)(f:Addr),N.Nodup->Room k (A.deeper (envOfC x (Zl st) s.heap.objs.size f cdv))->Thr (ZfG (CXE P w) P w K mg base N x (Zl st) f cdv A outer s H E) E->DSs (ZfG (CXE P w) P w K mg base N x (Zl st) f cdv A outer s H E) E (Zah st) g)(h1:autoParam ((Zl st).kind=.function) Qrf._auto_1)(h2:autoParam ((Zl st).isCoroutine=false) Qrf._auto_1)(h3:autoParam ((Zl st).isGenerator=false) Qrf._auto_1)(h4:N.Nodup:=by decide +kernel)(h5:autoParam ((N.take n).length=n) Qrf._auto_1)(h6:∀y∈N.take n,(Zl st).names.lookup y=some .local\/(Zl st).names.lookup y=some .cell:=by decide +kernel)(h7:∀y∈(Zl st).names,y.2≠ .free:=by decide +kernel)(hm:autoParam (m=N.length-n) Qrf._auto_1)(bi:∀(kV doc pm:Value)(an:Option Addr)(cdv ct:Value)(us:List Value),us.length=n->bindArgs (PySem.W.fnOf x x (ZaW st) (Zah st) (Zl st) .none kV doc pm an cdv ct) ⟨us,[]⟩=pure ((N.take n).zip us):=by first|exact fun _ _ _ _ _ _=>Zte fun _=>rfl|exact fun _ _ _ _ _ _=>Ztf fun _ _=>rfl|exact fun _ _ _ _ _ _=>Ztg fun _ _ _=>rfl|exact fun _ _ _ _ _ _=>Zur fun _ _ _ _=>rfl|exact fun _ _ _ _ _ _=>Zus fun _ _ _ _ _=>rfl|exact fun _ _ _ _ _ _=>Zut fun _ _ _ _ _ _=>rfl|exact fun _ _ _ _ _ _=>Zuq rfl):Cal P w K mg base x (k+1) n (fnF g n m):=by
 obtain⟨f,fd,a,F⟩:=D;have S:FnScope N (N.take n) (Zl st):=⟨h1,h2,h3,h4,by rw[h5],h6,h7⟩
 exact⟨f,fd,N.take n,ZoA F S h5.symm hm (fun cdv A outer s H E hr θ=>hb cdv A outer s H E f h4 hr θ),gl _ _ a,F.kp,h5,F.binds (fun kV doc pm an cdv ct us hu=>bi kV doc pm an cdv ct us (hu.trans h5))⟩
theorem Zh(C:Cal X.prog X.w X.K X.mg X.base x k n F)(T:Thr X ξ)(hr:Room j X.A)(ha:DA X ξ (e::es) fs)(hj:autoParam (k<=j) Qde._auto_1)(hg:autoParam (Gl X x) Qrf._auto_1)(hdb:autoParam ((x==("__debug__":Str))=false) Qde._auto_1)(he:autoParam (starEach (e::es) X.env=(false,eval e X.env)::starEach es X.env) Qrf._auto_1)(hpl:autoParam ((backTo pos (starEach es X.env)).any (·.1)=false) Qrf._auto_1):DE X ξ (.Call (.Name x p) (e::es) [] pos) (Zj F fs):=ZjV C T (hr.mono hj) ha hg hdb he hpl
theorem ZoC{l:PySem.W.OpenLaw}{st:Stmt}(X:K.In h)(G:h.Ns mainGlobals mg)(hfa:mg "law"=some (.ref fa))(D:Df K "law" st)(b:∀(kV doc pm:Value)(an:Option Addr)(cdv ct:Value)(v:Value),bindArgs (PySem.W.fnOf "law" "law" (ZaW st) (Zah st) (Zl st) .none kV doc pm an cdv ct) ⟨[v],[]⟩=pure [(y,v)])(q:∀base fd,Fun K "law" "law" st fa fd->FnOk l.prog w K mg base (CXE l.prog w) k fa fd [y] (spD K F)):∃fd:FuncData,(∀(s:Shared)(v:Value),BindsTo s fd ⟨[v],[]⟩ [(y,v)])/\∀base:Heap,K.In base->base.Ns mainGlobals mg->FnOk l.prog w K mg base (CXE l.prog w) k fa fd [y] (spD K F):=by
 obtain⟨f,fd,a,F⟩:=D;have e:=hfa.symm.trans (PySem.W.mg_of X G a);cases e;refine⟨fd,?_,fun base _ _=>q base fd F⟩;obtain⟨oc,od,kV,doc,pm,an,cdv,ct,osl,rfl,lk,hcd⟩:=F.ex;exact fun s v=>.of_eq (b kV doc pm an cdv ct v)
end
end DL
namespace DL
open PyProof.Rows L2
inductive Src where
 |pur (ds:List D)
 |sto (n:Nat)
 |zip (n m:Nat)
 |enu (n:Nat)
 |rev (n l:Nat)
 |zips (ns:List Nat)
 |dct (n:Nat)
 |zipT (n:Nat) (es:List D)
def ZhF(M:Sto)(i:Nat):List Nat->Option (Option (List D))
 |[]=>some (some [])
 |n::ns=>match M[n]? with
  |none=>none
  |some (.lst xs)=>match ZhF M i ns with
   |none=>none
   |some r=>match xs[i]?,r with|some x,some ds=>some (some (x::ds))|_,_=>some none
def nxt(src:Src)(i:Nat)(M:Sto):Option (Option D):=match src with
 |.pur ds=>some ds[i]?
 |.sto n=>match M[n]? with|some (.lst xs)=>some xs[i]?|none=>none
 |.zip n m=>match M[n]?,M[m]? with
  |some (.lst xs),some (.lst ys)=>(match xs[i]?,ys[i]? with|some x,some y=>some (some (.tup [x,y]))|_,_=>some none)
  |_,_=>none
 |.enu n=>match M[n]? with|some (.lst xs)=>(match xs[i]? with|some x=>some (some (.tup [.int i,x]))|none=>some none)|none=>none
 |.zipT n es=>match M[n]? with|some (.lst xs)=>(match xs[i]?,es[i]? with|some x,some y=>some (some (.tup [x,y]))|_,_=>some none)|none=>none
 |.dct n=>match M[n]? with|some (.lst (.non::r))=>(match r[i]? with|some (.tup (k::_))=>some (some k)|some _=>none|none=>some none)|_=>none
 |.zips ns=>match ZhF M i ns with|some (some ds)=>some (some (.tup ds))|some none=>some none|none=>none
 |.rev n l=>match M[n]? with|some (.lst xs)=>if i<l then(match xs[l-1-i]? with|some x=>some (some x)|none=>none)else(if i=l then some none else none)|none=>none
def cnt(src:Src)(M:Sto):Nat:=match src with
 |.pur ds=>ds.length
 |.sto n=>match M[n]? with|some (.lst xs)=>xs.length|none=>0
 |.zip n _=>match M[n]? with|some (.lst xs)=>xs.length|none=>0
 |.enu n=>match M[n]? with|some (.lst xs)=>xs.length|none=>0
 |.rev _ l=>l
 |.zipT n _=>match M[n]? with|some (.lst xs)=>xs.length|none=>0
 |.dct n=>match M[n]? with|some (.lst xs)=>xs.length|none=>0
 |.zips ns=>match ns with|n::_=>(match M[n]? with|some (.lst xs)=>xs.length|none=>0)|[]=>0
def Ats(H:Hp)(α:List Addr):List Nat->List Addr->Prop
 |[],[]=>True
 |n::ns,l::ls=>RefK H α 0 n l/\Ats H α ns ls
 |_,_=>False
def Zjs(K:Fg)(H:Hp)(α:List Addr)(J:It)(src:Src):Prop:=∀(i:Nat) H' α' M',Ext K H H' α α'->HR K H' α' M'->match nxt src i M' with
 |some none=>J.stop i H'
 |some (some d)=>J.go i H'/\∀x H'',J.yld i H' x H''->Ext K H' H'' α' α'/\HR K H'' α' M'/\Rep K H'' α' x d
 |none=>True
def DI(X:Cx)(ξ:XK)(tg iter:Expr)(f:Ro->Sto->Out Src):Prop:=∃wi:TI,PI X tg iter wi/\∀σ ρ H α M R,SR X.K H α σ ρ->HR X.K H α M->OG X.K (Zjs X.K) H α ξ R (f ρ M)->wi σ H R
def iR1(fs:Av):Ro->Sto->Out Src:=fun ρ M=>(fs ρ M).bind fun ds M1=>match ds with
 |[.int j]=>if -(2^62)<=j/\j<2^62 then .ok (.pur (Zaf 0 j.toNat)) M1 else .bad
 |_=>.bad
theorem Zc8{K:Fg}{lo:Int}:Zjs K H α (Itr lo n) (.pur (Zaf lo n)):=by
 intro i H' α' M' ex hr;show match some (Zaf lo n)[i]? with|some none=>_|some (some d)=>_|none=>True
 by_cases h:i<n
 ·rw[ZfV h];refine⟨h,fun x H'' y=>?_⟩;obtain⟨e1,e2⟩:=y;subst e1 e2;exact⟨Ext.refl,hr,.int _⟩
 ·rw[List.getElem?_eq_none (by rw[Zdo];lia)]
  exact Nat.le_of_not_lt h
theorem ZhG(hm:X.mg "range"=none)(ha:DA X ξ [a] fs)(hgl:autoParam (Gl X "range") Qrf._auto_1)(hs:autoParam (starEach [a] X.env=[(false,eval a X.env)]) Qrf._auto_1):DI X ξ tg (.Call (.Name "range" p) [a] [] pos) (iR1 fs):=by
 obtain⟨ta,pa,qa⟩:=ha;refine⟨_,ZdW hgl hm pa hs,fun σ ρ H α M R s hh q=>qa σ ρ H α M _ s hh (OG.seq q fun ds M1 vs H1 α1 e1 h1 r1 w1=>?_)⟩
 match r1 with
 |.nil=>exact w1.elim
 |.cons r (.cons _ _)=>cases r<;>exact w1.elim
 |.cons r .nil=>
  cases r with
  |int j=>
   by_cases c: -(2^62)<=j/\j<2^62
   ·simp only[if_pos c]at w1;exact⟨j,rfl,c.1,c.2,w1 _ H1 α1 Ext.refl h1 Zc8⟩
   ·simp only[if_neg c]at w1;exact w1.elim
  |_=>exact w1.elim
def iSq(f:Ev):Ro->Sto->Out Src:=fun ρ M=>(f ρ M).bind fun d M1=>match d with
 |.tup ds=>.ok (.pur ds) M1
 |.rol ds=>.ok (.pur ds) M1
 |.con ds=>.ok (.pur ds) M1
 |.ref n=>.ok (.sto n) M1
 |_=>.bad
theorem Za2(ha:DE X ξ a f):DI X ξ tg a (iSq f):=by
 obtain⟨ta,pa,qa⟩:=ha;refine⟨_,Zk4 pa,fun σ ρ H α M R s hh q=>qa σ ρ H α M _ s hh (OG.seq q fun d M1 v H1 α1 e1 h1 r1 w1=>?_)⟩;cases r1 with
 |@tup p xs ds hp rp=>
  refine⟨p,rfl,.inr ⟨⟨xs,(SqT.of hp)⟩,w1 (Itt X.K p) H1 α1 Ext.refl h1 ?_⟩⟩;intro i H' α' M' ex hr;show match some ds[i]? with|some none=>_|some (some d)=>_|none=>True
  cases ei:ds[i]? with
  |none=>exact⟨xs,SqT.of (ex.tup _ _ hp),by rw[rp.length];exact List.getElem?_eq_none_iff.mp ei⟩
  |some d=>
   obtain⟨v,k1,k2⟩:=rp.get ei;refine⟨⟨xs,v,SqT.of (ex.tup _ _ hp),k1⟩,fun x H'' y=>?_⟩;obtain⟨ey,y⟩:=y;have z:=y xs (SqT.of (ex.tup _ _ hp));rw[k1]at z;cases z;subst ey;exact⟨Ext.refl,hr,Rep.mono ex k2⟩
 |@con p xs ds hp rp=>
  refine⟨p,rfl,.inr ⟨⟨xs,hp.sq⟩,w1 (Itt X.K p) H1 α1 Ext.refl h1 ?_⟩⟩;intro i H' α' M' ex hr;show match some ds[i]? with|some none=>_|some (some d)=>_|none=>True
  cases ei:ds[i]? with
  |none=>exact⟨xs,hp.sq,by rw[rp.length];exact List.getElem?_eq_none_iff.mp ei⟩
  |some d=>
   obtain⟨v,k1,k2⟩:=rp.get ei;refine⟨⟨xs,v,hp.sq,k1⟩,fun x H'' y=>?_⟩;obtain⟨ey,y⟩:=y;have z:=y xs hp.sq;rw[k1]at z;cases z;subst ey;exact⟨Ext.refl,hr,Rep.mono ex k2⟩
 |@rol p xs ds hp rp=>
  refine⟨p,rfl,.inl ⟨⟨xs,hp.sq⟩,w1 (Itl X.K p) H1 α1 Ext.refl h1 ?_⟩⟩;intro i H' α' M' ex hr;show match some ds[i]? with|some none=>_|some (some d)=>_|none=>True
  have hq:=(ex.rol _ _ hp).sq;cases ei:ds[i]? with
  |none=>exact⟨xs,hq,by rw[rp.length];exact List.getElem?_eq_none_iff.mp ei⟩
  |some d=>
   obtain⟨v,k1,k2⟩:=rp.get ei;refine⟨⟨xs,v,hq,k1⟩,fun x H'' y=>?_⟩;obtain⟨ey,y⟩:=y;have z:=y xs hq;rw[k1]at z;cases z;subst ey;exact⟨Ext.refl,hr,Rep.mono ex k2⟩
 |@ref p n hp=>
  obtain⟨xs0,g0⟩:=h1.some_at hp;refine⟨p,rfl,.inl ⟨⟨xs0,SqL.of g0⟩,w1 (Itl X.K p) H1 α1 Ext.refl h1 ?_⟩⟩;intro i H' α' M' ex hr;show match(match M'[n]? with|some (.lst xs)=>some xs[i]?|none=>none)with|some none=>_|some (some d)=>_|none=>True
  cases em:M'[n]? with
  |none=>exact True.intro
  |some so=>
   cases so with
   |lst ds=>
    obtain⟨xs,g1,g2⟩:=hr.at (ex.get hp) em;show match some ds[i]? with|some none=>_|some (some d)=>_|none=>True
    cases ei:ds[i]? with
    |none=>exact⟨xs,SqL.of g1,by rw[g2.length];exact List.getElem?_eq_none_iff.mp ei⟩
    |some d=>
     obtain⟨v,k1,k2⟩:=g2.get ei;refine⟨⟨xs,v,SqL.of g1,k1⟩,fun x H'' y=>?_⟩;obtain⟨ey,y⟩:=y;have z:=y xs (SqL.of g1);rw[k1]at z;cases z;subst ey;exact⟨Ext.refl,hr,k2⟩
 |_=>exact w1.elim
noncomputable def blk(X:Cx)(scope:Scope)(cl:List (Str×Addr))(N:List Str)(C:Addr)(fp:List Addr)(s:Shared)(H:Hp):Cx:=
 {X with N:=N,s₀:=s,H₀:=H,env:=compEnvC scope cl C X.env,outer:=X.stack,stack:=X.stack,ex:=fp,fn:=fun _=>false,pn:=[],xe:=fun _ _=>False,fxs:=none}
theorem ZbK:Thr (blk X scope cl N C fp s H) E0:=
 ⟨PassesOwn.never,fun _ _ _ _ _ _ _ ⟨_,_,_,_,_,_,_,_,_,_,_,_,_,q⟩=>q,fun _ _ _ _ _ _ _ _ _ _ _ _ _ _ _ _ _ _ _ _ _ _ q=>q⟩
def Zcj(src:Src)(tg:Tg)(c:Tv)(f:Ev)(n:Nat):Nat->Nat->Ro->Sto->Out Unit
 |fuel,i,ρ,M=>match nxt src i M with
  |none=>.bad
  |some none=>.ok () M
  |some (some d)=>(match fuel with
   |0=>.bad
   |fuel+1=>(match tg d ρ with
    |none=>.bad
    |some ρ1=>(match c ρ1 M with
     |.ok true M1=>(match f ρ1 M1 with
      |.ok x M2=>(match M2[n]? with
       |some (.lst xs)=>if xs.length<10000000 then Zcj src tg c f n fuel (i+1) ρ1 (M2.set n (.lst (xs++[x])))else .bad
       |none=>.bad)
      |_=>.bad)
     |.ok false M1=>Zcj src tg c f n fuel (i+1) ρ1 M1
     |_=>.bad)))
noncomputable def roB(k:Nat)(fr:List Nat)(ρ:Ro):Ro:=List.replicate k none++fr.map fun i=>(ρ[i]?).join
def Zal(fi:Ro->Sto->Out Src)(k:Nat)(fr:List Nat)(tg:Tg)(c:Tv)(f:Ev):Ev:=fun ρ M=>(fi ρ M).bind fun src M1=>match Zcj src tg c f M1.length (cnt src M1) 0 (roB k fr ρ) (M1++[.lst []])with
 |.ok _ M2=>.ok (.ref M1.length) M2
 |_=>.bad
structure Blk(X:Cx) (scope:Scope) (cl:List (Str×Addr)) (N:List Str) (k:Nat) (fr:List Nat):Prop where
 clos:closureFor scope X.env=pure cl
 kind:scope.kind=.function
 cell:∀y∈scope.names,y.2≠ .cell
 names:∀y∈scope.names,y.2=.local->scope.names.lookup y.1=some .local
 sub:∀x c,cl.lookup x=some c->X.env.cells.lookup x=some c
 has:∀x,((relabel scope X.env).names.lookup x=some .cell\/(relabel scope X.env).names.lookup x=some .free)->∃c,cl.lookup x=some c
 len:N.length=k+fr.length
 at_:∀(j i:Nat),fr[j]?=some i->∃x,N[k+j]?=some x/\X.N[i]?=some x/\X.env.kindOf x=some .cell/\((relabel scope X.env).names.lookup x=some .cell\/(relabel scope X.env).names.lookup x=some .free)/\cl.lookup x=X.env.cells.lookup x
theorem Zeh(I:Nat->Shared->Prop)(turn:∀n s,I n s->wpAny (model prog w) A (pyNext it) (fun r s₁=>match r with
   |none=>R (.ok .next) s₁
   |some v=>wpAny (model prog w) A (letOwnedTupleGo target it v) (fun _ s₁=>wpAny (model prog w) A (assign target env v) (fun _ s₂=>
     wpAny (model prog w) A (forIn ifs true fun c r=>if r=true then do let ok <-isTrue c env (eval c env);pure (ForInStep.yield ok)else pure (ForInStep.yield r)) (fun ok s₃=>
      if ok=true then wpAny (model prog w) A (eval elt env) (fun x s₄=>wpAny (model prog w) A (call (.builtin "list.append") [acc,x]) (fun _ s₅=>∃m,m<n/\I m s₅) (fun _ _=>False) s₄) (fun _ _=>False) s₃
      else ∃m,m<n/\I m s₃) (fun _ _=>False) s₂) (fun _ _=>False) s₁) (fun _ _=>False) s₁) (fun _ _=>False) s) (n:Nat) (h:I n s) :
  codeAny (model prog w) A (.compLoop (.ListComp elt [⟨target,iter,ifs,0⟩] scope pos) 0 it acc env) R s:=by
 refine codeAny_loop rfl I (fun n s hI=>?_) n h;show wpAny _ A ((compTurn (.ListComp elt [⟨target,iter,ifs,0⟩] scope pos) 0 it acc env).onRaise (fun x=>do noteFrame x env;theTreesLotGoes x)) _ _ s
 refine wpAny_noted ?_;rw[compTurn_list];refine Wb (wpAny_standAt (Wb (wpAny_mono (turn n s hI) (fun r s₁ h₁=>?_) fun _ _ h'=>h'.elim)));cases r with
 |none=>exact Wp h₁
 |some v=>
  refine Wb (wpAny_mono h₁ (fun _ s₁ h₁=>?_) fun _ _ h'=>h'.elim);refine Wb (wpAny_mono h₁ (fun _ s₂ h₂=>Wb (wpAny_mono h₂ (fun ok s₃ h₃=>?_) fun _ _ h'=>h'.elim)) fun _ _ h'=>h'.elim);cases ok with
  |false=>exact Wp ⟨rfl,h₃⟩
  |true=>
   exact Wb (Wb (wpAny_mono h₃ (fun x s₄ h₄=>Wb (wpAny_mono h₄ (fun _ s₅ h₅=>Wp (Wp ⟨rfl,h₅⟩)) fun _ _ h'=>h'.elim)) fun _ _ h'=>h'.elim))
def DC(X:Cx)(ifs:List Expr)(c:Tv):Prop:=(ifs=[]/\c=fun _ M=>.ok true M)\/∃e,ifs=[e]/\DT X E0 e c
theorem ZfW(B:Blk X scope cl N k fr)(I:Inv X pins σ H s)(hf:∀b∈fp,Zca X pins H b)(hlt:∀b∈fp,b<s.heap.objs.size):(blk X scope cl N s.heap.objs.size fp s H).Ok where
 mod:=I.ok.mod
 kind:=B.kind
 glob:=I.ok.glob
 blt:=I.ok.blt
 above:=Nat.le_refl _
 inj:=fun x y c h1 h2=>I.ok.inj x y c (B.sub x c h1) (B.sub y c h2)
 has:=fun x h=>B.has x h
 cab:=fun x c h=>(by cases h)
 hd:=I.ok.hd
 frames:=I.ok.frames
 stk:=.inl rfl
 exf:=fun b hb=>⟨Nat.ne_of_lt (hlt b hb),fun x c h=>(hf b hb).2.2.2.2.1 x c (B.sub x c h)⟩
 bs:=I.bs
 bsz:=Nat.le_trans I.ok.bsz I.sz
 noex:=fun b o e hb=>by
  rcases(hf b hb).2.2.2.1 with z|z
  ·exact I.ok.noex b o e z
  ·exact absurd (Nat.lt_of_lt_of_le (Hz (I.ok.bs b o e).1) z) (Nat.lt_irrefl _)
 exfs:=fun b hb z=>by
  rcases List.mem_cons.mp (I.stkSub b z)with e|e
  ·exact(hf b hb).2.1 e
  ·exact(hf b hb).2.2.1 e
 funs:=I.stack
 frf:=I.stkFree
 tb:=I.ok.tb.un I.base
theorem join_some{α:Type}{o:Option (Option α)}{v:α}(h:o.join=some v):o=some (some v):=by
 cases o with
 |none=>cases h
 |some x=>cases x with
  |none=>cases h
  |some y=>cases h;rfl
theorem Zma(h:(roB k fr ρ)[i]?=some (some d)):∃j r,i=k+j/\fr[j]?=some r/\ρ[r]?=some (some d):=by
 unfold roB at h;by_cases hi:i<k
 ·rw[List.getElem?_append_left (by rw[List.length_replicate];exact hi)]at h
  have:=List.mem_of_getElem? h
  rw[List.mem_replicate]at this;cases this.2
 ·rw[List.getElem?_append_right (by rw[List.length_replicate];lia),List.length_replicate,List.getElem?_map]at h
  cases e:fr[i-k]? with
  |none=>rw[e]at h;cases h
  |some r=>
   rw[e]at h;exact⟨i-k,r,by lia,e,join_some (Option.some.inj h)⟩
noncomputable def stB(k:Nat)(fr:List Nat)(σ:L2.St):L2.St:=List.replicate k none++fr.map fun i=>(σ[i]?).join
theorem ZhH(h:(stB k fr σ)[i]?=some (some d)):∃j r,i=k+j/\fr[j]?=some r/\σ[r]?=some (some d):=by
 unfold stB at h;by_cases hi:i<k
 ·rw[List.getElem?_append_left (by rw[List.length_replicate];exact hi)]at h
  have:=List.mem_of_getElem? h
  rw[List.mem_replicate]at this;cases this.2
 ·rw[List.getElem?_append_right (by rw[List.length_replicate];lia),List.length_replicate,List.getElem?_map]at h
  cases e:fr[i-k]? with
  |none=>rw[e]at h;cases h
  |some r=>
   rw[e]at h;exact⟨i-k,r,by lia,e,join_some (Option.some.inj h)⟩
theorem SR.blk{K:Fg}(h:SR K H α σ ρ):SR K H α (stB k fr σ) (roB k fr ρ):=by
 refine⟨by simp[stB,roB],fun i d e=>?_⟩
 obtain⟨j,r,rfl,e1,e2⟩:=Zma e;obtain⟨v,e3,e4⟩:=h.2 r d e2;refine⟨v,?_,e4⟩;unfold stB;rw[List.getElem?_append_right (by rw[List.length_replicate];lia),List.length_replicate,List.getElem?_map,Nat.add_sub_cancel_left,e1]
 show some (σ[r]?).join=_;rw[e3];rfl
theorem Ze4(B:Blk X scope cl N k fr)(I:Inv X pins σ H s)(hf:∀b∈fp,Zca X pins H b)(hlt:∀b∈fp,b<s.heap.objs.size)(hn:h1.Ns s.heap.objs.size m)(hk:∀b o,s.heap.get? b=some o->h1.get? b=some o):Inv (blk X scope cl N s.heap.objs.size fp s H) [] (stB k fr σ) H {s with heap:=h1,toks:=tk} where
 ok:=ZfW B I hf hlt
 os:=rfl
 bare:=I.bare
 base:=Un.kept hk
 loc:=by
  refine⟨m,hn,fun i x v e1 e2 e3=>?_⟩;obtain⟨j,r,rfl,g1,g2⟩:=ZhH e2;obtain⟨y,k1,k2,k3,k4,k5⟩:=B.at_ j r g1;have exy:x=y:=Option.some.inj (e1.symm.trans k1);subst exy;obtain⟨m0,hm0,hl⟩:=I.loc;obtain⟨u,ru,lk⟩:=hl r x v k2 g2 (.inr (.inl k3));refine⟨u,ru,?_⟩;rcases lk with⟨z,_⟩|⟨_,c,z1,⟨o,z2,z3⟩⟩
  ·rw[k3]at z;cases z
  ·exact .inr ⟨k4,c,k5.trans z1,⟨o,hk _ _ z2,z3⟩⟩
 cell:=fun x c h=>by
  obtain⟨v,o,e1,e2⟩:=I.cell x c (B.sub x c h);exact⟨v,o,hk _ _ e1,e2⟩
 free:=I.fresh
 freeC:=fun x c h=>I.freeC x c (B.sub x c h)
 pin:=fun p hp=>(by simp[blk]at hp)
 hok:=I.hok.kept hk
 len:=by
  show(stB k fr σ).length=N.length;rw[B.len];simp[stB]
 qd:=I.qd
 fx:=.free rfl
theorem Zdq(B:Blk X scope cl N k fr)(I3:Inv X pins σ H3 s3)(f3:∀b∈fp,Zca X pins H3 b)(I6:Inv (blk X scope cl N s3.heap.objs.size fp s3 H3) [] σ5 H5 s6):Inv X pins σ H5 s6/\∀(σ':L2.St)(s8:Shared)(h':Heap),Inv X pins σ' H5 s8->(∀b o,b≠s3.heap.objs.size->s8.heap.get? b=some o->h'.get? b=some o)->Inv X pins σ' H5 {s8 with heap:=h',toks:=s8.toks}:=by
 refine⟨I3.call' (s':=s6) (ch:=fp) I6.os I6.base I6.hok I6.bare fun b hb=>?_,fun σ' s8 h' I8 sb=>?_⟩
 ·obtain⟨_,z1,z2,z3,z4,z5⟩:=f3 b hb;exact⟨z3,z1,z4,z5⟩
 ·exact I8.turned (it:=s3.heap.objs.size) sb I6.free (Nat.ne_of_gt I3.lt) (.inr I3.sz)
   (fun x c h z=>by
    obtain⟨v,o,e,_⟩:=I3.cell x c h;exact absurd (Hz e) (by rw[z];exact Nat.lt_irrefl _)) (fun p hp z=>by
    have:=(I3.pin p hp).1
    exact absurd (Hz this) (by rw[z];exact Nat.lt_irrefl _))
def CmI(Y:Cx)(fp:List Addr)(tn:Nat->Heap->Prop)(H3:Hp)(α3:List Addr)(g:Nat->Nat->Ro->Sto->Prop)(n:Nat)(s':Shared):Prop:=
 ∃i σ' ρ' H' α' M',Inv Y [] σ' H' s'/\tn i s'.heap/\(∀b∈fp,H' b=none)/\SR Y.K H' α' σ' ρ'/\HR Y.K H' α' M'/\Ext Y.K H3 H' α3 α'/\g n i ρ' M'
theorem Zdr{D:Addr}(T:Turn Y.prog Y.w Y.K Y.A tg J fp it tn)(hxe:∀x y,Y.xe x y->False)(fp5:∀{H':Hp},(∀b∈fp,H' b=none)->∀b∈fp,Zca Y [] H' b)(hg:DG Y tg gt)(tst:DC Y ifs c)(he:DE Y E0 elt f)(sc:Zjs Y.K H3 α3 J src)(aD:RefK H3 α3 0 n0 D)(I4:Inv Y [] σ0 H3 s4)(st4:tn 0 s4.heap)(fr4:∀b∈fp,H3 b=none)(sr:SR Y.K H3 α3 σ0 ρ0)(h3:HR Y.K H3 α3 M3)(er:Zcj src gt c f n0 fuel 0 ρ0 M3=.ok u9 M9)(post:∀σ5 H5 α5 s6,Inv Y [] σ5 H5 s6->Ext Y.K H3 H5 α3 α5->HR Y.K H5 α5 M9->R (.ok .next) s6):codeAny (model Y.prog Y.w) Y.A (.compLoop (.ListComp elt [⟨tg,iter,ifs,0⟩] scope pos) 0 (.ref it) (.ref D) Y.env) R s4:=by
 obtain⟨tt,pt,qt⟩:=hg;obtain⟨te,pe,qe⟩:=he;refine Zeh (CmI Y fp tn H3 α3 fun n i ρ' M'=>Zcj src gt c f n0 n i ρ' M'=.ok u9 M9) ?_ fuel ⟨0,σ0,ρ0,H3,α3,M3,I4,st4,fr4,sr,h3,Ext.refl,er⟩;rintro n s5 ⟨i,σ5,ρ5,H5,α5,M5,I5,st5,fr5,sr5,hr5,ex5,en⟩;have src5:=sc i H5 α5 M5 ex5 hr5;rw[Zcj]at en;cases ex:nxt src i M5 with
 |none=>rw[ex]at en;cases en
 |some od=>
  rw[ex]at src5 en;cases od with
  |none=>
   cases en;have fin:=T.done Y rfl rfl rfl rfl i [] s5 σ5 H5 (fun _ _=>False) I5 (fp5 fr5) st5 src5;refine thn fin fun r s6 w6=>?_;obtain⟨hr6,I6⟩:=w6;subst hr6;exact post σ5 H5 α5 s6 I6 ex5 hr5
  |some d=>
   obtain⟨go,yl⟩:=src5;cases n with
   |zero=>cases en
   |succ n=>
    simp only at en;have itm:=T.item Y rfl rfl rfl rfl i [] s5 σ5 H5 (fun _ _=>False) I5 (fp5 fr5) st5 go;refine thn itm fun r s6 ⟨u,hr6,w6⟩=>?_;subst hr6;refine thn w6 fun _ s7 ⟨x,H7,I7,r7,y7,st7,fr7⟩=>?_;obtain⟨ex7,hr7,rp7⟩:=yl x H7 y7;have sr5:=sr5.mono ex7;have hr5:=hr7;have ex5:=ex5.trans ex7;have I7':=I7.pinned (fp5 fr7) (T.obj _ _ st7);cases eg:gt d ρ5 with
    |none=>rw[eg]at en;cases en
    |some ρ6=>
     rw[eg]at en;simp only at en;have asg:=pt _ s7 σ5 H7 x u _ I7' r7 (qt x d σ5 ρ5 H7 α5 ρ6 (fun σ' H'=>H'=H7/\SR Y.K H7 α5 σ' ρ6) sr5 rp7 eg fun σ' s'=>⟨rfl,s'⟩);refine wpAny_mono asg (fun _ s8 ⟨σ8,H8,I8,z8,sr8⟩=>?_) (fun x y z=>hxe x y z);subst z8;have again:∀{σ9:L2.St}{H9:Hp}{s9:Shared},Inv Y ([]++ZbY fp s7.heap) σ9 H9 s9->Inv Y [] σ9 H9 s9/\tn (i+1) s9.heap/\∀b∈fp,H9 b=none:=fun{σ9 H9 s9} I9=>by
      refine⟨I9.unpinned,T.keep _ _ _ st7 fun b hb o e=>(I9.pin (b,o) (List.mem_append_right _ (List.mem_append_right _ (Zao hb e)))).1,fun b hb=>?_⟩;obtain⟨o,e,_⟩:=T.obj _ _ st7 b hb;exact(I9.pin (b,o) (List.mem_append_right _ (List.mem_append_right _ (Zao hb e)))).2.1
     have after:∀(kk:Bool)(M8:Sto)(H9:Hp)(α9:List Addr)(s9:Shared),Inv Y ([]++ZbY fp s7.heap) σ8 H9 s9->Ext Y.K H8 H9 α5 α9->HR Y.K H9 α9 M8->c ρ6 M5=.ok kk M8->
       (if kk=true then wpAny (model Y.prog Y.w) Y.A (eval elt Y.env) (fun x s₄=>wpAny (model Y.prog Y.w) Y.A (call (.builtin "list.append") [.ref D,x]) (fun _ s₅=>∃m,m<n+1/\CmI Y fp tn H3 α3 (fun n i ρ' M'=>Zcj src gt c f n0 n i ρ' M'=.ok u9 M9) m s₅) (fun _ _=>False) s₄) (fun _ _=>False) s9 else ∃m,m<n+1/\CmI Y fp tn H3 α3 (fun n i ρ' M'=>Zcj src gt c f n0 n i ρ' M'=.ok u9 M9) m s9):=by
      intro kk M8 H9 α9 s9 I9 ex9 hr9 ec;rw[ec]at en;cases kk with
      |false=>
       obtain⟨a1,a2,a3⟩:=again I9;exact ZkQ ⟨n,Nat.lt_succ_self n,i+1,σ8,ρ6,H9,α9,M8,a1,a2,a3,sr8.mono ex9,hr9,ex5.trans ex9,en⟩
      |true=>
       simp only at en;refine ZkR ?_;cases ef:f ρ6 M8 with
       |exc x9 M10=>rw[ef]at en;cases en
       |bad=>rw[ef]at en;cases en
       |ok y M10=>
        rw[ef]at en;simp only at en;have ev:=pe _ s9 σ8 H9 (fun v H'=>∃α',Ext Y.K H9 H' α9 α'/\HR Y.K H' α' M10/\Rep Y.K H' α' v y) I9 (qe σ8 ρ6 H9 α9 M8 _ (sr8.mono ex9) hr9 (by
         rw[ef];exact fun v H' α' e h r=>⟨α',e,h,r⟩))
        refine wpAny_mono ev (fun yv s10 ⟨v,H10,I10,r10,α10,ex10,hr10,rp10⟩=>?_) (fun x y z=>hxe x y z);cases em:M10[n0]? with
        |none=>rw[em]at en;cases en
        |some so=>
         cases so with
         |lst ds=>
          rw[em]at en;simp only at en;by_cases cz:ds.length<10000000
          ·rw[if_pos cz]at en;have aD10:=ex10.get (ex9.get (ex5.get aD));obtain⟨xs,g1,g2⟩:=hr10.at aD10 em;have ap:=Zcq (X:=Y) _ s10 σ8 H10 (.ref D) [v] (.ref D) [yv] (fun _ H'=>H'=upd H10 D (.lst (xs++[v]))) I10 rfl (.cons r10 .nil) ⟨D,xs,v,rfl,rfl,g1,by rw[g2.length];exact Nat.lt_of_lt_of_le cz (by decide),rfl⟩
           refine wpAny_mono ap (fun _ s11 ⟨v11,H11,I11,_,z11⟩=>?_) (fun x y z=>hxe x y z);subst z11;obtain⟨a1,a2,a3⟩:=again I11;have exw:Ext Y.K H10 (upd H10 D (.lst (xs++[v]))) α10 α10:=Ext.wr g1;exact⟨n,Nat.lt_succ_self n,i+1,σ8,ρ6,_,α10,_,a1,a2,a3,((sr8.mono ex9).mono ex10).mono exw,hr10.wr aD10 g1 (g2.append (.cons rp10 .nil)),((ex5.trans ex9).trans ex10).trans exw,en⟩
          ·rw[if_neg cz]at en;cases en
     rcases tst with⟨rfl,ec⟩|⟨e,rfl,tt',ptt,qtt⟩
     ·refine wpAny_tests_nil ?_;exact after true M5 H8 α5 s8 I8 Ext.refl hr5 (by rw[ec])
     ·refine wpAny_tests_one ?_;cases ec:c ρ6 M5 with
      |exc x9 M10=>rw[ec]at en;cases en
      |bad=>rw[ec]at en;cases en
      |ok kk M8=>
       have tv':=ptt _ s8 σ8 H8 (fun b H'=>b=kk/\∃α',Ext Y.K H8 H' α5 α'/\HR Y.K H' α' M8) I8 (qtt σ8 ρ6 H8 α5 M5 _ sr8 hr5 (by
        rw[ec];exact fun v H' α' e h r=>⟨r,α',e,h⟩))
       refine wpAny_mono tv' (fun b s9 ⟨H9,I9,zb,α9,ex9,hr9⟩=>?_) (fun x y z=>hxe x y z);subst zb;exact after b M8 H9 α9 s9 I9 ex9 hr9 ec
theorem ZaL(B:Blk X scope cl N k fr)(hi:DI X ξ tg iter fi)(hg:∀C fp s H,DG (blk X scope cl N C fp s H) tg gt)(ht:∀C fp s H,DC (blk X scope cl N C fp s H) ifs c)(he:∀C fp s H,DE (blk X scope cl N C fp s H) E0 elt f)(hs:autoParam (∀x,foldedSetIterable iter X.env x=pure x) Qin._auto_1):DE X ξ (.ListComp elt [⟨tg,iter,ifs,0⟩] scope pos) (Zal fi k fr gt c f):=by
 obtain⟨wi,pi,qi⟩:=hi;refine⟨fun σ H Q=>∃ρ α M,SR X.K H α σ ρ/\HR X.K H α M/\OP X.K H α ξ Q (Zal fi k fr gt c f ρ M),?_,fun σ ρ H α M Q s h q=>⟨ρ,α,M,s,h,q⟩⟩;rintro pins s σ H Q I ⟨ρ,α,M,sr,hr,op⟩;rw[eval_ListComp];refine wpAny_comprehension_free (use:=none) rfl hs B.clos B.kind B.names ?_;refine thn (pi pins s σ H (fun J H2=>∃α2 M2 src,Ext X.K H H2 α α2/\HR X.K H2 α2 M2/\Zjs X.K H2 α2 J src/\OP X.K H2 α2 ξ Q (match Zcj src gt c f M2.length (cnt src M2) 0 (roB k fr ρ) (M2++[.lst []])with|.ok _ M2'=>.ok (.ref M2.length) M2'|_=>.bad)) I
  (qi σ ρ H α M _ sr hr (OG.seq op fun src M1 J H1 α1 e1 h1 r1 q1=>⟨α1,M1,src,e1,h1,r1,q1⟩))) fun v s1 w1=>thn w1 fun itv s2 w2=>?_
 obtain⟨it,fp,tn,J,H2,rfl,I2,T,st2,f2,α2,M2,src,e2,h2,sc,op2⟩:=w2;have srI:=sr.mono e2;refine wpAny_newObj_type ?_;have I3:Inv X pins σ (upd H2 s2.heap.objs.size (.lst [])) {s2 with heap:=s2.heap.push {cls:=.type "list",data:=.seq ([]:List Value).toArray}}:=I2.lnew (its:=[]) (t':=s2.toks) .nil (Nat.zero_le _);have fD:H2 s2.heap.objs.size=none:=I2.fresh;generalize hD:s2.heap.objs.size=D at I3 fD;generalize hs3:({s2 with heap:=s2.heap.push {cls:=.type "list",data:=.seq ([]:List Value).toArray}}:Shared)=s3 at I3;generalize hH3:upd H2 D (.lst [])=H3 at I3;have h3:HR X.K H3 (α2++[D]) (M2++[.lst []]):=by rw[<-hH3];exact h2.new fD .nil
 have e3:Ext X.K H2 H3 α2 (α2++[D]):=by rw[<-hH3];exact Ext.new fD
 have aD:RefK H3 (α2++[D]) 0 M2.length D:=⟨h2.last D,by first|exact Kn.lst Zs|(rw[<-hH3];exact Kn.lst Zs)⟩
 have lt2:∀b∈fp,b<s2.heap.objs.size:=fun b hb=>let ⟨o,e,_⟩:=T.obj _ _ st2 b hb;Hz e;have keep3:∀b o,s2.heap.get? b=some o->s3.heap.get? b=some o:=fun b o e=>by rw[<-hs3];exact Hq _ e
 have f3:∀b∈fp,Zca X pins H3 b:=fun b hb=>⟨by rw[<-hH3,Zz (by rw[<-hD];exact Nat.ne_of_lt (lt2 b hb))];exact(f2 b hb).1,(f2 b hb).2⟩
 have lt3:∀b∈fp,b<s3.heap.objs.size:=fun b hb=>let ⟨o,e,_⟩:=T.obj _ _ st2 b hb;Hz (keep3 b o e);have st3:tn 0 s3.heap:=T.keep _ _ _ st2 fun b _ o e=>keep3 b o e;refine wpAny_newFunctionEnv B.cell (by intro y hy;simp at hy) (fun h₁ hns₁ hsb₁=>?_) B.kind
 have keep4:∀b o,s3.heap.get? b=some o->h₁.get? b=some o:=fun b o e=>hsb₁.extBut b o (Nat.ne_of_lt (Hz e)) (Hq _ e);have I4:=Ze4 (tk:=s3.toks+([]:List (Str×Value)).length) B I3 f3 lt3 hns₁ keep4;have st4:tn 0 h₁:=T.keep _ _ _ st3 fun b _ o e=>keep4 b o e;have fp5:∀{H':Hp},(∀b∈fp,H' b=none)->∀b∈fp,Zca (blk X scope cl N s3.heap.objs.size fp s3 H3) [] H' b:=fun hn b hb=>⟨hn b hb,Nat.ne_of_lt (lt3 b hb),(ZfW B I3 f3 lt3).exfs b hb,.inl hb,fun x c h=>(f3 b hb).2.2.2.2.1 x c (B.sub x c h),fun p hp=>(by simp[blk]at hp)⟩
 cases er:Zcj src gt c f M2.length (cnt src M2) 0 (roB k fr ρ) (M2++[.lst []])with
 |exc x M9=>rw[er]at op2;exact op2.elim
 |bad=>rw[er]at op2;exact op2.elim
 |ok u9 M9=>
  rw[er]at op2;have loop:codeAny (model X.prog X.w) X.A (.compLoop (.ListComp elt [⟨tg,iter,ifs,0⟩] scope pos) 0 (.ref it) (.ref D) (compEnvC scope cl s3.heap.objs.size X.env)) (compPost (model X.prog X.w) X.A X.xe none (EP X pins σ Q) (.ref D) s3.heap.objs.size) {s3 with heap:=h₁,toks:=s3.toks+([]:List (Str×Value)).length}:=by
   refine Zdr (Y:=blk X scope cl N s3.heap.objs.size fp s3 H3) T (fun _ _ z=>z) fp5 (hg _ fp s3 H3) (ht _ fp s3 H3) (he _ fp s3 H3) (fun i H' α' M' ex hr=>sc i H' α' M' (e3.trans ex) hr) aD I4 st4 (fun b hb=>(f3 b hb).1) ((srI.blk).mono e3) h3 er ?_;intro σ5 H5 α5 s6 I6 ex5 hr5;obtain⟨I7,I8⟩:=Zdq B I3 f3 I6;obtain⟨m6,hm6,_⟩:=id I6.loc;exact⟨m6,hm6,fun h' sb=>⟨.ref D,H5,I8 σ s6 h' I7 (fun b o hb e=>(sb.2 b hb).trans e),rfl,op2 _ H5 α5 (e3.trans ex5) hr5 (.ref (ex5.get aD))⟩⟩
  exact codeAny_compStart_list loop (T.self X.A 0 _ _ _ st4 loop)
end DL
namespace DL
open PyProof.Rows L2
theorem ZoD{names:List (Str×NameKind)}(h:names.all (fun y=>y.2 != .cell&&y.2 != .free)=true)(x:Str):¬(names.lookup x=some .cell\/names.lookup x=some .free):=by
 induction names with
 |nil=>intro z;rcases z with z|z<;>simp at z
 |cons y r ih=>
  rw[List.all_cons,Bool.and_eq_true]at h;obtain⟨n,kd⟩:=y;rw[List.lookup_cons];cases e:x==n with
  |true=>
   simp only;intro z;have h1:=h.1;rcases z with z|z<;>(cases z;simp at h1)
  |false=>exact ih h.2
theorem ZjW{names:List (Str×NameKind)}{env:Env}(h:names.all (fun y=>y.2 != .cell&&y.2 != .free)=true):(names.map fun(n,k)=>if(k==NameKind.free&&env.scope.kind == .function&&env.kindOf n==some .cell)then(n,NameKind.cell)else(n,k))=names:=by
 induction names with
 |nil=>rfl
 |cons y r ih=>
  rw[List.all_cons,Bool.and_eq_true]at h;obtain⟨n,kd⟩:=y;have hk:(kd==NameKind.free)=false:=by
   have h1:=h.1;rw[Bool.and_eq_true]at h1;have h2:=h1.2;cases kd<;>first|rfl|simp at h2
  rw[List.map_cons,ih h.2];simp[hk]
theorem Znz(h:scope.names.all (fun y=>y.2 != .cell&&y.2 != .free)=true)(hk:scope.kind=.function)(hn:∀y∈scope.names,y.2=.local->scope.names.lookup y.1=some .local)(hl:N.length=k):Blk X scope [] N k [] where
 clos:=closureFor_none fun y hy z=>by
  have:=List.all_eq_true.mp h y hy
  rw[z]at this;simp at this
 kind:=hk
 cell:=fun y hy z=>by
  have:=List.all_eq_true.mp h y hy
  rw[z]at this;simp at this
 names:=hn
 sub:=fun x c z=>(by cases z)
 has:=fun x z=>by
  have e:(relabel scope X.env).names=scope.names:=ZjW h;rw[e]at z;exact absurd z (ZoD h x)
 len:=hl
 at_:=fun j i z=>(by simp at z)
theorem Zcz{env:Env}:∀(names:List (Str×NameKind)) (acc:List (Str×Addr)),(∀y∈names,y.2=.free->∃c,env.cells.lookup y.1=some c)->(forIn names acc fun(x:Str×NameKind) (cs:List (Str×Addr))=>if x.2==NameKind.free then(do let a <-cellOf env x.1;pure (ForInStep.yield ((x.1,a)::cs)))else(pure (ForInStep.yield cs):Sem _))=
   (pure (((names.filter fun y=>y.2 == .free).map fun y=>(y.1,(env.cells.lookup y.1).getD 0)).reverse++acc):Sem (List (Str×Addr)))
 |[],acc,_=>by simp
 | (n,kd)::r,acc,h=>by
  rw[List.forIn_cons];by_cases hk:(kd==NameKind.free)=true
  ·obtain⟨c,hc⟩:=h (n,kd) List.mem_cons_self (by simpa using hk)
   have e1:cellOf env n=pure c:=by unfold cellOf;rw[hc]
   have ih:=Zcz r ((n,c)::acc) fun y hy=>h y (List.mem_cons_of_mem _ hy);simp only[hk,if_true,e1,pure_bind];refine Eq.trans ih ?_;simp[List.filter_cons,hk,hc]
  ·have ih:=Zcz r acc fun y hy=>h y (List.mem_cons_of_mem _ hy);simp only[hk,if_false,pure_bind];refine Eq.trans ih ?_;simp[List.filter_cons,hk]
noncomputable def clF(scope:Scope)(env:Env):List (Str×Addr):=((scope.names.filter fun y=>y.2 == .free).map fun y=>(y.1,(env.cells.lookup y.1).getD 0)).reverse
theorem Zbd{env:Env}:∀{l:List (Str×NameKind)} {x:Str} {c:Addr},(l.map fun y=>(y.1,(env.cells.lookup y.1).getD 0)).lookup x=some c->c=(env.cells.lookup x).getD 0/\∃y∈l,y.1=x
 |[],x,c,h=>by simp at h
 |y::r,x,c,h=>by
  rw[List.map_cons,List.lookup_cons]at h;cases e:x==y.1 with
  |true=>
   rw[e]at h;have ex:x=y.1:=by simpa using e
   cases h;exact⟨by rw[ex],y,List.mem_cons_self,ex.symm⟩
  |false=>
   rw[e]at h;obtain⟨h1,z,h2,h3⟩:=Zbd h;exact⟨h1,z,List.mem_cons_of_mem _ h2,h3⟩
theorem Zam{α:Type}:∀{l:List (Str×α)} {x:Str},(∃y∈l,y.1=x)->∃c,l.lookup x=some c
 |[],x,h=>by obtain⟨y,h1,_⟩:=h;simp at h1
 |z::r,x,h=>by
  rw[List.lookup_cons];cases e:x==z.1 with
  |true=>exact⟨_,rfl⟩
  |false=>
   obtain⟨y,h1,h2⟩:=h;rcases List.mem_cons.mp h1 with q|q
   ·subst q;rw[h2]at e;simp at e
   ·exact Zam ⟨y,q,h2⟩
theorem ZH{env:Env}(nc:∀n,env.scope.names.lookup n=env.kindOf n):∀{names:List (Str×NameKind)} {x:Str} {kd:NameKind},(names.map fun(n,k)=>if(k==NameKind.free&&env.scope.kind == .function&&env.kindOf n==some .cell)then(n,NameKind.cell)else(n,k)).lookup x=some kd->names.lookup x=some kd\/(names.lookup x=some .free/\kd=.cell)
 |[],x,kd,h=>by simp at h
 | (n,q)::r,x,kd,h=>by
  rw[List.map_cons,List.lookup_cons]at h;rw[List.lookup_cons];dsimp only at h ⊢;by_cases c:(q==NameKind.free&&env.scope.kind == .function&&env.kindOf n==some .cell)=true
  ·rw[if_pos c]at h;dsimp only at h;cases e:x==n with
   |true=>
    rw[e]at h;cases h;simp only[Bool.and_eq_true,beq_iff_eq]at c;exact .inr ⟨by rw[c.1.1],rfl⟩
   |false=>rw[e]at h;exact ZH nc h
  ·rw[if_neg c]at h;dsimp only at h;cases e:x==n with
   |true=>rw[e]at h;exact .inl h
   |false=>rw[e]at h;exact ZH nc h
theorem Z2{env:Env}:∀{names:List (Str×NameKind)} {x:Str},names.lookup x=some .free->(∃kd,(kd=NameKind.cell\/kd=NameKind.free)/\(names.map fun(n,k)=>if(k==NameKind.free&&env.scope.kind == .function&&env.kindOf n==some .cell)then(n,NameKind.cell)else(n,k)).lookup x=some kd)
 |[],x,h=>by simp at h
 | (n,q)::r,x,h=>by
  rw[List.lookup_cons]at h;rw[List.map_cons,List.lookup_cons];by_cases c:(q==NameKind.free&&env.scope.kind == .function&&env.kindOf n==some .cell)=true
  ·dsimp only;rw[if_pos c];cases e:x==n with
   |true=>exact⟨_,.inl rfl,rfl⟩
   |false=>rw[e]at h;exact Z2 h
  ·dsimp only;rw[if_neg c];cases e:x==n with
   |true=>rw[e]at h;exact⟨q,.inr (Option.some.inj h),rfl⟩
   |false=>rw[e]at h;exact Z2 h
noncomputable def Zmb(XN N:List Str)(dn sn:List (Str×NameKind))(k:Nat)(fr:List Nat):Bool:=
 (sn.all fun y=>y.2 != .cell&&(y.2 != .free||dn.lookup y.1==some .cell)&&(y.2 != .local||sn.lookup y.1==some .local))&&N.length==k+fr.length &&
  (List.range fr.length).all fun j=>match fr[j]? with
   |some i=>(match N[k+j]?,XN[i]? with|some x,some y=>x==y&&dn.lookup x==some .cell&&sn.lookup x==some .free|_,_=>false)
   |none=>false
theorem ZnA(hN:X.N=XN)(hd:X.env.scope.names=dn)(hc:X.env.cells=cellsFrom n dn [])(hk:scope.kind=.function)(h:Zmb XN N dn scope.names k fr=true):Blk X scope (clF scope X.env) N k fr:=by
 unfold Zmb at h;simp only[Bool.and_eq_true,List.all_eq_true,bne_iff_ne,ne_eq,Bool.or_eq_true,beq_iff_eq]at h;obtain⟨⟨h1,h2⟩,h3⟩:=h;have kind:∀x,X.env.kindOf x=dn.lookup x:=fun x=>by rw[<-hd];rfl
 have cel:∀x,dn.lookup x=some .cell->∃c,X.env.cells.lookup x=some c:=fun x e=>by
  have:=PySem.W.cellsFrom_some dn n [] (.inl e)
  rw[hc];exact Option.isSome_iff_exists.mp this
 have frc:∀y∈scope.names,y.2=.free->∃c,X.env.cells.lookup y.1=some c:=fun y hy e=>by
  rcases(h1 y hy).1.2 with z|z
  ·exact absurd e z
  ·exact cel _ z
 have sub:∀x c,(clF scope X.env).lookup x=some c->X.env.cells.lookup x=some c:=fun x c e=>by
  unfold clF at e;rw[<-List.map_reverse]at e;obtain⟨e1,y,e2,e3⟩:=Zbd e;have e4:=List.mem_filter.mp (List.mem_reverse.mp e2);obtain⟨c',g⟩:=frc y e4.1 (by simpa using e4.2)
  rw[e3]at g;rw[g]at e1 ⊢;rw[e1];rfl
 have has:∀x,scope.names.lookup x=some .free->∃c,(clF scope X.env).lookup x=some c:=fun x e=>by
  refine Zam ?_;have m:=PySem.mem_of_lookup e;exact⟨(x,(X.env.cells.lookup x).getD 0),List.mem_reverse.mpr (List.mem_map.mpr ⟨(x,.free),List.mem_filter.mpr ⟨m,by simp⟩,rfl⟩),rfl⟩
 refine⟨?_,hk,fun y hy=>(h1 y hy).1.1,fun y hy e=>?_,sub,fun x z=>?_,h2,fun j i e=>?_⟩
 ·have:=Zcz (env:=X.env) scope.names [] frc
  rw[List.append_nil]at this;unfold closureFor;exact(congrArg (fun(m:Sem (List (Str×Addr)))=>m >>= fun cs=>(pure cs:Sem (List (Str×Addr)))) this).trans (pure_bind _ _)
 ·rcases(h1 y hy).2 with z|z
  ·exact absurd e z
  ·exact z
 ·have nc:∀m,X.env.scope.names.lookup m=X.env.kindOf m:=fun m=>rfl;refine has x ?_;rcases z with z|z
  ·rcases ZH nc z with q|q
   ·exact absurd rfl (h1 _ (PySem.mem_of_lookup q)).1.1
   ·exact q.1
  ·rcases ZH nc z with q|q
   ·exact q
   ·cases q.2
 ·have hj:j<fr.length:=(List.getElem?_eq_some_iff.mp e).1;have q:=h3 j (List.mem_range.mpr hj);rw[e]at q;dsimp only at q;cases e1:N[k+j]? with
  |none=>rw[e1]at q;cases q
  |some x=>
   cases e2:XN[i]? with
   |none=>rw[e1,e2]at q;cases q
   |some y=>
    rw[e1,e2]at q;simp only[Bool.and_eq_true,beq_iff_eq]at q;obtain⟨⟨q1,q2⟩,q3⟩:=q;subst q1;obtain⟨kd,r1,r2⟩:=Z2 (env:=X.env) q3;obtain⟨c,r3⟩:=has x q3;refine⟨x,rfl,by rw[hN];exact e2,by rw[kind];exact q2,?_,r3.trans (sub x c r3).symm⟩
    rcases r1 with r1|r1
    ·exact .inl (r1▸r2)
    ·exact .inr (r1▸r2)
def Zth(X:Cx):List V->Hp->VK->Prop:=fun vs H Q=>∃(p:Addr) (bs:List Bool),vs=[.ref p]/\SqL X.K H p (bs.map V.bl)/\Q (.bl (bs.all id)) H
theorem Zei:∀{bs:List Bool}{us:List Value}{i:Nat}{u:Value},ZS (bs.map V.bl) us->us[i]?=some u->∃b,bs[i]?=some b/\u=.bool b
 |[],us,i,u,h,e=>by cases h;simp at e
 |b::r,us,i,u,h,e=>by
  cases h with
  |cons h1 h2=>
   cases i with
   |zero=>simp at e;subst e;exact⟨b,rfl,h1⟩
   |succ i=>simp at e;obtain⟨b',g1,g2⟩:=Zei h2 e;exact⟨b',by simpa using g1,g2⟩
theorem ZgE(bs:List Bool):((List.range bs.length).all fun i=>(bs[i]?).getD true)=bs.all id:=by
 rw[Bool.eq_iff_iff,List.all_eq_true,List.all_eq_true];constructor
 ·intro h b hb;obtain⟨i,hi,e⟩:=List.getElem_of_mem hb
  have:=h i (List.mem_range.mpr hi)
  simp only[List.getElem?_eq_getElem hi,Option.getD_some,e]at this;exact this
 ·intro h i hi;have hi':=List.mem_range.mp hi;simp only[List.getElem?_eq_getElem hi',Option.getD_some];exact h _ (List.getElem_mem hi')
theorem ZjX(hc:X.calm=true):Zbm X (.builtin "all") (Zth X):=by
 intro pins s σ H vs us Q I rs ⟨p,bs,e,hl,q⟩;subst e;obtain⟨u,rfl,ru⟩:=ZcY rs;cases ru;obtain⟨its,hv,hp,hz⟩:=I.list hl;have hlt:p<s.heap.objs.size:=by obtain⟨_,e,_⟩:=hp.isList;exact Hz e
 refine call_all_walk (wpAny_pyIter_list hp.isList ?_);refine⟨s.heap.objs.size,[s.heap.objs.size,p],[s.heap.objs.size],its.toArray.size,_,_,fun i=>(bs[i]?).getD true,rfl,Walks.list (A:=X.A.in1) (I.ok.hd hc) _ p (Nat.ne_of_lt hlt) its.toArray,⟨⟨_,Heap.get?_push_size _ rfl,rfl,rfl⟩,hp.isList.push _⟩,fun i v s' Q' E' hP hQ=>?_,fun h' tk hk=>?_⟩
 ·obtain⟨b,e,rfl⟩:=Zei (i:=i) (u:=v) hv (by simpa using hP)
  simp only[e,Option.getD_some]at hQ;exact wpAny_truthy_bool hQ
 ·have e:((List.range its.toArray.size).all fun i=>(bs[i]?).getD true)=bs.all id:=by
   rw[List.size_toArray,<-hv.length,List.length_map];exact ZgE bs
  rw[e];exact⟨.bl (bs.all id),H,I.kept fun b o e=>hk b o (fun hm=>by rw[List.mem_singleton.mp hm]at e;exact Nat.lt_irrefl _ (Hz e)) (Hq _ e),rfl,q⟩
def Zad:List D->Option (List Bool)
 |[]=>some []
 |.bl b::r=>match Zad r with|some bs=>some (b::bs)|none=>none
 |_::_=>none
theorem Zej{K:Fg}{H:Hp}{α:List Addr}:∀{vs:List V}{ds:List D}{bs:List Bool},Reps K H α vs ds->Zad ds=some bs->vs=bs.map V.bl
 |_,_,_,.nil,e=>by cases e;rfl
 |_,_,bs,.cons (d:=d) (ds:=ds) r t,e=>by
  cases r with
  |bl b=>
   cases e1:Zad ds with
   |none=>simp only[Zad,e1]at e;cases e
   |some cs=>
    simp only[Zad,e1,Option.some.injEq]at e;subst e;rw[Zej t e1];rfl
  |_=>cases e
def bAll:W3:=fun ds M=>match ds with
 |[.ref n]=>(match M[n]? with|some (.lst xs)=>(match Zad xs with|some bs=>.ok (.bl (bs.all id)) M|none=>.bad)|none=>.bad)
 |_=>.bad
theorem ZoE:CO X ξ (Zth X) bAll:=by
 intro H α M vs ds Q h rs q
 match rs with
 |.nil=>exact q.elim
 |.cons r (.cons _ _)=>cases r<;>exact q.elim
 |.cons r .nil=>
  cases r with
  |@ref p n hp=>
   cases e1:M[n]? with
   |none=>simp only[bAll,e1]at q;exact q.elim
   |some so=>
    cases so with
    |lst es=>
     cases e2:Zad es with
     |none=>simp only[bAll,e1,e2]at q;exact q.elim
     |some bs=>
      simp only[bAll,e1,e2]at q;obtain⟨xs,g1,g2⟩:=h.at hp e1
      have:=Zej g2 e2
      subst this;exact⟨p,bs,rfl,SqL.of g1,q _ H α Ext.refl h (.bl _)⟩
  |_=>exact q.elim
end DL
namespace DL
open PyProof.Rows L2
end DL
namespace DL
open PyProof.Rows L2
theorem Zar:∀(names:List (Str×NameKind)) (n:Nat) (acc:List (Str×Addr)),cellsFrom n names acc=cellsFrom n names []++acc
 |[],_,_=>rfl
 | (x,kd)::r,n,acc=>by
  unfold cellsFrom;split
  ·rw[Zar r (n+1) ((x,n)::acc),Zar r (n+1) [(x,n)]];simp
  ·exact Zar r n acc
theorem Zbp:∀(names:List (Str×NameKind)) (n:Nat) (x:Str) (c:Addr),(x,c)∈cellsFrom n names []->(x,NameKind.cell)∈names
 |[],_,_,_,h=>by simp[cellsFrom]at h
 | (y,kd)::r,n,x,c,h=>by
  unfold cellsFrom at h
  split at h
  ·rename_i hk;rw[Zar]at h;rcases List.mem_append.mp h with h|h
   ·exact List.mem_cons_of_mem _ (Zbp r (n+1) x c h)
   ·have e:=List.mem_singleton.mp h;cases e
    have:kd=.cell:=by simpa using hk
    rw[this];exact List.mem_cons_self
  ·exact List.mem_cons_of_mem _ (Zbp r n x c h)
theorem Zds{α:Type}:∀{l r:List (Str×α)} {x:Str} {c:α},(l++r).lookup x=some c->l.lookup x=some c\/(l.lookup x=none/\r.lookup x=some c)
 |[],r,x,c,h=>.inr ⟨rfl,h⟩
 | (y,d)::l,r,x,c,h=>by
  rw[List.cons_append,List.lookup_cons]at h;rw[List.lookup_cons];cases e:x==y with
  |true=>rw[e]at h;exact .inl h
  |false=>rw[e]at h;exact Zds h
theorem Zc9{α:Type}:∀{l r:List (Str×α)} {x:Str},(∀c,(x,c)∉l)->(l++r).lookup x=r.lookup x
 |[],_,_,_=>rfl
 | (y,d)::l,r,x,h=>by
  rw[List.cons_append,List.lookup_cons];cases e:x==y with
  |true=>
   have:x=y:=by simpa using e
   exact absurd (by rw[this];exact List.mem_cons_self) (h d)
  |false=>exact Zc9 fun c hc=>h c (List.mem_cons_of_mem _ hc)
theorem ZhI(hQ:Q (newEnv scope s.heap.objs.size globals (cellsFrom (s.heap.objs.size+1) scope.names cl) qual none .none (some env) builtinsNs) {s with heap:=pushCells (s.heap.push {cls:=.type "dict",data:=.dict #[]}) scope.names}):wpAny M A (newFunctionEnv scope globals cl [] qual none .none (some env)) Q E s:=by
 simp only[newFunctionEnv,Option.isSome_some,if_true];refine Wb (wpAny_alloc ?_);refine Wb (wpAny_layCells _ (fun name kind cells=>by cases hkc:kind==NameKind.cell<;>simp[hkc]) _ _ _ _ ?_)
 rw[show({s with heap:=s.heap.push {cls:=.type "dict",data:=.dict #[]}}:Shared).heap.objs.size=s.heap.objs.size+1 from Heap.size_push ..];exact Wb (Wp (Wp hQ))
theorem _root_.PySem.W.cellsFrom_mem {x:Str}:∀(names:List (Str×NameKind)) (n:Nat) (acc:List (Str×Addr)),(x,NameKind.cell)∈names->((cellsFrom n names acc).lookup x).isSome=true
 |[],_,_,h=>by simp at h
 | (y,kd)::r,n,acc,h=>by
  have acc_some:∀(names:List (Str×NameKind)) (n:Nat) (acc:List (Str×Addr)),(acc.lookup x).isSome=true->((cellsFrom n names acc).lookup x).isSome=true:=fun names n acc h=>PySem.W.cellsFrom_some names n acc (.inr h);unfold cellsFrom;split
  ·rcases List.mem_cons.mp h with e|e
   ·cases e;refine acc_some _ _ _ ?_;rw[List.lookup_cons];simp
   ·exact PySem.W.cellsFrom_mem r _ _ e
  ·rename_i hk;rcases List.mem_cons.mp h with e|e
   ·cases e;simp at hk
   ·exact PySem.W.cellsFrom_mem r _ _ e
def Ze5(X:Cx)(scope:Scope)(cl:List (Str×Addr))(N:List Str)(C:Addr)(fp:List Addr)(s:Shared)(H:Hp):Cx:=
 {blk X scope (cellsFrom (C+1) scope.names cl) N C fp s H with fn:=fun x=>scope.names.any fun y=>y.1==x&&y.2 == .cell,fxs:=none}
theorem ZjY:Thr (Ze5 X scope cl N C fp s H) E0:=
 ⟨PassesOwn.never,fun _ _ _ _ _ _ _ ⟨_,_,_,_,_,_,_,_,_,_,_,_,_,q⟩=>q,fun _ _ _ _ _ _ _ _ _ _ _ _ _ _ _ _ _ _ _ _ _ _ q=>q⟩
structure BlkC(X:Cx) (scope:Scope) (cl:List (Str×Addr)) (N:List Str) (k:Nat) (fr:List Nat):Prop where
 clos:closureFor scope X.env=pure cl
 kind:scope.kind=.function
 names:∀y∈scope.names,y.2=.local->scope.names.lookup y.1=some .local
 sub:∀x c,cl.lookup x=some c->X.env.cells.lookup x=some c
 has:∀n x,((relabel scope X.env).names.lookup x=some .cell\/(relabel scope X.env).names.lookup x=some .free)->∃c,(cellsFrom n scope.names cl).lookup x=some c
 len:N.length=k+fr.length
 at_:∀(j i:Nat),fr[j]?=some i->∃x,N[k+j]?=some x/\X.N[i]?=some x/\X.env.kindOf x=some .cell/\((relabel scope X.env).names.lookup x=some .cell\/(relabel scope X.env).names.lookup x=some .free)/\cl.lookup x=X.env.cells.lookup x/\(x,NameKind.cell)∉scope.names
section
variable {scope:Scope}
theorem ZjZ(h:Heap):CellsOk (pushCells (h.push {cls:=.type "dict",data:=.dict #[]}) scope.names) (h.objs.size+1) (cellsFrom (h.objs.size+1) scope.names []):=by
 have:=cellsFrom_ok scope.names (h.push {cls:=.type "dict",data:=.dict #[]}) (h.objs.size+1) [] ⟨fun _ _ hm=>(nomatch hm),List.Pairwise.nil⟩ (by rw[Heap.size_push];exact Nat.le_refl _)
 rw[Heap.size_push]at this;exact this
theorem Za3(B:BlkC X scope cl N k fr){h:Heap}(e:(cellsFrom (h.objs.size+1) scope.names cl).lookup x=some c):(X.env.cells.lookup x=some c)\/((x,c)∈cellsFrom (h.objs.size+1) scope.names []/\h.objs.size+1<=c):=by
 rw[Zar]at e;rcases Zds e with z|⟨_,z⟩
 ·have m:=PySem.mem_of_lookup z;exact .inr ⟨m,((ZjZ h).empty x c m).2⟩
 ·exact .inl (B.sub x c z)
theorem ZhJ(B:BlkC X scope cl N k fr){fp:List Addr}(I:Inv X pins σ H s)(hf:∀b∈fp,Zca X pins H b)(hlt:∀b∈fp,b<s.heap.objs.size)(hb:b∈fp)(h:(cellsFrom (s.heap.objs.size+1) scope.names cl).lookup x=some c):c≠b:=by
 rcases Za3 B h with z|⟨_,z⟩
 ·exact(hf b hb).2.2.2.2.1 x c z
 ·exact Nat.ne_of_gt (Nat.lt_trans (hlt b hb) z)
theorem ZhK(B:BlkC X scope cl N k fr)(I:Inv X pins σ H s)(hf:∀b∈fp,Zca X pins H b)(hlt:∀b∈fp,b<s.heap.objs.size):(Ze5 X scope cl N s.heap.objs.size fp s H).Ok where
 mod:=I.ok.mod
 kind:=B.kind
 glob:=I.ok.glob
 blt:=I.ok.blt
 above:=Nat.le_refl _
 inj:=fun x y c h1 h2=>by
  have old:∀{x c},X.env.cells.lookup x=some c->c<s.heap.objs.size:=fun{x c} e=>by
   obtain⟨v,q⟩:=I.cell x c e;exact q.lt
  rcases Za3 B h1 with z|⟨m1,z⟩<;>rcases Za3 B h2 with w|⟨m2,w⟩
  ·exact I.ok.inj x y c z w
  ·exact absurd (Nat.lt_trans (old z) w) (Nat.lt_irrefl _)
  ·exact absurd (Nat.lt_trans (old w) z) (Nat.lt_irrefl _)
  ·exact name_of_addr (ZjZ (scope:=scope) s.heap).apart m1 m2
 has:=fun x h=>B.has _ x h
 cab:=fun x c h e=>by
  obtain⟨y,hy,hz⟩:=List.any_eq_true.mp h;simp only[Bool.and_eq_true,beq_iff_eq]at hz;have e':(cellsFrom (s.heap.objs.size+1) scope.names []++cl).lookup x=some c:=by rw[<-Zar];exact e
  have hs:=PySem.W.cellsFrom_mem scope.names (s.heap.objs.size+1) [] (x:=x) (by rw[<-hz.1,<-hz.2];exact hy)
  rcases Zds e' with z|⟨z,_⟩
  ·exact Nat.le_of_lt ((ZjZ (scope:=scope) s.heap).empty x c (PySem.mem_of_lookup z)).2
  ·rw[z]at hs;cases hs
 hd:=I.ok.hd
 frames:=I.ok.frames
 stk:=.inl rfl
 exf:=fun b hb=>⟨Nat.ne_of_lt (hlt b hb),fun x c h=>ZhJ B I hf hlt hb h⟩
 bs:=I.bs
 bsz:=Nat.le_trans I.ok.bsz I.sz
 noex:=fun b o e hb=>by
  rcases(hf b hb).2.2.2.1 with z|z
  ·exact I.ok.noex b o e z
  ·exact absurd (Nat.lt_of_lt_of_le (Hz (I.ok.bs b o e).1) z) (Nat.lt_irrefl _)
 exfs:=fun b hb z=>by
  rcases List.mem_cons.mp (I.stkSub b z)with e|e
  ·exact(hf b hb).2.1 e
  ·exact(hf b hb).2.2.1 e
 funs:=I.stack
 frf:=I.stkFree
 tb:=I.ok.tb.un I.base
theorem Zj0(B:BlkC X scope cl N k fr)(I:Inv X pins σ H s)(hf:∀b∈fp,Zca X pins H b)(hlt:∀b∈fp,b<s.heap.objs.size):Inv (Ze5 X scope cl N s.heap.objs.size fp s H) [] (stB k fr σ) H {s with heap:=pushCells (s.heap.push {cls:=.type "dict",data:=.dict #[]}) scope.names}:=by
 have hk:∀b o,s.heap.get? b=some o->(pushCells (s.heap.push {cls:=.type "dict",data:=.dict #[]}) scope.names).get? b=some o:=fun b o e=>pushCells_keeps _ _ b o (Hq _ e);have hn:(pushCells (s.heap.push {cls:=.type "dict",data:=.dict #[]}) scope.names).Ns s.heap.objs.size (fun _=>none):=(Heap.Ns.new s.heap (.type "dict")).keeps (pushCells_keeps _ _);have nw:=ZjZ (scope:=scope) s.heap;exact {
  ok:=ZhK B I hf hlt
  os:=rfl
  bare:=I.bare
  base:=Un.kept hk
  loc:=by
   refine⟨_,hn,fun i x v e1 e2 e3=>?_⟩;obtain⟨j,r,rfl,g1,g2⟩:=ZhH e2;obtain⟨y,k1,k2,k3,k4,k5,k6⟩:=B.at_ j r g1;have exy:x=y:=Option.some.inj (e1.symm.trans k1);subst exy;obtain⟨m0,hm0,hl⟩:=I.loc;obtain⟨u,ru,lk⟩:=hl r x v k2 g2 (.inr (.inl k3));refine⟨u,ru,?_⟩;rcases lk with⟨z,_⟩|⟨_,c,z1,⟨o,z2,z3⟩⟩
   ·rw[k3]at z;cases z
   ·refine .inr ⟨k4,c,?_,⟨o,hk _ _ z2,z3⟩⟩;show(cellsFrom (s.heap.objs.size+1) scope.names cl).lookup x=some c;rw[Zar,Zc9 fun c' hc'=>k6 (Zbp _ _ _ _ hc')];exact k5.trans z1
  cell:=fun x c h=>by
   rcases Za3 B h with z|⟨m,_⟩
   ·obtain⟨v,o,e1,e2⟩:=I.cell x c z;exact⟨v,o,hk _ _ e1,e2⟩
   ·exact⟨none,(nw.empty x c m).1⟩
  free:=I.fresh
  freeC:=fun x c h=>by
   rcases Za3 B h with z|⟨_,z⟩
   ·exact I.freeC x c z
   ·exact I.hok.fresh (Nat.le_of_lt z)
  pin:=fun p hp=>(by simp[Ze5,blk]at hp)
  hok:=I.hok.kept hk
  len:=by
   show(stB k fr σ).length=N.length;rw[B.len];simp[stB]
  qd:=I.qd
  fx:=.free rfl}
theorem Zj1(B:BlkC X scope cl N k fr)(hi:DI X ξ tg iter fi)(hg:∀C fp s H,DG (Ze5 X scope cl N C fp s H) tg gt)(ht:∀C fp s H,DC (Ze5 X scope cl N C fp s H) ifs c)(he:∀C fp s H,DE (Ze5 X scope cl N C fp s H) E0 elt f)(hs:autoParam (∀x,foldedSetIterable iter X.env x=pure x) Qin._auto_1):DE X ξ (.ListComp elt [⟨tg,iter,ifs,0⟩] scope pos) (Zal fi k fr gt c f):=by
 obtain⟨wi,pi,qi⟩:=hi;refine⟨fun σ H Q=>∃ρ α M,SR X.K H α σ ρ/\HR X.K H α M/\OP X.K H α ξ Q (Zal fi k fr gt c f ρ M),?_,fun σ ρ H α M Q s h q=>⟨ρ,α,M,s,h,q⟩⟩;rintro pins s σ H Q I ⟨ρ,α,M,sr,hr,op⟩;rw[eval_ListComp];refine wpAny_comprehension_free (use:=none) rfl hs B.clos B.kind B.names ?_;refine thn (pi pins s σ H (fun J H2=>∃α2 M2 src,Ext X.K H H2 α α2/\HR X.K H2 α2 M2/\Zjs X.K H2 α2 J src/\OP X.K H2 α2 ξ Q (match Zcj src gt c f M2.length (cnt src M2) 0 (roB k fr ρ) (M2++[.lst []])with|.ok _ M2'=>.ok (.ref M2.length) M2'|_=>.bad)) I
  (qi σ ρ H α M _ sr hr (OG.seq op fun src M1 J H1 α1 e1 h1 r1 q1=>⟨α1,M1,src,e1,h1,r1,q1⟩))) fun v s1 w1=>thn w1 fun itv s2 w2=>?_
 obtain⟨it,fp,tn,J,H2,rfl,I2,T,st2,f2,α2,M2,src,e2,h2,sc,op2⟩:=w2;have srI:=sr.mono e2;refine wpAny_newObj_type ?_;have I3:Inv X pins σ (upd H2 s2.heap.objs.size (.lst [])) {s2 with heap:=s2.heap.push {cls:=.type "list",data:=.seq ([]:List Value).toArray}}:=I2.lnew (its:=[]) (t':=s2.toks) .nil (Nat.zero_le _);have fD:H2 s2.heap.objs.size=none:=I2.fresh;generalize hD:s2.heap.objs.size=D at I3 fD;generalize hs3:({s2 with heap:=s2.heap.push {cls:=.type "list",data:=.seq ([]:List Value).toArray}}:Shared)=s3 at I3;generalize hH3:upd H2 D (.lst [])=H3 at I3;have h3:HR X.K H3 (α2++[D]) (M2++[.lst []]):=by rw[<-hH3];exact h2.new fD .nil
 have e3:Ext X.K H2 H3 α2 (α2++[D]):=by rw[<-hH3];exact Ext.new fD
 have aD:RefK H3 (α2++[D]) 0 M2.length D:=⟨h2.last D,by first|exact Kn.lst Zs|(rw[<-hH3];exact Kn.lst Zs)⟩
 have lt2:∀b∈fp,b<s2.heap.objs.size:=fun b hb=>let ⟨o,e,_⟩:=T.obj _ _ st2 b hb;Hz e;have keep3:∀b o,s2.heap.get? b=some o->s3.heap.get? b=some o:=fun b o e=>by rw[<-hs3];exact Hq _ e
 have f3:∀b∈fp,Zca X pins H3 b:=fun b hb=>⟨by rw[<-hH3,Zz (by rw[<-hD];exact Nat.ne_of_lt (lt2 b hb))];exact(f2 b hb).1,(f2 b hb).2⟩
 have lt3:∀b∈fp,b<s3.heap.objs.size:=fun b hb=>let ⟨o,e,_⟩:=T.obj _ _ st2 b hb;Hz (keep3 b o e);have st3:tn 0 s3.heap:=T.keep _ _ _ st2 fun b _ o e=>keep3 b o e;refine ZhI ?_;have keep4:∀b o,s3.heap.get? b=some o->(pushCells (s3.heap.push {cls:=.type "dict",data:=.dict #[]}) scope.names).get? b=some o:=fun b o e=>pushCells_keeps _ _ b o (Hq _ e);have I4:=Zj0 B I3 f3 lt3;generalize pushCells (s3.heap.push {cls:=.type "dict",data:=.dict #[]}) scope.names=h₁ at keep4 I4;have st4:tn 0 h₁:=T.keep _ _ _ st3 fun b _ o e=>keep4 b o e;have fp5:∀{H':Hp},(∀b∈fp,H' b=none)->∀b∈fp,Zca (Ze5 X scope cl N s3.heap.objs.size fp s3 H3) [] H' b:=fun hn b hb=>⟨hn b hb,Nat.ne_of_lt (lt3 b hb),(ZhK B I3 f3 lt3).exfs b hb,.inl hb,fun x c h=>ZhJ B I3 f3 lt3 hb h,fun p hp=>(by simp[Ze5,blk]at hp)⟩
 cases er:Zcj src gt c f M2.length (cnt src M2) 0 (roB k fr ρ) (M2++[.lst []])with
 |exc x M9=>rw[er]at op2;exact op2.elim
 |bad=>rw[er]at op2;exact op2.elim
 |ok u9 M9=>
  rw[er]at op2;have loop:codeAny (model X.prog X.w) X.A (.compLoop (.ListComp elt [⟨tg,iter,ifs,0⟩] scope pos) 0 (.ref it) (.ref D) (compEnvC scope (cellsFrom (s3.heap.objs.size+1) scope.names cl) s3.heap.objs.size X.env)) (compPost (model X.prog X.w) X.A X.xe none (EP X pins σ Q) (.ref D) s3.heap.objs.size) {s3 with heap:=h₁}:=by
   refine Zdr (Y:=Ze5 X scope cl N s3.heap.objs.size fp s3 H3) T (fun _ _ z=>z) fp5 (hg _ fp s3 H3) (ht _ fp s3 H3) (he _ fp s3 H3) (fun i H' α' M' ex hr=>sc i H' α' M' (e3.trans ex) hr) aD I4 st4 (fun b hb=>(f3 b hb).1) ((srI.blk).mono e3) h3 er ?_;intro σ5 H5 α5 s6 I6 ex5 hr5;obtain⟨m6,hm6,_⟩:=id I6.loc;refine⟨m6,hm6,fun h' sb=>?_⟩;have I7:Inv X pins σ H5 s6:=by
    refine I3.call' (s':=s6) (ch:=fp) I6.os I6.base I6.hok I6.bare fun b hb=>?_;obtain⟨_,z1,z2,z3,z4,z5⟩:=f3 b hb;exact⟨z3,z1,z4,z5⟩
   have I8:Inv X pins σ H5 {s6 with heap:=h',toks:=s6.toks}:=I7.turned (it:=s3.heap.objs.size) (fun b o hb e=>(sb.2 b hb).trans e) I6.free (Nat.ne_of_gt I3.lt) (.inr I3.sz)
    (fun x c h z=>by
     obtain⟨v,o,e,_⟩:=I3.cell x c h;exact absurd (Hz e) (by rw[z];exact Nat.lt_irrefl _)) (fun p hp z=>by
     have:=(I3.pin p hp).1
     exact absurd (Hz this) (by rw[z];exact Nat.lt_irrefl _))
   exact⟨.ref D,H5,I8,rfl,op2 _ H5 α5 (e3.trans ex5) hr5 (.ref (ex5.get aD))⟩
  exact codeAny_compStart_list loop (T.self X.A 0 _ _ _ st4 loop)
end
noncomputable def Zmc(XN N:List Str)(dn sn:List (Str×NameKind))(k:Nat)(fr:List Nat):Bool:=
 (sn.all fun y=>(y.2 != .free||dn.lookup y.1==some .cell)&&(y.2 != .local||sn.lookup y.1==some .local))&&N.length==k+fr.length &&
  (List.range fr.length).all fun j=>match fr[j]? with
   |some i=>(match N[k+j]?,XN[i]? with|some x,some y=>x==y&&dn.lookup x==some .cell&&sn.lookup x==some .free&&sn.all (fun y=> !(y.1==x&&y.2 == .cell))|_,_=>false)
   |none=>false
theorem Zuu(hN:X.N=XN)(hd:X.env.scope.names=dn)(cel:∀x,dn.lookup x=some .cell->∃c,X.env.cells.lookup x=some c)(hk:scope.kind=.function)(h:Zmb XN N dn scope.names k fr=true):Blk X scope (clF scope X.env) N k fr:=by
 unfold Zmb at h;simp only[Bool.and_eq_true,List.all_eq_true,bne_iff_ne,ne_eq,Bool.or_eq_true,beq_iff_eq]at h;obtain⟨⟨h1,h2⟩,h3⟩:=h;have kind:∀x,X.env.kindOf x=dn.lookup x:=fun x=>by rw[<-hd];rfl
 have frc:∀y∈scope.names,y.2=.free->∃c,X.env.cells.lookup y.1=some c:=fun y hy e=>by
  rcases(h1 y hy).1.2 with z|z
  ·exact absurd e z
  ·exact cel _ z
 have sub:∀x c,(clF scope X.env).lookup x=some c->X.env.cells.lookup x=some c:=fun x c e=>by
  unfold clF at e;rw[<-List.map_reverse]at e;obtain⟨e1,y,e2,e3⟩:=Zbd e;have e4:=List.mem_filter.mp (List.mem_reverse.mp e2);obtain⟨c',g⟩:=frc y e4.1 (by simpa using e4.2)
  rw[e3]at g;rw[g]at e1 ⊢;rw[e1];rfl
 have has:∀x,scope.names.lookup x=some .free->∃c,(clF scope X.env).lookup x=some c:=fun x e=>by
  refine Zam ?_;have m:=PySem.mem_of_lookup e;exact⟨(x,(X.env.cells.lookup x).getD 0),List.mem_reverse.mpr (List.mem_map.mpr ⟨(x,.free),List.mem_filter.mpr ⟨m,by simp⟩,rfl⟩),rfl⟩
 refine⟨?_,hk,fun y hy=>(h1 y hy).1.1,fun y hy e=>?_,sub,fun x z=>?_,h2,fun j i e=>?_⟩
 ·have:=Zcz (env:=X.env) scope.names [] frc
  rw[List.append_nil]at this;unfold closureFor;exact(congrArg (fun(m:Sem (List (Str×Addr)))=>m >>= fun cs=>(pure cs:Sem (List (Str×Addr)))) this).trans (pure_bind _ _)
 ·rcases(h1 y hy).2 with z|z
  ·exact absurd e z
  ·exact z
 ·have nc:∀m,X.env.scope.names.lookup m=X.env.kindOf m:=fun m=>rfl;refine has x ?_;rcases z with z|z
  ·rcases ZH nc z with q|q
   ·exact absurd rfl (h1 _ (PySem.mem_of_lookup q)).1.1
   ·exact q.1
  ·rcases ZH nc z with q|q
   ·exact q
   ·cases q.2
 ·have hj:j<fr.length:=(List.getElem?_eq_some_iff.mp e).1;have q:=h3 j (List.mem_range.mpr hj);rw[e]at q;dsimp only at q;cases e1:N[k+j]? with
  |none=>rw[e1]at q;cases q
  |some x=>
   cases e2:XN[i]? with
   |none=>rw[e1,e2]at q;cases q
   |some y=>
    rw[e1,e2]at q;simp only[Bool.and_eq_true,beq_iff_eq]at q;obtain⟨⟨q1,q2⟩,q3⟩:=q;subst q1;obtain⟨kd,r1,r2⟩:=Z2 (env:=X.env) q3;obtain⟨c,r3⟩:=has x q3;refine⟨x,rfl,by rw[hN];exact e2,by rw[kind];exact q2,?_,r3.trans (sub x c r3).symm⟩
    rcases r1 with r1|r1
    ·exact .inl (r1▸r2)
    ·exact .inr (r1▸r2)
theorem Zrk(hN:X.N=XN)(hd:X.env.scope.names=dn)(cel:∀x,dn.lookup x=some .cell->∃c,X.env.cells.lookup x=some c)(hk:scope.kind=.function)(h:Zmc XN N dn scope.names k fr=true):BlkC X scope (clF scope X.env) N k fr:=by
 unfold Zmc at h;simp only[Bool.and_eq_true,List.all_eq_true,bne_iff_ne,ne_eq,Bool.or_eq_true,beq_iff_eq]at h;obtain⟨⟨h1,h2⟩,h3⟩:=h;have kind:∀x,X.env.kindOf x=dn.lookup x:=fun x=>by rw[<-hd];rfl
 have frc:∀y∈scope.names,y.2=.free->∃c,X.env.cells.lookup y.1=some c:=fun y hy e=>by
  rcases(h1 y hy).1 with z|z
  ·exact absurd e z
  ·exact cel _ z
 have sub:∀x c,(clF scope X.env).lookup x=some c->X.env.cells.lookup x=some c:=fun x c e=>by
  unfold clF at e;rw[<-List.map_reverse]at e;obtain⟨e1,y,e2,e3⟩:=Zbd e;have e4:=List.mem_filter.mp (List.mem_reverse.mp e2);obtain⟨c',g⟩:=frc y e4.1 (by simpa using e4.2)
  rw[e3]at g;rw[g]at e1 ⊢;rw[e1];rfl
 have has:∀x,scope.names.lookup x=some .free->∃c,(clF scope X.env).lookup x=some c:=fun x e=>by
  refine Zam ?_;have m:=PySem.mem_of_lookup e;exact⟨(x,(X.env.cells.lookup x).getD 0),List.mem_reverse.mpr (List.mem_map.mpr ⟨(x,.free),List.mem_filter.mpr ⟨m,by simp⟩,rfl⟩),rfl⟩
 refine⟨?_,hk,fun y hy e=>?_,sub,fun n x z=>?_,h2,fun j i e=>?_⟩
 ·have:=Zcz (env:=X.env) scope.names [] frc
  rw[List.append_nil]at this;unfold closureFor;exact(congrArg (fun(m:Sem (List (Str×Addr)))=>m >>= fun cs=>(pure cs:Sem (List (Str×Addr)))) this).trans (pure_bind _ _)
 ·rcases(h1 y hy).2 with z|z
  ·exact absurd e z
  ·exact z
 ·have nc:∀m,X.env.scope.names.lookup m=X.env.kindOf m:=fun m=>rfl;have own:scope.names.lookup x=some .cell->∃c,(cellsFrom n scope.names (clF scope X.env)).lookup x=some c:=fun e=>Option.isSome_iff_exists.mp (PySem.W.cellsFrom_some scope.names n _ (.inl e));have oth:scope.names.lookup x=some .free->∃c,(cellsFrom n scope.names (clF scope X.env)).lookup x=some c:=fun e=>by
   obtain⟨c,hc⟩:=has x e;exact Option.isSome_iff_exists.mp (PySem.W.cellsFrom_some scope.names n _ (.inr (by rw[hc];rfl)))
  rcases z with z|z
  ·rcases ZH nc z with q|q
   ·exact own q
   ·exact oth q.1
  ·rcases ZH nc z with q|q
   ·exact oth q
   ·cases q.2
 ·have hj:j<fr.length:=(List.getElem?_eq_some_iff.mp e).1;have q:=h3 j (List.mem_range.mpr hj);rw[e]at q;dsimp only at q;cases e1:N[k+j]? with
  |none=>rw[e1]at q;cases q
  |some x=>
   cases e2:XN[i]? with
   |none=>rw[e1,e2]at q;cases q
   |some y=>
    rw[e1,e2]at q;simp only[Bool.and_eq_true,beq_iff_eq]at q;obtain⟨⟨⟨q1,q2⟩,q3⟩,q4⟩:=q;subst q1;obtain⟨kd,r1,r2⟩:=Z2 (env:=X.env) q3;obtain⟨c,r3⟩:=has x q3;refine⟨x,rfl,by rw[hN];exact e2,by rw[kind];exact q2,?_,r3.trans (sub x c r3).symm,fun hm=>?_⟩
    ·rcases r1 with r1|r1
     ·exact .inl (r1▸r2)
     ·exact .inr (r1▸r2)
    ·have:=List.all_eq_true.mp q4 _ hm
     simp at this
theorem Zrl(hN:X.N=XN)(hd:X.env.scope.names=dn)(hc:X.env.cells=cellsFrom n dn [])(hk:scope.kind=.function)(h:Zmc XN N dn scope.names k fr=true):BlkC X scope (clF scope X.env) N k fr:=
 Zrk hN hd (fun x e=>by
  have:=PySem.W.cellsFrom_some dn n [] (.inl e)
  rw[hc];exact Option.isSome_iff_exists.mp this) hk h
noncomputable def Zrm(names dn:List (Str×NameKind)):List (Str×NameKind):=names.map fun(n,k)=>if(k==NameKind.free&&dn.lookup n==some .cell)then(n,NameKind.cell)else(n,k)
theorem ZhL{X:Cx}(hd:X.env.scope.names=dn)(hk:X.env.scope.kind=.function):(relabel scope X.env).names=Zrm scope.names dn:=by
 unfold relabel Zrm;rw[<-hd];show scope.names.map _=_;apply List.map_congr_left;rintro⟨n,k⟩ _;have e:(ScopeKind.function==ScopeKind.function)=true:=by decide
 simp only[hk,e,Bool.and_true];rfl
theorem Zrn(B0:BlkC X scope0 cl0 N0 k0 fr0)(hd:X.env.scope.names=dn)(hk0:X.env.scope.kind=.function)(hk:scope.kind=.function)(h:Zmb N0 N (Zrm scope0.names dn) scope.names k fr=true):Blk (Ze5 X scope0 cl0 N0 C fp s H) scope (clF scope (Ze5 X scope0 cl0 N0 C fp s H).env) N k fr:=
 Zuu rfl (ZhL hd hk0) (fun x e=>B0.has _ x (.inl (by rw[ZhL hd hk0];exact e))) hk h
theorem Zj2(B:BlkC X scope cl N k fr)(hi:DI X ξ tg iter fi)(hg:∀C fp s H,DG (Ze5 X scope cl N C fp s H) tg gt)(ht:∀C fp s H,DC (Ze5 X scope cl N C fp s H) ifs c)(he:BlkC X scope cl N k fr->∀C fp s H,DE (Ze5 X scope cl N C fp s H) E0 elt f)(hs:autoParam (∀x,foldedSetIterable iter X.env x=pure x) Qin._auto_1):DE X ξ (.ListComp elt [⟨tg,iter,ifs,0⟩] scope pos) (Zal fi k fr gt c f):=Zj1 B hi hg ht (he B) hs
end DL
namespace DL
open PyProof.Rows L2
open PySem.W (nsIn excIn tailIn nsOkIn mroIn clsIn typeIn findIn specialIn takesIn kitOne Looks)
noncomputable abbrev bmV:List Value:=[.type "ValueError",.type "Exception",.type "BaseException",.type "object"]
noncomputable def Zj3(K:Fg)(c:Str):Option Addr:=match nsIn K mainGlobals c with|some (some (.ref C))=>some C|_=>none
theorem ZfX{K:Fg}(h:Zj3 K c=some C):nsIn K mainGlobals c=some (some (.ref C)):=by
 unfold Zj3 at h
 split at h
 ·rename_i C' e;cases h;exact e
 ·cases h
def ZnB(K:Fg)(c:Str):Bool:=match Zj3 K c with
 |some C=>excIn K C bmV "ValueError.__new__"&&findIn K (.ref C) "__getattribute__"==some (some (.builtin "BaseException.__getattribute__"))&&findIn K (.ref C) "__getattr__"==some none&&findIn K (.ref C) "__class__"==some (some (.builtin "object.__class__")) &&
  specialIn K (.builtin "object.__class__") "__get__"==some (some (.builtin "getset_descriptor.__get__"))&&takesIn K (.builtin "object.__class__")==some true&&mroIn K C (.type "BaseException")==some true&&mroIn K C (.type "object")==some true&&(clsIn K C).isSome
 |none=>false
def ZoF(K:Fg)(c:Str):Bool:=match Zj3 K c with
 |some C=>findIn K (.ref C) "__getattribute__"==some (some (.builtin "BaseException.__getattribute__"))&&findIn K (.ref C) "__getattr__"==some none&&findIn K (.ref C) "__class__"==some (some (.builtin "object.__class__")) &&
  specialIn K (.builtin "object.__class__") "__get__"==some (some (.builtin "getset_descriptor.__get__"))&&takesIn K (.builtin "object.__class__")==some true&&mroIn K C (.type "BaseException")==some true&&mroIn K C (.type "object")==some true&&(clsIn K C).isSome
 |none=>false
theorem ZqL{K:Fg}(h:ZoF K c=true):∃C,nsIn K mainGlobals c=some (some (.ref C))/\DQ.ExcC K C:=by
 unfold ZoF at h
 split at h
 ·rename_i C e;simp only[Bool.and_eq_true,beq_iff_eq]at h;obtain⟨⟨⟨⟨⟨⟨⟨h2,h3⟩,h4⟩,h5⟩,h6⟩,h7⟩,h8⟩,h9⟩:=h;exact⟨C,ZfX e,h2,h3,h4,h5,h6,h7,h8,h9⟩
 ·cases h
theorem Zmd{K:Fg}(h:ZnB K c=true):∃C,nsIn K mainGlobals c=some (some (.ref C))/\excIn K C bmV "ValueError.__new__"=true/\DQ.ExcC K C:=by
 unfold ZnB at h
 split at h
 ·rename_i C e;simp only[Bool.and_eq_true,beq_iff_eq]at h;obtain⟨⟨⟨⟨⟨⟨⟨⟨h1,h2⟩,h3⟩,h4⟩,h5⟩,h6⟩,h7⟩,h8⟩,h9⟩:=h;exact⟨C,ZfX e,h1,h2,h3,h4,h5,h6,h7,h8,h9⟩
 ·cases h
theorem Zme{K:Fg}(X:K.In h)(q:excIn K C bmB newId=true):∃bm N nm q bs hdct sn sub ab col dd k0 k1 k2 k3 k5 mN,h.get? C=some (excClassObj nm q C N bs bm hdct sn sub ab col dd k0 k1 k2 k3 k5 newId)/\h.Ns N mN/\mN "__init__"=none/\OwnTail h bmB bm:=by
 unfold excIn at q
 split at q
 ·rename_i dd cd sl ho
  split at q
  ·rename_i C' bm k0 k1 k2 k3 n k5 hm hs;simp only[Bool.and_eq_true,beq_iff_eq,Bool.not_eq_true']at q;obtain⟨⟨⟨⟨⟨rfl,rfl⟩,hdel⟩,ht⟩,hok⟩,hni⟩:=q;obtain⟨nm,bs,mro,ns,qn,hd,sn,sub,ab,col,del⟩:=cd;dsimp only at hm hdel hok hni;subst hm hdel;obtain⟨l⟩:=sl;simp only at hs;subst hs;exact⟨bm,ns,nm,qn,bs,hd,sn,sub,ab,col,dd,k0,k1,k2,k3,k5,_,X _ _ ho,.of_isNs (PySem.W.isNs_of_in X hok),PySem.W.nsMap_none_of_in X hok hni,PySem.W.tail_of_in X ht⟩
  ·cases q
 ·cases q
theorem ZoG(k:HOk P w H h)(hn:h.get? e=none):H e=none:=by
 cases z:H e with
 |none=>rfl
 |some u=>obtain⟨o,g⟩:=ZfQ (k e u z);rw[hn]at g;cases g
def Zek(c:Str)(fs:Av):Sv:=fun ρ M=>Z3 (fs ρ M) fun ds M1=>if ds.length<=1000 then .exc c M1 else .bad
theorem Zck(T:Thr X ξ)(hx:ZnB X.K x=true)(gl:∀c v,nsIn X.K mainGlobals c=some (some v)->X.mg c=some v)(hh:X.A.handled=none)(ha:DA X ξ (a::as) fs)(hg:autoParam (Gl X x) Qrf._auto_1)(hdb:autoParam ((x==("__debug__":Str))=false) Qde._auto_1)(hf:autoParam (Zl3 x=false) Qde._auto_1)(he:autoParam (starEach (a::as) X.env=(false,eval a X.env)::starEach as X.env) Qrf._auto_1)(hpl:autoParam ((backTo cpos (starEach as X.env)).any (·.1)=false) Qrf._auto_1):DS X ξ (.Raise (some (.Call (.Name x np) (a::as) [] cpos)) none pos) (Zek x fs):=by
 obtain⟨ta,pa,qa⟩:=ha;obtain⟨C,hC,hq,_⟩:=Zmd hx;refine⟨fun Dn σ H=>ta σ H fun vs H1=>vs.length<=sizeLine/\ξ (.ref C) none H1,fun pins s σ H Dn I h=>?_,fun σ ρ H α M Dn s h q=>?_⟩
 ·obtain⟨tl,N,nm,q,bs,hdct,sn,sub,ab,col,dd,k0,k1,k2,k3,k5,mN,gC,hN,hni,TL⟩:=Zme I.ok.mod.kin hq;refine wpAny_Raise_call_subT (C:=C) (nm:=nm) (q:=q) (N:=N) (bs:=bs) (bm:=tl) (hdct:=hdct) (sn:=sn) (sub:=sub) (ab:=ab) (col:=col) (dd:=dd) (k0:=k0) (k1:=k1) (k2:=k2) (k3:=k3) (k5:=k5) F.excBase_ValueError (mN:=mN)
   (TL.hasType F.excBase_ValueError.hasBase) hh (by rw[he];show(false||(backTo cpos (starEach as X.env)).any (·.1))=false;rw[hpl];rfl) hni (Zg3 I hg (gl x _ hC) ⟨rfl,?_⟩ hdb)
  have hs:=pa cpos pins s σ H _ I h;rw[he]at hs ⊢;refine Calls.evalArgs_plain (wpAny_mono hs (fun us s2 ⟨vs,H1,I1,r1,z1,z2⟩=>⟨rfl,by rw[<-r1.length];exact z1,I1.bk _ _ gC,hN.keeps I1.bk,TL.keeps I1.bk,fun h' e m=>?_⟩) fun _ _ y=>y)
  obtain⟨t,g1,g2,g3⟩:=m.there;exact T.mak pins σ H1 H1 s2 {s2 with heap:=h'} e _ _ C I1 rfl I1.bare (Un.kept m.keeps) (I1.hok.kept m.keeps) m.new g1 rfl rfl rfl rfl (ZoG I1.hok m.new) z2
 ·refine qa σ ρ H α M _ s h (FP.seq q fun ds M1 vs H1 α1 e1 h1 r1 w1=>?_);by_cases hl:ds.length<=1000
  ·rw[if_pos hl]at w1;exact⟨by rw[r1.length];exact small hl,w1 C H1 α1 hC Ext.refl none (.inl ⟨hf,h1,rfl⟩)⟩
  ·rw[if_neg hl]at w1;exact w1.elim
end DL
namespace DL
open PyProof.Rows L2
open PySem.W (nsIn excIn tailIn nsOkIn mroIn clsIn typeIn findIn specialIn takesIn kitOne Looks looks_mroIn looks_typeIn)
noncomputable def kpR:List Bool->Ro->Ro
 |b::m,x::r=>(bif b then none else x)::kpR m r
 |_,[]=>[]
 |[],_::r=>none::kpR [] r
def fsE(c:Str)(M:Sto):List D:=if Zl3 c=true then(match M.getLast? with|some (.lst xs)=>xs|none=>[])else[]
def stE(c:Str)(M:Sto):Sto:=if Zl3 c=true then M.dropLast else M
theorem Zro(h:Zl3 c=false):stE c M=M:=by unfold stE;rw[h];rfl
theorem Zrp(h:Zl3 c=true):stE c (M++[.lst ds])=M:=by unfold stE;rw[if_pos h,List.dropLast_concat]
theorem XO.hr{K:Fg}(h:XO K H α c M dct):HR K H α (stE c M):=by
 rcases h with⟨h1,h2,_⟩|⟨h1,M0,ds,dx,fs,rfl,h2,_⟩
 ·rw[Zro h1];exact h2
 ·rw[Zrp h1];exact h2
theorem ZG{A:Around}(hr:Room k (A.deeper env))(h:100<=k):A.handled.isNone=true:=by
 have e:A.handled=none:=hr.hd h;rw[e];rfl
end DL
namespace DL
open PyProof.Rows L2
abbrev Me:=D->List D->Sto->Out D
def MO(X:Cx)(ξ:XK)(r:V->List V->Hp->VK->Prop)(g:Me):Prop:=∀H α M v vs x ds Q,HR X.K H α M->Rep X.K H α v x->Reps X.K H α vs ds->OP X.K H α ξ Q (g x ds M)->r v vs H Q
theorem HR.wrE{K:Fg}(h:HR K H α M)(e:RefK H α 0 n p)(hp:H p=some (.lst ys))(r:Reps K H α xs ds):Ext K H (upd H p (.lst xs)) α α/\HR K (upd H p (.lst xs)) α (M.set n (.lst ds)):=
 ⟨Ext.wr hp,h.wr e hp r⟩
section
variable {ξ:XK}{id:String}{r:V->List V->Hp->VK->Prop}
noncomputable def Zmf(x:D)(M:Sto):Bool:=match x with|.ref n=>M[n]?.isSome|_=>false
def ZgV(g:Me)(fo:Ev)(fs:Av):Ev:=fun ρ M=>(fo ρ M).bind fun x M1=>if Zmf x M1=true then(fs ρ M1).bind fun ds M2=>g x ds M2 else .bad
theorem Zmg{K:Fg}(h:HR K H α M)(rx:Rep K H α v x)(k:Zmf x M=true):tyV K "list" v H:=by
 cases rx with
 |@ref p n hp=>
  obtain⟨xs,g⟩:=h.some_at hp;exact .inl ⟨rfl,_,SqL.of g⟩
 |_=>cases k
theorem Zrq(slot:Slot "list" name id)(hty:typeOf (.builtin id)=pure (.type "method_descriptor"))(hm:MtR X id r)(hf:MO X ξ r g)(ho:DE X ξ o fo)(ha:DA X ξ (e::es) fs)(hbase:autoParam (attributeBase o name X.env (eval o X.env)=eval o X.env) Qrf._auto_1)
  (hfew:((backTo cpos (starEach (e::es) X.env)).all (fun x=> !x.1)&&(backToKw cpos (keywordEach [] X.env)).all (fun x=>x.1.isSome) && decide ((e::es).length+([]:List Keyword).length+(if([]:List Keyword).isEmpty then 0 else 1)<30))=true:=by rfl)
  (hline:(apos.endLine==cpos.line)=true:=by rfl) (hs:starEach (e::es) X.env=(false,eval e X.env)::starEach es X.env:=by rfl) (hplain:(backTo cpos (starEach es X.env)).any (·.1)=false:=by rfl):
  DE X ξ (.Call (.Attribute o name apos) (e::es) [] cpos) (ZgV g fo fs):=by
 obtain⟨to,po,qo⟩:=ho;obtain⟨ta,pa,qa⟩:=ha;refine⟨_,Zrb PySem.F.plainAttrs_list slot hty hm po pa hbase hfew hline hs hplain,fun σ ρ H α M Q s h q=>?_⟩;refine qo σ ρ H α M _ s h (OG.seq q fun x M1 v H1 α1 e1 h1 r1 q1=>?_);by_cases k:Zmf x M1=true
 ·rw[if_pos k]at q1;exact⟨Zmg h1 r1 k,qa σ ρ H1 α1 M1 _ (s.mono e1) h1 (OG.seq q1 fun ds M2 vs H2 α2 e2 h2 r2 q2=>hf H2 α2 M2 v vs x ds Q h2 (Rep.mono e2 r1) r2 q2)⟩
 ·rw[if_neg k]at q1;exact q1.elim
noncomputable def mApp:Me:=fun x ds M=>match x,ds with
 |.ref n,[d]=>(match M[n]? with|some (.lst xs)=>if xs.length<10000000 then .ok .non (M.set n (.lst (xs++[d])))else .bad|none=>.bad)
 |_,_=>.bad
theorem ZoH:MO X ξ rAppend mApp:=by
 intro H α M v vs x ds Q h rx rs q;cases rx with
 |@ref p n hp=>
  match rs with
  |.nil=>exact q.elim
  |.cons _ (.cons _ _)=>exact q.elim
  |.cons (v:=u) (d:=d) ru .nil=>
   cases em:M[n]? with
   |none=>simp only[mApp,em]at q;exact q.elim
   |some so=>
    cases so with
    |lst es=>
     obtain⟨xs,g1,g2⟩:=h.at hp em;by_cases c:es.length<10000000
     ·simp only[mApp,em,if_pos c]at q;obtain⟨k1,k2⟩:=h.wrE hp g1 (g2.append (.cons ru .nil));exact⟨p,xs,u,rfl,rfl,g1,by rw[g2.length];exact Nat.lt_of_lt_of_le c (by decide),q _ _ α k1 k2 .non⟩
     ·simp only[mApp,em,if_neg c]at q;exact q.elim
 |_=>cases rs<;>exact q.elim
theorem Zas(ho:DE X ξ o fo)(ha:DE X ξ e fa)(hbase:autoParam (attributeBase o "append" X.env (eval o X.env)=eval o X.env) Qrf._auto_1)
  (hfew:((backTo cpos (starEach [e] X.env)).all (fun x=> !x.1)&&(backToKw cpos (keywordEach [] X.env)).all (fun x=>x.1.isSome) && decide ([e].length+([]:List Keyword).length+(if([]:List Keyword).isEmpty then 0 else 1)<30))=true:=by rfl)
  (hline:(apos.endLine==cpos.line)=true:=by rfl) (hs:starEach [e] X.env=(false,eval e X.env)::starEach [] X.env:=by rfl) (hplain:(backTo cpos (starEach [] X.env)).any (·.1)=false:=by rfl):
  DE X ξ (.Call (.Attribute o "append" apos) [e] [] cpos) (ZgV mApp fo (Zc fa aNil)):=Zrq PySem.F.slot_list_append PySem.F.type_list_append Zcq ZoH ho (Za ha Ze hs) hbase hfew hline hs hplain
def DO(X:Cx)(ξ:XK)(e:Option Expr)(f:Ro->Sto->Out (Option Int)):Prop:=∃t:TO,PO X e t/\∀σ ρ H α M (Q:Option Int->Hp->Prop),SR X.K H α σ ρ->HR X.K H α M->OG X.K (fun _ _ v d=>v=d) H α ξ Q (f ρ M)->t σ H Q
noncomputable def oNo:Ro->Sto->Out (Option Int):=fun _ M=>.ok none M
def oSo(f:Ev):Ro->Sto->Out (Option Int):=fun ρ M=>(f ρ M).bind fun x M1=>match x with|.int i=>.ok (some i) M1|_=>.bad
theorem Zj4:DO X ξ none oNo:=⟨_,ZlR,fun σ ρ H α M Q s h q=>q none H α Ext.refl h rfl⟩
theorem Zj5(ha:DE X ξ e fa):DO X ξ (some e) (oSo fa):=by
 obtain⟨ta,pa,qa⟩:=ha;refine⟨_,ZlS pa,fun σ ρ H α M Q s h q=>?_⟩;refine qa σ ρ H α M _ s h (OG.seq q fun x M1 v H1 α1 e1 h1 r1 q1=>?_);cases r1 with
 |int i=>exact⟨i,rfl,q1 (some i) H1 α1 Ext.refl h1 rfl⟩
 |_=>exact q1.elim
def Ze6(xs:List D)(lo hi:Option Int):List D:=(xs.drop (HT.sIx xs.length 0 lo)).take (HT.sIx xs.length xs.length hi-HT.sIx xs.length 0 lo)
theorem Reps.drop{K:Fg}{H:Hp}{α:List Addr}:∀(n:Nat){vs:List V}{ds:List D},Reps K H α vs ds->Reps K H α (vs.drop n) (ds.drop n)
 |0,_,_,h=>h
 |_+1,_,_,.nil=>.nil
 |n+1,_,_,.cons _ t=>Reps.drop n t
theorem Reps.take{K:Fg}{H:Hp}{α:List Addr}:∀(n:Nat){vs:List V}{ds:List D},Reps K H α vs ds->Reps K H α (vs.take n) (ds.take n)
 |0,_,_,_=>.nil
 |_+1,_,_,.nil=>.nil
 |n+1,_,_,.cons r t=>.cons r (Reps.take n t)
theorem Reps.cut{K:Fg}(r:Reps K H α vs ds)(lo hi:Option Int):Reps K H α (ZkP vs lo hi) (Ze6 ds lo hi):=by
 unfold ZkP Ze6;rw[r.length];exact(r.drop _).take _
def eSl(f:Ev)(lo hi:Ro->Sto->Out (Option Int)):Ev:=fun ρ M=>(f ρ M).bind fun x M1=>(lo ρ M1).bind fun l M2=>(hi ρ M2).bind fun u M3=>match x with
 |.ref n=>(match M3[n]? with|some (.lst xs)=>.ok (.ref M3.length) (M3++[.lst (Ze6 xs l u)])|none=>.bad)
 |.rol xs=>.ok (.ref M3.length) (M3++[.lst (Ze6 xs l u)])
 |.tup xs=>if HT.sIx xs.length 0 l=0/\HT.sIx xs.length xs.length u=xs.length then .bad else .ok (.tup (Ze6 xs l u)) M3
 |_=>.bad
theorem Zj6{lo:Option Expr}(he:DE X ξ e fa)(hl:DO X ξ lo fl)(hh:DO X ξ hi fh):DE X ξ (.Subscript e (.Slice lo hi none p2) pos) (eSl fa fl fh):=by
 obtain⟨ta,pa,qa⟩:=he;obtain⟨tl,pl,ql⟩:=hl;obtain⟨th,ph,qh⟩:=hh;refine⟨_,ZjH (SlR.or ZlX Zoc) pa pl ph,fun σ ρ H α M Q s h q=>?_⟩;refine qa σ ρ H α M _ s h (OG.seq q fun x M1 v H1 α1 e1 h1 r1 q1=>?_);refine ql σ ρ H1 α1 M1 _ (s.mono e1) h1 (OG.seq q1 fun l M2 l' H2 α2 e2 h2 r2 q2=>?_);refine qh σ ρ H2 α2 M2 _ ((s.mono e1).mono e2) h2 (OG.seq q2 fun u M3 u' H3 α3 e3 h3 r3 q3=>?_);cases r2;cases r3;cases Rep.mono e3 (Rep.mono e2 r1)with
 |@ref p n hp=>
  cases em:M3[n]? with
  |none=>simp only[em]at q3;exact q3.elim
  |some so=>
   cases so with
   |lst es=>
    simp only[em]at q3;obtain⟨xs,g1,g2⟩:=h3.at hp em;exact .inl ⟨p,xs,rfl,SqL.of g1,fun a ha=>q3 _ _ (α3++[a]) (Ext.new ha) (h3.new ha (g2.cut l u)) (.ref ⟨h3.last a,Kn.lst Zs⟩)⟩
 |@rol p xs ds hp rp=>
  have q4:OP X.K H3 α3 ξ Q (.ok (.ref M3.length) (M3++[.lst (Ze6 ds l u)])):=q3;exact .inl ⟨p,xs,rfl,hp.sq,fun a ha=>q4 _ _ (α3++[a]) (Ext.new ha) (h3.new ha (rp.cut l u)) (.ref ⟨h3.last a,Kn.lst Zs⟩)⟩
 |@tup p xs ds hp rp=>
  by_cases c:HT.sIx ds.length 0 l=0/\HT.sIx ds.length ds.length u=ds.length
  ·simp only[if_pos c]at q3;exact q3.elim
  ·simp only[if_neg c]at q3;exact .inr ⟨p,xs,rfl,(SqT.of hp),by rw[rp.length];exact c,fun a ha=>q3 _ _ α3 (Ext.new0 ha) (h3.tup ha) (.tup Zs (Reps.mono (Ext.new0 ha) (rp.cut l u)))⟩
 |_=>exact q3.elim
def iR2(fs:Av):Ro->Sto->Out Src:=fun ρ M=>(fs ρ M).bind fun ds M1=>match ds with
 |[.int i,.int j]=>if -(2^62)<=i/\i<2^62/\ -(2^62)<=j/\j<2^62 then .ok (.pur (Zaf i (j-i).toNat)) M1 else .bad
 |_=>.bad
theorem Zel(hm:X.mg "range"=none)(ha:DA X ξ [a,b] fs)(hgl:autoParam (Gl X "range") Qrf._auto_1)(hs:autoParam (starEach [a,b] X.env=[(false,eval a X.env),(false,eval b X.env)]) Qrf._auto_1)(hs2:autoParam (starEach [b] X.env=[(false,eval b X.env)]) Qrf._auto_1):DI X ξ tg (.Call (.Name "range" p) [a,b] [] pos) (iR2 fs):=by
 obtain⟨ta,pa,qa⟩:=ha;refine⟨_,ZdX hgl hm pa hs hs2,fun σ ρ H α M R s hh q=>qa σ ρ H α M _ s hh (OG.seq q fun ds M1 vs H1 α1 e1 h1 r1 w1=>?_)⟩
 split at w1
 ·rename_i i j;cases r1 with
  |cons r t=>
   cases t with
   |cons r' t=>
    cases t;cases r;cases r';by_cases c: -(2^62)<=i/\i<2^62/\ -(2^62)<=j/\j<2^62
    ·simp only[if_pos c]at w1;exact⟨i,j,rfl,c,w1 _ H1 α1 Ext.refl h1 Zc8⟩
    ·simp only[if_neg c]at w1;exact w1.elim
 ·exact w1.elim
end
end DL
namespace DL
open PyProof.Rows L2
def Zem(tg:Tg)(g:Sv)(src:Src):Nat->Nat->Ro->Sto->Fl
 |f,i,ρ,M=>match nxt src i M with
  |none=>.bad
  |some none=>.nx ρ M
  |some (some d)=>(match f with
   |0=>.bad
   |f+1=>(match tg d ρ with
    |none=>.bad
    |some ρ1=>(match g ρ1 M with
     |.nx ρ2 M2=>Zem tg g src f (i+1) ρ2 M2
     |.cnt ρ2 M2=>Zem tg g src f (i+1) ρ2 M2
     |.brk ρ2 M2=>.nx ρ2 M2
     |o=>o)))
def Ze7(tg:Tg)(fi:Ro->Sto->Out Src)(g:Sv):Sv:=fun ρ M=>Z3 (fi ρ M) fun src M1=>Zem tg g src (cnt src M1) 0 ρ M1
theorem Zdt(hp:PassesOwn (model X.prog X.w) X.A X.env X.xe)(hi:DI X ξ tg iter fi)(hg:DG X tg gt)(hb:DSs X ξ body g)(hf:autoParam (∀x,foldedSetIterable iter X.env x=pure x) Qin._auto_1):DS X ξ (.For tg iter body [] pos) (Ze7 gt fi g):=by
 obtain⟨wi,pi,qi⟩:=hi;obtain⟨tt,pt,qt⟩:=hg;obtain⟨tb,pb,qb⟩:=hb;refine⟨_,ZfE hp pi pt pb hf,fun σ ρ H α M Dn s hh w=>qi σ ρ H α M _ s hh (FP.seq w fun src M1 J H1 α1 e1 h1 sc w1=>?_)⟩;generalize eo:Zem gt g src (cnt src M1) 0 ρ M1=o at w1;refine⟨fun i m σ' H'=>∃ρ' α' M',Ext X.K H1 H' α1 α'/\SR X.K H' α' σ' ρ'/\HR X.K H' α' M'/\Zem gt g src m i ρ' M'=o,⟨cnt src M1,ρ,α1,M1,Ext.refl,s.mono e1,h1,eo⟩,?_⟩;rintro i m σ' H' ⟨ρ',α',M',ex,sr,hr,en⟩;have s5:=sc i H' α' M' ex hr;unfold Zem at en;cases en1:nxt src i M' with
 |none=>rw[en1]at en;cases en;exact w1.elim
 |some od=>
  rw[en1]at en s5;cases od with
  |none=>cases en;exact .inl ⟨s5,w1 σ' H' α' ex hr sr⟩
  |some d=>
   obtain⟨go,yl⟩:=s5;cases m with
   |zero=>cases en;exact w1.elim
   |succ m=>
    simp only at en;refine .inr ⟨go,fun σ2 H2=>∃ρ' α' M',Ext X.K H1 H2 α1 α'/\SR X.K H2 α' σ2 ρ'/\HR X.K H2 α' M'/\Zem gt g src m (i+1) ρ' M'=o,fun σ2 H2 z=>⟨m,Nat.lt_succ_self m,z⟩,fun x H2 y=>?_⟩;obtain⟨ex7,hr7,rp7⟩:=yl x H2 y;exact ZjS (tg:=tg) w1 qt qb (ex.trans ex7) (sr.mono ex7) hr7 rp7 en (fun σ' H' z=>z)
theorem Ze8{ch:List Addr}(I:Inv X pins σ H s)(k:∀b o,b∉ch->s.heap.get? b=some o->h'.get? b=some o)(hf:∀b∈ch,Zca X pins H b):Inv X pins σ H {s with heap:=h',toks:=t'}:=by
 have nit:∀b u,H b=some u->b∉ch:=fun b u e z=>by rw[(hf b z).1]at e;cases e
 have hL:X.env.locals∉ch:=fun z=>(hf _ z).2.1 rfl;refine I.step (g':=s.gens) (d':=s.drawn) (ch:=ch) (fun b hb=>?_) (fun b o _ _ hc e _=>k b o hc e) (fun b o _ _ hc e _=>⟨o.slots,k b o hc e⟩) (fun _ _ _ _ n=>n)
  (fun b o hc e=>⟨o,k b o hc e⟩) (fun _ _ e=>e) (fun _ _ _ e=>e) (fun b ps e=>⟨#[],by rw[e];simp⟩) (fun m hm=>?_) (fun b u e=>?_) I.bare
 ·obtain⟨_,z1,_,z3,z4,z5⟩:=hf b hb;exact⟨z3,z1,z4,z5⟩
 ·obtain⟨o,es,ep,ho,r⟩:=hm;exact⟨o,es,ep,k _ o hL ho,r⟩
 ·refine(I.hok b u e).stay (fun c v hc q=>k c v ?_ q) (fun _ q=>q) fun _ _ q=>q;rcases hc with z|z
  ·rw[z];exact nit b u e
  ·exact nit c _ z
theorem ZhM{ch:List Addr}(I:Inv X pins σ H s)(hf:∀b∈ch,Zca X pins H b)(hlt:∀b∈ch,b<s.heap.objs.size)(rv:ZS vs us)(hz:vs.length<=sizeLine)(k:∀b o,b∉ch->s.heap.get? b=some o->h'.get? b=some o)(ht:h'.get? s.heap.objs.size=some {cls:=.type "tuple",data:=.seq us.toArray}):Inv X pins σ (upd H s.heap.objs.size (.tup vs)) {s with heap:=h',toks:=t'}/\H s.heap.objs.size=none/\∀b∈ch,upd H s.heap.objs.size (.tup vs) b=none:=by
 have fr:H s.heap.objs.size=none:=I.hok.fresh (Nat.le_refl _);have hn:∀b∈ch,upd H s.heap.objs.size (.tup vs) b=none:=fun b hb=>by rw[Zz (Nat.ne_of_lt (hlt b hb))];exact(hf b hb).1
 have I1:Inv X pins σ (upd H s.heap.objs.size (.tup vs)) {s with heap:=s.heap.push {cls:=.type "tuple",data:=.seq us.toArray},toks:=t'}:=
  I.laid (t':=t') (o:=.tup vs) (fun _ _ q=>Hq _ q) (Nat.le_refl _) ⟨hz,us,rv,_,Heap.get?_push_size _ rfl,rfl,_,rfl⟩
 refine⟨Ze8 (s:={s with heap:=s.heap.push {cls:=.type "tuple",data:=.seq us.toArray},toks:=t'}) (t':=t') (ch:=ch) I1 (fun b o hb e=>?_) (fun b hb=>⟨hn b hb,(hf b hb).2⟩),fr,hn⟩;by_cases c:b=s.heap.objs.size
 ·subst c;have e':(s.heap.push {cls:=.type "tuple",data:=.seq us.toArray}).get? s.heap.objs.size=some o:=e;rw[Heap.get?_push_size _ rfl]at e';cases e';exact ht
 ·refine k b o hb ?_;have e':(s.heap.push {cls:=.type "tuple",data:=.seq us.toArray}).get? b=some o:=e;have hl:b<s.heap.objs.size:=by
   have q:b<s.heap.objs.size+1:=by
    have z:=Hz e'
    rwa [Heap.size_push]at z
   exact Nat.lt_of_le_of_ne (Nat.le_of_lt_succ q) c
  have q:(s.heap.push {cls:=.type "tuple",data:=.seq us.toArray}).get? b=s.heap.get? b:=by
   unfold Heap.get? Heap.push;simp only[Array.getElem?_push];rw[if_neg (Nat.ne_of_lt hl)]
  rwa [q]at e'
def Ite(K:Fg)(a:Addr):It:=
 ⟨fun i H=>∃xs x,SqL K H a xs/\xs[i]?=some x,fun i H y H'=>∃p,H p=none/\y=.ref p/\∀xs x,SqL K H a xs->xs[i]?=some x->H'=upd H p (.tup [.int i,x]),fun i H=>∃xs,SqL K H a xs/\xs.length<=i⟩
def Itz(K:Fg)(a b:Addr):It:=
 ⟨fun i H=>∃xs ys x y,SqL K H a xs/\SqL K H b ys/\xs[i]?=some x/\ys[i]?=some y,fun i H v H'=>∃p,H p=none/\v=.ref p/\∀xs ys x y,SqL K H a xs->SqL K H b ys->xs[i]?=some x->ys[i]?=some y->H'=upd H p (.tup [x,y]),fun i H=>∃xs ys,SqL K H a xs/\SqL K H b ys/\(xs.length<=i\/ys.length<=i)⟩
theorem ZhN{K:Fg}(hB:B.handled=none)(a e it:Addr)(hne:e≠it):Turn P w K B (.Tuple elts k0 tp) (Ite K a) [e,it] e (fun i h=>(∃old,IsEnum h e it (i:Int) old)/\h.IsListIter it a i) where
 mem:=by simp
 obj:=fun i h st b hb=>by
  obtain⟨⟨old,h1⟩,o,e2,c2,d2⟩:=st;rcases List.mem_cons.mp hb with z|z
  ·subst z;exact⟨_,h1,fun v z=>by cases z⟩
  ·have z':b=it:=by simpa using z
   subst z';exact⟨o,e2,fun v z=>by rw[d2]at z;cases z⟩
 keep:=fun i h h' st k=>⟨let ⟨old,z⟩:=st.1;⟨old,k e (by simp) _ z⟩,st.2.at fun o z=>k it (by simp) o z⟩
 item:=by
  intro X hP hw hK hA i pins s σ H E I hf st hg;subst hP hw hK hA;obtain⟨⟨old,h1⟩,h2⟩:=st;obtain⟨xs,x,hq,hx⟩:=hg;obtain⟨its,rv,p,hz⟩:=I.list hq;obtain⟨u,hu,ru⟩:=rv.get hx;have lt:∀b∈[e,it],b<s.heap.objs.size:=fun b hb=>by
   rcases List.mem_cons.mp hb with z|z
   ·subst z;exact Hz h1
   ·have z':b=it:=by simpa using z
    subst z';obtain⟨o,e2,_⟩:=h2;exact Hz e2
  refine wpAny_pyNext_enum_item h1 h2 p.isList (x:=u) (by simpa using hu) hne fun h' o1 o2 o3 o4 o5=>⟨_,rfl,?_⟩
  refine wpAny_letOwnedTupleGo_enum (s:={s with heap:=h',toks:=s.toks+1}) o1 fun h'' q1 q2=>?_;have pe:s.heap.objs.size≠e:=Nat.ne_of_gt (lt e (by simp))
  have ie:it≠e:=Ne.symm hne;obtain⟨J1,J2,J3⟩:=ZhM (h':=h'') (t':=s.toks+1) (ch:=[e,it]) (vs:=[.int i,x]) (us:=[.int i s.toks,u]) I hf lt (.cons ⟨_,rfl⟩ (.cons ru .nil)) (by show 2<=sizeLine;decide)
   (fun b o hb z=>by
    have n1:b≠e:=fun y=>hb (by simp[y])
    have n2:b≠it:=fun y=>hb (by simp[y])
    exact(q2.2 b n1).trans (o5 b o n1 n2 z)) ((q2.2 _ pe).trans o3)
  refine⟨.ref s.heap.objs.size,_,J1,rfl,⟨_,J2,rfl,fun ys y hy hy2=>?_⟩,⟨⟨u,by simpa using q1⟩,o2.at fun o z=>(q2.2 it ie).trans z⟩,J3⟩
  rw[I.list_inj hy hq,hx]at hy2;cases hy2;rfl
 done:=by
  intro X hP hw hK hA i pins s σ H E I hf st hg;subst hP hw hK hA;obtain⟨⟨old,h1⟩,h2⟩:=st;obtain⟨xs,hq,hx⟩:=hg;obtain⟨its,rv,p,hz⟩:=I.list hq;obtain⟨f0,f1,f2,f3,f4,f5⟩:=hf it (by simp)
  refine wpAny_pyNext_enum_end hB h1 h2 p.isList (by simp only[List.getElem?_toArray];exact List.getElem?_eq_none (by rw[<-rv.length];exact hx)) fun h' ext=>⟨rfl,?_⟩
  exact I.turned (t':=s.toks) (it:=it) (fun b o hb z=>ext b o hb z) f0 f1 f3 f4 f5
 self:=fun A i s Q E st q=>by
  obtain⟨⟨old,h1⟩,_⟩:=st;have hT:s.TypeIs (.ref e) "enumerate":=⟨_,h1,rfl⟩;refine wpAny_pyIter_slot hT F.slot_enumerate_iter (wpAny_call_entry F.slot_enumerate_iter hT F.entry_enumerate_iter ?_ (F.args_enumerate_iter_1 _));show wpAny _ _ (ret (.ref e)) _ _ s;exact Wp ⟨_,rfl,"enumerate",_,hT,F.slot_enumerate_next.lookup,q⟩
theorem Zdu{K:Fg}(hB:B.handled=none){TI TO:Addr}(D:ZipApart z TI TO i1 i2 a b):Turn P w K B (.Tuple elts k0 tp) (Itz K a b) [z,TI,TO,i1,i2] z (fun i h=>IsZip h z TI TO .none/\IsPair h TI (.ref i1) (.ref i2)/\(∃x y,IsPair h TO x y)/\h.IsListIter i1 a i/\h.IsListIter i2 b i) where
 mem:=by simp
 obj:=fun i h st c hc=>by
  obtain⟨h1,h2,⟨x,y,h3⟩,⟨o4,e4,c4,d4⟩,⟨o5,e5,c5,d5⟩⟩:=st;simp only[List.mem_cons,List.not_mem_nil,or_false]at hc;rcases hc with rfl|rfl|rfl|rfl|rfl
  ·exact⟨_,h1,fun v q=>by cases q⟩
  ·exact⟨_,h2,fun v q=>by cases q⟩
  ·exact⟨_,h3,fun v q=>by cases q⟩
  ·exact⟨o4,e4,fun v q=>by rw[d4]at q;cases q⟩
  ·exact⟨o5,e5,fun v q=>by rw[d5]at q;cases q⟩
 keep:=fun i h h' st k=>by
  obtain⟨h1,h2,⟨x,y,h3⟩,h4,h5⟩:=st;exact⟨k z (by simp) _ h1,k TI (by simp) _ h2,⟨x,y,k TO (by simp) _ h3⟩,h4.at fun o q=>k i1 (by simp) o q,h5.at fun o q=>k i2 (by simp) o q⟩
 item:=by
  intro X hP hw hK hA i pins s σ H E I hf st hg;subst hP hw hK hA;obtain⟨h1,h2,⟨x0,y0,h3⟩,h4,h5⟩:=st;obtain⟨xs,ys,x,y,hq,hq2,hx,hy⟩:=hg;obtain⟨its,rv,p,hz⟩:=I.list hq;obtain⟨its2,rv2,p2,hz2⟩:=I.list hq2;obtain⟨u,hu,ru⟩:=rv.get hx;obtain⟨u2,hu2,ru2⟩:=rv2.get hy;have lt:∀c∈[z,TI,TO,i1,i2],c<s.heap.objs.size:=fun c hc=>by
   simp only[List.mem_cons,List.not_mem_nil,or_false]at hc;rcases hc with rfl|rfl|rfl|rfl|rfl
   ·exact Hz h1
   ·exact Hz h2
   ·exact Hz h3
   ·obtain⟨o,e2,_⟩:=h4;exact Hz e2
   ·obtain⟨o,e2,_⟩:=h5;exact Hz e2
  refine wpAny_pyNext_zip_item D h1 h2 h3 h4 h5 p.isList p2.isList (x:=u) (y:=u2) (by simpa using hu) (by simpa using hu2) fun h' o1 o2 o3 o4 o5 o6 o7=>⟨_,rfl,?_⟩
  refine wpAny_letOwnedTupleGo_zip (s:={s with heap:=h'}) o1 fun h'' q1 q2=>?_;have pe:s.heap.objs.size≠z:=Nat.ne_of_gt (lt z (by simp))
  obtain⟨J1,J2,J3⟩:=ZhM (h':=h'') (t':=s.toks) (ch:=[z,TI,TO,i1,i2]) (vs:=[x,y]) (us:=[u,u2]) I hf lt (.cons ru (.cons ru2 .nil)) (by show 2<=sizeLine;decide)
   (fun c o hc q=>by
    simp only[List.mem_cons,List.not_mem_nil,or_false,not_or]at hc;exact(q2.2 c hc.1).trans (o7 c o hc.1 hc.2.2.1 hc.2.2.2.1 hc.2.2.2.2 q)) ((q2.2 _ pe).trans o5)
  refine⟨.ref s.heap.objs.size,_,J1,rfl,⟨_,J2,rfl,fun xs' ys' x' y' hx1 hy1 hx2 hy2=>?_⟩,⟨q1,(q2.2 TI D.TIz).trans (o7 TI _ D.TIz D.TITO D.TIi1 D.TIi2 h2),⟨u,u2,(q2.2 TO D.TOz).trans o2⟩,o3.at fun o q=>(q2.2 i1 D.i1z).trans q,o4.at fun o q=>(q2.2 i2 D.i2z).trans q⟩,J3⟩;rw[I.list_inj hx1 hq,hx]at hx2;rw[I.list_inj hy1 hq2,hy]at hy2;cases hx2;cases hy2;rfl
 done:=by
  intro X hP hw hK hA i pins s σ H E I hf st hg;subst hP hw hK hA;obtain⟨h1,h2,⟨x0,y0,h3⟩,h4,h5⟩:=st;obtain⟨xs,ys,hq,hq2,hx⟩:=hg;obtain⟨its,rv,p,hz⟩:=I.list hq;obtain⟨its2,rv2,p2,hz2⟩:=I.list hq2;have he:its.toArray[i]?=none\/its2.toArray[i]?=none:=by
   rcases hx with hx|hx
   ·exact .inl (by simp only[List.getElem?_toArray];exact List.getElem?_eq_none (by rw[<-rv.length];exact hx))
   ·exact .inr (by simp only[List.getElem?_toArray];exact List.getElem?_eq_none (by rw[<-rv2.length];exact hx))
  refine wpAny_pyNext_zip_end hB D h1 h2 h3 h4 h5 p.isList p2.isList he fun h' keep=>⟨rfl,?_⟩;refine Ze8 (t':=s.toks) (ch:=[z,TI,TO,i1,i2]) I (fun c o hc q=>?_) hf;simp only[List.mem_cons,List.not_mem_nil,or_false,not_or]at hc;exact keep c o hc.1 hc.2.2.1 hc.2.2.2.1 hc.2.2.2.2 q
 self:=fun A i s Q E st q=>wpAny_pyIter_zip st.1 q
theorem ZhO{n:Nat}(h1:a<n)(h2:b<n):ZipApart (n+4) (n+2) (n+3) n (n+1) a b:=⟨Nat.ne_of_lt (by lia),Nat.ne_of_lt (by lia),Nat.ne_of_lt (by lia),Nat.ne_of_lt (by lia),Nat.ne_of_lt (by lia),Nat.ne_of_gt (by lia),Nat.ne_of_gt (by lia),Nat.ne_of_gt (by lia),Nat.ne_of_gt (by lia),Nat.ne_of_lt (by lia),Nat.ne_of_lt (by lia),Nat.ne_of_lt (by lia),Nat.ne_of_lt (by lia),Nat.ne_of_lt (by lia),Nat.ne_of_lt (by lia),Nat.ne_of_lt (by lia),Nat.ne_of_lt (by lia),Nat.ne_of_lt (by lia)⟩
theorem Zk7:bootBuiltins "zip"=some (.type "zip"):=by decide +kernel
theorem Zen:bootBuiltins "enumerate"=some (.type "enumerate"):=by decide +kernel
def Zrr(K:Fg)(t:TA):TI:=fun σ H R=>t σ H fun vs H1=>∃l xs,vs=[.ref l]/\SqL K H1 l xs/\R (Ite K l) H1
def Zrs(K:Fg)(t:TA):TI:=fun σ H R=>t σ H fun vs H1=>∃l l2 xs ys,vs=[.ref l,.ref l2]/\SqL K H1 l xs/\SqL K H1 l2 ys/\R (Itz K l l2) H1
theorem Zmh(hc:X.A.handled=none)(hg:Gl X "enumerate")(hm:X.mg "enumerate"=none)(ha:PA X [a] ta)(hs:autoParam (starEach [a] X.env=(false,eval a X.env)::starEach [] X.env) Qrf._auto_1)(hpl:autoParam ((backTo pos (starEach [] X.env)).any (·.1)=false) Qrf._auto_1):
  PI X (.Tuple elts k0 tp) (.Call (.Name "enumerate" p) [a] [] pos) (Zrr X.K ta):=by
 intro pins s σ H R I h;refine wpAny_Call_Name_kw (Zbg I hg hm Zen (PyProof.Rows.callWith_type1 (thn (ha pos pins s σ H _ I h) fun us s1 ⟨vs,H1,I1,r1,q1⟩=>?_) hs hpl) (by decide) (by decide))
 obtain⟨l,xs,rfl,hq,q⟩:=q1;obtain⟨u,rfl,ru⟩:=ZcY r1;cases ru;obtain⟨its,rv,pl,hz⟩:=I1.list hq;refine call_enumerate_list pl.isList fun h' e1 e2 e3 e4=>?_;have T:=ZhN (P:=X.prog) (w:=X.w) (K:=X.K) (B:=X.A) (elts:=elts) (k0:=k0) (tp:=tp) hc l (s1.heap.objs.size+1) s1.heap.objs.size (Nat.ne_of_gt (Nat.lt_succ_self _));have I2:Inv X pins σ H1 {s1 with heap:=h',toks:=s1.toks}:=I1.kept (t':=s1.toks) e4;refine T.self X.A 0 {s1 with heap:=h'} _ _ ⟨⟨_,e1⟩,e2⟩ ⟨_,_,_,_,H1,rfl,I2,T,⟨⟨_,e1⟩,e2⟩,fun b hb=>?_,q⟩;have hb':s1.heap.objs.size<=b:=by
  simp only[List.mem_cons,List.not_mem_nil,or_false]at hb;rcases hb with rfl|rfl<;>lia
 exact I1.fpOk hb' (I1.hok.fresh hb')
theorem ZhP(hc:X.A.handled=none)(hg:Gl X "zip")(hm:X.mg "zip"=none)(ha:PA X [a,b] ta)(hs:autoParam (starEach [a,b] X.env=(false,eval a X.env)::starEach [b] X.env) Qrf._auto_1)(hpl:autoParam ((backTo pos (starEach [b] X.env)).any (·.1)=false) Qrf._auto_1):
  PI X (.Tuple elts k0 tp) (.Call (.Name "zip" p) [a,b] [] pos) (Zrs X.K ta):=by
 intro pins s σ H R I h;refine wpAny_Call_Name_kw (Zbg I hg hm Zk7 (PyProof.Rows.callWith_type1 (thn (ha pos pins s σ H _ I h) fun us s1 ⟨vs,H1,I1,r1,q1⟩=>?_) hs hpl) (by decide) (by decide))
 obtain⟨l,l2,xs,ys,rfl,hq,hq2,q⟩:=q1;obtain⟨u,u2,rfl,ru,ru2⟩:=ZjD r1;cases ru;cases ru2;obtain⟨its,rv,pl,hz⟩:=I1.list hq;obtain⟨its2,rv2,pl2,hz2⟩:=I1.list hq2;have lt1:l<s1.heap.objs.size:=by obtain⟨_,e,_⟩:=pl.isList;exact Hz e
 have lt2:l2<s1.heap.objs.size:=by obtain⟨_,e,_⟩:=pl2.isList;exact Hz e
 refine call_zip_2 pl.isList pl2.isList fun h' e1 e2 e3 e4 e5 e6 e7=>?_;have D:=ZhO lt1 lt2;have T:=Zdu (P:=X.prog) (w:=X.w) (K:=X.K) (B:=X.A) (elts:=elts) (k0:=k0) (tp:=tp) hc D;have I2:Inv X pins σ H1 {s1 with heap:=h',toks:=s1.toks}:=I1.kept (t':=s1.toks) e7;refine T.self X.A 0 {s1 with heap:=h'} _ _ ⟨e1,e2,⟨_,_,e3⟩,e4,e5⟩ ⟨_,_,_,_,H1,rfl,I2,T,⟨e1,e2,⟨_,_,e3⟩,e4,e5⟩,fun c hc=>?_,q⟩;have hb':s1.heap.objs.size<=c:=by
  simp only[List.mem_cons,List.not_mem_nil,or_false]at hc;rcases hc with rfl|rfl|rfl|rfl|rfl<;>lia
 exact I1.fpOk hb' (I1.hok.fresh hb')
def iEn(fs:Av):Ro->Sto->Out Src:=fun ρ M=>(fs ρ M).bind fun ds M1=>match ds with|[.ref n]=>.ok (.enu n) M1|_=>.bad
def iZp(fs:Av):Ro->Sto->Out Src:=fun ρ M=>(fs ρ M).bind fun ds M1=>match ds with|[.ref n,.ref m]=>.ok (.zip n m) M1|_=>.bad
theorem Zmi(hc:X.A.handled=none)(hm:X.mg "enumerate"=none)(ha:DA X ξ [a] fs)(hg:autoParam (Gl X "enumerate") Qrf._auto_1)(hs:autoParam (starEach [a] X.env=(false,eval a X.env)::starEach [] X.env) Qrf._auto_1)(hpl:autoParam ((backTo pos (starEach [] X.env)).any (·.1)=false) Qrf._auto_1):
  DI X ξ (.Tuple elts k0 tp) (.Call (.Name "enumerate" p) [a] [] pos) (iEn fs):=by
 obtain⟨ta,pa,qa⟩:=ha;refine⟨_,Zmh hc hg hm pa hs hpl,fun σ ρ H α M R s hh q=>qa σ ρ H α M _ s hh (OG.seq q fun ds M1 vs H1 α1 e1 h1 r1 w1=>?_)⟩
 match r1 with
 |.nil=>exact w1.elim
 |.cons r (.cons _ _)=>cases r<;>exact w1.elim
 |.cons r .nil=>
  cases r with
  |@ref l n hp=>
   obtain⟨xs0,g0⟩:=h1.some_at hp;refine⟨l,xs0,rfl,SqL.of g0,w1 _ H1 α1 Ext.refl h1 fun i H' α' M' ex hr=>?_⟩;cases em:M'[n]? with
   |none=>rw[show nxt (.enu n) i M'=none by simp only[nxt,em]];exact True.intro
   |some so=>
    cases so with
    |lst es=>
     obtain⟨xs,g1,g2⟩:=hr.at (ex.get hp) em;cases ei:es[i]? with
     |none=>rw[show nxt (.enu n) i M'=some none by simp only[nxt,em,ei]];exact⟨xs,SqL.of g1,by rw[g2.length];exact List.getElem?_eq_none_iff.mp ei⟩
     |some d=>
      obtain⟨v,k1,k2⟩:=g2.get ei;rw[show nxt (.enu n) i M'=some (some (D.tup [D.int i,d]))by simp only[nxt,em,ei]]
      refine⟨⟨xs,v,SqL.of g1,k1⟩,fun x H'' y=>?_⟩;obtain⟨pp,y1,rfl,y3⟩:=y;have y4:=y3 xs v (SqL.of g1) k1;subst y4;exact⟨Ext.new0 y1,hr.tup y1,.tup Zs (.cons (.int i) (.cons (Rep.mono (Ext.new0 y1) k2) .nil))⟩
  |_=>exact w1.elim
theorem Zeo(hc:X.A.handled=none)(hm:X.mg "zip"=none)(ha:DA X ξ [a,b] fs)(hg:autoParam (Gl X "zip") Qrf._auto_1)(hs:autoParam (starEach [a,b] X.env=(false,eval a X.env)::starEach [b] X.env) Qrf._auto_1)(hpl:autoParam ((backTo pos (starEach [b] X.env)).any (·.1)=false) Qrf._auto_1):
  DI X ξ (.Tuple elts k0 tp) (.Call (.Name "zip" p) [a,b] [] pos) (iZp fs):=by
 obtain⟨ta,pa,qa⟩:=ha;refine⟨_,ZhP hc hg hm pa hs hpl,fun σ ρ H α M R s hh q=>qa σ ρ H α M _ s hh (OG.seq q fun ds M1 vs H1 α1 e1 h1 r1 w1=>?_)⟩
 split at w1
 ·rename_i n m;cases r1 with
  |cons r t=>
   cases t with
   |cons r' t=>
    cases t;cases r with
    |ref hp=>
    cases r' with
    |ref hp2=>
    rename_i l l2;obtain⟨xs0,g0⟩:=h1.some_at hp;obtain⟨ys0,g0'⟩:=h1.some_at hp2;refine⟨l,l2,xs0,ys0,rfl,SqL.of g0,SqL.of g0',w1 _ H1 α1 Ext.refl h1 fun i H' α' M' ex hr=>?_⟩;cases em:M'[n]? with
    |none=>rw[show nxt (.zip n m) i M'=none by simp only[nxt,em]];exact True.intro
    |some so=>
     cases em2:M'[m]? with
     |none=>cases so;rw[show nxt (.zip n m) i M'=none by simp only[nxt,em,em2]];exact True.intro
     |some so2=>
      cases so with
      |lst es=>
       cases so2 with
       |lst es2=>
        obtain⟨xs,g1,g2⟩:=hr.at (ex.get hp) em;obtain⟨ys,g3,g4⟩:=hr.at (ex.get hp2) em2;cases ei:es[i]? with
        |none=>rw[show nxt (.zip n m) i M'=some none by simp only[nxt,em,em2,ei]];exact⟨xs,ys,SqL.of g1,SqL.of g3,.inl (by rw[g2.length];exact List.getElem?_eq_none_iff.mp ei)⟩
        |some d=>
         cases ej:es2[i]? with
         |none=>rw[show nxt (.zip n m) i M'=some none by simp only[nxt,em,em2,ei,ej]];exact⟨xs,ys,SqL.of g1,SqL.of g3,.inr (by rw[g4.length];exact List.getElem?_eq_none_iff.mp ej)⟩
         |some d2=>
          obtain⟨v,k1,k2⟩:=g2.get ei;obtain⟨v2,k3,k4⟩:=g4.get ej;rw[show nxt (.zip n m) i M'=some (some (D.tup [d,d2]))by simp only[nxt,em,em2,ei,ej]]
          refine⟨⟨xs,ys,v,v2,SqL.of g1,SqL.of g3,k1,k3⟩,fun x H'' y=>?_⟩;obtain⟨pp,y1,rfl,y3⟩:=y;have y4:=y3 xs ys v v2 (SqL.of g1) (SqL.of g3) k1 k3;subst y4;exact⟨Ext.new0 y1,hr.tup y1,.tup Zs (.cons (Rep.mono (Ext.new0 y1) k2) (.cons (Rep.mono (Ext.new0 y1) k4) .nil))⟩
 ·exact w1.elim
end DL
namespace DL
open PyProof.Rows L2
open PySem.SeqAt (EqAt RcAt RcNeAt)
inductive Ks(X:Cx) (H:Hp) (α:List Addr):Kd->Kd->Prop where
 |non:Ks X H α .non .non
 |bl (b:Bool):Ks X H α (.bl b) (.bl b)
 |int (i:Int):Ks X H α (.int i) (.int i)
 |str (x:Str):Ks X H α (.str x) (.str x)
 |tup {vs:List V} {ds es:List D}:Reps X.K H α vs ds->Reps X.K H α vs es->Ks X H α (.tup ds) (.tup es)
 |lst {vs:List V} {ds es:List D}:Reps X.K H α vs ds->Reps X.K H α vs es->Ks X H α (.lst ds) (.lst es)
section
variable {X:Cx}{pins:Pn}{σ:L2.St}{H:Hp}{s:Shared}{α:List Addr}{M:Sto}
theorem ZoI(h:HR X.K H α M){x:D}(r:Rep X.K H α v x)(e:kd M x=some k):(match k with|.tup ds=>∃p vs,v=.ref p/\SqT X.K H p vs/\Reps X.K H α vs ds|.lst ds=>∃p vs,v=.ref p/\SqL X.K H p vs/\Reps X.K H α vs ds|.non=>v=.non|.bl b=>v=.bl b|.int i=>v=.int i|.str x=>v=.str x):=by
 cases r with
 |non=>cases e;rfl
 |bl b=>cases e;rfl
 |int i=>cases e;rfl
 |str x=>cases e;rfl
 |err _ _ _=>cases e
 |dk _=>cases e
 |dt _=>cases e
 |du _=>cases e
 |fn _=>cases e
 |@tup p xs ds hp rp=>cases e;exact⟨p,xs,rfl,(SqT.of hp),rp⟩
 |@con p xs ds hp rp=>cases e;exact⟨p,xs,rfl,hp.sq,rp⟩
 |@rol p xs ds hp rp=>cases e;exact⟨p,xs,rfl,hp.sq,rp⟩
 |@ref p n hp=>
  cases e1:M[n]? with
  |none=>simp only[kd,e1]at e;cases e
  |some o=>
   cases o with
   |lst ds=>
    simp only[kd,e1]at e;cases e;obtain⟨xs,g1,r1⟩:=h.at hp e1;exact⟨p,xs,rfl,SqL.of g1,r1⟩
theorem ZhQ(I:Inv X pins σ H s)(h:HR X.K H α M)(rx:Rep X.K H α v x)(ry:Rep X.K H α v y)(ex:kd M x=some k)(ey:kd M y=some l):Ks X H α k l:=by
 have a:=ZoI h rx ex;have b:=ZoI h ry ey;have nl:∀{p:Addr}{xs ys:List V},SqT X.K H p xs->SqL X.K H p ys->False:=fun{p xs ys} a c=>by
  obtain⟨i1,_,⟨o1,g1,c1,_⟩,_⟩:=I.tuple a;obtain⟨i2,_,⟨o2,_,g2,c2,_⟩,_⟩:=I.list c;rw[g1]at g2;cases g2;rw[c1]at c2;exact absurd c2 (by decide)
 cases k with
 |non=>cases a;cases l<;>first|(cases b;done)|exact .non|(obtain⟨_,_,q,_⟩:=b;cases q)
 |bl c=>cases a;cases l<;>first|(cases b;done)|(cases b;exact .bl c)|(obtain⟨_,_,q,_⟩:=b;cases q)
 |int c=>cases a;cases l<;>first|(cases b;done)|(cases b;exact .int c)|(obtain⟨_,_,q,_⟩:=b;cases q)
 |str c=>cases a;cases l<;>first|(cases b;done)|(cases b;exact .str c)|(obtain⟨_,_,q,_⟩:=b;cases q)
 |tup ds=>
  obtain⟨p,vs,rfl,q1,q2⟩:=a;cases l with
  |tup es=>
   obtain⟨p2,vs2,e2,q3,q4⟩:=b;cases e2;cases I.tuple_inj q1 q3;exact .tup q2 q4
  |lst es=>
   obtain⟨p2,vs2,e2,q3,q4⟩:=b;cases e2;exact(nl q1 q3).elim
  |_=>cases b
 |lst ds=>
  obtain⟨p,vs,rfl,q1,q2⟩:=a;cases l with
  |lst es=>
   obtain⟨p2,vs2,e2,q3,q4⟩:=b;cases e2;cases I.list_inj q1 q3;exact .lst q2 q4
  |tup es=>
   obtain⟨p2,vs2,e2,q3,q4⟩:=b;cases e2;exact(nl q3 q1).elim
  |_=>cases b
theorem Zk8(I:Inv X pins σ H s)(h:HR X.K H α M):∀(n:Nat){v w:V}{x x' y y':D}{b b':Bool},Rep X.K H α v x->Rep X.K H α v x'->Rep X.K H α w y->Rep X.K H α w y'->eqF n M x y=some b->eqF n M x' y'=some b'->b=b':=by
 intro n
 induction n with
 |zero=>intro v w x x' y y' b b' _ _ _ _ e;simp only[eqF]at e;cases e
 |succ n ih=>
  have lists:∀(vs ws:List V)(xs xs' ys ys':List D)(b b':Bool),Reps X.K H α vs xs->Reps X.K H α vs xs'->Reps X.K H α ws ys->Reps X.K H α ws ys'->eqL (eqF n M) xs ys=some b->eqL (eqF n M) xs' ys'=some b'->b=b':=by
   intro vs
   induction vs with
   |nil=>
    intro ws xs xs' ys ys' b b' r1 r2 r3 r4 e e';cases r1;cases r2;cases r3 with
    |nil=>cases r4;simp only[eqL,Option.some.injEq]at e e';rw[<-e,<-e']
    |cons _ _=>cases r4;simp only[eqL,Option.some.injEq]at e e';rw[<-e,<-e']
   |cons v vs iv=>
    intro ws xs xs' ys ys' b b' r1 r2 r3 r4 e e';cases r1 with
    |cons p1 t1=>
     cases r2 with
     |cons p2 t2=>
      cases r3 with
      |nil=>cases r4;simp only[eqL,Option.some.injEq]at e e';rw[<-e,<-e']
      |cons p3 t3=>
       cases r4 with
       |cons p4 t4=>
        rename_i d1 ds1 d2 ds2 w d3 ws ds3 d4 ds4;cases a1:eqF n M d1 d3 with
        |none=>simp only[eqL,a1]at e;cases e
        |some a=>
         cases a2:eqF n M d2 d4 with
         |none=>simp only[eqL,a2]at e';cases e'
         |some a'=>
          cases c1:eqL (eqF n M) ds1 ds3 with
          |none=>simp only[eqL,a1,c1]at e;cases e
          |some c=>
           cases c2:eqL (eqF n M) ds2 ds4 with
           |none=>simp only[eqL,a2,c2]at e';cases e'
           |some c'=>
            simp only[eqL,a1,c1,Option.some.injEq]at e;simp only[eqL,a2,c2,Option.some.injEq]at e';rw[<-e,<-e',ih p1 p2 p3 p4 a1 a2,iv _ _ _ _ _ _ _ t1 t2 t3 t4 c1 c2]
  intro v w x x' y y' b b' rx rx' ry ry' e e';unfold eqF at e e';cases k1:kd M x with
  |none=>rw[k1]at e;cases e
  |some ka=>
   cases k2:kd M y with
   |none=>rw[k1,k2]at e;cases e
   |some kb=>
    cases k3:kd M x' with
    |none=>rw[k3]at e';cases e'
    |some ka'=>
     cases k4:kd M y' with
     |none=>rw[k3,k4]at e';cases e'
     |some kb'=>
      rw[k1,k2]at e;rw[k3,k4]at e';have s1:=ZhQ I h rx rx' k1 k3;have s2:=ZhQ I h ry ry' k2 k4;cases s1 with
      |tup a1 a2=>
       cases s2 with
       |tup b1 b2=>simp only[eqK]at e e';exact lists _ _ _ _ _ _ _ _ a1 a2 b1 b2 e e'
       |_=>simp only[eqK,Option.some.injEq]at e e';rw[<-e,<-e']
      |lst a1 a2=>
       cases s2 with
       |lst b1 b2=>
        simp only[eqK]at e e';rw[<-a1.length,<-b1.length]at e;rw[<-a2.length,<-b2.length]at e'
        split at e
        ·rename_i c;rw[if_pos c]at e';exact lists _ _ _ _ _ _ _ _ a1 a2 b1 b2 e e'
        ·rename_i c;rw[if_neg c]at e';cases e;cases e';rfl
       |_=>simp only[eqK,Option.some.injEq]at e e';rw[<-e,<-e']
      |_=>cases s2<;>(simp only[eqK,Option.some.injEq]at e e';rw[<-e,<-e'])
def eqs(M:Sto)(d:D):List D->Option (List Bool)
 |[]=>some []
 |x::r=>match eqF 12 M x d with|some b=>(match eqs M d r with|some bs=>some (b::bs)|none=>none)|none=>none
theorem ZhR:∀{M:Sto}{d:D}{xs:List D}{bs:List Bool},eqs M d xs=some bs->bs.length=xs.length
 |_,_,[],_,e=>by cases e;rfl
 |M,d,x::r,bs,e=>by
  cases e1:eqF 12 M x d with
  |none=>simp only[eqs,e1]at e;cases e
  |some b=>
   cases e2:eqs M d r with
   |none=>simp only[eqs,e1,e2]at e;cases e
   |some cs=>simp only[eqs,e1,e2,Option.some.injEq]at e;subst e;rw[List.length_cons,List.length_cons,ZhR e2]
theorem ZhS:∀{M:Sto}{d:D}{xs:List D}{bs:List Bool}{i:Nat}{x:D},eqs M d xs=some bs->xs[i]?=some x->∃b,bs[i]?=some b/\eqF 12 M x d=some b
 |_,_,[],_,i,x,e,hx=>by simp at hx
 |M,d,y::r,bs,i,x,e,hx=>by
  cases e1:eqF 12 M y d with
  |none=>simp only[eqs,e1]at e;cases e
  |some b=>
   cases e2:eqs M d r with
   |none=>simp only[eqs,e1,e2]at e;cases e
   |some cs=>
    simp only[eqs,e1,e2,Option.some.injEq]at e;subst e;cases i with
    |zero=>simp at hx;subst hx;exact⟨b,rfl,e1⟩
    |succ i=>simp at hx;obtain⟨b',q1,q2⟩:=ZhS e2 hx;exact⟨b',by simpa using q1,q2⟩
open Classical in
theorem ZhT{A:Around}(hu:A.units+64<cLine)(I:Inv X pins σ H s)(h:HR X.K H α M)(rv:ZS vs us)(rp:Reps X.K H α vs ds)(ru:ZR v u)(rd:Rep X.K H α v d)(e:eqs M d ds=some bs):∃f:Value->Bool,(∀y,y∈us.toArray->EqAt A.in1 s y u (f y))/\us.map f=bs:=by
 have ll:us.length=ds.length:=by rw[<-rv.length,rp.length]
 have at_:∀(i:Nat) y,us[i]?=some y->∃w x b,ZR w y/\Rep X.K H α w x/\bs[i]?=some b/\eqF 12 M x d=some b:=fun i y hy=>by
  have hi:i<ds.length:=by rw[<-ll];exact(List.getElem?_eq_some_iff.mp hy).1
  obtain⟨w,a1,a2⟩:=rp.get (Gq hi);obtain⟨y',a3,a4⟩:=rv.get a1;rw[hy]at a3;cases a3;obtain⟨b,a5,a6⟩:=ZhS e (Gq hi);exact⟨w,_,b,a4,a2,a5,a6⟩
 refine⟨fun y=>decide (∃w x,ZR w y/\Rep X.K H α w x/\eqF 12 M x d=some true),fun y hy=>?_,?_⟩
 ·obtain⟨i,hi,ey⟩:=List.getElem_of_mem (by simpa using hy)
  obtain⟨w,x,b,q1,q2,q3,q4⟩:=at_ i y (by rw[List.getElem?_eq_getElem hi,ey])
  have hb:decide (∃w x,ZR w y/\Rep X.K H α w x/\eqF 12 M x d=some true)=b:=by
   cases b with
   |true=>exact decide_eq_true ⟨w,x,q1,q2,q4⟩
   |false=>
    refine decide_eq_false fun⟨w',x',z1,z2,z3⟩=>?_;cases ZR.inj z1 q1
    have:=Zk8 I h 12 z2 q2 rd rd z3 q4
    cases this
  show EqAt A.in1 s y u (decide (∃w x,ZR w y/\Rep X.K H α w x/\eqF 12 M x d=some true));rw[hb];exact(eq3 I h 12 x d w v y u b A.in1 (by rw[Around.in1_units];lia) q4 q2 rd q1 ru).1
 ·apply List.ext_getElem?;intro i;rw[List.getElem?_map];cases hy:us[i]? with
  |none=>
   have:bs[i]?=none:=List.getElem?_eq_none (by rw[ZhR e,<-ll];exact List.getElem?_eq_none_iff.mp hy)
   rw[this];rfl
  |some y=>
   obtain⟨w,x,b,q1,q2,q3,q4⟩:=at_ i y hy;rw[q3];show some _=some b;congr 1;cases b with
   |true=>exact decide_eq_true ⟨w,x,q1,q2,q4⟩
   |false=>
    refine decide_eq_false fun⟨w',x',z1,z2,z3⟩=>?_;cases ZR.inj z1 q1
    have:=Zk8 I h 12 z2 q2 rd rd z3 q4
    cases this
end
def Zti(X:Cx)(neg:Bool):R2:=fun v w H Q=>∃α M d x ds bs p vs,HR X.K H α M/\Rep X.K H α v d/\w=.ref p/\(SqL X.K H p vs\/SqT X.K H p vs)/\Reps X.K H α vs ds/\Zea M x=some ds/\eqs M d ds=some bs/\Q (.bl (neg ^^ bs.any id)) H
theorem any_map{us:List Value}(e:us.map f=bs):us.toArray.any f=bs.any id:=by
 rw[<-e,List.any_toArray,List.any_map];rfl
theorem ZhU(hu:X.A.units+64<cLine):OpR X (compareOp .NotIn) (Zti X true):=by
 intro pins s σ H v w u z Q I rv rw' hh;obtain⟨α,M,d,x,ds,bs,p,vs,h,rd,e1,hq,rp,_,e,q⟩:=hh;subst e1;cases rw';rcases hq with hq|hq
 ·obtain⟨its,r,pl,hz⟩:=I.list hq;obtain⟨f,f1,f2⟩:=ZhT (A:=X.A) hu I h r rp rv rd e;refine SeqAt.notIn_listAt f pl.isList f1 ⟨.bl _,H,I,rfl,?_⟩;rw[any_map f2]
  simpa using q
 ·obtain⟨its,r,pl,hz⟩:=I.tuple hq;obtain⟨f,f1,f2⟩:=ZhT (A:=X.A) hu I h r rp rv rd e;refine SeqAt.notIn_tupleAt f pl f1 ⟨.bl _,H,I,rfl,?_⟩;rw[any_map f2]
  simpa using q
def inE(x y:D)(M:Sto):Option Bool:=match Zea M y with|some ds=>(match eqs M x ds with|some bs=>some (bs.any id)|none=>none)|none=>none
def dNotInE:Bo:=fun x y M=>match inE x y M with|some b=>.ok (.bl (!b)) M|none=>.bad
theorem ZhV:BO X ξ (Zti X true) dNotInE:=by
 intro H α M v w x y Q h rv rw' q;unfold dNotInE inE at q;cases e1:Zea M y with
 |none=>simp only[e1]at q;exact q.elim
 |some ds=>
  cases e2:eqs M x ds with
  |none=>simp only[e1,e2]at q;exact q.elim
  |some bs=>
   simp only[e1,e2]at q;obtain⟨p,vs,k1,k2,k3⟩:=Ze3 h rw' e1;exact⟨α,M,x,y,ds,bs,p,vs,h,rv,k1,k2,k3,e1,e2,by simpa using q _ H α Ext.refl h (.bl _)⟩
def Zvt:Me:=fun x ds M=>match x,ds with
 |.ref n,[d]=>(match M[n]? with|some (.lst xs)=>(match eqs M d xs with|some bs=>(match bs.findIdx? id with|some j=>.ok (.int (j:Nat)) M|none=>.bad)|none=>.bad)|none=>.bad)
 |_,_=>.bad
noncomputable def ZaD:List D->Option (List Int)
 |[]=>some []
 |.int b::r=>match ZaD r with|some bs=>some (b::bs)|none=>none
 |_::_=>none
theorem ZfY{K:Fg}{H:Hp}{α:List Addr}:∀{vs:List V}{ds:List D}{bs:List Int},Reps K H α vs ds->ZaD ds=some bs->vs=bs.map V.int
 |_,_,_,.nil,e=>by cases e;rfl
 |_,_,bs,.cons (d:=d) (ds:=ds) r t,e=>by
  cases r with
  |int b=>
   cases e1:ZaD ds with
   |none=>simp only[ZaD,e1]at e;cases e
   |some cs=>
    simp only[ZaD,e1,Option.some.injEq]at e;subst e;rw[ZfY t e1];rfl
  |_=>cases e
def Zep(X:Cx)(g:List Int->Option V):List V->Hp->VK->Prop:=fun vs H Q=>∃(p:Addr) (ns:List Int) (v:V),vs=[.ref p]/\SqL X.K H p (ns.map V.int)/\g ns=some v/\Q v H
theorem Zbe:∀{ns:List Int}{us:List Value}{i:Nat}{u:Value},ZS (ns.map V.int) us->us[i]?=some u->∃t,u=.int (ns.getD i 0) t
 |[],us,i,u,h,e=>by cases h;simp at e
 |b::r,us,i,u,h,e=>by
  cases h with
  |cons h1 h2=>
   cases i with
   |zero=>simp at e;subst e;exact h1
   |succ i=>simp at e;obtain⟨t,g⟩:=Zbe h2 e;exact⟨t,by simpa using g⟩
theorem ZcA(hc:X.calm=true){ns:List Int}(I:Inv X pins σ H s)(hl:SqL X.K H p (ns.map V.int))(q:∀(its:List Value)(it:Addr),ZS (ns.map V.int) its->its.length=ns.length->it=s.heap.objs.size->Walks X.prog X.w X.A.in1 it [it,p] [it] its.toArray.size (fun i v=>its.toArray[i]?=some v) (fun i h=>h.IsListIter it p i/\h.IsList p its.toArray)->(∀b∈[it,p],b<(s.heap.push {cls:=.type "list_iterator",data:=.fields #[.ref p,.int 0 0]}).objs.size)->((s.heap.push {cls:=.type "list_iterator",data:=.fields #[.ref p,.int 0 0]}).IsListIter it p 0/\(s.heap.push {cls:=.type "list_iterator",data:=.fields #[.ref p,.int 0 0]}).IsList p its.toArray)->(∀h' tk,(∀b o,b∉[it]->(s.heap.push {cls:=.type "list_iterator",data:=.fields #[.ref p,.int 0 0]}).get? b=some o->h'.get? b=some o)->Inv X pins σ H {s with heap:=h',toks:=tk})->Q (.ref it) {s with heap:=s.heap.push {cls:=.type "list_iterator",data:=.fields #[.ref p,.int 0 0]}}):wpAny (model X.prog X.w) X.A.in1 (pyIter (.ref p)) Q E s:=by
 obtain⟨its,hv,hp,hz⟩:=I.list hl;have hlt:p<s.heap.objs.size:=by obtain⟨_,e,_⟩:=hp.isList;exact Hz e
 refine wpAny_pyIter_list hp.isList ?_;refine q its s.heap.objs.size hv (by rw[<-hv.length,List.length_map]) rfl (Walks.list (A:=X.A.in1) (I.ok.hd hc) _ p (Nat.ne_of_lt hlt) its.toArray) (fun b hb=>?_) ⟨⟨_,Heap.get?_push_size _ rfl,rfl,rfl⟩,hp.isList.push _⟩ fun h' tk hk=>?_
 ·rw[Heap.size_push];simp only[List.mem_cons,List.not_mem_nil,or_false]at hb;rcases hb with rfl|rfl
  ·exact Nat.lt_succ_self _
  ·exact Nat.lt_succ_of_lt hlt
 ·exact I.kept fun b o e=>hk b o (fun hm=>by rw[List.mem_singleton.mp hm]at e;exact Nat.lt_irrefl _ (Hz e)) (Hq _ e)
theorem ZcB(ns:List Int):∀j,preSum (fun i=>ns.getD i 0) j=(ns.take j).sum
 |0=>rfl
 |j+1=>by
  show preSum (fun i=>ns.getD i 0) j+ns.getD j 0=_;rw[ZcB ns j];by_cases h:j<ns.length
  ·rw[List.take_succ_eq_append_getElem h,List.sum_append_int];simp[h]
  ·rw[List.take_of_length_le (by lia),List.take_of_length_le (by lia)]
   simp[h]
theorem Zj7{ns:List Int}(h:0<ns.length):ns.max?=some (ns.getD (argBest (fun i j=>decide (ns.getD i 0>ns.getD j 0)) (ns.length-1)) 0):=by
 obtain⟨h1,h2⟩:=argBest_gt (fun i=>ns.getD i 0) (ns.length-1);refine List.max?_eq_some_iff.mpr ⟨?_,fun b hb=>?_⟩
 ·have hl:argBest (fun i j=>decide (ns.getD i 0>ns.getD j 0)) (ns.length-1)<ns.length:=by lia
  rw[List.getD_eq_getElem?_getD,List.getElem?_eq_getElem hl];exact List.getElem_mem hl
 ·obtain⟨j,hj,rfl⟩:=List.getElem_of_mem hb
  have:=h2 j (by lia)
  rwa [show ns.getD j 0=ns[j]by rw[List.getD_eq_getElem?_getD,List.getElem?_eq_getElem hj];rfl]at this
theorem Zj8{ns:List Int}(h:0<ns.length):ns.min?=some (ns.getD (argBest (fun i j=>decide (ns.getD i 0<ns.getD j 0)) (ns.length-1)) 0):=by
 obtain⟨h1,h2⟩:=argBest_lt (fun i=>ns.getD i 0) (ns.length-1);refine List.min?_eq_some_iff.mpr ⟨?_,fun b hb=>?_⟩
 ·have hl:argBest (fun i j=>decide (ns.getD i 0<ns.getD j 0)) (ns.length-1)<ns.length:=by lia
  rw[List.getD_eq_getElem?_getD,List.getElem?_eq_getElem hl];exact List.getElem_mem hl
 ·obtain⟨j,hj,rfl⟩:=List.getElem_of_mem hb
  have:=h2 j (by lia)
  rwa [show ns.getD j 0=ns[j]by rw[List.getD_eq_getElem?_getD,List.getElem?_eq_getElem hj];rfl]at this
def ZqM(ns:List Int):Option V:=ns.max?.map V.int
def ZqN(ns:List Int):Option V:=ns.min?.map V.int
theorem ZhW(hc:X.calm=true):Zbm X (.builtin "max") (Zep X ZqM):=by
 intro pins s σ H vs us Q I rs hh;obtain⟨p,ns,v,e,hl,hg,q⟩:=hh;subst e;obtain⟨u,rfl,ru⟩:=ZcY rs;cases ru;have hn:0<ns.length:=by cases ns with|nil=>cases hg|cons _ _=>simp
 unfold ZqM at hg;rw[Zj7 hn]at hg;cases hg;refine call_max_walk (ZcA hc I hl fun its it hv hlen ei W hfp st back=>?_);refine⟨it,_,_,_,_,_,_,rfl,W,st,hfp,by rw[List.size_toArray,hlen];exact hn,CmpOf.ints_gt (fun i=>ns.getD i 0) (fun i v hP=>Zbe hv (by simpa using hP)),fun v h' tk hP hk=>⟨_,H,back h' tk hk,?_,q⟩⟩
 rw[List.size_toArray,hlen]at hP;exact Zbe hv (by simpa using hP)
theorem Zeq(hc:X.calm=true):Zbm X (.builtin "min") (Zep X ZqN):=by
 intro pins s σ H vs us Q I rs hh;obtain⟨p,ns,v,e,hl,hg,q⟩:=hh;subst e;obtain⟨u,rfl,ru⟩:=ZcY rs;cases ru;have hn:0<ns.length:=by cases ns with|nil=>cases hg|cons _ _=>simp
 unfold ZqN at hg;rw[Zj8 hn]at hg;cases hg;refine call_min_walk (ZcA hc I hl fun its it hv hlen ei W hfp st back=>?_);refine⟨it,_,_,_,_,_,_,rfl,W,st,hfp,by rw[List.size_toArray,hlen];exact hn,CmpOf.ints_lt (fun i=>ns.getD i 0) (fun i v hP=>Zbe hv (by simpa using hP)),fun v h' tk hP hk=>⟨_,H,back h' tk hk,?_,q⟩⟩
 rw[List.size_toArray,hlen]at hP;exact Zbe hv (by simpa using hP)
def ZcC(g:List Int->Option Int):W3:=fun ds M=>match ds with
 |[x]=>(match Zea M x with|some xs=>(match x with|.con _=>.bad|.tup _=>.bad|_=>(match ZaD xs with|some ns=>(match g ns with|some i=>.ok (.int i) M|none=>.bad)|none=>.bad))|none=>.bad)
 |_=>.bad
theorem Ze9(hg:∀ns i,g ns=some i->gV ns=some (.int i)):CO X ξ (Zep X gV) (ZcC g):=by
 intro H α M vs ds Q h rs q;unfold ZcC at q
 match rs with
 |.nil=>exact q.elim
 |.cons _ (.cons _ _)=>exact q.elim
 |.cons (d:=x) r .nil=>
  have fin:∀(p:Addr)(xs:List V)(ys:List D),SqL X.K H p xs->Reps X.K H α xs ys->OP X.K H α ξ Q (match ZaD ys with|some ns=>(match g ns with|some i=>.ok (.int i) M|none=>.bad)|none=>.bad)->Zep X gV [.ref p] H Q:=fun p xs ys k1 k2 q=>by
   cases e1:ZaD ys with
   |none=>rw[e1]at q;exact q.elim
   |some ns=>
    cases e2:g ns with
    |none=>simp only[e1,e2]at q;exact q.elim
    |some i=>
     simp only[e1,e2]at q
     have:=ZfY k2 e1
     subst this;exact⟨p,ns,.int i,rfl,k1,hg _ _ e2,q _ H α Ext.refl h (.int i)⟩
  cases r with
  |@rol p xs ds hp rp=>exact fin p xs ds hp.sq rp q
  |@ref p n hp=>
   cases em:M[n]? with
   |none=>simp only[Zea,em]at q;exact q.elim
   |some so=>
    cases so with
    |lst es=>
     simp only[Zea,em]at q;obtain⟨xs,g1,g2⟩:=h.at hp em;exact fin p xs es (SqL.of g1) g2 q
  |tup _ _=>exact q.elim
  |con _ _=>exact q.elim
  |_=>exact q.elim
theorem Zmj:CO X ξ (Zep X ZqM) (ZcC List.max?):=Ze9 fun ns i e=>by unfold ZqM;rw[e];rfl
theorem ZhX:CO X ξ (Zep X ZqN) (ZcC List.min?):=Ze9 fun ns i e=>by unfold ZqN;rw[e];rfl
theorem ZoJ:bootBuiltins "sum"=some (.builtin "sum"):=by decide +kernel
end DL
namespace DL
open PyProof.Rows L2
section
variable {prog:Program}{w:World}{A:Around}{R:Result->Shared->Prop}{I:Addr}{fp wr:List Addr}{n:Nat}{P:Nat->Value->Prop}{St:Nat->Heap->Prop}
theorem ZhY(W:Walks prog w A.in1 I fp wr n P St)(val:Nat->Int)(hval:∀i v,P i v->∃t,v=.int (val i) t)(S:Addr)(hSf:S∉fp):∀(k i:Nat)(g:Int)(s:Shared)(tA:Tok)(c:Nat),(g=0\/g=2)->n-i=k->i<=n->St i s.heap->s.heap.get? S=some {cls:=.type "list",dict:=none,data:=.seq #[.int (preSum val i) tA] c,slots:= #[]}->(∀h' tk t',(∀b o,b∉wr->b≠S->s.heap.get? b=some o->h'.get? b=some o)->R (.ok (.ret (.int (preSum val n) t'))) {s with heap:=h',toks:=tk})->codeAny (model prog w) A (.builtin "sum.loop" ⟨[.ref I,.ref S,rawInt g,rawInt 0],[]⟩) R s:=by
 have hSw:S∉wr:=fun h=>hSf (W.sub _ h);intro k
 induction k with
 |zero=>
  intro i g s tA c hg hk hi hst hS hR;have hin:i=n:=by lia
  subst hin;refine codeAny_builtin F.entry_sum_loop ?_;rw[Around.under_plainId F.plain_sum_loop _];show wpAny _ A.in1 (seqItems? (.ref S) >>= _) _ _ s;refine Wb (wpAny_seqItems hS rfl ?_);show wpAny _ A.in1 (tryCatch (pyNext (.ref I)) _ >>= _) _ _ s;refine Wb (wpAny_tryCatch (W.done s _ _ hst fun h' tk hk'=>?_));exact Wp (hR h' tk tA fun b o hbw _ e=>hk' b o hbw e)
 |succ k ih=>
  intro i g s tA c hg hk hi hst hS hR;have hlt:i<n:=by lia
  refine codeAny_builtin F.entry_sum_loop ?_;rw[Around.under_plainId F.plain_sum_loop _];show wpAny _ A.in1 (seqItems? (.ref S) >>= _) _ _ s;refine Wb (wpAny_seqItems hS rfl ?_);show wpAny _ A.in1 (tryCatch (pyNext (.ref I)) _ >>= _) _ _ s;refine Wb (wpAny_tryCatch (W.item i s _ _ hlt hst fun v h' tk hP hst' hk'=>?_));obtain⟨t,rfl⟩:=hval i v hP;have hS':=hk' S _ hSw hS;rcases hg with rfl|rfl
  ·show wpAny _ A.in1 (if(_:Bool)=true then(mkInt (preSum val i+val i) >>= _)else _) _ _ _
   split
   ·refine Wb (wpAny_mkInt ?_);show wpAny _ A.in1 (updateSeq S (fun _=> #[.int (preSum val i+val i) tk]) >>= _) _ _ _;refine Wb ?_;refine wpAny_updateSeq hS' rfl (Wp ⟨plainId_quiet F.plain_sum_loop _,ih (i+1) 0 _ tk _ (.inl rfl) (by lia) hlt (W.frame _ _ _ hst' fun b hb o e=>?_) (Heap.get?_update_self _ hS' rfl) fun h'' tk'' t'' hk''=>?_⟩)
    ·exact(Heap.get?_update_other _ _ (fun h:S=b=>hSf (by rw[h];exact hb))).trans e
    ·exact hR h'' tk'' t'' fun b o hbw hbS e=>hk'' b o hbw hbS ((Heap.get?_update_other _ _ (Ne.symm hbS)).trans (hk' b o hbw e))
   ·refine Wb (wpAny_rule ?_);refine Wb (wpAny_attempt (wpAny_holding (add_int ?_)));show wpAny _ A.in1 (updateSeq S (fun _=> #[.int (preSum val i+val i) tk]) >>= _) _ _ _;refine Wb (wpAny_updateSeq hS' rfl ?_);refine Wb (wpAny_letGo ?_);show wpAny _ A.in1 (updateSeq S (fun _=> #[.int (preSum val i+val i) tk]) >>= _) _ _ _;have hS2:=Heap.get?_update_self (Obj.mapSeq fun _=>(#[.int (preSum val i+val i) tk]:Array Value)) hS' rfl;refine Wb (wpAny_updateSeq hS2 rfl (Wp ⟨plainId_quiet F.plain_sum_loop _,ih (i+1) 2 _ tk _ (.inr rfl) (by lia) hlt (W.frame _ _ _ hst' fun b hb o e=>?_) (Heap.get?_update_self _ hS2 rfl) fun h'' tk'' t'' hk''=>?_⟩))
    ·have nb:S≠b:=fun h:S=b=>hSf (by rw[h];exact hb)
     exact(Heap.get?_update_other _ _ nb).trans ((Heap.get?_update_other _ _ nb).trans e)
    ·exact hR h'' tk'' t'' fun b o hbw hbS e=>hk'' b o hbw hbS ((Heap.get?_update_other _ _ (Ne.symm hbS)).trans ((Heap.get?_update_other _ _ (Ne.symm hbS)).trans (hk' b o hbw e)))
  ·show wpAny _ A.in1 (if((2:Int) != 0)=true then _ else _) _ _ _
   rw[if_pos (by decide)]
   refine Wb (wpAny_attempt (wpAny_holding (add_int ?_)));show wpAny _ A.in1 (updateSeq S (fun _=> #[.int (preSum val i+val i) tk]) >>= _) _ _ _;refine Wb (wpAny_updateSeq hS' rfl ?_);refine Wb (wpAny_letGo ?_);show wpAny _ A.in1 (updateSeq S (fun _=> #[.int (preSum val i+val i) tk]) >>= _) _ _ _;have hS2:=Heap.get?_update_self (Obj.mapSeq fun _=>(#[.int (preSum val i+val i) tk]:Array Value)) hS' rfl;refine Wb (wpAny_updateSeq hS2 rfl (Wp ⟨plainId_quiet F.plain_sum_loop _,ih (i+1) 2 _ tk _ (.inr rfl) (by lia) hlt (W.frame _ _ _ hst' fun b hb o e=>?_) (Heap.get?_update_self _ hS2 rfl) fun h'' tk'' t'' hk''=>?_⟩))
   ·have nb:S≠b:=fun h:S=b=>hSf (by rw[h];exact hb)
    exact(Heap.get?_update_other _ _ nb).trans ((Heap.get?_update_other _ _ nb).trans e)
   ·exact hR h'' tk'' t'' fun b o hbw hbS e=>hk'' b o hbw hbS ((Heap.get?_update_other _ _ (Ne.symm hbS)).trans ((Heap.get?_update_other _ _ (Ne.symm hbS)).trans (hk' b o hbw e)))
end
theorem ZhZ(h:wpAny (model prog w) A.in1 (pyIter x) (fun it s₂=>∃I fp wr n P St val,it=.ref I/\Walks prog w A.in1 I fp wr n P St/\St 0 s₂.heap/\(∀b∈fp,b<s₂.heap.objs.size)/\(∀i v,P i v->∃t,v=.int (val i) t)/\∀h' tk t',(∀b o,b∉wr->s₂.heap.get? b=some o->h'.get? b=some o)->Q (.int (preSum val n) t') {s₂ with heap:=h',toks:=tk}) E s):wpAny (model prog w) A (call (.builtin "sum") [x]) Q E s:=by
 refine call_function_tree F.kind_sum F.plain_sum F.entry_sum (F.args_sum1 _) ?_;unfold Builtin.«sum»;simp only[List.length_cons,List.length_nil];rw[if_neg (by decide)]
 refine Wb (wpAny_of_eq (show Builtin.Builtins.bindParams "sum" ["start"] 0 {}=pure [none]from rfl) ?_);refine Wb (wpAny_mono h (fun it s₂ h₂=>?_) fun _ _ e=>e);obtain⟨I,fp,wr,n,P,St,val,rfl,W,hst,hfp,hval,hQ⟩:=h₂;refine Wb (wpAny_mkInt ?_);refine Wb (Wp ?_);simp only[List.forIn_cons,List.forIn_nil];refine Wb (Wb (Wb (wpAny_isInstance (T:="int") (b:=false) (typeIs_int _ _ _) PySem.sub_int_str ?_)));simp only[Bool.false_eq_true,if_false];refine Wp (Wb (Wb (wpAny_isInstance (T:="int") (b:=false) (typeIs_int _ _ _) PySem.sub_int_bytes ?_)));simp only[Bool.false_eq_true,if_false];refine Wp (Wb (Wb (wpAny_isInstance (T:="int") (b:=false) (typeIs_int _ _ _) PySem.sub_int_bytearray ?_)));simp only[Bool.false_eq_true,if_false];refine Wp (Wp ?_);refine Wb (wpAny_newObj_type ?_);have hSf:s₂.heap.objs.size∉fp:=fun hm=>Nat.lt_irrefl _ (hfp _ hm);refine Wp ⟨plainId_quiet F.plain_sum_loop _,ZhY W val hval s₂.heap.objs.size hSf n 0 0 _ s₂.toks 0 (.inl rfl) rfl (Nat.zero_le _) (W.frame _ _ _ hst fun b _ o e=>Hq _ e) (Heap.get?_push_size _ rfl) fun h' tk t' hk=>?_⟩
 exact hQ h' tk t' fun b o hbw e=>hk b o hbw (Nat.ne_of_lt (Hz e)) (Hq _ e)
def ZoK(ns:List Int):Option V:=some (.int ns.sum)
def Zrt(ns:List Int):Option Int:=some ns.sum
theorem Zh0(hc:X.calm=true):Zbm X (.builtin "sum") (Zep X ZoK):=by
 intro pins s σ H vs us Q I rs hh;obtain⟨p,ns,v,e,hl,hg,q⟩:=hh;subst e;obtain⟨u,rfl,ru⟩:=ZcY rs;cases ru;cases hg;refine ZhZ (ZcA hc I hl fun its it hv hlen ei W hfp st back=>?_);refine⟨it,_,_,_,_,_,fun i=>ns.getD i 0,rfl,W,st,hfp,fun i v hP=>Zbe hv (by simpa using hP),fun h' tk t' hk=>⟨.int ns.sum,H,back h' tk hk,⟨t',?_⟩,q⟩⟩
 rw[ZcB,List.size_toArray,hlen,List.take_length]
theorem Zmk:CO X ξ (Zep X ZoK) (ZcC Zrt):=Ze9 fun ns i e=>by
 cases e;rfl
end DL
namespace DL
open PyProof.Rows L2
noncomputable def kK:D->Option Key
 |.int i=>some (.inl i)
 |.str x=>some (.inr x)
 |_=>none
def kKs:List D->Option (List Key)
 |[]=>some []
 |d::r=>match kK d,kKs r with|some k,some ks=>some (k::ks)|_,_=>none
def kT:D->Option (List Key)
 |.tup ds=>kKs ds
 |_=>none
theorem ZoL(h:kK d=some k):d=ZkU k:=by
 cases d<;>first|(cases h;rfl)|cases h
theorem Zml(k:Key):kK (ZkU k)=some k:=by cases k<;>rfl
theorem Zh1:∀{ds:List D}{ks:List Key},kKs ds=some ks->ds=ks.map ZkU
 |[],ks,h=>by cases h;rfl
 |d::r,ks,h=>by
  unfold kKs at h
  split at h
  ·rename_i k ks' e1 e2;cases h;rw[List.map_cons,<-ZoL e1,<-Zh1 e2]
  ·cases h
theorem ZfZ:∀(ks:List Key),kKs (ks.map ZkU)=some ks
 |[]=>rfl
 |k::ks=>by rw[List.map_cons,kKs,Zml,ZfZ ks]
theorem ZoM(h:kT d=some ks):d=Zdl ks:=by
 cases d with
 |tup ds=>rw[Zdl,<-Zh1 h]
 |_=>cases h
theorem Zj9(ks:List Key):kT (Zdl ks)=some ks:=ZfZ ks
section
variable {κ:Type}[DecidableEq κ]
noncomputable def Zka(dec:D->Option κ)(k:κ):List D->Option D
 |[]=>none
 |.tup [a,v]::r=>if dec a=some k then some v else Zka dec k r
 |_::r=>Zka dec k r
noncomputable def Zmm(dec:D->Option κ)(k:κ)(v:D)(ds:List D):List D:=ds.map fun e=>match e with|.tup [a,w]=>if dec a=some k then .tup [a,v]else e|e=>e
def ZnC(dec:D->Option κ)(k:κ)(kd v:D)(ds:List D):List D:=if(Zka dec k ds).isSome then Zmm dec k v ds else ds++[.tup [kd,v]]
variable {K:Fg}{H H':Hp}{α α':List Addr}{key:κ->D}{dec:D->Option κ}
theorem Zh2:ZaT K H α key [] []:=⟨[],rfl,.nil⟩
theorem Zer(hd:∀k,dec (key k)=some k):∀{kvs:List (κ×V)} {es:List D} (k:κ),Reps K H α (kvs.map (·.2)) es->
  match Zka dec k (List.zipWith (fun kv e=>D.tup [key kv.1,e]) kvs es)with|none=>ZgS kvs k=none|some d=>∃v,ZgS kvs k=some v/\Rep K H α v d
 |[],es,k,h=>by cases h;rfl
 | (k',v)::kvs,_,k,.cons r t=>by
  simp only[List.zipWith_cons_cons,Zka,hd,Option.some.injEq];by_cases c:k'=k
  ·rw[if_pos c];exact⟨v,Zcg (p:=(k',v)) c,r⟩
  ·rw[if_neg c]
   have:=Zer hd k t
   have e:ZgS ((k',v)::kvs) k=ZgS kvs k:=Zch (p:=(k',v)) c;rw[e];exact this
theorem Zes(hd:∀k,dec (key k)=some k){w:V}{d:D}(rw':Rep K H α w d):∀{kvs:List (κ×V)} {es:List D} (k:κ),Reps K H α (kvs.map (·.2)) es->
  ∃es',Zmm dec k d (List.zipWith (fun kv e=>D.tup [key kv.1,e]) kvs es)=List.zipWith (fun kv e=>D.tup [key kv.1,e]) (kvs.map fun kv=>if kv.1=k then(kv.1,w)else kv) es'/\Reps K H α ((kvs.map fun kv=>if kv.1=k then(kv.1,w)else kv).map (·.2)) es'
 |[],es,k,h=>by cases h;exact⟨[],rfl,.nil⟩
 | (k',v)::kvs,_,k,.cons (d:=dv) (ds:=es) r t=>by
  obtain⟨es',h1,h2⟩:=Zes hd rw' k t;unfold Zmm at h1;by_cases c:k'=k
  ·refine⟨d::es',?_,?_⟩
   ·simp only[Zmm,List.zipWith_cons_cons,List.map_cons,hd,Option.some.injEq,if_pos c,h1]
   ·simp only[List.map_cons,if_pos c];exact .cons rw' h2
  ·refine⟨dv::es',?_,?_⟩
   ·simp only[Zmm,List.zipWith_cons_cons,List.map_cons,hd,Option.some.injEq,if_neg c,h1]
   ·simp only[List.map_cons,if_neg c];exact .cons r h2
theorem Zf0{α' β γ:Type}{f:α'->β->γ}{x:α'}{y:β}:∀{xs:List α'}{ys:List β},xs.length=ys.length->List.zipWith f (xs++[x]) (ys++[y])=List.zipWith f xs ys++[f x y]
 |[],[],_=>rfl
 |a::xs,b::ys,h=>by simp[Zf0 (xs:=xs) (ys:=ys) (by simpa using h)]
theorem Zh3(hd:∀k,dec (key k)=some k){kvs:List (κ×V)}{ds:List D}{w:V}{d:D}(k:κ)(h:ZaT K H α key kvs ds)(r:Rep K H α w d):ZaT K H α key (Zjp kvs k w) (ZnC dec k (key k) d ds):=by
 obtain⟨es,rfl,hr⟩:=h;have pv:=Zer hd k hr;have an:=ZfJ k kvs;unfold Zjp ZnC;cases e:Zka dec k (List.zipWith (fun kv e=>D.tup [key kv.1,e]) kvs es)with
 |none=>
  rw[e]at pv;rw[if_neg (by rw[an,pv];simp),if_neg (by simp)]
  refine⟨es++[d],?_,?_⟩
  ·rw[Zf0 (by rw[<-hr.length,List.length_map])]
  ·rw[List.map_append];exact hr.append (.cons r .nil)
 |some x=>
  rw[e]at pv;obtain⟨v,hv,_⟩:=pv;rw[if_pos (by rw[an,hv];rfl),if_pos (show(some x).isSome=true from rfl)]
  exact Zes hd r k hr
theorem Zh4{kvs:List (κ×V)}{ds:List D}(h:ZaT K H α key kvs ds):kvs.length=ds.length:=by
 obtain⟨es,rfl,hr⟩:=h
 have:=hr.length
 rw[List.length_map]at this;simp[this]
theorem ZgF{kvs:List (κ×V)}{ds:List D}(h:ZaT K H α key kvs ds)(e:Ext K H H' α α'):ZaT K H' α' key kvs ds:=by
 obtain⟨es,h1,h2⟩:=h;exact⟨es,h1,Reps.mono e h2⟩
end
end DL
namespace DL
open PyProof.Rows L2
end DL
namespace DL
open PyProof.Rows L2
section
variable {X:Cx}{e2:Expr}
def eFm(f:Ev):Ev:=fun ρ M=>(f ρ M).bind fun x M1=>match x with
 |.int i=>if i.natAbs.log2<1900 then .ok (.str (Str.ofString (toString i))) M1 else .bad
 |.str y=>if y.length<=100000 then .ok (.str y) M1 else .bad
 |_=>.bad
theorem Zmn(ha:DE X ξ e f):DE X ξ (.FormattedValue e (-1) none pos) (eFm f):=by
 obtain⟨ta,pa,qa⟩:=ha;refine⟨fun σ H Q=>ta σ H fun x H1=>(∃i,x=.int i/\i.natAbs.log2<1900/\Q (.str (Str.ofString (toString i))) H1)\/∃y,x=.str y/\y.length<=100000/\Q (.str y) H1,fun pins s σ H Q I h=>?_,fun σ ρ H α M Q s h q=>?_⟩
 ·refine wpAny_FormattedValue_plain (wpAny_mono (pa pins s σ H _ I h) (fun v s1 ⟨x,H1,I1,r1,q1⟩=>?_) fun _ _ z=>z);rcases q1 with⟨i,rfl,hi,q⟩|⟨y,rfl,hy,q⟩
  ·obtain⟨t,rfl⟩:=r1;exact wpAny_formatField_int (by lia) ⟨.str (Str.ofString (toString i)),H1,I1.tok _,⟨_,rfl⟩,q⟩
  ·obtain⟨t,rfl⟩:=r1;exact wpAny_formatField_str ⟨.str y,H1,I1,⟨_,rfl⟩,q⟩ ⟨.str y,H1,I1.tok _,⟨_,rfl⟩,q⟩ (Nat.le_trans hy (by rw[sizeLine_eq];decide))
 ·refine qa σ ρ H α M _ s h (OG.seq q fun x M1 v H1 α1 e1 h1 r1 q1=>?_);cases r1 with
  |int i=>
   by_cases hi:i.natAbs.log2<1900
   ·simp only[hi,if_true]at q1;exact .inl ⟨i,rfl,hi,q1 _ H1 α1 Ext.refl h1 (.str _)⟩
   ·simp only[hi,if_false]at q1;exact q1.elim
  |str y=>
   by_cases hi:y.length<=100000
   ·simp only[hi,if_true]at q1;exact .inr ⟨y,rfl,hi,q1 _ H1 α1 Ext.refl h1 (.str _)⟩
   ·simp only[hi,if_false]at q1;exact q1.elim
  |_=>exact q1.elim
abbrev Jv:=Str->Ro->Sto->Out Str
def PJ(X:Cx)(es:List Expr)(t:L2.St->Hp->Str->(Str->Hp->Prop)->Prop):Prop:=
 ∀(pins:Pn)(s:Shared)(σ:L2.St)(H:Hp)(acc:Str)(Q:Str->Hp->Prop),Inv X pins σ H s->t σ H acc Q->Joins (model X.prog X.w) X.A X.xe (evalEach es X.env) acc (fun out s1=>out.length<=100000/\∃H',Inv X pins σ H' s1/\Q out H') s
def DJ(X:Cx)(ξ:XK)(es:List Expr)(g:Jv):Prop:=∃t,PJ X es t/\∀σ ρ H α M acc (Q:Str->Hp->Prop),SR X.K H α σ ρ->HR X.K H α M->OG X.K (fun _ _ v d=>v=d) H α ξ Q (g acc ρ M)->t σ H acc Q
noncomputable def jNil:Jv:=fun acc _ M=>if acc.length<=100000 then .ok acc M else .bad
def Zdv(f:Ev)(g:Jv):Jv:=fun acc ρ M=>(f ρ M).bind fun x M1=>match x with
 |.str y=>if(acc++y).length<=100000 then g (acc++y) ρ M1 else .bad
 |_=>.bad
def eFs(g:Jv):Ev:=fun ρ M=>(g Str.empty ρ M).bind fun x M1=>.ok (.str x) M1
theorem Zk9:DJ X ξ [] jNil:=by
 refine⟨fun σ H acc Q=>acc.length<=100000/\Q acc H,fun pins s σ H acc Q I h=>⟨h.1,H,I,h.2⟩,fun σ ρ H α M acc Q s h q=>?_⟩;unfold jNil at q;by_cases hl:acc.length<=100000
 ·rw[if_pos hl]at q;exact⟨hl,q acc H α Ext.refl h rfl⟩
 ·rw[if_neg hl]at q;exact q.elim
theorem Za4(ha:DE X ξ e f)(hr:DJ X ξ es g):DJ X ξ (e::es) (Zdv f g):=by
 obtain⟨ta,pa,qa⟩:=ha;obtain⟨tr,pr',qr⟩:=hr;refine⟨fun σ H acc Q=>ta σ H fun x H1=>∃y,x=.str y/\(acc++y).length<=100000/\tr σ H1 (acc++y) Q,fun pins s σ H acc Q I h=>?_,fun σ ρ H α M acc Q s h q=>?_⟩
 ·show wpAny _ _ (eval e X.env) _ _ s;refine wpAny_mono (pa pins s σ H _ I h) (fun v s1 ⟨x,H1,I1,r1,q1⟩=>?_) fun _ _ z=>z;obtain⟨y,rfl,hy,q⟩:=q1;obtain⟨t,rfl⟩:=r1;exact⟨y,t,rfl,Nat.le_trans hy (by rw[sizeLine_eq];decide),pr' pins s1 σ H1 (acc++y) Q I1 q⟩
 ·refine qa σ ρ H α M _ s h (OG.seq q fun x M1 v H1 α1 e1 h1 r1 q1=>?_);cases r1 with
  |str y=>
   by_cases hi:(acc++y).length<=100000
   ·simp only[hi,if_true]at q1;exact⟨y,rfl,hi,qr σ ρ H1 α1 M1 (acc++y) Q (s.mono e1) h1 q1⟩
   ·simp only[hi,if_false]at q1;exact q1.elim
  |_=>exact q1.elim
theorem ZoN(h:DJ X ξ (e1::e2::es) g):DE X ξ (.JoinedStr (e1::e2::es) pos) (eFs g):=by
 obtain⟨t,pj,qj⟩:=h;refine⟨fun σ H Q=>t σ H Str.empty fun x H1=>Q (.str x) H1,fun pins s σ H Q I h=>?_,fun σ ρ H α M Q s h q=>?_⟩
 ·refine wpAny_JoinedStr ?_
  have:=pj pins s σ H Str.empty _ I h
  have mono:∀(ms:List (Sem Value)) (acc:Str) (P R:Str->Shared->Prop) (s:Shared),(∀o s,P o s->R o s)->Joins (model X.prog X.w) X.A X.xe ms acc P s->Joins (model X.prog X.w) X.A X.xe ms acc R s:=by
   intro ms
   induction ms with
   |nil=>intro acc P R s hp hj;exact hp _ _ hj
   |cons m r ih=>
    intro acc P R s hp hj;exact wpAny_mono hj (fun v s1 ⟨y,t,e,l,k⟩=>⟨y,t,e,l,ih _ P R s1 hp k⟩) fun _ _ z=>z
  refine mono _ _ _ _ s (fun o s1 ⟨hl,H',I',q⟩=>?_) this;exact⟨Nat.le_trans hl (by rw[sizeLine_eq];decide),.str o,H',I'.tok _,⟨_,rfl⟩,q⟩
 ·refine qj σ ρ H α M Str.empty _ s h (OG.seq q fun x M1 v H1 α1 e1 h1 r1 q1=>?_);cases r1;exact q1 _ H1 α1 Ext.refl h1 (.str x)
end
end DL
namespace DL
open PyProof.Rows L2
theorem ZgG{o:Out β}{f:β->Sto->Out γ}{g:γ->Sto->Fl}:Z3 (o.bind f) g=Z3 o fun x M=>Z3 (f x M) g:=by cases o<;>rfl
theorem Zmo(iv:Nat)(hN:X.N.Nodup)(B:Blk X scope cl N k fr)(hi:DI X ξ tg iter fi)(hg:∀C fp s H,DG (blk X scope cl N C fp s H) tg gt)(ht:∀C fp s H,DC (blk X scope cl N C fp s H) ifs c)(he:∀C fp s H,DE (blk X scope cl N C fp s H) E0 elt f)(hiv:autoParam (X.N[iv]?=some x) Qrf._auto_1)(hxl:Loc X.env.scope x:=by first|exact Or.inl rfl|exact Or.inr rfl)(hm:autoParam (X.may iv=true) Qrf._auto_1)(hsw:autoParam (swapsWith (.ListComp elt [⟨tg,iter,ifs,0⟩] scope pos) (some (.Name x pos')) spos.line X.env=pure true) Qrf._auto_1)(hf:X.fn x=true\/X.env.scope.names.lookup x=some .local:=by first|exact .inl rfl|exact .inr rfl|assumption)(hs:autoParam (∀x,foldedSetIterable iter X.env x=pure x) Qin._auto_1):DS X ξ (.Assign [.Name x pos'] (.ListComp elt [⟨tg,iter,ifs,0⟩] scope pos) spos) (ZJ (gNm iv) (Zal fi k fr gt c f)):=by
 obtain⟨wi,pi,qi⟩:=hi;refine⟨fun Dn σ H=>∃ρ α M,SR X.K H α σ ρ/\HR X.K H α M/\FP X.K H α ξ Dn (ZJ (gNm iv) (Zal fi k fr gt c f) ρ M),?_,fun σ ρ H α M Dn s h q=>⟨ρ,α,M,s,h,q⟩⟩;rintro pins s σ H Dn I ⟨ρ,α,M,sr,hr,op⟩;rw[exec_Assign_Name_used _ _ _ _ hsw];refine Wb (wpAny_standAt (Wb ?_));show wpAny _ X.A (do let _ <-comprehension (.ListComp elt [⟨tg,iter,ifs,0⟩] scope pos) scope X.env _ (newList []) false (eval iter X.env) (some (assign (.Name x pos') X.env))) _ _ s
 have op:FP X.K H α ξ Dn (Z3 (fi ρ M) fun src M1=>Z3 (match Zcj src gt c f M1.length (cnt src M1) 0 (roB k fr ρ) (M1++[.lst []])with|.ok _ M2'=>.ok (.ref M1.length) M2'|_=>.bad) fun d M1=>Fl.nx (ρ.set iv (some d)) M1):=by
  have e:ZJ (gNm iv) (Zal fi k fr gt c f) ρ M=(Z3 (fi ρ M) fun src M1=>Z3 (match Zcj src gt c f M1.length (cnt src M1) 0 (roB k fr ρ) (M1++[.lst []])with|.ok _ M2'=>.ok (.ref M1.length) M2'|_=>.bad) fun d M1=>Fl.nx (ρ.set iv (some d)) M1):=by
   unfold ZJ Zal;rw[ZgG];rfl
  rw[<-e];exact op
 refine Wb (wpAny_mono (wpAny_comprehension_free (Q:=fun _ s'=>SP X pins Dn .next s') (use:=some (assign (.Name x pos') X.env)) rfl hs B.clos B.kind B.names ?_) (fun _ s' hq=>Wp (Wp hq)) fun _ _ e=>e)
 refine thn (pi pins s σ H (fun J H2=>∃α2 M2 src,Ext X.K H H2 α α2/\HR X.K H2 α2 M2/\Zjs X.K H2 α2 J src/\FP X.K H2 α2 ξ Dn (Z3 (match Zcj src gt c f M2.length (cnt src M2) 0 (roB k fr ρ) (M2++[.lst []])with|.ok _ M2'=>.ok (.ref M2.length) M2'|_=>.bad) fun d M1=>Fl.nx (ρ.set iv (some d)) M1)) I
  (qi σ ρ H α M _ sr hr (FP.seq op fun src M1 J H1 α1 e1 h1 r1 q1=>⟨α1,M1,src,e1,h1,r1,q1⟩))) fun v s1 w1=>thn w1 fun itv s2 w2=>?_
 obtain⟨it,fp,tn,J,H2,rfl,I2,T,st2,f2,α2,M2,src,e2,h2,sc,op2⟩:=w2;have srI:=sr.mono e2;refine wpAny_newObj_type ?_;have I3:Inv X pins σ (upd H2 s2.heap.objs.size (.lst [])) {s2 with heap:=s2.heap.push {cls:=.type "list",data:=.seq ([]:List Value).toArray}}:=I2.lnew (its:=[]) (t':=s2.toks) .nil (Nat.zero_le _);have fD:H2 s2.heap.objs.size=none:=I2.fresh;generalize hD:s2.heap.objs.size=D at I3 fD;generalize hs3:({s2 with heap:=s2.heap.push {cls:=.type "list",data:=.seq ([]:List Value).toArray}}:Shared)=s3 at I3;generalize hH3:upd H2 D (.lst [])=H3 at I3;have h3:HR X.K H3 (α2++[D]) (M2++[.lst []]):=by rw[<-hH3];exact h2.new fD .nil
 have e3:Ext X.K H2 H3 α2 (α2++[D]):=by rw[<-hH3];exact Ext.new fD
 have aD:RefK H3 (α2++[D]) 0 M2.length D:=⟨h2.last D,by first|exact Kn.lst Zs|(rw[<-hH3];exact Kn.lst Zs)⟩
 have lt2:∀b∈fp,b<s2.heap.objs.size:=fun b hb=>let ⟨o,e,_⟩:=T.obj _ _ st2 b hb;Hz e;have keep3:∀b o,s2.heap.get? b=some o->s3.heap.get? b=some o:=fun b o e=>by rw[<-hs3];exact Hq _ e
 have f3:∀b∈fp,Zca X pins H3 b:=fun b hb=>⟨by rw[<-hH3,Zz (by rw[<-hD];exact Nat.ne_of_lt (lt2 b hb))];exact(f2 b hb).1,(f2 b hb).2⟩
 have lt3:∀b∈fp,b<s3.heap.objs.size:=fun b hb=>let ⟨o,e,_⟩:=T.obj _ _ st2 b hb;Hz (keep3 b o e);have st3:tn 0 s3.heap:=T.keep _ _ _ st2 fun b _ o e=>keep3 b o e;refine wpAny_newFunctionEnv B.cell (by intro y hy;simp at hy) (fun h₁ hns₁ hsb₁=>?_) B.kind
 have keep4:∀b o,s3.heap.get? b=some o->h₁.get? b=some o:=fun b o e=>hsb₁.extBut b o (Nat.ne_of_lt (Hz e)) (Hq _ e);have I4:=Ze4 (tk:=s3.toks+([]:List (Str×Value)).length) B I3 f3 lt3 hns₁ keep4;have st4:tn 0 h₁:=T.keep _ _ _ st3 fun b _ o e=>keep4 b o e;have fp5:∀{H':Hp},(∀b∈fp,H' b=none)->∀b∈fp,Zca (blk X scope cl N s3.heap.objs.size fp s3 H3) [] H' b:=fun hn b hb=>⟨hn b hb,Nat.ne_of_lt (lt3 b hb),(ZfW B I3 f3 lt3).exfs b hb,.inl hb,fun x c h=>(f3 b hb).2.2.2.2.1 x c (B.sub x c h),fun p hp=>(by simp[blk]at hp)⟩
 cases er:Zcj src gt c f M2.length (cnt src M2) 0 (roB k fr ρ) (M2++[.lst []])with
 |exc x M9=>rw[er]at op2;exact op2.elim
 |bad=>rw[er]at op2;exact op2.elim
 |ok u9 M9=>
  rw[er]at op2;have loop:codeAny (model X.prog X.w) X.A (.compLoop (.ListComp elt [⟨tg,iter,ifs,0⟩] scope pos) 0 (.ref it) (.ref D) (compEnvC scope cl s3.heap.objs.size X.env)) (compPost (model X.prog X.w) X.A X.xe (some (assign (.Name x pos') X.env)) (fun _ s'=>SP X pins Dn .next s') (.ref D) s3.heap.objs.size) {s3 with heap:=h₁,toks:=s3.toks+([]:List (Str×Value)).length}:=by
   refine Zdr (Y:=blk X scope cl N s3.heap.objs.size fp s3 H3) T (fun _ _ z=>z) fp5 (hg _ fp s3 H3) (ht _ fp s3 H3) (he _ fp s3 H3) (fun i H' α' M' ex hr=>sc i H' α' M' (e3.trans ex) hr) aD I4 st4 (fun b hb=>(f3 b hb).1) ((srI.blk).mono e3) h3 er ?_;intro σ5 H5 α5 s6 I6 ex5 hr5;obtain⟨I7,tu⟩:=Zdq B I3 f3 I6;obtain⟨m6,hm6,_⟩:=id I6.loc;refine wpAny_assign_Name (ZdV (v:=.ref D) I7 hN hiv hxl hm rfl (fun s8 I8 ⟨a,sb8,ha⟩=>?_) hf);have nca:s3.heap.objs.size≠a:=by
    rcases ha with e|e
    ·rw[e];exact Nat.ne_of_gt I3.lt
    ·intro z;obtain⟨v,o,e',_⟩:=I3.cell x a e;exact absurd (Hz e') (by rw[<-z];exact Nat.lt_irrefl _)
   exact⟨m6,hm6.sameBut sb8 nca,fun h' sb=>⟨_,H5,tu _ s8 h' I8 (fun b o hb e=>(sb.2 b hb).trans e),op2 _ H5 α5 (e3.trans ex5) hr5 ((srI.mono (e3.trans ex5)).set iv (.ref (ex5.get aD)))⟩⟩
  exact codeAny_compStart_list loop (T.self X.A 0 _ _ _ st4 loop)
end DL
namespace DL
open PyProof.Rows L2
end DL
namespace DL
open L2
open PySem.W
end DL
namespace DL3
open PyProof.Rows L2 DL
open PySem.Sem (wp)
end DL3
namespace DL4
open PyProof.Rows L2 DL
open PySem.Sem (wp)
end DL4
namespace DLy2
open PyProof.Rows L2 DL
open PySem.Sem (wp)
structure Ap(z TI TO i1 i2 l1 l2:Addr):Prop where
 z_TI:z≠TI
 z_TO:z≠TO
 z_i1:z≠i1
 z_i2:z≠i2
 TI_TO:TI≠TO
 TI_i1:TI≠i1
 TI_i2:TI≠i2
 TO_i1:TO≠i1
 TO_i2:TO≠i2
 i1_i2:i1≠i2
 l1_z:l1≠z
 l1_TO:l1≠TO
 l1_i1:l1≠i1
 l1_i2:l1≠i2
 l2_z:l2≠z
 l2_TO:l2≠TO
 l2_i1:l2≠i1
 l2_i2:l2≠i2
abbrev Zcd(h:Heap)(T:Addr)(vs:List Value):Prop:=h.get? T=some {cls:=.type "tuple",data:=.seq vs.toArray}
theorem tat(x:IsTupIter h a t i)(k:∀o,h.get? a=some o->h'.get? a=some o):IsTupIter h' a t i:=let ⟨o,e,r⟩:=x;⟨o,k o e,r⟩
theorem Zmp(hit:IsTupIter s.heap it t i)(hl:IsTup s.heap t vs)(hx:vs[i]?=some x)(hQ:∀h',IsTupIter h' it t (i+1)->Heap.SameBut it s.heap h'->Q x {s with heap:=h'}):wpAny (model prog w) A (Builtin.SmallTypes.nextOf (.ref it)) Q E s:=by
 obtain⟨o,ho,hc,hd⟩:=id hit;obtain⟨ol,hol,_,nl,hdl⟩:=hl;unfold Builtin.SmallTypes.nextOf;refine Wb (wpAny_callSpecial?_slot (name:=Str.ofString "__next__") hit.typeIs slot_tupleiter_next (wpAny_call_entry slot_tupleiter_next hit.typeIs entry_tupleiter_next ?_ (args_tupleiter_next _)));show wpAny _ _ (field (.ref it) 0 >>= _) _ _ s;refine Wb (wpAny_field ho hd (x:=.ref t) rfl ?_);show wpAny _ _ (if(Value.ref t==Value.none)=true then _ else _) _ _ s
 rw[if_neg (show ¬((Value.ref t==Value.none)=true)from Bool.false_ne_true)];show wpAny _ _ (field (.ref it) 1 >>= _) _ _ s;refine Wb (wpAny_field ho hd (x:=.int i 0) rfl ?_);show wpAny _ _ (seqItems? (.ref t) >>= _) _ _ s;refine Wb (wpAny_seqItems hol hdl ?_);simp only[Int.toNat_natCast,hx];refine Wb (wpAny_setField ho hd (by simp) (Wp ⟨x,rfl,Wp (hQ _ ?_ (Heap.SameBut.update ..))⟩))
 exact⟨_,Heap.get?_update_self _ ho (Obj.isFreed_of_fields (Obj.data_mapFields hd _)),(Obj.cls_mapFields ..).trans hc,by rw[Obj.data_mapFields hd];simp[rawInt]⟩
theorem ZoO{items}(hh:A.handled=none)(hit:IsTupIter s.heap it l i)(hl:IsTup s.heap l items)(hx:items[i]?=none)(hE:∀h' e,Heap.ExtBut it s.heap h'->(∃o,h'.get? e=some o/\o.cls=.type "StopIteration")->E (.ref e) {s with heap:=h'}):wpAny (model prog w) A (Builtin.SmallTypes.nextOf (.ref it)) Q E s:=by
 obtain⟨o,ho,hc,hd⟩:=id hit;obtain⟨ol,hol,_,nl,hdl⟩:=hl;unfold Builtin.SmallTypes.nextOf;refine Wb (wpAny_callSpecial?_slot (name:=Str.ofString "__next__") hit.typeIs slot_tupleiter_next (wpAny_call_entry slot_tupleiter_next hit.typeIs entry_tupleiter_next ?_ (args_tupleiter_next _)))
 show wpAny _ _ (field (.ref it) 0 >>= _) _ _ s;refine Wb (wpAny_field ho hd (x:=.ref l) rfl ?_);show wpAny _ _ (if(Value.ref l==Value.none)=true then _ else _) _ _ s
 rw[if_neg (show ¬((Value.ref l==Value.none)=true)from Bool.false_ne_true)];show wpAny _ _ (field (.ref it) 1 >>= _) _ _ s;refine Wb (wpAny_field ho hd (x:=.int i 0) rfl ?_);show wpAny _ _ (seqItems? (.ref l) >>= _) _ _ s;refine Wb (wpAny_seqItems hol hdl ?_);simp only[Int.toNat_natCast,hx];refine Wb (wpAny_rule (Wb (wpAny_setField ho hd (by simp) ?_)))
 show wpAny _ _ (newExc (.type "StopIteration") [] >>= _) _ _ _;refine Wb ?_;simp only[newExc,newTuple];refine Wb (wpAny_newObj_type ?_ (by size_fits))
 refine Wb (m:=firstArgMember _ _) (wpAny_of_eq (a:=Value.none) (by first|rfl|(simp only[firstArgMember];rfl)) ?_)
 refine wpAny_newObj_type ?_ (by size_fits)
 simp only[raiseNew];refine Wb (wpAny_handled ?_)
 first|rw[show A.in1.handled=none from hh]|rw[hh]
 refine Wb (Wp (wpAny_throw ?_));exact hE _ _ (((Heap.SameBut.update ..).extBut.push _).push _) ⟨_,Heap.get?_push_size _ rfl,rfl⟩
theorem Zh5(hT:Zcd s.heap T [a1,a2])(h:∀h',Zcd h' T ([a1,a2].set k x)->Heap.SameBut T s.heap h'->Q () {s with heap:=h'}):wpAny (model prog w) A (updateSeq T (·.setIfInBounds k x)) Q E s:=by
 refine wpAny_updateSeq hT rfl (h _ ?_ (Heap.SameBut.update ..));show _=_;rw[Heap.get?_update_self _ hT rfl];simp[Obj.mapSeq]
theorem Zh6{TI TO:Addr}{Q:Vp}(D:Ap z TI TO i1 i2 l1 l2)(hz:IsZip s.heap z TI TO .none)(hTI:Zcd s.heap TI [.ref i1,.ref i2])(hTO:Zcd s.heap TO [a1,a2])(h1:s.heap.IsListIter i1 l1 k)(h2:IsTupIter s.heap i2 l2 k)(hl1:s.heap.IsList l1 xs1)(hl2:IsTup s.heap l2 xs2)(e1:xs1[k]?=some x1)(e2:xs2[k]?=some x2)(hQ:∀h',IsZip h' z TI TO (rawInt s.heap.objs.size)->Zcd h' TO [x1,x2]->h'.IsListIter i1 l1 (k+1)->IsTupIter h' i2 l2 (k+1)->Zcd h' s.heap.objs.size [x1,x2]->h'.objs.size=s.heap.objs.size+1->(∀c o,c≠z->c≠TO->c≠i1->c≠i2->s.heap.get? c=some o->h'.get? c=some o)->Q (.ref s.heap.objs.size) {s with heap:=h'}):wpAny (model prog w) A (Builtin.«zip.__next__» ⟨[.ref z],[]⟩) (fun fin s'=>∃v,fin=.done (.ret v)/\Q v s') E s:=by
 show wpAny _ _ (field (.ref z) 2 >>= _) _ _ _;refine Wb (wpAny_field hz rfl (x:=.bool false) rfl ?_);show wpAny _ _ (field (.ref z) 3 >>= _) _ _ _;refine Wb (wpAny_field hz rfl (x:=.ref TI) rfl ?_);refine Wb (wpAny_seqItems hTI rfl ?_);show wpAny _ _ (Builtin.SmallTypes.ownedTupleIsFree (.ref z) >>= _) _ _ _;refine Wb ?_;unfold Builtin.SmallTypes.ownedTupleIsFree;refine Wb (wpAny_field hz rfl (x:=.none) rfl (Wp ?_));simp only[if_true];refine Wb (wpAny_rule ?_);refine Wb (wpAny_field hz rfl (x:=.ref TO) rfl ?_);refine Wb (wpAny_setField_rec hz (by simp) fun g1 hz1 hs1=>?_)
 replace hz1:IsZip g1 z TI TO .ellipsis:=hz1
 refine Wb ?_;simp only[List.zipIdx_cons,List.zipIdx_nil,List.forIn_cons,List.forIn_nil];refine Wb (Wb (wpAny_onRaise ?_));show wpAny _ _ (Builtin.SmallTypes.nextOf (.ref i1) >>= _) _ _ _;refine Wb (wpAny_nextOf_list_item ((h1).extBut hs1.extBut D.z_i1.symm) ((hl1).extBut hs1.extBut D.l1_z) e1 fun g2 it1 hs2=>Wp ?_);have to2:Zcd g2 TO [a1,a2]:=hs2.extBut _ _ D.TO_i1 (hs1.extBut _ _ D.z_TO.symm (hTO));refine Wb (wpAny_seqItems to2 rfl ?_);refine Wb (Zh5 to2 fun g3 to3 hs3=>?_)
 replace to3:Zcd g3 TO [x1,a2]:=to3
 refine Wb (wpAny_letGo (Wp ?_));refine Wb (Wb (wpAny_onRaise ?_));show wpAny _ _ (Builtin.SmallTypes.nextOf (.ref i2) >>= _) _ _ _;refine Wb (Zmp ((((h2).extBut hs1.extBut D.z_i2.symm).extBut hs2.extBut D.i1_i2.symm).extBut hs3.extBut D.TO_i2.symm) ((((hl2).extBut hs1.extBut D.l2_z).extBut hs2.extBut D.l2_i1).extBut hs3.extBut D.l2_TO) e2 fun g4 it2 hs4=>Wp ?_);have to4:Zcd g4 TO [x1,a2]:=hs4.extBut _ _ D.TO_i2 (to3);refine Wb (wpAny_seqItems to4 rfl ?_);refine Wb (Zh5 to4 fun g5 to5 hs5=>?_)
 replace to5:Zcd g5 TO [x1,x2]:=to5
 refine Wb (wpAny_letGo (Wp (Wp ?_)));refine Wb (wpAny_seqItems to5 rfl ?_);refine Wb (wpAny_newTuple ?_);have hsz:g5.objs.size=s.heap.objs.size:=by rw[hs5.1,hs4.1,hs3.1,hs2.1,hs1.1]
 have hzF:IsZip g5 z TI TO .ellipsis:=hs5.extBut _ _ D.z_TO (hs4.extBut _ _ D.z_i2 (hs3.extBut _ _ D.z_TO (hs2.extBut _ _ D.z_i1 (hz1))));have hkF:∀c o,c≠z->c≠TO->c≠i1->c≠i2->s.heap.get? c=some o->g5.get? c=some o:=fun c o c1 c2 d1 d2 e=>hs5.extBut _ _ c2 (hs4.extBut _ _ d2 (hs3.extBut _ _ c2 (hs2.extBut _ _ d1 (hs1.extBut _ _ c1 (e)))));have f1:g5.IsListIter i1 l1 (k+1):=(((it1).extBut hs3.extBut D.TO_i1.symm).extBut hs4.extBut D.i1_i2).extBut hs5.extBut D.TO_i1.symm;have f2:IsTupIter g5 i2 l2 (k+1):=(it2).extBut hs5.extBut D.TO_i2.symm;have hzlt:z<g5.objs.size:=Hz hzF;show wpAny _ _ (Builtin.SmallTypes.ownedTupleHandOut (.ref z) (.ref g5.objs.size) >>= _) _ _ _;refine Wb ?_;unfold Builtin.SmallTypes.ownedTupleHandOut;have hzP:IsZip (g5.push {cls:=.type "tuple",data:=.seq #[x1,x2]}) z TI TO .ellipsis:=Hq _ hzF;refine Wb (wpAny_setField_rec hzP (by simp) fun h7 hz7 hs7=>?_)
 replace hz7:IsZip h7 z TI TO (rawInt g5.objs.size):=hz7
 refine wpAny_setField_rec hz7 (by simp) fun h8 hz8 hs8=>?_
 replace hz8:IsZip h8 z TI TO (rawInt g5.objs.size):=hz8
 have up:∀c o,c≠z->g5.get? c=some o->h8.get? c=some o:=fun c o c1 e=>hs8.extBut _ _ c1 (hs7.extBut _ _ c1 (Hq _ e));have hT8:Zcd h8 g5.objs.size [x1,x2]:=hs8.extBut _ _ (Nat.ne_of_gt hzlt) (hs7.extBut _ _ (Nat.ne_of_gt hzlt) (Heap.get?_push_size _ rfl));have h8z:h8.objs.size=g5.objs.size+1:=by rw[hs8.1,hs7.1,Heap.size_push]
 rw[hsz]at hz8 hT8 h8z;refine Wp ⟨_,rfl,?_⟩;show Q (.ref g5.objs.size) _;rw[hsz];exact hQ h8 hz8 (up _ _ D.z_TO.symm to5) (f1.at fun o e=>up _ o D.z_i1.symm e) (tat f2 fun o e=>up _ o D.z_i2.symm e) hT8 h8z fun c o c1 c2 d1 d2 e=>up c o c1 (hkF c o c1 c2 d1 d2 e)
theorem Zkb{TI TO:Addr}(hh:A.handled=none)(D:Ap z TI TO i1 i2 l1 l2)(hz:IsZip s.heap z TI TO .none)(hTI:Zcd s.heap TI [.ref i1,.ref i2])(hTO:Zcd s.heap TO [a1,a2])(h1:s.heap.IsListIter i1 l1 k)(h2:IsTupIter s.heap i2 l2 k)(hl1:s.heap.IsList l1 xs1)(hl2:IsTup s.heap l2 xs2)(hend:xs1[k]?=none\/xs2[k]?=none)(hE:∀h' e,(∀c o,c≠z->c≠TO->c≠i1->c≠i2->s.heap.get? c=some o->h'.get? c=some o)->(∃o,h'.get? e=some o/\o.cls=.type "StopIteration")->E (.ref e) {s with heap:=h'}):wpAny (model prog w) A (Builtin.«zip.__next__» ⟨[.ref z],[]⟩) Q E s:=by
 show wpAny _ _ (field (.ref z) 2 >>= _) _ _ _;refine Wb (wpAny_field hz rfl (x:=.bool false) rfl ?_);show wpAny _ _ (field (.ref z) 3 >>= _) _ _ _;refine Wb (wpAny_field hz rfl (x:=.ref TI) rfl ?_);refine Wb (wpAny_seqItems hTI rfl ?_);show wpAny _ _ (Builtin.SmallTypes.ownedTupleIsFree (.ref z) >>= _) _ _ _;refine Wb ?_;unfold Builtin.SmallTypes.ownedTupleIsFree;refine Wb (wpAny_field hz rfl (x:=.none) rfl (Wp ?_));simp only[if_true];refine Wb (wpAny_rule ?_);refine Wb (wpAny_field hz rfl (x:=.ref TO) rfl ?_);refine Wb (wpAny_setField_rec hz (by simp) fun g1 hz1 hs1=>?_)
 replace hz1:IsZip g1 z TI TO .ellipsis:=hz1
 refine Wb ?_;simp only[List.zipIdx_cons,List.zipIdx_nil,List.forIn_cons,List.forIn_nil];refine Wb (Wb (wpAny_onRaise ?_));show wpAny _ _ (Builtin.SmallTypes.nextOf (.ref i1) >>= _) _ _ _;cases hx1:xs1[k]? with
 |none=>
  refine Wb (wpAny_nextOf_list_end hh ((h1).extBut hs1.extBut D.z_i1.symm) ((hl1).extBut hs1.extBut D.l1_z) hx1 fun gE e hsE he=>?_);obtain⟨oe,hoe,hce⟩:=he;have hzE:IsZip gE z TI TO .ellipsis:=hsE _ _ D.z_i1 (hz1);have hez:e≠z:=fun x=>by subst x;rw[hzE]at hoe;cases hoe;simp at hce
  refine wpAny_setField_rec hzE (by simp) fun gF _ hsF=>hE gF e (fun c o c1 c2 d1 d2 x=>hsF.extBut _ _ c1 (hsE _ _ d1 (hs1.extBut _ _ c1 (x)))) ⟨oe,hsF.extBut _ _ hez hoe,hce⟩
 |some x1=>
  have hend1:xs2[k]?=none:=by rcases hend with h|h;rw[hx1]at h;cases h;exact h
  refine Wb (wpAny_nextOf_list_item ((h1).extBut hs1.extBut D.z_i1.symm) ((hl1).extBut hs1.extBut D.l1_z) hx1 fun g2 it1 hs2=>Wp ?_);have to2:Zcd g2 TO [a1,a2]:=hs2.extBut _ _ D.TO_i1 (hs1.extBut _ _ D.z_TO.symm (hTO));refine Wb (wpAny_seqItems to2 rfl ?_);refine Wb (Zh5 to2 fun g3 to3 hs3=>?_)
  replace to3:Zcd g3 TO [x1,a2]:=to3
  refine Wb (wpAny_letGo (Wp ?_));refine Wb (Wb (wpAny_onRaise ?_));show wpAny _ _ (Builtin.SmallTypes.nextOf (.ref i2) >>= _) _ _ _;refine Wb (ZoO hh ((((h2).extBut hs1.extBut D.z_i2.symm).extBut hs2.extBut D.i1_i2.symm).extBut hs3.extBut D.TO_i2.symm) ((((hl2).extBut hs1.extBut D.l2_z).extBut hs2.extBut D.l2_i1).extBut hs3.extBut D.l2_TO) hend1 fun gE e hsE he=>?_);obtain⟨oe,hoe,hce⟩:=he;have hzE:IsZip gE z TI TO .ellipsis:=hsE _ _ D.z_i2 (hs3.extBut _ _ D.z_TO (hs2.extBut _ _ D.z_i1 (hz1)));have hez:e≠z:=fun x=>by subst x;rw[hzE]at hoe;cases hoe;simp at hce
  refine wpAny_setField_rec hzE (by simp) fun gF _ hsF=>hE gF e (fun c o c1 c2 d1 d2 x=>hsF.extBut _ _ c1 (hsE _ _ d2 (hs3.extBut _ _ c2 (hs2.extBut _ _ d1 (hs1.extBut _ _ c1 (x)))))) ⟨oe,hsF.extBut _ _ hez hoe,hce⟩
theorem Zmq{TI TO:Addr}(D:Ap z TI TO i1 i2 l1 l2)(hz:IsZip s.heap z TI TO .none)(hTI:Zcd s.heap TI [.ref i1,.ref i2])(hTO:Zcd s.heap TO [a1,a2])(h1:s.heap.IsListIter i1 l1 k)(h2:IsTupIter s.heap i2 l2 k)(hl1:s.heap.IsList l1 xs1)(hl2:IsTup s.heap l2 xs2)(e1:xs1[k]?=some x1)(e2:xs2[k]?=some x2)(hQ:∀h',IsZip h' z TI TO (rawInt s.heap.objs.size)->Zcd h' TO [x1,x2]->h'.IsListIter i1 l1 (k+1)->IsTupIter h' i2 l2 (k+1)->Zcd h' s.heap.objs.size [x1,x2]->h'.objs.size=s.heap.objs.size+1->(∀c o,c≠z->c≠TO->c≠i1->c≠i2->s.heap.get? c=some o->h'.get? c=some o)->Q (some (.ref s.heap.objs.size)) {s with heap:=h'}):wpAny (model prog w) A (pyNext (.ref z)) Q E s:=by
 have hT:s.TypeIs (.ref z) "zip":=⟨_,hz,rfl⟩;unfold pyNext;exact Wb (wpAny_attempt (wpAny_callSpecial?_slot (name:=Str.ofString "__next__") hT F.slot_zip_next (wpAny_call_entry F.slot_zip_next hT F.entry_zip_next (Zh6 D hz hTI hTO h1 h2 hl1 hl2 e1 e2 fun h' b0 b1 b2 b3 b4 b5 b6=>Wp (hQ h' b0 b1 b2 b3 b4 b5 b6)) (F.args_zip_next_1 _))))
theorem ZoP{TI TO:Addr}(hh:A.handled=none)(D:Ap z TI TO i1 i2 l1 l2)(hz:IsZip s.heap z TI TO .none)(hTI:Zcd s.heap TI [.ref i1,.ref i2])(hTO:Zcd s.heap TO [a1,a2])(h1:s.heap.IsListIter i1 l1 k)(h2:IsTupIter s.heap i2 l2 k)(hl1:s.heap.IsList l1 xs1)(hl2:IsTup s.heap l2 xs2)(hend:xs1[k]?=none\/xs2[k]?=none)(hQ:∀h',(∀c o,c≠z->c≠TO->c≠i1->c≠i2->s.heap.get? c=some o->h'.get? c=some o)->Q none {s with heap:=h'}):wpAny (model prog w) A (pyNext (.ref z)) Q E s:=by
 have hT:s.TypeIs (.ref z) "zip":=⟨_,hz,rfl⟩;unfold pyNext;refine Wb (wpAny_attempt (wpAny_callSpecial?_slot (name:=Str.ofString "__next__") hT F.slot_zip_next (wpAny_call_entry F.slot_zip_next hT F.entry_zip_next (Zkb hh D hz hTI hTO h1 h2 hl1 hl2 hend fun h' e hk he=>?_) (F.args_zip_next_1 _))))
 obtain⟨o,ho,hc⟩:=he;refine Wb (wpAny_isInstance (T:="StopIteration") (b:=true) ⟨o,ho,hc⟩ isSubtype_stop ?_);exact Wp (hQ _ hk)
theorem Zkc(a1 a2:Value):checkTypeCall "zip" ⟨[a1,a2],[]⟩=pure ():=by kernel_rfl
theorem Zmr(a1 a2:Value):checkBuiltinCall "zip.__new__" ⟨[.type "zip",a1,a2],[]⟩=pure ():=by kernel_rfl
theorem Zh7(a0 a1 a2:Value):argsOk "object.__init__" ⟨[a0,a1,a2],[]⟩:=by
 unfold argsOk;rw[signature?_of (id:="object.__init__") (n:=['_','_','t','i','n','i','_','_']) (o:=['t','c','e','j','b','o']) (by kernel_rfl) F.owner_object];kernel_rfl
abbrev zH1(h:Heap)(l1:Addr):Heap:=h.push {cls:=.type "list_iterator",data:=.fields #[.ref l1,.int 0 0]}
abbrev zH2(h:Heap)(l1 l2:Addr):Heap:=(zH1 h l1).push {cls:=.type "tuple_iterator",data:=.fields #[.ref l2,.int 0 0]}
abbrev zH3(h:Heap)(l1 l2:Addr):Heap:=(zH2 h l1 l2).push {cls:=.type "tuple",data:=.seq #[.ref h.objs.size,.ref (zH1 h l1).objs.size]}
abbrev zH4(h:Heap)(l1 l2:Addr):Heap:=(zH3 h l1 l2).push {cls:=.type "tuple",data:=.seq #[.none,.none]}
abbrev zH5(h:Heap)(l1 l2:Addr):Heap:=(zH4 h l1 l2).push {cls:=.type "zip",data:=.fields #[.none,.bool false,.bool false,.ref (zH2 h l1 l2).objs.size,.ref (zH3 h l1 l2).objs.size]}
theorem Zru(l1 l2:Addr)(xs1 xs2:Array Value):Meets (Builtin.«zip.__new__» ⟨[.type "zip",.ref l1,.ref l2],[]⟩) (fun _ R s=>s.heap.IsList l1 xs1/\IsTup s.heap l2 xs2/\R (.ok (.ret (.ref (zH4 s.heap l1 l2).objs.size))) {s with heap:=zH5 s.heap l1 l2}):=
 .of_wp fun prog w A R s h=>by
  obtain⟨hp,g,d,tk,os⟩:=s;obtain⟨hl1,hl2,h⟩:=h;have hsub:=sub_zip;have hL1:Heap.IsList (Shared.heap ⟨hp,g,d,tk,os⟩) l1 xs1:=hl1;have hL2:IsTup (Shared.heap ⟨(hp.push {cls:=.type "list_iterator",data:=.fields #[.ref l1,.int 0 0]}),g,d,tk,os⟩) l2 xs2:=IsTup.push hl2 _
  wp_walk using wpAny_pyIter_list hL1,iter_tuple hL2
  exact⟨_,rfl,h⟩
theorem Zkd(hl1:s.heap.IsList l1 xs1)(hl2:IsTup s.heap l2 xs2)(h:∀h',IsZip h' (s.heap.objs.size+4) (s.heap.objs.size+2) (s.heap.objs.size+3) .none->Zcd h' (s.heap.objs.size+2) [.ref s.heap.objs.size,.ref (s.heap.objs.size+1)]->Zcd h' (s.heap.objs.size+3) [.none,.none]->h'.IsListIter s.heap.objs.size l1 0->IsTupIter h' (s.heap.objs.size+1) l2 0->h'.objs.size=s.heap.objs.size+5->(∀c o,s.heap.get? c=some o->h'.get? c=some o)->Q (.ref (s.heap.objs.size+4)) {s with heap:=h'}):wpAny (model prog w) A (call (.type "zip") [.ref l1,.ref l2]) Q E s:=by
 refine callType_new F.called_zip (by decide) (Zkc _ _) (Zmr _ _) (fun obj=>Zh7 obj _ _) F.entry_zip_new
  (Zru l1 l2 xs1 xs2) ⟨hl1,hl2,?_⟩
 have z1:(zH1 s.heap l1).objs.size=s.heap.objs.size+1:=Heap.size_push ..;have z2:(zH2 s.heap l1 l2).objs.size=s.heap.objs.size+2:=by rw[Heap.size_push,z1]
 have z3:(zH3 s.heap l1 l2).objs.size=s.heap.objs.size+3:=by rw[Heap.size_push,z2]
 have z4:(zH4 s.heap l1 l2).objs.size=s.heap.objs.size+4:=by rw[Heap.size_push,z3]
 have z5:(zH5 s.heap l1 l2).objs.size=s.heap.objs.size+5:=by rw[Heap.size_push,z4]
 have g5:(zH5 s.heap l1 l2).get? (zH4 s.heap l1 l2).objs.size=some _:=Heap.get?_push_size _ rfl;have g4:(zH5 s.heap l1 l2).get? (zH3 s.heap l1 l2).objs.size=some _:=Hq _ (Heap.get?_push_size _ rfl);have g3:(zH5 s.heap l1 l2).get? (zH2 s.heap l1 l2).objs.size=some _:=Hq _ (Hq _ (Heap.get?_push_size _ rfl));have g2:(zH5 s.heap l1 l2).get? (zH1 s.heap l1).objs.size=some _:=Hq _ (Hq _ (Hq _ (Heap.get?_push_size _ rfl)));have g1:(zH5 s.heap l1 l2).get? s.heap.objs.size=some _:=Hq _ (Hq _ (Hq _ (Hq _ (Heap.get?_push_size _ rfl))));show _/\_;rw[z2,z3,z4]at g5;rw[z1,z2]at g3;rw[z3]at g4;rw[z1]at g2;rw[z4];exact⟨⟨_,g5,rfl⟩,h _ g5 g3 g4 ⟨_,g1,rfl,rfl⟩ ⟨_,g2,rfl,rfl⟩ z5 fun c o x=>Hq _ (Hq _ (Hq _ (Hq _ (Hq _ (x)))))⟩
def Itz(K:Fg)(l1 l2:Addr):It:=
 ⟨fun i H=>∃xs1 xs2 v1 v2,SqL K H l1 xs1/\SqT K H l2 xs2/\xs1[i]?=some v1/\xs2[i]?=some v2,fun i H x H'=>∃p,H p=none/\(x=.ref p/\∀xs1 xs2 v1 v2,SqL K H l1 xs1->SqT K H l2 xs2->xs1[i]?=some v1->xs2[i]?=some v2->H'=upd H p (.tup [v1,v2])),fun i H=>∃xs1 xs2,SqL K H l1 xs1/\SqT K H l2 xs2/\(xs1.length<=i\/xs2.length<=i)⟩
theorem Zdu{K:Fg}(hB:B.handled=none){TI TO:Addr}(D:Ap z TI TO i1 i2 l1 l2):Turn P w K B (.Tuple elts k0 tp) (Itz K l1 l2) [z,TI,TO,i1,i2] z (fun i h=>IsZip h z TI TO .none/\Zcd h TI [.ref i1,.ref i2]/\(∃a1 a2,Zcd h TO [a1,a2])/\h.IsListIter i1 l1 i/\IsTupIter h i2 l2 i) where
 mem:=by simp
 obj:=fun i h st c hc=>by
  obtain⟨h1,h2,⟨a1,a2,h3⟩,⟨o1,e1,c1,d1⟩,⟨o2,e2,c2,d2⟩⟩:=st;simp only[List.mem_cons,List.not_mem_nil,or_false]at hc;rcases hc with rfl|rfl|rfl|rfl|rfl
  ·exact⟨_,h1,fun v q=>by cases q⟩
  ·exact⟨_,h2,fun v q=>by cases q⟩
  ·exact⟨_,h3,fun v q=>by cases q⟩
  ·exact⟨o1,e1,fun v q=>by rw[d1]at q;cases q⟩
  ·exact⟨o2,e2,fun v q=>by rw[d2]at q;cases q⟩
 keep:=fun i h h' st k=>by
  obtain⟨h1,h2,⟨a1,a2,h3⟩,t1,t2⟩:=st;exact⟨k z (by simp) _ h1,k TI (by simp) _ h2,⟨a1,a2,k TO (by simp) _ h3⟩,t1.at fun o q=>k i1 (by simp) o q,tat t2 fun o q=>k i2 (by simp) o q⟩
 item:=by
  intro X hP hw hK hA i pins s σ H E I hf st hg;subst hP hw hK hA;obtain⟨h1,h2,⟨a1,a2,h3⟩,t1,t2⟩:=st;obtain⟨xs1,xs2,v1,v2,q1,q2,m1,m2⟩:=hg;obtain⟨its1,rv1,p1,hz1⟩:=I.list q1;obtain⟨u1,hu1,ru1⟩:=rv1.get m1;obtain⟨its2,rv2,p2,hz2⟩:=I.tuple q2;obtain⟨u2,hu2,ru2⟩:=rv2.get m2;have lt:∀c∈[z,TI,TO,i1,i2],c<s.heap.objs.size:=fun c hc=>by
   simp only[List.mem_cons,List.not_mem_nil,or_false]at hc;rcases hc with rfl|rfl|rfl|rfl|rfl
   ·exact Hz h1
   ·exact Hz h2
   ·exact Hz h3
   ·obtain⟨o,e2,_⟩:=t1;exact Hz e2
   ·obtain⟨o,e2,_⟩:=t2;exact Hz e2
  refine Zmq D h1 h2 h3 t1 t2 p1.isList p2 (x1:=u1) (x2:=u2) (by simpa using hu1) (by simpa using hu2) fun h' o1 o2 w1 w2 o5 o6 o7=>⟨_,rfl,?_⟩
  refine wpAny_letOwnedTupleGo_zip (s:={s with heap:=h'}) o1 fun h'' r1 r2=>?_;have pe:s.heap.objs.size≠z:=Nat.ne_of_gt (lt z (by simp))
  obtain⟨J1,J2,J3⟩:=ZhM (h':=h'') (t':=s.toks) (ch:=[z,TI,TO,i1,i2]) (vs:=[v1,v2]) (us:=[u1,u2]) I hf lt (.cons ru1 (.cons ru2 .nil)) (by show 2<=sizeLine;decide)
   (fun c o hc q=>by
    simp only[List.mem_cons,List.not_mem_nil,or_false,not_or]at hc;exact(r2.2 c hc.1).trans (o7 c o hc.1 hc.2.2.1 hc.2.2.2.1 hc.2.2.2.2 q)) ((r2.2 _ pe).trans o5)
  refine⟨.ref s.heap.objs.size,_,J1,rfl,⟨_,J2,rfl,fun xs1' xs2' v1' v2' s1 s2 n1 n2=>?_⟩,⟨r1,(r2.2 TI D.z_TI.symm).trans (o7 TI _ D.z_TI.symm D.TI_TO D.TI_i1 D.TI_i2 h2),⟨u1,u2,(r2.2 TO D.z_TO.symm).trans o2⟩,w1.at fun o q=>(r2.2 i1 D.z_i1.symm).trans q,tat w2 fun o q=>(r2.2 i2 D.z_i2.symm).trans q⟩,J3⟩;rw[I.list_inj s1 q1,m1]at n1;cases n1;rw[I.tuple_inj s2 q2,m2]at n2;cases n2;rfl
 done:=by
  intro X hP hw hK hA i pins s σ H E I hf st hg;subst hP hw hK hA;obtain⟨h1,h2,⟨a1,a2,h3⟩,t1,t2⟩:=st;obtain⟨xs1,xs2,q1,q2,hx⟩:=hg;obtain⟨its1,rv1,p1,hz1⟩:=I.list q1;obtain⟨its2,rv2,p2,hz2⟩:=I.tuple q2;have he:its1.toArray[i]?=none\/its2.toArray[i]?=none:=by
   rcases hx with hx|hx
   ·exact(.inl (by simp only[List.getElem?_toArray];exact List.getElem?_eq_none (by rw[<-rv1.length];exact hx)))
   ·exact(.inr (by simp only[List.getElem?_toArray];exact List.getElem?_eq_none (by rw[<-rv2.length];exact hx)))
  refine ZoP hB D h1 h2 h3 t1 t2 p1.isList p2 he fun h' keep=>⟨rfl,?_⟩;refine Ze8 (t':=s.toks) (ch:=[z,TI,TO,i1,i2]) I (fun c o hc q=>?_) hf;simp only[List.mem_cons,List.not_mem_nil,or_false,not_or]at hc;exact keep c o hc.1 hc.2.2.1 hc.2.2.2.1 hc.2.2.2.2 q
 self:=fun A i s Q E st q=>wpAny_pyIter_zip st.1 q
theorem ZhO{n:Nat}(h1:l1<n)(h2:l2<n):Ap (n+4) (n+2) (n+3) n (n+1) l1 l2:=⟨Nat.ne_of_gt (by lia),Nat.ne_of_gt (by lia),Nat.ne_of_gt (by lia),Nat.ne_of_gt (by lia),Nat.ne_of_lt (by lia),Nat.ne_of_gt (by lia),Nat.ne_of_gt (by lia),Nat.ne_of_gt (by lia),Nat.ne_of_gt (by lia),Nat.ne_of_lt (by lia),Nat.ne_of_lt (by lia),Nat.ne_of_lt (by lia),Nat.ne_of_lt (by lia),Nat.ne_of_lt (by lia),Nat.ne_of_lt (by lia),Nat.ne_of_lt (by lia),Nat.ne_of_lt (by lia),Nat.ne_of_lt (by lia)⟩
def Zrs(K:Fg)(t:TA):TI:=fun σ H R=>t σ H fun vs H1=>∃l1 l2 xs1 xs2,vs=[.ref l1,.ref l2]/\SqL K H1 l1 xs1/\SqT K H1 l2 xs2/\R (Itz K l1 l2) H1
theorem ZhP(hc:X.A.handled=none)(hg:Gl X "zip")(hm:X.mg "zip"=none)(ha:PA X [y1,y2] ta)(hs:autoParam (starEach [y1,y2] X.env=(false,eval y1 X.env)::starEach [y2] X.env) Qrf._auto_1)(hpl:autoParam ((backTo pos (starEach [y2] X.env)).any (·.1)=false) Qrf._auto_1):
  PI X (.Tuple elts k0 tp) (.Call (.Name "zip" p) [y1,y2] [] pos) (Zrs X.K ta):=by
 intro pins s σ H R I h;refine wpAny_Call_Name_kw (Zbg I hg hm Zk7 (PyProof.Rows.callWith_type1 (thn (ha pos pins s σ H _ I h) fun us s1 ⟨vs,H1,I1,r1,q1⟩=>?_) hs hpl) (by decide) (by decide))
 obtain⟨l1,l2,xs1,xs2,rfl,hq1,hq2,q⟩:=q1;cases r1 with
 |cons ru1 rr1=>
 cases rr1 with
 |cons ru2 rr2=>
 cases rr2 with
 |nil=>
 cases ru1;cases ru2;obtain⟨its1,rv1,pl1,hz1⟩:=I1.list hq1;have lt1:l1<s1.heap.objs.size:=by obtain⟨_,e,_⟩:=pl1.isList;exact Hz e
 obtain⟨its2,rv2,pl2,hz2⟩:=I1.tuple hq2;have lt2:l2<s1.heap.objs.size:=by obtain⟨_,e,_⟩:=pl2;exact Hz e
 refine Zkd pl1.isList pl2 fun h' ez eti eto ei1 ei2 esz ek=>?_;have D:=ZhO lt1 lt2;have T:=Zdu (P:=X.prog) (w:=X.w) (K:=X.K) (B:=X.A) (elts:=elts) (k0:=k0) (tp:=tp) hc D;have I2:Inv X pins σ H1 {s1 with heap:=h',toks:=s1.toks}:=I1.kept (t':=s1.toks) ek;refine T.self X.A 0 {s1 with heap:=h'} _ _ ⟨ez,eti,⟨_,_,eto⟩,ei1,ei2⟩ ⟨_,_,_,_,H1,rfl,I2,T,⟨ez,eti,⟨_,_,eto⟩,ei1,ei2⟩,fun c hc=>?_,q⟩;have hb':s1.heap.objs.size<=c:=by
  simp only[List.mem_cons,List.not_mem_nil,or_false]at hc;rcases hc with rfl|rfl|rfl|rfl|rfl<;>lia
 exact I1.fpOk hb' (I1.hok.fresh hb')
def iZt(fs:Av):Ro->Sto->Out Src:=fun ρ M=>(fs ρ M).bind fun ds M1=>match ds with|[.ref n,.tup es]=>.ok (.zipT n es) M1|_=>.bad
theorem Zeo(hc:X.A.handled=none)(hm:X.mg "zip"=none)(ha:DA X ξ [y1,y2] fs)(hg:autoParam (Gl X "zip") Qrf._auto_1)(hs:autoParam (starEach [y1,y2] X.env=(false,eval y1 X.env)::starEach [y2] X.env) Qrf._auto_1)(hpl:autoParam ((backTo pos (starEach [y2] X.env)).any (·.1)=false) Qrf._auto_1):
  DI X ξ (.Tuple elts k0 tp) (.Call (.Name "zip" p) [y1,y2] [] pos) (iZt fs):=by
 obtain⟨ta,pa,qa⟩:=ha;refine⟨_,ZhP hc hg hm pa hs hpl,fun σ ρ H α M R s hh q=>qa σ ρ H α M _ s hh (OG.seq q fun ds M1 vs H1 α1 e1 h1 r1 w1=>?_)⟩
 split at w1
 ·rename_i n es;cases r1 with
  |cons r t=>
   cases t with
   |cons r' t=>
    cases t;cases r with
    |@ref l1 _ hp=>
     have rr:=r';cases r' with
     |@tup l2 zs2 _ hp2 rp2=>
      obtain⟨zs1,g1⟩:=h1.some_at hp;refine⟨l1,l2,zs1,zs2,rfl,SqL.of g1,SqT.of hp2,w1 _ H1 α1 Ext.refl h1 fun i H' α' M' ex hr=>?_⟩;have rm:=Rep.mono ex rr;cases em:M'[n]? with
      |none=>rw[show nxt (.zipT n es) i M'=none by simp only[nxt,em]];exact True.intro
      |some so=>
       cases so with
       |lst es1=>
        obtain⟨xs1,g11,g21⟩:=hr.at (ex.get hp) em;cases rm with
        |@tup _ xs2 _ hp2' rp2'=>
         cases ei1:es1[i]? with
         |none=>
          rw[show nxt (.zipT n es) i M'=some none by simp only[nxt,em,ei1]]
          exact⟨xs1,xs2,SqL.of g11,SqT.of hp2',.inl (by rw[g21.length];exact List.getElem?_eq_none_iff.mp ei1)⟩
         |some d1=>
          cases ei2:es[i]? with
          |none=>
           rw[show nxt (.zipT n es) i M'=some none by simp only[nxt,em,ei1,ei2]]
           exact⟨xs1,xs2,SqL.of g11,SqT.of hp2',.inr (by rw[rp2'.length];exact List.getElem?_eq_none_iff.mp ei2)⟩
          |some d2=>
           obtain⟨v1,k11,k21⟩:=g21.get ei1;obtain⟨v2,k12,k22⟩:=rp2'.get ei2;rw[show nxt (.zipT n es) i M'=some (some (D.tup [d1,d2]))by simp only[nxt,em,ei1,ei2]]
           refine⟨⟨xs1,xs2,v1,v2,SqL.of g11,SqT.of hp2',k11,k12⟩,fun x H'' y=>?_⟩;obtain⟨pp,y1,rfl,y3⟩:=y;have y4:=y3 xs1 xs2 v1 v2 (SqL.of g11) (SqT.of hp2') k11 k12;subst y4;exact⟨Ext.new0 y1,hr.tup y1,.tup Zs (.cons (Rep.mono (Ext.new0 y1) k21) (.cons (Rep.mono (Ext.new0 y1) k22) .nil))⟩
     |_=>exact w1.elim
    |_=>exact w1.elim
 ·exact w1.elim
end DLy2
namespace PySem.SeqAt
open PySem.AutoSeq1 (wpAny_loadPart')
open MeetsSeq MeetsSeq2 MeetsSeq3 SeqRoads2
end PySem.SeqAt
namespace DL
open PyProof.Rows L2
open PySem.SeqAt
noncomputable def Zfa:List D->Option (List Int)
 |[]=>some []
 |.int i::r=>match Zfa r with|some is=>some (i::is)|none=>none
 |_::_=>none
theorem Zet{K:Fg}{H:Hp}{α:List Addr}:∀{vs:List V}{ds:List D}{a:List Int},Reps K H α vs ds->Zfa ds=some a->vs=a.map V.int
 |_,_,a,.nil,e=>by cases e;rfl
 |_,_,a,.cons (d:=d) (ds:=ds) r t,e=>by
  cases r with
  |int i=>
   unfold Zfa at e
   split at e
   ·rename_i is e1;cases e;rw[Zet t e1];rfl
   ·cases e
  |_=>cases e
section
variable {H:Hp}{α:List Addr}
theorem Zh8:∀{xs:List V}{us:List Value}{j:Nat}{u:Value},ZS xs us->us[j]?=some u->∃x,xs[j]?=some x/\ZR x u
 |[],us,j,u,h,e=>by cases h;simp at e
 |x::xs,us,j,u,h,e=>by
  cases h with
  |cons h1 h2=>
   cases j with
   |zero=>simp at e;subst e;exact⟨x,rfl,h1⟩
   |succ j=>simp at e;obtain⟨y,g1,g2⟩:=Zh8 h2 e;exact⟨y,by simpa using g1,g2⟩
theorem Zh9{K:Fg}:∀{xs:List V}{ds:List D}{j:Nat}{x:V},Reps K H α xs ds->xs[j]?=some x->∃d,ds[j]?=some d/\Rep K H α x d
 |_,_,j,x,.nil,e=>by simp at e
 |_,_,0,x,.cons r _,e=>by simp at e;subst e;exact⟨_,rfl,r⟩
 |_,_,j+1,x,.cons _ t,e=>by
  obtain⟨d,g1,g2⟩:=Zh9 (j:=j) t (by simpa using e)
  exact⟨d,by simpa using g1,g2⟩
end
end DL
namespace PySem
open PySem.Sem (wp)
end PySem
namespace DL
open PyProof.Rows L2
open PySem.SeqAt
end DL
namespace HT
open PyProof.Rows
section
open PySem.SeqAt
open PySem.AutoSeq1 (wpAny_loadPart')
open PySem.MeetsSeq PySem.MeetsSeq2 PySem.MeetsSeq3
end
end HT
namespace DL
open PyProof.Rows L2
end DL
namespace DL
open PyProof.Rows L2
end DL
namespace DL
open PyProof.Rows L2
end DL
namespace DL
open PyProof.Rows L2
theorem Zms(nd:(d==sysModules)=false)(gd:s.heap.get? d=some od)(cd:od.cls=.type "dict")(ed:od.data=.dict es ep)(q:Q (.ref s.heap.objs.size) {s with heap:=s.heap.push {cls:=.type "dict_keyiterator",data:=.fields #[.ref d,.int 0 0,.int es.size 0,.int ep 0]}}):wpAny (model prog w) A (pyIter (.ref d)) Q E s:=by
 have ty:s.TypeIs (.ref d) "dict":=⟨od,gd,cd⟩;have nm:¬(d==sysModules)=true:=by rw[nd];exact Bool.false_ne_true
 refine wpAny_pyIter_slot ty F.slot_dict_iter (wpAny_call_entry F.slot_dict_iter ty F.entry_dict_iter ?_ (F.args_dict_iter_1 _));unfold Builtin.«dict.__iter__» Builtin.Dict.dictSlotNone;refine Wb (Wb (wpAny_notOrdered_dict ty (show wpAny (model prog w) _ (pure (Value.ref d)) _ _ s from Wp ?_)));show wpAny (model prog w) _ (Builtin.Dict.showsAll d >>= _) _ _ s;unfold Builtin.Dict.showsAll;rw[if_neg nm];refine Wb (Wp (Wb (wpAny_dictEntries gd ed (Wb (wpAny_dictEpoch gd ed (Wb (wpAny_newObj_type (Wp ⟨_,rfl,"dict_keyiterator",_,⟨_,Heap.get?_push_size _ rfl,rfl⟩,F.slot_dict_keyiterator_next.lookup,?_⟩))))))))
 simpa [rawInt]using q
theorem Zia:Builtin.Dict_items.ownsTuple "dict_keyiterator"=false:=by decide
theorem ZoQ(hi:s.heap.IsKeyIter it d i es.size ep)(gd:s.heap.get? d=some od)(ed:od.data=.dict es ep)(he:es[i]?=some e)(q:∀h',h'.IsKeyIter it d (i+1) es.size ep->Heap.SameBut it s.heap h'->Q (some e.key) {s with heap:=h'}):wpAny (model prog w) A (pyNext (.ref it)) Q E s:=by
 obtain⟨oi,gi,ci,di⟩:=id hi;obtain⟨lt,ee⟩:=Array.getElem?_eq_some_iff.mp he;have sl:=F.slot_dict_keyiterator_next;have n1:¬((Value.ref d==Value.none)=true):=Bool.false_ne_true;have n2:¬((i:Int)<0):=by lia
 unfold pyNext;refine Wb (wpAny_attempt (wpAny_callSpecial?_slot (name:=Str.ofString "__next__") hi.typeIs sl (wpAny_call_entry sl hi.typeIs F.entry_dict_keyiterator_next ?_ (F.args_dict_keyiterator_next_1 _))));refine Wb (Wp (Wb (Wb ?_)))
 first|refine Wb (wpAny_typeNameOfWhole_keyiter hi.typeIs (Wp (Wb (wpAny_fieldsOf gi di ?_))))|refine Wb (wpAny_typeNameOf_keyiter hi.typeIs (Wp (Wb (wpAny_fieldsOf gi di ?_))))
 simp only[Zia,Bool.false_eq_true,if_false];show wpAny (model prog w) _ (if(Value.ref d==Value.none)=true then _ else _) _ _ s
 rw[if_neg n1];refine Wb (Wp (Wb (wpAny_dictEntries gd ed ?_)));rw[if_neg (by simp)]
 refine Wb (Wp (Wb (wpAny_dictEpoch gd ed ?_)));rw[if_neg (by simp)]
 refine Wp ?_;simp only[n2,if_false,Int.toNat_natCast,he];refine Wb ?_;have st:(s.heap.update it (Obj.mapFields (·.setIfInBounds 1 (rawInt ((i:Int)+1))))).IsKeyIter it d (i+1) es.size ep:=⟨_,Heap.get?_update_self _ gi (Obj.isFreed_of_fields (Obj.data_mapFields di _)),(Obj.cls_mapFields ..).trans ci,by rw[Obj.data_mapFields di];simp[rawInt]⟩
 first|refine Wb (wpAny_typeNameOfWhole_keyiter hi.typeIs (Wp (Wb (wpAny_isOneOf_keyiter hi.typeIs ?_))))|refine Wb (wpAny_typeNameOf_keyiter hi.typeIs (Wp (Wb (wpAny_isOneOf_keyiter hi.typeIs ?_))))
 show wpAny (model prog w) _ (setField (.ref it) 1 (rawInt ((i:Int)+1)) >>= _) _ _ s;refine Wb (wpAny_setField gi di (by simp) (Wb (wpAny_holding (Wb (wpAny_isOneOf_keyiter (s:={s with heap:=s.heap.update it (Obj.mapFields (·.setIfInBounds 1 (rawInt ((i:Int)+1))))}) st.typeIs ?_)))))
 show wpAny (model prog w) _ (pure e.key) _ _ _;exact Wp (Wp ⟨_,rfl,Wp (q _ st (Heap.SameBut.update ..))⟩)
theorem ZoR(qq:DQ.ZaJ A s.heap)(hi:s.heap.IsKeyIter it d i es.size ep)(gd:s.heap.get? d=some od)(ed:od.data=.dict es ep)(he:es[i]?=none):wpAny (model prog w) A.in1 (Builtin.«dict_keyiterator.__next__» ⟨[.ref it],[]⟩) (fun _ _=>False) (DQ.Zfz it s) s:=by
 obtain⟨oi,gi,ci,di⟩:=id hi;have n1:¬((Value.ref d==Value.none)=true):=Bool.false_ne_true;have n2:¬((i:Int)<0):=by lia
 refine Wb (Wp (Wb (Wb ?_)))
 first|refine Wb (wpAny_typeNameOfWhole_keyiter hi.typeIs (Wp (Wb (wpAny_fieldsOf gi di ?_))))|refine Wb (wpAny_typeNameOf_keyiter hi.typeIs (Wp (Wb (wpAny_fieldsOf gi di ?_))))
 simp only[Zia,Bool.false_eq_true,if_false];show wpAny (model prog w) _ (if(Value.ref d==Value.none)=true then _ else _) _ _ s
 rw[if_neg n1];refine Wb (Wp (Wb (wpAny_dictEntries gd ed ?_)));rw[if_neg (by simp)]
 refine Wb (Wp (Wb (wpAny_dictEpoch gd ed ?_)));rw[if_neg (by simp)]
 refine Wp ?_;simp only[n2,if_false,Int.toNat_natCast,he];refine Wb ?_
 first|refine Wb (wpAny_typeNameOfWhole_keyiter hi.typeIs (Wp ?_))|refine Wb (wpAny_typeNameOf_keyiter hi.typeIs (Wp ?_))
 show wpAny (model prog w) _ (setField (.ref it) 0 .none >>= _) _ _ s;refine Wb (wpAny_setField gi di (by simp) ?_)
 have q2:DQ.ZaJ A.in1 (s.heap.update it (Obj.mapFields (·.setIfInBounds 0 Value.none))):=by
  rcases qq with qq|⟨ea,oe,vs,e1,e2,e3,e4⟩
  ·exact .inl qq
  ·refine .inr ⟨ea,oe,vs,e1,?_,e3,e4⟩;rw[Heap.get?_update_other _ _ (fun z=>?_)]
   ·exact e2
   ·rw[<-z,gi]at e2;cases e2;rw[di]at e3;cases e3;simp at e4
 refine DQ.Zbc q2 fun h' e k ho=>⟨e,rfl,ho,h',fun b o hb z=>k b o ?_,rfl⟩;rw[Heap.get?_update_other _ _ (Ne.symm hb)];exact z
theorem ZgH(qq:DQ.ZaJ A s.heap)(hi:s.heap.IsKeyIter it d i es.size ep)(gd:s.heap.get? d=some od)(ed:od.data=.dict es ep)(he:es[i]?=none)(q:∀h',Heap.ExtBut it s.heap h'->Q none {s with heap:=h'}):wpAny (model prog w) A (pyNext (.ref it)) Q E s:=
 DQ.ZfA hi.typeIs F.slot_dict_keyiterator_next F.entry_dict_keyiterator_next (F.args_dict_keyiterator_next_1 _) (ZoR qq hi gd ed he) q
end DL
namespace DL
open PyProof.Rows L2 PySem.W
theorem Zke(lo:(d==sysModules)=false):KdlSrc prog w "dict" d d es.size (fun i v=>∃e:DictEntry,es[i]?=some e/\v=e.key) (fun h=>∃o,h.get? d=some o/\o.cls=.type "dict"/\o.data=.dict es ep) where
 type:=fun _ ⟨o,e,c,_⟩=>⟨o,e,c⟩
 there:=fun _ ⟨o,e,_⟩=>⟨Hz e,Hz e⟩
 keep:=fun _ _ ⟨o,e,r⟩ hk=>⟨o,hk d (.inl rfl) o e,r⟩
 notList:=by decide
 notTuple:=by decide
 hint:=fun _ _ _ _ ⟨o,e,c,_⟩ hq=>kdl_hint_dict ⟨o,e,c⟩ hq
 iter:=fun A s hh ⟨o,e,c,dd⟩=>⟨_,fun i h=>h.IsKeyIter s.heap.objs.size d i es.size ep/\∃o,h.get? d=some o/\o.cls=.type "dict"/\o.data=.dict es ep,fun _ _ hq=>Zms lo e c dd hq,{
  sub:=fun b hb=>by simp at hb;simp[hb]
  frame:=fun _ _ _ st hk=>⟨st.1.at fun o e=>hk _ (by simp) o e,let ⟨o,e,r⟩:=st.2;⟨o,hk d (by simp) o e,r⟩⟩
  item:=fun i s' Q E hi st hQ=>by
   obtain⟨o',e',c',d'⟩:=st.2;have ne:d≠s.heap.objs.size:=Nat.ne_of_lt (Hz e);refine ZoQ st.1 e' d' (Array.getElem?_eq_getElem hi) fun h' it' sb=>hQ _ h' s'.toks ⟨_,Array.getElem?_eq_getElem hi,rfl⟩ ⟨it',o',by rw[sb.2 d ne];exact e',c',d'⟩ fun b ob hb eb=>?_
   rw[sb.2 b (fun z=>hb (by simp[z]))]
   exact eb
  done:=fun s' Q E st hQ=>by
   obtain⟨o',e',c',d'⟩:=st.2;exact ZgH (.inl hh) st.1 e' d' (by simp) fun h' he'=>hQ h' s'.toks fun b ob hb eb=>he' b ob (fun z=>hb (by simp[z])) eb
  self:=fun _ _ _ _ st hQ=>wpAny_pyIter_keyiter st.1 hQ},⟨_,Heap.get?_push_size _ rfl,rfl,rfl⟩,o,Hq _ e,c,dd⟩
def Zjt:List D->Option (List (List Key))
 |[]=>some []
 |d::r=>match kT d,Zjt r with|some k,some ks=>some (k::ks)|_,_=>none
def kyU:D->Option (List (List Key))
 |.tup ds=>Zjt ds
 |_=>none
theorem Zcl:∀{ds:List D}{ks:List (List Key)},Zjt ds=some ks->ds=ks.map Zdl
 |[],ks,h=>by cases h;rfl
 |d::r,ks,h=>by
  unfold Zjt at h
  split at h
  ·rename_i k ks' e1 e2;cases h;rw[List.map_cons,<-ZoM e1,<-Zcl e2]
  ·cases h
theorem Zeu:∀(ks:List (List Key)),Zjt (ks.map Zdl)=some ks
 |[]=>rfl
 |k::ks=>by rw[List.map_cons,Zjt,Zj9,Zeu ks]
theorem Zmt(h:kyU d=some ks):d=Zl2 ks:=by
 cases d with
 |tup ds=>rw[Zl2,<-Zcl h]
 |_=>cases h
theorem Zkf(ks:List (List Key)):kyU (Zl2 ks)=some ks:=Zeu ks
section
variable {K:Fg}{H:Hp}{α:List Addr}
theorem Zev:∀{vs:List V}{ds:List D}{ks:List Key},Reps K H α vs ds->kKs ds=some ks->vs=ks.map kV
 |_,_,ks,.nil,e=>by cases e;rfl
 |_,_,ks,.cons (d:=d) (ds:=ds) r t,e=>by
  unfold kKs at e
  split at e
  ·rename_i k ks' e1 e2;cases e;rw[List.map_cons,Zev t e2];congr 1;cases r with
   |int i=>cases e1;rfl
   |str x=>cases e1;rfl
   |_=>cases e1
  ·cases e
theorem Zda:∀{xs:List V}{ds:List D}{ks:List (List Key)},Reps K H α xs ds->Zjt ds=some ks->∃cs:List Addr,xs=cs.map V.ref/\Paired (fun(k:List Key) (c:Addr)=>H c=some (.tup (k.map kV))) ks cs
 |_,_,ks,.nil,h=>by cases h;exact⟨[],rfl,.nil⟩
 |_,_,ks,.cons (v:=v) (d:=d) (ds:=ds) r t,h=>by
  unfold Zjt at h
  split at h
  ·rename_i k ks' e1 e2;cases h;obtain⟨cs,h1,h2⟩:=Zda t e2;cases r with
   |@tup p xs ds' hb rb=>exact⟨p::cs,by rw[h1];rfl,.cons (by rw[hb,Zev rb e1]) h2⟩
   |_=>cases e1
  ·cases h
theorem Zmu(r:Rep K H α (.ref b) d)(e:kyU d=some ks):Zaq H ks b:=by
 cases r with
 |@tup p xs ds hb rb=>
  obtain⟨cs,h1,h2⟩:=Zda rb e;exact⟨cs,by rw[hb,h1],h2⟩
 |_=>cases e
theorem Zfb:∀(ks:List Key),Reps K H α (ks.map kV) (ks.map ZkU)
 |[]=>.nil
 |.inl i::ks=>.cons (.int i) (Zfb ks)
 |.inr x::ks=>.cons (.str x) (Zfb ks)
theorem Zew:∀{ks:List (List Key)} {cs:List Addr},Paired (fun(k:List Key) (c:Addr)=>H c=some (.tup (k.map kV))) ks cs->Reps K H α (cs.map V.ref) (ks.map Zdl)
 |_,_,.nil=>.nil
 |_,_,.cons h t=>.cons (.tup h (Zfb _)) (Zew t)
theorem Zkg(h:Zaq H ks b):Rep K H α (.ref b) (Zl2 ks):=by
 obtain⟨cs,h1,h2⟩:=h;exact .tup h1 (Zew h2)
theorem Zaq.up(h:Zaq H ks b)(ht:∀b ys,H b=some (.tup ys)->H' b=some (.tup ys)):Zaq H' ks b:=by
 obtain⟨cs,h1,h2⟩:=h;exact⟨cs,ht _ _ h1,Paired.mapP h2 fun _ _ z=>ht _ _ z⟩
end
abbrev KU(H:Hp):List (List (List Key)×V)->List (List (List Key)×Addr×Value)->Prop:=Paired fun p q=>p.1=q.1/\Zaq H p.1 q.2.1/\ZR p.2 q.2.2
theorem KU.any(r:KU H kvs xs)(k:List (List Key)):(kvs.any fun kv=>decide (kv.1=k))=(atKey xs k).isSome:=by
 induction r with
 |nil=>rfl
 |@cons p q ps qs h t ih=>
  unfold atKey at ih ⊢;rw[List.any_cons,ih,List.find?_cons,<-h.1];by_cases e:p.1=k
  ·simp[e]
  ·simp[e]
theorem KU.put(r:KU H kvs xs)(k:List (List Key))(hb:Zaq H k b)(ry:ZR y u):KU H (Zjp kvs k y) (storedH xs k b u):=by
 have e:=r.any k;unfold Zjp storedH;rw[e];by_cases q:(atKey xs k).isSome=true
 ·rw[if_pos q,if_pos q];clear e q
  induction r with
  |nil=>exact .nil
  |@cons p q ps qs h t ih=>
   rw[List.map_cons,List.map_cons];refine .cons ?_ ih;unfold putAt;by_cases c:p.1=k
   ·rw[if_pos c,if_pos (h.1.symm.trans c)];exact⟨h.1,h.2.1,ry⟩
   ·rw[if_neg c,if_neg (fun z=>c (h.1.trans z))];exact h
 ·rw[if_neg q,if_neg q];exact Paired.snoc r ⟨rfl,hb,ry⟩
theorem Zib(ok:HOk P w H h)(e:Zaq H ks a):(Zce (Zag P w)).is h ks a:=by
 obtain⟨cs,h1,h2⟩:=e;obtain⟨_,its,r,o,g1,g2,n,g3⟩:=(show ZaH P w H h a (.tup (cs.map V.ref))from ok a _ h1);refine⟨o,its.toArray,n,g1,g2,g3,?_⟩
 have:∀{ks:List (List Key)} {cs:List Addr} {vs:List Value},Paired (fun(k:List Key) (c:Addr)=>H c=some (.tup (k.map kV))) ks cs->ZS (cs.map V.ref) vs->NK.ItemsT (Zag P w) h ks vs:=by
  intro ks cs vs q
  induction q generalizing vs with
  |nil=>intro z;cases z;exact .nil
  |cons hk _ ih=>
   intro z;cases z with
   |cons z1 z2=>
    cases z1;exact .cons (Zon ok hk) (ih z2)
 simpa using this h2 r
theorem Zrv(ok:HOk P w H h)(e:H a=some (.dU kvs)):kvs.length<=sizeLine/\(a==sysModules)=false/\∃xs,KU H kvs xs/\h.DictOfH (Zce (Zag P w)) a xs:=by
 obtain⟨z,y,xs,r,o,es,ep,h1,h2,h3,h4,h5⟩:=(show ZaH P w H h a (.dU kvs)from ok a _ e);refine⟨z,y,xs,r,o,es,ep,h1,h2,h3,h4,fun x hx=>?_,h5⟩;clear h4 h5 z e
 induction r with
 |nil=>cases hx
 |@cons p q ps qs hq t ih=>
  rcases List.mem_cons.mp hx with z|hx
  ·subst z
   have:=Zib ok hq.2.1
   rw[hq.1]at this;exact this
  ·exact ih hx
section
variable {e:Expr}{tv:TE}
def tDNewU:TE:=fun _ H Q=>∀p,H p=none->Q (.ref p) (upd H p (.dU []))
theorem Zkh:PE X (.Dict [] [] pos) tDNewU:=fun pins s σ H Q I h=>
 wpAny_Dict_empty ⟨.ref s.heap.objs.size,_,I.laid (a:=s.heap.objs.size) (o:=.dU []) (t':=s.toks) (fun _ _ q=>Hq _ q) (Nat.le_refl _) ⟨Nat.zero_le _,beq_eq_false_iff_ne.mpr (Ne.symm (Nat.ne_of_lt I.big)),[],.nil,_,#[],0,Heap.get?_push_size _ rfl,⟨rfl,rfl,rfl⟩,rfl,rfl,List.nodup_nil⟩,rfl,h _ (I.hok.fresh (Nat.le_refl _))⟩
noncomputable def eDnU:Ev:=fun _ M=>.ok (.du M.length) (M++[.lst []])
theorem ZoS:DE X ξ (.Dict [] [] pos) eDnU:=by
 refine⟨_,Zkh,fun σ ρ H α M Q s h q p hp=>?_⟩;have kn:Kn (upd H p (.dU [])) p=some 3:=by unfold Kn;rw[Zs]
 exact q (.ref p) _ (α++[p]) (Ext.new hp) (h.newO hp (.inr (.inr (.inr (.inr (.inr ⟨[],Zs,Zh2⟩)))))) (.du ⟨h.last p,kn⟩)
def Zrw(td ty tv:TE):TS:=fun D σ H=>tv σ H fun v H1=>td σ H1 fun x H2=>ty σ H2 fun y H3=>∃a kvs k b,x=.ref a/\H3 a=some (.dU kvs)/\y=.ref b/\Zaq H3 k b/\kvs.length<sizeLine/\D.nx σ (upd H3 a (.dU (Zjp kvs k v)))
theorem Zmv(hu:X.A.units+2<cLine)(ho:PE X o td)(hi:PE X i ty)(hv:PE X e tv)(hs:swapsWith e (some (.Subscript o i pos')) pos.line X.env=pure false):PS X (.Assign [.Subscript o i pos'] e pos) (Zrw td ty tv):=by
 intro pins s σ H D I h;refine wpAny_Assign_Subscript (thn (hv pins s σ H _ I h) fun r s1 ⟨v,H1,I1,rv,q1⟩=>thn (ho pins s1 σ H1 _ I1 q1) fun u s2 ⟨x,H2,I2,rx,q2⟩=>thn (hi pins s2 σ H2 _ I2 q2) fun iv s3 ⟨y,H3,I3,ry,a,kvs,k,b,ex,g1,ey,g2,l,q3⟩=>?_) hs;subst ex ey;obtain rfl:u=Value.ref a:=rx;obtain rfl:iv=Value.ref b:=ry;obtain⟨z,hd,xs,rel,dd⟩:=Zrv I3.hok g1;have hz:xs.length<=sizeLine:=by rw[<-Paired.length rel];exact z
 have hl:(Zjp kvs k v).length<=sizeLine:=by have:=Ze1 kvs k v;lia
 refine wpAny_setItem_heap (hsz:=hz) (knd:=Zce (Zag X.prog X.w)) (by first|(show X.A.units+1+1<cLine;lia)|(show X.A.units+1<cLine;lia)) (Zib I3.hok g2) dd fun h' dd' hs=>⟨σ,_,?_,q3⟩
 obtain⟨q,es,ep,hq,h2,h3,h4,_,h5⟩:=dd';refine Zl1 I3 (by rw[g1];exact True.intro) hs ⟨q,hq⟩ ⟨hl,hd,_,Paired.mapP (rel.put k g2 rv) fun p c t=>⟨t.1,Zaq.up t.2.1 (fun c ys ec=>?_),t.2.2⟩,q,es,ep,hq,h2,h3,h4,h5⟩
 rw[Zz (ZqT ec g1 (fun z=>nomatch z))];exact ec
def Zki(fo fi f:Ev):Sv:=fun ρ M=>Z3 (f ρ M) fun d M1=>Z3 (fo ρ M1) fun x M2=>Z3 (fi ρ M2) fun k M3=>match x with
 |.du n=>(match kyU k,M3[n]? with|some kk,some (.lst ds)=>if ds.length<10000000 then .nx ρ (M3.set n (.lst (ZnC kyU kk k d ds)))else .bad|_,_=>.bad)
 |_=>.bad
theorem Zmw(hu:X.A.units+64<cLine)(ho:DE X ξ o fo)(hi:DE X ξ i fi)(he:DE X ξ e f)(hs:autoParam (swapsWith e (some (.Subscript o i pos')) pos.line X.env=pure false) Qrf._auto_1):DS X ξ (.Assign [.Subscript o i pos'] e pos) (Zki fo fi f):=by
 obtain⟨t,p,q⟩:=he;obtain⟨to,po,qo⟩:=ho;obtain⟨ti,pi,qi⟩:=hi;refine⟨_,Zmv (by lia) po pi p hs,fun σ ρ H α M Dn s hh w=>q σ ρ H α M _ s hh (FP.seq w fun d M1 v H1 α1 e1 h1 r1 w1=>?_)⟩
 refine qo σ ρ H1 α1 M1 _ (s.mono e1) h1 (FP.seq w1 fun od M2 ov H2 α2 e2 h2 r2 w2=>?_);refine qi σ ρ H2 α2 M2 _ ((s.mono e1).mono e2) h2 (FP.seq w2 fun kd M3 kv H3 α3 e3 h3 r3 w3=>?_);have sr:=((s.mono e1).mono e2).mono e3;have rv:=Rep.mono e3 (Rep.mono e2 r1);cases Rep.mono e3 r2 with
 |@du a n hp=>
  cases e5:kyU kd with
  |none=>simp only[e5]at w3;exact w3.elim
  |some kk=>
   cases em:M3[n]? with
   |none=>simp only[e5,em]at w3;exact w3.elim
   |some so=>
    cases so with
    |lst ds=>
     simp only[e5,em]at w3;by_cases hl:ds.length<10000000
     ·simp only[if_pos hl]at w3;obtain⟨kvs,g1,g2⟩:=h3.atU hp em;have kn:Kn (upd H3 a (.dU (Zjp kvs kk v))) a=some 3:=by unfold Kn;rw[Zs]
      have ex:Ext X.K H3 (upd H3 a (.dU (Zjp kvs kk v))) α3 α3:=Ext.wrK hp.kn (fun _ _ z=>by rw[g1]at z;cases z) kn
      have eg:=Zh3 Zkf kk g2 rv;rw[<-Zmt e5]at eg;obtain⟨b,rfl⟩:∃b,kv=.ref b:=by
       cases r3 with
       |@tup b xs ds' hb rb=>exact⟨b,rfl⟩
       |_=>cases e5
      refine⟨a,kvs,kk,b,rfl,g1,rfl,Zmu r3 e5,by rw[Zh4 g2];exact Nat.lt_of_lt_of_le hl (by decide),?_⟩
      exact w3 σ _ α3 ex (h3.wrO hp.at' ex (.inr (.inr (.inr (.inr (.inr ⟨_,Zs,ZgF eg ex⟩)))))) (sr.mono ex)
     ·simp only[if_neg hl]at w3;exact w3.elim
 |_=>exact w3.elim
theorem ZgI(hc:X.A.handled=none):Zbm X (.type "list") (fun xs H Q=>∃d kvs,xs=[.ref d]/\H d=some (.dU kvs)/\∀l (bs:List Addr),H l=none->Paired (fun(p:List (List Key)×V) (b:Addr)=>Zaq H p.1 b) kvs bs->Q (.ref l) (upd H l (.lst (bs.map V.ref)))):=by
 intro pins s σ H xs us Q I r h;obtain⟨d,kvs,rfl,g,q⟩:=h;obtain⟨u,rfl,ru⟩:=ZcY r;cases ru;obtain⟨z,y,ys,rel,o,es,ep,h1,h2,h3,h4,h5⟩:=(show ZaH X.prog X.w H s.heap d (.dU kvs)from I.hok d _ g);have hl:es.size=kvs.length:=by rw[<-Array.length_toList,h4,List.length_map,Paired.length rel]
 refine kdl_call (Zke (es:=es) (ep:=ep) y) hc ⟨o,h1,h2.1,h3⟩ (by rw[hl];exact z) fun h' tk acc c keep hS hacc=>?_
 have ea:acc=((ys.map fun x=>Value.ref x.2.1):List Value).toArray:=by
  obtain⟨a1,a2⟩:=hacc;apply Array.ext';apply List.ext_getElem?;intro j;rw[Array.getElem?_toList,List.getElem?_map];by_cases hj:j<acc.size
  ·obtain⟨en,e1,e2⟩:=a2 j _ (Array.getElem?_eq_getElem hj);rw[Array.getElem?_eq_getElem hj,e2];rw[<-Array.getElem?_toList,h4,List.getElem?_map]at e1;cases ey:ys[j]? with
   |none=>rw[ey]at e1;cases e1
   |some x=>rw[ey]at e1;cases e1;rfl
  ·rw[Array.getElem?_eq_none (by lia),List.getElem?_eq_none (by rw[<-Paired.length rel,<-hl,<-a1];lia)]
   rfl
 refine⟨.ref s.heap.objs.size,_,I.laid (t':=tk) (o:=.lst ((ys.map (·.2.1)).map V.ref)) keep (Nat.le_refl _) ⟨?_,ys.map fun x=>Value.ref x.2.1,c,?_,by rw[ea]at hS;exact hS⟩,rfl,q _ (ys.map (·.2.1)) (I.hok.fresh (Nat.le_refl _)) ?_⟩
 ·rw[List.length_map,List.length_map,<-Paired.length rel];exact z
 ·have:∀l:List (List (List Key)×Addr×Value),ZS ((l.map (·.2.1)).map V.ref) (l.map fun x=>Value.ref x.2.1):=by
   intro l
   induction l with
   |nil=>exact .nil
   |cons a l ih=>exact .cons rfl ih
  exact this ys
 ·have:∀{a:List (List (List Key)×V)} {b:List (List (List Key)×Addr×Value)},KU H a b->Paired (fun(p:List (List Key)×V) (c:Addr)=>Zaq H p.1 c) a (b.map (·.2.1)):=by
   intro a b q
   induction q with
   |nil=>exact .nil
   |cons h _ ih=>exact .cons h.2.1 ih
  exact this rel
noncomputable def Zic:D->D|.tup [k,_]=>k|e=>e
def bLisU:W3:=fun ds M=>match ds with
 |[.du n]=>(match M[n]? with|some (.lst es)=>.ok (.ref M.length) (M++[.lst (es.map Zic)])|none=>.bad)
 |_=>.bad
theorem Zmx:CO X ξ (fun xs H Q=>∃d kvs,xs=[.ref d]/\H d=some (.dU kvs)/\∀l (bs:List Addr),H l=none->Paired (fun(p:List (List Key)×V) (b:Addr)=>Zaq H p.1 b) kvs bs->Q (.ref l) (upd H l (.lst (bs.map V.ref)))) bLisU:=by
 intro H α M vs ds Q h rs q;unfold bLisU at q
 split at q
 ·rename_i n;cases rs with
  |cons r t=>
   cases t;cases r with
   |@du p _ hp=>
    cases em:M[n]? with
    |none=>rw[em]at q;exact q.elim
    |some so=>
     cases so with
     |lst es=>
      rw[em]at q;obtain⟨kvs,g1,es',rfl,g2⟩:=h.atU hp em;refine⟨p,kvs,rfl,g1,fun l bs hl pr=>?_⟩;refine q _ _ (α++[l]) (Ext.new hl) (h.new hl ?_) (.ref ⟨h.last l,Kn.lst Zs⟩)
      have:∀{kvs:List (List (List Key)×V)} {bs:List Addr} {es':List D},kvs.length=es'.length->Paired (fun(p:List (List Key)×V) (b:Addr)=>Zaq H p.1 b) kvs bs->Reps X.K H α (bs.map V.ref) ((List.zipWith (fun kv e=>D.tup [Zl2 kv.1,e]) kvs es').map Zic):=by
       intro kvs bs es' hz q
       induction q generalizing es' with
       |nil=>exact .nil
       |cons hq _ ih=>
        cases es' with
        |nil=>cases hz
        |cons e es'=>exact .cons (Zkg hq) (ih (by simpa using hz))
      exact this (by have:=g2.length;rw[List.length_map]at this;exact this) pr
 ·exact q.elim
end
end DL
namespace DL
open PyProof.Rows L2 PySem.W
end DL
namespace DL
open PyProof.Rows L2 PySem.W
abbrev IsZ(h:Heap)(z TI TO:Addr)(f0:Value)(f1:Bool):Prop:=
 h.get? z=some {cls:=.type "zip",dict:=none,data:=.fields #[f0,.bool f1,.bool false,.ref TI,.ref TO],slots:= #[]}
section
variable {s:Shared}
def ZSt(z TI TO i1 i2 l1 l2:Addr)(xs ys:Array Value)(i:Nat)(h:Heap):Prop:=
 ((IsZip h z TI TO .none/\∃a b,IsPair h TO a b)\/∃(T:Addr) (f1:Bool) (oT:Obj),IsZ h z TI TO (rawInt T) f1/\h.get? T=some oT/\T≠z/\T≠i1/\T≠i2/\oT.cls=.type "tuple")/\IsPair h TI (.ref i1) (.ref i2)/\h.IsListIter i1 l1 i/\h.IsListIter i2 l2 i/\h.IsList l1 xs/\h.IsList l2 ys
theorem ZSt.type{TI TO:Addr}(st:ZSt z TI TO i1 i2 l1 l2 xs ys i s.heap):s.TypeIs (.ref z) "zip":=by
 rcases st.1 with⟨hz,_⟩|⟨T,f1,oT,hz,_⟩
 ·exact⟨_,hz,rfl⟩
 ·exact⟨_,hz,rfl⟩
theorem ZSt.iter{TI TO:Addr}(st:ZSt z TI TO i1 i2 l1 l2 xs ys i s.heap)(h:Q (.ref z) s):wpAny (model prog w) A (pyIter (.ref z)) Q E s:=by
 have hT:=st.type;refine wpAny_pyIter_slot hT F.slot_zip_iter (wpAny_call_entry F.slot_zip_iter hT F.entry_zip_iter ?_ (F.args_zip_iter_1 _));show wpAny _ _ (ret (.ref z)) _ _ s;exact Wp ⟨_,rfl,"zip",_,hT,F.slot_zip_next.lookup,h⟩
end
end DL
namespace DL
open PyProof.Rows L2 PySem.W
noncomputable def Zrx(te:TE)(g1 g2:TG):TS:=fun D σ H=>te σ H fun x H1=>g1 x σ H1 fun σ' H2=>g2 x σ' H2 D.nx
theorem Zmy(he:PE X e te)(h1:PG X t1 g1)(h2:PG X t2 g2)(hw:autoParam (swappedStores [t1,t2] e X.env=pure none) Qrf._auto_1)(ha:autoParam ((assignEach [t1,t2] X.env).map (·.2)=[assign t1 X.env,assign t2 X.env]) Qrf._auto_1):PS X (.Assign [t1,t2] e pos) (Zrx te g1 g2):=by
 intro pins s σ H D I h;refine wpAny_Assign_two (thn (he pins s σ H _ I h) fun v s1 ⟨x,H1,I1,r1,q1⟩=>?_) ha hw;exact thn (h1 pins s1 σ H1 x v _ I1 r1 q1) fun _ s2 ⟨σ2,H2,I2,q2⟩=>thn (h2 pins s2 σ2 H2 x v _ I2 r1 q2) fun _ s3 q=>q
noncomputable def ZqO(g1 g2:Tg):Tg:=fun d ρ=>match g1 d ρ with|some ρ1=>g2 d ρ1|none=>none
theorem Zmz(he:DE X ξ e f)(h1:DG X t1 g1)(h2:DG X t2 g2)(hw:autoParam (swappedStores [t1,t2] e X.env=pure none) Qrf._auto_1)(ha:autoParam ((assignEach [t1,t2] X.env).map (·.2)=[assign t1 X.env,assign t2 X.env]) Qrf._auto_1):DS X ξ (.Assign [t1,t2] e pos) (ZJ (ZqO g1 g2) f):=by
 obtain⟨t,p,q⟩:=he;obtain⟨tt1,pt1,qt1⟩:=h1;obtain⟨tt2,pt2,qt2⟩:=h2;refine⟨_,Zmy p pt1 pt2 hw ha,fun σ ρ H α M Dn s hh w=>q σ ρ H α M _ s hh (FP.seq w fun d M1 v H1 α1 e1 h1 r1 w1=>?_)⟩;unfold ZqO at w1;cases eg:g1 d ρ with
 |none=>simp only[eg]at w1;exact w1.elim
 |some ρ1=>
  simp only[eg]at w1;cases eh:g2 d ρ1 with
  |none=>simp only[eh]at w1;exact w1.elim
  |some ρ2=>
   simp only[eh]at w1;exact qt1 v d σ ρ H1 α1 ρ1 _ (s.mono e1) r1 eg fun σ' s'=>qt2 v d σ' ρ1 H1 α1 ρ2 _ s' r1 eh fun σ2 s2=>w1 σ2 H1 α1 Ext.refl h1 s2
end DL
namespace DL
open PyProof.Rows L2
section
variable {prog:Program}{w:World}{A:Around}{E:Vp}{s:Shared}
theorem ZmA{it l:Addr}{vs:Array Value}(ne:l≠it)(n:Nat):∀(i:Nat)(s:Shared)(Q:List Value->Shared->Prop),s.heap.IsListIter it l i->s.heap.IsList l vs->i+n<=vs.size->(∀h',h'.IsListIter it l (i+n)->Heap.SameBut it s.heap h'->Q ((vs.toList.drop i).take n) {s with heap:=h'})->wpAny (model prog w) A (draw (.ref it) n) Q E s:=by
 induction n with
 |zero=>
  intro i s Q hit hl le hQ;refine Wp ?_
  simpa using hQ s.heap hit (Heap.SameBut.refl ..)
 |succ n ih=>
  intro i s Q hit hl le hQ;have lt:i<vs.size:=by lia
  show wpAny _ _ (pyNext (.ref it) >>= _) Q E s;refine Wb (wpAny_pyNext_list_item hit hl (x:=vs[i]) (by simp[lt]) fun g1 it1 s1=>?_)
  refine Wb (wpAny_holding (ih (i+1) _ _ it1 (hl.extBut s1.extBut ne) (by lia) fun g2 it2 s2=>Wp ?_))
  have e:vs.toList.drop i=vs[i]::vs.toList.drop (i+1):=by simp[List.drop_eq_getElem_cons,lt]
  have q:=hQ g2 (by rw[show i+(n+1)=i+1+n by lia];exact it2) (s1.trans s2)
  rw[e,List.take_succ_cons]at q;exact q
theorem ZmB(hh:A.handled=none)(hl:s.heap.IsList l vs)(hQ:∀h',Heap.ExtBut s.heap.objs.size s.heap h'->Q vs.toList {s with heap:=h'}):wpAny (model prog w) A (unpackItems (.ref l) vs.size none) Q E s:=by
 have ne:l≠s.heap.objs.size:=by obtain⟨o,ho,_⟩:=hl;exact Nat.ne_of_lt (Hz ho)
 unfold unpackItems;refine Wb ?_;unfold notIterableAtAll;refine Wb (wpAny_specialOf hl.typeIs slot_list_iter.lookup ?_);refine Wp ?_;simp only[Bool.false_eq_true,if_false];refine Wb (wpAny_holding (wpAny_pyIter_list hl ?_));refine Wb (wpAny_holding (ZmA ne vs.size 0 _ _ ⟨_,Heap.get?_push_size _ rfl,rfl,rfl⟩ (hl.push _) (by lia) fun g1 it1 s1=>?_))
 have e:List.take vs.size (List.drop 0 vs.toList)=vs.toList:=by
  rw[List.drop_zero];exact List.take_of_length_le (by simp)
 rw[e,if_neg (by simp)]
 have hl1:g1.IsList l vs:=(hl.push _).extBut s1.extBut ne;refine Wb (wpAny_holding (wpAny_pyNext_list_end hh it1 hl1 (by simp) fun g2 e2=>?_))
 simp only[Option.isSome_none,Bool.false_eq_true,if_false];exact Wp (hQ g2 fun b o hb q=>e2 b o hb (s1.extBut b o hb (Hq _ q)))
theorem ZmC{x1}(hh:A.handled=none)(hl:s.heap.IsList l vs)(hn:(assignEach elts env).length=vs.size)(hst:(assignEach elts env).findIdx? (·.1)=none)(h:∀h',Heap.ExtBut s.heap.objs.size s.heap h'->wpAny (model prog w) A (assignInOrder ((assignEach elts env).map (·.2)) vs.toList) Q E {s with heap:=h'}) :
  wpAny (model prog w) A (assign (.Tuple elts x1 pos) env (.ref l)) Q E s:=by
 rw[assign_Tuple];refine Wb (wpAny_standAt ?_);unfold unpack;rw[hn,hst];exact Wb (wpAny_holding (ZmB hh hl h))
end
def Zry(K:Fg)(n:Nat)(t:TGs):TG:=fun v σ H Q=>∃a xs,v=.ref a/\SqL K H a xs/\xs.length=n/\t xs σ H Q
theorem ZoT(hc:X.calm=true)(h:PGs X es t)(hn:autoParam ((assignEach es X.env).length=n) Qrf._auto_1)(hst:autoParam ((assignEach es X.env).findIdx? (·.1)=none) Qrf._auto_1):PG X (.Tuple es k pos) (Zry X.K n t):=by
 intro pins s σ H v u Q I r hw;obtain⟨a,xs,e1,hq,hl,hw⟩:=hw;subst e1;cases r;obtain⟨its,rv,pl,hz⟩:=I.list hq;refine ZmC (I.ok.hd hc) pl.isList (by simp[hn,<-hl,rv.length]) hst fun h' hx=>?_
 have I1:Inv X pins σ H {s with heap:=h'}:=I.kept (t':=s.toks) fun b o e=>hx b o (Nat.ne_of_lt (Hz e)) e;exact h pins _ σ H xs _ Q I1 (by simpa using rv) hw
def Zkj(gs:Tgs)(f:Ev):Sv:=fun ρ M=>Z3 (f ρ M) fun d M1=>match d with
 |.ref n=>(match M1[n]? with
  |some (.lst ds)=>(match gs ds ρ with|some ρ1=>.nx ρ1 M1|none=>.bad)
  |none=>.bad)
 |_=>.bad
theorem ZmD(hc:X.calm=true)(he:DE X ξ e f)(hg:DGs X es gs)(hlen:∀ds ρ ρ',gs ds ρ=some ρ'->ds.length=n)(hn:autoParam ((assignEach es X.env).length=n) Qrf._auto_1)(hst:autoParam ((assignEach es X.env).findIdx? (·.1)=none) Qrf._auto_1)(hs:autoParam (swapsWithSole [.Tuple es k tp] e pos.line X.env=pure false) Qrf._auto_1)(hw:autoParam (swappedStores [.Tuple es k tp] e X.env=pure none) Qrf._auto_1)(h1:autoParam ((assignEach [.Tuple es k tp] X.env).map (·.2)=[assign (.Tuple es k tp) X.env]) Qrf._auto_1):DS X ξ (.Assign [.Tuple es k tp] e pos) (Zkj gs f):=by
 obtain⟨t,p,q⟩:=he;obtain⟨tt,pt,qt⟩:=hg;refine⟨_,Zg4 p (ZoT hc pt hn hst) hs hw h1,fun σ ρ H α M Dn s hh w=>q σ ρ H α M _ s hh (FP.seq w fun d M1 v H1 α1 e1 h1 r1 w1=>?_)⟩;cases r1 with
 |@ref l n' hp=>
  cases em:M1[n']? with
  |none=>simp only[em]at w1;exact w1.elim
  |some so=>
   cases so with
   |lst ds=>
    cases eg:gs ds ρ with
    |none=>simp only[em,eg]at w1;exact w1.elim
    |some ρ1=>
     simp only[em,eg]at w1;obtain⟨xs,g1,g2⟩:=h1.at hp em;exact⟨l,xs,rfl,SqL.of g1,by rw[g2.length];exact hlen ds ρ ρ1 eg,qt xs ds σ ρ H1 α1 ρ1 _ (s.mono e1) g2 eg fun σ' s'=>w1 σ' H1 α1 Ext.refl h1 s'⟩
 |_=>exact w1.elim
end DL
namespace DL
open PyProof.Rows L2 PySem.W
noncomputable def ZcZ(target iter:Expr)(ifs:List Expr)(it:Value)(env:Env)(body ag:Sem Fin):Sem Fin:=do
 standAt iter.pos
 match <-pyNext it with
 |none=>pure (.done .next)
 |some v=>
  letOwnedTupleGo target it v
  assign target env v
  let mut ok:=true
  for c in ifs do
   if ok then ok <-isTrue c env (eval c env)
  if ok then body else ag
noncomputable def ZgJ(e elt:Expr)(d:Nat)(it acc:Value)(env:Env):Sem Fin:=do
 (do let _ <-call (.builtin "list.append") [acc,<-eval elt env])
 again (.compLoop e d it acc env)
noncomputable def ZnD(e iter':Expr)(d:Nat)(it acc:Value)(env:Env):Sem Fin:=do
 let x <-eval iter' env
 standAt iter'.pos
 let x <-foldedSetIterable iter' env x
 let _ <-runOwn (.compStart e (d+1) (<-holding [x] (pyIter x)) acc env) env
 again (.compLoop e d it acc env)
theorem Zid(elt t0 i0 t1 i1:Expr)(f0 f1:List Expr)(sc:Scope)(pos:Pos)(it acc:Value)(env:Env):compTurn (.ListComp elt [⟨t0,i0,f0,0⟩,⟨t1,i1,f1,0⟩] sc pos) 0 it acc env=ZcZ t0 i0 f0 it env (ZnD (.ListComp elt [⟨t0,i0,f0,0⟩,⟨t1,i1,f1,0⟩] sc pos) i1 0 it acc env) (again (.compLoop (.ListComp elt [⟨t0,i0,f0,0⟩,⟨t1,i1,f1,0⟩] sc pos) 0 it acc env)):=by rfl
theorem Zie(elt t0 i0 t1 i1:Expr)(f0 f1:List Expr)(sc:Scope)(pos:Pos)(it acc:Value)(env:Env):compTurn (.ListComp elt [⟨t0,i0,f0,0⟩,⟨t1,i1,f1,0⟩] sc pos) 1 it acc env=ZcZ t1 i1 f1 it env (ZgJ (.ListComp elt [⟨t0,i0,f0,0⟩,⟨t1,i1,f1,0⟩] sc pos) elt 1 it acc env) (again (.compLoop (.ListComp elt [⟨t0,i0,f0,0⟩,⟨t1,i1,f1,0⟩] sc pos) 1 it acc env)):=by rfl
theorem Zif(elt t0 i0 t1 i1 t2 i2:Expr)(f0 f1 f2:List Expr)(sc:Scope)(pos:Pos)(it acc:Value)(env:Env):compTurn (.ListComp elt [⟨t0,i0,f0,0⟩,⟨t1,i1,f1,0⟩,⟨t2,i2,f2,0⟩] sc pos) 0 it acc env=ZcZ t0 i0 f0 it env (ZnD (.ListComp elt [⟨t0,i0,f0,0⟩,⟨t1,i1,f1,0⟩,⟨t2,i2,f2,0⟩] sc pos) i1 0 it acc env) (again (.compLoop (.ListComp elt [⟨t0,i0,f0,0⟩,⟨t1,i1,f1,0⟩,⟨t2,i2,f2,0⟩] sc pos) 0 it acc env)):=by rfl
theorem Zig(elt t0 i0 t1 i1 t2 i2:Expr)(f0 f1 f2:List Expr)(sc:Scope)(pos:Pos)(it acc:Value)(env:Env):compTurn (.ListComp elt [⟨t0,i0,f0,0⟩,⟨t1,i1,f1,0⟩,⟨t2,i2,f2,0⟩] sc pos) 1 it acc env=ZcZ t1 i1 f1 it env (ZnD (.ListComp elt [⟨t0,i0,f0,0⟩,⟨t1,i1,f1,0⟩,⟨t2,i2,f2,0⟩] sc pos) i2 1 it acc env) (again (.compLoop (.ListComp elt [⟨t0,i0,f0,0⟩,⟨t1,i1,f1,0⟩,⟨t2,i2,f2,0⟩] sc pos) 1 it acc env)):=by rfl
theorem Zih(elt t0 i0 t1 i1 t2 i2:Expr)(f0 f1 f2:List Expr)(sc:Scope)(pos:Pos)(it acc:Value)(env:Env):compTurn (.ListComp elt [⟨t0,i0,f0,0⟩,⟨t1,i1,f1,0⟩,⟨t2,i2,f2,0⟩] sc pos) 2 it acc env=ZcZ t2 i2 f2 it env (ZgJ (.ListComp elt [⟨t0,i0,f0,0⟩,⟨t1,i1,f1,0⟩,⟨t2,i2,f2,0⟩] sc pos) elt 2 it acc env) (again (.compLoop (.ListComp elt [⟨t0,i0,f0,0⟩,⟨t1,i1,f1,0⟩,⟨t2,i2,f2,0⟩] sc pos) 2 it acc env)):=by rfl
theorem ZgK(he:compTurn (.ListComp elt gens scope pos) d it acc env=ZcZ target iter ifs it env body (again (.compLoop (.ListComp elt gens scope pos) d it acc env)))(I:Nat->Shared->Prop)(turn:∀n s,I n s->wpAny (model prog w) A (pyNext it) (fun r s₁=>match r with
   |none=>R (.ok .next) s₁
   |some v=>wpAny (model prog w) A (letOwnedTupleGo target it v) (fun _ s₁=>wpAny (model prog w) A (assign target env v) (fun _ s₂=>
     wpAny (model prog w) A (forIn ifs true fun c r=>if r=true then do let ok <-isTrue c env (eval c env);pure (ForInStep.yield ok)else pure (ForInStep.yield r)) (fun ok s₃=>
      if ok=true then wpAny (model prog w) A body (fun fin s₅=>fin=.again (.compLoop (.ListComp elt gens scope pos) d it acc env)/\∃m,m<n/\I m s₅) (fun _ _=>False) s₃
      else ∃m,m<n/\I m s₃) (fun _ _=>False) s₂) (fun _ _=>False) s₁) (fun _ _=>False) s₁) (fun _ _=>False) s)
  (n:Nat) (h:I n s):
  codeAny (model prog w) A (.compLoop (.ListComp elt gens scope pos) d it acc env) R s:=by
 refine codeAny_loop rfl I (fun n s hI=>?_) n h;show wpAny _ A ((compTurn (.ListComp elt gens scope pos) d it acc env).onRaise (fun x=>do noteFrame x env;theTreesLotGoes x)) _ _ s
 refine wpAny_noted ?_;rw[he];unfold ZcZ;refine Wb (wpAny_standAt (Wb (wpAny_mono (turn n s hI) (fun r s₁ h₁=>?_) fun _ _ h'=>h'.elim)));cases r with
 |none=>exact Wp h₁
 |some v=>
  refine Wb (wpAny_mono h₁ (fun _ s₁ h₁=>?_) fun _ _ h'=>h'.elim);refine Wb (wpAny_mono h₁ (fun _ s₂ h₂=>Wb (wpAny_mono h₂ (fun ok s₃ h₃=>?_) fun _ _ h'=>h'.elim)) fun _ _ h'=>h'.elim);cases ok with
  |false=>exact Wp ⟨rfl,h₃⟩
  |true=>
   refine wpAny_mono h₃ (fun fin s₅ h₅=>?_) fun _ _ h'=>h'.elim;obtain⟨rfl,h5⟩:=h₅;exact⟨rfl,h5⟩
theorem Zfc(hd:gens[d]?=some ⟨target,iter,ifs,0⟩)(h0:codeAny (model prog w) A (.compLoop (.ListComp elt gens scope pos) d it acc env) R s)(h:wpAny (model prog w) A (pyIter it) (fun it' s'=>codeAny (model prog w) A (.compLoop (.ListComp elt gens scope pos) d it' acc env) R s') (notedBy (model prog w) A env fun x s'=>R (.error x) s') s):codeAny (model prog w) A (.compStart (.ListComp elt gens scope pos) d it acc env) R s:=by
 have hc:(clausesOf (.ListComp elt gens scope pos))[d]?=some ⟨target,iter,ifs,0⟩:=hd;refine codeAny_of_tree ?_;show wpAny _ _ ((compStart (.ListComp elt gens scope pos) d it acc env).onRaise (fun x=>do noteFrame x env;standAt theWindowsPlace)) _ _ s
 refine wpAny_notedAt ?_;unfold compStart;rw[hc];show wpAny _ _ (ask >>= _) _ _ s;refine Wb (wpAny_askSetting (wpAny_ite ?_));split
 ·first
   |exact Wb (Wp (Wp (And.intro rfl h0)))
   |exact Wp (And.intro rfl h0)
 ·first
   |exact Wb (wpAny_rule (Wb (wpAny_standAt (Wb (wpAny_mono h (fun it' s' h'=>Wp (And.intro rfl h')) fun _ _ x=>x)))))
   | (refine Wb (wpAny_rule ?_);show wpAny _ _ (standAt iter.pos >>= _) _ _ s;exact Wb (wpAny_standAt (Wb (wpAny_mono h (fun it' s' h'=>Wp (And.intro rfl h')) fun _ _ x=>x))))
def Zc0(src:Src)(tg:Tg)(c:Tv)(g:Ro->Sto->Out Ro):Nat->Nat->Ro->Sto->Out Ro
 |fuel,i,ρ,M=>match nxt src i M with
  |none=>.bad
  |some none=>.ok ρ M
  |some (some d)=>(match fuel with
   |0=>.bad
   |fuel+1=>(match tg d ρ with
    |none=>.bad
    |some ρ1=>(match c ρ1 M with
     |.ok true M1=>(match g ρ1 M1 with
      |.ok ρ2 M2=>Zc0 src tg c g fuel (i+1) ρ2 M2
      |_=>.bad)
     |.ok false M1=>Zc0 src tg c g fuel (i+1) ρ1 M1
     |_=>.bad)))
noncomputable def gEm(f:Ev)(n:Nat):Ro->Sto->Out Ro:=fun ρ M=>match f ρ M with
 |.ok x M2=>(match M2[n]? with
  |some (.lst xs)=>if xs.length<10000000 then .ok ρ (M2.set n (.lst (xs++[x])))else .bad
  |none=>.bad)
 |_=>.bad
def gIn(fi:Ro->Sto->Out Src)(tg:Tg)(c:Tv)(g:Ro->Sto->Out Ro):Ro->Sto->Out Ro:=fun ρ M=>match fi ρ M with
 |.ok src M1=>Zc0 src tg c g (cnt src M1) 0 ρ M1
 |_=>.bad
def Zb2(fi:Ro->Sto->Out Src)(k:Nat)(fr:List Nat)(tg:Tg)(c:Tv)(g:Nat->Ro->Sto->Out Ro):Ev:=fun ρ M=>(fi ρ M).bind fun src M1=>match Zc0 src tg c (g M1.length) (cnt src M1) 0 (roB k fr ρ) (M1++[.lst []])with
 |.ok _ M2=>.ok (.ref M1.length) M2
 |_=>.bad
def Zex(Y:Cx)(D:Addr)(n0:Nat)(c:Code)(m:Sem Fin)(g:Ro->Sto->Out Ro):Prop:=∀pins s σ ρ H α M ρ' M',Inv Y pins σ H s->SR Y.K H α σ ρ->HR Y.K H α M->RefK H α 0 n0 D->g ρ M=.ok ρ' M'->
 wpAny (model Y.prog Y.w) Y.A m (fun fin s'=>fin=.again c/\∃σ' H' α',Inv Y pins σ' H' s'/\Ext Y.K H H' α α'/\SR Y.K H' α' σ' ρ'/\HR Y.K H' α' M') (fun _ _=>False) s
def CmP(Y:Cx)(pins:Pn)(fp:List Addr)(tn:Nat->Heap->Prop)(H3:Hp)(α3:List Addr)(g:Nat->Nat->Ro->Sto->Prop)(n:Nat)(s':Shared):Prop:=
 ∃i σ' ρ' H' α' M',Inv Y pins σ' H' s'/\tn i s'.heap/\(∀b∈fp,H' b=none)/\SR Y.K H' α' σ' ρ'/\HR Y.K H' α' M'/\Ext Y.K H3 H' α3 α'/\g n i ρ' M'
theorem Zey{D:Addr}(hct:compTurn (.ListComp elt gens scope pos) d0 (.ref it) (.ref D) Y.env=ZcZ tg iter ifs (.ref it) Y.env body (again (.compLoop (.ListComp elt gens scope pos) d0 (.ref it) (.ref D) Y.env)))(T:Turn Y.prog Y.w Y.K Y.A tg J fp it tn)(hxe:∀x y,Y.xe x y->False)(fp5:∀{H':Hp},(∀b∈fp,H' b=none)->∀b∈fp,Zca Y pins H' b)(hg:DG Y tg gt)(tst:DC Y ifs c)(hb:Zex Y D n0 (.compLoop (.ListComp elt gens scope pos) d0 (.ref it) (.ref D) Y.env) body g)(sc:Zjs Y.K H3 α3 J src)(aD:RefK H3 α3 0 n0 D)(I4:Inv Y pins σ0 H3 s4)(st4:tn 0 s4.heap)(fr4:∀b∈fp,H3 b=none)(sr:SR Y.K H3 α3 σ0 ρ0)(h3:HR Y.K H3 α3 M3)(er:Zc0 src gt c g fuel 0 ρ0 M3=.ok ρ9 M9)(post:∀σ5 H5 α5 s6,Inv Y pins σ5 H5 s6->Ext Y.K H3 H5 α3 α5->SR Y.K H5 α5 σ5 ρ9->HR Y.K H5 α5 M9->R (.ok .next) s6):codeAny (model Y.prog Y.w) Y.A (.compLoop (.ListComp elt gens scope pos) d0 (.ref it) (.ref D) Y.env) R s4:=by
 obtain⟨tt,pt,qt⟩:=hg;refine ZgK hct (CmP Y pins fp tn H3 α3 fun n i ρ' M'=>Zc0 src gt c g n i ρ' M'=.ok ρ9 M9) ?_ fuel ⟨0,σ0,ρ0,H3,α3,M3,I4,st4,fr4,sr,h3,Ext.refl,er⟩;rintro n s5 ⟨i,σ5,ρ5,H5,α5,M5,I5,st5,fr5,sr5,hr5,ex5,en⟩;have src5:=sc i H5 α5 M5 ex5 hr5;rw[Zc0]at en;cases ex:nxt src i M5 with
 |none=>rw[ex]at en;cases en
 |some od=>
  rw[ex]at src5 en;cases od with
  |none=>
   cases en;have fin:=T.done Y rfl rfl rfl rfl i pins s5 σ5 H5 (fun _ _=>False) I5 (fp5 fr5) st5 src5;refine thn fin fun r s6 w6=>?_;obtain⟨hr6,I6⟩:=w6;subst hr6;exact post σ5 H5 α5 s6 I6 ex5 sr5 hr5
  |some d=>
   obtain⟨go,yl⟩:=src5;cases n with
   |zero=>cases en
   |succ n=>
    simp only at en;have itm:=T.item Y rfl rfl rfl rfl i pins s5 σ5 H5 (fun _ _=>False) I5 (fp5 fr5) st5 go;refine thn itm fun r s6 ⟨u,hr6,w6⟩=>?_;subst hr6;refine thn w6 fun _ s7 ⟨x,H7,I7,r7,y7,st7,fr7⟩=>?_;obtain⟨ex7,hr7,rp7⟩:=yl x H7 y7;have sr5:=sr5.mono ex7;have hr5:=hr7;have ex5:=ex5.trans ex7;have I7':=I7.pinned (fp5 fr7) (T.obj _ _ st7);cases eg:gt d ρ5 with
    |none=>rw[eg]at en;cases en
    |some ρ6=>
     rw[eg]at en;simp only at en;have asg:=pt _ s7 σ5 H7 x u _ I7' r7 (qt x d σ5 ρ5 H7 α5 ρ6 (fun σ' H'=>H'=H7/\SR Y.K H7 α5 σ' ρ6) sr5 rp7 eg fun σ' s'=>⟨rfl,s'⟩);refine wpAny_mono asg (fun _ s8 ⟨σ8,H8,I8,z8,sr8⟩=>?_) (fun x y z=>hxe x y z);subst z8;have again':∀{σ9:L2.St}{H9:Hp}{s9:Shared},Inv Y (pins++ZbY fp s7.heap) σ9 H9 s9->Inv Y pins σ9 H9 s9/\tn (i+1) s9.heap/\∀b∈fp,H9 b=none:=fun{σ9 H9 s9} I9=>by
      refine⟨I9.unpinned,T.keep _ _ _ st7 fun b hb o e=>(I9.pin (b,o) (List.mem_append_right _ (List.mem_append_right _ (Zao hb e)))).1,fun b hb=>?_⟩;obtain⟨o,e,_⟩:=T.obj _ _ st7 b hb;exact(I9.pin (b,o) (List.mem_append_right _ (List.mem_append_right _ (Zao hb e)))).2.1
     have after:∀(kk:Bool)(M8:Sto)(H9:Hp)(α9:List Addr)(s9:Shared),Inv Y (pins++ZbY fp s7.heap) σ8 H9 s9->Ext Y.K H8 H9 α5 α9->HR Y.K H9 α9 M8->c ρ6 M5=.ok kk M8->
       (if kk=true then wpAny (model Y.prog Y.w) Y.A body (fun fin s₅=>fin=.again (.compLoop (.ListComp elt gens scope pos) d0 (.ref it) (.ref D) Y.env)/\∃m,m<n+1/\CmP Y pins fp tn H3 α3 (fun n i ρ' M'=>Zc0 src gt c g n i ρ' M'=.ok ρ9 M9) m s₅) (fun _ _=>False) s9 else ∃m,m<n+1/\CmP Y pins fp tn H3 α3 (fun n i ρ' M'=>Zc0 src gt c g n i ρ' M'=.ok ρ9 M9) m s9):=by
      intro kk M8 H9 α9 s9 I9 ex9 hr9 ec;rw[ec]at en;cases kk with
      |false=>
       obtain⟨a1,a2,a3⟩:=again' I9;exact ZkQ ⟨n,Nat.lt_succ_self n,i+1,σ8,ρ6,H9,α9,M8,a1,a2,a3,sr8.mono ex9,hr9,ex5.trans ex9,en⟩
      |true=>
       simp only at en;refine ZkR ?_;cases ef:g ρ6 M8 with
       |exc x9 M10=>rw[ef]at en;cases en
       |bad=>rw[ef]at en;cases en
       |ok ρ10 M10=>
        rw[ef]at en;simp only at en;refine thn (hb _ s9 σ8 ρ6 H9 α9 M8 ρ10 M10 I9 (sr8.mono ex9) hr9 (ex9.get (ex5.get aD)) ef) fun fin s10 ⟨hf,σ10,H10,α10,I10,ex10,sr10,hr10⟩=>?_;obtain⟨a1,a2,a3⟩:=again' I10;exact⟨hf,n,Nat.lt_succ_self n,i+1,σ10,ρ10,H10,α10,M10,a1,a2,a3,sr10,hr10,(ex5.trans ex9).trans ex10,en⟩
     rcases tst with⟨rfl,ec⟩|⟨e,rfl,tt',ptt,qtt⟩
     ·refine wpAny_tests_nil ?_;exact after true M5 H8 α5 s8 I8 Ext.refl hr5 (by rw[ec])
     ·refine wpAny_tests_one ?_;cases ec:c ρ6 M5 with
      |exc x9 M10=>rw[ec]at en;cases en
      |bad=>rw[ec]at en;cases en
      |ok kk M8=>
       have tv':=ptt _ s8 σ8 H8 (fun b H'=>b=kk/\∃α',Ext Y.K H8 H' α5 α'/\HR Y.K H' α' M8) I8 (qtt σ8 ρ6 H8 α5 M5 _ sr8 hr5 (by
        rw[ec];exact fun v H' α' e h r=>⟨r,α',e,h⟩))
       refine wpAny_mono tv' (fun b s9 ⟨H9,I9,zb,α9,ex9,hr9⟩=>?_) (fun x y z=>hxe x y z);subst zb;exact after b M8 H9 α9 s9 I9 ex9 hr9 ec
theorem Zez{D:Addr}(hxe:∀x y,Y.xe x y->False)(he:DE Y E0 elt f):Zex Y D n0 (.compLoop e d0 (.ref it) (.ref D) Y.env) (ZgJ e elt d0 (.ref it) (.ref D) Y.env) (gEm f n0):=by
 obtain⟨te,pe,qe⟩:=he;intro pins s σ ρ H α M ρ' M' I sr hr aD en;unfold gEm at en;cases ef:f ρ M with
 |exc x9 M10=>rw[ef]at en;cases en
 |bad=>rw[ef]at en;cases en
 |ok y M10=>
  rw[ef]at en;simp only at en;have ev:=pe _ s σ H (fun v H'=>∃α',Ext Y.K H H' α α'/\HR Y.K H' α' M10/\Rep Y.K H' α' v y) I (qe σ ρ H α M _ sr hr (by
   rw[ef];exact fun v H' α' e h r=>⟨α',e,h,r⟩))
  unfold ZgJ;refine Wb (Wb (wpAny_mono ev (fun yv s10 ⟨v,H10,I10,r10,α10,ex10,hr10,rp10⟩=>?_) (fun x y z=>hxe x y z)));cases em:M10[n0]? with
  |none=>rw[em]at en;cases en
  |some so=>
   cases so with
   |lst ds=>
    rw[em]at en;simp only at en;by_cases cz:ds.length<10000000
    ·rw[if_pos cz]at en;cases en;have aD10:=ex10.get aD;obtain⟨xs,g1,g2⟩:=hr10.at aD10 em;have ap:=Zcq (X:=Y) _ s10 σ H10 (.ref D) [v] (.ref D) [yv] (fun _ H'=>H'=upd H10 D (.lst (xs++[v]))) I10 rfl (.cons r10 .nil) ⟨D,xs,v,rfl,rfl,g1,by rw[g2.length];exact Nat.lt_of_lt_of_le cz (by decide),rfl⟩
     refine Wb (wpAny_mono ap (fun _ s11 ⟨v11,H11,I11,_,z11⟩=>?_) (fun x y z=>hxe x y z));subst z11;have exw:Ext Y.K H10 (upd H10 D (.lst (xs++[v]))) α10 α10:=Ext.wr g1;exact Wp (Wp ⟨rfl,σ,_,α10,I11,ex10.trans exw,(sr.mono ex10).mono exw,hr10.wr aD10 g1 (g2.append (.cons rp10 .nil))⟩)
    ·rw[if_neg cz]at en;cases en
theorem Zdw{D:Addr}{bd:Value->Sem Fin}(hd:gens[d0+1]?=some ⟨tg,iter,ifs,0⟩)(hct:∀it',compTurn (.ListComp elt gens scope pos) (d0+1) it' (.ref D) Y.env=ZcZ tg iter ifs it' Y.env (bd it') (again (.compLoop (.ListComp elt gens scope pos) (d0+1) it' (.ref D) Y.env)))(hxe:∀x y,Y.xe x y->False)(hi:DI Y E0 tg iter fi)(hg:DG Y tg gt)(tst:DC Y ifs c)(hb:∀it':Addr,Zex Y D n0 (.compLoop (.ListComp elt gens scope pos) (d0+1) (.ref it') (.ref D) Y.env) (bd (.ref it')) g)(hs:autoParam (∀x,foldedSetIterable iter Y.env x=pure x) Qin._auto_1) :
  Zex Y D n0 (.compLoop (.ListComp elt gens scope pos) d0 (.ref it) (.ref D) Y.env) (ZnD (.ListComp elt gens scope pos) iter d0 (.ref it) (.ref D) Y.env) (gIn fi gt c g):=by
 obtain⟨wi,pi,qi⟩:=hi;intro pins s σ ρ H α M ρ' M' I sr hr aD en;unfold gIn at en;cases ef:fi ρ M with
 |exc x9 M10=>rw[ef]at en;cases en
 |bad=>rw[ef]at en;cases en
 |ok src M1=>
  rw[ef]at en;simp only at en;have pv:=pi pins s σ H (fun J H2=>∃α2,Ext Y.K H H2 α α2/\HR Y.K H2 α2 M1/\Zjs Y.K H2 α2 J src) I (qi σ ρ H α M _ sr hr (by
   rw[ef];exact fun J H2 α2 e h r=>⟨α2,e,h,r⟩))
  unfold ZnD;refine Wb (wpAny_mono pv (fun x s1 w1=>?_) (fun x y z=>hxe x y z));refine Wb (wpAny_standAt (Wb (wpAny_of_eq (hs x) ?_)));refine Wb (wpAny_holding (wpAny_mono w1 (fun itv s2 w2=>?_) (fun x y z=>hxe x y z)));obtain⟨it',fp,tn,J,H2,rfl,I2,T,st2,f2,α2,e2,h2,sc⟩:=w2;have loop:codeAny (model Y.prog Y.w) Y.A (.compLoop (.ListComp elt gens scope pos) (d0+1) (.ref it') (.ref D) Y.env) (fun r s'=>match r with|.ok f=>wpAny (model Y.prog Y.w) Y.A (again (.compLoop (.ListComp elt gens scope pos) d0 (.ref it) (.ref D) Y.env)) (fun fin s'=>fin=.again (.compLoop (.ListComp elt gens scope pos) d0 (.ref it) (.ref D) Y.env)/\∃σ' H' α',Inv Y pins σ' H' s'/\Ext Y.K H H' α α'/\SR Y.K H' α' σ' ρ'/\HR Y.K H' α' M') (fun _ _=>False) s'|.error e=>cameBackBy (model Y.prog Y.w) Y.A Y.env (fun _ _=>False) e s') s2:=by
   refine Zey (hct (.ref it')) T hxe (fun{H'} hn b hb'=>⟨hn b hb',(f2 b hb').2⟩) hg tst (hb it') sc (e2.get aD) I2 st2 (fun b hb'=>(f2 b hb').1) (sr.mono e2) h2 en ?_;intro σ5 H5 α5 s6 I6 ex5 sr5 hr5;exact Wp ⟨rfl,σ5,H5,α5,I6,e2.trans ex5,sr5,hr5⟩
  refine Wb (wpAny_runOwn (h:=none) ?_);exact Zfc hd loop (T.self Y.A 0 _ _ _ st2 loop)
section
variable {X:Cx}{bd:Value->Value->Env->Sem Fin}
theorem Zf1(B:Blk X scope cl N k fr)(hi:DI X ξ tg iter fi)(hg:∀C fp s H,DG (blk X scope cl N C fp s H) tg gt)(ht:∀C fp s H,DC (blk X scope cl N C fp s H) ifs c)(hct:∀it acc env,compTurn (.ListComp elt (⟨tg,iter,ifs,0⟩::rest) scope pos) 0 it acc env=ZcZ tg iter ifs it env (bd it acc env) (again (.compLoop (.ListComp elt (⟨tg,iter,ifs,0⟩::rest) scope pos) 0 it acc env)))(he:∀C fp s H (D n0:Nat) (it:Addr),Zex (blk X scope cl N C fp s H) D n0 (.compLoop (.ListComp elt (⟨tg,iter,ifs,0⟩::rest) scope pos) 0 (.ref it) (.ref D) (blk X scope cl N C fp s H).env) (bd (.ref it) (.ref D) (blk X scope cl N C fp s H).env) (g n0))(hs:autoParam (∀x,foldedSetIterable iter X.env x=pure x) Qin._auto_1):DE X ξ (.ListComp elt (⟨tg,iter,ifs,0⟩::rest) scope pos) (Zb2 fi k fr gt c g):=by
 obtain⟨wi,pi,qi⟩:=hi;refine⟨fun σ H Q=>∃ρ α M,SR X.K H α σ ρ/\HR X.K H α M/\OP X.K H α ξ Q (Zb2 fi k fr gt c g ρ M),?_,fun σ ρ H α M Q s h q=>⟨ρ,α,M,s,h,q⟩⟩;rintro pins s σ H Q I ⟨ρ,α,M,sr,hr,op⟩;rw[eval_ListComp];refine wpAny_comprehension_free (use:=none) rfl hs B.clos B.kind B.names ?_;refine thn (pi pins s σ H (fun J H2=>∃α2 M2 src,Ext X.K H H2 α α2/\HR X.K H2 α2 M2/\Zjs X.K H2 α2 J src/\OP X.K H2 α2 ξ Q (match Zc0 src gt c (g M2.length) (cnt src M2) 0 (roB k fr ρ) (M2++[.lst []])with|.ok _ M2'=>.ok (.ref M2.length) M2'|_=>.bad)) I
  (qi σ ρ H α M _ sr hr (OG.seq op fun src M1 J H1 α1 e1 h1 r1 q1=>⟨α1,M1,src,e1,h1,r1,q1⟩))) fun v s1 w1=>thn w1 fun itv s2 w2=>?_
 obtain⟨it,fp,tn,J,H2,rfl,I2,T,st2,f2,α2,M2,src,e2,h2,sc,op2⟩:=w2;have srI:=sr.mono e2;refine wpAny_newObj_type ?_;have I3:Inv X pins σ (upd H2 s2.heap.objs.size (.lst [])) {s2 with heap:=s2.heap.push {cls:=.type "list",data:=.seq ([]:List Value).toArray}}:=I2.lnew (its:=[]) (t':=s2.toks) .nil (Nat.zero_le _);have fD:H2 s2.heap.objs.size=none:=I2.fresh;generalize hD:s2.heap.objs.size=D at I3 fD;generalize hs3:({s2 with heap:=s2.heap.push {cls:=.type "list",data:=.seq ([]:List Value).toArray}}:Shared)=s3 at I3;generalize hH3:upd H2 D (.lst [])=H3 at I3;have h3:HR X.K H3 (α2++[D]) (M2++[.lst []]):=by rw[<-hH3];exact h2.new fD .nil
 have e3:Ext X.K H2 H3 α2 (α2++[D]):=by rw[<-hH3];exact Ext.new fD
 have aD:RefK H3 (α2++[D]) 0 M2.length D:=⟨h2.last D,by first|exact Kn.lst Zs|(rw[<-hH3];exact Kn.lst Zs)⟩
 have lt2:∀b∈fp,b<s2.heap.objs.size:=fun b hb=>let ⟨o,e,_⟩:=T.obj _ _ st2 b hb;Hz e;have keep3:∀b o,s2.heap.get? b=some o->s3.heap.get? b=some o:=fun b o e=>by rw[<-hs3];exact Hq _ e
 have f3:∀b∈fp,Zca X pins H3 b:=fun b hb=>⟨by rw[<-hH3,Zz (by rw[<-hD];exact Nat.ne_of_lt (lt2 b hb))];exact(f2 b hb).1,(f2 b hb).2⟩
 have lt3:∀b∈fp,b<s3.heap.objs.size:=fun b hb=>let ⟨o,e,_⟩:=T.obj _ _ st2 b hb;Hz (keep3 b o e);have st3:tn 0 s3.heap:=T.keep _ _ _ st2 fun b _ o e=>keep3 b o e;refine wpAny_newFunctionEnv B.cell (by intro y hy;simp at hy) (fun h₁ hns₁ hsb₁=>?_) B.kind
 have keep4:∀b o,s3.heap.get? b=some o->h₁.get? b=some o:=fun b o e=>hsb₁.extBut b o (Nat.ne_of_lt (Hz e)) (Hq _ e);have I4:=Ze4 (tk:=s3.toks+([]:List (Str×Value)).length) B I3 f3 lt3 hns₁ keep4;have st4:tn 0 h₁:=T.keep _ _ _ st3 fun b _ o e=>keep4 b o e;have fp5:∀{H':Hp},(∀b∈fp,H' b=none)->∀b∈fp,Zca (blk X scope cl N s3.heap.objs.size fp s3 H3) [] H' b:=fun hn b hb=>⟨hn b hb,Nat.ne_of_lt (lt3 b hb),(ZfW B I3 f3 lt3).exfs b hb,.inl hb,fun x c h=>(f3 b hb).2.2.2.2.1 x c (B.sub x c h),fun p hp=>(by simp[blk]at hp)⟩
 cases er:Zc0 src gt c (g M2.length) (cnt src M2) 0 (roB k fr ρ) (M2++[.lst []])with
 |exc x M9=>rw[er]at op2;exact op2.elim
 |bad=>rw[er]at op2;exact op2.elim
 |ok u9 M9=>
  rw[er]at op2;have loop:codeAny (model X.prog X.w) X.A (.compLoop (.ListComp elt (⟨tg,iter,ifs,0⟩::rest) scope pos) 0 (.ref it) (.ref D) (compEnvC scope cl s3.heap.objs.size X.env)) (compPost (model X.prog X.w) X.A X.xe none (EP X pins σ Q) (.ref D) s3.heap.objs.size) {s3 with heap:=h₁,toks:=s3.toks+([]:List (Str×Value)).length}:=by
   refine Zey (Y:=blk X scope cl N s3.heap.objs.size fp s3 H3) (hct _ _ _) T (fun _ _ z=>z) fp5 (hg _ fp s3 H3) (ht _ fp s3 H3) (he _ fp s3 H3 D M2.length it) (fun i H' α' M' ex hr=>sc i H' α' M' (e3.trans ex) hr) aD I4 st4 (fun b hb=>(f3 b hb).1) ((srI.blk).mono e3) h3 er ?_;intro σ5 H5 α5 s6 I6 ex5 sr5 hr5;obtain⟨I7,I8⟩:=Zdq B I3 f3 I6;obtain⟨m6,hm6,_⟩:=id I6.loc;exact⟨m6,hm6,fun h' sb=>⟨.ref D,H5,I8 σ s6 h' I7 (fun b o hb e=>(sb.2 b hb).trans e),rfl,op2 _ H5 α5 (e3.trans ex5) hr5 (.ref (ex5.get aD))⟩⟩
  exact codeAny_compStart_list loop (T.self X.A 0 _ _ _ st4 loop)
theorem Zkk(B:Blk X scope cl N k fr)(hi:DI X ξ tg iter fi)(hg:∀C fp s H,DG (blk X scope cl N C fp s H) tg gt)(ht:∀C fp s H,DC (blk X scope cl N C fp s H) ifs c)(hi1:∀C fp s H,DI (blk X scope cl N C fp s H) E0 tg1 iter1 fi1)(hg1:∀C fp s H,DG (blk X scope cl N C fp s H) tg1 gt1)(ht1:∀C fp s H,DC (blk X scope cl N C fp s H) ifs1 c1)(he:∀C fp s H,DE (blk X scope cl N C fp s H) E0 elt f)(hs:autoParam (∀x,foldedSetIterable iter X.env x=pure x) Qin._auto_1)(hs1:∀env x,foldedSetIterable iter1 env x=pure x:=by intro _ _;rfl):
  DE X ξ (.ListComp elt [⟨tg,iter,ifs,0⟩,⟨tg1,iter1,ifs1,0⟩] scope pos) (Zb2 fi k fr gt c fun n=>gIn fi1 gt1 c1 (gEm f n)):=
 Zf1 B hi hg ht (Zid elt tg iter tg1 iter1 ifs ifs1 scope pos) (fun C fp s H D n0 it=>Zdw (bd:=fun it'=>ZgJ (.ListComp elt [⟨tg,iter,ifs,0⟩,⟨tg1,iter1,ifs1,0⟩] scope pos) elt 1 it' (.ref D) (blk X scope cl N C fp s H).env) rfl (fun it'=>Zie elt tg iter tg1 iter1 ifs ifs1 scope pos it' _ _) (fun _ _ z=>z) (hi1 C fp s H) (hg1 C fp s H) (ht1 C fp s H) (fun it'=>Zez (fun _ _ z=>z) (he C fp s H)) (hs1 _)) hs
theorem Zkl(B:Blk X scope cl N k fr)(hi:DI X ξ tg iter fi)(hg:∀C fp s H,DG (blk X scope cl N C fp s H) tg gt)(ht:∀C fp s H,DC (blk X scope cl N C fp s H) ifs c)(hi1:∀C fp s H,DI (blk X scope cl N C fp s H) E0 tg1 iter1 fi1)(hg1:∀C fp s H,DG (blk X scope cl N C fp s H) tg1 gt1)(ht1:∀C fp s H,DC (blk X scope cl N C fp s H) ifs1 c1)(hi2:∀C fp s H,DI (blk X scope cl N C fp s H) E0 tg2 iter2 fi2)(hg2:∀C fp s H,DG (blk X scope cl N C fp s H) tg2 gt2)(ht2:∀C fp s H,DC (blk X scope cl N C fp s H) ifs2 c2)(he:∀C fp s H,DE (blk X scope cl N C fp s H) E0 elt f)(hs:autoParam (∀x,foldedSetIterable iter X.env x=pure x) Qin._auto_1)(hs1:∀env x,foldedSetIterable iter1 env x=pure x:=by intro _ _;rfl)(hs2:∀env x,foldedSetIterable iter2 env x=pure x:=by intro _ _;rfl):
  DE X ξ (.ListComp elt [⟨tg,iter,ifs,0⟩,⟨tg1,iter1,ifs1,0⟩,⟨tg2,iter2,ifs2,0⟩] scope pos) (Zb2 fi k fr gt c fun n=>gIn fi1 gt1 c1 (gIn fi2 gt2 c2 (gEm f n))):=
 Zf1 B hi hg ht (Zif elt tg iter tg1 iter1 tg2 iter2 ifs ifs1 ifs2 scope pos) (fun C fp s H D n0 it=>Zdw (bd:=fun it'=>ZnD (.ListComp elt [⟨tg,iter,ifs,0⟩,⟨tg1,iter1,ifs1,0⟩,⟨tg2,iter2,ifs2,0⟩] scope pos) iter2 1 it' (.ref D) (blk X scope cl N C fp s H).env) rfl (fun it'=>Zig elt tg iter tg1 iter1 tg2 iter2 ifs ifs1 ifs2 scope pos it' _ _) (fun _ _ z=>z) (hi1 C fp s H) (hg1 C fp s H) (ht1 C fp s H) (fun it'=>Zdw (bd:=fun it2=>ZgJ (.ListComp elt [⟨tg,iter,ifs,0⟩,⟨tg1,iter1,ifs1,0⟩,⟨tg2,iter2,ifs2,0⟩] scope pos) elt 2 it2 (.ref D) (blk X scope cl N C fp s H).env) rfl (fun it2=>Zih elt tg iter tg1 iter1 tg2 iter2 ifs ifs1 ifs2 scope pos it2 _ _) (fun _ _ z=>z) (hi2 C fp s H) (hg2 C fp s H) (ht2 C fp s H) (fun it2=>Zez (fun _ _ z=>z) (he C fp s H)) (hs2 _)) (hs1 _)) hs
end
end DL
namespace DL
open PyProof.Rows L2
end DL
namespace DL
open PyProof.Rows L2
end DL
namespace DL
open PyProof.Rows L2
def Its(lo c:Int)(n:Nat):It:=⟨fun i _=>i<n,fun i H x H'=>H'=H/\x=.int (lo+(i:Nat)*c),fun i _=>n<=i⟩
theorem Zii{K:Fg}(it:Addr)(lo c:Int)(n:Nat):Turn P w K B tg (Its lo c n) [it] it (fun i h=>IsRangeIter h it (lo+(i:Nat)*c) ((n:Int)-(i:Nat)) c) where
 mem:=by simp
 obj:=fun i h st b hb=>by
  have e:b=it:=by simpa using hb
  subst e;exact⟨_,st,fun v z=>by
   have z':Data.fields _=Data.cell v:=z;cases z'⟩
 keep:=fun i h h' st k=>k it (by simp) _ st
 item:=by
  intro X hP hw hK hB i pins s σ H E I hf st hg;subst hP hw hK;obtain⟨f0,f1,f2,f3,f4,f5⟩:=hf it (by simp)
  have hlt:i<n:=hg;refine wpAny_pyNext_range_item st (by lia) fun h' st' sb=>?_
  have I1:Inv X pins σ H {s with heap:=h',toks:=s.toks+1}:=I.turned (fun b o hb e=>(sb.2 b hb).trans e) f0 f1 f3 f4 f5;have st2:IsRangeIter h' it (lo+((i+1:Nat):Int)*c) ((n:Int)-((i+1:Nat):Int)) c:=by
   have e1:lo+((i+1:Nat):Int)*c=lo+(i:Nat)*c+c:=by rw[Int.natCast_add,Int.add_mul];simp;lia
   have e2:(n:Int)-((i+1:Nat):Int)=(n:Int)-(i:Nat)-1:=by lia
   rw[e1,e2];exact st'
  exact⟨_,rfl,ZjB (s:={s with heap:=h',toks:=s.toks+1}) (n:="range_iterator") st2 rfl rfl (by decide) ⟨.int (lo+(i:Nat)*c),H,I1,⟨s.toks,rfl⟩,⟨rfl,rfl⟩,st2,fun b hb=>(hf b hb).1⟩⟩
 done:=by
  intro X hP hw hK hB i pins s σ H E I hf st hg;subst hP hw hK;obtain⟨f0,f1,f2,f3,f4,f5⟩:=hf it (by simp)
  exact DQ.ZdU I.qh st (by have:n<=i:=hg;lia) fun h' eb=>⟨rfl,I.turned (t':=s.toks) (fun b o hb e=>eb b o hb e) f0 f1 f3 f4 f5⟩
 self:=fun _ _ _ _ _ st h=>wpAny_pyIter_rangeiter st h
def stN(lo hi c:Int):Nat:=if lo<hi then((hi-lo-1)/c+1).toNat else 0
theorem ZmE{lo:Int}(I:Inv X pins σ H s)(h1: -(2^62)<=lo)(h2:lo<2^62)(h3: -(2^62)<=hi)(h4:hi<2^62)(c1:1<=c)(c2:c<=1000)(q:R (Its lo c (stN lo hi c)) H):wpAny (model X.prog X.w) X.A (pyIter (.ref s.heap.objs.size)) (PIE X pins σ tg R) E {s with heap:=s.heap.push {cls:=.type "range",data:=.fields #[.int lo t,.int hi u,.int c v]},toks:=tk}:=by
 have hdiv:∀z:Int,0<=z->0<=z/c/\z/c<=z:=fun z hz=>⟨Int.ediv_nonneg hz (by lia),Int.ediv_le_self _ hz⟩
 refine wpAny_pyIter_range (IsRange.new ..) ?_ ?_
 ·have cp:0<c:=by lia
  have e:(2:Int)^62=4611686018427387904:=by decide
  unfold Builtin.Range.small Builtin.Range.rangeSize Builtin.Range.rangeFitsLong;rw[if_pos (show c>0 from cp)];by_cases z:lo<hi
  ·obtain⟨g1,g2⟩:=hdiv (hi-lo-1) (by lia)
   rw[if_pos z];have g3:(hi-lo-1)/c*c<=hi-lo-1:=Int.ediv_mul_le _ (by lia)
   generalize (hi-lo-1)/c=m at *;simp;refine⟨by lia,.inr ?_⟩
   rw[if_pos cp];lia
  ·rw[if_neg z];simp;lia
 have I1:Inv X pins σ H {s with heap:=s.heap.push {cls:=.type "range",data:=.fields #[.int lo t,.int hi u,.int c v]},toks:=tk}:=I.kept fun b o e=>Hq _ e;refine⟨(s.heap.push {cls:=.type "range",data:=.fields #[.int lo t,.int hi u,.int c v]}).objs.size,[(s.heap.push {cls:=.type "range",data:=.fields #[.int lo t,.int hi u,.int c v]}).objs.size],_,_,H,rfl,I1.kept (t':=tk) fun b o e=>Hq _ e,Zii _ lo c (stN lo hi c),?_,fun b hb=>?_,q⟩
 ·have e1:lo+((0:Nat):Int)*c=lo:=by simp
  have e2:((stN lo hi c:Nat):Int)-((0:Nat):Int)=Builtin.Range.rangeSize lo hi c:=by
   unfold stN Builtin.Range.rangeSize;by_cases z:lo<hi
   ·have:=hdiv (hi-lo-1) (by lia)
    rw[if_pos z,if_pos (show c>0 by lia),if_pos z]
    lia
   ·rw[if_neg z,if_pos (show c>0 by lia),if_neg z]
    rfl
  show IsRangeIter _ _ (lo+((0:Nat):Int)*c) (((stN lo hi c:Nat):Int)-((0:Nat):Int)) c;rw[e1,e2];exact Heap.get?_push_size _ rfl
 ·have e:b=(s.heap.push {cls:=.type "range",data:=.fields #[.int lo t,.int hi u,.int c v]}).objs.size:=by simpa using hb
  subst e;exact I1.fpOk (Nat.le_refl _) (I1.hok.fresh (Nat.le_refl _))
def Zrz(ta:TA):TI:=fun σ H R=>ta σ H fun vs H1=>∃i j c:Int,vs=[.int i,.int j,.int c]/\(-(2^62)<=i/\i<2^62/\ -(2^62)<=j/\j<2^62/\1<=c/\c<=1000)/\R (Its i c (stN i j c)) H1
theorem Zij(hg:Gl X "range")(hm:X.mg "range"=none)(ha:PA X [a,b,c] ta)(hs:autoParam (starEach [a,b,c] X.env=[(false,eval a X.env),(false,eval b X.env),(false,eval c X.env)]) Qrf._auto_1)(hs2:autoParam (starEach [b,c] X.env=[(false,eval b X.env),(false,eval c X.env)]) Qrf._auto_1) :
  PI X tg (.Call (.Name "range" p) [a,b,c] [] pos) (Zrz ta):=by
 intro pins s σ H R I h;refine Call_ (Zbg I hg hm boot_range (PyProof.Rows.callWith_type1 (thn (ha pos pins s σ H _ I h) fun us s1 ⟨vs,H1,I1,r1,q1⟩=>?_) (by rw[hs,hs2]) (by rw[hs2];rfl)))
 obtain⟨i,j,c,e,⟨q1,q2,q3,q4,q5,q6⟩,q⟩:=q1;subst e;cases r1 with
 |cons r rr=>
  cases rr with
  |cons r' rr=>
   cases rr with
   |cons r'' rr=>
    cases rr;obtain⟨t,rfl⟩:=r;obtain⟨t',rfl⟩:=r';obtain⟨t'',rfl⟩:=r'';exact call_range_3 (by lia) (ZmE I1 q1 q2 q3 q4 q5 q6 q) (.inl (PyProof.noPylong_small (by lia)))
def Zik(lo c:Int)(n:Nat):List D:=(List.range n).map fun(i:Nat)=>D.int (lo+(i:Int)*c)
theorem Zkm{lo:Int}:(Zik lo c n).length=n:=by simp[Zik]
def iR3(fs:Av):Ro->Sto->Out Src:=fun ρ M=>(fs ρ M).bind fun ds M1=>match ds with
 |[.int i,.int j,.int c]=>if -(2^62)<=i/\i<2^62/\ -(2^62)<=j/\j<2^62/\1<=c/\c<=1000 then .ok (.pur (Zik i c (stN i j c))) M1 else .bad
 |_=>.bad
theorem Zil{K:Fg}{lo:Int}:Zjs K H α (Its lo c n) (.pur (Zik lo c n)):=by
 intro i H' α' M' ex hr;show match some (Zik lo c n)[i]? with|some none=>_|some (some d)=>_|none=>True
 by_cases h:i<n
 ·have e:(Zik lo c n)[i]?=some (.int (lo+(i:Int)*c)):=by simp[Zik,h]
  rw[e];refine⟨h,fun x H'' y=>?_⟩;obtain⟨e1,e2⟩:=y;subst e1 e2;exact⟨Ext.refl,hr,.int _⟩
 ·rw[List.getElem?_eq_none (by rw[Zkm];lia)]
  exact Nat.le_of_not_lt h
theorem Zim(hm:X.mg "range"=none)(ha:DA X ξ [a,b,c] fs)(hgl:autoParam (Gl X "range") Qrf._auto_1)(hs:autoParam (starEach [a,b,c] X.env=[(false,eval a X.env),(false,eval b X.env),(false,eval c X.env)]) Qrf._auto_1)(hs2:autoParam (starEach [b,c] X.env=[(false,eval b X.env),(false,eval c X.env)]) Qrf._auto_1):DI X ξ tg (.Call (.Name "range" p) [a,b,c] [] pos) (iR3 fs):=by
 obtain⟨ta,pa,qa⟩:=ha;refine⟨_,Zij hgl hm pa hs hs2,fun σ ρ H α M R s hh q=>qa σ ρ H α M _ s hh (OG.seq q fun ds M1 vs H1 α1 e1 h1 r1 w1=>?_)⟩
 split at w1
 ·rename_i i j c;cases r1 with
  |cons r t=>
   cases t with
   |cons r' t=>
    cases t with
    |cons r'' t=>
     cases t;cases r;cases r';cases r'';by_cases z: -(2^62)<=i/\i<2^62/\ -(2^62)<=j/\j<2^62/\1<=c/\c<=1000
     ·simp only[if_pos z]at w1;exact⟨i,j,c,rfl,z,w1 _ H1 α1 Ext.refl h1 Zil⟩
     ·simp only[if_neg z]at w1;exact w1.elim
 ·exact w1.elim
end DL
namespace DL
open L2
end DL
namespace DL
open PyProof.Rows L2 PySem.W
end DL
namespace PySem.SeqAt
open MeetsSeq MeetsSeq2 MeetsSeq3 SeqRoads2
end PySem.SeqAt
namespace DL
open PyProof.Rows L2 PySem.W
end DL
namespace ST
open PyProof.Rows
abbrev lt(a b:List Int):Bool:=HT.ZaV a b
def le(a b:List Int):Prop:=lt b a=false
theorem Zin:∀a:List Int,lt a a=false
 |[]=>rfl
 |x::r=>by
  show HT.ZaV (x::r) (x::r)=false;rw[HT.Z1,if_pos rfl];exact Zin r
theorem ZmF:∀{a b c:List Int},lt a b=true->lt b c=true->lt a c=true
 |[],[],_,h,_=>by cases h
 |[],_::_,[],_,h=>by cases h
 |[],_::_,_::_,_,_=>rfl
 |_::_,[],_,h,_=>by cases h
 |_::_,_::_,[],_,h=>by cases h
 |x::a,y::b,z::c,h,g=>by
  show HT.ZaV (x::a) (z::c)=true;have h:HT.ZaV (x::a) (y::b)=true:=h;have g:HT.ZaV (y::b) (z::c)=true:=g;rw[HT.Z1]at h g ⊢;by_cases e1:x=y
  ·subst e1;rw[if_pos rfl]at h;by_cases e2:x=z
   ·rw[if_pos e2]at g ⊢;exact ZmF h g
   ·rw[if_neg e2]at g ⊢;exact g
  ·rw[if_neg e1]at h;have h:=of_decide_eq_true h;by_cases e2:y=z
   ·subst e2;rw[if_neg e1];exact decide_eq_true h
   ·rw[if_neg e2]at g;have g:=of_decide_eq_true g;rw[if_neg (by lia)]
    exact decide_eq_true (by lia)
theorem ZeA:∀{a b:List Int},lt a b=false->lt b a=false->a=b
 |[],[],_,_=>rfl
 |[],_::_,h,_=>by cases h
 |_::_,[],_,h=>by cases h
 |x::a,y::b,h,g=>by
  have h:HT.ZaV (x::a) (y::b)=false:=h;have g:HT.ZaV (y::b) (x::a)=false:=g;rw[HT.Z1]at h g;by_cases e:x=y
  ·subst e;rw[if_pos rfl]at h g;rw[ZeA h g]
  ·rw[if_neg e]at h;rw[if_neg (Ne.symm e)]at g
   have:=of_decide_eq_false h
   have:=of_decide_eq_false g
   lia
theorem Zdx(a:List Int):le a a:=Zin a
theorem Zio(h:lt a b=true):le a b:=by
 unfold le;cases e:lt b a with
 |false=>rfl
 |true=>have:=ZmF h e;rw[Zin]at this;cases this
theorem ZgL(h:le a b)(g:le b c):le a c:=by
 unfold le at *;cases e:lt c a with
 |false=>rfl
 |true=>
  cases e2:lt b a with
  |true=>rw[e2]at h;cases h
  |false=>
   cases e3:lt a b with
   |true=>rw[ZmF e e3]at g;cases g
   |false=>
    have:=ZeA e3 e2
    subst this;rw[e]at g;cases g
theorem Zfd(h:lt a b=true)(g:le b c):lt a c=true:=by
 cases e:lt a c with
 |true=>rfl
 |false=>have:=ZgL g e;unfold le at this;rw[h]at this;cases this
variable (kf:Keyed->List Int)
noncomputable def ky(xs:Array Keyed)(i:Nat):List Int:=match xs[i]? with|some p=>kf p|none=>[]
def Up(xs:Array Keyed)(n:Nat):Prop:=∀i j,i<=j->j<n->le (ky kf xs i) (ky kf xs j)
def Dn(xs:Array Keyed)(n:Nat):Prop:=∀i j,i<=j->j<n->le (ky kf xs j) (ky kf xs i)
variable {kf}
theorem Zip{xs ys:Array Keyed}{i j:Nat}(h:xs[i]?=ys[j]?):ky kf xs i=ky kf ys j:=by unfold ky;rw[h]
theorem Ziq{xs:Array Keyed}{i j:Nat}(hj:j<=xs.size)(k:Nat):ky kf (mirror xs i j ((j-i)/2)) k=if i<=k/\k<j then ky kf xs (i+j-1-k)else ky kf xs k:=by
 have g:=getElem?_mirror_all (i:=i) hj k;split
 ·rename_i c;rw[if_pos c]at g;exact Zip g
 ·rename_i c;rw[if_neg c]at g;exact Zip g
theorem Zaa{xs:Array Keyed}{i j:Nat}(hj:j<=xs.size)(hs:∀k,i<=k->k<j->ky kf xs k=ky kf xs (j-1))(k:Nat):ky kf (mirror xs i j ((j-i)/2)) k=ky kf xs k:=by
 rw[Ziq hj];split
 ·rename_i c;rw[hs k c.1 c.2,hs (i+j-1-k) (by lia) (by lia)]
 ·rfl
theorem Zla{xs:Array Keyed}{p d:Nat}(hp:p<xs.size)(hd:d<=p)(k:Nat):ky kf (bubble xs p d) k=if k=p-d then ky kf xs p else if p-d<k/\k<=p then ky kf xs (k-1)else ky kf xs k:=by
 have g:=getElem?_bubble hp d hd k;by_cases c1:k=p-d
 ·rw[if_pos c1]at g ⊢;exact Zip g
 ·rw[if_neg c1]at g ⊢;by_cases c2:p-d<k/\k<=p
  ·rw[if_pos c2]at g ⊢;exact Zip g
  ·rw[if_neg c2]at g ⊢;exact Zip g
structure Cm(M:Model) (A:Around) (E:Vp) (s:Shared) (kf:Keyed->List Int) (B:SortSt->Prop) (N:Nat):Prop where
 sz:∀st,B st->(arrOf st).size=N
 put:∀st xs,B st->xs.Perm (arrOf st)->B (setArr st xs)
 cmp:∀st i j (Q:Option Bool->SortSt->Prop),B st->i<N->j<N->Q (some (lt (ky kf (arrOf st) i) (ky kf (arrOf st) j))) st->wpS M A E s (ltAt' i j) Q st
section
variable {prog:Program}{w:World}{A:Around}{E:Vp}{s:Shared}{B:SortSt->Prop}{N:Nat}
theorem Up.more{xs:Array Keyed}{n:Nat}(h:Up kf xs n)(h1:1<=n)(hl:le (ky kf xs (n-1)) (ky kf xs n)):Up kf xs (n+1):=by
 intro i j ij jn;by_cases c:j<n
 ·exact h i j ij c
 ·have:j=n:=by lia
  subst this;by_cases c2:i=j
  ·subst c2;exact Zdx _
  ·exact ZgL (h i (j-1) (by lia) (by lia)) hl
theorem Dn.more{xs:Array Keyed}{n:Nat}(h:Dn kf xs n)(h1:1<=n)(hl:le (ky kf xs n) (ky kf xs (n-1))):Dn kf xs (n+1):=by
 intro i j ij jn;by_cases c:j<n
 ·exact h i j ij c
 ·have:j=n:=by lia
  subst this;by_cases c2:i=j
  ·subst c2;exact Zdx _
  ·exact ZgL hl (h i (j-1) (by lia) (by lia))
theorem ZoU(C:Cm (model prog w) A E s kf B N){st:SortSt}{a n:Nat}{Q:AscSt->SortSt->Prop}(hn:n<=N)(ha:1<=a)(an:a<=n)(hB:B st)(hu:Up kf (arrOf st) a)(q:∀m,a<=m->m<=n->Up kf (arrOf st) m->(m=n\/lt (ky kf (arrOf st) m) (ky kf (arrOf st) (m-1))=true)->Q (none,m) st):wpS (model prog w) A E s (ascLoop a n) Q st:=by
 unfold ascLoop;refine wpS_forRange (fun x c t=>t=st/\c=(none,x)/\Up kf (arrOf st) x) (fun x c t ax xn hI=>?_) (fun c t hI=>?_) ⟨rfl,rfl,hu⟩
 ·obtain⟨rfl,rfl,h⟩:=hI;refine wpS_bind (C.cmp t x (x-1) _ hB (by lia) (by lia) ?_)
  cases z:lt (ky kf (arrOf t) x) (ky kf (arrOf t) (x-1))with
  |true=>exact wpS_pure (q x ax (by lia) h (.inr z))
  |false=>exact wpS_pure ⟨rfl,rfl,h.more (by lia) z⟩
 ·obtain⟨rfl,rfl,h⟩:=hI;rw[Nat.max_eq_right an]at h ⊢;exact q n an (Nat.le_refl _) h (.inl rfl)
theorem Zlb(C:Cm (model prog w) A E s kf B N){st:SortSt}{m n:Nat}{Q:Option Nat->SortSt->Prop}(hn:n<=N)(h1:1<=m)(mn:m<=n)(hB:B st)(hd:Dn kf (arrOf st) m)(q:∀m t,B t->1<=m->m<=n->Up kf (arrOf t) m->Q (some m) t):wpS (model prog w) A E s (tail3 m n) Q st:=by
 have sz:=C.sz st hB;have hB':=C.put st (mirror (arrOf st) 0 m ((m-0)/2)) hB (mirror_perm ..);refine wpS_bind (wpS_reverse (wpS_bind (ZoU C hn h1 mn hB' (fun i j ij jm=>?_) fun k k1 k2 hu _=>wpS_pure (q k _ hB' (by lia) k2 hu))))
 show le (ky kf (mirror (arrOf st) 0 m ((m-0)/2)) i) (ky kf (mirror (arrOf st) 0 m ((m-0)/2)) j);rw[Ziq (by lia),Ziq (by lia),if_pos ⟨by lia,by lia⟩,if_pos ⟨by lia,jm⟩]
 exact hd _ _ (by lia) (by lia)
def Eqs(kf:Keyed->List Int)(xs:Array Keyed)(x e:Nat):Prop:=e+1<=x/\∀i,x-(e+1)<=i->i<x->ky kf xs i=ky kf xs (x-1)
theorem ZrA{xs:Array Keyed}{x:Nat}(h:1<=x):Eqs kf xs x 0:=⟨by lia,fun i a b=>by rw[show i=x-1 by lia]⟩
theorem ZoV(C:Cm (model prog w) A E s kf B N){st:SortSt}{m n:Nat}{Q:DescSt->SortSt->Prop}(hn:n<=N)(h1:1<=m)(mn:m<=n)(hB:B st)(hd:Dn kf (arrOf st) m)(q:∀x e t,B t->m<=x->x<=n->Dn kf (arrOf t) x->Eqs kf (arrOf t) x e->Q (none,x,e) t):wpS (model prog w) A E s (descLoop m n) Q st:=by
 unfold descLoop;refine wpS_forRange (fun x c t=>∃e,c=(none,x,e)/\B t/\Dn kf (arrOf t) x/\Eqs kf (arrOf t) x e) (fun x c t ax xn hI=>?_) (fun c t hI=>?_) ⟨0,rfl,hB,hd,ZrA h1⟩
 ·obtain⟨e,rfl,hB,hd,he⟩:=hI;have sz:=C.sz t hB;refine wpS_bind (C.cmp t x (x-1) _ hB (by lia) (by lia) ?_)
  cases z:lt (ky kf (arrOf t) x) (ky kf (arrOf t) (x-1))with
  |true=>
   have up1:=hd.more (by lia) (Zio z)
   show wpS _ _ _ _ (if e>0 then _ else _) _ _
   by_cases c:e>0
   ·rw[if_pos c];refine wpS_bind (wpS_reverse (wpS_pure ⟨0,rfl,C.put t _ hB (mirror_perm ..),fun i j ij jx=>?_,ZrA (by lia)⟩))
    show le (ky kf (mirror (arrOf t) (x-(e+1)) x ((x-(x-(e+1)))/2)) j) (ky kf (mirror (arrOf t) (x-(e+1)) x ((x-(x-(e+1)))/2)) i);rw[Zaa (by lia) he.2,Zaa (by lia) he.2]
    exact up1 i j ij jx
   ·rw[if_neg c];exact wpS_pure ⟨0,rfl,hB,up1,ZrA (by lia)⟩
  |false=>
   refine wpS_bind (C.cmp t (x-1) x _ hB (by lia) (by lia) ?_)
   cases z2:lt (ky kf (arrOf t) (x-1)) (ky kf (arrOf t) x)with
   |true=>exact wpS_pure (q x e t hB ax (by lia) hd he)
   |false=>
    have ee:ky kf (arrOf t) x=ky kf (arrOf t) (x-1):=ZeA z z2;refine wpS_pure ⟨e+1,rfl,hB,hd.more (by lia) z2,by have:=he.1;lia,fun i a b=>?_⟩
    rw[show x+1-1=x by lia]
    by_cases c:i=x
    ·rw[c]
    ·rw[ee];exact he.2 i (by lia) (by lia)
 ·obtain⟨e,rfl,hB,hd,he⟩:=hI;rw[Nat.max_eq_right mn]at hd he ⊢;exact q n e t hB mn (Nat.le_refl _) hd he
theorem Zlc(C:Cm (model prog w) A E s kf B N){st:SortSt}{m n:Nat}{Q:Option Nat->SortSt->Prop}(hn:n<=N)(mn:m+1<=n)(hB:B st)(hd:Dn kf (arrOf st) (m+1))(q:∀m t,B t->1<=m->m<=n->Up kf (arrOf t) m->Q (some m) t):wpS (model prog w) A E s (descPart m n) Q st:=by
 refine wpS_bind (wpS_lift (wpAny_rule ⟨rfl,wpS_bind (ZoV C hn (by lia) mn hB hd fun x e t hB hx xn hd he=>?_)⟩))
 have sz:=C.sz t hB;show wpS _ _ _ _ (if e>0 then _ else _) _ _
 by_cases c:e>0
 ·rw[if_pos c];refine wpS_bind (wpS_reverse (Zlb (m:=x) C hn (by lia) xn (C.put t _ hB (mirror_perm ..)) (fun i j ij jx=>?_) q))
  show le (ky kf (mirror (arrOf t) (x-(e+1)) x ((x-(x-(e+1)))/2)) j) (ky kf (mirror (arrOf t) (x-(e+1)) x ((x-(x-(e+1)))/2)) i);rw[Zaa (by lia) he.2,Zaa (by lia) he.2]
  exact hd i j ij jx
 ·rw[if_neg c];exact Zlb (m:=x) C hn (by lia) xn hB hd q
theorem ZrB(C:Cm (model prog w) A E s kf B N){st:SortSt}{n:Nat}{Q:Option Nat->SortSt->Prop}(hn:n<=N)(h1:1<=n)(hB:B st)(q:∀m t,B t->1<=m->m<=n->Up kf (arrOf t) m->Q (some m) t):wpS (model prog w) A E s (countRun' 0 n) Q st:=by
 have sz:=C.sz st hB;rw[countRun0_eq];refine wpS_bind (ZoU C hn (Nat.le_refl 1) h1 hB (fun i j ij j1=>by rw[show i=j by lia];exact Zdx _) fun m m1 m2 hu ho=>?_)
 show wpS _ _ _ _ (if(m==n)=true then _ else _) _ _
 by_cases c:m=n
 ·rw[if_pos (by simpa using c)]
  exact wpS_pure (q m st hB m1 m2 hu)
 ·rw[if_neg (by simpa using c)]
  have hl:=ho.resolve_left c;by_cases c1:m>1
  ·rw[if_pos c1];refine wpS_bind (C.cmp st 0 (m-1) _ hB (by lia) (by lia) ?_)
   cases z:lt (ky kf (arrOf st) 0) (ky kf (arrOf st) (m-1))with
   |true=>exact wpS_pure (q m st hB m1 m2 hu)
   |false=>
    have al:∀k,0<=k->k<m->ky kf (arrOf st) k=ky kf (arrOf st) (m-1):=fun k _ km=>
     ZeA (ZgL z (hu 0 k (by lia) km)) (hu k (m-1) (by lia) (by lia))
    refine wpS_bind (wpS_reverse (Zlc C hn (by lia) (C.put st _ hB (mirror_perm ..)) (fun i j ij jx=>?_) q))
    show le (ky kf (mirror (arrOf st) 0 m ((m-0)/2)) j) (ky kf (mirror (arrOf st) 0 m ((m-0)/2)) i);rw[Zaa (by lia) al,Zaa (by lia) al]
    by_cases d:j<m
    ·rw[al i (by lia) (by lia),al j (by lia) d];exact Zdx _
    ·have:j=m:=by lia
     subst this;by_cases d2:i=j
     ·rw[d2];exact Zdx _
     ·rw[al i (by lia) (by lia)];exact Zio hl
  ·rw[if_neg c1]
   have:m=1:=by lia
   subst this;refine Zlc C hn (by lia) hB (fun i j ij jx=>?_) q
   by_cases d2:i=j
   ·rw[d2];exact Zdx _
   ·rw[show i=0 by lia,show j=1 by lia];exact Zio hl
theorem ZrC(C:Cm (model prog w) A E s kf B N){st:SortSt}{n ok:Nat}{Q:Bool->SortSt->Prop}(hn:n<=N)(hk:ok<=n)(hB:B st)(hu:Up kf (arrOf st) ok)(q:∀t,B t->Up kf (arrOf t) n->Q true t):wpS (model prog w) A E s (binarySort' 0 n ok) Q st:=by
 rw[binarySort'_eq];simp only[Nat.zero_add];refine wpS_bind (wpS_mono (wpS_forRange (fun k c t=>c=(none,())/\B t/\Up kf (arrOf t) (min k n)) (Q:=fun c t=>c=(none,())/\B t/\Up kf (arrOf t) n) (fun k c t ak kn hI=>?_) (fun c t hI=>?_) ⟨rfl,hB,fun i j ij jn=>?_⟩) fun c t hI=>?_)
 ·obtain⟨rfl,hB,hu⟩:=hI;rw[Nat.min_eq_left (by lia)]at hu
  have sz:=C.sz t hB;have kN:k<N:=by lia
  refine wpS_bind (wpS_mono (wpS_forRange (fun x c t'=>t'=t/\∃l r,c=(none,l,r)/\(l<=r/\r<=k/\r-l<=k-x)/\(∀i,i<l->le (ky kf (arrOf t) i) (ky kf (arrOf t) k))/\∀i,r<=i->i<k->lt (ky kf (arrOf t) k) (ky kf (arrOf t) i)=true) (Q:=fun c t'=>t'=t/\∃l r,c=(none,l,r)/\l<=k/\(∀i,i<l->le (ky kf (arrOf t) i) (ky kf (arrOf t) k))/\∀i,l<=i->i<k->lt (ky kf (arrOf t) k) (ky kf (arrOf t) i)=true) (fun x c t' _ xk hI=>?_) (fun c t' hI=>?_) ⟨rfl,0,k,rfl,by lia,fun i hi=>by lia,fun i a b=>by lia⟩) fun c t' hI=>?_)
  ·obtain⟨rfl,l,r,rfl,⟨lr,rk,hm⟩,lo,hi⟩:=hI;show wpS _ _ _ _ (if l ≥ r then _ else _) _ _
   by_cases c:l ≥ r
   ·rw[if_pos c]
    have:l=r:=by lia
    subst this;exact wpS_pure ⟨rfl,l,l,rfl,rk,lo,hi⟩
   ·rw[if_neg c];refine wpS_bind (C.cmp t' k ((l+r)/2) _ hB kN (by lia) ?_)
    cases z:lt (ky kf (arrOf t') k) (ky kf (arrOf t') ((l+r)/2))with
    |true=>exact wpS_pure ⟨rfl,l,(l+r)/2,rfl,by lia,lo,fun i a b=>Zfd z (hu _ _ a b)⟩
    |false=>exact wpS_pure ⟨rfl,(l+r)/2+1,r,rfl,by lia,fun i a=>ZgL (hu i ((l+r)/2) (by lia) (by lia)) z,hi⟩
  ·obtain⟨rfl,l,r,rfl,⟨lr,rk,hm⟩,lo,hi⟩:=hI
   have:l=r:=by lia
   subst this;exact⟨rfl,l,l,rfl,rk,lo,hi⟩
  ·obtain⟨rfl,l,r,rfl,lk,lo,hi⟩:=hI;show wpS _ _ _ _ (moveDown' k l >>= fun _=>pure (ForInStep.yield (none,()))) _ _;rw[moveDown'_eq];refine wpS_bind (wpS_modify (wpS_pure ⟨rfl,C.put t' _ hB (bubble_perm ..),?_⟩));rw[Nat.min_eq_left (by lia)]
   intro i j ij jk;show le (ky kf (bubble (arrOf t') k (k-l)) i) (ky kf (bubble (arrOf t') k (k-l)) j);rw[Zla (by lia) (by lia),Zla (by lia) (by lia),show k-(k-l)=l by lia]
   by_cases i1:i=l
   ·rw[if_pos i1];by_cases j1:j=l
    ·rw[if_pos j1];exact Zdx _
    ·rw[if_neg j1,if_pos (by lia)];exact Zio (hi _ (by lia) (by lia))
   ·rw[if_neg i1];by_cases i2:l<i/\i<=k
    ·rw[if_pos i2,if_neg (by lia),if_pos (by lia)];exact hu _ _ (by lia) (by lia)
    ·rw[if_neg i2];by_cases j1:j=l
     ·rw[if_pos j1];exact lo _ (by lia)
     ·rw[if_neg j1];by_cases j2:l<j/\j<=k
      ·rw[if_pos j2];exact hu _ _ (by lia) (by lia)
      ·rw[if_neg j2];exact hu _ _ (by lia) (by lia)
 ·obtain⟨rfl,hB,hu⟩:=hI;rw[show min (max (max ok 1) n) n=n by lia]at hu
  exact⟨rfl,hB,hu⟩
 ·by_cases c:ok=0
  ·rw[show i=j by lia];exact Zdx _
  ·exact hu i j ij (by lia)
 ·obtain⟨rfl,hB,hu⟩:=hI;exact wpS_pure (q t hB hu)
structure Cn(B:SortSt->Prop):Prop where
 fail:∀st,B st->failedOf st=none
 pend:∀st,B st->pendingOf st= #[]
theorem ZoW(C:Cm (model prog w) A E s kf B N)(D:Cn B){st:SortSt}{Q:Unit->SortSt->Prop}(h2:2<=N)(h64:N<64)(hB:B st)(q:∀t t',B t->arrOf t'=arrOf t->failedOf t'=none->Up kf (arrOf t) N->Q () t'):wpS (model prog w) A E s sortRuns' Q st:=by
 rw[sortRuns'_eq];refine wpS_bind (wpS_get ?_);have mr:minRun' N N 0=N:=by
  have:minRun' ((N-1)+1) N 0=N:=by rw[minRun'_succ,if_pos h64];rfl
  rwa [show N-1+1=N by lia]at this
 simp only[C.sz st hB,mr];refine wpS_bind (wpS_mono (wpS_forRange (fun x c t=>(x=0/\c=(none,0)/\B t)\/(1<=x/\c=(none,N)/\∃t0,B t0/\t=setPending t0 #[(0,N,0)]/\Up kf (arrOf t0) N)) (Q:=fun c t=>c=(none,N)/\∃t0,B t0/\t=setPending t0 #[(0,N,0)]/\Up kf (arrOf t0) N) (fun x c t _ xN hI=>?_) (fun c t hI=>?_) (.inl ⟨rfl,rfl,hB⟩)) fun c t hI=>?_)
 ·rcases hI with⟨rfl,rfl,hB⟩|⟨x1,rfl,hD⟩
  ·show wpS _ _ _ _ (if 0 ≥ N then _ else _) _ _
   rw[if_neg (by lia)]
   simp only[Nat.sub_zero,Nat.min_self,Nat.zero_add];refine wpS_bind (ZrB C (Nat.le_refl _) (by lia) hB fun m t1 hB1 m1 m2 hu=>?_)
   have fin:∀t1,B t1->Up kf (arrOf t1) N->(pendingOf t1).back?=none/\((0=0/\((none,N):Option Unit×Nat)=(none,0)/\B (setPending t1 ((pendingOf t1).push (0,N,0))))\/(1<=0+1/\((none,N):Option Unit×Nat)=(none,N)/\∃t0,B t0/\setPending t1 ((pendingOf t1).push (0,N,0))=setPending t0 #[(0,N,0)]/\Up kf (arrOf t0) N)):=fun t1 hB1 hu=>by
    rw[D.pend t1 hB1];exact⟨rfl,.inr ⟨by lia,rfl,t1,hB1,rfl,hu⟩⟩
   show wpS _ _ _ _ (if m<N then _ else _) _ _
   by_cases c:m<N
   ·rw[if_pos c];refine wpS_bind (wpS_lift (wpAny_rule ⟨rfl,wpS_bind (ZrC C (Nat.le_refl _) m2 hB1 hu fun t2 hB2 hu2=>?_)⟩));simp only[Bool.not_true,Bool.false_eq_true,if_false];refine wpS_bind (wpS_get ?_);rw[(fin t2 hB2 hu2).1];refine wpS_bind (wpS_modify (wpS_pure (.inr ⟨by lia,rfl,t2,hB2,?_,hu2⟩)))
    rw[D.pend t2 hB2];rfl
   ·rw[if_neg c]
    have:m=N:=by lia
    subst this;refine wpS_bind (wpS_get ?_);rw[(fin t1 hB1 hu).1];refine wpS_bind (wpS_modify (wpS_pure (.inr ⟨by lia,rfl,t1,hB1,?_,hu⟩)))
    rw[D.pend t1 hB1];rfl
  ·show wpS _ _ _ _ (if N ≥ N then _ else _) _ _
   rw[if_pos (Nat.le_refl _)];exact wpS_pure ⟨rfl,hD⟩
 ·rcases hI with⟨x0,_,_⟩|⟨_,hc,hD⟩
  ·lia
  ·exact⟨hc,hD⟩
 ·obtain⟨rfl,t0,hB0,rfl,hu⟩:=hI;refine wpS_bind (wpS_mono (wpS_forRange (fun _ c t=>t=setPending t0 #[(0,N,0)]/\c=(none,())) (Q:=fun c t=>t=setPending t0 #[(0,N,0)]/\c=(none,())) (fun x c t _ _ hI=>?_) (fun _ _ h=>h) ⟨rfl,rfl⟩) fun c t hI=>?_)
  ·obtain⟨rfl,rfl⟩:=hI;refine wpS_bind (wpS_get ?_);rw[if_pos (show(pendingOf (setPending t0 #[(0,N,0)])).size<=1 from Nat.le_refl 1)];exact wpS_pure ⟨rfl,rfl⟩
  ·obtain⟨rfl,rfl⟩:=hI;exact wpS_pure (q t0 _ hB0 rfl (D.fail t0 hB0) hu)
theorem Zir(x y:Value):keyLt' (tuples' true) x y=(do
  let xs <-Builtin.List.listItems x
  let ys <-Builtin.List.listItems y
  for ((p,q),i)in (xs.toList.zip ys.toList).zipIdx do
   if !(<-eqBool p q)then return <-oneLt' (true&&i==0) p q
  return decide (xs.size<ys.size)):=rfl
noncomputable def ZoX(x:(Value×Value)×Nat)(_:Option Bool×Unit):Sem (ForInStep (Option Bool×Unit)):=match x with
 | ((p,q),i)=>do
  let b <-eqBool p q
  if(!b)=true then do
   let r <-oneLt' (true&&i==0) p q
   pure (ForInStep.done (some r,()))
  else pure (ForInStep.yield (none,()))
theorem Zis{f:Bool}{a b:Int}{t u:Tok}{Q:Bool->Shared->Prop}(h:Q (decide (a<b)) s):wpAny (model prog w) A (oneLt' f (.int a t) (.int b u)) Q E s:=by
 cases f with
 |true=>exact oneLt_int h
 |false=>
  rw[oneLt'_eq];simp only[Bool.false_eq_true,if_false];exact Wb (HT.ZjF _ _ _ _ _ _ _ _ _ _ (wpAny_truthy_bool h))
theorem Zf2:∀{us vs:List Value}{ns ms:List Int},IntsAre us ns->IntsAre vs ms->∀(k:Nat)(Q:Option Bool×Unit->Shared->Prop),(∀b,b=HT.ZaV ns ms->Q (some b,()) s)->(HT.ZaV ns ms=decide (us.length<vs.length)->Q (none,()) s)->wpAny (model prog w) A (forIn ((us.zip vs).zipIdx k) (none,()) ZoX) Q E s
 |_,_,_,_,.nil,.nil,k,Q,_,h2=>by
  simp only[List.zip_nil_left,List.zipIdx_nil,List.forIn_nil];exact Wp (h2 rfl)
 |_,_,_,_,.nil,.cons m t hv,k,Q,_,h2=>by
  simp only[List.zip_nil_left,List.zipIdx_nil,List.forIn_nil];exact Wp (h2 (by simp[HT.ZaV]))
 |_,_,_,_,.cons n t hu,.nil,k,Q,_,h2=>by
  simp only[List.zip_nil_right,List.zipIdx_nil,List.forIn_nil];exact Wp (h2 (by simp[HT.ZaV]))
 |_,_,_,_,.cons (ns:=ns) (vs:=us) n t hu,.cons (ns:=ms) (vs:=vs) m u hv,k,Q,h1,h2=>by
  rw[List.zip_cons_cons,List.zipIdx_cons,List.forIn_cons];obtain⟨e,he,hi⟩:=HT.ZjE A s n t m u;refine Wb (Wb (he prog w _ _ ?_));cases e with
  |true=>
   have:n=m:=hi.mp rfl
   subst this;refine Wp (Zf2 hu hv (k+1) Q (fun b hb=>h1 b ?_) fun z=>h2 ?_)
   ·rw[HT.Z1,if_pos rfl];exact hb
   ·rw[HT.Z1,if_pos rfl,z];simp
  |false=>
   have:n≠m:=fun z=>by have:=hi.mpr z;cases this
   refine Wb (Zis (Wp (Wp (h1 _ ?_))));rw[HT.Z1,if_neg this]
def Zbq(h:Heap)(v:Value)(ns:List Int):Prop:=∃a o its n,v=.ref a/\h.get? a=some o/\o.cls=.type "tuple"/\o.data=.seq its n/\IntsAre its.toList ns
theorem ZeB:∀{us:List Value}{ns ms:List Int},IntsAre us ns->IntsAre us ms->ns=ms
 |_,_,_,.nil,.nil=>rfl
 |_,_,_,.cons n t h,.cons _ _ g=>by rw[ZeB h g]
theorem Zbq.uniq{h:Heap}{v:Value}{ns ms:List Int}(a:Zbq h v ns)(b:Zbq h v ms):ns=ms:=by
 obtain⟨p,o,its,n,rfl,e1,e2,e3,e4⟩:=a;obtain⟨p',o',its',n',e5,f1,f2,f3,f4⟩:=b;cases e5;rw[e1]at f1;cases f1;rw[e3]at f3;cases f3;exact ZeB e4 f4
theorem ZrD{x y:Value}{ns ms:List Int}{Q:Bool->Shared->Prop}(hx:Zbq s.heap x ns)(hy:Zbq s.heap y ms)(q:Q (HT.ZaV ns ms) s):wpAny (model prog w) A (keyLt' (tuples' true) x y) Q E s:=by
 obtain⟨a,o,its,n,rfl,e1,e2,e3,e4⟩:=hx;obtain⟨b,o',its',n',rfl,f1,f2,f3,f4⟩:=hy;rw[Zir];refine Wb (listItems_at e1 e3 (Wb (listItems_at f1 f3 ?_)));show wpAny _ _ (forIn ((its.toList.zip its'.toList).zipIdx 0) (none,()) ZoX >>= _) _ _ _;refine Wb (Zf2 e4 f4 0 _ (fun b hb=>?_) fun z=>?_)
 ·rw[hb];exact Wp q
 ·show wpAny _ _ (pure (decide (its.size<its'.size))) _ _ _;rw[show decide (its.size<its'.size)=HT.ZaV ns ms by rw[z];simp]
  exact Wp q
open Classical in
def kfH(h:Heap)(p:Keyed):List Int:=if e:∃ns,Zbq h p.1 ns then e.choose else[]
theorem Zld{h:Heap}{p:Keyed}{ns:List Int}(e:Zbq h p.1 ns):kfH h p=ns:=by
 unfold kfH;rw[dif_pos ⟨ns,e⟩];exact(Exists.choose_spec (⟨ns,e⟩:∃ns,Zbq h p.1 ns)).uniq e
structure TB(a₀:Array Keyed) (st:SortSt):Prop where
 perm:(arrOf st).Perm a₀
 kind:kindOf st=tuples' true
 fail:failedOf st=none
 pend:pendingOf st= #[]
theorem ZrE{a₀:Array Keyed}(hk:∀p∈a₀.toList,∃ns,Zbq s.heap p.1 ns):Cm (model prog w) A E s (kfH s.heap) (TB a₀) a₀.size where
 sz st h:=h.perm.size_eq
 put st xs h hp:=⟨hp.trans h.perm,h.kind,h.fail,h.pend⟩
 cmp st i j Q h hi hj q:=by
  have sz:=h.perm.size_eq;have gt:∀k,k<a₀.size->∃x p ns,(arrOf st)[k]?=some (x,p)/\Zbq s.heap x ns/\ky (kfH s.heap) (arrOf st) k=ns:=fun k kk=>by
   have kl:k<(arrOf st).size:=by lia
   have e:(arrOf st)[k]?=some (arrOf st)[k]:=getElem?_pos _ k kl;obtain⟨ns,ht⟩:=hk _ ((Array.perm_iff_toList_perm.mp h.perm).mem_iff.mp (show(arrOf st)[k]∈(arrOf st).toList by simp))
   refine⟨(arrOf st)[k].1,(arrOf st)[k].2,ns,e,ht,?_⟩;unfold ky;rw[e];exact Zld ht
  obtain⟨x,p,ns,e1,t1,k1⟩:=gt i hi;obtain⟨y,p',ms,e2,t2,k2⟩:=gt j hj;rw[k1,k2]at q;rw[ltAt'_eq];refine wpS_bind (wpS_get ?_);show wpS _ _ _ _ (elem' (arrOf st) i >>= fun x=>elem' (arrOf st) j >>= fun y=>lt' x y) Q st;rw[elem'_eq,elem'_eq,e1,e2];refine wpS_bind (wpS_pure (wpS_bind (wpS_pure ?_)));rw[lt'_eq];refine wpS_bind (wpS_get ?_);rw[h.kind];exact wpS_bind (wpS_lift (wpAny_attempt (ZrD t1 t2 ⟨rfl,wpS_pure q⟩)))
theorem ZrF{a₀:Array Keyed}:Cn (TB a₀):=⟨fun _ h=>h.fail,fun _ h=>h.pend⟩
theorem ZmG{v:Value}{n:Int}{ns:List Int}{Q:Option Value->Shared->Prop}(h:Zbq s.heap v (n::ns))(q:∀t,Q (some (.int n t)) s):wpAny (model prog w) A (firstOfTuple' v) Q E s:=by
 obtain⟨a,o,its,m,rfl,e1,e2,e3,e4⟩:=h;have e:firstOfTuple' (.ref a)=(do
  if(<-typeOf (.ref a)) != .type "tuple" then return none
  return (<-Builtin.List.listItems (.ref a))[0]?):=rfl
 rw[e];refine Wb (wpAny_typeOf ⟨o,e1,e2⟩ ?_);rw[if_neg (by decide)]
 refine Wb (listItems_at e1 e3 (Wp ?_));cases its with
 |mk l=>
  cases e4 with
  |cons n t h=>exact q t
theorem Zf3:∀{vs:List Value},(∀v∈vs,∃n ns,Zbq s.heap v (n::ns))->∀(Q:List (Option Value)->Shared->Prop),(∀us ns,IntsAre us ns->us.length=vs.length->Q (us.map some) s)->wpAny (model prog w) A (vs.mapM firstOfTuple') Q E s
 |[],_,Q,q=>by
  rw[List.mapM_nil];exact Wp (q [] [] .nil rfl)
 |v::vs,h,Q,q=>by
  obtain⟨n,ns,hv⟩:=h v (by simp)
  rw[List.mapM_cons];refine Wb (ZmG hv fun t=>Wb (Zf3 (fun x hx=>h x (List.mem_cons_of_mem _ hx)) _ fun us ms hi hl=>Wp ?_));exact q (.int n t::us) (n::ms) (.cons n t hi) (by simp[hl])
theorem ZoY{vs:List Value}{Q:SortKind->Shared->Prop}(h:∀v∈vs,∃n ns,Zbq s.heap v (n::ns))(ne:vs≠[])(q:Q (tuples' true) s):wpAny (model prog w) A (keyKind' vs.toArray) Q E s:=by
 rw[keyKind'_eq,List.mapM_toArray];simp only[map_eq_pure_bind,bind_assoc,pure_bind];refine Wb (Zf3 h _ fun us ns hi hl=>?_);have a1:((us.map some).toArray.all fun x=>x.isSome)=true:=by simp
 rw[if_pos a1];refine Wb (wpAny_rule ?_);have a2:(us.map some).toArray.filterMap id=us.toArray:=by simp
 rw[a2,oneTypeOnly'_eq,List.mapM_toArray,mapM_typeOf_ints hi];cases us with
 |nil=>exact absurd (List.eq_nil_of_length_eq_zero hl.symm) ne
 |cons u us=>
  simp only[map_pure,pure_bind];have b0:(List.map (fun _=>Value.type "int") (u::us)).toArray[0]?=some (Value.type "int"):=by simp
  have b1:((List.map (fun _=>Value.type "int") (u::us)).toArray.all fun x=>x==Value.type "int")=true:=by
   rw[List.all_toArray,List.all_map,List.all_eq_true];exact fun _ _=>rfl
  rw[b0];show wpAny _ _ (pure (if((List.map (fun _=>Value.type "int") (u::us)).toArray.all fun x=>x==Value.type "int")=true then some (Value.type "int")else none) >>= _) _ _ _
  rw[if_pos b1];exact Wb (Wp (Wp q))
end
end ST
namespace ST
def ins(x:List Int):List (List Int)->List (List Int)
 |[]=>[x]
 |y::r=>if lt y x=true then y::ins x r else x::y::r
def srt:List (List Int)->List (List Int)
 |[]=>[]
 |x::r=>ins x (srt r)
theorem Zdy(x:List Int):∀l,(ins x l).Perm (x::l)
 |[]=>.refl _
 |y::r=>by
  unfold ins;split
  ·exact((Zdy x r).cons y).trans (.swap x y r)
  ·exact .refl _
theorem ZbD:∀l,(srt l).Perm l
 |[]=>.refl _
 |x::r=>(Zdy x (srt r)).trans ((ZbD r).cons x)
theorem Zle(x:List Int):∀l,l.Pairwise le->(ins x l).Pairwise le
 |[],_=>List.pairwise_singleton _ _
 |y::r,h=>by
  obtain⟨h1,h2⟩:=List.pairwise_cons.mp h;unfold ins;split
  ·rename_i c;refine List.pairwise_cons.mpr ⟨fun z hz=>?_,Zle x r h2⟩;rcases List.mem_cons.mp ((Zdy x r).mem_iff.mp hz)with rfl|hz
   ·exact Zio c
   ·exact h1 z hz
  ·rename_i c;have c:le x y:=by unfold le;simpa using c
   refine List.pairwise_cons.mpr ⟨fun z hz=>?_,h⟩;rcases List.mem_cons.mp hz with rfl|hz
   ·exact c
   ·exact ZgL c (h1 z hz)
theorem Zit:∀l,(srt l).Pairwise le
 |[]=>.nil
 |x::r=>Zle x _ (Zit r)
theorem Zkn(hp:a.Perm b)(h:a.Pairwise le):a=srt b:=
 List.Perm.eq_of_pairwise (fun x y _ _ h1 h2=>ZeA h2 h1) h (Zit b) (hp.trans (ZbD b).symm)
end ST
namespace DL
open PyProof.Rows L2 PySem.W
theorem Zfe{F:α->β->Prop}{us us':List β}(hp:us'.Perm us):∀{xs:List α},Paired F xs us->∃xs',xs'.Perm xs/\Paired F xs' us':=by
 induction hp with
 |nil=>intro xs h;exact⟨xs,.refl _,h⟩
 |@cons a l1 l2 h ih=>
  intro xs r;cases r with
  |cons r1 r2=>
   obtain⟨xs',p1,p2⟩:=ih r2;exact⟨_::xs',p1.cons _,.cons r1 p2⟩
 |swap a b l=>
  intro xs r;cases r with
  |cons r1 r2=>
   cases r2 with
   |cons r2 r3=>exact⟨_::_::_,.swap _ _ _,.cons r2 (.cons r1 r3)⟩
 |trans h1 h2 i1 i2=>
  intro xs r;obtain⟨x1,p1,q1⟩:=i2 r;obtain⟨x2,p2,q2⟩:=i1 q1;exact⟨x2,p2.trans p1,q2⟩
def Ztj(K:Fg)(H:Hp)(x:V)(ns:List Int):Prop:=∃q,x=.ref q/\SqT K H q (ns.map V.int)
section
variable {X:Cx}
theorem Zf4(I:Inv X pins σ H s)(h:Ztj X.K H x ns)(r:ZR x u):ST.Zbq s.heap u ns:=by
 obtain⟨q,rfl,hq⟩:=h;cases r;obtain⟨its,r2,⟨o,k1,k2,n,k3⟩,_⟩:=I.tuple hq;exact⟨q,o,its.toArray,n,rfl,k1,k2,k3,by simpa using Zgy r2⟩
theorem Ziu:bootBuiltins "sorted"=some (.builtin "sorted"):=by decide +kernel
def Zlf(ns:List Int):D:=.tup (ns.map D.int)
theorem ZbE:∀a:List Int,Zfa (a.map D.int)=some a
 |[]=>rfl
 |i::r=>by rw[List.map_cons,Zfa,ZbE r]
theorem Zko(h:Zlf a=Zlf b):a=b:=by
 have:Zfa (a.map D.int)=Zfa (b.map D.int):=by unfold Zlf at h;rw[D.tup.inj h]
 rw[ZbE,ZbE]at this;exact Option.some.inj this
theorem Ziv(r:Rep X.K H α v (Zlf ns)):Ztj X.K H v ns:=by
 cases r with
 |tup hp rp=>
  have:=Zet rp (ZbE ns)
  subst this;exact⟨_,rfl,SqT.of hp⟩
end
end DL
namespace ST
open PyProof.Rows
section
variable {vs:List Value}
theorem ZmH{st:SortSt}(ho:s.heap.get? a=some (seqObj "list" #[] e1))(hk:s.heap.get? kS=some (seqObj "list" keys e))(hka:kS≠a)(hsz:keys.size=vs.length)(h64:vs.length<64)(hp:(arrOf st).Perm (keys.zip vs.toArray))(hfl:failedOf st=none)(h:∀h' c,(∀b o,b≠a->b≠kS->s.heap.get? b=some o->h'.get? b=some o)->(∃o,h'.get? kS=some o)->h'.get? a=some (seqObj "list" ((arrOf st).map (·.2)) c)->P (.done (.ret .none)) {s with heap:=h'}):
  wpAny (model prog w) A (ksk_tail a false e1 (.ref kS) st) P E s:=by
 have hsz2:(arrOf st).size=vs.length:=by rw[hp.size_eq,Array.size_zip,hsz,List.size_toArray,Nat.min_self]
 have s1:=Heap.SameBut.update s.heap kS (Obj.mapSeq fun _=>(#[]:Array Value));have na1:(s.heap.update kS (Obj.mapSeq fun _=>(#[]:Array Value))).get? a=some (seqObj "list" #[] e1):=(s1.2 a hka.symm).trans ho;obtain⟨ck,hck⟩:∃ck,(s.heap.update kS (Obj.mapSeq fun _=>(#[]:Array Value))).get? kS=some (seqObj "list" #[] ck):=⟨_,get?_update_seq hk fun _=> #[]⟩;have s2:=Heap.SameBut.update (s.heap.update kS (Obj.mapSeq fun _=>(#[]:Array Value))) a (Obj.mapSeq fun _=>(arrOf st).map (·.2));obtain⟨c2,hc2⟩:∃c2,((s.heap.update kS (Obj.mapSeq fun _=>(#[]:Array Value))).update a (Obj.mapSeq fun _=>(arrOf st).map (·.2))).get? a=some (seqObj "list" ((arrOf st).map (·.2)) c2):=⟨_,get?_update_seq na1 fun _=>(arrOf st).map (·.2)⟩;unfold ksk_tail
 try dsimp only
 refine Wb (listUpdate_at hk rfl ?_ (by rw[hsz,sizeLine_eq];lia) (Nat.zero_le _))
 refine Wb (wpAny_letGo ?_);refine Wb (seqEpoch_at na1 rfl ?_);simp only[Bool.false_eq_true,if_false];refine Wb (listUpdate_at na1 rfl ?_ (Nat.zero_le _) (by rw[Array.size_map,hsz2,sizeLine_eq];lia))
 rw[hfl];simp only[bne_self_eq_false,Bool.false_eq_true,if_false];refine Wp (h _ c2 (fun b o n1 n2 q=>?_) ⟨_,(s2.2 kS hka).trans hck⟩ hc2);exact(s2.2 b n1).trans ((s1.2 b n2).trans q)
theorem ZoZ(ho:s.heap.get? a=some (seqObj "list" #[] e1))(hk:s.heap.get? kS=some (seqObj "list" keys e))(hka:kS≠a)(hsz:keys.size=vs.length)(h64:vs.length<64)(hu:∀u∈keys.toList,∃n ns,Zbq s.heap u (n::ns))(h:∀(out:List (Value×Value)) h' c,out.Perm (keys.toList.zip vs)->(∀i j (hi:i<out.length) (hj:j<out.length),i<=j->∀ns ms,Zbq s.heap out[i].1 ns->Zbq s.heap out[j].1 ms->le ns ms)->(∀b o,b≠a->b≠kS->s.heap.get? b=some o->h'.get? b=some o)->(∃o,h'.get? kS=some o)->h'.get? a=some (seqObj "list" (out.map (·.2)).toArray c)->P (.done (.ret .none)) {s with heap:=h'}):
  wpAny (model prog w) A (ksk_end a false vs.toArray e1 (.ref kS) keys) P E s:=by
 have hzs:(keys.zip vs.toArray).size=vs.length:=by rw[Array.size_zip,hsz,List.size_toArray,Nat.min_self]
 have fin:∀st':SortSt,(arrOf st').Perm (keys.zip vs.toArray)->failedOf st'=none->(∀i j,i<=j->j<vs.length->le (ky (kfH s.heap) (arrOf st') i) (ky (kfH s.heap) (arrOf st') j))->wpAny (model prog w) A (ksk_tail a false e1 (.ref kS) st') P E s:=fun st' hp hf hs=>by
  refine ZmH ho hk hka hsz h64 hp hf fun h' c k1 k2 k3=>?_;have hl:(arrOf st').toList.Perm (keys.toList.zip vs):=by
   have:=Array.perm_iff_toList_perm.mp hp
   rwa [ksk_zip]at this
  have lz:(arrOf st').size=vs.length:=by rw[hp.size_eq,hzs]
  refine h (arrOf st').toList h' c hl (fun i j hi hj ij ns ms t1 t2=>?_) k1 k2 (by
   have:(arrOf st').map (·.2)=((arrOf st').toList.map (·.2)).toArray:=by apply Array.toList_inj.mp;simp
   rw[<-this];exact k3)
  have hi':i<(arrOf st').size:=by simpa using hi
  have hj':j<(arrOf st').size:=by simpa using hj
  have kk:∀k (hk:k<(arrOf st').size) (ns:List Int),Zbq s.heap ((arrOf st')[k]).1 ns->ky (kfH s.heap) (arrOf st') k=ns:=fun k hk ns ht=>by
   unfold ky;rw[getElem?_pos (arrOf st') k hk];exact Zld ht
  have q:=hs i j ij (by lia)
  rw[kk i hi' ns (by simpa using t1),kk j hj' ms (by simpa using t2)]at q
  exact q
 unfold ksk_end;simp only[Bool.false_eq_true,if_false];by_cases h2:vs.toArray.size<2
 ·rw[if_pos h2,if_pos h2];refine Wb (Wp ?_);rw[StateT.run_pure];refine Wb (Wp ?_);rw[List.size_toArray]at h2;exact fin (SortSt.mk' general' (keys.zip vs.toArray) #[] 7 none) (Array.Perm.refl _) rfl fun i j ij jn=>by rw[show i=j by lia];exact Zdx _
 ·rw[if_neg h2,if_neg h2];rw[List.size_toArray]at h2;have ek:keys=keys.toList.toArray:=by simp
  have kw:wpAny (model prog w) A (keyKind' keys) (fun k s'=>k=tuples' true/\s'=s) E s:=by
   rw[ek];exact ZoY hu (fun z=>by have:=congrArg List.length z;simp at this;rw[this]at hsz;simp at hsz;lia) ⟨rfl,rfl⟩
  refine Wb (wpAny_mono kw (fun k s' hk'=>?_) fun _ _ e=>e);obtain⟨rfl,rfl⟩:=hk';refine Wb (wpAny_mono (ZoW (N:=(keys.zip vs.toArray).size) (st:=SortSt.mk' (tuples' true) (keys.zip vs.toArray) #[] 7 none) (Q:=fun _ t'=>∃t,TB (keys.zip vs.toArray) t/\arrOf t'=arrOf t/\failedOf t'=none/\Up (kfH s'.heap) (arrOf t) (keys.zip vs.toArray).size) (ZrE fun p hp=>?_) ZrF (by rw[hzs];lia) (by rw[hzs];exact h64) ⟨Array.Perm.refl _,rfl,rfl,rfl⟩ fun t t' b1 b2 b3 b4=>⟨t,b1,b2,b3,b4⟩) ?_ fun _ _ e=>e)
  ·rw[ksk_zip]at hp;obtain⟨x,y⟩:=p;obtain⟨n,ns,ht⟩:=hu x (List.of_mem_zip hp).1;exact⟨_,ht⟩
  ·rintro⟨⟨⟩,t'⟩ s2 ⟨rfl,t,tb,ea,ef,hup⟩;rw[hzs]at hup;exact fin t' (by rw[ea];exact tb.perm) ef (by rw[ea];exact hup)
theorem ZmI(J:List Value->Shared->Prop)(ho:s.heap.get? a=some (seqObj "list" #[] e1))(hk:s.heap.get? kS=some (seqObj "list" #[] 0))(hka:kS≠a)(h64:vs.length<64)(hJ:J [] s)(turn:∀i v kL s' na ea nk ek,vs[i]?=some v->kL.length=i->J kL s'->s'.heap.get? a=some (seqObj "list" na ea)->s'.heap.get? kS=some (seqObj "list" nk ek)->wpAny (model prog w) A (call f [v]) (fun u s''=>J (kL++[u]) s''/\s''.heap.get? a=some (seqObj "list" na ea)/\s''.heap.get? kS=some (seqObj "list" nk ek)) (fun _ _=>False) s')(upd:∀kL s' h',J kL s'->(∀b o,b≠kS->s'.heap.get? b=some o->h'.get? b=some o)->(∃o,h'.get? kS=some o)->J kL {s' with heap:=h'})(key:∀kL s',J kL s'->∀u∈kL,∃n ns,Zbq s'.heap u (n::ns))(h:∀kL s' (out:List (Value×Value)) h' c,J kL s'->kL.length=vs.length->out.Perm (kL.zip vs)->(∀i j (hi:i<out.length) (hj:j<out.length),i<=j->∀ns ms,Zbq s'.heap out[i].1 ns->Zbq s'.heap out[j].1 ms->le ns ms)->(∀b o,b≠a->b≠kS->s'.heap.get? b=some o->h'.get? b=some o)->(∃o,h'.get? kS=some o)->h'.get? a=some (seqObj "list" (out.map (·.2)).toArray c)->P (.done (.ret .none)) {s' with heap:=h'}) :
  wpAny (model prog w) A (ksk_rest a f false vs.toArray e1 (.ref kS)) P E s:=by
 unfold ksk_rest;refine Wb (wpAny_rule ?_)
 first
  |rw[List.forIn_toArray]
  | (rw[<-Array.forIn_toList];simp only[List.toList_toArray])
  |rw[<-Array.forIn_toList]
 refine Wb (ksk_fold (fun i s'=>∃kA e,J kA.toList s'/\s'.heap.get? a=some (seqObj "list" #[] e1)/\s'.heap.get? kS=some (seqObj "list" kA e)/\kA.size=i) vs 0 s ⟨#[],0,hJ,ho,hk,rfl⟩ ?step ?done)
 case step=>
  rintro j x s' hx ⟨kA,e,hJ',ho',hk',hz⟩;rw[Nat.zero_add]at hz;have hj:j<vs.length:=(List.getElem?_eq_some_iff.mp hx).1;refine Wb (wpAny_attempt (wpAny_mono (turn j x kA.toList s' _ _ _ _ hx (by simpa using hz) hJ' ho' hk') (fun u s'' he=>?_) fun _ _ hF=>hF.elim))
  obtain⟨g1,g2,g3⟩:=he
  try dsimp only
  have s1:=Heap.SameBut.update s''.heap kS (Obj.mapSeq (·.push u));obtain⟨c2,hc2⟩:∃c2,(s''.heap.update kS (Obj.mapSeq (·.push u))).get? kS=some (seqObj "list" (kA.push u) c2):=⟨_,get?_update_seq g3 (·.push u)⟩;refine Wb (listUpdate_at g3 rfl ?_ (by rw[hz,sizeLine_eq];lia) (Nat.le_trans (Nat.le_of_eq (Array.size_push ..)) (by rw[sizeLine_eq];lia)))
  refine Wp ⟨rfl,kA.push u,c2,?_,(s1.2 a hka.symm).trans g2,hc2,by rw[Array.size_push,hz];lia⟩
  have ea:(kA.push u).toList=kA.toList++[u]:=by simp
  rw[ea];exact upd _ _ _ g1 (fun b o nb q=>(s1.2 b nb).trans q) ⟨_,hc2⟩
 case done=>
  rintro s' ⟨kA,e,hJ',ho',hk',hz⟩;rw[Nat.zero_add]at hz
  try dsimp only
  refine Wb (listItems_at hk' rfl ?_);exact ZoZ ho' hk' hka hz h64 (key _ _ hJ') fun out h' c k1 k2 k3 k4 k5=>h kA.toList s' out h' c hJ' (by simpa using hz) k1 k2 k3 k4 k5
theorem ZmJ(J:Addr->List Value->Shared->Prop)(ho:s.heap.get? a=some (seqObj "list" vs.toArray n))(h64:vs.length<64)(hJ:∀kS h1,s.heap.objs.size<=kS->(∀b o,b≠a->s.heap.get? b=some o->h1.get? b=some o)->(∃o,h1.get? a=some o)->(∃o,h1.get? kS=some o)->J kS [] {s with heap:=h1})(turn:∀kS i v kL s' na ea nk ek,vs[i]?=some v->kL.length=i->J kS kL s'->s'.heap.get? a=some (seqObj "list" na ea)->s'.heap.get? kS=some (seqObj "list" nk ek)->wpAny (model prog w) A (call f [v]) (fun u s''=>J kS (kL++[u]) s''/\s''.heap.get? a=some (seqObj "list" na ea)/\s''.heap.get? kS=some (seqObj "list" nk ek)) (fun _ _=>False) s')(upd:∀kS kL s' h',J kS kL s'->(∀b o,b≠kS->s'.heap.get? b=some o->h'.get? b=some o)->(∃o,h'.get? kS=some o)->J kS kL {s' with heap:=h'})(key:∀kS kL s',J kS kL s'->∀u∈kL,∃n ns,Zbq s'.heap u (n::ns))(h:∀kS kL s' (out:List (Value×Value)) h' c,J kS kL s'->kL.length=vs.length->out.Perm (kL.zip vs)->(∀i j (hi:i<out.length) (hj:j<out.length),i<=j->∀ns ms,Zbq s'.heap out[i].1 ns->Zbq s'.heap out[j].1 ms->le ns ms)->(∀b o,b≠a->b≠kS->s'.heap.get? b=some o->h'.get? b=some o)->(∃o,h'.get? kS=some o)->h'.get? a=some (seqObj "list" (out.map (·.2)).toArray c)->P (.done (.ret .none)) {s' with heap:=h'}) :
  wpAny (model prog w) A (ksk_tree a f false) P E s:=by
 have ha:a<s.heap.objs.size:=Hz ho;have s1:=Heap.SameBut.update s.heap a (Obj.mapSeq fun _=>(#[]:Array Value));obtain⟨e1,ho1⟩:∃e1,(s.heap.update a (Obj.mapSeq fun _=>(#[]:Array Value))).get? a=some (seqObj "list" #[] e1):=⟨_,get?_update_seq ho fun _=> #[]⟩;have hkS:((s.heap.update a (Obj.mapSeq fun _=>(#[]:Array Value))).push (seqObj "tuple" vs.toArray 0)).objs.size=s.heap.objs.size+1:=by rw[size_push',Heap.size_update]
 unfold ksk_tree;refine Wb (listItems_at ho rfl ?_);refine Wb (listUpdate_at ho rfl ?_ (by rw[List.size_toArray,sizeLine_eq];lia) (Nat.zero_le _))
 refine Wb (seqEpoch_at ho1 rfl ?_);refine Wb (wpAny_newTuple ?_ (by show vs.length<=_;rw[sizeLine_eq];lia))
 refine Wb (wpAny_newList ?_ (Nat.zero_le _));refine wpAny_holding ?_;have hn:=Heap.get?_push_size ((s.heap.update a (Obj.mapSeq fun _=>(#[]:Array Value))).push (seqObj "tuple" vs.toArray 0)) (o:=seqObj "list" #[] 0) rfl;exact ZmI (s:={s with heap:=((s.heap.update a (Obj.mapSeq fun _=>(#[]:Array Value))).push (seqObj "tuple" vs.toArray 0)).push (seqObj "list" #[] 0)}) (kS:=((s.heap.update a (Obj.mapSeq fun _=>(#[]:Array Value))).push (seqObj "tuple" vs.toArray 0)).objs.size) (J _) (Hq _ (Hq _ ho1)) hn (by rw[hkS];exact Nat.ne_of_gt (Nat.lt_succ_of_lt ha)) h64
  (hJ _ _ (by rw[hkS];exact Nat.le_succ _) (fun b o nb q=>Hq _ (Hq _ ((s1.2 b nb).trans q))) ⟨_,Hq _ (Hq _ ho1)⟩ ⟨_,hn⟩) (turn _) (upd _) (key _) (h _)
theorem Ziw(J:Addr->Addr->List Value->Shared->Prop)(hl:s.heap.IsList l vs.toArray)(h64:vs.length<64)(hJ:∀a kS h1,s.heap.objs.size<=a->s.heap.objs.size<=kS->kS≠a->(∀b o,s.heap.get? b=some o->h1.get? b=some o)->(∃o,h1.get? a=some o)->(∃o,h1.get? kS=some o)->J a kS [] {s with heap:=h1})(turn:∀a kS i v kL s' na ea nk ek,vs[i]?=some v->kL.length=i->J a kS kL s'->s'.heap.get? a=some (seqObj "list" na ea)->s'.heap.get? kS=some (seqObj "list" nk ek)->wpAny (model prog w) A.in1.in1 (call (.ref fq) [v]) (fun u s''=>J a kS (kL++[u]) s''/\s''.heap.get? a=some (seqObj "list" na ea)/\s''.heap.get? kS=some (seqObj "list" nk ek)) (fun _ _=>False) s')(upd:∀a kS kL s' h',J a kS kL s'->(∀b o,b≠kS->s'.heap.get? b=some o->h'.get? b=some o)->(∃o,h'.get? kS=some o)->J a kS kL {s' with heap:=h'})(key:∀a kS kL s',J a kS kL s'->∀u∈kL,∃n ns,Zbq s'.heap u (n::ns))(h:∀a kS kL s' (out:List (Value×Value)) h' c,J a kS kL s'->kL.length=vs.length->out.Perm (kL.zip vs)->(∀i j (hi:i<out.length) (hj:j<out.length),i<=j->∀ns ms,Zbq s'.heap out[i].1 ns->Zbq s'.heap out[j].1 ms->le ns ms)->(∀b o,b≠a->b≠kS->s'.heap.get? b=some o->h'.get? b=some o)->(∃o,h'.get? kS=some o)->h'.get? a=some (seqObj "list" (out.map (·.2)).toArray c)->Q (.ref a) {s' with heap:=h'}) :
  wpAny (model prog w) A (call (.builtin "sorted") [.ref l] [(Str.ofString "key",.ref fq)]) Q E s:=by
 refine call_function_entry_kw kind_sorted plain_sorted entry_sorted (ksk_s1 _ _) ?_;unfold Builtin.«sorted»;refine Wb (m:=checkCount "sorted" 1 1 _) (Wp ?_);refine Wb (collect_list hl ?_ (by rw[sizeLine_eq];lia))
 refine Wb (wpAny_newList ?_ (by rw[sizeLine_eq];lia))
 have hsz:((s.heap.push (seqObj "list" #[] 0)).update s.heap.objs.size (Obj.mapSeq (· ++ vs.toArray))).objs.size=s.heap.objs.size+1:=by
  rw[Heap.size_update,size_push']
 have hoL:(((s.heap.push (seqObj "list" #[] 0)).update s.heap.objs.size (Obj.mapSeq (· ++ vs.toArray))).push (seqObj "list" vs.toArray 0)).get? (s.heap.objs.size+1)=some (seqObj "list" vs.toArray 0):=by
  rw[<-hsz];exact Heap.get?_push_size _ rfl
 have keep:∀b o,s.heap.get? b=some o->(((s.heap.push (seqObj "list" #[] 0)).update s.heap.objs.size (Obj.mapSeq (· ++ vs.toArray))).push (seqObj "list" vs.toArray 0)).get? b=some o:=fun b o q=>by
  have hlt:b<s.heap.objs.size:=Hz q;rw[Heap.get?_push_ne _ _ _ (by rw[hsz];exact Nat.ne_of_lt (Nat.lt_succ_of_lt hlt)),Heap.get?_update_ne _ _ _ _ (Nat.ne_of_lt hlt),Heap.get?_push_ne _ _ _ (Nat.ne_of_lt hlt)]
  exact q
 show wpAny _ _ _ _ _ {s with heap:=((s.heap.push (seqObj "list" #[] 0)).update s.heap.objs.size (Obj.mapSeq (· ++ vs.toArray))).push (seqObj "list" vs.toArray 0)};rw[hsz];refine Wb (wpAny_holding (wpAny_call_entry_kw slot_list_sort ⟨_,hoL,rfl⟩ entry_list_sort ?body (ksk_l1 _ _)))
 case body=>
  show wpAny (model prog w) A.in1.in1 (Builtin.«list.sort» ⟨[.ref (s.heap.objs.size+1)],[(Str.ofString "key",.ref fq)]⟩) _ _ _;rw[ksk_t1];have h2:(((s.heap.push (seqObj "list" #[] 0)).update s.heap.objs.size (Obj.mapSeq (· ++ vs.toArray))).push (seqObj "list" vs.toArray 0)).objs.size=s.heap.objs.size+2:=by rw[size_push',hsz]
  refine ZmJ (J (s.heap.objs.size+1)) (s:={s with heap:=((s.heap.push (seqObj "list" #[] 0)).update s.heap.objs.size (Obj.mapSeq (· ++ vs.toArray))).push (seqObj "list" vs.toArray 0)}) hoL h64
   (fun kS h1 k1 k2 k3 k4=>by
    have k1':s.heap.objs.size+2<=kS:=by rw[<-h2];exact k1
    exact hJ _ kS h1 (Nat.le_succ _) (Nat.le_trans (Nat.le_add_right _ 2) k1') (Nat.ne_of_gt k1') (fun b o q=>k2 b o (Nat.ne_of_lt (Nat.lt_succ_of_lt (Hz q))) (keep b o q)) k3 k4) (turn _) (upd _) (key _) fun kS kL s' out h' c g1 g2 g3 g4 g5 g6 g7=>⟨_,rfl,?_⟩
  exact Wp ⟨_,rfl,h _ kS kL s' out h' c g1 g2 g3 g4 g5 g6 g7⟩
end
end ST
namespace DL
open PyProof.Rows L2
def ZnE(K:Fg)(v:Value)(c P:Addr):Prop:=v=.ref c/\c≠P/\∃(o:Obj) (vs:Array Value) (file:Str) (tf:Tok) (flags:Int) (tg:Tok) (inF:Bool) (text:Int) (tt:Tok),K.lookup c=some o/\o.cls=.type "code"/\o.data=.fields vs/\vs[11]?=some (.ref P)/\vs.getD 11 .none=.ref P/\vs.getD 18 .none=.str file tf/\vs.getD 7 .none=.int flags tg/\vs.getD 9 .none=.bool inF/\vs.getD 10 .none=.int text tt
def ZrG(K:Fg):Prop:=∃bm o,PySem.W.nsIn K mainGlobals "__builtins__"=some (some (.ref bm))/\K.lookup bm=some o/\o.cls=.type "module"/\o.dict=some builtinsNs/\o.data=.plain/\bm≠builtinsNs/\bm≠mainGlobals
noncomputable def Zo0(c:Addr)(vs:Array Value):Bool:=match(vs[11]? :Option Value)with
 |some (.ref P)=>(match vs.getD 11 .none with
  |.ref P'=>(match vs.getD 18 .none with
   |.str _ _=>(match vs.getD 7 .none with
    |.int _ _=>(match vs.getD 9 .none with
     |.bool _=>(match vs.getD 10 .none with
      |.int _ _=>decide (P=P')&&decide (c≠P)
      |_=>false)
     |_=>false)
    |_=>false)
   |_=>false)
  |_=>false)
 |_=>false
def ZeC(K:Fg)(v:Value):Bool:=match v with
 |.ref c=>(match K.lookup c with
  |some ⟨.type n,_,.fields vs,_⟩=>decide (n="code")&&Zo0 c vs
  |_=>false)
 |_=>false
theorem Zkp{K:Fg}(h:ZeC K v=true):∃c P,ZnE K v c P:=by
 unfold ZeC at h
 split at h
 ·rename_i c
  split at h
  ·rename_i n od vs sl e;simp only[Bool.and_eq_true,decide_eq_true_eq]at h;obtain⟨rfl,h⟩:=h;unfold Zo0 at h
   split at h
   ·rename_i P e1
    split at h
    ·rename_i P' e2
     split at h
     ·rename_i f tf e3
      split at h
      ·rename_i fl tg e4
       split at h
       ·rename_i b e5
        split at h
        ·rename_i tx tt e6;simp only[Bool.and_eq_true,decide_eq_true_eq]at h;obtain⟨rfl,ne⟩:=h;exact⟨c,P,rfl,ne,_,vs,_,_,_,_,_,_,_,e,rfl,rfl,e1,e2,e3,e4,e5,e6⟩
        ·cases h
       ·cases h
      ·cases h
     ·cases h
    ·cases h
   ·cases h
  ·cases h
 ·cases h
theorem ZnE.tb{K:Fg}(h:ZnE K v c P):TbP K P:=by
 obtain⟨_,_,o,vs,_,_,_,_,_,_,_,e1,e2,e3,e4,_⟩:=h;exact⟨c,o,vs,e1,e2,e3,e4⟩
theorem ZnE.hd{K:Fg}(x:ZnE K v c P)(k:K.In h):PySem.W.CodeHd h c P:=by
 obtain⟨_,ne,o,vs,file,tf,flags,tg,inF,text,tt,e1,e2,e3,e4,e5,e6,e7,e8,e9⟩:=x;exact⟨o,vs,file,tf,flags,tg,inF,text,tt,k _ _ e1,e2,e3,e4,e5,e6,e7,e8,e9,ne⟩
theorem ZeD{pos:Pos}{c:Value}{r:List Value}:∀(l:List Value),TriplesOk l->codeAmong pos (l++r)=some c->codeAmong pos l=some c\/codeAmong pos r=some c
 |[],_,h=>.inr h
 |.int i t::.int j u::x::rest,ht,h=>by
  have ih:=ZeD (pos:=pos) (c:=c) (r:=r) rest ht;simp only[List.cons_append,codeAmong]at h ⊢;by_cases q:(i == ↑pos.line&&j == ↑pos.col)=true
  ·rw[if_pos q]at h ⊢;exact .inl h
  ·rw[if_neg q]at h ⊢;exact ih h
 |[.int _ _],ht,_=>ht.elim
 |[.int _ _,.int _ _],ht,_=>ht.elim
theorem ZeE{pos:Pos}{c:Value}{r:List Value}:∀(l:List Value),TriplesOk l->codeAmong pos l=some c->codeAmong pos (l++r)=some c
 |[],_,h=>by cases h
 |.int i t::.int j u::x::rest,ht,h=>by
  have ih:=ZeE (pos:=pos) (c:=c) (r:=r) rest ht;simp only[List.cons_append,codeAmong]at h ⊢;by_cases q:(i == ↑pos.line&&j == ↑pos.col)=true
  ·rw[if_pos q]at h ⊢;exact h
  ·rw[if_neg q]at h ⊢;exact ih h
 |[.int _ _],ht,_=>ht.elim
 |[.int _ _,.int _ _],ht,_=>ht.elim
theorem ZcD{r:List Value}:∀(l:List Value),TriplesOk l->TriplesOk r->TriplesOk (l++r)
 |[],_,h=>h
 |.int i t::.int j u::x::rest,ht,h=>ZcD rest ht h
 |[.int _ _],ht,_=>ht.elim
 |[.int _ _,.int _ _],ht,_=>ht.elim
noncomputable abbrev Zju(qual:Str)(params:Arguments)(body:Expr)(scope:Scope)(cl:List (Str×Addr))(pm:Value)(c':Addr)(ctv:Value):Obj:=PySem.W.kla_obj "<lambda>" qual params body scope cl pm c' ctv
theorem ZrH(hP:H P=some (.tbl ps))(hc:H c'=none)(e:∀b,b≠P->b≠c'->H' b=H b):(∀K α,Ext K H H' α α)/\∀K α M,HR K H α M->HR K H' α M:=by
 have k:∀b u,H b=some u->(∀q,u≠ .tbl q)->H' b=some u:=fun b u q nt=>by
  rw[e b (fun z=>by subst z;rw[hP]at q;cases q;exact nt _ rfl) (ZW q hc)]
  exact q
 have ex:∀K α,Ext K H H' α α:=fun K α=>by
  refine⟨fun p xs q=>k p _ q (fun _ z=>by cases z),fun p xs q=>?_,fun p C xs q=>?_,fun p j q=>?_,fun p o u q=>k p _ q (fun _ z=>by cases z),[],(List.append_nil _).symm⟩
  ·unfold SqF at q ⊢;rcases q with⟨o,q⟩|q
   ·exact .inl ⟨o,k p _ q (fun _ z=>by cases z)⟩
   ·exact .inr q
  ·obtain⟨oe,u,vs,q1,q2,q3,q4,q5⟩:=q;refine⟨oe,u,vs,k p _ q1 (fun _ z=>by cases z),q2,q3,q4,?_⟩
   rcases q5 with q5|⟨dx,fs,r1,r2,r3⟩
   ·exact .inl q5
   ·exact .inr ⟨dx,fs,r1,k dx _ r2 (fun _ z=>by cases z),r3⟩
  ·have q':=q;unfold Kn at q;cases z:H p with
   |none=>rw[z]at q;cases q
   |some u=>
    have:∀t,u≠ .tbl t:=fun t y=>by subst y;rw[z]at q;cases q
    unfold Kn;rw[k p u z this,<-z];exact q'
 refine⟨ex,fun K α M hr=>⟨hr.len,hr.nd,fun n q so e1 m=>?_⟩⟩;have so':=hr.ob n q so e1 m;refine so'.mono (ex K α) ?_;cases so with
 |lst ds=>
  rcases so' with⟨_,z,_⟩|⟨_,z,_⟩|⟨_,z,_⟩|⟨_,_,_,z,_⟩|⟨_,_,_,z,_⟩|⟨_,z,_⟩<;>(rw[k q _ z (fun _ y=>by cases y)];exact z.symm)
noncomputable def Zo1(H:Hp)(P c':Addr):Prop:=∃ps pos,H P=some (.tbl ps)/\codeAmong pos ps.toList=some (.ref c')
theorem Zkq(I:Inv X pins σ H s)(hm:ZrG X.K)(hc:ZnE X.K X.env.code c P)(hcl:closureFor scope X.env=pure cl)(h:∀f c' pm ctv H' s',s.heap.objs.size<=f->Inv X (pins++[(f,Zju qual params body scope cl pm c' ctv)]) σ H' s'->Zo1 H' P c'->(∀K α,Ext K H H' α α)->(∀K α M,HR K H α M->HR K H' α M)->Q (.ref f) s'):wpAny (model X.prog X.w) X.A (makeFunction "<lambda>" qual params (.expr body) scope X.env [] [] [] pos fl) Q E s:=by
 obtain⟨ps,hP⟩:=I.ok.tb.un I.base P hc.tb;obtain⟨oP,tP,cP⟩:=I.hok P _ hP;have hg:=I.mod.glob.keeps I.bk;have ng:∀b o,X.base.get? b=some o->b≠P:=fun b o e z=>by
  have:=(I.bs b o e).2
  rw[z,hP]at this;cases this
 have hgP:mainGlobals≠P:=by
  obtain⟨o,es,ep,e,_⟩:=I.mod.glob;exact ng _ _ e
 have hb:s.heap.BuiltinsAt X.mg P:=by
  obtain⟨bm,o,e1,e2,e3,e4,e5,e6,e7⟩:=hm;exact⟨bm,o,PySem.W.mg_of I.mod.kin I.mod.glob e1,e6,e7,ng _ _ (I.mod.kin _ _ e2),I.kIn _ _ e2,e3,e4,e5⟩
 have pinf:∀{H':Hp}{s':Shared}{f:Addr}{o:Obj},Inv X pins σ H' s'->s.heap.objs.size<=f->s'.heap.get? f=some o->H' f=none->(∀v,o.data≠ .cell v)->Inv X (pins++[(f,o)]) σ H' s':=fun{H' s' f o} I' hf e n nc=>I'.pins_of fun p hp=>by
  rcases List.mem_append.mp hp with hp|hp
  ·exact I'.pin p (List.mem_append_right _ hp)
  ·rw[List.mem_singleton.mp hp];exact⟨e,n,Nat.ne_of_gt (Nat.lt_of_lt_of_le I.lt hf),I.nofs hf,nc⟩
 cases hn:codeAmong pos ps.toList with
 |some cv=>
  obtain⟨c',oc,vs,q,t,rfl,own,e1,e2,e3⟩:=cP pos cv hn;refine PySem.W.kla_makeFunctionHit hcl I.ok.glob hg hc.1 (hc.hd I.kIn) oP tP hn hb fun ctv h' tk hk hz=>?_;have kk:∀b o,s.heap.get? b=some o->(h'.push (Zju qual params body scope cl ((X.mg "__name__").getD .none) c' ctv)).get? b=some o:=fun b o e=>Hq _ (hk b o e);have I':=I.kept (t':=tk) kk;refine h _ c' _ ctv H _ hz (pinf I' hz (Heap.get?_push_size _ rfl) (I.hok.fresh hz) (fun v z=>by cases z)) ⟨ps,pos,hP,hn⟩ (fun K α=>Ext.refl) fun K α M hr=>hr
 |none=>
  refine PySem.W.kla_makeFunction hcl I.ok.glob hg hc.1 (hc.hd I.kIn) oP tP hn hgP hb fun c' ctv h' tk hx hge hlt hrec htb=>?_;obtain⟨c2,oc,vs,t,e2,hoc,hd,hv⟩:=hrec;cases e2;have hc0:H c'=none:=I.hok.fresh hge;have cP':c'≠P:=fun z=>by rw[z,hP]at hc0;cases hc0
  let H':Hp:=upd (upd H P (.tbl (ps ++ #[rawInt pos.line,rawInt pos.col,.ref c']))) c' (.own P)
  have e0:∀b,b≠P->b≠c'->H' b=H b:=fun b n1 n2=>by show upd (upd H P _) c' _ b=_;rw[Zz n2,Zz n1]
  have eP:H' P=some (.tbl (ps ++ #[rawInt pos.line,rawInt pos.col,.ref c'])):=by show upd (upd H P _) c' _ P=_;rw[Zz (Ne.symm cP'),Zs]
  have eC:H' c'=some (.own P):=Zs;have kp:∀b o,b≠P->s.heap.get? b=some o->(h'.push (Zju qual params body scope cl ((X.mg "__name__").getD .none) c' ctv)).get? b=some o:=fun b o n e=>Hq _ (hx b o n e);have nP:∀b,H b=none->b≠P:=fun b n z=>by rw[z,hP]at n;cases n
  have nC:∀b o,s.heap.get? b=some o->b≠c':=fun b o e=>Nat.ne_of_lt (Nat.lt_of_lt_of_le (Hz e) hge);have nC':∀b u,H b=some u->b≠c':=fun b u e=>Nat.ne_of_lt (Nat.lt_of_lt_of_le (I.hok.lt e) hge);have same:∀b u,H b=some u->(∀q,u≠ .tbl q)->H' b=some u:=fun b u e nt=>by
   rw[e0 b (fun z=>by subst z;rw[hP]at e;cases e;exact nt _ rfl) (nC' b u e)]
   exact e
  have tP':TriplesOk (ps ++ #[rawInt pos.line,rawInt pos.col,.ref c']).toList:=by
   rw[Array.toList_append];exact ZcD _ tP True.intro
  have hok:HOk X.prog X.w H' (h'.push (Zju qual params body scope cl ((X.mg "__name__").getD .none) c' ctv)):=fun b u e=>by
   by_cases bc:b=c'
   ·subst bc;rw[eC]at e;cases e;exact⟨_,Hq _ hoc⟩
   ·by_cases bP:b=P
    ·subst bP;rw[eP]at e;cases e;refine⟨Hq _ htb,tP',fun pos' cv z=>?_⟩;rw[Array.toList_append]at z;rcases ZeD _ tP z with z|z
     ·obtain⟨c1,o1,vs1,q1,t1,r1,r2,r3,r4⟩:=cP pos' cv z;exact⟨c1,o1,vs1,q1,t1,r1,same _ _ r2 (fun _ y=>by cases y),kp _ _ (fun y=>by rw[y,hP]at r2;cases r2) r3,r4⟩
     ·have z':(if((pos.line:Int) == ↑pos'.line&&(pos.col:Int) == ↑pos'.col)=true then some (Value.ref c')else none)=some cv:=z
      split at z'
      ·cases z';exact⟨c',oc,vs,_,t,rfl,eC,Hq _ hoc,hd,hv⟩
      ·cases z'
    ·rw[e0 b bP bc]at e;refine(I.hok b u e).stay (fun x v hx' r=>kp x v ?_ r) (fun x r=>same _ _ r (fun _ y=>by cases y)) fun x xs r=>same _ _ r (fun _ y=>by cases y)
     rcases hx' with rfl|hx'
     ·exact bP
     ·exact fun y=>by rw[y,hP]at hx';cases hx'
  have I':Inv X pins σ H' {s with heap:=h'.push (Zju qual params body scope cl ((X.mg "__name__").getD .none) c' ctv),toks:=tk}:=
   I.step (g':=s.gens) (d':=s.drawn) (t':=tk) (ch:=[]) (fun _ z=>nomatch z) (fun b o _ _ _ e n=>kp b o (nP b n) e) (fun b o _ _ _ e n=>⟨o.slots,kp b o (nP b n) e⟩) (fun b o _ e n=>by rw[e0 b (nP b n) (nC b o e)];exact n)
    (fun b o _ e=>by
     by_cases bP:b=P
     ·subst bP;exact⟨_,Hq _ htb⟩
     ·exact⟨o,kp b o bP e⟩)
    (fun b xs e=>same _ _ e (fun _ y=>by cases y)) (fun b o u e=>same _ _ e (fun _ y=>by cases y))
    (fun b q e=>by
     by_cases bP:b=P
     ·subst bP;rw[hP]at e;cases e;exact⟨_,eP⟩
     ·exact⟨#[],by rw[e0 b bP (nC' b _ e),e];simp⟩)
    (fun m hm=>(hm.extBut hx (nP _ I.free)).push _) hok I.bare
  have up:=ZrH (H':=H') hP hc0 e0;have hz:s.heap.objs.size<=h'.objs.size:=Nat.le_of_lt (Nat.lt_of_le_of_lt hge hlt);refine h _ c' _ ctv H' _ hz (pinf I' hz (Heap.get?_push_size _ rfl) ?_ (fun v z=>by cases z)) ⟨_,pos,eP,?_⟩ up.1 up.2
  ·have fr:=hok.fresh (a:=h'.objs.size+1) (by rw[size_push'];exact Nat.le_refl _)
   rw[e0 h'.objs.size (fun z=>by have:=Hz htb;rw[<-z]at this;exact Nat.lt_irrefl _ this) (Nat.ne_of_gt hlt)]
   exact I.hok.fresh hz
  ·rw[Array.toList_append];exact codeAmong_snoc _ tP hn
theorem Zff(hroom:A.depth<recursionLimit)(ho:s.heap.get? a=some o)(hd':o.data=.func fd)(hco:fd.scope.isCoroutine=false)(hgen:fd.scope.isGenerator=false)(hbody:fd.body=.expr body)(hc:fd.code=.ref c)(hoc:s.heap.get? c=some oc)(hdc:oc.data=.fields vs)(hq:vs[1]?=some (.str q tq))(h:wpAny (model prog w) A.in1 (bindArgs fd args) (fun binds s₁=>wpAny (model prog w) A.in1 (newFunctionEnv fd.scope fd.globals fd.closure binds (q++".<locals>.") (some a) fd.code none fd.builtins) (fun env s₂=>s₂.heap.NoLimit/\codeAny (model prog w) A (.expr body env) R s₂) (fun e s'=>R (.error e) s') s₁) (fun e s'=>R (.error e) s') s):codeAny (model prog w) A (.call (.ref a) args) R s:=by
 refine codeAny_of_tree ?_;show wpAny _ A.in1 (callAny (.ref a) args) _ _ s;simp only[callAny];refine Wb (wpAny_load ho ?_);simp only[hd',callFunction,hco,hgen,hbody,hc];rw[hc]at h;refine Wb (m:=field (.ref c) 1) (wpAny_field hoc hdc hq (Wb (Wp ?_)));exact Wb (wpAny_mono h (fun binds s₁ h₁=>Wb (wpAny_mono h₁ (fun env s₂ h₂=>Wb (wpAny_enterFrame h₂.1 hroom (Wp (And.intro rfl h₂.2)))) fun _ _ h'=>h')) fun _ _ h'=>h')
noncomputable def lam(X:Cx)(A:Around)(q:Str)(scope:Scope)(cl:List (Str×Addr))(N:List Str)(f:Addr)(cd:Value)(s:Shared)(H:Hp):Cx:=
 {X with A:=A.deeper (PySem.W.envX q scope s.heap.objs.size f cd cl),N:=N,s₀:=s,H₀:=H,env:=PySem.W.envX q scope s.heap.objs.size f cd cl,outer:=X.stack,stack:=PySem.W.envX q scope s.heap.objs.size f cd cl::X.stack,ex:=[],fn:=fun _=>false,pn:=[],xe:=fun _ _=>False,fxs:=none}
theorem Zix:Thr (lam X A q scope cl N f cd s H) E0:=
 ⟨PassesOwn.never,fun _ _ _ _ _ _ _ ⟨_,_,_,_,_,_,_,_,_,_,_,_,_,q⟩=>q,fun _ _ _ _ _ _ _ _ _ _ _ _ _ _ _ _ _ _ _ _ _ _ q=>q⟩
structure Lms(X:Cx) (scope:Scope) (cl:List (Str×Addr)) (x:Str) (N:List Str) (fr:List Nat):Prop where
 clos:closureFor scope X.env=pure cl
 kind:scope.kind=.function
 co:scope.isCoroutine=false
 gen:scope.isGenerator=false
 cell:∀y∈scope.names,y.2≠ .cell
 par:scope.names.lookup x=some .local
 sub:∀y c,cl.lookup y=some c->X.env.cells.lookup y=some c
 has:∀y,(scope.names.lookup y=some .cell\/scope.names.lookup y=some .free)->∃c,cl.lookup y=some c
 n0:N[0]?=some x
 len:N.length=1+fr.length
 at_:∀(j i:Nat),fr[j]?=some i->∃y,N[1+j]?=some y/\X.N[i]?=some y/\X.env.kindOf y=some .cell/\scope.names.lookup y=some .free/\cl.lookup y=X.env.cells.lookup y
noncomputable def stL(v:V)(fr:List Nat)(σ:L2.St):L2.St:=some v::fr.map fun i=>(σ[i]?).join
noncomputable def roL(d:D)(fr:List Nat)(ρ:Ro):Ro:=some d::fr.map fun i=>(ρ[i]?).join
theorem SR.lam{K:Fg}(h:SR K H α σ ρ)(r:Rep K H α v d):SR K H α (stL v fr σ) (roL d fr ρ):=by
 refine⟨by simp[stL,roL],fun i d' e=>?_⟩
 cases i with
 |zero=>
  have e':some (some d)=some (some d'):=e;cases e';exact⟨v,rfl,r⟩
 |succ i=>
  have e':(fr.map fun i=>(ρ[i]?).join)[i]?=some (some d'):=e;rw[List.getElem?_map]at e';cases z:fr[i]? with
  |none=>rw[z]at e';cases e'
  |some r0=>
   rw[z]at e';obtain⟨v',e3,e4⟩:=h.2 r0 d' (join_some (Option.some.inj e'));refine⟨v',?_,e4⟩;show(fr.map fun i=>(σ[i]?).join)[i]?=some (some v');rw[List.getElem?_map,z];show some (σ[r0]?).join=_;rw[e3];rfl
theorem Zo2(L:Lms X scope cl x N fr)(I:Inv X pins σ H s)(hA:A.frames=some X.stack)(hh:A.handled=X.A.handled):(lam X A q scope cl N f cd s H).Ok where
 mod:=I.ok.mod
 kind:=L.kind
 glob:=rfl
 blt:=rfl
 above:=Nat.le_refl _
 inj:=fun y z c h1 h2=>I.ok.inj y z c (L.sub y c h1) (L.sub z c h2)
 has:=fun y h=>L.has y h
 cab:=fun y c h=>(by cases h)
 hd:=fun z=>hh.trans (I.ok.hd z)
 frames:=Around.frames_deeper hA
 stk:=.inr ⟨rfl,rfl⟩
 exf:=fun b hb=>absurd (show b∈([]:List Addr)from hb) (by simp)
 bs:=I.bs
 bsz:=Nat.le_trans I.ok.bsz I.sz
 noex:=fun b o e hb=>absurd (show b∈([]:List Addr)from hb) (by simp)
 exfs:=fun b hb=>absurd (show b∈([]:List Addr)from hb) (by simp)
 funs:=I.stack
 frf:=I.stkFree
 tb:=I.ok.tb.un I.base
theorem ZmK(L:Lms X scope cl x N fr)(I:Inv X pins σ H s)(hA:A.frames=some X.stack)(hh:A.handled=X.A.handled)(hn:h1.Ns s.heap.objs.size m)(hm:m x=some u)(ru:ZR v u)(hk:∀b o,s.heap.get? b=some o->h1.get? b=some o):Inv (lam X A q scope cl N f cd s H) [] (stL v fr σ) H {s with heap:=h1,toks:=tk} where
 ok:=Zo2 L I hA hh
 os:=rfl
 bare:=I.bare
 base:=Un.kept hk
 loc:=by
  refine⟨m,hn,fun i y v' e1 e2 e3=>?_⟩;cases i with
  |zero=>
   have exy:y=x:=Option.some.inj (e1.symm.trans L.n0);subst exy;have ev:some (some v)=some (some v'):=e2;cases ev;exact⟨u,ru,.inl ⟨L.par,hm⟩⟩
  |succ i=>
   have e2':(fr.map fun i=>(σ[i]?).join)[i]?=some (some v'):=e2;rw[List.getElem?_map]at e2';cases z:fr[i]? with
   |none=>rw[z]at e2';cases e2'
   |some r0=>
    rw[z]at e2';obtain⟨y',k1,k2,k3,k4,k5⟩:=L.at_ i r0 z;have exy:y=y':=by
     have e1':N[i+1]?=some y:=e1;rw[Nat.add_comm]at e1';exact Option.some.inj (e1'.symm.trans k1)
    subst exy;obtain⟨m0,hm0,hl⟩:=I.loc;obtain⟨u',ru',lk⟩:=hl r0 y v' k2 (join_some (Option.some.inj e2')) (.inr (.inl k3));refine⟨u',ru',?_⟩;rcases lk with⟨z,_⟩|⟨_,c,z1,⟨o,z2,z3⟩⟩
    ·rw[k3]at z;cases z
    ·exact .inr ⟨.inr k4,c,k5.trans z1,⟨o,hk _ _ z2,z3⟩⟩
 cell:=fun y c h=>by
  obtain⟨v,o,e1,e2⟩:=I.cell y c (L.sub y c h);exact⟨v,o,hk _ _ e1,e2⟩
 free:=I.fresh
 freeC:=fun y c h=>I.freeC y c (L.sub y c h)
 pin:=fun p hp=>(by simp[lam]at hp)
 hok:=I.hok.kept hk
 len:=by
  show(stL v fr σ).length=N.length;rw[L.len];simp[stL];lia
 qd:=by
  rcases I.qd with z|⟨ea,oe,u,vs,z1,z2⟩
  ·exact .inl (hh.trans z)
  ·exact .inr ⟨ea,oe,u,vs,hh.trans z1,z2⟩
 fx:=.free rfl
theorem ZmL(L:Lms X scope cl x N fr)(I:Inv X pins σ H s)(hA:A.frames=some X.stack)(hh:A.handled=X.A.handled)(hroom:A.depth<recursionLimit)(hp:(f,Zju qual params body scope cl pm c' ctv)∈X.pn++pins)(cd:Zo1 H P c')(hbind:bindArgs (PySem.W.kla_fn "<lambda>" qual params body scope cl pm (.ref c') ctv) ⟨[u],[]⟩=pure [(x,u)])(ru:ZR v u)(hb:∀q,∃t,PE (lam X A q scope cl N f (.ref c') s H) body t/\t (stL v fr σ) H Q):wpAny (model X.prog X.w) A (call (.ref f) [u]) (fun r s'=>∃v H',Inv X pins σ H' s'/\ZR v r/\Q v H'/\Zo1 H' P c') (fun _ _=>False) s:=by
 obtain⟨ps,pos,hP,hcd⟩:=cd;obtain⟨oP,tP,cP⟩:=I.hok P _ hP;obtain⟨c2,oc,vs,q,tq,ec,own,hoc,hdc,hq⟩:=cP pos _ hcd;cases ec;refine wpAny_call (Zff hroom (I.pin _ hp).1 rfl L.co L.gen rfl rfl hoc hdc hq ?_);rw[hbind];refine Wp (wpAny_newFunctionEnv L.cell (fun y hy=>by rw[List.mem_singleton.mp hy];exact L.par) (fun h1 hns hsb=>?_) L.kind)
 have hk:∀b o,s.heap.get? b=some o->h1.get? b=some o:=fun b o e=>hsb.extBut b o (Nat.ne_of_lt (Hz e)) (Hq _ e);refine⟨I.nolimit.keeps hk,?_⟩;obtain⟨t,pt,qt⟩:=hb q;have J:Inv (lam X A q scope cl N f (.ref c') s H) [] (stL v fr σ) H {s with heap:=h1,toks:=s.toks+1}:=ZmK L I hA hh hns (by simp) ru hk
 show codeAny _ _ (.expr body (PySem.W.envX q scope s.heap.objs.size f (.ref c') cl)) _ _;refine PySem.W.kla_codeExpr (wpAny_mono (pt [] _ _ H Q J qt) (fun r s' hs=>?_) fun _ _ z=>z.elim);obtain⟨v',H',J',rv,qv⟩:=hs;have ce:CE X.stack X.prog X.w H s (fun v'' H''=>v''=v'/\H''=H') r s':=⟨v',H',J'.os,J'.bare,J'.base,J'.hok,rv,rfl,rfl⟩;obtain⟨v2,H2,I2,r2,rfl,rfl⟩:=I.after ce;obtain⟨more,hm⟩:=J'.base.tbls P ps hP;exact⟨v2,H2,I2,r2,qv,_,pos,hm,by rw[Array.toList_append];exact ZeE _ tP hcd⟩
end DL
namespace DL
open PyProof.Rows L2
def ZcE(g:Ev)(fr:List Nat)(ρ:Ro)(M:Sto)(xs:List D)(ks:List (List Int)):Prop:=Paired (fun d k=>g (roL d fr ρ) M=.ok (Zlf k) M/\k≠[]) xs ks
def ZmM(ks:List (List Int))(xs:List D):List D:=(ST.srt ks).map fun k=>((ks.zip xs).lookup k).getD .non
def Ziy(g:Ev)(fr:List Nat)(ρ:Ro)(M:Sto)(xs:List D)(ks:List (List Int)):Prop:=xs.length<64/\ks.Nodup/\ZcE g fr ρ M xs ks
open Classical in
def Zfg(g:Ev)(fr:List Nat)(ρ:Ro)(ds:List D)(M:Sto):Out D:=match ds with
 |[.ref n]=>(match M[n]? with
  |some (.lst xs)=>if h:∃ks,Ziy g fr ρ M xs ks then .ok (.ref M.length) (M++[.lst (ZmM h.choose xs)])else .bad
  |none=>.bad)
 |_=>.bad
def Ziz(fs:Av)(fr:List Nat)(g:Ev):Ev:=fun ρ M=>(fs ρ M).bind fun ds M1=>Zfg g fr ρ ds M1
theorem ZcE.uniq{g:Ev}{fr:List Nat}{ρ:Ro}{M:Sto}:∀{xs:List D}{ks ks':List (List Int)},ZcE g fr ρ M xs ks->ZcE g fr ρ M xs ks'->ks=ks'
 |[],_,_,.nil,.nil=>rfl
 |_::_,_,_,.cons a b,.cons c d=>by
  have e:=a.1.symm.trans c.1;injection e with e1 e2;rw[Zko e1,ZcE.uniq b d]
theorem Zf5(h:M[n]?=some (.lst xs))(k:Ziy g fr ρ M xs ks):Zfg g fr ρ [.ref n] M=.ok (.ref M.length) (M++[.lst (ZmM ks xs)]):=by
 have hx:∃ks,Ziy g fr ρ M xs ks:=⟨ks,k⟩;simp only[Zfg,h,dif_pos hx];rw[hx.choose_spec.2.2.uniq k.2.2]
theorem Zdb{ks:List (List Int)}:∀{xs:List D}{k:List Int}{d:D},ks.Nodup->(k,d)∈ks.zip xs->(ks.zip xs).lookup k=some d:=by
 induction ks with
 |nil=>intro xs k d _ h;cases h
 |cons a r ih=>
  intro xs k d nd h;cases xs with
  |nil=>cases h
  |cons x xs=>
   rw[List.zip_cons_cons]at h ⊢;rw[List.lookup_cons];rcases List.mem_cons.mp h with e|h2
   ·cases e;simp
   ·have ne:k≠a:=fun z=>(List.nodup_cons.mp nd).1 (z▸(List.of_mem_zip h2).1)
    have:(k==a)=false:=by simpa using ne
    rw[this];exact ih (List.nodup_cons.mp nd).2 h2
def Ztk(K:Fg)(H:Hp)(α:List Addr)(h:Heap)(t:List Int×D×V)(p:Value×Value):Prop:=ST.Zbq h p.1 t.1/\ZR t.2.2 p.2/\Rep K H α t.2.2 t.2.1
theorem Zo3{K:Fg}{H:Hp}{α:List Addr}{h:Heap}:∀{ks:List (List Int)} {xs:List D} {vs:List V} {kL its:List Value},Paired (fun k u=>ST.Zbq h u k) ks kL->Reps K H α vs xs->ZS vs its->ks.length=xs.length->∃T:List (List Int×D×V),Paired (Ztk K H α h) T (kL.zip its)/\T.map (fun t=>(t.1,t.2.1))=ks.zip xs
 |[],xs,_,_,_,.nil,_,_,e=>by
  have:xs=[]:=List.eq_nil_of_length_eq_zero e.symm
  subst this;exact⟨[],.nil,rfl⟩
 |k::ks,x::xs,_,_,_,.cons a b,.cons c d,.cons p q,e=>by
  obtain⟨T,t1,t2⟩:=Zo3 b d q (Nat.succ.inj e);exact⟨(k,x,_)::T,.cons ⟨a,p,c⟩ t1,by rw[List.map_cons,t2];rfl⟩
theorem ZbL{α β:Type}{F:α->β->Prop}:∀{xs:List α}{ys:List β},Paired F xs ys->∀(i:Nat)(h:i<xs.length),∃h':i<ys.length,F xs[i] ys[i]
 |_,_,.nil,i,h=>absurd h (by simp)
 |_,_,.cons a b,0,h=>⟨by simp,a⟩
 |_,_,.cons a b,i+1,h=>by
  obtain⟨h',q⟩:=ZbL b i (by simpa using h)
  exact⟨by simpa using h',by simpa using q⟩
theorem Zbf{α β:Type}{F:α->β->Prop}:∀{xs:List α}{ys:List β},Paired F xs ys->xs.length=ys.length
 |_,_,.nil=>rfl
 |_,_,.cons _ b=>congrArg Nat.succ (Zbf b)
theorem ZeF{K:Fg}{out:List (Value×Value)}(nd:ks.Nodup)(hl:ks.length=xs.length)(hT:Paired (Ztk K H α h) T prs)(eT:T.map (fun t=>(t.1,t.2.1))=ks.zip xs)(hp:out.Perm prs)(hs:∀i j (hi:i<out.length) (hj:j<out.length),i<=j->∀ns ms,ST.Zbq h out[i].1 ns->ST.Zbq h out[j].1 ms->ST.le ns ms):∃ys:List V,ZS ys (out.map (·.2))/\Reps K H α ys (ZmM ks xs):=by
 obtain⟨T',p1,p2⟩:=Zfe hp hT;have lT:=Zbf p2;have ek:T.map (·.1)=ks:=by
  have:=congrArg (List.map Prod.fst) eT
  rw[List.map_map,List.map_fst_zip (Nat.le_of_eq hl)]at this;exact this
 have pk:(T'.map (·.1)).Perm ks:=by rw[<-ek];exact p1.map _
 have up:(T'.map (·.1)).Pairwise ST.le:=by
  refine List.pairwise_iff_getElem.mpr fun i j hi hj ij=>?_;rw[List.length_map]at hi hj;obtain⟨a1,a2⟩:=ZbL p2 i hi;obtain⟨b1,b2⟩:=ZbL p2 j hj;rw[List.getElem_map,List.getElem_map];exact hs i j a1 b1 (Nat.le_of_lt ij) _ _ a2.1 b2.1
 have es:=ST.Zkn pk up;refine⟨T'.map (·.2.2),?_,?_⟩
 ·clear es up pk p1 hs hp lT
  induction p2 with
  |nil=>exact .nil
  |cons a _ ih=>exact .cons a.2.1 ih
 ·unfold ZmM;rw[<-es,List.map_map];have md:∀t∈T',((ks.zip xs).lookup t.1).getD .non=t.2.1:=fun t ht=>by
   have m:t∈T:=p1.mem_iff.mp ht;have m2:(t.1,t.2.1)∈ks.zip xs:=by rw[<-eT];exact List.mem_map_of_mem (f:=fun t:List Int×D×V=>(t.1,t.2.1)) m
   rw[Zdb nd m2];rfl
  have:T'.map ((fun k=>((ks.zip xs).lookup k).getD .non)∘fun t=>t.1)=T'.map (·.2.1):=List.map_congr_left fun t ht=>md t ht
  rw[this];clear es up pk p1 hs hp lT md this
  induction p2 with
  |nil=>exact .nil
  |cons a _ ih=>exact .cons a.2.2 ih
def JK(X:Cx)(pins:Pn)(σ:L2.St)(P c':Addr)(H2:Hp)(α:List Addr)(M:Sto)(n0:Nat)(ks:List (List Int))(a kS:Addr)(kL:List Value)(s':Shared):Prop:=
 n0<=a/\n0<=kS/\kS≠a/\∃H',Inv X pins σ H' s'/\Zo1 H' P c'/\H' a=none/\H' kS=none/\(∃o,s'.heap.get? a=some o)/\(∃o,s'.heap.get? kS=some o)/\Ext X.K H2 H' α α/\HR X.K H' α M/\kL.length<=ks.length/\Paired (fun k u=>∃kv,ZR kv u/\Rep X.K H' α kv (Zlf k)) (ks.take kL.length) kL
theorem ZcF{α β:Type}{F:α->β->Prop}{a:α}{b:β}:∀{xs:List α}{ys:List β},Paired F xs ys->F a b->Paired F (xs++[a]) (ys++[b])
 |_,_,.nil,h=>.cons h .nil
 |_,_,.cons c d,h=>.cons c (ZcF d h)
theorem ZbM{α β:Type}{F G:α->β->Prop}(h:∀a b,F a b->G a b):∀{xs:List α}{ys:List β},Paired F xs ys->Paired G xs ys
 |_,_,.nil=>.nil
 |_,_,.cons c d=>.cons (h _ _ c) (ZbM h d)
theorem Zo4{K:Fg}(e:Ext K H H' α α')(h:HR K H' α' M)(l:α.length=M.length):α'=α:=by
 obtain⟨β,rfl⟩:=e.al
 have:=h.len
 rw[List.length_append,l]at this
 have:β=[]:=List.eq_nil_of_length_eq_zero (by lia)
 rw[this,List.append_nil]
theorem ZeG{id:String}(hplain:(args.any (·.1)||kws.any (·.1.isNone))=false)(h:wpAny M A (evalArgs (.builtin id) true args kws) (fun a s₁=>wpAny M A (call (.builtin id) a.pos a.kw) Q E s₁) E s):wpAny M A (callWith pos (.builtin id) [] args kws) Q E s:=by
 unfold callWith;refine Wb (wpAny_holding (wpAny_mono h (fun a s₁ h₁=>Wb (wpAny_standAt ?_)) fun _ _ x=>x));simp only[hplain];refine Wb (Wp ?_);exact Wb (wpAny_mono h₁ (fun r s₂ hr=>Wb (wpAny_holding (wpAny_point (Wp hr)))) fun _ _ x=>x)
theorem ZiA{n:Nat}(hr:Room (k+3) X.A)(L:Lms X scope cl x N fr)(hb:∀q f cd s H,Room k (X.A.in1.in1.deeper (PySem.W.envX q scope s.heap.objs.size f cd cl))->DE (lam X X.A.in1.in1 q scope cl N f cd s H) E0 body g)(hbind:∀(u:Value),bindArgs (PySem.W.kla_fn "<lambda>" qual params body scope cl pm (.ref c') ctv) ⟨[u],[]⟩=pure [(x,u)])(I:Inv X (pins++[(f,Zju qual params body scope cl pm c' ctv)]) σ H s)(cd:Zo1 H P c')(sr:SR X.K H α σ ρ)(h:HR X.K H α M)(hx:M[n]?=some (.lst xs))(hp:H p0=some (.lst ws))(rp:Reps X.K H α ws xs)(l64:xs.length<64)(nd:ks.Nodup)(keys:ZcE g fr ρ M xs ks)(q:∀v H' α',Ext X.K H H' α α'->HR X.K H' α' (M++[.lst (ZmM ks xs)])->Rep X.K H' α' v (.ref M.length)->Q v H'):wpAny (model X.prog X.w) X.A (call (.builtin "sorted") [.ref p0] [(Str.ofString "key",.ref f)]) (EP X pins σ Q) X.xe s:=by
 have lks:ks.length=xs.length:=(Zbf keys).symm;obtain⟨its,rv,pl,hz⟩:=I.list (SqL.of hp);have lit:its.length=xs.length:=by rw[<-rv.length,rp.length]
 refine ST.Ziw (JK X (pins++[(f,Zju qual params body scope cl pm c' ctv)]) σ P c' H α M s.heap.objs.size ks) pl.isList (by lia) ?_ ?_ ?_ ?_ ?_
 ·
  intro a kS h1 ha hS ne kk oa ok;exact⟨ha,hS,ne,H,I.kept (t':=s.toks) kk,cd,I.hok.fresh ha,I.hok.fresh hS,oa,ok,Ext.refl,h,Nat.zero_le _,by rw[List.length_nil,List.take_zero];exact .nil⟩
 ·
  rintro a kS i v kL s' na ea nk ek hv hi ⟨ha,hS,ne,H',I',cd',fa,fS,_,_,ex,hr',lk,pk⟩ oa ok;have hil:i<xs.length:=by have:=(List.getElem?_eq_some_iff.mp hv).1;lia
  obtain⟨xv,e1,e2⟩:=Zh8 rv hv;obtain⟨d,d1,d2⟩:=Zh9 rp e1;have hki:i<ks.length:=by lia
  obtain⟨_,kg⟩:=ZbL keys i hil;have ed:xs[i]=d:=by
   rw[List.getElem?_eq_getElem hil]at d1;exact Option.some.inj d1
  rw[ed]at kg;have d2:=Rep.mono ex d2;have I2:Inv X (pins++[(f,Zju qual params body scope cl pm c' ctv)]++[(a,seqObj "list" na ea),(kS,seqObj "list" nk ek)]) σ H' s':=I'.pins_of fun p hp=>by
   rcases List.mem_append.mp hp with hp|hp
   ·exact I'.pin p (List.mem_append_right _ hp)
   ·rcases List.mem_cons.mp hp with rfl|hp
    ·exact⟨oa,fa,Nat.ne_of_gt (Nat.lt_of_lt_of_le I.lt ha),I.nofs ha,fun v z=>by cases z⟩
    ·rw[List.mem_singleton.mp hp];exact⟨ok,fS,Nat.ne_of_gt (Nat.lt_of_lt_of_le I.lt hS),I.nofs hS,fun v z=>by cases z⟩
  have run:=ZmL (f:=f) (A:=X.A.in1.in1) (u:=v) (v:=xv) (Q:=fun v' H''=>∃α'',Ext X.K H' H'' α α''/\HR X.K H'' α'' M/\Rep X.K H'' α'' v' (Zlf ks[i])) L I2 I.ok.frames rfl (by have:=hr.dp;show X.A.depth<_;lia) (List.mem_append_right _ (List.mem_append_left _ (List.mem_append_right _ (List.mem_singleton.mpr rfl)))) cd' (hbind v) e2 fun q'=>by
   obtain⟨t,pt,qt⟩:=hb q' f (.ref c') s' H' ((hr.in1.in1).deeper _);exact⟨t,pt,qt _ (roL d fr ρ) H' α M _ (SR.lam (sr.mono ex) d2) hr' (by
    rw[kg.1];exact fun v' H'' α'' e'' h'' r''=>⟨α'',e'',h'',r''⟩)⟩
  refine wpAny_mono run (fun u s2 hs=>?_) fun _ _ z=>z;obtain⟨v',H2,I3,r3,⟨α2,ex2,hr2,rp2⟩,cd2⟩:=hs;have ea2:=Zo4 ex2 hr2 hr'.len;subst ea2;have pa:=I3.pin (a,seqObj "list" na ea) (by simp)
  have pS:=I3.pin (kS,seqObj "list" nk ek) (by simp)
  refine⟨⟨ha,hS,ne,H2,I3.unpinned,cd2,pa.2.1,pS.2.1,⟨_,pa.1⟩,⟨_,pS.1⟩,ex.trans ex2,hr2,by rw[List.length_append,List.length_singleton];lia,?_⟩,pa.1,pS.1⟩
  have et:ks.take (kL++[u]).length=ks.take kL.length++[ks[i]]:=by
   rw[List.length_append,List.length_singleton,hi,List.take_add_one,List.getElem?_eq_getElem hki];rfl
  rw[et];exact ZcF (ZbM (fun k u ⟨kv,z1,z2⟩=>⟨kv,z1,Rep.mono ex2 z2⟩) pk) ⟨v',r3,rp2⟩
 ·
  rintro a kS kL s' h' ⟨ha,hS,ne,H',I',cd',fa,fS,⟨oa,ea⟩,_,ex,hr',lk,pk⟩ kk oS;refine⟨ha,hS,ne,H',I'.turned (t':=s'.toks) (it:=kS) kk fS (Nat.ne_of_gt (Nat.lt_of_lt_of_le I.lt hS)) (.inr (Nat.le_trans I.sz hS)) (fun y c hc z=>?_) (fun p hp z=>?_),cd',fa,fS,⟨oa,kk a oa (Ne.symm ne) ea⟩,oS,ex,hr',lk,pk⟩
  ·obtain⟨v,o,e,_⟩:=I.cell y c hc;exact absurd (Hz e) (by rw[z];exact Nat.not_lt_of_le hS)
  ·have:=(I.pin p hp).1
   exact absurd (Hz this) (by rw[z];exact Nat.not_lt_of_le hS)
 ·
  rintro a kS kL s' ⟨_,_,_,H',I',_,_,_,_,_,_,_,lk,pk⟩ u hu;obtain⟨i,hi,rfl⟩:=List.getElem_of_mem hu;have hi':i<(ks.take kL.length).length:=by rw[Zbf pk];exact hi
  obtain⟨_,kv,z1,z2⟩:=ZbL pk i hi';have t:=Zf4 I' (Ziv z2) z1;have hik:i<ks.length:=by lia
  obtain⟨_,kg⟩:=ZbL keys i (by lia)
  have e1:(ks.take kL.length)[i]=ks[i]:=List.getElem_take;rw[e1]at t;cases e2:ks[i]with
  |nil=>exact absurd e2 kg.2
  |cons b r=>rw[e2]at t;exact⟨b,r,t⟩
 ·
  rintro a kS kL s' out h' c ⟨ha,hS,ne,H',I',cd',fa,fS,_,_,ex,hr',lk,pk⟩ hl po hs kk oS oa;have ek:ks.take kL.length=ks:=List.take_of_length_le (by lia)
  rw[ek]at pk;obtain⟨T,t1,t2⟩:=Zo3 (K:=X.K) (H:=H') (α:=α) (ZbM (fun k u ⟨kv,z1,z2⟩=>Zf4 I' (Ziv z2) z1) pk) (Reps.mono ex rp) rv lks;obtain⟨ys,v1,v2⟩:=ZeF nd lks t1 t2 po hs;have lo:(out.map (·.2)).length=xs.length:=by rw[List.length_map,po.length_eq,List.length_zip,hl,lit];simp
  have hyz:ys.length<=sizeLine:=by rw[v1.length,lo];exact Nat.le_trans (Nat.le_of_lt l64) (by decide)
  have nS:∀b u,H' b=some u->b≠kS:=fun b u z y=>by rw[y,fS]at z;cases z
  have nA:∀b u,H' b=some u->b≠a:=fun b u z y=>by rw[y,fa]at z;cases z
  have hok:HOk X.prog X.w (upd H' a (.lst ys)) h':=fun b u e=>by
   by_cases ba:b=a
   ·subst ba;rw[Zs]at e;cases e;exact⟨hyz,out.map (·.2),c,v1,oa⟩
   ·rw[Zz ba]at e;refine(I'.hok b u e).stay (fun y v hy r=>kk y v ?_ ?_ r) (fun y r=>by rw[Zz (nA _ _ r)];exact r) fun y zs r=>by rw[Zz (nA _ _ r)];exact r
    ·rcases hy with rfl|hy
     ·exact ba
     ·exact nA _ _ hy
    ·rcases hy with rfl|hy
     ·exact nS _ _ e
     ·exact nS _ _ hy
  have cellN:∀b,s.heap.objs.size<=b->∀y c,X.env.cells.lookup y=some c->c≠b:=fun b hb y c hc z=>by
   obtain⟨v,o,e,_⟩:=I.cell y c hc;exact absurd (Hz e) (by rw[z];exact Nat.not_lt_of_le hb)
  have pinN:∀b,s.heap.objs.size<=b->∀p∈X.pn++(pins++[(f,Zju qual params body scope cl pm c' ctv)]),p.1≠b:=fun b hb p hp z=>by
   have:=(I.pin p hp).1
   exact absurd (Hz this) (by rw[z];exact Nat.not_lt_of_le hb)
  have J:=I'.step (H':=upd H' a (.lst ys)) (h':=h') (g':=s'.gens) (d':=s'.drawn) (t':=s'.toks) (ch:=[a,kS]) (fun b hb=>by
    have hb':s.heap.objs.size<=b:=by
     rcases List.mem_cons.mp hb with rfl|hb
     ·exact ha
     ·rw[List.mem_singleton.mp hb];exact hS
    exact⟨.inr (Nat.le_trans I.sz hb'),Nat.ne_of_gt (Nat.lt_of_lt_of_le I.lt hb'),cellN b hb',pinN b hb'⟩)
   (fun b o _ _ hb e _=>kk b o (fun z=>hb (by simp[z])) (fun z=>hb (by simp[z])) e)
   (fun b o _ _ hb e _=>⟨o.slots,kk b o (fun z=>hb (by simp[z])) (fun z=>hb (by simp[z])) e⟩)
   (fun b o hb e n=>by rw[Zz (fun z=>hb (by simp[z]))];exact n)
   (fun b o hb e=>⟨o,kk b o (fun z=>hb (by simp[z])) (fun z=>hb (by simp[z])) e⟩)
   (fun b zs e=>by rw[Zz (nA _ _ e)];exact e) (fun b o u e=>by rw[Zz (nA _ _ e)];exact e)
   (fun b zs e=>⟨#[],by rw[Zz (nA _ _ e),e];simp⟩)
   (fun m hm=>by
    obtain⟨o,es,ep,e,r⟩:=hm;exact⟨o,es,ep,kk _ _ (Nat.ne_of_lt (Nat.lt_of_lt_of_le I.lt ha)) (Nat.ne_of_lt (Nat.lt_of_lt_of_le I.lt hS)) e,r⟩) hok I'.bare
  exact⟨.ref a,_,J.unpinned,rfl,q _ _ (α++[a]) (ex.trans (Ext.new fa)) (hr'.new fa v2) (.ref ⟨by rw[<-h.len];simp,Kn.lst Zs⟩)⟩
theorem Zkr(hm:ZrG X.K)(hc:ZeC X.K X.env.code=true)(hr:Room (k+3) X.A)(L:Lms X scope cl x N fr)(hmg:X.mg "sorted"=none)(ha:DA X ξ [e] fs)(hb:∀q f cd s H,Room k (X.A.in1.in1.deeper (PySem.W.envX q scope s.heap.objs.size f cd cl))->DE (lam X X.A.in1.in1 q scope cl N f cd s H) E0 body g)(hbind:∀(qual:Str)(pm:Value)(c':Addr)(ctv u:Value),bindArgs (PySem.W.kla_fn "<lambda>" qual params body scope cl pm (.ref c') ctv) ⟨[u],[]⟩=pure [(x,u)]:=by intros;rfl)(hdef:autoParam (defaultsOf params X.env=([],[])) Qrf._auto_1)(hg:autoParam (Gl X "sorted") Qrf._auto_1)(he:autoParam (starEach [e] X.env=(false,eval e X.env)::starEach [] X.env) Qrf._auto_1)(hpl:autoParam (((backTo pos (starEach [e] X.env)).any (·.1)||(backToKw pos (keywordEach [⟨some "key",.Lambda params body scope lpos,kpos⟩] X.env)).any (·.1.isNone))=false) Qrf._auto_1) :
  DE X ξ (.Call (.Name "sorted" p) [e] [⟨some "key",.Lambda params body scope lpos,kpos⟩] pos) (Ziz fs fr g):=by
 obtain⟨ta,pa,qa⟩:=ha;obtain⟨c,P,lc⟩:=Zkp hc;refine⟨fun σ H Q=>∃ρ α M,SR X.K H α σ ρ/\HR X.K H α M/\OP X.K H α ξ Q (Ziz fs fr g ρ M),?_,fun σ ρ H α M Q s h q=>⟨ρ,α,M,s,h,q⟩⟩;rintro pins s σ H Q I ⟨ρ,α,M,sr,hr0,op⟩;refine wpAny_Call_Name_kw (Zbg I hg hmg Ziu ?_ (by decide) (by decide))
 refine ZeG hpl (evalArgs_kw2 rfl (thn (pa pos pins s σ H (fun vs H1=>∃α1 M1 ds,Ext X.K H H1 α α1/\HR X.K H1 α1 M1/\Reps X.K H1 α1 vs ds/\OP X.K H1 α1 ξ Q (Zfg g fr ρ ds M1)) I (qa σ ρ H α M _ sr hr0 (OG.seq op fun ds M1 vs H1 α1 e1 h1 r1 q1=>⟨α1,M1,ds,e1,h1,r1,q1⟩))) fun us s1 ⟨vs,H1,I1,rv,α1,M1,ds,e1,h1,r1,op1⟩=>?_) he)
 have sr1:=sr.mono e1;have key:∀n,ds=[.ref n]->wpAny (model X.prog X.w) X.A (evalAll ((backToKw pos (keywordEach [⟨some "key",.Lambda params body scope lpos,kpos⟩] X.env)).map (·.2))) (fun ks s₂=>wpAny (model X.prog X.w) X.A (call (.builtin "sorted") us (((backToKw pos (keywordEach [⟨some "key",.Lambda params body scope lpos,kpos⟩] X.env)).filterMap (·.1)).zip ks)) (EP X pins σ Q) X.xe s₂) X.xe s1:=fun n en=>by
  subst en;cases hx:M1[n]? with
  |none=>simp only[Zfg,hx]at op1;exact op1.elim
  |some so=>
   cases so with
   |lst xs=>
    by_cases hk:∃ks,Ziy g fr ρ M1 xs ks
    ·obtain⟨ks,sk⟩:=hk;rw[Zf5 hx sk]at op1;obtain⟨l64,nd,keys⟩:=sk;cases r1 with
     |cons r1 r0=>
      cases r0;cases r1 with
      |@ref p0 _ hp0=>
       obtain⟨u0,rfl,ru⟩:=ZcY rv;cases ru;obtain⟨ws,g1,g2⟩:=h1.at hp0 hx;show wpAny _ _ (evalAll [(do let v <-eval (.Lambda params body scope lpos) X.env;standAt pos;pure v)]) _ _ s1
       refine wpAny_evalAll_cons (Wb (PySem.W.kla_eval hdef (Zkq I1 hm lc L.clos fun f c' pm ctv H2 s2 hf I2 cd2 ex2 hr2=>Wb (wpAny_standAt (Wp (wpAny_evalAll_nil ?_))))));have h2:=hr2 X.K α1 M1 h1;obtain⟨ws2,g3,g4⟩:=h2.at ((ex2 X.K α1).get hp0) hx;exact ZiA hr L hb (fun u=>hbind _ pm c' ctv u) I2 cd2 (sr1.mono (ex2 X.K α1)) h2 hx g3 g4 l64 nd keys fun v H' α' ex' h' r'=>op1 v H' α' ((ex2 X.K α1).trans ex') h' r'
    ·simp only[Zfg,hx,dif_neg hk]at op1;exact op1.elim
 match ds,key,op1 with
 |[.ref n],key,_=>exact key n rfl
 |[],_,op1=>exact op1.elim
 |[.non],_,op1=>exact op1.elim
 |[.bl _],_,op1=>exact op1.elim
 |[.int _],_,op1=>exact op1.elim
 |[.str _],_,op1=>exact op1.elim
 |[.tup _],_,op1=>exact op1.elim
 |[.rol _],_,op1=>exact op1.elim
 |[.con _],_,op1=>exact op1.elim
 |[.dk _],_,op1=>exact op1.elim
 |[.dt _],_,op1=>exact op1.elim
 |[.du _],_,op1=>exact op1.elim
 |[.fn _],_,op1=>exact op1.elim
 |[.err _ _],_,op1=>exact op1.elim
 |a::b::r,_,op1=>cases a<;>exact op1.elim
end DL
namespace L2
open PyProof.Rows
noncomputable def ZrI(o:Option Obj):Bool:=match o with
 |some ⟨.none,none,.fields ⟨[]⟩,⟨[]⟩⟩=>true
 |_=>false
theorem ZmN(h:ZrI o=true):o=some {cls:=.none,data:=.fields #[]}:=by
 unfold ZrI at h
 split at h
 ·rfl
 ·cases h
theorem ZiB{o:Obj}{a:Addr}:∀{l:Pn},l.lookup a=some o->(a,o)∈l
 |[],h=>by cases h
 | (b,u)::r,h=>by
  rw[List.lookup_cons]at h;cases e:a==b with
  |true=>
   rw[e]at h
   have:a=b:=by simpa using e
   cases h;rw[this];exact List.mem_cons_self
  |false=>
   rw[e]at h;exact List.mem_cons_of_mem _ (ZiB h)
def Zf6(K T:Fg):Bool:=K.all fun p=>match p.2 with
 |⟨.type n,_,.fields vs,_⟩=>if n="code" then(match(vs[11]? :Option Value)with
  |some (.ref P)=>(K.lookup P).isNone&&ZrI (T.lookup P)
  |_=>true)else true
 |_=>true
theorem ZiC{K:Fg}(h:Zf6 K T=true)(t:TbP K P):K.lookup P=none/\T.lookup P=some {cls:=.none,data:=.fields #[]}:=by
 obtain⟨c,⟨oc,od,dt,sl⟩,vs,e1,e2,e3,e4⟩:=t;have q:=List.all_eq_true.mp h _ (ZiB e1);cases e2;cases e3;dsimp only at q;rw[if_pos rfl,e4]at q;simp only[Bool.and_eq_true,Option.isNone_iff_eq_none]at q;exact⟨q.1,ZmN q.2⟩
theorem ZiD{K:Fg}(KX:K.In s₁.heap)(TX:T.In s₁.heap)(hT:Zf6 K T=true)(hns:s₁.heap.Ns mainGlobals mg)(hb:s₁.heap.Ns builtinsNs mb)(hbb:∀x:Str,x≠"__name__"->mb x=bootBuiltins x)(hlim:s₁.heap.NoLimit)(hg:s₁.gens= #[])(ha:s₁.heap.get? a=some {cls:=.type "list",data:=.seq vs.toArray})(hi:IntsAre vs ns)(hl:ns.length<=sizeLine)(hr:Room k callerA)(F:∀base:Heap,K.In base->base.Ns mainGlobals mg->FnOk P w K mg base CX k fa fd [x] sp)(hbind:∀(s:Shared)(u:Value),BindsTo s fd ⟨[u],[]⟩ [(x,u)])(hsp:∀H:Hp,DL.SqF K H a (ns.map V.int)->sp [.ref a] H (fun v _=>v=.bl true) fun _ _ _=>False)(hCX:∀H e s',CX [] H s₁ (fun _ _ _=>False) e s'->False):codeAny (model P w) callerA (.call (.ref fa) ⟨[.ref a],[]⟩) (fun r s'=>r=.ok (.ret (.bool true))/\OldK s₁.heap s'.heap/\s'.os=s₁.os/\AllBare s'.gens) s₁:=by
 have rv:=Zd3 hi;have lenV:=hi.length;have tb:∀{b:Addr},TbP K b->s₁.heap.get? b=some {cls:=.none,data:=.fields #[]}:=fun t=>TX _ _ (ZiC hT t).2;have core:∀H:Hp,DL.SqF K H a (ns.map V.int)->HOk P w H s₁.heap->(∀b u,H b=some u->(b=a/\K.lookup a=none/\∃o xs,u=.frz o (.lst xs))\/(TbP K b/\u=.tbl #[]))->Tbs K H->
   codeAny (model P w) callerA (.call (.ref fa) ⟨[.ref a],[]⟩) (fun r s'=>r=.ok (.ret (.bool true))/\OldK s₁.heap s'.heap/\s'.os=s₁.os/\AllBare s'.gens) s₁:=by
  intro H hS hok hA hTb;have base_of:∀{b:Addr}{o:Obj},s₁.heap.get? b=some o->H b=none->(Zjo s₁.heap H).get? b=some o:=fun e n=>ZfB e n;have noA:∀{b:Addr}{o:Obj}{es:Array DictEntry}{ep:Nat},s₁.heap.get? b=some o->o.data=.dict es ep->H b=none:=fun{b o es ep} e d=>by
   cases q:H b with
   |none=>rfl
   |some u=>
    rcases hA b u q with⟨rfl,_⟩|⟨t,_⟩
    ·rw[ha]at e;cases e;have d':Data.seq vs.toArray _=Data.dict es ep:=d;cases d'
    ·rw[tb t]at e;cases e;have d':Data.fields _=Data.dict es ep:=d;cases d'
  have nsK:∀{b:Addr}{m:Str->Option Value},s₁.heap.Ns b m->(Zjo s₁.heap H).Ns b m:=fun{b m} ⟨o,es,ep,e,d,r⟩=>⟨o,es,ep,base_of e (noA e d),d,r⟩;have hKb:K.In (Zjo s₁.heap H):=fun b o e=>base_of (KX b o e) (by
   cases q:H b with
   |none=>rfl
   |some u=>
    rcases hA b u q with⟨rfl,z,_⟩|⟨t,_⟩
    ·rw[z]at e;cases e
    ·rw[(ZiC hT t).1]at e;cases e)
  have hM:Mod K mg (Zjo s₁.heap H):=⟨hKb,nsK hns,⟨mb,nsK hb,hbb⟩,let ⟨mc,h1,h2⟩:=hlim;⟨mc,nsK h1,h2⟩⟩;have e0:Env0 P w K mg (Zjo s₁.heap H) callerA [] s₁ H:=⟨rfl,hM,fun b o e=>Zg2 e,Nat.le_of_eq (Zg1 _ _),trivial,fun b hb=>absurd (show b∈([]:List Addr)from hb) (by simp),hok,.of_eq hg,.inl rfl,hTb⟩
  refine codeAny_mono ((F _ hKb (nsK hns)).run callerA [] s₁ H ⟨[.ref a],[]⟩ [.ref a] [.ref a] _ _ hr e0 (hbind s₁ (.ref a)) (.cons rfl .nil) (hsp H hS)) fun r s' h=>?_;cases r with
  |error e=>exact(hCX H e s' h).elim
  |ok fl=>
   cases fl with
   |next=>exact False.elim h
   |brk=>exact False.elim h
   |cont=>exact False.elim h
   |ret u=>
    obtain⟨v,H',os,bare,un,hok',r',q⟩:=h;have q':v=.bl true:=q;subst q';obtain rfl:u=Value.bool true:=r';have fin:∀b o,s₁.heap.get? b=some o->asItWas s₁.heap s'.heap b o:=fun b o e=>by
     cases q:H b with
     |none=>exact .inl (un.keep b o e q (by intro z;exact absurd (show b∈([]:List Addr)from z) (by simp)) (by simp))
     |some u=>
      rcases hA b u q with⟨_,_,ob,xs,rfl⟩|⟨t,rfl⟩
      ·have z2:=un.frzs b ob _ q;obtain⟨e1,_⟩:=hok b _ q;obtain⟨e2,_⟩:=hok' b _ z2;rw[e]at e1;cases e1;exact .inl e2
      ·obtain⟨more,z2⟩:=un.tbls b _ q;have e2:=(hok' b _ z2).1;have e1:=tb t;rw[e]at e1;cases e1;obtain⟨c,oc,vs',f1,f2,f3,f4⟩:=t;exact .inr (.inl ⟨⟨c,oc,vs',KX _ _ f1,f2,f3,f4⟩,rfl,#[],more,rfl,e2⟩)
    refine⟨rfl,⟨fin,fun b o e=>?_⟩,os,bare⟩;rcases fin b o e with z|⟨_,_,vs',m,_,z⟩|⟨_,_,⟨o',_,_,z,_⟩,_⟩
    ·exact⟨_,z⟩
    ·exact⟨_,z⟩
    ·exact⟨_,z⟩
 have tok:∀H:Hp,∀b,TbP K b->H b=some (.tbl #[])->ZaH P w H s₁.heap b (.tbl #[]):=fun H b t _=>⟨tb t,True.intro,fun pos cv z=>by cases z⟩
 have na:¬TbP K a:=fun t=>by
  have:=tb t
  rw[ha]at this;cases this
 cases hk:K.lookup a with
 |some o=>
  have e:=KX a o hk;rw[ha]at e;cases e
  classical
  refine core (fun b=>if TbP K b then some (.tbl #[])else none) (.inr ⟨_,vs.toArray,_,hk,rfl,rfl,rfl,by rw[List.size_toArray,lenV];exact hl,by simpa using rv⟩) (fun b u z=>?_) (fun b u z=>?_) (fun b t=>⟨_,if_pos t⟩)
  ·by_cases t:TbP K b
   ·have z':=(if_pos t).symm.trans z;cases z';exact tok _ b t (if_pos t)
   ·have z':=(if_neg t).symm.trans z;cases z'
  ·by_cases t:TbP K b
   ·have z':=(if_pos t).symm.trans z;cases z';exact .inr ⟨t,rfl⟩
   ·have z':=(if_neg t).symm.trans z;cases z'
 |none=>
  classical
  let H:Hp:=fun b=>if b=a then some (.frz {cls:=.type "list",data:=.seq vs.toArray} (.lst (ns.map V.int)))else if TbP K b then some (.tbl #[])else none
  have hHa:H a=some (.frz {cls:=.type "list",data:=.seq vs.toArray} (.lst (ns.map V.int))):=if_pos rfl;have hHt:∀b,TbP K b->H b=some (.tbl #[]):=fun b t=>by
   show(if b=a then _ else if TbP K b then _ else _)=_
   have nb:b≠a:=fun z=>na (z▸t);rw[if_neg nb,if_pos t]
  have hHn:∀b,b≠a->¬TbP K b->H b=none:=fun b n t=>by
   show(if b=a then _ else if TbP K b then _ else _)=_
   rw[if_neg n,if_neg t]
  refine core H (.inl ⟨_,hHa⟩) (fun b u z=>?_) (fun b u z=>?_) (fun b t=>⟨_,hHt b t⟩)
  ·by_cases hb:b=a
   ·subst hb;rw[hHa]at z;cases z;exact⟨ha,by rw[List.length_map];exact hl,vs,_,rv,ha⟩
   ·by_cases t:TbP K b
    ·rw[hHt b t]at z;cases z;exact tok _ b t (hHt b t)
    ·rw[hHn b hb t]at z;cases z
  ·by_cases hb:b=a
   ·subst hb;rw[hHa]at z;cases z;exact .inl ⟨rfl,hk,_,_,rfl⟩
   ·by_cases t:TbP K b
    ·rw[hHt b t]at z;cases z;exact .inr ⟨t,rfl⟩
    ·rw[hHn b hb t]at z;cases z
theorem Zks{l:PySem.W.OpenLaw}{K T:Params->Fg}{CX:World->CXT}{sp:World->Sp}(hn:l.most=some n)(hn2:n<=sizeLine)(hdf:d.params.defaults=[])(hr:Room k callerA)(hY:∀(w:World)(h:Heap),YP w h->(K w.params).In h/\(T w.params).In h)(hT:∀w:World,Zf6 (K w.params) (T w.params)=true)(F:∀(w:World)(mg:Str->Option Value)(fa:Addr)(h:Heap),(K w.params).In h->h.Ns mainGlobals mg->mg d.name=some (.ref fa)->∃fd:FuncData,(∀(s:Shared)(u:Value),BindsTo s fd ⟨[u],[]⟩ [(x,u)])/\∀base:Heap,(K w.params).In base->base.Ns mainGlobals mg->FnOk l.prog w (K w.params) mg base (CX w) k fa fd [x] (sp w))(hsp:∀(w:World)(H:Hp)(a:Addr)(ns:List Int),ns.length<=n->DL.SqF (K w.params) H a (ns.map V.int)->sp w [.ref a] H (fun v _=>v=.bl true) fun _ _ _=>False)(hCX:∀(w:World)(H:Hp)(s:Shared)(e:Value)(s':Shared),CX w [] H s (fun _ _ _=>False) e s'->False):PySem.W.WalkO q loose XP YP l.row.toRowW d [] (fun f vs=>PySem.call f vs):=by
 refine Att.Ze0 hn hdf fun w s₀ s₁ mg mb fa o pm cd doc a vs ns G Y ho hd hcd hmg hobj hints hlen hg=>?_;obtain⟨KX,TX⟩:=hY w _ Y;obtain⟨fd,hb,hF⟩:=F w mg fa _ KX G.T.g hmg;exact ZiD KX TX (hT w) G.T.g G.T.b G.T.builtins G.T.nolimit hg hobj hints (Nat.le_trans hlen hn2) hr hF hb (fun H hS=>hsp w H a ns hlen hS) fun H e s'=>hCX w H s₁ e s'
end L2
namespace DL
open PyProof.Rows L2
theorem ZmO{K:Fg}{ns:List Int}(hF:SqF K H a (ns.map V.int))(h:∃M',F [.rol (ns.map D.int)] []=.ok (.bl true) M'):spD K F [.ref a] H (fun v _=>v=.bl true) (fun _ _ _=>False):=by
 obtain⟨M',e⟩:=h;refine⟨[.rol (ns.map D.int)],[],[],.cons (.rol hF (Reps.ints ns)) .nil,HR.nil,?_⟩;rw[e];intro v H' α' _ _ r;cases r;rfl
theorem ZmP{K:Fg}(x:PySem.W.Frag.In (K++T) h):K.In h:=fun b o e=>x b o (by rw[List.lookup_append,e];rfl)
theorem Zkt{K:Fg}(x:PySem.W.Frag.In (K++T) h)(d:T.all (fun p=>(K.lookup p.1).isNone)=true):T.In h:=fun b o e=>x b o (by
 have q:=List.all_eq_true.mp d _ (ZiB e);rw[List.lookup_append,Option.isNone_iff_eq_none.mp q];exact e)
def ZrJ(K:Fg)(x:Str):Bool:=match PySem.W.nsIn K mainGlobals x with
 |some (some (.ref f))=>(match K.lookup f with
  |some ⟨_,_,.func fd,_⟩=>ZeC K fd.code
  |_=>false)
 |_=>false
noncomputable def ZmQ(K:Fg):Bool:=match PySem.W.nsIn K mainGlobals "__builtins__" with
 |some (some (.ref bm))=>(match K.lookup bm with
  |some ⟨.type n,some d,.plain,_⟩=>decide (n="module")&&decide (d=builtinsNs)&&decide (bm≠builtinsNs)&&decide (bm≠mainGlobals)
  |_=>false)
 |_=>false
theorem Zku{K:Fg}(h:ZmQ K=true):ZrG K:=by
 unfold ZmQ at h
 split at h
 ·rename_i bm e1
  split at h
  ·rename_i n d sl e2;simp only[Bool.and_eq_true,decide_eq_true_eq]at h;obtain⟨⟨⟨rfl,rfl⟩,h3⟩,h4⟩:=h;exact⟨bm,_,e1,e2,rfl,rfl,rfl,h3,h4⟩
  ·cases h
 ·cases h
section
variable {K:Fg}{mg:Str->Option Value}
theorem Zo5{st:Stmt}(F:Fun K x qual st f fd)(hl:ZeC K fd.code=true)(S:FnScope N ps (Zl st))(hn:n=ps.length)(hm:m=N.length-n)(hb:∀(cdv:Value)(A:Around)(outer:List Env)(s:Shared)(H:Hp)(E:XK),ZeC K cdv=true->Room k (A.deeper (envOfC qual (Zl st) s.heap.objs.size f cdv))->Thr (ZfG (CXE P w) P w K mg base N qual (Zl st) f cdv A outer s H E) E->DSs (ZfG (CXE P w) P w K mg base N qual (Zl st) f cdv A outer s H E) E (Zah st) g):FnOk P w K mg base (CXE P w) (k+1) f fd ps (spD K (fnF g n m)):=by
 obtain⟨oc,od,kV,doc,pm,an,cdv,ct,osl,rfl,lk,hcd⟩:=F.ex;refine Zoa lk hcd S (fun vs H Q E h=>?_) (fun A outer s H vs Q E hr h=>?_)
 ·obtain⟨ds,α,M,r,_,q⟩:=h;by_cases c:ds.length=n
  ·rw[r.length,c,hn]
  ·simp only[fnF,if_neg c]at q;exact q.elim
 ·obtain⟨ds,α,M,r,hh,q⟩:=h;obtain⟨t,p,w'⟩:=hb cdv A outer s H E hl hr Zk0;by_cases c:ds.length=n
  ·simp only[fnF,if_pos c]at q;refine⟨t,p,w' _ _ H α M _ (SR.start (N:=N) r (k:=m) (by rw[hm,c])) hh ?_⟩
   cases e:g (ds.map some++List.replicate m none) M with
   |nx ρ' M'=>simp only[e]at q;exact fun σ' H' α' ex hr sr=>q _ H' α' ex hr .non
   |ret d M'=>simp only[e]at q;exact q
   |exc x M'=>simp only[e]at q;exact q
   |brk ρ' M'=>simp only[e]at q;exact q.elim
   |cnt ρ' M'=>simp only[e]at q;exact q.elim
   |bad=>simp only[e]at q;exact q.elim
  ·simp only[fnF,if_neg c]at q;exact q.elim
theorem Zo6{st:Stmt}(D:Df K x st)(hl:ZrJ K x=true)(gl:∀c v,PySem.W.nsIn K mainGlobals c=some (some v)->mg c=some v)(hb:∀(cdv:Value)(A:Around)(outer:List Env)(s:Shared)(H:Hp)(E:XK)(f:Addr),ZeC K cdv=true->N.Nodup->Room k (A.deeper (envOfC x (Zl st) s.heap.objs.size f cdv))->Thr (ZfG (CXE P w) P w K mg base N x (Zl st) f cdv A outer s H E) E->DSs (ZfG (CXE P w) P w K mg base N x (Zl st) f cdv A outer s H E) E (Zah st) g)(h1:autoParam ((Zl st).kind=.function) Qrf._auto_1)(h2:autoParam ((Zl st).isCoroutine=false) Qrf._auto_1)(h3:autoParam ((Zl st).isGenerator=false) Qrf._auto_1)(h4:N.Nodup:=by decide +kernel)(h5:autoParam ((N.take n).length=n) Qrf._auto_1)(h6:∀y∈N.take n,(Zl st).names.lookup y=some .local\/(Zl st).names.lookup y=some .cell:=by decide +kernel)(h7:∀y∈(Zl st).names,y.2≠ .free:=by decide +kernel)(hm:autoParam (m=N.length-n) Qrf._auto_1)(bi:∀(kV doc pm:Value)(an:Option Addr)(cdv ct:Value)(us:List Value),us.length=n->bindArgs (PySem.W.fnOf x x (ZaW st) (Zah st) (Zl st) .none kV doc pm an cdv ct) ⟨us,[]⟩=pure ((N.take n).zip us):=by first|exact fun _ _ _ _ _ _=>Zte fun _=>rfl|exact fun _ _ _ _ _ _=>Ztf fun _ _=>rfl|exact fun _ _ _ _ _ _=>Ztg fun _ _ _=>rfl):Cal P w K mg base x (k+1) n (fnF g n m):=by
 obtain⟨f,fd,a,F⟩:=D;have S:FnScope N (N.take n) (Zl st):=⟨h1,h2,h3,h4,by rw[h5],h6,h7⟩
 have hl':ZeC K fd.code=true:=by
  obtain⟨oc,od,kV,doc,pm,an,cdv,ct,osl,e,lk,hcd⟩:=F.ex;unfold ZrJ at hl;rw[a]at hl;dsimp only at hl;rw[lk]at hl;exact hl
 exact⟨f,fd,N.take n,Zo5 F hl' S h5.symm hm (fun cdv A outer s H E hc hr θ=>hb cdv A outer s H E f hc h4 hr θ),gl _ _ a,F.kp,h5,F.binds (fun kV doc pm an cdv ct us hu=>bi kV doc pm an cdv ct us (hu.trans h5))⟩
end
theorem Zuv(hN:X.N=XN)(hd:X.env.scope.names=dn)(hc:X.env.cells=cellsFrom n dn [])(hk:scope.kind=.function)(h:Zmb XN N dn scope.names 1 fr=true)(co:scope.isCoroutine=false)(gen:scope.isGenerator=false)(hx:scope.names.lookup x=some .local)(n0:N[0]?=some x):Lms X scope (clF scope X.env) x N fr:=by
 have B:=ZnA hN hd hc hk h;unfold Zmb at h;simp only[Bool.and_eq_true,List.all_eq_true,bne_iff_ne,ne_eq,Bool.or_eq_true,beq_iff_eq]at h;obtain⟨⟨h1,h2⟩,h3⟩:=h;refine⟨B.clos,hk,co,gen,B.cell,hx,B.sub,fun y z=>?_,n0,B.len,fun j i e=>?_⟩
 ·rcases z with z|z
  ·exact absurd rfl (B.cell _ (PySem.mem_of_lookup z))
  ·obtain⟨kd,r1,r2⟩:=Z2 (env:=X.env) z;refine B.has y ?_;rcases r1 with r1|r1
   ·exact .inl (r1▸r2)
   ·exact .inr (r1▸r2)
 ·obtain⟨y,a1,a2,a3,a4,a5⟩:=B.at_ j i e;refine⟨y,a1,a2,a3,?_,a5⟩;have q:=h3 j (List.mem_range.mpr (List.getElem?_eq_some_iff.mp e).1);rw[e]at q;dsimp only at q;rw[a1,<-hN,a2]at q;simp only[Bool.and_eq_true,beq_iff_eq]at q;exact q.2
end DL
namespace DL
open PyProof.Rows L2
theorem Reps.tk{K:Fg}{H:Hp}{α:List Addr}:∀{vs:List V}{ds:List D}(i:Nat),Reps K H α vs ds->Reps K H α (vs.take i) (ds.take i)
 |_,_,0,_=>.nil
 |_,_,_+1,.nil=>.nil
 |_,_,i+1,.cons r t=>.cons r (Reps.tk i t)
end DL
namespace DL
open PyProof.Rows L2
end DL
namespace DL
open L2
end DL
namespace DQ
open PyProof.Rows
end DQ
namespace DL
open PyProof.Rows L2
end DL
namespace SX
open PySem.Builtin.Str DL
noncomputable def stp(s:Str)(c L:Nat)(b:Array Nat×Nat)(a:Nat):Array Nat×Nat:=if(decide (b.1.size<L)&&decide (b.2<=a)&&decide (a+1<=s.length)&&subAt s ⟨#[c]⟩ a)=true then(b.1.push a,a+1)else(b.1,b.2)
end SX
namespace DL
open PyProof.Rows L2 SX
def okT(z:Str)(lo hi:Option Int):Prop:=0<=lo.getD 0/\lo.getD 0<=hi.getD z.cps.toList.length/\hi.getD z.cps.toList.length<=z.cps.toList.length
instance (z:Str) (lo hi:Option Int):Decidable (okT z lo hi):=by unfold okT;infer_instance
end DL
namespace DQ
open PyProof.Rows
open Builtin Builtin.ObjectAttr
open PySem.W (Looks findIn mroIn specialIn takesIn clsIn looks_findIn looks_mroIn looks_find findObj handedIn hasDictIn lookIn)
end DQ
namespace DL
open PyProof.Rows L2
open PySem.W (nsIn excIn tailIn nsOkIn mroIn clsIn typeIn findIn specialIn takesIn hasDictIn readsIn findCls handedIn)
end DL
namespace DL
open PyProof.Rows L2
open PySem.W (nsIn excIn tailIn nsOkIn mroIn clsIn typeIn findIn specialIn takesIn kitOne Looks looks_mroIn looks_typeIn exmAny exm_tup2)
end DL
namespace DL
open PyProof.Rows L2
theorem ZmR(hl:ds.length=n)(h:g (ds.map some++List.replicate k none) M=.ret d M'):fnF g n k ds M=.ok d M':=by
 unfold fnF;rw[if_pos hl,h]
theorem ZiE{M1:Sto}(e:g ρ M=.nx ρ1 M1):ZE g h ρ M=h ρ1 M1:=by
 unfold ZE;rw[e]
theorem ZiF(h1: -(2^64)<j)(h2:j<2^64):Zt i j:=.inr (.inl (intBits_le_64 h1 h2))
theorem ZiG(h1: -(2^64)<i)(h2:i<2^64):Zt i j:=.inl (intBits_le_64 h1 h2)
theorem at0{x:D}:atI (x::r) 0=some x:=by
 show(ixN (r.length+1) 0).bind _=_;unfold ixN;rw[if_pos (by decide),if_pos (by lia)]
 rfl
theorem at1{x:D}:atI (x::y::r) 1=some y:=by
 show(ixN (r.length+2) 1).bind _=_;unfold ixN;rw[if_pos (by decide),if_pos (by lia)]
 rfl
theorem ix0:ixN (n+1) 0=some 0:=by
 unfold ixN;rw[if_pos (by decide),if_pos (by lia)]
 rfl
theorem ix1:ixN (n+2) 1=some 1:=by
 unfold ixN;rw[if_pos (by decide),if_pos (by lia)]
 rfl
theorem Zkv{ns:List Int}(h:k<ns.length):atI (ns.map D.int) (k:Int)=some (.int ns[k]):=ZlV (by rw[List.getElem?_map,List.getElem?_eq_getElem h];rfl)
theorem Zf7{ρ:Ro}(h:ρ[i]?=some x):ρ.set i x=ρ:=by
 apply List.ext_getElem?;intro k;by_cases hk:k=i
 ·subst hk;rw[List.getElem?_set_self (List.getElem?_eq_some_iff.mp h).1,h]
 ·rw[List.getElem?_set_ne (Ne.symm hk)]
def cEu(i j:Nat):Sv:=ZgD i j (Zc (Zg j) (Zc (e2 dMod (Zg i) (Zg j)) aNil))
theorem Zo7{c:Tv}{i j:Nat}{M:Sto}(hij:i≠j)(hc:∀(ρ:Ro)(b:Nat),ρ[j]?=some (some (.int b))->c ρ M=.ok (decide (b≠0)) M):∀(b a:Nat)(ρ:Ro),ρ[i]?=some (some (.int a))->ρ[j]?=some (some (.int b))->sWh c (cEu i j) ρ M=.nx ((ρ.set i (some (.int (Nat.gcd a b:Nat)))).set j (some (.int 0))) M:=by
 intro b
 induction b using Nat.strongRecOn with
 |ind b ih=>
  intro a ρ hi hj;by_cases h0:b=0
  ·subst h0;rw[Zee (M1:=M) (by rw[hc ρ 0 hj];rfl),Nat.gcd_zero_right,Zf7 hi,Zf7 (x:=some (.int 0)) hj]
  ·have hl:i<ρ.length:=(List.getElem?_eq_some_iff.mp hi).1;have hl2:j<ρ.length:=(List.getElem?_eq_some_iff.mp hj).1;have ht:c ρ M=.ok true M:=by rw[hc ρ b hj,decide_eq_true h0]
   have hb:cEu i j ρ M=.nx ((ρ.set i (some (.int b))).set j (some (.int (a%b:Nat)))) M:=by
    have hb0:¬(b:Int)=0:=by lia
    have hm:(a:Int).fmod (b:Int)=((a%b:Nat):Int):=by rw[Int.fmod_eq_emod_of_nonneg _ (by lia)];rfl
    simp[cEu,ZgD,Zc,aNil,Zg,e2,dMod,Out.bind,Z3,hi,hj,hb0,hm,h0]
   have g1:((ρ.set i (some (.int b))).set j (some (.int (a%b:Nat))))[i]?=some (some (.int b)):=by
    rw[List.getElem?_set_ne (Ne.symm hij),List.getElem?_set_self hl]
   have g2:((ρ.set i (some (.int b))).set j (some (.int (a%b:Nat))))[j]?=some (some (.int (a%b:Nat))):=by
    rw[List.getElem?_set_self (by simpa using hl2)]
   have q:=ih (a%b) (Nat.mod_lt _ (by lia)) b _ g1 g2
   rw[ZfT ht hb (by rw[q];intro z;cases z),q]
   have eg:Nat.gcd b (a%b)=Nat.gcd a b:=by rw[Nat.gcd_comm b,<-Nat.gcd_rec,Nat.gcd_comm]
   rw[eg,List.set_comm _ _ (Ne.symm hij),List.set_set,List.set_set]
theorem Zo8:eqF 12 M (.int a) (.int b)=some (a==b):=rfl
theorem ne0(ρ:Ro)(b:Nat)(h:ρ[j]?=some (some (.int b))):tv (e2 dNe (Zg j) (eC (.int 0))) ρ M=.ok (decide (b≠0)) M:=by
 simp[tv,e2,Zg,eC,h,Out.bind,dNe,Zo8];by_cases c:b=0
 ·subst c;rfl
 ·have:¬(b:Int)=0:=by lia
  simp[c,this]
theorem ZiH(a:Int):(if a<0 then -a else a)=(a.natAbs:Int):=by split<;>lia
def Zuw:Sv:=(ZE (ZgD 2 3 (Zc (Zj bAbs (Zc (Zg 0) aNil)) (Zc (Zj bAbs (Zc (Zg 1) aNil)) aNil))) (ZE (sWh (tv (e2 dNe (Zg 3) (eC (.int 0)))) (ZgD 2 3 (Zc (Zg 3) (Zc (e2 dMod (Zg 2) (Zg 3)) aNil)))) (Z6 (Zg 2))))
def FGcd:W3:=fnF Zuw 2 2
theorem Zlg(a b:Int)(M:Sto):FGcd [.int a,.int b] M=.ok (.int (Int.gcd a b:Nat)) M:=by
 refine ZmR rfl ?_;refine(ZiE (ρ1:=[some (.int a),some (.int b),some (.int (a.natAbs:Nat)),some (.int (b.natAbs:Nat))]) (M1:=M) ?_).trans ?_
 ·simp[fnF,ZE,sNil,Z6,Zrj,ZbC,sIf,ZJ,ZgD,Zl7,Z3,gNm,gNl,gCs,gTp,DL.e2,Zg,eC,Zak,Zcw,Zj,Zc,aNil,tv,Zct,ZgT,Zcc,Zd8,Zul,ZgC,eIf,Ze2,Zjq,Out.bind,dAdd,dSub,dMul,dDiv,dMod,dPow,dLt,dLe,dGt,dGe,dIx,atD,at0,at1,ix0,ix1,bLen,bAbs,bMax,bMin,Zun,bList,Zea,Za0,kd,ZeU,dIs,dIsNot,isP,ZiH]
 ·have q:=Zo7 (c:=tv (e2 dNe (Zg 3) (eC (.int 0)))) (i:=2) (j:=3) (M:=M) (by decide) ne0 b.natAbs a.natAbs [some (.int a),some (.int b),some (.int (a.natAbs:Nat)),some (.int (b.natAbs:Nat))] rfl rfl
  refine(ZiE q).trans ?_;rfl
end DL
namespace DL
open PyProof.Rows L2
noncomputable def wO(o:Out β)(Q:β->Sto->Prop)(E:W2):Prop:=match o with
 |.ok a M=>Q a M
 |.exc c M=>E c M
 |.bad=>False
def wS(f:Fl)(N:W1)(R:W0)(B C:W1)(E:W2):Prop:=match f with
 |.nx ρ M=>N ρ M
 |.ret d M=>R d M
 |.brk ρ M=>B ρ M
 |.cnt ρ M=>C ρ M
 |.exc c M=>E c M
 |.bad=>False
noncomputable def Br(k:Bool)(A B:Prop):Prop:=(k=true->A)/\(k=false->B)
noncomputable def wG{β:Type}(o:Option β)(N:β->Prop):Prop:=match o with|some ρ=>N ρ|none=>False
noncomputable def wV(o:Option (Option D))(Q:D->Prop):Prop:=match o with|some (some d)=>Q d|_=>False
noncomputable def wI(x:D)(Q:Int->Prop):Prop:=match x with|.int i=>Q i|_=>False
noncomputable def wR(x:D)(Q:Nat->Prop):Prop:=match x with|.ref i=>Q i|_=>False
noncomputable def w1(x:List D)(Q:D->Prop):Prop:=match x with|[v]=>Q v|_=>False
noncomputable def w2(x:List D)(Q:D->D->Prop):Prop:=match x with|[v,w]=>Q v w|_=>False
noncomputable def wL(o:Option SO)(Q:List D->Prop):Prop:=match o with|some (.lst xs)=>Q xs|none=>False
section
variable {β:Type}{QG:β->Prop}{y:β}
theorem Zux:w1 [d] Q=Q d:=rfl
theorem Zuy:w2 [d,x] Q2=Q2 d x:=rfl
theorem Zuz:wV (some (some d)) Q=Q d:=rfl
theorem ZuA:wI (.int i) QI=QI i:=rfl
theorem ZuB:wR (.ref n) QR=QR n:=rfl
theorem ZuC:wL (some (.lst xs)) QL=QL xs:=rfl
theorem ZuD:wG (some y) QG=QG y:=rfl
end
section
variable {β:Type}{Q:β->Sto->Prop}{A A':Prop}
theorem Zn{d:β}:wO (.ok d M) Q E=Q d M:=rfl
theorem Zo9:Br true A A'=A:=by simp[Br]
theorem Ztl:Br false A A'=A':=by simp[Br]
theorem br(h1:k=true->A)(h2:k=false->A'):Br k A A':=⟨h1,h2⟩
theorem brD{p:Prop}[Decidable p](h1:p->A)(h2:¬p->A'):Br (decide p) A A':=⟨fun h=>h1 (of_decide_eq_true h),fun h=>h2 (of_decide_eq_false h)⟩
theorem ZbN{o:Out β}{Q':β->Sto->Prop}(h:wO o Q E)(hq:∀d M,Q d M->Q' d M)(he:∀c M,E c M->E' c M):wO o Q' E':=by
 cases o with
 |ok d M=>exact hq d M h
 |exc c M=>exact he c M h
 |bad=>exact h
theorem ZbF{o:Out β}(h:wO o Q (fun _ _=>False)):∃d M',o=.ok d M'/\Q d M':=by
 cases o with
 |ok d M=>exact⟨d,M,rfl,h⟩
 |exc c M=>exact h.elim
 |bad=>exact h.elim
theorem Zx{o:Out γ}{f:γ->Sto->Out β}:wO (o.bind f) Q E=wO o (fun x M1=>wO (f x M1) Q E) E:=by cases o<;>rfl
end
section
variable {E:W2}{N B C:W1}{R:W0}{ρ:Ro}{M:Sto}{e f:Ev}
theorem ZrK:wO (e2 op f g ρ M) Q E=wO (f ρ M) (fun x M1=>wO (g ρ M1) (fun y M2=>wO (op x y M2) Q E) E) E:=by
 unfold e2;rw[Zx];congr 1;funext x M1;rw[Zx]
theorem ZuE:wO (Zg i ρ M) Q E=wV ρ[i]? (fun d=>Q d M):=by
 unfold Zg;cases ρ[i]? with
 |none=>rfl
 |some o=>cases o<;>rfl
theorem ZmS:wO (Zj F fs ρ M) Q E=wO (fs ρ M) (fun ds M1=>wO (F ds M1) Q E) E:=Zx
theorem ZmT:wO (Zc f fs ρ M) Q E=wO (f ρ M) (fun x M1=>wO (fs ρ M1) (fun xs M2=>Q (x::xs) M2) E) E:=by
 unfold Zc;rw[Zx];congr 1;funext x M1;rw[Zx];congr 1
theorem Zpa:wO (Zak fs ρ M) Q E=wO (fs ρ M) (fun xs M1=>xs.length<=1000/\Q (.tup xs) M1) E:=by
 unfold Zak;rw[Zx];congr 1;funext x M1;by_cases h:x.length<=1000
 ·rw[if_pos h];simp[h,wO]
 ·rw[if_neg h];simp[h,wO]
theorem Zpb:wO (Zcw fs ρ M) Q E=wO (fs ρ M) (fun xs M1=>xs.length<=1000/\Q (.ref M1.length) (M1++[.lst xs])) E:=by
 unfold Zcw;rw[Zx];congr 1;funext x M1;by_cases h:x.length<=1000
 ·rw[if_pos h];simp[h,wO]
 ·rw[if_neg h];simp[h,wO]
theorem Zpc:wO (Zcc t ρ M) Q E=wO (t ρ M) (fun k M1=>Q (!k) M1) E:=by
 unfold Zcc;rw[Zx];congr 1
theorem Zpd:wS (ZE a b ρ M) N R B C E=wS (a ρ M) (fun ρ1 M1=>wS (b ρ1 M1) N R B C E) R B C E:=by
 unfold ZE;cases a ρ M<;>rfl
theorem ZO{o:Out β}{k:β->Sto->Fl}:wS (Z3 o k) N R B C E=wO o (fun x M1=>wS (k x M1) N R B C E) E:=by cases o<;>rfl
theorem Zpe:wS (Z6 f ρ M) N R B C E=wO (f ρ M) R E:=ZO
theorem ZmU:wS (ZbC f ρ M) N R B C E=wO (f ρ M) (fun _ M1=>N ρ M1) E:=ZO
theorem Zpf:wS (ZJ (gNm i) f ρ M) N R B C E=wO (f ρ M) (fun d M1=>N (ρ.set i (some d)) M1) E:=ZO
theorem ZmV:wS (ZJ (gTp gs) f ρ M) N R B C E=wO (f ρ M) (fun d M1=>wG (gTp gs d ρ) (fun r=>N r M1)) E:=by
 unfold ZJ;rw[ZO];congr 1;funext d M1;cases gTp gs d ρ<;>rfl
theorem Zpg:wS (ZgD i j fs ρ M) N R B C E=wO (fs ρ M) (fun ds M1=>w2 ds fun v w=>N ((ρ.set i (some v)).set j (some w)) M1) E:=by
 unfold ZgD;rw[ZO];congr 1;funext ds M1;rcases ds with _|⟨v,_|⟨w,_|⟨z,r⟩⟩⟩<;>rfl
theorem Zph:wS (Zl7 fo fi f ρ M) N R B C E=wO (f ρ M) (fun d M1=>wO (fo ρ M1) (fun o M2=>wO (fi ρ M2) (fun i M3=>wR o fun n=>wI i fun k=>wL M3[n]? fun xs=>wG (ixN xs.length k) fun j=>N ρ (M3.set n (.lst (xs.set j d)))) E) E) E:=by
 unfold Zl7;rw[ZO];congr 1;funext d M1;rw[ZO];congr 1;funext o M2;rw[ZO];congr 1;funext i M3;cases o<;>cases i<;>try rfl
 rename_i n k;cases e:M3[n]? with
 |none=>simp only[e,wR,wI,wL,wS]
 |some s=>
  cases s with
  |lst xs=>
   cases e2:ixN xs.length k<;>simp only[e,e2,wR,wI,wL,wG,wS]
theorem wF(hl:ds.length=n):wO (fnF a n k ds M) Q E=wS (a (ds.map some++List.replicate k none) M) (fun _ M1=>Q .non M1) Q (fun _ _=>False) (fun _ _=>False) E:=by
 unfold fnF;rw[if_pos hl];cases a (ds.map some++List.replicate k none) M<;>rfl
theorem ZiI(h:wS o N R B C E)(hn:∀ρ M,N ρ M->N' ρ M)(hr:∀d M,R d M->R' d M)(hb:∀ρ M,B ρ M->B' ρ M)(hc:∀ρ M,C ρ M->C' ρ M)(he:∀c M,E c M->E' c M):wS o N' R' B' C' E':=by
 cases o with
 |nx ρ M=>exact hn _ _ h
 |ret ρ M=>exact hr _ _ h
 |brk ρ M=>exact hb _ _ h
 |cnt ρ M=>exact hc _ _ h
 |exc ρ M=>exact he _ _ h
 |bad=>exact h
variable {tg:Tg}{bd:Sv}
theorem ZiJ(I:Nat->Ro->Sto->Prop):∀(xs:List D)(k:Nat)(ρ:Ro)(M:Sto),I k ρ M->(∀i ρ M (h:i<xs.length),I (k+i) ρ M->wG (tg xs[i] ρ) fun r=>wS (bd r M) (I (k+i+1)) R N (I (k+i+1)) E)->(∀ρ M,I (k+xs.length) ρ M->N ρ M)->wS (Zbo tg bd xs ρ M) N R B C E
 |[],k,ρ,M,h,_,hn=>hn ρ M h
 |x::xs,k,ρ,M,h,st,hn=>by
  have s:=st 0 ρ M (by simp) h
  unfold Zbo;simp only[List.getElem_cons_zero,Nat.add_zero]at s;cases e:tg x ρ with
  |none=>rw[e]at s;exact s.elim
  |some ρ1=>
   rw[e]at s;simp only[wG]at s;have rc:∀ρ2 M2,I (k+1) ρ2 M2->wS (Zbo tg bd xs ρ2 M2) N R B C E:=fun ρ2 M2 h2=>ZiJ I xs (k+1) ρ2 M2 h2 (fun i ρ M hi hI=>by
    have z:=st (i+1) ρ M (by simp;lia) (by rw[show k+(i+1)=k+1+i by lia];exact hI)
    simp only[List.getElem_cons_succ]at z;rw[show k+(i+1)+1=k+1+i+1 by lia]at z
    exact z) (fun ρ M hI=>hn ρ M (by rw[show k+(x::xs).length=k+1+xs.length by simp;lia];exact hI))
   cases eg:bd ρ1 M<;>rw[eg]at s<;>simp only[eg]
   ·exact rc _ _ s
   ·exact s
   ·exact s
   ·exact rc _ _ s
   ·exact s
   ·exact s
theorem ZmW:wS (Za1 tg fs bd ρ M) N R B C E=wO (fs ρ M) (fun ds M1=>w1 ds fun d=>wI d fun j=>(-(2^62)<=j/\j<2^62)/\wS (Zbo tg bd (Zaf 0 j.toNat) ρ M1) N R B C E) E:=by
 unfold Za1;rw[ZO];congr 1;funext ds M1;rcases ds with _|⟨v,_|⟨w,r⟩⟩
 ·rfl
 ·cases v<;>try rfl
  rename_i j;by_cases h: -(2^62)<=j/\j<2^62
  ·simp only[w1,wI,eq_true h,true_and,if_true]
  ·simp only[w1,wI,eq_false h,false_and,if_false];rfl
 ·cases v<;>rfl
theorem Zb3(I:Nat->Ro->Sto->Prop){lo:Int}(h0:I 0 ρ M)(st:∀i ρ M,i<n->I i ρ M->wG (tg (.int (lo+i)) ρ) fun r=>wS (bd r M) (I (i+1)) R N (I (i+1)) E)(hn:∀ρ M,I n ρ M->N ρ M):wS (Zbo tg bd (Zaf lo n) ρ M) N R B C E:=by
 have hl:(Zaf lo n).length=n:=by simp[Zaf]
 refine ZiJ I _ 0 ρ M h0 (fun i ρ M h hI=>?_) (fun ρ M hI=>hn ρ M (by rw[hl,Nat.zero_add]at hI;exact hI))
 have:(Zaf lo n)[i]=.int (lo+i):=by simp[Zaf]
 rw[this];rw[Nat.zero_add]at *;exact st i ρ M (by rw[hl]at h;exact h) hI
theorem Zpi:wS (Zjr tg f bd ρ M) N R B C E=wO (f ρ M) (fun d M1=>wS (Zl8 tg bd d ρ M1) N R B C E) E:=ZO
theorem ZmX(I:Nat->Ro->Sto->Prop){n:Nat}{xs:List D}:∀(f i:Nat)(ρ:Ro)(M:Sto),i+f=xs.length->I i ρ M->(∀i ρ M,I i ρ M->M[n]?=some (.lst xs))->(∀i ρ M (h:i<xs.length),I i ρ M->wG (tg xs[i] ρ) fun r=>wS (bd r M) (I (i+1)) R N (I (i+1)) E)->(∀ρ M,I xs.length ρ M->N ρ M)->wS (ZgU tg bd n f i ρ M) N R B C E:=by
  intro f
  induction f with
  |zero=>
   intro i ρ M e h hm st hn;have hx:=hm _ _ _ h;unfold ZgU;rw[hx]
   have:xs[i]?=none:=List.getElem?_eq_none (by lia)
   simp only[this];exact hn ρ M (by rw[show xs.length=i by lia];exact h)
  |succ f ih=>
   intro i ρ M e h hm st hn;have hx:=hm _ _ _ h;unfold ZgU;rw[hx];have hi:i<xs.length:=by lia
   have:xs[i]?=some xs[i]:=Gq hi
   simp only[this];have s:=st i ρ M hi h;cases e:tg xs[i] ρ with
   |none=>rw[e]at s;exact s.elim
   |some ρ1=>
    rw[e]at s;simp only[wG]at s;have rc:∀ρ2 M2,I (i+1) ρ2 M2->wS (ZgU tg bd n f (i+1) ρ2 M2) N R B C E:=fun ρ2 M2 h2=>ih (i+1) ρ2 M2 (by lia) h2 hm st hn
    cases eg:bd ρ1 M<;>rw[eg]at s<;>simp only[eg]
    ·exact rc _ _ s
    ·exact s
    ·exact s
    ·exact rc _ _ s
    ·exact s
    ·exact s
theorem ZbO(I:Nat->Ro->Sto->Prop)(hM:M[n]?=some (.lst xs))(h0:I 0 ρ M)(hm:∀i ρ M,I i ρ M->M[n]?=some (.lst xs))(st:∀i ρ M (h:i<xs.length),I i ρ M->wG (tg xs[i] ρ) fun r=>wS (bd r M) (I (i+1)) R N (I (i+1)) E)(hn:∀ρ M,I xs.length ρ M->N ρ M):wS (Zl8 tg bd (.ref n) ρ M) N R B C E:=by
 show wS (match M[n]? with|some (.lst xs)=>ZgU tg bd n xs.length 0 ρ M|none=>.bad) N R B C E
 rw[hM];exact ZmX I xs.length 0 ρ M (by lia) h0 hm st hn
theorem ZmY:wS (Ze7 tg fi bd ρ M) N R B C E=wO (fi ρ M) (fun src M1=>wS (Zem tg bd src (cnt src M1) 0 ρ M1) N R B C E) E:=ZO
theorem Zf8(I:Nat->Ro->Sto->Prop){src:Src}{xs:List D}:∀(f i:Nat)(ρ:Ro)(M:Sto),i<=xs.length->xs.length<=i+f->I i ρ M->(∀i ρ M,i<=xs.length->I i ρ M->nxt src i M=some xs[i]?)->(∀i ρ M (h:i<xs.length),I i ρ M->wG (tg xs[i] ρ) fun r=>wS (bd r M) (I (i+1)) R N (I (i+1)) E)->(∀ρ M,I xs.length ρ M->N ρ M)->wS (Zem tg bd src f i ρ M) N R B C E:=by
  intro f
  induction f with
  |zero=>
   intro i ρ M le e h hm st hn;have hx:=hm _ _ _ le h;unfold Zem;rw[hx];have hi:¬i<xs.length:=by lia
   have:xs[i]?=none:=List.getElem?_eq_none (by lia)
   simp only[this];exact hn ρ M (by rw[show xs.length=i by lia];exact h)
  |succ f ih=>
   intro i ρ M le e h hm st hn;have hx:=hm _ _ _ le h;unfold Zem;rw[hx];by_cases hi:i<xs.length
   ·have:xs[i]?=some xs[i]:=Gq hi
    simp only[this];have s:=st i ρ M hi h;cases e:tg xs[i] ρ with
    |none=>rw[e]at s;exact s.elim
    |some ρ1=>
     rw[e]at s;simp only[wG]at s;have rc:∀ρ2 M2,I (i+1) ρ2 M2->wS (Zem tg bd src f (i+1) ρ2 M2) N R B C E:=fun ρ2 M2 h2=>ih (i+1) ρ2 M2 (by lia) (by lia) h2 hm st hn
     cases eg:bd ρ1 M<;>rw[eg]at s<;>simp only[eg]
     ·exact rc _ _ s
     ·exact s
     ·exact s
     ·exact rc _ _ s
     ·exact s
     ·exact s
   ·have:xs[i]?=none:=List.getElem?_eq_none (by lia)
    simp only[this];exact hn ρ M (by rw[show xs.length=i by lia];exact h)
theorem Zkw{c:Tv}(I:Nat->Ro->Sto->Prop)(st:∀n ρ M,I n ρ M->wO (c ρ M) (fun k M1=>Br k (wS (bd ρ M1) (fun ρ2 M2=>∃m,m<n/\I m ρ2 M2) R N (fun ρ2 M2=>∃m,m<n/\I m ρ2 M2) E) (N ρ M1)) E):∀(n:Nat)(ρ:Ro)(M:Sto),I n ρ M->wS (sWh c bd ρ M) N R B C E:=by
 intro n
 induction n using Nat.strongRecOn with
 |ind n ih=>
  intro ρ M h;have s:=st n ρ M h;cases ec:c ρ M with
  |bad=>rw[ec]at s;exact s.elim
  |exc x M1=>rw[ec]at s;rw[Zb1 (n:=1) (o:=.exc x M1) (by simp only[whN,ec])];exact s
  |ok k M1=>
   rw[ec]at s;cases k with
   |false=>
    rw[Zn,Ztl]at s;rw[Zee ec];exact s
   |true=>
    rw[Zn,Zo9]at s;cases eg:bd ρ M1 with
    |nx ρ2 M2=>
     rw[eg]at s;obtain⟨m,hm,hI⟩:=s;have r:=ih m hm ρ2 M2 hI;rw[ZfT ec eg (by intro z;rw[z]at r;exact r)]
     exact r
    |cnt ρ2 M2=>
     rw[eg]at s;obtain⟨m,hm,hI⟩:=s;have r:=ih m hm ρ2 M2 hI;have nb:sWh c bd ρ2 M2≠ .bad:=by intro z;rw[z]at r;exact r
     obtain⟨j,ej⟩:=ZhB nb;rw[Zb1 (n:=j+1) (o:=sWh c bd ρ2 M2) (by simp only[whN,ec,eg];exact ej)]
     exact r
    |brk ρ2 M2=>rw[eg]at s;rw[Zb1 (n:=1) (o:=.nx ρ2 M2) (by simp only[whN,ec,eg])];exact s
    |ret d M2=>rw[eg]at s;rw[Zb1 (n:=1) (o:=.ret d M2) (by simp only[whN,ec,eg])];exact s
    |exc d M2=>rw[eg]at s;rw[Zb1 (n:=1) (o:=.exc d M2) (by simp only[whN,ec,eg])];exact s
    |bad=>rw[eg]at s;exact s.elim
theorem ZmZ:wO (Zal fi k fr tg c f ρ M) Q E=wO (fi ρ M) (fun src M1=>wO (Zcj src tg c f M1.length (cnt src M1) 0 (roB k fr ρ) (M1++[.lst []])) (fun _ M2=>Q (.ref M1.length) M2) (fun _ _=>False)) E:=by
 unfold Zal;rw[Zx];congr 1;funext src M1;cases Zcj src tg c f M1.length (cnt src M1) 0 (roB k fr ρ) (M1++[.lst []])<;>rfl
theorem ZiK(I:Nat->Ro->Sto->Prop){src:Src}{xs:List D}{c:Tv}{m:Nat}{Q:Sto->Prop}:∀(fu i:Nat)(ρ:Ro)(M:Sto),i<=xs.length->xs.length<=i+fu->I i ρ M->(∀i ρ M,i<=xs.length->I i ρ M->nxt src i M=some xs[i]?)->(∀i ρ M (h:i<xs.length),I i ρ M->wG (tg xs[i] ρ) fun r=>wO (c r M) (fun k M1=>Br k (wO (f r M1) (fun y M2=>wL M2[m]? fun ys=>ys.length<10000000/\I (i+1) r (M2.set m (.lst (ys++[y])))) (fun _ _=>False)) (I (i+1) r M1)) (fun _ _=>False))->(∀ρ M,I xs.length ρ M->Q M)->wO (Zcj src tg c f m fu i ρ M) (fun _ M2=>Q M2) (fun _ _=>False):=by
  intro fu
  induction fu with
  |zero=>
   intro i ρ M le e h hm st hn;have hx:=hm _ _ _ le h;unfold Zcj;rw[hx];have hi:¬i<xs.length:=by lia
   have:xs[i]?=none:=List.getElem?_eq_none (by lia)
   simp only[this];exact hn ρ M (by rw[show xs.length=i by lia];exact h)
  |succ fu ih=>
   intro i ρ M le e h hm st hn;have hx:=hm _ _ _ le h;unfold Zcj;rw[hx];by_cases hi:i<xs.length
   ·have:xs[i]?=some xs[i]:=Gq hi
    simp only[this];have s:=st i ρ M hi h;cases e:tg xs[i] ρ with
    |none=>rw[e]at s;exact s.elim
    |some ρ1=>
     rw[e]at s;simp only[wG]at s;have rc:∀ρ2 M2,I (i+1) ρ2 M2->wO (Zcj src tg c f m fu (i+1) ρ2 M2) (fun _ M2=>Q M2) (fun _ _=>False):=fun ρ2 M2 h2=>ih (i+1) ρ2 M2 (by lia) (by lia) h2 hm st hn
     cases ec:c ρ1 M with
     |bad=>rw[ec]at s;exact s.elim
     |exc _ _=>rw[ec]at s;exact s.elim
     |ok k M1=>
      rw[ec]at s;rw[Zn]at s;cases k with
      |false=>
       rw[Ztl]at s;simp only[ec];exact rc _ _ s
      |true=>
       rw[Zo9]at s;simp only[ec];cases ef:f ρ1 M1 with
       |bad=>rw[ef]at s;exact s.elim
       |exc _ _=>rw[ef]at s;exact s.elim
       |ok y M2=>
        rw[ef,Zn]at s;simp only[ef];cases ey:M2[m]? with
        |none=>rw[ey]at s;exact s.elim
        |some o=>
         cases o with
         |lst ys=>
          rw[ey]at s;simp only[wL,ey]at s ⊢;rw[if_pos s.1];exact rc _ _ s.2
   ·have:xs[i]?=none:=List.getElem?_eq_none (by lia)
    simp only[this];exact hn ρ M (by rw[show xs.length=i by lia];exact h)
end
end DL
namespace DL
open PyProof.Rows L2
section
variable {ρ:Ro}{M:Sto}{n:Nat}{lo:Ro->Sto->Out (Option Int)}
theorem ZeH(h: -(18446744073709551616)<i/\i<18446744073709551616):Zt i j:=ZiG h.1 h.2
theorem Zdz(h: -(18446744073709551616)<j/\j<18446744073709551616):Zt i j:=ZiF h.1 h.2
theorem ZeJ(h:0<j/\j<18446744073709551616):ZaB j:=by
 refine⟨by lia,?_⟩
 have:j.natAbs.log2<64:=(Nat.log2_lt (by lia)).mpr (by lia)
 lia
theorem ZrL:wO (dAdd (.int i) (.int j) M) Q E=Q (.int (i+j)) M:=rfl
theorem ZrM:wO (dSub (.int i) (.int j) M) Q E=Q (.int (i-j)) M:=rfl
theorem ZI(h:Zt i j):wO (dMul (.int i) (.int j) M) Q E=Q (.int (i*j)) M:=by
 show wO (if Zt i j then _ else _) Q E=_
 rw[if_pos h];rfl
theorem ZrN(h: -(18446744073709551616)<i/\i<18446744073709551616):wO (dMul (.int i) (.int j) M) Q E=Q (.int (i*j)) M:=ZI (ZeH h)
theorem Zpj(h: -(18446744073709551616)<j/\j<18446744073709551616):wO (dMul (.int i) (.int j) M) Q E=Q (.int (i*j)) M:=ZI (Zdz h)
theorem ZrO(h:0<j/\j<18446744073709551616):wO (dDiv (.int i) (.int j) M) Q E=Q (.int (i/j)) M:=by
 show wO (if ZaB j then _ else _) Q E=_
 rw[if_pos (ZeJ h),Int.fdiv_eq_ediv_of_nonneg _ (by lia)];rfl
theorem ZrP(h:0<j):wO (dMod (.int i) (.int j) M) Q E=Q (.int (i%j)) M:=by
 show wO (if j≠0 then _ else _) Q E=_
 rw[if_pos (by lia),Int.fmod_eq_emod_of_nonneg _ (by lia)];rfl
theorem ZrQ(h:0<=j/\j<=1000000/\i.natAbs<18446744073709551616):wO (dPow (.int i) (.int j) M) Q E=Q (.int (i^j.toNat)) M:=by
 show wO (if 0<=j/\j<=1000000/\i.natAbs<2^64 then _ else _) Q E=_
 rw[if_pos ⟨h.1,h.2.1,by lia⟩];rfl
theorem ZuF:wO (dLt (.int i) (.int j) M) Q E=Q (.bl (decide (i<j))) M:=rfl
theorem ZuG:wO (dLe (.int i) (.int j) M) Q E=Q (.bl (decide (i<=j))) M:=rfl
theorem ZuH:wO (dGt (.int i) (.int j) M) Q E=Q (.bl (decide (j<i))) M:=rfl
theorem ZuI:wO (dGe (.int i) (.int j) M) Q E=Q (.bl (decide (j<=i))) M:=rfl
theorem ZrR:wO (dAdd (.ref n) (.ref m) M) Q E=wL M[n]? fun xs=>wL M[m]? fun ys=>xs.length+ys.length<=10000000/\Q (.ref M.length) (M++[.lst (xs++ys)]):=by
 show wO (match M[n]?,M[m]? with|some (.lst xs),some (.lst ys)=>_|_,_=>_) Q E=_
 cases e1:M[n]? with
 |none=>rfl
 |some o=>
  cases o with
  |lst xs=>
   cases e2:M[m]? with
   |none=>rfl
   |some p=>
    cases p with
    |lst ys=>
     by_cases h:xs.length+ys.length<=10000000
     ·simp[wL,h,wO]
     ·simp[wL,h,wO]
theorem ZuJ:wO (dEq x y M) Q E=wG (eqF 12 M x y) fun b=>Q (.bl b) M:=by
 show wO (match eqF 12 M x y with|some b=>_|none=>_) Q E=_
 cases eqF 12 M x y<;>rfl
theorem ZuK:wO (dNe x y M) Q E=wG (eqF 12 M x y) fun b=>Q (.bl (!b)) M:=by
 show wO (match eqF 12 M x y with|some b=>_|none=>_) Q E=_
 cases eqF 12 M x y<;>rfl
theorem ZuL:wO (dIs x y M) Q E=wG (isP x y) fun b=>Q (.bl b) M:=by
 show wO (match isP x y with|some b=>_|none=>_) Q E=_
 cases isP x y<;>rfl
theorem ZrS:wO (dIsNot x y M) Q E=wG (isP x y) fun b=>Q (.bl (!b)) M:=by
 show wO (match isP x y with|some b=>_|none=>_) Q E=_
 cases isP x y<;>rfl
theorem Zm0:wO (atD xs i M) Q E=wG (atI xs i) fun d=>Q d M:=by
 unfold atD;cases atI xs i<;>rfl
theorem ZrT:wO (dIx (.tup xs) (.int i) M) Q E=wG (atI xs i) fun d=>Q d M:=Zm0
theorem ZrU:wO (dIx (.rol xs) (.int i) M) Q E=wG (atI xs i) fun d=>Q d M:=Zm0
theorem ZrV:wO (dIx (.ref n) (.int i) M) Q E=wL M[n]? fun xs=>wG (atI xs i) fun d=>Q d M:=by
 show wO (match M[n]? with|some (.lst xs)=>atD xs i M|_=>.bad) Q E=_
 cases e1:M[n]? with
 |none=>rfl
 |some o=>cases o with|lst xs=>exact Zm0
theorem Zpk:wO (bLen [.ref n] M) Q E=wL M[n]? fun xs=>Q (.int xs.length) M:=by
 show wO (match(match M[n]? with|some (.lst xs)=>some xs|_=>none)with|some xs=>_|none=>_) Q E=_
 cases e1:M[n]? with
 |none=>rfl
 |some o=>cases o with|lst xs=>rfl
theorem Zpl:wO (bLen [.tup xs] M) Q E=Q (.int xs.length) M:=rfl
theorem Zpm:wO (bLen [.rol xs] M) Q E=Q (.int xs.length) M:=rfl
theorem ZrW:wO (bAbs [.int i] M) Q E=Q (.int (i.natAbs:Int)) M:=by rw[<-ZiH];rfl
theorem ZrX:wO (bMax [.int i,.int j] M) Q E=Q (.int (max i j)) M:=by
 have:max i j=if j>i then j else i:=by split<;>lia
 rw[this];rfl
theorem ZrY:wO (bMin [.int i,.int j] M) Q E=Q (.int (min i j)) M:=by
 have:min i j=if j<i then j else i:=by split<;>lia
 rw[this];rfl
theorem Zm1:wO (bList [.ref n] M) Q E=wL M[n]? fun xs=>Q (.ref M.length) (M++[.lst xs]):=by
 show wO (match(match M[n]? with|some (.lst xs)=>some xs|_=>none)with|some xs=>_|none=>_) Q E=_
 cases e1:M[n]? with
 |none=>rfl
 |some o=>cases o with|lst xs=>rfl
theorem ZrZ:wO (bAll [.ref n] M) Q E=wL M[n]? fun xs=>wG (Zad xs) fun bs=>Q (.bl (bs.all id)) M:=by
 show wO (match M[n]? with|some (.lst xs)=>(match Zad xs with|some bs=>Out.ok (.bl (bs.all id)) M|none=>.bad)|none=>.bad) Q E=_
 cases e1:M[n]? with
 |none=>rfl
 |some o=>
  cases o with
  |lst xs=>
   show wO (match Zad xs with|some bs=>Out.ok (.bl (bs.all id)) M|none=>.bad) Q E=wG (Zad xs) _
   cases Zad xs<;>rfl
theorem Zpn:wO (ZcC g [.ref n] M) Q E=wL M[n]? fun xs=>wG (ZaD xs) fun ns=>wG (g ns) fun i=>Q (.int i) M:=by
 show wO (match(match M[n]? with|some (.lst xs)=>some xs|_=>none)with|some xs=>(match ZaD xs with|some ns=>(match g ns with|some i=>Out.ok (.int i) M|none=>.bad)|none=>.bad)|none=>.bad) Q E=_
 cases e1:M[n]? with
 |none=>rfl
 |some o=>
  cases o with
  |lst xs=>
   show wO (match ZaD xs with|some ns=>(match g ns with|some i=>Out.ok (.int i) M|none=>.bad)|none=>.bad) Q E=wG (ZaD xs) _
   cases ZaD xs with
   |none=>rfl
   |some ns=>
    show wO (match g ns with|some i=>Out.ok (.int i) M|none=>.bad) Q E=wG (g ns) _
    cases g ns<;>rfl
theorem ZuM:wO (ZgV g fo fs ρ M) Q E=wO (fo ρ M) (fun x M1=>Zmf x M1=true/\wO (fs ρ M1) (fun ds M2=>wO (g x ds M2) Q E) E) E:=by
 unfold ZgV;rw[Zx];congr 1;funext x M1;by_cases h:Zmf x M1=true
 ·simp only[h,if_true,true_and];rw[Zx]
 ·simp[h,wO]
theorem Zpo:Zmf (.ref n) M=M[n]?.isSome:=rfl
theorem Zr0:wO (mApp (.ref n) [d] M) Q E=wL M[n]? fun xs=>xs.length<10000000/\Q .non (M.set n (.lst (xs++[d]))):=by
 show wO (match M[n]? with|some (.lst xs)=>if xs.length<10000000 then _ else _|none=>_) Q E=_
 cases e1:M[n]? with
 |none=>rfl
 |some o=>
  cases o with
  |lst xs=>
   by_cases h:xs.length<10000000
   ·simp[wL,h,wO]
   ·simp[wL,h,wO]
def slR(x:D)(l u:Option Int)(M3:Sto):Out D:=match x with
 |.ref n=>(match M3[n]? with|some (.lst xs)=>.ok (.ref M3.length) (M3++[.lst (Ze6 xs l u)])|none=>.bad)
 |.rol xs=>.ok (.ref M3.length) (M3++[.lst (Ze6 xs l u)])
 |.tup xs=>if HT.sIx xs.length 0 l=0/\HT.sIx xs.length xs.length u=xs.length then .bad else .ok (.tup (Ze6 xs l u)) M3
 |_=>.bad
theorem Zr1:wO (eSl f lo hi ρ M) Q E=wO (f ρ M) (fun x M1=>wO (lo ρ M1) (fun l M2=>wO (hi ρ M2) (fun u M3=>wO (slR x l u M3) Q E) E) E) E:=by
 unfold eSl;rw[Zx];congr 1;funext x M1;rw[Zx];congr 1;funext l M2;rw[Zx];congr 1
theorem Zr2:wO (slR (.ref n) l u M) Q E=wL M[n]? fun xs=>Q (.ref M.length) (M++[.lst (Ze6 xs l u)]):=by
 unfold slR;cases e1:M[n]? with
 |none=>simp only[e1];rfl
 |some o=>cases o with|lst xs=>simp only[e1];rfl
theorem Zr3:wO (oSo f ρ M) Q E=wO (f ρ M) (fun x M1=>wI x fun i=>Q (some i) M1) E:=by
 unfold oSo;rw[Zx];congr 1;funext x M1;cases x<;>rfl
theorem Zpp(h:0<=i):Ze6 xs none (some i)=xs.take i.toNat:=by
 unfold Ze6;simp only[HT.sIx];rw[if_neg (by lia),List.drop_zero,Nat.sub_zero]
 by_cases c:i.toNat<=xs.length
 ·rw[Nat.min_eq_left c]
 ·rw[Nat.min_eq_right (by lia),List.take_of_length_le (Nat.le_refl _),List.take_of_length_le (by lia)]
theorem Zkx(h:0<=i):Ze6 xs (some i) none=xs.drop i.toNat:=by
 unfold Ze6;simp only[HT.sIx];rw[if_neg (by lia)]
 by_cases c:i.toNat<=xs.length
 ·rw[Nat.min_eq_left c,List.take_of_length_le (by simp)]
 ·rw[Nat.min_eq_right (by lia),List.drop_eq_nil_of_le (Nat.le_refl _),List.drop_eq_nil_of_le (by lia),List.take_nil]
theorem Zky{L:Sto}:(M++L)[M.length]?=L[0]?:=by rw[List.getElem?_append_right (Nat.le_refl _),Nat.sub_self]
theorem ZqP{L:Sto}:(M++L)[M.length+i]?=L[i]?:=by rw[List.getElem?_append_right (by lia)];congr 1;lia
theorem ZdA{L:Sto}(h:n<M.length):(M++L)[n]?=M[n]?:=List.getElem?_append_left h
theorem Zlh{L:Sto}:(M++L).set M.length o=M++L.set 0 o:=by rw[List.set_append_right _ _ (Nat.le_refl _),Nat.sub_self]
theorem Zpq(h:k≠n):(M.set n o)[k]?=M[k]?:=List.getElem?_set_ne (Ne.symm h)
theorem Zpr(h:n<M.length):(M.set n o)[n]?=some o:=List.getElem?_set_self h
theorem Zv(h:M[n]?=some o):n<M.length:=(List.getElem?_eq_some_iff.mp h).1
noncomputable abbrev pr(x y:Int):D:=.tup [.int x,.int y]
def prs(rs:List (Int×Int)):List D:=rs.map fun p=>pr p.1 p.2
def nts(ns:List Int):List D:=ns.map D.int
theorem ZP:(prs rs).length=rs.length:=List.length_map _
theorem ZbP:(nts rs).length=rs.length:=List.length_map _
theorem Zfh:prs a++prs b=prs (a++b):=(List.map_append).symm
theorem ZiL:nts a++nts b=nts (a++b):=(List.map_append).symm
theorem ZdB:(prs a).take n=prs (a.take n):=List.map_take.symm
theorem ZdC:(prs a).drop n=prs (a.drop n):=List.map_drop.symm
theorem Zm2:(nts a).set n (.int b)=nts (a.set n b):=by unfold nts;rw[List.map_set]
noncomputable def cy(rs:List (Int×Int))(i:Int):Int×Int:=rs.getD (i%rs.length).toNat (0,0)
noncomputable def cn(rs:List Int)(i:Int):Int:=rs.getD (i%rs.length).toNat 0
theorem ZiM{n:Nat}(h: -(n:Int)<=i/\i<n):ixN n i=some (i%n).toNat:=by
 unfold ixN;by_cases c:0<=i
 ·rw[if_pos c,if_pos h.2,Int.emod_eq_of_lt c h.2]
 ·rw[if_neg c,if_pos h.1]
  have:i%n=i+n:=by
   rw[<-Int.add_emod_right,Int.emod_eq_of_lt (by lia) (by lia)]
  rw[this]
theorem ZbG(h: -(rs.length:Int)<=i/\i<rs.length):atI (prs rs) i=some (pr (cy rs i).1 (cy rs i).2):=by
 unfold atI;rw[ZP,ZiM h];have hp:(i%rs.length).toNat<rs.length:=by
  have:=Int.emod_lt_of_pos i (show(0:Int)<rs.length by lia)
  have:=Int.emod_nonneg i (show(rs.length:Int)≠0 by lia)
  lia
 simp[prs,cy,List.getElem?_eq_getElem hp]
theorem Zli(h: -(rs.length:Int)<=i/\i<rs.length):atI (nts rs) i=some (.int (cn rs i)):=by
 unfold atI;rw[ZbP,ZiM h];have hp:(i%rs.length).toNat<rs.length:=by
  have:=Int.emod_lt_of_pos i (show(0:Int)<rs.length by lia)
  have:=Int.emod_nonneg i (show(rs.length:Int)≠0 by lia)
  lia
 simp[nts,cn,List.getElem?_eq_getElem hp]
theorem Zdc:cy rs (i%rs.length)=cy rs i:=by unfold cy;rw[Int.emod_emod_of_dvd _ (Int.dvd_refl _)]
theorem ZeK:cy rs (i-rs.length)=cy rs i:=by unfold cy;rw[Int.sub_emod_right]
theorem Zf9{rs:List (Int×Int)}(h:k<rs.length):cy rs k=rs[k]:=by
 unfold cy;rw[Int.emod_eq_of_lt (by lia) (by lia)]
 simp[List.getElem?_eq_getElem h]
theorem Zps{rs:List Int}(h:k<rs.length):cn rs k=rs[k]:=by
 unfold cn;rw[Int.emod_eq_of_lt (by lia) (by lia)]
 simp[List.getElem?_eq_getElem h]
theorem Zr4:eqF (n+1) M (.int a) (.int b)=some (decide (a=b)):=rfl
theorem Zr5:eqF (n+2) M (pr a b) (pr c d)=some (decide ((a,b)=(c,d))):=by
 show some ((a==c)&&((b==d)&&true))=_;congr 1;rw[Bool.eq_iff_iff];simp
theorem Zlj:eqL (eqF (n+2) M) (prs rs) (prs ss)=some (decide (rs=ss)):=by
 induction rs generalizing ss with
 |nil=>cases ss<;>rfl
 |cons r rs ih=>
  cases ss with
  |nil=>rfl
  |cons s ss=>
   show(match eqF (n+2) M (pr r.1 r.2) (pr s.1 s.2)with|some a=>(match eqL _ (prs rs) (prs ss)with|some b=>some (a&&b)|none=>none)|none=>none)=_
   rw[Zr5,ih];simp only[];congr 1;rw[Bool.eq_iff_iff];obtain⟨r1,r2⟩:=r;obtain⟨s1,s2⟩:=s;simp
theorem ZiN(h1:M[n]?=some (.lst xs))(h2:M[m]?=some (.lst ys)):eqF (k+1) M (.ref n) (.ref m)=if xs.length=ys.length then eqL (eqF k M) xs ys else some false:=by
 show(match kd M (.ref n),kd M (.ref m)with|some a,some b=>eqK (eqF k M) a b|_,_=>none)=_
 have e1:kd M (.ref n)=some (.lst xs):=by show(match M[n]? with|some (.lst xs)=>some (Kd.lst xs)|_=>none)=_;rw[h1]
 have e2:kd M (.ref m)=some (.lst ys):=by show(match M[m]? with|some (.lst xs)=>some (Kd.lst xs)|_=>none)=_;rw[h2]
 rw[e1,e2];rfl
theorem Zpt:Za0 M (.int i)=some "int":=rfl
theorem Zpu:Za0 M (.tup xs)=some "tuple":=rfl
theorem Zpv(h:M[n]?=some (.lst xs)):Za0 M (.ref n)=some "list":=by
 show(match(match M[n]? with|some (.lst xs)=>some (Kd.lst xs)|_=>none)with|some .non=>_|some (.bl _)=>_|some (.int _)=>_|some (.str _)=>_|some (.tup _)=>_|some (.lst _)=>_|none=>_)=_
 rw[h]
end
end DL
namespace DL
open PyProof.Rows L2
section
variable {xs:List D}{tg:Tg}
theorem Zm3:wS (Zef tg fs bd ρ M) N R B C E=wO (fs ρ M) (fun ds M1=>w2 ds fun x y=>wI x fun i=>wI y fun j=>(-(2^62)<=i/\i<2^62/\ -(2^62)<=j/\j<2^62)/\wS (Zbo tg bd (Zaf i (j-i).toNat) ρ M1) N R B C E) E:=by
 unfold Zef;rw[ZO];congr 1;funext ds M1;rcases ds with _|⟨v,_|⟨w,_|⟨w',r⟩⟩⟩
 ·rfl
 ·cases v<;>rfl
 ·cases v<;>try rfl
  cases w<;>try rfl
  rename_i i j;by_cases h: -(2^62)<=i/\i<2^62/\ -(2^62)<=j/\j<2^62
  ·simp only[w2,wI,eq_true h,true_and,if_true]
  ·simp only[w2,wI,eq_false h,false_and,if_false];rfl
 ·cases v<;>cases w<;>rfl
theorem ZuN:wO (iR1 fs ρ M) QS E=wO (fs ρ M) (fun ds M1=>w1 ds fun d=>wI d fun j=>(-(2^62)<=j/\j<2^62)/\QS (.pur (Zaf 0 j.toNat)) M1) E:=by
 unfold iR1;rw[Zx];congr 1;funext ds M1;rcases ds with _|⟨v,_|⟨w,r⟩⟩
 ·rfl
 ·cases v<;>try rfl
  rename_i j;by_cases h: -(2^62)<=j/\j<2^62
  ·simp only[w1,wI,eq_true h,true_and,if_true,Zn]
  ·simp only[w1,wI,eq_false h,false_and,if_false];rfl
 ·cases v<;>rfl
theorem ZuO:wO (iR2 fs ρ M) QS E=wO (fs ρ M) (fun ds M1=>w2 ds fun x y=>wI x fun i=>wI y fun j=>(-(2^62)<=i/\i<2^62/\ -(2^62)<=j/\j<2^62)/\QS (.pur (Zaf i (j-i).toNat)) M1) E:=by
 unfold iR2;rw[Zx];congr 1;funext ds M1;rcases ds with _|⟨v,_|⟨w,_|⟨w',r⟩⟩⟩
 ·rfl
 ·cases v<;>rfl
 ·cases v<;>try rfl
  cases w<;>try rfl
  rename_i i j;by_cases h: -(2^62)<=i/\i<2^62/\ -(2^62)<=j/\j<2^62
  ·simp only[w2,wI,eq_true h,true_and,if_true,Zn]
  ·simp only[w2,wI,eq_false h,false_and,if_false];rfl
 ·cases v<;>cases w<;>rfl
theorem ZuP:wO (iEn fs ρ M) QS E=wO (fs ρ M) (fun ds M1=>w1 ds fun d=>wR d fun n=>QS (.enu n) M1) E:=by
 unfold iEn;rw[Zx];congr 1;funext ds M1;rcases ds with _|⟨v,_|⟨w,r⟩⟩<;>try rfl
 ·cases v<;>rfl
 ·cases v<;>rfl
theorem ZuQ:wO (iZp fs ρ M) QS E=wO (fs ρ M) (fun ds M1=>w2 ds fun x y=>wR x fun n=>wR y fun m=>QS (.zip n m) M1) E:=by
 unfold iZp;rw[Zx];congr 1;funext ds M1;rcases ds with _|⟨v,_|⟨w,_|⟨w',r⟩⟩⟩<;>try rfl
 ·cases v<;>rfl
 ·cases v<;>cases w<;>rfl
 ·cases v<;>cases w<;>rfl
noncomputable def ZqQ(Q:W0)(ρ:Ro)(M:Sto):Prop:=Q .non M
theorem wF1:wO (fnF bd 1 k [x] M) Q E=wS (bd (some x::List.replicate k none) M) (ZqQ Q) Q (fun _ _=>False) (fun _ _=>False) E:=wF rfl
theorem wF2:wO (fnF bd 2 k [x,y] M) Q E=wS (bd (some x::some y::List.replicate k none) M) (ZqQ Q) Q (fun _ _=>False) (fun _ _=>False) E:=wF rfl
theorem wF3:wO (fnF bd 3 k [x,y,z] M) Q E=wS (bd (some x::some y::some z::List.replicate k none) M) (ZqQ Q) Q (fun _ _=>False) (fun _ _=>False) E:=wF rfl
theorem Zga:prs a++[pr b c]=prs (a++[(b,c)]):=by simp[prs]
theorem Zkz:nts a++[D.int b]=nts (a++[b]):=by simp[nts]
theorem Zr6:isP .non .non=some true:=rfl
theorem Zr7:isP (.tup xs) .non=some false:=rfl
theorem Zr8:isP (.ref n) .non=some false:=rfl
theorem Zfi(h:M[n]?=some (.lst xs)):cnt (.sto n) M=xs.length:=by show(match M[n]? with|some (.lst xs)=>xs.length|none=>0)=_;rw[h]
theorem Zm4(h:M[n]?=some (.lst xs)):cnt (.enu n) M=xs.length:=by show(match M[n]? with|some (.lst xs)=>xs.length|none=>0)=_;rw[h]
theorem ZiO(h:M[n]?=some (.lst xs)):cnt (.zip n m) M=xs.length:=by show(match M[n]? with|some (.lst xs)=>xs.length|none=>0)=_;rw[h]
theorem Zpw:ZeU "int" "int"=true:=rfl
theorem Zpx:ZeU "int" "bool"=false:=rfl
theorem Zpy:ZeU "tuple" "tuple"=true:=rfl
theorem Zpz:ZeU "list" "list"=true:=rfl
theorem ZpA(h:M[n]?=some (.lst xs)):nxt (.enu n) k M=some ((xs[k]?).map fun d=>D.tup [.int k,d]):=by
 show(match M[n]? with|some (.lst xs)=>(match xs[k]? with|some x=>some (some (D.tup [.int k,x]))|none=>some none)|none=>none)=_
 rw[h];simp only[];cases xs[k]?<;>rfl
theorem Zgb(h:M[n]?=some (.lst xs)):nxt (.sto n) k M=some xs[k]?:=by
 show(match M[n]? with|some (.lst xs)=>some xs[k]?|none=>none)=_
 rw[h]
theorem ZpB(I:Nat->Ro->Sto->Prop)(hM:M[n]?=some (.lst xs))(h0:I 0 ρ M)(hm:∀i ρ M,I i ρ M->M[n]?=some (.lst xs))(st:∀(i:Nat) ρ M (h:i<xs.length),I i ρ M->wG (tg (.tup [.int i,xs[i]]) ρ) fun r=>wS (bd r M) (I (i+1)) R N (I (i+1)) E)(hn:∀ρ M,I xs.length ρ M->N ρ M):wS (Zem tg bd (.enu n) (cnt (.enu n) M) 0 ρ M) N R B C E:=by
 rw[Zm4 hM];have hl:(xs.mapIdx fun(k:Nat) d=>D.tup [.int k,d]).length=xs.length:=by simp
 refine Zf8 I (xs:=xs.mapIdx fun(k:Nat) d=>D.tup [.int k,d]) _ 0 ρ M (by simp) (by simp) h0 (fun i ρ M _ hI=>?_) (fun i ρ M h hI=>?_) (fun ρ M hI=>hn ρ M (by rw[hl]at hI;exact hI))
 ·rw[ZpA (hm _ _ _ hI),List.getElem?_mapIdx]
 ·rw[List.getElem_mapIdx];exact st i ρ M (by rw[hl]at h;exact h) hI
theorem Zlk(h:M[n]?=some (.lst xs))(h':M[m]?=some (.lst ys)):nxt (.zip n m) k M=some ((List.zipWith (fun a b=>D.tup [a,b]) xs ys)[k]?):=by
 show(match M[n]?,M[m]? with|some (.lst xs),some (.lst ys)=>(match xs[k]?,ys[k]? with|some x,some y=>some (some (D.tup [x,y]))|_,_=>some none)|_,_=>none)=_
 rw[h,h',List.getElem?_zipWith];simp only[];cases xs[k]?<;>cases ys[k]?<;>rfl
theorem ZpC(I:Nat->Ro->Sto->Prop)(hM:M[n]?=some (.lst xs))(hl:xs.length<=ys.length)(h0:I 0 ρ M)(hm:∀i ρ M,I i ρ M->M[n]?=some (.lst xs)/\M[m]?=some (.lst ys))(st:∀(i:Nat) ρ M (h:i<xs.length),I i ρ M->wG (tg (.tup [xs[i],ys[i]]) ρ) fun r=>wS (bd r M) (I (i+1)) R N (I (i+1)) E)(hn:∀ρ M,I xs.length ρ M->N ρ M):wS (Zem tg bd (.zip n m) (cnt (.zip n m) M) 0 ρ M) N R B C E:=by
 rw[ZiO hM];have hz:(List.zipWith (fun a b=>D.tup [a,b]) xs ys).length=xs.length:=by simp;lia
 refine Zf8 I (xs:=List.zipWith (fun a b=>D.tup [a,b]) xs ys) _ 0 ρ M (by simp) (by simp;lia) h0 (fun i ρ M _ hI=>?_) (fun i ρ M h hI=>?_) (fun ρ M hI=>hn ρ M (by rw[hz]at hI;exact hI))
 ·rw[Zlk (hm _ _ _ hI).1 (hm _ _ _ hI).2]
 ·rw[List.getElem_zipWith];exact st i ρ M (by rw[hz]at h;exact h) hI
theorem Zm5(Inv:Ro->Prop)(F:Nat->D){Q:Sto->Prop}(hl:xs.length<10000000)(hcnt:xs.length<=cnt src M)(h0:Inv ρ)(hs:∀(L:Sto)(i:Nat),i<=xs.length->nxt src i (M++L)=some xs[i]?)(st:∀(i:Nat)(h:i<xs.length)(ρ:Ro)(L:Sto),Inv ρ->wG (tg xs[i] ρ) fun r=>Inv r/\wO (f r (M++L)) (fun y M2=>y=F i/\M2=M++L) (fun _ _=>False))(hq:Q (M++[.lst ((List.range xs.length).map F)])):wO (Zcj src tg (fun _ M=>.ok true M) f M.length (cnt src M) 0 ρ (M++[.lst []])) (fun _ M2=>Q M2) (fun _ _=>False):=by
 refine ZiK (fun i ρ M'=>Inv ρ/\M'=M++[.lst ((List.range i).map F)]) (xs:=xs) _ 0 ρ _ (by simp) (by lia) ⟨h0,rfl⟩ (fun i ρ M' hi hI=>by rw[hI.2];exact hs _ i hi) (fun i ρ M' h hI=>?_) (fun ρ M' hI=>by rw[hI.2];exact hq)
 obtain⟨hI,rfl⟩:=hI;have s:=st i h ρ [.lst ((List.range i).map F)] hI;cases e:tg xs[i] ρ with
 |none=>rw[e]at s;exact s.elim
 |some r=>
  rw[e]at s;obtain⟨hr,s⟩:=s;show Br true _ _;rw[Zo9];refine ZbN s (fun y M2 ⟨h1,h2⟩=>?_) (fun _ _ z=>z);subst h1 h2;rw[Zky];refine⟨by simp;lia,hr,?_⟩
  rw[Zlh,List.range_succ,List.map_append];rfl
theorem Zm6:(List.range n).map (fun i=>D.int (F i))=nts ((List.range n).map F):=by simp[nts]
end
end DL
namespace DL
open PyProof.Rows L2
section
variable {E:W2}{N B C:W1}{R:W0}{ρ:Ro}{M:Sto}{k:Nat}{xs:List D}{a bd:Sv}
def kU{β:Type}(u:β->Sto->Out γ)(Q:γ->Sto->Prop)(E:W2)(x:β)(M:Sto):Prop:=wO (u x M) Q E
noncomputable def kQ{β γ:Type}(Q:γ->Sto->Prop)(c:β->γ)(M:Sto)(x:β):Prop:=Q (c x) M
def kB2(op:Bo)(x:D)(Q:W0)(E:W2)(y:D)(M:Sto):Prop:=wO (op x y M) Q E
def kB1(op:Bo)(g:Ev)(ρ:Ro)(Q:W0)(E:W2)(x:D)(M:Sto):Prop:=wO (g ρ M) (kB2 op x Q E) E
theorem ZuR:wO (e2 op f g ρ M) Q E=wO (f ρ M) (kB1 op g ρ Q E) E:=ZrK
theorem y_c:wO (eC d ρ M) Q E=Q d M:=rfl
theorem y_v:wO (Zg k ρ M) Q E=wV ρ[k]? (kQ Q id M):=ZuE
theorem ZpD:wO (Zj F fs ρ M) Q E=wO (fs ρ M) (kU F Q E) E:=ZmS
noncomputable def kA2(x:D)(Q:List D->Sto->Prop)(xs:List D)(M:Sto):Prop:=Q (x::xs) M
def kA1(fs:Av)(ρ:Ro)(Q:List D->Sto->Prop)(E:W2)(x:D)(M:Sto):Prop:=wO (fs ρ M) (kA2 x Q) E
theorem Zr9:wO (aNil ρ M) QL E=QL [] M:=rfl
theorem ZpE:wO (Zc f fs ρ M) QL E=wO (f ρ M) (kA1 fs ρ QL E) E:=ZmT
noncomputable def kTu(Q:W0)(xs:List D)(M:Sto):Prop:=xs.length<=1000/\Q (.tup xs) M
noncomputable def kLs(Q:W0)(xs:List D)(M:Sto):Prop:=xs.length<=1000/\Q (.ref M.length) (M++[.lst xs])
theorem Zsa:wO (Zak fs ρ M) Q E=wO (fs ρ M) (kTu Q) E:=Zpa
theorem Zsb:wO (Zcw fs ρ M) Q E=wO (fs ρ M) (kLs Q) E:=Zpb
noncomputable def Ztm(x:D)(M:Sto):Out D:=match x with|.int i=>.ok (.int (-i)) M|_=>.bad
theorem Zsc:wO (Ze2 f ρ M) Q E=wO (f ρ M) (kU Ztm Q E) E:=by unfold Ze2;exact Zx
theorem ZpF:wO (Ztm (.int i) M) Q E=Q (.int (-i)) M:=rfl
def Zsd(T:String)(x:D)(M:Sto):Out D:=match Za0 M x with|some t=>.ok (.bl (ZeU t T)) M|none=>.bad
theorem Zse:wO (Zjq T f ρ M) Q E=wO (f ρ M) (kU (Zsd T) Q E) E:=by unfold Zjq;exact Zx
def kTy(T:String)(Q:W0)(M:Sto)(t:String):Prop:=Q (.bl (ZeU t T)) M
theorem ZpG:wO (Zsd T x M) Q E=wG (Za0 M x) (kTy T Q M):=by unfold Zsd;cases Za0 M x<;>rfl
noncomputable def tC(b:Bool):Tv:=fun _ M=>.ok b M
def BrO(k:Bool)(f g:Ro->Sto->Out β)(ρ:Ro)(M:Sto)(Q:β->Sto->Prop)(E:W2):Prop:=wO ((if k=true then f else g) ρ M) Q E
theorem ZuS{fO gO:Ro->Sto->Out β}{QO:β->Sto->Prop}:BrO true fO gO ρ M QO E=wO (fO ρ M) QO E:=rfl
theorem ZuT{fO gO:Ro->Sto->Out β}{QO:β->Sto->Prop}:BrO false fO gO ρ M QO E=wO (gO ρ M) QO E:=rfl
theorem brO{β:Type}{fO gO:Ro->Sto->Out β}{QO:β->Sto->Prop}{p:Prop}[Decidable p](h1:p->wO (fO ρ M) QO E)(h2:¬p->wO (gO ρ M) QO E):BrO (decide p) fO gO ρ M QO E:=by
 by_cases h:p
 ·rw[decide_eq_true h];exact h1 h
 ·rw[decide_eq_false h];exact h2 h
theorem ZuU{β:Type}{fO gO:Ro->Sto->Out β}{QO:β->Sto->Prop}{p:Prop}[Decidable p](h1:¬p->wO (fO ρ M) QO E)(h2:p->wO (gO ρ M) QO E):BrO (!decide p) fO gO ρ M QO E:=by
 by_cases h:p
 ·rw[decide_eq_true h];exact h2 h
 ·rw[decide_eq_false h];exact h1 h
theorem Ztn{fO gO:Ro->Sto->Out β}{QO:β->Sto->Prop}(P:β->Sto->Prop)(h:BrO b fO gO ρ M P E)(hn:∀x M,P x M->QO x M):BrO b fO gO ρ M QO E:=by
 cases b
 ·exact ZbN h hn (fun _ _ z=>z)
 ·exact ZbN h hn (fun _ _ z=>z)
def kIf(f g:Ev)(ρ:Ro)(Q:W0)(E:W2)(k:Bool)(M:Sto):Prop:=BrO k f g ρ M Q E
theorem ZuV:wO (eIf t f g ρ M) Q E=wO (t ρ M) (kIf f g ρ Q E) E:=by unfold eIf;rw[Zx];congr 1;funext k M1;cases k<;>rfl
def Zto(g:Ev)(ρ:Ro)(x:D)(M:Sto):Out D:=match x with|.bl k=>if k=true then g ρ M else .ok (.bl false) M|_=>.bad
def Ztp(x:D)(M:Sto):Out D:=match x with|.bl k=>.ok (.bl (!k)) M|_=>.bad
def oTv(x:D)(M:Sto):Out Bool:=match x with|.bl k=>.ok k M|_=>.bad
theorem Zsf:wO (Zd8 f g ρ M) Q E=wO (f ρ M) (kU (Zto g ρ) Q E) E:=by unfold Zd8;exact Zx
theorem Zsg:wO (ZgC f ρ M) Q E=wO (f ρ M) (kU Ztp Q E) E:=by unfold ZgC;exact Zx
theorem ZpH:wO (Zto g ρ (.bl b) M) Q E=BrO b g (eC (.bl false)) ρ M Q E:=by cases b<;>rfl
theorem ZpI:wO (Ztp (.bl b) M) Q E=Q (.bl (!b)) M:=rfl
theorem ZuW:wO (tv f ρ M) QB E=wO (f ρ M) (kU oTv QB E) E:=by unfold tv;exact Zx
theorem Zsh:wO (oTv (.bl b) M) QB E=QB b M:=rfl
def kTA(u:Tv)(ρ:Ro)(Q:Bool->Sto->Prop)(E:W2)(k:Bool)(M:Sto):Prop:=BrO k u (tC false) ρ M Q E
def kTO(u:Tv)(ρ:Ro)(Q:Bool->Sto->Prop)(E:W2)(k:Bool)(M:Sto):Prop:=BrO k (tC true) u ρ M Q E
noncomputable def kTN(Q:Bool->Sto->Prop)(k:Bool)(M:Sto):Prop:=Q (!k) M
theorem ZuX:wO (tC b ρ M) QB E=QB b M:=rfl
theorem ZpJ:wO (Zct t u ρ M) QB E=wO (t ρ M) (kTA u ρ QB E) E:=by unfold Zct;rw[Zx];congr 1;funext k M1;cases k<;>rfl
theorem Zsi:wO (ZgT t u ρ M) QB E=wO (t ρ M) (kTO u ρ QB E) E:=by unfold ZgT;rw[Zx];congr 1;funext k M1;cases k<;>rfl
theorem ZpK:wO (Zcc t ρ M) QB E=wO (t ρ M) (kTN QB) E:=Zpc
def kSq(b:Sv)(N:W1)(R:W0)(B C:W1)(E:W2)(ρ:Ro)(M:Sto):Prop:=wS (b ρ M) N R B C E
theorem Zsj:wS (ZE a bd ρ M) N R B C E=wS (a ρ M) (kSq bd N R B C E) R B C E:=Zpd
theorem ZpL:wS (sNil ρ M) N R B C E=N ρ M:=rfl
theorem Zsk:wS (Z6 f ρ M) N R B C E=wO (f ρ M) R E:=Zpe
noncomputable def kDr(ρ:Ro)(N:W1)(d:D)(M:Sto):Prop:=N ρ M
theorem ZpM:wS (ZbC f ρ M) N R B C E=wO (f ρ M) (kDr ρ N) E:=ZmU
def BrS(k:Bool)(a b:Sv)(ρ:Ro)(M:Sto)(N:W1)(R:W0)(B C:W1)(E:W2):Prop:=wS ((if k=true then a else b) ρ M) N R B C E
theorem ZuY:BrS true a bd ρ M N R B C E=wS (a ρ M) N R B C E:=rfl
theorem ZuZ:BrS false a bd ρ M N R B C E=wS (bd ρ M) N R B C E:=rfl
theorem brS{p:Prop}[Decidable p](h1:p->wS (a ρ M) N R B C E)(h2:¬p->wS (bd ρ M) N R B C E):BrS (decide p) a bd ρ M N R B C E:=by
 by_cases h:p
 ·rw[decide_eq_true h];exact h1 h
 ·rw[decide_eq_false h];exact h2 h
theorem Zu0{p:Prop}[Decidable p](h1:¬p->wS (a ρ M) N R B C E)(h2:p->wS (bd ρ M) N R B C E):BrS (!decide p) a bd ρ M N R B C E:=by
 by_cases h:p
 ·rw[decide_eq_true h];exact h2 h
 ·rw[decide_eq_false h];exact h1 h
theorem Ztq(h1:b=true->wS (a ρ M) N R B C E)(h2:b=false->wS (bd ρ M) N R B C E):BrS b a bd ρ M N R B C E:=by
 cases b
 ·exact h2 rfl
 ·exact h1 rfl
theorem Ztr(P:W1)(h:BrS b a bd ρ M P R B C E)(hn:∀ρ M,P ρ M->N ρ M):BrS b a bd ρ M N R B C E:=by
 cases b
 ·exact ZiI h hn (fun _ _ z=>z) (fun _ _ z=>z) (fun _ _ z=>z) (fun _ _ z=>z)
 ·exact ZiI h hn (fun _ _ z=>z) (fun _ _ z=>z) (fun _ _ z=>z) (fun _ _ z=>z)
def kSi(a b:Sv)(ρ:Ro)(N:W1)(R:W0)(B C:W1)(E:W2)(k:Bool)(M:Sto):Prop:=BrS k a b ρ M N R B C E
theorem Zsl:wS (sIf t a bd ρ M) N R B C E=wO (t ρ M) (kSi a bd ρ N R B C E) E:=by unfold sIf;rw[ZO];congr 1;funext k M1;cases k<;>rfl
noncomputable def kAs(i:Nat)(ρ:Ro)(N:W1)(d:D)(M:Sto):Prop:=N (ρ.set i (some d)) M
theorem Zsm:wS (ZJ (gNm k) f ρ M) N R B C E=wO (f ρ M) (kAs k ρ N) E:=Zpf
def kAt(gs:Tgs)(ρ:Ro)(N:W1)(d:D)(M:Sto):Prop:=wG (gTp gs d ρ) (kQ N id M)
theorem ZpN:wS (ZJ (gTp gs) f ρ M) N R B C E=wO (f ρ M) (kAt gs ρ N) E:=ZmV
noncomputable def Zts(i j:Nat)(ρ:Ro)(N:W1)(M:Sto)(v w:D):Prop:=N ((ρ.set i (some v)).set j (some w)) M
def kPa(i j:Nat)(ρ:Ro)(N:W1)(ds:List D)(M:Sto):Prop:=w2 ds (Zts i j ρ N M)
theorem Zsn:wS (ZgD k m fs ρ M) N R B C E=wO (fs ρ M) (kPa k m ρ N) E:=Zpg
noncomputable def Ztt(n:Nat)(d:D)(xs:List D)(ρ:Ro)(N:W1)(M:Sto)(j:Nat):Prop:=N ρ (M.set n (.lst (xs.set j d)))
def Ztu(n:Nat)(k:Int)(d:D)(ρ:Ro)(N:W1)(M:Sto)(xs:List D):Prop:=wG (ixN xs.length k) (Ztt n d xs ρ N M)
def Ztv(n:Nat)(d:D)(ρ:Ro)(N:W1)(M:Sto)(k:Int):Prop:=wL M[n]? (Ztu n k d ρ N M)
def Ztw(i:D)(d:D)(ρ:Ro)(N:W1)(M:Sto)(n:Nat):Prop:=wI i (Ztv n d ρ N M)
def Ztx(o:D)(d:D)(ρ:Ro)(N:W1)(i:D)(M:Sto):Prop:=wR o (Ztw i d ρ N M)
def Zty(fi:Ev)(d:D)(ρ:Ro)(N:W1)(E:W2)(o:D)(M:Sto):Prop:=wO (fi ρ M) (Ztx o d ρ N) E
def kPu(fo fi:Ev)(ρ:Ro)(N:W1)(E:W2)(d:D)(M:Sto):Prop:=wO (fo ρ M) (Zty fi d ρ N E) E
theorem Zso:wS (Zl7 fo fi f ρ M) N R B C E=wO (f ρ M) (kPu fo fi ρ N E) E:=Zph
def Ztz(tg:Tg)(bd:Sv)(ρ:Ro)(N:W1)(R:W0)(B C:W1)(E:W2)(M:Sto)(j:Int):Prop:=(-(2^62)<=j/\j<2^62)/\wS (Zbo tg bd (Zaf 0 j.toNat) ρ M) N R B C E
def ZtA(tg:Tg)(bd:Sv)(ρ:Ro)(N:W1)(R:W0)(B C:W1)(E:W2)(M:Sto)(d:D):Prop:=wI d (Ztz tg bd ρ N R B C E M)
def kR1(tg:Tg)(bd:Sv)(ρ:Ro)(N:W1)(R:W0)(B C:W1)(E:W2)(ds:List D)(M:Sto):Prop:=w1 ds (ZtA tg bd ρ N R B C E M)
theorem ZpO:wS (Za1 tg fs bd ρ M) N R B C E=wO (fs ρ M) (kR1 tg bd ρ N R B C E) E:=ZmW
def ZtB(tg:Tg)(bd:Sv)(ρ:Ro)(N:W1)(R:W0)(B C:W1)(E:W2)(M:Sto)(i:Int)(j:Int):Prop:=(-(2^62)<=i/\i<2^62/\ -(2^62)<=j/\j<2^62)/\wS (Zbo tg bd (Zaf i (j-i).toNat) ρ M) N R B C E
def ZtC(tg:Tg)(bd:Sv)(ρ:Ro)(N:W1)(R:W0)(B C:W1)(E:W2)(M:Sto)(y:D)(i:Int):Prop:=wI y (ZtB tg bd ρ N R B C E M i)
def ZtD(tg:Tg)(bd:Sv)(ρ:Ro)(N:W1)(R:W0)(B C:W1)(E:W2)(M:Sto)(x y:D):Prop:=wI x (ZtC tg bd ρ N R B C E M y)
def kR2(tg:Tg)(bd:Sv)(ρ:Ro)(N:W1)(R:W0)(B C:W1)(E:W2)(ds:List D)(M:Sto):Prop:=w2 ds (ZtD tg bd ρ N R B C E M)
theorem ZpP:wS (Zef tg fs bd ρ M) N R B C E=wO (fs ρ M) (kR2 tg bd ρ N R B C E) E:=Zm3
def kFo(tg:Tg)(bd:Sv)(ρ:Ro)(N:W1)(R:W0)(B C:W1)(E:W2)(d:D)(M:Sto):Prop:=wS (Zl8 tg bd d ρ M) N R B C E
theorem Zsp:wS (Zjr tg f bd ρ M) N R B C E=wO (f ρ M) (kFo tg bd ρ N R B C E) E:=Zpi
def kFs(tg:Tg)(bd:Sv)(ρ:Ro)(N:W1)(R:W0)(B C:W1)(E:W2)(src:Src)(M:Sto):Prop:=wS (Zem tg bd src (cnt src M) 0 ρ M) N R B C E
theorem ZpQ:wS (Ze7 tg fi bd ρ M) N R B C E=wO (fi ρ M) (kFs tg bd ρ N R B C E) E:=ZmY
def hT(cs:List Str)(gh:Sv)(W:List Bool)(i:Nat)(ρ:Ro)(c:Str)(M:Sto):Fl:=if cs.contains c=true then(match gh ((kpR W ρ).set i (some (.err c (fsE c M)))) (stE c M)with|.ret d M2=>.ret d M2|.nx _ M2=>.nx (List.replicate ρ.length none) M2|_=>.bad)else .bad
noncomputable def Zu1(Q:W0)(M1:Sto)(u:Unit)(M:Sto):Prop:=Q (.ref M1.length) M
def kCo(tg:Tg)(c:Tv)(f:Ev)(k:Nat)(fr:List Nat)(ρ:Ro)(Q:W0)(src:Src)(M:Sto):Prop:=wO (Zcj src tg c f M.length (cnt src M) 0 (roB k fr ρ) (M++[.lst []])) (Zu1 Q M) (fun _ _=>False)
theorem ZpR:wO (Zal fi k fr tg t f ρ M) Q E=wO (fi ρ M) (kCo tg t f k fr ρ Q) E:=ZmZ
def ZtE(QS:Src->Sto->Prop)(M:Sto)(j:Int):Prop:=(-(2^62)<=j/\j<2^62)/\QS (.pur (Zaf 0 j.toNat)) M
def ZtF(QS:Src->Sto->Prop)(M:Sto)(d:D):Prop:=wI d (ZtE QS M)
def kS1(QS:Src->Sto->Prop)(ds:List D)(M:Sto):Prop:=w1 ds (ZtF QS M)
theorem Zu2:wO (iR1 fs ρ M) QS E=wO (fs ρ M) (kS1 QS) E:=ZuN
def ZtG(QS:Src->Sto->Prop)(M:Sto)(i:Int)(j:Int):Prop:=(-(2^62)<=i/\i<2^62/\ -(2^62)<=j/\j<2^62)/\QS (.pur (Zaf i (j-i).toNat)) M
def ZtH(QS:Src->Sto->Prop)(M:Sto)(y:D)(i:Int):Prop:=wI y (ZtG QS M i)
def ZtI(QS:Src->Sto->Prop)(M:Sto)(x y:D):Prop:=wI x (ZtH QS M y)
def kS2(QS:Src->Sto->Prop)(ds:List D)(M:Sto):Prop:=w2 ds (ZtI QS M)
theorem Zu3:wO (iR2 fs ρ M) QS E=wO (fs ρ M) (kS2 QS) E:=ZuO
noncomputable def oSq(d:D)(M:Sto):Out Src:=match d with|.tup ds=>.ok (.pur ds) M|.rol ds=>.ok (.pur ds) M|.con ds=>.ok (.pur ds) M|.ref n=>.ok (.sto n) M|_=>.bad
theorem Zu4:wO (iSq f ρ M) QS E=wO (f ρ M) (kU oSq QS E) E:=by unfold iSq;exact Zx
theorem Zsq:wO (oSq (.tup xs) M) QS E=QS (.pur xs) M:=rfl
theorem Zsr:wO (oSq (.ref n) M) QS E=QS (.sto n) M:=rfl
def ZtJ(QS:Src->Sto->Prop)(M:Sto)(d:D):Prop:=wR d (kQ QS .enu M)
def kEn(QS:Src->Sto->Prop)(ds:List D)(M:Sto):Prop:=w1 ds (ZtJ QS M)
theorem Zu5:wO (iEn fs ρ M) QS E=wO (fs ρ M) (kEn QS) E:=ZuP
def ZtK(QS:Src->Sto->Prop)(M:Sto)(y:D)(n:Nat):Prop:=wR y (kQ QS (.zip n) M)
def ZtL(QS:Src->Sto->Prop)(M:Sto)(x y:D):Prop:=wR x (ZtK QS M y)
def kZp(QS:Src->Sto->Prop)(ds:List D)(M:Sto):Prop:=w2 ds (ZtL QS M)
theorem Zu6:wO (iZp fs ρ M) QS E=wO (fs ρ M) (kZp QS) E:=ZuQ
noncomputable def ZpS(xs:List D)(M:Sto)(Q:W0)(ys:List D):Prop:=xs.length+ys.length<=10000000/\Q (.ref M.length) (M++[.lst (xs++ys)])
def ZtM(m:Nat)(M:Sto)(Q:W0)(xs:List D):Prop:=wL M[m]? (ZpS xs M Q)
theorem Zss:wO (dAdd (.ref n) (.ref m) M) Q E=wL M[n]? (ZtM m M Q):=ZrR
def kEq(Q:W0)(M:Sto)(b:Bool):Prop:=Q (.bl b) M
def kNe(Q:W0)(M:Sto)(b:Bool):Prop:=Q (.bl (!b)) M
theorem Zu7:wO (dEq x y M) Q E=wG (eqF 12 M x y) (kEq Q M):=ZuJ
theorem Zu8:wO (dNe x y M) Q E=wG (eqF 12 M x y) (kNe Q M):=ZuK
theorem Zu9:wO (dIs x y M) Q E=wG (isP x y) (kEq Q M):=ZuL
theorem Zst:wO (dIsNot x y M) Q E=wG (isP x y) (kNe Q M):=ZrS
theorem ZkA:wO (dNotInE x y M) Q E=wG (inE x y M) (kNe Q M):=by unfold dNotInE;cases inE x y M<;>rfl
theorem Zsu:wO (dIx (.tup xs) (.int i) M) Q E=wG (atI xs i) (kQ Q id M):=ZrT
theorem Zsv:wO (dIx (.rol xs) (.int i) M) Q E=wG (atI xs i) (kQ Q id M):=ZrU
def kIx(i:Int)(Q:W0)(M:Sto)(xs:List D):Prop:=wG (atI xs i) (kQ Q id M)
theorem Zsw:wO (dIx (.ref n) (.int i) M) Q E=wL M[n]? (kIx i Q M):=ZrV
noncomputable def ZtN(Q:W0)(M:Sto)(xs:List D):Prop:=Q (.int xs.length) M
theorem ZpT:wO (bLen [.ref n] M) Q E=wL M[n]? (ZtN Q M):=Zpk
noncomputable def kLi(Q:W0)(M:Sto)(xs:List D):Prop:=Q (.ref M.length) (M++[.lst xs])
theorem Zm7:wO (bList [.ref n] M) Q E=wL M[n]? (kLi Q M):=Zm1
def ZtO(Q:W0)(M:Sto)(bs:List Bool):Prop:=Q (.bl (bs.all id)) M
def kAl(Q:W0)(M:Sto)(xs:List D):Prop:=wG (Zad xs) (ZtO Q M)
theorem ZpU:wO (bAll [.ref n] M) Q E=wL M[n]? (kAl Q M):=ZrZ
def ZpV(g:List Int->Option Int)(Q:W0)(M:Sto)(ns:List Int):Prop:=wG (g ns) (kQ Q .int M)
def ZpW(g:List Int->Option Int)(Q:W0)(M:Sto)(xs:List D):Prop:=wG (ZaD xs) (ZpV g Q M)
theorem ZpX:wO (ZcC gi [.ref n] M) Q E=wL M[n]? (ZpW gi Q M):=Zpn
def kMt(g:Me)(fs:Av)(ρ:Ro)(Q:W0)(E:W2)(x:D)(M:Sto):Prop:=Zmf x M=true/\wO (fs ρ M) (kU (g x) Q E) E
theorem Zva:wO (ZgV me fo fs ρ M) Q E=wO (fo ρ M) (kMt me fs ρ Q E) E:=ZuM
noncomputable def ZtP(n:Nat)(d:D)(Q:W0)(M:Sto)(xs:List D):Prop:=xs.length<10000000/\Q .non (M.set n (.lst (xs++[d])))
theorem Zsx:wO (mApp (.ref n) [d] M) Q E=wL M[n]? (ZtP n d Q M):=Zr0
def ZtQ(l u:Option Int)(Q:W0)(M:Sto)(xs:List D):Prop:=Q (.ref M.length) (M++[.lst (Ze6 xs l u)])
def ZtR(x:D)(l:Option Int)(Q:W0)(E:W2)(u:Option Int)(M:Sto):Prop:=wO (slR x l u M) Q E
def ZtS(x:D)(hi:Ro->Sto->Out (Option Int))(ρ:Ro)(Q:W0)(E:W2)(l:Option Int)(M:Sto):Prop:=wO (hi ρ M) (ZtR x l Q E) E
def ZtT(lo hi:Ro->Sto->Out (Option Int))(ρ:Ro)(Q:W0)(E:W2)(x:D)(M:Sto):Prop:=wO (lo ρ M) (ZtS x hi ρ Q E) E
theorem Zvb{lo:Ro->Sto->Out (Option Int)}:wO (eSl f lo hi ρ M) Q E=wO (f ρ M) (ZtT lo hi ρ Q E) E:=Zr1
theorem Zsy:wO (slR (.ref n) l u' M) Q E=wL M[n]? (ZtQ l u' Q M):=Zr2
theorem Zsz:wO (oNo ρ M) QI E=QI none M:=rfl
def ZtU(Q:Option Int->Sto->Prop)(x:D)(M:Sto):Prop:=wI x (kQ Q some M)
theorem ZsA:wO (oSo f ρ M) QI E=wO (f ρ M) (ZtU QI) E:=Zr3
def kWh(bd:Sv)(ρ:Ro)(I:W1)(N:W1)(R:W0)(B C:W1)(E:W2)(k:Bool)(M:Sto):Prop:=Br k (wS (bd ρ M) I R N I E) (N ρ M)
theorem ZsB(I:Nat->Ro->Sto->Prop)(st:∀n ρ M,I n ρ M->wO (c ρ M) (kWh bd ρ (fun ρ2 M2=>∃m,m<n/\I m ρ2 M2) N R B C E) E)(n:Nat)(ρ:Ro)(M:Sto)(h:I n ρ M):wS (sWh c bd ρ M) N R B C E:=Zkw I st n ρ M h
theorem ZsC{I:W1}{p:Prop}[Decidable p](h1:p->wS (bd ρ M) I R N I E)(h2:¬p->N ρ M):kWh bd ρ I N R B C E (decide p) M:=brD h1 h2
theorem ZiP(h:k<n):ixN n (k:Int)=some k:=by
 unfold ixN;rw[if_pos (by lia),if_pos (by lia)]
 simp
theorem ZqR(Inv:Ro->Prop)(F:Nat->D)(hl:xs.length<10000000)(hcnt:xs.length<=cnt src M)(h0:Inv (roB k fr ρ))(hs:∀(L:Sto)(i:Nat),i<=xs.length->nxt src i (M++L)=some xs[i]?)(st:∀(i:Nat)(h:i<xs.length)(ρ:Ro)(L:Sto),Inv ρ->wG (tg xs[i] ρ) fun r=>Inv r/\wO (f r (M++L)) (fun y M2=>y=F i/\M2=M++L) (fun _ _=>False))(hq:Q (.ref M.length) (M++[.lst ((List.range xs.length).map F)])):kCo tg (fun _ M=>.ok true M) f k fr ρ Q src M:=Zm5 (Q:=fun M2=>Q (.ref M.length) M2) Inv F hl hcnt h0 hs st hq
theorem ZpY(Inv:Ro->Prop)(F:Nat->D)(hM:M[n]?=some (.lst xs))(hl:xs.length<10000000)(h0:Inv (roB k fr ρ))(st:∀(i:Nat)(h:i<xs.length)(ρ:Ro)(L:Sto),Inv ρ->wG (tg xs[i] ρ) fun r=>Inv r/\wO (f r (M++L)) (fun y M2=>y=F i/\M2=M++L) (fun _ _=>False))(hq:Q (.ref M.length) (M++[.lst ((List.range xs.length).map F)])):kCo tg (fun _ M=>.ok true M) f k fr ρ Q (.sto n) M:=
 ZqR (xs:=xs) Inv F hl (by rw[Zfi hM];exact Nat.le_refl _) h0 (fun L i hi=>by rw[Zgb];rw[List.getElem?_append_left (Zv hM)];exact hM) st hq
end
end DL
namespace DL
open L2
end DL
namespace DL
open L2
noncomputable def ZtV(i j:Nat)(ρ:Ro)(N:W1)(d:D)(M:Sto):Prop:=N ((ρ.set i (some d)).set j (some d)) M
theorem ZpZ:wS (ZJ (ZqO (gNm k) (gNm m)) f ρ M) N R B C E=wO (f ρ M) (ZtV k m ρ N) E:=ZO
section
variable {src:Src}{tg:Tg}{c:Tv}{g:Ro->Sto->Out Ro}{P:Nat->Ro->Sto->Prop}
theorem Zcm(n:Nat)(step:∀i ρ M,i<n->P i ρ M->∃d ρ1 M1,nxt src i M=some (some d)/\tg d ρ=some ρ1/\((c ρ1 M=.ok false M1/\P (i+1) ρ1 M1)\/∃ρ2 M2,c ρ1 M=.ok true M1/\g ρ1 M1=.ok ρ2 M2/\P (i+1) ρ2 M2))(stop:∀ρ M,P n ρ M->nxt src n M=some none):∀(fuel i:Nat)(ρ:Ro)(M:Sto),i<=n->n-i<=fuel->P i ρ M->∃ρ' M',Zc0 src tg c g fuel i ρ M=.ok ρ' M'/\P n ρ' M':=by
 intro fuel
 induction fuel with
 |zero=>
  intro i ρ M hi hf h;have e:i=n:=by lia
  subst e;exact⟨ρ,M,by rw[Zc0,stop ρ M h],h⟩
 |succ fuel ih=>
  intro i ρ M hi hf h;by_cases q:i=n
  ·subst q;exact⟨ρ,M,by rw[Zc0,stop ρ M h],h⟩
  ·obtain⟨d,ρ1,M1,e1,e2,e3⟩:=step i ρ M (by lia) h
   rcases e3 with⟨e3,h3⟩|⟨ρ2,M2,e3,e4,h3⟩
   ·obtain⟨ρ',M',z1,z2⟩:=ih (i+1) ρ1 M1 (by lia) (by lia) h3
    exact⟨ρ',M',by rw[Zc0,e1];simp only[e2,e3];exact z1,z2⟩
   ·obtain⟨ρ',M',z1,z2⟩:=ih (i+1) ρ2 M2 (by lia) (by lia) h3
    exact⟨ρ',M',by rw[Zc0,e1];simp only[e2,e3,e4];exact z1,z2⟩
def ZsD(tg:Tg)(c:Tv)(g:Nat->Ro->Sto->Out Ro)(k:Nat)(fr:List Nat)(ρ:Ro)(Q:W0)(src:Src)(M1:Sto):Prop:=∃ρ' M',Zc0 src tg c (g M1.length) (cnt src M1) 0 (roB k fr ρ) (M1++[.lst []])=.ok ρ' M'/\Q (.ref M1.length) M'
theorem ZiQ{g:Nat->Ro->Sto->Out Ro}:wO (Zb2 fi k fr tg c g ρ M) Q E=wO (fi ρ M) (ZsD tg c g k fr ρ Q) E:=by
 unfold Zb2;rw[Zx];congr 1;funext src M1;unfold ZsD;cases e:Zc0 src tg c (g M1.length) (cnt src M1) 0 (roB k fr ρ) (M1++[.lst []])with
 |ok ρ' M'=>exact propext ⟨fun h=>⟨ρ',M',rfl,h⟩,fun⟨_,_,z,h⟩=>by cases z;exact h⟩
 |exc x M'=>exact propext ⟨fun h=>h.elim,fun⟨_,_,z,_⟩=>by cases z⟩
 |bad=>exact propext ⟨fun h=>h.elim,fun⟨_,_,z,_⟩=>by cases z⟩
end
end DL
namespace DL
open L2
def Zm8(gs:Tgs)(ρ:Ro)(N:W1)(M:Sto)(ds:List D):Prop:=wG (gs ds ρ) (kQ N id M)
def Zp0(gs:Tgs)(ρ:Ro)(N:W1)(M:Sto)(n:Nat):Prop:=wL M[n]? (Zm8 gs ρ N M)
def ZtW(gs:Tgs)(ρ:Ro)(N:W1)(d:D)(M:Sto):Prop:=wR d (Zp0 gs ρ N M)
theorem Zp1:wS (Zkj gs f ρ M) N R B C E=wO (f ρ M) (ZtW gs ρ N) E:=by
 unfold Zkj;rw[ZO];congr 1;funext d M1;cases d with
 |ref n=>
  show wS (match M1[n]? with|some (.lst ds)=>(match gs ds ρ with|some ρ1=>Fl.nx ρ1 M1|none=>.bad)|none=>.bad) N R B C E=wL M1[n]? (Zm8 gs ρ N M1)
  cases M1[n]? with
  |none=>rfl
  |some o=>
   cases o with
   |lst ds=>
    show wS (match gs ds ρ with|some ρ1=>Fl.nx ρ1 M1|none=>.bad) N R B C E=wG (gs ds ρ) (kQ N id M1)
    cases gs ds ρ<;>rfl
 |_=>rfl
noncomputable def kZt(QS:Src->Sto->Prop)(ds:List D)(M:Sto):Prop:=∃n es,ds=[.ref n,.tup es]/\QS (.zipT n es) M
theorem ZtX:wO (DLy2.iZt fs ρ M) QS E=wO (fs ρ M) (kZt QS) E:=by
 unfold DLy2.iZt;rw[Zx];congr 1;funext ds M1;refine propext ⟨fun h=>?_,fun h=>?_⟩
 ·split at h
  ·exact⟨_,_,rfl,h⟩
  ·exact h.elim
 ·obtain⟨n,es,rfl,h⟩:=h;exact h
noncomputable def zpT(xs es:List D):List D:=List.zipWith (fun x y=>D.tup [x,y]) xs es
theorem ZiR(h:es.length<=xs.length):(zpT xs es).length=es.length:=by simp[zpT];lia
theorem ZiS(h:M[n]?=some (.lst xs))(i:Nat):nxt (.zipT n es) i M=some (zpT xs es)[i]?:=by
 simp only[nxt,h,zpT,List.getElem?_zipWith];cases xs[i]?<;>cases es[i]?<;>rfl
theorem Zm9(I:Nat->Ro->Sto->Prop)(hM:M[n]?=some (.lst xs))(hl:es.length<=xs.length)(h0:I 0 ρ M)(hm:∀i ρ M,I i ρ M->M[n]?=some (.lst xs))(st:∀(i:Nat) ρ M (h:i<es.length),I i ρ M->wG (tg (.tup [xs[i],es[i]]) ρ) fun r=>wS (bd r M) (I (i+1)) R N (I (i+1)) E)(hn:∀ρ M,I es.length ρ M->N ρ M):wS (Zem tg bd (.zipT n es) (cnt (.zipT n es) M) 0 ρ M) N R B C E:=by
 have hz:=ZiR hl;refine Zf8 I (xs:=zpT xs es) _ 0 ρ M (by lia) (by simp only[cnt,hM];lia) h0 (fun i ρ M _ hI=>ZiS (hm i ρ M hI) i) (fun i ρ M h hI=>?_) (fun ρ M hI=>hn ρ M (by rw[hz]at hI;exact hI))
 have e:(zpT xs es)[i]=.tup [xs[i]'(by lia),es[i]'(by lia)]:=by simp[zpT]
 rw[e];exact st i ρ M (by lia) hI
theorem Zvc(Inv:Ro->Prop)(F:Nat->D)(hM:M[n]?=some (.lst xs))(hl:es.length<=xs.length)(hb:es.length<10000000)(h0:Inv (roB k fr ρ))(st:∀(i:Nat)(h:i<es.length)(ρ:Ro)(L:Sto),Inv ρ->wG (tg (.tup [xs[i],es[i]]) ρ) fun r=>Inv r/\wO (f r (M++L)) (fun y M2=>y=F i/\M2=M++L) (fun _ _=>False))(hq:Q (.ref M.length) (M++[.lst ((List.range es.length).map F)])):kCo tg (fun _ M=>.ok true M) f k fr ρ Q (.zipT n es) M:=by
 have hz:=ZiR hl;refine ZqR (xs:=zpT xs es) Inv F (by lia) (by simp only[cnt,hM];lia) h0 (fun L i _=>ZiS (by rw[List.getElem?_append_left (Zv hM)];exact hM) i) (fun i hi ρ L hI=>?_) (by rw[hz];exact hq)
 have e:(zpT xs es)[i]=.tup [xs[i]'(by lia),es[i]'(by lia)]:=by simp[zpT]
 rw[e];exact st i (by lia) ρ L hI
end DL
namespace DL
open L2
def Zvd(n:Nat)(d k:D)(kk:List (List Key))(ρ:Ro)(N:W1)(M:Sto)(ds:List D):Prop:=ds.length<10000000/\N ρ (M.set n (.lst (ZnC kyU kk k d ds)))
def ZtY(d x:D)(ρ:Ro)(N:W1)(k:D)(M:Sto):Prop:=∃n kk,x=.du n/\kyU k=some kk/\wL M[n]? (Zvd n d k kk ρ N M)
def ZsE(fi:Ev)(d:D)(ρ:Ro)(N:W1)(E:W2)(x:D)(M:Sto):Prop:=wO (fi ρ M) (ZtY d x ρ N) E
def ZsF(fo fi:Ev)(ρ:Ro)(N:W1)(E:W2)(d:D)(M:Sto):Prop:=wO (fo ρ M) (ZsE fi d ρ N E) E
theorem Zp2:wS (Zki fo fi f ρ M) N R B C E=wO (f ρ M) (ZsF fo fi ρ N E) E:=by
 unfold Zki;rw[ZO];congr 1;funext d M1;rw[ZO];unfold ZsF;congr 1;funext x M2;rw[ZO];unfold ZsE;congr 1;funext k M3;unfold ZtY;cases x with
 |du n=>
  cases e:kyU k with
  |none=>exact propext ⟨fun h=>h.elim,fun⟨_,_,_,z,_⟩=>by cases z⟩
  |some kk=>
   cases em:M3[n]? with
   |none=>simp only[em];exact propext ⟨fun h=>h.elim,fun⟨n',_,z,_,h⟩=>by cases z;rw[em]at h;exact h.elim⟩
   |some o=>
    cases o with
    |lst ds=>
     by_cases c:ds.length<10000000
     ·simp only[em,if_pos c];exact propext ⟨fun h=>⟨n,kk,rfl,rfl,by rw[em];exact⟨c,h⟩⟩,fun⟨n',kk',z,z',h⟩=>by cases z;cases z';rw[em]at h;exact h.2⟩
     ·simp only[em,if_neg c];exact propext ⟨fun h=>h.elim,fun⟨n',kk',z,z',h⟩=>by cases z;cases z';rw[em]at h;exact absurd h.1 c⟩
 |_=>exact propext ⟨fun h=>h.elim,fun⟨_,_,z,_⟩=>by cases z⟩
def ZtZ(Q:W0)(M:Sto)(es:List D):Prop:=Q (.ref M.length) (M++[.lst (es.map Zic)])
theorem ZsG:wO (bLisU [.du n] M) Q E=wL M[n]? (ZtZ Q M):=by
 show wO (match M[n]? with|some (.lst es)=>Out.ok (.ref M.length) (M++[.lst (es.map Zic)])|none=>.bad) Q E=_
 cases M[n]? with
 |none=>rfl
 |some o=>cases o with|lst xs=>rfl
theorem ZsH:wO (eDnU ρ M) Q E=Q (.du M.length) (M++[.lst []]):=rfl
end DL
namespace DL
noncomputable abbrev Pt:=Int×Int
noncomputable def X(p q:Pt):Int:=p.1*q.2-p.2*q.1
section
variable {rs:List Pt}{i j:Int}{k:Nat}{p:Pt}
theorem ZbH{α:Type}{l:List α}{d:α}(h:n<l.length):l.getD n d=l[n]:=by simp[List.getElem?_eq_getElem h]
theorem ZbQ(h:0<=i/\i<rs.length):cy rs i=rs.getD i.toNat (0,0):=by
 unfold cy;rw[Int.emod_eq_of_lt h.1 h.2]
theorem ZaE{m:Nat}(h:m≠0):(i%m).toNat<m/\0<=i%m:=by
 have:=Int.emod_lt_of_pos i (show(0:Int)<m by lia)
 have:=Int.emod_nonneg i (show(m:Int)≠0 by lia)
 lia
theorem ZX(h:rs≠[]):cy rs i∈rs:=by
 have hl:rs.length≠0:=by simpa using h
 unfold cy;rw[ZbH (ZaE hl).1];exact List.getElem_mem _
theorem Zgc{f:Pt->Pt}(h:rs≠[]):cy (rs.map f) i=f (cy rs i):=by
 have hl:rs.length≠0:=by simpa using h
 unfold cy;rw[List.length_map,ZbH (by rw[List.length_map];exact(ZaE hl).1),ZbH (ZaE hl).1,List.getElem_map]
theorem Zll(hk:k<=rs.length):cy (rs.drop k++rs.take k) i=cy rs (i+k):=by
 by_cases h:rs.length=0
 ·have:rs=[]:=by simpa using h
  subst this;simp[cy]
 have hL:(rs.drop k++rs.take k).length=rs.length:=by simp;lia
 have e1:cy (rs.drop k++rs.take k) i=cy (rs.drop k++rs.take k) (i%rs.length):=by
  conv=>rhs;rw[<-hL,Zdc]
 have e2:cy rs (i+k)=cy rs (i%rs.length+k):=by
  unfold cy;rw[Int.emod_add_emod]
 rw[e1,e2];obtain⟨a,b⟩:=ZaE (i:=i) h;generalize hm:i%(rs.length:Int)=m at *;have hm2:m<rs.length:=by lia
 rw[ZbQ (by rw[hL];lia)]
 by_cases c:m+k<rs.length
 ·rw[ZbQ (by lia)]
  rw[List.getD_eq_getElem?_getD,List.getD_eq_getElem?_getD,List.getElem?_append_left (by simp;lia),List.getElem?_drop]
  congr 2;lia
 ·rw[<-ZeK,ZbQ (by lia)]
  rw[List.getD_eq_getElem?_getD,List.getD_eq_getElem?_getD,List.getElem?_append_right (by simp;lia),List.getElem?_take_of_lt (by simp;lia)]
  congr 2;simp;lia
noncomputable def ins(rs:List Pt)(k:Nat)(p:Pt):List Pt:=rs.take (k+1)++p::rs.drop (k+1)
theorem Zfj(hk:k<rs.length):(ins rs k p).length=rs.length+1:=by simp[ins];lia
theorem Zlm(hk:k<rs.length)(h0:0<=j)(h1:j<=rs.length+1):cy (ins rs k p) j=if j<=k then cy rs j else if j=k+1 then p else cy rs (j-1):=by
 have hL:=Zfj (p:=p) hk;by_cases e:j=rs.length+1
 ·subst e;rw[if_neg (by lia),if_neg (by lia)]
  have e1:cy (ins rs k p) (rs.length+1)=cy (ins rs k p) 0:=by
   have:=ZeK (rs:=ins rs k p) (i:=(rs.length:Int)+1)
   rw[hL]at this;rw[<-this];congr 1;lia
  have e2:cy rs ((rs.length:Int)+1-1)=cy rs 0:=by
   rw[<-ZeK];congr 1;lia
  rw[e1,e2,ZbQ (by rw[hL];lia),ZbQ (by lia)]
  unfold ins;rw[List.getD_eq_getElem?_getD,List.getD_eq_getElem?_getD,List.getElem?_append_left (by simp;lia),List.getElem?_take_of_lt (by simp)]
 ·have hj:j<rs.length+1:=by lia
  rw[ZbQ (by rw[hL];lia)]
  unfold ins;rw[List.getD_eq_getElem?_getD];by_cases c1:j<=k
  ·rw[if_pos c1,ZbQ (by lia),List.getD_eq_getElem?_getD,List.getElem?_append_left (by simp;lia),List.getElem?_take_of_lt (by lia)]
  ·rw[if_neg c1,List.getElem?_append_right (by simp;lia)]
   have hl:(rs.take (k+1)).length=k+1:=by simp;lia
   rw[hl];by_cases c2:j=k+1
   ·rw[if_pos c2]
    have:j.toNat-(k+1)=0:=by lia
    rw[this];rfl
   ·rw[if_neg c2,ZbQ (by lia),List.getD_eq_getElem?_getD]
    obtain⟨z,hz⟩:∃z,j.toNat-(k+1)=z+1:=⟨j.toNat-(k+1)-1,by lia⟩
    rw[hz,List.getElem?_cons_succ,List.getElem?_drop];congr 2;lia
theorem ZdD{P:Pt->Pt->Prop}(hn:rs.length≠0)(h:∀i:Int,0<=i->i<rs.length->P (cy rs i) (cy rs (i+1)))(i:Int):P (cy rs i) (cy rs (i+1)):=by
 have e1:cy rs i=cy rs (i%rs.length):=Zdc.symm;have e2:cy rs (i+1)=cy rs (i%rs.length+1):=by
  unfold cy;rw[Int.emod_add_emod]
 rw[e1,e2];obtain⟨a,b⟩:=ZaE (i:=i) hn;exact h _ b (by lia)
noncomputable def cc(f:Pt->Pt->Nat):List Pt->Nat
 |a::b::r=>f a b+cc f (b::r)
 |_=>0
def cyc(f:Pt->Pt->Nat)(rs:List Pt):Nat:=cc f (rs++rs.take 1)
theorem ZeL{f:Pt->Pt->Nat}:∀(L:List Pt)(a:Pt)(R:List Pt),cc f (L++a::R)=cc f (L++[a])+cc f (a::R)
 |[],a,R=>by simp[cc]
 |[b],a,R=>by simp[cc]
 |b::c::L,a,R=>by
  have:=ZeL (f:=f) (c::L) a R
  simp only[List.cons_append,cc]at this ⊢;lia
theorem Zln{f:Pt->Pt->Nat}{g:Pt->Pt}:∀(L:List Pt),cc f (L.map g)=cc (fun a b=>f (g a) (g b)) L
 |[]=>rfl
 |[_]=>rfl
 |a::b::L=>by
  have:=Zln (f:=f) (g:=g) (b::L)
  simp only[List.map_cons,cc]at this ⊢;lia
theorem Zcn:cyc f (a::r)=cc f (a::(r++[a])):=by simp[cyc]
theorem ZdE(A B:List Pt):cyc f (A++B)=cyc f (B++A):=by
 cases A with
 |nil=>simp
 |cons a A=>
  cases B with
  |nil=>simp
  |cons b B=>
   rw[List.cons_append,Zcn,List.cons_append,Zcn];have e1:a::(A++b::B++[a])=(a::A)++b::(B++[a]):=by simp
   have e2:b::(B++a::A++[b])=(b::B)++a::(A++[b]):=by simp
   rw[e1,e2,ZeL (a::A) b,ZeL (b::B) a];simp only[List.cons_append];lia
theorem ZiT(L:List Pt):cyc f (L.map g)=cyc (fun a b=>f (g a) (g b)) L:=by
 unfold cyc;rw[<-List.map_take,<-List.map_append,Zln]
def in1(w a b:Pt):Nat:=if 0<=X a w/\0<X w b then 1 else 0
def in2(w a b:Pt):Nat:=if 0<X a w/\0<=X w b then 1 else 0
def Fan(rs:List Pt):Prop:=∀w:Pt,w≠(0,0)->cyc (in1 w) rs=1/\cyc (in2 w) rs=1
theorem Zp3:X w (a.1+b.1,a.2+b.2)=X w a+X w b/\X (a.1+b.1,a.2+b.2) w=X a w+X b w:=by unfold X;constructor<;>grind
theorem ZnF{p:Pt}:X p q=0-X q p:=by unfold X;grind
theorem Zna:in1 w a b=in1 w a (a.1+b.1,a.2+b.2)+in1 w (a.1+b.1,a.2+b.2) b:=by
 have s:=Zp3 (a:=a) (b:=b) (w:=w);have e1:=ZnF (p:=w) (q:=a);have e2:=ZnF (p:=b) (q:=w);unfold in1;rw[s.1,s.2,e1,e2];generalize X a w=p;generalize X w b=q
 repeat' split
 all_goals lia
theorem Znb:in2 w a b=in2 w a (a.1+b.1,a.2+b.2)+in2 w (a.1+b.1,a.2+b.2) b:=by
 have s:=Zp3 (a:=a) (b:=b) (w:=w);have e1:=ZnF (p:=w) (q:=a);have e2:=ZnF (p:=b) (q:=w);unfold in2;rw[s.1,s.2,e1,e2];generalize X a w=p;generalize X w b=q
 repeat' split
 all_goals lia
theorem Zp4{L R:List Pt}:cy (L++a::R) L.length=a:=by
 rw[ZbQ (by simp;lia)]
 simp
theorem ZsI{L R:List Pt}:cy (L++a::b::R) (L.length+1)=b:=by
 rw[ZbQ (by simp;lia)]
 rw[show((L.length:Int)+1).toNat=L.length+1 by lia]
 simp
theorem ZiU{r:List Pt}:cy (a::r) (r.length+1)=a:=by
 have:=ZeK (rs:=a::r) (i:=(r.length:Int)+1)
 rw[<-this,List.length_cons,show(r.length:Int)+1-((r.length+1:Nat):Int)=0 by lia,ZbQ (by simp)]
 rfl
theorem ZiV(hk:k<rs.length)(hf:f (cy rs k) (cy rs (k+1))=f (cy rs k) p+f p (cy rs (k+1))):cyc f (ins rs k p)=cyc f rs:=by
 obtain⟨L,a,R,e,hl⟩:∃L a R,rs=L++a::R/\L.length=k:=⟨rs.take k,rs[k],rs.drop (k+1),by rw[List.getElem_cons_drop,List.take_append_drop],by simp;lia⟩
 have ei:ins rs k p=L++a::p::R:=by
  unfold ins;rw[e,<-hl,List.take_append,List.drop_append,List.take_of_length_le (by lia),List.drop_eq_nil_of_le (by lia)]
  simp
 have ca:cy rs k=a:=by rw[e,<-hl];exact Zp4
 cases R with
 |cons b R=>
  have cb:cy rs (k+1)=b:=by rw[e,<-hl];exact ZsI
  rw[ca,cb]at hf;rw[ei,e,ZdE,ZdE L];simp only[List.cons_append,Zcn,cc];lia
 |nil=>
  cases L with
  |nil=>
   have cb:cy rs (k+1)=a:=by
    rw[e,<-hl];exact ZiU (r:=[]) (a:=a)
   rw[ca,cb]at hf;rw[ei,e];simp[cyc,cc];lia
  |cons b L=>
   have cb:cy rs (k+1)=b:=by
    rw[e,<-hl]
    have:=ZiU (r:=L++[a]) (a:=b)
    simp only[List.length_append,List.length_cons,List.length_nil]at this ⊢;exact this
   rw[ca,cb]at hf;rw[ei,e];simp only[List.cons_append,Zcn];have e1:b::(L++[a,p]++[b])=(b::L)++a::[p,b]:=by simp
   have e2:b::(L++[a]++[b])=(b::L)++a::[b]:=by simp
   rw[e1,e2,ZeL,ZeL (b::L) a [b]];simp only[cc];lia
theorem Fan.rot(h:Fan rs):Fan (rs.drop k++rs.take k):=fun w hw=>by
 rw[ZdE,ZdE (rs.drop k),List.take_append_drop];exact h w hw
theorem Fan.ins(h:Fan rs)(hk:k<rs.length):Fan (ins rs k ((cy rs k).1+(cy rs (k+1)).1,(cy rs k).2+(cy rs (k+1)).2)):=fun w hw=>by
 rw[ZiV hk Zna,ZiV hk Znb];exact h w hw
theorem Zp5{f:Pt->Pt}(hs:s=1\/s= -1)(hf:∀p q,X (f p) (f q)=s*X p q)(w:Pt)(hw:w≠(0,0)):∃w':Pt,w'≠(0,0)/\∀a,X (f a) w=s*X a w':=by
 have d:=hf (1,0) (0,1);have d1:X (f (1,0)) (f (0,1))=s:=by rw[d];simp[X]
 have lin:∀a,(f a).1=a.1*(f (1,0)).1+a.2*(f (0,1)).1/\(f a).2=a.1*(f (1,0)).2+a.2*(f (0,1)).2:=by
  intro a;have h1:=hf a (1,0);have h2:=hf a (0,1);generalize f a=u at *;generalize f (1,0)=e1 at *;generalize f (0,1)=e2 at *;unfold X at *;rcases hs with rfl|rfl<;>constructor<;>grind
 refine⟨(X w (f (0,1))*s,X (f (1,0)) w*s),?_,?_⟩
 ·intro z;apply hw;have z1:=congrArg Prod.fst z;have z2:=congrArg Prod.snd z;simp only at z1 z2;generalize f (1,0)=e1 at *;generalize f (0,1)=e2 at *;unfold X at *;apply Prod.ext
  ·rcases hs with rfl|rfl<;>simp only[]<;>grind
  ·rcases hs with rfl|rfl<;>simp only[]<;>grind
 ·intro a;obtain⟨l1,l2⟩:=lin a;unfold X;rw[l1,l2];rcases hs with rfl|rfl<;>simp only[]<;>grind
theorem Fan.map(h:Fan rs)(hf:∀p q,X (f p) (f q)=X p q):Fan (rs.map f):=fun w hw=>by
 obtain⟨w',hw',e⟩:=Zp5 (s:=1) (.inl rfl) (fun p q=>by rw[hf,Int.one_mul]) w hw
 have e2:∀a,X w (f a)=X w' a:=fun a=>by rw[ZnF,e,ZnF (p:=w')];lia
 have c1:∀a b,in1 w (f a) (f b)=in1 w' a b:=fun a b=>by unfold in1;rw[e,e2,Int.one_mul]
 have c2:∀a b,in2 w (f a) (f b)=in2 w' a b:=fun a b=>by unfold in2;rw[e,e2,Int.one_mul]
 rw[ZiT,ZiT,show(fun a b=>in1 w (f a) (f b))=in1 w' from funext fun a=>funext fun b=>c1 a b,show(fun a b=>in2 w (f a) (f b))=in2 w' from funext fun a=>funext fun b=>c2 a b];exact h w' hw'
structure Smo(rs:List Pt):Prop where
 len:3<=rs.length
 one:∀i:Int,X (cy rs i) (cy rs (i+1))=1
 fan:Fan rs
noncomputable def Nr(b:Int)(rs:List Pt):Prop:=∀p∈rs,(-b<=p.1/\p.1<=b)/\ -b<=p.2/\p.2<=b
theorem Smo.ne(h:Smo rs):rs≠[]:=by
 intro z
 have:=h.len
 rw[z]at this;simp at this
theorem Nr.cy{b:Int}(h:Nr b rs)(hn:rs≠[])(i:Int):(-b<=(cy rs i).1/\(cy rs i).1<=b)/\ -b<=(cy rs i).2/\(cy rs i).2<=b:=h _ (ZX hn)
theorem Smo.ins(h:Smo rs)(hk:k<rs.length):Smo (ins rs k ((cy rs k).1+(cy rs (k+1)).1,(cy rs k).2+(cy rs (k+1)).2)):=by
 have hL:=Zfj (p:=((cy rs k).1+(cy rs (k+1)).1,(cy rs k).2+(cy rs (k+1)).2)) hk;refine⟨by rw[hL];have:=h.len;lia,?_,h.fan.ins hk⟩
 refine ZdD (P:=fun a b=>X a b=1) (by lia) ?_
 intro i h0 h1;rw[hL]at h1;rw[Zlm hk h0 (by lia),Zlm hk (by lia) (by lia)]
 have ok:=h.one k;by_cases c1:i+1<=k
 ·rw[if_pos (by lia),if_pos c1];exact h.one i
 ·rw[if_neg c1];by_cases c2:i=k
  ·subst c2;rw[if_pos (by lia),if_pos rfl]
   unfold X at *;grind
  ·rw[if_neg (by lia:¬i<=(k:Int)),if_neg (by lia:¬i+1=(k:Int)+1)]
   by_cases c3:i=k+1
   ·subst c3;rw[if_pos rfl]
    have:(k:Int)+1+1-1=k+1:=by lia
    rw[this];unfold X at *;grind
   ·rw[if_neg c3]
    have:=h.one (i-1)
    have e:i-1+1=i+1-1:=by lia
    rw[e]at this;exact this
theorem Smo.rot(h:Smo rs)(hk:k<=rs.length):Smo (rs.drop k++rs.take k):=by
 refine⟨by have:=h.len;simp;lia,fun i=>?_,h.fan.rot⟩
 rw[Zll hk,Zll hk]
 have:=h.one (i+k)
 have e:i+(k:Int)+1=i+1+k:=by lia
 rw[e]at this;exact this
theorem Smo.map(h:Smo rs)(hf:∀p q,X (f p) (f q)=X p q):Smo (rs.map f):=by
 refine⟨by have:=h.len;simp;lia,fun i=>?_,h.fan.map hf⟩
 rw[Zgc h.ne,Zgc h.ne,hf];exact h.one i
theorem Nr.ins{b:Int}(h:Nr b rs)(hp:(-b<=p.1/\p.1<=b)/\ -b<=p.2/\p.2<=b):Nr b (ins rs k p):=by
 intro q hq;rcases List.mem_append.mp hq with hq|hq
 ·exact h q (List.mem_of_mem_take hq)
 ·rcases List.mem_cons.mp hq with hq|hq
  ·subst hq;exact hp
  ·exact h q (List.mem_of_mem_drop hq)
theorem Nr.rot(h:Nr b rs):Nr b (rs.drop k++rs.take k):=by
 intro q hq;rcases List.mem_append.mp hq with hq|hq
 ·exact h q (List.mem_of_mem_drop hq)
 ·exact h q (List.mem_of_mem_take hq)
end
end DL
namespace CC
open L2 DL
def ZcG:Sv:=(Z6 (e2 dSub (e2 dMul (e2 dIx (Zg 0) (eC (.int 0))) (e2 dIx (Zg 1) (eC (.int 1)))) (e2 dMul (e2 dIx (Zg 0) (eC (.int 1))) (e2 dIx (Zg 1) (eC (.int 0))))))
def F_crossed:W3:=fnF ZcG 2 0
def Zbr:Sv:=(Z6 (e2 dIx (Zg 0) (e2 dMod (e2 dAdd (Zg 1) (eC (.int 1))) (Zj bLen (Zc (Zg 0) aNil)))))
def F_following:W3:=fnF Zbr 2 0
def ZaF:Sv:=(sIf (tv (e2 dNe (Zj F_crossed (Zc (Zg 2) (Zc (Zj F_following (Zc (Zg 0) (Zc (Zg 1) aNil))) aNil))) (eC (.int 1)))) (Z6 (Zg 1)) sNil)
def Zbs:Sv:=(ZE (Ze7 (gTp (gCs (gNm 1) (gCs (gNm 2) gNl))) (iEn (Zc (Zg 0) aNil)) ZaF) (Z6 (eC .non)))
def F_unspanned:W3:=fnF Zbs 1 2
def Za5:Sv:=(ZE (ZJ (gNm 1) (Zj F_unspanned (Zc (Zg 0) aNil))) (sIf (tv (e2 dIsNot (Zg 1) (eC .non))) (Zek (PySem.Str.ofString "NotSmooth") (Zc (eFs (Zdv (eC (.str (PySem.Str.ofString "ray "))) (Zdv (eFm (Zg 1)) (Zdv (eC (.str (PySem.Str.ofString " does not cross the next one in 1"))) jNil)))) aNil)) sNil))
def F_ask_smooth:W3:=fnF Za5 1 1
def ZaM:Sv:=(ZE (ZJ (gNm 2) (eC (.int 0))) (ZE (sIf (tv (e2 dLt (Zg 1) (Zj bLen (Zc (Zg 0) aNil)))) (ZJ (gNm 2) (e2 dMod (e2 dIx (Zg 0) (Zg 1)) (e2 dPow (eC (.int 10)) (eC (.int 60))))) sNil) (ZE (sIf (tv (e2 dLt (Zg 2) (e2 dPow (eC (.int 10)) (eC (.int 18))))) (ZE (ZJ (gNm 3) (e2 dMod (e2 dMul (e2 dAdd (Zg 2) (e2 dMul (eC (.int 1442695040888963407)) (e2 dAdd (Zg 1) (eC (.int 1))))) (eC (.int 6364136223846793005))) (e2 dPow (eC (.int 10)) (eC (.int 37))))) (ZJ (gNm 2) (e2 dMod (e2 dDiv (e2 dMul (Zg 3) (Zg 3)) (e2 dPow (eC (.int 10)) (eC (.int 17)))) (e2 dPow (eC (.int 10)) (eC (.int 56)))))) sNil) (Z6 (Zg 2)))))
def F_law_cell_at:W3:=fnF ZaM 2 2
def ZcH:Sv:=(Z6 (e2 dSub (e2 dMul (e2 dIx (Zg 0) (eC (.int 0))) (e2 dIx (Zg 1) (eC (.int 1)))) (e2 dMul (e2 dIx (Zg 0) (eC (.int 1))) (e2 dIx (Zg 1) (eC (.int 0))))))
def F_law_cross:W3:=fnF ZcH 2 0
def ZaN:Sv:=(sIf (tv (e2 dEq (Zg 4) (eC (.int 0)))) (ZbC (ZgV mApp (Zg 5) (Zc (Zak (Zc (e2 dAdd (Zg 6) (e2 dMul (Zg 3) (Zg 7))) (Zc (Zg 7) aNil))) aNil))) (sIf (tv (e2 dEq (Zg 4) (eC (.int 1)))) (ZbC (ZgV mApp (Zg 5) (Zc (Zak (Zc (Zg 6) (Zc (e2 dAdd (Zg 7) (e2 dMul (Zg 3) (Zg 6))) aNil))) aNil))) (sIf (tv (e2 dEq (Zg 4) (eC (.int 2)))) (ZbC (ZgV mApp (Zg 5) (Zc (Zak (Zc (e2 dSub (eC (.int 0)) (Zg 7)) (Zc (Zg 6) aNil))) aNil))) (ZbC (ZgV mApp (Zg 5) (Zc (Zak (Zc (Zg 6) (Zc (Zg 7) aNil))) aNil))))))
def ZaO:Sv:=(ZE (ZJ (gNm 3) (e2 dSub (e2 dMod (e2 dDiv (Zg 1) (eC (.int 4))) (eC (.int 5))) (eC (.int 2)))) (ZE (sIf (tv (e2 dEq (e2 dMod (e2 dDiv (Zg 1) (eC (.int 20))) (eC (.int 8))) (eC (.int 0)))) (ZJ (gNm 3) (e2 dSub (e2 dMod (e2 dDiv (Zg 1) (eC (.int 160))) (eC (.int 19))) (eC (.int 9)))) sNil) (ZE (ZJ (gNm 4) (e2 dMod (Zg 1) (eC (.int 4)))) (ZE (ZJ (gNm 1) (e2 dDiv (Zg 1) (eC (.int 3040)))) (ZE (ZJ (gNm 5) (Zcw aNil)) (ZE (Zjr (gTp (gCs (gNm 6) (gCs (gNm 7) gNl))) (Zg 0) ZaN) (sIf (tv (e2 dLe (Zj (ZcC List.max?) (Zc (e2 dAdd (Zal (iSq (Zg 5)) 2 [] (gTp (gCs (gNm 0) (gCs (gNm 1) gNl))) (fun _ M=>.ok true M) (Zj bAbs (Zc (Zg 0) aNil))) (Zal (iSq (Zg 5)) 2 [] (gTp (gCs (gNm 0) (gCs (gNm 1) gNl))) (fun _ M=>.ok true M) (Zj bAbs (Zc (Zg 1) aNil)))) aNil)) (eC (.int 200)))) (ZJ (gNm 0) (Zg 5)) sNil)))))))
def ZbR:Sv:=(ZE (Za1 (gNm 2) (Zc (eC (.int 3)) aNil) ZaO) (Z6 (Zg 0)))
def F_law_turn:W3:=fnF ZbR 2 6
def Zat:Sv:=(ZE (ZJ (gNm 6) (e2 dMod (Zg 0) (Zj bLen (Zc (Zg 3) aNil)))) (ZE (ZJ (gNm 0) (e2 dDiv (Zg 0) (eC (.int 17)))) (ZE (ZJ (gNm 7) (e2 dIx (Zg 3) (Zg 6))) (ZE (ZJ (gNm 8) (e2 dIx (Zg 3) (e2 dMod (e2 dAdd (Zg 6) (eC (.int 1))) (Zj bLen (Zc (Zg 3) aNil))))) (ZE (ZJ (gNm 9) (Zak (Zc (e2 dAdd (e2 dIx (Zg 7) (eC (.int 0))) (e2 dIx (Zg 8) (eC (.int 0)))) (Zc (e2 dAdd (e2 dIx (Zg 7) (eC (.int 1))) (e2 dIx (Zg 8) (eC (.int 1)))) aNil)))) (sIf (Zct (tv (e2 dLe (Zj bAbs (Zc (e2 dIx (Zg 9) (eC (.int 0))) aNil)) (eC (.int 200)))) (tv (e2 dLe (Zj bAbs (Zc (e2 dIx (Zg 9) (eC (.int 1))) aNil)) (eC (.int 200))))) (ZJ (gNm 3) (e2 dAdd (e2 dAdd (eSl (Zg 3) oNo (oSo (e2 dAdd (Zg 6) (eC (.int 1))))) (Zcw (Zc (Zg 9) aNil))) (eSl (Zg 3) (oSo (e2 dAdd (Zg 6) (eC (.int 1)))) oNo))) sNil))))))
def Za6:Sv:=(ZE (ZJ (gNm 2) (e2 dAdd (eC (.int 3)) (e2 dMod (Zg 0) (e2 dSub (Zg 1) (eC (.int 2)))))) (ZE (ZJ (gNm 0) (e2 dDiv (Zg 0) (e2 dSub (Zg 1) (eC (.int 2))))) (ZE (ZJ (gNm 3) (Zcw (Zc (Zak (Zc (eC (.int 1)) (Zc (eC (.int 0)) aNil))) (Zc (Zak (Zc (eC (.int 0)) (Zc (eC (.int 1)) aNil))) (Zc (Zak (Zc (Ze2 (eC (.int 1))) (Zc (Ze2 (eC (.int 1))) aNil))) aNil))))) (ZE (sIf (Zct (tv (e2 dGt (Zg 2) (eC (.int 3)))) (tv (e2 dGt (e2 dMod (Zg 0) (eC (.int 4))) (eC (.int 0))))) (ZE (ZJ (gNm 4) (e2 dMod (e2 dDiv (Zg 0) (eC (.int 4))) (e2 dIx (Zcw (Zc (eC (.int 3)) (Zc (eC (.int 4)) (Zc (eC (.int 6)) (Zc (eC (.int 40)) aNil))))) (e2 dMod (e2 dDiv (Zg 0) (eC (.int 512))) (eC (.int 4)))))) (ZJ (gNm 3) (Zcw (Zc (Zak (Zc (eC (.int 1)) (Zc (eC (.int 0)) aNil))) (Zc (Zak (Zc (eC (.int 0)) (Zc (eC (.int 1)) aNil))) (Zc (Zak (Zc (Ze2 (eC (.int 1))) (Zc (Zg 4) aNil))) (Zc (Zak (Zc (eC (.int 0)) (Zc (Ze2 (eC (.int 1))) aNil))) aNil))))))) sNil) (ZE (ZJ (gNm 0) (e2 dDiv (Zg 0) (eC (.int 2048)))) (ZE (Za1 (gNm 5) (Zc (e2 dSub (Zg 2) (Zj bLen (Zc (Zg 3) aNil))) aNil) Zat) (ZE (ZJ (gNm 3) (Zj F_law_turn (Zc (Zg 3) (Zc (Zg 0) aNil)))) (ZE (ZJ (gNm 6) (e2 dMod (e2 dDiv (Zg 0) (e2 dPow (eC (.int 10)) (eC (.int 12)))) (Zj bLen (Zc (Zg 3) aNil)))) (Z6 (e2 dAdd (eSl (Zg 3) (oSo (Zg 6)) oNo) (eSl (Zg 3) oNo (oSo (Zg 6)))))))))))))
def F_law_smooth:W3:=fnF Za6 2 8
end CC
open L2 DL
set_option hygiene false
set_option compiler.extract_closed false
local macro_rules | `(tactic| simp! [$ls,*]) => `(tactic| simp (implicitDefEqProofs := false) (disch := lia) only [ZuR, y_c, y_v, ZpD, Zr9, ZpE, Zsa, Zsb, ZuS, ZuT, ZuW, Zsh, Zsj, ZpL, Zsk, ZpM, ZuZ, Zsl, Zsm, ZpO, Zsp, ZpR, Zu4, Zsr, Zu7, Zu8, Zsu, Zsw, ZpT, kU, kQ, kB2, kB1, kA2, kA1, kTu, kLs, kTy, kTA, kTO, kTN, kSq, kDr, kSi, kAs, Zts, Ztt, Ztu, Ztv, Ztw, Ztx, Zty, Ztz, ZtA, kR1, kFo, kFs, ZtK, ZtL, ZpS, kEq, kNe, kIx, ZtN, ZpV, ZpW, kMt, ZtP, ZqQ, decide_eq_true, decide_eq_false, wF1, wF2, Zuz, ZuA, ZuB, ZuC, ZuD, Zux, Zuy, ZrL, ZrM, ZrN, ZrO, ZrP, ZuF, id, roB, kpR, at0, at1, gTp, gCs, gNl, gNm, List.set_cons_zero, List.set_cons_succ, List.getElem?_cons_zero, List.getElem?_cons_succ, List.length_cons, List.length_nil, List.length_append, List.length_map, List.map_cons, List.map_nil, List.cons_append, List.nil_append, List.append_assoc, List.append_nil, List.replicate_succ, List.replicate_zero, Zky, ZdA, ZP, ZbP, Zr4, true_and, and_true, Bool.not_true, Bool.not_false, decide_true, decide_false, Nat.reduceAdd, Nat.reduceLeDiff, Nat.reduceLT, Nat.add_zero, Nat.zero_add, Int.reducePow, Int.reduceToNat, Int.reduceNeg, Int.reduceMod, Int.reduceDiv, Int.reduceAdd, Int.reduceSub, Int.reduceMul, Int.reduceEq, Int.reduceLT, Int.reduceLE, $ls,*])
set_option hygiene true
namespace CC
open L2 DL
section
variable {i:Int}
theorem ZeM(ha: -(18446744073709551616)<a/\a<18446744073709551616)(hb: -(18446744073709551616)<b/\b<18446744073709551616):wO (F_crossed [pr a b,pr c d] M) Q E=Q (.int (a*d-b*c)) M:=by
 simp![F_crossed,ZcG]
theorem ZcI(h:M[n]?=some (.lst (prs rs)))(hi:0<=i/\i<rs.length):wO (F_following [.ref n,.int i] M) Q E=Q (pr (cy rs (i+1)).1 (cy rs (i+1)).2) M:=by
 have e:=ZaE (i:=i+1) (m:=rs.length) (by lia)
 simp![F_following,Zbr,h,ZbG,Zdc]
theorem ZcJ{i:Nat}(h:i<(prs rs).length):(prs rs)[i]=pr (cy rs i).1 (cy rs i).2:=by
 have h':i<rs.length:=by rw[ZP]at h;exact h
 rw[Zf9 h'];simp[prs]
theorem Nr.big(h:Nr b rs)(hb:b<=18446744073709551615)(hn:rs≠[])(i:Int):(-(18446744073709551616)<(cy rs i).1/\(cy rs i).1<18446744073709551616)/\(-(18446744073709551616)<(cy rs i).2/\(cy rs i).2<18446744073709551616):=by
 have:=Nr.cy h hn i
 lia
theorem Zfk(h:M[n]?=some (.lst (prs rs)))(hs:Smo rs)(hb:Nr 18446744073709551615 rs)(k:Q .non M):wO (F_unspanned [.ref n] M) Q E:=by
 simp![ZpQ,Zu5,ZtJ,kEn,F_unspanned,Zbs];refine ZpB (fun i ρ M'=>M'=M/\∃x y,ρ=[some (.ref n),x,y]) h ⟨rfl,_,_,rfl⟩ (fun i ρ M' hI=>by rw[hI.1];exact h) ?_ ?_
 ·rintro i ρ M' hi ⟨rfl,x,y,rfl⟩;have b1:=Nr.big hb (by decide) hs.ne i
  have o1:=hs.one i;have hi':i<rs.length:=by rw[ZP]at hi;exact hi
  rw[ZcJ];simp![ZpQ,Zu5,ZtJ,kEn,ZaF,ZcI h,ZeM];unfold X at o1;rw[o1];simp![ZpQ,Zu5,ZtJ,kEn,Zn];exact⟨_,_,rfl⟩
 ·rintro ρ M' ⟨rfl,x,y,rfl⟩;simp![ZpQ,Zu5,ZtJ,kEn,Zn];exact k
theorem Zb4(h:M[n]?=some (.lst (prs rs)))(hs:Smo rs)(hb:Nr 18446744073709551615 rs)(k:Q .non M):wO (F_ask_smooth [.ref n] M) Q E:=by
 simp![Zst,Zr6,F_ask_smooth,Za5];refine Zfk h hs hb ?_;simp![Zst,Zr6,Zn];exact k
theorem Zp6{i:Int}(hi:0<=i/\i<10^60)(hj:0<=j/\j<10^60):Zt i j:=Zr 200 200 (show i.natAbs<2^200 by lia) (show j.natAbs<2^200 by lia) (by decide) (by decide)
theorem ZeN{ns:List Int}{k:Nat}(q:∀c:Int,0<=c->Q (.int c) M):wO (F_law_cell_at [.rol (ns.map D.int),.int k] M) Q E:=by
 have tail:∀v:Int,0<=v->Q (.int v) M:=q;simp![ZuY,Zsv,Zpj,ZrQ,Zpm,F_law_cell_at,ZaM];refine brS (fun h1=>?_) (fun h1=>?_)
 ·have h2:k<ns.length:=by simpa using h1
  simp![ZuY,Zsv,Zpj,ZrQ,Zpm,Zkv h2];obtain⟨c,hc,c0⟩:∃c:Int,ns[k]%1000000000000000000000000000000000000000000000000000000000000=c/\0<=c:=⟨_,rfl,by lia⟩
  rw[hc];refine brS (fun h1=>?_) (fun h1=>?_)
  ·simp![ZuY,Zsv,Zpj,ZrQ,Zpm,Zn];rw[ZI (Zp6 (by lia) (by lia))]
   simp![ZuY,Zsv,Zpj,ZrQ,Zpm,Zn];exact q _ (by lia)
  ·simp![ZuY,Zsv,Zpj,ZrQ,Zpm,Zn];exact q _ c0
 ·obtain⟨c,hc,c0⟩:∃c:Int,0=c/\0<=c:=⟨_,rfl,by lia⟩
  rw[hc];simp![ZuY,Zsv,Zpj,ZrQ,Zpm,Zn];rw[ZI (Zp6 (by lia) (by lia))]
  simp![ZuY,Zsv,Zpj,ZrQ,Zpm,Zn];exact q _ (by lia)
noncomputable def tf(w m:Int)(p:Pt):Pt:=if w=0 then(p.1+m*p.2,p.2)else if w=1 then(p.1,p.2+m*p.1)else if w=2 then(0-p.2,p.1)else p
theorem Zt0(p q:Pt):X (tf w m p) (tf w m q)=X p q:=by
 unfold tf X;split
 ·grind
 ·split
  ·grind
  ·split
   ·grind
   ·rfl
theorem ZbI:ZaD (nts xs)=some xs:=by
 induction xs with
 |nil=>rfl
 |cons x r ih=>show(match ZaD (nts r)with|some bs=>some (x::bs)|none=>none)=_;rw[ih]
theorem Zp7{xs:List Int}(h:xs.max?=some v)(hv:v<=b):∀x∈xs,x<=b:=by
 intro x hx;exact Int.le_trans ((List.max?_le_iff h).mp (Int.le_refl v) x hx) hv
theorem Zgd(k:Nat)(hk:k=0\/k=1)(h:M[m]?=some (.lst (prs ss)))(hl:ss.length<=1000)(q:Q (.ref M.length) (M++[.lst (nts ((List.range ss.length).map fun(i:Nat)=>(if k=0 then(cy ss i).1.natAbs else(cy ss i).2.natAbs:Int)))])):kCo (gTp (gCs (gNm 0) (gCs (gNm 1) gNl))) (fun _ M=>.ok true M) (Zj bAbs (Zc (Zg k) aNil)) 2 [] ρ Q (.sto m) M:=by
 refine ZpY (fun ρ=>∃x y,ρ=[x,y]) (fun(i:Nat)=>.int (if k=0 then(cy ss i).1.natAbs else(cy ss i).2.natAbs:Int)) h (by rw[ZP];lia) ⟨_,_,rfl⟩ ?_ (by rw[Zm6,ZP];exact q)
 rintro i hi ρ L ⟨x,y,rfl⟩;rw[ZcJ];rcases hk with rfl|rfl
 ·simp![ZrW,Zn];exact⟨⟨_,_,rfl⟩,rfl⟩
 ·simp![ZrW,Zn];exact⟨⟨_,_,rfl⟩,rfl⟩
theorem Znc(h:M[n]?=some (.lst (prs rs)))(hs:Smo rs)(hb:Nr 200 rs)(hl:rs.length<=1000)(q:∀ss m M',(∀i j:Int,X (cy ss i) (cy ss j)=X (cy rs i) (cy rs j))->Smo ss->Nr 200 ss->ss.length=rs.length->M'[m]?=some (.lst (prs ss))->M.length<=M'.length->(∀k,k<M.length->M'[k]?=M[k]?)->Q (.ref m) M'):wO (F_law_turn [.ref n,.int c] M) Q E:=by
 simp![Zss,ZpX,Zva,Zsx,ZtM,Zfh,Zga,ZiL,ZuG,Zpo,Option.isSome_some,ZqP,Zlh,F_law_turn,ZbR];refine Zb3 (fun i ρ M'=>∃ss m c x1 x2 x3 x4 x5 x6,ρ=[some (.ref m),some (.int c),x1,x2,x3,x4,x5,x6]/\(∀i j:Int,X (cy ss i) (cy ss j)=X (cy rs i) (cy rs j))/\Smo ss/\Nr 200 ss/\ss.length=rs.length/\M'[m]?=some (.lst (prs ss))/\M.length<=M'.length/\(∀k,k<M.length->M'[k]?=M[k]?)) ⟨rs,n,c,_,_,_,_,_,_,rfl,fun _ _=>rfl,hs,hb,rfl,h,Nat.le_refl _,fun _ _=>rfl⟩ ?_ ?_
 ·rintro i ρ M1 hi ⟨ss,m,c,x1,x2,x3,x4,x5,x6,rfl,s0,s1,s2,s3,s4,s5,s6⟩;have hm:=Zv s4;simp![Zss,ZpX,Zva,Zsx,ZtM,Zfh,Zga,ZiL,ZuG,Zpo,Option.isSome_some,ZqP,Zlh,ZaO];refine Ztr (fun ρ M'=>M'=M1/\∃u:Int,(-9<=u/\u<=9)/\ρ=[some (D.ref m),some (D.int c),some (D.int (0 + ↑i)),some (D.int u),x3,x4,x5,x6]) ?_ ?_
  ·refine brS (fun _=>?_) (fun _=>?_)
   ·simp![Zss,ZpX,Zva,Zsx,ZtM,Zfh,Zga,ZiL,ZuG,Zpo,Option.isSome_some,ZqP,Zlh,Zn];exact⟨_,⟨by lia,by lia⟩,rfl⟩
   ·simp![Zss,ZpX,Zva,Zsx,ZtM,Zfh,Zga,ZiL,ZuG,Zpo,Option.isSome_some,ZqP,Zlh,Zn];exact⟨_,⟨by lia,by lia⟩,rfl⟩
  rintro _ M1 ⟨rfl,u,hu,rfl⟩;simp![Zss,ZpX,Zva,Zsx,ZtM,Zfh,Zga,ZiL,ZuG,Zpo,Option.isSome_some,ZqP,Zlh,Zn];generalize c%4=w;have hm1:(M1++[SO.lst []])[m]?=some (.lst (prs ss)):=by rw[List.getElem?_append_left hm];exact s4
  refine ZbO (fun i ρ M'=>M'=M1++[.lst (prs ((ss.map (tf w u)).take i))]/\∃y x x',ρ=[some (D.ref m),some (D.int (c/3040)),y,some (D.int u),some (D.int w),some (D.ref M1.length),x,x']) hm1 ⟨by simp[prs],_,_,_,rfl⟩ (fun i ρ M' hI=>by rw[hI.1,List.getElem?_append_left hm];exact s4) ?_ ?_
  ·rintro i ρ M' hi ⟨rfl,y,x,x',rfl⟩;rw[ZcJ];rw[ZP]at hi;have b1:=Nr.cy s2 s1.ne i;have tk:prs ((ss.map (tf w u)).take i)++[pr (tf w u (cy ss i)).1 (tf w u (cy ss i)).2]=prs ((ss.map (tf w u)).take (i+1)):=by
    rw[List.take_succ,List.getElem?_map,List.getElem?_eq_getElem hi,<-Zfh,Zf9 hi];rfl
   have tl:((ss.map (tf w u)).take i).length<10000000:=by simp;lia
   have fin:∀a b:Int,tf w u (cy ss i)=(a,b)->M1++[.lst (prs ((ss.map (tf w u)).take i++[(a,b)]))]=M1++[.lst (prs ((ss.map (tf w u)).take (i+1)))]:=by
    intro a b e;rw[e]at tk;rw[<-Zga,tk]
   simp![Zss,ZpX,Zva,Zsx,ZtM,Zfh,Zga,ZiL,ZuG,Zpo,Option.isSome_some,ZqP,Zlh,ZaN];refine brS (fun h1=>?_) (fun h1=>?_)
   ·simp![Zss,ZpX,Zva,Zsx,ZtM,Zfh,Zga,ZiL,ZuG,Zpo,Option.isSome_some,ZqP,Zlh,tl];exact⟨fin _ _ (by rw[tf,if_pos h1]),_,_,_,rfl⟩
   simp![Zss,ZpX,Zva,Zsx,ZtM,Zfh,Zga,ZiL,ZuG,Zpo,Option.isSome_some,ZqP,Zlh,Zn];refine brS (fun h2=>?_) (fun h2=>?_)
   ·simp![Zss,ZpX,Zva,Zsx,ZtM,Zfh,Zga,ZiL,ZuG,Zpo,Option.isSome_some,ZqP,Zlh,tl];exact⟨fin _ _ (by rw[tf,if_neg h1,if_pos h2]),_,_,_,rfl⟩
   simp![Zss,ZpX,Zva,Zsx,ZtM,Zfh,Zga,ZiL,ZuG,Zpo,Option.isSome_some,ZqP,Zlh,Zn];refine brS (fun h3=>?_) (fun h3=>?_)
   ·simp![Zss,ZpX,Zva,Zsx,ZtM,Zfh,Zga,ZiL,ZuG,Zpo,Option.isSome_some,ZqP,Zlh,tl];exact⟨fin _ _ (by rw[tf,if_neg h1,if_neg h2,if_pos h3]),_,_,_,rfl⟩
   ·simp![Zss,ZpX,Zva,Zsx,ZtM,Zfh,Zga,ZiL,ZuG,Zpo,Option.isSome_some,ZqP,Zlh,tl];exact⟨fin _ _ (by rw[tf,if_neg h1,if_neg h2,if_neg h3]),_,_,_,rfl⟩
  ·rintro ρ M' ⟨rfl,y,x,x',rfl⟩;rw[List.take_of_length_le (by simp[ZP])]
   have e1:Smo (ss.map (tf w u)):=s1.map Zt0;have e0:∀i j:Int,X (cy (ss.map (tf w u)) i) (cy (ss.map (tf w u)) j)=X (cy rs i) (cy rs j):=fun i j=>by rw[Zgc s1.ne,Zgc s1.ne,Zt0,s0]
   have e2:(ss.map (tf w u)).length=rs.length:=by simp;exact s3
   generalize ss.map (tf w u)=ts at *;have t4:(M1++[SO.lst (prs ts)])[M1.length]?=some (.lst (prs ts)):=by simp
   have l2:(M1++[SO.lst (prs ts)]).length=M1.length+1:=by simp
   have k2:∀k,k<M1.length->(M1++[SO.lst (prs ts)])[k]?=M1[k]?:=fun k hk=>List.getElem?_append_left hk;generalize M1++[SO.lst (prs ts)]=M2 at *;simp![Zss,ZpX,Zva,Zsx,ZtM,Zfh,Zga,ZiL,ZuG,Zpo,Option.isSome_some,ZqP,Zlh,Zn];refine Zgd 0 (.inl rfl) t4 (by lia) ?_
   generalize hA:((List.range ts.length).map fun(i:Nat)=>(if 0=0 then(cy ts i).1.natAbs else(cy ts i).2.natAbs:Int))=A
   have lA:A.length=ts.length:=by subst hA;simp
   simp![Zss,ZpX,Zva,Zsx,ZtM,Zfh,Zga,ZiL,ZuG,Zpo,Option.isSome_some,ZqP,Zlh,Zn];refine Zgd 1 (.inr rfl) (by rw[List.getElem?_append_left (by lia)];exact t4) (by lia) ?_
   generalize hB:((List.range ts.length).map fun(i:Nat)=>(if 1=0 then(cy ts i).1.natAbs else(cy ts i).2.natAbs:Int))=B
   have lB:B.length=ts.length:=by subst hB;simp
   simp![Zss,ZpX,Zva,Zsx,ZtM,Zfh,Zga,ZiL,ZuG,Zpo,Option.isSome_some,ZqP,Zlh,Zn];refine⟨by lia,?_⟩
   obtain⟨v,hv⟩:∃v,(A++B).max?=some v:=by
    cases e:(A++B).max? with
    |some v=>exact⟨v,rfl⟩
    |none=>
     rw[List.max?_eq_none_iff]at e;have h0:(A++B).length=0:=by rw[e];rfl
     have:=e1.len
     rw[List.length_append]at h0;lia
   simp![Zss,ZpX,Zva,Zsx,ZtM,Zfh,Zga,ZiL,ZuG,Zpo,Option.isSome_some,ZqP,Zlh,ZiL,ZbI,hv];have hx:=fun b (hb:v<=b)=>Zp7 hv hb;refine brS (fun h=>?_) (fun h=>?_)
   ·simp![Zss,ZpX,Zva,Zsx,ZtM,Zfh,Zga,ZiL,ZuG,Zpo,Option.isSome_some,ZqP,Zlh,Zn];have nr:Nr 200 ts:=by
     intro p hp;obtain⟨k,hk,rfl⟩:=List.getElem_of_mem hp;have a1:=hx 200 h (cy ts k).1.natAbs (by
      rw[List.mem_append];left;subst hA;exact List.mem_map.mpr ⟨k,List.mem_range.mpr hk,rfl⟩)
     have a2:=hx 200 h (cy ts k).2.natAbs (by
      rw[List.mem_append];right;subst hB;exact List.mem_map.mpr ⟨k,List.mem_range.mpr hk,rfl⟩)
     rw[Zf9 hk]at a1 a2;lia
    exact⟨ts,_,_,_,_,_,_,_,_,rfl,e0,e1,nr,e2,by rw[List.getElem?_append_left (by lia)];exact t4,by lia,fun k hk=>by rw[List.getElem?_append_left (by lia),k2 k (by lia)];exact s6 k hk⟩
   ·simp![Zss,ZpX,Zva,Zsx,ZtM,Zfh,Zga,ZiL,ZuG,Zpo,Option.isSome_some,ZqP,Zlh,Zn];exact⟨ss,_,_,_,_,_,_,_,_,rfl,s0,s1,s2,s3,by rw[List.getElem?_append_left (by lia),k2 _ hm];exact s4,by lia,fun k hk=>by rw[List.getElem?_append_left (by lia),k2 k (by lia)];exact s6 k hk⟩
 ·rintro ρ M1 ⟨ss,m,c,x1,x2,x3,x4,x5,x6,rfl,s0,s1,s2,s3,s4,s5,s6⟩;simp![Zss,ZpX,Zva,Zsx,ZtM,Zfh,Zga,ZiL,ZuG,Zpo,Option.isSome_some,ZqP,Zlh,Zn];exact q ss m M1 s0 s1 s2 s3 s4 s5 s6
theorem Zp8(h:M[n]?=some (.lst (prs rs)))(hs:Smo rs)(hb:Nr 200 rs)(hl:rs.length<=1000)(q:∀ss m M',Smo ss->Nr 200 ss->ss.length=rs.length->M'[m]?=some (.lst (prs ss))->M.length<=M'.length->(∀k,k<M.length->M'[k]?=M[k]?)->Q (.ref m) M'):wO (F_law_turn [.ref n,.int c] M) Q E:=
 Znc h hs hb hl fun ss m M' _ a b c d e f=>q ss m M' a b c d e f
theorem ZcK(h1:X a w=p)(h2:X w b=q):in1 w a b=if 0<=p/\0<q then 1 else 0:=by unfold in1;rw[h1,h2]
theorem ZcL(h1:X a w=p)(h2:X w b=q):in2 w a b=if 0<p/\0<=q then 1 else 0:=by unfold in2;rw[h1,h2]
theorem Zve:Fan [(1,0),(0,1),(-1,-1)]:=by
 rintro⟨x,y⟩ hw;have hw':¬(x=0/\y=0):=fun z=>hw (by rw[z.1,z.2])
 have a1:X (1,0) (x,y)=y:=by simp[X]
 have a2:X (0,1) (x,y)= -x:=by simp[X]
 have a3:X (-1,-1) (x,y)=x-y:=by simp[X];lia
 have b1:X (x,y) (0,1)=x:=by simp[X]
 have b2:X (x,y) (-1,-1)=y-x:=by simp[X];lia
 have b3:X (x,y) (1,0)= -y:=by simp[X]
 simp only[cyc,List.take_succ_cons,List.take_zero,List.cons_append,List.nil_append,cc];rw[ZcK a1 b1,ZcK a2 b2,ZcK a3 b3,ZcL a1 b1,ZcL a2 b2,ZcL a3 b3];clear a1 a2 a3 b1 b2 b3 hw;constructor
 all_goals
  repeat' split
  all_goals lia
theorem Zvf(f:Int):Fan [(1,0),(0,1),(-1,f),(0,-1)]:=by
 rintro⟨x,y⟩ hw;have hw':¬(x=0/\y=0):=fun z=>hw (by rw[z.1,z.2])
 have h0:x=0->x*f=0:=fun z=>by rw[z,Int.zero_mul]
 have a1:X (1,0) (x,y)=y:=by simp[X]
 have a2:X (0,1) (x,y)= -x:=by simp[X]
 have a3:X (-1,f) (x,y)= -y-x*f:=by unfold X;simp only;grind
 have a4:X (0,-1) (x,y)=x:=by simp[X]
 have b1:X (x,y) (0,1)=x:=by simp[X]
 have b2:X (x,y) (-1,f)=x*f+y:=by unfold X;simp only;grind
 have b3:X (x,y) (0,-1)= -x:=by simp[X]
 have b4:X (x,y) (1,0)= -y:=by simp[X]
 simp only[cyc,List.take_succ_cons,List.take_zero,List.cons_append,List.nil_append,cc];rw[ZcK a1 b1,ZcK a2 b2,ZcK a3 b3,ZcK a4 b4,ZcL a1 b1,ZcL a2 b2,ZcL a3 b3,ZcL a4 b4];clear a1 a2 a3 a4 b1 b2 b3 b4 hw;generalize x*f=z at *;constructor
 all_goals
  repeat' split
  all_goals lia
theorem Zvg:Smo [(1,0),(0,1),(-1,-1)]:=by
 refine⟨by decide,ZdD (P:=fun a b=>X a b=1) (by decide) ?_,Zve⟩
 intro i h0 h1
 have:i=0\/i=1\/i=2:=by simp at h1;lia
 rcases this with rfl|rfl|rfl<;>rfl
theorem Zvh(f:Int):Smo [(1,0),(0,1),(-1,f),(0,-1)]:=by
 refine⟨by simp,ZdD (P:=fun a b=>X a b=1) (by simp) ?_,Zvf f⟩
 intro i h0 h1
 have:i=0\/i=1\/i=2\/i=3:=by simp at h1;lia
 rcases this with rfl|rfl|rfl|rfl<;>simp[X,cy]
theorem ZkB{t:Int}(hc:0<=c)(ht:3<=t/\t<=1000)(q:∀ss m M',Smo ss->Nr 200 ss->ss.length<=t->M'[m]?=some (.lst (prs ss))->M.length<=M'.length->(∀k,k<M.length->M'[k]?=M[k]?)->Q (.ref m) M'):wO (F_law_smooth [.int c,.int t] M) Q E:=by
 simp![Zsc,ZpF,ZuX,ZpJ,Zss,Zvb,Zsy,Zsz,ZsA,ZtM,ZtQ,ZtR,ZtS,ZtT,ZtU,ZdB,ZdC,Zfh,Zga,ZrQ,ZuG,ZuH,ZrW,Zpp,Zkx,ZqP,F_law_smooth,Za6];have r0:=Int.emod_nonneg c (show t-2≠0 by lia)
 have r1:=Int.emod_lt_of_pos c (show 0<t-2 by lia)
 have d0:0<=c/(t-2):=Int.ediv_nonneg hc (by lia)
 generalize c%(t-2)=r at *;generalize c/(t-2)=c1 at *;refine Ztn (fun k M'=>M'=(M++[SO.lst [D.tup [D.int 1,D.int 0],D.tup [D.int 0,D.int 1],D.tup [D.int (-1),D.int (-1)]]])/\(k=true->3<3+r)) ?_ ?_
 ·refine brO (fun h=>?_) (fun h=>?_)
  ·simp![Zsc,ZpF,ZuX,ZpJ,Zss,Zvb,Zsy,Zsz,ZsA,ZtM,ZtQ,ZtR,ZtS,ZtT,ZtU,ZdB,ZdC,Zfh,Zga,ZrQ,ZuG,ZuH,ZrW,Zpp,Zkx,ZqP,Zn];exact fun _=>h
  ·simp![Zsc,ZpF,ZuX,ZpJ,Zss,Zvb,Zsy,Zsz,ZsA,ZtM,ZtQ,ZtR,ZtS,ZtT,ZtU,ZdB,ZdC,Zfh,Zga,ZrQ,ZuG,ZuH,ZrW,Zpp,Zkx,ZqP,Zn];exact fun z=>by cases z
 rintro k _ ⟨rfl,hk⟩;simp![Zsc,ZpF,ZuX,ZpJ,Zss,Zvb,Zsy,Zsz,ZsA,ZtM,ZtQ,ZtR,ZtS,ZtT,ZtU,ZdB,ZdC,Zfh,Zga,ZrQ,ZuG,ZuH,ZrW,Zpp,Zkx,ZqP,Zn];refine Ztr (fun ρ M'=>∃ss m x4,ρ=[some (D.int c1),some (D.int t),some (D.int (3+r)),some (D.ref m),x4,none,none,none,none,none]/\Smo ss/\Nr 200 ss/\(ss.length:Int)<=3+r/\M'[m]?=some (.lst (prs ss))/\M.length<=M'.length/\(∀k,k<M.length->M'[k]?=M[k]?)) ?_ ?_
 ·refine Ztq (fun h=>?_) (fun h=>?_)
  ·have h3:=hk h;simp![Zsc,ZpF,ZuX,ZpJ,Zss,Zvb,Zsy,Zsz,ZsA,ZtM,ZtQ,ZtR,ZtS,ZtT,ZtU,ZdB,ZdC,Zfh,Zga,ZrQ,ZuG,ZuH,ZrW,Zpp,Zkx,ZqP,Zn];obtain⟨z,hz,z0⟩:∃z:Int,c1/512%4=z/\(z=0\/z=1\/z=2\/z=3):=⟨_,rfl,by lia⟩
   rw[hz];obtain⟨f,hf,f0⟩:∃f:Int,atI [D.int 3,D.int 4,D.int 6,D.int 40] z=some (.int f)/\(0<f/\f<=40):=by
    rcases z0 with rfl|rfl|rfl|rfl
    ·exact⟨3,rfl,by decide,by decide⟩
    ·exact⟨4,rfl,by decide,by decide⟩
    ·exact⟨6,rfl,by decide,by decide⟩
    ·exact⟨40,rfl,by decide,by decide⟩
   simp![Zsc,ZpF,ZuX,ZpJ,Zss,Zvb,Zsy,Zsz,ZsA,ZtM,ZtQ,ZtR,ZtS,ZtT,ZtU,ZdB,ZdC,Zfh,Zga,ZrQ,ZuG,ZuH,ZrW,Zpp,Zkx,ZqP,hf];have g0:=Int.emod_nonneg (c1/4) (show f≠0 by lia)
   have g1:=Int.emod_lt_of_pos (c1/4) (show 0<f by lia)
   generalize c1/4%f=far at *;refine⟨[(1,0),(0,1),(-1,far),(0,-1)],_,_,rfl,Zvh far,?_,by simp;lia,?_,by lia,?_⟩
   ·intro p hp;simp at hp;rcases hp with rfl|rfl|rfl|rfl<;>simp<;>lia
   ·rw[ZqP];rfl
   ·intro k hk;rw[ZdA hk]
  ·simp![Zsc,ZpF,ZuX,ZpJ,Zss,Zvb,Zsy,Zsz,ZsA,ZtM,ZtQ,ZtR,ZtS,ZtT,ZtU,ZdB,ZdC,Zfh,Zga,ZrQ,ZuG,ZuH,ZrW,Zpp,Zkx,ZqP,Zn];refine⟨[(1,0),(0,1),(-1,-1)],_,_,rfl,Zvg,?_,by simp;lia,?_,by lia,?_⟩
   ·intro p hp;simp at hp;rcases hp with rfl|rfl|rfl<;>simp
   ·rw[Zky];rfl
   ·intro k hk;rw[ZdA hk]
 rintro _ M1 ⟨ss,m,x4,rfl,s1,s2,s3,s4,s5,s6⟩;have hl3:=s1.len;simp![Zsc,ZpF,ZuX,ZpJ,Zss,Zvb,Zsy,Zsz,ZsA,ZtM,ZtQ,ZtR,ZtS,ZtT,ZtU,ZdB,ZdC,Zfh,Zga,ZrQ,ZuG,ZuH,ZrW,Zpp,Zkx,ZqP,s4];refine⟨by lia,?_⟩
 refine Zb3 (fun i ρ M'=>∃tt m c x4 x5 x6 x7 x8 x9,ρ=[some (D.int c),some (D.int t),some (D.int (3+r)),some (D.ref m),x4,x5,x6,x7,x8,x9]/\0<=c/\Smo tt/\Nr 200 tt/\tt.length<=ss.length+i/\M'[m]?=some (.lst (prs tt))/\M.length<=M'.length/\(∀k,k<M.length->M'[k]?=M[k]?)) ?_ ?_ ?_
 ·exact⟨ss,m,_,_,_,_,_,_,_,rfl,by lia,s1,s2,by lia,s4,s5,s6⟩
 ·rintro i ρ M2 hi ⟨tt,m,c,x4,x5,x6,x7,x8,x9,rfl,c0,t1,t2,t3,t4,t5,t6⟩;have tl:=t1.len;have hm:=Zv t4;simp![Zsc,ZpF,ZuX,ZpJ,Zss,Zvb,Zsy,Zsz,ZsA,ZtM,ZtQ,ZtR,ZtS,ZtT,ZtU,ZdB,ZdC,Zfh,Zga,ZrQ,ZuG,ZuH,ZrW,Zpp,Zkx,ZqP,Zat,t4];obtain⟨a,ha,a0⟩:∃a:Nat,c%(tt.length:Int)=a/\a<tt.length:=by
   have:=ZaE (i:=c) (m:=tt.length) (by lia)
   exact⟨(c%(tt.length:Int)).toNat,by lia,this.1⟩
  rw[ha];have e1:=ZaE (i:=(a:Int)+1) (m:=tt.length) (by lia)
  simp![Zsc,ZpF,ZuX,ZpJ,Zss,Zvb,Zsy,Zsz,ZsA,ZtM,ZtQ,ZtR,ZtS,ZtT,ZtU,ZdB,ZdC,Zfh,Zga,ZrQ,ZuG,ZuH,ZrW,Zpp,Zkx,ZqP,t4,ZbG,Zdc];have b1:=Nr.cy t2 t1.ne a;have b2:=Nr.cy t2 t1.ne (a+1);have sm:=t1.ins a0;have nr:=fun h=>Nr.ins (k:=a) (p:=((cy tt a).1+(cy tt (a+1)).1,(cy tt a).2+(cy tt (a+1)).2)) t2 h;generalize hx:(cy tt a).1+(cy tt (a+1)).1=x at *;generalize hy:(cy tt a).2+(cy tt (a+1)).2=y at *;refine Ztn (fun k M'=>M'=M2/\(k=true->(-200<=x/\x<=200)/\ -200<=y/\y<=200)) ?_ ?_
  ·refine brO (fun h=>?_) (fun h=>?_)
   ·simp![Zsc,ZpF,ZuX,ZpJ,Zss,Zvb,Zsy,Zsz,ZsA,ZtM,ZtQ,ZtR,ZtS,ZtT,ZtU,ZdB,ZdC,Zfh,Zga,ZrQ,ZuG,ZuH,ZrW,Zpp,Zkx,ZqP,Zn];intro h2
    have:=of_decide_eq_true h2
    lia
   ·simp![Zsc,ZpF,ZuX,ZpJ,Zss,Zvb,Zsy,Zsz,ZsA,ZtM,ZtQ,ZtR,ZtS,ZtT,ZtU,ZdB,ZdC,Zfh,Zga,ZrQ,ZuG,ZuH,ZrW,Zpp,Zkx,ZqP,Zn];exact fun z=>by cases z
  rintro k M2 ⟨rfl,hk⟩;simp![Zsc,ZpF,ZuX,ZpJ,Zss,Zvb,Zsy,Zsz,ZsA,ZtM,ZtQ,ZtR,ZtS,ZtT,ZtU,ZdB,ZdC,Zfh,Zga,ZrQ,ZuG,ZuH,ZrW,Zpp,Zkx,ZqP,Zn];refine Ztq (fun h=>?_) (fun h=>?_)
  ·have le:((a:Int)+1).toNat=a+1:=by lia
   simp![Zsc,ZpF,ZuX,ZpJ,Zss,Zvb,Zsy,Zsz,ZsA,ZtM,ZtQ,ZtR,ZtS,ZtT,ZtU,ZdB,ZdC,Zfh,Zga,ZrQ,ZuG,ZuH,ZrW,Zpp,Zkx,ZqP,t4,le,ZdB,ZdC];refine⟨by rw[List.length_take];lia,by rw[List.length_take,List.length_drop];lia,ins tt a (x,y),_,_,_,_,_,_,_,_,rfl,by lia,sm,nr (hk h),by rw[Zfj a0];lia,?_,by lia,?_⟩
   ·rw[ZqP];rfl
   ·intro k hk;rw[ZdA (by lia)]
    exact t6 k hk
  ·simp![Zsc,ZpF,ZuX,ZpJ,Zss,Zvb,Zsy,Zsz,ZsA,ZtM,ZtQ,ZtR,ZtS,ZtT,ZtU,ZdB,ZdC,Zfh,Zga,ZrQ,ZuG,ZuH,ZrW,Zpp,Zkx,ZqP,Zn];exact⟨tt,_,_,_,_,_,_,_,_,rfl,by lia,t1,t2,by lia,t4,t5,t6⟩
 ·rintro ρ M2 ⟨tt,m,c,x4,x5,x6,x7,x8,x9,rfl,c0,t1,t2,t3,t4,t5,t6⟩;simp![Zsc,ZpF,ZuX,ZpJ,Zss,Zvb,Zsy,Zsz,ZsA,ZtM,ZtQ,ZtR,ZtS,ZtT,ZtU,ZdB,ZdC,Zfh,Zga,ZrQ,ZuG,ZuH,ZrW,Zpp,Zkx,ZqP,Zn];refine Zp8 t4 t1 t2 (by lia) ?_
  intro uu m' M3 u1 u2 u3 u4 u5 u6;have ul:=u1.len;have hm':=Zv u4;simp![Zsc,ZpF,ZuX,ZpJ,Zss,Zvb,Zsy,Zsz,ZsA,ZtM,ZtQ,ZtR,ZtS,ZtT,ZtU,ZdB,ZdC,Zfh,Zga,ZrQ,ZuG,ZuH,ZrW,Zpp,Zkx,ZqP,u4];obtain⟨a,ha,a0⟩:∃a:Nat,c/1000000000000%(uu.length:Int)=a/\a<uu.length:=by
   have:=ZaE (i:=c/1000000000000) (m:=uu.length) (by lia)
   exact⟨(c/1000000000000%(uu.length:Int)).toNat,by lia,this.1⟩
  rw[ha];have le:(a:Int).toNat=a:=by lia
  simp![Zsc,ZpF,ZuX,ZpJ,Zss,Zvb,Zsy,Zsz,ZsA,ZtM,ZtQ,ZtR,ZtS,ZtT,ZtU,ZdB,ZdC,Zfh,Zga,ZrQ,ZuG,ZuH,ZrW,Zpp,Zkx,ZqP,u4,le,ZdB,ZdC,Zfh];refine⟨by rw[List.length_take,List.length_drop];lia,?_⟩
  refine q (uu.drop a++uu.take a) _ _ (u1.rot (by lia)) (Nr.rot u2) (by rw[List.length_append,List.length_take,List.length_drop];lia) (by rw[ZqP];rfl) (by rw[List.length_append];lia) (fun k hk=>?_)
  rw[ZdA (by lia),u6 k (by lia),t6 k hk]
end
end CC
namespace DL
def T(rs:List Pt)(i:Int):Int:=0-X (cy rs (i-1)) (cy rs (i+1))
def ZsJ(rs:List Pt):List Int:=(List.range rs.length).map fun(i:Nat)=>T rs i
end DL
namespace CC
open L2 DL
end CC
namespace DL
noncomputable def del(rs:List Pt)(k:Nat):List Pt:=rs.take k++rs.drop (k+1)
noncomputable def nm(p:Pt):Int:=p.1*p.1+p.2*p.2
theorem ZdF(h1:0<=X a w)(h2:0<X w b):in1 w a b=1:=by unfold in1;rw[if_pos ⟨h1,h2⟩]
theorem XX(p:Pt):X p p=0:=by unfold X;grind
end DL
namespace CE
open L2 DL
end CE
namespace CE
open L2 DL
end CE
namespace CF
open L2 DL CC
def Zau:Sv:=(ZE (sIf (Zcc (tv (Zjq "list" (Zg 0)))) (Z6 (eC (.bl false))) sNil) (Z6 (Zj bAll (Zc (Zal (iSq (Zg 0)) 1 [] (gNm 0) (fun _ M=>.ok true M) (Zd8 (Zjq "int" (Zg 0)) (ZgC (Zjq "bool" (Zg 0))))) aNil))))
def F_law_are_whole:W3:=fnF Zau 1 0
end CF
namespace CF
open L2 DL
theorem Zfl:Zad ((List.range k).map fun _=>D.bl true)=some (List.replicate k true):=by
 have:∀k,Zad (List.replicate k (D.bl true))=some (List.replicate k true):=by
  intro k
  induction k with
  |zero=>rfl
  |succ k ih=>
   show(match Zad (List.replicate k (D.bl true))with|some bs=>some (true::bs)|none=>none)=_
   rw[ih];rfl
 have e:(List.range k).map (fun _=>D.bl true)=List.replicate k (D.bl true):=by
  apply List.ext_getElem
  ·simp
  ·intro i h1 h2;simp
 rw[e,this k]
theorem ZkC:(List.replicate k true).all id=true:=by simp
theorem Zfm(h:M[n]?=some (.lst (nts ns)))(hl:ns.length<=1000)(q:∀M',M.length<=M'.length->(∀k,k<M.length->M'[k]?=M[k]?)->Q (.bl true) M'):wO (F_law_are_whole [.ref n] M) Q E:=by
 simp![Zse,ZpG,Zsf,Zsg,ZpH,ZpI,ZpK,ZpU,ZtO,kAl,Zpt,Zpw,Zpx,Zpz,F_law_are_whole,Zau,Zpv h];refine ZpY (fun ρ=>∃x,ρ=[x]) (fun _=>.bl true) h (by rw[ZbP];lia) ⟨_,rfl⟩ ?_ ?_
 ·rintro i hi ρ L ⟨x,rfl⟩
  have:(nts ns)[i]=.int (ns[i]'(by rw[ZbP]at hi;exact hi)):=by simp[nts]
  rw[this];simp![Zse,ZpG,Zsf,Zsg,ZpH,ZpI,ZpK,ZpU,ZtO,kAl,Zpt,Zpw,Zpx,Zpz,Zn];exact⟨_,rfl⟩
 ·show wO (bAll [D.ref M.length] (M++[SO.lst (List.map (fun x=>D.bl true) (List.range (nts ns).length))])) Q E;rw[ZpU,Zky];show wG (Zad _) _;rw[Zfl];show Q (.bl ((List.replicate _ true).all id)) _;rw[ZkC];exact q _ (by rw[List.length_append];lia) (fun k hk=>by rw[ZdA hk])
end CF
namespace DL
open L2 DL
end DL
namespace CB
open L2 DL
end CB
namespace DL
noncomputable def hj(t b:Int):List Int:=if h:0<b then -((-t)/b)::hj b (-((-t)/b)*b-t)else[]
termination_by b.toNat
decreasing_by
 have h1:=Int.emod_nonneg (-t) (show b≠0 by lia)
 have h2:=Int.emod_lt_of_pos (-t) h;have h3:=Int.emod_add_mul_ediv (-t) b;rw[Int.neg_mul,Int.mul_comm];lia
end DL
namespace CB
open L2 DL
section
variable {a:Int}{u v w:Pt}
structure Fb(u v w:Pt):Prop where
 one:X u w=1
 lo:0<=X w v
 hi:X w v<X u v
theorem Fb.uniq{w:Pt}(h:Fb u v w)(k:Fb u v w'):w=w':=by
 obtain⟨h1,a1,a2⟩:=h;obtain⟨h2,b1,b2⟩:=k;have e1:w'.1=X w' w*u.1+w.1/\w'.2=X w' w*u.2+w.2:=by unfold X at *;constructor<;>grind
 have e2:X w' v=X w' w*X u v+X w v:=by
  have:X w' v=X (X w' w*u.1+w.1,X w' w*u.2+w.2) v:=by rw[<-e1.1,<-e1.2]
  rw[this];unfold X;simp only;grind
 generalize X w' w=k at *;have k0:k=0:=by
  apply Classical.byContradiction;intro c;by_cases p:1<=k
  ·have:1*X u v<=k*X u v:=Int.mul_le_mul_of_nonneg_right p (by lia)
   lia
  ·have:k*X u v<=(-1)*X u v:=Int.mul_le_mul_of_nonneg_right (by lia) (by lia)
   lia
 rw[k0]at e1;apply Prod.ext<;>lia
noncomputable def btw:Pt->Pt->List Int->List Pt
 |_,_,[]=>[]
 |a,r,k::ks=>r::btw r (k*r.1-a.1,k*r.2-a.2) ks
end
end CB
namespace CB
open L2 DL
section
variable {a b d:Int}
def Ch:List Pt->Prop
 |a::b::r=>X a b=1/\Ch (b::r)
 |_=>True
noncomputable def Tr(a b d:Pt):Prop:=∃k:Int,2<=k/\a.1+d.1=k*b.1/\a.2+d.2=k*b.2
def Cv:List Pt->Prop
 |a::b::d::r=>Tr a b d/\Cv (b::d::r)
 |_=>True
noncomputable def dt(f p:Pt):Int:=f.1*p.1+f.2*p.2
end
end CB
namespace CA
open L2 DL
end CA
namespace CA
open L2 DL
end CA
namespace CY
open L2 DL CA
end CY
namespace CY
open L2 DL
end CY
namespace CR
open L2 DL
def ZbS:Sv:=(Z6 (Zd8 (Zjq "int" (Zg 0)) (ZgC (Zjq "bool" (Zg 0)))))
def F_is_whole:W3:=fnF ZbS 1 0
def Zae:Sv:=(ZgD 2 3 (Zc (Zg 3) (Zc (e2 dMod (Zg 2) (Zg 3)) aNil)))
def Zaz:Sv:=(ZE (ZgD 2 3 (Zc (Zj bAbs (Zc (Zg 0) aNil)) (Zc (Zj bAbs (Zc (Zg 1) aNil)) aNil))) (ZE (sWh (tv (e2 dNe (Zg 3) (eC (.int 0)))) Zae) (Z6 (Zg 2))))
def F_greatest_divisor:W3:=fnF Zaz 2 2
def Zfn:Sv:=(ZE (sIf (ZgT (Zcc (tv (Zj F_is_whole (Zc (Zg 0) aNil)))) (Zcc (tv (Zj F_is_whole (Zc (Zg 1) aNil))))) (Zek (PySem.Str.ofString "NoRatio") (Zc (eC (.str (PySem.Str.ofString "a ratio is made of two whole numbers"))) aNil)) sNil) (ZE (sIf (tv (e2 dEq (Zg 1) (eC (.int 0)))) (Zek (PySem.Str.ofString "NoRatio") (Zc (eC (.str (PySem.Str.ofString "the bottom of a ratio is not 0"))) aNil)) sNil) (ZE (ZJ (gNm 2) (Zj F_greatest_divisor (Zc (Zg 0) (Zc (Zg 1) aNil)))) (ZE (sIf (tv (e2 dLt (Zg 1) (eC (.int 0)))) (ZJ (gNm 2) (Ze2 (Zg 2))) sNil) (Z6 (Zak (Zc (e2 dDiv (Zg 0) (Zg 2)) (Zc (e2 dDiv (Zg 1) (Zg 2)) aNil))))))))
def F_ratio:W3:=fnF Zfn 2 1
def ZiW:Sv:=(Z6 (Zj F_ratio (Zc (e2 dAdd (e2 dMul (e2 dIx (Zg 0) (eC (.int 0))) (e2 dIx (Zg 1) (eC (.int 1)))) (e2 dMul (e2 dIx (Zg 1) (eC (.int 0))) (e2 dIx (Zg 0) (eC (.int 1))))) (Zc (e2 dMul (e2 dIx (Zg 0) (eC (.int 1))) (e2 dIx (Zg 1) (eC (.int 1)))) aNil))))
def F_plus:W3:=fnF ZiW 2 0
def Zfo:Sv:=(Z6 (Zj F_ratio (Zc (e2 dMul (e2 dIx (Zg 0) (eC (.int 0))) (e2 dIx (Zg 1) (eC (.int 0)))) (Zc (e2 dMul (e2 dIx (Zg 0) (eC (.int 1))) (e2 dIx (Zg 1) (eC (.int 1)))) aNil))))
def F_times:W3:=fnF Zfo 2 0
end CR
namespace CR
open L2 DL
abbrev rt(q:Rat):D:=pr q.num (q.den:Int)
noncomputable def Sz(k:Nat)(q:Rat):Prop:=q.num.natAbs<2^k/\q.den<2^k
theorem Zp9:F_greatest_divisor=FGcd:=rfl
theorem Zdd(h:0<j)(hk:j.natAbs<2^k)(hk2:k<=8000):wO (dDiv (.int i) (.int j) M) Q E=Q (.int (i/j)) M:=by
 have:ZaB j:=⟨by lia,by
  have:j.natAbs.log2<k:=(Nat.log2_lt (by lia)).mpr hk
  lia⟩
 show wO (if ZaB j then _ else _) Q E=_
 rw[if_pos this,Int.fdiv_eq_ediv_of_nonneg _ (by lia)];rfl
theorem ZiX(hb:b≠0):rt (Rat.normalize t b hb)=pr (t/(Int.gcd t b:Nat)) ((b:Int)/(Int.gcd t b:Nat)):=by
 unfold rt;rw[Rat.num_normalize,Rat.den_normalize,Int.natCast_ediv];rfl
theorem Zlo{b:Nat}(hb:b≠0)(h:b<2^k):0<Int.gcd t b/\Int.gcd t b<2^k:=by
 have h1:Int.gcd t b ∣ b:=Int.gcd_dvd_natAbs_right t b;have h2:=Nat.le_of_dvd (by lia) h1
 have h3:Int.gcd t b≠0:=fun z=>by
  rw[z]at h1;exact hb (Nat.eq_zero_of_zero_dvd h1)
 lia
theorem ZdG{b:Nat}(hb:b≠0)(h:b<2^k)(hk:k<=8000):wO (F_ratio [.int t,.int b] M) Q E=Q (rt (Rat.normalize t b hb)) M:=by
 obtain⟨g0,g1⟩:=Zlo (t:=t) hb h;have gw:∀{Q:W0},wO (FGcd [.int t,.int b] M) Q E=Q (.int (Int.gcd t b:Nat)) M:=by
  intro Q;rw[Zlg];rfl
 rw[ZiX hb];generalize Int.gcd t b=g at *;simp![Zse,ZpG,Zsf,Zsg,ZpH,ZpI,Zsi,ZpK,Zpt,Zpw,Zpx,F_ratio,Zfn,F_is_whole,ZbS,Zp9,gw];rw[Zdd (k:=k) (by lia) (by simpa using g1) hk]
 simp![Zse,ZpG,Zsf,Zsg,ZpH,ZpI,Zsi,ZpK,Zpt,Zpw,Zpx,Zn];rw[Zdd (k:=k) (by lia) (by simpa using g1) hk]
 simp![Zse,ZpG,Zsf,Zsg,ZpH,ZpI,Zsi,ZpK,Zpt,Zpw,Zpx,Zn]
theorem ZcM(hb:b≠0)(ht:t.natAbs<2^k)(h:b<2^k):Sz k (Rat.normalize t b hb):=by
 refine⟨?_,?_⟩
 ·rw[Rat.num_normalize];exact Nat.lt_of_le_of_lt (Int.natAbs_ediv_le_natAbs _ _) ht
 ·rw[Rat.den_normalize];exact Nat.lt_of_le_of_lt (Nat.div_le_self _ _) h
theorem Z4(hx:x<2^k)(hy:y<2^l):x*y<2^(k+l):=by
 rw[Nat.pow_add];exact Nat.mul_lt_mul'' hx hy
theorem Zqa(hp:Sz k p)(hq:Sz l q)(hk:k+l<=8000):wO (F_plus [rt p,rt q] M) Q E=Q (rt (p+q)) M:=by
 have nz:p.den*q.den≠0:=Nat.mul_ne_zero p.den_nz q.den_nz;have f1:Zt p.num (q.den:Int):=Zr k l hp.1 (by simpa using hq.2) (by lia) (by lia)
 have f2:Zt q.num (p.den:Int):=Zr l k hq.1 (by simpa using hp.2) (by lia) (by lia)
 have f3:Zt (p.den:Int) (q.den:Int):=Zr k l (by simpa using hp.2) (by simpa using hq.2) (by lia) (by lia)
 simp![F_plus,ZiW,ZI f1,ZI f2,ZI f3];rw[show(p.den:Int)*(q.den:Int)=((p.den*q.den:Nat):Int)by simp,ZdG nz (Z4 hp.2 hq.2) hk,<-Rat.add_def]
theorem ZbT(hp:Sz k p)(hq:Sz l q)(hk:k+l<=8000):wO (F_times [rt p,rt q] M) Q E=Q (rt (p*q)) M:=by
 have nz:p.den*q.den≠0:=Nat.mul_ne_zero p.den_nz q.den_nz;have f1:Zt p.num q.num:=Zr k l hp.1 hq.1 (by lia) (by lia)
 have f3:Zt (p.den:Int) (q.den:Int):=Zr k l (by simpa using hp.2) (by simpa using hq.2) (by lia) (by lia)
 simp![F_times,Zfo,ZI f1,ZI f3];rw[show(p.den:Int)*(q.den:Int)=((p.den*q.den:Nat):Int)by simp,ZdG nz (Z4 hp.2 hq.2) hk,<-Rat.mul_def]
theorem ZY(hp:Sz k p)(hq:Sz l q):Sz (k+l) (p*q):=by
 rw[Rat.mul_def];exact ZcM _ (by rw[Int.natAbs_mul];exact Z4 hp.1 hq.1) (Z4 hp.2 hq.2)
theorem ZcN(hp:Sz k p)(hq:Sz l q):Sz (k+l+1) (p+q):=by
 rw[Rat.add_def];have h1:=Z4 hp.1 hq.2;have h2:=Z4 hq.1 hp.2;have h3:=Z4 hp.2 hq.2;rw[Nat.add_comm l k]at h2;refine ZcM _ ?_ ?_
 ·have e1:(p.num*(q.den:Int)).natAbs=p.num.natAbs*q.den:=by rw[Int.natAbs_mul];rfl
  have e2:(q.num*(p.den:Int)).natAbs=q.num.natAbs*p.den:=by rw[Int.natAbs_mul];rfl
  have:=Int.natAbs_add_le (p.num*(q.den:Int)) (q.num*(p.den:Int))
  rw[Nat.pow_succ];lia
 ·rw[Nat.pow_succ];lia
end CR
namespace CH
open L2 DL CA CR
end CH
namespace CH
open L2 DL
open CR (rt Sz)
def rts(hs:List Rat):List D:=hs.map rt
theorem ZD:(rts hs).length=hs.length:=List.length_map _
theorem ZU:rts hs++[rt q]=rts (hs++[q]):=by simp[rts]
end CH
namespace CS
open L2 DL CC CR
def Zfp:Sv:=(Z6 (Zj F_ratio (Zc (e2 dSub (e2 dMul (e2 dIx (Zg 0) (eC (.int 0))) (e2 dIx (Zg 1) (eC (.int 1)))) (e2 dMul (e2 dIx (Zg 1) (eC (.int 0))) (e2 dIx (Zg 0) (eC (.int 1))))) (Zc (e2 dMul (e2 dIx (Zg 0) (eC (.int 1))) (e2 dIx (Zg 1) (eC (.int 1)))) aNil))))
def F_minus:W3:=fnF Zfp 2 0
def ZdH:Sv:=(Z6 (Zj F_plus (Zc (Zj F_times (Zc (e2 dIx (Zg 0) (eC (.int 0))) (Zc (Zak (Zc (e2 dIx (Zg 1) (eC (.int 0))) (Zc (eC (.int 1)) aNil))) aNil))) (Zc (Zj F_times (Zc (e2 dIx (Zg 0) (eC (.int 1))) (Zc (Zak (Zc (e2 dIx (Zg 1) (eC (.int 1))) (Zc (eC (.int 1)) aNil))) aNil))) aNil))))
def F_sloped:W3:=fnF ZdH 2 0
def Zav:Sv:=(ZE (ZJ (gTp (gCs (gTp (gCs (gNm 2) (gCs (gNm 3) gNl))) (gCs (gTp (gCs (gNm 4) (gCs (gNm 5) gNl))) gNl))) (Zak (Zc (e2 dIx (Zg 0) (eC (.int 0))) (Zc (e2 dIx (Zg 0) (eC (.int 1))) aNil)))) (ZE (ZgD 6 7 (Zc (e2 dIx (Zg 1) (eC (.int 0))) (Zc (e2 dIx (Zg 1) (eC (.int 1))) aNil))) (Z6 (Zak (Zc (Zj F_minus (Zc (Zj F_times (Zc (Zg 6) (Zc (Zak (Zc (Zg 5) (Zc (eC (.int 1)) aNil))) aNil))) (Zc (Zj F_times (Zc (Zg 7) (Zc (Zak (Zc (Zg 3) (Zc (eC (.int 1)) aNil))) aNil))) aNil))) (Zc (Zj F_minus (Zc (Zj F_times (Zc (Zg 7) (Zc (Zak (Zc (Zg 2) (Zc (eC (.int 1)) aNil))) aNil))) (Zc (Zj F_times (Zc (Zg 6) (Zc (Zak (Zc (Zg 4) (Zc (eC (.int 1)) aNil))) aNil))) aNil))) aNil))))))
def F_slope_through:W3:=fnF Zav 2 6
def Za7:Sv:=(sIf (tv (e2 dNe (Zj bLen (Zc (Zg 1) aNil)) (Zj bLen (Zc (Zg 0) aNil)))) (Zek (PySem.Str.ofString "NoHeight") (Zc (eFs (Zdv (eC (.str (PySem.Str.ofString "a height of "))) (Zdv (eFm (Zj bLen (Zc (Zg 0) aNil))) (Zdv (eC (.str (PySem.Str.ofString " rays has not "))) (Zdv (eFm (Zj bLen (Zc (Zg 1) aNil))) (Zdv (eC (.str (PySem.Str.ofString " ratios"))) jNil)))))) aNil)) sNil)
def F_ask_height:W3:=fnF Za7 2 0
end CS
namespace CS
open L2 DL
open CR (rt Sz)
theorem Zb5(z:Int):pr z 1=rt (z:Rat):=by
 unfold rt;rw[Rat.num_intCast,Rat.den_intCast];rfl
theorem ZN{z:Int}(h:z.natAbs<2^k)(hk:1<=k):Sz k (z:Rat):=by
 refine⟨by rw[Rat.num_intCast];exact h,by rw[Rat.den_intCast];exact Nat.one_lt_two_pow (by lia)⟩
theorem ZdI(hp:Sz k p)(hq:Sz l q)(hk:k+l<=8000):wO (F_minus [rt p,rt q] M) Q E=Q (rt (p-q)) M:=by
 have nz:p.den*q.den≠0:=Nat.mul_ne_zero p.den_nz q.den_nz;have f1:Zt p.num (q.den:Int):=Zr k l hp.1 (by simpa using hq.2) (by lia) (by lia)
 have f2:Zt q.num (p.den:Int):=Zr l k hq.1 (by simpa using hp.2) (by lia) (by lia)
 have f3:Zt (p.den:Int) (q.den:Int):=Zr k l (by simpa using hp.2) (by simpa using hq.2) (by lia) (by lia)
 simp![F_minus,Zfp,ZI f1,ZI f2,ZI f3];rw[show(p.den:Int)*(q.den:Int)=((p.den*q.den:Nat):Int)by simp,CR.ZdG nz (CR.Z4 hp.2 hq.2) hk,<-Rat.sub_def]
theorem Zge(hp:Sz k p)(hq:Sz l q):Sz (k+l+1) (p-q):=by
 rw[Rat.sub_def];have h1:=CR.Z4 hp.1 hq.2;have h2:=CR.Z4 hq.1 hp.2;have h3:=CR.Z4 hp.2 hq.2;rw[Nat.add_comm l k]at h2;refine CR.ZcM _ ?_ ?_
 ·have e1:(p.num*(q.den:Int)).natAbs=p.num.natAbs*q.den:=by rw[Int.natAbs_mul];rfl
  have e2:(q.num*(p.den:Int)).natAbs=q.num.natAbs*p.den:=by rw[Int.natAbs_mul];rfl
  have:=Int.natAbs_sub_le (p.num*(q.den:Int)) (q.num*(p.den:Int))
  rw[Nat.pow_succ];lia
 ·rw[Nat.pow_succ];lia
noncomputable def slp(m:Rat×Rat)(r:Pt):Rat:=m.1*(r.1:Rat)+m.2*(r.2:Rat)
theorem ZkD(h1:Sz k m.1)(h2:Sz k m.2)(hr:(-B<=r.1/\r.1<=B)/\ -B<=r.2/\r.2<=B)(hk:k<=3000)(hB:B<=400:=by first|decide|assumption):wO (F_sloped [.tup [rt m.1,rt m.2],pr r.1 r.2] M) Q E=Q (rt (slp m r)) M:=by
 have s1:Sz 9 (r.1:Rat):=ZN (by lia) (by decide)
 have s2:Sz 9 (r.2:Rat):=ZN (by lia) (by decide)
 simp![F_sloped,ZdH];rw[show D.tup [D.int r.1,D.int 1]=rt (r.1:Rat)from Zb5 r.1,CR.ZbT h1 s1 (by lia)]
 simp![Zn];rw[show D.tup [D.int r.2,D.int 1]=rt (r.2:Rat)from Zb5 r.2,CR.ZbT h2 s2 (by lia)]
 simp![Zn];rw[CR.Zqa (CR.ZY h1 s1) (CR.ZY h2 s2) (by lia)]
 rfl
end CS
namespace CN
open L2 DL
open CC (F_following)
open CR (F_plus F_times)
open CS (F_ask_height)
end CN
namespace CN
open L2 DL
open CR (rt Sz)
open CH (rts ZD ZU)
noncomputable def cq(hs:List Rat)(i:Int):Rat:=hs.getD (i%hs.length).toNat 0
theorem Zb6(h: -(hs.length:Int)<=i/\i<hs.length):atI (rts hs) i=some (rt (cq hs i)):=by
 unfold atI;rw[ZD,ZiM h];have hp:(i%hs.length).toNat<hs.length:=by
  have:=Int.emod_lt_of_pos i (show(0:Int)<hs.length by lia)
  have:=Int.emod_nonneg i (show(hs.length:Int)≠0 by lia)
  lia
 simp[rts,cq,List.getElem?_eq_getElem hp]
theorem Za8{hs:List Rat}(h:k<hs.length):cq hs k=hs[k]:=by
 unfold cq;rw[Int.emod_eq_of_lt (by lia) (by lia)]
 simp[List.getElem?_eq_getElem h]
theorem Zbt(h:∀x∈hs,Sz k x)(hn:hs.length≠0):Sz k (cq hs i):=by
 unfold cq
 have:=(ZaE (i:=i) hn).1
 rw[List.getD_eq_getElem?_getD,List.getElem?_eq_getElem this];exact h _ (List.getElem_mem this)
theorem Zbu(h:i<(rts hs).length):(rts hs)[i]=rt (cq hs i):=by
 rw[ZD]at h;rw[Za8 h];simp[rts]
theorem ZeO(h:M[n]?=some (.lst (prs rs)))(h':M[m]?=some (.lst (rts hs)))(e:hs.length=rs.length)(q:Q .non M):wO (CS.F_ask_height [.ref n,.ref m] M) Q E:=by
 simp![CS.F_ask_height,CS.Za7,h,h',ZD,e];exact q
end CN
namespace CN
open L2 DL
open CR (rt Sz)
open CH (rts ZD ZU)
theorem Znd(h:i<(nts ts).length):(nts ts)[i]=.int (cn ts i):=by
 rw[ZbP]at h;rw[Zps h];simp[nts]
theorem Zgf(t:Int)(x:Rat):Rat.normalize (t*x.num) x.den x.den_nz=(t:Rat)*x:=by
 rw[Rat.mul_def];simp
end CN
namespace CN
open L2 DL
open CR (rt Sz)
open CH (rts ZD ZU)
end CN
namespace CU
open L2 DL
open CC (F_ask_smooth)
open CS (F_ask_height F_minus F_slope_through F_sloped)
end CU
namespace CU
open L2 DL
open CR (rt Sz)
open CH (rts ZD ZU)
open CN CS
noncomputable def Zlp(xs ys:List Rat):List Rat:=List.zipWith (· - ·) xs ys
def thr(rs:List Pt)(hs:List Rat):Rat×Rat:=(cq hs 0*(cy rs 1).2-cq hs 1*(cy rs 0).2,cq hs 1*(cy rs 0).1-cq hs 0*(cy rs 1).1)
abbrev rp(m:Rat×Rat):D:=.tup [rt m.1,rt m.2]
theorem ZiY(h:rt p=rt q):p=q:=by
 unfold rt pr at h;injection h with h;injection h with h1 h;injection h with h2;injection h1 with h1;injection h2 with h2;exact Rat.ext h1 (by lia)
theorem Zne:rts xs=rts ys↔xs=ys:=by
 refine⟨fun h=>?_,fun h=>by rw[h]⟩
 induction xs generalizing ys with
 |nil=>cases ys with
  |nil=>rfl
  |cons y ys=>simp[rts]at h
 |cons x xs ih=>
  cases ys with
  |nil=>simp[rts]at h
  |cons y ys=>
   simp only[rts,List.map_cons,List.cons.injEq]at h;rw[ZiY h.1,ih h.2]
theorem ZdJ:rts hs=prs (hs.map fun q=>(q.num,(q.den:Int))):=by
 simp[rts,prs]
theorem Zqb{xs:List Rat}:xs.map (fun q=>(q.num,(q.den:Int)))=ys.map (fun q=>(q.num,(q.den:Int)))↔xs=ys:=by
 refine⟨fun h=>?_,fun h=>by rw[h]⟩
 rw[<-Zne,ZdJ,ZdJ,h]
section
variable {n:Nat}
theorem ZsK(h1:M[n]?=some (.lst (rts xs)))(h2:M[m]?=some (.lst (rts ys))):eqF (k+3) M (.ref n) (.ref m)=some (decide (xs=ys)):=by
 rw[ZiN h1 h2,ZdJ,ZdJ,Zlj];by_cases e:xs=ys
 ·subst e;simp
 ·rw[decide_eq_false e];split
  ·rw[decide_eq_false (fun z=>e (Zqb.mp z))]
  ·rfl
theorem ZsL(h1:M[n]?=some (.lst (prs rs))){ss:List Pt}(h2:M[m]?=some (.lst (prs ss))):eqF (k+3) M (.ref n) (.ref m)=some (decide (rs=ss)):=by
 rw[ZiN h1 h2,Zlj];by_cases e:rs=ss
 ·subst e;simp
 ·rw[decide_eq_false e]
  split<;>rfl
theorem Zvi:eqF (k+2) M (rt p) (rt q)=some (decide (p=q)):=by
 rw[show eqF (k+2) M (rt p) (rt q)=some (decide ((p.num,(p.den:Int))=(q.num,(q.den:Int))))from Zr5];congr 1;apply decide_eq_decide.mpr;exact⟨fun h=>Rat.ext (congrArg (·.1) h) (by have:=congrArg (·.2) h;simp only at this;lia),fun h=>by subst h;rfl⟩
theorem Zvj:eqF (k+3) M (rp a) (rp b)=some (decide (a=b)):=by
 show eqL (eqF (k+2) M) [rt a.1,rt a.2] [rt b.1,rt b.2]=_;simp only[eqL,Zvi];congr 1;obtain⟨a1,a2⟩:=a;obtain⟨b1,b2⟩:=b;by_cases h1:a1=b1<;>by_cases h2:a2=b2<;>simp[h1,h2]
theorem ZiZ(h:M[n]?=some (.lst (prs rs)))(hb:Nr B rs)(h2:2<=rs.length)(h':M[m]?=some (.lst (rts hs)))(e:2<=hs.length)(hz:∀x∈hs,Sz k x)(hk:k<=2000)(hB:B<=400:=by first|decide|assumption):wO (F_slope_through [.ref n,.ref m] M) Q E=Q (rp (thr rs hs)) M:=by
 have hn:rs≠[]:=by intro z;rw[z]at h2;simp at h2
 have a:=hb _ (ZX (i:=0) hn);have b:=hb _ (ZX (i:=1) hn);have z0:=Zbt (i:=0) hz (by lia)
 have z1:=Zbt (i:=1) hz (by lia)
 simp![ZpN,Zsn,kAt,kPa,F_slope_through,Zav,h,h',ZbG,Zb6];have sz (z:Int) (hz: -B<=z/\z<=B):Sz 9 (z:Rat):=ZN (by lia) (by decide)
 have re (z:Int):D.tup [D.int z,D.int 1]=rt (z:Rat):=Zb5 z;rw[re,CR.ZbT z0 (sz _ b.2) (by lia)]
 simp![ZpN,Zsn,kAt,kPa,Zn];rw[re,CR.ZbT z1 (sz _ a.2) (by lia)]
 simp![ZpN,Zsn,kAt,kPa,Zn];rw[ZdI (CR.ZY z0 (sz _ b.2)) (CR.ZY z1 (sz _ a.2)) (by lia)]
 simp![ZpN,Zsn,kAt,kPa,Zn];rw[re,CR.ZbT z1 (sz _ a.1) (by lia)]
 simp![ZpN,Zsn,kAt,kPa,Zn];rw[re,CR.ZbT z0 (sz _ b.1) (by lia)]
 simp![ZpN,Zsn,kAt,kPa,Zn];rw[ZdI (CR.ZY z1 (sz _ a.1)) (CR.ZY z0 (sz _ b.1)) (by lia)]
 simp![ZpN,Zsn,kAt,kPa,Zn];rfl
theorem Zqc(h1:Sz k mm.1)(h2:Sz k mm.2)(hr:(-200<=r.1/\r.1<=200)/\ -200<=r.2/\r.2<=200):Sz (2*k+17) (slp mm r):=by
 have e:k+8+(k+8)+1=2*k+17:=by lia
 exact e▸CR.ZcN (CR.ZY h1 (ZN (k:=8) (by lia) (by decide))) (CR.ZY h2 (ZN (k:=8) (by lia) (by decide)))
theorem Zgg(h1:xs.length=n)(h2:ys.length=n):(Zlp xs ys).length=n:=by simp[Zlp,h1,h2]
theorem Zqd(ex:xs.length=n)(ey:ys.length=n)(h:k<n):cq (Zlp xs ys) k=cq xs k-cq ys k:=by
 have l:(Zlp xs ys).length=n:=Zgg ex ey;rw[Za8 (by lia),Za8 (by lia),Za8 (by lia)]
 simp[Zlp]
theorem Zfq{F:Nat->Rat}(h1:xs.length=n)(h:∀i<n,F i=cq xs i):(List.range n).map (fun(i:Nat)=>rt (F i))=rts xs:=by
 apply List.ext_getElem
 ·rw[ZD,h1];simp
 ·intro i hi hi';simp at hi;rw[Zbu];simp[h i hi]
end
end CU
namespace CV
open L2 DL
open CR (rt Sz)
open CH (rts ZD ZU)
open CN CU CS
noncomputable def Kp(M M':Sto):Prop:=M.length<=M'.length/\∀j<M.length,M'[j]?=M[j]?
section
variable {M1 M2:Sto}{j:Nat}
theorem Kp.of(l:M.length<=M'.length)(g:∀j<M.length,M'[j]?=M[j]?):Kp M M':=⟨l,g⟩
theorem Kp.get(k:Kp M M')(h:M[j]?=some o):M'[j]?=some o:=(k.2 _ (Zv h)).trans h
theorem Kp.refl:Kp M M:=⟨Nat.le_refl _,fun _ _=>rfl⟩
theorem Kp.trans(a:Kp M M1)(b:Kp M1 M2):Kp M M2:=⟨Nat.le_trans a.1 b.1,fun j h=>(b.2 j (Nat.lt_of_lt_of_le h a.1)).trans (a.2 j h)⟩
theorem Kp.app:Kp M (M++L):=⟨by simp,fun j h=>ZdA h⟩
theorem Kp.set(a:Kp M M1)(h:M.length<=j):Kp M (M1.set j o):=⟨by rw[List.length_set];exact a.1,fun i hi=>by rw[List.getElem?_set_ne (by lia)];exact a.2 i hi⟩
end
theorem Zi0(h:Sz a x)(hab:a<=b):Sz b x:=⟨Nat.lt_of_lt_of_le h.1 (Nat.pow_le_pow_right (by decide) hab),Nat.lt_of_lt_of_le h.2 (Nat.pow_le_pow_right (by decide) hab)⟩
theorem ZsM(ru:M[mu]?=some (.lst (rts u)))(rv:M[mv]?=some (.lst (rts v)))(lu:u.length=N)(lv:v.length=N)(hN:N<=1000)(lz:zs.length=N)(hf:∀(i:Nat),i<N->∀L,wO (f [some (rt (cq u i)),some (rt (cq v i))] (M++L)) (fun y M2=>y=rt (cq zs i)/\M2=M++L) (fun _ _=>False))(q:Q (.ref M.length) (M++[.lst (rts zs)])):kCo (gTp (gCs (gNm 0) (gCs (gNm 1) gNl))) (fun _ M=>.ok true M) f 2 [] ρ Q (.zip mu mv) M:=by
 have hz:(List.zipWith (fun a b=>D.tup [a,b]) (rts u) (rts v)).length=N:=by simp[ZD];lia
 have hu:=Zv ru;have hv:=Zv rv;refine ZqR (xs:=List.zipWith (fun a b=>D.tup [a,b]) (rts u) (rts v)) (fun ρ=>∃x y,ρ=[x,y]) (fun(i:Nat)=>rt (cq zs i)) (by lia) (by rw[ZiO ru,hz,ZD];lia) ⟨_,_,rfl⟩ (fun L i hi=>?_) ?_ (by rw[hz,Zfq (xs:=zs) lz (fun i hi=>rfl)];exact q)
 ·rw[Zlk (by rw[ZdA hu];exact ru) (by rw[ZdA hv];exact rv)]
 ·rintro i hi ρ L ⟨x,y,rfl⟩;rw[hz]at hi;rw[List.getElem_zipWith,Zbu,Zbu];simp![Zn];exact⟨⟨_,_,rfl⟩,hf i hi L⟩
end CV
namespace CW
open L2 DL
open CF (F_law_are_whole)
end CW
namespace CW
open L2 DL
open CV
def fx(rs:List Pt):Nat:=((ZsJ rs).findIdx? (fun t=>decide (t= -1))).getD 0
def wk:Nat->List Pt->List Int×List Pt
 |0,rs=>([],rs)
 |n+1,rs=>if 5<=rs.length then((fx rs:Int)::(wk n (del rs (fx rs))).1,(wk n (del rs (fx rs))).2)else([],rs)
def wl(rs:List Pt):List Pt:=(wk rs.length rs).2
end CW
namespace CB
open L2 DL
end CB
namespace CL
open L2 DL
open CC (F_following)
end CL
namespace CL
open L2 DL
open CV CB
end CL
namespace TW
open DL
noncomputable def nx(b:Int)(p q:Pt):Pt:=(0-b*q.1-p.1,0-b*q.2-p.2)
noncomputable def ng(p:Pt):Pt:=(0-p.1,0-p.2)
def run(p q:Pt):List Int->Pt×Pt
 |[]=>(p,q)
 |b::bs=>run q (nx b p q) bs
def ew(p q:Pt):Nat:=in1 (1,0) p q+in1 (-1,0) p q
noncomputable def st(a:Pt):Int:=if 0<a.2\/(a.2=0/\a.1<0)then 1 else 0
end TW
namespace TW
open DL
section
variable {rs:List Pt}
def Zvk(rs:List Pt):Int->Nat->List Int
 |_,0=>[]
 |i,k+1=>T rs (i+1)::Zvk rs (i+1) k
def sf(f:Pt->Pt->Nat)(rs:List Pt):Int->Nat->Nat
 |_,0=>0
 |i,k+1=>f (cy rs i) (cy rs (i+1))+sf f rs (i+1) k
theorem ZsN(hn:rs≠[]):∀(k i:Nat),i+k=rs.length->cc f ((rs++rs.take 1).drop i)=sf f rs i k:=by
 have l0:0<rs.length:=List.length_pos_iff.mpr hn;have ga:∀i:Nat,i<=rs.length->(rs++rs.take 1)[i]?=some (cy rs i):=by
  intro i hi;by_cases c:i<rs.length
  ·rw[List.getElem?_append_left c,ZbQ (by lia),ZbH (by lia),List.getElem?_eq_getElem c]
   simp
  ·have:i=rs.length:=by lia
   subst this;rw[List.getElem?_append_right (Nat.le_refl _),Nat.sub_self,<-ZeK,Int.sub_self,ZbQ (by lia),ZbH (by lia)]
   rw[List.getElem?_take_of_lt (by decide),List.getElem?_eq_getElem (by lia)]
   simp
 have lch:(rs++rs.take 1).length=rs.length+1:=by simp;lia
 have dr:∀i:Nat,i<=rs.length->(rs++rs.take 1).drop i=cy rs i::(rs++rs.take 1).drop (i+1):=by
  intro i hi;rw[List.drop_eq_getElem_cons (by lia)]
  have:=ga i hi
  rw[List.getElem?_eq_getElem (by lia)]at this
  rw[Option.some.inj this]
 intro k
 induction k with
 |zero=>
  intro i hi;rw[dr i (by lia),List.drop_eq_nil_of_le (by lia)]
  rfl
 |succ k ih=>
  intro i hi
  have:=ih (i+1) (by lia)
  rw[dr i (by lia)]
  rw[dr (i+1) (by lia)]at this ⊢
  rw[cc,this,sf];rfl
theorem Zgh(hn:rs≠[]):cyc f rs=sf f rs 0 rs.length:=by
 have:=ZsN (f:=f) hn rs.length 0 (by lia)
 exact this
end
end TW
namespace CT
open L2 DL
end CT
namespace CT
open L2 DL
open CV TW
section
variable {L:List Int}
def Cl(L:List Int):Prop:=run (1,0) (0,1) L=((1,0),(0,1))
instance (L:List Int):Decidable (Cl L):=by unfold Cl;infer_instance
end
end CT
namespace CT
open L2 DL
open CV
open TW (nx)
end CT
namespace DL
section
variable {rs:List Pt}
theorem ZkE(hl:rs≠[])(h:cyc f rs=0)(i:Int):f (cy rs i) (cy rs (i+1))=0:=by
 have l0:rs.length≠0:=fun z=>hl (List.length_eq_zero_iff.mp z);refine ZdD (P:=fun a b=>f a b=0) l0 ?_ i;intro i h0 h1;rw[TW.Zgh hl]at h
 have:∀(k:Nat)(j:Int),TW.sf f rs j k=0->∀m:Nat,m<k->f (cy rs (j+m)) (cy rs (j+m+1))=0:=by
  intro k
  induction k with
  |zero=>intro j _ m hm;lia
  |succ k ih=>
   intro j h m hm;rw[TW.sf]at h;cases m with
   |zero=>
    rw[show j+((0:Nat):Int)=j by lia]
    lia
   |succ m=>
    have:=ih (j+1) (by lia) m (by lia)
    rw[show j+((m+1:Nat):Int)=j+1+m by lia]
    exact this
 have:=this rs.length 0 h i.toNat (by lia)
 rw[show(0:Int)+(i.toNat:Nat)=i by lia]at this
 exact this
theorem Zfr(hl:rs≠[])(h:∀i:Int,f (cy rs i) (cy rs (i+1))=0):cyc f rs=0:=by
 rw[TW.Zgh hl]
 have:∀(k:Nat)(j:Int),TW.sf f rs j k=0:=by
  intro k
  induction k with
  |zero=>intro j;rfl
  |succ k ih=>intro j;rw[TW.sf,h,ih]
 exact this _ _
def nxp(a b:Pt):Nat:=if 0<X a b then 0 else 1
theorem ZsO(h:nxp a b=0):0<X a b:=by
 unfold nxp at h
 split at h
 ·assumption
 ·lia
theorem Zqe(h:0<X a b):nxp a b=0:=by unfold nxp;rw[if_pos h]
structure Rn(rs:List Pt):Prop where
 len:3<=rs.length
 ps:cyc nxp rs=0
 gc:∀p∈rs,Int.gcd p.1 p.2=1
 fan:Fan rs
theorem Rn.ne(h:Rn rs):rs≠[]:=by
 intro z
 have:=h.len
 rw[z]at this;simp at this
theorem Rn.pos(h:Rn rs)(i:Int):0<X (cy rs i) (cy rs (i+1)):=ZsO (ZkE h.ne h.ps i)
theorem ZsP(h:X a b=1):Int.gcd a.1 a.2=1/\Int.gcd b.1 b.2=1:=by
 unfold X at h;constructor
 ·have d1:((Int.gcd a.1 a.2:Nat):Int) ∣ a.1*b.2-a.2*b.1:=Int.dvd_sub (Int.dvd_mul_of_dvd_left (Int.gcd_dvd_left _ _)) (Int.dvd_mul_of_dvd_left (Int.gcd_dvd_right _ _));rw[h]at d1;exact Nat.eq_one_of_dvd_one (Int.natCast_dvd_natCast.mp d1)
 ·have d1:((Int.gcd b.1 b.2:Nat):Int) ∣ a.1*b.2-a.2*b.1:=Int.dvd_sub (Int.dvd_mul_of_dvd_right (Int.gcd_dvd_right _ _)) (Int.dvd_mul_of_dvd_right (Int.gcd_dvd_left _ _));rw[h]at d1;exact Nat.eq_one_of_dvd_one (Int.natCast_dvd_natCast.mp d1)
theorem Zqf{p:Pt}(h:p∈rs):∃i:Int,p=cy rs i:=by
 obtain⟨L,R,rfl⟩:=List.append_of_mem h;exact⟨L.length,Zp4.symm⟩
theorem Smo.rn(h:Smo rs):Rn rs:=by
 refine⟨h.len,Zfr h.ne fun i=>Zqe (by rw[h.one i];decide),fun p hp=>?_,h.fan⟩
 obtain⟨i,rfl⟩:=Zqf hp;exact(ZsP (h.one i)).1
end
open TW
open CT (Cl)
section
variable {rs:List Pt}
theorem Zqg{f:Pt->Pt->Nat}:∀(k:Nat)(j:Int)(m:Nat),m<k->f (cy rs (j+m)) (cy rs (j+m+1))<=sf f rs j k
 |0,_,_,h=>absurd h (Nat.not_lt_zero _)
 |k+1,j,0,_=>by rw[sf];simp
 |k+1,j,m+1,h=>by
  have:=Zqg (f:=f) k (j+1) m (by lia)
  rw[sf,show j+((m+1:Nat):Int)=j+1+m by lia]
  lia
theorem ZeP{f:Pt->Pt->Nat}:∀(k:Nat)(j:Int)(m l:Nat),m<l->l<k->f (cy rs (j+m)) (cy rs (j+m+1))+f (cy rs (j+l)) (cy rs (j+l+1))<=sf f rs j k
 |0,_,_,_,_,h=>absurd h (Nat.not_lt_zero _)
 |k+1,j,0,l+1,_,h=>by
  have:=Zqg (f:=f) (rs:=rs) k (j+1) l (by lia)
  rw[sf,show j+((l+1:Nat):Int)=j+1+l by lia]
  simp;lia
 |k+1,j,m+1,l+1,h1,h=>by
  have:=ZeP (f:=f) k (j+1) m l (by lia) (by lia)
  rw[sf,show j+((m+1:Nat):Int)=j+1+m by lia,show j+((l+1:Nat):Int)=j+1+l by lia]
  lia
noncomputable abbrev sw(p:Pt):Pt:=(p.2,p.1)
end
end DL
namespace CB
open DL
section
variable {u v w:Pt}
def kl:List Pt->List Int
 |a::b::d::r=>X a d::kl (b::d::r)
 |_=>[]
theorem Xvv(p:Pt):X p p=0:=by unfold X;grind
theorem ZsQ:∀(r:List Pt)(a b:Pt)(v:Pt),Ch (a::b::r)->Cv (a::b::r)->(b::r).getLast (by simp)=v->0<=X b v/\X b v<X a v
 |[],a,b,v,h,_,e=>by
  have:b=v:=e
  subst this;rw[Xvv,h.1];lia
 |c::r,a,b,v,h,k,e=>by
  have ih:=ZsQ r b c v h.2 k.2 (by rw[<-e];simp[List.getLast_cons])
  obtain⟨m,m2,e1,e2⟩:=k.1;have ex:X a v+X c v=m*X b v:=by unfold X;grind
  have:2*X b v<=m*X b v:=Int.mul_le_mul_of_nonneg_right m2 (by lia)
  lia
theorem Znf(hb:0<b)(h0:0<=c)(h1:c<b)(e:t+c=k*b): -((-t)/b)=k:=by
 have: -t=c+b*(-k):=by grind
 rw[this,Int.add_mul_ediv_left _ _ (by lia),Int.ediv_eq_zero_of_lt h0 h1]
 lia
theorem only:∀(ws:List Pt)(u v w:Pt),Ch (u::(ws++[v]))->Cv (u::(ws++[v]))->Fb u v w->ws=btw u w (hj (X u v) (X w v))/\kl (u::(ws++[v]))=hj (X u v) (X w v)
 |[],u,v,w,h,k,f=>by
  have h1:X u v=1:=h.1;have l:=f.lo;have l2:=f.hi;have w0:X w v=0:=by lia
  rw[w0];unfold hj;rw[dif_neg (by decide)]
  exact⟨rfl,rfl⟩
 |x::ws,u,v,w,h,k,f=>by
  have hl:(x::(ws++[v])).getLast (by simp)=v:=by simp[List.getLast_cons]
  have d:=ZsQ (ws++[v]) u x v h k hl;have fx:Fb u v x:=⟨h.1,d.1,d.2⟩;have ew:=fx.uniq f;subst ew;obtain⟨y,R,eR⟩:∃y R,ws++[v]=y::R:=by
   cases ws with
   |nil=>exact⟨v,[],rfl⟩
   |cons y R=>exact⟨y,R++[v],rfl⟩
  have h':Ch (x::y::R):=by rw[<-eR];exact h.2
  have kk:Cv (u::x::y::R):=by rw[<-eR];exact k
  have hl2:(y::R).getLast (by simp)=v:=by
   have:(ws++[v]).getLast (by simp)=v:=by simp
   simpa [eR]using this
  have d2:=ZsQ R x y v h' kk.2 hl2;obtain⟨m,m2,e1,e2⟩:=kk.1;have ex:X u v+X y v=m*X x v:=by unfold X;grind
  have hc:=Znf (by lia) d2.1 d2.2 ex
  have ey:(m*x.1-u.1,m*x.2-u.2)=y:=by apply Prod.ext<;>simp only<;>lia
  have m3:X u y=m:=by
   have:=h.1
   rw[<-ey];unfold X at *;simp only;grind
  have fy:Fb x v y:=⟨h'.1,d2.1,d2.2⟩;have ih:=only ws x v y (by rw[eR];exact h') (by rw[eR];exact kk.2) fy
  have ej:hj (X u v) (X x v)=m::hj (X x v) (X y v):=by
   rw[hj,dif_pos (by lia),hc]
   congr 2;lia
  rw[ej];constructor
  ·rw[btw,ey,<-ih.1]
  ·show kl (u::x::(ws++[v]))=_;rw[eR,kl,m3,<-eR,ih.2]
end
end CB
namespace CD
open L2 DL
open CC (F_ask_smooth)
open CS (F_minus F_sloped)
def Zgi:Sv:=(Z6 (e2 dLt (e2 dMul (e2 dIx (Zg 0) (eC (.int 0))) (e2 dIx (Zg 1) (eC (.int 1)))) (e2 dMul (e2 dIx (Zg 1) (eC (.int 0))) (e2 dIx (Zg 0) (eC (.int 1))))))
def F_less:W3:=fnF Zgi 2 0
def ZaP:Sv:=(sIf (tv (Zj F_less (Zc (Zg 1) (Zc (Zg 2) aNil)))) (ZJ (gNm 1) (Zg 2)) sNil)
def ZbU:Sv:=(ZE (ZJ (gNm 1) (e2 dIx (Zg 0) (eC (.int 0)))) (ZE (Zjr (gNm 2) (Zg 0) ZaP) (Z6 (Zg 1))))
def F_greatest:W3:=fnF ZbU 1 2
def ZbV:Sv:=(Z6 (Zj F_minus (Zc (Zak (Zc (eC (.int 0)) (Zc (eC (.int 1)) aNil))) (Zc (Zg 0) aNil))))
def F_contrary:W3:=fnF ZbV 1 0
def Zbv:Sv:=(ZE (ZbC (Zj F_ask_smooth (Zc (Zg 0) aNil))) (Z6 (Zal (iSq (Zg 0)) 1 [1] (gNm 0) (fun _ M=>.ok true M) (Zj F_greatest (Zc (Zal (iSq (Zg 1)) 1 [0] (gNm 0) (fun _ M=>.ok true M) (Zj F_contrary (Zc (Zj F_sloped (Zc (Zg 0) (Zc (Zg 1) aNil))) aNil))) aNil)))))
def F_height_of:W3:=fnF Zbv 2 0
end CD
namespace CD
open L2 DL
open CV
open CR (rt Sz)
open CH (rts ZD ZU)
theorem Zvl(I:Ro->Prop)(F:Nat->D)(hM:M[n]?=some (.lst xs))(hl:xs.length<10000000)(h0:I (roB k fr ρ))(st:∀(i:Nat)(h:i<xs.length)(ρ:Ro)(M':Sto),Kp M M'->I ρ->wG (tg xs[i] ρ) fun r=>I r/\wO (f r M') (fun y M2=>y=F i/\Kp M' M2) (fun _ _=>False))(hq:∀M',Kp M M'->M'[M.length]?=some (.lst ((List.range xs.length).map F))->Q (.ref M.length) M'):kCo tg (fun _ M=>.ok true M) f k fr ρ Q (.sto n) M:=by
 refine ZiK (xs:=xs) (Q:=fun M2=>Q (.ref M.length) M2) (fun i ρ M'=>I ρ/\Kp M M'/\M'[M.length]?=some (.lst ((List.range i).map F))) _ 0 _ _ (by simp) (by rw[Zfi hM];lia) ⟨h0,Kp.app,by simp⟩ (fun i ρ M' hi hI=>by rw[Zgb];exact hI.2.1.get hM) ?_ (fun ρ M' hI=>hq M' hI.2.1 hI.2.2)
 rintro i ρ M' hi ⟨hI,K,r⟩;have s:=st i hi ρ M' K hI;cases e:tg xs[i] ρ with
 |none=>rw[e]at s;exact s.elim
 |some r'=>
  rw[e]at s;obtain⟨hr,s⟩:=s;show Br true _ _;rw[Zo9];refine ZbN s (fun y M2 ⟨h1,h2⟩=>?_) (fun _ _ z=>z);subst h1;rw[h2.get r];have hl2:=Zv (h2.get r);refine⟨by simp;lia,hr,(K.trans h2).set (Nat.le_refl _),?_⟩
  rw[List.getElem?_set_self hl2,List.range_succ,List.map_append];rfl
theorem ZbI:∀{L:List Int},ZaD (nts L)=some L
 |[]=>rfl
 |x::L=>by
  have:=ZbI (L:=L)
  show(match ZaD (nts L)with|some ns=>some (x::ns)|none=>none)=_
  rw[this]
end CD
namespace CD
open L2 DL
open CV
open CR (rt Sz)
open CH (rts ZD ZU)
noncomputable def sg{α:Type}(neg:Bool)(k:Nat)(L:List α):List α:=(if neg then L.reverse else L).drop k++(if neg then L.reverse else L).take k
def zp(us:List Pt)(xs:List D):List D:=List.zipWith (fun u x=>D.tup [pr u.1 u.2,x]) us xs
end CD
namespace CD
open L2 DL
open CV CN CU CS
open CR (rt Sz)
open CH (rts ZD ZU)
noncomputable def mxr(xs:List Rat):Rat:=xs.foldl (fun b x=>if b<x then x else b) (xs.headD 0)
theorem Zfs:∀(xs:List Rat)(b:Rat),(xs.foldl (fun b x=>if b<x then x else b) b=b\/xs.foldl (fun b x=>if b<x then x else b) b∈xs)/\b<=xs.foldl (fun b x=>if b<x then x else b) b/\∀x∈xs,x<=xs.foldl (fun b x=>if b<x then x else b) b
 |[],b=>⟨.inl rfl,Rat.le_refl,fun x h=>by cases h⟩
 |x::xs,b=>by
  rw[List.foldl_cons];by_cases h:b<x
  ·rw[if_pos h];obtain⟨h1,h2,h3⟩:=Zfs xs x;refine⟨.inr ?_,by grind,fun y hy=>?_⟩
   ·rcases h1 with e|e
    ·rw[e];simp
    ·exact List.mem_cons_of_mem _ e
   ·rcases List.mem_cons.mp hy with rfl|hy
    ·exact h2
    ·exact h3 y hy
  ·rw[if_neg h];obtain⟨h1,h2,h3⟩:=Zfs xs b;refine⟨?_,h2,fun y hy=>?_⟩
   ·rcases h1 with e|e
    ·exact .inl e
    ·exact .inr (List.mem_cons_of_mem _ e)
   ·rcases List.mem_cons.mp hy with rfl|hy
    ·grind
    ·exact h3 y hy
theorem Zng(h:xs≠[]):mxr xs∈xs:=by
 cases xs with
 |nil=>exact absurd rfl h
 |cons x r=>
  rcases(Zfs (x::r) x).1 with e|e
  ·unfold mxr;rw[show(x::r).headD 0=x from rfl,e];simp
  ·exact e
def pts(ms:List (Rat×Rat)):List D:=ms.map fun m=>D.tup [rt m.1,rt m.2]
theorem ZQ:(pts ms).length=ms.length:=List.length_map _
theorem Za9(h:i<(pts ms).length):(pts ms)[i]=D.tup [rt (ms[i]'(by rw[ZQ]at h;exact h)).1,rt (ms[i]'(by rw[ZQ]at h;exact h)).2]:=by simp[pts]
def hts(rs:List Pt)(ms:List (Rat×Rat)):List Rat:=rs.map fun r=>mxr (ms.map fun m=>0-slp m r)
theorem Zlq(hp:Sz k p)(hq:Sz l q)(hk:k+l<=8000):wO (F_less [rt p,rt q] M) Q E=Q (.bl (decide (p<q))) M:=by
 have f1:Zt p.num (q.den:Int):=Zr k l hp.1 (by simpa using hq.2) (by lia) (by lia)
 have f2:Zt q.num (p.den:Int):=Zr l k hq.1 (by simpa using hp.2) (by lia) (by lia)
 simp![F_less,Zgi,ZI f1,ZI f2];rw[show decide (p.num*(q.den:Int)<q.num*(p.den:Int))=decide (p<q)from decide_eq_decide.mpr (Rat.lt_iff p q).symm]
theorem ZgM(h:M[n]?=some (.lst (rts xs)))(hx:xs≠[])(hz:∀x∈xs,Sz k x)(hk:k<=4000):wO (F_greatest [.ref n] M) Q E=Q (rt (mxr xs)) M:=by
 have main (Q:W0) (E:W2) (q:Q (rt (mxr xs)) M):wO (F_greatest [.ref n] M) Q E:=by
  have hn:=Zv h;have hl:xs.length≠0:=by simpa using hx
  have c0:cq xs 0=xs.headD 0:=by
   cases xs with
   |nil=>exact absurd rfl hx
   |cons a r=>unfold cq;simp
  simp![F_greatest,ZbU,h,Zb6,c0];refine ZbO (xs:=rts xs) (fun i ρ M'=>M'=M/\∃b x,ρ=[some (.ref n),some (rt b),x]/\Sz k b/\b=(xs.take i).foldl (fun b x=>if b<x then x else b) (xs.headD 0)) h ⟨rfl,_,_,rfl,by rw[<-c0];exact Zbt hz hl,rfl⟩ (fun i ρ M' hI=>hI.1▸h) ?_ ?_
  ·rintro i ρ _ hi ⟨rfl,b,x,rfl,hb,e⟩;rw[Zbu];have hi':i<xs.length:=by rw[ZD]at hi;exact hi
   have z:=Zbt (i:=i) hz hl;simp![ZaP];rw[Zlq hb z (by lia)]
   have tk:xs.take (i+1)=xs.take i++[cq xs i]:=by rw[List.take_succ_eq_append_getElem hi',Za8 hi']
   refine brS (fun c=>?_) (fun c=>?_)
   ·simp![Zn];refine⟨_,_,rfl,z,?_⟩;rw[tk,List.foldl_append,<-e,List.foldl_cons,List.foldl_nil,if_pos c]
   ·simp![Zn];refine⟨_,_,rfl,hb,?_⟩;rw[tk,List.foldl_append,<-e,List.foldl_cons,List.foldl_nil,if_neg c]
  ·rintro ρ _ ⟨rfl,b,x,rfl,hb,e⟩;simp![Zn];rw[ZD,List.take_length]at e;rw[e];exact q
 obtain⟨d,M',e,e1,e2⟩:=ZbF (main (fun d M'=>d=rt (mxr xs)/\M'=M) (fun _ _=>False) ⟨rfl,rfl⟩);rw[e,e1,e2];rfl
theorem ZgN(hp:Sz k p)(hk:k<=7000):wO (F_contrary [rt p] M) Q E=Q (rt (0-p)) M:=by
 simp![F_contrary,ZbV];rw[show D.tup [D.int 0,D.int 1]=rt ((0:Int):Rat)from CS.Zb5 0,CS.ZdI (CS.ZN (k:=1) (by decide) (by decide)) hp (by lia)]
 rfl
theorem Zft(h1:Sz k mm.1)(h2:Sz k mm.2)(hr:(-B<=r.1/\r.1<=B)/\ -B<=r.2/\r.2<=B)(hB:B<=400:=by first|decide|assumption):Sz (2*k+19) (slp mm r):=by
 have e:k+9+(k+9)+1=2*k+19:=by lia
 exact e▸CR.ZcN (CR.ZY h1 (ZN (k:=9) (by lia) (by decide))) (CR.ZY h2 (ZN (k:=9) (by lia) (by decide)))
theorem Zfu(h:M[n]?=some (.lst (prs rs)))(hs:Smo rs)(hb:Nr B rs)(hl:rs.length<=1000)(hm:M[m]?=some (.lst (pts ms)))(hne:ms≠[])(lm:ms.length<=1000)(hz:∀x∈ms,Sz k x.1/\Sz k x.2)(hk:k<=1300)(q:∀M',Kp M M'->M'[M.length]?=some (.lst (rts (hts rs ms)))->Q (.ref M.length) M')(hB:B<=400:=by first|decide|assumption):wO (F_height_of [.ref n,.ref m] M) Q E:=by
 have hn:=Zv h;have hm':=Zv hm;simp![F_height_of,Zbv];refine CC.Zb4 h hs (fun x hx=>by have:=hb x hx;lia) ?_
 simp![Zn];refine Zvl (fun ρ=>∃x,ρ=[x,some (.ref m)]) (fun(i:Nat)=>rt (cq (hts rs ms) i)) h (by rw[ZP];lia) ⟨_,rfl⟩ ?_ ?_
 ·rintro i hi ρ M1 K1 ⟨x,rfl⟩;rw[CC.ZcJ];rw[ZP]at hi;have hm1:=K1.get hm;have hml:=Zv hm1;have hr:=hb _ (ZX (i:=i) hs.ne);simp![Zn];refine⟨⟨_,rfl⟩,?_⟩;have hxs:(hts rs ms).length=rs.length:=List.length_map _;have e:cq (hts rs ms) i=mxr (ms.map fun m=>0-slp m (cy rs i)):=by
   rw[Za8 (by lia),Zf9 hi]
   simp[hts]
  generalize hv:(ms.map fun m=>0-slp m (cy rs i))=vs at *;have lv:vs.length=ms.length:=by rw[<-hv,List.length_map]
  have hzv:∀x∈vs,Sz (2*k+21) x:=by
   intro x hx;rw[<-hv]at hx;obtain⟨mm,hmm,rfl⟩:=List.mem_map.mp hx
   have:=CS.Zge (CS.ZN (z:=0) (k:=1) (by decide) (by decide)) (Zft (hz mm hmm).1 (hz mm hmm).2 hr)
   exact Zi0 this (by lia)
  refine ZpY (fun ρ=>∃y,ρ=[y,some (pr (cy rs i).1 (cy rs i).2)]) (fun(j:Nat)=>rt (cq vs j)) hm1 (by rw[ZQ];lia) ⟨_,rfl⟩ ?_ ?_
  ·rintro j hj ρ L ⟨y,rfl⟩;have hj':j<ms.length:=by rw[ZQ]at hj;exact hj
   rw[Za9];have hzj:=hz _ (List.getElem_mem hj');have ev:cq vs j=0-slp ms[j] (cy rs i):=by
    rw[Za8 (by lia)]
    simp[<-hv]
   simp![ZkD hzj.1 hzj.2 hr (by lia),ZgN (Zft hzj.1 hzj.2 hr) (by lia)]
   refine⟨⟨_,rfl⟩,by rw[ev]⟩
  rw[ZQ,Zfq lv (fun i hi=>rfl)];have r2:(M1++[SO.lst (rts vs)])[M1.length]?=some (.lst (rts vs)):=by simp
  simp![ZgM r2 (fun z=>by rw[z]at lv;simp at lv;exact hne (List.length_eq_zero_iff.mp lv.symm)) hzv (by lia)]
  exact⟨by rw[e],Kp.app⟩
 ·intro M' K' r';rw[ZP,Zfq (xs:=hts rs ms) (List.length_map _) (fun i hi=>rfl)]at r';exact q M' K' r'
end CD
namespace Rb
open L2 DL
open CN (cq)
open CS (slp)
noncomputable abbrev RP:=Rat×Rat
def Win(rs:List Pt)(hs:List Rat)(p:RP):Prop:=∀i:Nat,i<rs.length-> -(cq hs i)<=slp p (cy rs i)
def On(rs:List Pt)(hs:List Rat)(p:RP)(i:Nat):Prop:=i<rs.length/\slp p (cy rs i)= -(cq hs i)
def Cor(rs:List Pt)(hs:List Rat)(p:RP):Prop:=Win rs hs p/\∃i j,On rs hs p i/\On rs hs p j/\X (cy rs i) (cy rs j)≠0
theorem Zbj(u v:Pt):((X u v:Int):Rat)=(u.1:Rat)*v.2-u.2*v.1:=by
 unfold X;rw[Rat.intCast_sub,Rat.intCast_mul,Rat.intCast_mul]
theorem ZeQ(h:X r b=1):slp p o=(X o b:Rat)*slp p r+(X r o:Rat)*slp p b:=by
 have e:(r.1:Rat)*b.2-r.2*b.1=1:=by rw[<-Zbj,h];rfl
 rw[Zbj,Zbj];unfold slp;generalize (r.1:Rat)=r1 at *;generalize (r.2:Rat)=r2 at *;generalize (b.1:Rat)=b1 at *;generalize (b.2:Rat)=b2 at *;generalize (o.1:Rat)=o1 at *;generalize (o.2:Rat)=o2 at *;generalize p.1=p1 at *;generalize p.2=p2 at *;grind
noncomputable def ptE(r b:Pt)(h t:Rat):RP:=((-h)*b.2-t*r.2,t*r.1-(-h)*b.1)
theorem Znh(e:X r b=1):slp (ptE r b h t) r= -h:=by
 have e:(r.1:Rat)*b.2-r.2*b.1=1:=by rw[<-Zbj,e];rfl
 unfold slp ptE;simp only;grind
theorem Zqh(e:X r b=1):slp (ptE r b h t) b=t:=by
 have e:(r.1:Rat)*b.2-r.2*b.1=1:=by rw[<-Zbj,e];rfl
 unfold slp ptE;simp only;grind
theorem Zlr{p:RP}(e:X r b=1)(q:slp p r= -h):p=ptE r b h (slp p b):=by
 have e:(r.1:Rat)*b.2-r.2*b.1=1:=by rw[<-Zbj,e];rfl
 unfold slp at *;unfold ptE;refine Prod.ext ?_ ?_
 ·simp only;grind
 ·simp only;grind
def co(r o:Pt):Rat:=(X r o:Rat)
def as'(b o:Pt)(h g:Rat):Rat:=(X o b:Rat)*h-g
theorem Zi1(e:X r b=1):(-g<=slp (ptE r b h t) o)↔as' b o h g<=co r o*t:=by
 rw[ZeQ (o:=o) e,Znh e,Zqh e];unfold as' co
 constructor<;>intro z<;>grind
theorem Zi2(e:X r b=1):(slp (ptE r b h t) o= -g)↔as' b o h g=co r o*t:=by
 rw[ZeQ (o:=o) e,Znh e,Zqh e];unfold as' co
 constructor<;>intro z<;>grind
theorem Zab{c:Rat}(hc:0<c):c*a<=c*b↔a<=b:=⟨fun h=>Rat.le_of_mul_le_mul_left h hc,fun h=>Rat.mul_le_mul_of_nonneg_left h (by grind)⟩
theorem Zgj{c:Rat}(hc:0<c)(h:a<=c*t)(h2:t<=u):a<=c*u:=Rat.le_trans h ((Zab hc).mpr h2)
theorem ZcO{c:Rat}(hc:c<0)(h:a<=c*t)(h2:u<=t):a<=c*u:=by
 refine Rat.le_trans h ?_
 have:(-c)*u<=(-c)*t:=(Zab (by grind)).mpr h2
 grind
def LoI(rs:List Pt)(hs:List Rat)(i n:Nat)(t:Rat):Prop:=(∃j<n,0<co (cy rs i) (cy rs j)/\as' (cy rs (i+1)) (cy rs j) (cq hs i) (cq hs j)=co (cy rs i) (cy rs j)*t)/\∀j<n,0<co (cy rs i) (cy rs j)->as' (cy rs (i+1)) (cy rs j) (cq hs i) (cq hs j)<=co (cy rs i) (cy rs j)*t
def HiI(rs:List Pt)(hs:List Rat)(i n:Nat)(t:Rat):Prop:=(∃j<n,co (cy rs i) (cy rs j)<0/\as' (cy rs (i+1)) (cy rs j) (cq hs i) (cq hs j)=co (cy rs i) (cy rs j)*t)/\∀j<n,co (cy rs i) (cy rs j)<0->as' (cy rs (i+1)) (cy rs j) (cq hs i) (cq hs j)<=co (cy rs i) (cy rs j)*t
def ZeI(rs:List Pt)(hs:List Rat)(i n:Nat):Prop:=∀j<n,co (cy rs i) (cy rs j)=0->as' (cy rs (i+1)) (cy rs j) (cq hs i) (cq hs j)<=0
def Zi3(rs:List Pt)(hs:List Rat)(i:Nat)(ps:List RP):Prop:=(∀p∈ps,Cor rs hs p)/\∀p j,Win rs hs p->On rs hs p i->On rs hs p j->X (cy rs i) (cy rs j)≠0->p∈ps
section
variable {rs:List Pt}{hs:List Rat}{i n:Nat}{u:Rat}
theorem LoI.new(ha:as' (cy rs (i+1)) (cy rs n) (cq hs i) (cq hs n)=co (cy rs i) (cy rs n)*u)(hc:0<co (cy rs i) (cy rs n))(h:∀j<n,0<co (cy rs i) (cy rs j)->as' (cy rs (i+1)) (cy rs j) (cq hs i) (cq hs j)<=co (cy rs i) (cy rs j)*u):LoI rs hs i (n+1) u:=by
 refine⟨⟨n,by lia,hc,ha⟩,fun j hj c=>?_⟩
 by_cases e:j=n
 ·subst e;rw[ha];exact Rat.le_refl
 ·exact h j (by lia) c
theorem LoI.keep(h:LoI rs hs i n t)(h2:0<co (cy rs i) (cy rs n)->as' (cy rs (i+1)) (cy rs n) (cq hs i) (cq hs n)<=co (cy rs i) (cy rs n)*t):LoI rs hs i (n+1) t:=by
 obtain⟨⟨j,hj,c⟩,h1⟩:=h;refine⟨⟨j,by lia,c⟩,fun j hj c=>?_⟩
 by_cases e:j=n
 ·subst e;exact h2 c
 ·exact h1 j (by lia) c
theorem HiI.new(ha:as' (cy rs (i+1)) (cy rs n) (cq hs i) (cq hs n)=co (cy rs i) (cy rs n)*u)(hc:co (cy rs i) (cy rs n)<0)(h:∀j<n,co (cy rs i) (cy rs j)<0->as' (cy rs (i+1)) (cy rs j) (cq hs i) (cq hs j)<=co (cy rs i) (cy rs j)*u):HiI rs hs i (n+1) u:=by
 refine⟨⟨n,by lia,hc,ha⟩,fun j hj c=>?_⟩
 by_cases e:j=n
 ·subst e;rw[ha];exact Rat.le_refl
 ·exact h j (by lia) c
theorem HiI.keep(h:HiI rs hs i n t)(h2:co (cy rs i) (cy rs n)<0->as' (cy rs (i+1)) (cy rs n) (cq hs i) (cq hs n)<=co (cy rs i) (cy rs n)*t):HiI rs hs i (n+1) t:=by
 obtain⟨⟨j,hj,c⟩,h1⟩:=h;refine⟨⟨j,by lia,c⟩,fun j hj c=>?_⟩
 by_cases e:j=n
 ·subst e;exact h2 c
 ·exact h1 j (by lia) c
theorem ZeI.keep(h:ZeI rs hs i n)(h2:co (cy rs i) (cy rs n)=0->as' (cy rs (i+1)) (cy rs n) (cq hs i) (cq hs n)<=0):ZeI rs hs i (n+1):=fun j hj c=>by
 by_cases e:j=n
 ·subst e;exact h2 c
 ·exact h j (by lia) c
theorem Zni:co r o≠0↔X r o≠0:=by
 unfold co;constructor
 ·intro h z;rw[z]at h;exact h rfl
 ·intro h z;exact h (by have:((X r o:Int):Rat)=((0:Int):Rat):=z;exact Rat.intCast_inj.mp this)
theorem Zfv(hs':Smo rs):Win rs hs (ptE (cy rs i) (cy rs (i+1)) (cq hs i) t)↔∀j<rs.length,as' (cy rs (i+1)) (cy rs j) (cq hs i) (cq hs j)<=co (cy rs i) (cy rs j)*t:=by
 unfold Win;constructor
 ·intro h j hj;exact(Zi1 (hs'.one i)).mp (h j hj)
 ·intro h j hj;exact(Zi1 (hs'.one i)).mpr (h j hj)
theorem Zqi(hs':Smo rs)(lo:LoI rs hs i rs.length t)(hi:HiI rs hs i rs.length u)(ze:ZeI rs hs i rs.length)(h1:t<=v)(h2:v<=u):Win rs hs (ptE (cy rs i) (cy rs (i+1)) (cq hs i) v):=by
 refine(Zfv hs').mpr fun j hj=>?_;by_cases c:0<co (cy rs i) (cy rs j)
 ·exact Zgj c (lo.2 j hj c) h1
 ·by_cases c2:co (cy rs i) (cy rs j)<0
  ·exact ZcO c2 (hi.2 j hj c2) h2
  ·have e:co (cy rs i) (cy rs j)=0:=by grind
   have:=ze j hj e
   rw[e];grind
theorem Zqj(hs':Smo rs)(lo:LoI rs hs i rs.length t)(hi:HiI rs hs i rs.length u)(h:Win rs hs (ptE (cy rs i) (cy rs (i+1)) (cq hs i) v)):t<=v/\v<=u:=by
 have h:=(Zfv hs').mp h;obtain⟨⟨j,hj,c,e⟩,_⟩:=lo;obtain⟨⟨k,hk,d,f⟩,_⟩:=hi;have h1:=h j hj;have h2:=h k hk;rw[e]at h1;rw[f]at h2;refine⟨(Zab c).mp h1,?_⟩
 have:(-co (cy rs i) (cy rs k))*v<=(-co (cy rs i) (cy rs k))*u:=by grind
 exact(Zab (by grind)).mp this
theorem ZkF(hs':Smo rs)(hi':i<rs.length)(lo:LoI rs hs i rs.length t)(hi:HiI rs hs i rs.length u)(ze:ZeI rs hs i rs.length)(h:t<=u):Zi3 rs hs i [ptE (cy rs i) (cy rs (i+1)) (cq hs i) t,ptE (cy rs i) (cy rs (i+1)) (cq hs i) u]:=by
 have on (v:Rat):On rs hs (ptE (cy rs i) (cy rs (i+1)) (cq hs i) v) i:=⟨hi',Znh (hs'.one i)⟩;refine⟨fun p hp=>?_,fun p j w oi oj ne=>?_⟩
 ·obtain⟨⟨j,hj,c,e⟩,_⟩:=id lo;obtain⟨⟨k,hk,d,f⟩,_⟩:=id hi;rcases List.mem_cons.mp hp with rfl|hp
  ·exact⟨Zqi hs' lo hi ze Rat.le_refl h,i,j,on _,⟨hj,(Zi2 (hs'.one i)).mpr e⟩,Zni.mp (by grind)⟩
  ·rcases List.mem_cons.mp hp with rfl|hp
   ·exact⟨Zqi hs' lo hi ze h Rat.le_refl,i,k,on _,⟨hk,(Zi2 (hs'.one i)).mpr f⟩,Zni.mp (by grind)⟩
   ·cases hp
 ·have ep:=Zlr (hs'.one i) oi.2;generalize slp p (cy rs (i+1))=v at ep;subst ep;obtain⟨b1,b2⟩:=Zqj hs' lo hi w;have ea:=(Zi2 (hs'.one i)).mp oj.2;have nz:=Zni.mpr ne;by_cases c:0<co (cy rs i) (cy rs j)
  ·have:=lo.2 j oj.1 c
   rw[ea]at this
   have:=(Zab c).mp this
   have:v=t:=by grind
   rw[this];simp
  ·have c2:co (cy rs i) (cy rs j)<0:=by grind
   have:=hi.2 j oj.1 c2
   rw[ea]at this
   have:(-co (cy rs i) (cy rs j))*u<=(-co (cy rs i) (cy rs j))*v:=by grind
   have:=(Zab (by grind)).mp this
   have:v=u:=by grind
   rw[this];simp
theorem Zi4(hs':Smo rs)(h:∀v,¬Win rs hs (ptE (cy rs i) (cy rs (i+1)) (cq hs i) v)):Zi3 rs hs i []:=by
 refine⟨fun p hp=>(by cases hp),fun p j w oi oj ne=>?_⟩
 have ep:=Zlr (hs'.one i) oi.2;rw[ep]at w;exact absurd w (h _)
theorem Znj(hs':Smo rs)(hj:j<rs.length)(c:co (cy rs i) (cy rs j)=0)(h:0<as' (cy rs (i+1)) (cy rs j) (cq hs i) (cq hs j)):Zi3 rs hs i []:=Zi4 hs' fun v w=>by
 have:=(Zfv hs').mp w j hj
 rw[c]at this;grind
theorem Znk(hs':Smo rs)(lo:LoI rs hs i rs.length t)(hi:HiI rs hs i rs.length u)(h:u<t):Zi3 rs hs i []:=Zi4 hs' fun v w=>by
 obtain⟨b1,b2⟩:=Zqj hs' lo hi w;grind
end
end Rb
namespace BD
open L2 DL
open CC (F_crossed F_following F_ask_smooth)
open CR (F_greatest_divisor F_ratio)
open CD (F_less)
open CS (F_slope_through F_ask_height)
def Z5:Sv:=(ZJ (gNm 1) (e2 dMul (Zg 1) (e2 dDiv (e2 dIx (Zg 2) (eC (.int 1))) (Zj F_greatest_divisor (Zc (Zg 1) (Zc (e2 dIx (Zg 2) (eC (.int 1))) aNil))))))
def Zaw:Sv:=(ZE (ZJ (gNm 1) (eC (.int 1))) (ZE (Zjr (gNm 2) (Zg 0) Z5) (Z6 (Zg 1))))
def F_common_bottom:W3:=fnF Zaw 1 2
def Zbw:Sv:=(Z6 (e2 dMul (e2 dIx (Zg 0) (eC (.int 0))) (e2 dDiv (Zg 1) (e2 dIx (Zg 0) (eC (.int 1))))))
def F_stretched:W3:=fnF Zbw 2 0
def ZcP:Sv:=(ZE (ZJ (gNm 10) (Zj F_crossed (Zc (Zg 3) (Zc (Zg 8) aNil)))) (ZE (ZJ (gNm 11) (e2 dSub (e2 dMul (e2 dMul (Zj F_crossed (Zc (Zg 8) (Zc (Zg 4) aNil))) (e2 dIx (Zg 5) (eC (.int 0)))) (e2 dIx (Zg 9) (eC (.int 1)))) (e2 dMul (e2 dIx (Zg 9) (eC (.int 0))) (e2 dIx (Zg 5) (eC (.int 1)))))) (ZE (ZJ (gNm 12) (e2 dMul (e2 dMul (Zg 10) (e2 dIx (Zg 5) (eC (.int 1)))) (e2 dIx (Zg 9) (eC (.int 1))))) (ZE (sIf (Zct (tv (e2 dEq (Zg 10) (eC (.int 0)))) (tv (e2 dGt (Zg 11) (eC (.int 0))))) (Z6 (Zcw aNil)) sNil) (ZE (sIf (Zct (tv (e2 dGt (Zg 10) (eC (.int 0)))) (ZgT (tv (e2 dIs (Zg 6) (eC .non))) (tv (Zj F_less (Zc (Zg 6) (Zc (Zak (Zc (Zg 11) (Zc (Zg 12) aNil))) aNil)))))) (ZJ (gNm 6) (Zak (Zc (Zg 11) (Zc (Zg 12) aNil)))) sNil) (sIf (Zct (tv (e2 dLt (Zg 10) (eC (.int 0)))) (ZgT (tv (e2 dIs (Zg 7) (eC .non))) (tv (Zj F_less (Zc (Zak (Zc (Ze2 (Zg 11)) (Zc (Ze2 (Zg 12)) aNil))) (Zc (Zg 7) aNil)))))) (ZJ (gNm 7) (Zak (Zc (Ze2 (Zg 11)) (Zc (Ze2 (Zg 12)) aNil)))) sNil))))))
def Zi5:Sv:=(ZE (ZJ (gTp (gCs (gNm 3) (gCs (gNm 4) gNl))) (Zak (Zc (e2 dIx (Zg 0) (Zg 2)) (Zc (Zj F_following (Zc (Zg 0) (Zc (Zg 2) aNil))) aNil)))) (ZE (ZJ (gNm 5) (e2 dIx (Zg 1) (Zg 2))) (ZE (ZJ (ZqO (gNm 6) (gNm 7)) (eC .non)) (ZE (Ze7 (gTp (gCs (gNm 8) (gCs (gNm 9) gNl))) (iZp (Zc (Zg 0) (Zc (Zg 1) aNil))) ZcP) (ZE (sIf (tv (Zj F_less (Zc (Zg 7) (Zc (Zg 6) aNil)))) (Z6 (Zcw aNil)) sNil) (Z6 (Zal (iSq (Zak (Zc (Zg 6) (Zc (Zg 7) aNil)))) 1 [3,4,5] (gNm 0) (fun _ M=>.ok true M) (Zj F_slope_through (Zc (Zcw (Zc (Zg 1) (Zc (Zg 2) aNil))) (Zc (Zcw (Zc (Zak (Zc (Ze2 (e2 dIx (Zg 3) (eC (.int 0)))) (Zc (e2 dIx (Zg 3) (eC (.int 1))) aNil))) (Zc (Zj F_ratio (Zc (e2 dIx (Zg 0) (eC (.int 0))) (Zc (e2 dIx (Zg 0) (eC (.int 1))) aNil))) aNil))) aNil))))))))))
def F_edge:W3:=fnF Zi5 3 10
def ZbW:Sv:=(ZE (ZJ (gNm 1) (Zj F_common_bottom (Zc (Zb2 (iSq (Zg 0)) 2 [] (gNm 0) (fun _ M=>.ok true M) fun n=>(gIn (iSq (Zg 0)) (gNm 1) (fun _ M=>.ok true M) (gEm (Zg 1) n))) aNil))) (Z6 (Ziz (Zc (Zg 0) aNil) [1] (Zak (Zc (Zj F_stretched (Zc (e2 dIx (Zg 0) (eC (.int 0))) (Zc (Zg 1) aNil))) (Zc (Zj F_stretched (Zc (e2 dIx (Zg 0) (eC (.int 1))) (Zc (Zg 1) aNil))) aNil))))))
def F_in_order:W3:=fnF ZbW 1 1
def ZcQ:Sv:=(Zki (Zg 2) (Zg 4) (eC (.bl true)))
def ZcR:Sv:=(Zjr (gNm 4) (Zj F_edge (Zc (Zg 0) (Zc (Zg 1) (Zc (Zg 3) aNil)))) ZcQ)
def Zi6:Sv:=(ZE (ZbC (Zj F_ask_smooth (Zc (Zg 0) aNil))) (ZE (ZbC (Zj F_ask_height (Zc (Zg 0) (Zc (Zg 1) aNil)))) (ZE (ZJ (gNm 2) eDnU) (ZE (Za1 (gNm 3) (Zc (Zj bLen (Zc (Zg 0) aNil)) aNil) ZcR) (Z6 (Zj F_in_order (Zc (Zj bLisU (Zc (Zg 2) aNil)) aNil)))))))
def F_body:W3:=fnF Zi6 2 3
end BD
namespace BD
open L2 DL
open CV CN CU CS
open CR (rt Sz)
open CH (rts ZD ZU)
open CD (pts ZQ Za9)
open Rb
theorem Zb7(x:Rat):(x.num:Rat)=x*(x.den:Rat):=by
 have h:=Zgf (x.den:Int) x;have h2:=Rat.normalize_mul_left (d:=1) (n:=x.num) (a:=x.den) (by decide) x.den_nz
 have h3:Rat.normalize x.num 1 (by decide)=(x.num:Rat):=by
  have:=Zb5 x.num
  have e:=Rat.normalize_self (x.num:Rat);exact e
 have h4:Rat.normalize ((x.den:Int)*x.num) x.den x.den_nz=Rat.normalize ((x.den:Int)*x.num) (x.den*1) (by have:=x.den_nz;lia):=by congr 1;lia
 rw[h4,h2,h3]at h;rw[h,Rat.mul_comm,Rat.intCast_natCast]
theorem ZdK{a:Int}{b:Nat}(hb:b≠0)(h:(a:Rat)=t*(b:Rat)):Rat.normalize a b hb=t:=by
 obtain⟨d,d0,e1,e2⟩:=Rat.normalize_num_den' a b hb;generalize Rat.normalize a b hb=x at *
 have:(a:Rat)=x*(b:Rat):=by
  rw[e1,Rat.intCast_mul,Zb7 x,e2,Rat.natCast_mul,Rat.intCast_natCast];grind
 have nz:(b:Rat)≠0:=fun z=>hb (Rat.natCast_eq_zero_iff.mp z);grind
def Tp(K:Nat)(t:Rat)(d:D):Prop:=∃a b:Int,d=pr a b/\0<b/\(a:Rat)=t*(b:Rat)/\a.natAbs<2^K/\b.natAbs<2^K
section
variable {rs:List Pt}
theorem Zfw(h:Tp K t d)(h':Tp K u d')(hK:K<=8000):wO (CD.F_less [d,d'] M) Q E=Q (.bl (decide (t<u))) M:=by
 obtain⟨a,b,rfl,b0,e,s1,s2⟩:=h;obtain⟨a',b',rfl,b0',e',s1',s2'⟩:=h';have f1:Zt a b':=Zr K K s1 s2' (by lia) (by lia)
 have f2:Zt a' b:=Zr K K s1' s2 (by lia) (by lia)
 simp![CD.F_less,CD.Zgi,ZI f1,ZI f2];have p:(0:Rat)<(b:Rat):=Rat.intCast_pos.mpr b0;have p':(0:Rat)<(b':Rat):=Rat.intCast_pos.mpr b0';have hlt:a*b'<a'*b↔t<u:=by
  rw[<-Rat.intCast_lt_intCast,Rat.intCast_mul,Rat.intCast_mul,e,e'];have e3:t*(b:Rat)*(b':Rat)=((b:Rat)*b')*t:=by grind
  have e4:u*(b':Rat)*(b:Rat)=((b:Rat)*b')*u:=by grind
  rw[e3,e4];exact Rat.mul_lt_mul_left (Rat.mul_pos p p')
 rw[show decide (a*b'<a'*b)=decide (t<u)from decide_eq_decide.mpr hlt]
theorem ZkG{a b:Int}(b0:0<b)(e:(a:Rat)=t*(b:Rat))(s2:b.natAbs<2^K)(hK:K<=8000):wO (CR.F_ratio [.int a,.int b] M) Q E=Q (rt t) M:=by
 obtain⟨c,rfl⟩:∃c:Nat,b=c:=⟨b.toNat,by lia⟩
 rw[CR.ZdG (k:=K) (show c≠0 by lia) (by simpa using s2) hK,ZdK (t:=t) (by lia) (by rw[e,Rat.intCast_natCast])]
theorem ZsR{a b:Int}(b0:0<b)(e:(a:Rat)=t*(b:Rat))(s1:a.natAbs<2^K)(s2:b.natAbs<2^K):Sz K t:=by
 obtain⟨c,rfl⟩:∃c:Nat,b=c:=⟨b.toNat,by lia⟩
 rw[<-ZdK (t:=t) (show c≠0 by lia) (by rw[e,Rat.intCast_natCast])]
 exact CR.ZcM _ s1 (by simpa using s2)
def LoD(rs:List Pt)(hs:List Rat)(i K n:Nat)(d:D):Prop:=(d=.non/\∀j<n,¬0<co (cy rs i) (cy rs j))\/∃t,Tp K t d/\LoI rs hs i n t
def HiD(rs:List Pt)(hs:List Rat)(i K n:Nat)(d:D):Prop:=(d=.non/\∀j<n,¬co (cy rs i) (cy rs j)<0)\/∃t,Tp K t d/\HiI rs hs i n t
theorem Zgk(h:LoD rs hs i K n d)(c:¬0<co (cy rs i) (cy rs n)):LoD rs hs i K (n+1) d:=by
 rcases h with⟨e,h⟩|⟨t,tp,h⟩
 ·refine .inl ⟨e,fun j hj=>?_⟩;by_cases e:j=n
  ·subst e;exact c
  ·exact h j (by lia)
 ·exact .inr ⟨t,tp,h.keep fun z=>absurd z c⟩
theorem Zgl(h:HiD rs hs i K n d)(c:¬co (cy rs i) (cy rs n)<0):HiD rs hs i K (n+1) d:=by
 rcases h with⟨e,h⟩|⟨t,tp,h⟩
 ·refine .inl ⟨e,fun j hj=>?_⟩;by_cases e:j=n
  ·subst e;exact c
  ·exact h j (by lia)
 ·exact .inr ⟨t,tp,h.keep fun z=>absurd z c⟩
theorem ZkH{r:Pt}:((X o b*x.num*(y.den:Int)-y.num*(x.den:Int):Int):Rat)=as' b o x y*((x.den:Rat)*(y.den:Rat)):=by
 rw[Rat.intCast_sub,Rat.intCast_mul,Rat.intCast_mul,Rat.intCast_mul,Zb7 x,Zb7 y,Rat.intCast_natCast,Rat.intCast_natCast];unfold as';generalize ((X o b:Int):Rat)=z;generalize (x.den:Rat)=a;generalize (y.den:Rat)=c;grind
theorem ZkI{x y:Rat}:((X r o*(x.den:Int)*(y.den:Int):Int):Rat)=co r o*((x.den:Rat)*(y.den:Rat)):=by
 rw[Rat.intCast_mul,Rat.intCast_mul,Rat.intCast_natCast,Rat.intCast_natCast];unfold co;generalize ((X r o:Int):Rat)=z;grind
theorem Zi7{x y:Rat}:(0:Rat)<(x.den:Rat)*(y.den:Rat):=Rat.mul_pos (Rat.natCast_pos.mpr (Nat.pos_of_ne_zero x.den_nz)) (Rat.natCast_pos.mpr (Nat.pos_of_ne_zero y.den_nz))
theorem ZcS{a:Rat}(h:c≠0):a=c*(a/c):=by
 have:=Rat.div_mul_cancel (a:=a) h
 grind
theorem ZsS{a bt:Int}(ea:(a:Rat)=as' b o x y*((x.den:Rat)*(y.den:Rat)))(eb:(bt:Rat)=co r o*((x.den:Rat)*(y.den:Rat)))(c:0<co r o)(s1:a.natAbs<2^K)(s2:bt.natAbs<2^K):Tp K (as' b o x y/co r o) (pr a bt):=by
 have hd:=Zi7 (x:=x) (y:=y);have h:=ZcS (a:=as' b o x y) (c:=co r o) (by grind)
 have hp:(0:Rat)<(bt:Rat):=by rw[eb];exact Rat.mul_pos c hd
 refine⟨a,bt,rfl,Rat.intCast_pos.mp hp,?_,s1,s2⟩;rw[ea,eb];generalize as' b o x y/co r o=u at *;grind
theorem ZsT{a bt:Int}(ea:(a:Rat)=as' b o x y*((x.den:Rat)*(y.den:Rat)))(eb:(bt:Rat)=co r o*((x.den:Rat)*(y.den:Rat)))(c:co r o<0)(s1:a.natAbs<2^K)(s2:bt.natAbs<2^K):Tp K (as' b o x y/co r o) (pr (-a) (-bt)):=by
 have hd:=Zi7 (x:=x) (y:=y);have h:=ZcS (a:=as' b o x y) (c:=co r o) (by grind)
 have hp:(0:Rat)<((-bt:Int):Rat):=by
  rw[Rat.intCast_neg,eb]
  have:=Rat.mul_pos (a:= -co r o) (by grind) hd
  grind
 refine⟨-a,-bt,rfl,Rat.intCast_pos.mp hp,?_,by lia,by lia⟩
 rw[Rat.intCast_neg,Rat.intCast_neg,ea,eb];generalize as' b o x y/co r o=u at *;grind
theorem ZqS(hu:(-200<=u.1/\u.1<=200)/\ -200<=u.2/\u.2<=200)(hv:(-200<=v.1/\v.1<=200)/\ -200<=v.2/\v.2<=200):(X u v).natAbs<2^17:=by
 unfold X;have h1:=Int.natAbs_mul u.1 v.2;have h2:=Int.natAbs_mul u.2 v.1;have b1:u.1.natAbs*v.2.natAbs<=200*200:=Nat.mul_le_mul (by lia) (by lia)
 have b2:u.2.natAbs*v.1.natAbs<=200*200:=Nat.mul_le_mul (by lia) (by lia)
 have:=Int.natAbs_sub_le (u.1*v.2) (u.2*v.1)
 lia
theorem Zi8(hu:(-B<=u.1/\u.1<=B)/\ -B<=u.2/\u.2<=B)(hv:(-B<=v.1/\v.1<=B)/\ -B<=v.2/\v.2<=B)(hB:B<=400:=by first|decide|assumption):(X u v).natAbs<2^19:=by
 unfold X;have h1:=Int.natAbs_mul u.1 v.2;have h2:=Int.natAbs_mul u.2 v.1;have b1:u.1.natAbs*v.2.natAbs<=400*400:=Nat.mul_le_mul (by lia) (by lia)
 have b2:u.2.natAbs*v.1.natAbs<=400*400:=Nat.mul_le_mul (by lia) (by lia)
 have:=Int.natAbs_sub_le (u.1*v.2) (u.2*v.1)
 lia
theorem Znl(hb:Nr B rs)(hn:rs≠[])(hz:∀x∈hs,Sz k x)(hh:hs.length≠0)(hB:B<=400:=by first|decide|assumption):Sz (2*k+19) (thr rs hs).1/\Sz (2*k+19) (thr rs hs).2:=by
 have a:=hb _ (ZX (i:=0) hn);have b:=hb _ (ZX (i:=1) hn);have z0:=Zbt (i:=0) hz hh;have z1:=Zbt (i:=1) hz hh;have e:k+9+(k+9)+1=2*k+19:=by lia
 exact⟨e▸Zge (CR.ZY z0 (ZN (k:=9) (by lia) (by decide))) (CR.ZY z1 (ZN (k:=9) (by lia) (by decide))),e▸Zge (CR.ZY z1 (ZN (k:=9) (by lia) (by decide))) (CR.ZY z0 (ZN (k:=9) (by lia) (by decide)))⟩
theorem ZnG(hu:(-B<=u.1/\u.1<=B)/\ -B<=u.2/\u.2<=B)(hB:B<=400:=by first|decide|assumption):wO (CC.F_crossed [pr u.1 u.2,pr v.1 v.2] M) Q E=Q (.int (X u v)) M:=CC.ZeM (by lia) (by lia)
theorem Zi9(h:rs≠[]):∃j:Nat,j<rs.length/\cy rs j=cy rs z:=by
 have l:0<rs.length:=List.length_pos_iff.mpr h;refine⟨(z%rs.length).toNat,?_,?_⟩
 ·have:=Int.emod_lt_of_pos z (show(0:Int)<rs.length by lia)
  lia
 ·have:=Int.emod_nonneg z (show(rs.length:Int)≠0 by lia)
  rw[Int.toNat_of_nonneg this,Zdc]
theorem ZsU(I:Ro->Prop)(F:Nat->D)(hl:xs.length<10000000)(h0:I (roB k fr ρ))(st:∀(i:Nat)(h:i<xs.length)(ρ:Ro)(M':Sto),Kp M M'->I ρ->wG (tg xs[i] ρ) fun r=>I r/\wO (f r M') (fun y M2=>y=F i/\Kp M' M2) (fun _ _=>False))(hq:∀M',Kp M M'->M'[M.length]?=some (.lst ((List.range xs.length).map F))->Q (.ref M.length) M'):kCo tg (fun _ M=>.ok true M) f k fr ρ Q (.pur xs) M:=by
 refine ZiK (xs:=xs) (Q:=fun M2=>Q (.ref M.length) M2) (fun i ρ M'=>I ρ/\Kp M M'/\M'[M.length]?=some (.lst ((List.range i).map F))) _ 0 _ _ (by simp) (by simp[cnt]) ⟨h0,Kp.app,by simp⟩ (fun i ρ M' hi hI=>rfl) ?_ (fun ρ M' hI=>hq M' hI.2.1 hI.2.2)
 rintro i ρ M' hi ⟨hI,K,r⟩;have s:=st i hi ρ M' K hI;cases e:tg xs[i] ρ with
 |none=>rw[e]at s;exact s.elim
 |some r'=>
  rw[e]at s;obtain⟨hr,s⟩:=s;show Br true _ _;rw[Zo9];refine ZbN s (fun y M2 ⟨h1,h2⟩=>?_) (fun _ _ z=>z);subst h1;rw[h2.get r];have hl2:=Zv (h2.get r);refine⟨by simp;lia,hr,(K.trans h2).set (Nat.le_refl _),?_⟩
  rw[List.getElem?_set_self hl2,List.range_succ,List.map_append];rfl
theorem Zja:thr [r,b] [-x,t]=ptE r b x t:=by
 unfold thr ptE;rfl
def EdI(rs:List Pt)(hs:List Rat)(n m i K:Nat)(j:Nat)(ρ:Ro):Prop:=∃lo hi x8 x9 x10 x11 x12,ρ=[some (.ref n),some (.ref m),some (.int i),some (pr (cy rs i).1 (cy rs i).2),some (pr (cy rs (i+1)).1 (cy rs (i+1)).2),some (rt (cq hs i)),some lo,some hi,x8,x9,x10,x11,x12]/\LoD rs hs i K j lo/\HiD rs hs i K j hi/\ZeI rs hs i j
theorem Zqk(h:M[n]?=some (.lst (prs rs)))(hs':Smo rs)(hb:Nr B rs)(hl:rs.length<=1000)(h':M[m]?=some (.lst (rts hs)))(e:hs.length=rs.length)(hz:∀x∈hs,Sz k x)(hk:k<=900)(hi:i<rs.length)(q:∀ps o M',Zi3 rs hs i ps->ps.length<=2->(∀p∈ps,Sz (4*k+61) p.1/\Sz (4*k+61) p.2)->Kp M M'->M.length<=o->M'[o]?=some (.lst (pts ps))->Q (.ref o) M')(hB:B<=400:=by first|decide|assumption):wO (F_edge [.ref n,.ref m,.int i] M) Q E:=by
 have hn:=Zv h;have hm:=Zv h';have hne:=hs'.ne;have zi:=Zbt (i:=i) hz (by lia)
 have br:=hb _ (ZX (i:=i) hne);have bb:=hb _ (ZX (i:=i+1) hne);simp![Zsc,ZpF,ZuX,ZpJ,Zsi,ZuY,ZpN,ZpQ,Zsq,Zu6,Zu9,kAt,kZp,wF3,ZuH,Zr6,Zr7,F_edge,Zi5,h,h',ZbG,Zb6,CC.ZcI h (show 0<=(i:Int)/\(i:Int)<rs.length by lia),ZpZ,ZtV]
 refine ZpC (xs:=prs rs) (ys:=rts hs) (fun j ρ M'=>M'=M/\EdI rs hs n m i (2*k+21) j ρ) h (by rw[ZP,ZD];lia) ⟨rfl,_,_,_,_,_,_,_,rfl,.inl ⟨rfl,fun j hj=>by lia⟩,.inl ⟨rfl,fun j hj=>by lia⟩,fun j hj=>by lia⟩ (fun j ρ M' hI=>hI.1▸⟨h,h'⟩) ?_ ?_
 ·rintro j ρ _ hj ⟨rfl,lo,hg,x8,x9,x10,x11,x12,rfl,hlo,hhi,hze⟩;rw[ZP]at hj;rw[CC.ZcJ,Zbu];have zj:=Zbt (i:=j) hz (by lia)
  have bj:=hb _ (ZX (i:=j) hne);generalize hx:cq hs i=x at *;generalize hy:cq hs j=y at *;generalize hr:cy rs i=r at *;generalize hbb:cy rs (i+1)=b at *;generalize ho:cy rs j=o at *;have sX:=Zi8 br bj;have sY:=Zi8 bj bb;have dx:((x.den:Int)).natAbs<2^k:=by simpa using zi.2
  have dy:((y.den:Int)).natAbs<2^k:=by simpa using zj.2
  have g1:(X o b*x.num).natAbs<2^(19+k):=by rw[Int.natAbs_mul];exact CR.Z4 sY zi.1
  have g2:(X r o*(x.den:Int)).natAbs<2^(19+k):=by rw[Int.natAbs_mul];exact CR.Z4 sX dx
  have f1:Zt (X o b) x.num:=Zr 19 k sY zi.1 (by lia) (by lia)
  have f2:Zt (X o b*x.num) (y.den:Int):=Zr (19+k) k g1 dy (by lia) (by lia)
  have f3:Zt y.num (x.den:Int):=Zr k k zj.1 dx (by lia) (by lia)
  have f4:Zt (X r o) (x.den:Int):=Zr 19 k sX dx (by lia) (by lia)
  have f5:Zt (X r o*(x.den:Int)) (y.den:Int):=Zr (19+k) k g2 dy (by lia) (by lia)
  have ea:=ZkH (r:=r) (b:=b) (o:=o) (x:=x) (y:=y);have eb:=ZkI (r:=r) (o:=o) (x:=x) (y:=y);have sa:(X o b*x.num*(y.den:Int)-y.num*(x.den:Int)).natAbs<2^(2*k+21):=by
   have a1:(X o b*x.num*(y.den:Int)).natAbs<2^(19+k+k):=by rw[Int.natAbs_mul];exact CR.Z4 g1 dy
   have a2:(y.num*(x.den:Int)).natAbs<2^(k+k):=by rw[Int.natAbs_mul];exact CR.Z4 zj.1 dx
   have a3:2^(k+k)<=2^(19+k+k):=Nat.pow_le_pow_right (by decide) (by lia)
   have a4:2^(2*k+21)=4*2^(19+k+k):=by rw[show 2*k+21=(19+k+k)+2 by lia,Nat.pow_add];lia
   have:=Int.natAbs_sub_le (X o b*x.num*(y.den:Int)) (y.num*(x.den:Int))
   lia
  have sb:(X r o*(x.den:Int)*(y.den:Int)).natAbs<2^(2*k+21):=by
   rw[Int.natAbs_mul];exact Nat.lt_of_lt_of_le (CR.Z4 g2 dy) (Nat.pow_le_pow_right (by decide) (by lia))
  simp![Zsc,ZpF,ZuX,ZpJ,Zsi,ZuY,ZpN,ZpQ,Zsq,Zu6,Zu9,kAt,kZp,wF3,ZuH,Zr6,Zr7,ZcP,ZnG br,ZnG bj,ZI f1,ZI f2,ZI f3,ZI f4,ZI f5];have ci:(X r o=0↔co r o=0)/\(0<X r o↔0<co r o)/\(X r o<0↔co r o<0):=⟨Rat.intCast_eq_zero_iff.symm,Rat.intCast_pos.symm,Rat.intCast_neg_iff.symm⟩;generalize X o b*x.num*(y.den:Int)-y.num*(x.den:Int)=ak at *;generalize X r o*(x.den:Int)*(y.den:Int)=bt at *;generalize X r o=c at *;have ec:co (cy rs i) (cy rs j)=co r o:=by rw[hr,ho]
  have eas:as' (cy rs (i+1)) (cy rs j) (cq hs i) (cq hs j)=as' b o x y:=by rw[hbb,ho,hx,hy]
  have hd:=Zi7 (x:=x) (y:=y);have mk:∀{lo hi:D}{x8 x9 x10 x11 x12:Option D},LoD rs hs i (2*k+21) (j+1) lo->HiD rs hs i (2*k+21) (j+1) hi->ZeI rs hs i (j+1)->EdI rs hs n m i (2*k+21) (j+1) [some (.ref n),some (.ref m),some (.int i),some (pr r.1 r.2),some (pr b.1 b.2),some (rt x),some lo,some hi,x8,x9,x10,x11,x12]:=fun a b' c'=>by
   rw[<-hr,<-hbb,<-hx];exact⟨_,_,_,_,_,_,_,rfl,a,b',c'⟩
  rcases(show c=0\/0<c\/c<0 by lia)with c0|c0|c0
  ·have cz:=ci.1.mp c0;simp![Zsc,ZpF,ZuX,ZpJ,Zsi,ZuY,ZpN,ZpQ,Zsq,Zu6,Zu9,kAt,kZp,wF3,ZuH,Zr6,Zr7,Zn];refine brS (fun hp=>?_) (fun hp=>?_)
   ·simp![Zsc,ZpF,ZuX,ZpJ,Zsi,ZuY,ZpN,ZpQ,Zsq,Zu6,Zu9,kAt,kZp,wF3,ZuH,Zr6,Zr7,Zn];have hp':(0:Rat)<(ak:Rat):=Rat.intCast_pos.mpr hp;rw[ea]at hp';refine q [] _ _ (Znj hs' hj (ec▸cz) ?_) (by simp) (fun p hp=>by cases hp) Kp.app (Nat.le_refl _) (by simp[pts])
    rw[eas]
    have:as' b o x y*0<as' b o x y*((x.den:Rat)*(y.den:Rat)):=by grind
    by_cases z:0<as' b o x y
    ·exact z
    ·have:=Rat.mul_le_mul_of_nonneg_right (c:=(x.den:Rat)*(y.den:Rat)) (show as' b o x y<=0 by grind) (by grind)
     grind
   ·simp![Zsc,ZpF,ZuX,ZpJ,Zsi,ZuY,ZpN,ZpQ,Zsq,Zu6,Zu9,kAt,kZp,wF3,ZuH,Zr6,Zr7,Zn];refine mk (Zgk hlo (by rw[ec];grind)) (Zgl hhi (by rw[ec];grind)) (hze.keep fun _=>?_)
    rw[eas];have hp':(ak:Rat)<=0:=Rat.intCast_nonpos.mpr (by lia)
    rw[ea]at hp';by_cases z:0<as' b o x y
    ·have:=Rat.mul_pos z hd
     grind
    ·grind
  ·have cz:=ci.2.1.mp c0;have tu:=ZsS (K:=2*k+21) ea eb cz sa sb;have eu:=ZcS (a:=as' b o x y) (c:=co r o) (by grind)
   generalize as' b o x y/co r o=u at *;have hz':ZeI rs hs i (j+1):=hze.keep fun z=>by rw[ec]at z;grind
   have hh':=Zgl hhi (show ¬co (cy rs i) (cy rs j)<0 by rw[ec];grind)
   rcases hlo with⟨rfl,hlo⟩|⟨t,tp,hlo⟩
   ·simp![Zsc,ZpF,ZuX,ZpJ,Zsi,ZuY,ZpN,ZpQ,Zsq,Zu6,Zu9,kAt,kZp,wF3,ZuH,Zr6,Zr7,Zn];exact mk (.inr ⟨u,tu,.new (by rw[eas,ec,eu]) (by rw[ec];exact cz) fun j' hj' z=>absurd z (hlo j' hj')⟩) hh' hz'
   ·have tp':=tp;obtain⟨a',b',rfl,_⟩:=tp';simp![Zsc,ZpF,ZuX,ZpJ,Zsi,ZuY,ZpN,ZpQ,Zsq,Zu6,Zu9,kAt,kZp,wF3,ZuH,Zr6,Zr7,Zfw tp tu (by lia)]
    refine brS (fun hlt=>?_) (fun hlt=>?_)
    ·simp![Zsc,ZpF,ZuX,ZpJ,Zsi,ZuY,ZpN,ZpQ,Zsq,Zu6,Zu9,kAt,kZp,wF3,ZuH,Zr6,Zr7,Zn];exact mk (.inr ⟨u,tu,.new (by rw[eas,ec,eu]) (by rw[ec];exact cz) fun j' hj' z=>Zgj z (hlo.2 j' hj' z) (by grind)⟩) hh' hz'
    ·simp![Zsc,ZpF,ZuX,ZpJ,Zsi,ZuY,ZpN,ZpQ,Zsq,Zu6,Zu9,kAt,kZp,wF3,ZuH,Zr6,Zr7,Zn];exact mk (.inr ⟨t,tp,hlo.keep fun z=>by rw[eas,ec,eu];exact(Zab cz).mpr (by grind)⟩) hh' hz'
  ·have cz:=ci.2.2.mp c0;have tu:=ZsT (K:=2*k+21) ea eb cz sa sb;have eu:=ZcS (a:=as' b o x y) (c:=co r o) (by grind)
   generalize as' b o x y/co r o=u at *;have hz':ZeI rs hs i (j+1):=hze.keep fun z=>by rw[ec]at z;grind
   have hh':=Zgk hlo (show ¬0<co (cy rs i) (cy rs j)by rw[ec];grind)
   rcases hhi with⟨rfl,hhi⟩|⟨t,tp,hhi⟩
   ·simp![Zsc,ZpF,ZuX,ZpJ,Zsi,ZuY,ZpN,ZpQ,Zsq,Zu6,Zu9,kAt,kZp,wF3,ZuH,Zr6,Zr7,Zn];exact mk hh' (.inr ⟨u,tu,.new (by rw[eas,ec,eu]) (by rw[ec];exact cz) fun j' hj' z=>absurd z (hhi j' hj')⟩) hz'
   ·have tp':=tp;obtain⟨a',b',rfl,_⟩:=tp';simp![Zsc,ZpF,ZuX,ZpJ,Zsi,ZuY,ZpN,ZpQ,Zsq,Zu6,Zu9,kAt,kZp,wF3,ZuH,Zr6,Zr7,Zfw tu tp (by lia)]
    refine brS (fun hlt=>?_) (fun hlt=>?_)
    ·simp![Zsc,ZpF,ZuX,ZpJ,Zsi,ZuY,ZpN,ZpQ,Zsq,Zu6,Zu9,kAt,kZp,wF3,ZuH,Zr6,Zr7,Zn];exact mk hh' (.inr ⟨u,tu,.new (by rw[eas,ec,eu]) (by rw[ec];exact cz) fun j' hj' z=>ZcO z (hhi.2 j' hj' z) (by grind)⟩) hz'
    ·simp![Zsc,ZpF,ZuX,ZpJ,Zsi,ZuY,ZpN,ZpQ,Zsq,Zu6,Zu9,kAt,kZp,wF3,ZuH,Zr6,Zr7,Zn];exact mk hh' (.inr ⟨t,tp,hhi.keep fun z=>by rw[eas,ec,eu];exact ZcO cz Rat.le_refl (by grind)⟩) hz'
 ·rintro ρ _ ⟨rfl,lo,hg,x8,x9,x10,x11,x12,rfl,hlo,hhi,hze⟩;rw[ZP]at hlo hhi hze;have one:=hs'.one i;have lt':∃t,Tp (2*k+21) t lo/\LoI rs hs i rs.length t:=by
   rcases hlo with⟨_,hlo⟩|hlo
   ·obtain⟨j,hj,ej⟩:=Zi9 (rs:=rs) (z:=i+1) hne;refine absurd ?_ (hlo j hj);unfold co;rw[ej,one]
    decide +kernel
   ·exact hlo
  have ht':∃t,Tp (2*k+21) t hg/\HiI rs hs i rs.length t:=by
   rcases hhi with⟨_,hhi⟩|hhi
   ·obtain⟨j,hj,ej⟩:=Zi9 (rs:=rs) (z:=i-1) hne;refine absurd ?_ (hhi j hj);have o2:=hs'.one (i-1);rw[show(i:Int)-1+1=i by lia]at o2
    unfold co;rw[ej,show X (cy rs i) (cy rs (i-1))= -1 by unfold X at *;grind]
    decide +kernel
   ·exact hhi
  obtain⟨t,tl,hlo⟩:=lt';obtain⟨u,th,hhi⟩:=ht';simp![Zsc,ZpF,ZuX,ZpJ,Zsi,ZuY,ZpN,ZpQ,Zsq,Zu6,Zu9,kAt,kZp,wF3,ZuH,Zr6,Zr7,Zfw th tl (by lia)]
  refine brS (fun hlt=>?_) (fun hlt=>?_)
  ·simp![Zsc,ZpF,ZuX,ZpJ,Zsi,ZuY,ZpN,ZpQ,Zsq,Zu6,Zu9,kAt,kZp,wF3,ZuH,Zr6,Zr7,Zn];exact q [] _ _ (Znk hs' hlo hhi hlt) (by simp) (fun p hp=>by cases hp) Kp.app (Nat.le_refl _) (by simp[pts])
  ·simp![Zsc,ZpF,ZuX,ZpJ,Zsi,ZuY,ZpN,ZpQ,Zsq,Zu6,Zu9,kAt,kZp,wF3,ZuH,Zr6,Zr7,Zn];have ed:=ZkF hs' hi hlo hhi hze (by grind)
   have st:∀v,Sz (2*k+21) v->Sz (4*k+61) (ptE (cy rs i) (cy rs (i+1)) (cq hs i) v).1/\Sz (4*k+61) (ptE (cy rs i) (cy rs (i+1)) (cq hs i) v).2:=fun v hv=>by
    rw[<-Zja]
    have:=Znl (rs:=[cy rs i,cy rs (i+1)]) (hs:=[-(cq hs i),v]) (k:=2*k+21) (fun p hp=>by
     rcases List.mem_cons.mp hp with rfl|hp
     ·exact br
     ·rcases List.mem_cons.mp hp with rfl|hp
      ·exact bb
      ·cases hp) (by simp) (fun p hp=>by
     rcases List.mem_cons.mp hp with rfl|hp
     ·exact⟨by rw[Rat.neg_num,Int.natAbs_neg];exact Nat.lt_of_lt_of_le zi.1 (Nat.pow_le_pow_right (by decide) (by lia)),by rw[Rat.neg_den];exact Nat.lt_of_lt_of_le zi.2 (Nat.pow_le_pow_right (by decide) (by lia))⟩
     ·rcases List.mem_cons.mp hp with rfl|hp
      ·exact hv
      ·cases hp) (by simp)
    exact⟨Zi0 this.1 (by lia),Zi0 this.2 (by lia)⟩
   have tsz:∀{v:Rat}{d:D},Tp (2*k+21) v d->Sz (2*k+21) v:=fun⟨a,b,_,b0,e1,s1,s2⟩=>ZsR b0 e1 s1 s2;refine ZsU (fun ρ=>∃x,ρ=[x,some (pr (cy rs i).1 (cy rs i).2),some (pr (cy rs (i+1)).1 (cy rs (i+1)).2),some (rt (cq hs i))]) (fun j=>rp (ptE (cy rs i) (cy rs (i+1)) (cq hs i) (if j=0 then t else u))) (by simp) ⟨_,rfl⟩ ?_ ?_
   ·rintro j hj ρ M1 K1 ⟨y,rfl⟩;obtain⟨d,v,e1,e2,tv'⟩:∃d v,[lo,hg][j]=d/\(if j=0 then t else u)=v/\Tp (2*k+21) v d:=by
     match j,hj with
     |0,_=>exact⟨_,_,rfl,rfl,tl⟩
     |1,_=>exact⟨_,_,rfl,rfl,th⟩
    rw[e1,e2];have sv:=tsz tv';obtain⟨a,b,rfl,b0,e3,s1,s2⟩:=tv';simp![Zsc,ZpF,ZuX,ZpJ,Zsi,ZuY,ZpN,ZpQ,Zsq,Zu6,Zu9,kAt,kZp,wF3,ZuH,Zr6,Zr7,ZkG b0 e3 s2 (by lia)]
    refine⟨⟨_,rfl⟩,?_⟩;have l1:M1.length<(M1++[SO.lst [pr (cy rs i).1 (cy rs i).2,pr (cy rs (i+1)).1 (cy rs (i+1)).2]]).length:=by simp
    rw[ZiZ (k:=2*k+21) (rs:=[cy rs i,cy rs (i+1)]) (hs:=[-(cq hs i),v]) (by simp[prs]) (fun p hp=>by
     rcases List.mem_cons.mp hp with rfl|hp
     ·exact br
     ·rcases List.mem_cons.mp hp with rfl|hp
      ·exact bb
      ·cases hp) (by simp) (by simp[rts,rt,Rat.neg_num,Rat.neg_den]) (by simp) (fun p hp=>by
     rcases List.mem_cons.mp hp with rfl|hp
     ·exact⟨by rw[Rat.neg_num,Int.natAbs_neg];exact Nat.lt_of_lt_of_le zi.1 (Nat.pow_le_pow_right (by decide) (by lia)),by rw[Rat.neg_den];exact Nat.lt_of_lt_of_le zi.2 (Nat.pow_le_pow_right (by decide) (by lia))⟩
     ·rcases List.mem_cons.mp hp with rfl|hp
      ·exact sv
      ·cases hp) (by lia)]
    exact⟨by rw[Zja],Kp.app⟩
   ·intro M1 K1 r1;refine q _ _ _ ed (by simp) (fun p hp=>?_) K1 (Nat.le_refl _) (by rw[r1];rfl)
    rcases List.mem_cons.mp hp with rfl|hp
    ·exact st _ (tsz tl)
    ·rcases List.mem_cons.mp hp with rfl|hp
     ·exact st _ (tsz th)
     ·cases hp
end
end BD
namespace BD
open L2 DL
open CV CN CU CS
open CR (rt Sz)
open CH (rts ZD ZU)
open CD (pts ZQ Za9)
open Rb
noncomputable def Zbk(xs:List Rat):Nat:=xs.foldl (fun b x=>Nat.lcm b x.den) 1
theorem ZkJ(b d:Nat)(hd:d≠0):b*(d/Nat.gcd b d)=Nat.lcm b d:=by
 unfold Nat.lcm;rw[Nat.mul_div_assoc _ (Nat.gcd_dvd_right b d)]
theorem Zjb:Zbk (xs++[x])=Nat.lcm (Zbk xs) x.den:=by simp[Zbk]
theorem Zco:∀(xs:List Rat),0<Zbk xs:=by
 have:∀(xs:List Rat)(b:Nat),0<b->0<xs.foldl (fun b x=>Nat.lcm b x.den) b:=by
  intro xs
  induction xs with
  |nil=>intro b h;exact h
  |cons x r ih=>intro b h;exact ih _ (Nat.lcm_pos h (Nat.pos_of_ne_zero x.den_nz))
 exact fun xs=>this xs 1 (by decide)
theorem ZdL(h:x∈xs):x.den ∣ Zbk xs:=by
 have up:∀(xs:List Rat)(b:Nat),b ∣ xs.foldl (fun b x=>Nat.lcm b x.den) b:=by
  intro xs
  induction xs with
  |nil=>intro b;exact Nat.dvd_refl _
  |cons x r ih=>intro b;exact Nat.dvd_trans (Nat.dvd_lcm_left _ _) (ih _)
 have:∀(xs:List Rat)(b:Nat),x∈xs->x.den ∣ xs.foldl (fun b x=>Nat.lcm b x.den) b:=by
  intro xs
  induction xs with
  |nil=>intro b h;cases h
  |cons y r ih=>
   intro b h;rcases List.mem_cons.mp h with rfl|h
   ·exact Nat.dvd_trans (Nat.dvd_lcm_right _ _) (up _ _)
   ·exact ih _ h
 exact this xs 1 h
section
variable {M:Sto}{k l K i:Nat}{rs:List Pt}{hs:List Rat}{d:D}{ms:List RP}{p:RP}
theorem Zfx(hz:∀x∈xs,Sz k x):Zbk xs<2^(xs.length*k+1):=by
 have:∀(xs:List Rat)(b e:Nat),(∀x∈xs,Sz k x)->b<2^e->xs.foldl (fun b x=>Nat.lcm b x.den) b<2^(e+xs.length*k):=by
  intro xs
  induction xs with
  |nil=>intro b e _ h;simpa using h
  |cons x r ih=>
   intro b e hz h;have l1:Nat.lcm b x.den<=b*x.den:=by
    unfold Nat.lcm;exact Nat.div_le_self _ _
   have l2:=CR.Z4 h (hz x (by simp)).2
   have:=ih (Nat.lcm b x.den) (e+k) (fun y hy=>hz y (List.mem_cons_of_mem _ hy)) (by lia)
   rw[List.foldl_cons,List.length_cons,Nat.add_mul,Nat.one_mul,show e+(r.length*k+k)=e+k+r.length*k by lia]
   exact this
 have:=this xs 1 1 hz (by decide)
 rw[Nat.add_comm]at this;exact this
theorem Zgm(h:M[n]?=some (.lst (rts xs)))(hl:xs.length<=1000)(hz:∀x∈xs,Sz k x)(hk:k<=8000):wO (F_common_bottom [.ref n] M) Q E=Q (.int (Zbk xs:Nat)) M:=by
 have main (Q:W0) (E:W2) (q:Q (.int (Zbk xs:Nat)) M):wO (F_common_bottom [.ref n] M) Q E:=by
  have hn:=Zv h;simp![F_common_bottom,Zaw];refine ZbO (xs:=rts xs) (fun i ρ M'=>M'=M/\∃x,ρ=[some (.ref n),some (.int (Zbk (xs.take i):Nat)),x]) h ⟨rfl,_,rfl⟩ (fun i ρ M' hI=>hI.1▸h) ?_ ?_
  ·rintro i ρ _ hi ⟨rfl,x,rfl⟩;rw[Zbu];have hi':i<xs.length:=by rw[ZD]at hi;exact hi
   have z:=Zbt (i:=i) hz (by lia)
   have b:=Zfx (xs:=xs.take i) (k:=k) (fun x hx=>hz x (List.mem_of_mem_take hx));have p0:=Zco (xs.take i);have tk:Zbk (xs.take (i+1))=Nat.lcm (Zbk (xs.take i)) (cq xs i).den:=by rw[List.take_succ_eq_append_getElem hi',Zjb,Za8 hi']
   generalize cq xs i=y at *;have gl:(xs.take i).length*k+1<=10000000:=by
    have:(xs.take i).length<=1000:=by simp;lia
    have:=Nat.mul_le_mul this hk
    lia
   generalize (xs.take i).length*k+1=e at *;generalize Zbk (xs.take i)=c at *;have gw:∀{Q:W0}{E:W2}{M:Sto},wO (CR.F_greatest_divisor [.int (c:Int),.int (y.den:Int)] M) Q E=Q (.int ((Nat.gcd c y.den:Nat):Int)) M:=by
    intro Q E M;rw[CR.Zp9,Zlg];rfl
   have g0:0<Nat.gcd c y.den:=Nat.gcd_pos_of_pos_left _ p0;have g1:Nat.gcd c y.den<=y.den:=Nat.le_of_dvd (Nat.pos_of_ne_zero y.den_nz) (Nat.gcd_dvd_right c y.den);have st:=ZkJ c y.den y.den_nz;have dv:y.den/Nat.gcd c y.den<=y.den:=Nat.div_le_self _ _;have z2:=z.2;generalize Nat.gcd c y.den=g at *;simp![Z5,gw];rw[CR.Zdd (k:=k) (by lia) (by simp;lia) hk]
   have f1:Zt (c:Int) ((y.den:Int)/(g:Int)):=Zr e k (by simpa using b) (by rw[<-Int.natCast_ediv,Int.natAbs_natCast];lia) (by lia) (by lia)
   simp![ZI f1];refine⟨some (rt y),?_⟩;rw[tk,<-st];simp
  ·rintro ρ _ ⟨rfl,x,rfl⟩;rw[ZD,List.take_length];simp![Zn];exact q
 obtain⟨d,M',e,e1,e2⟩:=ZbF (main (fun d M'=>d=.int (Zbk xs:Nat)/\M'=M) (fun _ _=>False) ⟨rfl,rfl⟩);rw[e,e1,e2];rfl
noncomputable def stc(B:Nat)(x:Rat):Int:=x.num*((B/x.den:Nat):Int)
theorem ZaA(h:x.den ∣ B):(stc B x:Rat)=x*(B:Rat):=by
 obtain⟨c,rfl⟩:=h;unfold stc;rw[Nat.mul_div_cancel_left _ (Nat.pos_of_ne_zero x.den_nz),Rat.intCast_mul,Zb7 x,Rat.natCast_mul,Rat.intCast_natCast];grind
theorem Zbx{B:Nat}(hx:Sz k x)(hk:k<=8000)(hB:B<2^l)(hl:l<=50000000):wO (F_stretched [rt x,.int (B:Int)] M) Q E=Q (.int (stc B x)) M:=by
 have dn:=Nat.pos_of_ne_zero x.den_nz;simp![F_stretched,Zbw];rw[CR.Zdd (k:=k) (by lia) (by simpa using hx.2) hk]
 have:B/x.den<=B:=Nat.div_le_self _ _
 have f1:Zt x.num ((B:Int)/(x.den:Int)):=Zr k l hx.1 (by rw[<-Int.natCast_ediv,Int.natAbs_natCast];lia) (by lia) (by lia)
 simp![ZI f1];unfold stc;rw[Int.natCast_ediv]
theorem Zgn(h0:0<B)(hx:x.den ∣ B)(hy:y.den ∣ B):stc B x<stc B y↔x<y:=by
 rw[<-Rat.intCast_lt_intCast,ZaA hx,ZaA hy];exact Rat.mul_lt_mul_right (Rat.natCast_pos.mpr h0)
theorem ZdM(h0:0<B)(hx:x.den ∣ B)(hy:y.den ∣ B)(h:stc B x=stc B y):x=y:=by
 have:=Zgn h0 hx hy
 have:=Zgn h0 hy hx
 grind
noncomputable def pl(p q:RP):Prop:=p.1<q.1\/(p.1=q.1/\p.2<q.2)
def ent(m:RP):D:=.tup [rp m,.bl true]
theorem ZsV(m:RP):∃kk,kyU (rp m)=some kk:=⟨_,rfl⟩
theorem Zql{a:RP}(h1:kyU (rp a)=some kk)(h2:kyU (rp b)=some kk):a=b:=by
 have e1:=Zcl (show Zjt [rt a.1,rt a.2]=some kk from h1);have e2:=Zcl (show Zjt [rt b.1,rt b.2]=some kk from h2);have e:=e1.trans e2.symm;simp only[List.cons.injEq,and_true]at e;exact Prod.ext (ZiY e.1) (ZiY e.2)
theorem Zqm{a:RP}(h2:kyU (rp b)=some kk):kyU (rp a)=some kk↔a=b:=⟨fun h=>Zql h h2,fun h=>h▸h2⟩
theorem Zjc{kk:List (List Key)}(h:kyU (rp p)=some kk):∀ms:List RP,(Zka kyU kk (ms.map ent)).isSome=decide (p∈ms)
 |[]=>by simp[Zka]
 |a::r=>by
  have ih:=Zjc h r;rw[List.map_cons,show ent a=.tup [rp a,.bl true]from rfl,Zka];by_cases e:a=p
  ·subst e;rw[if_pos h];simp
  ·rw[if_neg (fun z=>e ((Zqm h).mp z)),ih]
   have:p≠a:=fun z=>e z.symm
   simp[this]
theorem Znm(ms:List RP):Zmm kyU kk (.bl true) (ms.map ent)=ms.map ent:=by
 unfold Zmm;rw[List.map_map];refine List.map_congr_left fun a _=>?_;simp only[Function.comp,ent];split
 ·rfl
 ·rfl
theorem Znn(h:kyU (rp p)=some kk)(ms:List RP):ZnC kyU kk (rp p) (.bl true) (ms.map ent)=(if p∈ms then ms else ms++[p]).map ent:=by
 unfold ZnC;rw[Zjc h,Znm];by_cases e:p∈ms
 ·simp[e]
 ·simp[e];rfl
def key(B:Nat)(m:RP):List Int:=[stc B m.1,stc B m.2]
noncomputable def Dv(B:Nat)(ms:List RP):Prop:=∀m∈ms,m.1.den ∣ B/\m.2.den ∣ B
theorem Zjd(h0:0<B)(h:Dv B ms)(ha:a∈ms)(hb:b∈ms)(e:key B a=key B b):a=b:=by
 unfold key at e;simp only[List.cons.injEq,and_true]at e;exact Prod.ext (ZdM h0 (h a ha).1 (h b hb).1 e.1) (ZdM h0 (h a ha).2 (h b hb).2 e.2)
theorem Zqn(h0:0<B)(h:Dv B ms)(ha:a∈ms)(hb:b∈ms)(ne:a≠b)(e:ST.le (key B a) (key B b)):pl a b:=by
 have e:HT.ZaV (key B b) (key B a)=false:=e;unfold key at e;rw[HT.Z1]at e;have l1:=Zgn h0 (h a ha).1 (h b hb).1;by_cases c:stc B b.1=stc B a.1
 ·rw[if_pos c,HT.Z1]at e;have c1:=ZdM h0 (h b hb).1 (h a ha).1 c;have l2:=Zgn h0 (h a ha).2 (h b hb).2;by_cases d:stc B b.2=stc B a.2
  ·exact absurd (Prod.ext c1 (ZdM h0 (h b hb).2 (h a ha).2 d)).symm ne
  ·rw[if_neg d]at e;refine .inr ⟨c1.symm,l2.mp ?_⟩
   have:=of_decide_eq_false e
   lia
 ·rw[if_neg c]at e;refine .inl (l1.mp ?_)
  have:=of_decide_eq_false e
  lia
theorem Zje(h0:0<B)(h:Dv B ms)(nd:ms.Nodup):(ms.map (key B)).Nodup:=by
 refine List.pairwise_map.mpr ?_;refine List.Pairwise.imp_of_mem (fun ha hb ne e=>ne (Zjd h0 h ha hb e)) nd
theorem Zno(h0:0<B)(h:Dv B ms)(nd:ms.Nodup):∃ms',ms'.Perm ms/\ms'.Pairwise pl/\ZmM (ms.map (key B)) (pts ms)=pts ms':=by
 have kn:=Zje h0 h nd
 let inv (k:List Int):RP:=(ms.find? (fun m=>decide (key B m=k))).getD (0,0)
 have hinv:∀a∈ms,inv (key B a)=a:=by
  intro a ha;show(ms.find? (fun m=>decide (key B m=key B a))).getD (0,0)=a;cases e:ms.find? (fun m=>decide (key B m=key B a))with
  |none=>
   have:=List.find?_eq_none.mp e a ha
   simp at this
  |some b=>
   have h1:=List.find?_some e;have h2:=List.mem_of_find?_eq_some e;exact Zjd h0 h h2 ha (of_decide_eq_true h1)
 have hk:∀k∈ST.srt (ms.map (key B)),∃a∈ms,key B a=k:=fun k hk=>by
  have:=(ST.ZbD _).mem_iff.mp hk
  obtain⟨a,ha,e⟩:=List.mem_map.mp this;exact⟨a,ha,e⟩
 refine⟨(ST.srt (ms.map (key B))).map inv,?_,?_,?_⟩
 ·refine((ST.ZbD _).map inv).trans ?_;rw[List.map_map]
  have:ms.map (inv∘key B)=ms:=by
   conv=>rhs;rw[<-List.map_id ms]
   exact List.map_congr_left fun a ha=>hinv a ha
  rw[this]
 ·refine List.pairwise_map.mpr ?_;have nd2:(ST.srt (ms.map (key B))).Nodup:=(ST.ZbD _).nodup_iff.mpr kn;have both:=List.Pairwise.and nd2 (ST.Zit (ms.map (key B)));refine List.Pairwise.imp_of_mem (fun{x y} hx hy hb=>?_) both;obtain⟨a,ha,rfl⟩:=hk x hx;obtain⟨b,hb',rfl⟩:=hk y hy;rw[hinv a ha,hinv b hb'];exact Zqn h0 h ha hb' (fun z=>hb.1 (by rw[z])) hb.2
 ·unfold ZmM;show _=List.map _ _;rw[List.map_map];refine List.map_congr_left fun k hk'=>?_;obtain⟨a,ha,rfl⟩:=hk k hk';rw[Zdb (d:=rp a) kn (by
   unfold pts;rw[List.zip_map'];exact List.mem_map.mpr ⟨a,ha,rfl⟩)]
  simp only[Function.comp,hinv a ha];rfl
theorem Zqo:wO (Ziz fs fr g ρ M) Q E=wO (fs ρ M) (kU (Zfg g fr ρ) Q E) E:=by unfold Ziz;exact Zx
noncomputable def Zc1(ms:List RP):List Rat:=ms.flatMap fun m=>[m.1,m.2]
theorem Zjf:Zc1 (ms++[m])=Zc1 ms++[m.1,m.2]:=by simp[Zc1]
theorem ZdN:(Zc1 ms).length=2*ms.length:=by
 induction ms with
 |nil=>rfl
 |cons a r ih=>simp[Zc1]at ih ⊢;lia
theorem ZdO:x∈Zc1 ms↔∃m∈ms,x=m.1\/x=m.2:=by simp[Zc1]
theorem Zqp(h:M[n]?=some (.lst (pts ms)))(hl:ms.length<=1000)(q:Q (.ref M.length) (M++[.lst (rts (Zc1 ms))])):ZsD (gNm 0) (fun _ M=>.ok true M) (fun n=>gIn (iSq (Zg 0)) (gNm 1) (fun _ M=>.ok true M) (gEm (Zg 1) n)) 2 [] ρ Q (.sto n) M:=by
 have hn:=Zv h;obtain⟨ρ',M',e,x,y,e1,e2⟩:=Zcm (src:=.sto n) (tg:=gNm 0) (c:=fun _ M=>.ok true M) (g:=gIn (iSq (Zg 0)) (gNm 1) (fun _ M=>.ok true M) (gEm (Zg 1) M.length)) (P:=fun i ρ M'=>∃x y,ρ=[x,y]/\M'=M++[.lst (rts (Zc1 (ms.take i)))]) ms.length (by
  rintro i ρ M' hi ⟨x,y,rfl,rfl⟩;have tk:ms.take (i+1)=ms.take i++[ms[i]]:=List.take_succ_eq_append_getElem hi;refine⟨rp ms[i],[some (rp ms[i]),y],_,?_,rfl,.inr ⟨[some (rp ms[i]),some (rt ms[i].2)],M++[.lst (rts (Zc1 (ms.take (i+1))))],rfl,?_,_,_,rfl,rfl⟩⟩
  ·rw[Zgb (xs:=pts ms) (by rw[List.getElem?_append_left hn];exact h),List.getElem?_eq_getElem (by rw[ZQ];exact hi),Za9]
  ·have ln:((Zc1 (ms.take i)).map rt).length<9999999:=by rw[List.length_map,ZdN,List.length_take];lia
   rw[tk,Zjf];simp only[gIn,iSq,Out.bind,Zg,List.getElem?_cons_zero,Zc0,nxt,cnt,gNm,gEm,List.set_cons_zero,List.set_cons_succ,List.getElem?_cons_succ,List.length_cons,List.length_nil];rw[List.length_map]at ln;simp[rts];rw[if_pos (by lia)]
   simp;rw[if_pos (by lia)]) (by
  rintro ρ M' ⟨x,y,rfl,rfl⟩;rw[Zgb (xs:=pts ms) (by rw[List.getElem?_append_left hn];exact h),List.getElem?_eq_none (by rw[ZQ];exact Nat.le_refl _)]) (cnt (.sto n) M) 0 (roB 2 [] ρ) (M++[.lst []]) (by lia) (by rw[Zfi h,ZQ];lia) ⟨_,_,rfl,by simp[Zc1,rts]⟩
 refine⟨ρ',M',e,?_⟩;rw[e2,List.take_length];exact q
theorem Zls{ρ:Ro}{B:Nat}(hρ:ρ[1]?=some (some (.int (B:Int))))(hB:B<2^l)(hl:l<=50000000)(hk:k<=8000):∀ms:List RP,(∀p∈ms,Sz k p.1/\Sz k p.2)->ZcE (Zak (Zc (Zj F_stretched (Zc (e2 dIx (Zg 0) (eC (.int 0))) (Zc (Zg 1) aNil))) (Zc (Zj F_stretched (Zc (e2 dIx (Zg 0) (eC (.int 1))) (Zc (Zg 1) aNil))) aNil))) [1] ρ M (pts ms) (ms.map (key B))
 |[],_=>.nil
 |a::r,hz=>by
  have ih:=Zls hρ hB hl hk r (fun p hp=>hz p (List.mem_cons_of_mem _ hp));have za:=hz a (by simp)
  refine .cons ⟨?_,by simp[key]⟩ ih
  have e:roL (rp a) [1] ρ=[some (rp a),some (.int (B:Int))]:=by simp[roL,hρ]
  show(Zak _ (roL (rp a) [1] ρ) M)=_;rw[e]
  have:wO (Zak (Zc (Zj F_stretched (Zc (e2 dIx (Zg 0) (eC (.int 0))) (Zc (Zg 1) aNil))) (Zc (Zj F_stretched (Zc (e2 dIx (Zg 0) (eC (.int 1))) (Zc (Zg 1) aNil))) aNil)) [some (rp a),some (.int (B:Int))] M) (fun d M'=>d=Zlf (key B a)/\M'=M) (fun _ _=>False):=by
   simp![Zbx za.1 hk hB hl,Zbx za.2 hk hB hl];rfl
  obtain⟨d,M',e,e1,e2⟩:=ZbF this;rw[e,e1,e2]
theorem ZgO(h:M[n]?=some (.lst (pts ms)))(nd:ms.Nodup)(hl:ms.length<64)(hz:∀p∈ms,Sz k p.1/\Sz k p.2)(hk:k<=8000)(q:∀ms' M',ms'.Perm ms->ms'.Pairwise pl->Kp M M'->M.length<M'.length->M'[M'.length-1]?=some (.lst (pts ms'))->Q (.ref (M'.length-1)) M'):wO (F_in_order [.ref n] M) Q E:=by
 have hn:=Zv h;simp![F_in_order,ZbW,ZiQ];refine Zqp h (by lia) ?_
 have zf:∀x∈Zc1 ms,Sz k x:=fun x hx=>by
  obtain⟨m,hm,e|e⟩:=ZdO.mp hx
  ·rw[e];exact(hz m hm).1
  ·rw[e];exact(hz m hm).2
 simp![Zgm (M:=M++[SO.lst (rts (Zc1 ms))]) (n:=M.length) (xs:=Zc1 ms) (k:=k) (by simp) (by rw[ZdN];lia) zf hk,Zqo]
 have h0:=Zco (Zc1 ms);have dv:Dv (Zbk (Zc1 ms)) ms:=fun m hm=>⟨ZdL (ZdO.mpr ⟨m,hm,.inl rfl⟩),ZdL (ZdO.mpr ⟨m,hm,.inr rfl⟩)⟩;have lb:=Zfx zf;rw[ZdN]at lb;have bl:2*ms.length*k+1<=50000000:=by
  have:=Nat.mul_le_mul (show 2*ms.length<=128 by lia) hk
  lia
 obtain⟨ms',pm,pw,es⟩:=Zno h0 dv nd;have ok:Ziy (Zak (Zc (Zj F_stretched (Zc (e2 dIx (Zg 0) (eC (.int 0))) (Zc (Zg 1) aNil))) (Zc (Zj F_stretched (Zc (e2 dIx (Zg 0) (eC (.int 1))) (Zc (Zg 1) aNil))) aNil))) [1] [some (.ref n),some (.int (Zbk (Zc1 ms):Nat))] (M++[SO.lst (rts (Zc1 ms))]) (pts ms) (ms.map (key (Zbk (Zc1 ms)))):=⟨by rw[ZQ];exact hl,Zje h0 dv nd,Zls rfl lb bl hk ms hz⟩
 rw[Zf5 (by rw[List.getElem?_append_left hn];exact h) ok,es]
 refine(?_:Q _ _)
 have:=q ms' (M++[SO.lst (rts (Zc1 ms))]++[SO.lst (pts ms')]) pm pw (by rw[List.append_assoc];exact Kp.app) (by simp) (by simp)
 simpa using this
def Bod(rs:List Pt)(hs:List Rat)(ms:List RP):Prop:=(∀p,p∈ms↔Cor rs hs p)/\ms.Pairwise pl
structure Met(rs:List Pt) (hs:List Rat) (K i:Nat) (ms:List RP):Prop where
 nd:ms.Nodup
 sz:∀p∈ms,Sz K p.1/\Sz K p.2
 cor:∀p∈ms,Cor rs hs p
 all:∀p i' j,i'<i->Win rs hs p->On rs hs p i'->On rs hs p j->X (cy rs i') (cy rs j)≠0->p∈ms
 len:ms.length<=2*i
theorem Zqq(h:M[n]?=some (.lst (prs rs)))(hs':Smo rs)(hb:Nr B rs)(hl:rs.length<=31)(h':M[m]?=some (.lst (rts hs)))(e:hs.length=rs.length)(hz:∀x∈hs,Sz k x)(hk:k<=900)(q:∀ms o M',Bod rs hs ms->(∀p∈ms,Sz (4*k+61) p.1/\Sz (4*k+61) p.2)->ms.length<64->Kp M M'->M.length<=o->M'[o]?=some (.lst (pts ms))->Q (.ref o) M')(hB:B<=400:=by first|decide|assumption):wO (F_body [.ref n,.ref m] M) Q E:=by
 have hn:=Zv h;have hm:=Zv h';simp![F_body,Zi6];refine CC.Zb4 h hs' (fun x hx=>by have:=hb x hx;lia) ?_
 simp![Zn];refine ZeO h h' e ?_;have r0:(M++[SO.lst []])[M.length]?=some (.lst (([]:List RP).map ent)):=by simp
 simp![ZsH,h];refine⟨by lia,?_⟩
 rw[Int.toNat_natCast];refine Zb3 (n:=rs.length) (lo:=0) (fun i ρ M'=>Kp M M'/\∃ms x3 x4,ρ=[some (.ref n),some (.ref m),some (.du M.length),x3,x4]/\M'[M.length]?=some (.lst (ms.map ent))/\Met rs hs (4*k+61) i ms) ⟨Kp.app,[],_,_,rfl,r0,⟨.nil,fun p hp=>(by cases hp),fun p hp=>(by cases hp),fun p i' j hi=>(by lia),by simp⟩⟩ ?_ ?_
 ·rintro i ρ M1 hi ⟨K1,ms,x3,x4,rfl,r1,me⟩;rw[show(0:Int)+(i:Nat)=i by lia]
  simp![ZcR];refine Zqk (K1.get h) hs' hb (by lia) (K1.get h') e hz hk hi fun ps o M2 ed lp zp K2 lo r2=>?_
  have hd:=Zv r1;have hne:o≠M.length:=by lia
  refine ZbO (xs:=pts ps) (fun j ρ M'=>Kp M M'/\M'[o]?=some (.lst (pts ps))/\∃ms' x4,ρ=[some (.ref n),some (.ref m),some (.du M.length),some (.int i),x4]/\M'[M.length]?=some (.lst (ms'.map ent))/\ms'.Nodup/\(∀p,p∈ms'↔p∈ms\/p∈ps.take j)/\ms'.length<=ms.length+j) r2 ⟨K1.trans K2,r2,ms,_,rfl,K2.get r1,me.nd,fun p=>by simp,by lia⟩ (fun j ρ M' hI=>hI.2.1) ?_ ?_
  ·rintro j ρ M3 hj ⟨K3,r3,ms',x4',rfl,rd,nd',mem',len'⟩;have hj':j<ps.length:=by rw[ZQ]at hj;exact hj
   rw[Za9];have tk:ps.take (j+1)=ps.take j++[ps[j]]:=List.take_succ_eq_append_getElem hj';generalize ps[j]=p at *;obtain⟨kk,ek⟩:=ZsV p;have hl3:=Zv rd;have lm:=me.len;simp![ZcQ,Zp2,ZsF,ZsE];refine⟨_,kk,rfl,ek,?_⟩;rw[rd];refine⟨by rw[List.length_map];lia,K3.set (Nat.le_refl _),by rw[List.getElem?_set_ne (by lia)];exact r3,(if p∈ms' then ms' else ms'++[p]),_,rfl,by rw[List.getElem?_set_self hl3,Znn ek],?_,fun p'=>?_,?_⟩
   ·split
    ·exact nd'
    ·rename_i c;exact List.nodup_append.mpr ⟨nd',by simp,fun a ha b hb=>by simp at hb;subst hb;exact fun z=>c (z▸ha)⟩
   ·rw[tk];by_cases c:p∈ms'
    ·rw[if_pos c,mem'];have c':=(mem' p).mp c;simp only[List.mem_append,List.mem_cons,List.not_mem_nil,or_false];constructor
     ·rintro(z|z)
      ·exact .inl z
      ·exact .inr (.inl z)
     ·rintro(z|z|z)
      ·exact .inl z
      ·exact .inr z
      ·rw[z];exact c'
    ·rw[if_neg c];simp only[List.mem_append,mem',List.mem_cons,List.not_mem_nil,or_false,or_assoc]
   ·split
    ·lia
    ·simp;lia
  ·rintro ρ M3 ⟨K3,r3,ms',x4',rfl,rd,nd',mem',len'⟩;rw[ZQ,List.take_length]at mem';rw[ZQ]at len';have lm:=me.len;refine⟨K3,ms',_,_,rfl,rd,⟨nd',fun p hp=>?_,fun p hp=>?_,fun p i' j hi' w o1 o2 ne=>?_,by lia⟩⟩
   ·rcases(mem' p).mp hp with z|z
    ·exact me.sz p z
    ·exact zp p z
   ·rcases(mem' p).mp hp with z|z
    ·exact me.cor p z
    ·exact ed.1 p z
   ·by_cases z:i'=i
    ·subst z;exact(mem' p).mpr (.inr (ed.2 p j w o1 o2 ne))
    ·exact(mem' p).mpr (.inl (me.all p i' j (by lia) w o1 o2 ne))
 ·rintro ρ M1 ⟨K1,ms,x3,x4,rfl,r1,me⟩;have hd:=Zv r1;have lm:=me.len;simp![ZsG,ZtZ,r1];have em:(ms.map ent).map Zic=pts ms:=by rw[List.map_map];rfl
  rw[em];refine ZgO (k:=4*k+61) (ms:=ms) (M:=M1++[SO.lst (pts ms)]) (by simp) me.nd (by lia) me.sz (by lia) fun ms' M' pm pw K' l' r'=>?_
  refine q ms' _ M' ⟨fun p=>⟨fun hp=>me.cor p (pm.mem_iff.mp hp),fun⟨w,i,j,o1,o2,ne⟩=>pm.mem_iff.mpr (me.all p i j o1.1 w o1 o2 ne)⟩,pw⟩ (fun p hp=>me.sz p (pm.mem_iff.mp hp)) (by rw[pm.length_eq];lia) (K1.trans (Kp.app.trans K')) ?_ r'
  have:=K1.1
  have:=K'.1
  simp at this;lia
end
end BD
namespace BL
open L2 DL
open CC (F_law_cell_at F_law_cross F_law_smooth)
def ZaG:Sv:=(ZgD 2 3 (Zc (Zg 3) (Zc (e2 dMod (Zg 2) (Zg 3)) aNil)))
def Zby:Sv:=(ZE (ZJ (gNm 2) (Zj bAbs (Zc (Zg 0) aNil))) (ZE (ZJ (gNm 3) (Zg 1)) (ZE (sWh (tv (e2 dGt (Zg 3) (eC (.int 0)))) ZaG) (Z6 (Zak (Zc (e2 dDiv (Zg 0) (Zg 2)) (Zc (e2 dDiv (Zg 1) (Zg 2)) aNil)))))))
def F_law_ratio:W3:=fnF Zby 2 2
def ZcT:Sv:=(Z6 (Zj F_law_ratio (Zc (e2 dAdd (e2 dMul (e2 dIx (Zg 0) (eC (.int 0))) (e2 dIx (Zg 1) (eC (.int 1)))) (e2 dMul (e2 dIx (Zg 1) (eC (.int 0))) (e2 dIx (Zg 0) (eC (.int 1))))) (Zc (e2 dMul (e2 dIx (Zg 0) (eC (.int 1))) (e2 dIx (Zg 1) (eC (.int 1)))) aNil))))
def F_law_sum:W3:=fnF ZcT 2 0
def Zbz:Sv:=(Z6 (Zj F_law_ratio (Zc (e2 dMul (Zg 0) (e2 dIx (Zg 1) (eC (.int 0)))) (Zc (e2 dIx (Zg 1) (eC (.int 1))) aNil))))
def F_law_times:W3:=fnF Zbz 2 0
def Zde:Sv:=(Z6 (e2 dLt (e2 dMul (e2 dIx (Zg 0) (eC (.int 0))) (e2 dIx (Zg 1) (eC (.int 1)))) (e2 dMul (e2 dIx (Zg 1) (eC (.int 0))) (e2 dIx (Zg 0) (eC (.int 1))))))
def F_law_less:W3:=fnF Zde 2 0
def Zba:Sv:=(Z6 (Zj F_law_sum (Zc (Zj F_law_times (Zc (e2 dIx (Zg 1) (eC (.int 0))) (Zc (e2 dIx (Zg 0) (eC (.int 0))) aNil))) (Zc (Zj F_law_times (Zc (e2 dIx (Zg 1) (eC (.int 1))) (Zc (e2 dIx (Zg 0) (eC (.int 1))) aNil))) aNil))))
def F_law_dotted:W3:=fnF Zba 2 0
def Zax:Sv:=(sIf (tv (Zj F_law_less (Zc (Zj F_law_sum (Zc (Zj F_law_dotted (Zc (Zg 2) (Zc (e2 dIx (Zg 0) (Zg 3)) aNil))) (Zc (e2 dIx (Zg 1) (Zg 3)) aNil))) (Zc (Zak (Zc (eC (.int 0)) (Zc (eC (.int 1)) aNil))) aNil)))) (Z6 (eC (.bl false))) sNil)
def Zbb:Sv:=(ZE (Za1 (gNm 3) (Zc (Zj bLen (Zc (Zg 0) aNil)) aNil) Zax) (Z6 (eC (.bl true))))
def F_law_within:W3:=fnF Zbb 3 1
def Zai:Sv:=(ZE (ZJ (gNm 5) (Zj F_law_cross (Zc (e2 dIx (Zg 0) (Zg 3)) (Zc (e2 dIx (Zg 0) (Zg 4)) aNil)))) (sIf (tv (e2 dNe (Zg 5) (eC (.int 0)))) (ZE (ZJ (gNm 6) (e2 dDiv (Zg 5) (Zj bAbs (Zc (Zg 5) aNil)))) (ZE (ZJ (gNm 7) (Zj F_law_sum (Zc (Zj F_law_times (Zc (e2 dMul (Zg 6) (e2 dIx (e2 dIx (Zg 0) (Zg 3)) (eC (.int 1)))) (Zc (e2 dIx (Zg 1) (Zg 4)) aNil))) (Zc (Zj F_law_times (Zc (e2 dSub (eC (.int 0)) (e2 dMul (Zg 6) (e2 dIx (e2 dIx (Zg 0) (Zg 4)) (eC (.int 1))))) (Zc (e2 dIx (Zg 1) (Zg 3)) aNil))) aNil)))) (ZE (ZJ (gNm 8) (Zj F_law_sum (Zc (Zj F_law_times (Zc (e2 dMul (Zg 6) (e2 dIx (e2 dIx (Zg 0) (Zg 4)) (eC (.int 0)))) (Zc (e2 dIx (Zg 1) (Zg 3)) aNil))) (Zc (Zj F_law_times (Zc (e2 dSub (eC (.int 0)) (e2 dMul (Zg 6) (e2 dIx (e2 dIx (Zg 0) (Zg 3)) (eC (.int 0))))) (Zc (e2 dIx (Zg 1) (Zg 4)) aNil))) aNil)))) (ZE (ZJ (gNm 9) (Zak (Zc (Zj F_law_ratio (Zc (e2 dIx (Zg 7) (eC (.int 0))) (Zc (e2 dMul (e2 dIx (Zg 7) (eC (.int 1))) (Zj bAbs (Zc (Zg 5) aNil))) aNil))) (Zc (Zj F_law_ratio (Zc (e2 dIx (Zg 8) (eC (.int 0))) (Zc (e2 dMul (e2 dIx (Zg 8) (eC (.int 1))) (Zj bAbs (Zc (Zg 5) aNil))) aNil))) aNil)))) (sIf (Zct (tv (e2 dNotInE (Zg 9) (Zg 2))) (tv (Zj F_law_within (Zc (Zg 0) (Zc (Zg 1) (Zc (Zg 9) aNil)))))) (ZbC (ZgV mApp (Zg 2) (Zc (Zg 9) aNil))) sNil))))) sNil))
def Zaj:Sv:=(Zef (gNm 4) (Zc (e2 dAdd (Zg 3) (eC (.int 1))) (Zc (Zj bLen (Zc (Zg 0) aNil)) aNil)) Zai)
def ZaQ:Sv:=(ZE (ZJ (gNm 2) (Zcw aNil)) (ZE (Za1 (gNm 3) (Zc (Zj bLen (Zc (Zg 0) aNil)) aNil) Zaj) (Z6 (Zg 2))))
def F_law_corners:W3:=fnF ZaQ 2 8
end BL
namespace BL
open L2 DL
open CV CN CU CS
open CR (rt Sz)
open CH (rts ZD ZU)
open CD (pts ZQ Za9)
open Rb BD
theorem Zqr:F_law_less=CD.F_less:=rfl
theorem Znp:CC.F_law_cross=CC.F_crossed:=rfl
section
variable {Q:W0}{E:W2}{M:Sto}{n m k l K i:Nat}{rs:List Pt}{hs:List Rat}{x:Rat}{p:RP}{ms:List RP}
theorem Zqs{b:Nat}(hb:b≠0)(h:b<2^k)(hk:k<=8000)(q':Q (rt (Rat.normalize t b hb)) M):wO (F_law_ratio [.int t,.int b] M) Q E:=by
 obtain⟨g0,g1⟩:=CR.Zlo (t:=t) hb h;rw[CR.ZiX hb]at q';simp![Zsn,kPa,ZuH,ZrW,Int.cast_ofNat_Int,F_law_ratio,Zby];refine ZsB (fun j ρ M'=>M'=M/\∃a c:Nat,ρ=[some (.int t),some (.int b),some (.int a),some (.int c)]/\j=c/\Nat.gcd a c=Int.gcd t b) ?_ b _ _ ⟨rfl,t.natAbs,b,rfl,rfl,rfl⟩;rintro j ρ M ⟨rfl,a,c,rfl,rfl,g⟩;simp![Zsn,kPa,ZuH,ZrW,Int.cast_ofNat_Int,Zn];refine ZsC (fun h'=>?_) (fun h'=>?_)
 ·simp![Zsn,kPa,ZuH,ZrW,Int.cast_ofNat_Int,ZaG];have hc:0<j:=by lia
  refine⟨a%j,Nat.mod_lt a hc,j,a%j,by rw[Int.natCast_emod],rfl,?_⟩
  rw[<-g,Nat.gcd_comm j,<-Nat.gcd_rec,Nat.gcd_comm]
 ·have j0:j=0:=by lia
  subst j0;rw[Nat.gcd_zero_right]at g;rw[<-g]at q' g0 g1;simp![Zsn,kPa,ZuH,ZrW,Int.cast_ofNat_Int,Zn];rw[CR.Zdd (k:=k) (by lia) (by simpa using g1) hk]
  simp![Zsn,kPa,ZuH,ZrW,Int.cast_ofNat_Int,Zn];rw[CR.Zdd (k:=k) (by lia) (by simpa using g1) hk]
  simp![Zsn,kPa,ZuH,ZrW,Int.cast_ofNat_Int,Zn];exact q'
theorem ZdP{b:Nat}(hb:b≠0)(h:b<2^k)(hk:k<=8000):wO (F_law_ratio [.int t,.int b] M) Q E=Q (rt (Rat.normalize t b hb)) M:=by
 obtain⟨d,M',e,e1,e2⟩:=ZbF (Zqs (M:=M) (Q:=fun d M'=>d=rt (Rat.normalize t b hb)/\M'=M) (E:=fun _ _=>False) hb h hk ⟨rfl,rfl⟩);rw[e,e1,e2];rfl
theorem ZkK{a:Int}{b:Nat}(hb:b≠0)(e:(a:Rat)=t*(b:Rat))(h:b<2^k)(hk:k<=8000):wO (F_law_ratio [.int a,.int b] M) Q E=Q (rt t) M:=by
 rw[ZdP hb h hk,ZdK hb e]
theorem Zdf{p:Rat}(hp:Sz k p)(hq:Sz l q)(hk:k+l<=8000):wO (F_law_sum [rt p,rt q] M) Q E=Q (rt (p+q)) M:=by
 have nz:p.den*q.den≠0:=Nat.mul_ne_zero p.den_nz q.den_nz;have f1:Zt p.num (q.den:Int):=Zr k l hp.1 (by simpa using hq.2) (by lia) (by lia)
 have f2:Zt q.num (p.den:Int):=Zr l k hq.1 (by simpa using hp.2) (by lia) (by lia)
 have f3:Zt (p.den:Int) (q.den:Int):=Zr k l (by simpa using hp.2) (by simpa using hq.2) (by lia) (by lia)
 simp![F_law_sum,ZcT,ZI f1,ZI f2,ZI f3];rw[show(p.den:Int)*(q.den:Int)=((p.den*q.den:Nat):Int)by simp,ZdP nz (CR.Z4 hp.2 hq.2) hk,<-Rat.add_def]
theorem Znq{p:Rat}(hp:Sz k p)(hq:Sz l q)(hk:k+l<=8000):wO (F_law_less [rt p,rt q] M) Q E=Q (.bl (decide (p<q))) M:=by rw[Zqr];exact CD.Zlq hp hq hk
theorem ZaR(hz:z.natAbs<2^l)(hq:Sz k q)(hl:l<=8000)(hk:k<=8000):wO (F_law_times [.int z,rt q] M) Q E=Q (rt ((z:Rat)*q)) M:=by
 have f1:Zt z q.num:=Zr l k hz hq.1 (by lia) (by lia)
 simp![F_law_times,Zbz,ZI f1];rw[ZdP q.den_nz hq.2 hk,Zgf]
theorem Zjg(h1:Sz K p.1)(h2:Sz K p.2)(hr:(-200<=r.1/\r.1<=200)/\ -200<=r.2/\r.2<=200)(hK:K<=3990):wO (F_law_dotted [rp p,pr r.1 r.2] M) Q E=Q (rt (slp p r)) M:=by
 have a1:=CR.ZY (ZN (z:=r.1) (k:=8) (by lia) (by decide)) h1
 have a2:=CR.ZY (ZN (z:=r.2) (k:=8) (by lia) (by decide)) h2
 simp![F_law_dotted,Zba,ZaR (z:=r.1) (l:=8) (by lia) h1 (by lia) (by lia),ZaR (z:=r.2) (l:=8) (by lia) h2 (by lia) (by lia),Zdf a1 a2 (by lia)]
 rw[show(r.1:Rat)*p.1+(r.2:Rat)*p.2=slp p r by unfold slp;grind]
open Classical in
theorem Zjh(h:M[n]?=some (.lst (prs rs)))(hb:Nr 200 rs)(hne:rs≠[])(hl:rs.length<=1000)(h':M[m]?=some (.lst (rts hs)))(e:hs.length=rs.length)(hz:∀x∈hs,Sz k x)(hp:Sz K p.1/\Sz K p.2)(hk:2*K+k<=7900):wO (F_law_within [.ref n,.ref m,rp p] M) Q E=Q (.bl (decide (Win rs hs p))) M:=by
 have main (Q:W0) (E:W2) (q:Q (.bl (decide (Win rs hs p))) M):wO (F_law_within [.ref n,.ref m,rp p] M) Q E:=by
  have hn:=Zv h;have hm:=Zv h';simp![wF3,F_law_within,Zbb,h];refine⟨by lia,?_⟩
  rw[Int.toNat_natCast];refine Zb3 (n:=rs.length) (lo:=0) (fun i ρ M'=>M'=M/\(∃x,ρ=[some (.ref n),some (.ref m),some (rp p),x])/\∀j<i,-(cq hs j)<=slp p (cy rs j)) ⟨rfl,⟨_,rfl⟩,fun j hj=>by lia⟩ ?_ ?_
  ·rintro i ρ _ hi ⟨rfl,⟨x,rfl⟩,hI⟩;rw[show(0:Int)+(i:Nat)=i by lia]
   have zi:=Zbt (i:=i) hz (by have:=List.length_pos_iff.mpr hne;lia)
   have br:=hb _ (ZX (i:=i) hne);have s1:=Zqc hp.1 hp.2 br;have s0:Sz 1 ((0:Int):Rat):=ZN (by decide) (by decide)
   simp![wF3,Zax,h,h',ZbG,Zb6,Zjg hp.1 hp.2 br (by lia),Zdf s1 zi (by lia)]
   rw[show D.tup [D.int 0,D.int 1]=rt ((0:Int):Rat)from CS.Zb5 0];simp![wF3,Znq (CR.ZcN s1 zi) s0 (by lia)]
   refine brS (fun c=>?_) (fun c=>?_)
   ·simp![wF3,Zn];rw[show decide (Win rs hs p)=false from decide_eq_false fun w=>by have:=w i hi;have c':slp p (cy rs i)+cq hs i<0:=c;grind]at q
    exact q
   ·simp![wF3,Zn];have c':¬slp p (cy rs i)+cq hs i<0:=c;refine⟨⟨_,rfl⟩,fun j hj=>?_⟩;by_cases z:j=i
    ·subst z;grind
    ·exact hI j (by lia)
  ·rintro ρ _ ⟨rfl,⟨x,rfl⟩,hI⟩;simp![wF3,Zn];rw[show decide (Win rs hs p)=true from decide_eq_true hI]at q;exact q
 obtain⟨d,M',e,e1,e2⟩:=ZbF (main (fun d M'=>d=.bl (decide (Win rs hs p))/\M'=M) (fun _ _=>False) ⟨rfl,rfl⟩);rw[e,e1,e2];rfl
theorem Zji:∀ms:List RP,eqs M (rp p) (pts ms)=some (ms.map fun a=>decide (a=p))
 |[]=>rfl
 |a::r=>by
  have ih:=Zji r;have e:eqF 12 M (rp a) (rp p)=some (decide (a=p)):=Zvj (k:=9);show(match eqF 12 M (rp a) (rp p)with|some b=>(match eqs M (rp p) (pts r)with|some bs=>some (b::bs)|none=>none)|none=>none)=_
  rw[e,ih];rfl
theorem Zgo:∀{l:List RP},(l.map fun y=>decide (y=p)).any id=decide (p∈l)
 |[]=>by simp
 |y::l=>by
  rw[List.map_cons,List.any_cons,Zgo (l:=l)];by_cases c:y=p
  ·subst c;simp
  ·have:¬p=y:=fun z=>c z.symm
   simp[c,this]
theorem Zqt(h:M[n]?=some (.lst (pts ms))):inE (rp p) (.ref n) M=some (decide (p∈ms)):=by
 have e0:Zea M (.ref n)=some (pts ms):=by simp[Zea,h]
 simp only[inE,e0,Zji,Zgo]
def crn(r s:Pt)(x y:Rat):RP:=(((r.2:Rat)*y-s.2*x)/(X r s:Rat),((s.1:Rat)*x-r.1*y)/(X r s:Rat))
theorem Zjj{x:Rat}(ne:X r s≠0):p=crn r s x y↔slp p r= -x/\slp p s= -y:=by
 have nz:((X r s:Int):Rat)≠0:=fun z=>ne (Rat.intCast_eq_zero_iff.mp z);have e1:=ZcS (a:=(r.2:Rat)*y-s.2*x) nz;have e2:=ZcS (a:=(s.1:Rat)*x-r.1*y) nz;have ex:=Zbj r s;unfold crn slp;generalize ((r.2:Rat)*y-s.2*x)/(X r s:Rat)=a at *;generalize ((s.1:Rat)*x-r.1*y)/(X r s:Rat)=b at *;generalize ((X r s:Int):Rat)=c at *;constructor
 ·rintro rfl;constructor
  ·simp only
   have:c*(a*r.1+b*r.2)=c*(-x):=by grind
   grind
  ·simp only
   have:c*(a*s.1+b*s.2)=c*(-y):=by grind
   grind
 ·rintro⟨h1,h2⟩;refine Prod.ext ?_ ?_
  ·simp only
   have:c*p.1=c*a:=by grind
   grind
  ·simp only
   have:c*p.2=c*b:=by grind
   grind
theorem ZsW(h0:c≠0):c/(c.natAbs:Int)=if 0<c then 1 else -1:=by
 split
 ·rename_i h;rw[show(c.natAbs:Int)=c by lia]
  exact Int.ediv_self h0
 ·rw[show(c.natAbs:Int)= -c by lia,Int.ediv_neg,Int.ediv_self h0]
theorem Zlt{c s:Int}{x:Rat}(h0:c≠0)(hs:s=if 0<c then 1 else -1)(e:z=(s:Rat)*(a*x-b*y)):z=(a*x-b*y)/(c:Rat)*((c.natAbs:Nat):Rat):=by
 have nz:(c:Rat)≠0:=fun z=>h0 (Rat.intCast_eq_zero_iff.mp z);have e1:=ZcS (a:=a*x-b*y) nz;have e2:((c.natAbs:Nat):Rat)=(s:Rat)*(c:Rat):=by
  rw[hs,<-Rat.intCast_natCast,<-Rat.intCast_mul];congr 1
  split<;>lia
 rw[e,e2];generalize (a*x-b*y)/(c:Rat)=w at *;grind
structure Fnd(rs:List Pt) (hs:List Rat) (K:Nat) (P:Nat->Nat->Prop) (ms:List RP):Prop where
 nd:ms.Nodup
 sz:∀p∈ms,Sz K p.1/\Sz K p.2
 cor:∀p∈ms,Cor rs hs p
 all:∀p i j,i<j->P i j->Win rs hs p->On rs hs p i->On rs hs p j->X (cy rs i) (cy rs j)≠0->p∈ms
theorem Fnd.mono(f:Fnd rs hs K P ms)(h:∀i j,i<j->j<rs.length->P' i j->P i j):Fnd rs hs K P' ms:=⟨f.nd,f.sz,f.cor,fun p i j lt z w o1 o2 ne=>f.all p i j lt (h i j lt o2.1 z) w o1 o2 ne⟩
theorem Fnd.bod{P:Nat->Nat->Prop}(f:Fnd rs hs K P ms)(h:∀i j,i<j->j<rs.length->P i j):∀p,p∈ms↔Cor rs hs p:=fun p=>⟨f.cor p,fun⟨w,i,j,o1,o2,ne⟩=>by
 rcases(show i<j\/j<i\/i=j by lia)with c|c|c
 ·exact f.all p i j c (h i j c o2.1) w o1 o2 ne
 ·exact f.all p j i c (h j i c o1.1) w o2 o1 (fun z=>ne (by unfold X at *;grind))
 ·subst c;exact absurd (by unfold X;grind) ne⟩
open Classical in
theorem Zdg(h:M[n]?=some (.lst (prs rs)))(hs':Smo rs)(hb:Nr 200 rs)(hl:rs.length<=31)(h':M[m]?=some (.lst (rts hs)))(e:hs.length=rs.length)(hz:∀x∈hs,Sz k x)(hk:k<=900)(q:∀ms M',(∀p,p∈ms↔Cor rs hs p)->ms.Nodup->(∀p∈ms,Sz (2*k+34) p.1/\Sz (2*k+34) p.2)->ms.length<=1000->Kp M M'->M'[M.length]?=some (.lst (pts ms))->Q (.ref M.length) M'):wO (F_law_corners [.ref n,.ref m] M) Q E:=by
 have hn:=Zv h;have hm:=Zv h';have hne:=hs'.ne;have h3:=hs'.len;simp![ZuX,ZpJ,ZpP,ZkA,Zva,Zsx,ZtB,ZtC,ZtD,kR2,ZrW,Zpo,Option.isSome_some,Zpr,F_law_corners,ZaQ,h];refine⟨by lia,?_⟩
 rw[Int.toNat_natCast];have r0:(M++[SO.lst []])[M.length]?=some (.lst (pts [])):=by simp[pts]
 refine Zb3 (n:=rs.length) (lo:=0) (fun i ρ M'=>Kp M M'/\∃ms x3 x4 x5 x6 x7 x8 x9,ρ=[some (.ref n),some (.ref m),some (.ref M.length),x3,x4,x5,x6,x7,x8,x9]/\M'[M.length]?=some (.lst (pts ms))/\Fnd rs hs (2*k+34) (fun a _=>a<i) ms/\ms.length<=i*31) ⟨Kp.app,[],_,_,_,_,_,_,_,rfl,r0,⟨.nil,fun p hp=>(by cases hp),fun p hp=>(by cases hp),fun p i' j hi z=>(by lia)⟩,by simp⟩ ?_ ?_
 ·rintro i ρ M1 hi ⟨K1,ms,x3,x4,x5,x6,x7,x8,x9,rfl,r1,fd,len⟩;rw[show(0:Int)+(i:Nat)=i by lia]
  have h1:=K1.get h;simp![ZuX,ZpJ,ZpP,ZkA,Zva,Zsx,ZtB,ZtC,ZtD,kR2,ZrW,Zpo,Option.isSome_some,Zpr,Zaj,h1];refine⟨by lia,?_⟩
  rw[show((rs.length:Int)-(i+1)).toNat=rs.length-(i+1)by lia]
  refine Zb3 (n:=rs.length-(i+1)) (lo:=(i:Int)+1) (fun j ρ M'=>Kp M M'/\∃ms x4 x5 x6 x7 x8 x9,ρ=[some (.ref n),some (.ref m),some (.ref M.length),some (.int i),x4,x5,x6,x7,x8,x9]/\M'[M.length]?=some (.lst (pts ms))/\Fnd rs hs (2*k+34) (fun a b=>a<i\/(a=i/\b<i+1+j)) ms/\ms.length<=i*31+j) ⟨K1,ms,_,_,_,_,_,_,rfl,r1,fd.mono fun a b lt hb' z=>(by lia),by lia⟩ ?_ ?_
  ·rintro j' ρ M2 hj ⟨K2,ms,x4,x5,x6,x7,x8,x9,rfl,r2,fd,len⟩;obtain⟨j,rfl⟩:∃j,j=i+1+j':=⟨_,rfl⟩;have hj2:i+1+j'<rs.length:=by lia
   rw[show(i:Int)+1+(j':Nat)=((i+1+j':Nat):Int)by lia]
   rw[show i+1+(j'+1)=i+1+j'+1 by lia]
   generalize ej:i+1+j'=j at *;have h2:=K2.get h;have h2':=K2.get h';have zi:=Zbt (i:=i) hz (by lia)
   have zj:=Zbt (i:=j) hz (by lia)
   have bi:=hb _ (ZX (i:=i) hne);have bj:=hb _ (ZX (i:=j) hne);have sX:=ZqS bi bj;have hx2:=Zv r2;simp![ZuX,ZpJ,ZpP,ZkA,Zva,Zsx,ZtB,ZtC,ZtD,kR2,ZrW,Zpo,Option.isSome_some,Zpr,Zai,h2,h2',ZbG,Zb6,Znp,ZnG bi];refine Zu0 (fun c=>?_) (fun c=>?_)
   ·have sg:=ZsW c;have onp:=fun p=>Zjj (p:=p) (x:=cq hs i) (y:=cq hs j) c;have hX:X (cy rs i) (cy rs j)≠0:=c;have cdef:∀x y:Rat,crn (cy rs i) (cy rs j) x y=((((cy rs i).2:Rat)*y-(cy rs j).2*x)/(X (cy rs i) (cy rs j):Rat),(((cy rs j).1:Rat)*x-(cy rs i).1*y)/(X (cy rs i) (cy rs j):Rat)):=fun _ _=>rfl;generalize crn (cy rs i) (cy rs j)=cr at *;generalize hcX0:X (cy rs i) (cy rs j)=c0 at *;obtain⟨s,hs0⟩:∃s:Int,s=if 0<c0 then 1 else -1:=⟨_,rfl⟩
    rw[<-hs0]at sg;have s1:s=1\/s= -1:=by rw[hs0];split<;>simp
    have m1:(s*(cy rs i).2).natAbs<2^8:=by rcases s1 with rfl|rfl<;>lia
    have m2:(0-s*(cy rs j).2).natAbs<2^8:=by rcases s1 with rfl|rfl<;>lia
    have m3:(s*(cy rs j).1).natAbs<2^8:=by rcases s1 with rfl|rfl<;>lia
    have m4:(0-s*(cy rs i).1).natAbs<2^8:=by rcases s1 with rfl|rfl<;>lia
    have a1:=CR.ZY (ZN (k:=8) m1 (by decide)) zj
    have a2:=CR.ZY (ZN (k:=8) m2 (by decide)) zi
    have a3:=CR.ZY (ZN (k:=8) m3 (by decide)) zi
    have a4:=CR.ZY (ZN (k:=8) m4 (by decide)) zj
    have l1:∀{Q:W0}{E:W2}{M:Sto},wO (F_law_sum [rt (((s*(cy rs i).2:Int):Rat)*cq hs j),rt (((0-s*(cy rs j).2:Int):Rat)*cq hs i)] M) Q E=Q (rt (((s*(cy rs i).2:Int):Rat)*cq hs j+((0-s*(cy rs j).2:Int):Rat)*cq hs i)) M:=Zdf a1 a2 (by lia)
    have l2:∀{Q:W0}{E:W2}{M:Sto},wO (F_law_sum [rt (((s*(cy rs j).1:Int):Rat)*cq hs i),rt (((0-s*(cy rs i).1:Int):Rat)*cq hs j)] M) Q E=Q (rt (((s*(cy rs j).1:Int):Rat)*cq hs i+((0-s*(cy rs i).1:Int):Rat)*cq hs j)) M:=Zdf a3 a4 (by lia)
    have b1:=CR.ZcN a1 a2;have b2:=CR.ZcN a3 a4;have e1:=Zlt (s:=s) (a:=(cy rs i).2) (b:=(cy rs j).2) (x:=cq hs j) (y:=cq hs i) (z:=((s*(cy rs i).2:Int):Rat)*cq hs j+((0-s*(cy rs j).2:Int):Rat)*cq hs i) hX hs0 (by rw[Rat.intCast_sub,Rat.intCast_mul,Rat.intCast_mul,Rat.intCast_zero];grind)
    have e2:=Zlt (s:=s) (a:=(cy rs j).1) (b:=(cy rs i).1) (x:=cq hs i) (y:=cq hs j) (z:=((s*(cy rs j).1:Int):Rat)*cq hs i+((0-s*(cy rs i).1:Int):Rat)*cq hs j) hX hs0 (by rw[Rat.intCast_sub,Rat.intCast_mul,Rat.intCast_mul,Rat.intCast_zero];grind)
    have c1:=congrArg Prod.fst (cdef (cq hs i) (cq hs j));have c2:=congrArg Prod.snd (cdef (cq hs i) (cq hs j));simp only at c1 c2;rw[<-c1]at e1;rw[<-c2]at e2;have w1:∀{Q:W0}{E:W2}{M:Sto},wO (F_law_times [.int (s*(cy rs i).2),rt (cq hs j)] M) Q E=Q (rt (((s*(cy rs i).2:Int):Rat)*cq hs j)) M:=ZaR m1 zj (by lia) (by lia)
    have w2:∀{Q:W0}{E:W2}{M:Sto},wO (F_law_times [.int (0-s*(cy rs j).2),rt (cq hs i)] M) Q E=Q (rt (((0-s*(cy rs j).2:Int):Rat)*cq hs i)) M:=ZaR m2 zi (by lia) (by lia)
    have w3:∀{Q:W0}{E:W2}{M:Sto},wO (F_law_times [.int (s*(cy rs j).1),rt (cq hs i)] M) Q E=Q (rt (((s*(cy rs j).1:Int):Rat)*cq hs i)) M:=ZaR m3 zi (by lia) (by lia)
    have w4:∀{Q:W0}{E:W2}{M:Sto},wO (F_law_times [.int (0-s*(cy rs i).1),rt (cq hs j)] M) Q E=Q (rt (((0-s*(cy rs i).1:Int):Rat)*cq hs j)) M:=ZaR m4 zj (by lia) (by lia)
    generalize ((s*(cy rs i).2:Int):Rat)*cq hs j+((0-s*(cy rs j).2:Int):Rat)*cq hs i=x' at *;generalize ((s*(cy rs j).1:Int):Rat)*cq hs i+((0-s*(cy rs i).1:Int):Rat)*cq hs j=y' at *;generalize hp:cr (cq hs i) (cq hs j)=p at *;have na:0<c0.natAbs:=by lia
    have rr:∀{x' t:Rat},Sz (8+k+(8+k)+1) x'->x'=t*((c0.natAbs:Nat):Rat)->Sz (2*k+34) t/\∀{Q:W0}{E:W2}{M:Sto},wO (F_law_ratio [.int x'.num,.int ((x'.den:Int)*(c0.natAbs:Int))] M) Q E=Q (rt t) M:=by
     intro x' t b1 e1;have lt1:x'.den*c0.natAbs<2^(2*k+34):=by
      have:=CR.Z4 b1.2 sX
      rw[show 8+k+(8+k)+1+17=2*k+34 by lia]at this
      exact this
     have nz:x'.den*c0.natAbs≠0:=Nat.mul_ne_zero x'.den_nz (by lia)
     have ee:(x'.num:Rat)=t*((x'.den*c0.natAbs:Nat):Rat):=by rw[Zb7 x',Rat.natCast_mul];grind
     refine⟨?_,?_⟩
     ·rw[<-ZdK nz ee];exact CR.ZcM _ (Nat.lt_of_lt_of_le b1.1 (Nat.pow_le_pow_right (by decide) (by lia))) lt1
     ·intro Q E M;rw[show(x'.den:Int)*(c0.natAbs:Int)=((x'.den*c0.natAbs:Nat):Int)by simp]
      exact ZkK nz ee lt1 (by lia)
    obtain⟨z1,q1⟩:=rr b1 e1;obtain⟨z2,q2⟩:=rr b2 e2;have f1:Zt (x'.den:Int) (c0.natAbs:Int):=Zr (8+k+(8+k)+1) 17 (by simpa using b1.2) (by simpa using sX) (by lia) (by lia)
    have f2:Zt (y'.den:Int) (c0.natAbs:Int):=Zr (8+k+(8+k)+1) 17 (by simpa using b2.2) (by simpa using sX) (by lia) (by lia)
    simp![ZuX,ZpJ,ZpP,ZkA,Zva,Zsx,ZtB,ZtC,ZtD,kR2,ZrW,Zpo,Option.isSome_some,Zpr,h2,h2',ZbG,Zb6,sg,w1,w2,w3,w4,l1,l2,ZI f1,ZI f2,q1,q2,Zqt r2];have onij:=(onp p).mp rfl;have oi:On rs hs p i:=⟨by lia,onij.1⟩
    have oj:On rs hs p j:=⟨by lia,onij.2⟩
    have one:∀p',On rs hs p' i->On rs hs p' j->p'=p:=fun p' o1 o2=>(onp p').mpr ⟨o1.2,o2.2⟩;refine ZuU (fun nin=>?_) (fun yin=>?_)
    ·simp![ZuX,ZpJ,ZpP,ZkA,Zva,Zsx,ZtB,ZtC,ZtD,kR2,ZrW,Zpo,Option.isSome_some,Zpr,Zjh h2 hb hne (by lia) h2' e hz ⟨z1,z2⟩ (by lia)]
     refine brS (fun w=>?_) (fun w=>?_)
     ·have eP:pts ms++[rp p]=pts (ms++[p]):=by simp[pts]
      simp![ZuX,ZpJ,ZpP,ZkA,Zva,Zsx,ZtB,ZtC,ZtD,kR2,ZrW,Zpo,Option.isSome_some,Zpr,r2,ZQ,eP];refine⟨by have:=Nat.mul_le_mul_right 31 (show i<=31 by lia);lia,K2.set (Nat.le_refl _),ms++[p],_,_,_,_,_,_,rfl,rfl,⟨?_,?_,?_,?_⟩,by simp;lia⟩
      ·exact List.nodup_append.mpr ⟨fd.nd,by simp,fun a ha b hb=>by simp at hb;subst hb;exact fun z=>nin (z▸ha)⟩
      ·intro p' hp';rcases List.mem_append.mp hp' with z|z
       ·exact fd.sz p' z
       ·rcases List.mem_cons.mp z with rfl|z
        ·exact⟨z1,z2⟩
        ·cases z
      ·intro p' hp';rcases List.mem_append.mp hp' with z|z
       ·exact fd.cor p' z
       ·rcases List.mem_cons.mp z with rfl|z
        ·exact⟨w,i,j,oi,oj,by rw[hcX0];exact hX⟩
        ·cases z
      ·intro p' a b lt z w' o1 o2 ne;by_cases y:a=i/\b=j
       ·obtain⟨rfl,rfl⟩:=y;rw[one p' o1 o2];simp
       ·exact List.mem_append_left _ (fd.all p' a b lt (by lia) w' o1 o2 ne)
     ·simp![ZuX,ZpJ,ZpP,ZkA,Zva,Zsx,ZtB,ZtC,ZtD,kR2,ZrW,Zpo,Option.isSome_some,Zpr,Zn];refine⟨K2,ms,_,_,_,_,_,_,rfl,r2,⟨fd.nd,fd.sz,fd.cor,fun p' a b lt z w' o1 o2 ne=>?_⟩,by lia⟩
      by_cases y:a=i/\b=j
      ·obtain⟨rfl,rfl⟩:=y;rw[one p' o1 o2]at w';exact absurd w' w
      ·exact fd.all p' a b lt (by lia) w' o1 o2 ne
    ·simp![ZuX,ZpJ,ZpP,ZkA,Zva,Zsx,ZtB,ZtC,ZtD,kR2,ZrW,Zpo,Option.isSome_some,Zpr,Zn];refine⟨K2,ms,_,_,_,_,_,_,rfl,r2,⟨fd.nd,fd.sz,fd.cor,fun p' a b lt z w' o1 o2 ne=>?_⟩,by lia⟩
     by_cases y:a=i/\b=j
     ·obtain⟨rfl,rfl⟩:=y;rw[one p' o1 o2];exact yin
     ·exact fd.all p' a b lt (by lia) w' o1 o2 ne
   ·simp![ZuX,ZpJ,ZpP,ZkA,Zva,Zsx,ZtB,ZtC,ZtD,kR2,ZrW,Zpo,Option.isSome_some,Zpr,Zn];refine⟨K2,ms,_,_,_,_,_,_,rfl,r2,⟨fd.nd,fd.sz,fd.cor,fun p a b lt z w o1 o2 ne=>?_⟩,by lia⟩
    by_cases y:a=i/\b=j
    ·obtain⟨rfl,rfl⟩:=y;exact absurd c ne
    ·exact fd.all p a b lt (by lia) w o1 o2 ne
  ·rintro ρ M2 ⟨K2,ms,x4,x5,x6,x7,x8,x9,rfl,r2,fd,len⟩;exact⟨K2,ms,_,_,_,_,_,_,_,rfl,r2,fd.mono fun a b lt hb' z=>(by lia),by lia⟩
 ·rintro ρ M1 ⟨K1,ms,x3,x4,x5,x6,x7,x8,x9,rfl,r1,fd,len⟩;simp![ZuX,ZpJ,ZpP,ZkA,Zva,Zsx,ZtB,ZtC,ZtD,kR2,ZrW,Zpo,Option.isSome_some,Zpr,Zn];refine q ms M1 (fd.bod fun i j lt hj=>by lia) fd.nd fd.sz ?_ K1 r1
  have:=Nat.mul_le_mul_right 31 hl
  lia
end
end BL
namespace Rb
open L2 DL
open CN (cq)
open CS (slp)
open TW
theorem free(h:Smo rs)(hi:i<rs.length)(hj:j<rs.length)(h1:0<X (cy rs i) (cy rs j))(h2:0<X (cy rs j) (cy rs (i+1))):False:=by
 have hr:=h.rn;have p2:=hr.pos j;have w0:cy rs j≠(0,0):=by
  intro z;rw[z]at p2;unfold X at p2;simp at p2
 have ne:i≠j:=fun z=>by subst z;rw[XX]at h1;lia
 have c:=(hr.fan (cy rs j) w0).1;rw[Zgh hr.ne]at c;have a1:=ZdF (w:=cy rs j) (a:=cy rs i) (b:=cy rs (i+1)) (by lia) h2
 have a2:=ZdF (w:=cy rs j) (a:=cy rs j) (b:=cy rs (j+1)) (by rw[XX];lia) p2
 rcases(show i<j\/j<i by lia)with z|z
 ·have g:=ZeP (f:=in1 (cy rs j)) (rs:=rs) rs.length 0 i j z hj;rw[show(0:Int)+i=i by lia,show(0:Int)+j=j by lia,a1,a2]at g
  lia
 ·have g:=ZeP (f:=in1 (cy rs j)) (rs:=rs) rs.length 0 j i z hi;rw[show(0:Int)+i=i by lia,show(0:Int)+j=j by lia,a1,a2]at g
  lia
theorem ZkL(p:RP)(s t v:Pt):(X s t:Rat)*slp p v=(X v t:Rat)*slp p s+(X s v:Rat)*slp p t:=by
 rw[Zbj,Zbj,Zbj];unfold slp;grind
structure Cn(s t r b:Pt):Prop where
 st:0<X s t
 sr:0<=X s r
 rt:0<=X r t
 sb:0<=X s b
 bt:0<=X b t
def vl(s t w:Pt)(x y:Rat):Rat:= -((X w t:Rat)*x+(X s w:Rat)*y)
theorem gt0{a:Int}(h:0<a):(0:Rat)<(a:Rat):=Rat.intCast_pos.mpr h
theorem Zt1{α:Type}(P:α->Prop)(f:α->Rat):∀L:List α,(∃x∈L,P x)->∃x∈L,P x/\∀y∈L,P y->f y<=f x
 |[],⟨x,hx,_⟩=>by cases hx
 |a::L,h=>by
  classical
  by_cases hL:∃x∈L,P x
  ·obtain⟨x,hx,px,mx⟩:=Zt1 P f L hL;by_cases c:P a/\f x<f a
   ·refine⟨a,by simp,c.1,fun y hy py=>?_⟩
    rcases List.mem_cons.mp hy with rfl|hy
    ·exact Rat.le_refl
    ·have:=mx y hy py
     grind
   ·refine⟨x,List.mem_cons_of_mem _ hx,px,fun y hy py=>?_⟩;rcases List.mem_cons.mp hy with rfl|hy
    ·by_cases z:f y<=f x
     ·exact z
     ·exact absurd ⟨py,by grind⟩ c
    ·exact mx y hy py
  ·obtain⟨x,hx,px⟩:=h;rcases List.mem_cons.mp hx with rfl|hx
   ·refine⟨x,by simp,px,fun y hy py=>?_⟩
    rcases List.mem_cons.mp hy with rfl|hy
    ·exact Rat.le_refl
    ·exact absurd ⟨y,hy,py⟩ hL
   ·exact absurd ⟨x,hx,px⟩ hL
theorem plk(r u s t:Pt):X r u*X s t=X r t*X s u-X s r*X u t:=by unfold X;grind
theorem swap(c:Cn s t r b)(rb:X r b=1)(fr:¬(0<X r u/\0<X u b))(no:¬(X u t<=0/\X s u<=0)):Cn s u r b\/Cn u t r b:=by
 obtain⟨st,sr,rt,sb,bt⟩:=c;have e1:=plk r u s t;have e2:=plk b u s t;have e3:=plk r b s t;rw[rb]at e3;have sw:∀p q:Pt,X p q= -(X q p):=fun p q=>by unfold X;grind
 have u1:=sw u r;have u2:=sw u b;generalize g1:X r u=ru at *;generalize g2:X b u=bu at *;generalize g3:X r t=r1 at *;generalize g4:X s r=r2 at *;generalize hb1:X b t=b1 at *;generalize g5:X s b=b2 at *;generalize ha:X u t=a at *;generalize hc:X s u=c at *;generalize g6:X s t=k at *;have r1p:0<r1:=by
  rcases(show r1=0\/0<r1 by lia)with z|z
  ·rw[z]at e3
   have:=Int.mul_nonneg sr bt
   lia
  ·exact z
 have b2p:0<b2:=by
  rcases(show b2=0\/0<b2 by lia)with z|z
  ·rw[z]at e3
   have:=Int.mul_nonneg sr bt
   simp at e3;lia
  ·exact z
 have pos:∀{x:Int},0<=x*k->0<=x:=fun{x} h=>by
  by_cases z:0<=x
  ·exact z
  ·have:=Int.mul_pos (show 0 < -x by lia) st
   rw[Int.neg_mul]at this;lia
 have npos:∀{x:Int},x*k<=0->x<=0:=fun{x} h=>by
  by_cases z:x<=0
  ·exact z
  ·have:=Int.mul_pos (show 0<x by lia) st
   lia
 by_cases hc0:0<c
 ·by_cases ha0:0<a
  ·by_cases f:0<ru
   ·
    have f2:¬0<X u b:=fun z=>fr ⟨f,z⟩;have bu0:0<=bu:=by lia
    exact .inl ⟨by lia,by lia,by lia,by lia,by lia⟩
   ·have ur:0<=X u r:=by lia
    refine .inr ⟨by lia,ur,by lia,?_,by lia⟩
    have h1:ru*k<=0:=by
     have:=Int.mul_nonneg (show 0<= -ru by lia) (show 0<=k by lia)
     rw[Int.neg_mul]at this;lia
    have m1:r1*(b1*c-b2*a)<=0:=by
     have q1:=Int.mul_nonneg (show 0<=r2*a-r1*c by lia) bt
     have q2:=Int.mul_nonneg (show 0<=r1*b2-r2*b1 by lia) (show 0<=a by lia)
     have:r1*(b1*c-b2*a)= -((r2*a-r1*c)*b1)-(r1*b2-r2*b1)*a:=by grind
     lia
    have m2:b1*c-b2*a<=0:=by
     by_cases z:b1*c-b2*a<=0
     ·exact z
     ·have:=Int.mul_pos r1p (show 0<b1*c-b2*a by lia)
      lia
    have:=npos (x:=bu) (by lia)
    lia
  ·refine .inl ⟨by lia,by lia,?_,by lia,?_⟩
   ·have q1:=Int.mul_nonneg (show 0<=r1 by lia) (show 0<=c by lia)
    have q2:=Int.mul_nonneg sr (show 0<= -a by lia)
    rw[Int.mul_neg]at q2
    have:=pos (x:=ru) (by lia)
    lia
   ·have q1:=Int.mul_nonneg bt (show 0<=c by lia)
    have q2:=Int.mul_nonneg sb (show 0<= -a by lia)
    rw[Int.mul_neg]at q2
    have:=pos (x:=bu) (by lia)
    lia
 ·have ha0:0<a:=by lia
  have q1:=Int.mul_nonneg (show 0<=r1 by lia) (show 0<= -c by lia)
  have q2:=Int.mul_nonneg sr (show 0<=a by lia)
  have q3:=Int.mul_nonneg bt (show 0<= -c by lia)
  have q4:=Int.mul_nonneg sb (show 0<=a by lia)
  rw[Int.mul_neg]at q1 q3;have z1:=npos (x:=ru) (by lia)
  have z2:=npos (x:=bu) (by lia)
  exact .inr ⟨by lia,by lia,by lia,by lia,by lia⟩
theorem ZeR{a:Rat}(hc:0<c)(h:a<b):c*a<c*b:=(Rat.mul_lt_mul_left hc).mpr h
theorem more(c:Cn s u r b)(rb:X r b=1)(sb:0<X s r+X s b)(ps:slp p s= -x)(ps':slp p' s= -x)(pu:slp p u < -y)(pu':slp p' u= -y):slp p r+slp p b<slp p' r+slp p' b:=by
 have t1:=ZkL p s u r;have t2:=ZkL p s u b;have t3:=ZkL p' s u r;have t4:=ZkL p' s u b;have k:=gt0 c.st;have q:(0:Rat)<(X s r:Rat)+(X s b:Rat):=by rw[<-Rat.intCast_add];exact gt0 sb
 have:=ZeR q pu
 rw[ps]at t1 t2;rw[ps',pu']at t3 t4;generalize slp p r=a1 at *;generalize slp p b=a2 at *;generalize slp p' r=a3 at *;generalize slp p' b=a4 at *;generalize slp p u=z at *;have e:(X s u:Rat)*(a1+a2)<(X s u:Rat)*(a3+a4):=by grind
 exact(Rat.mul_lt_mul_left k).mp e
theorem ZsX(c:Cn u t r b)(rb:X r b=1)(sb:0<X r t+X b t)(ps:slp p t= -x)(ps':slp p' t= -x)(pu:slp p u < -y)(pu':slp p' u= -y):slp p r+slp p b<slp p' r+slp p' b:=by
 have t1:=ZkL p u t r;have t2:=ZkL p u t b;have t3:=ZkL p' u t r;have t4:=ZkL p' u t b;have k:=gt0 c.st;have q:(0:Rat)<(X r t:Rat)+(X b t:Rat):=by rw[<-Rat.intCast_add];exact gt0 sb
 have:=ZeR q pu
 rw[ps]at t1 t2;rw[ps',pu']at t3 t4;generalize slp p r=a1 at *;generalize slp p b=a2 at *;generalize slp p' r=a3 at *;generalize slp p' b=a4 at *;generalize slp p u=z at *;have e:(X u t:Rat)*(a1+a2)<(X u t:Rat)*(a3+a4):=by grind
 exact(Rat.mul_lt_mul_left k).mp e
theorem Zlu(c:Cn s t r b)(rb:X r b=1):0<X s r+X s b/\0<X r t+X b t:=by
 have e3:=plk r b s t;rw[rb]at e3;obtain⟨st,sr,rt,sb,bt⟩:=c;generalize X r t=r1 at *;generalize X s r=r2 at *;generalize X b t=b1 at *;generalize X s b=b2 at *;constructor
 ·by_cases z:0<r2+b2
  ·exact z
  ·have e1:r2=0:=by lia
   have e2:b2=0:=by lia
   rw[e1,e2]at e3;simp at e3;lia
 ·by_cases z:0<r1+b1
  ·exact z
  ·have e1:r1=0:=by lia
   have e2:b1=0:=by lia
   rw[e1,e2]at e3;simp at e3;lia
end Rb
namespace PT
open L2 DL
open CC (F_crossed)
open CS (F_minus)
open CD (F_height_of)
open BD (F_common_bottom F_stretched F_body)
def ZcU:Sv:=(ZE (Zkj (gCs (gNm 2) (gCs (gNm 3) (gCs (gNm 4) gNl))) (Zal (iSq (Zg 1)) 1 [0] (gNm 0) (fun _ M=>.ok true M) (e2 dIx (Zg 1) (Zg 0)))) (ZE (ZJ (gNm 5) (Zcw (Zc (Zj F_crossed (Zc (Zg 3) (Zc (Zg 4) aNil))) (Zc (Zj F_crossed (Zc (Zg 4) (Zc (Zg 2) aNil))) (Zc (Zj F_crossed (Zc (Zg 2) (Zc (Zg 3) aNil))) aNil))))) (Z6 (eIf (tv (e2 dGe (Zj (ZcC List.min?) (Zc (Zg 5) aNil)) (eC (.int 0)))) (Zg 5) (eC .non)))))
def F_balance:W3:=fnF ZcU 2 4
def ZdQ:Sv:=(Z6 (Zb2 (iR1 (Zc (Zg 0) aNil)) 3 [0] (gNm 0) (fun _ M=>.ok true M) fun n=>(gIn (iR2 (Zc (e2 dAdd (Zg 0) (eC (.int 1))) (Zc (Zg 3) aNil))) (gNm 1) (fun _ M=>.ok true M) (gIn (iR2 (Zc (e2 dAdd (Zg 1) (eC (.int 1))) (Zc (Zg 3) aNil))) (gNm 2) (fun _ M=>.ok true M) (gEm (Zak (Zc (Zg 0) (Zc (Zg 1) (Zc (Zg 2) aNil)))) n)))))
def F_threes:W3:=fnF ZdQ 1 0
def ZaS:Sv:=(Zl7 (Zg 6) (Zg 8) (Zg 7))
def Zan:Sv:=(ZE (ZJ (gNm 5) (Zj F_balance (Zc (Zg 0) (Zc (Zg 4) aNil)))) (sIf (Zct (tv (e2 dIsNot (Zg 5) (eC .non))) (tv (e2 dLt (Zj (ZcC Zrt) (Zc (Zal (DLy2.iZt (Zc (Zg 5) (Zc (Zg 4) aNil))) 2 [3] (gTp (gCs (gNm 0) (gCs (gNm 1) gNl))) (fun _ M=>.ok true M) (e2 dMul (Zg 0) (e2 dIx (Zg 2) (Zg 1)))) aNil)) (eC (.int 0))))) (ZE (ZJ (gNm 6) (Zal (iSq (Zg 0)) 1 [] (gNm 0) (fun _ M=>.ok true M) (eC (.int 0)))) (ZE (Ze7 (gTp (gCs (gNm 7) (gCs (gNm 8) gNl))) (DLy2.iZt (Zc (Zg 5) (Zc (Zg 4) aNil))) ZaS) (Z6 (Zg 6)))) sNil))
def Zdh:Sv:=(ZE (ZJ (gNm 2) (Zj F_common_bottom (Zc (Zg 1) aNil))) (ZE (ZJ (gNm 3) (Zal (iSq (Zg 1)) 1 [2] (gNm 0) (fun _ M=>.ok true M) (Zj F_stretched (Zc (Zg 0) (Zc (Zg 1) aNil))))) (ZE (Zjr (gNm 4) (Zj F_threes (Zc (Zj bLen (Zc (Zg 0) aNil)) aNil)) Zan) (Z6 (eC .non)))))
def F_emptying:W3:=fnF Zdh 2 7
def ZcV:Sv:=(ZE (ZJ (gNm 2) (Zj F_body (Zc (Zg 0) (Zc (Zg 1) aNil)))) (ZE (sIf (tv (e2 dEq (Zg 2) (Zcw aNil))) (Z6 (Zak (Zc (eC (.str (PySem.Str.ofString "none"))) (Zc (Zj F_emptying (Zc (Zg 0) (Zc (Zg 1) aNil))) aNil)))) sNil) (ZE (ZJ (gNm 3) (Zj F_height_of (Zc (Zg 0) (Zc (Zg 2) aNil)))) (Z6 (Zak (Zc (eC (.str (PySem.Str.ofString "parted"))) (Zc (Zg 3) (Zc (Zal (iZp (Zc (Zg 1) (Zc (Zg 3) aNil))) 2 [] (gTp (gCs (gNm 0) (gCs (gNm 1) gNl))) (fun _ M=>.ok true M) (Zj F_minus (Zc (Zg 0) (Zc (Zg 1) aNil)))) aNil))))))))
def F_parting:W3:=fnF ZcV 2 2
end PT
namespace PT
open L2 DL
open CV CN CU CS
open CR (rt Sz)
open CH (rts ZD ZU)
open CD (pts ZQ Za9 hts)
open Rb BD
noncomputable def tri(i j k:Nat):D:=.tup [.int i,.int j,.int k]
def t3(n i j:Nat)(m:Nat):List D:=(List.range m).map fun c=>tri i j (j+1+c)
def t2(n i:Nat)(m:Nat):List D:=(List.range m).flatMap fun b=>t3 n i (i+1+b) (n-(i+1+b+1))
def t1(n m:Nat):List D:=(List.range m).flatMap fun a=>t2 n a (n-(a+1))
theorem Zqu:d∈t3 n i j m↔∃c<m,d=tri i j (j+1+c):=by simp[t3,eq_comm]
theorem Zlv:d∈t1 n n↔∃i j k,i<j/\j<k/\k<n/\d=tri i j k:=by
 simp only[t1,t2,List.mem_flatMap,List.mem_range,Zqu];constructor
 ·rintro⟨i,hi,b,hb,c,hc,rfl⟩;exact⟨i,i+1+b,i+1+b+1+c,by lia,by lia,by lia,rfl⟩
 ·rintro⟨i,j,k,h1,h2,h3,rfl⟩;exact⟨i,by lia,j-(i+1),by lia,k-(j+1),by lia,by congr 1<;>lia⟩
theorem Zlw:(t3 n i j m).length=m:=by simp[t3]
theorem Zvm:t3 n i j (m+1)=t3 n i j m++[tri i j (j+1+m)]:=by simp[t3,List.range_succ]
theorem Zvn:t2 n i (m+1)=t2 n i m++t3 n i (i+1+m) (n-(i+1+m+1)):=by simp[t2,List.range_succ]
theorem Zvo:t1 n (m+1)=t1 n m++t2 n m (n-(m+1)):=by simp[t1,List.range_succ]
theorem Zjk{n i:Nat}:∀m,(t2 n i m).length<=n*m
 |0=>by simp[t2]
 |m+1=>by
  have:=Zjk (n:=n) (i:=i) m
  unfold t2 at *;rw[List.range_succ,List.flatMap_append,List.length_append,Nat.mul_succ];simp[Zlw]at *;lia
theorem Zlx{n:Nat}:∀m,(t1 n m).length<=n*n*m
 |0=>by simp[t1]
 |m+1=>by
  have:=Zlx (n:=n) m
  have h2:=Zjk (n:=n) (i:=m) (n-(m+1));have h3:n*(n-(m+1))<=n*n:=Nat.mul_le_mul_left _ (by lia)
  unfold t1 at *;rw[List.range_succ,List.flatMap_append,List.length_append,Nat.mul_succ];simp at *;lia
section
variable {Q:W0}{M:Sto}{n i j:Nat}{hs:List Rat}{L:List D}
theorem Zt2{b:Nat}(h1:∀Q E,wO (f ρ M) Q E=Q (.int (a+1:Nat)) M)(h2:∀Q E,wO (g ρ M) Q E=Q (.int b) M)(hb:a<=1000/\b<=1000):iR2 (Zc f (Zc g aNil)) ρ M=.ok (.pur (Zaf ((a+1:Nat):Int) (b-(a+1)))) M:=by
 have:wO (iR2 (Zc f (Zc g aNil)) ρ M) (fun src M'=>src=.pur (Zaf ((a+1:Nat):Int) (b-(a+1)))/\M'=M) (fun _ _=>False):=by
  simp![Zu3,ZtG,ZtH,ZtI,kS2,h1,h2];refine⟨by lia,?_⟩
  rw[show((b:Int)-((a+1:Nat):Int)).toNat=b-(a+1)by lia]
 obtain⟨d,M',e,e1,e2⟩:=ZbF this;rw[e,e1,e2]
theorem ZsY(h:∀Q E,wO (f ρ (M++[.lst L])) Q E=Q d (M++[.lst L]))(hl:L.length<10000000):gEm f M.length ρ (M++[.lst L])=.ok ρ (M++[.lst (L++[d])]):=by
 have:wO (f ρ (M++[.lst L])) (fun d' M'=>d'=d/\M'=M++[.lst L]) (fun _ _=>False):=by rw[h];exact⟨rfl,rfl⟩
 obtain⟨d',M',e,e1,e2⟩:=ZbF this;subst e1 e2;simp[gEm,e,hl]
theorem Zly{a:Nat}(h:c<m):nxt (.pur (Zaf (a:Int) m)) c M=some (some (.int (a+c:Nat))):=by
 show some (Zaf (a:Int) m)[c]?=_;simp[Zaf,h]
theorem Zlz(h:fi ρ M=.ok (.pur (Zaf a m)) M)(e:Zc0 (.pur (Zaf a m)) tg c g m 0 ρ M=.ok ρ' M'):gIn fi tg c g ρ M=.ok ρ' M':=by
 unfold gIn;rw[h];show Zc0 _ _ _ _ (Zaf a m).length 0 ρ M=_;rw[show(Zaf a m).length=m by simp[Zaf]]
 exact e
abbrev G3(o:Nat):Ro->Sto->Out Ro:=gIn (iR2 (Zc (e2 dAdd (Zg 1) (eC (.int 1))) (Zc (Zg 3) aNil))) (gNm 2) (fun _ M=>.ok true M) (gEm (Zak (Zc (Zg 0) (Zc (Zg 1) (Zc (Zg 2) aNil)))) o)
abbrev G2(o:Nat):Ro->Sto->Out Ro:=gIn (iR2 (Zc (e2 dAdd (Zg 0) (eC (.int 1))) (Zc (Zg 3) aNil))) (gNm 1) (fun _ M=>.ok true M) (G3 o)
theorem ZsZ(hj:j<=1000)(hn:n<=1000)(hl:L.length+n<10000000):∃x2',G3 M.length [some (.int i),some (.int j),x2,some (.int n)] (M++[.lst L])=.ok [some (.int i),some (.int j),x2',some (.int n)] (M++[.lst (L++t3 n i j (n-(j+1)))]):=by
 have s:=Zt2 (M:=M++[.lst L]) (f:=e2 dAdd (Zg 1) (eC (.int 1))) (g:=Zg 3) (ρ:=[some (.int i),some (.int j),x2,some (.int n)]) (a:=j) (b:=n) (fun Q E=>by rw[show((j+1:Nat):Int)=(j:Int)+1 by lia];simp![Zn]) (fun Q E=>by simp![Zn]) ⟨hj,hn⟩
 obtain⟨ρ',M',e,x2',e1,e2⟩:=Zcm (src:=.pur (Zaf ((j+1:Nat):Int) (n-(j+1)))) (tg:=gNm 2) (c:=fun _ M=>.ok true M) (g:=gEm (Zak (Zc (Zg 0) (Zc (Zg 1) (Zc (Zg 2) aNil)))) M.length) (P:=fun c ρ M'=>∃x2',ρ=[some (.int i),some (.int j),x2',some (.int n)]/\M'=M++[.lst (L++t3 n i j c)]) (n-(j+1)) (by
  rintro c ρ M' hc ⟨x2',rfl,rfl⟩;refine⟨.int (j+1+c:Nat),[some (.int i),some (.int j),some (.int (j+1+c:Nat)),some (.int n)],_,?_,rfl,.inr ⟨_,_,rfl,ZsY (d:=tri i j (j+1+c)) (fun Q E=>by simp![Zn];rfl) (by rw[List.length_append,Zlw];lia),_,rfl,?_⟩⟩
  ·exact Zly hc
  ·rw[Zvm,List.append_assoc]) (by
  rintro ρ M' ⟨x2',rfl,rfl⟩;show some (Zaf ((j+1:Nat):Int) (n-(j+1)))[n-(j+1)]?=_;rw[List.getElem?_eq_none (by simp[Zaf])]) (n-(j+1)) 0 [some (.int i),some (.int j),x2,some (.int n)] (M++[.lst L]) (by lia) (by lia) ⟨_,rfl,by simp[t3]⟩
 refine⟨x2',?_⟩;subst e1 e2;exact Zlz s e
theorem Zs0(hi:i<=1000)(hn:n<=1000)(hl:L.length+n*n+n<10000000):∃x1' x2',G2 M.length [some (.int i),x1,x2,some (.int n)] (M++[.lst L])=.ok [some (.int i),x1',x2',some (.int n)] (M++[.lst (L++t2 n i (n-(i+1)))]):=by
 have s:=Zt2 (M:=M++[.lst L]) (f:=e2 dAdd (Zg 0) (eC (.int 1))) (g:=Zg 3) (ρ:=[some (.int i),x1,x2,some (.int n)]) (a:=i) (b:=n) (fun Q E=>by rw[show((i+1:Nat):Int)=(i:Int)+1 by lia];simp![Zn]) (fun Q E=>by simp![Zn]) ⟨hi,hn⟩
 obtain⟨ρ',M',e,x1',x2',e1,e2⟩:=Zcm (src:=.pur (Zaf ((i+1:Nat):Int) (n-(i+1)))) (tg:=gNm 1) (c:=fun _ M=>.ok true M) (g:=G3 M.length) (P:=fun c ρ M'=>∃x1' x2',ρ=[some (.int i),x1',x2',some (.int n)]/\M'=M++[.lst (L++t2 n i c)]) (n-(i+1)) (by
  rintro c ρ M' hc ⟨x1',x2',rfl,rfl⟩;have tl:=Zjk (n:=n) (i:=i) c;have tm:=Nat.mul_le_mul_left n (show c<=n by lia)
  obtain⟨x2'',e3⟩:=ZsZ (M:=M) (L:=L++t2 n i c) (i:=i) (j:=i+1+c) (n:=n) (x2:=x2') (by lia) hn (by rw[List.length_append];lia)
  refine⟨.int (i+1+c:Nat),[some (.int i),some (.int (i+1+c:Nat)),x2',some (.int n)],_,?_,rfl,.inr ⟨_,_,rfl,e3,_,_,rfl,?_⟩⟩
  ·exact Zly hc
  ·rw[Zvn,List.append_assoc]) (by
  rintro ρ M' ⟨x1',x2',rfl,rfl⟩;show some (Zaf ((i+1:Nat):Int) (n-(i+1)))[n-(i+1)]?=_;rw[List.getElem?_eq_none (by simp[Zaf])]) (n-(i+1)) 0 [some (.int i),x1,x2,some (.int n)] (M++[.lst L]) (by lia) (by lia) ⟨_,_,rfl,by simp[t2]⟩
 refine⟨x1',x2',?_⟩;subst e1 e2;exact Zlz s e
theorem Zjl(hn:n<=31):F_threes [.int n] M=.ok (.ref M.length) (M++[SO.lst (t1 n n)]):=by
 generalize ho:F_threes [.int n] M=o9;have main:wO o9 (fun d M'=>d=D.ref M.length/\M'=M++[SO.lst (t1 n n)]) (fun _ _=>False):=by
  rw[<-ho];simp![Zu2,ZtE,ZtF,kS1,F_threes,ZdQ,ZiQ];refine⟨by lia,?_⟩
  rw[Int.toNat_natCast];obtain⟨ρ',M',e,x0,x1,x2,e1,e2⟩:=Zcm (src:=.pur (Zaf 0 n)) (tg:=gNm 0) (c:=fun _ M=>.ok true M) (g:=G2 M.length) (P:=fun c ρ M'=>∃x0 x1 x2,ρ=[x0,x1,x2,some (.int n)]/\M'=M++[.lst (t1 n c)]) n (by
   rintro c ρ M' hc ⟨x0,x1,x2,rfl,rfl⟩;have tl:=Zlx (n:=n) c;have t1b:n*n*c<=31*31*31:=Nat.mul_le_mul (Nat.mul_le_mul hn hn) (by lia)
   have t2b:n*n<=31*31:=Nat.mul_le_mul hn hn;obtain⟨x1',x2',e3⟩:=Zs0 (M:=M) (L:=t1 n c) (i:=c) (n:=n) (x1:=x1) (x2:=x2) (by lia) (by lia) (by lia)
   refine⟨.int (c:Nat),[some (.int (c:Nat)),x1,x2,some (.int n)],_,?_,rfl,.inr ⟨_,_,rfl,e3,_,_,_,rfl,?_⟩⟩
   ·show some (Zaf 0 n)[c]?=_;simp[Zaf,hc]
   ·rw[Zvo]) (by
   rintro ρ M' ⟨x0,x1,x2,rfl,rfl⟩;show some (Zaf 0 n)[n]?=_;rw[List.getElem?_eq_none (by simp[Zaf])]) (cnt (.pur (Zaf 0 n)) M) 0 (roB 3 [0] [some (.int n)]) (M++[.lst []]) (by lia) (by simp[cnt,Zaf]) ⟨_,_,_,rfl,by simp[t1]⟩
  refine⟨ρ',M',e,?_⟩;rw[e2];exact⟨rfl,rfl⟩
 obtain⟨d,M',e,e1,e2⟩:=ZbF main;rw[e,e1,e2]
def bal(rs:List Pt)(i j k:Nat):List Int:=[X (cy rs j) (cy rs k),X (cy rs k) (cy rs i),X (cy rs i) (cy rs j)]
noncomputable def Nn(l:List Int):Prop:=∀x∈l,0<=x
theorem Zjm(h:M[n]?=some (.lst (prs rs)))(hb:Nr B rs)(hi:i<rs.length)(hj:j<rs.length)(hk:k<rs.length)(q1:∀o M',Nn (bal rs i j k)->Kp M M'->M.length<=o->M'[o]?=some (.lst (nts (bal rs i j k)))->Q (.ref o) M')(q2:∀M',¬Nn (bal rs i j k)->Kp M M'->Q .non M')(hB:B<=400:=by first|decide|assumption):wO (F_balance [.ref n,tri i j k] M) Q E:=by
 have hn:=Zv h;have hne:rs≠[]:=fun z=>by rw[z]at hi;simp at hi
 have bi:=hb _ (ZX (i:=i) hne);have bj:=hb _ (ZX (i:=j) hne);have bk:=hb _ (ZX (i:=k) hne);unfold tri;simp![ZuV,Zsq,ZpX,kIf,ZuI,ZqP,F_balance,ZcU,Zp1];refine ZqR (xs:=[.int i,.int j,.int k]) (fun ρ=>∃x,ρ=[x,some (.ref n)]) (fun c=>pr (cy rs ([(i:Int),j,k].getD c 0)).1 (cy rs ([(i:Int),j,k].getD c 0)).2) (by simp) (by simp[cnt]) ⟨_,rfl⟩ (fun L c hc=>rfl) ?_ ?_
 ·rintro c hc ρ L ⟨x,rfl⟩;have hm:(M++L)[n]?=some (.lst (prs rs)):=by rw[List.getElem?_append_left hn];exact h
  obtain⟨z,hz,ez,eg⟩:∃z:Nat,z<rs.length/\[D.int (i:Int),D.int (j:Int),D.int (k:Int)][c]=D.int (z:Int)/\[(i:Int),j,k].getD c 0=(z:Int):=by
   match c,hc with
   |0,_=>exact⟨i,hi,rfl,rfl⟩
   |1,_=>exact⟨j,hj,rfl,rfl⟩
   |2,_=>exact⟨k,hk,rfl,rfl⟩
  rw[ez,eg];simp![ZuV,Zsq,ZpX,kIf,ZuI,ZqP,hm,ZbG];exact⟨_,rfl⟩
 ·have e:(List.range [D.int (i:Int),D.int (j:Int),D.int (k:Int)].length).map (fun c=>pr (cy rs ([(i:Int),j,k].getD c 0)).1 (cy rs ([(i:Int),j,k].getD c 0)).2)=[pr (cy rs i).1 (cy rs i).2,pr (cy rs j).1 (cy rs j).2,pr (cy rs k).1 (cy rs k).2]:=rfl;rw[e];simp![ZuV,Zsq,ZpX,kIf,ZuI,ZqP,ZtW,Zp0,Zm8,ZnG bi,ZnG bj,ZnG bk];have ei:ZaD [D.int (X (cy rs j) (cy rs k)),D.int (X (cy rs k) (cy rs i)),D.int (X (cy rs i) (cy rs j))]=some (bal rs i j k):=rfl;have em:(bal rs i j k).min?=some (min (min (X (cy rs j) (cy rs k)) (X (cy rs k) (cy rs i))) (X (cy rs i) (cy rs j))):=rfl;have en:[D.int (X (cy rs j) (cy rs k)),D.int (X (cy rs k) (cy rs i)),D.int (X (cy rs i) (cy rs j))]=nts (bal rs i j k):=rfl;have nn:Nn (bal rs i j k)↔0<=min (min (X (cy rs j) (cy rs k)) (X (cy rs k) (cy rs i))) (X (cy rs i) (cy rs j)):=by
   simp only[Nn,bal,List.mem_cons,List.not_mem_nil,or_false,forall_eq_or_imp,forall_eq];lia
  simp![ZuV,Zsq,ZpX,kIf,ZuI,ZqP,ZpW,ZpV,ei,em];refine brO (fun c=>?_) (fun c=>?_)
  ·simp![ZuV,Zsq,ZpX,kIf,ZuI,ZqP,Zn];exact q1 _ _ (nn.mpr c) Kp.app (by simp) (by rw[<-en];simp)
  ·simp![ZuV,Zsq,ZpX,kIf,ZuI,ZqP,Zn];exact q2 _ (fun z=>c (nn.mp z)) Kp.app
def Bl(rs:List Pt)(ws:List Int)(i j k:Nat):Prop:=Nn (bal rs i j k)/\X (cy rs j) (cy rs k)*cn ws i+X (cy rs k) (cy rs i)*cn ws j+X (cy rs i) (cy rs j)*cn ws k<0
def whl(B:Nat)(hs:List Rat):List Int:=hs.map (stc B)
def wts(rs:List Pt)(i j k:Nat):List Int:=(((List.replicate rs.length 0).set i (X (cy rs j) (cy rs k))).set j (X (cy rs k) (cy rs i))).set k (X (cy rs i) (cy rs j))
theorem Zjn:(whl B hs).length=hs.length:=List.length_map _
theorem ZcW(h:i<hs.length):cn (whl B hs) i=stc B (cq hs i):=by
 unfold cn whl;rw[show((i:Int)%((hs.map (stc B)).length:Int)).toNat=i by rw[List.length_map,Int.emod_eq_of_lt (by lia) (by lia)];simp,Za8 h]
 simp[h]
theorem Znr{F:Nat->Int}(h1:ts.length=n)(h:∀i<n,F i=cn ts i):(List.range n).map (fun(i:Nat)=>D.int (F i))=nts ts:=by
 refine List.ext_getElem (by simp[ZbP,h1]) fun i h2 h3=>?_
 rw[CN.Znd h3];simp at h2;simp[h i h2]
theorem Zns:(nts l).set i (.int v)=nts (l.set i v):=by simp[nts]
def Em(rs:List Pt)(ws:List Int)(d:D)(M:Sto):Prop:=(d=.non/\∀i j k,i<j->j<k->k<rs.length->¬Bl rs ws i j k)\/∃i j k o,i<j/\j<k/\k<rs.length/\Bl rs ws i j k/\d=.ref o/\M[o]?=some (.lst (nts (wts rs i j k)))
def Zqv(F9:W3):Sv:=(ZE (ZJ (gNm 2) (Zj F_common_bottom (Zc (Zg 1) aNil))) (ZE (ZJ (gNm 3) (Zal (iSq (Zg 1)) 1 [2] (gNm 0) (fun _ M=>.ok true M) (Zj F_stretched (Zc (Zg 0) (Zc (Zg 1) aNil))))) (ZE (Zjr (gNm 4) (Zj F9 (Zc (Zj bLen (Zc (Zg 0) aNil)) aNil)) Zan) (Z6 (eC .non)))))
theorem ZgP(te:∀(n:Nat)(M:Sto),n<=31->F9 [.int n] M=.ok (.ref M.length) (M++[SO.lst (t1 n n)]))(h:M[n]?=some (.lst (prs rs)))(hb:Nr B rs)(hne:rs≠[])(hl:rs.length<=31)(h':M[m]?=some (.lst (rts hs)))(e:hs.length=rs.length)(hz:∀x∈hs,Sz l x)(hk:l<=4000)(q:∀d M',Em rs (whl (Zbk hs) hs) d M'->(∀o,d=.ref o->M.length<=o)->Kp M M'->Q d M')(hB:B<=400:=by first|decide|assumption):wO (fnF (Zqv F9) 2 7 [.ref n,.ref m] M) Q E:=by
 have hn:=Zv h;have hm:=Zv h';have lb:=Zfx (xs:=hs) hz;have lb2:hs.length*l+1<=50000000:=by
  have:=Nat.mul_le_mul (show hs.length<=31 by lia) hk
  lia
 simp![ZuX,ZpJ,Zso,ZpQ,Zst,ZpX,kPu,Zm2,Zr6,Zr8,Zpq,Zpr,Zqv,Zgm h' (by lia) hz (by lia)]
 generalize hBB:((Zbk hs:Nat):Int)=B9;refine ZpY (fun ρ=>∃x,ρ=[x,some (.int B9)]) (fun c=>.int (stc (Zbk hs) (cq hs c))) h' (by rw[ZD];lia) ⟨_,rfl⟩ ?_ ?_
 ·rintro c hc ρ L ⟨x,rfl⟩;rw[Zbu];have sw:∀{Q:W0}{E:W2}{M:Sto},wO (F_stretched [rt (cq hs c),.int B9] M) Q E=Q (.int (stc (Zbk hs) (cq hs c))) M:=by
   intro Q E M;rw[<-hBB];exact Zbx (Zbt (i:=c) hz (by have:=List.length_pos_iff.mpr hne;lia)) (by lia) lb lb2
  simp![ZuX,ZpJ,Zso,ZpQ,Zst,ZpX,kPu,Zm2,Zr6,Zr8,Zpq,Zpr,sw];exact⟨_,rfl⟩
 rw[ZD,Znr (ts:=whl (Zbk hs) hs) Zjn (fun i hi=>(ZcW hi).symm)];generalize hw:whl (Zbk hs) hs=ws at *;clear hBB;have lw:ws.length=rs.length:=by rw[<-hw,Zjn,e]
 have K1:Kp M (M++[SO.lst (nts ws)]):=Kp.app;have r1:(M++[SO.lst (nts ws)])[M.length]?=some (.lst (nts ws)):=by simp
 have h1:=K1.get h;simp![ZuX,ZpJ,Zso,ZpQ,Zst,ZpX,kPu,Zm2,Zr6,Zr8,Zpq,Zpr,h1];rw[te _ _ hl];show wS (Zl8 _ _ _ _ _) _ _ _ _ _;have K2:Kp M (M++[SO.lst (nts ws)]++[SO.lst (t1 rs.length rs.length)]):=by rw[List.append_assoc];exact Kp.app
 have r2:(M++[SO.lst (nts ws)]++[SO.lst (t1 rs.length rs.length)])[M.length]?=some (.lst (nts ws)):=by simp
 have r3:(M++[SO.lst (nts ws)]++[SO.lst (t1 rs.length rs.length)])[(M++[SO.lst (nts ws)]).length]?=some (.lst (t1 rs.length rs.length)):=by simp
 have hlt:=Zv r3;generalize M++[SO.lst (nts ws)]++[SO.lst (t1 rs.length rs.length)]=M2 at *;have o2lt:M.length<(M++[SO.lst (nts ws)]).length:=by simp
 generalize (M++[SO.lst (nts ws)]).length=o2 at *;refine ZbO (xs:=t1 rs.length rs.length) (fun c ρ M'=>Kp M2 M'/\(∃x4 x5 x6 x7 x8,ρ=[some (.ref n),some (.ref m),some (.int B9),some (.ref M.length),x4,x5,x6,x7,x8])/\∀i j k,i<j->j<k->k<rs.length->tri i j k∈(t1 rs.length rs.length).take c->¬Bl rs ws i j k) r3 ⟨Kp.refl,⟨_,_,_,_,_,rfl⟩,fun i j k _ _ _ z=>(by simp at z)⟩ (fun c ρ M' hI=>hI.1.get r3) ?_ ?_
 ·rintro c ρ M3 hc ⟨K3,⟨x4,x5,x6,x7,x8,rfl⟩,hI⟩;obtain⟨i,j,k,ij,jk,kn,et⟩:=Zlv.mp (List.getElem_mem hc);have tk:(t1 rs.length rs.length).take (c+1)=(t1 rs.length rs.length).take c++[tri i j k]:=by rw[List.take_succ_eq_append_getElem hc,et]
  rw[et];have hp:=(K2.trans K3).get h;have inj:∀a b d,tri a b d=tri i j k->a=i/\b=j/\d=k:=fun a b d z=>by
   simp only[tri,D.tup.injEq,List.cons.injEq,D.int.injEq,and_true]at z;lia
  have nx:¬Bl rs ws i j k->∀a b d,a<b->b<d->d<rs.length->tri a b d∈(t1 rs.length rs.length).take (c+1)->¬Bl rs ws a b d:=fun nb a b d h1 h2 h3 hm=>by
   rw[tk]at hm;rcases List.mem_append.mp hm with z|z
   ·exact hI a b d h1 h2 h3 z
   ·simp at z;obtain⟨rfl,rfl,rfl⟩:=inj a b d z;exact nb
  simp![ZuX,ZpJ,Zso,ZpQ,Zst,ZpX,kPu,Zm2,Zr6,Zr8,Zpq,Zpr,Zan];refine Zjm hp hb (by lia) (by lia) kn (fun o M4 nn K4 lo ro=>?_) (fun M4 nn K4=>?_)
  ·have ho:=Zv ro;have r4:=(K3.trans K4).get r2;have h4:=K4.get hp;have bi:=hb _ (ZX (i:=i) hne);have bj:=hb _ (ZX (i:=j) hne);have bk:=hb _ (ZX (i:=k) hne);have x1:=Zi8 bj bk;have x2:=Zi8 bk bi;have x3:=Zi8 bi bj;simp![ZuX,ZpJ,Zso,ZpQ,Zst,ZpX,kPu,Zm2,Zr6,Zr8,Zpq,Zpr,ZtX];refine⟨o,_,rfl,?_⟩;refine Zvc (fun ρ=>∃x y,ρ=[x,y,some (.ref M.length)]) (fun c=>.int ((bal rs i j k).getD c 0*cn ws (([(i:Int),j,k]).getD c 0))) ro (by simp[nts,bal,tri]) (by simp) ⟨_,_,rfl⟩ ?_ ?_
   ·rintro c hc ρ L ⟨x,y,rfl⟩;have hm4:(M4++L)[M.length]?=some (.lst (nts ws)):=(Kp.app (L:=L)).get r4;obtain⟨z,a,hz',ez,eg,ea,eb,al⟩:∃(z:Nat) (a:Int),z<rs.length/\[D.int (i:Int),D.int (j:Int),D.int (k:Int)][c]=D.int (z:Int)/\[(i:Int),j,k].getD c 0=(z:Int)/\(nts (bal rs i j k))[c]'(by simp[nts,bal];simpa using hc)=.int a/\(bal rs i j k).getD c 0=a/\a.natAbs<2^19:=by
     match c,hc with
     |0,_=>exact⟨i,_,by lia,rfl,rfl,rfl,rfl,x1⟩
     |1,_=>exact⟨j,_,by lia,rfl,rfl,rfl,rfl,x2⟩
     |2,_=>exact⟨k,_,kn,rfl,rfl,rfl,rfl,x3⟩
    rw[ez,ea,eg,eb];simp![ZuX,ZpJ,Zso,ZpQ,Zst,ZpX,kPu,Zm2,Zr6,Zr8,Zpq,Zpr,hm4,Zli];exact⟨_,_,rfl⟩
   ·have e3:(List.range [D.int (i:Int),D.int (j:Int),D.int (k:Int)].length).map (fun c=>D.int ((bal rs i j k).getD c 0*cn ws (([(i:Int),j,k]).getD c 0)))=[D.int (X (cy rs j) (cy rs k)*cn ws i),D.int (X (cy rs k) (cy rs i)*cn ws j),D.int (X (cy rs i) (cy rs j)*cn ws k)]:=rfl;rw[e3];have ei:ZaD [D.int (X (cy rs j) (cy rs k)*cn ws i),D.int (X (cy rs k) (cy rs i)*cn ws j),D.int (X (cy rs i) (cy rs j)*cn ws k)]=some [X (cy rs j) (cy rs k)*cn ws i,X (cy rs k) (cy rs i)*cn ws j,X (cy rs i) (cy rs j)*cn ws k]:=rfl;have es:Zrt [X (cy rs j) (cy rs k)*cn ws i,X (cy rs k) (cy rs i)*cn ws j,X (cy rs i) (cy rs j)*cn ws k]=some (X (cy rs j) (cy rs k)*cn ws i+X (cy rs k) (cy rs i)*cn ws j+X (cy rs i) (cy rs j)*cn ws k):=by
     show some _=some _;congr 1;simp;lia
    simp![ZuX,ZpJ,Zso,ZpQ,Zst,ZpX,kPu,Zm2,Zr6,Zr8,Zpq,Zpr,ZpW,ZpV,ei,es];refine brS (fun c3=>?_) (fun c3=>?_)
    ·have K5:Kp M4 (M4++[SO.lst [D.int (X (cy rs j) (cy rs k)*cn ws i),D.int (X (cy rs k) (cy rs i)*cn ws j),D.int (X (cy rs i) (cy rs j)*cn ws k)]]):=Kp.app;simp![ZuX,ZpJ,Zso,ZpQ,Zst,ZpX,kPu,Zm2,Zr6,Zr8,Zpq,Zpr,Zn];generalize M4++[SO.lst [D.int (X (cy rs j) (cy rs k)*cn ws i),D.int (X (cy rs k) (cy rs i)*cn ws j),D.int (X (cy rs i) (cy rs j)*cn ws k)]]=M5 at *;have h5:=K5.get h4;refine ZpY (fun ρ=>∃x,ρ=[x]) (fun c=>.int 0) h5 (by rw[ZP];lia) ⟨_,rfl⟩ ?_ ?_
     ·rintro c hc ρ L ⟨x,rfl⟩;simp![ZuX,ZpJ,Zso,ZpQ,Zst,ZpX,kPu,Zm2,Zr6,Zr8,Zpq,Zpr,Zn];exact⟨_,rfl⟩
     rw[ZP];have e0:(List.range rs.length).map (fun _=>D.int 0)=nts (List.replicate rs.length 0):=by simp[nts,List.map_const']
     rw[e0];have K6:=K5.trans (Kp.app (L:=[SO.lst (nts (List.replicate rs.length 0))]));have r6:(M5++[SO.lst (nts (List.replicate rs.length 0))])[M5.length]?=some (.lst (nts (List.replicate rs.length 0))):=by simp
     have lM5:=K5.1;generalize M5++[SO.lst (nts (List.replicate rs.length 0))]=M6 at *;generalize M5.length=o6 at *;have ro6:=K6.get ro;simp![ZuX,ZpJ,Zso,ZpQ,Zst,ZpX,kPu,Zm2,Zr6,Zr8,Zpq,Zpr,ZtX];refine⟨o,_,rfl,?_⟩;have ne6:o6≠o:=by lia
     refine Zm9 (fun c ρ M'=>Kp M4 M'/\M'[o]?=some (.lst (nts (bal rs i j k)))/\(∃x7 x8,ρ=[some (.ref n),some (.ref m),some (.int B9),some (.ref M.length),some (tri i j k),some (.ref o),some (.ref o6),x7,x8])/\∃us:List Int,us.length=rs.length/\M'[o6]?=some (.lst (nts us))/\us=[List.replicate rs.length 0,(List.replicate rs.length 0).set i (X (cy rs j) (cy rs k)),((List.replicate rs.length 0).set i (X (cy rs j) (cy rs k))).set j (X (cy rs k) (cy rs i)),wts rs i j k].getD c []) ro6 (by simp[nts,bal,tri]) ⟨K6,ro6,⟨_,_,rfl⟩,_,by simp,r6,rfl⟩ (fun c ρ M' hI=>hI.2.1) ?_ ?_
     ·rintro c ρ M7 hc ⟨K7,ro7,⟨x7,x8,rfl⟩,us,lu,ru,eu⟩;have hlu:=Zv ru;obtain⟨z,a,hz',ez,ea,eu2⟩:∃(z:Nat) (a:Int),z<rs.length/\[D.int (i:Int),D.int (j:Int),D.int (k:Int)][c]=D.int (z:Int)/\(nts (bal rs i j k))[c]'(by simp[nts,bal];simpa using hc)=.int a/\us.set z a=[List.replicate rs.length 0,(List.replicate rs.length 0).set i (X (cy rs j) (cy rs k)),((List.replicate rs.length 0).set i (X (cy rs j) (cy rs k))).set j (X (cy rs k) (cy rs i)),wts rs i j k].getD (c+1) []:=by
       match c,hc with
       |0,_=>exact⟨i,_,by lia,rfl,rfl,by rw[eu];rfl⟩
       |1,_=>exact⟨j,_,by lia,rfl,rfl,by rw[eu];rfl⟩
       |2,_=>exact⟨k,_,kn,rfl,rfl,by rw[eu];rfl⟩
      rw[ez,ea];have ix:ixN us.length (z:Int)=some z:=ZiP (by lia)
      simp![ZuX,ZpJ,Zso,ZpQ,Zst,ZpX,kPu,Zm2,Zr6,Zr8,Zpq,Zpr,ZaS,ru,ix,Zns];refine⟨K7.set (by lia),?_,⟨_,_,rfl⟩,us.set z a,by simp[lu],?_,eu2⟩
      ·first|exact ro7|(rw[List.getElem?_set_ne ne6];exact ro7)
      ·first|rfl|rw[List.getElem?_set_self hlu]
     ·rintro ρ M7 ⟨K7,ro7,⟨x7,x8,rfl⟩,us,lu,ru,eu⟩;simp![ZuX,ZpJ,Zso,ZpQ,Zst,ZpX,kPu,Zm2,Zr6,Zr8,Zpq,Zpr,Zn];refine q _ _ (.inr ⟨i,j,k,o6,ij,jk,kn,⟨nn,c3⟩,rfl,?_⟩) (fun o z=>by cases z;have:=K2.1;have:=K3.1;have:=K4.1;lia) (((K2.trans K3).trans K4).trans K7)
      rw[ru,eu];rfl
    ·simp![ZuX,ZpJ,Zso,ZpQ,Zst,ZpX,kPu,Zm2,Zr6,Zr8,Zpq,Zpr,Zn];exact⟨(K3.trans K4).trans Kp.app,⟨_,_,_,_,_,rfl⟩,nx fun z=>c3 z.2⟩
  ·simp![ZuX,ZpJ,Zso,ZpQ,Zst,ZpX,kPu,Zm2,Zr6,Zr8,Zpq,Zpr,Zn];exact⟨K3.trans K4,⟨_,_,_,_,_,rfl⟩,nx fun z=>nn z.1⟩
 ·rintro ρ M3 ⟨K3,⟨x4,x5,x6,x7,x8,rfl⟩,hI⟩;simp![ZuX,ZpJ,Zso,ZpQ,Zst,ZpX,kPu,Zm2,Zr6,Zr8,Zpq,Zpr,Zn];exact q _ _ (.inl ⟨rfl,fun i j k h1 h2 h3=>hI i j k h1 h2 h3 (by rw[List.take_length];exact Zlv.mpr ⟨i,j,k,h1,h2,h3,rfl⟩)⟩) (fun o z=>by cases z) (K2.trans K3)
theorem ZgQ(h:M[n]?=some (.lst (prs rs)))(hb:Nr B rs)(hne:rs≠[])(hl:rs.length<=31)(h':M[m]?=some (.lst (rts hs)))(e:hs.length=rs.length)(hz:∀x∈hs,Sz l x)(hk:l<=4000)(q:∀d M',Em rs (whl (Zbk hs) hs) d M'->(∀o,d=.ref o->M.length<=o)->Kp M M'->Q d M')(hB:B<=400:=by first|decide|assumption):wO (F_emptying [.ref n,.ref m] M) Q E:=ZgP (F9:=F_threes) (fun n M h=>Zjl h) h hb hne hl h' e hz hk q
theorem ZdR:(hts rs ms).length=rs.length:=List.length_map _
theorem Zqw(hne:ms≠[])(hb:Nr B rs)(hz:∀x∈ms,Sz k x.1/\Sz k x.2)(hB:B<=400:=by first|decide|assumption):∀x∈hts rs ms,Sz (2*k+21) x:=by
 intro x hx;obtain⟨r,hr,rfl⟩:=List.mem_map.mp hx
 have:=CD.Zng (xs:=ms.map fun m=>0-slp m r) (by simpa using hne)
 obtain⟨m,hm,e⟩:=List.mem_map.mp this;rw[<-e]
 have:=CS.Zge (CS.ZN (z:=0) (k:=1) (by decide) (by decide)) (CD.Zft (hz m hm).1 (hz m hm).2 (hb r hr))
 exact Zi0 this (by lia)
theorem ZeS(h:M[n]?=some (.lst (prs rs)))(hs':Smo rs)(hb:Nr B rs)(hl:rs.length<=31)(h':M[m]?=some (.lst (rts hs)))(e:hs.length=rs.length)(hz:∀x∈hs,Sz l x)(hk:l<=300)(qn:∀d M',(∀p,¬Cor rs hs p)->Em rs (whl (Zbk hs) hs) d M'->(∀o,d=.ref o->M.length<=o)->Kp M M'->Q (.tup [.str (PySem.Str.ofString "none"),d]) M')(qp:∀ms a b M',Bod rs hs ms->ms≠[]->(∀p∈ms,Sz (4*l+61) p.1/\Sz (4*l+61) p.2)->Kp M M'->M.length<=a->M.length<=b->M'[a]?=some (.lst (rts (hts rs ms)))->M'[b]?=some (.lst (rts (Zlp hs (hts rs ms))))->a≠b->Q (.tup [.str (PySem.Str.ofString "parted"),.ref a,.ref b]) M')(hB:B<=400:=by first|decide|assumption):wO (F_parting [.ref n,.ref m] M) Q E:=by
 have hn:=Zv h;have hm:=Zv h';simp![Zu6,kZp,F_parting,ZcV];refine Zqq h hs' hb hl h' e hz (by lia) fun ms o M1 bo zp lm K1 lo ro=>?_
 have eq0:eqF 12 (M1++[SO.lst []]) (.ref o) (.ref M1.length)=some (decide (ms=[])):=by
  have a1:=(Kp.app (L:=[SO.lst []])).get ro;rw[ZiN a1 (show(M1++[SO.lst []])[M1.length]?=some (.lst [])by simp)]
  cases ms with
  |nil=>rfl
  |cons a r=>rfl
 simp![Zu6,kZp,eq0];have K2:Kp M (M1++[SO.lst []]):=K1.trans Kp.app;refine brS (fun c=>?_) (fun c=>?_)
 ·simp![Zu6,kZp,Zn];refine ZgQ (K2.get h) hb hs'.ne hl (K2.get h') e hz (by lia) fun d M3 em on K3=>?_
  simp![Zu6,kZp,Zn];exact qn d M3 (fun p hp=>by have:=(bo.1 p).mpr hp;rw[c]at this;cases this) em (fun o z=>Nat.le_trans K2.1 (on o z)) (K2.trans K3)
 ·simp![Zu6,kZp,Zn];refine CD.Zfu (K2.get h) hs' hb (by lia) ((Kp.app (L:=[SO.lst []])).get ro) c (by lia) zp (by lia) fun M3 K3 r3=>?_
  simp![Zu6,kZp,Zn];rw[show(M1++[SO.lst []]).length=M1.length+1 by simp]at r3
  have K4:=K2.trans K3;have hsz:=Zqw (rs:=rs) c hb zp;have l0:0<rs.length:=List.length_pos_iff.mpr hs'.ne;refine ZsM (u:=hs) (v:=hts rs ms) (N:=rs.length) (zs:=Zlp hs (hts rs ms)) (K4.get h') r3 e ZdR (by lia) (Zgg e ZdR) (fun i hi L=>?_) ?_
  ·simp![Zu6,kZp,ZdI (Zbt (i:=i) hz (by lia)) (Zbt (i:=i) hsz (by rw[ZdR];lia)) (by lia)]
   rw[Zqd e ZdR hi]
  ·simp![Zu6,kZp,Zn];have lM:=K4.1;have l3:=Zv r3;have l2:=K2.1;exact qp ms _ _ _ bo c zp (K4.trans Kp.app) (by have:=K1.1;lia) (by lia) ((Kp.app (L:=[SO.lst (rts (Zlp hs (hts rs ms)))])).get r3) (by simp) (by lia)
end
end PT
namespace PT
open L2 DL
open CN (cq)
open CS (slp)
open TW
open Rb BD
section
variable {rs:List Pt}
theorem Zvp(h:Smo rs)(hs0:s<rs.length)(hm:m<rs.length)(ne:m≠s)(h1:X (cy rs s) (cy rs m)<=0):X (cy rs s) (cy rs (m+1))<=0:=by
 by_cases z:X (cy rs s) (cy rs (m+1))<=0
 ·exact z
 ·exfalso;have hr:=h.rn;have p2:=hr.pos s;have w0:cy rs s≠(0,0):=by
   intro z;rw[z]at p2;unfold X at p2;simp at p2
  have c:=(hr.fan (cy rs s) w0).1;rw[Zgh hr.ne]at c;have sw:X (cy rs m) (cy rs s)= -(X (cy rs s) (cy rs m)):=by unfold X;grind
  have a1:=ZdF (w:=cy rs s) (a:=cy rs m) (b:=cy rs (m+1)) (by lia) (by lia)
  have a2:=ZdF (w:=cy rs s) (a:=cy rs s) (b:=cy rs (s+1)) (by rw[XX];lia) p2
  rcases(show s<m\/m<s by lia)with y|y
  ·have g:=ZeP (f:=in1 (cy rs s)) (rs:=rs) rs.length 0 s m y hm;rw[show(0:Int)+s=s by lia,show(0:Int)+m=m by lia,a1,a2]at g
   lia
  ·have g:=ZeP (f:=in1 (cy rs s)) (rs:=rs) rs.length 0 m s y hs0;rw[show(0:Int)+s=s by lia,show(0:Int)+m=m by lia,a1,a2]at g
   lia
theorem ZdS(h:Smo rs){s u:Nat}(hs0:s<rs.length)(h1:X (cy rs s) (cy rs u)<=0):∀t:Nat,u<=t->t<=rs.length->(∀m,u<=m->m<t->m≠s)->X (cy rs s) (cy rs t)<=0:=by
 intro t
 induction t with
 |zero=>intro a b c;rw[show u=0 by lia]at h1;exact h1
 |succ t ih=>
  intro a b c;by_cases e:u=t+1
  ·rw[<-e];exact h1
  ·have:=ih (by lia) (by lia) fun m m1 m2=>c m m1 (by lia)
   have:=Zvp h hs0 (show t<rs.length by lia) (c t (by lia) (by lia)) this
   rw[show((t+1:Nat):Int)=(t:Int)+1 by lia]
   exact this
theorem Zqx:cy rs ((rs.length:Nat):Int)=cy rs ((0:Nat):Int):=by
 rw[<-Zdc (i:=((rs.length:Nat):Int))];simp
theorem Zs1(h:Smo rs)(hs0:s<rs.length)(ht:t<rs.length)(hu:u<rs.length)(st:0<X (cy rs s) (cy rs t))(su:X (cy rs s) (cy rs u)<=0):¬((s<u/\u<t)\/(u<t/\t<s)\/(t<s/\s<u)):=by
 rintro(⟨a,b⟩|⟨a,b⟩|⟨a,b⟩)
 ·have:=ZdS h hs0 su t (by lia) (by lia) fun m m1 m2=>by lia
  lia
 ·have:=ZdS h hs0 su t (by lia) (by lia) fun m m1 m2=>by lia
  lia
 ·have e:=ZdS h hs0 su rs.length (by lia) (by lia) fun m m1 m2=>by lia
  rw[Zqx]at e
  have:=ZdS h hs0 e t (by lia) (by lia) fun m m1 m2=>by lia
  lia
theorem Znt(h:Smo rs)(no:∀p,¬Cor rs hs p):∃s t u:Nat,s<rs.length/\t<rs.length/\u<rs.length/\0<X (cy rs s) (cy rs t)/\0<=X (cy rs t) (cy rs u)/\0<=X (cy rs u) (cy rs s)/\(X (cy rs t) (cy rs u):Rat)*cq hs s+(X (cy rs u) (cy rs s):Rat)*cq hs t+(X (cy rs s) (cy rs t):Rat)*cq hs u<0:=by
 have l3:=h.len;have hi:0<rs.length:=by lia
 have rb:=h.one ((0:Nat):Int);obtain⟨j,hj,ej⟩:=BD.Zi9 (rs:=rs) (z:=((0:Nat):Int)+1) h.ne
 let L:List (Nat×Nat):=(List.range rs.length).flatMap fun a=>(List.range rs.length).map fun b=>(a,b)
 have mem:∀a b,a<rs.length->b<rs.length->(a,b)∈L:=fun a b ha hb=>List.mem_flatMap.mpr ⟨a,List.mem_range.mpr ha,List.mem_map.mpr ⟨b,List.mem_range.mpr hb,rfl⟩⟩;have mem':∀x∈L,x.1<rs.length/\x.2<rs.length:=fun x hx=>by
  obtain⟨a,ha,hb⟩:=List.mem_flatMap.mp hx;obtain⟨b,hb2,rfl⟩:=List.mem_map.mp hb;exact⟨List.mem_range.mp ha,List.mem_range.mp hb2⟩
 let pt (x:Nat×Nat):RP:=BL.crn (cy rs x.1) (cy rs x.2) (cq hs x.1) (cq hs x.2)
 have xx:∀p:Pt,X p p=0:=fun p=>by unfold X;grind
 obtain⟨⟨s,t⟩,hst,cn,mx⟩:=Zt1 (fun x:Nat×Nat=>Cn (cy rs x.1) (cy rs x.2) (cy rs ((0:Nat):Int)) (cy rs (((0:Nat):Int)+1))) (fun x=>slp (pt x) (cy rs ((0:Nat):Int))+slp (pt x) (cy rs (((0:Nat):Int)+1))) L ⟨(0,j),mem 0 j hi hj,by
  simp only[ej];exact⟨by lia,by rw[xx];lia,by lia,by lia,by rw[xx];lia⟩⟩
 obtain⟨hs0,ht0⟩:=mem' _ hst;simp only at cn hs0 ht0;have on:∀a b:Nat,X (cy rs a) (cy rs b)≠0->slp (pt (a,b)) (cy rs a)= -(cq hs a)/\slp (pt (a,b)) (cy rs b)= -(cq hs b):=fun a b ne=>(BL.Zjj ne).mp rfl;obtain⟨o1,o2⟩:=on s t (by have:=cn.st;lia)
 have nw:¬Win rs hs (pt (s,t)):=fun w=>no _ ⟨w,s,t,⟨hs0,o1⟩,⟨ht0,o2⟩,by have:=cn.st;lia⟩
 have ex:∃u,u<rs.length/\slp (pt (s,t)) (cy rs u) < -(cq hs u):=by
  classical
  by_cases z:∃u,u<rs.length/\slp (pt (s,t)) (cy rs u) < -(cq hs u)
  ·exact z
  ·refine absurd (fun u hu=>?_) nw;by_cases y: -(cq hs u)<=slp (pt (s,t)) (cy rs u)
   ·exact y
   ·exact absurd ⟨u,hu,by grind⟩ z
 obtain⟨u,hu,z⟩:=ex;by_cases no:X (cy rs u) (cy rs t)<=0/\X (cy rs s) (cy rs u)<=0
 ·have t2:=ZkL (pt (s,t)) (cy rs s) (cy rs t) (cy rs u);have k:=gt0 cn.st;rw[o1,o2]at t2;have b4:=ZeR k z;have w1:X (cy rs t) (cy rs u)= -(X (cy rs u) (cy rs t)):=by unfold X;grind
  have w2:X (cy rs u) (cy rs s)= -(X (cy rs s) (cy rs u)):=by unfold X;grind
  refine⟨s,t,u,hs0,ht0,hu,cn.st,by lia,by lia,?_⟩
  rw[w1,w2,Rat.intCast_neg,Rat.intCast_neg];grind
 ·exfalso;rcases swap cn rb (fun f=>free h hi hu f.1 f.2) no with c|c
  ·obtain⟨o3,o4⟩:=on s u (by have:=c.st;lia)
   have:=more c rb (Zlu c rb).1 o1 o3 z o4
   have:=mx (s,u) (mem s u hs0 hu) c
   grind
  ·obtain⟨o3,o4⟩:=on u t (by have:=c.st;lia)
   have:=ZsX c rb (Zlu c rb).2 o2 o4 z o3
   have:=mx (u,t) (mem u t hu ht0) c
   grind
theorem Znu{a b c:Int}(h0:0<B)(hx:x.den ∣ B)(hy:y.den ∣ B)(hz:z.den ∣ B)(h:(a:Rat)*x+(b:Rat)*y+(c:Rat)*z<0):a*stc B x+b*stc B y+c*stc B z<0:=by
 have p:(0:Rat)<(B:Rat):=Rat.natCast_pos.mpr h0;have h2:=ZeR p h;have e:((a*stc B x+b*stc B y+c*stc B z:Int):Rat)=(B:Rat)*((a:Rat)*x+(b:Rat)*y+(c:Rat)*z):=by
  rw[Rat.intCast_add,Rat.intCast_add,Rat.intCast_mul,Rat.intCast_mul,Rat.intCast_mul,ZaA hx,ZaA hy,ZaA hz];grind
 rw[<-Rat.intCast_neg_iff,e];grind
theorem Znv(h0:0<B)(hx:x.den ∣ B)(hy:y.den ∣ B)(hz:z.den ∣ B)(h:a*stc B x+b*stc B y+c*stc B z<0):(a:Rat)*x+(b:Rat)*y+(c:Rat)*z<0:=by
 have p:(0:Rat)<(B:Rat):=Rat.natCast_pos.mpr h0;have e:((a*stc B x+b*stc B y+c*stc B z:Int):Rat)=(B:Rat)*((a:Rat)*x+(b:Rat)*y+(c:Rat)*z):=by
  rw[Rat.intCast_add,Rat.intCast_add,Rat.intCast_mul,Rat.intCast_mul,Rat.intCast_mul,ZaA hx,ZaA hy,ZaA hz];grind
 have h2:=Rat.intCast_neg_iff.mpr h;rw[e]at h2;have h3:(B:Rat)*((a:Rat)*x+(b:Rat)*y+(c:Rat)*z)<(B:Rat)*0:=by grind
 exact(Rat.mul_lt_mul_left p).mp h3
theorem ZgR{i:Nat}(h:i<hs.length):(cq hs i).den ∣ Zbk hs:=by
 rw[CN.Za8 h];exact ZdL (List.getElem_mem h)
theorem Zgp(h:Smo rs)(e:hs.length=rs.length)(no:∀p,¬Cor rs hs p):∃i j k,i<j/\j<k/\k<rs.length/\Bl rs (whl (Zbk hs) hs) i j k:=by
 obtain⟨s,t,u,h1,h2,h3,st,tu,us,lo⟩:=Znt h no;have h0:=Zco hs;have lo:=Znu h0 (ZgR (hs:=hs) (by lia)) (ZgR (hs:=hs) (by lia)) (ZgR (hs:=hs) (by lia)) lo
 have xx:∀p:Pt,X p p=0:=fun p=>by unfold X;grind
 have sw:X (cy rs s) (cy rs u)= -(X (cy rs u) (cy rs s)):=by unfold X;grind
 have od:=Zs1 h h1 h2 h3 st (by lia)
 have n1:s≠t:=fun z=>by rw[z,xx]at st;lia
 have n2:u≠s:=fun z=>by
  rw[z]at tu
  have:X (cy rs t) (cy rs s)= -(X (cy rs s) (cy rs t)):=by unfold X;grind
  lia
 have n3:u≠t:=fun z=>by
  rw[z]at us
  have:X (cy rs t) (cy rs s)= -(X (cy rs s) (cy rs t)):=by unfold X;grind
  lia
 have nn:∀a b c:Int,0<=a->0<=b->0<=c->Nn [a,b,c]:=fun a b c ha hb hc=>by
  simp only[Nn,List.mem_cons,List.not_mem_nil,or_false,forall_eq_or_imp,forall_eq];exact⟨ha,hb,hc⟩
 have cs:=ZcW (hs:=hs) (B:=Zbk hs) (i:=s) (by lia)
 have ct:=ZcW (hs:=hs) (B:=Zbk hs) (i:=t) (by lia)
 have cu:=ZcW (hs:=hs) (B:=Zbk hs) (i:=u) (by lia)
 rcases(show(s<t/\t<u)\/(t<u/\u<s)\/(u<s/\s<t)by lia)with⟨a,b⟩|⟨a,b⟩|⟨a,b⟩
 ·exact⟨s,t,u,a,b,h3,nn _ _ _ tu us (by lia),by rw[cs,ct,cu];exact lo⟩
 ·exact⟨t,u,s,a,b,h1,nn _ _ _ us (by lia) tu,by rw[cs,ct,cu];lia⟩
 ·exact⟨u,s,t,a,b,h2,nn _ _ _ (by lia) tu us,by rw[cs,ct,cu];lia⟩
noncomputable def vI(i j k:Nat)(a b c:Int)(m:Nat)(f:Nat->Int):Int:=(if i<m then a*f i else 0)+(if j<m then b*f j else 0)+(if k<m then c*f k else 0)
noncomputable def vR(i j k:Nat)(a b c:Int)(m:Nat)(f:Nat->Rat):Rat:=(if i<m then(a:Rat)*f i else 0)+(if j<m then(b:Rat)*f j else 0)+(if k<m then(c:Rat)*f k else 0)
noncomputable def wat(i j k:Nat)(a b c:Int)(m:Nat):Int:=if m=i then a else if m=j then b else if m=k then c else 0
theorem Zt3(h1:i<j)(h2:j<k):vI i j k a b c (m+1) f=vI i j k a b c m f+wat i j k a b c m*f m:=by
 unfold vI wat;by_cases e1:m=i
 ·subst e1;rw[if_pos (by lia),if_neg (by lia),if_neg (by lia),if_neg (by lia),if_neg (by lia),if_neg (by lia),if_pos rfl]
  lia
 ·by_cases e2:m=j
  ·subst e2;rw[if_pos (by lia),if_pos (by lia),if_neg (by lia),if_pos (by lia),if_neg (by lia),if_neg (by lia),if_neg (by lia),if_pos rfl]
   lia
  ·by_cases e3:m=k
   ·subst e3;rw[if_pos (by lia),if_pos (by lia),if_pos (by lia),if_pos (by lia),if_pos (by lia),if_neg (by lia),if_neg (by lia),if_neg (by lia),if_pos rfl]
    lia
   ·have a1:(i<m+1)↔i<m:=by lia
    have a2:(j<m+1)↔j<m:=by lia
    have a3:(k<m+1)↔k<m:=by lia
    simp only[a1,a2,a3,if_neg e1,if_neg e2,if_neg e3];lia
theorem Zvq(h1:i<j)(h2:j<k):vR i j k a b c (m+1) f=vR i j k a b c m f+(wat i j k a b c m:Rat)*f m:=by
 unfold vR wat;by_cases e1:m=i
 ·subst e1;rw[if_pos (by lia),if_neg (by lia),if_neg (by lia),if_neg (by lia),if_neg (by lia),if_neg (by lia),if_pos rfl]
  grind
 ·by_cases e2:m=j
  ·subst e2;rw[if_pos (by lia),if_pos (by lia),if_neg (by lia),if_pos (by lia),if_neg (by lia),if_neg (by lia),if_neg (by lia),if_pos rfl]
   grind
  ·by_cases e3:m=k
   ·subst e3;rw[if_pos (by lia),if_pos (by lia),if_pos (by lia),if_pos (by lia),if_pos (by lia),if_neg (by lia),if_neg (by lia),if_neg (by lia),if_pos rfl]
    grind
   ·have a1:(i<m+1)↔i<m:=by lia
    have a2:(j<m+1)↔j<m:=by lia
    have a3:(k<m+1)↔k<m:=by lia
    simp only[a1,a2,a3,if_neg e1,if_neg e2,if_neg e3];rw[show(((0:Int):Int):Rat)=0 from rfl];grind
theorem ZbX:(wts rs i j k).length=rs.length:=by simp[wts]
theorem Zqy{m:Nat}(h1:i<j)(h2:j<k)(hk:k<rs.length)(hm:m<rs.length):cn (wts rs i j k) m=wat i j k (X (cy rs j) (cy rs k)) (X (cy rs k) (cy rs i)) (X (cy rs i) (cy rs j)) m:=by
 unfold cn;rw[ZbX,show((m:Int)%(rs.length:Int)).toNat=m by rw[Int.emod_eq_of_lt (by lia) (by lia)];simp]
 unfold wts wat;rw[List.getD_eq_getElem?_getD];by_cases e3:m=k
 ·subst e3;rw[List.getElem?_set_self (by simp;lia),if_neg (by lia),if_neg (by lia),if_pos rfl]
  rfl
 ·rw[List.getElem?_set_ne (by lia)]
  by_cases e2:m=j
  ·subst e2;rw[List.getElem?_set_self (by simp;lia),if_neg (by lia),if_pos rfl]
   rfl
  ·rw[List.getElem?_set_ne (by lia)]
   by_cases e1:m=i
   ·subst e1;rw[List.getElem?_set_self (by simp;lia),if_pos rfl]
    rfl
   ·rw[List.getElem?_set_ne (by lia),if_neg e1,if_neg e2,if_neg e3]
    simp[hm]
end
end PT
namespace K56
open CR (ZbS F_is_whole Zae Zaz F_greatest_divisor Zfn F_ratio ZiW F_plus Zfo F_times)
open CC (ZcG F_crossed Zbr F_following ZaF Zbs F_unspanned Za5 F_ask_smooth ZaM F_law_cell_at ZcH F_law_cross ZaN ZaO ZbR F_law_turn Zat Za6 F_law_smooth)
open CS (Zfp F_minus Za7 F_ask_height ZdH F_sloped Zav F_slope_through)
open CD (Zgi F_less ZaP ZbU F_greatest ZbV F_contrary Zbv F_height_of)
open BD (Z5 Zaw F_common_bottom Zbw F_stretched ZcP Zi5 F_edge ZbW F_in_order ZcQ ZcR Zi6 F_body)
open PT (ZcU F_balance ZdQ F_threes ZaS Zan Zdh F_emptying ZcV F_parting)
open BL (ZaG Zby F_law_ratio ZcT F_law_sum Zbz F_law_times Zde F_law_less Zba F_law_dotted Zax Zbb F_law_within Zai Zaj ZaQ F_law_corners)
open CF (Zau F_law_are_whole)
open L2 DL
structure Txt(K:Fg) (mg:Str->Option Value):Prop extends Bs mg where
 gl:∀c v,PySem.W.nsIn K mainGlobals c=some (some v)->mg c=some v
 d:Dfs K top tab
 ex_NotSmooth:ZnB K "NotSmooth"=true
 ex_NoRatio:ZnB K "NoRatio"=true
 ex_NoHeight:ZnB K "NoHeight"=true
 lm_m:ZmQ K=true
 lb_in_order:ZrJ K "in_order"=true
section
variable {P:Program}{w:World}{K:Fg}{mg:Str->Option Value}{base:Heap}
def Zb8:Sv:=(ZE (ZbC (ZgV mApp (Zg 2) (Zc (Zj F_law_ratio (Zc (e2 dSub (e2 dMod (Zg 0) (eC (.int 10))) (eC (.int 3))) (Zc (e2 dAdd (eC (.int 1)) (e2 dMod (e2 dDiv (Zg 0) (eC (.int 10))) (eC (.int 3)))) aNil))) aNil))) (ZJ (gNm 0) (e2 dDiv (Zg 0) (eC (.int 30)))))
def Zb9:Sv:=(ZE (ZJ (gNm 5) (e2 dMod (e2 dDiv (Zg 0) (eC (.int 3))) (Zj bLen (Zc (Zg 1) aNil)))) (ZE (Zl7 (Zg 2) (Zg 5) (Zj F_law_sum (Zc (e2 dIx (Zg 2) (Zg 5)) (Zc (Zak (Zc (e2 dSub (eC (.int 0)) (e2 dMod (e2 dDiv (Zg 0) (eC (.int 50))) (eC (.int 12)))) (Zc (eC (.int 1)) aNil))) aNil)))) (ZJ (gNm 0) (e2 dDiv (Zg 0) (eC (.int 600))))))
def ZeT:Sv:=(ZE (ZJ (gNm 2) (Zcw aNil)) (ZE (Zjr (gNm 3) (Zg 1) Zb8) (ZE (Za1 (gNm 4) (Zc (e2 dAdd (eC (.int 1)) (e2 dMod (Zg 0) (eC (.int 3)))) aNil) Zb9) (Z6 (Zg 2)))))
def F_law_low:W3:=fnF ZeT 2 4
def Zbl:Sv:=(ZE (ZJ (gNm 3) (e2 dAdd (Zg 3) (e2 dMul (e2 dIx (e2 dIx (Zg 2) (eC (.int 1))) (Zg 6)) (e2 dIx (e2 dIx (Zg 0) (Zg 6)) (eC (.int 0)))))) (ZE (ZJ (gNm 4) (e2 dAdd (Zg 4) (e2 dMul (e2 dIx (e2 dIx (Zg 2) (eC (.int 1))) (Zg 6)) (e2 dIx (e2 dIx (Zg 0) (Zg 6)) (eC (.int 1)))))) (ZJ (gNm 5) (Zj F_law_sum (Zc (Zg 5) (Zc (Zj F_law_times (Zc (e2 dIx (e2 dIx (Zg 2) (eC (.int 1))) (Zg 6)) (Zc (e2 dIx (Zg 1) (Zg 6)) aNil))) aNil))))))
def ZcX:Sv:=(ZE (sIf (ZgT (Zcc (tv (Zjq "tuple" (Zg 2)))) (ZgT (tv (e2 dNe (Zj bLen (Zc (Zg 2) aNil)) (eC (.int 2)))) (ZgT (tv (e2 dNe (e2 dIx (Zg 2) (eC (.int 0))) (eC (.str (PySem.Str.ofString "none"))))) (Zcc (tv (Zj F_law_are_whole (Zc (e2 dIx (Zg 2) (eC (.int 1))) aNil))))))) (Z6 (eC (.bl false))) sNil) (ZE (sIf (ZgT (tv (e2 dNe (Zj bLen (Zc (e2 dIx (Zg 2) (eC (.int 1))) aNil)) (Zj bLen (Zc (Zg 0) aNil)))) (tv (e2 dLt (Zj (ZcC List.min?) (Zc (e2 dIx (Zg 2) (eC (.int 1))) aNil)) (eC (.int 0))))) (Z6 (eC (.bl false))) sNil) (ZE (ZJ (gNm 3) (eC (.int 0))) (ZE (ZJ (gNm 4) (eC (.int 0))) (ZE (ZJ (gNm 5) (Zak (Zc (eC (.int 0)) (Zc (eC (.int 1)) aNil)))) (ZE (Za1 (gNm 6) (Zc (Zj bLen (Zc (Zg 0) aNil)) aNil) Zbl) (Z6 (Zd8 (e2 dEq (Zg 3) (eC (.int 0))) (Zd8 (e2 dEq (Zg 4) (eC (.int 0))) (e2 dLt (e2 dIx (Zg 5) (eC (.int 0))) (eC (.int 0))))))))))))
def F_law_right:W3:=fnF ZcX 3 4
def ZdT:Sv:=(ZE (ZJ (gNm 2) (Zj F_law_cell_at (Zc (Zg 0) (Zc (Zg 1) aNil)))) (ZE (ZJ (gNm 3) (Zj F_law_smooth (Zc (e2 dDiv (Zg 2) (eC (.int 8))) (Zc (e2 dIx (Zcw (Zc (eC (.int 9)) (Zc (eC (.int 9)) (Zc (eC (.int 9)) (Zc (eC (.int 9)) (Zc (eC (.int 9)) (Zc (eC (.int 9)) (Zc (eC (.int 9)) (Zc (eC (.int 14)) aNil))))))))) (e2 dMod (Zg 2) (eC (.int 8)))) aNil)))) (ZE (ZJ (gNm 4) (Zj F_law_low (Zc (Zj F_law_cell_at (Zc (Zg 0) (Zc (e2 dAdd (Zg 1) (eC (.int 1))) aNil))) (Zc (Zg 3) aNil)))) (ZE (ZJ (gNm 5) (Zcw (Zc (Zj bList (Zc (Zg 3) aNil)) (Zc (Zj bList (Zc (Zg 4) aNil)) aNil)))) (ZE (ZJ (gNm 6) (Zj F_parting (Zc (e2 dIx (Zg 5) (eC (.int 0))) (Zc (e2 dIx (Zg 5) (eC (.int 1))) aNil)))) (ZE (sIf (tv (e2 dNe (Zg 5) (Zcw (Zc (Zg 3) (Zc (Zg 4) aNil))))) (Z6 (eC (.bl false))) sNil) (sIf (tv (e2 dNe (Zj F_law_corners (Zc (Zg 3) (Zc (Zg 4) aNil))) (Zcw aNil))) (sIf (tv (e2 dNe (e2 dIx (Zg 6) (eC (.int 0))) (eC (.str (PySem.Str.ofString "parted"))))) (Z6 (eC (.bl false))) sNil) (ZE (sIf (Zcc (tv (Zj F_law_right (Zc (Zg 3) (Zc (Zg 4) (Zc (Zg 6) aNil)))))) (Z6 (eC (.bl false))) sNil) (ZE (ZbC (ZgV mApp (e2 dIx (Zg 6) (eC (.int 1))) (Zc (Ze2 (eC (.int 1))) aNil))) (sIf (ZgT (Zcc (tv (Zj F_law_right (Zc (Zg 3) (Zc (Zg 4) (Zc (Zj F_parting (Zc (e2 dIx (Zg 5) (eC (.int 0))) (Zc (e2 dIx (Zg 5) (eC (.int 1))) aNil))) aNil)))))) (tv (e2 dNe (Zg 5) (Zcw (Zc (Zg 3) (Zc (Zg 4) aNil)))))) (Z6 (eC (.bl false))) sNil))))))))))
def Zqz:Sv:=(ZE (Ze7 (gNm 1) (iR3 (Zc (eC (.int 0)) (Zc (Zj bMax (Zc (eC (.int 2)) (Zc (Zj bMin (Zc (Zj bLen (Zc (Zg 0) aNil)) (Zc (eC (.int 10)) aNil))) aNil))) (Zc (eC (.int 2)) aNil)))) ZdT) (Z6 (eC (.bl true))))
def Zfy:W3:=fnF Zqz 1 6
variable (T:Txt K mg)
include T
theorem C1:Cal P w K mg base "is_whole" 1 1 F_is_whole:=ZL (N:=["thing"]) (T.d.at 0 6) T.gl fun _ _ _ _ _ _ _ nd hr θ=>(Zi (Zu (ZfL (Zc6 Zhx T.b_isinstance T.b_int Zk5 (Zb 0)) (Zhr (ZkV (Zc6 ZfP T.b_isinstance T.b_bool ZhD (Zb 0)))))))
theorem C2:Cal P w K mg base "greatest_divisor" 101 2 F_greatest_divisor:=ZL (N:=["one","other","high","low"]) (T.d.at 1 7) T.gl fun _ _ _ _ _ _ _ nd hr θ=>(Zf (ZfS 2 3 (ZG hr (by decide)) nd (Za (Zq Zac Zbh T.b_abs Zbi (Za (Zb 0) Ze)) (Za (Zq Zac Zbh T.b_abs Zbi (Za (Zb 1) Ze)) Ze)))
  (Zf (ZfU θ.own (ZB (ZaZ hr.units) Zcx (Zb 3) Zd) (Zi (ZfS 2 3 (ZG hr (by decide)) nd (Za (Zb 3) (Za (ZV (Zb 2) (Zb 3)) Ze)))))
  (Zi (Zu (Zb 2)))))
theorem C3:Cal P w K mg base "crossed" 1 2 F_crossed:=ZL (N:=["one","other"]) (T.d.at 2 9) T.gl fun _ _ _ _ _ _ _ nd hr θ=>(Zi (Zu (Zay (Zy (Zk (Zb 0) Zd) (Zk (Zb 1) Zd)) (Zy (Zk (Zb 0) Zd) (Zk (Zb 1) Zd)))))
theorem C4:Cal P w K mg base "following" 1 2 F_following:=ZL (N:=["things","at"]) (T.d.at 3 11) T.gl fun _ _ _ _ _ _ _ nd hr θ=>(Zi (Zu (Zk (Zb 0) (ZV (ZM (Zb 1) Zd) (Zq Zp Z0 T.b_len PySem.boot_len (Za (Zb 0) Ze))))))
theorem C5:Cal P w K mg base "unspanned" 101 1 F_unspanned:=ZL (N:=["rays","at","ray"]) (T.d.at 4 12) T.gl fun _ _ _ _ _ _ _ nd hr θ=>(Zf (Zdt θ.own (Zmi (hr.hd (by decide)) T.b_enumerate (Za (Zb 0) Ze)) (ZaU (ZG hr (by decide)) (Zw (Zm 1 nd) (Zw (Zm 2 nd) Z8)) (hlen:=(ZF (ZF (fun _ _ _ h=>Z9 h))))) (Zi (ZZ (ZB (ZaZ hr.units) Zcx (Zh (C3 T) θ hr (Za (Zb 2) (Za (Zh (C4 T) θ hr (Za (Zb 0) (Za (Zb 1) Ze))) Ze))) Zd) (Zi (Zu (Zb 1))) ZA)))
  (Zi (Zu Zb0)))
theorem C6:Cal P w K mg base "ask_smooth" 102 1 F_ask_smooth:=ZL (N:=["rays","at"]) (T.d.at 5 13) T.gl fun _ _ _ _ _ _ _ nd hr θ=>(Zf (Zo 1 nd (Zh (C5 T) θ hr (Za (Zb 0) Ze))) (Zi (ZZ (ZB Zd9 ZfO (Zb 1) Zb0) (Zi (Zck θ T.ex_NotSmooth T.gl (hr.hd (by decide)) (Za (ZoN (Za4 ZaX (Za4 (Zmn (Zb 1)) (Za4 ZaX Zk9)))) Ze))) ZA)))
theorem C7:Cal P w K mg base "ratio" 102 2 F_ratio:=ZL (N:=["top","bottom","part"]) (T.d.at 6 15) T.gl fun _ _ _ _ _ _ _ nd hr θ=>(Zf (ZZ (ZgB (Zd7 (Zcv (ZaI (Zh (C1 T) θ hr (Za (Zb 0) Ze)))) (Zc4 (Zcv (ZaI (Zh (C1 T) θ hr (Za (Zb 1) Ze))))))) (Zi (Zck θ T.ex_NoRatio T.gl (hr.hd (by decide)) (Za ZaX Ze))) ZA)
  (Zf (ZZ (ZB (ZbB hr.units) Zdn (Zb 1) Zd) (Zi (Zck θ T.ex_NoRatio T.gl (hr.hd (by decide)) (Za ZaX Ze))) ZA)
  (Zf (Zo 2 nd (Zh (C2 T) θ hr (Za (Zb 0) (Za (Zb 1) Ze)))) (Zf (ZZ (ZB Zdj Zdm (Zb 1) Zd) (Zi (Zo 2 nd (ZaY (Zb 2)))) ZA) (Zi (Zu (ZC (Za (ZT (Zb 0) (Zb 2)) (Za (ZT (Zb 1) (Zb 2)) Ze)))))))))
theorem C8:Cal P w K mg base "plus" 103 2 F_plus:=ZL (N:=["one","other"]) (T.d.at 7 16) T.gl fun _ _ _ _ _ _ _ nd hr θ=>(Zi (Zu (Zh (C7 T) θ hr (Za (ZM (Zy (Zk (Zb 0) Zd) (Zk (Zb 1) Zd)) (Zy (Zk (Zb 1) Zd) (Zk (Zb 0) Zd))) (Za (Zy (Zk (Zb 0) Zd) (Zk (Zb 1) Zd)) Ze)))))
theorem C9:Cal P w K mg base "minus" 103 2 F_minus:=ZL (N:=["one","other"]) (T.d.at 8 17) T.gl fun _ _ _ _ _ _ _ nd hr θ=>(Zi (Zu (Zh (C7 T) θ hr (Za (Zay (Zy (Zk (Zb 0) Zd) (Zk (Zb 1) Zd)) (Zy (Zk (Zb 1) Zd) (Zk (Zb 0) Zd))) (Za (Zy (Zk (Zb 0) Zd) (Zk (Zb 1) Zd)) Ze)))))
theorem C10:Cal P w K mg base "times" 103 2 F_times:=ZL (N:=["one","other"]) (T.d.at 9 18) T.gl fun _ _ _ _ _ _ _ nd hr θ=>(Zi (Zu (Zh (C7 T) θ hr (Za (Zy (Zk (Zb 0) Zd) (Zk (Zb 1) Zd)) (Za (Zy (Zk (Zb 0) Zd) (Zk (Zb 1) Zd)) Ze)))))
theorem C11:Cal P w K mg base "less" 1 2 F_less:=ZL (N:=["one","other"]) (T.d.at 10 19) T.gl fun _ _ _ _ _ _ _ nd hr θ=>(Zi (Zu (Zd6 Zdj Zdm (Zy (Zk (Zb 0) Zd) (Zk (Zb 1) Zd)) (Zy (Zk (Zb 1) Zd) (Zk (Zb 0) Zd)))))
theorem C12:Cal P w K mg base "greatest" 2 1 F_greatest:=ZL (N:=["ones","best","one"]) (T.d.at 11 20) T.gl fun _ _ _ _ _ _ _ nd hr θ=>(Zf (Zo 1 nd (Zk (Zb 0) Zd)) (Zf (Zc7 θ.own (Zb 0) (Zm 2 nd) (Zi (ZZ (ZaI (Zh (C11 T) θ hr (Za (Zb 1) (Za (Zb 2) Ze)))) (Zi (Zo 1 nd (Zb 2))) ZA))) (Zi (Zu (Zb 1)))))
theorem C13:Cal P w K mg base "common_bottom" 102 1 F_common_bottom:=ZL (N:=["ones","bottom","one"]) (T.d.at 12 21) T.gl fun _ _ _ _ _ _ _ nd hr θ=>(Zf (Zo 1 nd Zd) (Zf (Zc7 θ.own (Zb 0) (Zm 2 nd) (Zi (Zo 1 nd (Zy (Zb 1) (ZT (Zk (Zb 2) Zd) (Zh (C2 T) θ hr (Za (Zb 1) (Za (Zk (Zb 2) Zd) Ze)))))))) (Zi (Zu (Zb 1)))))
theorem C14:Cal P w K mg base "stretched" 1 2 F_stretched:=ZL (N:=["one","bottom"]) (T.d.at 13 22) T.gl fun _ _ _ _ _ _ _ nd hr θ=>(Zi (Zu (Zy (Zk (Zb 0) Zd) (ZT (Zb 1) (Zk (Zb 0) Zd)))))
theorem C15:Cal P w K mg base "ask_height" 101 2 F_ask_height:=ZL (N:=["rays","height"]) (T.d.at 14 24) T.gl fun _ _ _ _ _ _ _ nd hr θ=>(Zi (ZZ (ZB (ZaZ hr.units) Zcx (Zq Zp Z0 T.b_len PySem.boot_len (Za (Zb 1) Ze)) (Zq Zp Z0 T.b_len PySem.boot_len (Za (Zb 0) Ze))) (Zi (Zck θ T.ex_NoHeight T.gl (hr.hd (by decide)) (Za (ZoN (Za4 ZaX (Za4 (Zmn (Zq Zp Z0 T.b_len PySem.boot_len (Za (Zb 0) Ze))) (Za4 ZaX (Za4 (Zmn (Zq Zp Z0 T.b_len PySem.boot_len (Za (Zb 1) Ze))) (Za4 ZaX Zk9)))))) Ze))) ZA))
theorem C16:Cal P w K mg base "sloped" 104 2 F_sloped:=ZL (N:=["m","ray"]) (T.d.at 15 25) T.gl fun _ _ _ _ _ _ _ nd hr θ=>(Zi (Zu (Zh (C8 T) θ hr (Za (Zh (C10 T) θ hr (Za (Zk (Zb 0) Zd) (Za (ZC (Za (Zk (Zb 1) Zd) (Za Zd Ze))) Ze))) (Za (Zh (C10 T) θ hr (Za (Zk (Zb 0) Zd) (Za (ZC (Za (Zk (Zb 1) Zd) (Za Zd Ze))) Ze))) Ze)))))
theorem C17:Cal P w K mg base "slope_through" 104 2 F_slope_through:=ZL (N:=["rays","height","a","b","c","d","first","second"]) (T.d.at 16 26) T.gl fun _ _ _ _ _ _ _ nd hr θ=>(Zf (Zk1 (ZC (Za (Zk (Zb 0) Zd) (Za (Zk (Zb 0) Zd) Ze))) (ZaU (ZG hr (by decide)) (Zw (ZaU (ZG hr (by decide)) (Zw (Zm 2 nd) (Zw (Zm 3 nd) Z8)) (hlen:=(ZF (ZF (fun _ _ _ h=>Z9 h))))) (Zw (ZaU (ZG hr (by decide)) (Zw (Zm 4 nd) (Zw (Zm 5 nd) Z8)) (hlen:=(ZF (ZF (fun _ _ _ h=>Z9 h))))) Z8)) (hlen:=(ZF (ZF (fun _ _ _ h=>Z9 h))))))
  (Zf (ZfS 6 7 (ZG hr (by decide)) nd (Za (Zk (Zb 1) Zd) (Za (Zk (Zb 1) Zd) Ze)))
  (Zi (Zu (ZC (Za (Zh (C9 T) θ hr (Za (Zh (C10 T) θ hr (Za (Zb 6) (Za (ZC (Za (Zb 5) (Za Zd Ze))) Ze))) (Za (Zh (C10 T) θ hr (Za (Zb 7) (Za (ZC (Za (Zb 3) (Za Zd Ze))) Ze))) Ze))) (Za (Zh (C9 T) θ hr (Za (Zh (C10 T) θ hr (Za (Zb 7) (Za (ZC (Za (Zb 2) (Za Zd Ze))) Ze))) (Za (Zh (C10 T) θ hr (Za (Zb 6) (Za (ZC (Za (Zb 4) (Za Zd Ze))) Ze))) Ze))) Ze)))))))
theorem C18:Cal P w K mg base "edge" 105 3 F_edge:=ZL (N:=["rays","height","at","ray","behind","own","low","high","other","its","across","asked","bottom"]) (T.d.at 17 28) T.gl fun _ _ _ _ _ _ _ nd hr θ=>(Zf (Zk1 (ZC (Za (Zk (Zb 0) (Zb 2)) (Za (Zh (C4 T) θ hr (Za (Zb 0) (Za (Zb 2) Ze))) Ze))) (ZaU (ZG hr (by decide)) (Zw (Zm 3 nd) (Zw (Zm 4 nd) Z8)) (hlen:=(ZF (ZF (fun _ _ _ h=>Z9 h))))))
  (Zf (Zo 5 nd (Zk (Zb 1) (Zb 2))) (Zf (Zmz Zb0 (Zm 6 nd) (Zm 7 nd)) (Zf (Zdt θ.own (Zeo (hr.hd (by decide)) T.b_zip (Za (Zb 0) (Za (Zb 1) Ze))) (ZaU (ZG hr (by decide)) (Zw (Zm 8 nd) (Zw (Zm 9 nd) Z8)) (hlen:=(ZF (ZF (fun _ _ _ h=>Z9 h))))) (Zf (Zo 10 nd (Zh (C3 T) θ hr (Za (Zb 3) (Za (Zb 8) Ze))))
  (Zf (Zo 11 nd (Zay (Zy (Zy (Zh (C3 T) θ hr (Za (Zb 8) (Za (Zb 4) Ze))) (Zk (Zb 5) Zd)) (Zk (Zb 9) Zd)) (Zy (Zk (Zb 9) Zd) (Zk (Zb 5) Zd)))) (Zf (Zo 12 nd (Zy (Zy (Zb 10) (Zk (Zb 5) Zd)) (Zk (Zb 9) Zd))) (Zf (ZZ (ZgB (Zcu (ZB (ZbB hr.units) Zdn (Zb 10) Zd) (Zbn (ZB Zg8 Zhs (Zb 11) Zd)))) (Zi (Zu (Z7 Ze))) ZA) (Zf (ZZ (ZgB (Zcu (ZB Zg8 Zhs (Zb 10) Zd) (Zbn (ZgB (Zd7 (ZB ZkW Zow (Zb 6) Zb0) (Zc4 (ZaI (Zh (C11 T) θ hr (Za (Zb 6) (Za (ZC (Za (Zb 11) (Za (Zb 12) Ze))) Ze)))))))))) (Zi (Zo 6 nd (ZC (Za (Zb 11) (Za (Zb 12) Ze))))) ZA) (Zi (ZZ (ZgB (Zcu (ZB Zdj Zdm (Zb 10) Zd) (Zbn (ZgB (Zd7 (ZB ZkW Zow (Zb 7) Zb0) (Zc4 (ZaI (Zh (C11 T) θ hr (Za (ZC (Za (ZaY (Zb 11)) (Za (ZaY (Zb 12)) Ze))) (Za (Zb 7) Ze)))))))))) (Zi (Zo 7 nd (ZC (Za (ZaY (Zb 11)) (Za (ZaY (Zb 12)) Ze))))) ZA))))))))
  (Zf (ZZ (ZaI (Zh (C11 T) θ hr (Za (Zb 7) (Za (Zb 6) Ze)))) (Zi (Zu (Z7 Ze))) ZA) (Zi (Zu (ZaL (ZnA (XN:=["rays","height","at","ray","behind","own","low","high","other","its","across","asked","bottom"]) (dn:=(Zl (top 28)).names) (N:=["end","ray","behind","own"]) (k:=1) (fr:=[3,4,5]) rfl rfl rfl rfl (by decide +kernel)) (Za2 (ZC (Za (Zb 6) (Za (Zb 7) Ze)))) (fun _ _ _ _=>(Zm 0 (show List.Nodup (["end","ray","behind","own"]:List Str)by decide +kernel))) (fun _ _ _ _=>(Or.inl ⟨rfl,rfl⟩)) (fun _ _ _ _=>(Zh (C17 T) ZbK hr (Za (Z7 (Za (Zb 1) (Za (Zb 2) Ze))) (Za (Z7 (Za (ZC (Za (ZaY (Zk (Zb 3) Zd)) (Za (Zk (Zb 3) Zd) Ze))) (Za (Zh (C7 T) ZbK hr (Za (Zk (Zb 0) Zd) (Za (Zk (Zb 0) Zd) Ze))) Ze))) Ze))))))))))))
theorem C19:Cal P w K mg base "in_order" 106 1 F_in_order:=Zo6 (N:=["points","bottom"]) (T.d.at 18 29) T.lb_in_order T.gl fun _ _ _ _ _ _ _ hc nd hr θ=>(Zf (Zo 1 nd (Zh (C13 T) θ hr (Za (Zkk (Znz (N:=["point","part"]) (k:=2) (by decide +kernel) rfl (by decide +kernel) rfl) (Za2 (Zb 0)) (fun _ _ _ _=>(Zm 0 (show List.Nodup (["point","part"]:List Str)by decide +kernel))) (fun _ _ _ _=>(Or.inl ⟨rfl,rfl⟩)) (fun _ _ _ _=>(Za2 (Zb 0))) (fun _ _ _ _=>(Zm 1 (show List.Nodup (["point","part"]:List Str)by decide +kernel))) (fun _ _ _ _=>(Or.inl ⟨rfl,rfl⟩)) (fun _ _ _ _=>(Zb 1))) Ze)))
  (Zi (Zu (Zkr (k:=102) (Zku T.lm_m) hc (hr.mono (by decide)) (Zuv (XN:=["points","bottom"]) (dn:=(Zl (top 29)).names) (N:=["point","bottom"]) (fr:=[1]) (x:="point") rfl rfl rfl rfl (by decide +kernel) rfl rfl (by decide +kernel) rfl) T.b_sorted (Za (Zb 0) Ze) (fun _ _ _ _ _ hr=>(ZC (Za (Zh (C14 T) Zix hr (Za (Zk (Zb 0) Zd) (Za (Zb 1) Ze))) (Za (Zh (C14 T) Zix hr (Za (Zk (Zb 0) Zd) (Za (Zb 1) Ze))) Ze))))))))
theorem C20:Cal P w K mg base "body" 107 2 F_body:=ZL (N:=["rays","height","met","at","point"]) (T.d.at 19 30) T.gl fun _ _ _ _ _ _ _ nd hr θ=>(Zf (ZaC (Zh (C6 T) θ hr (Za (Zb 0) Ze))) (Zf (ZaC (Zh (C15 T) θ hr (Za (Zb 0) (Za (Zb 1) Ze)))) (Zf (Zo 2 nd ZoS) (Zf (ZaK θ.own T.b_range (Za (Zq Zp Z0 T.b_len PySem.boot_len (Za (Zb 0) Ze)) Ze) (Zm 3 nd) (Zi (Zc7 θ.own (Zh (C18 T) θ hr (Za (Zb 0) (Za (Zb 1) (Za (Zb 3) Ze)))) (Zm 4 nd) (Zi (Zmw hr.units (Zb 2) (Zb 4) Zcs))))) (Zi (Zu (Zh (C19 T) θ hr (Za (Zcy (ZgI (hr.hd (by decide))) Zmx T.b_list Zdp (Za (Zb 2) Ze)) Ze))))))))
theorem C21:Cal P w K mg base "contrary" 104 1 F_contrary:=ZL (N:=["one"]) (T.d.at 20 32) T.gl fun _ _ _ _ _ _ _ nd hr θ=>(Zi (Zu (Zh (C9 T) θ hr (Za (ZC (Za Zd (Za Zd Ze))) (Za (Zb 0) Ze)))))
theorem C22:Cal P w K mg base "height_of" 105 2 F_height_of:=ZL (N:=["rays","points"]) (T.d.at 21 33) T.gl fun _ _ _ _ _ _ _ nd hr θ=>(Zf (ZaC (Zh (C6 T) θ hr (Za (Zb 0) Ze))) (Zi (Zu (Zj2 (Zrl (XN:=["rays","points"]) (dn:=(Zl (top 33)).names) (N:=["ray","points"]) (k:=1) (fr:=[1]) rfl rfl rfl rfl (by decide +kernel)) (Za2 (Zb 0)) (fun _ _ _ _=>(Zm 0 (show List.Nodup (["ray","points"]:List Str)by decide +kernel))) (fun _ _ _ _=>(Or.inl ⟨rfl,rfl⟩)) (fun B1 _ _ _ _=>(Zh (C12 T) ZjY hr (Za (ZaL (Zrn (dn:=(Zl (top 33)).names) (N:=["m","ray"]) (k:=1) (fr:=[0]) B1 rfl rfl rfl (by decide +kernel)) (Za2 (Zb 1)) (fun _ _ _ _=>(Zm 0 (show List.Nodup (["m","ray"]:List Str)by decide +kernel))) (fun _ _ _ _=>(Or.inl ⟨rfl,rfl⟩)) (fun _ _ _ _=>(Zh (C21 T) ZbK hr (Za (Zh (C16 T) ZbK hr (Za (Zb 0) (Za (Zb 1) Ze))) Ze)))) Ze)))))))
theorem C23:Cal P w K mg base "balance" 101 2 F_balance:=ZL (N:=["rays","three","one","two","last","often"]) (T.d.at 22 35) T.gl fun _ _ _ _ _ _ _ nd hr θ=>(Zf (ZmD (ZG hr (by decide)) (ZaL (ZnA (XN:=["rays","three","one","two","last","often"]) (dn:=(Zl (top 35)).names) (N:=["at","rays"]) (k:=1) (fr:=[0]) rfl rfl rfl rfl (by decide +kernel)) (Za2 (Zb 1)) (fun _ _ _ _=>(Zm 0 (show List.Nodup (["at","rays"]:List Str)by decide +kernel))) (fun _ _ _ _=>(Or.inl ⟨rfl,rfl⟩)) (fun _ _ _ _=>(Zk (Zb 1) (Zb 0)))) (Zw (Zm 2 nd) (Zw (Zm 3 nd) (Zw (Zm 4 nd) Z8))) (hlen:=(ZF (ZF (ZF (fun _ _ _ h=>Z9 h))))))
  (Zf (Zo 5 nd (Z7 (Za (Zh (C3 T) θ hr (Za (Zb 3) (Za (Zb 4) Ze))) (Za (Zh (C3 T) θ hr (Za (Zb 4) (Za (Zb 2) Ze))) (Za (Zh (C3 T) θ hr (Za (Zb 2) (Za (Zb 3) Ze))) Ze))))) (Zi (Zu (Zrg (ZB Zq6 Zrh (Zq (Zeq (ZG hr (by decide))) ZhX T.b_min ZhE (Za (Zb 5) Ze)) Zd) (Zb 5) Zb0)))))
theorem C24:Cal P w K mg base "threes" 1 1 F_threes:=ZL (N:=["many"]) (T.d.at 23 36) T.gl fun _ _ _ _ _ _ _ nd hr θ=>(Zi (Zu (Zkl (ZnA (XN:=["many"]) (dn:=(Zl (top 36)).names) (N:=["i","j","k","many"]) (k:=3) (fr:=[0]) rfl rfl rfl rfl (by decide +kernel)) (ZhG T.b_range (Za (Zb 0) Ze)) (fun _ _ _ _=>(Zm 0 (show List.Nodup (["i","j","k","many"]:List Str)by decide +kernel))) (fun _ _ _ _=>(Or.inl ⟨rfl,rfl⟩)) (fun _ _ _ _=>(Zel T.b_range (Za (ZM (Zb 0) Zd) (Za (Zb 3) Ze)))) (fun _ _ _ _=>(Zm 1 (show List.Nodup (["i","j","k","many"]:List Str)by decide +kernel))) (fun _ _ _ _=>(Or.inl ⟨rfl,rfl⟩)) (fun _ _ _ _=>(Zel T.b_range (Za (ZM (Zb 1) Zd) (Za (Zb 3) Ze)))) (fun _ _ _ _=>(Zm 2 (show List.Nodup (["i","j","k","many"]:List Str)by decide +kernel))) (fun _ _ _ _=>(Or.inl ⟨rfl,rfl⟩)) (fun _ _ _ _=>(ZC (Za (Zb 0) (Za (Zb 1) (Za (Zb 2) Ze))))))))
theorem C25:Cal P w K mg base "emptying" 103 2 F_emptying:=ZL (N:=["rays","height","bottom","wholes","three","often","weights","many","at"]) (T.d.at 24 37) T.gl fun _ _ _ _ _ _ _ nd hr θ=>(Zf (Zo 2 nd (Zh (C13 T) θ hr (Za (Zb 1) Ze))) (Zf (Zo 3 nd (ZaL (ZnA (XN:=["rays","height","bottom","wholes","three","often","weights","many","at"]) (dn:=(Zl (top 37)).names) (N:=["own","bottom"]) (k:=1) (fr:=[2]) rfl rfl rfl rfl (by decide +kernel)) (Za2 (Zb 1)) (fun _ _ _ _=>(Zm 0 (show List.Nodup (["own","bottom"]:List Str)by decide +kernel))) (fun _ _ _ _=>(Or.inl ⟨rfl,rfl⟩)) (fun _ _ _ _=>(Zh (C14 T) ZbK hr (Za (Zb 0) (Za (Zb 1) Ze))))))
  (Zf (Zc7 θ.own (Zh (C24 T) θ hr (Za (Zq Zp Z0 T.b_len PySem.boot_len (Za (Zb 0) Ze)) Ze)) (Zm 4 nd) (Zf (Zo 5 nd (Zh (C23 T) θ hr (Za (Zb 0) (Za (Zb 4) Ze)))) (Zi (ZZ (ZgB (Zcu (ZB Zd9 ZfO (Zb 5) Zb0) (Zbn (ZB Zdj Zdm (Zq (Zh0 (ZG hr (by decide))) Zmk T.b_sum ZoJ (Za (ZaL (ZnA (XN:=["rays","height","bottom","wholes","three","often","weights","many","at"]) (dn:=(Zl (top 37)).names) (N:=["many","at","wholes"]) (k:=2) (fr:=[3]) rfl rfl rfl rfl (by decide +kernel)) (DLy2.Zeo (hr.hd (by decide)) T.b_zip (Za (Zb 5) (Za (Zb 4) Ze))) (fun _ _ _ _=>(ZaU (ZG hr (by decide)) (Zw (Zm 0 (show List.Nodup (["many","at","wholes"]:List Str)by decide +kernel)) (Zw (Zm 1 (show List.Nodup (["many","at","wholes"]:List Str)by decide +kernel)) Z8)) (hlen:=(ZF (ZF (fun _ _ _ h=>Z9 h)))))) (fun _ _ _ _=>(Or.inl ⟨rfl,rfl⟩)) (fun _ _ _ _=>(Zy (Zb 0) (Zk (Zb 2) (Zb 1))))) Ze)) Zd)))) (Zf (Zmo 6 nd (Znz (N:=["ray"]) (k:=1) (by decide +kernel) rfl (by decide +kernel) rfl) (Za2 (Zb 0)) (fun _ _ _ _=>(Zm 0 (show List.Nodup (["ray"]:List Str)by decide +kernel))) (fun _ _ _ _=>(Or.inl ⟨rfl,rfl⟩)) (fun _ _ _ _=>Zd))
  (Zf (Zdt θ.own (DLy2.Zeo (hr.hd (by decide)) T.b_zip (Za (Zb 5) (Za (Zb 4) Ze))) (ZaU (ZG hr (by decide)) (Zw (Zm 7 nd) (Zw (Zm 8 nd) Z8)) (hlen:=(ZF (ZF (fun _ _ _ h=>Z9 h))))) (Zi (Zk2 (Zb 6) (Zb 8) (Zb 7))))
  (Zi (Zu (Zb 6))))) ZA))))
  (Zi (Zu Zb0)))))
theorem C26:Cal P w K mg base "parting" 108 2 F_parting:=ZL (N:=["rays","height","points","first"]) (T.d.at 25 38) T.gl fun _ _ _ _ _ _ _ nd hr θ=>(Zf (Zo 2 nd (Zh (C20 T) θ hr (Za (Zb 0) (Za (Zb 1) Ze)))) (Zf (ZZ (ZB (ZbB hr.units) Zdn (Zb 2) (Z7 Ze)) (Zi (Zu (ZC (Za ZaX (Za (Zh (C25 T) θ hr (Za (Zb 0) (Za (Zb 1) Ze))) Ze))))) ZA) (Zf (Zo 3 nd (Zh (C22 T) θ hr (Za (Zb 0) (Za (Zb 2) Ze)))) (Zi (Zu (ZC (Za ZaX (Za (Zb 3) (Za (ZaL (Znz (N:=["own","part"]) (k:=2) (by decide +kernel) rfl (by decide +kernel) rfl) (Zeo (hr.hd (by decide)) T.b_zip (Za (Zb 1) (Za (Zb 3) Ze))) (fun _ _ _ _=>(ZaU (ZG hr (by decide)) (Zw (Zm 0 (show List.Nodup (["own","part"]:List Str)by decide +kernel)) (Zw (Zm 1 (show List.Nodup (["own","part"]:List Str)by decide +kernel)) Z8)) (hlen:=(ZF (ZF (fun _ _ _ h=>Z9 h)))))) (fun _ _ _ _=>(Or.inl ⟨rfl,rfl⟩)) (fun _ _ _ _=>(Zh (C9 T) ZbK hr (Za (Zb 0) (Za (Zb 1) Ze))))) Ze)))))))))
theorem C27:Cal P w K mg base "_law_cell_at" 1 2 F_law_cell_at:=ZL (N:=["_law_script","_law_k","_law_cell","_law_one"]) (T.d.at 26 40) T.gl fun _ _ _ _ _ _ _ nd hr θ=>(Zf (Zo 2 nd Zd) (Zf (ZZ (ZB Zdj Zdm (Zb 1) (Zq Zp Z0 T.b_len PySem.boot_len (Za (Zb 0) Ze))) (Zi (Zo 2 nd (ZV (Zk (Zb 0) (Zb 1)) (Zc5 Zd Zd)))) ZA) (Zf (ZZ (ZB Zdj Zdm (Zb 2) (Zc5 Zd Zd)) (Zf (Zo 3 nd (ZV (Zy (ZM (Zb 2) (Zy Zd (ZM (Zb 1) Zd))) Zd) (Zc5 Zd Zd))) (Zi (Zo 2 nd (ZV (ZT (Zy (Zb 3) (Zb 3)) (Zc5 Zd Zd)) (Zc5 Zd Zd))))) ZA) (Zi (Zu (Zb 2))))))
theorem C28:Cal P w K mg base "_law_cross" 1 2 F_law_cross:=ZL (N:=["_law_one","_law_other"]) (T.d.at 27 41) T.gl fun _ _ _ _ _ _ _ nd hr θ=>(Zi (Zu (Zay (Zy (Zk (Zb 0) Zd) (Zk (Zb 1) Zd)) (Zy (Zk (Zb 0) Zd) (Zk (Zb 1) Zd)))))
theorem C29:Cal P w K mg base "_law_turn" 101 2 F_law_turn:=ZL (N:=["_law_rays","_law_cell","_law_k","_law_much","_law_way","_law_new","_law_x","_law_y"]) (T.d.at 28 42) T.gl fun _ _ _ _ _ _ _ nd hr θ=>(Zf (ZaK θ.own T.b_range (Za Zd Ze) (Zm 2 nd) (Zf (Zo 3 nd (Zay (ZV (ZT (Zb 1) Zd) Zd) Zd)) (Zf (ZZ (ZB (ZbB hr.units) Zdn (ZV (ZT (Zb 1) Zd) Zd) Zd) (Zi (Zo 3 nd (Zay (ZV (ZT (Zb 1) Zd) Zd) Zd))) ZA) (Zf (Zo 4 nd (ZV (Zb 1) Zd)) (Zf (Zo 1 nd (ZT (Zb 1) Zd)) (Zf (Zo 5 nd (Z7 Ze)) (Zf (Zc7 θ.own (Zb 0) (ZaU (ZG hr (by decide)) (Zw (Zm 6 nd) (Zw (Zm 7 nd) Z8)) (hlen:=(ZF (ZF (fun _ _ _ h=>Z9 h))))) (Zi (ZZ (ZB (ZbB hr.units) Zdn (Zb 4) Zd) (Zi (ZaC (Zas (Zb 5) (ZC (Za (ZM (Zb 6) (Zy (Zb 3) (Zb 7))) (Za (Zb 7) Ze)))))) (Zi (ZZ (ZB (ZbB hr.units) Zdn (Zb 4) Zd) (Zi (ZaC (Zas (Zb 5) (ZC (Za (Zb 6) (Za (ZM (Zb 7) (Zy (Zb 3) (Zb 6))) Ze)))))) (Zi (ZZ (ZB (ZbB hr.units) Zdn (Zb 4) Zd) (Zi (ZaC (Zas (Zb 5) (ZC (Za (Zay Zd (Zb 7)) (Za (Zb 6) Ze)))))) (Zi (ZaC (Zas (Zb 5) (ZC (Za (Zb 6) (Za (Zb 7) Ze)))))))))))))
  (Zi (ZZ (ZB ZlM Zl5 (Zq (ZhW (ZG hr (by decide))) Zmj T.b_max Zk6 (Za (ZM (ZaL (Znz (N:=["_law_x","_law_y"]) (k:=2) (by decide +kernel) rfl (by decide +kernel) rfl) (Za2 (Zb 5)) (fun _ _ _ _=>(ZaU (ZG hr (by decide)) (Zw (Zm 0 (show List.Nodup (["_law_x","_law_y"]:List Str)by decide +kernel)) (Zw (Zm 1 (show List.Nodup (["_law_x","_law_y"]:List Str)by decide +kernel)) Z8)) (hlen:=(ZF (ZF (fun _ _ _ h=>Z9 h)))))) (fun _ _ _ _=>(Or.inl ⟨rfl,rfl⟩)) (fun _ _ _ _=>(Zq Zac Zbh T.b_abs Zbi (Za (Zb 0) Ze)))) (ZaL (Znz (N:=["_law_x","_law_y"]) (k:=2) (by decide +kernel) rfl (by decide +kernel) rfl) (Za2 (Zb 5)) (fun _ _ _ _=>(ZaU (ZG hr (by decide)) (Zw (Zm 0 (show List.Nodup (["_law_x","_law_y"]:List Str)by decide +kernel)) (Zw (Zm 1 (show List.Nodup (["_law_x","_law_y"]:List Str)by decide +kernel)) Z8)) (hlen:=(ZF (ZF (fun _ _ _ h=>Z9 h)))))) (fun _ _ _ _=>(Or.inl ⟨rfl,rfl⟩)) (fun _ _ _ _=>(Zq Zac Zbh T.b_abs Zbi (Za (Zb 1) Ze))))) Ze)) Zd) (Zi (Zo 0 nd (Zb 5))) ZA)))))))))
  (Zi (Zu (Zb 0))))
theorem C30:Cal P w K mg base "_law_smooth" 102 2 F_law_smooth:=ZL (N:=["_law_cell","_law_most","_law_count","_law_rays","_law_far","_law_k","_law_at","_law_one","_law_other","_law_more"]) (T.d.at 29 43) T.gl fun _ _ _ _ _ _ _ nd hr θ=>(Zf (Zo 2 nd (ZM Zd (ZV (Zb 0) (Zay (Zb 1) Zd)))) (Zf (Zo 0 nd (ZT (Zb 0) (Zay (Zb 1) Zd))) (Zf (Zo 3 nd (Z7 (Za (ZC (Za Zd (Za Zd Ze))) (Za (ZC (Za Zd (Za Zd Ze))) (Za (ZC (Za (ZaY Zd) (Za (ZaY Zd) Ze))) Ze))))) (Zf (ZZ (ZgB (Zcu (ZB Zg8 Zhs (Zb 2) Zd) (Zbn (ZB Zg8 Zhs (ZV (Zb 0) Zd) Zd)))) (Zf (Zo 4 nd (ZV (ZT (Zb 0) Zd) (Zk (Z7 (Za Zd (Za Zd (Za Zd (Za Zd Ze))))) (ZV (ZT (Zb 0) Zd) Zd)))) (Zi (Zo 3 nd (Z7 (Za (ZC (Za Zd (Za Zd Ze))) (Za (ZC (Za Zd (Za Zd Ze))) (Za (ZC (Za (ZaY Zd) (Za (Zb 4) Ze))) (Za (ZC (Za Zd (Za (ZaY Zd) Ze))) Ze)))))))) ZA) (Zf (Zo 0 nd (ZT (Zb 0) Zd)) (Zf (ZaK θ.own T.b_range (Za (Zay (Zb 2) (Zq Zp Z0 T.b_len PySem.boot_len (Za (Zb 3) Ze))) Ze) (Zm 5 nd) (Zf (Zo 6 nd (ZV (Zb 0) (Zq Zp Z0 T.b_len PySem.boot_len (Za (Zb 3) Ze)))) (Zf (Zo 0 nd (ZT (Zb 0) Zd)) (Zf (Zo 7 nd (Zk (Zb 3) (Zb 6))) (Zf (Zo 8 nd (Zk (Zb 3) (ZV (ZM (Zb 6) Zd) (Zq Zp Z0 T.b_len PySem.boot_len (Za (Zb 3) Ze))))) (Zf (Zo 9 nd (ZC (Za (ZM (Zk (Zb 7) Zd) (Zk (Zb 8) Zd)) (Za (ZM (Zk (Zb 7) Zd) (Zk (Zb 8) Zd)) Ze)))) (Zi (ZZ (ZgB (Zcu (ZB ZlM Zl5 (Zq Zac Zbh T.b_abs Zbi (Za (Zk (Zb 9) Zd) Ze)) Zd) (Zbn (ZB ZlM Zl5 (Zq Zac Zbh T.b_abs Zbi (Za (Zk (Zb 9) Zd) Ze)) Zd)))) (Zi (Zo 3 nd (ZM (ZM (Zj6 (Zb 3) Zj4 (Zj5 (ZM (Zb 6) Zd))) (Z7 (Za (Zb 9) Ze))) (Zj6 (Zb 3) (Zj5 (ZM (Zb 6) Zd)) Zj4)))) ZA)))))))) (Zf (Zo 3 nd (Zh (C29 T) θ hr (Za (Zb 3) (Za (Zb 0) Ze)))) (Zf (Zo 6 nd (ZV (ZT (Zb 0) (Zc5 Zd Zd)) (Zq Zp Z0 T.b_len PySem.boot_len (Za (Zb 3) Ze)))) (Zi (Zu (ZM (Zj6 (Zb 3) (Zj5 (Zb 6)) Zj4) (Zj6 (Zb 3) Zj4 (Zj5 (Zb 6))))))))))))))
theorem C31:Cal P w K mg base "_law_ratio" 101 2 F_law_ratio:=ZL (N:=["_law_top","_law_bottom","_law_one","_law_other"]) (T.d.at 30 44) T.gl fun _ _ _ _ _ _ _ nd hr θ=>(Zf (Zo 2 nd (Zq Zac Zbh T.b_abs Zbi (Za (Zb 0) Ze))) (Zf (Zo 3 nd (Zb 1)) (Zf (ZfU θ.own (ZB Zg8 Zhs (Zb 3) Zd) (Zi (ZfS 2 3 (ZG hr (by decide)) nd (Za (Zb 3) (Za (ZV (Zb 2) (Zb 3)) Ze)))))
  (Zi (Zu (ZC (Za (ZT (Zb 0) (Zb 2)) (Za (ZT (Zb 1) (Zb 2)) Ze))))))))
theorem C32:Cal P w K mg base "_law_sum" 102 2 F_law_sum:=ZL (N:=["_law_one","_law_other"]) (T.d.at 31 45) T.gl fun _ _ _ _ _ _ _ nd hr θ=>(Zi (Zu (Zh (C31 T) θ hr (Za (ZM (Zy (Zk (Zb 0) Zd) (Zk (Zb 1) Zd)) (Zy (Zk (Zb 1) Zd) (Zk (Zb 0) Zd))) (Za (Zy (Zk (Zb 0) Zd) (Zk (Zb 1) Zd)) Ze)))))
theorem C33:Cal P w K mg base "_law_times" 102 2 F_law_times:=ZL (N:=["_law_many","_law_one"]) (T.d.at 32 46) T.gl fun _ _ _ _ _ _ _ nd hr θ=>(Zi (Zu (Zh (C31 T) θ hr (Za (Zy (Zb 0) (Zk (Zb 1) Zd)) (Za (Zk (Zb 1) Zd) Ze)))))
theorem C34:Cal P w K mg base "_law_less" 1 2 F_law_less:=ZL (N:=["_law_one","_law_other"]) (T.d.at 33 47) T.gl fun _ _ _ _ _ _ _ nd hr θ=>(Zi (Zu (Zd6 Zdj Zdm (Zy (Zk (Zb 0) Zd) (Zk (Zb 1) Zd)) (Zy (Zk (Zb 1) Zd) (Zk (Zb 0) Zd)))))
theorem C35:Cal P w K mg base "_law_dotted" 103 2 F_law_dotted:=ZL (N:=["_law_point","_law_ray"]) (T.d.at 34 48) T.gl fun _ _ _ _ _ _ _ nd hr θ=>(Zi (Zu (Zh (C32 T) θ hr (Za (Zh (C33 T) θ hr (Za (Zk (Zb 1) Zd) (Za (Zk (Zb 0) Zd) Ze))) (Za (Zh (C33 T) θ hr (Za (Zk (Zb 1) Zd) (Za (Zk (Zb 0) Zd) Ze))) Ze)))))
theorem C36:Cal P w K mg base "_law_within" 104 3 F_law_within:=ZL (N:=["_law_rays","_law_height","_law_point","_law_k"]) (T.d.at 35 49) T.gl fun _ _ _ _ _ _ _ nd hr θ=>(Zf (ZaK θ.own T.b_range (Za (Zq Zp Z0 T.b_len PySem.boot_len (Za (Zb 0) Ze)) Ze) (Zm 3 nd) (Zi (ZZ (ZaI (Zh (C34 T) θ hr (Za (Zh (C32 T) θ hr (Za (Zh (C35 T) θ hr (Za (Zb 2) (Za (Zk (Zb 0) (Zb 3)) Ze))) (Za (Zk (Zb 1) (Zb 3)) Ze))) (Za (ZC (Za Zd (Za Zd Ze))) Ze)))) (Zi (Zu Zcs)) ZA))) (Zi (Zu Zcs)))
theorem C37:Cal P w K mg base "_law_corners" 105 2 F_law_corners:=ZL (N:=["_law_rays","_law_height","_law_found","_law_i","_law_j","_law_far","_law_side","_law_x","_law_y","_law_point"]) (T.d.at 36 50) T.gl fun _ _ _ _ _ _ _ nd hr θ=>(Zf (Zo 2 nd (Z7 Ze)) (Zf (ZaK θ.own T.b_range (Za (Zq Zp Z0 T.b_len PySem.boot_len (Za (Zb 0) Ze)) Ze) (Zm 3 nd) (Zi (ZjT θ.own T.b_range (Za (ZM (Zb 3) Zd) (Za (Zq Zp Z0 T.b_len PySem.boot_len (Za (Zb 0) Ze)) Ze)) (Zm 4 nd) (Zf (Zo 5 nd (Zh (C28 T) θ hr (Za (Zk (Zb 0) (Zb 3)) (Za (Zk (Zb 0) (Zb 4)) Ze)))) (Zi (ZZ (ZB (ZaZ hr.units) Zcx (Zb 5) Zd) (Zf (Zo 6 nd (ZT (Zb 5) (Zq Zac Zbh T.b_abs Zbi (Za (Zb 5) Ze)))) (Zf (Zo 7 nd (Zh (C32 T) θ hr (Za (Zh (C33 T) θ hr (Za (Zy (Zb 6) (Zk (Zk (Zb 0) (Zb 3)) Zd)) (Za (Zk (Zb 1) (Zb 4)) Ze))) (Za (Zh (C33 T) θ hr (Za (Zay Zd (Zy (Zb 6) (Zk (Zk (Zb 0) (Zb 4)) Zd))) (Za (Zk (Zb 1) (Zb 3)) Ze))) Ze)))) (Zf (Zo 8 nd (Zh (C32 T) θ hr (Za (Zh (C33 T) θ hr (Za (Zy (Zb 6) (Zk (Zk (Zb 0) (Zb 4)) Zd)) (Za (Zk (Zb 1) (Zb 3)) Ze))) (Za (Zh (C33 T) θ hr (Za (Zay Zd (Zy (Zb 6) (Zk (Zk (Zb 0) (Zb 3)) Zd))) (Za (Zk (Zb 1) (Zb 4)) Ze))) Ze)))) (Zf (Zo 9 nd (ZC (Za (Zh (C31 T) θ hr (Za (Zk (Zb 7) Zd) (Za (Zy (Zk (Zb 7) Zd) (Zq Zac Zbh T.b_abs Zbi (Za (Zb 5) Ze))) Ze))) (Za (Zh (C31 T) θ hr (Za (Zk (Zb 8) Zd) (Za (Zy (Zk (Zb 8) Zd) (Zq Zac Zbh T.b_abs Zbi (Za (Zb 5) Ze))) Ze))) Ze)))) (Zi (ZZ (ZgB (Zcu (ZB (ZhU hr.units) ZhV (Zb 9) (Zb 2)) (Zbn (ZaI (Zh (C36 T) θ hr (Za (Zb 0) (Za (Zb 1) (Za (Zb 9) Ze)))))))) (Zi (ZaC (Zas (Zb 2) (Zb 9)))) ZA)))))) ZA)))))) (Zi (Zu (Zb 2)))))
theorem C38:Cal P w K mg base "_law_are_whole" 101 1 F_law_are_whole:=ZL (N:=["_law_found"]) (T.d.at 37 51) T.gl fun _ _ _ _ _ _ _ nd hr θ=>(Zf (ZZ (Zcv (ZaI (Zc6 ZjP T.b_isinstance T.b_list Zdp (Zb 0)))) (Zi (Zu Zcs)) ZA) (Zi (Zu (Zq (ZjX (ZG hr (by decide))) ZoE T.b_all ZoB (Za (ZaL (Znz (N:=["_law_x"]) (k:=1) (by decide +kernel) rfl (by decide +kernel) rfl) (Za2 (Zb 0)) (fun _ _ _ _=>(Zm 0 (show List.Nodup (["_law_x"]:List Str)by decide +kernel))) (fun _ _ _ _=>(Or.inl ⟨rfl,rfl⟩)) (fun _ _ _ _=>(ZfL (Zc6 Zhx T.b_isinstance T.b_int Zk5 (Zb 0)) (Zhr (ZkV (Zc6 ZfP T.b_isinstance T.b_bool ZhD (Zb 0))))))) Ze)))))
theorem C39:Cal P w K mg base "_law_low" 103 2 F_law_low:=ZL (N:=["_law_cell","_law_rays","_law_height","_law_ray","_law_k","_law_at"]) (T.d.at 38 52) T.gl fun _ _ _ _ _ _ _ nd hr θ=>(Zf (Zo 2 nd (Z7 Ze)) (Zf (Zc7 θ.own (Zb 1) (Zm 3 nd) (Zf (ZaC (Zas (Zb 2) (Zh (C31 T) θ hr (Za (Zay (ZV (Zb 0) Zd) Zd) (Za (ZM Zd (ZV (ZT (Zb 0) Zd) Zd)) Ze))))) (Zi (Zo 0 nd (ZT (Zb 0) Zd))))) (Zf (ZaK θ.own T.b_range (Za (ZM Zd (ZV (Zb 0) Zd)) Ze) (Zm 4 nd) (Zf (Zo 5 nd (ZV (ZT (Zb 0) Zd) (Zq Zp Z0 T.b_len PySem.boot_len (Za (Zb 1) Ze)))) (Zf (Zk2 (Zb 2) (Zb 5) (Zh (C32 T) θ hr (Za (Zk (Zb 2) (Zb 5)) (Za (ZC (Za (Zay Zd (ZV (ZT (Zb 0) Zd) Zd)) (Za Zd Ze))) Ze)))) (Zi (Zo 0 nd (ZT (Zb 0) Zd)))))) (Zi (Zu (Zb 2))))))
theorem C40:Cal P w K mg base "_law_right" 103 3 F_law_right:=ZL (N:=["_law_rays","_law_height","_law_found","_law_x","_law_y","_law_high","_law_k"]) (T.d.at 39 53) T.gl fun _ _ _ _ _ _ _ nd hr θ=>(Zf (ZZ (ZgB (Zd7 (Zcv (ZaI (Zc6 Zhy T.b_isinstance T.b_tuple ZjU (Zb 2)))) (Zd7 (ZB (ZaZ hr.units) Zcx (Zq Zp Z0 T.b_len PySem.boot_len (Za (Zb 2) Ze)) Zd) (Zd7 (ZB (ZaZ hr.units) Zcx (Zk (Zb 2) Zd) ZaX) (Zc4 (Zcv (ZaI (Zh (C38 T) θ hr (Za (Zk (Zb 2) Zd) Ze))))))))) (Zi (Zu Zcs)) ZA) (Zf (ZZ (ZgB (Zd7 (ZB (ZaZ hr.units) Zcx (Zq Zp Z0 T.b_len PySem.boot_len (Za (Zk (Zb 2) Zd) Ze)) (Zq Zp Z0 T.b_len PySem.boot_len (Za (Zb 0) Ze))) (Zc4 (ZB Zdj Zdm (Zq (Zeq (ZG hr (by decide))) ZhX T.b_min ZhE (Za (Zk (Zb 2) Zd) Ze)) Zd)))) (Zi (Zu Zcs)) ZA)
  (Zf (Zo 3 nd Zd) (Zf (Zo 4 nd Zd) (Zf (Zo 5 nd (ZC (Za Zd (Za Zd Ze)))) (Zf (ZaK θ.own T.b_range (Za (Zq Zp Z0 T.b_len PySem.boot_len (Za (Zb 0) Ze)) Ze) (Zm 6 nd) (Zf (Zo 3 nd (ZM (Zb 3) (Zy (Zk (Zk (Zb 2) Zd) (Zb 6)) (Zk (Zk (Zb 0) (Zb 6)) Zd)))) (Zf (Zo 4 nd (ZM (Zb 4) (Zy (Zk (Zk (Zb 2) Zd) (Zb 6)) (Zk (Zk (Zb 0) (Zb 6)) Zd)))) (Zi (Zo 5 nd (Zh (C32 T) θ hr (Za (Zb 5) (Za (Zh (C33 T) θ hr (Za (Zk (Zk (Zb 2) Zd) (Zb 6)) (Za (Zk (Zb 1) (Zb 6)) Ze))) Ze)))))))) (Zi (Zu (ZfL (Zd6 (ZbB hr.units) Zdn (Zb 3) Zd) (ZfL (Zd6 (ZbB hr.units) Zdn (Zb 4) Zd) (Zhr (Zd6 Zdj Zdm (Zk (Zb 5) Zd) Zd))))))))))))
theorem ZqA{f:Addr}{fd:FuncData}(F:Fun K "law" "law" (top 54) f fd):FnOk P w K mg base (CXE P w) 109 f fd ["_law_script"] (spD K Zfy):=
 have nd:List.Nodup (["_law_script","_law_place","_law_cell","_law_rays","_law_height","_law_lent","_law_found"]:List Str):=by decide +kernel
 ZoA (N:=["_law_script","_law_place","_law_cell","_law_rays","_law_height","_law_lent","_law_found"]) F ⟨rfl,rfl,rfl,nd,rfl,by decide +kernel,by decide +kernel⟩ rfl rfl fun _ _ _ _ _ _ hr θ=>(Zf (Zdt θ.own (Zim T.b_range (Za Zd (Za (Zq (Zg9 (ZG hr (by decide))) Zoy T.b_max Zk6 (Za Zd (Za (Zq (Zha (ZG hr (by decide))) Zoz T.b_min ZhE (Za (Zq Zp Z0 T.b_len PySem.boot_len (Za (Zb 0) Ze)) (Za Zd Ze))) Ze))) (Za Zd Ze)))) (Zm 1 nd) (Zf (Zo 2 nd (Zh (C27 T) θ hr (Za (Zb 0) (Za (Zb 1) Ze))))
  (Zf (Zo 3 nd (Zh (C30 T) θ hr (Za (ZT (Zb 2) Zd) (Za (Zk (Z7 (Za Zd (Za Zd (Za Zd (Za Zd (Za Zd (Za Zd (Za Zd (Za Zd Ze))))))))) (ZV (Zb 2) Zd)) Ze)))) (Zf (Zo 4 nd (Zh (C39 T) θ hr (Za (Zh (C27 T) θ hr (Za (Zb 0) (Za (ZM (Zb 1) Zd) Ze))) (Za (Zb 3) Ze)))) (Zf (Zo 5 nd (Z7 (Za (Zcy ZbZ Zhw T.b_list Zdp (Za (Zb 3) Ze)) (Za (Zcy ZbZ Zhw T.b_list Zdp (Za (Zb 4) Ze)) Ze)))) (Zf (Zo 6 nd (Zh (C26 T) θ hr (Za (Zk (Zb 5) Zd) (Za (Zk (Zb 5) Zd) Ze)))) (Zf (ZZ (ZB (ZaZ hr.units) Zcx (Zb 5) (Z7 (Za (Zb 3) (Za (Zb 4) Ze)))) (Zi (Zu Zcs)) ZA) (Zi (ZZ (ZB (ZaZ hr.units) Zcx (Zh (C37 T) θ hr (Za (Zb 3) (Za (Zb 4) Ze))) (Z7 Ze)) (Zi (ZZ (ZB (ZaZ hr.units) Zcx (Zk (Zb 6) Zd) ZaX) (Zi (Zu Zcs)) ZA)) (Zf (ZZ (Zcv (ZaI (Zh (C40 T) θ hr (Za (Zb 3) (Za (Zb 4) (Za (Zb 6) Ze)))))) (Zi (Zu Zcs)) ZA) (Zf (ZaC (Zas (Zk (Zb 6) Zd) (ZaY Zd))) (Zi (ZZ (ZgB (Zd7 (Zcv (ZaI (Zh (C40 T) θ hr (Za (Zb 3) (Za (Zb 4) (Za (Zh (C26 T) θ hr (Za (Zk (Zb 5) Zd) (Za (Zk (Zb 5) Zd) Ze))) Ze)))))) (Zc4 (ZB (ZaZ hr.units) Zcx (Zb 5) (Z7 (Za (Zb 3) (Za (Zb 4) Ze))))))) (Zi (Zu Zcs)) ZA)))))))))))))
  (Zi (Zu Zcs)))
end
theorem fin{l:PySem.W.OpenLaw}(X:K.In h)(G:h.Ns mainGlobals mg)(hfa:mg "law"=some (.ref fa))(T:Txt K mg):∃fd:FuncData,(∀(s:Shared)(v:Value),BindsTo s fd ⟨[v],[]⟩ [("_law_script",v)])/\∀base:Heap,K.In base->base.Ns mainGlobals mg->FnOk l.prog w K mg base (CXE l.prog w) 109 fa fd ["_law_script"] (spD K Zfy):=
 ZoC (l:=l) (w:=w) X G hfa (T.d.at 40 54) (fun _ _ _ _ _ _ _=>rfl) fun base fd F=>ZqA (base:=base) T F
end K56
namespace K56
open L2 DL
open CV CN CU CS
open CR (rt Sz)
open CH (rts ZD ZU)
open CD (pts ZQ Za9 hts)
open Rb BD BL PT
section
variable {k i j:Nat}{rs:List Pt}{hs:List Rat}{x:Rat}
noncomputable def Gd(c:Int)(x:Rat):Prop:=x.den ∣ 6/\ -(c:Rat)<=x/\x<=(c:Rat)
theorem Gd.sz(h:Gd 40 x):Sz 9 x:=by
 obtain⟨h1,h2,h3⟩:=h;have d6:=Nat.le_of_dvd (by decide) h1
 have e:=Zb7 x;have d0:(0:Rat)<=(x.den:Rat):=Rat.natCast_nonneg;have dd:(x.den:Rat)<=((6:Nat):Rat):=Rat.natCast_le_natCast.mpr d6;have a1:=Rat.mul_le_mul_of_nonneg_right h3 d0;have a2:=Rat.mul_le_mul_of_nonneg_right h2 d0;have c6:((6:Nat):Rat)=6:=rfl;have c40:((40:Int):Rat)=40:=rfl;rw[c6]at dd;rw[c40]at a1 a2;have b1:(x.num:Rat)<=((240:Int):Rat):=by rw[e,show((240:Int):Rat)=240 from rfl];grind
 have b2:((-240:Int):Rat)<=(x.num:Rat):=by rw[e,show((-240:Int):Rat)= -240 from rfl];grind
 have b1:=Rat.intCast_le_intCast.mp b1;have b2:=Rat.intCast_le_intCast.mp b2;exact⟨by lia,by lia⟩
theorem Gd.up(h:Gd c x)(hcd:c<=d):Gd d x:=by
 obtain⟨h1,h2,h3⟩:=h
 have:=Rat.intCast_le_intCast.mpr hcd
 exact⟨h1,by grind,by grind⟩
theorem ZqB(hb:b≠0)(t0: -3<=t/\t<=6)(b3:b<=3):Gd 6 (Rat.normalize t b hb):=by
 have dv:(Rat.normalize t b hb).den ∣ b:=by
  rw[Rat.den_normalize];exact Nat.div_dvd_of_dvd (Nat.gcd_dvd_right _ _)
 have b6:b ∣ 6:=by
  rcases(show b=1\/b=2\/b=3 by lia)with rfl|rfl|rfl<;>decide
 have e:(t:Rat)=Rat.normalize t b hb*(b:Rat):=by
  obtain⟨d,d0,e1,e2⟩:=Rat.normalize_num_den' t b hb;generalize Rat.normalize t b hb=y at *;rw[e1,Rat.intCast_mul,Zb7 y,e2,Rat.natCast_mul,Rat.intCast_natCast];grind
 have l1:((-3:Int):Rat)<=(t:Rat):=Rat.intCast_le_intCast.mpr t0.1;have l2:(t:Rat)<=((6:Int):Rat):=Rat.intCast_le_intCast.mpr t0.2;rw[show((-3:Int):Rat)= -3 from rfl]at l1;rw[show((6:Int):Rat)=6 from rfl]at l2;refine⟨Nat.dvd_trans dv b6,?_,?_⟩<;>rw[show((6:Int):Rat)=6 from rfl]<;>generalize Rat.normalize t b hb=y at *
 ·rcases(show b=1\/b=2\/b=3 by lia)with rfl|rfl|rfl
  ·rw[show((1:Nat):Rat)=1 from rfl]at e;grind
  ·rw[show((2:Nat):Rat)=2 from rfl]at e;grind
  ·rw[show((3:Nat):Rat)=3 from rfl]at e;grind
 ·rcases(show b=1\/b=2\/b=3 by lia)with rfl|rfl|rfl
  ·rw[show((1:Nat):Rat)=1 from rfl]at e;grind
  ·rw[show((2:Nat):Rat)=2 from rfl]at e;grind
  ·rw[show((3:Nat):Rat)=3 from rfl]at e;grind
theorem ZqC{z:Int}(h:Gd c x)(hz: -11<=z/\z<=0):Gd (c+11) (x+(z:Rat)):=by
 obtain⟨h1,h2,h3⟩:=h;have l1:((-11:Int):Rat)<=(z:Rat):=Rat.intCast_le_intCast.mpr hz.1;have l2:(z:Rat)<=((0:Int):Rat):=Rat.intCast_le_intCast.mpr hz.2;rw[show((-11:Int):Rat)= -11 from rfl]at l1;rw[show((0:Int):Rat)=0 from rfl]at l2;refine⟨?_,?_,?_⟩
 ·refine Nat.dvd_trans ?_ h1;rw[Rat.add_def,Rat.den_normalize]
  have:=Nat.div_dvd_of_dvd (Nat.gcd_dvd_right (x.num * ↑((z:Rat)).den+((z:Rat)).num * ↑x.den).natAbs (x.den*((z:Rat)).den))
  rw[show((z:Rat)).den=1 from rfl,Nat.mul_one]at this ⊢;exact this
 ·rw[Rat.intCast_add,show((11:Int):Rat)=11 from rfl];grind
 ·rw[Rat.intCast_add,show((11:Int):Rat)=11 from rfl];grind
theorem Znw{y:Rat}{c:Int}(h:∀x∈hs,Gd c x)(hy:Gd c y):∀x∈hs.set i y,Gd c x:=fun x hx=>by
 rcases List.mem_or_eq_of_mem_set hx with z|z
 ·exact h x z
 ·rw[z];exact hy
theorem Znx:(rts hs).set i (rt y)=rts (hs.set i y):=by simp[rts]
theorem ZqD(h:M[n]?=some (.lst (prs rs)))(hne:rs≠[])(hl:rs.length<=1000)(hc:0<=c)(q:∀hs M',hs.length=rs.length->(∀x∈hs,Gd 40 x)->Kp M M'->M'[M.length]?=some (.lst (rts hs))->Q (.ref M.length) M'):wO (F_law_low [.int c,.ref n] M) Q E:=by
 have hn:=Zv h;have l0:=List.length_pos_iff.mpr hne;simp![Zso,Zva,Zsx,kPu,Zpo,Option.isSome_some,F_law_low,ZeT];have r0:(M++[SO.lst []])[M.length]?=some (.lst (rts [])):=by simp[rts]
 refine ZbO (xs:=prs rs) (fun i ρ M'=>Kp M M'/\M'[n]?=some (.lst (prs rs))/\∃hs c x3 x4 x5,ρ=[some (.int c),some (.ref n),some (.ref M.length),x3,x4,x5]/\0<=c/\M'[M.length]?=some (.lst (rts hs))/\hs.length=i/\∀x∈hs,Gd 6 x) (by rw[List.getElem?_append_left hn];exact h) ⟨Kp.app,by rw[List.getElem?_append_left hn];exact h,[],c,_,_,_,rfl,hc,r0,rfl,fun x hx=>(by cases hx)⟩ (fun i ρ M' hI=>hI.2.1) ?_ ?_
 ·rintro i ρ M1 hi ⟨K1,h1,hs,c,x3,x4,x5,rfl,hc,r1,len,gd⟩;rw[ZP]at hi;have hx:=Zv r1;have nem:M.length≠n:=by lia
  have t0:=Int.emod_nonneg c (show(10:Int)≠0 by decide)
  have t1:=Int.emod_lt_of_pos c (show(0:Int)<10 by decide)
  have b0:=Int.emod_nonneg (c/10) (show(3:Int)≠0 by decide)
  have b1:=Int.emod_lt_of_pos (c/10) (show(0:Int)<3 by decide)
  obtain⟨b,hb⟩:∃b:Nat,(b:Int)=1+c/10%3:=⟨(1+c/10%3).toNat,by lia⟩
  have hb0:b≠0:=by lia
  have lr:∀{t:Int}{Q:W0}{E:W2}{M:Sto},wO (BL.F_law_ratio [.int t,.int (1+c/10%3)] M) Q E=Q (rt (Rat.normalize t b hb0)) M:=by
   intro t Q E M;rw[<-hb];exact ZdP (k:=8) hb0 (by lia) (by lia)
  have gn:=ZqB (t:=c%10-3) hb0 (by lia) (by lia)
  simp![Zso,Zva,Zsx,kPu,Zpo,Option.isSome_some,Zb8,lr,r1,List.getElem?_set_self hx,List.getElem?_set_ne nem];refine⟨by rw[ZD];lia,K1.set (Nat.le_refl _),h1,hs++[Rat.normalize (c%10-3) b hb0],_,_,_,_,rfl,by lia,by rw[ZU],by simp[len],fun x hx=>?_⟩
  rcases List.mem_append.mp hx with z|z
  ·exact gd x z
  ·rcases List.mem_cons.mp z with rfl|z
   ·exact gn
   ·cases z
 ·rintro ρ M1 ⟨K1,h1,hs,c,x3,x4,x5,rfl,hc,r1,len,gd⟩;rw[ZP]at len;simp![Zso,Zva,Zsx,kPu,Zpo,Option.isSome_some,Zn];have t0:=Int.emod_nonneg c (show(3:Int)≠0 by decide)
  have t1:=Int.emod_lt_of_pos c (show(0:Int)<3 by decide)
  refine⟨by lia,?_⟩
  obtain⟨b,hb⟩:∃b:Nat,(1+c%3).toNat=b:=⟨_,rfl⟩;have b3:b<=3:=by lia
  rw[hb];refine Zb3 (n:=b) (lo:=0) (fun i ρ M'=>Kp M M'/\M'[n]?=some (.lst (prs rs))/\∃hs c x3 x4 x5,ρ=[some (.int c),some (.ref n),some (.ref M.length),x3,x4,x5]/\0<=c/\M'[M.length]?=some (.lst (rts hs))/\hs.length=rs.length/\∀x∈hs,Gd (6+11*i) x) ⟨K1,h1,hs,c,_,_,_,rfl,hc,r1,len,fun x hx=>(gd x hx).up (by lia)⟩ ?_ ?_
  ·rintro i ρ M2 hi ⟨K2,h2,hs,c,x3,x4,x5,rfl,hc,r2,len,gd⟩;have hx:=Zv r2;have nem:M.length≠n:=by lia
   have a0:=Int.emod_nonneg (c/3) (show(rs.length:Int)≠0 by lia)
   have a1:=Int.emod_lt_of_pos (c/3) (show(0:Int)<rs.length by lia)
   obtain⟨a,ha⟩:∃a:Nat,c/3%(rs.length:Int)=a:=⟨(c/3%(rs.length:Int)).toNat,by lia⟩
   have al:a<rs.length:=by lia
   have z0:=Int.emod_nonneg (c/50) (show(12:Int)≠0 by decide)
   have z1:=Int.emod_lt_of_pos (c/50) (show(0:Int)<12 by decide)
   have ga:=gd (cq hs a) (by rw[Za8 (by lia)];exact List.getElem_mem _)
   have gs:=(ga.up (d:=40) (by lia)).sz
   have g2:=ZqC ga (z:=0-c/50%12) (by lia)
   have ls:∀{Q:W0}{E:W2}{M:Sto},wO (BL.F_law_sum [rt (cq hs a),rt ((0-c/50%12:Int):Rat)] M) Q E=Q (rt (cq hs a+((0-c/50%12:Int):Rat))) M:=Zdf gs (ZN (k:=5) (by lia) (by decide)) (by lia)
   simp![Zso,Zva,Zsx,kPu,Zpo,Option.isSome_some,Zb9,h2,ha,r2,Zb6];rw[show D.tup [D.int (0-c/50%12),D.int 1]=rt ((0-c/50%12:Int):Rat)from Zb5 _];have ix:ixN hs.length (a:Int)=some a:=ZiP (by lia)
   simp![Zso,Zva,Zsx,kPu,Zpo,Option.isSome_some,ls,r2,ZD,ix,Znx,List.getElem?_set_self hx,List.getElem?_set_ne nem];refine⟨K2.set (Nat.le_refl _),h2,hs.set a (cq hs a+((0-c/50%12:Int):Rat)),_,_,_,_,rfl,by lia,rfl,by simp[len],Znw (fun x hx=>(gd x hx).up (by lia)) ?_⟩
   rw[show(6:Int)+11*((i+1:Nat):Int)=6+11*i+11 by lia]
   exact g2
  ·rintro ρ M2 ⟨K2,h2,hs,c,x3,x4,x5,rfl,hc,r2,len,gd⟩;simp![Zso,Zva,Zsx,kPu,Zpo,Option.isSome_some,Zn];exact q hs M2 len (fun x hx=>(gd x hx).up (by lia)) K2 r2
theorem ZqE{L:List Int}(h:L≠[])(h0:∀x∈L,0<=x):∃mn,L.min?=some mn/\0<=mn:=by
 cases e:L.min? with
 |none=>exact absurd (List.min?_eq_none_iff.mp e) h
 |some mn=>exact⟨mn,rfl,h0 mn (List.min?_eq_some_iff.mp e).1⟩
theorem ZqF(nn:Nn (bal rs i j k)):∀x∈wts rs i j k,0<=x:=fun x hx=>by
 simp only[Nn,bal,List.mem_cons,List.not_mem_nil,or_false,forall_eq_or_imp,forall_eq]at nn;unfold wts at hx;rcases List.mem_or_eq_of_mem_set hx with z|z
 ·rcases List.mem_or_eq_of_mem_set z with z|z
  ·rcases List.mem_or_eq_of_mem_set z with z|z
   ·have:=(List.mem_replicate.mp z).2
    lia
   ·lia
  ·lia
 ·lia
theorem Zs2(ha:a.natAbs<2^17)(hb:b.natAbs<2^17)(hc:c.natAbs<2^17)(hf:∀q,Sz 9 (f q)):Sz 80 (vR i j k a b c m f):=by
 have one:∀(p:Prop) [Decidable p] (a:Int) (q:Nat),a.natAbs<2^17->Sz 26 (if p then(a:Rat)*f q else 0):=fun p _ a q h=>by
  split
  ·exact CR.ZY (ZN h (by decide)) (hf q)
  ·exact Zi0 (ZN (z:=0) (k:=1) (by decide) (by decide)) (by decide)
 unfold vR;exact CR.ZcN (CR.ZcN (one _ a i ha) (one _ b j hb)) (one _ c k hc)
theorem q_s:eqF (l+1) M (.str t) (.str u)=some (decide (t=u)):=rfl
theorem ZqG{x:Rat}(h:x<0):x.num<0:=by
 have p:(0:Rat)<(x.den:Rat):=Rat.natCast_pos.mpr (Nat.pos_of_ne_zero x.den_nz);have a:=ZeR p h;have e:=Zb7 x;refine Rat.intCast_neg_iff.mp ?_;rw[e];grind
theorem Zgq(hs0:s0=PySem.Str.ofString "none")(h:M[n]?=some (.lst (prs rs)))(hb:Nr 200 rs)(hl:rs.length<=31)(h':M[m]?=some (.lst (rts hs)))(e:hs.length=rs.length)(gd:∀x∈hs,Gd 40 x)(ij:i<j)(jk:j<k)(kn:k<rs.length)(bl:Bl rs (whl (Zbk hs) hs) i j k)(ho:M[o]?=some (.lst (nts (wts rs i j k))))(q:∀M',Kp M M'->Q (.bl true) M'):wO (F_law_right [.ref n,.ref m,.tup [.str s0,.ref o]] M) Q E:=by
 have hn:=Zv h;have hm:=Zv h';have hol:=Zv ho;have hne:rs≠[]:=fun z=>by rw[z]at kn;simp at kn
 have es:eqF 12 M (.str s0) (.str (PySem.Str.ofString "none"))=some true:=by rw[hs0,q_s];simp
 simp![Zse,ZpG,Zsf,ZpH,Zsi,ZpK,ZpX,wF3,Zpl,Zpp,Zpu,Zpy,Int.cast_ofNat_Int,F_law_right,ZcX,es];refine CF.Zfm ho (by rw[ZbX];lia) fun M1 l1 g1=>?_
 have K1:Kp M M1:=Kp.of l1 g1;have h1:=K1.get h;have h1':=K1.get h';have ho1:=K1.get ho;obtain⟨mn,em,mn0⟩:=ZqE (L:=wts rs i j k) (fun z=>by have:=ZbX (rs:=rs) (i:=i) (j:=j) (k:=k);rw[z]at this;simp at this;lia) (ZqF bl.1)
 have ei:ZaD (nts (wts rs i j k))=some (wts rs i j k):=CD.ZbI;simp![Zse,ZpG,Zsf,ZpH,Zsi,ZpK,ZpX,wF3,Zpl,Zpp,Zpu,Zpy,Int.cast_ofNat_Int,h1,ho1,ZbX,ZpW,ZpV,ei,em];have bi:=hb _ (ZX (i:=i) hne);have bj:=hb _ (ZX (i:=j) hne);have bk:=hb _ (ZX (i:=k) hne);have x1:=ZqS bj bk;have x2:=ZqS bk bi;have x3:=ZqS bi bj;have h0:=Zco hs;have lo:=bl.2;rw[ZcW (by lia),ZcW (by lia),ZcW (by lia)]at lo
 have lo:=Znv h0 (ZgR (by lia)) (ZgR (by lia)) (ZgR (by lia)) lo
 have cw:=fun(q:Nat) (hq:q<rs.length)=>Zqy (rs:=rs) ij jk kn hq;generalize hA:X (cy rs j) (cy rs k)=A at *;generalize hB:X (cy rs k) (cy rs i)=B' at *;generalize hC:X (cy rs i) (cy rs j)=C' at *;have wl:∀q:Nat,(wat i j k A B' C' q).natAbs<2^17:=fun q=>by
  unfold wat;split
  ·exact x1
  ·split
   ·exact x2
   ·split
    ·exact x3
    ·decide
 have sq:∀q:Nat,Sz 9 (cq hs q):=fun q=>(gd _ (by
  have hp:((q:Int)%(hs.length:Int)).toNat<hs.length:=by
   have:=Int.emod_lt_of_pos (q:Int) (show(0:Int)<hs.length by lia)
   have:=Int.emod_nonneg (q:Int) (show(hs.length:Int)≠0 by lia)
   lia
  unfold cq;rw[List.getD_eq_getElem?_getD,List.getElem?_eq_getElem hp];exact List.getElem_mem hp)).sz
 have fx:vI i j k A B' C' rs.length (fun q=>(cy rs q).1)=0:=by
  unfold vI;rw[if_pos (by lia),if_pos (by lia),if_pos (by lia),<-hA,<-hB,<-hC]
  unfold X;grind
 have fy:vI i j k A B' C' rs.length (fun q=>(cy rs q).2)=0:=by
  unfold vI;rw[if_pos (by lia),if_pos (by lia),if_pos (by lia),<-hA,<-hB,<-hC]
  unfold X;grind
 have fh:vR i j k A B' C' rs.length (fun q=>cq hs q)<0:=by
  unfold vR;rw[if_pos (by lia),if_pos (by lia),if_pos (by lia)]
  exact lo
 have z1:vI i j k A B' C' 0 (fun q=>(cy rs q).1)=0:=by simp[vI]
 have z2:vI i j k A B' C' 0 (fun q=>(cy rs q).2)=0:=by simp[vI]
 have z3:vR i j k A B' C' 0 (fun q=>cq hs q)=((0:Int):Rat):=by simp only[vR,Nat.not_lt_zero,if_false];rw[show((0:Int):Rat)=0 from rfl];grind
 refine⟨by lia,?_⟩
 rw[Int.toNat_natCast];refine Zb3 (n:=rs.length) (lo:=0) (fun q ρ M'=>M'=M1/\∃x6,ρ=[some (.ref n),some (.ref m),some (.tup [.str s0,.ref o]),some (.int (vI i j k A B' C' q (fun q=>(cy rs q).1))),some (.int (vI i j k A B' C' q (fun q=>(cy rs q).2))),some (rt (vR i j k A B' C' q (fun q=>cq hs q))),x6]) ⟨rfl,none,by rw[z1,z2,z3,<-Zb5]⟩ ?_ ?_
 ·rintro q ρ M2 hq ⟨rfl,x6,rfl⟩;rw[show(0:Int)+(q:Nat)=q by lia]
  have w1:=wl q;have bq:=hb _ (ZX (i:=q) hne);have sv:=Zs2 (i:=i) (j:=j) (k:=k) (m:=q) (f:=fun q=>cq hs q) x1 x2 x3 sq;have lt:∀{Q:W0}{E:W2}{M:Sto},wO (BL.F_law_times [.int (wat i j k A B' C' q),rt (cq hs q)] M) Q E=Q (rt ((wat i j k A B' C' q:Rat)*cq hs q)) M:=ZaR w1 (sq q) (by lia) (by lia)
  have ls:∀{Q:W0}{E:W2}{M:Sto},wO (BL.F_law_sum [rt (vR i j k A B' C' q (fun q=>cq hs q)),rt ((wat i j k A B' C' q:Rat)*cq hs q)] M) Q E=Q (rt (vR i j k A B' C' q (fun q=>cq hs q)+(wat i j k A B' C' q:Rat)*cq hs q)) M:=Zdf sv (CR.ZY (ZN w1 (by decide)) (sq q)) (by lia)
  have cq1:=cw q hq;have aw:atI (nts (wts rs i j k)) (q:Int)=some (.int (wat i j k A B' C' q)):=by rw[Zli (by rw[ZbX];lia),cq1]
  have s1:=Zt3 (i:=i) (j:=j) (k:=k) (m:=q) (a:=A) (b:=B') (c:=C') (f:=fun q=>(cy rs q).1) ij jk;have s2:=Zt3 (i:=i) (j:=j) (k:=k) (m:=q) (a:=A) (b:=B') (c:=C') (f:=fun q=>(cy rs q).2) ij jk;have s3:=Zvq (i:=i) (j:=j) (k:=k) (m:=q) (a:=A) (b:=B') (c:=C') (f:=fun q=>cq hs q) ij jk;generalize wat i j k A B' C' q=w at *;simp![Zse,ZpG,Zsf,ZpH,Zsi,ZpK,ZpX,wF3,Zpl,Zpp,Zpu,Zpy,Int.cast_ofNat_Int,Zbl,h1,h1',ho1,aw,ZbG,Zb6,lt,ls];refine⟨some (.int q),?_⟩;rw[s1,s2,s3]
 ·rintro ρ M2 ⟨rfl,x6,rfl⟩;have nm:(vR i j k A B' C' rs.length (fun q=>cq hs q)).num<0:=ZqG fh;simp![Zse,ZpG,Zsf,ZpH,Zsi,ZpK,ZpX,wF3,Zpl,Zpp,Zpu,Zpy,Int.cast_ofNat_Int,fx,fy,nm];exact q _ K1
theorem Zvr(h:wO (fs ρ M) (fun ds M1=>∃i j c,ds=[.int i,.int j,.int c]/\(-(2^62)<=i/\i<2^62/\ -(2^62)<=j/\j<2^62/\1<=c/\c<=1000)/\QS (.pur (Zik i c (stN i j c))) M1) E):wO (iR3 fs ρ M) QS E:=by
 unfold iR3;rw[Zx];refine ZbN h (fun ds M1 k=>?_) (fun _ _ z=>z);obtain⟨i,j,c,rfl,b,q⟩:=k;show wO (if _ then _ else _) QS E
 rw[if_pos b];exact q
theorem Zs3(h1:M[n]?=some (.lst [.ref a,.ref b]))(h2:M[m]?=some (.lst [.ref a',.ref b']))(ha:M[a]?=some (.lst (prs rs)))(hb:M[b]?=some (.lst (rts hs)))(ha':M[a']?=some (.lst (prs rs)))(hb':M[b']?=some (.lst (rts hs))):eqF 12 M (.ref n) (.ref m)=some true:=by
 rw[ZiN h1 h2];have e1:eqF 11 M (.ref a) (.ref a')=some true:=by rw[ZsL (k:=8) ha ha'];simp
 have e2:eqF 11 M (.ref b) (.ref b')=some true:=by rw[ZsK (k:=8) hb hb'];simp
 simp[eqL,e1,e2]
theorem Zny{ns:List Int}{i:Nat}(hN:∀x1 x2 x3 x4 x5 x6 M',N [some (.rol (ns.map D.int)),x1,x2,x3,x4,x5,x6] M'):wS (ZdT [some (.rol (ns.map D.int)),some (.int i),x2,x3,x4,x5,x6] M) N R B C E:=by
 simp![Zsc,ZpF,Zsi,ZpK,ZuY,Zm7,Zva,Zsx,kLi,Zkz,Zpo,Option.isSome_some,ZqP,ZdT];refine CC.ZeN fun c c0=>?_;simp![Zsc,ZpF,Zsi,ZpK,ZuY,Zm7,Zva,Zsx,kLi,Zkz,Zpo,Option.isSome_some,ZqP,Zn];obtain⟨t,et,t1,t2⟩:∃t:Int,atI [D.int 9,D.int 9,D.int 9,D.int 9,D.int 9,D.int 9,D.int 9,D.int 14] (c%8)=some (.int t)/\3<=t/\t<=14:=by
  rcases(show c%8=0\/c%8=1\/c%8=2\/c%8=3\/c%8=4\/c%8=5\/c%8=6\/c%8=7 by lia)with e|e|e|e|e|e|e|e<;>rw[e]
  ·exact⟨9,rfl,by decide,by decide⟩
  ·exact⟨9,rfl,by decide,by decide⟩
  ·exact⟨9,rfl,by decide,by decide⟩
  ·exact⟨9,rfl,by decide,by decide⟩
  ·exact⟨9,rfl,by decide,by decide⟩
  ·exact⟨9,rfl,by decide,by decide⟩
  ·exact⟨9,rfl,by decide,by decide⟩
  ·exact⟨14,rfl,by decide,by decide⟩
 simp![Zsc,ZpF,Zsi,ZpK,ZuY,Zm7,Zva,Zsx,kLi,Zkz,Zpo,Option.isSome_some,ZqP,et];refine CC.ZkB (by lia) (by lia) fun rs n M1 s1 s2 s3 r1 l1 g1=>?_
 simp![Zsc,ZpF,Zsi,ZpK,ZuY,Zm7,Zva,Zsx,kLi,Zkz,Zpo,Option.isSome_some,ZqP,Zn];rw[show(i:Int)+1=((i+1:Nat):Int)by lia]
 refine CC.ZeN fun c c0=>?_;simp![Zsc,ZpF,Zsi,ZpK,ZuY,Zm7,Zva,Zsx,kLi,Zkz,Zpo,Option.isSome_some,ZqP,Zn];refine ZqD r1 s1.ne (by lia) c0 fun hs M2 e gd K2 r2=>?_
 have z:∀x∈hs,Sz 9 x:=fun x hx=>(gd x hx).sz;have g1:=K2.get r1;have hn2:=Zv g1;have hm2:=Zv r2;simp![Zsc,ZpF,Zsi,ZpK,ZuY,Zm7,Zva,Zsx,kLi,Zkz,Zpo,Option.isSome_some,ZqP,g1,r2];have A:(M2++[SO.lst (prs rs),SO.lst (rts hs),SO.lst [D.ref M2.length,D.ref (M2.length+1)]])[M2.length]?=some (.lst (prs rs)):=by simp
 have Bf:(M2++[SO.lst (prs rs),SO.lst (rts hs),SO.lst [D.ref M2.length,D.ref (M2.length+1)]])[M2.length+1]?=some (.lst (rts hs)):=by simp
 have L:(M2++[SO.lst (prs rs),SO.lst (rts hs),SO.lst [D.ref M2.length,D.ref (M2.length+1)]])[M2.length+2]?=some (.lst [D.ref M2.length,D.ref (M2.length+1)]):=by simp
 have K3:Kp M2 (M2++[SO.lst (prs rs),SO.lst (rts hs),SO.lst [D.ref M2.length,D.ref (M2.length+1)]]):=Kp.app;generalize M2++[SO.lst (prs rs),SO.lst (rts hs),SO.lst [D.ref M2.length,D.ref (M2.length+1)]]=M3 at *;have r1:=K3.get g1;have r3:=K3.get r2;have hl3:=Zv L;generalize M2.length=o2 at *;generalize M1.length=m at *;clear g1 r2 K3 K2;have same:∀M',Kp M3 M'->eqF 12 (M'++[SO.lst [D.ref n,D.ref m]]) (.ref (o2+2)) (.ref M'.length)=some true:=fun M' K=>by
  have K':=K.trans (Kp.app (L:=[SO.lst [D.ref n,D.ref m]]));exact Zs3 (K'.get L) (by simp) (K'.get A) (K'.get Bf) (K'.get r1) (K'.get r3)
 have emp:∀(ds:List RP)(M':Sto)(d9:Nat),M'[d9]?=some (.lst (pts ds))->eqF 12 (M'++[SO.lst []]) (.ref d9) (.ref M'.length)=some (decide (ds=[])):=fun ds M' d9 hd=>by
  rw[ZiN ((Kp.app (L:=[SO.lst []])).get hd) (show(M'++[SO.lst []])[M'.length]?=some (.lst [])by simp)]
  cases ds with
  |nil=>rfl
  |cons a r=>rfl
 refine ZeS A s1 s2 (by lia) Bf e z (by lia) (fun d M4 no em on4 K4=>?_) (fun ms a b M4 bo mne zp K4 la lb ra rb ab=>?_)
 ·simp![Zsc,ZpF,Zsi,ZpK,ZuY,Zm7,Zva,Zsx,kLi,Zkz,Zpo,Option.isSome_some,ZqP,same M4 K4];have K5:=K4.trans (Kp.app (L:=[SO.lst [D.ref n,D.ref m]]));refine Zdg (K5.get r1) s1 s2 (by lia) (K5.get r3) e z (by lia) fun ds M6 hd nd zd ld K6 rd=>?_
  have dn:ds=[]:=by
   cases ds with
   |nil=>rfl
   |cons a r=>exact absurd ((hd a).mp (by simp)) (no a)
  rw[show(M4++[SO.lst [D.ref n,D.ref m]]).length=M4.length+1 by simp]at rd
  have em6:eqF 12 (M6++[SO.lst []]) (.ref (M4.length+1)) (.ref M6.length)=some true:=by rw[emp ds M6 _ rd,dn];rfl
  obtain⟨i9,j9,k9,o9,ij,jk,kn,bl,rfl,ho⟩:∃i9 j9 k9 o9,i9<j9/\j9<k9/\k9<rs.length/\Bl rs (whl (Zbk hs) hs) i9 j9 k9/\d=.ref o9/\M4[o9]?=some (.lst (nts (wts rs i9 j9 k9))):=by
   rcases em with⟨_,nb⟩|em
   ·obtain⟨a,b,c,h1,h2,h3,h4⟩:=Zgp s1 e no;exact absurd h4 (nb a b c h1 h2 h3)
   ·exact em
  simp![Zsc,ZpF,Zsi,ZpK,ZuY,Zm7,Zva,Zsx,kLi,Zkz,Zpo,Option.isSome_some,ZqP,em6];have K7:=K6.trans (Kp.app (L:=[SO.lst []]));have K57:=K5.trans K7;have ho7:=K7.get ((Kp.app (L:=[SO.lst [D.ref n,D.ref m]])).get ho);refine Zgq (M:=M6++[SO.lst []]) rfl (K57.get r1) s2 (by lia) (K57.get r3) e gd ij jk kn bl ho7 fun M8 K8=>?_
  have ho8:=K8.get ho7;have hol:=Zv ho8;have L8:=(K57.trans K8).get L;have o9l:=on4 o9 rfl;have K9:=(K57.trans K8).set (o:=SO.lst (nts (wts rs i9 j9 k9++[-1]))) o9l;have ne9:o9≠o2+2:=by lia
  simp![Zsc,ZpF,Zsi,ZpK,ZuY,Zm7,Zva,Zsx,kLi,Zkz,Zpo,Option.isSome_some,ZqP,ho8,L8,List.getElem?_set_ne ne9,ZbX];refine⟨by lia,?_⟩
  generalize M8.set o9 (SO.lst (nts (wts rs i9 j9 k9++[-1])))=M9 at *;refine ZeS (K9.get A) s1 s2 (by lia) (K9.get Bf) e z (by lia) (fun d M10 no em on10 K10=>?_) (fun ms a b M4 bo mne zp K4 la lb ra rb ab=>?_)
  ·obtain⟨i8,j8,k8,o8,ij,jk,kn,bl,rfl,ho⟩:∃i9 j9 k9 o9,i9<j9/\j9<k9/\k9<rs.length/\Bl rs (whl (Zbk hs) hs) i9 j9 k9/\d=.ref o9/\M10[o9]?=some (.lst (nts (wts rs i9 j9 k9))):=by
    rcases em with⟨_,nb⟩|em
    ·obtain⟨a,b,c,h1,h2,h3,h4⟩:=Zgp s1 e no;exact absurd h4 (nb a b c h1 h2 h3)
    ·exact em
   have K11:=K9.trans K10;simp![Zsc,ZpF,Zsi,ZpK,ZuY,Zm7,Zva,Zsx,kLi,Zkz,Zpo,Option.isSome_some,ZqP,Zn];refine Zgq rfl (K11.get r1) s2 (by lia) (K11.get r3) e gd ij jk kn bl ho fun M12 K12=>?_
   simp![Zsc,ZpF,Zsi,ZpK,ZuY,Zm7,Zva,Zsx,kLi,Zkz,Zpo,Option.isSome_some,ZqP,same M12 (K11.trans K12)];exact hN _ _ _ _ _ _ _
  ·obtain⟨p,hp⟩:=List.exists_mem_of_ne_nil ms mne;exact absurd ((bo.1 p).mp hp) (no p)
 ·simp![Zsc,ZpF,Zsi,ZpK,ZuY,Zm7,Zva,Zsx,kLi,Zkz,Zpo,Option.isSome_some,ZqP,same M4 K4];have K5:=K4.trans (Kp.app (L:=[SO.lst [D.ref n,D.ref m]]));refine Zdg (K5.get r1) s1 s2 (by lia) (K5.get r3) e z (by lia) fun ds M6 hd nd zd ld K6 rd=>?_
  have dn:ds≠[]:=fun y=>by
   obtain⟨p,hp⟩:=List.exists_mem_of_ne_nil ms mne
   have:=(hd p).mpr ((bo.1 p).mp hp)
   rw[y]at this;cases this
  rw[show(M4++[SO.lst [D.ref n,D.ref m]]).length=M4.length+1 by simp]at rd
  have em6:eqF 12 (M6++[SO.lst []]) (.ref (M4.length+1)) (.ref M6.length)=some false:=by rw[emp ds M6 _ rd];simp[dn]
  have qs:∀M',eqF 12 M' (.str (PySem.Str.ofString "parted")) (.str (PySem.Str.ofString "parted"))=some true:=fun M'=>by rw[q_s];simp
  simp![Zsc,ZpF,Zsi,ZpK,ZuY,Zm7,Zva,Zsx,kLi,Zkz,Zpo,Option.isSome_some,ZqP,em6,qs];exact hN _ _ _ _ _ _ _
theorem law_true(ns:List Int)(h:ns.length<=63):∃M',Zfy [.rol (ns.map D.int)] []=.ok (.bl true) M':=by
 have w:wO (Zfy [.rol (ns.map D.int)] []) (fun d _=>d=.bl true) (fun _ _=>False):=by
  simp![ZpQ,Zpm,ZrX,ZrY,Zfy,Zqz];refine Zvr ?_;simp![ZpQ,Zpm,ZrX,ZrY,Zn];refine⟨_,_,_,rfl,by lia,?_⟩
  show wS (Zem _ _ _ _ _ _ _) _ _ _ _ _;refine Zf8 (fun _ ρ _=>∃x1 x2 x3 x4 x5 x6,ρ=[some (.rol (ns.map D.int)),x1,x2,x3,x4,x5,x6]) (xs:=Zik 0 2 (stN 0 (max 2 (min (ns.length:Int) 10)) 2)) _ 0 _ _ (by simp) (by simp[cnt]) ⟨_,_,_,_,_,_,rfl⟩ (fun i ρ M hi hI=>rfl) ?_ ?_
  ·rintro i ρ M hi ⟨x1,x2,x3,x4,x5,x6,rfl⟩;have e:(Zik 0 2 (stN 0 (max 2 (min (ns.length:Int) 10)) 2))[i]=.int ((2*i:Nat):Int):=by simp[Zik];lia
   rw[e];simp![ZpQ,Zpm,ZrX,ZrY,Zn];exact Zny fun _ _ _ _ _ _ _=>⟨_,_,_,_,_,_,rfl⟩
  ·rintro ρ M ⟨x1,x2,x3,x4,x5,x6,rfl⟩;simp![ZpQ,Zpm,ZrX,ZrY,Zn]
 obtain⟨d,M',e,rfl⟩:=ZbF w;exact⟨M',e⟩
end
end K56
namespace K56
open L2 DL
theorem Zvs{l:PySem.W.OpenLaw}{K:Params->Fg}{T:Fg}(hn:l.most=some 63)(hdf:d.params.defaults=[])(hY:∀(w:World)(h:Heap),YP w h->(K w.params).In h/\T.In h)(hT:∀w:World,Zf6 (K w.params) T=true)(F:∀(w:World)(mg:Str->Option Value)(fa:Addr)(h:Heap),(K w.params).In h->h.Ns mainGlobals mg->mg d.name=some (.ref fa)->∃fd:FuncData,(∀(s:Shared)(u:Value),BindsTo s fd ⟨[u],[]⟩ [("_law_script",u)])/\∀base:Heap,(K w.params).In base->base.Ns mainGlobals mg->FnOk l.prog w (K w.params) mg base (CXE l.prog w) 109 fa fd ["_law_script"] (spD (K w.params) Zfy)):PySem.W.WalkO q loose XP YP l.row.toRowW d [] (fun f vs=>PySem.call f vs):=
 L2.Zks (T:=fun _=>T) (n:=63) (k:=109) (x:="_law_script") (CX:=fun w=>CXE l.prog w) (sp:=fun w=>spD (K w.params) Zfy) hn (by decide) hdf ⟨fun _=>rfl,rfl,by decide,by decide⟩ hY hT F (fun _ _ a ns hl hS=>DL.ZmO hS (law_true ns hl)) fun _ _ _ _ _ ⟨_,_,_,_,_,_,_,_,_,_,_,_,_,q⟩=>q
end K56
open PySem.W PyProof.Rows
set_option maxRecDepth 1000000 in
set_option maxHeartbeats 0 in
theorem PySem.Challenge.cw_rayround_k56_weights_without_a_body_holds : PySem.Challenge.rw_rayround_k56_weights_without_a_body.Holds := by
 w_on
 refine holds_law K56.Zuk fun _=>?_;refine holds_open (q:=K56.qf PySem.Challenge.pw_rayround_k56_weights_without_a_body) (loose:=K56.lo) (Xt:=fun s=>xlAt (K56.qf PySem.Challenge.pw_rayround_k56_weights_without_a_body) [] s&&recOk [] s) (XP:=XL (K56.qf PySem.Challenge.pw_rayround_k56_weights_without_a_body) []) (Yf:=Hook.obs K56.Hk) (Ya:=Hook.val K56.Hk) (YP:=Hook.says K56.Hk) (N:=2801) ?hl (Hook.of K56.Hk) (Hook.keeps K56.Hk) (fun s e=>xl_of s (Bool.and_eq_true_iff.mp e).1) XL.keeps (by rfl) (by rfl) (by rfl) (fun s e=>recFacts_of (Bool.and_eq_true_iff.mp e).2) (by rfl) (by first|assumption|decide +kernel) (by decide +kernel) ⟨rfl,rfl,rfl,rfl,rfl,by decide +kernel⟩ ?hw ?hc
 case hl=>exact HD.Zhl rfl (by decide) (fun s=>rfl) (by decide) K56.Zrc
 case hw=>w_witness2
 case hc=>
  refine K56.Zvs (l:=PySem.Challenge.rw_rayround_k56_weights_without_a_body) (K:=K56.Kf PySem.Challenge.pw_rayround_k56_weights_without_a_body) (T:=K56.Tf) rfl rfl (fun w h Y=>⟨DL.ZmP (PySem.W.kIn_of Y),DL.Zkt (PySem.W.kIn_of Y) (by kernel_rfl)⟩) (fun w=>by kernel_rfl) ?F
  intro w mg fa h KX G hmg;refine K56.fin KX G hmg ⟨DL.Bs.of KX G ?_,fun c v e=>PySem.W.mg_of KX G e,DL.Dfs.of ?_,?_,?_,?_,?_,?_⟩
  all_goals kernel_rfl
