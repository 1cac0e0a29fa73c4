import PyProof.Rows.All
import Wide.All
import OpenK.AllK
import Wide.FinOn
import Lean
import PyProof.EqAt
import PyProof.EqKinds
import PyProof.TupleCall
import PyProof.FString
import PyProof.ZipIter
import PyProof.ListNew
import PyProof.RulesAssignMore
import PyProof.ReprRoads
import PyProof.FitsInt
import PyProof.Rows.Range3
import PyProof.CallFns
import PyProof.StrWalks
import KE.KIntText
import PySem.Challenge.RW_rayround_k37_whole_alike_or_not
set_option maxRecDepth 100000
set_option linter.all false
set_option Elab.async false
set_option maxHeartbeats 4000000
noncomputable section
set_option bootstrap.genMatcherCode false
set_option genSizeOf false
set_option genSizeOfSpec false
set_option compiler.extract_closed false
open PySem PySem.Spec
noncomputable abbrev Fg:=PySem.W.Frag
noncomputable abbrev Vp:=Value->Shared->Prop
noncomputable abbrev Pn:=List (Addr × Obj)
noncomputable abbrev Wb:=@wpAny_bind
noncomputable abbrev Hq:=@Heap.get?_push_of_some
noncomputable abbrev Hz:=@Heap.lt_size
noncomputable abbrev Wp:=@wpAny_pure
noncomputable abbrev Gq:=@List.getElem?_eq_getElem
section
namespace DQ
open PyProof.Rows
noncomputable def Zbd (A:Around)(h:Heap):Prop:=A.handled=none\/ ∃ ea oe vs,A.handled=some (.ref ea)/\h.get? ea=some oe/\oe.data= .fields vs/\vs[2]?=some .none
theorem Zbd.keeps {A:Around}{h h':Heap}(q:Zbd A h)(k: ∀ b o,h.get? b=some o->h'.get? b=some o):Zbd A h':=by
 rcases q with q | ⟨ea,oe,vs,e1,e2,e3,e4⟩
 ·exact .inl q
 ·exact .inr ⟨ea,oe,vs,e1,k _ _ e2,e3,e4⟩
theorem Zc8:entryFor table "proto.unchain"=some Builtin.«proto.unchain» :=entryFor_of_fast (by kernel_rfl)
section
variable {prog:Program}{w:World}{A:Around}{E:Vp}{s:Shared}
theorem Zeu {α:Type}{Q:α->Shared->Prop}{e:Addr}{oe:Obj}{vs:Array Value}(q:Zbd A s.heap)(he:s.heap.get? e=some oe)(hd:oe.data= .fields vs)(hz:2 < vs.size)
  (h: ∀ h',(∀ b o,b≠e->s.heap.get? b=some o->h'.get? b=some o)->(∃ o,h'.get? e=some o/\o.cls=oe.cls)->E (.ref e) { s with heap:=h' }):wpAny (model prog w) A (raiseNew (.ref e):Sem α) Q E s:=by
 have same:E (.ref e) s:=h s.heap (fun _ _ _ x=>x) ⟨oe,he,rfl⟩
 unfold raiseNew;refine Wb (wpAny_handled ?_)
 rcases q with q | ⟨ea,oa,ws,q1,q2,q3,q4⟩
 ·rw[q]
  exact Wb (Wp (wpAny_throw same))
 ·rw[q1]
  dsimp only
  by_cases c:(Value.ref ea != Value.ref e)=true
  ·rw[if_pos c]
   refine Wb (wpAny_holding (wpAny_runValue (codeAny_builtin Zc8 ?_)))
   unfold Builtin.«proto.unchain»;refine Wb (wpAny_field q2 q3 q4 ?_)
   refine Wb (Wp ?_)
   have sf:wpAny (model prog w) A (setField (.ref e) 2 (.ref ea)) (fun _ s'=>wpAny (model prog w) A (throw (Value.ref e):Sem α) Q E s') E s:=by
    refine wpAny_setField he hd hz (wpAny_throw (h _ (fun b o hb x=> ?_) ⟨_,Heap.get?_update_self _ he (Obj.isFreed_of_fields (Obj.data_mapFields hd _)),Obj.cls_mapFields _ _⟩))
    rw[Heap.get?_update_other _ _ (Ne.symm hb)]
    exact x
   exact Wp (Wb sf)
  ·rw[if_neg c]
   exact wpAny_throw same
theorem ZbO {α:Type}{Q:α->Shared->Prop}(q:Zbd A s.heap)
  (h: ∀ h' e,(∀ b o,s.heap.get? b=some o->h'.get? b=some o)->(∃ o,h'.get? e=some o/\o.cls= .type "StopIteration")->E (.ref e) { s with heap:=h' }):
  wpAny (model prog w) A (newExc (.type "StopIteration") [] >>= fun x=>(raiseNew x:Sem α)) Q E s:=by
 refine Wb ?_
 simp only[newExc,newTuple];refine Wb (wpAny_newObj_type ?_ (by size_fits))
 refine Wb (m:=firstArgMember _ _) (wpAny_of_eq (a:=Value.none) (by first | rfl | (simp only[firstArgMember];rfl)) ?_)
 refine wpAny_newObj_type ?_ (by size_fits)
 refine Zeu (q.keeps fun b o x=>Hq _ (Hq _ x)) (Heap.get?_push_size _ rfl) rfl (by rw[Array.size_append];exact Nat.lt_of_lt_of_le (by decide:2 < 6) (Nat.le_add_right _ _)) fun h' k he=> ?_
 exact h h' _ (fun b o x=>k b o (Nat.ne_of_lt (Nat.lt_of_lt_of_le (Hz x) (by rw[Heap.size_push];exact Nat.le_succ _))) (Hq _ (Hq _ x))) he
theorem ZkO {e:Addr}{Q:Bool->Shared->Prop}(he: ∃ o,s.heap.get? e=some o/\o.cls= .type "StopIteration")(h:Q true s):wpAny (model prog w) A (isInstance (.ref e) (.type "StopIteration")) Q E s:=
 let ⟨o,e1,e2⟩:=he
 wpAny_isInstance (T:="StopIteration") (b:=true) ⟨o,e1,e2⟩ isSubtype_stop h
theorem Zbd.in1 {h:Heap}(q:Zbd A h):Zbd A.in1 h:=q
noncomputable def Zgo (it:Addr)(s:Shared)(e:Value)(s':Shared):Prop:= ∃ a,e= .ref a/\(∃ o,s'.heap.get? a=some o/\o.cls= .type "StopIteration")/\ ∃ h',Heap.ExtBut it s.heap h'/\s'={ s with heap:=h' }
theorem Zgp {it:Addr}{T id:String}{b:Builtin}{Q:Option Value->Shared->Prop}(hT:s.TypeIs (.ref it) T)(sl:Slot T (Str.ofString "__next__") id)(hb:entryFor table id=some b)(ha:argsOk id ⟨[.ref it],[]⟩)
  (h:wpAny (model prog w) A.in1 (b ⟨[.ref it],[]⟩) (fun _ _=>False) (Zgo it s) s) (hQ: ∀ h',Heap.ExtBut it s.heap h'->Q none { s with heap:=h' }):wpAny (model prog w) A (pyNext (.ref it)) Q E s:=by
 unfold pyNext;refine Wb (wpAny_attempt (wpAny_callSpecial?_slot (name:=Str.ofString "__next__") hT sl (wpAny_call_entry sl hT hb (wpAny_mono h (fun _ _ z=>z.elim) fun e s' z=> ?_) ha)))
 obtain ⟨a,rfl,ho,h',eb,rfl⟩:=z
 exact Wb (ZkO ho (Wp (hQ h' eb)))
theorem Zgq {it:Addr}{x left step:Int}{Q:Option Value->Shared->Prop}(q:Zbd A s.heap)(hit:IsRangeIter s.heap it x left step)(hl:left<=0)
  (hQ: ∀ h',Heap.ExtBut it s.heap h'->Q none { s with heap:=h' }):wpAny (model prog w) A (pyNext (.ref it)) Q E s:=by
 refine Zgp ⟨_,hit,rfl⟩ F.slot_range_iterator_next F.entry_range_iterator_next (F.args_range_iterator_next_1 _) ?_ hQ
 refine Wb (m:=field (.ref it) 0) (wpAny_field hit rfl (x:=rawInt x) rfl ?_)
 refine Wb (m:=field (.ref it) 1) (wpAny_field hit rfl (x:=rawInt left) rfl ?_)
 refine Wb (m:=field (.ref it) 2) (wpAny_field hit rfl (x:=rawInt step) rfl ?_)
 dsimp only[rawInt];rw[if_pos hl];refine Wb (wpAny_rule (Wb ?_))
 exact ZbO q.in1 fun h' e k ho=>⟨e,rfl,ho,h',fun b o _ z=>k b o z,rfl⟩
theorem ZmN {it l:Addr}{i:Nat}{o ol:Obj}{items:Array Value}{n:Nat}(q:Zbd A s.heap)(ho:s.heap.get? it=some o)(hd:o.data= .fields #[.ref l,.int i 0])(hol:s.heap.get? l=some ol)(hdl:ol.data= .seq items n)(hx:items[i]?=none):
  wpAny (model prog w) A.in1 (Builtin.«list_iterator.__next__» ⟨[.ref it],[]⟩) (fun _ _=>False) (Zgo it s) s:=by
 refine Wb (m:=field (.ref it) 0) (wpAny_field ho hd (x:= .ref l) rfl ?_)
 dsimp only;rw[if_neg (show ¬ ((Value.ref l == Value.none)=true) from Bool.false_ne_true)];refine Wb (m:=field (.ref it) 1) (wpAny_field ho hd (x:= .int i 0) rfl ?_)
 refine Wb (m:=seqItems? (.ref l)) (wpAny_seqItems hol hdl ?_)
 simp only[Int.toNat_natCast,hx];refine Wb (wpAny_rule (Wb (wpAny_setField ho hd (by simp) ?_)))
 have q2:Zbd A.in1 (s.heap.update it (Obj.mapFields (·.setIfInBounds 0 Value.none))):=by
  rcases q with q | ⟨ea,oe,vs,e1,e2,e3,e4⟩
  ·exact .inl q
  ·refine .inr ⟨ea,oe,vs,e1,?_,e3,e4⟩
   rw[Heap.get?_update_other _ _ (fun z=> ?_)]
   ·exact e2
   ·rw[<- z,ho] at e2
    cases e2
    rw[hd] at e3;cases e3
    simp at e4
 refine ZbO q2 fun h' e k ho=>⟨e,rfl,ho,h',fun b o hb z=>k b o ?_,rfl⟩
 rw[Heap.get?_update_other _ _ (Ne.symm hb)]
 exact z
theorem ZmO {it l:Addr}{i:Nat}{o ol:Obj}{items:Array Value}{n:Nat}(q:Zbd A s.heap)(ho:s.heap.get? it=some o)(hd:o.data= .fields #[.ref l,.int i 0])(hol:s.heap.get? l=some ol)(hdl:ol.data= .seq items n)(hx:items[i]?=none):
  wpAny (model prog w) A.in1 (Builtin.«tuple_iterator.__next__» ⟨[.ref it],[]⟩) (fun _ _=>False) (Zgo it s) s:=by
 refine Wb (m:=field (.ref it) 0) (wpAny_field ho hd (x:= .ref l) rfl ?_)
 dsimp only;rw[if_neg (show ¬ ((Value.ref l == Value.none)=true) from Bool.false_ne_true)];refine Wb (m:=field (.ref it) 1) (wpAny_field ho hd (x:= .int i 0) rfl ?_)
 refine Wb (m:=seqItems? (.ref l)) (wpAny_seqItems hol hdl ?_)
 simp only[Int.toNat_natCast,hx];refine Wb (wpAny_rule (Wb (wpAny_setField ho hd (by simp) ?_)))
 have q2:Zbd A.in1 (s.heap.update it (Obj.mapFields (·.setIfInBounds 0 Value.none))):=by
  rcases q with q | ⟨ea,oe,vs,e1,e2,e3,e4⟩
  ·exact .inl q
  ·refine .inr ⟨ea,oe,vs,e1,?_,e3,e4⟩
   rw[Heap.get?_update_other _ _ (fun z=> ?_)]
   ·exact e2
   ·rw[<- z,ho] at e2
    cases e2
    rw[hd] at e3;cases e3
    simp at e4
 refine ZbO q2 fun h' e k ho=>⟨e,rfl,ho,h',fun b o hb z=>k b o ?_,rfl⟩
 rw[Heap.get?_update_other _ _ (Ne.symm hb)]
 exact z
theorem ZiG {it l:Addr}{i:Nat}{items}{Q:Option Value->Shared->Prop}(q:Zbd A s.heap)(hit:s.heap.IsListIter it l i)(hl:s.heap.IsList l items)(hx:items[i]?=none)
  (hQ: ∀ h',Heap.ExtBut it s.heap h'->Q none { s with heap:=h' }):wpAny (model prog w) A (pyNext (.ref it)) Q E s:=by
 obtain ⟨o,ho,hc,hd⟩:=id hit
 obtain ⟨ol,hol,_,nl,hdl⟩:=hl
 exact Zgp hit.typeIs slot_listiter_next entry_listiter_next (args_listiter_next _) (ZmN q ho hd hol hdl hx) hQ
theorem Zgr {it l:Addr}{i:Nat}{items}{Q:Option Value->Shared->Prop}(q:Zbd A s.heap)(hit:s.heap.IsTupleIter it l i)(hl:s.heap.IsTuple l items)(hx:items[i]?=none)
  (hQ: ∀ h',Heap.ExtBut it s.heap h'->Q none { s with heap:=h' }):wpAny (model prog w) A (pyNext (.ref it)) Q E s:=by
 obtain ⟨o,ho,hc,hd⟩:=id hit
 obtain ⟨ol,hol,_,nl,hdl⟩:=hl
 exact Zgp hit.typeIs F.slot_tuple_iterator_next F.entry_tuple_iterator_next (F.args_tuple_iterator_next_1 _) (ZmO q ho hd hol hdl hx) hQ
end
end DQ
end
section
namespace L2
open PyProof.Rows
noncomputable abbrev Key:=Sum Int Str
noncomputable def ZfL:Key->Value->Bool
 | .inl k,v=>Value.isInt k v
 | .inr x,v=>Value.isStrOf x v
noncomputable def ZtM (w:World):Key->Int
 | .inl k=>hashInt k
 | .inr x=>hashStr w x
theorem ZP: ∀ {k:Key} {v:Value},ZfL k v=true->(∃ i t,k=Sum.inl i/\v=Value.int i t)\/(∃ x t,k=Sum.inr x/\v=Value.str x t)
 | .inl i,v,h=>by
  obtain ⟨t,e⟩:=Value.isInt_shape (k:=i) (v:=v) h
  exact .inl ⟨i,t,rfl,e⟩
 | .inr x,v,h=>by
  obtain ⟨t,e⟩:=Value.isStrOf_shape (x:=x) (v:=v) h
  exact .inr ⟨x,t,rfl,e⟩
theorem Zgs (i:Int)(t:Tok):ZfL (.inl i) (.int i t)=true:=by simp[ZfL,Value.isInt]
theorem Zgt (x:Str)(t:Tok):ZfL (.inr x) (.str x t)=true:=by simp[ZfL,Value.isStrOf]
theorem ZmP (a b:Int):decide ((Sum.inl a:Key)=Sum.inl b)=(a == b):=by
 by_cases e:a=b
 ·subst e;simp
 ·have h: ¬ (Sum.inl a:Key)=Sum.inl b:=fun q=>e (Sum.inl.inj q)
  rw[decide_eq_false h];exact (beq_eq_false_iff_ne.mpr e).symm
theorem ZmQ (a b:Str):decide ((Sum.inr a:Key)=Sum.inr b)=decide (a=b):=by
 by_cases e:a=b
 ·subst e;simp
 ·have h: ¬ (Sum.inr a:Key)=Sum.inr b:=fun q=>e (Sum.inr.inj q)
  rw[decide_eq_false h,decide_eq_false e]
theorem ZmR (a:Int)(b:Str):decide ((Sum.inl a:Key)=Sum.inr b)=false:=decide_eq_false (fun q=>nomatch q)
theorem ZmS (a:Str)(b:Int):decide ((Sum.inr a:Key)=Sum.inl b)=false:=decide_eq_false (fun q=>nomatch q)
def Zai (prog:Program)(w:World):PySem.KeyKind prog w Key where
 is:=ZfL
 hash:=ZtM w
 inj:=fun v a b ha hb=>by
  rcases ZP ha with ⟨i,t,rfl,rfl⟩ | ⟨x,t,rfl,rfl⟩
  ·rcases ZP hb with ⟨j,u,rfl,e⟩ | ⟨y,u,rfl,e⟩
   ·injection e with e1 _;rw[e1]
   ·exact nomatch e
  ·rcases ZP hb with ⟨j,u,rfl,e⟩ | ⟨y,u,rfl,e⟩
   ·exact nomatch e
   ·injection e with e1 _;rw[e1]
 byValue:=fun k v h=>by
  rcases ZP h with ⟨i,t,rfl,rfl⟩ | ⟨x,t,rfl,rfl⟩<;>rfl
 pyHash:=fun hv h=>by
  rcases ZP hv with ⟨i,t,rfl,rfl⟩ | ⟨x,t,rfl,rfl⟩
  ·exact wpAny_pyHash_int h
  ·exact wpAny_pyHash_str h
 eqBool:=fun hu hv h=>by
  rcases ZP hu with ⟨i,t,rfl,rfl⟩ | ⟨x,t,rfl,rfl⟩
  ·rcases ZP hv with ⟨j,u,rfl,rfl⟩ | ⟨y,u,rfl,rfl⟩
   ·rw[ZmP] at h;exact wpAny_eqBool_int h
   ·rw[ZmR] at h;exact SeqAt.EqAt.int_str i t y u _ _ _ _ h
  ·rcases ZP hv with ⟨j,u,rfl,rfl⟩ | ⟨y,u,rfl,rfl⟩
   ·rw[ZmS] at h;exact SeqAt.EqAt.str_int x t j u _ _ _ _ h
   ·rw[ZmQ] at h;exact wpAny_eqBool_str h
 «strs» :=fun k x t v h=>by
  rcases ZP h with ⟨i,u,rfl,e⟩ | ⟨y,u,rfl,e⟩
  ·exact nomatch e
  ·injection e with e1 _
   subst e1;cases v<;>rfl
theorem Zev (prog:Program)(w:World)(i:Int)(t:Tok):(Zai prog w).is (.inl i) (.int i t)=true:=Zgs i t
theorem Zew (prog:Program)(w:World)(x:Str)(t:Tok):(Zai prog w).is (.inr x) (.str x t)=true:=Zgt x t
inductive V where
 |non | bl (b:Bool) | int (i:Int) | str (x:Str) | byt (b:Array UInt8) | flt (b:UInt64) | ref (a:Addr) | ty (n:String)
 deriving DecidableEq
noncomputable def ZM:V->Value->Prop
 | .non,u=>u=Value.none
 | .bl b,u=>u=Value.bool b
 | .int i,u=> ∃ t,u=Value.int i t
 | .str x,u=> ∃ t,u=Value.str x t
 | .byt b,u=> ∃ t,u=Value.bytes b t
 | .flt b,u=> ∃ t,u=Value.float b t
 | .ref a,u=>u=Value.ref a
 | .ty n,u=>u=Value.type n
abbrev ZO:List V->List Value->Prop:=Paired ZM
theorem ZO.length {xs:List V}{us:List Value}(r:ZO xs us):xs.length=us.length:=Paired.length r
theorem ZO.get: ∀ {xs:List V} {us:List Value} {i:Nat} {x:V},ZO xs us->xs[i]?=some x-> ∃ u,us[i]?=some u/\ZM x u
 |_,_,_,_,.nil,e=>by simp at e
 |_,_,0,_,.cons r _,e=>by simp at e;subst e;exact ⟨_,rfl,r⟩
 |_,_,i + 1,x,.cons _ t,e=>by
  obtain ⟨u,h1,h2⟩:=ZO.get (i:=i) (x:=x) t (by simpa using e)
  exact ⟨u,by simpa using h1,h2⟩
theorem ZO.set {x:V}{u:Value}(r:ZM x u): ∀ {xs:List V} {us:List Value} (i:Nat),ZO xs us->ZO (xs.set i x) (us.set i u)
 |_,_,_,.nil=> .nil
 |_,_,0,.cons _ t=> .cons r t
 |_,_,i + 1,.cons q t=> .cons q (ZO.set r i t)
theorem ZO.append: ∀ {xs ys:List V} {us ws:List Value},ZO xs us->ZO ys ws->ZO (xs ++ ys) (us ++ ws)
 |_,_,_,_,.nil,s=>s
 |_,_,_,_,.cons r t,s=> .cons r (ZO.append t s)
theorem ZO.take: ∀ {xs:List V} {us:List Value} (n:Nat),ZO xs us->ZO (xs.take n) (us.take n)
 |_,_,0,_=> .nil
 |_,_,_ + 1,.nil=> .nil
 |_,_,n + 1,.cons r t=> .cons r (ZO.take n t)
theorem ZO.drop: ∀ {xs:List V} {us:List Value} (n:Nat),ZO xs us->ZO (xs.drop n) (us.drop n)
 |_,_,0,r=>r
 |_,_,_ + 1,.nil=> .nil
 |_,_,n + 1,.cons _ t=>ZO.drop n t
def ZmD:Option V->Option Value->Prop
 |some v,some u=>ZM v u
 |none,none=>True
 |_,_=>False
def KV {κ:Type}:List (κ × V)->List (κ × Value)->Prop:=Paired fun (p:κ × V) (q:κ × Value)=>p.1=q.1/\ZM p.2 q.2
noncomputable def kV:Key->V
 | .inl i=> .int i
 | .inr x=> .str x
inductive HO where
 |lst (xs:List V)
 |tup (xs:List V)
 |dK (kvs:List (Key × V)) | dT (kvs:List (List Key × V))
 |set (S:Int->Bool) (n:Nat)
 |ins (C dx:Addr) (fs:List (Str × V))
 |own (x:Addr)
 |xd (fs:List (Str × V))
 |met (f x:Addr)
 |rng (lo hi:Int)
 |frz (o:Obj) (u:HO)
 |tbl (ps:Array Value)
 |ext (φ:Heap->Prop)
noncomputable abbrev Hp:=Addr->Option HO
noncomputable def upd (H:Hp)(a:Addr)(o:HO):Hp:=fun b=>if b=a then some o else H b
theorem Zy {H:Hp}{a:Addr}{o:HO}:upd H a o a=some o:=by unfold upd;rw[if_pos rfl]
theorem ZF {H:Hp}{a b:Addr}{o:HO}(h:b≠a):upd H a o b=H b:=by unfold upd;rw[if_neg h]
theorem Zqj {H:Hp}{a b:Addr}{o u:HO}(h:H a=some o)(h':H b=some u)(d:o≠u):a≠b:=by
 intro e;subst e;rw[h] at h';exact d (Option.some.inj h')
theorem ZK {H:Hp}{a b:Addr}{o:HO}(h:H a=some o)(h':H b=none):a≠b:=by
 intro e;subst e;rw[h] at h';cases h'
section
variable (P:Program)(w:World)
def Zay (H:Hp)(h:Heap)(a:Addr):HO->Prop
 | .lst xs=>xs.length<=sizeLine/\ ∃ (its:List Value) (n:Nat),ZO xs its/\h.get? a=some { cls:= .type "list",data:= .seq its.toArray n }
 | .tup xs=>xs.length<=sizeLine/\ ∃ its:List Value,ZO xs its/\IsTup h a its.toArray
 | .dK kvs=>kvs.length<=sizeLine/\(a == sysModules)=false/\ ∃ vs,KV kvs vs/\h.DictOf (Zai P w) a vs
 | .dT kvs=>kvs.length<=sizeLine/\(a == sysModules)=false/\ ∃ xs:List (List Key × Addr × Value),
   Paired (fun (p:List Key × V) (q:List Key × Addr × Value)=>p.1=q.1/\H q.2.1=some (.tup (p.1.map kV))/\ZM p.2 q.2.2) kvs xs/\
   ∃ o es ep,h.get? a=some o/\o.ExactDict/\o.data= .dict es ep/\es.toList=xs.map (entryOfKey (tupleKind (Zai P w)))/\(xs.map (·.1)).Nodup
 | .set S n=>h.SetOf (intKind P w) a S n
 | .ins C dx fs=>H dx=some (.own a)/\fs.length<=1000/\dx≠a/\h.get? a=some (PySem.W.instObj C dx)/\
   ∃ mA,h.Ns1 dx mA/\(∀ f,ZmD (fs.lookup f) (mA f))/\PySem.Within mA (fs.map (·.1))
 | .own _=> ∃ o,h.get? a=some o
 | .xd fs=> ∃ mA,h.Ns1 a mA/\ ∀ f,ZmD (fs.lookup f) (mA f)
 | .rng lo hi=> ∃ t u v,h.get? a=some { cls:= .type "range",data:= .fields #[.int lo t,.int hi u,.int 1 v] }
 | .frz o u=>h.get? a=some o/\Zay H h a u
 | .tbl ps=>h.get? a=some { cls:= .none,data:= .fields ps }
 | .met f x=>h.get? a=some (PySem.W.methodObj (.ref f) (.ref x))
 | .ext φ=>φ h/\(∃ o,h.get? a=some o)/\ ∀ h1 h2:Heap,φ h1->(∀ o,h1.get? a=some o->h2.get? a=some o)->φ h2
def HOk (H:Hp)(h:Heap):Prop:= ∀ a o,H a=some o->Zay P w H h a o
end
section
variable {P:Program}{w:World}{H H':Hp}{h h':Heap}{a:Addr}{o:HO}
theorem Zay.lt (x:Zay P w H h a o):a < h.objs.size:=by
 cases o with
 |lst xs=>obtain ⟨_,_,_,_,e⟩:=x;exact Hz e
 |tup xs=>obtain ⟨_,_,_,p⟩:=x;exact p.lt
 |dK kvs=>obtain ⟨_,_,_,_,o,_,_,e,_⟩:=x;exact Hz e
 |dT kvs=>obtain ⟨_,_,_,_,o,_,_,e,_⟩:=x;exact Hz e
 |set S n=>obtain ⟨o,_,_,_,e,_⟩:=x;exact Hz e
 |ins C dx fs=>obtain ⟨_,_,_,e,_⟩:=x;exact Hz e
 |own y=>obtain ⟨_,e⟩:=x;exact Hz e
 |xd fs=>obtain ⟨_,⟨_,_,_,e,_⟩,_⟩:=x;exact Hz e
 |rng lo hi=>obtain ⟨_,_,_,e⟩:=x;exact Hz e
 |frz ob u=>obtain ⟨e,_⟩:=x;exact Hz e
 |tbl ps=>exact Hz (show h.get? a=some _ from x)
 |met f y=>exact Hz (show h.get? a=some _ from x)
 |ext φ=>obtain ⟨_,⟨_,e⟩,_⟩:=x;exact Hz e
theorem Paired.mapP {α β:Type}{F G:α->β->Prop}: ∀ {l₁:List α} {l₂:List β},Paired F l₁ l₂->(∀ a b,F a b->G a b)->Paired G l₁ l₂
 |_,_,.nil,_=> .nil
 |_,_,.cons r t,f=> .cons (f _ _ r) (Paired.mapP t f)
theorem Zay.stay (x:Zay P w H h a o)(k: ∀ b u,(b=a\/H b=some (.own a))->h.get? b=some u->h'.get? b=some u)
  (ho: ∀ b,H b=some (.own a)->H' b=some (.own a)) (ht: ∀ b xs,H b=some (.tup xs)->H' b=some (.tup xs)):Zay P w H' h' a o:=by
 induction o with
 |lst xs=>obtain ⟨z,its,n,r,e⟩:=x;exact ⟨z,its,n,r,k _ _ (.inl rfl) e⟩
 |tup xs=>obtain ⟨z,its,r,ob,e,c⟩:=x;exact ⟨z,its,r,ob,k _ _ (.inl rfl) e,c⟩
 |dK kvs=>obtain ⟨z,y,vs,r,ob,es,ep,e,c⟩:=x;exact ⟨z,y,vs,r,ob,es,ep,k _ _ (.inl rfl) e,c⟩
 |dT kvs=>
  obtain ⟨z,y,xs,r,ob,es,ep,e,c⟩:=x
  exact ⟨z,y,xs,Paired.mapP r fun p q z=>⟨z.1,ht _ _ z.2.1,z.2.2⟩,ob,es,ep,k _ _ (.inl rfl) e,c⟩
 |set S n=>obtain ⟨ob,es,ep,t,e,c⟩:=x;exact ⟨ob,es,ep,t,k _ _ (.inl rfl) e,c⟩
 |ins C dx fs=>
  obtain ⟨d,z,ne,e,mA,⟨od,es,ep,e2,c⟩,r⟩:=x
  exact ⟨ho _ d,z,ne,k _ _ (.inl rfl) e,mA,⟨od,es,ep,k _ _ (.inr d) e2,c⟩,r⟩
 |own y=>obtain ⟨ob,e⟩:=x;exact ⟨ob,k _ _ (.inl rfl) e⟩
 |xd fs=>obtain ⟨mA,⟨od,es,ep,e,c⟩,r⟩:=x;exact ⟨mA,⟨od,es,ep,k _ _ (.inl rfl) e,c⟩,r⟩
 |rng lo hi=>obtain ⟨t,u,v,e⟩:=x;exact ⟨t,u,v,k _ _ (.inl rfl) e⟩
 |frz ob u ih=>obtain ⟨e,q⟩:=x;exact ⟨k _ _ (.inl rfl) e,ih q⟩
 |tbl ps=>
  have e:h.get? a=some { cls:= .none,data:= .fields ps }:=x
  show h'.get? a=some { cls:= .none,data:= .fields ps }
  exact k a _ (.inl rfl) e
 |met f y=>
  have e:h.get? a=some (PySem.W.methodObj (.ref f) (.ref y)):=x
  show h'.get? a=some (PySem.W.methodObj (.ref f) (.ref y))
  exact k a _ (.inl rfl) e
 |ext φ=>obtain ⟨p,⟨o,e⟩,st⟩:=x;exact ⟨st _ _ p fun o q=>k _ _ (.inl rfl) q,⟨o,k _ _ (.inl rfl) e⟩,st⟩
theorem HOk.lt (x:HOk P w H h)(e:H a=some o):a < h.objs.size:=(x a o e).lt
theorem HOk.fresh (x:HOk P w H h)(e:h.objs.size<=a):H a=none:=by
 cases q:H a with
 |none=>rfl
 |some u=>exact absurd (Nat.lt_of_lt_of_le (x.lt q) e) (Nat.lt_irrefl _)
theorem HOk.kept (x:HOk P w H h)(k: ∀ b u,h.get? b=some u->h'.get? b=some u):HOk P w H h':=fun a o e=>
 (x a o e).stay (fun b u _ q=>k b u q) (fun _ q=>q) fun _ _ q=>q
theorem HOk.laid (x:HOk P w H h)(k: ∀ b u,h.get? b=some u->h'.get? b=some u)(hp:h.objs.size<=a)(new:Zay P w (upd H a o) h' a o):HOk P w (upd H a o) h':=fun b u e=>by
 have hn:=x.fresh hp
 by_cases hb:b=a
 ·subst hb;rw[Zy] at e;cases e;exact new
 ·rw[ZF hb] at e
  exact (x b u e).stay (fun c v _ q=>k c v q) (fun c q=>by rw[ZF (ZK q hn)];exact q) fun c xs q=>by rw[ZF (ZK q hn)];exact q
end
noncomputable def Rd (H:Hp)(a:Addr)(u:HO):Prop:=H a=some u\/ ∃ o,H a=some (.frz o u)
theorem Rd.ok {P:Program}{w:World}{H:Hp}{h:Heap}{a:Addr}{u:HO}(r:Rd H a u)(x:HOk P w H h):Zay P w H h a u:=by
 rcases r with r | ⟨o,r⟩
 ·exact x a u r
 ·obtain ⟨_,q⟩:=x a _ r
  exact q
noncomputable def Mut:Option HO->Prop
 |some (.lst _)=>True
 |some (.dK _)=>True
 |some (.dT _)=>True
 |some (.set _ _)=>True
 |some (.ins _ _ _)=>True
 |some (.ext _)=>True
 |_=>False
section
variable {P:Program}{w:World}{H:Hp}{h h':Heap}{x e:Addr}{o':HO}
theorem HOk.write (ok:HOk P w H h)(mu:Mut (H x))(he:e=x\/H e=some (.own x))(k: ∀ b u,b≠e->h.get? b=some u->h'.get? b=some u)(heo: ∃ u,h'.get? e=some u)
  (new:Zay P w (upd H x o') h' x o'):HOk P w (upd H x o') h':=fun b u q=>by
 have nown: ∀ c y,H c=some (.own y)->c≠x:=fun c y r z=>by subst z;rw[r] at mu;exact mu
 have ntup: ∀ c xs,H c=some (.tup xs)->c≠x:=fun c xs r z=>by subst z;rw[r] at mu;exact mu
 by_cases hb:b=x
 ·subst hb;rw[Zy] at q;cases q;exact new
 ·rw[ZF hb] at q
  by_cases hbe:b=e
  ·have q':H b=some (.own x):=by
    rcases he with z | z
    ·exact absurd (hbe.trans z) hb
    ·rw[hbe];exact z
   rw[q] at q';cases q';obtain ⟨v,hv⟩:=heo
   exact ⟨v,by rw[hbe];exact hv⟩
  ·refine (ok b u q).stay (fun c v hc r=>k c v ?_ r) (fun c r=>by rw[ZF (nown c b r)];exact r) fun c xs r=>by rw[ZF (ntup c xs r)];exact r
   rcases hc with rfl | hc
   ·exact hbe
   ·rintro rfl
    rcases he with z | z
    ·exact nown c b hc z
    ·rw[hc] at z;cases z;exact hb rfl
end
structure Un (fs ex:List Addr) (H H':Hp) (h h':Heap):Prop where
 keep: ∀ b o,h.get? b=some o->H b=none->b ∉ fs->b ∉ ex->h'.get? b=some o
 slot: ∀ b o,h.get? b=some o->H b=none->b∈fs->b ∉ ex-> ∃ sl,h'.get? b=some { o with slots:=sl }
 free: ∀ b o,h.get? b=some o->H b=none->b ∉ ex->H' b=none
 there: ∀ b o,h.get? b=some o->b ∉ ex-> ∃ o',h'.get? b=some o'
 tups: ∀ b xs,H b=some (.tup xs)->H' b=some (.tup xs)
 frzs: ∀ b o u,H b=some (.frz o u)->H' b=some (.frz o u)
 tbls: ∀ b ps,H b=some (.tbl ps)-> ∃ more,H' b=some (.tbl (ps ++ more))
section
variable {fs fs' ex ex':List Addr}{H H1 H2:Hp}{h h1 h2 h':Heap}{a x e:Addr}{o:HO}
theorem Un.any (u:Un fs ex H H1 h h1){b:Addr}{ob:Obj}(q:h.get? b=some ob)(n:H b=none)(hx:b ∉ ex): ∃ sl,h1.get? b=some { ob with slots:=sl }:=by
 by_cases hb:b∈fs
 ·exact u.slot b ob q n hb hx
 ·exact ⟨ob.slots,u.keep b ob q n hb hx⟩
theorem Un.kept (k: ∀ b u,h.get? b=some u->h'.get? b=some u):Un fs ex H H h h':=
 ⟨fun b ob q _ _ _=>k b ob q,fun b ob q _ _ _=>⟨ob.slots,k b ob q⟩,fun _ _ _ n _=>n,fun b ob q _=>⟨ob,k b ob q⟩,fun _ _ q=>q,fun _ _ _ q=>q,fun _ ps q=>⟨#[],by rw[q];simp⟩⟩
theorem Un.refl:Un fs ex H H h h:=Un.kept fun _ _ q=>q
theorem Un.laid (k: ∀ b u,h.get? b=some u->h'.get? b=some u)(hp:h.objs.size<=a)(hn:H a=none):Un fs ex H (upd H a o) h h' where
 keep:=fun b u q _ _ _=>k b u q
 slot:=fun b u q _ _ _=>⟨u.slots,k b u q⟩
 free:=fun b u q n _=>by rw[ZF (Nat.ne_of_lt (Nat.lt_of_lt_of_le (Hz q) hp))];exact n
 there:=fun b u q _=>⟨u,k b u q⟩
 tups:=fun b xs q=>by rw[ZF (ZK q hn)];exact q
 frzs:=fun b u xs q=>by rw[ZF (ZK q hn)];exact q
 tbls:=fun b ps q=>⟨#[],by rw[ZF (ZK q hn),q];simp⟩
theorem Un.write (mu:Mut (H x))(he:e=x\/H e=some (.own x))(k: ∀ b u,b≠e->h.get? b=some u->h'.get? b=some u)(heo: ∃ u,h'.get? e=some u):Un fs ex H (upd H x o) h h':=by
 have hx: ∀ b,H b=none->b≠x:=fun b n z=>by subst z;rw[n] at mu;exact mu
 have hb: ∀ b,H b=none->b≠e:=fun b n z=>by
  subst z
  rcases he with r | r
  ·exact hx b n r
  ·rw[n] at r;cases r
 have hm: ∀ b u,H b=some u-> ¬ Mut (some u)->b≠x:=fun b u q nm z=>by subst z;rw[q] at mu;exact nm mu
 refine ⟨fun b u q n _ _=>k b u (hb b n) q,fun b u q n _ _=>⟨u.slots,k b u (hb b n) q⟩,fun b u q n _=>by rw[ZF (hx b n)];exact n,fun b u q _=> ?_,
  fun b xs q=>by rw[ZF (hm b _ q fun z=>z)];exact q,fun b u xs q=>by rw[ZF (hm b _ q fun z=>z)];exact q,fun b ps q=>⟨#[],by rw[ZF (hm b _ q fun z=>z),q];simp⟩⟩
 by_cases hbe:b=e
 ·subst hbe;exact heo
 ·exact ⟨u,k b u hbe q⟩
end
noncomputable def trk (h:Heap)(H:Hp):List Addr:=(List.range h.objs.size).filter fun a=>(H a).isSome
def ZiD (h:Heap)(H:Hp):Heap:=PySem.W.hideAll h (trk h H)
theorem Zgu (h:Heap)(H:Hp):(ZiD h H).objs.size=h.objs.size:=PySem.W.hideAll_size _ _
theorem Ze4 {h:Heap}{H:Hp}{b:Addr}{o:Obj}(e:h.get? b=some o)(n:H b=none):(ZiD h H).get? b=some o:=
 PySem.W.hideAll_get _ e fun hm=>by
  have q:(H b).isSome=true:=(List.mem_filter.mp hm).2
  rw[n] at q;simp at q
theorem Zgv {h:Heap}{H:Hp}{b:Addr}{o:Obj}(e:(ZiD h H).get? b=some o):h.get? b=some o/\H b=none:=by
 have e':h.get? b=some o:=PySem.W.of_hideAll (trk h H) e
 refine ⟨e',?_⟩
 cases q:H b with
 |none=>rfl
 |some x=>
  have hm:b∈trk h H:=List.mem_filter.mpr ⟨List.mem_range.mpr (Hz e'),by simp[q]⟩
  have z:(ZiD h H).get? b=none:=PySem.W.hideAll_none (trk h H) hm
  rw[z] at e;cases e
noncomputable def ZkP (g h:Heap)(L:Addr):Pn:=(List.range h.objs.size).filterMap fun a=>if a=L\/(g.get? a).isSome=true then none else (h.get? a).map fun o=>(a,o)
def rest (g h:Heap)(L d:Addr):Pn:=(ZkP g h L).filter fun p=>decide (p.1≠d)
structure Mod (K:Fg) (mg:Str->Option Value) (base:Heap):Prop where
 kin:K.In base
 glob:base.Ns mainGlobals mg
 blt: ∃ mb,base.Ns builtinsNs mb/\ ∀ x:Str,x≠"__name__"->mb x=bootBuiltins x
 nolimit:base.NoLimit
structure Cx where
 prog:Program
 w:World
 K:Fg
 mg:Str->Option Value
 base:Heap
 A:Around
 N:List Str
 s₀:Shared
 H₀:Hp
 env:Env
 outer:List Env
 stack:List Env
 ex:List Addr
 fn:Str->Bool
 calm:Bool
 pn:Pn
 xe:Vp
 fxs:Option (List Bool × List (Option V))
noncomputable def frs (l:List Env):List Addr:=l.filterMap (·.frame)
abbrev Cx.fs (X:Cx):List Addr:=frs X.outer
noncomputable def Vis (sc:Scope)(x:Str):Prop:=sc.names.lookup x=some .local\/sc.names.lookup x=some .cell\/sc.names.lookup x=some .free
noncomputable def Loc (sc:Scope)(x:Str):Prop:=sc.names.lookup x=some .local\/sc.names.lookup x=some .cell
noncomputable def ZtN (env:Env)(h:Heap)(m:Str->Option Value)(x:Str)(u:Value):Prop:=
 (env.kindOf x=some .local/\m x=some u)\/((env.kindOf x=some .cell\/env.kindOf x=some .free)/\ ∃ c,env.cells.lookup x=some c/\h.IsCell c (some u))
structure Cx.Ok (X:Cx):Prop where
 mod:Mod X.K X.mg X.base
 kind:X.env.scope.kind= .function
 glob:X.env.globals=mainGlobals
 blt:X.env.builtins=builtinsNs
 above:X.s₀.heap.objs.size<=X.env.locals
 inj: ∀ x y c,X.env.cells.lookup x=some c->X.env.cells.lookup y=some c->x=y
 has: ∀ x,(X.env.kindOf x=some .cell\/X.env.kindOf x=some .free)-> ∃ c,X.env.cells.lookup x=some c
 cab: ∀ x c,X.fn x=true->X.env.cells.lookup x=some c->X.s₀.heap.objs.size<=c
 hd:X.calm=true->X.A.handled=none
 frames:X.A.frames=some X.stack
 stk:X.stack=X.outer\/(X.stack=X.env :: X.outer/\X.env.frame=some X.env.locals)
 exf: ∀ b∈X.ex,b≠X.env.locals/\ ∀ x c,X.env.cells.lookup x=some c->c≠b
 bs: ∀ b o,X.base.get? b=some o->X.s₀.heap.get? b=some o/\X.H₀ b=none
 bsz:X.base.objs.size<=X.s₀.heap.objs.size
 noex: ∀ b o,X.base.get? b=some o->b ∉ X.ex
 exfs: ∀ b∈X.ex,b ∉ X.fs
 funs:X.s₀.heap.FunFrames X.base X.outer
 frf: ∀ b∈X.fs,X.H₀ b=none
noncomputable def Qd (A:Around)(H:Hp):Prop:=A.handled=none\/ ∃ ea oe u vs,A.handled=some (.ref ea)/\H ea=some (.frz oe u)/\oe.data= .fields vs/\vs[2]?=some .none
theorem Qd.mono {A:Around}{H H':Hp}(q:Qd A H)(k: ∀ b o u,H b=some (.frz o u)->H' b=some (.frz o u)):Qd A H':=by
 rcases q with q | ⟨ea,oe,u,vs,e1,e2,e3,e4⟩
 ·exact .inl q
 ·exact .inr ⟨ea,oe,u,vs,e1,k _ _ _ e2,e3,e4⟩
noncomputable def Cx.may (X:Cx)(i:Nat):Bool:=match X.fxs with | none=>true | some (W,_)=>W[i]? == some true
noncomputable def Cx.Fx (X:Cx)(σ:List (Option V)):Prop:= ∀ W σ0,X.fxs=some (W,σ0)-> ∀ j:Nat,W[j]?=some false->σ[j]?=σ0[j]?
theorem Cx.Fx.free {X:Cx}{σ:List (Option V)}(h:X.fxs=none):X.Fx σ:=fun W σ0 e=>by rw[h] at e;cases e
theorem Cx.Fx.set {X:Cx}{σ:List (Option V)}{i:Nat}{v:Option V}(h:X.Fx σ)(m:X.may i=true):X.Fx (σ.set i v):=fun W σ0 e j hj=>by
 have ne:i≠j:=fun z=>by
  unfold Cx.may at m;rw[e,z] at m;have m':(W[j]? == some true)=true:=m
  rw[hj] at m';cases m'
 rw[List.getElem?_set_ne ne]
 exact h W σ0 e j hj
structure Inv (X:Cx) (pins:Pn) (σ:List (Option V)) (H:Hp) (s:Shared):Prop where
 ok:X.Ok
 os:s.os=X.s₀.os
 bare:AllBare s.gens
 base:Un X.fs X.ex X.H₀ H X.s₀.heap s.heap
 loc: ∃ m,s.heap.Ns X.env.locals m/\ ∀ (i:Nat) (x:Str) (v:V),X.N[i]?=some x->σ[i]?=some (some v)->Vis X.env.scope x-> ∃ u,ZM v u/\ZtN X.env s.heap m x u
 cell: ∀ x c,X.env.cells.lookup x=some c-> ∃ v,s.heap.IsCell c v
 free:H X.env.locals=none
 freeC: ∀ x c,X.env.cells.lookup x=some c->H c=none
 pin: ∀ p∈X.pn ++ pins,s.heap.get? p.1=some p.2/\H p.1=none/\p.1≠X.env.locals/\p.1 ∉ X.fs/\ ∀ v,p.2.data≠ .cell v
 hok:HOk X.prog X.w H s.heap
 len:σ.length=X.N.length
 qd:Qd X.A H
 fx:X.Fx σ
section
variable {X:Cx}{pins:Pn}{σ:List (Option V)}{H H':Hp}{s:Shared}{h':Heap}
theorem Cx.Ok.nofr (ok:X.Ok){b:Addr}{o:Obj}(e:X.base.get? b=some o):b ∉ X.fs:=fun hb=>by
 have:=(ok.funs.mem hb).1
 rw[e] at this;cases this
theorem Inv.bs (I:Inv X pins σ H s): ∀ b o,X.base.get? b=some o->s.heap.get? b=some o/\H b=none:=fun b o e=>
 ⟨I.base.keep b o (I.ok.bs b o e).1 (I.ok.bs b o e).2 (I.ok.nofr e) (I.ok.noex b o e),I.base.free b o (I.ok.bs b o e).1 (I.ok.bs b o e).2 (I.ok.noex b o e)⟩
theorem Inv.qh (I:Inv X pins σ H s):DQ.Zbd X.A s.heap:=by
 rcases I.qd with q | ⟨ea,oe,u,vs,e1,e2,e3,e4⟩
 ·exact .inl q
 ·exact .inr ⟨ea,oe,vs,e1,(I.hok _ _ e2).1,e3,e4⟩
theorem Inv.bk (I:Inv X pins σ H s): ∀ b o,X.base.get? b=some o->s.heap.get? b=some o:=fun b o e=>(I.bs b o e).1
theorem Inv.mod (I:Inv X pins σ H s):Mod X.K X.mg X.base:=I.ok.mod
theorem Inv.kIn (I:Inv X pins σ H s):X.K.In s.heap:=I.ok.mod.kin.keeps I.bk
theorem Inv.fr (I:Inv X pins σ H s): ∃ m,Fr X.base X.env.locals s.heap m:=
 let ⟨m,hn,_⟩:=I.loc
 ⟨m,hn,I.bk,Nat.le_trans I.ok.bsz I.ok.above⟩
theorem Inv.lt (I:Inv X pins σ H s):X.env.locals < s.heap.objs.size:=let ⟨_,hn,_⟩:=I.loc;hn.lt
theorem Inv.sz (I:Inv X pins σ H s):X.s₀.heap.objs.size<=s.heap.objs.size:=Nat.le_trans I.ok.above (Nat.le_of_lt I.lt)
theorem Inv.nofs (I:Inv X pins σ H s){a:Addr}(h:s.heap.objs.size<=a):a ∉ X.fs:=fun hb=>by
 obtain ⟨_,o,ho,_⟩:=I.ok.funs.mem hb
 exact absurd (Nat.lt_of_lt_of_le (Hz ho) (Nat.le_trans I.sz h)) (Nat.lt_irrefl _)
theorem Inv.cne (I:Inv X pins σ H s): ∀ x c,X.env.cells.lookup x=some c->c≠X.env.locals:=fun x c e z=>by
 obtain ⟨v,o,ho,hd⟩:=I.cell x c e
 obtain ⟨m,⟨o',es,ep,ho',hd',_⟩,_⟩:=I.loc
 rw[z,ho'] at ho;cases ho;rw[hd'] at hd;cases hd
theorem Inv.funs (I:Inv X pins σ H s):s.heap.FunFrames X.base X.outer:=by
 have all: ∀ (l:List Env),(∀ b∈frs l,b∈X.fs)->X.s₀.heap.FunFrames X.base l->s.heap.FunFrames X.base l:=by
  intro l
  induction l with
  |nil=>intro _ _;trivial
  |cons env r ih=>
   intro hs hl;obtain ⟨hk,⟨L,o,hf,hn,ho,hd⟩,hr⟩:=hl
   have hL:L∈X.fs:=hs L (by unfold frs;rw[List.filterMap_cons,hf];exact List.mem_cons_self)
   obtain ⟨sl,e⟩:=I.base.slot L o ho (I.ok.frf L hL) hL fun z=>I.ok.exfs L z hL
   exact ⟨hk,⟨L,_,hf,hn,e,hd⟩,ih (fun b hb=>hs b (by unfold frs;rw[List.filterMap_cons,hf];exact List.mem_cons_of_mem _ hb)) hr⟩
 exact all X.outer (fun _ hb=>hb) I.ok.funs
theorem Inv.stack (I:Inv X pins σ H s):s.heap.FunFrames X.base X.stack:=by
 rcases I.ok.stk with e | ⟨e,hf⟩
 ·rw[e];exact I.funs
 ·rw[e]
  obtain ⟨m,hn,_⟩:=I.loc
  refine .cons (by rw[I.ok.kind];decide) hf hn ?_ I.funs
  exact Heap.get?_none_of_le (Nat.le_trans I.ok.bsz I.ok.above)
theorem Inv.stkSub (I:Inv X pins σ H s): ∀ b∈frs X.stack,b∈X.env.locals :: X.fs:=fun b hb=>by
 rcases I.ok.stk with e | ⟨e,hf⟩
 ·rw[e] at hb;exact List.mem_cons_of_mem _ hb
 ·rw[e] at hb
  unfold frs at hb;rw[List.filterMap_cons,hf] at hb;exact hb
theorem Inv.stkFree (I:Inv X pins σ H s): ∀ b∈frs X.stack,H b=none:=fun b hb=>by
 rcases List.mem_cons.mp (I.stkSub b hb) with e | hb
 ·rw[e];exact I.free
 ·obtain ⟨_,o,ho,_⟩:=I.ok.funs.mem hb
  exact I.base.free b o ho (I.ok.frf b hb) fun z=>I.ok.exfs b z hb
theorem Inv.step {g':Array GenState}{t':Nat}{d':Drawn}{ch:List Addr}(I:Inv X pins σ H s)
  (hch: ∀ b∈ch,(b∈X.ex\/X.s₀.heap.objs.size<=b)/\b≠X.env.locals/\(∀ x c,X.env.cells.lookup x=some c->c≠b)/\ ∀ p∈X.pn ++ pins,p.1≠b)
  (keep: ∀ b o,b≠X.env.locals->b ∉ X.fs->b ∉ ch->s.heap.get? b=some o->H b=none->h'.get? b=some o)
  (slot: ∀ b o,b≠X.env.locals->b∈X.fs->b ∉ ch->s.heap.get? b=some o->H b=none-> ∃ sl,h'.get? b=some { o with slots:=sl }) (free: ∀ b o,b ∉ ch->s.heap.get? b=some o->H b=none->H' b=none)
  (there: ∀ b o,b ∉ ch->s.heap.get? b=some o-> ∃ o',h'.get? b=some o')
  (tups: ∀ b xs,H b=some (.tup xs)->H' b=some (.tup xs)) (frzs: ∀ b o u,H b=some (.frz o u)->H' b=some (.frz o u)) (tbls: ∀ b ps,H b=some (.tbl ps)-> ∃ more,H' b=some (.tbl (ps ++ more)))
  (ns: ∀ m,s.heap.Ns X.env.locals m->h'.Ns X.env.locals m) (hok:HOk X.prog X.w H' h') (hg:AllBare g'):
  Inv X pins σ H' { s with heap:=h',gens:=g',drawn:=d',toks:=t' }:=by
 have neL: ∀ b o,X.s₀.heap.get? b=some o->b≠X.env.locals:=fun b o e=>Nat.ne_of_lt (Nat.lt_of_lt_of_le (Hz e) I.ok.above)
 have neC: ∀ b o,X.s₀.heap.get? b=some o->b ∉ X.ex->b ∉ ch:=fun b o e hx hb=>by
  rcases (hch b hb).1 with z | z
  ·exact hx z
  ·exact absurd (Nat.lt_of_lt_of_le (Hz e) z) (Nat.lt_irrefl _)
 have cellK: ∀ x c,X.env.cells.lookup x=some c-> ∀ v,s.heap.IsCell c v->h'.IsCell c v:=fun x c e v ⟨o,ho,hd⟩=>by
  have nch:c ∉ ch:=fun z=>(hch c z).2.2.1 x c e rfl
  by_cases hc:c∈X.fs
  ·obtain ⟨sl,q⟩:=slot c o (I.cne x c e) hc nch ho (I.freeC x c e)
   exact ⟨_,q,hd⟩
  ·exact ⟨o,keep c o (I.cne x c e) hc nch ho (I.freeC x c e),hd⟩
 refine ⟨I.ok,I.os,hg,⟨fun b o e n hb hx=> ?_,fun b o e n hb hx=> ?_,fun b o e n hx=> ?_,fun b o e hx=> ?_,fun b xs e=>tups b xs (I.base.tups b xs e),fun b o xs e=>frzs b o xs (I.base.frzs b o xs e),fun b ps e=> ?_⟩,?_,fun x c e=> ?_,?_,fun x c e=> ?_,fun p hp=> ?_,hok,I.len,I.qd.mono frzs,I.fx⟩
 ·exact keep b o (neL b o e) hb (neC b o e hx) (I.base.keep b o e n hb hx) (I.base.free b o e n hx)
 ·obtain ⟨sl,e1⟩:=I.base.slot b o e n hb hx
  obtain ⟨sl',e2⟩:=slot b _ (neL b o e) hb (neC b o e hx) e1 (I.base.free b o e n hx)
  exact ⟨sl',e2⟩
 ·obtain ⟨o',e1⟩:=I.base.there b o e hx
  exact free b o' (neC b o e hx) e1 (I.base.free b o e n hx)
 ·obtain ⟨o',e1⟩:=I.base.there b o e hx
  exact there b o' (neC b o e hx) e1
 ·obtain ⟨m1,e1⟩:=I.base.tbls b ps e
  obtain ⟨m2,e2⟩:=tbls b _ e1
  exact ⟨m1 ++ m2,by rw[e2,Array.append_assoc]⟩
 ·obtain ⟨m,hn,hl⟩:=I.loc
  refine ⟨m,ns m hn,fun i x v e1 e2 e3=> ?_⟩
  obtain ⟨u,r,l⟩:=hl i x v e1 e2 e3
  refine ⟨u,r,?_⟩
  rcases l with l | ⟨k,c,e,z⟩
  ·exact .inl l
  ·exact .inr ⟨k,c,e,cellK x c e _ z⟩
 ·obtain ⟨v,z⟩:=I.cell x c e
  exact ⟨v,cellK x c e v z⟩
 ·obtain ⟨m,⟨o,_,_,ho,_⟩,_⟩:=I.loc
  exact free _ o (fun z=>(hch _ z).2.1 rfl) ho I.free
 ·obtain ⟨v,o,ho,hd⟩:=I.cell x c e
  exact free c o (fun z=>(hch c z).2.2.1 x c e rfl) ho (I.freeC x c e)
 ·obtain ⟨e,n,ne,nf,d⟩:=I.pin p hp
  have nch:p.1 ∉ ch:=fun z=>(hch p.1 z).2.2.2 p hp rfl
  exact ⟨keep p.1 p.2 ne nf nch e n,free p.1 p.2 nch e n,ne,nf,d⟩
theorem Inv.un {t':Nat}(I:Inv X pins σ H s)(u:Un X.fs [] H H' s.heap h')(hok:HOk X.prog X.w H' h'):Inv X pins σ H' { s with heap:=h',toks:=t' }:=by
 obtain ⟨m,⟨o,es,ep,ho,r⟩,_⟩:=id I.loc
 obtain ⟨sl,hL⟩:=u.any ho I.free (by simp)
 exact I.step (g':=s.gens) (d':=s.drawn) (ch:=[]) (fun _ z=>nomatch z) (fun b o _ hb _ e n=>u.keep b o e n hb (by simp)) (fun b o _ hb _ e n=>u.slot b o e n hb (by simp)) (fun b o _ e n=>u.free b o e n (by simp)) (fun b o _ e=>u.there b o e (by simp)) u.tups u.frzs u.tbls (fun m' hm=>by
  obtain ⟨o',es',ep',ho',r'⟩:=hm
  rw[ho] at ho';cases ho';exact ⟨_,es',ep',hL,r'⟩) hok I.bare
theorem Inv.call {g':Array GenState}{t':Nat}{d':Drawn}{ch:List Addr}(I:Inv X pins σ H s)(u:Un (frs X.stack) ch H H' s.heap h')(hok:HOk X.prog X.w H' h')(hg:AllBare g')
  (hch: ∀ b∈ch,(b∈X.ex\/X.s₀.heap.objs.size<=b)/\b≠X.env.locals/\(∀ x c,X.env.cells.lookup x=some c->c≠b)/\ ∀ p∈X.pn ++ pins,p.1≠b):
  Inv X pins σ H' { s with heap:=h',gens:=g',drawn:=d',toks:=t' }:=by
 obtain ⟨m,⟨o,es,ep,ho,r⟩,_⟩:=id I.loc
 obtain ⟨sl,hL⟩:=u.any ho I.free fun z=>(hch _ z).2.1 rfl
 exact I.step (ch:=ch) hch (fun b o hL hb hc e n=>u.keep b o e n (fun z=>(List.mem_cons.mp (I.stkSub b z)).elim hL hb) hc) (fun b o _ _ hc e n=>u.any e n hc) (fun b o hc e n=>u.free b o e n hc) (fun b o hc e=>u.there b o e hc) u.tups u.frzs u.tbls (fun m' hm=>by
  obtain ⟨o',es',ep',ho',r'⟩:=hm
  rw[ho] at ho';cases ho';exact ⟨_,es',ep',hL,r'⟩) hok hg
theorem Inv.turned {t':Nat}{it:Addr}(I:Inv X pins σ H s)(k: ∀ b o,b≠it->s.heap.get? b=some o->h'.get? b=some o)(hn:H it=none)(hL:it≠X.env.locals)
  (h1:it∈X.ex\/X.s₀.heap.objs.size<=it) (h2: ∀ x c,X.env.cells.lookup x=some c->c≠it) (h3: ∀ p∈X.pn ++ pins,p.1≠it):Inv X pins σ H { s with heap:=h',toks:=t' }:=by
 have nit: ∀ b u,H b=some u->b≠it:=fun b u e z=>by rw[z,hn] at e;cases e
 refine I.step (g':=s.gens) (d':=s.drawn) (ch:=[it]) (fun b hb=> ?_) (fun b o _ _ hc e _=>k b o (fun z=>hc (by simp[z])) e) (fun b o _ _ hc e _=>⟨o.slots,k b o (fun z=>hc (by simp[z])) e⟩) (fun _ _ _ _ n=>n)
  (fun b o hc e=>⟨o,k b o (fun z=>hc (by simp[z])) e⟩) (fun _ _ e=>e) (fun _ _ _ e=>e) (fun b ps e=>⟨#[],by rw[e];simp⟩) (fun m hm=> ?_) (fun b u e=> ?_) I.bare
 ·have e:b=it:=by simpa using hb
  subst e;exact ⟨h1,hL,h2,h3⟩
 ·obtain ⟨o,es,ep,ho,r⟩:=hm
  exact ⟨o,es,ep,k _ o (Ne.symm hL) ho,r⟩
 ·refine (I.hok b u e).stay (fun c v hc q=>k c v ?_ q) (fun _ q=>q) fun _ _ q=>q
  rcases hc with z | z
  ·rw[z];exact nit b u e
  ·exact nit c _ z
theorem Inv.tok (I:Inv X pins σ H s)(t:Nat):Inv X pins σ H { s with toks:=t }:=I.un (h':=s.heap) (t':=t) Un.refl I.hok
theorem Inv.kept {t':Nat}(I:Inv X pins σ H s)(k: ∀ b u,s.heap.get? b=some u->h'.get? b=some u):Inv X pins σ H { s with heap:=h',toks:=t' }:=I.un (Un.kept k) (I.hok.kept k)
theorem Inv.laid {a:Addr}{o:HO}{t':Nat}(I:Inv X pins σ H s)(k: ∀ b u,s.heap.get? b=some u->h'.get? b=some u)(hp:s.heap.objs.size<=a)(new:Zay X.prog X.w (upd H a o) h' a o):
  Inv X pins σ (upd H a o) { s with heap:=h',toks:=t' }:=I.un (Un.laid k hp (I.hok.fresh hp)) (I.hok.laid k hp new)
theorem Inv.write {x e:Addr}{o:HO}{t':Nat}(I:Inv X pins σ H s)(mu:Mut (H x))(he:e=x\/H e=some (.own x))(k: ∀ b u,b≠e->s.heap.get? b=some u->h'.get? b=some u)(heo: ∃ u,h'.get? e=some u)
  (new:Zay X.prog X.w (upd H x o) h' x o):Inv X pins σ (upd H x o) { s with heap:=h',toks:=t' }:=I.un (Un.write mu he k heo) (I.hok.write mu he k heo new)
theorem Inv.pins_of {pins':Pn}(I:Inv X pins σ H s)(h: ∀ p∈pins',s.heap.get? p.1=some p.2/\H p.1=none/\p.1≠X.env.locals/\p.1 ∉ X.fs/\ ∀ v,p.2.data≠ .cell v):Inv X pins' σ H s:=
 ⟨I.ok,I.os,I.bare,I.base,I.loc,I.cell,I.free,I.freeC,fun p hp=>(List.mem_append.mp hp).elim (fun z=>I.pin p (List.mem_append_left _ z)) (h p),I.hok,I.len,I.qd,I.fx⟩
theorem Ze5 {N:List Str}(hN:N.Nodup){i j:Nat}{x:Str}(a:N[i]?=some x)(b:N[j]?=some x):i=j:=by
 obtain ⟨h1,e1⟩:=List.getElem?_eq_some_iff.mp a
 obtain ⟨h2,e2⟩:=List.getElem?_eq_some_iff.mp b
 exact (List.getElem_inj hN).mp (e1.trans e2.symm)
theorem ZdH {M:Model}{A:Around}{E:Vp}{i:Nat}{x:Str}{v:V}{u:Value}{Q:Unit->Shared->Prop}(I:Inv X pins σ H s)(hN:X.N.Nodup)(hi:X.N[i]?=some x)(hx:Loc X.env.scope x)(hm:X.may i=true)(r:ZM v u)
  (h: ∀ s',Inv X pins (σ.set i (some v)) H s'->(∃ a,Heap.SameBut a s.heap s'.heap/\(a=X.env.locals\/X.env.cells.lookup x=some a))->Q () s') (hf:X.fn x=true\/X.env.scope.names.lookup x=some .local:=by first | exact .inl rfl | exact .inr rfl | assumption):wpAny M A (storeName X.env x u) Q E s:=by
 obtain ⟨m,hn,hl⟩:=id I.loc
 have hcls:(X.env.scope.kind == .class || (X.env.scope.kind == .module && X.env.locals != X.env.globals))=false:=by rw[I.ok.kind];rfl
 have hiσ:i < σ.length:=by rw[I.len];exact (List.getElem?_eq_some_iff.mp hi).1
 have cne:=I.cne
 have tracked: ∀ {a:Addr} {h':Heap},(∃ o,s.heap.get? a=some o/\H a=none)->Heap.SameBut a s.heap h'->HOk X.prog X.w H h':=fun {a h'} ha hs b ob e=>by
  obtain ⟨_,_,hfree⟩:=ha
  refine (I.hok b ob e).stay (fun c w' hc q=>(hs.2 c ?_).trans q) (fun _ q=>q) fun _ _ q=>q
  rintro rfl
  rcases hc with rfl | hc
  ·rw[hfree] at e;cases e
  ·rw[hfree] at hc;cases hc
 rcases hx with hk | hk
 ·refine wpAny_storeName_local hk hn (fun h' hn' hs=> ?_) hcls
  obtain ⟨oL,_,_,hoL,_⟩:=id hn
  refine h _ ⟨I.ok,I.os,I.bare,⟨fun b o e n hb hx=> ?_,fun b o e n hb hx=> ?_,I.base.free,fun b o e hx=> ?_,I.base.tups,I.base.frzs,I.base.tbls⟩,⟨_,hn',fun j y v' e1 e2 e3=> ?_⟩,fun y c e=> ?_,I.free,I.freeC,fun p hp=> ?_,tracked ⟨oL,hoL,I.free⟩ hs,by simpa using I.len,I.qd,I.fx.set hm⟩ ⟨_,hs,.inl rfl⟩
  ·exact (hs.2 b (Nat.ne_of_lt (Nat.lt_of_lt_of_le (Hz e) I.ok.above))).trans (I.base.keep b o e n hb hx)
  ·obtain ⟨sl,e1⟩:=I.base.slot b o e n hb hx
   exact ⟨sl,(hs.2 b (Nat.ne_of_lt (Nat.lt_of_lt_of_le (Hz e) I.ok.above))).trans e1⟩
  ·obtain ⟨o',e1⟩:=I.base.there b o e hx
   exact ⟨o',(hs.2 b (Nat.ne_of_lt (Nat.lt_of_lt_of_le (Hz e) I.ok.above))).trans e1⟩
  ·by_cases hj:j=i
   ·subst hj
    rw[hi] at e1;cases e1;rw[List.getElem?_set_self hiσ] at e2
    cases e2
    exact ⟨u,r,.inl ⟨hk,by simp⟩⟩
   ·rw[List.getElem?_set_ne (Ne.symm hj)] at e2
    obtain ⟨u',r',q⟩:=hl j y v' e1 e2 e3
    refine ⟨u',r',?_⟩
    rcases q with ⟨k,e⟩ | ⟨k,c,e,z⟩
    ·refine .inl ⟨k,?_⟩
     have:y≠x:=fun e=>hj (Ze5 hN e1 (e ▸ hi))
     simp[this,e]
    ·exact .inr ⟨k,c,e,z.sameBut hs (cne y c e)⟩
  ·obtain ⟨w',z⟩:=I.cell y c e
   exact ⟨w',z.sameBut hs (cne y c e)⟩
  ·obtain ⟨e,n,ne,nf,d⟩:=I.pin p hp
   exact ⟨(hs.2 p.1 ne).trans e,n,ne,nf,d⟩
 ·have hfn:X.fn x=true:=by
   rcases hf with z | z
   ·exact z
   ·rw[z] at hk;cases hk
  obtain ⟨c,hc⟩:=I.ok.has x (.inl hk)
  obtain ⟨w',z⟩:=I.cell x c hc
  refine wpAny_storeName_cell I.ok.kind hk hc z (fun h' hc' hs=> ?_)
  obtain ⟨oc,hoc,hocd⟩:=id z
  refine h { s with heap:=h' } ⟨I.ok,I.os,I.bare,⟨fun b o e n hb hx=> ?_,fun b o e n hb hx=> ?_,I.base.free,fun b o e hx=> ?_,I.base.tups,I.base.frzs,I.base.tbls⟩,⟨m,hn.sameBut hs (Ne.symm (cne x c hc)),fun j y v' e1 e2 e3=> ?_⟩,fun y c' e=> ?_,I.free,I.freeC,fun p hp=> ?_,tracked ⟨oc,hoc,I.freeC x c hc⟩ hs,by simpa using I.len,I.qd,I.fx.set hm⟩ ⟨c,hs,.inr hc⟩
  ·exact (hs.2 b (Nat.ne_of_lt (Nat.lt_of_lt_of_le (Hz e) (I.ok.cab x c hfn hc)))).trans (I.base.keep b o e n hb hx)
  ·obtain ⟨sl,e1⟩:=I.base.slot b o e n hb hx
   exact ⟨sl,(hs.2 b (Nat.ne_of_lt (Nat.lt_of_lt_of_le (Hz e) (I.ok.cab x c hfn hc)))).trans e1⟩
  ·obtain ⟨o',e1⟩:=I.base.there b o e hx
   exact ⟨o',(hs.2 b (Nat.ne_of_lt (Nat.lt_of_lt_of_le (Hz e) (I.ok.cab x c hfn hc)))).trans e1⟩
  ·by_cases hj:j=i
   ·subst hj
    rw[hi] at e1;cases e1;rw[List.getElem?_set_self hiσ] at e2
    cases e2
    exact ⟨u,r,.inr ⟨.inl hk,c,hc,hc'⟩⟩
   ·rw[List.getElem?_set_ne (Ne.symm hj)] at e2
    obtain ⟨u',r',q⟩:=hl j y v' e1 e2 e3
    refine ⟨u',r',?_⟩
    rcases q with q | ⟨k,c',e,z'⟩
    ·exact .inl q
    ·refine .inr ⟨k,c',e,z'.sameBut hs ?_⟩
     rintro rfl
     exact hj (Ze5 hN e1 (I.ok.inj _ _ _ e hc ▸ hi))
  ·by_cases hcc:c'=c
   ·subst hcc;exact ⟨_,hc'⟩
   ·obtain ⟨w2,z2⟩:=I.cell y c' e
    exact ⟨w2,z2.sameBut hs hcc⟩
  ·obtain ⟨e,n,ne,nf,d⟩:=I.pin p hp
   refine ⟨(hs.2 p.1 ?_).trans e,n,ne,nf,d⟩
   intro q;rw[q,hoc] at e;have q':oc=p.2:=Option.some.inj e
   exact d w' (by rw[<- q'];exact hocd)
theorem Zcc {M:Model}{A:Around}{E:Vp}{i:Nat}{x:Str}{v:V}{u:Value}{Q:Unit->Shared->Prop}(I:Inv X pins σ H s)(hN:X.N.Nodup)(hi:X.N[i]?=some x)(hx:Loc X.env.scope x)(hm:X.may i=true)(r:ZM v u)
  (h: ∀ s',Inv X pins (σ.set i (some v)) H s'->Q () s') (hf:X.fn x=true\/X.env.scope.names.lookup x=some .local:=by first | exact .inl rfl | exact .inr rfl | assumption):wpAny M A (storeName X.env x u) Q E s:=
 ZdH I hN hi hx hm r (fun s' I' _=>h s' I') hf
theorem Inv.call' {s':Shared}{ch:List Addr}(I:Inv X pins σ H s)(ho:s'.os=s.os)(u:Un (frs X.stack) ch H H' s.heap s'.heap)(hok:HOk X.prog X.w H' s'.heap)(hg:AllBare s'.gens)
  (hch: ∀ b∈ch,(b∈X.ex\/X.s₀.heap.objs.size<=b)/\b≠X.env.locals/\(∀ x c,X.env.cells.lookup x=some c->c≠b)/\ ∀ p∈X.pn ++ pins,p.1≠b):Inv X pins σ H' s':=by
 obtain ⟨h',g',d',t',o'⟩:=s'
 have e:o'=s.os:=ho
 subst e;exact I.call (g':=g') (t':=t') (d':=d') u hok hg hch
end
abbrev XK:=Value->Option Addr->Hp->Prop
noncomputable abbrev St:=List (Option V)
abbrev VK:=V->Hp->Prop
abbrev TE:=St->Hp->VK->Prop
abbrev TT:=St->Hp->(Bool->Hp->Prop)->Prop
abbrev TA:=St->Hp->(List V->Hp->Prop)->Prop
structure Ends where
 nx:St->Hp->Prop
 rt:VK
 bk:St->Hp->Prop:=fun _ _=>False
 ct:St->Hp->Prop:=fun _ _=>False
abbrev TS:=Ends->St->Hp->Prop
def EP (X:Cx)(pins:Pn)(σ:St)(Q:VK)(u:Value)(s':Shared):Prop:= ∃ v H',Inv X pins σ H' s'/\ZM v u/\Q v H'
noncomputable def TP (X:Cx)(pins:Pn)(σ:St)(Q:Bool->Hp->Prop)(b:Bool)(s':Shared):Prop:= ∃ H',Inv X pins σ H' s'/\Q b H'
def AP (X:Cx)(pins:Pn)(σ:St)(Q:List V->Hp->Prop)(us:List Value)(s':Shared):Prop:= ∃ vs H',Inv X pins σ H' s'/\ZO vs us/\Q vs H'
def SP (X:Cx)(pins:Pn)(D:Ends)(f:Flow)(s':Shared):Prop:=
 match f with
 | .next=> ∃ σ' H',Inv X pins σ' H' s'/\D.nx σ' H'
 | .brk=> ∃ σ' H',Inv X pins σ' H' s'/\D.bk σ' H'
 | .cont=> ∃ σ' H',Inv X pins σ' H' s'/\D.ct σ' H'
 | .ret u=> ∃ v σ' H',Inv X pins σ' H' s'/\ZM v u/\D.rt v H'
def PE (X:Cx)(e:Expr)(t:TE):Prop:=
 ∀ (pins:Pn) (s:Shared) (σ:St) (H:Hp) (Q:VK),Inv X pins σ H s->t σ H Q->wpAny (model X.prog X.w) X.A (eval e X.env) (EP X pins σ Q) X.xe s
def PT (X:Cx)(e:Expr)(t:TT):Prop:=
 ∀ (pins:Pn) (s:Shared) (σ:St) (H:Hp) (Q:Bool->Hp->Prop),Inv X pins σ H s->t σ H Q->wpAny (model X.prog X.w) X.A (isTrue e X.env (eval e X.env)) (TP X pins σ Q) X.xe s
def PW (X:Cx)(e:Expr)(t:TT):Prop:=
 ∀ (whole:Sem Value) (pins:Pn) (s:Shared) (σ:St) (H:Hp) (Q:Bool->Hp->Prop),Inv X pins σ H s->t σ H Q->wpAny (model X.prog X.w) X.A (isTrue e X.env whole) (TP X pins σ Q) X.xe s
theorem PW.pt {X:Cx}{e:Expr}{t:TT}(h:PW X e t):PT X e t:=h _
def PA (X:Cx)(es:List Expr)(t:TA):Prop:=
 ∀ (pos:Pos) (pins:Pn) (s:Shared) (σ:St) (H:Hp) (Q:List V->Hp->Prop),Inv X pins σ H s->t σ H Q->wpAny (model X.prog X.w) X.A (spliced (backTo pos (starEach es X.env))) (AP X pins σ Q) X.xe s
def PS (X:Cx)(st:Stmt)(t:TS):Prop:=
 ∀ (pins:Pn) (s:Shared) (σ:St) (H:Hp) (D:Ends),Inv X pins σ H s->t D σ H->wpAny (model X.prog X.w) X.A (exec st X.env) (SP X pins D) X.xe s
def PSs (X:Cx)(st:List Stmt)(t:TS):Prop:=
 ∀ (pins:Pn) (s:Shared) (σ:St) (H:Hp) (D:Ends),Inv X pins σ H s->t D σ H->wpAny (model X.prog X.w) X.A (execs st X.env) (SP X pins D) X.xe s
theorem thn {α:Type}{t:Sem α}{Q Q':α->Shared->Prop}{M:Model}{A:Around}{E:Vp}{s:Shared}(h:wpAny M A t Q E s)(hQ: ∀ a s,Q a s->Q' a s):wpAny M A t Q' E s:=wpAny_mono h hQ fun _ _ x=>x
section
variable {X:Cx}
theorem bin {a b:Expr}{ta tb:TE}(ha:PE X a ta)(hb:PE X b tb){pins:Pn}{s:Shared}{σ:St}{H:Hp}{R:V->V->Hp->Prop}(I:Inv X pins σ H s)(h:ta σ H fun x H1=>tb σ H1 fun y H2=>R x y H2)
  {α:Type} {Q:α->Shared->Prop} {f:Value->Value->Sem α}
  (hf: ∀ v u s2 x y H2,Inv X pins σ H2 s2->ZM x v->ZM y u->R x y H2->wpAny (model X.prog X.w) X.A (f v u) Q X.xe s2):
  wpAny (model X.prog X.w) X.A (eval a X.env) (fun v s₁=>wpAny (model X.prog X.w) X.A (eval b X.env) (fun u s₂=>wpAny (model X.prog X.w) X.A (f v u) Q X.xe s₂) X.xe s₁) X.xe s:=by
 refine thn (ha pins s σ H _ I h) fun v s1 ⟨x,H1,I1,r1,q1⟩=> ?_
 refine thn (hb pins s1 σ H1 _ I1 q1) fun u s2 ⟨y,H2,I2,r2,q2⟩=> ?_
 exact hf v u s2 x y H2 I2 r1 r2 q2
noncomputable def ZsH (i:Nat):TE:=fun σ H Q=> ∃ v,σ[i]?=some (some v)/\Q v H
noncomputable def tC (v:V):TE:=fun _ H Q=>Q v H
theorem ZjX {i:Nat}{x:Str}{pos:Pos}(hN:X.N[i]?=some x)(hv:Vis X.env.scope x)(hd:(x == ("__debug__":Str))=false:=by decide)(hcd:(x == ("__classdict__":Str))=false:=by decide):PE X (.Name x pos) (ZsH i):=by
 intro pins s σ H Q I h;obtain ⟨v,e,h⟩:=h
 obtain ⟨m,hn,hl⟩:=I.loc
 obtain ⟨u,r,l⟩:=hl i x v hN e hv
 have fin:EP X pins σ Q u s:=⟨v,H,I,r,h⟩
 rcases l with ⟨hk,hm⟩ | ⟨hk,c,hc,hcell⟩
 ·exact wpAny_Name (wpAny_loadName_local I.ok.kind hk hn hm fin) hd
 ·rcases hk with hk | hk
  ·exact wpAny_Name (wpAny_loadName_cell I.ok.kind hk hc hcell fin) hd
  ·exact wpAny_Name (wpAny_loadName_free I.ok.kind hk hc hcell fin hcd) hd
theorem Zgw {i j pos}:PE X (.Constant (.int i) j pos) (tC (.int i)):=fun _ _ _ H _ I h=>wpAny_Constant_int ⟨.int i,H,I.tok _,⟨_,rfl⟩,h⟩
theorem Zqk {b j pos}:PE X (.Constant (.bool b) j pos) (tC (.bl b)):=fun _ _ _ H _ I h=>Constant_bool ⟨.bl b,H,I,rfl,h⟩
theorem ZmT {j pos}:PE X (.Constant .none j pos) (tC .non):=fun _ _ _ H _ I h=>Constant_none ⟨.non,H,I,rfl,h⟩
theorem ZmU {x j pos}:PE X (.Constant (.str x) j pos) (tC (.str x)):=fun _ _ _ H _ I h=>Calls.Constant_str ⟨.str x,H,I.tok _,⟨_,rfl⟩,h⟩
noncomputable def Gl (X:Cx)(x:Str):Prop:=X.env.kindOf x=some .globalImplicit
theorem Zgx {E:Vp}{pins:Pn}{s:Shared}{σ:St}{H:Hp}{x:Str}{u:Value}{pos:Pos}{Q:Vp}(I:Inv X pins σ H s)(hg:Gl X x)(hm:X.mg x=some u)(h:Q u s)
  (hd:(x == ("__debug__":Str))=false:=by decide):wpAny (model X.prog X.w) X.A (eval (.Name x pos) X.env) Q E s:=
 Calls.Name_function_global I.ok.kind hg (Calls.loadGlobal_global (by rw[I.ok.glob];exact I.mod.glob.keeps I.bk) hm h) hd
theorem Za1 {E:Vp}{pins:Pn}{s:Shared}{σ:St}{H:Hp}{x:Str}{u:Value}{pos:Pos}{Q:Vp}(I:Inv X pins σ H s)(hg:Gl X x)(hm:X.mg x=none)(hv:bootBuiltins x=some u)(h:Q u s)
  (hn:x≠"__name__":=by decide) (hd:(x == ("__debug__":Str))=false:=by decide):wpAny (model X.prog X.w) X.A (eval (.Name x pos) X.env) Q E s:=by
 obtain ⟨mb,h1,h2⟩:=I.mod.blt
 exact Calls.Name_function_global I.ok.kind hg (Calls.loadGlobal_builtin (by rw[I.ok.glob];exact I.mod.glob.keeps I.bk) hm (by rw[I.ok.blt];exact h1.keeps I.bk) ((h2 x hn).trans hv) h) hd
theorem ZkQ {x:Str}{v:V}{u:Value}{pos:Pos}(hg:Gl X x)(hm:X.mg x=none)(hv:bootBuiltins x=some u)(r:ZM v u)(hn:x≠"__name__":=by decide)(hd:(x == ("__debug__":Str))=false:=by decide):PE X (.Name x pos) (tC v):=
 fun _ _ _ H _ I h=>Za1 I hg hm hv ⟨v,H,I,r,h⟩ hn hd
variable {a b:Expr}{ta tb:TE}{pos:Pos}
def PC (X:Cx)(op:CmpOp)(a b:Expr)(t:TE):Prop:=
 ∀ (pins:Pn) (s:Shared) (σ:St) (H:Hp) (Q:VK),Inv X pins σ H s->t σ H Q->
  wpAny (model X.prog X.w) X.A (eval a X.env) (fun v s₁=>wpAny (model X.prog X.w) X.A (eval b X.env) (fun u s₂=>wpAny (model X.prog X.w) X.A (compareOp op v u) (EP X pins σ Q) X.xe s₂) X.xe s₁) X.xe s
theorem ZiH (b:Expr){op:CmpOp}(h:op≠ .In)(h2:op≠ .NotIn):behindInMarks op b=false:=by
 have e1:(op == CmpOp.In)=false:=by cases op<;>first | rfl | exact absurd rfl h
 have e2:(op == CmpOp.NotIn)=false:=by cases op<;>first | rfl | exact absurd rfl h2
 cases b<;>simp[behindInMarks,e1,e2]
noncomputable def tB (t:TE):TT:=fun σ H Q=>t σ H fun x H1=> ∃ c,x= .bl c/\Q c H1
theorem ZsI {op:CmpOp}{t:TE}(h:PC X op a b t)(h1:behindInMarks op b=false:=by first | exact ZiH _ (by decide) (by decide) | rfl):PT X (.Compare a [op] [b] pos) (tB t):=by
 intro pins s σ H Q I hw;refine wpAny_isTrue_Compare1 (thn (h pins s σ H _ I hw) fun v s1 h1=>thn h1 fun u s2 h2=>thn h2 fun c s3 ⟨x,H1,I1,r1,q1⟩=> ?_) h1
 obtain ⟨d,rfl,q⟩:=q1
 cases r1
 exact wpAny_truthy_bool ⟨H1,I1,q⟩
theorem ZmV {e:Expr}{t:TE}(h:PE X e t)(he: ∀ whole,isTrue e X.env whole=(do let v <- whole;standAt e.pos;holding [v] (truthy v)):=by intro _;rfl):PT X e (tB t):=by
 intro pins s σ H Q I hw;refine isTrue_plain (thn (h pins s σ H _ I hw) fun v s1 ⟨x,H1,I1,r1,q1⟩=> ?_) (he _)
 obtain ⟨d,rfl,q⟩:=q1
 cases r1
 exact wpAny_truthy_bool ⟨H1,I1,q⟩
variable {tA tB':TT}{rest:List Expr}
noncomputable def ZtO (t u:TT):TT:=fun σ H Q=>t σ H fun c H1=>if c=true then u σ H1 Q else Q false H1
noncomputable def tOr (t u:TT):TT:=fun σ H Q=>t σ H fun c H1=>if c=true then Q true H1 else u σ H1 Q
noncomputable def ZtP (t:TT):TT:=fun σ H Q=>t σ H fun c H1=>Q (!c) H1
theorem pw_and1 (ha:PT X a tA):PW X (.BoolOp .And [a] pos) tA:=by
 intro wh pins s σ H Q I h;refine isTrue_and (thn (ha pins s σ H Q I h) fun c s1 e=> ?_)
 cases c with
 |true=>exact isTrue_and_nil e
 |false=>exact e
theorem pw_or1 (ha:PT X a tA):PW X (.BoolOp .Or [a] pos) tA:=by
 intro wh pins s σ H Q I h;refine isTrue_or (thn (ha pins s σ H Q I h) fun c s1 e=> ?_)
 cases c with
 |false=>exact isTrue_or_nil e
 |true=>exact e
theorem pw_and (ha:PT X a tA)(hb:PW X (.BoolOp .And (b :: rest) pos) tB'):PW X (.BoolOp .And (a :: b :: rest) pos) (ZtO tA tB'):=by
 intro wh pins s σ H Q I h;refine isTrue_and (thn (ha pins s σ H _ I h) fun c s1 ⟨H1,I1,q1⟩=> ?_)
 cases c with
 |true=>exact hb wh pins s1 σ H1 Q I1 q1
 |false=>exact ⟨H1,I1,q1⟩
theorem pw_or (ha:PT X a tA)(hb:PW X (.BoolOp .Or (b :: rest) pos) tB'):PW X (.BoolOp .Or (a :: b :: rest) pos) (tOr tA tB'):=by
 intro wh pins s σ H Q I h;refine isTrue_or (thn (ha pins s σ H _ I h) fun c s1 ⟨H1,I1,q1⟩=> ?_)
 cases c with
 |true=>exact ⟨H1,I1,q1⟩
 |false=>exact hb wh pins s1 σ H1 Q I1 q1
theorem ZmW (ha:PT X a tA):PT X (.UnaryOp .Not a pos) (ZtP tA):=by
 intro pins s σ H Q I h;exact isTrue_not (ha pins s σ H (fun c H1=>Q (!c) H1) I h)
noncomputable def tIf (t:TT)(ta tb:TE):TE:=fun σ H Q=>t σ H fun c H1=>if c=true then ta σ H1 Q else tb σ H1 Q
theorem ZiI {c:Expr}(hc:PT X c tA)(ha:PE X a ta)(hb:PE X b tb):PE X (.IfExp c a b pos) (tIf tA ta tb):=by
 intro pins s σ H Q I h;refine wpAny_IfExp (thn (hc pins s σ H _ I h) fun d s1 ⟨H1,I1,q1⟩=> ?_)
 cases d with
 |true=>exact ha pins s1 σ H1 Q I1 q1
 |false=>exact hb pins s1 σ H1 Q I1 q1
end
def SqL (K:Fg)(H:Hp)(a:Addr)(xs:List V):Prop:=
 Rd H a (.lst xs)\/
  ∃ (o:Obj) (its:Array Value) (n:Nat),K.lookup a=some o/\o.cls= .type "list"/\o.dict=none/\o.data= .seq its n/\its.size<=sizeLine/\ZO xs its.toList
def SqT (K:Fg)(H:Hp)(a:Addr)(xs:List V):Prop:=
 Rd H a (.tup xs)\/
  ∃ (o:Obj) (its:Array Value) (n:Nat),K.lookup a=some o/\o.cls= .type "tuple"/\o.data= .seq its n/\its.size<=sizeLine/\ZO xs its.toList
noncomputable def ZtQ:Value->Option V
 | .none=>some .non
 | .bool b=>some (.bl b)
 | .int i _=>some (.int i)
 | .str x _=>some (.str x)
 | .bytes b _=>some (.byt b)
 | .float b _=>some (.flt b)
 | .ref a=>some (.ref a)
 | .type n=>some (.ty n)
 |_=>none
theorem ZM.abs {x:V}{u:Value}(r:ZM x u):ZtQ u=some x:=by
 cases x with
 |non=>cases r;rfl
 |bl _=>cases r;rfl
 |int _=>obtain ⟨t,rfl⟩:=r;rfl
 |str _=>obtain ⟨t,rfl⟩:=r;rfl
 |byt _=>obtain ⟨t,rfl⟩:=r;rfl
 |flt _=>obtain ⟨t,rfl⟩:=r;rfl
 |ref _=>cases r;rfl
 |ty _=>cases r;rfl
theorem ZM.inj {x y:V}{u:Value}(r:ZM x u)(q:ZM y u):x=y:=Option.some.inj (r.abs.symm.trans q.abs)
theorem ZO.inj: ∀ {xs ys:List V} {us:List Value},ZO xs us->ZO ys us->xs=ys
 |_,_,_,.nil,.nil=>rfl
 |_,_,_,.cons r t,.cons r' t'=>by rw[r.inj r',ZO.inj t t']
section
variable {X:Cx}{pins:Pn}{σ:St}{H:Hp}{s:Shared}{a:Addr}{xs ys:List V}
theorem SqL.of {K:Fg}(h:H a=some (.lst xs)):SqL K H a xs:= .inl (.inl h)
theorem SqT.of {K:Fg}(h:H a=some (.tup xs)):SqT K H a xs:= .inl (.inl h)
theorem Inv.list (I:Inv X pins σ H s)(h:SqL X.K H a xs): ∃ its:List Value,ZO xs its/\PlainL s.heap a its.toArray/\xs.length<=sizeLine:=by
 rcases h with h | ⟨o,its,n,hk,hc,hd,hs,hz,r⟩
 ·obtain ⟨z,its,n,r,e⟩:=h.ok I.hok
  exact ⟨its,r,⟨_,n,e,rfl,rfl,rfl⟩,z⟩
 ·refine ⟨its.toList,r,⟨o,n,I.kIn a o hk,hc,hd,by simpa using hs⟩,?_⟩
  have e:=r.length
  simp only[Array.length_toList] at e;lia
theorem Inv.tuple (I:Inv X pins σ H s)(h:SqT X.K H a xs): ∃ its:List Value,ZO xs its/\IsTup s.heap a its.toArray/\xs.length<=sizeLine:=by
 rcases h with h | ⟨o,its,n,hk,hc,hs,hz,r⟩
 ·obtain ⟨z,its,r,p⟩:=h.ok I.hok
  exact ⟨its,r,p,z⟩
 ·refine ⟨its.toList,r,⟨o,I.kIn a o hk,hc,n,by simpa using hs⟩,?_⟩
  have e:=r.length
  simp only[Array.length_toList] at e;lia
theorem Inv.list_inj (I:Inv X pins σ H s)(h:SqL X.K H a xs)(h':SqL X.K H a ys):xs=ys:=by
 obtain ⟨its,r,⟨o,n,e,_,_,d⟩,_⟩:=I.list h
 obtain ⟨its',r',⟨o',n',e',_,_,d'⟩,_⟩:=I.list h'
 rw[e] at e';cases e';rw[d] at d'
 injection d' with d1 _
 have:its=its':=by simpa using congrArg Array.toList d1
 subst this;exact r.inj r'
theorem Inv.tuple_inj (I:Inv X pins σ H s)(h:SqT X.K H a xs)(h':SqT X.K H a ys):xs=ys:=by
 obtain ⟨its,r,⟨o,e,_,n,d⟩,_⟩:=I.tuple h
 obtain ⟨its',r',⟨o',e',_,n',d'⟩,_⟩:=I.tuple h'
 rw[e] at e';cases e';rw[d] at d'
 injection d' with d1 _
 have:its=its':=by simpa using congrArg Array.toList d1
 subst this;exact r.inj r'
end
section
variable {X:Cx}{pins:Pn}{σ:St}{H:Hp}{s:Shared}{E:Vp}
end
section
variable {X:Cx}{st:Stmt}{rest:List Stmt}{t u:TS}{e:Expr}{te:TE}{pos:Pos}
noncomputable def tNext:TS:=fun D σ H=>D.nx σ H
noncomputable def ZtR (t u:TS):TS:=fun D σ H=>t { D with nx:=u D } σ H
theorem ZkR:PSs X [] tNext:=fun _ _ σ H _ I h=>wpAny_execs_nil ⟨σ,H,I,h⟩
theorem ZiJ (h1:PS X st t)(h2:PSs X rest u):PSs X (st :: rest) (ZtR t u):=by
 intro pins s σ H D I h;refine wpAny_execs_cons (thn (h1 pins s σ H { D with nx:=u D } I h) fun f s1 q=> ?_)
 cases f with
 |next=>
  obtain ⟨σ',H',I',q⟩:=q
  exact h2 pins s1 σ' H' D I' q
 |ret v=>exact q
 |brk=>exact q
 |cont=>exact q
theorem ZkS (h1:PS X st t):PSs X [st] t:=by
 intro pins s σ H D I h;refine wpAny_execs_cons (thn (h1 pins s σ H D I h) fun f s1 q=> ?_)
 cases f with
 |next=>exact wpAny_execs_nil q
 |ret v=>exact q
 |brk=>exact q
 |cont=>exact q
theorem Inv.quiet {pins:Pn}{σ:St}{H:Hp}{s:Shared}(I:Inv X pins σ H s):interactive X.env=false:=by simp[interactive,I.ok.kind]
noncomputable def Zql (te:TE):TS:=fun D σ H=>te σ H fun _ H1=>D.nx σ H1
theorem ZkT (he:PE X e te)(hs:swapsWith e none pos.line X.env=pure false:=by rfl):PS X (.Expr e pos) (Zql te):=by
 intro pins s σ H D I h;exact wpAny_Expr_any (thn (he pins s σ H _ I h) fun v s1 ⟨x,H1,I1,r1,q1⟩=>⟨σ,H1,I1,q1⟩) I.quiet hs
noncomputable def ZtS (te:TE):TS:=fun D σ H=>te σ H D.rt
theorem ZmX (he:PE X e te):PS X (.Return (some e) pos) (ZtS te):=by
 intro pins s σ H D I h;exact wpAny_Return_some (thn (he pins s σ H _ I h) fun v s1 ⟨x,H1,I1,r1,q1⟩=>⟨x,σ,H1,I1,r1,q1⟩)
noncomputable def ZtT (c:TT)(t u:TS):TS:=fun D σ H=>c σ H fun b H1=>if b=true then t D σ H1 else u D σ H1
theorem Zqm {c:Expr}{a b:List Stmt}{tc:TT}(hc:PT X c tc)(ha:PSs X a t)(hb:PSs X b u):PS X (.If c a b pos) (ZtT tc t u):=by
 intro pins s σ H D I h;refine wpAny_If (thn (hc pins s σ H _ I h) fun d s1 ⟨H1,I1,q1⟩=> ?_)
 cases d with
 |true=>exact ha pins s1 σ H1 D I1 q1
 |false=>exact hb pins s1 σ H1 D I1 q1
end
abbrev TG:=V->St->Hp->(St->Hp->Prop)->Prop
abbrev TGs:=List V->St->Hp->(St->Hp->Prop)->Prop
def PG (X:Cx)(target:Expr)(t:TG):Prop:=
 ∀ (pins:Pn) (s:Shared) (σ:St) (H:Hp) (v:V) (u:Value) (Q:St->Hp->Prop),Inv X pins σ H s->ZM v u->t v σ H Q->
  wpAny (model X.prog X.w) X.A (assign target X.env u) (fun _ s'=> ∃ σ' H',Inv X pins σ' H' s'/\Q σ' H') X.xe s
def PGs (X:Cx)(ts:List Expr)(t:TGs):Prop:=
 ∀ (pins:Pn) (s:Shared) (σ:St) (H:Hp) (vs:List V) (us:List Value) (Q:St->Hp->Prop),Inv X pins σ H s->ZO vs us->t vs σ H Q->
  wpAny (model X.prog X.w) X.A (assignInOrder ((assignEach ts X.env).map (·.2)) us) (fun _ s'=> ∃ σ' H',Inv X pins σ' H' s'/\Q σ' H') X.xe s
abbrev Zqn:=V->V->V->Hp->(Hp->Prop)->Prop
def ZsJ (X:Cx)(t:Zqn):Prop:=
 ∀ (pins:Pn) (s:Shared) (σ:St) (H:Hp) (o i v:V) (ov iv u:Value) (Q:Hp->Prop),Inv X pins σ H s->ZM o ov->ZM i iv->ZM v u->t o i v H Q->
  wpAny (model X.prog X.w) X.A (setItem ov iv u) (fun _ s'=> ∃ H',Inv X pins σ H' s'/\Q H') X.xe s
section
variable {X:Cx}{pos:Pos}
noncomputable def ZmY (i:Nat):TG:=fun v σ H Q=>Q (σ.set i (some v)) H
theorem ZkU {i:Nat}{x:Str}(hN:X.N.Nodup)(hi:X.N[i]?=some x)(hx:Loc X.env.scope x)(hm:X.may i=true)(hf:X.fn x=true\/X.env.scope.names.lookup x=some .local:=by first | exact .inl rfl | exact .inr rfl | assumption):PG X (.Name x pos) (ZmY i):=by
 intro pins s σ H v u Q I r h;exact wpAny_assign_Name (Zcc I hN hi hx hm r (fun s' I'=>⟨_,H,I',h⟩) hf)
noncomputable def gNil:TGs:=fun vs σ H Q=>vs=[]/\Q σ H
noncomputable def Zqo (t:TG)(u:TGs):TGs:=fun vs σ H Q=> ∃ v r,vs=v :: r/\t v σ H fun σ' H'=>u r σ' H' Q
theorem ZkV:PGs X [] gNil:=by
 intro pins s σ H vs us Q I r h;obtain ⟨e,h⟩:=h
 subst e;cases r
 exact assignInOrder_nil ⟨σ,H,I,h⟩
theorem ZiK {e:Expr}{es:List Expr}{t:TG}{u:TGs}(h1:PG X e t)(h2:PGs X es u)
  (hs:(assignEach (e :: es) X.env).map (·.2)=assign e X.env :: (assignEach es X.env).map (·.2):=by rfl):PGs X (e :: es) (Zqo t u):=by
 intro pins s σ H vs us Q I r h;obtain ⟨v,vr,e1,h⟩:=h
 subst e1;cases r with
 |cons r rr=>
  rw[hs];refine assignInOrder_cons (thn (h1 pins s σ H _ _ _ I r h) fun _ s1 ⟨σ1,H1,I1,q1⟩=> ?_)
  exact h2 pins s1 σ1 H1 _ _ Q I1 rr q1
def ZtU (K:Fg)(n:Nat)(t:TGs):TG:=fun v σ H Q=> ∃ a xs,v= .ref a/\SqT K H a xs/\xs.length=n/\t xs σ H Q
theorem ZmZ {es:List Expr}{k:Nat}{t:TGs}{n:Nat}(hc:X.calm=true)(h:PGs X es t)
  (hn:(assignEach es X.env).length=n:=by rfl) (hst:(assignEach es X.env).findIdx? (·.1)=none:=by rfl):PG X (.Tuple es k pos) (ZtU X.K n t):=by
 intro pins s σ H v u Q I r hw;obtain ⟨a,xs,e1,hq,hl,hw⟩:=hw
 subst e1;cases r
 obtain ⟨its,rv,ht,hz⟩:=I.tuple hq
 refine assign_Tuple_tuple (I.ok.hd hc) ht (by simp[hn,<- hl,rv.length]) hst fun h' hx=> ?_
 have I1:Inv X pins σ H { s with heap:=h' }:=I.kept (t':=s.toks) fun b o e=>hx b o (Nat.ne_of_lt (Hz e)) e
 exact h pins _ σ H xs _ Q I1 (by simpa using rv) hw
noncomputable def ZtV (to ti:TE)(t:Zqn):TG:=fun v σ H Q=>to σ H fun o H1=>ti σ H1 fun i H2=>t o i v H2 fun H3=>Q σ H3
theorem Zm0 {o i:Expr}{to ti:TE}{t:Zqn}(ho:PE X o to)(hi:PE X i ti)(hs:ZsJ X t)
  (ha: ∀ v,assign (.Subscript o i pos) X.env v=(do
   let ov <- holding [v] (eval o X.env)
   let iv <- holding [v,ov] (eval i X.env)
   standAt pos
   holding [v,ov,iv] (setItem ov iv v)
   release [v,ov,iv] []):=by intro _;rfl):PG X (.Subscript o i pos) (ZtV to ti t):=by
 intro pins s σ H v u Q I r h;rw[ha];refine Wb (wpAny_holding (thn (ho pins s σ H _ I h) fun ov s1 ⟨x,H1,I1,r1,q1⟩=> ?_))
 refine Wb (wpAny_holding (thn (hi pins s1 σ H1 _ I1 q1) fun iv s2 ⟨y,H2,I2,r2,q2⟩=> ?_))
 refine Wb (wpAny_standAt (Wb (wpAny_holding (thn (hs pins s2 σ H2 x y v ov iv u _ I2 r1 r2 r q2) fun _ s3 ⟨H3,I3,q3⟩=> ?_))))
 exact wpAny_release ⟨σ,H3,I3,q3⟩
noncomputable def ZsK (te:TE)(g:TG):TS:=fun D σ H=>te σ H fun x H1=>g x σ H1 D.nx
theorem ZjY {tg e:Expr}{te:TE}{g:TG}(he:PE X e te)(hg:PG X tg g)(hs:swapsWithSole [tg] e pos.line X.env=pure false:=by rfl)(hw:swappedStores [tg] e X.env=pure none:=by rfl)
  (h1:(assignEach [tg] X.env).map (·.2)=[assign tg X.env]:=by rfl):PS X (.Assign [tg] e pos) (ZsK te g):=by
 intro pins s σ H D I h;refine wpAny_Assign_stores (thn (he pins s σ H _ I h) fun v s1 ⟨x,H1,I1,r1,q1⟩=> ?_) hs hw
 rw[h1];exact thn (hg pins s1 σ H1 x v _ I1 r1 q1) fun _ s2 q=>q
theorem Zm1 {i:Nat}{x:Str}{e:Expr}{te:TE}{pos':Pos}(hN:X.N.Nodup)(hi:X.N[i]?=some x)(hx:Loc X.env.scope x)(hm:X.may i=true)(he:PE X e te)(hs:swapsWith e (some (.Name x pos')) pos.line X.env=pure false:=by rfl)(hf:X.fn x=true\/X.env.scope.names.lookup x=some .local:=by first | exact .inl rfl | exact .inr rfl | assumption):
  PS X (.Assign [.Name x pos'] e pos) (ZsK te (ZmY i)):=by
 intro pins s σ H D I h;refine wpAny_Assign_Name (thn (he pins s σ H _ I h) fun v s1 ⟨y,H1,I1,r1,q1⟩=> ?_) hs
 exact Zcc I1 hN hi hx hm r1 (fun s2 I2=>⟨_,H1,I2,q1⟩) hf
noncomputable def ZtW (i j:Nat)(ta:TA):TS:=fun D σ H=>ta σ H fun vs H1=> ∃ v w,vs=[v,w]/\D.nx ((σ.set i (some v)).set j (some w)) H1
theorem Zm2 {i j:Nat}{x y:Str}{a b:Expr}{ta:TA}{px py pt:Pos}{kt k2 pt2}(hc:X.calm=true)(mi:X.may i=true)(mj:X.may j=true)(hN:X.N.Nodup)(hi:X.N[i]?=some x)(hj:X.N[j]?=some y)(hij:i≠j)
  (hx:X.env.scope.names.lookup x=some .local) (hy:X.env.scope.names.lookup y=some .local) (ha:PA X [a,b] ta)
  (hw:swappedStores [.Tuple [.Name x px,.Name y py] kt pt] (.Tuple [a,b] k2 pt2) X.env=pure (some [x,y]))
  (hs:swapsWithSole [.Tuple [.Name x px,.Name y py] kt pt] (.Tuple [a,b] k2 pt2) pos.line X.env=pure false:=by rfl):
  PS X (.Assign [.Tuple [.Name x px,.Name y py] kt pt] (.Tuple [a,b] k2 pt2) pos) (ZtW i j ta):=by
 intro pins s σ H D I h;rw[exec_Assign_arm];refine Wb (wpAny_standAt ?_)
 rw[hs];refine Wb (Wp ?_)
 rw[if_neg (by decide)]
 refine Wb (Tuple_ (thn (ha _ pins s σ H _ I h) fun us s1 ⟨vs,H1,I1,r1,q1⟩=> ?_))
 obtain ⟨v,w,e1,q1⟩:=q1
 subst e1;obtain ⟨u1,u2,rfl,rv,rw'⟩: ∃ u1 u2,us=[u1,u2]/\ZM v u1/\ZM w u2:=by
  cases r1 with
  |cons p q=>
   cases q with
   |cons p' q'=>
    cases q'
    exact ⟨_,_,rfl,p,p'⟩
 refine wpAny_newObj_type ?_ (by show 2<=sizeLine;decide)
 have I2:Inv X pins σ H1 { s1 with heap:=s1.heap.push { cls:= .type "tuple",data:= .seq [u1,u2].toArray } }:=I1.kept (t':=s1.toks) fun b o e=>Hq _ e
 rw[hw];refine Wb (Wp ?_)
 show wpAny (model X.prog X.w) X.A (do rule "assign.swapped-stores";let items <- unpackItems (.ref s1.heap.objs.size) 2 none;assignInOrder [fun v=>bindName X.env y v,fun v=>bindName X.env x v] items.reverse;pure Flow.next) _ _ _
 refine Wb (wpAny_rule (Wb (unpackItems_tuple (items:= #[u1,u2]) (I.ok.hd hc) (IsTup.new s1.heap _) fun h' hx'=> ?_)))
 have I3:=I2.kept (h':=h') (t':=s1.toks) fun b o e=>hx' b o (Nat.ne_of_lt (Hz e)) e
 show wpAny _ _ (assignInOrder [fun v=>bindName X.env y v,fun v=>bindName X.env x v] [u2,u1] >>= fun _=>pure Flow.next) _ _ _
 refine Wb (assignInOrder_cons (wpAny_bindName (Zcc I3 hN hj (.inl hy) mj rw' (fun s2 I4=> ?_) (.inr hy))))
 refine assignInOrder_cons (wpAny_bindName (Zcc I4 hN hi (.inl hx) mi rv (fun s3 I5=>assignInOrder_nil (Wp ?_)) (.inr hx)))
 rw[List.set_comm _ _ (Ne.symm hij)] at I5;exact ⟨_,H1,I5,q1⟩
def Zm3 (c:TT)(tb:TS):TS:=fun D σ H=> ∃ W:Nat->St->Hp->Prop,(∃ m,W m σ H)/\ ∀ m σ H,W m σ H->
 c σ H fun b H1=>if b=true then ∃ N:St->Hp->Prop,(∀ σ' H',N σ' H'-> ∃ m',m' < m/\W m' σ' H')/\tb { D with nx:=N,ct:=N,bk:=D.nx } σ H1 else D.nx σ H1
theorem ZiL {c:Expr}{body:List Stmt}{tc:TT}{tb:TS}(hp:PassesOwn (model X.prog X.w) X.A X.env X.xe)(hc:PT X c tc)(hb:PSs X body tb):PS X (.While c body [] pos) (Zm3 tc tb):=by
 intro pins s σ H D I h;obtain ⟨W,⟨m0,w0⟩,turn⟩:=h
 refine wpAny_While (codeAny_whileLoop (fun n s'=> ∃ σ' H',Inv X pins σ' H' s'/\W n σ' H') ?_ m0 ⟨σ,H,I,w0⟩)
 rintro n s1 ⟨σ1,H1,I1,w1⟩
 refine wpAny_passesOwn hp (thn (hc pins s1 σ1 H1 _ I1 (turn n σ1 H1 w1)) fun b s2 ⟨H2,I2,q2⟩=> ?_)
 cases b with
 |true=>
  obtain ⟨N,hN,q2⟩:=q2
  rw[if_pos rfl];refine wpAny_passesOwn hp (thn (hb pins s2 σ1 H2 _ I2 q2) fun f s3 q3=> ?_)
  cases f with
  |next=>
   obtain ⟨σ3,H3,I3,n3⟩:=q3
   obtain ⟨m',hm,w3⟩:=hN σ3 H3 n3
   exact ⟨m',hm,σ3,H3,I3,w3⟩
  |cont=>
   obtain ⟨σ3,H3,I3,n3⟩:=q3
   obtain ⟨m',hm,w3⟩:=hN σ3 H3 n3
   exact ⟨m',hm,σ3,H3,I3,w3⟩
  |brk=>exact q3
  |ret v=>exact q3
 |false=>
  rw[if_neg Bool.false_ne_true];exact wpAny_execs_nil ⟨σ1,H2,I2,q2⟩
end
structure It where
 go:Nat->Hp->Prop
 yld:Nat->Hp->V->Hp->Prop
 stop:Nat->Hp->Prop
def ZcY (X:Cx)(pins:Pn)(H:Hp)(b:Addr):Prop:=
 H b=none/\b≠X.env.locals/\b ∉ X.fs/\(b∈X.ex\/X.s₀.heap.objs.size<=b)/\(∀ x c,X.env.cells.lookup x=some c->c≠b)/\ ∀ p∈X.pn ++ pins,p.1≠b
theorem Inv.fpOk {X:Cx}{pins:Pn}{σ:St}{H H':Hp}{s:Shared}{b:Addr}(I:Inv X pins σ H s)(hb:s.heap.objs.size<=b)(hn:H' b=none):ZcY X pins H' b:=by
 refine ⟨hn,Nat.ne_of_gt (Nat.lt_of_lt_of_le I.lt hb),I.nofs hb,.inr (Nat.le_trans I.sz hb),fun x c e z=> ?_,fun p hp z=> ?_⟩
 ·obtain ⟨v,q⟩:=I.cell x c e
  exact absurd (Nat.lt_of_lt_of_le q.lt (by rw[z];exact hb)) (Nat.lt_irrefl _)
 ·exact absurd (Nat.lt_of_lt_of_le (Hz (I.pin p hp).1) (by rw[z];exact hb)) (Nat.lt_irrefl _)
structure Turn (P:Program) (w:World) (K:Fg) (B:Around) (tg:Expr) (J:It) (fp:List Addr) (it:Addr) (tn:Nat->Heap->Prop):Prop where
 mem:it∈fp
 obj: ∀ i h,tn i h-> ∀ b∈fp,∃ o,h.get? b=some o/\ ∀ v,o.data≠ .cell v
 keep: ∀ i h h',tn i h->(∀ b∈fp,∀ o,h.get? b=some o->h'.get? b=some o)->tn i h'
 item: ∀ (X:Cx),X.prog=P->X.w=w->X.K=K->X.A=B-> ∀ (i:Nat) (pins:Pn) (s:Shared) (σ:St) (H:Hp) (E:Vp),Inv X pins σ H s->(∀ b∈fp,ZcY X pins H b)->tn i s.heap->J.go i H->
  wpAny (model P w) X.A (pyNext (.ref it)) (fun r s1=> ∃ u,r=some u/\
   wpAny (model P w) X.A (letOwnedTupleGo tg (.ref it) u) (fun _ s2=> ∃ x H',Inv X pins σ H' s2/\ZM x u/\J.yld i H x H'/\tn (i + 1) s2.heap/\ ∀ b∈fp,H' b=none) E s1) E s
 done: ∀ (X:Cx),X.prog=P->X.w=w->X.K=K->X.A=B-> ∀ (i:Nat) (pins:Pn) (s:Shared) (σ:St) (H:Hp) (E:Vp),Inv X pins σ H s->(∀ b∈fp,ZcY X pins H b)->tn i s.heap->J.stop i H->
  wpAny (model P w) X.A (pyNext (.ref it)) (fun r s1=>r=none/\Inv X pins σ H s1) E s
 self: ∀ (A:Around) (i:Nat) (s:Shared) (Q:Vp) (E:Vp),tn i s.heap->Q (.ref it) s->wpAny (model P w) A (pyIter (.ref it)) Q E s
abbrev TI:=St->Hp->(It->Hp->Prop)->Prop
def PIE (X:Cx)(pins:Pn)(σ:St)(tg:Expr)(R:It->Hp->Prop)(itv:Value)(s2:Shared):Prop:=
 ∃ (it:Addr) (fp:List Addr) (tn:Nat->Heap->Prop) (J:It) (H':Hp),itv= .ref it/\Inv X pins σ H' s2/\Turn X.prog X.w X.K X.A tg J fp it tn/\tn 0 s2.heap/\(∀ b∈fp,ZcY X pins H' b)/\R J H'
def PI (X:Cx)(tg iter:Expr)(wi:TI):Prop:=
 ∀ (pins:Pn) (s:Shared) (σ:St) (H:Hp) (R:It->Hp->Prop),Inv X pins σ H s->wi σ H R->
  wpAny (model X.prog X.w) X.A (eval iter X.env) (fun v s1=>wpAny (model X.prog X.w) X.A (pyIter v) (PIE X pins σ tg R) X.xe s1) X.xe s
theorem ZiM {M:Model}{A:Around}{E:Vp}{s:Shared}{tg:Expr}{it:Addr}{u:Value}{o:Obj}{n:String}{vs:Array Value}{Q:Unit->Shared->Prop}(ho:s.heap.get? it=some o)(hc:o.cls= .type n)(hd:o.data= .fields vs)
  (hn:["enumerate","zip","dict_itemiterator","dict_reverseitemiterator","odict_iterator","itertools.zip_longest","itertools.pairwise"].contains n=false) (hQ:Q () s):wpAny M A (letOwnedTupleGo tg (.ref it) u) Q E s:=by
 unfold letOwnedTupleGo;cases tg<;>first
  |exact Wp hQ
  | (cases u<;>first
    |exact Wp hQ
    | (refine Wb (wpAny_load ho ?_)
       rw[hc,hd];show wpAny M A (if (["enumerate","zip","dict_itemiterator","dict_reverseitemiterator","odict_iterator","itertools.zip_longest","itertools.pairwise"].contains n && vs[0]? == some (rawInt _))=true then _ else _) Q E s
       rw[if_neg (by intro h;rw[hn,Bool.false_and] at h;cases h)]
       exact Wp hQ))
def Itl (K:Fg)(a:Addr):It:=
 ⟨fun i H=> ∃ xs x,SqL K H a xs/\xs[i]?=some x,fun i H x H'=>H'=H/\ ∀ xs,SqL K H a xs->xs[i]?=some x,fun i H=> ∃ xs,SqL K H a xs/\xs.length<=i⟩
def Itt (K:Fg)(a:Addr):It:=
 ⟨fun i H=> ∃ xs x,SqT K H a xs/\xs[i]?=some x,fun i H x H'=>H'=H/\ ∀ xs,SqT K H a xs->xs[i]?=some x,fun i H=> ∃ xs,SqT K H a xs/\xs.length<=i⟩
noncomputable def Itr (lo:Int)(n:Nat):It:=⟨fun i _=>i < n,fun i H x H'=>H'=H/\x= .int (lo + i),fun i _=>n<=i⟩
theorem Zgy {P:Program}{w:World}{K:Fg}{B:Around}{tg:Expr}(a it:Addr):Turn P w K B tg (Itl K a) [it] it (fun i h=>h.IsListIter it a i) where
 mem:=by simp
 obj:=fun i h st b hb=>by
  have e:b=it:=by simpa using hb
  subst e;obtain ⟨o,e,c,d⟩:=st
  exact ⟨o,e,fun v z=>by rw[d] at z;cases z⟩
 keep:=fun i h h' st k=>st.at fun o e=>k it (by simp) o e
 item:=by
  intro X hP hw hK hB i pins s σ H E I hf st hg;subst hP hw hK;obtain ⟨xs,x,hq,hx⟩:=hg
  obtain ⟨its,rv,p,hz⟩:=I.list hq
  obtain ⟨u,hu,ru⟩:=rv.get hx
  obtain ⟨f0,f1,f2,f3,f4,f5⟩:=hf it (by simp)
  refine wpAny_pyNext_list_item st p.isList (x:=u) (by simpa using hu) fun h' st' sb=> ?_
  have I1:Inv X pins σ H { s with heap:=h' }:=I.turned (t':=s.toks) (fun b o hb e=>(sb.2 b hb).trans e) f0 f1 f3 f4 f5
  obtain ⟨o,e,c,d⟩:=id st'
  exact ⟨u,rfl,ZiM (s:={ s with heap:=h' }) e c d (by decide) ⟨x,H,I1,ru,⟨rfl,fun ys hy=>by rw[I.list_inj hy hq];exact hx⟩,st',fun b hb=>(hf b hb).1⟩⟩
 done:=by
  intro X hP hw hK hB i pins s σ H E I hf st hg;subst hP hw hK;obtain ⟨xs,hq,hx⟩:=hg
  obtain ⟨its,rv,p,hz⟩:=I.list hq
  obtain ⟨f0,f1,f2,f3,f4,f5⟩:=hf it (by simp)
  have hl:=rv.length
  exact DQ.ZiG I.qh st p.isList (by simp;lia) fun h' eb=>⟨rfl,I.turned (t':=s.toks) (fun b o hb e=>eb b o hb e) f0 f1 f3 f4 f5⟩
 self:=fun _ _ _ _ _ st h=>wpAny_pyIter_listiter st h
theorem ZfM {P:Program}{w:World}{K:Fg}{B:Around}{tg:Expr}(a it:Addr):Turn P w K B tg (Itt K a) [it] it (fun i h=>h.IsTupleIter it a i) where
 mem:=by simp
 obj:=fun i h st b hb=>by
  have e:b=it:=by simpa using hb
  subst e;obtain ⟨o,e,c,d⟩:=st
  exact ⟨o,e,fun v z=>by rw[d] at z;cases z⟩
 keep:=fun i h h' st k=>st.at fun o e=>k it (by simp) o e
 item:=by
  intro X hP hw hK hB i pins s σ H E I hf st hg;subst hP hw hK;obtain ⟨xs,x,hq,hx⟩:=hg
  obtain ⟨its,rv,p,hz⟩:=I.tuple hq
  obtain ⟨u,hu,ru⟩:=rv.get hx
  obtain ⟨f0,f1,f2,f3,f4,f5⟩:=hf it (by simp)
  refine wpAny_pyNext_tuple_item st (show s.heap.IsTuple a its.toArray from p) (x:=u) (by simpa using hu) fun h' st' sb=> ?_
  have I1:Inv X pins σ H { s with heap:=h' }:=I.turned (t':=s.toks) (fun b o hb e=>(sb.2 b hb).trans e) f0 f1 f3 f4 f5
  obtain ⟨o,e,c,d⟩:=id st'
  exact ⟨u,rfl,ZiM (s:={ s with heap:=h' }) e c d (by decide) ⟨x,H,I1,ru,⟨rfl,fun ys hy=>by rw[I.tuple_inj hy hq];exact hx⟩,st',fun b hb=>(hf b hb).1⟩⟩
 done:=by
  intro X hP hw hK hB i pins s σ H E I hf st hg;subst hP hw hK;obtain ⟨xs,hq,hx⟩:=hg
  obtain ⟨its,rv,p,hz⟩:=I.tuple hq
  obtain ⟨f0,f1,f2,f3,f4,f5⟩:=hf it (by simp)
  have hl:=rv.length
  exact DQ.Zgr I.qh st (show s.heap.IsTuple a its.toArray from p) (by simp;lia) fun h' eb=>⟨rfl,I.turned (t':=s.toks) (fun b o hb e=>eb b o hb e) f0 f1 f3 f4 f5⟩
 self:=fun _ _ _ _ _ st h=>wpAny_pyIter_tupleiter st h
theorem ZfN {P:Program}{w:World}{K:Fg}{B:Around}{tg:Expr}(it:Addr)(lo:Int)(n:Nat):Turn P w K B tg (Itr lo n) [it] it (fun i h=>IsRangeIter h it (lo + (i:Nat) * 1) ((n:Int) - (i:Nat)) 1) where
 mem:=by simp
 obj:=fun i h st b hb=>by
  have e:b=it:=by simpa using hb
  subst e;exact ⟨_,st,fun v z=>by
   have z':Data.fields _=Data.cell v:=z
   cases z'⟩
 keep:=fun i h h' st k=>k it (by simp) _ st
 item:=by
  intro X hP hw hK hB i pins s σ H E I hf st hg;subst hP hw hK;obtain ⟨f0,f1,f2,f3,f4,f5⟩:=hf it (by simp)
  have hlt:i < n:=hg
  refine wpAny_pyNext_range_item st (by lia) fun h' st' sb=> ?_
  have I1:Inv X pins σ H { s with heap:=h',toks:=s.toks + 1 }:=I.turned (fun b o hb e=>(sb.2 b hb).trans e) f0 f1 f3 f4 f5
  have st2:IsRangeIter h' it (lo + ((i + 1:Nat):Int) * 1) ((n:Int) - ((i + 1:Nat):Int)) 1:=by
   have e1:lo + ((i + 1:Nat):Int) * 1=lo + (i:Nat) * 1 + 1:=by lia
   have e2:(n:Int) - ((i + 1:Nat):Int)=(n:Int) - (i:Nat) - 1:=by lia
   rw[e1,e2];exact st'
  refine ⟨_,rfl,ZiM (s:={ s with heap:=h',toks:=s.toks + 1 }) (n:="range_iterator") st2 rfl rfl (by decide) ⟨.int (lo + i),H,I1,⟨s.toks,?_⟩,⟨rfl,rfl⟩,st2,fun b hb=>(hf b hb).1⟩⟩
  rw[Int.mul_one]
 done:=by
  intro X hP hw hK hB i pins s σ H E I hf st hg;subst hP hw hK;obtain ⟨f0,f1,f2,f3,f4,f5⟩:=hf it (by simp)
  exact DQ.Zgq I.qh st (by have:n<=i:=hg;lia) fun h' eb=>⟨rfl,I.turned (t':=s.toks) (fun b o hb e=>eb b o hb e) f0 f1 f3 f4 f5⟩
 self:=fun _ _ _ _ _ st h=>wpAny_pyIter_rangeiter st h
section
variable {X:Cx}{tg:Expr}
theorem ZiN {pins:Pn}{σ:St}{H:Hp}{s:Shared}{R:It->Hp->Prop}{E:Vp}{lo hi:Int}{t u v:Tok}{tk:Nat}(I:Inv X pins σ H s)(h1: -(2 ^ 62)<=lo)(h2:lo < 2 ^ 62)(h3: -(2 ^ 62)<=hi)(h4:hi < 2 ^ 62)
  (q:R (Itr lo (hi - lo).toNat) H):wpAny (model X.prog X.w) X.A (pyIter (.ref s.heap.objs.size)) (PIE X pins σ tg R) E { s with heap:=s.heap.push { cls:= .type "range",data:= .fields #[.int lo t,.int hi u,.int 1 v] },toks:=tk }:=by
 refine wpAny_pyIter_range (IsRange.new ..) (small_one h1 h2 h3 h4) ?_
 have I1:Inv X pins σ H { s with heap:=s.heap.push { cls:= .type "range",data:= .fields #[.int lo t,.int hi u,.int 1 v] },toks:=tk }:=I.kept fun b o e=>Hq _ e
 refine ⟨(s.heap.push { cls:= .type "range",data:= .fields #[.int lo t,.int hi u,.int 1 v] }).objs.size,[(s.heap.push { cls:= .type "range",data:= .fields #[.int lo t,.int hi u,.int 1 v] }).objs.size],_,_,H,rfl,
  I1.kept (t':=tk) fun b o e=>Hq _ e,ZfN _ lo (hi - lo).toNat,?_,fun b hb=> ?_,q⟩
 ·have e1:lo + ((0:Nat):Int) * 1=lo:=by simp
  have e2:(((hi - lo).toNat:Nat):Int) - ((0:Nat):Int)=Builtin.Range.rangeSize lo hi 1:=by rw[rangeSize_one];split<;>lia
  show IsRangeIter _ _ (lo + ((0:Nat):Int) * 1) ((((hi - lo).toNat:Nat):Int) - ((0:Nat):Int)) 1
  rw[e1,e2];exact Heap.get?_push_size _ rfl
 ·have e:b=(s.heap.push { cls:= .type "range",data:= .fields #[.int lo t,.int hi u,.int 1 v] }).objs.size:=by simpa using hb
  subst e;exact I1.fpOk (Nat.le_refl _) (I1.hok.fresh (Nat.le_refl _))
def Zqp (ta:TA):TI:=fun σ H R=>ta σ H fun vs H1=> ∃ j:Int,vs=[.int j]/\ -(2 ^ 62)<=j/\j < 2 ^ 62/\R (Itr 0 j.toNat) H1
theorem ZdI {a:Expr}{ta:TA}{p pos:Pos}(hg:Gl X "range")(hm:X.mg "range"=none)(ha:PA X [a] ta)(hs:starEach [a] X.env=[(false,eval a X.env)]:=by rfl):PI X tg (.Call (.Name "range" p) [a] [] pos) (Zqp ta):=by
 intro pins s σ H R I h;refine Call_ (Za1 I hg hm boot_range (PyProof.Rows.callWith_type1 (thn (ha pos pins s σ H _ I h) fun us s1 ⟨vs,H1,I1,r1,q1⟩=> ?_) hs rfl))
 obtain ⟨j,e,q1,q2,q⟩:=q1
 subst e;cases r1 with
 |cons r rr=>
  cases rr
  obtain ⟨t,rfl⟩:=r
  exact call_range_1 (ZiN I1 (by lia) (by lia) q1 q2 (by simpa using q))
def ZtX (wi:TI)(g:TG)(tb:TS):TS:=fun D σ H=>wi σ H fun J H1=> ∃ W:Nat->Nat->St->Hp->Prop,(∃ m,W 0 m σ H1)/\ ∀ i m σ H,W i m σ H->
 (J.stop i H/\D.nx σ H)\/(J.go i H/\ ∃ N:St->Hp->Prop,(∀ σ' H',N σ' H'-> ∃ m',m' < m/\W (i + 1) m' σ' H')/\ ∀ x H',J.yld i H x H'->g x σ H' fun σ2 H2=>tb { D with nx:=N,ct:=N,bk:=D.nx } σ2 H2)
noncomputable def Zbv (fp:List Addr)(h:Heap):Pn:=fp.filterMap fun b=>(h.get? b).map fun o=>(b,o)
theorem Zao {fp:List Addr}{h:Heap}{b:Addr}{o:Obj}(hb:b∈fp)(e:h.get? b=some o):(b,o)∈Zbv fp h:=List.mem_filterMap.mpr ⟨b,hb,by rw[e];rfl⟩
theorem Zgz {fp:List Addr}{h:Heap}{p:Addr × Obj}(hp:p∈Zbv fp h):p.1∈fp/\h.get? p.1=some p.2:=by
 obtain ⟨b,hb,e⟩:=List.mem_filterMap.mp hp
 cases q:h.get? b with
 |none=>rw[q] at e;cases e
 |some o=>
  rw[q] at e;have e':(b,o)=p:=Option.some.inj e
  subst e';exact ⟨hb,q⟩
theorem Inv.pinned {pins:Pn}{σ:St}{H:Hp}{s:Shared}{fp:List Addr}(I:Inv X pins σ H s)(hf: ∀ b∈fp,ZcY X pins H b)(ho: ∀ b∈fp,∃ o,s.heap.get? b=some o/\ ∀ v,o.data≠ .cell v):Inv X (pins ++ Zbv fp s.heap) σ H s:=
 I.pins_of fun p hp=>(List.mem_append.mp hp).elim (fun z=>I.pin p (List.mem_append_right _ z)) fun z=>by
  obtain ⟨hb,e⟩:=Zgz z
  obtain ⟨f0,f1,f2,_⟩:=hf p.1 hb
  obtain ⟨o,e',d⟩:=ho p.1 hb
  rw[e] at e';cases e';exact ⟨e,f0,f1,f2,d⟩
theorem Inv.unpinned {pins pl:Pn}{σ:St}{H:Hp}{s:Shared}(I:Inv X (pins ++ pl) σ H s):Inv X pins σ H s:=I.pins_of fun p hp=>I.pin p (List.mem_append_right _ (List.mem_append_left _ hp))
theorem ZgA {iter:Expr}{body:List Stmt}{wi:TI}{g:TG}{tb:TS}{pos:Pos}(hp:PassesOwn (model X.prog X.w) X.A X.env X.xe)(hi:PI X tg iter wi)(hg:PG X tg g)(hb:PSs X body tb)
  (hs: ∀ x,foldedSetIterable iter X.env x=pure x:=by intro _;rfl):PS X (.For tg iter body [] pos) (ZtX wi g tb):=by
 intro pins s σ H D I h;refine wpAny_For (thn (hi pins s σ H _ I h) fun v s1 h1=>thn h1 fun itv s2 h2=> ?_) hs
 obtain ⟨it,fp,tn,J,H2,e,I2,T,st2,f2,W,⟨m0,w0⟩,turn⟩:=h2
 subst e;have stat: ∀ {H':Hp},(∀ b∈fp,H' b=none)-> ∀ b∈fp,ZcY X pins H' b:=fun hn b hb=>⟨hn b hb,(f2 b hb).2⟩
 refine codeAny_forLoop_any (fun n s'=> ∃ i σ' H',Inv X pins σ' H' s'/\tn i s'.heap/\(∀ b∈fp,H' b=none)/\W i n σ' H') ?_ m0 ⟨0,σ,H2,I2,st2,fun b hb=>(f2 b hb).1,w0⟩
 rintro n s3 ⟨i,σ3,H3,I3,st3,fr3,w3⟩
 rcases turn i n σ3 H3 w3 with ⟨stop,qn⟩ | ⟨go,N,hN,step⟩
 ·refine wpAny_passesOwn hp (thn (T.done X rfl rfl rfl rfl i pins s3 σ3 H3 X.xe I3 (stat fr3) st3 stop) fun r s4 ⟨hr,I4⟩=> ?_)
  subst hr;exact wpAny_execs_nil ⟨σ3,H3,I4,qn⟩
 ·refine wpAny_passesOwn hp (thn (T.item X rfl rfl rfl rfl i pins s3 σ3 H3 X.xe I3 (stat fr3) st3 go) fun r s4 ⟨u,hr,h4⟩=> ?_)
  subst hr;refine wpAny_passesOwn hp (thn h4 fun _ s5 ⟨x,H5,I5,r5,y5,st5,fr5⟩=> ?_)
  have I5':=I5.pinned (stat fr5) (T.obj _ _ st5)
  refine wpAny_passesOwn hp (thn (hg _ s5 σ3 H5 x u _ I5' r5 (step x H5 y5)) fun _ s6 ⟨σ6,H6,I6,q6⟩=> ?_)
  refine wpAny_passesOwn hp (thn (hb _ s6 σ6 H6 _ I6 q6) fun f s7 q7=> ?_)
  have again: ∀ {σ7:St} {H7:Hp},Inv X (pins ++ Zbv fp s5.heap) σ7 H7 s7->N σ7 H7-> ∃ m,m < n/\ ∃ i σ' H',Inv X pins σ' H' s7/\tn i s7.heap/\(∀ b∈fp,H' b=none)/\W i m σ' H':=fun {σ7 H7} I7 n7=>by
   obtain ⟨m',hm,w7⟩:=hN σ7 H7 n7
   refine ⟨m',hm,i + 1,σ7,H7,I7.unpinned,T.keep _ _ _ st5 fun b hb o e=>(I7.pin (b,o) (List.mem_append_right _ (List.mem_append_right _ (Zao hb e)))).1,fun b hb=> ?_,w7⟩
   obtain ⟨o,e,d⟩:=T.obj _ _ st5 b hb
   exact (I7.pin (b,o) (List.mem_append_right _ (List.mem_append_right _ (Zao hb e)))).2.1
  cases f with
  |next=>obtain ⟨σ7,H7,I7,n7⟩:=q7;exact again I7 n7
  |cont=>obtain ⟨σ7,H7,I7,n7⟩:=q7;exact again I7 n7
  |brk=>obtain ⟨σ7,H7,I7,q7⟩:=q7;exact ⟨σ7,H7,I7.unpinned,q7⟩
  |ret v=>obtain ⟨x7,σ7,H7,I7,r7,q7⟩:=q7;exact ⟨x7,σ7,H7,I7.unpinned,r7,q7⟩
end
theorem ZiO {K:Fg}{a:Addr}{xs:List V}{g:TG}{tb:TS}{D:Ends}{σ:St}{H:Hp}(Pv:Nat->St->Hp->Prop)(h0:Pv 0 σ H)(hl: ∀ i σ H,i<=xs.length->Pv i σ H->SqL K H a xs)
  (hs: ∀ i x σ H,xs[i]?=some x->Pv i σ H->g x σ H fun σ2 H2=>tb { D with nx:=Pv (i + 1),ct:=Pv (i + 1),bk:=D.nx } σ2 H2) (hd: ∀ σ H,Pv xs.length σ H->D.nx σ H):
  ∃ W:Nat->Nat->St->Hp->Prop,(∃ m,W 0 m σ H)/\ ∀ i m σ H,W i m σ H->
   ((Itl K a).stop i H/\D.nx σ H)\/((Itl K a).go i H/\ ∃ N:St->Hp->Prop,(∀ σ' H',N σ' H'-> ∃ m',m' < m/\W (i + 1) m' σ' H')/\ ∀ x H',(Itl K a).yld i H x H'->g x σ H' fun σ2 H2=>tb { D with nx:=N,ct:=N,bk:=D.nx } σ2 H2):=by
 refine ⟨fun i m σ H=>m=xs.length - i/\i<=xs.length/\Pv i σ H,⟨xs.length,by simp,Nat.zero_le _,h0⟩,?_⟩
 rintro i m σ H ⟨rfl,hi,p⟩
 have q:=hl i σ H hi p
 by_cases hlt:i < xs.length
 ·refine .inr ⟨⟨xs,xs[i],q,by simp[hlt]⟩,Pv (i + 1),fun σ' H' p'=>⟨xs.length - (i + 1),by lia,rfl,hlt,p'⟩,fun x H' y=> ?_⟩
  obtain ⟨e,y⟩:=y
  subst e;exact hs i x σ _ (y xs q) p
 ·have e:i=xs.length:=by lia
  subst e;exact .inl ⟨⟨xs,q,Nat.le_refl _⟩,hd σ H p⟩
theorem ZkW {K:Fg}{a:Addr}{xs:List V}{g:TG}{tb:TS}{D:Ends}{σ:St}{H:Hp}(Pv:Nat->St->Hp->Prop)(h0:Pv 0 σ H)(hl: ∀ i σ H,i<=xs.length->Pv i σ H->SqT K H a xs)
  (hs: ∀ i x σ H,xs[i]?=some x->Pv i σ H->g x σ H fun σ2 H2=>tb { D with nx:=Pv (i + 1),ct:=Pv (i + 1),bk:=D.nx } σ2 H2) (hd: ∀ σ H,Pv xs.length σ H->D.nx σ H):
  ∃ W:Nat->Nat->St->Hp->Prop,(∃ m,W 0 m σ H)/\ ∀ i m σ H,W i m σ H->
   ((Itt K a).stop i H/\D.nx σ H)\/((Itt K a).go i H/\ ∃ N:St->Hp->Prop,(∀ σ' H',N σ' H'-> ∃ m',m' < m/\W (i + 1) m' σ' H')/\ ∀ x H',(Itt K a).yld i H x H'->g x σ H' fun σ2 H2=>tb { D with nx:=N,ct:=N,bk:=D.nx } σ2 H2):=by
 refine ⟨fun i m σ H=>m=xs.length - i/\i<=xs.length/\Pv i σ H,⟨xs.length,by simp,Nat.zero_le _,h0⟩,?_⟩
 rintro i m σ H ⟨rfl,hi,p⟩
 have q:=hl i σ H hi p
 by_cases hlt:i < xs.length
 ·refine .inr ⟨⟨xs,xs[i],q,by simp[hlt]⟩,Pv (i + 1),fun σ' H' p'=>⟨xs.length - (i + 1),by lia,rfl,hlt,p'⟩,fun x H' y=> ?_⟩
  obtain ⟨e,y⟩:=y
  subst e;exact hs i x σ _ (y xs q) p
 ·have e:i=xs.length:=by lia
  subst e;exact .inl ⟨⟨xs,q,Nat.le_refl _⟩,hd σ H p⟩
theorem ZgB {lo:Int}{n:Nat}{g:TG}{tb:TS}{D:Ends}{σ:St}{H:Hp}(Pv:Nat->St->Hp->Prop)(h0:Pv 0 σ H)
  (hs: ∀ i σ H,i < n->Pv i σ H->g (.int (lo + i)) σ H fun σ2 H2=>tb { D with nx:=Pv (i + 1),ct:=Pv (i + 1),bk:=D.nx } σ2 H2) (hd: ∀ σ H,Pv n σ H->D.nx σ H):
  ∃ W:Nat->Nat->St->Hp->Prop,(∃ m,W 0 m σ H)/\ ∀ i m σ H,W i m σ H->
   ((Itr lo n).stop i H/\D.nx σ H)\/((Itr lo n).go i H/\ ∃ N:St->Hp->Prop,(∀ σ' H',N σ' H'-> ∃ m',m' < m/\W (i + 1) m' σ' H')/\ ∀ x H',(Itr lo n).yld i H x H'->g x σ H' fun σ2 H2=>tb { D with nx:=N,ct:=N,bk:=D.nx } σ2 H2):=by
 refine ⟨fun i m σ H=>m=n - i/\i<=n/\Pv i σ H,⟨n,by simp,Nat.zero_le _,h0⟩,?_⟩
 rintro i m σ H ⟨rfl,hi,p⟩
 by_cases hlt:i < n
 ·refine .inr ⟨hlt,Pv (i + 1),fun σ' H' p'=>⟨n - (i + 1),by lia,rfl,hlt,p'⟩,fun x H' y=> ?_⟩
  obtain ⟨e,y⟩:=y
  subst e y;exact hs i σ _ hlt p
 ·have e:i=n:=by lia
  subst e;exact .inl ⟨Nat.le_refl _,hd σ H p⟩
abbrev R2:=V->V->Hp->VK->Prop
def OpR (X:Cx)(f:Value->Value->Sem Value)(r:R2):Prop:=
 ∀ (pins:Pn) (s:Shared) (σ:St) (H:Hp) (x y:V) (v u:Value) (Q:VK),Inv X pins σ H s->ZM x v->ZM y u->r x y H Q->
  wpAny (model X.prog X.w) X.A (f v u) (EP X pins σ Q) X.xe s
def UnR (X:Cx)(f:Value->Sem Value)(r:V->Hp->VK->Prop):Prop:=
 ∀ (pins:Pn) (s:Shared) (σ:St) (H:Hp) (x:V) (v:Value) (Q:VK),Inv X pins σ H s->ZM x v->r x H Q->
  wpAny (model X.prog X.w) X.A (f v) (EP X pins σ Q) X.xe s
def ZbP (X:Cx)(f:Value)(r:List V->Hp->VK->Prop):Prop:=
 ∀ (pins:Pn) (s:Shared) (σ:St) (H:Hp) (xs:List V) (us:List Value) (Q:VK),Inv X pins σ H s->ZO xs us->r xs H Q->
  wpAny (model X.prog X.w) X.A (call f us) (EP X pins σ Q) X.xe s
noncomputable def tOp (r:R2)(ta tb:TE):TE:=fun σ H Q=>ta σ H fun x H1=>tb σ H1 fun y H2=>r x y H2 Q
noncomputable def tUn (r:V->Hp->VK->Prop)(ta:TE):TE:=fun σ H Q=>ta σ H fun x H1=>r x H1 Q
noncomputable def rI (C:Int->Int->Prop)(g:Int->Int->V):R2:=fun x y H Q=> ∃ i j,x= .int i/\y= .int j/\C i j/\Q (g i j) H
noncomputable def rI0 (g:Int->Int->V):R2:=fun x y H Q=> ∃ i j,x= .int i/\y= .int j/\Q (g i j) H
noncomputable def rU (g:Int->V):V->Hp->VK->Prop:=fun x H Q=> ∃ i,x= .int i/\Q (g i) H
section
variable {X:Cx}{a b c:Expr}{ta tb tc:TE}{pos:Pos}
theorem Zqq (ha:PE X a ta)(hb:PE X b tb){pins:Pn}{s:Shared}{σ:St}{H:Hp}{R:V->V->Hp->Prop}(I:Inv X pins σ H s)
  (h:ta σ H fun x H1=>tb σ H1 fun y H2=>R x y H2) {Q:Vp} {f:Value->Value->Sem Value}
  (hf: ∀ v u s2 x y H2,Inv X pins σ H2 s2->ZM x v->ZM y u->R x y H2->wpAny (model X.prog X.w) X.A (f v u) Q X.xe s2):
  wpAny (model X.prog X.w) X.A (eval a X.env) (fun v s₁=>wpAny (model X.prog X.w) X.A (eval b X.env) (fun u s₂=>wpAny (model X.prog X.w) X.A (f v u) Q X.xe s₂) X.xe s₁) X.xe s:=by
 refine thn (ha pins s σ H _ I h) fun v s1 ⟨x,H1,I1,r1,q1⟩=> ?_
 refine thn (hb pins s1 σ H1 _ I1 q1) fun u s2 ⟨y,H2,I2,r2,q2⟩=> ?_
 exact hf v u s2 x y H2 I2 r1 r2 q2
theorem Zqr {op:Operator}{r:R2}(ho:OpR X (binaryOp op) r)(ha:PE X a ta)(hb:PE X b tb):PE X (.BinOp a op b pos) (tOp r ta tb):=by
 intro pins s σ H Q I h;exact wpAny_BinOp (Zqq ha hb I h fun v u s2 x y H2 I2 rx ry q=>ho pins s2 σ H2 x y v u Q I2 rx ry q)
theorem Zm4 {op:UnaryOp}{r:V->Hp->VK->Prop}(ho:UnR X (unaryOp op) r)(ha:PE X a ta):PE X (.UnaryOp op a pos) (tUn r ta):=by
 intro pins s σ H Q I h;exact UnaryOp_ (thn (ha pins s σ H _ I h) fun v s1 ⟨x,H1,I1,r1,q1⟩=>ho pins s1 σ H1 x v Q I1 r1 q1)
theorem opI {f:Value->Value->Sem Value}{C:Int->Int->Prop}{g:Int->Int->Int}
  (rule: ∀ (i j:Int) (t u:Tok) (s:Shared) (Q:Vp) (E:Vp),C i j->Q (.int (g i j) s.toks) { s with toks:=s.toks + 1 }->wpAny (model X.prog X.w) X.A (f (.int i t) (.int j u)) Q E s):
  OpR X f (rI C fun i j=> .int (g i j)):=by
 intro pins s σ H x y v u Q I rx ry h;obtain ⟨i,j,rfl,rfl,hc,q⟩:=h
 obtain ⟨t,rfl⟩:=rx
 obtain ⟨t',rfl⟩:=ry
 exact rule i j t t' s _ _ hc ⟨.int (g i j),H,I.tok _,⟨_,rfl⟩,q⟩
theorem ZsL {f:Value->Value->Sem Value}{g:Int->Int->Int}
  (rule: ∀ (i j:Int) (t u:Tok) (s:Shared) (Q:Vp) (E:Vp),Q (.int (g i j) s.toks) { s with toks:=s.toks + 1 }->wpAny (model X.prog X.w) X.A (f (.int i t) (.int j u)) Q E s):
  OpR X f (rI0 fun i j=> .int (g i j)):=by
 intro pins s σ H x y v u Q I rx ry h;obtain ⟨i,j,rfl,rfl,q⟩:=h
 obtain ⟨t,rfl⟩:=rx
 obtain ⟨t',rfl⟩:=ry
 exact rule i j t t' s _ _ ⟨.int (g i j),H,I.tok _,⟨_,rfl⟩,q⟩
theorem Zqa {f:Value->Value->Sem Value}{g:Int->Int->Bool}
  (rule: ∀ (i j:Int) (t u:Tok) (s:Shared) (Q:Vp) (E:Vp),Q (.bool (g i j)) s->wpAny (model X.prog X.w) X.A (f (.int i t) (.int j u)) Q E s):
  OpR X f (rI0 fun i j=> .bl (g i j)):=by
 intro pins s σ H x y v u Q I rx ry h;obtain ⟨i,j,rfl,rfl,q⟩:=h
 obtain ⟨t,rfl⟩:=rx
 obtain ⟨t',rfl⟩:=ry
 exact rule i j t t' s _ _ ⟨.bl (g i j),H,I,rfl,q⟩
noncomputable def ZsM (i j:Int):Prop:=0<=j/\j<=1000000/\i.natAbs < 2 ^ 64
theorem Zm5:OpR X (binaryOp .Add) (rI0 fun i j=> .int (i + j)):=ZsL fun _ _ _ _ _ _ _ q=>add_int q
theorem Zm6:OpR X (binaryOp .Sub) (rI0 fun i j=> .int (i - j)):=ZsL fun _ _ _ _ _ _ _ q=>sub_int q
theorem ZkX:OpR X (binaryOp .Mod) (rI (fun _ j=>j≠0) fun i j=> .int (i.fmod j)):=opI fun _ _ _ _ _ _ _ hc q=>mod_int' hc q
theorem Zm7:OpR X (binaryOp .Pow) (rI ZsM fun i j=> .int (i ^ j.toNat)):=opI fun _ _ _ _ _ _ _ hc q=>pow_int_small hc.1 hc.2.1 hc.2.2 q
theorem unI {f:Value->Sem Value}{g:Int->Int}
  (rule: ∀ (i:Int) (t:Tok) (s:Shared) (Q:Vp) (E:Vp),Q (.int (g i) s.toks) { s with toks:=s.toks + 1 }->wpAny (model X.prog X.w) X.A (f (.int i t)) Q E s):
  UnR X f (rU fun i=> .int (g i)):=by
 intro pins s σ H x v Q I rx h;obtain ⟨i,rfl,q⟩:=h
 obtain ⟨t,rfl⟩:=rx
 exact rule i t s _ _ ⟨.int (g i),H,I.tok _,⟨_,rfl⟩,q⟩
theorem ZjZ:UnR X (unaryOp .USub) (rU fun i=> .int (-i)):=unI fun _ _ _ _ _ q=>neg_int q
theorem ZkY:OpR X (compareOp .Lt) (rI0 fun i j=> .bl (decide (i < j))):=Zqa fun _ _ _ _ _ _ _ q=>lt_int q
theorem Zm8:OpR X (compareOp .LtE) (rI0 fun i j=> .bl (decide (i<=j))):=Zqa fun _ _ _ _ _ _ _ q=>le_int q
theorem Zb8:OpR X (compareOp .Gt) (rI0 fun i j=> .bl (decide (j < i))):=Zqa fun _ _ _ _ _ _ _ q=>gt_int q
theorem Zqs:OpR X (compareOp .GtE) (rI0 fun i j=> .bl (decide (j<=i))):=Zqa fun _ _ _ _ _ _ _ q=>ge_int q
theorem OpR.or {f:Value->Value->Sem Value}{r r':R2}(h:OpR X f r)(h':OpR X f r'):OpR X f (fun x y H Q=>r x y H Q\/r' x y H Q):=by
 intro pins s σ H x y v u Q I rx ry q
 rcases q with q | q
 ·exact h pins s σ H x y v u Q I rx ry q
 ·exact h' pins s σ H x y v u Q I rx ry q
theorem Zj0 (b:Expr){op:CmpOp}(h:op≠ .In:=by decide)(h2:op≠ .NotIn:=by decide):behindInMarks op b=false:=by
 have e1:(op == CmpOp.In)=false:=by cases op<;>first | rfl | exact absurd rfl h
 have e2:(op == CmpOp.NotIn)=false:=by cases op<;>first | rfl | exact absurd rfl h2
 cases b<;>simp[behindInMarks,e1,e2]
theorem ZkZ {op:CmpOp}{r:R2}(ho:OpR X (compareOp op) r)(ha:PE X a ta)(hb:PE X b tb)(hm:behindInMarks op b=false):PE X (.Compare a [op] [b] pos) (tOp r ta tb):=by
 intro pins s σ H Q I h;exact wpAny_Compare1 (Zqq ha hb I h fun v u s2 x y H2 I2 rx ry q=>ho pins s2 σ H2 x y v u Q I2 rx ry q) hm
noncomputable def Zm9 (t:TE):TT:=fun σ H Q=>t σ H fun x H'=> ∃ k,x= .bl k/\Q k H'
theorem Zk0 {op:CmpOp}{r:R2}(ho:OpR X (compareOp op) r)(ha:PE X a ta)(hb:PE X b tb)(hm:behindInMarks op b=false):PT X (.Compare a [op] [b] pos) (Zm9 (tOp r ta tb)):=by
 intro pins s σ H Q I h;refine wpAny_isTrue_Compare1 (thn (ha pins s σ H _ I h) fun v s1 ⟨x,H1,I1,r1,q1⟩=>thn (hb pins s1 σ H1 _ I1 q1) fun u s2 ⟨y,H2,I2,r2,q2⟩=>
  thn (ho pins s2 σ H2 x y v u _ I2 r1 r2 q2) fun c s3 ⟨z,H3,I3,r3,k,e,q3⟩=> ?_) hm
 subst e;cases r3
 exact wpAny_truthy_bool ⟨H3,I3,q3⟩
theorem Ze6:(sizeLine:Nat) < 2 ^ 63:=by rw[sizeLine_eq];decide
theorem ZfO:OpR X (binaryOp .Add) (fun x y H Q=> ∃ i j,x= .str i/\y= .str j/\i.length + j.length<=sizeLine/\Q (.str (i ++ j)) H):=by
 intro pins s σ H x y v u Q I rx ry h;obtain ⟨i,j,rfl,rfl,hz,q⟩:=h
 obtain ⟨t,rfl⟩:=rx
 obtain ⟨t',rfl⟩:=ry
 exact add_str (fun t' tk=>⟨.str (i ++ j),H,I.tok _,⟨_,rfl⟩,q⟩) hz
theorem Zcj {x:V}{us:List Value}(r:ZO [x] us): ∃ u,us=[u]/\ZM x u:=by
 cases r with
 |cons r1 r2=>cases r2;exact ⟨_,rfl,r1⟩
theorem ZiP {x y:V}{us:List Value}(r:ZO [x,y] us): ∃ u w',us=[u,w']/\ZM x u/\ZM y w':=by
 cases r with
 |cons r1 r2=>
  cases r2 with
  |cons r3 r4=>cases r4;exact ⟨_,_,rfl,r1,r3⟩
theorem ZaM:ZbP X (.builtin "abs") (fun xs H Q=> ∃ i,xs=[.int i]/\Q (.int (if i < 0 then -i else i)) H):=by
 intro pins s σ H xs us Q I r h;obtain ⟨i,rfl,q⟩:=h
 obtain ⟨u,rfl,t,rfl⟩:=Zcj r
 exact call_abs_int fun u tk=>⟨.int (if i < 0 then -i else i),H,I.tok _,⟨_,rfl⟩,q⟩
theorem Zck (hc:X.calm=true):ZbP X (.builtin "max") (fun xs H Q=> ∃ i j,xs=[.int i,.int j]/\Q (.int (if j > i then j else i)) H):=by
 intro pins s σ H xs us Q I r h;obtain ⟨i,j,rfl,q⟩:=h
 obtain ⟨u,w',rfl,⟨t,rfl⟩,⟨t',rfl⟩⟩:=ZiP r
 refine max_two_ints (I.ok.hd hc) fun h' tk k=>⟨_,H,I.kept k,?_,q⟩
 by_cases hj:j > i
 ·rw[if_pos hj,if_pos hj];exact ⟨_,rfl⟩
 ·rw[if_neg hj,if_neg hj];exact ⟨_,rfl⟩
theorem ZgC (hc:X.calm=true):ZbP X (.builtin "min") (fun xs H Q=> ∃ i j,xs=[.int i,.int j]/\Q (.int (if j < i then j else i)) H):=by
 intro pins s σ H xs us Q I r h;obtain ⟨i,j,rfl,q⟩:=h
 obtain ⟨u,w',rfl,⟨t,rfl⟩,⟨t',rfl⟩⟩:=ZiP r
 refine min_two_ints (I.ok.hd hc) fun h' tk k=>⟨_,H,I.kept k,?_,q⟩
 by_cases hj:j < i
 ·rw[if_pos hj,if_pos hj];exact ⟨_,rfl⟩
 ·rw[if_neg hj,if_neg hj];exact ⟨_,rfl⟩
theorem ZaG:ZbP X (.type "int") (fun xs H Q=>(∃ i,xs=[.int i]/\Q (.int i) H)\/ ∃ k,xs=[.bl k]/\Q (.int (if k then 1 else 0)) H):=by
 intro pins s σ H xs us Q I r h
 rcases h with ⟨i,rfl,q⟩ | ⟨k,rfl,q⟩
 ·obtain ⟨u,rfl,t,rfl⟩:=Zcj r
  exact call_int_int ⟨.int i,H,I,⟨_,rfl⟩,q⟩
 ·obtain ⟨u,rfl,r1⟩:=Zcj r
  cases r1
  exact call_int_bool ⟨.int (if k then 1 else 0),H,I.tok _,⟨_,rfl⟩,q⟩
end
section
variable {prog:Program}{w:World}{A:Around}{E:Vp}{s:Shared}{K:Fg}{x dx C f:Addr}{mA:Str->Option Value}{name:Str}{v:Value}
end
section
variable {P:Program}{w:World}{H H':Hp}{h h':Heap}{a C dx:Addr}{fs fs':List (Str × V)}
end
section
variable {X:Cx}{pins:Pn}{σ:St}{H:Hp}{s:Shared}{a C dx:Addr}{fs:List (Str × V)}{f:Str}{v:V}{A:Around}{E:Vp}
end
section
variable {X:Cx}{o e value:Expr}{f:Str}{pos pos' tpos:Pos}{ta tv:TE}
end
section
variable {X:Cx}{pins:Pn}{σ:St}{H:Hp}{s:Shared}{A:Around}{E:Vp}{Q:Vp}{c:Value}{b:Bool}
end
structure Room (k:Nat) (A:Around):Prop where
 hd:100<=k->A.handled=none
 gd:A.guards=some []
 dp:A.depth + 3 * k + 5 < recursionLimit
 un:A.units + 16 * k + 200 < cLine
theorem Room.mono {j k:Nat}{A:Around}(r:Room k A)(h:j<=k):Room j A:=⟨fun z=>r.hd (Nat.le_trans z h),r.gd,by have:=r.dp;lia,by have:=r.un;lia⟩
theorem Room.deeper {k:Nat}{A:Around}(r:Room (k + 1) A)(env:Env):Room k (A.deeper env):=
 ⟨fun z=>r.hd (Nat.le_succ_of_le z),r.gd,by have:=r.dp;show A.depth + 1 + 3 * k + 5 < _;lia,by have:=r.un;show A.units + 3 + 16 * k + 200 < _;lia⟩
theorem Room.depth {k:Nat}{A:Around}(r:Room k A):A.depth < recursionLimit:=by have:=r.dp;lia
theorem Room.units {k:Nat}{A:Around}(r:Room k A):A.units + 64 < cLine:=by have:=r.un;lia
noncomputable def tNil:TA:=fun _ H Q=>Q [] H
noncomputable def Zqt (ta:TE)(tr:TA):TA:=fun σ H Q=>ta σ H fun x H1=>tr σ H1 fun xs H2=>Q (x :: xs) H2
section
variable {X:Cx}{e:Expr}{es:List Expr}{te:TE}{t:TA}{pos:Pos}
theorem Zj1:PA X [] tNil:=fun _ _ _ _ H Q I h=>Calls.spliced_nil ⟨[],H,I,.nil,h⟩
theorem Zex (ha:PE X e te)(hr:PA X es t)(hs:starEach (e :: es) X.env=(false,eval e X.env) :: starEach es X.env:=by rfl):PA X (e :: es) (Zqt te t):=by
 intro pos pins s σ H Q I h;rw[hs];show wpAny _ _ (spliced ((false,eval e X.env) :: backTo pos (starEach es X.env))) _ _ s
 refine Calls.spliced_cons (thn (ha pins s σ H _ I h) fun u s1 ⟨x,H1,I1,r1,q1⟩=> ?_)
 exact thn (hr pos pins s1 σ H1 _ I1 q1) fun us s2 ⟨xs,H2,I2,r2,q2⟩=>⟨x :: xs,H2,I2,.cons r1 r2,q2⟩
def ZtY (t:TA):TE:=fun σ H Q=>t σ H fun xs H1=>xs.length<=sizeLine/\ ∀ p,H1 p=none->Q (.ref p) (upd H1 p (.tup xs))
def ZtZ (t:TA):TE:=fun σ H Q=>t σ H fun xs H1=>xs.length<=sizeLine/\ ∀ p,H1 p=none->Q (.ref p) (upd H1 p (.lst xs))
theorem Zna {x1}(h:PA X es t):PE X (.Tuple es x1 pos) (ZtY t):=by
 intro pins s σ H Q I hq;refine wpAny_Tuple_spliced (thn (h pos pins s σ H _ I hq) fun us s1 ⟨xs,H1,I1,r,z,q⟩=>⟨by rw[<- r.length];exact z,?_⟩)
 have hf:H1 s1.heap.objs.size=none:=I1.hok.fresh (Nat.le_refl _)
 refine ⟨.ref s1.heap.objs.size,upd H1 s1.heap.objs.size (.tup xs),I1.laid (t':=s1.toks) (fun b u e=>Hq _ e) (Nat.le_refl _) ?_,rfl,q _ hf⟩
 exact ⟨z,us,r,⟨_,Heap.get?_push_size _ rfl,rfl,_,rfl⟩⟩
theorem Znb (h:PA X es t):PE X (.List es pos) (ZtZ t):=by
 intro pins s σ H Q I hq;refine wpAny_List_spliced (thn (h pos pins s σ H _ I hq) fun us s1 ⟨xs,H1,I1,r,z,q⟩=>⟨by rw[<- r.length];exact z,?_⟩)
 have hf:H1 s1.heap.objs.size=none:=I1.hok.fresh (Nat.le_refl _)
 refine ⟨.ref s1.heap.objs.size,upd H1 s1.heap.objs.size (.lst xs),I1.laid (t':=s1.toks) (fun b u e=>Hq _ e) (Nat.le_refl _) ?_,rfl,q _ hf⟩
 exact ⟨z,us,0,r,Heap.get?_push_size _ rfl⟩
end
abbrev Sp:=List V->Hp->VK->XK->Prop
abbrev CXT:=List Env->Hp->Shared->XK->Value->Shared->Prop
structure Env0 (P:Program) (w:World) (K:Fg) (mg:Str->Option Value) (base:Heap) (A:Around) (outer:List Env) (s:Shared) (H:Hp):Prop where
 frames:A.frames=some outer
 mod:Mod K mg base
 bs: ∀ b o,base.get? b=some o->s.heap.get? b=some o/\H b=none
 bsz:base.objs.size<=s.heap.objs.size
 funs:s.heap.FunFrames base outer
 frf: ∀ b∈frs outer,H b=none
 hok:HOk P w H s.heap
 bare:AllBare s.gens
 qd:Qd A H
def CE (outer:List Env)(P:Program)(w:World)(H:Hp)(s:Shared)(Q:VK)(u:Value)(s':Shared):Prop:=
 ∃ v H',s'.os=s.os/\AllBare s'.gens/\Un (frs outer) [] H H' s.heap s'.heap/\HOk P w H' s'.heap/\ZM v u/\Q v H'
def CR (CX:CXT)(outer:List Env)(P:Program)(w:World)(H:Hp)(s:Shared)(Q:VK)(E:XK)(r:Result)(s':Shared):Prop:=
 match r with
 | .ok (.ret u)=>CE outer P w H s Q u s'
 | .ok _=>False
 | .error e=>CX outer H s E e s'
structure FnOk (P:Program) (w:World) (K:Fg) (mg:Str->Option Value) (base:Heap) (CX:CXT) (k:Nat) (f:Addr) (fd:FuncData) (ps:List Str) (sp:Sp):Prop where
 len: ∀ vs H Q E,sp vs H Q E->vs.length=ps.length
 run: ∀ (A:Around) (outer:List Env) (s:Shared) (H:Hp) (args:Args) (us:List Value) (vs:List V) (Q:VK) (E:XK),Room k A->Env0 P w K mg base A outer s H->BindsTo s fd args (ps.zip us)->ZO vs us->sp vs H Q E->
  codeAny (model P w) A (.call (.ref f) args) (CR CX outer P w H s Q E) s
section
variable {X:Cx}{pins:Pn}{σ:St}{H:Hp}{s s':Shared}
theorem Inv.env0 (I:Inv X pins σ H s):Env0 X.prog X.w X.K X.mg X.base X.A X.stack s H:=
 ⟨I.ok.frames,I.ok.mod,I.bs,Nat.le_trans I.ok.bsz I.sz,I.stack,I.stkFree,I.hok,I.bare,I.qd⟩
theorem Inv.after {Q:VK}{u:Value}(I:Inv X pins σ H s)(h:CE X.stack X.prog X.w H s Q u s'):EP X pins σ Q u s':=by
 obtain ⟨v,H',os,bare,un,hok,r,q⟩:=h
 obtain ⟨hh,g,d,t,os'⟩:=s'
 obtain rfl:os'=s.os:=os
 exact ⟨v,H',I.call (h':=hh) (g':=g) (d':=d) (t':=t) (ch:=[]) un hok bare (fun b z=>absurd z (by simp)),r,q⟩
end
noncomputable def Zqu (sp:Sp)(dvs:List V)(E:XK)(t:TA):TE:=fun σ H Q=>t σ H fun vs H1=>sp (vs ++ dvs) H1 Q E
noncomputable def Zey (K:Fg)(fd:FuncData)(ps:List Str)(ds:List Value):Prop:=
 ∀ (s:Shared) (us:List Value),K.In s.heap->(us ++ ds).length=ps.length->BindsTo s fd ⟨us,[]⟩ (ps.zip (us ++ ds))
theorem Zey.all {K:Fg}{fd:FuncData}{ps:List Str}(h: ∀ us:List Value,us.length=ps.length->bindArgs fd ⟨us,[]⟩=pure (ps.zip us)):Zey K fd ps []:=fun s us _ hl=>by
 rw[List.append_nil] at hl ⊢;exact .of_eq (h us hl)
def ZgD (CX:CXT)(X:Cx)(E:XK):Prop:= ∀ (pins:Pn) (σ:St) (H:Hp) (s:Shared) (e:Value) (s':Shared),Inv X pins σ H s->CX X.stack H s E e s'->X.xe e s'
section
variable {X:Cx}{CX:CXT}{k:Nat}{f C:Addr}{fd:FuncData}{ps:List Str}{sp:Sp}{dvs:List V}{ds:List Value}{E:XK}{x m:Str}{p pos apos:Pos}{e o:Expr}{es:List Expr}{ta:TE}{t:TA}
theorem Znc {pins:Pn}{σ:St}{H:Hp}{s:Shared}{Q:VK}{us:List Value}{vs:List V}(F:FnOk X.prog X.w X.K X.mg X.base CX k f fd ps sp)(hr:Room k X.A)(hb:Zey X.K fd ps ds)(hd:ZO dvs ds)(hx:ZgD CX X E)
  (I:Inv X pins σ H s) (r:ZO vs us) (h:sp (vs ++ dvs) H Q E):wpAny (model X.prog X.w) X.A (call (.ref f) us) (EP X pins σ Q) X.xe s:=by
 have r2:ZO (vs ++ dvs) (us ++ ds):=r.append hd
 have hl:(us ++ ds).length=ps.length:=by rw[<- r2.length];exact F.len _ _ _ _ h
 refine wpAny_call (codeAny_mono (F.run X.A X.stack s H ⟨us,[]⟩ (us ++ ds) (vs ++ dvs) Q E hr I.env0 (hb s us I.kIn hl) r2 h) fun r s' hq=> ?_)
 cases r with
 |error e=>exact hx pins σ H s e s' I hq
 |ok fl=>
  cases fl with
  |ret u=>exact I.after hq
  |next=>exact False.elim hq
  |brk=>exact False.elim hq
  |cont=>exact False.elim hq
theorem Zk1 (F:FnOk X.prog X.w X.K X.mg X.base CX k f fd ps sp)(hr:Room k X.A)(hg:Gl X x)(hm:X.mg x=some (.ref f))(hk:PySem.W.keepIn X.K (.ref f)=true)(hb:Zey X.K fd ps ds)(hd:ZO dvs ds)(hx:ZgD CX X E)
  (ha:PA X (e :: es) t) (hdb:(x == ("__debug__":Str))=false:=by decide) (he:starEach (e :: es) X.env=(false,eval e X.env) :: starEach es X.env:=by rfl) (hpl:(backTo pos (starEach es X.env)).any (·.1)=false:=by rfl):
  PE X (.Call (.Name x p) (e :: es) [] pos) (Zqu sp dvs E t):=by
 intro pins s σ H Q I h;refine wpAny_Call_Name_kw (Zgx I hg hm ?_ hdb)
 refine PySem.W.callWith_K (h₀:=X.base) I.ok.mod.kin hk (thn (ha pos pins s σ H _ I h) fun us s1 ⟨vs,H1,I1,r,q⟩=>⟨I1.kIn,?_⟩) he hpl
 exact Znc F hr hb hd hx I1 r q
end
section
variable {X:Cx}{CX:CXT}{k:Nat}{f C:Addr}{fd:FuncData}{ps ks:List Str}{sp:Sp}{E:XK}{x m:Str}{p pos apos kpos:Pos}{e o:Expr}{es:List Expr}{kws:List Keyword}{te ta:TE}{t tk:TA}{nm:Option Str}
variable {g:List Value->List Value->List Value}{gV:List V->List V->List V}
end
structure FnScope (N P:List Str) (sc:Scope):Prop where
 kind:sc.kind= .function
 co:sc.isCoroutine=false
 gen:sc.isGenerator=false
 nd:N.Nodup
 pre:N.take P.length=P
 par: ∀ x∈P,sc.names.lookup x=some .local\/sc.names.lookup x=some .cell
 nofree: ∀ y∈sc.names,y.2≠ .free
theorem ZdJ {kindOf:Str->Option NameKind}{x:Str}: ∀ {binds:List (Str × Value)} {m:Str->Option Value},(∀ v,(x,v) ∉ binds)->bindL kindOf binds m x=m x
 | [],_,_=>rfl
 | (n,v) :: r,m,h=>by
  unfold bindL;rw[ZdJ fun w hw=>h w (List.mem_cons_of_mem _ hw)]
  split
  ·have:x≠n:=by rintro rfl;exact h v List.mem_cons_self
   simp[this]
  ·rfl
theorem ZdK {kindOf:Str->Option NameKind}{x:Str}: ∀ {binds:List (Str × Value)} {m:Str->Option Value},(∀ v,(x,v) ∉ binds)->bindC kindOf binds m x=m x
 | [],_,_=>rfl
 | (n,v) :: r,m,h=>by
  unfold bindC;rw[ZdK fun w hw=>h w (List.mem_cons_of_mem _ hw)]
  split
  ·rfl
  ·have:x≠n:=by rintro rfl;exact h v List.mem_cons_self
   simp[this]
theorem ZdL {kindOf:Str->Option NameKind}{x:Str}{v:Value}: ∀ {P:List Str} {vs:List Value} {i:Nat} {m:Str->Option Value},P.Nodup->P[i]?=some x->vs[i]?=some v->kindOf x=some .local->
  bindL kindOf (P.zip vs) m x=some v
 | [],_,_,_,_,h,_,_=>by simp at h
 |_ :: _,[],_,_,_,_,h,_=>by simp at h
 |p :: P,w :: vs,0,m,nd,h1,h2,hk=>by
  simp at h1 h2;subst h1;subst h2
  show bindL kindOf ((p,w) :: P.zip vs) m p=_
  unfold bindL;rw[ZdJ fun v hv=>(List.nodup_cons.mp nd).1 (List.of_mem_zip hv).1,if_pos hk]
  simp
 |p :: P,w :: vs,i + 1,m,nd,h1,h2,hk=>by
  show bindL kindOf ((p,w) :: P.zip vs) m x=_
  unfold bindL;exact ZdL (i:=i) (List.nodup_cons.mp nd).2 (by simpa using h1) (by simpa using h2) hk
theorem ZdM {kindOf:Str->Option NameKind}{x:Str}{v:Value}: ∀ {P:List Str} {vs:List Value} {i:Nat} {m:Str->Option Value},P.Nodup->P[i]?=some x->vs[i]?=some v->kindOf x≠some .local->
  bindC kindOf (P.zip vs) m x=some v
 | [],_,_,_,_,h,_,_=>by simp at h
 |_ :: _,[],_,_,_,_,h,_=>by simp at h
 |p :: P,w :: vs,0,m,nd,h1,h2,hk=>by
  simp at h1 h2;subst h1;subst h2
  show bindC kindOf ((p,w) :: P.zip vs) m p=_
  unfold bindC;rw[ZdK fun v hv=>(List.nodup_cons.mp nd).1 (List.of_mem_zip hv).1,if_neg hk]
  simp
 |p :: P,w :: vs,i + 1,m,nd,h1,h2,hk=>by
  show bindC kindOf ((p,w) :: P.zip vs) m x=_
  unfold bindC;exact ZdM (i:=i) (List.nodup_cons.mp nd).2 (by simpa using h1) (by simpa using h2) hk
noncomputable def start (N:List Str)(vs:List V):St:=vs.map some ++ List.replicate (N.length - vs.length) none
noncomputable def ZiE (CX:CXT)(P:Program)(w:World)(K:Fg)(mg:Str->Option Value)(base:Heap)(N:List Str)(qual:Str)(scope:Scope)(f:Addr)(cd:Value)(A:Around)(outer:List Env)(s:Shared)(H:Hp)(E:XK):Cx where
 prog:=P
 w:=w
 K:=K
 mg:=mg
 base:=base
 A:=A.deeper (envOfC qual scope s.heap.objs.size f cd)
 N:=N
 s₀:=s
 H₀:=H
 env:=envOfC qual scope s.heap.objs.size f cd
 outer:=outer
 stack:=envOfC qual scope s.heap.objs.size f cd :: outer
 ex:=[]
 calm:=A.handled.isNone
 fxs:=none
 fn:=fun _=>true
 pn:=[]
 xe:=fun e s'=>wpAny (model P w) (A.deeper (envOfC qual scope s.heap.objs.size f cd)) (leaving (envOfC qual scope s.heap.objs.size f cd) e) (fun _ s''=>CX outer H s E e s'') (fun e' s''=>CX outer H s E e' s'') s'
theorem Ze7 {sc:Scope}{n:Nat}{x:Str}(h:sc.names.lookup x=some .cell): ∃ c,(cellsFrom n sc.names []).lookup x=some c:=by
 have q:=PySem.W.cellsFrom_some sc.names n [] (.inl h)
 exact Option.isSome_iff_exists.mp q
theorem ZgE {CX:CXT}{P:Program}{w:World}{K:Fg}{mg:Str->Option Value}{base:Heap}{N ps:List Str}{qual:Str}{scope:Scope}{f:Addr}{cd:Value}{A:Around}{outer:List Env}{s s1:Shared}{H:Hp}{E:XK}{us:List Value}{vs:List V}
  (S:FnScope N ps scope) (e0:Env0 P w K mg base A outer s H) (hl:vs.length=ps.length) (r:ZO vs us)
  (x:InCallC s s.heap.objs.size (bindL (envOfC qual scope s.heap.objs.size f cd).kindOf (ps.zip us) fun _=>none) (cellsFrom (s.heap.objs.size + 1) scope.names []) (bindC (envOfC qual scope s.heap.objs.size f cd).kindOf (ps.zip us) fun _=>none) s1):
  Inv (ZiE CX P w K mg base N qual scope f cd A outer s H E) [] (start N vs) H s1:=by
 have hpl:ps.length<=N.length:=by have:=congrArg List.length S.pre;rw[List.length_take] at this;lia
 obtain ⟨h1,tk,rfl,hk⟩:=x.done
 have noA: ∀ b:Addr,b ∉ (ZiE CX P w K mg base N qual scope f cd A outer s H E).ex:=fun b z=>absurd (show b∈([]:List Addr) from z) (by simp)
 refine ⟨⟨e0.mod,S.kind,rfl,rfl,Nat.le_refl _,fun y z c h1 h2=> ?_,fun y hy=> ?_,fun y c _ h=> ?_,fun z=>Option.isNone_iff_eq_none.mp z,Around.frames_deeper e0.frames,.inr ⟨rfl,rfl⟩,fun b z=>absurd z (noA b),e0.bs,e0.bsz,fun b _ _=>noA b,fun b z=>absurd z (noA b),e0.funs,e0.frf⟩,
  rfl,e0.bare,Un.kept hk,⟨_,x.toInCall.ns,fun i y v h1 h2 h3=> ?_⟩,fun y c h=>⟨_,x.cell y c h⟩,e0.hok.fresh (Nat.le_refl _),fun y c h=> ?_,fun p hp=>absurd (show p∈([]:Pn) from hp) (by simp),e0.hok.kept hk,?_,e0.qd,.free rfl⟩
 ·exact name_of_addr x.apart (PySem.mem_of_lookup h1) (PySem.mem_of_lookup h2)
 ·have hy:scope.names.lookup y=some .cell\/scope.names.lookup y=some .free:=hy
  rcases hy with hy | hy
  ·exact Ze7 hy
  ·exact absurd rfl (S.nofree _ (PySem.mem_of_lookup hy))
 ·exact Nat.le_of_lt (x.above y c (PySem.mem_of_lookup h))
 ·have hi:i < vs.length:=by
   unfold start at h2
   by_cases hi:i < vs.length
   ·exact hi
   ·rw[List.getElem?_append_right (by simpa using hi)] at h2
    rw[List.getElem?_replicate] at h2
    split at h2<;>cases h2
  have ha:vs[i]?=some v:=by
   unfold start at h2;rw[List.getElem?_append_left (by simpa using hi),List.getElem?_map] at h2
   cases e:vs[i]? with
   |none=>rw[e] at h2;cases h2
   |some a=>rw[e] at h2;cases h2;rfl
  obtain ⟨u,hu,rv⟩:=r.get ha
  have hp:ps[i]?=some y:=by
   rw[<- S.pre,List.getElem?_take_of_lt (by lia)];exact h1
  have ndP:ps.Nodup:=by rw[<- S.pre];exact S.nd.sublist (List.take_sublist _ _)
  refine ⟨u,rv,?_⟩
  rcases S.par y (List.mem_of_getElem? hp) with k | k
  ·exact .inl ⟨k,ZdL ndP hp hu k⟩
  ·obtain ⟨c,e⟩:=Ze7 (n:=s.heap.objs.size + 1) k
   refine .inr ⟨.inl k,c,e,?_⟩
   have q:=x.cell y c e
   rw[ZdM ndP hp hu (by show scope.names.lookup y≠_;rw[k];decide)] at q
   exact q
 ·exact e0.hok.fresh (Nat.le_of_lt (x.above y c (PySem.mem_of_lookup h)))
 ·unfold start
  show _=N.length
  rw[List.length_append,List.length_map,List.length_replicate];lia
theorem Zqv {CX:CXT}{P:Program}{w:World}{K:Fg}{mg:Str->Option Value}{base:Heap}{k:Nat}{f:Addr}{name qual:Str}{params:Arguments}{body:List Stmt}{scope:Scope}{dV kV doc pm cdv ct oc:Value}{an od:Option Addr}
  {osl:Array (Option Value)} {N ps:List Str} {sp:Sp} (lk:K.lookup f=some ⟨oc,od,.func (PySem.W.fnOf name qual params body scope dV kV doc pm an cdv ct),osl⟩) (hcd:PySem.W.codeIn K cdv qual=true) (S:FnScope N ps scope)
  (len: ∀ vs H Q E,sp vs H Q E->vs.length=ps.length)
  (hbody: ∀ (A:Around) (outer:List Env) (s:Shared) (H:Hp) (vs:List V) (Q:VK) (E:XK),Room k (A.deeper (envOfC qual scope s.heap.objs.size f cdv))->sp vs H Q E->
   ∃ t,PSs (ZiE CX P w K mg base N qual scope f cdv A outer s H E) body t/\t { nx:=fun _ H'=>Q .non H',rt:=Q } (start N vs) H):
  FnOk P w K mg base CX (k + 1) f (PySem.W.fnOf name qual params body scope dV kV doc pm an cdv ct) ps sp:=by
 refine ⟨len,fun A outer s H args us vs Q E hr e0 hb r hsp=> ?_⟩
 have hl:=len _ _ _ _ hsp
 have KX:K.In s.heap:=e0.mod.kin.keeps fun b o e=>(e0.bs b o e).1
 have lim:s.heap.NoLimit:=e0.mod.nolimit.keeps fun b o e=>(e0.bs b o e).1
 have hkind: ∀ y∈ps.zip us,scope.names.lookup y.1=some .local\/(scope.names.lookup y.1=some .cell/\((cellsFrom (s.heap.objs.size + 1) scope.names []).lookup y.1).isSome=true):=fun ⟨n,v⟩ hy=>by
  rcases S.par n (List.of_mem_zip hy).1 with q | q
  ·exact .inl q
  ·exact .inr ⟨q,PySem.W.cellsFrom_some _ _ _ (.inl q)⟩
 refine codeAny_call_function hr.depth (KX _ _ lk) rfl S.co S.gen rfl (PySem.W.codeRec_of KX hcd) (hb _ _ _ _ ?_)
 refine wpAny_newFunctionEnv_cells S.kind hkind fun env he s1 x=> ?_
 subst he;refine ⟨lim.keeps x.toInCall.keep,codeAny_func ?_⟩
 obtain ⟨t,ht,hq⟩:=hbody A outer s H vs Q E (hr.deeper _) hsp
 have I:Inv (ZiE CX P w K mg base N qual scope f cdv A outer s H E) [] (start N vs) H s1:=ZgE S e0 hl r x
 refine wpAny_mono (ht [] s1 (start N vs) H _ I hq) (fun fl s' hs=> ?_) fun e s' hs=>hs
 have fin: ∀ {σ':St} {H':Hp} {v:V} {u:Value},Inv (ZiE CX P w K mg base N qual scope f cdv A outer s H E) [] σ' H' s'->ZM v u->Q v H'->CE outer P w H s Q u s':=
  fun {σ' H' v u} J rv q=>⟨v,H',J.os,J.bare,J.base,J.hok,rv,q⟩
 cases fl with
 |ret u=>
  obtain ⟨v,σ',H',J,rv,q⟩:=hs
  exact fin J rv q
 |next=>
  obtain ⟨σ',H',J,q⟩:=hs
  exact fin (v:=V.non) (u:=Value.none) J rfl q
 |brk=>
  obtain ⟨_,_,_,q⟩:=hs
  exact False.elim q
 |cont=>
  obtain ⟨_,_,_,q⟩:=hs
  exact False.elim q
section
variable {X:Cx}{x:Str}{p pos:Pos}{e:Expr}{es:List Expr}{t:TA}{id T:String}{r:List V->Hp->VK->Prop}
noncomputable def tCB (r:List V->Hp->VK->Prop)(t:TA):TE:=fun σ H Q=>t σ H fun vs H1=>r vs H1 Q
theorem Ze8 (hc:ZbP X (.builtin id) r)(hg:Gl X x)(hm:X.mg x=none)(hv:bootBuiltins x=some (.builtin id))(ha:PA X (e :: es) t)(hn:x≠"__name__":=by decide)(hdb:(x == ("__debug__":Str))=false:=by decide)
  (he:starEach (e :: es) X.env=(false,eval e X.env) :: starEach es X.env:=by rfl) (hpl:(backTo pos (starEach es X.env)).any (·.1)=false:=by rfl):PE X (.Call (.Name x p) (e :: es) [] pos) (tCB r t):=by
 intro pins s σ H Q I h;refine wpAny_Call_Name_kw (Za1 I hg hm hv ?_ hn hdb)
 exact PyProof.Rows.callWith_builtin1 (thn (ha pos pins s σ H _ I h) fun us s1 ⟨vs,H1,I1,r1,q1⟩=>hc pins s1 σ H1 vs us Q I1 r1 q1) he hpl
theorem ZgF (hc:ZbP X (.type T) r)(hg:Gl X x)(hm:X.mg x=none)(hv:bootBuiltins x=some (.type T))(ha:PA X (e :: es) t)(hn:x≠"__name__":=by decide)(hdb:(x == ("__debug__":Str))=false:=by decide)
  (he:starEach (e :: es) X.env=(false,eval e X.env) :: starEach es X.env:=by rfl) (hpl:(backTo pos (starEach es X.env)).any (·.1)=false:=by rfl):PE X (.Call (.Name x p) (e :: es) [] pos) (tCB r t):=by
 intro pins s σ H Q I h;refine wpAny_Call_Name_kw (Za1 I hg hm hv ?_ hn hdb)
 exact PyProof.Rows.callWith_type1 (thn (ha pos pins s σ H _ I h) fun us s1 ⟨vs,H1,I1,r1,q1⟩=>hc pins s1 σ H1 vs us Q I1 r1 q1) he hpl
end
end L2
namespace HT
open PyProof.Rows
noncomputable def Z1:List Int->List Int->Bool
 | [],[]=>false
 | [],_ :: _=>true
 |_ :: _,[]=>false
 |x :: xs,y :: ys=>if x=y then Z1 xs ys else decide (x < y)
theorem ZW (x y:Int)(xs ys:List Int):Z1 (x :: xs) (y :: ys)=if x=y then Z1 xs ys else decide (x < y):=rfl
theorem Zbw:Z1 [] []=false:=rfl
theorem ZcU (y:Int)(ys:List Int):Z1 [] (y :: ys)=true:=rfl
theorem ZcV (x:Int)(xs:List Int):Z1 (x :: xs) []=false:=rfl
theorem Ze9 (A:Around)(s:Shared)(a:Int)(t:Tok)(c:Int)(u:Tok): ∃ e,SeqAt.EqAt A s (.int a t) (.int c u) e/\(e=true ↔ a=c):=
 ⟨(a == c),SeqAt.EqAt.int_int a t c u,by simp⟩
theorem Zfa (A:Around)(s:Shared)(a:Int)(t:Tok)(c:Int)(u:Tok)(prog:Program)(w:World)(E:Vp)(Q:Vp)(h:Q (.bool (decide (a < c))) s):
  wpAny (model prog w) A (richCompare .Lt (.int a t) (.int c u)) Q E s:=
 (PyProof.Rows.lt_int h:wpAny (model prog w) A (compareOp .Lt (.int a t) (.int c u)) Q E s)
section
open PySem.SeqAt
open PySem.AutoSeq1 (wpAny_loadPart')
open PySem.MeetsSeq PySem.MeetsSeq2 PySem.MeetsSeq3
theorem Zc9 (l b:Addr)(items items2:Array Value)(n n2:Nat)(dd dd2:Option Addr)(sl sl2:Array (Option Value))(ns ms:List Int)(hi:IntsAre items.toList ns)(hj:IntsAre items2.toList ms):
  Meets (Builtin.«tuple.__lt__» ⟨[.ref l,.ref b],[]⟩)
   (fun _ R s=>s.heap.get? l=some { cls:= .type "tuple",dict:=dd,data:= .seq items n,slots:=sl }/\s.heap.get? b=some { cls:= .type "tuple",dict:=dd2,data:= .seq items2 n2,slots:=sl2 }/\
    R (.ok (.ret (.bool (Z1 ns ms)))) s):=
 .of_wp fun prog w A R s h=>by
  obtain ⟨hp,g,d,tk,os⟩:=s;obtain ⟨hl,hb,h⟩:=h
  have f2:=AutoSeq1.sub_tuple_tuple
  have z1:items.size=ns.length:=by rw[<- hi.length];simp
  have z2:items2.size=ms.length:=by rw[<- hj.length];simp
  wp_walk using wpAny_loadPart' hl,wpAny_loadPart' hb,wpAny_forIn_list _ (fun rest b s'=>b.1=none/\s'=⟨hp,g,d,tk,os⟩/\ ∃ (vs ws:List Value) (ns' ms':List Int),rest=vs.zip ws/\
   IntsAre vs ns'/\IntsAre ws ms'/\ns'.length + items2.size=ms'.length + items.size/\R (.ok (.ret (.bool (Z1 ns' ms')))) ⟨hp,g,d,tk,os⟩) _
  case turn=>
   rintro ⟨y,x⟩ rest b s' ⟨hb',rfl,vs,ws,ns',ms',hz,hvi,hwi,hlen,hR⟩
   cases hvi with
   |nil=>rw[List.zip_nil_left] at hz;cases hz
   |cons a t hvi'=>
    cases hwi with
    |nil=>rw[List.zip_nil_right] at hz;cases hz
    |cons c u hwi'=>
     rw[List.zip_cons_cons] at hz
     injection hz with hyx hrest
     injection hyx with hy hx
     subst hy hx;rw[ZW] at hR;simp only[List.length_cons] at hlen;obtain ⟨e,he,hiff⟩:=Ze9 A.in1 ⟨hp,g,d,tk,os⟩ a t c u
     refine Wb (he prog w _ _ ?_)
     cases e with
     |true=>
      rw[if_pos (hiff.mp rfl)] at hR
      wp_walk
      exact ⟨rfl,rfl,_,_,_,_,hrest,hvi',hwi',by lia,hR⟩
     |false=>
      rw[if_neg (fun q=>absurd (hiff.mpr q) Bool.false_ne_true)] at hR
      have hri:=Zfa A.in1 ⟨hp,g,d,tk,os⟩ a t c u prog w
      wp_walk using hri
      exact ⟨_,rfl,by simpa using hR⟩
  case fin=>
   rintro ⟨b1,b2⟩ s' ⟨hb',rfl,vs,ws,ns',ms',hz,hvi,hwi,hlen,hR⟩
   simp only at hb'
   subst hb';have hv:Z1 ns' ms'=decide (items.size < items2.size):=by
    cases hvi with
    |nil=>
     cases hwi with
     |nil=>
      simp only[List.length_nil] at hlen;rw[Zbw];exact (decide_eq_false (by lia)).symm
     |cons c u hw=>
      simp only[List.length_nil,List.length_cons] at hlen;rw[ZcU];exact (decide_eq_true (by lia)).symm
    |cons a t hv=>
     cases hwi with
     |nil=>
      simp only[List.length_nil,List.length_cons] at hlen;rw[ZcV];exact (decide_eq_false (by lia)).symm
     |cons c u hw=>
      rw[List.zip_cons_cons] at hz;cases hz
   rw[hv] at hR
   wp_walk
   exact ⟨_,rfl,by simpa [Builtin.Tuple.tupleCompareSizes] using hR⟩
  case h=>
   exact ⟨rfl,rfl,items.toList,items2.toList,ns,ms,rfl,hi,hj,by lia,h⟩
end
section
variable {prog:Program}{w:World}{A:Around}{E:Vp}{s:Shared}
theorem ZfP {l b:Addr}{items items2:Array Value}{ns ms:List Int}{Q:Vp}(hl:IsTup s.heap l items)(hb:IsTup s.heap b items2)(hi:IntsAre items.toList ns)(hj:IntsAre items2.toList ms)
  (hu:A.units < cLine) (h:Q (.bool (Z1 ns ms)) s):wpAny (model prog w) A (compareOp .Lt (.ref l) (.ref b)) Q E s:=by
 obtain ⟨⟨cls,dd,data,sl⟩,ho,hc,n,hd⟩:=id hl
 obtain ⟨⟨cls2,dd2,data2,sl2⟩,ho2,hc2,n2,hd2⟩:=id hb
 simp only at hc hd hc2 hd2
 subst hc hd hc2 hd2;exact richCompare_meets_room (op:= .Lt) ⟨_,ho,rfl⟩ ⟨_,ho2,rfl⟩ PySem.F.slot_tuple_lt PySem.F.entry_tuple_lt (PySem.F.args_tuple_lt_2 _ _) (Zc9 l b items items2 n n2 dd dd2 sl sl2 ns ms hi hj)
  ⟨ho,ho2,show Value.bool (Z1 ns ms)≠Value.notImplemented/\Q (.bool (Z1 ns ms)) s from ⟨(fun x=>nomatch x),h⟩⟩ hu
theorem Zk2 {t b:Addr}{vs ws:List Value}{Q:Vp}(ht:IsTup s.heap t vs.toArray)(hb:IsTup s.heap b ws.toArray)(hv:vs≠[])
  (h1:ws=[]->Q (.ref t) s) (h2:ws≠[]->Q (.ref s.heap.objs.size) { s with heap:=s.heap.push { cls:= .type "tuple",data:= .seq (vs ++ ws).toArray } })
  (hsz:vs.length + ws.length<=sizeLine):wpAny (model prog w) A (binaryOp .Add (.ref t) (.ref b)) Q E s:=by
 obtain ⟨⟨cls,dd,data,sl⟩,ho,hc,n,hd⟩:=id ht
 obtain ⟨⟨cls2,dd2,data2,sl2⟩,ho2,hc2,n2,hd2⟩:=id hb
 simp only at hc hd hc2 hd2
 subst hc hd hc2 hd2;have e:vs.toArray ++ ws.toArray=(vs ++ ws).toArray:=by simp
 by_cases hw:ws=[]
 ·exact concat_meets ⟨_,ho,rfl⟩ ⟨_,ho2,rfl⟩ noFill_tuple_add seq_tuple_add PySem.F.slot_tuple_add PySem.F.entry_tuple_add (PySem.F.args_tuple_add_2 _ _)
   (tuple_addW1 t b vs.toArray ws.toArray n n2 dd dd2 sl sl2 (by simpa using hv) (by simp[hw])) ⟨ho,ho2,h1 hw⟩
 ·refine concat_meets ⟨_,ho,rfl⟩ ⟨_,ho2,rfl⟩ noFill_tuple_add seq_tuple_add PySem.F.slot_tuple_add PySem.F.entry_tuple_add (PySem.F.args_tuple_add_2 _ _)
   (tuple_addW2 t b vs.toArray ws.toArray n n2 dd dd2 sl sl2 (by simpa using hv) (by simpa using hw) (by rw[List.size_toArray,List.size_toArray];exact hsz)) ⟨ho,ho2,?_⟩
  rw[e];exact h2 hw
noncomputable def sIx (n d:Nat):Option Int->Nat
 |none=>d
 |some v=>if v < 0 then (v + (n:Int)).toNat else min v.toNat n
theorem Znd (n d:Nat)(hd:d<=n)(o:Option Int):sIx n d o<=n:=by
 cases o with
 |none=>exact hd
 |some v=>
  show (if v < 0 then (v + (n:Int)).toNat else min v.toNat n)<=n
  by_cases hv:v < 0
  ·rw[if_pos hv];lia
  ·rw[if_neg hv];exact Nat.min_le_right _ _
theorem ZgG (v:Int)(n d:Nat):(if v < 0 then max (v + (n:Int)) 0 else min v (n:Int))=((sIx n d (some v):Nat):Int):=by
 show (if v < 0 then max (v + (n:Int)) 0 else min v (n:Int))=(((if v < 0 then (v + (n:Int)).toNat else min v.toNat n):Nat):Int)
 by_cases hv:v < 0
 ·simp only[if_pos hv];lia
 ·simp only[if_neg hv];lia
theorem ZfQ (lo hi:Option Int)(n:Nat):Builtin.Slice.sliceAdjust lo hi 1 (n:Int)=(((sIx n 0 lo:Nat):Int),((sIx n n hi:Nat):Int)):=by
 have h1: ¬ ((1:Int) < 0):=by lia
 unfold Builtin.Slice.sliceAdjust;simp only[h1,if_false];refine Prod.ext ?_ ?_
 ·cases lo with
  |none=>rfl
  |some v=>exact ZgG v n 0
 ·cases hi with
  |none=>rfl
  |some v=>exact ZgG v n n
theorem ZfR (i j:Nat):Builtin.Slice.slicePlaces (i:Int) (j:Int) 1=j - i:=by
 unfold Builtin.Slice.slicePlaces;have h1:(1:Int) > 0:=by lia
 simp only[h1,if_true,Int.ediv_one]
 split<;>lia
theorem ZcZ {v:Value}{o:Option Int}{Q:Option Int->Shared->Prop}(p:IsPart v o)(h:Q o s):wpAny (model prog w) A (Builtin.Slice.slicePartIndex v) Q E s:=by
 cases p with
 |none=>exact slicePart_none h
 |int i t=>exact slicePart_int h
theorem Zb9 {sl:Addr}{vl vu:Value}{lo hi:Option Int}{n:Nat}{Q:Int × Int × Nat->Shared->Prop}(hs:s.heap.IsSliceOf sl vl vu .none)(pl:IsPart vl lo)(pu:IsPart vu hi)
  (h:Q (((sIx n 0 lo:Nat):Int),1,sIx n n hi - sIx n 0 lo) s):wpAny (model prog w) A (Builtin.Slice.sliceApplied (.ref sl) (pure (n:Int))) Q E s:=by
 obtain ⟨os,hos,hcs,hds⟩:=id hs
 unfold Builtin.Slice.sliceApplied Builtin.Slice.sliceFields;refine Wb (Wb (wpAny_field hos hds (x:=vl) rfl (Wb (wpAny_field hos hds (x:=vu) rfl (Wb (wpAny_field hos hds (x:= .none) rfl (Wp ?_)))))))
 refine Wb (slicePart_none ?_)
 show wpAny _ _ (if ((1:Int) == 0)=true then _ else _) _ _ s
 rw[if_neg (by decide)]
 refine Wb (ZcZ pl (Wb (ZcZ pu (Wb (Wp ?_)))))
 show wpAny _ _ (match Builtin.Slice.sliceAdjust lo hi 1 (n:Int) with | (lo,hi)=>pure (lo,(1:Int),Builtin.Slice.slicePlaces lo hi 1)) _ _ s
 rw[ZfQ lo hi n];show wpAny _ _ (pure (((sIx n 0 lo:Nat):Int),(1:Int),Builtin.Slice.slicePlaces ((sIx n 0 lo:Nat):Int) ((sIx n n hi:Nat):Int) 1)) _ _ s
 rw[ZfR];exact Wp h
theorem ZiQ (xs:Array Value)(i k:Nat):((List.range k).filterMap fun (m:Nat)=>xs[((i:Int) + (m:Int) * 1).toNat]?).toArray=((xs.toList.drop i).take k).toArray:=by
 have e:(fun (m:Nat)=>xs[((i:Int) + (m:Int) * 1).toNat]?)=fun m=>xs[i + m]?:=by
  funext m
  have:((i:Int) + (m:Int) * 1).toNat=i + m:=by lia
  rw[this]
 rw[e]
 have:=pick_run xs i k
 rw[List.filterMap_map] at this;have e2:((fun x=>xs[x]?) ∘ fun x=>i + x)=fun m=>xs[i + m]?:=rfl
 rw[e2] at this;rw[this]
theorem ZbQ {t sl:Addr}{items:Array Value}{vl vu:Value}{lo hi:Option Int}{Q:Vp}(ht:IsTup s.heap t items)(hs:s.heap.IsSliceOf sl vl vu .none)(pl:IsPart vl lo)(pu:IsPart vu hi)
  (hw: ¬ (sIx items.size 0 lo=0/\sIx items.size items.size hi=items.size))
  (h:Q (.ref s.heap.objs.size) { s with heap:=s.heap.push { cls:= .type "tuple",data:= .seq ((items.toList.drop (sIx items.size 0 lo)).take (sIx items.size items.size hi - sIx items.size 0 lo)).toArray } })
  (hsz:items.size<=sizeLine):wpAny (model prog w) A (getItem (.ref t) (.ref sl)) Q E s:=by
 have htake:sizeOk (.seq ((items.toList.drop (sIx items.size 0 lo)).take (sIx items.size items.size hi - sIx items.size 0 lo)).toArray):=by
  show ((items.toList.drop (sIx items.size 0 lo)).take (sIx items.size items.size hi - sIx items.size 0 lo)).toArray.size<=sizeLine
  rw[List.size_toArray,List.length_take,List.length_drop,Array.length_toList];lia
 have hj:sIx items.size items.size hi<=items.size:=Znd _ _ (Nat.le_refl _) hi
 obtain ⟨os,hos,hcs,hds⟩:=id hs
 have hTs:s.TypeIs (.ref sl) "slice":=⟨os,hos,hcs⟩
 unfold getItem
 try with_reducible refine wpAny_holding ?_
 first | refine Wb (Wp ?_) | skip
 refine Wb (wpAny_sequenceKey ht.typeIs (by decide) ?_)
 refine Wb (wpAny_callSpecial?_slot (name:=Str.ofString "__getitem__") ht.typeIs PyProof.Rows.slot_tuple_getitem
  (wpAny_call_entry PyProof.Rows.slot_tuple_getitem ht.typeIs entry_tuple_getitem ?_ (args_tuple_getitem _ _)))
 show wpAny _ _ (Builtin.Tuple.tupleItemsOf (.ref t) >>= _) _ _ s
 refine Wb (tupleItemsOf_ ht ?_)
 refine Wb (wpAny_typeOf hTs ?_)
 rw[if_pos (by decide)]
 refine Wb (Zb9 hs pl pu ?_)
 have hno: ¬ ((((sIx items.size 0 lo:Nat):Int) == 0 && (1:Int) == 1 && (sIx items.size items.size hi - sIx items.size 0 lo) == items.size)=true):=by
  intro q;rw[Bool.and_eq_true,Bool.and_eq_true] at q;have q1:((sIx items.size 0 lo:Nat):Int)=0:=eq_of_beq q.1.1
  have q2:sIx items.size items.size hi - sIx items.size 0 lo=items.size:=eq_of_beq q.2
  exact hw ⟨by lia,by lia⟩
 show wpAny _ _ (if (((sIx items.size 0 lo:Nat):Int) == 0 && (1:Int) == 1 && (sIx items.size items.size hi - sIx items.size 0 lo) == items.size)=true then _ else _) _ _ s
 rw[if_neg hno,ZiQ]
 first
  |exact Wb (m:=Builtin.Tuple.tupleExact _) (wpAny_newObj_type (Wp ⟨_,rfl,Wp h⟩) htake)
  |exact Wb (m:=Builtin.Tuple.tupleExact _) (wpAny_newObj_type (Wb (Wp (Wp ⟨_,rfl,Wp h⟩))) htake)
  |exact Wb (Wb (m:=Builtin.Tuple.tupleExact _) (wpAny_newObj_type (Wp (Wp ⟨_,rfl,Wp h⟩)) htake))
  |exact Wb (Wb (m:=Builtin.Tuple.tupleExact _) (wpAny_newObj_type (Wp ⟨_,rfl,Wp h⟩) htake))
end
end HT
namespace L2
open PyProof.Rows
abbrev TO:=St->Hp->(Option Int->Hp->Prop)->Prop
def PO (X:Cx)(e:Option Expr)(t:TO):Prop:=
 ∀ (pins:Pn) (s:Shared) (σ:St) (H:Hp) (Q:Option Int->Hp->Prop),Inv X pins σ H s->t σ H Q->
  wpAny (model X.prog X.w) X.A (evalPart e X.env) (fun u s'=> ∃ o H',Inv X pins σ H' s'/\IsPart u o/\Q o H') X.xe s
noncomputable def tNoPart:TO:=fun _ H Q=>Q none H
noncomputable def Zqw (t:TE):TO:=fun σ H Q=>t σ H fun x H1=> ∃ i,x= .int i/\Q (some i) H1
theorem ZbR {ns:List Int}: ∀ {us:List Value},ZO (ns.map V.int) us->IntsAre us ns:=by
 induction ns with
 |nil=>intro us r;rw[List.map_nil] at r;cases r;exact .nil
 |cons n ns ih=>
  intro us r;rw[List.map_cons] at r;cases r with
  |cons r1 r2=>
   obtain ⟨t,e⟩:=r1
   subst e;exact .cons n t (ih r2)
section
variable {X:Cx}{e:Expr}{te:TE}{lo hi:Option Expr}{tl th:TO}{pos p2:Pos}
theorem Zk3:PO X none tNoPart:=by
 intro pins s σ H Q I h;rw[evalPart_none];exact Wp ⟨none,H,I,.none,h⟩
theorem Zk4 (h:PE X e te):PO X (some e) (Zqw te):=by
 intro pins s σ H Q I hw;rw[evalPart_some];refine thn (h pins s σ H _ I hw) fun u s1 ⟨x,H1,I1,r1,q1⟩=> ?_
 obtain ⟨i,rfl,q⟩:=q1
 obtain ⟨t,rfl⟩:=r1
 exact ⟨some i,H1,I1,.int i t,q⟩
def SlR (X:Cx)(r:V->Option Int->Option Int->Hp->VK->Prop):Prop:=
 ∀ (pins:Pn) (s:Shared) (σ:St) (H:Hp) (x:V) (v vl vu:Value) (lo hi:Option Int) (sl:Addr) (Q:VK),Inv X pins σ H s->ZM x v->s.heap.IsSliceOf sl vl vu .none->IsPart vl lo->IsPart vu hi->r x lo hi H Q->
  ∃ T id,typeLookup (.type T) "__getitem__"=pure (some (.builtin id))/\s.TypeIs v T/\wpAny (model X.prog X.w) X.A (getItem v (.ref sl)) (EP X pins σ Q) X.xe s
theorem SlR.or {r r':V->Option Int->Option Int->Hp->VK->Prop}(h:SlR X r)(h':SlR X r'):SlR X (fun x lo hi H Q=>r x lo hi H Q\/r' x lo hi H Q):=by
 intro pins s σ H x v vl vu lo hi sl Q I rx hs pl pu q
 rcases q with q | q
 ·exact h pins s σ H x v vl vu lo hi sl Q I rx hs pl pu q
 ·exact h' pins s σ H x v vl vu lo hi sl Q I rx hs pl pu q
noncomputable def tSl (r:V->Option Int->Option Int->Hp->VK->Prop)(te:TE)(tl th:TO):TE:=fun σ H Q=>te σ H fun x H1=>tl σ H1 fun l H2=>th σ H2 fun u H3=>r x l u H3 Q
theorem ZiR {r:V->Option Int->Option Int->Hp->VK->Prop}(hr:SlR X r)(he:PE X e te)(hl:PO X lo tl)(hu:PO X hi th):PE X (.Subscript e (.Slice lo hi none p2) pos) (tSl r te tl th):=by
 intro pins s σ H Q I h;refine Subscript_ (thn (he pins s σ H _ I h) fun v s1 ⟨x,H1,I1,r1,q1⟩=> ?_)
 refine wpAny_Slice (thn (hl pins s1 σ H1 _ I1 q1) fun vl s2 ⟨l,H2,I2,pl,q2⟩=>thn (hu pins s2 σ H2 _ I2 q2) fun vu s3 ⟨u,H3,I3,pu,q3⟩=> ?_)
 rw[evalPart_none];refine Wp ?_
 have I4:Inv X pins σ H3 { s3 with heap:=s3.heap.push { cls:= .type "slice",data:= .fields #[vl,vu,.none] } }:=I3.kept (t':=s3.toks) fun b ob q=>Hq _ q
 obtain ⟨T,id,hT,ht,hg⟩:=hr pins { s3 with heap:=s3.heap.push { cls:= .type "slice",data:= .fields #[vl,vu,.none] } } σ H3 x v vl vu l u s3.heap.objs.size Q I4 r1 (Heap.IsSliceOf.new ..) pl pu q3
 show wpAny (model X.prog X.w) X.A (subscriptTail e (.Slice lo hi none p2) v (.ref s3.heap.objs.size)) (EP X pins σ Q) X.xe { s3 with heap:=s3.heap.push { cls:= .type "slice",data:= .fields #[vl,vu,.none] } }
 exact tail_any (ops:=[.ref s3.heap.objs.size,v]) ht hT hg (by with_unfolding_all rfl)
def Zj2 (xs:List V)(lo hi:Option Int):List V:=(xs.drop (HT.sIx xs.length 0 lo)).take (HT.sIx xs.length xs.length hi - HT.sIx xs.length 0 lo)
theorem Zcl (xs:List V)(lo hi:Option Int):(Zj2 xs lo hi).length<=xs.length:=by
 unfold Zj2;rw[List.length_take,List.length_drop];lia
def Zt0 (K:Fg):V->Option Int->Option Int->Hp->VK->Prop:=fun x lo hi H Q=> ∃ a xs,x= .ref a/\SqT K H a xs/\
 ¬ (HT.sIx xs.length 0 lo=0/\HT.sIx xs.length xs.length hi=xs.length)/\ ∀ p,H p=none->Q (.ref p) (upd H p (.tup (Zj2 xs lo hi)))
theorem Zne:SlR X (Zt0 X.K):=by
 intro pins s σ H x v vl vu lo hi sl Q I rx hs pl pu h;obtain ⟨a,xs,rfl,hx,hw,q⟩:=h
 cases rx
 obtain ⟨its,r,ht,hz⟩:=I.tuple hx
 have hlen:its.toArray.size=xs.length:=by rw[List.size_toArray];exact r.length.symm
 refine ⟨"tuple",_,PyProof.Rows.slot_tuple_getitem.lookup,ht.typeIs,?_⟩
 refine HT.ZbQ ht hs pl pu (by rw[hlen];exact hw) ?_ (by rw[hlen];exact hz)
 rw[hlen];refine ⟨.ref s.heap.objs.size,_,I.laid (t':=s.toks) (o:= .tup (Zj2 xs lo hi)) (fun b ob q=>Hq _ q) (Nat.le_refl _) ?_,rfl,q _ (I.hok.fresh (Nat.le_refl _))⟩
 exact ⟨Nat.le_trans (Zcl xs lo hi) hz,_,(r.drop (HT.sIx xs.length 0 lo)).take (HT.sIx xs.length xs.length hi - HT.sIx xs.length 0 lo),IsTup.new _ _⟩
def Zk5 (K:Fg):R2:=fun x y H Q=> ∃ a b xs ys,x= .ref a/\y= .ref b/\SqT K H a xs/\SqT K H b ys/\xs≠[]/\xs.length + ys.length<=sizeLine/\
 (ys=[]->Q (.ref a) H)/\(ys≠[]-> ∀ p,H p=none->Q (.ref p) (upd H p (.tup (xs ++ ys))))
theorem ZO.nil_iff {xs:List V}{us:List Value}(r:ZO xs us):us=[] ↔ xs=[]:=by
 cases r with
 |nil=>simp
 |cons _ _=>simp
theorem Zk6:OpR X (binaryOp .Add) (Zk5 X.K):=by
 intro pins s σ H x y v u Q I rx ry h;obtain ⟨a,b,xs,ys,rfl,rfl,ha,hb,hx,hz,q1,q2⟩:=h
 cases rx
 cases ry
 obtain ⟨its,r1,p1,_⟩:=I.tuple ha
 obtain ⟨its2,r2,p2,_⟩:=I.tuple hb
 refine HT.Zk2 p1 p2 (fun z=>hx (r1.nil_iff.mp z)) (fun z=>⟨.ref a,H,I,rfl,q1 (r2.nil_iff.mp z)⟩) (fun z=> ?_) (by rw[<- r1.length,<- r2.length];exact hz)
 refine ⟨.ref s.heap.objs.size,_,I.laid (t':=s.toks) (o:= .tup (xs ++ ys)) (fun b ob q=>Hq _ q) (Nat.le_refl _) ?_,rfl,q2 (fun w=>z (r2.nil_iff.mpr w)) _ (I.hok.fresh (Nat.le_refl _))⟩
 exact ⟨by rw[List.length_append];exact hz,_,r1.append r2,IsTup.new _ _⟩
end
noncomputable def ixN (n:Nat)(i:Int):Option Nat:=if 0<=i then (if i < n then some i.toNat else none) else if -(n:Int)<=i then some (i + n).toNat else none
def atI {α:Type}(xs:List α)(i:Int):Option α:=(ixN xs.length i).bind fun j=>xs[j]?
theorem ZgH {n:Nat}{i:Int}{j:Nat}(h:ixN n i=some j):seqIndex? i n=some j/\j < n/\ -(n:Int)<=i/\i < n:=by
 unfold ixN at h
 by_cases h0:0<=i
 ·rw[if_pos h0] at h
  by_cases h1:i < n
  ·rw[if_pos h1] at h
   have e:i.toNat=j:=Option.some.inj h
   exact ⟨by rw[seqIndex_of h0 h1,e],by lia,by lia,h1⟩
  ·rw[if_neg h1] at h;cases h
 ·rw[if_neg h0] at h
  by_cases h1: -(n:Int)<=i
  ·rw[if_pos h1] at h
   have e:(i + n).toNat=j:=Option.some.inj h
   exact ⟨by rw[seqIndex_neg (by lia) h1,e],by lia,h1,by lia⟩
  ·rw[if_neg h1] at h;cases h
theorem ZgI {α:Type}{xs:List α}{i:Int}{v:α}(h:atI xs i=some v): ∃ j,seqIndex? i xs.length=some j/\xs[j]?=some v/\j < xs.length/\ -(xs.length:Int)<=i/\i < xs.length:=by
 unfold atI at h;cases e:ixN xs.length i with
 |none=>rw[e] at h;cases h
 |some j=>
  rw[e] at h;obtain ⟨h1,h2,h3,h4⟩:=ZgH e
  exact ⟨j,h1,h,h2,h3,h4⟩
theorem Zk7 {α:Type}{xs:List α}{j:Nat}{v:α}(h:xs[j]?=some v):atI xs (j:Int)=some v:=by
 have hj:j < xs.length:=(List.getElem?_eq_some_iff.mp h).1
 have e:ixN xs.length (j:Int)=some j:=by
  unfold ixN;rw[if_pos (by lia),if_pos (by lia)];simp
 unfold atI;rw[e];exact h
noncomputable def ZgJ (b:Expr):Prop:= ∀ o i,subscripted b false o i=operate [o,i] (getItem o i)
def IxR (X:Cx)(r:R2):Prop:=
 ∀ (value slice:Expr) (pins:Pn) (s:Shared) (σ:St) (H:Hp) (x y:V) (v u:Value) (Q:VK),Inv X pins σ H s->ZM x v->ZM y u->r x y H Q->
  subscripted slice false v u=operate [v,u] (getItem v u)->wpAny (model X.prog X.w) X.A (subscriptTail value slice v u) (EP X pins σ Q) X.xe s
def MtR (X:Cx)(id:String)(r:V->List V->Hp->VK->Prop):Prop:=
 ∀ (pins:Pn) (s:Shared) (σ:St) (H:Hp) (x:V) (xs:List V) (v:Value) (us:List Value) (Q:VK),Inv X pins σ H s->ZM x v->ZO xs us->r x xs H Q->
  wpAny (model X.prog X.w) X.A (call (.builtin id) (v :: us)) (EP X pins σ Q) X.xe s
section
variable {X:Cx}{a b:Expr}{ta tb:TE}{pos:Pos}
theorem IxR.or {r r':R2}(h:IxR X r)(h':IxR X r'):IxR X (fun x y H Q=>r x y H Q\/r' x y H Q):=by
 intro value slice pins s σ H x y v u Q I rx ry q hs
 rcases q with q | q
 ·exact h value slice pins s σ H x y v u Q I rx ry q hs
 ·exact h' value slice pins s σ H x y v u Q I rx ry q hs
theorem Zqx {r:R2}(hr:IxR X r)(ha:PE X a ta)(hb:PE X b tb)(hs:ZgJ b):PE X (.Subscript a b pos) (tOp r ta tb):=by
 intro pins s σ H Q I h;exact Subscript_ (Zqq ha hb I h fun v u s2 x y H2 I2 rx ry q=>hr a b pins s2 σ H2 x y v u Q I2 rx ry q (hs _ _))
def ZsN (K:Fg):R2:=fun x y H Q=> ∃ p xs i v,x= .ref p/\y= .int i/\SqL K H p xs/\atI xs i=some v/\Q v H
def ZsO (K:Fg):R2:=fun x y H Q=> ∃ p xs i v,x= .ref p/\y= .int i/\SqT K H p xs/\atI xs i=some v/\Q v H
theorem Zk8:IxR X (ZsN X.K):=by
 intro value slice pins s σ H x y v u Q I rx ry h hs;obtain ⟨p,xs,i,z,rfl,rfl,hq,he,q⟩:=h
 cases rx
 obtain ⟨t,rfl⟩:=ry
 obtain ⟨its,r,pl,hz⟩:=I.list hq
 obtain ⟨j,h1,h2,h3,h4,h5⟩:=ZgI he
 obtain ⟨w,ew,rw'⟩:=r.get h2
 have hl:=r.length
 have hn:=Ze6
 have fin:EP X pins σ Q w s:=⟨z,H,I,rw',q⟩
 by_cases h0:0<=i
 ·have hj:i.toNat=j:=by
   rw[seqIndex_of h0 h5] at h1;exact Option.some.inj h1
  exact item_listR pl.isList h0 (by lia) (by rw[hj];simpa using ew) fin hs
 ·have hj:(i + (its.toArray.size:Int)).toNat=j:=by
   rw[seqIndex_neg (by lia) h4] at h1
   rw[List.size_toArray,<- hl];exact Option.some.inj h1
  exact subscriptTail_builtinR (x:=w) pl.isList.typeIs slot_list_getitem.lookup
   (wpAny_getItem_list_neg (Q:=fun r s'=>r=w/\EP X pins σ Q r s') pl.isList (by lia) (by rw[List.size_toArray]<;>lia) (by lia) (by rw[hj];simpa using ew) ⟨rfl,fin⟩) hs
theorem Znf:IxR X (ZsO X.K):=by
 intro value slice pins s σ H x y v u Q I rx ry h hs;obtain ⟨p,xs,i,z,rfl,rfl,hq,he,q⟩:=h
 cases rx
 obtain ⟨t,rfl⟩:=ry
 obtain ⟨its,r,pl,hz⟩:=I.tuple hq
 obtain ⟨j,h1,h2,h3,h4,h5⟩:=ZgI he
 obtain ⟨w,ew,rw'⟩:=r.get h2
 have hl:=r.length
 have hn:=Ze6
 have fin:EP X pins σ Q w s:=⟨z,H,I,rw',q⟩
 exact subscriptTail_builtinR (x:=w) pl.typeIs slot_tuple_getitem.lookup
  (getItem_tuple (j:=j) (Q:=fun r s'=>r=w/\EP X pins σ Q r s') pl (by lia) (by lia) (by rw[List.size_toArray,<- hl];exact h1) (by simpa using ew) ⟨rfl,fin⟩) hs
theorem ZfS (its:List Value)(n j:Nat)(u:Value):Obj.mapSeq (·.setIfInBounds j u) { cls:= .type "list",data:= .seq its.toArray n }={ cls:= .type "list",data:= .seq (its.set j u).toArray n }:=by
 simp[Obj.mapSeq]
theorem Inv.lst {pins:Pn}{σ:St}{H:Hp}{s:Shared}{p:Addr}{xs:List V}(I:Inv X pins σ H s)(h:H p=some (.lst xs)):
  ∃ (its:List Value) (n:Nat),ZO xs its/\s.heap.get? p=some { cls:= .type "list",data:= .seq its.toArray n }/\xs.length<=sizeLine:=by
 obtain ⟨z,its,n,r,e⟩:=I.hok p _ h
 exact ⟨its,n,r,e,z⟩
theorem Inv.lstUpd {pins:Pn}{σ:St}{H:Hp}{s:Shared}{p:Addr}{xs ys:List V}{its its':List Value}{n n':Nat}{f:Obj->Obj}(I:Inv X pins σ H s)(h:H p=some (.lst xs))
  (ho:s.heap.get? p=some { cls:= .type "list",data:= .seq its.toArray n }) (hf:f { cls:= .type "list",data:= .seq its.toArray n }={ cls:= .type "list",data:= .seq its'.toArray n' }) (r:ZO ys its') (hz:ys.length<=sizeLine) (t:Nat):
  Inv X pins σ (upd H p (.lst ys)) { s with heap:=s.heap.update p f,toks:=t }:=by
 have e:(s.heap.update p f).get? p=some { cls:= .type "list",data:= .seq its'.toArray n' }:=by
  rw[Heap.get?_update_self f ho (by rw[hf]<;>rfl),hf]
 refine I.write (x:=p) (e:=p) (by rw[h];trivial) (.inl rfl) (fun b u hb q=>(Heap.get?_update_other _ _ (Ne.symm hb)).trans q) ⟨_,e⟩ ?_
 exact ⟨hz,its',n',r,e⟩
def rSetL:V->V->V->Hp->(Hp->Prop)->Prop:=fun o i v H Q=> ∃ p xs k j,o= .ref p/\i= .int k/\H p=some (.lst xs)/\ixN xs.length k=some j/\Q (upd H p (.lst (xs.set j v)))
theorem ZiS:ZsJ X rSetL:=by
 intro pins s σ H o i v ov iv u Q I ro ri rv h;obtain ⟨p,xs,k,j,rfl,rfl,hp,hj,q⟩:=h
 cases ro
 obtain ⟨t,rfl⟩:=ri
 obtain ⟨its,n,r,ho,hz⟩:=I.lst hp
 obtain ⟨h1,h2,h3,h4⟩:=ZgH hj
 have hl:=r.length
 have hn:=Ze6
 have I':Inv X pins σ (upd H p (.lst (xs.set j v))) { s with heap:=s.heap.update p (Obj.mapSeq (·.setIfInBounds j u)) }:=
  I.lstUpd hp ho (ZfS its n j u) (r.set rv j) (by rw[List.length_set];exact hz) s.toks
 by_cases h0:0<=k
 ·have hk:k.toNat=j:=by
   rw[seqIndex_of h0 h4] at h1;exact Option.some.inj h1
  exact PySem.W.ki_setAt ho h0 (by lia) (by rw[List.size_toArray,<- hl];exact h4) (by rw[hk];exact ⟨_,I',q⟩)
 ·have hk:(k + (its.toArray.size:Int)).toNat=j:=by
   rw[seqIndex_neg (by lia) h3] at h1
   rw[List.size_toArray,<- hl];exact Option.some.inj h1
  exact PySem.W.ki_setBack ho (by lia) (by rw[List.size_toArray,<- hl];exact h3) (by lia) (by rw[hk];exact ⟨_,I',q⟩)
theorem ZdN (lo hi:Option Int)(n:Nat):(sliceBounds lo hi none n).1=((HT.sIx n 0 lo:Nat):Int)/\(sliceBounds lo hi none n).2.1=((HT.sIx n n hi:Nat):Int)/\(sliceBounds lo hi none n).2.2=1:=by
 refine ⟨?_,?_,rfl⟩
 ·cases lo with
  |none=>simp[sliceBounds,HT.sIx]
  |some i=>
   simp only[sliceBounds,HT.sIx,Option.getD_none,show (1:Int) > 0 by decide,if_true]
   by_cases h:i < 0
   ·simp only[h,if_true]<;>lia
   ·simp only[h,if_false]<;>lia
 ·cases hi with
  |none=>simp[sliceBounds,HT.sIx]
  |some i=>
   simp only[sliceBounds,HT.sIx,Option.getD_none,show (1:Int) > 0 by decide,if_true]
   by_cases h:i < 0
   ·simp only[h,if_true]<;>lia
   ·simp only[h,if_false]<;>lia
theorem Zda (its:List Value)(lo hi:Option Int):slicePick its.toArray lo hi none=((its.drop (HT.sIx its.length 0 lo)).take (HT.sIx its.length its.length hi - HT.sIx its.length 0 lo)).toArray:=by
 obtain ⟨h1,h2,h3⟩:=ZdN lo hi its.toArray.size
 unfold slicePick;rw[h1,h2,h3];simp only[sliceRange_one,pick_run,List.size_toArray]<;>rfl
def Zt1 (K:Fg):V->Option Int->Option Int->Hp->VK->Prop:=fun x lo hi H Q=> ∃ a xs,x= .ref a/\SqL K H a xs/\ ∀ p,H p=none->Q (.ref p) (upd H p (.lst (Zj2 xs lo hi)))
theorem Zk9:SlR X (Zt1 X.K):=by
 intro pins s σ H x v vl vu lo hi sl Q I rx hs pl pu h;obtain ⟨a,xs,rfl,hx,q⟩:=h
 cases rx
 obtain ⟨its,r,ht,hz⟩:=I.list hx
 have hlen:=r.length
 refine ⟨"list",_,slot_list_getitem.lookup,ht.isList.typeIs,?_⟩
 refine wpAny_getItem_list_slice ht.isList hs pl pu .none (by simp) ?_ (by rw[List.size_toArray]<;>lia)
 rw[Zda,<- hlen];refine ⟨.ref s.heap.objs.size,_,I.laid (t':=s.toks) (o:= .lst (Zj2 xs lo hi)) (fun b ob q=>Hq _ q) (Nat.le_refl _) ?_,rfl,q _ (I.hok.fresh (Nat.le_refl _))⟩
 exact ⟨Nat.le_trans (Zcl xs lo hi) hz,_,0,(r.drop (HT.sIx xs.length 0 lo)).take (HT.sIx xs.length xs.length hi - HT.sIx xs.length 0 lo),Heap.get?_push_size _ rfl⟩
noncomputable def Zca:V->Bool
 | .non=>true
 | .bl _=>true
 | .int _=>true
 | .str _=>true
 |_=>false
noncomputable def eqV:V->V->Bool
 | .non,.non=>true
 | .bl a,.bl b=>a == b
 | .bl a,.int b=>(if a then 1 else 0) == b
 | .int a,.bl b=>a == (if b then 1 else 0)
 | .int a,.int b=>a == b
 | .str a,.str b=>a == b
 |_,_=>false
theorem Zng {A:Around}{s:Shared}{y x:V}{u v:Value}(ry:ZM y u)(rx:ZM x v)(fy:Zca y=true)(fx:Zca x=true):SeqAt.EqAt A s u v (eqV y x):=by
 cases y with
 |non=>
  cases ry
  cases x with
  |non=>cases rx;exact SeqAt.EqAt.same _
  |bl b=>cases rx;exact SeqAt.EqAt.none_bool b
  |int b=>obtain ⟨t,rfl⟩:=rx;exact SeqAt.EqAt.none_int b t
  |str b=>obtain ⟨t,rfl⟩:=rx;exact SeqAt.EqAt.none_str b t
  |_=>exact absurd (show false=true from fx) Bool.false_ne_true
 |bl a=>
  cases ry
  cases x with
  |non=>cases rx;exact SeqAt.EqAt.bool_none a
  |bl b=>cases rx;exact SeqAt.EqAt.bool_bool a b
  |int b=>obtain ⟨t,rfl⟩:=rx;exact SeqAt.EqAt.bool_int a b t
  |str b=>obtain ⟨t,rfl⟩:=rx;exact SeqAt.EqAt.bool_str a b t
  |_=>exact absurd (show false=true from fx) Bool.false_ne_true
 |int a=>
  obtain ⟨t',rfl⟩:=ry
  cases x with
  |non=>cases rx;exact SeqAt.EqAt.int_none a t'
  |bl b=>cases rx;exact SeqAt.EqAt.int_bool a t' b
  |int b=>obtain ⟨t,rfl⟩:=rx;exact SeqAt.EqAt.int_int a t' b t
  |str b=>obtain ⟨t,rfl⟩:=rx;exact SeqAt.EqAt.int_str a t' b t
  |_=>exact absurd (show false=true from fx) Bool.false_ne_true
 |str a=>
  obtain ⟨t',rfl⟩:=ry
  cases x with
  |non=>cases rx;exact SeqAt.EqAt.str_none a t'
  |bl b=>cases rx;exact SeqAt.EqAt.str_bool a t' b
  |int b=>obtain ⟨t,rfl⟩:=rx;exact SeqAt.EqAt.str_int a t' b t
  |str b=>obtain ⟨t,rfl⟩:=rx;exact SeqAt.EqAt.str_str a t' b t
  |_=>exact absurd (show false=true from fx) Bool.false_ne_true
 |_=>exact absurd (show false=true from fy) Bool.false_ne_true
def eqU (x:V)(u:Value):Bool:=match u with
 | .none=>eqV .non x
 | .bool b=>eqV (.bl b) x
 | .int i _=>eqV (.int i) x
 | .str z _=>eqV (.str z) x
 |_=>false
theorem Zj3 {x y:V}{u:Value}(r:ZM y u)(f:Zca y=true):eqU x u=eqV y x:=by
 cases y with
 |non=>cases r;rfl
 |bl b=>cases r;rfl
 |int i=>obtain ⟨t,rfl⟩:=r;rfl
 |str z=>obtain ⟨t,rfl⟩:=r;rfl
 |_=>exact absurd (show false=true from f) Bool.false_ne_true
theorem Zez {x:V}: ∀ {xs:List V} {us:List Value},ZO xs us->xs.all Zca=true->us.any (eqU x)=xs.any fun y=>eqV y x
 |_,_,.nil,_=>rfl
 |y :: xs,u :: us,.cons r t,f=>by
  rw[List.all_cons,Bool.and_eq_true] at f;rw[List.any_cons,List.any_cons,Zj3 r f.1,Zez t f.2]
theorem Zdb {A:Around}{s:Shared}{x:V}{v:Value}(rx:ZM x v)(fx:Zca x=true): ∀ {xs:List V} {us:List Value},ZO xs us->xs.all Zca=true-> ∀ u∈us,SeqAt.EqAt A s u v (eqU x u)
 |_,_,.nil,_=>fun u hu=>by cases hu
 |y :: xs,u :: us,.cons r t,f=>fun u' hu=>by
  rw[List.all_cons,Bool.and_eq_true] at f
  rcases List.mem_cons.mp hu with rfl | hu
  ·rw[Zj3 r f.1];exact Zng r rx f.1 fx
  ·exact Zdb rx fx t f.2 u' hu
def inV (x:V)(xs:List V):Bool:=xs.any fun y=>eqV y x
def rIn (K:Fg)(neg:Bool):R2:=fun x y H Q=> ∃ p xs,y= .ref p/\(SqL K H p xs\/SqT K H p xs)/\Zca x=true/\xs.all Zca=true/\Q (.bl (if neg then !inV x xs else inV x xs)) H
theorem ZdO:OpR X (compareOp .NotIn) (rIn X.K true):=by
 intro pins s σ H x y v u Q I rx ry h;obtain ⟨p,xs,rfl,hq,fx,fs,q⟩:=h
 cases ry
 rcases hq with hq | hq
 ·obtain ⟨its,r,pl,hz⟩:=I.list hq
  refine SeqAt.notIn_listAt (eqU x) pl.isList (fun w hw=>Zdb rx fx r fs w (by simpa using hw)) ⟨.bl _,H,I,rfl,?_⟩
  rw[show its.toArray.any (eqU x)=its.any (eqU x) by simp,Zez r fs]
  exact q
 ·obtain ⟨its,r,pl,hz⟩:=I.tuple hq
  refine SeqAt.notIn_tupleAt (eqU x) pl (fun w hw=>Zdb rx fx r fs w (by simpa using hw)) ⟨.bl _,H,I,rfl,?_⟩
  rw[show its.toArray.any (eqU x)=its.any (eqU x) by simp,Zez r fs]
  exact q
theorem Zp:ZbP X (.builtin "len") (fun xs H Q=> ∃ p ys,xs=[.ref p]/\(SqL X.K H p ys\/SqT X.K H p ys)/\Q (.int ys.length) H):=by
 intro pins s σ H xs us Q I r h;obtain ⟨p,ys,rfl,hq,q⟩:=h
 obtain ⟨u,rfl,rx⟩:=Zcj r
 cases rx
 have hn:=Ze6
 rcases hq with hq | hq
 ·obtain ⟨its,r',pl,hz⟩:=I.list hq
  have hlen:=r'.length
  exact Calls.call_len_list pl.isList (by simp only[List.size_toArray]<;>lia) ⟨.int ys.length,H,I.tok _,⟨s.toks + 1,by rw[List.size_toArray,hlen]⟩,q⟩
 ·obtain ⟨its,r',pl,hz⟩:=I.tuple hq
  have hlen:=r'.length
  exact len_tuple pl (by simp only[List.size_toArray]<;>lia) ⟨.int ys.length,H,I.tok _,⟨s.toks + 1,by rw[List.size_toArray,hlen]⟩,q⟩
theorem Zaf:ZbP X (.type "list") (fun xs H Q=> ∃ p ys,xs=[.ref p]/\(SqL X.K H p ys\/SqT X.K H p ys)/\ ∀ l,H l=none->Q (.ref l) (upd H l (.lst ys))):=by
 intro pins s σ H xs us Q I r h;obtain ⟨p,ys,rfl,hq,q⟩:=h
 obtain ⟨u,rfl,rx⟩:=Zcj r
 cases rx
 have fin: ∀ (its:List Value),ZO ys its->ys.length<=sizeLine-> ∀ (h':Heap) (c':Nat),(∀ b o',s.heap.get? b=some o'->h'.get? b=some o')->
   h'.get? s.heap.objs.size=some { cls:= .type "list",dict:=none,data:= .seq its.toArray c',slots:= #[] }->EP X pins σ Q (.ref s.heap.objs.size) { s with heap:=h' }:=fun its r' hz h' c' kp e=>
  ⟨.ref s.heap.objs.size,_,I.laid (t':=s.toks) kp (Nat.le_refl _) (show Zay X.prog X.w _ h' _ (.lst ys) from ⟨hz,its,c',r',e⟩),rfl,q _ (I.hok.fresh (Nat.le_refl _))⟩
 rcases hq with hq | hq
 ·obtain ⟨its,r',pl,hz⟩:=I.list hq
  have hlen:=r'.length
  obtain ⟨o,ho,hc,n,hd⟩:=pl.isList
  exact call_list_seq p (.inl rfl) ho hc hd (fun h' c' kp e=>fin its r' hz h' c' kp e) (by simp only[List.size_toArray]<;>lia)
 ·obtain ⟨its,r',pl,hz⟩:=I.tuple hq
  have hlen:=r'.length
  obtain ⟨o,ho,hc,n,hd⟩:=pl
  exact call_list_seq p (.inr rfl) ho hc hd (fun h' c' kp e=>fin its r' hz h' c' kp e) (by simp only[List.size_toArray]<;>lia)
def tyV (K:Fg)(T:String)(x:V)(H:Hp):Prop:=match x with
 | .str _=>T="str"
 | .int _=>T="int"
 | .ref p=>(T="list"/\ ∃ xs,SqL K H p xs)\/(T="tuple"/\ ∃ o,K.lookup p=some o/\o.cls= .type "tuple"/\o.dict=none)\/
   (T="dict"/\((∃ kvs,H p=some (.dK kvs))\/ ∃ kvs,H p=some (.dT kvs)))\/(T="set"/\ ∃ S n,H p=some (.set S n))
 |_=>False
theorem Znh {pins:Pn}{σ:St}{H:Hp}{s:Shared}{T:String}{x:V}{v:Value}(I:Inv X pins σ H s)(r:ZM x v)(ty:tyV X.K T x H):
  s.TypeIs v T/\ ∀ a,v= .ref a-> ∃ ob,s.heap.get? a=some ob/\ob.dict=none:=by
 cases x with
 |str z=>
  obtain ⟨t,rfl⟩:=r
  cases (show T="str" from ty)
  exact ⟨typeIs_str s z t,fun _ e=>nomatch e⟩
 |int i=>
  obtain ⟨t,rfl⟩:=r
  cases (show T="int" from ty)
  exact ⟨typeIs_int s i t,fun _ e=>nomatch e⟩
 |ref p=>
  cases r
  rcases ty with ⟨rfl,xs,hq⟩ | ⟨rfl,o,hk,hc,hd⟩ | ⟨rfl,hk⟩ | ⟨rfl,S,n,hk⟩
  ·obtain ⟨its,_,pl,_⟩:=I.list hq
   refine ⟨pl.isList.typeIs,fun a e=> ?_⟩
   cases e
   obtain ⟨o,n,e,c,hd,_⟩:=pl
   exact ⟨o,e,hd⟩
  ·refine ⟨⟨o,I.kIn p o hk,hc⟩,fun a e=> ?_⟩
   cases e
   exact ⟨o,I.kIn _ o hk,hd⟩
  ·have z: ∃ o,s.heap.get? p=some o/\o.ExactDict:=by
    rcases hk with ⟨kvs,hk⟩ | ⟨kvs,hk⟩
    ·obtain ⟨_,_,_,_,o,_,_,e,ex,_⟩:=I.hok p _ hk
     exact ⟨o,e,ex⟩
    ·obtain ⟨_,_,_,_,o,_,_,e,ex,_⟩:=I.hok p _ hk
     exact ⟨o,e,ex⟩
   obtain ⟨o,e,ex⟩:=z
   refine ⟨⟨o,e,ex.1⟩,fun a e2=> ?_⟩
   cases e2
   exact ⟨o,e,ex.2.1⟩
  ·obtain ⟨o,_,_,_,e,ex,_⟩:=I.hok p _ hk
   refine ⟨⟨o,e,ex.1⟩,fun a e2=> ?_⟩
   cases e2
   exact ⟨o,e,ex.2.1⟩
 |_=>exact False.elim ty
def tBM (K:Fg)(T:String)(r:V->List V->Hp->VK->Prop)(to:TE)(t:TA):TE:=fun σ H Q=>to σ H fun x H1=>tyV K T x H1/\t σ H1 fun xs H2=>r x xs H2 Q
variable {o e:Expr}{es:List Expr}{to:TE}{t:TA}{name:Str}{apos cpos:Pos}{T id:String}{r:V->List V->Hp->VK->Prop}
theorem Zqy (pa:PlainAttrs T)(slot:Slot T name id)(hty:typeOf (.builtin id)=pure (.type "method_descriptor"))(hm:MtR X id r)(ho:PE X o to)(ha:PA X (e :: es) t)
  (hbase:attributeBase o name X.env (eval o X.env)=eval o X.env:=by rfl)
  (hfew:((backTo cpos (starEach (e :: es) X.env)).all (fun x=> !x.1) && (backToKw cpos (keywordEach [] X.env)).all (fun x=>x.1.isSome)
   && decide ((e :: es).length + ([]:List Keyword).length + (if ([]:List Keyword).isEmpty then 0 else 1) < 30))=true:=by rfl)
  (hline:(apos.endLine == cpos.line)=true:=by rfl) (hs:starEach (e :: es) X.env=(false,eval e X.env) :: starEach es X.env:=by rfl) (hplain:(backTo cpos (starEach es X.env)).any (·.1)=false:=by rfl):
  PE X (.Call (.Attribute o name apos) (e :: es) [] cpos) (tBM X.K T r to t):=by
 intro pins s σ H Q I h;refine wpAny_Call_method_late hbase hfew hline rfl (thn (ho pins s σ H _ I h) fun v s1 ⟨x,H1,I1,r1,ty,q1⟩=> ?_)
 obtain ⟨h1,h2⟩:=Znh I1 r1 ty
 refine ⟨T,id,pa,slot,hty,h1,h2,?_⟩
 have hA:=ha cpos pins s1 σ H1 _ I1 q1
 rw[hs] at hA ⊢;refine Calls.callWith_builtin (by show (false || (backTo cpos (starEach es X.env)).any (·.1))=false;rw[hplain]<;>rfl) (Calls.evalArgs_plain ?_)
 exact thn hA fun us s2 ⟨vs,H2,I2,r2,q2⟩=>hm pins s2 σ H2 x vs v us Q I2 r1 r2 q2
end
def MtM (X:Cx)(id:String)(r:V->List V->Hp->VK->Prop):Prop:=
 ∀ (pins:Pn) (s:Shared) (σ:St) (H:Hp) (x:V) (xs:List V) (v:Value) (us:List Value) (Q:VK),Inv X pins σ H s->ZM x v->ZO xs us->r x xs H Q->
  wpAny (model X.prog X.w) X.A (call (.builtin id) (v :: us)) (EP X pins σ Q) X.xe s
theorem ZO.one: ∀ {x:V} {us:List Value},ZO [x] us-> ∃ u,us=[u]/\ZM x u
 |_,_,.cons r .nil=>⟨_,rfl,r⟩
theorem ZO.reverse {xs:List V}{us:List Value}(h:ZO xs us):ZO xs.reverse us.reverse:=by
 induction h with
 |nil=>exact .nil
 |cons r t ih=>rw[List.reverse_cons,List.reverse_cons];exact ZO.append ih (.cons r .nil)
section
variable {X:Cx}{pins:Pn}{σ:St}{H:Hp}{s:Shared}{l b:Addr}{xs ys zs:List V}
theorem Inv.lset {its its':List Value}{n:Nat}{f:Array Value->Array Value}{t':Nat}(I:Inv X pins σ H s)(hH:H l=some (.lst xs))
  (e:s.heap.get? l=some { cls:= .type "list",data:= .seq its.toArray n }) (hf:f its.toArray=its'.toArray) (hv:ZO ys its') (hz:ys.length<=sizeLine):
  Inv X pins σ (upd H l (.lst ys)) { s with heap:=s.heap.update l (Obj.mapSeq f),toks:=t' }:=by
 have q:=PySem.IsL.update e f
 rw[hf] at q;refine I.write (x:=l) (e:=l) (by rw[hH];exact trivial) (.inl rfl) (fun b' u hb hu=>(Heap.get?_update_other s.heap (Obj.mapSeq f) (Ne.symm hb)).trans hu) ⟨_,q⟩ ?_
 exact ⟨hz,its',_,hv,q⟩
theorem Inv.lnew {its:List Value}{t':Nat}(I:Inv X pins σ H s)(hv:ZO ys its)(hz:ys.length<=sizeLine):
  Inv X pins σ (upd H s.heap.objs.size (.lst ys)) { s with heap:=s.heap.push { cls:= .type "list",data:= .seq its.toArray },toks:=t' }:=
 I.laid (fun _ _ q=>Hq _ q) (Nat.le_refl _) ⟨hz,its,0,hv,Heap.get?_push_size _ rfl⟩
theorem Inv.fresh (I:Inv X pins σ H s):H s.heap.objs.size=none:=I.hok.fresh (Nat.le_refl _)
theorem Inv.lstM (I:Inv X pins σ H s)(hH:H l=some (.lst xs)):xs.length<=sizeLine/\ ∃ (its:List Value) (n:Nat),ZO xs its/\xs.length=its.length/\s.heap.get? l=some { cls:= .type "list",data:= .seq its.toArray n }:=by
 obtain ⟨z,its,n,r,e⟩:=I.hok l _ hH
 exact ⟨z,its,n,r,r.length,e⟩
theorem ZiT {n:Nat}(h:n<=sizeLine):Builtin.List.listTooLong n=false:=by
 unfold Builtin.List.listTooLong;exact decide_eq_false (by lia)
end
section
variable {X:Cx}
def rAppend:V->List V->Hp->VK->Prop:=fun x vs H Q=> ∃ l xs y,x= .ref l/\vs=[y]/\H l=some (.lst xs)/\xs.length < sizeLine/\Q .non (upd H l (.lst (xs ++ [y])))
theorem ZdP:MtM X "list.append" rAppend:=by
 intro pins s σ H x vs v us Q I rx rv h;obtain ⟨l,xs,y,rfl,rfl,hH,hz,q⟩:=h
 cases rx
 obtain ⟨u,rfl,ru⟩:=rv.one
 obtain ⟨z,its,n,r,hl,e⟩:=I.lstM hH
 refine call_meets F.slot_list_append ⟨_,e,rfl⟩ F.entry_list_append (F.args_list_append_2 _ _) (PySem.list_append l its.toArray n u (by rw[List.size_toArray];lia)) ⟨e,?_⟩
 refine ⟨.non,_,I.lset (its':=its ++ [u]) hH e (by simp) (r.append (.cons ru .nil)) ?_,rfl,q⟩
 rw[List.length_append,List.length_singleton];lia
def rExtend:V->List V->Hp->VK->Prop:=fun x vs H Q=> ∃ l b xs zs,x= .ref l/\vs=[.ref b]/\H l=some (.lst xs)/\H b=some (.lst zs)/\xs.length + zs.length<=sizeLine/\Q .non (upd H l (.lst (xs ++ zs)))
theorem ZgK:MtM X "list.extend" rExtend:=by
 intro pins s σ H x vs v us Q I rx rv h;obtain ⟨l,b,xs,zs,rfl,rfl,hH,hB,hz,q⟩:=h
 cases rx
 obtain ⟨u,rfl,ru⟩:=rv.one
 cases ru
 obtain ⟨z,its,n,r,hl,e⟩:=I.lstM hH
 obtain ⟨z2,its2,n2,r2,hl2,e2⟩:=I.lstM hB
 have hsz:its.toArray.size + its2.toArray.size<=sizeLine:=by rw[List.size_toArray,List.size_toArray];lia
 have hlong: ¬ (!its.toArray.isEmpty && Builtin.List.listTooLong (its.toArray.size + its2.toArray.size))=true:=by
  rw[ZiT hsz,Bool.and_false];exact Bool.false_ne_true
 refine call_meets F.slot_list_extend ⟨_,e,rfl⟩ F.entry_list_extend (F.args_list_extend_2 _ _)
  (AutoSeq1.list_extend_list_list_0 l its.toArray n b its2.toArray n2 hlong (by rw[List.size_toArray];lia) (by lia)) ⟨e,e2,?_⟩
 refine ⟨.non,_,I.lset (its':=its ++ its2) hH e (by simp) (r.append r2) ?_,rfl,q⟩
 rw[List.length_append];lia
def rCat:R2:=fun x y H Q=> ∃ l b xs zs,x= .ref l/\y= .ref b/\H l=some (.lst xs)/\H b=some (.lst zs)/\xs.length + zs.length<=sizeLine/\ ∀ p,H p=none->Q (.ref p) (upd H p (.lst (xs ++ zs)))
theorem Zni:OpR X (binaryOp .Add) rCat:=by
 intro pins s σ H x y v u Q I rx ry h;obtain ⟨l,b,xs,zs,rfl,rfl,hH,hB,hz,q⟩:=h
 cases rx
 cases ry
 obtain ⟨z,its,n,r,hl,e⟩:=I.lstM hH
 obtain ⟨z2,its2,n2,r2,hl2,e2⟩:=I.lstM hB
 refine PySem.P.add_list e e2 ?_ (by rw[List.size_toArray,List.size_toArray];lia)
 have ea:its.toArray ++ its2.toArray=(its ++ its2).toArray:=by simp
 rw[ea];exact ⟨.ref _,_,I.lnew (t':=s.toks) (r.append r2) (by rw[List.length_append];lia),rfl,q _ I.fresh⟩
end
section
variable {prog:Program}{w:World}{A:Around}{E:Vp}{s:Shared}
end
section
variable {X:Cx}
end
end L2
namespace Att
open PySem.W PySem.Calls PyProof.Rows
theorem Zcm {P:Params}{h:Heap}: ∀ (ns:List Int) (vs:List Value),WellAll P h vs (ns.map WData.int)->IntsAre vs ns:=by
 intro ns
 induction ns with
 |nil=>
  intro vs w;rw[List.map_nil] at w;cases w
  exact .nil
 |cons n ns ih=>
  intro vs w;rw[List.map_cons] at w;cases w with
  |cons a b=>
   cases a
   exact .cons _ _ (ih _ b)
theorem ZgL {l:OpenLaw}{n:Nat}(hn:l.most=some n){P:Params}{h:Heap}{args:List WData}{vals:List Value}
  (hpre:l.row.toRowW.claim.pre args=true) (hwl:WellAll P h vals args):
  ∃ a vs ns,vals=[Value.ref a]/\args=[WData.list (ns.map WData.int)]/\h.get? a=some { cls:= .type "list",data:= .seq vs.toArray }/\IntsAre vs ns/\ns.length<=n:=by
 have hsh:WShape.hasAll [] args [.list .int]=true:=(pre_splitW hpre).1
 have hc:l.pre.holds [] { args:=args }=true:=(pre_splitW hpre).2
 obtain ⟨d,r,rfl,h1,h2⟩:=hasAllW_cons hsh
 obtain rfl:=hasAllW_nil h2
 obtain ⟨xs,rfl,h3⟩:=hasW_list h1
 obtain ⟨ns,rfl⟩:=items_int h3
 have hlen:ns.length<=n:=by
  unfold OpenLaw.pre at hc;have h4:(WTm.not (.lt (.lit (.int (n:Int))) (.len (.arg 0)))).holds [] { args:=[.list (ns.map .int)] }=true:=by
   have h4:=(holds_andW hc).1
   rw[hn] at h4;exact h4
  have h5:=condW_of h4 (w_not (w_lt w_lit (w_len_list (w_arg rfl))))
  rw[List.length_map] at h5;refine Nat.le_of_not_lt fun q=> ?_
  have q':(n:Int) < ((ns.length:Nat):Int):=by lia
  first
   | (rw[decide_eq_true q'] at h5;exact absurd h5 (by decide))
   | (simp at h5;lia)
 cases hwl with
 |cons w1 w2=>
  cases w2
  cases w1 with
  |list ho hall=>exact ⟨_,_,ns,rfl,rfl,ho,Zcm ns _ hall,hlen⟩
theorem ZgM (l:OpenLaw)(args:List WData):l.row.toRowW.claim.post args (.bool true) args=true:=
 postW_of (r:=l.row.toRowW) (X:=(true == true))
  (show WShape.has [] (.bool true) .bool=true by first | rfl | decide | simp[WShape.has,WShape.arms,WShape.armsAll])
  (show (WTm.eq .res (.lit (.bool true))).value [] { args:=args,res:=some (.bool true),after:=args }=some (.bool (true == true)) from w_eq_bool (w_res rfl) w_lit) rfl
theorem ZeA {l:OpenLaw}{n:Nat}{q:Program}{loose:List Str}{XP:(Str->Option Value)->Heap->Prop}{YP:World->Heap->Prop}{d:DefRec}
  (hn:l.most=some n) (hdf:d.params.defaults=[])
  (call: ∀ (w:World) (s₀ s₁:Shared) (mg mb:Str->Option Value) (fa:Addr) (o:Obj) (pm cd doc:Value) (a:Addr) (vs:List Value) (ns:List Int),
   Ground q loose [] XP w s₀ mg mb s₁.heap->YP w s₁.heap->
   s₁.heap.get? fa=some o->o.data= .func (docDef d.name d.params d.body d.scope pm cd doc)->s₁.heap.CodeRec cd d.name->mg d.name=some (.ref fa)->
   s₁.heap.get? a=some { cls:= .type "list",data:= .seq vs.toArray }->IntsAre vs ns->ns.length<=n->s₁.gens= #[]->
   codeAny (model l.prog w) callerA (.call (.ref fa) ⟨[.ref a],[]⟩) (fun r s'=>r= .ok (.ret (.bool true))/\OldK s₁.heap s'.heap/\s'.os=s₁.os/\AllBare s'.gens) s₁):
  WalkO q loose XP YP l.row.toRowW d [] (fun f vs=>PySem.call f vs):=by
 intro w s₀ s₁ mg mb G Y fa o pm cd doc dV kV ho hd hcd hD hmg hg args vals as hpre hlay hrd hwl hlo;obtain rfl:dV= .none:=Dflts.none hD hdf
 obtain rfl:kV= .none:=Dflts.noKw hD
 obtain ⟨a,vs,ns,rfl,rfl,hobj,hints,hlen⟩:=ZgL hn hpre hwl
 refine enter_call (codeAny_mono (call w s₀ s₁ mg mb fa o pm cd doc a vs ns G Y ho (fd_plain hd) hcd hmg hobj hints hlen hg) fun r s' hq=> ?_)
 obtain ⟨rfl,h2,h3,h4⟩:=hq
 exact ⟨.inl ⟨.bool true,.bool true,[],rfl,fun _=>rfl,.bool true,ZgM l _,fun _=>⟨List.Pairwise.nil,fun _ hm=>(nomatch hm)⟩⟩,h2,h3,h4⟩
section
variable {prog:Program}{w:World}{A:Around}{E:Vp}{s:Shared}{K:Frag}
end
end Att
namespace L2
open PyProof.Rows
theorem ZdQ: ∀ {vs:List Value} {ns:List Int},IntsAre vs ns->ZO (ns.map V.int) vs
 |_,_,.nil=> .nil
 |_,_,.cons n t h=> .cons ⟨t,rfl⟩ (ZdQ h)
noncomputable def Zqb (H:Hp):Prop:= ∀ b,H b=none\/ ∃ o xs,H b=some (.frz o (.lst xs))
theorem ZiU {P:Program}{w:World}{K:Fg}{mg mb:Str->Option Value}{CX:CXT}{k:Nat}{fa a:Addr}{fd:FuncData}{x:Str}{sp:Sp}{s₁:Shared}{vs:List Value}{ns:List Int}
  (KX:K.In s₁.heap) (hns:s₁.heap.Ns mainGlobals mg) (hb:s₁.heap.Ns builtinsNs mb) (hbb: ∀ x:Str,x≠"__name__"->mb x=bootBuiltins x) (hlim:s₁.heap.NoLimit) (hg:s₁.gens= #[])
  (ha:s₁.heap.get? a=some { cls:= .type "list",data:= .seq vs.toArray }) (hi:IntsAre vs ns) (hl:ns.length<=sizeLine) (hr:Room k callerA)
  (F: ∀ base:Heap,K.In base->base.Ns mainGlobals mg->FnOk P w K mg base CX k fa fd [x] sp) (hbind: ∀ (s:Shared) (u:Value),BindsTo s fd ⟨[u],[]⟩ [(x,u)])
  (hsp: ∀ H:Hp,Zqb H->SqL K H a (ns.map V.int)->sp [.ref a] H (fun v _=>v= .bl true) fun _ _ _=>False)
  (hCX: ∀ H e s',CX [] H s₁ (fun _ _ _=>False) e s'->False):
  codeAny (model P w) callerA (.call (.ref fa) ⟨[.ref a],[]⟩) (fun r s'=>r= .ok (.ret (.bool true))/\OldK s₁.heap s'.heap/\s'.os=s₁.os/\AllBare s'.gens) s₁:=by
 have rv:=ZdQ hi
 have lenV:=hi.length
 have core: ∀ H:Hp,Zqb H->SqL K H a (ns.map V.int)->HOk P w H s₁.heap->(∀ b,H b≠none->b=a)->(H a≠none->K.lookup a=none)->
   codeAny (model P w) callerA (.call (.ref fa) ⟨[.ref a],[]⟩) (fun r s'=>r= .ok (.ret (.bool true))/\OldK s₁.heap s'.heap/\s'.os=s₁.os/\AllBare s'.gens) s₁:=by
  intro H hO hS hok hA hK;have base_of: ∀ {b:Addr} {o:Obj},s₁.heap.get? b=some o->H b=none->(ZiD s₁.heap H).get? b=some o:=fun e n=>Ze4 e n
  have noA: ∀ {b:Addr} {o:Obj} {es:Array DictEntry} {ep:Nat},s₁.heap.get? b=some o->o.data= .dict es ep->H b=none:=fun {b o es ep} e d=>by
   cases q:H b with
   |none=>rfl
   |some u=>
    have e':b=a:=hA b (by rw[q];simp)
    subst e';rw[ha] at e;cases e;have d':Data.seq vs.toArray _=Data.dict es ep:=d
    cases d'
  have nsK: ∀ {b:Addr} {m:Str->Option Value},s₁.heap.Ns b m->(ZiD s₁.heap H).Ns b m:=fun {b m} ⟨o,es,ep,e,d,r⟩=>⟨o,es,ep,base_of e (noA e d),d,r⟩
  have hKb:K.In (ZiD s₁.heap H):=fun b o e=>base_of (KX b o e) (by
   cases q:H b with
   |none=>rfl
   |some u=>
    have e':b=a:=hA b (by rw[q];simp)
    subst e';rw[hK (by rw[q];simp)] at e;cases e)
  have hM:Mod K mg (ZiD s₁.heap H):=⟨hKb,nsK hns,⟨mb,nsK hb,hbb⟩,let ⟨mc,h1,h2⟩:=hlim;⟨mc,nsK h1,h2⟩⟩
  have e0:Env0 P w K mg (ZiD s₁.heap H) callerA [] s₁ H:=⟨rfl,hM,fun b o e=>Zgv e,Nat.le_of_eq (Zgu _ _),trivial,fun b hb=>absurd (show b∈([]:List Addr) from hb) (by simp),hok,.of_eq hg,.inl rfl⟩
  refine codeAny_mono ((F _ hKb (nsK hns)).run callerA [] s₁ H ⟨[.ref a],[]⟩ [.ref a] [.ref a] _ _ hr e0 (hbind s₁ (.ref a)) (.cons rfl .nil) (hsp H hO hS)) fun r s' h=> ?_
  cases r with
  |error e=>exact (hCX H e s' h).elim
  |ok fl=>
   cases fl with
   |next=>exact False.elim h
   |brk=>exact False.elim h
   |cont=>exact False.elim h
   |ret u=>
    obtain ⟨v,H',os,bare,un,hok',r',q⟩:=h
    have q':v= .bl true:=q
    subst q';obtain rfl:u=Value.bool true:=r'
    refine ⟨rfl,OldK.of_keep fun b o e=> ?_,os,bare⟩
    cases q:H b with
    |none=>exact un.keep b o e q (by intro z;exact absurd (show b∈([]:List Addr) from z) (by simp)) (by simp)
    |some u=>
     rcases hO b with z | ⟨ob,xs,z⟩
     ·rw[q] at z;cases z
     ·have z2:=un.frzs b ob _ z
      obtain ⟨e1,_⟩:=hok b _ z
      obtain ⟨e2,_⟩:=hok' b _ z2
      rw[e] at e1;cases e1;exact e2
 cases hk:K.lookup a with
 |some o=>
  have e:=KX a o hk
  rw[ha] at e;cases e
  refine core (fun _=>none) (fun _=> .inl rfl) (.inr ⟨_,vs.toArray,_,hk,rfl,rfl,rfl,by rw[List.size_toArray,lenV];exact hl,by simpa using rv⟩) (fun b u z=>by have z':(none:Option HO)=some u:=z;cases z') (fun b z=>absurd rfl z) fun z=>absurd rfl z
 |none=>
  refine core (fun b=>if b=a then some (.frz { cls:= .type "list",data:= .seq vs.toArray } (.lst (ns.map V.int))) else none) (fun b=> ?_) (.inl (.inr ⟨{ cls:= .type "list",data:= .seq vs.toArray },if_pos rfl⟩)) (fun b u z=> ?_) (fun b z=> ?_) fun _=>hk
  ·by_cases hb:b=a
   ·exact .inr ⟨_,_,if_pos hb⟩
   ·exact .inl (if_neg hb)
  ·by_cases hb:b=a
   ·have z':=(if_pos hb).symm.trans z
    cases z'
    subst hb;exact ⟨ha,by rw[List.length_map];exact hl,vs,_,rv,ha⟩
   ·have z':=(if_neg hb).symm.trans z
    cases z'
  ·by_cases hb:b=a
   ·exact hb
   ·exact absurd (if_neg hb) z
theorem Zla {l:PySem.W.OpenLaw}{n k:Nat}{q:Program}{loose:List Str}{XP:(Str->Option Value)->Heap->Prop}{YP:World->Heap->Prop}{d:DefRec}{K:Params->Fg}{CX:World->CXT}{sp:World->Sp}{x:Str}
  (hn:l.most=some n) (hn2:n<=sizeLine) (hdf:d.params.defaults=[]) (hr:Room k callerA)
  (hY: ∀ (w:World) (h:Heap),YP w h->(K w.params).In h)
  (F: ∀ (w:World) (mg:Str->Option Value) (fa:Addr) (h:Heap),(K w.params).In h->h.Ns mainGlobals mg->mg d.name=some (.ref fa)->
   ∃ fd:FuncData,(∀ (s:Shared) (u:Value),BindsTo s fd ⟨[u],[]⟩ [(x,u)])/\
    ∀ base:Heap,(K w.params).In base->base.Ns mainGlobals mg->FnOk l.prog w (K w.params) mg base (CX w) k fa fd [x] (sp w))
  (hsp: ∀ (w:World) (H:Hp) (a:Addr) (ns:List Int),ns.length<=n->Zqb H->SqL (K w.params) H a (ns.map V.int)->sp w [.ref a] H (fun v _=>v= .bl true) fun _ _ _=>False)
  (hCX: ∀ (w:World) (H:Hp) (s:Shared) (e:Value) (s':Shared),CX w [] H s (fun _ _ _=>False) e s'->False):
  PySem.W.WalkO q loose XP YP l.row.toRowW d [] (fun f vs=>PySem.call f vs):=by
 refine Att.ZeA hn hdf fun w s₀ s₁ mg mb fa o pm cd doc a vs ns G Y ho hd hcd hmg hobj hints hlen hg=> ?_
 have KX:=hY w _ Y
 obtain ⟨fd,hb,hF⟩:=F w mg fa _ KX G.T.g hmg
 exact ZiU KX G.T.g G.T.b G.T.builtins G.T.nolimit hg hobj hints (Nat.le_trans hlen hn2) hr hF hb (fun H hO hS=>hsp w H a ns hlen hO hS) fun H e s'=>hCX w H s₁ e s'
noncomputable def Zbm (s:Stmt):Arguments:=match s with
 | .FunctionDef _ a _ _ _ _ _ _ _ _=>a
 |_=>{ posonlyargs:=[],args:=[],vararg:=none,kwonlyargs:=[],kw_defaults:=[],kwarg:=none,defaults:=[] }
noncomputable def ZaN (s:Stmt):List Stmt:=match s with
 | .FunctionDef _ _ b _ _ _ _ _ _ _=>b
 |_=>[]
noncomputable def Zz (s:Stmt):Scope:=match s with
 | .FunctionDef _ _ _ _ _ _ sc _ _ _=>sc
 |_=>{ kind:= .function,names:=[],isGenerator:=false,isCoroutine:=false }
noncomputable abbrev E0:XK:=fun _ _ _=>False
structure Fun (K:Fg) (x qual:Str) (st:Stmt) (f:Addr) (fd:FuncData):Prop where
 ex: ∃ (oc:Value) (od:Option Addr) (kV doc pm:Value) (an:Option Addr) (cdv ct:Value) (osl:Array (Option Value)),
  fd=PySem.W.fnOf x qual (Zbm st) (ZaN st) (Zz st) .none kV doc pm an cdv ct/\K.lookup f=some ⟨oc,od,.func fd,osl⟩/\PySem.W.codeIn K cdv qual=true
 kp:PySem.W.keepIn K (.ref f)=true
section
variable {P:Program}{w:World}{K:Fg}{mg:Str->Option Value}{base:Heap}
theorem Fun.binds {x qual:Str}{st:Stmt}{f:Addr}{fd:FuncData}{ps:List Str}(F:Fun K x qual st f fd)
  (h: ∀ (kV doc pm:Value) (an:Option Addr) (cdv ct:Value) (us:List Value),us.length=ps.length->bindArgs (PySem.W.fnOf x qual (Zbm st) (ZaN st) (Zz st) .none kV doc pm an cdv ct) ⟨us,[]⟩=pure (ps.zip us)):Zey K fd ps []:=by
 obtain ⟨oc,od,kV,doc,pm,an,cdv,ct,osl,rfl,lk,hcd⟩:=F.ex
 exact .all (h kV doc pm an cdv ct)
theorem Znj {x qual:Str}{st:Stmt}{f:Addr}{oc:Value}{od an:Option Addr}{osl:Array (Option Value)}{kV doc pm cdv ct:Value}(l:K.lookup f=some ⟨oc,od,.func (PySem.W.fnOf x qual (Zbm st) (ZaN st) (Zz st) .none kV doc pm an cdv ct),osl⟩)
  (c:PySem.W.codeIn K cdv qual=true) (k:PySem.W.keepIn K (.ref f)=true):Fun K x qual st f (PySem.W.fnOf x qual (Zbm st) (ZaN st) (Zz st) .none kV doc pm an cdv ct):=⟨⟨oc,od,kV,doc,pm,an,cdv,ct,osl,rfl,l,c⟩,k⟩
end
theorem ZgN {n:Nat}(h:n<=1000):n < sizeLine:=Nat.lt_of_le_of_lt h (by decide)
section
variable {X:Cx}
theorem pv (i:Nat){x:Str}{pos:Pos}(hN:X.N[i]?=some x:=by rfl)(hv:Vis X.env.scope x:=by first | exact Or.inl rfl | exact Or.inr (Or.inl rfl) | exact Or.inr (Or.inr rfl))(hd:(x == ("__debug__":Str))=false:=by decide)
  (hcd:(x == ("__classdict__":Str))=false:=by decide):PE X (.Name x pos) (ZsH i):=ZjX hN hv hd hcd
end
theorem Zlb {A B:Prop}(h:B):if false=true then A else B:=by
 rw[if_neg Bool.false_ne_true];exact h
theorem Zlc {A B:Prop}(h:A):if true=true then A else B:=by
 rw[if_pos rfl];exact h
end L2
end
section
namespace DL
open PyProof.Rows L2
structure Rw where
 n:String
 i:Nat
 f:Nat
 m:String
 t:Nat
 u:Nat
 ln:Nat
 na:Nat
 b:Bool
 v:Nat
noncomputable def zz1 (P:Params)(s:String)(n:Nat)(v:Value):DictEntry:={ hash:=PyData.keyHash P (Str.ofString s),key:=Value.str (Str.ofString s) n,val:=v }
noncomputable def zz3 (s:String)(n:Nat):Value:=Value.str (Str.ofString s) n
noncomputable def zz4 (n:Int):Value:=Value.int n 0
noncomputable def zz6 (b:Bool)(n:Nat):Value:=if b then .ref n else .none
def Rw.fo (p:Nat->Stmt)(r:Rw):Obj:=⟨.type "function",none,.func (PySem.W.fnOf r.n r.n (Zbm (p r.i)) (ZaN (p r.i)) (Zz (p r.i)) .none .none .none (.str r.m r.t) none (.ref (r.f - 1)) .none),#[]⟩
def Rw.co (r:Rw):Obj:={ cls:=Value.type "code",data:=Data.fields #[zz3 r.n r.u,zz3 r.n (r.u + 1),zz3 "/claim/cut.py" (r.u + 2),zz4 r.ln,zz4 r.na,zz4 0,zz4 0,zz4 3,.ref (r.f - (if r.b then 6 else 4)),.bool true,zz4 181,.ref (r.f - (if r.b then 5 else 3)),.none,zz6 r.b (r.f - 4),zz6 r.b (r.f - 3),.ref (r.f - 2),zz4 r.v,zz4 r.ln,zz3 "/claim/cut.py" (r.v + 1)] }
def Rw.de (P:Params)(r:Rw):DictEntry:=zz1 P r.n (r.v + 2) (.ref r.f)
def Rw.en (p:Nat->Stmt)(r:Rw):Fg:=[(r.f,r.fo p),(r.f - 1,r.co)]
structure Cw where
 n:String
 f:Nat
 t:Nat
 ln:Nat
def Cw.cls (r:Cw):Obj:={ cls:=Value.type "type",data:=Data.cls { name:=Str.ofString r.n,bases:=[Value.ref 24],mro:=[Value.ref r.f,Value.ref 24,Value.type "ValueError",Value.type "Exception",Value.type "BaseException",Value.type "object"],ns:=r.f - 1,qualname:=Str.ofString r.n },slots:= #[some (Value.ref (r.f - 9)),none,some (zz3 r.n r.t),some (zz3 r.n (r.t + 8)),some (Value.builtin "ValueError.__new__"),some (Value.bool true)] }
def Cw.ns (P:Params)(r:Cw):Obj:={ cls:=Value.type "dict",data:=Data.dict #[zz1 P "__module__" (r.t + 7) (zz3 "rayround.errors" 187),zz1 P "__firstlineno__" (r.t + 11) (Value.int r.ln (r.t + 10)),zz1 P "__static_attributes__" (r.t + 12) (Value.ref (r.f - 2)),zz1 P "__doc__" (r.t + 13) Value.none] 2 }
def Cw.de (P:Params)(r:Cw):DictEntry:=zz1 P r.n (r.t + 15) (.ref r.f)
def Cw.en (P:Params)(r:Cw):Fg:=[(r.f,r.cls),(r.f - 1,r.ns P)]
end DL
end
section
namespace HD
open PySem.W PyProof.Rows
noncomputable def Zqc (thr:Thread->Bool)(stp:SharedT->Thread->Option (SharedT × Thread))(n:Nat):SharedT->Thread->Option SharedT:=
 Nat.rec (motive:=fun _=>SharedT->Thread->Option SharedT) (fun _ _=>none) (fun _ ih s t=>Bool.rec (motive:=fun _=>Option SharedT) (Option.rec (motive:=fun _=>Option SharedT) none (fun r=>ih r.1 r.2) (stp s t)) (some s) (thr t)) n
noncomputable def ZiV (ok:Thread->Bool)(stp:SharedT->Thread->Option (SharedT × Thread))(s:SharedT)(t:Thread):Option (SharedT × Thread):=Bool.rec (motive:=fun _=>Option (SharedT × Thread)) none (stp s t) (ok t)
section
variable {tb:String->Option Builtin}{p:Program}{w:World}{n₀:Nat}{ann:Option Value}
theorem Zj4: ∀ {n:Nat} {s s':SharedT} {t:Thread},Zqc through (ZiV (stepOk n₀ ann) (stepT (denote tb) p w)) n s t=some s'->topRun tb p w n₀ ann n s.abs t=some s'.abs
 |0,s,s',t,h=>by cases h
 |n + 1,s,s',t,h=>by
  unfold topRun
  change Bool.rec (motive:=fun _=>Option SharedT) (Option.rec (motive:=fun _=>Option SharedT) none (fun r=>Zqc through (ZiV (stepOk n₀ ann) (stepT (denote tb) p w)) n r.1 r.2) (ZiV (stepOk n₀ ann) (stepT (denote tb) p w) s t)) (some s) (through t)=some s' at h
  cases ht:through t with
  |true=>
   rw[ht] at h;have h':some s=some s':=h
   cases h'
   rfl
  |false=>
   rw[ht] at h;cases hk:stepOk n₀ ann t with
   |false=>
    have e:ZiV (stepOk n₀ ann) (stepT (denote tb) p w) s t=none:=by unfold ZiV;rw[hk]
    rw[e] at h;cases h
   |true=>
    have e:ZiV (stepOk n₀ ann) (stepT (denote tb) p w) s t=stepT (denote tb) p w s t:=by unfold ZiV;rw[hk]
    rw[e] at h;cases hs:stepT (denote tb) p w s t with
    |none=>rw[hs] at h;cases h
    |some r=>
     obtain ⟨s2,t2⟩:=r
     rw[hs] at h
     have:=stepT_spec hs
     rw[this];exact Zj4 (n:=n) h
end
noncomputable def T0 (w:World)(os:OsState):SharedT:=
 ⟨[boot_o_0,boot_o_1,boot_o_2,boot_o_3,boot_o_4,boot_o_5,boot_o_6,boot_o_7,boot_o_8,boot_o_9,boot_o_10].foldl (fun (r:Nat × BT) o=>(r.1 + 1,r.2.ins r.1 (o w.params))) (0,.nil) |>.2,11,(boot_heap w.params).life,#[],boot_drawn,boot_toks,os⟩
theorem Znk (w:World)(os:OsState):(T0 w os).abs=⟨boot_heap w.params,#[],boot_drawn,boot_toks,os⟩:=by kernel_rfl
theorem Zld:Str.ofString "__annotations__"=⟨#[95,95,97,110,110,111,116,97,116,105,111,110,115,95,95]⟩:=by decide +kernel
theorem ZgO {p q:Program}{loose:List Str}{Xt:Shared->Bool}{α:Type}{Yf:Shared->α}{Ya:World->α}{N M:Nat}(e:opening p=plainProg p.main.scope.names)(hN:Nat.ble 600 N=true)(f: ∀ s,fenceModules? p s=some s)(le:Nat.ble M N=true)
  (Zqz: ∀ (w:World) (os:OsState),(Zqc through (ZiV (stepOk 11 (some (.ref 6))) (stepT (denote treeTable) p w)) M (T0 w os) (topStub p)).map (fun s=>((staticsOk (importedModules p.main.body) (boot_heap w.params) s.abs.heap && namesBound p s.abs.heap && gensDone s.abs && laidKept (boot_heap w.params) s.abs.heap),
    openSeen q loose (importedModules p.main.body) Xt true s.abs,Yf s.abs))=some (true,openGood q loose,Ya w)):LeftO p q loose Xt Yf Ya N:=fun w=>by
 obtain ⟨⟨h,gs,d,k,os⟩,e1,e2⟩:=Option.map_eq_some_iff.mp (boot_open e hN f w)
 obtain ⟨rfl,rfl,rfl,rfl⟩:h=boot_heap w.params/\gs=Array.mk []/\d=boot_drawn/\k=boot_toks:=by simpa using e2
 obtain ⟨s',r1,r2⟩:=Option.map_eq_some_iff.mp (Zqz w os)
 obtain ⟨l1,l2,l3⟩:_/\_/\_:=by simpa only[Prod.mk.injEq] using r2
 have r:=Zj4 r1
 rw[Znk] at r;have r:=topRun_mono (N - M) _ _ _ _ r
 rw[show M + (N - M)=N by have:=Nat.le_of_ble_eq_true le;lia] at r
 have z1:((boot_heap w.params).isNs mainGlobals && (Array.mk []:Array GenState).size == 0)=true:=by kernel_rfl
 have z2:(boot_heap w.params).objs.size=11:=rfl
 have z3:(boot_heap w.params).nsMap mainGlobals "__annotations__"=some (.ref 6):=by
  rw[Zld]
  kernel_rfl
 have t:topFrom treeTable p w N ⟨boot_heap w.params,Array.mk [],boot_drawn,boot_toks,os⟩=some s'.abs:=by
  unfold topFrom;dsimp only;rw[z1,z2,z3,r];show (match staticsOk (importedModules p.main.body) (boot_heap w.params) s'.abs.heap && namesBound p s'.abs.heap && gensDone s'.abs && laidKept (boot_heap w.params) s'.abs.heap with | true=>_ | false=>_)=_
  rw[l1]
 unfold openEnds;rw[e1];show (topFrom treeTable p w N _).map _=_
 rw[t];exact congrArg some (Prod.ext l2 l3)
end HD
namespace HD
open PySem.W
theorem ZqA: @stepOk= @PySem.W.Fast.tw6613529449190102663:=PySem.W.Fast.te6613529449190102663
theorem Zle: @stepT= @PySem.W.Fast.tw10156331382660048174:=PySem.W.Fast.te10156331382660048174
theorem Znl: @denote= @PySem.W.Fast.tw11892475500146522536:=PySem.W.Fast.te11892475500146522536
theorem Znm: @treeTable= @PySem.W.Fast.tw14364793385576792824:=PySem.W.Fast.te14364793385576792824
theorem Zlf: @openSeen= @PySem.W.Fast.tw4187177175401517315:=PySem.W.Fast.te4187177175401517315
theorem Znn: @importedModules= @PySem.W.Fast.tw5923862056798008813:=PySem.W.Fast.te5923862056798008813
end HD
end
section
namespace K37
open L2 DL
noncomputable def top (i:Nat):Stmt:=PySem.Challenge.pw_rayround_k37_whole_alike_or_not.main.body.getD i (.Pass ⟨0,0,0,0⟩)
noncomputable abbrev rw0 (n:String)(i f u ln na:Nat)(b:Bool)(v:Nat):Rw:=⟨n,i,f,"rayround.pairs",255,u,ln,na,b,v⟩
noncomputable abbrev rw1 (n:String)(i f u ln na:Nat)(b:Bool)(v:Nat):Rw:=⟨n,i,f,"rayround.rounds",327,u,ln,na,b,v⟩
noncomputable abbrev rw2 (n:String)(i f u ln na:Nat)(b:Bool)(v:Nat):Rw:=⟨n,i,f,"rayround.wedges",354,u,ln,na,b,v⟩
noncomputable abbrev rw3 (n:String)(i f u ln na:Nat)(b:Bool)(v:Nat):Rw:=⟨n,i,f,"rayround.leastrounds",409,u,ln,na,b,v⟩
noncomputable abbrev rw4 (n:String)(i f u ln na:Nat)(b:Bool)(v:Nat):Rw:=⟨n,i,f,"rayround.numbers",421,u,ln,na,b,v⟩
noncomputable abbrev rw5 (n:String)(i f u ln na:Nat)(b:Bool)(v:Nat):Rw:=⟨n,i,f,"rayround.likeness",429,u,ln,na,b,v⟩
noncomputable abbrev rw6 (n:String)(i f u ln na:Nat)(b:Bool)(v:Nat):Rw:=⟨n,i,f,"law_rayround_k37_whole_alike_or_not",468,u,ln,na,b,v⟩
def tab:List Rw:=[rw0 "crossed" 6 70 257 11 2 true 262,rw0 "spanned" 7 77 265 13 2 true 270,rw0 "turned" 8 84 273 15 2 true 284,rw0 "back" 9 91 287 19 1 true 296,rw0 "beside" 10 98 299 23 2 true 304,rw0 "then" 11 105 307 25 2 true 314,rw0 "leading" 12 112 317 29 4 true 324,rw1 "following" 14 119 329 34 2 true 334,rw1 "unspanned" 15 126 337 36 1 true 343,rw1 "ask_smooth" 16 133 346 41 1 true 351,rw2 "partner" 18 140 356 46 1 true 365,rw2 "first_behind" 19 147 368 54 2 true 375,rw2 "expanded" 20 154 378 58 2 true 385,rw2 "row" 21 161 388 65 2 true 393,rw2 "between" 22 168 396 69 2 true 406,rw3 "least_round" 24 175 411 78 1 true 418,rw4 "numbers" 26 180 423 85 1 false 426,rw5 "marked_row" 28 185 431 89 2 false 434,rw5 "first_reading" 29 192 437 92 1 true 451,rw5 "likeness" 30 199 454 105 2 true 465,rw6 "_law_purse" 32 206 470 112 2 true 477,rw6 "_law_take" 33 213 480 118 2 true 486,rw6 "_law_crossed" 34 220 489 125 2 true 494,rw6 "_law_short" 35 227 497 127 1 true 503,rw6 "_law_greatest" 36 232 506 134 1 false 509,rw6 "_law_put" 37 239 512 136 2 true 521,rw6 "_law_sheared" 38 244 524 144 3 false 527,rw6 "_law_smooth" 39 249 530 149 2 false 533,rw6 "_law_round" 40 254 536 163 2 false 539,rw6 "_law_table" 41 261 542 179 1 true 549,rw6 "_law_led" 42 268 552 190 2 true 557,rw6 "_law_copy" 43 273 560 192 2 false 563,rw6 "_law_is_alike" 44 278 566 201 3 false 569,rw6 "_law_changed" 45 285 572 208 2 true 584,rw6 "_law_any_turning" 46 290 587 221 4 false 590,rw6 "law" 47 297 593 230 1 true 604]
noncomputable def ZsP (p:Program)(i:Nat):Stmt:=p.main.body.getD i (.Pass ⟨0,0,0,0⟩)
noncomputable def ZqB:List Cw:=[⟨"NoTurning",37,207,4⟩,⟨"NotSmooth",49,223,6⟩,⟨"NoWedge",61,239,8⟩]
def Kf (p:Program)(P:Params):Fg:=(3,{ cls:=Value.type "dict",data:=Data.dict ([zz1 P "__name__" 165 (zz3 "law_rayround_k37_whole_alike_or_not" 468),zz1 P "__doc__" 166 (Value.none),zz1 P "__package__" 167 (Value.none),zz1 P "__loader__" 168 (Value.builtin "__main__.__loader__#opaque"),zz1 P "__spec__" 169 (Value.none),zz1 P "__annotations__" 170 (Value.ref 6),zz1 P "__builtins__" 171 (Value.ref 4),zz1 P "__file__" 173 (zz3 "/claim/cut.py" 172),zz1 P "__cached__" 174 (Value.none),zz1 P "RayError" 206 (Value.ref 24)] ++ ZqB.map (·.de P) ++ tab.map (·.de P)).toArray 49 }) :: tab.flatMap (·.en (ZsP p)) ++ ZqB.flatMap (·.en P) ++ [(23,{ cls:=Value.type "dict",data:=Data.dict #[zz1 P "__module__" 196 (zz3 "rayround.errors" 187),zz1 P "__firstlineno__" 200 (Value.int 2 199),zz1 P "__static_attributes__" 201 (Value.ref 22),zz1 P "__weakref__" 203 (Value.ref 25),zz1 P "__doc__" 204 (Value.none)] 3 }),
 (24,{ cls:=Value.type "type",data:=Data.cls { name:=Str.ofString "RayError",bases:=[Value.type "ValueError"],mro:=[Value.ref 24,Value.type "ValueError",Value.type "Exception",Value.type "BaseException",Value.type "object"],ns:=23,qualname:=Str.ofString "RayError",subclasses:=[Value.ref 37,Value.ref 49,Value.ref 61] },slots:= #[some (Value.ref 15),none,some (zz3 "RayError" 189),some (zz3 "RayError" 197),some (Value.builtin "ValueError.__new__"),some (Value.bool true)] })]
def asK:List Addr:=3 :: tab.flatMap (fun r=>[r.f,r.f - 1]) ++ ZqB.flatMap (fun r=>[r.f,r.f - 1]) ++ [23,24]
theorem Zno (p:Program)(P:Params):asK=(Kf p P).map (·.1):=by kernel_rfl
def qf (p:Program):Program:={ p with main:={ p.main with body:=[ZsP p 47] } }
noncomputable def lo:List Str:=(["__name__","RayError","NoTurning","NotSmooth","NoWedge","crossed","spanned","turned","back","beside","then","leading","following","unspanned","ask_smooth","partner","first_behind","expanded","row","between","least_round","numbers","marked_row","first_reading","likeness","_law_purse","_law_take","_law_crossed","_law_short","_law_greatest","_law_put","_law_sheared","_law_smooth","_law_round","_law_table","_law_led","_law_copy","_law_is_alike","_law_changed","_law_any_turning"]:List String).map Str.ofString
open PySem.W
noncomputable abbrev pw:=PySem.Challenge.pw_rayround_k37_whole_alike_or_not
abbrev Hk:Hook:=kHook (Kf pw) asK (Zno pw)
set_option maxRecDepth 1000000 in
set_option maxHeartbeats 0 in
theorem Zqz (w:World)(os:OsState):(HD.Zqc through (HD.ZiV (stepOk 11 (some (.ref 6))) (stepT (denote treeTable) PySem.Challenge.pw_rayround_k37_whole_alike_or_not w)) 2052 (HD.T0 w os) (topStub PySem.Challenge.pw_rayround_k37_whole_alike_or_not)).map (fun s=>((staticsOk (importedModules PySem.Challenge.pw_rayround_k37_whole_alike_or_not.main.body) (boot_heap w.params) s.abs.heap && namesBound PySem.Challenge.pw_rayround_k37_whole_alike_or_not s.abs.heap && gensDone s.abs && laidKept (boot_heap w.params) s.abs.heap),
  openSeen (qf PySem.Challenge.pw_rayround_k37_whole_alike_or_not) lo (importedModules PySem.Challenge.pw_rayround_k37_whole_alike_or_not.main.body) (fun s=>xlAt (qf PySem.Challenge.pw_rayround_k37_whole_alike_or_not) [] s && recOk [] s) true s.abs,asK.map s.abs.heap.get?))=some (true,openGood (qf PySem.Challenge.pw_rayround_k37_whole_alike_or_not) lo,(Kf PySem.Challenge.pw_rayround_k37_whole_alike_or_not w.params).map fun x=>some x.2):=by
 rw[HD.ZqA,HD.Zle,HD.Znl,HD.Znm,HD.Zlf,HD.Znn]
 kernel_rfl
set_option maxRecDepth 1000000 in
set_option maxHeartbeats 0 in
theorem Zt2:PySem.W.OpenLaw.wellSaid PySem.Challenge.rw_rayround_k37_whole_alike_or_not=true:=by kernel_rfl
end K37
end
section
namespace L2
open PyProof.Rows
section
variable (P:Program)(w:World)
end
section
variable {P:Program}{w:World}{H H':Hp}{h h':Heap}{a:Addr}{o:HO}
end
section
variable {P:Program}{w:World}{H:Hp}{h h':Heap}{x e:Addr}{o':HO}
end
section
variable {fs fs' ex ex':List Addr}{H H1 H2:Hp}{h h1 h2 h':Heap}{a x e:Addr}{o:HO}
end
section
variable {X:Cx}{pins:Pn}{σ:List (Option V)}{H H':Hp}{s:Shared}{h':Heap}
end
section
variable {X:Cx}
variable {a b:Expr}{ta tb:TE}{pos:Pos}
variable {tA tB':TT}{rest:List Expr}
end
section
variable {X:Cx}{pins:Pn}{σ:St}{H:Hp}{s:Shared}{a:Addr}{xs ys:List V}
end
section
variable {X:Cx}{pins:Pn}{σ:St}{H:Hp}{s:Shared}{E:Vp}
end
section
variable {X:Cx}{st:Stmt}{rest:List Stmt}{t u:TS}{e:Expr}{te:TE}{pos:Pos}
end
section
variable {X:Cx}{pos:Pos}
end
section
variable {X:Cx}{tg:Expr}
end
section
variable {X:Cx}{a b c:Expr}{ta tb tc:TE}{pos:Pos}
end
section
variable {prog:Program}{w:World}{A:Around}{E:Vp}{s:Shared}{K:Fg}{x dx C f:Addr}{mA:Str->Option Value}{name:Str}{v:Value}
end
section
variable {P:Program}{w:World}{H H':Hp}{h h':Heap}{a C dx:Addr}{fs fs':List (Str × V)}
end
section
variable {X:Cx}{pins:Pn}{σ:St}{H:Hp}{s:Shared}{a C dx:Addr}{fs:List (Str × V)}{f:Str}{v:V}{A:Around}{E:Vp}
end
section
variable {X:Cx}{o e value:Expr}{f:Str}{pos pos' tpos:Pos}{ta tv:TE}
end
section
variable {X:Cx}{pins:Pn}{σ:St}{H:Hp}{s:Shared}{A:Around}{E:Vp}{Q:Vp}{c:Value}{b:Bool}
end
section
variable {X:Cx}{e:Expr}{es:List Expr}{te:TE}{t:TA}{pos:Pos}
end
section
variable {X:Cx}{pins:Pn}{σ:St}{H:Hp}{s s':Shared}
end
section
variable {X:Cx}{CX:CXT}{k:Nat}{f C:Addr}{fd:FuncData}{ps:List Str}{sp:Sp}{dvs:List V}{ds:List Value}{E:XK}{x m:Str}{p pos apos:Pos}{e o:Expr}{es:List Expr}{ta:TE}{t:TA}
end
section
variable {X:Cx}{CX:CXT}{k:Nat}{f C:Addr}{fd:FuncData}{ps ks:List Str}{sp:Sp}{E:XK}{x m:Str}{p pos apos kpos:Pos}{e o:Expr}{es:List Expr}{kws:List Keyword}{te ta:TE}{t tk:TA}{nm:Option Str}
variable {g:List Value->List Value->List Value}{gV:List V->List V->List V}
end
section
variable {X:Cx}{x:Str}{p pos:Pos}{e:Expr}{es:List Expr}{t:TA}{id T:String}{r:List V->Hp->VK->Prop}
end
section
variable {κ:Type}[DecidableEq κ]
noncomputable def Zet (kvs:List (κ × V))(k:κ):Option V:=(kvs.find? fun kv=>decide (kv.1=k)).map (·.2)
noncomputable def ZgP (kvs:List (κ × V))(k:κ)(v:V):List (κ × V):=
 if (kvs.any fun kv=>decide (kv.1=k))=true then kvs.map (fun kv=>if kv.1=k then (kv.1,v) else kv) else kvs ++ [(k,v)]
theorem Zcd {p:κ × V}{r:List (κ × V)}{k:κ}(e:p.1=k):Zet (p :: r) k=some p.2:=by simp[Zet,List.find?_cons,e]
theorem Zce {p:κ × V}{r:List (κ × V)}{k:κ}(e: ¬ p.1=k):Zet (p :: r) k=Zet r k:=by simp[Zet,List.find?_cons,e]
theorem Zdc (k:κ): ∀ kvs:List (κ × V),(kvs.any fun kv=>decide (kv.1=k))=(Zet kvs k).isSome
 | []=>rfl
 |p :: r=>by
  rw[List.any_cons]
  by_cases e:p.1=k
  ·simp only[Zcd e,decide_eq_true e,Bool.true_or,Option.isSome_some]
  ·rw[Zce e,decide_eq_false e,Bool.false_or];exact Zdc k r
theorem ZeB (kvs:List (κ × V))(k:κ)(v:V):(ZgP kvs k v).length<=kvs.length + 1:=by
 unfold ZgP
 split
 ·rw[List.length_map];lia
 ·rw[List.length_append,List.length_cons,List.length_nil];lia
theorem ZmD.isSome_eq {o:Option V}{u:Option Value}(r:ZmD o u):o.isSome=u.isSome:=by
 cases o with
 |none=>cases u with
  |none=>rfl
  |some _=>exact (show False from r).elim
 |some _=>cases u with
  |none=>exact (show False from r).elim
  |some _=>rfl
theorem KV.val {kvs:List (κ × V)}{vs:List (κ × Value)}(r:KV kvs vs)(k:κ):ZmD (Zet kvs k) (valueAt vs k):=by
 unfold KV at r
 induction r with
 |nil=>exact True.intro
 | @cons p q ps qs h t ih=>
  obtain ⟨h1,h2⟩:=h
  by_cases e:p.1=k
  ·have e':q.1=k:=h1.symm.trans e
   have b:valueAt (q :: qs) k=some q.2:=by simp[valueAt,List.find?_cons,e']
   rw[Zcd e,b];exact h2
  ·have e': ¬ q.1=k:=fun z=>e (h1.trans z)
   have b:valueAt (q :: qs) k=valueAt qs k:=by simp[valueAt,List.find?_cons,e']
   rw[Zce e,b];exact ih
end
theorem Znp {P:Program}{w:World}{k:Key}{u:Value}(r:ZM (kV k) u):(Zai P w).is k u=true:=by
 cases k with
 |inl i=>obtain ⟨t,e⟩:=(show ∃ t,u=Value.int i t from r);subst e;exact Zev P w i t
 |inr x=>obtain ⟨t,e⟩:=(show ∃ t,u=Value.str x t from r);subst e;exact Zew P w x t
theorem ZdR {P:Program}{w:World}: ∀ {ks:List Key} {us:List Value},ZO (ks.map kV) us->ItemsAre (Zai P w) ks us
 | [],_,r=>by rw[List.map_nil] at r;cases r;exact .nil
 |k :: ks,_,r=>by
  rw[List.map_cons] at r;cases r with
  |cons h t=>exact .cons (Znp h) (ZdR t)
abbrev KT (H:Hp):List (List Key × V)->List (List Key × Addr × Value)->Prop:=Paired fun p q=>p.1=q.1/\H q.2.1=some (.tup (p.1.map kV))/\ZM p.2 q.2.2
theorem KT.val {H:Hp}{kvs:List (List Key × V)}{xs:List (List Key × Addr × Value)}(r:KT H kvs xs)(k:List Key):ZmD (Zet kvs k) ((atKey xs k).map (·.2)):=by
 induction r with
 |nil=>exact True.intro
 | @cons p q ps qs h t ih=>
  obtain ⟨h1,_,h2⟩:=h
  by_cases e:p.1=k
  ·have e':q.1=k:=h1.symm.trans e
   have b:atKey (q :: qs) k=some q.2:=by simp[atKey,List.find?_cons,e']
   rw[Zcd e,b];exact h2
  ·have e': ¬ q.1=k:=fun z=>e (h1.trans z)
   have b:atKey (q :: qs) k=atKey qs k:=by simp[atKey,List.find?_cons,e']
   rw[Zce e,b];exact ih
theorem KT.repl {H:Hp}{kvs:List (List Key × V)}{xs:List (List Key × Addr × Value)}(r:KT H kvs xs)(k:List Key){y:V}{u:Value}(ry:ZM y u):
  KT H (kvs.map fun kv=>if kv.1=k then (kv.1,y) else kv) (xs.map (putAt k u)):=by
 induction r with
 |nil=>exact .nil
 | @cons p q ps qs h t ih=>
  rw[List.map_cons,List.map_cons];refine .cons ?_ ih
  obtain ⟨h1,h2,h3⟩:=h
  unfold putAt
  by_cases e:p.1=k
  ·rw[if_pos e,if_pos (h1.symm.trans e)];exact ⟨h1,h2,ry⟩
  ·rw[if_neg e,if_neg (fun z=>e (h1.trans z))];exact ⟨h1,h2,h3⟩
theorem KT.put {H:Hp}{kvs:List (List Key × V)}{xs:List (List Key × Addr × Value)}(r:KT H kvs xs)(k:List Key){b:Addr}{y:V}{u:Value}(hb:H b=some (.tup (k.map kV)))(ry:ZM y u):
  KT H (ZgP kvs k y) (storedH xs k b u):=by
 have e:(kvs.any fun kv=>decide (kv.1=k))=(atKey xs k).isSome:=by
  rw[Zdc,(r.val k).isSome_eq,Option.isSome_map]
 unfold ZgP storedH;rw[e]
 by_cases q:(atKey xs k).isSome=true
 ·rw[if_pos q,if_pos q];exact r.repl k ry
 ·rw[if_neg q,if_neg q];exact Paired.snoc r ⟨rfl,hb,ry⟩
theorem KT.keeps {H H':Hp}{kvs:List (List Key × V)}{xs:List (List Key × Addr × Value)}(r:KT H kvs xs)(ht: ∀ b ys,H b=some (.tup ys)->H' b=some (.tup ys)):KT H' kvs xs:=
 Paired.mapP r fun _ _ z=>⟨z.1,ht _ _ z.2.1,z.2.2⟩
section
variable {P:Program}{w:World}{H:Hp}{h:Heap}{a:Addr}
theorem Znq {u:HO}(ok:HOk P w H h)(e:Rd H a u):Zay P w H h a u:=e.ok ok
theorem ZqC {kvs:List (Key × V)}(ok:HOk P w H h)(e:Rd H a (.dK kvs)):kvs.length<=sizeLine/\(a == sysModules)=false/\ ∃ vs,KV kvs vs/\h.DictOf (Zai P w) a vs:=
 show Zay P w H h a (.dK kvs) from Znq ok e
theorem ZgQ {ks:List Key}(ok:HOk P w H h)(e:H a=some (.tup (ks.map kV))):(tupleKind (Zai P w)).is h ks a:=by
 obtain ⟨_,its,r,o,h1,h2,n,h3⟩:=(show Zay P w H h a (.tup (ks.map kV)) from ok a _ e)
 exact ⟨o,its.toArray,n,h1,h2,h3,by simpa using ZdR r⟩
theorem Znr {kvs:List (List Key × V)}(ok:HOk P w H h)(e:Rd H a (.dT kvs)):kvs.length<=sizeLine/\(a == sysModules)=false/\
  ∃ xs,KT H kvs xs/\h.DictOfH (tupleKind (Zai P w)) a xs:=by
 obtain ⟨z,y,xs,r,o,es,ep,h1,h2,h3,h4,h5⟩:=(show Zay P w H h a (.dT kvs) from Znq ok e)
 refine ⟨z,y,xs,r,o,es,ep,h1,h2,h3,h4,fun x hx=> ?_,h5⟩
 have all: ∀ {l:List (List Key × V)} {m:List (List Key × Addr × Value)},KT H l m-> ∀ x∈m,(tupleKind (Zai P w)).is h x.1 x.2.1:=by
  intro l m q
  induction q with
  |nil=>intro x hx;exact nomatch hx
  | @cons p q ps qs hq t ih=>
   intro x hx
   rcases List.mem_cons.mp hx with e | hx
   ·subst e
    exact ZgQ ok (by rw[<- hq.1];exact hq.2.1)
   ·exact ih x hx
 exact all r x hx
theorem ZiW {kvs:List (List Key × V)}(ok:HOk P w H h)(e:H a=some (.dT kvs)):kvs.length<=sizeLine/\(a == sysModules)=false/\
  ∃ xs,KT H kvs xs/\h.DictOfH (tupleKind (Zai P w)) a xs:=Znr ok (.inl e)
end
def ZqD (H:Hp)(a:Addr)(y:V)(r:Option V):Prop:=
 (∃ kvs k,Rd H a (.dK kvs)/\y=kV k/\r=Zet kvs k)\/ ∃ kvs k b,Rd H a (.dT kvs)/\y= .ref b/\H b=some (.tup (k.map kV))/\r=Zet kvs k
section
variable {X:Cx}{pins:Pn}{σ:St}{H:Hp}{s:Shared}{a:Addr}{y v:V}{u r:Value}{o:Option V}{A:Around}{E:Vp}
theorem Inv.big (I:Inv X pins σ H s):sysModules < s.heap.objs.size:=by
 have h:mainGlobals < s.heap.objs.size:=(I.mod.glob.keeps I.bk).lt
 exact Nat.lt_trans (by decide) h
theorem Zt3 {Q:Vp}(hu:A.units + 1 < cLine)(I:Inv X pins σ H s)(g:ZqD H a y o)(ry:ZM y u)(h: ∀ s',Inv X pins σ H s'->Q (.bool o.isSome) s'):
  wpAny (model X.prog X.w) A (compareOp .In u (.ref a)) Q E s:=by
 rcases g with ⟨kvs,k,e,ey,l⟩ | ⟨kvs,k,b,e,ey,eb,l⟩
 ·subst ey
  obtain ⟨z,hd,vs,rel,dd⟩:=ZqC I.hok e
  refine wpAny_in_of (Znp ry) hd dd.mapOf ?_
  rw[<- (rel.val k).isSome_eq,<- l];exact h _ (I.tok _)
 ·subst ey
  cases (show u=Value.ref b from ry)
  obtain ⟨z,hd,xs,rel,dd⟩:=Znr I.hok e
  refine wpAny_in_heap (tupleKind_room_in1 hu) (ZgQ I.hok eb) hd dd ?_
  have q:=(rel.val k).isSome_eq
  rw[Option.isSome_map] at q;rw[<- q,<- l];exact h _ (I.tok _)
theorem Zlg {h':Heap}{t':Nat}{ob:HO}(I:Inv X pins σ H s)(mu:Mut (H a))(hs:Heap.SameBut a s.heap h')(he: ∃ q,h'.get? a=some q)(new:Zay X.prog X.w (upd H a ob) h' a ob):
  Inv X pins σ (upd H a ob) { s with heap:=h',toks:=t' }:=
 I.write (x:=a) (e:=a) mu (.inl rfl) (fun b q hb z=>(hs.2 b hb).trans z) he new
end
section
variable {X:Cx}{pins:Pn}{σ:St}{H:Hp}{s:Shared}{a:Addr}{kvs:List (Key × V)}{k:Key}{u:Value}{A:Around}{E:Vp}
end
section
variable {X:Cx}{o i e value:Expr}{pos pos' tpos:Pos}{td ty tv:TE}
end
theorem ZiX {P:Program}{w:World}{H:Hp}(h:Heap)(hb:sysModules < h.objs.size):Zay P w H (h.push { cls:= .type "dict",data:= .dict #[] }) h.objs.size (.dT []):=
 ⟨Nat.zero_le _,beq_eq_false_iff_ne.mpr (Ne.symm (Nat.ne_of_lt hb)),[],.nil,_,#[],0,Heap.get?_push_size _ rfl,⟨rfl,rfl,rfl⟩,rfl,rfl,List.nodup_nil⟩
section
variable {X:Cx}{pos:Pos}
end
structure M1 (X:Cx) (o:Expr) (m:Str) (apos:Pos) (e:Expr) (cpos:Pos):Prop where
 base:attributeBase o m X.env (eval o X.env)=eval o X.env
 few:((backTo cpos (starEach [e] X.env)).all (fun x=> !x.1) && (backToKw cpos (keywordEach [] X.env)).all (fun x=>x.1.isSome)
  && decide (([e]:List Expr).length + ([]:List Keyword).length + (if ([]:List Keyword).isEmpty then 0 else 1) < 30))=true
 line:(apos.endLine == cpos.line)=true
 trees:backTo cpos (starEach [e] X.env)=[(false,eval e X.env)]
structure M2 (X:Cx) (o:Expr) (m:Str) (apos:Pos) (e f:Expr) (cpos:Pos):Prop where
 base:attributeBase o m X.env (eval o X.env)=eval o X.env
 few:((backTo cpos (starEach [e,f] X.env)).all (fun x=> !x.1) && (backToKw cpos (keywordEach [] X.env)).all (fun x=>x.1.isSome)
  && decide (([e,f]:List Expr).length + ([]:List Keyword).length + (if ([]:List Keyword).isEmpty then 0 else 1) < 30))=true
 line:(apos.endLine == cpos.line)=true
 trees:backTo cpos (starEach [e,f] X.env)=[(false,eval e X.env),(false,eval f X.env)]
def IsD (H:Hp)(a:Addr):Prop:=(∃ kvs,Rd H a (.dK kvs))\/ ∃ kvs,Rd H a (.dT kvs)
section
variable {X:Cx}{pins:Pn}{σ:St}{H:Hp}{s:Shared}{a:Addr}{y d:V}{u r:Value}{o:Option V}{A:Around}{E:Vp}
end
section
variable {X:Cx}{o e f:Expr}{apos cpos:Pos}{td ty tx:TE}
end
section
variable {X:Cx}{pins:Pn}{σ:St}{H:Hp}{s:Shared}{a:Addr}{kvs:List (Key × V)}{A:Around}{E:Vp}
end
section
variable {X:Cx}{pins:Pn}{σ:St}{H:Hp}{s:Shared}{a:Addr}{y:V}{u:Value}{A:Around}{E:Vp}
end
end L2
namespace Att
open PySem.W PySem.Calls PyProof.Rows
section
variable {prog:Program}{w:World}{A:Around}{E:Vp}{s:Shared}{K:Frag}
end
end Att
namespace L2
open PyProof.Rows
section
variable {P:Program}{w:World}{K:Fg}{mg:Str->Option Value}{base:Heap}
end
section
variable {X:Cx}
end
section
variable {κ:Type}[DecidableEq κ]
end
end L2
end
section
namespace DQ
open PyProof.Rows
structure Fly (B:Heap) (l:List Env) (e:Addr) (cls:Value) (dct:Option Addr) (fl:Value) (h:Heap):Prop where
 stay:B.StaysIn h
 new:B.get? e=none
 frames:h.FunFrames B l
 obj: ∃ oe vs T oT ts,h.get? e=some oe/\oe.cls=cls/\oe.dict=dct/\oe.data= .fields vs/\vs[2]?=some .none/\vs[1]?=some (.ref T)/\B.get? T=none/\T≠e/\h.get? T=some oT/\oT.data= .fields ts/\ts[3]?=some fl
theorem Fly.tail {B:Heap}{env:Env}{l:List Env}{e:Addr}{cls:Value}{dct:Option Addr}{fl:Value}{h:Heap}(f:Fly B (env :: l) e cls dct fl h):Fly B l e cls dct fl h:=⟨f.stay,f.new,f.frames.2.2,f.obj⟩
section
variable {M:Model}{A:Around}{E:Vp}{s:Shared}{B:Heap}{env:Env}{outer l:List Env}{L e:Addr}{cls:Value}{dct:Option Addr}{fl:Value}
theorem apart {h:Heap}{oe:Obj}{vs:Array Value}(hl:h.FunFrames B l)(he:h.get? e=some oe)(hd:oe.data= .fields vs):e ∉ l.filterMap (·.frame):=fun z=>by
 obtain ⟨_,o,h1,h2⟩:=hl.mem z
 rw[he] at h1;cases h1
 exact h2 vs hd
theorem ZdS {oe:Obj}{vs:Array Value}{head:Value}{hn:Bool}{Q:Unit->Shared->Prop}(hfr:A.frames=some (env :: outer))(hl:s.heap.FunFrames B (env :: outer))(hf:env.frame=some L)
  (he:s.heap.get? e=some oe) (hs:B.StaysIn s.heap) (hb:B.get? e=none) (hd:oe.data= .fields vs) (hz:2 < vs.size) (h2:vs[2]?=some .none)
  (h: ∀ h',Fly B (env :: outer) e oe.cls oe.dict (rawInt L) h'->s.heap.UpToSlots h'->Q () { s with heap:=h' }):
  wpAny M A (frameOf env >>= fun a=>entryPlaceOf L hn >>= fun pl=>EntryCells.newEntry head a .none (rawInt L) .none pl >>= fun b=>setField (.ref e) 1 b) Q E s:=by
 have ne:=apart hl he hd
 refine Wb (wpAny_frameOf_fun hfr hl hf fun h1 k1=>Wb (wpAny_entryPlaceOf fun pl hpl=>Wb ?_))
 unfold EntryCells.newEntry newFields;refine wpAny_newObj_type ?_ (hpl.sizeOk5 _ _ _ _ _)
 generalize hT:([head,Value.ref L,Value.none,rawInt L,Value.none] ++ (if pl.isEmpty then List.replicate 6 Value.none else pl)).toArray=ts;have h3:ts[3]?=some (rawInt L):=by
  rw[<- hT]
  rcases hpl with rfl | ⟨_,_,_,_,_,_,_,rfl⟩<;>simp
 have e1:h1.get? e=some oe:=(k1.2.1 e ne).trans he
 have s1:B.StaysIn h1:=fun b o hbo=>(k1.2.1 b fun z=>by rw[(hl.mem z).1] at hbo;cases hbo).trans (hs b o hbo)
 generalize hoT:({ cls:= .type "traceback",dict:=none,data:= .fields ts }:Obj)=oT;have dT:oT.data= .fields ts:=by rw[<- hoT]
 have fT:oT.isFreed=false:=Obj.isFreed_of_fields dT
 have e2:(h1.push oT).get? e=some oe:=Hq _ e1
 have nT:h1.objs.size≠e:=Nat.ne_of_gt (Hz e1)
 refine wpAny_setField e2 hd (Nat.lt_trans (by decide) hz) (h _ ?_ ?_)
 ·have d3:=Obj.data_mapFields hd (·.setIfInBounds 1 (Value.ref h1.objs.size))
  have e3:=Heap.get?_update_self (Obj.mapFields (·.setIfInBounds 1 (Value.ref h1.objs.size))) e2 (Obj.isFreed_of_fields d3)
  have keep: ∀ b o,b≠e->h1.get? b=some o->((h1.push oT).update e (Obj.mapFields (·.setIfInBounds 1 (Value.ref h1.objs.size)))).get? b=some o:=fun b o hbe x=>by
   rw[Heap.get?_update_other _ _ (Ne.symm hbe)]
   exact Hq _ x
  have gT:(h1.push oT).get? h1.objs.size=some oT:=Heap.get?_push_size _ fT
  refine ⟨fun b o x=>keep b o (fun z=>by rw[z,hb] at x;cases x) (s1 b o x),hb,hl.of_keeps fun b o x y=> ?_,_,_,h1.objs.size,oT,ts,e3,Obj.cls_mapFields _ _,?_,d3,?_,?_,s1.fresh,nT,?_,dT,h3⟩
  ·obtain ⟨sl,z⟩:=k1.2.2 b o x
   exact ⟨_,keep b _ (fun w=>y vs (by rw[w,he] at x;cases x;exact hd)) z,rfl⟩
  ·obtain ⟨c,d,dd,sl⟩:=oe
   cases hd
   rfl
  ·rw[Array.getElem?_setIfInBounds_ne (by decide)]
   exact h2
  ·rw[Array.getElem?_setIfInBounds_self_of_lt (Nat.lt_trans (by decide) hz)]
  ·rw[Heap.get?_update_other _ _ (Ne.symm nT)]
   exact gT
 ·intro b o x y
  obtain ⟨sl,z⟩:=k1.2.2 b o x
  refine ⟨sl,?_⟩
  rw[Heap.get?_update_other _ _ (fun w=>y vs (by rw[<- w,he] at x;cases x;exact hd))]
  exact Hq _ z
theorem Zfb {Q:Unit->Shared->Prop}(f:Fly B l e cls dct fl s.heap)(h: ∀ h',Fly B l e cls dct .none h'->s.heap.UpToSlots h'->Q () { s with heap:=h' }):wpAny M A (setFlight (.ref e) none) Q E s:=by
 obtain ⟨st,nw,fr,oe,vs,T,oT,ts,g1,g2,g3,g4,g5,g6,g7,g8,g9,g10,g11⟩:=f
 have hz:3 < ts.size:=(Array.getElem?_eq_some_iff.mp g11).1
 unfold setFlight;refine Wb (wpAny_field g1 g4 g6 ?_)
 rw[if_pos (by simp)]
 have oth: ∀ b o,b≠T->s.heap.get? b=some o->(s.heap.update T (Obj.mapFields (·.setIfInBounds 3 Value.none))).get? b=some o:=fun b o hb x=>by
  rw[Heap.get?_update_other _ _ (Ne.symm hb)]
  exact x
 have nr: ∀ b o,s.heap.get? b=some o->(∀ vs,o.data≠ .fields vs)->b≠T:=fun b o x y z=>by
  rw[z,g9] at x;cases x
  exact y ts g10
 refine wpAny_setField g9 g10 hz (h _ ⟨fun b o x=>oth b o (fun z=>by rw[z,g7] at x;cases x) (st b o x),nw,fr.of_keeps fun b o x y=>⟨o,oth b o (nr b o x y) x,rfl⟩,?_⟩ fun b o x y=>⟨o.slots,oth b o (nr b o x y) x⟩)
 exact ⟨oe,vs,T,_,_,oth e oe (Ne.symm g8) g1,g2,g3,g4,g5,g6,g7,g8,Heap.get?_update_self _ g9 (Obj.isFreed_of_fields (Obj.data_mapFields g10 _)),Obj.data_mapFields g10 _,by rw[Array.getElem?_setIfInBounds_self_of_lt hz];rfl⟩
theorem ZiY {Q:Unit->Shared->Prop}(hfr:A.frames=some (env :: outer))(hf:env.frame=some L)(f:Fly B (env :: outer) e cls dct .none s.heap)
  (h: ∀ h',Fly B (env :: outer) e cls dct (rawInt L) h'->s.heap.UpToSlots h'->Q () { s with heap:=h' }):wpAny M A (noteFrame (.ref e) env) Q E s:=by
 obtain ⟨st,nw,fr,oe,vs,T,oT,ts,g1,g2,g3,g4,g5,g6,g7,g8,g9,g10,g11⟩:=f
 unfold noteFrame;simp only[hf];refine Wb (wpAny_field g1 g4 g6 ?_)
 rw[if_pos (by simp)]
 refine Wb (wpAny_field g9 g10 g11 ?_)
 rw[if_neg (by simp[rawInt])]
 have oth: ∀ b o,b≠T->s.heap.get? b=some o->(s.heap.update T (Obj.mapFields (·.setIfInBounds 3 Value.none))).get? b=some o:=fun b o hb x=>by
  rw[Heap.get?_update_other _ _ (Ne.symm hb)]
  exact x
 have nr: ∀ b o,s.heap.get? b=some o->(∀ vs,o.data≠ .fields vs)->b≠T:=fun b o x y z=>by
  rw[z,g9] at x;cases x
  exact y ts g10
 refine Wb (wpAny_setField g9 g10 (Array.getElem?_eq_some_iff.mp g11).1 ?_)
 refine ZdS hfr (fr.of_keeps fun b o x y=>⟨o,oth b o (nr b o x y) x,rfl⟩) hf (oth e oe (Ne.symm g8) g1) (fun b o x=>oth b o (fun z=>by rw[z,g7] at x;cases x) (st b o x)) nw g4 (Array.getElem?_eq_some_iff.mp g5).1 g5 fun h' k1 k2=>h h' (g2 ▸ g3 ▸ k1) ?_
 intro b o x y;exact k2 b o (oth b o (nr b o x y) x) y
theorem ZgR {Q:Unit->Shared->Prop}(hfr:A.frames=some (env :: outer))(hf:env.frame=some L)(f:Fly B (env :: outer) e cls dct .none s.heap)
  (h: ∀ h',Fly B outer e cls dct .none h'->s.heap.UpToSlots h'->Q () { s with heap:=h' }):wpAny M A (leaving env (.ref e)) Q E s:=by
 unfold leaving;refine Wb (ZiY hfr hf f fun h1 k1 u1=> ?_)
 exact Zfb (s:={ s with heap:=h1 }) k1 fun h2 k2 u2=>h h2 k2.tail (u1.trans u2)
theorem ZgS {oe:Obj}{vs:Array Value}{Q:Unit->Shared->Prop}(hfr:A.frames=some (env :: outer))(hf:env.frame=some L)(hl:s.heap.FunFrames B (env :: outer))(he:s.heap.get? e=some oe)(hs:B.StaysIn s.heap)(hb:B.get? e=none)(hd:oe.data= .fields vs)(h1:vs[1]?=some .none)(h2:vs[2]?=some .none)
  (h: ∀ h',Fly B outer e oe.cls oe.dict .none h'->s.heap.UpToSlots h'->Q () { s with heap:=h' }):wpAny M A (leaving env (.ref e)) Q E s:=by
 unfold leaving noteFrame;simp only[hf];refine Wb (Wb (wpAny_field he hd h1 ?_))
 rw[if_neg (by decide)]
 refine ZdS hfr hl hf he hs hb hd (Array.getElem?_eq_some_iff.mp h2).1 h2 fun h' k1 u1=> ?_
 exact Zfb (s:={ s with heap:=h' }) k1 fun h2 k2 u2=>h h2 k2.tail (u1.trans u2)
end
end DQ
end
section
namespace DQ
open PyProof.Rows
open PySem.W (Looks findIn mroIn specialIn takesIn clsIn looks_findIn looks_mroIn looks_find findObj KitX)
structure ExcC (K:Fg) (C:Addr):Prop where
 ga:findIn K (.ref C) "__getattribute__"=some (some (.builtin "BaseException.__getattribute__"))
 gt:findIn K (.ref C) "__getattr__"=some none
 cl:findIn K (.ref C) "__class__"=some (some (.builtin "object.__class__"))
 gs:specialIn K (.builtin "object.__class__") "__get__"=some (some (.builtin "getset_descriptor.__get__"))
 tk:takesIn K (.builtin "object.__class__")=some true
 bx:mroIn K C (.type "BaseException")=some true
 ob:mroIn K C (.type "object")=some true
 is:(clsIn K C).isSome=true
section
variable {prog:Program}{w:World}{A:Around}{E:Vp}{s:Shared}{K:Fg}{e C:Addr}{oe:Obj}{od:Option Obj}
end
end DQ
end
section
namespace DL
open PyProof.Rows L2
inductive D where
 |non
 |bl (b:Bool)
 |int (i:Int)
 |str (x:Str)
 |tup (xs:List D)
 |rol (xs:List D)
 |con (xs:List D)
 |ref (n:Nat)
 |err (c:Str) (xs:List D)
 |dk (n:Nat)
 |dt (n:Nat)
 |fn (c:Str)
inductive SO where
 |lst (xs:List D)
noncomputable abbrev Sto:=List SO
noncomputable abbrev Ro:=List (Option D)
abbrev W2:=Str->Sto->Prop
abbrev W1:=Ro->Sto->Prop
abbrev W0:=D->Sto->Prop
def SqF (K:Fg)(H:Hp)(a:Addr)(xs:List V):Prop:=
 (∃ o,H a=some (.frz o (.lst xs)))\/ ∃ (o:Obj) (its:Array Value) (n:Nat),K.lookup a=some o/\o.cls= .type "list"/\o.dict=none/\o.data= .seq its n/\its.size<=sizeLine/\ZO xs its.toList
theorem SqF.sq {K:Fg}{H:Hp}{a:Addr}{xs:List V}(h:SqF K H a xs):SqL K H a xs:=by
 rcases h with ⟨o,h⟩ | h
 ·exact .inl (.inr ⟨o,h⟩)
 ·exact .inr h
def SqK (K:Fg)(a:Addr)(xs:List V):Prop:= ∃ (o:Obj) (its:Array Value) (n:Nat),K.lookup a=some o/\o.cls= .type "tuple"/\o.data= .seq its n/\its.size<=sizeLine/\ZO xs its.toList/\o.dict=none
theorem SqK.sq {K:Fg}{H:Hp}{a:Addr}{xs:List V}(h:SqK K a xs):SqT K H a xs:=
 let ⟨o,its,n,h1,h2,h3,h4,h5,_⟩:=h
 .inr ⟨o,its,n,h1,h2,h3,h4,h5⟩
noncomputable def ZsQ:List Str:=[PySem.Str.ofString "where",PySem.Str.ofString "at"]
def EOk (H:Hp)(p C:Addr)(xs:List V):Prop:= ∃ oe u vs,H p=some (.frz oe u)/\oe.cls= .ref C/\oe.data= .fields vs/\vs[2]?=some .none/\((xs=[]/\oe.dict=none)\/ ∃ dx fs,oe.dict=some dx/\H dx=some (.xd fs)/\fs.map (·.2)=xs/\fs.map (·.1)=ZsQ)
noncomputable def Kn (H:Hp)(p:Addr):Option Nat:=match H p with | some (.lst _)=>some 0 | some (.dK _)=>some 1 | some (.dT _)=>some 2 | some (.frz _ (.dK _))=>some 1 | some (.frz _ (.dT _))=>some 2 | _=>none
structure RefK (H:Hp) (α:List Addr) (j n:Nat) (p:Addr):Prop where
 at':α[n]?=some p
 kn:Kn H p=some j
theorem Kn.lst {H:Hp}{p:Addr}{xs:List V}(h:H p=some (.lst xs)):Kn H p=some 0:=by unfold Kn;rw[h]
theorem Kn.ne {H:Hp}{p q:Addr}{j:Nat}{o:HO}(h:Kn H p=some j)(hq:H q=none):Kn (upd H q o) p=some j:=by
 have:p≠q:=by
  intro z;unfold Kn at h;rw[z,hq] at h;cases h
 unfold Kn;rw[ZF this];exact h
mutual
inductive Rep (K:Fg) (H:Hp) (α:List Addr):V->D->Prop where
 |non:Rep K H α .non .non
 |bl (b:Bool):Rep K H α (.bl b) (.bl b)
 |int (i:Int):Rep K H α (.int i) (.int i)
 |str (x:Str):Rep K H α (.str x) (.str x)
 |tup {p:Addr} {xs:List V} {ds:List D}:H p=some (.tup xs)->Reps K H α xs ds->Rep K H α (.ref p) (.tup ds)
 |rol {p:Addr} {xs:List V} {ds:List D}:SqF K H p xs->Reps K H α xs ds->Rep K H α (.ref p) (.rol ds)
 |con {p:Addr} {xs:List V} {ds:List D}:SqK K p xs->Reps K H α xs ds->Rep K H α (.ref p) (.con ds)
 |ref {p:Addr} {n:Nat}:RefK H α 0 n p->Rep K H α (.ref p) (.ref n)
 |dk {p:Addr} {n:Nat}:RefK H α 1 n p->Rep K H α (.ref p) (.dk n)
 |dt {p:Addr} {n:Nat}:RefK H α 2 n p->Rep K H α (.ref p) (.dt n)
 |fn {p:Addr} {c:Str}:PySem.W.nsIn K mainGlobals c=some (some (.ref p))->Rep K H α (.ref p) (.fn c)
 |err {p C:Addr} {c:Str} {xs:List V} {ds:List D}:PySem.W.nsIn K mainGlobals c=some (some (.ref C))->EOk H p C xs->Reps K H α xs ds->Rep K H α (.ref p) (.err c ds)
inductive Reps (K:Fg) (H:Hp) (α:List Addr):List V->List D->Prop where
 |nil:Reps K H α [] []
 |cons {v:V} {d:D} {vs:List V} {ds:List D}:Rep K H α v d->Reps K H α vs ds->Reps K H α (v :: vs) (d :: ds)
end
structure Ext (K:Fg) (H H':Hp) (α α':List Addr):Prop where
 tup: ∀ p xs,H p=some (.tup xs)->H' p=some (.tup xs)
 rol: ∀ p xs,SqF K H p xs->SqF K H' p xs
 err: ∀ p C xs,EOk H p C xs->EOk H' p C xs
 kn: ∀ p j,Kn H p=some j->Kn H' p=some j
 fz: ∀ p o u,H p=some (.frz o u)->H' p=some (.frz o u)
 al: ∃ β,α'=α ++ β
section
variable {K:Fg}{H H1 H2 H':Hp}{α α1 α2 α':List Addr}
theorem Ext.refl:Ext K H H α α:=⟨fun _ _ h=>h,fun _ _ h=>h,fun _ _ _ h=>h,fun _ _ h=>h,fun _ _ _ h=>h,[],(List.append_nil _).symm⟩
theorem Ext.trans (a:Ext K H H1 α α1)(b:Ext K H1 H2 α1 α2):Ext K H H2 α α2:=by
 obtain ⟨b1,e1⟩:=a.al
 obtain ⟨b2,e2⟩:=b.al
 exact ⟨fun p xs h=>b.tup p xs (a.tup p xs h),fun p xs h=>b.rol p xs (a.rol p xs h),fun p C xs h=>b.err p C xs (a.err p C xs h),fun p j h=>b.kn p j (a.kn p j h),fun p o u h=>b.fz p o u (a.fz p o u h),b1 ++ b2,by rw[e2,e1,List.append_assoc]⟩
theorem Ext.get0 (e:Ext K H H' α α'){n:Nat}{p:Addr}(h:α[n]?=some p):α'[n]?=some p:=by
 obtain ⟨β,e1⟩:=e.al
 have hl:n < α.length:=(List.getElem?_eq_some_iff.mp h).1
 rw[e1,List.getElem?_append_left hl]
 exact h
theorem Ext.get (e:Ext K H H' α α'){j n:Nat}{p:Addr}(h:RefK H α j n p):RefK H' α' j n p:=⟨e.get0 h.at',e.kn _ _ h.kn⟩
mutual
theorem Rep.mono (e:Ext K H H' α α'): ∀ {v:V} {d:D},Rep K H α v d->Rep K H' α' v d
 |_,_,.non=> .non
 |_,_,.bl b=> .bl b
 |_,_,.int i=> .int i
 |_,_,.str x=> .str x
 |_,_,.tup h r=> .tup (e.tup _ _ h) (Reps.mono e r)
 |_,_,.rol h r=> .rol (e.rol _ _ h) (Reps.mono e r)
 |_,_,.con h r=> .con h (Reps.mono e r)
 |_,_,.ref h=> .ref (e.get h)
 |_,_,.dk h=> .dk (e.get h)
 |_,_,.dt h=> .dt (e.get h)
 |_,_,.fn h=> .fn h
 |_,_,.err n h r=> .err n (e.err _ _ _ h) (Reps.mono e r)
theorem Reps.mono (e:Ext K H H' α α'): ∀ {vs:List V} {ds:List D},Reps K H α vs ds->Reps K H' α' vs ds
 |_,_,.nil=> .nil
 |_,_,.cons r t=> .cons (Rep.mono e r) (Reps.mono e t)
end
theorem Reps.length: ∀ {vs:List V} {ds:List D},Reps K H α vs ds->vs.length=ds.length
 |_,_,.nil=>rfl
 |_,_,.cons _ t=>by rw[List.length_cons,List.length_cons,Reps.length t]
theorem Reps.get: ∀ {vs:List V} {ds:List D} {i:Nat} {d:D},Reps K H α vs ds->ds[i]?=some d-> ∃ v,vs[i]?=some v/\Rep K H α v d
 |_,_,_,_,.nil,e=>by simp at e
 |_,_,0,_,.cons r _,e=>by simp at e;subst e;exact ⟨_,rfl,r⟩
 |_,_,i + 1,d,.cons _ t,e=>by
  obtain ⟨u,h1,h2⟩:=Reps.get (i:=i) (d:=d) t (by simpa using e)
  exact ⟨u,by simpa using h1,h2⟩
theorem Reps.set {v:V}{d:D}(r:Rep K H α v d): ∀ {vs:List V} {ds:List D} (i:Nat),Reps K H α vs ds->Reps K H α (vs.set i v) (ds.set i d)
 |_,_,_,.nil=> .nil
 |_,_,0,.cons _ t=> .cons r t
 |_,_,i + 1,.cons q t=> .cons q (Reps.set r i t)
theorem Reps.append: ∀ {vs ws:List V} {ds es:List D},Reps K H α vs ds->Reps K H α ws es->Reps K H α (vs ++ ws) (ds ++ es)
 |_,_,_,_,.nil,s=>s
 |_,_,_,_,.cons r t,s=> .cons r (Reps.append t s)
theorem Reps.ints: ∀ (ns:List Int),Reps K H α (ns.map V.int) (ns.map D.int)
 | []=> .nil
 |n :: r=> .cons (.int n) (Reps.ints r)
theorem ZgT {p q:Addr}{xs:List V}{o:HO}(h:H q=some (.tup xs))(hp: ∀ u,H p=some u->(∀ ys,u≠ .tup ys)/\ ∀ ob w,u≠ .frz ob w):upd H p o q=some (.tup xs):=by
 rw[ZF (fun e=>(hp _ (e ▸ h)).1 _ rfl)]
 exact h
theorem ZgU {p q:Addr}{xs:List V}{o:HO}(h:SqF K H q xs)(hp: ∀ u,H p=some u-> ∀ ob w,u≠ .frz ob w):SqF K (upd H p o) q xs:=by
 rcases h with ⟨ob,h⟩ | h
 ·refine .inl ⟨ob,?_⟩
  rw[ZF (fun e=>hp _ (e ▸ h) _ _ rfl)]
  exact h
 ·exact .inr h
theorem Zj5 {p q:Addr}{ob:Obj}{u o:HO}(h:H q=some (.frz ob u))(hp: ∀ u,H p=some u-> ∀ ob w,u≠ .frz ob w):upd H p o q=some (.frz ob u):=by
 rw[ZF (fun e=>hp _ (e ▸ h) _ _ rfl)]
 exact h
theorem ZgV {p q C:Addr}{xs:List V}{o:HO}(h:EOk H q C xs)(hp: ∀ u,H p=some u->(∀ ob w,u≠ .frz ob w)/\ ∀ fs,u≠ .xd fs):EOk (upd H p o) q C xs:=by
 obtain ⟨oe,u,vs,h1,h2,h3,h4,h5⟩:=h
 refine ⟨oe,u,vs,?_,h2,h3,h4,?_⟩
 ·rw[ZF (fun e=>(hp _ (e ▸ h1)).1 _ _ rfl)]
  exact h1
 ·rcases h5 with h5 | ⟨dx,fs,k1,k2,k3⟩
  ·exact .inl h5
  ·refine .inr ⟨dx,fs,k1,?_,k3⟩
   rw[ZF (fun e=>(hp _ (e ▸ k2)).2 _ rfl)]
   exact k2
theorem Ext.new {p:Addr}{o:HO}(h:H p=none){β:List Addr}:Ext K H (upd H p o) α (α ++ β):=
 ⟨fun q xs z=>ZgT z (fun u e=>(by rw[h] at e;cases e)),fun q xs z=>ZgU z (fun u e=>(by rw[h] at e;cases e)),fun q C xs z=>ZgV z (fun u e=>(by rw[h] at e;cases e)),fun q j z=>Kn.ne z h,fun q o u z=>Zj5 z (fun u e=>(by rw[h] at e;cases e)),β,rfl⟩
theorem Ext.new0 {p:Addr}{o:HO}(h:H p=none):Ext K H (upd H p o) α α:=by
 have e:=Ext.new (K:=K) (H:=H) (α:=α) (o:=o) h (β:=[])
 rw[List.append_nil] at e;exact e
theorem Ext.wrK {p:Addr}{o:HO}{j:Nat}(h:Kn H p=some j)(nf: ∀ ob w,H p≠some (.frz ob w))(h':Kn (upd H p o) p=some j):Ext K H (upd H p o) α α:=by
 have ne (u:HO) (e:H p=some u):(∀ ys,u≠ .tup ys)/\(∀ ob w,u≠ .frz ob w)/\ ∀ fs,u≠ .xd fs:=by
  unfold Kn at h;rw[e] at h;refine ⟨fun ys z=> ?_,fun ob w z=>nf ob w (by rw[e,z]),fun fs z=> ?_⟩<;>subst z<;>cases h
 refine ⟨fun q xs z=>ZgT z fun u e=>⟨(ne u e).1,(ne u e).2.1⟩,fun q xs z=>ZgU z fun u e=>(ne u e).2.1,fun q C xs z=>ZgV z fun u e=>⟨(ne u e).2.1,(ne u e).2.2⟩,fun q i z=> ?_,fun q ob u z=>Zj5 z fun u e=>(ne u e).2.1,[],(List.append_nil _).symm⟩
 by_cases c:q=p
 ·subst c
  rw[h] at z;cases z
  exact h'
 ·unfold Kn
  rw[ZF c];exact z
theorem Ext.wr {p:Addr}{xs ys:List V}(h:H p=some (.lst xs)):Ext K H (upd H p (.lst ys)) α α:=Ext.wrK (Kn.lst h) (fun ob w z=>by rw[h] at z;cases z) (Kn.lst Zy)
noncomputable def ZiF:Key->D
 | .inl i=> .int i
 | .inr x=> .str x
def Zdd (ks:List Key):D:= .tup (ks.map ZiF)
noncomputable def Zap (K:Fg)(H:Hp)(α:List Addr){κ:Type}(key:κ->D)(kvs:List (κ × V))(ds:List D):Prop:=
 ∃ es:List D,ds=List.zipWith (fun kv e=>D.tup [key kv.1,e]) kvs es/\Reps K H α (kvs.map (·.2)) es
def SOk (K:Fg)(H:Hp)(α:List Addr)(p:Addr):SO->Prop
 | .lst ds=>(∃ xs,H p=some (.lst xs)/\Reps K H α xs ds)\/(∃ kvs,H p=some (.dK kvs)/\Zap K H α ZiF kvs ds)\/(∃ kvs,H p=some (.dT kvs)/\Zap K H α Zdd kvs ds)\/(∃ o kvs r,H p=some (.frz o (.dK kvs))/\ds= .non :: r/\Zap K H α ZiF kvs r)\/(∃ o kvs r,H p=some (.frz o (.dT kvs))/\ds= .non :: r/\Zap K H α Zdd kvs r)
theorem SOk.there {p:Addr}{o:SO}(h:SOk K H α p o): ∃ u,H p=some u:=by
 cases o with
 |lst ds=>rcases h with ⟨_,e,_⟩ | ⟨_,e,_⟩ | ⟨_,e,_⟩ | ⟨_,_,_,e,_⟩ | ⟨_,_,_,e,_⟩<;>exact ⟨_,e⟩
theorem SOk.mono {p:Addr}{o:SO}(h:SOk K H α p o)(ex:Ext K H H' α α')(e:H' p=H p):SOk K H' α' p o:=by
 cases o with
 |lst ds=>
  rcases h with ⟨xs,h1,h2⟩ | ⟨kvs,h1,es,h2,h3⟩ | ⟨kvs,h1,es,h2,h3⟩ | ⟨o,kvs,r,h1,h0,es,h2,h3⟩ | ⟨o,kvs,r,h1,h0,es,h2,h3⟩
  ·exact .inl ⟨xs,e.trans h1,Reps.mono ex h2⟩
  ·exact .inr (.inl ⟨kvs,e.trans h1,es,h2,Reps.mono ex h3⟩)
  ·exact .inr (.inr (.inl ⟨kvs,e.trans h1,es,h2,Reps.mono ex h3⟩))
  ·exact .inr (.inr (.inr (.inl ⟨o,kvs,r,e.trans h1,h0,es,h2,Reps.mono ex h3⟩)))
  ·exact .inr (.inr (.inr (.inr ⟨o,kvs,r,e.trans h1,h0,es,h2,Reps.mono ex h3⟩)))
structure HR (K:Fg) (H:Hp) (α:List Addr) (M:Sto):Prop where
 len:α.length=M.length
 nd:α.Nodup
 ob: ∀ (n:Nat) (p:Addr) (o:SO),α[n]?=some p->M[n]?=some o->SOk K H α p o
theorem HR.nil:HR K H [] []:=⟨rfl,List.nodup_nil,fun n p o h=>by simp at h⟩
theorem Kn.at {H:Hp}{p:Addr}{j:Nat}{u:HO}(k:Kn H p=some j)(e:H p=some u):(match some u with | some (.lst _)=>some 0 | some (.dK _)=>some 1 | some (.dT _)=>some 2 | some (.frz _ (.dK _))=>some 1 | some (.frz _ (.dT _))=>some 2 | _=>none)=some j:=by
 unfold Kn at k;rw[e] at k;exact k
theorem HR.at (h:HR K H α M){n:Nat}{p:Addr}{ds:List D}(e:RefK H α 0 n p)(m:M[n]?=some (.lst ds)): ∃ xs,H p=some (.lst xs)/\Reps K H α xs ds:=by
 rcases h.ob n p _ e.at' m with h1 | ⟨_,h1,_⟩ | ⟨_,h1,_⟩ | ⟨_,_,_,h1,_⟩ | ⟨_,_,_,h1,_⟩
 ·exact h1
 all_goals exact absurd (Kn.at e.kn h1) (fun z=>nomatch z)
noncomputable def nfz (ds:List D):Bool:=match ds with | .non :: _=>false | _=>true
theorem HR.atK (h:HR K H α M){n:Nat}{p:Addr}{ds:List D}(e:RefK H α 1 n p)(m:M[n]?=some (.lst ds)):(∃ kvs,H p=some (.dK kvs)/\Zap K H α ZiF kvs ds)\/ ∃ o kvs r,H p=some (.frz o (.dK kvs))/\ds= .non :: r/\Zap K H α ZiF kvs r:=by
 rcases h.ob n p _ e.at' m with ⟨_,h1,_⟩ | h1 | ⟨_,h1,_⟩ | h1 | ⟨_,_,_,h1,_⟩
 ·exact absurd (Kn.at e.kn h1) (fun z=>nomatch z)
 ·exact .inl h1
 ·exact absurd (Kn.at e.kn h1) (fun z=>nomatch z)
 ·exact .inr h1
 ·exact absurd (Kn.at e.kn h1) (fun z=>nomatch z)
theorem HR.atT (h:HR K H α M){n:Nat}{p:Addr}{ds:List D}(e:RefK H α 2 n p)(m:M[n]?=some (.lst ds)):(∃ kvs,H p=some (.dT kvs)/\Zap K H α Zdd kvs ds)\/ ∃ o kvs r,H p=some (.frz o (.dT kvs))/\ds= .non :: r/\Zap K H α Zdd kvs r:=by
 rcases h.ob n p _ e.at' m with ⟨_,h1,_⟩ | ⟨_,h1,_⟩ | h1 | ⟨_,_,_,h1,_⟩ | h1
 ·exact absurd (Kn.at e.kn h1) (fun z=>nomatch z)
 ·exact absurd (Kn.at e.kn h1) (fun z=>nomatch z)
 ·exact .inl h1
 ·exact absurd (Kn.at e.kn h1) (fun z=>nomatch z)
 ·exact .inr h1
theorem HR.atTn (h:HR K H α M){n:Nat}{p:Addr}{ds:List D}(e:RefK H α 2 n p)(m:M[n]?=some (.lst ds))(hn:nfz ds=true): ∃ kvs,H p=some (.dT kvs)/\Zap K H α Zdd kvs ds:=by
 rcases h.atT e m with h1 | ⟨_,_,_,_,rfl,_⟩
 ·exact h1
 ·cases hn
theorem RefK.lst {n:Nat}{p:Addr}(e:RefK H α 0 n p): ∃ xs,H p=some (.lst xs):=by
 have:=e.kn
 unfold Kn at this
 split at this
 ·rename_i xs h;exact ⟨xs,h⟩
 all_goals cases this
theorem HR.some_at {M:Sto}(h:HR K H α M){n:Nat}{p:Addr}(e:RefK H α 0 n p): ∃ xs,H p=some (.lst xs):=e.lst
theorem HR.there {M:Sto}(h:HR K H α M){n:Nat}{p:Addr}(e:α[n]?=some p): ∃ u,H p=some u:=by
 have hl:n < α.length:=(List.getElem?_eq_some_iff.mp e).1
 have hm:n < M.length:=by rw[<- h.len];exact hl
 exact (h.ob n p M[n] e (Gq hm)).there
theorem HR.tup {M:Sto}{p:Addr}{o:HO}(h:HR K H α M)(hp:H p=none):HR K (upd H p o) α M:=
 ⟨h.len,h.nd,fun n q so e m=>by
  obtain ⟨u,hu⟩:=h.there e
  exact (h.ob n q so e m).mono (Ext.new0 hp) (ZF (ZK hu hp))⟩
theorem HR.newO {M:Sto}{p:Addr}{o:HO}{so:SO}(h:HR K H α M)(hp:H p=none)(r:SOk K (upd H p o) (α ++ [p]) p so):HR K (upd H p o) (α ++ [p]) (M ++ [so]):=by
 have ex:Ext K H (upd H p o) α (α ++ [p]):=Ext.new hp
 refine ⟨by rw[List.length_append,List.length_append,h.len];rfl,?_,fun n q so' e m=> ?_⟩
 ·refine List.nodup_append.mpr ⟨h.nd,by simp,fun a ha b hb=> ?_⟩
  have hb':b=p:=by simpa using hb
  obtain ⟨n,hn,e⟩:=List.getElem_of_mem ha
  obtain ⟨u,z⟩:=h.there (n:=n) (p:=a) (by rw[List.getElem?_eq_getElem hn,e])
  rw[hb'];exact ZK z hp
 ·by_cases hn:n < α.length
  ·rw[List.getElem?_append_left hn] at e
   rw[List.getElem?_append_left (by rw[<- h.len];exact hn)] at m
   obtain ⟨u,hu⟩:=h.there e
   exact (h.ob n q so' e m).mono ex (ZF (ZK hu hp))
  ·have en:n=α.length:=by
    have:n < (α ++ [p]).length:=(List.getElem?_eq_some_iff.mp e).1
    rw[List.length_append,List.length_singleton] at this;lia
   subst en;rw[List.getElem?_append_right (Nat.le_refl _),Nat.sub_self] at e
   rw[h.len,List.getElem?_append_right (Nat.le_refl _),Nat.sub_self] at m
   cases e
   cases m
   exact r
theorem HR.new {M:Sto}{p:Addr}{xs:List V}{ds:List D}(h:HR K H α M)(hp:H p=none)(r:Reps K H α xs ds):HR K (upd H p (.lst xs)) (α ++ [p]) (M ++ [.lst ds]):=
 h.newO hp (.inl ⟨xs,Zy,Reps.mono (Ext.new hp) r⟩)
theorem ZiZ {n m:Nat}{p:Addr}(h:α.Nodup)(a:α[n]?=some p)(b:α[m]?=some p):n=m:=by
 obtain ⟨h1,e1⟩:=List.getElem?_eq_some_iff.mp a
 obtain ⟨h2,e2⟩:=List.getElem?_eq_some_iff.mp b
 exact (List.getElem_inj h).mp (e1.trans e2.symm)
theorem HR.wrO {M:Sto}{n:Nat}{p:Addr}{o:HO}{so:SO}(h:HR K H α M)(e:α[n]?=some p)(ex:Ext K H (upd H p o) α α)(r:SOk K (upd H p o) α p so):HR K (upd H p o) α (M.set n so):=by
 have hn:n < M.length:=by rw[<- h.len];exact (List.getElem?_eq_some_iff.mp e).1
 refine ⟨by rw[List.length_set];exact h.len,h.nd,fun k q so' e' m=> ?_⟩
 by_cases hk:k=n
 ·subst hk
  rw[e] at e';cases e'
  rw[List.getElem?_set_self hn] at m
  cases m
  exact r
 ·rw[List.getElem?_set_ne (Ne.symm hk)] at m
  have hq:q≠p:=fun z=>hk (ZiZ h.nd (z ▸ e') e)
  exact (h.ob k q so' e' m).mono ex (ZF hq)
theorem HR.wr {M:Sto}{n:Nat}{p:Addr}{xs ys:List V}{ds:List D}(h:HR K H α M)(e:RefK H α 0 n p)(hp:H p=some (.lst ys))(r:Reps K H α xs ds):HR K (upd H p (.lst xs)) α (M.set n (.lst ds)):=
 h.wrO e.at' (Ext.wr hp) (.inl ⟨xs,Zy,Reps.mono (Ext.wr hp) r⟩)
end
inductive Out (β:Type) where
 |ok (a:β) (M:Sto)
 |exc (c:Str) (M:Sto)
 |bad
abbrev W3:=List D->Sto->Out D
noncomputable def Out.bind {β γ:Type}(o:Out β)(f:β->Sto->Out γ):Out γ:=match o with
 | .ok a M=>f a M
 | .exc c M=> .exc c M
 | .bad=> .bad
inductive Fl where
 |nx (ρ:Ro) (M:Sto)
 |ret (d:D) (M:Sto)
 |brk (ρ:Ro) (M:Sto)
 |cnt (ρ:Ro) (M:Sto)
 |exc (c:Str) (M:Sto)
 |bad
noncomputable def Zi0 (c:Str):Bool:=c == PySem.Str.ofString "NoRound"
def XO (K:Fg)(H:Hp)(α:List Addr)(c:Str)(M:Sto)(dct:Option Addr):Prop:=
 (Zi0 c=false/\HR K H α M/\dct=none)\/(Zi0 c=true/\ ∃ (M0:Sto) (ds:List D) (dx:Addr) (fs:List (Str × V)),M=M0 ++ [.lst ds]/\HR K H α M0/\dct=some dx/\H dx=some (.xd fs)/\fs.map (·.1)=ZsQ/\Reps K H α (fs.map (·.2)) ds)
def OG {β γ:Type}(K:Fg)(R:Hp->List Addr->γ->β->Prop)(H:Hp)(α:List Addr)(ξ:XK)(Q:γ->Hp->Prop):Out β->Prop
 | .ok d M'=> ∀ v H' α',Ext K H H' α α'->HR K H' α' M'->R H' α' v d->Q v H'
 | .exc c M'=> ∀ C H' α',PySem.W.nsIn K mainGlobals c=some (some (.ref C))->Ext K H H' α α'-> ∀ dct,XO K H' α' c M' dct->ξ (.ref C) dct H'
 | .bad=>False
theorem OG.ext {β γ:Type}{K:Fg}{R:Hp->List Addr->γ->β->Prop}{H H1:Hp}{α α1:List Addr}{ξ:XK}{Q:γ->Hp->Prop}{o:Out β}(h:OG K R H α ξ Q o)(e:Ext K H H1 α α1):OG K R H1 α1 ξ Q o:=by
 cases o with
 |ok d M'=>exact fun v H' α' e'=>h v H' α' (e.trans e')
 |exc c M'=>exact fun C H' α' n e'=>h C H' α' n (e.trans e')
 |bad=>exact h
abbrev OP (K:Fg):=OG K (Rep K)
abbrev OT (K:Fg):=OG (β:=Bool) (γ:=Bool) K (fun _ _ v d=>v=d)
abbrev OA (K:Fg):=OG K (Reps K)
noncomputable def SR (K:Fg)(H:Hp)(α:List Addr)(σ:L2.St)(ρ:Ro):Prop:=σ.length=ρ.length/\ ∀ (i:Nat) (d:D),ρ[i]?=some (some d)-> ∃ v,σ[i]?=some (some v)/\Rep K H α v d
theorem SR.mono {K:Fg}{H H':Hp}{α α':List Addr}{σ:L2.St}{ρ:Ro}(h:SR K H α σ ρ)(e:Ext K H H' α α'):SR K H' α' σ ρ:=
 ⟨h.1,fun i d q=>let ⟨v,a,b⟩:=h.2 i d q;⟨v,a,Rep.mono e b⟩⟩
theorem SR.set {K:Fg}{H:Hp}{α:List Addr}{σ:L2.St}{ρ:Ro}{v:V}{d:D}(h:SR K H α σ ρ)(i:Nat)(r:Rep K H α v d):SR K H α (σ.set i (some v)) (ρ.set i (some d)):=by
 refine ⟨by rw[List.length_set,List.length_set];exact h.1,fun j e q=> ?_⟩
 by_cases hj:j=i
 ·subst hj
  have hl:j < ρ.length:=by
   have:=(List.getElem?_eq_some_iff.mp q).1
   rw[List.length_set] at this;exact this
  rw[List.getElem?_set_self hl] at q
  cases q
  exact ⟨v,by rw[List.getElem?_set_self (by rw[h.1];exact hl)],r⟩
 ·rw[List.getElem?_set_ne (Ne.symm hj)] at q
  rw[List.getElem?_set_ne (Ne.symm hj)]
  exact h.2 j e q
abbrev Ev:=Ro->Sto->Out D
abbrev Tv:=Ro->Sto->Out Bool
abbrev Av:=Ro->Sto->Out (List D)
abbrev Sv:=Ro->Sto->Fl
def DE (X:Cx)(ξ:XK)(e:Expr)(f:Ev):Prop:= ∃ t:TE,PE X e t/\ ∀ σ ρ H α M Q,SR X.K H α σ ρ->HR X.K H α M->OP X.K H α ξ Q (f ρ M)->t σ H Q
def DT (X:Cx)(ξ:XK)(e:Expr)(f:Tv):Prop:= ∃ t:TT,PT X e t/\ ∀ σ ρ H α M Q,SR X.K H α σ ρ->HR X.K H α M->OT X.K H α ξ Q (f ρ M)->t σ H Q
def DW (X:Cx)(ξ:XK)(e:Expr)(f:Tv):Prop:= ∃ t:TT,PW X e t/\ ∀ σ ρ H α M Q,SR X.K H α σ ρ->HR X.K H α M->OT X.K H α ξ Q (f ρ M)->t σ H Q
def DA (X:Cx)(ξ:XK)(es:List Expr)(f:Av):Prop:= ∃ t:TA,PA X es t/\ ∀ σ ρ H α M Q,SR X.K H α σ ρ->HR X.K H α M->OA X.K H α ξ Q (f ρ M)->t σ H Q
theorem OG.seq {β γ β' γ':Type}{K:Fg}{R:Hp->List Addr->γ->β->Prop}{R':Hp->List Addr->γ'->β'->Prop}{H:Hp}{α:List Addr}{ξ:XK}{Q:γ'->Hp->Prop}{Q1:γ->Hp->Prop}{o:Out β}{f:β->Sto->Out β'}
  (h:OG K R' H α ξ Q (o.bind f)) (k: ∀ d M' v H' α',Ext K H H' α α'->HR K H' α' M'->R H' α' v d->OG K R' H' α' ξ Q (f d M')->Q1 v H'):OG K R H α ξ Q1 o:=by
 cases o with
 |ok d M'=>exact fun v H' α' e hr r=>k d M' v H' α' e hr r (OG.ext (o:=f d M') h e)
 |exc c M'=>exact h
 |bad=>exact h
section
variable {X:Cx}{ξ:XK}{a b e:Expr}{fa fb:Ev}{pos:Pos}
noncomputable def Zg (i:Nat):Ev:=fun ρ M=>match ρ[i]? with | some (some d)=> .ok d M | _=> .bad
noncomputable def eC (d:D):Ev:=fun _ M=> .ok d M
theorem Zb (i:Nat){x:Str}(hN:X.N[i]?=some x:=by rfl)(hv:Vis X.env.scope x:=by first | exact Or.inl rfl | exact Or.inr (Or.inl rfl) | exact Or.inr (Or.inr rfl))(hd:(x == ("__debug__":Str))=false:=by decide)
  (hcd:(x == ("__classdict__":Str))=false:=by decide):DE X ξ (.Name x pos) (Zg i):=by
 refine ⟨_,ZjX hN hv hd hcd,fun σ ρ H α M Q s h q=> ?_⟩
 unfold Zg at q;cases e:ρ[i]? with
 |none=>rw[e] at q;exact q.elim
 |some o=>
  cases o with
  |none=>rw[e] at q;exact q.elim
  |some d=>
   rw[e] at q;obtain ⟨v,h1,h2⟩:=s.2 i d e
   exact ⟨v,h1,q v H α Ext.refl h h2⟩
theorem Ze {i:Int}{j pos}:DE X ξ (.Constant (.int i) j pos) (eC (.int i)):=⟨_,Zgw,fun _ _ H α M _ _ h q=>q _ H α Ext.refl h (.int i)⟩
theorem ZdT {i:Bool}{j pos}:DE X ξ (.Constant (.bool i) j pos) (eC (.bl i)):=⟨_,Zqk,fun _ _ H α M _ _ h q=>q _ H α Ext.refl h (.bl i)⟩
theorem ZdU {j pos}:DE X ξ (.Constant .none j pos) (eC .non):=⟨_,ZmT,fun _ _ H α M _ _ h q=>q _ H α Ext.refl h .non⟩
theorem ZbZ {x:Str}{j pos}:DE X ξ (.Constant (.str x) j pos) (eC (.str x)):=⟨_,ZmU,fun _ _ H α M _ _ h q=>q _ H α Ext.refl h (.str x)⟩
abbrev Bo:=D->D->Sto->Out D
def e2 (f:Bo)(fa fb:Ev):Ev:=fun ρ M=>(fa ρ M).bind fun x M1=>(fb ρ M1).bind fun y M2=>f x y M2
def BO (X:Cx)(ξ:XK)(r:R2)(f:Bo):Prop:= ∀ H α M v w x y Q,HR X.K H α M->Rep X.K H α v x->Rep X.K H α w y->OP X.K H α ξ Q (f x y M)->r v w H Q
theorem two {r:R2}{f:Bo}(hb:BO X ξ r f){ta tb:TE}(qa: ∀ σ ρ H α M Q,SR X.K H α σ ρ->HR X.K H α M->OP X.K H α ξ Q (fa ρ M)->ta σ H Q)
  (qb: ∀ σ ρ H α M Q,SR X.K H α σ ρ->HR X.K H α M->OP X.K H α ξ Q (fb ρ M)->tb σ H Q): ∀ σ ρ H α M Q,SR X.K H α σ ρ->HR X.K H α M->OP X.K H α ξ Q (e2 f fa fb ρ M)->tOp r ta tb σ H Q:=by
 intro σ ρ H α M Q s h q;refine qa σ ρ H α M _ s h (OG.seq q fun x M1 v H1 α1 e1 h1 r1 q1=> ?_)
 refine qb σ ρ H1 α1 M1 _ (s.mono e1) h1 (OG.seq q1 fun y M2 w H2 α2 e2 h2 r2 q2=> ?_)
 exact hb H2 α2 M2 v w x y Q h2 (Rep.mono e2 r1) r2 q2
theorem ZfT {op:Operator}{r:R2}{f:Bo}(ho:OpR X (binaryOp op) r)(hf:BO X ξ r f)(ha:DE X ξ a fa)(hb:DE X ξ b fb):DE X ξ (.BinOp a op b pos) (e2 f fa fb):=by
 obtain ⟨ta,ha,qa⟩:=ha
 obtain ⟨tb,hb,qb⟩:=hb
 exact ⟨_,Zqr ho ha hb,two hf qa qb⟩
theorem Zb0 {op:CmpOp}{r:R2}{f:Bo}(ho:OpR X (compareOp op) r)(hf:BO X ξ r f)(ha:DE X ξ a fa)(hb:DE X ξ b fb)(hm:behindInMarks op b=false:=by first | exact Zj0 _ | with_unfolding_all rfl):DE X ξ (.Compare a [op] [b] pos) (e2 f fa fb):=by
 obtain ⟨ta,ha,qa⟩:=ha
 obtain ⟨tb,hb,qb⟩:=hb
 exact ⟨_,ZkZ ho ha hb hm,two hf qa qb⟩
def tv (f:Ev):Tv:=fun ρ M=>(f ρ M).bind fun x M1=>match x with | .bl k=> .ok k M1 | _=> .bad
theorem ZiW {t:TE}{f:Ev}(qa: ∀ σ ρ H α M Q,SR X.K H α σ ρ->HR X.K H α M->OP X.K H α ξ Q (f ρ M)->t σ H Q): ∀ σ ρ H α M Q,SR X.K H α σ ρ->HR X.K H α M->OT X.K H α ξ Q (tv f ρ M)->Zm9 t σ H Q:=by
 intro σ ρ H α M Q s h q;refine qa σ ρ H α M _ s h (OG.seq q fun x M1 v H1 α1 e1 h1 r1 q1=> ?_)
 cases r1 with
 |bl k=>exact ⟨k,rfl,q1 k H1 α1 Ext.refl h1 rfl⟩
 |_=>exact q1.elim
theorem ZG {op:CmpOp}{r:R2}{f:Bo}(ho:OpR X (compareOp op) r)(hf:BO X ξ r f)(ha:DE X ξ a fa)(hb:DE X ξ b fb)(hm:behindInMarks op b=false:=by first | exact Zj0 _ | with_unfolding_all rfl):DT X ξ (.Compare a [op] [b] pos) (tv (e2 f fa fb)):=by
 obtain ⟨ta,ha,qa⟩:=ha
 obtain ⟨tb,hb,qb⟩:=hb
 exact ⟨_,Zk0 ho ha hb hm,ZiW (two hf qa qb)⟩
theorem Zcn (h:DE X ξ e fa)(he: ∀ whole,isTrue e X.env whole=(do let v <- whole;standAt e.pos;holding [v] (truthy v)):=by intro _;rfl):DT X ξ e (tv fa):=by
 obtain ⟨ta,ha,qa⟩:=h
 exact ⟨_,ZmV ha he,ZiW qa⟩
variable {ga gb:Tv}{rest:List Expr}
def ZgW (f g:Tv):Tv:=fun ρ M=>(f ρ M).bind fun k M1=>if k=true then g ρ M1 else .ok false M1
def Zgk (f g:Tv):Tv:=fun ρ M=>(f ρ M).bind fun k M1=>if k=true then .ok true M1 else g ρ M1
def ZcW (f:Tv):Tv:=fun ρ M=>(f ρ M).bind fun k M1=> .ok (!k) M1
theorem ZgX (ha:DT X ξ a ga):DW X ξ (.BoolOp .And [a] pos) ga:=let ⟨_,h,q⟩:=ha;⟨_,pw_and1 h,q⟩
theorem ZdV (ha:DT X ξ a ga):DW X ξ (.BoolOp .Or [a] pos) ga:=let ⟨_,h,q⟩:=ha;⟨_,pw_or1 h,q⟩
theorem Zj6 (ha:DT X ξ a ga)(hb:DW X ξ (.BoolOp .And (b :: rest) pos) gb):DW X ξ (.BoolOp .And (a :: b :: rest) pos) (ZgW ga gb):=by
 obtain ⟨ta,ha,qa⟩:=ha
 obtain ⟨tb,hb,qb⟩:=hb
 refine ⟨_,pw_and ha hb,fun σ ρ H α M Q s h q=> ?_⟩
 refine qa σ ρ H α M _ s h (OG.seq q fun k M1 v H1 α1 e1 h1 r1 q1=> ?_)
 cases r1
 cases k with
 |true=>exact Zlc (qb σ ρ H1 α1 M1 Q (s.mono e1) h1 q1)
 |false=>exact Zlb (q1 false H1 α1 Ext.refl h1 rfl)
theorem Zde (ha:DT X ξ a ga)(hb:DW X ξ (.BoolOp .Or (b :: rest) pos) gb):DW X ξ (.BoolOp .Or (a :: b :: rest) pos) (Zgk ga gb):=by
 obtain ⟨ta,ha,qa⟩:=ha
 obtain ⟨tb,hb,qb⟩:=hb
 refine ⟨_,pw_or ha hb,fun σ ρ H α M Q s h q=> ?_⟩
 refine qa σ ρ H α M _ s h (OG.seq q fun k M1 v H1 α1 e1 h1 r1 q1=> ?_)
 cases r1
 cases k with
 |true=>exact Zlc (q1 true H1 α1 Ext.refl h1 rfl)
 |false=>exact Zlb (qb σ ρ H1 α1 M1 Q (s.mono e1) h1 q1)
theorem Zlh (h:DW X ξ e ga):DT X ξ e ga:=let ⟨_,h,q⟩:=h;⟨_,h.pt,q⟩
theorem Zc0 (ha:DT X ξ a ga):DT X ξ (.UnaryOp .Not a pos) (ZcW ga):=by
 obtain ⟨ta,ha,qa⟩:=ha
 refine ⟨_,ZmW ha,fun σ ρ H α M Q s h q=> ?_⟩
 refine qa σ ρ H α M _ s h (OG.seq q fun k M1 v H1 α1 e1 h1 r1 q1=> ?_)
 cases r1
 exact q1 (!k) H1 α1 Ext.refl h1 rfl
def Zns (f g:Ev):Ev:=fun ρ M=>(f ρ M).bind fun x M1=>match x with | .bl k=>if k=true then g ρ M1 else .ok (.bl false) M1 | _=> .bad
def ZsR (f g:Ev):Ev:=fun ρ M=>(f ρ M).bind fun x M1=>match x with | .bl k=>if k=true then .ok (.bl true) M1 else g ρ M1 | _=> .bad
def Znt (f:Ev):Ev:=fun ρ M=>(f ρ M).bind fun x M1=>match x with | .bl k=> .ok (.bl (!k)) M1 | _=> .bad
def eIf (c:Tv)(f g:Ev):Ev:=fun ρ M=>(c ρ M).bind fun k M1=>if k=true then f ρ M1 else g ρ M1
theorem ZqE {c:Expr}(hc:DT X ξ c ga)(ha:DE X ξ a fa)(hb:DE X ξ b fb):DE X ξ (.IfExp c a b pos) (eIf ga fa fb):=by
 obtain ⟨tc,hc,qc⟩:=hc
 obtain ⟨ta,ha,qa⟩:=ha
 obtain ⟨tb,hb,qb⟩:=hb
 refine ⟨_,ZiI hc ha hb,fun σ ρ H α M Q s h q=> ?_⟩
 refine qc σ ρ H α M _ s h (OG.seq q fun k M1 v H1 α1 e1 h1 r1 q1=> ?_)
 cases r1
 cases k with
 |true=>exact Zlc (qa σ ρ H1 α1 M1 Q (s.mono e1) h1 q1)
 |false=>exact Zlb (qb σ ρ H1 α1 M1 Q (s.mono e1) h1 q1)
variable {es:List Expr}{fs:Av}
noncomputable def aNil:Av:=fun _ M=> .ok [] M
def Zc (f:Ev)(g:Av):Av:=fun ρ M=>(f ρ M).bind fun x M1=>(g ρ M1).bind fun xs M2=> .ok (x :: xs) M2
theorem Zd:DA X ξ [] aNil:=⟨_,Zj1,fun _ _ H α M _ _ h q=>q _ H α Ext.refl h .nil⟩
theorem Za (ha:DE X ξ e fa)(hr:DA X ξ es fs)(hs:starEach (e :: es) X.env=(false,eval e X.env) :: starEach es X.env:=by rfl):DA X ξ (e :: es) (Zc fa fs):=by
 obtain ⟨ta,ha,qa⟩:=ha
 obtain ⟨tb,hb,qb⟩:=hr
 refine ⟨_,Zex ha hb hs,fun σ ρ H α M Q s h q=> ?_⟩
 refine qa σ ρ H α M _ s h (OG.seq q fun x M1 v H1 α1 e1 h1 r1 q1=> ?_)
 refine qb σ ρ H1 α1 M1 _ (s.mono e1) h1 (OG.seq q1 fun y M2 w H2 α2 e2 h2 r2 q2=> ?_)
 exact q2 _ H2 α2 Ext.refl h2 (.cons (Rep.mono e2 r1) r2)
def Z4 (f:Av):Ev:=fun ρ M=>(f ρ M).bind fun xs M1=>if xs.length<=1000 then .ok (.tup xs) M1 else .bad
def ZbS (f:Av):Ev:=fun ρ M=>(f ρ M).bind fun xs M1=>if xs.length<=1000 then .ok (.ref M1.length) (M1 ++ [.lst xs]) else .bad
theorem Zli {n:Nat}(h:n<=1000):n<=sizeLine:=Nat.le_of_lt (ZgN h)
theorem Zv {x1}(ha:DA X ξ es fs):DE X ξ (.Tuple es x1 pos) (Z4 fs):=by
 obtain ⟨ta,ha,qa⟩:=ha
 refine ⟨_,Zna ha,fun σ ρ H α M Q s h q=> ?_⟩
 refine qa σ ρ H α M _ s h (OG.seq q fun xs M1 vs H1 α1 e1 h1 r1 q1=> ?_)
 by_cases hl:xs.length<=1000
 ·rw[if_pos hl] at q1
  refine ⟨by rw[r1.length];exact Zli hl,fun p hp=>q1 _ _ α1 (Ext.new0 hp) (h1.tup hp) (.tup Zy (Reps.mono (Ext.new0 hp) r1))⟩
 ·rw[if_neg hl] at q1
  exact q1.elim
theorem HR.last {K:Fg}{H:Hp}{α:List Addr}{M:Sto}(h:HR K H α M)(p:Addr):(α ++ [p])[M.length]?=some p:=by
 rw[<- h.len,List.getElem?_append_right (Nat.le_refl _),Nat.sub_self]
 rfl
theorem ZX (ha:DA X ξ es fs):DE X ξ (.List es pos) (ZbS fs):=by
 obtain ⟨ta,ha,qa⟩:=ha
 refine ⟨_,Znb ha,fun σ ρ H α M Q s h q=> ?_⟩
 refine qa σ ρ H α M _ s h (OG.seq q fun xs M1 vs H1 α1 e1 h1 r1 q1=> ?_)
 by_cases hl:xs.length<=1000
 ·rw[if_pos hl] at q1
  refine ⟨by rw[r1.length];exact Zli hl,fun p hp=>q1 _ _ (α1 ++ [p]) (Ext.new hp) (h1.new hp r1) (.ref ⟨h1.last p,Kn.lst Zy⟩)⟩
 ·rw[if_neg hl] at q1
  exact q1.elim
end
end DL
end
section
namespace DL
open PyProof.Rows L2
open PySem.SeqAt (EqAt RcAt RcNeAt)
noncomputable def ZZ (i j:Int):Prop:=Builtin.Int.intBits i<=64\/Builtin.Int.intBits j<=64\/(Builtin.Int.intBits i<=60000000/\Builtin.Int.intBits j<=60000000)
instance (i j:Int):Decidable (ZZ i j):=by unfold ZZ;infer_instance
theorem ZZ.ok {i j:Int}(h:ZZ i j):IntMulOk i j:=by
 rcases h with h | h | ⟨h1,h2⟩
 ·exact .of_left h
 ·exact .of_right h
 ·exact .of_le h1 h2 (by decide)
theorem ZfU {i j:Int}(m n:Nat)(h1:i.natAbs < 2 ^ m)(h2:j.natAbs < 2 ^ n)(hm:m<=60000000:=by decide)(hn:n<=60000000:=by decide):ZZ i j:=
 .inr (.inr ⟨Nat.le_trans (intBits_le_iff.mpr h1) hm,Nat.le_trans (intBits_le_iff.mpr h2) hn⟩)
noncomputable def Zaz (j:Int):Prop:=j≠0/\j.natAbs.log2 < 9000
instance (j:Int):Decidable (Zaz j):=by unfold Zaz;infer_instance
section
variable {X:Cx}
theorem Zlj:OpR X (binaryOp .Mult) (rI ZZ fun i j=> .int (i * j)):=opI fun _ _ _ _ _ _ _ hc q=>mul_int q hc.ok
theorem Zi1:OpR X (binaryOp .FloorDiv) (rI (fun _ j=>Zaz j) fun i j=> .int (i.fdiv j)):=opI fun _ _ _ _ _ _ _ hc q=>floordiv_int hc.1 q (.inl (PyProof.noPylong_of_log2 hc.2))
end
noncomputable def dAdd:Bo:=fun x y M=>match x,y with
 | .int i,.int j=> .ok (.int (i + j)) M
 | .str i,.str j=>if i.length + j.length<=100000 then .ok (.str (i ++ j)) M else .bad
 | .ref n,.ref m=>match M[n]?,M[m]? with
  |some (.lst xs),some (.lst ys)=>if xs.length + ys.length<=10000000 then .ok (.ref M.length) (M ++ [.lst (xs ++ ys)]) else .bad
  |_,_=> .bad
 | .tup xs,.tup ys=>if xs.length + ys.length<=100000/\xs≠[] then .ok (.tup (xs ++ ys)) M else .bad
 |_,_=> .bad
noncomputable def dSub:Bo:=fun x y M=>match x,y with | .int i,.int j=> .ok (.int (i - j)) M | _,_=> .bad
def dMul:Bo:=fun x y M=>match x,y with | .int i,.int j=>if ZZ i j then .ok (.int (i * j)) M else .bad | _,_=> .bad
def dDiv:Bo:=fun x y M=>match x,y with | .int i,.int j=>if Zaz j then .ok (.int (i.fdiv j)) M else .bad | _,_=> .bad
noncomputable def dMod:Bo:=fun x y M=>match x,y with | .int i,.int j=>if j≠0 then .ok (.int (i.fmod j)) M else .bad | _,_=> .bad
noncomputable def dPow:Bo:=fun x y M=>match x,y with | .int i,.int j=>if 0<=j/\j<=1000000/\i.natAbs < 2 ^ 64 then .ok (.int (i ^ j.toNat)) M else .bad | _,_=> .bad
noncomputable def dLt:Bo:=fun x y M=>match x,y with | .int i,.int j=> .ok (.bl (decide (i < j))) M | _,_=> .bad
noncomputable def dLe:Bo:=fun x y M=>match x,y with | .int i,.int j=> .ok (.bl (decide (i<=j))) M | _,_=> .bad
noncomputable def dGt:Bo:=fun x y M=>match x,y with | .int i,.int j=> .ok (.bl (decide (j < i))) M | _,_=> .bad
noncomputable def dGe:Bo:=fun x y M=>match x,y with | .int i,.int j=> .ok (.bl (decide (j<=i))) M | _,_=> .bad
theorem Znu {n:Nat}(h:n<=100000):n<=sizeLine:=Nat.le_trans h (by decide)
section
variable {X:Cx}{ξ:XK}
theorem Zbx {r:R2}{f:Bo}{C:Int->Int->Prop}[∀ i j,Decidable (C i j)]{g:Int->Int->D}{gV:Int->Int->V}(hg: ∀ H α i j,Rep X.K H α (gV i j) (g i j))
  (hf: ∀ x y M,f x y M=match x,y with | .int i,.int j=>if C i j then .ok (g i j) M else .bad | _,_=> .bad) (hr: ∀ i j H Q,C i j->Q (gV i j) H->r (.int i) (.int j) H Q):BO X ξ r f:=by
 intro H α M v w x y Q h rv rw' q;rw[hf] at q;cases rv<;>first | exact q.elim | skip
 cases rw'<;>first | exact q.elim | skip
 rename_i i j
 by_cases c:C i j
 ·simp only[if_pos c] at q
  exact hr i j H Q c (q _ H α Ext.refl h (hg H α i j))
 ·simp only[if_neg c] at q
  exact q.elim
theorem Znv:BO X ξ (rI0 fun i j=> .int (i - j)) dSub:=Zbx (C:=fun _ _=>True) (fun _ _ i j=> .int (i - j)) (fun x y M=>by cases x<;>cases y<;>simp[dSub]) fun i j H Q _ q=>⟨i,j,rfl,rfl,q⟩
theorem Znw:BO X ξ (rI ZZ fun i j=> .int (i * j)) dMul:=Zbx (C:=ZZ) (fun _ _ i j=> .int (i * j)) (fun x y M=>by cases x<;>cases y<;>rfl) fun i j H Q c q=>⟨i,j,rfl,rfl,c,q⟩
theorem Znx:BO X ξ (rI (fun _ j=>Zaz j) fun i j=> .int (i.fdiv j)) dDiv:=Zbx (C:=fun _ j=>Zaz j) (fun _ _ i j=> .int (i.fdiv j)) (fun x y M=>by cases x<;>cases y<;>rfl) fun i j H Q c q=>⟨i,j,rfl,rfl,c,q⟩
theorem Zny:BO X ξ (rI (fun _ j=>j≠0) fun i j=> .int (i.fmod j)) dMod:=Zbx (C:=fun _ j=>j≠0) (fun _ _ i j=> .int (i.fmod j)) (fun x y M=>by cases x<;>cases y<;>rfl) fun i j H Q c q=>⟨i,j,rfl,rfl,c,q⟩
theorem Znz:BO X ξ (rI ZsM fun i j=> .int (i ^ j.toNat)) dPow:=Zbx (C:=fun i j=>0<=j/\j<=1000000/\i.natAbs < 2 ^ 64) (fun _ _ i j=> .int (i ^ j.toNat)) (fun x y M=>by cases x<;>cases y<;>rfl) fun i j H Q c q=>⟨i,j,rfl,rfl,c,q⟩
theorem Zlk:BO X ξ (rI0 fun i j=> .bl (decide (i < j))) dLt:=Zbx (C:=fun _ _=>True) (fun _ _ i j=> .bl _) (fun x y M=>by cases x<;>cases y<;>simp[dLt]) fun i j H Q _ q=>⟨i,j,rfl,rfl,q⟩
theorem ZnA:BO X ξ (rI0 fun i j=> .bl (decide (i<=j))) dLe:=Zbx (C:=fun _ _=>True) (fun _ _ i j=> .bl _) (fun x y M=>by cases x<;>cases y<;>simp[dLe]) fun i j H Q _ q=>⟨i,j,rfl,rfl,q⟩
theorem Zcb:BO X ξ (rI0 fun i j=> .bl (decide (j < i))) dGt:=Zbx (C:=fun _ _=>True) (fun _ _ i j=> .bl _) (fun x y M=>by cases x<;>cases y<;>simp[dGt]) fun i j H Q _ q=>⟨i,j,rfl,rfl,q⟩
theorem ZqF:BO X ξ (rI0 fun i j=> .bl (decide (j<=i))) dGe:=Zbx (C:=fun _ _=>True) (fun _ _ i j=> .bl _) (fun x y M=>by cases x<;>cases y<;>simp[dGe]) fun i j H Q _ q=>⟨i,j,rfl,rfl,q⟩
theorem Zll:OpR X (binaryOp .Add) (fun x y H Q=>(rI0 (fun i j=> .int (i + j)) x y H Q\/(∃ i j,x= .str i/\y= .str j/\i.length + j.length<=sizeLine/\Q (.str (i ++ j)) H))\/(rCat x y H Q\/Zk5 X.K x y H Q)):=
 OpR.or (OpR.or Zm5 ZfO) (OpR.or Zni Zk6)
theorem ZnB:BO X ξ (fun x y H Q=>(rI0 (fun i j=> .int (i + j)) x y H Q\/(∃ i j,x= .str i/\y= .str j/\i.length + j.length<=sizeLine/\Q (.str (i ++ j)) H))\/(rCat x y H Q\/Zk5 X.K x y H Q)) dAdd:=by
 intro H α M v w x y Q h rv rw' q;unfold dAdd at q
 split at q
 ·rename_i i j
  cases rv
  cases rw'
  exact .inl (.inl ⟨i,j,rfl,rfl,q _ H α Ext.refl h (.int (i + j))⟩)
 ·rename_i i j
  cases rv
  cases rw'
  split at q
  ·rename_i c
   exact .inl (.inr ⟨i,j,rfl,rfl,Znu c,q _ H α Ext.refl h (.str _)⟩)
  ·exact q.elim
 ·rename_i n m
  cases rv with
  | @ref p _ hp=>
   cases rw' with
   | @ref p2 _ hp2=>
    split at q
    ·rename_i ds ds2 e1 e2
     split at q
     ·rename_i c
      obtain ⟨xs,g1,r1⟩:=h.at hp e1
      obtain ⟨ys,g2,r2⟩:=h.at hp2 e2
      refine .inr (.inl ⟨p,p2,xs,ys,rfl,rfl,g1,g2,by rw[r1.length,r2.length];exact Nat.le_trans c (by decide),fun l hl=> ?_⟩)
      exact q _ _ (α ++ [l]) (Ext.new hl) (h.new hl (r1.append r2)) (.ref ⟨h.last l,Kn.lst Zy⟩)
     ·exact q.elim
    ·exact q.elim
 ·rename_i ds ds2
  cases rv with
  | @tup p xs _ hp rp=>
   cases rw' with
   | @tup p2 xs2 _ hp2 rp2=>
    split at q
    ·rename_i c
     have nx:xs≠[]:=fun z=>c.2 (by have:=rp.length;rw[z] at this;exact List.eq_nil_of_length_eq_zero this.symm)
     refine .inr (.inr ⟨p,p2,xs,xs2,rfl,rfl,(SqT.of hp),(SqT.of hp2),nx,by rw[rp.length,rp2.length];exact Znu c.1,fun z=> ?_,fun _ l hl=> ?_⟩)
     ·subst z
      cases rp2
      rw[List.append_nil] at q;exact q _ H α Ext.refl h (.tup hp rp)
     ·exact q _ _ α (Ext.new0 hl) (h.tup hl) (.tup Zy (Reps.mono (Ext.new0 hl) (rp.append rp2)))
    ·exact q.elim
 ·exact q.elim
variable {a b e:Expr}{fa fb:Ev}{pos:Pos}
theorem Zx (ha:DE X ξ a fa)(hb:DE X ξ b fb):DE X ξ (.BinOp a .Add b pos) (e2 dAdd fa fb):=ZfT Zll ZnB ha hb
theorem ZN (ha:DE X ξ a fa)(hb:DE X ξ b fb):DE X ξ (.BinOp a .Sub b pos) (e2 dSub fa fb):=ZfT Zm6 Znv ha hb
theorem Zt (ha:DE X ξ a fa)(hb:DE X ξ b fb):DE X ξ (.BinOp a .Mult b pos) (e2 dMul fa fb):=ZfT Zlj Znw ha hb
theorem Zb1 (ha:DE X ξ a fa)(hb:DE X ξ b fb):DE X ξ (.BinOp a .FloorDiv b pos) (e2 dDiv fa fb):=ZfT Zi1 Znx ha hb
theorem Zaw (ha:DE X ξ a fa)(hb:DE X ξ b fb):DE X ξ (.BinOp a .Mod b pos) (e2 dMod fa fb):=ZfT ZkX Zny ha hb
theorem ZgY (ha:DE X ξ a fa)(hb:DE X ξ b fb):DE X ξ (.BinOp a .Pow b pos) (e2 dPow fa fb):=ZfT Zm7 Znz ha hb
def ZdW (f:Ev):Ev:=fun ρ M=>(f ρ M).bind fun x M1=>match x with | .int i=> .ok (.int (-i)) M1 | _=> .bad
theorem Zax (ha:DE X ξ a fa):DE X ξ (.UnaryOp .USub a pos) (ZdW fa):=by
 obtain ⟨ta,ha,qa⟩:=ha
 refine ⟨_,Zm4 ZjZ ha,fun σ ρ H α M Q s h q=> ?_⟩
 refine qa σ ρ H α M _ s h (OG.seq q fun x M1 v H1 α1 e1 h1 r1 q1=> ?_)
 cases r1 with
 |int i=>exact ⟨i,rfl,q1 _ H1 α1 Ext.refl h1 (.int (-i))⟩
 |_=>exact q1.elim
def atD (xs:List D)(i:Int)(M:Sto):Out D:=match atI xs i with | some d=> .ok d M | none=> .bad
def dIx:Bo:=fun x y M=>match x,y with
 | .tup xs,.int i=>atD xs i M
 | .rol xs,.int i=>atD xs i M
 | .ref n,.int i=>match M[n]? with | some (.lst xs)=>atD xs i M | _=> .bad
 |_,_=> .bad
theorem Reps.atI {K:Fg}{H:Hp}{α:List Addr}{vs:List V}{ds:List D}{i:Int}{d:D}(r:Reps K H α vs ds)(h:L2.atI ds i=some d): ∃ v,L2.atI vs i=some v/\Rep K H α v d:=by
 unfold L2.atI at h ⊢;rw[r.length];cases e:ixN ds.length i with
 |none=>rw[e] at h;cases h
 |some j=>
  rw[e] at h;exact r.get h
theorem ZqG:BO X ξ (fun x y H Q=>ZsN X.K x y H Q\/ZsO X.K x y H Q) dIx:=by
 intro H α M v w x y Q h rv rw' q;have at': ∀ {ds:List D} {i:Int},OP X.K H α ξ Q (atD ds i M)-> ∃ d,L2.atI ds i=some d/\OP X.K H α ξ Q (.ok d M):=fun {ds i} q=>by
  unfold atD at q;cases e:L2.atI ds i with
  |none=>rw[e] at q;exact q.elim
  |some d=>rw[e] at q;exact ⟨d,rfl,q⟩
 unfold dIx at q
 split at q
 ·rename_i ds i
  cases rw'
  cases rv with
  | @tup p xs _ hp rp=>
   obtain ⟨d,e,q⟩:=at' q
   obtain ⟨v,h1,h2⟩:=rp.atI e
   exact .inr ⟨p,xs,i,v,rfl,rfl,(SqT.of hp),h1,q v H α Ext.refl h h2⟩
 ·rename_i ds i
  cases rw'
  cases rv with
  | @rol p xs _ hp rp=>
   obtain ⟨d,e,q⟩:=at' q
   obtain ⟨v,h1,h2⟩:=rp.atI e
   exact .inl ⟨p,xs,i,v,rfl,rfl,hp.sq,h1,q v H α Ext.refl h h2⟩
 ·rename_i n i
  cases rw'
  cases rv with
  | @ref p _ hp=>
   split at q
   ·rename_i ds e1
    obtain ⟨d,e,q⟩:=at' q
    obtain ⟨xs,g1,r1⟩:=h.at hp e1
    obtain ⟨v,h1,h2⟩:=r1.atI e
    exact .inl ⟨p,xs,i,v,rfl,rfl,SqL.of g1,h1,q v H α Ext.refl h h2⟩
   ·exact q.elim
 ·exact q.elim
theorem Zo (ha:DE X ξ a fa)(hb:DE X ξ b fb)(hs:ZgJ b:=by exact fun _ _=>rfl):DE X ξ (.Subscript a b pos) (e2 dIx fa fb):=by
 obtain ⟨ta,ha,qa⟩:=ha
 obtain ⟨tb,hb,qb⟩:=hb
 exact ⟨_,Zqx (IxR.or Zk8 Znf) ha hb hs,two ZqG qa qb⟩
end
inductive Kd where
 |non | bl (b:Bool) | int (i:Int) | str (x:Str) | tup (xs:List D) | lst (xs:List D)
noncomputable def kd (M:Sto):D->Option Kd
 | .non=>some .non
 | .bl b=>some (.bl b)
 | .int i=>some (.int i)
 | .str x=>some (.str x)
 | .tup xs=>some (.tup xs)
 | .rol xs=>some (.lst xs)
 | .con xs=>some (.tup xs)
 | .ref n=>match M[n]? with | some (.lst xs)=>some (.lst xs) | _=>none
 | .err _ _=>none
 | .dk _=>none
 | .dt _=>none
 | .fn _=>none
noncomputable def eqL (f:D->D->Option Bool):List D->List D->Option Bool
 | [],[]=>some true
 |x :: xs,y :: ys=>match f x y with | some a=>(match eqL f xs ys with | some b=>some (a && b) | none=>none) | none=>none
 |_,_=>some false
def eqK (f:D->D->Option Bool):Kd->Kd->Option Bool
 | .non,.non=>some true
 | .bl a,.bl b=>some (a == b)
 | .bl a,.int b=>some ((if a then 1 else 0) == b)
 | .int a,.bl b=>some (a == (if b then 1 else 0))
 | .int a,.int b=>some (a == b)
 | .str a,.str b=>some (a == b)
 | .tup xs,.tup ys=>eqL f xs ys
 | .lst xs,.lst ys=>if xs.length=ys.length then eqL f xs ys else some false
 |_,_=>some false
def eqF:Nat->Sto->D->D->Option Bool
 |0,_,_,_=>none
 |n + 1,M,x,y=>match kd M x,kd M y with | some a,some b=>eqK (eqF n M) a b | _,_=>none
inductive Vw (X:Cx) (H:Hp) (α:List Addr) (s:Shared):Kd->Value->Prop where
 |non:Vw X H α s .non .none
 |bl (b:Bool):Vw X H α s (.bl b) (.bool b)
 |int (i:Int) (t:Tok):Vw X H α s (.int i) (.int i t)
 |str (x:Str) (t:Tok):Vw X H α s (.str x) (.str x t)
 |tup {p:Addr} {xs:List V} {ds:List D} {its:List Value}:s.heap.IsTuple p its.toArray->ZO xs its->Reps X.K H α xs ds->Vw X H α s (.tup ds) (.ref p)
 |lst {p:Addr} {xs:List V} {ds:List D} {its:List Value}:s.heap.IsList p its.toArray->ZO xs its->Reps X.K H α xs ds->Vw X H α s (.lst ds) (.ref p)
section
variable {X:Cx}{ξ:XK}{pins:Pn}{σ:L2.St}{H:Hp}{s:Shared}{α:List Addr}{M:Sto}
theorem vw (I:Inv X pins σ H s)(h:HR X.K H α M){v:V}{x:D}{u:Value}{k:Kd}(r:Rep X.K H α v x)(ru:ZM v u)(e:kd M x=some k):Vw X H α s k u:=by
 cases r with
 |non=>cases e;cases ru;exact .non
 |bl b=>cases e;cases ru;exact .bl b
 |int i=>cases e;obtain ⟨t,rfl⟩:=ru;exact .int i t
 |str x=>cases e;obtain ⟨t,rfl⟩:=ru;exact .str x t
 |err _ _ _=>cases e
 |dk _=>cases e
 |dt _=>cases e
 |fn _=>cases e
 | @tup p xs ds hp rp=>
  cases e;cases ru
  obtain ⟨its,h1,h2,_⟩:=I.tuple (SqT.of hp)
  exact .tup h2 h1 rp
 | @con p xs ds hp rp=>
  cases e;cases ru
  obtain ⟨its,h1,h2,_⟩:=I.tuple hp.sq
  exact .tup h2 h1 rp
 | @rol p xs ds hp rp=>
  cases e;cases ru
  obtain ⟨its,h1,h2,_⟩:=I.list hp.sq
  exact .lst h2.isList h1 rp
 | @ref p n hp=>
  cases ru
  cases e1:M[n]? with
  |none=>simp only[kd,e1] at e;cases e
  |some o=>
   cases o with
   |lst ds=>
    simp only[kd,e1] at e;cases e
    obtain ⟨xs,g1,r1⟩:=h.at hp e1
    obtain ⟨its,h1,h2,_⟩:=I.list (SqL.of g1)
    exact .lst h2.isList h1 r1
noncomputable def Eq3 (A:Around)(s:Shared)(u z:Value)(b:Bool):Prop:=EqAt A s u z b/\RcAt A s u z b/\RcNeAt A s u z (!b)
theorem ZgZ {f:D->D->Option Bool}: ∀ {xs ys:List D} {b:Bool},eqL f xs ys=some b->
  (∀ (j:Nat) x y,xs[j]?=some x->ys[j]?=some y-> ∃ c,f x y=some c)/\
  b=((List.range (min xs.length ys.length)).all (fun j=>match xs[j]?,ys[j]? with | some x,some y=>(f x y).getD false | _,_=>false) && xs.length == ys.length)
 | [],[],b,e=>by
  simp only[eqL,Option.some.injEq] at e;subst e;exact ⟨fun j x y h=>(by simp at h),(by simp)⟩
 |x :: xs,[],b,e=>by
  simp only[eqL,Option.some.injEq] at e;subst e;exact ⟨fun j x y h1 h2=>(by simp at h2),(by simp)⟩
 | [],y :: ys,b,e=>by
  simp only[eqL,Option.some.injEq] at e;subst e;exact ⟨fun j x y h1 h2=>(by simp at h1),(by simp)⟩
 |x :: xs,y :: ys,b,e=>by
  cases e1:f x y with
  |none=>simp only[eqL,e1] at e;cases e
  |some a=>
   cases e2:eqL f xs ys with
   |none=>simp only[eqL,e1,e2] at e;cases e
   |some c=>
    simp only[eqL,e1,e2,Option.some.injEq] at e;subst e;obtain ⟨h1,h2⟩:=ZgZ e2
    refine ⟨fun j x' y' g1 g2=> ?_,?_⟩
    ·cases j with
     |zero=>
      simp at g1 g2
      subst g1 g2;exact ⟨a,e1⟩
     |succ j=>
      simp at g1 g2
      exact h1 j x' y' g1 g2
    ·have em:min (x :: xs).length (y :: ys).length=min xs.length ys.length + 1:=by simp only[List.length_cons];lia
     rw[em,List.range_succ_eq_map,List.all_cons,List.all_map,h2]
     simp[e1,Bool.and_assoc,Function.comp_def]
theorem Zi2 (I:Inv X pins σ H s)(h:HR X.K H α M): ∀ (n:Nat) {v:V} {x y:D} {b:Bool},Rep X.K H α v x->Rep X.K H α v y->eqF n M x y=some b->b=true:=by
 intro n
 induction n with
 |zero=>intro v x y b _ _ e;simp only[eqF] at e;cases e
 |succ n ih=>
  have lists: ∀ (vs:List V) (xs ys:List D) (b:Bool),Reps X.K H α vs xs->Reps X.K H α vs ys->eqL (eqF n M) xs ys=some b->b=true:=by
   intro vs
   induction vs with
   |nil=>
    intro xs ys b r1 r2 e;cases r1;cases r2
    simp only[eqL,Option.some.injEq] at e;exact e.symm
   |cons v vs iv=>
    intro xs ys b r1 r2 e;cases r1 with
    |cons p1 t1=>
     cases r2 with
     |cons p2 t2=>
      rename_i d1 ds1 d2 ds2;cases e1:eqF n M d1 d2 with
      |none=>simp only[eqL,e1] at e;cases e
      |some a=>
       cases e2:eqL (eqF n M) ds1 ds2 with
       |none=>simp only[eqL,e1,e2] at e;cases e
       |some c=>
        simp only[eqL,e1,e2,Option.some.injEq] at e;rw[<- e,ih p1 p2 e1,iv _ _ _ t1 t2 e2];rfl
  intro v x y b r1 r2 e;have nl: ∀ {p:Addr} {xs ys:List V},SqT X.K H p xs->SqL X.K H p ys->False:=fun {p xs ys} a c=>by
   obtain ⟨i1,_,⟨o1,g1,c1,_⟩,_⟩:=I.tuple a
   obtain ⟨i2,_,⟨o2,_,g2,c2,_⟩,_⟩:=I.list c
   rw[g1] at g2;cases g2
   rw[c1] at c2;exact absurd c2 (by decide)
  have ll: ∀ {p:Addr} {n:Nat} {ds:List D},RefK H α 0 n p->M[n]?=some (.lst ds)-> ∃ vs,SqL X.K H p vs/\Reps X.K H α vs ds:=fun {p n ds} a c=>by
   obtain ⟨xs,g1,r1⟩:=h.at a c
   exact ⟨xs,SqL.of g1,r1⟩
  cases r1 with
  |non=>cases r2;simp only[eqF,kd,eqK,Option.some.injEq] at e;exact e.symm
  |bl c=>cases r2;simp only[eqF,kd,eqK,Option.some.injEq,beq_self_eq_true] at e;exact e.symm
  |int c=>cases r2;simp only[eqF,kd,eqK,Option.some.injEq,beq_self_eq_true] at e;exact e.symm
  |str c=>cases r2;simp only[eqF,kd,eqK,Option.some.injEq,beq_self_eq_true] at e;exact e.symm
  |err _ _ _=>simp[eqF,kd] at e
  |dk _=>simp[eqF,kd] at e
  |dt _=>simp[eqF,kd] at e
  |fn _=>simp[eqF,kd] at e
  | @tup p xs ds hp rp=>
   cases r2 with
   | @tup _ xs2 ds2 hp2 rp2=>
    cases I.tuple_inj (SqT.of hp) (SqT.of hp2)
    simp only[eqF,kd,eqK] at e;exact lists _ _ _ _ rp rp2 e
   | @con _ xs2 ds2 hp2 rp2=>
    cases I.tuple_inj (SqT.of hp) hp2.sq
    simp only[eqF,kd,eqK] at e;exact lists _ _ _ _ rp rp2 e
   | @rol _ xs2 ds2 hp2 rp2=>exact (nl (SqT.of hp) hp2.sq).elim
   |err _ _ _=>simp[eqF,kd] at e
   |dk _=>simp[eqF,kd] at e
   |dt _=>simp[eqF,kd] at e
   |fn _=>simp[eqF,kd] at e
   | @ref _ n2 hp2=>
    obtain ⟨ys,g⟩:=h.some_at hp2
    exact (nl (SqT.of hp) (SqL.of g)).elim
  | @con p xs ds hp rp=>
   cases r2 with
   | @tup _ xs2 ds2 hp2 rp2=>
    cases I.tuple_inj hp.sq (SqT.of hp2)
    simp only[eqF,kd,eqK] at e;exact lists _ _ _ _ rp rp2 e
   | @con _ xs2 ds2 hp2 rp2=>
    cases I.tuple_inj hp.sq hp2.sq
    simp only[eqF,kd,eqK] at e;exact lists _ _ _ _ rp rp2 e
   | @rol _ xs2 ds2 hp2 rp2=>exact (nl hp.sq hp2.sq).elim
   |err _ _ _=>simp[eqF,kd] at e
   |dk _=>simp[eqF,kd] at e
   |dt _=>simp[eqF,kd] at e
   |fn _=>simp[eqF,kd] at e
   | @ref _ n2 hp2=>
    obtain ⟨ys,g⟩:=h.some_at hp2
    exact (nl hp.sq (SqL.of g)).elim
  | @rol p xs ds hp rp=>
   cases r2 with
   | @tup _ xs2 ds2 hp2 rp2=>exact (nl (SqT.of hp2) hp.sq).elim
   | @con _ xs2 ds2 hp2 rp2=>exact (nl hp2.sq hp.sq).elim
   |err _ _ _=>simp[eqF,kd] at e
   |dk _=>simp[eqF,kd] at e
   |dt _=>simp[eqF,kd] at e
   |fn _=>simp[eqF,kd] at e
   | @rol _ xs2 ds2 hp2 rp2=>
    cases I.list_inj hp.sq hp2.sq
    simp only[eqF,kd,eqK,if_pos (rp.length.symm.trans rp2.length)] at e;exact lists _ _ _ _ rp rp2 e
   | @ref _ n2 hp2=>
    cases e1:M[n2]? with
    |none=>simp only[eqF,kd,e1] at e;cases e
    |some o=>
     cases o with
     |lst ds2=>
      obtain ⟨ys,g,r⟩:=ll hp2 e1
      cases I.list_inj hp.sq g
      simp only[eqF,kd,e1,eqK,if_pos (rp.length.symm.trans r.length)] at e;exact lists _ _ _ _ rp r e
  | @ref p n1 hp=>
   cases e0:M[n1]? with
   |none=>simp only[eqF,kd,e0] at e;cases e
   |some o0=>
    cases o0 with
    |lst ds=>
     obtain ⟨xs,g0,rp⟩:=ll hp e0
     cases r2 with
     | @tup _ xs2 ds2 hp2 rp2=>exact (nl (SqT.of hp2) g0).elim
     | @con _ xs2 ds2 hp2 rp2=>exact (nl hp2.sq g0).elim
     |err _ _ _=>simp[eqF,kd,e0] at e
     |dk _=>simp[eqF,kd,e0] at e
     |dt _=>simp[eqF,kd,e0] at e
     |fn _=>simp[eqF,kd,e0] at e
     | @rol _ xs2 ds2 hp2 rp2=>
      cases I.list_inj g0 hp2.sq
      simp only[eqF,kd,e0,eqK,if_pos (rp.length.symm.trans rp2.length)] at e;exact lists _ _ _ _ rp rp2 e
     | @ref _ n2 hp2=>
      cases e1:M[n2]? with
      |none=>simp only[eqF,kd,e0,e1] at e;cases e
      |some o=>
       cases o with
       |lst ds2=>
        obtain ⟨ys,g,r⟩:=ll hp2 e1
        cases I.list_inj g0 g
        simp only[eqF,kd,e0,e1,eqK,if_pos (rp.length.symm.trans r.length)] at e;exact lists _ _ _ _ rp r e
end
end DL
end
section
namespace DL
open PyProof.Rows L2
open PySem.SeqAt (EqAt RcAt RcNeAt)
section
variable {X:Cx}{ξ:XK}{pins:Pn}{σ:L2.St}{H:Hp}{s:Shared}{α:List Addr}{M:Sto}
theorem Zfc {A:Around}{n:Nat}{xs1 xs2:List V}{ds1 ds2:List D}{i1 i2:List Value}{b:Bool}(v1:ZO xs1 i1)(v2:ZO xs2 i2)(r1:Reps X.K H α xs1 ds1)(r2:Reps X.K H α xs2 ds2)
  (ih: ∀ (x y:D) (v w:V) (u z:Value) (b:Bool),eqF n M x y=some b->Rep X.K H α v x->Rep X.K H α w y->ZM v u->ZM w z->EqAt A s u z b) (e:eqL (eqF n M) ds1 ds2=some b):
  ∃ f:Nat->Bool,(∀ (j:Nat) (h1:j < i1.toArray.size) (h2:j < i2.toArray.size),EqAt A s i1.toArray[j] i2.toArray[j] (f j))/\b=((List.range (min i1.toArray.size i2.toArray.size)).all f && i1.toArray.size == i2.toArray.size):=by
 obtain ⟨g1,g2⟩:=ZgZ e
 have l1:i1.toArray.size=ds1.length:=by rw[List.size_toArray,<- v1.length,r1.length]
 have l2:i2.toArray.size=ds2.length:=by rw[List.size_toArray,<- v2.length,r2.length]
 refine ⟨_,fun j h1 h2=> ?_,by rw[l1,l2];exact g2⟩
 have k1:j < ds1.length:=by rw[<- l1];exact h1
 have k2:j < ds2.length:=by rw[<- l2];exact h2
 obtain ⟨c,hc⟩:=g1 j _ _ (Gq k1) (Gq k2)
 obtain ⟨v,a1,a2⟩:=r1.get (Gq k1)
 obtain ⟨w,b1,b2⟩:=r2.get (Gq k2)
 obtain ⟨u,a3,a4⟩:=v1.get a1
 obtain ⟨z,b3,b4⟩:=v2.get b1
 have q:=ih _ _ v w u z c hc a2 b2 a4 b4
 simp only[List.getElem?_eq_getElem k1,List.getElem?_eq_getElem k2,hc,Option.getD_some]
 have e1:i1.toArray[j]=u:=by
  have:=List.getElem?_eq_some_iff.mp a3
  obtain ⟨_,z⟩:=this
  simpa using z
 have e2:i2.toArray[j]=z:=by
  have:=List.getElem?_eq_some_iff.mp b3
  obtain ⟨_,z⟩:=this
  simpa using z
 rw[e1,e2];exact q
theorem Zg0 (I:Inv X pins σ H s)(h:HR X.K H α M){n:Nat}{x y:D}{v w:V}{p q:Addr}{b:Bool}{A:Around}(e:eqF n M x y=some b)(rx:Rep X.K H α v x)(ry:Rep X.K H α w y)(rv:ZM v (.ref p))(rw':ZM w (.ref q))
  (k:RcAt A s (.ref p) (.ref q) b) (k':RcNeAt A s (.ref p) (.ref q) (!b)):Eq3 A s (.ref p) (.ref q) b:=by
 refine ⟨?_,k,k'⟩
 by_cases c:p=q
 ·subst c
  cases ZM.inj rv rw'
  rw[Zi2 I h n rx ry e];exact EqAt.same _
 ·exact EqAt.of_refs c k
theorem eq3 (I:Inv X pins σ H s)(h:HR X.K H α M): ∀ (n:Nat) (x y:D) (v w:V) (u z:Value) (b:Bool) (A:Around),A.units + n < cLine->eqF n M x y=some b->Rep X.K H α v x->Rep X.K H α w y->ZM v u->ZM w z->Eq3 A s u z b:=by
 intro n
 induction n with
 |zero=>intro x y v w u z b A _ e;simp only[eqF] at e;cases e
 |succ n ih=>
  intro x y v w u z b A hn e rx ry rv rw';have hu:A.units < cLine:=by lia
  have e0:=e
  unfold eqF at e;cases ka:kd M x with
  |none=>rw[ka] at e;cases e
  |some ka'=>
   cases kb:kd M y with
   |none=>rw[ka,kb] at e;cases e
   |some kb'=>
    rw[ka,kb] at e;have va:=vw I h rx rv ka
    have vb:=vw I h ry rw' kb
    have deep: ∀ (x y:D) (v w:V) (u z:Value) (b:Bool),eqF n M x y=some b->Rep X.K H α v x->Rep X.K H α w y->ZM v u->ZM w z->EqAt A.in1 s u z b:=fun x y v w u z b e a1 a2 a3 a4=>
     (ih x y v w u z b A.in1 (by rw[Around.in1_units];lia) e a1 a2 a3 a4).1
    cases va with
    |non=>
     cases vb<;>simp only[eqK,Option.some.injEq] at e<;>subst e
     ·exact ⟨EqAt.same _,.none_none,.none_none⟩
     ·exact ⟨.none_bool _,.none_bool _,.none_bool _⟩
     ·exact ⟨.none_int _ _,.none_int _ _,.none_int _ _⟩
     ·exact ⟨.none_str _ _,.none_str _ _,.none_str _ _⟩
     ·rename_i g _ _;exact ⟨.none_tuple g hu,.none_tuple g hu,.none_tuple g hu⟩
     ·rename_i g _ _;exact ⟨.none_list g hu,.none_list g hu,.none_list g hu⟩
    |bl c=>
     cases vb<;>simp only[eqK,Option.some.injEq] at e<;>subst e
     ·exact ⟨.bool_none _,.bool_none _,.bool_none _⟩
     ·exact ⟨.bool_bool _ _,.bool_bool _ _,.bool_bool _ _⟩
     ·exact ⟨.bool_int _ _ _,.bool_int _ _ _,.bool_int _ _ _⟩
     ·exact ⟨.bool_str _ _ _,.bool_str _ _ _,.bool_str _ _ _⟩
     ·rename_i g _ _;exact ⟨.bool_tuple _ g hu,.bool_tuple _ g hu,.bool_tuple _ g hu⟩
     ·rename_i g _ _;exact ⟨.bool_list _ g hu,.bool_list _ g hu,.bool_list _ g hu⟩
    |int c t=>
     cases vb<;>simp only[eqK,Option.some.injEq] at e<;>subst e
     ·exact ⟨.int_none _ _,.int_none _ _,.int_none _ _⟩
     ·exact ⟨.int_bool _ _ _,.int_bool _ _ _,.int_bool _ _ _⟩
     ·exact ⟨.int_int _ _ _ _,.int_int _ _ _ _,.int_int _ _ _ _⟩
     ·exact ⟨.int_str _ _ _ _,.int_str _ _ _ _,.int_str _ _ _ _⟩
     ·rename_i g _ _;exact ⟨.int_tuple _ _ g hu,.int_tuple _ _ g hu,.int_tuple _ _ g hu⟩
     ·rename_i g _ _;exact ⟨.int_list _ _ g hu,.int_list _ _ g hu,.int_list _ _ g hu⟩
    |str c t=>
     cases vb<;>simp only[eqK,Option.some.injEq] at e<;>subst e
     ·exact ⟨.str_none _ _,.str_none _ _,.str_none _ _⟩
     ·exact ⟨.str_bool _ _ _,.str_bool _ _ _,.str_bool _ _ _⟩
     ·exact ⟨.str_int _ _ _ _,.str_int _ _ _ _,.str_int _ _ _ _⟩
     ·exact ⟨.str_str _ _ _ _,.str_str _ _ _ _,.str_str _ _ _ _⟩
     ·rename_i g _ _;exact ⟨.str_tuple _ _ g hu,.str_tuple _ _ g hu,.str_tuple _ _ g hu⟩
     ·rename_i g _ _;exact ⟨.str_list _ _ g hu,.str_list _ _ g hu,.str_list _ _ g hu⟩
    | @tup p xs ds its g1 w1 q1=>
     cases vb with
     | @tup p2 xs2 ds2 its2 g2 w2 q2=>
      simp only[eqK] at e;obtain ⟨f,hf,hb⟩:=Zfc w1 w2 q1 q2 deep e
      subst hb;exact Zg0 I h e0 rx ry rv rw' (.tuples g1 g2 hu hf) (.tuples g1 g2 hu hf)
     | @lst p2 xs2 ds2 its2 g2 w2 q2=>
      simp only[eqK,Option.some.injEq] at e;subst e;exact Zg0 I h e0 rx ry rv rw' (.tuple_list g1 g2 hu) (.tuple_list g1 g2 hu)
     |non=>simp only[eqK,Option.some.injEq] at e;subst e;exact ⟨.tuple_none g1 hu,.tuple_none g1 hu,.tuple_none g1 hu⟩
     |bl c=>simp only[eqK,Option.some.injEq] at e;subst e;exact ⟨.tuple_bool _ g1 hu,.tuple_bool _ g1 hu,.tuple_bool _ g1 hu⟩
     |int c t=>simp only[eqK,Option.some.injEq] at e;subst e;exact ⟨.tuple_int _ _ g1 hu,.tuple_int _ _ g1 hu,.tuple_int _ _ g1 hu⟩
     |str c t=>simp only[eqK,Option.some.injEq] at e;subst e;exact ⟨.tuple_str _ _ g1 hu,.tuple_str _ _ g1 hu,.tuple_str _ _ g1 hu⟩
    | @lst p xs ds its g1 w1 q1=>
     cases vb with
     | @lst p2 xs2 ds2 its2 g2 w2 q2=>
      simp only[eqK] at e;have l1:its.toArray.size=ds.length:=by rw[List.size_toArray,<- w1.length,q1.length]
      have l2:its2.toArray.size=ds2.length:=by rw[List.size_toArray,<- w2.length,q2.length]
      by_cases c:ds.length=ds2.length
      ·rw[if_pos c] at e
       have hs:its.toArray.size=its2.toArray.size:=by rw[l1,l2,c]
       obtain ⟨f,hf,hb⟩:=Zfc w1 w2 q1 q2 deep e
       rw[hs,Nat.min_self,beq_self_eq_true,Bool.and_true,<- hs] at hb;subst hb;exact Zg0 I h e0 rx ry rv rw' (.lists g1 g2 hs hu hf) (.lists g1 g2 hs hu hf)
      ·rw[if_neg c] at e
       have e':false=b:=Option.some.inj e
       subst e';have hs:(its.toArray.size != its2.toArray.size)=true:=by rw[l1,l2];simpa using c
       exact Zg0 I h e0 rx ry rv rw' (.lists_lengths g1 g2 hs hu) (.lists_lengths g1 g2 hs hu)
     | @tup p2 xs2 ds2 its2 g2 w2 q2=>
      simp only[eqK,Option.some.injEq] at e;subst e;exact Zg0 I h e0 rx ry rv rw' (.list_tuple g1 g2 hu) (.list_tuple g1 g2 hu)
     |non=>simp only[eqK,Option.some.injEq] at e;subst e;exact ⟨.list_none g1 hu,.list_none g1 hu,.list_none g1 hu⟩
     |bl c=>simp only[eqK,Option.some.injEq] at e;subst e;exact ⟨.list_bool _ g1 hu,.list_bool _ g1 hu,.list_bool _ g1 hu⟩
     |int c t=>simp only[eqK,Option.some.injEq] at e;subst e;exact ⟨.list_int _ _ g1 hu,.list_int _ _ g1 hu,.list_int _ _ g1 hu⟩
     |str c t=>simp only[eqK,Option.some.injEq] at e;subst e;exact ⟨.list_str _ _ g1 hu,.list_str _ _ g1 hu,.list_str _ _ g1 hu⟩
end
section
variable {X:Cx}{ξ:XK}
def Zqd (X:Cx)(neg:Bool):R2:=fun v w H Q=> ∃ α M x y b,HR X.K H α M/\Rep X.K H α v x/\Rep X.K H α w y/\eqF 12 M x y=some b/\Q (.bl (neg ^^ b)) H
theorem ZaH (hu:X.A.units + 64 < cLine):OpR X (compareOp .Eq) (Zqd X false):=by
 intro pins s σ H v w u z Q I rv rw' ⟨α,M,x,y,b,h,rx,ry,e,q⟩;refine (eq3 I h 12 x y v w u z b X.A (by lia) e rx ry rv rw').2.1 _ _ _ _ ⟨.bl b,H,I,rfl,?_⟩
 simpa using q
theorem Zby (hu:X.A.units + 64 < cLine):OpR X (compareOp .NotEq) (Zqd X true):=by
 intro pins s σ H v w u z Q I rv rw' ⟨α,M,x,y,b,h,rx,ry,e,q⟩;refine (eq3 I h 12 x y v w u z b X.A (by lia) e rx ry rv rw').2.2 _ _ _ _ ⟨.bl (!b),H,I,rfl,?_⟩
 simpa using q
def dEq:Bo:=fun x y M=>match eqF 12 M x y with | some b=> .ok (.bl b) M | none=> .bad
def dNe:Bo:=fun x y M=>match eqF 12 M x y with | some b=> .ok (.bl (!b)) M | none=> .bad
theorem ZbT:BO X ξ (Zqd X false) dEq:=by
 intro H α M v w x y Q h rv rw' q;unfold dEq at q;cases e:eqF 12 M x y with
 |none=>rw[e] at q;exact q.elim
 |some b=>rw[e] at q;exact ⟨α,M,x,y,b,h,rv,rw',e,by simpa using q _ H α Ext.refl h (.bl b)⟩
theorem Zdf:BO X ξ (Zqd X true) dNe:=by
 intro H α M v w x y Q h rv rw' q;unfold dNe at q;cases e:eqF 12 M x y with
 |none=>rw[e] at q;exact q.elim
 |some b=>rw[e] at q;exact ⟨α,M,x,y,b,h,rv,rw',e,by simpa using q _ H α Ext.refl h (.bl (!b))⟩
noncomputable def Zg1:V->Bool
 | .non=>true
 | .bl _=>true
 |_=>false
def rIs (neg:Bool):R2:=fun v w H Q=>Zg1 w=true/\Q (.bl (neg ^^ decide (v=w))) H
theorem Zfd {v w:V}{u z:Value}(rv:ZM v u)(rw':ZM w z)(p:Zg1 w=true):plainIs u z=true/\(u == z)=decide (v=w):=by
 cases w with
 |non=>
  cases rw'
  cases v with
  |non=>cases rv;exact ⟨rfl,rfl⟩
  |bl b=>cases rv;exact ⟨rfl,by rw[decide_eq_false (fun z=>(nomatch z))];rfl⟩
  |int b=>obtain ⟨t,rfl⟩:=rv;exact ⟨rfl,by rw[decide_eq_false (fun z=>(nomatch z))];rfl⟩
  |str b=>obtain ⟨t,rfl⟩:=rv;exact ⟨rfl,by rw[decide_eq_false (fun z=>(nomatch z))];rfl⟩
  |byt b=>obtain ⟨t,rfl⟩:=rv;exact ⟨rfl,by rw[decide_eq_false (fun z=>(nomatch z))];rfl⟩
  |flt b=>obtain ⟨t,rfl⟩:=rv;exact ⟨rfl,by rw[decide_eq_false (fun z=>(nomatch z))];rfl⟩
  |ref b=>cases rv;exact ⟨rfl,by rw[decide_eq_false (fun z=>(nomatch z))];rfl⟩
  |ty b=>cases rv;exact ⟨rfl,by rw[decide_eq_false (fun z=>(nomatch z))];rfl⟩
 |bl c=>
  cases rw'
  cases v with
  |non=>cases rv;exact ⟨rfl,by rw[decide_eq_false (fun z=>(nomatch z))];rfl⟩
  |bl b=>cases rv;refine ⟨rfl,?_⟩;cases b<;>cases c<;>rfl
  |int b=>obtain ⟨t,rfl⟩:=rv;exact ⟨rfl,by rw[decide_eq_false (fun z=>(nomatch z))];rfl⟩
  |str b=>obtain ⟨t,rfl⟩:=rv;exact ⟨rfl,by rw[decide_eq_false (fun z=>(nomatch z))];rfl⟩
  |byt b=>obtain ⟨t,rfl⟩:=rv;exact ⟨rfl,by rw[decide_eq_false (fun z=>(nomatch z))];rfl⟩
  |flt b=>obtain ⟨t,rfl⟩:=rv;exact ⟨rfl,by rw[decide_eq_false (fun z=>(nomatch z))];rfl⟩
  |ref b=>cases rv;exact ⟨rfl,by rw[decide_eq_false (fun z=>(nomatch z))];rfl⟩
  |ty b=>cases rv;exact ⟨rfl,by rw[decide_eq_false (fun z=>(nomatch z))];rfl⟩
 |_=>cases p
theorem ZnC:OpR X (compareOp .Is) (rIs false):=by
 intro pins s σ H v w u z Q I rv rw' ⟨p,q⟩;obtain ⟨h1,h2⟩:=Zfd rv rw' p
 refine wpAny_is_plain h1 ⟨.bl (u == z),H,I,rfl,?_⟩
 rw[h2]
 simpa using q
theorem Zg2:OpR X (compareOp .IsNot) (rIs true):=by
 intro pins s σ H v w u z Q I rv rw' ⟨p,q⟩;obtain ⟨h1,h2⟩:=Zfd rv rw' p
 refine wpAny_isNot_plain h1 ⟨.bl (!(u == z)),H,I,rfl,?_⟩
 rw[h2]
 simpa using q
noncomputable def isP:D->D->Option Bool
 | .non,.non=>some true
 | .bl a,.bl b=>some (a == b)
 |_,.non=>some false
 |_,.bl _=>some false
 |_,_=>none
def dIs:Bo:=fun x y M=>match isP x y with | some b=> .ok (.bl b) M | none=> .bad
def dIsNot:Bo:=fun x y M=>match isP x y with | some b=> .ok (.bl (!b)) M | none=> .bad
theorem Zj7 {K:Fg}{H:Hp}{α:List Addr}{v w:V}{x y:D}{b:Bool}(rv:Rep K H α v x)(rw':Rep K H α w y)(e:isP x y=some b):Zg1 w=true/\decide (v=w)=b:=by
 unfold isP at e
 split at e
 ·cases rv;cases rw';cases e;exact ⟨rfl,rfl⟩
 ·rename_i c d
  cases rv;cases rw';cases e
  refine ⟨rfl,?_⟩
  cases c<;>cases d<;>rfl
 ·rename_i hx
  cases rw';cases e
  refine ⟨rfl,decide_eq_false fun z=> ?_⟩
  subst z;cases rv
  exact hx rfl
 ·rename_i c hx
  cases rw';cases e
  refine ⟨rfl,decide_eq_false fun z=> ?_⟩
  subst z;cases rv
  exact hx _ rfl
 ·cases e
theorem ZqH:BO X ξ (rIs false) dIs:=by
 intro H α M v w x y Q h rv rw' q;unfold dIs at q;cases e:isP x y with
 |none=>rw[e] at q;exact q.elim
 |some b=>
  rw[e] at q;obtain ⟨p,d⟩:=Zj7 rv rw' e
  exact ⟨p,by rw[d];simpa using q _ H α Ext.refl h (.bl b)⟩
theorem Zi3:BO X ξ (rIs true) dIsNot:=by
 intro H α M v w x y Q h rv rw' q;unfold dIsNot at q;cases e:isP x y with
 |none=>rw[e] at q;exact q.elim
 |some b=>
  rw[e] at q;obtain ⟨p,d⟩:=Zj7 rv rw' e
  exact ⟨p,by rw[d];simpa using q _ H α Ext.refl h (.bl (!b))⟩
noncomputable def Zdg:D->Bool
 | .non=>true
 | .bl _=>true
 | .int _=>true
 | .str _=>true
 |_=>false
noncomputable def ZqI:D->D->Bool
 | .non,.non=>true
 | .bl a,.bl b=>a == b
 | .bl a,.int b=>(if a then 1 else 0) == b
 | .int a,.bl b=>a == (if b then 1 else 0)
 | .int a,.int b=>a == b
 | .str a,.str b=>a == b
 |_,_=>false
theorem Zfe {K:Fg}{H:Hp}{α:List Addr}{v:V}{x:D}(r:Rep K H α v x)(f:Zdg x=true):Zca v=true:=by cases r<;>first | rfl | cases f
theorem Zi4 {K:Fg}{H:Hp}{α:List Addr}{v w:V}{x y:D}(r:Rep K H α v x)(q:Rep K H α w y)(f:Zdg x=true)(g:Zdg y=true):eqV v w=ZqI x y:=by
 cases r<;>(cases q<;>first | rfl | exact absurd g Bool.false_ne_true | exact absurd f Bool.false_ne_true)
theorem ZnD {K:Fg}{H:Hp}{α:List Addr}{v:V}{x:D}(r:Rep K H α v x)(f:Zdg x=true): ∀ {vs:List V} {ds:List D},Reps K H α vs ds->ds.all Zdg=true->vs.all Zca=true/\inV v vs=ds.any fun y=>ZqI y x
 |_,_,.nil,_=>⟨rfl,rfl⟩
 |_,_,.cons p t,h=>by
  rw[List.all_cons,Bool.and_eq_true] at h;obtain ⟨h1,h2⟩:=ZnD r f t h.2
  refine ⟨by rw[List.all_cons,Zfe p h.1,h1];rfl,?_⟩
  unfold inV at h2 ⊢;rw[List.any_cons,List.any_cons,h2,Zi4 p r h.1 f]
noncomputable def ZfV (M:Sto):D->Option (List D)
 | .tup xs=>some xs
 | .rol xs=>some xs
 | .con xs=>some xs
 | .ref n=>match M[n]? with | some (.lst xs)=>some xs | _=>none
 |_=>none
theorem ZeC {K:Fg}{H:Hp}{α:List Addr}{M:Sto}(h:HR K H α M){v:V}{x:D}{ds:List D}(r:Rep K H α v x)(e:ZfV M x=some ds): ∃ p xs,v= .ref p/\(SqL K H p xs\/SqT K H p xs)/\Reps K H α xs ds:=by
 cases r with
 | @tup p xs ds hp rp=>cases e;exact ⟨p,xs,rfl,.inr (SqT.of hp),rp⟩
 | @con p xs ds hp rp=>cases e;exact ⟨p,xs,rfl,.inr hp.sq,rp⟩
 | @rol p xs ds hp rp=>cases e;exact ⟨p,xs,rfl,.inl hp.sq,rp⟩
 | @ref p n hp=>
  cases e1:M[n]? with
  |none=>simp only[ZfV,e1] at e;cases e
  |some o=>
   cases o with
   |lst es=>
    simp only[ZfV,e1] at e;cases e
    obtain ⟨xs,g1,r1⟩:=h.at hp e1
    exact ⟨p,xs,rfl,.inl (SqL.of g1),r1⟩
 |_=>cases e
def inD (x y:D)(M:Sto):Option Bool:=match ZfV M y with | some ds=>if Zdg x=true/\ds.all Zdg=true then some (ds.any fun y=>ZqI y x) else none | none=>none
def dNotIn:Bo:=fun x y M=>match inD x y M with | some b=> .ok (.bl (!b)) M | none=> .bad
theorem ZnE {H:Hp}{α:List Addr}{M:Sto}{v w:V}{x y:D}{b:Bool}(h:HR X.K H α M)(rv:Rep X.K H α v x)(rw':Rep X.K H α w y)(e:inD x y M=some b):
  ∃ p xs,w= .ref p/\(SqL X.K H p xs\/SqT X.K H p xs)/\Zca v=true/\xs.all Zca=true/\inV v xs=b:=by
 unfold inD at e;cases e1:ZfV M y with
 |none=>rw[e1] at e;cases e
 |some ds=>
  rw[e1] at e
  by_cases c:Zdg x=true/\ds.all Zdg=true
  ·simp only[if_pos c,Option.some.injEq] at e
   obtain ⟨p,xs,h1,h2,h3⟩:=ZeC h rw' e1
   obtain ⟨h4,h5⟩:=ZnD rv c.1 h3 c.2
   exact ⟨p,xs,h1,h2,Zfe rv c.1,h4,h5.trans e⟩
  ·simp only[if_neg c] at e
   cases e
theorem Zi5:BO X ξ (rIn X.K true) dNotIn:=by
 intro H α M v w x y Q h rv rw' q;unfold dNotIn at q;cases e:inD x y M with
 |none=>rw[e] at q;exact q.elim
 |some b=>
  rw[e] at q;obtain ⟨p,xs,h1,h2,h3,h4,h5⟩:=ZnE h rv rw' e
  exact ⟨p,xs,h1,h2,h3,h4,by rw[h5];exact q _ H α Ext.refl h (.bl (!b))⟩
variable {e:Expr}{es:List Expr}{fs:Av}{fa:Ev}{p pos:Pos}{x:Str}{id T:String}{r:List V->Hp->VK->Prop}{f:W3}
def Zk (f:W3)(fs:Av):Ev:=fun ρ M=>(fs ρ M).bind f
def CO (X:Cx)(ξ:XK)(r:List V->Hp->VK->Prop)(f:W3):Prop:= ∀ H α M vs ds Q,HR X.K H α M->Reps X.K H α vs ds->OP X.K H α ξ Q (f ds M)->r vs H Q
theorem Zs (hc:ZbP X (.builtin id) r)(hf:CO X ξ r f)(hm:X.mg x=none)(hv:bootBuiltins x=some (.builtin id))(ha:DA X ξ (e :: es) fs)(hg:Gl X x:=by rfl)(hn:x≠"__name__":=by decide)(hdb:(x == ("__debug__":Str))=false:=by decide)
  (he:starEach (e :: es) X.env=(false,eval e X.env) :: starEach es X.env:=by rfl) (hpl:(backTo pos (starEach es X.env)).any (·.1)=false:=by rfl):DE X ξ (.Call (.Name x p) (e :: es) [] pos) (Zk f fs):=by
 obtain ⟨ta,ha,qa⟩:=ha
 refine ⟨_,Ze8 hc hg hm hv ha hn hdb he hpl,fun σ ρ H α M Q s h q=> ?_⟩
 exact qa σ ρ H α M _ s h (OG.seq q fun ds M1 vs H1 α1 e1 h1 r1 q1=>hf H1 α1 M1 vs ds Q h1 r1 q1)
theorem ZS (hc:ZbP X (.type T) r)(hf:CO X ξ r f)(hm:X.mg x=none)(hv:bootBuiltins x=some (.type T))(ha:DA X ξ (e :: es) fs)(hg:Gl X x:=by rfl)(hn:x≠"__name__":=by decide)(hdb:(x == ("__debug__":Str))=false:=by decide)
  (he:starEach (e :: es) X.env=(false,eval e X.env) :: starEach es X.env:=by rfl) (hpl:(backTo pos (starEach es X.env)).any (·.1)=false:=by rfl):DE X ξ (.Call (.Name x p) (e :: es) [] pos) (Zk f fs):=by
 obtain ⟨ta,ha,qa⟩:=ha
 refine ⟨_,ZgF hc hg hm hv ha hn hdb he hpl,fun σ ρ H α M Q s h q=> ?_⟩
 exact qa σ ρ H α M _ s h (OG.seq q fun ds M1 vs H1 α1 e1 h1 r1 q1=>hf H1 α1 M1 vs ds Q h1 r1 q1)
def bLen:W3:=fun ds M=>match ds with
 | [x]=>match ZfV M x with | some xs=> .ok (.int xs.length) M | none=> .bad
 |_=> .bad
theorem ZY:CO X ξ (fun xs H Q=> ∃ p ys,xs=[.ref p]/\(SqL X.K H p ys\/SqT X.K H p ys)/\Q (.int ys.length) H) bLen:=by
 intro H α M vs ds Q h rs q;unfold bLen at q;cases rs with
 |nil=>exact q.elim
 | @cons v x vs ds r t=>
  cases t with
  |cons _ _=>exact q.elim
  |nil=>
  cases e:ZfV M x with
  |none=>simp only[e] at q;exact q.elim
  |some ys=>
   simp only[e] at q;obtain ⟨p,xs,rfl,h2,h3⟩:=ZeC h r e
   exact ⟨p,xs,rfl,h2,by rw[h3.length];exact q _ H α Ext.refl h (.int _)⟩
noncomputable def bAbs:W3:=fun ds M=>match ds with | [.int i]=> .ok (.int (if i < 0 then -i else i)) M | _=> .bad
theorem Zco:CO X ξ (fun xs H Q=> ∃ i,xs=[.int i]/\Q (.int (if i < 0 then -i else i)) H) bAbs:=by
 intro H α M vs ds Q h rs q;unfold bAbs at q
 split at q
 ·cases rs with
  |cons r t=>
   cases t
   cases r
   exact ⟨_,rfl,q _ H α Ext.refl h (.int _)⟩
 ·exact q.elim
noncomputable def bMax:W3:=fun ds M=>match ds with | [.int i,.int j]=> .ok (.int (if j > i then j else i)) M | _=> .bad
noncomputable def bMin:W3:=fun ds M=>match ds with | [.int i,.int j]=> .ok (.int (if j < i then j else i)) M | _=> .bad
theorem Zj8 {g:Int->Int->Int}{f:W3}(hf: ∀ ds M,f ds M=match ds with | [.int i,.int j]=> .ok (.int (g i j)) M | _=> .bad):CO X ξ (fun xs H Q=> ∃ i j,xs=[.int i,.int j]/\Q (.int (g i j)) H) f:=by
 intro H α M vs ds Q h rs q;rw[hf] at q
 split at q
 ·rename_i i j
  cases rs with
  |cons r t=>
   cases t with
   |cons r' t'=>
    cases t'
    cases r
    cases r'
    exact ⟨i,j,rfl,q _ H α Ext.refl h (.int _)⟩
 ·exact q.elim
theorem Zg3:CO X ξ (fun xs H Q=> ∃ i j,xs=[.int i,.int j]/\Q (.int (if j > i then j else i)) H) bMax:=Zj8 (g:=fun i j=>if j > i then j else i) fun ds M=>rfl
theorem ZnF:CO X ξ (fun xs H Q=> ∃ i j,xs=[.int i,.int j]/\Q (.int (if j < i then j else i)) H) bMin:=Zj8 (g:=fun i j=>if j < i then j else i) fun ds M=>rfl
noncomputable def bInt:W3:=fun ds M=>match ds with | [.int i]=> .ok (.int i) M | [.bl k]=> .ok (.int (if k then 1 else 0)) M | _=> .bad
theorem Zc1:CO X ξ (fun xs H Q=>(∃ i,xs=[.int i]/\Q (.int i) H)\/ ∃ k,xs=[.bl k]/\Q (.int (if k then 1 else 0)) H) bInt:=by
 intro H α M vs ds Q h rs q;unfold bInt at q
 split at q
 ·cases rs with
  |cons r t=>
   cases t
   cases r
   exact .inl ⟨_,rfl,q _ H α Ext.refl h (.int _)⟩
 ·cases rs with
  |cons r t=>
   cases t
   cases r
   exact .inr ⟨_,rfl,q _ H α Ext.refl h (.int _)⟩
 ·exact q.elim
def bList:W3:=fun ds M=>match ds with
 | [x]=>match ZfV M x with | some xs=> .ok (.ref M.length) (M ++ [.lst xs]) | none=> .bad
 |_=> .bad
theorem Zcp:CO X ξ (fun xs H Q=> ∃ p ys,xs=[.ref p]/\(SqL X.K H p ys\/SqT X.K H p ys)/\ ∀ l,H l=none->Q (.ref l) (upd H l (.lst ys))) bList:=by
 intro H α M vs ds Q h rs q;unfold bList at q;cases rs with
 |nil=>exact q.elim
 | @cons v x vs ds r t=>
  cases t with
  |cons _ _=>exact q.elim
  |nil=>
  cases e:ZfV M x with
  |none=>simp only[e] at q;exact q.elim
  |some ys=>
   simp only[e] at q;obtain ⟨p,xs,rfl,h2,h3⟩:=ZeC h r e
   exact ⟨p,xs,rfl,h2,fun l hl=>q _ _ (α ++ [l]) (Ext.new hl) (h.new hl h3) (.ref ⟨h.last l,Kn.lst Zy⟩)⟩
def Za2 (M:Sto)(x:D):Option String:=match kd M x with
 |some .non=>some "NoneType"
 |some (.bl _)=>some "bool"
 |some (.int _)=>some "int"
 |some (.str _)=>some "str"
 |some (.tup _)=>some "tuple"
 |some (.lst _)=>some "list"
 |none=>none
noncomputable def Zcq (t T:String):Bool:=t == T || (t == "bool" && T == "int")
def ZmE (T:String)(f:Ev):Ev:=fun ρ M=>(f ρ M).bind fun x M1=>match Za2 M1 x with | some t=> .ok (.bl (Zcq t T)) M1 | none=> .bad
def Zt4 (X:Cx)(T:String):List V->Hp->VK->Prop:=fun vs H Q=> ∃ v α M x t,vs=[v,.ty T]/\HR X.K H α M/\Rep X.K H α v x/\Za2 M x=some t/\Q (.bl (Zcq t T)) H
structure Kit (K:Fg) (T:String):Prop where
 non:PySem.W.kitOne K (.type "NoneType") (.type T)=some (Zcq "NoneType" T)
 bl:PySem.W.kitOne K (.type "bool") (.type T)=some (Zcq "bool" T)
 int:PySem.W.kitOne K (.type "int") (.type T)=some (Zcq "int" T)
 str:PySem.W.kitOne K (.type "str") (.type T)=some (Zcq "str" T)
 tup:PySem.W.kitOne K (.type "tuple") (.type T)=some (Zcq "tuple" T)
 lst:PySem.W.kitOne K (.type "list") (.type T)=some (Zcq "list" T)
theorem Zcr {K:Fg}:Kit K "tuple":=⟨rfl,rfl,rfl,rfl,rfl,rfl⟩
theorem Zi6 (kt:Kit X.K T):ZbP X (.builtin "isinstance") (Zt4 X T):=by
 intro pins s σ H vs us Q I rs ⟨v,α,M,x,t,e1,h,rx,et,q⟩;subst e1;obtain ⟨u,w,rfl,ru,rw'⟩:=ZiP rs
 cases rw'
 unfold Za2 at et;cases ek:kd M x with
 |none=>rw[ek] at et;cases et
 |some k=>
  rw[ek] at et;have va:=vw I h rx ru ek
  have fin: ∀ tk,EP X pins σ Q (.bool (Zcq t T)) { s with toks:=tk }:=fun tk=>⟨.bl _,H,I.tok tk,rfl,q⟩
  cases va with
  |non=>cases et;exact PySem.W.kia_one PySem.W.kitx_none I.kIn True.intro kt.non (fun z=>nomatch z) fin
  |bl b=>cases et;exact PySem.W.kia_one PySem.W.kitx_bool I.kIn True.intro kt.bl (fun z=>nomatch z) fin
  |int i t=>cases et;exact PySem.W.kia_one PySem.W.kitx_int I.kIn True.intro kt.int (fun z=>nomatch z) fin
  |str i t=>cases et;exact PySem.W.kia_one PySem.W.kitx_str I.kIn True.intro kt.str (fun z=>nomatch z) fin
  |tup g _ _=>cases et;obtain ⟨o,h1,h2,_⟩:=g;exact PySem.W.kia_one PySem.W.kitx_tuple I.kIn ⟨o,h1,h2⟩ kt.tup (fun z=>nomatch z) fin
  |lst g _ _=>cases et;obtain ⟨o,h1,h2,_⟩:=g;exact PySem.W.kia_one PySem.W.kitx_list I.kIn ⟨o,h1,h2⟩ kt.lst (fun z=>nomatch z) fin
theorem Zg4 {y:Str}{p2:Pos}(kt:Kit X.K T)(hm:X.mg "isinstance"=none)(hmT:X.mg y=none)(hvT:bootBuiltins y=some (.type T))(ha:DE X ξ e fa)(hg:Gl X "isinstance":=by rfl)(hgT:Gl X y:=by rfl)(hn:y≠"__name__":=by decide)(hdb:(y == ("__debug__":Str))=false:=by decide)
  (he:starEach [e,.Name y p2] X.env=(false,eval e X.env) :: starEach [.Name y p2] X.env:=by rfl) (he2:starEach [.Name y p2] X.env=(false,eval (.Name y p2) X.env) :: starEach [] X.env:=by rfl) (hpl:(backTo pos (starEach [.Name y p2] X.env)).any (·.1)=false:=by rfl):DE X ξ (.Call (.Name "isinstance" p) [e,.Name y p2] [] pos) (ZmE T fa):=by
 obtain ⟨ta,ha,qa⟩:=ha
 refine ⟨_,Ze8 (Zi6 kt) hg hm (by with_unfolding_all rfl) (Zex ha (Zex (ZkQ hgT hmT hvT (v:= .ty T) rfl hn hdb) Zj1 he2) he) (by decide) (by decide) he hpl,fun σ ρ H α M Q s h q=> ?_⟩
 refine qa σ ρ H α M _ s h (OG.seq q fun x M1 v H1 α1 e1 h1 r1 q1=> ?_)
 cases et:Za2 M1 x with
 |none=>simp only[et] at q1;exact q1.elim
 |some t=>
  simp only[et] at q1;exact ⟨v,α1,M1,x,t,rfl,h1,r1,et,q1 _ H1 α1 Ext.refl h1 (.bl _)⟩
end
end DL
end
section
namespace DL
open PyProof.Rows L2
def CXE (P:Program)(w:World):CXT:=fun outer H s E e s'=> ∃ (ea C:Addr) (dct:Option Addr) (B:Heap) (H':Hp),e= .ref ea/\s'.os=s.os/\AllBare s'.gens/\Un (frs outer) [] H H' s.heap s'.heap/\HOk P w H' s'.heap/\
 DQ.Fly B outer ea (.ref C) dct .none s'.heap/\(∀ b u,H' b=some u-> ∃ o,B.get? b=some o)/\(∀ b o,s.heap.get? b=some o->b ∉ frs outer-> ∃ o',B.get? b=some o')/\E (.ref C) dct H'
structure Thr (X:Cx) (ξ:XK):Prop where
 own:PassesOwn (model X.prog X.w) X.A X.env X.xe
 ps:ZgD (CXE X.prog X.w) X ξ
 mak: ∀ (pins:Pn) (σ:L2.St) (H H':Hp) (s s':Shared) (e:Addr) (oe:Obj) (vs:Array Value) (C:Addr),Inv X pins σ H s->s'.os=s.os->AllBare s'.gens->Un (frs X.stack) [] H H' s.heap s'.heap->HOk X.prog X.w H' s'.heap->s.heap.get? e=none->s'.heap.get? e=some oe->oe.cls= .ref C->
  oe.data= .fields vs->vs[1]?=some .none->vs[2]?=some .none->H' e=none->ξ (.ref C) oe.dict H'->X.xe (.ref e) s'
theorem ZdX {h b1 b2:Heap}: ∀ {l:List Env},h.FunFrames b1 l->(∀ b∈frs l,b2.get? b=none)->h.FunFrames b2 l
 | [],_,_=>trivial
 |env :: r,⟨h1,⟨L,o,h2,h3,h4,h5⟩,h6⟩,k=>⟨h1,⟨L,o,h2,k L (by unfold frs;rw[List.filterMap_cons,h2];exact List.mem_cons_self),h4,h5⟩,ZdX h6 fun b hb=>k b (by
   unfold frs;rw[List.filterMap_cons,h2];exact List.mem_cons_of_mem _ hb)⟩
section
variable {X:Cx}{pins:Pn}{σ:L2.St}{H H':Hp}{s:Shared}{h1 h2 B:Heap}
theorem Zj9 (hx:X.ex=[])(I:Inv X pins σ H s)(u:Un (frs X.stack) [] H H' s.heap h1)(hok:HOk X.prog X.w H' h1)(t1: ∀ b q,H' b=some q-> ∃ o,B.get? b=some o)(t2: ∀ b o,s.heap.get? b=some o->b ∉ frs X.stack-> ∃ o',B.get? b=some o')
  (st1:B.StaysIn h1) (st2:B.StaysIn h2) (up:h1.UpToSlots h2):Un X.fs [] X.H₀ H' X.s₀.heap h2/\HOk X.prog X.w H' h2/\ ∀ b o,X.s₀.heap.get? b=some o->b ∉ X.fs-> ∃ o',B.get? b=some o':=by
 have kB: ∀ b ob o,B.get? b=some ob->h1.get? b=some o->h2.get? b=some o:=fun b ob o e x=>by
  have z:=st1 b ob e
  rw[x] at z;cases z
  exact st2 b _ e
 have nx: ∀ b,b ∉ X.ex:=fun b=>by rw[hx];simp
 have nL: ∀ b o,X.s₀.heap.get? b=some o->b ∉ X.fs->b ∉ frs X.stack:=fun b o e n z=>by
  rcases List.mem_cons.mp (I.stkSub b z) with q | q
  ·exact absurd (Hz e) (by rw[q];exact Nat.not_lt_of_le I.ok.above)
  ·exact n q
 have th: ∀ b o,X.s₀.heap.get? b=some o->b ∉ X.fs-> ∃ o',B.get? b=some o':=fun b o e n=>by
  obtain ⟨o',e'⟩:=I.base.there b o e (nx b)
  exact t2 b o' e' (nL b o e n)
 have sl: ∀ b o,X.s₀.heap.get? b=some o->X.H₀ b=none->b∈X.fs-> ∃ sl,h2.get? b=some { o with slots:=sl }:=fun b o e n hb=>by
  obtain ⟨s1,e1⟩:=I.base.slot b o e n hb (nx b)
  obtain ⟨s2,e2⟩:=u.any e1 (I.base.free b o e n (nx b)) (by simp)
  obtain ⟨_,o',g1,g2⟩:=I.ok.funs.mem hb
  rw[e] at g1;cases g1
  obtain ⟨s3,e3⟩:=up b _ e2 g2
  exact ⟨s3,e3⟩
 refine ⟨⟨fun b o e n hb _=> ?_,fun b o e n hb _=>sl b o e n hb,fun b o e n _=> ?_,fun b o e _=> ?_,fun b xs e=>u.tups b xs (I.base.tups b xs e),fun b o xs e=>u.frzs b o xs (I.base.frzs b o xs e),fun b ps e=> ?_⟩,fun a o e=> ?_,th⟩
 ·obtain ⟨ob,g⟩:=th b o e hb
  exact kB b ob o g (u.keep b o (I.base.keep b o e n hb (nx b)) (I.base.free b o e n (nx b)) (nL b o e hb) (by simp))
 ·obtain ⟨o',e'⟩:=I.base.there b o e (nx b)
  exact u.free b o' e' (I.base.free b o e n (nx b)) (by simp)
 ·by_cases hb:b∈X.fs
  ·obtain ⟨s1,e1⟩:=sl b o e (I.ok.frf b hb) hb
   exact ⟨_,e1⟩
  ·obtain ⟨ob,g⟩:=th b o e hb
   exact ⟨ob,st2 b ob g⟩
 ·obtain ⟨m1,e1⟩:=I.base.tbls b ps e
  obtain ⟨m2,e2⟩:=u.tbls b _ e1
  exact ⟨m1 ++ m2,by rw[e2,Array.append_assoc]⟩
 ·refine (hok a o e).stay (fun b q hb x=> ?_) (fun _ q=>q) fun _ _ q=>q
  have tr: ∃ q,H' b=some q:=by
   rcases hb with z | z
   ·exact ⟨o,z ▸ e⟩
   ·exact ⟨_,z⟩
  obtain ⟨q',z⟩:=tr
  obtain ⟨ob,g⟩:=t1 b q' z
  exact kB b ob q g x
end
theorem Zff {P:Program}{w:World}{H:Hp}{h:Heap}{a:Addr}{o:HO}(x:Zay P w H h a o): ∃ ob,h.get? a=some ob:=by
 cases o with
 |lst xs=>obtain ⟨_,_,_,_,e⟩:=x;exact ⟨_,e⟩
 |tup xs=>obtain ⟨_,_,_,ob,e,_⟩:=x;exact ⟨_,e⟩
 |dK kvs=>obtain ⟨_,_,_,_,o,_,_,e,_⟩:=x;exact ⟨_,e⟩
 |dT kvs=>obtain ⟨_,_,_,_,o,_,_,e,_⟩:=x;exact ⟨_,e⟩
 |set S n=>obtain ⟨o,_,_,_,e,_⟩:=x;exact ⟨_,e⟩
 |ins C dx fs=>obtain ⟨_,_,_,e,_⟩:=x;exact ⟨_,e⟩
 |own y=>exact x
 |xd fs=>obtain ⟨_,⟨_,_,_,e,_⟩,_⟩:=x;exact ⟨_,e⟩
 |rng lo hi=>obtain ⟨_,_,_,e⟩:=x;exact ⟨_,e⟩
 |frz ob u=>obtain ⟨e,_⟩:=x;exact ⟨_,e⟩
 |tbl ps=>exact ⟨_,(show h.get? a=some _ from x)⟩
 |met f y=>exact ⟨_,(show h.get? a=some _ from x)⟩
 |ext φ=>obtain ⟨_,e,_⟩:=x;exact e
def Zi7 (h:Heap)(l:List Addr):Heap:=ZiD h fun b=>if b∈l then some (.own 0) else none
theorem Zfg {h:Heap}{l:List Addr}{b:Addr}{o:Obj}(e:h.get? b=some o)(n:b ∉ l):(Zi7 h l).get? b=some o:=Ze4 e (if_neg n)
theorem Zg5 {h:Heap}{l:List Addr}{b:Addr}{o:Obj}(e:(Zi7 h l).get? b=some o):h.get? b=some o/\b ∉ l:=by
 obtain ⟨a,n⟩:=Zgv e
 refine ⟨a,fun z=> ?_⟩
 simp only[if_pos z] at n;cases n
theorem ZdY {h:Heap}{l:List Addr}{b:Addr}(n:b∈l):(Zi7 h l).get? b=none:=by
 cases q:(Zi7 h l).get? b with
 |none=>rfl
 |some o=>exact absurd n (Zg5 q).2
theorem ZdZ {h h' b1:Heap}: ∀ {l:List Env},h.FunFrames b1 l->(∀ b o,b∈frs l->h.get? b=some o-> ∃ o',h'.get? b=some o'/\o'.data=o.data)->h'.FunFrames b1 l
 | [],_,_=>trivial
 |env :: r,⟨h1,⟨L,o,h2,h3,h4,h5⟩,h6⟩,k=>by
  have m:frs (env :: r)=L :: frs r:=by unfold frs;rw[List.filterMap_cons,h2]
  obtain ⟨o',g1,g2⟩:=k L o (by rw[m];exact List.mem_cons_self) h4
  exact ⟨h1,⟨L,o',h2,h3,g1,fun vs=>g2 ▸ h5 vs⟩,ZdZ h6 fun b o hb=>k b o (by rw[m];exact List.mem_cons_of_mem _ hb)⟩
theorem Zg6 {X:Cx}{pins:Pn}{σ:L2.St}{H H':Hp}{s s':Shared}{e:Addr}{oe:Obj}(I:Inv X pins σ H s)(un:Un (frs X.stack) [] H H' s.heap s'.heap)(hok:HOk X.prog X.w H' s'.heap)(hn:s.heap.get? e=none)(he:s'.heap.get? e=some oe)(hne:H' e=none):
  (∀ b u,H' b=some u-> ∃ o,(Zi7 s'.heap (e :: frs X.stack)).get? b=some o)/\(∀ b o,s.heap.get? b=some o->b ∉ frs X.stack-> ∃ o',(Zi7 s'.heap (e :: frs X.stack)).get? b=some o')/\
  (Zi7 s'.heap (e :: frs X.stack)).StaysIn s'.heap/\s'.heap.FunFrames (Zi7 s'.heap (e :: frs X.stack)) X.stack/\(Zi7 s'.heap (e :: frs X.stack)).get? e=none:=by
 have nfr: ∀ b∈frs X.stack,H' b=none:=fun b hb=>by
  obtain ⟨_,o',g1,g2⟩:=I.stack.mem hb
  exact un.free b o' g1 (I.stkFree b hb) (by simp)
 refine ⟨fun b u x=> ?_,fun b o x n=> ?_,fun b o x=>(Zg5 x).1,ZdZ (ZdX I.stack fun b hb=>ZdY (List.mem_cons_of_mem _ hb)) fun b o hb x=> ?_,ZdY (by simp)⟩
 ·obtain ⟨o,g⟩:=Zff (hok b u x)
  refine ⟨o,Zfg g fun z=> ?_⟩
  rcases List.mem_cons.mp z with z | z
  ·rw[z,hne] at x;cases x
  ·rw[nfr b z] at x;cases x
 ·obtain ⟨o',g⟩:=un.there b o x (by simp)
  refine ⟨o',Zfg g fun z=> ?_⟩
  rcases List.mem_cons.mp z with z | z
  ·rw[z,hn] at x;cases x
  ·exact n z
 ·obtain ⟨sl,g⟩:=un.any x (I.stkFree b hb) (by simp)
  exact ⟨_,g,rfl⟩
theorem ZnG {P:Program}{w:World}{K:Fg}{mg:Str->Option Value}{base:Heap}{N:List Str}{qual:Str}{scope:Scope}{f:Addr}{cd:Value}{A:Around}{outer:List Env}{s:Shared}{H:Hp}{E:XK}:
  Thr (ZiE (CXE P w) P w K mg base N qual scope f cd A outer s H E) E:=by
 refine ⟨PassesOwn.leaving,fun pins σ H1 s1 e s2 I h=> ?_,fun pins σ H1 H' s1 s' e oe vs C I os bare un hok hn he hc hd v1 v2 hne q=> ?_⟩
 ·obtain ⟨ea,C,dct,B,H2,rfl,os,bare,un,hok,fl,t1,t2,q⟩:=h
  refine DQ.ZgR (outer:=outer) I.ok.frames rfl fl fun h3 f3 up=> ?_
  obtain ⟨a1,a2,a3⟩:=Zj9 rfl I un hok t1 t2 fl.stay f3.stay up
  exact ⟨ea,C,dct,B,H2,rfl,os.trans I.os,bare,a1,a2,f3,t1,a3,q⟩
 ·obtain ⟨t1,t2,hs,hl,hb⟩:=Zg6 I un hok hn he hne
  refine DQ.ZgS (s:=s') (outer:=outer) I.ok.frames rfl hl he hs hb hd v1 v2 fun h3 f3 up=> ?_
  obtain ⟨a1,a2,a3⟩:=Zj9 rfl I un hok t1 t2 hs f3.stay up
  rw[hc] at f3;exact ⟨e,C,oe.dict,_,H',rfl,os.trans I.os,bare,a1,a2,f3,t1,a3,q⟩
end DL
end
section
namespace DL
open PyProof.Rows L2
def FP (K:Fg)(H:Hp)(α:List Addr)(ξ:XK)(Dn:Ends):Fl->Prop
 | .nx ρ' M'=> ∀ σ' H' α',Ext K H H' α α'->HR K H' α' M'->SR K H' α' σ' ρ'->Dn.nx σ' H'
 | .brk ρ' M'=> ∀ σ' H' α',Ext K H H' α α'->HR K H' α' M'->SR K H' α' σ' ρ'->Dn.bk σ' H'
 | .cnt ρ' M'=> ∀ σ' H' α',Ext K H H' α α'->HR K H' α' M'->SR K H' α' σ' ρ'->Dn.ct σ' H'
 | .ret d M'=> ∀ v H' α',Ext K H H' α α'->HR K H' α' M'->Rep K H' α' v d->Dn.rt v H'
 | .exc c M'=> ∀ C H' α',PySem.W.nsIn K mainGlobals c=some (some (.ref C))->Ext K H H' α α'-> ∀ dct,XO K H' α' c M' dct->ξ (.ref C) dct H'
 | .bad=>False
theorem FP.ext {K:Fg}{H H1:Hp}{α α1:List Addr}{ξ:XK}{Dn:Ends}{o:Fl}(h:FP K H α ξ Dn o)(e:Ext K H H1 α α1):FP K H1 α1 ξ Dn o:=by
 cases o with
 |nx ρ M=>exact fun σ' H' α' e'=>h σ' H' α' (e.trans e')
 |brk ρ M=>exact fun σ' H' α' e'=>h σ' H' α' (e.trans e')
 |cnt ρ M=>exact fun σ' H' α' e'=>h σ' H' α' (e.trans e')
 |ret d M=>exact fun v H' α' e'=>h v H' α' (e.trans e')
 |exc c M=>exact fun C H' α' n e'=>h C H' α' n (e.trans e')
 |bad=>exact h
def DS (X:Cx)(ξ:XK)(st:Stmt)(g:Sv):Prop:= ∃ t:TS,PS X st t/\ ∀ σ ρ H α M Dn,SR X.K H α σ ρ->HR X.K H α M->FP X.K H α ξ Dn (g ρ M)->t Dn σ H
def DSs (X:Cx)(ξ:XK)(st:List Stmt)(g:Sv):Prop:= ∃ t:TS,PSs X st t/\ ∀ σ ρ H α M Dn,SR X.K H α σ ρ->HR X.K H α M->FP X.K H α ξ Dn (g ρ M)->t Dn σ H
noncomputable def Zaq {β:Type}(o:Out β)(k:β->Sto->Fl):Fl:=match o with
 | .ok a M=>k a M
 | .exc c M=> .exc c M
 | .bad=> .bad
theorem FP.seq {β γ:Type}{K:Fg}{R:Hp->List Addr->γ->β->Prop}{H:Hp}{α:List Addr}{ξ:XK}{Dn:Ends}{Q1:γ->Hp->Prop}{o:Out β}{f:β->Sto->Fl}
  (h:FP K H α ξ Dn (Zaq o f)) (k: ∀ d M' v H' α',Ext K H H' α α'->HR K H' α' M'->R H' α' v d->FP K H' α' ξ Dn (f d M')->Q1 v H'):OG K R H α ξ Q1 o:=by
 cases o with
 |ok d M'=>exact fun v H' α' e hr r=>k d M' v H' α' e hr r (FP.ext (o:=f d M') h e)
 |exc c M'=>exact h
 |bad=>exact h
noncomputable def ZE (g h:Sv):Sv:=fun ρ M=>match g ρ M with
 | .nx ρ1 M1=>h ρ1 M1
 |o=>o
noncomputable def sNil:Sv:=fun ρ M=> .nx ρ M
def Z5 (f:Ev):Sv:=fun ρ M=>Zaq (f ρ M) fun d M1=> .ret d M1
noncomputable def ZqJ:Sv:=fun _ M=> .ret .non M
def ZcX (f:Ev):Sv:=fun ρ M=>Zaq (f ρ M) fun _ M1=> .nx ρ M1
def sIf (c:Tv)(g h:Sv):Sv:=fun ρ M=>Zaq (c ρ M) fun k M1=>if k=true then g ρ M1 else h ρ M1
noncomputable def Zt5:Sv:=fun ρ M=> .brk ρ M
noncomputable def Zt6:Sv:=fun ρ M=> .cnt ρ M
abbrev Tg:=D->Ro->Option Ro
abbrev Tgs:=List D->Ro->Option Ro
noncomputable def gNm (i:Nat):Tg:=fun d ρ=>some (ρ.set i (some d))
noncomputable def gNl:Tgs:=fun ds ρ=>match ds with | []=>some ρ | _=>none
noncomputable def gCs (g:Tg)(gs:Tgs):Tgs:=fun ds ρ=>match ds with | d :: r=>(match g d ρ with | some ρ1=>gs r ρ1 | none=>none) | []=>none
noncomputable def gTp (gs:Tgs):Tg:=fun d ρ=>match d with | .tup ds=>gs ds ρ | _=>none
def ZJ (g:Tg)(f:Ev):Sv:=fun ρ M=>Zaq (f ρ M) fun d M1=>match g d ρ with | some ρ1=> .nx ρ1 M1 | none=> .bad
def Zfh (i j:Nat)(fs:Av):Sv:=fun ρ M=>Zaq (fs ρ M) fun ds M1=>match ds with | [v,w]=> .nx ((ρ.set i (some v)).set j (some w)) M1 | _=> .bad
def ZmF (fo fi fe:Ev):Sv:=fun ρ M=>Zaq (fe ρ M) fun d M1=>Zaq (fo ρ M1) fun o M2=>Zaq (fi ρ M2) fun i M3=>match o,i with
 | .ref n,.int k=>(match M3[n]? with
  |some (.lst xs)=>(match ixN xs.length k with | some j=> .nx ρ (M3.set n (.lst (xs.set j d))) | none=> .bad)
  |_=> .bad)
 |_,_=> .bad
section
variable {X:Cx}{ξ:XK}{st:Stmt}{sts:List Stmt}{g h:Sv}{e:Expr}{f:Ev}{pos:Pos}{c:Expr}{fc:Tv}
theorem ZH:DSs X ξ [] sNil:=⟨_,ZkR,fun σ ρ H α M Dn s h q=>q σ H α Ext.refl h s⟩
theorem Zf (h1:DS X ξ st g)(h2:DSs X ξ sts h):DSs X ξ (st :: sts) (ZE g h):=by
 obtain ⟨t1,p1,q1⟩:=h1
 obtain ⟨t2,p2,q2⟩:=h2
 refine ⟨_,ZiJ p1 p2,fun σ ρ H α M Dn s hh q=>q1 σ ρ H α M { Dn with nx:=t2 Dn } s hh ?_⟩
 unfold ZE at q;cases e:g ρ M with
 |nx ρ1 M1=>rw[e] at q;exact fun σ' H' α' ex hr sr=>q2 σ' ρ1 H' α' M1 Dn sr hr (FP.ext q ex)
 |brk ρ1 M1=>rw[e] at q;exact q
 |cnt ρ1 M1=>rw[e] at q;exact q
 |ret d M1=>rw[e] at q;exact q
 |exc c M1=>rw[e] at q;exact q
 |bad=>rw[e] at q;exact q
theorem Zi (h1:DS X ξ st g):DSs X ξ [st] g:=let ⟨_,p,q⟩:=h1;⟨_,ZkS p,q⟩
theorem ZA (he:DE X ξ e f):DS X ξ (.Return (some e) pos) (Z5 f):=by
 obtain ⟨t,p,q⟩:=he
 exact ⟨_,ZmX p,fun σ ρ H α M Dn s hh w=>q σ ρ H α M _ s hh (FP.seq w fun d M1 v H1 α1 e1 h1 r1 w1=>w1 v H1 α1 Ext.refl h1 r1)⟩
theorem Zcs (he:DE X ξ e f)(hs:swapsWith e none pos.line X.env=pure false:=by rfl):DS X ξ (.Expr e pos) (ZcX f):=by
 obtain ⟨t,p,q⟩:=he
 exact ⟨_,ZkT p hs,fun σ ρ H α M Dn s hh w=>q σ ρ H α M _ s hh (FP.seq w fun d M1 v H1 α1 e1 h1 r1 w1=>w1 σ H1 α1 Ext.refl h1 (s.mono e1))⟩
theorem Z6 {a b:List Stmt}(hc:DT X ξ c fc)(ha:DSs X ξ a g)(hb:DSs X ξ b h):DS X ξ (.If c a b pos) (sIf fc g h):=by
 obtain ⟨tc,pc,qc⟩:=hc
 obtain ⟨ta,pa,qa⟩:=ha
 obtain ⟨tb,pb,qb⟩:=hb
 refine ⟨_,Zqm pc pa pb,fun σ ρ H α M Dn s hh w=>qc σ ρ H α M _ s hh (FP.seq w fun k M1 v H1 α1 e1 h1 r1 w1=> ?_)⟩
 cases r1
 cases k with
 |true=>exact Zlc (qa σ ρ H1 α1 M1 Dn (s.mono e1) h1 w1)
 |false=>exact Zlb (qb σ ρ H1 α1 M1 Dn (s.mono e1) h1 w1)
def DG (X:Cx)(tg:Expr)(g:Tg):Prop:= ∃ t:TG,PG X tg t/\ ∀ v d σ ρ H α ρ' Q,SR X.K H α σ ρ->Rep X.K H α v d->g d ρ=some ρ'->(∀ σ',SR X.K H α σ' ρ'->Q σ' H)->t v σ H Q
def DGs (X:Cx)(tgs:List Expr)(g:Tgs):Prop:= ∃ t:TGs,PGs X tgs t/\ ∀ vs ds σ ρ H α ρ' Q,SR X.K H α σ ρ->Reps X.K H α vs ds->g ds ρ=some ρ'->(∀ σ',SR X.K H α σ' ρ'->Q σ' H)->t vs σ H Q
theorem Zl (i:Nat){x:Str}(hN:X.N.Nodup)(hi:X.N[i]?=some x:=by rfl)(hx:Loc X.env.scope x:=by first | exact Or.inl rfl | exact Or.inr rfl)(hm:X.may i=true:=by rfl)(hf:X.fn x=true\/X.env.scope.names.lookup x=some .local:=by first | exact .inl rfl | exact .inr rfl | assumption):DG X (.Name x pos) (gNm i):=by
 refine ⟨_,ZkU hN hi hx hm hf,fun v d σ ρ H α ρ' Q s r e k=> ?_⟩
 cases e
 exact k _ (s.set i r)
theorem ZC:DGs X [] gNl:=by
 refine ⟨_,ZkV,fun vs ds σ ρ H α ρ' Q s r e k=> ?_⟩
 cases r with
 |nil=>cases e;exact ⟨rfl,k _ s⟩
 |cons _ _=>cases e
theorem Zj {es:List Expr}{g:Tg}{gs:Tgs}(h1:DG X e g)(h2:DGs X es gs)(hs:(assignEach (e :: es) X.env).map (·.2)=assign e X.env :: (assignEach es X.env).map (·.2):=by rfl):DGs X (e :: es) (gCs g gs):=by
 obtain ⟨t1,p1,q1⟩:=h1
 obtain ⟨t2,p2,q2⟩:=h2
 refine ⟨_,ZiK p1 p2 hs,fun vs ds σ ρ H α ρ' Q s r e k=> ?_⟩
 cases r with
 |nil=>cases e
 |cons r rr=>
  rename_i v d vs ds;cases e1:g d ρ with
  |none=>simp only[gCs,e1] at e;cases e
  |some ρ1=>
   simp only[gCs,e1] at e;exact ⟨v,vs,rfl,q1 v d σ ρ H α ρ1 _ s r e1 fun σ' s'=>q2 vs ds σ' ρ1 H α ρ' Q s' rr e k⟩
theorem ZI {es:List Expr}{k:Nat}{gs:Tgs}{n:Nat}(hc:X.calm=true)(h:DGs X es gs)(hn:(assignEach es X.env).length=n:=by rfl)(hlen: ∀ ds ρ ρ',gs ds ρ=some ρ'->ds.length=n)(hst:(assignEach es X.env).findIdx? (·.1)=none:=by rfl):DG X (.Tuple es k pos) (gTp gs):=by
 obtain ⟨t,p,q⟩:=h
 refine ⟨_,ZmZ hc p hn hst,fun v d σ ρ H α ρ' Q s r e k=> ?_⟩
 cases r with
 | @tup a xs ds hp rp=>
  have e':gs ds ρ=some ρ':=e
  exact ⟨a,xs,rfl,(SqT.of hp),by rw[rp.length];exact hlen ds ρ ρ' e',q xs ds σ ρ H α ρ' Q s rp e' k⟩
 |_=>cases e
theorem ZD {ds:List D}{ρ ρ':Ro}(h:gNl ds ρ=some ρ'):ds.length=0:=by cases ds with | nil=>rfl | cons _ _=>cases h
theorem Zm {g:Tg}{gs:Tgs}{n:Nat}(h: ∀ ds ρ ρ',gs ds ρ=some ρ'->ds.length=n)(ds:List D)(ρ ρ':Ro)(e:gCs g gs ds ρ=some ρ'):ds.length=n + 1:=by
 cases ds with
 |nil=>cases e
 |cons d r=>
  cases e1:g d ρ with
  |none=>simp only[gCs,e1] at e;cases e
  |some ρ1=>simp only[gCs,e1] at e;rw[List.length_cons,h r ρ1 ρ' e]
theorem Zq (i:Nat){x:Str}{pos':Pos}(hN:X.N.Nodup)(he:DE X ξ e f)(hi:X.N[i]?=some x:=by rfl)(hx:Loc X.env.scope x:=by first | exact Or.inl rfl | exact Or.inr rfl)(hm:X.may i=true:=by rfl)(hs:swapsWith e (some (.Name x pos')) pos.line X.env=pure false:=by rfl)(hf:X.fn x=true\/X.env.scope.names.lookup x=some .local:=by first | exact .inl rfl | exact .inr rfl | assumption):
  DS X ξ (.Assign [.Name x pos'] e pos) (ZJ (gNm i) f):=by
 obtain ⟨t,p,q⟩:=he
 exact ⟨_,Zm1 hN hi hx hm p hs hf,fun σ ρ H α M Dn s hh w=>q σ ρ H α M _ s hh (FP.seq w fun d M1 v H1 α1 e1 h1 r1 w1=>w1 _ H1 α1 Ext.refl h1 ((s.mono e1).set i r1))⟩
theorem ZaY {tg:Expr}{gt:Tg}(he:DE X ξ e f)(hg:DG X tg gt)(hs:swapsWithSole [tg] e pos.line X.env=pure false:=by rfl)(hw:swappedStores [tg] e X.env=pure none:=by rfl)
  (h1:(assignEach [tg] X.env).map (·.2)=[assign tg X.env]:=by rfl):DS X ξ (.Assign [tg] e pos) (ZJ gt f):=by
 obtain ⟨t,p,q⟩:=he
 obtain ⟨tt,pt,qt⟩:=hg
 refine ⟨_,ZjY p pt hs hw h1,fun σ ρ H α M Dn s hh w=>q σ ρ H α M _ s hh (FP.seq w fun d M1 v H1 α1 e1 h1 r1 w1=> ?_)⟩
 cases eg:gt d ρ with
 |none=>simp only[eg] at w1;exact w1.elim
 |some ρ1=>
  simp only[eg] at w1;exact qt v d σ ρ H1 α1 ρ1 _ (s.mono e1) r1 eg fun σ' s'=>w1 σ' H1 α1 Ext.refl h1 s'
theorem Zbh (i j:Nat){x y:Str}{a b:Expr}{fs:Av}{px py pt:Pos}{kt k2 pt2}(hc:X.calm=true)(hN:X.N.Nodup)(ha:DA X ξ [a,b] fs)(hi:X.N[i]?=some x:=by rfl)(hj:X.N[j]?=some y:=by rfl)(mi:X.may i=true:=by rfl)(mj:X.may j=true:=by rfl)(hij:i≠j:=by decide)
  (hx:X.env.scope.names.lookup x=some .local:=by rfl) (hy:X.env.scope.names.lookup y=some .local:=by rfl)
  (hw:swappedStores [.Tuple [.Name x px,.Name y py] kt pt] (.Tuple [a,b] k2 pt2) X.env=pure (some [x,y]):=by rfl)
  (hs:swapsWithSole [.Tuple [.Name x px,.Name y py] kt pt] (.Tuple [a,b] k2 pt2) pos.line X.env=pure false:=by rfl):
  DS X ξ (.Assign [.Tuple [.Name x px,.Name y py] kt pt] (.Tuple [a,b] k2 pt2) pos) (Zfh i j fs):=by
 obtain ⟨t,p,q⟩:=ha
 refine ⟨_,Zm2 hc mi mj hN hi hj hij hx hy p hw hs,fun σ ρ H α M Dn s hh w=>q σ ρ H α M _ s hh (FP.seq w fun ds M1 vs H1 α1 e1 h1 r1 w1=> ?_)⟩
 match r1 with
 | .nil=>exact w1.elim
 | .cons _ .nil=>exact w1.elim
 | .cons _ (.cons _ (.cons _ _))=>exact w1.elim
 | .cons r (.cons r' .nil)=>exact ⟨_,_,rfl,w1 _ H1 α1 Ext.refl h1 (((s.mono e1).set i r).set j r')⟩
theorem Zka {o i:Expr}{fo fi:Ev}{pos':Pos}(ho:DE X ξ o fo)(hi:DE X ξ i fi)(he:DE X ξ e f)
  (ha: ∀ v,assign (.Subscript o i pos') X.env v=(do
   let ov <- holding [v] (eval o X.env)
   let iv <- holding [v,ov] (eval i X.env)
   standAt pos'
   holding [v,ov,iv] (setItem ov iv v)
   release [v,ov,iv] []):=by intro _;rfl) (hs:swapsWithSole [.Subscript o i pos'] e pos.line X.env=pure false:=by rfl) (hw:swappedStores [.Subscript o i pos'] e X.env=pure none:=by rfl)
  (h1:(assignEach [.Subscript o i pos'] X.env).map (·.2)=[assign (.Subscript o i pos') X.env]:=by rfl):DS X ξ (.Assign [.Subscript o i pos'] e pos) (ZmF fo fi f):=by
 obtain ⟨t,p,q⟩:=he
 obtain ⟨to,po,qo⟩:=ho
 obtain ⟨ti,pi,qi⟩:=hi
 refine ⟨_,ZjY p (Zm0 po pi ZiS ha) hs hw h1,fun σ ρ H α M Dn s hh w=>q σ ρ H α M _ s hh (FP.seq w fun d M1 v H1 α1 e1 h1 r1 w1=> ?_)⟩
 refine qo σ ρ H1 α1 M1 _ (s.mono e1) h1 (FP.seq w1 fun od M2 ov H2 α2 e2 h2 r2 w2=> ?_)
 refine qi σ ρ H2 α2 M2 _ ((s.mono e1).mono e2) h2 (FP.seq w2 fun kd M3 kv H3 α3 e3 h3 r3 w3=> ?_)
 cases Rep.mono e3 r2 with
 | @ref p n hp=>
  cases r3 with
  |int k=>
   cases em:M3[n]? with
   |none=>simp only[em] at w3;exact w3.elim
   |some so=>
    cases so with
    |lst ds=>
     cases ej:ixN ds.length k with
     |none=>simp only[em,ej] at w3;exact w3.elim
     |some j=>
      simp only[em,ej] at w3;obtain ⟨xs,g1,g2⟩:=h3.at hp em
      refine ⟨p,xs,k,j,rfl,rfl,g1,by rw[g2.length];exact ej,?_⟩
      exact w3 σ _ α3 (Ext.wr g1) (h3.wr hp g1 (Reps.set (Rep.mono e3 (Rep.mono e2 r1)) j g2)) ((((s.mono e1).mono e2).mono e3).mono (Ext.wr g1))
  |_=>exact w3.elim
 |_=>exact w3.elim
noncomputable def whN (c:Tv)(g:Sv):Nat->Ro->Sto->Option Fl
 |0,_,_=>none
 |n + 1,ρ,M=>match c ρ M with
  | .ok true M1=>(match g ρ M1 with
   | .nx ρ2 M2=>whN c g n ρ2 M2
   | .cnt ρ2 M2=>whN c g n ρ2 M2
   | .brk ρ2 M2=>some (.nx ρ2 M2)
   |o=>some o)
  | .ok false M1=>some (.nx ρ M1)
  | .exc e M1=>some (.exc e M1)
  | .bad=>some .bad
theorem Zcf {c:Tv}{g:Sv}: ∀ {n:Nat} {ρ:Ro} {M:Sto} {o:Fl},whN c g n ρ M=some o-> ∀ k,whN c g (n + k) ρ M=some o
 |0,_,_,_,e,_=>by simp only[whN] at e;cases e
 |n + 1,ρ,M,o,e,k=>by
  have ek:n + 1 + k=(n + k) + 1:=by lia
  rw[ek];unfold whN at e ⊢;cases ec:c ρ M with
  |bad=>rw[ec] at e;exact e
  |exc x M1=>rw[ec] at e;exact e
  |ok b M1=>
   rw[ec] at e;cases b with
   |false=>exact e
   |true=>
    cases eg:g ρ M1 with
    |nx ρ2 M2=>simp only[eg] at e ⊢;exact Zcf e k
    |cnt ρ2 M2=>simp only[eg] at e ⊢;exact Zcf e k
    |brk ρ2 M2=>simp only[eg] at e ⊢;exact e
    |ret d M2=>simp only[eg] at e ⊢;exact e
    |exc x M2=>simp only[eg] at e ⊢;exact e
    |bad=>simp only[eg] at e ⊢;exact e
open Classical in
def sWh (c:Tv)(g:Sv):Sv:=fun ρ M=>if h: ∃ o n,whN c g n ρ M=some o then Classical.choose h else .bad
theorem Zb2 {c:Tv}{g:Sv}{n:Nat}{ρ:Ro}{M:Sto}{o:Fl}(e:whN c g n ρ M=some o):sWh c g ρ M=o:=by
 have hx: ∃ o n,whN c g n ρ M=some o:=⟨o,n,e⟩
 unfold sWh;rw[dif_pos hx];obtain ⟨m,em⟩:=Classical.choose_spec hx
 have h1:=Zcf em n
 have h2:=Zcf e m
 rw[Nat.add_comm] at h2;rw[h1] at h2;exact Option.some.inj h2
theorem Zg7 {c:Tv}{g:Sv}{ρ:Ro}{M:Sto}(e:sWh c g ρ M≠ .bad): ∃ n,whN c g n ρ M=some (sWh c g ρ M):=by
 by_cases hx: ∃ o n,whN c g n ρ M=some o
 ·obtain ⟨o,n,h⟩:=hx
  exact ⟨n,by rw[Zb2 h];exact h⟩
 ·unfold sWh at e
  rw[dif_neg hx] at e;exact absurd rfl e
theorem Zg8 {c:Tv}{g:Sv}{ρ:Ro}{M M1:Sto}(h:c ρ M= .ok false M1):sWh c g ρ M= .nx ρ M1:=Zb2 (n:=1) (by simp only[whN,h])
theorem Zi8 {c:Tv}{g:Sv}{ρ ρ2:Ro}{M M1 M2:Sto}(h:c ρ M= .ok true M1)(h2:g ρ M1= .nx ρ2 M2)(hb:sWh c g ρ2 M2≠ .bad):sWh c g ρ M=sWh c g ρ2 M2:=by
 obtain ⟨n,e⟩:=Zg7 hb
 exact Zb2 (n:=n + 1) (by simp only[whN,h,h2];exact e)
theorem Zdh {body:List Stmt}(hp:PassesOwn (model X.prog X.w) X.A X.env X.xe)(hc:DT X ξ c fc)(hb:DSs X ξ body g):DS X ξ (.While c body [] pos) (sWh fc g):=by
 obtain ⟨tc,pc,qc⟩:=hc
 obtain ⟨tb,pb,qb⟩:=hb
 refine ⟨_,ZiL hp pc pb,fun σ ρ H α M Dn s hh w=> ?_⟩
 have nb:sWh fc g ρ M≠ .bad:=fun z=>by rw[z] at w;exact w
 obtain ⟨n,en⟩:=Zg7 nb
 generalize sWh fc g ρ M=o at w en;refine ⟨fun m σ' H'=> ∃ ρ' α' M',Ext X.K H H' α α'/\SR X.K H' α' σ' ρ'/\HR X.K H' α' M'/\whN fc g m ρ' M'=some o,⟨n,ρ,α,M,Ext.refl,s,hh,en⟩,?_⟩
 rintro m σ1 H1 ⟨ρ1,α1,M1,e1,s1,h1,en1⟩
 cases m with
 |zero=>simp only[whN] at en1;cases en1
 |succ m=>
  refine qc σ1 ρ1 H1 α1 M1 _ s1 h1 ?_
  unfold whN at en1;cases ec:fc ρ1 M1 with
  |bad=>rw[ec] at en1;cases en1;exact w.elim
  |exc x M2=>
   rw[ec] at en1;cases en1;exact fun C H' α' nn ex hr=>w C H' α' nn (e1.trans ex) hr
  |ok b M2=>
   rw[ec] at en1;intro v H2 α2 e2 h2 ev;cases ev
   cases b with
   |false=>
    cases en1
    exact Zlb (w σ1 H2 α2 (e1.trans e2) h2 (s1.mono e2))
   |true=>
    refine Zlc ⟨fun σ' H'=> ∃ ρ' α' M',Ext X.K H H' α α'/\SR X.K H' α' σ' ρ'/\HR X.K H' α' M'/\whN fc g m ρ' M'=some o,fun σ' H' z=>⟨m,Nat.lt_succ_self m,z⟩,?_⟩
    refine qb σ1 ρ1 H2 α2 M2 _ (s1.mono e2) h2 ?_
    have e12:=e1.trans e2
    cases eg:g ρ1 M2 with
    |nx ρ2 M3=>simp only[eg] at en1;exact fun σ' H' α' ex hr sr=>⟨ρ2,α',M3,e12.trans ex,sr,hr,en1⟩
    |cnt ρ2 M3=>simp only[eg] at en1;exact fun σ' H' α' ex hr sr=>⟨ρ2,α',M3,e12.trans ex,sr,hr,en1⟩
    |brk ρ2 M3=>simp only[eg] at en1;cases en1;exact fun σ' H' α' ex hr sr=>w σ' H' α' (e12.trans ex) hr sr
    |ret d M3=>simp only[eg] at en1;cases en1;exact fun v H' α' ex hr sr=>w v H' α' (e12.trans ex) hr sr
    |exc x M3=>simp only[eg] at en1;cases en1;exact fun C H' α' nn ex hr=>w C H' α' nn (e12.trans ex) hr
    |bad=>simp only[eg] at en1;cases en1;exact w.elim
noncomputable def Zbe (tg:Tg)(g:Sv):List D->Ro->Sto->Fl
 | [],ρ,M=> .nx ρ M
 |d :: r,ρ,M=>match tg d ρ with
  |none=> .bad
  |some ρ1=>(match g ρ1 M with
   | .nx ρ2 M2=>Zbe tg g r ρ2 M2
   | .cnt ρ2 M2=>Zbe tg g r ρ2 M2
   | .brk ρ2 M2=> .nx ρ2 M2
   |o=>o)
noncomputable def Zgl (tg:Tg)(g:Sv)(n:Nat):Nat->Nat->Ro->Sto->Fl
 |f,i,ρ,M=>match M[n]? with
  |some (.lst xs)=>(match xs[i]? with
   |none=> .nx ρ M
   |some d=>(match f with
    |0=> .bad
    |f + 1=>(match tg d ρ with
     |none=> .bad
     |some ρ1=>(match g ρ1 M with
      | .nx ρ2 M2=>Zgl tg g n f (i + 1) ρ2 M2
      | .cnt ρ2 M2=>Zgl tg g n f (i + 1) ρ2 M2
      | .brk ρ2 M2=> .nx ρ2 M2
      |o=>o))))
  |none=> .bad
def Za0 (lo:Int)(n:Nat):List D:=(List.range n).map fun (i:Nat)=>D.int (lo + i)
def Zkb (tg:Tg)(g:Sv)(d:D)(ρ:Ro)(M:Sto):Fl:=match d with
 | .tup xs=>Zbe tg g xs ρ M
 | .rol xs=>Zbe tg g xs ρ M
 | .ref n=>(match M[n]? with | some (.lst xs)=>Zgl tg g n xs.length 0 ρ M | none=> .bad)
 |_=> .bad
def Zlm (tg:Tg)(f:Ev)(g:Sv):Sv:=fun ρ M=>Zaq (f ρ M) fun d M1=>Zkb tg g d ρ M1
def Zbi (tg:Tg)(fs:Av)(g:Sv):Sv:=fun ρ M=>Zaq (fs ρ M) fun ds M1=>match ds with
 | [.int j]=>if -(2 ^ 62)<=j/\j < 2 ^ 62 then Zbe tg g (Za0 0 j.toNat) ρ M1 else .bad
 |_=> .bad
def Zg9 (tg:Tg)(fs:Av)(g:Sv):Sv:=fun ρ M=>Zaq (fs ρ M) fun ds M1=>match ds with
 | [.int i,.int j]=>if -(2 ^ 62)<=i/\i < 2 ^ 62/\ -(2 ^ 62)<=j/\j < 2 ^ 62 then Zbe tg g (Za0 i (j - i).toNat) ρ M1 else .bad
 |_=> .bad
theorem Zfi {lo:Int}{n i:Nat}(h:i < n):(Za0 lo n)[i]?=some (.int (lo + i)):=by
 unfold Za0;rw[List.getElem?_map,List.getElem?_range h]
 rfl
theorem Zdi {lo:Int}{n:Nat}:(Za0 lo n).length=n:=by unfold Za0;rw[List.length_map,List.length_range]
theorem Zha {lo:Int}{n i:Nat}(h:i < n):(Za0 lo n).drop i= .int (lo + i) :: (Za0 lo n).drop (i + 1):=by
 have hl:i < (Za0 lo n).length:=by rw[Zdi];exact h
 have e:=Zfi (lo:=lo) h
 rw[List.getElem?_eq_getElem hl] at e
 rw[List.drop_eq_getElem_cons hl,Option.some.inj e]
theorem Zi9 {tg:Expr}{gt:Tg}{tt:TG}{tb:TS}{Dn:Ends}{H H1:Hp}{α α1:List Addr}{o:Fl}{k:Ro->Sto->Fl}(w:FP X.K H α ξ Dn o)
  (qt: ∀ v d σ ρ H α ρ' Q,SR X.K H α σ ρ->Rep X.K H α v d->gt d ρ=some ρ'->(∀ σ',SR X.K H α σ' ρ'->Q σ' H)->tt v σ H Q) (qb: ∀ σ ρ H α M Dn,SR X.K H α σ ρ->HR X.K H α M->FP X.K H α ξ Dn (g ρ M)->tb Dn σ H)
  {v:V} {d:D} {σ1:L2.St} {ρ1:Ro} {M1:Sto} (e1:Ext X.K H H1 α α1) (s1:SR X.K H1 α1 σ1 ρ1) (h1:HR X.K H1 α1 M1) (r:Rep X.K H1 α1 v d)
  (en:(match gt d ρ1 with | none=>Fl.bad | some ρ2=>(match g ρ2 M1 with | .nx ρ3 M3=>k ρ3 M3 | .cnt ρ3 M3=>k ρ3 M3 | .brk ρ3 M3=> .nx ρ3 M3 | o=>o))=o)
  {N:L2.St->Hp->Prop} (hN: ∀ σ' H',(∃ ρ' α' M',Ext X.K H H' α α'/\SR X.K H' α' σ' ρ'/\HR X.K H' α' M'/\k ρ' M'=o)->N σ' H'):tt v σ1 H1 fun σ2 H2=>tb { Dn with nx:=N,ct:=N,bk:=Dn.nx } σ2 H2:=by
 cases eg:gt d ρ1 with
 |none=>rw[eg] at en;cases en;exact w.elim
 |some ρ2=>
  simp only[eg] at en;refine qt v d σ1 ρ1 H1 α1 ρ2 _ s1 r eg fun σ2 s2=>qb σ2 ρ2 H1 α1 M1 _ s2 h1 ?_
  cases ex:g ρ2 M1 with
  |nx ρ3 M3=>simp only[ex] at en;exact fun σ' H' α' e2 hr sr=>hN _ _ ⟨ρ3,α',M3,e1.trans e2,sr,hr,en⟩
  |cnt ρ3 M3=>simp only[ex] at en;exact fun σ' H' α' e2 hr sr=>hN _ _ ⟨ρ3,α',M3,e1.trans e2,sr,hr,en⟩
  |brk ρ3 M3=>simp only[ex] at en;cases en;exact fun σ' H' α' e2 hr sr=>w σ' H' α' (e1.trans e2) hr sr
  |ret d M3=>simp only[ex] at en;cases en;exact fun v H' α' e2 hr sr=>w v H' α' (e1.trans e2) hr sr
  |exc x M3=>simp only[ex] at en;cases en;exact fun C H' α' nn e2 hr=>w C H' α' nn (e1.trans e2) hr
  |bad=>simp only[ex] at en;cases en;exact w.elim
theorem ZnH {tg:Expr}{gt:Tg}{tt:TG}{tb:TS}{Dn:Ends}{H:Hp}{α:List Addr}{lo:Int}{n:Nat}{σ:L2.St}{ρ:Ro}{M:Sto}
  (qt: ∀ v d σ ρ H α ρ' Q,SR X.K H α σ ρ->Rep X.K H α v d->gt d ρ=some ρ'->(∀ σ',SR X.K H α σ' ρ'->Q σ' H)->tt v σ H Q) (qb: ∀ σ ρ H α M Dn,SR X.K H α σ ρ->HR X.K H α M->FP X.K H α ξ Dn (g ρ M)->tb Dn σ H)
  (s:SR X.K H α σ ρ) (hh:HR X.K H α M) (w:FP X.K H α ξ Dn (Zbe gt g (Za0 lo n) ρ M)):
  ∃ W:Nat->Nat->L2.St->Hp->Prop,(∃ m,W 0 m σ H)/\ ∀ i m σ H,W i m σ H->
   ((Itr lo n).stop i H/\Dn.nx σ H)\/((Itr lo n).go i H/\ ∃ N:L2.St->Hp->Prop,(∀ σ' H',N σ' H'-> ∃ m',m' < m/\W (i + 1) m' σ' H')/\ ∀ x H',(Itr lo n).yld i H x H'->tt x σ H' fun σ2 H2=>tb { Dn with nx:=N,ct:=N,bk:=Dn.nx } σ2 H2):=by
 generalize ho:Zbe gt g (Za0 lo n) ρ M=o at w;refine ZgB (fun i σ' H'=> ∃ ρ' α' M',Ext X.K H H' α α'/\SR X.K H' α' σ' ρ'/\HR X.K H' α' M'/\Zbe gt g ((Za0 lo n).drop i) ρ' M'=o) ⟨ρ,α,M,Ext.refl,s,hh,ho⟩ ?_ ?_
 ·rintro i σ1 H1 hi ⟨ρ1,α1,M1,e1,s1,h1,en⟩
  rw[Zha hi] at en;exact Zi9 (tg:=tg) w qt qb e1 s1 h1 (.int (lo + i)) en (fun σ' H' z=>z)
 ·rintro σ1 H1 ⟨ρ1,α1,M1,e1,s1,h1,en⟩
  rw[List.drop_eq_nil_of_le (by rw[Zdi];exact Nat.le_refl _)] at en
  cases en
  exact w σ1 H1 α1 e1 h1 s1
theorem Zbb {tg a:Expr}{gt:Tg}{fs:Av}{body:List Stmt}{p p2:Pos}(hp:PassesOwn (model X.prog X.w) X.A X.env X.xe)(hm:X.mg "range"=none)(ha:DA X ξ [a] fs)(hg:DG X tg gt)(hb:DSs X ξ body g)
  (hgl:Gl X "range":=by rfl) (hs:starEach [a] X.env=[(false,eval a X.env)]:=by rfl) (hf: ∀ x,foldedSetIterable (.Call (.Name "range" p) [a] [] p2) X.env x=pure x:=by intro _;rfl):DS X ξ (.For tg (.Call (.Name "range" p) [a] [] p2) body [] pos) (Zbi gt fs g):=by
 obtain ⟨ta,pa,qa⟩:=ha
 obtain ⟨tt,pt,qt⟩:=hg
 obtain ⟨tb,pb,qb⟩:=hb
 refine ⟨_,ZgA hp (ZdI hgl hm pa hs) pt pb hf,fun σ ρ H α M Dn s hh w=>qa σ ρ H α M _ s hh (FP.seq w fun ds M1 vs H1 α1 e1 h1 r1 w1=> ?_)⟩
 match r1 with
 | .nil=>exact w1.elim
 | .cons r (.cons _ _)=>cases r<;>exact w1.elim
 | .cons r .nil=>
  cases r with
  |int j=>
   by_cases c: -(2 ^ 62)<=j/\j < 2 ^ 62
   ·simp only[if_pos c] at w1
    exact ⟨j,rfl,c.1,c.2,ZnH (tg:=tg) qt qb (s.mono e1) h1 w1⟩
   ·simp only[if_neg c] at w1
    exact w1.elim
  |_=>exact w1.elim
def Zt7 (K:Fg)(tl:TE):TI:=fun σ H R=>tl σ H fun x H1=> ∃ a,x= .ref a/\(((∃ xs,SqL K H1 a xs)/\R (Itl K a) H1)\/((∃ xs,SqT K H1 a xs)/\R (Itt K a) H1))
theorem Zkc {tg l:Expr}{tl:TE}(hl:PE X l tl):PI X tg l (Zt7 X.K tl):=by
 intro pins s σ H R I h;refine thn (hl pins s σ H _ I h) fun v s1 ⟨x,H1,I1,r1,q1⟩=> ?_
 obtain ⟨a,e,q⟩:=q1
 subst e;cases r1
 have fp: ∀ b∈[s1.heap.objs.size],ZcY X pins H1 b:=fun b hb=>by
  have e:b=s1.heap.objs.size:=by simpa using hb
  subst e;exact I1.fpOk (Nat.le_refl _) (I1.hok.fresh (Nat.le_refl _))
 rcases q with ⟨⟨xs,hq⟩,q⟩ | ⟨⟨xs,hq⟩,q⟩
 ·obtain ⟨its,rv,p,hz⟩:=I1.list hq
  refine wpAny_pyIter_list p.isList ?_
  exact ⟨s1.heap.objs.size,[s1.heap.objs.size],_,_,H1,rfl,I1.kept (t':=s1.toks) fun b o e=>Hq _ e,Zgy a _,⟨_,Heap.get?_push_size _ rfl,rfl,rfl⟩,fp,q⟩
 ·obtain ⟨its,rv,p,hz⟩:=I1.tuple hq
  refine wpAny_pyIter_tuple (show s1.heap.IsTuple a its.toArray from p) ?_
  exact ⟨s1.heap.objs.size,[s1.heap.objs.size],_,_,H1,rfl,I1.kept (t':=s1.toks) fun b o e=>Hq _ e,ZfM a _,⟨_,Heap.get?_push_size _ rfl,rfl,rfl⟩,fp,q⟩
theorem Zfj {tg l:Expr}{gt:Tg}{f:Ev}{body:List Stmt}(hp:PassesOwn (model X.prog X.w) X.A X.env X.xe)(hl:DE X ξ l f)(hg:DG X tg gt)(hb:DSs X ξ body g)
  (hf: ∀ x,foldedSetIterable l X.env x=pure x:=by intro _;rfl):DS X ξ (.For tg l body [] pos) (Zlm gt f g):=by
 obtain ⟨ta,pa,qa⟩:=hl
 obtain ⟨tt,pt,qt⟩:=hg
 obtain ⟨tb,pb,qb⟩:=hb
 refine ⟨_,ZgA hp (Zkc pa) pt pb hf,fun σ ρ H α M Dn s hh w=>qa σ ρ H α M _ s hh (FP.seq w fun d M1 v H1 α1 e1 h1 r1 w1=> ?_)⟩
 have s1:=s.mono e1
 have pure_: ∀ (ds:List D) (xs:List V),Reps X.K H1 α1 xs ds->FP X.K H1 α1 ξ Dn (Zbe gt g ds ρ M1)-> ∀ (i:Nat) σ' H',(∃ ρ' α' M',Ext X.K H1 H' α1 α'/\SR X.K H' α' σ' ρ'/\HR X.K H' α' M'/\Zbe gt g (ds.drop i) ρ' M'=Zbe gt g ds ρ M1)->
   (∀ x,xs[i]?=some x->tt x σ' H' fun σ2 H2=>tb { Dn with nx:=fun σ H=> ∃ ρ' α' M',Ext X.K H1 H α1 α'/\SR X.K H α' σ ρ'/\HR X.K H α' M'/\Zbe gt g (ds.drop (i + 1)) ρ' M'=Zbe gt g ds ρ M1,ct:=fun σ H=> ∃ ρ' α' M',Ext X.K H1 H α1 α'/\SR X.K H α' σ ρ'/\HR X.K H α' M'/\Zbe gt g (ds.drop (i + 1)) ρ' M'=Zbe gt g ds ρ M1,bk:=Dn.nx } σ2 H2)/\
   (i=xs.length->Dn.nx σ' H'):=by
  intro ds xs r w1 i σ' H' ⟨ρ',α',M',ex,sr,hr,en⟩;refine ⟨fun x hx=> ?_,fun hi=> ?_⟩
  ·have hi:i < ds.length:=by rw[<- r.length];exact (List.getElem?_eq_some_iff.mp hx).1
   obtain ⟨v,g1,g2⟩:=r.get (Gq hi)
   rw[hx] at g1;cases g1
   rw[List.drop_eq_getElem_cons hi] at en;exact Zi9 (tg:=tg) w1 qt qb ex sr hr (Rep.mono ex g2) en (fun σ' H' z=>z)
  ·rw[hi,r.length,List.drop_length] at en
   have en':Fl.nx ρ' M'=Zbe gt g ds ρ M1:=en
   rw[<- en'] at w1;exact w1 σ' H' α' ex hr sr
 cases r1 with
 | @tup p xs ds hp rp=>
  have w2:FP X.K H1 α1 ξ Dn (Zbe gt g ds ρ M1):=w1
  refine ⟨p,rfl,.inr ⟨⟨xs,(SqT.of hp)⟩,ZkW (K:=X.K) (a:=p) (xs:=xs) (fun i σ' H'=> ∃ ρ' α' M',Ext X.K H1 H' α1 α'/\SR X.K H' α' σ' ρ'/\HR X.K H' α' M'/\Zbe gt g (ds.drop i) ρ' M'=Zbe gt g ds ρ M1) ⟨ρ,α1,M1,Ext.refl,s1,h1,rfl⟩ ?_ ?_ ?_⟩⟩
  ·rintro i σ' H' _ ⟨ρ',α',M',ex,_⟩
   exact SqT.of (ex.tup _ _ hp)
  ·intro i x σ' H' hx z
   exact (pure_ ds xs rp w2 i σ' H' z).1 x hx
  ·intro σ' H' z
   exact (pure_ ds xs rp w2 _ σ' H' z).2 rfl
 | @rol p xs ds hp rp=>
  have w2:FP X.K H1 α1 ξ Dn (Zbe gt g ds ρ M1):=w1
  refine ⟨p,rfl,.inl ⟨⟨xs,hp.sq⟩,ZiO (K:=X.K) (a:=p) (xs:=xs) (fun i σ' H'=> ∃ ρ' α' M',Ext X.K H1 H' α1 α'/\SR X.K H' α' σ' ρ'/\HR X.K H' α' M'/\Zbe gt g (ds.drop i) ρ' M'=Zbe gt g ds ρ M1) ⟨ρ,α1,M1,Ext.refl,s1,h1,rfl⟩ ?_ ?_ ?_⟩⟩
  ·rintro i σ' H' _ ⟨ρ',α',M',ex,_⟩
   exact (ex.rol _ _ hp).sq
  ·intro i x σ' H' hx z
   exact (pure_ ds xs rp w2 i σ' H' z).1 x hx
  ·intro σ' H' z
   exact (pure_ ds xs rp w2 _ σ' H' z).2 rfl
 | @ref p n hp=>
  cases em:M1[n]? with
  |none=>simp only[Zkb,em] at w1;exact w1.elim
  |some so=>
   cases so with
   |lst ds=>
    simp only[Zkb,em] at w1;obtain ⟨xs0,g0,r0⟩:=h1.at hp em
    generalize eo:Zgl gt g n ds.length 0 ρ M1=o at w1;refine ⟨p,rfl,.inl ⟨⟨xs0,SqL.of g0⟩,fun i m σ' H'=> ∃ ρ' α' M',Ext X.K H1 H' α1 α'/\SR X.K H' α' σ' ρ'/\HR X.K H' α' M'/\Zgl gt g n m i ρ' M'=o,⟨ds.length,ρ,α1,M1,Ext.refl,s1,h1,eo⟩,?_⟩⟩
    rintro i m σ' H' ⟨ρ',α',M',ex,sr,hr,en⟩
    unfold Zgl at en;cases em2:M'[n]? with
    |none=>simp only[em2] at en;cases en;exact w1.elim
    |some so2=>
     cases so2 with
     |lst ds2=>
      simp only[em2] at en;obtain ⟨xs,g1,g2⟩:=hr.at (ex.get hp) em2
      cases ei:ds2[i]? with
      |none=>
       simp only[ei] at en;cases en
       refine .inl ⟨⟨xs,SqL.of g1,?_⟩,w1 σ' H' α' ex hr sr⟩
       rw[g2.length];exact List.getElem?_eq_none_iff.mp ei
      |some d=>
       simp only[ei] at en;obtain ⟨v,k1,k2⟩:=g2.get ei
       cases m with
       |zero=>cases en;exact w1.elim
       |succ m=>
        refine .inr ⟨⟨xs,v,SqL.of g1,k1⟩,fun σ2 H2=> ∃ ρ' α' M',Ext X.K H1 H2 α1 α'/\SR X.K H2 α' σ2 ρ'/\HR X.K H2 α' M'/\Zgl gt g n m (i + 1) ρ' M'=o,fun σ2 H2 z=>⟨m,Nat.lt_succ_self m,z⟩,fun x H2 y=> ?_⟩
        obtain ⟨ey,y⟩:=y
        subst ey;have ev:=y xs (SqL.of g1)
        rw[k1] at ev;cases ev
        exact Zi9 (tg:=tg) w1 qt qb ex sr hr k2 en (fun σ' H' z=>z)
 |_=>exact w1.elim
end
noncomputable def fnF (g:Sv)(n k:Nat):W3:=fun ds M=>if ds.length=n then (match g (ds.map some ++ List.replicate k none) M with
 | .ret d M'=> .ok d M'
 | .nx _ M'=> .ok .non M'
 | .exc c M'=> .exc c M'
 |_=> .bad) else .bad
def spD (K:Fg)(F:W3):Sp:=fun vs H Q E=> ∃ ds α M,Reps K H α vs ds/\HR K H α M/\OP K H α E Q (F ds M)
theorem Zd0: ∀ {ds:List D} {k i:Nat} {d:D},(ds.map some ++ List.replicate k none)[i]?=some (some d)->ds[i]?=some d
 | [],k,i,d,h=>by
  rw[List.map_nil,List.nil_append] at h
  have:=List.mem_of_getElem? h
  rw[List.mem_replicate] at this;cases this.2
 |x :: r,k,0,d,h=>by simpa using h
 |x :: r,k,i + 1,d,h=>by
  rw[List.map_cons,List.cons_append,List.getElem?_cons_succ] at h
  rw[List.getElem?_cons_succ]
  exact Zd0 h
theorem SR.start {K:Fg}{H:Hp}{α:List Addr}{N:List Str}{vs:List V}{ds:List D}{k:Nat}(r:Reps K H α vs ds)(hk:k=N.length - ds.length):SR K H α (start N vs) (ds.map some ++ List.replicate k none):=by
 unfold L2.start;refine ⟨by simp only[List.length_append,List.length_map,List.length_replicate,r.length,hk],fun i d h=> ?_⟩
 obtain ⟨v,h1,h2⟩:=r.get (Zd0 h)
 refine ⟨v,?_,h2⟩
 have hl:i < vs.length:=(List.getElem?_eq_some_iff.mp h1).1
 rw[List.getElem?_append_left (by rw[List.length_map];exact hl),List.getElem?_map,h1]
 rfl
section
variable {P:Program}{w:World}{K:Fg}{mg:Str->Option Value}{base:Heap}
theorem ZnI {x qual:Str}{st:Stmt}{f:Addr}{fd:FuncData}{N ps:List Str}{k n m:Nat}{g:Sv}(F:Fun K x qual st f fd)(S:FnScope N ps (Zz st))(hn:n=ps.length)(hm:m=N.length - n)
  (hb: ∀ (cdv:Value) (A:Around) (outer:List Env) (s:Shared) (H:Hp) (E:XK),Room k (A.deeper (envOfC qual (Zz st) s.heap.objs.size f cdv))->Thr (ZiE (CXE P w) P w K mg base N qual (Zz st) f cdv A outer s H E) E->DSs (ZiE (CXE P w) P w K mg base N qual (Zz st) f cdv A outer s H E) E (ZaN st) g):
  FnOk P w K mg base (CXE P w) (k + 1) f fd ps (spD K (fnF g n m)):=by
 obtain ⟨oc,od,kV,doc,pm,an,cdv,ct,osl,rfl,lk,hcd⟩:=F.ex
 refine Zqv lk hcd S (fun vs H Q E h=> ?_) (fun A outer s H vs Q E hr h=> ?_)
 ·obtain ⟨ds,α,M,r,_,q⟩:=h
  by_cases c:ds.length=n
  ·rw[r.length,c,hn]
  ·simp only[fnF,if_neg c] at q
   exact q.elim
 ·obtain ⟨ds,α,M,r,hh,q⟩:=h
  obtain ⟨t,p,w'⟩:=hb cdv A outer s H E hr ZnG
  by_cases c:ds.length=n
  ·simp only[fnF,if_pos c] at q
   refine ⟨t,p,w' _ _ H α M _ (SR.start (N:=N) r (k:=m) (by rw[hm,c])) hh ?_⟩
   cases e:g (ds.map some ++ List.replicate m none) M with
   |nx ρ' M'=>simp only[e] at q;exact fun σ' H' α' ex hr sr=>q _ H' α' ex hr .non
   |ret d M'=>simp only[e] at q;exact q
   |exc x M'=>simp only[e] at q;exact q
   |brk ρ' M'=>simp only[e] at q;exact q.elim
   |cnt ρ' M'=>simp only[e] at q;exact q.elim
   |bad=>simp only[e] at q;exact q.elim
  ·simp only[fnF,if_neg c] at q
   exact q.elim
end
section
variable {X:Cx}{ξ:XK}{k:Nat}{f:Addr}{fd:FuncData}{ps:List Str}{F:W3}{x:Str}{p pos:Pos}{e:Expr}{es:List Expr}{fs:Av}
theorem Zln (G:FnOk X.prog X.w X.K X.mg X.base (CXE X.prog X.w) k f fd ps (spD X.K F))(T:Thr X ξ)(hr:Room k X.A)(hm:X.mg x=some (.ref f))(hk:PySem.W.keepIn X.K (.ref f)=true)(hb:Zey X.K fd ps [])(ha:DA X ξ (e :: es) fs)(hg:Gl X x:=by rfl)
  (hdb:(x == ("__debug__":Str))=false:=by decide) (he:starEach (e :: es) X.env=(false,eval e X.env) :: starEach es X.env:=by rfl) (hpl:(backTo pos (starEach es X.env)).any (·.1)=false:=by rfl):DE X ξ (.Call (.Name x p) (e :: es) [] pos) (Zk F fs):=by
 obtain ⟨t,pa,qa⟩:=ha
 refine ⟨_,Zk1 G hr hg hm hk hb .nil T.ps pa hdb he hpl,fun σ ρ H α M Q s hh q=>qa σ ρ H α M _ s hh (OG.seq q fun ds M1 vs H1 α1 e1 h1 r1 q1=> ?_)⟩
 rw[List.append_nil];exact ⟨ds,α1,M1,r1,h1,q1⟩
end
end DL
end
section
namespace DL
open PyProof.Rows L2
theorem Zct:bootBuiltins "abs"=some (.builtin "abs"):=by decide +kernel
theorem Zc2:bootBuiltins "int"=some (.type "int"):=by decide +kernel
theorem Zbn:bootBuiltins "list"=some (.type "list"):=by decide +kernel
theorem Zdj:bootBuiltins "tuple"=some (.type "tuple"):=by decide +kernel
theorem Zfk:bootBuiltins "max"=some (.builtin "max"):=by decide +kernel
theorem ZnJ:bootBuiltins "min"=some (.builtin "min"):=by decide +kernel
def Cal (P:Program)(w:World)(K:Fg)(mg:Str->Option Value)(base:Heap)(x:Str)(k n:Nat)(F:W3):Prop:=
 ∃ (f:Addr) (fd:FuncData) (ps:List Str),FnOk P w K mg base (CXE P w) k f fd ps (spD K F)/\mg x=some (.ref f)/\PySem.W.keepIn K (.ref f)=true/\ps.length=n/\Zey K fd ps []
theorem Zja {X:Cx}{ξ:XK}{k n:Nat}{F:W3}{x:Str}{p pos:Pos}{e:Expr}{es:List Expr}{fs:Av}(C:Cal X.prog X.w X.K X.mg X.base x k n F)(T:Thr X ξ)(hr:Room k X.A)(ha:DA X ξ (e :: es) fs)(hg:Gl X x:=by rfl)
  (hdb:(x == ("__debug__":Str))=false:=by decide) (he:starEach (e :: es) X.env=(false,eval e X.env) :: starEach es X.env:=by rfl) (hpl:(backTo pos (starEach es X.env)).any (·.1)=false:=by rfl):DE X ξ (.Call (.Name x p) (e :: es) [] pos) (Zk F fs):=by
 obtain ⟨f,fd,ps,G,hm,hk,_,hb⟩:=C
 exact Zln G T hr hm hk hb ha hg hdb he hpl
theorem ZnK {K:Fg}{H:Hp}{a:Addr}{ns:List Int}{n:Nat}{F:W3}(hl:ns.length<=n)(hO:Zqb H)(hS:SqL K H a (ns.map V.int))(h: ∃ M',F [.rol (ns.map D.int)] []= .ok (.bl true) M'):
  spD K F [.ref a] H (fun v _=>v= .bl true) (fun _ _ _=>False):=by
 obtain ⟨M',e⟩:=h
 have hF:SqF K H a (ns.map V.int):=by
  rcases hS with (h | ⟨o,h⟩) | h
  ·rcases hO a with z | ⟨o,xs,z⟩
   ·rw[h] at z;cases z
   ·rw[h] at z;cases z
  ·exact .inl ⟨o,h⟩
  ·exact .inr h
 refine ⟨[.rol (ns.map D.int)],[],[],.cons (.rol hF (Reps.ints ns)) .nil,HR.nil,?_⟩
 rw[e];intro v H' α' _ _ r;cases r
 rfl
end DL
end
section
namespace DL
open PyProof.Rows L2
noncomputable def bl:List Str:=["abs","all","any","bool","dict","enumerate","int","isinstance","len","list","max","min","range","repr","reversed","sorted","str","sum","tuple","zip"]
structure Bs (mg:Str->Option Value):Prop where
 b_abs:mg "abs"=none
 b_all:mg "all"=none
 b_any:mg "any"=none
 b_bool:mg "bool"=none
 b_dict:mg "dict"=none
 b_enumerate:mg "enumerate"=none
 b_int:mg "int"=none
 b_isinstance:mg "isinstance"=none
 b_len:mg "len"=none
 b_list:mg "list"=none
 b_max:mg "max"=none
 b_min:mg "min"=none
 b_range:mg "range"=none
 b_repr:mg "repr"=none
 b_reversed:mg "reversed"=none
 b_sorted:mg "sorted"=none
 b_str:mg "str"=none
 b_sum:mg "sum"=none
 b_tuple:mg "tuple"=none
 b_zip:mg "zip"=none
theorem Bs.of {K:Fg}{h:Heap}{mg:Str->Option Value}(X:K.In h)(G:h.Ns mainGlobals mg)(z:bl.map (PySem.W.nsIn K mainGlobals)=bl.map fun _=>some none):Bs mg:=by
 have q (x:Str) (m:x∈bl):mg x=none:=PySem.W.mg_none_of X G (List.map_inj_left.mp z x m)
 constructor<;>exact q _ (by decide +kernel)
noncomputable def Df (K:Fg)(x:Str)(st:Stmt):Prop:= ∃ f fd,PySem.W.nsIn K mainGlobals x=some (some (.ref f))/\Fun K x x st f fd
def Dfs (K:Fg)(p:Nat->Stmt)(L:List Rw):Prop:=
 L.map (fun r=>(PySem.W.nsIn K mainGlobals r.n,K.lookup r.f,PySem.W.codeIn K (.ref (r.f - 1)) r.n,PySem.W.keepIn K (.ref r.f)))=L.map fun r=>(some (some (.ref r.f)),some (r.fo p),true,true)
theorem Dfs.of {K:Fg}{p:Nat->Stmt}{L:List Rw}(h:L.map (fun r=>(PySem.W.nsIn K mainGlobals r.n,K.lookup r.f,PySem.W.codeIn K (.ref (r.f - 1)) r.n,PySem.W.keepIn K (.ref r.f)))=L.map fun r=>(some (some (.ref r.f)),some (r.fo p),true,true)):Dfs K p L:=h
theorem Dfs.at {K:Fg}{p:Nat->Stmt}{L:List Rw}(h:Dfs K p L)(j i:Nat){x:Str}(e:(L[j]?).map (fun r=>(Str.ofString r.n,r.i))=some (x,i):=by rfl):Df K x (p i):=by
 obtain ⟨r,m,e⟩:=Option.map_eq_some_iff.mp e
 have q:=List.map_inj_left.mp h r (List.mem_of_getElem? m)
 cases e
 simp only[Prod.mk.injEq] at q;exact ⟨_,_,q.1,Znj q.2.1 q.2.2.1 q.2.2.2⟩
section
variable {P:Program}{w:World}{K:Fg}{mg:Str->Option Value}{base:Heap}
theorem Zt8 {α:Type}{P:List α->Prop}(h:P []): ∀ us:List α,us.length=0->P us
 | [],_=>h
theorem Zt9 {α:Type}{P:List α->Prop}(h: ∀ x0,P [x0]): ∀ us:List α,us.length=1->P us
 | [x0],_=>h x0
theorem Zua {α:Type}{P:List α->Prop}(h: ∀ x0 x1,P [x0,x1]): ∀ us:List α,us.length=2->P us
 | [x0,x1],_=>h x0 x1
theorem Zub {α:Type}{P:List α->Prop}(h: ∀ x0 x1 x2,P [x0,x1,x2]): ∀ us:List α,us.length=3->P us
 | [x0,x1,x2],_=>h x0 x1 x2
theorem Zuc {α:Type}{P:List α->Prop}(h: ∀ x0 x1 x2 x3,P [x0,x1,x2,x3]): ∀ us:List α,us.length=4->P us
 | [x0,x1,x2,x3],_=>h x0 x1 x2 x3
theorem Zud {α:Type}{P:List α->Prop}(h: ∀ x0 x1 x2 x3 x4,P [x0,x1,x2,x3,x4]): ∀ us:List α,us.length=5->P us
 | [x0,x1,x2,x3,x4],_=>h x0 x1 x2 x3 x4
theorem Zue {α:Type}{P:List α->Prop}(h: ∀ x0 x1 x2 x3 x4 x5,P [x0,x1,x2,x3,x4,x5]): ∀ us:List α,us.length=6->P us
 | [x0,x1,x2,x3,x4,x5],_=>h x0 x1 x2 x3 x4 x5
theorem ZT {x:Str}{st:Stmt}{N:List Str}{k n m:Nat}{g:Sv}(D:Df K x st)(gl: ∀ c v,PySem.W.nsIn K mainGlobals c=some (some v)->mg c=some v)
  (hb: ∀ (cdv:Value) (A:Around) (outer:List Env) (s:Shared) (H:Hp) (E:XK) (f:Addr),N.Nodup->Room k (A.deeper (envOfC x (Zz st) s.heap.objs.size f cdv))->Thr (ZiE (CXE P w) P w K mg base N x (Zz st) f cdv A outer s H E) E->DSs (ZiE (CXE P w) P w K mg base N x (Zz st) f cdv A outer s H E) E (ZaN st) g)
  (h1:(Zz st).kind= .function:=by rfl) (h2:(Zz st).isCoroutine=false:=by rfl) (h3:(Zz st).isGenerator=false:=by rfl) (h4:N.Nodup:=by decide +kernel) (h5:(N.take n).length=n:=by rfl)
  (h6: ∀ y∈N.take n,(Zz st).names.lookup y=some .local\/(Zz st).names.lookup y=some .cell:=by decide +kernel) (h7: ∀ y∈(Zz st).names,y.2≠ .free:=by decide +kernel) (hm:m=N.length - n:=by rfl)
  (bi: ∀ (kV doc pm:Value) (an:Option Addr) (cdv ct:Value) (us:List Value),us.length=n->bindArgs (PySem.W.fnOf x x (Zbm st) (ZaN st) (Zz st) .none kV doc pm an cdv ct) ⟨us,[]⟩=pure ((N.take n).zip us):=by first | exact fun _ _ _ _ _ _=>Zt9 fun _=>rfl | exact fun _ _ _ _ _ _=>Zua fun _ _=>rfl | exact fun _ _ _ _ _ _=>Zub fun _ _ _=>rfl | exact fun _ _ _ _ _ _=>Zuc fun _ _ _ _=>rfl | exact fun _ _ _ _ _ _=>Zud fun _ _ _ _ _=>rfl | exact fun _ _ _ _ _ _=>Zue fun _ _ _ _ _ _=>rfl | exact fun _ _ _ _ _ _=>Zt8 rfl):Cal P w K mg base x (k + 1) n (fnF g n m):=by
 obtain ⟨f,fd,a,F⟩:=D
 have S:FnScope N (N.take n) (Zz st):=⟨h1,h2,h3,h4,by rw[h5],h6,h7⟩
 exact ⟨f,fd,N.take n,ZnI F S h5.symm hm (fun cdv A outer s H E hr θ=>hb cdv A outer s H E f h4 hr θ),gl _ _ a,F.kp,h5,F.binds (fun kV doc pm an cdv ct us hu=>bi kV doc pm an cdv ct us (hu.trans h5))⟩
theorem Zh {X:Cx}{ξ:XK}{j k n:Nat}{F:W3}{x:Str}{p pos:Pos}{e:Expr}{es:List Expr}{fs:Av}(C:Cal X.prog X.w X.K X.mg X.base x k n F)(T:Thr X ξ)(hr:Room j X.A)(ha:DA X ξ (e :: es) fs)(hj:k<=j:=by decide)(hg:Gl X x:=by rfl)
  (hdb:(x == ("__debug__":Str))=false:=by decide) (he:starEach (e :: es) X.env=(false,eval e X.env) :: starEach es X.env:=by rfl) (hpl:(backTo pos (starEach es X.env)).any (·.1)=false:=by rfl):DE X ξ (.Call (.Name x p) (e :: es) [] pos) (Zk F fs):=Zja C T (hr.mono hj) ha hg hdb he hpl
theorem ZnL {l:PySem.W.OpenLaw}{h:Heap}{fa:Addr}{st:Stmt}{k:Nat}{y:Str}{F:W3}(X:K.In h)(G:h.Ns mainGlobals mg)(hfa:mg "law"=some (.ref fa))(D:Df K "law" st)(b: ∀ (kV doc pm:Value) (an:Option Addr) (cdv ct:Value) (v:Value),bindArgs (PySem.W.fnOf "law" "law" (Zbm st) (ZaN st) (Zz st) .none kV doc pm an cdv ct) ⟨[v],[]⟩=pure [(y,v)])
  (q: ∀ base fd,Fun K "law" "law" st fa fd->FnOk l.prog w K mg base (CXE l.prog w) k fa fd [y] (spD K F)): ∃ fd:FuncData,(∀ (s:Shared) (v:Value),BindsTo s fd ⟨[v],[]⟩ [(y,v)])/\ ∀ base:Heap,K.In base->base.Ns mainGlobals mg->FnOk l.prog w K mg base (CXE l.prog w) k fa fd [y] (spD K F):=by
 obtain ⟨f,fd,a,F⟩:=D
 have e:=hfa.symm.trans (PySem.W.mg_of X G a)
 cases e
 refine ⟨fd,?_,fun base _ _=>q base fd F⟩
 obtain ⟨oc,od,kV,doc,pm,an,cdv,ct,osl,rfl,lk,hcd⟩:=F.ex
 exact fun s v=> .of_eq (b kV doc pm an cdv ct v)
end
end DL
end
section
namespace DL
open PyProof.Rows L2
inductive Src where
 |pur (ds:List D)
 |sto (n:Nat)
 |zip (n m:Nat)
 |enu (n:Nat)
 |rev (n l:Nat)
 |zips (ns:List Nat)
 |dct (n:Nat)
def Zhb (M:Sto)(i:Nat):List Nat->Option (Option (List D))
 | []=>some (some [])
 |n :: ns=>match M[n]? with
  |none=>none
  |some (.lst xs)=>match Zhb M i ns with
   |none=>none
   |some r=>match xs[i]?,r with | some x,some ds=>some (some (x :: ds)) | _,_=>some none
def nxt (src:Src)(i:Nat)(M:Sto):Option (Option D):=match src with
 | .pur ds=>some ds[i]?
 | .sto n=>match M[n]? with | some (.lst xs)=>some xs[i]? | none=>none
 | .zip n m=>match M[n]?,M[m]? with
  |some (.lst xs),some (.lst ys)=>(match xs[i]?,ys[i]? with | some x,some y=>some (some (.tup [x,y])) | _,_=>some none)
  |_,_=>none
 | .enu n=>match M[n]? with | some (.lst xs)=>(match xs[i]? with | some x=>some (some (.tup [.int i,x])) | none=>some none) | none=>none
 | .dct n=>match M[n]? with | some (.lst (.non :: r))=>(match r[i]? with | some (.tup (k :: _))=>some (some k) | some _=>none | none=>some none) | _=>none
 | .zips ns=>match Zhb M i ns with | some (some ds)=>some (some (.tup ds)) | some none=>some none | none=>none
 | .rev n l=>match M[n]? with | some (.lst xs)=>if i < l then (match xs[l - 1 - i]? with | some x=>some (some x) | none=>none) else (if i=l then some none else none) | none=>none
def cnt (src:Src)(M:Sto):Nat:=match src with
 | .pur ds=>ds.length
 | .sto n=>match M[n]? with | some (.lst xs)=>xs.length | none=>0
 | .zip n _=>match M[n]? with | some (.lst xs)=>xs.length | none=>0
 | .enu n=>match M[n]? with | some (.lst xs)=>xs.length | none=>0
 | .rev _ l=>l
 | .dct n=>match M[n]? with | some (.lst xs)=>xs.length | none=>0
 | .zips ns=>match ns with | n :: _=>(match M[n]? with | some (.lst xs)=>xs.length | none=>0) | []=>0
def Ats (H:Hp)(α:List Addr):List Nat->List Addr->Prop
 | [],[]=>True
 |n :: ns,l :: ls=>RefK H α 0 n l/\Ats H α ns ls
 |_,_=>False
def Zlo (K:Fg)(H:Hp)(α:List Addr)(J:It)(src:Src):Prop:= ∀ (i:Nat) H' α' M',Ext K H H' α α'->HR K H' α' M'->match nxt src i M' with
 |some none=>J.stop i H'
 |some (some d)=>J.go i H'/\ ∀ x H'',J.yld i H' x H''->Ext K H' H'' α' α'/\HR K H'' α' M'/\Rep K H'' α' x d
 |none=>True
def DI (X:Cx)(ξ:XK)(tg iter:Expr)(f:Ro->Sto->Out Src):Prop:= ∃ wi:TI,PI X tg iter wi/\ ∀ σ ρ H α M R,SR X.K H α σ ρ->HR X.K H α M->OG X.K (Zlo X.K) H α ξ R (f ρ M)->wi σ H R
section
variable {X:Cx}{ξ:XK}{tg iter a b:Expr}{fs:Av}{f:Ev}{p pos:Pos}
def iR1 (fs:Av):Ro->Sto->Out Src:=fun ρ M=>(fs ρ M).bind fun ds M1=>match ds with
 | [.int j]=>if -(2 ^ 62)<=j/\j < 2 ^ 62 then .ok (.pur (Za0 0 j.toNat)) M1 else .bad
 |_=> .bad
theorem ZfW {K:Fg}{H:Hp}{α:List Addr}{lo:Int}{n:Nat}:Zlo K H α (Itr lo n) (.pur (Za0 lo n)):=by
 intro i H' α' M' ex hr;show match some (Za0 lo n)[i]? with | some none=>_ | some (some d)=>_ | none=>True
 by_cases h:i < n
 ·rw[Zfi h]
  refine ⟨h,fun x H'' y=> ?_⟩
  obtain ⟨e1,e2⟩:=y
  subst e1 e2;exact ⟨Ext.refl,hr,.int _⟩
 ·rw[List.getElem?_eq_none (by rw[Zdi];lia)]
  exact Nat.le_of_not_lt h
theorem Zhc (hm:X.mg "range"=none)(ha:DA X ξ [a] fs)(hgl:Gl X "range":=by rfl)(hs:starEach [a] X.env=[(false,eval a X.env)]:=by rfl):DI X ξ tg (.Call (.Name "range" p) [a] [] pos) (iR1 fs):=by
 obtain ⟨ta,pa,qa⟩:=ha
 refine ⟨_,ZdI hgl hm pa hs,fun σ ρ H α M R s hh q=>qa σ ρ H α M _ s hh (OG.seq q fun ds M1 vs H1 α1 e1 h1 r1 w1=> ?_)⟩
 match r1 with
 | .nil=>exact w1.elim
 | .cons r (.cons _ _)=>cases r<;>exact w1.elim
 | .cons r .nil=>
  cases r with
  |int j=>
   by_cases c: -(2 ^ 62)<=j/\j < 2 ^ 62
   ·simp only[if_pos c] at w1
    exact ⟨j,rfl,c.1,c.2,w1 _ H1 α1 Ext.refl h1 ZfW⟩
   ·simp only[if_neg c] at w1
    exact w1.elim
  |_=>exact w1.elim
def iSq (f:Ev):Ro->Sto->Out Src:=fun ρ M=>(f ρ M).bind fun d M1=>match d with
 | .tup ds=> .ok (.pur ds) M1
 | .rol ds=> .ok (.pur ds) M1
 | .con ds=> .ok (.pur ds) M1
 | .ref n=> .ok (.sto n) M1
 |_=> .bad
theorem Zb3 (ha:DE X ξ a f):DI X ξ tg a (iSq f):=by
 obtain ⟨ta,pa,qa⟩:=ha
 refine ⟨_,Zkc pa,fun σ ρ H α M R s hh q=>qa σ ρ H α M _ s hh (OG.seq q fun d M1 v H1 α1 e1 h1 r1 w1=> ?_)⟩
 cases r1 with
 | @tup p xs ds hp rp=>
  refine ⟨p,rfl,.inr ⟨⟨xs,(SqT.of hp)⟩,w1 (Itt X.K p) H1 α1 Ext.refl h1 ?_⟩⟩
  intro i H' α' M' ex hr;show match some ds[i]? with | some none=>_ | some (some d)=>_ | none=>True
  cases ei:ds[i]? with
  |none=>exact ⟨xs,SqT.of (ex.tup _ _ hp),by rw[rp.length];exact List.getElem?_eq_none_iff.mp ei⟩
  |some d=>
   obtain ⟨v,k1,k2⟩:=rp.get ei
   refine ⟨⟨xs,v,SqT.of (ex.tup _ _ hp),k1⟩,fun x H'' y=> ?_⟩
   obtain ⟨ey,y⟩:=y
   have z:=y xs (SqT.of (ex.tup _ _ hp))
   rw[k1] at z;cases z
   subst ey;exact ⟨Ext.refl,hr,Rep.mono ex k2⟩
 | @con p xs ds hp rp=>
  refine ⟨p,rfl,.inr ⟨⟨xs,hp.sq⟩,w1 (Itt X.K p) H1 α1 Ext.refl h1 ?_⟩⟩
  intro i H' α' M' ex hr;show match some ds[i]? with | some none=>_ | some (some d)=>_ | none=>True
  cases ei:ds[i]? with
  |none=>exact ⟨xs,hp.sq,by rw[rp.length];exact List.getElem?_eq_none_iff.mp ei⟩
  |some d=>
   obtain ⟨v,k1,k2⟩:=rp.get ei
   refine ⟨⟨xs,v,hp.sq,k1⟩,fun x H'' y=> ?_⟩
   obtain ⟨ey,y⟩:=y
   have z:=y xs hp.sq
   rw[k1] at z;cases z
   subst ey;exact ⟨Ext.refl,hr,Rep.mono ex k2⟩
 | @rol p xs ds hp rp=>
  refine ⟨p,rfl,.inl ⟨⟨xs,hp.sq⟩,w1 (Itl X.K p) H1 α1 Ext.refl h1 ?_⟩⟩
  intro i H' α' M' ex hr;show match some ds[i]? with | some none=>_ | some (some d)=>_ | none=>True
  have hq:=(ex.rol _ _ hp).sq
  cases ei:ds[i]? with
  |none=>exact ⟨xs,hq,by rw[rp.length];exact List.getElem?_eq_none_iff.mp ei⟩
  |some d=>
   obtain ⟨v,k1,k2⟩:=rp.get ei
   refine ⟨⟨xs,v,hq,k1⟩,fun x H'' y=> ?_⟩
   obtain ⟨ey,y⟩:=y
   have z:=y xs hq
   rw[k1] at z;cases z
   subst ey;exact ⟨Ext.refl,hr,Rep.mono ex k2⟩
 | @ref p n hp=>
  obtain ⟨xs0,g0⟩:=h1.some_at hp
  refine ⟨p,rfl,.inl ⟨⟨xs0,SqL.of g0⟩,w1 (Itl X.K p) H1 α1 Ext.refl h1 ?_⟩⟩
  intro i H' α' M' ex hr;show match (match M'[n]? with | some (.lst xs)=>some xs[i]? | none=>none) with | some none=>_ | some (some d)=>_ | none=>True
  cases em:M'[n]? with
  |none=>exact True.intro
  |some so=>
   cases so with
   |lst ds=>
    obtain ⟨xs,g1,g2⟩:=hr.at (ex.get hp) em
    show match some ds[i]? with | some none=>_ | some (some d)=>_ | none=>True
    cases ei:ds[i]? with
    |none=>exact ⟨xs,SqL.of g1,by rw[g2.length];exact List.getElem?_eq_none_iff.mp ei⟩
    |some d=>
     obtain ⟨v,k1,k2⟩:=g2.get ei
     refine ⟨⟨xs,v,SqL.of g1,k1⟩,fun x H'' y=> ?_⟩
     obtain ⟨ey,y⟩:=y
     have z:=y xs (SqL.of g1)
     rw[k1] at z;cases z
     subst ey;exact ⟨Ext.refl,hr,k2⟩
 |_=>exact w1.elim
end
noncomputable def blk (X:Cx)(scope:Scope)(cl:List (Str × Addr))(N:List Str)(C:Addr)(fp:List Addr)(s:Shared)(H:Hp):Cx:=
 { X with N:=N,s₀:=s,H₀:=H,env:=compEnvC scope cl C X.env,outer:=X.stack,stack:=X.stack,ex:=fp,fn:=fun _=>false,pn:=[],xe:=fun _ _=>False,fxs:=none }
theorem Zcu {X:Cx}{scope:Scope}{cl:List (Str × Addr)}{N:List Str}{C:Addr}{fp:List Addr}{s:Shared}{H:Hp}:Thr (blk X scope cl N C fp s H) E0:=
 ⟨PassesOwn.never,fun _ _ _ _ _ _ _ ⟨_,_,_,_,_,_,_,_,_,_,_,_,_,q⟩=>q,fun _ _ _ _ _ _ _ _ _ _ _ _ _ _ _ _ _ _ _ _ _ _ q=>q⟩
def ZcT (src:Src)(tg:Tg)(c:Tv)(f:Ev)(n:Nat):Nat->Nat->Ro->Sto->Out Unit
 |fuel,i,ρ,M=>match nxt src i M with
  |none=> .bad
  |some none=> .ok () M
  |some (some d)=>(match fuel with
   |0=> .bad
   |fuel + 1=>(match tg d ρ with
    |none=> .bad
    |some ρ1=>(match c ρ1 M with
     | .ok true M1=>(match f ρ1 M1 with
      | .ok x M2=>(match M2[n]? with
       |some (.lst xs)=>if xs.length < 10000000 then ZcT src tg c f n fuel (i + 1) ρ1 (M2.set n (.lst (xs ++ [x]))) else .bad
       |none=> .bad)
      |_=> .bad)
     | .ok false M1=>ZcT src tg c f n fuel (i + 1) ρ1 M1
     |_=> .bad)))
noncomputable def roB (k:Nat)(fr:List Nat)(ρ:Ro):Ro:=List.replicate k none ++ fr.map fun i=>(ρ[i]?).join
def ZaO (fi:Ro->Sto->Out Src)(k:Nat)(fr:List Nat)(tg:Tg)(c:Tv)(f:Ev):Ev:=fun ρ M=>(fi ρ M).bind fun src M1=>match ZcT src tg c f M1.length (cnt src M1) 0 (roB k fr ρ) (M1 ++ [.lst []]) with
 | .ok _ M2=> .ok (.ref M1.length) M2
 |_=> .bad
structure Blk (X:Cx) (scope:Scope) (cl:List (Str × Addr)) (N:List Str) (k:Nat) (fr:List Nat):Prop where
 clos:closureFor scope X.env=pure cl
 kind:scope.kind= .function
 cell: ∀ y∈scope.names,y.2≠ .cell
 names: ∀ y∈scope.names,y.2= .local->scope.names.lookup y.1=some .local
 sub: ∀ x c,cl.lookup x=some c->X.env.cells.lookup x=some c
 has: ∀ x,((relabel scope X.env).names.lookup x=some .cell\/(relabel scope X.env).names.lookup x=some .free)-> ∃ c,cl.lookup x=some c
 len:N.length=k + fr.length
 at_: ∀ (j i:Nat),fr[j]?=some i-> ∃ x,N[k + j]?=some x/\X.N[i]?=some x/\X.env.kindOf x=some .cell/\((relabel scope X.env).names.lookup x=some .cell\/(relabel scope X.env).names.lookup x=some .free)/\cl.lookup x=X.env.cells.lookup x
theorem Zd1 {prog:Program}{w:World}{A:Around}{R:Result->Shared->Prop}{s:Shared}{elt target iter:Expr}{ifs:List Expr}{scope:Scope}{pos:Pos}{it acc:Value}{env:Env}(I:Nat->Shared->Prop)
  (turn: ∀ n s,I n s->wpAny (model prog w) A (pyNext it) (fun r s₁=>match r with
   |none=>R (.ok .next) s₁
   |some v=>wpAny (model prog w) A (letOwnedTupleGo target it v) (fun _ s₁=>wpAny (model prog w) A (assign target env v) (fun _ s₂=>
     wpAny (model prog w) A (forIn ifs true fun c r=>if r=true then do let ok <- isTrue c env (eval c env);pure (ForInStep.yield ok) else pure (ForInStep.yield r)) (fun ok s₃=>
      if ok=true then wpAny (model prog w) A (eval elt env) (fun x s₄=>
       wpAny (model prog w) A (call (.builtin "list.append") [acc,x]) (fun _ s₅=> ∃ m,m < n/\I m s₅) (fun _ _=>False) s₄) (fun _ _=>False) s₃
      else ∃ m,m < n/\I m s₃) (fun _ _=>False) s₂) (fun _ _=>False) s₁) (fun _ _=>False) s₁) (fun _ _=>False) s)
  (n:Nat) (h:I n s):
  codeAny (model prog w) A (.compLoop (.ListComp elt [⟨target,iter,ifs,0⟩] scope pos) 0 it acc env) R s:=by
 refine codeAny_loop rfl I (fun n s hI=> ?_) n h
 show wpAny _ A ((compTurn (.ListComp elt [⟨target,iter,ifs,0⟩] scope pos) 0 it acc env).onRaise (fun x=>do noteFrame x env;theTreesLotGoes x)) _ _ s
 refine wpAny_noted ?_
 rw[compTurn_list];refine Wb (wpAny_standAt (Wb (wpAny_mono (turn n s hI) (fun r s₁ h₁=> ?_) fun _ _ h'=>h'.elim)))
 cases r with
 |none=>exact Wp h₁
 |some v=>
  refine Wb (wpAny_mono h₁ (fun _ s₁ h₁=> ?_) fun _ _ h'=>h'.elim)
  refine Wb (wpAny_mono h₁ (fun _ s₂ h₂=>Wb (wpAny_mono h₂ (fun ok s₃ h₃=> ?_) fun _ _ h'=>h'.elim)) fun _ _ h'=>h'.elim)
  cases ok with
  |false=>exact Wp ⟨rfl,h₃⟩
  |true=>
   exact Wb (Wb (wpAny_mono h₃ (fun x s₄ h₄=>Wb (wpAny_mono h₄ (fun _ s₅ h₅=>Wp (Wp ⟨rfl,h₅⟩)) fun _ _ h'=>h'.elim)) fun _ _ h'=>h'.elim))
def DC (X:Cx)(ifs:List Expr)(c:Tv):Prop:=(ifs=[]/\c=fun _ M=> .ok true M)\/ ∃ e,ifs=[e]/\DT X E0 e c
section
variable {X:Cx}{ξ:XK}{tg iter elt:Expr}{ifs:List Expr}{scope:Scope}{cl:List (Str × Addr)}{N:List Str}{k:Nat}{fr:List Nat}{fi:Ro->Sto->Out Src}{gt:Tg}{c:Tv}{f:Ev}{pos:Pos}
theorem Zfl (B:Blk X scope cl N k fr){pins:Pn}{σ:L2.St}{H:Hp}{s:Shared}{fp:List Addr}(I:Inv X pins σ H s)(hf: ∀ b∈fp,ZcY X pins H b)(hlt: ∀ b∈fp,b < s.heap.objs.size):(blk X scope cl N s.heap.objs.size fp s H).Ok where
 mod:=I.ok.mod
 kind:=B.kind
 glob:=I.ok.glob
 blt:=I.ok.blt
 above:=Nat.le_refl _
 inj:=fun x y c h1 h2=>I.ok.inj x y c (B.sub x c h1) (B.sub y c h2)
 has:=fun x h=>B.has x h
 cab:=fun x c h=>(by cases h)
 hd:=I.ok.hd
 frames:=I.ok.frames
 stk:= .inl rfl
 exf:=fun b hb=>⟨Nat.ne_of_lt (hlt b hb),fun x c h=>(hf b hb).2.2.2.2.1 x c (B.sub x c h)⟩
 bs:=I.bs
 bsz:=Nat.le_trans I.ok.bsz I.sz
 noex:=fun b o e hb=>by
  rcases (hf b hb).2.2.2.1 with z | z
  ·exact I.ok.noex b o e z
  ·exact absurd (Nat.lt_of_lt_of_le (Hz (I.ok.bs b o e).1) z) (Nat.lt_irrefl _)
 exfs:=fun b hb z=>by
  rcases List.mem_cons.mp (I.stkSub b z) with e | e
  ·exact (hf b hb).2.1 e
  ·exact (hf b hb).2.2.1 e
 funs:=I.stack
 frf:=I.stkFree
theorem join_some {α:Type}{o:Option (Option α)}{v:α}(h:o.join=some v):o=some (some v):=by
 cases o with
 |none=>cases h
 |some x=>cases x with
  |none=>cases h
  |some y=>cases h;rfl
theorem Zlp {ρ:Ro}{i:Nat}{d:D}(h:(roB k fr ρ)[i]?=some (some d)): ∃ j r,i=k + j/\fr[j]?=some r/\ρ[r]?=some (some d):=by
 unfold roB at h
 by_cases hi:i < k
 ·rw[List.getElem?_append_left (by rw[List.length_replicate];exact hi)] at h
  have:=List.mem_of_getElem? h
  rw[List.mem_replicate] at this;cases this.2
 ·rw[List.getElem?_append_right (by rw[List.length_replicate];lia),List.length_replicate,List.getElem?_map] at h
  cases e:fr[i - k]? with
  |none=>rw[e] at h;cases h
  |some r=>
   rw[e] at h;exact ⟨i - k,r,by lia,e,join_some (Option.some.inj h)⟩
noncomputable def stB (k:Nat)(fr:List Nat)(σ:L2.St):L2.St:=List.replicate k none ++ fr.map fun i=>(σ[i]?).join
theorem Zlq {σ:L2.St}{i:Nat}{d:V}(h:(stB k fr σ)[i]?=some (some d)): ∃ j r,i=k + j/\fr[j]?=some r/\σ[r]?=some (some d):=by
 unfold stB at h
 by_cases hi:i < k
 ·rw[List.getElem?_append_left (by rw[List.length_replicate];exact hi)] at h
  have:=List.mem_of_getElem? h
  rw[List.mem_replicate] at this;cases this.2
 ·rw[List.getElem?_append_right (by rw[List.length_replicate];lia),List.length_replicate,List.getElem?_map] at h
  cases e:fr[i - k]? with
  |none=>rw[e] at h;cases h
  |some r=>
   rw[e] at h;exact ⟨i - k,r,by lia,e,join_some (Option.some.inj h)⟩
theorem SR.blk {K:Fg}{H:Hp}{α:List Addr}{σ:L2.St}{ρ:Ro}(h:SR K H α σ ρ):SR K H α (stB k fr σ) (roB k fr ρ):=by
 refine ⟨by simp[stB,roB],fun i d e=> ?_⟩
 obtain ⟨j,r,rfl,e1,e2⟩:=Zlp e
 obtain ⟨v,e3,e4⟩:=h.2 r d e2
 refine ⟨v,?_,e4⟩
 unfold stB;rw[List.getElem?_append_right (by rw[List.length_replicate];lia),List.length_replicate,List.getElem?_map,Nat.add_sub_cancel_left,e1]
 show some (σ[r]?).join=_
 rw[e3];rfl
theorem ZeD (B:Blk X scope cl N k fr){pins:Pn}{σ:L2.St}{H:Hp}{s:Shared}{fp:List Addr}{h1:Heap}{tk:Nat}{m:Str->Option Value}(I:Inv X pins σ H s)(hf: ∀ b∈fp,ZcY X pins H b)(hlt: ∀ b∈fp,b < s.heap.objs.size)
  (hn:h1.Ns s.heap.objs.size m) (hk: ∀ b o,s.heap.get? b=some o->h1.get? b=some o):Inv (blk X scope cl N s.heap.objs.size fp s H) [] (stB k fr σ) H { s with heap:=h1,toks:=tk } where
 ok:=Zfl B I hf hlt
 os:=rfl
 bare:=I.bare
 base:=Un.kept hk
 loc:=by
  refine ⟨m,hn,fun i x v e1 e2 e3=> ?_⟩
  obtain ⟨j,r,rfl,g1,g2⟩:=Zlq e2
  obtain ⟨y,k1,k2,k3,k4,k5⟩:=B.at_ j r g1
  have exy:x=y:=Option.some.inj (e1.symm.trans k1)
  subst exy;obtain ⟨m0,hm0,hl⟩:=I.loc
  obtain ⟨u,ru,lk⟩:=hl r x v k2 g2 (.inr (.inl k3))
  refine ⟨u,ru,?_⟩
  rcases lk with ⟨z,_⟩ | ⟨_,c,z1,⟨o,z2,z3⟩⟩
  ·rw[k3] at z;cases z
  ·exact .inr ⟨k4,c,k5.trans z1,⟨o,hk _ _ z2,z3⟩⟩
 cell:=fun x c h=>by
  obtain ⟨v,o,e1,e2⟩:=I.cell x c (B.sub x c h)
  exact ⟨v,o,hk _ _ e1,e2⟩
 free:=I.fresh
 freeC:=fun x c h=>I.freeC x c (B.sub x c h)
 pin:=fun p hp=>(by simp[blk] at hp)
 hok:=I.hok.kept hk
 len:=by
  show (stB k fr σ).length=N.length
  rw[B.len]
  simp[stB]
 qd:=I.qd
 fx:= .free rfl
theorem Zdk {pins:Pn}{σ σ5:L2.St}{H3 H5:Hp}{s3 s6:Shared}{fp:List Addr}(B:Blk X scope cl N k fr)(I3:Inv X pins σ H3 s3)(f3: ∀ b∈fp,ZcY X pins H3 b)(I6:Inv (blk X scope cl N s3.heap.objs.size fp s3 H3) [] σ5 H5 s6):Inv X pins σ H5 s6/\ ∀ (σ':L2.St) (s8:Shared) (h':Heap),Inv X pins σ' H5 s8->(∀ b o,b≠s3.heap.objs.size->s8.heap.get? b=some o->h'.get? b=some o)->Inv X pins σ' H5 { s8 with heap:=h',toks:=s8.toks }:=by
 refine ⟨I3.call' (s':=s6) (ch:=fp) I6.os I6.base I6.hok I6.bare fun b hb=> ?_,fun σ' s8 h' I8 sb=> ?_⟩
 ·obtain ⟨_,z1,z2,z3,z4,z5⟩:=f3 b hb
  exact ⟨z3,z1,z4,z5⟩
 ·exact I8.turned (it:=s3.heap.objs.size) sb I6.free (Nat.ne_of_gt I3.lt) (.inr I3.sz)
   (fun x c h z=>by
    obtain ⟨v,o,e,_⟩:=I3.cell x c h
    exact absurd (Hz e) (by rw[z];exact Nat.lt_irrefl _)) (fun p hp z=>by
    have:=(I3.pin p hp).1
    exact absurd (Hz this) (by rw[z];exact Nat.lt_irrefl _))
def CmI (Y:Cx)(fp:List Addr)(tn:Nat->Heap->Prop)(H3:Hp)(α3:List Addr)(g:Nat->Nat->Ro->Sto->Prop)(n:Nat)(s':Shared):Prop:=
 ∃ i σ' ρ' H' α' M',Inv Y [] σ' H' s'/\tn i s'.heap/\(∀ b∈fp,H' b=none)/\SR Y.K H' α' σ' ρ'/\HR Y.K H' α' M'/\Ext Y.K H3 H' α3 α'/\g n i ρ' M'
theorem Zfm {Y:Cx}{fp α3:List Addr}{it D:Addr}{tn:Nat->Heap->Prop}{J:It}{tg iter elt:Expr}{ifs:List Expr}{scope:Scope}{pos:Pos}{gt:Tg}{c:Tv}{f:Ev}{src:Src}{H3:Hp}{σ0:L2.St}{ρ0:Ro}{M3 M9:Sto}{u9:Unit}{n0 fuel:Nat}{s4:Shared}{R:Result->Shared->Prop}
  (T:Turn Y.prog Y.w Y.K Y.A tg J fp it tn) (hxe: ∀ x y,Y.xe x y->False) (fp5: ∀ {H':Hp},(∀ b∈fp,H' b=none)-> ∀ b∈fp,ZcY Y [] H' b) (hg:DG Y tg gt) (tst:DC Y ifs c) (he:DE Y E0 elt f)
  (sc:Zlo Y.K H3 α3 J src) (aD:RefK H3 α3 0 n0 D) (I4:Inv Y [] σ0 H3 s4) (st4:tn 0 s4.heap) (fr4: ∀ b∈fp,H3 b=none) (sr:SR Y.K H3 α3 σ0 ρ0) (h3:HR Y.K H3 α3 M3) (er:ZcT src gt c f n0 fuel 0 ρ0 M3= .ok u9 M9)
  (post: ∀ σ5 H5 α5 s6,Inv Y [] σ5 H5 s6->Ext Y.K H3 H5 α3 α5->HR Y.K H5 α5 M9->R (.ok .next) s6):
  codeAny (model Y.prog Y.w) Y.A (.compLoop (.ListComp elt [⟨tg,iter,ifs,0⟩] scope pos) 0 (.ref it) (.ref D) Y.env) R s4:=by
 obtain ⟨tt,pt,qt⟩:=hg
 obtain ⟨te,pe,qe⟩:=he
 refine Zd1 (CmI Y fp tn H3 α3 fun n i ρ' M'=>ZcT src gt c f n0 n i ρ' M'= .ok u9 M9) ?_ fuel ⟨0,σ0,ρ0,H3,α3,M3,I4,st4,fr4,sr,h3,Ext.refl,er⟩
 rintro n s5 ⟨i,σ5,ρ5,H5,α5,M5,I5,st5,fr5,sr5,hr5,ex5,en⟩
 have src5:=sc i H5 α5 M5 ex5 hr5
 rw[ZcT] at en;cases ex:nxt src i M5 with
 |none=>rw[ex] at en;cases en
 |some od=>
  rw[ex] at src5 en;cases od with
  |none=>
   cases en
   have fin:=T.done Y rfl rfl rfl rfl i [] s5 σ5 H5 (fun _ _=>False) I5 (fp5 fr5) st5 src5
   refine thn fin fun r s6 w6=> ?_
   obtain ⟨hr6,I6⟩:=w6
   subst hr6;exact post σ5 H5 α5 s6 I6 ex5 hr5
  |some d=>
   obtain ⟨go,yl⟩:=src5
   cases n with
   |zero=>cases en
   |succ n=>
    simp only at en
    have itm:=T.item Y rfl rfl rfl rfl i [] s5 σ5 H5 (fun _ _=>False) I5 (fp5 fr5) st5 go
    refine thn itm fun r s6 ⟨u,hr6,w6⟩=> ?_
    subst hr6;refine thn w6 fun _ s7 ⟨x,H7,I7,r7,y7,st7,fr7⟩=> ?_
    obtain ⟨ex7,hr7,rp7⟩:=yl x H7 y7
    have sr5:=sr5.mono ex7
    have hr5:=hr7
    have ex5:=ex5.trans ex7
    have I7':=I7.pinned (fp5 fr7) (T.obj _ _ st7)
    cases eg:gt d ρ5 with
    |none=>rw[eg] at en;cases en
    |some ρ6=>
     rw[eg] at en
     simp only at en
     have asg:=pt _ s7 σ5 H7 x u _ I7' r7 (qt x d σ5 ρ5 H7 α5 ρ6 (fun σ' H'=>H'=H7/\SR Y.K H7 α5 σ' ρ6) sr5 rp7 eg fun σ' s'=>⟨rfl,s'⟩)
     refine wpAny_mono asg (fun _ s8 ⟨σ8,H8,I8,z8,sr8⟩=> ?_) (fun x y z=>hxe x y z)
     subst z8;have again: ∀ {σ9:L2.St} {H9:Hp} {s9:Shared},Inv Y ([] ++ Zbv fp s7.heap) σ9 H9 s9->Inv Y [] σ9 H9 s9/\tn (i + 1) s9.heap/\ ∀ b∈fp,H9 b=none:=fun {σ9 H9 s9} I9=>by
      refine ⟨I9.unpinned,T.keep _ _ _ st7 fun b hb o e=>(I9.pin (b,o) (List.mem_append_right _ (List.mem_append_right _ (Zao hb e)))).1,fun b hb=> ?_⟩
      obtain ⟨o,e,_⟩:=T.obj _ _ st7 b hb
      exact (I9.pin (b,o) (List.mem_append_right _ (List.mem_append_right _ (Zao hb e)))).2.1
     have after: ∀ (kk:Bool) (M8:Sto) (H9:Hp) (α9:List Addr) (s9:Shared),Inv Y ([] ++ Zbv fp s7.heap) σ8 H9 s9->Ext Y.K H8 H9 α5 α9->HR Y.K H9 α9 M8->c ρ6 M5= .ok kk M8->
       (if kk=true then wpAny (model Y.prog Y.w) Y.A (eval elt Y.env) (fun x s₄=>wpAny (model Y.prog Y.w) Y.A (call (.builtin "list.append") [.ref D,x]) (fun _ s₅=> ∃ m,m < n + 1/\CmI Y fp tn H3 α3 (fun n i ρ' M'=>ZcT src gt c f n0 n i ρ' M'= .ok u9 M9) m s₅) (fun _ _=>False) s₄) (fun _ _=>False) s9
        else ∃ m,m < n + 1/\CmI Y fp tn H3 α3 (fun n i ρ' M'=>ZcT src gt c f n0 n i ρ' M'= .ok u9 M9) m s9):=by
      intro kk M8 H9 α9 s9 I9 ex9 hr9 ec;rw[ec] at en;cases kk with
      |false=>
       obtain ⟨a1,a2,a3⟩:=again I9
       exact Zlb ⟨n,Nat.lt_succ_self n,i + 1,σ8,ρ6,H9,α9,M8,a1,a2,a3,sr8.mono ex9,hr9,ex5.trans ex9,en⟩
      |true=>
       simp only at en
       refine Zlc ?_
       cases ef:f ρ6 M8 with
       |exc x9 M10=>rw[ef] at en;cases en
       |bad=>rw[ef] at en;cases en
       |ok y M10=>
        rw[ef] at en
        simp only at en
        have ev:=pe _ s9 σ8 H9 (fun v H'=> ∃ α',Ext Y.K H9 H' α9 α'/\HR Y.K H' α' M10/\Rep Y.K H' α' v y) I9 (qe σ8 ρ6 H9 α9 M8 _ (sr8.mono ex9) hr9 (by
         rw[ef];exact fun v H' α' e h r=>⟨α',e,h,r⟩))
        refine wpAny_mono ev (fun yv s10 ⟨v,H10,I10,r10,α10,ex10,hr10,rp10⟩=> ?_) (fun x y z=>hxe x y z)
        cases em:M10[n0]? with
        |none=>rw[em] at en;cases en
        |some so=>
         cases so with
         |lst ds=>
          rw[em] at en
          simp only at en
          by_cases cz:ds.length < 10000000
          ·rw[if_pos cz] at en
           have aD10:=ex10.get (ex9.get (ex5.get aD))
           obtain ⟨xs,g1,g2⟩:=hr10.at aD10 em
           have ap:=ZdP (X:=Y) _ s10 σ8 H10 (.ref D) [v] (.ref D) [yv] (fun _ H'=>H'=upd H10 D (.lst (xs ++ [v]))) I10 rfl (.cons r10 .nil) ⟨D,xs,v,rfl,rfl,g1,by rw[g2.length];exact Nat.lt_of_lt_of_le cz (by decide),rfl⟩
           refine wpAny_mono ap (fun _ s11 ⟨v11,H11,I11,_,z11⟩=> ?_) (fun x y z=>hxe x y z)
           subst z11;obtain ⟨a1,a2,a3⟩:=again I11
           have exw:Ext Y.K H10 (upd H10 D (.lst (xs ++ [v]))) α10 α10:=Ext.wr g1
           exact ⟨n,Nat.lt_succ_self n,i + 1,σ8,ρ6,_,α10,_,a1,a2,a3,((sr8.mono ex9).mono ex10).mono exw,hr10.wr aD10 g1 (g2.append (.cons rp10 .nil)),((ex5.trans ex9).trans ex10).trans exw,en⟩
          ·rw[if_neg cz] at en
           cases en
     rcases tst with ⟨rfl,ec⟩ | ⟨e,rfl,tt',ptt,qtt⟩
     ·refine wpAny_tests_nil ?_
      exact after true M5 H8 α5 s8 I8 Ext.refl hr5 (by rw[ec])
     ·refine wpAny_tests_one ?_
      cases ec:c ρ6 M5 with
      |exc x9 M10=>rw[ec] at en;cases en
      |bad=>rw[ec] at en;cases en
      |ok kk M8=>
       have tv':=ptt _ s8 σ8 H8 (fun b H'=>b=kk/\ ∃ α',Ext Y.K H8 H' α5 α'/\HR Y.K H' α' M8) I8 (qtt σ8 ρ6 H8 α5 M5 _ sr8 hr5 (by
        rw[ec];exact fun v H' α' e h r=>⟨r,α',e,h⟩))
       refine wpAny_mono tv' (fun b s9 ⟨H9,I9,zb,α9,ex9,hr9⟩=> ?_) (fun x y z=>hxe x y z)
       subst zb;exact after b M8 H9 α9 s9 I9 ex9 hr9 ec
theorem ZbU (B:Blk X scope cl N k fr)(hi:DI X ξ tg iter fi)(hg: ∀ C fp s H,DG (blk X scope cl N C fp s H) tg gt)(ht: ∀ C fp s H,DC (blk X scope cl N C fp s H) ifs c)(he: ∀ C fp s H,DE (blk X scope cl N C fp s H) E0 elt f)
  (hs: ∀ x,foldedSetIterable iter X.env x=pure x:=by intro _;rfl):DE X ξ (.ListComp elt [⟨tg,iter,ifs,0⟩] scope pos) (ZaO fi k fr gt c f):=by
 obtain ⟨wi,pi,qi⟩:=hi
 refine ⟨fun σ H Q=> ∃ ρ α M,SR X.K H α σ ρ/\HR X.K H α M/\OP X.K H α ξ Q (ZaO fi k fr gt c f ρ M),?_,fun σ ρ H α M Q s h q=>⟨ρ,α,M,s,h,q⟩⟩
 rintro pins s σ H Q I ⟨ρ,α,M,sr,hr,op⟩
 rw[eval_ListComp];refine wpAny_comprehension_free (use:=none) rfl hs B.clos B.kind B.names ?_
 refine thn (pi pins s σ H (fun J H2=> ∃ α2 M2 src,Ext X.K H H2 α α2/\HR X.K H2 α2 M2/\Zlo X.K H2 α2 J src/\OP X.K H2 α2 ξ Q (match ZcT src gt c f M2.length (cnt src M2) 0 (roB k fr ρ) (M2 ++ [.lst []]) with | .ok _ M2'=> .ok (.ref M2.length) M2' | _=> .bad)) I
  (qi σ ρ H α M _ sr hr (OG.seq op fun src M1 J H1 α1 e1 h1 r1 q1=>⟨α1,M1,src,e1,h1,r1,q1⟩))) fun v s1 w1=>thn w1 fun itv s2 w2=> ?_
 obtain ⟨it,fp,tn,J,H2,rfl,I2,T,st2,f2,α2,M2,src,e2,h2,sc,op2⟩:=w2
 have srI:=sr.mono e2
 refine wpAny_newObj_type ?_
 have I3:Inv X pins σ (upd H2 s2.heap.objs.size (.lst [])) { s2 with heap:=s2.heap.push { cls:= .type "list",data:= .seq ([]:List Value).toArray } }:=I2.lnew (its:=[]) (t':=s2.toks) .nil (Nat.zero_le _)
 have fD:H2 s2.heap.objs.size=none:=I2.fresh
 generalize hD:s2.heap.objs.size=D at I3 fD;generalize hs3:({ s2 with heap:=s2.heap.push { cls:= .type "list",data:= .seq ([]:List Value).toArray } }:Shared)=s3 at I3
 generalize hH3:upd H2 D (.lst [])=H3 at I3;have h3:HR X.K H3 (α2 ++ [D]) (M2 ++ [.lst []]):=by rw[<- hH3];exact h2.new fD .nil
 have e3:Ext X.K H2 H3 α2 (α2 ++ [D]):=by rw[<- hH3];exact Ext.new fD
 have aD:RefK H3 (α2 ++ [D]) 0 M2.length D:=⟨h2.last D,by first | exact Kn.lst Zy | (rw[<- hH3];exact Kn.lst Zy)⟩
 have lt2: ∀ b∈fp,b < s2.heap.objs.size:=fun b hb=>let ⟨o,e,_⟩:=T.obj _ _ st2 b hb;Hz e
 have keep3: ∀ b o,s2.heap.get? b=some o->s3.heap.get? b=some o:=fun b o e=>by rw[<- hs3];exact Hq _ e
 have f3: ∀ b∈fp,ZcY X pins H3 b:=fun b hb=>⟨by rw[<- hH3,ZF (by rw[<- hD];exact Nat.ne_of_lt (lt2 b hb))];exact (f2 b hb).1,(f2 b hb).2⟩
 have lt3: ∀ b∈fp,b < s3.heap.objs.size:=fun b hb=>let ⟨o,e,_⟩:=T.obj _ _ st2 b hb;Hz (keep3 b o e)
 have st3:tn 0 s3.heap:=T.keep _ _ _ st2 fun b _ o e=>keep3 b o e
 refine wpAny_newFunctionEnv B.cell (by intro y hy;simp at hy) (fun h₁ hns₁ hsb₁=> ?_) B.kind
 have keep4: ∀ b o,s3.heap.get? b=some o->h₁.get? b=some o:=fun b o e=>hsb₁.extBut b o (Nat.ne_of_lt (Hz e)) (Hq _ e)
 have I4:=ZeD (tk:=s3.toks + ([]:List (Str × Value)).length) B I3 f3 lt3 hns₁ keep4
 have st4:tn 0 h₁:=T.keep _ _ _ st3 fun b _ o e=>keep4 b o e
 have fp5: ∀ {H':Hp},(∀ b∈fp,H' b=none)-> ∀ b∈fp,ZcY (blk X scope cl N s3.heap.objs.size fp s3 H3) [] H' b:=fun hn b hb=>⟨hn b hb,Nat.ne_of_lt (lt3 b hb),(Zfl B I3 f3 lt3).exfs b hb,.inl hb,fun x c h=>(f3 b hb).2.2.2.2.1 x c (B.sub x c h),fun p hp=>(by simp[blk] at hp)⟩
 cases er:ZcT src gt c f M2.length (cnt src M2) 0 (roB k fr ρ) (M2 ++ [.lst []]) with
 |exc x M9=>rw[er] at op2;exact op2.elim
 |bad=>rw[er] at op2;exact op2.elim
 |ok u9 M9=>
  rw[er] at op2;have loop:codeAny (model X.prog X.w) X.A (.compLoop (.ListComp elt [⟨tg,iter,ifs,0⟩] scope pos) 0 (.ref it) (.ref D) (compEnvC scope cl s3.heap.objs.size X.env)) (compPost (model X.prog X.w) X.A X.xe none (EP X pins σ Q) (.ref D) s3.heap.objs.size) { s3 with heap:=h₁,toks:=s3.toks + ([]:List (Str × Value)).length }:=by
   refine Zfm (Y:=blk X scope cl N s3.heap.objs.size fp s3 H3) T (fun _ _ z=>z) fp5 (hg _ fp s3 H3) (ht _ fp s3 H3) (he _ fp s3 H3) (fun i H' α' M' ex hr=>sc i H' α' M' (e3.trans ex) hr) aD I4 st4 (fun b hb=>(f3 b hb).1) ((srI.blk).mono e3) h3 er ?_
   intro σ5 H5 α5 s6 I6 ex5 hr5;obtain ⟨I7,I8⟩:=Zdk B I3 f3 I6
   obtain ⟨m6,hm6,_⟩:=id I6.loc
   exact ⟨m6,hm6,fun h' sb=>⟨.ref D,H5,I8 σ s6 h' I7 (fun b o hb e=>(sb.2 b hb).trans e),rfl,op2 _ H5 α5 (e3.trans ex5) hr5 (.ref (ex5.get aD))⟩⟩
  exact codeAny_compStart_list loop (T.self X.A 0 _ _ _ st4 loop)
end
end DL
end
section
namespace DL
open PyProof.Rows L2
theorem ZnM {names:List (Str × NameKind)}(h:names.all (fun y=>y.2 != .cell && y.2 != .free)=true)(x:Str): ¬ (names.lookup x=some .cell\/names.lookup x=some .free):=by
 induction names with
 |nil=>intro z;rcases z with z | z<;>simp at z
 |cons y r ih=>
  rw[List.all_cons,Bool.and_eq_true] at h;obtain ⟨n,kd⟩:=y
  rw[List.lookup_cons];cases e:x == n with
  |true=>
   simp only
   intro z;have h1:=h.1
   rcases z with z | z<;>(cases z;simp at h1)
  |false=>exact ih h.2
theorem Zjb {names:List (Str × NameKind)}{env:Env}(h:names.all (fun y=>y.2 != .cell && y.2 != .free)=true):
  (names.map fun (n,k)=>if (k == NameKind.free && env.scope.kind == .function && env.kindOf n == some .cell) then (n,NameKind.cell) else (n,k))=names:=by
 induction names with
 |nil=>rfl
 |cons y r ih=>
  rw[List.all_cons,Bool.and_eq_true] at h;obtain ⟨n,kd⟩:=y
  have hk:(kd == NameKind.free)=false:=by
   have h1:=h.1
   rw[Bool.and_eq_true] at h1;have h2:=h1.2
   cases kd<;>first | rfl | simp at h2
  rw[List.map_cons,ih h.2]
  simp[hk]
theorem ZqK {X:Cx}{scope:Scope}{N:List Str}{k:Nat}(h:scope.names.all (fun y=>y.2 != .cell && y.2 != .free)=true)(hk:scope.kind= .function)(hn: ∀ y∈scope.names,y.2= .local->scope.names.lookup y.1=some .local)(hl:N.length=k):Blk X scope [] N k [] where
 clos:=closureFor_none fun y hy z=>by
  have:=List.all_eq_true.mp h y hy
  rw[z] at this
  simp at this
 kind:=hk
 cell:=fun y hy z=>by
  have:=List.all_eq_true.mp h y hy
  rw[z] at this
  simp at this
 names:=hn
 sub:=fun x c z=>(by cases z)
 has:=fun x z=>by
  have e:(relabel scope X.env).names=scope.names:=Zjb h
  rw[e] at z;exact absurd z (ZnM h x)
 len:=hl
 at_:=fun j i z=>(by simp at z)
theorem ZeE {env:Env}: ∀ (names:List (Str × NameKind)) (acc:List (Str × Addr)),(∀ y∈names,y.2= .free-> ∃ c,env.cells.lookup y.1=some c)->
  (forIn names acc fun (x:Str × NameKind) (cs:List (Str × Addr))=>if x.2 == NameKind.free then (do let a <- cellOf env x.1;pure (ForInStep.yield ((x.1,a) :: cs))) else (pure (ForInStep.yield cs):Sem _))=
   (pure (((names.filter fun y=>y.2 == .free).map fun y=>(y.1,(env.cells.lookup y.1).getD 0)).reverse ++ acc):Sem (List (Str × Addr)))
 | [],acc,_=>by simp
 | (n,kd) :: r,acc,h=>by
  rw[List.forIn_cons]
  by_cases hk:(kd == NameKind.free)=true
  ·obtain ⟨c,hc⟩:=h (n,kd) List.mem_cons_self (by simpa using hk)
   have e1:cellOf env n=pure c:=by unfold cellOf;rw[hc]
   have ih:=ZeE r ((n,c) :: acc) fun y hy=>h y (List.mem_cons_of_mem _ hy)
   simp only[hk,if_true,e1,pure_bind];refine Eq.trans ih ?_
   simp[List.filter_cons,hk,hc]
  ·have ih:=ZeE r acc fun y hy=>h y (List.mem_cons_of_mem _ hy)
   simp only[hk,if_false,pure_bind];refine Eq.trans ih ?_
   simp[List.filter_cons,hk]
noncomputable def clF (scope:Scope)(env:Env):List (Str × Addr):=((scope.names.filter fun y=>y.2 == .free).map fun y=>(y.1,(env.cells.lookup y.1).getD 0)).reverse
theorem Zc3 {env:Env}: ∀ {l:List (Str × NameKind)} {x:Str} {c:Addr},(l.map fun y=>(y.1,(env.cells.lookup y.1).getD 0)).lookup x=some c->c=(env.cells.lookup x).getD 0/\ ∃ y∈l,y.1=x
 | [],x,c,h=>by simp at h
 |y :: r,x,c,h=>by
  rw[List.map_cons,List.lookup_cons] at h;cases e:x == y.1 with
  |true=>
   rw[e] at h;have ex:x=y.1:=by simpa using e
   cases h
   exact ⟨by rw[ex],y,List.mem_cons_self,ex.symm⟩
  |false=>
   rw[e] at h;obtain ⟨h1,z,h2,h3⟩:=Zc3 h
   exact ⟨h1,z,List.mem_cons_of_mem _ h2,h3⟩
theorem Zbz {α:Type}: ∀ {l:List (Str × α)} {x:Str},(∃ y∈l,y.1=x)-> ∃ c,l.lookup x=some c
 | [],x,h=>by obtain ⟨y,h1,_⟩:=h;simp at h1
 |z :: r,x,h=>by
  rw[List.lookup_cons];cases e:x == z.1 with
  |true=>exact ⟨_,rfl⟩
  |false=>
   obtain ⟨y,h1,h2⟩:=h
   rcases List.mem_cons.mp h1 with q | q
   ·subst q;rw[h2] at e;simp at e
   ·exact Zbz ⟨y,q,h2⟩
theorem Zae {env:Env}(nc: ∀ n,env.scope.names.lookup n=env.kindOf n): ∀ {names:List (Str × NameKind)} {x:Str} {kd:NameKind},(names.map fun (n,k)=>if (k == NameKind.free && env.scope.kind == .function && env.kindOf n == some .cell) then (n,NameKind.cell) else (n,k)).lookup x=some kd->
  names.lookup x=some kd\/(names.lookup x=some .free/\kd= .cell)
 | [],x,kd,h=>by simp at h
 | (n,q) :: r,x,kd,h=>by
  rw[List.map_cons,List.lookup_cons] at h;rw[List.lookup_cons];dsimp only at h ⊢
  by_cases c:(q == NameKind.free && env.scope.kind == .function && env.kindOf n == some .cell)=true
  ·rw[if_pos c] at h
   dsimp only at h;cases e:x == n with
   |true=>
    rw[e] at h;cases h
    simp only[Bool.and_eq_true,beq_iff_eq] at c;exact .inr ⟨by rw[c.1.1],rfl⟩
   |false=>rw[e] at h;exact Zae nc h
  ·rw[if_neg c] at h
   dsimp only at h;cases e:x == n with
   |true=>rw[e] at h;exact .inl h
   |false=>rw[e] at h;exact Zae nc h
theorem Za3 {env:Env}: ∀ {names:List (Str × NameKind)} {x:Str},names.lookup x=some .free->(∃ kd,(kd=NameKind.cell\/kd=NameKind.free)/\(names.map fun (n,k)=>if (k == NameKind.free && env.scope.kind == .function && env.kindOf n == some .cell) then (n,NameKind.cell) else (n,k)).lookup x=some kd)
 | [],x,h=>by simp at h
 | (n,q) :: r,x,h=>by
  rw[List.lookup_cons] at h;rw[List.map_cons,List.lookup_cons]
  by_cases c:(q == NameKind.free && env.scope.kind == .function && env.kindOf n == some .cell)=true
  ·dsimp only
   rw[if_pos c];cases e:x == n with
   |true=>exact ⟨_,.inl rfl,rfl⟩
   |false=>rw[e] at h;exact Za3 h
  ·dsimp only
   rw[if_neg c];cases e:x == n with
   |true=>rw[e] at h;exact ⟨q,.inr (Option.some.inj h),rfl⟩
   |false=>rw[e] at h;exact Za3 h
noncomputable def ZsS (XN N:List Str)(dn sn:List (Str × NameKind))(k:Nat)(fr:List Nat):Bool:=
 (sn.all fun y=>y.2 != .cell && (y.2 != .free || dn.lookup y.1 == some .cell) && (y.2 != .local || sn.lookup y.1 == some .local)) && N.length == k + fr.length &&
  (List.range fr.length).all fun j=>match fr[j]? with
   |some i=>(match N[k + j]?,XN[i]? with | some x,some y=>x == y && dn.lookup x == some .cell && sn.lookup x == some .free | _,_=>false)
   |none=>false
theorem Zkd {X:Cx}{scope:Scope}{N:List Str}{k n:Nat}{fr:List Nat}{XN:List Str}{dn:List (Str × NameKind)}(hN:X.N=XN)(hd:X.env.scope.names=dn)(hc:X.env.cells=cellsFrom n dn [])(hk:scope.kind= .function)(h:ZsS XN N dn scope.names k fr=true):Blk X scope (clF scope X.env) N k fr:=by
 unfold ZsS at h;simp only[Bool.and_eq_true,List.all_eq_true,bne_iff_ne,ne_eq,Bool.or_eq_true,beq_iff_eq] at h;obtain ⟨⟨h1,h2⟩,h3⟩:=h
 have kind: ∀ x,X.env.kindOf x=dn.lookup x:=fun x=>by rw[<- hd];rfl
 have cel: ∀ x,dn.lookup x=some .cell-> ∃ c,X.env.cells.lookup x=some c:=fun x e=>by
  have:=PySem.W.cellsFrom_some dn n [] (.inl e)
  rw[hc];exact Option.isSome_iff_exists.mp this
 have frc: ∀ y∈scope.names,y.2= .free-> ∃ c,X.env.cells.lookup y.1=some c:=fun y hy e=>by
  rcases (h1 y hy).1.2 with z | z
  ·exact absurd e z
  ·exact cel _ z
 have sub: ∀ x c,(clF scope X.env).lookup x=some c->X.env.cells.lookup x=some c:=fun x c e=>by
  unfold clF at e;rw[<- List.map_reverse] at e;obtain ⟨e1,y,e2,e3⟩:=Zc3 e
  have e4:=List.mem_filter.mp (List.mem_reverse.mp e2)
  obtain ⟨c',g⟩:=frc y e4.1 (by simpa using e4.2)
  rw[e3] at g;rw[g] at e1 ⊢;rw[e1];rfl
 have has: ∀ x,scope.names.lookup x=some .free-> ∃ c,(clF scope X.env).lookup x=some c:=fun x e=>by
  refine Zbz ?_
  have m:=PySem.mem_of_lookup e
  exact ⟨(x,(X.env.cells.lookup x).getD 0),List.mem_reverse.mpr (List.mem_map.mpr ⟨(x,.free),List.mem_filter.mpr ⟨m,by simp⟩,rfl⟩),rfl⟩
 refine ⟨?_,hk,fun y hy=>(h1 y hy).1.1,fun y hy e=> ?_,sub,fun x z=> ?_,h2,fun j i e=> ?_⟩
 ·have:=ZeE (env:=X.env) scope.names [] frc
  rw[List.append_nil] at this;unfold closureFor;exact (congrArg (fun (m:Sem (List (Str × Addr)))=>m >>= fun cs=>(pure cs:Sem (List (Str × Addr)))) this).trans (pure_bind _ _)
 ·rcases (h1 y hy).2 with z | z
  ·exact absurd e z
  ·exact z
 ·have nc: ∀ m,X.env.scope.names.lookup m=X.env.kindOf m:=fun m=>rfl
  refine has x ?_
  rcases z with z | z
  ·rcases Zae nc z with q | q
   ·exact absurd rfl (h1 _ (PySem.mem_of_lookup q)).1.1
   ·exact q.1
  ·rcases Zae nc z with q | q
   ·exact q
   ·cases q.2
 ·have hj:j < fr.length:=(List.getElem?_eq_some_iff.mp e).1
  have q:=h3 j (List.mem_range.mpr hj)
  rw[e] at q;dsimp only at q;cases e1:N[k + j]? with
  |none=>rw[e1] at q;cases q
  |some x=>
   cases e2:XN[i]? with
   |none=>rw[e1,e2] at q;cases q
   |some y=>
    rw[e1,e2] at q;simp only[Bool.and_eq_true,beq_iff_eq] at q;obtain ⟨⟨q1,q2⟩,q3⟩:=q
    subst q1;obtain ⟨kd,r1,r2⟩:=Za3 (env:=X.env) q3
    obtain ⟨c,r3⟩:=has x q3
    refine ⟨x,rfl,by rw[hN];exact e2,by rw[kind];exact q2,?_,r3.trans (sub x c r3).symm⟩
    rcases r1 with r1 | r1
    ·exact .inl (r1 ▸ r2)
    ·exact .inr (r1 ▸ r2)
section
variable {X:Cx}{ξ:XK}
def Zb4:List D->Option (List Bool)
 | []=>some []
 | .bl b :: r=>match Zb4 r with | some bs=>some (b :: bs) | none=>none
 |_ :: _=>none
def ZsT:W3:=fun ds M=>match ds with
 | [.ref n]=>(match M[n]? with | some (.lst xs)=>(match Zb4 xs with | some bs=> .ok (.bl (bs.all id)) M | none=> .bad) | none=> .bad)
 |_=> .bad
end
section
variable {prog:Program}{w:World}{A:Around}{E:Vp}{s:Shared}
theorem Zdl {α β:Type}{f g:α->Option β}: ∀ {l:List α},(∀ m∈l,f m=g m)->l.filterMap f=l.filterMap g
 | [],_=>rfl
 |x :: r,h=>by
  rw[List.filterMap_cons,List.filterMap_cons,h x List.mem_cons_self,Zdl fun m hm=>h m (List.mem_cons_of_mem _ hm)]
theorem Zjc (xs:Array Value):((List.range xs.size).filterMap fun (m:Nat)=>xs[((xs.size:Int) - 1 + (m:Int) * (-1)).toNat]?).toArray=xs.toList.reverse.toArray:=by
 congr 1
 apply List.ext_getElem?
 intro i;have all:(List.range xs.size).filterMap (fun (m:Nat)=>xs[((xs.size:Int) - 1 + (m:Int) * (-1)).toNat]?)=(List.range xs.size).map fun m=>xs[xs.size - 1 - m]?.getD .none:=by
  rw[<- List.filterMap_eq_map];refine Zdl fun m hm=> ?_
  have hm':=List.mem_range.mp hm
  have e:((xs.size:Int) - 1 + (m:Int) * (-1)).toNat=xs.size - 1 - m:=by lia
  rw[e];have hlt:xs.size - 1 - m < xs.size:=by lia
  simp[hlt]
 rw[all]
 by_cases hi:i < xs.size
 ·have hlt:xs.size - 1 - i < xs.size:=by lia
  rw[List.getElem?_map,List.getElem?_range hi,List.getElem?_reverse (by simpa using hi)]
  simp[hlt]
 ·rw[List.getElem?_eq_none (by simpa using hi),List.getElem?_eq_none (by simpa using hi)]
end
section
variable {X:Cx}{ξ:XK}{e:Expr}{f:Ev}{p2 p3 p4 pos:Pos}{j:Nat}
theorem Reps.rev {K:Fg}{H:Hp}{α:List Addr}: ∀ {vs:List V} {ds:List D},Reps K H α vs ds->Reps K H α vs.reverse ds.reverse
 |_,_,.nil=> .nil
 |_,_,.cons r t=>by
  rw[List.reverse_cons,List.reverse_cons];exact (Reps.rev t).append (.cons r .nil)
end
end DL
end
section
namespace DL
open PyProof.Rows L2
section
variable {X:Cx}{ξ:XK}
end
end DL
end
section
namespace DL
open PyProof.Rows L2
section
variable {M:Model}{A:Around}{E:Vp}{s:Shared}
end
section
variable {X:Cx}{ξ:XK}{tg iter elt:Expr}{ifs:List Expr}{scope:Scope}{cl:List (Str × Addr)}{N:List Str}{k:Nat}{fr:List Nat}{fi:Ro->Sto->Out Src}{gt:Tg}{c:Tv}{f:Ev}{pos:Pos}
end
section
variable {X:Cx}{scope0:Scope}{cl0:List (Str × Addr)}{N0:List Str}{k0:Nat}{fr0:List Nat}{C:Addr}{fp:List Addr}{s:Shared}{H:Hp}{scope:Scope}{N:List Str}{k:Nat}{fr:List Nat}{dn:List (Str × NameKind)}
end
end DL
end
section
namespace DL
open PyProof.Rows L2
open PySem.W (nsIn excIn tailIn nsOkIn mroIn clsIn typeIn findIn specialIn takesIn kitOne Looks)
noncomputable abbrev bmV:List Value:=[.type "ValueError",.type "Exception",.type "BaseException",.type "object"]
noncomputable def Zjd (K:Fg)(c:Str):Option Addr:=match nsIn K mainGlobals c with | some (some (.ref C))=>some C | _=>none
theorem Zfn {K:Fg}{c:Str}{C:Addr}(h:Zjd K c=some C):nsIn K mainGlobals c=some (some (.ref C)):=by
 unfold Zjd at h
 split at h
 ·rename_i C' e;cases h;exact e
 ·cases h
def ZmG (K:Fg)(c:Str):Bool:=match Zjd K c with
 |some C=>excIn K C bmV "ValueError.__new__" && findIn K (.ref C) "__getattribute__" == some (some (.builtin "BaseException.__getattribute__")) && findIn K (.ref C) "__getattr__" == some none && findIn K (.ref C) "__class__" == some (some (.builtin "object.__class__")) &&
  specialIn K (.builtin "object.__class__") "__get__" == some (some (.builtin "getset_descriptor.__get__")) && takesIn K (.builtin "object.__class__") == some true && mroIn K C (.type "BaseException") == some true && mroIn K C (.type "object") == some true && (clsIn K C).isSome
 |none=>false
def ZnN (K:Fg)(c:Str):Bool:=match Zjd K c with
 |some C=>findIn K (.ref C) "__getattribute__" == some (some (.builtin "BaseException.__getattribute__")) && findIn K (.ref C) "__getattr__" == some none && findIn K (.ref C) "__class__" == some (some (.builtin "object.__class__")) &&
  specialIn K (.builtin "object.__class__") "__get__" == some (some (.builtin "getset_descriptor.__get__")) && takesIn K (.builtin "object.__class__") == some true && mroIn K C (.type "BaseException") == some true && mroIn K C (.type "object") == some true && (clsIn K C).isSome
 |none=>false
theorem Zqe {K:Fg}{c:Str}(h:ZnN K c=true): ∃ C,nsIn K mainGlobals c=some (some (.ref C))/\DQ.ExcC K C:=by
 unfold ZnN at h
 split at h
 ·rename_i C e
  simp only[Bool.and_eq_true,beq_iff_eq] at h;obtain ⟨⟨⟨⟨⟨⟨⟨h2,h3⟩,h4⟩,h5⟩,h6⟩,h7⟩,h8⟩,h9⟩:=h
  exact ⟨C,Zfn e,h2,h3,h4,h5,h6,h7,h8,h9⟩
 ·cases h
theorem Zlr {K:Fg}{c:Str}(h:ZmG K c=true): ∃ C,nsIn K mainGlobals c=some (some (.ref C))/\excIn K C bmV "ValueError.__new__"=true/\DQ.ExcC K C:=by
 unfold ZmG at h
 split at h
 ·rename_i C e
  simp only[Bool.and_eq_true,beq_iff_eq] at h;obtain ⟨⟨⟨⟨⟨⟨⟨⟨h1,h2⟩,h3⟩,h4⟩,h5⟩,h6⟩,h7⟩,h8⟩,h9⟩:=h
  exact ⟨C,Zfn e,h1,h2,h3,h4,h5,h6,h7,h8,h9⟩
 ·cases h
theorem Zls {K:Fg}{h:Heap}{C:Addr}{bmB:List Value}{newId:String}(X:K.In h)(q:excIn K C bmB newId=true):
  ∃ bm N nm q bs hdct sn sub ab col dd k0 k1 k2 k3 k5 mN,h.get? C=some (excClassObj nm q C N bs bm hdct sn sub ab col dd k0 k1 k2 k3 k5 newId)/\h.Ns N mN/\mN "__init__"=none/\OwnTail h bmB bm:=by
 unfold excIn at q
 split at q
 ·rename_i dd cd sl ho
  split at q
  ·rename_i C' bm k0 k1 k2 k3 n k5 hm hs
   simp only[Bool.and_eq_true,beq_iff_eq,Bool.not_eq_true'] at q;obtain ⟨⟨⟨⟨⟨rfl,rfl⟩,hdel⟩,ht⟩,hok⟩,hni⟩:=q
   obtain ⟨nm,bs,mro,ns,qn,hd,sn,sub,ab,col,del⟩:=cd
   dsimp only at hm hdel hok hni;subst hm hdel;obtain ⟨l⟩:=sl
   simp only at hs
   subst hs;exact ⟨bm,ns,nm,qn,bs,hd,sn,sub,ab,col,dd,k0,k1,k2,k3,k5,_,X _ _ ho,.of_isNs (PySem.W.isNs_of_in X hok),PySem.W.nsMap_none_of_in X hok hni,PySem.W.tail_of_in X ht⟩
  ·cases q
 ·cases q
def ZsU (tab:List (Str × Bool))(f:Ev):Ev:=fun ρ M=>(f ρ M).bind fun x M1=>match x with | .err c _=>(match tab.lookup c with | some b=> .ok (.bl b) M1 | none=> .bad) | _=> .bad
section
variable {X:Cx}{ξ:XK}{e:Expr}{fa:Ev}{p pos:Pos}{tab:List (Str × Bool)}
theorem ZnO {P:Program}{w:World}{H:Hp}{h:Heap}{e:Addr}(k:HOk P w H h)(hn:h.get? e=none):H e=none:=by
 cases z:H e with
 |none=>rfl
 |some u=>obtain ⟨o,g⟩:=Zff (k e u z);rw[hn] at g;cases g
def Zb5 (c:Str)(fs:Av):Sv:=fun ρ M=>Zaq (fs ρ M) fun ds M1=>if ds.length<=1000 then .exc c M1 else .bad
theorem Zdm {x:Str}{np cpos:Pos}{a:Expr}{as:List Expr}{fs:Av}(T:Thr X ξ)(hx:ZmG X.K x=true)(gl: ∀ c v,nsIn X.K mainGlobals c=some (some v)->X.mg c=some v)(hh:X.A.handled=none)(ha:DA X ξ (a :: as) fs)(hg:Gl X x:=by rfl)(hdb:(x == ("__debug__":Str))=false:=by decide)(hf:Zi0 x=false:=by decide)
  (he:starEach (a :: as) X.env=(false,eval a X.env) :: starEach as X.env:=by rfl) (hpl:(backTo cpos (starEach as X.env)).any (·.1)=false:=by rfl):DS X ξ (.Raise (some (.Call (.Name x np) (a :: as) [] cpos)) none pos) (Zb5 x fs):=by
 obtain ⟨ta,pa,qa⟩:=ha
 obtain ⟨C,hC,hq,_⟩:=Zlr hx
 refine ⟨fun Dn σ H=>ta σ H fun vs H1=>vs.length<=sizeLine/\ξ (.ref C) none H1,fun pins s σ H Dn I h=> ?_,fun σ ρ H α M Dn s h q=> ?_⟩
 ·obtain ⟨tl,N,nm,q,bs,hdct,sn,sub,ab,col,dd,k0,k1,k2,k3,k5,mN,gC,hN,hni,TL⟩:=Zls I.ok.mod.kin hq
  refine wpAny_Raise_call_subT (C:=C) (nm:=nm) (q:=q) (N:=N) (bs:=bs) (bm:=tl) (hdct:=hdct) (sn:=sn) (sub:=sub) (ab:=ab) (col:=col) (dd:=dd) (k0:=k0) (k1:=k1) (k2:=k2) (k3:=k3) (k5:=k5) F.excBase_ValueError (mN:=mN)
   (TL.hasType F.excBase_ValueError.hasBase) hh (by rw[he];show (false || (backTo cpos (starEach as X.env)).any (·.1))=false;rw[hpl];rfl) hni (Zgx I hg (gl x _ hC) ⟨rfl,?_⟩ hdb)
  have hs:=pa cpos pins s σ H _ I h
  rw[he] at hs ⊢;refine Calls.evalArgs_plain (wpAny_mono hs (fun us s2 ⟨vs,H1,I1,r1,z1,z2⟩=>⟨rfl,by rw[<- r1.length];exact z1,I1.bk _ _ gC,hN.keeps I1.bk,TL.keeps I1.bk,fun h' e m=> ?_⟩) fun _ _ y=>y)
  obtain ⟨t,g1,g2,g3⟩:=m.there
  exact T.mak pins σ H1 H1 s2 { s2 with heap:=h' } e _ _ C I1 rfl I1.bare (Un.kept m.keeps) (I1.hok.kept m.keeps) m.new g1 rfl rfl rfl rfl (ZnO I1.hok m.new) z2
 ·refine qa σ ρ H α M _ s h (FP.seq q fun ds M1 vs H1 α1 e1 h1 r1 w1=> ?_)
  by_cases hl:ds.length<=1000
  ·rw[if_pos hl] at w1
   exact ⟨by rw[r1.length];exact Zli hl,w1 C H1 α1 hC Ext.refl none (.inl ⟨hf,h1,rfl⟩)⟩
  ·rw[if_neg hl] at w1
   exact w1.elim
end
end DL
end
section
namespace DL
open PyProof.Rows L2
open PySem.W (nsIn excIn tailIn nsOkIn mroIn clsIn typeIn findIn specialIn takesIn kitOne Looks looks_mroIn looks_typeIn)
section
variable {X:Cx}{pins pins' pn:Pn}{σ:L2.St}{H H':Hp}{s:Shared}{xe:Vp}{e:Addr}
end
noncomputable def kpR:List Bool->Ro->Ro
 |b :: m,x :: r=>(bif b then none else x) :: kpR m r
 |_,[]=>[]
 | [],_ :: r=>none :: kpR [] r
def fsE (c:Str)(M:Sto):List D:=if Zi0 c=true then (match M.getLast? with | some (.lst xs)=>xs | none=>[]) else []
def stE (c:Str)(M:Sto):Sto:=if Zi0 c=true then M.dropLast else M
theorem ZbA {c:Str}{M:Sto}(h:Zi0 c=false):fsE c M=[]:=by unfold fsE;rw[h];rfl
theorem Zbo {c:Str}{M:Sto}(h:Zi0 c=false):stE c M=M:=by unfold stE;rw[h];rfl
theorem ZqL {c:Str}{M:Sto}{ds:List D}(h:Zi0 c=true):fsE c (M ++ [.lst ds])=ds:=by unfold fsE;rw[if_pos h,List.getLast?_concat]
theorem ZnP {c:Str}{M:Sto}{ds:List D}(h:Zi0 c=true):stE c (M ++ [.lst ds])=M:=by unfold stE;rw[if_pos h,List.dropLast_concat]
theorem XO.hr {K:Fg}{H:Hp}{α:List Addr}{c:Str}{M:Sto}{dct:Option Addr}(h:XO K H α c M dct):HR K H α (stE c M):=by
 rcases h with ⟨h1,h2,_⟩ | ⟨h1,M0,ds,dx,fs,rfl,h2,_⟩
 ·rw[Zbo h1];exact h2
 ·rw[ZnP h1];exact h2
def ZsV (gb:Sv)(cs:List Str)(W:List Bool)(i:Nat)(gh:Sv):Sv:=fun ρ M=>match gb ρ M with
 | .exc c M1=>if cs.contains c=true then (match gh ((kpR W ρ).set i (some (.err c (fsE c M1)))) (stE c M1) with
  | .ret d M2=> .ret d M2
  | .nx _ M2=> .nx (List.replicate ρ.length none) M2
  |_=> .bad) else .bad
 |o=>o
section
variable {X:Cx}{ξ:XK}{d n:Str}{cs:List Str}{i:Nat}{body suite:List Stmt}{b0:Stmt}{gb gh:Sv}{pos hpos np:Pos}
end
theorem Zr {k:Nat}{A:Around}{env:Env}(hr:Room k (A.deeper env))(h:100<=k):A.handled.isNone=true:=by
 have e:A.handled=none:=hr.hd h
 rw[e];rfl
end DL
end
section
namespace DL
open PyProof.Rows L2
abbrev Me:=D->List D->Sto->Out D
def MO (X:Cx)(ξ:XK)(r:V->List V->Hp->VK->Prop)(g:Me):Prop:= ∀ H α M v vs x ds Q,HR X.K H α M->Rep X.K H α v x->Reps X.K H α vs ds->OP X.K H α ξ Q (g x ds M)->r v vs H Q
theorem HR.wrE {K:Fg}{H:Hp}{α:List Addr}{M:Sto}{n:Nat}{p:Addr}{xs ys:List V}{ds:List D}(h:HR K H α M)(e:RefK H α 0 n p)(hp:H p=some (.lst ys))(r:Reps K H α xs ds):Ext K H (upd H p (.lst xs)) α α/\HR K (upd H p (.lst xs)) α (M.set n (.lst ds)):=
 ⟨Ext.wr hp,h.wr e hp r⟩
section
variable {X:Cx}{ξ:XK}{o e:Expr}{es:List Expr}{fo fa:Ev}{fs:Av}{name:Str}{apos cpos pos:Pos}{T id:String}{r:V->List V->Hp->VK->Prop}{g:Me}
noncomputable def Zlt (x:D)(M:Sto):Bool:=match x with | .ref n=>M[n]?.isSome | _=>false
def Zgm (g:Me)(fo:Ev)(fs:Av):Ev:=fun ρ M=>(fo ρ M).bind fun x M1=>if Zlt x M1=true then (fs ρ M1).bind fun ds M2=>g x ds M2 else .bad
theorem Zlu {K:Fg}{H:Hp}{α:List Addr}{M:Sto}{v:V}{x:D}(h:HR K H α M)(rx:Rep K H α v x)(k:Zlt x M=true):tyV K "list" v H:=by
 cases rx with
 | @ref p n hp=>
  obtain ⟨xs,g⟩:=h.some_at hp
  exact .inl ⟨rfl,_,SqL.of g⟩
 |_=>cases k
theorem Zlv (slot:Slot "list" name id)(hty:typeOf (.builtin id)=pure (.type "method_descriptor"))(hm:MtR X id r)(hf:MO X ξ r g)(ho:DE X ξ o fo)(ha:DA X ξ (e :: es) fs)
  (hbase:attributeBase o name X.env (eval o X.env)=eval o X.env:=by rfl)
  (hfew:((backTo cpos (starEach (e :: es) X.env)).all (fun x=> !x.1) && (backToKw cpos (keywordEach [] X.env)).all (fun x=>x.1.isSome)
   && decide ((e :: es).length + ([]:List Keyword).length + (if ([]:List Keyword).isEmpty then 0 else 1) < 30))=true:=by rfl)
  (hline:(apos.endLine == cpos.line)=true:=by rfl) (hs:starEach (e :: es) X.env=(false,eval e X.env) :: starEach es X.env:=by rfl) (hplain:(backTo cpos (starEach es X.env)).any (·.1)=false:=by rfl):
  DE X ξ (.Call (.Attribute o name apos) (e :: es) [] cpos) (Zgm g fo fs):=by
 obtain ⟨to,po,qo⟩:=ho
 obtain ⟨ta,pa,qa⟩:=ha
 refine ⟨_,Zqy PySem.F.plainAttrs_list slot hty hm po pa hbase hfew hline hs hplain,fun σ ρ H α M Q s h q=> ?_⟩
 refine qo σ ρ H α M _ s h (OG.seq q fun x M1 v H1 α1 e1 h1 r1 q1=> ?_)
 by_cases k:Zlt x M1=true
 ·rw[if_pos k] at q1
  exact ⟨Zlu h1 r1 k,qa σ ρ H1 α1 M1 _ (s.mono e1) h1 (OG.seq q1 fun ds M2 vs H2 α2 e2 h2 r2 q2=>hf H2 α2 M2 v vs x ds Q h2 (Rep.mono e2 r1) r2 q2)⟩
 ·rw[if_neg k] at q1
  exact q1.elim
noncomputable def mApp:Me:=fun x ds M=>match x,ds with
 | .ref n,[d]=>(match M[n]? with | some (.lst xs)=>if xs.length < 10000000 then .ok .non (M.set n (.lst (xs ++ [d]))) else .bad | none=> .bad)
 |_,_=> .bad
theorem ZnQ:MO X ξ rAppend mApp:=by
 intro H α M v vs x ds Q h rx rs q;cases rx with
 | @ref p n hp=>
  match rs with
  | .nil=>exact q.elim
  | .cons _ (.cons _ _)=>exact q.elim
  | .cons (v:=u) (d:=d) ru .nil=>
   cases em:M[n]? with
   |none=>simp only[mApp,em] at q;exact q.elim
   |some so=>
    cases so with
    |lst es=>
     obtain ⟨xs,g1,g2⟩:=h.at hp em
     by_cases c:es.length < 10000000
     ·simp only[mApp,em,if_pos c] at q
      obtain ⟨k1,k2⟩:=h.wrE hp g1 (g2.append (.cons ru .nil))
      exact ⟨p,xs,u,rfl,rfl,g1,by rw[g2.length];exact Nat.lt_of_lt_of_le c (by decide),q _ _ α k1 k2 .non⟩
     ·simp only[mApp,em,if_neg c] at q
      exact q.elim
 |_=>cases rs<;>exact q.elim
noncomputable def ZsW:Me:=fun x ds M=>match x,ds with
 | .ref n,[]=>(match M[n]? with | some (.lst _)=> .ok .non (M.set n (.lst [])) | none=> .bad)
 |_,_=> .bad
noncomputable def mExt:Me:=fun x ds M=>match x,ds with
 | .ref n,[.ref m]=>(match M[n]?,M[m]? with | some (.lst xs),some (.lst ys)=>if xs.length + ys.length<=10000000 then .ok .non (M.set n (.lst (xs ++ ys))) else .bad | _,_=> .bad)
 |_,_=> .bad
theorem Zhd {x:D}{l:List D}{M:Sto}(h:mExt x l M≠ .bad): ∃ n m,x= .ref n/\l=[.ref m]:=by
 unfold mExt at h
 split at h
 ·rename_i n m;exact ⟨n,m,rfl,rfl⟩
 ·exact absurd rfl h
theorem ZnR:MO X ξ rExtend mExt:=by
 intro H α M v vs x ds Q h rx rs q;obtain ⟨n,m,rfl,rfl⟩:=Zhd (x:=x) (l:=ds) (M:=M) fun z=>by rw[z] at q;exact q.elim
 cases rx with
 | @ref p n hp=>
 cases rs with
 |cons ru rs=>
 cases rs
 cases ru with
 | @ref p2 m hp2=>
 cases em:M[n]? with
 |none=>simp only[mExt,em] at q;exact q.elim
 |some so=>
 cases em2:M[m]? with
 |none=>cases so;simp only[mExt,em,em2] at q;exact q.elim
 |some so2=>
 cases so with
 |lst es=>
 cases so2 with
 |lst es2=>
 obtain ⟨xs,g1,g2⟩:=h.at hp em
 obtain ⟨ys,g3,g4⟩:=h.at hp2 em2
 by_cases c:es.length + es2.length<=10000000
 ·simp only[mExt,em,em2,if_pos c] at q
  obtain ⟨k1,k2⟩:=h.wrE hp g1 (g2.append g4)
  exact ⟨p,p2,xs,ys,rfl,rfl,g1,g3,by rw[g2.length,g4.length];exact Nat.le_trans c (by decide),q _ _ α k1 k2 .non⟩
 ·simp only[mExt,em,em2,if_neg c] at q
  exact q.elim
theorem Zcv (ho:DE X ξ o fo)(ha:DE X ξ e fa)(hbase:attributeBase o "append" X.env (eval o X.env)=eval o X.env:=by rfl)
  (hfew:((backTo cpos (starEach [e] X.env)).all (fun x=> !x.1) && (backToKw cpos (keywordEach [] X.env)).all (fun x=>x.1.isSome)
   && decide ([e].length + ([]:List Keyword).length + (if ([]:List Keyword).isEmpty then 0 else 1) < 30))=true:=by rfl)
  (hline:(apos.endLine == cpos.line)=true:=by rfl) (hs:starEach [e] X.env=(false,eval e X.env) :: starEach [] X.env:=by rfl) (hplain:(backTo cpos (starEach [] X.env)).any (·.1)=false:=by rfl):
  DE X ξ (.Call (.Attribute o "append" apos) [e] [] cpos) (Zgm mApp fo (Zc fa aNil)):=Zlv PySem.F.slot_list_append PySem.F.type_list_append ZdP ZnQ ho (Za ha Zd hs) hbase hfew hline hs hplain
def DO (X:Cx)(ξ:XK)(e:Option Expr)(f:Ro->Sto->Out (Option Int)):Prop:= ∃ t:TO,PO X e t/\ ∀ σ ρ H α M (Q:Option Int->Hp->Prop),SR X.K H α σ ρ->HR X.K H α M->OG X.K (fun _ _ v d=>v=d) H α ξ Q (f ρ M)->t σ H Q
noncomputable def oNo:Ro->Sto->Out (Option Int):=fun _ M=> .ok none M
def oSo (f:Ev):Ro->Sto->Out (Option Int):=fun ρ M=>(f ρ M).bind fun x M1=>match x with | .int i=> .ok (some i) M1 | _=> .bad
theorem ZaP:DO X ξ none oNo:=⟨_,Zk3,fun σ ρ H α M Q s h q=>q none H α Ext.refl h rfl⟩
theorem ZaQ (ha:DE X ξ e fa):DO X ξ (some e) (oSo fa):=by
 obtain ⟨ta,pa,qa⟩:=ha
 refine ⟨_,Zk4 pa,fun σ ρ H α M Q s h q=> ?_⟩
 refine qa σ ρ H α M _ s h (OG.seq q fun x M1 v H1 α1 e1 h1 r1 q1=> ?_)
 cases r1 with
 |int i=>exact ⟨i,rfl,q1 (some i) H1 α1 Ext.refl h1 rfl⟩
 |_=>exact q1.elim
def ZeF (xs:List D)(lo hi:Option Int):List D:=(xs.drop (HT.sIx xs.length 0 lo)).take (HT.sIx xs.length xs.length hi - HT.sIx xs.length 0 lo)
theorem Reps.drop {K:Fg}{H:Hp}{α:List Addr}: ∀ (n:Nat) {vs:List V} {ds:List D},Reps K H α vs ds->Reps K H α (vs.drop n) (ds.drop n)
 |0,_,_,h=>h
 |_ + 1,_,_,.nil=> .nil
 |n + 1,_,_,.cons _ t=>Reps.drop n t
theorem Reps.take {K:Fg}{H:Hp}{α:List Addr}: ∀ (n:Nat) {vs:List V} {ds:List D},Reps K H α vs ds->Reps K H α (vs.take n) (ds.take n)
 |0,_,_,_=> .nil
 |_ + 1,_,_,.nil=> .nil
 |n + 1,_,_,.cons r t=> .cons r (Reps.take n t)
theorem Reps.cut {K:Fg}{H:Hp}{α:List Addr}{vs:List V}{ds:List D}(r:Reps K H α vs ds)(lo hi:Option Int):Reps K H α (Zj2 vs lo hi) (ZeF ds lo hi):=by
 unfold Zj2 ZeF;rw[r.length];exact (r.drop _).take _
def eSl (f:Ev)(lo hi:Ro->Sto->Out (Option Int)):Ev:=fun ρ M=>(f ρ M).bind fun x M1=>(lo ρ M1).bind fun l M2=>(hi ρ M2).bind fun u M3=>match x with
 | .ref n=>(match M3[n]? with | some (.lst xs)=> .ok (.ref M3.length) (M3 ++ [.lst (ZeF xs l u)]) | none=> .bad)
 | .rol xs=> .ok (.ref M3.length) (M3 ++ [.lst (ZeF xs l u)])
 | .tup xs=>if HT.sIx xs.length 0 l=0/\HT.sIx xs.length xs.length u=xs.length then .bad else .ok (.tup (ZeF xs l u)) M3
 |_=> .bad
theorem ZaR {lo hi:Option Expr}{fl fh:Ro->Sto->Out (Option Int)}{p2:Pos}(he:DE X ξ e fa)(hl:DO X ξ lo fl)(hh:DO X ξ hi fh):DE X ξ (.Subscript e (.Slice lo hi none p2) pos) (eSl fa fl fh):=by
 obtain ⟨ta,pa,qa⟩:=he
 obtain ⟨tl,pl,ql⟩:=hl
 obtain ⟨th,ph,qh⟩:=hh
 refine ⟨_,ZiR (SlR.or Zk9 Zne) pa pl ph,fun σ ρ H α M Q s h q=> ?_⟩
 refine qa σ ρ H α M _ s h (OG.seq q fun x M1 v H1 α1 e1 h1 r1 q1=> ?_)
 refine ql σ ρ H1 α1 M1 _ (s.mono e1) h1 (OG.seq q1 fun l M2 l' H2 α2 e2 h2 r2 q2=> ?_)
 refine qh σ ρ H2 α2 M2 _ ((s.mono e1).mono e2) h2 (OG.seq q2 fun u M3 u' H3 α3 e3 h3 r3 q3=> ?_)
 cases r2
 cases r3
 cases Rep.mono e3 (Rep.mono e2 r1) with
 | @ref p n hp=>
  cases em:M3[n]? with
  |none=>simp only[em] at q3;exact q3.elim
  |some so=>
   cases so with
   |lst es=>
    simp only[em] at q3;obtain ⟨xs,g1,g2⟩:=h3.at hp em
    exact .inl ⟨p,xs,rfl,SqL.of g1,fun a ha=>q3 _ _ (α3 ++ [a]) (Ext.new ha) (h3.new ha (g2.cut l u)) (.ref ⟨h3.last a,Kn.lst Zy⟩)⟩
 | @rol p xs ds hp rp=>
  have q4:OP X.K H3 α3 ξ Q (.ok (.ref M3.length) (M3 ++ [.lst (ZeF ds l u)])):=q3
  exact .inl ⟨p,xs,rfl,hp.sq,fun a ha=>q4 _ _ (α3 ++ [a]) (Ext.new ha) (h3.new ha (rp.cut l u)) (.ref ⟨h3.last a,Kn.lst Zy⟩)⟩
 | @tup p xs ds hp rp=>
  by_cases c:HT.sIx ds.length 0 l=0/\HT.sIx ds.length ds.length u=ds.length
  ·simp only[if_pos c] at q3
   exact q3.elim
  ·simp only[if_neg c] at q3
   exact .inr ⟨p,xs,rfl,(SqT.of hp),by rw[rp.length];exact c,fun a ha=>q3 _ _ α3 (Ext.new0 ha) (h3.tup ha) (.tup Zy (Reps.mono (Ext.new0 ha) (rp.cut l u)))⟩
 |_=>exact q3.elim
def iR2 (fs:Av):Ro->Sto->Out Src:=fun ρ M=>(fs ρ M).bind fun ds M1=>match ds with
 | [.int i,.int j]=>if -(2 ^ 62)<=i/\i < 2 ^ 62/\ -(2 ^ 62)<=j/\j < 2 ^ 62 then .ok (.pur (Za0 i (j - i).toNat)) M1 else .bad
 |_=> .bad
end
def eRv (f:Ev):Ev:=fun ρ M=>(f ρ M).bind fun x M1=>match x with
 | .tup xs=> .ok (.tup xs.reverse) M1
 | .ref n=>(match M1[n]? with | some (.lst xs)=> .ok (.ref M1.length) (M1 ++ [.lst xs.reverse]) | none=> .bad)
 | .rol xs=> .ok (.ref M1.length) (M1 ++ [.lst xs.reverse])
 |_=> .bad
end DL
end
section
namespace DL
open PyProof.Rows L2
def Zfo (tg:Tg)(g:Sv)(src:Src):Nat->Nat->Ro->Sto->Fl
 |f,i,ρ,M=>match nxt src i M with
  |none=> .bad
  |some none=> .nx ρ M
  |some (some d)=>(match f with
   |0=> .bad
   |f + 1=>(match tg d ρ with
    |none=> .bad
    |some ρ1=>(match g ρ1 M with
     | .nx ρ2 M2=>Zfo tg g src f (i + 1) ρ2 M2
     | .cnt ρ2 M2=>Zfo tg g src f (i + 1) ρ2 M2
     | .brk ρ2 M2=> .nx ρ2 M2
     |o=>o)))
def Zdn (tg:Tg)(fi:Ro->Sto->Out Src)(g:Sv):Sv:=fun ρ M=>Zaq (fi ρ M) fun src M1=>Zfo tg g src (cnt src M1) 0 ρ M1
section
variable {X:Cx}{ξ:XK}{tg iter a b:Expr}{gt:Tg}{fi:Ro->Sto->Out Src}{g:Sv}{body:List Stmt}{f fa fb:Ev}{fs:Av}{p pos:Pos}
theorem ZeG (hp:PassesOwn (model X.prog X.w) X.A X.env X.xe)(hi:DI X ξ tg iter fi)(hg:DG X tg gt)(hb:DSs X ξ body g)(hf: ∀ x,foldedSetIterable iter X.env x=pure x:=by intro _;rfl):DS X ξ (.For tg iter body [] pos) (Zdn gt fi g):=by
 obtain ⟨wi,pi,qi⟩:=hi
 obtain ⟨tt,pt,qt⟩:=hg
 obtain ⟨tb,pb,qb⟩:=hb
 refine ⟨_,ZgA hp pi pt pb hf,fun σ ρ H α M Dn s hh w=>qi σ ρ H α M _ s hh (FP.seq w fun src M1 J H1 α1 e1 h1 sc w1=> ?_)⟩
 generalize eo:Zfo gt g src (cnt src M1) 0 ρ M1=o at w1;refine ⟨fun i m σ' H'=> ∃ ρ' α' M',Ext X.K H1 H' α1 α'/\SR X.K H' α' σ' ρ'/\HR X.K H' α' M'/\Zfo gt g src m i ρ' M'=o,⟨cnt src M1,ρ,α1,M1,Ext.refl,s.mono e1,h1,eo⟩,?_⟩
 rintro i m σ' H' ⟨ρ',α',M',ex,sr,hr,en⟩
 have s5:=sc i H' α' M' ex hr
 unfold Zfo at en;cases en1:nxt src i M' with
 |none=>rw[en1] at en;cases en;exact w1.elim
 |some od=>
  rw[en1] at en s5;cases od with
  |none=>cases en;exact .inl ⟨s5,w1 σ' H' α' ex hr sr⟩
  |some d=>
   obtain ⟨go,yl⟩:=s5
   cases m with
   |zero=>cases en;exact w1.elim
   |succ m=>
    simp only at en
    refine .inr ⟨go,fun σ2 H2=> ∃ ρ' α' M',Ext X.K H1 H2 α1 α'/\SR X.K H2 α' σ2 ρ'/\HR X.K H2 α' M'/\Zfo gt g src m (i + 1) ρ' M'=o,fun σ2 H2 z=>⟨m,Nat.lt_succ_self m,z⟩,fun x H2 y=> ?_⟩
    obtain ⟨ex7,hr7,rp7⟩:=yl x H2 y
    exact Zi9 (tg:=tg) w1 qt qb (ex.trans ex7) (sr.mono ex7) hr7 rp7 en (fun σ' H' z=>z)
end
theorem Zhe {X:Cx}{pins:Pn}{σ:L2.St}{H:Hp}{s:Shared}{h':Heap}{t':Nat}{ch:List Addr}(I:Inv X pins σ H s)(k: ∀ b o,b ∉ ch->s.heap.get? b=some o->h'.get? b=some o)(hf: ∀ b∈ch,ZcY X pins H b):Inv X pins σ H { s with heap:=h',toks:=t' }:=by
 have nit: ∀ b u,H b=some u->b ∉ ch:=fun b u e z=>by rw[(hf b z).1] at e;cases e
 have hL:X.env.locals ∉ ch:=fun z=>(hf _ z).2.1 rfl
 refine I.step (g':=s.gens) (d':=s.drawn) (ch:=ch) (fun b hb=> ?_) (fun b o _ _ hc e _=>k b o hc e) (fun b o _ _ hc e _=>⟨o.slots,k b o hc e⟩) (fun _ _ _ _ n=>n)
  (fun b o hc e=>⟨o,k b o hc e⟩) (fun _ _ e=>e) (fun _ _ _ e=>e) (fun b ps e=>⟨#[],by rw[e];simp⟩) (fun m hm=> ?_) (fun b u e=> ?_) I.bare
 ·obtain ⟨_,z1,_,z3,z4,z5⟩:=hf b hb
  exact ⟨z3,z1,z4,z5⟩
 ·obtain ⟨o,es,ep,ho,r⟩:=hm
  exact ⟨o,es,ep,k _ o hL ho,r⟩
 ·refine (I.hok b u e).stay (fun c v hc q=>k c v ?_ q) (fun _ q=>q) fun _ _ q=>q
  rcases hc with z | z
  ·rw[z];exact nit b u e
  ·exact nit c _ z
theorem Zke {X:Cx}{pins:Pn}{σ:L2.St}{H:Hp}{s:Shared}{h':Heap}{t':Nat}{ch:List Addr}{vs:List V}{us:List Value}(I:Inv X pins σ H s)(hf: ∀ b∈ch,ZcY X pins H b)(hlt: ∀ b∈ch,b < s.heap.objs.size)(rv:ZO vs us)(hz:vs.length<=sizeLine)
  (k: ∀ b o,b ∉ ch->s.heap.get? b=some o->h'.get? b=some o) (ht:h'.get? s.heap.objs.size=some { cls:= .type "tuple",data:= .seq us.toArray }):
  Inv X pins σ (upd H s.heap.objs.size (.tup vs)) { s with heap:=h',toks:=t' }/\H s.heap.objs.size=none/\ ∀ b∈ch,upd H s.heap.objs.size (.tup vs) b=none:=by
 have fr:H s.heap.objs.size=none:=I.hok.fresh (Nat.le_refl _)
 have hn: ∀ b∈ch,upd H s.heap.objs.size (.tup vs) b=none:=fun b hb=>by rw[ZF (Nat.ne_of_lt (hlt b hb))];exact (hf b hb).1
 have I1:Inv X pins σ (upd H s.heap.objs.size (.tup vs)) { s with heap:=s.heap.push { cls:= .type "tuple",data:= .seq us.toArray },toks:=t' }:=
  I.laid (t':=t') (o:= .tup vs) (fun _ _ q=>Hq _ q) (Nat.le_refl _) ⟨hz,us,rv,_,Heap.get?_push_size _ rfl,rfl,_,rfl⟩
 refine ⟨Zhe (s:={ s with heap:=s.heap.push { cls:= .type "tuple",data:= .seq us.toArray },toks:=t' }) (t':=t') (ch:=ch) I1 (fun b o hb e=> ?_) (fun b hb=>⟨hn b hb,(hf b hb).2⟩),fr,hn⟩
 by_cases c:b=s.heap.objs.size
 ·subst c
  have e':(s.heap.push { cls:= .type "tuple",data:= .seq us.toArray }).get? s.heap.objs.size=some o:=e
  rw[Heap.get?_push_size _ rfl] at e'
  cases e'
  exact ht
 ·refine k b o hb ?_
  have e':(s.heap.push { cls:= .type "tuple",data:= .seq us.toArray }).get? b=some o:=e
  have hl:b < s.heap.objs.size:=by
   have q:b < s.heap.objs.size + 1:=by
    have z:=Hz e'
    rwa [Heap.size_push] at z
   exact Nat.lt_of_le_of_ne (Nat.le_of_lt_succ q) c
  have q:(s.heap.push { cls:= .type "tuple",data:= .seq us.toArray }).get? b=s.heap.get? b:=by
   unfold Heap.get? Heap.push;simp only[Array.getElem?_push]
   rw[if_neg (Nat.ne_of_lt hl)]
  rwa [q] at e'
def Ite (K:Fg)(a:Addr):It:=
 ⟨fun i H=> ∃ xs x,SqL K H a xs/\xs[i]?=some x,fun i H y H'=> ∃ p,H p=none/\y= .ref p/\ ∀ xs x,SqL K H a xs->xs[i]?=some x->H'=upd H p (.tup [.int i,x]),fun i H=> ∃ xs,SqL K H a xs/\xs.length<=i⟩
def Itz (K:Fg)(a b:Addr):It:=
 ⟨fun i H=> ∃ xs ys x y,SqL K H a xs/\SqL K H b ys/\xs[i]?=some x/\ys[i]?=some y,fun i H v H'=> ∃ p,H p=none/\v= .ref p/\ ∀ xs ys x y,SqL K H a xs->SqL K H b ys->xs[i]?=some x->ys[i]?=some y->H'=upd H p (.tup [x,y]),
  fun i H=> ∃ xs ys,SqL K H a xs/\SqL K H b ys/\(xs.length<=i\/ys.length<=i)⟩
theorem Zhf {P:Program}{w:World}{K:Fg}{B:Around}{elts:List Expr}{k0:Nat}{tp:Pos}(hB:B.handled=none)(a e it:Addr)(hne:e≠it):
  Turn P w K B (.Tuple elts k0 tp) (Ite K a) [e,it] e (fun i h=>(∃ old,IsEnum h e it (i:Int) old)/\h.IsListIter it a i) where
 mem:=by simp
 obj:=fun i h st b hb=>by
  obtain ⟨⟨old,h1⟩,o,e2,c2,d2⟩:=st
  rcases List.mem_cons.mp hb with z | z
  ·subst z;exact ⟨_,h1,fun v z=>by cases z⟩
  ·have z':b=it:=by simpa using z
   subst z';exact ⟨o,e2,fun v z=>by rw[d2] at z;cases z⟩
 keep:=fun i h h' st k=>⟨let ⟨old,z⟩:=st.1;⟨old,k e (by simp) _ z⟩,st.2.at fun o z=>k it (by simp) o z⟩
 item:=by
  intro X hP hw hK hA i pins s σ H E I hf st hg;subst hP hw hK hA;obtain ⟨⟨old,h1⟩,h2⟩:=st
  obtain ⟨xs,x,hq,hx⟩:=hg
  obtain ⟨its,rv,p,hz⟩:=I.list hq
  obtain ⟨u,hu,ru⟩:=rv.get hx
  have lt: ∀ b∈[e,it],b < s.heap.objs.size:=fun b hb=>by
   rcases List.mem_cons.mp hb with z | z
   ·subst z;exact Hz h1
   ·have z':b=it:=by simpa using z
    subst z';obtain ⟨o,e2,_⟩:=h2
    exact Hz e2
  refine wpAny_pyNext_enum_item h1 h2 p.isList (x:=u) (by simpa using hu) hne fun h' o1 o2 o3 o4 o5=>⟨_,rfl,?_⟩
  refine wpAny_letOwnedTupleGo_enum (s:={ s with heap:=h',toks:=s.toks + 1 }) o1 fun h'' q1 q2=> ?_
  have pe:s.heap.objs.size≠e:=Nat.ne_of_gt (lt e (by simp))
  have ie:it≠e:=Ne.symm hne
  obtain ⟨J1,J2,J3⟩:=Zke (h':=h'') (t':=s.toks + 1) (ch:=[e,it]) (vs:=[.int i,x]) (us:=[.int i s.toks,u]) I hf lt (.cons ⟨_,rfl⟩ (.cons ru .nil)) (by show 2<=sizeLine;decide)
   (fun b o hb z=>by
    have n1:b≠e:=fun y=>hb (by simp[y])
    have n2:b≠it:=fun y=>hb (by simp[y])
    exact (q2.2 b n1).trans (o5 b o n1 n2 z)) ((q2.2 _ pe).trans o3)
  refine ⟨.ref s.heap.objs.size,_,J1,rfl,⟨_,J2,rfl,fun ys y hy hy2=> ?_⟩,⟨⟨u,by simpa using q1⟩,o2.at fun o z=>(q2.2 it ie).trans z⟩,J3⟩
  rw[I.list_inj hy hq,hx] at hy2;cases hy2
  rfl
 done:=by
  intro X hP hw hK hA i pins s σ H E I hf st hg;subst hP hw hK hA;obtain ⟨⟨old,h1⟩,h2⟩:=st
  obtain ⟨xs,hq,hx⟩:=hg
  obtain ⟨its,rv,p,hz⟩:=I.list hq
  obtain ⟨f0,f1,f2,f3,f4,f5⟩:=hf it (by simp)
  refine wpAny_pyNext_enum_end hB h1 h2 p.isList (by simp only[List.getElem?_toArray];exact List.getElem?_eq_none (by rw[<- rv.length];exact hx)) fun h' ext=>⟨rfl,?_⟩
  exact I.turned (t':=s.toks) (it:=it) (fun b o hb z=>ext b o hb z) f0 f1 f3 f4 f5
 self:=fun A i s Q E st q=>by
  obtain ⟨⟨old,h1⟩,_⟩:=st
  have hT:s.TypeIs (.ref e) "enumerate":=⟨_,h1,rfl⟩
  refine wpAny_pyIter_slot hT F.slot_enumerate_iter (wpAny_call_entry F.slot_enumerate_iter hT F.entry_enumerate_iter ?_ (F.args_enumerate_iter_1 _))
  show wpAny _ _ (ret (.ref e)) _ _ s
  exact Wp ⟨_,rfl,"enumerate",_,hT,F.slot_enumerate_next.lookup,q⟩
theorem Zje {P:Program}{w:World}{K:Fg}{B:Around}{elts:List Expr}{k0:Nat}{tp:Pos}(hB:B.handled=none){z TI TO i1 i2 a b:Addr}(D:ZipApart z TI TO i1 i2 a b):
  Turn P w K B (.Tuple elts k0 tp) (Itz K a b) [z,TI,TO,i1,i2] z (fun i h=>IsZip h z TI TO .none/\IsPair h TI (.ref i1) (.ref i2)/\(∃ x y,IsPair h TO x y)/\h.IsListIter i1 a i/\h.IsListIter i2 b i) where
 mem:=by simp
 obj:=fun i h st c hc=>by
  obtain ⟨h1,h2,⟨x,y,h3⟩,⟨o4,e4,c4,d4⟩,⟨o5,e5,c5,d5⟩⟩:=st
  simp only[List.mem_cons,List.not_mem_nil,or_false] at hc
  rcases hc with rfl | rfl | rfl | rfl | rfl
  ·exact ⟨_,h1,fun v q=>by cases q⟩
  ·exact ⟨_,h2,fun v q=>by cases q⟩
  ·exact ⟨_,h3,fun v q=>by cases q⟩
  ·exact ⟨o4,e4,fun v q=>by rw[d4] at q;cases q⟩
  ·exact ⟨o5,e5,fun v q=>by rw[d5] at q;cases q⟩
 keep:=fun i h h' st k=>by
  obtain ⟨h1,h2,⟨x,y,h3⟩,h4,h5⟩:=st
  exact ⟨k z (by simp) _ h1,k TI (by simp) _ h2,⟨x,y,k TO (by simp) _ h3⟩,h4.at fun o q=>k i1 (by simp) o q,h5.at fun o q=>k i2 (by simp) o q⟩
 item:=by
  intro X hP hw hK hA i pins s σ H E I hf st hg;subst hP hw hK hA;obtain ⟨h1,h2,⟨x0,y0,h3⟩,h4,h5⟩:=st
  obtain ⟨xs,ys,x,y,hq,hq2,hx,hy⟩:=hg
  obtain ⟨its,rv,p,hz⟩:=I.list hq
  obtain ⟨its2,rv2,p2,hz2⟩:=I.list hq2
  obtain ⟨u,hu,ru⟩:=rv.get hx
  obtain ⟨u2,hu2,ru2⟩:=rv2.get hy
  have lt: ∀ c∈[z,TI,TO,i1,i2],c < s.heap.objs.size:=fun c hc=>by
   simp only[List.mem_cons,List.not_mem_nil,or_false] at hc
   rcases hc with rfl | rfl | rfl | rfl | rfl
   ·exact Hz h1
   ·exact Hz h2
   ·exact Hz h3
   ·obtain ⟨o,e2,_⟩:=h4;exact Hz e2
   ·obtain ⟨o,e2,_⟩:=h5;exact Hz e2
  refine wpAny_pyNext_zip_item D h1 h2 h3 h4 h5 p.isList p2.isList (x:=u) (y:=u2) (by simpa using hu) (by simpa using hu2) fun h' o1 o2 o3 o4 o5 o6 o7=>⟨_,rfl,?_⟩
  refine wpAny_letOwnedTupleGo_zip (s:={ s with heap:=h' }) o1 fun h'' q1 q2=> ?_
  have pe:s.heap.objs.size≠z:=Nat.ne_of_gt (lt z (by simp))
  obtain ⟨J1,J2,J3⟩:=Zke (h':=h'') (t':=s.toks) (ch:=[z,TI,TO,i1,i2]) (vs:=[x,y]) (us:=[u,u2]) I hf lt (.cons ru (.cons ru2 .nil)) (by show 2<=sizeLine;decide)
   (fun c o hc q=>by
    simp only[List.mem_cons,List.not_mem_nil,or_false,not_or] at hc;exact (q2.2 c hc.1).trans (o7 c o hc.1 hc.2.2.1 hc.2.2.2.1 hc.2.2.2.2 q)) ((q2.2 _ pe).trans o5)
  refine ⟨.ref s.heap.objs.size,_,J1,rfl,⟨_,J2,rfl,fun xs' ys' x' y' hx1 hy1 hx2 hy2=> ?_⟩,⟨q1,(q2.2 TI D.TIz).trans (o7 TI _ D.TIz D.TITO D.TIi1 D.TIi2 h2),⟨u,u2,(q2.2 TO D.TOz).trans o2⟩,o3.at fun o q=>(q2.2 i1 D.i1z).trans q,o4.at fun o q=>(q2.2 i2 D.i2z).trans q⟩,J3⟩
  rw[I.list_inj hx1 hq,hx] at hx2;rw[I.list_inj hy1 hq2,hy] at hy2;cases hx2
  cases hy2
  rfl
 done:=by
  intro X hP hw hK hA i pins s σ H E I hf st hg;subst hP hw hK hA;obtain ⟨h1,h2,⟨x0,y0,h3⟩,h4,h5⟩:=st
  obtain ⟨xs,ys,hq,hq2,hx⟩:=hg
  obtain ⟨its,rv,p,hz⟩:=I.list hq
  obtain ⟨its2,rv2,p2,hz2⟩:=I.list hq2
  have he:its.toArray[i]?=none\/its2.toArray[i]?=none:=by
   rcases hx with hx | hx
   ·exact .inl (by simp only[List.getElem?_toArray];exact List.getElem?_eq_none (by rw[<- rv.length];exact hx))
   ·exact .inr (by simp only[List.getElem?_toArray];exact List.getElem?_eq_none (by rw[<- rv2.length];exact hx))
  refine wpAny_pyNext_zip_end hB D h1 h2 h3 h4 h5 p.isList p2.isList he fun h' keep=>⟨rfl,?_⟩
  refine Zhe (t':=s.toks) (ch:=[z,TI,TO,i1,i2]) I (fun c o hc q=> ?_) hf
  simp only[List.mem_cons,List.not_mem_nil,or_false,not_or] at hc;exact keep c o hc.1 hc.2.2.1 hc.2.2.2.1 hc.2.2.2.2 q
 self:=fun A i s Q E st q=>wpAny_pyIter_zip st.1 q
theorem ZnS {n a b:Nat}(h1:a < n)(h2:b < n):ZipApart (n + 4) (n + 2) (n + 3) n (n + 1) a b:=⟨Nat.ne_of_lt (by lia),Nat.ne_of_lt (by lia),Nat.ne_of_lt (by lia),Nat.ne_of_lt (by lia),Nat.ne_of_lt (by lia),Nat.ne_of_gt (by lia),Nat.ne_of_gt (by lia),Nat.ne_of_gt (by lia),Nat.ne_of_gt (by lia),Nat.ne_of_lt (by lia),Nat.ne_of_lt (by lia),Nat.ne_of_lt (by lia),Nat.ne_of_lt (by lia),Nat.ne_of_lt (by lia),Nat.ne_of_lt (by lia),Nat.ne_of_lt (by lia),Nat.ne_of_lt (by lia),Nat.ne_of_lt (by lia)⟩
theorem Zkf:bootBuiltins "zip"=some (.type "zip"):=by decide +kernel
theorem Zd2:bootBuiltins "enumerate"=some (.type "enumerate"):=by decide +kernel
section
variable {X:Cx}{ξ:XK}{a b:Expr}{elts:List Expr}{k0:Nat}{tp:Pos}{fa:Ev}{fs:Av}{p pos:Pos}{ta:TA}
def ZqM (K:Fg)(t:TA):TI:=fun σ H R=>t σ H fun vs H1=> ∃ l xs,vs=[.ref l]/\SqL K H1 l xs/\R (Ite K l) H1
def Zuf (K:Fg)(t:TA):TI:=fun σ H R=>t σ H fun vs H1=> ∃ l l2 xs ys,vs=[.ref l,.ref l2]/\SqL K H1 l xs/\SqL K H1 l2 ys/\R (Itz K l l2) H1
theorem Zlw (hc:X.A.handled=none)(hg:Gl X "enumerate")(hm:X.mg "enumerate"=none)(ha:PA X [a] ta)(hs:starEach [a] X.env=(false,eval a X.env) :: starEach [] X.env:=by rfl)(hpl:(backTo pos (starEach [] X.env)).any (·.1)=false:=by rfl):
  PI X (.Tuple elts k0 tp) (.Call (.Name "enumerate" p) [a] [] pos) (ZqM X.K ta):=by
 intro pins s σ H R I h;refine wpAny_Call_Name_kw (Za1 I hg hm Zd2 (PyProof.Rows.callWith_type1 (thn (ha pos pins s σ H _ I h) fun us s1 ⟨vs,H1,I1,r1,q1⟩=> ?_) hs hpl) (by decide) (by decide))
 obtain ⟨l,xs,rfl,hq,q⟩:=q1
 obtain ⟨u,rfl,ru⟩:=Zcj r1
 cases ru
 obtain ⟨its,rv,pl,hz⟩:=I1.list hq
 refine call_enumerate_list pl.isList fun h' e1 e2 e3 e4=> ?_
 have T:=Zhf (P:=X.prog) (w:=X.w) (K:=X.K) (B:=X.A) (elts:=elts) (k0:=k0) (tp:=tp) hc l (s1.heap.objs.size + 1) s1.heap.objs.size (Nat.ne_of_gt (Nat.lt_succ_self _))
 have I2:Inv X pins σ H1 { s1 with heap:=h',toks:=s1.toks }:=I1.kept (t':=s1.toks) e4
 refine T.self X.A 0 { s1 with heap:=h' } _ _ ⟨⟨_,e1⟩,e2⟩ ⟨_,_,_,_,H1,rfl,I2,T,⟨⟨_,e1⟩,e2⟩,fun b hb=> ?_,q⟩
 have hb':s1.heap.objs.size<=b:=by
  simp only[List.mem_cons,List.not_mem_nil,or_false] at hb
  rcases hb with rfl | rfl<;>lia
 exact I1.fpOk hb' (I1.hok.fresh hb')
theorem ZnT (hc:X.A.handled=none)(hg:Gl X "zip")(hm:X.mg "zip"=none)(ha:PA X [a,b] ta)(hs:starEach [a,b] X.env=(false,eval a X.env) :: starEach [b] X.env:=by rfl)(hpl:(backTo pos (starEach [b] X.env)).any (·.1)=false:=by rfl):
  PI X (.Tuple elts k0 tp) (.Call (.Name "zip" p) [a,b] [] pos) (Zuf X.K ta):=by
 intro pins s σ H R I h;refine wpAny_Call_Name_kw (Za1 I hg hm Zkf (PyProof.Rows.callWith_type1 (thn (ha pos pins s σ H _ I h) fun us s1 ⟨vs,H1,I1,r1,q1⟩=> ?_) hs hpl) (by decide) (by decide))
 obtain ⟨l,l2,xs,ys,rfl,hq,hq2,q⟩:=q1
 obtain ⟨u,u2,rfl,ru,ru2⟩:=ZiP r1
 cases ru
 cases ru2
 obtain ⟨its,rv,pl,hz⟩:=I1.list hq
 obtain ⟨its2,rv2,pl2,hz2⟩:=I1.list hq2
 have lt1:l < s1.heap.objs.size:=by obtain ⟨_,e,_⟩:=pl.isList;exact Hz e
 have lt2:l2 < s1.heap.objs.size:=by obtain ⟨_,e,_⟩:=pl2.isList;exact Hz e
 refine call_zip_2 pl.isList pl2.isList fun h' e1 e2 e3 e4 e5 e6 e7=> ?_
 have D:=ZnS lt1 lt2
 have T:=Zje (P:=X.prog) (w:=X.w) (K:=X.K) (B:=X.A) (elts:=elts) (k0:=k0) (tp:=tp) hc D
 have I2:Inv X pins σ H1 { s1 with heap:=h',toks:=s1.toks }:=I1.kept (t':=s1.toks) e7
 refine T.self X.A 0 { s1 with heap:=h' } _ _ ⟨e1,e2,⟨_,_,e3⟩,e4,e5⟩ ⟨_,_,_,_,H1,rfl,I2,T,⟨e1,e2,⟨_,_,e3⟩,e4,e5⟩,fun c hc=> ?_,q⟩
 have hb':s1.heap.objs.size<=c:=by
  simp only[List.mem_cons,List.not_mem_nil,or_false] at hc
  rcases hc with rfl | rfl | rfl | rfl | rfl<;>lia
 exact I1.fpOk hb' (I1.hok.fresh hb')
def iEn (fs:Av):Ro->Sto->Out Src:=fun ρ M=>(fs ρ M).bind fun ds M1=>match ds with | [.ref n]=> .ok (.enu n) M1 | _=> .bad
def iZp (fs:Av):Ro->Sto->Out Src:=fun ρ M=>(fs ρ M).bind fun ds M1=>match ds with | [.ref n,.ref m]=> .ok (.zip n m) M1 | _=> .bad
theorem ZeH (hc:X.A.handled=none)(hm:X.mg "enumerate"=none)(ha:DA X ξ [a] fs)(hg:Gl X "enumerate":=by rfl)(hs:starEach [a] X.env=(false,eval a X.env) :: starEach [] X.env:=by rfl)(hpl:(backTo pos (starEach [] X.env)).any (·.1)=false:=by rfl):
  DI X ξ (.Tuple elts k0 tp) (.Call (.Name "enumerate" p) [a] [] pos) (iEn fs):=by
 obtain ⟨ta,pa,qa⟩:=ha
 refine ⟨_,Zlw hc hg hm pa hs hpl,fun σ ρ H α M R s hh q=>qa σ ρ H α M _ s hh (OG.seq q fun ds M1 vs H1 α1 e1 h1 r1 w1=> ?_)⟩
 match r1 with
 | .nil=>exact w1.elim
 | .cons r (.cons _ _)=>cases r<;>exact w1.elim
 | .cons r .nil=>
  cases r with
  | @ref l n hp=>
   obtain ⟨xs0,g0⟩:=h1.some_at hp
   refine ⟨l,xs0,rfl,SqL.of g0,w1 _ H1 α1 Ext.refl h1 fun i H' α' M' ex hr=> ?_⟩
   cases em:M'[n]? with
   |none=>rw[show nxt (.enu n) i M'=none by simp only[nxt,em]];exact True.intro
   |some so=>
    cases so with
    |lst es=>
     obtain ⟨xs,g1,g2⟩:=hr.at (ex.get hp) em
     cases ei:es[i]? with
     |none=>rw[show nxt (.enu n) i M'=some none by simp only[nxt,em,ei]];exact ⟨xs,SqL.of g1,by rw[g2.length];exact List.getElem?_eq_none_iff.mp ei⟩
     |some d=>
      obtain ⟨v,k1,k2⟩:=g2.get ei
      rw[show nxt (.enu n) i M'=some (some (D.tup [D.int i,d])) by simp only[nxt,em,ei]]
      refine ⟨⟨xs,v,SqL.of g1,k1⟩,fun x H'' y=> ?_⟩
      obtain ⟨pp,y1,rfl,y3⟩:=y
      have y4:=y3 xs v (SqL.of g1) k1
      subst y4;exact ⟨Ext.new0 y1,hr.tup y1,.tup Zy (.cons (.int i) (.cons (Rep.mono (Ext.new0 y1) k2) .nil))⟩
  |_=>exact w1.elim
theorem ZnU (hc:X.A.handled=none)(hm:X.mg "zip"=none)(ha:DA X ξ [a,b] fs)(hg:Gl X "zip":=by rfl)(hs:starEach [a,b] X.env=(false,eval a X.env) :: starEach [b] X.env:=by rfl)(hpl:(backTo pos (starEach [b] X.env)).any (·.1)=false:=by rfl):
  DI X ξ (.Tuple elts k0 tp) (.Call (.Name "zip" p) [a,b] [] pos) (iZp fs):=by
 obtain ⟨ta,pa,qa⟩:=ha
 refine ⟨_,ZnT hc hg hm pa hs hpl,fun σ ρ H α M R s hh q=>qa σ ρ H α M _ s hh (OG.seq q fun ds M1 vs H1 α1 e1 h1 r1 w1=> ?_)⟩
 split at w1
 ·rename_i n m
  cases r1 with
  |cons r t=>
   cases t with
   |cons r' t=>
    cases t
    cases r with
    |ref hp=>
    cases r' with
    |ref hp2=>
    rename_i l l2;obtain ⟨xs0,g0⟩:=h1.some_at hp
    obtain ⟨ys0,g0'⟩:=h1.some_at hp2
    refine ⟨l,l2,xs0,ys0,rfl,SqL.of g0,SqL.of g0',w1 _ H1 α1 Ext.refl h1 fun i H' α' M' ex hr=> ?_⟩
    cases em:M'[n]? with
    |none=>rw[show nxt (.zip n m) i M'=none by simp only[nxt,em]];exact True.intro
    |some so=>
     cases em2:M'[m]? with
     |none=>cases so;rw[show nxt (.zip n m) i M'=none by simp only[nxt,em,em2]];exact True.intro
     |some so2=>
      cases so with
      |lst es=>
       cases so2 with
       |lst es2=>
        obtain ⟨xs,g1,g2⟩:=hr.at (ex.get hp) em
        obtain ⟨ys,g3,g4⟩:=hr.at (ex.get hp2) em2
        cases ei:es[i]? with
        |none=>rw[show nxt (.zip n m) i M'=some none by simp only[nxt,em,em2,ei]];exact ⟨xs,ys,SqL.of g1,SqL.of g3,.inl (by rw[g2.length];exact List.getElem?_eq_none_iff.mp ei)⟩
        |some d=>
         cases ej:es2[i]? with
         |none=>rw[show nxt (.zip n m) i M'=some none by simp only[nxt,em,em2,ei,ej]];exact ⟨xs,ys,SqL.of g1,SqL.of g3,.inr (by rw[g4.length];exact List.getElem?_eq_none_iff.mp ej)⟩
         |some d2=>
          obtain ⟨v,k1,k2⟩:=g2.get ei
          obtain ⟨v2,k3,k4⟩:=g4.get ej
          rw[show nxt (.zip n m) i M'=some (some (D.tup [d,d2])) by simp only[nxt,em,em2,ei,ej]]
          refine ⟨⟨xs,ys,v,v2,SqL.of g1,SqL.of g3,k1,k3⟩,fun x H'' y=> ?_⟩
          obtain ⟨pp,y1,rfl,y3⟩:=y
          have y4:=y3 xs ys v v2 (SqL.of g1) (SqL.of g3) k1 k3
          subst y4;exact ⟨Ext.new0 y1,hr.tup y1,.tup Zy (.cons (Rep.mono (Ext.new0 y1) k2) (.cons (Rep.mono (Ext.new0 y1) k4) .nil))⟩
 ·exact w1.elim
end
end DL
end
section
namespace DL
open PyProof.Rows L2
open PySem.SeqAt (EqAt RcAt RcNeAt)
inductive Ks (X:Cx) (H:Hp) (α:List Addr):Kd->Kd->Prop where
 |non:Ks X H α .non .non
 |bl (b:Bool):Ks X H α (.bl b) (.bl b)
 |int (i:Int):Ks X H α (.int i) (.int i)
 |str (x:Str):Ks X H α (.str x) (.str x)
 |tup {vs:List V} {ds es:List D}:Reps X.K H α vs ds->Reps X.K H α vs es->Ks X H α (.tup ds) (.tup es)
 |lst {vs:List V} {ds es:List D}:Reps X.K H α vs ds->Reps X.K H α vs es->Ks X H α (.lst ds) (.lst es)
section
variable {X:Cx}{ξ:XK}{pins:Pn}{σ:L2.St}{H:Hp}{s:Shared}{α:List Addr}{M:Sto}
theorem ZnV (h:HR X.K H α M){v:V}{x:D}{k:Kd}(r:Rep X.K H α v x)(e:kd M x=some k):
  (match k with | .tup ds=> ∃ p vs,v= .ref p/\SqT X.K H p vs/\Reps X.K H α vs ds | .lst ds=> ∃ p vs,v= .ref p/\SqL X.K H p vs/\Reps X.K H α vs ds | .non=>v= .non | .bl b=>v= .bl b | .int i=>v= .int i | .str x=>v= .str x):=by
 cases r with
 |non=>cases e;rfl
 |bl b=>cases e;rfl
 |int i=>cases e;rfl
 |str x=>cases e;rfl
 |err _ _ _=>cases e
 |dk _=>cases e
 |dt _=>cases e
 |fn _=>cases e
 | @tup p xs ds hp rp=>cases e;exact ⟨p,xs,rfl,(SqT.of hp),rp⟩
 | @con p xs ds hp rp=>cases e;exact ⟨p,xs,rfl,hp.sq,rp⟩
 | @rol p xs ds hp rp=>cases e;exact ⟨p,xs,rfl,hp.sq,rp⟩
 | @ref p n hp=>
  cases e1:M[n]? with
  |none=>simp only[kd,e1] at e;cases e
  |some o=>
   cases o with
   |lst ds=>
    simp only[kd,e1] at e;cases e
    obtain ⟨xs,g1,r1⟩:=h.at hp e1
    exact ⟨p,xs,rfl,SqL.of g1,r1⟩
theorem Zhg (I:Inv X pins σ H s)(h:HR X.K H α M){v:V}{x y:D}{k l:Kd}(rx:Rep X.K H α v x)(ry:Rep X.K H α v y)(ex:kd M x=some k)(ey:kd M y=some l):Ks X H α k l:=by
 have a:=ZnV h rx ex
 have b:=ZnV h ry ey
 have nl: ∀ {p:Addr} {xs ys:List V},SqT X.K H p xs->SqL X.K H p ys->False:=fun {p xs ys} a c=>by
  obtain ⟨i1,_,⟨o1,g1,c1,_⟩,_⟩:=I.tuple a
  obtain ⟨i2,_,⟨o2,_,g2,c2,_⟩,_⟩:=I.list c
  rw[g1] at g2;cases g2
  rw[c1] at c2;exact absurd c2 (by decide)
 cases k with
 |non=>cases a;cases l<;>first | (cases b;done) | exact .non | (obtain ⟨_,_,q,_⟩:=b;cases q)
 |bl c=>cases a;cases l<;>first | (cases b;done) | (cases b;exact .bl c) | (obtain ⟨_,_,q,_⟩:=b;cases q)
 |int c=>cases a;cases l<;>first | (cases b;done) | (cases b;exact .int c) | (obtain ⟨_,_,q,_⟩:=b;cases q)
 |str c=>cases a;cases l<;>first | (cases b;done) | (cases b;exact .str c) | (obtain ⟨_,_,q,_⟩:=b;cases q)
 |tup ds=>
  obtain ⟨p,vs,rfl,q1,q2⟩:=a
  cases l with
  |tup es=>
   obtain ⟨p2,vs2,e2,q3,q4⟩:=b
   cases e2
   cases I.tuple_inj q1 q3
   exact .tup q2 q4
  |lst es=>
   obtain ⟨p2,vs2,e2,q3,q4⟩:=b
   cases e2
   exact (nl q1 q3).elim
  |_=>cases b
 |lst ds=>
  obtain ⟨p,vs,rfl,q1,q2⟩:=a
  cases l with
  |lst es=>
   obtain ⟨p2,vs2,e2,q3,q4⟩:=b
   cases e2
   cases I.list_inj q1 q3
   exact .lst q2 q4
  |tup es=>
   obtain ⟨p2,vs2,e2,q3,q4⟩:=b
   cases e2
   exact (nl q3 q1).elim
  |_=>cases b
theorem Zkg (I:Inv X pins σ H s)(h:HR X.K H α M): ∀ (n:Nat) {v w:V} {x x' y y':D} {b b':Bool},Rep X.K H α v x->Rep X.K H α v x'->Rep X.K H α w y->Rep X.K H α w y'->eqF n M x y=some b->eqF n M x' y'=some b'->b=b':=by
 intro n
 induction n with
 |zero=>intro v w x x' y y' b b' _ _ _ _ e;simp only[eqF] at e;cases e
 |succ n ih=>
  have lists: ∀ (vs ws:List V) (xs xs' ys ys':List D) (b b':Bool),Reps X.K H α vs xs->Reps X.K H α vs xs'->Reps X.K H α ws ys->Reps X.K H α ws ys'->eqL (eqF n M) xs ys=some b->eqL (eqF n M) xs' ys'=some b'->b=b':=by
   intro vs
   induction vs with
   |nil=>
    intro ws xs xs' ys ys' b b' r1 r2 r3 r4 e e';cases r1;cases r2
    cases r3 with
    |nil=>cases r4;simp only[eqL,Option.some.injEq] at e e';rw[<- e,<- e']
    |cons _ _=>cases r4;simp only[eqL,Option.some.injEq] at e e';rw[<- e,<- e']
   |cons v vs iv=>
    intro ws xs xs' ys ys' b b' r1 r2 r3 r4 e e';cases r1 with
    |cons p1 t1=>
     cases r2 with
     |cons p2 t2=>
      cases r3 with
      |nil=>cases r4;simp only[eqL,Option.some.injEq] at e e';rw[<- e,<- e']
      |cons p3 t3=>
       cases r4 with
       |cons p4 t4=>
        rename_i d1 ds1 d2 ds2 w d3 ws ds3 d4 ds4;cases a1:eqF n M d1 d3 with
        |none=>simp only[eqL,a1] at e;cases e
        |some a=>
         cases a2:eqF n M d2 d4 with
         |none=>simp only[eqL,a2] at e';cases e'
         |some a'=>
          cases c1:eqL (eqF n M) ds1 ds3 with
          |none=>simp only[eqL,a1,c1] at e;cases e
          |some c=>
           cases c2:eqL (eqF n M) ds2 ds4 with
           |none=>simp only[eqL,a2,c2] at e';cases e'
           |some c'=>
            simp only[eqL,a1,c1,Option.some.injEq] at e;simp only[eqL,a2,c2,Option.some.injEq] at e';rw[<- e,<- e',ih p1 p2 p3 p4 a1 a2,iv _ _ _ _ _ _ _ t1 t2 t3 t4 c1 c2]
  intro v w x x' y y' b b' rx rx' ry ry' e e';unfold eqF at e e';cases k1:kd M x with
  |none=>rw[k1] at e;cases e
  |some ka=>
   cases k2:kd M y with
   |none=>rw[k1,k2] at e;cases e
   |some kb=>
    cases k3:kd M x' with
    |none=>rw[k3] at e';cases e'
    |some ka'=>
     cases k4:kd M y' with
     |none=>rw[k3,k4] at e';cases e'
     |some kb'=>
      rw[k1,k2] at e;rw[k3,k4] at e';have s1:=Zhg I h rx rx' k1 k3
      have s2:=Zhg I h ry ry' k2 k4
      cases s1 with
      |tup a1 a2=>
       cases s2 with
       |tup b1 b2=>simp only[eqK] at e e';exact lists _ _ _ _ _ _ _ _ a1 a2 b1 b2 e e'
       |_=>simp only[eqK,Option.some.injEq] at e e';rw[<- e,<- e']
      |lst a1 a2=>
       cases s2 with
       |lst b1 b2=>
        simp only[eqK] at e e';rw[<- a1.length,<- b1.length] at e;rw[<- a2.length,<- b2.length] at e'
        split at e
        ·rename_i c
         rw[if_pos c] at e';exact lists _ _ _ _ _ _ _ _ a1 a2 b1 b2 e e'
        ·rename_i c
         rw[if_neg c] at e';cases e;cases e';rfl
       |_=>simp only[eqK,Option.some.injEq] at e e';rw[<- e,<- e']
      |_=>cases s2<;>(simp only[eqK,Option.some.injEq] at e e';rw[<- e,<- e'])
def eqs (M:Sto)(d:D):List D->Option (List Bool)
 | []=>some []
 |x :: r=>match eqF 12 M x d with | some b=>(match eqs M d r with | some bs=>some (b :: bs) | none=>none) | none=>none
theorem Zhh: ∀ {M:Sto} {d:D} {xs:List D} {bs:List Bool},eqs M d xs=some bs->bs.length=xs.length
 |_,_,[],_,e=>by cases e;rfl
 |M,d,x :: r,bs,e=>by
  cases e1:eqF 12 M x d with
  |none=>simp only[eqs,e1] at e;cases e
  |some b=>
   cases e2:eqs M d r with
   |none=>simp only[eqs,e1,e2] at e;cases e
   |some cs=>simp only[eqs,e1,e2,Option.some.injEq] at e;subst e;rw[List.length_cons,List.length_cons,Zhh e2]
theorem Zhi: ∀ {M:Sto} {d:D} {xs:List D} {bs:List Bool} {i:Nat} {x:D},eqs M d xs=some bs->xs[i]?=some x-> ∃ b,bs[i]?=some b/\eqF 12 M x d=some b
 |_,_,[],_,i,x,e,hx=>by simp at hx
 |M,d,y :: r,bs,i,x,e,hx=>by
  cases e1:eqF 12 M y d with
  |none=>simp only[eqs,e1] at e;cases e
  |some b=>
   cases e2:eqs M d r with
   |none=>simp only[eqs,e1,e2] at e;cases e
   |some cs=>
    simp only[eqs,e1,e2,Option.some.injEq] at e;subst e;cases i with
    |zero=>simp at hx;subst hx;exact ⟨b,rfl,e1⟩
    |succ i=>simp at hx;obtain ⟨b',q1,q2⟩:=Zhi e2 hx;exact ⟨b',by simpa using q1,q2⟩
open Classical in
theorem Zlx {A:Around}(hu:A.units + 64 < cLine)(I:Inv X pins σ H s)(h:HR X.K H α M){vs:List V}{ds:List D}{us:List Value}{v:V}{d:D}{u:Value}{bs:List Bool}(rv:ZO vs us)(rp:Reps X.K H α vs ds)(ru:ZM v u)(rd:Rep X.K H α v d)(e:eqs M d ds=some bs):
  ∃ f:Value->Bool,(∀ y,y∈us.toArray->EqAt A.in1 s y u (f y))/\us.map f=bs:=by
 have ll:us.length=ds.length:=by rw[<- rv.length,rp.length]
 have at_: ∀ (i:Nat) y,us[i]?=some y-> ∃ w x b,ZM w y/\Rep X.K H α w x/\bs[i]?=some b/\eqF 12 M x d=some b:=fun i y hy=>by
  have hi:i < ds.length:=by rw[<- ll];exact (List.getElem?_eq_some_iff.mp hy).1
  obtain ⟨w,a1,a2⟩:=rp.get (Gq hi)
  obtain ⟨y',a3,a4⟩:=rv.get a1
  rw[hy] at a3;cases a3
  obtain ⟨b,a5,a6⟩:=Zhi e (Gq hi)
  exact ⟨w,_,b,a4,a2,a5,a6⟩
 refine ⟨fun y=>decide (∃ w x,ZM w y/\Rep X.K H α w x/\eqF 12 M x d=some true),fun y hy=> ?_,?_⟩
 ·obtain ⟨i,hi,ey⟩:=List.getElem_of_mem (by simpa using hy)
  obtain ⟨w,x,b,q1,q2,q3,q4⟩:=at_ i y (by rw[List.getElem?_eq_getElem hi,ey])
  have hb:decide (∃ w x,ZM w y/\Rep X.K H α w x/\eqF 12 M x d=some true)=b:=by
   cases b with
   |true=>exact decide_eq_true ⟨w,x,q1,q2,q4⟩
   |false=>
    refine decide_eq_false fun ⟨w',x',z1,z2,z3⟩=> ?_
    cases ZM.inj z1 q1
    have:=Zkg I h 12 z2 q2 rd rd z3 q4
    cases this
  show EqAt A.in1 s y u (decide (∃ w x,ZM w y/\Rep X.K H α w x/\eqF 12 M x d=some true))
  rw[hb];exact (eq3 I h 12 x d w v y u b A.in1 (by rw[Around.in1_units];lia) q4 q2 rd q1 ru).1
 ·apply List.ext_getElem?
  intro i;rw[List.getElem?_map]
  cases hy:us[i]? with
  |none=>
   have:bs[i]?=none:=List.getElem?_eq_none (by rw[Zhh e,<- ll];exact List.getElem?_eq_none_iff.mp hy)
   rw[this];rfl
  |some y=>
   obtain ⟨w,x,b,q1,q2,q3,q4⟩:=at_ i y hy
   rw[q3];show some _=some b
   congr 1
   cases b with
   |true=>exact decide_eq_true ⟨w,x,q1,q2,q4⟩
   |false=>
    refine decide_eq_false fun ⟨w',x',z1,z2,z3⟩=> ?_
    cases ZM.inj z1 q1
    have:=Zkg I h 12 z2 q2 rd rd z3 q4
    cases this
end
section
variable {X:Cx}{ξ:XK}
def inE (x y:D)(M:Sto):Option Bool:=match ZfV M y with | some ds=>(match eqs M x ds with | some bs=>some (bs.any id) | none=>none) | none=>none
def ZsX:Bo:=fun x y M=>match inE x y M with | some b=> .ok (.bl b) M | none=> .bad
def Zhj:Bo:=fun x y M=>match inE x y M with | some b=> .ok (.bl (!b)) M | none=> .bad
def ZnW (X:Cx):V->List V->Hp->VK->Prop:=fun v vs H Q=> ∃ α M d ds bs p xs u j,HR X.K H α M/\v= .ref p/\vs=[u]/\Rep X.K H α u d/\SqL X.K H p xs/\Reps X.K H α xs ds/\eqs M d ds=some bs/\bs.findIdx? id=some j/\Q (.int (j:Nat)) H
theorem ZnX (hu:X.A.units + 64 < cLine):MtR X "list.index" (ZnW X):=by
 intro pins s σ H x vs v us Q I rx rv hh;obtain ⟨α,M,d,ds,bs,p,xs,u,j,h,e1,e2,rd,hq,rp,e,ej,q⟩:=hh
 subst e1 e2;cases rx
 obtain ⟨uv,rfl,ru⟩:=Zcj rv
 obtain ⟨its,r,pl,hz⟩:=I.list hq
 obtain ⟨f,f1,f2⟩:=Zlx (A:=X.A) hu I h r rp ru rd e
 obtain ⟨⟨cls,dd,data,sl⟩,ho,hc,n,hd⟩:=pl.isList
 simp only at hc hd
 subst hc hd;obtain ⟨jl,j1,j2⟩:=List.findIdx?_eq_some_iff_getElem.mp ej
 have lb:bs.length=its.length:=by rw[<- f2,List.length_map]
 have at_: ∀ (m:Nat) (hm:m < its.length),bs[m]?=some (f its[m]):=fun m hm=>by rw[<- f2,List.getElem?_map,List.getElem?_eq_getElem hm];rfl
 have hj:j < its.toArray.size:=by rw[List.size_toArray,<- lb];exact jl
 have hit:f its.toArray[j]=true:=by
  have:=at_ j (by rw[<- lb];exact jl)
  rw[List.getElem?_eq_getElem jl] at this
  have:=Option.some.inj this
  simp only[List.getElem_toArray];rw[<- this];exact j1
 have hno: ∀ m (hm:m < its.toArray.size),m < j->f its.toArray[m]=false:=fun m hm hmj=>by
  have hm':m < its.length:=by simpa using hm
  have:=at_ m hm'
  rw[List.getElem?_eq_getElem (by lia)] at this
  have:=Option.some.inj this
  simp only[List.getElem_toArray];rw[<- this]
  simpa using j2 m hmj
 have hs:(j:Int) < 2 ^ 63 - 1:=by
  have h1:j < its.length:=by rw[<- lb];exact jl
  have h2:its.length<=sizeLine:=by rw[<- r.length];exact hz
  have h3:sizeLine < 2 ^ 62:=by decide
  lia
 refine call_meets F.slot_list_index ⟨_,ho,rfl⟩ F.entry_list_index (F.args_list_index_2 _ _) (SeqAt.list_indexAt p its.toArray n dd sl uv f j hj hs hit hno) ⟨ho,f1,?_⟩
 exact ⟨.int (j:Nat),H,I.tok _,⟨_,rfl⟩,q⟩
def mIdx:Me:=fun x ds M=>match x,ds with
 | .ref n,[d]=>(match M[n]? with | some (.lst xs)=>(match eqs M d xs with | some bs=>(match bs.findIdx? id with | some j=> .ok (.int (j:Nat)) M | none=> .bad) | none=> .bad) | none=> .bad)
 |_,_=> .bad
def Zug:Me:=fun x ds M=>match x,ds with
 | .ref n,[d]=>(match M[n]? with | some (.lst xs)=>(match eqs M d xs with | some bs=> .ok (.int (bs.countP id:Nat)) M | none=> .bad) | none=> .bad)
 |_,_=> .bad
theorem ZnY:MO X ξ (ZnW X) mIdx:=by
 intro H α M v vs x ds Q h rx rs q;cases rx with
 | @ref p n hp=>
  match rs with
  | .nil=>exact q.elim
  | .cons _ (.cons _ _)=>exact q.elim
  | .cons (v:=u) (d:=d) ru .nil=>
   cases em:M[n]? with
   |none=>simp only[mIdx,em] at q;exact q.elim
   |some so=>
    cases so with
    |lst es=>
     cases e2:eqs M d es with
     |none=>simp only[mIdx,em,e2] at q;exact q.elim
     |some bs=>
      cases e3:bs.findIdx? id with
      |none=>simp only[mIdx,em,e2,e3] at q;exact q.elim
      |some j=>
       simp only[mIdx,em,e2,e3] at q;obtain ⟨xs,g1,g2⟩:=h.at hp em
       exact ⟨α,M,d,es,bs,p,xs,u,j,h,rfl,rfl,ru,SqL.of g1,g2,e2,e3,q _ H α Ext.refl h (.int _)⟩
 |_=>cases rs<;>exact q.elim
noncomputable def Zbf:List D->Option (List Int)
 | []=>some []
 | .int b :: r=>match Zbf r with | some bs=>some (b :: bs) | none=>none
 |_ :: _=>none
theorem Zfp {K:Fg}{H:Hp}{α:List Addr}: ∀ {vs:List V} {ds:List D} {bs:List Int},Reps K H α vs ds->Zbf ds=some bs->vs=bs.map V.int
 |_,_,_,.nil,e=>by cases e;rfl
 |_,_,bs,.cons (d:=d) (ds:=ds) r t,e=>by
  cases r with
  |int b=>
   cases e1:Zbf ds with
   |none=>simp only[Zbf,e1] at e;cases e
   |some cs=>
    simp only[Zbf,e1,Option.some.injEq] at e;subst e;rw[Zfp t e1];rfl
  |_=>cases e
def Zjf (X:Cx)(g:List Int->Option V):List V->Hp->VK->Prop:=fun vs H Q=> ∃ (p:Addr) (ns:List Int) (v:V),vs=[.ref p]/\SqL X.K H p (ns.map V.int)/\g ns=some v/\Q v H
theorem Zdo: ∀ {ns:List Int} {us:List Value} {i:Nat} {u:Value},ZO (ns.map V.int) us->us[i]?=some u-> ∃ t,u= .int (ns.getD i 0) t
 | [],us,i,u,h,e=>by cases h;simp at e
 |b :: r,us,i,u,h,e=>by
  cases h with
  |cons h1 h2=>
   cases i with
   |zero=>simp at e;subst e;exact h1
   |succ i=>simp at e;obtain ⟨t,g⟩:=Zdo h2 e;exact ⟨t,by simpa using g⟩
theorem Zhk (hc:X.calm=true){pins:Pn}{σ:L2.St}{H:Hp}{s:Shared}{p:Addr}{ns:List Int}(I:Inv X pins σ H s)(hl:SqL X.K H p (ns.map V.int)){Q:Vp}{E:Vp}
  (q: ∀ (its:List Value) (it:Addr),ZO (ns.map V.int) its->its.length=ns.length->it=s.heap.objs.size->Walks X.prog X.w X.A.in1 it [it,p] [it] its.toArray.size (fun i v=>its.toArray[i]?=some v) (fun i h=>h.IsListIter it p i/\h.IsList p its.toArray)->
   (∀ b∈[it,p],b < (s.heap.push { cls:= .type "list_iterator",data:= .fields #[.ref p,.int 0 0] }).objs.size)->((s.heap.push { cls:= .type "list_iterator",data:= .fields #[.ref p,.int 0 0] }).IsListIter it p 0/\(s.heap.push { cls:= .type "list_iterator",data:= .fields #[.ref p,.int 0 0] }).IsList p its.toArray)->
   (∀ h' tk,(∀ b o,b ∉ [it]->(s.heap.push { cls:= .type "list_iterator",data:= .fields #[.ref p,.int 0 0] }).get? b=some o->h'.get? b=some o)->Inv X pins σ H { s with heap:=h',toks:=tk })->Q (.ref it) { s with heap:=s.heap.push { cls:= .type "list_iterator",data:= .fields #[.ref p,.int 0 0] } }):
  wpAny (model X.prog X.w) X.A.in1 (pyIter (.ref p)) Q E s:=by
 obtain ⟨its,hv,hp,hz⟩:=I.list hl
 have hlt:p < s.heap.objs.size:=by obtain ⟨_,e,_⟩:=hp.isList;exact Hz e
 refine wpAny_pyIter_list hp.isList ?_
 refine q its s.heap.objs.size hv (by rw[<- hv.length,List.length_map]) rfl (Walks.list (A:=X.A.in1) (I.ok.hd hc) _ p (Nat.ne_of_lt hlt) its.toArray) (fun b hb=> ?_) ⟨⟨_,Heap.get?_push_size _ rfl,rfl,rfl⟩,hp.isList.push _⟩ fun h' tk hk=> ?_
 ·rw[Heap.size_push]
  simp only[List.mem_cons,List.not_mem_nil,or_false] at hb
  rcases hb with rfl | rfl
  ·exact Nat.lt_succ_self _
  ·exact Nat.lt_succ_of_lt hlt
 ·exact I.kept fun b o e=>hk b o (fun hm=>by rw[List.mem_singleton.mp hm] at e;exact Nat.lt_irrefl _ (Hz e)) (Hq _ e)
theorem Zjg {ns:List Int}(h:0 < ns.length):ns.max?=some (ns.getD (argBest (fun i j=>decide (ns.getD i 0 > ns.getD j 0)) (ns.length - 1)) 0):=by
 obtain ⟨h1,h2⟩:=argBest_gt (fun i=>ns.getD i 0) (ns.length - 1)
 refine List.max?_eq_some_iff.mpr ⟨?_,fun b hb=> ?_⟩
 ·have hl:argBest (fun i j=>decide (ns.getD i 0 > ns.getD j 0)) (ns.length - 1) < ns.length:=by lia
  rw[List.getD_eq_getElem?_getD,List.getElem?_eq_getElem hl]
  exact List.getElem_mem hl
 ·obtain ⟨j,hj,rfl⟩:=List.getElem_of_mem hb
  have:=h2 j (by lia)
  rwa [show ns.getD j 0=ns[j] by rw[List.getD_eq_getElem?_getD,List.getElem?_eq_getElem hj];rfl] at this
def Zqf (ns:List Int):Option V:=ns.max?.map V.int
theorem Zhl (hc:X.calm=true):ZbP X (.builtin "max") (Zjf X Zqf):=by
 intro pins s σ H vs us Q I rs hh;obtain ⟨p,ns,v,e,hl,hg,q⟩:=hh
 subst e;obtain ⟨u,rfl,ru⟩:=Zcj rs
 cases ru
 have hn:0 < ns.length:=by cases ns with | nil=>cases hg | cons _ _=>simp
 unfold Zqf at hg;rw[Zjg hn] at hg;cases hg
 refine call_max_walk (Zhk hc I hl fun its it hv hlen ei W hfp st back=> ?_)
 refine ⟨it,_,_,_,_,_,_,rfl,W,st,hfp,by rw[List.size_toArray,hlen];exact hn,CmpOf.ints_gt (fun i=>ns.getD i 0) (fun i v hP=>Zdo hv (by simpa using hP)),fun v h' tk hP hk=>⟨_,H,back h' tk hk,?_,q⟩⟩
 rw[List.size_toArray,hlen] at hP;exact Zdo hv (by simpa using hP)
def ZfX (g:List Int->Option Int):W3:=fun ds M=>match ds with
 | [x]=>(match ZfV M x with | some xs=>(match x with | .con _=> .bad | .tup _=> .bad | _=>(match Zbf xs with | some ns=>(match g ns with | some i=> .ok (.int i) M | none=> .bad) | none=> .bad)) | none=> .bad)
 |_=> .bad
theorem Zly {g:List Int->Option Int}{gV:List Int->Option V}(hg: ∀ ns i,g ns=some i->gV ns=some (.int i)):CO X ξ (Zjf X gV) (ZfX g):=by
 intro H α M vs ds Q h rs q;unfold ZfX at q
 match rs with
 | .nil=>exact q.elim
 | .cons _ (.cons _ _)=>exact q.elim
 | .cons (d:=x) r .nil=>
  have fin: ∀ (p:Addr) (xs:List V) (ys:List D),SqL X.K H p xs->Reps X.K H α xs ys->OP X.K H α ξ Q (match Zbf ys with | some ns=>(match g ns with | some i=> .ok (.int i) M | none=> .bad) | none=> .bad)->Zjf X gV [.ref p] H Q:=fun p xs ys k1 k2 q=>by
   cases e1:Zbf ys with
   |none=>rw[e1] at q;exact q.elim
   |some ns=>
    cases e2:g ns with
    |none=>simp only[e1,e2] at q;exact q.elim
    |some i=>
     simp only[e1,e2] at q
     have:=Zfp k2 e1
     subst this;exact ⟨p,ns,.int i,rfl,k1,hg _ _ e2,q _ H α Ext.refl h (.int i)⟩
  cases r with
  | @rol p xs ds hp rp=>exact fin p xs ds hp.sq rp q
  | @ref p n hp=>
   cases em:M[n]? with
   |none=>simp only[ZfV,em] at q;exact q.elim
   |some so=>
    cases so with
    |lst es=>
     simp only[ZfV,em] at q;obtain ⟨xs,g1,g2⟩:=h.at hp em
     exact fin p xs es (SqL.of g1) g2 q
  |tup _ _=>exact q.elim
  |con _ _=>exact q.elim
  |_=>exact q.elim
theorem Zlz:CO X ξ (Zjf X Zqf) (ZfX List.max?):=Zly fun ns i e=>by unfold Zqf;rw[e];rfl
end
end DL
end
section
namespace DL
open PyProof.Rows L2
noncomputable def kK:D->Option Key
 | .int i=>some (.inl i)
 | .str x=>some (.inr x)
 |_=>none
def kKs:List D->Option (List Key)
 | []=>some []
 |d :: r=>match kK d,kKs r with | some k,some ks=>some (k :: ks) | _,_=>none
def kT:D->Option (List Key)
 | .tup ds=>kKs ds
 |_=>none
theorem ZnZ {d:D}{k:Key}(h:kK d=some k):d=ZiF k:=by
 cases d<;>first | (cases h;rfl) | cases h
theorem Zhm (k:Key):kK (ZiF k)=some k:=by cases k<;>rfl
theorem Zhn: ∀ {ds:List D} {ks:List Key},kKs ds=some ks->ds=ks.map ZiF
 | [],ks,h=>by cases h;rfl
 |d :: r,ks,h=>by
  unfold kKs at h
  split at h
  ·rename_i k ks' e1 e2
   cases h
   rw[List.map_cons,<- ZnZ e1,<- Zhn e2]
  ·cases h
theorem Zfq: ∀ (ks:List Key),kKs (ks.map ZiF)=some ks
 | []=>rfl
 |k :: ks=>by rw[List.map_cons,kKs,Zhm,Zfq ks]
theorem Zn0 {d:D}{ks:List Key}(h:kT d=some ks):d=Zdd ks:=by
 cases d with
 |tup ds=>rw[Zdd,<- Zhn h]
 |_=>cases h
theorem Zfr (ks:List Key):kT (Zdd ks)=some ks:=Zfq ks
section
variable {κ:Type}[DecidableEq κ]
noncomputable def ZbN (dec:D->Option κ)(k:κ):List D->Option D
 | []=>none
 | .tup [a,v] :: r=>if dec a=some k then some v else ZbN dec k r
 |_ :: r=>ZbN dec k r
noncomputable def Zjh (dec:D->Option κ)(k:κ)(v:D)(ds:List D):List D:=ds.map fun e=>match e with | .tup [a,w]=>if dec a=some k then .tup [a,v] else e | e=>e
def Zgn (dec:D->Option κ)(k:κ)(kd v:D)(ds:List D):List D:=if (ZbN dec k ds).isSome then Zjh dec k v ds else ds ++ [.tup [kd,v]]
variable {K:Fg}{H H':Hp}{α α':List Addr}{key:κ->D}{dec:D->Option κ}
theorem ZlA {k:κ}{kd v:D}{dec:D->Option κ}{ds:List D}(h:nfz ds=true):nfz (Zgn dec k kd v ds)=true:=by
 unfold Zgn Zjh;cases ds with
 |nil=>rfl
 |cons e r=>
  split
  ·rw[List.map_cons]
   cases e with
   |non=>cases h
   |tup xs=>
    match xs with
    | []=>rfl
    | [_]=>rfl
    | [a,b]=>show nfz ((if dec a=some k then D.tup [a,v] else D.tup [a,b]) :: _)=true;split<;>rfl
    |_ :: _ :: _ :: _=>rfl
   |_=>rfl
  ·cases e with
   |non=>cases h
   |_=>rfl
theorem Zho:Zap K H α key [] []:=⟨[],rfl,.nil⟩
theorem ZbB (hd: ∀ k,dec (key k)=some k): ∀ {kvs:List (κ × V)} {es:List D} (k:κ),Reps K H α (kvs.map (·.2)) es->
  match ZbN dec k (List.zipWith (fun kv e=>D.tup [key kv.1,e]) kvs es) with | none=>Zet kvs k=none | some d=> ∃ v,Zet kvs k=some v/\Rep K H α v d
 | [],es,k,h=>by cases h;rfl
 | (k',v) :: kvs,_,k,.cons r t=>by
  simp only[List.zipWith_cons_cons,ZbN,hd,Option.some.injEq]
  by_cases c:k'=k
  ·rw[if_pos c]
   exact ⟨v,Zcd (p:=(k',v)) c,r⟩
  ·rw[if_neg c]
   have:=ZbB hd k t
   have e:Zet ((k',v) :: kvs) k=Zet kvs k:=Zce (p:=(k',v)) c
   rw[e];exact this
theorem Zd3 (hd: ∀ k,dec (key k)=some k){w:V}{d:D}(rw':Rep K H α w d): ∀ {kvs:List (κ × V)} {es:List D} (k:κ),Reps K H α (kvs.map (·.2)) es->
  ∃ es',Zjh dec k d (List.zipWith (fun kv e=>D.tup [key kv.1,e]) kvs es)=List.zipWith (fun kv e=>D.tup [key kv.1,e]) (kvs.map fun kv=>if kv.1=k then (kv.1,w) else kv) es'/\Reps K H α ((kvs.map fun kv=>if kv.1=k then (kv.1,w) else kv).map (·.2)) es'
 | [],es,k,h=>by cases h;exact ⟨[],rfl,.nil⟩
 | (k',v) :: kvs,_,k,.cons (d:=dv) (ds:=es) r t=>by
  obtain ⟨es',h1,h2⟩:=Zd3 hd rw' k t
  unfold Zjh at h1
  by_cases c:k'=k
  ·refine ⟨d :: es',?_,?_⟩
   ·simp only[Zjh,List.zipWith_cons_cons,List.map_cons,hd,Option.some.injEq,if_pos c,h1]
   ·simp only[List.map_cons,if_pos c]
    exact .cons rw' h2
  ·refine ⟨dv :: es',?_,?_⟩
   ·simp only[Zjh,List.zipWith_cons_cons,List.map_cons,hd,Option.some.injEq,if_neg c,h1]
   ·simp only[List.map_cons,if_neg c]
    exact .cons r h2
theorem Zfs {α' β γ:Type}{f:α'->β->γ}{x:α'}{y:β}: ∀ {xs:List α'} {ys:List β},xs.length=ys.length->List.zipWith f (xs ++ [x]) (ys ++ [y])=List.zipWith f xs ys ++ [f x y]
 | [],[],_=>rfl
 |a :: xs,b :: ys,h=>by simp[Zfs (xs:=xs) (ys:=ys) (by simpa using h)]
theorem Zhp (hd: ∀ k,dec (key k)=some k){kvs:List (κ × V)}{ds:List D}{w:V}{d:D}(k:κ)(h:Zap K H α key kvs ds)(r:Rep K H α w d):Zap K H α key (ZgP kvs k w) (Zgn dec k (key k) d ds):=by
 obtain ⟨es,rfl,hr⟩:=h
 have pv:=ZbB hd k hr
 have an:=Zdc k kvs
 unfold ZgP Zgn;cases e:ZbN dec k (List.zipWith (fun kv e=>D.tup [key kv.1,e]) kvs es) with
 |none=>
  rw[e] at pv;rw[if_neg (by rw[an,pv];simp),if_neg (by simp)]
  refine ⟨es ++ [d],?_,?_⟩
  ·rw[Zfs (by rw[<- hr.length,List.length_map])]
  ·rw[List.map_append]
   exact hr.append (.cons r .nil)
 |some x=>
  rw[e] at pv;obtain ⟨v,hv,_⟩:=pv
  rw[if_pos (by rw[an,hv];rfl),if_pos (show (some x).isSome=true from rfl)]
  exact Zd3 hd r k hr
theorem Zhq {kvs:List (κ × V)}{ds:List D}(h:Zap K H α key kvs ds):kvs.length=ds.length:=by
 obtain ⟨es,rfl,hr⟩:=h
 have:=hr.length
 rw[List.length_map] at this
 simp[this]
theorem ZfY {kvs:List (κ × V)}{ds:List D}(h:Zap K H α key kvs ds)(e:Ext K H H' α α'):Zap K H' α' key kvs ds:=by
 obtain ⟨es,h1,h2⟩:=h
 exact ⟨es,h1,Reps.mono e h2⟩
end
noncomputable def ZqN (K:Fg)(H:Hp)(α:List Addr)(o:Option D)(ov:Option V):Prop:=match o with | none=>ov=none | some d=> ∃ u,ov=some u/\Rep K H α u d
theorem Zuh {a b:Nat}(h:a + 64 < b):a + 1 < b:=by lia
def ZfZ (M:Sto)(x k:D):Option (Option D):=match x with
 | .dk n=>(match kK k,M[n]? with | some kk,some (.lst ds)=>some (ZbN kK kk ds) | _,_=>none)
 | .dt n=>(match kT k,M[n]? with | some kk,some (.lst ds)=>some (ZbN kT kk ds) | _,_=>none)
 |_=>none
section
variable {X:Cx}{ξ:XK}{H:Hp}{α:List Addr}{M:Sto}
theorem Zhr {v:V}{d:D}{k:Key}(r:Rep X.K H α v d)(e:kK d=some k):v=kV k:=by
 cases r with
 |int i=>cases e;rfl
 |str x=>cases e;rfl
 |_=>cases e
theorem Zdp: ∀ {vs:List V} {ds:List D} {ks:List Key},Reps X.K H α vs ds->kKs ds=some ks->vs=ks.map kV
 |_,_,ks,.nil,e=>by cases e;rfl
 |_,_,ks,.cons (d:=d) (ds:=ds) r t,e=>by
  unfold kKs at e
  split at e
  ·rename_i k ks' e1 e2
   cases e
   rw[List.map_cons,Zhr r e1,Zdp t e2]
  ·cases e
theorem ZlB (h:HR X.K H α M){v w:V}{x k:D}{o:Option D}(r:Rep X.K H α v x)(rk:Rep X.K H α w k)(e:ZfZ M x k=some o):
  ∃ a ov,v= .ref a/\ZqD H a w ov/\IsD H a/\ZqN X.K H α o ov:=by
 cases r with
 | @dk p n hp=>
  simp only[ZfZ] at e
  split at e
  ·rename_i kk ds e1 e2
   cases e
   obtain ⟨kvs,es,g1,g2,ed⟩: ∃ kvs es,Rd H p (.dK kvs)/\Reps X.K H α (kvs.map (·.2)) es/\ZbN kK kk ds=ZbN kK kk (List.zipWith (fun kv e=>D.tup [ZiF kv.1,e]) kvs es):=by
    rcases h.atK hp e2 with ⟨kvs,g1,es,rfl,g2⟩ | ⟨o,kvs,_,g1,rfl,es,rfl,g2⟩
    ·exact ⟨kvs,es,.inl g1,g2,rfl⟩
    ·exact ⟨kvs,es,.inr ⟨o,g1⟩,g2,rfl⟩
   rw[ed];have pv:=ZbB Zhm kk g2
   refine ⟨p,Zet kvs kk,rfl,.inl ⟨kvs,kk,g1,Zhr rk e1,rfl⟩,.inl ⟨kvs,g1⟩,?_⟩
   unfold ZqN;exact pv
  ·cases e
 | @dt p n hp=>
  simp only[ZfZ] at e
  split at e
  ·rename_i kk ds e1 e2
   cases e
   obtain ⟨kvs,es,g1,g2,ed⟩: ∃ kvs es,Rd H p (.dT kvs)/\Reps X.K H α (kvs.map (·.2)) es/\ZbN kT kk ds=ZbN kT kk (List.zipWith (fun kv e=>D.tup [Zdd kv.1,e]) kvs es):=by
    rcases h.atT hp e2 with ⟨kvs,g1,es,rfl,g2⟩ | ⟨o,kvs,_,g1,rfl,es,rfl,g2⟩
    ·exact ⟨kvs,es,.inl g1,g2,rfl⟩
    ·exact ⟨kvs,es,.inr ⟨o,g1⟩,g2,rfl⟩
   rw[ed];have pv:=ZbB Zfr kk g2
   cases rk with
   | @tup b xs ds' hb rb=>
    refine ⟨p,Zet kvs kk,rfl,.inr ⟨kvs,kk,b,g1,rfl,by rw[hb,Zdp rb e1],rfl⟩,.inr ⟨kvs,g1⟩,?_⟩
    unfold ZqN;exact pv
   |_=>cases e1
  ·cases e
 |_=>cases e
end
section
variable {X:Cx}{ξ:XK}{o i e:Expr}{fo fi f:Ev}{pos pos':Pos}
def ZsY (neg:Bool):R2:=fun v w H Q=> ∃ a o,w= .ref a/\ZqD H a v o/\Q (.bl (neg ^^ o.isSome)) H
def ZmH (neg:Bool):Bo:=fun k x M=>match ZfZ M x k with | some o=> .ok (.bl (neg ^^ o.isSome)) M | none=> .bad
theorem Zn1 (hu:X.A.units + 64 < cLine):OpR X (compareOp .In) (ZsY false):=by
 intro pins s σ H x y v u Q I rx ry ⟨a,ov,e1,g,q⟩;subst e1;cases (show u=Value.ref a from ry)
 exact Zt3 (Zuh hu) I g rx fun s' I'=>⟨.bl ov.isSome,H,I',rfl,by simpa using q⟩
theorem Zn2 {neg:Bool}:BO X ξ (ZsY neg) (ZmH neg):=by
 intro H α M v w x y Q h r1 r2 q;unfold ZmH at q;cases eg:ZfZ M y x with
 |none=>rw[eg] at q;exact q.elim
 |some oo=>
  rw[eg] at q;obtain ⟨a,ov,g1,g2,_,g4⟩:=ZlB h r2 r1 eg
  have es:ov.isSome=oo.isSome:=by
   cases oo with
   |none=>rw[show ov=none from g4];rfl
   |some d=>obtain ⟨u,rfl,_⟩:=g4;rfl
  exact ⟨a,ov,g1,g2,by rw[es];exact q _ H α Ext.refl h (.bl _)⟩
def Zn3 (M:Sto)(x k d:D):Option Sto:=match x with
 | .dk n=>(match kK k,M[n]? with | some kk,some (.lst ds)=>if ds.length < 10000000/\nfz ds=true then some (M.set n (.lst (Zgn kK kk k d ds))) else none | _,_=>none)
 | .dt n=>(match kT k,M[n]? with | some kk,some (.lst ds)=>if ds.length < 10000000/\nfz ds=true then some (M.set n (.lst (Zgn kT kk k d ds))) else none | _,_=>none)
 |_=>none
end
end DL
end
section
namespace DL
open PyProof.Rows L2
def Itv (K:Fg)(a:Addr)(l:Nat):It:=
 ⟨fun i H=>i < l/\ ∃ xs x,SqL K H a xs/\xs[l - 1 - i]?=some x,fun i H x H'=>H'=H/\ ∀ xs,SqL K H a xs->xs[l - 1 - i]?=some x,fun i _=>i=l⟩
theorem Zji {P:Program}{w:World}{K:Fg}{B:Around}{tg:Expr}(hB:B.handled=none)(a it:Addr)(l:Nat):Turn P w K B tg (Itv K a l) [it] it (fun i h=>h.IsRevIter it a ((l:Int) - 1 - i)) where
 mem:=by simp
 obj:=fun i h st b hb=>by
  have e:b=it:=by simpa using hb
  subst e;obtain ⟨o,e,c,d⟩:=st
  exact ⟨o,e,fun v z=>by rw[d] at z;cases z⟩
 keep:=fun i h h' st k=>st.at fun o e=>k it (by simp) o e
 item:=by
  intro X hP hw hK hA i pins s σ H E I hf st hg;subst hP hw hK hA;obtain ⟨hi,xs,x,hq,hx⟩:=hg
  obtain ⟨its,rv,p,hz⟩:=I.list hq
  obtain ⟨u,hu,ru⟩:=rv.get hx
  obtain ⟨f0,f1,f2,f3,f4,f5⟩:=hf it (by simp)
  have en:((l:Int) - 1 - i)=((l - 1 - i:Nat):Int):=by lia
  rw[en] at st;refine wpAny_pyNext_rev_item st p.isList (x:=u) (by simpa using hu) fun h' st' sb=> ?_
  have I1:Inv X pins σ H { s with heap:=h' }:=I.turned (t':=s.toks) (fun b o hb e=>(sb.2 b hb).trans e) f0 f1 f3 f4 f5
  have st2:h'.IsRevIter it a ((l:Int) - 1 - ((i + 1:Nat):Int)):=by
   have e2:((l:Int) - 1 - ((i + 1:Nat):Int))=((l - 1 - i:Nat):Int) - 1:=by lia
   rw[e2];exact st'
  obtain ⟨o,e,c,d⟩:=id st'
  exact ⟨u,rfl,ZiM (s:={ s with heap:=h' }) e c d (by decide) ⟨x,H,I1,ru,⟨rfl,fun ys hy=>by rw[I.list_inj hy hq];exact hx⟩,st2,fun b hb=>(hf b hb).1⟩⟩
 done:=by
  intro X hP hw hK hA i pins s σ H E I hf st hg;subst hP hw hK hA;obtain ⟨f0,f1,f2,f3,f4,f5⟩:=hf it (by simp)
  have hg':i=l:=hg
  have en:((l:Int) - 1 - i)= -1:=by lia
  rw[en] at st;refine wpAny_pyNext_rev_end hB st fun h' ext=>⟨rfl,?_⟩
  exact I.turned (t':=s.toks) (it:=it) (fun b o hb z=>ext b o hb z) f0 f1 f3 f4 f5
 self:=fun A i s Q E st q=>wpAny_pyIter_revIter st q
theorem Zcw:bootBuiltins "reversed"=some (.type "reversed"):=by decide +kernel
section
variable {X:Cx}{ξ:XK}{tg a:Expr}{fs:Av}{p pos:Pos}{ta:TA}
def Zui (K:Fg)(t:TA):TI:=fun σ H R=>t σ H fun vs H1=> ∃ l xs,vs=[.ref l]/\SqL K H1 l xs/\R (Itv K l xs.length) H1
theorem Zn4 (hc:X.A.handled=none)(hg:Gl X "reversed")(hm:X.mg "reversed"=none)(ha:PA X [a] ta)(hs:starEach [a] X.env=(false,eval a X.env) :: starEach [] X.env:=by rfl)(hpl:(backTo pos (starEach [] X.env)).any (·.1)=false:=by rfl):
  PI X tg (.Call (.Name "reversed" p) [a] [] pos) (Zui X.K ta):=by
 intro pins s σ H R I h;refine wpAny_Call_Name_kw (Za1 I hg hm Zcw (PyProof.Rows.callWith_type1 (thn (ha pos pins s σ H _ I h) fun us s1 ⟨vs,H1,I1,r1,q1⟩=> ?_) hs hpl) (by decide) (by decide))
 obtain ⟨l,xs,rfl,hq,q⟩:=q1
 obtain ⟨u,rfl,ru⟩:=Zcj r1
 cases ru
 obtain ⟨its,rv,pl,hz⟩:=I1.list hq
 refine call_reversed_list pl.isList ?_
 have T:=Zji (P:=X.prog) (w:=X.w) (K:=X.K) (B:=X.A) (tg:=tg) hc l s1.heap.objs.size xs.length
 have I2:Inv X pins σ H1 { s1 with heap:=s1.heap.push (revObj l ((its.toArray.size:Int) - 1)),toks:=s1.toks }:=I1.kept (t':=s1.toks) fun b o e=>Hq _ e
 have st:(s1.heap.push (revObj l ((its.toArray.size:Int) - 1))).IsRevIter s1.heap.objs.size l ((xs.length:Int) - 1 - ((0:Nat):Int)):=by
  refine ⟨_,Heap.get?_push_size _ rfl,rfl,?_⟩
  have e:((its.toArray.size:Int) - 1)=(xs.length:Int) - 1 - ((0:Nat):Int):=by rw[List.size_toArray,<- rv.length];simp
  rw[e];rfl
 refine T.self X.A 0 { s1 with heap:=s1.heap.push (revObj l ((its.toArray.size:Int) - 1)) } _ _ st ⟨_,_,_,_,H1,rfl,I2,T,st,fun b hb=> ?_,q⟩
 have hb':s1.heap.objs.size<=b:=by
  have:b=s1.heap.objs.size:=by simpa using hb
  rw[this];exact Nat.le_refl _
 exact I1.fpOk hb' (I1.hok.fresh hb')
def iRv (fs:Av):Ro->Sto->Out Src:=fun ρ M=>(fs ρ M).bind fun ds M1=>match ds with | [.ref n]=>(match M1[n]? with | some (.lst xs)=> .ok (.rev n xs.length) M1 | none=> .bad) | _=> .bad
theorem Zn5 (hc:X.A.handled=none)(hm:X.mg "reversed"=none)(ha:DA X ξ [a] fs)(hg:Gl X "reversed":=by rfl)(hs:starEach [a] X.env=(false,eval a X.env) :: starEach [] X.env:=by rfl)(hpl:(backTo pos (starEach [] X.env)).any (·.1)=false:=by rfl):
  DI X ξ tg (.Call (.Name "reversed" p) [a] [] pos) (iRv fs):=by
 obtain ⟨ta,pa,qa⟩:=ha
 refine ⟨_,Zn4 hc hg hm pa hs hpl,fun σ ρ H α M R s hh q=>qa σ ρ H α M _ s hh (OG.seq q fun ds M1 vs H1 α1 e1 h1 r1 w1=> ?_)⟩
 match r1 with
 | .nil=>exact w1.elim
 | .cons r (.cons _ _)=>cases r<;>exact w1.elim
 | .cons r .nil=>
  cases r with
  | @ref l n hp=>
   cases em0:M1[n]? with
   |none=>simp only[em0] at w1;exact w1.elim
   |some so0=>
    cases so0 with
    |lst es0=>
     simp only[em0] at w1;obtain ⟨xs0,g0,g0'⟩:=h1.at hp em0
     refine ⟨l,xs0,rfl,SqL.of g0,?_⟩
     rw[g0'.length];refine w1 _ H1 α1 Ext.refl h1 fun i H' α' M' ex hr=> ?_
     cases em:M'[n]? with
     |none=>rw[show nxt (.rev n es0.length) i M'=none by simp only[nxt,em]];exact True.intro
     |some so=>
      cases so with
      |lst es=>
       obtain ⟨xs,g1,g2⟩:=hr.at (ex.get hp) em
       by_cases hi:i < es0.length
       ·cases ei:es[es0.length - 1 - i]? with
        |none=>rw[show nxt (.rev n es0.length) i M'=none by simp only[nxt,em,if_pos hi,ei]];exact True.intro
        |some d=>
         rw[show nxt (.rev n es0.length) i M'=some (some d) by simp only[nxt,em,if_pos hi,ei]]
         obtain ⟨v,k1,k2⟩:=g2.get ei
         refine ⟨⟨hi,xs,v,SqL.of g1,k1⟩,fun x H'' y=> ?_⟩
         obtain ⟨ey,y⟩:=y
         subst ey;have z:=y xs (SqL.of g1)
         rw[k1] at z;cases z
         exact ⟨Ext.refl,hr,k2⟩
       ·by_cases he:i=es0.length
        ·rw[show nxt (.rev n es0.length) i M'=some none by simp only[nxt,em,if_neg hi,if_pos he]]
         exact he
        ·rw[show nxt (.rev n es0.length) i M'=none by simp only[nxt,em,if_neg hi,if_neg he]]
         exact True.intro
  |_=>exact w1.elim
end
end DL
end
section
namespace DL
open PyProof.Rows L2
section
variable {X:Cx}{ξ:XK}{e e1 e2:Expr}{es:List Expr}{f:Ev}{pos:Pos}
def eFm (f:Ev):Ev:=fun ρ M=>(f ρ M).bind fun x M1=>match x with
 | .int i=>if i.natAbs.log2 < 1900 then .ok (.str (Str.ofString (toString i))) M1 else .bad
 | .str y=>if y.length<=100000 then .ok (.str y) M1 else .bad
 |_=> .bad
theorem ZqO (ha:DE X ξ e f):DE X ξ (.FormattedValue e (-1) none pos) (eFm f):=by
 obtain ⟨ta,pa,qa⟩:=ha
 refine ⟨fun σ H Q=>ta σ H fun x H1=>(∃ i,x= .int i/\i.natAbs.log2 < 1900/\Q (.str (Str.ofString (toString i))) H1)\/ ∃ y,x= .str y/\y.length<=100000/\Q (.str y) H1,fun pins s σ H Q I h=> ?_,fun σ ρ H α M Q s h q=> ?_⟩
 ·refine wpAny_FormattedValue_plain (wpAny_mono (pa pins s σ H _ I h) (fun v s1 ⟨x,H1,I1,r1,q1⟩=> ?_) fun _ _ z=>z)
  rcases q1 with ⟨i,rfl,hi,q⟩ | ⟨y,rfl,hy,q⟩
  ·obtain ⟨t,rfl⟩:=r1
   exact wpAny_formatField_int (by lia) ⟨.str (Str.ofString (toString i)),H1,I1.tok _,⟨_,rfl⟩,q⟩
  ·obtain ⟨t,rfl⟩:=r1
   exact wpAny_formatField_str ⟨.str y,H1,I1,⟨_,rfl⟩,q⟩ ⟨.str y,H1,I1.tok _,⟨_,rfl⟩,q⟩ (Nat.le_trans hy (by rw[sizeLine_eq];decide))
 ·refine qa σ ρ H α M _ s h (OG.seq q fun x M1 v H1 α1 e1 h1 r1 q1=> ?_)
  cases r1 with
  |int i=>
   by_cases hi:i.natAbs.log2 < 1900
   ·simp only[hi,if_true] at q1
    exact .inl ⟨i,rfl,hi,q1 _ H1 α1 Ext.refl h1 (.str _)⟩
   ·simp only[hi,if_false] at q1
    exact q1.elim
  |str y=>
   by_cases hi:y.length<=100000
   ·simp only[hi,if_true] at q1
    exact .inr ⟨y,rfl,hi,q1 _ H1 α1 Ext.refl h1 (.str _)⟩
   ·simp only[hi,if_false] at q1
    exact q1.elim
  |_=>exact q1.elim
abbrev Jv:=Str->Ro->Sto->Out Str
def PJ (X:Cx)(es:List Expr)(t:L2.St->Hp->Str->(Str->Hp->Prop)->Prop):Prop:=
 ∀ (pins:Pn) (s:Shared) (σ:L2.St) (H:Hp) (acc:Str) (Q:Str->Hp->Prop),Inv X pins σ H s->t σ H acc Q->Joins (model X.prog X.w) X.A X.xe (evalEach es X.env) acc (fun out s1=>out.length<=100000/\ ∃ H',Inv X pins σ H' s1/\Q out H') s
def DJ (X:Cx)(ξ:XK)(es:List Expr)(g:Jv):Prop:= ∃ t,PJ X es t/\ ∀ σ ρ H α M acc (Q:Str->Hp->Prop),SR X.K H α σ ρ->HR X.K H α M->OG X.K (fun _ _ v d=>v=d) H α ξ Q (g acc ρ M)->t σ H acc Q
noncomputable def jNil:Jv:=fun acc _ M=>if acc.length<=100000 then .ok acc M else .bad
def ZeI (f:Ev)(g:Jv):Jv:=fun acc ρ M=>(f ρ M).bind fun x M1=>match x with
 | .str y=>if (acc ++ y).length<=100000 then g (acc ++ y) ρ M1 else .bad
 |_=> .bad
def eFs (g:Jv):Ev:=fun ρ M=>(g Str.empty ρ M).bind fun x M1=> .ok (.str x) M1
theorem Zn6:DJ X ξ [] jNil:=by
 refine ⟨fun σ H acc Q=>acc.length<=100000/\Q acc H,fun pins s σ H acc Q I h=>⟨h.1,H,I,h.2⟩,fun σ ρ H α M acc Q s h q=> ?_⟩
 unfold jNil at q
 by_cases hl:acc.length<=100000
 ·rw[if_pos hl] at q
  exact ⟨hl,q acc H α Ext.refl h rfl⟩
 ·rw[if_neg hl] at q
  exact q.elim
theorem ZeJ {g:Jv}(ha:DE X ξ e f)(hr:DJ X ξ es g):DJ X ξ (e :: es) (ZeI f g):=by
 obtain ⟨ta,pa,qa⟩:=ha
 obtain ⟨tr,pr',qr⟩:=hr
 refine ⟨fun σ H acc Q=>ta σ H fun x H1=> ∃ y,x= .str y/\(acc ++ y).length<=100000/\tr σ H1 (acc ++ y) Q,fun pins s σ H acc Q I h=> ?_,fun σ ρ H α M acc Q s h q=> ?_⟩
 ·show wpAny _ _ (eval e X.env) _ _ s
  refine wpAny_mono (pa pins s σ H _ I h) (fun v s1 ⟨x,H1,I1,r1,q1⟩=> ?_) fun _ _ z=>z
  obtain ⟨y,rfl,hy,q⟩:=q1
  obtain ⟨t,rfl⟩:=r1
  exact ⟨y,t,rfl,Nat.le_trans hy (by rw[sizeLine_eq];decide),pr' pins s1 σ H1 (acc ++ y) Q I1 q⟩
 ·refine qa σ ρ H α M _ s h (OG.seq q fun x M1 v H1 α1 e1 h1 r1 q1=> ?_)
  cases r1 with
  |str y=>
   by_cases hi:(acc ++ y).length<=100000
   ·simp only[hi,if_true] at q1
    exact ⟨y,rfl,hi,qr σ ρ H1 α1 M1 (acc ++ y) Q (s.mono e1) h1 q1⟩
   ·simp only[hi,if_false] at q1
    exact q1.elim
  |_=>exact q1.elim
theorem ZqP {g:Jv}(h:DJ X ξ (e1 :: e2 :: es) g):DE X ξ (.JoinedStr (e1 :: e2 :: es) pos) (eFs g):=by
 obtain ⟨t,pj,qj⟩:=h
 refine ⟨fun σ H Q=>t σ H Str.empty fun x H1=>Q (.str x) H1,fun pins s σ H Q I h=> ?_,fun σ ρ H α M Q s h q=> ?_⟩
 ·refine wpAny_JoinedStr ?_
  have:=pj pins s σ H Str.empty _ I h
  have mono: ∀ (ms:List (Sem Value)) (acc:Str) (P R:Str->Shared->Prop) (s:Shared),(∀ o s,P o s->R o s)->Joins (model X.prog X.w) X.A X.xe ms acc P s->Joins (model X.prog X.w) X.A X.xe ms acc R s:=by
   intro ms
   induction ms with
   |nil=>intro acc P R s hp hj;exact hp _ _ hj
   |cons m r ih=>
    intro acc P R s hp hj;exact wpAny_mono hj (fun v s1 ⟨y,t,e,l,k⟩=>⟨y,t,e,l,ih _ P R s1 hp k⟩) fun _ _ z=>z
  refine mono _ _ _ _ s (fun o s1 ⟨hl,H',I',q⟩=> ?_) this
  exact ⟨Nat.le_trans hl (by rw[sizeLine_eq];decide),.str o,H',I'.tok _,⟨_,rfl⟩,q⟩
 ·refine qj σ ρ H α M Str.empty _ s h (OG.seq q fun x M1 v H1 α1 e1 h1 r1 q1=> ?_)
  cases r1
  exact q1 _ H1 α1 Ext.refl h1 (.str x)
end
end DL
end
section
namespace DL
open PyProof.Rows L2
theorem Zf0 {β γ:Type}{o:Out β}{f:β->Sto->Out γ}{g:γ->Sto->Fl}:Zaq (o.bind f) g=Zaq o fun x M=>Zaq (f x M) g:=by cases o<;>rfl
section
variable {X:Cx}{ξ:XK}{tg iter elt:Expr}{ifs:List Expr}{scope:Scope}{cl:List (Str × Addr)}{N:List Str}{k:Nat}{fr:List Nat}{fi:Ro->Sto->Out Src}{gt:Tg}{c:Tv}{f:Ev}{pos:Pos}
theorem Zdq (iv:Nat){x:Str}{pos' spos:Pos}(hN:X.N.Nodup)(B:Blk X scope cl N k fr)(hi:DI X ξ tg iter fi)(hg: ∀ C fp s H,DG (blk X scope cl N C fp s H) tg gt)(ht: ∀ C fp s H,DC (blk X scope cl N C fp s H) ifs c)(he: ∀ C fp s H,DE (blk X scope cl N C fp s H) E0 elt f)
  (hiv:X.N[iv]?=some x:=by rfl) (hxl:Loc X.env.scope x:=by first | exact Or.inl rfl | exact Or.inr rfl) (hm:X.may iv=true:=by rfl) (hsw:swapsWith (.ListComp elt [⟨tg,iter,ifs,0⟩] scope pos) (some (.Name x pos')) spos.line X.env=pure true:=by rfl) (hf:X.fn x=true\/X.env.scope.names.lookup x=some .local:=by first | exact .inl rfl | exact .inr rfl | assumption)
  (hs: ∀ x,foldedSetIterable iter X.env x=pure x:=by intro _;rfl):DS X ξ (.Assign [.Name x pos'] (.ListComp elt [⟨tg,iter,ifs,0⟩] scope pos) spos) (ZJ (gNm iv) (ZaO fi k fr gt c f)):=by
 obtain ⟨wi,pi,qi⟩:=hi
 refine ⟨fun Dn σ H=> ∃ ρ α M,SR X.K H α σ ρ/\HR X.K H α M/\FP X.K H α ξ Dn (ZJ (gNm iv) (ZaO fi k fr gt c f) ρ M),?_,fun σ ρ H α M Dn s h q=>⟨ρ,α,M,s,h,q⟩⟩
 rintro pins s σ H Dn I ⟨ρ,α,M,sr,hr,op⟩
 rw[exec_Assign_Name_used _ _ _ _ hsw];refine Wb (wpAny_standAt (Wb ?_))
 show wpAny _ X.A (do let _ <- comprehension (.ListComp elt [⟨tg,iter,ifs,0⟩] scope pos) scope X.env _ (newList []) false (eval iter X.env) (some (assign (.Name x pos') X.env))) _ _ s
 have op:FP X.K H α ξ Dn (Zaq (fi ρ M) fun src M1=>Zaq (match ZcT src gt c f M1.length (cnt src M1) 0 (roB k fr ρ) (M1 ++ [.lst []]) with | .ok _ M2'=> .ok (.ref M1.length) M2' | _=> .bad) fun d M1=>Fl.nx (ρ.set iv (some d)) M1):=by
  have e:ZJ (gNm iv) (ZaO fi k fr gt c f) ρ M=(Zaq (fi ρ M) fun src M1=>Zaq (match ZcT src gt c f M1.length (cnt src M1) 0 (roB k fr ρ) (M1 ++ [.lst []]) with | .ok _ M2'=> .ok (.ref M1.length) M2' | _=> .bad) fun d M1=>Fl.nx (ρ.set iv (some d)) M1):=by
   unfold ZJ ZaO;rw[Zf0];rfl
  rw[<- e];exact op
 refine Wb (wpAny_mono (wpAny_comprehension_free (Q:=fun _ s'=>SP X pins Dn .next s') (use:=some (assign (.Name x pos') X.env)) rfl hs B.clos B.kind B.names ?_) (fun _ s' hq=>Wp (Wp hq)) fun _ _ e=>e)
 refine thn (pi pins s σ H (fun J H2=> ∃ α2 M2 src,Ext X.K H H2 α α2/\HR X.K H2 α2 M2/\Zlo X.K H2 α2 J src/\FP X.K H2 α2 ξ Dn (Zaq (match ZcT src gt c f M2.length (cnt src M2) 0 (roB k fr ρ) (M2 ++ [.lst []]) with | .ok _ M2'=> .ok (.ref M2.length) M2' | _=> .bad) fun d M1=>Fl.nx (ρ.set iv (some d)) M1)) I
  (qi σ ρ H α M _ sr hr (FP.seq op fun src M1 J H1 α1 e1 h1 r1 q1=>⟨α1,M1,src,e1,h1,r1,q1⟩))) fun v s1 w1=>thn w1 fun itv s2 w2=> ?_
 obtain ⟨it,fp,tn,J,H2,rfl,I2,T,st2,f2,α2,M2,src,e2,h2,sc,op2⟩:=w2
 have srI:=sr.mono e2
 refine wpAny_newObj_type ?_
 have I3:Inv X pins σ (upd H2 s2.heap.objs.size (.lst [])) { s2 with heap:=s2.heap.push { cls:= .type "list",data:= .seq ([]:List Value).toArray } }:=I2.lnew (its:=[]) (t':=s2.toks) .nil (Nat.zero_le _)
 have fD:H2 s2.heap.objs.size=none:=I2.fresh
 generalize hD:s2.heap.objs.size=D at I3 fD;generalize hs3:({ s2 with heap:=s2.heap.push { cls:= .type "list",data:= .seq ([]:List Value).toArray } }:Shared)=s3 at I3
 generalize hH3:upd H2 D (.lst [])=H3 at I3;have h3:HR X.K H3 (α2 ++ [D]) (M2 ++ [.lst []]):=by rw[<- hH3];exact h2.new fD .nil
 have e3:Ext X.K H2 H3 α2 (α2 ++ [D]):=by rw[<- hH3];exact Ext.new fD
 have aD:RefK H3 (α2 ++ [D]) 0 M2.length D:=⟨h2.last D,by first | exact Kn.lst Zy | (rw[<- hH3];exact Kn.lst Zy)⟩
 have lt2: ∀ b∈fp,b < s2.heap.objs.size:=fun b hb=>let ⟨o,e,_⟩:=T.obj _ _ st2 b hb;Hz e
 have keep3: ∀ b o,s2.heap.get? b=some o->s3.heap.get? b=some o:=fun b o e=>by rw[<- hs3];exact Hq _ e
 have f3: ∀ b∈fp,ZcY X pins H3 b:=fun b hb=>⟨by rw[<- hH3,ZF (by rw[<- hD];exact Nat.ne_of_lt (lt2 b hb))];exact (f2 b hb).1,(f2 b hb).2⟩
 have lt3: ∀ b∈fp,b < s3.heap.objs.size:=fun b hb=>let ⟨o,e,_⟩:=T.obj _ _ st2 b hb;Hz (keep3 b o e)
 have st3:tn 0 s3.heap:=T.keep _ _ _ st2 fun b _ o e=>keep3 b o e
 refine wpAny_newFunctionEnv B.cell (by intro y hy;simp at hy) (fun h₁ hns₁ hsb₁=> ?_) B.kind
 have keep4: ∀ b o,s3.heap.get? b=some o->h₁.get? b=some o:=fun b o e=>hsb₁.extBut b o (Nat.ne_of_lt (Hz e)) (Hq _ e)
 have I4:=ZeD (tk:=s3.toks + ([]:List (Str × Value)).length) B I3 f3 lt3 hns₁ keep4
 have st4:tn 0 h₁:=T.keep _ _ _ st3 fun b _ o e=>keep4 b o e
 have fp5: ∀ {H':Hp},(∀ b∈fp,H' b=none)-> ∀ b∈fp,ZcY (blk X scope cl N s3.heap.objs.size fp s3 H3) [] H' b:=fun hn b hb=>⟨hn b hb,Nat.ne_of_lt (lt3 b hb),(Zfl B I3 f3 lt3).exfs b hb,.inl hb,fun x c h=>(f3 b hb).2.2.2.2.1 x c (B.sub x c h),fun p hp=>(by simp[blk] at hp)⟩
 cases er:ZcT src gt c f M2.length (cnt src M2) 0 (roB k fr ρ) (M2 ++ [.lst []]) with
 |exc x M9=>rw[er] at op2;exact op2.elim
 |bad=>rw[er] at op2;exact op2.elim
 |ok u9 M9=>
  rw[er] at op2;have loop:codeAny (model X.prog X.w) X.A (.compLoop (.ListComp elt [⟨tg,iter,ifs,0⟩] scope pos) 0 (.ref it) (.ref D) (compEnvC scope cl s3.heap.objs.size X.env)) (compPost (model X.prog X.w) X.A X.xe (some (assign (.Name x pos') X.env)) (fun _ s'=>SP X pins Dn .next s') (.ref D) s3.heap.objs.size) { s3 with heap:=h₁,toks:=s3.toks + ([]:List (Str × Value)).length }:=by
   refine Zfm (Y:=blk X scope cl N s3.heap.objs.size fp s3 H3) T (fun _ _ z=>z) fp5 (hg _ fp s3 H3) (ht _ fp s3 H3) (he _ fp s3 H3) (fun i H' α' M' ex hr=>sc i H' α' M' (e3.trans ex) hr) aD I4 st4 (fun b hb=>(f3 b hb).1) ((srI.blk).mono e3) h3 er ?_
   intro σ5 H5 α5 s6 I6 ex5 hr5;obtain ⟨I7,tu⟩:=Zdk B I3 f3 I6
   obtain ⟨m6,hm6,_⟩:=id I6.loc
   refine wpAny_assign_Name (ZdH (v:= .ref D) I7 hN hiv hxl hm rfl (fun s8 I8 ⟨a,sb8,ha⟩=> ?_) hf)
   have nca:s3.heap.objs.size≠a:=by
    rcases ha with e | e
    ·rw[e];exact Nat.ne_of_gt I3.lt
    ·intro z
     obtain ⟨v,o,e',_⟩:=I3.cell x a e
     exact absurd (Hz e') (by rw[<- z];exact Nat.lt_irrefl _)
   exact ⟨m6,hm6.sameBut sb8 nca,fun h' sb=>⟨_,H5,tu _ s8 h' I8 (fun b o hb e=>(sb.2 b hb).trans e),op2 _ H5 α5 (e3.trans ex5) hr5 ((srI.mono (e3.trans ex5)).set iv (.ref (ex5.get aD)))⟩⟩
  exact codeAny_compStart_list loop (T.self X.A 0 _ _ _ st4 loop)
end
end DL
end
section
namespace DL
open PyProof.Rows L2
noncomputable def Zuj:Bo:=fun x y M=>match x,y with
 | .ref n,.int k=>match M[n]? with
  |some (.lst xs)=>if (-9223372036854775808<=k/\k < 9223372036854775808)/\xs.length * k.toNat<=100000 then .ok (.ref M.length) (M ++ [.lst (List.replicate k.toNat xs).flatten]) else .bad
  |none=> .bad
 |_,_=> .bad
section
variable {X:Cx}{ξ:XK}{a b:Expr}{fa fb:Ev}{pos:Pos}
end
end DL
end
namespace DL
open L2
open PySem.W
theorem Zf1:typeLookup (.type "list_reverseiterator") "__len__"=pure none:=by rw[typeLookup_type,builtinLookup_eq_fast];kernel_rfl
theorem Zjj:typeLookup (.type "list_reverseiterator") "__length_hint__"=pure (some (.builtin "list_reverseiterator.__length_hint__")):=by rw[typeLookup_type,builtinLookup_eq_fast];kernel_rfl
theorem ZlC:isSubtype (.type "list_reverseiterator") (.type "list_reverseiterator")=pure true:=by rw[isSubtype_type];kernel_rfl
theorem Zhs:splitId "list_reverseiterator.__length_hint__"=some ("list_reverseiterator","__length_hint__"):=by decide +kernel
section
variable {prog:Program}{w:World}{A:Around}{E:Vp}{s:Shared}
theorem Zjk {I:Addr}{Q:Bool->Shared->Prop}(hT:s.TypeIs (.ref I) "list_reverseiterator")(h:Q false s):wpAny (model prog w) A (Builtin.List.listLengthHint (.ref I)) Q E s:=by
 unfold Builtin.List.listLengthHint;refine Wb (wpAny_specialOf hT Zf1 ?_)
 show wpAny _ A (specialOf (Value.ref I) (Str.ofString "__length_hint__") >>= _) _ _ _
 refine Wb (wpAny_specialOf hT Zjj ?_)
 simp only[Zhs];refine Wb (wpAny_isInstance hT ZlC ?_)
 exact Wp h
end
section
variable {prog:Program}{w:World}{A:Around}{s:Shared}{R:Result->Shared->Prop}
variable {I:Addr}{fp wr:List Addr}{G:Array GenState->Array GenState->Prop}{n:Nat}{P:Nat->Value->Prop}{St:Nat->Shared->Prop}
theorem Zf2 (W:WalksS prog w A.in1 I fp wr G n P St)(hT: ∀ i s,St i s->s.TypeIs (.ref I) "list_reverseiterator")(S:Addr)(res:Value)(c₀:Nat)(hst:St 0 s)(hSf:S ∉ fp)(hI:I∈fp)
  (hS:s.heap.get? S=some { cls:= .type "list",data:= .seq #[] c₀ })
  (hR: ∀ s' acc' c',Moved (S :: wr) G s s'->s'.heap.get? S=some { cls:= .type "list",dict:=none,data:= .seq acc' c',slots:= #[] }->ItemsOf P acc' n->R (.ok (.ret res)) s') (hn:n<=sizeLine):
  wpAny (model prog w) A.in1 (Builtin.List.listExtendWith (.ref S) (.ref I) res)
   (fun fin s'=>match fin with | .done f=>R (.ok f) s' | .again c'=>c'.quiet=true/\codeAny (model prog w) A c' R s') (fun e s'=>R (.error e) s') s:=by
 have hSI:S≠I:=fun e=>hSf (e ▸ hI)
 unfold Builtin.List.listExtendWith;refine Wb (wpAny_typeOf (hT 0 _ hst) ?_)
 have h1:Builtin.List.listSameRef (.ref S) (.ref I)=false:=by simp[Builtin.List.listSameRef,hSI]
 have h2:(Value.type "list_reverseiterator" == Value.type "list")=false:=by decide
 have h3:(Value.type "list_reverseiterator" == Value.type "tuple")=false:=by decide
 simp only[h1,h2,h3,Bool.or_false,Bool.false_eq_true,if_false];refine Wb (W.self 0 _ _ _ hst ?_)
 refine Wb (wpAny_holding ?_)
 refine Zjk (hT 0 _ hst) ?_
 refine Wp ⟨plainId_quiet F.plain_extend_loop _,codeAny_extend_loopS W hn _ hSf _ n 0 _ _ _ rfl (Nat.zero_le _) hst hS (ItemsOf.nil P) fun s' acc' c' hm hS' hacc=> ?_⟩
 exact hR s' acc' c' hm hS' hacc
theorem Zdr (W:WalksS prog w A.in1 I fp wr G n P St)(hT: ∀ i s,St i s->s.TypeIs (.ref I) "list_reverseiterator")(S:Addr)(hst:St 0 s)(hSf:S ∉ fp)(hI:I∈fp)
  (hS:s.heap.get? S=some { cls:= .type "list",data:= .seq #[] })
  (hR: ∀ s' acc' c',Moved (S :: wr) G s s'->s'.heap.get? S=some { cls:= .type "list",dict:=none,data:= .seq acc' c',slots:= #[] }->ItemsOf P acc' n->R (.ok (.ret .none)) s') (hn:n<=sizeLine):
  wpAny (model prog w) A.in1 (Builtin.«list.__init__» ⟨[.ref S,.ref I],[]⟩)
   (fun fin s'=>match fin with | .done f=>R (.ok f) s' | .again c'=>c'.quiet=true/\codeAny (model prog w) A c' R s') (fun e s'=>R (.error e) s') s:=by
 show wpAny _ A.in1 (do let old <- Builtin.List.listItems (.ref S);Builtin.List.listUpdate (.ref S) (fun _=> #[]);letGo old.toList.reverse;Builtin.List.listExtendWith (.ref S) (.ref I) .none) _ _ s
 refine Wb ?_
 unfold Builtin.List.listItems;refine Wb (wpAny_seqItems hS rfl (Wp ?_))
 show wpAny _ A.in1 (updateSeq S (fun _=> #[]) >>= fun _=>letGo (#[]:Array Value).toList.reverse >>= fun _=>Builtin.List.listExtendWith (.ref S) (.ref I) .none) _ _ s
 refine Wb (wpAny_updateSeq hS rfl ?_)
 have hS₂:=Heap.get?_update_self (Obj.mapSeq (fun _=>(#[]:Array Value))) hS rfl
 have oth: ∀ b o,b≠S->s.heap.get? b=some o->(s.heap.update S (Obj.mapSeq (fun _=>(#[]:Array Value)))).get? b=some o:=
  fun b o hb e=>(Heap.get?_update_other _ _ (Ne.symm hb)).trans e
 refine Wb (wpAny_letGo ?_)
 refine Zf2 W hT S .none _ (W.frame 0 s _ s.toks hst (Nat.le_refl _) fun b hb o e=>oth b o (fun h=>hSf (h ▸ hb)) e) hSf hI hS₂ (fun s' acc' c' hm hS' hacc=> ?_) hn
 exact hR s' acc' c' (Moved.trans W.gtrans ((Moved.refl W.grefl).then_heap (Nat.le_refl _) fun b o hb e=>oth b o (fun h=>hb (h ▸ List.mem_cons_self)) e) hm) hS' hacc
end
section
variable {prog:Program}{w:World}{A:Around}{E:Vp}{s:Shared}
variable {I:Addr}{fp wr:List Addr}{G:Array GenState->Array GenState->Prop}{n:Nat}{P:Nat->Value->Prop}{St:Nat->Shared->Prop}
theorem Zds {Q:Vp}(W:WalksS prog w A.in1.in1 I fp wr G n P St)(hT: ∀ i s,St i s->s.TypeIs (.ref I) "list_reverseiterator")(hst:St 0 s)(hfp: ∀ b∈fp,b < s.heap.objs.size)(hI:I∈fp)
  (hQ: ∀ s' acc' c',Moved (s.heap.objs.size :: wr) G { s with heap:=s.heap.push { cls:= .type "list",data:= .seq #[] } } s'->
   s'.heap.get? s.heap.objs.size=some { cls:= .type "list",dict:=none,data:= .seq acc' c',slots:= #[] }->ItemsOf P acc' n->Q (.ref s.heap.objs.size) s') (hn:n<=sizeLine):
  wpAny (model prog w) A (call (.type "list") [.ref I]) Q E s:=by
 have hSf:s.heap.objs.size ∉ fp:=fun hm=>Nat.lt_irrefl _ (hfp _ hm)
 refine callType_codes (Q₁:=fun obj s₁=>obj= .ref s.heap.objs.size/\s₁={ s with heap:=s.heap.push { cls:= .type "list",data:= .seq #[] } }) F.called_list (F.typeCall_list_1 _) F.entry_list_init
  (code_list_new _ ⟨rfl,rfl⟩) fun obj s₁ h₁=> ?_
 obtain ⟨rfl,rfl⟩:=h₁
 have hS:(s.heap.push { cls:= .type "list",data:= .seq #[] }).get? s.heap.objs.size=some { cls:= .type "list",data:= .seq #[] }:=Heap.get?_push_size _ rfl
 refine ⟨⟨_,hS,rfl⟩,F.args_list_init_2 _ _,Zdr W hT _ (W.frame 0 s _ s.toks hst (Nat.le_refl _) fun b _ o e=>Hq _ e) hSf hI hS (fun s' acc' c' hm hS' hacc=> ?_) hn⟩
 exact ⟨rfl,hQ s' acc' c' hm hS' hacc⟩
end
section
variable {X:Cx}{ξ:XK}{a:Expr}{fs:Av}{p1 p2 p3 pos:Pos}{ta:TA}
def tLR (K:Fg)(t:TA):TE:=fun σ H Q=>t σ H fun vs H1=> ∃ l xs,vs=[.ref l]/\SqL K H1 l xs/\ ∀ p,H1 p=none->Q (.ref p) (upd H1 p (.lst xs.reverse))
theorem Zht {its:List Value}{acc:Array Value}(h:ItemsOf (fun i v=>its.toArray[its.toArray.size - 1 - i]?=some v) acc its.toArray.size):acc=its.reverse.toArray:=by
 obtain ⟨hz,hv⟩:=h
 apply Array.ext'
 apply List.ext_getElem?
 intro i;rw[List.toList_toArray]
 by_cases hi:i < acc.size
 ·have e:acc.toList[i]?=some acc[i]:=by rw[Array.getElem?_toList];exact Array.getElem?_eq_getElem hi
  have:=hv i _ (Array.getElem?_eq_getElem hi)
  rw[e,<- this,List.getElem?_toArray,List.size_toArray,List.getElem?_reverse (by rw[hz,List.size_toArray] at hi;exact hi)]
 ·rw[List.getElem?_eq_none (by rw[Array.length_toList];lia),List.getElem?_eq_none (by rw[hz,List.size_toArray] at hi;rw[List.length_reverse];lia)]
theorem ZqQ (hc:X.A.handled=none)(hgl:Gl X "list")(hml:X.mg "list"=none)(hg:Gl X "reversed")(hm:X.mg "reversed"=none)(ha:PA X [a] ta)(hs:starEach [a] X.env=(false,eval a X.env) :: starEach [] X.env:=by rfl)(hpl:(backTo p3 (starEach [] X.env)).any (·.1)=false:=by rfl)(hs1:starEach [.Call (.Name "reversed" p2) [a] [] p3] X.env=(false,eval (.Call (.Name "reversed" p2) [a] [] p3) X.env) :: starEach [] X.env:=by rfl)(hpl1:(backTo pos (starEach [] X.env)).any (·.1)=false:=by rfl):
  PE X (.Call (.Name "list" p1) [.Call (.Name "reversed" p2) [a] [] p3] [] pos) (tLR X.K ta):=by
 intro pins s σ H Q I h;refine wpAny_Call_Name_kw (Za1 I hgl hml Zbn (PyProof.Rows.callWith_type1 ?_ hs1 hpl1) (by decide) (by decide))
 rw[hs1];show wpAny _ _ (spliced ((false,eval (.Call (.Name "reversed" p2) [a] [] p3) X.env) :: backTo pos (starEach [] X.env))) _ _ s
 refine Calls.spliced_cons ?_
 refine wpAny_Call_Name_kw (Za1 I hg hm Zcw (PyProof.Rows.callWith_type1 (thn (ha p3 pins s σ H _ I h) fun us s1 ⟨vs,H1,I1,r1,q1⟩=> ?_) hs hpl) (by decide) (by decide))
 obtain ⟨l,xs,rfl,hq,q⟩:=q1
 obtain ⟨u,rfl,ru⟩:=Zcj r1
 cases ru
 obtain ⟨its,rv,pl,hz⟩:=I1.list hq
 have hll:l < s1.heap.objs.size:=by
  obtain ⟨o,ho,_⟩:=pl.isList
  exact Hz ho
 refine call_reversed_list pl.isList (Calls.spliced_nil ?_)
 have W:=(PySem.Walks.listRev (prog:=X.prog) (w:=X.w) (A:=X.A.in1.in1) hc s1.heap.objs.size l (Nat.ne_of_lt hll) its.toArray).toS
 have hsz:its.toArray.size<=sizeLine:=by rw[List.size_toArray,<- rv.length];exact hz
 refine Zds W (fun i s x=>x.2.1.typeIs) ⟨Nat.zero_le _,⟨_,Heap.get?_push_size _ rfl,rfl,?_⟩,?_⟩ ?_ (by simp) (fun s' acc c hmv hS hit=> ?_) hsz
 ·show Data.fields #[.ref l,rawInt ((its.toArray.size:Int) - 1)]=_
  rw[show (its.toArray.size:Int) - 1 - ((0:Nat):Int)=(its.toArray.size:Int) - 1 by lia]
 ·exact pl.isList.at fun o e=>Hq _ e
 ·intro b hb
  have:b=s1.heap.objs.size\/b=l:=by simpa using hb
  have hz2:(s1.heap.push (revObj l ((its.toArray.size:Int) - 1))).objs.size=s1.heap.objs.size + 1:=by simp[Heap.push]
  show b < (s1.heap.push (revObj l ((its.toArray.size:Int) - 1))).objs.size
  rw[hz2]
  rcases this with rfl | rfl
  ·exact Nat.lt_succ_self _
  ·exact Nat.lt_succ_of_lt hll
 ·have ea:=Zht hit
  subst ea;have hz2:(s1.heap.push (revObj l ((its.toArray.size:Int) - 1))).objs.size=s1.heap.objs.size + 1:=by simp[Heap.push]
  have K: ∀ b u,s1.heap.get? b=some u->s'.heap.get? b=some u:=by
   intro b u hb;have hlt:=Hz hb
   refine hmv.heap b u ?_ (Hq _ (Hq _ hb))
   intro hmem
   have:b=s1.heap.objs.size + 1\/b=s1.heap.objs.size:=by
    simp only[List.mem_cons,List.not_mem_nil,or_false] at hmem
    rcases hmem with e | e
    ·exact .inl (e.trans hz2)
    ·exact .inr e
   rcases this with e | e
   ·exact absurd (e ▸ hlt) (Nat.not_lt.mpr (Nat.le_succ _))
   ·exact absurd (e ▸ hlt) (Nat.lt_irrefl _)
  have es:s'={ s1 with heap:=s'.heap,toks:=s'.toks }:=by
   obtain ⟨h1,g1,d1,t1,o1⟩:=s1
   obtain ⟨h2,g2,d2,t2,o2⟩:=s'
   have e1:g2=g1:=hmv.gens
   have e2:d2=d1:=hmv.drawn
   have e3:o2=o1:=hmv.os
   subst e1 e2 e3;rfl
  have hS':s'.heap.get? (s1.heap.objs.size + 1)=some { cls:= .type "list",dict:=none,data:= .seq its.reverse.toArray c,slots:= #[] }:=by
   rw[<- hz2];exact hS
  show EP X pins σ Q (.ref (s1.heap.push (revObj l ((its.toArray.size:Int) - 1))).objs.size) s'
  rw[hz2,es];refine ⟨.ref _,_,I1.laid (t':=s'.toks) (o:= .lst xs.reverse) K (Nat.le_succ _) ?_,rfl,q _ (I1.hok.fresh (Nat.le_succ _))⟩
  exact ⟨by rw[List.length_reverse];exact hz,its.reverse,c,rv.reverse,hS'⟩
noncomputable def bLR:W3:=fun ds M1=>match ds with
 | [.ref n]=>(match M1[n]? with | some (.lst xs)=> .ok (.ref M1.length) (M1 ++ [.lst xs.reverse]) | none=> .bad)
 | [.rol xs]=> .ok (.ref M1.length) (M1 ++ [.lst xs.reverse])
 |_=> .bad
theorem ZqR (hc:X.A.handled=none)(hml:X.mg "list"=none)(hm:X.mg "reversed"=none)(ha:DA X ξ [a] fs)(hgl:Gl X "list":=by rfl)(hg:Gl X "reversed":=by rfl)(hs:starEach [a] X.env=(false,eval a X.env) :: starEach [] X.env:=by rfl)(hpl:(backTo p3 (starEach [] X.env)).any (·.1)=false:=by rfl)(hs1:starEach [.Call (.Name "reversed" p2) [a] [] p3] X.env=(false,eval (.Call (.Name "reversed" p2) [a] [] p3) X.env) :: starEach [] X.env:=by rfl)(hpl1:(backTo pos (starEach [] X.env)).any (·.1)=false:=by rfl):
  DE X ξ (.Call (.Name "list" p1) [.Call (.Name "reversed" p2) [a] [] p3] [] pos) (Zk bLR fs):=by
 obtain ⟨ta,pa,qa⟩:=ha
 refine ⟨_,ZqQ hc hgl hml hg hm pa hs hpl hs1 hpl1,fun σ ρ H α M Q s hh w=>qa σ ρ H α M _ s hh (OG.seq w fun ds M1 vs H1 α1 e1 h1 r1 w1=> ?_)⟩
 match r1 with
 | .nil=>exact w1.elim
 | .cons r (.cons _ _)=>cases r<;>exact w1.elim
 | .cons r .nil=>
  cases r with
  | @rol a xs ds hp rp=>
   have w2:OP X.K H1 α1 ξ Q (.ok (.ref M1.length) (M1 ++ [.lst ds.reverse])):=w1
   exact ⟨a,xs,rfl,hp.sq,fun l hl=>w2 _ _ (α1 ++ [l]) (Ext.new hl) (h1.new hl rp.rev) (.ref ⟨h1.last l,Kn.lst Zy⟩)⟩
  | @ref a n hp=>
   cases em:M1[n]? with
   |none=>simp only[bLR,em] at w1;exact w1.elim
   |some so=>
    cases so with
    |lst es=>
     simp only[bLR,em] at w1;obtain ⟨xs,g1,g2⟩:=h1.at hp em
     exact ⟨a,xs,rfl,SqL.of g1,fun l hl=>w1 _ _ (α1 ++ [l]) (Ext.new hl) (h1.new hl g2.rev) (.ref ⟨h1.last l,Kn.lst Zy⟩)⟩
  |_=>exact w1.elim
end
end DL
section
namespace DL3
open PyProof.Rows L2 DL
open PySem.Sem (wp)
section
variable {prog:Program}{w:World}{A:Around}{E:Vp}{s:Shared}
end
section
variable {X:Cx}{ξ:XK}{y1 y2 y3:Expr}{elts:List Expr}{k0:Nat}{tp:Pos}{fs:Av}{p pos:Pos}{ta:TA}
end
end DL3
end
section
namespace DL4
open PyProof.Rows L2 DL
open PySem.Sem (wp)
section
variable {prog:Program}{w:World}{A:Around}{E:Vp}{s:Shared}
end
section
variable {X:Cx}{ξ:XK}{y1 y2 y3 y4:Expr}{elts:List Expr}{k0:Nat}{tp:Pos}{fs:Av}{p pos:Pos}{ta:TA}
end
end DL4
end
section
namespace PySem.SeqAt
open PySem.AutoSeq1 (wpAny_loadPart')
open MeetsSeq MeetsSeq2 MeetsSeq3 SeqRoads2
def ZqS (A:Around)(s:Shared)(y x:Value)(b:Bool):Prop:=
 ∀ (prog:Program) (w:World) (E:Vp) (Q:Vp),Q (.bool b) s->wpAny (model prog w) A (richCompare .Lt y x) Q E s
noncomputable def lxI (e f:Nat->Bool)(m n:Nat):Nat->Nat->Bool
 |0,_=>decide (m < n)
 |k + 1,i=>if e i=true then lxI e f m n k (i + 1) else f i
theorem Zhu (l b:Addr)(items items2:Array Value)(n n2:Nat)(dd dd2:Option Addr)(sl sl2:Array (Option Value))(e f:Nat->Bool)(k:Nat):
  ∀ i:Nat,min items.size items2.size - i=k->Meets (Builtin.«list.__eq__.loop» ⟨[.ref l,.ref b,rawInt i,rawInt 0],[]⟩)
   (fun A R s=>s.heap.get? l=some { cls:= .type "list",dict:=dd,data:= .seq items n,slots:=sl }/\s.heap.get? b=some { cls:= .type "list",dict:=dd2,data:= .seq items2 n2,slots:=sl2 }/\
    (∀ j (h1:j < items.size) (h2:j < items2.size),EqAt A.in1 s items[j] items2[j] (e j))/\(∀ j (h1:j < items.size) (h2:j < items2.size),e j=false->ZqS A.in1 s items[j] items2[j] (f j))/\
    R (.ok (.ret (.bool (lxI e f items.size items2.size k i)))) s):=by
 induction k with
 |zero=>
  intro i hk prog w A R s h;obtain ⟨hp,g,d,tk,os⟩:=s;obtain ⟨hl,hb,he,hf,h⟩:=h
  wp_walk using wpAny_loadPart' hl,wpAny_loadPart' hb
  have hor:items[((i:Nat):Int).toNat]?=none\/items2[((i:Nat):Int).toNat]?=none:=by
   rcases Nat.lt_or_ge i items.size with c | c
   ·exact .inr (by simp;lia)
   ·exact .inl (by simp;lia)
  rcases hor with hi1 | hi2
  ·rw[hi1]
   wp_walk using wpAny_loadPart' hl,wpAny_loadPart' hb
   exact h
  ·rw[hi2]
   cases hi1:items[((i:Nat):Int).toNat]? with
   |none=>
    wp_walk using wpAny_loadPart' hl,wpAny_loadPart' hb
    exact h
   |some x=>
    wp_walk using wpAny_loadPart' hl,wpAny_loadPart' hb
    exact h
 |succ k ih=>
  intro i hk prog w A R s h;obtain ⟨hp,g,d,tk,os⟩:=s;obtain ⟨hl,hb,he,hf,h⟩:=h
  wp_walk using wpAny_loadPart' hl,wpAny_loadPart' hb
  have hlt:i < items.size:=by lia
  have hlt2:i < items2.size:=by lia
  have hi1:items[((i:Nat):Int).toNat]?=some items[i]:=by simp[hlt]
  have hi2:items2[((i:Nat):Int).toNat]?=some items2[i]:=by simp[hlt2]
  have hc:((i:Int) + 1)=((i + 1:Nat):Int):=by push_cast;rfl
  rw[lxI] at h;rw[hi1,hi2];refine Wb (he i hlt hlt2 prog w _ _ ?_)
  cases hb':e i with
  |true=>
   rw[if_pos hb'] at h
   wp_walk
   rw[hc];exact ⟨plainId_quiet plain_eq_loop _,codeAny_builtin entry_eq_loop (by
    rw[Around.under_plainId plain_eq_loop _];exact ih (i + 1) (by lia) prog w A R _ ⟨hl,hb,he,hf,h⟩)⟩
  |false=>
   rw[if_neg (by rw[hb'];decide)] at h
   wp_walk using wpAny_loadPart' hl,wpAny_loadPart' hb
   rw[hi1,hi2];refine Wb (hf i hlt hlt2 hb' prog w _ _ ?_)
   wp_walk
   exact h
theorem Zhv (l b:Addr)(items items2:Array Value)(n n2:Nat)(dd dd2:Option Addr)(sl sl2:Array (Option Value))(e f:Nat->Bool):
  Meets (Builtin.«list.__lt__» ⟨[.ref l,.ref b],[]⟩)
   (fun A R s=>s.heap.get? l=some { cls:= .type "list",dict:=dd,data:= .seq items n,slots:=sl }/\s.heap.get? b=some { cls:= .type "list",dict:=dd2,data:= .seq items2 n2,slots:=sl2 }/\
    (∀ j (h1:j < items.size) (h2:j < items2.size),EqAt A.in1 s items[j] items2[j] (e j))/\(∀ j (h1:j < items.size) (h2:j < items2.size),e j=false->ZqS A.in1 s items[j] items2[j] (f j))/\
    R (.ok (.ret (.bool (lxI e f items.size items2.size (min items.size items2.size) 0)))) s):=by
 intro prog w A R s h;obtain ⟨hp,g,d,tk,os⟩:=s;obtain ⟨hl,hb,he,hf,h⟩:=h
 have f3:=AutoSeq1.sub_list_list
 wp_walk using wpAny_loadPart' hl,wpAny_loadPart' hb
 exact ⟨plainId_quiet plain_eq_loop _,codeAny_builtin entry_eq_loop (by
  rw[Around.under_plainId plain_eq_loop _];exact Zhu l b items items2 n n2 dd dd2 sl sl2 e f _ 0 rfl prog w A R _ ⟨hl,hb,he,hf,h⟩)⟩
end PySem.SeqAt
namespace DL
open PyProof.Rows L2
open PySem.SeqAt
noncomputable def Zal:List D->Option (List Int)
 | []=>some []
 | .int i :: r=>match Zal r with | some is=>some (i :: is) | none=>none
 |_ :: _=>none
def ltE:D->D->Option Bool
 | .int a,.int b=>some (decide (a < b))
 | .tup xs,.tup ys=>(match Zal xs,Zal ys with | some a,some b=>some (HT.Z1 a b) | _,_=>none)
 |_,_=>none
def ltL:List D->List D->Option Bool
 | [],[]=>some false
 | [],_ :: _=>some true
 |_ :: _,[]=>some false
 |x :: xs,y :: ys=>match ltE x y with
  |none=>none
  |some b=>if eqX x y=true then ltL xs ys else some b
where eqX:D->D->Bool
 | .int a,.int b=>a == b
 | .tup xs,.tup ys=>Zal xs == Zal ys
 |_,_=>false
theorem Zd4 {M:Sto}{n:Nat}: ∀ {xs ys:List D} {a b:List Int},Zal xs=some a->Zal ys=some b->eqL (eqF (n + 1) M) xs ys=some (a == b)
 | [],[],a,b,h1,h2=>by cases h1;cases h2;rfl
 | [],y :: ys,a,b,h1,h2=>by
  cases h1
  cases y with
  |int i=>
   unfold Zal at h2
   split at h2
   ·cases h2;rfl
   ·cases h2
  |_=>cases h2
 |x :: xs,[],a,b,h1,h2=>by
  cases h2
  cases x with
  |int i=>
   unfold Zal at h1
   split at h1
   ·cases h1;rfl
   ·cases h1
  |_=>cases h1
 |x :: xs,y :: ys,a,b,h1,h2=>by
  cases x with
  |int i=>
   cases y with
   |int j=>
    unfold Zal at h1 h2
    split at h1
    ·rename_i is e1
     split at h2
     ·rename_i js e2
      cases h1
      cases h2
      rw[eqL,Zd4 e1 e2];show some ((i == j) && (is == js))=_
      rfl
     ·cases h2
    ·cases h1
   |_=>cases h2
  |_=>cases h1
theorem Zn7 {M:Sto}{n:Nat}{x y:D}{b:Bool}(h:ltE x y=some b):eqF (n + 2) M x y=some (ltL.eqX x y):=by
 cases x with
 |int i=>
  cases y with
  |int j=>rfl
  |_=>cases h
 |tup xs=>
  cases y with
  |tup ys=>
   cases e1:Zal xs with
   |none=>simp only[ltE,e1] at h;cases h
   |some a=>
    cases e2:Zal ys with
    |none=>simp only[ltE,e1,e2] at h;cases h
    |some c=>
     show eqL (eqF (n + 1) M) xs ys=_
     rw[Zd4 e1 e2];simp only[ltL.eqX,e1,e2];rfl
  |_=>cases h
 |_=>cases h
theorem ZbC {K:Fg}{H:Hp}{α:List Addr}: ∀ {vs:List V} {ds:List D} {a:List Int},Reps K H α vs ds->Zal ds=some a->vs=a.map V.int
 |_,_,a,.nil,e=>by cases e;rfl
 |_,_,a,.cons (d:=d) (ds:=ds) r t,e=>by
  cases r with
  |int i=>
   unfold Zal at e
   split at e
   ·rename_i is e1
    cases e
    rw[ZbC t e1];rfl
   ·cases e
  |_=>cases e
section
variable {X:Cx}{pins:Pn}{σ:L2.St}{H:Hp}{s:Shared}{α:List Addr}{M:Sto}
theorem ZqT (I:Inv X pins σ H s){A:Around}(hu:A.units < cLine){x y:D}{v w:V}{u z:Value}{b:Bool}(h:ltE x y=some b)(r1:Rep X.K H α v x)(r2:Rep X.K H α w y)(ru:ZM v u)(rz:ZM w z):ZqS A s u z b:=by
 intro prog w' E Q q;cases r1 with
 |int i=>
  cases r2 with
  |int j=>
   cases h
   obtain ⟨t,rfl⟩:=ru
   obtain ⟨t',rfl⟩:=rz
   exact lt_int q
  |_=>cases h
 | @tup p xs ds hp rp=>
  cases r2 with
  | @tup p2 xs2 ds2 hp2 rp2=>
   cases e1:Zal ds with
   |none=>simp only[ltE,e1] at h;cases h
   |some a=>
    cases e2:Zal ds2 with
    |none=>simp only[ltE,e1,e2] at h;cases h
    |some c=>
     simp only[ltE,e1,e2,Option.some.injEq] at h;subst h;cases ru
     cases rz
     have h1:=ZbC rp e1
     have h2:=ZbC rp2 e2
     subst h1 h2;obtain ⟨its,q1,p1,_⟩:=I.tuple (SqT.of hp)
     obtain ⟨its2,q2,p2',_⟩:=I.tuple (SqT.of hp2)
     exact HT.ZfP p1 p2' (ZbR q1) (ZbR q2) hu q
  |_=>cases h
 |_=>cases h
theorem Zkh: ∀ {xs ys:List D} {b:Bool},ltL xs ys=some b-> ∀ (e f:Nat->Bool) (i m n:Nat),(∀ j x y,xs[j]?=some x->ys[j]?=some y->(ltE x y).isSome=true->e (i + j)=ltL.eqX x y/\(ltL.eqX x y=false->ltE x y=some (f (i + j))))->m=i + xs.length->n=i + ys.length->lxI e f m n (min xs.length ys.length) i=b
 | [],[],b,h,e,f,i,m,n,hh,hm,hn=>by cases h;simp[lxI,hm,hn]
 | [],y :: ys,b,h,e,f,i,m,n,hh,hm,hn=>by cases h;simp[lxI,hm,hn]
 |x :: xs,[],b,h,e,f,i,m,n,hh,hm,hn=>by cases h;simp[lxI,hm,hn]
 |x :: xs,y :: ys,b,h,e,f,i,m,n,hh,hm,hn=>by
  rw[ltL] at h;cases el:ltE x y with
  |none=>rw[el] at h;cases h
  |some c=>
   rw[el] at h
   simp only at h
   obtain ⟨h1,h2⟩:=hh 0 x y rfl rfl (by rw[el];rfl)
   rw[Nat.add_zero] at h1 h2;rw[List.length_cons,List.length_cons,Nat.succ_min_succ,lxI,h1]
   by_cases q:ltL.eqX x y=true
   ·rw[if_pos q] at h ⊢
    exact Zkh h e f (i + 1) m n (fun j a b' ha hb hs=>by
     have:=hh (j + 1) a b' (by simpa using ha) (by simpa using hb) hs
     rw[show i + (j + 1)=i + 1 + j by lia] at this
     exact this) (by rw[hm,List.length_cons];lia) (by rw[hn,List.length_cons];lia)
   ·rw[if_neg q] at h ⊢
    cases h
    have:=h2 (by simpa using q)
    rw[el] at this;exact (Option.some.inj this).symm
def Zb6:List D->List D->Bool
 |x :: xs,y :: ys=>(ltE x y).isSome && Zb6 xs ys
 |_,_=>true
theorem Zcx: ∀ {xs ys:List D},Zb6 xs ys=true-> ∀ (j:Nat) x y,xs[j]?=some x->ys[j]?=some y->(ltE x y).isSome=true
 | [],_,_,j,x,y,hx,_=>by simp at hx
 |_ :: _,[],_,j,x,y,_,hy=>by simp at hy
 |x0 :: xs,y0 :: ys,h,j,x,y,hx,hy=>by
  rw[Zb6,Bool.and_eq_true] at h;cases j with
  |zero=>simp at hx hy;subst hx hy;exact h.1
  |succ j=>exact Zcx h.2 j x y (by simpa using hx) (by simpa using hy)
def ZsZ (X:Cx):R2:=fun v w H Q=> ∃ α M p q xs ys ds es b,HR X.K H α M/\v= .ref p/\w= .ref q/\H p=some (.lst xs)/\H q=some (.lst ys)/\Reps X.K H α xs ds/\Reps X.K H α ys es/\Zb6 ds es=true/\ltL ds es=some b/\Q (.bl b) H
theorem Zdt: ∀ {xs:List V} {us:List Value} {j:Nat} {u:Value},ZO xs us->us[j]?=some u-> ∃ x,xs[j]?=some x/\ZM x u
 | [],us,j,u,h,e=>by cases h;simp at e
 |x :: xs,us,j,u,h,e=>by
  cases h with
  |cons h1 h2=>
   cases j with
   |zero=>simp at e;subst e;exact ⟨x,rfl,h1⟩
   |succ j=>simp at e;obtain ⟨y,g1,g2⟩:=Zdt h2 e;exact ⟨y,by simpa using g1,g2⟩
theorem Zcy {K:Fg}: ∀ {xs:List V} {ds:List D} {j:Nat} {x:V},Reps K H α xs ds->xs[j]?=some x-> ∃ d,ds[j]?=some d/\Rep K H α x d
 |_,_,j,x,.nil,e=>by simp at e
 |_,_,0,x,.cons r _,e=>by simp at e;subst e;exact ⟨_,rfl,r⟩
 |_,_,j + 1,x,.cons _ t,e=>by
  obtain ⟨d,g1,g2⟩:=Zcy (j:=j) t (by simpa using e)
  exact ⟨d,by simpa using g1,g2⟩
theorem Zn8 (hu:X.A.units + 64 < cLine):OpR X (compareOp .Lt) (ZsZ X):=by
 intro pins s σ H x y v u Q I rx ry hh;obtain ⟨α,M,p,q,xs,ys,ds,es,b,hr,e1,e2,hp,hq,r1,r2,hc,hl,k⟩:=hh
 subst e1 e2;cases (show v=Value.ref p from rx)
 cases (show u=Value.ref q from ry)
 obtain ⟨its,v1,p1,_⟩:=I.list (SqL.of hp)
 obtain ⟨its2,v2,p2,_⟩:=I.list (SqL.of hq)
 obtain ⟨⟨cls,dd,data,sl⟩,ho,hcl,n,hd⟩:=id p1.isList
 obtain ⟨⟨cls2,dd2,data2,sl2⟩,ho2,hcl2,n2,hd2⟩:=id p2.isList
 simp only at hcl hd hcl2 hd2
 subst hcl hd hcl2 hd2
 let e:Nat->Bool:=fun j=>match ds[j]?,es[j]? with | some a,some c=>ltL.eqX a c | _,_=>false
 let f:Nat->Bool:=fun j=>match ds[j]?,es[j]? with | some a,some c=>(ltE a c).getD false | _,_=>false
 have both: ∀ j (h1:j < its.toArray.size) (h2:j < its2.toArray.size),∃ a c vx vy,ds[j]?=some a/\es[j]?=some c/\Rep X.K H α vx a/\Rep X.K H α vy c/\ZM vx its.toArray[j]/\ZM vy its2.toArray[j]:=by
  intro j h1 h2;obtain ⟨vx,g1,g2⟩:=Zdt (j:=j) (u:=its.toArray[j]) v1 (by simp at h1;simp[h1])
  obtain ⟨vy,g3,g4⟩:=Zdt (j:=j) (u:=its2.toArray[j]) v2 (by simp at h2;simp[h2])
  obtain ⟨a,g5,g6⟩:=Zcy r1 g1
  obtain ⟨c,g7,g8⟩:=Zcy r2 g3
  exact ⟨a,c,vx,vy,g5,g7,g6,g8,g2,g4⟩
 have lx:lxI e f its.toArray.size its2.toArray.size (min its.toArray.size its2.toArray.size) 0=b:=by
  have l1:its.toArray.size=ds.length:=by rw[List.size_toArray,<- v1.length,r1.length]
  have l2:its2.toArray.size=es.length:=by rw[List.size_toArray,<- v2.length,r2.length]
  rw[l1,l2];refine Zkh hl e f 0 _ _ (fun j a c ha hb hs=> ?_) (by lia) (by lia)
  rw[Nat.zero_add];refine ⟨by show (match ds[j]?,es[j]? with | some a,some c=>ltL.eqX a c | _,_=>false)=_;rw[ha,hb],fun _=> ?_⟩
  show _=some (match ds[j]?,es[j]? with | some a,some c=>(ltE a c).getD false | _,_=>false)
  obtain ⟨b',hb'⟩:=Option.isSome_iff_exists.mp hs
  simp[ha,hb,hb']
 refine richCompare_meets_room (op:= .Lt) ⟨_,ho,rfl⟩ ⟨_,ho2,rfl⟩ F.slot_list_lt F.entry_list_lt (F.args_list_lt_2 _ _) (Zhv p q its.toArray its2.toArray n n2 dd dd2 sl sl2 e f)
  ⟨ho,ho2,fun j h1 h2=> ?_,fun j h1 h2 ej=> ?_,?_⟩ (by lia)
 ·obtain ⟨a,c,vx,vy,g1,g2,g3,g4,g5,g6⟩:=both j h1 h2
  have hs:=Zcx hc j a c g1 g2
  obtain ⟨b',hb'⟩:=Option.isSome_iff_exists.mp hs
  have ee:e j=ltL.eqX a c:=by show (match ds[j]?,es[j]? with | some a,some c=>ltL.eqX a c | _,_=>false)=_;rw[g1,g2]
  rw[ee];exact (eq3 I hr 12 a c vx vy _ _ _ _ (by rw[Around.in1_units];lia) (Zn7 (n:=10) hb') g3 g4 g5 g6).1
 ·obtain ⟨a,c,vx,vy,g1,g2,g3,g4,g5,g6⟩:=both j h1 h2
  have hs:=Zcx hc j a c g1 g2
  obtain ⟨b',hb'⟩:=Option.isSome_iff_exists.mp hs
  have ff:f j=b':=by show (match ds[j]?,es[j]? with | some a,some c=>(ltE a c).getD false | _,_=>false)=_;rw[g1,g2];simp only;rw[hb'];rfl
  rw[ff];exact ZqT I (by rw[Around.in1_units];lia) hb' g3 g4 g5 g6
 ·rw[lx]
  show Value.bool b≠Value.notImplemented/\EP X pins σ Q (.bool b) s
  exact ⟨(fun z=>nomatch z),(⟨V.bl b,H,I,rfl,k⟩:EP X pins σ Q (.bool b) s)⟩
def dLtL:Bo:=fun x y M=>match x,y with
 | .ref n,.ref m=>(match M[n]?,M[m]? with | some (.lst ds),some (.lst es)=>if Zb6 ds es=true then (match ltL ds es with | some b=> .ok (.bl b) M | none=> .bad) else .bad | _,_=> .bad)
 |_,_=> .bad
theorem Zhw {x y:D}{M:Sto}(h:dLtL x y M≠ .bad): ∃ n m,x= .ref n/\y= .ref m:=by
 unfold dLtL at h
 split at h
 ·rename_i n m;exact ⟨n,m,rfl,rfl⟩
 ·exact absurd rfl h
theorem Zn9 {ξ:XK}:BO X ξ (ZsZ X) dLtL:=by
 intro H α M v w x y Q h r1 r2 q;obtain ⟨n,m,rfl,rfl⟩:=Zhw (x:=x) (y:=y) (M:=M) fun z=>by rw[z] at q;exact q.elim
 cases r1 with
 | @ref p n hp=>
  cases r2 with
  | @ref p2 m hp2=>
   simp only[dLtL] at q;cases e1:M[n]? with
   |none=>simp only[e1] at q;exact q.elim
   |some so=>
    cases e2:M[m]? with
    |none=>cases so;simp only[e1,e2] at q;exact q.elim
    |some so2=>
     cases so with
     |lst ds=>
      cases so2 with
      |lst es=>
       simp only[e1,e2] at q
       by_cases hc:Zb6 ds es=true
       ·rw[if_pos hc] at q
        cases hl:ltL ds es with
        |none=>simp only[hl] at q;exact q.elim
        |some b=>
         simp only[hl] at q;obtain ⟨xs,g1,g2⟩:=h.at hp e1
         obtain ⟨ys,g3,g4⟩:=h.at hp2 e2
         exact ⟨α,M,p,p2,xs,ys,ds,es,b,h,rfl,rfl,g1,g3,g2,g4,hc,hl,q _ H α Ext.refl h (.bl b)⟩
       ·rw[if_neg hc] at q
        exact q.elim
end
end DL
end
section
namespace PySem
open PySem.Sem (wp)
section
variable {prog:Program}{w:World}{A:Around}{R:Result->Shared->Prop}{I:Addr}{fp wr:List Addr}{P:Nat->Value->Prop}{St:Nat->Heap->Prop}
end
section
variable {prog:Program}{w:World}{A:Around}{E:Vp}{s:Shared}
end
end PySem
namespace DL
open PyProof.Rows L2
open PySem.SeqAt
section
variable {X:Cx}{pins:Pn}{σ:L2.St}{H:Hp}{s:Shared}{α:List Addr}{M:Sto}
end
end DL
end
section
namespace HT
open PyProof.Rows
section
open PySem.SeqAt
open PySem.AutoSeq1 (wpAny_loadPart')
open PySem.MeetsSeq PySem.MeetsSeq2 PySem.MeetsSeq3
end
section
variable {prog:Program}{w:World}{A:Around}{E:Vp}{s:Shared}
end
end HT
namespace DL
open PyProof.Rows L2
section
variable {X:Cx}{ξ:XK}
end
end DL
end
section
namespace DL
open PyProof.Rows L2
theorem ZqU (its:List Value):slicePick its.toArray none (some 0) (some (-1))=(its.drop 1).reverse.toArray:=by
 cases its with
 |nil=>rfl
 |cons x r=>
  have h:=Zjc r.toArray
  have e:slicePick (x :: r).toArray none (some 0) (some (-1))=((List.range r.toArray.size).filterMap fun (m:Nat)=>r.toArray[((r.toArray.size:Int) - 1 + (m:Int) * (-1)).toNat]?).toArray:=by
   unfold slicePick sliceBounds sliceRange;simp only[Option.getD_some]
   congr 1
   rw[List.filterMap_map];simp only[List.size_toArray,List.length_cons];simp only[gt_iff_lt,show ¬ ((0:Int) < -1) by decide,if_false,Int.lt_irrefl]
   generalize hn:(if max (-1:Int) (min 0 (((r.length + 1:Nat):Int) - 1)) < ((r.length + 1:Nat):Int) - 1 then _ else (0:Int)).toNat=cnt;have c:cnt=r.length:=by
    rw[<- hn];have m0:max (-1:Int) (min 0 (((r.length + 1:Nat):Int) - 1))=0:=by lia
    rw[m0]
    split
    ·simp
     try lia
    ·simp
     lia
   rw[c];refine Zdl fun m hm=> ?_
   have hm':=List.mem_range.mp hm
   simp only[Function.comp];rw[show (((r.length + 1:Nat):Int) - 1 + -1 * (m:Int)).toNat=((r.length:Int) - 1 + (m:Int) * (-1)).toNat + 1 by lia]
   simp
  rw[e,h];rfl
def eR0 (f:Ev):Ev:=fun ρ M=>(f ρ M).bind fun x M1=>match x with
 | .ref n=>(match M1[n]? with | some (.lst xs)=> .ok (.ref M1.length) (M1 ++ [.lst (xs.drop 1).reverse]) | none=> .bad)
 |_=> .bad
def tR0 (K:Fg)(te:TE):TE:=fun σ H Q=>te σ H fun x H1=> ∃ a xs,x= .ref a/\SqL K H1 a xs/\ ∀ p,H1 p=none->Q (.ref p) (upd H1 p (.lst (xs.drop 1).reverse))
theorem ZqV {X:Cx}{e:Expr}{p2 p3 p4 p5 pos:Pos}{j j0:Nat}{te:TE}(he:PE X e te):PE X (.Subscript e (.Slice none (some (.Constant (.int 0) j0 p5)) (some (.UnaryOp .USub (.Constant (.int 1) j p3) p4)) p2) pos) (tR0 X.K te):=by
 intro pins s σ H Q I h;refine Subscript_ (thn (he pins s σ H _ I h) fun v s1 ⟨x,H1,I1,r1,q1⟩=> ?_)
 refine wpAny_Slice ?_
 rw[evalPart_none];refine Wp ?_
 rw[evalPart_some];refine thn (Zgw pins s1 σ H1 (fun v H'=>v= .int 0/\H'=H1) I1 ⟨rfl,rfl⟩) fun u0 s1' ⟨y0,H1',I1',r2',ey0,eH0⟩=> ?_
 subst ey0 eH0;obtain ⟨t0,rfl⟩:=r2'
 rw[evalPart_some];refine thn (Zm4 ZjZ Zgw pins s1' σ H1' (fun v H'=>v= .int (-1)/\H'=H1') I1' ⟨1,rfl,rfl,rfl⟩) fun u s2 ⟨y,H2,I2,r2,ey,eH⟩=> ?_
 subst ey eH;obtain ⟨t,rfl⟩:=r2
 have I4:Inv X pins σ H2 { s2 with heap:=s2.heap.push { cls:= .type "slice",data:= .fields #[.none,.int 0 t0,.int (-1) t] } }:=I2.kept (t':=s2.toks) fun b ob q=>Hq _ q
 show wpAny (model X.prog X.w) X.A (subscriptTail e (.Slice none (some (.Constant (.int 0) j0 p5)) (some (.UnaryOp .USub (.Constant (.int 1) j p3) p4)) p2) v (.ref s2.heap.objs.size)) (EP X pins σ Q) X.xe { s2 with heap:=s2.heap.push { cls:= .type "slice",data:= .fields #[.none,.int 0 t0,.int (-1) t] } }
 obtain ⟨a,xs,rfl,hq,q⟩:=q1
 cases r1
 obtain ⟨its,rv,ht,hz⟩:=I4.list hq
 have hsz:its.toArray.size<=sizeLine:=by rw[List.size_toArray,<- rv.length];exact hz
 refine tail_any (ops:=[.ref a,.ref s2.heap.objs.size]) ht.isList.typeIs slot_list_getitem.lookup (wpAny_getItem_list_slice ht.isList (Heap.IsSliceOf.new ..) .none (.int 0 t0) (.int (-1) t) (by decide) ?_ hsz) (by with_unfolding_all rfl)
 rw[ZqU];refine ⟨.ref _,_,I4.laid (t':=s2.toks) (o:= .lst (xs.drop 1).reverse) (fun _ _ q=>Hq _ q) (Nat.le_refl _) ?_,rfl,q _ (I4.hok.fresh (Nat.le_refl _))⟩
 exact ⟨by rw[List.length_reverse,List.length_drop];lia,(its.drop 1).reverse,0,(rv.drop 1).reverse,Heap.get?_push_size _ rfl⟩
theorem Zhx {K:Fg}{H:Hp}{α:List Addr}: ∀ {vs:List V} {ds:List D},Reps K H α vs ds->Reps K H α (vs.drop 1) (ds.drop 1)
 |_,_,.nil=> .nil
 |_,_,.cons _ t=>t
theorem ZqW {X:Cx}{ξ:XK}{e:Expr}{f:Ev}{p2 p3 p4 p5 pos:Pos}{j j0:Nat}(he:DE X ξ e f):DE X ξ (.Subscript e (.Slice none (some (.Constant (.int 0) j0 p5)) (some (.UnaryOp .USub (.Constant (.int 1) j p3) p4)) p2) pos) (eR0 f):=by
 obtain ⟨t,p,q⟩:=he
 refine ⟨_,ZqV p,fun σ ρ H α M Q s h w=>q σ ρ H α M _ s h (OG.seq w fun x M1 v H1 α1 e1 h1 r1 w1=> ?_)⟩
 cases r1 with
 | @ref a n hp=>
  cases em:M1[n]? with
  |none=>simp only[em] at w1;exact w1.elim
  |some so=>
   cases so with
   |lst es=>
    simp only[em] at w1;obtain ⟨xs,g1,g2⟩:=h1.at hp em
    exact ⟨a,xs,rfl,SqL.of g1,fun l hl=>w1 _ _ (α1 ++ [l]) (Ext.new hl) (h1.new hl (Zhx g2).rev) (.ref ⟨h1.last l,Kn.lst Zy⟩)⟩
 |_=>exact w1.elim
end DL
end
section
namespace DL
open PyProof.Rows L2
section
variable {X:Cx}{pins:Pn}{σ:L2.St}{H:Hp}{s:Shared}{a b:Addr}{v:V}{r:Value}{A:Around}{E:Vp}
theorem Zoa {kvs:List (List Key × V)}{k:List Key}{Q:Unit->Shared->Prop}(hu:A.units < cLine)(I:Inv X pins σ H s)(e:H a=some (.dT kvs))(eb:H b=some (.tup (k.map kV)))(l:kvs.length < sizeLine)(rv:ZM v r)(h: ∀ s',Inv X pins σ (upd H a (.dT (ZgP kvs k v))) s'->Q () s'):
  wpAny (model X.prog X.w) A (dictSet a (.ref b) r) Q E s:=by
 obtain ⟨z,hd,xs,rel,dd⟩:=L2.ZiW I.hok e
 have hz:xs.length<=sizeLine:=by rw[<- Paired.length rel];exact z
 have hl:(ZgP kvs k v).length<=sizeLine:=by have:=ZeB kvs k v;lia
 refine wpAny_dictSet_heap (hsz:=hz) (knd:=tupleKind (Zai X.prog X.w)) hu (ZgQ I.hok eb) dd fun h' dd' hs=>h _ ?_
 obtain ⟨q,es,ep,hq,h2,h3,h4,_,h5⟩:=dd'
 refine Zlg I (by rw[e];exact True.intro) hs ⟨q,hq⟩ ⟨hl,hd,_,(rel.put k eb rv).keeps fun c ys ec=> ?_,q,es,ep,hq,h2,h3,h4,h5⟩
 rw[ZF (Zqj ec e (fun z=>nomatch z))]
 exact ec
end
def Zbg (src:Src)(tg:Tg)(c:Tv)(fk fv:Ev)(n:Nat):Nat->Nat->Ro->Sto->Out Unit
 |fuel,i,ρ,M=>match nxt src i M with
  |none=> .bad
  |some none=> .ok () M
  |some (some d)=>(match fuel with
   |0=> .bad
   |fuel + 1=>(match tg d ρ with
    |none=> .bad
    |some ρ1=>(match c ρ1 M with
     | .ok true M1=>(match fk ρ1 M1 with
      | .ok x M2=>(match fv ρ1 M2 with
       | .ok y M3=>(match Zn3 M3 (.dt n) x y with
        |some M4=>Zbg src tg c fk fv n fuel (i + 1) ρ1 M4
        |none=> .bad)
       |_=> .bad)
      |_=> .bad)
     | .ok false M1=>Zbg src tg c fk fv n fuel (i + 1) ρ1 M1
     |_=> .bad)))
def Zd5 (fi:Ro->Sto->Out Src)(k:Nat)(fr:List Nat)(tg:Tg)(c:Tv)(fk fv:Ev):Ev:=fun ρ M=>(fi ρ M).bind fun src M1=>match Zbg src tg c fk fv M1.length (cnt src M1) 0 (roB k fr ρ) (M1 ++ [.lst []]) with
 | .ok _ M2=> .ok (.dt M1.length) M2
 |_=> .bad
theorem Zdu {prog:Program}{w:World}{A:Around}{R:Result->Shared->Prop}{s:Shared}{kx vx target iter:Expr}{ifs:List Expr}{scope:Scope}{pos:Pos}{it:Value}{D:Addr}{env:Env}(I:Nat->Shared->Prop)
  (turn: ∀ n s,I n s->wpAny (model prog w) A (pyNext it) (fun r s₁=>match r with
   |none=>R (.ok .next) s₁
   |some v=>wpAny (model prog w) A (letOwnedTupleGo target it v) (fun _ s₁=>wpAny (model prog w) A (assign target env v) (fun _ s₂=>
     wpAny (model prog w) A (forIn ifs true fun c r=>if r=true then do let ok <- isTrue c env (eval c env);pure (ForInStep.yield ok) else pure (ForInStep.yield r)) (fun ok s₃=>
      if ok=true then wpAny (model prog w) A (eval kx env) (fun kv s₄=>wpAny (model prog w) A (eval vx env) (fun vv s₅=>
       wpAny (model prog w) A (dictSet D kv vv) (fun _ s₆=> ∃ m,m < n/\I m s₆) (fun _ _=>False) s₅) (fun _ _=>False) s₄) (fun _ _=>False) s₃
      else ∃ m,m < n/\I m s₃) (fun _ _=>False) s₂) (fun _ _=>False) s₁) (fun _ _=>False) s₁) (fun _ _=>False) s)
  (n:Nat) (h:I n s):
  codeAny (model prog w) A (.compLoop (.DictComp kx vx [⟨target,iter,ifs,0⟩] scope pos) 0 it (.ref D) env) R s:=by
 refine codeAny_loop rfl I (fun n s hI=> ?_) n h
 show wpAny _ A ((compTurn (.DictComp kx vx [⟨target,iter,ifs,0⟩] scope pos) 0 it (.ref D) env).onRaise (fun x=>do noteFrame x env;theTreesLotGoes x)) _ _ s
 refine wpAny_noted ?_
 rw[compTurn_dict];refine Wb (wpAny_standAt (Wb (wpAny_mono (turn n s hI) (fun r s₁ h₁=> ?_) fun _ _ h'=>h'.elim)))
 cases r with
 |none=>exact Wp h₁
 |some v=>
  refine Wb (wpAny_mono h₁ (fun _ s₁ h₁=> ?_) fun _ _ h'=>h'.elim)
  refine Wb (wpAny_mono h₁ (fun _ s₂ h₂=>Wb (wpAny_mono h₂ (fun ok s₃ h₃=> ?_) fun _ _ h'=>h'.elim)) fun _ _ h'=>h'.elim)
  cases ok with
  |false=>exact Wp ⟨rfl,h₃⟩
  |true=>
   refine Wb (Wb (wpAny_mono h₃ (fun kv s₄ h₄=> ?_) fun _ _ h'=>h'.elim))
   refine Wb (wpAny_holding (wpAny_mono h₄ (fun vv s₅ h₅=> ?_) fun _ _ h'=>h'.elim))
   refine Wb (wpAny_standAt ?_)
   refine wpAny_holding (wpAny_mono h₅ (fun _ s₆ h₆=> ?_) fun _ _ h'=>h'.elim)
   exact Wp ⟨rfl,h₆⟩
section
variable {X:Cx}{ξ:XK}{tg iter kx vx:Expr}{ifs:List Expr}{scope:Scope}{cl:List (Str × Addr)}{N:List Str}{k:Nat}{fr:List Nat}{fi:Ro->Sto->Out Src}{gt:Tg}{c:Tv}{fk fv:Ev}{pos:Pos}
theorem Zhy {Y:Cx}{fp α3:List Addr}{it D:Addr}{tn:Nat->Heap->Prop}{J:It}{tg iter kx vx:Expr}{ifs:List Expr}{scope:Scope}{pos:Pos}{gt:Tg}{c:Tv}{fk fv:Ev}{src:Src}{H3:Hp}{σ0:L2.St}{ρ0:Ro}{M3 M9:Sto}{u9:Unit}{n0 fuel:Nat}{s4:Shared}{R:Result->Shared->Prop}
  (hu:Y.A.units + 64 < cLine) (T:Turn Y.prog Y.w Y.K Y.A tg J fp it tn) (hxe: ∀ x y,Y.xe x y->False) (fp5: ∀ {H':Hp},(∀ b∈fp,H' b=none)-> ∀ b∈fp,ZcY Y [] H' b) (hg:DG Y tg gt) (tst:DC Y ifs c) (hk:DE Y E0 kx fk) (hv:DE Y E0 vx fv)
  (sc:Zlo Y.K H3 α3 J src) (aD:RefK H3 α3 2 n0 D) (I4:Inv Y [] σ0 H3 s4) (st4:tn 0 s4.heap) (fr4: ∀ b∈fp,H3 b=none) (sr:SR Y.K H3 α3 σ0 ρ0) (h3:HR Y.K H3 α3 M3) (er:Zbg src gt c fk fv n0 fuel 0 ρ0 M3= .ok u9 M9)
  (post: ∀ σ5 H5 α5 s6,Inv Y [] σ5 H5 s6->Ext Y.K H3 H5 α3 α5->HR Y.K H5 α5 M9->R (.ok .next) s6):
  codeAny (model Y.prog Y.w) Y.A (.compLoop (.DictComp kx vx [⟨tg,iter,ifs,0⟩] scope pos) 0 (.ref it) (.ref D) Y.env) R s4:=by
 obtain ⟨tt,pt,qt⟩:=hg
 obtain ⟨tk,pk,qk⟩:=hk
 obtain ⟨tv,pv,qv⟩:=hv
 refine Zdu (CmI Y fp tn H3 α3 fun n i ρ' M'=>Zbg src gt c fk fv n0 n i ρ' M'= .ok u9 M9) ?_ fuel ⟨0,σ0,ρ0,H3,α3,M3,I4,st4,fr4,sr,h3,Ext.refl,er⟩
 rintro n s5 ⟨i,σ5,ρ5,H5,α5,M5,I5,st5,fr5,sr5,hr5,ex5,en⟩
 have src5:=sc i H5 α5 M5 ex5 hr5
 rw[Zbg] at en;cases ex:nxt src i M5 with
 |none=>rw[ex] at en;cases en
 |some od=>
  rw[ex] at src5 en;cases od with
  |none=>
   cases en
   have fin:=T.done Y rfl rfl rfl rfl i [] s5 σ5 H5 (fun _ _=>False) I5 (fp5 fr5) st5 src5
   refine thn fin fun r s6 w6=> ?_
   obtain ⟨hr6,I6⟩:=w6
   subst hr6;exact post σ5 H5 α5 s6 I6 ex5 hr5
  |some d=>
   obtain ⟨go,yl⟩:=src5
   cases n with
   |zero=>cases en
   |succ n=>
    simp only at en
    have itm:=T.item Y rfl rfl rfl rfl i [] s5 σ5 H5 (fun _ _=>False) I5 (fp5 fr5) st5 go
    refine thn itm fun r s6 ⟨u,hr6,w6⟩=> ?_
    subst hr6;refine thn w6 fun _ s7 ⟨x,H7,I7,r7,y7,st7,fr7⟩=> ?_
    obtain ⟨ex7,hr7,rp7⟩:=yl x H7 y7
    have sr5:=sr5.mono ex7
    have hr5:=hr7
    have ex5:=ex5.trans ex7
    have I7':=I7.pinned (fp5 fr7) (T.obj _ _ st7)
    cases eg:gt d ρ5 with
    |none=>rw[eg] at en;cases en
    |some ρ6=>
     rw[eg] at en
     simp only at en
     have asg:=pt _ s7 σ5 H7 x u _ I7' r7 (qt x d σ5 ρ5 H7 α5 ρ6 (fun σ' H'=>H'=H7/\SR Y.K H7 α5 σ' ρ6) (sr5) (rp7) eg fun σ' s'=>⟨rfl,s'⟩)
     refine wpAny_mono asg (fun _ s8 ⟨σ8,H8,I8,z8,sr8⟩=> ?_) (fun x y z=>hxe x y z)
     subst z8;have again: ∀ {σ9:L2.St} {H9:Hp} {s9:Shared},Inv Y ([] ++ Zbv fp s7.heap) σ9 H9 s9->Inv Y [] σ9 H9 s9/\tn (i + 1) s9.heap/\ ∀ b∈fp,H9 b=none:=fun {σ9 H9 s9} I9=>by
      refine ⟨I9.unpinned,T.keep _ _ _ st7 fun b hb o e=>(I9.pin (b,o) (List.mem_append_right _ (List.mem_append_right _ (Zao hb e)))).1,fun b hb=> ?_⟩
      obtain ⟨o,e,_⟩:=T.obj _ _ st7 b hb
      exact (I9.pin (b,o) (List.mem_append_right _ (List.mem_append_right _ (Zao hb e)))).2.1
     have after: ∀ (kk:Bool) (M8:Sto) (H9:Hp) (α9:List Addr) (s9:Shared),Inv Y ([] ++ Zbv fp s7.heap) σ8 H9 s9->Ext Y.K H8 H9 α5 α9->HR Y.K H9 α9 M8->c ρ6 M5= .ok kk M8->
       (if kk=true then wpAny (model Y.prog Y.w) Y.A (eval kx Y.env) (fun kv s₄=>wpAny (model Y.prog Y.w) Y.A (eval vx Y.env) (fun vv s₅=>wpAny (model Y.prog Y.w) Y.A (dictSet D kv vv) (fun _ s₆=> ∃ m,m < n + 1/\CmI Y fp tn H3 α3 (fun n i ρ' M'=>Zbg src gt c fk fv n0 n i ρ' M'= .ok u9 M9) m s₆) (fun _ _=>False) s₅) (fun _ _=>False) s₄) (fun _ _=>False) s9
        else ∃ m,m < n + 1/\CmI Y fp tn H3 α3 (fun n i ρ' M'=>Zbg src gt c fk fv n0 n i ρ' M'= .ok u9 M9) m s9):=by
      intro kk M8 H9 α9 s9 I9 ex9 hr9 ec;rw[ec] at en;cases kk with
      |false=>
       obtain ⟨a1,a2,a3⟩:=again I9
       exact Zlb ⟨n,Nat.lt_succ_self n,i + 1,σ8,ρ6,H9,α9,M8,a1,a2,a3,sr8.mono ex9,hr9,ex5.trans ex9,en⟩
      |true=>
       simp only at en
       refine Zlc ?_
       cases ef:fk ρ6 M8 with
       |exc x9 M10=>rw[ef] at en;cases en
       |bad=>rw[ef] at en;cases en
       |ok y M10=>
        rw[ef] at en
        simp only at en
        have ev:=pk _ s9 σ8 H9 (fun v H'=> ∃ α',Ext Y.K H9 H' α9 α'/\HR Y.K H' α' M10/\Rep Y.K H' α' v y) I9 (qk σ8 ρ6 H9 α9 M8 _ (sr8.mono ex9) (hr9) (by
         rw[ef];exact fun v H' α' e h r=>⟨α',e,h,r⟩))
        refine wpAny_mono ev (fun yv s10 ⟨v,H10,I10,r10,α10,ex10,hr10,rp10⟩=> ?_) (fun x y z=>hxe x y z)
        cases eg2:fv ρ6 M10 with
        |exc x9 M11=>rw[eg2] at en;cases en
        |bad=>rw[eg2] at en;cases en
        |ok y2 M11=>
         rw[eg2] at en
         simp only at en
         have ev2:=pv _ s10 σ8 H10 (fun v H'=> ∃ α',Ext Y.K H10 H' α10 α'/\HR Y.K H' α' M11/\Rep Y.K H' α' v y2) I10 (qv σ8 ρ6 H10 α10 M10 _ ((sr8.mono ex9).mono ex10) (hr10) (by
          rw[eg2];exact fun v H' α' e h r=>⟨α',e,h,r⟩))
         refine wpAny_mono ev2 (fun yv2 s11 ⟨v2,H11,I11,r11,α11,ex11,hr11,rp11⟩=> ?_) (fun x y z=>hxe x y z)
         have aD11:=ex11.get (ex10.get (ex9.get (ex5.get aD)))
         have rk:=Rep.mono ex11 rp10
         simp only[Zn3] at en;cases e5:kT y with
         |none=>simp only[e5] at en;cases en
         |some kk=>
          cases em:M11[n0]? with
          |none=>simp only[e5,em] at en;cases en
          |some so=>
           cases so with
           |lst ds=>
            simp only[e5,em] at en
            by_cases cz:ds.length < 10000000/\nfz ds=true
            ·simp only[if_pos cz] at en
             obtain ⟨kvs,g1,g2⟩:=hr11.atTn aD11 em cz.2
             have kn:Kn (upd H11 D (.dT (ZgP kvs kk v2))) D=some 2:=by unfold Kn;rw[Zy]
             have exw:Ext Y.K H11 (upd H11 D (.dT (ZgP kvs kk v2))) α11 α11:=Ext.wrK aD11.kn (fun _ _ z=>by rw[g1] at z;cases z) kn
             have eg3:=Zhp Zfr kk g2 rp11
             rw[<- Zn0 e5] at eg3;cases rk with
             | @tup tb txs tds thb trb=>
              cases r10
              have hkey:H11 tb=some (.tup (kk.map kV)):=by rw[thb,Zdp (X:=Y) trb e5]
              have st:=Zoa (A:=Y.A) (E:=fun _ _=>False) (by lia) I11 g1 hkey (by rw[Zhq g2];exact Nat.lt_of_lt_of_le cz.1 (by decide)) r11 (Q:=fun _ s'=>Inv Y ([] ++ Zbv fp s7.heap) σ8 (upd H11 D (.dT (ZgP kvs kk v2))) s') fun s' I'=>I'
              refine wpAny_mono st (fun _ s12 I12=> ?_) (fun _ _ z=>z)
              obtain ⟨a1,a2,a3⟩:=again I12
              exact ⟨n,Nat.lt_succ_self n,i + 1,σ8,ρ6,_,α11,_,a1,a2,a3,(((sr8.mono ex9).mono ex10).mono ex11).mono exw,hr11.wrO aD11.at' exw (.inr (.inr (.inl ⟨_,Zy,ZfY eg3 exw⟩))),(((ex5.trans ex9).trans ex10).trans ex11).trans exw,en⟩
             |_=>cases e5
            ·simp only[if_neg cz] at en
             cases en
     rcases tst with ⟨rfl,ec⟩ | ⟨e,rfl,tt',ptt,qtt⟩
     ·refine wpAny_tests_nil ?_
      exact after true M5 H8 α5 s8 I8 Ext.refl hr5 (by rw[ec])
     ·refine wpAny_tests_one ?_
      cases ec:c ρ6 M5 with
      |exc x9 M10=>rw[ec] at en;cases en
      |bad=>rw[ec] at en;cases en
      |ok kk M8=>
       have tv':=ptt _ s8 σ8 H8 (fun b H'=>b=kk/\ ∃ α',Ext Y.K H8 H' α5 α'/\HR Y.K H' α' M8) I8 (qtt σ8 ρ6 H8 α5 M5 _ (sr8) (hr5) (by
        rw[ec];exact fun v H' α' e h r=>⟨r,α',e,h⟩))
       refine wpAny_mono tv' (fun b s9 ⟨H9,I9,zb,α9,ex9,hr9⟩=> ?_) (fun x y z=>hxe x y z)
       subst zb;exact after b M8 H9 α9 s9 I9 ex9 hr9 ec
theorem Zjl (hu:X.A.units + 64 < cLine)(B:Blk X scope cl N k fr)(hi:DI X ξ tg iter fi)(hg: ∀ C fp s H,DG (blk X scope cl N C fp s H) tg gt)(ht: ∀ C fp s H,DC (blk X scope cl N C fp s H) ifs c)(hk: ∀ C fp s H,DE (blk X scope cl N C fp s H) E0 kx fk)(hv: ∀ C fp s H,DE (blk X scope cl N C fp s H) E0 vx fv)
  (hs: ∀ x,foldedSetIterable iter X.env x=pure x:=by intro _;rfl):DE X ξ (.DictComp kx vx [⟨tg,iter,ifs,0⟩] scope pos) (Zd5 fi k fr gt c fk fv):=by
 obtain ⟨wi,pi,qi⟩:=hi
 refine ⟨fun σ H Q=> ∃ ρ α M,SR X.K H α σ ρ/\HR X.K H α M/\OP X.K H α ξ Q (Zd5 fi k fr gt c fk fv ρ M),?_,fun σ ρ H α M Q s h q=>⟨ρ,α,M,s,h,q⟩⟩
 rintro pins s σ H Q I ⟨ρ,α,M,sr,hr,op⟩
 rw[arm_eval_DictComp];refine wpAny_comprehension_free (use:=none) rfl hs B.clos B.kind B.names ?_
 refine thn (pi pins s σ H (fun J H2=> ∃ α2 M2 src,Ext X.K H H2 α α2/\HR X.K H2 α2 M2/\Zlo X.K H2 α2 J src/\OP X.K H2 α2 ξ Q (match Zbg src gt c fk fv M2.length (cnt src M2) 0 (roB k fr ρ) (M2 ++ [.lst []]) with | .ok _ M2'=> .ok (.dt M2.length) M2' | _=> .bad)) I
  (qi σ ρ H α M _ sr hr (OG.seq op fun src M1 J H1 α1 e1 h1 r1 q1=>⟨α1,M1,src,e1,h1,r1,q1⟩))) fun v s1 w1=>thn w1 fun itv s2 w2=> ?_
 obtain ⟨it,fp,tn,J,H2,rfl,I2,T,st2,f2,α2,M2,src,e2,h2,sc,op2⟩:=w2
 have srI:=sr.mono e2
 refine wpAny_newObj_type ?_
 have I3:Inv X pins σ (upd H2 s2.heap.objs.size (.dT [])) { s2 with heap:=s2.heap.push { cls:= .type "dict",dict:=none,data:= .dict #[] } }:=I2.laid (a:=s2.heap.objs.size) (o:= .dT []) (t':=s2.toks) (fun _ _ q=>Hq _ q) (Nat.le_refl _) (ZiX s2.heap I2.big)
 have fD:H2 s2.heap.objs.size=none:=I2.fresh
 generalize hD:s2.heap.objs.size=D at I3 fD;generalize hs3:({ s2 with heap:=s2.heap.push { cls:= .type "dict",dict:=none,data:= .dict #[] } }:Shared)=s3 at I3
 generalize hH3:upd H2 D (.dT [])=H3 at I3;have h3:HR X.K H3 (α2 ++ [D]) (M2 ++ [.lst []]):=by rw[<- hH3];exact h2.newO fD (.inr (.inr (.inl ⟨[],Zy,Zho⟩)))
 have e3:Ext X.K H2 H3 α2 (α2 ++ [D]):=by rw[<- hH3];exact Ext.new fD
 have aD:RefK H3 (α2 ++ [D]) 2 M2.length D:=⟨h2.last D,by rw[<- hH3];unfold Kn;rw[Zy]⟩
 have lt2: ∀ b∈fp,b < s2.heap.objs.size:=fun b hb=>let ⟨o,e,_⟩:=T.obj _ _ st2 b hb;Hz e
 have keep3: ∀ b o,s2.heap.get? b=some o->s3.heap.get? b=some o:=fun b o e=>by rw[<- hs3];exact Hq _ e
 have f3: ∀ b∈fp,ZcY X pins H3 b:=fun b hb=>⟨by rw[<- hH3,ZF (by rw[<- hD];exact Nat.ne_of_lt (lt2 b hb))];exact (f2 b hb).1,(f2 b hb).2⟩
 have lt3: ∀ b∈fp,b < s3.heap.objs.size:=fun b hb=>let ⟨o,e,_⟩:=T.obj _ _ st2 b hb;Hz (keep3 b o e)
 have st3:tn 0 s3.heap:=T.keep _ _ _ st2 fun b _ o e=>keep3 b o e
 refine wpAny_newFunctionEnv B.cell (by intro y hy;simp at hy) (fun h₁ hns₁ hsb₁=> ?_) B.kind
 have keep4: ∀ b o,s3.heap.get? b=some o->h₁.get? b=some o:=fun b o e=>hsb₁.extBut b o (Nat.ne_of_lt (Hz e)) (Hq _ e)
 have I4:=ZeD (tk:=s3.toks + ([]:List (Str × Value)).length) B I3 f3 lt3 hns₁ keep4
 have st4:tn 0 h₁:=T.keep _ _ _ st3 fun b _ o e=>keep4 b o e
 have fp5: ∀ {H':Hp},(∀ b∈fp,H' b=none)-> ∀ b∈fp,ZcY (blk X scope cl N s3.heap.objs.size fp s3 H3) [] H' b:=fun hn b hb=>⟨hn b hb,Nat.ne_of_lt (lt3 b hb),(Zfl B I3 f3 lt3).exfs b hb,.inl hb,fun x c h=>(f3 b hb).2.2.2.2.1 x c (B.sub x c h),fun p hp=>(by simp[blk] at hp)⟩
 cases er:Zbg src gt c fk fv M2.length (cnt src M2) 0 (roB k fr ρ) (M2 ++ [.lst []]) with
 |exc x M9=>rw[er] at op2;exact op2.elim
 |bad=>rw[er] at op2;exact op2.elim
 |ok u9 M9=>
  rw[er] at op2;have loop:codeAny (model X.prog X.w) X.A (.compLoop (.DictComp kx vx [⟨tg,iter,ifs,0⟩] scope pos) 0 (.ref it) (.ref D) (compEnvC scope cl s3.heap.objs.size X.env)) (compPost (model X.prog X.w) X.A X.xe none (EP X pins σ Q) (.ref D) s3.heap.objs.size) { s3 with heap:=h₁,toks:=s3.toks + ([]:List (Str × Value)).length }:=by
   refine Zhy (Y:=blk X scope cl N s3.heap.objs.size fp s3 H3) hu T (fun _ _ z=>z) fp5 (hg _ fp s3 H3) (ht _ fp s3 H3) (hk _ fp s3 H3) (hv _ fp s3 H3) (fun i H' α' M' ex hr=>sc i H' α' M' (e3.trans ex) hr) aD I4 st4 (fun b hb=>(f3 b hb).1) ((srI.blk).mono e3) h3 er ?_
   intro σ5 H5 α5 s6 I6 ex5 hr5;obtain ⟨I7,I8⟩:=Zdk B I3 f3 I6
   obtain ⟨m6,hm6,_⟩:=id I6.loc
   exact ⟨m6,hm6,fun h' sb=>⟨.ref D,H5,I8 σ s6 h' I7 (fun b o hb e=>(sb.2 b hb).trans e),rfl,op2 _ H5 α5 (e3.trans ex5) hr5 (.dt (ex5.get aD))⟩⟩
  exact codeAny_compStart_dict loop (T.self X.A 0 _ _ _ st4 loop)
end
end DL
end
section
namespace DL
open PyProof.Rows L2
section
variable {prog:Program}{w:World}{A:Around}{E:Vp}{s:Shared}{d it:Addr}{od:Obj}{es:Array DictEntry}{ep i n:Nat}
end
section
variable {X:Cx}{pins:Pn}{σ:L2.St}{H:Hp}{s:Shared}{d:Addr}{o:Obj}{kvs:List (List Key × V)}
end
section
variable {X:Cx}{ξ:XK}{tg a:Expr}{f:Ev}{te:TE}
end
end DL
end
section
namespace DL
open PyProof.Rows L2 PySem.W
section
variable {X:Cx}{ξ:XK}{a b:Expr}{fs:Av}{p p0 pos pos0:Pos}
end
end DL
end
namespace DL
open PyProof.Rows L2 PySem.W
abbrev IsZ (h:Heap)(z TI TO:Addr)(f0:Value)(f1:Bool):Prop:=
 h.get? z=some { cls:= .type "zip",dict:=none,data:= .fields #[f0,.bool f1,.bool false,.ref TI,.ref TO],slots:= #[] }
section
variable {prog:Program}{w:World}{A:Around}{E:Vp}{s:Shared}
theorem Zjm {α:Type}{M:Model}{a:Addr}{k:Option Obj->Sem α}{Q:α->Shared->Prop}(h:wpAny M A (k (s.heap.get? a)) Q E s):wpAny M A (.loadIfAlive a k) Q E s:=fun Γ p hΓ=>by
 rw[Sem.wp_loadIfAlive];exact h Γ p hΓ
theorem Zhz {z TI TO T:Addr}{f1:Bool}{oT:Obj}{Q:Bool->Shared->Prop}(hz:IsZ s.heap z TI TO (rawInt T) f1)(hT:s.heap.get? T=some oT)
  (hQ: ∀ h',IsZ h' z TI TO (rawInt T) true->Heap.SameBut z s.heap h'->Q false { s with heap:=h' }):wpAny (model prog w) A (Builtin.SmallTypes.ownedTupleIsFree (.ref z)) Q E s:=by
 unfold Builtin.SmallTypes.ownedTupleIsFree;refine Wb (wpAny_field hz rfl (x:=rawInt T) rfl ?_)
 show wpAny _ _ (loadIfAlive (T:Int).toNat >>= _) _ _ s
 refine Wb ?_
 refine Zjm ?_
 refine Wp ?_
 rw[Int.toNat_natCast,hT];simp only[Option.isNone_some,Bool.false_eq_true,if_false];refine Wb (wpAny_field hz rfl (x:= .bool f1) rfl ?_)
 cases f1 with
 |true=>exact Wp (hQ _ hz (Heap.SameBut.refl ..))
 |false=>exact Wb (wpAny_setField_rec hz (by simp) fun h' hz' hs'=>Wp (hQ h' hz' hs'))
theorem Zd6 {z TI TO i1 i2 l1 l2 T:Addr}{f1:Bool}{oT:Obj}{k1 k2:Nat}{xs ys:Array Value}{x y:Value}{Q:Vp}(D:ZipApart z TI TO i1 i2 l1 l2)
  (hz:IsZ s.heap z TI TO (rawInt T) f1) (hT:s.heap.get? T=some oT) (hTI:IsPair s.heap TI (.ref i1) (.ref i2))
  (h1:s.heap.IsListIter i1 l1 k1) (h2:s.heap.IsListIter i2 l2 k2) (hl1:s.heap.IsList l1 xs) (hl2:s.heap.IsList l2 ys) (hx:xs[k1]?=some x) (hy:ys[k2]?=some y)
  (hQ: ∀ h',IsZ h' z TI TO (rawInt T) true->h'.IsListIter i1 l1 (k1 + 1)->h'.IsListIter i2 l2 (k2 + 1)->IsPair h' s.heap.objs.size x y->h'.objs.size=s.heap.objs.size + 1->
   (∀ c o,c≠z->c≠i1->c≠i2->s.heap.get? c=some o->h'.get? c=some o)->Q (.ref s.heap.objs.size) { s with heap:=h' }):
  wpAny (model prog w) A (Builtin.«zip.__next__» ⟨[.ref z],[]⟩) (fun fin s'=> ∃ v,fin= .done (.ret v)/\Q v s') E s:=by
 show wpAny _ _ (field (.ref z) 2 >>= _) _ _ _
 refine Wb (wpAny_field hz rfl (x:= .bool false) rfl ?_)
 show wpAny _ _ (field (.ref z) 3 >>= _) _ _ _
 refine Wb (wpAny_field hz rfl (x:= .ref TI) rfl ?_)
 refine Wb (wpAny_seqItems hTI rfl ?_)
 show wpAny _ _ (Builtin.SmallTypes.ownedTupleIsFree (.ref z) >>= _) _ _ _
 refine Wb (Zhz hz hT fun h₁ hz₁ hs₁=> ?_)
 simp only[Bool.false_eq_true,if_false];rw[<- Array.forIn_toList];simp only[List.forIn_cons,List.forIn_nil];refine Wb (Wb (Wb (wpAny_holding ?_)))
 show wpAny _ _ (Builtin.SmallTypes.nextOf (.ref i1) >>= _) _ _ _
 refine Wb (wpAny_nextOf_list_item (h1.extBut hs₁.extBut D.i1z) (hl1.extBut hs₁.extBut D.l1z) hx fun h₂ h1₂ hs₂=>Wp ?_)
 refine Wp ?_
 refine Wb (Wb (wpAny_holding ?_))
 show wpAny _ _ (Builtin.SmallTypes.nextOf (.ref i2) >>= _) _ _ _
 refine Wb (wpAny_nextOf_list_item ((h2.extBut hs₁.extBut D.i2z).extBut hs₂.extBut D.i12.symm) ((hl2.extBut hs₁.extBut D.l2z).extBut hs₂.extBut D.l2i1) hy fun h₄ h2₄ hs₄=>Wp ?_)
 refine Wp (Wp ?_)
 refine Wb (wpAny_newTuple ?_ (by show 2<=sizeLine;decide))
 have hsz:h₄.objs.size=s.heap.objs.size:=by rw[hs₄.1,hs₂.1,hs₁.1]
 have hz₄:IsZ h₄ z TI TO (rawInt T) true:=hs₄.extBut _ _ D.i2z.symm (hs₂.extBut _ _ D.i1z.symm hz₁)
 have up: ∀ c o,h₄.get? c=some o->(h₄.push { cls:= .type "tuple",data:= .seq #[x,y] }).get? c=some o:=fun c o e=>Hq _ e
 refine Wp ⟨_,rfl,?_⟩
 show Q (.ref h₄.objs.size) _
 rw[hsz];refine hQ _ (up _ _ hz₄) ((h1₂.extBut hs₄.extBut D.i12).at fun o e=>up _ o e) (h2₄.at fun o e=>up _ o e) (by rw[<- hsz];exact Heap.get?_push_size _ rfl) (by rw[Heap.size_push,hsz]) fun c o c1 c3 c4 e=>up c o (hs₄.extBut _ _ c4 (hs₂.extBut _ _ c3 (hs₁.extBut _ _ c1 e)))
theorem ZeK {z TI TO i1 i2 l1 l2 T:Addr}{f1:Bool}{oT:Obj}{k1 k2:Nat}{xs ys:Array Value}{Q:PySem.Fin->Shared->Prop}(hh:A.handled=none)(D:ZipApart z TI TO i1 i2 l1 l2)
  (hz:IsZ s.heap z TI TO (rawInt T) f1) (hT:s.heap.get? T=some oT) (hTI:IsPair s.heap TI (.ref i1) (.ref i2))
  (h1:s.heap.IsListIter i1 l1 k1) (h2:s.heap.IsListIter i2 l2 k2) (hl1:s.heap.IsList l1 xs) (hl2:s.heap.IsList l2 ys) (hend:xs[k1]?=none\/ys[k2]?=none)
  (hE: ∀ h' e,(∀ c o,c≠z->c≠i1->c≠i2->s.heap.get? c=some o->h'.get? c=some o)->(∃ o,h'.get? e=some o/\o.cls= .type "StopIteration")->E (.ref e) { s with heap:=h' }):
  wpAny (model prog w) A (Builtin.«zip.__next__» ⟨[.ref z],[]⟩) Q E s:=by
 show wpAny _ _ (field (.ref z) 2 >>= _) _ _ _
 refine Wb (wpAny_field hz rfl (x:= .bool false) rfl ?_)
 show wpAny _ _ (field (.ref z) 3 >>= _) _ _ _
 refine Wb (wpAny_field hz rfl (x:= .ref TI) rfl ?_)
 refine Wb (wpAny_seqItems hTI rfl ?_)
 show wpAny _ _ (Builtin.SmallTypes.ownedTupleIsFree (.ref z) >>= _) _ _ _
 refine Wb (Zhz hz hT fun h₁ hz₁ hs₁=> ?_)
 simp only[Bool.false_eq_true,if_false];rw[<- Array.forIn_toList];simp only[List.forIn_cons,List.forIn_nil];refine Wb (Wb (Wb (wpAny_holding ?_)))
 show wpAny _ _ (Builtin.SmallTypes.nextOf (.ref i1) >>= _) _ _ _
 cases hx:xs[k1]? with
 |none=>exact Wb (wpAny_nextOf_list_end hh (h1.extBut hs₁.extBut D.i1z) (hl1.extBut hs₁.extBut D.l1z) hx fun h₂ e hs₂ he=>hE h₂ e (fun c o c1 c3 c4 x=>hs₂ _ _ c3 (hs₁.extBut _ _ c1 x)) he)
 |some x=>
  have hy:ys[k2]?=none:=by rcases hend with h | h;rw[hx] at h;cases h;exact h
  refine Wb (wpAny_nextOf_list_item (h1.extBut hs₁.extBut D.i1z) (hl1.extBut hs₁.extBut D.l1z) hx fun h₂ h1₂ hs₂=>Wp ?_)
  refine Wp ?_
  refine Wb (Wb (wpAny_holding ?_))
  show wpAny _ _ (Builtin.SmallTypes.nextOf (.ref i2) >>= _) _ _ _
  exact Wb (wpAny_nextOf_list_end hh ((h2.extBut hs₁.extBut D.i2z).extBut hs₂.extBut D.i12.symm) ((hl2.extBut hs₁.extBut D.l2z).extBut hs₂.extBut D.l2i1) hy fun h₄ e hs₄ he=>hE h₄ e (fun c o c1 c3 c4 x=>hs₄ _ _ c4 (hs₂.extBut _ _ c3 (hs₁.extBut _ _ c1 x))) he)
def ZSt (z TI TO i1 i2 l1 l2:Addr)(xs ys:Array Value)(i:Nat)(h:Heap):Prop:=
 ((IsZip h z TI TO .none/\ ∃ a b,IsPair h TO a b)\/ ∃ (T:Addr) (f1:Bool) (oT:Obj),IsZ h z TI TO (rawInt T) f1/\h.get? T=some oT/\T≠z/\T≠i1/\T≠i2/\oT.cls= .type "tuple")/\IsPair h TI (.ref i1) (.ref i2)/\h.IsListIter i1 l1 i/\h.IsListIter i2 l2 i/\h.IsList l1 xs/\h.IsList l2 ys
theorem Zjn {z TI TO i1 i2 l1 l2:Addr}{xs ys:Array Value}{i:Nat}{x y:Value}{Q:Option Value->Shared->Prop}(D:ZipApart z TI TO i1 i2 l1 l2)(st:ZSt z TI TO i1 i2 l1 l2 xs ys i s.heap)(hx:xs[i]?=some x)(hy:ys[i]?=some y)
  (hQ: ∀ h',ZSt z TI TO i1 i2 l1 l2 xs ys (i + 1) h'->IsPair h' s.heap.objs.size x y->h'.objs.size=s.heap.objs.size + 1->(∀ c o,c≠z->c≠TO->c≠i1->c≠i2->s.heap.get? c=some o->h'.get? c=some o)->Q (some (.ref s.heap.objs.size)) { s with heap:=h' }):
  wpAny (model prog w) A (pyNext (.ref z)) Q E s:=by
 obtain ⟨st,hTI,h1,h2,hl1,hl2⟩:=st
 have lt: ∀ {c o},s.heap.get? c=some o->s.heap.objs.size≠c:=fun e=>Nat.ne_of_gt (Hz e)
 have n1:s.heap.objs.size≠i1:=by obtain ⟨_,e,_⟩:=h1;exact lt e
 have n2:s.heap.objs.size≠i2:=by obtain ⟨_,e,_⟩:=h2;exact lt e
 rcases st with ⟨hz,a,b,hTO⟩ | ⟨T,f1,oT,hz,hT,t1,t2,t3,t4⟩
 ·refine wpAny_pyNext_zip_item D hz hTI hTO h1 h2 hl1 hl2 hx hy fun h' a1 a2 a3 a4 a5 a6 hk=>hQ h' ⟨.inr ⟨_,false,_,a1,a5,lt hz,n1,n2,rfl⟩,hk _ _ D.TIz D.TITO D.TIi1 D.TIi2 hTI,a3,a4,hl1.at fun o e=>hk _ o D.l1z D.l1TO D.l1i1 D.l1i2 e,hl2.at fun o e=>hk _ o D.l2z D.l2TO D.l2i1 D.l2i2 e⟩ a5 a6 hk
 ·have hTy:s.TypeIs (.ref z) "zip":=⟨_,hz,rfl⟩
  unfold pyNext;exact Wb (wpAny_attempt (wpAny_callSpecial?_slot (name:=Str.ofString "__next__") hTy F.slot_zip_next (wpAny_call_entry F.slot_zip_next hTy F.entry_zip_next
   (Zd6 D hz hT hTI h1 h2 hl1 hl2 hx hy fun h' a1 a3 a4 a5 a6 hk=>Wp (hQ h' ⟨.inr ⟨T,true,oT,a1,hk _ _ t1 t2 t3 hT,t1,t2,t3,t4⟩,hk _ _ D.TIz D.TIi1 D.TIi2 hTI,a3,a4,hl1.at fun o e=>hk _ o D.l1z D.l1i1 D.l1i2 e,hl2.at fun o e=>hk _ o D.l2z D.l2i1 D.l2i2 e⟩ a5 a6 fun c o c1 _ c3 c4 e=>hk c o c1 c3 c4 e)) (F.args_zip_next_1 _))))
theorem ZlD {z TI TO i1 i2 l1 l2:Addr}{xs ys:Array Value}{i:Nat}{Q:Option Value->Shared->Prop}(hh:A.handled=none)(D:ZipApart z TI TO i1 i2 l1 l2)(st:ZSt z TI TO i1 i2 l1 l2 xs ys i s.heap)(hend:xs[i]?=none\/ys[i]?=none)
  (hQ: ∀ h',(∀ c o,c≠z->c≠TO->c≠i1->c≠i2->s.heap.get? c=some o->h'.get? c=some o)->Q none { s with heap:=h' }):wpAny (model prog w) A (pyNext (.ref z)) Q E s:=by
 obtain ⟨st,hTI,h1,h2,hl1,hl2⟩:=st
 rcases st with ⟨hz,a,b,hTO⟩ | ⟨T,f1,oT,hz,hT,t1,t2,t3,t4⟩
 ·exact wpAny_pyNext_zip_end hh D hz hTI hTO h1 h2 hl1 hl2 hend hQ
 ·have hTy:s.TypeIs (.ref z) "zip":=⟨_,hz,rfl⟩
  unfold pyNext;refine Wb (wpAny_attempt (wpAny_callSpecial?_slot (name:=Str.ofString "__next__") hTy F.slot_zip_next
   (wpAny_call_entry F.slot_zip_next hTy F.entry_zip_next (ZeK hh D hz hT hTI h1 h2 hl1 hl2 hend fun h' e hk he=> ?_) (F.args_zip_next_1 _))))
  obtain ⟨o,ho,hc⟩:=he
  refine Wb (wpAny_isInstance (T:="StopIteration") (b:=true) ⟨o,ho,hc⟩ isSubtype_stop ?_)
  exact Wp (hQ _ fun c o c1 _ c3 c4 e=>hk c o c1 c3 c4 e)
theorem ZSt.keep {z TI TO i1 i2 l1 l2:Addr}{xs ys:Array Value}{i:Nat}{h h':Heap}{S:Addr}(st:ZSt z TI TO i1 i2 l1 l2 xs ys i h)(hS: ∃ o,h.get? S=some o/\o.cls= .type "list")(n1:S≠l1)(n2:S≠l2)
  (hk: ∀ c o,c≠S->h.get? c=some o->h'.get? c=some o):ZSt z TI TO i1 i2 l1 l2 xs ys i h':=by
 obtain ⟨oS,eS,cS⟩:=hS
 have ne: ∀ {c o},h.get? c=some o->o.cls≠ .type "list"->c≠S:=fun e q z=>by subst z;rw[eS] at e;cases e;exact q cS
 obtain ⟨st,hTI,h1,h2,hl1,hl2⟩:=st
 refine ⟨?_,hk _ _ (ne hTI (by simp)) hTI,?_,?_,hl1.at fun o e=>hk _ o n1.symm e,hl2.at fun o e=>hk _ o n2.symm e⟩
 ·rcases st with ⟨hz,a,b,hTO⟩ | ⟨T,f1,oT,hz,hT,t1,t2,t3,t4⟩
  ·exact .inl ⟨hk _ _ (ne hz (by simp)) hz,a,b,hk _ _ (ne hTO (by simp)) hTO⟩
  ·exact .inr ⟨T,f1,oT,hk _ _ (ne hz (by simp)) hz,hk _ _ (ne hT (by rw[t4];simp)) hT,t1,t2,t3,t4⟩
 ·obtain ⟨o,e,c,r⟩:=h1
  exact ⟨o,hk _ _ (ne e (by rw[c];simp)) e,c,r⟩
 ·obtain ⟨o,e,c,r⟩:=h2
  exact ⟨o,hk _ _ (ne e (by rw[c];simp)) e,c,r⟩
noncomputable def ZIt (xs ys:Array Value)(b0:Nat)(h:Heap)(acc:Array Value):Prop:= ∀ (j:Nat) (v:Value),acc[j]?=some v-> ∃ a x y,v=Value.ref a/\b0<=a/\xs[j]?=some x/\ys[j]?=some y/\IsPair h a x y
noncomputable def ZUp (acc:Array Value):Prop:= ∀ (j k:Nat) (a b:Addr),j < k->acc[j]?=some (Value.ref a)->acc[k]?=some (Value.ref b)->a < b
theorem ZhA {z TI TO i1 i2 l1 l2 S:Addr}{xs ys:Array Value}{b0:Nat}{res:Value}{R:Result->Shared->Prop}(hh:A.handled=none)(D:ZipApart z TI TO i1 i2 l1 l2)(hn:min xs.size ys.size<=sizeLine)
  (sz:S < b0/\z < b0/\TO < b0/\i1 < b0/\i2 < b0) (nS:S≠z/\S≠TO/\S≠i1/\S≠i2/\S≠l1/\S≠l2):
  ∀ (k i:Nat) (s:Shared) (acc:Array Value) (c:Nat),min xs.size ys.size - i=k->i<=min xs.size ys.size->ZSt z TI TO i1 i2 l1 l2 xs ys i s.heap->b0<=s.heap.objs.size->s.heap.get? S=some { cls:= .type "list",dict:=none,data:= .seq acc c,slots:= #[] }->acc.size=i->ZIt xs ys b0 s.heap acc->ZUp acc->
  (∀ h' acc' c',(∀ b o,b≠S->b≠z->b≠TO->b≠i1->b≠i2->s.heap.get? b=some o->h'.get? b=some o)->h'.get? S=some { cls:= .type "list",dict:=none,data:= .seq acc' c',slots:= #[] }->acc'.size=min xs.size ys.size->ZIt xs ys b0 h' acc'->ZUp acc'->R (.ok (.ret res)) { s with heap:=h' })->
  codeAny (model prog w) A (.builtin "list.extend.loop" ⟨[.ref S,.ref z,res],[]⟩) R s:=by
 have far: ∀ {a q:Nat},b0<=a->q < b0->a≠q:=fun h1 h2=>Nat.ne_of_gt (Nat.lt_of_lt_of_le h2 h1)
 intro k
 induction k with
 |zero=>
  intro i s acc c hk hi hst hb hS hacc hit hup hR;have hin:i=min xs.size ys.size:=by lia
  refine codeAny_builtin F.entry_extend_loop ?_
  rw[Around.under_plainId F.plain_extend_loop _];show wpAny _ A.in1 (pyNext (.ref z) >>= _) _ _ s
  have hend:xs[i]?=none\/ys[i]?=none:=by
   by_cases q:xs.size<=ys.size
   ·exact .inl (Array.getElem?_eq_none (by lia))
   ·exact .inr (Array.getElem?_eq_none (by lia))
  refine Wb (ZlD hh D hst hend fun h' hk'=> ?_)
  refine Wp (hR h' acc c (fun b o _ b1 b2 b3 b4 e=>hk' b o b1 b2 b3 b4 e) (hk' S _ nS.1 nS.2.1 nS.2.2.1 nS.2.2.2.1 hS) (by lia) (fun j v e=> ?_) hup)
  obtain ⟨a,x,y,ev,ha,e1,e2,e3⟩:=hit j v e
  exact ⟨a,x,y,ev,ha,e1,e2,hk' a _ (far ha sz.2.1) (far ha sz.2.2.1) (far ha sz.2.2.2.1) (far ha sz.2.2.2.2) e3⟩
 |succ k ih=>
  intro i s acc c hk hi hst hb hS hacc hit hup hR;have hix:i < xs.size:=by lia
  have hiy:i < ys.size:=by lia
  refine codeAny_builtin F.entry_extend_loop ?_
  rw[Around.under_plainId F.plain_extend_loop _];show wpAny _ A.in1 (pyNext (.ref z) >>= _) _ _ s
  refine Wb (Zjn D hst (Array.getElem?_eq_getElem hix) (Array.getElem?_eq_getElem hiy) fun h' st' p' z' hk'=> ?_)
  have hS':=hk' S _ nS.1 nS.2.1 nS.2.2.1 nS.2.2.2.1 hS
  show wpAny _ A.in1 (updateSeq S (·.push (.ref s.heap.objs.size)) >>= _) _ _ _
  refine Wb ?_
  have oth: ∀ c o,c≠S->h'.get? c=some o->(h'.update S (Obj.mapSeq (·.push (Value.ref s.heap.objs.size)))).get? c=some o:=fun c o q e=>(Heap.get?_update_other _ _ q.symm).trans e
  refine wpAny_updateSeq hS' rfl (Wp ⟨plainId_quiet F.plain_extend_loop _,ih (i + 1) _ (acc.push (.ref s.heap.objs.size)) _ (by lia) (by lia) (st'.keep ⟨_,hS',rfl⟩ nS.2.2.2.2.1 nS.2.2.2.2.2 oth) (by show b0<=(h'.update S _).objs.size;rw[Heap.size_update];lia) (Heap.get?_update_self _ hS' rfl) (by rw[Array.size_push,hacc]) (fun j v e=> ?_) (fun j k' a b hjk e1 e2=> ?_) fun h'' acc' c' hk'' hS'' hz'' hit'' hup''=> ?_⟩)
   (by rw[hacc];lia) (by show (acc.push _).size<=sizeLine + 1;rw[Array.size_push,hacc];lia)
  ·rw[Array.getElem?_push] at e
   by_cases q:j=acc.size
   ·rw[if_pos q] at e
    cases e
    subst q;rw[hacc];exact ⟨_,_,_,rfl,hb,Array.getElem?_eq_getElem hix,Array.getElem?_eq_getElem hiy,oth _ _ (far hb sz.1) p'⟩
   ·rw[if_neg q] at e
    obtain ⟨a,x,y,ev,ha,e1,e2,e3⟩:=hit j v e
    exact ⟨a,x,y,ev,ha,e1,e2,oth _ _ (far ha sz.1) (hk' a _ (far ha sz.2.1) (far ha sz.2.2.1) (far ha sz.2.2.2.1) (far ha sz.2.2.2.2) e3)⟩
  ·rw[Array.getElem?_push] at e1 e2
   by_cases q2:k'=acc.size
   ·rw[if_pos q2] at e2
    cases e2
    rw[if_neg (by lia)] at e1
    obtain ⟨a',x,y,ev,_,_,_,e3⟩:=hit j _ e1
    cases ev
    exact Hz e3
   ·rw[if_neg q2] at e2
    have hk2:k' < acc.size:=(Array.getElem?_eq_some_iff.mp e2).1
    rw[if_neg (by lia)] at e1
    exact hup j k' a b hjk e1 e2
  ·exact hR h'' acc' c' (fun b o b0 b1 b2 b3 b4 e=>hk'' b o b0 b1 b2 b3 b4 (oth b o b0 (hk' b o b1 b2 b3 b4 e))) hS'' hz'' hit'' hup''
theorem Zf3:typeLookup (.type "zip") "__len__"=pure none:=by rw[typeLookup_type,builtinLookup_eq_fast];kernel_rfl
theorem ZeL:typeLookup (.type "zip") "__length_hint__"=pure none:=by rw[typeLookup_type,builtinLookup_eq_fast];kernel_rfl
theorem ZSt.type {z TI TO i1 i2 l1 l2:Addr}{xs ys:Array Value}{i:Nat}(st:ZSt z TI TO i1 i2 l1 l2 xs ys i s.heap):s.TypeIs (.ref z) "zip":=by
 rcases st.1 with ⟨hz,_⟩ | ⟨T,f1,oT,hz,_⟩
 ·exact ⟨_,hz,rfl⟩
 ·exact ⟨_,hz,rfl⟩
theorem ZSt.iter {z TI TO i1 i2 l1 l2:Addr}{xs ys:Array Value}{i:Nat}{Q:Vp}(st:ZSt z TI TO i1 i2 l1 l2 xs ys i s.heap)(h:Q (.ref z) s):wpAny (model prog w) A (pyIter (.ref z)) Q E s:=by
 have hT:=st.type
 refine wpAny_pyIter_slot hT F.slot_zip_iter (wpAny_call_entry F.slot_zip_iter hT F.entry_zip_iter ?_ (F.args_zip_iter_1 _))
 show wpAny _ _ (ret (.ref z)) _ _ s
 exact Wp ⟨_,rfl,"zip",_,hT,F.slot_zip_next.lookup,h⟩
theorem Zuk {z TI TO i1 i2 l1 l2 S:Addr}{xs ys:Array Value}{b0:Nat}{res:Value}{c₀:Nat}{R:Result->Shared->Prop}(hh:A.handled=none)(D:ZipApart z TI TO i1 i2 l1 l2)(hn:min xs.size ys.size<=sizeLine)
  (sz:S < b0/\z < b0/\TO < b0/\i1 < b0/\i2 < b0) (nS:S≠z/\S≠TO/\S≠i1/\S≠i2/\S≠l1/\S≠l2) (hst:ZSt z TI TO i1 i2 l1 l2 xs ys 0 s.heap) (hb:b0<=s.heap.objs.size) (hS:s.heap.get? S=some { cls:= .type "list",data:= .seq #[] c₀ })
  (hR: ∀ h' acc' c',(∀ b o,b≠S->b≠z->b≠TO->b≠i1->b≠i2->s.heap.get? b=some o->h'.get? b=some o)->h'.get? S=some { cls:= .type "list",dict:=none,data:= .seq acc' c',slots:= #[] }->acc'.size=min xs.size ys.size->ZIt xs ys b0 h' acc'->ZUp acc'->R (.ok (.ret res)) { s with heap:=h' }):
  wpAny (model prog w) A.in1 (Builtin.List.listExtendWith (.ref S) (.ref z) res)
   (fun fin s'=>match fin with | .done f=>R (.ok f) s' | .again c'=>c'.quiet=true/\codeAny (model prog w) A c' R s') (fun e s'=>R (.error e) s') s:=by
 unfold Builtin.List.listExtendWith;refine Wb (wpAny_typeOf hst.type ?_)
 have h1:Builtin.List.listSameRef (.ref S) (.ref z)=false:=by simp[Builtin.List.listSameRef,nS.1]
 have h2:(Value.type "zip" == Value.type "list")=false:=by decide
 have h3:(Value.type "zip" == Value.type "tuple")=false:=by decide
 simp only[h1,h2,h3,Bool.or_false,Bool.false_eq_true,if_false];refine Wb (hst.iter ?_)
 refine Wb (wpAny_holding ?_)
 unfold Builtin.List.listLengthHint;refine Wb (wpAny_specialOf hst.type Zf3 ?_)
 show wpAny _ A.in1 (specialOf (Value.ref z) (Str.ofString "__length_hint__") >>= _) _ _ _
 refine Wb (wpAny_specialOf hst.type ZeL ?_)
 refine Wp ?_
 show wpAny _ A.in1 (rule "list.extend.makes-room" >>= fun _=>Builtin.List.listTouch (.ref S) >>= fun _=>again (.builtin "list.extend.loop" ⟨[.ref S,.ref z,res],[]⟩)) _ _ _
 refine Wb (wpAny_rule ?_)
 refine Wb ?_
 show wpAny _ A.in1 (updateSeq S (·.push .none) >>= fun _=>updateSeq S (·.pop)) _ _ _
 refine Wb (wpAny_updateSeq hS rfl ?_)
 have hS₂:=Heap.get?_update_self (Obj.mapSeq (·.push Value.none)) hS rfl
 refine wpAny_updateSeq (hz:=by seq_fits) hS₂ rfl ?_
 have hS₃:=Heap.get?_update_self (Obj.mapSeq (·.pop)) hS₂ rfl
 have oth: ∀ b o,b≠S->s.heap.get? b=some o->((s.heap.update S (Obj.mapSeq (·.push Value.none))).update S (Obj.mapSeq (·.pop))).get? b=some o:=
  fun b o hb e=>(Heap.get?_update_other _ _ (Ne.symm hb)).trans ((Heap.get?_update_other _ _ (Ne.symm hb)).trans e)
 refine Wp ⟨plainId_quiet F.plain_extend_loop _,ZhA hh D hn sz nS _ 0 _ _ _ rfl (Nat.zero_le _) (hst.keep ⟨_,hS,rfl⟩ nS.2.2.2.2.1 nS.2.2.2.2.2 oth) (by show b0<=((s.heap.update S _).update S _).objs.size;rw[Heap.size_update,Heap.size_update];exact hb) hS₃ (by simp) (fun j v e=>by simp at e) (fun j k a b _ e=>by simp at e) fun h' acc' c' hk' hS' z' it'=> ?_⟩
 exact hR h' acc' c' (fun b o b0 b1 b2 b3 b4 e=>hk' b o b0 b1 b2 b3 b4 (oth b o b0 e)) hS' z' it'
theorem ZqX {z TI TO i1 i2 l1 l2 S:Addr}{xs ys:Array Value}{b0:Nat}{R:Result->Shared->Prop}(hh:A.handled=none)(D:ZipApart z TI TO i1 i2 l1 l2)(hn:min xs.size ys.size<=sizeLine)
  (sz:S < b0/\z < b0/\TO < b0/\i1 < b0/\i2 < b0) (nS:S≠z/\S≠TO/\S≠i1/\S≠i2/\S≠l1/\S≠l2) (hst:ZSt z TI TO i1 i2 l1 l2 xs ys 0 s.heap) (hb:b0<=s.heap.objs.size) (hS:s.heap.get? S=some { cls:= .type "list",data:= .seq #[] })
  (hR: ∀ h' acc' c',(∀ b o,b≠S->b≠z->b≠TO->b≠i1->b≠i2->s.heap.get? b=some o->h'.get? b=some o)->h'.get? S=some { cls:= .type "list",dict:=none,data:= .seq acc' c',slots:= #[] }->acc'.size=min xs.size ys.size->ZIt xs ys b0 h' acc'->ZUp acc'->R (.ok (.ret .none)) { s with heap:=h' }):
  wpAny (model prog w) A.in1 (Builtin.«list.__init__» ⟨[.ref S,.ref z],[]⟩)
   (fun fin s'=>match fin with | .done f=>R (.ok f) s' | .again c'=>c'.quiet=true/\codeAny (model prog w) A c' R s') (fun e s'=>R (.error e) s') s:=by
 show wpAny _ A.in1 (do let old <- Builtin.List.listItems (.ref S);Builtin.List.listUpdate (.ref S) (fun _=> #[]);letGo old.toList.reverse;Builtin.List.listExtendWith (.ref S) (.ref z) .none) _ _ s
 refine Wb ?_
 unfold Builtin.List.listItems;refine Wb (wpAny_seqItems hS rfl (Wp ?_))
 show wpAny _ A.in1 (updateSeq S (fun _=> #[]) >>= fun _=>letGo (#[]:Array Value).toList.reverse >>= fun _=>Builtin.List.listExtendWith (.ref S) (.ref z) .none) _ _ s
 refine Wb (wpAny_updateSeq hS rfl ?_)
 have hS₂:=Heap.get?_update_self (Obj.mapSeq (fun _=>(#[]:Array Value))) hS rfl
 have oth: ∀ b o,b≠S->s.heap.get? b=some o->(s.heap.update S (Obj.mapSeq (fun _=>(#[]:Array Value)))).get? b=some o:=
  fun b o hb e=>(Heap.get?_update_other _ _ (Ne.symm hb)).trans e
 refine Wb (wpAny_letGo ?_)
 refine Zuk hh D hn sz nS (hst.keep ⟨_,hS,rfl⟩ nS.2.2.2.2.1 nS.2.2.2.2.2 oth) (by show b0<=(s.heap.update S _).objs.size;rw[Heap.size_update];exact hb) hS₂ fun h' acc' c' hk' hS' z' it'=> ?_
 exact hR h' acc' c' (fun b o b0 b1 b2 b3 b4 e=>hk' b o b0 b1 b2 b3 b4 (oth b o b0 e)) hS' z' it'
theorem Zdv {z TI TO i1 i2 l1 l2:Addr}{xs ys:Array Value}{Q:Vp}(hh:A.handled=none)(D:ZipApart z TI TO i1 i2 l1 l2)(hn:min xs.size ys.size<=sizeLine)
  (hst:ZSt z TI TO i1 i2 l1 l2 xs ys 0 s.heap) (sz:z < s.heap.objs.size/\TO < s.heap.objs.size/\i1 < s.heap.objs.size/\i2 < s.heap.objs.size)
  (hQ: ∀ h' acc' c',(∀ b o,b≠z->b≠TO->b≠i1->b≠i2->s.heap.get? b=some o->h'.get? b=some o)->h'.get? s.heap.objs.size=some { cls:= .type "list",dict:=none,data:= .seq acc' c',slots:= #[] }->acc'.size=min xs.size ys.size->ZIt xs ys (s.heap.objs.size + 1) h' acc'->ZUp acc'->Q (.ref s.heap.objs.size) { s with heap:=h' }):
  wpAny (model prog w) A (call (.type "list") [.ref z]) Q E s:=by
 refine callType_codes (Q₁:=fun obj s₁=>obj= .ref s.heap.objs.size/\s₁={ s with heap:=s.heap.push { cls:= .type "list",data:= .seq #[] } }) F.called_list (F.typeCall_list_1 _) F.entry_list_init
  (code_list_new _ ⟨rfl,rfl⟩) fun obj s₁ h₁=> ?_
 obtain ⟨rfl,rfl⟩:=h₁
 have hS:(s.heap.push { cls:= .type "list",data:= .seq #[] }).get? s.heap.objs.size=some { cls:= .type "list",data:= .seq #[] }:=Heap.get?_push_size _ rfl
 have ls: ∀ {q:Nat},q < s.heap.objs.size->q < s.heap.objs.size + 1:=fun h=>Nat.lt_succ_of_lt h
 have nl: ∀ {l:Addr} {ws:Array Value},s.heap.IsList l ws->s.heap.objs.size≠l:=fun h=>by obtain ⟨_,e,_⟩:=h;exact Nat.ne_of_gt (Hz e)
 have st2:ZSt z TI TO i1 i2 l1 l2 xs ys 0 (s.heap.push { cls:= .type "list",data:= .seq #[] }):=by
  have up: ∀ c o,s.heap.get? c=some o->(s.heap.push { cls:= .type "list",data:= .seq #[] }).get? c=some o:=fun c o e=>Hq _ e
  obtain ⟨st,hTI,h1,h2,hl1,hl2⟩:=hst
  refine ⟨?_,up _ _ hTI,h1.at fun o e=>up _ o e,h2.at fun o e=>up _ o e,hl1.at fun o e=>up _ o e,hl2.at fun o e=>up _ o e⟩
  rcases st with ⟨hz,a,b,hTO⟩ | ⟨T,f1,oT,hz,hT,t⟩
  ·exact .inl ⟨up _ _ hz,a,b,up _ _ hTO⟩
  ·exact .inr ⟨T,f1,oT,up _ _ hz,up _ _ hT,t⟩
 refine ⟨⟨_,hS,rfl⟩,F.args_list_init_2 _ _,ZqX (A:=A.in1) (b0:=s.heap.objs.size + 1) hh D hn ⟨Nat.lt_succ_self _,ls sz.1,ls sz.2.1,ls sz.2.2.1,ls sz.2.2.2⟩ ⟨Nat.ne_of_gt sz.1,Nat.ne_of_gt sz.2.1,Nat.ne_of_gt sz.2.2.1,Nat.ne_of_gt sz.2.2.2,nl hst.2.2.2.2.1,nl hst.2.2.2.2.2⟩ st2 (by show _<=(s.heap.push _).objs.size;rw[Heap.size_push];exact Nat.le_refl _) hS fun h' acc' c' hk hS' z' it' up'=> ?_⟩
 exact ⟨rfl,hQ h' acc' c' (fun b o b1 b2 b3 b4 e=>hk b o (Nat.ne_of_lt (Hz e)) b1 b2 b3 b4 (Hq _ e)) hS' z' it' up'⟩
end
theorem HOk.add {P:Program}{w:World}{H:Hp}{h:Heap}{a:Addr}{o:HO}(x:HOk P w H h)(hn:H a=none)(new:Zay P w (upd H a o) h a o):HOk P w (upd H a o) h:=fun b u e=>by
 by_cases hb:b=a
 ·subst hb;rw[Zy] at e;cases e;exact new
 ·rw[ZF hb] at e
  exact (x b u e).stay (fun c v _ q=>q) (fun c q=>by rw[ZF (ZK q hn)];exact q) fun c xs q=>by rw[ZF (ZK q hn)];exact q
theorem Un.add {fs ex:List Addr}{H0 H:Hp}{h h':Heap}{a:Addr}{o:HO}(u:Un fs ex H0 H h h')(hp:h.objs.size<=a)(hn:H a=none):Un fs ex H0 (upd H a o) h h' where
 keep:=u.keep
 slot:=u.slot
 free:=fun b ob q n x=>by rw[ZF (Nat.ne_of_lt (Nat.lt_of_lt_of_le (Hz q) hp))];exact u.free b ob q n x
 there:=u.there
 tups:=fun b xs q=>by have:=u.tups b xs q;rw[ZF (ZK this hn)];exact this
 frzs:=fun b ob xs q=>by have:=u.frzs b ob xs q;rw[ZF (ZK this hn)];exact this
 tbls:=fun b ps q=>by obtain ⟨m,this⟩:=u.tbls b ps q;exact ⟨m,by rw[ZF (ZK this hn)];exact this⟩
def Zob (Q:VK):List (V × V)->List Addr->Hp->Prop
 | [],acc,H=> ∀ l,H l=none->Q (.ref l) (upd H l (.lst (acc.map V.ref)))
 | (x,y) :: r,acc,H=> ∀ p,H p=none->Zob Q r (acc ++ [p]) (upd H p (.tup [x,y]))
theorem Zd7 {P:Program}{w:World}{fs:List Addr}{H:Hp}{h h':Heap}{Q:VK}: ∀ (ps:List (V × V)) (as acc:List Addr) (H':Hp),HOk P w H' h'->Un fs [] H H' h h'->(∀ a∈as,h.objs.size<=a/\H' a=none)->as.Nodup->
  Paired (fun (p:V × V) (a:Addr)=> ∃ u v,ZM p.1 u/\ZM p.2 v/\IsPair h' a u v) ps as->Zob Q ps acc H'->
  ∃ H'',HOk P w H'' h'/\Un fs [] H H'' h h'/\(∀ l,l ∉ as->H' l=none->H'' l=none)/\ ∀ l,H'' l=none->Q (.ref l) (upd H'' l (.lst ((acc ++ as).map V.ref)))
 | [],[],acc,H',ok,un,_,_,.nil,q=>⟨H',ok,un,fun _ _ e=>e,by rw[List.append_nil];exact q⟩
 | (x,y) :: ps,a :: as,acc,H',ok,un,fr,nd,.cons e t,q=>by
  obtain ⟨u,v,ru,rv,hp⟩:=e
  obtain ⟨f1,f2⟩:=fr a List.mem_cons_self
  have nd':=List.nodup_cons.mp nd
  obtain ⟨H'',a1,a2,a3,a4⟩:=Zd7 ps as (acc ++ [a]) (upd H' a (.tup [x,y])) (HOk.add ok f2 ⟨by show 2<=sizeLine;decide,[u,v],.cons ru (.cons rv .nil),⟨_,hp,rfl,_,rfl⟩⟩) (Un.add un f1 f2) (fun b hb=>⟨(fr b (List.mem_cons_of_mem _ hb)).1,by
   rw[ZF (show b≠a from fun z=>nd'.1 (by rw[<- z];exact hb))];exact (fr b (List.mem_cons_of_mem _ hb)).2⟩) nd'.2 t (q a f2)
  refine ⟨H'',a1,a2,fun l hl e=>a3 l (fun z=>hl (List.mem_cons_of_mem _ z)) (by rw[ZF (show l≠a from fun z=>hl (by rw[z];exact List.mem_cons_self))];exact e),fun l hl=> ?_⟩
  have:=a4 l hl
  rw[List.append_assoc] at this;exact this
section
variable {X:Cx}{ξ:XK}{a b:Expr}{fs:Av}{p p0 pos pos0:Pos}
def tLZ (ta:TA):TE:=fun σ H Q=>ta σ H fun vs H1=> ∃ l1 l2 xs ys,vs=[.ref l1,.ref l2]/\H1 l1=some (.lst xs)/\H1 l2=some (.lst ys)/\Zob Q (xs.zip ys) [] H1
theorem ZhB {xs ys:List V}{vx vy:List Value}{h:Heap}{acc:Array Value}{b0:Nat}(rx:ZO xs vx)(ry:ZO ys vy)(hz:acc.size=min vx.length vy.length)(it:ZIt vx.toArray vy.toArray b0 h acc)(up:ZUp acc):
  ∃ as:List Addr,acc.toList=as.map Value.ref/\(∀ a∈as,b0<=a)/\as.Nodup/\Paired (fun (p:V × V) (a:Addr)=> ∃ u v,ZM p.1 u/\ZM p.2 v/\IsPair h a u v) (xs.zip ys) as:=by
 have get: ∀ j,j < acc.size-> ∃ a x y,acc[j]?=some (Value.ref a)/\b0<=a/\vx[j]?=some x/\vy[j]?=some y/\IsPair h a x y:=fun j hj=>by
  obtain ⟨a,x,y,e0,e1,e2,e3,e4⟩:=it j _ (Array.getElem?_eq_getElem hj)
  exact ⟨a,x,y,by rw[Array.getElem?_eq_getElem hj,e0],e1,by simpa using e2,by simpa using e3,e4⟩
 have fin: ∀ (n i:Nat) (xs ys:List V) (ux uy:List Value),ZO xs ux->ZO ys uy->vx.drop i=ux->vy.drop i=uy->acc.size - i=n->i<=acc.size->
   ∃ as:List Addr,acc.toList.drop i=as.map Value.ref/\(∀ a∈as,b0<=a)/\as.Pairwise (· < ·)/\Paired (fun (p:V × V) (a:Addr)=> ∃ u v,ZM p.1 u/\ZM p.2 v/\IsPair h a u v) (xs.zip ys) as:=by
  intro n
  induction n with
  |zero=>
   intro i xs ys ux uy rx ry ex ey hn hi;have hi':i=acc.size:=by lia
   refine ⟨[],by rw[List.drop_eq_nil_of_le (by rw[Array.length_toList];lia)];rfl,by simp,.nil,?_⟩
   have:xs.zip ys=[]:=by
    have lx:=rx.length
    have ly:=ry.length
    have h1:ux.length=vx.length - i:=by rw[<- ex,List.length_drop]
    have h2:uy.length=vy.length - i:=by rw[<- ey,List.length_drop]
    have:(xs.zip ys).length=0:=by rw[List.length_zip];lia
    exact List.length_eq_zero_iff.mp this
   rw[this];exact .nil
  |succ n ih=>
   intro i xs ys ux uy rx ry ex ey hn hi;have hlt:i < acc.size:=by lia
   obtain ⟨a,x,y,g0,g1,g2,g3,g4⟩:=get i hlt
   have hx:ux=x :: vx.drop (i + 1):=by
    obtain ⟨q,e⟩:=List.getElem?_eq_some_iff.mp g2
    rw[<- ex,List.drop_eq_getElem_cons q,e]
   have hy:uy=y :: vy.drop (i + 1):=by
    obtain ⟨q,e⟩:=List.getElem?_eq_some_iff.mp g3
    rw[<- ey,List.drop_eq_getElem_cons q,e]
   subst hx hy;cases rx with
   |cons r1 t1=>
    cases ry with
    |cons r2 t2=>
     obtain ⟨as,a1,a2,a3,a4⟩:=ih (i + 1) _ _ _ _ t1 t2 rfl rfl (by lia) (by lia)
     obtain ⟨q,e⟩:=Array.getElem?_eq_some_iff.mp g0
     refine ⟨a :: as,?_,fun c hc=> ?_,.cons (fun c hc=> ?_) a3,.cons ⟨x,y,r1,r2,g4⟩ a4⟩
     ·rw[List.drop_eq_getElem_cons (by rw[Array.length_toList];exact hlt),a1,Array.getElem_toList,e]
      rfl
     ·rcases List.mem_cons.mp hc with z | z
      ·rw[z];exact g1
      ·exact a2 c z
     ·obtain ⟨j,hj,ec⟩:=List.getElem_of_mem hc
      have:acc[i + 1 + j]?=some (Value.ref c):=by
       rw[<- Array.getElem?_toList,<- List.getElem?_drop,a1,List.getElem?_map,List.getElem?_eq_getElem hj,ec]
       rfl
      exact up i (i + 1 + j) a c (by lia) g0 this
 obtain ⟨as,a1,a2,a3,a4⟩:=fin _ 0 xs ys vx vy rx ry rfl rfl rfl (Nat.zero_le _)
 exact ⟨as,a1,a2,a3.imp (fun h=>Nat.ne_of_lt h),a4⟩
theorem ZqY {ta:TA}(hc:X.A.handled=none)(hm:X.mg "zip"=none)(hml:X.mg "list"=none)(ha:PA X [a,b] ta)(hg:Gl X "zip":=by rfl)(hgl:Gl X "list":=by rfl)(hs:starEach [a,b] X.env=[(false,eval a X.env),(false,eval b X.env)]:=by rfl)(hs2:starEach [b] X.env=[(false,eval b X.env)]:=by rfl)(hs':starEach [.Call (.Name "zip" p) [a,b] [] pos] X.env=[(false,eval (.Call (.Name "zip" p) [a,b] [] pos) X.env)]:=by rfl):
  PE X (.Call (.Name "list" p0) [.Call (.Name "zip" p) [a,b] [] pos] [] pos0) (tLZ ta):=by
 intro pins s σ H Q I h;refine wpAny_Call_Name_kw (Za1 I hgl hml Zbn (PyProof.Rows.callWith_type1 (by
  rw[hs'];refine Calls.spliced_cons (Call_ (Za1 I hg hm Zkf (PyProof.Rows.callWith_type1 (thn (ha pos pins s σ H _ I h) fun us s1 ⟨vs,H1,I1,r1,q1⟩=> ?_) (by rw[hs,hs2]) (by rw[hs2];rfl))))
  obtain ⟨l1,l2,xs,ys,e,g1,g2,q⟩:=q1
  subst e;cases r1 with
  |cons r rr=>
   cases rr with
   |cons r' rr=>
    cases rr
    cases r
    cases r'
    obtain ⟨vx,rx,px,zx⟩:=I1.list (SqL.of g1)
    obtain ⟨vy,ry,py,zy⟩:=I1.list (SqL.of g2)
    refine call_zip_2 px.isList py.isList fun h' c1 c2 c3 c4 c5 c6 c7=>Calls.spliced_nil ?_
    have n1:l1 < s1.heap.objs.size:=by obtain ⟨_,e,_⟩:=px.isList;exact Hz e
    have n2:l2 < s1.heap.objs.size:=by obtain ⟨_,e,_⟩:=py.isList;exact Hz e
    have D:ZipApart (s1.heap.objs.size + 4) (s1.heap.objs.size + 2) (s1.heap.objs.size + 3) s1.heap.objs.size (s1.heap.objs.size + 1) l1 l2:=by
     have w: ∀ {u v:Nat},u < v->u≠v:=fun h=>Nat.ne_of_lt h
     have w': ∀ {u v:Nat},v < u->u≠v:=fun h=>Nat.ne_of_gt h
     constructor<;>first | exact w (by lia) | exact w' (by lia) | exact w (Nat.lt_of_lt_of_le n1 (by lia)) | exact w (Nat.lt_of_lt_of_le n2 (by lia))
    refine Zdv (s:={ s1 with heap:=h' }) hc D (xs:=vx.toArray) (ys:=vy.toArray) (by rw[List.size_toArray,<- rx.length];exact Nat.le_trans (Nat.min_le_left ..) zx) ⟨.inl ⟨c1,_,_,c3⟩,c2,c4,c5,px.isList.at fun o e=>c7 _ o e,py.isList.at fun o e=>c7 _ o e⟩ (by show _ < h'.objs.size/\_ < h'.objs.size/\_ < h'.objs.size/\_ < h'.objs.size;rw[c6];lia) fun h2 acc cc keep hS hz it up=> ?_
    have kp: ∀ b o,s1.heap.get? b=some o->h2.get? b=some o:=fun b o e=>by
     have lt:=Hz e
     exact keep b o (Nat.ne_of_lt (Nat.lt_of_lt_of_le lt (by lia))) (Nat.ne_of_lt (Nat.lt_of_lt_of_le lt (by lia))) (Nat.ne_of_lt lt) (Nat.ne_of_lt (Nat.lt_of_lt_of_le lt (by lia))) (c7 b o e)
    have hz5:({ s1 with heap:=h' }:Shared).heap.objs.size=s1.heap.objs.size + 5:=c6
    rw[hz5] at hS it ⊢;obtain ⟨as,e1,e2,e3,e4⟩:=ZhB rx ry (by rw[hz,List.size_toArray,List.size_toArray]) it up
    have ok2:HOk X.prog X.w H1 h2:=fun b u e=>(I1.hok b u e).stay (fun c v _ q=>kp c v q) (fun c q=>q) fun c xs q=>q
    have un2:Un X.fs [] H1 H1 s1.heap h2:=⟨fun b o q _ _ _=>kp b o q,fun b o q _ _ _=>⟨o.slots,kp b o q⟩,fun b o _ n _=>n,fun b o q _=>⟨o,kp b o q⟩,fun _ _ q=>q,fun _ _ _ q=>q,fun b ps q=>⟨#[],by rw[q];simp⟩⟩
    obtain ⟨H9,k1,k2,k3,k4⟩:=Zd7 (h:=s1.heap) _ as [] H1 ok2 un2 (fun a ha=>⟨by have:=e2 a ha;lia,I1.hok.fresh (by have:=e2 a ha;lia)⟩) e3 e4 q
    have nl:H9 (s1.heap.objs.size + 5)=none:=k3 _ (fun z=>by have:=e2 _ z;lia) (I1.hok.fresh (by lia))
    exact ⟨.ref (s1.heap.objs.size + 5),_,I1.un (t':=s1.toks) (Un.add k2 (by lia) nl) (HOk.add (o:= .lst (as.map V.ref)) k1 nl ⟨by rw[List.length_map,<- Paired.length e4,List.length_zip];exact Nat.le_trans (Nat.min_le_left ..) zx,acc.toList,cc,by
     rw[e1]
     have: ∀ l:List Addr,ZO (l.map V.ref) (l.map Value.ref):=fun l=>by induction l with | nil=>exact .nil | cons a l ih=>exact .cons rfl ih
     exact this as,by simpa using hS⟩),rfl,k4 _ nl⟩) hs' rfl))
noncomputable def Zjo:List D->List D->List D:=List.zipWith fun a b=> .tup [a,b]
theorem ZqZ {K:Fg}{Q:VK}{α:List Addr}{M:Sto}: ∀ {xs ys:List V} {dx dy:List D} {H:Hp} {acc:List Addr} {da:List D},Reps K H α xs dx->Reps K H α ys dy->Reps K H α (acc.map V.ref) da->HR K H α M->
  (∀ (H':Hp) (as:List Addr),Ext K H H' α α->HR K H' α M->Reps K H' α (as.map V.ref) (da ++ Zjo dx dy)-> ∀ l,H' l=none->Q (.ref l) (upd H' l (.lst (as.map V.ref))))->Zob Q (xs.zip ys) acc H:=by
 intro xs
 induction xs with
 |nil=>
  intro ys dx dy H acc da rx ry ra hr fin;cases rx
  show Zob Q [] acc H
  intro l hl;exact fin H acc Ext.refl hr (by show Reps _ _ _ _ (da ++ []);rw[List.append_nil];exact ra) l hl
 |cons x xs ih=>
  intro ys dx dy H acc da rx ry ra hr fin;cases rx with
  | @cons _ d1 _ _ r1 t1=>
   cases ry with
   |nil=>
    intro l hl;exact fin H acc Ext.refl hr (by show Reps _ _ _ _ (da ++ []);rw[List.append_nil];exact ra) l hl
   | @cons y d2 _ _ r2 t2=>
    intro p hp;have ex:Ext K H (upd H p (.tup [x,y])) α α:=Ext.new0 hp
    refine ih (Reps.mono ex t1) (Reps.mono ex t2) (da:=da ++ [.tup [d1,d2]]) (by
     rw[List.map_append];exact (Reps.mono ex ra).append (.cons (.tup Zy (Reps.mono ex (.cons r1 (.cons r2 .nil)))) .nil)) (hr.tup hp) fun H' as e h r l hl=>fin H' as (ex.trans e) h (by
      rw[List.append_assoc] at r;exact r) l hl
def eLZ (fs:Av):Ev:=fun ρ M=>(fs ρ M).bind fun ds M1=>match ds with
 | [.ref n,.ref m]=>(match M1[n]?,M1[m]? with | some (.lst xs),some (.lst ys)=> .ok (.ref M1.length) (M1 ++ [.lst (Zjo xs ys)]) | _,_=> .bad)
 |_=> .bad
theorem Zoc (hc:X.A.handled=none)(hm:X.mg "zip"=none)(hml:X.mg "list"=none)(ha:DA X ξ [a,b] fs)(hg:Gl X "zip":=by rfl)(hgl:Gl X "list":=by rfl)(hs:starEach [a,b] X.env=[(false,eval a X.env),(false,eval b X.env)]:=by rfl)(hs2:starEach [b] X.env=[(false,eval b X.env)]:=by rfl)(hs':starEach [.Call (.Name "zip" p) [a,b] [] pos] X.env=[(false,eval (.Call (.Name "zip" p) [a,b] [] pos) X.env)]:=by rfl):
  DE X ξ (.Call (.Name "list" p0) [.Call (.Name "zip" p) [a,b] [] pos] [] pos0) (eLZ fs):=by
 obtain ⟨ta,pa,qa⟩:=ha
 refine ⟨_,ZqY hc hm hml pa hg hgl hs hs2 hs',fun σ ρ H α M Q s hh q=>qa σ ρ H α M _ s hh (OG.seq q fun ds M1 vs H1 α1 e1 h1 r1 w1=> ?_)⟩
 split at w1
 ·rename_i n m
  cases r1 with
  |cons r t=>
   cases t with
   |cons r' t=>
    cases t
    cases r with
    | @ref l1 _ k1=>
     cases r' with
     | @ref l2 _ k2=>
      cases em:M1[n]? with
      |none=>simp only[em] at w1;exact w1.elim
      |some so=>
       cases so with
       |lst dx=>
        cases em2:M1[m]? with
        |none=>simp only[em,em2] at w1;exact w1.elim
        |some so2=>
         cases so2 with
         |lst dy=>
          simp only[em,em2] at w1;obtain ⟨xs,g1,g2⟩:=h1.at k1 em
          obtain ⟨ys,g3,g4⟩:=h1.at k2 em2
          refine ⟨l1,l2,xs,ys,rfl,g1,g3,ZqZ (da:=[]) g2 g4 .nil h1 fun H' as ex hr rp l hl=> ?_⟩
          exact w1 _ _ (α1 ++ [l]) (ex.trans (Ext.new hl)) (hr.new hl rp) (.ref ⟨hr.last l,Kn.lst Zy⟩)
 ·exact w1.elim
end
end DL
section
namespace DL
open PyProof.Rows L2 PySem.W
section
variable {X:Cx}{ξ:XK}{e:Expr}{f:Ev}{pos:Pos}
end
end DL
end
section
namespace DL
open PyProof.Rows L2 PySem.W
section
variable {prog:Program}{w:World}{A:Around}{R:Result->Shared->Prop}{s:Shared}{elt target iter:Expr}{ifs:List Expr}{gens:List Comprehension}{scope:Scope}{pos:Pos}{it acc:Value}{env:Env}{d:Nat}{body:Sem Fin}
end
section
variable {X:Cx}{ξ:XK}{tg iter elt:Expr}{ifs:List Expr}{rest:List Comprehension}{scope:Scope}{cl:List (Str × Addr)}{N:List Str}{k:Nat}{fr:List Nat}{fi:Ro->Sto->Out Src}{gt:Tg}{c:Tv}{g:Nat->Ro->Sto->Out Ro}{pos:Pos}{bd:Value->Value->Env->Sem Fin}
variable {tg1 iter1 tg2 iter2:Expr}{ifs1 ifs2:List Expr}{fi1 fi2:Ro->Sto->Out Src}{gt1 gt2:Tg}{c1 c2:Tv}{f:Ev}
end
end DL
end
section
namespace DL
open PyProof.Rows L2
section
variable {X:Cx}{ξ:XK}{e:Expr}{es:List Expr}{fs:Av}{p pos:Pos}{x:Str}
end
section
variable {X:Cx}{ξ:XK}{pos p:Pos}{v:Expr}{keys:List (Option Expr)}{values:List Expr}{k:Str}{f:Ev}{kfs:List (Str × Ev)}{j:Nat}
end
section
variable {X:Cx}{ξ:XK}{tg a:Expr}{f:Ev}{te:TE}
end
end DL
end
section
namespace DL
open PyProof.Rows L2
section
variable {X:Cx}{ξ:XK}{pins:Pn}{σ:L2.St}{H:Hp}{s:Shared}{α:List Addr}{M:Sto}
end
end DL
end
section
namespace DL
open PyProof.Rows L2
section
variable {X:Cx}{ξ:XK}{tg:Expr}{fs:Av}{pos:Pos}
end
end DL
end
namespace DL
open L2
section
variable {X:Cx}{ξ:XK}{a b c:Expr}{fa fb fc:Ev}{pos:Pos}
end
end DL
section
namespace DL
open PyProof.Rows L2 PySem.W
section
variable {K:Fg}{H:Hp}{α:List Addr}
end
section
variable {X:Cx}{ξ:XK}{pos:Pos}
variable {o e:Expr}{fo fa:Ev}{apos cpos:Pos}
end
end DL
end
section
namespace PySem.SeqAt
open MeetsSeq MeetsSeq2 MeetsSeq3 SeqRoads2
end PySem.SeqAt
namespace DL
open PyProof.Rows L2 PySem.W
section
variable {X:Cx}{ξ:XK}{o e:Expr}{fo fa:Ev}{apos cpos:Pos}
end
end DL
end
section
namespace ST
open PyProof.Rows
abbrev lt (a b:List Int):Bool:=HT.Z1 a b
def le (a b:List Int):Prop:=lt b a=false
theorem ZhC: ∀ a:List Int,lt a a=false
 | []=>rfl
 |x :: r=>by
  show HT.Z1 (x :: r) (x :: r)=false
  rw[HT.ZW,if_pos rfl];exact ZhC r
theorem ZlE: ∀ {a b c:List Int},lt a b=true->lt b c=true->lt a c=true
 | [],[],_,h,_=>by cases h
 | [],_ :: _,[],_,h=>by cases h
 | [],_ :: _,_ :: _,_,_=>rfl
 |_ :: _,[],_,h,_=>by cases h
 |_ :: _,_ :: _,[],_,h=>by cases h
 |x :: a,y :: b,z :: c,h,g=>by
  show HT.Z1 (x :: a) (z :: c)=true
  have h:HT.Z1 (x :: a) (y :: b)=true:=h
  have g:HT.Z1 (y :: b) (z :: c)=true:=g
  rw[HT.ZW] at h g ⊢
  by_cases e1:x=y
  ·subst e1
   rw[if_pos rfl] at h
   by_cases e2:x=z
   ·rw[if_pos e2] at g ⊢;exact ZlE h g
   ·rw[if_neg e2] at g ⊢;exact g
  ·rw[if_neg e1] at h
   have h:=of_decide_eq_true h
   by_cases e2:y=z
   ·subst e2;rw[if_neg e1];exact decide_eq_true h
   ·rw[if_neg e2] at g
    have g:=of_decide_eq_true g
    rw[if_neg (by lia)]
    exact decide_eq_true (by lia)
theorem Zd8: ∀ {a b:List Int},lt a b=false->lt b a=false->a=b
 | [],[],_,_=>rfl
 | [],_ :: _,h,_=>by cases h
 |_ :: _,[],_,h=>by cases h
 |x :: a,y :: b,h,g=>by
  have h:HT.Z1 (x :: a) (y :: b)=false:=h
  have g:HT.Z1 (y :: b) (x :: a)=false:=g
  rw[HT.ZW] at h g
  by_cases e:x=y
  ·subst e
   rw[if_pos rfl] at h g;rw[Zd8 h g]
  ·rw[if_neg e] at h
   rw[if_neg (Ne.symm e)] at g
   have:=of_decide_eq_false h
   have:=of_decide_eq_false g
   lia
theorem Zdw (a:List Int):le a a:=ZhC a
theorem ZhD {a b:List Int}(h:lt a b=true):le a b:=by
 unfold le;cases e:lt b a with
 |false=>rfl
 |true=>have:=ZlE h e;rw[ZhC] at this;cases this
theorem Zf4 {a b c:List Int}(h:le a b)(g:le b c):le a c:=by
 unfold le at *;cases e:lt c a with
 |false=>rfl
 |true=>
  cases e2:lt b a with
  |true=>rw[e2] at h;cases h
  |false=>
   cases e3:lt a b with
   |true=>rw[ZlE e e3] at g;cases g
   |false=>
    have:=Zd8 e3 e2
    subst this;rw[e] at g;cases g
theorem ZeM {a b c:List Int}(h:lt a b=true)(g:le b c):lt a c=true:=by
 cases e:lt a c with
 |true=>rfl
 |false=>have:=Zf4 g e;unfold le at this;rw[h] at this;cases this
variable (kf:Keyed->List Int)
noncomputable def ky (xs:Array Keyed)(i:Nat):List Int:=match xs[i]? with | some p=>kf p | none=>[]
def Up (xs:Array Keyed)(n:Nat):Prop:= ∀ i j,i<=j->j < n->le (ky kf xs i) (ky kf xs j)
def Dn (xs:Array Keyed)(n:Nat):Prop:= ∀ i j,i<=j->j < n->le (ky kf xs j) (ky kf xs i)
variable {kf}
theorem ZhE {xs ys:Array Keyed}{i j:Nat}(h:xs[i]?=ys[j]?):ky kf xs i=ky kf ys j:=by unfold ky;rw[h]
theorem ZhF {xs:Array Keyed}{i j:Nat}(hj:j<=xs.size)(k:Nat):ky kf (mirror xs i j ((j - i) / 2)) k=if i<=k/\k < j then ky kf xs (i + j - 1 - k) else ky kf xs k:=by
 have g:=getElem?_mirror_all (i:=i) hj k
 split
 ·rename_i c;rw[if_pos c] at g;exact ZhE g
 ·rename_i c;rw[if_neg c] at g;exact ZhE g
theorem Zab {xs:Array Keyed}{i j:Nat}(hj:j<=xs.size)(hs: ∀ k,i<=k->k < j->ky kf xs k=ky kf xs (j - 1))(k:Nat):ky kf (mirror xs i j ((j - i) / 2)) k=ky kf xs k:=by
 rw[ZhF hj]
 split
 ·rename_i c;rw[hs k c.1 c.2,hs (i + j - 1 - k) (by lia) (by lia)]
 ·rfl
theorem Zki {xs:Array Keyed}{p d:Nat}(hp:p < xs.size)(hd:d<=p)(k:Nat):ky kf (bubble xs p d) k=if k=p - d then ky kf xs p else if p - d < k/\k<=p then ky kf xs (k - 1) else ky kf xs k:=by
 have g:=getElem?_bubble hp d hd k
 by_cases c1:k=p - d
 ·rw[if_pos c1] at g ⊢;exact ZhE g
 ·rw[if_neg c1] at g ⊢
  by_cases c2:p - d < k/\k<=p
  ·rw[if_pos c2] at g ⊢;exact ZhE g
  ·rw[if_neg c2] at g ⊢;exact ZhE g
structure Cm (M:Model) (A:Around) (E:Vp) (s:Shared) (kf:Keyed->List Int) (B:SortSt->Prop) (N:Nat):Prop where
 sz: ∀ st,B st->(arrOf st).size=N
 put: ∀ st xs,B st->xs.Perm (arrOf st)->B (setArr st xs)
 cmp: ∀ st i j (Q:Option Bool->SortSt->Prop),B st->i < N->j < N->Q (some (lt (ky kf (arrOf st) i) (ky kf (arrOf st) j))) st->wpS M A E s (ltAt' i j) Q st
section
variable {prog:Program}{w:World}{A:Around}{E:Vp}{s:Shared}{B:SortSt->Prop}{N:Nat}
theorem Up.more {xs:Array Keyed}{n:Nat}(h:Up kf xs n)(h1:1<=n)(hl:le (ky kf xs (n - 1)) (ky kf xs n)):Up kf xs (n + 1):=by
 intro i j ij jn
 by_cases c:j < n
 ·exact h i j ij c
 ·have:j=n:=by lia
  subst this
  by_cases c2:i=j
  ·subst c2;exact Zdw _
  ·exact Zf4 (h i (j - 1) (by lia) (by lia)) hl
theorem Dn.more {xs:Array Keyed}{n:Nat}(h:Dn kf xs n)(h1:1<=n)(hl:le (ky kf xs n) (ky kf xs (n - 1))):Dn kf xs (n + 1):=by
 intro i j ij jn
 by_cases c:j < n
 ·exact h i j ij c
 ·have:j=n:=by lia
  subst this
  by_cases c2:i=j
  ·subst c2;exact Zdw _
  ·exact Zf4 hl (h i (j - 1) (by lia) (by lia))
theorem Zod (C:Cm (model prog w) A E s kf B N){st:SortSt}{a n:Nat}{Q:AscSt->SortSt->Prop}(hn:n<=N)(ha:1<=a)(an:a<=n)(hB:B st)(hu:Up kf (arrOf st) a)
  (q: ∀ m,a<=m->m<=n->Up kf (arrOf st) m->(m=n\/lt (ky kf (arrOf st) m) (ky kf (arrOf st) (m - 1))=true)->Q (none,m) st):wpS (model prog w) A E s (ascLoop a n) Q st:=by
 unfold ascLoop;refine wpS_forRange (fun x c t=>t=st/\c=(none,x)/\Up kf (arrOf st) x) (fun x c t ax xn hI=> ?_) (fun c t hI=> ?_) ⟨rfl,rfl,hu⟩
 ·obtain ⟨rfl,rfl,h⟩:=hI
  refine wpS_bind (C.cmp t x (x - 1) _ hB (by lia) (by lia) ?_)
  cases z:lt (ky kf (arrOf t) x) (ky kf (arrOf t) (x - 1)) with
  |true=>exact wpS_pure (q x ax (by lia) h (.inr z))
  |false=>exact wpS_pure ⟨rfl,rfl,h.more (by lia) z⟩
 ·obtain ⟨rfl,rfl,h⟩:=hI
  rw[Nat.max_eq_right an] at h ⊢;exact q n an (Nat.le_refl _) h (.inl rfl)
theorem Zkj (C:Cm (model prog w) A E s kf B N){st:SortSt}{m n:Nat}{Q:Option Nat->SortSt->Prop}(hn:n<=N)(h1:1<=m)(mn:m<=n)(hB:B st)(hd:Dn kf (arrOf st) m)
  (q: ∀ m t,B t->1<=m->m<=n->Up kf (arrOf t) m->Q (some m) t):wpS (model prog w) A E s (tail3 m n) Q st:=by
 have sz:=C.sz st hB
 have hB':=C.put st (mirror (arrOf st) 0 m ((m - 0) / 2)) hB (mirror_perm ..)
 refine wpS_bind (wpS_reverse (wpS_bind (Zod C hn h1 mn hB' (fun i j ij jm=> ?_) fun k k1 k2 hu _=>wpS_pure (q k _ hB' (by lia) k2 hu))))
 show le (ky kf (mirror (arrOf st) 0 m ((m - 0) / 2)) i) (ky kf (mirror (arrOf st) 0 m ((m - 0) / 2)) j)
 rw[ZhF (by lia),ZhF (by lia),if_pos ⟨by lia,by lia⟩,if_pos ⟨by lia,jm⟩]
 exact hd _ _ (by lia) (by lia)
def Eqs (kf:Keyed->List Int)(xs:Array Keyed)(x e:Nat):Prop:=e + 1<=x/\ ∀ i,x - (e + 1)<=i->i < x->ky kf xs i=ky kf xs (x - 1)
theorem Zq0 {xs:Array Keyed}{x:Nat}(h:1<=x):Eqs kf xs x 0:=⟨by lia,fun i a b=>by rw[show i=x - 1 by lia]⟩
theorem Zoe (C:Cm (model prog w) A E s kf B N){st:SortSt}{m n:Nat}{Q:DescSt->SortSt->Prop}(hn:n<=N)(h1:1<=m)(mn:m<=n)(hB:B st)(hd:Dn kf (arrOf st) m)
  (q: ∀ x e t,B t->m<=x->x<=n->Dn kf (arrOf t) x->Eqs kf (arrOf t) x e->Q (none,x,e) t):wpS (model prog w) A E s (descLoop m n) Q st:=by
 unfold descLoop;refine wpS_forRange (fun x c t=> ∃ e,c=(none,x,e)/\B t/\Dn kf (arrOf t) x/\Eqs kf (arrOf t) x e) (fun x c t ax xn hI=> ?_) (fun c t hI=> ?_) ⟨0,rfl,hB,hd,Zq0 h1⟩
 ·obtain ⟨e,rfl,hB,hd,he⟩:=hI
  have sz:=C.sz t hB
  refine wpS_bind (C.cmp t x (x - 1) _ hB (by lia) (by lia) ?_)
  cases z:lt (ky kf (arrOf t) x) (ky kf (arrOf t) (x - 1)) with
  |true=>
   have up1:=hd.more (by lia) (ZhD z)
   show wpS _ _ _ _ (if e > 0 then _ else _) _ _
   by_cases c:e > 0
   ·rw[if_pos c]
    refine wpS_bind (wpS_reverse (wpS_pure ⟨0,rfl,C.put t _ hB (mirror_perm ..),fun i j ij jx=> ?_,Zq0 (by lia)⟩))
    show le (ky kf (mirror (arrOf t) (x - (e + 1)) x ((x - (x - (e + 1))) / 2)) j) (ky kf (mirror (arrOf t) (x - (e + 1)) x ((x - (x - (e + 1))) / 2)) i)
    rw[Zab (by lia) he.2,Zab (by lia) he.2]
    exact up1 i j ij jx
   ·rw[if_neg c]
    exact wpS_pure ⟨0,rfl,hB,up1,Zq0 (by lia)⟩
  |false=>
   refine wpS_bind (C.cmp t (x - 1) x _ hB (by lia) (by lia) ?_)
   cases z2:lt (ky kf (arrOf t) (x - 1)) (ky kf (arrOf t) x) with
   |true=>exact wpS_pure (q x e t hB ax (by lia) hd he)
   |false=>
    have ee:ky kf (arrOf t) x=ky kf (arrOf t) (x - 1):=Zd8 z z2
    refine wpS_pure ⟨e + 1,rfl,hB,hd.more (by lia) z2,by have:=he.1;lia,fun i a b=> ?_⟩
    rw[show x + 1 - 1=x by lia]
    by_cases c:i=x
    ·rw[c]
    ·rw[ee];exact he.2 i (by lia) (by lia)
 ·obtain ⟨e,rfl,hB,hd,he⟩:=hI
  rw[Nat.max_eq_right mn] at hd he ⊢;exact q n e t hB mn (Nat.le_refl _) hd he
theorem Zkk (C:Cm (model prog w) A E s kf B N){st:SortSt}{m n:Nat}{Q:Option Nat->SortSt->Prop}(hn:n<=N)(mn:m + 1<=n)(hB:B st)(hd:Dn kf (arrOf st) (m + 1))
  (q: ∀ m t,B t->1<=m->m<=n->Up kf (arrOf t) m->Q (some m) t):wpS (model prog w) A E s (descPart m n) Q st:=by
 refine wpS_bind (wpS_lift (wpAny_rule ⟨rfl,wpS_bind (Zoe C hn (by lia) mn hB hd fun x e t hB hx xn hd he=> ?_)⟩))
 have sz:=C.sz t hB
 show wpS _ _ _ _ (if e > 0 then _ else _) _ _
 by_cases c:e > 0
 ·rw[if_pos c]
  refine wpS_bind (wpS_reverse (Zkj (m:=x) C hn (by lia) xn (C.put t _ hB (mirror_perm ..)) (fun i j ij jx=> ?_) q))
  show le (ky kf (mirror (arrOf t) (x - (e + 1)) x ((x - (x - (e + 1))) / 2)) j) (ky kf (mirror (arrOf t) (x - (e + 1)) x ((x - (x - (e + 1))) / 2)) i)
  rw[Zab (by lia) he.2,Zab (by lia) he.2]
  exact hd i j ij jx
 ·rw[if_neg c]
  exact Zkj (m:=x) C hn (by lia) xn hB hd q
theorem Zq1 (C:Cm (model prog w) A E s kf B N){st:SortSt}{n:Nat}{Q:Option Nat->SortSt->Prop}(hn:n<=N)(h1:1<=n)(hB:B st)
  (q: ∀ m t,B t->1<=m->m<=n->Up kf (arrOf t) m->Q (some m) t):wpS (model prog w) A E s (countRun' 0 n) Q st:=by
 have sz:=C.sz st hB
 rw[countRun0_eq];refine wpS_bind (Zod C hn (Nat.le_refl 1) h1 hB (fun i j ij j1=>by rw[show i=j by lia];exact Zdw _) fun m m1 m2 hu ho=> ?_)
 show wpS _ _ _ _ (if (m == n)=true then _ else _) _ _
 by_cases c:m=n
 ·rw[if_pos (by simpa using c)]
  exact wpS_pure (q m st hB m1 m2 hu)
 ·rw[if_neg (by simpa using c)]
  have hl:=ho.resolve_left c
  by_cases c1:m > 1
  ·rw[if_pos c1]
   refine wpS_bind (C.cmp st 0 (m - 1) _ hB (by lia) (by lia) ?_)
   cases z:lt (ky kf (arrOf st) 0) (ky kf (arrOf st) (m - 1)) with
   |true=>exact wpS_pure (q m st hB m1 m2 hu)
   |false=>
    have al: ∀ k,0<=k->k < m->ky kf (arrOf st) k=ky kf (arrOf st) (m - 1):=fun k _ km=>
     Zd8 (Zf4 z (hu 0 k (by lia) km)) (hu k (m - 1) (by lia) (by lia))
    refine wpS_bind (wpS_reverse (Zkk C hn (by lia) (C.put st _ hB (mirror_perm ..)) (fun i j ij jx=> ?_) q))
    show le (ky kf (mirror (arrOf st) 0 m ((m - 0) / 2)) j) (ky kf (mirror (arrOf st) 0 m ((m - 0) / 2)) i)
    rw[Zab (by lia) al,Zab (by lia) al]
    by_cases d:j < m
    ·rw[al i (by lia) (by lia),al j (by lia) d];exact Zdw _
    ·have:j=m:=by lia
     subst this
     by_cases d2:i=j
     ·rw[d2];exact Zdw _
     ·rw[al i (by lia) (by lia)];exact ZhD hl
  ·rw[if_neg c1]
   have:m=1:=by lia
   subst this;refine Zkk C hn (by lia) hB (fun i j ij jx=> ?_) q
   by_cases d2:i=j
   ·rw[d2];exact Zdw _
   ·rw[show i=0 by lia,show j=1 by lia];exact ZhD hl
theorem Zq2 (C:Cm (model prog w) A E s kf B N){st:SortSt}{n ok:Nat}{Q:Bool->SortSt->Prop}(hn:n<=N)(hk:ok<=n)(hB:B st)(hu:Up kf (arrOf st) ok)
  (q: ∀ t,B t->Up kf (arrOf t) n->Q true t):wpS (model prog w) A E s (binarySort' 0 n ok) Q st:=by
 rw[binarySort'_eq];simp only[Nat.zero_add];refine wpS_bind (wpS_mono (wpS_forRange (fun k c t=>c=(none,())/\B t/\Up kf (arrOf t) (min k n)) (Q:=fun c t=>c=(none,())/\B t/\Up kf (arrOf t) n) (fun k c t ak kn hI=> ?_) (fun c t hI=> ?_) ⟨rfl,hB,fun i j ij jn=> ?_⟩) fun c t hI=> ?_)
 ·obtain ⟨rfl,hB,hu⟩:=hI
  rw[Nat.min_eq_left (by lia)] at hu
  have sz:=C.sz t hB
  have kN:k < N:=by lia
  refine wpS_bind (wpS_mono (wpS_forRange (fun x c t'=>t'=t/\ ∃ l r,c=(none,l,r)/\(l<=r/\r<=k/\r - l<=k - x)/\(∀ i,i < l->le (ky kf (arrOf t) i) (ky kf (arrOf t) k))/\ ∀ i,r<=i->i < k->lt (ky kf (arrOf t) k) (ky kf (arrOf t) i)=true)
   (Q:=fun c t'=>t'=t/\ ∃ l r,c=(none,l,r)/\l<=k/\(∀ i,i < l->le (ky kf (arrOf t) i) (ky kf (arrOf t) k))/\ ∀ i,l<=i->i < k->lt (ky kf (arrOf t) k) (ky kf (arrOf t) i)=true) (fun x c t' _ xk hI=> ?_) (fun c t' hI=> ?_) ⟨rfl,0,k,rfl,by lia,fun i hi=>by lia,fun i a b=>by lia⟩) fun c t' hI=> ?_)
  ·obtain ⟨rfl,l,r,rfl,⟨lr,rk,hm⟩,lo,hi⟩:=hI
   show wpS _ _ _ _ (if l ≥ r then _ else _) _ _
   by_cases c:l ≥ r
   ·rw[if_pos c]
    have:l=r:=by lia
    subst this;exact wpS_pure ⟨rfl,l,l,rfl,rk,lo,hi⟩
   ·rw[if_neg c]
    refine wpS_bind (C.cmp t' k ((l + r) / 2) _ hB kN (by lia) ?_)
    cases z:lt (ky kf (arrOf t') k) (ky kf (arrOf t') ((l + r) / 2)) with
    |true=>exact wpS_pure ⟨rfl,l,(l + r) / 2,rfl,by lia,lo,fun i a b=>ZeM z (hu _ _ a b)⟩
    |false=>exact wpS_pure ⟨rfl,(l + r) / 2 + 1,r,rfl,by lia,fun i a=>Zf4 (hu i ((l + r) / 2) (by lia) (by lia)) z,hi⟩
  ·obtain ⟨rfl,l,r,rfl,⟨lr,rk,hm⟩,lo,hi⟩:=hI
   have:l=r:=by lia
   subst this;exact ⟨rfl,l,l,rfl,rk,lo,hi⟩
  ·obtain ⟨rfl,l,r,rfl,lk,lo,hi⟩:=hI
   show wpS _ _ _ _ (moveDown' k l >>= fun _=>pure (ForInStep.yield (none,()))) _ _
   rw[moveDown'_eq];refine wpS_bind (wpS_modify (wpS_pure ⟨rfl,C.put t' _ hB (bubble_perm ..),?_⟩))
   rw[Nat.min_eq_left (by lia)]
   intro i j ij jk;show le (ky kf (bubble (arrOf t') k (k - l)) i) (ky kf (bubble (arrOf t') k (k - l)) j)
   rw[Zki (by lia) (by lia),Zki (by lia) (by lia),show k - (k - l)=l by lia]
   by_cases i1:i=l
   ·rw[if_pos i1]
    by_cases j1:j=l
    ·rw[if_pos j1];exact Zdw _
    ·rw[if_neg j1,if_pos (by lia)];exact ZhD (hi _ (by lia) (by lia))
   ·rw[if_neg i1]
    by_cases i2:l < i/\i<=k
    ·rw[if_pos i2,if_neg (by lia),if_pos (by lia)];exact hu _ _ (by lia) (by lia)
    ·rw[if_neg i2]
     by_cases j1:j=l
     ·rw[if_pos j1];exact lo _ (by lia)
     ·rw[if_neg j1]
      by_cases j2:l < j/\j<=k
      ·rw[if_pos j2];exact hu _ _ (by lia) (by lia)
      ·rw[if_neg j2];exact hu _ _ (by lia) (by lia)
 ·obtain ⟨rfl,hB,hu⟩:=hI
  rw[show min (max (max ok 1) n) n=n by lia] at hu
  exact ⟨rfl,hB,hu⟩
 ·by_cases c:ok=0
  ·rw[show i=j by lia];exact Zdw _
  ·exact hu i j ij (by lia)
 ·obtain ⟨rfl,hB,hu⟩:=hI
  exact wpS_pure (q t hB hu)
structure Cn (B:SortSt->Prop):Prop where
 fail: ∀ st,B st->failedOf st=none
 pend: ∀ st,B st->pendingOf st= #[]
theorem Zof (C:Cm (model prog w) A E s kf B N)(D:Cn B){st:SortSt}{Q:Unit->SortSt->Prop}(h2:2<=N)(h64:N < 64)(hB:B st)
  (q: ∀ t t',B t->arrOf t'=arrOf t->failedOf t'=none->Up kf (arrOf t) N->Q () t'):wpS (model prog w) A E s sortRuns' Q st:=by
 rw[sortRuns'_eq];refine wpS_bind (wpS_get ?_)
 have mr:minRun' N N 0=N:=by
  have:minRun' ((N - 1) + 1) N 0=N:=by rw[minRun'_succ,if_pos h64];rfl
  rwa [show N - 1 + 1=N by lia] at this
 simp only[C.sz st hB,mr];refine wpS_bind (wpS_mono (wpS_forRange (fun x c t=>(x=0/\c=(none,0)/\B t)\/(1<=x/\c=(none,N)/\ ∃ t0,B t0/\t=setPending t0 #[(0,N,0)]/\Up kf (arrOf t0) N)) (Q:=fun c t=>c=(none,N)/\ ∃ t0,B t0/\t=setPending t0 #[(0,N,0)]/\Up kf (arrOf t0) N) (fun x c t _ xN hI=> ?_) (fun c t hI=> ?_) (.inl ⟨rfl,rfl,hB⟩)) fun c t hI=> ?_)
 ·rcases hI with ⟨rfl,rfl,hB⟩ | ⟨x1,rfl,hD⟩
  ·show wpS _ _ _ _ (if 0 ≥ N then _ else _) _ _
   rw[if_neg (by lia)]
   simp only[Nat.sub_zero,Nat.min_self,Nat.zero_add];refine wpS_bind (Zq1 C (Nat.le_refl _) (by lia) hB fun m t1 hB1 m1 m2 hu=> ?_)
   have fin: ∀ t1,B t1->Up kf (arrOf t1) N->(pendingOf t1).back?=none/\((0=0/\((none,N):Option Unit × Nat)=(none,0)/\B (setPending t1 ((pendingOf t1).push (0,N,0))))\/(1<=0 + 1/\((none,N):Option Unit × Nat)=(none,N)/\ ∃ t0,B t0/\setPending t1 ((pendingOf t1).push (0,N,0))=setPending t0 #[(0,N,0)]/\Up kf (arrOf t0) N)):=fun t1 hB1 hu=>by
    rw[D.pend t1 hB1];exact ⟨rfl,.inr ⟨by lia,rfl,t1,hB1,rfl,hu⟩⟩
   show wpS _ _ _ _ (if m < N then _ else _) _ _
   by_cases c:m < N
   ·rw[if_pos c]
    refine wpS_bind (wpS_lift (wpAny_rule ⟨rfl,wpS_bind (Zq2 C (Nat.le_refl _) m2 hB1 hu fun t2 hB2 hu2=> ?_)⟩))
    simp only[Bool.not_true,Bool.false_eq_true,if_false];refine wpS_bind (wpS_get ?_)
    rw[(fin t2 hB2 hu2).1];refine wpS_bind (wpS_modify (wpS_pure (.inr ⟨by lia,rfl,t2,hB2,?_,hu2⟩)))
    rw[D.pend t2 hB2];rfl
   ·rw[if_neg c]
    have:m=N:=by lia
    subst this;refine wpS_bind (wpS_get ?_)
    rw[(fin t1 hB1 hu).1];refine wpS_bind (wpS_modify (wpS_pure (.inr ⟨by lia,rfl,t1,hB1,?_,hu⟩)))
    rw[D.pend t1 hB1];rfl
  ·show wpS _ _ _ _ (if N ≥ N then _ else _) _ _
   rw[if_pos (Nat.le_refl _)];exact wpS_pure ⟨rfl,hD⟩
 ·rcases hI with ⟨x0,_,_⟩ | ⟨_,hc,hD⟩
  ·lia
  ·exact ⟨hc,hD⟩
 ·obtain ⟨rfl,t0,hB0,rfl,hu⟩:=hI
  refine wpS_bind (wpS_mono (wpS_forRange (fun _ c t=>t=setPending t0 #[(0,N,0)]/\c=(none,())) (Q:=fun c t=>t=setPending t0 #[(0,N,0)]/\c=(none,())) (fun x c t _ _ hI=> ?_) (fun _ _ h=>h) ⟨rfl,rfl⟩) fun c t hI=> ?_)
  ·obtain ⟨rfl,rfl⟩:=hI
   refine wpS_bind (wpS_get ?_)
   rw[if_pos (show (pendingOf (setPending t0 #[(0,N,0)])).size<=1 from Nat.le_refl 1)];exact wpS_pure ⟨rfl,rfl⟩
  ·obtain ⟨rfl,rfl⟩:=hI
   exact wpS_pure (q t0 _ hB0 rfl (D.fail t0 hB0) hu)
theorem ZhG (x y:Value):keyLt' (tuples' true) x y=(do
  let xs <- Builtin.List.listItems x
  let ys <- Builtin.List.listItems y
  for ((p,q),i) in (xs.toList.zip ys.toList).zipIdx do
   if !(<- eqBool p q) then return <- oneLt' (true && i == 0) p q
  return decide (xs.size < ys.size)):=rfl
noncomputable def Zog (x:(Value × Value) × Nat)(_:Option Bool × Unit):Sem (ForInStep (Option Bool × Unit)):=match x with
 | ((p,q),i)=>do
  let b <- eqBool p q
  if (!b)=true then do
   let r <- oneLt' (true && i == 0) p q
   pure (ForInStep.done (some r,()))
  else pure (ForInStep.yield (none,()))
theorem ZhH {f:Bool}{a b:Int}{t u:Tok}{Q:Bool->Shared->Prop}(h:Q (decide (a < b)) s):wpAny (model prog w) A (oneLt' f (.int a t) (.int b u)) Q E s:=by
 cases f with
 |true=>exact oneLt_int h
 |false=>
  rw[oneLt'_eq];simp only[Bool.false_eq_true,if_false];exact Wb (HT.Zfa _ _ _ _ _ _ _ _ _ _ (wpAny_truthy_bool h))
theorem Zft: ∀ {us vs:List Value} {ns ms:List Int},IntsAre us ns->IntsAre vs ms-> ∀ (k:Nat) (Q:Option Bool × Unit->Shared->Prop),
  (∀ b,b=HT.Z1 ns ms->Q (some b,()) s)->(HT.Z1 ns ms=decide (us.length < vs.length)->Q (none,()) s)->wpAny (model prog w) A (forIn ((us.zip vs).zipIdx k) (none,()) Zog) Q E s
 |_,_,_,_,.nil,.nil,k,Q,_,h2=>by
  simp only[List.zip_nil_left,List.zipIdx_nil,List.forIn_nil];exact Wp (h2 rfl)
 |_,_,_,_,.nil,.cons m t hv,k,Q,_,h2=>by
  simp only[List.zip_nil_left,List.zipIdx_nil,List.forIn_nil];exact Wp (h2 (by simp[HT.Z1]))
 |_,_,_,_,.cons n t hu,.nil,k,Q,_,h2=>by
  simp only[List.zip_nil_right,List.zipIdx_nil,List.forIn_nil];exact Wp (h2 (by simp[HT.Z1]))
 |_,_,_,_,.cons (ns:=ns) (vs:=us) n t hu,.cons (ns:=ms) (vs:=vs) m u hv,k,Q,h1,h2=>by
  rw[List.zip_cons_cons,List.zipIdx_cons,List.forIn_cons];obtain ⟨e,he,hi⟩:=HT.Ze9 A s n t m u
  refine Wb (Wb (he prog w _ _ ?_))
  cases e with
  |true=>
   have:n=m:=hi.mp rfl
   subst this;refine Wp (Zft hu hv (k + 1) Q (fun b hb=>h1 b ?_) fun z=>h2 ?_)
   ·rw[HT.ZW,if_pos rfl];exact hb
   ·rw[HT.ZW,if_pos rfl,z];simp
  |false=>
   have:n≠m:=fun z=>by have:=hi.mpr z;cases this
   refine Wb (ZhH (Wp (Wp (h1 _ ?_))))
   rw[HT.ZW,if_neg this]
def Zb7 (h:Heap)(v:Value)(ns:List Int):Prop:= ∃ a o its n,v= .ref a/\h.get? a=some o/\o.cls= .type "tuple"/\o.data= .seq its n/\IntsAre its.toList ns
theorem Zd9: ∀ {us:List Value} {ns ms:List Int},IntsAre us ns->IntsAre us ms->ns=ms
 |_,_,_,.nil,.nil=>rfl
 |_,_,_,.cons n t h,.cons _ _ g=>by rw[Zd9 h g]
theorem Zb7.uniq {h:Heap}{v:Value}{ns ms:List Int}(a:Zb7 h v ns)(b:Zb7 h v ms):ns=ms:=by
 obtain ⟨p,o,its,n,rfl,e1,e2,e3,e4⟩:=a
 obtain ⟨p',o',its',n',e5,f1,f2,f3,f4⟩:=b
 cases e5
 rw[e1] at f1;cases f1
 rw[e3] at f3;cases f3
 exact Zd9 e4 f4
theorem Zb7.kept {h h':Heap}{v:Value}{ns:List Int}(a:Zb7 h v ns)(k: ∀ p o,h.get? p=some o->o.cls= .type "tuple"->h'.get? p=some o):Zb7 h' v ns:=by
 obtain ⟨p,o,its,n,e0,e1,e2,e3,e4⟩:=a
 exact ⟨p,o,its,n,e0,k p o e1 e2,e2,e3,e4⟩
theorem Zq3 {x y:Value}{ns ms:List Int}{Q:Bool->Shared->Prop}(hx:Zb7 s.heap x ns)(hy:Zb7 s.heap y ms)(q:Q (HT.Z1 ns ms) s):wpAny (model prog w) A (keyLt' (tuples' true) x y) Q E s:=by
 obtain ⟨a,o,its,n,rfl,e1,e2,e3,e4⟩:=hx
 obtain ⟨b,o',its',n',rfl,f1,f2,f3,f4⟩:=hy
 rw[ZhG];refine Wb (listItems_at e1 e3 (Wb (listItems_at f1 f3 ?_)))
 show wpAny _ _ (forIn ((its.toList.zip its'.toList).zipIdx 0) (none,()) Zog >>= _) _ _ _
 refine Wb (Zft e4 f4 0 _ (fun b hb=> ?_) fun z=> ?_)
 ·rw[hb];exact Wp q
 ·show wpAny _ _ (pure (decide (its.size < its'.size))) _ _ _
  rw[show decide (its.size < its'.size)=HT.Z1 ns ms by rw[z];simp]
  exact Wp q
open Classical in
def kfH (h:Heap)(p:Keyed):List Int:=if e: ∃ ns,Zb7 h p.1 ns then e.choose else []
theorem Zkl {h:Heap}{p:Keyed}{ns:List Int}(e:Zb7 h p.1 ns):kfH h p=ns:=by
 unfold kfH;rw[dif_pos ⟨ns,e⟩];exact (Exists.choose_spec (⟨ns,e⟩: ∃ ns,Zb7 h p.1 ns)).uniq e
structure TB (a₀:Array Keyed) (st:SortSt):Prop where
 perm:(arrOf st).Perm a₀
 kind:kindOf st=tuples' true
 fail:failedOf st=none
 pend:pendingOf st= #[]
theorem Zq4 {a₀:Array Keyed}(hk: ∀ p∈a₀.toList,∃ ns,Zb7 s.heap p.1 ns):Cm (model prog w) A E s (kfH s.heap) (TB a₀) a₀.size where
 sz st h:=h.perm.size_eq
 put st xs h hp:=⟨hp.trans h.perm,h.kind,h.fail,h.pend⟩
 cmp st i j Q h hi hj q:=by
  have sz:=h.perm.size_eq
  have gt: ∀ k,k < a₀.size-> ∃ x p ns,(arrOf st)[k]?=some (x,p)/\Zb7 s.heap x ns/\ky (kfH s.heap) (arrOf st) k=ns:=fun k kk=>by
   have kl:k < (arrOf st).size:=by lia
   have e:(arrOf st)[k]?=some (arrOf st)[k]:=getElem?_pos _ k kl
   obtain ⟨ns,ht⟩:=hk _ ((Array.perm_iff_toList_perm.mp h.perm).mem_iff.mp (show (arrOf st)[k]∈(arrOf st).toList by simp))
   refine ⟨(arrOf st)[k].1,(arrOf st)[k].2,ns,e,ht,?_⟩
   unfold ky;rw[e];exact Zkl ht
  obtain ⟨x,p,ns,e1,t1,k1⟩:=gt i hi
  obtain ⟨y,p',ms,e2,t2,k2⟩:=gt j hj
  rw[k1,k2] at q;rw[ltAt'_eq];refine wpS_bind (wpS_get ?_)
  show wpS _ _ _ _ (elem' (arrOf st) i >>= fun x=>elem' (arrOf st) j >>= fun y=>lt' x y) Q st
  rw[elem'_eq,elem'_eq,e1,e2];refine wpS_bind (wpS_pure (wpS_bind (wpS_pure ?_)))
  rw[lt'_eq];refine wpS_bind (wpS_get ?_)
  rw[h.kind];exact wpS_bind (wpS_lift (wpAny_attempt (Zq3 t1 t2 ⟨rfl,wpS_pure q⟩)))
theorem Zq5 {a₀:Array Keyed}:Cn (TB a₀):=⟨fun _ h=>h.fail,fun _ h=>h.pend⟩
theorem ZlF {v:Value}{n:Int}{ns:List Int}{Q:Option Value->Shared->Prop}(h:Zb7 s.heap v (n :: ns))(q: ∀ t,Q (some (.int n t)) s):wpAny (model prog w) A (firstOfTuple' v) Q E s:=by
 obtain ⟨a,o,its,m,rfl,e1,e2,e3,e4⟩:=h
 have e:firstOfTuple' (.ref a)=(do
  if (<- typeOf (.ref a)) != .type "tuple" then return none
  return (<- Builtin.List.listItems (.ref a))[0]?):=rfl
 rw[e];refine Wb (wpAny_typeOf ⟨o,e1,e2⟩ ?_)
 rw[if_neg (by decide)]
 refine Wb (listItems_at e1 e3 (Wp ?_))
 cases its with
 |mk l=>
  cases e4 with
  |cons n t h=>exact q t
theorem Zfu: ∀ {vs:List Value},(∀ v∈vs,∃ n ns,Zb7 s.heap v (n :: ns))-> ∀ (Q:List (Option Value)->Shared->Prop),(∀ us ns,IntsAre us ns->us.length=vs.length->Q (us.map some) s)->wpAny (model prog w) A (vs.mapM firstOfTuple') Q E s
 | [],_,Q,q=>by
  rw[List.mapM_nil];exact Wp (q [] [] .nil rfl)
 |v :: vs,h,Q,q=>by
  obtain ⟨n,ns,hv⟩:=h v (by simp)
  rw[List.mapM_cons];refine Wb (ZlF hv fun t=>Wb (Zfu (fun x hx=>h x (List.mem_cons_of_mem _ hx)) _ fun us ms hi hl=>Wp ?_))
  exact q (.int n t :: us) (n :: ms) (.cons n t hi) (by simp[hl])
theorem Zoh {vs:List Value}{Q:SortKind->Shared->Prop}(h: ∀ v∈vs,∃ n ns,Zb7 s.heap v (n :: ns))(ne:vs≠[])(q:Q (tuples' true) s):wpAny (model prog w) A (keyKind' vs.toArray) Q E s:=by
 rw[keyKind'_eq,List.mapM_toArray];simp only[map_eq_pure_bind,bind_assoc,pure_bind];refine Wb (Zfu h _ fun us ns hi hl=> ?_)
 have a1:((us.map some).toArray.all fun x=>x.isSome)=true:=by simp
 rw[if_pos a1];refine Wb (wpAny_rule ?_)
 have a2:(us.map some).toArray.filterMap id=us.toArray:=by simp
 rw[a2,oneTypeOnly'_eq,List.mapM_toArray,mapM_typeOf_ints hi];cases us with
 |nil=>exact absurd (List.eq_nil_of_length_eq_zero hl.symm) ne
 |cons u us=>
  simp only[map_pure,pure_bind];have b0:(List.map (fun _=>Value.type "int") (u :: us)).toArray[0]?=some (Value.type "int"):=by simp
  have b1:((List.map (fun _=>Value.type "int") (u :: us)).toArray.all fun x=>x == Value.type "int")=true:=by
   rw[List.all_toArray,List.all_map,List.all_eq_true];exact fun _ _=>rfl
  rw[b0];show wpAny _ _ (pure (if ((List.map (fun _=>Value.type "int") (u :: us)).toArray.all fun x=>x == Value.type "int")=true then some (Value.type "int") else none) >>= _) _ _ _
  rw[if_pos b1];exact Wb (Wp (Wp q))
theorem Zoi {a:Addr}{vs:List Value}{n:Nat}{P:Fin->Shared->Prop}(ho:s.heap.get? a=some (seqObj "list" vs.toArray n))(hk: ∀ v∈vs,∃ k ns,Zb7 s.heap v (k :: ns))(h64:vs.length < 64)
  (q: ∀ out:List Value,out.Perm vs->(∀ i j (hi:i < out.length) (hj:j < out.length),i<=j-> ∀ ns ms,Zb7 s.heap out[i] ns->Zb7 s.heap out[j] ms->HT.Z1 ms ns=false)->P (.done (.ret .none)) { s with heap:=sortedHeap s.heap a vs out.toArray }):
  wpAny (model prog w) A (Builtin.«list.sort» ⟨[.ref a],[]⟩) P E s:=by
 have al:a < s.heap.objs.size:=Hz ho
 obtain ⟨e1,o1⟩: ∃ e1,(s.heap.update a (Obj.mapSeq fun _=> #[])).get? a=some (seqObj "list" #[] e1):=⟨_,get?_update_seq ho (fun _=> #[])⟩
 have o2:(((s.heap.update a (Obj.mapSeq fun _=> #[])).push (seqObj "tuple" vs.toArray 0)).push (seqObj "list" #[] 0)).get? a=some (seqObj "list" #[] e1):=
  Hq _ (Hq _ o1)
 have kp: ∀ v ns,Zb7 s.heap v ns->Zb7 (((s.heap.update a (Obj.mapSeq fun _=> #[])).push (seqObj "tuple" vs.toArray 0)).push (seqObj "list" #[] 0)) v ns:=fun v ns ht=>ht.kept fun p o ep ec=>by
  have:p≠a:=fun z=>by
   subst z;rw[ho] at ep;cases ep
   revert ec
   show ¬ (Value.type "list"=Value.type "tuple")
   decide
  exact Hq _ (Hq _ ((Heap.get?_update_other _ _ (Ne.symm this)).trans ep))
 rw[list_sort_plain];refine Wb (listItems_at ho rfl (Wb (listUpdate_at ho rfl (Wb (seqEpoch_at o1 rfl (Wb (wpAny_newTuple (Wb (wpAny_newList (wpAny_holding ?_))))))))))
 show wpAny _ _ _ P E { s with heap:=((s.heap.update a (Obj.mapSeq fun _=> #[])).push (seqObj "tuple" vs.toArray 0)).push (seqObj "list" #[] 0) }
 have vz:vs.toArray.size=vs.length:=by simp
 have fin: ∀ xs:Array Keyed,xs.Perm (pairsOf vs)->(∀ i j,i<=j->j < vs.length->le (ky (kfH (((s.heap.update a (Obj.mapSeq fun _=> #[])).push (seqObj "tuple" vs.toArray 0)).push (seqObj "list" #[] 0))) xs i) (ky (kfH (((s.heap.update a (Obj.mapSeq fun _=> #[])).push (seqObj "tuple" vs.toArray 0)).push (seqObj "list" #[] 0))) xs j))->
   P (.done (.ret .none)) { s with heap:=sortedHeap s.heap a vs (xs.map (·.2)) }:=by
  intro xs hp hu;have hl:xs.toList.Perm (vs.zip vs):=by rw[<- pairsOf_toList];exact Array.perm_iff_toList_perm.mp hp
  have hm: ∀ p∈xs.toList,p.1=p.2/\p.1∈vs:=fun p hp=>mem_zip_self (hl.mem_iff.mp hp)
  have e2:(xs.toList.map (·.2)).Perm vs:=by
   have:=hl.map (fun p:Keyed=>p.2)
   rwa [List.map_snd_zip (Nat.le_refl _)] at this
  have ea:xs.map (·.2)=(xs.toList.map (·.2)).toArray:=by
   apply Array.toList_inj.mp
   simp
  rw[ea];refine q _ e2 fun i j hi hj ij ns ms t1 t2=> ?_
  have li:i < xs.size:=by simpa using hi
  have lj:j < xs.size:=by simpa using hj
  have lv:xs.size=vs.length:=by rw[hp.size_eq,pairsOf_size]
  have kk: ∀ k (hk:k < xs.size) (ns:List Int),Zb7 s.heap (xs[k]).2 ns->ky (kfH (((s.heap.update a (Obj.mapSeq fun _=> #[])).push (seqObj "tuple" vs.toArray 0)).push (seqObj "list" #[] 0))) xs k=ns:=fun k hk ns ht=>by
   unfold ky;rw[getElem?_pos xs k hk]
   exact Zkl (kp _ _ (by rw[(hm xs[k] (by simp)).1];exact ht))
  have:=hu i j ij (by lia)
  rw[kk i li ns (by simpa using t1),kk j lj ms (by simpa using t2)] at this
  exact this
 have rest: ∀ st':SortSt,(arrOf st').Perm (pairsOf vs)->failedOf st'=none->(∀ i j,i<=j->j < vs.length->le (ky (kfH (((s.heap.update a (Obj.mapSeq fun _=> #[])).push (seqObj "tuple" vs.toArray 0)).push (seqObj "list" #[] 0))) (arrOf st') i) (ky (kfH (((s.heap.update a (Obj.mapSeq fun _=> #[])).push (seqObj "tuple" vs.toArray 0)).push (seqObj "list" #[] 0))) (arrOf st') j))->
   wpAny (model prog w) A (do
    let b <- seqEpoch a
    Builtin.List.listUpdate (.ref a) fun _=>(arrOf st').map (·.2)
    if let some e:=failedOf st' then rule "list.sort.comparison-raised";throw e
    if (b != e1)=true then rule "list.sort.modified";raiseError "ValueError" "list modified during sort"
    ret .none) P E { s with heap:=((s.heap.update a (Obj.mapSeq fun _=> #[])).push (seqObj "tuple" vs.toArray 0)).push (seqObj "list" #[] 0) }:=by
  intro st' hp hf hu;refine Wb (seqEpoch_at o2 rfl (Wb (listUpdate_at o2 rfl ?_ (hsz2:= ?_))))
  ·rw[hf]
   simp only[bne_self_eq_false,Bool.false_eq_true,if_false];exact Wp (fin _ hp hu)
  ·rw[Array.size_map,hp.size_eq,pairsOf_size,sizeLine_eq];lia
 by_cases c:vs.toArray.size < 2
 ·rw[if_pos c,if_pos c]
  refine Wb (Wp ?_)
  show wpAny _ _ ((pure ():StateT SortSt Sem Unit).run (SortSt.mk' general' (vs.toArray.zip vs.toArray) #[] 7 none) >>= _) _ _ _
  rw[StateT.run_pure];exact Wb (Wp (rest (SortSt.mk' general' (vs.toArray.zip vs.toArray) #[] 7 none) (Array.Perm.refl _) rfl fun i j ij jn=>by rw[show i=j by lia];exact Zdw _))
 ·rw[if_neg c,if_neg c]
  refine Wb (Zoh (fun v hv=> ?_) (fun z=> ?_) (Wb (wpAny_mono (Zof (N:=(pairsOf vs).size) (Q:=fun _ t'=> ∃ t,TB (pairsOf vs) t/\arrOf t'=arrOf t/\failedOf t'=none/\Up (kfH (((s.heap.update a (Obj.mapSeq fun _=> #[])).push (seqObj "tuple" vs.toArray 0)).push (seqObj "list" #[] 0))) (arrOf t) (pairsOf vs).size) (Zq4 fun p hp=> ?_) Zq5 (by rw[pairsOf_size];lia) (by rw[pairsOf_size];exact h64) ⟨Array.Perm.refl _,rfl,rfl,rfl⟩ fun t t' a1 a2 a3 a4=>⟨t,a1,a2,a3,a4⟩) ?_ fun _ _ z=>z)))
  ·obtain ⟨k,ns,ht⟩:=hk v hv
   exact ⟨k,ns,kp _ _ ht⟩
  ·rw[z] at c;simp at c
  ·rw[pairsOf_toList] at hp
   obtain ⟨k,ns,ht⟩:=hk p.1 (mem_zip_self hp).2
   exact ⟨_,kp _ _ ht⟩
  ·rintro ⟨⟨⟩,t'⟩ s' ⟨rfl,t,tb,ea,ef,hu⟩
   rw[pairsOf_size] at hu;exact rest t' (by rw[ea];exact tb.perm) ef (by rw[ea];exact hu)
theorem Zjp {l:Addr}{vs:List Value}{Q:Vp}(hl:s.heap.IsList l vs.toArray)(hk: ∀ v∈vs,∃ k ns,Zb7 s.heap v (k :: ns))(h64:vs.length < 64)
  (q: ∀ out:List Value,out.Perm vs->(∀ i j (hi:i < out.length) (hj:j < out.length),i<=j-> ∀ ns ms,Zb7 s.heap out[i] ns->Zb7 s.heap out[j] ms->HT.Z1 ms ns=false)->Q (.ref (s.heap.objs.size + 1)) { s with heap:=sortedAll s.heap vs out.toArray }):
  wpAny (model prog w) A (call (.builtin "sorted") [.ref l]) Q E s:=by
 have z1:((s.heap.push (seqObj "list" #[] 0)).update s.heap.objs.size (Obj.mapSeq (· ++ vs.toArray))).objs.size=s.heap.objs.size + 1:=by rw[Heap.size_update,size_push']
 have o1:(((s.heap.push (seqObj "list" #[] 0)).update s.heap.objs.size (Obj.mapSeq (· ++ vs.toArray))).push (seqObj "list" vs.toArray 0)).get? (s.heap.objs.size + 1)=some (seqObj "list" vs.toArray 0):=by
  rw[<- z1];exact Heap.get?_push_size _ rfl
 have kp: ∀ p o,s.heap.get? p=some o->(((s.heap.push (seqObj "list" #[] 0)).update s.heap.objs.size (Obj.mapSeq (· ++ vs.toArray))).push (seqObj "list" vs.toArray 0)).get? p=some o:=fun p o ep=>
  Hq _ ((Heap.get?_update_other _ _ (Nat.ne_of_gt (Hz ep))).trans (Hq _ ep))
 refine Calls.call_function_entry kind_sorted plain_sorted entry_sorted (args_sorted1 _) ?_
 unfold Builtin.«sorted»;refine Wb (m:=checkCount "sorted" 1 1 _) (Wp (Wb (collect_list hl (Wb (wpAny_newList ?_)))))
 show wpAny _ _ _ _ _ { s with heap:=((s.heap.push (seqObj "list" #[] 0)).update s.heap.objs.size (Obj.mapSeq (· ++ vs.toArray))).push (seqObj "list" vs.toArray 0) }
 rw[z1];refine Wb (wpAny_holding (wpAny_call_entry slot_list_sort ⟨_,o1,rfl⟩ entry_list_sort (Zoi o1 (fun v hv=> ?_) h64 fun out hp hs=>⟨_,rfl,Wp ⟨_,rfl,q out hp fun i j hi hj ij ns ms t1 t2=>hs i j hi hj ij ns ms (t1.kept fun p o e _=>kp p o e) (t2.kept fun p o e _=>kp p o e)⟩⟩) (args_list_sort _)))
 obtain ⟨k,ns,ht⟩:=hk v hv
 exact ⟨k,ns,ht.kept fun p o e _=>kp p o e⟩
end
end ST
end
section
namespace ST
def ins (x:List Int):List (List Int)->List (List Int)
 | []=>[x]
 |y :: r=>if lt y x=true then y :: ins x r else x :: y :: r
def srt:List (List Int)->List (List Int)
 | []=>[]
 |x :: r=>ins x (srt r)
theorem Zdx (x:List Int): ∀ l,(ins x l).Perm (x :: l)
 | []=> .refl _
 |y :: r=>by
  unfold ins
  split
  ·exact ((Zdx x r).cons y).trans (.swap x y r)
  ·exact .refl _
theorem ZbD: ∀ l,(srt l).Perm l
 | []=> .refl _
 |x :: r=>(Zdx x (srt r)).trans ((ZbD r).cons x)
theorem Zkm (x:List Int): ∀ l,l.Pairwise le->(ins x l).Pairwise le
 | [],_=>List.pairwise_singleton _ _
 |y :: r,h=>by
  obtain ⟨h1,h2⟩:=List.pairwise_cons.mp h
  unfold ins
  split
  ·rename_i c
   refine List.pairwise_cons.mpr ⟨fun z hz=> ?_,Zkm x r h2⟩
   rcases List.mem_cons.mp ((Zdx x r).mem_iff.mp hz) with rfl | hz
   ·exact ZhD c
   ·exact h1 z hz
  ·rename_i c
   have c:le x y:=by unfold le;simpa using c
   refine List.pairwise_cons.mpr ⟨fun z hz=> ?_,h⟩
   rcases List.mem_cons.mp hz with rfl | hz
   ·exact c
   ·exact Zf4 c (h1 z hz)
theorem ZhI: ∀ l,(srt l).Pairwise le
 | []=> .nil
 |x :: r=>Zkm x _ (ZhI r)
theorem Zfv {a b:List (List Int)}(hp:a.Perm b)(h:a.Pairwise le):a=srt b:=
 List.Perm.eq_of_pairwise (fun x y _ _ h1 h2=>Zd8 h2 h1) h (ZhI b) (hp.trans (ZbD b).symm)
theorem Zoj {a b:List (List Int)}(hp:a.Perm b):srt a=srt b:=Zfv ((ZbD a).trans hp) (ZhI a)
end ST
namespace DL
open PyProof.Rows L2 PySem.W
theorem Zcz {α β:Type}{F:α->β->Prop}{us us':List β}(hp:us'.Perm us): ∀ {xs:List α},Paired F xs us-> ∃ xs',xs'.Perm xs/\Paired F xs' us':=by
 induction hp with
 |nil=>intro xs h;exact ⟨xs,.refl _,h⟩
 | @cons a l1 l2 h ih=>
  intro xs r;cases r with
  |cons r1 r2=>
   obtain ⟨xs',p1,p2⟩:=ih r2
   exact ⟨_ :: xs',p1.cons _,.cons r1 p2⟩
 |swap a b l=>
  intro xs r;cases r with
  |cons r1 r2=>
   cases r2 with
   |cons r2 r3=>exact ⟨_ :: _ :: _,.swap _ _ _,.cons r2 (.cons r1 r3)⟩
 |trans h1 h2 i1 i2=>
  intro xs r;obtain ⟨x1,p1,q1⟩:=i2 r
  obtain ⟨x2,p2,q2⟩:=i1 q1
  exact ⟨x2,p2.trans p1,q2⟩
theorem ZhJ {K:Fg}{H:Hp}{α:List Addr}{vs vs':List V}(hp:vs'.Perm vs): ∀ {ds:List D},Reps K H α vs ds-> ∃ ds',ds'.Perm ds/\Reps K H α vs' ds':=by
 induction hp with
 |nil=>intro xs h;exact ⟨xs,.refl _,h⟩
 | @cons a l1 l2 h ih=>
  intro xs r;cases r with
  |cons r1 r2=>
   obtain ⟨xs',p1,p2⟩:=ih r2
   exact ⟨_ :: xs',p1.cons _,.cons r1 p2⟩
 |swap a b l=>
  intro xs r;cases r with
  |cons r1 r2=>
   cases r2 with
   |cons r2 r3=>exact ⟨_ :: _ :: _,.swap _ _ _,.cons r2 (.cons r1 r3)⟩
 |trans h1 h2 i1 i2=>
  intro xs r;obtain ⟨x1,p1,q1⟩:=i2 r
  obtain ⟨x2,p2,q2⟩:=i1 q1
  exact ⟨x2,p2.trans p1,q2⟩
def ZmI (K:Fg)(H:Hp)(x:V)(ns:List Int):Prop:= ∃ q,x= .ref q/\SqT K H q (ns.map V.int)
section
variable {X:Cx}{ξ:XK}
def Zq6 (X:Cx):List V->Hp->VK->Prop:=fun vs H Q=> ∃ p xs,vs=[.ref p]/\SqL X.K H p xs/\xs.length < 64/\(∀ x∈xs,∃ k ns,ZmI X.K H x (k :: ns))/\
 ∀ l ys,H l=none->ys.Perm xs->(∀ i j (hi:i < ys.length) (hj:j < ys.length),i<=j-> ∀ ns ms,ZmI X.K H ys[i] ns->ZmI X.K H ys[j] ms->ST.le ns ms)->Q (.ref l) (upd H l (.lst ys))
theorem Zdy {pins:Pn}{σ:L2.St}{H:Hp}{s:Shared}(I:Inv X pins σ H s){x:V}{u:Value}{ns:List Int}(h:ZmI X.K H x ns)(r:ZM x u):ST.Zb7 s.heap u ns:=by
 obtain ⟨q,rfl,hq⟩:=h
 cases r
 obtain ⟨its,r2,⟨o,k1,k2,n,k3⟩,_⟩:=I.tuple hq
 exact ⟨q,o,its.toArray,n,rfl,k1,k2,k3,by simpa using ZbR r2⟩
theorem ZaS:ZbP X (.builtin "sorted") (Zq6 X):=by
 intro pins s σ H vs us Q I rs hh;obtain ⟨p,xs,e,hl,h64,hk,q⟩:=hh
 subst e;obtain ⟨u,rfl,ru⟩:=Zcj rs
 cases ru
 obtain ⟨its,rv,pl,hz⟩:=I.list hl
 refine ST.Zjp (vs:=its) pl.isList (fun v hv=> ?_) (by rw[<- rv.length];exact h64) fun out hp hs=> ?_
 ·obtain ⟨i,hi,rfl⟩:=List.getElem_of_mem hv
  obtain ⟨x,e1,e2⟩:=Zdt rv (Gq hi)
  obtain ⟨k,ns,hx⟩:=hk x (List.mem_of_getElem? e1)
  exact ⟨k,ns,Zdy I hx e2⟩
 ·obtain ⟨ys,p1,p2⟩:=Zcz hp rv
  obtain ⟨n,hn⟩:=sortedAll_at s.heap its out.toArray
  refine ⟨.ref _,_,I.laid (t':=s.toks) (o:= .lst ys) (fun _ _ h=>sortedAll_old h) (Nat.le_succ _) ⟨by rw[p1.length_eq];exact hz,out,n,p2,hn⟩,rfl,q _ ys (I.hok.fresh (Nat.le_succ _)) p1 fun i j hi hj ij ns ms k1 k2=> ?_⟩
  have hl:ys.length=out.length:=ZO.length p2
  have a1: ∀ i (hi:i < ys.length),ZM ys[i] (out[i]'(by lia)):=fun i hi=>by
   obtain ⟨u,e1,e2⟩:=ZO.get p2 (Gq hi)
   rw[List.getElem?_eq_getElem (by lia)] at e1
   cases e1
   exact e2
  exact hs i j (by lia) (by lia) ij ns ms (Zdy I k1 (a1 i hi)) (Zdy I k2 (a1 j hj))
theorem ZbE:bootBuiltins "sorted"=some (.builtin "sorted"):=by decide +kernel
def kyD:D->Option (List Int)
 | .tup xs=>(match Zal xs with | some (k :: ns)=>some (k :: ns) | _=>none)
 |_=>none
def ksD:List D->Option (List (List Int))
 | []=>some []
 |d :: r=>match kyD d,ksD r with | some k,some ks=>some (k :: ks) | _,_=>none
def tupD (ns:List Int):D:= .tup (ns.map D.int)
def ZhK (ds:List D)(M:Sto):Out D:=if ds.length < 64 then (match ksD ds with | some ks=> .ok (.ref M.length) (M ++ [.lst ((ST.srt ks).map tupD)]) | none=> .bad) else .bad
def bSrt:W3:=fun ds M=>match ds with
 | [.ref n]=>(match M[n]? with | some (.lst xs)=>ZhK xs M | none=> .bad)
 | [.rol xs]=>ZhK xs M
 |_=> .bad
theorem Zea: ∀ {xs:List D} {a:List Int},Zal xs=some a->xs=a.map D.int
 | [],a,e=>by cases e;rfl
 |x :: r,a,e=>by
  cases x with
  |int i=>
   unfold Zal at e
   split at e
   ·rename_i is e1
    cases e
    rw[Zea e1];rfl
   ·cases e
  |_=>cases e
theorem Zeb: ∀ a:List Int,Zal (a.map D.int)=some a
 | []=>rfl
 |i :: r=>by rw[List.map_cons,Zal,Zeb r]
theorem Zok {d:D}{ns:List Int}(h:kyD d=some ns):d=tupD ns/\ ∃ k r,ns=k :: r:=by
 unfold kyD at h
 split at h
 ·rename_i xs
  split at h
  ·rename_i k r e
   cases h
   exact ⟨by unfold tupD;rw[<- Zea e],k,r,rfl⟩
  ·cases h
 ·cases h
theorem Zkn: ∀ {ds:List D} {ks:List (List Int)},ksD ds=some ks->ds=ks.map tupD/\ ∀ k∈ks,k≠[]
 | [],ks,e=>by cases e;exact ⟨rfl,fun k hk=>by cases hk⟩
 |d :: r,ks,e=>by
  unfold ksD at e
  split at e
  ·rename_i k ks' e1 e2
   cases e
   obtain ⟨h1,h2⟩:=Zkn e2
   obtain ⟨h3,k0,r0,h4⟩:=Zok e1
   refine ⟨by rw[List.map_cons,<- h1,<- h3],fun x hx=> ?_⟩
   rcases List.mem_cons.mp hx with rfl | hx
   ·rw[h4];exact List.cons_ne_nil _ _
   ·exact h2 x hx
  ·cases e
theorem ZhL {H:Hp}{α:List Addr}{v:V}{ns:List Int}(r:Rep X.K H α v (tupD ns)):ZmI X.K H v ns:=by
 cases r with
 |tup hp rp=>
  have:=ZbC rp (Zeb ns)
  subst this;exact ⟨_,rfl,SqT.of hp⟩
theorem ZbF:CO X ξ (Zq6 X) bSrt:=by
 intro H α M vs ds Q h rs q;have fin: ∀ (p:Addr) (xs:List V) (ys:List D),SqL X.K H p xs->Reps X.K H α xs ys->OP X.K H α ξ Q (ZhK ys M)->Zq6 X [.ref p] H Q:=fun p xs ys k1 k2 q=>by
  unfold ZhK at q
  split at q
  ·rename_i c
   cases e:ksD ys with
   |none=>simp only[e] at q;exact q.elim
   |some ks=>
    simp only[e] at q;obtain ⟨e1,e2⟩:=Zkn e
    subst e1;refine ⟨p,xs,rfl,k1,by rw[k2.length];exact c,fun x hx=> ?_,fun l zs hl hp hs=> ?_⟩
    ·obtain ⟨i,hi,rfl⟩:=List.getElem_of_mem hx
     obtain ⟨d,d1,d2⟩:=Zcy k2 (Gq hi)
     obtain ⟨k,hk,rfl⟩:=List.mem_map.mp (List.mem_of_getElem? d1)
     match k,e2 k hk,d2 with
     |a :: b,_,d2=>exact ⟨a,b,ZhL d2⟩
     | [],z,_=>exact absurd rfl z
    ·obtain ⟨ds',p1,p2⟩:=ZhJ hp k2
     obtain ⟨ks',p3,p4⟩: ∃ ks':List (List Int),ks'.Perm ks/\ds'=ks'.map tupD:=by
      have:Paired (fun (a:List Int) d=>d=tupD a) ks (ks.map tupD):=by
       clear k2 c e p1 hp e2 q
       induction ks with
       |nil=>exact .nil
       |cons a b ih=>exact .cons rfl ih
      obtain ⟨ks',q1,q2⟩:=Zcz p1 this
      refine ⟨ks',q1,?_⟩
      clear q1 p1 p2
      induction q2 with
      |nil=>rfl
      |cons h _ ih=>rw[List.map_cons,h,ih]
     subst p4;have hup:ks'.Pairwise ST.le:=by
      refine List.pairwise_iff_getElem.mpr fun i j hi hj ij=> ?_
      have lz:zs.length=ks'.length:=by rw[p2.length,List.length_map]
      have kk: ∀ i (hi:i < ks'.length),ZmI X.K H (zs[i]'(by lia)) ks'[i]:=fun i hi=>by
       obtain ⟨d,d1,d2⟩:=Zcy p2 (Gq (show i < zs.length by lia))
       rw[List.getElem?_map,List.getElem?_eq_getElem hi] at d1
       cases d1
       exact ZhL d2
      exact hs i j (by lia) (by lia) (Nat.le_of_lt ij) _ _ (kk i hi) (kk j hj)
     rw[ST.Zfv p3 hup] at p2;exact q _ _ (α ++ [l]) (Ext.new hl) (h.new hl p2) (.ref ⟨h.last l,Kn.lst Zy⟩)
  ·exact q.elim
 match rs with
 | .nil=>exact q.elim
 | .cons r (.cons _ _)=>cases r<;>exact q.elim
 | .cons (d:=x) r .nil=>
  cases r with
  | @rol p xs ds hp rp=>exact fin p xs ds hp.sq rp q
  | @ref p n hp=>
   cases em:M[n]? with
   |none=>simp only[bSrt,em] at q;exact q.elim
   |some so=>
    cases so with
    |lst es=>
     simp only[bSrt,em] at q;obtain ⟨xs,g1,g2⟩:=h.at hp em
     exact fin p xs es (SqL.of g1) g2 q
  |_=>exact q.elim
end
end DL
end
section
namespace DL
open PyProof.Rows L2
section
variable {X:Cx}{ξ:XK}{o e e2:Expr}{fo fa fb:Ev}{apos cpos:Pos}
theorem Reps.tk {K:Fg}{H:Hp}{α:List Addr}: ∀ {vs:List V} {ds:List D} (i:Nat),Reps K H α vs ds->Reps K H α (vs.take i) (ds.take i)
 |_,_,0,_=> .nil
 |_,_,_ + 1,.nil=> .nil
 |_,_,i + 1,.cons r t=> .cons r (Reps.tk i t)
end
end DL
end
section
namespace DL
open PyProof.Rows L2
section
variable {X:Cx}{ξ:XK}
end
end DL
end
section
namespace DL
open L2
section
variable {X:Cx}{ξ:XK}{e:Expr}{f:Ev}{pos:Pos}
end
end DL
end
section
namespace DQ
open PyProof.Rows
section
variable {prog:Program}{w:World}{A:Around}{E:Vp}{s:Shared}
end
end DQ
namespace DL
open PyProof.Rows L2
section
variable {X:Cx}{ξ:XK}{tg o a b e:Expr}{es:List Expr}{f fo fa fb:Ev}{fs:Av}{name:Str}{p pos apos cpos:Pos}{id:String}{r:V->List V->Hp->VK->Prop}{g:Me}
end
end DL
end
section
namespace SX
open PySem.Builtin.Str DL
noncomputable def stp (s:Str)(c L:Nat)(b:Array Nat × Nat)(a:Nat):Array Nat × Nat:=if (decide (b.1.size < L) && decide (b.2<=a) && decide (a + 1<=s.length) && subAt s ⟨#[c]⟩ a)=true then (b.1.push a,a + 1) else (b.1,b.2)
end SX
end
section
namespace DL
open PyProof.Rows L2 SX
section
variable {X:Cx}{ξ:XK}{tg o a b e:Expr}{es:List Expr}{f fo fa fb:Ev}{fs:Av}{name:Str}{p pos apos cpos:Pos}
def okT (z:Str)(lo hi:Option Int):Prop:=0<=lo.getD 0/\lo.getD 0<=hi.getD z.cps.toList.length/\hi.getD z.cps.toList.length<=z.cps.toList.length
instance (z:Str) (lo hi:Option Int):Decidable (okT z lo hi):=by unfold okT;infer_instance
end
end DL
end
section
end
section
namespace DQ
open PyProof.Rows
open Builtin Builtin.ObjectAttr
open PySem.W (Looks findIn mroIn specialIn takesIn clsIn looks_findIn looks_mroIn looks_find findObj handedIn hasDictIn lookIn)
section
variable {prog:Program}{w:World}{A:Around}{E:Vp}{s:Shared}{K:Fg}{e C:Addr}{oe:Obj}{od:Option Obj}{name:Str}{v:Value}
end
section
variable {prog:Program}{w:World}{A:Around}{E:Vp}{h:Heap}{g:Array GenState}{d:Drawn}{t:Nat}{os:OsState}
variable {nm q:Str}{C N:Addr}{bs bm bmB:List Value}{hdct:Bool}{sn:List Str}{sub:List Value}{ab:Bool}{col:Option Bool}{dd:Option Addr}{k0 k1 k2 k3 k5:Option Value}{B newId initId:String}
end
section
variable {prog:Program}{w:World}{A:Around}{E:Vp}{s:Shared}{env:Env}
variable {nm q:Str}{C N:Addr}{bs bm bmB:List Value}{hdct:Bool}{sn:List Str}{sub:List Value}{ab:Bool}{col:Option Bool}{dd:Option Addr}{k0 k1 k2 k3 k5:Option Value}{B newId initId:String}
end
end DQ
end
section
namespace DL
open PyProof.Rows L2
open PySem.W (nsIn excIn tailIn nsOkIn mroIn clsIn typeIn findIn specialIn takesIn hasDictIn readsIn findCls handedIn)
section
variable {X:Cx}{pins:Pn}{σ:L2.St}{H H':Hp}{s:Shared}{h':Heap}{t:Nat}{e C dx:Addr}{f:Str}
end
section
variable {P:Program}{w:World}{K:Fg}{mg:Str->Option Value}{base:Heap}
end
section
variable {X:Cx}{ξ:XK}{pos:Pos}
end
end DL
end
section
namespace DL
open PyProof.Rows L2
open PySem.W (nsIn excIn tailIn nsOkIn mroIn clsIn typeIn findIn specialIn takesIn kitOne Looks looks_mroIn looks_typeIn exmAny exm_tup2)
section
variable {X:Cx}{cs:List Str}{d d':Str}{np np' tp:Pos}{kk:Nat}
end
section
variable {X:Cx}{ξ:XK}{cs:List Str}{t:Expr}{body suite:List Stmt}{b0:Stmt}{gb gh:Sv}{pos hpos:Pos}
end
end DL
end
section
namespace DL
open PyProof.Rows L2
noncomputable def Bag (n:Nat)(M:Sto):Prop:= ∃ a b:Int,0<=a/\M[n]?=some (.lst [.int a,.int b])
structure Gr (n:Nat) (M M':Sto):Prop where
 len:M.length<=M'.length
 bag:Bag n M'
 keep: ∀ k,k≠n->k < M.length->M'[k]?=M[k]?
theorem ZhM {i j:Int}(h1: -(2 ^ 64) < j)(h2:j < 2 ^ 64):ZZ i j:= .inr (.inl (intBits_le_64 h1 h2))
theorem ZhN {i j:Int}(h1: -(2 ^ 64) < i)(h2:i < 2 ^ 64):ZZ i j:= .inl (intBits_le_64 h1 h2)
theorem at0 {x:D}{r:List D}:atI (x :: r) 0=some x:=by
 show (ixN (r.length + 1) 0).bind _=_
 unfold ixN;rw[if_pos (by decide),if_pos (by lia)]
 rfl
theorem at1 {x y:D}{r:List D}:atI (x :: y :: r) 1=some y:=by
 show (ixN (r.length + 2) 1).bind _=_
 unfold ixN;rw[if_pos (by decide),if_pos (by lia)]
 rfl
theorem ix0 {n:Nat}:ixN (n + 1) 0=some 0:=by
 unfold ixN;rw[if_pos (by decide),if_pos (by lia)]
 rfl
theorem ix1 {n:Nat}:ixN (n + 2) 1=some 1:=by
 unfold ixN;rw[if_pos (by decide),if_pos (by lia)]
 rfl
theorem Bag.lt {n:Nat}{M:Sto}(h:Bag n M):n < M.length:=let ⟨_,_,_,e⟩:=h;(List.getElem?_eq_some_iff.mp e).1
theorem Bag.app {n:Nat}{M:Sto}(h:Bag n M)(L:Sto):Bag n (M ++ L):=by
 have hl:=h.lt
 obtain ⟨a,b,h1,h2⟩:=h
 exact ⟨a,b,h1,by rw[List.getElem?_append_left hl];exact h2⟩
theorem Gr.trans {n:Nat}{M M1 M2:Sto}(a:Gr n M M1)(b:Gr n M1 M2):Gr n M M2:=
 ⟨Nat.le_trans a.len b.len,b.bag,fun k h1 h2=>(b.keep k h1 (Nat.lt_of_lt_of_le h2 a.len)).trans (a.keep k h1 h2)⟩
theorem Gr.app {n:Nat}{M:Sto}(h:Bag n M)(L:Sto):Gr n M (M ++ L):=⟨by simp,h.app L,fun k _ hk=>by rw[List.getElem?_append_left hk]⟩
theorem Gr.app2 {n:Nat}{M M1:Sto}(h:Gr n M M1)(L:Sto):Gr n M (M1 ++ L):=h.trans (.app h.bag L)
theorem Gr.new {n:Nat}{M M1:Sto}{o:SO}{L:Sto}(hb:Bag n M)(h:Gr n (M ++ o :: L) M1):M1[M.length]?=some o:=by
 rw[h.keep _ (Nat.ne_of_gt hb.lt) (by simp)]
 simp
theorem Zjq {ns:List Int}{k:Nat}(h:k < ns.length):atI (ns.map D.int) (k:Int)=some (.int ns[k]):=Zk7 (by rw[List.getElem?_map,List.getElem?_eq_getElem h];rfl)
theorem ZlG (a:Int):(if a < 0 then -a else a)=(a.natAbs:Int):=by split<;>lia
end DL
end
section
end
section
namespace DL
open PyProof.Rows L2
noncomputable def wO {β:Type}(o:Out β)(Q:β->Sto->Prop)(E:W2):Prop:=match o with
 | .ok a M=>Q a M
 | .exc c M=>E c M
 | .bad=>False
def wS (f:Fl)(N:W1)(R:W0)(B C:W1)(E:W2):Prop:=match f with
 | .nx ρ M=>N ρ M
 | .ret d M=>R d M
 | .brk ρ M=>B ρ M
 | .cnt ρ M=>C ρ M
 | .exc c M=>E c M
 | .bad=>False
noncomputable def Br (k:Bool)(A B:Prop):Prop:=(k=true->A)/\(k=false->B)
noncomputable def wG {β:Type}(o:Option β)(N:β->Prop):Prop:=match o with | some ρ=>N ρ | none=>False
noncomputable def wV (o:Option (Option D))(Q:D->Prop):Prop:=match o with | some (some d)=>Q d | _=>False
noncomputable def wI (x:D)(Q:Int->Prop):Prop:=match x with | .int i=>Q i | _=>False
def wB (x:D)(Q:Bool->Prop):Prop:=match x with | .bl i=>Q i | _=>False
noncomputable def wR (x:D)(Q:Nat->Prop):Prop:=match x with | .ref i=>Q i | _=>False
noncomputable def w1 (x:List D)(Q:D->Prop):Prop:=match x with | [v]=>Q v | _=>False
noncomputable def w2 (x:List D)(Q:D->D->Prop):Prop:=match x with | [v,w]=>Q v w | _=>False
noncomputable def wL (o:Option SO)(Q:List D->Prop):Prop:=match o with | some (.lst xs)=>Q xs | none=>False
section
variable {β:Type}{o o':Option (Option D)}{x x':D}{Q:D->Prop}{QI:Int->Prop}{QB:Bool->Prop}{QR:Nat->Prop}{QL:List D->Prop}{l l':Option SO}{d:D}{i:Int}{k:Bool}{n:Nat}{xs:List D}{g g':Option β}{QG:β->Prop}{y:β}
theorem Zul:w1 [d] Q=Q d:=rfl
theorem Zum {Q2:D->D->Prop}:w2 [d,x] Q2=Q2 d x:=rfl
theorem Zun:wV (some (some d)) Q=Q d:=rfl
theorem Zuo:wI (.int i) QI=QI i:=rfl
theorem Zup:wB (.bl k) QB=QB k:=rfl
theorem Zuq:wR (.ref n) QR=QR n:=rfl
theorem Zur:wL (some (.lst xs)) QL=QL xs:=rfl
theorem Zus:wG (some y) QG=QG y:=rfl
end
section
variable {β:Type}{Q:β->Sto->Prop}{E:W2}{N B C:W1}{R:W0}{ρ:Ro}{M:Sto}{A A':Prop}
theorem Zn {d:β}:wO (.ok d M) Q E=Q d M:=rfl
theorem Zol {c:Str}:wO (.exc c M:Out β) Q E=E c M:=rfl
theorem Zqg:Br true A A'=A:=by simp[Br]
theorem Zs0:Br false A A'=A':=by simp[Br]
theorem brD {p:Prop}[Decidable p](h1:p->A)(h2: ¬ p->A'):Br (decide p) A A':=⟨fun h=>h1 (of_decide_eq_true h),fun h=>h2 (of_decide_eq_false h)⟩
theorem brN {p:Prop}[Decidable p](h1: ¬ p->A)(h2:p->A'):Br (!decide p) A A':=⟨fun h=>h1 (by simpa using h),fun h=>h2 (by simpa using h)⟩
theorem Zdz {o:Out β}{Q':β->Sto->Prop}{E':W2}(h:wO o Q E)(hq: ∀ d M,Q d M->Q' d M)(he: ∀ c M,E c M->E' c M):wO o Q' E':=by
 cases o with
 |ok d M=>exact hq d M h
 |exc c M=>exact he c M h
 |bad=>exact h
theorem ZhO {o:Out β}(h:wO o Q (fun _ _=>False)): ∃ d M',o= .ok d M'/\Q d M':=by
 cases o with
 |ok d M=>exact ⟨d,M,rfl,h⟩
 |exc c M=>exact h.elim
 |bad=>exact h.elim
theorem ZB {γ:Type}{o:Out γ}{f:γ->Sto->Out β}:wO (o.bind f) Q E=wO o (fun x M1=>wO (f x M1) Q E) E:=by cases o<;>rfl
end
section
variable {Q:W0}{E:W2}{N B C:W1}{R:W0}{ρ:Ro}{M:Sto}{e f g:Ev}{fs:Av}
theorem Zq7 {op:Bo}:wO (e2 op f g ρ M) Q E=wO (f ρ M) (fun x M1=>wO (g ρ M1) (fun y M2=>wO (op x y M2) Q E) E) E:=by
 unfold e2;rw[ZB]
 congr 1
 funext x M1
 rw[ZB]
theorem Zut {i:Nat}:wO (Zg i ρ M) Q E=wV ρ[i]? (fun d=>Q d M):=by
 unfold Zg;cases ρ[i]? with
 |none=>rfl
 |some o=>cases o<;>rfl
theorem ZlH {F:W3}:wO (Zk F fs ρ M) Q E=wO (fs ρ M) (fun ds M1=>wO (F ds M1) Q E) E:=ZB
theorem ZlI {Q:List D->Sto->Prop}:wO (Zc f fs ρ M) Q E=wO (f ρ M) (fun x M1=>wO (fs ρ M1) (fun xs M2=>Q (x :: xs) M2) E) E:=by
 unfold Zc;rw[ZB]
 congr 1
 funext x M1
 rw[ZB]
 congr 1
theorem Zom:wO (Z4 fs ρ M) Q E=wO (fs ρ M) (fun xs M1=>xs.length<=1000/\Q (.tup xs) M1) E:=by
 unfold Z4;rw[ZB]
 congr 1
 funext x M1
 by_cases h:x.length<=1000
 ·rw[if_pos h];simp[h,wO]
 ·rw[if_neg h];simp[h,wO]
theorem Zon:wO (ZbS fs ρ M) Q E=wO (fs ρ M) (fun xs M1=>xs.length<=1000/\Q (.ref M1.length) (M1 ++ [.lst xs])) E:=by
 unfold ZbS;rw[ZB]
 congr 1
 funext x M1
 by_cases h:x.length<=1000
 ·rw[if_pos h];simp[h,wO]
 ·rw[if_neg h];simp[h,wO]
variable {t u:Tv}
theorem Zoo {Q:Bool->Sto->Prop}:wO (ZcW t ρ M) Q E=wO (t ρ M) (fun k M1=>Q (!k) M1) E:=by
 unfold ZcW;rw[ZB]
 congr 1
variable {a b:Sv}
theorem Zop:wS (ZE a b ρ M) N R B C E=wS (a ρ M) (fun ρ1 M1=>wS (b ρ1 M1) N R B C E) R B C E:=by
 unfold ZE;cases a ρ M<;>rfl
theorem Z7 {β:Type}{o:Out β}{k:β->Sto->Fl}:wS (Zaq o k) N R B C E=wO o (fun x M1=>wS (k x M1) N R B C E) E:=by cases o<;>rfl
theorem Zoq:wS (Z5 f ρ M) N R B C E=wO (f ρ M) R E:=Z7
theorem ZlJ:wS (ZcX f ρ M) N R B C E=wO (f ρ M) (fun _ M1=>N ρ M1) E:=Z7
theorem Zor {i:Nat}:wS (ZJ (gNm i) f ρ M) N R B C E=wO (f ρ M) (fun d M1=>N (ρ.set i (some d)) M1) E:=Z7
theorem ZlK {gs:Tgs}:wS (ZJ (gTp gs) f ρ M) N R B C E=wO (f ρ M) (fun d M1=>wG (gTp gs d ρ) (fun r=>N r M1)) E:=by
 unfold ZJ;rw[Z7]
 congr 1
 funext d M1
 cases gTp gs d ρ<;>rfl
theorem Zos {i j:Nat}:wS (Zfh i j fs ρ M) N R B C E=wO (fs ρ M) (fun ds M1=>w2 ds fun v w=>N ((ρ.set i (some v)).set j (some w)) M1) E:=by
 unfold Zfh;rw[Z7]
 congr 1
 funext ds M1
 rcases ds with _ | ⟨v,_ | ⟨w,_ | ⟨z,r⟩⟩⟩<;>rfl
theorem Zot {fo fi:Ev}:wS (ZmF fo fi f ρ M) N R B C E=wO (f ρ M) (fun d M1=>wO (fo ρ M1) (fun o M2=>wO (fi ρ M2) (fun i M3=>wR o fun n=>wI i fun k=>wL M3[n]? fun xs=>wG (ixN xs.length k) fun j=>N ρ (M3.set n (.lst (xs.set j d)))) E) E) E:=by
 unfold ZmF;rw[Z7]
 congr 1
 funext d M1
 rw[Z7]
 congr 1
 funext o M2
 rw[Z7]
 congr 1
 funext i M3
 cases o<;>cases i<;>try rfl
 rename_i n k;cases e:M3[n]? with
 |none=>simp only[e,wR,wI,wL,wS]
 |some s=>
  cases s with
  |lst xs=>
   cases e2:ixN xs.length k<;>simp only[e,e2,wR,wI,wL,wG,wS]
theorem Zjr {c:Str}:wS (Zb5 c fs ρ M) N R B C E=wO (fs ρ M) (fun ds M1=>ds.length<=1000/\E c M1) E:=by
 unfold Zb5;rw[Z7]
 congr 1
 funext ds M1
 by_cases h:ds.length<=1000
 ·rw[if_pos h];simp[h,wS]
 ·rw[if_neg h];simp[h,wS]
theorem wF {n k:Nat}{ds:List D}(hl:ds.length=n):wO (fnF a n k ds M) Q E=wS (a (ds.map some ++ List.replicate k none) M) (fun _ M1=>Q .non M1) Q (fun _ _=>False) (fun _ _=>False) E:=by
 unfold fnF;rw[if_pos hl];cases a (ds.map some ++ List.replicate k none) M<;>rfl
theorem ZhP {o:Fl}{N' B' C':W1}{R':W0}{E':W2}(h:wS o N R B C E)(hn: ∀ ρ M,N ρ M->N' ρ M)(hr: ∀ d M,R d M->R' d M)(hb: ∀ ρ M,B ρ M->B' ρ M)(hc: ∀ ρ M,C ρ M->C' ρ M)(he: ∀ c M,E c M->E' c M):wS o N' R' B' C' E':=by
 cases o with
 |nx ρ M=>exact hn _ _ h
 |ret ρ M=>exact hr _ _ h
 |brk ρ M=>exact hb _ _ h
 |cnt ρ M=>exact hc _ _ h
 |exc ρ M=>exact he _ _ h
 |bad=>exact h
variable {tg:Tg}{bd:Sv}{fi:Ro->Sto->Out Src}
theorem ZhQ (I:Nat->Ro->Sto->Prop): ∀ (xs:List D) (k:Nat) (ρ:Ro) (M:Sto),I k ρ M->(∀ i ρ M (h:i < xs.length),I (k + i) ρ M->wG (tg xs[i] ρ) fun r=>wS (bd r M) (I (k + i + 1)) R N (I (k + i + 1)) E)->(∀ ρ M,I (k + xs.length) ρ M->N ρ M)->wS (Zbe tg bd xs ρ M) N R B C E
 | [],k,ρ,M,h,_,hn=>hn ρ M h
 |x :: xs,k,ρ,M,h,st,hn=>by
  have s:=st 0 ρ M (by simp) h
  unfold Zbe;simp only[List.getElem_cons_zero,Nat.add_zero] at s;cases e:tg x ρ with
  |none=>rw[e] at s;exact s.elim
  |some ρ1=>
   rw[e] at s;simp only[wG] at s;have rc: ∀ ρ2 M2,I (k + 1) ρ2 M2->wS (Zbe tg bd xs ρ2 M2) N R B C E:=fun ρ2 M2 h2=>ZhQ I xs (k + 1) ρ2 M2 h2 (fun i ρ M hi hI=>by
    have z:=st (i + 1) ρ M (by simp;lia) (by rw[show k + (i + 1)=k + 1 + i by lia];exact hI)
    simp only[List.getElem_cons_succ] at z;rw[show k + (i + 1) + 1=k + 1 + i + 1 by lia] at z
    exact z) (fun ρ M hI=>hn ρ M (by rw[show k + (x :: xs).length=k + 1 + xs.length by simp;lia];exact hI))
   cases eg:bd ρ1 M<;>rw[eg] at s<;>simp only[eg]
   ·exact rc _ _ s
   ·exact s
   ·exact s
   ·exact rc _ _ s
   ·exact s
   ·exact s
theorem ZlL:wS (Zbi tg fs bd ρ M) N R B C E=wO (fs ρ M) (fun ds M1=>w1 ds fun d=>wI d fun j=>(-(2 ^ 62)<=j/\j < 2 ^ 62)/\wS (Zbe tg bd (Za0 0 j.toNat) ρ M1) N R B C E) E:=by
 unfold Zbi;rw[Z7]
 congr 1
 funext ds M1
 rcases ds with _ | ⟨v,_ | ⟨w,r⟩⟩
 ·rfl
 ·cases v<;>try rfl
  rename_i j
  by_cases h: -(2 ^ 62)<=j/\j < 2 ^ 62
  ·simp only[w1,wI,eq_true h,true_and,if_true]
  ·simp only[w1,wI,eq_false h,false_and,if_false]
   rfl
 ·cases v<;>rfl
theorem Zc4 (I:Nat->Ro->Sto->Prop){n:Nat}{lo:Int}(h0:I 0 ρ M)(st: ∀ i ρ M,i < n->I i ρ M->wG (tg (.int (lo + i)) ρ) fun r=>wS (bd r M) (I (i + 1)) R N (I (i + 1)) E)(hn: ∀ ρ M,I n ρ M->N ρ M):wS (Zbe tg bd (Za0 lo n) ρ M) N R B C E:=by
 have hl:(Za0 lo n).length=n:=by simp[Za0]
 refine ZhQ I _ 0 ρ M h0 (fun i ρ M h hI=> ?_) (fun ρ M hI=>hn ρ M (by rw[hl,Nat.zero_add] at hI;exact hI))
 have:(Za0 lo n)[i]= .int (lo + i):=by simp[Za0]
 rw[this];rw[Nat.zero_add] at *;exact st i ρ M (by rw[hl] at h;exact h) hI
theorem Zou:wS (Zlm tg f bd ρ M) N R B C E=wO (f ρ M) (fun d M1=>wS (Zkb tg bd d ρ M1) N R B C E) E:=Z7
theorem ZlM (I:Nat->Ro->Sto->Prop){n:Nat}{xs:List D}: ∀ (f i:Nat) (ρ:Ro) (M:Sto),i + f=xs.length->I i ρ M->(∀ i ρ M,I i ρ M->M[n]?=some (.lst xs))->(∀ i ρ M (h:i < xs.length),I i ρ M->wG (tg xs[i] ρ) fun r=>wS (bd r M) (I (i + 1)) R N (I (i + 1)) E)->(∀ ρ M,I xs.length ρ M->N ρ M)->wS (Zgl tg bd n f i ρ M) N R B C E:=by
  intro f
  induction f with
  |zero=>
   intro i ρ M e h hm st hn;have hx:=hm _ _ _ h
   unfold Zgl;rw[hx]
   have:xs[i]?=none:=List.getElem?_eq_none (by lia)
   simp only[this];exact hn ρ M (by rw[show xs.length=i by lia];exact h)
  |succ f ih=>
   intro i ρ M e h hm st hn;have hx:=hm _ _ _ h
   unfold Zgl;rw[hx];have hi:i < xs.length:=by lia
   have:xs[i]?=some xs[i]:=Gq hi
   simp only[this];have s:=st i ρ M hi h
   cases e:tg xs[i] ρ with
   |none=>rw[e] at s;exact s.elim
   |some ρ1=>
    rw[e] at s;simp only[wG] at s;have rc: ∀ ρ2 M2,I (i + 1) ρ2 M2->wS (Zgl tg bd n f (i + 1) ρ2 M2) N R B C E:=fun ρ2 M2 h2=>ih (i + 1) ρ2 M2 (by lia) h2 hm st hn
    cases eg:bd ρ1 M<;>rw[eg] at s<;>simp only[eg]
    ·exact rc _ _ s
    ·exact s
    ·exact s
    ·exact rc _ _ s
    ·exact s
    ·exact s
theorem ZdA (I:Nat->Ro->Sto->Prop){n:Nat}{xs:List D}(hM:M[n]?=some (.lst xs))(h0:I 0 ρ M)(hm: ∀ i ρ M,I i ρ M->M[n]?=some (.lst xs))(st: ∀ i ρ M (h:i < xs.length),I i ρ M->wG (tg xs[i] ρ) fun r=>wS (bd r M) (I (i + 1)) R N (I (i + 1)) E)(hn: ∀ ρ M,I xs.length ρ M->N ρ M):wS (Zkb tg bd (.ref n) ρ M) N R B C E:=by
 show wS (match M[n]? with | some (.lst xs)=>Zgl tg bd n xs.length 0 ρ M | none=> .bad) N R B C E
 rw[hM];exact ZlM I xs.length 0 ρ M (by lia) h0 hm st hn
theorem ZlN:wS (Zdn tg fi bd ρ M) N R B C E=wO (fi ρ M) (fun src M1=>wS (Zfo tg bd src (cnt src M1) 0 ρ M1) N R B C E) E:=Z7
theorem Zov (I:Nat->Ro->Sto->Prop){src:Src}{xs:List D}: ∀ (f i:Nat) (ρ:Ro) (M:Sto),i<=xs.length->xs.length<=i + f->I i ρ M->(∀ i ρ M,i<=xs.length->I i ρ M->nxt src i M=some xs[i]?)->(∀ i ρ M (h:i < xs.length),I i ρ M->wG (tg xs[i] ρ) fun r=>wS (bd r M) (I (i + 1)) R N (I (i + 1)) E)->(∀ ρ M,I xs.length ρ M->N ρ M)->wS (Zfo tg bd src f i ρ M) N R B C E:=by
  intro f
  induction f with
  |zero=>
   intro i ρ M le e h hm st hn;have hx:=hm _ _ _ le h
   unfold Zfo;rw[hx];have hi: ¬ i < xs.length:=by lia
   have:xs[i]?=none:=List.getElem?_eq_none (by lia)
   simp only[this];exact hn ρ M (by rw[show xs.length=i by lia];exact h)
  |succ f ih=>
   intro i ρ M le e h hm st hn;have hx:=hm _ _ _ le h
   unfold Zfo;rw[hx]
   by_cases hi:i < xs.length
   ·have:xs[i]?=some xs[i]:=Gq hi
    simp only[this];have s:=st i ρ M hi h
    cases e:tg xs[i] ρ with
    |none=>rw[e] at s;exact s.elim
    |some ρ1=>
     rw[e] at s;simp only[wG] at s;have rc: ∀ ρ2 M2,I (i + 1) ρ2 M2->wS (Zfo tg bd src f (i + 1) ρ2 M2) N R B C E:=fun ρ2 M2 h2=>ih (i + 1) ρ2 M2 (by lia) (by lia) h2 hm st hn
     cases eg:bd ρ1 M<;>rw[eg] at s<;>simp only[eg]
     ·exact rc _ _ s
     ·exact s
     ·exact s
     ·exact rc _ _ s
     ·exact s
     ·exact s
   ·have:xs[i]?=none:=List.getElem?_eq_none (by lia)
    simp only[this];exact hn ρ M (by rw[show xs.length=i by lia];exact h)
theorem Zjs {c:Tv}(I:Nat->Ro->Sto->Prop)(st: ∀ n ρ M,I n ρ M->wO (c ρ M) (fun k M1=>Br k (wS (bd ρ M1) (fun ρ2 M2=> ∃ m,m < n/\I m ρ2 M2) R N (fun ρ2 M2=> ∃ m,m < n/\I m ρ2 M2) E) (N ρ M1)) E): ∀ (n:Nat) (ρ:Ro) (M:Sto),I n ρ M->wS (sWh c bd ρ M) N R B C E:=by
 intro n
 induction n using Nat.strongRecOn with
 |ind n ih=>
  intro ρ M h;have s:=st n ρ M h
  cases ec:c ρ M with
  |bad=>rw[ec] at s;exact s.elim
  |exc x M1=>rw[ec] at s;rw[Zb2 (n:=1) (o:= .exc x M1) (by simp only[whN,ec])];exact s
  |ok k M1=>
   rw[ec] at s;cases k with
   |false=>
    rw[Zn,Zs0] at s;rw[Zg8 ec];exact s
   |true=>
    rw[Zn,Zqg] at s;cases eg:bd ρ M1 with
    |nx ρ2 M2=>
     rw[eg] at s;obtain ⟨m,hm,hI⟩:=s
     have r:=ih m hm ρ2 M2 hI
     rw[Zi8 ec eg (by intro z;rw[z] at r;exact r)]
     exact r
    |cnt ρ2 M2=>
     rw[eg] at s;obtain ⟨m,hm,hI⟩:=s
     have r:=ih m hm ρ2 M2 hI
     have nb:sWh c bd ρ2 M2≠ .bad:=by intro z;rw[z] at r;exact r
     obtain ⟨j,ej⟩:=Zg7 nb
     rw[Zb2 (n:=j + 1) (o:=sWh c bd ρ2 M2) (by simp only[whN,ec,eg];exact ej)]
     exact r
    |brk ρ2 M2=>rw[eg] at s;rw[Zb2 (n:=1) (o:= .nx ρ2 M2) (by simp only[whN,ec,eg])];exact s
    |ret d M2=>rw[eg] at s;rw[Zb2 (n:=1) (o:= .ret d M2) (by simp only[whN,ec,eg])];exact s
    |exc d M2=>rw[eg] at s;rw[Zb2 (n:=1) (o:= .exc d M2) (by simp only[whN,ec,eg])];exact s
    |bad=>rw[eg] at s;exact s.elim
theorem ZlO {fi:Ro->Sto->Out Src}{k:Nat}{fr:List Nat}{c:Tv}:wO (ZaO fi k fr tg c f ρ M) Q E=wO (fi ρ M) (fun src M1=>wO (ZcT src tg c f M1.length (cnt src M1) 0 (roB k fr ρ) (M1 ++ [.lst []])) (fun _ M2=>Q (.ref M1.length) M2) (fun _ _=>False)) E:=by
 unfold ZaO;rw[ZB]
 congr 1
 funext src M1
 cases ZcT src tg c f M1.length (cnt src M1) 0 (roB k fr ρ) (M1 ++ [.lst []])<;>rfl
theorem Zko (I:Nat->Ro->Sto->Prop){src:Src}{xs:List D}{c:Tv}{m:Nat}{Q:Sto->Prop}: ∀ (fu i:Nat) (ρ:Ro) (M:Sto),i<=xs.length->xs.length<=i + fu->I i ρ M->(∀ i ρ M,i<=xs.length->I i ρ M->nxt src i M=some xs[i]?)->
  (∀ i ρ M (h:i < xs.length),I i ρ M->wG (tg xs[i] ρ) fun r=>wO (c r M) (fun k M1=>Br k (wO (f r M1) (fun y M2=>wL M2[m]? fun ys=>ys.length < 10000000/\I (i + 1) r (M2.set m (.lst (ys ++ [y])))) (fun _ _=>False)) (I (i + 1) r M1)) (fun _ _=>False))->
  (∀ ρ M,I xs.length ρ M->Q M)->wO (ZcT src tg c f m fu i ρ M) (fun _ M2=>Q M2) (fun _ _=>False):=by
  intro fu
  induction fu with
  |zero=>
   intro i ρ M le e h hm st hn;have hx:=hm _ _ _ le h
   unfold ZcT;rw[hx];have hi: ¬ i < xs.length:=by lia
   have:xs[i]?=none:=List.getElem?_eq_none (by lia)
   simp only[this];exact hn ρ M (by rw[show xs.length=i by lia];exact h)
  |succ fu ih=>
   intro i ρ M le e h hm st hn;have hx:=hm _ _ _ le h
   unfold ZcT;rw[hx]
   by_cases hi:i < xs.length
   ·have:xs[i]?=some xs[i]:=Gq hi
    simp only[this];have s:=st i ρ M hi h
    cases e:tg xs[i] ρ with
    |none=>rw[e] at s;exact s.elim
    |some ρ1=>
     rw[e] at s;simp only[wG] at s;have rc: ∀ ρ2 M2,I (i + 1) ρ2 M2->wO (ZcT src tg c f m fu (i + 1) ρ2 M2) (fun _ M2=>Q M2) (fun _ _=>False):=fun ρ2 M2 h2=>ih (i + 1) ρ2 M2 (by lia) (by lia) h2 hm st hn
     cases ec:c ρ1 M with
     |bad=>rw[ec] at s;exact s.elim
     |exc _ _=>rw[ec] at s;exact s.elim
     |ok k M1=>
      rw[ec] at s;rw[Zn] at s;cases k with
      |false=>
       rw[Zs0] at s;simp only[ec];exact rc _ _ s
      |true=>
       rw[Zqg] at s;simp only[ec];cases ef:f ρ1 M1 with
       |bad=>rw[ef] at s;exact s.elim
       |exc _ _=>rw[ef] at s;exact s.elim
       |ok y M2=>
        rw[ef,Zn] at s;simp only[ef];cases ey:M2[m]? with
        |none=>rw[ey] at s;exact s.elim
        |some o=>
         cases o with
         |lst ys=>
          rw[ey] at s;simp only[wL,ey] at s ⊢;rw[if_pos s.1];exact rc _ _ s.2
   ·have:xs[i]?=none:=List.getElem?_eq_none (by lia)
    simp only[this];exact hn ρ M (by rw[show xs.length=i by lia];exact h)
end
end DL
end
section
namespace DL
open PyProof.Rows L2
section
variable {Q:W0}{E:W2}{N B C:W1}{R:W0}{ρ:Ro}{M:Sto}{f:Ev}{fs:Av}{i j:Int}{n m k:Nat}{x y d:D}{xs ys ds:List D}{lo hi:Ro->Sto->Out (Option Int)}
theorem Zec (h: -(18446744073709551616) < i/\i < 18446744073709551616):ZZ i j:=ZhN h.1 h.2
theorem ZdB (h: -(18446744073709551616) < j/\j < 18446744073709551616):ZZ i j:=ZhM h.1 h.2
theorem Zed (h:0 < j/\j < 18446744073709551616):Zaz j:=by
 refine ⟨by lia,?_⟩
 have:j.natAbs.log2 < 64:=(Nat.log2_lt (by lia)).mpr (by lia)
 lia
theorem Zq8:wO (dAdd (.int i) (.int j) M) Q E=Q (.int (i + j)) M:=rfl
theorem Zq9:wO (dSub (.int i) (.int j) M) Q E=Q (.int (i - j)) M:=rfl
theorem Zfw (h:ZZ i j):wO (dMul (.int i) (.int j) M) Q E=Q (.int (i * j)) M:=by
 show wO (if ZZ i j then _ else _) Q E=_
 rw[if_pos h];rfl
theorem Zra (h: -(18446744073709551616) < i/\i < 18446744073709551616):wO (dMul (.int i) (.int j) M) Q E=Q (.int (i * j)) M:=Zfw (Zec h)
theorem Zow (h: -(18446744073709551616) < j/\j < 18446744073709551616):wO (dMul (.int i) (.int j) M) Q E=Q (.int (i * j)) M:=Zfw (ZdB h)
theorem Zrb (h:0 < j/\j < 18446744073709551616):wO (dDiv (.int i) (.int j) M) Q E=Q (.int (i / j)) M:=by
 show wO (if Zaz j then _ else _) Q E=_
 rw[if_pos (Zed h),Int.fdiv_eq_ediv_of_nonneg _ (by lia)];rfl
theorem Zrc (h:0 < j):wO (dMod (.int i) (.int j) M) Q E=Q (.int (i % j)) M:=by
 show wO (if j≠0 then _ else _) Q E=_
 rw[if_pos (by lia),Int.fmod_eq_emod_of_nonneg _ (by lia)];rfl
theorem Zrd (h:0<=j/\j<=1000000/\i.natAbs < 18446744073709551616):wO (dPow (.int i) (.int j) M) Q E=Q (.int (i ^ j.toNat)) M:=by
 show wO (if 0<=j/\j<=1000000/\i.natAbs < 2 ^ 64 then _ else _) Q E=_
 rw[if_pos ⟨h.1,h.2.1,by lia⟩];rfl
theorem Zuu:wO (dLt (.int i) (.int j) M) Q E=Q (.bl (decide (i < j))) M:=rfl
theorem Zuv:wO (dLe (.int i) (.int j) M) Q E=Q (.bl (decide (i<=j))) M:=rfl
theorem Zuw:wO (dGt (.int i) (.int j) M) Q E=Q (.bl (decide (j < i))) M:=rfl
theorem Zux:wO (dGe (.int i) (.int j) M) Q E=Q (.bl (decide (j<=i))) M:=rfl
theorem Zre:wO (dAdd (.ref n) (.ref m) M) Q E=wL M[n]? fun xs=>wL M[m]? fun ys=>xs.length + ys.length<=10000000/\Q (.ref M.length) (M ++ [.lst (xs ++ ys)]):=by
 show wO (match M[n]?,M[m]? with | some (.lst xs),some (.lst ys)=>_ | _,_=>_) Q E=_
 cases e1:M[n]? with
 |none=>rfl
 |some o=>
  cases o with
  |lst xs=>
   cases e2:M[m]? with
   |none=>rfl
   |some p=>
    cases p with
    |lst ys=>
     by_cases h:xs.length + ys.length<=10000000
     ·simp[wL,h,wO]
     ·simp[wL,h,wO]
theorem Zox (h:xs.length + ys.length<=100000/\xs≠[]):wO (dAdd (.tup xs) (.tup ys) M) Q E=Q (.tup (xs ++ ys)) M:=by
 show wO (if xs.length + ys.length<=100000/\xs≠[] then _ else _) Q E=_
 rw[if_pos h];rfl
theorem Zuy:wO (dEq x y M) Q E=wG (eqF 12 M x y) fun b=>Q (.bl b) M:=by
 show wO (match eqF 12 M x y with | some b=>_ | none=>_) Q E=_
 cases eqF 12 M x y<;>rfl
theorem Zuz:wO (dNe x y M) Q E=wG (eqF 12 M x y) fun b=>Q (.bl (!b)) M:=by
 show wO (match eqF 12 M x y with | some b=>_ | none=>_) Q E=_
 cases eqF 12 M x y<;>rfl
theorem ZuA:wO (dIs x y M) Q E=wG (isP x y) fun b=>Q (.bl b) M:=by
 show wO (match isP x y with | some b=>_ | none=>_) Q E=_
 cases isP x y<;>rfl
theorem Zrf:wO (dIsNot x y M) Q E=wG (isP x y) fun b=>Q (.bl (!b)) M:=by
 show wO (match isP x y with | some b=>_ | none=>_) Q E=_
 cases isP x y<;>rfl
theorem ZlP:wO (atD xs i M) Q E=wG (atI xs i) fun d=>Q d M:=by
 unfold atD;cases atI xs i<;>rfl
theorem Zrg:wO (dIx (.tup xs) (.int i) M) Q E=wG (atI xs i) fun d=>Q d M:=ZlP
theorem Zrh:wO (dIx (.rol xs) (.int i) M) Q E=wG (atI xs i) fun d=>Q d M:=ZlP
theorem Zri:wO (dIx (.ref n) (.int i) M) Q E=wL M[n]? fun xs=>wG (atI xs i) fun d=>Q d M:=by
 show wO (match M[n]? with | some (.lst xs)=>atD xs i M | _=> .bad) Q E=_
 cases e1:M[n]? with
 |none=>rfl
 |some o=>cases o with | lst xs=>exact ZlP
theorem Zoy:wO (bLen [.ref n] M) Q E=wL M[n]? fun xs=>Q (.int xs.length) M:=by
 show wO (match (match M[n]? with | some (.lst xs)=>some xs | _=>none) with | some xs=>_ | none=>_) Q E=_
 cases e1:M[n]? with
 |none=>rfl
 |some o=>cases o with | lst xs=>rfl
theorem Zoz:wO (bLen [.tup xs] M) Q E=Q (.int xs.length) M:=rfl
theorem ZoA:wO (bLen [.rol xs] M) Q E=Q (.int xs.length) M:=rfl
theorem Zrj:wO (bAbs [.int i] M) Q E=Q (.int (i.natAbs:Int)) M:=by rw[<- ZlG];rfl
theorem Zrk:wO (bMax [.int i,.int j] M) Q E=Q (.int (max i j)) M:=by
 have:max i j=if j > i then j else i:=by split<;>lia
 rw[this];rfl
theorem Zrl:wO (bMin [.int i,.int j] M) Q E=Q (.int (min i j)) M:=by
 have:min i j=if j < i then j else i:=by split<;>lia
 rw[this];rfl
theorem ZoB {k:Bool}:wO (bInt [.bl k] M) Q E=Q (.int (if k then 1 else 0)) M:=rfl
theorem ZoC:wO (bInt [.int i] M) Q E=Q (.int i) M:=rfl
theorem ZlQ:wO (bList [.ref n] M) Q E=wL M[n]? fun xs=>Q (.ref M.length) (M ++ [.lst xs]):=by
 show wO (match (match M[n]? with | some (.lst xs)=>some xs | _=>none) with | some xs=>_ | none=>_) Q E=_
 cases e1:M[n]? with
 |none=>rfl
 |some o=>cases o with | lst xs=>rfl
theorem ZlR:wO (bList [.tup xs] M) Q E=Q (.ref M.length) (M ++ [.lst xs]):=rfl
theorem Zrm:wO (ZsT [.ref n] M) Q E=wL M[n]? fun xs=>wG (Zb4 xs) fun bs=>Q (.bl (bs.all id)) M:=by
 show wO (match M[n]? with | some (.lst xs)=>(match Zb4 xs with | some bs=>Out.ok (.bl (bs.all id)) M | none=> .bad) | none=> .bad) Q E=_
 cases e1:M[n]? with
 |none=>rfl
 |some o=>
  cases o with
  |lst xs=>
   show wO (match Zb4 xs with | some bs=>Out.ok (.bl (bs.all id)) M | none=> .bad) Q E=wG (Zb4 xs) _
   cases Zb4 xs<;>rfl
theorem ZoD {g:List Int->Option Int}:wO (ZfX g [.ref n] M) Q E=wL M[n]? fun xs=>wG (Zbf xs) fun ns=>wG (g ns) fun i=>Q (.int i) M:=by
 show wO (match (match M[n]? with | some (.lst xs)=>some xs | _=>none) with | some xs=>(match Zbf xs with | some ns=>(match g ns with | some i=>Out.ok (.int i) M | none=> .bad) | none=> .bad) | none=> .bad) Q E=_
 cases e1:M[n]? with
 |none=>rfl
 |some o=>
  cases o with
  |lst xs=>
   show wO (match Zbf xs with | some ns=>(match g ns with | some i=>Out.ok (.int i) M | none=> .bad) | none=> .bad) Q E=wG (Zbf xs) _
   cases Zbf xs with
   |none=>rfl
   |some ns=>
    show wO (match g ns with | some i=>Out.ok (.int i) M | none=> .bad) Q E=wG (g ns) _
    cases g ns<;>rfl
theorem ZuB {g:Me}{fo:Ev}:wO (Zgm g fo fs ρ M) Q E=wO (fo ρ M) (fun x M1=>Zlt x M1=true/\wO (fs ρ M1) (fun ds M2=>wO (g x ds M2) Q E) E) E:=by
 unfold Zgm;rw[ZB]
 congr 1
 funext x M1
 by_cases h:Zlt x M1=true
 ·simp only[h,if_true,true_and];rw[ZB]
 ·simp[h,wO]
theorem ZoE:Zlt (.ref n) M=M[n]?.isSome:=rfl
theorem Zrn:wO (mApp (.ref n) [d] M) Q E=wL M[n]? fun xs=>xs.length < 10000000/\Q .non (M.set n (.lst (xs ++ [d]))):=by
 show wO (match M[n]? with | some (.lst xs)=>if xs.length < 10000000 then _ else _ | none=>_) Q E=_
 cases e1:M[n]? with
 |none=>rfl
 |some o=>
  cases o with
  |lst xs=>
   by_cases h:xs.length < 10000000
   ·simp[wL,h,wO]
   ·simp[wL,h,wO]
theorem Zro:wO (ZsW (.ref n) [] M) Q E=wL M[n]? fun xs=>Q .non (M.set n (.lst [])):=by
 show wO (match M[n]? with | some (.lst xs)=>_ | none=>_) Q E=_
 cases e1:M[n]? with
 |none=>rfl
 |some o=>cases o with | lst xs=>rfl
theorem Zrp:wO (mExt (.ref n) [.ref m] M) Q E=wL M[n]? fun xs=>wL M[m]? fun ys=>xs.length + ys.length<=10000000/\Q .non (M.set n (.lst (xs ++ ys))):=by
 show wO (match M[n]?,M[m]? with | some (.lst xs),some (.lst ys)=>if xs.length + ys.length<=10000000 then _ else _ | _,_=>_) Q E=_
 cases e1:M[n]? with
 |none=>rfl
 |some o=>
  cases o with
  |lst xs=>
   cases e2:M[m]? with
   |none=>rfl
   |some p=>
    cases p with
    |lst ys=>
     by_cases h:xs.length + ys.length<=10000000
     ·simp[wL,h,wO]
     ·simp[wL,h,wO]
def slR (x:D)(l u:Option Int)(M3:Sto):Out D:=match x with
 | .ref n=>(match M3[n]? with | some (.lst xs)=> .ok (.ref M3.length) (M3 ++ [.lst (ZeF xs l u)]) | none=> .bad)
 | .rol xs=> .ok (.ref M3.length) (M3 ++ [.lst (ZeF xs l u)])
 | .tup xs=>if HT.sIx xs.length 0 l=0/\HT.sIx xs.length xs.length u=xs.length then .bad else .ok (.tup (ZeF xs l u)) M3
 |_=> .bad
theorem Zrq:wO (eSl f lo hi ρ M) Q E=wO (f ρ M) (fun x M1=>wO (lo ρ M1) (fun l M2=>wO (hi ρ M2) (fun u M3=>wO (slR x l u M3) Q E) E) E) E:=by
 unfold eSl;rw[ZB]
 congr 1
 funext x M1
 rw[ZB]
 congr 1
 funext l M2
 rw[ZB]
 congr 1
theorem Zrr {l u:Option Int}:wO (slR (.ref n) l u M) Q E=wL M[n]? fun xs=>Q (.ref M.length) (M ++ [.lst (ZeF xs l u)]):=by
 unfold slR;cases e1:M[n]? with
 |none=>simp only[e1];rfl
 |some o=>cases o with | lst xs=>simp only[e1];rfl
theorem Zrs {Q:Option Int->Sto->Prop}:wO (oSo f ρ M) Q E=wO (f ρ M) (fun x M1=>wI x fun i=>Q (some i) M1) E:=by
 unfold oSo;rw[ZB]
 congr 1
 funext x M1
 cases x<;>rfl
theorem ZoF (h:0<=i):ZeF xs none (some i)=xs.take i.toNat:=by
 unfold ZeF;simp only[HT.sIx];rw[if_neg (by lia),List.drop_zero,Nat.sub_zero]
 by_cases c:i.toNat<=xs.length
 ·rw[Nat.min_eq_left c]
 ·rw[Nat.min_eq_right (by lia),List.take_of_length_le (Nat.le_refl _),List.take_of_length_le (by lia)]
theorem Zjt (h:0<=i):ZeF xs (some i) none=xs.drop i.toNat:=by
 unfold ZeF;simp only[HT.sIx];rw[if_neg (by lia)]
 by_cases c:i.toNat<=xs.length
 ·rw[Nat.min_eq_left c,List.take_of_length_le (by simp)]
 ·rw[Nat.min_eq_right (by lia),List.drop_eq_nil_of_le (Nat.le_refl _),List.drop_eq_nil_of_le (by lia),List.take_nil]
theorem ZdC {L:Sto}:(M ++ L)[M.length]?=L[0]?:=by rw[List.getElem?_append_right (Nat.le_refl _),Nat.sub_self]
theorem Zf5 {L:Sto}{i:Nat}:(M ++ L)[M.length + i]?=L[i]?:=by rw[List.getElem?_append_right (by lia)];congr 1;lia
theorem Zac {L:Sto}(h:n < M.length):(M ++ L)[n]?=M[n]?:=List.getElem?_append_left h
theorem Zkp {L:Sto}{o:SO}:(M ++ L).set M.length o=M ++ L.set 0 o:=by rw[List.set_append_right _ _ (Nat.le_refl _),Nat.sub_self]
theorem Zrt {L:Sto}{o:SO}{i:Nat}:(M ++ L).set (M.length + i) o=M ++ L.set i o:=by rw[List.set_append_right _ _ (by lia)];congr 2;lia
theorem ZoG {o:SO}(h:k≠n):(M.set n o)[k]?=M[k]?:=List.getElem?_set_ne (Ne.symm h)
theorem ZoH {o:SO}(h:n < M.length):(M.set n o)[n]?=some o:=List.getElem?_set_self h
theorem Zu {o:SO}(h:M[n]?=some o):n < M.length:=(List.getElem?_eq_some_iff.mp h).1
noncomputable abbrev pr (x y:Int):D:= .tup [.int x,.int y]
def prs (rs:List (Int × Int)):List D:=rs.map fun p=>pr p.1 p.2
def nts (ns:List Int):List D:=ns.map D.int
theorem Zw {rs:List (Int × Int)}:(prs rs).length=rs.length:=List.length_map _
theorem Zbp {rs:List Int}:(nts rs).length=rs.length:=List.length_map _
theorem ZlS {a b:List (Int × Int)}:prs a ++ prs b=prs (a ++ b):=(List.map_append).symm
theorem ZlT {a b:List Int}:nts a ++ nts b=nts (a ++ b):=(List.map_append).symm
theorem Zju {a:List (Int × Int)}:(prs a).take n=prs (a.take n):=List.map_take.symm
theorem Zjv {a:List (Int × Int)}:(prs a).drop n=prs (a.drop n):=List.map_drop.symm
theorem Zjw {a:List Int}:(nts a).take n=nts (a.take n):=List.map_take.symm
theorem Zjx {a:List Int}:(nts a).drop n=nts (a.drop n):=List.map_drop.symm
theorem Zjy {a b:Int}{r:List (Int × Int)}:pr a b :: prs r=prs ((a,b) :: r):=rfl
theorem ZlU {a:List (Int × Int)}{b c:Int}:(prs a).set n (pr b c)=prs (a.set n (b,c)):=by unfold prs;rw[List.map_set]
theorem ZlV {a:List Int}{b:Int}:(nts a).set n (.int b)=nts (a.set n b):=by unfold nts;rw[List.map_set]
noncomputable def cy (rs:List (Int × Int))(i:Int):Int × Int:=rs.getD (i % rs.length).toNat (0,0)
theorem ZoI {i:Int}{n:Nat}(h: -(n:Int)<=i/\i < n):ixN n i=some (i % n).toNat:=by
 unfold ixN
 by_cases c:0<=i
 ·rw[if_pos c,if_pos h.2,Int.emod_eq_of_lt c h.2]
 ·rw[if_neg c,if_pos h.1]
  have:i % n=i + n:=by
   rw[<- Int.add_emod_right,Int.emod_eq_of_lt (by lia) (by lia)]
  rw[this]
theorem ZbG {rs:List (Int × Int)}(h: -(rs.length:Int)<=i/\i < rs.length):atI (prs rs) i=some (pr (cy rs i).1 (cy rs i).2):=by
 unfold atI;rw[Zw,ZoI h];have hp:(i % rs.length).toNat < rs.length:=by
  have:=Int.emod_lt_of_pos i (show (0:Int) < rs.length by lia)
  have:=Int.emod_nonneg i (show (rs.length:Int)≠0 by lia)
  lia
 simp[prs,cy,List.getElem?_eq_getElem hp]
theorem Z8 {rs:List (Int × Int)}:cy rs (i % rs.length)=cy rs i:=by unfold cy;rw[Int.emod_emod_of_dvd _ (Int.dvd_refl _)]
theorem ZcA {rs:List (Int × Int)}:cy rs (i + rs.length)=cy rs i:=by unfold cy;rw[Int.add_emod_right]
theorem ZcB {rs:List (Int × Int)}:cy rs (i - rs.length)=cy rs i:=by unfold cy;rw[Int.sub_emod_right]
theorem Zbj {rs:List (Int × Int)}{k:Nat}(h:k < rs.length):cy rs k=rs[k]:=by
 unfold cy;rw[Int.emod_eq_of_lt (by lia) (by lia)]
 simp[List.getElem?_eq_getElem h]
theorem Zru {a b:Int}:eqF (n + 1) M (.int a) (.int b)=some (decide (a=b)):=rfl
theorem ZuC {a b:Bool}:eqF (n + 1) M (.bl a) (.bl b)=some (a == b):=rfl
theorem Zrv {a b c d:Int}:eqF (n + 2) M (pr a b) (pr c d)=some (decide ((a,b)=(c,d))):=by
 show some ((a == c) && ((b == d) && true))=_
 congr 1
 rw[Bool.eq_iff_iff]
 simp
theorem ZoJ {rs ss:List (Int × Int)}:eqL (eqF (n + 2) M) (prs rs) (prs ss)=some (decide (rs=ss)):=by
 induction rs generalizing ss with
 |nil=>cases ss<;>rfl
 |cons r rs ih=>
  cases ss with
  |nil=>rfl
  |cons s ss=>
   show (match eqF (n + 2) M (pr r.1 r.2) (pr s.1 s.2) with | some a=>(match eqL _ (prs rs) (prs ss) with | some b=>some (a && b) | none=>none) | none=>none)=_
   rw[Zrv,ih];simp only[]
   congr 1
   rw[Bool.eq_iff_iff];obtain ⟨r1,r2⟩:=r
   obtain ⟨s1,s2⟩:=s
   simp
theorem Zrw {xs ys:List D}(h1:M[n]?=some (.lst xs))(h2:M[m]?=some (.lst ys)):eqF (k + 1) M (.ref n) (.ref m)=if xs.length=ys.length then eqL (eqF k M) xs ys else some false:=by
 show (match kd M (.ref n),kd M (.ref m) with | some a,some b=>eqK (eqF k M) a b | _,_=>none)=_
 have e1:kd M (.ref n)=some (.lst xs):=by show (match M[n]? with | some (.lst xs)=>some (Kd.lst xs) | _=>none)=_;rw[h1]
 have e2:kd M (.ref m)=some (.lst ys):=by show (match M[m]? with | some (.lst xs)=>some (Kd.lst xs) | _=>none)=_;rw[h2]
 rw[e1,e2];rfl
theorem ZoK:Za2 M (.int i)=some "int":=rfl
theorem Zrx {b:Bool}:Za2 M (.bl b)=some "bool":=rfl
theorem ZoL:Za2 M (.tup xs)=some "tuple":=rfl
theorem ZoM:Za2 M .non=some "NoneType":=rfl
end
end DL
end
section
namespace DL
open PyProof.Rows L2
section
variable {Q:W0}{E:W2}{N B C:W1}{R:W0}{ρ:Ro}{M:Sto}{f:Ev}{fs:Av}{i j:Int}{n m k:Nat}{x y z d:D}{xs ys ds:List D}{QS:Src->Sto->Prop}{tg:Tg}{bd:Sv}{b:Bool}
theorem ZlW:wS (Zg9 tg fs bd ρ M) N R B C E=wO (fs ρ M) (fun ds M1=>w2 ds fun x y=>wI x fun i=>wI y fun j=>(-(2 ^ 62)<=i/\i < 2 ^ 62/\ -(2 ^ 62)<=j/\j < 2 ^ 62)/\wS (Zbe tg bd (Za0 i (j - i).toNat) ρ M1) N R B C E) E:=by
 unfold Zg9;rw[Z7]
 congr 1
 funext ds M1
 rcases ds with _ | ⟨v,_ | ⟨w,_ | ⟨w',r⟩⟩⟩
 ·rfl
 ·cases v<;>rfl
 ·cases v<;>try rfl
  cases w<;>try rfl
  rename_i i j
  by_cases h: -(2 ^ 62)<=i/\i < 2 ^ 62/\ -(2 ^ 62)<=j/\j < 2 ^ 62
  ·simp only[w2,wI,eq_true h,true_and,if_true]
  ·simp only[w2,wI,eq_false h,false_and,if_false]
   rfl
 ·cases v<;>cases w<;>rfl
theorem ZuD:wO (iR1 fs ρ M) QS E=wO (fs ρ M) (fun ds M1=>w1 ds fun d=>wI d fun j=>(-(2 ^ 62)<=j/\j < 2 ^ 62)/\QS (.pur (Za0 0 j.toNat)) M1) E:=by
 unfold iR1;rw[ZB]
 congr 1
 funext ds M1
 rcases ds with _ | ⟨v,_ | ⟨w,r⟩⟩
 ·rfl
 ·cases v<;>try rfl
  rename_i j
  by_cases h: -(2 ^ 62)<=j/\j < 2 ^ 62
  ·simp only[w1,wI,eq_true h,true_and,if_true,Zn]
  ·simp only[w1,wI,eq_false h,false_and,if_false]
   rfl
 ·cases v<;>rfl
theorem ZuE:wO (iR2 fs ρ M) QS E=wO (fs ρ M) (fun ds M1=>w2 ds fun x y=>wI x fun i=>wI y fun j=>(-(2 ^ 62)<=i/\i < 2 ^ 62/\ -(2 ^ 62)<=j/\j < 2 ^ 62)/\QS (.pur (Za0 i (j - i).toNat)) M1) E:=by
 unfold iR2;rw[ZB]
 congr 1
 funext ds M1
 rcases ds with _ | ⟨v,_ | ⟨w,_ | ⟨w',r⟩⟩⟩
 ·rfl
 ·cases v<;>rfl
 ·cases v<;>try rfl
  cases w<;>try rfl
  rename_i i j
  by_cases h: -(2 ^ 62)<=i/\i < 2 ^ 62/\ -(2 ^ 62)<=j/\j < 2 ^ 62
  ·simp only[w2,wI,eq_true h,true_and,if_true,Zn]
  ·simp only[w2,wI,eq_false h,false_and,if_false]
   rfl
 ·cases v<;>cases w<;>rfl
theorem ZuF:wO (iEn fs ρ M) QS E=wO (fs ρ M) (fun ds M1=>w1 ds fun d=>wR d fun n=>QS (.enu n) M1) E:=by
 unfold iEn;rw[ZB]
 congr 1
 funext ds M1
 rcases ds with _ | ⟨v,_ | ⟨w,r⟩⟩<;>try rfl
 ·cases v<;>rfl
 ·cases v<;>rfl
theorem ZuG:wO (iZp fs ρ M) QS E=wO (fs ρ M) (fun ds M1=>w2 ds fun x y=>wR x fun n=>wR y fun m=>QS (.zip n m) M1) E:=by
 unfold iZp;rw[ZB]
 congr 1
 funext ds M1
 rcases ds with _ | ⟨v,_ | ⟨w,_ | ⟨w',r⟩⟩⟩<;>try rfl
 ·cases v<;>rfl
 ·cases v<;>cases w<;>rfl
 ·cases v<;>cases w<;>rfl
theorem ZuH:wO (iRv fs ρ M) QS E=wO (fs ρ M) (fun ds M1=>w1 ds fun d=>wR d fun n=>wL M1[n]? fun xs=>QS (.rev n xs.length) M1) E:=by
 unfold iRv;rw[ZB]
 congr 1
 funext ds M1
 rcases ds with _ | ⟨v,_ | ⟨w,r⟩⟩<;>try rfl
 ·cases v<;>try rfl
  rename_i n;cases e:M1[n]? with
  |none=>simp only[e];simp only[w1,wR,e];rfl
  |some o=>cases o with | lst xs=>simp only[e,w1,wR];rfl
 ·cases v<;>rfl
noncomputable def ZoN (Q:W0)(ρ:Ro)(M:Sto):Prop:=Q .non M
theorem wF1:wO (fnF bd 1 k [x] M) Q E=wS (bd (some x :: List.replicate k none) M) (ZoN Q) Q (fun _ _=>False) (fun _ _=>False) E:=wF rfl
theorem wF2:wO (fnF bd 2 k [x,y] M) Q E=wS (bd (some x :: some y :: List.replicate k none) M) (ZoN Q) Q (fun _ _=>False) (fun _ _=>False) E:=wF rfl
theorem wF3:wO (fnF bd 3 k [x,y,z] M) Q E=wS (bd (some x :: some y :: some z :: List.replicate k none) M) (ZoN Q) Q (fun _ _=>False) (fun _ _=>False) E:=wF rfl
theorem wF4:wO (fnF bd 4 k [x,y,z,d] M) Q E=wS (bd (some x :: some y :: some z :: some d :: List.replicate k none) M) (ZoN Q) Q (fun _ _=>False) (fun _ _=>False) E:=wF rfl
theorem Zjz {a:List (Int × Int)}{b c:Int}:prs a ++ [pr b c]=prs (a ++ [(b,c)]):=by simp[prs]
theorem ZjA {a:List Int}{b:Int}:nts a ++ [D.int b]=nts (a ++ [b]):=by simp[nts]
theorem ZjB {b:Int}{r:List Int}:D.int b :: nts r=nts (b :: r):=rfl
theorem Zry:isP .non .non=some true:=rfl
theorem Zrz:isP (.int i) .non=some false:=rfl
theorem ZrA:isP (.tup xs) .non=some false:=rfl
theorem ZrB:isP (.ref n) .non=some false:=rfl
theorem ZeN (h:M[n]?=some (.lst xs)):cnt (.sto n) M=xs.length:=by show (match M[n]? with | some (.lst xs)=>xs.length | none=>0)=_;rw[h]
theorem ZlX (h:M[n]?=some (.lst xs)):cnt (.enu n) M=xs.length:=by show (match M[n]? with | some (.lst xs)=>xs.length | none=>0)=_;rw[h]
theorem ZlY (h:M[n]?=some (.lst xs)):cnt (.zip n m) M=xs.length:=by show (match M[n]? with | some (.lst xs)=>xs.length | none=>0)=_;rw[h]
theorem at2 {r:List D}:atI (x :: y :: z :: r) 2=some z:=by
 show (ixN (r.length + 3) 2).bind _=_
 unfold ixN;rw[if_pos (by decide),if_pos (by lia)]
 rfl
theorem at3 {r:List D}:atI (x :: y :: z :: d :: r) 3=some d:=by
 show (ixN (r.length + 4) 3).bind _=_
 unfold ixN;rw[if_pos (by decide),if_pos (by lia)]
 rfl
theorem ZoO:Zcq "int" "int"=true:=rfl
theorem ZoP:Zcq "int" "bool"=false:=rfl
theorem ZoQ:Zcq "bool" "int"=true:=rfl
theorem ZoR:Zcq "bool" "bool"=true:=rfl
theorem ZoS:Zcq "tuple" "tuple"=true:=rfl
theorem ZoT:Zcq "list" "list"=true:=rfl
theorem ZoU:Zcq "tuple" "int"=false:=rfl
theorem ZoV:Zcq "tuple" "list"=false:=rfl
theorem ZoW:Zcq "list" "tuple"=false:=rfl
theorem ZoX:Zcq "list" "int"=false:=rfl
theorem ZoY:Zcq "NoneType" "tuple"=false:=rfl
theorem ZoZ:Zcq "NoneType" "list"=false:=rfl
theorem Zo0 (h:M[n]?=some (.lst xs)):nxt (.enu n) k M=some ((xs[k]?).map fun d=>D.tup [.int k,d]):=by
 show (match M[n]? with | some (.lst xs)=>(match xs[k]? with | some x=>some (some (D.tup [.int k,x])) | none=>some none) | none=>none)=_
 rw[h];simp only[];cases xs[k]?<;>rfl
theorem Zee (h:M[n]?=some (.lst xs)):nxt (.sto n) k M=some xs[k]?:=by
 show (match M[n]? with | some (.lst xs)=>some xs[k]? | none=>none)=_
 rw[h]
section
variable {g:Jv}{bb:Nat}
end
theorem ZhR (I:Nat->Ro->Sto->Prop)(hM:M[n]?=some (.lst xs))(h0:I 0 ρ M)(hm: ∀ i ρ M,I i ρ M->M[n]?=some (.lst xs))(st: ∀ (i:Nat) ρ M (h:i < xs.length),I i ρ M->wG (tg (.tup [.int i,xs[i]]) ρ) fun r=>wS (bd r M) (I (i + 1)) R N (I (i + 1)) E)(hn: ∀ ρ M,I xs.length ρ M->N ρ M):wS (Zfo tg bd (.enu n) (cnt (.enu n) M) 0 ρ M) N R B C E:=by
 rw[ZlX hM];have hl:(xs.mapIdx fun (k:Nat) d=>D.tup [.int k,d]).length=xs.length:=by simp
 refine Zov I (xs:=xs.mapIdx fun (k:Nat) d=>D.tup [.int k,d]) _ 0 ρ M (by simp) (by simp) h0 (fun i ρ M _ hI=> ?_) (fun i ρ M h hI=> ?_) (fun ρ M hI=>hn ρ M (by rw[hl] at hI;exact hI))
 ·rw[Zo0 (hm _ _ _ hI),List.getElem?_mapIdx]
 ·rw[List.getElem_mapIdx]
  exact st i ρ M (by rw[hl] at h;exact h) hI
theorem Zo1 (h:M[n]?=some (.lst xs))(h':M[m]?=some (.lst ys)):nxt (.zip n m) k M=some ((List.zipWith (fun a b=>D.tup [a,b]) xs ys)[k]?):=by
 show (match M[n]?,M[m]? with | some (.lst xs),some (.lst ys)=>(match xs[k]?,ys[k]? with | some x,some y=>some (some (D.tup [x,y])) | _,_=>some none) | _,_=>none)=_
 rw[h,h',List.getElem?_zipWith]
 simp only[];cases xs[k]?<;>cases ys[k]?<;>rfl
theorem Zo2 (h:M[n]?=some (.lst xs))(hk:k<=xs.length):nxt (.rev n xs.length) k M=some xs.reverse[k]?:=by
 show (match M[n]? with | some (.lst ys)=>if k < xs.length then (match ys[xs.length - 1 - k]? with | some x=>some (some x) | none=>none) else (if k=xs.length then some none else none) | none=>none)=_
 rw[h];simp only[]
 by_cases c:k < xs.length
 ·rw[if_pos c,List.getElem?_reverse c,List.getElem?_eq_getElem (by lia)]
 ·rw[if_neg c,if_pos (by lia),List.getElem?_eq_none (by simp;lia)]
theorem ZlZ {src:Src}(Inv:Ro->Prop)(F:Nat->D){Q:Sto->Prop}(hl:xs.length < 10000000)(hcnt:xs.length<=cnt src M)(h0:Inv ρ)(hs: ∀ (L:Sto) (i:Nat),i<=xs.length->nxt src i (M ++ L)=some xs[i]?)
  (st: ∀ (i:Nat) (h:i < xs.length) (ρ:Ro) (L:Sto),Inv ρ->wG (tg xs[i] ρ) fun r=>Inv r/\wO (f r (M ++ L)) (fun y M2=>y=F i/\M2=M ++ L) (fun _ _=>False)) (hq:Q (M ++ [.lst ((List.range xs.length).map F)])):
  wO (ZcT src tg (fun _ M=> .ok true M) f M.length (cnt src M) 0 ρ (M ++ [.lst []])) (fun _ M2=>Q M2) (fun _ _=>False):=by
 refine Zko (fun i ρ M'=>Inv ρ/\M'=M ++ [.lst ((List.range i).map F)]) (xs:=xs) _ 0 ρ _ (by simp) (by lia) ⟨h0,rfl⟩ (fun i ρ M' hi hI=>by rw[hI.2];exact hs _ i hi) (fun i ρ M' h hI=> ?_) (fun ρ M' hI=>by rw[hI.2];exact hq)
 obtain ⟨hI,rfl⟩:=hI
 have s:=st i h ρ [.lst ((List.range i).map F)] hI
 cases e:tg xs[i] ρ with
 |none=>rw[e] at s;exact s.elim
 |some r=>
  rw[e] at s;obtain ⟨hr,s⟩:=s
  show Br true _ _
  rw[Zqg];refine Zdz s (fun y M2 ⟨h1,h2⟩=> ?_) (fun _ _ z=>z)
  subst h1 h2;rw[ZdC];refine ⟨by simp;lia,hr,?_⟩
  rw[Zkp,List.range_succ,List.map_append];rfl
theorem ZeO {lo:Int}:(Za0 lo n).length=n:=by simp[Za0]
theorem Zl0 {lo:Int}(h:k < (Za0 lo n).length):(Za0 lo n)[k]= .int (lo + k):=by simp[Za0]
theorem ZhS {F:Nat->Int}:(List.range n).map (fun i=>D.int (F i))=nts ((List.range n).map F):=by simp[nts]
end
end DL
end
section
namespace DL
open PyProof.Rows L2
section
variable {Q:W0}{E:W2}{N B C:W1}{R:W0}{ρ:Ro}{M:Sto}{f g:Ev}{fs:Av}{i j:Int}{n m k:Nat}{x y z d:D}{xs ys ds:List D}{QL:List D->Sto->Prop}{QB:Bool->Sto->Prop}{QS:Src->Sto->Prop}{tg:Tg}{a bd:Sv}{b:Bool}{t u:Tv}
def kU {β γ:Type}(u:β->Sto->Out γ)(Q:γ->Sto->Prop)(E:W2)(x:β)(M:Sto):Prop:=wO (u x M) Q E
noncomputable def kQ {β γ:Type}(Q:γ->Sto->Prop)(c:β->γ)(M:Sto)(x:β):Prop:=Q (c x) M
def kB2 (op:Bo)(x:D)(Q:W0)(E:W2)(y:D)(M:Sto):Prop:=wO (op x y M) Q E
def kB1 (op:Bo)(g:Ev)(ρ:Ro)(Q:W0)(E:W2)(x:D)(M:Sto):Prop:=wO (g ρ M) (kB2 op x Q E) E
theorem ZuI {op:Bo}:wO (e2 op f g ρ M) Q E=wO (f ρ M) (kB1 op g ρ Q E) E:=Zq7
theorem y_c:wO (eC d ρ M) Q E=Q d M:=rfl
theorem y_v:wO (Zg k ρ M) Q E=wV ρ[k]? (kQ Q id M):=Zut
theorem Zo3 {F:W3}:wO (Zk F fs ρ M) Q E=wO (fs ρ M) (kU F Q E) E:=ZlH
noncomputable def kA2 (x:D)(Q:List D->Sto->Prop)(xs:List D)(M:Sto):Prop:=Q (x :: xs) M
def kA1 (fs:Av)(ρ:Ro)(Q:List D->Sto->Prop)(E:W2)(x:D)(M:Sto):Prop:=wO (fs ρ M) (kA2 x Q) E
theorem ZrC:wO (aNil ρ M) QL E=QL [] M:=rfl
theorem Zo4:wO (Zc f fs ρ M) QL E=wO (f ρ M) (kA1 fs ρ QL E) E:=ZlI
noncomputable def kTu (Q:W0)(xs:List D)(M:Sto):Prop:=xs.length<=1000/\Q (.tup xs) M
noncomputable def kLs (Q:W0)(xs:List D)(M:Sto):Prop:=xs.length<=1000/\Q (.ref M.length) (M ++ [.lst xs])
theorem ZrD:wO (Z4 fs ρ M) Q E=wO (fs ρ M) (kTu Q) E:=Zom
theorem ZrE:wO (ZbS fs ρ M) Q E=wO (fs ρ M) (kLs Q) E:=Zon
noncomputable def Zs1 (x:D)(M:Sto):Out D:=match x with | .int i=> .ok (.int (-i)) M | _=> .bad
theorem ZrF:wO (ZdW f ρ M) Q E=wO (f ρ M) (kU Zs1 Q E) E:=by unfold ZdW;exact ZB
theorem Zo5:wO (Zs1 (.int i) M) Q E=Q (.int (-i)) M:=rfl
def ZrG (T:String)(x:D)(M:Sto):Out D:=match Za2 M x with | some t=> .ok (.bl (Zcq t T)) M | none=> .bad
theorem ZrH {T:String}:wO (ZmE T f ρ M) Q E=wO (f ρ M) (kU (ZrG T) Q E) E:=by unfold ZmE;exact ZB
def kTy (T:String)(Q:W0)(M:Sto)(t:String):Prop:=Q (.bl (Zcq t T)) M
theorem Zo6 {T:String}:wO (ZrG T x M) Q E=wG (Za2 M x) (kTy T Q M):=by unfold ZrG;cases Za2 M x<;>rfl
noncomputable def tC (b:Bool):Tv:=fun _ M=> .ok b M
def BrO {β:Type}(k:Bool)(f g:Ro->Sto->Out β)(ρ:Ro)(M:Sto)(Q:β->Sto->Prop)(E:W2):Prop:=wO ((if k=true then f else g) ρ M) Q E
theorem ZuJ {β:Type}{fO gO:Ro->Sto->Out β}{QO:β->Sto->Prop}:BrO true fO gO ρ M QO E=wO (fO ρ M) QO E:=rfl
theorem ZuK {β:Type}{fO gO:Ro->Sto->Out β}{QO:β->Sto->Prop}:BrO false fO gO ρ M QO E=wO (gO ρ M) QO E:=rfl
theorem brO {β:Type}{fO gO:Ro->Sto->Out β}{QO:β->Sto->Prop}{p:Prop}[Decidable p](h1:p->wO (fO ρ M) QO E)(h2: ¬ p->wO (gO ρ M) QO E):BrO (decide p) fO gO ρ M QO E:=by
 by_cases h:p
 ·rw[decide_eq_true h];exact h1 h
 ·rw[decide_eq_false h];exact h2 h
theorem ZuL {β:Type}{fO gO:Ro->Sto->Out β}{QO:β->Sto->Prop}(h1:b=true->wO (fO ρ M) QO E)(h2:b=false->wO (gO ρ M) QO E):BrO b fO gO ρ M QO E:=by
 cases b
 ·exact h2 rfl
 ·exact h1 rfl
theorem Zs2 {β:Type}{fO gO:Ro->Sto->Out β}{QO:β->Sto->Prop}(P:β->Sto->Prop)(h:BrO b fO gO ρ M P E)(hn: ∀ x M,P x M->QO x M):BrO b fO gO ρ M QO E:=by
 cases b
 ·exact Zdz h hn (fun _ _ z=>z)
 ·exact Zdz h hn (fun _ _ z=>z)
def kIf (f g:Ev)(ρ:Ro)(Q:W0)(E:W2)(k:Bool)(M:Sto):Prop:=BrO k f g ρ M Q E
theorem ZuM:wO (eIf t f g ρ M) Q E=wO (t ρ M) (kIf f g ρ Q E) E:=by unfold eIf;rw[ZB];congr 1;funext k M1;cases k<;>rfl
def Zs3 (g:Ev)(ρ:Ro)(x:D)(M:Sto):Out D:=match x with | .bl k=>if k=true then g ρ M else .ok (.bl false) M | _=> .bad
def oOr (g:Ev)(ρ:Ro)(x:D)(M:Sto):Out D:=match x with | .bl k=>if k=true then .ok (.bl true) M else g ρ M | _=> .bad
def Zs4 (x:D)(M:Sto):Out D:=match x with | .bl k=> .ok (.bl (!k)) M | _=> .bad
def oTv (x:D)(M:Sto):Out Bool:=match x with | .bl k=> .ok k M | _=> .bad
theorem ZrI:wO (Zns f g ρ M) Q E=wO (f ρ M) (kU (Zs3 g ρ) Q E) E:=by unfold Zns;exact ZB
theorem ZuN:wO (ZsR f g ρ M) Q E=wO (f ρ M) (kU (oOr g ρ) Q E) E:=by unfold ZsR;exact ZB
theorem ZrJ:wO (Znt f ρ M) Q E=wO (f ρ M) (kU Zs4 Q E) E:=by unfold Znt;exact ZB
theorem Zo7:wO (Zs3 g ρ (.bl b) M) Q E=BrO b g (eC (.bl false)) ρ M Q E:=by cases b<;>rfl
theorem ZrK:wO (oOr g ρ (.bl b) M) Q E=BrO b (eC (.bl true)) g ρ M Q E:=by cases b<;>rfl
theorem Zo8:wO (Zs4 (.bl b) M) Q E=Q (.bl (!b)) M:=rfl
theorem ZuO:wO (tv f ρ M) QB E=wO (f ρ M) (kU oTv QB E) E:=by unfold tv;exact ZB
theorem ZrL:wO (oTv (.bl b) M) QB E=QB b M:=rfl
def kTA (u:Tv)(ρ:Ro)(Q:Bool->Sto->Prop)(E:W2)(k:Bool)(M:Sto):Prop:=BrO k u (tC false) ρ M Q E
def kTO (u:Tv)(ρ:Ro)(Q:Bool->Sto->Prop)(E:W2)(k:Bool)(M:Sto):Prop:=BrO k (tC true) u ρ M Q E
noncomputable def kTN (Q:Bool->Sto->Prop)(k:Bool)(M:Sto):Prop:=Q (!k) M
theorem ZuP:wO (tC b ρ M) QB E=QB b M:=rfl
theorem Zo9:wO (ZgW t u ρ M) QB E=wO (t ρ M) (kTA u ρ QB E) E:=by unfold ZgW;rw[ZB];congr 1;funext k M1;cases k<;>rfl
theorem ZrM:wO (Zgk t u ρ M) QB E=wO (t ρ M) (kTO u ρ QB E) E:=by unfold Zgk;rw[ZB];congr 1;funext k M1;cases k<;>rfl
theorem Zpa:wO (ZcW t ρ M) QB E=wO (t ρ M) (kTN QB) E:=Zoo
def kSq (b:Sv)(N:W1)(R:W0)(B C:W1)(E:W2)(ρ:Ro)(M:Sto):Prop:=wS (b ρ M) N R B C E
theorem ZrN:wS (ZE a bd ρ M) N R B C E=wS (a ρ M) (kSq bd N R B C E) R B C E:=Zop
theorem Zpb:wS (sNil ρ M) N R B C E=N ρ M:=rfl
theorem ZrO:wS (Zt5 ρ M) N R B C E=B ρ M:=rfl
theorem ZrP:wS (Zt6 ρ M) N R B C E=C ρ M:=rfl
theorem ZrQ:wS (Z5 f ρ M) N R B C E=wO (f ρ M) R E:=Zoq
theorem Zpc:wS (ZqJ ρ M) N R B C E=R .non M:=rfl
noncomputable def kDr (ρ:Ro)(N:W1)(d:D)(M:Sto):Prop:=N ρ M
theorem Zpd:wS (ZcX f ρ M) N R B C E=wO (f ρ M) (kDr ρ N) E:=ZlJ
def BrS (k:Bool)(a b:Sv)(ρ:Ro)(M:Sto)(N:W1)(R:W0)(B C:W1)(E:W2):Prop:=wS ((if k=true then a else b) ρ M) N R B C E
theorem ZuQ:BrS true a bd ρ M N R B C E=wS (a ρ M) N R B C E:=rfl
theorem ZuR:BrS false a bd ρ M N R B C E=wS (bd ρ M) N R B C E:=rfl
theorem brS {p:Prop}[Decidable p](h1:p->wS (a ρ M) N R B C E)(h2: ¬ p->wS (bd ρ M) N R B C E):BrS (decide p) a bd ρ M N R B C E:=by
 by_cases h:p
 ·rw[decide_eq_true h];exact h1 h
 ·rw[decide_eq_false h];exact h2 h
theorem ZrR (h1:b=true->wS (a ρ M) N R B C E)(h2:b=false->wS (bd ρ M) N R B C E):BrS b a bd ρ M N R B C E:=by
 cases b
 ·exact h2 rfl
 ·exact h1 rfl
theorem ZmJ (P:W1)(h:BrS b a bd ρ M P R B C E)(hn: ∀ ρ M,P ρ M->N ρ M):BrS b a bd ρ M N R B C E:=by
 cases b
 ·exact ZhP h hn (fun _ _ z=>z) (fun _ _ z=>z) (fun _ _ z=>z) (fun _ _ z=>z)
 ·exact ZhP h hn (fun _ _ z=>z) (fun _ _ z=>z) (fun _ _ z=>z) (fun _ _ z=>z)
def kSi (a b:Sv)(ρ:Ro)(N:W1)(R:W0)(B C:W1)(E:W2)(k:Bool)(M:Sto):Prop:=BrS k a b ρ M N R B C E
theorem ZrS:wS (sIf t a bd ρ M) N R B C E=wO (t ρ M) (kSi a bd ρ N R B C E) E:=by unfold sIf;rw[Z7];congr 1;funext k M1;cases k<;>rfl
noncomputable def kAs (i:Nat)(ρ:Ro)(N:W1)(d:D)(M:Sto):Prop:=N (ρ.set i (some d)) M
theorem ZrT:wS (ZJ (gNm k) f ρ M) N R B C E=wO (f ρ M) (kAs k ρ N) E:=Zor
def kAt (gs:Tgs)(ρ:Ro)(N:W1)(d:D)(M:Sto):Prop:=wG (gTp gs d ρ) (kQ N id M)
theorem Zpe {gs:Tgs}:wS (ZJ (gTp gs) f ρ M) N R B C E=wO (f ρ M) (kAt gs ρ N) E:=ZlK
noncomputable def Zs5 (i j:Nat)(ρ:Ro)(N:W1)(M:Sto)(v w:D):Prop:=N ((ρ.set i (some v)).set j (some w)) M
def kPa (i j:Nat)(ρ:Ro)(N:W1)(ds:List D)(M:Sto):Prop:=w2 ds (Zs5 i j ρ N M)
theorem ZrU:wS (Zfh k m fs ρ M) N R B C E=wO (fs ρ M) (kPa k m ρ N) E:=Zos
noncomputable def Zs6 (n:Nat)(d:D)(xs:List D)(ρ:Ro)(N:W1)(M:Sto)(j:Nat):Prop:=N ρ (M.set n (.lst (xs.set j d)))
def Zs7 (n:Nat)(k:Int)(d:D)(ρ:Ro)(N:W1)(M:Sto)(xs:List D):Prop:=wG (ixN xs.length k) (Zs6 n d xs ρ N M)
def Zs8 (n:Nat)(d:D)(ρ:Ro)(N:W1)(M:Sto)(k:Int):Prop:=wL M[n]? (Zs7 n k d ρ N M)
def Zs9 (i:D)(d:D)(ρ:Ro)(N:W1)(M:Sto)(n:Nat):Prop:=wI i (Zs8 n d ρ N M)
def Zta (o:D)(d:D)(ρ:Ro)(N:W1)(i:D)(M:Sto):Prop:=wR o (Zs9 i d ρ N M)
def Ztb (fi:Ev)(d:D)(ρ:Ro)(N:W1)(E:W2)(o:D)(M:Sto):Prop:=wO (fi ρ M) (Zta o d ρ N) E
def kPu (fo fi:Ev)(ρ:Ro)(N:W1)(E:W2)(d:D)(M:Sto):Prop:=wO (fo ρ M) (Ztb fi d ρ N E) E
theorem ZrV {fo fi:Ev}:wS (ZmF fo fi f ρ M) N R B C E=wO (f ρ M) (kPu fo fi ρ N E) E:=Zot
noncomputable def kRa (c:Str)(E:W2)(ds:List D)(M:Sto):Prop:=ds.length<=1000/\E c M
theorem Zl1 {c:Str}:wS (Zb5 c fs ρ M) N R B C E=wO (fs ρ M) (kRa c E) E:=Zjr
def Ztc (tg:Tg)(bd:Sv)(ρ:Ro)(N:W1)(R:W0)(B C:W1)(E:W2)(M:Sto)(j:Int):Prop:=(-(2 ^ 62)<=j/\j < 2 ^ 62)/\wS (Zbe tg bd (Za0 0 j.toNat) ρ M) N R B C E
def Ztd (tg:Tg)(bd:Sv)(ρ:Ro)(N:W1)(R:W0)(B C:W1)(E:W2)(M:Sto)(d:D):Prop:=wI d (Ztc tg bd ρ N R B C E M)
def kR1 (tg:Tg)(bd:Sv)(ρ:Ro)(N:W1)(R:W0)(B C:W1)(E:W2)(ds:List D)(M:Sto):Prop:=w1 ds (Ztd tg bd ρ N R B C E M)
theorem Zpf:wS (Zbi tg fs bd ρ M) N R B C E=wO (fs ρ M) (kR1 tg bd ρ N R B C E) E:=ZlL
def Zte (tg:Tg)(bd:Sv)(ρ:Ro)(N:W1)(R:W0)(B C:W1)(E:W2)(M:Sto)(i:Int)(j:Int):Prop:=(-(2 ^ 62)<=i/\i < 2 ^ 62/\ -(2 ^ 62)<=j/\j < 2 ^ 62)/\wS (Zbe tg bd (Za0 i (j - i).toNat) ρ M) N R B C E
def Ztf (tg:Tg)(bd:Sv)(ρ:Ro)(N:W1)(R:W0)(B C:W1)(E:W2)(M:Sto)(y:D)(i:Int):Prop:=wI y (Zte tg bd ρ N R B C E M i)
def Ztg (tg:Tg)(bd:Sv)(ρ:Ro)(N:W1)(R:W0)(B C:W1)(E:W2)(M:Sto)(x y:D):Prop:=wI x (Ztf tg bd ρ N R B C E M y)
def kR2 (tg:Tg)(bd:Sv)(ρ:Ro)(N:W1)(R:W0)(B C:W1)(E:W2)(ds:List D)(M:Sto):Prop:=w2 ds (Ztg tg bd ρ N R B C E M)
theorem Zpg:wS (Zg9 tg fs bd ρ M) N R B C E=wO (fs ρ M) (kR2 tg bd ρ N R B C E) E:=ZlW
def kFo (tg:Tg)(bd:Sv)(ρ:Ro)(N:W1)(R:W0)(B C:W1)(E:W2)(d:D)(M:Sto):Prop:=wS (Zkb tg bd d ρ M) N R B C E
theorem ZrW:wS (Zlm tg f bd ρ M) N R B C E=wO (f ρ M) (kFo tg bd ρ N R B C E) E:=Zou
theorem Zph:wS (Zkb tg bd (.tup xs) ρ M) N R B C E=wS (Zbe tg bd xs ρ M) N R B C E:=rfl
theorem Zpi:wS (Zkb tg bd (.rol xs) ρ M) N R B C E=wS (Zbe tg bd xs ρ M) N R B C E:=rfl
def kFs (tg:Tg)(bd:Sv)(ρ:Ro)(N:W1)(R:W0)(B C:W1)(E:W2)(src:Src)(M:Sto):Prop:=wS (Zfo tg bd src (cnt src M) 0 ρ M) N R B C E
theorem Zpj {fi:Ro->Sto->Out Src}:wS (Zdn tg fi bd ρ M) N R B C E=wO (fi ρ M) (kFs tg bd ρ N R B C E) E:=ZlN
def hT (cs:List Str)(gh:Sv)(W:List Bool)(i:Nat)(ρ:Ro)(c:Str)(M:Sto):Fl:=if cs.contains c=true then (match gh ((kpR W ρ).set i (some (.err c (fsE c M)))) (stE c M) with | .ret d M2=> .ret d M2 | .nx _ M2=> .nx (List.replicate ρ.length none) M2 | _=> .bad) else .bad
def kTr (cs:List Str)(gh:Sv)(W:List Bool)(i:Nat)(ρ:Ro)(N:W1)(R:W0)(B C:W1)(E:W2)(c:Str)(M:Sto):Prop:=cs.contains c=true/\wS (gh ((kpR W ρ).set i (some (.err c (fsE c M)))) (stE c M)) (fun _ M2=>N (List.replicate ρ.length none) M2) R (fun _ _=>False) (fun _ _=>False) (fun _ _=>False)
theorem ZrX {cs:List Str}{W:List Bool}{gh:Sv}:wS (ZsV a cs W k gh ρ M) N R B C E=wS (a ρ M) N R B C (kTr cs gh W k ρ N R B C E):=by
 unfold ZsV;cases e:a ρ M<;>try rfl
 rename_i c M1;show wS (if cs.contains c=true then _ else _) N R B C E=kTr cs gh W k ρ N R B C E c M1
 unfold kTr
 by_cases h:cs.contains c=true
 ·rw[if_pos h]
  simp only[h,true_and];cases gh ((kpR W ρ).set k (some (.err c (fsE c M1)))) (stE c M1)<;>rfl
 ·rw[if_neg h]
  simp only[h,Bool.false_eq_true,false_and];rfl
theorem Zf6:fsE (PySem.Str.ofString "NoRatio") M=[]:=ZbA (by decide +kernel)
theorem Zf7:stE (PySem.Str.ofString "NoRatio") M=M:=Zbo (by decide +kernel)
theorem Zef:fsE (PySem.Str.ofString "NoTurning") M=[]:=ZbA (by decide +kernel)
theorem Zeg:stE (PySem.Str.ofString "NoTurning") M=M:=Zbo (by decide +kernel)
theorem Zeh:fsE (PySem.Str.ofString "NotSmooth") M=[]:=ZbA (by decide +kernel)
theorem Zei:stE (PySem.Str.ofString "NotSmooth") M=M:=Zbo (by decide +kernel)
theorem Zf8:fsE (PySem.Str.ofString "NoWedge") M=[]:=ZbA (by decide +kernel)
theorem Zf9:stE (PySem.Str.ofString "NoWedge") M=M:=Zbo (by decide +kernel)
theorem ZjC:fsE (PySem.Str.ofString "NoRow") M=[]:=ZbA (by decide +kernel)
theorem ZjD:stE (PySem.Str.ofString "NoRow") M=M:=Zbo (by decide +kernel)
theorem Zga:fsE (PySem.Str.ofString "NoPlace") M=[]:=ZbA (by decide +kernel)
theorem Zgb:stE (PySem.Str.ofString "NoPlace") M=M:=Zbo (by decide +kernel)
theorem Zgc:fsE (PySem.Str.ofString "NoMinus") M=[]:=ZbA (by decide +kernel)
theorem Zgd:stE (PySem.Str.ofString "NoMinus") M=M:=Zbo (by decide +kernel)
theorem ZhT:fsE (PySem.Str.ofString "NoFour") M=[]:=ZbA (by decide +kernel)
theorem ZhU:stE (PySem.Str.ofString "NoFour") M=M:=Zbo (by decide +kernel)
theorem ZeP:fsE (PySem.Str.ofString "NoHeight") M=[]:=ZbA (by decide +kernel)
theorem ZeQ:stE (PySem.Str.ofString "NoHeight") M=M:=Zbo (by decide +kernel)
theorem ZhV:fsE (PySem.Str.ofString "NoBend") M=[]:=ZbA (by decide +kernel)
theorem ZhW:stE (PySem.Str.ofString "NoBend") M=M:=Zbo (by decide +kernel)
theorem ZhX:fsE (PySem.Str.ofString "NoBody") M=[]:=ZbA (by decide +kernel)
theorem ZhY:stE (PySem.Str.ofString "NoBody") M=M:=Zbo (by decide +kernel)
theorem ZjE:fsE (PySem.Str.ofString "NoOne") M=[]:=ZbA (by decide +kernel)
theorem ZjF:stE (PySem.Str.ofString "NoOne") M=M:=Zbo (by decide +kernel)
theorem ZhZ:fsE (PySem.Str.ofString "NoText") M=[]:=ZbA (by decide +kernel)
theorem Zh0:stE (PySem.Str.ofString "NoText") M=M:=Zbo (by decide +kernel)
theorem Zge:fsE (PySem.Str.ofString "Unknown") M=[]:=ZbA (by decide +kernel)
theorem Zgf:stE (PySem.Str.ofString "Unknown") M=M:=Zbo (by decide +kernel)
theorem Zgg:fsE (PySem.Str.ofString "NoRound") (M ++ [.lst xs])=xs:=ZqL (by decide +kernel)
theorem Zgh:stE (PySem.Str.ofString "NoRound") (M ++ [.lst xs])=M:=ZnP (by decide +kernel)
noncomputable def ZuS (Q:W0)(M1:Sto)(u:Unit)(M:Sto):Prop:=Q (.ref M1.length) M
def kCo (tg:Tg)(c:Tv)(f:Ev)(k:Nat)(fr:List Nat)(ρ:Ro)(Q:W0)(src:Src)(M:Sto):Prop:=wO (ZcT src tg c f M.length (cnt src M) 0 (roB k fr ρ) (M ++ [.lst []])) (ZuS Q M) (fun _ _=>False)
theorem Zpk {fi:Ro->Sto->Out Src}{fr:List Nat}:wO (ZaO fi k fr tg t f ρ M) Q E=wO (fi ρ M) (kCo tg t f k fr ρ Q) E:=ZlO
def Zth (QS:Src->Sto->Prop)(M:Sto)(j:Int):Prop:=(-(2 ^ 62)<=j/\j < 2 ^ 62)/\QS (.pur (Za0 0 j.toNat)) M
def Zti (QS:Src->Sto->Prop)(M:Sto)(d:D):Prop:=wI d (Zth QS M)
def kS1 (QS:Src->Sto->Prop)(ds:List D)(M:Sto):Prop:=w1 ds (Zti QS M)
theorem ZuT:wO (iR1 fs ρ M) QS E=wO (fs ρ M) (kS1 QS) E:=ZuD
def Ztj (QS:Src->Sto->Prop)(M:Sto)(i:Int)(j:Int):Prop:=(-(2 ^ 62)<=i/\i < 2 ^ 62/\ -(2 ^ 62)<=j/\j < 2 ^ 62)/\QS (.pur (Za0 i (j - i).toNat)) M
def Ztk (QS:Src->Sto->Prop)(M:Sto)(y:D)(i:Int):Prop:=wI y (Ztj QS M i)
def Ztl (QS:Src->Sto->Prop)(M:Sto)(x y:D):Prop:=wI x (Ztk QS M y)
def kS2 (QS:Src->Sto->Prop)(ds:List D)(M:Sto):Prop:=w2 ds (Ztl QS M)
theorem ZuU:wO (iR2 fs ρ M) QS E=wO (fs ρ M) (kS2 QS) E:=ZuE
noncomputable def oSq (d:D)(M:Sto):Out Src:=match d with | .tup ds=> .ok (.pur ds) M | .rol ds=> .ok (.pur ds) M | .con ds=> .ok (.pur ds) M | .ref n=> .ok (.sto n) M | _=> .bad
theorem ZuV:wO (iSq f ρ M) QS E=wO (f ρ M) (kU oSq QS E) E:=by unfold iSq;exact ZB
theorem ZrY:wO (oSq (.tup xs) M) QS E=QS (.pur xs) M:=rfl
theorem ZrZ:wO (oSq (.rol xs) M) QS E=QS (.pur xs) M:=rfl
theorem Zr0:wO (oSq (.ref n) M) QS E=QS (.sto n) M:=rfl
def Ztm (QS:Src->Sto->Prop)(M:Sto)(d:D):Prop:=wR d (kQ QS .enu M)
def kEn (QS:Src->Sto->Prop)(ds:List D)(M:Sto):Prop:=w1 ds (Ztm QS M)
theorem ZuW:wO (iEn fs ρ M) QS E=wO (fs ρ M) (kEn QS) E:=ZuF
def Ztn (QS:Src->Sto->Prop)(M:Sto)(y:D)(n:Nat):Prop:=wR y (kQ QS (.zip n) M)
def Zto (QS:Src->Sto->Prop)(M:Sto)(x y:D):Prop:=wR x (Ztn QS M y)
def kZp (QS:Src->Sto->Prop)(ds:List D)(M:Sto):Prop:=w2 ds (Zto QS M)
theorem ZuX:wO (iZp fs ρ M) QS E=wO (fs ρ M) (kZp QS) E:=ZuG
noncomputable def Ztp (QS:Src->Sto->Prop)(n:Nat)(M:Sto)(xs:List D):Prop:=QS (.rev n xs.length) M
def Ztq (QS:Src->Sto->Prop)(M:Sto)(n:Nat):Prop:=wL M[n]? (Ztp QS n M)
def Ztr (QS:Src->Sto->Prop)(M:Sto)(d:D):Prop:=wR d (Ztq QS M)
def kRv (QS:Src->Sto->Prop)(ds:List D)(M:Sto):Prop:=w1 ds (Ztr QS M)
theorem ZuY:wO (iRv fs ρ M) QS E=wO (fs ρ M) (kRv QS) E:=ZuH
noncomputable def Zpl (xs:List D)(M:Sto)(Q:W0)(ys:List D):Prop:=xs.length + ys.length<=10000000/\Q (.ref M.length) (M ++ [.lst (xs ++ ys)])
def Zts (m:Nat)(M:Sto)(Q:W0)(xs:List D):Prop:=wL M[m]? (Zpl xs M Q)
theorem Zr1:wO (dAdd (.ref n) (.ref m) M) Q E=wL M[n]? (Zts m M Q):=Zre
noncomputable def Zqh (i:Int)(M:Sto)(Q:W0)(xs:List D):Prop:=((-9223372036854775808<=i/\i < 9223372036854775808)/\xs.length * i.toNat<=100000)/\Q (.ref M.length) (M ++ [.lst (List.replicate i.toNat xs).flatten])
theorem Zr2:wO (Zuj (.ref n) (.int i) M) Q E=wL M[n]? (Zqh i M Q):=by
 show wO (match M[n]? with | some (.lst xs)=>if (-9223372036854775808<=i/\i < 9223372036854775808)/\xs.length * i.toNat<=100000 then Out.ok (.ref M.length) (M ++ [.lst (List.replicate i.toNat xs).flatten]) else .bad | none=> .bad) Q E=_
 cases e1:M[n]? with
 |none=>rfl
 |some o=>
  cases o with
  |lst xs=>
   show wO (if (-9223372036854775808<=i/\i < 9223372036854775808)/\xs.length * i.toNat<=100000 then Out.ok (.ref M.length) (M ++ [.lst (List.replicate i.toNat xs).flatten]) else .bad) Q E=Zqh i M Q xs
   unfold Zqh
   by_cases h:(-9223372036854775808<=i/\i < 9223372036854775808)/\xs.length * i.toNat<=100000
   ·rw[if_pos h];simp only[eq_true h,true_and];rfl
   ·rw[if_neg h];simp only[eq_false h,false_and];rfl
def kEq (Q:W0)(M:Sto)(b:Bool):Prop:=Q (.bl b) M
def kNe (Q:W0)(M:Sto)(b:Bool):Prop:=Q (.bl (!b)) M
theorem ZuZ:wO (dEq x y M) Q E=wG (eqF 12 M x y) (kEq Q M):=Zuy
theorem Zu0:wO (dNe x y M) Q E=wG (eqF 12 M x y) (kNe Q M):=Zuz
theorem Zu1:wO (dIs x y M) Q E=wG (isP x y) (kEq Q M):=ZuA
theorem Zr3:wO (dIsNot x y M) Q E=wG (isP x y) (kNe Q M):=Zrf
theorem Zr4:wO (ZsX x y M) Q E=wG (inE x y M) (kEq Q M):=by unfold ZsX;cases inE x y M<;>rfl
theorem ZjG:wO (Zhj x y M) Q E=wG (inE x y M) (kNe Q M):=by unfold Zhj;cases inE x y M<;>rfl
theorem Zr5:wO (dIx (.tup xs) (.int i) M) Q E=wG (atI xs i) (kQ Q id M):=Zrg
theorem Zr6:wO (dIx (.rol xs) (.int i) M) Q E=wG (atI xs i) (kQ Q id M):=Zrh
def kIx (i:Int)(Q:W0)(M:Sto)(xs:List D):Prop:=wG (atI xs i) (kQ Q id M)
theorem Zr7:wO (dIx (.ref n) (.int i) M) Q E=wL M[n]? (kIx i Q M):=Zri
noncomputable def Ztt (Q:W0)(M:Sto)(xs:List D):Prop:=Q (.int xs.length) M
theorem Zpm:wO (bLen [.ref n] M) Q E=wL M[n]? (Ztt Q M):=Zoy
noncomputable def kLi (Q:W0)(M:Sto)(xs:List D):Prop:=Q (.ref M.length) (M ++ [.lst xs])
theorem Zl2:wO (bList [.ref n] M) Q E=wL M[n]? (kLi Q M):=ZlQ
def Ztu (Q:W0)(M:Sto)(bs:List Bool):Prop:=Q (.bl (bs.all id)) M
def kAl (Q:W0)(M:Sto)(xs:List D):Prop:=wG (Zb4 xs) (Ztu Q M)
theorem Zr8:wO (ZsT [.ref n] M) Q E=wL M[n]? (kAl Q M):=Zrm
def Ztv (g:List Int->Option Int)(Q:W0)(M:Sto)(ns:List Int):Prop:=wG (g ns) (kQ Q .int M)
def Ztw (g:List Int->Option Int)(Q:W0)(M:Sto)(xs:List D):Prop:=wG (Zbf xs) (Ztv g Q M)
theorem Zpn {gi:List Int->Option Int}:wO (ZfX gi [.ref n] M) Q E=wL M[n]? (Ztw gi Q M):=ZoD
def kMt (g:Me)(fs:Av)(ρ:Ro)(Q:W0)(E:W2)(x:D)(M:Sto):Prop:=Zlt x M=true/\wO (fs ρ M) (kU (g x) Q E) E
theorem Zu2 {me:Me}{fo:Ev}:wO (Zgm me fo fs ρ M) Q E=wO (fo ρ M) (kMt me fs ρ Q E) E:=ZuB
noncomputable def Ztx (n:Nat)(d:D)(Q:W0)(M:Sto)(xs:List D):Prop:=xs.length < 10000000/\Q .non (M.set n (.lst (xs ++ [d])))
theorem Zr9:wO (mApp (.ref n) [d] M) Q E=wL M[n]? (Ztx n d Q M):=Zrn
noncomputable def Zty (n:Nat)(Q:W0)(M:Sto)(xs:List D):Prop:=Q .non (M.set n (.lst []))
theorem Zsa:wO (ZsW (.ref n) [] M) Q E=wL M[n]? (Zty n Q M):=Zro
noncomputable def Zpo (n:Nat)(xs:List D)(Q:W0)(M:Sto)(ys:List D):Prop:=xs.length + ys.length<=10000000/\Q .non (M.set n (.lst (xs ++ ys)))
def Ztz (n m:Nat)(Q:W0)(M:Sto)(xs:List D):Prop:=wL M[m]? (Zpo n xs Q M)
theorem Zsb:wO (mExt (.ref n) [.ref m] M) Q E=wL M[n]? (Ztz n m Q M):=Zrp
def Zl3 (Q:W0)(M:Sto)(bs:List Bool):Prop:=wG (bs.findIdx? id) (kQ Q (fun (j:Nat)=> .int j) M)
def ZtA (d:D)(Q:W0)(M:Sto)(xs:List D):Prop:=wG (eqs M d xs) (Zl3 Q M)
theorem Zsc:wO (mIdx (.ref n) [d] M) Q E=wL M[n]? (ZtA d Q M):=by
 show wO (match M[n]? with | some (.lst xs)=>(match eqs M d xs with | some bs=>(match bs.findIdx? id with | some j=>Out.ok (.int (j:Nat)) M | none=> .bad) | none=> .bad) | none=> .bad) Q E=_
 cases e1:M[n]? with
 |none=>rfl
 |some o=>
  cases o with
  |lst xs=>
   show wO (match eqs M d xs with | some bs=>(match bs.findIdx? id with | some j=>Out.ok (.int (j:Nat)) M | none=> .bad) | none=> .bad) Q E=wG (eqs M d xs) (Zl3 Q M)
   cases eqs M d xs with
   |none=>rfl
   |some bs=>
    show wO (match bs.findIdx? id with | some j=>Out.ok (.int (j:Nat)) M | none=> .bad) Q E=wG (bs.findIdx? id) _
    cases bs.findIdx? id<;>rfl
noncomputable def kCn (Q:W0)(M:Sto)(bs:List Bool):Prop:=Q (.int (bs.countP id:Nat)) M
def ZtB (d:D)(Q:W0)(M:Sto)(xs:List D):Prop:=wG (eqs M d xs) (kCn Q M)
theorem Zpp:wO (Zug (.ref n) [d] M) Q E=wL M[n]? (ZtB d Q M):=by
 show wO (match M[n]? with | some (.lst xs)=>(match eqs M d xs with | some bs=>Out.ok (.int (bs.countP id:Nat)) M | none=> .bad) | none=> .bad) Q E=_
 cases e1:M[n]? with
 |none=>rfl
 |some o=>
  cases o with
  |lst xs=>
   show wO (match eqs M d xs with | some bs=>Out.ok (.int (bs.countP id:Nat)) M | none=> .bad) Q E=wG (eqs M d xs) (kCn Q M)
   cases eqs M d xs<;>rfl
def ZtC (l u:Option Int)(Q:W0)(M:Sto)(xs:List D):Prop:=Q (.ref M.length) (M ++ [.lst (ZeF xs l u)])
def ZtD (x:D)(l:Option Int)(Q:W0)(E:W2)(u:Option Int)(M:Sto):Prop:=wO (slR x l u M) Q E
def ZtE (x:D)(hi:Ro->Sto->Out (Option Int))(ρ:Ro)(Q:W0)(E:W2)(l:Option Int)(M:Sto):Prop:=wO (hi ρ M) (ZtD x l Q E) E
def ZtF (lo hi:Ro->Sto->Out (Option Int))(ρ:Ro)(Q:W0)(E:W2)(x:D)(M:Sto):Prop:=wO (lo ρ M) (ZtE x hi ρ Q E) E
theorem Zu3 {lo hi:Ro->Sto->Out (Option Int)}:wO (eSl f lo hi ρ M) Q E=wO (f ρ M) (ZtF lo hi ρ Q E) E:=Zrq
theorem Zsd {l u':Option Int}:wO (slR (.ref n) l u' M) Q E=wL M[n]? (ZtC l u' Q M):=Zrr
theorem Zse {QI:Option Int->Sto->Prop}:wO (oNo ρ M) QI E=QI none M:=rfl
def ZtG (Q:Option Int->Sto->Prop)(x:D)(M:Sto):Prop:=wI x (kQ Q some M)
theorem Zsf {QI:Option Int->Sto->Prop}:wO (oSo f ρ M) QI E=wO (f ρ M) (ZtG QI) E:=Zrs
noncomputable def oRv (x:D)(M1:Sto):Out D:=match x with | .tup xs=> .ok (.tup xs.reverse) M1 | .ref n=>(match M1[n]? with | some (.lst xs)=> .ok (.ref M1.length) (M1 ++ [.lst xs.reverse]) | none=> .bad) | .rol xs=> .ok (.ref M1.length) (M1 ++ [.lst xs.reverse]) | _=> .bad
theorem Zu4:wO (eRv f ρ M) Q E=wO (f ρ M) (kU oRv Q E) E:=by unfold eRv;exact ZB
noncomputable def Zsg (Q:W0)(M:Sto)(xs:List D):Prop:=Q (.ref M.length) (M ++ [.lst xs.reverse])
theorem Zsh:wO (oRv (.ref n) M) Q E=wL M[n]? (Zsg Q M):=by show wO (match M[n]? with | some (.lst xs)=>Out.ok (.ref M.length) (M ++ [.lst xs.reverse]) | none=> .bad) Q E=_;cases M[n]? with | none=>rfl | some o=>cases o with | lst xs=>rfl
theorem Zsi:wO (oRv (.tup xs) M) Q E=Q (.tup xs.reverse) M:=rfl
def ZtH (tab:List (Str × Bool))(x:D)(M:Sto):Out D:=match x with | .err c _=>(match tab.lookup c with | some b=> .ok (.bl b) M | none=> .bad) | _=> .bad
theorem Zsj {tab:List (Str × Bool)}:wO (ZsU tab f ρ M) Q E=wO (f ρ M) (kU (ZtH tab) Q E) E:=by unfold ZsU;exact ZB
theorem Zpq {tab:List (Str × Bool)}{c:Str}:wO (ZtH tab (.err c xs) M) Q E=wG (tab.lookup c) (kEq Q M):=by show wO (match tab.lookup c with | some b=>Out.ok (.bl b) M | none=> .bad) Q E=_;cases tab.lookup c<;>rfl
def kWh (bd:Sv)(ρ:Ro)(I:W1)(N:W1)(R:W0)(B C:W1)(E:W2)(k:Bool)(M:Sto):Prop:=Br k (wS (bd ρ M) I R N I E) (N ρ M)
theorem Zl4 {c:Tv}(I:Nat->Ro->Sto->Prop)(st: ∀ n ρ M,I n ρ M->wO (c ρ M) (kWh bd ρ (fun ρ2 M2=> ∃ m,m < n/\I m ρ2 M2) N R B C E) E)(n:Nat)(ρ:Ro)(M:Sto)(h:I n ρ M):wS (sWh c bd ρ M) N R B C E:=Zjs I st n ρ M h
theorem Zpr {I:W1}{p:Prop}[Decidable p](h1: ¬ p->wS (bd ρ M) I R N I E)(h2:p->N ρ M):kWh bd ρ I N R B C E (!decide p) M:=brN h1 h2
theorem Zsk {I:W1}{p:Prop}[Decidable p](h1:p->wS (bd ρ M) I R N I E)(h2: ¬ p->N ρ M):kWh bd ρ I N R B C E (decide p) M:=brD h1 h2
theorem Zqi {src:Src}{fr:List Nat}(Inv:Ro->Prop)(F:Nat->D)(hl:xs.length < 10000000)(hcnt:xs.length<=cnt src M)(h0:Inv (roB k fr ρ))(hs: ∀ (L:Sto) (i:Nat),i<=xs.length->nxt src i (M ++ L)=some xs[i]?)
  (st: ∀ (i:Nat) (h:i < xs.length) (ρ:Ro) (L:Sto),Inv ρ->wG (tg xs[i] ρ) fun r=>Inv r/\wO (f r (M ++ L)) (fun y M2=>y=F i/\M2=M ++ L) (fun _ _=>False)) (hq:Q (.ref M.length) (M ++ [.lst ((List.range xs.length).map F)])):
  kCo tg (fun _ M=> .ok true M) f k fr ρ Q src M:=ZlZ (Q:=fun M2=>Q (.ref M.length) M2) Inv F hl hcnt h0 hs st hq
theorem Zu5 {fr:List Nat}(Inv:Ro->Prop)(F:Nat->D)(hl:n < 10000000)(h0:Inv (roB k fr ρ))
  (st: ∀ (i:Nat) (h:i < n) (ρ:Ro) (L:Sto),Inv ρ->wG (tg (.int i) ρ) fun r=>Inv r/\wO (f r (M ++ L)) (fun y M2=>y=F i/\M2=M ++ L) (fun _ _=>False)) (hq:Q (.ref M.length) (M ++ [.lst ((List.range n).map F)])):
  kCo tg (fun _ M=> .ok true M) f k fr ρ Q (.pur (Za0 0 n)) M:=by
 refine Zqi (xs:=Za0 0 n) Inv F (by rw[ZeO];exact hl) (by simp[cnt]) h0 (fun L i hi=>rfl) (fun i hi ρ L hI=> ?_) (by rw[ZeO];exact hq)
 rw[Zl0]
 have:=st i (by rw[ZeO] at hi;exact hi) ρ L hI
 rw[show (0:Int) + (i:Nat)=i by lia]
 exact this
theorem ZmK {fr:List Nat}(Inv:Ro->Prop)(F:Nat->D)(hM:M[n]?=some (.lst xs))(hl:xs.length < 10000000)(h0:Inv (roB k fr ρ))
  (st: ∀ (i:Nat) (h:i < xs.length) (ρ:Ro) (L:Sto),Inv ρ->wG (tg xs[i] ρ) fun r=>Inv r/\wO (f r (M ++ L)) (fun y M2=>y=F i/\M2=M ++ L) (fun _ _=>False)) (hq:Q (.ref M.length) (M ++ [.lst ((List.range xs.length).map F)])):
  kCo tg (fun _ M=> .ok true M) f k fr ρ Q (.sto n) M:=
 Zqi (xs:=xs) Inv F hl (by rw[ZeN hM];exact Nat.le_refl _) h0 (fun L i hi=>by rw[Zee];rw[List.getElem?_append_left (Zu hM)];exact hM) st hq
end
end DL
end
namespace DL
open L2
section
variable {Q:W0}{E:W2}{M:Sto}{n:Nat}
theorem Zsl:wO (bLR [.ref n] M) Q E=wL M[n]? (Zsg Q M):=by
 show wO (match M[n]? with | some (.lst xs)=>Out.ok (.ref M.length) (M ++ [.lst xs.reverse]) | none=> .bad) Q E=_
 cases M[n]? with
 |none=>rfl
 |some o=>cases o with | lst xs=>rfl
end
end DL
section
end
section
end
section
end
section
namespace DL
open L2
section
variable {Q:W0}{E:W2}{N B C:W1}{R:W0}{ρ:Ro}{M:Sto}{f:Ev}{fs:Av}{i j:Int}{k m n:Nat}
def Zvg (ds:List D)(M1:Sto):Out D:=match ds with
 | [.int j]=>if -(2 ^ 62)<=j/\j<=10000000 then .ok (.ref M1.length) (M1 ++ [.lst (Za0 0 j.toNat)]) else .bad
 |_=> .bad
def oLZ (ds:List D)(M1:Sto):Out D:=match ds with
 | [.ref n,.ref m]=>(match M1[n]?,M1[m]? with | some (.lst xs),some (.lst ys)=> .ok (.ref M1.length) (M1 ++ [.lst (Zjo xs ys)]) | _,_=> .bad)
 |_=> .bad
theorem Zu6:wO (eLZ fs ρ M) Q E=wO (fs ρ M) (kU oLZ Q E) E:=by unfold eLZ;exact ZB
def Zsm (Q:W0)(M:Sto)(xs ys:List D):Prop:=Q (.ref M.length) (M ++ [.lst (Zjo xs ys)])
def kLZ (m:Nat)(Q:W0)(M:Sto)(xs:List D):Prop:=wL M[m]? (Zsm Q M xs)
theorem Zu7:wO (oLZ [.ref n,.ref m] M) Q E=wL M[n]? (kLZ m Q M):=by
 show wO (match M[n]?,M[m]? with | some (.lst xs),some (.lst ys)=>Out.ok (.ref M.length) (M ++ [.lst (Zjo xs ys)]) | _,_=> .bad) Q E=wL M[n]? fun xs=>wL M[m]? (Zsm Q M xs)
 cases M[n]? with
 |none=>rfl
 |some o=>
  cases o with
  |lst xs=>
   cases M[m]? with
   |none=>rfl
   |some o2=>cases o2 with | lst ys=>rfl
end
section
variable {src:Src}{tg:Tg}{c:Tv}{g:Ro->Sto->Out Ro}{P:Nat->Ro->Sto->Prop}
end
end DL
end
section
namespace DL
noncomputable abbrev Pt:=Int × Int
noncomputable def X (p q:Pt):Int:=p.1 * q.2 - p.2 * q.1
section
variable {rs:List Pt}{i j:Int}{k n:Nat}{p:Pt}
theorem ZaT {α:Type}{l:List α}{n:Nat}{d:α}(h:n < l.length):l.getD n d=l[n]:=by simp[List.getElem?_eq_getElem h]
theorem ZaI (h:0<=i/\i < rs.length):cy rs i=rs.getD i.toNat (0,0):=by
 unfold cy;rw[Int.emod_eq_of_lt h.1 h.2]
theorem Z0 {m:Nat}(h:m≠0):(i % m).toNat < m/\0<=i % m:=by
 have:=Int.emod_lt_of_pos i (show (0:Int) < m by lia)
 have:=Int.emod_nonneg i (show (m:Int)≠0 by lia)
 lia
theorem ZcC (h:rs≠[]):cy rs i∈rs:=by
 have hl:rs.length≠0:=by simpa using h
 unfold cy;rw[ZaT (Z0 hl).1];exact List.getElem_mem _
theorem ZcD {f:Pt->Pt}(h:rs≠[]):cy (rs.map f) i=f (cy rs i):=by
 have hl:rs.length≠0:=by simpa using h
 unfold cy;rw[List.length_map,ZaT (by rw[List.length_map];exact (Z0 hl).1),ZaT (Z0 hl).1,List.getElem_map]
theorem Zaj (hk:k<=rs.length):cy (rs.drop k ++ rs.take k) i=cy rs (i + k):=by
 by_cases h:rs.length=0
 ·have:rs=[]:=by simpa using h
  subst this
  simp[cy]
 have hL:(rs.drop k ++ rs.take k).length=rs.length:=by simp;lia
 have e1:cy (rs.drop k ++ rs.take k) i=cy (rs.drop k ++ rs.take k) (i % rs.length):=by
  conv=>rhs;rw[<- hL,Z8]
 have e2:cy rs (i + k)=cy rs (i % rs.length + k):=by
  unfold cy;rw[Int.emod_add_emod]
 rw[e1,e2];obtain ⟨a,b⟩:=Z0 (i:=i) h
 generalize hm:i % (rs.length:Int)=m at *;have hm2:m < rs.length:=by lia
 rw[ZaI (by rw[hL];lia)]
 by_cases c:m + k < rs.length
 ·rw[ZaI (by lia)]
  rw[List.getD_eq_getElem?_getD,List.getD_eq_getElem?_getD,List.getElem?_append_left (by simp;lia),List.getElem?_drop]
  congr 2
  lia
 ·rw[<- ZcB,ZaI (by lia)]
  rw[List.getD_eq_getElem?_getD,List.getD_eq_getElem?_getD,List.getElem?_append_right (by simp;lia),List.getElem?_take_of_lt (by simp;lia)]
  congr 2
  simp
  lia
noncomputable def ins (rs:List Pt)(k:Nat)(p:Pt):List Pt:=rs.take (k + 1) ++ p :: rs.drop (k + 1)
theorem ZcE (hk:k < rs.length):(ins rs k p).length=rs.length + 1:=by simp[ins];lia
theorem Zkq (hk:k < rs.length)(h0:0<=j)(h1:j<=rs.length + 1):cy (ins rs k p) j=if j<=k then cy rs j else if j=k + 1 then p else cy rs (j - 1):=by
 have hL:=ZcE (p:=p) hk
 by_cases e:j=rs.length + 1
 ·subst e
  rw[if_neg (by lia),if_neg (by lia)]
  have e1:cy (ins rs k p) (rs.length + 1)=cy (ins rs k p) 0:=by
   have:=ZcB (rs:=ins rs k p) (i:=(rs.length:Int) + 1)
   rw[hL] at this;rw[<- this]
   congr 1
   lia
  have e2:cy rs ((rs.length:Int) + 1 - 1)=cy rs 0:=by
   rw[<- ZcB]
   congr 1
   lia
  rw[e1,e2,ZaI (by rw[hL];lia),ZaI (by lia)]
  unfold ins;rw[List.getD_eq_getElem?_getD,List.getD_eq_getElem?_getD,List.getElem?_append_left (by simp;lia),List.getElem?_take_of_lt (by simp)]
 ·have hj:j < rs.length + 1:=by lia
  rw[ZaI (by rw[hL];lia)]
  unfold ins;rw[List.getD_eq_getElem?_getD]
  by_cases c1:j<=k
  ·rw[if_pos c1,ZaI (by lia),List.getD_eq_getElem?_getD,List.getElem?_append_left (by simp;lia),List.getElem?_take_of_lt (by lia)]
  ·rw[if_neg c1,List.getElem?_append_right (by simp;lia)]
   have hl:(rs.take (k + 1)).length=k + 1:=by simp;lia
   rw[hl]
   by_cases c2:j=k + 1
   ·rw[if_pos c2]
    have:j.toNat - (k + 1)=0:=by lia
    rw[this];rfl
   ·rw[if_neg c2,ZaI (by lia),List.getD_eq_getElem?_getD]
    obtain ⟨z,hz⟩: ∃ z,j.toNat - (k + 1)=z + 1:=⟨j.toNat - (k + 1) - 1,by lia⟩
    rw[hz,List.getElem?_cons_succ,List.getElem?_drop]
    congr 2
    lia
theorem ZcF {P:Pt->Pt->Prop}(hn:rs.length≠0)(h: ∀ i:Int,0<=i->i < rs.length->P (cy rs i) (cy rs (i + 1)))(i:Int):P (cy rs i) (cy rs (i + 1)):=by
 have e1:cy rs i=cy rs (i % rs.length):=Z8.symm
 have e2:cy rs (i + 1)=cy rs (i % rs.length + 1):=by
  unfold cy;rw[Int.emod_add_emod]
 rw[e1,e2];obtain ⟨a,b⟩:=Z0 (i:=i) hn
 exact h _ b (by lia)
noncomputable def cc (f:Pt->Pt->Nat):List Pt->Nat
 |a :: b :: r=>f a b + cc f (b :: r)
 |_=>0
def cyc (f:Pt->Pt->Nat)(rs:List Pt):Nat:=cc f (rs ++ rs.take 1)
theorem Zbk {f:Pt->Pt->Nat}: ∀ (L:List Pt) (a:Pt) (R:List Pt),cc f (L ++ a :: R)=cc f (L ++ [a]) + cc f (a :: R)
 | [],a,R=>by simp[cc]
 | [b],a,R=>by simp[cc]
 |b :: c :: L,a,R=>by
  have:=Zbk (f:=f) (c :: L) a R
  simp only[List.cons_append,cc] at this ⊢;lia
theorem Zkr {f:Pt->Pt->Nat}{g:Pt->Pt}: ∀ (L:List Pt),cc f (L.map g)=cc (fun a b=>f (g a) (g b)) L
 | []=>rfl
 | [_]=>rfl
 |a :: b :: L=>by
  have:=Zkr (f:=f) (g:=g) (b :: L)
  simp only[List.map_cons,cc] at this ⊢;lia
theorem Zks {f:Pt->Pt->Nat}: ∀ (L:List Pt),cc f L.reverse=cc (fun a b=>f b a) L
 | []=>rfl
 | [_]=>rfl
 |a :: b :: L=>by
  have:=Zks (f:=f) (b :: L)
  rw[List.reverse_cons,List.reverse_cons,List.append_assoc,List.singleton_append,Zbk];rw[List.reverse_cons] at this;simp only[cc] at this ⊢;lia
theorem Zam {f:Pt->Pt->Nat}{a:Pt}{r:List Pt}:cyc f (a :: r)=cc f (a :: (r ++ [a])):=by simp[cyc]
theorem Za4 {f:Pt->Pt->Nat}(A B:List Pt):cyc f (A ++ B)=cyc f (B ++ A):=by
 cases A with
 |nil=>simp
 |cons a A=>
  cases B with
  |nil=>simp
  |cons b B=>
   rw[List.cons_append,Zam,List.cons_append,Zam];have e1:a :: (A ++ b :: B ++ [a])=(a :: A) ++ b :: (B ++ [a]):=by simp
   have e2:b :: (B ++ a :: A ++ [b])=(b :: B) ++ a :: (A ++ [b]):=by simp
   rw[e1,e2,Zbk (a :: A) b,Zbk (b :: B) a];simp only[List.cons_append];lia
theorem Za5 {f:Pt->Pt->Nat}{g:Pt->Pt}(L:List Pt):cyc f (L.map g)=cyc (fun a b=>f (g a) (g b)) L:=by
 unfold cyc;rw[<- List.map_take,<- List.map_append,Zkr]
theorem ZeR {f:Pt->Pt->Nat}(L:List Pt):cyc f L.reverse=cyc (fun a b=>f b a) L:=by
 cases L with
 |nil=>rfl
 |cons a L=>
  rw[List.reverse_cons,Za4,List.singleton_append,Zam,Zam,<- Zks]
  congr 1
  simp
def in1 (w a b:Pt):Nat:=if 0<=X a w/\0 < X w b then 1 else 0
def in2 (w a b:Pt):Nat:=if 0 < X a w/\0<=X w b then 1 else 0
def Fan (rs:List Pt):Prop:= ∀ w:Pt,w≠(0,0)->cyc (in1 w) rs=1/\cyc (in2 w) rs=1
theorem Zps {a b w:Pt}:X w (a.1 + b.1,a.2 + b.2)=X w a + X w b/\X (a.1 + b.1,a.2 + b.2) w=X a w + X b w:=by unfold X;constructor<;>grind
theorem ZcG {p q:Pt}:X p q=0 - X q p:=by unfold X;grind
theorem Zl5 {a b w:Pt}:in1 w a b=in1 w a (a.1 + b.1,a.2 + b.2) + in1 w (a.1 + b.1,a.2 + b.2) b:=by
 have s:=Zps (a:=a) (b:=b) (w:=w)
 have e1:=ZcG (p:=w) (q:=a)
 have e2:=ZcG (p:=b) (q:=w)
 unfold in1;rw[s.1,s.2,e1,e2];generalize X a w=p;generalize X w b=q
 repeat' split
 all_goals lia
theorem Zl6 {a b w:Pt}:in2 w a b=in2 w a (a.1 + b.1,a.2 + b.2) + in2 w (a.1 + b.1,a.2 + b.2) b:=by
 have s:=Zps (a:=a) (b:=b) (w:=w)
 have e1:=ZcG (p:=w) (q:=a)
 have e2:=ZcG (p:=b) (q:=w)
 unfold in2;rw[s.1,s.2,e1,e2];generalize X a w=p;generalize X w b=q
 repeat' split
 all_goals lia
theorem Zh1 {L R:List Pt}{a:Pt}:cy (L ++ a :: R) L.length=a:=by
 rw[ZaI (by simp;lia)]
 simp
theorem Zl7 {L R:List Pt}{a b:Pt}:cy (L ++ a :: b :: R) (L.length + 1)=b:=by
 rw[ZaI (by simp;lia)]
 rw[show ((L.length:Int) + 1).toNat=L.length + 1 by lia]
 simp
theorem ZeS {r:List Pt}{a:Pt}:cy (a :: r) (r.length + 1)=a:=by
 have:=ZcB (rs:=a :: r) (i:=(r.length:Int) + 1)
 rw[<- this,List.length_cons,show (r.length:Int) + 1 - ((r.length + 1:Nat):Int)=0 by lia,ZaI (by simp)]
 rfl
theorem ZcH {f:Pt->Pt->Nat}(hk:k < rs.length)(hf:f (cy rs k) (cy rs (k + 1))=f (cy rs k) p + f p (cy rs (k + 1))):cyc f (ins rs k p)=cyc f rs:=by
 obtain ⟨L,a,R,e,hl⟩: ∃ L a R,rs=L ++ a :: R/\L.length=k:=⟨rs.take k,rs[k],rs.drop (k + 1),by rw[List.getElem_cons_drop,List.take_append_drop],by simp;lia⟩
 have ei:ins rs k p=L ++ a :: p :: R:=by
  unfold ins;rw[e,<- hl,List.take_append,List.drop_append,List.take_of_length_le (by lia),List.drop_eq_nil_of_le (by lia)]
  simp
 have ca:cy rs k=a:=by rw[e,<- hl];exact Zh1
 cases R with
 |cons b R=>
  have cb:cy rs (k + 1)=b:=by rw[e,<- hl];exact Zl7
  rw[ca,cb] at hf;rw[ei,e,Za4,Za4 L];simp only[List.cons_append,Zam,cc];lia
 |nil=>
  cases L with
  |nil=>
   have cb:cy rs (k + 1)=a:=by
    rw[e,<- hl];exact ZeS (r:=[]) (a:=a)
   rw[ca,cb] at hf;rw[ei,e]
   simp[cyc,cc]
   lia
  |cons b L=>
   have cb:cy rs (k + 1)=b:=by
    rw[e,<- hl]
    have:=ZeS (r:=L ++ [a]) (a:=b)
    simp only[List.length_append,List.length_cons,List.length_nil] at this ⊢;exact this
   rw[ca,cb] at hf;rw[ei,e];simp only[List.cons_append,Zam];have e1:b :: (L ++ [a,p] ++ [b])=(b :: L) ++ a :: [p,b]:=by simp
   have e2:b :: (L ++ [a] ++ [b])=(b :: L) ++ a :: [b]:=by simp
   rw[e1,e2,Zbk,Zbk (b :: L) a [b]];simp only[cc];lia
theorem Fan.rot (h:Fan rs):Fan (rs.drop k ++ rs.take k):=fun w hw=>by
 rw[Za4,Za4 (rs.drop k),List.take_append_drop];exact h w hw
theorem Fan.ins (h:Fan rs)(hk:k < rs.length):Fan (ins rs k ((cy rs k).1 + (cy rs (k + 1)).1,(cy rs k).2 + (cy rs (k + 1)).2)):=fun w hw=>by
 rw[ZcH hk Zl5,ZcH hk Zl6];exact h w hw
theorem Zkt {f:Pt->Pt}{s:Int}(hs:s=1\/s= -1)(hf: ∀ p q,X (f p) (f q)=s * X p q)(w:Pt)(hw:w≠(0,0)): ∃ w':Pt,w'≠(0,0)/\ ∀ a,X (f a) w=s * X a w':=by
 have d:=hf (1,0) (0,1)
 have d1:X (f (1,0)) (f (0,1))=s:=by rw[d];simp[X]
 have lin: ∀ a,(f a).1=a.1 * (f (1,0)).1 + a.2 * (f (0,1)).1/\(f a).2=a.1 * (f (1,0)).2 + a.2 * (f (0,1)).2:=by
  intro a;have h1:=hf a (1,0)
  have h2:=hf a (0,1)
  generalize f a=u at *;generalize f (1,0)=e1 at *;generalize f (0,1)=e2 at *;unfold X at *
  rcases hs with rfl | rfl<;>constructor<;>grind
 refine ⟨(X w (f (0,1)) * s,X (f (1,0)) w * s),?_,?_⟩
 ·intro z
  apply hw
  have z1:=congrArg Prod.fst z
  have z2:=congrArg Prod.snd z
  simp only at z1 z2
  generalize f (1,0)=e1 at *;generalize f (0,1)=e2 at *;unfold X at *
  apply Prod.ext
  ·rcases hs with rfl | rfl<;>simp only[]<;>grind
  ·rcases hs with rfl | rfl<;>simp only[]<;>grind
 ·intro a
  obtain ⟨l1,l2⟩:=lin a
  unfold X;rw[l1,l2]
  rcases hs with rfl | rfl<;>simp only[]<;>grind
theorem Fan.map (h:Fan rs){f:Pt->Pt}(hf: ∀ p q,X (f p) (f q)=X p q):Fan (rs.map f):=fun w hw=>by
 obtain ⟨w',hw',e⟩:=Zkt (s:=1) (.inl rfl) (fun p q=>by rw[hf,Int.one_mul]) w hw
 have e2: ∀ a,X w (f a)=X w' a:=fun a=>by rw[ZcG,e,ZcG (p:=w')];lia
 have c1: ∀ a b,in1 w (f a) (f b)=in1 w' a b:=fun a b=>by unfold in1;rw[e,e2,Int.one_mul]
 have c2: ∀ a b,in2 w (f a) (f b)=in2 w' a b:=fun a b=>by unfold in2;rw[e,e2,Int.one_mul]
 rw[Za5,Za5,show (fun a b=>in1 w (f a) (f b))=in1 w' from funext fun a=>funext fun b=>c1 a b,show (fun a b=>in2 w (f a) (f b))=in2 w' from funext fun a=>funext fun b=>c2 a b]
 exact h w' hw'
theorem Fan.flip (h:Fan rs){f:Pt->Pt}(hf: ∀ p q,X (f p) (f q)= -1 * X p q):Fan (rs.map f).reverse:=fun w hw=>by
 obtain ⟨w',hw',e⟩:=Zkt (s:= -1) (.inr rfl) hf w hw
 have e2: ∀ a,X w (f a)= -1 * X w' a:=fun a=>by rw[ZcG,e,ZcG (p:=w')];lia
 have c1: ∀ a b,in1 w (f b) (f a)=in2 w' a b:=fun a b=>by
  unfold in1 in2;rw[e,e2,ZcG (p:=b)]
  have:=ZcG (p:=a) (q:=w')
  simp only[show (0<= -1 * (0 - X w' b)/\0 < -1 * X w' a)=(0 < X a w'/\0<=X w' b) from propext ⟨fun _=>by lia,fun _=>by lia⟩]
 have c2: ∀ a b,in2 w (f b) (f a)=in1 w' a b:=fun a b=>by
  unfold in1 in2;rw[e,e2,ZcG (p:=b)]
  have:=ZcG (p:=a) (q:=w')
  simp only[show (0 < -1 * (0 - X w' b)/\0<= -1 * X w' a)=(0<=X a w'/\0 < X w' b) from propext ⟨fun _=>by lia,fun _=>by lia⟩]
 rw[ZeR,ZeR,Za5,Za5,show (fun a b=>in1 w (f b) (f a))=in2 w' from funext fun a=>funext fun b=>c1 a b,show (fun a b=>in2 w (f b) (f a))=in1 w' from funext fun a=>funext fun b=>c2 a b]
 exact ⟨(h w' hw').2,(h w' hw').1⟩
structure Smo (rs:List Pt):Prop where
 len:3<=rs.length
 one: ∀ i:Int,X (cy rs i) (cy rs (i + 1))=1
 fan:Fan rs
noncomputable def Nr (b:Int)(rs:List Pt):Prop:= ∀ p∈rs,(-b<=p.1/\p.1<=b)/\ -b<=p.2/\p.2<=b
theorem Smo.ne (h:Smo rs):rs≠[]:=by
 intro z
 have:=h.len
 rw[z] at this
 simp at this
theorem Nr.cy {b:Int}(h:Nr b rs)(hn:rs≠[])(i:Int):(-b<=(cy rs i).1/\(cy rs i).1<=b)/\ -b<=(cy rs i).2/\(cy rs i).2<=b:=h _ (ZcC hn)
theorem Smo.ins (h:Smo rs)(hk:k < rs.length):Smo (ins rs k ((cy rs k).1 + (cy rs (k + 1)).1,(cy rs k).2 + (cy rs (k + 1)).2)):=by
 have hL:=ZcE (p:=((cy rs k).1 + (cy rs (k + 1)).1,(cy rs k).2 + (cy rs (k + 1)).2)) hk
 refine ⟨by rw[hL];have:=h.len;lia,?_,h.fan.ins hk⟩
 refine ZcF (P:=fun a b=>X a b=1) (by lia) ?_
 intro i h0 h1;rw[hL] at h1;rw[Zkq hk h0 (by lia),Zkq hk (by lia) (by lia)]
 have ok:=h.one k
 by_cases c1:i + 1<=k
 ·rw[if_pos (by lia),if_pos c1];exact h.one i
 ·rw[if_neg c1]
  by_cases c2:i=k
  ·subst c2
   rw[if_pos (by lia),if_pos rfl]
   unfold X at *
   grind
  ·rw[if_neg (by lia: ¬ i<=(k:Int)),if_neg (by lia: ¬ i + 1=(k:Int) + 1)]
   by_cases c3:i=k + 1
   ·subst c3
    rw[if_pos rfl]
    have:(k:Int) + 1 + 1 - 1=k + 1:=by lia
    rw[this];unfold X at *
    grind
   ·rw[if_neg c3]
    have:=h.one (i - 1)
    have e:i - 1 + 1=i + 1 - 1:=by lia
    rw[e] at this;exact this
theorem Smo.rot (h:Smo rs)(hk:k<=rs.length):Smo (rs.drop k ++ rs.take k):=by
 refine ⟨by have:=h.len;simp;lia,fun i=> ?_,h.fan.rot⟩
 rw[Zaj hk,Zaj hk]
 have:=h.one (i + k)
 have e:i + (k:Int) + 1=i + 1 + k:=by lia
 rw[e] at this;exact this
theorem Smo.map (h:Smo rs){f:Pt->Pt}(hf: ∀ p q,X (f p) (f q)=X p q):Smo (rs.map f):=by
 refine ⟨by have:=h.len;simp;lia,fun i=> ?_,h.fan.map hf⟩
 rw[ZcD h.ne,ZcD h.ne,hf];exact h.one i
theorem Nr.ins {b:Int}(h:Nr b rs)(hp:(-b<=p.1/\p.1<=b)/\ -b<=p.2/\p.2<=b):Nr b (ins rs k p):=by
 intro q hq
 rcases List.mem_append.mp hq with hq | hq
 ·exact h q (List.mem_of_mem_take hq)
 ·rcases List.mem_cons.mp hq with hq | hq
  ·subst hq;exact hp
  ·exact h q (List.mem_of_mem_drop hq)
theorem Nr.rot {b:Int}(h:Nr b rs):Nr b (rs.drop k ++ rs.take k):=by
 intro q hq
 rcases List.mem_append.mp hq with hq | hq
 ·exact h q (List.mem_of_mem_drop hq)
 ·exact h q (List.mem_of_mem_take hq)
end
end DL
end
section
namespace CC
open L2 DL
def ZU:Sv:=(Z5 (e2 dSub (e2 dMul (e2 dIx (Zg 0) (eC (.int 0))) (e2 dIx (Zg 1) (eC (.int 1)))) (e2 dMul (e2 dIx (Zg 0) (eC (.int 1))) (e2 dIx (Zg 1) (eC (.int 0))))))
def F_crossed:W3:=fnF ZU 2 0
def Zar:Sv:=(Z5 (e2 dIx (Zg 0) (e2 dMod (e2 dAdd (Zg 1) (eC (.int 1))) (Zk bLen (Zc (Zg 0) aNil)))))
def F_following:W3:=fnF Zar 2 0
def Z2:Sv:=(sIf (tv (e2 dNe (Zk F_crossed (Zc (Zg 2) (Zc (Zk F_following (Zc (Zg 0) (Zc (Zg 1) aNil))) aNil))) (eC (.int 1)))) (Z5 (Zg 1)) sNil)
def Zas:Sv:=(ZE (Zdn (gTp (gCs (gNm 1) (gCs (gNm 2) gNl))) (iEn (Zc (Zg 0) aNil)) Z2)
 (Z5 (eC .non)))
def F_unspanned:W3:=fnF Zas 1 2
def Zag:Sv:=(ZE (ZJ (gNm 1) (Zk F_unspanned (Zc (Zg 0) aNil)))
 (sIf (tv (e2 dIsNot (Zg 1) (eC .non))) (Zb5 (PySem.Str.ofString "NotSmooth") (Zc (eFs (ZeI (eC (.str (PySem.Str.ofString "ray "))) (ZeI (eFm (Zg 1)) (ZeI (eC (.str (PySem.Str.ofString " does not cross the next one in 1"))) jNil)))) aNil)) sNil))
def F_ask_smooth:W3:=fnF Zag 1 1
end CC
end
open L2 DL
set_option hygiene false
set_option compiler.extract_closed false
local macro_rules | `(tactic| simp! [$ls,*]) => `(tactic| simp (implicitDefEqProofs := false) (disch := lia) only [ZuI, y_c, y_v, Zo3, ZrC, Zo4, ZrD, ZrE, ZrF, Zo5, ZrH, Zo6, ZuJ, ZuK, ZuM, ZrI, ZuN, ZrJ, Zo7, ZrK, Zo8, ZuO, ZrL, ZuP, Zo9, ZrM, Zpa, ZrN, Zpb, ZrO, ZrP, ZrQ, Zpc, Zpd, ZuQ, ZuR, ZrS, ZrT, Zpe, ZrU, ZrV, Zl1, Zpf, Zpg, ZrW, Zph, Zpi, Zpj, ZrX, Zf6, Zf7, Zef, Zeg, Zeh, Zei, Zf8, Zf9, ZjC, ZjD, Zga, Zgb, Zgc, Zgd, ZhT, ZhU, ZeP, ZeQ, ZhV, ZhW, ZhX, ZhY, ZjE, ZjF, ZhZ, Zh0, Zge, Zgf, Zgg, Zgh, Zpk, ZuT, ZuU, ZuV, ZrY, ZrZ, Zr0, ZuW, ZuX, ZuY, Zr1, Zr2, ZuZ, Zu0, Zu1, Zr3, Zr4, ZjG, Zr5, Zr6, Zr7, Zpm, Zl2, Zr8, Zpn, Zu2, Zr9, Zsa, Zsb, Zsc, Zpp, Zu3, Zsd, Zse, Zsf, Zu4, Zsh, Zsi, Zsj, Zpq, kU, kQ, kB2, kB1, kA2, kA1, kTu, kLs, kTy, kIf, kTA, kTO, kTN, kSq, kDr, kSi, kAs, kAt, Zs5, kPa, Zs6, Zs7, Zs8, Zs9, Zta, Ztb, kPu, kRa, Ztc, Ztd, kR1, Zte, Ztf, Ztg, kR2, kFo, kFs, kTr, Zth, Zti, kS1, Ztj, Ztk, Ztl, kS2, Ztm, kEn, Ztn, Zto, kZp, Ztp, Ztq, Ztr, kRv, Zpl, Zts, Zqh, kEq, kNe, kIx, Ztt, kLi, Ztu, kAl, Ztv, Ztw, kMt, Ztx, Zty, Zpo, Ztz, Zl3, ZtA, kCn, ZtB, ZtC, ZtD, ZtE, ZtF, ZtG, Zsg, Zju, Zjv, ZlS, Zjy, Zjz, Zjw, Zjx, ZlT, ZjB, ZjA, ZlV, ZlU, ZoN, decide_eq_true, decide_eq_false, wF1, wF2, wF3, wF4, Zn, Zol, Zun, Zuo, Zup, Zuq, Zur, Zus, Zul, Zum, Zq8, Zq9, Zra, Zow, Zrb, Zrc, Zrd, Zuu, Zuv, Zuw, Zux, Zox, Zoz, ZoA, Zrj, Zrk, Zrl, ZoB, ZoC, ZlR, ZoE, ZoF, Zjt, Zry, Zrz, ZrA, ZrB, id, roB, kpR, cond_true, cond_false, at0, at1, at2, at3, gTp, gCs, gNl, gNm, List.set_cons_zero, List.set_cons_succ, List.getElem?_cons_zero, List.getElem?_cons_succ, List.length_cons, List.length_nil, List.length_append, List.length_map, List.map_cons, List.map_nil, List.cons_append, List.nil_append, List.append_assoc, List.append_nil, List.replicate_succ, List.replicate_zero, Option.join_some, Option.isSome_some, ZdC, Zf5, Zac, Zkp, Zrt, ZoG, ZoH, Zw, Zbp, Zru, ZuC, Zrv, ZoK, Zrx, ZoL, ZoM, ZoO, ZoP, ZoQ, ZoR, ZoS, ZoT, ZoU, ZoV, ZoW, ZoX, ZoY, ZoZ, true_and, and_true, Bool.not_true, Bool.not_false, decide_true, decide_false, Nat.reduceAdd, Nat.reduceLeDiff, Nat.reduceLT, Nat.add_zero, Nat.zero_add, Int.reducePow, Int.reduceToNat, Int.reduceNeg, Int.reduceMod, Int.reduceDiv, Int.reduceAdd, Int.reduceSub, Int.reduceMul, Int.cast_ofNat_Int, Int.reduceEq, Int.reduceLT, Int.reduceLE, $ls,*])
set_option hygiene true
section
namespace CC
open L2 DL
section
variable {Q:W0}{E:W2}{M:Sto}{a b c d i:Int}{n:Nat}{rs:List Pt}
theorem Zah (ha: -(18446744073709551616) < a/\a < 18446744073709551616)(hb: -(18446744073709551616) < b/\b < 18446744073709551616):wO (F_crossed [pr a b,pr c d] M) Q E=Q (.int (a * d - b * c)) M:=by
 simp![F_crossed,ZU]
theorem ZaU (h:M[n]?=some (.lst (prs rs)))(hi:0<=i/\i < rs.length):wO (F_following [.ref n,.int i] M) Q E=Q (pr (cy rs (i + 1)).1 (cy rs (i + 1)).2) M:=by
 have e:=Z0 (i:=i + 1) (m:=rs.length) (by lia)
 simp![F_following,Zar,h,ZbG,Z8]
theorem Zad {rs:List Pt}{i:Nat}(h:i < (prs rs).length):(prs rs)[i]=pr (cy rs i).1 (cy rs i).2:=by
 have h':i < rs.length:=by rw[Zw] at h;exact h
 rw[Zbj h']
 simp[prs]
theorem Nr.big {b:Int}{rs:List Pt}(h:Nr b rs)(hb:b<=18446744073709551615)(hn:rs≠[])(i:Int):(-(18446744073709551616) < (cy rs i).1/\(cy rs i).1 < 18446744073709551616)/\(-(18446744073709551616) < (cy rs i).2/\(cy rs i).2 < 18446744073709551616):=by
 have:=Nr.cy h hn i
 lia
theorem ZeT (h:M[n]?=some (.lst (prs rs)))(hs:Smo rs)(hb:Nr 18446744073709551615 rs)(k:Q .non M):wO (F_unspanned [.ref n] M) Q E:=by
 simp![F_unspanned,Zas];refine ZhR (fun i ρ M'=>M'=M/\ ∃ x y,ρ=[some (.ref n),x,y]) h ⟨rfl,_,_,rfl⟩ (fun i ρ M' hI=>by rw[hI.1];exact h) ?_ ?_
 ·rintro i ρ M' hi ⟨rfl,x,y,rfl⟩
  have b1:=Nr.big hb (by decide) hs.ne i
  have o1:=hs.one i
  have hi':i < rs.length:=by rw[Zw] at hi;exact hi
  rw[Zad];simp![Z2,ZaU h,Zah];unfold X at o1;rw[o1];simp![Zn];exact ⟨_,_,rfl⟩
 ·rintro ρ M' ⟨rfl,x,y,rfl⟩
  simp![Zn];exact k
theorem Zej (h:M[n]?=some (.lst (prs rs)))(hs:Smo rs)(hb:Nr 18446744073709551615 rs)(k:Q .non M):wO (F_ask_smooth [.ref n] M) Q E:=by
 simp![F_ask_smooth,Zag];refine ZeT h hs hb ?_
 simp![Zn];exact k
theorem ZcI {w a b:Pt}{p q:Int}(h1:X a w=p)(h2:X w b=q):in1 w a b=if 0<=p/\0 < q then 1 else 0:=by unfold in1;rw[h1,h2]
theorem ZcJ {w a b:Pt}{p q:Int}(h1:X a w=p)(h2:X w b=q):in2 w a b=if 0 < p/\0<=q then 1 else 0:=by unfold in2;rw[h1,h2]
theorem Zu8:Fan [(1,0),(0,1),(-1,-1)]:=by
 rintro ⟨x,y⟩ hw
 have hw': ¬ (x=0/\y=0):=fun z=>hw (by rw[z.1,z.2])
 have a1:X (1,0) (x,y)=y:=by simp[X]
 have a2:X (0,1) (x,y)= -x:=by simp[X]
 have a3:X (-1,-1) (x,y)=x - y:=by simp[X];lia
 have b1:X (x,y) (0,1)=x:=by simp[X]
 have b2:X (x,y) (-1,-1)=y - x:=by simp[X];lia
 have b3:X (x,y) (1,0)= -y:=by simp[X]
 simp only[cyc,List.take_succ_cons,List.take_zero,List.cons_append,List.nil_append,cc];rw[ZcI a1 b1,ZcI a2 b2,ZcI a3 b3,ZcJ a1 b1,ZcJ a2 b2,ZcJ a3 b3];clear a1 a2 a3 b1 b2 b3 hw
 constructor
 all_goals
  repeat' split
  all_goals lia
theorem Zu9 (f:Int):Fan [(1,0),(0,1),(-1,f),(0,-1)]:=by
 rintro ⟨x,y⟩ hw
 have hw': ¬ (x=0/\y=0):=fun z=>hw (by rw[z.1,z.2])
 have h0:x=0->x * f=0:=fun z=>by rw[z,Int.zero_mul]
 have a1:X (1,0) (x,y)=y:=by simp[X]
 have a2:X (0,1) (x,y)= -x:=by simp[X]
 have a3:X (-1,f) (x,y)= -y - x * f:=by unfold X;simp only;grind
 have a4:X (0,-1) (x,y)=x:=by simp[X]
 have b1:X (x,y) (0,1)=x:=by simp[X]
 have b2:X (x,y) (-1,f)=x * f + y:=by unfold X;simp only;grind
 have b3:X (x,y) (0,-1)= -x:=by simp[X]
 have b4:X (x,y) (1,0)= -y:=by simp[X]
 simp only[cyc,List.take_succ_cons,List.take_zero,List.cons_append,List.nil_append,cc];rw[ZcI a1 b1,ZcI a2 b2,ZcI a3 b3,ZcI a4 b4,ZcJ a1 b1,ZcJ a2 b2,ZcJ a3 b3,ZcJ a4 b4];clear a1 a2 a3 a4 b1 b2 b3 b4 hw;generalize x * f=z at *
 constructor
 all_goals
  repeat' split
  all_goals lia
theorem Zsn:Smo [(1,0),(0,1),(-1,-1)]:=by
 refine ⟨by decide,ZcF (P:=fun a b=>X a b=1) (by decide) ?_,Zu8⟩
 intro i h0 h1
 have:i=0\/i=1\/i=2:=by simp at h1;lia
 rcases this with rfl | rfl | rfl<;>rfl
theorem Zva (f:Int):Smo [(1,0),(0,1),(-1,f),(0,-1)]:=by
 refine ⟨by simp,ZcF (P:=fun a b=>X a b=1) (by simp) ?_,Zu9 f⟩
 intro i h0 h1
 have:i=0\/i=1\/i=2\/i=3:=by simp at h1;lia
 rcases this with rfl | rfl | rfl | rfl<;>simp[X,cy]
end
end CC
end
section
namespace DL
def T (rs:List Pt)(i:Int):Int:=0 - X (cy rs (i - 1)) (cy rs (i + 1))
def Zbq (rs:List Pt):List Int:=(List.range rs.length).map fun (i:Nat)=>T rs i
section
variable {rs:List Pt}{k:Nat}{p:Pt}{j:Int}
end
end DL
namespace CC
open L2 DL
section
variable {Q:W0}{E:W2}{M:Sto}{a b c d i:Int}{n:Nat}{rs:List Pt}
end
end CC
end
section
namespace DL
noncomputable def del (rs:List Pt)(k:Nat):List Pt:=rs.take k ++ rs.drop (k + 1)
section
variable {rs:List Pt}{k:Nat}{p:Pt}{j:Int}
theorem Zku (p q:Pt):X p q=0 - X q p:=by unfold X;grind
theorem ZbV (hk:k < rs.length):(del rs k).length=rs.length - 1:=by simp[del];lia
theorem Zfx (hk:k < rs.length)(h0:0<=j)(h1:j < rs.length - 1):cy (del rs k) j=if j < k then cy rs j else cy rs (j + 1):=by
 have hL:=ZbV hk
 rw[ZaI (by rw[hL];lia)]
 unfold del;rw[List.getD_eq_getElem?_getD]
 by_cases c1:j < k
 ·rw[if_pos c1,ZaI (by lia),List.getD_eq_getElem?_getD,List.getElem?_append_left (by simp;lia),List.getElem?_take_of_lt (by lia)]
 ·have hl:(rs.take k).length=k:=by simp;lia
  rw[if_neg c1,ZaI (by lia),List.getD_eq_getElem?_getD,List.getElem?_append_right (by rw[hl];lia),hl,List.getElem?_drop]
  congr 2
  lia
theorem Zl8 (hk:k < rs.length)(hn:3<=rs.length):cy (del rs k) (-1)=if (k:Int)=rs.length - 1 then cy rs (-2) else cy rs (-1):=by
 have hL:=ZbV hk
 have e:=ZcA (rs:=del rs k) (i:= -1)
 rw[hL] at e;rw[<- e,Zfx hk (by lia) (by lia)]
 by_cases c:(k:Int)=rs.length - 1
 ·rw[if_pos (by lia),if_pos c,<- ZcA (rs:=rs) (i:= -2)]
  exact congrArg _ (by lia)
 ·rw[if_neg (by lia),if_neg c,<- ZcA (rs:=rs) (i:= -1)]
  exact congrArg _ (by lia)
theorem Zl9 (hk:k < rs.length)(hn:3<=rs.length)(hj:j=rs.length - 1):cy (del rs k) j=if k=0 then cy rs (rs.length + 1) else cy rs rs.length:=by
 have hL:=ZbV hk
 have e:=ZcB (rs:=del rs k) (i:=j)
 rw[hL] at e;rw[<- e,show j - ((rs.length - 1:Nat):Int)=0 by lia,Zfx hk (by lia) (by lia)]
 by_cases c:k=0
 ·rw[if_neg (by lia),if_pos c,<- ZcA (rs:=rs) (i:=0 + 1)]
  exact congrArg _ (by lia)
 ·rw[if_pos (by lia),if_neg c,<- ZcA (rs:=rs) (i:=0)]
  exact congrArg _ (by lia)
end
end DL
end
section
namespace DL
noncomputable def nm (p:Pt):Int:=p.1 * p.1 + p.2 * p.2
theorem ZdD {w a b:Pt}(h1:0<=X a w)(h2:0 < X w b):in1 w a b=1:=by unfold in1;rw[if_pos ⟨h1,h2⟩]
theorem Zpt {f:Pt->Pt->Nat}{L R:List Pt}{a b:Pt}:f a b<=cc f (L ++ a :: b :: R):=by
 rw[Zbk];simp only[cc];lia
theorem XX (p:Pt):X p p=0:=by unfold X;grind
section
variable {rs:List Pt}{k:Nat}
theorem Zma {f:Pt->Pt->Nat}{a b p:Pt}{L R Y:List Pt}(e:R ++ L=b :: (Y ++ [a]))(hf:f a b=f a p + f p b):cyc f (L ++ R)=cyc f (L ++ p :: R):=by
 rw[Za4 L R,e,Za4 L,List.cons_append,e];simp only[Zam,List.cons_append,cc];have e1:b :: (Y ++ [a] ++ [p])=(b :: Y) ++ a :: [p]:=by simp
 have e2:b :: (Y ++ [a] ++ [b])=(b :: Y) ++ a :: [b]:=by simp
 rw[e1,e2,Zbk (b :: Y) a [p],Zbk (b :: Y) a [b]];simp only[cc];lia
end
end DL
end
section
namespace CE
open L2 DL
def ZU:Sv:=(Z5 (e2 dSub (e2 dMul (e2 dIx (Zg 0) (eC (.int 0))) (e2 dIx (Zg 1) (eC (.int 1)))) (e2 dMul (e2 dIx (Zg 0) (eC (.int 1))) (e2 dIx (Zg 1) (eC (.int 0))))))
def F_crossed:W3:=fnF ZU 2 0
def Zar:Sv:=(Z5 (e2 dIx (Zg 0) (e2 dMod (e2 dAdd (Zg 1) (eC (.int 1))) (Zk bLen (Zc (Zg 0) aNil)))))
def F_following:W3:=fnF Zar 2 0
def Z2:Sv:=(sIf (tv (e2 dNe (Zk F_crossed (Zc (Zg 2) (Zc (Zk F_following (Zc (Zg 0) (Zc (Zg 1) aNil))) aNil))) (eC (.int 1)))) (Z5 (Zg 1)) sNil)
def Zas:Sv:=(ZE (Zdn (gTp (gCs (gNm 1) (gCs (gNm 2) gNl))) (iEn (Zc (Zg 0) aNil)) Z2)
 (Z5 (eC .non)))
def F_unspanned:W3:=fnF Zas 1 2
def Zag:Sv:=(ZE (ZJ (gNm 1) (Zk F_unspanned (Zc (Zg 0) aNil)))
 (sIf (tv (e2 dIsNot (Zg 1) (eC .non))) (Zb5 (PySem.Str.ofString "NotSmooth") (Zc (eFs (ZeI (eC (.str (PySem.Str.ofString "ray "))) (ZeI (eFm (Zg 1)) (ZeI (eC (.str (PySem.Str.ofString " does not cross the next one in 1"))) jNil)))) aNil)) sNil))
def F_ask_smooth:W3:=fnF Zag 1 1
def ZcK:Sv:=(ZE (ZcX (Zk F_ask_smooth (Zc (Zg 0) aNil)))
 (Z5 (ZaO (iR1 (Zc (Zk bLen (Zc (Zg 0) aNil)) aNil)) 1 [0] (gNm 0) (fun _ M=> .ok true M) (Zk F_crossed (Zc (Zk F_following (Zc (Zg 1) (Zc (Zg 0) aNil))) (Zc (e2 dIx (Zg 1) (e2 dSub (Zg 0) (eC (.int 1)))) aNil))))))
def F_numbers:W3:=fnF ZcK 1 0
end CE
end
section
namespace CE
open L2 DL
theorem Zh2:F_crossed=CC.F_crossed:=rfl
theorem ZeU:F_following=CC.F_following:=rfl
theorem Zek:F_ask_smooth=CC.F_ask_smooth:=rfl
section
variable {Q:W0}{E:W2}{M:Sto}{a b c d i:Int}{n:Nat}{rs:List Pt}
theorem Zh3 (h:M[n]?=some (.lst (prs rs)))(hs:Smo rs)(hl:rs.length<=1000000)(hb:Nr 18446744073709551615 rs)(q:Q (.ref M.length) (M ++ [.lst (nts (Zbq rs))])):wO (F_numbers [.ref n] M) Q E:=by
 have hm:=Zu h
 have hn:=hs.len
 simp![F_numbers,ZcK,Zek];refine CC.Zej h hs hb ?_
 simp![h];refine ⟨by lia,?_⟩
 rw[show ((rs.length:Int)).toNat=rs.length by lia]
 refine Zu5 (fun ρ=> ∃ x,ρ=[x,some (.ref n)]) (fun (i:Nat)=> .int (T rs i)) (by lia) ⟨_,rfl⟩ ?_ (by rw[ZhS];exact q)
 rintro i hi ρ L ⟨x,rfl⟩
 have b1:=CC.Nr.big hb (by decide) hs.ne (i + 1)
 have hL:(M ++ L)[n]?=some (.lst (prs rs)):=by rw[Zac hm];exact h
 simp![ZeU,Zh2,CC.ZaU hL,h,ZbG,CC.Zah];refine ⟨⟨_,rfl⟩,?_⟩
 unfold T;rw[<- Zku];rfl
end
end CE
end
section
namespace CF
open L2 DL CC
end CF
end
section
namespace CF
open L2 DL
section
variable {Q:W0}{E:W2}{M:Sto}{a b c d i:Int}{n:Nat}{rs:List Pt}
theorem Nr.del {b:Int}{k:Nat}(h:Nr b rs):Nr b (del rs k):=fun p hp=>h p (by
 rcases List.mem_append.mp hp with z | z
 ·exact List.mem_of_mem_take z
 ·exact List.mem_of_mem_drop z)
end
end CF
end
section
namespace DL
open L2 DL
section
variable {M:Sto}
end
end DL
end
section
namespace CB
open L2 DL
def ZU:Sv:=(Z5 (e2 dSub (e2 dMul (e2 dIx (Zg 0) (eC (.int 0))) (e2 dIx (Zg 1) (eC (.int 1)))) (e2 dMul (e2 dIx (Zg 0) (eC (.int 1))) (e2 dIx (Zg 1) (eC (.int 0))))))
def F_crossed:W3:=fnF ZU 2 0
def Za6:Sv:=(ZE (ZJ (gNm 5) (e2 dDiv (Zg 1) (Zg 2)))
 (ZE (Zfh 1 2 (Zc (Zg 2) (Zc (e2 dSub (Zg 1) (e2 dMul (Zg 5) (Zg 2))) aNil)))
 (Zfh 3 4 (Zc (Zg 4) (Zc (Z4 (Zc (e2 dSub (e2 dIx (Zg 3) (eC (.int 0))) (e2 dMul (Zg 5) (e2 dIx (Zg 4) (eC (.int 0))))) (Zc (e2 dSub (e2 dIx (Zg 3) (eC (.int 1))) (e2 dMul (Zg 5) (e2 dIx (Zg 4) (eC (.int 1))))) aNil))) aNil)))))
def ZcL:Sv:=(ZE (ZJ (gTp (gCs (gNm 1) (gCs (gNm 2) gNl))) (Zg 0))
 (ZE (ZJ (gTp (gCs (gNm 3) (gCs (gNm 4) gNl))) (Z4 (Zc (Z4 (Zc (eC (.int 0)) (Zc (eC (.int 1)) aNil))) (Zc (Z4 (Zc (ZdW (eC (.int 1))) (Zc (eC (.int 0)) aNil))) aNil))))
 (ZE (sWh (tv (e2 dNe (Zg 2) (eC (.int 0)))) Za6)
 (Z5 (Z4 (Zc (e2 dMul (Zg 1) (e2 dIx (Zg 3) (eC (.int 0)))) (Zc (e2 dMul (Zg 1) (e2 dIx (Zg 3) (eC (.int 1)))) aNil)))))))
def F_partner:W3:=fnF ZcL 1 5
def ZaA:Sv:=(ZE (ZJ (gNm 2) (Zk F_partner (Zc (Zg 0) aNil)))
 (ZE (ZJ (gNm 3) (e2 dDiv (Zk F_crossed (Zc (Zg 2) (Zc (Zg 1) aNil))) (Zk F_crossed (Zc (Zg 0) (Zc (Zg 1) aNil)))))
 (Z5 (Z4 (Zc (e2 dSub (e2 dIx (Zg 2) (eC (.int 0))) (e2 dMul (Zg 3) (e2 dIx (Zg 0) (eC (.int 0))))) (Zc (e2 dSub (e2 dIx (Zg 2) (eC (.int 1))) (e2 dMul (Zg 3) (e2 dIx (Zg 0) (eC (.int 1))))) aNil))))))
def F_first_behind:W3:=fnF ZaA 2 2
def ZaV:Sv:=(ZE (ZJ (gNm 3) (ZdW (e2 dDiv (ZdW (Zg 0)) (Zg 1))))
 (ZE (ZcX (Zgm mApp (Zg 2) (Zc (Zg 3) aNil)))
 (Zfh 0 1 (Zc (Zg 1) (Zc (e2 dSub (e2 dMul (Zg 3) (Zg 1)) (Zg 0)) aNil)))))
def ZbW:Sv:=(ZE (ZJ (gNm 2) (ZbS aNil))
 (ZE (sWh (tv (e2 dNe (Zg 1) (eC (.int 0)))) ZaV)
 (Z5 (Zg 2))))
def F_expanded:W3:=fnF ZbW 2 2
def Zmb:Sv:=(ZE (sIf (tv (e2 dLe (Zk F_crossed (Zc (Zg 0) (Zc (Zg 1) aNil))) (eC (.int 0)))) (Zb5 (PySem.Str.ofString "NoWedge") (Zc (eC (.str (PySem.Str.ofString "the two rays of a wedge, crossed, come to more than 0"))) aNil)) sNil)
 (Z5 (Zk F_expanded (Zc (Zk F_crossed (Zc (Zg 0) (Zc (Zg 1) aNil))) (Zc (Zk F_crossed (Zc (Zk F_first_behind (Zc (Zg 0) (Zc (Zg 1) aNil))) (Zc (Zg 1) aNil))) aNil)))))
def F_row:W3:=fnF Zmb 2 0
def Za7:Sv:=(ZE (ZcX (Zgm mApp (Zg 3) (Zc (Zg 5) aNil)))
 (Zfh 4 5 (Zc (Zg 5) (Zc (Z4 (Zc (e2 dSub (e2 dMul (Zg 6) (e2 dIx (Zg 5) (eC (.int 0)))) (e2 dIx (Zg 4) (eC (.int 0)))) (Zc (e2 dSub (e2 dMul (Zg 6) (e2 dIx (Zg 5) (eC (.int 1)))) (e2 dIx (Zg 4) (eC (.int 1)))) aNil))) aNil))))
def ZcM:Sv:=(ZE (ZJ (gNm 2) (Zk F_row (Zc (Zg 0) (Zc (Zg 1) aNil))))
 (ZE (ZJ (gNm 3) (ZbS aNil))
 (ZE (Zfh 4 5 (Zc (Zg 0) (Zc (Zk F_first_behind (Zc (Zg 0) (Zc (Zg 1) aNil))) aNil)))
 (ZE (Zlm (gNm 6) (Zg 2) Za7)
 (Z5 (Zg 3))))))
def F_between:W3:=fnF ZcM 2 5
def Zbr:Sv:=(ZE (ZJ (gNm 2) (eC (.int 0)))
 (ZE (sIf (tv (e2 dLt (Zg 1) (Zk bLen (Zc (Zg 0) aNil)))) (ZJ (gNm 2) (e2 dIx (Zg 0) (Zg 1))) sNil)
 (ZE (ZJ (gNm 3) (e2 dMod (Zg 2) (e2 dMul (e2 dPow (eC (.int 10)) (eC (.int 60))) (e2 dPow (eC (.int 10)) (eC (.int 30))))))
 (Z5 (ZbS (Zc (e2 dMul (Zg 3) (Zk bInt (Zc (e2 dGe (Zg 3) (e2 dPow (eC (.int 10)) (eC (.int 18)))) aNil))) (Zc (e2 dAdd (e2 dAdd (e2 dMod (Zg 2) (eC (.int 2147483647))) (e2 dMul (eC (.int 7919)) (Zg 1))) (eC (.int 1))) aNil)))))))
def F_law_purse:W3:=fnF Zbr 2 2
def ZbX:Sv:=(ZE (sIf (tv (e2 dGt (e2 dIx (Zg 0) (eC (.int 0))) (eC (.int 0)))) (ZE (ZJ (gNm 2) (e2 dMod (e2 dIx (Zg 0) (eC (.int 0))) (Zg 1)))
 (ZE (ZmF (Zg 0) (eC (.int 0)) (e2 dDiv (e2 dIx (Zg 0) (eC (.int 0))) (Zg 1)))
 (Z5 (Zg 2)))) sNil)
 (ZE (ZmF (Zg 0) (eC (.int 1)) (e2 dMod (e2 dAdd (e2 dMul (e2 dIx (Zg 0) (eC (.int 1))) (eC (.int 48271))) (eC (.int 12345))) (eC (.int 2147483647))))
 (Z5 (e2 dMod (e2 dDiv (e2 dMod (e2 dMul (e2 dIx (Zg 0) (eC (.int 1))) (eC (.int 69621))) (eC (.int 2147483629))) (eC (.int 5))) (Zg 1)))))
def F_law_take:W3:=fnF ZbX 2 1
def ZbH:Sv:=(Z5 (e2 dSub (e2 dMul (e2 dIx (Zg 0) (eC (.int 0))) (e2 dIx (Zg 1) (eC (.int 1)))) (e2 dMul (e2 dIx (Zg 0) (eC (.int 1))) (e2 dIx (Zg 1) (eC (.int 0))))))
def F_law_crossed:W3:=fnF ZbH 2 0
def ZaB:Sv:=(Zfh 1 2 (Zc (Zg 2) (Zc (e2 dMod (Zg 1) (Zg 2)) aNil)))
def Zbs:Sv:=(ZE (Zfh 1 2 (Zc (Zk bAbs (Zc (e2 dIx (Zg 0) (eC (.int 0))) aNil)) (Zc (Zk bAbs (Zc (e2 dIx (Zg 0) (eC (.int 1))) aNil)) aNil)))
 (ZE (sWh (tv (e2 dGt (Zg 2) (eC (.int 0)))) ZaB)
 (ZE (sIf (tv (e2 dEq (Zg 1) (eC (.int 0)))) (Z5 (Z4 (Zc (eC (.int 1)) (Zc (eC (.int 0)) aNil)))) sNil)
 (Z5 (Z4 (Zc (e2 dDiv (e2 dIx (Zg 0) (eC (.int 0))) (Zg 1)) (Zc (e2 dDiv (e2 dIx (Zg 0) (eC (.int 1))) (Zg 1)) aNil)))))))
def F_law_short:W3:=fnF Zbs 1 2
end CB
end
section
namespace DL
theorem Zh4 {a b:Int}(h:b≠0):(a - a.fdiv b * b).natAbs < b.natAbs:=by
 have e:a - a.fdiv b * b=a.fmod b:=by rw[Int.fmod_def,Int.mul_comm]
 rw[e]
 by_cases c:0 < b
 ·have h1:=Int.fmod_lt_of_pos a c
  have h2:0<=a.fmod b:=by rw[Int.fmod_eq_emod_of_nonneg _ (by lia)];exact Int.emod_nonneg _ h
  lia
 ·have e2:a.fmod b= -((-a).fmod (-b)):=by rw[Int.neg_fmod_neg];lia
  have h1:=Int.fmod_lt_of_pos (-a) (show 0 < -b by lia)
  have h2:0<=(-a).fmod (-b):=by rw[Int.fmod_eq_emod_of_nonneg _ (by lia)];exact Int.emod_nonneg _ (by lia)
  lia
theorem Zmc {a b:Int}(h:b≠0):(a.fdiv b).natAbs<=a.natAbs + 1:=by
 have h1:=Zh4 (a:=a) h
 generalize hr:a - a.fdiv b * b=r at h1;have h2:(a.fdiv b * b).natAbs<=a.natAbs + r.natAbs:=by lia
 rw[Int.natAbs_mul] at h2
 apply Classical.byContradiction
 intro c;have h3:(a.natAbs + 2) * b.natAbs<=(a.fdiv b).natAbs * b.natAbs:=Nat.mul_le_mul_right _ (by lia)
 have h4:a.natAbs * 1<=a.natAbs * b.natAbs:=Nat.mul_le_mul_left _ (by lia)
 rw[Nat.add_mul] at h3;lia
noncomputable def hj (t b:Int):List Int:=if h:0 < b then -((-t) / b) :: hj b (-((-t) / b) * b - t) else []
termination_by b.toNat
decreasing_by
 have h1:=Int.emod_nonneg (-t) (show b≠0 by lia)
 have h2:=Int.emod_lt_of_pos (-t) h
 have h3:=Int.emod_add_mul_ediv (-t) b
 rw[Int.neg_mul,Int.mul_comm];lia
theorem ZaW {t b:Int}(h:0 < b):0<= -((-t) / b) * b - t/\ -((-t) / b) * b - t < b:=by
 have h1:=Int.emod_nonneg (-t) (show b≠0 by lia)
 have h2:=Int.emod_lt_of_pos (-t) h
 have h3:=Int.emod_add_mul_ediv (-t) b
 rw[Int.neg_mul,Int.mul_comm];lia
theorem Zh5 {t b:Int}(h:0 < b)(ht:b < t):2<= -((-t) / b):=by
 have:=(ZaW (t:=t) h).1
 apply Classical.byContradiction
 intro c
 have: -((-t) / b) * b<=1 * b:=Int.mul_le_mul_of_nonneg_right (by lia) (by lia)
 lia
theorem Zkv: ∀ (n:Nat) (t b:Int),b.toNat=n->(hj t b).length<=n:=by
 intro n
 induction n using Nat.strongRecOn with
 |ind n ih=>
  intro t b hb;unfold hj
  by_cases h:0 < b
  ·rw[dif_pos h]
   have:=ZaW (t:=t) h
   have:=ih (-((-t) / b) * b - t).toNat (by lia) b _ rfl
   simp only[List.length_cons];lia
  ·rw[dif_neg h]
   simp
end DL
namespace CB
open L2 DL
section
variable {Q:W0}{E:W2}{M:Sto}{a b c d i:Int}{n m:Nat}{u v w:Pt}
noncomputable abbrev Bd (b:Int)(p:Pt):Prop:=(-b<=p.1/\p.1<=b)/\ -b<=p.2/\p.2<=b
theorem Zpu {j:Int}(h:j≠0/\ -(18446744073709551616) < j/\j < 18446744073709551616):wO (dDiv (.int i) (.int j) M) Q E=Q (.int (i.fdiv j)) M:=by
 have:Zaz j:=by
  refine ⟨h.1,?_⟩
  have:j.natAbs.log2 < 65:=(Nat.log2_lt (by lia)).mpr (by lia)
  lia
 show wO (if Zaz j then _ else _) Q E=_
 rw[if_pos this];rfl
theorem Zh6 (hg:Int.gcd u.1 u.2=1)(hb:Bd 1000000 u)(q: ∀ w:Pt,X u w=1->Q (pr w.1 w.2) M):wO (F_partner [pr u.1 u.2] M) Q E:=by
 simp![F_partner,ZcL];refine Zl4 (fun k ρ M'=>M'=M/\ ∃ (h l:Int) (f s:Pt) (x:Option D),ρ=[some (pr u.1 u.2),some (.int h),some (.int l),some (pr f.1 f.2),some (pr s.1 s.2),x]/\k=l.natAbs/\Int.gcd h l=1/\(-1000000<=h/\h<=1000000)/\(-1000000<=l/\l<=1000000)/\X u f=h/\X u s=l) ?_ u.2.natAbs _ _ ⟨rfl,u.1,u.2,(0,1),(-1,0),_,rfl,rfl,hg,hb.1,hb.2,by simp[X],by simp[X]⟩
 rintro k ρ M ⟨rfl,h,l,f,s,x,rfl,rfl,g,hh,hl,e1,e2⟩
 simp![Zn];refine Zpr (fun hl0=> ?_) (fun hl0=> ?_)
 ·have f1:=Zh4 (a:=h) hl0
  have f2:=Zmc (a:=h) hl0
  simp![Za6,Zpu];refine ⟨(h - h.fdiv l * l).natAbs,f1,l,h - h.fdiv l * l,s,(f.1 - h.fdiv l * s.1,f.2 - h.fdiv l * s.2),_,rfl,rfl,?_,hl,by lia,e2,?_⟩
  ·rw[Int.gcd_sub_mul_right_right,Int.gcd_comm]
   exact g
  ·unfold X at *
   simp only
   grind
 ·subst hl0
  rw[Int.gcd_zero_right] at g;simp![Zn]
  have:=q (h * f.1,h * f.2) (by
   have hh2:h * h=1:=by
    have:h=1\/h= -1:=by lia
    rcases this with z | z<;>rw[z]<;>rfl
   unfold X at *
   simp only
   grind)
  exact this
theorem Zah (h:Bd 1000000 u\/Bd 1000000 v):wO (F_crossed [pr u.1 u.2,pr v.1 v.2] M) Q E=Q (.int (X u v)) M:=by
 rcases h with h | h
 ·simp![F_crossed,ZU]
  rfl
 ·simp![F_crossed,ZU]
  rfl
structure Wg (u v:Pt):Prop where
 gu:Int.gcd u.1 u.2=1
 gv:Int.gcd v.1 v.2=1
 bu:Bd 1000 u
 bv:Bd 1000 v
 pos:0 < X u v
theorem Wg.le (h:Wg u v):X u v<=2000000:=by
 obtain ⟨_,_,⟨⟨a1,a2⟩,a3,a4⟩,⟨⟨b1,b2⟩,b3,b4⟩,_⟩:=h
 have m: ∀ x y:Int,-1000<=x->x<=1000-> -1000<=y->y<=1000->(x * y).natAbs<=1000 * 1000:=by
  intro x y _ _ _ _;rw[Int.natAbs_mul];exact Nat.mul_le_mul (by lia) (by lia)
 have p1:=m u.1 v.2 a1 a2 b3 b4
 have p2:=m u.2 v.1 a3 a4 b1 b2
 unfold X;lia
theorem Zbl (h:Wg u v)(q: ∀ w:Pt,X u w=1->0<=X w v->X w v < X u v->Q (pr w.1 w.2) M):wO (F_first_behind [pr u.1 u.2,pr v.1 v.2] M) Q E:=by
 have bu:Bd 1000000 u:=by have:=h.bu;unfold Bd at *;lia
 have bv:Bd 1000000 v:=by have:=h.bv;unfold Bd at *;lia
 have hp:=h.pos
 have hl:=h.le
 simp![F_first_behind,ZaA];refine Zh6 h.gu bu fun w e=> ?_
 simp![Zah (u:=w) (v:=v) (.inr bv),Zah (u:=u) (v:=v) (.inr bv)];have m1:=Int.emod_nonneg (X w v) (show X u v≠0 by lia)
 have m2:=Int.emod_lt_of_pos (X w v) hp
 have m3:=Int.emod_add_mul_ediv (X w v) (X u v)
 generalize X w v / X u v=k at *;have e3:X (w.1 - k * u.1,w.2 - k * u.2) v=X w v % X u v:=by
  have:X (w.1 - k * u.1,w.2 - k * u.2) v=X w v - X u v * k:=by unfold X;simp only;grind
  lia
 exact q (w.1 - k * u.1,w.2 - k * u.2) (by unfold X at *;simp only;grind) (by lia) (by lia)
structure Fb (u v w:Pt):Prop where
 one:X u w=1
 lo:0<=X w v
 hi:X w v < X u v
theorem Fb.uniq {w w':Pt}(h:Fb u v w)(k:Fb u v w'):w=w':=by
 obtain ⟨h1,a1,a2⟩:=h
 obtain ⟨h2,b1,b2⟩:=k
 have e1:w'.1=X w' w * u.1 + w.1/\w'.2=X w' w * u.2 + w.2:=by unfold X at *;constructor<;>grind
 have e2:X w' v=X w' w * X u v + X w v:=by
  have:X w' v=X (X w' w * u.1 + w.1,X w' w * u.2 + w.2) v:=by rw[<- e1.1,<- e1.2]
  rw[this];unfold X
  simp only
  grind
 generalize X w' w=k at *;have k0:k=0:=by
  apply Classical.byContradiction
  intro c
  by_cases p:1<=k
  ·have:1 * X u v<=k * X u v:=Int.mul_le_mul_of_nonneg_right p (by lia)
   lia
  ·have:k * X u v<=(-1) * X u v:=Int.mul_le_mul_of_nonneg_right (by lia) (by lia)
   lia
 rw[k0] at e1
 apply Prod.ext<;>lia
theorem Zpv (h:Wg u v): ∃ w,Fb u v w:=by
 obtain ⟨d,M',_,w,hw⟩:=ZhO (Zbl (M:=[]) (Q:=fun _ _=> ∃ w,Fb u v w) h fun w a b c=>⟨w,a,b,c⟩)
 exact ⟨w,hw⟩
theorem Zpw (h:Wg u v)(hw:Fb u v w):wO (F_first_behind [pr u.1 u.2,pr v.1 v.2] M) Q E=Q (pr w.1 w.2) M:=by
 obtain ⟨d,M',e,e1,e2⟩:=ZhO (Zbl (M:=M) (Q:=fun d M'=>d=pr w.1 w.2/\M'=M) h fun w' a b c=>⟨by rw[hw.uniq ⟨a,b,c⟩],rfl⟩)
 rw[e,e1,e2];rfl
theorem Zgi {t b:Int}(hb:0<=b)(hl:b<=90000)(q:Q (.ref M.length) (M ++ [.lst (nts (hj t b))])):wO (F_expanded [.int t,.int b] M) Q E:=by
 simp![F_expanded,ZbW];refine Zl4 (fun k ρ M'=> ∃ (t' b':Int) (xs:List Int) (x:Option D),ρ=[some (.int t'),some (.int b'),some (.ref M.length),x]/\M'=M ++ [.lst (nts xs)]/\0<=b'/\b'<=90000/\k=b'.toNat/\xs ++ hj t' b'=hj t b/\xs.length + b'.toNat<=90000) ?_ b.toNat _ _ ⟨t,b,[],_,rfl,rfl,hb,hl,rfl,rfl,by simp;lia⟩
 rintro k ρ M' ⟨t',b',xs,x,rfl,rfl,h0,h1,rfl,e,hx⟩
 simp![Zn];refine Zpr (fun hl0=> ?_) (fun hl0=> ?_)
 ·have n1:=ZaW (t:=t') (show 0 < b' by lia)
  simp![ZaV];refine ⟨by lia,(-(-t' / b') * b' - t').toNat,by lia,_,_,xs ++ [-(-t' / b')],_,rfl,rfl,n1.1,by lia,rfl,?_,by simp;lia⟩
  rw[<- e]
  conv=>rhs;rw[hj,dif_pos (show 0 < b' by lia)]
  simp
 ·subst hl0
  simp![Zn]
  have:hj t' 0=[]:=by rw[hj,dif_neg (by lia)]
  rw[this,List.append_nil] at e;rw[e];exact q
theorem Zso (h:Wg u v)(hw:Fb u v w)(hl:X u v<=90000)(q:Q (.ref M.length) (M ++ [.lst (nts (hj (X u v) (X w v)))])):wO (F_row [pr u.1 u.2,pr v.1 v.2] M) Q E:=by
 have bv:Bd 1000000 v:=by have:=h.bv;unfold Bd at *;lia
 have hp:=h.pos
 simp![F_row,Zmb,Zah (u:=u) (v:=v) (.inr bv),Zah (u:=w) (v:=v) (.inr bv),Zpw h hw];exact Zgi hw.lo (by have:=hw.hi;lia) q
noncomputable def btw:Pt->Pt->List Int->List Pt
 |_,_,[]=>[]
 |a,r,k :: ks=>r :: btw r (k * r.1 - a.1,k * r.2 - a.2) ks
theorem Zh7: ∀ (a r:Pt) (ks:List Int),(btw a r ks).length=ks.length
 |_,_,[]=>rfl
 |a,r,k :: ks=>by rw[btw,List.length_cons,Zh7,List.length_cons]
theorem ZjH: ∀ (n:Nat) (t b:Int),b.toNat=n->0<=b->b < t-> ∀ k∈hj t b,2<=k/\k<=t:=by
 intro n
 induction n using Nat.strongRecOn with
 |ind n ih=>
  intro t b hb h0 ht k hk;unfold hj at hk
  by_cases h:0 < b
  ·rw[dif_pos h] at hk
   have nx:=ZaW (t:=t) h
   rcases List.mem_cons.mp hk with z | z
   ·rw[z]
    refine ⟨Zh5 h ht,?_⟩
    apply Classical.byContradiction
    intro c
    have:(t + 1) * b<= -((-t) / b) * b:=Int.mul_le_mul_of_nonneg_right (by lia) (by lia)
    have:t * 1<=t * b:=Int.mul_le_mul_of_nonneg_left (by lia) (by lia)
    rw[Int.add_mul] at *;lia
   ·have:=ih (-((-t) / b) * b - t).toNat (by lia) b _ rfl nx.1 nx.2 k z
    lia
  ·rw[dif_neg h] at hk
   simp at hk
theorem Zh8 (h:Wg u v)(hw:Fb u v w)(hl:X u v<=90000)(q:Q (.ref (M.length + 1)) (M ++ [.lst (nts (hj (X u v) (X w v))),.lst (prs (btw u w (hj (X u v) (X w v))))])):wO (F_between [pr u.1 u.2,pr v.1 v.2] M) Q E:=by
 simp![F_between,ZcM];refine Zso h hw hl ?_
 have sm:=ZjH _ (X u v) (X w v) rfl hw.lo hw.hi
 have ln:=Zkv _ (X u v) (X w v) rfl
 have hi:=hw.hi
 generalize hj (X u v) (X w v)=ks at *;simp![Zpw h hw];refine ZdA (fun i ρ M'=> ∃ (a r:Pt) (pre suf:List Int) (dn:List Pt) (x:Option D),ρ=[some (pr u.1 u.2),some (pr v.1 v.2),some (.ref M.length),some (.ref (M.length + 1)),some (pr a.1 a.2),some (pr r.1 r.2),x]/\M'=M ++ [.lst (nts ks),.lst (prs dn)]/\ks=pre ++ suf/\pre.length=i/\btw u w ks=dn ++ btw a r suf/\dn.length=i) (n:=M.length) (xs:=nts ks) (by rw[ZdC];rfl) ⟨u,w,[],ks,[],_,rfl,rfl,rfl,rfl,rfl,rfl⟩ (fun i ρ M' ⟨_,_,_,_,_,_,_,e,_⟩=>by rw[e,ZdC];rfl) ?_ ?_
 ·rintro i ρ M' hi' ⟨a,r,pre,suf,dn,x,rfl,rfl,e1,e2,e3,e4⟩
  rw[Zbp] at hi';obtain ⟨k,suf,rfl⟩: ∃ k s,suf=k :: s:=by
   cases suf with
   |nil=>rw[e1] at hi';simp at hi';lia
   |cons k s=>exact ⟨k,s,rfl⟩
  have ek:(nts ks)[i]'(by rw[Zbp];exact hi')= .int k:=by
   subst e1 e2
   simp[nts]
  rw[ek];have hk:=sm k (by rw[e1];simp)
  simp![Za7];refine ⟨by lia,r,(k * r.1 - a.1,k * r.2 - a.2),pre ++ [k],suf,dn ++ [(r.1,r.2)],_,rfl,rfl,by rw[e1];simp,by simp;lia,?_,by simp;lia⟩
  rw[e3,btw]
  simp
 ·rintro ρ M' ⟨a,r,pre,suf,dn,x,rfl,rfl,e1,e2,e3,e4⟩
  have:suf=[]:=by
   have:=congrArg List.length e1
   rw[Zbp] at e2
   simp at this
   cases suf with
   |nil=>rfl
   |cons _ _=>simp at this;lia
  subst this;rw[btw,List.append_nil] at e3;simp![Zn];rw[<- e3];exact q
end
end CB
end
section
namespace CB
open L2 DL
section
variable {Q:W0}{E:W2}{M:Sto}{a b c d i:Int}{n m:Nat}{u v w:Pt}
theorem Zmd {ns:List Int}{k:Nat}(hk:k < 1000)(q: ∀ a b:Int,0<=a->Q (.ref M.length) (M ++ [.lst [.int a,.int b]])):wO (F_law_purse [.rol (ns.map D.int),.int k] M) Q E:=by
 have big:ZZ 1000000000000000000000000000000000000000000000000000000000000 1000000000000000000000000000000:=ZfU 300 300 (by decide +kernel) (by decide +kernel) (by decide) (by decide)
 simp![F_law_purse,Zbr];refine brS (fun h1=> ?_) (fun h1=> ?_)
 ·have h2:k < ns.length:=by simpa using h1
  simp![Zjq h2,Zfw big];obtain ⟨l,hl,l0⟩: ∃ l:Int,ns[k] % 1000000000000000000000000000000000000000000000000000000000000000000000000000000000000000000=l/\0<=l:=⟨_,rfl,by lia⟩
  rw[hl];refine q _ _ ?_
  split<;>lia
 ·simp![Zfw big]
  exact q _ _ (by lia)
theorem ZV {t:Int}(hb:Bag n M)(ht:0 < t/\t < 18446744073709551616)(q: ∀ r M',0<=r->r < t->Gr n M M'->Q (.int r) M'):wO (F_law_take [.ref n,.int t] M) Q E:=by
 obtain ⟨a,b,ha,e⟩:=hb
 have hl:n < M.length:=Zu e
 have hs: ∀ x,(M.set n x)[n]?=some x:=fun x=>List.getElem?_set_self hl
 have gr: ∀ a' b',0<=a'->Gr n M (M.set n (.lst [.int a',.int b'])):=fun a' b' h=>⟨by simp,⟨a',b',h,hs _⟩,fun k hk _=>by rw[List.getElem?_set_ne (Ne.symm hk)]⟩
 have m1:=Int.emod_nonneg a (show t≠0 by lia)
 have m2:=Int.emod_lt_of_pos a ht.1
 simp![F_law_take,ZbX,e];refine brS (fun h1=> ?_) (fun h1=> ?_)
 ·simp![e,ix0]
  exact q _ _ m1 m2 (gr _ _ (Int.ediv_nonneg ha (by lia)))
 ·simp![e,ix1]
  exact q _ _ (Int.emod_nonneg _ (by lia)) (Int.emod_lt_of_pos _ ht.1) (gr _ _ ha)
theorem ZtI (hu:Bd 200 u)(hv:Bd 200 v): -80000<=X u v/\X u v<=80000:=by
 obtain ⟨⟨a1,a2⟩,a3,a4⟩:=hu
 obtain ⟨⟨b1,b2⟩,b3,b4⟩:=hv
 have m: ∀ x y:Int,-200<=x->x<=200-> -200<=y->y<=200->(x * y).natAbs<=200 * 200:=by
  intro x y _ _ _ _;rw[Int.natAbs_mul];exact Nat.mul_le_mul (by lia) (by lia)
 have p1:=m u.1 v.2 a1 a2 b3 b4
 have p2:=m u.2 v.1 a3 a4 b1 b2
 unfold X;lia
theorem Zc5 (h:Bd 1000000 u\/Bd 1000000 v):wO (F_law_crossed [pr u.1 u.2,pr v.1 v.2] M) Q E=Q (.int (X u v)) M:=Zah h
def Ch:List Pt->Prop
 |a :: b :: r=>X a b=1/\Ch (b :: r)
 |_=>True
theorem Zsp: ∀ (n:Nat) (t b:Int) (a r v:Pt),b.toNat=n->0<=b->b < t->X a r=1->X a v=t->X r v=b->Int.gcd v.1 v.2=1->Ch (a :: (btw a r (hj t b) ++ [v])):=by
 intro n
 induction n using Nat.strongRecOn with
 |ind n ih=>
  intro t b a r v hb h0 ht h1 h2 h3 gv;unfold hj
  by_cases h:0 < b
  ·rw[dif_pos h]
   have nx:=ZaW (t:=t) h
   generalize hk: -((-t) / b)=k at *;have q:=ih (k * b - t).toNat (by lia) b (k * b - t) r (k * r.1 - a.1,k * r.2 - a.2) v rfl nx.1 nx.2 (by unfold X at *;simp only;grind) h3 (by unfold X at *;simp only;grind) gv
   rw[btw];exact ⟨h1,q⟩
  ·rw[dif_neg h,btw]
   have b0:b=0:=by lia
   have e1:v.1=t * r.1/\v.2=t * r.2:=by unfold X at *;constructor<;>grind
   rw[e1.1,e1.2,Int.gcd_mul_left] at gv;have t1:t.natAbs=1:=Nat.eq_one_of_mul_eq_one_right gv
   refine ⟨by rw[h2];lia,trivial⟩
theorem Zh9 (h:Wg u v)(hw:Fb u v w):Ch (u :: (btw u w (hj (X u v) (X w v)) ++ [v])):=Zsp _ _ _ u w v rfl hw.lo hw.hi hw.one rfl rfl h.gv
noncomputable def Tr (a b d:Pt):Prop:= ∃ k:Int,2<=k/\a.1 + d.1=k * b.1/\a.2 + d.2=k * b.2
def Cv:List Pt->Prop
 |a :: b :: d :: r=>Tr a b d/\Cv (b :: d :: r)
 |_=>True
theorem Zkw: ∀ (n:Nat) (t b:Int) (a r v:Pt),b.toNat=n->0<=b->b < t->X a r=1->X a v=t->X r v=b->Int.gcd v.1 v.2=1->Cv (a :: (btw a r (hj t b) ++ [v]))/\ ∃ rest,btw a r (hj t b) ++ [v]=r :: rest:=by
 intro n
 induction n using Nat.strongRecOn with
 |ind n ih=>
  intro t b a r v hb h0 ht h1 h2 h3 gv;unfold hj
  by_cases h:0 < b
  ·rw[dif_pos h]
   have nx:=ZaW (t:=t) h
   have k2:=Zh5 h ht
   generalize hk: -((-t) / b)=k at *;obtain ⟨q,rest,e⟩:=ih (k * b - t).toNat (by lia) b (k * b - t) r (k * r.1 - a.1,k * r.2 - a.2) v rfl nx.1 nx.2 (by unfold X at *;simp only;grind) h3 (by unfold X at *;simp only;grind) gv
   rw[btw];refine ⟨?_,_,rfl⟩
   show Cv (a :: r :: (btw r (k * r.1 - a.1,k * r.2 - a.2) (hj b (k * b - t)) ++ [v]))
   rw[e] at q ⊢;exact ⟨⟨k,k2,by simp only;lia,by simp only;lia⟩,q⟩
  ·rw[dif_neg h,btw]
   have b0:b=0:=by lia
   have e1:v.1=t * r.1/\v.2=t * r.2:=by unfold X at *;constructor<;>grind
   have gv':=gv
   rw[e1.1,e1.2,Int.gcd_mul_left] at gv';have t1:t.natAbs=1:=Nat.eq_one_of_mul_eq_one_right gv'
   have tt:t=1:=by lia
   rw[tt] at e1
   have:v=r:=by apply Prod.ext<;>lia
   rw[this];exact ⟨trivial,[],rfl⟩
theorem ZjI: ∀ (L:List Pt) {a b d:Pt} {R:List Pt},Cv (L ++ a :: b :: d :: R)->Tr a b d
 | [],_,_,_,_,h=>h.1
 | [x],_,_,_,_,h=>ZjI [] h.2
 | [x,y],_,_,_,_,h=>ZjI [y] h.2
 |x :: y :: z :: L,_,_,_,_,h=>ZjI (y :: z :: L) h.2
theorem Zpx: ∀ (l:List Pt),(∀ L a b d R,l=L ++ a :: b :: d :: R->Tr a b d)->Cv l
 | [],_=>trivial
 | [_],_=>trivial
 | [_,_],_=>trivial
 |a :: b :: d :: r,h=>⟨h [] a b d r rfl,Zpx (b :: d :: r) fun L x y z R e=>h (a :: L) x y z R (by rw[e];rfl)⟩
theorem Zpy {l:List Pt}(h:Cv l):Cv l.reverse:=by
 refine Zpx _ fun L a b d R e=> ?_
 have:l=R.reverse ++ d :: b :: a :: L.reverse:=by
  have:=congrArg List.reverse e
  rw[List.reverse_reverse] at this;rw[this]
  simp
 rw[this] at h;obtain ⟨k,k2,e1,e2⟩:=ZjI _ h
 exact ⟨k,k2,by lia,by lia⟩
noncomputable def dt (f p:Pt):Int:=f.1 * p.1 + f.2 * p.2
end
section
variable {u v w:Pt}
theorem Zsq: ∀ (n:Nat) (t b:Int) (a r v:Pt),b.toNat=n->0<=b->b < t->X r v=b->X a v=t-> ∀ x∈btw a r (hj t b),0<=X x v/\X x v<=t:=by
 intro n
 induction n using Nat.strongRecOn with
 |ind n ih=>
  intro t b a r v hb h0 ht h3 h2 x hx;unfold hj at hx
  by_cases h:0 < b
  ·rw[dif_pos h] at hx
   have nx:=ZaW (t:=t) h
   generalize -((-t) / b)=k at *;rw[btw] at hx
   rcases List.mem_cons.mp hx with z | z
   ·rw[z,h3];lia
   ·have:=ih (k * b - t).toNat (by lia) b (k * b - t) r (k * r.1 - a.1,k * r.2 - a.2) v rfl nx.1 nx.2 (by unfold X at *;simp only;grind) h3 x z
    lia
  ·rw[dif_neg h,btw] at hx
   simp at hx
theorem Zsr {u:Pt}: ∀ (n:Nat) (t b:Int) (a r v:Pt),b.toNat=n->0<=b->b < t->X a r=1->X a v=t->X r v=b->Int.gcd v.1 v.2=1->0<=X u a->X u a<=X u r->X u r<=X u v/\ ∀ x∈btw a r (hj t b),0<=X u x/\X u x<=X u v:=by
 intro n
 induction n using Nat.strongRecOn with
 |ind n ih=>
  intro t b a r v hb h0 ht h1 h2 h3 gv p1 p2;unfold hj
  by_cases h:0 < b
  ·rw[dif_pos h]
   have nx:=ZaW (t:=t) h
   have k2:=Zh5 h ht
   generalize -((-t) / b)=k at *;have e:X u (k * r.1 - a.1,k * r.2 - a.2)=k * X u r - X u a:=by unfold X;simp only;grind
   have m:2 * X u r<=k * X u r:=Int.mul_le_mul_of_nonneg_right k2 (by lia)
   obtain ⟨q1,q2⟩:=ih (k * b - t).toNat (by lia) b (k * b - t) r (k * r.1 - a.1,k * r.2 - a.2) v rfl nx.1 nx.2 (by unfold X at *;simp only;grind) h3 (by unfold X at *;simp only;grind) gv (by lia) (by lia)
   refine ⟨by lia,fun x hx=> ?_⟩
   rw[btw] at hx
   rcases List.mem_cons.mp hx with z | z
   ·rw[z];lia
   ·exact q2 x z
  ·rw[dif_neg h,btw]
   have b0:b=0:=by lia
   have e1:v.1=t * r.1/\v.2=t * r.2:=by unfold X at *;constructor<;>grind
   have gv':=gv
   rw[e1.1,e1.2,Int.gcd_mul_left] at gv';have t1:t.natAbs=1:=Nat.eq_one_of_mul_eq_one_right gv'
   have tt:t=1:=by lia
   rw[tt] at e1
   have:v=r:=by apply Prod.ext<;>lia
   rw[this];exact ⟨Int.le_refl _,fun x hx=>by simp at hx⟩
end
end CB
end
section
namespace CA
open L2 DL
end CA
end
section
namespace CA
open L2 DL
structure Tn (B a b c d:Int):Prop where
 fa: -B<=a/\a<=B
 fb: -B<=b/\b<=B
 fc: -B<=c/\c<=B
 fd: -B<=d/\d<=B
 det:a * d - b * c=1\/a * d - b * c= -1
theorem Zkx {B C x y:Int}(hx: -B<=x/\x<=B)(hy: -C<=y/\y<=C): -(B * C)<=x * y/\x * y<=B * C:=by
 have h:(x * y).natAbs<=(B * C).natAbs:=by
  rw[Int.natAbs_mul,Int.natAbs_mul];exact Nat.mul_le_mul (by lia) (by lia)
 have:0<=B * C:=Int.mul_nonneg (by lia) (by lia)
 lia
section
variable {Q:W0}{E:W2}{M:Sto}{a b c d i:Int}{n m:Nat}{rs:List Pt}
theorem Zfy (h:rs≠[])(i:Int):cy rs.reverse i=cy rs (-1 - i):=by
 have hl:rs.length≠0:=by simpa using h
 have e1:cy rs.reverse i=cy rs.reverse (i % rs.length):=by
  conv=>rhs;rw[<- List.length_reverse (as:=rs),Z8]
 have e2:cy rs (-1 - i)=cy rs (-1 - i % rs.length):=by
  unfold cy
  congr 2
  rw[Int.sub_emod,Int.sub_emod (-1) (i % rs.length),Int.emod_emod_of_dvd _ (Int.dvd_refl _)]
 rw[e1,e2];obtain ⟨a,b⟩:=Z0 (i:=i) hl
 generalize i % (rs.length:Int)=m at *;rw[ZaI (by rw[List.length_reverse];lia),<- ZcA (rs:=rs),ZaI (by lia)]
 rw[List.getD_eq_getElem?_getD,List.getD_eq_getElem?_getD,List.getElem?_reverse (by lia)]
 congr 2
 lia
theorem Zme (hl:3<=rs.length)(h: ∀ i:Int,X (cy rs i) (cy rs (i + 1))= -1)(hf:Fan rs.reverse):Smo rs.reverse:=by
 have ne:rs≠[]:=by intro z;rw[z] at hl;simp at hl
 refine ⟨by rw[List.length_reverse];exact hl,fun i=> ?_,hf⟩
 rw[Zfy ne,Zfy ne,Zku]
 have:=h (-1 - (i + 1))
 rw[show -1 - (i + 1) + 1= -1 - i by lia] at this
 lia
theorem Gr.up {k:Nat}{M M1:Sto}{o:SO}(h:M[k]?=some o)(g:Gr n M M1)(hk:k≠n):M1[k]?=some o:=by
 rw[g.keep k hk (Zu h)];exact h
end
end CA
end
section
namespace CY
open L2 DL CA
end CY
end
section
namespace CY
open L2 DL
section
variable {Q:W0}{E:W2}{M:Sto}{n m:Nat}{rs:List Pt}
theorem Gr.of {M M':Sto}(hb:Bag n M)(l:M.length<=M'.length)(g: ∀ k,k < M.length->M'[k]?=M[k]?):Gr n M M':=by
 refine ⟨l,?_,fun k _ hk=>g k hk⟩
 obtain ⟨a,b,h,e⟩:=id hb
 exact ⟨a,b,h,(g n hb.lt).trans e⟩
end
end CY
end
section
namespace CR
open L2 DL
end CR
end
section
namespace CR
open L2 DL
abbrev rt (q:Rat):D:=pr q.num (q.den:Int)
section
variable {Q:W0}{E:W2}{M:Sto}{k l:Nat}{p q:Rat}
end
end CR
end
section
namespace CH
open L2 DL CA CR
end CH
end
section
namespace CH
open L2 DL
open CR (rt)
section
variable {Q:W0}{E:W2}{M:Sto}{n:Nat}
end
end CH
end
section
namespace CS
open L2 DL CC CR
end CS
end
section
namespace CS
open L2 DL
open CR (rt)
section
variable {Q:W0}{E:W2}{M:Sto}{k l:Nat}{p q:Rat}
end
end CS
end
section
namespace CN
open L2 DL
open CE (F_numbers)
open CC (F_following)
end CN
end
section
namespace CN
open L2 DL
open CR (rt)
noncomputable def cq (hs:List Rat)(i:Int):Rat:=hs.getD (i % hs.length).toNat 0
section
variable {Q:W0}{E:W2}{M:Sto}{k l:Nat}{p q:Rat}{n m:Nat}{rs:List Pt}{hs:List Rat}{i:Int}
end
end CN
end
section
namespace CN
open L2 DL
open CR (rt)
section
variable {Q:W0}{E:W2}{M:Sto}{k l:Nat}{p q:Rat}{n m:Nat}{rs:List Pt}{hs:List Rat}{i:Int}
theorem plu (a b c d e f:Int)(h1:a * d - b * c=1)(h2:c * f - d * e=1):a + e=(a * f - b * e) * c/\b + f=(a * f - b * e) * d:=by
 constructor
 ·have:(a * f - b * e) * c=(c * f - d * e) * a + (a * d - b * c) * e:=by
   simp only[Int.sub_mul];rw[show a * f * c=c * f * a by ac_rfl,show b * e * c=b * c * e by ac_rfl,show d * e * a=a * d * e by ac_rfl]
   lia
  rw[this,h1,h2];lia
 ·have:(a * f - b * e) * d=(c * f - d * e) * b + (a * d - b * c) * f:=by
   simp only[Int.sub_mul];rw[show a * f * d=a * d * f by ac_rfl,show b * e * d=d * e * b by ac_rfl,show c * f * b=b * c * f by ac_rfl]
   lia
  rw[this,h1,h2];lia
theorem Zmf (hs':Smo rs)(i:Int):(cy rs (i - 1)).1 + (cy rs (i + 1)).1= -(T rs i) * (cy rs i).1/\(cy rs (i - 1)).2 + (cy rs (i + 1)).2= -(T rs i) * (cy rs i).2:=by
 have h1:=hs'.one (i - 1)
 have h2:=hs'.one i
 rw[show i - 1 + 1=i by lia] at h1
 unfold X at h1 h2
 have:=plu _ _ _ _ _ _ h1 h2
 unfold T X;rw[show -(0 - ((cy rs (i - 1)).1 * (cy rs (i + 1)).2 - (cy rs (i - 1)).2 * (cy rs (i + 1)).1))=(cy rs (i - 1)).1 * (cy rs (i + 1)).2 - (cy rs (i - 1)).2 * (cy rs (i + 1)).1 by lia]
 exact this
end
end CN
end
section
namespace CN
open L2 DL
open CR (rt)
noncomputable def sm (f:Int->Rat):Nat->Rat
 |0=>0
 |n + 1=>sm f n + f n
theorem Zss {rs:List Pt}{a:Nat}(h:a<=rs.length)(i:Int):T (rs.drop a ++ rs.take a) i=T rs (i + a):=by
 unfold T;rw[Zaj h,Zaj h,show i - 1 + (a:Int)=i + a - 1 by lia,show i + 1 + (a:Int)=i + a + 1 by lia]
end CN
end
section
namespace CU
open L2 DL
open CC (F_ask_smooth)
end CU
end
section
namespace CU
open L2 DL
open CR (rt)
open CN CS
def thr (rs:List Pt)(hs:List Rat):Rat × Rat:=(cq hs 0 * (cy rs 1).2 - cq hs 1 * (cy rs 0).2,cq hs 1 * (cy rs 0).1 - cq hs 0 * (cy rs 1).1)
abbrev rp (m:Rat × Rat):D:= .tup [rt m.1,rt m.2]
section
variable {Q:W0}{E:W2}{M:Sto}{k l:Nat}{p q:Rat}{n m o:Nat}{rs:List Pt}{hs xs ys:List Rat}{i:Int}
theorem Zia (h1:M[n]?=some (.lst (prs rs))){ss:List Pt}(h2:M[m]?=some (.lst (prs ss))):eqF (k + 3) M (.ref n) (.ref m)=some (decide (rs=ss)):=by
 rw[Zrw h1 h2,ZoJ]
 by_cases e:rs=ss
 ·subst e;simp
 ·rw[decide_eq_false e]
  split<;>rfl
end
end CU
end
section
namespace CV
open L2 DL
open CR (rt)
open CN CU CS
noncomputable def Kp (M M':Sto):Prop:=M.length<=M'.length/\ ∀ j < M.length,M'[j]?=M[j]?
section
variable {M M' M1 M2:Sto}{o:SO}{j:Nat}
theorem Kp.get (k:Kp M M')(h:M[j]?=some o):M'[j]?=some o:=(k.2 _ (Zu h)).trans h
theorem Kp.refl:Kp M M:=⟨Nat.le_refl _,fun _ _=>rfl⟩
theorem Kp.trans (a:Kp M M1)(b:Kp M1 M2):Kp M M2:=⟨Nat.le_trans a.1 b.1,fun j h=>(b.2 j (Nat.lt_of_lt_of_le h a.1)).trans (a.2 j h)⟩
theorem Kp.app {L:Sto}:Kp M (M ++ L):=⟨by simp,fun j h=>Zac h⟩
theorem Kp.set (a:Kp M M1)(h:M.length<=j):Kp M (M1.set j o):=⟨by rw[List.length_set];exact a.1,fun i hi=>by rw[List.getElem?_set_ne (by lia)];exact a.2 i hi⟩
theorem Kp.gr {n:Nat}(k:Kp M M')(b:Bag n M):Gr n M M':=CY.Gr.of b k.1 k.2
end
section
variable {Q:W0}{E:W2}{M:Sto}{k l:Nat}{p q:Rat}{n m o:Nat}{rs:List Pt}{hs xs ys zs u v:List Rat}{i:Int}{f:Ev}{ρ:Ro}{mu mv N:Nat}
end
end CV
end
section
namespace CW
open L2 DL
open CE (F_numbers)
end CW
end
section
namespace CW
open L2 DL
open CV
def fx (rs:List Pt):Nat:=((Zbq rs).findIdx? (fun t=>decide (t= -1))).getD 0
section
variable {Q:W0}{E:W2}{M:Sto}{n m:Nat}{rs:List Pt}
end
end CW
end
section
namespace CB
open L2 DL
theorem mid {a b p w:Pt}(h1:0 < X a p)(h2:0 < X p b)(h:0 < X a b):in1 w a b=in1 w a p + in1 w p b/\in2 w a b=in2 w a p + in2 w p b:=by
 have e:X a b * X p w=X p b * X a w - X a p * X w b:=by unfold X;grind
 have s:=ZcG (p:=w) (q:=p)
 have k1:0<=X a w->0<=X p b * X a w:=fun z=>Int.mul_nonneg (by lia) z
 have k2:0 < X a w->0 < X p b * X a w:=fun z=>Int.mul_pos h2 z
 have k3:X a w<=0->X p b * X a w<=0:=fun z=>Int.mul_nonpos_of_nonneg_of_nonpos (by lia) z
 have k3':X a w < 0->X p b * X a w < 0:=fun z=>Int.mul_neg_of_pos_of_neg h2 z
 have l1:0<=X w b->0<=X a p * X w b:=fun z=>Int.mul_nonneg (by lia) z
 have l2:0 < X w b->0 < X a p * X w b:=fun z=>Int.mul_pos h1 z
 have l3:X w b<=0->X a p * X w b<=0:=fun z=>Int.mul_nonpos_of_nonneg_of_nonpos (by lia) z
 have l3':X w b < 0->X a p * X w b < 0:=fun z=>Int.mul_neg_of_pos_of_neg h1 z
 have m1:0<=X p w->0<=X a b * X p w:=fun z=>Int.mul_nonneg (by lia) z
 have m2:0 < X p w->0 < X a b * X p w:=fun z=>Int.mul_pos h z
 have m3:X p w<=0->X a b * X p w<=0:=fun z=>Int.mul_nonpos_of_nonneg_of_nonpos (by lia) z
 have m3':X p w < 0->X a b * X p w < 0:=fun z=>Int.mul_neg_of_pos_of_neg h z
 unfold in1 in2;rw[s];generalize X a b * X p w=z at *;generalize X p b * X a w=y at *;generalize X a p * X w b=x at *;generalize X a w=aw at *;generalize X w b=wb at *;generalize X p w=pw at *
 constructor
 all_goals
  repeat' split
  all_goals lia
def Add (f:Pt->Pt->Nat):Prop:= ∀ a b p,0 < X a p->0 < X p b->0 < X a b->f a b=f a p + f p b
theorem Zvb {w:Pt}:Add (in1 w):=fun _ _ _ h1 h2 h=>(mid h1 h2 h).1
theorem Zvc {w:Pt}:Add (in2 w):=fun _ _ _ h1 h2 h=>(mid h1 h2 h).2
theorem Zpz {f:Pt->Pt->Nat}(hf:Add f): ∀ (n:Nat) (t b:Int) (a r v:Pt),b.toNat=n->0<=b->b < t->X a r=1->X a v=t->X r v=b->cc f (a :: (btw a r (hj t b) ++ [v]))=f a v:=by
 intro n
 induction n using Nat.strongRecOn with
 |ind n ih=>
  intro t b a r v hb h0 ht h1 h2 h3;unfold hj
  by_cases h:0 < b
  ·rw[dif_pos h]
   have nx:=ZaW (t:=t) h
   generalize hk: -((-t) / b)=k at *;have q:=ih (k * b - t).toNat (by lia) b (k * b - t) r (k * r.1 - a.1,k * r.2 - a.2) v rfl nx.1 nx.2 (by unfold X at *;simp only;grind) h3 (by unfold X at *;simp only;grind)
   rw[btw,List.cons_append,cc,q];exact (hf a v r (by lia) (by lia) (by lia)).symm
  ·rw[dif_neg h,btw]
   simp[cc]
def nx1 (a b:Pt):Nat:=if X a b=1 then 0 else 1
theorem ZpA: ∀ (l:List Pt),Ch l->cc nx1 l=0
 | [],_=>rfl
 | [_],_=>rfl
 |a :: b :: r,h=>by
  rw[cc,ZpA (b :: r) h.2];unfold nx1;rw[if_pos h.1]
noncomputable def fbv (u v:Pt):Pt:= @dite _ (∃ w,Fb u v w) (Classical.propDecidable _) (fun h=>h.choose) (fun _=>(0,0))
theorem ZbI {u v:Pt}(h:Wg u v):Fb u v (fbv u v):=by
 have e:=Zpv h
 unfold fbv;rw[dif_pos e];exact e.choose_spec
def seg (u v:Pt):List Pt:=u :: btw u (fbv u v) (hj (X u v) (X (fbv u v) v))
def Zaa:List Pt->List Pt
 |a :: b :: r=>seg a b ++ Zaa (b :: r)
 |_=>[]
noncomputable def Wgs:List Pt->Prop
 |a :: b :: r=>Wg a b/\Wgs (b :: r)
 |_=>True
theorem Zky {f:Pt->Pt->Nat}(hf:Add f){u v:Pt}(h:Wg u v):cc f (seg u v ++ [v])=f u v:=by
 have k:=ZbI h
 exact Zpz hf _ _ _ u _ v rfl k.lo k.hi k.one rfl rfl
theorem Zmg {u v:Pt}(h:Wg u v):cc nx1 (seg u v ++ [v])=0:=ZpA _ (Zh9 h (ZbI h))
theorem Zib {f g:Pt->Pt->Nat}(hs: ∀ u v,Wg u v->cc f (seg u v ++ [v])=g u v): ∀ (L:List Pt) (z:Pt),Wgs (L ++ [z])->cc f (Zaa (L ++ [z]) ++ [z])=cc g (L ++ [z])/\ ∃ r,Zaa (L ++ [z]) ++ [z]=(L ++ [z]).head (by simp) :: r
 | [],z,_=>by simp[Zaa,cc]
 | [a],z,h=>by
  have:=hs a z h.1
  refine ⟨?_,?_⟩
  ·simp only[List.cons_append,List.nil_append,Zaa,List.append_nil,cc]
   rw[this];lia
  ·simp[Zaa,seg]
 |a :: b :: L,z,h=>by
  obtain ⟨i1,r,i2⟩:=Zib hs (b :: L) z h.2
  have:=hs a b h.1
  simp only[List.cons_append,List.head_cons] at i1 i2;refine ⟨?_,?_⟩
  ·simp only[List.cons_append,Zaa,List.append_assoc,cc]
   rw[i2,Zbk,this,<- i2,i1]
  ·simp only[List.cons_append,Zaa,seg]
   exact ⟨_,rfl⟩
def lrd (rs:List Pt):List Pt:=Zaa (rs ++ rs.take 1)
theorem Zfz: ∀ (L:List Pt),L.length<=(Zaa L).length + 1
 | []=>by simp
 | [_]=>by simp
 |a :: b :: r=>by
  have:=Zfz (b :: r)
  simp only[Zaa,seg,List.length_append,List.length_cons] at *;lia
theorem Zel {a b:Pt}{r:List Pt}: ∃ s,Zaa (a :: b :: r)=a :: s:=⟨_,rfl⟩
theorem ZeV {f g:Pt->Pt->Nat}(hs: ∀ u v,Wg u v->cc f (seg u v ++ [v])=g u v){a:Pt}{r:List Pt}(hr:r≠[])(h:Wgs (a :: r ++ [a])):cyc f (lrd (a :: r))=cyc g (a :: r):=by
 have k:=(Zib hs (a :: r) a h).1
 have e:lrd (a :: r)=Zaa (a :: r ++ [a]):=by simp[lrd]
 obtain ⟨b,r',rfl⟩:=List.exists_cons_of_ne_nil hr
 obtain ⟨s,hs'⟩:=Zel (a:=a) (b:=b) (r:=r' ++ [a])
 have e2:lrd (a :: b :: r')=a :: s:=by rw[e];simpa using hs'
 rw[e2,Zam,Zam]
 have:a :: (s ++ [a])=Zaa (a :: b :: r' ++ [a]) ++ [a]:=by rw[<- e,e2];simp
 rw[this,k]
 simp
theorem Zst {rs:List Pt}(hl:rs≠[])(h:cyc nx1 rs=0)(i:Int):X (cy rs i) (cy rs (i + 1))=1:=by
 have l0:rs.length≠0:=fun z=>hl (List.length_eq_zero_iff.mp z)
 refine ZcF (P:=fun a b=>X a b=1) l0 ?_ i
 intro i h0 h1;obtain ⟨k,rfl⟩:=Int.eq_ofNat_of_zero_le h0
 have hk:k < rs.length:=by lia
 obtain ⟨L,a,R,e,hL⟩: ∃ L a R,rs=L ++ a :: R/\L.length=k:=⟨rs.take k,rs[k],rs.drop (k + 1),by rw[List.getElem_cons_drop,List.take_append_drop],by simp;lia⟩
 have ca:cy rs k=a:=by rw[e,<- hL];exact Zh1
 have z: ∀ b R',rs ++ rs.take 1=L ++ a :: b :: R'->X a b=1:=by
  intro b R' e2;unfold cyc at h;rw[e2] at h
  have:=Zpt (f:=nx1) (L:=L) (a:=a) (b:=b) (R:=R')
  have n0:nx1 a b=0:=by lia
  unfold nx1 at n0
  split at n0
  ·assumption
  ·lia
 rw[ca];cases R with
 |cons b R=>
  have cb:cy rs (k + 1)=b:=by rw[e,<- hL];exact Zl7
  rw[show ((k:Nat):Int) + 1=(k:Int) + 1 from rfl,cb];exact z b (R ++ rs.take 1) (by rw[e];simp)
 |nil=>
  obtain ⟨c,t,ht⟩:=List.exists_cons_of_ne_nil hl
  have cb:cy rs (k + 1)=c:=by
   have lt:=congrArg List.length ht
   have le:=congrArg List.length e
   simp at lt le
   have:=ZeS (r:=t) (a:=c)
   rw[ht];rw[show ((k:Nat):Int) + 1=(t.length:Int) + 1 by lia]
   exact this
  rw[cb];refine z c [] ?_
  have:rs.take 1=[c]:=by rw[ht];rfl
  rw[this,e]
  simp
theorem Zmh {a:Pt}{r:List Pt}(h2:2<=r.length)(h:Wgs (a :: r ++ [a]))(hF:Fan (a :: r)):Smo (lrd (a :: r)):=by
 have hr:r≠[]:=by intro z;rw[z] at h2;simp at h2
 have ll:=Zfz (a :: r ++ [a])
 have e:lrd (a :: r)=Zaa (a :: r ++ [a]):=by simp[lrd]
 have l3:3<=(lrd (a :: r)).length:=by rw[e];simp at ll ⊢;lia
 have ne:lrd (a :: r)≠[]:=by intro z;rw[z] at l3;simp at l3
 refine ⟨l3,?_,?_⟩
 ·refine Zst ne ?_
  rw[ZeV (f:=nx1) (g:=fun _ _=>0) (fun u v w=>Zmg w) hr h]
  have: ∀ L:List Pt,cc (fun _ _=>0) L=0:=by
   intro L
   induction L with
   |nil=>rfl
   |cons x L ih=>
    cases L with
    |nil=>rfl
    |cons y L=>simp only[cc,ih]
  unfold cyc;exact this _
 ·intro w hw
  rw[ZeV (fun u v z=>Zky Zvb z) hr h,ZeV (fun u v z=>Zky Zvc z) hr h]
  exact hF w hw
theorem ZpB {f:Pt}: ∀ (r:List Pt) (a b:Pt),Cv (a :: b :: r)->(∀ x∈a :: b :: r,0<=dt f x)->dt f a < dt f b-> ∀ x∈r,dt f b < dt f x
 | [],_,_,_,_,_=>by simp
 |d :: r,a,b,h,hp,hl=>by
  obtain ⟨k,k2,e1,e2⟩:=h.1
  have eq:dt f a + dt f d=k * dt f b:=by
   unfold dt
   have:f.1 * a.1 + f.2 * a.2 + (f.1 * d.1 + f.2 * d.2)=f.1 * (a.1 + d.1) + f.2 * (a.2 + d.2):=by grind
   rw[this,e1,e2]
   grind
  have h0:=hp b (by simp)
  have:2 * dt f b<=k * dt f b:=Int.mul_le_mul_of_nonneg_right k2 h0
  have lt:dt f b < dt f d:=by lia
  intro x hx
  rcases List.mem_cons.mp hx with rfl | hx
  ·exact lt
  ·have:=ZpB r b d h.2 (fun y hy=>hp y (by simp[hy])) lt x hx
   lia
theorem ZpC {f:Pt}{c:Int}: ∀ (l:List Pt) (a z:Pt),Cv (a :: (l ++ [z]))->(∀ x∈a :: (l ++ [z]),0<=dt f x)->dt f a<=c->dt f z<=c-> ∀ x∈l,dt f x<=c
 | [],_,_,_,_,_,_=>by simp
 |b :: l,a,z,h,hp,ha,hz=>by
  by_cases k:dt f b<=c
  ·intro x hx
   rcases List.mem_cons.mp hx with rfl | hx
   ·exact k
   ·refine ZpC l b z ?_ (fun y hy=>hp y (by simp at hy ⊢;simp[hy])) k hz x hx
    cases l with
    |nil=>exact h.2
    |cons d l=>exact h.2
  ·have:=ZpB (l ++ [z]) a b h (fun y hy=>hp y (by simpa using hy)) (by lia) z (by simp)
   lia
theorem Zmi {u v w:Pt}(h:Wg u v)(hw:Fb u v w){B:Int}(hB:0<=B)(hu:Bd B u)(hv:Bd B v): ∀ x∈btw u w (hj (X u v) (X w v)),Bd B x:=by
 intro x hx;have a1:=fun x hx=>Zsq _ _ _ u w v rfl hw.lo hw.hi rfl rfl x hx
 have uu:X u u=0:=by unfold X;grind
 have vv:X v v=0:=by unfold X;grind
 have a2:=(Zsr (u:=u) _ _ _ u w v rfl hw.lo hw.hi hw.one rfl rfl h.gv (by lia) (by have:=hw.one;lia)).2
 have cv:=(Zkw _ _ _ u w v rfl hw.lo hw.hi hw.one rfl rfl h.gv).1
 have hp:=h.pos
 have df: ∀ y:Pt,dt (v.2 - u.2,u.1 - v.1) y=X y v + X u y:=by intro y;unfold dt X;simp only;grind
 have le:=ZpC (f:=(v.2 - u.2,u.1 - v.1)) (c:=X u v) _ u v cv (by
  intro y hy;rw[df]
  rcases List.mem_cons.mp hy with rfl | hy
  ·lia
  ·rcases List.mem_append.mp hy with hy | hy
   ·have:=a1 y hy;have:=a2 y hy;lia
   ·simp at hy;subst hy;lia) (by rw[df];lia) (by rw[df];lia) x hx
 rw[df] at le;have b1:=a1 x hx
 have b2:=a2 x hx
 have e1:X u v * x.1=X x v * u.1 + X u x * v.1:=by unfold X;grind
 have e2:X u v * x.2=X x v * u.2 + X u x * v.2:=by unfold X;grind
 have mb: ∀ y z:Int,-B<=y->y<=B-> -B<=z->z<=B-> -(X u v * B)<=X x v * y + X u x * z/\X x v * y + X u x * z<=X u v * B:=by
  intro y z y0 y1 z0 z1;have q1:X x v * y<=X x v * B:=Int.mul_le_mul_of_nonneg_left y1 b1.1
  have q2:X u x * z<=X u x * B:=Int.mul_le_mul_of_nonneg_left z1 b2.1
  have q3:X x v * -B<=X x v * y:=Int.mul_le_mul_of_nonneg_left y0 b1.1
  have q4:X u x * -B<=X u x * z:=Int.mul_le_mul_of_nonneg_left z0 b2.1
  have q5:(X x v + X u x) * B<=X u v * B:=Int.mul_le_mul_of_nonneg_right le hB
  rw[Int.add_mul] at q5;rw[Int.mul_neg] at q3 q4;lia
 have fin: ∀ y:Int,-(X u v * B)<=X u v * y->X u v * y<=X u v * B-> -B<=y/\y<=B:=by
  intro y h1 h2;refine ⟨?_,Int.le_of_mul_le_mul_left h2 hp⟩
  rw[<- Int.mul_neg] at h1;exact Int.le_of_mul_le_mul_left h1 hp
 obtain ⟨⟨u1,u2⟩,u3,u4⟩:=hu
 obtain ⟨⟨v1,v2⟩,v3,v4⟩:=hv
 have m1:=mb u.1 v.1 u1 u2 v1 v2
 have m2:=mb u.2 v.2 u3 u4 v3 v4
 rw[<- e1] at m1;rw[<- e2] at m2;exact ⟨fin _ m1.1 m1.2,fin _ m2.1 m2.2⟩
theorem ZeW {B:Int}(hB:0<=B): ∀ (L:List Pt),Wgs L->(∀ x∈L,Bd B x)-> ∀ x∈Zaa L,Bd B x
 | [],_,_=>by simp[Zaa]
 | [_],_,_=>by simp[Zaa]
 |a :: b :: r,h,hb=>by
  intro x hx;simp only[Zaa,seg] at hx
  rcases List.mem_append.mp hx with hx | hx
  ·rcases List.mem_cons.mp hx with rfl | hx
   ·exact hb x (by simp)
   ·exact Zmi h.1 (ZbI h.1) hB (hb a (by simp)) (hb b (by simp)) x hx
  ·exact ZeW hB (b :: r) h.2 (fun y hy=>hb y (by simp at hy ⊢;simp[hy])) x hx
end CB
end
section
namespace CL
open L2 DL
open CC (F_following)
open CB (F_between)
def Z3:Sv:=(ZE (ZcX (Zgm mApp (Zg 1) (Zc (Zg 3) aNil)))
 (ZcX (Zgm mExt (Zg 1) (Zc (Zk F_between (Zc (Zg 3) (Zc (Zk F_following (Zc (Zg 0) (Zc (Zg 2) aNil))) aNil))) aNil))))
def Zan:Sv:=(ZE (ZJ (gNm 1) (ZbS aNil))
 (ZE (Zdn (gTp (gCs (gNm 2) (gCs (gNm 3) gNl))) (iEn (Zc (Zg 0) aNil)) Z3)
 (Z5 (Zg 1))))
def F_least_round:W3:=fnF Zan 1 3
end CL
end
section
namespace CL
open L2 DL
open CV CB
theorem ZcN: ∀ (L:List Pt) (a b:Pt),Zaa (L ++ [a,b])=Zaa (L ++ [a]) ++ seg a b
 | [],a,b=>by simp[Zaa]
 | [x],a,b=>by simp[Zaa]
 |x :: y :: L,a,b=>by
  have:=ZcN (y :: L) a b
  simp only[List.cons_append,Zaa,List.append_assoc] at this ⊢;rw[this]
theorem Zic: ∀ (L:List Pt) {a b:Pt} {R:List Pt},Wgs (L ++ a :: b :: R)->Wg a b
 | [],_,_,_,h=>h.1
 | [x],_,_,_,h=>h.2.1
 |x :: y :: L,_,_,_,h=>Zic (y :: L) h.2
theorem Zid {u v:Pt}(h:Wg u v)(hl:X u v<=90000):(seg u v).length<=90001:=by
 have k:=ZbI h
 unfold seg;rw[List.length_cons,Zh7]
 have:=Zkv _ (X u v) (X (fbv u v) v) rfl
 have:=k.hi
 have:=k.lo
 lia
theorem ZeX: ∀ (L:List Pt),Wgs L->(∀ A a b R,L=A ++ a :: b :: R->X a b<=90000)->(Zaa L).length<=90001 * L.length
 | [],_,_=>by simp[Zaa]
 | [_],_,_=>by simp[Zaa]
 |a :: b :: r,h,hx=>by
  have i:=ZeX (b :: r) h.2 fun A x y R e=>hx (a :: A) x y R (by rw[e];rfl)
  have s:=Zid h.1 (hx [] a b r rfl)
  simp only[Zaa,List.length_append,List.length_cons] at *;lia
section
variable {Q:W0}{E:W2}{M:Sto}{n:Nat}
theorem ZeY {rs:List Pt}(h:M[n]?=some (.lst (prs rs)))(hne:rs≠[])(hw:Wgs (rs ++ rs.take 1))(hl:rs.length<=61)(hx: ∀ x∈rs,Bd 200 x)(q: ∀ M',Kp M M'->M'[M.length]?=some (.lst (prs (lrd rs)))->Q (.ref M.length) M'):wO (F_least_round [.ref n] M) Q E:=by
 have hn:=Zu h
 have l0:0 < rs.length:=List.length_pos_iff.mpr hne
 have xl: ∀ A x y R,rs ++ rs.take 1=A ++ x :: y :: R->X x y<=90000:=by
  intro A x y R e;have m: ∀ z∈rs ++ rs.take 1,Bd 200 z:=fun z hz=>by
   rcases List.mem_append.mp hz with hz | hz
   ·exact hx z hz
   ·exact hx z (List.mem_of_mem_take hz)
  have:=ZtI (m x (by rw[e];simp)) (m y (by rw[e];simp))
  lia
 have ga: ∀ i:Nat,i<=rs.length->(rs ++ rs.take 1)[i]?=some (cy rs i):=by
  intro i hi
  by_cases c:i < rs.length
  ·rw[List.getElem?_append_left c,ZaI (by lia),ZaT (by lia),List.getElem?_eq_getElem c]
   simp
  ·have:i=rs.length:=by lia
   subst this;rw[List.getElem?_append_right (Nat.le_refl _),Nat.sub_self,<- ZcB,Int.sub_self,ZaI (by lia),ZaT (by lia)]
   rw[List.getElem?_take_of_lt (by decide),List.getElem?_eq_getElem (by lia)]
   simp
 have lch:(rs ++ rs.take 1).length=rs.length + 1:=by simp;lia
 have e:lrd rs=Zaa (rs ++ rs.take 1):=rfl
 rw[e] at q;generalize rs ++ rs.take 1=ch at *;have cut: ∀ i:Nat,i < rs.length->ch.take (i + 2)=ch.take i ++ [cy rs i,cy rs (i + 1)]/\ch.take (i + 1)=ch.take i ++ [cy rs i]:=by
  intro i hi;have g1:=ga i (by lia)
  have g2:=ga (i + 1) (by lia)
  constructor
  ·rw[List.take_add_one,List.take_add_one,g1,g2]
   simp
  ·rw[List.take_add_one,g1]
   simp
 simp![F_least_round,Zan];have K1:Kp M (M ++ [SO.lst []]):=Kp.app
 have r1:(M ++ [SO.lst []])[M.length]?=some (.lst (prs (Zaa (ch.take (0 + 1))))):=by
  rw[ZdC];obtain ⟨c,cs,rfl⟩:=List.exists_cons_of_ne_nil (show ch≠[] by intro z;rw[z] at lch;simp at lch)
  simp[Zaa,prs]
 generalize M ++ [SO.lst []]=M1 at *;have h1:=K1.get h
 refine ZhR (fun i ρ M'=>(∃ x2 x3,ρ=[some (.ref n),some (.ref M.length),x2,x3])/\Kp M M'/\M'[M.length]?=some (.lst (prs (Zaa (ch.take (i + 1)))))) h1 ⟨⟨_,_,rfl⟩,K1,r1⟩ (fun i ρ M' hI=>hI.2.1.get h) ?_ ?_
 ·rintro i ρ M2 hi ⟨⟨x2,x3,rfl⟩,K2,r2⟩
  rw[CC.Zad hi];rw[Zw] at hi;obtain ⟨c1,c2⟩:=cut i hi
  have hch:ch=ch.take i ++ cy rs i :: cy rs (i + 1) :: ch.drop (i + 2):=by
   have:=List.take_append_drop (i + 2) ch
   rw[c1] at this
   simpa using this.symm
  have hW:Wg (cy rs i) (cy rs (i + 1)):=Zic (ch.take i) (R:=ch.drop (i + 2)) (by rw[<- hch];exact hw)
  have hX:X (cy rs i) (cy rs (i + 1))<=90000:=xl (ch.take i) _ _ (ch.drop (i + 2)) hch
  have sl:(Zaa (ch.take (i + 1))).length<=90001 * 62:=by
   have w1:Wgs (ch.take (i + 1)):=by
    have: ∀ (L R:List Pt),Wgs (L ++ R)->Wgs L:=by
     intro L
     induction L with
     |nil=>intro R _;exact trivial
     |cons x L ih=>
      intro R h;cases L with
      |nil=>exact trivial
      |cons y L=>exact ⟨h.1,ih R h.2⟩
    exact this _ (ch.drop (i + 1)) (by rw[List.take_append_drop];exact hw)
   have:=ZeX _ w1 (fun A x y R e=>xl A x y (R ++ ch.drop (i + 1)) (by
    have t:=List.take_append_drop (i + 1) ch
    rw[e] at t;exact t.symm.trans (by simp)))
   have l2:(ch.take (i + 1)).length<=62:=by rw[List.length_take];lia
   have:=Nat.mul_le_mul_left 90001 l2
   lia
  have lr2:=Zu r2
  have fol: ∀ {Q:W0} {M':Sto},M'[n]?=some (.lst (prs rs))->wO (CC.F_following [.ref n,.int i] M') Q E=Q (pr (cy rs (i + 1)).1 (cy rs (i + 1)).2) M':=fun h'=>CC.ZaU h' (by lia)
  generalize hsg:Zaa (ch.take (i + 1))=sg at *;simp![Z3,r2,Zw];refine ⟨by lia,?_⟩
  have K3:Kp M (M2.set M.length (SO.lst (prs (sg ++ [((cy rs i).1,(cy rs i).2)])))):=K2.set (Nat.le_refl _)
  have r3:(M2.set M.length (SO.lst (prs (sg ++ [((cy rs i).1,(cy rs i).2)]))))[M.length]?=some (.lst (prs (sg ++ [((cy rs i).1,(cy rs i).2)]))):=List.getElem?_set_self lr2
  generalize M2.set M.length (SO.lst (prs (sg ++ [((cy rs i).1,(cy rs i).2)])))=M3 at *;have lr3:=Zu r3
  rw[fol (K3.get h)];simp![Zn];refine Zh8 hW (ZbI hW) hX ?_
  have bl:(btw (cy rs i) (fbv (cy rs i) (cy rs (i + 1))) (hj (X (cy rs i) (cy rs (i + 1))) (X (fbv (cy rs i) (cy rs (i + 1))) (cy rs (i + 1))))).length<=90001:=by
   have:=Zid hW hX
   unfold seg at this;rw[List.length_cons] at this;lia
  simp![r3,Zw];refine ⟨by lia,⟨_,_,rfl⟩,(K3.trans Kp.app).set (Nat.le_refl _),?_⟩
  rw[List.getElem?_set_self (by simp;lia),show i + 1 + 1=i + 2 from rfl,c1,ZcN,<- c2,hsg]
  simp[seg]
 ·rintro ρ M2 ⟨⟨x2,x3,rfl⟩,K2,r2⟩
  simp![Zn];rw[Zw,List.take_of_length_le (by lia)] at r2
  exact q _ K2 r2
end
end CL
end
section
namespace TW
open DL
noncomputable def nx (b:Int)(p q:Pt):Pt:=(0 - b * q.1 - p.1,0 - b * q.2 - p.2)
noncomputable def ng (p:Pt):Pt:=(0 - p.1,0 - p.2)
def run (p q:Pt):List Int->Pt × Pt
 | []=>(p,q)
 |b :: bs=>run q (nx b p q) bs
def ew (p q:Pt):Nat:=in1 (1,0) p q + in1 (-1,0) p q
noncomputable def st (a:Pt):Int:=if 0 < a.2\/(a.2=0/\a.1 < 0) then 1 else 0
end TW
end
section
namespace TW
open DL
section
variable {rs:List Pt}
def Zvd (rs:List Pt):Int->Nat->List Int
 |_,0=>[]
 |i,k + 1=>T rs (i + 1) :: Zvd rs (i + 1) k
def sf (f:Pt->Pt->Nat)(rs:List Pt):Int->Nat->Nat
 |_,0=>0
 |i,k + 1=>f (cy rs i) (cy rs (i + 1)) + sf f rs (i + 1) k
theorem Zsu {f:Pt->Pt->Nat}(hn:rs≠[]): ∀ (k i:Nat),i + k=rs.length->cc f ((rs ++ rs.take 1).drop i)=sf f rs i k:=by
 have l0:0 < rs.length:=List.length_pos_iff.mpr hn
 have ga: ∀ i:Nat,i<=rs.length->(rs ++ rs.take 1)[i]?=some (cy rs i):=by
  intro i hi
  by_cases c:i < rs.length
  ·rw[List.getElem?_append_left c,ZaI (by lia),ZaT (by lia),List.getElem?_eq_getElem c]
   simp
  ·have:i=rs.length:=by lia
   subst this;rw[List.getElem?_append_right (Nat.le_refl _),Nat.sub_self,<- ZcB,Int.sub_self,ZaI (by lia),ZaT (by lia)]
   rw[List.getElem?_take_of_lt (by decide),List.getElem?_eq_getElem (by lia)]
   simp
 have lch:(rs ++ rs.take 1).length=rs.length + 1:=by simp;lia
 have dr: ∀ i:Nat,i<=rs.length->(rs ++ rs.take 1).drop i=cy rs i :: (rs ++ rs.take 1).drop (i + 1):=by
  intro i hi;rw[List.drop_eq_getElem_cons (by lia)]
  have:=ga i hi
  rw[List.getElem?_eq_getElem (by lia)] at this
  rw[Option.some.inj this]
 intro k
 induction k with
 |zero=>
  intro i hi;rw[dr i (by lia),List.drop_eq_nil_of_le (by lia)]
  rfl
 |succ k ih=>
  intro i hi
  have:=ih (i + 1) (by lia)
  rw[dr i (by lia)]
  rw[dr (i + 1) (by lia)] at this ⊢
  rw[cc,this,sf];rfl
theorem ZfA {f:Pt->Pt->Nat}(hn:rs≠[]):cyc f rs=sf f rs 0 rs.length:=by
 have:=Zsu (f:=f) hn rs.length 0 (by lia)
 exact this
end
end TW
end
section
end
section
namespace CT
open L2 DL
end CT
end
section
namespace CT
open L2 DL
open CV TW
def rl0 (p q:Pt):List Int->List Pt
 | []=>[]
 |b :: bs=>p :: rl0 q (nx b p q) bs
def rl (p q:Pt)(bs:List Int):List Pt:=rl0 p q bs ++ [(run p q bs).1,(run p q bs).2]
noncomputable def Sm (L:List Int):Prop:= ∀ b∈L,-(1152921504606846976)<=b/\b<=1152921504606846976
section
variable {Q:W0}{E:W2}{M:Sto}{n m:Nat}{L:List Int}
noncomputable def ZpD (L:List Int):Prop:= ∀ b∈L,-1000000<=b/\b<=1000000
theorem ZpD.sm (h:ZpD L):Sm L:=fun b hb=>by have:=h b hb;lia
def Cl (L:List Int):Prop:=run (1,0) (0,1) L=((1,0),(0,1))
instance (L:List Int):Decidable (Cl L):=by unfold Cl;infer_instance
end
end CT
end
section
namespace CT
open L2 DL
open CV
open TW (nx)
section
variable {Q:W0}{E:W2}{M:Sto}{n m:Nat}{L:List Int}
end
end CT
end
section
namespace DL
open CB (mid Wg Wgs Bd)
section
variable {rs:List Pt}{k:Nat}
theorem ZjJ {f:Pt->Pt->Nat}(hl:rs≠[])(h:cyc f rs=0)(i:Int):f (cy rs i) (cy rs (i + 1))=0:=by
 have l0:rs.length≠0:=fun z=>hl (List.length_eq_zero_iff.mp z)
 refine ZcF (P:=fun a b=>f a b=0) l0 ?_ i
 intro i h0 h1;rw[TW.ZfA hl] at h
 have: ∀ (k:Nat) (j:Int),TW.sf f rs j k=0-> ∀ m:Nat,m < k->f (cy rs (j + m)) (cy rs (j + m + 1))=0:=by
  intro k
  induction k with
  |zero=>intro j _ m hm;lia
  |succ k ih=>
   intro j h m hm;rw[TW.sf] at h;cases m with
   |zero=>
    rw[show j + ((0:Nat):Int)=j by lia]
    lia
   |succ m=>
    have:=ih (j + 1) (by lia) m (by lia)
    rw[show j + ((m + 1:Nat):Int)=j + 1 + m by lia]
    exact this
 have:=this rs.length 0 h i.toNat (by lia)
 rw[show (0:Int) + (i.toNat:Nat)=i by lia] at this
 exact this
theorem ZeZ {f:Pt->Pt->Nat}(hl:rs≠[])(h: ∀ i:Int,f (cy rs i) (cy rs (i + 1))=0):cyc f rs=0:=by
 rw[TW.ZfA hl]
 have: ∀ (k:Nat) (j:Int),TW.sf f rs j k=0:=by
  intro k
  induction k with
  |zero=>intro j;rfl
  |succ k ih=>intro j;rw[TW.sf,h,ih]
 exact this _ _
theorem Ze0 {f:Pt->Pt->Nat}(hk:k < rs.length)(h3:3<=rs.length)(hf:f (cy rs (k - 1)) (cy rs (k + 1))=f (cy rs (k - 1)) (cy rs k) + f (cy rs k) (cy rs (k + 1))):cyc f (del rs k)=cyc f rs:=by
 obtain ⟨L,p,R,e,hl⟩: ∃ L a R,rs=L ++ a :: R/\L.length=k:=⟨rs.take k,rs[k],rs.drop (k + 1),by rw[List.getElem_cons_drop,List.take_append_drop],by simp;lia⟩
 have ed:DL.del rs k=L ++ R:=by
  unfold DL.del;rw[e,<- hl,List.take_append,List.drop_append,List.take_of_length_le (by lia),List.drop_eq_nil_of_le (by lia)]
  simp
 have lr:(R ++ L).length=rs.length - 1:=by rw[e];simp;lia
 obtain ⟨b,Y,a,hY⟩: ∃ b Y a,R ++ L=b :: (Y ++ [a]):=by
  match hRL:R ++ L,lr with
  | [],lr=>simp at lr;lia
  |b :: r,lr=>
   have:r≠[]:=by intro z;rw[z] at lr;simp at lr;lia
   exact ⟨b,r.dropLast,r.getLast this,by rw[List.dropLast_concat_getLast]⟩
 have er:rs.drop k ++ rs.take k=p :: (R ++ L):=by
  rw[e,<- hl,List.take_append,List.drop_append,List.take_of_length_le (by lia),List.drop_eq_nil_of_le (by lia)]
  simp
 have c0:cy rs k=p:=by rw[e,<- hl];exact Zh1
 have cb:cy rs (k + 1)=b:=by
  have:=Zaj (rs:=rs) (k:=k) (i:=1) (by lia)
  rw[er,hY] at this;rw[show (k:Int) + 1=1 + k by lia,<- this]
  exact Zl7 (L:=[]) (a:=p) (b:=b)
 have ca:cy rs (k - 1)=a:=by
  have:=Zaj (rs:=rs) (k:=k) (i:= -1) (by lia)
  rw[er,hY] at this;rw[show (k:Int) - 1= -1 + k by lia,<- this,<- ZcA]
  have:=Zh1 (L:=p :: b :: Y) (a:=a) (R:=[])
  rw[show (-1:Int) + ((p :: b :: (Y ++ [a])).length:Nat)=((p :: b :: Y).length:Nat) by simp;lia]
  simpa using this
 rw[c0,ca,cb] at hf;rw[ed,Zma (p:=p) hY hf,<- e]
def nxp (a b:Pt):Nat:=if 0 < X a b then 0 else 1
theorem ZpE {a b:Pt}(h:nxp a b=0):0 < X a b:=by
 unfold nxp at h
 split at h
 ·assumption
 ·lia
theorem ZcO {a b:Pt}(h:0 < X a b):nxp a b=0:=by unfold nxp;rw[if_pos h]
structure Rn (rs:List Pt):Prop where
 len:3<=rs.length
 ps:cyc nxp rs=0
 gc: ∀ p∈rs,Int.gcd p.1 p.2=1
 fan:Fan rs
theorem Rn.ne (h:Rn rs):rs≠[]:=by
 intro z
 have:=h.len
 rw[z] at this
 simp at this
theorem Rn.pos (h:Rn rs)(i:Int):0 < X (cy rs i) (cy rs (i + 1)):=ZpE (ZjJ h.ne h.ps i)
theorem Zsv {a b:Pt}(h:X a b=1):Int.gcd a.1 a.2=1/\Int.gcd b.1 b.2=1:=by
 unfold X at h
 constructor
 ·have d1:((Int.gcd a.1 a.2:Nat):Int) ∣ a.1 * b.2 - a.2 * b.1:=Int.dvd_sub (Int.dvd_mul_of_dvd_left (Int.gcd_dvd_left _ _)) (Int.dvd_mul_of_dvd_left (Int.gcd_dvd_right _ _))
  rw[h] at d1;exact Nat.eq_one_of_dvd_one (Int.natCast_dvd_natCast.mp d1)
 ·have d1:((Int.gcd b.1 b.2:Nat):Int) ∣ a.1 * b.2 - a.2 * b.1:=Int.dvd_sub (Int.dvd_mul_of_dvd_right (Int.gcd_dvd_right _ _)) (Int.dvd_mul_of_dvd_right (Int.gcd_dvd_left _ _))
  rw[h] at d1;exact Nat.eq_one_of_dvd_one (Int.natCast_dvd_natCast.mp d1)
theorem Zkz {p:Pt}(h:p∈rs): ∃ i:Int,p=cy rs i:=by
 obtain ⟨L,R,rfl⟩:=List.append_of_mem h
 exact ⟨L.length,Zh1.symm⟩
theorem Smo.rn (h:Smo rs):Rn rs:=by
 refine ⟨h.len,ZeZ h.ne fun i=>ZcO (by rw[h.one i];decide),fun p hp=> ?_,h.fan⟩
 obtain ⟨i,rfl⟩:=Zkz hp
 exact (Zsv (h.one i)).1
theorem Rn.ins {w:Pt}(h:Rn rs)(hk:k < rs.length)(gw:Int.gcd w.1 w.2=1)(h1:0 < X (cy rs k) w)(h2:0 < X w (cy rs (k + 1))):Rn (ins rs k w):=by
 have hp:=h.pos k
 refine ⟨by rw[ZcE hk];have:=h.len;lia,?_,?_,?_⟩
 ·rw[ZcH hk (by rw[ZcO hp,ZcO h1,ZcO h2])]
  exact h.ps
 ·intro p hp
  rcases List.mem_append.mp hp with hp | hp
  ·exact h.gc p (List.mem_of_mem_take hp)
  ·rcases List.mem_cons.mp hp with hp | hp
   ·subst hp;exact gw
   ·exact h.gc p (List.mem_of_mem_drop hp)
 ·intro v hv
  rw[ZcH hk (mid h1 h2 hp).1,ZcH hk (mid h1 h2 hp).2];exact h.fan v hv
theorem Rn.del (h:Rn rs)(hk:k < rs.length)(h4:4<=rs.length)(hx:0 < X (cy rs (k - 1)) (cy rs (k + 1))):Rn (DL.del rs k):=by
 have p1:=h.pos (k - 1)
 rw[show (k:Int) - 1 + 1=k by lia] at p1
 have p2:=h.pos k
 refine ⟨by rw[ZbV hk];lia,?_,?_,?_⟩
 ·rw[Ze0 hk (by lia) (by rw[ZcO hx,ZcO p1,ZcO p2])]
  exact h.ps
 ·intro p hp
  unfold DL.del at hp
  rcases List.mem_append.mp hp with hp | hp
  ·exact h.gc p (List.mem_of_mem_take hp)
  ·exact h.gc p (List.mem_of_mem_drop hp)
 ·intro v hv
  rw[Ze0 hk (by lia) (mid p1 p2 hx).1,Ze0 hk (by lia) (mid p1 p2 hx).2]
  exact h.fan v hv
theorem Rn.wgs (h:Rn rs)(hb:Nr 200 rs):Wgs (rs ++ rs.take 1):=by
 have key: ∀ (L:List Pt),(∀ A a b R,L=A ++ a :: b :: R->0 < X a b)->(∀ p∈L,Int.gcd p.1 p.2=1/\Bd 1000 p)->Wgs L:=by
  intro L
  induction L with
  |nil=>intro _ _;exact trivial
  |cons a L ih=>
   intro hp hg;cases L with
   |nil=>exact trivial
   |cons b L=>
    refine ⟨⟨(hg a (by simp)).1,(hg b (by simp)).1,(hg a (by simp)).2,(hg b (by simp)).2,hp [] a b L rfl⟩,ih (fun A x y R e=>hp (a :: A) x y R (by rw[e];rfl)) fun p hp'=>hg p (by simp at hp' ⊢;simp[hp'])⟩
 refine key _ ?_ ?_
 ·intro A a b R e
  have hz:=h.ps
  unfold cyc at hz;rw[e] at hz
  have:=Zpt (f:=nxp) (L:=A) (a:=a) (b:=b) (R:=R)
  exact ZpE (by lia)
 ·intro p hp
  have hp':p∈rs:=by
   rcases List.mem_append.mp hp with hp | hp
   ·exact hp
   ·exact List.mem_of_mem_take hp
  have:=hb p hp'
  exact ⟨h.gc p hp',by unfold Bd;lia⟩
theorem Rn.least (h:Rn rs)(hb:Nr 200 rs):Smo (CB.lrd rs):=by
 obtain ⟨a,r,rfl⟩:=List.exists_cons_of_ne_nil h.ne
 exact CB.Zmh (by have:=h.len;simp at this;lia) (by have:=h.wgs hb;simpa using this) h.fan
end
end DL
end
section
end
section
namespace DL
open TW
open CT (rl0 Cl)
section
variable {rs us:List Pt}
theorem ZpF {f:Pt->Pt->Nat}: ∀ (k:Nat) (j:Int) (m:Nat),m < k->f (cy rs (j + m)) (cy rs (j + m + 1))<=sf f rs j k
 |0,_,_,h=>absurd h (Nat.not_lt_zero _)
 |k + 1,j,0,_=>by rw[sf];simp
 |k + 1,j,m + 1,h=>by
  have:=ZpF (f:=f) k (j + 1) m (by lia)
  rw[sf,show j + ((m + 1:Nat):Int)=j + 1 + m by lia]
  lia
theorem ZfB {f:Pt->Pt->Nat}: ∀ (k:Nat) (j:Int) (m l:Nat),m < l->l < k->f (cy rs (j + m)) (cy rs (j + m + 1)) + f (cy rs (j + l)) (cy rs (j + l + 1))<=sf f rs j k
 |0,_,_,_,_,h=>absurd h (Nat.not_lt_zero _)
 |k + 1,j,0,l + 1,_,h=>by
  have:=ZpF (f:=f) (rs:=rs) k (j + 1) l (by lia)
  rw[sf,show j + ((l + 1:Nat):Int)=j + 1 + l by lia]
  simp
  lia
 |k + 1,j,m + 1,l + 1,h1,h=>by
  have:=ZfB (f:=f) k (j + 1) m l (by lia) (by lia)
  rw[sf,show j + ((m + 1:Nat):Int)=j + 1 + m by lia,show j + ((l + 1:Nat):Int)=j + 1 + l by lia]
  lia
theorem Rn.lt_ne (h:Rn rs){i j:Nat}(hij:i < j)(hj:j < rs.length):cy rs i≠cy rs j:=by
 intro e;have p1:=h.pos i
 have p2:=h.pos j
 have w0:cy rs i≠(0,0):=by
  intro z;rw[z] at p1;unfold X at p1
  simp at p1
 have:=(h.fan (cy rs i) w0).1
 rw[ZfA h.ne] at this;have g:=ZfB (f:=in1 (cy rs i)) (rs:=rs) rs.length 0 i j hij hj
 rw[show (0:Int) + i=i by lia,show (0:Int) + j=j by lia] at g
 rw[ZdD (by rw[XX];lia) p1,ZdD (by rw[e,XX];lia) (by rw[e];exact p2)] at g
 lia
theorem Rn.inj (h:Rn rs){i j:Nat}(hi:i < rs.length)(hj:j < rs.length)(e:cy rs i=cy rs j):i=j:=by
 rcases Nat.lt_trichotomy i j with c | c | c
 ·exact absurd e (h.lt_ne c hj)
 ·exact c
 ·exact absurd e.symm (h.lt_ne c hi)
theorem Zie (h:rs≠[])(i:Int): ∃ k:Nat,k < rs.length/\ ∀ d:Int,cy rs (i + d)=cy rs (k + d):=by
 have l0:rs.length≠0:=fun z=>h (List.length_eq_zero_iff.mp z)
 obtain ⟨a,b⟩:=Z0 (i:=i) l0
 refine ⟨(i % rs.length).toNat,a,fun d=> ?_⟩
 rw[show (((i % rs.length).toNat:Nat):Int)=i % rs.length by lia]
 unfold cy
 congr 2
 rw[Int.add_emod,Int.add_emod (i % rs.length) d,Int.emod_emod_of_dvd _ (Int.dvd_refl _)]
theorem Zat:(List.range us.length).map (fun (j:Nat)=>cy us j)=us:=by
 apply List.ext_getElem
 ·simp
 ·intro i h1 h2
  simp[Zbj h2]
noncomputable abbrev sw (p:Pt):Pt:=(p.2,p.1)
theorem ZtJ {p q:Pt}:X (sw p) (sw q)= -1 * X p q:=by unfold X sw;simp only;grind
theorem Zmj (h:Smo rs)(i:Int):cy (rs.drop 1 ++ rs.take 1).reverse i=cy rs (0 - i):=by
 have h3:=h.len
 rw[CA.Zfy (fun z=>by have:=congrArg List.length z;simp at this;lia),Zaj (by lia)]
 congr 1
 simp only[Int.natCast_one,show ((1:Nat):Int)=1 from rfl];lia
end
end DL
end
section
namespace CB
open DL
section
variable {u v w:Pt}
def kl:List Pt->List Int
 |a :: b :: d :: r=>X a d :: kl (b :: d :: r)
 |_=>[]
theorem Xvv (p:Pt):X p p=0:=by unfold X;grind
theorem Zsw: ∀ (r:List Pt) (a b:Pt) (v:Pt),Ch (a :: b :: r)->Cv (a :: b :: r)->(b :: r).getLast (by simp)=v->0<=X b v/\X b v < X a v
 | [],a,b,v,h,_,e=>by
  have:b=v:=e
  subst this;rw[Xvv,h.1];lia
 |c :: r,a,b,v,h,k,e=>by
  have ih:=Zsw r b c v h.2 k.2 (by rw[<- e];simp[List.getLast_cons])
  obtain ⟨m,m2,e1,e2⟩:=k.1
  have ex:X a v + X c v=m * X b v:=by unfold X;grind
  have:2 * X b v<=m * X b v:=Int.mul_le_mul_of_nonneg_right m2 (by lia)
  lia
theorem Zmk {t b k c:Int}(hb:0 < b)(h0:0<=c)(h1:c < b)(e:t + c=k * b): -((-t) / b)=k:=by
 have: -t=c + b * (-k):=by grind
 rw[this,Int.add_mul_ediv_left _ _ (by lia),Int.ediv_eq_zero_of_lt h0 h1]
 lia
theorem only: ∀ (ws:List Pt) (u v w:Pt),Ch (u :: (ws ++ [v]))->Cv (u :: (ws ++ [v]))->Fb u v w->ws=btw u w (hj (X u v) (X w v))/\kl (u :: (ws ++ [v]))=hj (X u v) (X w v)
 | [],u,v,w,h,k,f=>by
  have h1:X u v=1:=h.1
  have l:=f.lo
  have l2:=f.hi
  have w0:X w v=0:=by lia
  rw[w0];unfold hj;rw[dif_neg (by decide)]
  exact ⟨rfl,rfl⟩
 |x :: ws,u,v,w,h,k,f=>by
  have hl:(x :: (ws ++ [v])).getLast (by simp)=v:=by simp[List.getLast_cons]
  have d:=Zsw (ws ++ [v]) u x v h k hl
  have fx:Fb u v x:=⟨h.1,d.1,d.2⟩
  have ew:=fx.uniq f
  subst ew;obtain ⟨y,R,eR⟩: ∃ y R,ws ++ [v]=y :: R:=by
   cases ws with
   |nil=>exact ⟨v,[],rfl⟩
   |cons y R=>exact ⟨y,R ++ [v],rfl⟩
  have h':Ch (x :: y :: R):=by rw[<- eR];exact h.2
  have kk:Cv (u :: x :: y :: R):=by rw[<- eR];exact k
  have hl2:(y :: R).getLast (by simp)=v:=by
   have:(ws ++ [v]).getLast (by simp)=v:=by simp
   simpa [eR] using this
  have d2:=Zsw R x y v h' kk.2 hl2
  obtain ⟨m,m2,e1,e2⟩:=kk.1
  have ex:X u v + X y v=m * X x v:=by unfold X;grind
  have hc:=Zmk (by lia) d2.1 d2.2 ex
  have ey:(m * x.1 - u.1,m * x.2 - u.2)=y:=by apply Prod.ext<;>simp only<;>lia
  have m3:X u y=m:=by
   have:=h.1
   rw[<- ey];unfold X at *
   simp only
   grind
  have fy:Fb x v y:=⟨h'.1,d2.1,d2.2⟩
  have ih:=only ws x v y (by rw[eR];exact h') (by rw[eR];exact kk.2) fy
  have ej:hj (X u v) (X x v)=m :: hj (X x v) (X y v):=by
   rw[hj,dif_pos (by lia),hc]
   congr 2
   lia
  rw[ej]
  constructor
  ·rw[btw,ey,<- ih.1]
  ·show kl (u :: x :: (ws ++ [v]))=_
   rw[eR,kl,m3,<- eR,ih.2]
theorem Zif: ∀ (L:List Pt) (a b d:Pt),kl (L ++ [a,b,d])=kl (L ++ [a,b]) ++ [X a d]
 | [],a,b,d=>rfl
 | [x],a,b,d=>rfl
 | [x,y],a,b,d=>rfl
 |x :: y :: z :: L,a,b,d=>by
  show X x z :: kl (y :: z :: L ++ [a,b,d])=X x z :: kl (y :: z :: L ++ [a,b]) ++ [X a d]
  rw[Zif (y :: z :: L) a b d];rfl
theorem ZkA {g:Pt->Pt}(hg: ∀ p q,X (g p) (g q)= -1 * X p q): ∀ L:List Pt,kl (L.map g).reverse=(kl L).reverse
 | []=>rfl
 | [_]=>rfl
 | [_,_]=>rfl
 |a :: b :: d :: r=>by
  have ih:=ZkA hg (b :: d :: r)
  have e:((a :: b :: d :: r).map g).reverse=(r.map g).reverse ++ [g d,g b,g a]:=by simp
  have e2:((b :: d :: r).map g).reverse=(r.map g).reverse ++ [g d,g b]:=by simp
  rw[e,Zif,<- e2,ih,kl,List.reverse_cons,hg,ZcG]
  congr 2
  lia
theorem ZpG: ∀ (l:List Pt),(∀ L a b R,l=L ++ a :: b :: R->X a b=1)->Ch l
 | [],_=>trivial
 | [_],_=>trivial
 |a :: b :: r,h=>⟨h [] a b r rfl,ZpG (b :: r) fun L x y R e=>h (a :: L) x y R (by rw[e];rfl)⟩
theorem Zml: ∀ (L:List Pt) {a b:Pt} {R:List Pt},Ch (L ++ a :: b :: R)->X a b=1
 | [],_,_,_,h=>h.1
 | [x],_,_,_,h=>Zml [] h.2
 |x :: y :: L,_,_,_,h=>Zml (y :: L) h.2
theorem ZpH {g:Pt->Pt}(hg: ∀ p q,X (g p) (g q)= -1 * X p q){L:List Pt}(h:Ch L):Ch (L.map g).reverse:=by
 refine ZpG _ fun A a b R e=> ?_
 have e':=congrArg List.reverse e
 rw[List.reverse_reverse] at e';have e2:(A ++ a :: b :: R).reverse=R.reverse ++ b :: a :: A.reverse:=by simp
 rw[e2] at e';obtain ⟨L1,L2,rfl,m1,m2⟩:=List.map_eq_append_iff.mp e'
 obtain ⟨x,L3,rfl,m3,m4⟩:=List.map_eq_cons_iff.mp m2
 obtain ⟨y,L4,rfl,m5,m6⟩:=List.map_eq_cons_iff.mp m4
 have:=Zml L1 h
 rw[<- m3,<- m5,hg,ZcG];lia
theorem ZkB {g:Pt->Pt}(ga: ∀ p q r:Pt,∀ k:Int,p.1 + q.1=k * r.1->p.2 + q.2=k * r.2->(g p).1 + (g q).1=k * (g r).1/\(g p).2 + (g q).2=k * (g r).2): ∀ L:List Pt,Cv L->Cv (L.map g)
 | [],_=>trivial
 | [_],_=>trivial
 | [_,_],_=>trivial
 |a :: b :: d :: r,h=>by
  obtain ⟨k,k2,e1,e2⟩:=h.1
  exact ⟨⟨k,k2,(ga a d b k e1 e2).1,(ga a d b k e1 e2).2⟩,ZkB ga (b :: d :: r) h.2⟩
end
end CB
end
section
namespace CD
open L2 DL
open CB (F_law_take)
open CC (F_ask_smooth)
end CD
end
section
namespace CD
open L2 DL
open CV
open CB (Bd)
open CA (Tn)
open CR (rt)
section
variable {Q:W0}{E:W2}{M:Sto}{n m p:Nat}{rs:List Pt}{a b c d:Int}{ρ:Ro}{k:Nat}{xs:List D}{tg:Tg}{f:Ev}
theorem ZpI {fr:List Nat}(I:Ro->Prop)(F:Nat->D)(hM:M[n]?=some (.lst xs))(hl:xs.length < 10000000)(h0:I (roB k fr ρ))
  (st: ∀ (i:Nat) (h:i < xs.length) (ρ:Ro) (M':Sto),Kp M M'->I ρ->wG (tg xs[i] ρ) fun r=>I r/\wO (f r M') (fun y M2=>y=F i/\Kp M' M2) (fun _ _=>False))
  (hq: ∀ M',Kp M M'->M'[M.length]?=some (.lst ((List.range xs.length).map F))->Q (.ref M.length) M'):
  kCo tg (fun _ M=> .ok true M) f k fr ρ Q (.sto n) M:=by
 refine Zko (xs:=xs) (Q:=fun M2=>Q (.ref M.length) M2) (fun i ρ M'=>I ρ/\Kp M M'/\M'[M.length]?=some (.lst ((List.range i).map F))) _ 0 _ _ (by simp) (by rw[ZeN hM];lia) ⟨h0,Kp.app,by simp⟩ (fun i ρ M' hi hI=>by rw[Zee];exact hI.2.1.get hM) ?_ (fun ρ M' hI=>hq M' hI.2.1 hI.2.2)
 rintro i ρ M' hi ⟨hI,K,r⟩
 have s:=st i hi ρ M' K hI
 cases e:tg xs[i] ρ with
 |none=>rw[e] at s;exact s.elim
 |some r'=>
  rw[e] at s;obtain ⟨hr,s⟩:=s
  show Br true _ _
  rw[Zqg];refine Zdz s (fun y M2 ⟨h1,h2⟩=> ?_) (fun _ _ z=>z)
  subst h1;rw[h2.get r];have hl2:=Zu (h2.get r)
  refine ⟨by simp;lia,hr,(K.trans h2).set (Nat.le_refl _),?_⟩
  rw[List.getElem?_set_self hl2,List.range_succ,List.map_append]
  rfl
theorem Zem {L:List Int}(h:L≠[]): ∃ mx,L.max?=some mx/\ ∀ x∈L,x<=mx:=by
 cases e:L.max? with
 |none=>exact absurd (List.max?_eq_none_iff.mp e) h
 |some mx=>exact ⟨mx,rfl,fun x hx=>(List.max?_eq_some_iff.mp e).2 x hx⟩
theorem ZaJ: ∀ {L:List Int},Zbf (nts L)=some L
 | []=>rfl
 |x :: L=>by
  have:=ZaJ (L:=L)
  show (match Zbf (nts L) with | some ns=>some (x :: ns) | none=>none)=_
  rw[this]
noncomputable abbrev tb (a b c d:Int):SO:= .lst [.int a,.int b,.int c,.int d]
theorem ZkC {B mm:Int}(t:Tn B a b c d)(hm: -7<=mm/\mm<=7):Tn (8 * B) (a + mm * c) (b + mm * d) c d/\Tn (8 * B) a b (c + mm * a) (d + mm * b):=by
 obtain ⟨ta,tb',tc,td,te⟩:=t
 have m1:=CA.Zkx (B:=7) hm ta
 have m2:=CA.Zkx (B:=7) hm tb'
 have m3:=CA.Zkx (B:=7) hm tc
 have m4:=CA.Zkx (B:=7) hm td
 have d1:(a + mm * c) * d - (b + mm * d) * c=a * d - b * c:=by grind
 have d2:a * (d + mm * b) - b * (c + mm * a)=a * d - b * c:=by grind
 exact ⟨⟨by lia,by lia,by lia,by lia,by rw[d1];exact te⟩,⟨by lia,by lia,by lia,by lia,by rw[d2];exact te⟩⟩
end
end CD
end
section
namespace CD
open L2 DL
open CV
open CB (Bd)
open CA (Tn)
open CR (rt)
noncomputable def gg (a b c d:Int)(p:Pt):Pt:=(a * p.1 + b * p.2,c * p.1 + d * p.2)
theorem Zgj {a b c d:Int}(u v:Pt):X (gg a b c d u) (gg a b c d v)=(a * d - b * c) * X u v:=by unfold X gg;simp only;grind
noncomputable def sg {α:Type}(neg:Bool)(k:Nat)(L:List α):List α:=(if neg then L.reverse else L).drop k ++ (if neg then L.reverse else L).take k
theorem Zc6 {α:Type}{neg:Bool}{k:Nat}{L:List α}:(sg neg k L).length=L.length:=by
 unfold sg;rw[List.length_append,List.length_drop,List.length_take];cases neg<;>simp<;>lia
section
variable {Q:W0}{E:W2}{M:Sto}{n m p:Nat}{rs:List Pt}{a b c d:Int}{ρ:Ro}{k:Nat}{xs:List D}{tg:Tg}{f:Ev}
end
end CD
end
section
end
section
end
section
end
section
end
section
end
section
end
section
end
section
end
section
end
section
namespace CQ
open L2 DL
open CB (F_law_take F_law_crossed F_law_short)
def ZaC:Sv:=(Z5 (Zk (ZfX List.max?) (Zc (ZaO (iSq (Zg 0)) 1 [] (gNm 0) (fun _ M=> .ok true M) (Zk bMax (Zc (Zk bAbs (Zc (e2 dIx (Zg 0) (eC (.int 0))) aNil)) (Zc (Zk bAbs (Zc (e2 dIx (Zg 0) (eC (.int 1))) aNil)) aNil)))) aNil)))
def F_law_greatest:W3:=fnF ZaC 1 0
def Za8:Sv:=(ZE (ZJ (gNm 3) (e2 dMod (e2 dAdd (Zg 1) (Zg 2)) (Zk bLen (Zc (Zg 0) aNil))))
 (ZE (ZJ (gNm 4) (e2 dIx (Zg 0) (e2 dMod (e2 dAdd (Zg 3) (eC (.int 1))) (Zk bLen (Zc (Zg 0) aNil)))))
 (ZE (ZJ (gNm 5) (Z4 (Zc (e2 dAdd (e2 dIx (e2 dIx (Zg 0) (Zg 3)) (eC (.int 0))) (e2 dIx (Zg 4) (eC (.int 0)))) (Zc (e2 dAdd (e2 dIx (e2 dIx (Zg 0) (Zg 3)) (eC (.int 1))) (e2 dIx (Zg 4) (eC (.int 1)))) aNil))))
 (sIf (tv (e2 dLt (Zk bMax (Zc (Zk bAbs (Zc (e2 dIx (Zg 5) (eC (.int 0))) aNil)) (Zc (Zk bAbs (Zc (e2 dIx (Zg 5) (eC (.int 1))) aNil)) aNil))) (eC (.int 60)))) (Z5 (e2 dAdd (e2 dAdd (eSl (Zg 0) oNo (oSo (e2 dAdd (Zg 3) (eC (.int 1))))) (ZbS (Zc (Zg 5) aNil))) (eSl (Zg 0) (oSo (e2 dAdd (Zg 3) (eC (.int 1)))) oNo))) sNil))))
def Zen:Sv:=(ZE (Zbi (gNm 2) (Zc (Zk bLen (Zc (Zg 0) aNil)) aNil) Za8)
 (Z5 (Zg 0)))
def F_law_put:W3:=fnF Zen 2 4
def ZaX:Sv:=(ZE (ZJ (gNm 3) (ZaO (iSq (Zg 0)) 2 [1,2] (gTp (gCs (gNm 0) (gCs (gNm 1) gNl))) (fun _ M=> .ok true M) (e2 dIx (ZbS (Zc (Z4 (Zc (e2 dAdd (Zg 0) (e2 dMul (Zg 2) (Zg 1))) (Zc (Zg 1) aNil))) (Zc (Z4 (Zc (Zg 0) (Zc (e2 dAdd (Zg 1) (e2 dMul (Zg 2) (Zg 0))) aNil))) aNil))) (Zg 3))))
 (ZE (sIf (tv (e2 dGt (Zk F_law_greatest (Zc (Zg 3) aNil)) (eC (.int 200)))) (Z5 (Zg 0)) sNil)
 (Z5 (Zg 3))))
def F_law_sheared:W3:=fnF ZaX 3 1
def Zau:Sv:=(ZJ (gNm 3) (Zk F_law_put (Zc (Zg 3) (Zc (Zk F_law_take (Zc (Zg 0) (Zc (Zk bLen (Zc (Zg 3) aNil)) aNil))) aNil))))
def Zav:Sv:=(ZE (ZJ (gNm 7) (e2 dSub (Zk F_law_take (Zc (Zg 0) (Zc (Zg 6) aNil))) (e2 dDiv (Zg 6) (eC (.int 2)))))
 (ZJ (gNm 3) (Zk F_law_sheared (Zc (Zg 3) (Zc (Zg 7) (Zc (Zk F_law_take (Zc (Zg 0) (Zc (eC (.int 2)) aNil))) aNil))))))
def Za9:Sv:=(ZE (ZJ (gNm 2) (Zk F_law_take (Zc (Zg 0) (Zc (eC (.int 7)) aNil))))
 (ZE (ZJ (gNm 3) (e2 dIx (ZbS (Zc (ZbS (Zc (Z4 (Zc (eC (.int 1)) (Zc (eC (.int 0)) aNil))) (Zc (Z4 (Zc (eC (.int 0)) (Zc (eC (.int 1)) aNil))) (Zc (Z4 (Zc (ZdW (eC (.int 1))) (Zc (ZdW (eC (.int 1))) aNil))) aNil)))) (Zc (ZbS (Zc (Z4 (Zc (eC (.int 1)) (Zc (eC (.int 0)) aNil))) (Zc (Z4 (Zc (eC (.int 0)) (Zc (eC (.int 1)) aNil))) (Zc (Z4 (Zc (ZdW (eC (.int 1))) (Zc (e2 dSub (Zg 2) (eC (.int 1))) aNil))) (Zc (Z4 (Zc (eC (.int 0)) (Zc (ZdW (eC (.int 1))) aNil))) aNil))))) aNil))) (Zk bInt (Zc (e2 dGt (Zg 2) (eC (.int 0))) aNil))))
 (ZE (ZJ (gNm 4) (e2 dIx (ZbS (Zc (e2 dAdd (eC (.int 3)) (Zk F_law_take (Zc (Zg 0) (Zc (e2 dSub (Zg 1) (eC (.int 2))) aNil)))) (Zc (Zg 1) aNil))) (Zk bInt (Zc (e2 dEq (Zk F_law_take (Zc (Zg 0) (Zc (eC (.int 6)) aNil))) (eC (.int 3))) aNil))))
 (ZE (Zbi (gNm 5) (Zc (e2 dSub (Zg 4) (Zk bLen (Zc (Zg 3) aNil))) aNil) Zau)
 (ZE (ZJ (gNm 6) (e2 dIx (ZbS (Zc (eC (.int 3)) (Zc (eC (.int 41)) aNil))) (Zk bInt (Zc (e2 dEq (Zk F_law_take (Zc (Zg 0) (Zc (eC (.int 8)) aNil))) (eC (.int 5))) aNil))))
 (ZE (Zbi (gNm 5) (Zc (Zk F_law_take (Zc (Zg 0) (Zc (eC (.int 4)) aNil))) aNil) Zav)
 (ZE (sIf (tv (e2 dEq (Zk F_law_take (Zc (Zg 0) (Zc (eC (.int 4)) aNil))) (eC (.int 0)))) (ZJ (gNm 3) (ZaO (iRv (Zc (Zg 3) aNil)) 2 [] (gTp (gCs (gNm 0) (gCs (gNm 1) gNl))) (fun _ M=> .ok true M) (Z4 (Zc (Zg 1) (Zc (Zg 0) aNil))))) sNil)
 (ZE (ZJ (gNm 8) (Zk F_law_take (Zc (Zg 0) (Zc (Zk bLen (Zc (Zg 3) aNil)) aNil))))
 (Z5 (e2 dAdd (eSl (Zg 3) (oSo (Zg 8)) oNo) (eSl (Zg 3) oNo (oSo (Zg 8)))))))))))))
def F_law_smooth:W3:=fnF Za9 2 7
def ZaD:Sv:=(ZE (ZJ (gNm 10) (Zgm mIdx (Zg 2) (Zc (Zg 9) aNil)))
 (ZE (ZJ (gNm 11) (e2 dAdd (eSl (Zg 2) oNo (oSo (Zg 10))) (eSl (Zg 2) (oSo (e2 dAdd (Zg 10) (eC (.int 1)))) oNo)))
 (sIf (ZgW (tv (e2 dGt (Zk bLen (Zc (Zg 11) aNil)) (eC (.int 2)))) (tv (e2 dEq (Zk F_law_take (Zc (Zg 0) (Zc (eC (.int 3)) aNil))) (eC (.int 0))))) (sIf (tv (e2 dGt (Zk F_law_crossed (Zc (e2 dIx (Zg 11) (e2 dSub (Zg 10) (eC (.int 1)))) (Zc (e2 dIx (Zg 11) (e2 dMod (Zg 10) (Zk bLen (Zc (Zg 11) aNil)))) aNil))) (eC (.int 0)))) (ZJ (gNm 2) (Zg 11)) sNil) sNil)))
def Zbt:Sv:=(ZE (ZJ (gNm 2) (Zk F_law_smooth (Zc (Zg 0) (Zc (Zg 1) aNil))))
 (ZE (ZJ (gNm 3) (e2 dIx (ZbS (Zc (eC (.int 5)) (Zc (eC (.int 40)) aNil))) (Zk bInt (Zc (e2 dEq (Zk F_law_take (Zc (Zg 0) (Zc (eC (.int 8)) aNil))) (eC (.int 5))) aNil))))
 (ZE (ZJ (gTp (gCs (gNm 4) (gCs (gNm 5) gNl))) (Z4 (Zc (e2 dAdd (eC (.int 1)) (Zk F_law_take (Zc (Zg 0) (Zc (Zg 3) aNil)))) (Zc (e2 dAdd (eC (.int 1)) (Zk F_law_take (Zc (Zg 0) (Zc (eC (.int 5)) aNil)))) aNil))))
 (ZE (ZJ (gNm 6) (e2 dSub (Zk F_law_take (Zc (Zg 0) (Zc (eC (.int 3)) aNil))) (eC (.int 1))))
 (ZE (ZJ (gNm 7) (e2 dMul (e2 dSub (Zk F_law_take (Zc (Zg 0) (Zc (eC (.int 3)) aNil))) (eC (.int 1))) (Zk bInt (Zc (e2 dGt (e2 dMul (Zg 4) (Zg 5)) (eC (.int 1))) aNil))))
 (ZE (ZJ (gNm 8) (ZaO (iSq (Zg 2)) 2 [4,5,6,7] (gTp (gCs (gNm 0) (gCs (gNm 1) gNl))) (fun _ M=> .ok true M) (Zk F_law_short (Zc (Z4 (Zc (e2 dAdd (e2 dMul (Zg 2) (Zg 0)) (e2 dMul (Zg 4) (Zg 1))) (Zc (e2 dAdd (e2 dMul (Zg 5) (Zg 0)) (e2 dMul (Zg 3) (Zg 1))) aNil))) aNil))))
 (ZE (sIf (tv (e2 dLe (Zk F_law_greatest (Zc (Zg 8) aNil)) (eC (.int 200)))) (ZJ (gNm 2) (Zg 8)) sNil)
 (ZE (Zlm (gNm 9) (Zk bList (Zc (Zg 2) aNil)) ZaD)
 (Z5 (Zg 2))))))))))
def F_law_round:W3:=fnF Zbt 2 10
def ZaE:Sv:=(ZE (ZJ (gNm 3) (e2 dSub (Zk F_law_take (Zc (Zg 0) (Zc (eC (.int 5)) aNil))) (eC (.int 2))))
 (sIf (tv (e2 dEq (Zk F_law_take (Zc (Zg 0) (Zc (eC (.int 2)) aNil))) (eC (.int 0)))) (ZJ (gNm 1) (ZbS (Zc (e2 dAdd (e2 dIx (Zg 1) (eC (.int 0))) (e2 dMul (Zg 3) (e2 dIx (Zg 1) (eC (.int 2))))) (Zc (e2 dAdd (e2 dIx (Zg 1) (eC (.int 1))) (e2 dMul (Zg 3) (e2 dIx (Zg 1) (eC (.int 3))))) (Zc (e2 dIx (Zg 1) (eC (.int 2))) (Zc (e2 dIx (Zg 1) (eC (.int 3))) aNil)))))) (ZJ (gNm 1) (ZbS (Zc (e2 dIx (Zg 1) (eC (.int 0))) (Zc (e2 dIx (Zg 1) (eC (.int 1))) (Zc (e2 dAdd (e2 dIx (Zg 1) (eC (.int 2))) (e2 dMul (Zg 3) (e2 dIx (Zg 1) (eC (.int 0))))) (Zc (e2 dAdd (e2 dIx (Zg 1) (eC (.int 3))) (e2 dMul (Zg 3) (e2 dIx (Zg 1) (eC (.int 1))))) aNil))))))))
def Zbu:Sv:=(ZE (ZJ (gNm 1) (ZbS (Zc (eC (.int 1)) (Zc (eC (.int 0)) (Zc (eC (.int 0)) (Zc (eC (.int 1)) aNil))))))
 (ZE (Zbi (gNm 2) (Zc (Zk F_law_take (Zc (Zg 0) (Zc (eC (.int 4)) aNil))) aNil) ZaE)
 (ZE (sIf (tv (e2 dEq (Zk F_law_take (Zc (Zg 0) (Zc (eC (.int 2)) aNil))) (eC (.int 0)))) (ZJ (gNm 1) (ZbS (Zc (e2 dIx (Zg 1) (eC (.int 2))) (Zc (e2 dIx (Zg 1) (eC (.int 3))) (Zc (e2 dIx (Zg 1) (eC (.int 0))) (Zc (e2 dIx (Zg 1) (eC (.int 1))) aNil)))))) sNil)
 (Z5 (Zg 1)))))
def F_law_table:W3:=fnF Zbu 1 3
def ZbJ:Sv:=(Z5 (Z4 (Zc (e2 dAdd (e2 dMul (e2 dIx (Zg 0) (eC (.int 0))) (e2 dIx (Zg 1) (eC (.int 0)))) (e2 dMul (e2 dIx (Zg 0) (eC (.int 1))) (e2 dIx (Zg 1) (eC (.int 1))))) (Zc (e2 dAdd (e2 dMul (e2 dIx (Zg 0) (eC (.int 2))) (e2 dIx (Zg 1) (eC (.int 0)))) (e2 dMul (e2 dIx (Zg 0) (eC (.int 3))) (e2 dIx (Zg 1) (eC (.int 1))))) aNil))))
def F_law_led:W3:=fnF ZbJ 2 0
def ZbY:Sv:=(ZE (ZJ (gNm 2) (Zk F_law_table (Zc (Zg 0) aNil)))
 (ZE (sIf (tv (e2 dGt (Zk F_law_greatest (Zc (ZaO (iSq (Zg 1)) 1 [2] (gNm 0) (fun _ M=> .ok true M) (Zk F_law_led (Zc (Zg 1) (Zc (Zg 0) aNil)))) aNil)) (eC (.int 200)))) (ZJ (gNm 2) (ZbS (Zc (eC (.int 0)) (Zc (eC (.int 1)) (Zc (eC (.int 1)) (Zc (eC (.int 0)) aNil)))))) sNil)
 (ZE (ZJ (gNm 3) (ZaO (iSq (Zg 1)) 1 [2] (gNm 0) (fun _ M=> .ok true M) (Zk F_law_led (Zc (Zg 1) (Zc (Zg 0) aNil)))))
 (ZE (sIf (tv (e2 dLt (e2 dSub (e2 dMul (e2 dIx (Zg 2) (eC (.int 0))) (e2 dIx (Zg 2) (eC (.int 3)))) (e2 dMul (e2 dIx (Zg 2) (eC (.int 1))) (e2 dIx (Zg 2) (eC (.int 2))))) (eC (.int 0)))) (ZJ (gNm 3) (Zk bLR (Zc (Zg 3) aNil))) sNil)
 (ZE (ZJ (gNm 4) (Zk F_law_take (Zc (Zg 0) (Zc (Zk bLen (Zc (Zg 3) aNil)) aNil))))
 (Z5 (e2 dAdd (eSl (Zg 3) (oSo (Zg 4)) oNo) (eSl (Zg 3) oNo (oSo (Zg 4))))))))))
def F_law_copy:W3:=fnF ZbY 2 3
end CQ
end
section
namespace CQ
open L2 DL
open CV
open CB (Bd)
open CA (Tn)
open CD (gg Zgj sg Zc6 tb ZpI Zem ZaJ)
section
variable {Q:W0}{E:W2}{M:Sto}{n m p:Nat}{rs:List Pt}{a b c d:Int}
theorem Zbc (h:M[n]?=some (.lst (prs rs)))(ne:rs≠[])(hl:rs.length<=1000)(q: ∀ mx M',Kp M M'->(∀ b:Int,mx<=b->Nr b rs)->Q (.int mx) M'):wO (F_law_greatest [.ref n] M) Q E:=by
 have hn:=Zu h
 simp![F_law_greatest,ZaC];refine ZmK (fun ρ=> ∃ x,ρ=[x]) (fun (i:Nat)=>D.int (max (cy rs i).1.natAbs (cy rs i).2.natAbs:Int)) h (by rw[Zw];lia) ⟨_,rfl⟩ ?_ ?_
 ·rintro i hi ρ L ⟨x,rfl⟩
  rw[CC.Zad];simp![Zn];exact ⟨_,rfl⟩
 rw[Zw,ZhS];obtain ⟨mx,hmx,hle⟩:=Zem (L:=(List.range rs.length).map fun (i:Nat)=>(max (cy rs i).1.natAbs (cy rs i).2.natAbs:Int)) (fun z=>by
  have:=congrArg List.length z
  rw[List.length_map,List.length_range] at this;exact ne (List.eq_nil_of_length_eq_zero this))
 simp![ZaJ,hmx];refine q _ _ Kp.app fun b hb x hx=> ?_
 obtain ⟨i,hi,rfl⟩:=List.getElem_of_mem hx
 have:=hle _ (List.mem_map.mpr ⟨i,List.mem_range.mpr hi,rfl⟩)
 simp only[Zbj hi] at this;lia
theorem Zsx {at':Nat}(h:M[n]?=some (.lst (prs rs)))(hs:Smo rs)(hb:Nr 60 rs)(hl:rs.length<=1000)(ha:at' < rs.length)
  (q: ∀ ss m M',Smo ss->Nr 60 ss->ss.length<=rs.length + 1->(m=n\/M.length<=m)->Kp M M'->M'[m]?=some (.lst (prs ss))->Q (.ref m) M'):wO (F_law_put [.ref n,.int at'] M) Q E:=by
 have hn:=Zu h
 have ne:=hs.ne
 have sl:=hs.len
 simp![F_law_put,Zen,h];refine ⟨by lia,?_⟩
 rw[show ((rs.length:Int)).toNat=rs.length by lia]
 refine Zc4 (fun i ρ M'=>M'=M/\ ∃ x2 x3 x4 x5,ρ=[some (.ref n),some (.int at'),x2,x3,x4,x5]) ⟨rfl,_,_,_,_,rfl⟩ ?_ ?_
 ·rintro k ρ M hk ⟨rfl,x2,x3,x4,x5,rfl⟩
  rw[show (0:Int) + (k:Int)=k by lia]
  obtain ⟨j,hj,jl⟩: ∃ j:Nat,((at':Int) + k) % rs.length=j/\j < rs.length:=by
   have:=Z0 (i:=(at':Int) + k) (m:=rs.length) (by lia)
   exact ⟨_,(Int.toNat_of_nonneg this.2).symm,this.1⟩
  have e1:=Z0 (i:=(j:Int) + 1) (m:=rs.length) (by lia)
  have b1:=Nr.cy hb ne j
  have b2:=Nr.cy hb ne (j + 1)
  simp![Za8,h,hj,ZbG,Z8];refine brS (fun z=> ?_) (fun z=> ?_)
  ·have le:((j:Int) + 1).toNat=j + 1:=by lia
   simp![h,le];refine ⟨by rw[List.length_take];lia,by rw[List.length_take,List.length_drop];lia,?_⟩
   refine q (ins rs j ((cy rs j).1 + (cy rs (j + 1)).1,(cy rs j).2 + (cy rs (j + 1)).2)) _ _ (hs.ins jl) (Nr.ins hb (by simp only;lia)) (by rw[ZcE jl];lia) (.inr (by lia)) Kp.app (by rw[Zf5];simp[ins])
  ·simp![Zn]
   exact ⟨_,_,_,_,rfl⟩
 ·rintro ρ M ⟨rfl,x2,x3,x4,x5,rfl⟩
  simp![Zn];exact q rs n M hs hb (by lia) (.inl rfl) Kp.refl h
theorem Zig {k w:Int}(h:M[n]?=some (.lst (prs rs)))(hs:Smo rs)(hb:Nr 200 rs)(hl:rs.length<=1000)(hk: -20<=k/\k<=20)(hw:0<=w/\w < 2)
  (q: ∀ ss m M',Smo ss->Nr 200 ss->ss.length=rs.length->(m=n\/M.length<=m)->Kp M M'->M'[m]?=some (.lst (prs ss))->Q (.ref m) M'):wO (F_law_sheared [.ref n,.int k,.int w] M) Q E:=by
 have hn:=Zu h
 have ne:=hs.ne
 have sl:=hs.len
 obtain ⟨f,hf,fX⟩: ∃ f:Pt->Pt,f=(fun p=>if w=0 then (p.1 + k * p.2,p.2) else (p.1,p.2 + k * p.1))/\ ∀ p q,X (f p) (f q)=X p q:=by
  refine ⟨_,rfl,fun p q=> ?_⟩
  unfold X
  split<;>simp only<;>grind
 simp![F_law_sheared,ZaX];refine ZpI (fun ρ=> ∃ x y,ρ=[x,y,some (.int k),some (.int w)]) (fun (i:Nat)=>pr (f (cy rs i)).1 (f (cy rs i)).2) h (by rw[Zw];lia) ⟨_,_,rfl⟩ ?_ ?_
 ·rintro i hi ρ M' K ⟨x,y,rfl⟩
  rw[Zw] at hi;have b1:=Nr.cy hb ne i
  have hw':w=0\/w=1:=by lia
  rw[CC.Zad]
  rcases hw' with rfl | rfl
  ·simp![Zn]
   rw[hf];exact ⟨⟨_,_,rfl⟩,rfl,Kp.app⟩
  ·simp![Zn]
   rw[hf];exact ⟨⟨_,_,rfl⟩,rfl,Kp.app⟩
 intro M1 K1 r1;have en:((List.range (prs rs).length).map fun (i:Nat)=>pr (f (cy rs i)).1 (f (cy rs i)).2)=prs (rs.map f):=by
  rw[Zw]
  conv=>rhs;rw[<- Zat (us:=rs)]
  unfold prs;rw[List.map_map,List.map_map];rfl
 rw[en] at r1;have l1:=Zu r1
 have s1:Smo (rs.map f):=hs.map fX
 simp![Zn];refine Zbc r1 s1.ne (by rw[List.length_map];exact hl) fun mx M2 K2 hmx=> ?_
 simp![Zn];refine brS (fun z=> ?_) (fun z=> ?_)
 ·simp![Zn]
  exact q rs n M2 hs hb rfl (.inl rfl) (K1.trans K2) ((K1.trans K2).get h)
 ·simp![Zn]
  exact q _ _ M2 s1 (hmx 200 (by lia)) (List.length_map _) (.inr (Nat.le_refl _)) (K1.trans K2) (K2.get r1)
end
end CQ
end
section
namespace CQ
open L2 DL
open CV
open CB (Bd)
open CA (Tn)
open CD (gg Zgj sg Zc6 tb ZpI Zem ZaJ)
section
variable {Q:W0}{E:W2}{M:Sto}{n m p:Nat}{rs:List Pt}{a b c d:Int}
theorem Zsy {M1:Sto}{f:Int}(f0:0<=f)(f1:f < 7): ∃ p ss,atI [D.ref M1.length,D.ref (M1.length + 1)] (if decide (0 < f)=true then 1 else 0)=some (.ref p)/\Smo ss/\Nr 60 ss/\ss.length<=4/\(M1 ++ [SO.lst [D.tup [D.int 1,D.int 0],D.tup [D.int 0,D.int 1],D.tup [D.int (-1),D.int (-1)]],SO.lst [D.tup [D.int 1,D.int 0],D.tup [D.int 0,D.int 1],D.tup [D.int (-1),D.int (f - 1)],D.tup [D.int 0,D.int (-1)]],SO.lst [D.ref M1.length,D.ref (M1.length + 1)]])[p]?=some (.lst (prs ss))/\M1.length<=p:=by
  by_cases z:0 < f
  ·refine ⟨M1.length + 1,[(1,0),(0,1),(-1,f - 1),(0,-1)],by rw[if_pos (decide_eq_true z)];rfl,CC.Zva (f - 1),?_,by simp,by rw[Zf5];rfl,by lia⟩
   intro x hx
   simp at hx
   rcases hx with rfl | rfl | rfl | rfl<;>simp<;>lia
  ·refine ⟨M1.length,[(1,0),(0,1),(-1,-1)],by rw[if_neg (by simpa using z)];rfl,CC.Zsn,?_,by simp,by rw[ZdC];rfl,by lia⟩
   intro x hx
   simp at hx
   rcases hx with rfl | rfl | rfl<;>simp
theorem swp {rs:List Pt}(hs:Smo rs):Smo (rs.map sw).reverse:=by
 refine CA.Zme (by rw[List.length_map];exact hs.len) (fun i=> ?_) (hs.fan.flip fun p q=>ZtJ)
 rw[ZcD hs.ne,ZcD hs.ne,ZtJ,hs.one];rfl
theorem ZpJ {B:Int}{rs:List Pt}(hs:Nr B rs):Nr B (rs.map sw).reverse:=by
 intro x hx;obtain ⟨p,hp,rfl⟩:=List.mem_map.mp (List.mem_reverse.mp hx)
 have:=hs p hp
 unfold sw
 simp only
 lia
theorem ZjK {most:Int}(hm:4<=most/\most<=40)(hb:Bag n M)(q: ∀ ss m M',Smo ss->Nr 200 ss->ss.length<=44->M.length<=m->M'[m]?=some (.lst (prs ss))->Gr n M M'->Q (.ref m) M'):wO (F_law_smooth [.ref n,.int most] M) Q E:=by
 have hn:=hb.lt
 simp![F_law_smooth,Za9];refine CB.ZV hb (by decide) fun f M1 f0 f1 g1=> ?_
 have hn1:=g1.bag.lt
 have B1:=g1.bag
 simp![Zn];obtain ⟨p,ss,hp,s1,s2,s3,s4,s5⟩:=Zsy (M1:=M1) f0 f1
 have B2:=B1.app [SO.lst [D.tup [D.int 1,D.int 0],D.tup [D.int 0,D.int 1],D.tup [D.int (-1),D.int (-1)]],SO.lst [D.tup [D.int 1,D.int 0],D.tup [D.int 0,D.int 1],D.tup [D.int (-1),D.int (f - 1)],D.tup [D.int 0,D.int (-1)]],SO.lst [D.ref M1.length,D.ref (M1.length + 1)]]
 have G2:Gr n M1 (M1 ++ [SO.lst [D.tup [D.int 1,D.int 0],D.tup [D.int 0,D.int 1],D.tup [D.int (-1),D.int (-1)]],SO.lst [D.tup [D.int 1,D.int 0],D.tup [D.int 0,D.int 1],D.tup [D.int (-1),D.int (f - 1)],D.tup [D.int 0,D.int (-1)]],SO.lst [D.ref M1.length,D.ref (M1.length + 1)]]):=Gr.app B1 _
 generalize M1 ++ [SO.lst [D.tup [D.int 1,D.int 0],D.tup [D.int 0,D.int 1],D.tup [D.int (-1),D.int (-1)]],SO.lst [D.tup [D.int 1,D.int 0],D.tup [D.int 0,D.int 1],D.tup [D.int (-1),D.int (f - 1)],D.tup [D.int 0,D.int (-1)]],SO.lst [D.ref M1.length,D.ref (M1.length + 1)]]=M2 at *;have gl1:=g1.len
 simp![hp];refine CB.ZV B2 (by lia) fun t1 M3 t10 t11 g3=> ?_
 simp![Zn];refine CB.ZV (g3.bag.app _) (by decide) fun t2 M4 t20 t21 g4=> ?_
 have k4:=Gr.new g3.bag g4
 have r4:=CA.Gr.up (CA.Gr.up s4 g3 (by lia)) ((Gr.app g3.bag _).trans g4) (by lia)
 have G4:=((g1.trans G2).trans g3).trans ((Gr.app g3.bag _).trans g4)
 obtain ⟨many,hmany,m0⟩: ∃ many:Int,atI [D.int (3 + t1),D.int most] (if decide (t2=3)=true then 1 else 0)=some (.int many)/\(3<=many/\many<=most):=by
  by_cases z:t2=3
  ·exact ⟨most,by rw[if_pos (decide_eq_true z)];rfl,by lia⟩
  ·exact ⟨3 + t1,by rw[if_neg (by simpa using z)];rfl,by lia⟩
 simp![k4,hmany,r4];clear k4 hmany hp;have s1l:=s1.len
 refine ⟨by lia,?_⟩
 obtain ⟨l0,hl0⟩: ∃ l0:Nat,l0=ss.length:=⟨_,rfl⟩
 refine Zc4 (fun i ρ M'=> ∃ ss p x5 x6 x7 x8,ρ=[some (.ref n),some (.int most),some (.int f),some (.ref p),some (.int many),x5,x6,x7,x8]/\Smo ss/\Nr 60 ss/\ss.length<=l0 + i/\M.length<=p/\M'[p]?=some (.lst (prs ss))/\Gr n M M') ⟨ss,p,_,_,_,_,rfl,s1,s2,by lia,by lia,r4,G4⟩ ?_ ?_
 ·rintro i ρ M5 hi ⟨ss,p,x5,x6,x7,x8,rfl,s1,s2,s3,s4,s5,G⟩
  have sl:=s1.len
  have bl:ss.length<=1000:=by lia
  clear hi hl0 m0 s1l t10 t11 t20 t21 f0 f1 r4 G4 hm;simp![Zau,s5];refine CB.ZV G.bag (by lia) fun t M6 t0 t1 g6=> ?_
  have s6:=CA.Gr.up s5 g6 (by lia)
  have G6:=G.trans g6
  obtain ⟨at',rfl⟩: ∃ k:Nat,t=k:=⟨t.toNat,by lia⟩
  simp![Zn];refine Zsx s6 s1 s2 bl (by lia) fun ss' m M7 u1 u2 u3 u4 K7 r7=> ?_
  simp![Zn]
  have:=G6.len
  exact ⟨ss',m,_,_,_,_,rfl,u1,u2,by lia,by lia,r7,G6.trans (K7.gr G6.bag)⟩
 ·rintro ρ M5 ⟨ss,p,x5,x6,x7,x8,rfl,s1,s2,s3,s4,s5,G⟩
  have s3':ss.length<=44:=by lia
  clear s3 hl0 s1l m0 r4 G4 G2 B2 g1 B1 t10 t11 t20 t21 f0 f1 hm gl1;simp![Zn];refine CB.ZV (G.bag.app _) (by decide) fun t1 M6 t10 t11 g6=> ?_
  have k6:=Gr.new G.bag g6
  have v6:=CA.Gr.up s5 ((Gr.app G.bag _).trans g6) (by lia)
  have G6:=G.trans ((Gr.app G.bag _).trans g6)
  obtain ⟨wd,hwd,w0⟩: ∃ wd:Int,atI [D.int 3,D.int 41] (if decide (t1=5)=true then 1 else 0)=some (.int wd)/\(wd=3\/wd=41):=by
   by_cases z:t1=5
   ·exact ⟨41,by rw[if_pos (decide_eq_true z)];rfl,.inr rfl⟩
   ·exact ⟨3,by rw[if_neg (by simpa using z)];rfl,.inl rfl⟩
  simp![k6,hwd];refine CB.ZV G6.bag (by decide) fun t2 M7 t20 t21 g7=> ?_
  have v7:=CA.Gr.up v6 g7 (by lia)
  have G7:=G6.trans g7
  simp![Zn];refine ⟨by lia,?_⟩
  refine Zc4 (fun i ρ M'=> ∃ ss p x5 x7 x8,ρ=[some (.ref n),some (.int most),some (.int f),some (.ref p),some (.int many),x5,some (.int wd),x7,x8]/\Smo ss/\Nr 200 ss/\ss.length<=44/\M.length<=p/\M'[p]?=some (.lst (prs ss))/\Gr n M M') ⟨ss,p,_,_,_,rfl,s1,fun x hx=>by have:=s2 x hx;lia,s3',s4,v7,G7⟩ ?_ ?_
  ·clear v7 v6 s5 s1 s2 s3' s4 k6 hwd t20 t21 t10 t11 G7 G6 g7 g6
   rintro i ρ M8 hi ⟨ss,p,x5,x7,x8,rfl,s1,s2,s3,s4,s5,G⟩
   simp![Zav];refine CB.ZV G.bag (by lia) fun t M9 t0 t1 g9=> ?_
   have s9:=CA.Gr.up s5 g9 (by lia)
   have G9:=G.trans g9
   simp![Zn];refine CB.ZV G9.bag (by lia) fun w M10 w0 w1 g10=> ?_
   have s10:=CA.Gr.up s9 g10 (by lia)
   have G10:=G9.trans g10
   have hk: -20<=t - wd / 2/\t - wd / 2<=20:=by lia
   generalize t - wd / 2=kk at *;simp![Zn];refine Zig s10 s1 s2 (by lia) hk (by lia) fun ss' m M11 u1 u2 u3 u4 K11 r11=> ?_
   simp![Zn]
   have:=G10.len
   exact ⟨ss',m,_,_,_,rfl,u1,u2,by lia,by lia,r11,G10.trans (K11.gr G10.bag)⟩
  ·clear v7 v6 s5 s1 s2 s3' s4 k6 hwd t20 t21 t10 t11 G7 G6 g7 g6 w0
   rintro ρ M8 ⟨ss,p,x5,x7,x8,rfl,s1,s2,s3,s4,s5,G⟩
   simp![Zn];refine CB.ZV G.bag (by lia) fun t M9 t0 t1 g9=> ?_
   have s9:=CA.Gr.up s5 g9 (by lia)
   have G9:=G.trans g9
   have h9:=Zu s9
   simp![Zn];refine ZmJ (fun ρ M'=> ∃ ss p,ρ=[some (.ref n),some (.int most),some (.int f),some (.ref p),some (.int many),x5,some (.int wd),x7,x8]/\Smo ss/\Nr 200 ss/\ss.length<=44/\M.length<=p/\M'[p]?=some (.lst (prs ss))/\Gr n M M') ?_ ?_
   ·refine brS (fun z=> ?_) (fun z=> ?_)
    ·simp![s9]
     have rl:(prs ss).reverse.length=ss.length:=by rw[List.length_reverse,Zw]
     refine Zqi (xs:=(prs ss).reverse) (fun ρ=> ∃ x y,ρ=[x,y]) (fun (i:Nat)=>pr (cy (ss.map sw).reverse i).1 (cy (ss.map sw).reverse i).2) (by lia) (by simp[cnt,Zw]) ⟨_,_,rfl⟩ (fun L i hi=> ?_) ?_ ?_
     ·rw[<- Zw]
      exact Zo2 (by rw[Zac h9];exact s9) (by simpa using hi)
     ·rintro i hi ρ L ⟨x,y,rfl⟩
      rw[rl] at hi;have e1:(prs ss).reverse=prs ss.reverse:=by unfold prs;rw[List.map_reverse]
      have e2:(ss.map sw).reverse=ss.reverse.map sw:=by rw[List.map_reverse]
      have e3:cy (ss.reverse.map sw) i=sw (cy ss.reverse i):=ZcD (by have:=s1.ne;simpa using this)
      simp only[e1,e2,e3,CC.Zad];simp![Zn];exact ⟨_,_,rfl⟩
     have en:((List.range (prs ss).reverse.length).map fun (i:Nat)=>pr (cy (ss.map sw).reverse i).1 (cy (ss.map sw).reverse i).2)=prs (ss.map sw).reverse:=by
      rw[rl]
      conv=>rhs;rw[<- Zat (us:=(ss.map sw).reverse)]
      unfold prs;rw[List.map_map,List.length_reverse,List.length_map];rfl
     rw[en];simp![Zn]
     have:=G9.len
     exact ⟨_,_,rfl,swp s1,ZpJ s2,by rw[List.length_reverse,List.length_map];exact s3,by lia,by simp,G9.app2 _⟩
    ·simp![Zn]
     exact ⟨_,_,rfl,s1,s2,s3,s4,s9,G9⟩
   ·clear s9 h9 G9 g9 s5 s4 s3 s2 s1
    rintro _ M10 ⟨ss,p,rfl,s1,s2,s3,s4,s5,G⟩
    have sl:=s1.len
    simp![s5];refine CB.ZV G.bag (by lia) fun t M11 t0 t1 g11=> ?_
    have s11:=CA.Gr.up s5 g11 (by lia)
    have G11:=G.trans g11
    have h11:=Zu s11
    have:=G11.len
    obtain ⟨kk,rfl⟩: ∃ k:Nat,t=k:=⟨t.toNat,by lia⟩
    simp![s11];refine ⟨by rw[List.length_take,List.length_drop];lia,?_⟩
    exact q (ss.drop kk ++ ss.take kk) _ _ (s1.rot (by lia)) (Nr.rot s2) (by rw[List.length_append,List.length_drop,List.length_take];lia) (by lia) (by rw[Zf5];simp) (G11.app2 _)
end
end CQ
end
section
namespace CQ
open L2 DL
open CV
open CB (Bd)
open CA (Tn)
open CD (gg Zgj sg Zc6 tb ZpI Zem ZaJ)
noncomputable def shp (p:Pt):Pt:=if Int.gcd p.1 p.2=0 then (1,0) else (p.1 / Int.gcd p.1 p.2,p.2 / Int.gcd p.1 p.2)
theorem Zih (p:Pt):Int.gcd (shp p).1 (shp p).2=1:=by
 unfold shp
 split
 ·rfl
 ·exact Int.gcd_ediv_gcd_ediv_gcd (by lia)
theorem ZbK {p:Pt}(h:p≠(0,0)): ∃ g:Int,0 < g/\p=(g * (shp p).1,g * (shp p).2):=by
 have ng:Int.gcd p.1 p.2≠0:=fun z=>h (by
  obtain ⟨h1,h2⟩:=Int.gcd_eq_zero_iff.mp z
  exact Prod.ext h1 h2)
 refine ⟨Int.gcd p.1 p.2,by lia,?_⟩
 unfold shp;rw[if_neg ng];exact Prod.ext (Int.mul_ediv_cancel' (Int.gcd_dvd_left ..)).symm (Int.mul_ediv_cancel' (Int.gcd_dvd_right ..)).symm
theorem ZmL {k y:Int}(hk:0 < k):0 < k * y ↔ 0 < y:=by
 refine ⟨fun h=> ?_,fun h=>Int.mul_pos hk h⟩
 by_cases c:0 < y
 ·exact c
 ·have:=Int.mul_nonneg (a:=k) (b:=0 - y) (by lia) (by lia)
  rw[Int.mul_sub,Int.mul_zero] at this;lia
theorem Zii {f g:Pt->Pt->Nat}: ∀ {L:List Pt},(∀ a∈L,∀ b∈L,f a b=g a b)->cc f L=cc g L
 | [],_=>rfl
 | [_],_=>rfl
 |a :: b :: r,h=>by
  have ih:=Zii (L:=b :: r) fun x hx y hy=>h x (List.mem_cons_of_mem _ hx) y (List.mem_cons_of_mem _ hy)
  show f a b + cc f (b :: r)=g a b + cc g (b :: r)
  rw[ih,h a (by simp) b (by simp)]
theorem Zcg {f g:Pt->Pt->Nat}{L:List Pt}(h: ∀ a∈L,∀ b∈L,f a b=g a b):cyc f L=cyc g L:=by
 refine Zii fun a ha b hb=>h a ?_ b ?_
 ·rcases List.mem_append.mp ha with ha | ha
  ·exact ha
  ·exact List.mem_of_mem_take ha
 ·rcases List.mem_append.mp hb with hb | hb
  ·exact hb
  ·exact List.mem_of_mem_take hb
theorem Rn.led {rs:List Pt}{a b c d:Int}(h:Rn rs)(hd:0 < a * d - b * c):Rn (rs.map fun p=>shp (gg a b c d p)):=by
 have nz: ∀ p∈rs,gg a b c d p≠(0,0):=fun p hp z=>by
  obtain ⟨i,rfl⟩:=Zkz hp
  have:=h.pos i
  have e:=Zgj (a:=a) (b:=b) (c:=c) (d:=d) (cy rs i) (cy rs (i + 1))
  rw[z] at e;have e0:X (0,0) (gg a b c d (cy rs (i + 1)))=0:=by unfold X;simp only;grind
  rw[e0] at e
  have:=Int.mul_pos hd this
  lia
 have xs: ∀ p∈rs,∀ q∈rs,∃ k:Int,0 < k/\k * X (shp (gg a b c d p)) (shp (gg a b c d q))=(a * d - b * c) * X p q:=fun p hp q hq=>by
  obtain ⟨k,hk,ek⟩:=ZbK (nz p hp)
  obtain ⟨l,hl,el⟩:=ZbK (nz q hq)
  refine ⟨k * l,Int.mul_pos hk hl,?_⟩
  rw[<- Zgj];generalize shp (gg a b c d p)=u at *;generalize shp (gg a b c d q)=v at *;rw[ek,el];unfold X
  simp only
  grind
 refine ⟨by rw[List.length_map];exact h.len,?_,?_,?_⟩
 ·rw[Za5,Zcg (g:=nxp)]
  ·exact h.ps
  ·intro p hp q hq
   obtain ⟨k,hk,e⟩:=xs p hp q hq
   have:(0 < X (shp (gg a b c d p)) (shp (gg a b c d q)))=(0 < X p q):=by
    rw[<- propext (ZmL hk),e,propext (ZmL hd)]
   unfold nxp;simp only[this]
 ·intro p hp
  obtain ⟨q,-,rfl⟩:=List.mem_map.mp hp
  exact Zih _
 ·intro w hw
  have key: ∀ q∈rs,∃ k:Int,0 < k/\k * X (shp (gg a b c d q)) w=X q (d * w.1 - b * w.2,a * w.2 - c * w.1):=fun q hq=>by
   obtain ⟨k,hk,ek⟩:=ZbK (nz q hq)
   refine ⟨k,hk,?_⟩
   generalize shp (gg a b c d q)=u at *;have e1:=congrArg Prod.fst ek
   have e2:=congrArg Prod.snd ek
   unfold gg at e1 e2
   simp only at e1 e2
   unfold X
   simp only
   grind
  have hw':(d * w.1 - b * w.2,a * w.2 - c * w.1)≠(0,0):=fun z=>hw (by
   have z1:=congrArg Prod.fst z
   have z2:=congrArg Prod.snd z
   simp only at z1 z2
   have f1:(a * d - b * c) * w.1=0:=by grind
   have f2:(a * d - b * c) * w.2=0:=by grind
   have g1:=(Int.mul_eq_zero.mp f1).resolve_left (by lia)
   have g2:=(Int.mul_eq_zero.mp f2).resolve_left (by lia)
   exact Prod.ext g1 g2)
  have hf:=h.fan _ hw'
  generalize (d * w.1 - b * w.2,a * w.2 - c * w.1)=w' at *;have sg: ∀ q∈rs,(0<=X (shp (gg a b c d q)) w)=(0<=X q w')/\(0 < X (shp (gg a b c d q)) w)=(0 < X q w')/\(0<=X w (shp (gg a b c d q)))=(0<=X w' q)/\(0 < X w (shp (gg a b c d q)))=(0 < X w' q):=fun q hq=>by
   obtain ⟨k,hk,e⟩:=key q hq
   have s1:=ZcG (p:=w) (q:=shp (gg a b c d q))
   have s2:=ZcG (p:=w') (q:=q)
   generalize X (shp (gg a b c d q)) w=y at *;generalize X q w'=z at *;rw[s1,s2,<- e];refine ⟨propext ⟨fun h=>Int.mul_nonneg (by lia) h,fun h=>Int.nonneg_of_mul_nonneg_right h hk⟩,(propext (ZmL hk)).symm,propext ⟨fun h=> ?_,fun h=> ?_⟩,propext ⟨fun h=> ?_,fun h=> ?_⟩⟩
   ·have:=Int.mul_nonneg (a:=k) (b:=0 - y) (by lia) h
    rw[Int.mul_sub,Int.mul_zero] at this;exact this
   ·have:0<=k * (0 - y):=by rw[Int.mul_sub,Int.mul_zero];exact h
    exact Int.nonneg_of_mul_nonneg_right this hk
   ·have:=Int.mul_pos (a:=k) (b:=0 - y) hk h
    rw[Int.mul_sub,Int.mul_zero] at this;exact this
   ·have:0 < k * (0 - y):=by rw[Int.mul_sub,Int.mul_zero];exact h
    exact (ZmL hk).mp this
  have h1:cyc (fun p q=>in1 w (shp (gg a b c d p)) (shp (gg a b c d q))) rs=cyc (in1 w') rs:=Zcg fun p hp q hq=>by
   unfold in1;simp only[(sg p hp).1,(sg q hq).2.2.2]
  have h2:cyc (fun p q=>in2 w (shp (gg a b c d p)) (shp (gg a b c d q))) rs=cyc (in2 w') rs:=Zcg fun p hp q hq=>by
   unfold in2;simp only[(sg p hp).2.1,(sg q hq).2.2.1]
  rw[Za5,Za5,h1,h2];exact hf
section
variable {Q:W0}{E:W2}{M:Sto}{n m p:Nat}{rs:List Pt}{a b c d:Int}
theorem ZfC {x y:Int}(hx: -20000<=x/\x<=20000)(hy: -20000<=y/\y<=20000)(q:Q (pr (shp (x,y)).1 (shp (x,y)).2) M):wO (CB.F_law_short [pr x y] M) Q E:=by
 simp![CB.F_law_short,CB.Zbs];refine Zl4 (fun k ρ M'=>M'=M/\ ∃ a b:Nat,ρ=[some (pr x y),some (.int a),some (.int b)]/\k=b/\Nat.gcd a b=Int.gcd x y/\a<=20000/\b<=20000) ?_ y.natAbs _ _ ⟨rfl,x.natAbs,y.natAbs,rfl,rfl,rfl,by lia,by lia⟩
 rintro k ρ M ⟨rfl,a,b,rfl,rfl,g,ha,hk'⟩
 simp![Zn];refine Zsk (fun h=> ?_) (fun h=> ?_)
 ·simp![CB.ZaB]
  have hb:0 < k:=by lia
  have hm:=Nat.mod_lt a hb
  refine ⟨a % k,hm,k,a % k,by rw[Int.natCast_emod],rfl,?_,?_⟩
  ·rw[<- g,Nat.gcd_comm k,<- Nat.gcd_rec,Nat.gcd_comm]
  ·lia
 ·have k0:k=0:=by lia
  subst k0;rw[Nat.gcd_zero_right] at g;subst g;simp![Zn];refine brS (fun hz=> ?_) (fun hz=> ?_)
  ·simp![Zn]
   have e:shp (x,y)=(1,0):=by unfold shp;simp only;rw[if_pos (by lia)]
   rw[e] at q;exact q
  ·simp![Zn]
   have e:shp (x,y)=(x / Int.gcd x y,y / Int.gcd x y):=by unfold shp;simp only;rw[if_neg (by lia)]
   rw[e] at q;exact q
theorem Zij {a:Pt}: ∀ {rs:List Pt},eqs M (pr a.1 a.2) (prs rs)=some (rs.map fun x=>decide (x=a))
 | []=>rfl
 |x :: rs=>by
  have:=Zij (a:=a) (rs:=rs)
  have e:eqF 12 M (pr x.1 x.2) (pr a.1 a.2)=some (decide ((x.1,x.2)=(a.1,a.2))):=Zrv (n:=10)
  show (match eqF 12 M (pr x.1 x.2) (pr a.1 a.2) with | some b=>(match eqs M (pr a.1 a.2) (prs rs) with | some bs=>some (b :: bs) | none=>none) | none=>none)=_
  rw[e,this];rfl
theorem Zmm {a:Pt}(h:a∈rs): ∃ i:Nat,i < rs.length/\cy rs i=a/\(rs.map fun x=>decide (x=a)).findIdx? id=some i:=by
 rw[List.findIdx?_map]
 have e:(id ∘ fun (x:Pt)=>decide (x=a))=fun x=>decide (x=a):=rfl
 rw[e];cases c:rs.findIdx? fun x=>decide (x=a) with
 |none=>
  have:=List.findIdx?_eq_none_iff.mp c a h
  simp at this
 |some i=>
  obtain ⟨hi,h1,-⟩:=List.findIdx?_eq_some_iff_getElem.mp c
  exact ⟨i,hi,by rw[Zbj hi];exact of_decide_eq_true h1,rfl⟩
theorem Zmn {x:Pt}{k:Nat}(hk:k < rs.length)(hx:x∈rs)(hn:x≠cy rs k):x∈del rs k:=by
 obtain ⟨i,hi,rfl⟩:=List.getElem_of_mem hx
 unfold del
 by_cases c:i < k
 ·exact List.mem_append_left _ (List.mem_take_iff_getElem.mpr ⟨i,by lia,rfl⟩)
 ·have:i≠k:=fun z=>hn (by subst z;rw[Zbj hk])
  exact List.mem_append_right _ (List.mem_drop_iff_getElem.mpr ⟨i - (k + 1),by lia,by congr 1;lia⟩)
theorem ZkD {k:Nat}(hk:k < rs.length)(hl:4<=rs.length):cy (del rs k) (k - 1)=cy rs (k - 1)/\cy (del rs k) k=cy rs (k + 1):=by
 constructor
 ·by_cases c:k=0
  ·subst c
   have:=Zl8 hk (by lia)
   rw[if_neg (by lia)] at this
   exact this
  ·rw[Zfx hk (by lia) (by lia),if_pos (by lia)]
 ·by_cases c:k=rs.length - 1
  ·rw[Zl9 hk (by lia) (by lia),if_neg (by lia)]
   congr 1
   lia
  ·rw[Zfx hk (by lia) (by lia),if_neg (by lia)]
theorem Zmo {most:Int}(hm:4<=most/\most<=40)(hb:Bag n M)(q: ∀ ss m M',Rn ss->Nr 200 ss->ss.length<=44->M.length<=m->M'[m]?=some (.lst (prs ss))->Gr n M M'->Q (.ref m) M'):wO (F_law_round [.ref n,.int most] M) Q E:=by
 have hn:=hb.lt
 simp![F_law_round,Zbt];refine ZjK hm hb fun ss p M1 s1 s2 s3 s4 s5 G=> ?_
 have sl:=s1.len
 simp![Zn];refine CB.ZV (G.bag.app _) (by decide) fun t1 M2 t10 t11 g2=> ?_
 have k2:=Gr.new G.bag g2
 have v2:=CA.Gr.up s5 ((Gr.app G.bag _).trans g2) (by lia)
 have G2:=G.trans ((Gr.app G.bag _).trans g2)
 obtain ⟨wd,hwd,w0⟩: ∃ wd:Int,atI [D.int 5,D.int 40] (if decide (t1=5)=true then 1 else 0)=some (.int wd)/\(wd=5\/wd=40):=by
  by_cases z:t1=5
  ·exact ⟨40,by rw[if_pos (decide_eq_true z)];rfl,.inr rfl⟩
  ·exact ⟨5,by rw[if_neg (by simpa using z)];rfl,.inl rfl⟩
 simp![k2,hwd];clear k2 hwd g2;refine CB.ZV G2.bag (by lia) fun a M3 a0 a1 g3=> ?_
 have v3:=CA.Gr.up v2 g3 (by lia)
 have G3:=G2.trans g3
 simp![Zn];refine CB.ZV G3.bag (by lia) fun d M4 d0 d1 g4=> ?_
 have v4:=CA.Gr.up v3 g4 (by lia)
 have G4:=G3.trans g4
 simp![Zn];refine CB.ZV G4.bag (by lia) fun b M5 b0 b1 g5=> ?_
 have v5:=CA.Gr.up v4 g5 (by lia)
 have G5:=G4.trans g5
 simp![Zn];refine CB.ZV G5.bag (by lia) fun c M6 c0 c1 g6=> ?_
 have v6:=CA.Gr.up v5 g6 (by lia)
 have G6:=G5.trans g6
 clear v2 v3 v4 v5 G2 G3 G4 G5 g3 g4 g5 g6;obtain ⟨a',ha⟩: ∃ a',1 + a=a':=⟨_,rfl⟩
 obtain ⟨d',hd⟩: ∃ d',1 + d=d':=⟨_,rfl⟩
 obtain ⟨b',hb'⟩: ∃ b',b - 1=b':=⟨_,rfl⟩
 rw[ha,hd,hb'];simp![Zn];obtain ⟨c',hc,hc1,det⟩: ∃ c',((c - 1) * if decide (1 < a' * d')=true then (1:Int) else 0)=c'/\(-1<=c'/\c'<=1)/\0 < a' * d' - b' * c':=by
  by_cases z:1 < a' * d'
  ·refine ⟨c - 1,by rw[if_pos (decide_eq_true z),Int.mul_one],by lia,?_⟩
   have:b'= -1\/b'=0\/b'=1:=by lia
   rcases this with e | e | e<;>rw[e]<;>lia
  ·refine ⟨0,by rw[if_neg (by simpa using z),Int.mul_zero],by lia,?_⟩
   have:=Int.mul_pos (a:=a') (b:=d') (by lia) (by lia)
   lia
 rw[hc];clear hc;have a2:1<=a'/\a'<=40:=by lia
 have d2:1<=d'/\d'<=5:=by lia
 have b2: -1<=b'/\b'<=1:=by lia
 clear ha hd hb' a0 a1 b0 b1 c0 c1 d0 d1 t10 t11;have ne:=s1.ne
 have h6:=Zu v6
 refine ZmK (fun ρ=> ∃ x y,ρ=[x,y,some (.int a'),some (.int d'),some (.int b'),some (.int c')]) (fun (i:Nat)=>pr (shp (gg a' b' c' d' (cy ss i))).1 (shp (gg a' b' c' d' (cy ss i))).2) v6 (by rw[Zw];lia) ⟨_,_,rfl⟩ ?_ ?_
 ·rintro i hi ρ L ⟨x,y,rfl⟩
  rw[Zw] at hi;rw[CC.Zad];have bb:=Nr.cy s2 ne i
  generalize cy ss i=pt at *;have m1:=CA.Zkx (x:=a') (B:=40) (by lia) bb.1
  have m2:=CA.Zkx (x:=b') (B:=1) (by lia) bb.2
  have m3:=CA.Zkx (x:=c') (B:=1) (by lia) bb.1
  have m4:=CA.Zkx (x:=d') (B:=5) (by lia) bb.2
  simp![Zn];refine ⟨⟨_,_,rfl⟩,ZfC (by lia) (by lia) ⟨rfl,rfl⟩⟩
 have en:((List.range (prs ss).length).map fun (i:Nat)=>pr (shp (gg a' b' c' d' (cy ss i))).1 (shp (gg a' b' c' d' (cy ss i))).2)=prs (ss.map fun p=>shp (gg a' b' c' d' p)):=by
  rw[Zw]
  conv=>rhs;rw[<- Zat (us:=ss)]
  unfold prs;rw[List.map_map,List.map_map];rfl
 rw[en];have rn:=Rn.led s1.rn det
 have ml:(ss.map fun p=>shp (gg a' b' c' d' p)).length=ss.length:=List.length_map _
 generalize (ss.map fun p=>shp (gg a' b' c' d' p))=us at *
 clear en det a2 d2 b2 hc1 w0 hm;have r7:(M6 ++ [SO.lst (prs us)])[M6.length]?=some (.lst (prs us)):=by simp
 have v7:(M6 ++ [SO.lst (prs us)])[p]?=some (.lst (prs ss)):=by rw[Zac h6];exact v6
 have G7:Gr n M (M6 ++ [SO.lst (prs us)]):=G6.app2 _
 generalize M6 ++ [SO.lst (prs us)]=M7 at *;have gl:=G6.len
 simp![Zn];refine Zbc r7 rn.ne (by lia) fun mx M8 K8 hmx=> ?_
 have r8:=K8.get r7
 have v8:=K8.get v7
 have G8:=G7.trans (K8.gr G7.bag)
 simp![Zn];refine ZmJ (fun ρ M'=>M'=M8/\ ∃ ss p x8,ρ=[some (.ref n),some (.int most),some (.ref p),some (.int wd),some (.int a'),some (.int d'),some (.int b'),some (.int c'),x8,none,none,none]/\Rn ss/\Nr 200 ss/\ss.length<=44/\M.length<=p/\M8[p]?=some (.lst (prs ss))) ?_ ?_
 ·refine brS (fun z=> ?_) (fun z=> ?_)
  ·simp![Zn]
   exact ⟨us,_,_,rfl,rn,hmx 200 (by lia),by lia,by lia,r8⟩
  ·simp![Zn]
   exact ⟨ss,_,_,rfl,s1.rn,s2,by lia,by lia,v8⟩
 clear r8 v8 hmx r7 v7 rn ml s1 s2 s3 s4 s5 sl ne v6 h6
 rintro _ M8 ⟨rfl,ss,p,x8,rfl,s1,s2,s3,s4,s5⟩
 have h8:=Zu s5
 simp![s5];have B9:=G8.app2 [SO.lst (prs ss)]
 have v9:(M8 ++ [SO.lst (prs ss)])[p]?=some (.lst (prs ss)):=by rw[Zac h8];exact s5
 have r9:(M8 ++ [SO.lst (prs ss)])[M8.length]?=some (.lst (prs ss)):=by simp
 have gl8:=G8.len
 have nl8:=G8.bag.lt
 generalize M8 ++ [SO.lst (prs ss)]=M9 at *;generalize hol:M8.length=ol at *;refine ZdA (xs:=prs ss) (fun i ρ M'=>M'[ol]?=some (.lst (prs ss))/\ ∃ us p x9 x10 x11,ρ=[some (.ref n),some (.int most),some (.ref p),some (.int wd),some (.int a'),some (.int d'),some (.int b'),some (.int c'),x8,x9,x10,x11]/\Rn us/\Nr 200 us/\us.length<=44/\M.length<=p/\M'[p]?=some (.lst (prs us))/\Gr n M M'/\ ∀ j:Nat,i<=j->j < ss.length->cy ss j∈us) r9 ⟨r9,ss,p,_,_,_,rfl,s1,s2,s3,s4,v9,B9,fun j _ hj=>ZcC s1.ne⟩ (fun i ρ M' hI=>hI.1) ?_ ?_
 ·rintro i ρ M10 hi ⟨v0,us,p,x9,x10,x11,rfl,u1,u2,u3,u4,u5,G,um⟩
  rw[Zw] at hi;rw[CC.Zad];obtain ⟨k,hk,ek,ei⟩:=Zmm (um i (Nat.le_refl _) hi)
  have ul:=u1.len
  have le:((k:Int) + 1).toNat=k + 1:=by lia
  have le2:(k:Int).toNat=k:=by lia
  have hp:=Zu u5
  have gl10:=G.len
  simp![ZaD,u5,Zij,ei,le,le2];refine ⟨by rw[List.length_take,List.length_drop];lia,?_⟩
  have dl:=ZbV hk
  generalize hM11:M10 ++ [SO.lst (prs (us.take k)),SO.lst (prs (us.drop (k + 1))),SO.lst (prs (us.take k ++ us.drop (k + 1)))]=M11;have G11:Gr n M M11:=by rw[<- hM11];exact G.app2 _
  have u11:M11[p]?=some (.lst (prs us)):=by rw[<- hM11,Zac hp];exact u5
  have v11:M11[ol]?=some (.lst (prs ss)):=by rw[<- hM11,Zac (Zu v0)];exact v0
  have r11:M11[M10.length + 2]?=some (.lst (prs (del us k))):=by rw[<- hM11,Zf5];rfl
  have h11:=Zu r11
  clear hM11;simp![r11];refine Zs2 (fun b M'=>M'[ol]?=some (.lst (prs ss))/\M'[p]?=some (.lst (prs us))/\M'[M10.length + 2]?=some (.lst (prs (del us k)))/\Gr n M M'/\(b=true->2 < (del us k).length)) ?_ ?_
  ·refine brO (fun z=> ?_) (fun z=> ?_)
   ·simp![Zn]
    refine CB.ZV G11.bag (by decide) fun t M12 t0 t1 g12=> ?_
    simp![Zn];exact ⟨CA.Gr.up v11 g12 (by lia),CA.Gr.up u11 g12 (by lia),CA.Gr.up r11 g12 (by lia),G11.trans g12,fun _=>by lia⟩
   ·simp![Zn]
    exact ⟨v11,u11,r11,G11,fun u=>by cases u⟩
  clear r11 v11 u11 G11 h11
  rintro b M12 ⟨v11,u11,r11,G11,hb2⟩
  have h12:=Zu r11
  have nx: ∀ j:Nat,i + 1<=j->j < ss.length->cy ss j∈us:=fun j h1 h2=>um j (by lia) h2
  simp![Zn];refine ZrR (fun z=> ?_) (fun z=> ?_)
  ·have l4:=hb2 z
   have nb:=ZkD hk (by lia)
   have e1:=Z0 (i:=(k:Int)) (m:=(del us k).length) (by lia)
   have ne:del us k≠[]:=fun z=>by rw[z] at l4;simp at l4
   have b1:=Nr.cy u2 u1.ne ((k:Int) - 1)
   simp![r11,ZbG,Z8,nb.1,nb.2];rw[CB.Zc5 (.inl ⟨by lia,by lia⟩)]
   simp![Zn];refine brS (fun z=> ?_) (fun z=> ?_)
   ·simp![Zn]
    refine ⟨v11,del us k,_,⟨_,_,_,rfl⟩,u1.del hk (by lia) z,CF.Nr.del u2,by lia,by lia,r11,G11,fun j h1 h2=>Zmn hk (nx j h1 h2) fun z=> ?_⟩
    rw[ek] at z
    have:=s1.inj h2 hi z
    lia
   ·simp![Zn]
    exact ⟨v11,us,p,⟨_,_,_,rfl⟩,u1,u2,u3,u4,u11,G11,nx⟩
  ·simp![Zn]
   exact ⟨v11,us,p,⟨_,_,_,rfl⟩,u1,u2,u3,u4,u11,G11,nx⟩
 ·rintro ρ M10 ⟨v0,us,p,x9,x10,x11,rfl,u1,u2,u3,u4,u5,G,um⟩
  simp![Zn];exact q us p M10 u1 u2 u3 u4 u5 G
end
end CQ
end
section
namespace CQ
open L2 DL
open CV
open CB (Bd)
open CA (Tn)
open CD (gg Zgj sg Zc6 tb ZpI Zem ZaJ ZkC)
section
variable {Q:W0}{E:W2}{M:Sto}{n m p:Nat}{rs:List Pt}{a b c d:Int}
theorem Zmp (hb:Bag n M)(q: ∀ a b c d p M',Tn 512 a b c d->M.length<=p->M'[p]?=some (tb a b c d)->Gr n M M'->Q (.ref p) M'):wO (F_law_table [.ref n] M) Q E:=by
 have hn:=hb.lt
 simp![F_law_table,Zbu];have B1:=hb.app [tb 1 0 0 1]
 have G1:Gr n M (M ++ [tb 1 0 0 1]):=Gr.app hb _
 have r1:(M ++ [tb 1 0 0 1])[M.length]?=some (tb 1 0 0 1):=by simp
 refine CB.ZV B1 (by decide) fun r M1 r0 r1' g1=> ?_
 have G2:=G1.trans g1
 have r2:=CA.Gr.up r1 g1 (by lia)
 simp![Zn];refine ⟨by lia,?_⟩
 refine Zc4 (fun i ρ M'=> ∃ a b c d p x2 x3,ρ=[some (.ref n),some (.ref p),x2,x3]/\Tn (8 ^ i) a b c d/\M.length<=p/\M'[p]?=some (tb a b c d)/\Gr n M M') ⟨1,0,0,1,_,_,_,rfl,⟨by decide,by decide,by decide,by decide,.inl (by decide)⟩,by lia,r2,G2⟩ ?_ ?_
 ·rintro i ρ M2 hi ⟨a,b,c,d,p,x2,x3,rfl,tn,pl,v1,G⟩
  clear hi r2 r1 G1 G2 B1 g1 r0 r1';simp![ZaE];refine CB.ZV G.bag (by decide) fun s M3 s0 s1 g3=> ?_
  simp![Zn];refine CB.ZV g3.bag (by decide) fun t' M6 t0' t1' g6=> ?_
  have G6:=(G.trans g3).trans g6
  have v6:=CA.Gr.up (CA.Gr.up v1 g3 (by lia)) g6 (by lia)
  have hp:=Zu v6
  have gl:=G6.len
  have p8:(8:Int) ^ (i + 1)=8 * 8 ^ i:=by rw[Int.pow_succ,Int.mul_comm]
  obtain ⟨mm,hmm⟩: ∃ mm,s - 2=mm:=⟨_,rfl⟩
  have m0: -7<=mm/\mm<=7:=by lia
  have ta:=ZkC tn m0
  rw[<- p8] at ta;have fc:=tn.fa
  have fb:=tn.fb
  have fcc:=tn.fc
  have fd:=tn.fd
  simp![hmm];refine brS (fun z=> ?_) (fun z=> ?_)
  ·simp![v6]
   exact ⟨a + mm * c,b + mm * d,c,d,_,_,_,rfl,ta.1,gl,by simp,G6.app2 _⟩
  ·simp![v6]
   exact ⟨a,b,c + mm * a,d + mm * b,_,_,_,rfl,ta.2,gl,by simp,G6.app2 _⟩
 ·rintro ρ M2 ⟨a,b,c,d,p,x2,x3,rfl,tn,pl,v1,G⟩
  have tn:Tn 512 a b c d:=by
   have hr:r.toNat=0\/r.toNat=1\/r.toNat=2\/r.toNat=3:=by lia
   obtain ⟨ta,tb',tc,td,te⟩:=tn
   rcases hr with hr | hr | hr | hr<;>rw[hr] at ta tb' tc td<;>exact ⟨by lia,by lia,by lia,by lia,te⟩
  simp![Zn];refine CB.ZV G.bag (by decide) fun s M3 s0 s1 g3=> ?_
  have v3:=CA.Gr.up v1 g3 (by lia)
  have hp:=Zu v3
  have G3:=G.trans g3
  have gl:=G3.len
  simp![Zn];refine brS (fun z=> ?_) (fun z=> ?_)
  ·simp![v3]
   refine q c d a b _ _ ⟨tn.fc,tn.fd,tn.fa,tn.fb,?_⟩ gl (by simp) (G3.app2 _)
   have:=tn.det
   have e:c * b - d * a= -(a * d - b * c):=by grind
   rw[e];lia
  ·simp![Zn]
   exact q a b c d p _ tn pl v3 G3
theorem ZpK (h:M[m]?=some (.lst (prs rs)))(hm:m≠n)(ne:rs≠[])(hr:Nr 200 rs)(hl:rs.length<=100)(hb:Bag n M)
  (q: ∀ a b c d k o M',(a * d - b * c=1\/a * d - b * c= -1)->k < rs.length->Nr 200 (rs.map (gg a b c d))->M.length<=o->M'[o]?=some (.lst (prs (sg (decide (a * d - b * c < 0)) k (rs.map (gg a b c d)))))->Gr n M M'->Q (.ref o) M'):wO (F_law_copy [.ref n,.ref m] M) Q E:=by
 have hn:=hb.lt
 have rl:0 < rs.length:=by
  rcases rs with _ | ⟨x,r⟩
  ·exact absurd rfl ne
  ·simp
 have ens: ∀ a b c d:Int,((List.range (prs rs).length).map fun (i:Nat)=>pr (gg a b c d (cy rs i)).1 (gg a b c d (cy rs i)).2)=prs (rs.map (gg a b c d)):=by
  intro a b c d;rw[Zw]
  conv=>rhs;rw[<- Zat (us:=rs)]
  unfold prs;rw[List.map_map,List.map_map];rfl
 simp![F_law_copy,ZbY];refine Zmp hb fun a b c d p M1 tn pl v1 G1=> ?_
 have h1:=CA.Gr.up h G1 hm
 have hm1:=Zu h1
 have hp1:=Zu v1
 have ta:=tn.fa
 have tb':=tn.fb
 have tc:=tn.fc
 have td:=tn.fd
 simp![Zn];refine ZmK (fun ρ=> ∃ x,ρ=[x,some (.ref p)]) (fun (i:Nat)=>pr (gg a b c d (cy rs i)).1 (gg a b c d (cy rs i)).2) h1 (by rw[Zw];lia) ⟨_,rfl⟩ ?_ ?_
 ·rintro i hi ρ L ⟨x,rfl⟩
  have hp':(M1 ++ L)[p]?=some (tb a b c d):=by rw[Zac hp1];exact v1
  rw[CC.Zad];simp![F_law_led,ZbJ,hp'];exact ⟨⟨_,rfl⟩,rfl⟩
 rw[ens];have r2:(M1 ++ [SO.lst (prs (rs.map (gg a b c d)))])[M1.length]?=some (.lst (prs (rs.map (gg a b c d)))):=by simp
 have v2:(M1 ++ [SO.lst (prs (rs.map (gg a b c d)))])[p]?=some (tb a b c d):=by rw[Zac hp1];exact v1
 have h2:(M1 ++ [SO.lst (prs (rs.map (gg a b c d)))])[m]?=some (.lst (prs rs)):=by rw[Zac hm1];exact h1
 have G2:Gr n M (M1 ++ [SO.lst (prs (rs.map (gg a b c d)))]):=G1.app2 _
 generalize M1 ++ [SO.lst (prs (rs.map (gg a b c d)))]=M2 at *;simp![Zn];refine Zbc r2 (by simpa using ne) (by rw[List.length_map];lia) fun mx M3 K3 hmx=> ?_
 have v3:=K3.get v2
 have h3:=K3.get h2
 have G3:=G2.trans (K3.gr G2.bag)
 simp![Zn];refine ZmJ (fun ρ M'=> ∃ a b c d p,ρ=[some (.ref n),some (.ref m),some (.ref p),none,none]/\Tn 512 a b c d/\Nr 200 (rs.map (gg a b c d))/\M.length<=p/\M'[p]?=some (tb a b c d)/\M'[m]?=some (.lst (prs rs))/\Gr n M M') ?_ ?_
 ·refine brS (fun z=> ?_) (fun z=> ?_)
  ·have gl:=G3.len
   simp![Zn];refine ⟨0,1,1,0,_,rfl,⟨by decide,by decide,by decide,by decide,.inr (by decide)⟩,fun x hx=> ?_,gl,by simp,by rw[Zac (Zu h3)];exact h3,G3.app2 _⟩
   obtain ⟨y,hy,rfl⟩:=List.mem_map.mp hx
   have:=hr y hy
   unfold gg
   simp only
   lia
  ·simp![Zn]
   exact ⟨a,b,c,d,p,rfl,tn,hmx 200 (by lia),pl,v3,h3,G3⟩
 clear v3 h3 G3 hmx K3 r2 v2 h2 G2 h1 hm1 hp1 v1 ta tb' tc td tn pl G1
 rintro _ M4 ⟨a,b,c,d,p,rfl,tn,nr,pl,v1,h1,G1⟩
 have hm1:=Zu h1
 have hp1:=Zu v1
 have ta:=tn.fa
 have tb':=tn.fb
 have tc:=tn.fc
 have td:=tn.fd
 have te:=tn.det
 simp![Zn];refine ZmK (fun ρ=> ∃ x,ρ=[x,some (.ref p)]) (fun (i:Nat)=>pr (gg a b c d (cy rs i)).1 (gg a b c d (cy rs i)).2) h1 (by rw[Zw];lia) ⟨_,rfl⟩ ?_ ?_
 ·rintro i hi ρ L ⟨x,rfl⟩
  have hp':(M4 ++ L)[p]?=some (tb a b c d):=by rw[Zac hp1];exact v1
  rw[CC.Zad];simp![F_law_led,ZbJ,hp'];exact ⟨⟨_,rfl⟩,rfl⟩
 rw[ens];clear ens;have ml:(rs.map (gg a b c d)).length=rs.length:=List.length_map _
 have r2:(M4 ++ [SO.lst (prs (rs.map (gg a b c d)))])[M4.length]?=some (.lst (prs (rs.map (gg a b c d)))):=by simp
 have v2:(M4 ++ [SO.lst (prs (rs.map (gg a b c d)))])[p]?=some (tb a b c d):=by rw[Zac hp1];exact v1
 have G2:Gr n M (M4 ++ [SO.lst (prs (rs.map (gg a b c d)))]):=G1.app2 _
 have gl1:=G1.len
 have q':=fun k o M' hk=>q a b c d k o M' te hk nr
 clear q;generalize M4 ++ [SO.lst (prs (rs.map (gg a b c d)))]=M5 at *;generalize rs.map (gg a b c d)=us at *;simp![v2];refine ZmJ (fun ρ M'=> ∃ o us',ρ=[some (.ref n),some (.ref m),some (.ref p),some (.ref o),none]/\us'=(if decide (a * d - b * c < 0) then us.reverse else us)/\M.length<=o/\M'[o]?=some (.lst (prs us'))/\Gr n M M') ?_ ?_
 ·refine brS (fun z=> ?_) (fun z=> ?_)
  ·have:=G2.len
   simp![Zsl,r2];refine ⟨_,us.reverse,rfl,by simp,by lia,by rw[ZdC];unfold prs;rw[List.map_reverse];rfl,G2.app2 _⟩
  ·simp![Zn]
   exact ⟨_,us,rfl,by simp,by lia,r2,G2⟩
 ·rintro _ M6 ⟨o,us',rfl,e1,ol,r6,G6⟩
  have lu:us'.length=rs.length:=by
   rw[e1]
   split<;>simp[ml]
  simp![r6];refine CB.ZV G6.bag (by lia) fun t M7 t0 t1 g7=> ?_
  have r7:=CA.Gr.up r6 g7 (by lia)
  have G7:=G6.trans g7
  have h7:=Zu r7
  have:=G7.len
  obtain ⟨kk,rfl⟩: ∃ k:Nat,t=k:=⟨t.toNat,by lia⟩
  simp![r7];refine ⟨by rw[List.length_take,List.length_drop];lia,?_⟩
  refine q' kk _ _ (by lia) (by lia) ?_ (G7.app2 _)
  rw[Zf5];unfold sg;rw[<- e1]
  simp
end
end CQ
end
section
namespace CB
open L2 DL
open CD (gg Zgj sg)
section
variable {a b c d:Int}{u v w:Pt}{rs:List Pt}
theorem ZcP {p:Pt}(hg:Int.gcd p.1 p.2=1)(hd:a * d - b * c=1\/a * d - b * c= -1):Int.gcd (gg a b c d p).1 (gg a b c d p).2=1:=by
 have d1:((Int.gcd (gg a b c d p).1 (gg a b c d p).2:Nat):Int) ∣ (gg a b c d p).1:=Int.gcd_dvd_left _ _
 have d2:((Int.gcd (gg a b c d p).1 (gg a b c d p).2:Nat):Int) ∣ (gg a b c d p).2:=Int.gcd_dvd_right _ _
 generalize Int.gcd (gg a b c d p).1 (gg a b c d p).2=k at *;have e1:(a * d - b * c) * p.1=(gg a b c d p).1 * d - (gg a b c d p).2 * b:=by unfold gg;simp only;grind
 have e2:(a * d - b * c) * p.2=(gg a b c d p).2 * a - (gg a b c d p).1 * c:=by unfold gg;simp only;grind
 have f1:(k:Int) ∣ (a * d - b * c) * p.1:=by rw[e1];exact Int.dvd_sub (Int.dvd_mul_of_dvd_left d1) (Int.dvd_mul_of_dvd_left d2)
 have f2:(k:Int) ∣ (a * d - b * c) * p.2:=by rw[e2];exact Int.dvd_sub (Int.dvd_mul_of_dvd_left d2) (Int.dvd_mul_of_dvd_left d1)
 have g1:(k:Int) ∣ p.1:=by
  rcases hd with hd | hd<;>rw[hd] at f1
  ·rwa [Int.one_mul] at f1
  ·rw[Int.neg_one_mul] at f1;exact Int.dvd_neg.mp f1
 have g2:(k:Int) ∣ p.2:=by
  rcases hd with hd | hd<;>rw[hd] at f2
  ·rwa [Int.one_mul] at f2
  ·rw[Int.neg_one_mul] at f2;exact Int.dvd_neg.mp f2
 have:=Int.dvd_coe_gcd g1 g2
 rw[hg] at this;exact Nat.eq_one_of_dvd_one (Int.natCast_dvd_natCast.mp this)
theorem ZjL {B:Int}{p:Pt}(h:Bd 200 p)(hB:200<=B):Bd B p:=by unfold Bd at *;lia
theorem Zik: ∀ (ks:List Int) (x r:Pt),btw (gg a b c d x) (gg a b c d r) ks=(btw x r ks).map (gg a b c d)
 | [],_,_=>rfl
 |k :: ks,x,r=>by
  rw[btw,btw,List.map_cons,<- Zik ks]
  congr 2
  unfold gg
  apply Prod.ext<;>simp only<;>grind
theorem Zsz (hw:Wg u v)(hf:Fb u v w)(hd:a * d - b * c=1)(bu:Bd 200 (gg a b c d u))(bv:Bd 200 (gg a b c d v)):Wg (gg a b c d u) (gg a b c d v)/\Fb (gg a b c d u) (gg a b c d v) (gg a b c d w)/\btw (gg a b c d u) (gg a b c d w) (hj (X (gg a b c d u) (gg a b c d v)) (X (gg a b c d w) (gg a b c d v)))=(btw u w (hj (X u v) (X w v))).map (gg a b c d)/\hj (X (gg a b c d u) (gg a b c d v)) (X (gg a b c d w) (gg a b c d v))=hj (X u v) (X w v):=by
 have e (p q:Pt):X (gg a b c d p) (gg a b c d q)=X p q:=by rw[Zgj,hd,Int.one_mul]
 refine ⟨⟨ZcP hw.gu (.inl hd),ZcP hw.gv (.inl hd),ZjL bu (by decide),ZjL bv (by decide),by rw[e];exact hw.pos⟩,⟨by rw[e];exact hf.one,by rw[e];exact hf.lo,by rw[e,e];exact hf.hi⟩,?_,by rw[e,e]⟩
 rw[e,e,Zik]
theorem ZsA (hw:Wg u v)(hf:Fb u v w)(hd:a * d - b * c= -1)(bu:Bd 200 (gg a b c d u))(bv:Bd 200 (gg a b c d v)): ∃ w',Wg (gg a b c d v) (gg a b c d u)/\Fb (gg a b c d v) (gg a b c d u) w'/\btw (gg a b c d v) w' (hj (X (gg a b c d v) (gg a b c d u)) (X w' (gg a b c d u)))=((btw u w (hj (X u v) (X w v))).map (gg a b c d)).reverse/\hj (X (gg a b c d v) (gg a b c d u)) (X w' (gg a b c d u))=(hj (X u v) (X w v)).reverse:=by
 have e (p q:Pt):X (gg a b c d p) (gg a b c d q)= -1 * X p q:=by rw[Zgj,hd]
 have W:Wg (gg a b c d v) (gg a b c d u):=⟨ZcP hw.gv (.inr hd),ZcP hw.gu (.inr hd),ZjL bv (by decide),ZjL bu (by decide),by rw[e,ZcG];have:=hw.pos;lia⟩
 obtain ⟨w',F'⟩:=CB.Zpv W
 have c1:=CB.Zh9 hw hf
 have c2:=(CB.Zkw _ _ _ u w v rfl hf.lo hf.hi hf.one rfl rfl hw.gv).1
 have o1:=CB.only _ u v w c1 c2 hf
 have k1:=CB.ZkA e (u :: (btw u w (hj (X u v) (X w v)) ++ [v]))
 have r1:=CB.ZpH e c1
 have r2:=CB.Zpy (CB.ZkB (g:=gg a b c d) (fun p q r k e1 e2=>by unfold gg;simp only;constructor<;>grind) _ c2)
 have el:((u :: (btw u w (hj (X u v) (X w v)) ++ [v])).map (gg a b c d)).reverse=gg a b c d v :: (((btw u w (hj (X u v) (X w v))).map (gg a b c d)).reverse ++ [gg a b c d u]):=by simp
 rw[el] at k1 r1 r2;have o2:=CB.only _ _ _ _ r1 r2 F'
 exact ⟨w',W,F',o2.1.symm,by rw[<- o2.2,k1,o1.2]⟩
theorem ZsB (hw:Wg u v)(hd:a * d - b * c=1)(bu:Bd 200 (gg a b c d u))(bv:Bd 200 (gg a b c d v)):seg (gg a b c d u) (gg a b c d v)=(seg u v).map (gg a b c d):=by
 obtain ⟨W,F,e,-⟩:=Zsz hw (ZbI hw) hd bu bv
 have:=(ZbI W).uniq F
 unfold seg;rw[this,e];rfl
theorem ZpL (hw:Wg u v)(hd:a * d - b * c= -1)(bu:Bd 200 (gg a b c d u))(bv:Bd 200 (gg a b c d v)):seg (gg a b c d v) (gg a b c d u) ++ [gg a b c d u]=((seg u v ++ [v]).map (gg a b c d)).reverse:=by
 obtain ⟨w',W,F,e,-⟩:=ZsA hw (ZbI hw) hd bu bv
 have:=(ZbI W).uniq F
 unfold seg;rw[this,e]
 simp
theorem ZkE (hd:a * d - b * c=1): ∀ (L:List Pt),Wgs L->(∀ x∈L,Bd 200 (gg a b c d x))->Zaa (L.map (gg a b c d))=(Zaa L).map (gg a b c d)
 | [],_,_=>rfl
 | [_],_,_=>rfl
 |x :: y :: r,h,hb=>by
  have ih:=ZkE hd (y :: r) h.2 fun z hz=>hb z (List.mem_cons_of_mem _ hz)
  show seg (gg a b c d x) (gg a b c d y) ++ Zaa ((y :: r).map (gg a b c d))=(seg x y ++ Zaa (y :: r)).map (gg a b c d)
  rw[ih,ZsB h.1 hd (hb x (by simp)) (hb y (by simp)),List.map_append]
theorem ZkF (hd:a * d - b * c= -1): ∀ (r:List Pt) (x z:Pt),Wgs (x :: (r ++ [z]))->(∀ y∈x :: (r ++ [z]),Bd 200 (gg a b c d y))->Zaa ((x :: (r ++ [z])).map (gg a b c d)).reverse ++ [gg a b c d x]=((Zaa (x :: (r ++ [z])) ++ [z]).map (gg a b c d)).reverse
 | [],x,z,h,hb=>by
  have:=ZpL h.1 hd (hb x (by simp)) (hb z (by simp))
  simpa [Zaa] using this
 |y :: r,x,z,h,hb=>by
  have ih:=ZkF hd r y z h.2 fun p hp=>hb p (List.mem_cons_of_mem _ hp)
  have e:=ZpL h.1 hd (hb x (by simp)) (hb y (by simp))
  have e1:((x :: (y :: r ++ [z])).map (gg a b c d)).reverse=((r ++ [z]).map (gg a b c d)).reverse ++ [gg a b c d y,gg a b c d x]:=by simp
  have e2:((y :: (r ++ [z])).map (gg a b c d)).reverse=((r ++ [z]).map (gg a b c d)).reverse ++ [gg a b c d y]:=by simp
  rw[e2] at ih;rw[e1,CL.ZcN,List.append_assoc,e];have e3:((seg x y ++ [y]).map (gg a b c d)).reverse=[gg a b c d y] ++ ((seg x y).map (gg a b c d)).reverse:=by simp
  rw[e3,<- List.append_assoc,ih];show _=((seg x y ++ Zaa (y :: (r ++ [z])) ++ [z]).map (gg a b c d)).reverse
  simp
theorem ZdE: ∀ (L:List Pt) (x:Pt) (R:List Pt),Zaa (L ++ x :: R)=Zaa (L ++ [x]) ++ Zaa (x :: R)
 | [],x,R=>rfl
 | [a],x,R=>by simp[Zaa]
 |a :: b :: L,x,R=>by
  have:=ZdE (b :: L) x R
  simp only[List.cons_append,Zaa] at *;rw[this,List.append_assoc]
theorem ZcQ {k:Nat}(hk:k<=rs.length): ∃ j,j<=(lrd rs).length/\lrd (rs.drop k ++ rs.take k)=(lrd rs).drop j ++ (lrd rs).take j:=by
 have e:rs=rs.take k ++ rs.drop k:=(List.take_append_drop k rs).symm
 generalize rs.take k=A at *;generalize rs.drop k=B at *;subst e
 rcases A with _ | ⟨x,A⟩
 ·exact ⟨0,by lia,by simp⟩
 rcases B with _ | ⟨y,B⟩
 ·exact ⟨0,by lia,by simp⟩
 have e1:lrd (x :: A ++ y :: B)=Zaa (x :: A ++ [y]) ++ Zaa (y :: B ++ [x]):=by
  have:=ZdE (x :: A) y (B ++ [x])
  simpa [lrd] using this
 have e2:lrd (y :: B ++ x :: A)=Zaa (y :: B ++ [x]) ++ Zaa (x :: A ++ [y]):=by
  have:=ZdE (y :: B) x (A ++ [y])
  simpa [lrd] using this
 refine ⟨(Zaa (x :: A ++ [y])).length,by rw[e1,List.length_append];lia,?_⟩
 rw[e1,e2]
 simp
theorem ZkG {k:Nat}(hr:Rn rs)(hb:Nr 200 rs)(hg:Nr 200 (rs.map (gg a b c d)))(hd:a * d - b * c=1\/a * d - b * c= -1)(hk:k<=rs.length):
  ∃ j:Int,(lrd (sg (decide (a * d - b * c < 0)) k (rs.map (gg a b c d)))).length=(lrd rs).length/\ ∀ i:Int,cy (lrd (sg (decide (a * d - b * c < 0)) k (rs.map (gg a b c d)))) i=gg a b c d (cy (lrd rs) ((a * d - b * c) * i + j)):=by
 have hs:=hr.least hb
 have W:=hr.wgs hb
 have ne:=hs.ne
 have ml:(rs.map (gg a b c d)).length=rs.length:=List.length_map _
 have bg: ∀ x∈rs ++ rs.take 1,Bd 200 (gg a b c d x):=fun x hx=>by
  have:x∈rs:=by
   rcases List.mem_append.mp hx with hx | hx
   ·exact hx
   ·exact List.mem_of_mem_take hx
  exact hg _ (List.mem_map.mpr ⟨x,this,rfl⟩)
 rcases hd with hd | hd
 ·rw[hd]
  have e0:lrd (rs.map (gg a b c d))=(lrd rs).map (gg a b c d):=by
   have:=ZkE hd _ W bg
   unfold lrd;rw[<- this,List.map_append,List.map_take]
  obtain ⟨j,hj,e⟩:=ZcQ (rs:=rs.map (gg a b c d)) (k:=k) (by lia)
  have e':lrd (sg (decide ((1:Int) < 0)) k (rs.map (gg a b c d)))=((lrd rs).map (gg a b c d)).drop j ++ ((lrd rs).map (gg a b c d)).take j:=by
   rw[<- e0,<- e];rfl
  rw[e0,List.length_map] at hj;refine ⟨j,by rw[e',List.length_append,List.length_drop,List.length_take,List.length_map];lia,fun i=> ?_⟩
  rw[e',Zaj (by rw[List.length_map];exact hj),ZcD ne,Int.one_mul]
 ·rw[hd]
  have r3:=hr.len
  obtain ⟨x,r,rfl⟩: ∃ x r,rs=x :: r:=by
   rcases rs with _ | ⟨x,r⟩
   ·simp at r3
   ·exact ⟨x,r,rfl⟩
  have e0:=ZkF hd r x x (by simpa using W) (by simpa using bg)
  obtain ⟨S,hS⟩: ∃ S,lrd (x :: r)=x :: S:=by
   have:r≠[]:=fun z=>by rw[z] at r3;simp at r3
   obtain ⟨y,r',rfl⟩:=List.exists_cons_of_ne_nil this
   exact Zel
  have e1:lrd (x :: r)=Zaa (x :: (r ++ [x])):=by simp[lrd]
  rw[<- e1,hS] at e0;have e2:lrd (gg a b c d x :: (r.map (gg a b c d)).reverse)=Zaa ((x :: (r ++ [x])).map (gg a b c d)).reverse:=by
   simp[lrd]
  rw[<- e2] at e0;have e3:lrd (gg a b c d x :: (r.map (gg a b c d)).reverse)=(((lrd (x :: r)).drop 1 ++ (lrd (x :: r)).take 1).reverse).map (gg a b c d):=by
   have:lrd (gg a b c d x :: (r.map (gg a b c d)).reverse) ++ [gg a b c d x]=(gg a b c d x :: (S.map (gg a b c d)).reverse) ++ [gg a b c d x]:=by
    rw[e0];simp
   rw[List.append_cancel_right this,hS]
   simp
  have lv:(gg a b c d x :: (r.map (gg a b c d)).reverse).length=(x :: r).length:=by simp
  obtain ⟨j1,h1,f1⟩:=ZcQ (rs:=gg a b c d x :: (r.map (gg a b c d)).reverse) (k:=1) (by simp)
  obtain ⟨j2,h2,f2⟩:=ZcQ (rs:=((x :: r).map (gg a b c d)).reverse) (k:=k) (by simpa using hk)
  have f1':lrd ((x :: r).map (gg a b c d)).reverse=(lrd (gg a b c d x :: (r.map (gg a b c d)).reverse)).drop j1 ++ (lrd (gg a b c d x :: (r.map (gg a b c d)).reverse)).take j1:=by
   rw[<- f1]
   simp
  have e':lrd (sg (decide ((-1:Int) < 0)) k ((x :: r).map (gg a b c d)))=(lrd ((x :: r).map (gg a b c d)).reverse).drop j2 ++ (lrd ((x :: r).map (gg a b c d)).reverse).take j2:=by
   rw[<- f2];rfl
  have l3:(lrd (gg a b c d x :: (r.map (gg a b c d)).reverse)).length=(lrd (x :: r)).length:=by
   rw[e3,List.length_map,List.length_reverse,List.length_append,List.length_drop,List.length_take]
   have:=hs.len
   lia
  have l2:(lrd ((x :: r).map (gg a b c d)).reverse).length=(lrd (x :: r)).length:=by
   rw[f1',List.length_append,List.length_drop,List.length_take];lia
  refine ⟨0 - (j1 + j2),by rw[e',List.length_append,List.length_drop,List.length_take];lia,fun i=> ?_⟩
  have nf:((lrd (x :: r)).drop 1 ++ (lrd (x :: r)).take 1).reverse≠[]:=fun z=>by
   have:=congrArg List.length z
   rw[List.length_reverse,List.length_append,List.length_drop,List.length_take] at this
   have:=hs.len
   simp at *
   lia
  rw[e',Zaj h2,f1',Zaj h1,e3,ZcD nf,Zmj hs]
  congr 2
  lia
theorem ZsC {ls ms:List Pt}{j:Int}(h: ∀ i:Int,cy ms i=gg a b c d (cy ls ((a * d - b * c) * i + j)))(hd:a * d - b * c=1\/a * d - b * c= -1)(i:Int):T ms i=T ls ((a * d - b * c) * i + j):=by
 unfold T;rw[h,h,Zgj]
 rcases hd with hd | hd
 ·rw[hd,Int.one_mul,Int.one_mul,Int.one_mul,Int.one_mul]
  congr 3<;>lia
 ·rw[hd,ZcG]
  have e1: -1 * (i - 1) + j= -1 * i + j + 1:=by lia
  have e2: -1 * (i + 1) + j= -1 * i + j - 1:=by lia
  rw[e1,e2];lia
theorem Zil {p q:Pt}(hd:a * d - b * c=1\/a * d - b * c= -1)(e:gg a b c d p=gg a b c d q):p=q:=by
 have e1:=congrArg Prod.fst e
 have e2:=congrArg Prod.snd e
 unfold gg at e1 e2
 simp only at e1 e2
 have f1:(a * d - b * c) * p.1=(a * d - b * c) * q.1:=by grind
 have f2:(a * d - b * c) * p.2=(a * d - b * c) * q.2:=by grind
 rcases hd with hd | hd<;>rw[hd] at f1 f2<;>exact Prod.ext (by lia) (by lia)
end
end CB
end
section
namespace CX
open L2 DL
open CE (F_numbers)
open CC (F_following)
open CL (F_least_round)
def Zba:Sv:=(ZE (ZJ (gNm 2) (Zd5 (iSq (Zg 0)) 1 [] (gNm 0) (fun _ M=> .ok true M) (Zg 0) (eC (.bl true))))
 (Z5 (ZaO (iZp (Zc (Zk F_numbers (Zc (Zg 1) aNil)) (Zc (Zg 1) aNil))) 2 [2] (gTp (gCs (gNm 0) (gCs (gNm 1) gNl))) (fun _ M=> .ok true M) (Z4 (Zc (Zg 0) (Zc (eIf (tv (e2 (ZmH false) (Zg 1) (Zg 2))) (eC (.int 1)) (eC (.int 0))) aNil))))))
def F_marked_row:W3:=fnF Zba 2 1
def ZL:Sv:=(sIf (Zgk (tv (e2 dIs (Zg 3) (eC .non))) (tv (e2 dLtL (Zg 9) (Zg 3)))) (ZE (ZJ (gNm 3) (Zg 9))
 (ZJ (gNm 4) (Z4 (Zc (Zg 6) (Zc (Zg 10) aNil))))) sNil)
def ZR:Sv:=(ZE (ZJ (gNm 7) (e2 dAdd (eSl (Zg 2) (oSo (Zg 5)) oNo) (eSl (Zg 2) oNo (oSo (Zg 5)))))
 (ZE (ZJ (gNm 8) (e2 dAdd (eSl (Zg 7) oNo (oSo (eC (.int 1)))) (eR0 (Zg 7))))
 (Zlm (gTp (gCs (gNm 9) (gCs (gNm 10) gNl))) (ZbS (Zc (Z4 (Zc (Zg 7) (Zc (Zk F_following (Zc (Zg 1) (Zc (Zg 5) aNil))) aNil))) (Zc (Z4 (Zc (Zg 8) (Zc (e2 dIx (Zg 1) (e2 dSub (Zg 5) (eC (.int 1)))) aNil))) aNil))) ZL)))
def Z9:Sv:=(ZE (ZJ (gNm 1) (Zk F_least_round (Zc (Zg 0) aNil)))
 (ZE (ZJ (gNm 2) (Zk F_marked_row (Zc (Zg 0) (Zc (Zg 1) aNil))))
 (ZE (ZJ (gNm 3) (eC .non))
 (ZE (ZJ (gNm 4) (eC .non))
 (ZE (Zdn (gTp (gCs (gNm 5) (gCs (gNm 6) gNl))) (iEn (Zc (Zg 1) aNil)) ZR)
 (Z5 (Z4 (Zc (Zg 3) (Zc (Zg 4) aNil)))))))))
def F_first_reading:W3:=fnF Z9 1 10
end CX
end
section
namespace CX
open L2 DL
open CV
open CB (Bd lrd)
def ltP:List Pt->List Pt->Bool
 | [],[]=>false
 | [],_ :: _=>true
 |_ :: _,[]=>false
 |x :: xs,y :: ys=>if x=y then ltP xs ys else HT.Z1 [x.1,x.2] [y.1,y.2]
theorem ZjM {x y:Pt}{xs ys:List Pt}:ltP (x :: xs) (y :: ys)=if x=y then ltP xs ys else HT.Z1 [x.1,x.2] [y.1,y.2]:=rfl
theorem ZmM {x y:Pt}:HT.Z1 [x.1,x.2] [y.1,y.2]=decide (x.1 < y.1\/(x.1=y.1/\x.2 < y.2)):=by
 rw[HT.ZW,HT.ZW,HT.Zbw]
 by_cases c1:x.1=y.1
 ·rw[if_pos c1]
  by_cases c2:x.2=y.2
  ·rw[if_pos c2]
   exact (decide_eq_false (by lia)).symm
  ·rw[if_neg c2]
   exact decide_eq_decide.mpr (by lia)
 ·rw[if_neg c1]
  exact decide_eq_decide.mpr (by lia)
theorem ZpM {x y:Pt}(h:x≠y):x.1≠y.1\/x.2≠y.2:=by
 by_cases c:x.1=y.1
 ·exact .inr fun z=>h (Prod.ext c z)
 ·exact .inl c
theorem Zim: ∀ {xs ys:List Pt},ltP xs ys=false->ltP ys xs=false->xs=ys
 | [],[],_,_=>rfl
 | [],_ :: _,h,_=>by cases h
 |_ :: _,[],_,h=>by cases h
 |x :: xs,y :: ys,h1,h2=>by
  unfold ltP at h1 h2
  by_cases c:x=y
  ·rw[if_pos c] at h1
   rw[if_pos c.symm] at h2;rw[c,Zim h1 h2]
  ·rw[if_neg c,ZmM] at h1
   rw[if_neg (Ne.symm c),ZmM] at h2
   have:=of_decide_eq_false h1
   have:=of_decide_eq_false h2
   have:=ZpM c
   lia
theorem Zeo: ∀ {xs ys zs:List Pt},ltP xs ys=true->ltP ys zs=true->ltP xs zs=true
 | [],[],_,h,_=>by cases h
 | [],_ :: _,[],_,h=>by cases h
 | [],_ :: _,_ :: _,_,_=>rfl
 |_ :: _,[],_,h,_=>by cases h
 |_ :: _,_ :: _,[],_,h=>by cases h
 |x :: xs,y :: ys,z :: zs,h1,h2=>by
  unfold ltP at h1 h2 ⊢
  by_cases c1:x=y
  ·subst c1
   rw[if_pos rfl] at h1
   by_cases c2:x=z
   ·subst c2
    rw[if_pos rfl] at h2 ⊢;exact Zeo h1 h2
   ·rw[if_neg c2] at h2 ⊢
    exact h2
  ·rw[if_neg c1,ZmM] at h1
   have h1:=of_decide_eq_true h1
   by_cases c2:y=z
   ·subst c2
    rw[if_neg c1,ZmM];exact decide_eq_true h1
   ·rw[if_neg c2,ZmM] at h2
    have h2:=of_decide_eq_true h2
    have c3:x≠z:=fun e=>by subst e;lia
    rw[if_neg c3,ZmM];exact decide_eq_true (by lia)
theorem Ze1: ∀ {xs:List Pt},ltP xs xs=false
 | []=>rfl
 |x :: xs=>by
  unfold ltP;rw[if_pos rfl];exact Ze1
theorem tI (x:Pt):Zal [D.int x.1,D.int x.2]=some [x.1,x.2]:=rfl
theorem ZkH {x y:Pt}:ltE (pr x.1 x.2) (pr y.1 y.2)=some (HT.Z1 [x.1,x.2] [y.1,y.2]):=rfl
theorem ZpN {x y:Pt}:ltL.eqX (pr x.1 x.2) (pr y.1 y.2)=decide (x=y):=by
 show (Zal [D.int x.1,D.int x.2] == Zal [D.int y.1,D.int y.2])=_
 rw[tI,tI]
 by_cases c:x=y
 ·subst c;simp
 ·rw[decide_eq_false c]
  have:=ZpM c
  simp
  lia
theorem Zin: ∀ {xs ys:List Pt},ltL (prs xs) (prs ys)=some (ltP xs ys)
 | [],[]=>rfl
 | [],_ :: _=>rfl
 |_ :: _,[]=>rfl
 |x :: xs,y :: ys=>by
  show (match ltE (pr x.1 x.2) (pr y.1 y.2) with | none=>none | some b=>if ltL.eqX (pr x.1 x.2) (pr y.1 y.2)=true then ltL (prs xs) (prs ys) else some b)=_
  rw[ZkH,ZpN,Zin,ZjM]
  by_cases c:x=y
  ·simp[c]
  ·simp[c]
theorem Zio: ∀ {xs ys:List Pt},Zb6 (prs xs) (prs ys)=true
 | [],[]=>rfl
 | [],_ :: _=>rfl
 |_ :: _,[]=>rfl
 |x :: xs,y :: ys=>by
  show ((ltE (pr x.1 x.2) (pr y.1 y.2)).isSome && Zb6 (prs xs) (prs ys))=true
  rw[Zio,ZkH];rfl
section
variable {Q:W0}{E:W2}{M:Sto}{n m p:Nat}{rs ls:List Pt}
theorem ZsD {xs ys:List Pt}(h1:M[n]?=some (.lst (prs xs)))(h2:M[m]?=some (.lst (prs ys))):wO (dLtL (.ref n) (.ref m) M) Q E=Q (.bl (ltP xs ys)) M:=by
 have:dLtL (.ref n) (.ref m) M= .ok (.bl (ltP xs ys)) M:=by
  simp only[dLtL,h1,h2,Zio,if_true,Zin]
 rw[this];rfl
theorem Zve {f:Ev}{ρ:Ro}:wO (eR0 f ρ M) Q E=wO (f ρ M) (fun x M1=>wR x fun n=>wL M1[n]? fun xs=>Q (.ref M1.length) (M1 ++ [.lst (xs.drop 1).reverse])) E:=by
 unfold eR0;rw[ZB]
 congr 1
 funext x M1
 cases x with
 |ref n=>
  show wO (match M1[n]? with | some (.lst xs)=> .ok (.ref M1.length) (M1 ++ [.lst (xs.drop 1).reverse]) | none=> .bad) Q E=wL M1[n]? _
  cases M1[n]? with
  |none=>rfl
  |some o=>cases o with | lst xs=>rfl
 |_=>rfl
theorem ZfD {κ:Type}[DecidableEq κ]{dec:D->Option κ}{k k0:κ}{v:D}: ∀ (ds:List D),(ZbN dec k (Zjh dec k0 v ds)).isSome=(ZbN dec k ds).isSome
 | []=>rfl
 |e :: r=>by
  have ih:=ZfD (dec:=dec) (k:=k) (k0:=k0) (v:=v) r
  cases e with
  |tup l=>
   rcases l with _ | ⟨a,_ | ⟨w,_ | ⟨z,l⟩⟩⟩
   ·exact ih
   ·exact ih
   ·show (ZbN dec k ((if dec a=some k0 then .tup [a,v] else .tup [a,w]) :: Zjh dec k0 v r)).isSome=_
    split
    ·simp only[ZbN]
     split
     ·rfl
     ·exact ih
    ·simp only[ZbN]
     split
     ·rfl
     ·exact ih
   ·exact ih
  |_=>exact ih
theorem Zep {κ:Type}[DecidableEq κ]{dec:D->Option κ}{k:κ}{a v:D}: ∀ (ds:List D),(ZbN dec k (ds ++ [.tup [a,v]])).isSome=((ZbN dec k ds).isSome || decide (dec a=some k))
 | []=>by
  simp only[List.nil_append,ZbN]
  by_cases c:dec a=some k
  ·simp[c]
  ·simp[c]
 |e :: r=>by
  have ih:=Zep (dec:=dec) (k:=k) (a:=a) (v:=v) r
  cases e with
  |tup l=>
   rcases l with _ | ⟨x,_ | ⟨w,_ | ⟨z,l⟩⟩⟩
   ·exact ih
   ·exact ih
   ·simp only[List.cons_append,ZbN]
    split
    ·simp
    ·exact ih
   ·exact ih
  |_=>exact ih
theorem ZjN {κ:Type}[DecidableEq κ]{dec:D->Option κ}{k k0:κ}{kd v:D}(h:dec kd=some k0)(ds:List D):(ZbN dec k (Zgn dec k0 kd v ds)).isSome=((ZbN dec k ds).isSome || decide (k0=k)):=by
 unfold Zgn
 split
 ·rename_i c
  rw[ZfD]
  by_cases e:k0=k
  ·subst e;rw[c];simp
  ·simp[e]
 ·rw[Zep,h]
  simp
noncomputable abbrev ky (p:Pt):List Key:=[.inl p.1,.inl p.2]
theorem ZpO {p q:Pt}:ky p=ky q ↔ p=q:=by
 constructor
 ·intro h
  simp[ky] at h
  exact Prod.ext h.1 h.2
 ·rintro rfl;rfl
theorem Zmq {κ:Type}[DecidableEq κ]{dec:D->Option κ}{k0:κ}{kd v:D}(ds:List D):(Zgn dec k0 kd v ds).length<=ds.length + 1:=by
 unfold Zgn
 split
 ·unfold Zjh;rw[List.length_map];lia
 ·simp
theorem dcl (h:M[n]?=some (.lst (prs rs)))(hl:rs.length<=1000): ∀ (fuel i:Nat) (ds:List D) (x:Option D),i<=rs.length->rs.length<=fuel + i->ds.length<=i->nfz ds=true->
  ∃ ds',Zbg (.sto n) (gNm 0) (fun _ M=> .ok true M) (Zg 0) (eC (.bl true)) M.length fuel i [x] (M ++ [.lst ds])= .ok () (M ++ [.lst ds'])/\ ∀ p,(ZbN kT (ky p) ds').isSome=((ZbN kT (ky p) ds).isSome || decide (p∈rs.drop i)):=by
 have hn:=Zu h
 intro fuel
 induction fuel with
 |zero=>
  intro i ds x hi hf hd nf;have e:i=rs.length:=by lia
  have nx:nxt (.sto n) i (M ++ [.lst ds])=some none:=by
   rw[Zee (xs:=prs rs) (by rw[Zac hn];exact h),List.getElem?_eq_none (by rw[Zw];lia)]
  refine ⟨ds,?_,fun p=> ?_⟩
  ·unfold Zbg
   rw[nx]
  ·rw[List.drop_eq_nil_of_le (by lia)]
   simp
 |succ f ih=>
  intro i ds x hi hf hd nf
  by_cases e:i=rs.length
  ·have nx:nxt (.sto n) i (M ++ [.lst ds])=some none:=by
    rw[Zee (xs:=prs rs) (by rw[Zac hn];exact h),List.getElem?_eq_none (by rw[Zw];lia)]
   refine ⟨ds,?_,fun p=> ?_⟩
   ·unfold Zbg
    rw[nx]
   ·rw[List.drop_eq_nil_of_le (by lia)]
    simp
  ·have hi':i < rs.length:=by lia
   have nx:nxt (.sto n) i (M ++ [.lst ds])=some (some (pr rs[i].1 rs[i].2)):=by
    rw[Zee (xs:=prs rs) (by rw[Zac hn];exact h)]
    congr 1
    unfold prs;rw[List.getElem?_map,List.getElem?_eq_getElem hi']
    rfl
   have pt:Zn3 (M ++ [.lst ds]) (.dt M.length) (pr rs[i].1 rs[i].2) (.bl true)=some (M ++ [.lst (Zgn kT (ky rs[i]) (pr rs[i].1 rs[i].2) (.bl true) ds)]):=by
    have e1:kT (pr rs[i].1 rs[i].2)=some (ky rs[i]):=rfl
    have e2:(M ++ [SO.lst ds])[M.length]?=some (.lst ds):=by simp
    simp only[Zn3,e1,e2];rw[if_pos ⟨by lia,nf⟩]
    simp
   obtain ⟨ds',h1,h2⟩:=ih (i + 1) (Zgn kT (ky rs[i]) (pr rs[i].1 rs[i].2) (.bl true) ds) (some (pr rs[i].1 rs[i].2)) (by lia) (by lia) (by have:=Zmq (dec:=kT) (k0:=ky rs[i]) (kd:=pr rs[i].1 rs[i].2) (v:= .bl true) ds;lia) (ZlA nf)
   refine ⟨ds',?_,fun p=> ?_⟩
   ·unfold Zbg
    rw[nx];show (match Zn3 (M ++ [.lst ds]) (.dt M.length) (pr rs[i].1 rs[i].2) (.bl true) with | some M4=>Zbg (.sto n) (gNm 0) (fun _ M=> .ok true M) (Zg 0) (eC (.bl true)) M.length f (i + 1) [some (pr rs[i].1 rs[i].2)] M4 | none=> .bad)=_
    rw[pt];exact h1
   ·rw[h2,ZjN (dec:=kT) (show kT (pr rs[i].1 rs[i].2)=some (ky rs[i]) from rfl),List.drop_eq_getElem_cons hi']
    simp only[List.mem_cons,ZpO,Bool.or_assoc,Bool.decide_or]
    congr 2
    exact decide_eq_decide.mpr ⟨Eq.symm,Eq.symm⟩
end
end CX
end
section
namespace CX
open L2 DL
open CV
open CB (Bd lrd)
section
variable {Q:W0}{E:W2}{M:Sto}{n m p:Nat}{rs ls:List Pt}
theorem Zmr {r:Ro}(h:M[n]?=some (.lst (prs rs)))(hl:rs.length<=1000)(q: ∀ ds,(∀ p,(ZbN kT (ky p) ds).isSome=decide (p∈rs))->Q (.dt M.length) (M ++ [.lst ds])):wO (Zd5 (iSq (Zg 0)) 1 [] (gNm 0) (fun _ M=> .ok true M) (Zg 0) (eC (.bl true)) (some (.ref n) :: r) M) Q E:=by
 obtain ⟨ds,h1,h2⟩:=dcl h hl (cnt (.sto n) M) 0 [] none (by lia) (by rw[ZeN h,Zw];lia) (by simp) rfl
 have e:Zd5 (iSq (Zg 0)) 1 [] (gNm 0) (fun _ M=> .ok true M) (Zg 0) (eC (.bl true)) (some (.ref n) :: r) M= .ok (.dt M.length) (M ++ [.lst ds]):=by
  show (match Zbg (.sto n) (gNm 0) (fun _ M=> .ok true M) (Zg 0) (eC (.bl true)) M.length (cnt (.sto n) M) 0 [none] (M ++ [.lst []]) with | .ok _ M2=>Out.ok (D.dt M.length) M2 | _=> .bad)=_
  rw[h1]
 rw[e];refine q ds fun p=> ?_
 rw[h2 p]
 simp[ZbN]
theorem ZsE {ds:List D}{x:Pt}(h:M[n]?=some (.lst ds))(hd: ∀ p,(ZbN kT (ky p) ds).isSome=decide (p∈rs)):wO (ZmH false (pr x.1 x.2) (.dt n) M) Q E=Q (.bl (decide (x∈rs))) M:=by
 have e1:kT (pr x.1 x.2)=some (ky x):=rfl
 have:ZmH false (pr x.1 x.2) (.dt n) M= .ok (.bl (decide (x∈rs))) M:=by
  simp only[ZmH,ZfZ,e1,h,hd]
  simp
 rw[this];rfl
def mkr (rs ls:List Pt):List Pt:=(List.range ls.length).map fun (i:Nat)=>(T ls i,if cy ls i∈rs then 1 else 0)
theorem ZQ:(mkr rs ls).length=ls.length:=by unfold mkr;simp
theorem ZjO (h1:M[n]?=some (.lst (prs rs)))(h2:M[m]?=some (.lst (prs ls)))(hs:Smo ls)(hl1:rs.length<=1000)(hl2:ls.length<=1000000)(hb:Nr 18446744073709551615 ls)(q: ∀ o M',Kp M M'->M.length<=o->M'[o]?=some (.lst (prs (mkr rs ls)))->Q (.ref o) M'):wO (F_marked_row [.ref n,.ref m] M) Q E:=by
 have hn:=Zu h1
 have hm:=Zu h2
 simp![F_marked_row,Zba];refine Zmr h1 hl1 fun ds hds=> ?_
 have h2':(M ++ [SO.lst ds])[m]?=some (.lst (prs ls)):=by rw[Zac hm];exact h2
 have rd:(M ++ [SO.lst ds])[M.length]?=some (.lst ds):=by simp
 have K1:Kp M (M ++ [SO.lst ds]):=Kp.app
 have l1:(M ++ [SO.lst ds]).length=M.length + 1:=by simp
 generalize M ++ [SO.lst ds]=M1 at *;simp![Zn];refine CE.Zh3 h2' hs hl2 hb ?_
 have h3:(M1 ++ [SO.lst (nts (Zbq ls))])[m]?=some (.lst (prs ls)):=by rw[Zac (Zu h2')];exact h2'
 have r3:(M1 ++ [SO.lst (nts (Zbq ls))])[M1.length]?=some (.lst (nts (Zbq ls))):=by simp
 have rd3:(M1 ++ [SO.lst (nts (Zbq ls))])[M.length]?=some (.lst ds):=by rw[Zac (Zu rd)];exact rd
 have K3:Kp M (M1 ++ [SO.lst (nts (Zbq ls))]):=K1.trans Kp.app
 generalize M1 ++ [SO.lst (nts (Zbq ls))]=M3 at *;have tl:(Zbq ls).length=ls.length:=by unfold Zbq;simp
 have zl:(List.zipWith (fun a b=>D.tup [a,b]) (nts (Zbq ls)) (prs ls)).length=ls.length:=by simp[Zw,Zbp,tl]
 have hm3:=Zu h3
 have hr3:=Zu r3
 have hd3:=Zu rd3
 simp![Zn];refine Zqi (xs:=List.zipWith (fun a b=>D.tup [a,b]) (nts (Zbq ls)) (prs ls)) (fun ρ=> ∃ x y,ρ=[x,y,some (.dt M.length)]) (fun (i:Nat)=>pr (T ls i) (if cy ls i∈rs then 1 else 0)) (by lia) (by rw[ZlY r3,zl,Zbp,tl];lia) ⟨_,_,rfl⟩ (fun L i hi=> ?_) ?_ ?_
 ·rw[Zo1 (by rw[Zac hr3];exact r3) (by rw[Zac hm3];exact h3)]
 ·rintro i hi ρ L ⟨x,y,rfl⟩
  rw[zl] at hi;have hp':(M3 ++ L)[M.length]?=some (.lst ds):=by rw[Zac hd3];exact rd3
  have en:(nts (Zbq ls))[i]'(by rw[Zbp,tl];exact hi)=D.int (T ls i):=by simp[nts,Zbq]
  rw[List.getElem_zipWith,CC.Zad,en];simp![ZsE hp' hds];refine ⟨⟨_,_,rfl⟩,brO (fun z=> ?_) (fun z=> ?_)⟩
  ·simp![Zn]
   rw[if_pos z]
  ·simp![Zn]
   rw[if_neg z]
 have en:((List.range (List.zipWith (fun a b=>D.tup [a,b]) (nts (Zbq ls)) (prs ls)).length).map fun (i:Nat)=>pr (T ls i) (if cy ls i∈rs then 1 else 0))=prs (mkr rs ls):=by
  rw[zl];unfold mkr prs;rw[List.map_map];rfl
 rw[en];exact q _ _ (K3.trans Kp.app) (by have:=K3.1;lia) (by simp)
end
end CX
end
section
namespace CX
open L2 DL
open CV
open CB (Bd lrd)
noncomputable def onw (L:List Pt)(i:Nat):List Pt:=L.drop i ++ L.take i
def rdg (L:List Pt)(i:Nat)(b:Bool):List Pt:=if b then (onw L i).take 1 ++ ((onw L i).drop 1).reverse else onw L i
def bsd (ls:List Pt)(i:Nat)(b:Bool):Pt:=if b then cy ls ((i:Int) - 1) else cy ls ((i:Int) + 1)
def Bst (lo:Nat)(L ls:List Pt)(S:Nat->Bool->Prop)(v3 v4:D)(M:Sto):Prop:=(v3= .non/\v4= .non/\ ∀ i b,¬ S i b)\/ ∃ i b o,(S i b/\lo<=o)/\v3= .ref o/\v4= .tup [pr (cy ls (i:Nat)).1 (cy ls (i:Nat)).2,pr (bsd ls i b).1 (bsd ls i b).2]/\M[o]?=some (.lst (prs (rdg L i b)))/\ ∀ i' b',S i' b'->ltP (rdg L i' b') (rdg L i b)=false
theorem Bst.congr {lo:Nat}{L ls:List Pt}{S S':Nat->Bool->Prop}{v3 v4:D}{M:Sto}(h: ∀ i b,S i b ↔ S' i b)(k:Bst lo L ls S v3 v4 M):Bst lo L ls S' v3 v4 M:=by
 rcases k with ⟨h1,h2,h3⟩ | ⟨i,b,o,h1,h2,h3,h4,h5⟩
 ·exact .inl ⟨h1,h2,fun i b k=>h3 i b ((h i b).mpr k)⟩
 ·exact .inr ⟨i,b,o,⟨(h i b).mp h1.1,h1.2⟩,h2,h3,h4,fun i' b' k=>h5 i' b' ((h i' b').mpr k)⟩
theorem Bst.kp {lo:Nat}{L ls:List Pt}{S:Nat->Bool->Prop}{v3 v4:D}{M M':Sto}(k:Bst lo L ls S v3 v4 M)(K:Kp M M'):Bst lo L ls S v3 v4 M':=by
 rcases k with h | ⟨i,b,o,h1,h2,h3,h4,h5⟩
 ·exact .inl h
 ·exact .inr ⟨i,b,o,h1,h2,h3,K.get h4,h5⟩
section
variable {Q:W0}{E:W2}{M:Sto}{n m p:Nat}{rs ls L:List Pt}{N B C:W1}{R:W0}
theorem ZpP:isP D.non D.non=some true:=rfl
theorem ZpQ {o:Nat}:isP (D.ref o) D.non=some false:=rfl
theorem ZtK {lo i:Nat}{bk:Bool}{S:Nat->Bool->Prop}{v3 v4:D}{r:Nat}{a0 a1 a2 a5 a7 a8:Option D}(hr:M[r]?=some (.lst (prs (rdg L i bk))))(hlo:lo<=r)(hB:Bst lo L ls S v3 v4 M)
  (hN: ∀ v3 v4,Bst lo L ls (fun i' b'=>S i' b'\/(i'=i/\b'=bk)) v3 v4 M->N [a0,a1,a2,some v3,some v4,a5,some (pr (cy ls i).1 (cy ls i).2),a7,a8,some (.ref r),some (pr (bsd ls i bk).1 (bsd ls i bk).2)] M):
  wS (ZL [a0,a1,a2,some v3,some v4,a5,some (pr (cy ls i).1 (cy ls i).2),a7,a8,some (.ref r),some (pr (bsd ls i bk).1 (bsd ls i bk).2)] M) N R B C E:=by
 rcases hB with ⟨rfl,rfl,h0⟩ | ⟨i0,b0,o,s0,rfl,rfl,ro,hb⟩
 ·simp![ZL,ZpP]
  refine hN _ _ (.inr ⟨i,bk,r,⟨.inr ⟨rfl,rfl⟩,hlo⟩,rfl,rfl,hr,fun i' b' h=> ?_⟩)
  rcases h with h | ⟨rfl,rfl⟩
  ·exact absurd h (h0 i' b')
  ·exact Ze1
 ·simp![ZL,ZpQ,ZsD hr ro]
  refine ZrR (fun z=> ?_) (fun z=> ?_)
  ·simp![Zn]
   refine hN _ _ (.inr ⟨i,bk,r,⟨.inr ⟨rfl,rfl⟩,hlo⟩,rfl,rfl,hr,fun i' b' h=> ?_⟩)
   rcases h with h | ⟨rfl,rfl⟩
   ·have:=hb i' b' h
    cases e:ltP (rdg L i' b') (rdg L i bk) with
    |false=>rfl
    |true=>rw[Zeo e z] at this;cases this
   ·exact Ze1
  ·simp![Zn]
   refine hN _ _ (.inr ⟨i0,b0,o,⟨.inl s0.1,s0.2⟩,rfl,rfl,ro,fun i' b' h=> ?_⟩)
   rcases h with h | ⟨rfl,rfl⟩
   ·exact hb i' b' h
   ·exact z
noncomputable def St (i t:Nat)(i':Nat)(b':Bool):Prop:=i' < i\/(i'=i/\((b'=false/\0 < t)\/(b'=true/\1 < t)))
theorem ZbL (h:M[n]?=some (.lst (prs rs)))(hr:Rn rs)(hb:Nr 200 rs)(hl:rs.length<=61)(hll:(lrd rs).length<=1000000)
  (q: ∀ i b o M',Kp M M'->i < (lrd rs).length->(∀ i' b',i' < (lrd rs).length->ltP (rdg (mkr rs (lrd rs)) i' b') (rdg (mkr rs (lrd rs)) i b)=false)->M.length<=o->M'[o]?=some (.lst (prs (rdg (mkr rs (lrd rs)) i b)))->Q (.tup [.ref o,.tup [pr (cy (lrd rs) (i:Nat)).1 (cy (lrd rs) (i:Nat)).2,pr (bsd (lrd rs) i b).1 (bsd (lrd rs) i b).2]]) M'):wO (F_first_reading [.ref n] M) Q E:=by
 have hn:=Zu h
 have hs:=hr.least hb
 have W:=hr.wgs hb
 have lb:Nr 18446744073709551615 (lrd rs):=fun x hx=>by
  have:=CB.ZeW (B:=200) (by decide) _ W (fun y hy=>hb y (by
   rcases List.mem_append.mp hy with hy | hy
   ·exact hy
   ·exact List.mem_of_mem_take hy)) x hx
  obtain ⟨⟨a1,a2⟩,a3,a4⟩:=this
  lia
 simp![F_first_reading,Z9];refine CL.ZeY h hr.ne W hl (fun x hx=>hb x hx) fun M1 K1 r1=> ?_
 generalize hls:lrd rs=ls at *;have l1:=Zu r1
 generalize hm1:M.length=m1 at *;simp![Zn];refine ZjO (K1.get h) r1 hs (by lia) hll lb fun k M2 K2 k2 r2=> ?_
 generalize hL:mkr rs ls=L at *;have Ll:L.length=ls.length:=by rw[<- hL,ZQ]
 have r12:=K2.get r1
 have K12:=K1.trans K2
 simp![Zn];refine ZhR (fun i ρ M'=>Kp M2 M'/\ ∃ v3 v4 x5 x6 x7 x8 x9 x10,ρ=[some (.ref n),some (.ref m1),some (.ref k),some v3,some v4,x5,x6,x7,x8,x9,x10]/\Bst m1 L ls (St i 0) v3 v4 M') r12 ⟨Kp.refl,_,_,_,_,_,_,_,_,rfl,.inl ⟨rfl,rfl,fun i b z=>by unfold St at z;lia⟩⟩ (fun i ρ M' hI=>hI.1.get r12) ?_ ?_
 ·rintro i ρ M3 hi ⟨K3,v3,v4,x5,x6,x7,x8,x9,x10,rfl,hB⟩
  rw[Zw] at hi;rw[CC.Zad];have r3:=K3.get r2
  have s3:=K3.get r12
  have hk3:=Zu r3
  have hm3:=Zu s3
  have ei:((i:Nat):Int).toNat=i:=by lia
  simp![ZR,r3,Zve];refine ⟨by rw[List.length_take,List.length_drop];lia,?_⟩
  rw[ei];refine ⟨by rw[List.length_reverse,Zw,List.length_take,List.length_drop,List.length_append,List.length_take,List.length_drop];lia,?_⟩
  generalize hM4:M3 ++ [SO.lst (prs (L.drop i)),SO.lst (prs (L.take i)),SO.lst (prs (L.drop i ++ L.take i)),SO.lst (prs ((L.drop i ++ L.take i).take 1)),SO.lst (prs ((L.drop i ++ L.take i).drop 1)).reverse,SO.lst (prs ((L.drop i ++ L.take i).take 1) ++ (prs ((L.drop i ++ L.take i).drop 1)).reverse)]=M4;have K4:Kp M3 M4:=by rw[<- hM4];exact Kp.app
  have s4:=K4.get s3
  have ro:M4[M3.length + 2]?=some (.lst (prs (rdg L i false))):=by rw[<- hM4,Zf5];rfl
  have rb:M4[M3.length + 5]?=some (.lst (prs (rdg L i true))):=by
   rw[<- hM4,Zf5]
   simp[rdg,onw,prs]
  have hB4:=hB.kp K4
  have KK:=K3.trans K4
  clear hM4;have kl:=(K12.trans K3).1
  have g1:m1<=M3.length + 2:=by lia
  have g2:m1<=M3.length + 5:=by lia
  generalize M3.length + 2=o1 at *;generalize M3.length + 5=o2 at *;have hm4:=Zu s4
  rw[CC.ZaU s4 (by lia)]
  simp![s4,ZbG];have K5:Kp M4 (M4 ++ [SO.lst [D.tup [D.ref o1,pr (cy ls ((i:Int) + 1)).1 (cy ls ((i:Int) + 1)).2],D.tup [D.ref o2,pr (cy ls ((i:Int) - 1)).1 (cy ls ((i:Int) - 1)).2]]]):=Kp.app
  have r5:(M4 ++ [SO.lst [D.tup [D.ref o1,pr (cy ls ((i:Int) + 1)).1 (cy ls ((i:Int) + 1)).2],D.tup [D.ref o2,pr (cy ls ((i:Int) - 1)).1 (cy ls ((i:Int) - 1)).2]]])[M4.length]?=some (.lst [D.tup [D.ref o1,pr (cy ls ((i:Int) + 1)).1 (cy ls ((i:Int) + 1)).2],D.tup [D.ref o2,pr (cy ls ((i:Int) - 1)).1 (cy ls ((i:Int) - 1)).2]]):=by simp
  generalize M4 ++ [SO.lst [D.tup [D.ref o1,pr (cy ls ((i:Int) + 1)).1 (cy ls ((i:Int) + 1)).2],D.tup [D.ref o2,pr (cy ls ((i:Int) - 1)).1 (cy ls ((i:Int) - 1)).2]]]=M5 at *;have ro5:=K5.get ro
  have rb5:=K5.get rb
  have hB5:=hB4.kp K5
  refine ZdA (fun t ρ M'=>M'=M5/\ ∃ v3 v4 x9 x10,ρ=[some (.ref n),some (.ref m1),some (.ref k),some v3,some v4,some (.int i),some (pr (cy ls i).1 (cy ls i).2),some (.ref o1),some (.ref o2),x9,x10]/\Bst m1 L ls (St i t) v3 v4 M5) r5 ⟨rfl,_,_,_,_,rfl,hB5⟩ (fun t ρ M' hI=>by rw[hI.1];exact r5) ?_ ?_
  ·rintro t ρ M' ht ⟨rfl,v3,v4,x9,x10,rfl,hB⟩
   have:t=0\/t=1:=by simp at ht;lia
   rcases this with rfl | rfl
   ·simp only[List.getElem_cons_zero]
    simp![Zn];refine ZtK (i:=i) (bk:=false) ro5 (by lia) hB fun v3 v4 k=>⟨rfl,v3,v4,_,_,rfl,k.congr fun i' b'=> ?_⟩
    unfold St;cases b'<;>simp
   ·simp only[List.getElem_cons_succ,List.getElem_cons_zero]
    simp![Zn];refine ZtK (i:=i) (bk:=true) rb5 (by lia) hB fun v3 v4 k=>⟨rfl,v3,v4,_,_,rfl,k.congr fun i' b'=> ?_⟩
    unfold St;cases b'<;>simp
  ·rintro ρ M' ⟨rfl,v3,v4,x9,x10,rfl,hB⟩
   refine ⟨KK.trans K5,v3,v4,_,_,_,_,_,_,rfl,hB.congr fun i' b'=> ?_⟩
   unfold St;cases b'<;>simp<;>lia
 ·rintro ρ M3 ⟨K3,v3,v4,x5,x6,x7,x8,x9,x10,rfl,hB⟩
  have sl:=hs.len
  rcases hB with ⟨h1,h2,h3⟩ | ⟨i,b,o,h1,rfl,rfl,h4,h5⟩
  ·exact absurd (.inl (by rw[Zw];lia)) (h3 0 false)
  ·simp![Zn]
   unfold St at h1 h5;rw[Zw] at h1 h5;exact q i b o M3 (K12.trans K3) (by lia) (fun i' b' hi'=>h5 i' b' (.inl hi')) h1.2 h4
end
end CX
end
section
namespace CX
open L2 DL
open CB (Bd lrd Zaa seg)
open CD (gg Zgj sg)
section
variable {rs ls L L' O:List Pt}
theorem ZsF (ne:O≠[])(i:Int):cy (O.drop 1 ++ O.take 1).reverse i=cy O (0 - i):=by
 have h3:1<=O.length:=List.length_pos_iff.mpr ne
 have nn:O.drop 1 ++ O.take 1≠[]:=fun z=>by
  have:=congrArg List.length z
  rw[List.length_append,List.length_drop,List.length_take,List.length_nil] at this;lia
 rw[CA.Zfy nn,Zaj (by lia)]
 congr 1
 simp only[Int.natCast_one,show ((1:Nat):Int)=1 from rfl];lia
theorem Zms (i d:Int):cy rs (i % rs.length + d)=cy rs (i + d):=by
 unfold cy;rw[Int.emod_add_emod]
theorem ZsG {n:Nat}(F:Int->Pt)(hn:0 < n)(per: ∀ i,F (i % n)=F i)(i:Int):cy ((List.range n).map fun (i:Nat)=>F i) i=F i:=by
 have e:=Z0 (i:=i) (m:=n) (by lia)
 have l:((List.range n).map fun (i:Nat)=>F i).length=n:=by simp
 have:cy ((List.range n).map fun (i:Nat)=>F i) i=cy ((List.range n).map fun (i:Nat)=>F i) ((i % n).toNat:Nat):=by
  rw[<- Z8,l]
  congr 1
  lia
 rw[this,Zbj (by rw[l];exact e.1),List.getElem_map,List.getElem_range,<- per i]
 congr 1
 lia
theorem Zc7 (hl:ls≠[])(i:Int):cy (mkr rs ls) i=(T ls i,if cy ls i∈rs then 1 else 0):=by
 unfold mkr;refine ZsG (fun i=>(T ls i,if cy ls i∈rs then 1 else 0)) (List.length_pos_iff.mpr hl) (fun i=> ?_) i
 have e0:cy ls (i % ls.length)=cy ls i:=Z8
 have e1:T ls (i % ls.length)=T ls i:=by
  unfold T;rw[show i % (ls.length:Int) - 1=i % ls.length + -1 by lia,show i - 1=i + -1 by lia,Zms,Zms]
 simp only[e0,e1]
def fn (L:List Pt)(x s:Int):List Pt:=(List.range L.length).map fun (t:Nat)=>cy L (x + s * t)
noncomputable def sn (b:Bool):Int:=if b then -1 else 1
theorem Ze2 {i:Nat}:(onw L i).length=L.length:=by unfold onw;rw[List.length_append,List.length_drop,List.length_take];lia
theorem Zeq {i:Nat}{b:Bool}(hi:i < L.length):rdg L i b=fn L i (sn b):=by
 have ne:onw L i≠[]:=fun z=>by
  have:=congrArg List.length z
  rw[Ze2] at this
  simp at this
  rw[this] at hi
  simp at hi
 cases b with
 |false=>
  show onw L i=_
  rw[<- Zat (us:=onw L i),Ze2];unfold fn sn;refine List.map_congr_left fun t _=> ?_
  unfold onw;rw[Zaj (by lia)]
  congr 1
  simp
  lia
 |true=>
  have e:rdg L i true=((onw L i).drop 1 ++ (onw L i).take 1).reverse:=by
   show (onw L i).take 1 ++ ((onw L i).drop 1).reverse=_
   obtain ⟨x,r,hx⟩:=List.exists_cons_of_ne_nil ne
   rw[hx]
   simp
  rw[e,<- Zat (us:=((onw L i).drop 1 ++ (onw L i).take 1).reverse)];have l:((onw L i).drop 1 ++ (onw L i).take 1).reverse.length=L.length:=by
   rw[List.length_reverse,List.length_append,List.length_drop,List.length_take,Ze2];lia
  rw[l];unfold fn sn;refine List.map_congr_left fun t _=> ?_
  rw[ZsF ne];unfold onw;rw[Zaj (by lia)]
  congr 1
  simp
  lia
theorem ZpR {x s:Int}:fn L (x % L.length) s=fn L x s:=by
 unfold fn;refine List.map_congr_left fun t _=> ?_
 exact Zms x _
theorem ZkI {s j:Int}(hs:s=1\/s= -1)(hl:L'.length=L.length)(h: ∀ i,cy L' i=cy L (s * i + j)){i:Nat}{b:Bool}(hi:i < L'.length): ∃ i0 b0,i0 < L.length/\rdg L' i b=rdg L i0 b0:=by
 have e:=Z0 (i:=s * i + j) (m:=L.length) (by lia)
 obtain ⟨b0,hb0⟩: ∃ b0,sn b0=s * sn b:=by
  rcases hs with rfl | rfl
  ·exact ⟨b,by lia⟩
  ·exact ⟨!b,by cases b<;>decide⟩
 refine ⟨((s * i + j) % L.length).toNat,b0,e.1,?_⟩
 rw[Zeq hi,Zeq e.1,Int.toNat_of_nonneg e.2,ZpR,hb0];unfold fn;rw[hl];refine List.map_congr_left fun t _=> ?_
 rw[h]
 congr 1
 rw[Int.mul_add,Int.mul_assoc];lia
theorem Zip {s j:Int}(hs:s=1\/s= -1)(hl:L'.length=L.length)(h: ∀ i,cy L' i=cy L (s * i + j)){i i':Nat}{b b':Bool}(hi:i < L.length)(hi':i' < L'.length)(m: ∀ x y,x < L.length->ltP (rdg L x y) (rdg L i b)=false)(m': ∀ x y,x < L'.length->ltP (rdg L' x y) (rdg L' i' b')=false):rdg L' i' b'=rdg L i b:=by
 obtain ⟨x,y,hx,e⟩:=ZkI hs hl h (b:=b') hi'
 have h': ∀ k,cy L k=cy L' (s * k + -(s * j)):=fun k=>by
  rw[h]
  congr 1
  rcases hs with rfl | rfl<;>lia
 obtain ⟨x',y',hx',e'⟩:=ZkI hs hl.symm h' (b:=b) hi
 exact Zim (by rw[e];exact m x y hx) (by rw[e'];exact m' x' y' hx')
theorem Zmt {a b c d:Int}{k:Nat}(hr:Rn rs)(hb:Nr 200 rs)(hg:Nr 200 (rs.map (gg a b c d)))(hd:a * d - b * c=1\/a * d - b * c= -1)(hk:k<=rs.length):
  (lrd (sg (decide (a * d - b * c < 0)) k (rs.map (gg a b c d)))).length=(lrd rs).length/\ ∃ j:Int,∀ i:Int,cy (mkr (sg (decide (a * d - b * c < 0)) k (rs.map (gg a b c d))) (lrd (sg (decide (a * d - b * c < 0)) k (rs.map (gg a b c d))))) i=cy (mkr rs (lrd rs)) ((a * d - b * c) * i + j):=by
 obtain ⟨j,e1,e2⟩:=CB.ZkG hr hb hg hd hk
 refine ⟨e1,j,fun i=> ?_⟩
 have ne:=(hr.least hb).ne
 have ne':lrd (sg (decide (a * d - b * c < 0)) k (rs.map (gg a b c d)))≠[]:=fun z=>by
  rw[z] at e1;exact ne (List.eq_nil_of_length_eq_zero e1.symm)
 have sm: ∀ x,x∈sg (decide (a * d - b * c < 0)) k (rs.map (gg a b c d)) ↔ x∈rs.map (gg a b c d):=fun x=>by
  unfold sg;generalize decide (a * d - b * c < 0)=neg
  have: ∀ l:List Pt,x∈l.drop k ++ l.take k ↔ x∈l:=fun l=>by
   conv=>rhs;rw[<- List.take_append_drop k l]
   rw[List.mem_append,List.mem_append];exact Or.comm
  rw[this];cases neg<;>simp
 rw[Zc7 ne',Zc7 ne,CB.ZsC e2 hd i]
 congr 1
 have:cy (lrd (sg (decide (a * d - b * c < 0)) k (rs.map (gg a b c d)))) i∈sg (decide (a * d - b * c < 0)) k (rs.map (gg a b c d)) ↔ cy (lrd rs) ((a * d - b * c) * i + j)∈rs:=by
  rw[sm,e2]
  constructor
  ·intro h
   obtain ⟨y,hy,e⟩:=List.mem_map.mp h
   rw[<- CB.Zil hd e];exact hy
  ·intro h
   exact List.mem_map.mpr ⟨_,h,rfl⟩
 simp only[this]
theorem ZfE: ∀ (l:List Pt) (z:Pt),∀ x∈l,x∈Zaa (l ++ [z])
 | [],_,x,h=>by cases h
 | [a],z,x,h=>by
  simp at h
  subst h
  simp[Zaa,seg]
 |a :: b :: l,z,x,h=>by
  have ih:=ZfE (b :: l) z
  show x∈seg a b ++ Zaa (b :: (l ++ [z]))
  rcases List.mem_cons.mp h with h | h
  ·subst h
   exact List.mem_append_left _ (by simp[seg])
  ·exact List.mem_append_right _ (ih x h)
theorem Ziq (ne:rs≠[]): ∀ x∈rs,x∈lrd rs:=by
 obtain ⟨a,r,rfl⟩:=List.exists_cons_of_ne_nil ne
 exact ZfE (a :: r) a
theorem ZfF (h:Rn rs):rs.Nodup:=by
 rw[List.Nodup,List.pairwise_iff_getElem];intro i j hi hj hij
 have:=h.lt_ne hij hj
 rwa [Zbj hi,Zbj hj] at this
theorem ZfG {i:Nat}{b:Bool}:(rdg L i b).Perm L:=by
 have o:(onw L i).Perm L:=by
  unfold onw;refine List.perm_append_comm.trans ?_
  rw[List.take_append_drop]
 cases b with
 |false=>exact o
 |true=>
  show ((onw L i).take 1 ++ ((onw L i).drop 1).reverse).Perm L
  refine List.Perm.trans ?_ o
  conv=>rhs;rw[<- List.take_append_drop 1 (onw L i)]
  exact List.Perm.append_left _ (List.reverse_perm _)
end
end CX
end
section
namespace CX
open L2 DL
open CB (Bd lrd)
open CV
open CD (gg sg)
section
variable {M:Sto}{n:Nat}{rs cs ls L L':List Pt}
theorem ZpS {p:Pt}(h:Int.gcd p.1 p.2=1):CQ.shp p=p:=by
 unfold CQ.shp;rw[if_neg (by lia),h]
 exact Prod.ext (Int.ediv_one _) (Int.ediv_one _)
theorem Zir {k:Nat}(h:Rn rs):Rn (rs.drop k ++ rs.take k):=by
 refine ⟨?_,?_,fun p hp=>h.gc p ?_,h.fan.rot⟩
 ·have:=h.len
  rw[List.length_append,List.length_drop,List.length_take];lia
 ·rw[Za4,List.take_append_drop]
  exact h.ps
 ·rcases List.mem_append.mp hp with hp | hp
  ·exact List.mem_of_mem_drop hp
  ·exact List.mem_of_mem_take hp
theorem Zis {a b c d:Int}{k:Nat}(h:Rn rs)(hd:a * d - b * c=1\/a * d - b * c= -1):Rn (sg (decide (a * d - b * c < 0)) k (rs.map (gg a b c d))):=by
 have gc: ∀ p∈rs,Int.gcd (gg a b c d p).1 (gg a b c d p).2=1:=fun p hp=>CB.ZcP (h.gc p hp) hd
 rcases hd with hd | hd
 ·have e:rs.map (gg a b c d)=rs.map fun p=>CQ.shp (gg a b c d p):=List.map_congr_left fun p hp=>(ZpS (gc p hp)).symm
  have:=CQ.Rn.led (a:=a) (b:=b) (c:=c) (d:=d) h (by lia)
  rw[<- e] at this;rw[hd];exact Zir this
 ·have f:Rn (rs.map (gg a b c d)).reverse:=by
   refine ⟨by rw[List.length_reverse,List.length_map];exact h.len,?_,fun p hp=> ?_,h.fan.flip (f:=gg a b c d) fun p q=>by rw[CD.Zgj,hd]⟩
   ·rw[ZeR,Za5,CQ.Zcg (g:=nxp)]
    ·exact h.ps
    ·intro p _ q _
     unfold nxp;rw[CD.Zgj,hd,ZcG (p:=q)];have e:(0 < -1 * (0 - X p q))=(0 < X p q):=propext (by lia)
     simp only[e]
   ·obtain ⟨x,hx,rfl⟩:=List.mem_map.mp (List.mem_reverse.mp hp)
    exact gc x hx
  rw[hd];exact Zir f
theorem Zmu {neg:Bool}{k:Nat}{us:List Pt}(h:Nr 200 us):Nr 200 (sg neg k us):=by
 intro x hx;refine h x ?_
 unfold sg at hx;cases neg
 ·rcases List.mem_append.mp hx with hx | hx
  ·exact List.mem_of_mem_drop hx
  ·exact List.mem_of_mem_take hx
 ·rcases List.mem_append.mp hx with hx | hx
  ·exact List.mem_reverse.mp (List.mem_of_mem_drop hx)
  ·exact List.mem_reverse.mp (List.mem_of_mem_take hx)
theorem Zit {i:Nat}{b:Bool}:(rdg L i b).length=L.length:=ZfG.length_eq
theorem Ziu {L:List Pt}{o:Nat}(hb:Bag n M)(r:M[o]?=some (.lst (prs L)))(h3:3<=L.length):o≠n:=by
 rintro rfl
 obtain ⟨a,b,_,e⟩:=hb
 rw[r] at e
 have:=congrArg (fun x:Option SO=>match x with | some (.lst l)=>l.length | none=>0) e
 simp[Zw] at this
 lia
theorem Zmv:(lrd [(1,0),(0,1),(-1,-1)]).length<=1000000:=by
 have w:=CC.Zsn.rn.wgs (fun x hx=>by simp at hx;rcases hx with rfl | rfl | rfl<;>simp)
 have:=CL.ZeX _ w fun A a b R e=>by
  have m: ∀ z∈([(1,0),(0,1),(-1,-1)]:List Pt) ++ [(1,0),(0,1),(-1,-1)].take 1,Bd 200 z:=fun z hz=>by
   simp at hz
   rcases hz with rfl | rfl | rfl | rfl<;>exact ⟨by decide,by decide⟩
  have:=CB.ZtI (m a (by rw[e];simp)) (m b (by rw[e];simp))
  lia
 unfold lrd
 simp at this ⊢
 lia
theorem ZkJ (hs:Smo L){s:Int}(h:s=1\/s= -1)(j:Int):(cy L (j + s)).1= -(T L j) * (cy L j).1 - (cy L (j - s)).1/\(cy L (j + s)).2= -(T L j) * (cy L j).2 - (cy L (j - s)).2:=by
 have:=CN.Zmf hs j
 rcases h with rfl | rfl
 ·lia
 ·rw[show j + -1=j - 1 by lia,show j - -1=j + 1 by lia]
  lia
theorem ZjP (b:Bool):sn b=1\/sn b= -1:=by cases b<;>simp[sn]
theorem Ziv {i:Nat}{b:Bool}:bsd L i b=cy L ((i:Int) + sn b):=by cases b<;>rfl
theorem ZkK {x s:Int}{t:Nat}(ht:t < L.length):(fn L x s)[t]?=some (cy L (x + s * t)):=by
 unfold fn;rw[List.getElem?_map,List.getElem?_range ht]
 rfl
theorem ZpT {i i':Nat}{b b':Bool}(ne:L≠[])(ne':L'≠[])(hi:i < L.length)(hi':i' < L'.length)(e:rdg (mkr rs L) i b=rdg (mkr cs L') i' b'):
  L.length=L'.length/\ ∀ t:Nat,t < L.length->T L (i + sn b * t)=T L' (i' + sn b' * t)/\(cy L (i + sn b * t)∈rs ↔ cy L' (i' + sn b' * t)∈cs):=by
 have hl:L.length=L'.length:=by
  have:=congrArg List.length e
  rwa [Zit,Zit,ZQ,ZQ] at this
 refine ⟨hl,fun t ht=> ?_⟩
 rw[Zeq (by rw[ZQ];exact hi),Zeq (by rw[ZQ];exact hi')] at e
 have e:=congrArg (fun l:List Pt=>l[t]?) e
 rw[ZkK (by rw[ZQ];exact ht),ZkK (by rw[ZQ];lia),Zc7 ne,Zc7 ne'] at e
 have e:=Option.some.inj e
 refine ⟨congrArg Prod.fst e,?_⟩
 have e2:=congrArg Prod.snd e
 simp only at e2
 constructor
 ·intro h
  rw[if_pos h] at e2
  by_cases c:cy L' (i' + sn b' * t)∈cs
  ·exact c
  ·rw[if_neg c] at e2;cases e2
 ·intro h
  rw[if_pos h] at e2
  by_cases c:cy L (i + sn b * t)∈rs
  ·exact c
  ·rw[if_neg c] at e2;cases e2
theorem Zmw {a b c d k:Int}{x y z x' y' z':Pt}(hx:gg a b c d x=x')(hy:gg a b c d y=y')(h1:z.1= -k * y.1 - x.1)(h2:z.2= -k * y.2 - x.2)(h3:z'.1= -k * y'.1 - x'.1)(h4:z'.2= -k * y'.2 - x'.2):gg a b c d z=z':=by
 subst hx hy;unfold gg at *
 simp only at h3 h4 ⊢
 refine Prod.ext ?_ ?_
 ·rw[h3];simp only[h1,h2];grind
 ·rw[h4];simp only[h1,h2];grind
theorem Zmx {a b c d:Int}{i i':Nat}{k k':Bool}(hs:Smo L)(hs':Smo L')(hi:i < L.length)(hi':i' < L'.length)(e:rdg (mkr rs L) i k=rdg (mkr cs L') i' k')(f0:gg a b c d (cy L i)=cy L' i')(f1:gg a b c d (bsd L i k)=bsd L' i' k'):
  ∀ t:Nat,t < L.length->gg a b c d (cy L (i + sn k * t))=cy L' (i' + sn k' * t)/\gg a b c d (cy L (i + sn k * (t + 1:Nat)))=cy L' (i' + sn k' * (t + 1:Nat)):=by
 obtain ⟨hl,h⟩:=ZpT hs.ne hs'.ne hi hi' e
 intro t
 induction t with
 |zero=>
  intro _;rw[Ziv,Ziv] at f1;refine ⟨?_,?_⟩
  ·simpa using f0
  ·simpa using f1
 |succ t ih=>
  intro ht;obtain ⟨h1,h2⟩:=ih (by lia)
  refine ⟨h2,?_⟩
  obtain ⟨e1,-⟩:=h (t + 1) ht
  have a1:=ZkJ hs (ZjP k) (i + sn k * (t + 1:Nat))
  have a2:=ZkJ hs' (ZjP k') (i' + sn k' * (t + 1:Nat))
  rw[<- e1] at a2;have z1: ∀ (j s:Int),j + s * ((t + 1 + 1:Nat):Int)=j + s * ((t + 1:Nat):Int) + s:=fun j s=>by grind
  have z2: ∀ (j s:Int),j + s * ((t + 1:Nat):Int) - s=j + s * (t:Int):=fun j s=>by grind
  rw[z2] at a1 a2;rw[z1,z1];exact Zmw h1 h2 a1.1 a1.2 a2.1 a2.2
theorem Zil {a b c d:Int}(hd:a * d - b * c=1\/a * d - b * c= -1){p q:Pt}(h:gg a b c d p=gg a b c d q):p=q:=by
 unfold gg at h;have h1:=congrArg Prod.fst h
 have h2:=congrArg Prod.snd h
 simp only at h1 h2
 refine Prod.ext ?_ ?_<;>rcases hd with hd | hd<;>grind
theorem ZpU {i:Nat}{b:Bool}(hi:i < L.length){p:Pt}(h:p∈L): ∃ t:Nat,t < L.length/\cy L (i + sn b * t)=p:=by
 have h:=(ZfG (i:=i) (b:=b)).mem_iff.mpr h
 rw[Zeq hi] at h;obtain ⟨t,ht,e⟩:=List.mem_map.mp h
 exact ⟨t,List.mem_range.mp ht,e⟩
theorem Zmy {a b c d:Int}{i i':Nat}{k k':Bool}(hr:Rn rs)(hb:Nr 200 rs)(hr':Rn cs)(hb':Nr 200 cs)(hi:i < (lrd rs).length)(hi':i' < (lrd cs).length)(e:rdg (mkr rs (lrd rs)) i k=rdg (mkr cs (lrd cs)) i' k')(hd:a * d - b * c=1\/a * d - b * c= -1)
  (f0:gg a b c d (cy (lrd rs) i)=cy (lrd cs) i') (f1:gg a b c d (bsd (lrd rs) i k)=bsd (lrd cs) i' k'):(rs.map (gg a b c d)).Perm cs:=by
 have hs:=hr.least hb
 have hs':=hr'.least hb'
 obtain ⟨hl,hm⟩:=ZpT hs.ne hs'.ne hi hi' e
 have hf:=Zmx hs hs' hi hi' e f0 f1
 refine (List.perm_ext_iff_of_nodup (List.Pairwise.map _ (fun x y (h:x≠y) z=>h (Zil hd z)) (ZfF hr)) (ZfF hr')).mpr fun x=>⟨fun h=> ?_,fun h=> ?_⟩
 ·obtain ⟨p,hp,rfl⟩:=List.mem_map.mp h
  obtain ⟨t,ht,rfl⟩:=ZpU (b:=k) hi (Ziq hr.ne p hp)
  rw[(hf t ht).1];exact (hm t ht).2.mp hp
 ·obtain ⟨t,ht,rfl⟩:=ZpU (b:=k') hi' (Ziq hr'.ne x h)
  have ht':t < (lrd rs).length:=by lia
  exact List.mem_map.mpr ⟨_,(hm t ht').2.mpr h,(hf t ht').1⟩
end
end CX
end
section
namespace CP
open L2 DL
open CC (F_crossed)
open CX (F_first_reading)
def ZcR:Sv:=(Z5 (e2 dEq (Zk bAbs (Zc (Zk F_crossed (Zc (Zg 0) (Zc (Zg 1) aNil))) aNil)) (eC (.int 1))))
def F_spanned:W3:=fnF ZcR 2 0
def ZdF:Sv:=(ZE (ZJ (gTp (gCs (gTp (gCs (gNm 2) (gCs (gNm 3) gNl))) (gCs (gTp (gCs (gNm 4) (gCs (gNm 5) gNl))) gNl))) (Zg 0))
 (ZE (ZJ (gTp (gCs (gNm 6) (gCs (gNm 7) gNl))) (Zg 1))
 (Z5 (Z4 (Zc (e2 dAdd (e2 dMul (Zg 2) (Zg 6)) (e2 dMul (Zg 3) (Zg 7))) (Zc (e2 dAdd (e2 dMul (Zg 4) (Zg 6)) (e2 dMul (Zg 5) (Zg 7))) aNil))))))
def F_turned:W3:=fnF ZdF 2 6
def Ziw:Sv:=(ZE (ZJ (gTp (gCs (gTp (gCs (gNm 1) (gCs (gNm 2) gNl))) (gCs (gTp (gCs (gNm 3) (gCs (gNm 4) gNl))) gNl))) (Zg 0))
 (ZE (ZJ (gNm 5) (Zk F_crossed (Zc (Z4 (Zc (Zg 1) (Zc (Zg 2) aNil))) (Zc (Z4 (Zc (Zg 3) (Zc (Zg 4) aNil))) aNil))))
 (Z5 (Z4 (Zc (Z4 (Zc (e2 dMul (Zg 5) (Zg 4)) (Zc (e2 dMul (ZdW (Zg 5)) (Zg 2)) aNil))) (Zc (Z4 (Zc (e2 dMul (ZdW (Zg 5)) (Zg 3)) (Zc (e2 dMul (Zg 5) (Zg 1)) aNil))) aNil))))))
def F_back:W3:=fnF Ziw 1 5
def Zch:Sv:=(Z5 (Z4 (Zc (Z4 (Zc (e2 dIx (Zg 0) (eC (.int 0))) (Zc (e2 dIx (Zg 1) (eC (.int 0))) aNil))) (Zc (Z4 (Zc (e2 dIx (Zg 0) (eC (.int 1))) (Zc (e2 dIx (Zg 1) (eC (.int 1))) aNil))) aNil))))
def F_beside:W3:=fnF Zch 2 0
def Zix:Sv:=(ZE (ZJ (gNm 2) (Zk F_turned (Zc (Zg 1) (Zc (Zk F_turned (Zc (Zg 0) (Zc (Z4 (Zc (eC (.int 1)) (Zc (eC (.int 0)) aNil))) aNil))) aNil))))
 (ZE (ZJ (gNm 3) (Zk F_turned (Zc (Zg 1) (Zc (Zk F_turned (Zc (Zg 0) (Zc (Z4 (Zc (eC (.int 0)) (Zc (eC (.int 1)) aNil))) aNil))) aNil))))
 (Z5 (Zk F_beside (Zc (Zg 2) (Zc (Zg 3) aNil))))))
def F_then:W3:=fnF Zix 2 2
def ZcS:Sv:=(ZE (sIf (Zgk (ZcW (tv (Zk F_spanned (Zc (Zg 0) (Zc (Zg 1) aNil))))) (ZcW (tv (Zk F_spanned (Zc (Zg 2) (Zc (Zg 3) aNil)))))) (Zb5 (PySem.Str.ofString "NoTurning") (Zc (eC (.str (PySem.Str.ofString "a turning leads two that span to two that span"))) aNil)) sNil)
 (Z5 (Zk F_then (Zc (Zk F_back (Zc (Zk F_beside (Zc (Zg 0) (Zc (Zg 1) aNil))) aNil)) (Zc (Zk F_beside (Zc (Zg 2) (Zc (Zg 3) aNil))) aNil)))))
def F_leading:W3:=fnF ZcS 4 0
def ZaK:Sv:=(ZE (ZJ (gTp (gCs (gNm 2) (gCs (gTp (gCs (gNm 3) (gCs (gNm 4) gNl))) gNl))) (Zk F_first_reading (Zc (Zg 0) aNil)))
 (ZE (ZJ (gTp (gCs (gNm 5) (gCs (gTp (gCs (gNm 6) (gCs (gNm 7) gNl))) gNl))) (Zk F_first_reading (Zc (Zg 1) aNil)))
 (ZE (sIf (tv (e2 dNe (Zg 2) (Zg 5))) (Z5 (Z4 (Zc (eC (.str (PySem.Str.ofString "unlike"))) (Zc (Zg 2) (Zc (Zg 5) aNil))))) sNil)
 (Z5 (Z4 (Zc (eC (.str (PySem.Str.ofString "alike"))) (Zc (Zk F_leading (Zc (Zg 3) (Zc (Zg 4) (Zc (Zg 6) (Zc (Zg 7) aNil))))) aNil)))))))
def F_likeness:W3:=fnF ZaK 2 6
def ZaF:Sv:=(ZE (sIf (Zgk (ZcW (tv (ZmE "tuple" (Zg 2)))) (Zgk (tv (e2 dNe (Zk bLen (Zc (Zg 2) aNil)) (eC (.int 2)))) (Zgk (tv (e2 dNe (e2 dIx (Zg 2) (eC (.int 0))) (eC (.str (PySem.Str.ofString "alike"))))) (ZcW (tv (ZmE "tuple" (e2 dIx (Zg 2) (eC (.int 1))))))))) (Z5 (eC (.bl false))) sNil)
 (ZE (ZJ (gTp (gCs (gTp (gCs (gNm 3) (gCs (gNm 4) gNl))) (gCs (gTp (gCs (gNm 5) (gCs (gNm 6) gNl))) gNl))) (e2 dIx (Zg 2) (eC (.int 1))))
 (ZE (sIf (tv (e2 dNotIn (e2 dSub (e2 dMul (Zg 3) (Zg 6)) (e2 dMul (Zg 4) (Zg 5))) (Z4 (Zc (eC (.int 1)) (Zc (ZdW (eC (.int 1))) aNil))))) (Z5 (eC (.bl false))) sNil)
 (Z5 (e2 dEq (Zk bSrt (Zc (ZaO (iSq (Zg 0)) 2 [3,4,5,6] (gTp (gCs (gNm 0) (gCs (gNm 1) gNl))) (fun _ M=> .ok true M) (Z4 (Zc (e2 dAdd (e2 dMul (Zg 2) (Zg 0)) (e2 dMul (Zg 3) (Zg 1))) (Zc (e2 dAdd (e2 dMul (Zg 4) (Zg 0)) (e2 dMul (Zg 5) (Zg 1))) aNil)))) aNil)) (Zk bSrt (Zc (Zg 1) aNil)))))))
def F_law_is_alike:W3:=fnF ZaF 3 4
end CP
end
section
namespace CP
open L2 DL
open CB (Bd lrd)
open CV CX
open CD (gg sg)
open CC (F_crossed ZU)
section
variable {Q:W0}{E:W2}{M:Sto}{n m p:Nat}{rs cs ls L:List Pt}{N B C:W1}{R:W0}
noncomputable def kp (p:Pt):List Int:=[p.1,p.2]
noncomputable def up (l:List Int):Pt:=(l.getD 0 0,l.getD 1 0)
def sp (rs:List Pt):List Pt:=(ST.srt (rs.map kp)).map up
theorem ZjQ (h:rs.Perm cs):sp rs=sp cs:=by unfold sp;rw[ST.Zoj (h.map kp)]
theorem ZfH: ∀ rs:List Pt,ksD (prs rs)=some (rs.map kp)
 | []=>rfl
 |x :: r=>by
  have:=ZfH r
  show ksD (pr x.1 x.2 :: prs r)=_
  rw[ksD,this];rfl
theorem Zmz:(ST.srt (rs.map kp)).map tupD=prs (sp rs):=by
 have h: ∀ l∈ST.srt (rs.map kp),tupD l=pr (up l).1 (up l).2:=fun l hl=>by
  obtain ⟨x,-,rfl⟩:=List.mem_map.mp ((ST.ZbD _).mem_iff.mp hl)
  rfl
 rw[List.map_congr_left h];unfold sp prs;rw[List.map_map];rfl
theorem ZjR (h:M[n]?=some (.lst (prs rs)))(hl:rs.length < 64):bSrt [.ref n] M= .ok (.ref M.length) (M ++ [.lst (prs (sp rs))]):=by
 simp only[bSrt,h,ZhK,Zw,ZfH,if_pos hl,Zmz]
theorem ZjS {a b c d x y:Int}(ha: -1000<=a/\a<=1000)(hb: -1000<=b/\b<=1000)(hc: -1000<=c/\c<=1000)(hd: -1000<=d/\d<=1000)(hx: -1000<=x/\x<=1000)(hy: -1000<=y/\y<=1000):wO (F_turned [.tup [pr a b,pr c d],pr x y] M) Q E=Q (pr (a * x + b * y) (c * x + d * y)) M:=by
 simp![F_turned,ZdF]
theorem Zci {a b c d x y:Int}(ha: -1000<=a/\a<=1000)(hb: -1000<=b/\b<=1000)(hc: -1000<=c/\c<=1000)(hd: -1000<=d/\d<=1000)(hx: -1000<=x/\x<=1000)(hy: -1000<=y/\y<=1000)(q:Q (pr (a * x + b * y) (c * x + d * y)) M):wO (F_turned [.tup [pr a b,pr c d],pr x y] M) Q E:=by rw[ZjS ha hb hc hd hx hy];exact q
theorem ZpV {u v p q:Pt}{s:Int}(hs:X u v=s)(h1:s=1\/s= -1)(h2:X p q=1\/X p q= -1)(hu:(-200<=u.1/\u.1<=200)/\ -200<=u.2/\u.2<=200)(hv:(-200<=v.1/\v.1<=200)/\ -200<=v.2/\v.2<=200)(hp:(-200<=p.1/\p.1<=200)/\ -200<=p.2/\p.2<=200)(hq:(-200<=q.1/\q.1<=200)/\ -200<=q.2/\q.2<=200)
  (w:Q (.tup [pr (p.1 * (s * v.2) + q.1 * (-s * u.2)) (p.1 * (-s * v.1) + q.1 * (s * u.1)),pr (p.2 * (s * v.2) + q.2 * (-s * u.2)) (p.2 * (-s * v.1) + q.2 * (s * u.1))]) M):wO (F_leading [pr u.1 u.2,pr v.1 v.2,pr p.1 p.2,pr q.1 q.2] M) Q E:=by
 have h2':(p.1 * q.2 - p.2 * q.1).natAbs=1:=by unfold X at h2;lia
 have h2'':((p.1 * q.2 - p.2 * q.1).natAbs:Int)=1:=by lia
 have e1:u.1 * v.2 - u.2 * v.1=s:=hs
 have e2:u.1 * v.2 - v.1 * u.2=s:=by rw[Int.mul_comm v.1 u.2];exact hs
 have h1':s.natAbs=1:=by lia
 have h1'':(s.natAbs:Int)=1:=by lia
 have b1: ∀ x:Int,(-200<=x/\x<=200)-> -1000<=s * x/\s * x<=1000:=fun x hx=>by rcases h1 with rfl | rfl<;>lia
 have b2: ∀ x:Int,(-200<=x/\x<=200)-> -1000<= -s * x/\ -s * x<=1000:=fun x hx=>by rcases h1 with rfl | rfl<;>lia
 have c1:=b1 v.2 (by lia)
 have c2:=b2 v.1 (by lia)
 have c3:=b2 u.2 (by lia)
 have c4:=b1 u.1 (by lia)
 simp![F_leading,ZcS,F_spanned,ZcR,F_crossed,ZU,F_then,Zix,F_back,Ziw,F_beside,Zch,h2',h2'',e1,e2,h1',h1''];refine Zci c1 c2 c3 c4 (by lia) (by lia) ?_
 simp only[Int.mul_one,Int.mul_zero,Int.add_zero,Int.zero_add];simp![Zn];refine Zci (by lia) (by lia) (by lia) (by lia) c1 c3 ?_
 simp![Zn];refine Zci c1 c2 c3 c4 (by lia) (by lia) ?_
 simp only[Int.mul_one,Int.mul_zero,Int.add_zero,Int.zero_add];simp![Zn];refine Zci (by lia) (by lia) (by lia) (by lia) c2 c4 ?_
 simp![F_beside,Zch];exact w
theorem pb {x y:Int}(hx: -200<=x/\x<=200)(hy: -200<=y/\y<=200): -40000<=x * y/\x * y<=40000:=by
 have:(x * y).natAbs<=200 * 200:=by rw[Int.natAbs_mul];exact Nat.mul_le_mul (by lia) (by lia)
 lia
noncomputable def Bx (x:Int):Prop:= -100000<=x/\x<=100000
theorem ZpW {u v p q:Pt}{s:Int}(hs:X u v=s)(h1:s=1\/s= -1)(h2:X p q=1\/X p q= -1)(hu:(-200<=u.1/\u.1<=200)/\ -200<=u.2/\u.2<=200)(hv:(-200<=v.1/\v.1<=200)/\ -200<=v.2/\v.2<=200)(hp:(-200<=p.1/\p.1<=200)/\ -200<=p.2/\p.2<=200)(hq:(-200<=q.1/\q.1<=200)/\ -200<=q.2/\q.2<=200)
  (w: ∀ a b c d,gg a b c d u=p->gg a b c d v=q->(a * d - b * c=1\/a * d - b * c= -1)->Bx a->Bx b->Bx c->Bx d->Q (.tup [pr a b,pr c d]) M):wO (F_leading [pr u.1 u.2,pr v.1 v.2,pr p.1 p.2,pr q.1 q.2] M) Q E:=by
 refine ZpV hs h1 h2 hu hv hp hq (w _ _ _ _ ?_ ?_ ?_ ?_ ?_ ?_ ?_)
 ·unfold X at hs
  unfold gg;refine Prod.ext ?_ ?_<;>simp only<;>rcases h1 with rfl | rfl<;>grind
 ·unfold X at hs
  unfold gg;refine Prod.ext ?_ ?_<;>simp only<;>rcases h1 with rfl | rfl<;>grind
 ·have e:(p.1 * (s * v.2) + q.1 * (-s * u.2)) * (p.2 * (-s * v.1) + q.2 * (s * u.1)) - (p.1 * (-s * v.1) + q.1 * (s * u.1)) * (p.2 * (s * v.2) + q.2 * (-s * u.2))=X p q * (s * s * X u v):=by unfold X;grind
  rw[e,hs]
  rcases h1 with rfl | rfl<;>rcases h2 with h2 | h2<;>rw[h2]<;>simp
 all_goals
  have h1:= @pb
  have a1:=pb hp.1 hv.2
  have a2:=pb hp.1 hv.1
  have a3:=pb hq.1 hu.2
  have a4:=pb hq.1 hu.1
  have a5:=pb hp.2 hv.2
  have a6:=pb hp.2 hv.1
  have a7:=pb hq.2 hu.2
  have a8:=pb hq.2 hu.1
  unfold Bx
  rcases ‹s=1\/s= -1› with rfl | rfl<;>simp only[Int.one_mul,Int.neg_mul,Int.mul_neg,Int.neg_neg]<;>lia
theorem ZpX (hs:Smo L){i:Nat}{b:Bool}:X (cy L i) (bsd L i b)=sn b:=by
 cases b with
 |false=>exact hs.one i
 |true=>
  have:=hs.one ((i:Int) - 1)
  rw[show (i:Int) - 1 + 1=i by lia,ZcG] at this
  show X (cy L i) (cy L ((i:Int) - 1))= -1
  lia
theorem ZfI (hr:Rn rs)(hb:Nr 200 rs):Nr 200 (lrd rs):=fun x hx=>CB.ZeW (B:=200) (by decide) _ (hr.wgs hb) (fun y hy=>hb y (by
 rcases List.mem_append.mp hy with hy | hy
 ·exact hy
 ·exact List.mem_of_mem_take hy)) x hx
def Bs (rs:List Pt)(i:Nat)(b:Bool):Prop:=i < (lrd rs).length/\ ∀ i' b',i' < (lrd rs).length->ltP (rdg (mkr rs (lrd rs)) i' b') (rdg (mkr rs (lrd rs)) i b)=false
def ZjT (rs cs:List Pt):Prop:= ∀ i b i' b',Bs rs i b->Bs cs i' b'->rdg (mkr rs (lrd rs)) i b=rdg (mkr cs (lrd cs)) i' b'
structure Rd0 (rs:List Pt):Prop where
 rn:Rn rs
 nr:Nr 200 rs
 le:rs.length<=44
 ll:(lrd rs).length<=1000000
def Led (rs cs:List Pt)(a b c d:Int):Prop:=(rs.map (gg a b c d)).Perm cs/\(a * d - b * c=1\/a * d - b * c= -1)/\Bx a/\Bx b/\Bx c/\Bx d
theorem ZpY (h:M[n]?=some (.lst (prs rs)))(h':M[m]?=some (.lst (prs cs)))(hr:Rd0 rs)(hc:Rd0 cs)(S:ZjT rs cs)(q: ∀ a b c d M',Kp M M'->Led rs cs a b c d->Q (.tup [.str (PySem.Str.ofString "alike"),.tup [pr a b,pr c d]]) M'):wO (F_likeness [.ref n,.ref m] M) Q E:=by
 have ll:=hr.le
 have lc:=hc.le
 simp![F_likeness,ZaK];refine ZbL h hr.rn hr.nr (by lia) hr.ll fun i b o M1 K1 hi hm _ r1=> ?_
 simp![Zn];refine ZbL (K1.get h') hc.rn hc.nr (by lia) hc.ll fun i' b' o' M2 K2 hi' hm' _ r2=> ?_
 have e:=S i b i' b' ⟨hi,hm⟩ ⟨hi',hm'⟩
 have r1:=K2.get r1
 rw[<- e] at r2;have e8:eqF 12 M2 (.ref o) (.ref o')=some (decide (rdg (mkr rs (lrd rs)) i b=rdg (mkr rs (lrd rs)) i b)):=CU.Zia (k:=9) r1 r2
 rw[decide_eq_true rfl] at e8;simp![e8];have s1:=hr.rn.least hr.nr
 have s2:=hc.rn.least hc.nr
 have n1:=ZfI hr.rn hr.nr
 have n2:=ZfI hc.rn hc.nr
 have bb: ∀ {L:List Pt} (n:Nr 200 L) (ne:L≠[]) (i:Nat) (b:Bool),(-200<=(bsd L i b).1/\(bsd L i b).1<=200)/\ -200<=(bsd L i b).2/\(bsd L i b).2<=200:=fun n ne i b=>by rw[Ziv];exact n.cy ne _
 refine ZpW (ZpX s1) (ZjP b) (by rw[ZpX s2];exact ZjP b') (n1.cy s1.ne _) (bb n1 s1.ne i b) (n2.cy s2.ne _) (bb n2 s2.ne i' b') fun x y z w f0 f1 hd b1 b2 b3 b4=> ?_
 simp![Zn];exact q _ _ _ _ _ (K1.trans K2) ⟨Zmy hr.rn hr.nr hc.rn hc.nr hi hi' e hd f0 f1,hd,b1,b2,b3,b4⟩
theorem ZmA {a b c d:Int}(h:M[n]?=some (.lst (prs rs)))(h':M[m]?=some (.lst (prs cs)))(hr:Rd0 rs)(hc:Rd0 cs)(hl:Led rs cs a b c d)(q: ∀ M',Kp M M'->Q (.bl true) M'):wO (F_law_is_alike [.ref n,.ref m,.tup [.str (PySem.Str.ofString "alike"),.tup [pr a b,pr c d]]] M) Q E:=by
 obtain ⟨hp,hd,h1,h2,h3,h4⟩:=hl
 have ll:=hr.le
 have lc:=hc.le
 have hn:=Zu h
 have hm:=Zu h'
 unfold Bx at h1 h2 h3 h4;have es:eqF 12 M (.str (PySem.Str.ofString "alike")) (.str (PySem.Str.ofString "alike"))=some true:=by
  show some (decide _)=_
  rw[decide_eq_true rfl]
 have en:dNotIn (.int (a * d - b * c)) (.tup [.int 1,.int (-1)]) M= .ok (.bl false) M:=by rcases hd with hd | hd<;>rw[hd]<;>rfl
 simp![F_law_is_alike,ZaF,es,en];refine ZmK (fun ρ=> ∃ x y,ρ=[x,y,some (.int a),some (.int b),some (.int c),some (.int d)]) (fun (i:Nat)=>pr (gg a b c d (cy rs i)).1 (gg a b c d (cy rs i)).2) h (by rw[Zw];lia) ⟨_,_,rfl⟩ ?_ ?_
 ·rintro i hi ρ L ⟨x,y,rfl⟩
  rw[Zw] at hi
  have:=hr.nr.cy hr.rn.ne i
  rw[CC.Zad];simp![Zn];exact ⟨⟨_,_,rfl⟩,rfl⟩
 ·rw[Zw]
  have e:(List.range rs.length).map (fun (i:Nat)=>pr (gg a b c d (cy rs i)).1 (gg a b c d (cy rs i)).2)=prs (rs.map (gg a b c d)):=by
   conv=>rhs;rw[<- Zat (us:=rs)]
   unfold prs;rw[List.map_map,List.map_map];rfl
  rw[e];have K1:Kp M (M ++ [.lst (prs (rs.map (gg a b c d)))]):=Kp.app
  have r1:(M ++ [SO.lst (prs (rs.map (gg a b c d)))])[M.length]?=some (.lst (prs (rs.map (gg a b c d)))):=by simp
  have r2:=K1.get h'
  generalize M ++ [SO.lst (prs (rs.map (gg a b c d)))]=M1 at *;have q1:=ZjR r1 (by rw[List.length_map];lia)
  simp![q1];have K2:Kp M1 (M1 ++ [.lst (prs (sp (rs.map (gg a b c d))))]):=Kp.app
  have r3:(M1 ++ [SO.lst (prs (sp (rs.map (gg a b c d))))])[M1.length]?=some (.lst (prs (sp (rs.map (gg a b c d))))):=by simp
  have r4:=K2.get r2
  generalize M1 ++ [SO.lst (prs (sp (rs.map (gg a b c d))))]=M2 at *;have q2:=ZjR r4 (by lia)
  simp![q2];have K3:Kp M2 (M2 ++ [.lst (prs (sp cs))]):=Kp.app
  have r5:(M2 ++ [SO.lst (prs (sp cs))])[M2.length]?=some (.lst (prs (sp cs))):=by simp
  have r6:=K3.get r3
  rw[<- ZjQ hp] at r5 K3 r6 ⊢;have e8:eqF 12 (M2 ++ [SO.lst (prs (sp (rs.map (gg a b c d))))]) (.ref M1.length) (.ref M2.length)=some (decide (sp (rs.map (gg a b c d))=sp (rs.map (gg a b c d)))):=CU.Zia (k:=9) r6 r5
  rw[decide_eq_true rfl] at e8;simp![e8];exact q _ ((K1.trans K2).trans K3)
end
end CP
end
section
namespace CP
open L2 DL
open CB (Bd lrd)
open CV CX TW
section
variable {rs cs L:List Pt}
theorem Ziy {a b c d:Nat}(e:a * d=b * c)(h1:a.gcd b=1)(h2:c.gcd d=1):a=c:=
 Nat.dvd_antisymm (Nat.Coprime.dvd_of_dvd_mul_left h1 ⟨d,e.symm⟩) (Nat.Coprime.dvd_of_dvd_mul_right h2 ⟨b,by rw[e,Nat.mul_comm]⟩)
theorem ZjU {a b r:Pt}(h:X a b=0)(ga:Int.gcd a.1 a.2=1)(gb:Int.gcd b.1 b.2=1)(h1:0 < X r a)(h2:0 < X r b):a=b:=by
 have e:a.1 * b.2=a.2 * b.1:=by unfold X at h;lia
 have e1:a.1.natAbs * b.2.natAbs=a.2.natAbs * b.1.natAbs:=by rw[<- Int.natAbs_mul,<- Int.natAbs_mul,e]
 have n1:a.1.natAbs=b.1.natAbs:=Ziy e1 ga gb
 have n2:a.2.natAbs=b.2.natAbs:=Ziy e1.symm (by rw[Nat.gcd_comm];exact ga) (by rw[Nat.gcd_comm];exact gb)
 have neg:a.1= -b.1->a.2= -b.2->False:=fun u v=>by
  unfold X at h1 h2;rw[u,v,Int.mul_neg,Int.mul_neg] at h1;lia
 rcases Int.natAbs_eq_natAbs_iff.mp n1 with u | u<;>rcases Int.natAbs_eq_natAbs_iff.mp n2 with v | v
 ·exact Prod.ext u v
 ·rw[v,<- u,Int.neg_mul,Int.mul_comm] at e
  have z:b.2 * a.1=0:=by lia
  rcases Int.mul_eq_zero.mp z with z | z
  ·exact Prod.ext u (by lia)
  ·exact (neg (by lia) v).elim
 ·rw[u,v,Int.neg_mul,Int.mul_comm] at e
  have z:b.2 * b.1=0:=by lia
  rcases Int.mul_eq_zero.mp z with z | z
  ·exact (neg u (by lia)).elim
  ·exact Prod.ext (by lia) v
 ·exact (neg u v).elim
theorem ZkL (h:Rn rs){i:Int}{p:Pt}(hp:p∈rs)(h1:0 < X (cy rs i) p)(h2:0 < X p (cy rs (i + 1))):False:=by
 obtain ⟨j,hj,ej⟩: ∃ j:Nat,j < rs.length/\cy rs j=p:=by
  obtain ⟨j,hj,e⟩:=List.mem_iff_getElem.mp hp
  exact ⟨j,hj,by rw[Zbj hj];exact e⟩
 obtain ⟨k,hk,ek⟩:=Zie h.ne i
 have e0:=ek 0
 rw[Int.add_zero,Int.add_zero] at e0;rw[e0] at h1;rw[ek 1] at h2;have w0:p≠(0,0):=by
  intro z;rw[z] at h1;unfold X at h1
  simp at h1
 have f:=(h.fan p w0).1
 rw[ZfA h.ne] at f;have pj:=h.pos j
 have a1:in1 p (cy rs k) (cy rs (k + 1))=1:=ZdD (by lia) h2
 have a2:in1 p (cy rs j) (cy rs (j + 1))=1:=ZdD (by rw[ej,XX];lia) (by rw[<- ej];exact pj)
 rcases Nat.lt_trichotomy k j with c | c | c
 ·have g:=ZfB (f:=in1 p) (rs:=rs) rs.length 0 k j c hj
  rw[Int.zero_add,Int.zero_add,a1,a2] at g;lia
 ·subst c
  rw[ej,XX] at h1;lia
 ·have g:=ZfB (f:=in1 p) (rs:=rs) rs.length 0 j k c hk
  rw[Int.zero_add,Int.zero_add,a1,a2] at g;lia
theorem ZpZ (hr:Rn rs)(hc:Rn cs)(hp:rs.Perm cs){i j:Int}(e:cy rs i=cy cs j):cy rs (i + 1)=cy cs (j + 1):=by
 have p1:=hr.pos i
 have p2:=hc.pos j
 have m1:cy rs (i + 1)∈cs:=hp.mem_iff.mp (ZcC hr.ne)
 have m2:cy cs (j + 1)∈rs:=hp.mem_iff.mpr (ZcC hc.ne)
 have n1: ¬ 0 < X (cy rs (i + 1)) (cy cs (j + 1)):=fun h=>ZkL hc (i:=j) m1 (by rw[<- e];exact p1) h
 have n2: ¬ 0 < X (cy cs (j + 1)) (cy rs (i + 1)):=fun h=>ZkL hr (i:=i) m2 (by rw[e];exact p2) h
 have sw:=ZcG (p:=cy rs (i + 1)) (q:=cy cs (j + 1))
 exact ZjU (by lia) (hr.gc _ (ZcC hr.ne)) (hc.gc _ (ZcC hc.ne)) p1 (by rw[e];exact p2)
theorem ZfJ (hr:Rn rs)(hc:Rn cs)(hp:rs.Perm cs): ∃ k,k<=rs.length/\cs=rs.drop k ++ rs.take k:=by
 have m:cy cs 0∈rs:=hp.mem_iff.mpr (ZcC hc.ne)
 obtain ⟨k,hk,e⟩:=List.mem_iff_getElem.mp m
 rw[<- Zbj hk] at e;have st: ∀ t:Nat,cy rs ((k:Int) + t)=cy cs t:=fun t=>by
  induction t with
  |zero=>simpa using e
  |succ t ih=>
   have:=ZpZ hr hc hp ih
   rw[show (k:Int) + ((t + 1:Nat):Int)=k + t + 1 by lia,show ((t + 1:Nat):Int)=(t:Int) + 1 by lia]
   exact this
 refine ⟨k,by lia,?_⟩
 have le:(rs.drop k ++ rs.take k).length=cs.length:=by
  rw[<- hp.length_eq,List.length_append,List.length_drop,List.length_take];lia
 rw[<- Zat (us:=cs),<- Zat (us:=rs.drop k ++ rs.take k),le];refine List.map_congr_left fun t _=> ?_
 rw[Zaj (by lia),<- st t,Int.add_comm]
theorem Zer (hr:Rn rs)(hb:Nr 200 rs)(hc:Rn cs)(hp:rs.Perm cs):ZjT rs cs:=by
 obtain ⟨k,hk,ec⟩:=ZfJ hr hc hp
 obtain ⟨j,hj,ej⟩:=CB.ZcQ (rs:=rs) (k:=k) hk
 rw[<- ec] at ej;have ne:=(hr.least hb).ne
 have el:(lrd cs).length=(lrd rs).length:=by
  rw[ej,List.length_append,List.length_drop,List.length_take];lia
 have ne':lrd cs≠[]:=fun z=>by
  rw[z] at el;exact ne (List.eq_nil_of_length_eq_zero el.symm)
 have h: ∀ i:Int,cy (mkr cs (lrd cs)) i=cy (mkr rs (lrd rs)) (1 * i + j):=fun i=>by
  rw[Zc7 ne',Zc7 ne,Int.one_mul,ej,CN.Zss hj,Zaj hj]
  have:cy (lrd rs) (i + j)∈cs ↔ cy (lrd rs) (i + j)∈rs:=hp.mem_iff.symm
  simp only[this]
 exact fun i b i' b' h1 h2=>(Zip (.inl rfl) (by rw[ZQ,ZQ];exact el) h (by rw[ZQ];exact h1.1) (by rw[ZQ];exact h2.1) (fun x y hx=>h1.2 x y (by rw[ZQ] at hx;exact hx)) (fun x y hx=>h2.2 x y (by rw[ZQ] at hx;exact hx))).symm
theorem Zes (hr:Rn rs)(hb:Nr 200 rs):ZjT rs rs:=Zer hr hb hr (List.Perm.refl _)
theorem ZfK (hr:Rd0 rs)(hc:Rd0 cs)(S: ¬ ZjT rs cs){i b i' b'}(h:Bs rs i b)(h':Bs cs i' b'):rdg (mkr rs (lrd rs)) i b≠rdg (mkr cs (lrd cs)) i' b':=fun e=>S fun x y x' y' hx hx'=>by
 rw[Zes hr.rn hr.nr x y i b hx h,e,Zes hc.rn hc.nr i' b' x' y' h' hx']
theorem Ziz:(sp rs).Perm rs:=by
 have h:=((ST.ZbD (rs.map kp)).map up)
 rw[List.map_map] at h
 have:rs.map (up ∘ kp)=rs:=by
  conv=>rhs;rw[<- List.map_id rs]
  exact List.map_congr_left fun x _=>rfl
 rw[this] at h;exact h
end
end CP
end
section
namespace CP
open L2 DL
open CB (Bd lrd)
open CD (gg sg)
open CV CX TW
section
variable {rs cs:List Pt}{a b c d:Int}
theorem ZkM (hr:Rn rs)(hc:Rn cs)(hd:a * d - b * c=1\/a * d - b * c= -1)(hp:(rs.map (gg a b c d)).Perm cs): ∃ k,k<=rs.length/\cs=sg (decide (a * d - b * c < 0)) k (rs.map (gg a b c d)):=by
 have r0:=Zis (k:=0) hr hd
 have p0:(sg (decide (a * d - b * c < 0)) 0 (rs.map (gg a b c d))).Perm cs:=by
  refine List.Perm.trans ?_ hp
  unfold sg;generalize decide (a * d - b * c < 0)=neg;cases neg
  ·simp
  ·simpa using List.reverse_perm _
 obtain ⟨k,hk,e⟩:=ZfJ r0 hc p0
 refine ⟨k,by rw[CD.Zc6,List.length_map] at hk;exact hk,?_⟩
 rw[e];unfold sg
 simp
theorem ZiA (hc:Nr 200 cs)(hp:rs.Perm cs):Nr 200 rs:=fun x hx=>hc x (hp.mem_iff.mp hx)
theorem Zp0 (hr:Rn rs)(hb:Nr 200 rs)(hc:Rn cs)(hn:Nr 200 cs)(hd:a * d - b * c=1\/a * d - b * c= -1)(hp:(rs.map (gg a b c d)).Perm cs):
  ∃ j:Int,(lrd cs).length=(lrd rs).length/\ ∀ i:Int,cy (lrd cs) i=gg a b c d (cy (lrd rs) ((a * d - b * c) * i + j)):=by
 obtain ⟨k,hk,e⟩:=ZkM hr hc hd hp
 obtain ⟨j,e1,e2⟩:=CB.ZkG hr hb (ZiA hn hp) hd hk
 rw[<- e] at e1 e2;exact ⟨j,e1,e2⟩
theorem ZjV (hr:Rn rs)(hb:Nr 200 rs)(hc:Rn cs)(hn:Nr 200 cs)(hd:a * d - b * c=1\/a * d - b * c= -1)(hp:(rs.map (gg a b c d)).Perm cs):ZjT rs cs:=by
 obtain ⟨k,hk,e⟩:=ZkM hr hc hd hp
 obtain ⟨el,j,ej⟩:=Zmt hr hb (ZiA hn hp) hd hk
 rw[<- e] at el ej;exact fun i b i' b' h1 h2=>(Zip hd (by rw[ZQ,ZQ];exact el) ej (by rw[ZQ];exact h1.1) (by rw[ZQ];exact h2.1) (fun x y hx=>h1.2 x y (by rw[ZQ] at hx;exact hx)) (fun x y hx=>h2.2 x y (by rw[ZQ] at hx;exact hx))).symm
theorem ZiB (hr:Rn rs)(hb:Nr 200 rs)(hc:Rn cs)(hn:Nr 200 cs)(hd:a * d - b * c=1\/a * d - b * c= -1)(hp:(rs.map (gg a b c d)).Perm cs):
  ∃ i:Nat,i < (lrd cs).length/\((gg a b c d (cy (lrd rs) 0)=cy (lrd cs) i/\gg a b c d (cy (lrd rs) 1)=cy (lrd cs) (i + 1))\/(gg a b c d (cy (lrd rs) 0)=cy (lrd cs) (i + 1)/\gg a b c d (cy (lrd rs) 1)=cy (lrd cs) i)):=by
 obtain ⟨j,e1,e2⟩:=Zp0 hr hb hc hn hd hp
 have ne:=(hc.least hn).ne
 rcases hd with s | s
 ·obtain ⟨k,hk,ek⟩:=Zie ne (-j)
  have k0:=ek 0
  have k1:=ek 1
  rw[Int.add_zero,Int.add_zero] at k0;refine ⟨k,hk,.inl ⟨?_,?_⟩⟩
  ·rw[<- k0,e2,s,show (1:Int) * -j + j=0 by lia]
  ·rw[<- k1,e2,s,show (1:Int) * (-j + 1) + j=1 by lia]
 ·obtain ⟨k,hk,ek⟩:=Zie ne (j - 1)
  have k0:=ek 0
  have k1:=ek 1
  rw[Int.add_zero,Int.add_zero] at k0;refine ⟨k,hk,.inr ⟨?_,?_⟩⟩
  ·rw[<- k1,e2,s,show (-1:Int) * (j - 1 + 1) + j=0 by lia]
  ·rw[<- k0,e2,s,show (-1:Int) * (j - 1) + j=1 by lia]
theorem Zp1 {u v p q:Pt}(h:X u v=1)(hp:gg a b c d u=p)(hq:gg a b c d v=q):p.1 * v.2 - q.1 * u.2=a/\q.1 * u.1 - p.1 * v.1=b/\p.2 * v.2 - q.2 * u.2=c/\q.2 * u.1 - p.2 * v.1=d:=by
 subst hp hq;unfold X at h;unfold gg;refine ⟨?_,?_,?_,?_⟩<;>grind
theorem Zp2 {u v p q:Pt}(h:X u v=1):(p.1 * v.2 - q.1 * u.2) * (q.2 * u.1 - p.2 * v.1) - (q.1 * u.1 - p.1 * v.1) * (p.2 * v.2 - q.2 * u.2)=X p q:=by
 have e:(p.1 * v.2 - q.1 * u.2) * (q.2 * u.1 - p.2 * v.1) - (q.1 * u.1 - p.1 * v.1) * (p.2 * v.2 - q.2 * u.2)=X p q * X u v:=by unfold X;grind
 rw[e,h,Int.mul_one]
end
end CP
end
section
end
section
end
section
end
section
end
section
end
section
end
section
end
section
end
section
end
section
end
section
end
section
namespace K37
open CC (ZU F_crossed Zar F_following Z2 Zas F_unspanned Zag F_ask_smooth)
open CP (ZcR F_spanned ZdF F_turned Ziw F_back Zch F_beside Zix F_then ZcS F_leading ZaF F_law_is_alike)
open CB (Za6 ZcL F_partner ZaA F_first_behind ZaV ZbW F_expanded Zmb F_row Za7 ZcM F_between Zbr F_law_purse ZbX F_law_take ZbH F_law_crossed ZaB Zbs F_law_short)
open CE (ZcK F_numbers)
open CX (Zba F_marked_row ZL ZR)
open CQ (ZaC F_law_greatest Za8 F_law_put ZaX F_law_sheared Zau Zav Za9 F_law_smooth ZaD Zbt F_law_round ZaE Zbu F_law_table ZbJ F_law_led ZbY F_law_copy)
open L2 DL
structure Txt (K:Fg) (mg:Str->Option Value):Prop extends Bs mg where
 gl: ∀ c v,PySem.W.nsIn K mainGlobals c=some (some v)->mg c=some v
 d:Dfs K top tab
 ex_NoTurning:ZmG K "NoTurning"=true
 ex_NotSmooth:ZmG K "NotSmooth"=true
 ex_NoWedge:ZmG K "NoWedge"=true
section
variable {P:Program}{w:World}{K:Fg}{mg:Str->Option Value}{base:Heap}
def Z3:Sv:=(ZE (ZcX (Zgm mApp (Zg 1) (Zc (Zg 3) aNil)))
 (ZcX (Zgm mExt (Zg 1) (Zc (Zk F_between (Zc (Zg 3) (Zc (Zk F_following (Zc (Zg 0) (Zc (Zg 2) aNil))) aNil))) aNil))))
def Zan:Sv:=(ZE (ZJ (gNm 1) (ZbS aNil))
 (ZE (Zdn (gTp (gCs (gNm 2) (gCs (gNm 3) gNl))) (iEn (Zc (Zg 0) aNil)) Z3)
 (Z5 (Zg 1))))
def F_least_round:W3:=fnF Zan 1 3
def Z9:Sv:=(ZE (ZJ (gNm 1) (Zk F_least_round (Zc (Zg 0) aNil)))
 (ZE (ZJ (gNm 2) (Zk F_marked_row (Zc (Zg 0) (Zc (Zg 1) aNil))))
 (ZE (ZJ (gNm 3) (eC .non))
 (ZE (ZJ (gNm 4) (eC .non))
 (ZE (Zdn (gTp (gCs (gNm 5) (gCs (gNm 6) gNl))) (iEn (Zc (Zg 1) aNil)) ZR)
 (Z5 (Z4 (Zc (Zg 3) (Zc (Zg 4) aNil)))))))))
def F_first_reading:W3:=fnF Z9 1 10
def ZaK:Sv:=(ZE (ZJ (gTp (gCs (gNm 2) (gCs (gTp (gCs (gNm 3) (gCs (gNm 4) gNl))) gNl))) (Zk F_first_reading (Zc (Zg 0) aNil)))
 (ZE (ZJ (gTp (gCs (gNm 5) (gCs (gTp (gCs (gNm 6) (gCs (gNm 7) gNl))) gNl))) (Zk F_first_reading (Zc (Zg 1) aNil)))
 (ZE (sIf (tv (e2 dNe (Zg 2) (Zg 5))) (Z5 (Z4 (Zc (eC (.str (PySem.Str.ofString "unlike"))) (Zc (Zg 2) (Zc (Zg 5) aNil))))) sNil)
 (Z5 (Z4 (Zc (eC (.str (PySem.Str.ofString "alike"))) (Zc (Zk F_leading (Zc (Zg 3) (Zc (Zg 4) (Zc (Zg 6) (Zc (Zg 7) aNil))))) aNil)))))))
def F_likeness:W3:=fnF ZaK 2 6
def ZaZ:Sv:=(ZE (ZJ (gNm 7) (e2 dMod (e2 dAdd (e2 dAdd (Zg 2) (eC (.int 2))) (Zg 6)) (Zk bLen (Zc (Zg 5) aNil))))
 (ZE (ZJ (gNm 8) (e2 dAdd (eSl (Zg 5) oNo (oSo (Zg 7))) (eSl (Zg 5) (oSo (e2 dAdd (Zg 7) (eC (.int 1)))) oNo)))
 (sIf (ZgW (tv (e2 dNe (e2 dIx (Zg 5) (Zg 7)) (Zg 4))) (tv (e2 dGt (Zk F_law_crossed (Zc (e2 dIx (Zg 8) (e2 dSub (Zg 7) (eC (.int 1)))) (Zc (e2 dIx (Zg 8) (e2 dMod (Zg 7) (Zk bLen (Zc (Zg 8) aNil)))) aNil))) (eC (.int 0))))) (Z5 (Zg 8)) sNil)))
def ZbM:Sv:=(ZE (ZJ (gNm 2) (Zk F_law_take (Zc (Zg 0) (Zc (Zk bLen (Zc (Zg 1) aNil)) aNil))))
 (ZE (ZJ (gNm 3) (e2 dIx (Zg 1) (e2 dMod (e2 dAdd (Zg 2) (eC (.int 1))) (Zk bLen (Zc (Zg 1) aNil)))))
 (ZE (ZJ (gNm 4) (Zk F_law_short (Zc (Z4 (Zc (e2 dAdd (e2 dIx (e2 dIx (Zg 1) (Zg 2)) (eC (.int 0))) (e2 dIx (Zg 3) (eC (.int 0)))) (Zc (e2 dAdd (e2 dIx (e2 dIx (Zg 1) (Zg 2)) (eC (.int 1))) (e2 dIx (Zg 3) (eC (.int 1)))) aNil))) aNil)))
 (ZE (sIf (tv (e2 dGt (Zk F_law_greatest (Zc (ZbS (Zc (Zg 4) aNil)) aNil)) (eC (.int 200)))) (Z5 (Zg 1)) sNil)
 (ZE (ZJ (gNm 5) (e2 dAdd (e2 dAdd (eSl (Zg 1) oNo (oSo (e2 dAdd (Zg 2) (eC (.int 1))))) (ZbS (Zc (Zg 4) aNil))) (eSl (Zg 1) (oSo (e2 dAdd (Zg 2) (eC (.int 1)))) oNo)))
 (ZE (Zbi (gNm 6) (Zc (Zk bLen (Zc (Zg 5) aNil)) aNil) ZaZ)
 (Z5 (Zg 1))))))))
def F_law_changed:W3:=fnF ZbM 2 7
def Zak:Sv:=(ZE (ZJ (gTp (gCs (gNm 11) (gCs (gNm 12) gNl))) (Z4 (Zc (e2 dSub (e2 dMul (e2 dIx (Zg 9) (eC (.int 0))) (Zg 7)) (e2 dMul (e2 dIx (Zg 10) (eC (.int 0))) (Zg 5))) (Zc (e2 dSub (e2 dMul (e2 dIx (Zg 10) (eC (.int 0))) (Zg 4)) (e2 dMul (e2 dIx (Zg 9) (eC (.int 0))) (Zg 6))) aNil))))
 (ZE (ZJ (gTp (gCs (gNm 13) (gCs (gNm 14) gNl))) (Z4 (Zc (e2 dSub (e2 dMul (e2 dIx (Zg 9) (eC (.int 1))) (Zg 7)) (e2 dMul (e2 dIx (Zg 10) (eC (.int 1))) (Zg 5))) (Zc (e2 dSub (e2 dMul (e2 dIx (Zg 10) (eC (.int 1))) (Zg 4)) (e2 dMul (e2 dIx (Zg 9) (eC (.int 1))) (Zg 6))) aNil))))
 (sIf (tv (e2 dEq (Zk bSrt (Zc (ZaO (iSq (Zg 0)) 2 [11,12,13,14] (gTp (gCs (gNm 0) (gCs (gNm 1) gNl))) (fun _ M=> .ok true M) (Z4 (Zc (e2 dAdd (e2 dMul (Zg 2) (Zg 0)) (e2 dMul (Zg 3) (Zg 1))) (Zc (e2 dAdd (e2 dMul (Zg 4) (Zg 0)) (e2 dMul (Zg 5) (Zg 1))) aNil)))) aNil)) (Zg 8))) (Z5 (eC (.bl true))) sNil)))
def ZaL:Sv:=(ZE (ZJ (gTp (gCs (gTp (gCs (gNm 4) (gCs (gNm 5) gNl))) (gCs (gTp (gCs (gNm 6) (gCs (gNm 7) gNl))) gNl))) (Z4 (Zc (e2 dIx (Zg 2) (eC (.int 0))) (Zc (e2 dIx (Zg 2) (eC (.int 1))) aNil))))
 (ZE (ZJ (gNm 8) (Zk bSrt (Zc (Zg 1) aNil)))
 (ZE (Zlm (gTp (gCs (gNm 9) (gCs (gNm 10) gNl))) (e2 dAdd (eLZ (Zc (Zg 3) (Zc (e2 dAdd (eSl (Zg 3) (oSo (eC (.int 1))) oNo) (eSl (Zg 3) oNo (oSo (eC (.int 1))))) aNil))) (eLZ (Zc (e2 dAdd (eSl (Zg 3) (oSo (eC (.int 1))) oNo) (eSl (Zg 3) oNo (oSo (eC (.int 1))))) (Zc (Zg 3) aNil)))) Zak)
 (Z5 (eC (.bl false))))))
def F_law_any_turning:W3:=fnF ZaL 4 11
def ZdG:Sv:=(ZE (ZJ (gNm 2) (Zk F_law_purse (Zc (Zg 0) (Zc (Zg 1) aNil))))
 (ZE (ZJ (gNm 3) (Zk F_law_round (Zc (Zg 2) (Zc (eC (.int 7)) aNil))))
 (ZE (ZJ (gNm 4) (Zk F_law_copy (Zc (Zg 2) (Zc (Zg 3) aNil))))
 (ZE (sIf (tv (e2 dEq (Zk F_law_take (Zc (Zg 2) (Zc (eC (.int 2)) aNil))) (eC (.int 1)))) (ZJ (gNm 4) (Zk F_law_changed (Zc (Zg 2) (Zc (Zg 4) aNil)))) sNil)
 (ZE (Zfh 5 6 (Zc (Zk F_least_round (Zc (Zk bList (Zc (Zg 3) aNil)) aNil)) (Zc (Zk F_least_round (Zc (Zk bList (Zc (Zg 4) aNil)) aNil)) aNil)))
 (ZE (sIf (Zgk (tv (e2 dGt (Zk bLen (Zc (Zg 5) aNil)) (eC (.int 120)))) (tv (e2 dGt (Zk bLen (Zc (Zg 6) aNil)) (eC (.int 120))))) (ZE (Zfh 3 4 (Zc (ZbS (Zc (Z4 (Zc (eC (.int 1)) (Zc (eC (.int 0)) aNil))) (Zc (Z4 (Zc (eC (.int 0)) (Zc (eC (.int 1)) aNil))) (Zc (Z4 (Zc (ZdW (eC (.int 1))) (Zc (ZdW (eC (.int 1))) aNil))) aNil)))) (Zc (ZbS (Zc (Z4 (Zc (eC (.int 0)) (Zc (eC (.int 1)) aNil))) (Zc (Z4 (Zc (ZdW (eC (.int 1))) (Zc (ZdW (eC (.int 1))) aNil))) (Zc (Z4 (Zc (eC (.int 1)) (Zc (eC (.int 0)) aNil))) aNil)))) aNil)))
 (Zfh 5 6 (Zc (Zg 3) (Zc (Zg 4) aNil)))) sNil)
 (ZE (ZJ (gNm 7) (Zk F_likeness (Zc (Zk bList (Zc (Zg 3) aNil)) (Zc (Zk bList (Zc (Zg 4) aNil)) aNil))))
 (sIf (tv (Zk F_law_any_turning (Zc (Zg 3) (Zc (Zg 4) (Zc (Zg 5) (Zc (Zg 6) aNil)))))) (sIf (ZcW (tv (Zk F_law_is_alike (Zc (Zg 3) (Zc (Zg 4) (Zc (Zg 7) aNil)))))) (Z5 (eC (.bl false))) sNil) (sIf (Zgk (ZcW (tv (ZmE "tuple" (Zg 7)))) (Zgk (tv (e2 dNe (Zk bLen (Zc (Zg 7) aNil)) (eC (.int 3)))) (Zgk (tv (e2 dNe (e2 dIx (Zg 7) (eC (.int 0))) (eC (.str (PySem.Str.ofString "unlike"))))) (tv (e2 dEq (e2 dIx (Zg 7) (eC (.int 1))) (e2 dIx (Zg 7) (eC (.int 2)))))))) (Z5 (eC (.bl false))) sNil)))))))))
def Zp3:Sv:=(ZE (Zbi (gNm 1) (Zc (Zk bMax (Zc (eC (.int 1)) (Zc (Zk bMin (Zc (eC (.int 2)) (Zc (Zk bLen (Zc (Zg 0) aNil)) aNil))) aNil))) aNil) ZdG)
 (Z5 (eC (.bl true))))
def Ze3:W3:=fnF Zp3 1 7
variable (T:Txt K mg)
include T
theorem C1:Cal P w K mg base "crossed" 1 2 F_crossed:=ZT (N:=["one","other"]) (T.d.at 0 6) T.gl fun _ _ _ _ _ _ _ nd hr θ=>(Zi (ZA (ZN (Zt (Zo (Zb 0) Ze) (Zo (Zb 1) Ze)) (Zt (Zo (Zb 0) Ze) (Zo (Zb 1) Ze)))))
theorem C2:Cal P w K mg base "spanned" 2 2 F_spanned:=ZT (N:=["one","other"]) (T.d.at 1 7) T.gl fun _ _ _ _ _ _ _ nd hr θ=>(Zi (ZA (Zb0 (ZaH hr.units) ZbT (Zs ZaM Zco T.b_abs Zct (Za (Zh (C1 T) θ hr (Za (Zb 0) (Za (Zb 1) Zd))) Zd)) Ze)))
theorem C3:Cal P w K mg base "turned" 101 2 F_turned:=ZT (N:=["turning","pair","a","b","c","d","x","y"]) (T.d.at 2 8) T.gl fun _ _ _ _ _ _ _ nd hr θ=>(Zf (ZaY (Zb 0) (ZI (Zr hr (by decide)) (Zj (ZI (Zr hr (by decide)) (Zj (Zl 2 nd) (Zj (Zl 3 nd) ZC)) (hlen:=(Zm (Zm (fun _ _ _ h=>ZD h))))) (Zj (ZI (Zr hr (by decide)) (Zj (Zl 4 nd) (Zj (Zl 5 nd) ZC)) (hlen:=(Zm (Zm (fun _ _ _ h=>ZD h))))) ZC)) (hlen:=(Zm (Zm (fun _ _ _ h=>ZD h))))))
  (Zf (ZaY (Zb 1) (ZI (Zr hr (by decide)) (Zj (Zl 6 nd) (Zj (Zl 7 nd) ZC)) (hlen:=(Zm (Zm (fun _ _ _ h=>ZD h))))))
  (Zi (ZA (Zv (Za (Zx (Zt (Zb 2) (Zb 6)) (Zt (Zb 3) (Zb 7))) (Za (Zx (Zt (Zb 4) (Zb 6)) (Zt (Zb 5) (Zb 7))) Zd)))))))
theorem C4:Cal P w K mg base "back" 101 1 F_back:=ZT (N:=["turning","a","b","c","d","sign"]) (T.d.at 3 9) T.gl fun _ _ _ _ _ _ _ nd hr θ=>(Zf (ZaY (Zb 0) (ZI (Zr hr (by decide)) (Zj (ZI (Zr hr (by decide)) (Zj (Zl 1 nd) (Zj (Zl 2 nd) ZC)) (hlen:=(Zm (Zm (fun _ _ _ h=>ZD h))))) (Zj (ZI (Zr hr (by decide)) (Zj (Zl 3 nd) (Zj (Zl 4 nd) ZC)) (hlen:=(Zm (Zm (fun _ _ _ h=>ZD h))))) ZC)) (hlen:=(Zm (Zm (fun _ _ _ h=>ZD h))))))
  (Zf (Zq 5 nd (Zh (C1 T) θ hr (Za (Zv (Za (Zb 1) (Za (Zb 2) Zd))) (Za (Zv (Za (Zb 3) (Za (Zb 4) Zd))) Zd))))
  (Zi (ZA (Zv (Za (Zv (Za (Zt (Zb 5) (Zb 4)) (Za (Zt (Zax (Zb 5)) (Zb 2)) Zd))) (Za (Zv (Za (Zt (Zax (Zb 5)) (Zb 3)) (Za (Zt (Zb 5) (Zb 1)) Zd))) Zd)))))))
theorem C5:Cal P w K mg base "beside" 1 2 F_beside:=ZT (N:=["first","second"]) (T.d.at 4 10) T.gl fun _ _ _ _ _ _ _ nd hr θ=>(Zi (ZA (Zv (Za (Zv (Za (Zo (Zb 0) Ze) (Za (Zo (Zb 1) Ze) Zd))) (Za (Zv (Za (Zo (Zb 0) Ze) (Za (Zo (Zb 1) Ze) Zd))) Zd)))))
theorem C6:Cal P w K mg base "then" 102 2 F_then:=ZT (N:=["one","other","first","second"]) (T.d.at 5 11) T.gl fun _ _ _ _ _ _ _ nd hr θ=>(Zf (Zq 2 nd (Zh (C3 T) θ hr (Za (Zb 1) (Za (Zh (C3 T) θ hr (Za (Zb 0) (Za (Zv (Za Ze (Za Ze Zd))) Zd))) Zd))))
  (Zf (Zq 3 nd (Zh (C3 T) θ hr (Za (Zb 1) (Za (Zh (C3 T) θ hr (Za (Zb 0) (Za (Zv (Za Ze (Za Ze Zd))) Zd))) Zd))))
  (Zi (ZA (Zh (C5 T) θ hr (Za (Zb 2) (Za (Zb 3) Zd)))))))
theorem C7:Cal P w K mg base "leading" 103 4 F_leading:=ZT (N:=["one","other","one_to","other_to"]) (T.d.at 6 12) T.gl fun _ _ _ _ _ _ _ nd hr θ=>(Zf (Z6 (Zlh (Zde (Zc0 (Zcn (Zh (C2 T) θ hr (Za (Zb 0) (Za (Zb 1) Zd))))) (ZdV (Zc0 (Zcn (Zh (C2 T) θ hr (Za (Zb 2) (Za (Zb 3) Zd)))))))) (Zi (Zdm θ T.ex_NoTurning T.gl (hr.hd (by decide)) (Za ZbZ Zd))) ZH)
  (Zi (ZA (Zh (C6 T) θ hr (Za (Zh (C4 T) θ hr (Za (Zh (C5 T) θ hr (Za (Zb 0) (Za (Zb 1) Zd))) Zd)) (Za (Zh (C5 T) θ hr (Za (Zb 2) (Za (Zb 3) Zd))) Zd))))))
theorem C8:Cal P w K mg base "following" 1 2 F_following:=ZT (N:=["things","at"]) (T.d.at 7 14) T.gl fun _ _ _ _ _ _ _ nd hr θ=>(Zi (ZA (Zo (Zb 0) (Zaw (Zx (Zb 1) Ze) (Zs Zp ZY T.b_len PySem.boot_len (Za (Zb 0) Zd))))))
theorem C9:Cal P w K mg base "unspanned" 101 1 F_unspanned:=ZT (N:=["rays","at","ray"]) (T.d.at 8 15) T.gl fun _ _ _ _ _ _ _ nd hr θ=>(Zf (ZeG θ.own (ZeH (hr.hd (by decide)) T.b_enumerate (Za (Zb 0) Zd)) (ZI (Zr hr (by decide)) (Zj (Zl 1 nd) (Zj (Zl 2 nd) ZC)) (hlen:=(Zm (Zm (fun _ _ _ h=>ZD h))))) (Zi (Z6 (ZG (Zby hr.units) Zdf (Zh (C1 T) θ hr (Za (Zb 2) (Za (Zh (C8 T) θ hr (Za (Zb 0) (Za (Zb 1) Zd))) Zd))) Ze) (Zi (ZA (Zb 1))) ZH)))
  (Zi (ZA ZdU)))
theorem C10:Cal P w K mg base "ask_smooth" 102 1 F_ask_smooth:=ZT (N:=["rays","at"]) (T.d.at 9 16) T.gl fun _ _ _ _ _ _ _ nd hr θ=>(Zf (Zq 1 nd (Zh (C9 T) θ hr (Za (Zb 0) Zd)))
  (Zi (Z6 (ZG Zg2 Zi3 (Zb 1) ZdU) (Zi (Zdm θ T.ex_NotSmooth T.gl (hr.hd (by decide)) (Za (ZqP (ZeJ ZbZ (ZeJ (ZqO (Zb 1)) (ZeJ ZbZ Zn6)))) Zd))) ZH)))
theorem C11:Cal P w K mg base "partner" 101 1 F_partner:=ZT (N:=["ray","high","low","first","second","many"]) (T.d.at 10 18) T.gl fun _ _ _ _ _ _ _ nd hr θ=>(Zf (ZaY (Zb 0) (ZI (Zr hr (by decide)) (Zj (Zl 1 nd) (Zj (Zl 2 nd) ZC)) (hlen:=(Zm (Zm (fun _ _ _ h=>ZD h))))))
  (Zf (ZaY (Zv (Za (Zv (Za Ze (Za Ze Zd))) (Za (Zv (Za (Zax Ze) (Za Ze Zd))) Zd))) (ZI (Zr hr (by decide)) (Zj (Zl 3 nd) (Zj (Zl 4 nd) ZC)) (hlen:=(Zm (Zm (fun _ _ _ h=>ZD h))))))
  (Zf (Zdh θ.own (ZG (Zby hr.units) Zdf (Zb 2) Ze) (Zf (Zq 5 nd (Zb1 (Zb 1) (Zb 2)))
  (Zf (Zbh 1 2 (Zr hr (by decide)) nd (Za (Zb 2) (Za (ZN (Zb 1) (Zt (Zb 5) (Zb 2))) Zd)))
  (Zi (Zbh 3 4 (Zr hr (by decide)) nd (Za (Zb 4) (Za (Zv (Za (ZN (Zo (Zb 3) Ze) (Zt (Zb 5) (Zo (Zb 4) Ze))) (Za (ZN (Zo (Zb 3) Ze) (Zt (Zb 5) (Zo (Zb 4) Ze))) Zd))) Zd)))))))
  (Zi (ZA (Zv (Za (Zt (Zb 1) (Zo (Zb 3) Ze)) (Za (Zt (Zb 1) (Zo (Zb 3) Ze)) Zd))))))))
theorem C12:Cal P w K mg base "first_behind" 102 2 F_first_behind:=ZT (N:=["u","v","w","many"]) (T.d.at 11 19) T.gl fun _ _ _ _ _ _ _ nd hr θ=>(Zf (Zq 2 nd (Zh (C11 T) θ hr (Za (Zb 0) Zd)))
  (Zf (Zq 3 nd (Zb1 (Zh (C1 T) θ hr (Za (Zb 2) (Za (Zb 1) Zd))) (Zh (C1 T) θ hr (Za (Zb 0) (Za (Zb 1) Zd)))))
  (Zi (ZA (Zv (Za (ZN (Zo (Zb 2) Ze) (Zt (Zb 3) (Zo (Zb 0) Ze))) (Za (ZN (Zo (Zb 2) Ze) (Zt (Zb 3) (Zo (Zb 0) Ze))) Zd)))))))
theorem C13:Cal P w K mg base "expanded" 101 2 F_expanded:=ZT (N:=["top","bottom","numbers","number"]) (T.d.at 12 20) T.gl fun _ _ _ _ _ _ _ nd hr θ=>(Zf (Zq 2 nd (ZX Zd))
  (Zf (Zdh θ.own (ZG (Zby hr.units) Zdf (Zb 1) Ze) (Zf (Zq 3 nd (Zax (Zb1 (Zax (Zb 0)) (Zb 1))))
  (Zf (Zcs (Zcv (Zb 2) (Zb 3)))
  (Zi (Zbh 0 1 (Zr hr (by decide)) nd (Za (Zb 1) (Za (ZN (Zt (Zb 3) (Zb 1)) (Zb 0)) Zd)))))))
  (Zi (ZA (Zb 2)))))
theorem C14:Cal P w K mg base "row" 103 2 F_row:=ZT (N:=["u","v"]) (T.d.at 13 21) T.gl fun _ _ _ _ _ _ _ nd hr θ=>(Zf (Z6 (ZG Zm8 ZnA (Zh (C1 T) θ hr (Za (Zb 0) (Za (Zb 1) Zd))) Ze) (Zi (Zdm θ T.ex_NoWedge T.gl (hr.hd (by decide)) (Za ZbZ Zd))) ZH)
  (Zi (ZA (Zh (C13 T) θ hr (Za (Zh (C1 T) θ hr (Za (Zb 0) (Za (Zb 1) Zd))) (Za (Zh (C1 T) θ hr (Za (Zh (C12 T) θ hr (Za (Zb 0) (Za (Zb 1) Zd))) (Za (Zb 1) Zd))) Zd))))))
theorem C15:Cal P w K mg base "between" 104 2 F_between:=ZT (N:=["u","v","numbers","rays","ahead","ray","number"]) (T.d.at 14 22) T.gl fun _ _ _ _ _ _ _ nd hr θ=>(Zf (Zq 2 nd (Zh (C14 T) θ hr (Za (Zb 0) (Za (Zb 1) Zd))))
  (Zf (Zq 3 nd (ZX Zd))
  (Zf (Zbh 4 5 (Zr hr (by decide)) nd (Za (Zb 0) (Za (Zh (C12 T) θ hr (Za (Zb 0) (Za (Zb 1) Zd))) Zd)))
  (Zf (Zfj θ.own (Zb 2) (Zl 6 nd) (Zf (Zcs (Zcv (Zb 3) (Zb 5)))
  (Zi (Zbh 4 5 (Zr hr (by decide)) nd (Za (Zb 5) (Za (Zv (Za (ZN (Zt (Zb 6) (Zo (Zb 5) Ze)) (Zo (Zb 4) Ze)) (Za (ZN (Zt (Zb 6) (Zo (Zb 5) Ze)) (Zo (Zb 4) Ze)) Zd))) Zd))))))
  (Zi (ZA (Zb 3)))))))
theorem C16:Cal P w K mg base "least_round" 105 1 F_least_round:=ZT (N:=["rays","least","at","ray"]) (T.d.at 15 24) T.gl fun _ _ _ _ _ _ _ nd hr θ=>(Zf (Zq 1 nd (ZX Zd))
  (Zf (ZeG θ.own (ZeH (hr.hd (by decide)) T.b_enumerate (Za (Zb 0) Zd)) (ZI (Zr hr (by decide)) (Zj (Zl 2 nd) (Zj (Zl 3 nd) ZC)) (hlen:=(Zm (Zm (fun _ _ _ h=>ZD h))))) (Zf (Zcs (Zcv (Zb 1) (Zb 3)))
  (Zi (Zcs (Zlv PySem.F.slot_list_extend PySem.F.type_list_extend ZgK ZnR (Zb 1) (Za (Zh (C15 T) θ hr (Za (Zb 3) (Za (Zh (C8 T) θ hr (Za (Zb 0) (Za (Zb 2) Zd))) Zd))) Zd))))))
  (Zi (ZA (Zb 1)))))
theorem C17:Cal P w K mg base "numbers" 103 1 F_numbers:=ZT (N:=["rays"]) (T.d.at 16 26) T.gl fun _ _ _ _ _ _ _ nd hr θ=>(Zf (Zcs (Zh (C10 T) θ hr (Za (Zb 0) Zd)))
  (Zi (ZA (ZbU (Zkd (XN:=["rays"]) (dn:=(Zz (top 26)).names) (N:=["at","rays"]) (k:=1) (fr:=[0]) rfl rfl rfl rfl (by decide +kernel)) (Zhc T.b_range (Za (Zs Zp ZY T.b_len PySem.boot_len (Za (Zb 0) Zd)) Zd)) (fun _ _ _ _=>(Zl 0 (show List.Nodup (["at","rays"]:List Str) by decide +kernel))) (fun _ _ _ _=>(Or.inl ⟨rfl,rfl⟩)) (fun _ _ _ _=>(Zh (C1 T) Zcu hr (Za (Zh (C8 T) Zcu hr (Za (Zb 1) (Za (Zb 0) Zd))) (Za (Zo (Zb 1) (ZN (Zb 0) Ze)) Zd))))))))
theorem C18:Cal P w K mg base "marked_row" 104 2 F_marked_row:=ZT (N:=["rays","least","own"]) (T.d.at 17 28) T.gl fun _ _ _ _ _ _ _ nd hr θ=>(Zf (Zq 2 nd (Zjl hr.units (ZqK (N:=["ray"]) (k:=1) (by decide +kernel) rfl (by decide +kernel) rfl) (Zb3 (Zb 0)) (fun _ _ _ _=>(Zl 0 (show List.Nodup (["ray"]:List Str) by decide +kernel))) (fun _ _ _ _=>(Or.inl ⟨rfl,rfl⟩)) (fun _ _ _ _=>(Zb 0)) (fun _ _ _ _=>ZdT)))
  (Zi (ZA (ZbU (Zkd (XN:=["rays","least","own"]) (dn:=(Zz (top 28)).names) (N:=["number","ray","own"]) (k:=2) (fr:=[2]) rfl rfl rfl rfl (by decide +kernel)) (ZnU (hr.hd (by decide)) T.b_zip (Za (Zh (C17 T) θ hr (Za (Zb 1) Zd)) (Za (Zb 1) Zd))) (fun _ _ _ _=>(ZI (Zr hr (by decide)) (Zj (Zl 0 (show List.Nodup (["number","ray","own"]:List Str) by decide +kernel)) (Zj (Zl 1 (show List.Nodup (["number","ray","own"]:List Str) by decide +kernel)) ZC)) (hlen:=(Zm (Zm (fun _ _ _ h=>ZD h)))))) (fun _ _ _ _=>(Or.inl ⟨rfl,rfl⟩)) (fun _ _ _ _=>(Zv (Za (Zb 0) (Za (ZqE (ZG (Zn1 hr.units) Zn2 (Zb 1) (Zb 2)) Ze Ze) Zd))))))))
theorem C19:Cal P w K mg base "first_reading" 106 1 F_first_reading:=ZT (N:=["rays","least","marked","best","two","at","ray","onward","backward","reading","beside"]) (T.d.at 18 29) T.gl fun _ _ _ _ _ _ _ nd hr θ=>(Zf (Zq 1 nd (Zh (C16 T) θ hr (Za (Zb 0) Zd)))
  (Zf (Zq 2 nd (Zh (C18 T) θ hr (Za (Zb 0) (Za (Zb 1) Zd))))
  (Zf (Zq 3 nd ZdU)
  (Zf (Zq 4 nd ZdU)
  (Zf (ZeG θ.own (ZeH (hr.hd (by decide)) T.b_enumerate (Za (Zb 1) Zd)) (ZI (Zr hr (by decide)) (Zj (Zl 5 nd) (Zj (Zl 6 nd) ZC)) (hlen:=(Zm (Zm (fun _ _ _ h=>ZD h))))) (Zf (Zq 7 nd (Zx (ZaR (Zb 2) (ZaQ (Zb 5)) ZaP) (ZaR (Zb 2) ZaP (ZaQ (Zb 5)))))
  (Zf (Zq 8 nd (Zx (ZaR (Zb 7) ZaP (ZaQ Ze)) (ZqW (Zb 7))))
  (Zi (Zfj θ.own (ZX (Za (Zv (Za (Zb 7) (Za (Zh (C8 T) θ hr (Za (Zb 1) (Za (Zb 5) Zd))) Zd))) (Za (Zv (Za (Zb 8) (Za (Zo (Zb 1) (ZN (Zb 5) Ze)) Zd))) Zd))) (ZI (Zr hr (by decide)) (Zj (Zl 9 nd) (Zj (Zl 10 nd) ZC)) (hlen:=(Zm (Zm (fun _ _ _ h=>ZD h))))) (Zi (Z6 (Zlh (Zde (ZG ZnC ZqH (Zb 3) ZdU) (ZdV (ZG (Zn8 hr.units) Zn9 (Zb 9) (Zb 3))))) (Zf (Zq 3 nd (Zb 9))
  (Zi (Zq 4 nd (Zv (Za (Zb 6) (Za (Zb 10) Zd)))))) ZH)))))))
  (Zi (ZA (Zv (Za (Zb 3) (Za (Zb 4) Zd))))))))))
theorem C20:Cal P w K mg base "likeness" 107 2 F_likeness:=ZT (N:=["one","other","one_row","ray","beside","other_row","ray_to","beside_to"]) (T.d.at 19 30) T.gl fun _ _ _ _ _ _ _ nd hr θ=>(Zf (ZaY (Zh (C19 T) θ hr (Za (Zb 0) Zd)) (ZI (Zr hr (by decide)) (Zj (Zl 2 nd) (Zj (ZI (Zr hr (by decide)) (Zj (Zl 3 nd) (Zj (Zl 4 nd) ZC)) (hlen:=(Zm (Zm (fun _ _ _ h=>ZD h))))) ZC)) (hlen:=(Zm (Zm (fun _ _ _ h=>ZD h))))))
  (Zf (ZaY (Zh (C19 T) θ hr (Za (Zb 1) Zd)) (ZI (Zr hr (by decide)) (Zj (Zl 5 nd) (Zj (ZI (Zr hr (by decide)) (Zj (Zl 6 nd) (Zj (Zl 7 nd) ZC)) (hlen:=(Zm (Zm (fun _ _ _ h=>ZD h))))) ZC)) (hlen:=(Zm (Zm (fun _ _ _ h=>ZD h))))))
  (Zf (Z6 (ZG (Zby hr.units) Zdf (Zb 2) (Zb 5)) (Zi (ZA (Zv (Za ZbZ (Za (Zb 2) (Za (Zb 5) Zd)))))) ZH)
  (Zi (ZA (Zv (Za ZbZ (Za (Zh (C7 T) θ hr (Za (Zb 3) (Za (Zb 4) (Za (Zb 6) (Za (Zb 7) Zd))))) Zd))))))))
theorem C21:Cal P w K mg base "_law_purse" 1 2 F_law_purse:=ZT (N:=["_law_script","_law_k","_law_cell","_law_large"]) (T.d.at 20 32) T.gl fun _ _ _ _ _ _ _ nd hr θ=>(Zf (Zq 2 nd Ze)
  (Zf (Z6 (ZG ZkY Zlk (Zb 1) (Zs Zp ZY T.b_len PySem.boot_len (Za (Zb 0) Zd))) (Zi (Zq 2 nd (Zo (Zb 0) (Zb 1)))) ZH)
  (Zf (Zq 3 nd (Zaw (Zb 2) (Zt (ZgY Ze Ze) (ZgY Ze Ze))))
  (Zi (ZA (ZX (Za (Zt (Zb 3) (ZS ZaG Zc1 T.b_int Zc2 (Za (Zb0 Zqs ZqF (Zb 3) (ZgY Ze Ze)) Zd))) (Za (Zx (Zx (Zaw (Zb 2) Ze) (Zt Ze (Zb 1))) Ze) Zd))))))))
theorem C22:Cal P w K mg base "_law_take" 1 2 F_law_take:=ZT (N:=["_law_purse_here","_law_many","_law_digit"]) (T.d.at 21 33) T.gl fun _ _ _ _ _ _ _ nd hr θ=>(Zf (Z6 (ZG Zb8 Zcb (Zo (Zb 0) Ze) Ze) (Zf (Zq 2 nd (Zaw (Zo (Zb 0) Ze) (Zb 1)))
  (Zf (Zka (Zb 0) Ze (Zb1 (Zo (Zb 0) Ze) (Zb 1)))
  (Zi (ZA (Zb 2))))) ZH)
  (Zf (Zka (Zb 0) Ze (Zaw (Zx (Zt (Zo (Zb 0) Ze) Ze) Ze) Ze))
  (Zi (ZA (Zaw (Zb1 (Zaw (Zt (Zo (Zb 0) Ze) Ze) Ze) Ze) (Zb 1))))))
theorem C23:Cal P w K mg base "_law_crossed" 1 2 F_law_crossed:=ZT (N:=["_law_one","_law_other"]) (T.d.at 22 34) T.gl fun _ _ _ _ _ _ _ nd hr θ=>(Zi (ZA (ZN (Zt (Zo (Zb 0) Ze) (Zo (Zb 1) Ze)) (Zt (Zo (Zb 0) Ze) (Zo (Zb 1) Ze)))))
theorem C24:Cal P w K mg base "_law_short" 101 1 F_law_short:=ZT (N:=["_law_pair","_law_one","_law_other"]) (T.d.at 23 35) T.gl fun _ _ _ _ _ _ _ nd hr θ=>(Zf (Zbh 1 2 (Zr hr (by decide)) nd (Za (Zs ZaM Zco T.b_abs Zct (Za (Zo (Zb 0) Ze) Zd)) (Za (Zs ZaM Zco T.b_abs Zct (Za (Zo (Zb 0) Ze) Zd)) Zd)))
  (Zf (Zdh θ.own (ZG Zb8 Zcb (Zb 2) Ze) (Zi (Zbh 1 2 (Zr hr (by decide)) nd (Za (Zb 2) (Za (Zaw (Zb 1) (Zb 2)) Zd)))))
  (Zf (Z6 (ZG (ZaH hr.units) ZbT (Zb 1) Ze) (Zi (ZA (Zv (Za Ze (Za Ze Zd))))) ZH)
  (Zi (ZA (Zv (Za (Zb1 (Zo (Zb 0) Ze) (Zb 1)) (Za (Zb1 (Zo (Zb 0) Ze) (Zb 1)) Zd))))))))
theorem C25:Cal P w K mg base "_law_greatest" 101 1 F_law_greatest:=ZT (N:=["_law_rays"]) (T.d.at 24 36) T.gl fun _ _ _ _ _ _ _ nd hr θ=>(Zi (ZA (Zs (Zhl (Zr hr (by decide))) Zlz T.b_max Zfk (Za (ZbU (ZqK (N:=["_law_ray"]) (k:=1) (by decide +kernel) rfl (by decide +kernel) rfl) (Zb3 (Zb 0)) (fun _ _ _ _=>(Zl 0 (show List.Nodup (["_law_ray"]:List Str) by decide +kernel))) (fun _ _ _ _=>(Or.inl ⟨rfl,rfl⟩)) (fun _ _ _ _=>(Zs (Zck (Zr hr (by decide))) Zg3 T.b_max Zfk (Za (Zs ZaM Zco T.b_abs Zct (Za (Zo (Zb 0) Ze) Zd)) (Za (Zs ZaM Zco T.b_abs Zct (Za (Zo (Zb 0) Ze) Zd)) Zd))))) Zd))))
theorem C26:Cal P w K mg base "_law_put" 101 2 F_law_put:=ZT (N:=["_law_rays","_law_at","_law_turn","_law_here","_law_after","_law_new"]) (T.d.at 25 37) T.gl fun _ _ _ _ _ _ _ nd hr θ=>(Zf (Zbb θ.own T.b_range (Za (Zs Zp ZY T.b_len PySem.boot_len (Za (Zb 0) Zd)) Zd) (Zl 2 nd) (Zf (Zq 3 nd (Zaw (Zx (Zb 1) (Zb 2)) (Zs Zp ZY T.b_len PySem.boot_len (Za (Zb 0) Zd))))
  (Zf (Zq 4 nd (Zo (Zb 0) (Zaw (Zx (Zb 3) Ze) (Zs Zp ZY T.b_len PySem.boot_len (Za (Zb 0) Zd)))))
  (Zf (Zq 5 nd (Zv (Za (Zx (Zo (Zo (Zb 0) (Zb 3)) Ze) (Zo (Zb 4) Ze)) (Za (Zx (Zo (Zo (Zb 0) (Zb 3)) Ze) (Zo (Zb 4) Ze)) Zd))))
  (Zi (Z6 (ZG ZkY Zlk (Zs (Zck (Zr hr (by decide))) Zg3 T.b_max Zfk (Za (Zs ZaM Zco T.b_abs Zct (Za (Zo (Zb 5) Ze) Zd)) (Za (Zs ZaM Zco T.b_abs Zct (Za (Zo (Zb 5) Ze) Zd)) Zd))) Ze) (Zi (ZA (Zx (Zx (ZaR (Zb 0) ZaP (ZaQ (Zx (Zb 3) Ze))) (ZX (Za (Zb 5) Zd))) (ZaR (Zb 0) (ZaQ (Zx (Zb 3) Ze)) ZaP)))) ZH))))))
  (Zi (ZA (Zb 0))))
theorem C27:Cal P w K mg base "_law_sheared" 102 3 F_law_sheared:=ZT (N:=["_law_rays","_law_many","_law_way","_law_found"]) (T.d.at 26 38) T.gl fun _ _ _ _ _ _ _ nd hr θ=>(Zf (Zdq 3 nd (Zkd (XN:=["_law_rays","_law_many","_law_way","_law_found"]) (dn:=(Zz (top 38)).names) (N:=["_law_x","_law_y","_law_many","_law_way"]) (k:=2) (fr:=[1,2]) rfl rfl rfl rfl (by decide +kernel)) (Zb3 (Zb 0)) (fun _ _ _ _=>(ZI (Zr hr (by decide)) (Zj (Zl 0 (show List.Nodup (["_law_x","_law_y","_law_many","_law_way"]:List Str) by decide +kernel)) (Zj (Zl 1 (show List.Nodup (["_law_x","_law_y","_law_many","_law_way"]:List Str) by decide +kernel)) ZC)) (hlen:=(Zm (Zm (fun _ _ _ h=>ZD h)))))) (fun _ _ _ _=>(Or.inl ⟨rfl,rfl⟩)) (fun _ _ _ _=>(Zo (ZX (Za (Zv (Za (Zx (Zb 0) (Zt (Zb 2) (Zb 1))) (Za (Zb 1) Zd))) (Za (Zv (Za (Zb 0) (Za (Zx (Zb 1) (Zt (Zb 2) (Zb 0))) Zd))) Zd))) (Zb 3))))
  (Zf (Z6 (ZG Zb8 Zcb (Zh (C25 T) θ hr (Za (Zb 3) Zd)) Ze) (Zi (ZA (Zb 0))) ZH)
  (Zi (ZA (Zb 3)))))
theorem C28:Cal P w K mg base "_law_smooth" 103 2 F_law_smooth:=ZT (N:=["_law_purse_here","_law_most","_law_lean","_law_rays","_law_many","_law_turn","_law_width","_law_often","_law_at"]) (T.d.at 27 39) T.gl fun _ _ _ _ _ _ _ nd hr θ=>(Zf (Zq 2 nd (Zh (C22 T) θ hr (Za (Zb 0) (Za Ze Zd))))
  (Zf (Zq 3 nd (Zo (ZX (Za (ZX (Za (Zv (Za Ze (Za Ze Zd))) (Za (Zv (Za Ze (Za Ze Zd))) (Za (Zv (Za (Zax Ze) (Za (Zax Ze) Zd))) Zd)))) (Za (ZX (Za (Zv (Za Ze (Za Ze Zd))) (Za (Zv (Za Ze (Za Ze Zd))) (Za (Zv (Za (Zax Ze) (Za (ZN (Zb 2) Ze) Zd))) (Za (Zv (Za Ze (Za (Zax Ze) Zd))) Zd))))) Zd))) (ZS ZaG Zc1 T.b_int Zc2 (Za (Zb0 Zb8 Zcb (Zb 2) Ze) Zd))))
  (Zf (Zq 4 nd (Zo (ZX (Za (Zx Ze (Zh (C22 T) θ hr (Za (Zb 0) (Za (ZN (Zb 1) Ze) Zd)))) (Za (Zb 1) Zd))) (ZS ZaG Zc1 T.b_int Zc2 (Za (Zb0 (ZaH hr.units) ZbT (Zh (C22 T) θ hr (Za (Zb 0) (Za Ze Zd))) Ze) Zd))))
  (Zf (Zbb θ.own T.b_range (Za (ZN (Zb 4) (Zs Zp ZY T.b_len PySem.boot_len (Za (Zb 3) Zd))) Zd) (Zl 5 nd) (Zi (Zq 3 nd (Zh (C26 T) θ hr (Za (Zb 3) (Za (Zh (C22 T) θ hr (Za (Zb 0) (Za (Zs Zp ZY T.b_len PySem.boot_len (Za (Zb 3) Zd)) Zd))) Zd))))))
  (Zf (Zq 6 nd (Zo (ZX (Za Ze (Za Ze Zd))) (ZS ZaG Zc1 T.b_int Zc2 (Za (Zb0 (ZaH hr.units) ZbT (Zh (C22 T) θ hr (Za (Zb 0) (Za Ze Zd))) Ze) Zd))))
  (Zf (Zbb θ.own T.b_range (Za (Zh (C22 T) θ hr (Za (Zb 0) (Za Ze Zd))) Zd) (Zl 5 nd) (Zf (Zq 7 nd (ZN (Zh (C22 T) θ hr (Za (Zb 0) (Za (Zb 6) Zd))) (Zb1 (Zb 6) Ze)))
  (Zi (Zq 3 nd (Zh (C27 T) θ hr (Za (Zb 3) (Za (Zb 7) (Za (Zh (C22 T) θ hr (Za (Zb 0) (Za Ze Zd))) Zd))))))))
  (Zf (Z6 (ZG (ZaH hr.units) ZbT (Zh (C22 T) θ hr (Za (Zb 0) (Za Ze Zd))) Ze) (Zi (Zdq 3 nd (ZqK (N:=["_law_x","_law_y"]) (k:=2) (by decide +kernel) rfl (by decide +kernel) rfl) (Zn5 (hr.hd (by decide)) T.b_reversed (Za (Zb 3) Zd)) (fun _ _ _ _=>(ZI (Zr hr (by decide)) (Zj (Zl 0 (show List.Nodup (["_law_x","_law_y"]:List Str) by decide +kernel)) (Zj (Zl 1 (show List.Nodup (["_law_x","_law_y"]:List Str) by decide +kernel)) ZC)) (hlen:=(Zm (Zm (fun _ _ _ h=>ZD h)))))) (fun _ _ _ _=>(Or.inl ⟨rfl,rfl⟩)) (fun _ _ _ _=>(Zv (Za (Zb 1) (Za (Zb 0) Zd)))))) ZH)
  (Zf (Zq 8 nd (Zh (C22 T) θ hr (Za (Zb 0) (Za (Zs Zp ZY T.b_len PySem.boot_len (Za (Zb 3) Zd)) Zd))))
  (Zi (ZA (Zx (ZaR (Zb 3) (ZaQ (Zb 8)) ZaP) (ZaR (Zb 3) ZaP (ZaQ (Zb 8))))))))))))))
theorem C29:Cal P w K mg base "_law_round" 104 2 F_law_round:=ZT (N:=["_law_purse_here","_law_most","_law_rays","_law_width","_law_a","_law_d","_law_b","_law_c","_law_found","_law_ray","_law_at","_law_without"]) (T.d.at 28 40) T.gl fun _ _ _ _ _ _ _ nd hr θ=>(Zf (Zq 2 nd (Zh (C28 T) θ hr (Za (Zb 0) (Za (Zb 1) Zd))))
  (Zf (Zq 3 nd (Zo (ZX (Za Ze (Za Ze Zd))) (ZS ZaG Zc1 T.b_int Zc2 (Za (Zb0 (ZaH hr.units) ZbT (Zh (C22 T) θ hr (Za (Zb 0) (Za Ze Zd))) Ze) Zd))))
  (Zf (ZaY (Zv (Za (Zx Ze (Zh (C22 T) θ hr (Za (Zb 0) (Za (Zb 3) Zd)))) (Za (Zx Ze (Zh (C22 T) θ hr (Za (Zb 0) (Za Ze Zd)))) Zd))) (ZI (Zr hr (by decide)) (Zj (Zl 4 nd) (Zj (Zl 5 nd) ZC)) (hlen:=(Zm (Zm (fun _ _ _ h=>ZD h))))))
  (Zf (Zq 6 nd (ZN (Zh (C22 T) θ hr (Za (Zb 0) (Za Ze Zd))) Ze))
  (Zf (Zq 7 nd (Zt (ZN (Zh (C22 T) θ hr (Za (Zb 0) (Za Ze Zd))) Ze) (ZS ZaG Zc1 T.b_int Zc2 (Za (Zb0 Zb8 Zcb (Zt (Zb 4) (Zb 5)) Ze) Zd))))
  (Zf (Zdq 8 nd (Zkd (XN:=["_law_purse_here","_law_most","_law_rays","_law_width","_law_a","_law_d","_law_b","_law_c","_law_found","_law_ray","_law_at","_law_without"]) (dn:=(Zz (top 40)).names) (N:=["_law_x","_law_y","_law_a","_law_d","_law_b","_law_c"]) (k:=2) (fr:=[4,5,6,7]) rfl rfl rfl rfl (by decide +kernel)) (Zb3 (Zb 2)) (fun _ _ _ _=>(ZI (Zr hr (by decide)) (Zj (Zl 0 (show List.Nodup (["_law_x","_law_y","_law_a","_law_d","_law_b","_law_c"]:List Str) by decide +kernel)) (Zj (Zl 1 (show List.Nodup (["_law_x","_law_y","_law_a","_law_d","_law_b","_law_c"]:List Str) by decide +kernel)) ZC)) (hlen:=(Zm (Zm (fun _ _ _ h=>ZD h)))))) (fun _ _ _ _=>(Or.inl ⟨rfl,rfl⟩)) (fun _ _ _ _=>(Zh (C24 T) Zcu hr (Za (Zv (Za (Zx (Zt (Zb 2) (Zb 0)) (Zt (Zb 4) (Zb 1))) (Za (Zx (Zt (Zb 5) (Zb 0)) (Zt (Zb 3) (Zb 1))) Zd))) Zd))))
  (Zf (Z6 (ZG Zm8 ZnA (Zh (C25 T) θ hr (Za (Zb 8) Zd)) Ze) (Zi (Zq 2 nd (Zb 8))) ZH)
  (Zf (Zfj θ.own (ZS Zaf Zcp T.b_list Zbn (Za (Zb 2) Zd)) (Zl 9 nd) (Zf (Zq 10 nd (Zlv PySem.F.slot_list_index PySem.F.type_list_index (ZnX hr.units) ZnY (Zb 2) (Za (Zb 9) Zd)))
  (Zf (Zq 11 nd (Zx (ZaR (Zb 2) ZaP (ZaQ (Zb 10))) (ZaR (Zb 2) (ZaQ (Zx (Zb 10) Ze)) ZaP)))
  (Zi (Z6 (Zlh (Zj6 (ZG Zb8 Zcb (Zs Zp ZY T.b_len PySem.boot_len (Za (Zb 11) Zd)) Ze) (ZgX (ZG (ZaH hr.units) ZbT (Zh (C22 T) θ hr (Za (Zb 0) (Za Ze Zd))) Ze)))) (Zi (Z6 (ZG Zb8 Zcb (Zh (C23 T) θ hr (Za (Zo (Zb 11) (ZN (Zb 10) Ze)) (Za (Zo (Zb 11) (Zaw (Zb 10) (Zs Zp ZY T.b_len PySem.boot_len (Za (Zb 11) Zd)))) Zd))) Ze) (Zi (Zq 2 nd (Zb 11))) ZH)) ZH)))))
  (Zi (ZA (Zb 2)))))))))))
theorem C30:Cal P w K mg base "_law_table" 2 1 F_law_table:=ZT (N:=["_law_purse_here","_law_table_here","_law_turn","_law_many"]) (T.d.at 29 41) T.gl fun _ _ _ _ _ _ _ nd hr θ=>(Zf (Zq 1 nd (ZX (Za Ze (Za Ze (Za Ze (Za Ze Zd))))))
  (Zf (Zbb θ.own T.b_range (Za (Zh (C22 T) θ hr (Za (Zb 0) (Za Ze Zd))) Zd) (Zl 2 nd) (Zf (Zq 3 nd (ZN (Zh (C22 T) θ hr (Za (Zb 0) (Za Ze Zd))) Ze))
  (Zi (Z6 (ZG (ZaH hr.units) ZbT (Zh (C22 T) θ hr (Za (Zb 0) (Za Ze Zd))) Ze) (Zi (Zq 1 nd (ZX (Za (Zx (Zo (Zb 1) Ze) (Zt (Zb 3) (Zo (Zb 1) Ze))) (Za (Zx (Zo (Zb 1) Ze) (Zt (Zb 3) (Zo (Zb 1) Ze))) (Za (Zo (Zb 1) Ze) (Za (Zo (Zb 1) Ze) Zd))))))) (Zi (Zq 1 nd (ZX (Za (Zo (Zb 1) Ze) (Za (Zo (Zb 1) Ze) (Za (Zx (Zo (Zb 1) Ze) (Zt (Zb 3) (Zo (Zb 1) Ze))) (Za (Zx (Zo (Zb 1) Ze) (Zt (Zb 3) (Zo (Zb 1) Ze))) Zd)))))))))))
  (Zf (Z6 (ZG (ZaH hr.units) ZbT (Zh (C22 T) θ hr (Za (Zb 0) (Za Ze Zd))) Ze) (Zi (Zq 1 nd (ZX (Za (Zo (Zb 1) Ze) (Za (Zo (Zb 1) Ze) (Za (Zo (Zb 1) Ze) (Za (Zo (Zb 1) Ze) Zd))))))) ZH)
  (Zi (ZA (Zb 1))))))
theorem C31:Cal P w K mg base "_law_led" 1 2 F_law_led:=ZT (N:=["_law_table_here","_law_pair"]) (T.d.at 30 42) T.gl fun _ _ _ _ _ _ _ nd hr θ=>(Zi (ZA (Zv (Za (Zx (Zt (Zo (Zb 0) Ze) (Zo (Zb 1) Ze)) (Zt (Zo (Zb 0) Ze) (Zo (Zb 1) Ze))) (Za (Zx (Zt (Zo (Zb 0) Ze) (Zo (Zb 1) Ze)) (Zt (Zo (Zb 0) Ze) (Zo (Zb 1) Ze))) Zd)))))
theorem C32:Cal P w K mg base "_law_copy" 102 2 F_law_copy:=ZT (N:=["_law_purse_here","_law_rays","_law_table_here","_law_found","_law_at"]) (T.d.at 31 43) T.gl fun _ _ _ _ _ _ _ nd hr θ=>(Zf (Zq 2 nd (Zh (C30 T) θ hr (Za (Zb 0) Zd)))
  (Zf (Z6 (ZG Zb8 Zcb (Zh (C25 T) θ hr (Za (ZbU (Zkd (XN:=["_law_purse_here","_law_rays","_law_table_here","_law_found","_law_at"]) (dn:=(Zz (top 43)).names) (N:=["_law_ray","_law_table_here"]) (k:=1) (fr:=[2]) rfl rfl rfl rfl (by decide +kernel)) (Zb3 (Zb 1)) (fun _ _ _ _=>(Zl 0 (show List.Nodup (["_law_ray","_law_table_here"]:List Str) by decide +kernel))) (fun _ _ _ _=>(Or.inl ⟨rfl,rfl⟩)) (fun _ _ _ _=>(Zh (C31 T) Zcu hr (Za (Zb 1) (Za (Zb 0) Zd))))) Zd)) Ze) (Zi (Zq 2 nd (ZX (Za Ze (Za Ze (Za Ze (Za Ze Zd))))))) ZH)
  (Zf (Zdq 3 nd (Zkd (XN:=["_law_purse_here","_law_rays","_law_table_here","_law_found","_law_at"]) (dn:=(Zz (top 43)).names) (N:=["_law_ray","_law_table_here"]) (k:=1) (fr:=[2]) rfl rfl rfl rfl (by decide +kernel)) (Zb3 (Zb 1)) (fun _ _ _ _=>(Zl 0 (show List.Nodup (["_law_ray","_law_table_here"]:List Str) by decide +kernel))) (fun _ _ _ _=>(Or.inl ⟨rfl,rfl⟩)) (fun _ _ _ _=>(Zh (C31 T) Zcu hr (Za (Zb 1) (Za (Zb 0) Zd)))))
  (Zf (Z6 (ZG ZkY Zlk (ZN (Zt (Zo (Zb 2) Ze) (Zo (Zb 2) Ze)) (Zt (Zo (Zb 2) Ze) (Zo (Zb 2) Ze))) Ze) (Zi (Zq 3 nd (ZqR (hr.hd (by decide)) T.b_list T.b_reversed (Za (Zb 3) Zd)))) ZH)
  (Zf (Zq 4 nd (Zh (C22 T) θ hr (Za (Zb 0) (Za (Zs Zp ZY T.b_len PySem.boot_len (Za (Zb 3) Zd)) Zd))))
  (Zi (ZA (Zx (ZaR (Zb 3) (ZaQ (Zb 4)) ZaP) (ZaR (Zb 3) ZaP (ZaQ (Zb 4)))))))))))
theorem C33:Cal P w K mg base "_law_is_alike" 101 3 F_law_is_alike:=ZT (N:=["_law_one","_law_other","_law_found","_law_a","_law_b","_law_c","_law_d"]) (T.d.at 32 44) T.gl fun _ _ _ _ _ _ _ nd hr θ=>(Zf (Z6 (Zlh (Zde (Zc0 (Zcn (Zg4 Zcr T.b_isinstance T.b_tuple Zdj (Zb 2)))) (Zde (ZG (Zby hr.units) Zdf (Zs Zp ZY T.b_len PySem.boot_len (Za (Zb 2) Zd)) Ze) (Zde (ZG (Zby hr.units) Zdf (Zo (Zb 2) Ze) ZbZ) (ZdV (Zc0 (Zcn (Zg4 Zcr T.b_isinstance T.b_tuple Zdj (Zo (Zb 2) Ze))))))))) (Zi (ZA ZdT)) ZH)
  (Zf (ZaY (Zo (Zb 2) Ze) (ZI (Zr hr (by decide)) (Zj (ZI (Zr hr (by decide)) (Zj (Zl 3 nd) (Zj (Zl 4 nd) ZC)) (hlen:=(Zm (Zm (fun _ _ _ h=>ZD h))))) (Zj (ZI (Zr hr (by decide)) (Zj (Zl 5 nd) (Zj (Zl 6 nd) ZC)) (hlen:=(Zm (Zm (fun _ _ _ h=>ZD h))))) ZC)) (hlen:=(Zm (Zm (fun _ _ _ h=>ZD h))))))
  (Zf (Z6 (ZG ZdO Zi5 (ZN (Zt (Zb 3) (Zb 6)) (Zt (Zb 4) (Zb 5))) (Zv (Za Ze (Za (Zax Ze) Zd)))) (Zi (ZA ZdT)) ZH)
  (Zi (ZA (Zb0 (ZaH hr.units) ZbT (Zs ZaS ZbF T.b_sorted ZbE (Za (ZbU (Zkd (XN:=["_law_one","_law_other","_law_found","_law_a","_law_b","_law_c","_law_d"]) (dn:=(Zz (top 44)).names) (N:=["_law_x","_law_y","_law_a","_law_b","_law_c","_law_d"]) (k:=2) (fr:=[3,4,5,6]) rfl rfl rfl rfl (by decide +kernel)) (Zb3 (Zb 0)) (fun _ _ _ _=>(ZI (Zr hr (by decide)) (Zj (Zl 0 (show List.Nodup (["_law_x","_law_y","_law_a","_law_b","_law_c","_law_d"]:List Str) by decide +kernel)) (Zj (Zl 1 (show List.Nodup (["_law_x","_law_y","_law_a","_law_b","_law_c","_law_d"]:List Str) by decide +kernel)) ZC)) (hlen:=(Zm (Zm (fun _ _ _ h=>ZD h)))))) (fun _ _ _ _=>(Or.inl ⟨rfl,rfl⟩)) (fun _ _ _ _=>(Zv (Za (Zx (Zt (Zb 2) (Zb 0)) (Zt (Zb 3) (Zb 1))) (Za (Zx (Zt (Zb 4) (Zb 0)) (Zt (Zb 5) (Zb 1))) Zd))))) Zd)) (Zs ZaS ZbF T.b_sorted ZbE (Za (Zb 1) Zd))))))))
theorem C34:Cal P w K mg base "_law_changed" 102 2 F_law_changed:=ZT (N:=["_law_purse_here","_law_rays","_law_at","_law_after","_law_new","_law_found","_law_turn","_law_spot","_law_without"]) (T.d.at 33 45) T.gl fun _ _ _ _ _ _ _ nd hr θ=>(Zf (Zq 2 nd (Zh (C22 T) θ hr (Za (Zb 0) (Za (Zs Zp ZY T.b_len PySem.boot_len (Za (Zb 1) Zd)) Zd))))
  (Zf (Zq 3 nd (Zo (Zb 1) (Zaw (Zx (Zb 2) Ze) (Zs Zp ZY T.b_len PySem.boot_len (Za (Zb 1) Zd)))))
  (Zf (Zq 4 nd (Zh (C24 T) θ hr (Za (Zv (Za (Zx (Zo (Zo (Zb 1) (Zb 2)) Ze) (Zo (Zb 3) Ze)) (Za (Zx (Zo (Zo (Zb 1) (Zb 2)) Ze) (Zo (Zb 3) Ze)) Zd))) Zd)))
  (Zf (Z6 (ZG Zb8 Zcb (Zh (C25 T) θ hr (Za (ZX (Za (Zb 4) Zd)) Zd)) Ze) (Zi (ZA (Zb 1))) ZH)
  (Zf (Zq 5 nd (Zx (Zx (ZaR (Zb 1) ZaP (ZaQ (Zx (Zb 2) Ze))) (ZX (Za (Zb 4) Zd))) (ZaR (Zb 1) (ZaQ (Zx (Zb 2) Ze)) ZaP)))
  (Zf (Zbb θ.own T.b_range (Za (Zs Zp ZY T.b_len PySem.boot_len (Za (Zb 5) Zd)) Zd) (Zl 6 nd) (Zf (Zq 7 nd (Zaw (Zx (Zx (Zb 2) Ze) (Zb 6)) (Zs Zp ZY T.b_len PySem.boot_len (Za (Zb 5) Zd))))
  (Zf (Zq 8 nd (Zx (ZaR (Zb 5) ZaP (ZaQ (Zb 7))) (ZaR (Zb 5) (ZaQ (Zx (Zb 7) Ze)) ZaP)))
  (Zi (Z6 (Zlh (Zj6 (ZG (Zby hr.units) Zdf (Zo (Zb 5) (Zb 7)) (Zb 4)) (ZgX (ZG Zb8 Zcb (Zh (C23 T) θ hr (Za (Zo (Zb 8) (ZN (Zb 7) Ze)) (Za (Zo (Zb 8) (Zaw (Zb 7) (Zs Zp ZY T.b_len PySem.boot_len (Za (Zb 8) Zd)))) Zd))) Ze)))) (Zi (ZA (Zb 8))) ZH)))))
  (Zi (ZA (Zb 1)))))))))
theorem C35:Cal P w K mg base "_law_any_turning" 101 4 F_law_any_turning:=ZT (N:=["_law_one","_law_other","_law_least","_law_others","_law_x","_law_y","_law_z","_law_w","_law_goal","_law_p","_law_q","_law_a","_law_b","_law_c","_law_d"]) (T.d.at 34 46) T.gl fun _ _ _ _ _ _ _ nd hr θ=>(Zf (ZaY (Zv (Za (Zo (Zb 2) Ze) (Za (Zo (Zb 2) Ze) Zd))) (ZI (Zr hr (by decide)) (Zj (ZI (Zr hr (by decide)) (Zj (Zl 4 nd) (Zj (Zl 5 nd) ZC)) (hlen:=(Zm (Zm (fun _ _ _ h=>ZD h))))) (Zj (ZI (Zr hr (by decide)) (Zj (Zl 6 nd) (Zj (Zl 7 nd) ZC)) (hlen:=(Zm (Zm (fun _ _ _ h=>ZD h))))) ZC)) (hlen:=(Zm (Zm (fun _ _ _ h=>ZD h))))))
  (Zf (Zq 8 nd (Zs ZaS ZbF T.b_sorted ZbE (Za (Zb 1) Zd)))
  (Zf (Zfj θ.own (Zx (Zoc (hr.hd (by decide)) T.b_zip T.b_list (Za (Zb 3) (Za (Zx (ZaR (Zb 3) (ZaQ Ze) ZaP) (ZaR (Zb 3) ZaP (ZaQ Ze))) Zd))) (Zoc (hr.hd (by decide)) T.b_zip T.b_list (Za (Zx (ZaR (Zb 3) (ZaQ Ze) ZaP) (ZaR (Zb 3) ZaP (ZaQ Ze))) (Za (Zb 3) Zd)))) (ZI (Zr hr (by decide)) (Zj (Zl 9 nd) (Zj (Zl 10 nd) ZC)) (hlen:=(Zm (Zm (fun _ _ _ h=>ZD h))))) (Zf (ZaY (Zv (Za (ZN (Zt (Zo (Zb 9) Ze) (Zb 7)) (Zt (Zo (Zb 10) Ze) (Zb 5))) (Za (ZN (Zt (Zo (Zb 10) Ze) (Zb 4)) (Zt (Zo (Zb 9) Ze) (Zb 6))) Zd))) (ZI (Zr hr (by decide)) (Zj (Zl 11 nd) (Zj (Zl 12 nd) ZC)) (hlen:=(Zm (Zm (fun _ _ _ h=>ZD h))))))
  (Zf (ZaY (Zv (Za (ZN (Zt (Zo (Zb 9) Ze) (Zb 7)) (Zt (Zo (Zb 10) Ze) (Zb 5))) (Za (ZN (Zt (Zo (Zb 10) Ze) (Zb 4)) (Zt (Zo (Zb 9) Ze) (Zb 6))) Zd))) (ZI (Zr hr (by decide)) (Zj (Zl 13 nd) (Zj (Zl 14 nd) ZC)) (hlen:=(Zm (Zm (fun _ _ _ h=>ZD h))))))
  (Zi (Z6 (ZG (ZaH hr.units) ZbT (Zs ZaS ZbF T.b_sorted ZbE (Za (ZbU (Zkd (XN:=["_law_one","_law_other","_law_least","_law_others","_law_x","_law_y","_law_z","_law_w","_law_goal","_law_p","_law_q","_law_a","_law_b","_law_c","_law_d"]) (dn:=(Zz (top 46)).names) (N:=["_law_s","_law_t","_law_a","_law_b","_law_c","_law_d"]) (k:=2) (fr:=[11,12,13,14]) rfl rfl rfl rfl (by decide +kernel)) (Zb3 (Zb 0)) (fun _ _ _ _=>(ZI (Zr hr (by decide)) (Zj (Zl 0 (show List.Nodup (["_law_s","_law_t","_law_a","_law_b","_law_c","_law_d"]:List Str) by decide +kernel)) (Zj (Zl 1 (show List.Nodup (["_law_s","_law_t","_law_a","_law_b","_law_c","_law_d"]:List Str) by decide +kernel)) ZC)) (hlen:=(Zm (Zm (fun _ _ _ h=>ZD h)))))) (fun _ _ _ _=>(Or.inl ⟨rfl,rfl⟩)) (fun _ _ _ _=>(Zv (Za (Zx (Zt (Zb 2) (Zb 0)) (Zt (Zb 3) (Zb 1))) (Za (Zx (Zt (Zb 4) (Zb 0)) (Zt (Zb 5) (Zb 1))) Zd))))) Zd)) (Zb 8)) (Zi (ZA ZdT)) ZH)))))
  (Zi (ZA ZdT)))))
theorem Zp4 {f:Addr}{fd:FuncData}(F:Fun K "law" "law" (top 47) f fd):FnOk P w K mg base (CXE P w) 108 f fd ["_law_script"] (spD K Ze3):=
 have nd:List.Nodup (["_law_script","_law_k","_law_purse_here","_law_one","_law_other","_law_least","_law_others","_law_found"]:List Str):=by decide +kernel
 ZnI (N:=["_law_script","_law_k","_law_purse_here","_law_one","_law_other","_law_least","_law_others","_law_found"]) F ⟨rfl,rfl,rfl,nd,rfl,by decide +kernel,by decide +kernel⟩ rfl rfl fun _ _ _ _ _ _ hr θ=>(Zf (Zbb θ.own T.b_range (Za (Zs (Zck (Zr hr (by decide))) Zg3 T.b_max Zfk (Za Ze (Za (Zs (ZgC (Zr hr (by decide))) ZnF T.b_min ZnJ (Za Ze (Za (Zs Zp ZY T.b_len PySem.boot_len (Za (Zb 0) Zd)) Zd))) Zd))) Zd) (Zl 1 nd) (Zf (Zq 2 nd (Zh (C21 T) θ hr (Za (Zb 0) (Za (Zb 1) Zd))))
  (Zf (Zq 3 nd (Zh (C29 T) θ hr (Za (Zb 2) (Za Ze Zd))))
  (Zf (Zq 4 nd (Zh (C32 T) θ hr (Za (Zb 2) (Za (Zb 3) Zd))))
  (Zf (Z6 (ZG (ZaH hr.units) ZbT (Zh (C22 T) θ hr (Za (Zb 2) (Za Ze Zd))) Ze) (Zi (Zq 4 nd (Zh (C34 T) θ hr (Za (Zb 2) (Za (Zb 4) Zd))))) ZH)
  (Zf (Zbh 5 6 (Zr hr (by decide)) nd (Za (Zh (C16 T) θ hr (Za (ZS Zaf Zcp T.b_list Zbn (Za (Zb 3) Zd)) Zd)) (Za (Zh (C16 T) θ hr (Za (ZS Zaf Zcp T.b_list Zbn (Za (Zb 4) Zd)) Zd)) Zd)))
  (Zf (Z6 (Zlh (Zde (ZG Zb8 Zcb (Zs Zp ZY T.b_len PySem.boot_len (Za (Zb 5) Zd)) Ze) (ZdV (ZG Zb8 Zcb (Zs Zp ZY T.b_len PySem.boot_len (Za (Zb 6) Zd)) Ze)))) (Zf (Zbh 3 4 (Zr hr (by decide)) nd (Za (ZX (Za (Zv (Za Ze (Za Ze Zd))) (Za (Zv (Za Ze (Za Ze Zd))) (Za (Zv (Za (Zax Ze) (Za (Zax Ze) Zd))) Zd)))) (Za (ZX (Za (Zv (Za Ze (Za Ze Zd))) (Za (Zv (Za (Zax Ze) (Za (Zax Ze) Zd))) (Za (Zv (Za Ze (Za Ze Zd))) Zd)))) Zd)))
  (Zi (Zbh 5 6 (Zr hr (by decide)) nd (Za (Zb 3) (Za (Zb 4) Zd))))) ZH)
  (Zf (Zq 7 nd (Zh (C20 T) θ hr (Za (ZS Zaf Zcp T.b_list Zbn (Za (Zb 3) Zd)) (Za (ZS Zaf Zcp T.b_list Zbn (Za (Zb 4) Zd)) Zd))))
  (Zi (Z6 (Zcn (Zh (C35 T) θ hr (Za (Zb 3) (Za (Zb 4) (Za (Zb 5) (Za (Zb 6) Zd)))))) (Zi (Z6 (Zc0 (Zcn (Zh (C33 T) θ hr (Za (Zb 3) (Za (Zb 4) (Za (Zb 7) Zd)))))) (Zi (ZA ZdT)) ZH)) (Zi (Z6 (Zlh (Zde (Zc0 (Zcn (Zg4 Zcr T.b_isinstance T.b_tuple Zdj (Zb 7)))) (Zde (ZG (Zby hr.units) Zdf (Zs Zp ZY T.b_len PySem.boot_len (Za (Zb 7) Zd)) Ze) (Zde (ZG (Zby hr.units) Zdf (Zo (Zb 7) Ze) ZbZ) (ZdV (ZG (ZaH hr.units) ZbT (Zo (Zb 7) Ze) (Zo (Zb 7) Ze))))))) (Zi (ZA ZdT)) ZH))))))))))))
  (Zi (ZA ZdT)))
end
theorem fin {l:PySem.W.OpenLaw}{w:World}{K:Fg}{h:Heap}{mg:Str->Option Value}{fa:Addr}(X:K.In h)(G:h.Ns mainGlobals mg)(hfa:mg "law"=some (.ref fa))(T:Txt K mg): ∃ fd:FuncData,(∀ (s:Shared) (v:Value),BindsTo s fd ⟨[v],[]⟩ [("_law_script",v)])/\ ∀ base:Heap,K.In base->base.Ns mainGlobals mg->FnOk l.prog w K mg base (CXE l.prog w) 108 fa fd ["_law_script"] (spD K Ze3):=
 ZnL (l:=l) (w:=w) X G hfa (T.d.at 35 47) (fun _ _ _ _ _ _ _=>rfl) fun base fd F=>Zp4 (base:=base) T F
end K37
end
section
namespace K37
open L2 DL
open CB (Bd lrd)
open CV CX
open CD (gg sg)
open CP
section
variable {Q:W0}{E:W2}{M:Sto}{n m p:Nat}{rs cs ls us L:List Pt}{N B C:W1}{R:W0}
theorem ZmB {k:Nat}(h:Rn rs)(hk:k < rs.length):Rn (ins rs k (CQ.shp ((cy rs k).1 + (cy rs (k + 1)).1,(cy rs k).2 + (cy rs (k + 1)).2))):=by
 have hp:=h.pos k
 have e1:X (cy rs k) ((cy rs k).1 + (cy rs (k + 1)).1,(cy rs k).2 + (cy rs (k + 1)).2)=X (cy rs k) (cy rs (k + 1)):=by unfold X;simp only;grind
 have e2:X ((cy rs k).1 + (cy rs (k + 1)).1,(cy rs k).2 + (cy rs (k + 1)).2) (cy rs (k + 1))=X (cy rs k) (cy rs (k + 1)):=by unfold X;simp only;grind
 generalize ((cy rs k).1 + (cy rs (k + 1)).1,(cy rs k).2 + (cy rs (k + 1)).2)=s at *;have nz:s≠(0,0):=fun z=>by
  rw[z] at e1
  have:X (cy rs k) (0,0)=0:=by unfold X;simp
  lia
 obtain ⟨g,g0,eg⟩:=CQ.ZbK nz
 refine h.ins hk (CQ.Zih s) ?_ ?_
 ·generalize CQ.shp s=w at *
  rw[eg] at e1;have e:X (cy rs k) (g * w.1,g * w.2)=g * X (cy rs k) w:=by unfold X;simp only;grind
  rw[e] at e1;exact (CQ.ZmL g0).mp (by lia)
 ·generalize CQ.shp s=w at *
  rw[eg] at e2;have e:X (g * w.1,g * w.2) (cy rs (k + 1))=g * X w (cy rs (k + 1)):=by unfold X;simp only;grind
  rw[e] at e2;exact (CQ.ZmL g0).mp (by lia)
theorem ZiC (h:M[m]?=some (.lst (prs rs)))(hm:m≠n)(hr:Rn rs)(hn:Nr 200 rs)(hl:rs.length<=44)(hb:Bag n M)(q: ∀ us o M',Rn us->Nr 200 us->us.length<=44->M'[o]?=some (.lst (prs us))->Gr n M M'->Q (.ref o) M'):wO (F_law_changed [.ref n,.ref m] M) Q E:=by
 have l3:=hr.len
 simp![F_law_changed,ZbM,h];refine CB.ZV hb (by lia) fun t M1 t0 t1 g1=> ?_
 have v1:=CA.Gr.up h g1 hm
 obtain ⟨kk,rfl⟩: ∃ k:Nat,t=k:=⟨t.toNat,by lia⟩
 have e1:=Z0 (i:=(kk:Int) + 1) (m:=rs.length) (by lia)
 have bb1:=Nr.cy hn hr.ne kk
 have bb2:=Nr.cy hn hr.ne (kk + 1)
 simp![v1,ZbG,Z8];refine CQ.ZfC (by lia) (by lia) ?_
 have rm:=ZmB (k:=kk) hr (by lia)
 have lm:=ZcE (rs:=rs) (k:=kk) (p:=CQ.shp ((cy rs kk).1 + (cy rs (kk + 1)).1,(cy rs kk).2 + (cy rs (kk + 1)).2)) (by lia)
 generalize CQ.shp ((cy rs kk).1 + (cy rs (kk + 1)).1,(cy rs kk).2 + (cy rs (kk + 1)).2)=w at *;have hv1:=Zu v1
 simp![Zn];have r2:(M1 ++ [SO.lst [pr w.1 w.2]])[M1.length]?=some (.lst (prs [w])):=by simp[prs]
 have v2:(M1 ++ [SO.lst [pr w.1 w.2]])[m]?=some (.lst (prs rs)):=by rw[Zac hv1];exact v1
 have G2:Gr n M (M1 ++ [SO.lst [pr w.1 w.2]]):=g1.app2 _
 generalize M1 ++ [SO.lst [pr w.1 w.2]]=M2 at *;refine CQ.Zbc r2 (by simp) (by simp) fun mx M3 K3 hmx=> ?_
 have v3:=K3.get v2
 have G3:=G2.trans (K3.gr G2.bag)
 clear r2 v2 G2 K3 v1 g1;have h3:=Zu v3
 simp![Zn];refine brS (fun z=> ?_) (fun z=> ?_)
 ·simp![Zn]
  exact q rs m M3 hr hn hl v3 G3
 ·have wn:=hmx 200 (by lia)
  have le:((kk:Int) + 1).toNat=kk + 1:=by lia
  simp![v3,le];refine ⟨by rw[List.length_take];lia,by rw[List.length_take,List.length_drop];lia,?_⟩
  generalize hM4:M3 ++ [SO.lst (prs (rs.take (kk + 1))),SO.lst [pr w.1 w.2],SO.lst (prs (rs.take (kk + 1) ++ [(w.1,w.2)])),SO.lst (prs (rs.drop (kk + 1))),SO.lst (prs (rs.take (kk + 1) ++ (w.1,w.2) :: rs.drop (kk + 1)))]=M4;have r4:M4[M3.length + 4]?=some (.lst (prs (ins rs kk w))):=by rw[<- hM4,Zf5];rfl
  have v4:M4[m]?=some (.lst (prs rs)):=by rw[<- hM4,Zac h3];exact v3
  have G4:Gr n M M4:=by rw[<- hM4];exact G3.app2 _
  clear hM4 v3 G3 h3;have mn:Nr 200 (ins rs kk w):=fun x hx=>by
   unfold ins at hx
   rcases List.mem_append.mp hx with hx | hx
   ·exact hn x (List.mem_of_mem_take hx)
   ·rcases List.mem_cons.mp hx with rfl | hx
    ·exact wn _ (by simp)
    ·exact hn x (List.mem_of_mem_drop hx)
  generalize ins rs kk w=ms at *;generalize M3.length + 4=o at *;simp![r4];have ln:min (kk + 1) rs.length + (rs.length - (kk + 1) + 1)=ms.length:=by lia
  rw[ln];refine ⟨by lia,?_⟩
  refine Zc4 (fun _ ρ M'=>M'[m]?=some (.lst (prs rs))/\M'[o]?=some (.lst (prs ms))/\Gr n M M'/\ ∃ x6 x7 x8,ρ=[some (D.ref n),some (D.ref m),some (D.int ↑kk),some (pr (cy rs (↑kk + 1)).fst (cy rs (↑kk + 1)).snd),some (pr w.fst w.snd),some (D.ref o),x6,x7,x8]) ⟨v4,r4,G4,_,_,_,rfl⟩ ?_ ?_
  ·clear v4 r4 G4
   rintro i ρ M5 hi ⟨v5,r5,G5,x6,x7,x8,rfl⟩
   rw[show (0:Int) + (i:Int)=i by lia]
   have e1:=Z0 (i:=(kk:Int) + 2 + i) (m:=ms.length) (by lia)
   obtain ⟨k,ek⟩: ∃ k:Nat,((kk:Int) + 2 + i) % ms.length=k:=⟨(((kk:Int) + 2 + i) % ms.length).toNat,by lia⟩
   rw[ek] at e1;have hk:k < ms.length:=by lia
   have h5:=Zu v5
   have h5':=Zu r5
   have le:((k:Int) + 1).toNat=k + 1:=by lia
   have le2:(k:Int).toNat=k:=by lia
   simp![ZaZ,r5,ek,le,le2];refine ⟨by rw[List.length_take,List.length_drop];lia,?_⟩
   generalize hM6:M5 ++ [SO.lst (prs (ms.take k)),SO.lst (prs (ms.drop (k + 1))),SO.lst (prs (ms.take k ++ ms.drop (k + 1)))]=M6;have r6:M6[M5.length + 2]?=some (.lst (prs (del ms k))):=by rw[<- hM6,Zf5];rfl
   have v6:M6[m]?=some (.lst (prs rs)):=by rw[<- hM6,Zac h5];exact v5
   have w6:M6[o]?=some (.lst (prs ms)):=by rw[<- hM6,Zac h5'];exact r5
   have G6:Gr n M M6:=by rw[<- hM6];exact G5.app2 _
   clear hM6 v5 r5 G5 h5 h5';generalize M5.length + 2=o5 at *;have dl:=ZbV hk
   have nb:=CQ.ZkD hk (by lia)
   have e1:=Z0 (i:=(k:Int)) (m:=(del ms k).length) (by lia)
   have ne:del ms k≠[]:=fun z=>by rw[z] at dl;simp at dl;lia
   have b1:=Nr.cy mn rm.ne ((k:Int) - 1)
   have b2:=Nr.cy mn rm.ne (k:Int)
   simp![w6,r6,ZbG,Z8,nb.1,nb.2];refine ZuL (fun z=> ?_) (fun z=> ?_)
   ·simp![r6,ZbG,Z8,nb.1,nb.2]
    rw[CB.Zc5 (.inl ⟨by lia,by lia⟩)]
    simp![Zn];refine brS (fun z=> ?_) (fun z=> ?_)
    ·simp![Zn]
     exact q (del ms k) o5 M6 (rm.del hk (by lia) z) (CF.Nr.del mn) (by lia) r6 G6
    ·simp![Zn]
     exact ⟨v6,w6,G6,_,_,_,rfl⟩
   ·simp![Zn]
    exact ⟨v6,w6,G6,_,_,_,rfl⟩
  ·rintro ρ M5 ⟨v5,r5,G5,x6,x7,x8,rfl⟩
   simp![Zn];exact q rs m M5 hr hn hl v5 G5
theorem ZjW (h:M[n]?=some (.lst (prs rs)))(h':M[m]?=some (.lst (prs cs)))(hr:Rd0 rs)(hc:Rd0 cs)(S: ¬ ZjT rs cs)(q: ∀ i b i' b' o o' M',Kp M M'->Bs rs i b->Bs cs i' b'->M.length<=o->o < o'->M'[o]?=some (.lst (prs (rdg (mkr rs (lrd rs)) i b)))->M'[o']?=some (.lst (prs (rdg (mkr cs (lrd cs)) i' b')))->Q (.tup [.str (PySem.Str.ofString "unlike"),.ref o,.ref o']) M'):wO (F_likeness [.ref n,.ref m] M) Q E:=by
 have ll:=hr.le
 have lc:=hc.le
 simp![F_likeness,ZaK];refine ZbL h hr.rn hr.nr (by lia) hr.ll fun i b o M1 K1 hi hm lo r1=> ?_
 simp![Zn];refine ZbL (K1.get h') hc.rn hc.nr (by lia) hc.ll fun i' b' o' M2 K2 hi' hm' lo' r2=> ?_
 have ne:=ZfK hr hc S ⟨hi,hm⟩ ⟨hi',hm'⟩
 have o1:=Zu r1
 have r1:=K2.get r1
 have e8:eqF 12 M2 (.ref o) (.ref o')=some (decide (rdg (mkr rs (lrd rs)) i b=rdg (mkr cs (lrd cs)) i' b')):=CU.Zia (k:=9) r1 r2
 rw[decide_eq_false ne] at e8;simp![e8];exact q _ _ _ _ _ _ _ (K1.trans K2) ⟨hi,hm⟩ ⟨hi',hm'⟩ lo (by lia) r1 r2
def tbl (u v p q:Pt):Pt->Pt:=gg (p.1 * v.2 - q.1 * u.2) (q.1 * u.1 - p.1 * v.1) (p.2 * v.2 - q.2 * u.2) (q.2 * u.1 - p.2 * v.1)
def tw (us:List Pt)(t:Nat):Pt × Pt:=if t < us.length then (cy us t,cy us (t + 1)) else (cy us (t + 1),cy us t)
def Fnd (rs cs ls us:List Pt):Prop:= ∃ t:Nat,t < us.length + us.length/\sp (rs.map (tbl (cy ls 0) (cy ls 1) (tw us t).1 (tw us t).2))=sp cs
def twD (us:List Pt)(t:Nat):D:= .tup [pr (tw us t).1.1 (tw us t).1.2,pr (tw us t).2.1 (tw us t).2.2]
theorem Zp5 {f g:Nat->D}{k:Nat}:Zjo ((List.range k).map f) ((List.range k).map g)=(List.range k).map fun i=> .tup [f i,g i]:=by
 unfold Zjo;rw[List.zipWith_map,List.zipWith_self]
theorem ZkN {us:List Pt}:prs us=(List.range us.length).map fun (i:Nat)=>pr (cy us i).1 (cy us i).2:=by
 conv=>lhs;rw[<- Zat (us:=us)]
 unfold prs;rw[List.map_map];rfl
theorem Zp6 {us:List Pt}(h:us≠[]):prs (us.drop 1 ++ us.take 1)=(List.range us.length).map fun (i:Nat)=>pr (cy us (i + 1)).1 (cy us (i + 1)).2:=by
 have hl:1<=us.length:=List.length_pos_iff.mpr h
 rw[ZkN]
 have:(us.drop 1 ++ us.take 1).length=us.length:=by rw[List.length_append,List.length_drop,List.length_take];lia
 rw[this];refine List.map_congr_left fun i _=> ?_
 rw[Zaj hl];rfl
theorem zips {us:List Pt}(h:us≠[]):Zjo (prs us) (prs (us.drop 1 ++ us.take 1)) ++ Zjo (prs (us.drop 1 ++ us.take 1)) (prs us)=(List.range (us.length + us.length)).map (twD us):=by
 rw[Zp6 h,ZkN (us:=us),Zp5,Zp5,List.range_add,List.map_append,List.map_map]
 congr 1
 ·refine List.map_congr_left fun i hi=> ?_
  have:=List.mem_range.mp hi
  simp only[twD,tw,if_pos this]
 ·refine List.map_congr_left fun i hi=> ?_
  have e1:cy us ((us.length:Int) + i)=cy us i:=by
   rw[<- Z8,Int.add_emod_left,Z8]
  have e2:cy us ((us.length:Int) + i + 1)=cy us (i + 1):=by
   rw[<- Z8,Int.add_assoc,Int.add_emod_left,Z8]
  have n: ¬ us.length + i < us.length:=by lia
  simp only[Function.comp,twD,tw,if_neg n,Int.natCast_add,e1,e2]
theorem Zp7 {o1 o2 o3 o4:Nat}(h1:M[o1]?=some (.lst (prs rs)))(h2:M[o2]?=some (.lst (prs cs)))(h3:M[o3]?=some (.lst (prs ls)))(h4:M[o4]?=some (.lst (prs us)))(hr:Nr 200 rs)(n1:rs≠[])(l1:rs.length<=44)(l2:cs.length<=44)(hl:Nr 200 ls)(l3:3<=ls.length)(hu:Nr 200 us)(n4:us≠[])(l4:us.length<=120)
  (l3':ls.length<=120) (qt: ∀ M',Kp M M'->Fnd rs cs ls us->Q (.bl true) M') (qf: ∀ M',Kp M M'-> ¬ Fnd rs cs ls us->Q (.bl false) M'):wO (F_law_any_turning [.ref o1,.ref o2,.ref o3,.ref o4] M) Q E:=by
 have nl:ls≠[]:=fun z=>by rw[z] at l3;simp at l3
 have b0:=hl.cy nl 0
 have b1:=hl.cy nl 1
 have q1:=ZjR h2 (by lia)
 have hl4:1<=us.length:=List.length_pos_iff.mpr n4
 have p2:=Zu h2
 have p4:=Zu h4
 simp![F_law_any_turning,ZaL,h3,ZbG,q1];have K1:Kp M (M ++ [.lst (prs (sp cs))]):=Kp.app
 have r1:(M ++ [SO.lst (prs (sp cs))])[M.length]?=some (.lst (prs (sp cs))):=by simp
 have v1:=K1.get h1
 have w1:=K1.get h4
 generalize M ++ [SO.lst (prs (sp cs))]=M1 at *;generalize M.length=go at *;have p1:=Zu w1
 simp![w1,Zu6,Zu7,kLZ,Zsm];have zl:=congrArg List.length (zips n4)
 rw[List.length_append,List.length_map,List.length_range] at zl;rw[zips n4];refine ⟨by rw[List.length_drop,List.length_take];lia,by rw[List.length_drop,List.length_take];lia,by lia,?_⟩
 clear zl;generalize hM2:M1 ++ _=M2;have K2:Kp M1 M2:=by rw[<- hM2];exact Kp.app
 have r2:M2[M1.length + 8]?=some (.lst ((List.range (us.length + us.length)).map (twD us))):=by rw[<- hM2,Zf5];rfl
 have v2:=K2.get v1
 have g2:=K2.get r1
 have K:=K1.trans K2
 clear hM2 K1 K2 v1 w1 r1 h1 h2 h3 h4 q1 p1 p2 p4;generalize M1.length + 8=lo at *;refine ZdA (fun t ρ M'=>Kp M M'/\Kp M2 M'/\(∀ t':Nat,t' < t->sp (rs.map (tbl (cy ls 0) (cy ls 1) (tw us t').1 (tw us t').2))≠sp cs)/\ ∃ x9 x10 x11 x12 x13 x14,ρ=[some (D.ref o1),some (D.ref o2),some (D.ref o3),some (D.ref o4),some (D.int (cy ls 0).fst),some (D.int (cy ls 0).snd),some (D.int (cy ls 1).fst),some (D.int (cy ls 1).snd),some (D.ref go),x9,x10,x11,x12,x13,x14]) r2 ⟨K,Kp.refl,fun t' h=>absurd h (by lia),_,_,_,_,_,_,rfl⟩ (fun t ρ M' hI=>hI.2.1.get r2) ?_ ?_
 ·rintro t ρ M3 ht ⟨Ka,Kb,hno,x9,x10,x11,x12,x13,x14,rfl⟩
  rw[List.length_map,List.length_range] at ht;rw[List.getElem_map,List.getElem_range];have v3:=Kb.get v2
  have g3:=Kb.get g2
  have bt:((-200<=(tw us t).1.1/\(tw us t).1.1<=200)/\(-200<=(tw us t).1.2/\(tw us t).1.2<=200))/\((-200<=(tw us t).2.1/\(tw us t).2.1<=200)/\(-200<=(tw us t).2.2/\(tw us t).2.2<=200)):=by
   unfold tw
   split<;>exact ⟨hu.cy n4 _,hu.cy n4 _⟩
  unfold twD;generalize hpq:tw us t=pq at *;obtain ⟨p,q⟩:=pq
  have a1:=pb bt.1.1 b1.2
  have a2:=pb bt.1.1 b1.1
  have a3:=pb bt.2.1 b0.2
  have a4:=pb bt.2.1 b0.1
  have a5:=pb bt.1.2 b1.2
  have a6:=pb bt.1.2 b1.1
  have a7:=pb bt.2.2 b0.2
  have a8:=pb bt.2.2 b0.1
  simp only at *
  simp![Zak];have et:tbl (cy ls 0) (cy ls 1) p q=gg (p.1 * (cy ls 1).2 - q.1 * (cy ls 0).2) (q.1 * (cy ls 0).1 - p.1 * (cy ls 1).1) (p.2 * (cy ls 1).2 - q.2 * (cy ls 0).2) (q.2 * (cy ls 0).1 - p.2 * (cy ls 1).1):=rfl
  have ba:Bx (p.1 * (cy ls 1).2 - q.1 * (cy ls 0).2):=⟨by lia,by lia⟩
  have bb:Bx (q.1 * (cy ls 0).1 - p.1 * (cy ls 1).1):=⟨by lia,by lia⟩
  have bc:Bx (p.2 * (cy ls 1).2 - q.2 * (cy ls 0).2):=⟨by lia,by lia⟩
  have bd:Bx (q.2 * (cy ls 0).1 - p.2 * (cy ls 1).1):=⟨by lia,by lia⟩
  clear a1 a2 a3 a4 a5 a6 a7 a8;generalize p.1 * (cy ls 1).2 - q.1 * (cy ls 0).2=a at *;generalize q.1 * (cy ls 0).1 - p.1 * (cy ls 1).1=b at *;generalize p.2 * (cy ls 1).2 - q.2 * (cy ls 0).2=c at *;generalize q.2 * (cy ls 0).1 - p.2 * (cy ls 1).1=d at *;unfold Bx at ba bb bc bd;have hn:=Zu v3
  refine ZmK (fun ρ=> ∃ x y,ρ=[x,y,some (.int a),some (.int b),some (.int c),some (.int d)]) (fun (i:Nat)=>pr (gg a b c d (cy rs i)).1 (gg a b c d (cy rs i)).2) v3 (by rw[Zw];lia) ⟨_,_,rfl⟩ ?_ ?_
  ·rintro i hi ρ L ⟨x,y,rfl⟩
   rw[Zw] at hi
   have:=hr.cy n1 i
   rw[CC.Zad];simp![Zn];exact ⟨⟨_,_,rfl⟩,rfl⟩
  ·rw[Zw]
   have e:(List.range rs.length).map (fun (i:Nat)=>pr (gg a b c d (cy rs i)).1 (gg a b c d (cy rs i)).2)=prs (rs.map (gg a b c d)):=by
    conv=>rhs;rw[<- Zat (us:=rs)]
    unfold prs;rw[List.map_map,List.map_map];rfl
   rw[e];have K4:Kp M3 (M3 ++ [.lst (prs (rs.map (gg a b c d)))]):=Kp.app
   have r4:(M3 ++ [SO.lst (prs (rs.map (gg a b c d)))])[M3.length]?=some (.lst (prs (rs.map (gg a b c d)))):=by simp
   have g4:=K4.get g3
   generalize M3 ++ [SO.lst (prs (rs.map (gg a b c d)))]=M4 at *;have q4:=ZjR r4 (by rw[List.length_map];lia)
   have K5:Kp M4 (M4 ++ [.lst (prs (sp (rs.map (gg a b c d))))]):=Kp.app
   have r5:(M4 ++ [SO.lst (prs (sp (rs.map (gg a b c d))))])[M4.length]?=some (.lst (prs (sp (rs.map (gg a b c d))))):=by simp
   have g5:=K5.get g4
   have e8:eqF 12 (M4 ++ [SO.lst (prs (sp (rs.map (gg a b c d))))]) (.ref M4.length) (.ref go)=some (decide (sp (rs.map (gg a b c d))=sp cs)):=CU.Zia (k:=9) r5 g5
   simp![q4,e8];refine brS (fun z=> ?_) (fun z=> ?_)
   ·simp![Zn]
    exact qt _ ((Ka.trans K4).trans K5) ⟨t,ht,by rw[hpq];simp only;rw[et];exact z⟩
   ·simp![Zn]
    refine ⟨(Ka.trans K4).trans K5,(Kb.trans K4).trans K5,fun t' h=> ?_,_,_,_,_,_,_,rfl⟩
    rcases Nat.lt_succ_iff_lt_or_eq.mp h with h | rfl
    ·exact hno t' h
    ·rw[hpq]
     simp only
     rw[et];exact z
 ·rintro ρ M3 ⟨Ka,Kb,hno,x9,x10,x11,x12,x13,x14,rfl⟩
  rw[List.length_map,List.length_range] at hno;simp![Zn];exact qf M3 Ka fun ⟨t,ht,e⟩=>hno t ht e
theorem Zp8 {a b c d:Int}(hr:Rd0 rs)(hc:Rd0 cs)(hl:Led rs cs a b c d):Fnd rs cs (lrd rs) (lrd cs):=by
 obtain ⟨hp,hd,-⟩:=hl
 have x1:X (cy (lrd rs) 0) (cy (lrd rs) 1)=1:=(hr.rn.least hr.nr).one 0
 obtain ⟨i,hi,e⟩:=ZiB hr.rn hr.nr hc.rn hc.nr hd hp
 rcases e with ⟨e1,e2⟩ | ⟨e1,e2⟩
 ·refine ⟨i,by lia,?_⟩
  obtain ⟨f1,f2,f3,f4⟩:=Zp1 x1 e1 e2
  simp only[tw,if_pos hi,tbl,f1,f2,f3,f4];exact ZjQ hp
 ·refine ⟨(lrd cs).length + i,by lia,?_⟩
  obtain ⟨f1,f2,f3,f4⟩:=Zp1 x1 e1 e2
  have c1:cy (lrd cs) (((lrd cs).length:Int) + i)=cy (lrd cs) i:=by
   rw[<- Z8,Int.add_emod_left,Z8]
  have c2:cy (lrd cs) (((lrd cs).length:Int) + i + 1)=cy (lrd cs) (i + 1):=by
   rw[<- Z8,Int.add_assoc,Int.add_emod_left,Z8]
  have n: ¬ (lrd cs).length + i < (lrd cs).length:=by lia
  simp only[tw,if_neg n,tbl,Int.natCast_add,c1,c2,f1,f2,f3,f4];exact ZjQ hp
theorem Zp9 (hr:Rd0 rs)(hc:Rd0 cs)(h:Fnd rs cs (lrd rs) (lrd cs)):ZjT rs cs:=by
 obtain ⟨t,ht,e⟩:=h
 have x1:X (cy (lrd rs) 0) (cy (lrd rs) 1)=1:=(hr.rn.least hr.nr).one 0
 have sc:=hc.rn.least hc.nr
 have x2:X (tw (lrd cs) t).1 (tw (lrd cs) t).2=1\/X (tw (lrd cs) t).1 (tw (lrd cs) t).2= -1:=by
  unfold tw
  split
  ·exact .inl (sc.one t)
  ·right
   have:=sc.one t
   simp only
   rw[ZcG,this];rfl
 have det:=Zp2 (p:=(tw (lrd cs) t).1) (q:=(tw (lrd cs) t).2) x1
 exact ZjV hr.rn hr.nr hc.rn hc.nr (by rw[det];exact x2) (by
  have:=(Ziz (rs:=rs.map (tbl (cy (lrd rs) 0) (cy (lrd rs) 1) (tw (lrd cs) t).1 (tw (lrd cs) t).2))).symm
  rw[e] at this;exact this.trans Ziz)
noncomputable def r3:List Pt:=[(1,0),(0,1),(-1,-1)]
noncomputable def c3:List Pt:=[(0,1),(-1,-1),(1,0)]
theorem p3:r3.Perm c3:=by
 show (([(1,0)]:List Pt) ++ [(0,1),(-1,-1)]).Perm ([(0,1),(-1,-1)] ++ [(1,0)])
 exact List.perm_append_comm
theorem rd3:Rd0 r3:=⟨CC.Zsn.rn,fun x hx=>by simp[r3] at hx;rcases hx with rfl | rfl | rfl<;>simp,by simp[r3],Zmv⟩
theorem nc3:Nr 200 c3:=fun x hx=>rd3.nr x (p3.mem_iff.mpr hx)
theorem ZtL:Rd0 c3:=by
 have rn:Rn c3:=Zir (k:=1) rd3.rn
 refine ⟨rn,nc3,by simp[c3],?_⟩
 obtain ⟨j,hj,ej⟩:=CB.ZcQ (rs:=r3) (k:=1) (by simp[r3])
 have e:lrd c3=(lrd r3).drop j ++ (lrd r3).take j:=ej
 have:=rd3.ll
 rw[e,List.length_append,List.length_drop,List.length_take];lia
theorem f3:Fnd r3 c3 r3 c3:=by
 refine ⟨2,by simp[c3],?_⟩
 have e:r3.map (tbl (cy r3 0) (cy r3 1) (tw c3 2).1 (tw c3 2).2)=r3:=by decide +kernel
 rw[e];exact ZjQ p3
structure St (M:Sto) (o1 o2 o3 o4:Nat) (rs cs ls us:List Pt):Prop where
 hr:Rd0 rs
 hc:Rd0 cs
 h1:M[o1]?=some (.lst (prs rs))
 h2:M[o2]?=some (.lst (prs cs))
 h3:M[o3]?=some (.lst (prs ls))
 h4:M[o4]?=some (.lst (prs us))
 nl:Nr 200 ls
 l3:3<=ls.length
 l3':ls.length<=120
 nu:Nr 200 us
 n4:us≠[]
 l4:us.length<=120
 t1: ∀ a b c d,Led rs cs a b c d->Fnd rs cs ls us
 t2:Fnd rs cs ls us->ZjT rs cs
theorem ZmC {ns:List Int}{i:Nat}{x2 x3 x4 x5 x6 x7:Option D}(hi0:i < 1000)(hN: ∀ x2 x3 x4 x5 x6 x7 M',N [some (.rol (ns.map D.int)),some (.int i),x2,x3,x4,x5,x6,x7] M'):wS (ZdG [some (.rol (ns.map D.int)),some (.int i),x2,x3,x4,x5,x6,x7] M) N R B C E:=by
 simp![ZdG];refine CB.Zmd hi0 fun a b ha=> ?_
 have B0:Bag M.length (M ++ [.lst [.int a,.int b]]):=⟨a,b,ha,by simp⟩
 generalize M ++ [SO.lst [.int a,.int b]]=M0 at *;generalize M.length=n at *;simp![Zn];refine CQ.Zmo (by decide) B0 fun rs p M1 s1 s2 s3 s4 s5 G=> ?_
 have pn:p≠n:=Ziu G.bag s5 s1.len
 simp![Zn];refine CQ.ZpK s5 pn s1.ne s2 (by lia) G.bag fun a b c d k o2 M2 det hk nr ol r2 G2=> ?_
 have rn:=Zis (k:=k) s1 det
 have lc:(sg (decide (a * d - b * c < 0)) k (rs.map (gg a b c d))).length=rs.length:=by rw[CD.Zc6,List.length_map]
 have cn:Nr 200 (sg (decide (a * d - b * c < 0)) k (rs.map (gg a b c d))):=Zmu nr
 generalize sg (decide (a * d - b * c < 0)) k (rs.map (gg a b c d))=cs at *;have v2:=CA.Gr.up s5 G2 pn
 have B2:=G2.bag
 have on:o2≠n:=Ziu B2 r2 rn.len
 clear G2 s5 G B0 det hk nr ol;simp![Zn];refine CB.ZV B2 (by decide) fun t M3 t0 t1 g3=> ?_
 have v3:=CA.Gr.up v2 g3 pn
 have r3':=CA.Gr.up r2 g3 on
 simp![Zn];refine ZmJ (fun ρ M'=> ∃ cs o,ρ=[some (.rol (ns.map D.int)),some (.int i),some (.ref n),some (.ref p),some (.ref o),x5,x6,x7]/\Rn cs/\Nr 200 cs/\cs.length<=44/\M'[o]?=some (.lst (prs cs))/\M'[p]?=some (.lst (prs rs))) ?_ ?_
 ·refine brS (fun z=> ?_) (fun z=> ?_)
  ·simp![Zn]
   refine ZiC r3' on rn cn (by lia) g3.bag fun us o M4 u1 u2 u3 u4 G4=> ?_
   simp![Zn];exact ⟨us,o,rfl,u1,u2,u3,u4,CA.Gr.up v3 G4 pn⟩
  ·simp![Zn]
   exact ⟨cs,o2,rfl,rn,cn,by lia,r3',v3⟩
 clear v3 r3' g3 v2 r2 B2 rn cn lc on pn
 rintro _ M4 ⟨cs,o,rfl,c1,c2,c3',c4,v4⟩
 have hp:=Zu v4
 have ho:=Zu c4
 simp![v4];have K5:Kp M4 (M4 ++ [SO.lst (prs rs)]):=Kp.app
 have r5:(M4 ++ [SO.lst (prs rs)])[M4.length]?=some (.lst (prs rs)):=by simp
 generalize M4 ++ [SO.lst (prs rs)]=M5 at *;refine CL.ZeY r5 s1.ne (s1.wgs s2) (by lia) (fun x hx=>s2 x hx) fun M6 K6 r6=> ?_
 have v6:=(K5.trans K6).get v4
 have w6:=(K5.trans K6).get c4
 generalize M5.length=o3 at *;clear K5 K6 r5;have h6:=Zu w6
 simp![w6];have K7:Kp M6 (M6 ++ [SO.lst (prs cs)]):=Kp.app
 have r7:(M6 ++ [SO.lst (prs cs)])[M6.length]?=some (.lst (prs cs)):=by simp
 generalize M6 ++ [SO.lst (prs cs)]=M7 at *;refine CL.ZeY r7 c1.ne (c1.wgs c2) (by lia) (fun x hx=>c2 x hx) fun M8 K8 r8=> ?_
 have v8:=(K7.trans K8).get v6
 have w8:=(K7.trans K8).get w6
 have y8:=(K7.trans K8).get r6
 generalize M7.length=o4 at *;clear K7 K8 r7 v6 w6 r6;have hy:=Zu y8
 have h8:=Zu r8
 simp![y8,r8];refine Zs2 (fun b M'=>M'=M8/\(b=false->(lrd rs).length<=120/\(lrd cs).length<=120)) ?_ ?_
 ·refine brO (fun z=> ?_) (fun z=> ?_)
  ·simp![Zn]
   exact fun u=>by cases u
  ·simp![r8]
   intro u
   have:=of_decide_eq_false u
   lia
 rintro b M8' ⟨rfl,hb⟩
 simp![Zn];refine ZmJ (fun ρ M'=> ∃ rs cs ls us o1 o2 o3 o4,ρ=[some (.rol (ns.map D.int)),some (.int i),some (.ref n),some (.ref o1),some (.ref o2),some (.ref o3),some (.ref o4),x7]/\St M' o1 o2 o3 o4 rs cs ls us) ?_ ?_
 ·refine ZrR (fun z=> ?_) (fun z=> ?_)
  ·simp![Zn]
   have g1:(M8' ++ [SO.lst (prs r3),SO.lst (prs c3)])[M8'.length]?=some (.lst (prs r3)):=by rw[ZdC];rfl
   have g2:(M8' ++ [SO.lst (prs r3),SO.lst (prs c3)])[M8'.length + 1]?=some (.lst (prs c3)):=by rw[Zf5];rfl
   exact ⟨r3,c3,r3,c3,_,_,_,_,rfl,⟨rd3,ZtL,g1,g2,g1,g2,rd3.nr,by simp[r3],by simp[r3],nc3,by simp[c3],by simp[c3],fun _ _ _ _ _=>f3,fun _=>Zer rd3.rn rd3.nr ZtL.rn p3⟩⟩
  ·obtain ⟨l1,l2⟩:=hb z
   have hr:Rd0 rs:=⟨s1,s2,s3,by lia⟩
   have hc:Rd0 cs:=⟨c1,c2,c3',by lia⟩
   simp![Zn];exact ⟨rs,cs,lrd rs,lrd cs,_,_,_,_,rfl,⟨hr,hc,v8,w8,y8,r8,ZfI s1 s2,(s1.least s2).len,l1,ZfI c1 c2,(c1.least c2).ne,l2,fun _ _ _ _ h=>Zp8 hr hc h,fun h=>Zp9 hr hc h⟩⟩
 clear hb r8 y8 v8 w8 v4 c4 hp ho h6 hy h8 c1 c2 c3' s1 s2 s3
 rintro _ M9 ⟨rs,cs,ls,us,o1,o2,o3,o4,rfl,S⟩
 obtain ⟨hr,hc,h1,h2,h3,h4,nl,l3,l3',nu,n4,l4,t1,t2⟩:=S
 have lr:=hr.le
 have lc:=hc.le
 have p1:=Zu h1
 have p2:=Zu h2
 simp![h1,h2];generalize hMa:M9 ++ [SO.lst (prs rs),SO.lst (prs cs)]=Ma;have Ka:Kp M9 Ma:=by rw[<- hMa];exact Kp.app
 have ra:Ma[M9.length]?=some (.lst (prs rs)):=by rw[<- hMa,ZdC];rfl
 have rb:Ma[M9.length + 1]?=some (.lst (prs cs)):=by rw[<- hMa,Zf5];rfl
 clear hMa;have h1:=Ka.get h1
 have h2:=Ka.get h2
 have h3:=Ka.get h3
 have h4:=Ka.get h4
 by_cases Sm:ZjT rs cs
 ·refine ZpY ra rb hr hc Sm fun a b c d Mb Kb hl=> ?_
  have h1:=Kb.get h1
  have h2:=Kb.get h2
  have h3:=Kb.get h3
  have h4:=Kb.get h4
  simp![Zn];refine Zp7 h1 h2 h3 h4 hr.nr hr.rn.ne lr lc nl l3 nu n4 l4 l3' (fun Mc Kc _=> ?_) (fun Mc Kc h=>absurd (t1 _ _ _ _ hl) h)
  simp![Zn];refine ZmA (Kc.get h1) (Kc.get h2) hr hc hl fun Md Kd=> ?_
  simp![Zn];exact hN _ _ _ _ _ _ _
 ·refine ZjW ra rb hr hc Sm fun i1 b1 i2 b2 u1 u2 Mb Kb B1 B2 l1 l2 y1 y2=> ?_
  have h1:=Kb.get h1
  have h2:=Kb.get h2
  have h3:=Kb.get h3
  have h4:=Kb.get h4
  simp![Zn];refine Zp7 h1 h2 h3 h4 hr.nr hr.rn.ne lr lc nl l3 nu n4 l4 l3' (fun Mc Kc h=>absurd (t2 h) Sm) (fun Mc Kc _=> ?_)
  have ne:=ZfK hr hc Sm B1 B2
  have e8:eqF 12 Mc (.ref u1) (.ref u2)=some (decide (rdg (mkr rs (lrd rs)) i1 b1=rdg (mkr cs (lrd cs)) i2 b2)):=CU.Zia (k:=9) (Kc.get y1) (Kc.get y2)
  rw[decide_eq_false ne] at e8;have es:eqF 12 Mc (.str (PySem.Str.ofString "unlike")) (.str (PySem.Str.ofString "unlike"))=some true:=by
   show some (decide _)=_
   rw[decide_eq_true rfl]
  simp![e8,es];exact hN _ _ _ _ _ _ _
theorem law_true (ns:List Int)(h:ns.length<=63): ∃ M',Ze3 [.rol (ns.map D.int)] []= .ok (.bl true) M':=by
 have w:wO (Ze3 [.rol (ns.map D.int)] []) (fun d _=>d= .bl true) (fun _ _=>False):=by
  simp![Ze3,Zp3];refine ⟨by lia,?_⟩
  refine Zc4 (fun _ ρ _=> ∃ x1 x2 x3 x4 x5 x6 x7,ρ=[some (.rol (ns.map D.int)),x1,x2,x3,x4,x5,x6,x7]) ⟨_,_,_,_,_,_,_,rfl⟩ ?_ ?_
  ·rintro i ρ M hi ⟨x1,x2,x3,x4,x5,x6,x7,rfl⟩
   rw[show (0:Int) + (i:Int)=i by lia]
   simp![Zn];exact ZmC (by lia) fun _ _ _ _ _ _ _=>⟨_,_,_,_,_,_,_,rfl⟩
  ·rintro ρ M ⟨x1,x2,x3,x4,x5,x6,x7,rfl⟩
   simp![Zn]
 obtain ⟨d,M',e,rfl⟩:=ZhO w
 exact ⟨M',e⟩
end
end K37
end
namespace K37
open L2 DL
theorem Zvf {l:PySem.W.OpenLaw}{q:Program}{loose:List Str}{XP:(Str->Option Value)->Heap->Prop}{YP:World->Heap->Prop}{d:DefRec}{K:Params->Fg}(hn:l.most=some 63)(hdf:d.params.defaults=[])
  (hY: ∀ (w:World) (h:Heap),YP w h->(K w.params).In h)
  (F: ∀ (w:World) (mg:Str->Option Value) (fa:Addr) (h:Heap),(K w.params).In h->h.Ns mainGlobals mg->mg d.name=some (.ref fa)->
   ∃ fd:FuncData,(∀ (s:Shared) (u:Value),BindsTo s fd ⟨[u],[]⟩ [("_law_script",u)])/\ ∀ base:Heap,(K w.params).In base->base.Ns mainGlobals mg->FnOk l.prog w (K w.params) mg base (CXE l.prog w) 108 fa fd ["_law_script"] (spD (K w.params) Ze3)):
  PySem.W.WalkO q loose XP YP l.row.toRowW d [] (fun f vs=>PySem.call f vs):=
 L2.Zla (n:=63) (k:=108) (x:="_law_script") (CX:=fun w=>CXE l.prog w) (sp:=fun w=>spD (K w.params) Ze3) hn (by decide) hdf ⟨fun _=>rfl,rfl,by decide,by decide⟩ hY F (fun _ _ a ns hl hO hS=>DL.ZnK hl hO hS (law_true ns hl)) fun _ _ _ _ _ ⟨_,_,_,_,_,_,_,_,_,_,_,_,_,q⟩=>q
end K37
open PySem.W PyProof.Rows
set_option maxRecDepth 1000000 in
set_option maxHeartbeats 0 in
theorem PySem.Challenge.cw_rayround_k37_whole_alike_or_not_holds : PySem.Challenge.rw_rayround_k37_whole_alike_or_not.Holds := by
 w_on
 refine holds_law K37.Zt2 fun _=> ?_
 refine holds_open (q:=K37.qf PySem.Challenge.pw_rayround_k37_whole_alike_or_not) (loose:=K37.lo) (Xt:=fun s=>xlAt (K37.qf PySem.Challenge.pw_rayround_k37_whole_alike_or_not) [] s && recOk [] s) (XP:=XL (K37.qf PySem.Challenge.pw_rayround_k37_whole_alike_or_not) []) (Yf:=Hook.obs K37.Hk) (Ya:=Hook.val K37.Hk) (YP:=Hook.says K37.Hk) (N:=2652) ?hl (Hook.of K37.Hk) (Hook.keeps K37.Hk) (fun s e=>xl_of s (Bool.and_eq_true_iff.mp e).1) XL.keeps (by rfl) (by rfl) (by rfl) (fun s e=>recFacts_of (Bool.and_eq_true_iff.mp e).2) (by rfl) (by first | assumption | decide +kernel) (by decide +kernel) ⟨rfl,rfl,rfl,rfl,rfl,by decide +kernel⟩ ?hw ?hc
 case hl=>exact HD.ZgO rfl (by decide) (fun s=>rfl) (by decide) K37.Zqz
 case hw=>w_witness2
 case hc=>
  refine K37.Zvf (l:=PySem.Challenge.rw_rayround_k37_whole_alike_or_not) rfl rfl (fun w h Y=>PySem.W.kIn_of Y) ?F
  intro w mg fa h KX G hmg;refine K37.fin KX G hmg ⟨DL.Bs.of KX G ?_,fun c v e=>PySem.W.mg_of KX G e,DL.Dfs.of ?_,?_,?_,?_⟩
  all_goals kernel_rfl
