import PyProof.Rows.All
import Wide.All
import OpenK.AllK
import Wide.FinOn
import Lean
import PyProof.EqAt
import PyProof.EqKinds
import PyProof.TupleCall
import PyProof.FString
import PyProof.ReprRoads
import PyProof.FitsInt
import PyProof.Rows.Range3
import PyProof.CallFns
import PyProof.StrWalks
import KE.KIntText
import PySem.Challenge.RW_rayround_k75_rounds_as_texts
set_option maxRecDepth 100000
set_option linter.all false
set_option Elab.async false
set_option maxHeartbeats 4000000
noncomputable section
set_option bootstrap.genMatcherCode false
set_option genSizeOf false
set_option genSizeOfSpec false
set_option compiler.extract_closed false
section
namespace DQ
open PySem PySem.Spec PyProof.Rows
noncomputable def ZaL (A:Around)(h:Heap):Prop:=A.handled=none\/ ∃ ea oe vs,A.handled=some (.ref ea)/\h.get? ea=some oe/\oe.data= .fields vs/\vs[2]?=some .none
theorem ZaL.keeps {A:Around}{h h':Heap}(q:ZaL A h)(k: ∀ b o,h.get? b=some o->h'.get? b=some o):ZaL A h':=by
 rcases q with q | ⟨ea,oe,vs,e1,e2,e3,e4⟩
 ·exact .inl q
 ·exact .inr ⟨ea,oe,vs,e1,k _ _ e2,e3,e4⟩
theorem ZcK:entryFor table "proto.unchain"=some Builtin.«proto.unchain» :=entryFor_of_fast (by kernel_rfl)
section
variable {prog:Program}{w:World}{A:Around}{E:Value->Shared->Prop}{s:Shared}
theorem Zd5 {α:Type}{Q:α->Shared->Prop}{e:Addr}{oe:Obj}{vs:Array Value}(q:ZaL A s.heap)(he:s.heap.get? e=some oe)(hd:oe.data= .fields vs)(hz:2 < vs.size)
  (h: ∀ h',(∀ b o,b≠e->s.heap.get? b=some o->h'.get? b=some o)->(∃ o,h'.get? e=some o/\o.cls=oe.cls)->E (.ref e) { s with heap:=h' }):wpAny (model prog w) A (raiseNew (.ref e):Sem α) Q E s:=by
 have same:E (.ref e) s:=h s.heap (fun _ _ _ x=>x) ⟨oe,he,rfl⟩
 unfold raiseNew;refine wpAny_bind (wpAny_handled ?_)
 rcases q with q | ⟨ea,oa,ws,q1,q2,q3,q4⟩
 ·rw[q]
  exact wpAny_bind (wpAny_pure (wpAny_throw same))
 ·rw[q1]
  dsimp only
  by_cases c:(Value.ref ea != Value.ref e)=true
  ·rw[if_pos c]
   refine wpAny_bind (wpAny_holding (wpAny_runValue (codeAny_builtin ZcK ?_)))
   unfold Builtin.«proto.unchain»;refine wpAny_bind (wpAny_field q2 q3 q4 ?_)
   refine wpAny_bind (wpAny_pure ?_)
   have sf:wpAny (model prog w) A (setField (.ref e) 2 (.ref ea)) (fun _ s'=>wpAny (model prog w) A (throw (Value.ref e):Sem α) Q E s') E s:=by
    refine wpAny_setField he hd hz (wpAny_throw (h _ (fun b o hb x=> ?_) ⟨_,Heap.get?_update_self _ he (Obj.isFreed_of_fields (Obj.data_mapFields hd _)),Obj.cls_mapFields _ _⟩))
    rw[Heap.get?_update_other _ _ (Ne.symm hb)]
    exact x
   exact wpAny_pure (wpAny_bind sf)
  ·rw[if_neg c]
   exact wpAny_throw same
theorem Za0 {α:Type}{Q:α->Shared->Prop}(q:ZaL A s.heap)
  (h: ∀ h' e,(∀ b o,s.heap.get? b=some o->h'.get? b=some o)->(∃ o,h'.get? e=some o/\o.cls= .type "StopIteration")->E (.ref e) { s with heap:=h' }):
  wpAny (model prog w) A (newExc (.type "StopIteration") [] >>= fun x=>(raiseNew x:Sem α)) Q E s:=by
 refine wpAny_bind ?_
 simp only[newExc,newTuple];refine wpAny_bind (wpAny_newObj_type ?_ (by size_fits))
 refine wpAny_bind (m:=firstArgMember _ _) (wpAny_of_eq (a:=Value.none) (by first | rfl | (simp only[firstArgMember];rfl)) ?_)
 refine wpAny_newObj_type ?_ (by size_fits)
 refine Zd5 (q.keeps fun b o x=>Heap.get?_push_of_some _ (Heap.get?_push_of_some _ x)) (Heap.get?_push_size _ rfl) rfl (by rw[Array.size_append];exact Nat.lt_of_lt_of_le (by decide:2 < 6) (Nat.le_add_right _ _)) fun h' k he=> ?_
 exact h h' _ (fun b o x=>k b o (Nat.ne_of_lt (Nat.lt_of_lt_of_le (Heap.lt_size x) (by rw[Heap.size_push];exact Nat.le_succ _))) (Heap.get?_push_of_some _ (Heap.get?_push_of_some _ x))) he
theorem ZjC {e:Addr}{Q:Bool->Shared->Prop}(he: ∃ o,s.heap.get? e=some o/\o.cls= .type "StopIteration")(h:Q true s):wpAny (model prog w) A (isInstance (.ref e) (.type "StopIteration")) Q E s:=
 let ⟨o,e1,e2⟩:=he
 wpAny_isInstance (T:="StopIteration") (b:=true) ⟨o,e1,e2⟩ isSubtype_stop h
theorem ZaL.in1 {h:Heap}(q:ZaL A h):ZaL A.in1 h:=q
noncomputable def ZfG (it:Addr)(s:Shared)(e:Value)(s':Shared):Prop:= ∃ a,e= .ref a/\(∃ o,s'.heap.get? a=some o/\o.cls= .type "StopIteration")/\ ∃ h',Heap.ExtBut it s.heap h'/\s'={ s with heap:=h' }
theorem Zey {it:Addr}{T id:String}{b:Builtin}{Q:Option Value->Shared->Prop}(hT:s.TypeIs (.ref it) T)(sl:Slot T (Str.ofString "__next__") id)(hb:entryFor table id=some b)(ha:argsOk id ⟨[.ref it],[]⟩)
  (h:wpAny (model prog w) A.in1 (b ⟨[.ref it],[]⟩) (fun _ _=>False) (ZfG it s) s) (hQ: ∀ h',Heap.ExtBut it s.heap h'->Q none { s with heap:=h' }):wpAny (model prog w) A (pyNext (.ref it)) Q E s:=by
 unfold pyNext;refine wpAny_bind (wpAny_attempt (wpAny_callSpecial?_slot (name:=Str.ofString "__next__") hT sl (wpAny_call_entry sl hT hb (wpAny_mono h (fun _ _ z=>z.elim) fun e s' z=> ?_) ha)))
 obtain ⟨a,rfl,ho,h',eb,rfl⟩:=z
 exact wpAny_bind (ZjC ho (wpAny_pure (hQ h' eb)))
theorem ZfH {it:Addr}{x left step:Int}{Q:Option Value->Shared->Prop}(q:ZaL A s.heap)(hit:IsRangeIter s.heap it x left step)(hl:left<=0)
  (hQ: ∀ h',Heap.ExtBut it s.heap h'->Q none { s with heap:=h' }):wpAny (model prog w) A (pyNext (.ref it)) Q E s:=by
 refine Zey ⟨_,hit,rfl⟩ F.slot_range_iterator_next F.entry_range_iterator_next (F.args_range_iterator_next_1 _) ?_ hQ
 refine wpAny_bind (m:=field (.ref it) 0) (wpAny_field hit rfl (x:=rawInt x) rfl ?_)
 refine wpAny_bind (m:=field (.ref it) 1) (wpAny_field hit rfl (x:=rawInt left) rfl ?_)
 refine wpAny_bind (m:=field (.ref it) 2) (wpAny_field hit rfl (x:=rawInt step) rfl ?_)
 dsimp only[rawInt];rw[if_pos hl];refine wpAny_bind (wpAny_rule (wpAny_bind ?_))
 exact Za0 q.in1 fun h' e k ho=>⟨e,rfl,ho,h',fun b o _ z=>k b o z,rfl⟩
theorem Zlh {it l:Addr}{i:Nat}{o ol:Obj}{items:Array Value}{n:Nat}(q:ZaL A s.heap)(ho:s.heap.get? it=some o)(hd:o.data= .fields #[.ref l,.int i 0])(hol:s.heap.get? l=some ol)(hdl:ol.data= .seq items n)(hx:items[i]?=none):
  wpAny (model prog w) A.in1 (Builtin.«list_iterator.__next__» ⟨[.ref it],[]⟩) (fun _ _=>False) (ZfG it s) s:=by
 refine wpAny_bind (m:=field (.ref it) 0) (wpAny_field ho hd (x:= .ref l) rfl ?_)
 dsimp only;rw[if_neg (show ¬ ((Value.ref l == Value.none)=true) from Bool.false_ne_true)];refine wpAny_bind (m:=field (.ref it) 1) (wpAny_field ho hd (x:= .int i 0) rfl ?_)
 refine wpAny_bind (m:=seqItems? (.ref l)) (wpAny_seqItems hol hdl ?_)
 simp only[Int.toNat_natCast,hx];refine wpAny_bind (wpAny_rule (wpAny_bind (wpAny_setField ho hd (by simp) ?_)))
 have q2:ZaL A.in1 (s.heap.update it (Obj.mapFields (·.setIfInBounds 0 Value.none))):=by
  rcases q with q | ⟨ea,oe,vs,e1,e2,e3,e4⟩
  ·exact .inl q
  ·refine .inr ⟨ea,oe,vs,e1,?_,e3,e4⟩
   rw[Heap.get?_update_other _ _ (fun z=> ?_)]
   ·exact e2
   ·rw[<- z,ho] at e2
    cases e2
    rw[hd] at e3;cases e3
    simp at e4
 refine Za0 q2 fun h' e k ho=>⟨e,rfl,ho,h',fun b o hb z=>k b o ?_,rfl⟩
 rw[Heap.get?_update_other _ _ (Ne.symm hb)]
 exact z
theorem Zli {it l:Addr}{i:Nat}{o ol:Obj}{items:Array Value}{n:Nat}(q:ZaL A s.heap)(ho:s.heap.get? it=some o)(hd:o.data= .fields #[.ref l,.int i 0])(hol:s.heap.get? l=some ol)(hdl:ol.data= .seq items n)(hx:items[i]?=none):
  wpAny (model prog w) A.in1 (Builtin.«tuple_iterator.__next__» ⟨[.ref it],[]⟩) (fun _ _=>False) (ZfG it s) s:=by
 refine wpAny_bind (m:=field (.ref it) 0) (wpAny_field ho hd (x:= .ref l) rfl ?_)
 dsimp only;rw[if_neg (show ¬ ((Value.ref l == Value.none)=true) from Bool.false_ne_true)];refine wpAny_bind (m:=field (.ref it) 1) (wpAny_field ho hd (x:= .int i 0) rfl ?_)
 refine wpAny_bind (m:=seqItems? (.ref l)) (wpAny_seqItems hol hdl ?_)
 simp only[Int.toNat_natCast,hx];refine wpAny_bind (wpAny_rule (wpAny_bind (wpAny_setField ho hd (by simp) ?_)))
 have q2:ZaL A.in1 (s.heap.update it (Obj.mapFields (·.setIfInBounds 0 Value.none))):=by
  rcases q with q | ⟨ea,oe,vs,e1,e2,e3,e4⟩
  ·exact .inl q
  ·refine .inr ⟨ea,oe,vs,e1,?_,e3,e4⟩
   rw[Heap.get?_update_other _ _ (fun z=> ?_)]
   ·exact e2
   ·rw[<- z,ho] at e2
    cases e2
    rw[hd] at e3;cases e3
    simp at e4
 refine Za0 q2 fun h' e k ho=>⟨e,rfl,ho,h',fun b o hb z=>k b o ?_,rfl⟩
 rw[Heap.get?_update_other _ _ (Ne.symm hb)]
 exact z
theorem ZhM {it l:Addr}{i:Nat}{items}{Q:Option Value->Shared->Prop}(q:ZaL A s.heap)(hit:s.heap.IsListIter it l i)(hl:s.heap.IsList l items)(hx:items[i]?=none)
  (hQ: ∀ h',Heap.ExtBut it s.heap h'->Q none { s with heap:=h' }):wpAny (model prog w) A (pyNext (.ref it)) Q E s:=by
 obtain ⟨o,ho,hc,hd⟩:=id hit
 obtain ⟨ol,hol,_,nl,hdl⟩:=hl
 exact Zey hit.typeIs slot_listiter_next entry_listiter_next (args_listiter_next _) (Zlh q ho hd hol hdl hx) hQ
theorem ZfI {it l:Addr}{i:Nat}{items}{Q:Option Value->Shared->Prop}(q:ZaL A s.heap)(hit:s.heap.IsTupleIter it l i)(hl:s.heap.IsTuple l items)(hx:items[i]?=none)
  (hQ: ∀ h',Heap.ExtBut it s.heap h'->Q none { s with heap:=h' }):wpAny (model prog w) A (pyNext (.ref it)) Q E s:=by
 obtain ⟨o,ho,hc,hd⟩:=id hit
 obtain ⟨ol,hol,_,nl,hdl⟩:=hl
 exact Zey hit.typeIs F.slot_tuple_iterator_next F.entry_tuple_iterator_next (F.args_tuple_iterator_next_1 _) (Zli q ho hd hol hdl hx) hQ
end
end DQ
end
section
namespace L2
open PySem PySem.Spec PyProof.Rows
noncomputable abbrev Key:=Sum Int Str
noncomputable def Zlj:Key->Value->Bool
 | .inl k,v=>Value.isInt k v
 | .inr x,v=>Value.isStrOf x v
noncomputable def ZrR (w:World):Key->Int
 | .inl k=>hashInt k
 | .inr x=>hashStr w x
theorem ZE: ∀ {k:Key} {v:Value},Zlj k v=true->(∃ i t,k=Sum.inl i/\v=Value.int i t)\/(∃ x t,k=Sum.inr x/\v=Value.str x t)
 | .inl i,v,h=>by
  obtain ⟨t,e⟩:=Value.isInt_shape (k:=i) (v:=v) h
  exact .inl ⟨i,t,rfl,e⟩
 | .inr x,v,h=>by
  obtain ⟨t,e⟩:=Value.isStrOf_shape (x:=x) (v:=v) h
  exact .inr ⟨x,t,rfl,e⟩
theorem Zlk (a b:Int):decide ((Sum.inl a:Key)=Sum.inl b)=(a == b):=by
 by_cases e:a=b
 ·subst e;simp
 ·have h: ¬ (Sum.inl a:Key)=Sum.inl b:=fun q=>e (Sum.inl.inj q)
  rw[decide_eq_false h];exact (beq_eq_false_iff_ne.mpr e).symm
theorem Zll (a b:Str):decide ((Sum.inr a:Key)=Sum.inr b)=decide (a=b):=by
 by_cases e:a=b
 ·subst e;simp
 ·have h: ¬ (Sum.inr a:Key)=Sum.inr b:=fun q=>e (Sum.inr.inj q)
  rw[decide_eq_false h,decide_eq_false e]
theorem Zlm (a:Int)(b:Str):decide ((Sum.inl a:Key)=Sum.inr b)=false:=decide_eq_false (fun q=>nomatch q)
theorem Zln (a:Str)(b:Int):decide ((Sum.inr a:Key)=Sum.inl b)=false:=decide_eq_false (fun q=>nomatch q)
noncomputable def ZfJ (prog:Program)(w:World):PySem.KeyKind prog w Key where
 is:=Zlj
 hash:=ZrR w
 inj:=fun v a b ha hb=>by
  rcases ZE ha with ⟨i,t,rfl,rfl⟩ | ⟨x,t,rfl,rfl⟩
  ·rcases ZE hb with ⟨j,u,rfl,e⟩ | ⟨y,u,rfl,e⟩
   ·injection e with e1 _;rw[e1]
   ·exact nomatch e
  ·rcases ZE hb with ⟨j,u,rfl,e⟩ | ⟨y,u,rfl,e⟩
   ·exact nomatch e
   ·injection e with e1 _;rw[e1]
 byValue:=fun k v h=>by
  rcases ZE h with ⟨i,t,rfl,rfl⟩ | ⟨x,t,rfl,rfl⟩<;>rfl
 pyHash:=fun hv h=>by
  rcases ZE hv with ⟨i,t,rfl,rfl⟩ | ⟨x,t,rfl,rfl⟩
  ·exact wpAny_pyHash_int h
  ·exact wpAny_pyHash_str h
 eqBool:=fun hu hv h=>by
  rcases ZE hu with ⟨i,t,rfl,rfl⟩ | ⟨x,t,rfl,rfl⟩
  ·rcases ZE hv with ⟨j,u,rfl,rfl⟩ | ⟨y,u,rfl,rfl⟩
   ·rw[Zlk] at h;exact wpAny_eqBool_int h
   ·rw[Zlm] at h;exact SeqAt.EqAt.int_str i t y u _ _ _ _ h
  ·rcases ZE hv with ⟨j,u,rfl,rfl⟩ | ⟨y,u,rfl,rfl⟩
   ·rw[Zln] at h;exact SeqAt.EqAt.str_int x t j u _ _ _ _ h
   ·rw[Zll] at h;exact wpAny_eqBool_str h
 «strs» :=fun k x t v h=>by
  rcases ZE h with ⟨i,u,rfl,e⟩ | ⟨y,u,rfl,e⟩
  ·exact nomatch e
  ·injection e with e1 _
   subst e1;cases v<;>rfl
end L2
namespace L2
open PySem PySem.Spec PyProof.Rows
inductive V where
 |non | bl (b:Bool) | int (i:Int) | str (x:Str) | byt (b:Array UInt8) | flt (b:UInt64) | ref (a:Addr) | ty (n:String)
 deriving DecidableEq
noncomputable def ZX:V->Value->Prop
 | .non,u=>u=Value.none
 | .bl b,u=>u=Value.bool b
 | .int i,u=> ∃ t,u=Value.int i t
 | .str x,u=> ∃ t,u=Value.str x t
 | .byt b,u=> ∃ t,u=Value.bytes b t
 | .flt b,u=> ∃ t,u=Value.float b t
 | .ref a,u=>u=Value.ref a
 | .ty n,u=>u=Value.type n
noncomputable abbrev ZK:List V->List Value->Prop:=Paired ZX
theorem ZK.length {xs:List V}{us:List Value}(r:ZK xs us):xs.length=us.length:=Paired.length r
theorem ZK.get: ∀ {xs:List V} {us:List Value} {i:Nat} {x:V},ZK xs us->xs[i]?=some x-> ∃ u,us[i]?=some u/\ZX x u
 |_,_,_,_,.nil,e=>by simp at e
 |_,_,0,_,.cons r _,e=>by simp at e;subst e;exact ⟨_,rfl,r⟩
 |_,_,i + 1,x,.cons _ t,e=>by
  obtain ⟨u,h1,h2⟩:=ZK.get (i:=i) (x:=x) t (by simpa using e)
  exact ⟨u,by simpa using h1,h2⟩
theorem ZK.set {x:V}{u:Value}(r:ZX x u): ∀ {xs:List V} {us:List Value} (i:Nat),ZK xs us->ZK (xs.set i x) (us.set i u)
 |_,_,_,.nil=> .nil
 |_,_,0,.cons _ t=> .cons r t
 |_,_,i + 1,.cons q t=> .cons q (ZK.set r i t)
theorem ZK.append: ∀ {xs ys:List V} {us ws:List Value},ZK xs us->ZK ys ws->ZK (xs ++ ys) (us ++ ws)
 |_,_,_,_,.nil,s=>s
 |_,_,_,_,.cons r t,s=> .cons r (ZK.append t s)
theorem ZK.take: ∀ {xs:List V} {us:List Value} (n:Nat),ZK xs us->ZK (xs.take n) (us.take n)
 |_,_,0,_=> .nil
 |_,_,_ + 1,.nil=> .nil
 |_,_,n + 1,.cons r t=> .cons r (ZK.take n t)
theorem ZK.drop: ∀ {xs:List V} {us:List Value} (n:Nat),ZK xs us->ZK (xs.drop n) (us.drop n)
 |_,_,0,r=>r
 |_,_,_ + 1,.nil=> .nil
 |_,_,n + 1,.cons _ t=>ZK.drop n t
noncomputable def Zlo:Option V->Option Value->Prop
 |some v,some u=>ZX v u
 |none,none=>True
 |_,_=>False
noncomputable def KV {κ:Type}:List (κ × V)->List (κ × Value)->Prop:=Paired fun (p:κ × V) (q:κ × Value)=>p.1=q.1/\ZX p.2 q.2
noncomputable def kV:Key->V
 | .inl i=> .int i
 | .inr x=> .str x
inductive HO where
 |lst (xs:List V)
 |tup (xs:List V)
 |dK (kvs:List (Key × V)) | dT (kvs:List (List Key × V))
 |set (S:Int->Bool) (n:Nat)
 |ins (C dx:Addr) (fs:List (Str × V))
 |own (x:Addr)
 |xd (fs:List (Str × V))
 |met (f x:Addr)
 |rng (lo hi:Int)
 |frz (o:Obj) (u:HO)
 |tbl (ps:Array Value)
 |ext (φ:Heap->Prop)
noncomputable abbrev Hp:=Addr->Option HO
noncomputable def upd (H:Hp)(a:Addr)(o:HO):Hp:=fun b=>if b=a then some o else H b
theorem Zm {H:Hp}{a:Addr}{o:HO}:upd H a o a=some o:=by unfold upd;rw[if_pos rfl]
theorem Zl {H:Hp}{a b:Addr}{o:HO}(h:b≠a):upd H a o b=H b:=by unfold upd;rw[if_neg h]
theorem ZD {H:Hp}{a b:Addr}{o:HO}(h:H a=some o)(h':H b=none):a≠b:=by
 intro e;subst e;rw[h] at h';cases h'
section
variable (P:Program)(w:World)
noncomputable def Za5 (H:Hp)(h:Heap)(a:Addr):HO->Prop
 | .lst xs=>xs.length<=sizeLine/\ ∃ (its:List Value) (n:Nat),ZK xs its/\h.get? a=some { cls:= .type "list",data:= .seq its.toArray n }
 | .tup xs=>xs.length<=sizeLine/\ ∃ its:List Value,ZK xs its/\IsTup h a its.toArray
 | .dK kvs=>kvs.length<=sizeLine/\(a == sysModules)=false/\ ∃ vs,KV kvs vs/\h.DictOf (ZfJ P w) a vs
 | .dT kvs=>kvs.length<=sizeLine/\(a == sysModules)=false/\ ∃ xs:List (List Key × Addr × Value),
   Paired (fun (p:List Key × V) (q:List Key × Addr × Value)=>p.1=q.1/\H q.2.1=some (.tup (p.1.map kV))/\ZX p.2 q.2.2) kvs xs/\
   ∃ o es ep,h.get? a=some o/\o.ExactDict/\o.data= .dict es ep/\es.toList=xs.map (entryOfKey (tupleKind (ZfJ P w)))/\(xs.map (·.1)).Nodup
 | .set S n=>h.SetOf (intKind P w) a S n
 | .ins C dx fs=>H dx=some (.own a)/\fs.length<=1000/\dx≠a/\h.get? a=some (PySem.W.instObj C dx)/\
   ∃ mA,h.Ns1 dx mA/\(∀ f,Zlo (fs.lookup f) (mA f))/\PySem.Within mA (fs.map (·.1))
 | .own _=> ∃ o,h.get? a=some o
 | .xd fs=> ∃ mA,h.Ns1 a mA/\ ∀ f,Zlo (fs.lookup f) (mA f)
 | .rng lo hi=> ∃ t u v,h.get? a=some { cls:= .type "range",data:= .fields #[.int lo t,.int hi u,.int 1 v] }
 | .frz o u=>h.get? a=some o/\Za5 H h a u
 | .tbl ps=>h.get? a=some { cls:= .none,data:= .fields ps }
 | .met f x=>h.get? a=some (PySem.W.methodObj (.ref f) (.ref x))
 | .ext φ=>φ h/\(∃ o,h.get? a=some o)/\ ∀ h1 h2:Heap,φ h1->(∀ o,h1.get? a=some o->h2.get? a=some o)->φ h2
noncomputable def HOk (H:Hp)(h:Heap):Prop:= ∀ a o,H a=some o->Za5 P w H h a o
end
section
variable {P:Program}{w:World}{H H':Hp}{h h':Heap}{a:Addr}{o:HO}
theorem Za5.lt (x:Za5 P w H h a o):a < h.objs.size:=by
 cases o with
 |lst xs=>obtain ⟨_,_,_,_,e⟩:=x;exact Heap.lt_size e
 |tup xs=>obtain ⟨_,_,_,p⟩:=x;exact p.lt
 |dK kvs=>obtain ⟨_,_,_,_,o,_,_,e,_⟩:=x;exact Heap.lt_size e
 |dT kvs=>obtain ⟨_,_,_,_,o,_,_,e,_⟩:=x;exact Heap.lt_size e
 |set S n=>obtain ⟨o,_,_,_,e,_⟩:=x;exact Heap.lt_size e
 |ins C dx fs=>obtain ⟨_,_,_,e,_⟩:=x;exact Heap.lt_size e
 |own y=>obtain ⟨_,e⟩:=x;exact Heap.lt_size e
 |xd fs=>obtain ⟨_,⟨_,_,_,e,_⟩,_⟩:=x;exact Heap.lt_size e
 |rng lo hi=>obtain ⟨_,_,_,e⟩:=x;exact Heap.lt_size e
 |frz ob u=>obtain ⟨e,_⟩:=x;exact Heap.lt_size e
 |tbl ps=>exact Heap.lt_size (show h.get? a=some _ from x)
 |met f y=>exact Heap.lt_size (show h.get? a=some _ from x)
 |ext φ=>obtain ⟨_,⟨_,e⟩,_⟩:=x;exact Heap.lt_size e
theorem Paired.mapP {α β:Type}{F G:α->β->Prop}: ∀ {l₁:List α} {l₂:List β},Paired F l₁ l₂->(∀ a b,F a b->G a b)->Paired G l₁ l₂
 |_,_,.nil,_=> .nil
 |_,_,.cons r t,f=> .cons (f _ _ r) (Paired.mapP t f)
theorem Za5.stay (x:Za5 P w H h a o)(k: ∀ b u,(b=a\/H b=some (.own a))->h.get? b=some u->h'.get? b=some u)
  (ho: ∀ b,H b=some (.own a)->H' b=some (.own a)) (ht: ∀ b xs,H b=some (.tup xs)->H' b=some (.tup xs)):Za5 P w H' h' a o:=by
 induction o with
 |lst xs=>obtain ⟨z,its,n,r,e⟩:=x;exact ⟨z,its,n,r,k _ _ (.inl rfl) e⟩
 |tup xs=>obtain ⟨z,its,r,ob,e,c⟩:=x;exact ⟨z,its,r,ob,k _ _ (.inl rfl) e,c⟩
 |dK kvs=>obtain ⟨z,y,vs,r,ob,es,ep,e,c⟩:=x;exact ⟨z,y,vs,r,ob,es,ep,k _ _ (.inl rfl) e,c⟩
 |dT kvs=>
  obtain ⟨z,y,xs,r,ob,es,ep,e,c⟩:=x
  exact ⟨z,y,xs,Paired.mapP r fun p q z=>⟨z.1,ht _ _ z.2.1,z.2.2⟩,ob,es,ep,k _ _ (.inl rfl) e,c⟩
 |set S n=>obtain ⟨ob,es,ep,t,e,c⟩:=x;exact ⟨ob,es,ep,t,k _ _ (.inl rfl) e,c⟩
 |ins C dx fs=>
  obtain ⟨d,z,ne,e,mA,⟨od,es,ep,e2,c⟩,r⟩:=x
  exact ⟨ho _ d,z,ne,k _ _ (.inl rfl) e,mA,⟨od,es,ep,k _ _ (.inr d) e2,c⟩,r⟩
 |own y=>obtain ⟨ob,e⟩:=x;exact ⟨ob,k _ _ (.inl rfl) e⟩
 |xd fs=>obtain ⟨mA,⟨od,es,ep,e,c⟩,r⟩:=x;exact ⟨mA,⟨od,es,ep,k _ _ (.inl rfl) e,c⟩,r⟩
 |rng lo hi=>obtain ⟨t,u,v,e⟩:=x;exact ⟨t,u,v,k _ _ (.inl rfl) e⟩
 |frz ob u ih=>obtain ⟨e,q⟩:=x;exact ⟨k _ _ (.inl rfl) e,ih q⟩
 |tbl ps=>
  have e:h.get? a=some { cls:= .none,data:= .fields ps }:=x
  show h'.get? a=some { cls:= .none,data:= .fields ps }
  exact k a _ (.inl rfl) e
 |met f y=>
  have e:h.get? a=some (PySem.W.methodObj (.ref f) (.ref y)):=x
  show h'.get? a=some (PySem.W.methodObj (.ref f) (.ref y))
  exact k a _ (.inl rfl) e
 |ext φ=>obtain ⟨p,⟨o,e⟩,st⟩:=x;exact ⟨st _ _ p fun o q=>k _ _ (.inl rfl) q,⟨o,k _ _ (.inl rfl) e⟩,st⟩
theorem HOk.lt (x:HOk P w H h)(e:H a=some o):a < h.objs.size:=(x a o e).lt
theorem HOk.fresh (x:HOk P w H h)(e:h.objs.size<=a):H a=none:=by
 cases q:H a with
 |none=>rfl
 |some u=>exact absurd (Nat.lt_of_lt_of_le (x.lt q) e) (Nat.lt_irrefl _)
theorem HOk.kept (x:HOk P w H h)(k: ∀ b u,h.get? b=some u->h'.get? b=some u):HOk P w H h':=fun a o e=>
 (x a o e).stay (fun b u _ q=>k b u q) (fun _ q=>q) fun _ _ q=>q
theorem HOk.laid (x:HOk P w H h)(k: ∀ b u,h.get? b=some u->h'.get? b=some u)(hp:h.objs.size<=a)(new:Za5 P w (upd H a o) h' a o):HOk P w (upd H a o) h':=fun b u e=>by
 have hn:=x.fresh hp
 by_cases hb:b=a
 ·subst hb;rw[Zm] at e;cases e;exact new
 ·rw[Zl hb] at e
  exact (x b u e).stay (fun c v _ q=>k c v q) (fun c q=>by rw[Zl (ZD q hn)];exact q) fun c xs q=>by rw[Zl (ZD q hn)];exact q
end
noncomputable def Rd (H:Hp)(a:Addr)(u:HO):Prop:=H a=some u\/ ∃ o,H a=some (.frz o u)
theorem Rd.ok {P:Program}{w:World}{H:Hp}{h:Heap}{a:Addr}{u:HO}(r:Rd H a u)(x:HOk P w H h):Za5 P w H h a u:=by
 rcases r with r | ⟨o,r⟩
 ·exact x a u r
 ·obtain ⟨_,q⟩:=x a _ r
  exact q
noncomputable def Mut:Option HO->Prop
 |some (.lst _)=>True
 |some (.dK _)=>True
 |some (.dT _)=>True
 |some (.set _ _)=>True
 |some (.ins _ _ _)=>True
 |some (.ext _)=>True
 |_=>False
section
variable {P:Program}{w:World}{H:Hp}{h h':Heap}{x e:Addr}{o':HO}
theorem HOk.write (ok:HOk P w H h)(mu:Mut (H x))(he:e=x\/H e=some (.own x))(k: ∀ b u,b≠e->h.get? b=some u->h'.get? b=some u)(heo: ∃ u,h'.get? e=some u)
  (new:Za5 P w (upd H x o') h' x o'):HOk P w (upd H x o') h':=fun b u q=>by
 have nown: ∀ c y,H c=some (.own y)->c≠x:=fun c y r z=>by subst z;rw[r] at mu;exact mu
 have ntup: ∀ c xs,H c=some (.tup xs)->c≠x:=fun c xs r z=>by subst z;rw[r] at mu;exact mu
 by_cases hb:b=x
 ·subst hb;rw[Zm] at q;cases q;exact new
 ·rw[Zl hb] at q
  by_cases hbe:b=e
  ·have q':H b=some (.own x):=by
    rcases he with z | z
    ·exact absurd (hbe.trans z) hb
    ·rw[hbe];exact z
   rw[q] at q';cases q';obtain ⟨v,hv⟩:=heo
   exact ⟨v,by rw[hbe];exact hv⟩
  ·refine (ok b u q).stay (fun c v hc r=>k c v ?_ r) (fun c r=>by rw[Zl (nown c b r)];exact r) fun c xs r=>by rw[Zl (ntup c xs r)];exact r
   rcases hc with rfl | hc
   ·exact hbe
   ·rintro rfl
    rcases he with z | z
    ·exact nown c b hc z
    ·rw[hc] at z;cases z;exact hb rfl
end
structure Un (fs ex:List Addr) (H H':Hp) (h h':Heap):Prop where
 keep: ∀ b o,h.get? b=some o->H b=none->b ∉ fs->b ∉ ex->h'.get? b=some o
 slot: ∀ b o,h.get? b=some o->H b=none->b∈fs->b ∉ ex-> ∃ sl,h'.get? b=some { o with slots:=sl }
 free: ∀ b o,h.get? b=some o->H b=none->b ∉ ex->H' b=none
 there: ∀ b o,h.get? b=some o->b ∉ ex-> ∃ o',h'.get? b=some o'
 tups: ∀ b xs,H b=some (.tup xs)->H' b=some (.tup xs)
 frzs: ∀ b o u,H b=some (.frz o u)->H' b=some (.frz o u)
 tbls: ∀ b ps,H b=some (.tbl ps)-> ∃ more,H' b=some (.tbl (ps ++ more))
section
variable {fs fs' ex ex':List Addr}{H H1 H2:Hp}{h h1 h2 h':Heap}{a x e:Addr}{o:HO}
theorem Un.any (u:Un fs ex H H1 h h1){b:Addr}{ob:Obj}(q:h.get? b=some ob)(n:H b=none)(hx:b ∉ ex): ∃ sl,h1.get? b=some { ob with slots:=sl }:=by
 by_cases hb:b∈fs
 ·exact u.slot b ob q n hb hx
 ·exact ⟨ob.slots,u.keep b ob q n hb hx⟩
theorem Un.kept (k: ∀ b u,h.get? b=some u->h'.get? b=some u):Un fs ex H H h h':=
 ⟨fun b ob q _ _ _=>k b ob q,fun b ob q _ _ _=>⟨ob.slots,k b ob q⟩,fun _ _ _ n _=>n,fun b ob q _=>⟨ob,k b ob q⟩,fun _ _ q=>q,fun _ _ _ q=>q,fun _ ps q=>⟨#[],by rw[q];simp⟩⟩
theorem Un.refl:Un fs ex H H h h:=Un.kept fun _ _ q=>q
theorem Un.laid (k: ∀ b u,h.get? b=some u->h'.get? b=some u)(hp:h.objs.size<=a)(hn:H a=none):Un fs ex H (upd H a o) h h' where
 keep:=fun b u q _ _ _=>k b u q
 slot:=fun b u q _ _ _=>⟨u.slots,k b u q⟩
 free:=fun b u q n _=>by rw[Zl (Nat.ne_of_lt (Nat.lt_of_lt_of_le (Heap.lt_size q) hp))];exact n
 there:=fun b u q _=>⟨u,k b u q⟩
 tups:=fun b xs q=>by rw[Zl (ZD q hn)];exact q
 frzs:=fun b u xs q=>by rw[Zl (ZD q hn)];exact q
 tbls:=fun b ps q=>⟨#[],by rw[Zl (ZD q hn),q];simp⟩
theorem Un.write (mu:Mut (H x))(he:e=x\/H e=some (.own x))(k: ∀ b u,b≠e->h.get? b=some u->h'.get? b=some u)(heo: ∃ u,h'.get? e=some u):Un fs ex H (upd H x o) h h':=by
 have hx: ∀ b,H b=none->b≠x:=fun b n z=>by subst z;rw[n] at mu;exact mu
 have hb: ∀ b,H b=none->b≠e:=fun b n z=>by
  subst z
  rcases he with r | r
  ·exact hx b n r
  ·rw[n] at r;cases r
 have hm: ∀ b u,H b=some u-> ¬ Mut (some u)->b≠x:=fun b u q nm z=>by subst z;rw[q] at mu;exact nm mu
 refine ⟨fun b u q n _ _=>k b u (hb b n) q,fun b u q n _ _=>⟨u.slots,k b u (hb b n) q⟩,fun b u q n _=>by rw[Zl (hx b n)];exact n,fun b u q _=> ?_,
  fun b xs q=>by rw[Zl (hm b _ q fun z=>z)];exact q,fun b u xs q=>by rw[Zl (hm b _ q fun z=>z)];exact q,fun b ps q=>⟨#[],by rw[Zl (hm b _ q fun z=>z),q];simp⟩⟩
 by_cases hbe:b=e
 ·subst hbe;exact heo
 ·exact ⟨u,k b u hbe q⟩
end
noncomputable def trk (h:Heap)(H:Hp):List Addr:=(List.range h.objs.size).filter fun a=>(H a).isSome
noncomputable def ZhG (h:Heap)(H:Hp):Heap:=PySem.W.hideAll h (trk h H)
theorem ZfK (h:Heap)(H:Hp):(ZhG h H).objs.size=h.objs.size:=PySem.W.hideAll_size _ _
theorem Zez {h:Heap}{H:Hp}{b:Addr}{o:Obj}(e:h.get? b=some o)(n:H b=none):(ZhG h H).get? b=some o:=
 PySem.W.hideAll_get _ e fun hm=>by
  have q:(H b).isSome=true:=(List.mem_filter.mp hm).2
  rw[n] at q;simp at q
theorem ZfL {h:Heap}{H:Hp}{b:Addr}{o:Obj}(e:(ZhG h H).get? b=some o):h.get? b=some o/\H b=none:=by
 have e':h.get? b=some o:=PySem.W.of_hideAll (trk h H) e
 refine ⟨e',?_⟩
 cases q:H b with
 |none=>rfl
 |some x=>
  have hm:b∈trk h H:=List.mem_filter.mpr ⟨List.mem_range.mpr (Heap.lt_size e'),by simp[q]⟩
  have z:(ZhG h H).get? b=none:=PySem.W.hideAll_none (trk h H) hm
  rw[z] at e;cases e
end L2
namespace L2
open PySem PySem.Spec PyProof.Rows
structure Mod (K:PySem.W.Frag) (mg:Str->Option Value) (base:Heap):Prop where
 kin:K.In base
 glob:base.Ns mainGlobals mg
 blt: ∃ mb,base.Ns builtinsNs mb/\ ∀ x:Str,x≠"__name__"->mb x=bootBuiltins x
 nolimit:base.NoLimit
structure Cx where
 prog:Program
 w:World
 K:PySem.W.Frag
 mg:Str->Option Value
 base:Heap
 A:Around
 N:List Str
 s₀:Shared
 H₀:Hp
 env:Env
 outer:List Env
 stack:List Env
 ex:List Addr
 fn:Str->Bool
 calm:Bool
 pn:List (Addr × Obj)
 xe:Value->Shared->Prop
 fxs:Option (List Bool × List (Option V))
noncomputable def frs (l:List Env):List Addr:=l.filterMap (·.frame)
noncomputable abbrev Cx.fs (X:Cx):List Addr:=frs X.outer
noncomputable def Vis (sc:Scope)(x:Str):Prop:=sc.names.lookup x=some .local\/sc.names.lookup x=some .cell\/sc.names.lookup x=some .free
noncomputable def Loc (sc:Scope)(x:Str):Prop:=sc.names.lookup x=some .local\/sc.names.lookup x=some .cell
noncomputable def ZrS (env:Env)(h:Heap)(m:Str->Option Value)(x:Str)(u:Value):Prop:=
 (env.kindOf x=some .local/\m x=some u)\/((env.kindOf x=some .cell\/env.kindOf x=some .free)/\ ∃ c,env.cells.lookup x=some c/\h.IsCell c (some u))
structure Cx.Ok (X:Cx):Prop where
 mod:Mod X.K X.mg X.base
 kind:X.env.scope.kind= .function
 glob:X.env.globals=mainGlobals
 blt:X.env.builtins=builtinsNs
 above:X.s₀.heap.objs.size<=X.env.locals
 inj: ∀ x y c,X.env.cells.lookup x=some c->X.env.cells.lookup y=some c->x=y
 has: ∀ x,(X.env.kindOf x=some .cell\/X.env.kindOf x=some .free)-> ∃ c,X.env.cells.lookup x=some c
 cab: ∀ x c,X.fn x=true->X.env.cells.lookup x=some c->X.s₀.heap.objs.size<=c
 hd:X.calm=true->X.A.handled=none
 frames:X.A.frames=some X.stack
 stk:X.stack=X.outer\/(X.stack=X.env :: X.outer/\X.env.frame=some X.env.locals)
 exf: ∀ b∈X.ex,b≠X.env.locals/\ ∀ x c,X.env.cells.lookup x=some c->c≠b
 bs: ∀ b o,X.base.get? b=some o->X.s₀.heap.get? b=some o/\X.H₀ b=none
 bsz:X.base.objs.size<=X.s₀.heap.objs.size
 noex: ∀ b o,X.base.get? b=some o->b ∉ X.ex
 exfs: ∀ b∈X.ex,b ∉ X.fs
 funs:X.s₀.heap.FunFrames X.base X.outer
 frf: ∀ b∈X.fs,X.H₀ b=none
noncomputable def Qd (A:Around)(H:Hp):Prop:=A.handled=none\/ ∃ ea oe u vs,A.handled=some (.ref ea)/\H ea=some (.frz oe u)/\oe.data= .fields vs/\vs[2]?=some .none
theorem Qd.mono {A:Around}{H H':Hp}(q:Qd A H)(k: ∀ b o u,H b=some (.frz o u)->H' b=some (.frz o u)):Qd A H':=by
 rcases q with q | ⟨ea,oe,u,vs,e1,e2,e3,e4⟩
 ·exact .inl q
 ·exact .inr ⟨ea,oe,u,vs,e1,k _ _ _ e2,e3,e4⟩
noncomputable def Cx.may (X:Cx)(i:Nat):Bool:=match X.fxs with | none=>true | some (W,_)=>W[i]? == some true
noncomputable def Cx.Fx (X:Cx)(σ:List (Option V)):Prop:= ∀ W σ0,X.fxs=some (W,σ0)-> ∀ j:Nat,W[j]?=some false->σ[j]?=σ0[j]?
theorem Cx.Fx.free {X:Cx}{σ:List (Option V)}(h:X.fxs=none):X.Fx σ:=fun W σ0 e=>by rw[h] at e;cases e
theorem Cx.Fx.set {X:Cx}{σ:List (Option V)}{i:Nat}{v:Option V}(h:X.Fx σ)(m:X.may i=true):X.Fx (σ.set i v):=fun W σ0 e j hj=>by
 have ne:i≠j:=fun z=>by
  unfold Cx.may at m;rw[e,z] at m;have m':(W[j]? == some true)=true:=m
  rw[hj] at m';cases m'
 rw[List.getElem?_set_ne ne]
 exact h W σ0 e j hj
structure Inv (X:Cx) (pins:List (Addr × Obj)) (σ:List (Option V)) (H:Hp) (s:Shared):Prop where
 ok:X.Ok
 os:s.os=X.s₀.os
 bare:AllBare s.gens
 base:Un X.fs X.ex X.H₀ H X.s₀.heap s.heap
 loc: ∃ m,s.heap.Ns X.env.locals m/\ ∀ (i:Nat) (x:Str) (v:V),X.N[i]?=some x->σ[i]?=some (some v)->Vis X.env.scope x-> ∃ u,ZX v u/\ZrS X.env s.heap m x u
 cell: ∀ x c,X.env.cells.lookup x=some c-> ∃ v,s.heap.IsCell c v
 free:H X.env.locals=none
 freeC: ∀ x c,X.env.cells.lookup x=some c->H c=none
 pin: ∀ p∈X.pn ++ pins,s.heap.get? p.1=some p.2/\H p.1=none/\p.1≠X.env.locals/\p.1 ∉ X.fs/\ ∀ v,p.2.data≠ .cell v
 hok:HOk X.prog X.w H s.heap
 len:σ.length=X.N.length
 qd:Qd X.A H
 fx:X.Fx σ
section
variable {X:Cx}{pins:List (Addr × Obj)}{σ:List (Option V)}{H H':Hp}{s:Shared}{h':Heap}
theorem Cx.Ok.nofr (ok:X.Ok){b:Addr}{o:Obj}(e:X.base.get? b=some o):b ∉ X.fs:=fun hb=>by
 have:=(ok.funs.mem hb).1
 rw[e] at this;cases this
theorem Inv.bs (I:Inv X pins σ H s): ∀ b o,X.base.get? b=some o->s.heap.get? b=some o/\H b=none:=fun b o e=>
 ⟨I.base.keep b o (I.ok.bs b o e).1 (I.ok.bs b o e).2 (I.ok.nofr e) (I.ok.noex b o e),I.base.free b o (I.ok.bs b o e).1 (I.ok.bs b o e).2 (I.ok.noex b o e)⟩
theorem Inv.qh (I:Inv X pins σ H s):DQ.ZaL X.A s.heap:=by
 rcases I.qd with q | ⟨ea,oe,u,vs,e1,e2,e3,e4⟩
 ·exact .inl q
 ·exact .inr ⟨ea,oe,vs,e1,(I.hok _ _ e2).1,e3,e4⟩
theorem Inv.bk (I:Inv X pins σ H s): ∀ b o,X.base.get? b=some o->s.heap.get? b=some o:=fun b o e=>(I.bs b o e).1
theorem Inv.mod (I:Inv X pins σ H s):Mod X.K X.mg X.base:=I.ok.mod
theorem Inv.kIn (I:Inv X pins σ H s):X.K.In s.heap:=I.ok.mod.kin.keeps I.bk
theorem Inv.fr (I:Inv X pins σ H s): ∃ m,Fr X.base X.env.locals s.heap m:=
 let ⟨m,hn,_⟩:=I.loc
 ⟨m,hn,I.bk,Nat.le_trans I.ok.bsz I.ok.above⟩
theorem Inv.lt (I:Inv X pins σ H s):X.env.locals < s.heap.objs.size:=let ⟨_,hn,_⟩:=I.loc;hn.lt
theorem Inv.sz (I:Inv X pins σ H s):X.s₀.heap.objs.size<=s.heap.objs.size:=Nat.le_trans I.ok.above (Nat.le_of_lt I.lt)
theorem Inv.nofs (I:Inv X pins σ H s){a:Addr}(h:s.heap.objs.size<=a):a ∉ X.fs:=fun hb=>by
 obtain ⟨_,o,ho,_⟩:=I.ok.funs.mem hb
 exact absurd (Nat.lt_of_lt_of_le (Heap.lt_size ho) (Nat.le_trans I.sz h)) (Nat.lt_irrefl _)
theorem Inv.cne (I:Inv X pins σ H s): ∀ x c,X.env.cells.lookup x=some c->c≠X.env.locals:=fun x c e z=>by
 obtain ⟨v,o,ho,hd⟩:=I.cell x c e
 obtain ⟨m,⟨o',es,ep,ho',hd',_⟩,_⟩:=I.loc
 rw[z,ho'] at ho;cases ho;rw[hd'] at hd;cases hd
theorem Inv.funs (I:Inv X pins σ H s):s.heap.FunFrames X.base X.outer:=by
 have all: ∀ (l:List Env),(∀ b∈frs l,b∈X.fs)->X.s₀.heap.FunFrames X.base l->s.heap.FunFrames X.base l:=by
  intro l
  induction l with
  |nil=>intro _ _;trivial
  |cons env r ih=>
   intro hs hl;obtain ⟨hk,⟨L,o,hf,hn,ho,hd⟩,hr⟩:=hl
   have hL:L∈X.fs:=hs L (by unfold frs;rw[List.filterMap_cons,hf];exact List.mem_cons_self)
   obtain ⟨sl,e⟩:=I.base.slot L o ho (I.ok.frf L hL) hL fun z=>I.ok.exfs L z hL
   exact ⟨hk,⟨L,_,hf,hn,e,hd⟩,ih (fun b hb=>hs b (by unfold frs;rw[List.filterMap_cons,hf];exact List.mem_cons_of_mem _ hb)) hr⟩
 exact all X.outer (fun _ hb=>hb) I.ok.funs
theorem Inv.stack (I:Inv X pins σ H s):s.heap.FunFrames X.base X.stack:=by
 rcases I.ok.stk with e | ⟨e,hf⟩
 ·rw[e];exact I.funs
 ·rw[e]
  obtain ⟨m,hn,_⟩:=I.loc
  refine .cons (by rw[I.ok.kind];decide) hf hn ?_ I.funs
  exact Heap.get?_none_of_le (Nat.le_trans I.ok.bsz I.ok.above)
theorem Inv.stkSub (I:Inv X pins σ H s): ∀ b∈frs X.stack,b∈X.env.locals :: X.fs:=fun b hb=>by
 rcases I.ok.stk with e | ⟨e,hf⟩
 ·rw[e] at hb;exact List.mem_cons_of_mem _ hb
 ·rw[e] at hb
  unfold frs at hb;rw[List.filterMap_cons,hf] at hb;exact hb
theorem Inv.stkFree (I:Inv X pins σ H s): ∀ b∈frs X.stack,H b=none:=fun b hb=>by
 rcases List.mem_cons.mp (I.stkSub b hb) with e | hb
 ·rw[e];exact I.free
 ·obtain ⟨_,o,ho,_⟩:=I.ok.funs.mem hb
  exact I.base.free b o ho (I.ok.frf b hb) fun z=>I.ok.exfs b z hb
theorem Inv.step {g':Array GenState}{t':Nat}{d':Drawn}{ch:List Addr}(I:Inv X pins σ H s)
  (hch: ∀ b∈ch,(b∈X.ex\/X.s₀.heap.objs.size<=b)/\b≠X.env.locals/\(∀ x c,X.env.cells.lookup x=some c->c≠b)/\ ∀ p∈X.pn ++ pins,p.1≠b)
  (keep: ∀ b o,b≠X.env.locals->b ∉ X.fs->b ∉ ch->s.heap.get? b=some o->H b=none->h'.get? b=some o)
  (slot: ∀ b o,b≠X.env.locals->b∈X.fs->b ∉ ch->s.heap.get? b=some o->H b=none-> ∃ sl,h'.get? b=some { o with slots:=sl }) (free: ∀ b o,b ∉ ch->s.heap.get? b=some o->H b=none->H' b=none)
  (there: ∀ b o,b ∉ ch->s.heap.get? b=some o-> ∃ o',h'.get? b=some o')
  (tups: ∀ b xs,H b=some (.tup xs)->H' b=some (.tup xs)) (frzs: ∀ b o u,H b=some (.frz o u)->H' b=some (.frz o u)) (tbls: ∀ b ps,H b=some (.tbl ps)-> ∃ more,H' b=some (.tbl (ps ++ more)))
  (ns: ∀ m,s.heap.Ns X.env.locals m->h'.Ns X.env.locals m) (hok:HOk X.prog X.w H' h') (hg:AllBare g'):
  Inv X pins σ H' { s with heap:=h',gens:=g',drawn:=d',toks:=t' }:=by
 have neL: ∀ b o,X.s₀.heap.get? b=some o->b≠X.env.locals:=fun b o e=>Nat.ne_of_lt (Nat.lt_of_lt_of_le (Heap.lt_size e) I.ok.above)
 have neC: ∀ b o,X.s₀.heap.get? b=some o->b ∉ X.ex->b ∉ ch:=fun b o e hx hb=>by
  rcases (hch b hb).1 with z | z
  ·exact hx z
  ·exact absurd (Nat.lt_of_lt_of_le (Heap.lt_size e) z) (Nat.lt_irrefl _)
 have cellK: ∀ x c,X.env.cells.lookup x=some c-> ∀ v,s.heap.IsCell c v->h'.IsCell c v:=fun x c e v ⟨o,ho,hd⟩=>by
  have nch:c ∉ ch:=fun z=>(hch c z).2.2.1 x c e rfl
  by_cases hc:c∈X.fs
  ·obtain ⟨sl,q⟩:=slot c o (I.cne x c e) hc nch ho (I.freeC x c e)
   exact ⟨_,q,hd⟩
  ·exact ⟨o,keep c o (I.cne x c e) hc nch ho (I.freeC x c e),hd⟩
 refine ⟨I.ok,I.os,hg,⟨fun b o e n hb hx=> ?_,fun b o e n hb hx=> ?_,fun b o e n hx=> ?_,fun b o e hx=> ?_,fun b xs e=>tups b xs (I.base.tups b xs e),fun b o xs e=>frzs b o xs (I.base.frzs b o xs e),fun b ps e=> ?_⟩,?_,fun x c e=> ?_,?_,fun x c e=> ?_,fun p hp=> ?_,hok,I.len,I.qd.mono frzs,I.fx⟩
 ·exact keep b o (neL b o e) hb (neC b o e hx) (I.base.keep b o e n hb hx) (I.base.free b o e n hx)
 ·obtain ⟨sl,e1⟩:=I.base.slot b o e n hb hx
  obtain ⟨sl',e2⟩:=slot b _ (neL b o e) hb (neC b o e hx) e1 (I.base.free b o e n hx)
  exact ⟨sl',e2⟩
 ·obtain ⟨o',e1⟩:=I.base.there b o e hx
  exact free b o' (neC b o e hx) e1 (I.base.free b o e n hx)
 ·obtain ⟨o',e1⟩:=I.base.there b o e hx
  exact there b o' (neC b o e hx) e1
 ·obtain ⟨m1,e1⟩:=I.base.tbls b ps e
  obtain ⟨m2,e2⟩:=tbls b _ e1
  exact ⟨m1 ++ m2,by rw[e2,Array.append_assoc]⟩
 ·obtain ⟨m,hn,hl⟩:=I.loc
  refine ⟨m,ns m hn,fun i x v e1 e2 e3=> ?_⟩
  obtain ⟨u,r,l⟩:=hl i x v e1 e2 e3
  refine ⟨u,r,?_⟩
  rcases l with l | ⟨k,c,e,z⟩
  ·exact .inl l
  ·exact .inr ⟨k,c,e,cellK x c e _ z⟩
 ·obtain ⟨v,z⟩:=I.cell x c e
  exact ⟨v,cellK x c e v z⟩
 ·obtain ⟨m,⟨o,_,_,ho,_⟩,_⟩:=I.loc
  exact free _ o (fun z=>(hch _ z).2.1 rfl) ho I.free
 ·obtain ⟨v,o,ho,hd⟩:=I.cell x c e
  exact free c o (fun z=>(hch c z).2.2.1 x c e rfl) ho (I.freeC x c e)
 ·obtain ⟨e,n,ne,nf,d⟩:=I.pin p hp
  have nch:p.1 ∉ ch:=fun z=>(hch p.1 z).2.2.2 p hp rfl
  exact ⟨keep p.1 p.2 ne nf nch e n,free p.1 p.2 nch e n,ne,nf,d⟩
theorem Inv.un {t':Nat}(I:Inv X pins σ H s)(u:Un X.fs [] H H' s.heap h')(hok:HOk X.prog X.w H' h'):Inv X pins σ H' { s with heap:=h',toks:=t' }:=by
 obtain ⟨m,⟨o,es,ep,ho,r⟩,_⟩:=id I.loc
 obtain ⟨sl,hL⟩:=u.any ho I.free (by simp)
 exact I.step (g':=s.gens) (d':=s.drawn) (ch:=[]) (fun _ z=>nomatch z) (fun b o _ hb _ e n=>u.keep b o e n hb (by simp)) (fun b o _ hb _ e n=>u.slot b o e n hb (by simp)) (fun b o _ e n=>u.free b o e n (by simp)) (fun b o _ e=>u.there b o e (by simp)) u.tups u.frzs u.tbls (fun m' hm=>by
  obtain ⟨o',es',ep',ho',r'⟩:=hm
  rw[ho] at ho';cases ho';exact ⟨_,es',ep',hL,r'⟩) hok I.bare
theorem Inv.call {g':Array GenState}{t':Nat}{d':Drawn}{ch:List Addr}(I:Inv X pins σ H s)(u:Un (frs X.stack) ch H H' s.heap h')(hok:HOk X.prog X.w H' h')(hg:AllBare g')
  (hch: ∀ b∈ch,(b∈X.ex\/X.s₀.heap.objs.size<=b)/\b≠X.env.locals/\(∀ x c,X.env.cells.lookup x=some c->c≠b)/\ ∀ p∈X.pn ++ pins,p.1≠b):
  Inv X pins σ H' { s with heap:=h',gens:=g',drawn:=d',toks:=t' }:=by
 obtain ⟨m,⟨o,es,ep,ho,r⟩,_⟩:=id I.loc
 obtain ⟨sl,hL⟩:=u.any ho I.free fun z=>(hch _ z).2.1 rfl
 exact I.step (ch:=ch) hch (fun b o hL hb hc e n=>u.keep b o e n (fun z=>(List.mem_cons.mp (I.stkSub b z)).elim hL hb) hc) (fun b o _ _ hc e n=>u.any e n hc) (fun b o hc e n=>u.free b o e n hc) (fun b o hc e=>u.there b o e hc) u.tups u.frzs u.tbls (fun m' hm=>by
  obtain ⟨o',es',ep',ho',r'⟩:=hm
  rw[ho] at ho';cases ho';exact ⟨_,es',ep',hL,r'⟩) hok hg
theorem Inv.turned {t':Nat}{it:Addr}(I:Inv X pins σ H s)(k: ∀ b o,b≠it->s.heap.get? b=some o->h'.get? b=some o)(hn:H it=none)(hL:it≠X.env.locals)
  (h1:it∈X.ex\/X.s₀.heap.objs.size<=it) (h2: ∀ x c,X.env.cells.lookup x=some c->c≠it) (h3: ∀ p∈X.pn ++ pins,p.1≠it):Inv X pins σ H { s with heap:=h',toks:=t' }:=by
 have nit: ∀ b u,H b=some u->b≠it:=fun b u e z=>by rw[z,hn] at e;cases e
 refine I.step (g':=s.gens) (d':=s.drawn) (ch:=[it]) (fun b hb=> ?_) (fun b o _ _ hc e _=>k b o (fun z=>hc (by simp[z])) e) (fun b o _ _ hc e _=>⟨o.slots,k b o (fun z=>hc (by simp[z])) e⟩) (fun _ _ _ _ n=>n)
  (fun b o hc e=>⟨o,k b o (fun z=>hc (by simp[z])) e⟩) (fun _ _ e=>e) (fun _ _ _ e=>e) (fun b ps e=>⟨#[],by rw[e];simp⟩) (fun m hm=> ?_) (fun b u e=> ?_) I.bare
 ·have e:b=it:=by simpa using hb
  subst e;exact ⟨h1,hL,h2,h3⟩
 ·obtain ⟨o,es,ep,ho,r⟩:=hm
  exact ⟨o,es,ep,k _ o (Ne.symm hL) ho,r⟩
 ·refine (I.hok b u e).stay (fun c v hc q=>k c v ?_ q) (fun _ q=>q) fun _ _ q=>q
  rcases hc with z | z
  ·rw[z];exact nit b u e
  ·exact nit c _ z
theorem Inv.tok (I:Inv X pins σ H s)(t:Nat):Inv X pins σ H { s with toks:=t }:=I.un (h':=s.heap) (t':=t) Un.refl I.hok
theorem Inv.kept {t':Nat}(I:Inv X pins σ H s)(k: ∀ b u,s.heap.get? b=some u->h'.get? b=some u):Inv X pins σ H { s with heap:=h',toks:=t' }:=I.un (Un.kept k) (I.hok.kept k)
theorem Inv.laid {a:Addr}{o:HO}{t':Nat}(I:Inv X pins σ H s)(k: ∀ b u,s.heap.get? b=some u->h'.get? b=some u)(hp:s.heap.objs.size<=a)(new:Za5 X.prog X.w (upd H a o) h' a o):
  Inv X pins σ (upd H a o) { s with heap:=h',toks:=t' }:=I.un (Un.laid k hp (I.hok.fresh hp)) (I.hok.laid k hp new)
theorem Inv.write {x e:Addr}{o:HO}{t':Nat}(I:Inv X pins σ H s)(mu:Mut (H x))(he:e=x\/H e=some (.own x))(k: ∀ b u,b≠e->s.heap.get? b=some u->h'.get? b=some u)(heo: ∃ u,h'.get? e=some u)
  (new:Za5 X.prog X.w (upd H x o) h' x o):Inv X pins σ (upd H x o) { s with heap:=h',toks:=t' }:=I.un (Un.write mu he k heo) (I.hok.write mu he k heo new)
theorem Inv.pins_of {pins':List (Addr × Obj)}(I:Inv X pins σ H s)(h: ∀ p∈pins',s.heap.get? p.1=some p.2/\H p.1=none/\p.1≠X.env.locals/\p.1 ∉ X.fs/\ ∀ v,p.2.data≠ .cell v):Inv X pins' σ H s:=
 ⟨I.ok,I.os,I.bare,I.base,I.loc,I.cell,I.free,I.freeC,fun p hp=>(List.mem_append.mp hp).elim (fun z=>I.pin p (List.mem_append_left _ z)) (h p),I.hok,I.len,I.qd,I.fx⟩
theorem ZeA {N:List Str}(hN:N.Nodup){i j:Nat}{x:Str}(a:N[i]?=some x)(b:N[j]?=some x):i=j:=by
 obtain ⟨h1,e1⟩:=List.getElem?_eq_some_iff.mp a
 obtain ⟨h2,e2⟩:=List.getElem?_eq_some_iff.mp b
 exact (List.getElem_inj hN).mp (e1.trans e2.symm)
theorem Zdb {M:Model}{A:Around}{E:Value->Shared->Prop}{i:Nat}{x:Str}{v:V}{u:Value}{Q:Unit->Shared->Prop}(I:Inv X pins σ H s)(hN:X.N.Nodup)(hi:X.N[i]?=some x)(hx:Loc X.env.scope x)(hm:X.may i=true)(r:ZX v u)
  (h: ∀ s',Inv X pins (σ.set i (some v)) H s'->(∃ a,Heap.SameBut a s.heap s'.heap/\(a=X.env.locals\/X.env.cells.lookup x=some a))->Q () s') (hf:X.fn x=true\/X.env.scope.names.lookup x=some .local:=by first | exact .inl rfl | exact .inr rfl | assumption):wpAny M A (storeName X.env x u) Q E s:=by
 obtain ⟨m,hn,hl⟩:=id I.loc
 have hcls:(X.env.scope.kind == .class || (X.env.scope.kind == .module && X.env.locals != X.env.globals))=false:=by rw[I.ok.kind];rfl
 have hiσ:i < σ.length:=by rw[I.len];exact (List.getElem?_eq_some_iff.mp hi).1
 have cne:=I.cne
 have tracked: ∀ {a:Addr} {h':Heap},(∃ o,s.heap.get? a=some o/\H a=none)->Heap.SameBut a s.heap h'->HOk X.prog X.w H h':=fun {a h'} ha hs b ob e=>by
  obtain ⟨_,_,hfree⟩:=ha
  refine (I.hok b ob e).stay (fun c w' hc q=>(hs.2 c ?_).trans q) (fun _ q=>q) fun _ _ q=>q
  rintro rfl
  rcases hc with rfl | hc
  ·rw[hfree] at e;cases e
  ·rw[hfree] at hc;cases hc
 rcases hx with hk | hk
 ·refine wpAny_storeName_local hk hn (fun h' hn' hs=> ?_) hcls
  obtain ⟨oL,_,_,hoL,_⟩:=id hn
  refine h _ ⟨I.ok,I.os,I.bare,⟨fun b o e n hb hx=> ?_,fun b o e n hb hx=> ?_,I.base.free,fun b o e hx=> ?_,I.base.tups,I.base.frzs,I.base.tbls⟩,⟨_,hn',fun j y v' e1 e2 e3=> ?_⟩,fun y c e=> ?_,I.free,I.freeC,fun p hp=> ?_,tracked ⟨oL,hoL,I.free⟩ hs,by simpa using I.len,I.qd,I.fx.set hm⟩ ⟨_,hs,.inl rfl⟩
  ·exact (hs.2 b (Nat.ne_of_lt (Nat.lt_of_lt_of_le (Heap.lt_size e) I.ok.above))).trans (I.base.keep b o e n hb hx)
  ·obtain ⟨sl,e1⟩:=I.base.slot b o e n hb hx
   exact ⟨sl,(hs.2 b (Nat.ne_of_lt (Nat.lt_of_lt_of_le (Heap.lt_size e) I.ok.above))).trans e1⟩
  ·obtain ⟨o',e1⟩:=I.base.there b o e hx
   exact ⟨o',(hs.2 b (Nat.ne_of_lt (Nat.lt_of_lt_of_le (Heap.lt_size e) I.ok.above))).trans e1⟩
  ·by_cases hj:j=i
   ·subst hj
    rw[hi] at e1;cases e1;rw[List.getElem?_set_self hiσ] at e2
    cases e2
    exact ⟨u,r,.inl ⟨hk,by simp⟩⟩
   ·rw[List.getElem?_set_ne (Ne.symm hj)] at e2
    obtain ⟨u',r',q⟩:=hl j y v' e1 e2 e3
    refine ⟨u',r',?_⟩
    rcases q with ⟨k,e⟩ | ⟨k,c,e,z⟩
    ·refine .inl ⟨k,?_⟩
     have:y≠x:=fun e=>hj (ZeA hN e1 (e ▸ hi))
     simp[this,e]
    ·exact .inr ⟨k,c,e,z.sameBut hs (cne y c e)⟩
  ·obtain ⟨w',z⟩:=I.cell y c e
   exact ⟨w',z.sameBut hs (cne y c e)⟩
  ·obtain ⟨e,n,ne,nf,d⟩:=I.pin p hp
   exact ⟨(hs.2 p.1 ne).trans e,n,ne,nf,d⟩
 ·have hfn:X.fn x=true:=by
   rcases hf with z | z
   ·exact z
   ·rw[z] at hk;cases hk
  obtain ⟨c,hc⟩:=I.ok.has x (.inl hk)
  obtain ⟨w',z⟩:=I.cell x c hc
  refine wpAny_storeName_cell I.ok.kind hk hc z (fun h' hc' hs=> ?_)
  obtain ⟨oc,hoc,hocd⟩:=id z
  refine h { s with heap:=h' } ⟨I.ok,I.os,I.bare,⟨fun b o e n hb hx=> ?_,fun b o e n hb hx=> ?_,I.base.free,fun b o e hx=> ?_,I.base.tups,I.base.frzs,I.base.tbls⟩,⟨m,hn.sameBut hs (Ne.symm (cne x c hc)),fun j y v' e1 e2 e3=> ?_⟩,fun y c' e=> ?_,I.free,I.freeC,fun p hp=> ?_,tracked ⟨oc,hoc,I.freeC x c hc⟩ hs,by simpa using I.len,I.qd,I.fx.set hm⟩ ⟨c,hs,.inr hc⟩
  ·exact (hs.2 b (Nat.ne_of_lt (Nat.lt_of_lt_of_le (Heap.lt_size e) (I.ok.cab x c hfn hc)))).trans (I.base.keep b o e n hb hx)
  ·obtain ⟨sl,e1⟩:=I.base.slot b o e n hb hx
   exact ⟨sl,(hs.2 b (Nat.ne_of_lt (Nat.lt_of_lt_of_le (Heap.lt_size e) (I.ok.cab x c hfn hc)))).trans e1⟩
  ·obtain ⟨o',e1⟩:=I.base.there b o e hx
   exact ⟨o',(hs.2 b (Nat.ne_of_lt (Nat.lt_of_lt_of_le (Heap.lt_size e) (I.ok.cab x c hfn hc)))).trans e1⟩
  ·by_cases hj:j=i
   ·subst hj
    rw[hi] at e1;cases e1;rw[List.getElem?_set_self hiσ] at e2
    cases e2
    exact ⟨u,r,.inr ⟨.inl hk,c,hc,hc'⟩⟩
   ·rw[List.getElem?_set_ne (Ne.symm hj)] at e2
    obtain ⟨u',r',q⟩:=hl j y v' e1 e2 e3
    refine ⟨u',r',?_⟩
    rcases q with q | ⟨k,c',e,z'⟩
    ·exact .inl q
    ·refine .inr ⟨k,c',e,z'.sameBut hs ?_⟩
     rintro rfl
     exact hj (ZeA hN e1 (I.ok.inj _ _ _ e hc ▸ hi))
  ·by_cases hcc:c'=c
   ·subst hcc;exact ⟨_,hc'⟩
   ·obtain ⟨w2,z2⟩:=I.cell y c' e
    exact ⟨w2,z2.sameBut hs hcc⟩
  ·obtain ⟨e,n,ne,nf,d⟩:=I.pin p hp
   refine ⟨(hs.2 p.1 ?_).trans e,n,ne,nf,d⟩
   intro q;rw[q,hoc] at e;have q':oc=p.2:=Option.some.inj e
   exact d w' (by rw[<- q'];exact hocd)
theorem Zb2 {M:Model}{A:Around}{E:Value->Shared->Prop}{i:Nat}{x:Str}{v:V}{u:Value}{Q:Unit->Shared->Prop}(I:Inv X pins σ H s)(hN:X.N.Nodup)(hi:X.N[i]?=some x)(hx:Loc X.env.scope x)(hm:X.may i=true)(r:ZX v u)
  (h: ∀ s',Inv X pins (σ.set i (some v)) H s'->Q () s') (hf:X.fn x=true\/X.env.scope.names.lookup x=some .local:=by first | exact .inl rfl | exact .inr rfl | assumption):wpAny M A (storeName X.env x u) Q E s:=
 Zdb I hN hi hx hm r (fun s' I' _=>h s' I') hf
theorem Inv.call' {s':Shared}{ch:List Addr}(I:Inv X pins σ H s)(ho:s'.os=s.os)(u:Un (frs X.stack) ch H H' s.heap s'.heap)(hok:HOk X.prog X.w H' s'.heap)(hg:AllBare s'.gens)
  (hch: ∀ b∈ch,(b∈X.ex\/X.s₀.heap.objs.size<=b)/\b≠X.env.locals/\(∀ x c,X.env.cells.lookup x=some c->c≠b)/\ ∀ p∈X.pn ++ pins,p.1≠b):Inv X pins σ H' s':=by
 obtain ⟨h',g',d',t',o'⟩:=s'
 have e:o'=s.os:=ho
 subst e;exact I.call (g':=g') (t':=t') (d':=d') u hok hg hch
end
noncomputable abbrev XK:=Value->Option Addr->Hp->Prop
noncomputable abbrev St:=List (Option V)
noncomputable abbrev VK:=V->Hp->Prop
noncomputable abbrev TE:=St->Hp->VK->Prop
noncomputable abbrev TT:=St->Hp->(Bool->Hp->Prop)->Prop
noncomputable abbrev TA:=St->Hp->(List V->Hp->Prop)->Prop
structure Ends where
 nx:St->Hp->Prop
 rt:VK
 bk:St->Hp->Prop:=fun _ _=>False
 ct:St->Hp->Prop:=fun _ _=>False
noncomputable abbrev TS:=Ends->St->Hp->Prop
noncomputable def EP (X:Cx)(pins:List (Addr × Obj))(σ:St)(Q:VK)(u:Value)(s':Shared):Prop:= ∃ v H',Inv X pins σ H' s'/\ZX v u/\Q v H'
noncomputable def TP (X:Cx)(pins:List (Addr × Obj))(σ:St)(Q:Bool->Hp->Prop)(b:Bool)(s':Shared):Prop:= ∃ H',Inv X pins σ H' s'/\Q b H'
noncomputable def AP (X:Cx)(pins:List (Addr × Obj))(σ:St)(Q:List V->Hp->Prop)(us:List Value)(s':Shared):Prop:= ∃ vs H',Inv X pins σ H' s'/\ZK vs us/\Q vs H'
noncomputable def SP (X:Cx)(pins:List (Addr × Obj))(D:Ends)(f:Flow)(s':Shared):Prop:=
 match f with
 | .next=> ∃ σ' H',Inv X pins σ' H' s'/\D.nx σ' H'
 | .brk=> ∃ σ' H',Inv X pins σ' H' s'/\D.bk σ' H'
 | .cont=> ∃ σ' H',Inv X pins σ' H' s'/\D.ct σ' H'
 | .ret u=> ∃ v σ' H',Inv X pins σ' H' s'/\ZX v u/\D.rt v H'
noncomputable def PE (X:Cx)(e:Expr)(t:TE):Prop:=
 ∀ (pins:List (Addr × Obj)) (s:Shared) (σ:St) (H:Hp) (Q:VK),Inv X pins σ H s->t σ H Q->wpAny (model X.prog X.w) X.A (eval e X.env) (EP X pins σ Q) X.xe s
noncomputable def PT (X:Cx)(e:Expr)(t:TT):Prop:=
 ∀ (pins:List (Addr × Obj)) (s:Shared) (σ:St) (H:Hp) (Q:Bool->Hp->Prop),Inv X pins σ H s->t σ H Q->wpAny (model X.prog X.w) X.A (isTrue e X.env (eval e X.env)) (TP X pins σ Q) X.xe s
noncomputable def PW (X:Cx)(e:Expr)(t:TT):Prop:=
 ∀ (whole:Sem Value) (pins:List (Addr × Obj)) (s:Shared) (σ:St) (H:Hp) (Q:Bool->Hp->Prop),Inv X pins σ H s->t σ H Q->wpAny (model X.prog X.w) X.A (isTrue e X.env whole) (TP X pins σ Q) X.xe s
theorem PW.pt {X:Cx}{e:Expr}{t:TT}(h:PW X e t):PT X e t:=h _
noncomputable def PA (X:Cx)(es:List Expr)(t:TA):Prop:=
 ∀ (pos:Pos) (pins:List (Addr × Obj)) (s:Shared) (σ:St) (H:Hp) (Q:List V->Hp->Prop),Inv X pins σ H s->t σ H Q->wpAny (model X.prog X.w) X.A (spliced (backTo pos (starEach es X.env))) (AP X pins σ Q) X.xe s
noncomputable def PS (X:Cx)(st:Stmt)(t:TS):Prop:=
 ∀ (pins:List (Addr × Obj)) (s:Shared) (σ:St) (H:Hp) (D:Ends),Inv X pins σ H s->t D σ H->wpAny (model X.prog X.w) X.A (exec st X.env) (SP X pins D) X.xe s
noncomputable def PSs (X:Cx)(st:List Stmt)(t:TS):Prop:=
 ∀ (pins:List (Addr × Obj)) (s:Shared) (σ:St) (H:Hp) (D:Ends),Inv X pins σ H s->t D σ H->wpAny (model X.prog X.w) X.A (execs st X.env) (SP X pins D) X.xe s
theorem thn {α:Type}{t:Sem α}{Q Q':α->Shared->Prop}{M:Model}{A:Around}{E:Value->Shared->Prop}{s:Shared}(h:wpAny M A t Q E s)(hQ: ∀ a s,Q a s->Q' a s):wpAny M A t Q' E s:=wpAny_mono h hQ fun _ _ x=>x
end L2
namespace L2
open PySem PySem.Spec PyProof.Rows
section
variable {X:Cx}
theorem bin {a b:Expr}{ta tb:TE}(ha:PE X a ta)(hb:PE X b tb){pins:List (Addr × Obj)}{s:Shared}{σ:St}{H:Hp}{R:V->V->Hp->Prop}(I:Inv X pins σ H s)(h:ta σ H fun x H1=>tb σ H1 fun y H2=>R x y H2)
  {α:Type} {Q:α->Shared->Prop} {f:Value->Value->Sem α}
  (hf: ∀ v u s2 x y H2,Inv X pins σ H2 s2->ZX x v->ZX y u->R x y H2->wpAny (model X.prog X.w) X.A (f v u) Q X.xe s2):
  wpAny (model X.prog X.w) X.A (eval a X.env) (fun v s₁=>wpAny (model X.prog X.w) X.A (eval b X.env) (fun u s₂=>wpAny (model X.prog X.w) X.A (f v u) Q X.xe s₂) X.xe s₁) X.xe s:=by
 refine thn (ha pins s σ H _ I h) fun v s1 ⟨x,H1,I1,r1,q1⟩=> ?_
 refine thn (hb pins s1 σ H1 _ I1 q1) fun u s2 ⟨y,H2,I2,r2,q2⟩=> ?_
 exact hf v u s2 x y H2 I2 r1 r2 q2
noncomputable def ZrT (i:Nat):TE:=fun σ H Q=> ∃ v,σ[i]?=some (some v)/\Q v H
noncomputable def tC (v:V):TE:=fun _ H Q=>Q v H
theorem ZbO {i:Nat}{x:Str}{pos:Pos}(hN:X.N[i]?=some x)(hv:Vis X.env.scope x)(hd:(x == ("__debug__":Str))=false:=by decide)(hcd:(x == ("__classdict__":Str))=false:=by decide):PE X (.Name x pos) (ZrT i):=by
 intro pins s σ H Q I h;obtain ⟨v,e,h⟩:=h
 obtain ⟨m,hn,hl⟩:=I.loc
 obtain ⟨u,r,l⟩:=hl i x v hN e hv
 have fin:EP X pins σ Q u s:=⟨v,H,I,r,h⟩
 rcases l with ⟨hk,hm⟩ | ⟨hk,c,hc,hcell⟩
 ·exact wpAny_Name (wpAny_loadName_local I.ok.kind hk hn hm fin) hd
 ·rcases hk with hk | hk
  ·exact wpAny_Name (wpAny_loadName_cell I.ok.kind hk hc hcell fin) hd
  ·exact wpAny_Name (wpAny_loadName_free I.ok.kind hk hc hcell fin hcd) hd
theorem ZiQ {i j pos}:PE X (.Constant (.int i) j pos) (tC (.int i)):=fun _ _ _ H _ I h=>wpAny_Constant_int ⟨.int i,H,I.tok _,⟨_,rfl⟩,h⟩
theorem ZoD {b j pos}:PE X (.Constant (.bool b) j pos) (tC (.bl b)):=fun _ _ _ H _ I h=>Constant_bool ⟨.bl b,H,I,rfl,h⟩
theorem ZfM {x j pos}:PE X (.Constant (.str x) j pos) (tC (.str x)):=fun _ _ _ H _ I h=>Calls.Constant_str ⟨.str x,H,I.tok _,⟨_,rfl⟩,h⟩
noncomputable def Gl (X:Cx)(x:Str):Prop:=X.env.kindOf x=some .globalImplicit
theorem ZcL {E:Value->Shared->Prop}{pins:List (Addr × Obj)}{s:Shared}{σ:St}{H:Hp}{x:Str}{u:Value}{pos:Pos}{Q:Value->Shared->Prop}(I:Inv X pins σ H s)(hg:Gl X x)(hm:X.mg x=some u)(h:Q u s)
  (hd:(x == ("__debug__":Str))=false:=by decide):wpAny (model X.prog X.w) X.A (eval (.Name x pos) X.env) Q E s:=
 Calls.Name_function_global I.ok.kind hg (Calls.loadGlobal_global (by rw[I.ok.glob];exact I.mod.glob.keeps I.bk) hm h) hd
theorem Zdc {E:Value->Shared->Prop}{pins:List (Addr × Obj)}{s:Shared}{σ:St}{H:Hp}{x:Str}{u:Value}{pos:Pos}{Q:Value->Shared->Prop}(I:Inv X pins σ H s)(hg:Gl X x)(hm:X.mg x=none)(hv:bootBuiltins x=some u)(h:Q u s)
  (hn:x≠"__name__":=by decide) (hd:(x == ("__debug__":Str))=false:=by decide):wpAny (model X.prog X.w) X.A (eval (.Name x pos) X.env) Q E s:=by
 obtain ⟨mb,h1,h2⟩:=I.mod.blt
 exact Calls.Name_function_global I.ok.kind hg (Calls.loadGlobal_builtin (by rw[I.ok.glob];exact I.mod.glob.keeps I.bk) hm (by rw[I.ok.blt];exact h1.keeps I.bk) ((h2 x hn).trans hv) h) hd
theorem ZjD {x:Str}{v:V}{u:Value}{pos:Pos}(hg:Gl X x)(hm:X.mg x=none)(hv:bootBuiltins x=some u)(r:ZX v u)(hn:x≠"__name__":=by decide)(hd:(x == ("__debug__":Str))=false:=by decide):PE X (.Name x pos) (tC v):=
 fun _ _ _ H _ I h=>Zdc I hg hm hv ⟨v,H,I,r,h⟩ hn hd
variable {a b:Expr}{ta tb:TE}{pos:Pos}
noncomputable def PC (X:Cx)(op:CmpOp)(a b:Expr)(t:TE):Prop:=
 ∀ (pins:List (Addr × Obj)) (s:Shared) (σ:St) (H:Hp) (Q:VK),Inv X pins σ H s->t σ H Q->
  wpAny (model X.prog X.w) X.A (eval a X.env) (fun v s₁=>wpAny (model X.prog X.w) X.A (eval b X.env) (fun u s₂=>wpAny (model X.prog X.w) X.A (compareOp op v u) (EP X pins σ Q) X.xe s₂) X.xe s₁) X.xe s
theorem ZhN (b:Expr){op:CmpOp}(h:op≠ .In)(h2:op≠ .NotIn):behindInMarks op b=false:=by
 have e1:(op == CmpOp.In)=false:=by cases op<;>first | rfl | exact absurd rfl h
 have e2:(op == CmpOp.NotIn)=false:=by cases op<;>first | rfl | exact absurd rfl h2
 cases b<;>simp[behindInMarks,e1,e2]
noncomputable def tB (t:TE):TT:=fun σ H Q=>t σ H fun x H1=> ∃ c,x= .bl c/\Q c H1
theorem ZqN {op:CmpOp}{t:TE}(h:PC X op a b t)(h1:behindInMarks op b=false:=by first | exact ZhN _ (by decide) (by decide) | rfl):PT X (.Compare a [op] [b] pos) (tB t):=by
 intro pins s σ H Q I hw;refine wpAny_isTrue_Compare1 (thn (h pins s σ H _ I hw) fun v s1 h1=>thn h1 fun u s2 h2=>thn h2 fun c s3 ⟨x,H1,I1,r1,q1⟩=> ?_) h1
 obtain ⟨d,rfl,q⟩:=q1
 cases r1
 exact wpAny_truthy_bool ⟨H1,I1,q⟩
theorem Zlp {e:Expr}{t:TE}(h:PE X e t)(he: ∀ whole,isTrue e X.env whole=(do let v <- whole;standAt e.pos;holding [v] (truthy v)):=by intro _;rfl):PT X e (tB t):=by
 intro pins s σ H Q I hw;refine isTrue_plain (thn (h pins s σ H _ I hw) fun v s1 ⟨x,H1,I1,r1,q1⟩=> ?_) (he _)
 obtain ⟨d,rfl,q⟩:=q1
 cases r1
 exact wpAny_truthy_bool ⟨H1,I1,q⟩
variable {tA tB':TT}{rest:List Expr}
noncomputable def ZrU (t u:TT):TT:=fun σ H Q=>t σ H fun c H1=>if c=true then u σ H1 Q else Q false H1
noncomputable def tOr (t u:TT):TT:=fun σ H Q=>t σ H fun c H1=>if c=true then Q true H1 else u σ H1 Q
noncomputable def ZrV (t:TT):TT:=fun σ H Q=>t σ H fun c H1=>Q (!c) H1
theorem pw_and1 (ha:PT X a tA):PW X (.BoolOp .And [a] pos) tA:=by
 intro wh pins s σ H Q I h;refine isTrue_and (thn (ha pins s σ H Q I h) fun c s1 e=> ?_)
 cases c with
 |true=>exact isTrue_and_nil e
 |false=>exact e
theorem pw_or1 (ha:PT X a tA):PW X (.BoolOp .Or [a] pos) tA:=by
 intro wh pins s σ H Q I h;refine isTrue_or (thn (ha pins s σ H Q I h) fun c s1 e=> ?_)
 cases c with
 |false=>exact isTrue_or_nil e
 |true=>exact e
theorem pw_and (ha:PT X a tA)(hb:PW X (.BoolOp .And (b :: rest) pos) tB'):PW X (.BoolOp .And (a :: b :: rest) pos) (ZrU tA tB'):=by
 intro wh pins s σ H Q I h;refine isTrue_and (thn (ha pins s σ H _ I h) fun c s1 ⟨H1,I1,q1⟩=> ?_)
 cases c with
 |true=>exact hb wh pins s1 σ H1 Q I1 q1
 |false=>exact ⟨H1,I1,q1⟩
theorem pw_or (ha:PT X a tA)(hb:PW X (.BoolOp .Or (b :: rest) pos) tB'):PW X (.BoolOp .Or (a :: b :: rest) pos) (tOr tA tB'):=by
 intro wh pins s σ H Q I h;refine isTrue_or (thn (ha pins s σ H _ I h) fun c s1 ⟨H1,I1,q1⟩=> ?_)
 cases c with
 |true=>exact ⟨H1,I1,q1⟩
 |false=>exact hb wh pins s1 σ H1 Q I1 q1
theorem Zlq (ha:PT X a tA):PT X (.UnaryOp .Not a pos) (ZrV tA):=by
 intro pins s σ H Q I h;exact isTrue_not (ha pins s σ H (fun c H1=>Q (!c) H1) I h)
noncomputable def ZoE (ta tb:TE):TE:=fun σ H Q=>ta σ H fun x H1=> ∃ c,x= .bl c/\if c=true then tb σ H1 Q else Q (.bl false) H1
noncomputable def ZrW (ta tb:TE):TE:=fun σ H Q=>ta σ H fun x H1=> ∃ c,x= .bl c/\if c=true then Q (.bl true) H1 else tb σ H1 Q
noncomputable def ZoF (ta:TE):TE:=fun σ H Q=>ta σ H fun x H1=> ∃ c,x= .bl c/\Q (.bl (!c)) H1
theorem Zlr {op}{t:TE}(h:PE X a t):PE X (.BoolOp op [a] pos) t:=fun pins s σ H Q I hw=>BoolOp_one (h pins s σ H Q I hw)
theorem Zls (ha:PE X a ta)(hb:PE X (.BoolOp .And (b :: rest) pos) tb):PE X (.BoolOp .And (a :: b :: rest) pos) (ZoE ta tb):=by
 intro pins s σ H Q I h;refine BoolOp_and (thn (ha pins s σ H _ I h) fun v s1 ⟨x,H1,I1,r1,q1⟩=> ?_)
 obtain ⟨c,rfl,q1⟩:=q1
 cases r1
 refine wpAny_truthy_bool ?_
 cases c with
 |true=>exact hb pins s1 σ H1 Q I1 q1
 |false=>exact ⟨.bl false,H1,I1,rfl,q1⟩
theorem ZoG (ha:PE X a ta)(hb:PE X (.BoolOp .Or (b :: rest) pos) tb):PE X (.BoolOp .Or (a :: b :: rest) pos) (ZrW ta tb):=by
 intro pins s σ H Q I h;refine BoolOp_or (thn (ha pins s σ H _ I h) fun v s1 ⟨x,H1,I1,r1,q1⟩=> ?_)
 obtain ⟨c,rfl,q1⟩:=q1
 cases r1
 refine wpAny_truthy_bool ?_
 cases c with
 |false=>exact hb pins s1 σ H1 Q I1 q1
 |true=>exact ⟨.bl true,H1,I1,rfl,q1⟩
theorem Zlt (ha:PE X a ta):PE X (.UnaryOp .Not a pos) (ZoF ta):=by
 intro pins s σ H Q I h;refine UnaryOp_ (thn (ha pins s σ H _ I h) fun v s1 ⟨x,H1,I1,r1,q1⟩=> ?_)
 obtain ⟨c,rfl,q1⟩:=q1
 cases r1
 exact not_of (wpAny_truthy_bool ⟨.bl (!c),H1,I1,rfl,q1⟩)
noncomputable def tIf (t:TT)(ta tb:TE):TE:=fun σ H Q=>t σ H fun c H1=>if c=true then ta σ H1 Q else tb σ H1 Q
theorem ZhO {c:Expr}(hc:PT X c tA)(ha:PE X a ta)(hb:PE X b tb):PE X (.IfExp c a b pos) (tIf tA ta tb):=by
 intro pins s σ H Q I h;refine wpAny_IfExp (thn (hc pins s σ H _ I h) fun d s1 ⟨H1,I1,q1⟩=> ?_)
 cases d with
 |true=>exact ha pins s1 σ H1 Q I1 q1
 |false=>exact hb pins s1 σ H1 Q I1 q1
end
end L2
namespace L2
open PySem PySem.Spec PyProof.Rows
noncomputable def SqL (K:PySem.W.Frag)(H:Hp)(a:Addr)(xs:List V):Prop:=
 Rd H a (.lst xs)\/
  ∃ (o:Obj) (its:Array Value) (n:Nat),K.lookup a=some o/\o.cls= .type "list"/\o.dict=none/\o.data= .seq its n/\its.size<=sizeLine/\ZK xs its.toList
noncomputable def SqT (K:PySem.W.Frag)(H:Hp)(a:Addr)(xs:List V):Prop:=
 Rd H a (.tup xs)\/
  ∃ (o:Obj) (its:Array Value) (n:Nat),K.lookup a=some o/\o.cls= .type "tuple"/\o.data= .seq its n/\its.size<=sizeLine/\ZK xs its.toList
noncomputable def ZrX:Value->Option V
 | .none=>some .non
 | .bool b=>some (.bl b)
 | .int i _=>some (.int i)
 | .str x _=>some (.str x)
 | .bytes b _=>some (.byt b)
 | .float b _=>some (.flt b)
 | .ref a=>some (.ref a)
 | .type n=>some (.ty n)
 |_=>none
theorem ZX.abs {x:V}{u:Value}(r:ZX x u):ZrX u=some x:=by
 cases x with
 |non=>cases r;rfl
 |bl _=>cases r;rfl
 |int _=>obtain ⟨t,rfl⟩:=r;rfl
 |str _=>obtain ⟨t,rfl⟩:=r;rfl
 |byt _=>obtain ⟨t,rfl⟩:=r;rfl
 |flt _=>obtain ⟨t,rfl⟩:=r;rfl
 |ref _=>cases r;rfl
 |ty _=>cases r;rfl
theorem ZX.inj {x y:V}{u:Value}(r:ZX x u)(q:ZX y u):x=y:=Option.some.inj (r.abs.symm.trans q.abs)
theorem ZK.inj: ∀ {xs ys:List V} {us:List Value},ZK xs us->ZK ys us->xs=ys
 |_,_,_,.nil,.nil=>rfl
 |_,_,_,.cons r t,.cons r' t'=>by rw[r.inj r',ZK.inj t t']
section
variable {X:Cx}{pins:List (Addr × Obj)}{σ:St}{H:Hp}{s:Shared}{a:Addr}{xs ys:List V}
theorem SqL.of {K:PySem.W.Frag}(h:H a=some (.lst xs)):SqL K H a xs:= .inl (.inl h)
theorem SqT.of {K:PySem.W.Frag}(h:H a=some (.tup xs)):SqT K H a xs:= .inl (.inl h)
theorem Inv.list (I:Inv X pins σ H s)(h:SqL X.K H a xs): ∃ its:List Value,ZK xs its/\PlainL s.heap a its.toArray/\xs.length<=sizeLine:=by
 rcases h with h | ⟨o,its,n,hk,hc,hd,hs,hz,r⟩
 ·obtain ⟨z,its,n,r,e⟩:=h.ok I.hok
  exact ⟨its,r,⟨_,n,e,rfl,rfl,rfl⟩,z⟩
 ·refine ⟨its.toList,r,⟨o,n,I.kIn a o hk,hc,hd,by simpa using hs⟩,?_⟩
  have e:=r.length
  simp only[Array.length_toList] at e;omega
theorem Inv.tuple (I:Inv X pins σ H s)(h:SqT X.K H a xs): ∃ its:List Value,ZK xs its/\IsTup s.heap a its.toArray/\xs.length<=sizeLine:=by
 rcases h with h | ⟨o,its,n,hk,hc,hs,hz,r⟩
 ·obtain ⟨z,its,r,p⟩:=h.ok I.hok
  exact ⟨its,r,p,z⟩
 ·refine ⟨its.toList,r,⟨o,I.kIn a o hk,hc,n,by simpa using hs⟩,?_⟩
  have e:=r.length
  simp only[Array.length_toList] at e;omega
theorem Inv.list_inj (I:Inv X pins σ H s)(h:SqL X.K H a xs)(h':SqL X.K H a ys):xs=ys:=by
 obtain ⟨its,r,⟨o,n,e,_,_,d⟩,_⟩:=I.list h
 obtain ⟨its',r',⟨o',n',e',_,_,d'⟩,_⟩:=I.list h'
 rw[e] at e';cases e';rw[d] at d'
 injection d' with d1 _
 have:its=its':=by simpa using congrArg Array.toList d1
 subst this;exact r.inj r'
theorem Inv.tuple_inj (I:Inv X pins σ H s)(h:SqT X.K H a xs)(h':SqT X.K H a ys):xs=ys:=by
 obtain ⟨its,r,⟨o,e,_,n,d⟩,_⟩:=I.tuple h
 obtain ⟨its',r',⟨o',e',_,n',d'⟩,_⟩:=I.tuple h'
 rw[e] at e';cases e';rw[d] at d'
 injection d' with d1 _
 have:its=its':=by simpa using congrArg Array.toList d1
 subst this;exact r.inj r'
end
section
variable {X:Cx}{pins:List (Addr × Obj)}{σ:St}{H:Hp}{s:Shared}{E:Value->Shared->Prop}
end
section
variable {X:Cx}{st:Stmt}{rest:List Stmt}{t u:TS}{e:Expr}{te:TE}{pos:Pos}
noncomputable def tNext:TS:=fun D σ H=>D.nx σ H
noncomputable def ZoH (t u:TS):TS:=fun D σ H=>t { D with nx:=u D } σ H
theorem ZjE:PSs X [] tNext:=fun _ _ σ H _ I h=>wpAny_execs_nil ⟨σ,H,I,h⟩
theorem ZcM (h1:PS X st t)(h2:PSs X rest u):PSs X (st :: rest) (ZoH t u):=by
 intro pins s σ H D I h;refine wpAny_execs_cons (thn (h1 pins s σ H { D with nx:=u D } I h) fun f s1 q=> ?_)
 cases f with
 |next=>
  obtain ⟨σ',H',I',q⟩:=q
  exact h2 pins s1 σ' H' D I' q
 |ret v=>exact q
 |brk=>exact q
 |cont=>exact q
theorem ZfN (h1:PS X st t):PSs X [st] t:=by
 intro pins s σ H D I h;refine wpAny_execs_cons (thn (h1 pins s σ H D I h) fun f s1 q=> ?_)
 cases f with
 |next=>exact wpAny_execs_nil q
 |ret v=>exact q
 |brk=>exact q
 |cont=>exact q
theorem Inv.quiet {pins:List (Addr × Obj)}{σ:St}{H:Hp}{s:Shared}(I:Inv X pins σ H s):interactive X.env=false:=by simp[interactive,I.ok.kind]
noncomputable def Zlu (te:TE):TS:=fun D σ H=>te σ H fun _ H1=>D.nx σ H1
theorem ZfO (he:PE X e te)(hs:swapsWith e none pos.line X.env=pure false:=by rfl):PS X (.Expr e pos) (Zlu te):=by
 intro pins s σ H D I h;exact wpAny_Expr_any (thn (he pins s σ H _ I h) fun v s1 ⟨x,H1,I1,r1,q1⟩=>⟨σ,H1,I1,q1⟩) I.quiet hs
noncomputable def ZrY (te:TE):TS:=fun D σ H=>te σ H D.rt
theorem Zlv (he:PE X e te):PS X (.Return (some e) pos) (ZrY te):=by
 intro pins s σ H D I h;exact wpAny_Return_some (thn (he pins s σ H _ I h) fun v s1 ⟨x,H1,I1,r1,q1⟩=>⟨x,σ,H1,I1,r1,q1⟩)
noncomputable def ZrZ (c:TT)(t u:TS):TS:=fun D σ H=>c σ H fun b H1=>if b=true then t D σ H1 else u D σ H1
theorem ZoI {c:Expr}{a b:List Stmt}{tc:TT}(hc:PT X c tc)(ha:PSs X a t)(hb:PSs X b u):PS X (.If c a b pos) (ZrZ tc t u):=by
 intro pins s σ H D I h;refine wpAny_If (thn (hc pins s σ H _ I h) fun d s1 ⟨H1,I1,q1⟩=> ?_)
 cases d with
 |true=>exact ha pins s1 σ H1 D I1 q1
 |false=>exact hb pins s1 σ H1 D I1 q1
end
noncomputable abbrev TG:=V->St->Hp->(St->Hp->Prop)->Prop
noncomputable abbrev TGs:=List V->St->Hp->(St->Hp->Prop)->Prop
noncomputable def PG (X:Cx)(target:Expr)(t:TG):Prop:=
 ∀ (pins:List (Addr × Obj)) (s:Shared) (σ:St) (H:Hp) (v:V) (u:Value) (Q:St->Hp->Prop),Inv X pins σ H s->ZX v u->t v σ H Q->
  wpAny (model X.prog X.w) X.A (assign target X.env u) (fun _ s'=> ∃ σ' H',Inv X pins σ' H' s'/\Q σ' H') X.xe s
noncomputable def PGs (X:Cx)(ts:List Expr)(t:TGs):Prop:=
 ∀ (pins:List (Addr × Obj)) (s:Shared) (σ:St) (H:Hp) (vs:List V) (us:List Value) (Q:St->Hp->Prop),Inv X pins σ H s->ZK vs us->t vs σ H Q->
  wpAny (model X.prog X.w) X.A (assignInOrder ((assignEach ts X.env).map (·.2)) us) (fun _ s'=> ∃ σ' H',Inv X pins σ' H' s'/\Q σ' H') X.xe s
noncomputable abbrev ZoJ:=V->V->V->Hp->(Hp->Prop)->Prop
noncomputable def ZqO (X:Cx)(t:ZoJ):Prop:=
 ∀ (pins:List (Addr × Obj)) (s:Shared) (σ:St) (H:Hp) (o i v:V) (ov iv u:Value) (Q:Hp->Prop),Inv X pins σ H s->ZX o ov->ZX i iv->ZX v u->t o i v H Q->
  wpAny (model X.prog X.w) X.A (setItem ov iv u) (fun _ s'=> ∃ H',Inv X pins σ H' s'/\Q H') X.xe s
section
variable {X:Cx}{pos:Pos}
noncomputable def Zlw (i:Nat):TG:=fun v σ H Q=>Q (σ.set i (some v)) H
theorem ZjF {i:Nat}{x:Str}(hN:X.N.Nodup)(hi:X.N[i]?=some x)(hx:Loc X.env.scope x)(hm:X.may i=true)(hf:X.fn x=true\/X.env.scope.names.lookup x=some .local:=by first | exact .inl rfl | exact .inr rfl | assumption):PG X (.Name x pos) (Zlw i):=by
 intro pins s σ H v u Q I r h;exact wpAny_assign_Name (Zb2 I hN hi hx hm r (fun s' I'=>⟨_,H,I',h⟩) hf)
noncomputable def gNil:TGs:=fun vs σ H Q=>vs=[]/\Q σ H
noncomputable def ZoK (t:TG)(u:TGs):TGs:=fun vs σ H Q=> ∃ v r,vs=v :: r/\t v σ H fun σ' H'=>u r σ' H' Q
theorem ZjG:PGs X [] gNil:=by
 intro pins s σ H vs us Q I r h;obtain ⟨e,h⟩:=h
 subst e;cases r
 exact assignInOrder_nil ⟨σ,H,I,h⟩
theorem ZhP {e:Expr}{es:List Expr}{t:TG}{u:TGs}(h1:PG X e t)(h2:PGs X es u)
  (hs:(assignEach (e :: es) X.env).map (·.2)=assign e X.env :: (assignEach es X.env).map (·.2):=by rfl):PGs X (e :: es) (ZoK t u):=by
 intro pins s σ H vs us Q I r h;obtain ⟨v,vr,e1,h⟩:=h
 subst e1;cases r with
 |cons r rr=>
  rw[hs];refine assignInOrder_cons (thn (h1 pins s σ H _ _ _ I r h) fun _ s1 ⟨σ1,H1,I1,q1⟩=> ?_)
  exact h2 pins s1 σ1 H1 _ _ Q I1 rr q1
noncomputable def Zr0 (K:PySem.W.Frag)(n:Nat)(t:TGs):TG:=fun v σ H Q=> ∃ a xs,v= .ref a/\SqT K H a xs/\xs.length=n/\t xs σ H Q
theorem Zlx {es:List Expr}{k:Nat}{t:TGs}{n:Nat}(hc:X.calm=true)(h:PGs X es t)
  (hn:(assignEach es X.env).length=n:=by rfl) (hst:(assignEach es X.env).findIdx? (·.1)=none:=by rfl):PG X (.Tuple es k pos) (Zr0 X.K n t):=by
 intro pins s σ H v u Q I r hw;obtain ⟨a,xs,e1,hq,hl,hw⟩:=hw
 subst e1;cases r
 obtain ⟨its,rv,ht,hz⟩:=I.tuple hq
 refine assign_Tuple_tuple (I.ok.hd hc) ht (by simp[hn,<- hl,rv.length]) hst fun h' hx=> ?_
 have I1:Inv X pins σ H { s with heap:=h' }:=I.kept (t':=s.toks) fun b o e=>hx b o (Nat.ne_of_lt (Heap.lt_size e)) e
 exact h pins _ σ H xs _ Q I1 (by simpa using rv) hw
noncomputable def Zr1 (to ti:TE)(t:ZoJ):TG:=fun v σ H Q=>to σ H fun o H1=>ti σ H1 fun i H2=>t o i v H2 fun H3=>Q σ H3
theorem Zly {o i:Expr}{to ti:TE}{t:ZoJ}(ho:PE X o to)(hi:PE X i ti)(hs:ZqO X t)
  (ha: ∀ v,assign (.Subscript o i pos) X.env v=(do
   let ov <- holding [v] (eval o X.env)
   let iv <- holding [v,ov] (eval i X.env)
   standAt pos
   holding [v,ov,iv] (setItem ov iv v)
   release [v,ov,iv] []):=by intro _;rfl):PG X (.Subscript o i pos) (Zr1 to ti t):=by
 intro pins s σ H v u Q I r h;rw[ha];refine wpAny_bind (wpAny_holding (thn (ho pins s σ H _ I h) fun ov s1 ⟨x,H1,I1,r1,q1⟩=> ?_))
 refine wpAny_bind (wpAny_holding (thn (hi pins s1 σ H1 _ I1 q1) fun iv s2 ⟨y,H2,I2,r2,q2⟩=> ?_))
 refine wpAny_bind (wpAny_standAt (wpAny_bind (wpAny_holding (thn (hs pins s2 σ H2 x y v ov iv u _ I2 r1 r2 r q2) fun _ s3 ⟨H3,I3,q3⟩=> ?_))))
 exact wpAny_release ⟨σ,H3,I3,q3⟩
noncomputable def ZqP (te:TE)(g:TG):TS:=fun D σ H=>te σ H fun x H1=>g x σ H1 D.nx
theorem ZiR {tg e:Expr}{te:TE}{g:TG}(he:PE X e te)(hg:PG X tg g)(hs:swapsWithSole [tg] e pos.line X.env=pure false:=by rfl)(hw:swappedStores [tg] e X.env=pure none:=by rfl)
  (h1:(assignEach [tg] X.env).map (·.2)=[assign tg X.env]:=by rfl):PS X (.Assign [tg] e pos) (ZqP te g):=by
 intro pins s σ H D I h;refine wpAny_Assign_stores (thn (he pins s σ H _ I h) fun v s1 ⟨x,H1,I1,r1,q1⟩=> ?_) hs hw
 rw[h1];exact thn (hg pins s1 σ H1 x v _ I1 r1 q1) fun _ s2 q=>q
theorem Zlz {i:Nat}{x:Str}{e:Expr}{te:TE}{pos':Pos}(hN:X.N.Nodup)(hi:X.N[i]?=some x)(hx:Loc X.env.scope x)(hm:X.may i=true)(he:PE X e te)(hs:swapsWith e (some (.Name x pos')) pos.line X.env=pure false:=by rfl)(hf:X.fn x=true\/X.env.scope.names.lookup x=some .local:=by first | exact .inl rfl | exact .inr rfl | assumption):
  PS X (.Assign [.Name x pos'] e pos) (ZqP te (Zlw i)):=by
 intro pins s σ H D I h;refine wpAny_Assign_Name (thn (he pins s σ H _ I h) fun v s1 ⟨y,H1,I1,r1,q1⟩=> ?_) hs
 exact Zb2 I1 hN hi hx hm r1 (fun s2 I2=>⟨_,H1,I2,q1⟩) hf
noncomputable def Zr2 (i j:Nat)(ta:TA):TS:=fun D σ H=>ta σ H fun vs H1=> ∃ v w,vs=[v,w]/\D.nx ((σ.set i (some v)).set j (some w)) H1
theorem ZlA {i j:Nat}{x y:Str}{a b:Expr}{ta:TA}{px py pt:Pos}{kt k2 pt2}(hc:X.calm=true)(mi:X.may i=true)(mj:X.may j=true)(hN:X.N.Nodup)(hi:X.N[i]?=some x)(hj:X.N[j]?=some y)(hij:i≠j)
  (hx:X.env.scope.names.lookup x=some .local) (hy:X.env.scope.names.lookup y=some .local) (ha:PA X [a,b] ta)
  (hw:swappedStores [.Tuple [.Name x px,.Name y py] kt pt] (.Tuple [a,b] k2 pt2) X.env=pure (some [x,y]))
  (hs:swapsWithSole [.Tuple [.Name x px,.Name y py] kt pt] (.Tuple [a,b] k2 pt2) pos.line X.env=pure false:=by rfl):
  PS X (.Assign [.Tuple [.Name x px,.Name y py] kt pt] (.Tuple [a,b] k2 pt2) pos) (Zr2 i j ta):=by
 intro pins s σ H D I h;rw[exec_Assign_arm];refine wpAny_bind (wpAny_standAt ?_)
 rw[hs];refine wpAny_bind (wpAny_pure ?_)
 rw[if_neg (by decide)]
 refine wpAny_bind (Tuple_ (thn (ha _ pins s σ H _ I h) fun us s1 ⟨vs,H1,I1,r1,q1⟩=> ?_))
 obtain ⟨v,w,e1,q1⟩:=q1
 subst e1;obtain ⟨u1,u2,rfl,rv,rw'⟩: ∃ u1 u2,us=[u1,u2]/\ZX v u1/\ZX w u2:=by
  cases r1 with
  |cons p q=>
   cases q with
   |cons p' q'=>
    cases q'
    exact ⟨_,_,rfl,p,p'⟩
 refine wpAny_newObj_type ?_ (by show 2<=sizeLine;decide)
 have I2:Inv X pins σ H1 { s1 with heap:=s1.heap.push { cls:= .type "tuple",data:= .seq [u1,u2].toArray } }:=I1.kept (t':=s1.toks) fun b o e=>Heap.get?_push_of_some _ e
 rw[hw];refine wpAny_bind (wpAny_pure ?_)
 show wpAny (model X.prog X.w) X.A (do rule "assign.swapped-stores";let items <- unpackItems (.ref s1.heap.objs.size) 2 none;assignInOrder [fun v=>bindName X.env y v,fun v=>bindName X.env x v] items.reverse;pure Flow.next) _ _ _
 refine wpAny_bind (wpAny_rule (wpAny_bind (unpackItems_tuple (items:= #[u1,u2]) (I.ok.hd hc) (IsTup.new s1.heap _) fun h' hx'=> ?_)))
 have I3:=I2.kept (h':=h') (t':=s1.toks) fun b o e=>hx' b o (Nat.ne_of_lt (Heap.lt_size e)) e
 show wpAny _ _ (assignInOrder [fun v=>bindName X.env y v,fun v=>bindName X.env x v] [u2,u1] >>= fun _=>pure Flow.next) _ _ _
 refine wpAny_bind (assignInOrder_cons (wpAny_bindName (Zb2 I3 hN hj (.inl hy) mj rw' (fun s2 I4=> ?_) (.inr hy))))
 refine assignInOrder_cons (wpAny_bindName (Zb2 I4 hN hi (.inl hx) mi rv (fun s3 I5=>assignInOrder_nil (wpAny_pure ?_)) (.inr hx)))
 rw[List.set_comm _ _ (Ne.symm hij)] at I5;exact ⟨_,H1,I5,q1⟩
end
section
variable {X:Cx}{pos:Pos}
noncomputable def ZlB (c:TT)(tb:TS):TS:=fun D σ H=> ∃ W:Nat->St->Hp->Prop,(∃ m,W m σ H)/\ ∀ m σ H,W m σ H->
 c σ H fun b H1=>if b=true then ∃ N:St->Hp->Prop,(∀ σ' H',N σ' H'-> ∃ m',m' < m/\W m' σ' H')/\tb { D with nx:=N,ct:=N,bk:=D.nx } σ H1 else D.nx σ H1
theorem ZhQ {c:Expr}{body:List Stmt}{tc:TT}{tb:TS}(hp:PassesOwn (model X.prog X.w) X.A X.env X.xe)(hc:PT X c tc)(hb:PSs X body tb):PS X (.While c body [] pos) (ZlB tc tb):=by
 intro pins s σ H D I h;obtain ⟨W,⟨m0,w0⟩,turn⟩:=h
 refine wpAny_While (codeAny_whileLoop (fun n s'=> ∃ σ' H',Inv X pins σ' H' s'/\W n σ' H') ?_ m0 ⟨σ,H,I,w0⟩)
 rintro n s1 ⟨σ1,H1,I1,w1⟩
 refine wpAny_passesOwn hp (thn (hc pins s1 σ1 H1 _ I1 (turn n σ1 H1 w1)) fun b s2 ⟨H2,I2,q2⟩=> ?_)
 cases b with
 |true=>
  obtain ⟨N,hN,q2⟩:=q2
  rw[if_pos rfl];refine wpAny_passesOwn hp (thn (hb pins s2 σ1 H2 _ I2 q2) fun f s3 q3=> ?_)
  cases f with
  |next=>
   obtain ⟨σ3,H3,I3,n3⟩:=q3
   obtain ⟨m',hm,w3⟩:=hN σ3 H3 n3
   exact ⟨m',hm,σ3,H3,I3,w3⟩
  |cont=>
   obtain ⟨σ3,H3,I3,n3⟩:=q3
   obtain ⟨m',hm,w3⟩:=hN σ3 H3 n3
   exact ⟨m',hm,σ3,H3,I3,w3⟩
  |brk=>exact q3
  |ret v=>exact q3
 |false=>
  rw[if_neg Bool.false_ne_true];exact wpAny_execs_nil ⟨σ1,H2,I2,q2⟩
end
structure It where
 go:Nat->Hp->Prop
 yld:Nat->Hp->V->Hp->Prop
 stop:Nat->Hp->Prop
noncomputable def Zc9 (X:Cx)(pins:List (Addr × Obj))(H:Hp)(b:Addr):Prop:=
 H b=none/\b≠X.env.locals/\b ∉ X.fs/\(b∈X.ex\/X.s₀.heap.objs.size<=b)/\(∀ x c,X.env.cells.lookup x=some c->c≠b)/\ ∀ p∈X.pn ++ pins,p.1≠b
theorem Inv.fpOk {X:Cx}{pins:List (Addr × Obj)}{σ:St}{H H':Hp}{s:Shared}{b:Addr}(I:Inv X pins σ H s)(hb:s.heap.objs.size<=b)(hn:H' b=none):Zc9 X pins H' b:=by
 refine ⟨hn,Nat.ne_of_gt (Nat.lt_of_lt_of_le I.lt hb),I.nofs hb,.inr (Nat.le_trans I.sz hb),fun x c e z=> ?_,fun p hp z=> ?_⟩
 ·obtain ⟨v,q⟩:=I.cell x c e
  exact absurd (Nat.lt_of_lt_of_le q.lt (by rw[z];exact hb)) (Nat.lt_irrefl _)
 ·exact absurd (Nat.lt_of_lt_of_le (Heap.lt_size (I.pin p hp).1) (by rw[z];exact hb)) (Nat.lt_irrefl _)
structure Turn (P:Program) (w:World) (K:PySem.W.Frag) (B:Around) (tg:Expr) (J:It) (fp:List Addr) (it:Addr) (tn:Nat->Heap->Prop):Prop where
 mem:it∈fp
 obj: ∀ i h,tn i h-> ∀ b∈fp,∃ o,h.get? b=some o/\ ∀ v,o.data≠ .cell v
 keep: ∀ i h h',tn i h->(∀ b∈fp,∀ o,h.get? b=some o->h'.get? b=some o)->tn i h'
 item: ∀ (X:Cx),X.prog=P->X.w=w->X.K=K->X.A=B-> ∀ (i:Nat) (pins:List (Addr × Obj)) (s:Shared) (σ:St) (H:Hp) (E:Value->Shared->Prop),Inv X pins σ H s->(∀ b∈fp,Zc9 X pins H b)->tn i s.heap->J.go i H->
  wpAny (model P w) X.A (pyNext (.ref it)) (fun r s1=> ∃ u,r=some u/\
   wpAny (model P w) X.A (letOwnedTupleGo tg (.ref it) u) (fun _ s2=> ∃ x H',Inv X pins σ H' s2/\ZX x u/\J.yld i H x H'/\tn (i + 1) s2.heap/\ ∀ b∈fp,H' b=none) E s1) E s
 done: ∀ (X:Cx),X.prog=P->X.w=w->X.K=K->X.A=B-> ∀ (i:Nat) (pins:List (Addr × Obj)) (s:Shared) (σ:St) (H:Hp) (E:Value->Shared->Prop),Inv X pins σ H s->(∀ b∈fp,Zc9 X pins H b)->tn i s.heap->J.stop i H->
  wpAny (model P w) X.A (pyNext (.ref it)) (fun r s1=>r=none/\Inv X pins σ H s1) E s
 self: ∀ (A:Around) (i:Nat) (s:Shared) (Q:Value->Shared->Prop) (E:Value->Shared->Prop),tn i s.heap->Q (.ref it) s->wpAny (model P w) A (pyIter (.ref it)) Q E s
noncomputable abbrev TI:=St->Hp->(It->Hp->Prop)->Prop
noncomputable def PIE (X:Cx)(pins:List (Addr × Obj))(σ:St)(tg:Expr)(R:It->Hp->Prop)(itv:Value)(s2:Shared):Prop:=
 ∃ (it:Addr) (fp:List Addr) (tn:Nat->Heap->Prop) (J:It) (H':Hp),itv= .ref it/\Inv X pins σ H' s2/\Turn X.prog X.w X.K X.A tg J fp it tn/\tn 0 s2.heap/\(∀ b∈fp,Zc9 X pins H' b)/\R J H'
noncomputable def PI (X:Cx)(tg iter:Expr)(wi:TI):Prop:=
 ∀ (pins:List (Addr × Obj)) (s:Shared) (σ:St) (H:Hp) (R:It->Hp->Prop),Inv X pins σ H s->wi σ H R->
  wpAny (model X.prog X.w) X.A (eval iter X.env) (fun v s1=>wpAny (model X.prog X.w) X.A (pyIter v) (PIE X pins σ tg R) X.xe s1) X.xe s
theorem ZhR {M:Model}{A:Around}{E:Value->Shared->Prop}{s:Shared}{tg:Expr}{it:Addr}{u:Value}{o:Obj}{n:String}{vs:Array Value}{Q:Unit->Shared->Prop}(ho:s.heap.get? it=some o)(hc:o.cls= .type n)(hd:o.data= .fields vs)
  (hn:["enumerate","zip","dict_itemiterator","dict_reverseitemiterator","odict_iterator","itertools.zip_longest","itertools.pairwise"].contains n=false) (hQ:Q () s):wpAny M A (letOwnedTupleGo tg (.ref it) u) Q E s:=by
 unfold letOwnedTupleGo;cases tg<;>first
  |exact wpAny_pure hQ
  | (cases u<;>first
    |exact wpAny_pure hQ
    | (refine wpAny_bind (wpAny_load ho ?_)
       rw[hc,hd];show wpAny M A (if (["enumerate","zip","dict_itemiterator","dict_reverseitemiterator","odict_iterator","itertools.zip_longest","itertools.pairwise"].contains n && vs[0]? == some (rawInt _))=true then _ else _) Q E s
       rw[if_neg (by intro h;rw[hn,Bool.false_and] at h;cases h)]
       exact wpAny_pure hQ))
noncomputable def Itl (K:PySem.W.Frag)(a:Addr):It:=
 ⟨fun i H=> ∃ xs x,SqL K H a xs/\xs[i]?=some x,fun i H x H'=>H'=H/\ ∀ xs,SqL K H a xs->xs[i]?=some x,fun i H=> ∃ xs,SqL K H a xs/\xs.length<=i⟩
noncomputable def Itt (K:PySem.W.Frag)(a:Addr):It:=
 ⟨fun i H=> ∃ xs x,SqT K H a xs/\xs[i]?=some x,fun i H x H'=>H'=H/\ ∀ xs,SqT K H a xs->xs[i]?=some x,fun i H=> ∃ xs,SqT K H a xs/\xs.length<=i⟩
noncomputable def Itr (lo:Int)(n:Nat):It:=⟨fun i _=>i < n,fun i H x H'=>H'=H/\x= .int (lo + i),fun i _=>n<=i⟩
theorem ZfP {P:Program}{w:World}{K:PySem.W.Frag}{B:Around}{tg:Expr}(a it:Addr):Turn P w K B tg (Itl K a) [it] it (fun i h=>h.IsListIter it a i) where
 mem:=by simp
 obj:=fun i h st b hb=>by
  have e:b=it:=by simpa using hb
  subst e;obtain ⟨o,e,c,d⟩:=st
  exact ⟨o,e,fun v z=>by rw[d] at z;cases z⟩
 keep:=fun i h h' st k=>st.at fun o e=>k it (by simp) o e
 item:=by
  intro X hP hw hK hB i pins s σ H E I hf st hg;subst hP hw hK;obtain ⟨xs,x,hq,hx⟩:=hg
  obtain ⟨its,rv,p,hz⟩:=I.list hq
  obtain ⟨u,hu,ru⟩:=rv.get hx
  obtain ⟨f0,f1,f2,f3,f4,f5⟩:=hf it (by simp)
  refine wpAny_pyNext_list_item st p.isList (x:=u) (by simpa using hu) fun h' st' sb=> ?_
  have I1:Inv X pins σ H { s with heap:=h' }:=I.turned (t':=s.toks) (fun b o hb e=>(sb.2 b hb).trans e) f0 f1 f3 f4 f5
  obtain ⟨o,e,c,d⟩:=id st'
  exact ⟨u,rfl,ZhR (s:={ s with heap:=h' }) e c d (by decide) ⟨x,H,I1,ru,⟨rfl,fun ys hy=>by rw[I.list_inj hy hq];exact hx⟩,st',fun b hb=>(hf b hb).1⟩⟩
 done:=by
  intro X hP hw hK hB i pins s σ H E I hf st hg;subst hP hw hK;obtain ⟨xs,hq,hx⟩:=hg
  obtain ⟨its,rv,p,hz⟩:=I.list hq
  obtain ⟨f0,f1,f2,f3,f4,f5⟩:=hf it (by simp)
  have hl:=rv.length
  exact DQ.ZhM I.qh st p.isList (by simp;omega) fun h' eb=>⟨rfl,I.turned (t':=s.toks) (fun b o hb e=>eb b o hb e) f0 f1 f3 f4 f5⟩
 self:=fun _ _ _ _ _ st h=>wpAny_pyIter_listiter st h
theorem Ze9 {P:Program}{w:World}{K:PySem.W.Frag}{B:Around}{tg:Expr}(a it:Addr):Turn P w K B tg (Itt K a) [it] it (fun i h=>h.IsTupleIter it a i) where
 mem:=by simp
 obj:=fun i h st b hb=>by
  have e:b=it:=by simpa using hb
  subst e;obtain ⟨o,e,c,d⟩:=st
  exact ⟨o,e,fun v z=>by rw[d] at z;cases z⟩
 keep:=fun i h h' st k=>st.at fun o e=>k it (by simp) o e
 item:=by
  intro X hP hw hK hB i pins s σ H E I hf st hg;subst hP hw hK;obtain ⟨xs,x,hq,hx⟩:=hg
  obtain ⟨its,rv,p,hz⟩:=I.tuple hq
  obtain ⟨u,hu,ru⟩:=rv.get hx
  obtain ⟨f0,f1,f2,f3,f4,f5⟩:=hf it (by simp)
  refine wpAny_pyNext_tuple_item st (show s.heap.IsTuple a its.toArray from p) (x:=u) (by simpa using hu) fun h' st' sb=> ?_
  have I1:Inv X pins σ H { s with heap:=h' }:=I.turned (t':=s.toks) (fun b o hb e=>(sb.2 b hb).trans e) f0 f1 f3 f4 f5
  obtain ⟨o,e,c,d⟩:=id st'
  exact ⟨u,rfl,ZhR (s:={ s with heap:=h' }) e c d (by decide) ⟨x,H,I1,ru,⟨rfl,fun ys hy=>by rw[I.tuple_inj hy hq];exact hx⟩,st',fun b hb=>(hf b hb).1⟩⟩
 done:=by
  intro X hP hw hK hB i pins s σ H E I hf st hg;subst hP hw hK;obtain ⟨xs,hq,hx⟩:=hg
  obtain ⟨its,rv,p,hz⟩:=I.tuple hq
  obtain ⟨f0,f1,f2,f3,f4,f5⟩:=hf it (by simp)
  have hl:=rv.length
  exact DQ.ZfI I.qh st (show s.heap.IsTuple a its.toArray from p) (by simp;omega) fun h' eb=>⟨rfl,I.turned (t':=s.toks) (fun b o hb e=>eb b o hb e) f0 f1 f3 f4 f5⟩
 self:=fun _ _ _ _ _ st h=>wpAny_pyIter_tupleiter st h
theorem Zfa {P:Program}{w:World}{K:PySem.W.Frag}{B:Around}{tg:Expr}(it:Addr)(lo:Int)(n:Nat):Turn P w K B tg (Itr lo n) [it] it (fun i h=>IsRangeIter h it (lo + (i:Nat) * 1) ((n:Int) - (i:Nat)) 1) where
 mem:=by simp
 obj:=fun i h st b hb=>by
  have e:b=it:=by simpa using hb
  subst e;exact ⟨_,st,fun v z=>by
   have z':Data.fields _=Data.cell v:=z
   cases z'⟩
 keep:=fun i h h' st k=>k it (by simp) _ st
 item:=by
  intro X hP hw hK hB i pins s σ H E I hf st hg;subst hP hw hK;obtain ⟨f0,f1,f2,f3,f4,f5⟩:=hf it (by simp)
  have hlt:i < n:=hg
  refine wpAny_pyNext_range_item st (by omega) fun h' st' sb=> ?_
  have I1:Inv X pins σ H { s with heap:=h',toks:=s.toks + 1 }:=I.turned (fun b o hb e=>(sb.2 b hb).trans e) f0 f1 f3 f4 f5
  have st2:IsRangeIter h' it (lo + ((i + 1:Nat):Int) * 1) ((n:Int) - ((i + 1:Nat):Int)) 1:=by
   have e1:lo + ((i + 1:Nat):Int) * 1=lo + (i:Nat) * 1 + 1:=by omega
   have e2:(n:Int) - ((i + 1:Nat):Int)=(n:Int) - (i:Nat) - 1:=by omega
   rw[e1,e2];exact st'
  refine ⟨_,rfl,ZhR (s:={ s with heap:=h',toks:=s.toks + 1 }) (n:="range_iterator") st2 rfl rfl (by decide) ⟨.int (lo + i),H,I1,⟨s.toks,?_⟩,⟨rfl,rfl⟩,st2,fun b hb=>(hf b hb).1⟩⟩
  rw[Int.mul_one]
 done:=by
  intro X hP hw hK hB i pins s σ H E I hf st hg;subst hP hw hK;obtain ⟨f0,f1,f2,f3,f4,f5⟩:=hf it (by simp)
  exact DQ.ZfH I.qh st (by have:n<=i:=hg;omega) fun h' eb=>⟨rfl,I.turned (t':=s.toks) (fun b o hb e=>eb b o hb e) f0 f1 f3 f4 f5⟩
 self:=fun _ _ _ _ _ st h=>wpAny_pyIter_rangeiter st h
end L2
namespace L2
open PySem PySem.Spec PyProof.Rows
section
variable {X:Cx}{tg:Expr}
theorem ZhS {pins:List (Addr × Obj)}{σ:St}{H:Hp}{s:Shared}{R:It->Hp->Prop}{E:Value->Shared->Prop}{lo hi:Int}{t u v:Tok}{tk:Nat}(I:Inv X pins σ H s)(h1: -(2 ^ 62)<=lo)(h2:lo < 2 ^ 62)(h3: -(2 ^ 62)<=hi)(h4:hi < 2 ^ 62)
  (q:R (Itr lo (hi - lo).toNat) H):wpAny (model X.prog X.w) X.A (pyIter (.ref s.heap.objs.size)) (PIE X pins σ tg R) E { s with heap:=s.heap.push { cls:= .type "range",data:= .fields #[.int lo t,.int hi u,.int 1 v] },toks:=tk }:=by
 refine wpAny_pyIter_range (IsRange.new ..) (small_one h1 h2 h3 h4) ?_
 have I1:Inv X pins σ H { s with heap:=s.heap.push { cls:= .type "range",data:= .fields #[.int lo t,.int hi u,.int 1 v] },toks:=tk }:=I.kept fun b o e=>Heap.get?_push_of_some _ e
 refine ⟨(s.heap.push { cls:= .type "range",data:= .fields #[.int lo t,.int hi u,.int 1 v] }).objs.size,[(s.heap.push { cls:= .type "range",data:= .fields #[.int lo t,.int hi u,.int 1 v] }).objs.size],_,_,H,rfl,
  I1.kept (t':=tk) fun b o e=>Heap.get?_push_of_some _ e,Zfa _ lo (hi - lo).toNat,?_,fun b hb=> ?_,q⟩
 ·have e1:lo + ((0:Nat):Int) * 1=lo:=by simp
  have e2:(((hi - lo).toNat:Nat):Int) - ((0:Nat):Int)=Builtin.Range.rangeSize lo hi 1:=by rw[rangeSize_one];split<;>omega
  show IsRangeIter _ _ (lo + ((0:Nat):Int) * 1) ((((hi - lo).toNat:Nat):Int) - ((0:Nat):Int)) 1
  rw[e1,e2];exact Heap.get?_push_size _ rfl
 ·have e:b=(s.heap.push { cls:= .type "range",data:= .fields #[.int lo t,.int hi u,.int 1 v] }).objs.size:=by simpa using hb
  subst e;exact I1.fpOk (Nat.le_refl _) (I1.hok.fresh (Nat.le_refl _))
noncomputable def ZoL (ta:TA):TI:=fun σ H R=>ta σ H fun vs H1=> ∃ j:Int,vs=[.int j]/\ -(2 ^ 62)<=j/\j < 2 ^ 62/\R (Itr 0 j.toNat) H1
theorem ZfQ {a:Expr}{ta:TA}{p pos:Pos}(hg:Gl X "range")(hm:X.mg "range"=none)(ha:PA X [a] ta)(hs:starEach [a] X.env=[(false,eval a X.env)]:=by rfl):PI X tg (.Call (.Name "range" p) [a] [] pos) (ZoL ta):=by
 intro pins s σ H R I h;refine Call_ (Zdc I hg hm boot_range (PyProof.Rows.callWith_type1 (thn (ha pos pins s σ H _ I h) fun us s1 ⟨vs,H1,I1,r1,q1⟩=> ?_) hs rfl))
 obtain ⟨j,e,q1,q2,q⟩:=q1
 subst e;cases r1 with
 |cons r rr=>
  cases rr
  obtain ⟨t,rfl⟩:=r
  exact call_range_1 (ZhS I1 (by omega) (by omega) q1 q2 (by simpa using q))
noncomputable def Zr3 (wi:TI)(g:TG)(tb:TS):TS:=fun D σ H=>wi σ H fun J H1=> ∃ W:Nat->Nat->St->Hp->Prop,(∃ m,W 0 m σ H1)/\ ∀ i m σ H,W i m σ H->
 (J.stop i H/\D.nx σ H)\/(J.go i H/\ ∃ N:St->Hp->Prop,(∀ σ' H',N σ' H'-> ∃ m',m' < m/\W (i + 1) m' σ' H')/\ ∀ x H',J.yld i H x H'->g x σ H' fun σ2 H2=>tb { D with nx:=N,ct:=N,bk:=D.nx } σ2 H2)
noncomputable def ZcB (fp:List Addr)(h:Heap):List (Addr × Obj):=fp.filterMap fun b=>(h.get? b).map fun o=>(b,o)
theorem Za1 {fp:List Addr}{h:Heap}{b:Addr}{o:Obj}(hb:b∈fp)(e:h.get? b=some o):(b,o)∈ZcB fp h:=List.mem_filterMap.mpr ⟨b,hb,by rw[e];rfl⟩
theorem ZfR {fp:List Addr}{h:Heap}{p:Addr × Obj}(hp:p∈ZcB fp h):p.1∈fp/\h.get? p.1=some p.2:=by
 obtain ⟨b,hb,e⟩:=List.mem_filterMap.mp hp
 cases q:h.get? b with
 |none=>rw[q] at e;cases e
 |some o=>
  rw[q] at e;have e':(b,o)=p:=Option.some.inj e
  subst e';exact ⟨hb,q⟩
theorem Inv.pinned {pins:List (Addr × Obj)}{σ:St}{H:Hp}{s:Shared}{fp:List Addr}(I:Inv X pins σ H s)(hf: ∀ b∈fp,Zc9 X pins H b)(ho: ∀ b∈fp,∃ o,s.heap.get? b=some o/\ ∀ v,o.data≠ .cell v):Inv X (pins ++ ZcB fp s.heap) σ H s:=
 I.pins_of fun p hp=>(List.mem_append.mp hp).elim (fun z=>I.pin p (List.mem_append_right _ z)) fun z=>by
  obtain ⟨hb,e⟩:=ZfR z
  obtain ⟨f0,f1,f2,_⟩:=hf p.1 hb
  obtain ⟨o,e',d⟩:=ho p.1 hb
  rw[e] at e';cases e';exact ⟨e,f0,f1,f2,d⟩
theorem Inv.unpinned {pins pl:List (Addr × Obj)}{σ:St}{H:Hp}{s:Shared}(I:Inv X (pins ++ pl) σ H s):Inv X pins σ H s:=I.pins_of fun p hp=>I.pin p (List.mem_append_right _ (List.mem_append_left _ hp))
theorem ZfS {iter:Expr}{body:List Stmt}{wi:TI}{g:TG}{tb:TS}{pos:Pos}(hp:PassesOwn (model X.prog X.w) X.A X.env X.xe)(hi:PI X tg iter wi)(hg:PG X tg g)(hb:PSs X body tb)
  (hs: ∀ x,foldedSetIterable iter X.env x=pure x:=by intro _;rfl):PS X (.For tg iter body [] pos) (Zr3 wi g tb):=by
 intro pins s σ H D I h;refine wpAny_For (thn (hi pins s σ H _ I h) fun v s1 h1=>thn h1 fun itv s2 h2=> ?_) hs
 obtain ⟨it,fp,tn,J,H2,e,I2,T,st2,f2,W,⟨m0,w0⟩,turn⟩:=h2
 subst e;have stat: ∀ {H':Hp},(∀ b∈fp,H' b=none)-> ∀ b∈fp,Zc9 X pins H' b:=fun hn b hb=>⟨hn b hb,(f2 b hb).2⟩
 refine codeAny_forLoop_any (fun n s'=> ∃ i σ' H',Inv X pins σ' H' s'/\tn i s'.heap/\(∀ b∈fp,H' b=none)/\W i n σ' H') ?_ m0 ⟨0,σ,H2,I2,st2,fun b hb=>(f2 b hb).1,w0⟩
 rintro n s3 ⟨i,σ3,H3,I3,st3,fr3,w3⟩
 rcases turn i n σ3 H3 w3 with ⟨stop,qn⟩ | ⟨go,N,hN,step⟩
 ·refine wpAny_passesOwn hp (thn (T.done X rfl rfl rfl rfl i pins s3 σ3 H3 X.xe I3 (stat fr3) st3 stop) fun r s4 ⟨hr,I4⟩=> ?_)
  subst hr;exact wpAny_execs_nil ⟨σ3,H3,I4,qn⟩
 ·refine wpAny_passesOwn hp (thn (T.item X rfl rfl rfl rfl i pins s3 σ3 H3 X.xe I3 (stat fr3) st3 go) fun r s4 ⟨u,hr,h4⟩=> ?_)
  subst hr;refine wpAny_passesOwn hp (thn h4 fun _ s5 ⟨x,H5,I5,r5,y5,st5,fr5⟩=> ?_)
  have I5':=I5.pinned (stat fr5) (T.obj _ _ st5)
  refine wpAny_passesOwn hp (thn (hg _ s5 σ3 H5 x u _ I5' r5 (step x H5 y5)) fun _ s6 ⟨σ6,H6,I6,q6⟩=> ?_)
  refine wpAny_passesOwn hp (thn (hb _ s6 σ6 H6 _ I6 q6) fun f s7 q7=> ?_)
  have again: ∀ {σ7:St} {H7:Hp},Inv X (pins ++ ZcB fp s5.heap) σ7 H7 s7->N σ7 H7-> ∃ m,m < n/\ ∃ i σ' H',Inv X pins σ' H' s7/\tn i s7.heap/\(∀ b∈fp,H' b=none)/\W i m σ' H':=fun {σ7 H7} I7 n7=>by
   obtain ⟨m',hm,w7⟩:=hN σ7 H7 n7
   refine ⟨m',hm,i + 1,σ7,H7,I7.unpinned,T.keep _ _ _ st5 fun b hb o e=>(I7.pin (b,o) (List.mem_append_right _ (List.mem_append_right _ (Za1 hb e)))).1,fun b hb=> ?_,w7⟩
   obtain ⟨o,e,d⟩:=T.obj _ _ st5 b hb
   exact (I7.pin (b,o) (List.mem_append_right _ (List.mem_append_right _ (Za1 hb e)))).2.1
  cases f with
  |next=>obtain ⟨σ7,H7,I7,n7⟩:=q7;exact again I7 n7
  |cont=>obtain ⟨σ7,H7,I7,n7⟩:=q7;exact again I7 n7
  |brk=>obtain ⟨σ7,H7,I7,q7⟩:=q7;exact ⟨σ7,H7,I7.unpinned,q7⟩
  |ret v=>obtain ⟨x7,σ7,H7,I7,r7,q7⟩:=q7;exact ⟨x7,σ7,H7,I7.unpinned,r7,q7⟩
end
theorem ZhT {K:PySem.W.Frag}{a:Addr}{xs:List V}{g:TG}{tb:TS}{D:Ends}{σ:St}{H:Hp}(Pv:Nat->St->Hp->Prop)(h0:Pv 0 σ H)(hl: ∀ i σ H,i<=xs.length->Pv i σ H->SqL K H a xs)
  (hs: ∀ i x σ H,xs[i]?=some x->Pv i σ H->g x σ H fun σ2 H2=>tb { D with nx:=Pv (i + 1),ct:=Pv (i + 1),bk:=D.nx } σ2 H2) (hd: ∀ σ H,Pv xs.length σ H->D.nx σ H):
  ∃ W:Nat->Nat->St->Hp->Prop,(∃ m,W 0 m σ H)/\ ∀ i m σ H,W i m σ H->
   ((Itl K a).stop i H/\D.nx σ H)\/((Itl K a).go i H/\ ∃ N:St->Hp->Prop,(∀ σ' H',N σ' H'-> ∃ m',m' < m/\W (i + 1) m' σ' H')/\ ∀ x H',(Itl K a).yld i H x H'->g x σ H' fun σ2 H2=>tb { D with nx:=N,ct:=N,bk:=D.nx } σ2 H2):=by
 refine ⟨fun i m σ H=>m=xs.length - i/\i<=xs.length/\Pv i σ H,⟨xs.length,by simp,Nat.zero_le _,h0⟩,?_⟩
 rintro i m σ H ⟨rfl,hi,p⟩
 have q:=hl i σ H hi p
 by_cases hlt:i < xs.length
 ·refine .inr ⟨⟨xs,xs[i],q,by simp[hlt]⟩,Pv (i + 1),fun σ' H' p'=>⟨xs.length - (i + 1),by omega,rfl,hlt,p'⟩,fun x H' y=> ?_⟩
  obtain ⟨e,y⟩:=y
  subst e;exact hs i x σ _ (y xs q) p
 ·have e:i=xs.length:=by omega
  subst e;exact .inl ⟨⟨xs,q,Nat.le_refl _⟩,hd σ H p⟩
theorem ZjH {K:PySem.W.Frag}{a:Addr}{xs:List V}{g:TG}{tb:TS}{D:Ends}{σ:St}{H:Hp}(Pv:Nat->St->Hp->Prop)(h0:Pv 0 σ H)(hl: ∀ i σ H,i<=xs.length->Pv i σ H->SqT K H a xs)
  (hs: ∀ i x σ H,xs[i]?=some x->Pv i σ H->g x σ H fun σ2 H2=>tb { D with nx:=Pv (i + 1),ct:=Pv (i + 1),bk:=D.nx } σ2 H2) (hd: ∀ σ H,Pv xs.length σ H->D.nx σ H):
  ∃ W:Nat->Nat->St->Hp->Prop,(∃ m,W 0 m σ H)/\ ∀ i m σ H,W i m σ H->
   ((Itt K a).stop i H/\D.nx σ H)\/((Itt K a).go i H/\ ∃ N:St->Hp->Prop,(∀ σ' H',N σ' H'-> ∃ m',m' < m/\W (i + 1) m' σ' H')/\ ∀ x H',(Itt K a).yld i H x H'->g x σ H' fun σ2 H2=>tb { D with nx:=N,ct:=N,bk:=D.nx } σ2 H2):=by
 refine ⟨fun i m σ H=>m=xs.length - i/\i<=xs.length/\Pv i σ H,⟨xs.length,by simp,Nat.zero_le _,h0⟩,?_⟩
 rintro i m σ H ⟨rfl,hi,p⟩
 have q:=hl i σ H hi p
 by_cases hlt:i < xs.length
 ·refine .inr ⟨⟨xs,xs[i],q,by simp[hlt]⟩,Pv (i + 1),fun σ' H' p'=>⟨xs.length - (i + 1),by omega,rfl,hlt,p'⟩,fun x H' y=> ?_⟩
  obtain ⟨e,y⟩:=y
  subst e;exact hs i x σ _ (y xs q) p
 ·have e:i=xs.length:=by omega
  subst e;exact .inl ⟨⟨xs,q,Nat.le_refl _⟩,hd σ H p⟩
theorem ZfT {lo:Int}{n:Nat}{g:TG}{tb:TS}{D:Ends}{σ:St}{H:Hp}(Pv:Nat->St->Hp->Prop)(h0:Pv 0 σ H)
  (hs: ∀ i σ H,i < n->Pv i σ H->g (.int (lo + i)) σ H fun σ2 H2=>tb { D with nx:=Pv (i + 1),ct:=Pv (i + 1),bk:=D.nx } σ2 H2) (hd: ∀ σ H,Pv n σ H->D.nx σ H):
  ∃ W:Nat->Nat->St->Hp->Prop,(∃ m,W 0 m σ H)/\ ∀ i m σ H,W i m σ H->
   ((Itr lo n).stop i H/\D.nx σ H)\/((Itr lo n).go i H/\ ∃ N:St->Hp->Prop,(∀ σ' H',N σ' H'-> ∃ m',m' < m/\W (i + 1) m' σ' H')/\ ∀ x H',(Itr lo n).yld i H x H'->g x σ H' fun σ2 H2=>tb { D with nx:=N,ct:=N,bk:=D.nx } σ2 H2):=by
 refine ⟨fun i m σ H=>m=n - i/\i<=n/\Pv i σ H,⟨n,by simp,Nat.zero_le _,h0⟩,?_⟩
 rintro i m σ H ⟨rfl,hi,p⟩
 by_cases hlt:i < n
 ·refine .inr ⟨hlt,Pv (i + 1),fun σ' H' p'=>⟨n - (i + 1),by omega,rfl,hlt,p'⟩,fun x H' y=> ?_⟩
  obtain ⟨e,y⟩:=y
  subst e y;exact hs i σ _ hlt p
 ·have e:i=n:=by omega
  subst e;exact .inl ⟨Nat.le_refl _,hd σ H p⟩
end L2
namespace L2
open PySem PySem.Spec PyProof.Rows
noncomputable abbrev R2:=V->V->Hp->VK->Prop
noncomputable def OpR (X:Cx)(f:Value->Value->Sem Value)(r:R2):Prop:=
 ∀ (pins:List (Addr × Obj)) (s:Shared) (σ:St) (H:Hp) (x y:V) (v u:Value) (Q:VK),Inv X pins σ H s->ZX x v->ZX y u->r x y H Q->
  wpAny (model X.prog X.w) X.A (f v u) (EP X pins σ Q) X.xe s
noncomputable def UnR (X:Cx)(f:Value->Sem Value)(r:V->Hp->VK->Prop):Prop:=
 ∀ (pins:List (Addr × Obj)) (s:Shared) (σ:St) (H:Hp) (x:V) (v:Value) (Q:VK),Inv X pins σ H s->ZX x v->r x H Q->
  wpAny (model X.prog X.w) X.A (f v) (EP X pins σ Q) X.xe s
noncomputable def Zbd (X:Cx)(f:Value)(r:List V->Hp->VK->Prop):Prop:=
 ∀ (pins:List (Addr × Obj)) (s:Shared) (σ:St) (H:Hp) (xs:List V) (us:List Value) (Q:VK),Inv X pins σ H s->ZK xs us->r xs H Q->
  wpAny (model X.prog X.w) X.A (call f us) (EP X pins σ Q) X.xe s
noncomputable def tOp (r:R2)(ta tb:TE):TE:=fun σ H Q=>ta σ H fun x H1=>tb σ H1 fun y H2=>r x y H2 Q
noncomputable def tUn (r:V->Hp->VK->Prop)(ta:TE):TE:=fun σ H Q=>ta σ H fun x H1=>r x H1 Q
noncomputable def rI (C:Int->Int->Prop)(g:Int->Int->V):R2:=fun x y H Q=> ∃ i j,x= .int i/\y= .int j/\C i j/\Q (g i j) H
noncomputable def rI0 (g:Int->Int->V):R2:=fun x y H Q=> ∃ i j,x= .int i/\y= .int j/\Q (g i j) H
noncomputable def rU (g:Int->V):V->Hp->VK->Prop:=fun x H Q=> ∃ i,x= .int i/\Q (g i) H
section
variable {X:Cx}{a b c:Expr}{ta tb tc:TE}{pos:Pos}
theorem Zoq (ha:PE X a ta)(hb:PE X b tb){pins:List (Addr × Obj)}{s:Shared}{σ:St}{H:Hp}{R:V->V->Hp->Prop}(I:Inv X pins σ H s)
  (h:ta σ H fun x H1=>tb σ H1 fun y H2=>R x y H2) {Q:Value->Shared->Prop} {f:Value->Value->Sem Value}
  (hf: ∀ v u s2 x y H2,Inv X pins σ H2 s2->ZX x v->ZX y u->R x y H2->wpAny (model X.prog X.w) X.A (f v u) Q X.xe s2):
  wpAny (model X.prog X.w) X.A (eval a X.env) (fun v s₁=>wpAny (model X.prog X.w) X.A (eval b X.env) (fun u s₂=>wpAny (model X.prog X.w) X.A (f v u) Q X.xe s₂) X.xe s₁) X.xe s:=by
 refine thn (ha pins s σ H _ I h) fun v s1 ⟨x,H1,I1,r1,q1⟩=> ?_
 refine thn (hb pins s1 σ H1 _ I1 q1) fun u s2 ⟨y,H2,I2,r2,q2⟩=> ?_
 exact hf v u s2 x y H2 I2 r1 r2 q2
theorem ZoM {op:Operator}{r:R2}(ho:OpR X (binaryOp op) r)(ha:PE X a ta)(hb:PE X b tb):PE X (.BinOp a op b pos) (tOp r ta tb):=by
 intro pins s σ H Q I h;exact wpAny_BinOp (Zoq ha hb I h fun v u s2 x y H2 I2 rx ry q=>ho pins s2 σ H2 x y v u Q I2 rx ry q)
theorem ZlC {op:UnaryOp}{r:V->Hp->VK->Prop}(ho:UnR X (unaryOp op) r)(ha:PE X a ta):PE X (.UnaryOp op a pos) (tUn r ta):=by
 intro pins s σ H Q I h;exact UnaryOp_ (thn (ha pins s σ H _ I h) fun v s1 ⟨x,H1,I1,r1,q1⟩=>ho pins s1 σ H1 x v Q I1 r1 q1)
theorem opI {f:Value->Value->Sem Value}{C:Int->Int->Prop}{g:Int->Int->Int}
  (rule: ∀ (i j:Int) (t u:Tok) (s:Shared) (Q:Value->Shared->Prop) (E:Value->Shared->Prop),C i j->Q (.int (g i j) s.toks) { s with toks:=s.toks + 1 }->wpAny (model X.prog X.w) X.A (f (.int i t) (.int j u)) Q E s):
  OpR X f (rI C fun i j=> .int (g i j)):=by
 intro pins s σ H x y v u Q I rx ry h;obtain ⟨i,j,rfl,rfl,hc,q⟩:=h
 obtain ⟨t,rfl⟩:=rx
 obtain ⟨t',rfl⟩:=ry
 exact rule i j t t' s _ _ hc ⟨.int (g i j),H,I.tok _,⟨_,rfl⟩,q⟩
theorem ZqQ {f:Value->Value->Sem Value}{g:Int->Int->Int}
  (rule: ∀ (i j:Int) (t u:Tok) (s:Shared) (Q:Value->Shared->Prop) (E:Value->Shared->Prop),Q (.int (g i j) s.toks) { s with toks:=s.toks + 1 }->wpAny (model X.prog X.w) X.A (f (.int i t) (.int j u)) Q E s):
  OpR X f (rI0 fun i j=> .int (g i j)):=by
 intro pins s σ H x y v u Q I rx ry h;obtain ⟨i,j,rfl,rfl,q⟩:=h
 obtain ⟨t,rfl⟩:=rx
 obtain ⟨t',rfl⟩:=ry
 exact rule i j t t' s _ _ ⟨.int (g i j),H,I.tok _,⟨_,rfl⟩,q⟩
theorem Zor {f:Value->Value->Sem Value}{g:Int->Int->Bool}
  (rule: ∀ (i j:Int) (t u:Tok) (s:Shared) (Q:Value->Shared->Prop) (E:Value->Shared->Prop),Q (.bool (g i j)) s->wpAny (model X.prog X.w) X.A (f (.int i t) (.int j u)) Q E s):
  OpR X f (rI0 fun i j=> .bl (g i j)):=by
 intro pins s σ H x y v u Q I rx ry h;obtain ⟨i,j,rfl,rfl,q⟩:=h
 obtain ⟨t,rfl⟩:=rx
 obtain ⟨t',rfl⟩:=ry
 exact rule i j t t' s _ _ ⟨.bl (g i j),H,I,rfl,q⟩
noncomputable def ZqR (i j:Int):Prop:=0<=j/\j<=1000000/\i.natAbs < 2 ^ 64
theorem ZlD:OpR X (binaryOp .Add) (rI0 fun i j=> .int (i + j)):=ZqQ fun _ _ _ _ _ _ _ q=>add_int q
theorem ZlE:OpR X (binaryOp .Sub) (rI0 fun i j=> .int (i - j)):=ZqQ fun _ _ _ _ _ _ _ q=>sub_int q
theorem ZjI:OpR X (binaryOp .Mod) (rI (fun _ j=>j≠0) fun i j=> .int (i.fmod j)):=opI fun _ _ _ _ _ _ _ hc q=>mod_int' hc q
theorem ZlF:OpR X (binaryOp .Pow) (rI ZqR fun i j=> .int (i ^ j.toNat)):=opI fun _ _ _ _ _ _ _ hc q=>pow_int_small hc.1 hc.2.1 hc.2.2 q
theorem unI {f:Value->Sem Value}{g:Int->Int}
  (rule: ∀ (i:Int) (t:Tok) (s:Shared) (Q:Value->Shared->Prop) (E:Value->Shared->Prop),Q (.int (g i) s.toks) { s with toks:=s.toks + 1 }->wpAny (model X.prog X.w) X.A (f (.int i t)) Q E s):
  UnR X f (rU fun i=> .int (g i)):=by
 intro pins s σ H x v Q I rx h;obtain ⟨i,rfl,q⟩:=h
 obtain ⟨t,rfl⟩:=rx
 exact rule i t s _ _ ⟨.int (g i),H,I.tok _,⟨_,rfl⟩,q⟩
theorem ZiS:UnR X (unaryOp .USub) (rU fun i=> .int (-i)):=unI fun _ _ _ _ _ q=>neg_int q
end
section
variable {X:Cx}{a b c:Expr}{ta tb tc:TE}{pos:Pos}
theorem ZlG {pins:List (Addr × Obj)}{σ:St}{H:Hp}{s:Shared}{Q:VK}{k k':Bool}(I:Inv X pins σ H s)(q:Q (.bl k) H)(e:k=k'):EP X pins σ Q (.bool k') s:=by
 subst e;exact ⟨.bl k,H,I,rfl,q⟩
theorem Zdd:OpR X (compareOp .Lt) (rI0 fun i j=> .bl (decide (i < j))):=Zor fun _ _ _ _ _ _ _ q=>lt_int q
theorem ZhU:OpR X (compareOp .LtE) (rI0 fun i j=> .bl (decide (i<=j))):=Zor fun _ _ _ _ _ _ _ q=>le_int q
theorem Zde:OpR X (compareOp .Gt) (rI0 fun i j=> .bl (decide (j < i))):=Zor fun _ _ _ _ _ _ _ q=>gt_int q
theorem ZlH:OpR X (compareOp .GtE) (rI0 fun i j=> .bl (decide (j<=i))):=Zor fun _ _ _ _ _ _ _ q=>ge_int q
theorem ZfU:OpR X (compareOp .In) (fun x y H Q=> ∃ i j,x= .str i/\y= .str j/\Q (.bl (!(Builtin.Str.occurrences j i 0 j.length 1).isEmpty)) H):=by
 intro pins s σ H x y v u Q I rx ry h;obtain ⟨i,j,rfl,rfl,q⟩:=h
 obtain ⟨t,rfl⟩:=rx
 obtain ⟨t',rfl⟩:=ry
 exact in_str (ZlG I q rfl)
theorem OpR.or {f:Value->Value->Sem Value}{r r':R2}(h:OpR X f r)(h':OpR X f r'):OpR X f (fun x y H Q=>r x y H Q\/r' x y H Q):=by
 intro pins s σ H x y v u Q I rx ry q
 rcases q with q | q
 ·exact h pins s σ H x y v u Q I rx ry q
 ·exact h' pins s σ H x y v u Q I rx ry q
theorem ZiT (b:Expr){op:CmpOp}(h:op≠ .In:=by decide)(h2:op≠ .NotIn:=by decide):behindInMarks op b=false:=by
 have e1:(op == CmpOp.In)=false:=by cases op<;>first | rfl | exact absurd rfl h
 have e2:(op == CmpOp.NotIn)=false:=by cases op<;>first | rfl | exact absurd rfl h2
 cases b<;>simp[behindInMarks,e1,e2]
theorem ZjJ {op:CmpOp}{r:R2}(ho:OpR X (compareOp op) r)(ha:PE X a ta)(hb:PE X b tb)(hm:behindInMarks op b=false):PE X (.Compare a [op] [b] pos) (tOp r ta tb):=by
 intro pins s σ H Q I h;exact wpAny_Compare1 (Zoq ha hb I h fun v u s2 x y H2 I2 rx ry q=>ho pins s2 σ H2 x y v u Q I2 rx ry q) hm
noncomputable def ZlI (t:TE):TT:=fun σ H Q=>t σ H fun x H'=> ∃ k,x= .bl k/\Q k H'
theorem ZjK {op:CmpOp}{r:R2}(ho:OpR X (compareOp op) r)(ha:PE X a ta)(hb:PE X b tb)(hm:behindInMarks op b=false):PT X (.Compare a [op] [b] pos) (ZlI (tOp r ta tb)):=by
 intro pins s σ H Q I h;refine wpAny_isTrue_Compare1 (thn (ha pins s σ H _ I h) fun v s1 ⟨x,H1,I1,r1,q1⟩=>thn (hb pins s1 σ H1 _ I1 q1) fun u s2 ⟨y,H2,I2,r2,q2⟩=>
  thn (ho pins s2 σ H2 x y v u _ I2 r1 r2 q2) fun c s3 ⟨z,H3,I3,r3,k,e,q3⟩=> ?_) hm
 subst e;cases r3
 exact wpAny_truthy_bool ⟨H3,I3,q3⟩
noncomputable def ZiU (r r':R2)(ta tb tc:TE):TE:=fun σ H Q=>ta σ H fun x H1=>tb σ H1 fun y H2=>r x y H2 fun z H3=> ∃ k,z= .bl k/\
 (if k=true then tc σ H3 fun w' H4=>r' y w' H4 Q else Q (.bl false) H3)
theorem ZhV {op op':CmpOp}{r r':R2}(ho:OpR X (compareOp op) r)(ho':OpR X (compareOp op') r')(ha:PE X a ta)(hb:PE X b tb)(hc:PE X c tc)
  (hm:lastMarks [op,op'] [b,c]=false:=by with_unfolding_all rfl):PE X (.Compare a [op,op'] [b,c] pos) (ZiU r r' ta tb tc):=by
 intro pins s σ H Q I h;refine Compare_chain (thn (ha pins s σ H _ I h) fun v s1 ⟨x,H1,I1,r1,q1⟩=>chain_link (thn (hb pins s1 σ H1 _ I1 q1) fun u s2 ⟨y,H2,I2,r2,q2⟩=>
  thn (ho pins s2 σ H2 x y v u _ I2 r1 r2 q2) fun d s3 ⟨z,H3,I3,r3,k,e,q3⟩=> ?_)) hm
 subst e;cases r3
 refine wpAny_truthy_bool ?_
 cases k with
 |false=>exact ite_ff ⟨.bl false,H3,I3,rfl,q3⟩
 |true=>exact ite_tt (chain_last (thn (hc pins s3 σ H3 _ I3 q3) fun w' s4 ⟨z',H4,I4,r4,q4⟩=>ho' pins s4 σ H4 y z' u w' Q I4 r2 r4 q4))
theorem Zdf:(sizeLine:Nat) < 2 ^ 63:=by rw[sizeLine_eq];decide
theorem Zfb:OpR X (binaryOp .Add) (fun x y H Q=> ∃ i j,x= .str i/\y= .str j/\i.length + j.length<=sizeLine/\Q (.str (i ++ j)) H):=by
 intro pins s σ H x y v u Q I rx ry h;obtain ⟨i,j,rfl,rfl,hz,q⟩:=h
 obtain ⟨t,rfl⟩:=rx
 obtain ⟨t',rfl⟩:=ry
 exact add_str (fun t' tk=>⟨.str (i ++ j),H,I.tok _,⟨_,rfl⟩,q⟩) hz
noncomputable def ZeB (b:Expr):Prop:= ∀ o i,subscripted b false o i=operate [o,i] (getItem o i)
theorem Zd6 (ha:PE X a ta)(hb:PE X b tb)(hs:ZeB b):
  PE X (.Subscript a b pos) (tOp (fun x y H Q=> ∃ z i c,x= .str z/\y= .int i/\0<=i/\i < 2 ^ 63/\i < z.length/\z.cps[i.toNat]?=some c/\Q (.str ⟨#[c]⟩) H) ta tb):=by
 intro pins s σ H Q I h;refine Subscript_ (Zoq ha hb I h fun v u s2 x y H2 I2 rx ry q=> ?_)
 obtain ⟨z,i,c,rfl,rfl,h0,h63,h1,hc,q⟩:=q
 obtain ⟨t,rfl⟩:=rx
 obtain ⟨t',rfl⟩:=ry
 have e:seqIndex? i z.length=some i.toNat:=PySem.StrLaws.seqIndex_nonneg h0 h1
 exact tail_any (typeIs_str s2 z t) slot_str_getitem.lookup (getItem_str (c:=c) (by
  have e1:decide (i < -(2 ^ 63:Int))=false:=decide_eq_false (by omega)
  have e2:decide (i ≥ 2 ^ 63)=false:=decide_eq_false (by omega)
  rw[e1,e2]<;>rfl) (by rw[e];exact hc) ⟨.str ⟨#[c]⟩,H2,I2.tok _,⟨_,rfl⟩,q⟩) (hs _ _)
theorem Zbz {x:V}{us:List Value}(r:ZK [x] us): ∃ u,us=[u]/\ZX x u:=by
 cases r with
 |cons r1 r2=>cases r2;exact ⟨_,rfl,r1⟩
theorem ZhW {x y:V}{us:List Value}(r:ZK [x,y] us): ∃ u w',us=[u,w']/\ZX x u/\ZX y w':=by
 cases r with
 |cons r1 r2=>
  cases r2 with
  |cons r3 r4=>cases r4;exact ⟨_,_,rfl,r1,r3⟩
theorem Zad:Zbd X (.builtin "abs") (fun xs H Q=> ∃ i,xs=[.int i]/\Q (.int (if i < 0 then -i else i)) H):=by
 intro pins s σ H xs us Q I r h;obtain ⟨i,rfl,q⟩:=h
 obtain ⟨u,rfl,t,rfl⟩:=Zbz r
 exact call_abs_int fun u tk=>⟨.int (if i < 0 then -i else i),H,I.tok _,⟨_,rfl⟩,q⟩
theorem ZfV (hc:X.calm=true):Zbd X (.builtin "max") (fun xs H Q=> ∃ i j,xs=[.int i,.int j]/\Q (.int (if j > i then j else i)) H):=by
 intro pins s σ H xs us Q I r h;obtain ⟨i,j,rfl,q⟩:=h
 obtain ⟨u,w',rfl,⟨t,rfl⟩,⟨t',rfl⟩⟩:=ZhW r
 refine max_two_ints (I.ok.hd hc) fun h' tk k=>⟨_,H,I.kept k,?_,q⟩
 by_cases hj:j > i
 ·rw[if_pos hj,if_pos hj];exact ⟨_,rfl⟩
 ·rw[if_neg hj,if_neg hj];exact ⟨_,rfl⟩
theorem ZfW (hc:X.calm=true):Zbd X (.builtin "min") (fun xs H Q=> ∃ i j,xs=[.int i,.int j]/\Q (.int (if j < i then j else i)) H):=by
 intro pins s σ H xs us Q I r h;obtain ⟨i,j,rfl,q⟩:=h
 obtain ⟨u,w',rfl,⟨t,rfl⟩,⟨t',rfl⟩⟩:=ZhW r
 refine min_two_ints (I.ok.hd hc) fun h' tk k=>⟨_,H,I.kept k,?_,q⟩
 by_cases hj:j < i
 ·rw[if_pos hj,if_pos hj];exact ⟨_,rfl⟩
 ·rw[if_neg hj,if_neg hj];exact ⟨_,rfl⟩
theorem ZfX:Zbd X (.type "int") (fun xs H Q=>(∃ i,xs=[.int i]/\Q (.int i) H)\/ ∃ k,xs=[.bl k]/\Q (.int (if k then 1 else 0)) H):=by
 intro pins s σ H xs us Q I r h
 rcases h with ⟨i,rfl,q⟩ | ⟨k,rfl,q⟩
 ·obtain ⟨u,rfl,t,rfl⟩:=Zbz r
  exact call_int_int ⟨.int i,H,I,⟨_,rfl⟩,q⟩
 ·obtain ⟨u,rfl,r1⟩:=Zbz r
  cases r1
  exact call_int_bool ⟨.int (if k then 1 else 0),H,I.tok _,⟨_,rfl⟩,q⟩
theorem ZaM:Zbd X (.type "str") (fun xs H Q=> ∃ i,xs=[.int i]/\i.natAbs.log2 < 1920/\Q (.str (toString i)) H):=by
 intro pins s σ H xs us Q I r h;obtain ⟨i,rfl,hz,q⟩:=h
 obtain ⟨u,rfl,t,rfl⟩:=Zbz r
 exact PySem.P.str_of_int hz ⟨.str _,H,I.tok _,⟨_,rfl⟩,q⟩
end
end L2
namespace L2
open PySem PySem.Spec PyProof.Rows
section
variable {prog:Program}{w:World}{A:Around}{E:Value->Shared->Prop}{s:Shared}{K:PySem.W.Frag}{x dx C f:Addr}{mA:Str->Option Value}{name:Str}{v:Value}
end
noncomputable def ZiV (f:Str)(v:V):List (Str × V)->List (Str × V)
 | []=>[(f,v)]
 | (g,x) :: r=>if g=f then (g,v) :: r else (g,x) :: ZiV f v r
theorem Zb8 (f g:Str)(v:V): ∀ fs:List (Str × V),(ZiV f v fs).lookup g=if g=f then some v else fs.lookup g
 | []=>by
  show List.lookup g [(f,v)]=_
  by_cases h:g=f
  ·have hb:(g == f)=true:=beq_iff_eq.mpr h
   simp only[List.lookup,hb,if_pos h]
  ·have hb:(g == f)=false:=beq_eq_false_iff_ne.mpr h
   simp only[List.lookup,hb,if_neg h]
 | (k,x) :: r=>by
  have ih:=Zb8 f g v r
  rw[show ZiV f v ((k,x) :: r)=(if k=f then (k,v) :: r else (k,x) :: ZiV f v r) from rfl]
  by_cases hk:k=f
  ·rw[if_pos hk]
   by_cases h:g=k
   ·have hb:(g == k)=true:=beq_iff_eq.mpr h
    simp only[List.lookup,hb,if_pos (h.trans hk)]
   ·have hb:(g == k)=false:=beq_eq_false_iff_ne.mpr h
    simp only[List.lookup,hb,if_neg (fun e:g=f=>h (e.trans hk.symm))]
  ·rw[if_neg hk]
   by_cases h:g=k
   ·have hb:(g == k)=true:=beq_iff_eq.mpr h
    simp only[List.lookup,hb,if_neg (fun e:g=f=>hk (h.symm.trans e))]
   ·have hb:(g == k)=false:=beq_eq_false_iff_ne.mpr h
    simp only[List.lookup,hb];exact ih
theorem Zlo.none_of {o:Option Value}(r:Zlo none o):o=none:=by
 cases o with
 |none=>rfl
 |some u=>exact (show False from r).elim
section
variable {P:Program}{w:World}{H H':Hp}{h h':Heap}{a C dx:Addr}{fs fs':List (Str × V)}
end
section
variable {X:Cx}{pins:List (Addr × Obj)}{σ:St}{H:Hp}{s:Shared}{a C dx:Addr}{fs:List (Str × V)}{f:Str}{v:V}{A:Around}{E:Value->Shared->Prop}
end
section
variable {X:Cx}{o e value:Expr}{f:Str}{pos pos' tpos:Pos}{ta tv:TE}
end
section
variable {X:Cx}{pins:List (Addr × Obj)}{σ:St}{H:Hp}{s:Shared}{A:Around}{E:Value->Shared->Prop}{Q:Value->Shared->Prop}{c:Value}{b:Bool}
end
end L2
namespace L2
open PySem PySem.Spec PyProof.Rows
structure Room (k:Nat) (A:Around):Prop where
 hd:100<=k->A.handled=none
 gd:A.guards=some []
 dp:A.depth + 3 * k + 5 < recursionLimit
 un:A.units + 16 * k + 200 < cLine
theorem Room.mono {j k:Nat}{A:Around}(r:Room k A)(h:j<=k):Room j A:=⟨fun z=>r.hd (Nat.le_trans z h),r.gd,by have:=r.dp;omega,by have:=r.un;omega⟩
theorem Room.deeper {k:Nat}{A:Around}(r:Room (k + 1) A)(env:Env):Room k (A.deeper env):=
 ⟨fun z=>r.hd (Nat.le_succ_of_le z),r.gd,by have:=r.dp;show A.depth + 1 + 3 * k + 5 < _;omega,by have:=r.un;show A.units + 3 + 16 * k + 200 < _;omega⟩
theorem Zfc {A:Around}{C:Addr}{us:List Value}{kw:List (Str × Value)}:(A.under (.builtin "type.__call__" ⟨.ref C :: us,kw⟩)).depth=A.depth + 1:=by
 first | rfl | simp[Around.under,Code.weight,Code.isCreation,Code.isGuard,Code.isCaller,Code.frames,Code.isFrame,guardIds]
theorem Zfd {A:Around}{C:Addr}{us:List Value}{kw:List (Str × Value)}:(A.under (.builtin "type.__call__" ⟨.ref C :: us,kw⟩)).units=A.units + 1:=by
 first | rfl | simp[Around.under,Code.cUnits,Code.frames,Code.isFrame]
theorem Room.make {k:Nat}{A:Around}(r:Room (k + 1) A)(C:Addr)(us:List Value)(kw:List (Str × Value)):Room k (A.under (.builtin "type.__call__" ⟨.ref C :: us,kw⟩)):=
 ⟨fun z=>r.hd (Nat.le_succ_of_le z),r.gd,by have:=r.dp;rw[Zfc];omega,by have:=r.un;rw[Zfd];omega⟩
theorem Room.depth {k:Nat}{A:Around}(r:Room k A):A.depth < recursionLimit:=by have:=r.dp;omega
theorem Room.units {k:Nat}{A:Around}(r:Room k A):A.units + 64 < cLine:=by have:=r.un;omega
noncomputable def tNil:TA:=fun _ H Q=>Q [] H
noncomputable def ZoN (ta:TE)(tr:TA):TA:=fun σ H Q=>ta σ H fun x H1=>tr σ H1 fun xs H2=>Q (x :: xs) H2
section
variable {X:Cx}{e:Expr}{es:List Expr}{te:TE}{t:TA}{pos:Pos}
theorem ZfY:PA X [] tNil:=fun _ _ _ _ H Q I h=>Calls.spliced_nil ⟨[],H,I,.nil,h⟩
theorem Zb9 (ha:PE X e te)(hr:PA X es t)(hs:starEach (e :: es) X.env=(false,eval e X.env) :: starEach es X.env:=by rfl):PA X (e :: es) (ZoN te t):=by
 intro pos pins s σ H Q I h;rw[hs];show wpAny _ _ (spliced ((false,eval e X.env) :: backTo pos (starEach es X.env))) _ _ s
 refine Calls.spliced_cons (thn (ha pins s σ H _ I h) fun u s1 ⟨x,H1,I1,r1,q1⟩=> ?_)
 exact thn (hr pos pins s1 σ H1 _ I1 q1) fun us s2 ⟨xs,H2,I2,r2,q2⟩=>⟨x :: xs,H2,I2,.cons r1 r2,q2⟩
noncomputable def Zr4 (t:TA):TE:=fun σ H Q=>t σ H fun xs H1=>xs.length<=sizeLine/\ ∀ p,H1 p=none->Q (.ref p) (upd H1 p (.tup xs))
noncomputable def Zr5 (t:TA):TE:=fun σ H Q=>t σ H fun xs H1=>xs.length<=sizeLine/\ ∀ p,H1 p=none->Q (.ref p) (upd H1 p (.lst xs))
theorem ZlJ {x1}(h:PA X es t):PE X (.Tuple es x1 pos) (Zr4 t):=by
 intro pins s σ H Q I hq;refine wpAny_Tuple_spliced (thn (h pos pins s σ H _ I hq) fun us s1 ⟨xs,H1,I1,r,z,q⟩=>⟨by rw[<- r.length];exact z,?_⟩)
 have hf:H1 s1.heap.objs.size=none:=I1.hok.fresh (Nat.le_refl _)
 refine ⟨.ref s1.heap.objs.size,upd H1 s1.heap.objs.size (.tup xs),I1.laid (t':=s1.toks) (fun b u e=>Heap.get?_push_of_some _ e) (Nat.le_refl _) ?_,rfl,q _ hf⟩
 exact ⟨z,us,r,⟨_,Heap.get?_push_size _ rfl,rfl,_,rfl⟩⟩
theorem ZlK (h:PA X es t):PE X (.List es pos) (Zr5 t):=by
 intro pins s σ H Q I hq;refine wpAny_List_spliced (thn (h pos pins s σ H _ I hq) fun us s1 ⟨xs,H1,I1,r,z,q⟩=>⟨by rw[<- r.length];exact z,?_⟩)
 have hf:H1 s1.heap.objs.size=none:=I1.hok.fresh (Nat.le_refl _)
 refine ⟨.ref s1.heap.objs.size,upd H1 s1.heap.objs.size (.lst xs),I1.laid (t':=s1.toks) (fun b u e=>Heap.get?_push_of_some _ e) (Nat.le_refl _) ?_,rfl,q _ hf⟩
 exact ⟨z,us,0,r,Heap.get?_push_size _ rfl⟩
end
noncomputable abbrev Sp:=List V->Hp->VK->XK->Prop
noncomputable abbrev CXT:=List Env->Hp->Shared->XK->Value->Shared->Prop
structure Env0 (P:Program) (w:World) (K:PySem.W.Frag) (mg:Str->Option Value) (base:Heap) (A:Around) (outer:List Env) (s:Shared) (H:Hp):Prop where
 frames:A.frames=some outer
 mod:Mod K mg base
 bs: ∀ b o,base.get? b=some o->s.heap.get? b=some o/\H b=none
 bsz:base.objs.size<=s.heap.objs.size
 funs:s.heap.FunFrames base outer
 frf: ∀ b∈frs outer,H b=none
 hok:HOk P w H s.heap
 bare:AllBare s.gens
 qd:Qd A H
noncomputable def CE (outer:List Env)(P:Program)(w:World)(H:Hp)(s:Shared)(Q:VK)(u:Value)(s':Shared):Prop:=
 ∃ v H',s'.os=s.os/\AllBare s'.gens/\Un (frs outer) [] H H' s.heap s'.heap/\HOk P w H' s'.heap/\ZX v u/\Q v H'
noncomputable def CR (CX:CXT)(outer:List Env)(P:Program)(w:World)(H:Hp)(s:Shared)(Q:VK)(E:XK)(r:Result)(s':Shared):Prop:=
 match r with
 | .ok (.ret u)=>CE outer P w H s Q u s'
 | .ok _=>False
 | .error e=>CX outer H s E e s'
structure FnOk (P:Program) (w:World) (K:PySem.W.Frag) (mg:Str->Option Value) (base:Heap) (CX:CXT) (k:Nat) (f:Addr) (fd:FuncData) (ps:List Str) (sp:Sp):Prop where
 len: ∀ vs H Q E,sp vs H Q E->vs.length=ps.length
 run: ∀ (A:Around) (outer:List Env) (s:Shared) (H:Hp) (args:Args) (us:List Value) (vs:List V) (Q:VK) (E:XK),Room k A->Env0 P w K mg base A outer s H->BindsTo s fd args (ps.zip us)->ZK vs us->sp vs H Q E->
  codeAny (model P w) A (.call (.ref f) args) (CR CX outer P w H s Q E) s
theorem Env0.make {P:Program}{w:World}{K:PySem.W.Frag}{mg:Str->Option Value}{base:Heap}{A:Around}{outer:List Env}{s:Shared}{H:Hp}(e:Env0 P w K mg base A outer s H)(C:Addr)(us:List Value)(kw:List (Str × Value)):
  Env0 P w K mg base (A.under (.builtin "type.__call__" ⟨.ref C :: us,kw⟩)) outer s H:=⟨by first | exact e.frames | (simpa [Around.under,Code.envs,Code.isFrame,pushEnvs] using e.frames),e.mod,e.bs,e.bsz,e.funs,e.frf,e.hok,e.bare,e.qd⟩
section
variable {X:Cx}{pins:List (Addr × Obj)}{σ:St}{H:Hp}{s s':Shared}
theorem Inv.env0 (I:Inv X pins σ H s):Env0 X.prog X.w X.K X.mg X.base X.A X.stack s H:=
 ⟨I.ok.frames,I.ok.mod,I.bs,Nat.le_trans I.ok.bsz I.sz,I.stack,I.stkFree,I.hok,I.bare,I.qd⟩
theorem Inv.after {Q:VK}{u:Value}(I:Inv X pins σ H s)(h:CE X.stack X.prog X.w H s Q u s'):EP X pins σ Q u s':=by
 obtain ⟨v,H',os,bare,un,hok,r,q⟩:=h
 obtain ⟨hh,g,d,t,os'⟩:=s'
 obtain rfl:os'=s.os:=os
 exact ⟨v,H',I.call (h':=hh) (g':=g) (d':=d) (t':=t) (ch:=[]) un hok bare (fun b z=>absurd z (by simp)),r,q⟩
end
noncomputable def ZoO (sp:Sp)(dvs:List V)(E:XK)(t:TA):TE:=fun σ H Q=>t σ H fun vs H1=>sp (vs ++ dvs) H1 Q E
noncomputable def ZcN (K:PySem.W.Frag)(fd:FuncData)(ps:List Str)(ds:List Value):Prop:=
 ∀ (s:Shared) (us:List Value),K.In s.heap->(us ++ ds).length=ps.length->BindsTo s fd ⟨us,[]⟩ (ps.zip (us ++ ds))
theorem ZcN.all {K:PySem.W.Frag}{fd:FuncData}{ps:List Str}(h: ∀ us:List Value,us.length=ps.length->bindArgs fd ⟨us,[]⟩=pure (ps.zip us)):ZcN K fd ps []:=fun s us _ hl=>by
 rw[List.append_nil] at hl ⊢;exact .of_eq (h us hl)
noncomputable def ZfZ (CX:CXT)(X:Cx)(E:XK):Prop:= ∀ (pins:List (Addr × Obj)) (σ:St) (H:Hp) (s:Shared) (e:Value) (s':Shared),Inv X pins σ H s->CX X.stack H s E e s'->X.xe e s'
section
variable {X:Cx}{CX:CXT}{k:Nat}{f C:Addr}{fd:FuncData}{ps:List Str}{sp:Sp}{dvs:List V}{ds:List Value}{E:XK}{x m:Str}{p pos apos:Pos}{e o:Expr}{es:List Expr}{ta:TE}{t:TA}
theorem ZlL {pins:List (Addr × Obj)}{σ:St}{H:Hp}{s:Shared}{Q:VK}{us:List Value}{vs:List V}(F:FnOk X.prog X.w X.K X.mg X.base CX k f fd ps sp)(hr:Room k X.A)(hb:ZcN X.K fd ps ds)(hd:ZK dvs ds)(hx:ZfZ CX X E)
  (I:Inv X pins σ H s) (r:ZK vs us) (h:sp (vs ++ dvs) H Q E):wpAny (model X.prog X.w) X.A (call (.ref f) us) (EP X pins σ Q) X.xe s:=by
 have r2:ZK (vs ++ dvs) (us ++ ds):=r.append hd
 have hl:(us ++ ds).length=ps.length:=by rw[<- r2.length];exact F.len _ _ _ _ h
 refine wpAny_call (codeAny_mono (F.run X.A X.stack s H ⟨us,[]⟩ (us ++ ds) (vs ++ dvs) Q E hr I.env0 (hb s us I.kIn hl) r2 h) fun r s' hq=> ?_)
 cases r with
 |error e=>exact hx pins σ H s e s' I hq
 |ok fl=>
  cases fl with
  |ret u=>exact I.after hq
  |next=>exact False.elim hq
  |brk=>exact False.elim hq
  |cont=>exact False.elim hq
theorem ZjL (F:FnOk X.prog X.w X.K X.mg X.base CX k f fd ps sp)(hr:Room k X.A)(hg:Gl X x)(hm:X.mg x=some (.ref f))(hk:PySem.W.keepIn X.K (.ref f)=true)(hb:ZcN X.K fd ps ds)(hd:ZK dvs ds)(hx:ZfZ CX X E)
  (ha:PA X (e :: es) t) (hdb:(x == ("__debug__":Str))=false:=by decide) (he:starEach (e :: es) X.env=(false,eval e X.env) :: starEach es X.env:=by rfl) (hpl:(backTo pos (starEach es X.env)).any (·.1)=false:=by rfl):
  PE X (.Call (.Name x p) (e :: es) [] pos) (ZoO sp dvs E t):=by
 intro pins s σ H Q I h;refine wpAny_Call_Name_kw (ZcL I hg hm ?_ hdb)
 refine PySem.W.callWith_K (h₀:=X.base) I.ok.mod.kin hk (thn (ha pos pins s σ H _ I h) fun us s1 ⟨vs,H1,I1,r,q⟩=>⟨I1.kIn,?_⟩) he hpl
 exact ZlL F hr hb hd hx I1 r q
end
section
variable {X:Cx}{CX:CXT}{k:Nat}{f C:Addr}{fd:FuncData}{ps ks:List Str}{sp:Sp}{E:XK}{x m:Str}{p pos apos kpos:Pos}{e o:Expr}{es:List Expr}{kws:List Keyword}{te ta:TE}{t tk:TA}{nm:Option Str}
variable {g:List Value->List Value->List Value}{gV:List V->List V->List V}
end
structure FnScope (N P:List Str) (sc:Scope):Prop where
 kind:sc.kind= .function
 co:sc.isCoroutine=false
 gen:sc.isGenerator=false
 nd:N.Nodup
 pre:N.take P.length=P
 par: ∀ x∈P,sc.names.lookup x=some .local\/sc.names.lookup x=some .cell
 nofree: ∀ y∈sc.names,y.2≠ .free
theorem Zdg {kindOf:Str->Option NameKind}{x:Str}: ∀ {binds:List (Str × Value)} {m:Str->Option Value},(∀ v,(x,v) ∉ binds)->bindL kindOf binds m x=m x
 | [],_,_=>rfl
 | (n,v) :: r,m,h=>by
  unfold bindL;rw[Zdg fun w hw=>h w (List.mem_cons_of_mem _ hw)]
  split
  ·have:x≠n:=by rintro rfl;exact h v List.mem_cons_self
   simp[this]
  ·rfl
theorem Zdh {kindOf:Str->Option NameKind}{x:Str}: ∀ {binds:List (Str × Value)} {m:Str->Option Value},(∀ v,(x,v) ∉ binds)->bindC kindOf binds m x=m x
 | [],_,_=>rfl
 | (n,v) :: r,m,h=>by
  unfold bindC;rw[Zdh fun w hw=>h w (List.mem_cons_of_mem _ hw)]
  split
  ·rfl
  ·have:x≠n:=by rintro rfl;exact h v List.mem_cons_self
   simp[this]
theorem Zdi {kindOf:Str->Option NameKind}{x:Str}{v:Value}: ∀ {P:List Str} {vs:List Value} {i:Nat} {m:Str->Option Value},P.Nodup->P[i]?=some x->vs[i]?=some v->kindOf x=some .local->
  bindL kindOf (P.zip vs) m x=some v
 | [],_,_,_,_,h,_,_=>by simp at h
 |_ :: _,[],_,_,_,_,h,_=>by simp at h
 |p :: P,w :: vs,0,m,nd,h1,h2,hk=>by
  simp at h1 h2;subst h1;subst h2
  show bindL kindOf ((p,w) :: P.zip vs) m p=_
  unfold bindL;rw[Zdg fun v hv=>(List.nodup_cons.mp nd).1 (List.of_mem_zip hv).1,if_pos hk]
  simp
 |p :: P,w :: vs,i + 1,m,nd,h1,h2,hk=>by
  show bindL kindOf ((p,w) :: P.zip vs) m x=_
  unfold bindL;exact Zdi (i:=i) (List.nodup_cons.mp nd).2 (by simpa using h1) (by simpa using h2) hk
theorem Zdj {kindOf:Str->Option NameKind}{x:Str}{v:Value}: ∀ {P:List Str} {vs:List Value} {i:Nat} {m:Str->Option Value},P.Nodup->P[i]?=some x->vs[i]?=some v->kindOf x≠some .local->
  bindC kindOf (P.zip vs) m x=some v
 | [],_,_,_,_,h,_,_=>by simp at h
 |_ :: _,[],_,_,_,_,h,_=>by simp at h
 |p :: P,w :: vs,0,m,nd,h1,h2,hk=>by
  simp at h1 h2;subst h1;subst h2
  show bindC kindOf ((p,w) :: P.zip vs) m p=_
  unfold bindC;rw[Zdh fun v hv=>(List.nodup_cons.mp nd).1 (List.of_mem_zip hv).1,if_neg hk]
  simp
 |p :: P,w :: vs,i + 1,m,nd,h1,h2,hk=>by
  show bindC kindOf ((p,w) :: P.zip vs) m x=_
  unfold bindC;exact Zdj (i:=i) (List.nodup_cons.mp nd).2 (by simpa using h1) (by simpa using h2) hk
noncomputable def start (N:List Str)(vs:List V):St:=vs.map some ++ List.replicate (N.length - vs.length) none
noncomputable def Zf0 (CX:CXT)(P:Program)(w:World)(K:PySem.W.Frag)(mg:Str->Option Value)(base:Heap)(N:List Str)(qual:Str)(scope:Scope)(f:Addr)(cd:Value)(A:Around)(outer:List Env)(s:Shared)(H:Hp)(E:XK):Cx where
 prog:=P
 w:=w
 K:=K
 mg:=mg
 base:=base
 A:=A.deeper (envOfC qual scope s.heap.objs.size f cd)
 N:=N
 s₀:=s
 H₀:=H
 env:=envOfC qual scope s.heap.objs.size f cd
 outer:=outer
 stack:=envOfC qual scope s.heap.objs.size f cd :: outer
 ex:=[]
 calm:=A.handled.isNone
 fxs:=none
 fn:=fun _=>true
 pn:=[]
 xe:=fun e s'=>wpAny (model P w) (A.deeper (envOfC qual scope s.heap.objs.size f cd)) (leaving (envOfC qual scope s.heap.objs.size f cd) e) (fun _ s''=>CX outer H s E e s'') (fun e' s''=>CX outer H s E e' s'') s'
theorem ZeC {sc:Scope}{n:Nat}{x:Str}(h:sc.names.lookup x=some .cell): ∃ c,(cellsFrom n sc.names []).lookup x=some c:=by
 have q:=PySem.W.cellsFrom_some sc.names n [] (.inl h)
 exact Option.isSome_iff_exists.mp q
theorem Zf1 {CX:CXT}{P:Program}{w:World}{K:PySem.W.Frag}{mg:Str->Option Value}{base:Heap}{N ps:List Str}{qual:Str}{scope:Scope}{f:Addr}{cd:Value}{A:Around}{outer:List Env}{s s1:Shared}{H:Hp}{E:XK}{us:List Value}{vs:List V}
  (S:FnScope N ps scope) (e0:Env0 P w K mg base A outer s H) (hl:vs.length=ps.length) (r:ZK vs us)
  (x:InCallC s s.heap.objs.size (bindL (envOfC qual scope s.heap.objs.size f cd).kindOf (ps.zip us) fun _=>none) (cellsFrom (s.heap.objs.size + 1) scope.names []) (bindC (envOfC qual scope s.heap.objs.size f cd).kindOf (ps.zip us) fun _=>none) s1):
  Inv (Zf0 CX P w K mg base N qual scope f cd A outer s H E) [] (start N vs) H s1:=by
 have hpl:ps.length<=N.length:=by have:=congrArg List.length S.pre;rw[List.length_take] at this;omega
 obtain ⟨h1,tk,rfl,hk⟩:=x.done
 have noA: ∀ b:Addr,b ∉ (Zf0 CX P w K mg base N qual scope f cd A outer s H E).ex:=fun b z=>absurd (show b∈([]:List Addr) from z) (by simp)
 refine ⟨⟨e0.mod,S.kind,rfl,rfl,Nat.le_refl _,fun y z c h1 h2=> ?_,fun y hy=> ?_,fun y c _ h=> ?_,fun z=>Option.isNone_iff_eq_none.mp z,Around.frames_deeper e0.frames,.inr ⟨rfl,rfl⟩,fun b z=>absurd z (noA b),e0.bs,e0.bsz,fun b _ _=>noA b,fun b z=>absurd z (noA b),e0.funs,e0.frf⟩,
  rfl,e0.bare,Un.kept hk,⟨_,x.toInCall.ns,fun i y v h1 h2 h3=> ?_⟩,fun y c h=>⟨_,x.cell y c h⟩,e0.hok.fresh (Nat.le_refl _),fun y c h=> ?_,fun p hp=>absurd (show p∈([]:List (Addr × Obj)) from hp) (by simp),e0.hok.kept hk,?_,e0.qd,.free rfl⟩
 ·exact name_of_addr x.apart (PySem.mem_of_lookup h1) (PySem.mem_of_lookup h2)
 ·have hy:scope.names.lookup y=some .cell\/scope.names.lookup y=some .free:=hy
  rcases hy with hy | hy
  ·exact ZeC hy
  ·exact absurd rfl (S.nofree _ (PySem.mem_of_lookup hy))
 ·exact Nat.le_of_lt (x.above y c (PySem.mem_of_lookup h))
 ·have hi:i < vs.length:=by
   unfold start at h2
   by_cases hi:i < vs.length
   ·exact hi
   ·rw[List.getElem?_append_right (by simpa using hi)] at h2
    rw[List.getElem?_replicate] at h2
    split at h2<;>cases h2
  have ha:vs[i]?=some v:=by
   unfold start at h2;rw[List.getElem?_append_left (by simpa using hi),List.getElem?_map] at h2
   cases e:vs[i]? with
   |none=>rw[e] at h2;cases h2
   |some a=>rw[e] at h2;cases h2;rfl
  obtain ⟨u,hu,rv⟩:=r.get ha
  have hp:ps[i]?=some y:=by
   rw[<- S.pre,List.getElem?_take_of_lt (by omega)];exact h1
  have ndP:ps.Nodup:=by rw[<- S.pre];exact S.nd.sublist (List.take_sublist _ _)
  refine ⟨u,rv,?_⟩
  rcases S.par y (List.mem_of_getElem? hp) with k | k
  ·exact .inl ⟨k,Zdi ndP hp hu k⟩
  ·obtain ⟨c,e⟩:=ZeC (n:=s.heap.objs.size + 1) k
   refine .inr ⟨.inl k,c,e,?_⟩
   have q:=x.cell y c e
   rw[Zdj ndP hp hu (by show scope.names.lookup y≠_;rw[k];decide)] at q
   exact q
 ·exact e0.hok.fresh (Nat.le_of_lt (x.above y c (PySem.mem_of_lookup h)))
 ·unfold start
  show _=N.length
  rw[List.length_append,List.length_map,List.length_replicate];omega
theorem ZlM {CX:CXT}{P:Program}{w:World}{K:PySem.W.Frag}{mg:Str->Option Value}{base:Heap}{k:Nat}{f:Addr}{name qual:Str}{params:Arguments}{body:List Stmt}{scope:Scope}{dV kV doc pm cdv ct oc:Value}{an od:Option Addr}
  {osl:Array (Option Value)} {N ps:List Str} {sp:Sp} (lk:K.lookup f=some ⟨oc,od,.func (PySem.W.fnOf name qual params body scope dV kV doc pm an cdv ct),osl⟩) (hcd:PySem.W.codeIn K cdv qual=true) (S:FnScope N ps scope)
  (len: ∀ vs H Q E,sp vs H Q E->vs.length=ps.length)
  (hbody: ∀ (A:Around) (outer:List Env) (s:Shared) (H:Hp) (vs:List V) (Q:VK) (E:XK),Room k (A.deeper (envOfC qual scope s.heap.objs.size f cdv))->sp vs H Q E->
   ∃ t,PSs (Zf0 CX P w K mg base N qual scope f cdv A outer s H E) body t/\t { nx:=fun _ H'=>Q .non H',rt:=Q } (start N vs) H):
  FnOk P w K mg base CX (k + 1) f (PySem.W.fnOf name qual params body scope dV kV doc pm an cdv ct) ps sp:=by
 refine ⟨len,fun A outer s H args us vs Q E hr e0 hb r hsp=> ?_⟩
 have hl:=len _ _ _ _ hsp
 have KX:K.In s.heap:=e0.mod.kin.keeps fun b o e=>(e0.bs b o e).1
 have lim:s.heap.NoLimit:=e0.mod.nolimit.keeps fun b o e=>(e0.bs b o e).1
 have hkind: ∀ y∈ps.zip us,scope.names.lookup y.1=some .local\/(scope.names.lookup y.1=some .cell/\((cellsFrom (s.heap.objs.size + 1) scope.names []).lookup y.1).isSome=true):=fun ⟨n,v⟩ hy=>by
  rcases S.par n (List.of_mem_zip hy).1 with q | q
  ·exact .inl q
  ·exact .inr ⟨q,PySem.W.cellsFrom_some _ _ _ (.inl q)⟩
 refine codeAny_call_function hr.depth (KX _ _ lk) rfl S.co S.gen rfl (PySem.W.codeRec_of KX hcd) (hb _ _ _ _ ?_)
 refine wpAny_newFunctionEnv_cells S.kind hkind fun env he s1 x=> ?_
 subst he;refine ⟨lim.keeps x.toInCall.keep,codeAny_func ?_⟩
 obtain ⟨t,ht,hq⟩:=hbody A outer s H vs Q E (hr.deeper _) hsp
 have I:Inv (Zf0 CX P w K mg base N qual scope f cdv A outer s H E) [] (start N vs) H s1:=Zf1 S e0 hl r x
 refine wpAny_mono (ht [] s1 (start N vs) H _ I hq) (fun fl s' hs=> ?_) fun e s' hs=>hs
 have fin: ∀ {σ':St} {H':Hp} {v:V} {u:Value},Inv (Zf0 CX P w K mg base N qual scope f cdv A outer s H E) [] σ' H' s'->ZX v u->Q v H'->CE outer P w H s Q u s':=
  fun {σ' H' v u} J rv q=>⟨v,H',J.os,J.bare,J.base,J.hok,rv,q⟩
 cases fl with
 |ret u=>
  obtain ⟨v,σ',H',J,rv,q⟩:=hs
  exact fin J rv q
 |next=>
  obtain ⟨σ',H',J,q⟩:=hs
  exact fin (v:=V.non) (u:=Value.none) J rfl q
 |brk=>
  obtain ⟨_,_,_,q⟩:=hs
  exact False.elim q
 |cont=>
  obtain ⟨_,_,_,q⟩:=hs
  exact False.elim q
end L2
namespace L2
open PySem PySem.Spec PyProof.Rows
section
variable {X:Cx}{x:Str}{p pos:Pos}{e:Expr}{es:List Expr}{t:TA}{id T:String}{r:List V->Hp->VK->Prop}
noncomputable def tCB (r:List V->Hp->VK->Prop)(t:TA):TE:=fun σ H Q=>t σ H fun vs H1=>r vs H1 Q
theorem ZeD (hc:Zbd X (.builtin id) r)(hg:Gl X x)(hm:X.mg x=none)(hv:bootBuiltins x=some (.builtin id))(ha:PA X (e :: es) t)(hn:x≠"__name__":=by decide)(hdb:(x == ("__debug__":Str))=false:=by decide)
  (he:starEach (e :: es) X.env=(false,eval e X.env) :: starEach es X.env:=by rfl) (hpl:(backTo pos (starEach es X.env)).any (·.1)=false:=by rfl):PE X (.Call (.Name x p) (e :: es) [] pos) (tCB r t):=by
 intro pins s σ H Q I h;refine wpAny_Call_Name_kw (Zdc I hg hm hv ?_ hn hdb)
 exact PyProof.Rows.callWith_builtin1 (thn (ha pos pins s σ H _ I h) fun us s1 ⟨vs,H1,I1,r1,q1⟩=>hc pins s1 σ H1 vs us Q I1 r1 q1) he hpl
theorem Zf2 (hc:Zbd X (.type T) r)(hg:Gl X x)(hm:X.mg x=none)(hv:bootBuiltins x=some (.type T))(ha:PA X (e :: es) t)(hn:x≠"__name__":=by decide)(hdb:(x == ("__debug__":Str))=false:=by decide)
  (he:starEach (e :: es) X.env=(false,eval e X.env) :: starEach es X.env:=by rfl) (hpl:(backTo pos (starEach es X.env)).any (·.1)=false:=by rfl):PE X (.Call (.Name x p) (e :: es) [] pos) (tCB r t):=by
 intro pins s σ H Q I h;refine wpAny_Call_Name_kw (Zdc I hg hm hv ?_ hn hdb)
 exact PyProof.Rows.callWith_type1 (thn (ha pos pins s σ H _ I h) fun us s1 ⟨vs,H1,I1,r1,q1⟩=>hc pins s1 σ H1 vs us Q I1 r1 q1) he hpl
end
end L2
namespace HT
open PySem PyProof.Rows
noncomputable def ZjM:List Int->List Int->Bool
 | [],[]=>false
 | [],_ :: _=>true
 |_ :: _,[]=>false
 |x :: xs,y :: ys=>if x=y then ZjM xs ys else decide (x < y)
section
open PySem.SeqAt
open PySem.AutoSeq1 (wpAny_loadPart')
open PySem.MeetsSeq PySem.MeetsSeq2 PySem.MeetsSeq3
end
section
variable {prog:Program}{w:World}{A:Around}{E:Value->Shared->Prop}{s:Shared}
theorem ZjN {t b:Addr}{vs ws:List Value}{Q:Value->Shared->Prop}(ht:IsTup s.heap t vs.toArray)(hb:IsTup s.heap b ws.toArray)(hv:vs≠[])
  (h1:ws=[]->Q (.ref t) s) (h2:ws≠[]->Q (.ref s.heap.objs.size) { s with heap:=s.heap.push { cls:= .type "tuple",data:= .seq (vs ++ ws).toArray } })
  (hsz:vs.length + ws.length<=sizeLine):wpAny (model prog w) A (binaryOp .Add (.ref t) (.ref b)) Q E s:=by
 obtain ⟨⟨cls,dd,data,sl⟩,ho,hc,n,hd⟩:=id ht
 obtain ⟨⟨cls2,dd2,data2,sl2⟩,ho2,hc2,n2,hd2⟩:=id hb
 simp only at hc hd hc2 hd2
 subst hc hd hc2 hd2;have e:vs.toArray ++ ws.toArray=(vs ++ ws).toArray:=by simp
 by_cases hw:ws=[]
 ·exact concat_meets ⟨_,ho,rfl⟩ ⟨_,ho2,rfl⟩ noFill_tuple_add seq_tuple_add PySem.F.slot_tuple_add PySem.F.entry_tuple_add (PySem.F.args_tuple_add_2 _ _)
   (tuple_addW1 t b vs.toArray ws.toArray n n2 dd dd2 sl sl2 (by simpa using hv) (by simp[hw])) ⟨ho,ho2,h1 hw⟩
 ·refine concat_meets ⟨_,ho,rfl⟩ ⟨_,ho2,rfl⟩ noFill_tuple_add seq_tuple_add PySem.F.slot_tuple_add PySem.F.entry_tuple_add (PySem.F.args_tuple_add_2 _ _)
   (tuple_addW2 t b vs.toArray ws.toArray n n2 dd dd2 sl sl2 (by simpa using hv) (by simpa using hw) (by rw[List.size_toArray,List.size_toArray];exact hsz)) ⟨ho,ho2,?_⟩
  rw[e];exact h2 hw
noncomputable def sIx (n d:Nat):Option Int->Nat
 |none=>d
 |some v=>if v < 0 then (v + (n:Int)).toNat else min v.toNat n
theorem ZlN (n d:Nat)(hd:d<=n)(o:Option Int):sIx n d o<=n:=by
 cases o with
 |none=>exact hd
 |some v=>
  show (if v < 0 then (v + (n:Int)).toNat else min v.toNat n)<=n
  by_cases hv:v < 0
  ·rw[if_pos hv];omega
  ·rw[if_neg hv];exact Nat.min_le_right _ _
theorem Zf3 (v:Int)(n d:Nat):(if v < 0 then max (v + (n:Int)) 0 else min v (n:Int))=((sIx n d (some v):Nat):Int):=by
 show (if v < 0 then max (v + (n:Int)) 0 else min v (n:Int))=(((if v < 0 then (v + (n:Int)).toNat else min v.toNat n):Nat):Int)
 by_cases hv:v < 0
 ·simp only[if_pos hv];omega
 ·simp only[if_neg hv];omega
theorem Zfe (lo hi:Option Int)(n:Nat):Builtin.Slice.sliceAdjust lo hi 1 (n:Int)=(((sIx n 0 lo:Nat):Int),((sIx n n hi:Nat):Int)):=by
 have h1: ¬ ((1:Int) < 0):=by omega
 unfold Builtin.Slice.sliceAdjust;simp only[h1,if_false];refine Prod.ext ?_ ?_
 ·cases lo with
  |none=>rfl
  |some v=>exact Zf3 v n 0
 ·cases hi with
  |none=>rfl
  |some v=>exact Zf3 v n n
theorem Zff (i j:Nat):Builtin.Slice.slicePlaces (i:Int) (j:Int) 1=j - i:=by
 unfold Builtin.Slice.slicePlaces;have h1:(1:Int) > 0:=by omega
 simp only[h1,if_true,Int.ediv_one]
 split<;>omega
theorem Zar {v:Value}{o:Option Int}{Q:Option Int->Shared->Prop}(p:IsPart v o)(h:Q o s):wpAny (model prog w) A (Builtin.Slice.slicePartIndex v) Q E s:=by
 cases p with
 |none=>exact slicePart_none h
 |int i t=>exact slicePart_int h
theorem ZbZ {sl:Addr}{vl vu:Value}{lo hi:Option Int}{n:Nat}{Q:Int × Int × Nat->Shared->Prop}(hs:s.heap.IsSliceOf sl vl vu .none)(pl:IsPart vl lo)(pu:IsPart vu hi)
  (h:Q (((sIx n 0 lo:Nat):Int),1,sIx n n hi - sIx n 0 lo) s):wpAny (model prog w) A (Builtin.Slice.sliceApplied (.ref sl) (pure (n:Int))) Q E s:=by
 obtain ⟨os,hos,hcs,hds⟩:=id hs
 unfold Builtin.Slice.sliceApplied Builtin.Slice.sliceFields;refine wpAny_bind (wpAny_bind (wpAny_field hos hds (x:=vl) rfl (wpAny_bind (wpAny_field hos hds (x:=vu) rfl (wpAny_bind (wpAny_field hos hds (x:= .none) rfl (wpAny_pure ?_)))))))
 refine wpAny_bind (slicePart_none ?_)
 show wpAny _ _ (if ((1:Int) == 0)=true then _ else _) _ _ s
 rw[if_neg (by decide)]
 refine wpAny_bind (Zar pl (wpAny_bind (Zar pu (wpAny_bind (wpAny_pure ?_)))))
 show wpAny _ _ (match Builtin.Slice.sliceAdjust lo hi 1 (n:Int) with | (lo,hi)=>pure (lo,(1:Int),Builtin.Slice.slicePlaces lo hi 1)) _ _ s
 rw[Zfe lo hi n];show wpAny _ _ (pure (((sIx n 0 lo:Nat):Int),(1:Int),Builtin.Slice.slicePlaces ((sIx n 0 lo:Nat):Int) ((sIx n n hi:Nat):Int) 1)) _ _ s
 rw[Zff];exact wpAny_pure h
theorem ZhX (xs:Array Value)(i k:Nat):((List.range k).filterMap fun (m:Nat)=>xs[((i:Int) + (m:Int) * 1).toNat]?).toArray=((xs.toList.drop i).take k).toArray:=by
 have e:(fun (m:Nat)=>xs[((i:Int) + (m:Int) * 1).toNat]?)=fun m=>xs[i + m]?:=by
  funext m
  have:((i:Int) + (m:Int) * 1).toNat=i + m:=by omega
  rw[this]
 rw[e]
 have:=pick_run xs i k
 rw[List.filterMap_map] at this;have e2:((fun x=>xs[x]?) ∘ fun x=>i + x)=fun m=>xs[i + m]?:=rfl
 rw[e2] at this;rw[this]
theorem ZbA {t sl:Addr}{items:Array Value}{vl vu:Value}{lo hi:Option Int}{Q:Value->Shared->Prop}(ht:IsTup s.heap t items)(hs:s.heap.IsSliceOf sl vl vu .none)(pl:IsPart vl lo)(pu:IsPart vu hi)
  (hw: ¬ (sIx items.size 0 lo=0/\sIx items.size items.size hi=items.size))
  (h:Q (.ref s.heap.objs.size) { s with heap:=s.heap.push { cls:= .type "tuple",data:= .seq ((items.toList.drop (sIx items.size 0 lo)).take (sIx items.size items.size hi - sIx items.size 0 lo)).toArray } })
  (hsz:items.size<=sizeLine):wpAny (model prog w) A (getItem (.ref t) (.ref sl)) Q E s:=by
 have htake:sizeOk (.seq ((items.toList.drop (sIx items.size 0 lo)).take (sIx items.size items.size hi - sIx items.size 0 lo)).toArray):=by
  show ((items.toList.drop (sIx items.size 0 lo)).take (sIx items.size items.size hi - sIx items.size 0 lo)).toArray.size<=sizeLine
  rw[List.size_toArray,List.length_take,List.length_drop,Array.length_toList];omega
 have hj:sIx items.size items.size hi<=items.size:=ZlN _ _ (Nat.le_refl _) hi
 obtain ⟨os,hos,hcs,hds⟩:=id hs
 have hTs:s.TypeIs (.ref sl) "slice":=⟨os,hos,hcs⟩
 unfold getItem
 try with_reducible refine wpAny_holding ?_
 first | refine wpAny_bind (wpAny_pure ?_) | skip
 refine wpAny_bind (wpAny_sequenceKey ht.typeIs (by decide) ?_)
 refine wpAny_bind (wpAny_callSpecial?_slot (name:=Str.ofString "__getitem__") ht.typeIs PyProof.Rows.slot_tuple_getitem
  (wpAny_call_entry PyProof.Rows.slot_tuple_getitem ht.typeIs entry_tuple_getitem ?_ (args_tuple_getitem _ _)))
 show wpAny _ _ (Builtin.Tuple.tupleItemsOf (.ref t) >>= _) _ _ s
 refine wpAny_bind (tupleItemsOf_ ht ?_)
 refine wpAny_bind (wpAny_typeOf hTs ?_)
 rw[if_pos (by decide)]
 refine wpAny_bind (ZbZ hs pl pu ?_)
 have hno: ¬ ((((sIx items.size 0 lo:Nat):Int) == 0 && (1:Int) == 1 && (sIx items.size items.size hi - sIx items.size 0 lo) == items.size)=true):=by
  intro q;rw[Bool.and_eq_true,Bool.and_eq_true] at q;have q1:((sIx items.size 0 lo:Nat):Int)=0:=eq_of_beq q.1.1
  have q2:sIx items.size items.size hi - sIx items.size 0 lo=items.size:=eq_of_beq q.2
  exact hw ⟨by omega,by omega⟩
 show wpAny _ _ (if (((sIx items.size 0 lo:Nat):Int) == 0 && (1:Int) == 1 && (sIx items.size items.size hi - sIx items.size 0 lo) == items.size)=true then _ else _) _ _ s
 rw[if_neg hno,ZhX]
 first
  |exact wpAny_bind (m:=Builtin.Tuple.tupleExact _) (wpAny_newObj_type (wpAny_pure ⟨_,rfl,wpAny_pure h⟩) htake)
  |exact wpAny_bind (m:=Builtin.Tuple.tupleExact _) (wpAny_newObj_type (wpAny_bind (wpAny_pure (wpAny_pure ⟨_,rfl,wpAny_pure h⟩))) htake)
  |exact wpAny_bind (wpAny_bind (m:=Builtin.Tuple.tupleExact _) (wpAny_newObj_type (wpAny_pure (wpAny_pure ⟨_,rfl,wpAny_pure h⟩)) htake))
  |exact wpAny_bind (wpAny_bind (m:=Builtin.Tuple.tupleExact _) (wpAny_newObj_type (wpAny_pure ⟨_,rfl,wpAny_pure h⟩) htake))
end
end HT
namespace L2
open PySem PySem.Spec PyProof.Rows
noncomputable abbrev TO:=St->Hp->(Option Int->Hp->Prop)->Prop
noncomputable def PO (X:Cx)(e:Option Expr)(t:TO):Prop:=
 ∀ (pins:List (Addr × Obj)) (s:Shared) (σ:St) (H:Hp) (Q:Option Int->Hp->Prop),Inv X pins σ H s->t σ H Q->
  wpAny (model X.prog X.w) X.A (evalPart e X.env) (fun u s'=> ∃ o H',Inv X pins σ H' s'/\IsPart u o/\Q o H') X.xe s
noncomputable def tNoPart:TO:=fun _ H Q=>Q none H
noncomputable def ZoP (t:TE):TO:=fun σ H Q=>t σ H fun x H1=> ∃ i,x= .int i/\Q (some i) H1
section
variable {X:Cx}{e:Expr}{te:TE}{lo hi:Option Expr}{tl th:TO}{pos p2:Pos}
theorem ZjO:PO X none tNoPart:=by
 intro pins s σ H Q I h;rw[evalPart_none];exact wpAny_pure ⟨none,H,I,.none,h⟩
theorem ZjP (h:PE X e te):PO X (some e) (ZoP te):=by
 intro pins s σ H Q I hw;rw[evalPart_some];refine thn (h pins s σ H _ I hw) fun u s1 ⟨x,H1,I1,r1,q1⟩=> ?_
 obtain ⟨i,rfl,q⟩:=q1
 obtain ⟨t,rfl⟩:=r1
 exact ⟨some i,H1,I1,.int i t,q⟩
noncomputable def SlR (X:Cx)(r:V->Option Int->Option Int->Hp->VK->Prop):Prop:=
 ∀ (pins:List (Addr × Obj)) (s:Shared) (σ:St) (H:Hp) (x:V) (v vl vu:Value) (lo hi:Option Int) (sl:Addr) (Q:VK),Inv X pins σ H s->ZX x v->s.heap.IsSliceOf sl vl vu .none->IsPart vl lo->IsPart vu hi->r x lo hi H Q->
  ∃ T id,typeLookup (.type T) "__getitem__"=pure (some (.builtin id))/\s.TypeIs v T/\wpAny (model X.prog X.w) X.A (getItem v (.ref sl)) (EP X pins σ Q) X.xe s
theorem SlR.or {r r':V->Option Int->Option Int->Hp->VK->Prop}(h:SlR X r)(h':SlR X r'):SlR X (fun x lo hi H Q=>r x lo hi H Q\/r' x lo hi H Q):=by
 intro pins s σ H x v vl vu lo hi sl Q I rx hs pl pu q
 rcases q with q | q
 ·exact h pins s σ H x v vl vu lo hi sl Q I rx hs pl pu q
 ·exact h' pins s σ H x v vl vu lo hi sl Q I rx hs pl pu q
noncomputable def tSl (r:V->Option Int->Option Int->Hp->VK->Prop)(te:TE)(tl th:TO):TE:=fun σ H Q=>te σ H fun x H1=>tl σ H1 fun l H2=>th σ H2 fun u H3=>r x l u H3 Q
theorem ZeE {r:V->Option Int->Option Int->Hp->VK->Prop}(hr:SlR X r)(he:PE X e te)(hl:PO X lo tl)(hu:PO X hi th):PE X (.Subscript e (.Slice lo hi none p2) pos) (tSl r te tl th):=by
 intro pins s σ H Q I h;refine Subscript_ (thn (he pins s σ H _ I h) fun v s1 ⟨x,H1,I1,r1,q1⟩=> ?_)
 refine wpAny_Slice (thn (hl pins s1 σ H1 _ I1 q1) fun vl s2 ⟨l,H2,I2,pl,q2⟩=>thn (hu pins s2 σ H2 _ I2 q2) fun vu s3 ⟨u,H3,I3,pu,q3⟩=> ?_)
 rw[evalPart_none];refine wpAny_pure ?_
 have I4:Inv X pins σ H3 { s3 with heap:=s3.heap.push { cls:= .type "slice",data:= .fields #[vl,vu,.none] } }:=I3.kept (t':=s3.toks) fun b ob q=>Heap.get?_push_of_some _ q
 obtain ⟨T,id,hT,ht,hg⟩:=hr pins { s3 with heap:=s3.heap.push { cls:= .type "slice",data:= .fields #[vl,vu,.none] } } σ H3 x v vl vu l u s3.heap.objs.size Q I4 r1 (Heap.IsSliceOf.new ..) pl pu q3
 show wpAny (model X.prog X.w) X.A (subscriptTail e (.Slice lo hi none p2) v (.ref s3.heap.objs.size)) (EP X pins σ Q) X.xe { s3 with heap:=s3.heap.push { cls:= .type "slice",data:= .fields #[vl,vu,.none] } }
 exact tail_any (ops:=[.ref s3.heap.objs.size,v]) ht hT hg (by with_unfolding_all rfl)
noncomputable def ZiW (xs:List V)(lo hi:Option Int):List V:=(xs.drop (HT.sIx xs.length 0 lo)).take (HT.sIx xs.length xs.length hi - HT.sIx xs.length 0 lo)
theorem Zca (xs:List V)(lo hi:Option Int):(ZiW xs lo hi).length<=xs.length:=by
 unfold ZiW;rw[List.length_take,List.length_drop];omega
noncomputable def Zr6 (K:PySem.W.Frag):V->Option Int->Option Int->Hp->VK->Prop:=fun x lo hi H Q=> ∃ a xs,x= .ref a/\SqT K H a xs/\
 ¬ (HT.sIx xs.length 0 lo=0/\HT.sIx xs.length xs.length hi=xs.length)/\ ∀ p,H p=none->Q (.ref p) (upd H p (.tup (ZiW xs lo hi)))
theorem ZlO:SlR X (Zr6 X.K):=by
 intro pins s σ H x v vl vu lo hi sl Q I rx hs pl pu h;obtain ⟨a,xs,rfl,hx,hw,q⟩:=h
 cases rx
 obtain ⟨its,r,ht,hz⟩:=I.tuple hx
 have hlen:its.toArray.size=xs.length:=by rw[List.size_toArray];exact r.length.symm
 refine ⟨"tuple",_,PyProof.Rows.slot_tuple_getitem.lookup,ht.typeIs,?_⟩
 refine HT.ZbA ht hs pl pu (by rw[hlen];exact hw) ?_ (by rw[hlen];exact hz)
 rw[hlen];refine ⟨.ref s.heap.objs.size,_,I.laid (t':=s.toks) (o:= .tup (ZiW xs lo hi)) (fun b ob q=>Heap.get?_push_of_some _ q) (Nat.le_refl _) ?_,rfl,q _ (I.hok.fresh (Nat.le_refl _))⟩
 exact ⟨Nat.le_trans (Zca xs lo hi) hz,_,(r.drop (HT.sIx xs.length 0 lo)).take (HT.sIx xs.length xs.length hi - HT.sIx xs.length 0 lo),IsTup.new _ _⟩
noncomputable def ZjQ (K:PySem.W.Frag):R2:=fun x y H Q=> ∃ a b xs ys,x= .ref a/\y= .ref b/\SqT K H a xs/\SqT K H b ys/\xs≠[]/\xs.length + ys.length<=sizeLine/\
 (ys=[]->Q (.ref a) H)/\(ys≠[]-> ∀ p,H p=none->Q (.ref p) (upd H p (.tup (xs ++ ys))))
theorem ZK.nil_iff {xs:List V}{us:List Value}(r:ZK xs us):us=[] ↔ xs=[]:=by
 cases r with
 |nil=>simp
 |cons _ _=>simp
theorem ZjR:OpR X (binaryOp .Add) (ZjQ X.K):=by
 intro pins s σ H x y v u Q I rx ry h;obtain ⟨a,b,xs,ys,rfl,rfl,ha,hb,hx,hz,q1,q2⟩:=h
 cases rx
 cases ry
 obtain ⟨its,r1,p1,_⟩:=I.tuple ha
 obtain ⟨its2,r2,p2,_⟩:=I.tuple hb
 refine HT.ZjN p1 p2 (fun z=>hx (r1.nil_iff.mp z)) (fun z=>⟨.ref a,H,I,rfl,q1 (r2.nil_iff.mp z)⟩) (fun z=> ?_) (by rw[<- r1.length,<- r2.length];exact hz)
 refine ⟨.ref s.heap.objs.size,_,I.laid (t':=s.toks) (o:= .tup (xs ++ ys)) (fun b ob q=>Heap.get?_push_of_some _ q) (Nat.le_refl _) ?_,rfl,q2 (fun w=>z (r2.nil_iff.mpr w)) _ (I.hok.fresh (Nat.le_refl _))⟩
 exact ⟨by rw[List.length_append];exact hz,_,r1.append r2,IsTup.new _ _⟩
end
end L2
namespace L2
open PySem PySem.Spec PyProof.Rows
noncomputable def ixN (n:Nat)(i:Int):Option Nat:=if 0<=i then (if i < n then some i.toNat else none) else if -(n:Int)<=i then some (i + n).toNat else none
noncomputable def atI {α:Type}(xs:List α)(i:Int):Option α:=(ixN xs.length i).bind fun j=>xs[j]?
theorem Zf4 {n:Nat}{i:Int}{j:Nat}(h:ixN n i=some j):seqIndex? i n=some j/\j < n/\ -(n:Int)<=i/\i < n:=by
 unfold ixN at h
 by_cases h0:0<=i
 ·rw[if_pos h0] at h
  by_cases h1:i < n
  ·rw[if_pos h1] at h
   have e:i.toNat=j:=Option.some.inj h
   exact ⟨by rw[seqIndex_of h0 h1,e],by omega,by omega,h1⟩
  ·rw[if_neg h1] at h;cases h
 ·rw[if_neg h0] at h
  by_cases h1: -(n:Int)<=i
  ·rw[if_pos h1] at h
   have e:(i + n).toNat=j:=Option.some.inj h
   exact ⟨by rw[seqIndex_neg (by omega) h1,e],by omega,h1,by omega⟩
  ·rw[if_neg h1] at h;cases h
theorem Zf5 {α:Type}{xs:List α}{i:Int}{v:α}(h:atI xs i=some v): ∃ j,seqIndex? i xs.length=some j/\xs[j]?=some v/\j < xs.length/\ -(xs.length:Int)<=i/\i < xs.length:=by
 unfold atI at h;cases e:ixN xs.length i with
 |none=>rw[e] at h;cases h
 |some j=>
  rw[e] at h;obtain ⟨h1,h2,h3,h4⟩:=Zf4 e
  exact ⟨j,h1,h,h2,h3,h4⟩
theorem ZjS {α:Type}{xs:List α}{j:Nat}{v:α}(h:xs[j]?=some v):atI xs (j:Int)=some v:=by
 have hj:j < xs.length:=(List.getElem?_eq_some_iff.mp h).1
 have e:ixN xs.length (j:Int)=some j:=by
  unfold ixN;rw[if_pos (by omega),if_pos (by omega)];simp
 unfold atI;rw[e];exact h
noncomputable def Zf6 (b:Expr):Prop:= ∀ o i,subscripted b false o i=operate [o,i] (getItem o i)
noncomputable def IxR (X:Cx)(r:R2):Prop:=
 ∀ (value slice:Expr) (pins:List (Addr × Obj)) (s:Shared) (σ:St) (H:Hp) (x y:V) (v u:Value) (Q:VK),Inv X pins σ H s->ZX x v->ZX y u->r x y H Q->
  subscripted slice false v u=operate [v,u] (getItem v u)->wpAny (model X.prog X.w) X.A (subscriptTail value slice v u) (EP X pins σ Q) X.xe s
noncomputable def MtR (X:Cx)(id:String)(r:V->List V->Hp->VK->Prop):Prop:=
 ∀ (pins:List (Addr × Obj)) (s:Shared) (σ:St) (H:Hp) (x:V) (xs:List V) (v:Value) (us:List Value) (Q:VK),Inv X pins σ H s->ZX x v->ZK xs us->r x xs H Q->
  wpAny (model X.prog X.w) X.A (call (.builtin id) (v :: us)) (EP X pins σ Q) X.xe s
section
variable {X:Cx}{a b:Expr}{ta tb:TE}{pos:Pos}
theorem IxR.or {r r':R2}(h:IxR X r)(h':IxR X r'):IxR X (fun x y H Q=>r x y H Q\/r' x y H Q):=by
 intro value slice pins s σ H x y v u Q I rx ry q hs
 rcases q with q | q
 ·exact h value slice pins s σ H x y v u Q I rx ry q hs
 ·exact h' value slice pins s σ H x y v u Q I rx ry q hs
theorem ZoQ {r:R2}(hr:IxR X r)(ha:PE X a ta)(hb:PE X b tb)(hs:Zf6 b):PE X (.Subscript a b pos) (tOp r ta tb):=by
 intro pins s σ H Q I h;exact Subscript_ (Zoq ha hb I h fun v u s2 x y H2 I2 rx ry q=>hr a b pins s2 σ H2 x y v u Q I2 rx ry q (hs _ _))
noncomputable def ZqS (K:PySem.W.Frag):R2:=fun x y H Q=> ∃ p xs i v,x= .ref p/\y= .int i/\SqL K H p xs/\atI xs i=some v/\Q v H
noncomputable def ZqT (K:PySem.W.Frag):R2:=fun x y H Q=> ∃ p xs i v,x= .ref p/\y= .int i/\SqT K H p xs/\atI xs i=some v/\Q v H
theorem ZjT:IxR X (ZqS X.K):=by
 intro value slice pins s σ H x y v u Q I rx ry h hs;obtain ⟨p,xs,i,z,rfl,rfl,hq,he,q⟩:=h
 cases rx
 obtain ⟨t,rfl⟩:=ry
 obtain ⟨its,r,pl,hz⟩:=I.list hq
 obtain ⟨j,h1,h2,h3,h4,h5⟩:=Zf5 he
 obtain ⟨w,ew,rw'⟩:=r.get h2
 have hl:=r.length
 have hn:=Zdf
 have fin:EP X pins σ Q w s:=⟨z,H,I,rw',q⟩
 by_cases h0:0<=i
 ·have hj:i.toNat=j:=by
   rw[seqIndex_of h0 h5] at h1;exact Option.some.inj h1
  exact item_listR pl.isList h0 (by omega) (by rw[hj];simpa using ew) fin hs
 ·have hj:(i + (its.toArray.size:Int)).toNat=j:=by
   rw[seqIndex_neg (by omega) h4] at h1
   rw[List.size_toArray,<- hl];exact Option.some.inj h1
  exact subscriptTail_builtinR (x:=w) pl.isList.typeIs slot_list_getitem.lookup
   (wpAny_getItem_list_neg (Q:=fun r s'=>r=w/\EP X pins σ Q r s') pl.isList (by omega) (by rw[List.size_toArray]<;>omega) (by omega) (by rw[hj];simpa using ew) ⟨rfl,fin⟩) hs
theorem ZlP:IxR X (ZqT X.K):=by
 intro value slice pins s σ H x y v u Q I rx ry h hs;obtain ⟨p,xs,i,z,rfl,rfl,hq,he,q⟩:=h
 cases rx
 obtain ⟨t,rfl⟩:=ry
 obtain ⟨its,r,pl,hz⟩:=I.tuple hq
 obtain ⟨j,h1,h2,h3,h4,h5⟩:=Zf5 he
 obtain ⟨w,ew,rw'⟩:=r.get h2
 have hl:=r.length
 have hn:=Zdf
 have fin:EP X pins σ Q w s:=⟨z,H,I,rw',q⟩
 exact subscriptTail_builtinR (x:=w) pl.typeIs slot_tuple_getitem.lookup
  (getItem_tuple (j:=j) (Q:=fun r s'=>r=w/\EP X pins σ Q r s') pl (by omega) (by omega) (by rw[List.size_toArray,<- hl];exact h1) (by simpa using ew) ⟨rfl,fin⟩) hs
theorem Zfg (its:List Value)(n j:Nat)(u:Value):Obj.mapSeq (·.setIfInBounds j u) { cls:= .type "list",data:= .seq its.toArray n }={ cls:= .type "list",data:= .seq (its.set j u).toArray n }:=by
 simp[Obj.mapSeq]
theorem Inv.lst {pins:List (Addr × Obj)}{σ:St}{H:Hp}{s:Shared}{p:Addr}{xs:List V}(I:Inv X pins σ H s)(h:H p=some (.lst xs)):
  ∃ (its:List Value) (n:Nat),ZK xs its/\s.heap.get? p=some { cls:= .type "list",data:= .seq its.toArray n }/\xs.length<=sizeLine:=by
 obtain ⟨z,its,n,r,e⟩:=I.hok p _ h
 exact ⟨its,n,r,e,z⟩
theorem Inv.lstUpd {pins:List (Addr × Obj)}{σ:St}{H:Hp}{s:Shared}{p:Addr}{xs ys:List V}{its its':List Value}{n n':Nat}{f:Obj->Obj}(I:Inv X pins σ H s)(h:H p=some (.lst xs))
  (ho:s.heap.get? p=some { cls:= .type "list",data:= .seq its.toArray n }) (hf:f { cls:= .type "list",data:= .seq its.toArray n }={ cls:= .type "list",data:= .seq its'.toArray n' }) (r:ZK ys its') (hz:ys.length<=sizeLine) (t:Nat):
  Inv X pins σ (upd H p (.lst ys)) { s with heap:=s.heap.update p f,toks:=t }:=by
 have e:(s.heap.update p f).get? p=some { cls:= .type "list",data:= .seq its'.toArray n' }:=by
  rw[Heap.get?_update_self f ho (by rw[hf]<;>rfl),hf]
 refine I.write (x:=p) (e:=p) (by rw[h];trivial) (.inl rfl) (fun b u hb q=>(Heap.get?_update_other _ _ (Ne.symm hb)).trans q) ⟨_,e⟩ ?_
 exact ⟨hz,its',n',r,e⟩
noncomputable def rSetL:V->V->V->Hp->(Hp->Prop)->Prop:=fun o i v H Q=> ∃ p xs k j,o= .ref p/\i= .int k/\H p=some (.lst xs)/\ixN xs.length k=some j/\Q (upd H p (.lst (xs.set j v)))
theorem ZhY:ZqO X rSetL:=by
 intro pins s σ H o i v ov iv u Q I ro ri rv h;obtain ⟨p,xs,k,j,rfl,rfl,hp,hj,q⟩:=h
 cases ro
 obtain ⟨t,rfl⟩:=ri
 obtain ⟨its,n,r,ho,hz⟩:=I.lst hp
 obtain ⟨h1,h2,h3,h4⟩:=Zf4 hj
 have hl:=r.length
 have hn:=Zdf
 have I':Inv X pins σ (upd H p (.lst (xs.set j v))) { s with heap:=s.heap.update p (Obj.mapSeq (·.setIfInBounds j u)) }:=
  I.lstUpd hp ho (Zfg its n j u) (r.set rv j) (by rw[List.length_set];exact hz) s.toks
 by_cases h0:0<=k
 ·have hk:k.toNat=j:=by
   rw[seqIndex_of h0 h4] at h1;exact Option.some.inj h1
  exact PySem.W.ki_setAt ho h0 (by omega) (by rw[List.size_toArray,<- hl];exact h4) (by rw[hk];exact ⟨_,I',q⟩)
 ·have hk:(k + (its.toArray.size:Int)).toNat=j:=by
   rw[seqIndex_neg (by omega) h3] at h1
   rw[List.size_toArray,<- hl];exact Option.some.inj h1
  exact PySem.W.ki_setBack ho (by omega) (by rw[List.size_toArray,<- hl];exact h3) (by omega) (by rw[hk];exact ⟨_,I',q⟩)
theorem Zdk (lo hi:Option Int)(n:Nat):(sliceBounds lo hi none n).1=((HT.sIx n 0 lo:Nat):Int)/\(sliceBounds lo hi none n).2.1=((HT.sIx n n hi:Nat):Int)/\(sliceBounds lo hi none n).2.2=1:=by
 refine ⟨?_,?_,rfl⟩
 ·cases lo with
  |none=>simp[sliceBounds,HT.sIx]
  |some i=>
   simp only[sliceBounds,HT.sIx,Option.getD_none,show (1:Int) > 0 by decide,if_true]
   by_cases h:i < 0
   ·simp only[h,if_true]<;>omega
   ·simp only[h,if_false]<;>omega
 ·cases hi with
  |none=>simp[sliceBounds,HT.sIx]
  |some i=>
   simp only[sliceBounds,HT.sIx,Option.getD_none,show (1:Int) > 0 by decide,if_true]
   by_cases h:i < 0
   ·simp only[h,if_true]<;>omega
   ·simp only[h,if_false]<;>omega
theorem ZcO (its:List Value)(lo hi:Option Int):slicePick its.toArray lo hi none=((its.drop (HT.sIx its.length 0 lo)).take (HT.sIx its.length its.length hi - HT.sIx its.length 0 lo)).toArray:=by
 obtain ⟨h1,h2,h3⟩:=Zdk lo hi its.toArray.size
 unfold slicePick;rw[h1,h2,h3];simp only[sliceRange_one,pick_run,List.size_toArray]<;>rfl
noncomputable def Zr7 (K:PySem.W.Frag):V->Option Int->Option Int->Hp->VK->Prop:=fun x lo hi H Q=> ∃ a xs,x= .ref a/\SqL K H a xs/\ ∀ p,H p=none->Q (.ref p) (upd H p (.lst (ZiW xs lo hi)))
theorem ZjU:SlR X (Zr7 X.K):=by
 intro pins s σ H x v vl vu lo hi sl Q I rx hs pl pu h;obtain ⟨a,xs,rfl,hx,q⟩:=h
 cases rx
 obtain ⟨its,r,ht,hz⟩:=I.list hx
 have hlen:=r.length
 refine ⟨"list",_,slot_list_getitem.lookup,ht.isList.typeIs,?_⟩
 refine wpAny_getItem_list_slice ht.isList hs pl pu .none (by simp) ?_ (by rw[List.size_toArray]<;>omega)
 rw[ZcO,<- hlen];refine ⟨.ref s.heap.objs.size,_,I.laid (t':=s.toks) (o:= .lst (ZiW xs lo hi)) (fun b ob q=>Heap.get?_push_of_some _ q) (Nat.le_refl _) ?_,rfl,q _ (I.hok.fresh (Nat.le_refl _))⟩
 exact ⟨Nat.le_trans (Zca xs lo hi) hz,_,0,(r.drop (HT.sIx xs.length 0 lo)).take (HT.sIx xs.length xs.length hi - HT.sIx xs.length 0 lo),Heap.get?_push_size _ rfl⟩
theorem Zk:Zbd X (.builtin "len") (fun xs H Q=> ∃ p ys,xs=[.ref p]/\(SqL X.K H p ys\/SqT X.K H p ys)/\Q (.int ys.length) H):=by
 intro pins s σ H xs us Q I r h;obtain ⟨p,ys,rfl,hq,q⟩:=h
 obtain ⟨u,rfl,rx⟩:=Zbz r
 cases rx
 have hn:=Zdf
 rcases hq with hq | hq
 ·obtain ⟨its,r',pl,hz⟩:=I.list hq
  have hlen:=r'.length
  exact Calls.call_len_list pl.isList (by simp only[List.size_toArray]<;>omega) ⟨.int ys.length,H,I.tok _,⟨s.toks + 1,by rw[List.size_toArray,hlen]⟩,q⟩
 ·obtain ⟨its,r',pl,hz⟩:=I.tuple hq
  have hlen:=r'.length
  exact len_tuple pl (by simp only[List.size_toArray]<;>omega) ⟨.int ys.length,H,I.tok _,⟨s.toks + 1,by rw[List.size_toArray,hlen]⟩,q⟩
theorem ZbP:Zbd X (.builtin "len") (fun xs H Q=> ∃ z,xs=[.str z]/\z.length<=sizeLine/\Q (.int z.length) H):=by
 intro pins s σ H xs us Q I r h;obtain ⟨z,rfl,hz,q⟩:=h
 obtain ⟨u,rfl,t,rfl⟩:=Zbz r
 have hn:=Zdf
 exact len_str (by omega) ⟨.int z.length,H,I.tok _,⟨_,rfl⟩,q⟩
theorem ZaN:Zbd X (.type "list") (fun xs H Q=> ∃ p ys,xs=[.ref p]/\(SqL X.K H p ys\/SqT X.K H p ys)/\ ∀ l,H l=none->Q (.ref l) (upd H l (.lst ys))):=by
 intro pins s σ H xs us Q I r h;obtain ⟨p,ys,rfl,hq,q⟩:=h
 obtain ⟨u,rfl,rx⟩:=Zbz r
 cases rx
 have fin: ∀ (its:List Value),ZK ys its->ys.length<=sizeLine-> ∀ (h':Heap) (c':Nat),(∀ b o',s.heap.get? b=some o'->h'.get? b=some o')->
   h'.get? s.heap.objs.size=some { cls:= .type "list",dict:=none,data:= .seq its.toArray c',slots:= #[] }->EP X pins σ Q (.ref s.heap.objs.size) { s with heap:=h' }:=fun its r' hz h' c' kp e=>
  ⟨.ref s.heap.objs.size,_,I.laid (t':=s.toks) kp (Nat.le_refl _) (show Za5 X.prog X.w _ h' _ (.lst ys) from ⟨hz,its,c',r',e⟩),rfl,q _ (I.hok.fresh (Nat.le_refl _))⟩
 rcases hq with hq | hq
 ·obtain ⟨its,r',pl,hz⟩:=I.list hq
  have hlen:=r'.length
  obtain ⟨o,ho,hc,n,hd⟩:=pl.isList
  exact call_list_seq p (.inl rfl) ho hc hd (fun h' c' kp e=>fin its r' hz h' c' kp e) (by simp only[List.size_toArray]<;>omega)
 ·obtain ⟨its,r',pl,hz⟩:=I.tuple hq
  have hlen:=r'.length
  obtain ⟨o,ho,hc,n,hd⟩:=pl
  exact call_list_seq p (.inr rfl) ho hc hd (fun h' c' kp e=>fin its r' hz h' c' kp e) (by simp only[List.size_toArray]<;>omega)
noncomputable def tyV (K:PySem.W.Frag)(T:String)(x:V)(H:Hp):Prop:=match x with
 | .str _=>T="str"
 | .int _=>T="int"
 | .ref p=>(T="list"/\ ∃ xs,SqL K H p xs)\/(T="tuple"/\ ∃ o,K.lookup p=some o/\o.cls= .type "tuple"/\o.dict=none)\/
   (T="dict"/\((∃ kvs,H p=some (.dK kvs))\/ ∃ kvs,H p=some (.dT kvs)))\/(T="set"/\ ∃ S n,H p=some (.set S n))
 |_=>False
theorem ZlQ {pins:List (Addr × Obj)}{σ:St}{H:Hp}{s:Shared}{T:String}{x:V}{v:Value}(I:Inv X pins σ H s)(r:ZX x v)(ty:tyV X.K T x H):
  s.TypeIs v T/\ ∀ a,v= .ref a-> ∃ ob,s.heap.get? a=some ob/\ob.dict=none:=by
 cases x with
 |str z=>
  obtain ⟨t,rfl⟩:=r
  cases (show T="str" from ty)
  exact ⟨typeIs_str s z t,fun _ e=>nomatch e⟩
 |int i=>
  obtain ⟨t,rfl⟩:=r
  cases (show T="int" from ty)
  exact ⟨typeIs_int s i t,fun _ e=>nomatch e⟩
 |ref p=>
  cases r
  rcases ty with ⟨rfl,xs,hq⟩ | ⟨rfl,o,hk,hc,hd⟩ | ⟨rfl,hk⟩ | ⟨rfl,S,n,hk⟩
  ·obtain ⟨its,_,pl,_⟩:=I.list hq
   refine ⟨pl.isList.typeIs,fun a e=> ?_⟩
   cases e
   obtain ⟨o,n,e,c,hd,_⟩:=pl
   exact ⟨o,e,hd⟩
  ·refine ⟨⟨o,I.kIn p o hk,hc⟩,fun a e=> ?_⟩
   cases e
   exact ⟨o,I.kIn _ o hk,hd⟩
  ·have z: ∃ o,s.heap.get? p=some o/\o.ExactDict:=by
    rcases hk with ⟨kvs,hk⟩ | ⟨kvs,hk⟩
    ·obtain ⟨_,_,_,_,o,_,_,e,ex,_⟩:=I.hok p _ hk
     exact ⟨o,e,ex⟩
    ·obtain ⟨_,_,_,_,o,_,_,e,ex,_⟩:=I.hok p _ hk
     exact ⟨o,e,ex⟩
   obtain ⟨o,e,ex⟩:=z
   refine ⟨⟨o,e,ex.1⟩,fun a e2=> ?_⟩
   cases e2
   exact ⟨o,e,ex.2.1⟩
  ·obtain ⟨o,_,_,_,e,ex,_⟩:=I.hok p _ hk
   refine ⟨⟨o,e,ex.1⟩,fun a e2=> ?_⟩
   cases e2
   exact ⟨o,e,ex.2.1⟩
 |_=>exact False.elim ty
noncomputable def tBM (K:PySem.W.Frag)(T:String)(r:V->List V->Hp->VK->Prop)(to:TE)(t:TA):TE:=fun σ H Q=>to σ H fun x H1=>tyV K T x H1/\t σ H1 fun xs H2=>r x xs H2 Q
variable {o e:Expr}{es:List Expr}{to:TE}{t:TA}{name:Str}{apos cpos:Pos}{T id:String}{r:V->List V->Hp->VK->Prop}
theorem ZlR (pa:PlainAttrs T)(slot:Slot T name id)(hty:typeOf (.builtin id)=pure (.type "method_descriptor"))(hm:MtR X id r)(ho:PE X o to)(ha:PA X (e :: es) t)
  (hbase:attributeBase o name X.env (eval o X.env)=eval o X.env:=by rfl)
  (hfew:((backTo cpos (starEach (e :: es) X.env)).all (fun x=> !x.1) && (backToKw cpos (keywordEach [] X.env)).all (fun x=>x.1.isSome)
   && decide ((e :: es).length + ([]:List Keyword).length + (if ([]:List Keyword).isEmpty then 0 else 1) < 30))=true:=by rfl)
  (hline:(apos.endLine == cpos.line)=true:=by rfl) (hs:starEach (e :: es) X.env=(false,eval e X.env) :: starEach es X.env:=by rfl) (hplain:(backTo cpos (starEach es X.env)).any (·.1)=false:=by rfl):
  PE X (.Call (.Attribute o name apos) (e :: es) [] cpos) (tBM X.K T r to t):=by
 intro pins s σ H Q I h;refine wpAny_Call_method_late hbase hfew hline rfl (thn (ho pins s σ H _ I h) fun v s1 ⟨x,H1,I1,r1,ty,q1⟩=> ?_)
 obtain ⟨h1,h2⟩:=ZlQ I1 r1 ty
 refine ⟨T,id,pa,slot,hty,h1,h2,?_⟩
 have hA:=ha cpos pins s1 σ H1 _ I1 q1
 rw[hs] at hA ⊢;refine Calls.callWith_builtin (by show (false || (backTo cpos (starEach es X.env)).any (·.1))=false;rw[hplain]<;>rfl) (Calls.evalArgs_plain ?_)
 exact thn hA fun us s2 ⟨vs,H2,I2,r2,q2⟩=>hm pins s2 σ H2 x vs v us Q I2 r1 r2 q2
end
end L2
namespace L2
open PySem PySem.Spec PyProof.Rows
noncomputable def MtM (X:Cx)(id:String)(r:V->List V->Hp->VK->Prop):Prop:=
 ∀ (pins:List (Addr × Obj)) (s:Shared) (σ:St) (H:Hp) (x:V) (xs:List V) (v:Value) (us:List Value) (Q:VK),Inv X pins σ H s->ZX x v->ZK xs us->r x xs H Q->
  wpAny (model X.prog X.w) X.A (call (.builtin id) (v :: us)) (EP X pins σ Q) X.xe s
theorem ZK.one: ∀ {x:V} {us:List Value},ZK [x] us-> ∃ u,us=[u]/\ZX x u
 |_,_,.cons r .nil=>⟨_,rfl,r⟩
theorem ZK.reverse {xs:List V}{us:List Value}(h:ZK xs us):ZK xs.reverse us.reverse:=by
 induction h with
 |nil=>exact .nil
 |cons r t ih=>rw[List.reverse_cons,List.reverse_cons];exact ZK.append ih (.cons r .nil)
section
variable {X:Cx}{pins:List (Addr × Obj)}{σ:St}{H:Hp}{s:Shared}{l b:Addr}{xs ys zs:List V}
theorem Inv.lset {its its':List Value}{n:Nat}{f:Array Value->Array Value}{t':Nat}(I:Inv X pins σ H s)(hH:H l=some (.lst xs))
  (e:s.heap.get? l=some { cls:= .type "list",data:= .seq its.toArray n }) (hf:f its.toArray=its'.toArray) (hv:ZK ys its') (hz:ys.length<=sizeLine):
  Inv X pins σ (upd H l (.lst ys)) { s with heap:=s.heap.update l (Obj.mapSeq f),toks:=t' }:=by
 have q:=PySem.IsL.update e f
 rw[hf] at q;refine I.write (x:=l) (e:=l) (by rw[hH];exact trivial) (.inl rfl) (fun b' u hb hu=>(Heap.get?_update_other s.heap (Obj.mapSeq f) (Ne.symm hb)).trans hu) ⟨_,q⟩ ?_
 exact ⟨hz,its',_,hv,q⟩
theorem Inv.lnew {its:List Value}{t':Nat}(I:Inv X pins σ H s)(hv:ZK ys its)(hz:ys.length<=sizeLine):
  Inv X pins σ (upd H s.heap.objs.size (.lst ys)) { s with heap:=s.heap.push { cls:= .type "list",data:= .seq its.toArray },toks:=t' }:=
 I.laid (fun _ _ q=>Heap.get?_push_of_some _ q) (Nat.le_refl _) ⟨hz,its,0,hv,Heap.get?_push_size _ rfl⟩
theorem Inv.fresh (I:Inv X pins σ H s):H s.heap.objs.size=none:=I.hok.fresh (Nat.le_refl _)
theorem Inv.lstM (I:Inv X pins σ H s)(hH:H l=some (.lst xs)):xs.length<=sizeLine/\ ∃ (its:List Value) (n:Nat),ZK xs its/\xs.length=its.length/\s.heap.get? l=some { cls:= .type "list",data:= .seq its.toArray n }:=by
 obtain ⟨z,its,n,r,e⟩:=I.hok l _ hH
 exact ⟨z,its,n,r,r.length,e⟩
theorem ZhZ {n:Nat}(h:n<=sizeLine):Builtin.List.listTooLong n=false:=by
 unfold Builtin.List.listTooLong;exact decide_eq_false (by omega)
end
section
variable {X:Cx}
noncomputable def rAppend:V->List V->Hp->VK->Prop:=fun x vs H Q=> ∃ l xs y,x= .ref l/\vs=[y]/\H l=some (.lst xs)/\xs.length < sizeLine/\Q .non (upd H l (.lst (xs ++ [y])))
theorem Zdl:MtM X "list.append" rAppend:=by
 intro pins s σ H x vs v us Q I rx rv h;obtain ⟨l,xs,y,rfl,rfl,hH,hz,q⟩:=h
 cases rx
 obtain ⟨u,rfl,ru⟩:=rv.one
 obtain ⟨z,its,n,r,hl,e⟩:=I.lstM hH
 refine call_meets F.slot_list_append ⟨_,e,rfl⟩ F.entry_list_append (F.args_list_append_2 _ _) (PySem.list_append l its.toArray n u (by rw[List.size_toArray];omega)) ⟨e,?_⟩
 refine ⟨.non,_,I.lset (its':=its ++ [u]) hH e (by simp) (r.append (.cons ru .nil)) ?_,rfl,q⟩
 rw[List.length_append,List.length_singleton];omega
noncomputable def rExtend:V->List V->Hp->VK->Prop:=fun x vs H Q=> ∃ l b xs zs,x= .ref l/\vs=[.ref b]/\H l=some (.lst xs)/\H b=some (.lst zs)/\xs.length + zs.length<=sizeLine/\Q .non (upd H l (.lst (xs ++ zs)))
theorem Zf7:MtM X "list.extend" rExtend:=by
 intro pins s σ H x vs v us Q I rx rv h;obtain ⟨l,b,xs,zs,rfl,rfl,hH,hB,hz,q⟩:=h
 cases rx
 obtain ⟨u,rfl,ru⟩:=rv.one
 cases ru
 obtain ⟨z,its,n,r,hl,e⟩:=I.lstM hH
 obtain ⟨z2,its2,n2,r2,hl2,e2⟩:=I.lstM hB
 have hsz:its.toArray.size + its2.toArray.size<=sizeLine:=by rw[List.size_toArray,List.size_toArray];omega
 have hlong: ¬ (!its.toArray.isEmpty && Builtin.List.listTooLong (its.toArray.size + its2.toArray.size))=true:=by
  rw[ZhZ hsz,Bool.and_false];exact Bool.false_ne_true
 refine call_meets F.slot_list_extend ⟨_,e,rfl⟩ F.entry_list_extend (F.args_list_extend_2 _ _)
  (AutoSeq1.list_extend_list_list_0 l its.toArray n b its2.toArray n2 hlong (by rw[List.size_toArray];omega) (by omega)) ⟨e,e2,?_⟩
 refine ⟨.non,_,I.lset (its':=its ++ its2) hH e (by simp) (r.append r2) ?_,rfl,q⟩
 rw[List.length_append];omega
noncomputable def rCat:R2:=fun x y H Q=> ∃ l b xs zs,x= .ref l/\y= .ref b/\H l=some (.lst xs)/\H b=some (.lst zs)/\xs.length + zs.length<=sizeLine/\ ∀ p,H p=none->Q (.ref p) (upd H p (.lst (xs ++ zs)))
theorem ZlS:OpR X (binaryOp .Add) rCat:=by
 intro pins s σ H x y v u Q I rx ry h;obtain ⟨l,b,xs,zs,rfl,rfl,hH,hB,hz,q⟩:=h
 cases rx
 cases ry
 obtain ⟨z,its,n,r,hl,e⟩:=I.lstM hH
 obtain ⟨z2,its2,n2,r2,hl2,e2⟩:=I.lstM hB
 refine PySem.P.add_list e e2 ?_ (by rw[List.size_toArray,List.size_toArray];omega)
 have ea:its.toArray ++ its2.toArray=(its ++ its2).toArray:=by simp
 rw[ea];exact ⟨.ref _,_,I.lnew (t':=s.toks) (r.append r2) (by rw[List.length_append];omega),rfl,q _ I.fresh⟩
end
section
variable {prog:Program}{w:World}{A:Around}{E:Value->Shared->Prop}{s:Shared}
end
section
variable {X:Cx}
end
end L2
namespace Att
open PySem PySem.W PySem.Calls PyProof.Rows
theorem Zcb {P:Params}{h:Heap}: ∀ (ns:List Int) (vs:List Value),WellAll P h vs (ns.map WData.int)->IntsAre vs ns:=by
 intro ns
 induction ns with
 |nil=>
  intro vs w;rw[List.map_nil] at w;cases w
  exact .nil
 |cons n ns ih=>
  intro vs w;rw[List.map_cons] at w;cases w with
  |cons a b=>
   cases a
   exact .cons _ _ (ih _ b)
theorem Zf8 {l:OpenLaw}{n:Nat}(hn:l.most=some n){P:Params}{h:Heap}{args:List WData}{vals:List Value}
  (hpre:l.row.toRowW.claim.pre args=true) (hwl:WellAll P h vals args):
  ∃ a vs ns,vals=[Value.ref a]/\args=[WData.list (ns.map WData.int)]/\h.get? a=some { cls:= .type "list",data:= .seq vs.toArray }/\IntsAre vs ns/\ns.length<=n:=by
 have hsh:WShape.hasAll [] args [.list .int]=true:=(pre_splitW hpre).1
 have hc:l.pre.holds [] { args:=args }=true:=(pre_splitW hpre).2
 obtain ⟨d,r,rfl,h1,h2⟩:=hasAllW_cons hsh
 obtain rfl:=hasAllW_nil h2
 obtain ⟨xs,rfl,h3⟩:=hasW_list h1
 obtain ⟨ns,rfl⟩:=items_int h3
 have hlen:ns.length<=n:=by
  unfold OpenLaw.pre at hc;have h4:(WTm.not (.lt (.lit (.int (n:Int))) (.len (.arg 0)))).holds [] { args:=[.list (ns.map .int)] }=true:=by
   have h4:=(holds_andW hc).1
   rw[hn] at h4;exact h4
  have h5:=condW_of h4 (w_not (w_lt w_lit (w_len_list (w_arg rfl))))
  rw[List.length_map] at h5;refine Nat.le_of_not_lt fun q=> ?_
  have q':(n:Int) < ((ns.length:Nat):Int):=by omega
  first
   | (rw[decide_eq_true q'] at h5;exact absurd h5 (by decide))
   | (simp at h5;omega)
 cases hwl with
 |cons w1 w2=>
  cases w2
  cases w1 with
  |list ho hall=>exact ⟨_,_,ns,rfl,rfl,ho,Zcb ns _ hall,hlen⟩
theorem Zf9 (l:OpenLaw)(args:List WData):l.row.toRowW.claim.post args (.bool true) args=true:=
 postW_of (r:=l.row.toRowW) (X:=(true == true))
  (show WShape.has [] (.bool true) .bool=true by first | rfl | decide | simp[WShape.has,WShape.arms,WShape.armsAll])
  (show (WTm.eq .res (.lit (.bool true))).value [] { args:=args,res:=some (.bool true),after:=args }=some (.bool (true == true)) from w_eq_bool (w_res rfl) w_lit) rfl
theorem Zd7 {l:OpenLaw}{n:Nat}{q:Program}{loose:List Str}{XP:(Str->Option Value)->Heap->Prop}{YP:World->Heap->Prop}{d:DefRec}
  (hn:l.most=some n) (hdf:d.params.defaults=[])
  (call: ∀ (w:World) (s₀ s₁:Shared) (mg mb:Str->Option Value) (fa:Addr) (o:Obj) (pm cd doc:Value) (a:Addr) (vs:List Value) (ns:List Int),
   Ground q loose [] XP w s₀ mg mb s₁.heap->YP w s₁.heap->
   s₁.heap.get? fa=some o->o.data= .func (docDef d.name d.params d.body d.scope pm cd doc)->s₁.heap.CodeRec cd d.name->mg d.name=some (.ref fa)->
   s₁.heap.get? a=some { cls:= .type "list",data:= .seq vs.toArray }->IntsAre vs ns->ns.length<=n->s₁.gens= #[]->
   codeAny (model l.prog w) callerA (.call (.ref fa) ⟨[.ref a],[]⟩) (fun r s'=>r= .ok (.ret (.bool true))/\OldK s₁.heap s'.heap/\s'.os=s₁.os/\AllBare s'.gens) s₁):
  WalkO q loose XP YP l.row.toRowW d [] (fun f vs=>PySem.call f vs):=by
 intro w s₀ s₁ mg mb G Y fa o pm cd doc dV kV ho hd hcd hD hmg hg args vals as hpre hlay hrd hwl hlo;obtain rfl:dV= .none:=Dflts.none hD hdf
 obtain rfl:kV= .none:=Dflts.noKw hD
 obtain ⟨a,vs,ns,rfl,rfl,hobj,hints,hlen⟩:=Zf8 hn hpre hwl
 refine enter_call (codeAny_mono (call w s₀ s₁ mg mb fa o pm cd doc a vs ns G Y ho (fd_plain hd) hcd hmg hobj hints hlen hg) fun r s' hq=> ?_)
 obtain ⟨rfl,h2,h3,h4⟩:=hq
 exact ⟨.inl ⟨.bool true,.bool true,[],rfl,fun _=>rfl,.bool true,Zf9 l _,fun _=>⟨List.Pairwise.nil,fun _ hm=>(nomatch hm)⟩⟩,h2,h3,h4⟩
section
variable {prog:Program}{w:World}{A:Around}{E:Value->Shared->Prop}{s:Shared}{K:Frag}
end
end Att
namespace L2
open PySem PySem.Spec PyProof.Rows
theorem Zdm: ∀ {vs:List Value} {ns:List Int},IntsAre vs ns->ZK (ns.map V.int) vs
 |_,_,.nil=> .nil
 |_,_,.cons n t h=> .cons ⟨t,rfl⟩ (Zdm h)
noncomputable def Zos (H:Hp):Prop:= ∀ b,H b=none\/ ∃ o xs,H b=some (.frz o (.lst xs))
theorem Zh0 {P:Program}{w:World}{K:PySem.W.Frag}{mg mb:Str->Option Value}{CX:CXT}{k:Nat}{fa a:Addr}{fd:FuncData}{x:Str}{sp:Sp}{s₁:Shared}{vs:List Value}{ns:List Int}
  (KX:K.In s₁.heap) (hns:s₁.heap.Ns mainGlobals mg) (hb:s₁.heap.Ns builtinsNs mb) (hbb: ∀ x:Str,x≠"__name__"->mb x=bootBuiltins x) (hlim:s₁.heap.NoLimit) (hg:s₁.gens= #[])
  (ha:s₁.heap.get? a=some { cls:= .type "list",data:= .seq vs.toArray }) (hi:IntsAre vs ns) (hl:ns.length<=sizeLine) (hr:Room k callerA)
  (F: ∀ base:Heap,K.In base->base.Ns mainGlobals mg->FnOk P w K mg base CX k fa fd [x] sp) (hbind: ∀ (s:Shared) (u:Value),BindsTo s fd ⟨[u],[]⟩ [(x,u)])
  (hsp: ∀ H:Hp,Zos H->SqL K H a (ns.map V.int)->sp [.ref a] H (fun v _=>v= .bl true) fun _ _ _=>False)
  (hCX: ∀ H e s',CX [] H s₁ (fun _ _ _=>False) e s'->False):
  codeAny (model P w) callerA (.call (.ref fa) ⟨[.ref a],[]⟩) (fun r s'=>r= .ok (.ret (.bool true))/\OldK s₁.heap s'.heap/\s'.os=s₁.os/\AllBare s'.gens) s₁:=by
 have rv:=Zdm hi
 have lenV:=hi.length
 have core: ∀ H:Hp,Zos H->SqL K H a (ns.map V.int)->HOk P w H s₁.heap->(∀ b,H b≠none->b=a)->(H a≠none->K.lookup a=none)->
   codeAny (model P w) callerA (.call (.ref fa) ⟨[.ref a],[]⟩) (fun r s'=>r= .ok (.ret (.bool true))/\OldK s₁.heap s'.heap/\s'.os=s₁.os/\AllBare s'.gens) s₁:=by
  intro H hO hS hok hA hK;have base_of: ∀ {b:Addr} {o:Obj},s₁.heap.get? b=some o->H b=none->(ZhG s₁.heap H).get? b=some o:=fun e n=>Zez e n
  have noA: ∀ {b:Addr} {o:Obj} {es:Array DictEntry} {ep:Nat},s₁.heap.get? b=some o->o.data= .dict es ep->H b=none:=fun {b o es ep} e d=>by
   cases q:H b with
   |none=>rfl
   |some u=>
    have e':b=a:=hA b (by rw[q];simp)
    subst e';rw[ha] at e;cases e;have d':Data.seq vs.toArray _=Data.dict es ep:=d
    cases d'
  have nsK: ∀ {b:Addr} {m:Str->Option Value},s₁.heap.Ns b m->(ZhG s₁.heap H).Ns b m:=fun {b m} ⟨o,es,ep,e,d,r⟩=>⟨o,es,ep,base_of e (noA e d),d,r⟩
  have hKb:K.In (ZhG s₁.heap H):=fun b o e=>base_of (KX b o e) (by
   cases q:H b with
   |none=>rfl
   |some u=>
    have e':b=a:=hA b (by rw[q];simp)
    subst e';rw[hK (by rw[q];simp)] at e;cases e)
  have hM:Mod K mg (ZhG s₁.heap H):=⟨hKb,nsK hns,⟨mb,nsK hb,hbb⟩,let ⟨mc,h1,h2⟩:=hlim;⟨mc,nsK h1,h2⟩⟩
  have e0:Env0 P w K mg (ZhG s₁.heap H) callerA [] s₁ H:=⟨rfl,hM,fun b o e=>ZfL e,Nat.le_of_eq (ZfK _ _),trivial,fun b hb=>absurd (show b∈([]:List Addr) from hb) (by simp),hok,.of_eq hg,.inl rfl⟩
  refine codeAny_mono ((F _ hKb (nsK hns)).run callerA [] s₁ H ⟨[.ref a],[]⟩ [.ref a] [.ref a] _ _ hr e0 (hbind s₁ (.ref a)) (.cons rfl .nil) (hsp H hO hS)) fun r s' h=> ?_
  cases r with
  |error e=>exact (hCX H e s' h).elim
  |ok fl=>
   cases fl with
   |next=>exact False.elim h
   |brk=>exact False.elim h
   |cont=>exact False.elim h
   |ret u=>
    obtain ⟨v,H',os,bare,un,hok',r',q⟩:=h
    have q':v= .bl true:=q
    subst q';obtain rfl:u=Value.bool true:=r'
    refine ⟨rfl,OldK.of_keep fun b o e=> ?_,os,bare⟩
    cases q:H b with
    |none=>exact un.keep b o e q (by intro z;exact absurd (show b∈([]:List Addr) from z) (by simp)) (by simp)
    |some u=>
     rcases hO b with z | ⟨ob,xs,z⟩
     ·rw[q] at z;cases z
     ·have z2:=un.frzs b ob _ z
      obtain ⟨e1,_⟩:=hok b _ z
      obtain ⟨e2,_⟩:=hok' b _ z2
      rw[e] at e1;cases e1;exact e2
 cases hk:K.lookup a with
 |some o=>
  have e:=KX a o hk
  rw[ha] at e;cases e
  refine core (fun _=>none) (fun _=> .inl rfl) (.inr ⟨_,vs.toArray,_,hk,rfl,rfl,rfl,by rw[List.size_toArray,lenV];exact hl,by simpa using rv⟩) (fun b u z=>by have z':(none:Option HO)=some u:=z;cases z') (fun b z=>absurd rfl z) fun z=>absurd rfl z
 |none=>
  refine core (fun b=>if b=a then some (.frz { cls:= .type "list",data:= .seq vs.toArray } (.lst (ns.map V.int))) else none) (fun b=> ?_) (.inl (.inr ⟨{ cls:= .type "list",data:= .seq vs.toArray },if_pos rfl⟩)) (fun b u z=> ?_) (fun b z=> ?_) fun _=>hk
  ·by_cases hb:b=a
   ·exact .inr ⟨_,_,if_pos hb⟩
   ·exact .inl (if_neg hb)
  ·by_cases hb:b=a
   ·have z':=(if_pos hb).symm.trans z
    cases z'
    subst hb;exact ⟨ha,by rw[List.length_map];exact hl,vs,_,rv,ha⟩
   ·have z':=(if_neg hb).symm.trans z
    cases z'
  ·by_cases hb:b=a
   ·exact hb
   ·exact absurd (if_neg hb) z
end L2
namespace L2
open PySem PySem.Spec PyProof.Rows
theorem ZjV {l:PySem.W.OpenLaw}{n k:Nat}{q:Program}{loose:List Str}{XP:(Str->Option Value)->Heap->Prop}{YP:World->Heap->Prop}{d:DefRec}{K:Params->PySem.W.Frag}{CX:World->CXT}{sp:World->Sp}{x:Str}
  (hn:l.most=some n) (hn2:n<=sizeLine) (hdf:d.params.defaults=[]) (hr:Room k callerA)
  (hY: ∀ (w:World) (h:Heap),YP w h->(K w.params).In h)
  (F: ∀ (w:World) (mg:Str->Option Value) (fa:Addr) (h:Heap),(K w.params).In h->h.Ns mainGlobals mg->mg d.name=some (.ref fa)->
   ∃ fd:FuncData,(∀ (s:Shared) (u:Value),BindsTo s fd ⟨[u],[]⟩ [(x,u)])/\
    ∀ base:Heap,(K w.params).In base->base.Ns mainGlobals mg->FnOk l.prog w (K w.params) mg base (CX w) k fa fd [x] (sp w))
  (hsp: ∀ (w:World) (H:Hp) (a:Addr) (ns:List Int),ns.length<=n->Zos H->SqL (K w.params) H a (ns.map V.int)->sp w [.ref a] H (fun v _=>v= .bl true) fun _ _ _=>False)
  (hCX: ∀ (w:World) (H:Hp) (s:Shared) (e:Value) (s':Shared),CX w [] H s (fun _ _ _=>False) e s'->False):
  PySem.W.WalkO q loose XP YP l.row.toRowW d [] (fun f vs=>PySem.call f vs):=by
 refine Att.Zd7 hn hdf fun w s₀ s₁ mg mb fa o pm cd doc a vs ns G Y ho hd hcd hmg hobj hints hlen hg=> ?_
 have KX:=hY w _ Y
 obtain ⟨fd,hb,hF⟩:=F w mg fa _ KX G.T.g hmg
 exact Zh0 KX G.T.g G.T.b G.T.builtins G.T.nolimit hg hobj hints (Nat.le_trans hlen hn2) hr hF hb (fun H hO hS=>hsp w H a ns hlen hO hS) fun H e s'=>hCX w H s₁ e s'
end L2
namespace L2
open PySem PySem.Spec PyProof.Rows
noncomputable def Zax (s:Stmt):Arguments:=match s with
 | .FunctionDef _ a _ _ _ _ _ _ _ _=>a
 |_=>{ posonlyargs:=[],args:=[],vararg:=none,kwonlyargs:=[],kw_defaults:=[],kwarg:=none,defaults:=[] }
noncomputable def Z0 (s:Stmt):List Stmt:=match s with
 | .FunctionDef _ _ b _ _ _ _ _ _ _=>b
 |_=>[]
noncomputable def Zr (s:Stmt):Scope:=match s with
 | .FunctionDef _ _ _ _ _ _ sc _ _ _=>sc
 |_=>{ kind:= .function,names:=[],isGenerator:=false,isCoroutine:=false }
noncomputable abbrev E0:XK:=fun _ _ _=>False
structure Fun (K:PySem.W.Frag) (x qual:Str) (st:Stmt) (f:Addr) (fd:FuncData):Prop where
 ex: ∃ (oc:Value) (od:Option Addr) (kV doc pm:Value) (an:Option Addr) (cdv ct:Value) (osl:Array (Option Value)),
  fd=PySem.W.fnOf x qual (Zax st) (Z0 st) (Zr st) .none kV doc pm an cdv ct/\K.lookup f=some ⟨oc,od,.func fd,osl⟩/\PySem.W.codeIn K cdv qual=true
 kp:PySem.W.keepIn K (.ref f)=true
section
variable {P:Program}{w:World}{K:PySem.W.Frag}{mg:Str->Option Value}{base:Heap}
theorem Fun.binds {x qual:Str}{st:Stmt}{f:Addr}{fd:FuncData}{ps:List Str}(F:Fun K x qual st f fd)
  (h: ∀ (kV doc pm:Value) (an:Option Addr) (cdv ct:Value) (us:List Value),us.length=ps.length->bindArgs (PySem.W.fnOf x qual (Zax st) (Z0 st) (Zr st) .none kV doc pm an cdv ct) ⟨us,[]⟩=pure (ps.zip us)):ZcN K fd ps []:=by
 obtain ⟨oc,od,kV,doc,pm,an,cdv,ct,osl,rfl,lk,hcd⟩:=F.ex
 exact .all (h kV doc pm an cdv ct)
theorem ZiX {x qual:Str}{st:Stmt}{f:Addr}{oc:Value}{od an:Option Addr}{osl:Array (Option Value)}{kV doc pm cdv ct:Value}(l:K.lookup f=some ⟨oc,od,.func (PySem.W.fnOf x qual (Zax st) (Z0 st) (Zr st) .none kV doc pm an cdv ct),osl⟩)
  (c:PySem.W.codeIn K cdv qual=true) (k:PySem.W.keepIn K (.ref f)=true):Fun K x qual st f (PySem.W.fnOf x qual (Zax st) (Z0 st) (Zr st) .none kV doc pm an cdv ct):=⟨⟨oc,od,kV,doc,pm,an,cdv,ct,osl,rfl,l,c⟩,k⟩
end
theorem Zga {n:Nat}(h:n<=1000):n < sizeLine:=Nat.lt_of_le_of_lt h (by decide)
section
variable {X:Cx}
end
theorem Zh1 {A B:Prop}(h:B):if false=true then A else B:=by
 rw[if_neg Bool.false_ne_true];exact h
theorem Zh2 {A B:Prop}(h:A):if true=true then A else B:=by
 rw[if_pos rfl];exact h
end L2
end
section
namespace L2
open PySem PySem.Spec PyProof.Rows
end L2
namespace L2
open PySem PySem.Spec PyProof.Rows
section
variable (P:Program)(w:World)
end
section
variable {P:Program}{w:World}{H H':Hp}{h h':Heap}{a:Addr}{o:HO}
end
section
variable {P:Program}{w:World}{H:Hp}{h h':Heap}{x e:Addr}{o':HO}
end
section
variable {fs fs' ex ex':List Addr}{H H1 H2:Hp}{h h1 h2 h':Heap}{a x e:Addr}{o:HO}
end
end L2
namespace L2
open PySem PySem.Spec PyProof.Rows
section
variable {X:Cx}{pins:List (Addr × Obj)}{σ:List (Option V)}{H H':Hp}{s:Shared}{h':Heap}
end
end L2
namespace L2
open PySem PySem.Spec PyProof.Rows
section
variable {X:Cx}
variable {a b:Expr}{ta tb:TE}{pos:Pos}
variable {tA tB':TT}{rest:List Expr}
end
end L2
namespace L2
open PySem PySem.Spec PyProof.Rows
section
variable {X:Cx}{pins:List (Addr × Obj)}{σ:St}{H:Hp}{s:Shared}{a:Addr}{xs ys:List V}
end
section
variable {X:Cx}{pins:List (Addr × Obj)}{σ:St}{H:Hp}{s:Shared}{E:Value->Shared->Prop}
end
section
variable {X:Cx}{st:Stmt}{rest:List Stmt}{t u:TS}{e:Expr}{te:TE}{pos:Pos}
end
section
variable {X:Cx}{pos:Pos}
end
section
variable {X:Cx}{pos:Pos}
end
end L2
namespace L2
open PySem PySem.Spec PyProof.Rows
section
variable {X:Cx}{tg:Expr}
end
end L2
namespace L2
open PySem PySem.Spec PyProof.Rows
section
variable {X:Cx}{a b c:Expr}{ta tb tc:TE}{pos:Pos}
end
section
variable {X:Cx}{a b c:Expr}{ta tb tc:TE}{pos:Pos}
end
end L2
namespace L2
open PySem PySem.Spec PyProof.Rows
section
variable {prog:Program}{w:World}{A:Around}{E:Value->Shared->Prop}{s:Shared}{K:PySem.W.Frag}{x dx C f:Addr}{mA:Str->Option Value}{name:Str}{v:Value}
end
section
variable {P:Program}{w:World}{H H':Hp}{h h':Heap}{a C dx:Addr}{fs fs':List (Str × V)}
end
section
variable {X:Cx}{pins:List (Addr × Obj)}{σ:St}{H:Hp}{s:Shared}{a C dx:Addr}{fs:List (Str × V)}{f:Str}{v:V}{A:Around}{E:Value->Shared->Prop}
end
section
variable {X:Cx}{o e value:Expr}{f:Str}{pos pos' tpos:Pos}{ta tv:TE}
end
section
variable {X:Cx}{pins:List (Addr × Obj)}{σ:St}{H:Hp}{s:Shared}{A:Around}{E:Value->Shared->Prop}{Q:Value->Shared->Prop}{c:Value}{b:Bool}
end
end L2
namespace L2
open PySem PySem.Spec PyProof.Rows
section
variable {X:Cx}{e:Expr}{es:List Expr}{te:TE}{t:TA}{pos:Pos}
end
section
variable {X:Cx}{pins:List (Addr × Obj)}{σ:St}{H:Hp}{s s':Shared}
end
section
variable {X:Cx}{CX:CXT}{k:Nat}{f C:Addr}{fd:FuncData}{ps:List Str}{sp:Sp}{dvs:List V}{ds:List Value}{E:XK}{x m:Str}{p pos apos:Pos}{e o:Expr}{es:List Expr}{ta:TE}{t:TA}
end
section
variable {X:Cx}{CX:CXT}{k:Nat}{f C:Addr}{fd:FuncData}{ps ks:List Str}{sp:Sp}{E:XK}{x m:Str}{p pos apos kpos:Pos}{e o:Expr}{es:List Expr}{kws:List Keyword}{te ta:TE}{t tk:TA}{nm:Option Str}
variable {g:List Value->List Value->List Value}{gV:List V->List V->List V}
end
end L2
namespace L2
open PySem PySem.Spec PyProof.Rows
section
variable {X:Cx}{x:Str}{p pos:Pos}{e:Expr}{es:List Expr}{t:TA}{id T:String}{r:List V->Hp->VK->Prop}
end
end L2
namespace L2
open PySem PySem.Spec PyProof.Rows
section
variable {κ:Type}[DecidableEq κ]
end
section
variable {P:Program}{w:World}{H:Hp}{h:Heap}{a:Addr}
end
section
variable {X:Cx}{pins:List (Addr × Obj)}{σ:St}{H:Hp}{s:Shared}{a:Addr}{y v:V}{u r:Value}{o:Option V}{A:Around}{E:Value->Shared->Prop}
end
section
variable {X:Cx}{pins:List (Addr × Obj)}{σ:St}{H:Hp}{s:Shared}{a:Addr}{kvs:List (Key × V)}{k:Key}{u:Value}{A:Around}{E:Value->Shared->Prop}
end
section
variable {X:Cx}{o i e value:Expr}{pos pos' tpos:Pos}{td ty tv:TE}
end
section
variable {X:Cx}{pos:Pos}
end
structure M1 (X:Cx) (o:Expr) (m:Str) (apos:Pos) (e:Expr) (cpos:Pos):Prop where
 base:attributeBase o m X.env (eval o X.env)=eval o X.env
 few:((backTo cpos (starEach [e] X.env)).all (fun x=> !x.1) && (backToKw cpos (keywordEach [] X.env)).all (fun x=>x.1.isSome)
  && decide (([e]:List Expr).length + ([]:List Keyword).length + (if ([]:List Keyword).isEmpty then 0 else 1) < 30))=true
 line:(apos.endLine == cpos.line)=true
 trees:backTo cpos (starEach [e] X.env)=[(false,eval e X.env)]
structure M2 (X:Cx) (o:Expr) (m:Str) (apos:Pos) (e f:Expr) (cpos:Pos):Prop where
 base:attributeBase o m X.env (eval o X.env)=eval o X.env
 few:((backTo cpos (starEach [e,f] X.env)).all (fun x=> !x.1) && (backToKw cpos (keywordEach [] X.env)).all (fun x=>x.1.isSome)
  && decide (([e,f]:List Expr).length + ([]:List Keyword).length + (if ([]:List Keyword).isEmpty then 0 else 1) < 30))=true
 line:(apos.endLine == cpos.line)=true
 trees:backTo cpos (starEach [e,f] X.env)=[(false,eval e X.env),(false,eval f X.env)]
section
variable {X:Cx}{pins:List (Addr × Obj)}{σ:St}{H:Hp}{s:Shared}{a:Addr}{y d:V}{u r:Value}{o:Option V}{A:Around}{E:Value->Shared->Prop}
end
section
variable {X:Cx}{o e f:Expr}{apos cpos:Pos}{td ty tx:TE}
end
section
variable {X:Cx}{pins:List (Addr × Obj)}{σ:St}{H:Hp}{s:Shared}{a:Addr}{kvs:List (Key × V)}{A:Around}{E:Value->Shared->Prop}
end
section
variable {X:Cx}{pins:List (Addr × Obj)}{σ:St}{H:Hp}{s:Shared}{a:Addr}{y:V}{u:Value}{A:Around}{E:Value->Shared->Prop}
end
end L2
namespace Att
open PySem PySem.W PySem.Calls PyProof.Rows
section
variable {prog:Program}{w:World}{A:Around}{E:Value->Shared->Prop}{s:Shared}{K:Frag}
end
end Att
namespace L2
open PySem PySem.Spec PyProof.Rows
end L2
namespace L2
open PySem PySem.Spec PyProof.Rows
end L2
namespace L2
open PySem PySem.Spec PyProof.Rows
section
variable {P:Program}{w:World}{K:PySem.W.Frag}{mg:Str->Option Value}{base:Heap}
end
section
variable {X:Cx}
end
section
variable {κ:Type}[DecidableEq κ]
end
end L2
end
section
namespace DQ
open PySem PySem.Spec PyProof.Rows
structure Fly (B:Heap) (l:List Env) (e:Addr) (cls:Value) (dct:Option Addr) (fl:Value) (h:Heap):Prop where
 stay:B.StaysIn h
 new:B.get? e=none
 frames:h.FunFrames B l
 obj: ∃ oe vs T oT ts,h.get? e=some oe/\oe.cls=cls/\oe.dict=dct/\oe.data= .fields vs/\vs[2]?=some .none/\vs[1]?=some (.ref T)/\B.get? T=none/\T≠e/\h.get? T=some oT/\oT.data= .fields ts/\ts[3]?=some fl
theorem Fly.tail {B:Heap}{env:Env}{l:List Env}{e:Addr}{cls:Value}{dct:Option Addr}{fl:Value}{h:Heap}(f:Fly B (env :: l) e cls dct fl h):Fly B l e cls dct fl h:=⟨f.stay,f.new,f.frames.2.2,f.obj⟩
section
variable {M:Model}{A:Around}{E:Value->Shared->Prop}{s:Shared}{B:Heap}{env:Env}{outer l:List Env}{L e:Addr}{cls:Value}{dct:Option Addr}{fl:Value}
theorem apart {h:Heap}{oe:Obj}{vs:Array Value}(hl:h.FunFrames B l)(he:h.get? e=some oe)(hd:oe.data= .fields vs):e ∉ l.filterMap (·.frame):=fun z=>by
 obtain ⟨_,o,h1,h2⟩:=hl.mem z
 rw[he] at h1;cases h1
 exact h2 vs hd
theorem Zcc {oe:Obj}{vs:Array Value}{head:Value}{hn:Bool}{Q:Unit->Shared->Prop}(hfr:A.frames=some (env :: outer))(hl:s.heap.FunFrames B (env :: outer))(hf:env.frame=some L)
  (he:s.heap.get? e=some oe) (hs:B.StaysIn s.heap) (hb:B.get? e=none) (hd:oe.data= .fields vs) (hz:2 < vs.size) (h2:vs[2]?=some .none)
  (h: ∀ h',Fly B (env :: outer) e oe.cls oe.dict (rawInt L) h'->s.heap.UpToSlots h'->Q () { s with heap:=h' }):
  wpAny M A (frameOf env >>= fun a=>entryPlaceOf L hn >>= fun pl=>EntryCells.newEntry head a .none (rawInt L) .none pl >>= fun b=>setField (.ref e) 1 b) Q E s:=by
 have ne:=apart hl he hd
 refine wpAny_bind (wpAny_frameOf_fun hfr hl hf fun h1 k1=>wpAny_bind (wpAny_entryPlaceOf fun pl hpl=>wpAny_bind ?_))
 unfold EntryCells.newEntry newFields;refine wpAny_newObj_type ?_ (hpl.sizeOk5 _ _ _ _ _)
 generalize hT:([head,Value.ref L,Value.none,rawInt L,Value.none] ++ (if pl.isEmpty then List.replicate 6 Value.none else pl)).toArray=ts;have h3:ts[3]?=some (rawInt L):=by
  rw[<- hT]
  rcases hpl with rfl | ⟨_,_,_,_,_,_,_,rfl⟩<;>simp
 have e1:h1.get? e=some oe:=(k1.2.1 e ne).trans he
 have s1:B.StaysIn h1:=fun b o hbo=>(k1.2.1 b fun z=>by rw[(hl.mem z).1] at hbo;cases hbo).trans (hs b o hbo)
 generalize hoT:({ cls:= .type "traceback",dict:=none,data:= .fields ts }:Obj)=oT;have dT:oT.data= .fields ts:=by rw[<- hoT]
 have fT:oT.isFreed=false:=Obj.isFreed_of_fields dT
 have e2:(h1.push oT).get? e=some oe:=Heap.get?_push_of_some _ e1
 have nT:h1.objs.size≠e:=Nat.ne_of_gt (Heap.lt_size e1)
 refine wpAny_setField e2 hd (Nat.lt_trans (by decide) hz) (h _ ?_ ?_)
 ·have d3:=Obj.data_mapFields hd (·.setIfInBounds 1 (Value.ref h1.objs.size))
  have e3:=Heap.get?_update_self (Obj.mapFields (·.setIfInBounds 1 (Value.ref h1.objs.size))) e2 (Obj.isFreed_of_fields d3)
  have keep: ∀ b o,b≠e->h1.get? b=some o->((h1.push oT).update e (Obj.mapFields (·.setIfInBounds 1 (Value.ref h1.objs.size)))).get? b=some o:=fun b o hbe x=>by
   rw[Heap.get?_update_other _ _ (Ne.symm hbe)]
   exact Heap.get?_push_of_some _ x
  have gT:(h1.push oT).get? h1.objs.size=some oT:=Heap.get?_push_size _ fT
  refine ⟨fun b o x=>keep b o (fun z=>by rw[z,hb] at x;cases x) (s1 b o x),hb,hl.of_keeps fun b o x y=> ?_,_,_,h1.objs.size,oT,ts,e3,Obj.cls_mapFields _ _,?_,d3,?_,?_,s1.fresh,nT,?_,dT,h3⟩
  ·obtain ⟨sl,z⟩:=k1.2.2 b o x
   exact ⟨_,keep b _ (fun w=>y vs (by rw[w,he] at x;cases x;exact hd)) z,rfl⟩
  ·obtain ⟨c,d,dd,sl⟩:=oe
   cases hd
   rfl
  ·rw[Array.getElem?_setIfInBounds_ne (by decide)]
   exact h2
  ·rw[Array.getElem?_setIfInBounds_self_of_lt (Nat.lt_trans (by decide) hz)]
  ·rw[Heap.get?_update_other _ _ (Ne.symm nT)]
   exact gT
 ·intro b o x y
  obtain ⟨sl,z⟩:=k1.2.2 b o x
  refine ⟨sl,?_⟩
  rw[Heap.get?_update_other _ _ (fun w=>y vs (by rw[<- w,he] at x;cases x;exact hd))]
  exact Heap.get?_push_of_some _ z
theorem Zb3 {Q:Unit->Shared->Prop}(f:Fly B l e cls dct fl s.heap)(h: ∀ h',Fly B l e cls dct .none h'->s.heap.UpToSlots h'->Q () { s with heap:=h' }):wpAny M A (setFlight (.ref e) none) Q E s:=by
 obtain ⟨st,nw,fr,oe,vs,T,oT,ts,g1,g2,g3,g4,g5,g6,g7,g8,g9,g10,g11⟩:=f
 have hz:3 < ts.size:=(Array.getElem?_eq_some_iff.mp g11).1
 unfold setFlight;refine wpAny_bind (wpAny_field g1 g4 g6 ?_)
 rw[if_pos (by simp)]
 have oth: ∀ b o,b≠T->s.heap.get? b=some o->(s.heap.update T (Obj.mapFields (·.setIfInBounds 3 Value.none))).get? b=some o:=fun b o hb x=>by
  rw[Heap.get?_update_other _ _ (Ne.symm hb)]
  exact x
 have nr: ∀ b o,s.heap.get? b=some o->(∀ vs,o.data≠ .fields vs)->b≠T:=fun b o x y z=>by
  rw[z,g9] at x;cases x
  exact y ts g10
 refine wpAny_setField g9 g10 hz (h _ ⟨fun b o x=>oth b o (fun z=>by rw[z,g7] at x;cases x) (st b o x),nw,fr.of_keeps fun b o x y=>⟨o,oth b o (nr b o x y) x,rfl⟩,?_⟩ fun b o x y=>⟨o.slots,oth b o (nr b o x y) x⟩)
 exact ⟨oe,vs,T,_,_,oth e oe (Ne.symm g8) g1,g2,g3,g4,g5,g6,g7,g8,Heap.get?_update_self _ g9 (Obj.isFreed_of_fields (Obj.data_mapFields g10 _)),Obj.data_mapFields g10 _,by rw[Array.getElem?_setIfInBounds_self_of_lt hz];rfl⟩
theorem ZeF {Q:Unit->Shared->Prop}(hfr:A.frames=some (env :: outer))(hf:env.frame=some L)(f:Fly B (env :: outer) e cls dct .none s.heap)
  (h: ∀ h',Fly B (env :: outer) e cls dct (rawInt L) h'->s.heap.UpToSlots h'->Q () { s with heap:=h' }):wpAny M A (noteFrame (.ref e) env) Q E s:=by
 obtain ⟨st,nw,fr,oe,vs,T,oT,ts,g1,g2,g3,g4,g5,g6,g7,g8,g9,g10,g11⟩:=f
 unfold noteFrame;simp only[hf];refine wpAny_bind (wpAny_field g1 g4 g6 ?_)
 rw[if_pos (by simp)]
 refine wpAny_bind (wpAny_field g9 g10 g11 ?_)
 rw[if_neg (by simp[rawInt])]
 have oth: ∀ b o,b≠T->s.heap.get? b=some o->(s.heap.update T (Obj.mapFields (·.setIfInBounds 3 Value.none))).get? b=some o:=fun b o hb x=>by
  rw[Heap.get?_update_other _ _ (Ne.symm hb)]
  exact x
 have nr: ∀ b o,s.heap.get? b=some o->(∀ vs,o.data≠ .fields vs)->b≠T:=fun b o x y z=>by
  rw[z,g9] at x;cases x
  exact y ts g10
 refine wpAny_bind (wpAny_setField g9 g10 (Array.getElem?_eq_some_iff.mp g11).1 ?_)
 refine Zcc hfr (fr.of_keeps fun b o x y=>⟨o,oth b o (nr b o x y) x,rfl⟩) hf (oth e oe (Ne.symm g8) g1) (fun b o x=>oth b o (fun z=>by rw[z,g7] at x;cases x) (st b o x)) nw g4 (Array.getElem?_eq_some_iff.mp g5).1 g5 fun h' k1 k2=>h h' (g2 ▸ g3 ▸ k1) ?_
 intro b o x y;exact k2 b o (oth b o (nr b o x y) x) y
theorem Zgb {Q:Unit->Shared->Prop}(hfr:A.frames=some (env :: outer))(hf:env.frame=some L)(f:Fly B (env :: outer) e cls dct .none s.heap)
  (h: ∀ h',Fly B outer e cls dct .none h'->s.heap.UpToSlots h'->Q () { s with heap:=h' }):wpAny M A (leaving env (.ref e)) Q E s:=by
 unfold leaving;refine wpAny_bind (ZeF hfr hf f fun h1 k1 u1=> ?_)
 exact Zb3 (s:={ s with heap:=h1 }) k1 fun h2 k2 u2=>h h2 k2.tail (u1.trans u2)
theorem Zgc {oe:Obj}{vs:Array Value}{Q:Unit->Shared->Prop}(hfr:A.frames=some (env :: outer))(hf:env.frame=some L)(hl:s.heap.FunFrames B (env :: outer))(he:s.heap.get? e=some oe)(hs:B.StaysIn s.heap)(hb:B.get? e=none)(hd:oe.data= .fields vs)(h1:vs[1]?=some .none)(h2:vs[2]?=some .none)
  (h: ∀ h',Fly B outer e oe.cls oe.dict .none h'->s.heap.UpToSlots h'->Q () { s with heap:=h' }):wpAny M A (leaving env (.ref e)) Q E s:=by
 unfold leaving noteFrame;simp only[hf];refine wpAny_bind (wpAny_bind (wpAny_field he hd h1 ?_))
 rw[if_neg (by decide)]
 refine Zcc hfr hl hf he hs hb hd (Array.getElem?_eq_some_iff.mp h2).1 h2 fun h' k1 u1=> ?_
 exact Zb3 (s:={ s with heap:=h' }) k1 fun h2 k2 u2=>h h2 k2.tail (u1.trans u2)
end
end DQ
end
section
namespace DQ
open PySem PySem.Spec PyProof.Rows
open PySem.W (Looks findIn mroIn specialIn takesIn clsIn looks_findIn looks_mroIn looks_find findObj KitX)
structure ExcC (K:PySem.W.Frag) (C:Addr):Prop where
 ga:findIn K (.ref C) "__getattribute__"=some (some (.builtin "BaseException.__getattribute__"))
 gt:findIn K (.ref C) "__getattr__"=some none
 cl:findIn K (.ref C) "__class__"=some (some (.builtin "object.__class__"))
 gs:specialIn K (.builtin "object.__class__") "__get__"=some (some (.builtin "getset_descriptor.__get__"))
 tk:takesIn K (.builtin "object.__class__")=some true
 bx:mroIn K C (.type "BaseException")=some true
 ob:mroIn K C (.type "object")=some true
 is:(clsIn K C).isSome=true
section
variable {prog:Program}{w:World}{A:Around}{E:Value->Shared->Prop}{s:Shared}{K:PySem.W.Frag}{e C:Addr}{oe:Obj}{od:Option Obj}
end
end DQ
end
section
namespace DL
open PySem PySem.Spec PyProof.Rows L2
inductive D where
 |non
 |bl (b:Bool)
 |int (i:Int)
 |str (x:Str)
 |tup (xs:List D)
 |rol (xs:List D)
 |con (xs:List D)
 |ref (n:Nat)
 |err (c:Str) (xs:List D)
 |dk (n:Nat)
 |dt (n:Nat)
 |fn (c:Str)
inductive SO where
 |lst (xs:List D)
noncomputable abbrev Sto:=List SO
noncomputable abbrev Ro:=List (Option D)
noncomputable def SqF (K:PySem.W.Frag)(H:Hp)(a:Addr)(xs:List V):Prop:=
 (∃ o,H a=some (.frz o (.lst xs)))\/ ∃ (o:Obj) (its:Array Value) (n:Nat),K.lookup a=some o/\o.cls= .type "list"/\o.dict=none/\o.data= .seq its n/\its.size<=sizeLine/\ZK xs its.toList
theorem SqF.sq {K:PySem.W.Frag}{H:Hp}{a:Addr}{xs:List V}(h:SqF K H a xs):SqL K H a xs:=by
 rcases h with ⟨o,h⟩ | h
 ·exact .inl (.inr ⟨o,h⟩)
 ·exact .inr h
noncomputable def SqK (K:PySem.W.Frag)(a:Addr)(xs:List V):Prop:= ∃ (o:Obj) (its:Array Value) (n:Nat),K.lookup a=some o/\o.cls= .type "tuple"/\o.data= .seq its n/\its.size<=sizeLine/\ZK xs its.toList/\o.dict=none
theorem SqK.sq {K:PySem.W.Frag}{H:Hp}{a:Addr}{xs:List V}(h:SqK K a xs):SqT K H a xs:=
 let ⟨o,its,n,h1,h2,h3,h4,h5,_⟩:=h
 .inr ⟨o,its,n,h1,h2,h3,h4,h5⟩
noncomputable def ZqU:List Str:=[PySem.Str.ofString "where",PySem.Str.ofString "at"]
noncomputable def EOk (H:Hp)(p C:Addr)(xs:List V):Prop:= ∃ oe u vs,H p=some (.frz oe u)/\oe.cls= .ref C/\oe.data= .fields vs/\vs[2]?=some .none/\((xs=[]/\oe.dict=none)\/ ∃ dx fs,oe.dict=some dx/\H dx=some (.xd fs)/\fs.map (·.2)=xs/\fs.map (·.1)=ZqU)
noncomputable def Kn (H:Hp)(p:Addr):Option Nat:=match H p with | some (.lst _)=>some 0 | some (.dK _)=>some 1 | some (.dT _)=>some 2 | some (.frz _ (.dK _))=>some 1 | some (.frz _ (.dT _))=>some 2 | _=>none
structure RefK (H:Hp) (α:List Addr) (j n:Nat) (p:Addr):Prop where
 at':α[n]?=some p
 kn:Kn H p=some j
theorem Kn.lst {H:Hp}{p:Addr}{xs:List V}(h:H p=some (.lst xs)):Kn H p=some 0:=by unfold Kn;rw[h]
theorem Kn.ne {H:Hp}{p q:Addr}{j:Nat}{o:HO}(h:Kn H p=some j)(hq:H q=none):Kn (upd H q o) p=some j:=by
 have:p≠q:=by
  intro z;unfold Kn at h;rw[z,hq] at h;cases h
 unfold Kn;rw[Zl this];exact h
mutual
inductive Rep (K:PySem.W.Frag) (H:Hp) (α:List Addr):V->D->Prop where
 |non:Rep K H α .non .non
 |bl (b:Bool):Rep K H α (.bl b) (.bl b)
 |int (i:Int):Rep K H α (.int i) (.int i)
 |str (x:Str):Rep K H α (.str x) (.str x)
 |tup {p:Addr} {xs:List V} {ds:List D}:H p=some (.tup xs)->Reps K H α xs ds->Rep K H α (.ref p) (.tup ds)
 |rol {p:Addr} {xs:List V} {ds:List D}:SqF K H p xs->Reps K H α xs ds->Rep K H α (.ref p) (.rol ds)
 |con {p:Addr} {xs:List V} {ds:List D}:SqK K p xs->Reps K H α xs ds->Rep K H α (.ref p) (.con ds)
 |ref {p:Addr} {n:Nat}:RefK H α 0 n p->Rep K H α (.ref p) (.ref n)
 |dk {p:Addr} {n:Nat}:RefK H α 1 n p->Rep K H α (.ref p) (.dk n)
 |dt {p:Addr} {n:Nat}:RefK H α 2 n p->Rep K H α (.ref p) (.dt n)
 |fn {p:Addr} {c:Str}:PySem.W.nsIn K mainGlobals c=some (some (.ref p))->Rep K H α (.ref p) (.fn c)
 |err {p C:Addr} {c:Str} {xs:List V} {ds:List D}:PySem.W.nsIn K mainGlobals c=some (some (.ref C))->EOk H p C xs->Reps K H α xs ds->Rep K H α (.ref p) (.err c ds)
inductive Reps (K:PySem.W.Frag) (H:Hp) (α:List Addr):List V->List D->Prop where
 |nil:Reps K H α [] []
 |cons {v:V} {d:D} {vs:List V} {ds:List D}:Rep K H α v d->Reps K H α vs ds->Reps K H α (v :: vs) (d :: ds)
end
structure Ext (K:PySem.W.Frag) (H H':Hp) (α α':List Addr):Prop where
 tup: ∀ p xs,H p=some (.tup xs)->H' p=some (.tup xs)
 rol: ∀ p xs,SqF K H p xs->SqF K H' p xs
 err: ∀ p C xs,EOk H p C xs->EOk H' p C xs
 kn: ∀ p j,Kn H p=some j->Kn H' p=some j
 fz: ∀ p o u,H p=some (.frz o u)->H' p=some (.frz o u)
 al: ∃ β,α'=α ++ β
section
variable {K:PySem.W.Frag}{H H1 H2 H':Hp}{α α1 α2 α':List Addr}
theorem Ext.refl:Ext K H H α α:=⟨fun _ _ h=>h,fun _ _ h=>h,fun _ _ _ h=>h,fun _ _ h=>h,fun _ _ _ h=>h,[],(List.append_nil _).symm⟩
theorem Ext.trans (a:Ext K H H1 α α1)(b:Ext K H1 H2 α1 α2):Ext K H H2 α α2:=by
 obtain ⟨b1,e1⟩:=a.al
 obtain ⟨b2,e2⟩:=b.al
 exact ⟨fun p xs h=>b.tup p xs (a.tup p xs h),fun p xs h=>b.rol p xs (a.rol p xs h),fun p C xs h=>b.err p C xs (a.err p C xs h),fun p j h=>b.kn p j (a.kn p j h),fun p o u h=>b.fz p o u (a.fz p o u h),b1 ++ b2,by rw[e2,e1,List.append_assoc]⟩
theorem Ext.get0 (e:Ext K H H' α α'){n:Nat}{p:Addr}(h:α[n]?=some p):α'[n]?=some p:=by
 obtain ⟨β,e1⟩:=e.al
 have hl:n < α.length:=(List.getElem?_eq_some_iff.mp h).1
 rw[e1,List.getElem?_append_left hl]
 exact h
theorem Ext.get (e:Ext K H H' α α'){j n:Nat}{p:Addr}(h:RefK H α j n p):RefK H' α' j n p:=⟨e.get0 h.at',e.kn _ _ h.kn⟩
mutual
theorem Rep.mono (e:Ext K H H' α α'): ∀ {v:V} {d:D},Rep K H α v d->Rep K H' α' v d
 |_,_,.non=> .non
 |_,_,.bl b=> .bl b
 |_,_,.int i=> .int i
 |_,_,.str x=> .str x
 |_,_,.tup h r=> .tup (e.tup _ _ h) (Reps.mono e r)
 |_,_,.rol h r=> .rol (e.rol _ _ h) (Reps.mono e r)
 |_,_,.con h r=> .con h (Reps.mono e r)
 |_,_,.ref h=> .ref (e.get h)
 |_,_,.dk h=> .dk (e.get h)
 |_,_,.dt h=> .dt (e.get h)
 |_,_,.fn h=> .fn h
 |_,_,.err n h r=> .err n (e.err _ _ _ h) (Reps.mono e r)
theorem Reps.mono (e:Ext K H H' α α'): ∀ {vs:List V} {ds:List D},Reps K H α vs ds->Reps K H' α' vs ds
 |_,_,.nil=> .nil
 |_,_,.cons r t=> .cons (Rep.mono e r) (Reps.mono e t)
end
theorem Reps.length: ∀ {vs:List V} {ds:List D},Reps K H α vs ds->vs.length=ds.length
 |_,_,.nil=>rfl
 |_,_,.cons _ t=>by rw[List.length_cons,List.length_cons,Reps.length t]
theorem Reps.get: ∀ {vs:List V} {ds:List D} {i:Nat} {d:D},Reps K H α vs ds->ds[i]?=some d-> ∃ v,vs[i]?=some v/\Rep K H α v d
 |_,_,_,_,.nil,e=>by simp at e
 |_,_,0,_,.cons r _,e=>by simp at e;subst e;exact ⟨_,rfl,r⟩
 |_,_,i + 1,d,.cons _ t,e=>by
  obtain ⟨u,h1,h2⟩:=Reps.get (i:=i) (d:=d) t (by simpa using e)
  exact ⟨u,by simpa using h1,h2⟩
theorem Reps.set {v:V}{d:D}(r:Rep K H α v d): ∀ {vs:List V} {ds:List D} (i:Nat),Reps K H α vs ds->Reps K H α (vs.set i v) (ds.set i d)
 |_,_,_,.nil=> .nil
 |_,_,0,.cons _ t=> .cons r t
 |_,_,i + 1,.cons q t=> .cons q (Reps.set r i t)
theorem Reps.append: ∀ {vs ws:List V} {ds es:List D},Reps K H α vs ds->Reps K H α ws es->Reps K H α (vs ++ ws) (ds ++ es)
 |_,_,_,_,.nil,s=>s
 |_,_,_,_,.cons r t,s=> .cons r (Reps.append t s)
theorem Reps.ints: ∀ (ns:List Int),Reps K H α (ns.map V.int) (ns.map D.int)
 | []=> .nil
 |n :: r=> .cons (.int n) (Reps.ints r)
theorem Zgd {p q:Addr}{xs:List V}{o:HO}(h:H q=some (.tup xs))(hp: ∀ u,H p=some u->(∀ ys,u≠ .tup ys)/\ ∀ ob w,u≠ .frz ob w):upd H p o q=some (.tup xs):=by
 rw[Zl (fun e=>(hp _ (e ▸ h)).1 _ rfl)]
 exact h
theorem Zge {p q:Addr}{xs:List V}{o:HO}(h:SqF K H q xs)(hp: ∀ u,H p=some u-> ∀ ob w,u≠ .frz ob w):SqF K (upd H p o) q xs:=by
 rcases h with ⟨ob,h⟩ | h
 ·refine .inl ⟨ob,?_⟩
  rw[Zl (fun e=>hp _ (e ▸ h) _ _ rfl)]
  exact h
 ·exact .inr h
theorem ZiY {p q:Addr}{ob:Obj}{u o:HO}(h:H q=some (.frz ob u))(hp: ∀ u,H p=some u-> ∀ ob w,u≠ .frz ob w):upd H p o q=some (.frz ob u):=by
 rw[Zl (fun e=>hp _ (e ▸ h) _ _ rfl)]
 exact h
theorem Zgf {p q C:Addr}{xs:List V}{o:HO}(h:EOk H q C xs)(hp: ∀ u,H p=some u->(∀ ob w,u≠ .frz ob w)/\ ∀ fs,u≠ .xd fs):EOk (upd H p o) q C xs:=by
 obtain ⟨oe,u,vs,h1,h2,h3,h4,h5⟩:=h
 refine ⟨oe,u,vs,?_,h2,h3,h4,?_⟩
 ·rw[Zl (fun e=>(hp _ (e ▸ h1)).1 _ _ rfl)]
  exact h1
 ·rcases h5 with h5 | ⟨dx,fs,k1,k2,k3⟩
  ·exact .inl h5
  ·refine .inr ⟨dx,fs,k1,?_,k3⟩
   rw[Zl (fun e=>(hp _ (e ▸ k2)).2 _ rfl)]
   exact k2
theorem Ext.new {p:Addr}{o:HO}(h:H p=none){β:List Addr}:Ext K H (upd H p o) α (α ++ β):=
 ⟨fun q xs z=>Zgd z (fun u e=>(by rw[h] at e;cases e)),fun q xs z=>Zge z (fun u e=>(by rw[h] at e;cases e)),fun q C xs z=>Zgf z (fun u e=>(by rw[h] at e;cases e)),fun q j z=>Kn.ne z h,fun q o u z=>ZiY z (fun u e=>(by rw[h] at e;cases e)),β,rfl⟩
theorem Ext.new0 {p:Addr}{o:HO}(h:H p=none):Ext K H (upd H p o) α α:=by
 have e:=Ext.new (K:=K) (H:=H) (α:=α) (o:=o) h (β:=[])
 rw[List.append_nil] at e;exact e
theorem Ext.wrK {p:Addr}{o:HO}{j:Nat}(h:Kn H p=some j)(nf: ∀ ob w,H p≠some (.frz ob w))(h':Kn (upd H p o) p=some j):Ext K H (upd H p o) α α:=by
 have ne (u:HO) (e:H p=some u):(∀ ys,u≠ .tup ys)/\(∀ ob w,u≠ .frz ob w)/\ ∀ fs,u≠ .xd fs:=by
  unfold Kn at h;rw[e] at h;refine ⟨fun ys z=> ?_,fun ob w z=>nf ob w (by rw[e,z]),fun fs z=> ?_⟩<;>subst z<;>cases h
 refine ⟨fun q xs z=>Zgd z fun u e=>⟨(ne u e).1,(ne u e).2.1⟩,fun q xs z=>Zge z fun u e=>(ne u e).2.1,fun q C xs z=>Zgf z fun u e=>⟨(ne u e).2.1,(ne u e).2.2⟩,fun q i z=> ?_,fun q ob u z=>ZiY z fun u e=>(ne u e).2.1,[],(List.append_nil _).symm⟩
 by_cases c:q=p
 ·subst c
  rw[h] at z;cases z
  exact h'
 ·unfold Kn
  rw[Zl c];exact z
theorem Ext.wr {p:Addr}{xs ys:List V}(h:H p=some (.lst xs)):Ext K H (upd H p (.lst ys)) α α:=Ext.wrK (Kn.lst h) (fun ob w z=>by rw[h] at z;cases z) (Kn.lst Zm)
noncomputable def ZoR:Key->D
 | .inl i=> .int i
 | .inr x=> .str x
noncomputable def ZlT (ks:List Key):D:= .tup (ks.map ZoR)
noncomputable def ZeG (K:PySem.W.Frag)(H:Hp)(α:List Addr){κ:Type}(key:κ->D)(kvs:List (κ × V))(ds:List D):Prop:=
 ∃ es:List D,ds=List.zipWith (fun kv e=>D.tup [key kv.1,e]) kvs es/\Reps K H α (kvs.map (·.2)) es
noncomputable def SOk (K:PySem.W.Frag)(H:Hp)(α:List Addr)(p:Addr):SO->Prop
 | .lst ds=>(∃ xs,H p=some (.lst xs)/\Reps K H α xs ds)\/(∃ kvs,H p=some (.dK kvs)/\ZeG K H α ZoR kvs ds)\/(∃ kvs,H p=some (.dT kvs)/\ZeG K H α ZlT kvs ds)\/(∃ o kvs r,H p=some (.frz o (.dK kvs))/\ds= .non :: r/\ZeG K H α ZoR kvs r)\/(∃ o kvs r,H p=some (.frz o (.dT kvs))/\ds= .non :: r/\ZeG K H α ZlT kvs r)
theorem SOk.there {p:Addr}{o:SO}(h:SOk K H α p o): ∃ u,H p=some u:=by
 cases o with
 |lst ds=>rcases h with ⟨_,e,_⟩ | ⟨_,e,_⟩ | ⟨_,e,_⟩ | ⟨_,_,_,e,_⟩ | ⟨_,_,_,e,_⟩<;>exact ⟨_,e⟩
theorem SOk.mono {p:Addr}{o:SO}(h:SOk K H α p o)(ex:Ext K H H' α α')(e:H' p=H p):SOk K H' α' p o:=by
 cases o with
 |lst ds=>
  rcases h with ⟨xs,h1,h2⟩ | ⟨kvs,h1,es,h2,h3⟩ | ⟨kvs,h1,es,h2,h3⟩ | ⟨o,kvs,r,h1,h0,es,h2,h3⟩ | ⟨o,kvs,r,h1,h0,es,h2,h3⟩
  ·exact .inl ⟨xs,e.trans h1,Reps.mono ex h2⟩
  ·exact .inr (.inl ⟨kvs,e.trans h1,es,h2,Reps.mono ex h3⟩)
  ·exact .inr (.inr (.inl ⟨kvs,e.trans h1,es,h2,Reps.mono ex h3⟩))
  ·exact .inr (.inr (.inr (.inl ⟨o,kvs,r,e.trans h1,h0,es,h2,Reps.mono ex h3⟩)))
  ·exact .inr (.inr (.inr (.inr ⟨o,kvs,r,e.trans h1,h0,es,h2,Reps.mono ex h3⟩)))
structure HR (K:PySem.W.Frag) (H:Hp) (α:List Addr) (M:Sto):Prop where
 len:α.length=M.length
 nd:α.Nodup
 ob: ∀ (n:Nat) (p:Addr) (o:SO),α[n]?=some p->M[n]?=some o->SOk K H α p o
theorem HR.nil:HR K H [] []:=⟨rfl,List.nodup_nil,fun n p o h=>by simp at h⟩
theorem Kn.at {H:Hp}{p:Addr}{j:Nat}{u:HO}(k:Kn H p=some j)(e:H p=some u):(match some u with | some (.lst _)=>some 0 | some (.dK _)=>some 1 | some (.dT _)=>some 2 | some (.frz _ (.dK _))=>some 1 | some (.frz _ (.dT _))=>some 2 | _=>none)=some j:=by
 unfold Kn at k;rw[e] at k;exact k
theorem HR.at (h:HR K H α M){n:Nat}{p:Addr}{ds:List D}(e:RefK H α 0 n p)(m:M[n]?=some (.lst ds)): ∃ xs,H p=some (.lst xs)/\Reps K H α xs ds:=by
 rcases h.ob n p _ e.at' m with h1 | ⟨_,h1,_⟩ | ⟨_,h1,_⟩ | ⟨_,_,_,h1,_⟩ | ⟨_,_,_,h1,_⟩
 ·exact h1
 all_goals exact absurd (Kn.at e.kn h1) (fun z=>nomatch z)
theorem RefK.lst {n:Nat}{p:Addr}(e:RefK H α 0 n p): ∃ xs,H p=some (.lst xs):=by
 have:=e.kn
 unfold Kn at this
 split at this
 ·rename_i xs h;exact ⟨xs,h⟩
 all_goals cases this
theorem HR.some_at {M:Sto}(h:HR K H α M){n:Nat}{p:Addr}(e:RefK H α 0 n p): ∃ xs,H p=some (.lst xs):=e.lst
theorem HR.there {M:Sto}(h:HR K H α M){n:Nat}{p:Addr}(e:α[n]?=some p): ∃ u,H p=some u:=by
 have hl:n < α.length:=(List.getElem?_eq_some_iff.mp e).1
 have hm:n < M.length:=by rw[<- h.len];exact hl
 exact (h.ob n p M[n] e (List.getElem?_eq_getElem hm)).there
theorem HR.tup {M:Sto}{p:Addr}{o:HO}(h:HR K H α M)(hp:H p=none):HR K (upd H p o) α M:=
 ⟨h.len,h.nd,fun n q so e m=>by
  obtain ⟨u,hu⟩:=h.there e
  exact (h.ob n q so e m).mono (Ext.new0 hp) (Zl (ZD hu hp))⟩
theorem HR.newO {M:Sto}{p:Addr}{o:HO}{so:SO}(h:HR K H α M)(hp:H p=none)(r:SOk K (upd H p o) (α ++ [p]) p so):HR K (upd H p o) (α ++ [p]) (M ++ [so]):=by
 have ex:Ext K H (upd H p o) α (α ++ [p]):=Ext.new hp
 refine ⟨by rw[List.length_append,List.length_append,h.len];rfl,?_,fun n q so' e m=> ?_⟩
 ·refine List.nodup_append.mpr ⟨h.nd,by simp,fun a ha b hb=> ?_⟩
  have hb':b=p:=by simpa using hb
  obtain ⟨n,hn,e⟩:=List.getElem_of_mem ha
  obtain ⟨u,z⟩:=h.there (n:=n) (p:=a) (by rw[List.getElem?_eq_getElem hn,e])
  rw[hb'];exact ZD z hp
 ·by_cases hn:n < α.length
  ·rw[List.getElem?_append_left hn] at e
   rw[List.getElem?_append_left (by rw[<- h.len];exact hn)] at m
   obtain ⟨u,hu⟩:=h.there e
   exact (h.ob n q so' e m).mono ex (Zl (ZD hu hp))
  ·have en:n=α.length:=by
    have:n < (α ++ [p]).length:=(List.getElem?_eq_some_iff.mp e).1
    rw[List.length_append,List.length_singleton] at this;omega
   subst en;rw[List.getElem?_append_right (Nat.le_refl _),Nat.sub_self] at e
   rw[h.len,List.getElem?_append_right (Nat.le_refl _),Nat.sub_self] at m
   cases e
   cases m
   exact r
theorem HR.new {M:Sto}{p:Addr}{xs:List V}{ds:List D}(h:HR K H α M)(hp:H p=none)(r:Reps K H α xs ds):HR K (upd H p (.lst xs)) (α ++ [p]) (M ++ [.lst ds]):=
 h.newO hp (.inl ⟨xs,Zm,Reps.mono (Ext.new hp) r⟩)
theorem Zh3 {n m:Nat}{p:Addr}(h:α.Nodup)(a:α[n]?=some p)(b:α[m]?=some p):n=m:=by
 obtain ⟨h1,e1⟩:=List.getElem?_eq_some_iff.mp a
 obtain ⟨h2,e2⟩:=List.getElem?_eq_some_iff.mp b
 exact (List.getElem_inj h).mp (e1.trans e2.symm)
theorem HR.wrO {M:Sto}{n:Nat}{p:Addr}{o:HO}{so:SO}(h:HR K H α M)(e:α[n]?=some p)(ex:Ext K H (upd H p o) α α)(r:SOk K (upd H p o) α p so):HR K (upd H p o) α (M.set n so):=by
 have hn:n < M.length:=by rw[<- h.len];exact (List.getElem?_eq_some_iff.mp e).1
 refine ⟨by rw[List.length_set];exact h.len,h.nd,fun k q so' e' m=> ?_⟩
 by_cases hk:k=n
 ·subst hk
  rw[e] at e';cases e'
  rw[List.getElem?_set_self hn] at m
  cases m
  exact r
 ·rw[List.getElem?_set_ne (Ne.symm hk)] at m
  have hq:q≠p:=fun z=>hk (Zh3 h.nd (z ▸ e') e)
  exact (h.ob k q so' e' m).mono ex (Zl hq)
theorem HR.wr {M:Sto}{n:Nat}{p:Addr}{xs ys:List V}{ds:List D}(h:HR K H α M)(e:RefK H α 0 n p)(hp:H p=some (.lst ys))(r:Reps K H α xs ds):HR K (upd H p (.lst xs)) α (M.set n (.lst ds)):=
 h.wrO e.at' (Ext.wr hp) (.inl ⟨xs,Zm,Reps.mono (Ext.wr hp) r⟩)
end
inductive Out (β:Type) where
 |ok (a:β) (M:Sto)
 |exc (c:Str) (M:Sto)
 |bad
noncomputable def Out.bind {β γ:Type}(o:Out β)(f:β->Sto->Out γ):Out γ:=match o with
 | .ok a M=>f a M
 | .exc c M=> .exc c M
 | .bad=> .bad
inductive Fl where
 |nx (ρ:Ro) (M:Sto)
 |ret (d:D) (M:Sto)
 |brk (ρ:Ro) (M:Sto)
 |cnt (ρ:Ro) (M:Sto)
 |exc (c:Str) (M:Sto)
 |bad
noncomputable def Zgg (c:Str):Bool:=c == PySem.Str.ofString "NoRound"
noncomputable def XO (K:PySem.W.Frag)(H:Hp)(α:List Addr)(c:Str)(M:Sto)(dct:Option Addr):Prop:=
 (Zgg c=false/\HR K H α M/\dct=none)\/(Zgg c=true/\ ∃ (M0:Sto) (ds:List D) (dx:Addr) (fs:List (Str × V)),M=M0 ++ [.lst ds]/\HR K H α M0/\dct=some dx/\H dx=some (.xd fs)/\fs.map (·.1)=ZqU/\Reps K H α (fs.map (·.2)) ds)
noncomputable def OG {β γ:Type}(K:PySem.W.Frag)(R:Hp->List Addr->γ->β->Prop)(H:Hp)(α:List Addr)(ξ:XK)(Q:γ->Hp->Prop):Out β->Prop
 | .ok d M'=> ∀ v H' α',Ext K H H' α α'->HR K H' α' M'->R H' α' v d->Q v H'
 | .exc c M'=> ∀ C H' α',PySem.W.nsIn K mainGlobals c=some (some (.ref C))->Ext K H H' α α'-> ∀ dct,XO K H' α' c M' dct->ξ (.ref C) dct H'
 | .bad=>False
theorem OG.ext {β γ:Type}{K:PySem.W.Frag}{R:Hp->List Addr->γ->β->Prop}{H H1:Hp}{α α1:List Addr}{ξ:XK}{Q:γ->Hp->Prop}{o:Out β}(h:OG K R H α ξ Q o)(e:Ext K H H1 α α1):OG K R H1 α1 ξ Q o:=by
 cases o with
 |ok d M'=>exact fun v H' α' e'=>h v H' α' (e.trans e')
 |exc c M'=>exact fun C H' α' n e'=>h C H' α' n (e.trans e')
 |bad=>exact h
noncomputable abbrev OP (K:PySem.W.Frag):=OG K (Rep K)
noncomputable abbrev OT (K:PySem.W.Frag):=OG (β:=Bool) (γ:=Bool) K (fun _ _ v d=>v=d)
noncomputable abbrev OA (K:PySem.W.Frag):=OG K (Reps K)
noncomputable def SR (K:PySem.W.Frag)(H:Hp)(α:List Addr)(σ:L2.St)(ρ:Ro):Prop:=σ.length=ρ.length/\ ∀ (i:Nat) (d:D),ρ[i]?=some (some d)-> ∃ v,σ[i]?=some (some v)/\Rep K H α v d
theorem SR.mono {K:PySem.W.Frag}{H H':Hp}{α α':List Addr}{σ:L2.St}{ρ:Ro}(h:SR K H α σ ρ)(e:Ext K H H' α α'):SR K H' α' σ ρ:=
 ⟨h.1,fun i d q=>let ⟨v,a,b⟩:=h.2 i d q;⟨v,a,Rep.mono e b⟩⟩
theorem SR.set {K:PySem.W.Frag}{H:Hp}{α:List Addr}{σ:L2.St}{ρ:Ro}{v:V}{d:D}(h:SR K H α σ ρ)(i:Nat)(r:Rep K H α v d):SR K H α (σ.set i (some v)) (ρ.set i (some d)):=by
 refine ⟨by rw[List.length_set,List.length_set];exact h.1,fun j e q=> ?_⟩
 by_cases hj:j=i
 ·subst hj
  have hl:j < ρ.length:=by
   have:=(List.getElem?_eq_some_iff.mp q).1
   rw[List.length_set] at this;exact this
  rw[List.getElem?_set_self hl] at q
  cases q
  exact ⟨v,by rw[List.getElem?_set_self (by rw[h.1];exact hl)],r⟩
 ·rw[List.getElem?_set_ne (Ne.symm hj)] at q
  rw[List.getElem?_set_ne (Ne.symm hj)]
  exact h.2 j e q
noncomputable abbrev Ev:=Ro->Sto->Out D
noncomputable abbrev Tv:=Ro->Sto->Out Bool
noncomputable abbrev Av:=Ro->Sto->Out (List D)
noncomputable abbrev Sv:=Ro->Sto->Fl
noncomputable def DE (X:Cx)(ξ:XK)(e:Expr)(f:Ev):Prop:= ∃ t:TE,PE X e t/\ ∀ σ ρ H α M Q,SR X.K H α σ ρ->HR X.K H α M->OP X.K H α ξ Q (f ρ M)->t σ H Q
noncomputable def DT (X:Cx)(ξ:XK)(e:Expr)(f:Tv):Prop:= ∃ t:TT,PT X e t/\ ∀ σ ρ H α M Q,SR X.K H α σ ρ->HR X.K H α M->OT X.K H α ξ Q (f ρ M)->t σ H Q
noncomputable def DW (X:Cx)(ξ:XK)(e:Expr)(f:Tv):Prop:= ∃ t:TT,PW X e t/\ ∀ σ ρ H α M Q,SR X.K H α σ ρ->HR X.K H α M->OT X.K H α ξ Q (f ρ M)->t σ H Q
noncomputable def DA (X:Cx)(ξ:XK)(es:List Expr)(f:Av):Prop:= ∃ t:TA,PA X es t/\ ∀ σ ρ H α M Q,SR X.K H α σ ρ->HR X.K H α M->OA X.K H α ξ Q (f ρ M)->t σ H Q
theorem OG.seq {β γ β' γ':Type}{K:PySem.W.Frag}{R:Hp->List Addr->γ->β->Prop}{R':Hp->List Addr->γ'->β'->Prop}{H:Hp}{α:List Addr}{ξ:XK}{Q:γ'->Hp->Prop}{Q1:γ->Hp->Prop}{o:Out β}{f:β->Sto->Out β'}
  (h:OG K R' H α ξ Q (o.bind f)) (k: ∀ d M' v H' α',Ext K H H' α α'->HR K H' α' M'->R H' α' v d->OG K R' H' α' ξ Q (f d M')->Q1 v H'):OG K R H α ξ Q1 o:=by
 cases o with
 |ok d M'=>exact fun v H' α' e hr r=>k d M' v H' α' e hr r (OG.ext (o:=f d M') h e)
 |exc c M'=>exact h
 |bad=>exact h
section
variable {X:Cx}{ξ:XK}{a b e:Expr}{fa fb:Ev}{pos:Pos}
noncomputable def Zf (i:Nat):Ev:=fun ρ M=>match ρ[i]? with | some (some d)=> .ok d M | _=> .bad
noncomputable def eC (d:D):Ev:=fun _ M=> .ok d M
theorem Zb (i:Nat){x:Str}(hN:X.N[i]?=some x:=by rfl)(hv:Vis X.env.scope x:=by first | exact Or.inl rfl | exact Or.inr (Or.inl rfl) | exact Or.inr (Or.inr rfl))(hd:(x == ("__debug__":Str))=false:=by decide)
  (hcd:(x == ("__classdict__":Str))=false:=by decide):DE X ξ (.Name x pos) (Zf i):=by
 refine ⟨_,ZbO hN hv hd hcd,fun σ ρ H α M Q s h q=> ?_⟩
 unfold Zf at q;cases e:ρ[i]? with
 |none=>rw[e] at q;exact q.elim
 |some o=>
  cases o with
  |none=>rw[e] at q;exact q.elim
  |some d=>
   rw[e] at q;obtain ⟨v,h1,h2⟩:=s.2 i d e
   exact ⟨v,h1,q v H α Ext.refl h h2⟩
theorem Ze {i:Int}{j pos}:DE X ξ (.Constant (.int i) j pos) (eC (.int i)):=⟨_,ZiQ,fun _ _ H α M _ _ h q=>q _ H α Ext.refl h (.int i)⟩
theorem Zdn {i:Bool}{j pos}:DE X ξ (.Constant (.bool i) j pos) (eC (.bl i)):=⟨_,ZoD,fun _ _ H α M _ _ h q=>q _ H α Ext.refl h (.bl i)⟩
theorem ZO {x:Str}{j pos}:DE X ξ (.Constant (.str x) j pos) (eC (.str x)):=⟨_,ZfM,fun _ _ H α M _ _ h q=>q _ H α Ext.refl h (.str x)⟩
noncomputable abbrev Bo:=D->D->Sto->Out D
noncomputable def e2 (f:Bo)(fa fb:Ev):Ev:=fun ρ M=>(fa ρ M).bind fun x M1=>(fb ρ M1).bind fun y M2=>f x y M2
noncomputable def BO (X:Cx)(ξ:XK)(r:R2)(f:Bo):Prop:= ∀ H α M v w x y Q,HR X.K H α M->Rep X.K H α v x->Rep X.K H α w y->OP X.K H α ξ Q (f x y M)->r v w H Q
theorem two {r:R2}{f:Bo}(hb:BO X ξ r f){ta tb:TE}(qa: ∀ σ ρ H α M Q,SR X.K H α σ ρ->HR X.K H α M->OP X.K H α ξ Q (fa ρ M)->ta σ H Q)
  (qb: ∀ σ ρ H α M Q,SR X.K H α σ ρ->HR X.K H α M->OP X.K H α ξ Q (fb ρ M)->tb σ H Q): ∀ σ ρ H α M Q,SR X.K H α σ ρ->HR X.K H α M->OP X.K H α ξ Q (e2 f fa fb ρ M)->tOp r ta tb σ H Q:=by
 intro σ ρ H α M Q s h q;refine qa σ ρ H α M _ s h (OG.seq q fun x M1 v H1 α1 e1 h1 r1 q1=> ?_)
 refine qb σ ρ H1 α1 M1 _ (s.mono e1) h1 (OG.seq q1 fun y M2 w H2 α2 e2 h2 r2 q2=> ?_)
 exact hb H2 α2 M2 v w x y Q h2 (Rep.mono e2 r1) r2 q2
theorem Zfh {op:Operator}{r:R2}{f:Bo}(ho:OpR X (binaryOp op) r)(hf:BO X ξ r f)(ha:DE X ξ a fa)(hb:DE X ξ b fb):DE X ξ (.BinOp a op b pos) (e2 f fa fb):=by
 obtain ⟨ta,ha,qa⟩:=ha
 obtain ⟨tb,hb,qb⟩:=hb
 exact ⟨_,ZoM ho ha hb,two hf qa qb⟩
theorem ZbQ {op:CmpOp}{r:R2}{f:Bo}(ho:OpR X (compareOp op) r)(hf:BO X ξ r f)(ha:DE X ξ a fa)(hb:DE X ξ b fb)(hm:behindInMarks op b=false:=by first | exact ZiT _ | with_unfolding_all rfl):DE X ξ (.Compare a [op] [b] pos) (e2 f fa fb):=by
 obtain ⟨ta,ha,qa⟩:=ha
 obtain ⟨tb,hb,qb⟩:=hb
 exact ⟨_,ZjJ ho ha hb hm,two hf qa qb⟩
noncomputable def tv (f:Ev):Tv:=fun ρ M=>(f ρ M).bind fun x M1=>match x with | .bl k=> .ok k M1 | _=> .bad
theorem ZlU {t:TE}{f:Ev}(qa: ∀ σ ρ H α M Q,SR X.K H α σ ρ->HR X.K H α M->OP X.K H α ξ Q (f ρ M)->t σ H Q): ∀ σ ρ H α M Q,SR X.K H α σ ρ->HR X.K H α M->OT X.K H α ξ Q (tv f ρ M)->ZlI t σ H Q:=by
 intro σ ρ H α M Q s h q;refine qa σ ρ H α M _ s h (OG.seq q fun x M1 v H1 α1 e1 h1 r1 q1=> ?_)
 cases r1 with
 |bl k=>exact ⟨k,rfl,q1 k H1 α1 Ext.refl h1 rfl⟩
 |_=>exact q1.elim
theorem Zz {op:CmpOp}{r:R2}{f:Bo}(ho:OpR X (compareOp op) r)(hf:BO X ξ r f)(ha:DE X ξ a fa)(hb:DE X ξ b fb)(hm:behindInMarks op b=false:=by first | exact ZiT _ | with_unfolding_all rfl):DT X ξ (.Compare a [op] [b] pos) (tv (e2 f fa fb)):=by
 obtain ⟨ta,ha,qa⟩:=ha
 obtain ⟨tb,hb,qb⟩:=hb
 exact ⟨_,ZjK ho ha hb hm,ZlU (two hf qa qb)⟩
theorem Z6 (h:DE X ξ e fa)(he: ∀ whole,isTrue e X.env whole=(do let v <- whole;standAt e.pos;holding [v] (truthy v)):=by intro _;rfl):DT X ξ e (tv fa):=by
 obtain ⟨ta,ha,qa⟩:=h
 exact ⟨_,Zlp ha he,ZlU qa⟩
variable {ga gb:Tv}{rest:List Expr}
noncomputable def Zbe (f g:Tv):Tv:=fun ρ M=>(f ρ M).bind fun k M1=>if k=true then g ρ M1 else .ok false M1
noncomputable def ZcP (f g:Tv):Tv:=fun ρ M=>(f ρ M).bind fun k M1=>if k=true then .ok true M1 else g ρ M1
noncomputable def Z1 (f:Tv):Tv:=fun ρ M=>(f ρ M).bind fun k M1=> .ok (!k) M1
theorem Zcd (ha:DT X ξ a ga):DW X ξ (.BoolOp .And [a] pos) ga:=let ⟨_,h,q⟩:=ha;⟨_,pw_and1 h,q⟩
theorem Zdo (ha:DT X ξ a ga):DW X ξ (.BoolOp .Or [a] pos) ga:=let ⟨_,h,q⟩:=ha;⟨_,pw_or1 h,q⟩
theorem Zdp (ha:DT X ξ a ga)(hb:DW X ξ (.BoolOp .And (b :: rest) pos) gb):DW X ξ (.BoolOp .And (a :: b :: rest) pos) (Zbe ga gb):=by
 obtain ⟨ta,ha,qa⟩:=ha
 obtain ⟨tb,hb,qb⟩:=hb
 refine ⟨_,pw_and ha hb,fun σ ρ H α M Q s h q=> ?_⟩
 refine qa σ ρ H α M _ s h (OG.seq q fun k M1 v H1 α1 e1 h1 r1 q1=> ?_)
 cases r1
 cases k with
 |true=>exact Zh2 (qb σ ρ H1 α1 M1 Q (s.mono e1) h1 q1)
 |false=>exact Zh1 (q1 false H1 α1 Ext.refl h1 rfl)
theorem ZcQ (ha:DT X ξ a ga)(hb:DW X ξ (.BoolOp .Or (b :: rest) pos) gb):DW X ξ (.BoolOp .Or (a :: b :: rest) pos) (ZcP ga gb):=by
 obtain ⟨ta,ha,qa⟩:=ha
 obtain ⟨tb,hb,qb⟩:=hb
 refine ⟨_,pw_or ha hb,fun σ ρ H α M Q s h q=> ?_⟩
 refine qa σ ρ H α M _ s h (OG.seq q fun k M1 v H1 α1 e1 h1 r1 q1=> ?_)
 cases r1
 cases k with
 |true=>exact Zh2 (q1 true H1 α1 Ext.refl h1 rfl)
 |false=>exact Zh1 (qb σ ρ H1 α1 M1 Q (s.mono e1) h1 q1)
theorem ZhH (h:DW X ξ e ga):DT X ξ e ga:=let ⟨_,h,q⟩:=h;⟨_,h.pt,q⟩
theorem Zas (ha:DT X ξ a ga):DT X ξ (.UnaryOp .Not a pos) (Z1 ga):=by
 obtain ⟨ta,ha,qa⟩:=ha
 refine ⟨_,Zlq ha,fun σ ρ H α M Q s h q=> ?_⟩
 refine qa σ ρ H α M _ s h (OG.seq q fun k M1 v H1 α1 e1 h1 r1 q1=> ?_)
 cases r1
 exact q1 (!k) H1 α1 Ext.refl h1 rfl
noncomputable def Zam (f g:Ev):Ev:=fun ρ M=>(f ρ M).bind fun x M1=>match x with | .bl k=>if k=true then g ρ M1 else .ok (.bl false) M1 | _=> .bad
noncomputable def Zgh (f g:Ev):Ev:=fun ρ M=>(f ρ M).bind fun x M1=>match x with | .bl k=>if k=true then .ok (.bl true) M1 else g ρ M1 | _=> .bad
noncomputable def Zb0 (f:Ev):Ev:=fun ρ M=>(f ρ M).bind fun x M1=>match x with | .bl k=> .ok (.bl (!k)) M1 | _=> .bad
theorem ZcC {op}(ha:DE X ξ a fa):DE X ξ (.BoolOp op [a] pos) fa:=let ⟨_,h,q⟩:=ha;⟨_,Zlr h,q⟩
theorem Zce (ha:DE X ξ a fa)(hb:DE X ξ (.BoolOp .And (b :: rest) pos) fb):DE X ξ (.BoolOp .And (a :: b :: rest) pos) (Zam fa fb):=by
 obtain ⟨ta,ha,qa⟩:=ha
 obtain ⟨tb,hb,qb⟩:=hb
 refine ⟨_,Zls ha hb,fun σ ρ H α M Q s h q=> ?_⟩
 refine qa σ ρ H α M _ s h (OG.seq q fun x M1 v H1 α1 e1 h1 r1 q1=> ?_)
 cases r1 with
 |bl k=>
  refine ⟨k,rfl,?_⟩
  cases k with
  |true=>exact Zh2 (qb σ ρ H1 α1 M1 Q (s.mono e1) h1 q1)
  |false=>exact Zh1 (q1 _ H1 α1 Ext.refl h1 (.bl false))
 |_=>exact q1.elim
theorem ZoS (ha:DE X ξ a fa)(hb:DE X ξ (.BoolOp .Or (b :: rest) pos) fb):DE X ξ (.BoolOp .Or (a :: b :: rest) pos) (Zgh fa fb):=by
 obtain ⟨ta,ha,qa⟩:=ha
 obtain ⟨tb,hb,qb⟩:=hb
 refine ⟨_,ZoG ha hb,fun σ ρ H α M Q s h q=> ?_⟩
 refine qa σ ρ H α M _ s h (OG.seq q fun x M1 v H1 α1 e1 h1 r1 q1=> ?_)
 cases r1 with
 |bl k=>
  refine ⟨k,rfl,?_⟩
  cases k with
  |true=>exact Zh2 (q1 _ H1 α1 Ext.refl h1 (.bl true))
  |false=>exact Zh1 (qb σ ρ H1 α1 M1 Q (s.mono e1) h1 q1)
 |_=>exact q1.elim
theorem ZiZ (ha:DE X ξ a fa):DE X ξ (.UnaryOp .Not a pos) (Zb0 fa):=by
 obtain ⟨ta,ha,qa⟩:=ha
 refine ⟨_,Zlt ha,fun σ ρ H α M Q s h q=> ?_⟩
 refine qa σ ρ H α M _ s h (OG.seq q fun x M1 v H1 α1 e1 h1 r1 q1=> ?_)
 cases r1 with
 |bl k=>exact ⟨k,rfl,q1 _ H1 α1 Ext.refl h1 (.bl (!k))⟩
 |_=>exact q1.elim
noncomputable def eIf (c:Tv)(f g:Ev):Ev:=fun ρ M=>(c ρ M).bind fun k M1=>if k=true then f ρ M1 else g ρ M1
theorem ZoT {c:Expr}(hc:DT X ξ c ga)(ha:DE X ξ a fa)(hb:DE X ξ b fb):DE X ξ (.IfExp c a b pos) (eIf ga fa fb):=by
 obtain ⟨tc,hc,qc⟩:=hc
 obtain ⟨ta,ha,qa⟩:=ha
 obtain ⟨tb,hb,qb⟩:=hb
 refine ⟨_,ZhO hc ha hb,fun σ ρ H α M Q s h q=> ?_⟩
 refine qc σ ρ H α M _ s h (OG.seq q fun k M1 v H1 α1 e1 h1 r1 q1=> ?_)
 cases r1
 cases k with
 |true=>exact Zh2 (qa σ ρ H1 α1 M1 Q (s.mono e1) h1 q1)
 |false=>exact Zh1 (qb σ ρ H1 α1 M1 Q (s.mono e1) h1 q1)
variable {es:List Expr}{fs:Av}
noncomputable def aNil:Av:=fun _ M=> .ok [] M
noncomputable def Zc (f:Ev)(g:Av):Av:=fun ρ M=>(f ρ M).bind fun x M1=>(g ρ M1).bind fun xs M2=> .ok (x :: xs) M2
theorem Zd:DA X ξ [] aNil:=⟨_,ZfY,fun _ _ H α M _ _ h q=>q _ H α Ext.refl h .nil⟩
theorem Za (ha:DE X ξ e fa)(hr:DA X ξ es fs)(hs:starEach (e :: es) X.env=(false,eval e X.env) :: starEach es X.env:=by rfl):DA X ξ (e :: es) (Zc fa fs):=by
 obtain ⟨ta,ha,qa⟩:=ha
 obtain ⟨tb,hb,qb⟩:=hr
 refine ⟨_,Zb9 ha hb hs,fun σ ρ H α M Q s h q=> ?_⟩
 refine qa σ ρ H α M _ s h (OG.seq q fun x M1 v H1 α1 e1 h1 r1 q1=> ?_)
 refine qb σ ρ H1 α1 M1 _ (s.mono e1) h1 (OG.seq q1 fun y M2 w H2 α2 e2 h2 r2 q2=> ?_)
 exact q2 _ H2 α2 Ext.refl h2 (.cons (Rep.mono e2 r1) r2)
noncomputable def ZU (f:Av):Ev:=fun ρ M=>(f ρ M).bind fun xs M1=>if xs.length<=1000 then .ok (.tup xs) M1 else .bad
noncomputable def ZbB (f:Av):Ev:=fun ρ M=>(f ρ M).bind fun xs M1=>if xs.length<=1000 then .ok (.ref M1.length) (M1 ++ [.lst xs]) else .bad
theorem ZjW {n:Nat}(h:n<=1000):n<=sizeLine:=Nat.le_of_lt (Zga h)
theorem Zt {x1}(ha:DA X ξ es fs):DE X ξ (.Tuple es x1 pos) (ZU fs):=by
 obtain ⟨ta,ha,qa⟩:=ha
 refine ⟨_,ZlJ ha,fun σ ρ H α M Q s h q=> ?_⟩
 refine qa σ ρ H α M _ s h (OG.seq q fun xs M1 vs H1 α1 e1 h1 r1 q1=> ?_)
 by_cases hl:xs.length<=1000
 ·rw[if_pos hl] at q1
  refine ⟨by rw[r1.length];exact ZjW hl,fun p hp=>q1 _ _ α1 (Ext.new0 hp) (h1.tup hp) (.tup Zm (Reps.mono (Ext.new0 hp) r1))⟩
 ·rw[if_neg hl] at q1
  exact q1.elim
theorem HR.last {K:PySem.W.Frag}{H:Hp}{α:List Addr}{M:Sto}(h:HR K H α M)(p:Addr):(α ++ [p])[M.length]?=some p:=by
 rw[<- h.len,List.getElem?_append_right (Nat.le_refl _),Nat.sub_self]
 rfl
theorem Zae (ha:DA X ξ es fs):DE X ξ (.List es pos) (ZbB fs):=by
 obtain ⟨ta,ha,qa⟩:=ha
 refine ⟨_,ZlK ha,fun σ ρ H α M Q s h q=> ?_⟩
 refine qa σ ρ H α M _ s h (OG.seq q fun xs M1 vs H1 α1 e1 h1 r1 q1=> ?_)
 by_cases hl:xs.length<=1000
 ·rw[if_pos hl] at q1
  refine ⟨by rw[r1.length];exact ZjW hl,fun p hp=>q1 _ _ (α1 ++ [p]) (Ext.new hp) (h1.new hp r1) (.ref ⟨h1.last p,Kn.lst Zm⟩)⟩
 ·rw[if_neg hl] at q1
  exact q1.elim
end
end DL
end
section
namespace DL
open PySem PySem.Spec PyProof.Rows L2
open PySem.SeqAt (EqAt RcAt RcNeAt)
noncomputable def ZA (i j:Int):Prop:=Builtin.Int.intBits i<=64\/Builtin.Int.intBits j<=64\/(Builtin.Int.intBits i<=60000000/\Builtin.Int.intBits j<=60000000)
noncomputable instance (i j:Int):Decidable (ZA i j):=by unfold ZA;infer_instance
theorem ZA.ok {i j:Int}(h:ZA i j):IntMulOk i j:=by
 rcases h with h | h | ⟨h1,h2⟩
 ·exact .of_left h
 ·exact .of_right h
 ·exact .of_le h1 h2 (by decide)
noncomputable def Z2 (j:Int):Prop:=j≠0/\j.natAbs.log2 < 9000
noncomputable instance (j:Int):Decidable (Z2 j):=by unfold Z2;infer_instance
section
variable {X:Cx}
theorem ZjX:OpR X (binaryOp .Mult) (rI ZA fun i j=> .int (i * j)):=opI fun _ _ _ _ _ _ _ hc q=>mul_int q hc.ok
theorem Zh4:OpR X (binaryOp .FloorDiv) (rI (fun _ j=>Z2 j) fun i j=> .int (i.fdiv j)):=opI fun _ _ _ _ _ _ _ hc q=>floordiv_int hc.1 q (.inl (PyProof.noPylong_of_log2 hc.2))
end
noncomputable def dAdd:Bo:=fun x y M=>match x,y with
 | .int i,.int j=> .ok (.int (i + j)) M
 | .str i,.str j=>if i.length + j.length<=100000 then .ok (.str (i ++ j)) M else .bad
 | .ref n,.ref m=>match M[n]?,M[m]? with
  |some (.lst xs),some (.lst ys)=>if xs.length + ys.length<=10000000 then .ok (.ref M.length) (M ++ [.lst (xs ++ ys)]) else .bad
  |_,_=> .bad
 | .tup xs,.tup ys=>if xs.length + ys.length<=100000/\xs≠[] then .ok (.tup (xs ++ ys)) M else .bad
 |_,_=> .bad
noncomputable def dSub:Bo:=fun x y M=>match x,y with | .int i,.int j=> .ok (.int (i - j)) M | _,_=> .bad
noncomputable def dMul:Bo:=fun x y M=>match x,y with | .int i,.int j=>if ZA i j then .ok (.int (i * j)) M else .bad | _,_=> .bad
noncomputable def dDiv:Bo:=fun x y M=>match x,y with | .int i,.int j=>if Z2 j then .ok (.int (i.fdiv j)) M else .bad | _,_=> .bad
noncomputable def dMod:Bo:=fun x y M=>match x,y with | .int i,.int j=>if j≠0 then .ok (.int (i.fmod j)) M else .bad | _,_=> .bad
noncomputable def dPow:Bo:=fun x y M=>match x,y with | .int i,.int j=>if 0<=j/\j<=1000000/\i.natAbs < 2 ^ 64 then .ok (.int (i ^ j.toNat)) M else .bad | _,_=> .bad
noncomputable def dLt:Bo:=fun x y M=>match x,y with | .int i,.int j=> .ok (.bl (decide (i < j))) M | _,_=> .bad
noncomputable def dLe:Bo:=fun x y M=>match x,y with | .int i,.int j=> .ok (.bl (decide (i<=j))) M | _,_=> .bad
noncomputable def dGt:Bo:=fun x y M=>match x,y with | .int i,.int j=> .ok (.bl (decide (j < i))) M | _,_=> .bad
noncomputable def dGe:Bo:=fun x y M=>match x,y with | .int i,.int j=> .ok (.bl (decide (j<=i))) M | _,_=> .bad
theorem Zh5 {n:Nat}(h:n<=100000):n<=sizeLine:=Nat.le_trans h (by decide)
section
variable {X:Cx}{ξ:XK}
theorem Zbm {r:R2}{f:Bo}{C:Int->Int->Prop}[∀ i j,Decidable (C i j)]{g:Int->Int->D}{gV:Int->Int->V}(hg: ∀ H α i j,Rep X.K H α (gV i j) (g i j))
  (hf: ∀ x y M,f x y M=match x,y with | .int i,.int j=>if C i j then .ok (g i j) M else .bad | _,_=> .bad) (hr: ∀ i j H Q,C i j->Q (gV i j) H->r (.int i) (.int j) H Q):BO X ξ r f:=by
 intro H α M v w x y Q h rv rw' q;rw[hf] at q;cases rv<;>first | exact q.elim | skip
 cases rw'<;>first | exact q.elim | skip
 rename_i i j
 by_cases c:C i j
 ·simp only[if_pos c] at q
  exact hr i j H Q c (q _ H α Ext.refl h (hg H α i j))
 ·simp only[if_neg c] at q
  exact q.elim
theorem ZlV:BO X ξ (rI0 fun i j=> .int (i - j)) dSub:=Zbm (C:=fun _ _=>True) (fun _ _ i j=> .int (i - j)) (fun x y M=>by cases x<;>cases y<;>simp[dSub]) fun i j H Q _ q=>⟨i,j,rfl,rfl,q⟩
theorem ZlW:BO X ξ (rI ZA fun i j=> .int (i * j)) dMul:=Zbm (C:=ZA) (fun _ _ i j=> .int (i * j)) (fun x y M=>by cases x<;>cases y<;>rfl) fun i j H Q c q=>⟨i,j,rfl,rfl,c,q⟩
theorem ZlX:BO X ξ (rI (fun _ j=>Z2 j) fun i j=> .int (i.fdiv j)) dDiv:=Zbm (C:=fun _ j=>Z2 j) (fun _ _ i j=> .int (i.fdiv j)) (fun x y M=>by cases x<;>cases y<;>rfl) fun i j H Q c q=>⟨i,j,rfl,rfl,c,q⟩
theorem ZlY:BO X ξ (rI (fun _ j=>j≠0) fun i j=> .int (i.fmod j)) dMod:=Zbm (C:=fun _ j=>j≠0) (fun _ _ i j=> .int (i.fmod j)) (fun x y M=>by cases x<;>cases y<;>rfl) fun i j H Q c q=>⟨i,j,rfl,rfl,c,q⟩
theorem ZlZ:BO X ξ (rI ZqR fun i j=> .int (i ^ j.toNat)) dPow:=Zbm (C:=fun i j=>0<=j/\j<=1000000/\i.natAbs < 2 ^ 64) (fun _ _ i j=> .int (i ^ j.toNat)) (fun x y M=>by cases x<;>cases y<;>rfl) fun i j H Q c q=>⟨i,j,rfl,rfl,c,q⟩
theorem Zdq:BO X ξ (rI0 fun i j=> .bl (decide (i < j))) dLt:=Zbm (C:=fun _ _=>True) (fun _ _ i j=> .bl _) (fun x y M=>by cases x<;>cases y<;>simp[dLt]) fun i j H Q _ q=>⟨i,j,rfl,rfl,q⟩
theorem Zh6:BO X ξ (rI0 fun i j=> .bl (decide (i<=j))) dLe:=Zbm (C:=fun _ _=>True) (fun _ _ i j=> .bl _) (fun x y M=>by cases x<;>cases y<;>simp[dLe]) fun i j H Q _ q=>⟨i,j,rfl,rfl,q⟩
theorem Zdr:BO X ξ (rI0 fun i j=> .bl (decide (j < i))) dGt:=Zbm (C:=fun _ _=>True) (fun _ _ i j=> .bl _) (fun x y M=>by cases x<;>cases y<;>simp[dGt]) fun i j H Q _ q=>⟨i,j,rfl,rfl,q⟩
theorem Zl0:BO X ξ (rI0 fun i j=> .bl (decide (j<=i))) dGe:=Zbm (C:=fun _ _=>True) (fun _ _ i j=> .bl _) (fun x y M=>by cases x<;>cases y<;>simp[dGe]) fun i j H Q _ q=>⟨i,j,rfl,rfl,q⟩
theorem ZjY:OpR X (binaryOp .Add) (fun x y H Q=>(rI0 (fun i j=> .int (i + j)) x y H Q\/(∃ i j,x= .str i/\y= .str j/\i.length + j.length<=sizeLine/\Q (.str (i ++ j)) H))\/(rCat x y H Q\/ZjQ X.K x y H Q)):=
 OpR.or (OpR.or ZlD Zfb) (OpR.or ZlS ZjR)
theorem Zl1:BO X ξ (fun x y H Q=>(rI0 (fun i j=> .int (i + j)) x y H Q\/(∃ i j,x= .str i/\y= .str j/\i.length + j.length<=sizeLine/\Q (.str (i ++ j)) H))\/(rCat x y H Q\/ZjQ X.K x y H Q)) dAdd:=by
 intro H α M v w x y Q h rv rw' q;unfold dAdd at q
 split at q
 ·rename_i i j
  cases rv
  cases rw'
  exact .inl (.inl ⟨i,j,rfl,rfl,q _ H α Ext.refl h (.int (i + j))⟩)
 ·rename_i i j
  cases rv
  cases rw'
  split at q
  ·rename_i c
   exact .inl (.inr ⟨i,j,rfl,rfl,Zh5 c,q _ H α Ext.refl h (.str _)⟩)
  ·exact q.elim
 ·rename_i n m
  cases rv with
  | @ref p _ hp=>
   cases rw' with
   | @ref p2 _ hp2=>
    split at q
    ·rename_i ds ds2 e1 e2
     split at q
     ·rename_i c
      obtain ⟨xs,g1,r1⟩:=h.at hp e1
      obtain ⟨ys,g2,r2⟩:=h.at hp2 e2
      refine .inr (.inl ⟨p,p2,xs,ys,rfl,rfl,g1,g2,by rw[r1.length,r2.length];exact Nat.le_trans c (by decide),fun l hl=> ?_⟩)
      exact q _ _ (α ++ [l]) (Ext.new hl) (h.new hl (r1.append r2)) (.ref ⟨h.last l,Kn.lst Zm⟩)
     ·exact q.elim
    ·exact q.elim
 ·rename_i ds ds2
  cases rv with
  | @tup p xs _ hp rp=>
   cases rw' with
   | @tup p2 xs2 _ hp2 rp2=>
    split at q
    ·rename_i c
     have nx:xs≠[]:=fun z=>c.2 (by have:=rp.length;rw[z] at this;exact List.eq_nil_of_length_eq_zero this.symm)
     refine .inr (.inr ⟨p,p2,xs,xs2,rfl,rfl,(SqT.of hp),(SqT.of hp2),nx,by rw[rp.length,rp2.length];exact Zh5 c.1,fun z=> ?_,fun _ l hl=> ?_⟩)
     ·subst z
      cases rp2
      rw[List.append_nil] at q;exact q _ H α Ext.refl h (.tup hp rp)
     ·exact q _ _ α (Ext.new0 hl) (h.tup hl) (.tup Zm (Reps.mono (Ext.new0 hl) (rp.append rp2)))
    ·exact q.elim
 ·exact q.elim
variable {a b e:Expr}{fa fb:Ev}{pos:Pos}
theorem ZF (ha:DE X ξ a fa)(hb:DE X ξ b fb):DE X ξ (.BinOp a .Add b pos) (e2 dAdd fa fb):=Zfh ZjY Zl1 ha hb
theorem Zaf (ha:DE X ξ a fa)(hb:DE X ξ b fb):DE X ξ (.BinOp a .Sub b pos) (e2 dSub fa fb):=Zfh ZlE ZlV ha hb
theorem ZI (ha:DE X ξ a fa)(hb:DE X ξ b fb):DE X ξ (.BinOp a .Mult b pos) (e2 dMul fa fb):=Zfh ZjX ZlW ha hb
theorem Zbn (ha:DE X ξ a fa)(hb:DE X ξ b fb):DE X ξ (.BinOp a .FloorDiv b pos) (e2 dDiv fa fb):=Zfh Zh4 ZlX ha hb
theorem ZaK (ha:DE X ξ a fa)(hb:DE X ξ b fb):DE X ξ (.BinOp a .Mod b pos) (e2 dMod fa fb):=Zfh ZjI ZlY ha hb
theorem Zi0 (ha:DE X ξ a fa)(hb:DE X ξ b fb):DE X ξ (.BinOp a .Pow b pos) (e2 dPow fa fb):=Zfh ZlF ZlZ ha hb
noncomputable def Zda (f:Ev):Ev:=fun ρ M=>(f ρ M).bind fun x M1=>match x with | .int i=> .ok (.int (-i)) M1 | _=> .bad
theorem ZbR (ha:DE X ξ a fa):DE X ξ (.UnaryOp .USub a pos) (Zda fa):=by
 obtain ⟨ta,ha,qa⟩:=ha
 refine ⟨_,ZlC ZiS ha,fun σ ρ H α M Q s h q=> ?_⟩
 refine qa σ ρ H α M _ s h (OG.seq q fun x M1 v H1 α1 e1 h1 r1 q1=> ?_)
 cases r1 with
 |int i=>exact ⟨i,rfl,q1 _ H1 α1 Ext.refl h1 (.int (-i))⟩
 |_=>exact q1.elim
noncomputable def atD (xs:List D)(i:Int)(M:Sto):Out D:=match atI xs i with | some d=> .ok d M | none=> .bad
noncomputable def dIx:Bo:=fun x y M=>match x,y with
 | .tup xs,.int i=>atD xs i M
 | .rol xs,.int i=>atD xs i M
 | .ref n,.int i=>match M[n]? with | some (.lst xs)=>atD xs i M | _=> .bad
 |_,_=> .bad
theorem Reps.atI {K:PySem.W.Frag}{H:Hp}{α:List Addr}{vs:List V}{ds:List D}{i:Int}{d:D}(r:Reps K H α vs ds)(h:L2.atI ds i=some d): ∃ v,L2.atI vs i=some v/\Rep K H α v d:=by
 unfold L2.atI at h ⊢;rw[r.length];cases e:ixN ds.length i with
 |none=>rw[e] at h;cases h
 |some j=>
  rw[e] at h;exact r.get h
theorem ZoU:BO X ξ (fun x y H Q=>ZqS X.K x y H Q\/ZqT X.K x y H Q) dIx:=by
 intro H α M v w x y Q h rv rw' q;have at': ∀ {ds:List D} {i:Int},OP X.K H α ξ Q (atD ds i M)-> ∃ d,L2.atI ds i=some d/\OP X.K H α ξ Q (.ok d M):=fun {ds i} q=>by
  unfold atD at q;cases e:L2.atI ds i with
  |none=>rw[e] at q;exact q.elim
  |some d=>rw[e] at q;exact ⟨d,rfl,q⟩
 unfold dIx at q
 split at q
 ·rename_i ds i
  cases rw'
  cases rv with
  | @tup p xs _ hp rp=>
   obtain ⟨d,e,q⟩:=at' q
   obtain ⟨v,h1,h2⟩:=rp.atI e
   exact .inr ⟨p,xs,i,v,rfl,rfl,(SqT.of hp),h1,q v H α Ext.refl h h2⟩
 ·rename_i ds i
  cases rw'
  cases rv with
  | @rol p xs _ hp rp=>
   obtain ⟨d,e,q⟩:=at' q
   obtain ⟨v,h1,h2⟩:=rp.atI e
   exact .inl ⟨p,xs,i,v,rfl,rfl,hp.sq,h1,q v H α Ext.refl h h2⟩
 ·rename_i n i
  cases rw'
  cases rv with
  | @ref p _ hp=>
   split at q
   ·rename_i ds e1
    obtain ⟨d,e,q⟩:=at' q
    obtain ⟨xs,g1,r1⟩:=h.at hp e1
    obtain ⟨v,h1,h2⟩:=r1.atI e
    exact .inl ⟨p,xs,i,v,rfl,rfl,SqL.of g1,h1,q v H α Ext.refl h h2⟩
   ·exact q.elim
 ·exact q.elim
theorem Zp (ha:DE X ξ a fa)(hb:DE X ξ b fb)(hs:Zf6 b:=by exact fun _ _=>rfl):DE X ξ (.Subscript a b pos) (e2 dIx fa fb):=by
 obtain ⟨ta,ha,qa⟩:=ha
 obtain ⟨tb,hb,qb⟩:=hb
 exact ⟨_,ZoQ (IxR.or ZjT ZlP) ha hb hs,two ZoU qa qb⟩
end
inductive Kd where
 |non | bl (b:Bool) | int (i:Int) | str (x:Str) | tup (xs:List D) | lst (xs:List D)
noncomputable def kd (M:Sto):D->Option Kd
 | .non=>some .non
 | .bl b=>some (.bl b)
 | .int i=>some (.int i)
 | .str x=>some (.str x)
 | .tup xs=>some (.tup xs)
 | .rol xs=>some (.lst xs)
 | .con xs=>some (.tup xs)
 | .ref n=>match M[n]? with | some (.lst xs)=>some (.lst xs) | _=>none
 | .err _ _=>none
 | .dk _=>none
 | .dt _=>none
 | .fn _=>none
noncomputable def eqL (f:D->D->Option Bool):List D->List D->Option Bool
 | [],[]=>some true
 |x :: xs,y :: ys=>match f x y with | some a=>(match eqL f xs ys with | some b=>some (a && b) | none=>none) | none=>none
 |_,_=>some false
noncomputable def eqK (f:D->D->Option Bool):Kd->Kd->Option Bool
 | .non,.non=>some true
 | .bl a,.bl b=>some (a == b)
 | .bl a,.int b=>some ((if a then 1 else 0) == b)
 | .int a,.bl b=>some (a == (if b then 1 else 0))
 | .int a,.int b=>some (a == b)
 | .str a,.str b=>some (a == b)
 | .tup xs,.tup ys=>eqL f xs ys
 | .lst xs,.lst ys=>if xs.length=ys.length then eqL f xs ys else some false
 |_,_=>some false
noncomputable def eqF:Nat->Sto->D->D->Option Bool
 |0,_,_,_=>none
 |n + 1,M,x,y=>match kd M x,kd M y with | some a,some b=>eqK (eqF n M) a b | _,_=>none
inductive Vw (X:Cx) (H:Hp) (α:List Addr) (s:Shared):Kd->Value->Prop where
 |non:Vw X H α s .non .none
 |bl (b:Bool):Vw X H α s (.bl b) (.bool b)
 |int (i:Int) (t:Tok):Vw X H α s (.int i) (.int i t)
 |str (x:Str) (t:Tok):Vw X H α s (.str x) (.str x t)
 |tup {p:Addr} {xs:List V} {ds:List D} {its:List Value}:s.heap.IsTuple p its.toArray->ZK xs its->Reps X.K H α xs ds->Vw X H α s (.tup ds) (.ref p)
 |lst {p:Addr} {xs:List V} {ds:List D} {its:List Value}:s.heap.IsList p its.toArray->ZK xs its->Reps X.K H α xs ds->Vw X H α s (.lst ds) (.ref p)
section
variable {X:Cx}{ξ:XK}{pins:List (Addr × Obj)}{σ:L2.St}{H:Hp}{s:Shared}{α:List Addr}{M:Sto}
theorem vw (I:Inv X pins σ H s)(h:HR X.K H α M){v:V}{x:D}{u:Value}{k:Kd}(r:Rep X.K H α v x)(ru:ZX v u)(e:kd M x=some k):Vw X H α s k u:=by
 cases r with
 |non=>cases e;cases ru;exact .non
 |bl b=>cases e;cases ru;exact .bl b
 |int i=>cases e;obtain ⟨t,rfl⟩:=ru;exact .int i t
 |str x=>cases e;obtain ⟨t,rfl⟩:=ru;exact .str x t
 |err _ _ _=>cases e
 |dk _=>cases e
 |dt _=>cases e
 |fn _=>cases e
 | @tup p xs ds hp rp=>
  cases e;cases ru
  obtain ⟨its,h1,h2,_⟩:=I.tuple (SqT.of hp)
  exact .tup h2 h1 rp
 | @con p xs ds hp rp=>
  cases e;cases ru
  obtain ⟨its,h1,h2,_⟩:=I.tuple hp.sq
  exact .tup h2 h1 rp
 | @rol p xs ds hp rp=>
  cases e;cases ru
  obtain ⟨its,h1,h2,_⟩:=I.list hp.sq
  exact .lst h2.isList h1 rp
 | @ref p n hp=>
  cases ru
  cases e1:M[n]? with
  |none=>simp only[kd,e1] at e;cases e
  |some o=>
   cases o with
   |lst ds=>
    simp only[kd,e1] at e;cases e
    obtain ⟨xs,g1,r1⟩:=h.at hp e1
    obtain ⟨its,h1,h2,_⟩:=I.list (SqL.of g1)
    exact .lst h2.isList h1 r1
noncomputable def Eq3 (A:Around)(s:Shared)(u z:Value)(b:Bool):Prop:=EqAt A s u z b/\RcAt A s u z b/\RcNeAt A s u z (!b)
theorem Zgi {f:D->D->Option Bool}: ∀ {xs ys:List D} {b:Bool},eqL f xs ys=some b->
  (∀ (j:Nat) x y,xs[j]?=some x->ys[j]?=some y-> ∃ c,f x y=some c)/\
  b=((List.range (min xs.length ys.length)).all (fun j=>match xs[j]?,ys[j]? with | some x,some y=>(f x y).getD false | _,_=>false) && xs.length == ys.length)
 | [],[],b,e=>by
  simp only[eqL,Option.some.injEq] at e;subst e;exact ⟨fun j x y h=>(by simp at h),(by simp)⟩
 |x :: xs,[],b,e=>by
  simp only[eqL,Option.some.injEq] at e;subst e;exact ⟨fun j x y h1 h2=>(by simp at h2),(by simp)⟩
 | [],y :: ys,b,e=>by
  simp only[eqL,Option.some.injEq] at e;subst e;exact ⟨fun j x y h1 h2=>(by simp at h1),(by simp)⟩
 |x :: xs,y :: ys,b,e=>by
  cases e1:f x y with
  |none=>simp only[eqL,e1] at e;cases e
  |some a=>
   cases e2:eqL f xs ys with
   |none=>simp only[eqL,e1,e2] at e;cases e
   |some c=>
    simp only[eqL,e1,e2,Option.some.injEq] at e;subst e;obtain ⟨h1,h2⟩:=Zgi e2
    refine ⟨fun j x' y' g1 g2=> ?_,?_⟩
    ·cases j with
     |zero=>
      simp at g1 g2
      subst g1 g2;exact ⟨a,e1⟩
     |succ j=>
      simp at g1 g2
      exact h1 j x' y' g1 g2
    ·have em:min (x :: xs).length (y :: ys).length=min xs.length ys.length + 1:=by simp only[List.length_cons];omega
     rw[em,List.range_succ_eq_map,List.all_cons,List.all_map,h2]
     simp[e1,Bool.and_assoc,Function.comp_def]
theorem Zh7 (I:Inv X pins σ H s)(h:HR X.K H α M): ∀ (n:Nat) {v:V} {x y:D} {b:Bool},Rep X.K H α v x->Rep X.K H α v y->eqF n M x y=some b->b=true:=by
 intro n
 induction n with
 |zero=>intro v x y b _ _ e;simp only[eqF] at e;cases e
 |succ n ih=>
  have lists: ∀ (vs:List V) (xs ys:List D) (b:Bool),Reps X.K H α vs xs->Reps X.K H α vs ys->eqL (eqF n M) xs ys=some b->b=true:=by
   intro vs
   induction vs with
   |nil=>
    intro xs ys b r1 r2 e;cases r1;cases r2
    simp only[eqL,Option.some.injEq] at e;exact e.symm
   |cons v vs iv=>
    intro xs ys b r1 r2 e;cases r1 with
    |cons p1 t1=>
     cases r2 with
     |cons p2 t2=>
      rename_i d1 ds1 d2 ds2;cases e1:eqF n M d1 d2 with
      |none=>simp only[eqL,e1] at e;cases e
      |some a=>
       cases e2:eqL (eqF n M) ds1 ds2 with
       |none=>simp only[eqL,e1,e2] at e;cases e
       |some c=>
        simp only[eqL,e1,e2,Option.some.injEq] at e;rw[<- e,ih p1 p2 e1,iv _ _ _ t1 t2 e2];rfl
  intro v x y b r1 r2 e;have nl: ∀ {p:Addr} {xs ys:List V},SqT X.K H p xs->SqL X.K H p ys->False:=fun {p xs ys} a c=>by
   obtain ⟨i1,_,⟨o1,g1,c1,_⟩,_⟩:=I.tuple a
   obtain ⟨i2,_,⟨o2,_,g2,c2,_⟩,_⟩:=I.list c
   rw[g1] at g2;cases g2
   rw[c1] at c2;exact absurd c2 (by decide)
  have ll: ∀ {p:Addr} {n:Nat} {ds:List D},RefK H α 0 n p->M[n]?=some (.lst ds)-> ∃ vs,SqL X.K H p vs/\Reps X.K H α vs ds:=fun {p n ds} a c=>by
   obtain ⟨xs,g1,r1⟩:=h.at a c
   exact ⟨xs,SqL.of g1,r1⟩
  cases r1 with
  |non=>cases r2;simp only[eqF,kd,eqK,Option.some.injEq] at e;exact e.symm
  |bl c=>cases r2;simp only[eqF,kd,eqK,Option.some.injEq,beq_self_eq_true] at e;exact e.symm
  |int c=>cases r2;simp only[eqF,kd,eqK,Option.some.injEq,beq_self_eq_true] at e;exact e.symm
  |str c=>cases r2;simp only[eqF,kd,eqK,Option.some.injEq,beq_self_eq_true] at e;exact e.symm
  |err _ _ _=>simp[eqF,kd] at e
  |dk _=>simp[eqF,kd] at e
  |dt _=>simp[eqF,kd] at e
  |fn _=>simp[eqF,kd] at e
  | @tup p xs ds hp rp=>
   cases r2 with
   | @tup _ xs2 ds2 hp2 rp2=>
    cases I.tuple_inj (SqT.of hp) (SqT.of hp2)
    simp only[eqF,kd,eqK] at e;exact lists _ _ _ _ rp rp2 e
   | @con _ xs2 ds2 hp2 rp2=>
    cases I.tuple_inj (SqT.of hp) hp2.sq
    simp only[eqF,kd,eqK] at e;exact lists _ _ _ _ rp rp2 e
   | @rol _ xs2 ds2 hp2 rp2=>exact (nl (SqT.of hp) hp2.sq).elim
   |err _ _ _=>simp[eqF,kd] at e
   |dk _=>simp[eqF,kd] at e
   |dt _=>simp[eqF,kd] at e
   |fn _=>simp[eqF,kd] at e
   | @ref _ n2 hp2=>
    obtain ⟨ys,g⟩:=h.some_at hp2
    exact (nl (SqT.of hp) (SqL.of g)).elim
  | @con p xs ds hp rp=>
   cases r2 with
   | @tup _ xs2 ds2 hp2 rp2=>
    cases I.tuple_inj hp.sq (SqT.of hp2)
    simp only[eqF,kd,eqK] at e;exact lists _ _ _ _ rp rp2 e
   | @con _ xs2 ds2 hp2 rp2=>
    cases I.tuple_inj hp.sq hp2.sq
    simp only[eqF,kd,eqK] at e;exact lists _ _ _ _ rp rp2 e
   | @rol _ xs2 ds2 hp2 rp2=>exact (nl hp.sq hp2.sq).elim
   |err _ _ _=>simp[eqF,kd] at e
   |dk _=>simp[eqF,kd] at e
   |dt _=>simp[eqF,kd] at e
   |fn _=>simp[eqF,kd] at e
   | @ref _ n2 hp2=>
    obtain ⟨ys,g⟩:=h.some_at hp2
    exact (nl hp.sq (SqL.of g)).elim
  | @rol p xs ds hp rp=>
   cases r2 with
   | @tup _ xs2 ds2 hp2 rp2=>exact (nl (SqT.of hp2) hp.sq).elim
   | @con _ xs2 ds2 hp2 rp2=>exact (nl hp2.sq hp.sq).elim
   |err _ _ _=>simp[eqF,kd] at e
   |dk _=>simp[eqF,kd] at e
   |dt _=>simp[eqF,kd] at e
   |fn _=>simp[eqF,kd] at e
   | @rol _ xs2 ds2 hp2 rp2=>
    cases I.list_inj hp.sq hp2.sq
    simp only[eqF,kd,eqK,if_pos (rp.length.symm.trans rp2.length)] at e;exact lists _ _ _ _ rp rp2 e
   | @ref _ n2 hp2=>
    cases e1:M[n2]? with
    |none=>simp only[eqF,kd,e1] at e;cases e
    |some o=>
     cases o with
     |lst ds2=>
      obtain ⟨ys,g,r⟩:=ll hp2 e1
      cases I.list_inj hp.sq g
      simp only[eqF,kd,e1,eqK,if_pos (rp.length.symm.trans r.length)] at e;exact lists _ _ _ _ rp r e
  | @ref p n1 hp=>
   cases e0:M[n1]? with
   |none=>simp only[eqF,kd,e0] at e;cases e
   |some o0=>
    cases o0 with
    |lst ds=>
     obtain ⟨xs,g0,rp⟩:=ll hp e0
     cases r2 with
     | @tup _ xs2 ds2 hp2 rp2=>exact (nl (SqT.of hp2) g0).elim
     | @con _ xs2 ds2 hp2 rp2=>exact (nl hp2.sq g0).elim
     |err _ _ _=>simp[eqF,kd,e0] at e
     |dk _=>simp[eqF,kd,e0] at e
     |dt _=>simp[eqF,kd,e0] at e
     |fn _=>simp[eqF,kd,e0] at e
     | @rol _ xs2 ds2 hp2 rp2=>
      cases I.list_inj g0 hp2.sq
      simp only[eqF,kd,e0,eqK,if_pos (rp.length.symm.trans rp2.length)] at e;exact lists _ _ _ _ rp rp2 e
     | @ref _ n2 hp2=>
      cases e1:M[n2]? with
      |none=>simp only[eqF,kd,e0,e1] at e;cases e
      |some o=>
       cases o with
       |lst ds2=>
        obtain ⟨ys,g,r⟩:=ll hp2 e1
        cases I.list_inj g0 g
        simp only[eqF,kd,e0,e1,eqK,if_pos (rp.length.symm.trans r.length)] at e;exact lists _ _ _ _ rp r e
end
end DL
end
section
namespace DL
open PySem PySem.Spec PyProof.Rows L2
open PySem.SeqAt (EqAt RcAt RcNeAt)
section
variable {X:Cx}{ξ:XK}{pins:List (Addr × Obj)}{σ:L2.St}{H:Hp}{s:Shared}{α:List Addr}{M:Sto}
theorem ZeH {A:Around}{n:Nat}{xs1 xs2:List V}{ds1 ds2:List D}{i1 i2:List Value}{b:Bool}(v1:ZK xs1 i1)(v2:ZK xs2 i2)(r1:Reps X.K H α xs1 ds1)(r2:Reps X.K H α xs2 ds2)
  (ih: ∀ (x y:D) (v w:V) (u z:Value) (b:Bool),eqF n M x y=some b->Rep X.K H α v x->Rep X.K H α w y->ZX v u->ZX w z->EqAt A s u z b) (e:eqL (eqF n M) ds1 ds2=some b):
  ∃ f:Nat->Bool,(∀ (j:Nat) (h1:j < i1.toArray.size) (h2:j < i2.toArray.size),EqAt A s i1.toArray[j] i2.toArray[j] (f j))/\b=((List.range (min i1.toArray.size i2.toArray.size)).all f && i1.toArray.size == i2.toArray.size):=by
 obtain ⟨g1,g2⟩:=Zgi e
 have l1:i1.toArray.size=ds1.length:=by rw[List.size_toArray,<- v1.length,r1.length]
 have l2:i2.toArray.size=ds2.length:=by rw[List.size_toArray,<- v2.length,r2.length]
 refine ⟨_,fun j h1 h2=> ?_,by rw[l1,l2];exact g2⟩
 have k1:j < ds1.length:=by rw[<- l1];exact h1
 have k2:j < ds2.length:=by rw[<- l2];exact h2
 obtain ⟨c,hc⟩:=g1 j _ _ (List.getElem?_eq_getElem k1) (List.getElem?_eq_getElem k2)
 obtain ⟨v,a1,a2⟩:=r1.get (List.getElem?_eq_getElem k1)
 obtain ⟨w,b1,b2⟩:=r2.get (List.getElem?_eq_getElem k2)
 obtain ⟨u,a3,a4⟩:=v1.get a1
 obtain ⟨z,b3,b4⟩:=v2.get b1
 have q:=ih _ _ v w u z c hc a2 b2 a4 b4
 simp only[List.getElem?_eq_getElem k1,List.getElem?_eq_getElem k2,hc,Option.getD_some]
 have e1:i1.toArray[j]=u:=by
  have:=List.getElem?_eq_some_iff.mp a3
  obtain ⟨_,z⟩:=this
  simpa using z
 have e2:i2.toArray[j]=z:=by
  have:=List.getElem?_eq_some_iff.mp b3
  obtain ⟨_,z⟩:=this
  simpa using z
 rw[e1,e2];exact q
theorem Zgj (I:Inv X pins σ H s)(h:HR X.K H α M){n:Nat}{x y:D}{v w:V}{p q:Addr}{b:Bool}{A:Around}(e:eqF n M x y=some b)(rx:Rep X.K H α v x)(ry:Rep X.K H α w y)(rv:ZX v (.ref p))(rw':ZX w (.ref q))
  (k:RcAt A s (.ref p) (.ref q) b) (k':RcNeAt A s (.ref p) (.ref q) (!b)):Eq3 A s (.ref p) (.ref q) b:=by
 refine ⟨?_,k,k'⟩
 by_cases c:p=q
 ·subst c
  cases ZX.inj rv rw'
  rw[Zh7 I h n rx ry e];exact EqAt.same _
 ·exact EqAt.of_refs c k
theorem eq3 (I:Inv X pins σ H s)(h:HR X.K H α M): ∀ (n:Nat) (x y:D) (v w:V) (u z:Value) (b:Bool) (A:Around),A.units + n < cLine->eqF n M x y=some b->Rep X.K H α v x->Rep X.K H α w y->ZX v u->ZX w z->Eq3 A s u z b:=by
 intro n
 induction n with
 |zero=>intro x y v w u z b A _ e;simp only[eqF] at e;cases e
 |succ n ih=>
  intro x y v w u z b A hn e rx ry rv rw';have hu:A.units < cLine:=by omega
  have e0:=e
  unfold eqF at e;cases ka:kd M x with
  |none=>rw[ka] at e;cases e
  |some ka'=>
   cases kb:kd M y with
   |none=>rw[ka,kb] at e;cases e
   |some kb'=>
    rw[ka,kb] at e;have va:=vw I h rx rv ka
    have vb:=vw I h ry rw' kb
    have deep: ∀ (x y:D) (v w:V) (u z:Value) (b:Bool),eqF n M x y=some b->Rep X.K H α v x->Rep X.K H α w y->ZX v u->ZX w z->EqAt A.in1 s u z b:=fun x y v w u z b e a1 a2 a3 a4=>
     (ih x y v w u z b A.in1 (by rw[Around.in1_units];omega) e a1 a2 a3 a4).1
    cases va with
    |non=>
     cases vb<;>simp only[eqK,Option.some.injEq] at e<;>subst e
     ·exact ⟨EqAt.same _,.none_none,.none_none⟩
     ·exact ⟨.none_bool _,.none_bool _,.none_bool _⟩
     ·exact ⟨.none_int _ _,.none_int _ _,.none_int _ _⟩
     ·exact ⟨.none_str _ _,.none_str _ _,.none_str _ _⟩
     ·rename_i g _ _;exact ⟨.none_tuple g hu,.none_tuple g hu,.none_tuple g hu⟩
     ·rename_i g _ _;exact ⟨.none_list g hu,.none_list g hu,.none_list g hu⟩
    |bl c=>
     cases vb<;>simp only[eqK,Option.some.injEq] at e<;>subst e
     ·exact ⟨.bool_none _,.bool_none _,.bool_none _⟩
     ·exact ⟨.bool_bool _ _,.bool_bool _ _,.bool_bool _ _⟩
     ·exact ⟨.bool_int _ _ _,.bool_int _ _ _,.bool_int _ _ _⟩
     ·exact ⟨.bool_str _ _ _,.bool_str _ _ _,.bool_str _ _ _⟩
     ·rename_i g _ _;exact ⟨.bool_tuple _ g hu,.bool_tuple _ g hu,.bool_tuple _ g hu⟩
     ·rename_i g _ _;exact ⟨.bool_list _ g hu,.bool_list _ g hu,.bool_list _ g hu⟩
    |int c t=>
     cases vb<;>simp only[eqK,Option.some.injEq] at e<;>subst e
     ·exact ⟨.int_none _ _,.int_none _ _,.int_none _ _⟩
     ·exact ⟨.int_bool _ _ _,.int_bool _ _ _,.int_bool _ _ _⟩
     ·exact ⟨.int_int _ _ _ _,.int_int _ _ _ _,.int_int _ _ _ _⟩
     ·exact ⟨.int_str _ _ _ _,.int_str _ _ _ _,.int_str _ _ _ _⟩
     ·rename_i g _ _;exact ⟨.int_tuple _ _ g hu,.int_tuple _ _ g hu,.int_tuple _ _ g hu⟩
     ·rename_i g _ _;exact ⟨.int_list _ _ g hu,.int_list _ _ g hu,.int_list _ _ g hu⟩
    |str c t=>
     cases vb<;>simp only[eqK,Option.some.injEq] at e<;>subst e
     ·exact ⟨.str_none _ _,.str_none _ _,.str_none _ _⟩
     ·exact ⟨.str_bool _ _ _,.str_bool _ _ _,.str_bool _ _ _⟩
     ·exact ⟨.str_int _ _ _ _,.str_int _ _ _ _,.str_int _ _ _ _⟩
     ·exact ⟨.str_str _ _ _ _,.str_str _ _ _ _,.str_str _ _ _ _⟩
     ·rename_i g _ _;exact ⟨.str_tuple _ _ g hu,.str_tuple _ _ g hu,.str_tuple _ _ g hu⟩
     ·rename_i g _ _;exact ⟨.str_list _ _ g hu,.str_list _ _ g hu,.str_list _ _ g hu⟩
    | @tup p xs ds its g1 w1 q1=>
     cases vb with
     | @tup p2 xs2 ds2 its2 g2 w2 q2=>
      simp only[eqK] at e;obtain ⟨f,hf,hb⟩:=ZeH w1 w2 q1 q2 deep e
      subst hb;exact Zgj I h e0 rx ry rv rw' (.tuples g1 g2 hu hf) (.tuples g1 g2 hu hf)
     | @lst p2 xs2 ds2 its2 g2 w2 q2=>
      simp only[eqK,Option.some.injEq] at e;subst e;exact Zgj I h e0 rx ry rv rw' (.tuple_list g1 g2 hu) (.tuple_list g1 g2 hu)
     |non=>simp only[eqK,Option.some.injEq] at e;subst e;exact ⟨.tuple_none g1 hu,.tuple_none g1 hu,.tuple_none g1 hu⟩
     |bl c=>simp only[eqK,Option.some.injEq] at e;subst e;exact ⟨.tuple_bool _ g1 hu,.tuple_bool _ g1 hu,.tuple_bool _ g1 hu⟩
     |int c t=>simp only[eqK,Option.some.injEq] at e;subst e;exact ⟨.tuple_int _ _ g1 hu,.tuple_int _ _ g1 hu,.tuple_int _ _ g1 hu⟩
     |str c t=>simp only[eqK,Option.some.injEq] at e;subst e;exact ⟨.tuple_str _ _ g1 hu,.tuple_str _ _ g1 hu,.tuple_str _ _ g1 hu⟩
    | @lst p xs ds its g1 w1 q1=>
     cases vb with
     | @lst p2 xs2 ds2 its2 g2 w2 q2=>
      simp only[eqK] at e;have l1:its.toArray.size=ds.length:=by rw[List.size_toArray,<- w1.length,q1.length]
      have l2:its2.toArray.size=ds2.length:=by rw[List.size_toArray,<- w2.length,q2.length]
      by_cases c:ds.length=ds2.length
      ·rw[if_pos c] at e
       have hs:its.toArray.size=its2.toArray.size:=by rw[l1,l2,c]
       obtain ⟨f,hf,hb⟩:=ZeH w1 w2 q1 q2 deep e
       rw[hs,Nat.min_self,beq_self_eq_true,Bool.and_true,<- hs] at hb;subst hb;exact Zgj I h e0 rx ry rv rw' (.lists g1 g2 hs hu hf) (.lists g1 g2 hs hu hf)
      ·rw[if_neg c] at e
       have e':false=b:=Option.some.inj e
       subst e';have hs:(its.toArray.size != its2.toArray.size)=true:=by rw[l1,l2];simpa using c
       exact Zgj I h e0 rx ry rv rw' (.lists_lengths g1 g2 hs hu) (.lists_lengths g1 g2 hs hu)
     | @tup p2 xs2 ds2 its2 g2 w2 q2=>
      simp only[eqK,Option.some.injEq] at e;subst e;exact Zgj I h e0 rx ry rv rw' (.list_tuple g1 g2 hu) (.list_tuple g1 g2 hu)
     |non=>simp only[eqK,Option.some.injEq] at e;subst e;exact ⟨.list_none g1 hu,.list_none g1 hu,.list_none g1 hu⟩
     |bl c=>simp only[eqK,Option.some.injEq] at e;subst e;exact ⟨.list_bool _ g1 hu,.list_bool _ g1 hu,.list_bool _ g1 hu⟩
     |int c t=>simp only[eqK,Option.some.injEq] at e;subst e;exact ⟨.list_int _ _ g1 hu,.list_int _ _ g1 hu,.list_int _ _ g1 hu⟩
     |str c t=>simp only[eqK,Option.some.injEq] at e;subst e;exact ⟨.list_str _ _ g1 hu,.list_str _ _ g1 hu,.list_str _ _ g1 hu⟩
end
section
variable {X:Cx}{ξ:XK}
noncomputable def Zot (X:Cx)(neg:Bool):R2:=fun v w H Q=> ∃ α M x y b,HR X.K H α M/\Rep X.K H α v x/\Rep X.K H α w y/\eqF 12 M x y=some b/\Q (.bl (neg ^^ b)) H
theorem ZcD (hu:X.A.units + 64 < cLine):OpR X (compareOp .Eq) (Zot X false):=by
 intro pins s σ H v w u z Q I rv rw' ⟨α,M,x,y,b,h,rx,ry,e,q⟩;refine (eq3 I h 12 x y v w u z b X.A (by omega) e rx ry rv rw').2.1 _ _ _ _ ⟨.bl b,H,I,rfl,?_⟩
 simpa using q
theorem Za7 (hu:X.A.units + 64 < cLine):OpR X (compareOp .NotEq) (Zot X true):=by
 intro pins s σ H v w u z Q I rv rw' ⟨α,M,x,y,b,h,rx,ry,e,q⟩;refine (eq3 I h 12 x y v w u z b X.A (by omega) e rx ry rv rw').2.2 _ _ _ _ ⟨.bl (!b),H,I,rfl,?_⟩
 simpa using q
noncomputable def dEq:Bo:=fun x y M=>match eqF 12 M x y with | some b=> .ok (.bl b) M | none=> .bad
noncomputable def dNe:Bo:=fun x y M=>match eqF 12 M x y with | some b=> .ok (.bl (!b)) M | none=> .bad
theorem Zfi:BO X ξ (Zot X false) dEq:=by
 intro H α M v w x y Q h rv rw' q;unfold dEq at q;cases e:eqF 12 M x y with
 |none=>rw[e] at q;exact q.elim
 |some b=>rw[e] at q;exact ⟨α,M,x,y,b,h,rv,rw',e,by simpa using q _ H α Ext.refl h (.bl b)⟩
theorem Zcy:BO X ξ (Zot X true) dNe:=by
 intro H α M v w x y Q h rv rw' q;unfold dNe at q;cases e:eqF 12 M x y with
 |none=>rw[e] at q;exact q.elim
 |some b=>rw[e] at q;exact ⟨α,M,x,y,b,h,rv,rw',e,by simpa using q _ H α Ext.refl h (.bl (!b))⟩
noncomputable def isP:D->D->Option Bool
 | .non,.non=>some true
 | .bl a,.bl b=>some (a == b)
 |_,.non=>some false
 |_,.bl _=>some false
 |_,_=>none
noncomputable def dIs:Bo:=fun x y M=>match isP x y with | some b=> .ok (.bl b) M | none=> .bad
noncomputable def Zbo:Bo:=fun x y M=>match isP x y with | some b=> .ok (.bl (!b)) M | none=> .bad
noncomputable def Zl2:D->Bool
 | .non=>true
 | .bl _=>true
 | .int _=>true
 | .str _=>true
 |_=>false
noncomputable def Zr8:D->D->Bool
 | .non,.non=>true
 | .bl a,.bl b=>a == b
 | .bl a,.int b=>(if a then 1 else 0) == b
 | .int a,.bl b=>a == (if b then 1 else 0)
 | .int a,.int b=>a == b
 | .str a,.str b=>a == b
 |_,_=>false
noncomputable def Zds (M:Sto):D->Option (List D)
 | .tup xs=>some xs
 | .rol xs=>some xs
 | .con xs=>some xs
 | .ref n=>match M[n]? with | some (.lst xs)=>some xs | _=>none
 |_=>none
theorem Zgk {K:PySem.W.Frag}{H:Hp}{α:List Addr}{M:Sto}(h:HR K H α M){v:V}{x:D}{ds:List D}(r:Rep K H α v x)(e:Zds M x=some ds): ∃ p xs,v= .ref p/\(SqL K H p xs\/SqT K H p xs)/\Reps K H α xs ds:=by
 cases r with
 | @tup p xs ds hp rp=>cases e;exact ⟨p,xs,rfl,.inr (SqT.of hp),rp⟩
 | @con p xs ds hp rp=>cases e;exact ⟨p,xs,rfl,.inr hp.sq,rp⟩
 | @rol p xs ds hp rp=>cases e;exact ⟨p,xs,rfl,.inl hp.sq,rp⟩
 | @ref p n hp=>
  cases e1:M[n]? with
  |none=>simp only[Zds,e1] at e;cases e
  |some o=>
   cases o with
   |lst es=>
    simp only[Zds,e1] at e;cases e
    obtain ⟨xs,g1,r1⟩:=h.at hp e1
    exact ⟨p,xs,rfl,.inl (SqL.of g1),r1⟩
 |_=>cases e
noncomputable def inD (x y:D)(M:Sto):Option Bool:=match Zds M y with | some ds=>if Zl2 x=true/\ds.all Zl2=true then some (ds.any fun y=>Zr8 y x) else none | none=>none
variable {e:Expr}{es:List Expr}{fs:Av}{fa:Ev}{p pos:Pos}{x:Str}{id T:String}{r:List V->Hp->VK->Prop}{f:List D->Sto->Out D}
noncomputable def Zj (f:List D->Sto->Out D)(fs:Av):Ev:=fun ρ M=>(fs ρ M).bind f
noncomputable def CO (X:Cx)(ξ:XK)(r:List V->Hp->VK->Prop)(f:List D->Sto->Out D):Prop:= ∀ H α M vs ds Q,HR X.K H α M->Reps X.K H α vs ds->OP X.K H α ξ Q (f ds M)->r vs H Q
theorem Zo (hc:Zbd X (.builtin id) r)(hf:CO X ξ r f)(hm:X.mg x=none)(hv:bootBuiltins x=some (.builtin id))(ha:DA X ξ (e :: es) fs)(hg:Gl X x:=by rfl)(hn:x≠"__name__":=by decide)(hdb:(x == ("__debug__":Str))=false:=by decide)
  (he:starEach (e :: es) X.env=(false,eval e X.env) :: starEach es X.env:=by rfl) (hpl:(backTo pos (starEach es X.env)).any (·.1)=false:=by rfl):DE X ξ (.Call (.Name x p) (e :: es) [] pos) (Zj f fs):=by
 obtain ⟨ta,ha,qa⟩:=ha
 refine ⟨_,ZeD hc hg hm hv ha hn hdb he hpl,fun σ ρ H α M Q s h q=> ?_⟩
 exact qa σ ρ H α M _ s h (OG.seq q fun ds M1 vs H1 α1 e1 h1 r1 q1=>hf H1 α1 M1 vs ds Q h1 r1 q1)
theorem ZY (hc:Zbd X (.type T) r)(hf:CO X ξ r f)(hm:X.mg x=none)(hv:bootBuiltins x=some (.type T))(ha:DA X ξ (e :: es) fs)(hg:Gl X x:=by rfl)(hn:x≠"__name__":=by decide)(hdb:(x == ("__debug__":Str))=false:=by decide)
  (he:starEach (e :: es) X.env=(false,eval e X.env) :: starEach es X.env:=by rfl) (hpl:(backTo pos (starEach es X.env)).any (·.1)=false:=by rfl):DE X ξ (.Call (.Name x p) (e :: es) [] pos) (Zj f fs):=by
 obtain ⟨ta,ha,qa⟩:=ha
 refine ⟨_,Zf2 hc hg hm hv ha hn hdb he hpl,fun σ ρ H α M Q s h q=> ?_⟩
 exact qa σ ρ H α M _ s h (OG.seq q fun ds M1 vs H1 α1 e1 h1 r1 q1=>hf H1 α1 M1 vs ds Q h1 r1 q1)
noncomputable def bLen:List D->Sto->Out D:=fun ds M=>match ds with
 | [x]=>match Zds M x with | some xs=> .ok (.int xs.length) M | none=> .bad
 |_=> .bad
theorem ZR:CO X ξ (fun xs H Q=> ∃ p ys,xs=[.ref p]/\(SqL X.K H p ys\/SqT X.K H p ys)/\Q (.int ys.length) H) bLen:=by
 intro H α M vs ds Q h rs q;unfold bLen at q;cases rs with
 |nil=>exact q.elim
 | @cons v x vs ds r t=>
  cases t with
  |cons _ _=>exact q.elim
  |nil=>
  cases e:Zds M x with
  |none=>simp only[e] at q;exact q.elim
  |some ys=>
   simp only[e] at q;obtain ⟨p,xs,rfl,h2,h3⟩:=Zgk h r e
   exact ⟨p,xs,rfl,h2,by rw[h3.length];exact q _ H α Ext.refl h (.int _)⟩
noncomputable def bAbs:List D->Sto->Out D:=fun ds M=>match ds with | [.int i]=> .ok (.int (if i < 0 then -i else i)) M | _=> .bad
theorem ZbS:CO X ξ (fun xs H Q=> ∃ i,xs=[.int i]/\Q (.int (if i < 0 then -i else i)) H) bAbs:=by
 intro H α M vs ds Q h rs q;unfold bAbs at q
 split at q
 ·cases rs with
  |cons r t=>
   cases t
   cases r
   exact ⟨_,rfl,q _ H α Ext.refl h (.int _)⟩
 ·exact q.elim
noncomputable def bMax:List D->Sto->Out D:=fun ds M=>match ds with | [.int i,.int j]=> .ok (.int (if j > i then j else i)) M | _=> .bad
noncomputable def bMin:List D->Sto->Out D:=fun ds M=>match ds with | [.int i,.int j]=> .ok (.int (if j < i then j else i)) M | _=> .bad
theorem Zi1 {g:Int->Int->Int}{f:List D->Sto->Out D}(hf: ∀ ds M,f ds M=match ds with | [.int i,.int j]=> .ok (.int (g i j)) M | _=> .bad):CO X ξ (fun xs H Q=> ∃ i j,xs=[.int i,.int j]/\Q (.int (g i j)) H) f:=by
 intro H α M vs ds Q h rs q;rw[hf] at q
 split at q
 ·rename_i i j
  cases rs with
  |cons r t=>
   cases t with
   |cons r' t'=>
    cases t'
    cases r
    cases r'
    exact ⟨i,j,rfl,q _ H α Ext.refl h (.int _)⟩
 ·exact q.elim
theorem Zl3:CO X ξ (fun xs H Q=> ∃ i j,xs=[.int i,.int j]/\Q (.int (if j > i then j else i)) H) bMax:=Zi1 (g:=fun i j=>if j > i then j else i) fun ds M=>rfl
theorem Zl4:CO X ξ (fun xs H Q=> ∃ i j,xs=[.int i,.int j]/\Q (.int (if j < i then j else i)) H) bMin:=Zi1 (g:=fun i j=>if j < i then j else i) fun ds M=>rfl
noncomputable def bInt:List D->Sto->Out D:=fun ds M=>match ds with | [.int i]=> .ok (.int i) M | [.bl k]=> .ok (.int (if k then 1 else 0)) M | _=> .bad
theorem Zl5:CO X ξ (fun xs H Q=>(∃ i,xs=[.int i]/\Q (.int i) H)\/ ∃ k,xs=[.bl k]/\Q (.int (if k then 1 else 0)) H) bInt:=by
 intro H α M vs ds Q h rs q;unfold bInt at q
 split at q
 ·cases rs with
  |cons r t=>
   cases t
   cases r
   exact .inl ⟨_,rfl,q _ H α Ext.refl h (.int _)⟩
 ·cases rs with
  |cons r t=>
   cases t
   cases r
   exact .inr ⟨_,rfl,q _ H α Ext.refl h (.int _)⟩
 ·exact q.elim
noncomputable def bList:List D->Sto->Out D:=fun ds M=>match ds with
 | [x]=>match Zds M x with | some xs=> .ok (.ref M.length) (M ++ [.lst xs]) | none=> .bad
 |_=> .bad
theorem Zd8:CO X ξ (fun xs H Q=> ∃ p ys,xs=[.ref p]/\(SqL X.K H p ys\/SqT X.K H p ys)/\ ∀ l,H l=none->Q (.ref l) (upd H l (.lst ys))) bList:=by
 intro H α M vs ds Q h rs q;unfold bList at q;cases rs with
 |nil=>exact q.elim
 | @cons v x vs ds r t=>
  cases t with
  |cons _ _=>exact q.elim
  |nil=>
  cases e:Zds M x with
  |none=>simp only[e] at q;exact q.elim
  |some ys=>
   simp only[e] at q;obtain ⟨p,xs,rfl,h2,h3⟩:=Zgk h r e
   exact ⟨p,xs,rfl,h2,fun l hl=>q _ _ (α ++ [l]) (Ext.new hl) (h.new hl h3) (.ref ⟨h.last l,Kn.lst Zm⟩)⟩
noncomputable def ZL (M:Sto)(x:D):Option String:=match kd M x with
 |some .non=>some "NoneType"
 |some (.bl _)=>some "bool"
 |some (.int _)=>some "int"
 |some (.str _)=>some "str"
 |some (.tup _)=>some "tuple"
 |some (.lst _)=>some "list"
 |none=>none
noncomputable def Za8 (t T:String):Bool:=t == T || (t == "bool" && T == "int")
noncomputable def ZcE (T:String)(f:Ev):Ev:=fun ρ M=>(f ρ M).bind fun x M1=>match ZL M1 x with | some t=> .ok (.bl (Za8 t T)) M1 | none=> .bad
noncomputable def Zr9 (X:Cx)(T:String):List V->Hp->VK->Prop:=fun vs H Q=> ∃ v α M x t,vs=[v,.ty T]/\HR X.K H α M/\Rep X.K H α v x/\ZL M x=some t/\Q (.bl (Za8 t T)) H
structure Kit (K:PySem.W.Frag) (T:String):Prop where
 non:PySem.W.kitOne K (.type "NoneType") (.type T)=some (Za8 "NoneType" T)
 bl:PySem.W.kitOne K (.type "bool") (.type T)=some (Za8 "bool" T)
 int:PySem.W.kitOne K (.type "int") (.type T)=some (Za8 "int" T)
 str:PySem.W.kitOne K (.type "str") (.type T)=some (Za8 "str" T)
 tup:PySem.W.kitOne K (.type "tuple") (.type T)=some (Za8 "tuple" T)
 lst:PySem.W.kitOne K (.type "list") (.type T)=some (Za8 "list" T)
theorem Zgl {K:PySem.W.Frag}:Kit K "int":=⟨rfl,rfl,rfl,rfl,rfl,rfl⟩
theorem ZeI {K:PySem.W.Frag}:Kit K "bool":=⟨rfl,rfl,rfl,rfl,rfl,rfl⟩
theorem Zdt {K:PySem.W.Frag}:Kit K "tuple":=⟨rfl,rfl,rfl,rfl,rfl,rfl⟩
theorem ZeJ {K:PySem.W.Frag}:Kit K "list":=⟨rfl,rfl,rfl,rfl,rfl,rfl⟩
theorem Zgm {K:PySem.W.Frag}:Kit K "str":=⟨rfl,rfl,rfl,rfl,rfl,rfl⟩
theorem Zh8 (kt:Kit X.K T):Zbd X (.builtin "isinstance") (Zr9 X T):=by
 intro pins s σ H vs us Q I rs ⟨v,α,M,x,t,e1,h,rx,et,q⟩;subst e1;obtain ⟨u,w,rfl,ru,rw'⟩:=ZhW rs
 cases rw'
 unfold ZL at et;cases ek:kd M x with
 |none=>rw[ek] at et;cases et
 |some k=>
  rw[ek] at et;have va:=vw I h rx ru ek
  have fin: ∀ tk,EP X pins σ Q (.bool (Za8 t T)) { s with toks:=tk }:=fun tk=>⟨.bl _,H,I.tok tk,rfl,q⟩
  cases va with
  |non=>cases et;exact PySem.W.kia_one PySem.W.kitx_none I.kIn True.intro kt.non (fun z=>nomatch z) fin
  |bl b=>cases et;exact PySem.W.kia_one PySem.W.kitx_bool I.kIn True.intro kt.bl (fun z=>nomatch z) fin
  |int i t=>cases et;exact PySem.W.kia_one PySem.W.kitx_int I.kIn True.intro kt.int (fun z=>nomatch z) fin
  |str i t=>cases et;exact PySem.W.kia_one PySem.W.kitx_str I.kIn True.intro kt.str (fun z=>nomatch z) fin
  |tup g _ _=>cases et;obtain ⟨o,h1,h2,_⟩:=g;exact PySem.W.kia_one PySem.W.kitx_tuple I.kIn ⟨o,h1,h2⟩ kt.tup (fun z=>nomatch z) fin
  |lst g _ _=>cases et;obtain ⟨o,h1,h2,_⟩:=g;exact PySem.W.kia_one PySem.W.kitx_list I.kIn ⟨o,h1,h2⟩ kt.lst (fun z=>nomatch z) fin
theorem Za9 {y:Str}{p2:Pos}(kt:Kit X.K T)(hm:X.mg "isinstance"=none)(hmT:X.mg y=none)(hvT:bootBuiltins y=some (.type T))(ha:DE X ξ e fa)(hg:Gl X "isinstance":=by rfl)(hgT:Gl X y:=by rfl)(hn:y≠"__name__":=by decide)(hdb:(y == ("__debug__":Str))=false:=by decide)
  (he:starEach [e,.Name y p2] X.env=(false,eval e X.env) :: starEach [.Name y p2] X.env:=by rfl) (he2:starEach [.Name y p2] X.env=(false,eval (.Name y p2) X.env) :: starEach [] X.env:=by rfl) (hpl:(backTo pos (starEach [.Name y p2] X.env)).any (·.1)=false:=by rfl):DE X ξ (.Call (.Name "isinstance" p) [e,.Name y p2] [] pos) (ZcE T fa):=by
 obtain ⟨ta,ha,qa⟩:=ha
 refine ⟨_,ZeD (Zh8 kt) hg hm (by with_unfolding_all rfl) (Zb9 ha (Zb9 (ZjD hgT hmT hvT (v:= .ty T) rfl hn hdb) ZfY he2) he) (by decide) (by decide) he hpl,fun σ ρ H α M Q s h q=> ?_⟩
 refine qa σ ρ H α M _ s h (OG.seq q fun x M1 v H1 α1 e1 h1 r1 q1=> ?_)
 cases et:ZL M1 x with
 |none=>simp only[et] at q1;exact q1.elim
 |some t=>
  simp only[et] at q1;exact ⟨v,α1,M1,x,t,rfl,h1,r1,et,q1 _ H1 α1 Ext.refl h1 (.bl _)⟩
end
end DL
end
section
namespace DL
open PySem PySem.Spec PyProof.Rows L2
noncomputable def CXE (P:Program)(w:World):CXT:=fun outer H s E e s'=> ∃ (ea C:Addr) (dct:Option Addr) (B:Heap) (H':Hp),e= .ref ea/\s'.os=s.os/\AllBare s'.gens/\Un (frs outer) [] H H' s.heap s'.heap/\HOk P w H' s'.heap/\
 DQ.Fly B outer ea (.ref C) dct .none s'.heap/\(∀ b u,H' b=some u-> ∃ o,B.get? b=some o)/\(∀ b o,s.heap.get? b=some o->b ∉ frs outer-> ∃ o',B.get? b=some o')/\E (.ref C) dct H'
structure Thr (X:Cx) (ξ:XK):Prop where
 own:PassesOwn (model X.prog X.w) X.A X.env X.xe
 ps:ZfZ (CXE X.prog X.w) X ξ
 mak: ∀ (pins:List (Addr × Obj)) (σ:L2.St) (H H':Hp) (s s':Shared) (e:Addr) (oe:Obj) (vs:Array Value) (C:Addr),Inv X pins σ H s->s'.os=s.os->AllBare s'.gens->Un (frs X.stack) [] H H' s.heap s'.heap->HOk X.prog X.w H' s'.heap->s.heap.get? e=none->s'.heap.get? e=some oe->oe.cls= .ref C->
  oe.data= .fields vs->vs[1]?=some .none->vs[2]?=some .none->H' e=none->ξ (.ref C) oe.dict H'->X.xe (.ref e) s'
theorem Zdu {h b1 b2:Heap}: ∀ {l:List Env},h.FunFrames b1 l->(∀ b∈frs l,b2.get? b=none)->h.FunFrames b2 l
 | [],_,_=>trivial
 |env :: r,⟨h1,⟨L,o,h2,h3,h4,h5⟩,h6⟩,k=>⟨h1,⟨L,o,h2,k L (by unfold frs;rw[List.filterMap_cons,h2];exact List.mem_cons_self),h4,h5⟩,Zdu h6 fun b hb=>k b (by
   unfold frs;rw[List.filterMap_cons,h2];exact List.mem_cons_of_mem _ hb)⟩
section
variable {X:Cx}{pins:List (Addr × Obj)}{σ:L2.St}{H H':Hp}{s:Shared}{h1 h2 B:Heap}
theorem Zi2 (hx:X.ex=[])(I:Inv X pins σ H s)(u:Un (frs X.stack) [] H H' s.heap h1)(hok:HOk X.prog X.w H' h1)(t1: ∀ b q,H' b=some q-> ∃ o,B.get? b=some o)(t2: ∀ b o,s.heap.get? b=some o->b ∉ frs X.stack-> ∃ o',B.get? b=some o')
  (st1:B.StaysIn h1) (st2:B.StaysIn h2) (up:h1.UpToSlots h2):Un X.fs [] X.H₀ H' X.s₀.heap h2/\HOk X.prog X.w H' h2/\ ∀ b o,X.s₀.heap.get? b=some o->b ∉ X.fs-> ∃ o',B.get? b=some o':=by
 have kB: ∀ b ob o,B.get? b=some ob->h1.get? b=some o->h2.get? b=some o:=fun b ob o e x=>by
  have z:=st1 b ob e
  rw[x] at z;cases z
  exact st2 b _ e
 have nx: ∀ b,b ∉ X.ex:=fun b=>by rw[hx];simp
 have nL: ∀ b o,X.s₀.heap.get? b=some o->b ∉ X.fs->b ∉ frs X.stack:=fun b o e n z=>by
  rcases List.mem_cons.mp (I.stkSub b z) with q | q
  ·exact absurd (Heap.lt_size e) (by rw[q];exact Nat.not_lt_of_le I.ok.above)
  ·exact n q
 have th: ∀ b o,X.s₀.heap.get? b=some o->b ∉ X.fs-> ∃ o',B.get? b=some o':=fun b o e n=>by
  obtain ⟨o',e'⟩:=I.base.there b o e (nx b)
  exact t2 b o' e' (nL b o e n)
 have sl: ∀ b o,X.s₀.heap.get? b=some o->X.H₀ b=none->b∈X.fs-> ∃ sl,h2.get? b=some { o with slots:=sl }:=fun b o e n hb=>by
  obtain ⟨s1,e1⟩:=I.base.slot b o e n hb (nx b)
  obtain ⟨s2,e2⟩:=u.any e1 (I.base.free b o e n (nx b)) (by simp)
  obtain ⟨_,o',g1,g2⟩:=I.ok.funs.mem hb
  rw[e] at g1;cases g1
  obtain ⟨s3,e3⟩:=up b _ e2 g2
  exact ⟨s3,e3⟩
 refine ⟨⟨fun b o e n hb _=> ?_,fun b o e n hb _=>sl b o e n hb,fun b o e n _=> ?_,fun b o e _=> ?_,fun b xs e=>u.tups b xs (I.base.tups b xs e),fun b o xs e=>u.frzs b o xs (I.base.frzs b o xs e),fun b ps e=> ?_⟩,fun a o e=> ?_,th⟩
 ·obtain ⟨ob,g⟩:=th b o e hb
  exact kB b ob o g (u.keep b o (I.base.keep b o e n hb (nx b)) (I.base.free b o e n (nx b)) (nL b o e hb) (by simp))
 ·obtain ⟨o',e'⟩:=I.base.there b o e (nx b)
  exact u.free b o' e' (I.base.free b o e n (nx b)) (by simp)
 ·by_cases hb:b∈X.fs
  ·obtain ⟨s1,e1⟩:=sl b o e (I.ok.frf b hb) hb
   exact ⟨_,e1⟩
  ·obtain ⟨ob,g⟩:=th b o e hb
   exact ⟨ob,st2 b ob g⟩
 ·obtain ⟨m1,e1⟩:=I.base.tbls b ps e
  obtain ⟨m2,e2⟩:=u.tbls b _ e1
  exact ⟨m1 ++ m2,by rw[e2,Array.append_assoc]⟩
 ·refine (hok a o e).stay (fun b q hb x=> ?_) (fun _ q=>q) fun _ _ q=>q
  have tr: ∃ q,H' b=some q:=by
   rcases hb with z | z
   ·exact ⟨o,z ▸ e⟩
   ·exact ⟨_,z⟩
  obtain ⟨q',z⟩:=tr
  obtain ⟨ob,g⟩:=t1 b q' z
  exact kB b ob q g x
end
theorem Zb4 {P:Program}{w:World}{H:Hp}{h:Heap}{a:Addr}{o:HO}(x:Za5 P w H h a o): ∃ ob,h.get? a=some ob:=by
 cases o with
 |lst xs=>obtain ⟨_,_,_,_,e⟩:=x;exact ⟨_,e⟩
 |tup xs=>obtain ⟨_,_,_,ob,e,_⟩:=x;exact ⟨_,e⟩
 |dK kvs=>obtain ⟨_,_,_,_,o,_,_,e,_⟩:=x;exact ⟨_,e⟩
 |dT kvs=>obtain ⟨_,_,_,_,o,_,_,e,_⟩:=x;exact ⟨_,e⟩
 |set S n=>obtain ⟨o,_,_,_,e,_⟩:=x;exact ⟨_,e⟩
 |ins C dx fs=>obtain ⟨_,_,_,e,_⟩:=x;exact ⟨_,e⟩
 |own y=>exact x
 |xd fs=>obtain ⟨_,⟨_,_,_,e,_⟩,_⟩:=x;exact ⟨_,e⟩
 |rng lo hi=>obtain ⟨_,_,_,e⟩:=x;exact ⟨_,e⟩
 |frz ob u=>obtain ⟨e,_⟩:=x;exact ⟨_,e⟩
 |tbl ps=>exact ⟨_,(show h.get? a=some _ from x)⟩
 |met f y=>exact ⟨_,(show h.get? a=some _ from x)⟩
 |ext φ=>obtain ⟨_,e,_⟩:=x;exact e
noncomputable def ZhI (h:Heap)(l:List Addr):Heap:=ZhG h fun b=>if b∈l then some (.own 0) else none
theorem ZeK {h:Heap}{l:List Addr}{b:Addr}{o:Obj}(e:h.get? b=some o)(n:b ∉ l):(ZhI h l).get? b=some o:=Zez e (if_neg n)
theorem Zgn {h:Heap}{l:List Addr}{b:Addr}{o:Obj}(e:(ZhI h l).get? b=some o):h.get? b=some o/\b ∉ l:=by
 obtain ⟨a,n⟩:=ZfL e
 refine ⟨a,fun z=> ?_⟩
 simp only[if_pos z] at n;cases n
theorem Zdv {h:Heap}{l:List Addr}{b:Addr}(n:b∈l):(ZhI h l).get? b=none:=by
 cases q:(ZhI h l).get? b with
 |none=>rfl
 |some o=>exact absurd n (Zgn q).2
theorem Zdw {h h' b1:Heap}: ∀ {l:List Env},h.FunFrames b1 l->(∀ b o,b∈frs l->h.get? b=some o-> ∃ o',h'.get? b=some o'/\o'.data=o.data)->h'.FunFrames b1 l
 | [],_,_=>trivial
 |env :: r,⟨h1,⟨L,o,h2,h3,h4,h5⟩,h6⟩,k=>by
  have m:frs (env :: r)=L :: frs r:=by unfold frs;rw[List.filterMap_cons,h2]
  obtain ⟨o',g1,g2⟩:=k L o (by rw[m];exact List.mem_cons_self) h4
  exact ⟨h1,⟨L,o',h2,h3,g1,fun vs=>g2 ▸ h5 vs⟩,Zdw h6 fun b o hb=>k b o (by rw[m];exact List.mem_cons_of_mem _ hb)⟩
theorem Zdx {X:Cx}{pins:List (Addr × Obj)}{σ:L2.St}{H H':Hp}{s s':Shared}{e:Addr}{oe:Obj}(I:Inv X pins σ H s)(un:Un (frs X.stack) [] H H' s.heap s'.heap)(hok:HOk X.prog X.w H' s'.heap)(hn:s.heap.get? e=none)(he:s'.heap.get? e=some oe)(hne:H' e=none):
  (∀ b u,H' b=some u-> ∃ o,(ZhI s'.heap (e :: frs X.stack)).get? b=some o)/\(∀ b o,s.heap.get? b=some o->b ∉ frs X.stack-> ∃ o',(ZhI s'.heap (e :: frs X.stack)).get? b=some o')/\
  (ZhI s'.heap (e :: frs X.stack)).StaysIn s'.heap/\s'.heap.FunFrames (ZhI s'.heap (e :: frs X.stack)) X.stack/\(ZhI s'.heap (e :: frs X.stack)).get? e=none:=by
 have nfr: ∀ b∈frs X.stack,H' b=none:=fun b hb=>by
  obtain ⟨_,o',g1,g2⟩:=I.stack.mem hb
  exact un.free b o' g1 (I.stkFree b hb) (by simp)
 refine ⟨fun b u x=> ?_,fun b o x n=> ?_,fun b o x=>(Zgn x).1,Zdw (Zdu I.stack fun b hb=>Zdv (List.mem_cons_of_mem _ hb)) fun b o hb x=> ?_,Zdv (by simp)⟩
 ·obtain ⟨o,g⟩:=Zb4 (hok b u x)
  refine ⟨o,ZeK g fun z=> ?_⟩
  rcases List.mem_cons.mp z with z | z
  ·rw[z,hne] at x;cases x
  ·rw[nfr b z] at x;cases x
 ·obtain ⟨o',g⟩:=un.there b o x (by simp)
  refine ⟨o',ZeK g fun z=> ?_⟩
  rcases List.mem_cons.mp z with z | z
  ·rw[z,hn] at x;cases x
  ·exact n z
 ·obtain ⟨sl,g⟩:=un.any x (I.stkFree b hb) (by simp)
  exact ⟨_,g,rfl⟩
theorem Zl6 {P:Program}{w:World}{K:PySem.W.Frag}{mg:Str->Option Value}{base:Heap}{N:List Str}{qual:Str}{scope:Scope}{f:Addr}{cd:Value}{A:Around}{outer:List Env}{s:Shared}{H:Hp}{E:XK}:
  Thr (Zf0 (CXE P w) P w K mg base N qual scope f cd A outer s H E) E:=by
 refine ⟨PassesOwn.leaving,fun pins σ H1 s1 e s2 I h=> ?_,fun pins σ H1 H' s1 s' e oe vs C I os bare un hok hn he hc hd v1 v2 hne q=> ?_⟩
 ·obtain ⟨ea,C,dct,B,H2,rfl,os,bare,un,hok,fl,t1,t2,q⟩:=h
  refine DQ.Zgb (outer:=outer) I.ok.frames rfl fl fun h3 f3 up=> ?_
  obtain ⟨a1,a2,a3⟩:=Zi2 rfl I un hok t1 t2 fl.stay f3.stay up
  exact ⟨ea,C,dct,B,H2,rfl,os.trans I.os,bare,a1,a2,f3,t1,a3,q⟩
 ·obtain ⟨t1,t2,hs,hl,hb⟩:=Zdx I un hok hn he hne
  refine DQ.Zgc (s:=s') (outer:=outer) I.ok.frames rfl hl he hs hb hd v1 v2 fun h3 f3 up=> ?_
  obtain ⟨a1,a2,a3⟩:=Zi2 rfl I un hok t1 t2 hs f3.stay up
  rw[hc] at f3;exact ⟨e,C,oe.dict,_,H',rfl,os.trans I.os,bare,a1,a2,f3,t1,a3,q⟩
end DL
end
section
namespace DL
open PySem PySem.Spec PyProof.Rows L2
noncomputable def FP (K:PySem.W.Frag)(H:Hp)(α:List Addr)(ξ:XK)(Dn:Ends):Fl->Prop
 | .nx ρ' M'=> ∀ σ' H' α',Ext K H H' α α'->HR K H' α' M'->SR K H' α' σ' ρ'->Dn.nx σ' H'
 | .brk ρ' M'=> ∀ σ' H' α',Ext K H H' α α'->HR K H' α' M'->SR K H' α' σ' ρ'->Dn.bk σ' H'
 | .cnt ρ' M'=> ∀ σ' H' α',Ext K H H' α α'->HR K H' α' M'->SR K H' α' σ' ρ'->Dn.ct σ' H'
 | .ret d M'=> ∀ v H' α',Ext K H H' α α'->HR K H' α' M'->Rep K H' α' v d->Dn.rt v H'
 | .exc c M'=> ∀ C H' α',PySem.W.nsIn K mainGlobals c=some (some (.ref C))->Ext K H H' α α'-> ∀ dct,XO K H' α' c M' dct->ξ (.ref C) dct H'
 | .bad=>False
theorem FP.ext {K:PySem.W.Frag}{H H1:Hp}{α α1:List Addr}{ξ:XK}{Dn:Ends}{o:Fl}(h:FP K H α ξ Dn o)(e:Ext K H H1 α α1):FP K H1 α1 ξ Dn o:=by
 cases o with
 |nx ρ M=>exact fun σ' H' α' e'=>h σ' H' α' (e.trans e')
 |brk ρ M=>exact fun σ' H' α' e'=>h σ' H' α' (e.trans e')
 |cnt ρ M=>exact fun σ' H' α' e'=>h σ' H' α' (e.trans e')
 |ret d M=>exact fun v H' α' e'=>h v H' α' (e.trans e')
 |exc c M=>exact fun C H' α' n e'=>h C H' α' n (e.trans e')
 |bad=>exact h
noncomputable def DS (X:Cx)(ξ:XK)(st:Stmt)(g:Sv):Prop:= ∃ t:TS,PS X st t/\ ∀ σ ρ H α M Dn,SR X.K H α σ ρ->HR X.K H α M->FP X.K H α ξ Dn (g ρ M)->t Dn σ H
noncomputable def DSs (X:Cx)(ξ:XK)(st:List Stmt)(g:Sv):Prop:= ∃ t:TS,PSs X st t/\ ∀ σ ρ H α M Dn,SR X.K H α σ ρ->HR X.K H α M->FP X.K H α ξ Dn (g ρ M)->t Dn σ H
noncomputable def ZP {β:Type}(o:Out β)(k:β->Sto->Fl):Fl:=match o with
 | .ok a M=>k a M
 | .exc c M=> .exc c M
 | .bad=> .bad
theorem FP.seq {β γ:Type}{K:PySem.W.Frag}{R:Hp->List Addr->γ->β->Prop}{H:Hp}{α:List Addr}{ξ:XK}{Dn:Ends}{Q1:γ->Hp->Prop}{o:Out β}{f:β->Sto->Fl}
  (h:FP K H α ξ Dn (ZP o f)) (k: ∀ d M' v H' α',Ext K H H' α α'->HR K H' α' M'->R H' α' v d->FP K H' α' ξ Dn (f d M')->Q1 v H'):OG K R H α ξ Q1 o:=by
 cases o with
 |ok d M'=>exact fun v H' α' e hr r=>k d M' v H' α' e hr r (FP.ext (o:=f d M') h e)
 |exc c M'=>exact h
 |bad=>exact h
noncomputable def Zw (g h:Sv):Sv:=fun ρ M=>match g ρ M with
 | .nx ρ1 M1=>h ρ1 M1
 |o=>o
noncomputable def sNil:Sv:=fun ρ M=> .nx ρ M
noncomputable def ZM (f:Ev):Sv:=fun ρ M=>ZP (f ρ M) fun d M1=> .ret d M1
noncomputable def Zdy:Sv:=fun _ M=> .ret .non M
noncomputable def ZaO (f:Ev):Sv:=fun ρ M=>ZP (f ρ M) fun _ M1=> .nx ρ M1
noncomputable def sIf (c:Tv)(g h:Sv):Sv:=fun ρ M=>ZP (c ρ M) fun k M1=>if k=true then g ρ M1 else h ρ M1
noncomputable def Zsa:Sv:=fun ρ M=> .brk ρ M
noncomputable def Zsb:Sv:=fun ρ M=> .cnt ρ M
noncomputable abbrev Tg:=D->Ro->Option Ro
noncomputable abbrev Tgs:=List D->Ro->Option Ro
noncomputable def gNm (i:Nat):Tg:=fun d ρ=>some (ρ.set i (some d))
noncomputable def gNl:Tgs:=fun ds ρ=>match ds with | []=>some ρ | _=>none
noncomputable def gCs (g:Tg)(gs:Tgs):Tgs:=fun ds ρ=>match ds with | d :: r=>(match g d ρ with | some ρ1=>gs r ρ1 | none=>none) | []=>none
noncomputable def gTp (gs:Tgs):Tg:=fun d ρ=>match d with | .tup ds=>gs ds ρ | _=>none
noncomputable def ZJ (g:Tg)(f:Ev):Sv:=fun ρ M=>ZP (f ρ M) fun d M1=>match g d ρ with | some ρ1=> .nx ρ1 M1 | none=> .bad
noncomputable def Zb5 (i j:Nat)(fs:Av):Sv:=fun ρ M=>ZP (fs ρ M) fun ds M1=>match ds with | [v,w]=> .nx ((ρ.set i (some v)).set j (some w)) M1 | _=> .bad
noncomputable def Zd9 (fo fi fe:Ev):Sv:=fun ρ M=>ZP (fe ρ M) fun d M1=>ZP (fo ρ M1) fun o M2=>ZP (fi ρ M2) fun i M3=>match o,i with
 | .ref n,.int k=>(match M3[n]? with
  |some (.lst xs)=>(match ixN xs.length k with | some j=> .nx ρ (M3.set n (.lst (xs.set j d))) | none=> .bad)
  |_=> .bad)
 |_,_=> .bad
section
variable {X:Cx}{ξ:XK}{st:Stmt}{sts:List Stmt}{g h:Sv}{e:Expr}{f:Ev}{pos:Pos}{c:Expr}{fc:Tv}
theorem Zy:DSs X ξ [] sNil:=⟨_,ZjE,fun σ ρ H α M Dn s h q=>q σ H α Ext.refl h s⟩
theorem Zg (h1:DS X ξ st g)(h2:DSs X ξ sts h):DSs X ξ (st :: sts) (Zw g h):=by
 obtain ⟨t1,p1,q1⟩:=h1
 obtain ⟨t2,p2,q2⟩:=h2
 refine ⟨_,ZcM p1 p2,fun σ ρ H α M Dn s hh q=>q1 σ ρ H α M { Dn with nx:=t2 Dn } s hh ?_⟩
 unfold Zw at q;cases e:g ρ M with
 |nx ρ1 M1=>rw[e] at q;exact fun σ' H' α' ex hr sr=>q2 σ' ρ1 H' α' M1 Dn sr hr (FP.ext q ex)
 |brk ρ1 M1=>rw[e] at q;exact q
 |cnt ρ1 M1=>rw[e] at q;exact q
 |ret d M1=>rw[e] at q;exact q
 |exc c M1=>rw[e] at q;exact q
 |bad=>rw[e] at q;exact q
theorem Zi (h1:DS X ξ st g):DSs X ξ [st] g:=let ⟨_,p,q⟩:=h1;⟨_,ZfN p,q⟩
theorem Zs (he:DE X ξ e f):DS X ξ (.Return (some e) pos) (ZM f):=by
 obtain ⟨t,p,q⟩:=he
 exact ⟨_,Zlv p,fun σ ρ H α M Dn s hh w=>q σ ρ H α M _ s hh (FP.seq w fun d M1 v H1 α1 e1 h1 r1 w1=>w1 v H1 α1 Ext.refl h1 r1)⟩
theorem ZbC (he:DE X ξ e f)(hs:swapsWith e none pos.line X.env=pure false:=by rfl):DS X ξ (.Expr e pos) (ZaO f):=by
 obtain ⟨t,p,q⟩:=he
 exact ⟨_,ZfO p hs,fun σ ρ H α M Dn s hh w=>q σ ρ H α M _ s hh (FP.seq w fun d M1 v H1 α1 e1 h1 r1 w1=>w1 σ H1 α1 Ext.refl h1 (s.mono e1))⟩
theorem Z3 {a b:List Stmt}(hc:DT X ξ c fc)(ha:DSs X ξ a g)(hb:DSs X ξ b h):DS X ξ (.If c a b pos) (sIf fc g h):=by
 obtain ⟨tc,pc,qc⟩:=hc
 obtain ⟨ta,pa,qa⟩:=ha
 obtain ⟨tb,pb,qb⟩:=hb
 refine ⟨_,ZoI pc pa pb,fun σ ρ H α M Dn s hh w=>qc σ ρ H α M _ s hh (FP.seq w fun k M1 v H1 α1 e1 h1 r1 w1=> ?_)⟩
 cases r1
 cases k with
 |true=>exact Zh2 (qa σ ρ H1 α1 M1 Dn (s.mono e1) h1 w1)
 |false=>exact Zh1 (qb σ ρ H1 α1 M1 Dn (s.mono e1) h1 w1)
noncomputable def DG (X:Cx)(tg:Expr)(g:Tg):Prop:= ∃ t:TG,PG X tg t/\ ∀ v d σ ρ H α ρ' Q,SR X.K H α σ ρ->Rep X.K H α v d->g d ρ=some ρ'->(∀ σ',SR X.K H α σ' ρ'->Q σ' H)->t v σ H Q
noncomputable def DGs (X:Cx)(tgs:List Expr)(g:Tgs):Prop:= ∃ t:TGs,PGs X tgs t/\ ∀ vs ds σ ρ H α ρ' Q,SR X.K H α σ ρ->Reps X.K H α vs ds->g ds ρ=some ρ'->(∀ σ',SR X.K H α σ' ρ'->Q σ' H)->t vs σ H Q
theorem Zv (i:Nat){x:Str}(hN:X.N.Nodup)(hi:X.N[i]?=some x:=by rfl)(hx:Loc X.env.scope x:=by first | exact Or.inl rfl | exact Or.inr rfl)(hm:X.may i=true:=by rfl)(hf:X.fn x=true\/X.env.scope.names.lookup x=some .local:=by first | exact .inl rfl | exact .inr rfl | assumption):DG X (.Name x pos) (gNm i):=by
 refine ⟨_,ZjF hN hi hx hm hf,fun v d σ ρ H α ρ' Q s r e k=> ?_⟩
 cases e
 exact k _ (s.set i r)
theorem ZaP:DGs X [] gNl:=by
 refine ⟨_,ZjG,fun vs ds σ ρ H α ρ' Q s r e k=> ?_⟩
 cases r with
 |nil=>cases e;exact ⟨rfl,k _ s⟩
 |cons _ _=>cases e
theorem ZC {es:List Expr}{g:Tg}{gs:Tgs}(h1:DG X e g)(h2:DGs X es gs)(hs:(assignEach (e :: es) X.env).map (·.2)=assign e X.env :: (assignEach es X.env).map (·.2):=by rfl):DGs X (e :: es) (gCs g gs):=by
 obtain ⟨t1,p1,q1⟩:=h1
 obtain ⟨t2,p2,q2⟩:=h2
 refine ⟨_,ZhP p1 p2 hs,fun vs ds σ ρ H α ρ' Q s r e k=> ?_⟩
 cases r with
 |nil=>cases e
 |cons r rr=>
  rename_i v d vs ds;cases e1:g d ρ with
  |none=>simp only[gCs,e1] at e;cases e
  |some ρ1=>
   simp only[gCs,e1] at e;exact ⟨v,vs,rfl,q1 v d σ ρ H α ρ1 _ s r e1 fun σ' s'=>q2 vs ds σ' ρ1 H α ρ' Q s' rr e k⟩
theorem ZbT {es:List Expr}{k:Nat}{gs:Tgs}{n:Nat}(hc:X.calm=true)(h:DGs X es gs)(hn:(assignEach es X.env).length=n:=by rfl)(hlen: ∀ ds ρ ρ',gs ds ρ=some ρ'->ds.length=n)(hst:(assignEach es X.env).findIdx? (·.1)=none:=by rfl):DG X (.Tuple es k pos) (gTp gs):=by
 obtain ⟨t,p,q⟩:=h
 refine ⟨_,Zlx hc p hn hst,fun v d σ ρ H α ρ' Q s r e k=> ?_⟩
 cases r with
 | @tup a xs ds hp rp=>
  have e':gs ds ρ=some ρ':=e
  exact ⟨a,xs,rfl,(SqT.of hp),by rw[rp.length];exact hlen ds ρ ρ' e',q xs ds σ ρ H α ρ' Q s rp e' k⟩
 |_=>cases e
theorem ZaQ {ds:List D}{ρ ρ':Ro}(h:gNl ds ρ=some ρ'):ds.length=0:=by cases ds with | nil=>rfl | cons _ _=>cases h
theorem ZN {g:Tg}{gs:Tgs}{n:Nat}(h: ∀ ds ρ ρ',gs ds ρ=some ρ'->ds.length=n)(ds:List D)(ρ ρ':Ro)(e:gCs g gs ds ρ=some ρ'):ds.length=n + 1:=by
 cases ds with
 |nil=>cases e
 |cons d r=>
  cases e1:g d ρ with
  |none=>simp only[gCs,e1] at e;cases e
  |some ρ1=>simp only[gCs,e1] at e;rw[List.length_cons,h r ρ1 ρ' e]
theorem Zu (i:Nat){x:Str}{pos':Pos}(hN:X.N.Nodup)(he:DE X ξ e f)(hi:X.N[i]?=some x:=by rfl)(hx:Loc X.env.scope x:=by first | exact Or.inl rfl | exact Or.inr rfl)(hm:X.may i=true:=by rfl)(hs:swapsWith e (some (.Name x pos')) pos.line X.env=pure false:=by rfl)(hf:X.fn x=true\/X.env.scope.names.lookup x=some .local:=by first | exact .inl rfl | exact .inr rfl | assumption):
  DS X ξ (.Assign [.Name x pos'] e pos) (ZJ (gNm i) f):=by
 obtain ⟨t,p,q⟩:=he
 exact ⟨_,Zlz hN hi hx hm p hs hf,fun σ ρ H α M Dn s hh w=>q σ ρ H α M _ s hh (FP.seq w fun d M1 v H1 α1 e1 h1 r1 w1=>w1 _ H1 α1 Ext.refl h1 ((s.mono e1).set i r1))⟩
theorem Zgo {tg:Expr}{gt:Tg}(he:DE X ξ e f)(hg:DG X tg gt)(hs:swapsWithSole [tg] e pos.line X.env=pure false:=by rfl)(hw:swappedStores [tg] e X.env=pure none:=by rfl)
  (h1:(assignEach [tg] X.env).map (·.2)=[assign tg X.env]:=by rfl):DS X ξ (.Assign [tg] e pos) (ZJ gt f):=by
 obtain ⟨t,p,q⟩:=he
 obtain ⟨tt,pt,qt⟩:=hg
 refine ⟨_,ZiR p pt hs hw h1,fun σ ρ H α M Dn s hh w=>q σ ρ H α M _ s hh (FP.seq w fun d M1 v H1 α1 e1 h1 r1 w1=> ?_)⟩
 cases eg:gt d ρ with
 |none=>simp only[eg] at w1;exact w1.elim
 |some ρ1=>
  simp only[eg] at w1;exact qt v d σ ρ H1 α1 ρ1 _ (s.mono e1) r1 eg fun σ' s'=>w1 σ' H1 α1 Ext.refl h1 s'
theorem Zbp (i j:Nat){x y:Str}{a b:Expr}{fs:Av}{px py pt:Pos}{kt k2 pt2}(hc:X.calm=true)(hN:X.N.Nodup)(ha:DA X ξ [a,b] fs)(hi:X.N[i]?=some x:=by rfl)(hj:X.N[j]?=some y:=by rfl)(mi:X.may i=true:=by rfl)(mj:X.may j=true:=by rfl)(hij:i≠j:=by decide)
  (hx:X.env.scope.names.lookup x=some .local:=by rfl) (hy:X.env.scope.names.lookup y=some .local:=by rfl)
  (hw:swappedStores [.Tuple [.Name x px,.Name y py] kt pt] (.Tuple [a,b] k2 pt2) X.env=pure (some [x,y]):=by rfl)
  (hs:swapsWithSole [.Tuple [.Name x px,.Name y py] kt pt] (.Tuple [a,b] k2 pt2) pos.line X.env=pure false:=by rfl):
  DS X ξ (.Assign [.Tuple [.Name x px,.Name y py] kt pt] (.Tuple [a,b] k2 pt2) pos) (Zb5 i j fs):=by
 obtain ⟨t,p,q⟩:=ha
 refine ⟨_,ZlA hc mi mj hN hi hj hij hx hy p hw hs,fun σ ρ H α M Dn s hh w=>q σ ρ H α M _ s hh (FP.seq w fun ds M1 vs H1 α1 e1 h1 r1 w1=> ?_)⟩
 match r1 with
 | .nil=>exact w1.elim
 | .cons _ .nil=>exact w1.elim
 | .cons _ (.cons _ (.cons _ _))=>exact w1.elim
 | .cons r (.cons r' .nil)=>exact ⟨_,_,rfl,w1 _ H1 α1 Ext.refl h1 (((s.mono e1).set i r).set j r')⟩
theorem Zi3 {o i:Expr}{fo fi:Ev}{pos':Pos}(ho:DE X ξ o fo)(hi:DE X ξ i fi)(he:DE X ξ e f)
  (ha: ∀ v,assign (.Subscript o i pos') X.env v=(do
   let ov <- holding [v] (eval o X.env)
   let iv <- holding [v,ov] (eval i X.env)
   standAt pos'
   holding [v,ov,iv] (setItem ov iv v)
   release [v,ov,iv] []):=by intro _;rfl) (hs:swapsWithSole [.Subscript o i pos'] e pos.line X.env=pure false:=by rfl) (hw:swappedStores [.Subscript o i pos'] e X.env=pure none:=by rfl)
  (h1:(assignEach [.Subscript o i pos'] X.env).map (·.2)=[assign (.Subscript o i pos') X.env]:=by rfl):DS X ξ (.Assign [.Subscript o i pos'] e pos) (Zd9 fo fi f):=by
 obtain ⟨t,p,q⟩:=he
 obtain ⟨to,po,qo⟩:=ho
 obtain ⟨ti,pi,qi⟩:=hi
 refine ⟨_,ZiR p (Zly po pi ZhY ha) hs hw h1,fun σ ρ H α M Dn s hh w=>q σ ρ H α M _ s hh (FP.seq w fun d M1 v H1 α1 e1 h1 r1 w1=> ?_)⟩
 refine qo σ ρ H1 α1 M1 _ (s.mono e1) h1 (FP.seq w1 fun od M2 ov H2 α2 e2 h2 r2 w2=> ?_)
 refine qi σ ρ H2 α2 M2 _ ((s.mono e1).mono e2) h2 (FP.seq w2 fun kd M3 kv H3 α3 e3 h3 r3 w3=> ?_)
 cases Rep.mono e3 r2 with
 | @ref p n hp=>
  cases r3 with
  |int k=>
   cases em:M3[n]? with
   |none=>simp only[em] at w3;exact w3.elim
   |some so=>
    cases so with
    |lst ds=>
     cases ej:ixN ds.length k with
     |none=>simp only[em,ej] at w3;exact w3.elim
     |some j=>
      simp only[em,ej] at w3;obtain ⟨xs,g1,g2⟩:=h3.at hp em
      refine ⟨p,xs,k,j,rfl,rfl,g1,by rw[g2.length];exact ej,?_⟩
      exact w3 σ _ α3 (Ext.wr g1) (h3.wr hp g1 (Reps.set (Rep.mono e3 (Rep.mono e2 r1)) j g2)) ((((s.mono e1).mono e2).mono e3).mono (Ext.wr g1))
  |_=>exact w3.elim
 |_=>exact w3.elim
noncomputable def whN (c:Tv)(g:Sv):Nat->Ro->Sto->Option Fl
 |0,_,_=>none
 |n + 1,ρ,M=>match c ρ M with
  | .ok true M1=>(match g ρ M1 with
   | .nx ρ2 M2=>whN c g n ρ2 M2
   | .cnt ρ2 M2=>whN c g n ρ2 M2
   | .brk ρ2 M2=>some (.nx ρ2 M2)
   |o=>some o)
  | .ok false M1=>some (.nx ρ M1)
  | .exc e M1=>some (.exc e M1)
  | .bad=>some .bad
theorem Zb6 {c:Tv}{g:Sv}: ∀ {n:Nat} {ρ:Ro} {M:Sto} {o:Fl},whN c g n ρ M=some o-> ∀ k,whN c g (n + k) ρ M=some o
 |0,_,_,_,e,_=>by simp only[whN] at e;cases e
 |n + 1,ρ,M,o,e,k=>by
  have ek:n + 1 + k=(n + k) + 1:=by omega
  rw[ek];unfold whN at e ⊢;cases ec:c ρ M with
  |bad=>rw[ec] at e;exact e
  |exc x M1=>rw[ec] at e;exact e
  |ok b M1=>
   rw[ec] at e;cases b with
   |false=>exact e
   |true=>
    cases eg:g ρ M1 with
    |nx ρ2 M2=>simp only[eg] at e ⊢;exact Zb6 e k
    |cnt ρ2 M2=>simp only[eg] at e ⊢;exact Zb6 e k
    |brk ρ2 M2=>simp only[eg] at e ⊢;exact e
    |ret d M2=>simp only[eg] at e ⊢;exact e
    |exc x M2=>simp only[eg] at e ⊢;exact e
    |bad=>simp only[eg] at e ⊢;exact e
open Classical in
noncomputable def sWh (c:Tv)(g:Sv):Sv:=fun ρ M=>if h: ∃ o n,whN c g n ρ M=some o then Classical.choose h else .bad
theorem ZbU {c:Tv}{g:Sv}{n:Nat}{ρ:Ro}{M:Sto}{o:Fl}(e:whN c g n ρ M=some o):sWh c g ρ M=o:=by
 have hx: ∃ o n,whN c g n ρ M=some o:=⟨o,n,e⟩
 unfold sWh;rw[dif_pos hx];obtain ⟨m,em⟩:=Classical.choose_spec hx
 have h1:=Zb6 em n
 have h2:=Zb6 e m
 rw[Nat.add_comm] at h2;rw[h1] at h2;exact Option.some.inj h2
theorem Zgp {c:Tv}{g:Sv}{ρ:Ro}{M:Sto}(e:sWh c g ρ M≠ .bad): ∃ n,whN c g n ρ M=some (sWh c g ρ M):=by
 by_cases hx: ∃ o n,whN c g n ρ M=some o
 ·obtain ⟨o,n,h⟩:=hx
  exact ⟨n,by rw[ZbU h];exact h⟩
 ·unfold sWh at e
  rw[dif_neg hx] at e;exact absurd rfl e
theorem Zdz {c:Tv}{g:Sv}{ρ:Ro}{M M1:Sto}(h:c ρ M= .ok false M1):sWh c g ρ M= .nx ρ M1:=ZbU (n:=1) (by simp only[whN,h])
theorem ZeL {c:Tv}{g:Sv}{ρ ρ2:Ro}{M M1 M2:Sto}(h:c ρ M= .ok true M1)(h2:g ρ M1= .nx ρ2 M2)(hb:sWh c g ρ2 M2≠ .bad):sWh c g ρ M=sWh c g ρ2 M2:=by
 obtain ⟨n,e⟩:=Zgp hb
 exact ZbU (n:=n + 1) (by simp only[whN,h,h2];exact e)
theorem Zb7 {body:List Stmt}(hp:PassesOwn (model X.prog X.w) X.A X.env X.xe)(hc:DT X ξ c fc)(hb:DSs X ξ body g):DS X ξ (.While c body [] pos) (sWh fc g):=by
 obtain ⟨tc,pc,qc⟩:=hc
 obtain ⟨tb,pb,qb⟩:=hb
 refine ⟨_,ZhQ hp pc pb,fun σ ρ H α M Dn s hh w=> ?_⟩
 have nb:sWh fc g ρ M≠ .bad:=fun z=>by rw[z] at w;exact w
 obtain ⟨n,en⟩:=Zgp nb
 generalize sWh fc g ρ M=o at w en;refine ⟨fun m σ' H'=> ∃ ρ' α' M',Ext X.K H H' α α'/\SR X.K H' α' σ' ρ'/\HR X.K H' α' M'/\whN fc g m ρ' M'=some o,⟨n,ρ,α,M,Ext.refl,s,hh,en⟩,?_⟩
 rintro m σ1 H1 ⟨ρ1,α1,M1,e1,s1,h1,en1⟩
 cases m with
 |zero=>simp only[whN] at en1;cases en1
 |succ m=>
  refine qc σ1 ρ1 H1 α1 M1 _ s1 h1 ?_
  unfold whN at en1;cases ec:fc ρ1 M1 with
  |bad=>rw[ec] at en1;cases en1;exact w.elim
  |exc x M2=>
   rw[ec] at en1;cases en1;exact fun C H' α' nn ex hr=>w C H' α' nn (e1.trans ex) hr
  |ok b M2=>
   rw[ec] at en1;intro v H2 α2 e2 h2 ev;cases ev
   cases b with
   |false=>
    cases en1
    exact Zh1 (w σ1 H2 α2 (e1.trans e2) h2 (s1.mono e2))
   |true=>
    refine Zh2 ⟨fun σ' H'=> ∃ ρ' α' M',Ext X.K H H' α α'/\SR X.K H' α' σ' ρ'/\HR X.K H' α' M'/\whN fc g m ρ' M'=some o,fun σ' H' z=>⟨m,Nat.lt_succ_self m,z⟩,?_⟩
    refine qb σ1 ρ1 H2 α2 M2 _ (s1.mono e2) h2 ?_
    have e12:=e1.trans e2
    cases eg:g ρ1 M2 with
    |nx ρ2 M3=>simp only[eg] at en1;exact fun σ' H' α' ex hr sr=>⟨ρ2,α',M3,e12.trans ex,sr,hr,en1⟩
    |cnt ρ2 M3=>simp only[eg] at en1;exact fun σ' H' α' ex hr sr=>⟨ρ2,α',M3,e12.trans ex,sr,hr,en1⟩
    |brk ρ2 M3=>simp only[eg] at en1;cases en1;exact fun σ' H' α' ex hr sr=>w σ' H' α' (e12.trans ex) hr sr
    |ret d M3=>simp only[eg] at en1;cases en1;exact fun v H' α' ex hr sr=>w v H' α' (e12.trans ex) hr sr
    |exc x M3=>simp only[eg] at en1;cases en1;exact fun C H' α' nn ex hr=>w C H' α' nn (e12.trans ex) hr
    |bad=>simp only[eg] at en1;cases en1;exact w.elim
noncomputable def Za6 (tg:Tg)(g:Sv):List D->Ro->Sto->Fl
 | [],ρ,M=> .nx ρ M
 |d :: r,ρ,M=>match tg d ρ with
  |none=> .bad
  |some ρ1=>(match g ρ1 M with
   | .nx ρ2 M2=>Za6 tg g r ρ2 M2
   | .cnt ρ2 M2=>Za6 tg g r ρ2 M2
   | .brk ρ2 M2=> .nx ρ2 M2
   |o=>o)
noncomputable def ZfF (tg:Tg)(g:Sv)(n:Nat):Nat->Nat->Ro->Sto->Fl
 |f,i,ρ,M=>match M[n]? with
  |some (.lst xs)=>(match xs[i]? with
   |none=> .nx ρ M
   |some d=>(match f with
    |0=> .bad
    |f + 1=>(match tg d ρ with
     |none=> .bad
     |some ρ1=>(match g ρ1 M with
      | .nx ρ2 M2=>ZfF tg g n f (i + 1) ρ2 M2
      | .cnt ρ2 M2=>ZfF tg g n f (i + 1) ρ2 M2
      | .brk ρ2 M2=> .nx ρ2 M2
      |o=>o))))
  |none=> .bad
noncomputable def Zbq (lo:Int)(n:Nat):List D:=(List.range n).map fun (i:Nat)=>D.int (lo + i)
noncomputable def Zi4 (tg:Tg)(g:Sv)(d:D)(ρ:Ro)(M:Sto):Fl:=match d with
 | .tup xs=>Za6 tg g xs ρ M
 | .rol xs=>Za6 tg g xs ρ M
 | .ref n=>(match M[n]? with | some (.lst xs)=>ZfF tg g n xs.length 0 ρ M | none=> .bad)
 |_=> .bad
noncomputable def Zl7 (tg:Tg)(f:Ev)(g:Sv):Sv:=fun ρ M=>ZP (f ρ M) fun d M1=>Zi4 tg g d ρ M1
noncomputable def Zba (tg:Tg)(fs:Av)(g:Sv):Sv:=fun ρ M=>ZP (fs ρ M) fun ds M1=>match ds with
 | [.int j]=>if -(2 ^ 62)<=j/\j < 2 ^ 62 then Za6 tg g (Zbq 0 j.toNat) ρ M1 else .bad
 |_=> .bad
noncomputable def Zgq (tg:Tg)(fs:Av)(g:Sv):Sv:=fun ρ M=>ZP (fs ρ M) fun ds M1=>match ds with
 | [.int i,.int j]=>if -(2 ^ 62)<=i/\i < 2 ^ 62/\ -(2 ^ 62)<=j/\j < 2 ^ 62 then Za6 tg g (Zbq i (j - i).toNat) ρ M1 else .bad
 |_=> .bad
theorem ZeM {lo:Int}{n i:Nat}(h:i < n):(Zbq lo n)[i]?=some (.int (lo + i)):=by
 unfold Zbq;rw[List.getElem?_map,List.getElem?_range h]
 rfl
theorem ZcR {lo:Int}{n:Nat}:(Zbq lo n).length=n:=by unfold Zbq;rw[List.length_map,List.length_range]
theorem Zgr {lo:Int}{n i:Nat}(h:i < n):(Zbq lo n).drop i= .int (lo + i) :: (Zbq lo n).drop (i + 1):=by
 have hl:i < (Zbq lo n).length:=by rw[ZcR];exact h
 have e:=ZeM (lo:=lo) h
 rw[List.getElem?_eq_getElem hl] at e
 rw[List.drop_eq_getElem_cons hl,Option.some.inj e]
theorem Zh9 {tg:Expr}{gt:Tg}{tt:TG}{tb:TS}{Dn:Ends}{H H1:Hp}{α α1:List Addr}{o:Fl}{k:Ro->Sto->Fl}(w:FP X.K H α ξ Dn o)
  (qt: ∀ v d σ ρ H α ρ' Q,SR X.K H α σ ρ->Rep X.K H α v d->gt d ρ=some ρ'->(∀ σ',SR X.K H α σ' ρ'->Q σ' H)->tt v σ H Q) (qb: ∀ σ ρ H α M Dn,SR X.K H α σ ρ->HR X.K H α M->FP X.K H α ξ Dn (g ρ M)->tb Dn σ H)
  {v:V} {d:D} {σ1:L2.St} {ρ1:Ro} {M1:Sto} (e1:Ext X.K H H1 α α1) (s1:SR X.K H1 α1 σ1 ρ1) (h1:HR X.K H1 α1 M1) (r:Rep X.K H1 α1 v d)
  (en:(match gt d ρ1 with | none=>Fl.bad | some ρ2=>(match g ρ2 M1 with | .nx ρ3 M3=>k ρ3 M3 | .cnt ρ3 M3=>k ρ3 M3 | .brk ρ3 M3=> .nx ρ3 M3 | o=>o))=o)
  {N:L2.St->Hp->Prop} (hN: ∀ σ' H',(∃ ρ' α' M',Ext X.K H H' α α'/\SR X.K H' α' σ' ρ'/\HR X.K H' α' M'/\k ρ' M'=o)->N σ' H'):tt v σ1 H1 fun σ2 H2=>tb { Dn with nx:=N,ct:=N,bk:=Dn.nx } σ2 H2:=by
 cases eg:gt d ρ1 with
 |none=>rw[eg] at en;cases en;exact w.elim
 |some ρ2=>
  simp only[eg] at en;refine qt v d σ1 ρ1 H1 α1 ρ2 _ s1 r eg fun σ2 s2=>qb σ2 ρ2 H1 α1 M1 _ s2 h1 ?_
  cases ex:g ρ2 M1 with
  |nx ρ3 M3=>simp only[ex] at en;exact fun σ' H' α' e2 hr sr=>hN _ _ ⟨ρ3,α',M3,e1.trans e2,sr,hr,en⟩
  |cnt ρ3 M3=>simp only[ex] at en;exact fun σ' H' α' e2 hr sr=>hN _ _ ⟨ρ3,α',M3,e1.trans e2,sr,hr,en⟩
  |brk ρ3 M3=>simp only[ex] at en;cases en;exact fun σ' H' α' e2 hr sr=>w σ' H' α' (e1.trans e2) hr sr
  |ret d M3=>simp only[ex] at en;cases en;exact fun v H' α' e2 hr sr=>w v H' α' (e1.trans e2) hr sr
  |exc x M3=>simp only[ex] at en;cases en;exact fun C H' α' nn e2 hr=>w C H' α' nn (e1.trans e2) hr
  |bad=>simp only[ex] at en;cases en;exact w.elim
theorem Zl8 {tg:Expr}{gt:Tg}{tt:TG}{tb:TS}{Dn:Ends}{H:Hp}{α:List Addr}{lo:Int}{n:Nat}{σ:L2.St}{ρ:Ro}{M:Sto}
  (qt: ∀ v d σ ρ H α ρ' Q,SR X.K H α σ ρ->Rep X.K H α v d->gt d ρ=some ρ'->(∀ σ',SR X.K H α σ' ρ'->Q σ' H)->tt v σ H Q) (qb: ∀ σ ρ H α M Dn,SR X.K H α σ ρ->HR X.K H α M->FP X.K H α ξ Dn (g ρ M)->tb Dn σ H)
  (s:SR X.K H α σ ρ) (hh:HR X.K H α M) (w:FP X.K H α ξ Dn (Za6 gt g (Zbq lo n) ρ M)):
  ∃ W:Nat->Nat->L2.St->Hp->Prop,(∃ m,W 0 m σ H)/\ ∀ i m σ H,W i m σ H->
   ((Itr lo n).stop i H/\Dn.nx σ H)\/((Itr lo n).go i H/\ ∃ N:L2.St->Hp->Prop,(∀ σ' H',N σ' H'-> ∃ m',m' < m/\W (i + 1) m' σ' H')/\ ∀ x H',(Itr lo n).yld i H x H'->tt x σ H' fun σ2 H2=>tb { Dn with nx:=N,ct:=N,bk:=Dn.nx } σ2 H2):=by
 generalize ho:Za6 gt g (Zbq lo n) ρ M=o at w;refine ZfT (fun i σ' H'=> ∃ ρ' α' M',Ext X.K H H' α α'/\SR X.K H' α' σ' ρ'/\HR X.K H' α' M'/\Za6 gt g ((Zbq lo n).drop i) ρ' M'=o) ⟨ρ,α,M,Ext.refl,s,hh,ho⟩ ?_ ?_
 ·rintro i σ1 H1 hi ⟨ρ1,α1,M1,e1,s1,h1,en⟩
  rw[Zgr hi] at en;exact Zh9 (tg:=tg) w qt qb e1 s1 h1 (.int (lo + i)) en (fun σ' H' z=>z)
 ·rintro σ1 H1 ⟨ρ1,α1,M1,e1,s1,h1,en⟩
  rw[List.drop_eq_nil_of_le (by rw[ZcR];exact Nat.le_refl _)] at en
  cases en
  exact w σ1 H1 α1 e1 h1 s1
theorem Za2 {tg a:Expr}{gt:Tg}{fs:Av}{body:List Stmt}{p p2:Pos}(hp:PassesOwn (model X.prog X.w) X.A X.env X.xe)(hm:X.mg "range"=none)(ha:DA X ξ [a] fs)(hg:DG X tg gt)(hb:DSs X ξ body g)
  (hgl:Gl X "range":=by rfl) (hs:starEach [a] X.env=[(false,eval a X.env)]:=by rfl) (hf: ∀ x,foldedSetIterable (.Call (.Name "range" p) [a] [] p2) X.env x=pure x:=by intro _;rfl):DS X ξ (.For tg (.Call (.Name "range" p) [a] [] p2) body [] pos) (Zba gt fs g):=by
 obtain ⟨ta,pa,qa⟩:=ha
 obtain ⟨tt,pt,qt⟩:=hg
 obtain ⟨tb,pb,qb⟩:=hb
 refine ⟨_,ZfS hp (ZfQ hgl hm pa hs) pt pb hf,fun σ ρ H α M Dn s hh w=>qa σ ρ H α M _ s hh (FP.seq w fun ds M1 vs H1 α1 e1 h1 r1 w1=> ?_)⟩
 match r1 with
 | .nil=>exact w1.elim
 | .cons r (.cons _ _)=>cases r<;>exact w1.elim
 | .cons r .nil=>
  cases r with
  |int j=>
   by_cases c: -(2 ^ 62)<=j/\j < 2 ^ 62
   ·simp only[if_pos c] at w1
    exact ⟨j,rfl,c.1,c.2,Zl8 (tg:=tg) qt qb (s.mono e1) h1 w1⟩
   ·simp only[if_neg c] at w1
    exact w1.elim
  |_=>exact w1.elim
noncomputable def Zsc (K:PySem.W.Frag)(tl:TE):TI:=fun σ H R=>tl σ H fun x H1=> ∃ a,x= .ref a/\(((∃ xs,SqL K H1 a xs)/\R (Itl K a) H1)\/((∃ xs,SqT K H1 a xs)/\R (Itt K a) H1))
theorem Zi5 {tg l:Expr}{tl:TE}(hl:PE X l tl):PI X tg l (Zsc X.K tl):=by
 intro pins s σ H R I h;refine thn (hl pins s σ H _ I h) fun v s1 ⟨x,H1,I1,r1,q1⟩=> ?_
 obtain ⟨a,e,q⟩:=q1
 subst e;cases r1
 have fp: ∀ b∈[s1.heap.objs.size],Zc9 X pins H1 b:=fun b hb=>by
  have e:b=s1.heap.objs.size:=by simpa using hb
  subst e;exact I1.fpOk (Nat.le_refl _) (I1.hok.fresh (Nat.le_refl _))
 rcases q with ⟨⟨xs,hq⟩,q⟩ | ⟨⟨xs,hq⟩,q⟩
 ·obtain ⟨its,rv,p,hz⟩:=I1.list hq
  refine wpAny_pyIter_list p.isList ?_
  exact ⟨s1.heap.objs.size,[s1.heap.objs.size],_,_,H1,rfl,I1.kept (t':=s1.toks) fun b o e=>Heap.get?_push_of_some _ e,ZfP a _,⟨_,Heap.get?_push_size _ rfl,rfl,rfl⟩,fp,q⟩
 ·obtain ⟨its,rv,p,hz⟩:=I1.tuple hq
  refine wpAny_pyIter_tuple (show s1.heap.IsTuple a its.toArray from p) ?_
  exact ⟨s1.heap.objs.size,[s1.heap.objs.size],_,_,H1,rfl,I1.kept (t':=s1.toks) fun b o e=>Heap.get?_push_of_some _ e,Ze9 a _,⟨_,Heap.get?_push_size _ rfl,rfl,rfl⟩,fp,q⟩
theorem Zi6 {tg l:Expr}{gt:Tg}{f:Ev}{body:List Stmt}(hp:PassesOwn (model X.prog X.w) X.A X.env X.xe)(hl:DE X ξ l f)(hg:DG X tg gt)(hb:DSs X ξ body g)
  (hf: ∀ x,foldedSetIterable l X.env x=pure x:=by intro _;rfl):DS X ξ (.For tg l body [] pos) (Zl7 gt f g):=by
 obtain ⟨ta,pa,qa⟩:=hl
 obtain ⟨tt,pt,qt⟩:=hg
 obtain ⟨tb,pb,qb⟩:=hb
 refine ⟨_,ZfS hp (Zi5 pa) pt pb hf,fun σ ρ H α M Dn s hh w=>qa σ ρ H α M _ s hh (FP.seq w fun d M1 v H1 α1 e1 h1 r1 w1=> ?_)⟩
 have s1:=s.mono e1
 have pure_: ∀ (ds:List D) (xs:List V),Reps X.K H1 α1 xs ds->FP X.K H1 α1 ξ Dn (Za6 gt g ds ρ M1)-> ∀ (i:Nat) σ' H',(∃ ρ' α' M',Ext X.K H1 H' α1 α'/\SR X.K H' α' σ' ρ'/\HR X.K H' α' M'/\Za6 gt g (ds.drop i) ρ' M'=Za6 gt g ds ρ M1)->
   (∀ x,xs[i]?=some x->tt x σ' H' fun σ2 H2=>tb { Dn with nx:=fun σ H=> ∃ ρ' α' M',Ext X.K H1 H α1 α'/\SR X.K H α' σ ρ'/\HR X.K H α' M'/\Za6 gt g (ds.drop (i + 1)) ρ' M'=Za6 gt g ds ρ M1,ct:=fun σ H=> ∃ ρ' α' M',Ext X.K H1 H α1 α'/\SR X.K H α' σ ρ'/\HR X.K H α' M'/\Za6 gt g (ds.drop (i + 1)) ρ' M'=Za6 gt g ds ρ M1,bk:=Dn.nx } σ2 H2)/\
   (i=xs.length->Dn.nx σ' H'):=by
  intro ds xs r w1 i σ' H' ⟨ρ',α',M',ex,sr,hr,en⟩;refine ⟨fun x hx=> ?_,fun hi=> ?_⟩
  ·have hi:i < ds.length:=by rw[<- r.length];exact (List.getElem?_eq_some_iff.mp hx).1
   obtain ⟨v,g1,g2⟩:=r.get (List.getElem?_eq_getElem hi)
   rw[hx] at g1;cases g1
   rw[List.drop_eq_getElem_cons hi] at en;exact Zh9 (tg:=tg) w1 qt qb ex sr hr (Rep.mono ex g2) en (fun σ' H' z=>z)
  ·rw[hi,r.length,List.drop_length] at en
   have en':Fl.nx ρ' M'=Za6 gt g ds ρ M1:=en
   rw[<- en'] at w1;exact w1 σ' H' α' ex hr sr
 cases r1 with
 | @tup p xs ds hp rp=>
  have w2:FP X.K H1 α1 ξ Dn (Za6 gt g ds ρ M1):=w1
  refine ⟨p,rfl,.inr ⟨⟨xs,(SqT.of hp)⟩,ZjH (K:=X.K) (a:=p) (xs:=xs) (fun i σ' H'=> ∃ ρ' α' M',Ext X.K H1 H' α1 α'/\SR X.K H' α' σ' ρ'/\HR X.K H' α' M'/\Za6 gt g (ds.drop i) ρ' M'=Za6 gt g ds ρ M1) ⟨ρ,α1,M1,Ext.refl,s1,h1,rfl⟩ ?_ ?_ ?_⟩⟩
  ·rintro i σ' H' _ ⟨ρ',α',M',ex,_⟩
   exact SqT.of (ex.tup _ _ hp)
  ·intro i x σ' H' hx z
   exact (pure_ ds xs rp w2 i σ' H' z).1 x hx
  ·intro σ' H' z
   exact (pure_ ds xs rp w2 _ σ' H' z).2 rfl
 | @rol p xs ds hp rp=>
  have w2:FP X.K H1 α1 ξ Dn (Za6 gt g ds ρ M1):=w1
  refine ⟨p,rfl,.inl ⟨⟨xs,hp.sq⟩,ZhT (K:=X.K) (a:=p) (xs:=xs) (fun i σ' H'=> ∃ ρ' α' M',Ext X.K H1 H' α1 α'/\SR X.K H' α' σ' ρ'/\HR X.K H' α' M'/\Za6 gt g (ds.drop i) ρ' M'=Za6 gt g ds ρ M1) ⟨ρ,α1,M1,Ext.refl,s1,h1,rfl⟩ ?_ ?_ ?_⟩⟩
  ·rintro i σ' H' _ ⟨ρ',α',M',ex,_⟩
   exact (ex.rol _ _ hp).sq
  ·intro i x σ' H' hx z
   exact (pure_ ds xs rp w2 i σ' H' z).1 x hx
  ·intro σ' H' z
   exact (pure_ ds xs rp w2 _ σ' H' z).2 rfl
 | @ref p n hp=>
  cases em:M1[n]? with
  |none=>simp only[Zi4,em] at w1;exact w1.elim
  |some so=>
   cases so with
   |lst ds=>
    simp only[Zi4,em] at w1;obtain ⟨xs0,g0,r0⟩:=h1.at hp em
    generalize eo:ZfF gt g n ds.length 0 ρ M1=o at w1;refine ⟨p,rfl,.inl ⟨⟨xs0,SqL.of g0⟩,fun i m σ' H'=> ∃ ρ' α' M',Ext X.K H1 H' α1 α'/\SR X.K H' α' σ' ρ'/\HR X.K H' α' M'/\ZfF gt g n m i ρ' M'=o,⟨ds.length,ρ,α1,M1,Ext.refl,s1,h1,eo⟩,?_⟩⟩
    rintro i m σ' H' ⟨ρ',α',M',ex,sr,hr,en⟩
    unfold ZfF at en;cases em2:M'[n]? with
    |none=>simp only[em2] at en;cases en;exact w1.elim
    |some so2=>
     cases so2 with
     |lst ds2=>
      simp only[em2] at en;obtain ⟨xs,g1,g2⟩:=hr.at (ex.get hp) em2
      cases ei:ds2[i]? with
      |none=>
       simp only[ei] at en;cases en
       refine .inl ⟨⟨xs,SqL.of g1,?_⟩,w1 σ' H' α' ex hr sr⟩
       rw[g2.length];exact List.getElem?_eq_none_iff.mp ei
      |some d=>
       simp only[ei] at en;obtain ⟨v,k1,k2⟩:=g2.get ei
       cases m with
       |zero=>cases en;exact w1.elim
       |succ m=>
        refine .inr ⟨⟨xs,v,SqL.of g1,k1⟩,fun σ2 H2=> ∃ ρ' α' M',Ext X.K H1 H2 α1 α'/\SR X.K H2 α' σ2 ρ'/\HR X.K H2 α' M'/\ZfF gt g n m (i + 1) ρ' M'=o,fun σ2 H2 z=>⟨m,Nat.lt_succ_self m,z⟩,fun x H2 y=> ?_⟩
        obtain ⟨ey,y⟩:=y
        subst ey;have ev:=y xs (SqL.of g1)
        rw[k1] at ev;cases ev
        exact Zh9 (tg:=tg) w1 qt qb ex sr hr k2 en (fun σ' H' z=>z)
 |_=>exact w1.elim
end
noncomputable def fnF (g:Sv)(n k:Nat):List D->Sto->Out D:=fun ds M=>if ds.length=n then (match g (ds.map some ++ List.replicate k none) M with
 | .ret d M'=> .ok d M'
 | .nx _ M'=> .ok .non M'
 | .exc c M'=> .exc c M'
 |_=> .bad) else .bad
noncomputable def spD (K:PySem.W.Frag)(F:List D->Sto->Out D):Sp:=fun vs H Q E=> ∃ ds α M,Reps K H α vs ds/\HR K H α M/\OP K H α E Q (F ds M)
theorem ZdA: ∀ {ds:List D} {k i:Nat} {d:D},(ds.map some ++ List.replicate k none)[i]?=some (some d)->ds[i]?=some d
 | [],k,i,d,h=>by
  rw[List.map_nil,List.nil_append] at h
  have:=List.mem_of_getElem? h
  rw[List.mem_replicate] at this;cases this.2
 |x :: r,k,0,d,h=>by simpa using h
 |x :: r,k,i + 1,d,h=>by
  rw[List.map_cons,List.cons_append,List.getElem?_cons_succ] at h
  rw[List.getElem?_cons_succ]
  exact ZdA h
theorem SR.start {K:PySem.W.Frag}{H:Hp}{α:List Addr}{N:List Str}{vs:List V}{ds:List D}{k:Nat}(r:Reps K H α vs ds)(hk:k=N.length - ds.length):SR K H α (start N vs) (ds.map some ++ List.replicate k none):=by
 unfold L2.start;refine ⟨by simp only[List.length_append,List.length_map,List.length_replicate,r.length,hk],fun i d h=> ?_⟩
 obtain ⟨v,h1,h2⟩:=r.get (ZdA h)
 refine ⟨v,?_,h2⟩
 have hl:i < vs.length:=(List.getElem?_eq_some_iff.mp h1).1
 rw[List.getElem?_append_left (by rw[List.length_map];exact hl),List.getElem?_map,h1]
 rfl
section
variable {P:Program}{w:World}{K:PySem.W.Frag}{mg:Str->Option Value}{base:Heap}
theorem Zl9 {x qual:Str}{st:Stmt}{f:Addr}{fd:FuncData}{N ps:List Str}{k n m:Nat}{g:Sv}(F:Fun K x qual st f fd)(S:FnScope N ps (Zr st))(hn:n=ps.length)(hm:m=N.length - n)
  (hb: ∀ (cdv:Value) (A:Around) (outer:List Env) (s:Shared) (H:Hp) (E:XK),Room k (A.deeper (envOfC qual (Zr st) s.heap.objs.size f cdv))->Thr (Zf0 (CXE P w) P w K mg base N qual (Zr st) f cdv A outer s H E) E->DSs (Zf0 (CXE P w) P w K mg base N qual (Zr st) f cdv A outer s H E) E (Z0 st) g):
  FnOk P w K mg base (CXE P w) (k + 1) f fd ps (spD K (fnF g n m)):=by
 obtain ⟨oc,od,kV,doc,pm,an,cdv,ct,osl,rfl,lk,hcd⟩:=F.ex
 refine ZlM lk hcd S (fun vs H Q E h=> ?_) (fun A outer s H vs Q E hr h=> ?_)
 ·obtain ⟨ds,α,M,r,_,q⟩:=h
  by_cases c:ds.length=n
  ·rw[r.length,c,hn]
  ·simp only[fnF,if_neg c] at q
   exact q.elim
 ·obtain ⟨ds,α,M,r,hh,q⟩:=h
  obtain ⟨t,p,w'⟩:=hb cdv A outer s H E hr Zl6
  by_cases c:ds.length=n
  ·simp only[fnF,if_pos c] at q
   refine ⟨t,p,w' _ _ H α M _ (SR.start (N:=N) r (k:=m) (by rw[hm,c])) hh ?_⟩
   cases e:g (ds.map some ++ List.replicate m none) M with
   |nx ρ' M'=>simp only[e] at q;exact fun σ' H' α' ex hr sr=>q _ H' α' ex hr .non
   |ret d M'=>simp only[e] at q;exact q
   |exc x M'=>simp only[e] at q;exact q
   |brk ρ' M'=>simp only[e] at q;exact q.elim
   |cnt ρ' M'=>simp only[e] at q;exact q.elim
   |bad=>simp only[e] at q;exact q.elim
  ·simp only[fnF,if_neg c] at q
   exact q.elim
end
section
variable {X:Cx}{ξ:XK}{k:Nat}{f:Addr}{fd:FuncData}{ps:List Str}{F:List D->Sto->Out D}{x:Str}{p pos:Pos}{e:Expr}{es:List Expr}{fs:Av}
theorem ZjZ (G:FnOk X.prog X.w X.K X.mg X.base (CXE X.prog X.w) k f fd ps (spD X.K F))(T:Thr X ξ)(hr:Room k X.A)(hm:X.mg x=some (.ref f))(hk:PySem.W.keepIn X.K (.ref f)=true)(hb:ZcN X.K fd ps [])(ha:DA X ξ (e :: es) fs)(hg:Gl X x:=by rfl)
  (hdb:(x == ("__debug__":Str))=false:=by decide) (he:starEach (e :: es) X.env=(false,eval e X.env) :: starEach es X.env:=by rfl) (hpl:(backTo pos (starEach es X.env)).any (·.1)=false:=by rfl):DE X ξ (.Call (.Name x p) (e :: es) [] pos) (Zj F fs):=by
 obtain ⟨t,pa,qa⟩:=ha
 refine ⟨_,ZjL G hr hg hm hk hb .nil T.ps pa hdb he hpl,fun σ ρ H α M Q s hh q=>qa σ ρ H α M _ s hh (OG.seq q fun ds M1 vs H1 α1 e1 h1 r1 q1=> ?_)⟩
 rw[List.append_nil];exact ⟨ds,α1,M1,r1,h1,q1⟩
end
end DL
end
section
namespace DL
open PySem PySem.Spec PyProof.Rows L2
theorem ZbV:bootBuiltins "abs"=some (.builtin "abs"):=by decide +kernel
theorem ZeN:bootBuiltins "int"=some (.type "int"):=by decide +kernel
theorem Zgs:bootBuiltins "bool"=some (.type "bool"):=by decide +kernel
theorem ZdB:bootBuiltins "str"=some (.type "str"):=by decide +kernel
theorem Zcf:bootBuiltins "list"=some (.type "list"):=by decide +kernel
theorem ZeO:bootBuiltins "tuple"=some (.type "tuple"):=by decide +kernel
theorem Zma:bootBuiltins "max"=some (.builtin "max"):=by decide +kernel
theorem Zmb:bootBuiltins "min"=some (.builtin "min"):=by decide +kernel
theorem Zi7:bootBuiltins "all"=some (.builtin "all"):=by decide +kernel
noncomputable def Cal (P:Program)(w:World)(K:PySem.W.Frag)(mg:Str->Option Value)(base:Heap)(x:Str)(k n:Nat)(F:List D->Sto->Out D):Prop:=
 ∃ (f:Addr) (fd:FuncData) (ps:List Str),FnOk P w K mg base (CXE P w) k f fd ps (spD K F)/\mg x=some (.ref f)/\PySem.W.keepIn K (.ref f)=true/\ps.length=n/\ZcN K fd ps []
theorem Zia {X:Cx}{ξ:XK}{k n:Nat}{F:List D->Sto->Out D}{x:Str}{p pos:Pos}{e:Expr}{es:List Expr}{fs:Av}(C:Cal X.prog X.w X.K X.mg X.base x k n F)(T:Thr X ξ)(hr:Room k X.A)(ha:DA X ξ (e :: es) fs)(hg:Gl X x:=by rfl)
  (hdb:(x == ("__debug__":Str))=false:=by decide) (he:starEach (e :: es) X.env=(false,eval e X.env) :: starEach es X.env:=by rfl) (hpl:(backTo pos (starEach es X.env)).any (·.1)=false:=by rfl):DE X ξ (.Call (.Name x p) (e :: es) [] pos) (Zj F fs):=by
 obtain ⟨f,fd,ps,G,hm,hk,_,hb⟩:=C
 exact ZjZ G T hr hm hk hb ha hg hdb he hpl
theorem Zmc {K:PySem.W.Frag}{H:Hp}{a:Addr}{ns:List Int}{n:Nat}{F:List D->Sto->Out D}(hl:ns.length<=n)(hO:Zos H)(hS:SqL K H a (ns.map V.int))(h: ∃ M',F [.rol (ns.map D.int)] []= .ok (.bl true) M'):
  spD K F [.ref a] H (fun v _=>v= .bl true) (fun _ _ _=>False):=by
 obtain ⟨M',e⟩:=h
 have hF:SqF K H a (ns.map V.int):=by
  rcases hS with (h | ⟨o,h⟩) | h
  ·rcases hO a with z | ⟨o,xs,z⟩
   ·rw[h] at z;cases z
   ·rw[h] at z;cases z
  ·exact .inl ⟨o,h⟩
  ·exact .inr h
 refine ⟨[.rol (ns.map D.int)],[],[],.cons (.rol hF (Reps.ints ns)) .nil,HR.nil,?_⟩
 rw[e];intro v H' α' _ _ r;cases r
 rfl
end DL
end
section
namespace DL
open PySem PySem.Spec PyProof.Rows L2
noncomputable def bl:List Str:=["abs","all","any","bool","dict","enumerate","int","isinstance","len","list","max","min","range","repr","reversed","sorted","str","sum","tuple","zip"]
structure Bs (mg:Str->Option Value):Prop where
 b_abs:mg "abs"=none
 b_all:mg "all"=none
 b_any:mg "any"=none
 b_bool:mg "bool"=none
 b_dict:mg "dict"=none
 b_enumerate:mg "enumerate"=none
 b_int:mg "int"=none
 b_isinstance:mg "isinstance"=none
 b_len:mg "len"=none
 b_list:mg "list"=none
 b_max:mg "max"=none
 b_min:mg "min"=none
 b_range:mg "range"=none
 b_repr:mg "repr"=none
 b_reversed:mg "reversed"=none
 b_sorted:mg "sorted"=none
 b_str:mg "str"=none
 b_sum:mg "sum"=none
 b_tuple:mg "tuple"=none
 b_zip:mg "zip"=none
theorem Bs.of {K:PySem.W.Frag}{h:Heap}{mg:Str->Option Value}(X:K.In h)(G:h.Ns mainGlobals mg)(z:bl.map (PySem.W.nsIn K mainGlobals)=bl.map fun _=>some none):Bs mg:=by
 have q (x:Str) (m:x∈bl):mg x=none:=PySem.W.mg_none_of X G (List.map_inj_left.mp z x m)
 constructor<;>exact q _ (by decide +kernel)
structure Rw where
 n:String
 i:Nat
 f:Nat
 m:String
 t:Nat
 u:Nat
 ln:Nat
 na:Nat
 b:Bool
 v:Nat
noncomputable def zz1 (P:Params)(s:String)(n:Nat)(v:Value):DictEntry:={ hash:=PyData.keyHash P (Str.ofString s),key:=Value.str (Str.ofString s) n,val:=v }
noncomputable def zz3 (s:String)(n:Nat):Value:=Value.str (Str.ofString s) n
noncomputable def zz4 (n:Int):Value:=Value.int n 0
noncomputable def zz6 (b:Bool)(n:Nat):Value:=if b then .ref n else .none
noncomputable def Rw.fo (p:Nat->Stmt)(r:Rw):Obj:=⟨.type "function",none,.func (PySem.W.fnOf r.n r.n (Zax (p r.i)) (Z0 (p r.i)) (Zr (p r.i)) .none .none .none (.str r.m r.t) none (.ref (r.f - 1)) .none),#[]⟩
noncomputable def Rw.co (r:Rw):Obj:={ cls:=Value.type "code",data:=Data.fields #[zz3 r.n r.u,zz3 r.n (r.u + 1),zz3 "/claim/cut.py" (r.u + 2),zz4 r.ln,zz4 r.na,zz4 0,zz4 0,zz4 3,.ref (r.f - (if r.b then 6 else 4)),.bool true,zz4 181,.ref (r.f - (if r.b then 5 else 3)),.none,zz6 r.b (r.f - 4),zz6 r.b (r.f - 3),.ref (r.f - 2),zz4 r.v,zz4 r.ln,zz3 "/claim/cut.py" (r.v + 1)] }
noncomputable def Rw.de (P:Params)(r:Rw):DictEntry:=zz1 P r.n (r.v + 2) (.ref r.f)
noncomputable def Rw.en (p:Nat->Stmt)(r:Rw):PySem.W.Frag:=[(r.f,r.fo p),(r.f - 1,r.co)]
structure Cw where
 n:String
 f:Nat
 t:Nat
 ln:Nat
noncomputable def Cw.cls (r:Cw):Obj:={ cls:=Value.type "type",data:=Data.cls { name:=Str.ofString r.n,bases:=[Value.ref 24],mro:=[Value.ref r.f,Value.ref 24,Value.type "ValueError",Value.type "Exception",Value.type "BaseException",Value.type "object"],ns:=r.f - 1,qualname:=Str.ofString r.n },slots:= #[some (Value.ref (r.f - 9)),none,some (zz3 r.n r.t),some (zz3 r.n (r.t + 8)),some (Value.builtin "ValueError.__new__"),some (Value.bool true)] }
noncomputable def Cw.ns (P:Params)(r:Cw):Obj:={ cls:=Value.type "dict",data:=Data.dict #[zz1 P "__module__" (r.t + 7) (zz3 "rayround.errors" 187),zz1 P "__firstlineno__" (r.t + 11) (Value.int r.ln (r.t + 10)),zz1 P "__static_attributes__" (r.t + 12) (Value.ref (r.f - 2)),zz1 P "__doc__" (r.t + 13) Value.none] 2 }
noncomputable def Cw.de (P:Params)(r:Cw):DictEntry:=zz1 P r.n (r.t + 15) (.ref r.f)
noncomputable def Cw.en (P:Params)(r:Cw):PySem.W.Frag:=[(r.f,r.cls),(r.f - 1,r.ns P)]
noncomputable def Df (K:PySem.W.Frag)(x:Str)(st:Stmt):Prop:= ∃ f fd,PySem.W.nsIn K mainGlobals x=some (some (.ref f))/\Fun K x x st f fd
noncomputable def Dfs (K:PySem.W.Frag)(p:Nat->Stmt)(L:List Rw):Prop:=
 L.map (fun r=>(PySem.W.nsIn K mainGlobals r.n,K.lookup r.f,PySem.W.codeIn K (.ref (r.f - 1)) r.n,PySem.W.keepIn K (.ref r.f)))=L.map fun r=>(some (some (.ref r.f)),some (r.fo p),true,true)
theorem Dfs.of {K:PySem.W.Frag}{p:Nat->Stmt}{L:List Rw}(h:L.map (fun r=>(PySem.W.nsIn K mainGlobals r.n,K.lookup r.f,PySem.W.codeIn K (.ref (r.f - 1)) r.n,PySem.W.keepIn K (.ref r.f)))=L.map fun r=>(some (some (.ref r.f)),some (r.fo p),true,true)):Dfs K p L:=h
theorem Dfs.at {K:PySem.W.Frag}{p:Nat->Stmt}{L:List Rw}(h:Dfs K p L)(j i:Nat){x:Str}(e:(L[j]?).map (fun r=>(Str.ofString r.n,r.i))=some (x,i):=by rfl):Df K x (p i):=by
 obtain ⟨r,m,e⟩:=Option.map_eq_some_iff.mp e
 have q:=List.map_inj_left.mp h r (List.mem_of_getElem? m)
 cases e
 simp only[Prod.mk.injEq] at q;exact ⟨_,_,q.1,ZiX q.2.1 q.2.2.1 q.2.2.2⟩
section
variable {P:Program}{w:World}{K:PySem.W.Frag}{mg:Str->Option Value}{base:Heap}
theorem Zsd {α:Type}{P:List α->Prop}(h:P []): ∀ us:List α,us.length=0->P us
 | [],_=>h
theorem Zse {α:Type}{P:List α->Prop}(h: ∀ x0,P [x0]): ∀ us:List α,us.length=1->P us
 | [x0],_=>h x0
theorem Zsf {α:Type}{P:List α->Prop}(h: ∀ x0 x1,P [x0,x1]): ∀ us:List α,us.length=2->P us
 | [x0,x1],_=>h x0 x1
theorem ZqV {α:Type}{P:List α->Prop}(h: ∀ x0 x1 x2,P [x0,x1,x2]): ∀ us:List α,us.length=3->P us
 | [x0,x1,x2],_=>h x0 x1 x2
theorem Zsg {α:Type}{P:List α->Prop}(h: ∀ x0 x1 x2 x3,P [x0,x1,x2,x3]): ∀ us:List α,us.length=4->P us
 | [x0,x1,x2,x3],_=>h x0 x1 x2 x3
theorem Zsh {α:Type}{P:List α->Prop}(h: ∀ x0 x1 x2 x3 x4,P [x0,x1,x2,x3,x4]): ∀ us:List α,us.length=5->P us
 | [x0,x1,x2,x3,x4],_=>h x0 x1 x2 x3 x4
theorem Zsi {α:Type}{P:List α->Prop}(h: ∀ x0 x1 x2 x3 x4 x5,P [x0,x1,x2,x3,x4,x5]): ∀ us:List α,us.length=6->P us
 | [x0,x1,x2,x3,x4,x5],_=>h x0 x1 x2 x3 x4 x5
theorem ZG {x:Str}{st:Stmt}{N:List Str}{k n m:Nat}{g:Sv}(D:Df K x st)(gl: ∀ c v,PySem.W.nsIn K mainGlobals c=some (some v)->mg c=some v)
  (hb: ∀ (cdv:Value) (A:Around) (outer:List Env) (s:Shared) (H:Hp) (E:XK) (f:Addr),N.Nodup->Room k (A.deeper (envOfC x (Zr st) s.heap.objs.size f cdv))->Thr (Zf0 (CXE P w) P w K mg base N x (Zr st) f cdv A outer s H E) E->DSs (Zf0 (CXE P w) P w K mg base N x (Zr st) f cdv A outer s H E) E (Z0 st) g)
  (h1:(Zr st).kind= .function:=by rfl) (h2:(Zr st).isCoroutine=false:=by rfl) (h3:(Zr st).isGenerator=false:=by rfl) (h4:N.Nodup:=by decide +kernel) (h5:(N.take n).length=n:=by rfl)
  (h6: ∀ y∈N.take n,(Zr st).names.lookup y=some .local\/(Zr st).names.lookup y=some .cell:=by decide +kernel) (h7: ∀ y∈(Zr st).names,y.2≠ .free:=by decide +kernel) (hm:m=N.length - n:=by rfl)
  (bi: ∀ (kV doc pm:Value) (an:Option Addr) (cdv ct:Value) (us:List Value),us.length=n->bindArgs (PySem.W.fnOf x x (Zax st) (Z0 st) (Zr st) .none kV doc pm an cdv ct) ⟨us,[]⟩=pure ((N.take n).zip us):=by first | exact fun _ _ _ _ _ _=>Zse fun _=>rfl | exact fun _ _ _ _ _ _=>Zsf fun _ _=>rfl | exact fun _ _ _ _ _ _=>ZqV fun _ _ _=>rfl | exact fun _ _ _ _ _ _=>Zsg fun _ _ _ _=>rfl | exact fun _ _ _ _ _ _=>Zsh fun _ _ _ _ _=>rfl | exact fun _ _ _ _ _ _=>Zsi fun _ _ _ _ _ _=>rfl | exact fun _ _ _ _ _ _=>Zsd rfl):Cal P w K mg base x (k + 1) n (fnF g n m):=by
 obtain ⟨f,fd,a,F⟩:=D
 have S:FnScope N (N.take n) (Zr st):=⟨h1,h2,h3,h4,by rw[h5],h6,h7⟩
 exact ⟨f,fd,N.take n,Zl9 F S h5.symm hm (fun cdv A outer s H E hr θ=>hb cdv A outer s H E f h4 hr θ),gl _ _ a,F.kp,h5,F.binds (fun kV doc pm an cdv ct us hu=>bi kV doc pm an cdv ct us (hu.trans h5))⟩
theorem Zh {X:Cx}{ξ:XK}{j k n:Nat}{F:List D->Sto->Out D}{x:Str}{p pos:Pos}{e:Expr}{es:List Expr}{fs:Av}(C:Cal X.prog X.w X.K X.mg X.base x k n F)(T:Thr X ξ)(hr:Room j X.A)(ha:DA X ξ (e :: es) fs)(hj:k<=j:=by decide)(hg:Gl X x:=by rfl)
  (hdb:(x == ("__debug__":Str))=false:=by decide) (he:starEach (e :: es) X.env=(false,eval e X.env) :: starEach es X.env:=by rfl) (hpl:(backTo pos (starEach es X.env)).any (·.1)=false:=by rfl):DE X ξ (.Call (.Name x p) (e :: es) [] pos) (Zj F fs):=Zia C T (hr.mono hj) ha hg hdb he hpl
theorem Zmd {l:PySem.W.OpenLaw}{h:Heap}{fa:Addr}{st:Stmt}{k:Nat}{y:Str}{F:List D->Sto->Out D}(X:K.In h)(G:h.Ns mainGlobals mg)(hfa:mg "law"=some (.ref fa))(D:Df K "law" st)(b: ∀ (kV doc pm:Value) (an:Option Addr) (cdv ct:Value) (v:Value),bindArgs (PySem.W.fnOf "law" "law" (Zax st) (Z0 st) (Zr st) .none kV doc pm an cdv ct) ⟨[v],[]⟩=pure [(y,v)])
  (q: ∀ base fd,Fun K "law" "law" st fa fd->FnOk l.prog w K mg base (CXE l.prog w) k fa fd [y] (spD K F)): ∃ fd:FuncData,(∀ (s:Shared) (v:Value),BindsTo s fd ⟨[v],[]⟩ [(y,v)])/\ ∀ base:Heap,K.In base->base.Ns mainGlobals mg->FnOk l.prog w K mg base (CXE l.prog w) k fa fd [y] (spD K F):=by
 obtain ⟨f,fd,a,F⟩:=D
 have e:=hfa.symm.trans (PySem.W.mg_of X G a)
 cases e
 refine ⟨fd,?_,fun base _ _=>q base fd F⟩
 obtain ⟨oc,od,kV,doc,pm,an,cdv,ct,osl,rfl,lk,hcd⟩:=F.ex
 exact fun s v=> .of_eq (b kV doc pm an cdv ct v)
end
end DL
end
section
namespace DL
open PySem PySem.Spec PyProof.Rows L2
inductive Src where
 |pur (ds:List D)
 |sto (n:Nat)
 |zip (n m:Nat)
 |enu (n:Nat)
 |rev (n l:Nat)
 |zips (ns:List Nat)
 |dct (n:Nat)
noncomputable def Zgt (M:Sto)(i:Nat):List Nat->Option (Option (List D))
 | []=>some (some [])
 |n :: ns=>match M[n]? with
  |none=>none
  |some (.lst xs)=>match Zgt M i ns with
   |none=>none
   |some r=>match xs[i]?,r with | some x,some ds=>some (some (x :: ds)) | _,_=>some none
noncomputable def nxt (src:Src)(i:Nat)(M:Sto):Option (Option D):=match src with
 | .pur ds=>some ds[i]?
 | .sto n=>match M[n]? with | some (.lst xs)=>some xs[i]? | none=>none
 | .zip n m=>match M[n]?,M[m]? with
  |some (.lst xs),some (.lst ys)=>(match xs[i]?,ys[i]? with | some x,some y=>some (some (.tup [x,y])) | _,_=>some none)
  |_,_=>none
 | .enu n=>match M[n]? with | some (.lst xs)=>(match xs[i]? with | some x=>some (some (.tup [.int i,x])) | none=>some none) | none=>none
 | .dct n=>match M[n]? with | some (.lst (.non :: r))=>(match r[i]? with | some (.tup (k :: _))=>some (some k) | some _=>none | none=>some none) | _=>none
 | .zips ns=>match Zgt M i ns with | some (some ds)=>some (some (.tup ds)) | some none=>some none | none=>none
 | .rev n l=>match M[n]? with | some (.lst xs)=>if i < l then (match xs[l - 1 - i]? with | some x=>some (some x) | none=>none) else (if i=l then some none else none) | none=>none
noncomputable def cnt (src:Src)(M:Sto):Nat:=match src with
 | .pur ds=>ds.length
 | .sto n=>match M[n]? with | some (.lst xs)=>xs.length | none=>0
 | .zip n _=>match M[n]? with | some (.lst xs)=>xs.length | none=>0
 | .enu n=>match M[n]? with | some (.lst xs)=>xs.length | none=>0
 | .rev _ l=>l
 | .dct n=>match M[n]? with | some (.lst xs)=>xs.length | none=>0
 | .zips ns=>match ns with | n :: _=>(match M[n]? with | some (.lst xs)=>xs.length | none=>0) | []=>0
noncomputable def Ats (H:Hp)(α:List Addr):List Nat->List Addr->Prop
 | [],[]=>True
 |n :: ns,l :: ls=>RefK H α 0 n l/\Ats H α ns ls
 |_,_=>False
noncomputable def Zme (K:PySem.W.Frag)(H:Hp)(α:List Addr)(J:It)(src:Src):Prop:= ∀ (i:Nat) H' α' M',Ext K H H' α α'->HR K H' α' M'->match nxt src i M' with
 |some none=>J.stop i H'
 |some (some d)=>J.go i H'/\ ∀ x H'',J.yld i H' x H''->Ext K H' H'' α' α'/\HR K H'' α' M'/\Rep K H'' α' x d
 |none=>True
noncomputable def DI (X:Cx)(ξ:XK)(tg iter:Expr)(f:Ro->Sto->Out Src):Prop:= ∃ wi:TI,PI X tg iter wi/\ ∀ σ ρ H α M R,SR X.K H α σ ρ->HR X.K H α M->OG X.K (Zme X.K) H α ξ R (f ρ M)->wi σ H R
section
variable {X:Cx}{ξ:XK}{tg iter a b:Expr}{fs:Av}{f:Ev}{p pos:Pos}
noncomputable def iR1 (fs:Av):Ro->Sto->Out Src:=fun ρ M=>(fs ρ M).bind fun ds M1=>match ds with
 | [.int j]=>if -(2 ^ 62)<=j/\j < 2 ^ 62 then .ok (.pur (Zbq 0 j.toNat)) M1 else .bad
 |_=> .bad
theorem Zld {K:PySem.W.Frag}{H:Hp}{α:List Addr}{lo:Int}{n:Nat}:Zme K H α (Itr lo n) (.pur (Zbq lo n)):=by
 intro i H' α' M' ex hr;show match some (Zbq lo n)[i]? with | some none=>_ | some (some d)=>_ | none=>True
 by_cases h:i < n
 ·rw[ZeM h]
  refine ⟨h,fun x H'' y=> ?_⟩
  obtain ⟨e1,e2⟩:=y
  subst e1 e2;exact ⟨Ext.refl,hr,.int _⟩
 ·rw[List.getElem?_eq_none (by rw[ZcR];omega)]
  exact Nat.le_of_not_lt h
noncomputable def iSq (f:Ev):Ro->Sto->Out Src:=fun ρ M=>(f ρ M).bind fun d M1=>match d with
 | .tup ds=> .ok (.pur ds) M1
 | .rol ds=> .ok (.pur ds) M1
 | .con ds=> .ok (.pur ds) M1
 | .ref n=> .ok (.sto n) M1
 |_=> .bad
theorem ZcF (ha:DE X ξ a f):DI X ξ tg a (iSq f):=by
 obtain ⟨ta,pa,qa⟩:=ha
 refine ⟨_,Zi5 pa,fun σ ρ H α M R s hh q=>qa σ ρ H α M _ s hh (OG.seq q fun d M1 v H1 α1 e1 h1 r1 w1=> ?_)⟩
 cases r1 with
 | @tup p xs ds hp rp=>
  refine ⟨p,rfl,.inr ⟨⟨xs,(SqT.of hp)⟩,w1 (Itt X.K p) H1 α1 Ext.refl h1 ?_⟩⟩
  intro i H' α' M' ex hr;show match some ds[i]? with | some none=>_ | some (some d)=>_ | none=>True
  cases ei:ds[i]? with
  |none=>exact ⟨xs,SqT.of (ex.tup _ _ hp),by rw[rp.length];exact List.getElem?_eq_none_iff.mp ei⟩
  |some d=>
   obtain ⟨v,k1,k2⟩:=rp.get ei
   refine ⟨⟨xs,v,SqT.of (ex.tup _ _ hp),k1⟩,fun x H'' y=> ?_⟩
   obtain ⟨ey,y⟩:=y
   have z:=y xs (SqT.of (ex.tup _ _ hp))
   rw[k1] at z;cases z
   subst ey;exact ⟨Ext.refl,hr,Rep.mono ex k2⟩
 | @con p xs ds hp rp=>
  refine ⟨p,rfl,.inr ⟨⟨xs,hp.sq⟩,w1 (Itt X.K p) H1 α1 Ext.refl h1 ?_⟩⟩
  intro i H' α' M' ex hr;show match some ds[i]? with | some none=>_ | some (some d)=>_ | none=>True
  cases ei:ds[i]? with
  |none=>exact ⟨xs,hp.sq,by rw[rp.length];exact List.getElem?_eq_none_iff.mp ei⟩
  |some d=>
   obtain ⟨v,k1,k2⟩:=rp.get ei
   refine ⟨⟨xs,v,hp.sq,k1⟩,fun x H'' y=> ?_⟩
   obtain ⟨ey,y⟩:=y
   have z:=y xs hp.sq
   rw[k1] at z;cases z
   subst ey;exact ⟨Ext.refl,hr,Rep.mono ex k2⟩
 | @rol p xs ds hp rp=>
  refine ⟨p,rfl,.inl ⟨⟨xs,hp.sq⟩,w1 (Itl X.K p) H1 α1 Ext.refl h1 ?_⟩⟩
  intro i H' α' M' ex hr;show match some ds[i]? with | some none=>_ | some (some d)=>_ | none=>True
  have hq:=(ex.rol _ _ hp).sq
  cases ei:ds[i]? with
  |none=>exact ⟨xs,hq,by rw[rp.length];exact List.getElem?_eq_none_iff.mp ei⟩
  |some d=>
   obtain ⟨v,k1,k2⟩:=rp.get ei
   refine ⟨⟨xs,v,hq,k1⟩,fun x H'' y=> ?_⟩
   obtain ⟨ey,y⟩:=y
   have z:=y xs hq
   rw[k1] at z;cases z
   subst ey;exact ⟨Ext.refl,hr,Rep.mono ex k2⟩
 | @ref p n hp=>
  obtain ⟨xs0,g0⟩:=h1.some_at hp
  refine ⟨p,rfl,.inl ⟨⟨xs0,SqL.of g0⟩,w1 (Itl X.K p) H1 α1 Ext.refl h1 ?_⟩⟩
  intro i H' α' M' ex hr;show match (match M'[n]? with | some (.lst xs)=>some xs[i]? | none=>none) with | some none=>_ | some (some d)=>_ | none=>True
  cases em:M'[n]? with
  |none=>exact True.intro
  |some so=>
   cases so with
   |lst ds=>
    obtain ⟨xs,g1,g2⟩:=hr.at (ex.get hp) em
    show match some ds[i]? with | some none=>_ | some (some d)=>_ | none=>True
    cases ei:ds[i]? with
    |none=>exact ⟨xs,SqL.of g1,by rw[g2.length];exact List.getElem?_eq_none_iff.mp ei⟩
    |some d=>
     obtain ⟨v,k1,k2⟩:=g2.get ei
     refine ⟨⟨xs,v,SqL.of g1,k1⟩,fun x H'' y=> ?_⟩
     obtain ⟨ey,y⟩:=y
     have z:=y xs (SqL.of g1)
     rw[k1] at z;cases z
     subst ey;exact ⟨Ext.refl,hr,k2⟩
 |_=>exact w1.elim
end
noncomputable def blk (X:Cx)(scope:Scope)(cl:List (Str × Addr))(N:List Str)(C:Addr)(fp:List Addr)(s:Shared)(H:Hp):Cx:=
 { X with N:=N,s₀:=s,H₀:=H,env:=compEnvC scope cl C X.env,outer:=X.stack,stack:=X.stack,ex:=fp,fn:=fun _=>false,pn:=[],xe:=fun _ _=>False,fxs:=none }
theorem ZaR {X:Cx}{scope:Scope}{cl:List (Str × Addr)}{N:List Str}{C:Addr}{fp:List Addr}{s:Shared}{H:Hp}:Thr (blk X scope cl N C fp s H) E0:=
 ⟨PassesOwn.never,fun _ _ _ _ _ _ _ ⟨_,_,_,_,_,_,_,_,_,_,_,_,_,q⟩=>q,fun _ _ _ _ _ _ _ _ _ _ _ _ _ _ _ _ _ _ _ _ _ _ q=>q⟩
noncomputable def Zcg (src:Src)(tg:Tg)(c:Tv)(f:Ev)(n:Nat):Nat->Nat->Ro->Sto->Out Unit
 |fuel,i,ρ,M=>match nxt src i M with
  |none=> .bad
  |some none=> .ok () M
  |some (some d)=>(match fuel with
   |0=> .bad
   |fuel + 1=>(match tg d ρ with
    |none=> .bad
    |some ρ1=>(match c ρ1 M with
     | .ok true M1=>(match f ρ1 M1 with
      | .ok x M2=>(match M2[n]? with
       |some (.lst xs)=>if xs.length < 10000000 then Zcg src tg c f n fuel (i + 1) ρ1 (M2.set n (.lst (xs ++ [x]))) else .bad
       |none=> .bad)
      |_=> .bad)
     | .ok false M1=>Zcg src tg c f n fuel (i + 1) ρ1 M1
     |_=> .bad)))
noncomputable def roB (k:Nat)(fr:List Nat)(ρ:Ro):Ro:=List.replicate k none ++ fr.map fun i=>(ρ[i]?).join
noncomputable def Zan (fi:Ro->Sto->Out Src)(k:Nat)(fr:List Nat)(tg:Tg)(c:Tv)(f:Ev):Ev:=fun ρ M=>(fi ρ M).bind fun src M1=>match Zcg src tg c f M1.length (cnt src M1) 0 (roB k fr ρ) (M1 ++ [.lst []]) with
 | .ok _ M2=> .ok (.ref M1.length) M2
 |_=> .bad
structure Blk (X:Cx) (scope:Scope) (cl:List (Str × Addr)) (N:List Str) (k:Nat) (fr:List Nat):Prop where
 clos:closureFor scope X.env=pure cl
 kind:scope.kind= .function
 cell: ∀ y∈scope.names,y.2≠ .cell
 names: ∀ y∈scope.names,y.2= .local->scope.names.lookup y.1=some .local
 sub: ∀ x c,cl.lookup x=some c->X.env.cells.lookup x=some c
 has: ∀ x,((relabel scope X.env).names.lookup x=some .cell\/(relabel scope X.env).names.lookup x=some .free)-> ∃ c,cl.lookup x=some c
 len:N.length=k + fr.length
 at_: ∀ (j i:Nat),fr[j]?=some i-> ∃ x,N[k + j]?=some x/\X.N[i]?=some x/\X.env.kindOf x=some .cell/\((relabel scope X.env).names.lookup x=some .cell\/(relabel scope X.env).names.lookup x=some .free)/\cl.lookup x=X.env.cells.lookup x
theorem ZdC {prog:Program}{w:World}{A:Around}{R:Result->Shared->Prop}{s:Shared}{elt target iter:Expr}{ifs:List Expr}{scope:Scope}{pos:Pos}{it acc:Value}{env:Env}(I:Nat->Shared->Prop)
  (turn: ∀ n s,I n s->wpAny (model prog w) A (pyNext it) (fun r s₁=>match r with
   |none=>R (.ok .next) s₁
   |some v=>wpAny (model prog w) A (letOwnedTupleGo target it v) (fun _ s₁=>wpAny (model prog w) A (assign target env v) (fun _ s₂=>
     wpAny (model prog w) A (forIn ifs true fun c r=>if r=true then do let ok <- isTrue c env (eval c env);pure (ForInStep.yield ok) else pure (ForInStep.yield r)) (fun ok s₃=>
      if ok=true then wpAny (model prog w) A (eval elt env) (fun x s₄=>
       wpAny (model prog w) A (call (.builtin "list.append") [acc,x]) (fun _ s₅=> ∃ m,m < n/\I m s₅) (fun _ _=>False) s₄) (fun _ _=>False) s₃
      else ∃ m,m < n/\I m s₃) (fun _ _=>False) s₂) (fun _ _=>False) s₁) (fun _ _=>False) s₁) (fun _ _=>False) s)
  (n:Nat) (h:I n s):
  codeAny (model prog w) A (.compLoop (.ListComp elt [⟨target,iter,ifs,0⟩] scope pos) 0 it acc env) R s:=by
 refine codeAny_loop rfl I (fun n s hI=> ?_) n h
 show wpAny _ A ((compTurn (.ListComp elt [⟨target,iter,ifs,0⟩] scope pos) 0 it acc env).onRaise (fun x=>do noteFrame x env;theTreesLotGoes x)) _ _ s
 refine wpAny_noted ?_
 rw[compTurn_list];refine wpAny_bind (wpAny_standAt (wpAny_bind (wpAny_mono (turn n s hI) (fun r s₁ h₁=> ?_) fun _ _ h'=>h'.elim)))
 cases r with
 |none=>exact wpAny_pure h₁
 |some v=>
  refine wpAny_bind (wpAny_mono h₁ (fun _ s₁ h₁=> ?_) fun _ _ h'=>h'.elim)
  refine wpAny_bind (wpAny_mono h₁ (fun _ s₂ h₂=>wpAny_bind (wpAny_mono h₂ (fun ok s₃ h₃=> ?_) fun _ _ h'=>h'.elim)) fun _ _ h'=>h'.elim)
  cases ok with
  |false=>exact wpAny_pure ⟨rfl,h₃⟩
  |true=>
   exact wpAny_bind (wpAny_bind (wpAny_mono h₃ (fun x s₄ h₄=>wpAny_bind (wpAny_mono h₄ (fun _ s₅ h₅=>wpAny_pure (wpAny_pure ⟨rfl,h₅⟩)) fun _ _ h'=>h'.elim)) fun _ _ h'=>h'.elim))
noncomputable def DC (X:Cx)(ifs:List Expr)(c:Tv):Prop:=(ifs=[]/\c=fun _ M=> .ok true M)\/ ∃ e,ifs=[e]/\DT X E0 e c
section
variable {X:Cx}{ξ:XK}{tg iter elt:Expr}{ifs:List Expr}{scope:Scope}{cl:List (Str × Addr)}{N:List Str}{k:Nat}{fr:List Nat}{fi:Ro->Sto->Out Src}{gt:Tg}{c:Tv}{f:Ev}{pos:Pos}
theorem Zgu (B:Blk X scope cl N k fr){pins:List (Addr × Obj)}{σ:L2.St}{H:Hp}{s:Shared}{fp:List Addr}(I:Inv X pins σ H s)(hf: ∀ b∈fp,Zc9 X pins H b)(hlt: ∀ b∈fp,b < s.heap.objs.size):(blk X scope cl N s.heap.objs.size fp s H).Ok where
 mod:=I.ok.mod
 kind:=B.kind
 glob:=I.ok.glob
 blt:=I.ok.blt
 above:=Nat.le_refl _
 inj:=fun x y c h1 h2=>I.ok.inj x y c (B.sub x c h1) (B.sub y c h2)
 has:=fun x h=>B.has x h
 cab:=fun x c h=>(by cases h)
 hd:=I.ok.hd
 frames:=I.ok.frames
 stk:= .inl rfl
 exf:=fun b hb=>⟨Nat.ne_of_lt (hlt b hb),fun x c h=>(hf b hb).2.2.2.2.1 x c (B.sub x c h)⟩
 bs:=I.bs
 bsz:=Nat.le_trans I.ok.bsz I.sz
 noex:=fun b o e hb=>by
  rcases (hf b hb).2.2.2.1 with z | z
  ·exact I.ok.noex b o e z
  ·exact absurd (Nat.lt_of_lt_of_le (Heap.lt_size (I.ok.bs b o e).1) z) (Nat.lt_irrefl _)
 exfs:=fun b hb z=>by
  rcases List.mem_cons.mp (I.stkSub b z) with e | e
  ·exact (hf b hb).2.1 e
  ·exact (hf b hb).2.2.1 e
 funs:=I.stack
 frf:=I.stkFree
theorem join_some {α:Type}{o:Option (Option α)}{v:α}(h:o.join=some v):o=some (some v):=by
 cases o with
 |none=>cases h
 |some x=>cases x with
  |none=>cases h
  |some y=>cases h;rfl
theorem Zj0 {ρ:Ro}{i:Nat}{d:D}(h:(roB k fr ρ)[i]?=some (some d)): ∃ j r,i=k + j/\fr[j]?=some r/\ρ[r]?=some (some d):=by
 unfold roB at h
 by_cases hi:i < k
 ·rw[List.getElem?_append_left (by rw[List.length_replicate];exact hi)] at h
  have:=List.mem_of_getElem? h
  rw[List.mem_replicate] at this;cases this.2
 ·rw[List.getElem?_append_right (by rw[List.length_replicate];omega),List.length_replicate,List.getElem?_map] at h
  cases e:fr[i - k]? with
  |none=>rw[e] at h;cases h
  |some r=>
   rw[e] at h;exact ⟨i - k,r,by omega,e,join_some (Option.some.inj h)⟩
noncomputable def stB (k:Nat)(fr:List Nat)(σ:L2.St):L2.St:=List.replicate k none ++ fr.map fun i=>(σ[i]?).join
theorem Zj1 {σ:L2.St}{i:Nat}{d:V}(h:(stB k fr σ)[i]?=some (some d)): ∃ j r,i=k + j/\fr[j]?=some r/\σ[r]?=some (some d):=by
 unfold stB at h
 by_cases hi:i < k
 ·rw[List.getElem?_append_left (by rw[List.length_replicate];exact hi)] at h
  have:=List.mem_of_getElem? h
  rw[List.mem_replicate] at this;cases this.2
 ·rw[List.getElem?_append_right (by rw[List.length_replicate];omega),List.length_replicate,List.getElem?_map] at h
  cases e:fr[i - k]? with
  |none=>rw[e] at h;cases h
  |some r=>
   rw[e] at h;exact ⟨i - k,r,by omega,e,join_some (Option.some.inj h)⟩
theorem SR.blk {K:PySem.W.Frag}{H:Hp}{α:List Addr}{σ:L2.St}{ρ:Ro}(h:SR K H α σ ρ):SR K H α (stB k fr σ) (roB k fr ρ):=by
 refine ⟨by simp[stB,roB],fun i d e=> ?_⟩
 obtain ⟨j,r,rfl,e1,e2⟩:=Zj0 e
 obtain ⟨v,e3,e4⟩:=h.2 r d e2
 refine ⟨v,?_,e4⟩
 unfold stB;rw[List.getElem?_append_right (by rw[List.length_replicate];omega),List.length_replicate,List.getElem?_map,Nat.add_sub_cancel_left,e1]
 show some (σ[r]?).join=_
 rw[e3];rfl
theorem Zgv (B:Blk X scope cl N k fr){pins:List (Addr × Obj)}{σ:L2.St}{H:Hp}{s:Shared}{fp:List Addr}{h1:Heap}{tk:Nat}{m:Str->Option Value}(I:Inv X pins σ H s)(hf: ∀ b∈fp,Zc9 X pins H b)(hlt: ∀ b∈fp,b < s.heap.objs.size)
  (hn:h1.Ns s.heap.objs.size m) (hk: ∀ b o,s.heap.get? b=some o->h1.get? b=some o):Inv (blk X scope cl N s.heap.objs.size fp s H) [] (stB k fr σ) H { s with heap:=h1,toks:=tk } where
 ok:=Zgu B I hf hlt
 os:=rfl
 bare:=I.bare
 base:=Un.kept hk
 loc:=by
  refine ⟨m,hn,fun i x v e1 e2 e3=> ?_⟩
  obtain ⟨j,r,rfl,g1,g2⟩:=Zj1 e2
  obtain ⟨y,k1,k2,k3,k4,k5⟩:=B.at_ j r g1
  have exy:x=y:=Option.some.inj (e1.symm.trans k1)
  subst exy;obtain ⟨m0,hm0,hl⟩:=I.loc
  obtain ⟨u,ru,lk⟩:=hl r x v k2 g2 (.inr (.inl k3))
  refine ⟨u,ru,?_⟩
  rcases lk with ⟨z,_⟩ | ⟨_,c,z1,⟨o,z2,z3⟩⟩
  ·rw[k3] at z;cases z
  ·exact .inr ⟨k4,c,k5.trans z1,⟨o,hk _ _ z2,z3⟩⟩
 cell:=fun x c h=>by
  obtain ⟨v,o,e1,e2⟩:=I.cell x c (B.sub x c h)
  exact ⟨v,o,hk _ _ e1,e2⟩
 free:=I.fresh
 freeC:=fun x c h=>I.freeC x c (B.sub x c h)
 pin:=fun p hp=>(by simp[blk] at hp)
 hok:=I.hok.kept hk
 len:=by
  show (stB k fr σ).length=N.length
  rw[B.len]
  simp[stB]
 qd:=I.qd
 fx:= .free rfl
theorem ZeP {pins:List (Addr × Obj)}{σ σ5:L2.St}{H3 H5:Hp}{s3 s6:Shared}{fp:List Addr}(B:Blk X scope cl N k fr)(I3:Inv X pins σ H3 s3)(f3: ∀ b∈fp,Zc9 X pins H3 b)(I6:Inv (blk X scope cl N s3.heap.objs.size fp s3 H3) [] σ5 H5 s6):Inv X pins σ H5 s6/\ ∀ (σ':L2.St) (s8:Shared) (h':Heap),Inv X pins σ' H5 s8->(∀ b o,b≠s3.heap.objs.size->s8.heap.get? b=some o->h'.get? b=some o)->Inv X pins σ' H5 { s8 with heap:=h',toks:=s8.toks }:=by
 refine ⟨I3.call' (s':=s6) (ch:=fp) I6.os I6.base I6.hok I6.bare fun b hb=> ?_,fun σ' s8 h' I8 sb=> ?_⟩
 ·obtain ⟨_,z1,z2,z3,z4,z5⟩:=f3 b hb
  exact ⟨z3,z1,z4,z5⟩
 ·exact I8.turned (it:=s3.heap.objs.size) sb I6.free (Nat.ne_of_gt I3.lt) (.inr I3.sz)
   (fun x c h z=>by
    obtain ⟨v,o,e,_⟩:=I3.cell x c h
    exact absurd (Heap.lt_size e) (by rw[z];exact Nat.lt_irrefl _)) (fun p hp z=>by
    have:=(I3.pin p hp).1
    exact absurd (Heap.lt_size this) (by rw[z];exact Nat.lt_irrefl _))
noncomputable def CmI (Y:Cx)(fp:List Addr)(tn:Nat->Heap->Prop)(H3:Hp)(α3:List Addr)(g:Nat->Nat->Ro->Sto->Prop)(n:Nat)(s':Shared):Prop:=
 ∃ i σ' ρ' H' α' M',Inv Y [] σ' H' s'/\tn i s'.heap/\(∀ b∈fp,H' b=none)/\SR Y.K H' α' σ' ρ'/\HR Y.K H' α' M'/\Ext Y.K H3 H' α3 α'/\g n i ρ' M'
theorem ZeQ {Y:Cx}{fp α3:List Addr}{it D:Addr}{tn:Nat->Heap->Prop}{J:It}{tg iter elt:Expr}{ifs:List Expr}{scope:Scope}{pos:Pos}{gt:Tg}{c:Tv}{f:Ev}{src:Src}{H3:Hp}{σ0:L2.St}{ρ0:Ro}{M3 M9:Sto}{u9:Unit}{n0 fuel:Nat}{s4:Shared}{R:Result->Shared->Prop}
  (T:Turn Y.prog Y.w Y.K Y.A tg J fp it tn) (hxe: ∀ x y,Y.xe x y->False) (fp5: ∀ {H':Hp},(∀ b∈fp,H' b=none)-> ∀ b∈fp,Zc9 Y [] H' b) (hg:DG Y tg gt) (tst:DC Y ifs c) (he:DE Y E0 elt f)
  (sc:Zme Y.K H3 α3 J src) (aD:RefK H3 α3 0 n0 D) (I4:Inv Y [] σ0 H3 s4) (st4:tn 0 s4.heap) (fr4: ∀ b∈fp,H3 b=none) (sr:SR Y.K H3 α3 σ0 ρ0) (h3:HR Y.K H3 α3 M3) (er:Zcg src gt c f n0 fuel 0 ρ0 M3= .ok u9 M9)
  (post: ∀ σ5 H5 α5 s6,Inv Y [] σ5 H5 s6->Ext Y.K H3 H5 α3 α5->HR Y.K H5 α5 M9->R (.ok .next) s6):
  codeAny (model Y.prog Y.w) Y.A (.compLoop (.ListComp elt [⟨tg,iter,ifs,0⟩] scope pos) 0 (.ref it) (.ref D) Y.env) R s4:=by
 obtain ⟨tt,pt,qt⟩:=hg
 obtain ⟨te,pe,qe⟩:=he
 refine ZdC (CmI Y fp tn H3 α3 fun n i ρ' M'=>Zcg src gt c f n0 n i ρ' M'= .ok u9 M9) ?_ fuel ⟨0,σ0,ρ0,H3,α3,M3,I4,st4,fr4,sr,h3,Ext.refl,er⟩
 rintro n s5 ⟨i,σ5,ρ5,H5,α5,M5,I5,st5,fr5,sr5,hr5,ex5,en⟩
 have src5:=sc i H5 α5 M5 ex5 hr5
 rw[Zcg] at en;cases ex:nxt src i M5 with
 |none=>rw[ex] at en;cases en
 |some od=>
  rw[ex] at src5 en;cases od with
  |none=>
   cases en
   have fin:=T.done Y rfl rfl rfl rfl i [] s5 σ5 H5 (fun _ _=>False) I5 (fp5 fr5) st5 src5
   refine thn fin fun r s6 w6=> ?_
   obtain ⟨hr6,I6⟩:=w6
   subst hr6;exact post σ5 H5 α5 s6 I6 ex5 hr5
  |some d=>
   obtain ⟨go,yl⟩:=src5
   cases n with
   |zero=>cases en
   |succ n=>
    simp only at en
    have itm:=T.item Y rfl rfl rfl rfl i [] s5 σ5 H5 (fun _ _=>False) I5 (fp5 fr5) st5 go
    refine thn itm fun r s6 ⟨u,hr6,w6⟩=> ?_
    subst hr6;refine thn w6 fun _ s7 ⟨x,H7,I7,r7,y7,st7,fr7⟩=> ?_
    obtain ⟨ex7,hr7,rp7⟩:=yl x H7 y7
    have sr5:=sr5.mono ex7
    have hr5:=hr7
    have ex5:=ex5.trans ex7
    have I7':=I7.pinned (fp5 fr7) (T.obj _ _ st7)
    cases eg:gt d ρ5 with
    |none=>rw[eg] at en;cases en
    |some ρ6=>
     rw[eg] at en
     simp only at en
     have asg:=pt _ s7 σ5 H7 x u _ I7' r7 (qt x d σ5 ρ5 H7 α5 ρ6 (fun σ' H'=>H'=H7/\SR Y.K H7 α5 σ' ρ6) sr5 rp7 eg fun σ' s'=>⟨rfl,s'⟩)
     refine wpAny_mono asg (fun _ s8 ⟨σ8,H8,I8,z8,sr8⟩=> ?_) (fun x y z=>hxe x y z)
     subst z8;have again: ∀ {σ9:L2.St} {H9:Hp} {s9:Shared},Inv Y ([] ++ ZcB fp s7.heap) σ9 H9 s9->Inv Y [] σ9 H9 s9/\tn (i + 1) s9.heap/\ ∀ b∈fp,H9 b=none:=fun {σ9 H9 s9} I9=>by
      refine ⟨I9.unpinned,T.keep _ _ _ st7 fun b hb o e=>(I9.pin (b,o) (List.mem_append_right _ (List.mem_append_right _ (Za1 hb e)))).1,fun b hb=> ?_⟩
      obtain ⟨o,e,_⟩:=T.obj _ _ st7 b hb
      exact (I9.pin (b,o) (List.mem_append_right _ (List.mem_append_right _ (Za1 hb e)))).2.1
     have after: ∀ (kk:Bool) (M8:Sto) (H9:Hp) (α9:List Addr) (s9:Shared),Inv Y ([] ++ ZcB fp s7.heap) σ8 H9 s9->Ext Y.K H8 H9 α5 α9->HR Y.K H9 α9 M8->c ρ6 M5= .ok kk M8->
       (if kk=true then wpAny (model Y.prog Y.w) Y.A (eval elt Y.env) (fun x s₄=>wpAny (model Y.prog Y.w) Y.A (call (.builtin "list.append") [.ref D,x]) (fun _ s₅=> ∃ m,m < n + 1/\CmI Y fp tn H3 α3 (fun n i ρ' M'=>Zcg src gt c f n0 n i ρ' M'= .ok u9 M9) m s₅) (fun _ _=>False) s₄) (fun _ _=>False) s9
        else ∃ m,m < n + 1/\CmI Y fp tn H3 α3 (fun n i ρ' M'=>Zcg src gt c f n0 n i ρ' M'= .ok u9 M9) m s9):=by
      intro kk M8 H9 α9 s9 I9 ex9 hr9 ec;rw[ec] at en;cases kk with
      |false=>
       obtain ⟨a1,a2,a3⟩:=again I9
       exact Zh1 ⟨n,Nat.lt_succ_self n,i + 1,σ8,ρ6,H9,α9,M8,a1,a2,a3,sr8.mono ex9,hr9,ex5.trans ex9,en⟩
      |true=>
       simp only at en
       refine Zh2 ?_
       cases ef:f ρ6 M8 with
       |exc x9 M10=>rw[ef] at en;cases en
       |bad=>rw[ef] at en;cases en
       |ok y M10=>
        rw[ef] at en
        simp only at en
        have ev:=pe _ s9 σ8 H9 (fun v H'=> ∃ α',Ext Y.K H9 H' α9 α'/\HR Y.K H' α' M10/\Rep Y.K H' α' v y) I9 (qe σ8 ρ6 H9 α9 M8 _ (sr8.mono ex9) hr9 (by
         rw[ef];exact fun v H' α' e h r=>⟨α',e,h,r⟩))
        refine wpAny_mono ev (fun yv s10 ⟨v,H10,I10,r10,α10,ex10,hr10,rp10⟩=> ?_) (fun x y z=>hxe x y z)
        cases em:M10[n0]? with
        |none=>rw[em] at en;cases en
        |some so=>
         cases so with
         |lst ds=>
          rw[em] at en
          simp only at en
          by_cases cz:ds.length < 10000000
          ·rw[if_pos cz] at en
           have aD10:=ex10.get (ex9.get (ex5.get aD))
           obtain ⟨xs,g1,g2⟩:=hr10.at aD10 em
           have ap:=Zdl (X:=Y) _ s10 σ8 H10 (.ref D) [v] (.ref D) [yv] (fun _ H'=>H'=upd H10 D (.lst (xs ++ [v]))) I10 rfl (.cons r10 .nil) ⟨D,xs,v,rfl,rfl,g1,by rw[g2.length];exact Nat.lt_of_lt_of_le cz (by decide),rfl⟩
           refine wpAny_mono ap (fun _ s11 ⟨v11,H11,I11,_,z11⟩=> ?_) (fun x y z=>hxe x y z)
           subst z11;obtain ⟨a1,a2,a3⟩:=again I11
           have exw:Ext Y.K H10 (upd H10 D (.lst (xs ++ [v]))) α10 α10:=Ext.wr g1
           exact ⟨n,Nat.lt_succ_self n,i + 1,σ8,ρ6,_,α10,_,a1,a2,a3,((sr8.mono ex9).mono ex10).mono exw,hr10.wr aD10 g1 (g2.append (.cons rp10 .nil)),((ex5.trans ex9).trans ex10).trans exw,en⟩
          ·rw[if_neg cz] at en
           cases en
     rcases tst with ⟨rfl,ec⟩ | ⟨e,rfl,tt',ptt,qtt⟩
     ·refine wpAny_tests_nil ?_
      exact after true M5 H8 α5 s8 I8 Ext.refl hr5 (by rw[ec])
     ·refine wpAny_tests_one ?_
      cases ec:c ρ6 M5 with
      |exc x9 M10=>rw[ec] at en;cases en
      |bad=>rw[ec] at en;cases en
      |ok kk M8=>
       have tv':=ptt _ s8 σ8 H8 (fun b H'=>b=kk/\ ∃ α',Ext Y.K H8 H' α5 α'/\HR Y.K H' α' M8) I8 (qtt σ8 ρ6 H8 α5 M5 _ sr8 hr5 (by
        rw[ec];exact fun v H' α' e h r=>⟨r,α',e,h⟩))
       refine wpAny_mono tv' (fun b s9 ⟨H9,I9,zb,α9,ex9,hr9⟩=> ?_) (fun x y z=>hxe x y z)
       subst zb;exact after b M8 H9 α9 s9 I9 ex9 hr9 ec
theorem Zch (B:Blk X scope cl N k fr)(hi:DI X ξ tg iter fi)(hg: ∀ C fp s H,DG (blk X scope cl N C fp s H) tg gt)(ht: ∀ C fp s H,DC (blk X scope cl N C fp s H) ifs c)(he: ∀ C fp s H,DE (blk X scope cl N C fp s H) E0 elt f)
  (hs: ∀ x,foldedSetIterable iter X.env x=pure x:=by intro _;rfl):DE X ξ (.ListComp elt [⟨tg,iter,ifs,0⟩] scope pos) (Zan fi k fr gt c f):=by
 obtain ⟨wi,pi,qi⟩:=hi
 refine ⟨fun σ H Q=> ∃ ρ α M,SR X.K H α σ ρ/\HR X.K H α M/\OP X.K H α ξ Q (Zan fi k fr gt c f ρ M),?_,fun σ ρ H α M Q s h q=>⟨ρ,α,M,s,h,q⟩⟩
 rintro pins s σ H Q I ⟨ρ,α,M,sr,hr,op⟩
 rw[eval_ListComp];refine wpAny_comprehension_free (use:=none) rfl hs B.clos B.kind B.names ?_
 refine thn (pi pins s σ H (fun J H2=> ∃ α2 M2 src,Ext X.K H H2 α α2/\HR X.K H2 α2 M2/\Zme X.K H2 α2 J src/\OP X.K H2 α2 ξ Q (match Zcg src gt c f M2.length (cnt src M2) 0 (roB k fr ρ) (M2 ++ [.lst []]) with | .ok _ M2'=> .ok (.ref M2.length) M2' | _=> .bad)) I
  (qi σ ρ H α M _ sr hr (OG.seq op fun src M1 J H1 α1 e1 h1 r1 q1=>⟨α1,M1,src,e1,h1,r1,q1⟩))) fun v s1 w1=>thn w1 fun itv s2 w2=> ?_
 obtain ⟨it,fp,tn,J,H2,rfl,I2,T,st2,f2,α2,M2,src,e2,h2,sc,op2⟩:=w2
 have srI:=sr.mono e2
 refine wpAny_newObj_type ?_
 have I3:Inv X pins σ (upd H2 s2.heap.objs.size (.lst [])) { s2 with heap:=s2.heap.push { cls:= .type "list",data:= .seq ([]:List Value).toArray } }:=I2.lnew (its:=[]) (t':=s2.toks) .nil (Nat.zero_le _)
 have fD:H2 s2.heap.objs.size=none:=I2.fresh
 generalize hD:s2.heap.objs.size=D at I3 fD;generalize hs3:({ s2 with heap:=s2.heap.push { cls:= .type "list",data:= .seq ([]:List Value).toArray } }:Shared)=s3 at I3
 generalize hH3:upd H2 D (.lst [])=H3 at I3;have h3:HR X.K H3 (α2 ++ [D]) (M2 ++ [.lst []]):=by rw[<- hH3];exact h2.new fD .nil
 have e3:Ext X.K H2 H3 α2 (α2 ++ [D]):=by rw[<- hH3];exact Ext.new fD
 have aD:RefK H3 (α2 ++ [D]) 0 M2.length D:=⟨h2.last D,by first | exact Kn.lst Zm | (rw[<- hH3];exact Kn.lst Zm)⟩
 have lt2: ∀ b∈fp,b < s2.heap.objs.size:=fun b hb=>let ⟨o,e,_⟩:=T.obj _ _ st2 b hb;Heap.lt_size e
 have keep3: ∀ b o,s2.heap.get? b=some o->s3.heap.get? b=some o:=fun b o e=>by rw[<- hs3];exact Heap.get?_push_of_some _ e
 have f3: ∀ b∈fp,Zc9 X pins H3 b:=fun b hb=>⟨by rw[<- hH3,Zl (by rw[<- hD];exact Nat.ne_of_lt (lt2 b hb))];exact (f2 b hb).1,(f2 b hb).2⟩
 have lt3: ∀ b∈fp,b < s3.heap.objs.size:=fun b hb=>let ⟨o,e,_⟩:=T.obj _ _ st2 b hb;Heap.lt_size (keep3 b o e)
 have st3:tn 0 s3.heap:=T.keep _ _ _ st2 fun b _ o e=>keep3 b o e
 refine wpAny_newFunctionEnv B.cell (by intro y hy;simp at hy) (fun h₁ hns₁ hsb₁=> ?_) B.kind
 have keep4: ∀ b o,s3.heap.get? b=some o->h₁.get? b=some o:=fun b o e=>hsb₁.extBut b o (Nat.ne_of_lt (Heap.lt_size e)) (Heap.get?_push_of_some _ e)
 have I4:=Zgv (tk:=s3.toks + ([]:List (Str × Value)).length) B I3 f3 lt3 hns₁ keep4
 have st4:tn 0 h₁:=T.keep _ _ _ st3 fun b _ o e=>keep4 b o e
 have fp5: ∀ {H':Hp},(∀ b∈fp,H' b=none)-> ∀ b∈fp,Zc9 (blk X scope cl N s3.heap.objs.size fp s3 H3) [] H' b:=fun hn b hb=>⟨hn b hb,Nat.ne_of_lt (lt3 b hb),(Zgu B I3 f3 lt3).exfs b hb,.inl hb,fun x c h=>(f3 b hb).2.2.2.2.1 x c (B.sub x c h),fun p hp=>(by simp[blk] at hp)⟩
 cases er:Zcg src gt c f M2.length (cnt src M2) 0 (roB k fr ρ) (M2 ++ [.lst []]) with
 |exc x M9=>rw[er] at op2;exact op2.elim
 |bad=>rw[er] at op2;exact op2.elim
 |ok u9 M9=>
  rw[er] at op2;have loop:codeAny (model X.prog X.w) X.A (.compLoop (.ListComp elt [⟨tg,iter,ifs,0⟩] scope pos) 0 (.ref it) (.ref D) (compEnvC scope cl s3.heap.objs.size X.env)) (compPost (model X.prog X.w) X.A X.xe none (EP X pins σ Q) (.ref D) s3.heap.objs.size) { s3 with heap:=h₁,toks:=s3.toks + ([]:List (Str × Value)).length }:=by
   refine ZeQ (Y:=blk X scope cl N s3.heap.objs.size fp s3 H3) T (fun _ _ z=>z) fp5 (hg _ fp s3 H3) (ht _ fp s3 H3) (he _ fp s3 H3) (fun i H' α' M' ex hr=>sc i H' α' M' (e3.trans ex) hr) aD I4 st4 (fun b hb=>(f3 b hb).1) ((srI.blk).mono e3) h3 er ?_
   intro σ5 H5 α5 s6 I6 ex5 hr5;obtain ⟨I7,I8⟩:=ZeP B I3 f3 I6
   obtain ⟨m6,hm6,_⟩:=id I6.loc
   exact ⟨m6,hm6,fun h' sb=>⟨.ref D,H5,I8 σ s6 h' I7 (fun b o hb e=>(sb.2 b hb).trans e),rfl,op2 _ H5 α5 (e3.trans ex5) hr5 (.ref (ex5.get aD))⟩⟩
  exact codeAny_compStart_list loop (T.self X.A 0 _ _ _ st4 loop)
end
end DL
end
section
namespace DL
open PySem PySem.Spec PyProof.Rows L2
theorem Zmf {names:List (Str × NameKind)}(h:names.all (fun y=>y.2 != .cell && y.2 != .free)=true)(x:Str): ¬ (names.lookup x=some .cell\/names.lookup x=some .free):=by
 induction names with
 |nil=>intro z;rcases z with z | z<;>simp at z
 |cons y r ih=>
  rw[List.all_cons,Bool.and_eq_true] at h;obtain ⟨n,kd⟩:=y
  rw[List.lookup_cons];cases e:x == n with
  |true=>
   simp only
   intro z;have h1:=h.1
   rcases z with z | z<;>(cases z;simp at h1)
  |false=>exact ih h.2
theorem Zib {names:List (Str × NameKind)}{env:Env}(h:names.all (fun y=>y.2 != .cell && y.2 != .free)=true):
  (names.map fun (n,k)=>if (k == NameKind.free && env.scope.kind == .function && env.kindOf n == some .cell) then (n,NameKind.cell) else (n,k))=names:=by
 induction names with
 |nil=>rfl
 |cons y r ih=>
  rw[List.all_cons,Bool.and_eq_true] at h;obtain ⟨n,kd⟩:=y
  have hk:(kd == NameKind.free)=false:=by
   have h1:=h.1
   rw[Bool.and_eq_true] at h1;have h2:=h1.2
   cases kd<;>first | rfl | simp at h2
  rw[List.map_cons,ih h.2]
  simp[hk]
theorem Zle {X:Cx}{scope:Scope}{N:List Str}{k:Nat}(h:scope.names.all (fun y=>y.2 != .cell && y.2 != .free)=true)(hk:scope.kind= .function)(hn: ∀ y∈scope.names,y.2= .local->scope.names.lookup y.1=some .local)(hl:N.length=k):Blk X scope [] N k [] where
 clos:=closureFor_none fun y hy z=>by
  have:=List.all_eq_true.mp h y hy
  rw[z] at this
  simp at this
 kind:=hk
 cell:=fun y hy z=>by
  have:=List.all_eq_true.mp h y hy
  rw[z] at this
  simp at this
 names:=hn
 sub:=fun x c z=>(by cases z)
 has:=fun x z=>by
  have e:(relabel scope X.env).names=scope.names:=Zib h
  rw[e] at z;exact absurd z (Zmf h x)
 len:=hl
 at_:=fun j i z=>(by simp at z)
theorem Zea {env:Env}: ∀ (names:List (Str × NameKind)) (acc:List (Str × Addr)),(∀ y∈names,y.2= .free-> ∃ c,env.cells.lookup y.1=some c)->
  (forIn names acc fun (x:Str × NameKind) (cs:List (Str × Addr))=>if x.2 == NameKind.free then (do let a <- cellOf env x.1;pure (ForInStep.yield ((x.1,a) :: cs))) else (pure (ForInStep.yield cs):Sem _))=
   (pure (((names.filter fun y=>y.2 == .free).map fun y=>(y.1,(env.cells.lookup y.1).getD 0)).reverse ++ acc):Sem (List (Str × Addr)))
 | [],acc,_=>by simp
 | (n,kd) :: r,acc,h=>by
  rw[List.forIn_cons]
  by_cases hk:(kd == NameKind.free)=true
  ·obtain ⟨c,hc⟩:=h (n,kd) List.mem_cons_self (by simpa using hk)
   have e1:cellOf env n=pure c:=by unfold cellOf;rw[hc]
   have ih:=Zea r ((n,c) :: acc) fun y hy=>h y (List.mem_cons_of_mem _ hy)
   simp only[hk,if_true,e1,pure_bind];refine Eq.trans ih ?_
   simp[List.filter_cons,hk,hc]
  ·have ih:=Zea r acc fun y hy=>h y (List.mem_cons_of_mem _ hy)
   simp only[hk,if_false,pure_bind];refine Eq.trans ih ?_
   simp[List.filter_cons,hk]
noncomputable def clF (scope:Scope)(env:Env):List (Str × Addr):=((scope.names.filter fun y=>y.2 == .free).map fun y=>(y.1,(env.cells.lookup y.1).getD 0)).reverse
theorem ZcG {env:Env}: ∀ {l:List (Str × NameKind)} {x:Str} {c:Addr},(l.map fun y=>(y.1,(env.cells.lookup y.1).getD 0)).lookup x=some c->c=(env.cells.lookup x).getD 0/\ ∃ y∈l,y.1=x
 | [],x,c,h=>by simp at h
 |y :: r,x,c,h=>by
  rw[List.map_cons,List.lookup_cons] at h;cases e:x == y.1 with
  |true=>
   rw[e] at h;have ex:x=y.1:=by simpa using e
   cases h
   exact ⟨by rw[ex],y,List.mem_cons_self,ex.symm⟩
  |false=>
   rw[e] at h;obtain ⟨h1,z,h2,h3⟩:=ZcG h
   exact ⟨h1,z,List.mem_cons_of_mem _ h2,h3⟩
theorem Zbr {α:Type}: ∀ {l:List (Str × α)} {x:Str},(∃ y∈l,y.1=x)-> ∃ c,l.lookup x=some c
 | [],x,h=>by obtain ⟨y,h1,_⟩:=h;simp at h1
 |z :: r,x,h=>by
  rw[List.lookup_cons];cases e:x == z.1 with
  |true=>exact ⟨_,rfl⟩
  |false=>
   obtain ⟨y,h1,h2⟩:=h
   rcases List.mem_cons.mp h1 with q | q
   ·subst q;rw[h2] at e;simp at e
   ·exact Zbr ⟨y,q,h2⟩
theorem ZW {env:Env}(nc: ∀ n,env.scope.names.lookup n=env.kindOf n): ∀ {names:List (Str × NameKind)} {x:Str} {kd:NameKind},(names.map fun (n,k)=>if (k == NameKind.free && env.scope.kind == .function && env.kindOf n == some .cell) then (n,NameKind.cell) else (n,k)).lookup x=some kd->
  names.lookup x=some kd\/(names.lookup x=some .free/\kd= .cell)
 | [],x,kd,h=>by simp at h
 | (n,q) :: r,x,kd,h=>by
  rw[List.map_cons,List.lookup_cons] at h;rw[List.lookup_cons];dsimp only at h ⊢
  by_cases c:(q == NameKind.free && env.scope.kind == .function && env.kindOf n == some .cell)=true
  ·rw[if_pos c] at h
   dsimp only at h;cases e:x == n with
   |true=>
    rw[e] at h;cases h
    simp only[Bool.and_eq_true,beq_iff_eq] at c;exact .inr ⟨by rw[c.1.1],rfl⟩
   |false=>rw[e] at h;exact ZW nc h
  ·rw[if_neg c] at h
   dsimp only at h;cases e:x == n with
   |true=>rw[e] at h;exact .inl h
   |false=>rw[e] at h;exact ZW nc h
theorem ZaS {env:Env}: ∀ {names:List (Str × NameKind)} {x:Str},names.lookup x=some .free->(∃ kd,(kd=NameKind.cell\/kd=NameKind.free)/\(names.map fun (n,k)=>if (k == NameKind.free && env.scope.kind == .function && env.kindOf n == some .cell) then (n,NameKind.cell) else (n,k)).lookup x=some kd)
 | [],x,h=>by simp at h
 | (n,q) :: r,x,h=>by
  rw[List.lookup_cons] at h;rw[List.map_cons,List.lookup_cons]
  by_cases c:(q == NameKind.free && env.scope.kind == .function && env.kindOf n == some .cell)=true
  ·dsimp only
   rw[if_pos c];cases e:x == n with
   |true=>exact ⟨_,.inl rfl,rfl⟩
   |false=>rw[e] at h;exact ZaS h
  ·dsimp only
   rw[if_neg c];cases e:x == n with
   |true=>rw[e] at h;exact ⟨q,.inr (Option.some.inj h),rfl⟩
   |false=>rw[e] at h;exact ZaS h
noncomputable def ZqW (XN N:List Str)(dn sn:List (Str × NameKind))(k:Nat)(fr:List Nat):Bool:=
 (sn.all fun y=>y.2 != .cell && (y.2 != .free || dn.lookup y.1 == some .cell) && (y.2 != .local || sn.lookup y.1 == some .local)) && N.length == k + fr.length &&
  (List.range fr.length).all fun j=>match fr[j]? with
   |some i=>(match N[k + j]?,XN[i]? with | some x,some y=>x == y && dn.lookup x == some .cell && sn.lookup x == some .free | _,_=>false)
   |none=>false
theorem ZqX {X:Cx}{scope:Scope}{N:List Str}{k n:Nat}{fr:List Nat}{XN:List Str}{dn:List (Str × NameKind)}(hN:X.N=XN)(hd:X.env.scope.names=dn)(hc:X.env.cells=cellsFrom n dn [])(hk:scope.kind= .function)(h:ZqW XN N dn scope.names k fr=true):Blk X scope (clF scope X.env) N k fr:=by
 unfold ZqW at h;simp only[Bool.and_eq_true,List.all_eq_true,bne_iff_ne,ne_eq,Bool.or_eq_true,beq_iff_eq] at h;obtain ⟨⟨h1,h2⟩,h3⟩:=h
 have kind: ∀ x,X.env.kindOf x=dn.lookup x:=fun x=>by rw[<- hd];rfl
 have cel: ∀ x,dn.lookup x=some .cell-> ∃ c,X.env.cells.lookup x=some c:=fun x e=>by
  have:=PySem.W.cellsFrom_some dn n [] (.inl e)
  rw[hc];exact Option.isSome_iff_exists.mp this
 have frc: ∀ y∈scope.names,y.2= .free-> ∃ c,X.env.cells.lookup y.1=some c:=fun y hy e=>by
  rcases (h1 y hy).1.2 with z | z
  ·exact absurd e z
  ·exact cel _ z
 have sub: ∀ x c,(clF scope X.env).lookup x=some c->X.env.cells.lookup x=some c:=fun x c e=>by
  unfold clF at e;rw[<- List.map_reverse] at e;obtain ⟨e1,y,e2,e3⟩:=ZcG e
  have e4:=List.mem_filter.mp (List.mem_reverse.mp e2)
  obtain ⟨c',g⟩:=frc y e4.1 (by simpa using e4.2)
  rw[e3] at g;rw[g] at e1 ⊢;rw[e1];rfl
 have has: ∀ x,scope.names.lookup x=some .free-> ∃ c,(clF scope X.env).lookup x=some c:=fun x e=>by
  refine Zbr ?_
  have m:=PySem.mem_of_lookup e
  exact ⟨(x,(X.env.cells.lookup x).getD 0),List.mem_reverse.mpr (List.mem_map.mpr ⟨(x,.free),List.mem_filter.mpr ⟨m,by simp⟩,rfl⟩),rfl⟩
 refine ⟨?_,hk,fun y hy=>(h1 y hy).1.1,fun y hy e=> ?_,sub,fun x z=> ?_,h2,fun j i e=> ?_⟩
 ·have:=Zea (env:=X.env) scope.names [] frc
  rw[List.append_nil] at this;unfold closureFor;exact (congrArg (fun (m:Sem (List (Str × Addr)))=>m >>= fun cs=>(pure cs:Sem (List (Str × Addr)))) this).trans (pure_bind _ _)
 ·rcases (h1 y hy).2 with z | z
  ·exact absurd e z
  ·exact z
 ·have nc: ∀ m,X.env.scope.names.lookup m=X.env.kindOf m:=fun m=>rfl
  refine has x ?_
  rcases z with z | z
  ·rcases ZW nc z with q | q
   ·exact absurd rfl (h1 _ (PySem.mem_of_lookup q)).1.1
   ·exact q.1
  ·rcases ZW nc z with q | q
   ·exact q
   ·cases q.2
 ·have hj:j < fr.length:=(List.getElem?_eq_some_iff.mp e).1
  have q:=h3 j (List.mem_range.mpr hj)
  rw[e] at q;dsimp only at q;cases e1:N[k + j]? with
  |none=>rw[e1] at q;cases q
  |some x=>
   cases e2:XN[i]? with
   |none=>rw[e1,e2] at q;cases q
   |some y=>
    rw[e1,e2] at q;simp only[Bool.and_eq_true,beq_iff_eq] at q;obtain ⟨⟨q1,q2⟩,q3⟩:=q
    subst q1;obtain ⟨kd,r1,r2⟩:=ZaS (env:=X.env) q3
    obtain ⟨c,r3⟩:=has x q3
    refine ⟨x,rfl,by rw[hN];exact e2,by rw[kind];exact q2,?_,r3.trans (sub x c r3).symm⟩
    rcases r1 with r1 | r1
    ·exact .inl (r1 ▸ r2)
    ·exact .inr (r1 ▸ r2)
section
variable {X:Cx}{ξ:XK}
noncomputable def ZqY (X:Cx):List V->Hp->VK->Prop:=fun vs H Q=> ∃ (p:Addr) (bs:List Bool),vs=[.ref p]/\SqL X.K H p (bs.map V.bl)/\Q (.bl (bs.all id)) H
theorem ZdD: ∀ {bs:List Bool} {us:List Value} {i:Nat} {u:Value},ZK (bs.map V.bl) us->us[i]?=some u-> ∃ b,bs[i]?=some b/\u= .bool b
 | [],us,i,u,h,e=>by cases h;simp at e
 |b :: r,us,i,u,h,e=>by
  cases h with
  |cons h1 h2=>
   cases i with
   |zero=>simp at e;subst e;exact ⟨b,rfl,h1⟩
   |succ i=>simp at e;obtain ⟨b',g1,g2⟩:=ZdD h2 e;exact ⟨b',by simpa using g1,g2⟩
theorem Zfj (bs:List Bool):((List.range bs.length).all fun i=>(bs[i]?).getD true)=bs.all id:=by
 rw[Bool.eq_iff_iff,List.all_eq_true,List.all_eq_true]
 constructor
 ·intro h b hb
  obtain ⟨i,hi,e⟩:=List.getElem_of_mem hb
  have:=h i (List.mem_range.mpr hi)
  simp only[List.getElem?_eq_getElem hi,Option.getD_some,e] at this
  exact this
 ·intro h i hi
  have hi':=List.mem_range.mp hi
  simp only[List.getElem?_eq_getElem hi',Option.getD_some]
  exact h _ (List.getElem_mem hi')
theorem ZeR (hc:X.calm=true):Zbd X (.builtin "all") (ZqY X):=by
 intro pins s σ H vs us Q I rs ⟨p,bs,e,hl,q⟩;subst e;obtain ⟨u,rfl,ru⟩:=Zbz rs
 cases ru
 obtain ⟨its,hv,hp,hz⟩:=I.list hl
 have hlt:p < s.heap.objs.size:=by obtain ⟨_,e,_⟩:=hp.isList;exact Heap.lt_size e
 refine call_all_walk (wpAny_pyIter_list hp.isList ?_)
 refine ⟨s.heap.objs.size,[s.heap.objs.size,p],[s.heap.objs.size],its.toArray.size,_,_,fun i=>(bs[i]?).getD true,rfl,Walks.list (A:=X.A.in1) (I.ok.hd hc) _ p (Nat.ne_of_lt hlt) its.toArray,
  ⟨⟨_,Heap.get?_push_size _ rfl,rfl,rfl⟩,hp.isList.push _⟩,fun i v s' Q' E' hP hQ=> ?_,fun h' tk hk=> ?_⟩
 ·obtain ⟨b,e,rfl⟩:=ZdD (i:=i) (u:=v) hv (by simpa using hP)
  simp only[e,Option.getD_some] at hQ;exact wpAny_truthy_bool hQ
 ·have e:((List.range its.toArray.size).all fun i=>(bs[i]?).getD true)=bs.all id:=by
   rw[List.size_toArray,<- hv.length,List.length_map];exact Zfj bs
  rw[e];exact ⟨.bl (bs.all id),H,I.kept fun b o e=>hk b o (fun hm=>by rw[List.mem_singleton.mp hm] at e;exact Nat.lt_irrefl _ (Heap.lt_size e)) (Heap.get?_push_of_some _ e),rfl,q⟩
noncomputable def Z7:List D->Option (List Bool)
 | []=>some []
 | .bl b :: r=>match Z7 r with | some bs=>some (b :: bs) | none=>none
 |_ :: _=>none
theorem ZdE {K:PySem.W.Frag}{H:Hp}{α:List Addr}: ∀ {vs:List V} {ds:List D} {bs:List Bool},Reps K H α vs ds->Z7 ds=some bs->vs=bs.map V.bl
 |_,_,_,.nil,e=>by cases e;rfl
 |_,_,bs,.cons (d:=d) (ds:=ds) r t,e=>by
  cases r with
  |bl b=>
   cases e1:Z7 ds with
   |none=>simp only[Z7,e1] at e;cases e
   |some cs=>
    simp only[Z7,e1,Option.some.injEq] at e;subst e;rw[ZdE t e1];rfl
  |_=>cases e
noncomputable def bAll:List D->Sto->Out D:=fun ds M=>match ds with
 | [.ref n]=>(match M[n]? with | some (.lst xs)=>(match Z7 xs with | some bs=> .ok (.bl (bs.all id)) M | none=> .bad) | none=> .bad)
 |_=> .bad
theorem Zi8:CO X ξ (ZqY X) bAll:=by
 intro H α M vs ds Q h rs q
 match rs with
 | .nil=>exact q.elim
 | .cons r (.cons _ _)=>cases r<;>exact q.elim
 | .cons r .nil=>
  cases r with
  | @ref p n hp=>
   cases e1:M[n]? with
   |none=>simp only[bAll,e1] at q;exact q.elim
   |some so=>
    cases so with
    |lst es=>
     cases e2:Z7 es with
     |none=>simp only[bAll,e1,e2] at q;exact q.elim
     |some bs=>
      simp only[bAll,e1,e2] at q;obtain ⟨xs,g1,g2⟩:=h.at hp e1
      have:=ZdE g2 e2
      subst this;exact ⟨p,bs,rfl,SqL.of g1,q _ H α Ext.refl h (.bl _)⟩
  |_=>exact q.elim
end
section
variable {prog:Program}{w:World}{A:Around}{E:Value->Shared->Prop}{s:Shared}
theorem Zb1 {sl:Addr}{t:Tok}{n:Nat}{Q:Int × Int × Nat->Shared->Prop}(hs:s.heap.IsSliceOf sl .none .none (.int (-1) t))(h:Q ((n:Int) - 1,-1,n) s):wpAny (model prog w) A (Builtin.Slice.sliceApplied (.ref sl) (pure (n:Int))) Q E s:=by
 obtain ⟨os,hos,hcs,hds⟩:=id hs
 unfold Builtin.Slice.sliceApplied Builtin.Slice.sliceFields;refine wpAny_bind (wpAny_bind (wpAny_field hos hds (x:= .none) rfl (wpAny_bind (wpAny_field hos hds (x:= .none) rfl (wpAny_bind (wpAny_field hos hds (x:= .int (-1) t) rfl (wpAny_pure ?_)))))))
 refine wpAny_bind (HT.Zar (.int (-1) t) ?_)
 show wpAny _ _ (if ((-1:Int) == 0)=true then _ else _) _ _ s
 rw[if_neg (by decide)]
 refine wpAny_bind (HT.Zar .none (wpAny_bind (HT.Zar .none (wpAny_bind (wpAny_pure ?_)))))
 have e1:Builtin.Slice.sliceAdjust none none (-1) (n:Int)=((n:Int) - 1,-1):=rfl
 have e2:Builtin.Slice.slicePlaces ((n:Int) - 1) (-1) (-1)=n:=by
  unfold Builtin.Slice.slicePlaces;rw[if_neg (by decide)]
  by_cases c:0 < n
  ·rw[if_pos (by omega)]
   have:((n:Int) - 1 - -1 - 1) / (- -1) + 1=n:=by
    rw[show (- -1:Int)=1 from rfl,Int.ediv_one];omega
   rw[this];omega
  ·rw[if_neg (by omega)]
   omega
 show wpAny _ _ (match Builtin.Slice.sliceAdjust none none (-1) (n:Int) with | (lo,hi)=>pure (lo,(-1:Int),Builtin.Slice.slicePlaces lo hi (-1))) _ _ s
 rw[e1];show wpAny _ _ (pure ((n:Int) - 1,(-1:Int),Builtin.Slice.slicePlaces ((n:Int) - 1) (-1) (-1))) _ _ s
 rw[e2];exact wpAny_pure h
theorem ZcS {α β:Type}{f g:α->Option β}: ∀ {l:List α},(∀ m∈l,f m=g m)->l.filterMap f=l.filterMap g
 | [],_=>rfl
 |x :: r,h=>by
  rw[List.filterMap_cons,List.filterMap_cons,h x List.mem_cons_self,ZcS fun m hm=>h m (List.mem_cons_of_mem _ hm)]
theorem ZeS (xs:Array Value):((List.range xs.size).filterMap fun (m:Nat)=>xs[((xs.size:Int) - 1 + (m:Int) * (-1)).toNat]?).toArray=xs.toList.reverse.toArray:=by
 congr 1
 apply List.ext_getElem?
 intro i;have all:(List.range xs.size).filterMap (fun (m:Nat)=>xs[((xs.size:Int) - 1 + (m:Int) * (-1)).toNat]?)=(List.range xs.size).map fun m=>xs[xs.size - 1 - m]?.getD .none:=by
  rw[<- List.filterMap_eq_map];refine ZcS fun m hm=> ?_
  have hm':=List.mem_range.mp hm
  have e:((xs.size:Int) - 1 + (m:Int) * (-1)).toNat=xs.size - 1 - m:=by omega
  rw[e];have hlt:xs.size - 1 - m < xs.size:=by omega
  simp[hlt]
 rw[all]
 by_cases hi:i < xs.size
 ·have hlt:xs.size - 1 - i < xs.size:=by omega
  rw[List.getElem?_map,List.getElem?_range hi,List.getElem?_reverse (by simpa using hi)]
  simp[hlt]
 ·rw[List.getElem?_eq_none (by simpa using hi),List.getElem?_eq_none (by simpa using hi)]
theorem ZbD {t sl:Addr}{items:Array Value}{u:Tok}{Q:Value->Shared->Prop}(ht:IsTup s.heap t items)(hs:s.heap.IsSliceOf sl .none .none (.int (-1) u))
  (h:Q (.ref s.heap.objs.size) { s with heap:=s.heap.push { cls:= .type "tuple",data:= .seq items.toList.reverse.toArray } }) (hsz:items.size<=sizeLine):wpAny (model prog w) A (getItem (.ref t) (.ref sl)) Q E s:=by
 have htake:sizeOk (.seq items.toList.reverse.toArray):=by
  show items.toList.reverse.toArray.size<=sizeLine
  rw[List.size_toArray,List.length_reverse,Array.length_toList];exact hsz
 obtain ⟨os,hos,hcs,hds⟩:=id hs
 have hTs:s.TypeIs (.ref sl) "slice":=⟨os,hos,hcs⟩
 unfold getItem
 try with_reducible refine wpAny_holding ?_
 first | refine wpAny_bind (wpAny_pure ?_) | skip
 refine wpAny_bind (wpAny_sequenceKey ht.typeIs (by decide) ?_)
 refine wpAny_bind (wpAny_callSpecial?_slot (name:=Str.ofString "__getitem__") ht.typeIs PyProof.Rows.slot_tuple_getitem
  (wpAny_call_entry PyProof.Rows.slot_tuple_getitem ht.typeIs entry_tuple_getitem ?_ (args_tuple_getitem _ _)))
 show wpAny _ _ (Builtin.Tuple.tupleItemsOf (.ref t) >>= _) _ _ s
 refine wpAny_bind (tupleItemsOf_ ht ?_)
 refine wpAny_bind (wpAny_typeOf hTs ?_)
 rw[if_pos (by decide)]
 refine wpAny_bind (Zb1 hs ?_)
 have hno: ¬ ((((items.size:Int) - 1) == 0 && (-1:Int) == 1 && items.size == items.size)=true):=by
  intro q;rw[Bool.and_eq_true,Bool.and_eq_true] at q;exact absurd q.1.2 (by decide)
 show wpAny _ _ (if (((items.size:Int) - 1) == 0 && (-1:Int) == 1 && items.size == items.size)=true then _ else _) _ _ s
 rw[if_neg hno,ZeS]
 first
  |exact wpAny_bind (m:=Builtin.Tuple.tupleExact _) (wpAny_newObj_type (wpAny_pure ⟨_,rfl,wpAny_pure h⟩) htake)
  |exact wpAny_bind (m:=Builtin.Tuple.tupleExact _) (wpAny_newObj_type (wpAny_bind (wpAny_pure (wpAny_pure ⟨_,rfl,wpAny_pure h⟩))) htake)
  |exact wpAny_bind (wpAny_bind (m:=Builtin.Tuple.tupleExact _) (wpAny_newObj_type (wpAny_pure (wpAny_pure ⟨_,rfl,wpAny_pure h⟩)) htake))
  |exact wpAny_bind (wpAny_bind (m:=Builtin.Tuple.tupleExact _) (wpAny_newObj_type (wpAny_pure ⟨_,rfl,wpAny_pure h⟩) htake))
end
section
variable {X:Cx}{ξ:XK}{e:Expr}{f:Ev}{p2 p3 p4 pos:Pos}{j:Nat}
theorem Reps.rev {K:PySem.W.Frag}{H:Hp}{α:List Addr}: ∀ {vs:List V} {ds:List D},Reps K H α vs ds->Reps K H α vs.reverse ds.reverse
 |_,_,.nil=> .nil
 |_,_,.cons r t=>by
  rw[List.reverse_cons,List.reverse_cons];exact (Reps.rev t).append (.cons r .nil)
end
end DL
end
section
namespace DL
open PySem PySem.Spec PyProof.Rows L2
section
variable {X:Cx}{ξ:XK}
end
end DL
end
section
namespace DL
open PySem PySem.Spec PyProof.Rows L2
section
variable {M:Model}{A:Around}{E:Value->Shared->Prop}{s:Shared}
end
section
variable {X:Cx}{ξ:XK}{tg iter elt:Expr}{ifs:List Expr}{scope:Scope}{cl:List (Str × Addr)}{N:List Str}{k:Nat}{fr:List Nat}{fi:Ro->Sto->Out Src}{gt:Tg}{c:Tv}{f:Ev}{pos:Pos}
end
section
variable {X:Cx}{scope0:Scope}{cl0:List (Str × Addr)}{N0:List Str}{k0:Nat}{fr0:List Nat}{C:Addr}{fp:List Addr}{s:Shared}{H:Hp}{scope:Scope}{N:List Str}{k:Nat}{fr:List Nat}{dn:List (Str × NameKind)}
end
end DL
end
section
namespace DL
open PySem PySem.Spec PyProof.Rows L2
open PySem.W (nsIn excIn tailIn nsOkIn mroIn clsIn typeIn findIn specialIn takesIn kitOne Looks)
noncomputable abbrev bmV:List Value:=[.type "ValueError",.type "Exception",.type "BaseException",.type "object"]
noncomputable def Zcz (K:PySem.W.Frag)(c:Str):Option Addr:=match nsIn K mainGlobals c with | some (some (.ref C))=>some C | _=>none
theorem Zbs {K:PySem.W.Frag}{c:Str}{C:Addr}(h:Zcz K c=some C):nsIn K mainGlobals c=some (some (.ref C)):=by
 unfold Zcz at h
 split at h
 ·rename_i C' e;cases h;exact e
 ·cases h
noncomputable def Zmg (K:PySem.W.Frag)(c:Str):Bool:=match Zcz K c with
 |some C=>excIn K C bmV "ValueError.__new__" && findIn K (.ref C) "__getattribute__" == some (some (.builtin "BaseException.__getattribute__")) && findIn K (.ref C) "__getattr__" == some none && findIn K (.ref C) "__class__" == some (some (.builtin "object.__class__")) &&
  specialIn K (.builtin "object.__class__") "__get__" == some (some (.builtin "getset_descriptor.__get__")) && takesIn K (.builtin "object.__class__") == some true && mroIn K C (.type "BaseException") == some true && mroIn K C (.type "object") == some true && (clsIn K C).isSome
 |none=>false
noncomputable def Zj2 (K:PySem.W.Frag)(c:Str):Bool:=match Zcz K c with
 |some C=>findIn K (.ref C) "__getattribute__" == some (some (.builtin "BaseException.__getattribute__")) && findIn K (.ref C) "__getattr__" == some none && findIn K (.ref C) "__class__" == some (some (.builtin "object.__class__")) &&
  specialIn K (.builtin "object.__class__") "__get__" == some (some (.builtin "getset_descriptor.__get__")) && takesIn K (.builtin "object.__class__") == some true && mroIn K C (.type "BaseException") == some true && mroIn K C (.type "object") == some true && (clsIn K C).isSome
 |none=>false
theorem Zou {K:PySem.W.Frag}{c:Str}(h:Zj2 K c=true): ∃ C,nsIn K mainGlobals c=some (some (.ref C))/\DQ.ExcC K C:=by
 unfold Zj2 at h
 split at h
 ·rename_i C e
  simp only[Bool.and_eq_true,beq_iff_eq] at h;obtain ⟨⟨⟨⟨⟨⟨⟨h2,h3⟩,h4⟩,h5⟩,h6⟩,h7⟩,h8⟩,h9⟩:=h
  exact ⟨C,Zbs e,h2,h3,h4,h5,h6,h7,h8,h9⟩
 ·cases h
theorem Zj3 {K:PySem.W.Frag}{c:Str}(h:Zmg K c=true): ∃ C,nsIn K mainGlobals c=some (some (.ref C))/\excIn K C bmV "ValueError.__new__"=true/\DQ.ExcC K C:=by
 unfold Zmg at h
 split at h
 ·rename_i C e
  simp only[Bool.and_eq_true,beq_iff_eq] at h;obtain ⟨⟨⟨⟨⟨⟨⟨⟨h1,h2⟩,h3⟩,h4⟩,h5⟩,h6⟩,h7⟩,h8⟩,h9⟩:=h
  exact ⟨C,Zbs e,h1,h2,h3,h4,h5,h6,h7,h8,h9⟩
 ·cases h
theorem Zj4 {K:PySem.W.Frag}{h:Heap}{C:Addr}{bmB:List Value}{newId:String}(X:K.In h)(q:excIn K C bmB newId=true):
  ∃ bm N nm q bs hdct sn sub ab col dd k0 k1 k2 k3 k5 mN,h.get? C=some (excClassObj nm q C N bs bm hdct sn sub ab col dd k0 k1 k2 k3 k5 newId)/\h.Ns N mN/\mN "__init__"=none/\OwnTail h bmB bm:=by
 unfold excIn at q
 split at q
 ·rename_i dd cd sl ho
  split at q
  ·rename_i C' bm k0 k1 k2 k3 n k5 hm hs
   simp only[Bool.and_eq_true,beq_iff_eq,Bool.not_eq_true'] at q;obtain ⟨⟨⟨⟨⟨rfl,rfl⟩,hdel⟩,ht⟩,hok⟩,hni⟩:=q
   obtain ⟨nm,bs,mro,ns,qn,hd,sn,sub,ab,col,del⟩:=cd
   dsimp only at hm hdel hok hni;subst hm hdel;obtain ⟨l⟩:=sl
   simp only at hs
   subst hs;exact ⟨bm,ns,nm,qn,bs,hd,sn,sub,ab,col,dd,k0,k1,k2,k3,k5,_,X _ _ ho,.of_isNs (PySem.W.isNs_of_in X hok),PySem.W.nsMap_none_of_in X hok hni,PySem.W.tail_of_in X ht⟩
  ·cases q
 ·cases q
noncomputable def Zgw (K:PySem.W.Frag)(d:Str)(cs:List Str):Bool:=match Zcz K d with
 |some D=>mroIn K D (.type "BaseException") == some true && typeIn K (.ref D) == some (.type "type") && (clsIn K D).isSome && cs.all fun c=>Zj2 K c && (match Zcz K c with | some C=>mroIn K C (.ref D) == some true | none=>false)
 |none=>false
theorem Zic {K:PySem.W.Frag}{c:Str}{C:Addr}(h:nsIn K mainGlobals c=some (some (.ref C))):Zcz K c=some C:=by
 unfold Zcz;rw[h]
noncomputable def ZqZ (tab:List (Str × Bool))(f:Ev):Ev:=fun ρ M=>(f ρ M).bind fun x M1=>match x with | .err c _=>(match tab.lookup c with | some b=> .ok (.bl b) M1 | none=> .bad) | _=> .bad
section
variable {X:Cx}{ξ:XK}{e:Expr}{fa:Ev}{p pos:Pos}{tab:List (Str × Bool)}
theorem Zi9 {P:Program}{w:World}{H:Hp}{h:Heap}{e:Addr}(k:HOk P w H h)(hn:h.get? e=none):H e=none:=by
 cases z:H e with
 |none=>rfl
 |some u=>obtain ⟨o,g⟩:=Zb4 (k e u z);rw[hn] at g;cases g
noncomputable def Zat (c:Str)(fs:Av):Sv:=fun ρ M=>ZP (fs ρ M) fun ds M1=>if ds.length<=1000 then .exc c M1 else .bad
theorem Zay {x:Str}{np cpos:Pos}{a:Expr}{as:List Expr}{fs:Av}(T:Thr X ξ)(hx:Zmg X.K x=true)(gl: ∀ c v,nsIn X.K mainGlobals c=some (some v)->X.mg c=some v)(hh:X.A.handled=none)(ha:DA X ξ (a :: as) fs)(hg:Gl X x:=by rfl)(hdb:(x == ("__debug__":Str))=false:=by decide)(hf:Zgg x=false:=by decide)
  (he:starEach (a :: as) X.env=(false,eval a X.env) :: starEach as X.env:=by rfl) (hpl:(backTo cpos (starEach as X.env)).any (·.1)=false:=by rfl):DS X ξ (.Raise (some (.Call (.Name x np) (a :: as) [] cpos)) none pos) (Zat x fs):=by
 obtain ⟨ta,pa,qa⟩:=ha
 obtain ⟨C,hC,hq,_⟩:=Zj3 hx
 refine ⟨fun Dn σ H=>ta σ H fun vs H1=>vs.length<=sizeLine/\ξ (.ref C) none H1,fun pins s σ H Dn I h=> ?_,fun σ ρ H α M Dn s h q=> ?_⟩
 ·obtain ⟨tl,N,nm,q,bs,hdct,sn,sub,ab,col,dd,k0,k1,k2,k3,k5,mN,gC,hN,hni,TL⟩:=Zj4 I.ok.mod.kin hq
  refine wpAny_Raise_call_subT (C:=C) (nm:=nm) (q:=q) (N:=N) (bs:=bs) (bm:=tl) (hdct:=hdct) (sn:=sn) (sub:=sub) (ab:=ab) (col:=col) (dd:=dd) (k0:=k0) (k1:=k1) (k2:=k2) (k3:=k3) (k5:=k5) F.excBase_ValueError (mN:=mN)
   (TL.hasType F.excBase_ValueError.hasBase) hh (by rw[he];show (false || (backTo cpos (starEach as X.env)).any (·.1))=false;rw[hpl];rfl) hni (ZcL I hg (gl x _ hC) ⟨rfl,?_⟩ hdb)
  have hs:=pa cpos pins s σ H _ I h
  rw[he] at hs ⊢;refine Calls.evalArgs_plain (wpAny_mono hs (fun us s2 ⟨vs,H1,I1,r1,z1,z2⟩=>⟨rfl,by rw[<- r1.length];exact z1,I1.bk _ _ gC,hN.keeps I1.bk,TL.keeps I1.bk,fun h' e m=> ?_⟩) fun _ _ y=>y)
  obtain ⟨t,g1,g2,g3⟩:=m.there
  exact T.mak pins σ H1 H1 s2 { s2 with heap:=h' } e _ _ C I1 rfl I1.bare (Un.kept m.keeps) (I1.hok.kept m.keeps) m.new g1 rfl rfl rfl rfl (Zi9 I1.hok m.new) z2
 ·refine qa σ ρ H α M _ s h (FP.seq q fun ds M1 vs H1 α1 e1 h1 r1 w1=> ?_)
  by_cases hl:ds.length<=1000
  ·rw[if_pos hl] at w1
   exact ⟨by rw[r1.length];exact ZjW hl,w1 C H1 α1 hC Ext.refl none (.inl ⟨hf,h1,rfl⟩)⟩
  ·rw[if_neg hl] at w1
   exact w1.elim
end
end DL
end
section
namespace DL
open PySem PySem.Spec PyProof.Rows L2
open PySem.W (nsIn excIn tailIn nsOkIn mroIn clsIn typeIn findIn specialIn takesIn kitOne Looks looks_mroIn looks_typeIn)
theorem Zgx {K:PySem.W.Frag}{e C D:Addr}{oe:Obj}{od:Option Obj}{b:Bool}{prog:Program}{w:World}{A:Around}{E:Value->Shared->Prop}{s:Shared}{Q:Bool->Shared->Prop}(X:K.In s.heap)(I:PySem.W.InstAt s.heap e oe C od)
  (hD:typeIn K (.ref D)=some (.type "type")) (hi:(clsIn K D).isSome=true) (hb:mroIn K D (.type "BaseException")=some true) (hm:mroIn K C (.ref D)=some b) (h:Q b s):wpAny (model prog w) A (excMatches (.ref e) (.ref D)) Q E s:=by
 obtain ⟨hh,g,d,tk,os⟩:=s
 have L0:=I.type (M:=model prog w)
 have L1:=looks_typeIn (M:=model prog w) X hD
 have L2:Looks (model prog w) hh (isInstance (.ref D) (.type "tuple")) false:=L1.andThen (Looks.of_pure tc_notTuple)
 have L3:Looks (model prog w) hh (isType (.ref D)) true:=by
  obtain ⟨cd,hc⟩:=Option.isSome_iff_exists.mp hi
  unfold clsIn at hc
  split at hc
  ·rename_i o1 o2 o3 o4 ho
   intro A' Q' E' s' k q;unfold isType loadHead;exact wpAny_bind (wpAny_loadPart (k _ _ (X _ _ ho)) (wpAny_pure q))
  ·cases hc
 have L4:=looks_mroIn (M:=model prog w) X hb
 have L5:=looks_mroIn (M:=model prog w) X hm
 have L6:Looks (model prog w) hh (isExcClass (.ref D)) true:=L3.andThen (by simpa using L4)
 unfold excMatches;refine wpAny_bind (L2.at ?_)
 simp only[Bool.false_eq_true,if_false];refine wpAny_bind (m:=forIn [Value.ref D] _ _) ?_
 rw[List.forIn_cons];refine wpAny_bind (wpAny_bind (L6.at ?_))
 simp only[Bool.not_true,Bool.false_eq_true,if_false];refine wpAny_pure ?_
 dsimp only;rw[List.forIn_nil];refine wpAny_pure (wpAny_bind (L0.at (wpAny_bind ?_)))
 rw[List.forIn_cons];refine wpAny_bind (wpAny_bind (L5.at ?_))
 cases b with
 |true=>exact wpAny_pure (wpAny_pure (wpAny_pure h))
 |false=>
  simp only[Bool.false_eq_true,if_false];refine wpAny_pure ?_
  dsimp only;rw[List.forIn_nil];exact wpAny_pure (wpAny_pure h)
noncomputable def Cx.han (X:Cx)(e:Addr):Cx:={ X with A:=X.A.mark (some (.ref e)),calm:=false,xe:=fun _ _=>False }
noncomputable def Cx.tri (X:Cx)(pn:List (Addr × Obj))(xe:Value->Shared->Prop)(W:List Bool)(σ:L2.St):Cx:={ X with pn:=pn,xe:=xe,fxs:=some (W,σ) }
section
variable {X:Cx}{pins pins' pn:List (Addr × Obj)}{σ:L2.St}{H H':Hp}{s:Shared}{xe:Value->Shared->Prop}{e:Addr}
theorem Zmh (ok:X.Ok):(Cx.han X e).Ok:=
 ⟨ok.mod,ok.kind,ok.glob,ok.blt,ok.above,ok.inj,ok.has,ok.cab,fun z=>(by cases z),ok.frames,ok.stk,ok.exf,ok.bs,ok.bsz,ok.noex,ok.exfs,ok.funs,ok.frf⟩
theorem Zid (ok:(Cx.han X e).Ok)(hh:X.A.handled=none):X.Ok:=
 ⟨ok.mod,ok.kind,ok.glob,ok.blt,ok.above,ok.inj,ok.has,ok.cab,fun _=>hh,ok.frames,ok.stk,ok.exf,ok.bs,ok.bsz,ok.noex,ok.exfs,ok.funs,ok.frf⟩
theorem Zmi {W:List Bool}(ok:X.Ok):(Cx.tri X pn xe W σ).Ok:=
 ⟨ok.mod,ok.kind,ok.glob,ok.blt,ok.above,ok.inj,ok.has,ok.cab,ok.hd,ok.frames,ok.stk,ok.exf,ok.bs,ok.bsz,ok.noex,ok.exfs,ok.funs,ok.frf⟩
theorem Zie {W:List Bool}(ok:(Cx.tri X pn xe W σ).Ok):X.Ok:=
 ⟨ok.mod,ok.kind,ok.glob,ok.blt,ok.above,ok.inj,ok.has,ok.cab,ok.hd,ok.frames,ok.stk,ok.exf,ok.bs,ok.bsz,ok.noex,ok.exfs,ok.funs,ok.frf⟩
theorem Zj5 (I:Inv X pins σ H s)(q:Qd (X.A.mark (some (.ref e))) H):Inv (Cx.han X e) pins σ H s:=⟨Zmh I.ok,I.os,I.bare,I.base,I.loc,I.cell,I.free,I.freeC,I.pin,I.hok,I.len,q,I.fx⟩
theorem ZdF (I:Inv (Cx.han X e) pins σ H s)(hh:X.A.handled=none):Inv X pins σ H s:=⟨Zid I.ok hh,I.os,I.bare,I.base,I.loc,I.cell,I.free,I.freeC,I.pin,I.hok,I.len,.inl hh,I.fx⟩
theorem Zj6 {W:List Bool}(I:Inv X pins σ H s):Inv (Cx.tri X (X.pn ++ pins) xe W σ) [] σ H s:=⟨Zmi I.ok,I.os,I.bare,I.base,I.loc,I.cell,I.free,I.freeC,fun p hp=>I.pin p (by rw[List.append_nil] at hp;exact hp),I.hok,I.len,I.qd,fun W' σ0 e j _=>by cases e;rfl⟩
theorem Zau {W:List Bool}{σ0:L2.St}(hx:X.fxs=none)(I:Inv (Cx.tri X (X.pn ++ pins) xe W σ0) pins' σ H s):Inv X pins σ H s:=⟨Zie I.ok,I.os,I.bare,I.base,I.loc,I.cell,I.free,I.freeC,fun p hp=>I.pin p (List.mem_append_left _ hp),I.hok,I.len,I.qd,.free hx⟩
theorem Zgy (I:Inv X pins σ H s){a:Addr}{o:Obj}{vs:Array Value}(hn:H a=none)(he:s.heap.get? a=some o)(hd:o.data= .fields vs)(h0:X.s₀.heap.get? a=none)(hp: ∀ p∈X.pn ++ pins,p.1≠a):Inv X pins σ (upd H a (.frz o (.own 0))) s:=by
 have ne: ∀ b u,H b=some u->b≠a:=fun b u z q=>by rw[q,hn] at z;cases z
 refine ⟨I.ok,I.os,I.bare,⟨I.base.keep,I.base.slot,fun b o' x n hx=> ?_,I.base.there,fun b xs x=> ?_,fun b o' u x=> ?_,fun b ps x=> ?_⟩,I.loc,I.cell,?_,fun x c z=> ?_,fun p hp'=> ?_,fun b u z=> ?_,I.len,I.qd.mono fun b o' u x=> ?_,I.fx⟩
 ·rw[Zl (fun z=>by rw[z,h0] at x;cases x)]
  exact I.base.free b o' x n hx
 ·have:=I.base.tups b xs x
  rw[Zl (ne b _ this)];exact this
 ·have:=I.base.frzs b o' u x
  rw[Zl (ne b _ this)];exact this
 ·obtain ⟨m1,z⟩:=I.base.tbls b ps x
  exact ⟨m1,by rw[Zl (ne b _ z)];exact z⟩
 ·rw[Zl (fun z=> ?_)]
  ·exact I.free
  ·obtain ⟨m,⟨oL,es,ep,hoL,hdL,r⟩,_⟩:=I.loc
   rw[z,he] at hoL;cases hoL
   rw[hd] at hdL;cases hdL
 ·rw[Zl (fun q=> ?_)]
  ·exact I.freeC x c z
  ·obtain ⟨v,oc,g1,g2⟩:=I.cell x c z
   rw[q,he] at g1;cases g1
   rw[hd] at g2;cases g2
 ·obtain ⟨g1,g2,g3,g4,g5⟩:=I.pin p hp'
  exact ⟨g1,by rw[Zl (hp p hp')];exact g2,g3,g4,g5⟩
 ·by_cases hb:b=a
  ·subst hb
   rw[Zm] at z;cases z
   exact ⟨he,⟨o,he⟩⟩
  ·rw[Zl hb] at z
   exact (I.hok b u z).stay (fun _ _ _ q=>q) (fun c q=>by rw[Zl (ne c _ q)];exact q) fun c xs q=>by rw[Zl (ne c _ q)];exact q
 ·rw[Zl (ne b _ x)];exact x
theorem Zj7 {h1 h2 B:Heap}(I:Inv X pins σ H s)(u:Un (frs X.stack) [] H H' s.heap h1)(hok:HOk X.prog X.w H' h1)(t1: ∀ b q,H' b=some q-> ∃ o,B.get? b=some o)(t2: ∀ b o,s.heap.get? b=some o->b ∉ frs X.stack-> ∃ o',B.get? b=some o')
  (st1:B.StaysIn h1) (st2:B.StaysIn h2) (up:h1.UpToSlots h2):Un (frs X.stack) [] H H' s.heap h2/\HOk X.prog X.w H' h2:=by
 have kB: ∀ b ob o,B.get? b=some ob->h1.get? b=some o->h2.get? b=some o:=fun b ob o e x=>by
  have z:=st1 b ob e
  rw[x] at z;cases z
  exact st2 b _ e
 have sl: ∀ b o,s.heap.get? b=some o->H b=none->b∈frs X.stack-> ∃ sl,h2.get? b=some { o with slots:=sl }:=fun b o x n hb=>by
  obtain ⟨s2,e2⟩:=u.any x n (by simp)
  obtain ⟨_,o',g1,g2⟩:=I.stack.mem hb
  rw[x] at g1;cases g1
  obtain ⟨s3,e3⟩:=up b _ e2 g2
  exact ⟨s3,e3⟩
 refine ⟨⟨fun b o x n hb _=> ?_,fun b o x n hb _=>sl b o x n hb,u.free,fun b o x _=> ?_,u.tups,u.frzs,u.tbls⟩,fun a o x=> ?_⟩
 ·obtain ⟨ob,g⟩:=t2 b o x hb
  exact kB b ob o g (u.keep b o x n hb (by simp))
 ·by_cases hb:b∈frs X.stack
  ·obtain ⟨s1,e1⟩:=sl b o x (I.stkFree b hb) hb
   exact ⟨_,e1⟩
  ·obtain ⟨ob,g⟩:=t2 b o x hb
   exact ⟨ob,st2 b ob g⟩
 ·refine (hok a o x).stay (fun b q hb y=> ?_) (fun _ q=>q) fun _ _ q=>q
  have tr: ∃ q,H' b=some q:=by
   rcases hb with z | z
   ·exact ⟨o,z ▸ x⟩
   ·exact ⟨_,z⟩
  obtain ⟨q',z⟩:=tr
  obtain ⟨ob,g⟩:=t1 b q' z
  exact kB b ob q g y
end
theorem Zfk {M:Model}{A:Around}{E:Value->Shared->Prop}{s:Shared}{B:Heap}{env:Env}{outer:List Env}{L e:Addr}{oe:Obj}{vs:Array Value}{Q:Unit->Shared->Prop}(hfr:A.frames=some (env :: outer))(hf:env.frame=some L)(hl:s.heap.FunFrames B (env :: outer))(he:s.heap.get? e=some oe)(hs:B.StaysIn s.heap)(hb:B.get? e=none)(hd:oe.data= .fields vs)(h1:vs[1]?=some .none)(h2:vs[2]?=some .none)
  (h: ∀ h',DQ.Fly B (env :: outer) e oe.cls oe.dict (rawInt L) h'->s.heap.UpToSlots h'->Q () { s with heap:=h' }):wpAny M A (noteFrame (.ref e) env) Q E s:=by
 unfold noteFrame;simp only[hf];refine wpAny_bind (wpAny_field he hd h1 ?_)
 rw[if_neg (by decide)]
 exact DQ.Zcc hfr hl hf he hs hb hd (Array.getElem?_eq_some_iff.mp h2).1 h2 h
noncomputable def kpR:List Bool->Ro->Ro
 |b :: m,x :: r=>(bif b then none else x) :: kpR m r
 |_,[]=>[]
 | [],_ :: r=>none :: kpR [] r
theorem Zeb: ∀ (W:List Bool) (ρ:Ro),(kpR W ρ).length=ρ.length
 | [],[]=>rfl
 |_ :: _,[]=>rfl
 | [],_ :: r=>by rw[kpR,List.length_cons,List.length_cons,Zeb [] r]
 |_ :: m,_ :: r=>by rw[kpR,List.length_cons,List.length_cons,Zeb m r]
theorem Zgz: ∀ (W:List Bool) (ρ:Ro) (j:Nat) (d:D),(kpR W ρ)[j]?=some (some d)->W[j]?=some false/\ρ[j]?=some (some d)
 | [],[],_,_,h=>by simp[kpR] at h
 |_ :: _,[],_,_,h=>by simp[kpR] at h
 | [],_ :: r,0,_,h=>by simp[kpR] at h
 | [],x :: r,j + 1,d,h=>by
  have:=Zgz [] r j d (by simpa [kpR] using h)
  simp at this
 |b :: m,x :: r,0,d,h=>by
  cases b with
  |true=>simp[kpR] at h
  |false=>exact ⟨rfl,by simpa [kpR] using h⟩
 |b :: m,x :: r,j + 1,d,h=>by
  have:=Zgz m r j d (by simpa [kpR] using h)
  simpa using this
noncomputable def fsE (c:Str)(M:Sto):List D:=if Zgg c=true then (match M.getLast? with | some (.lst xs)=>xs | none=>[]) else []
noncomputable def stE (c:Str)(M:Sto):Sto:=if Zgg c=true then M.dropLast else M
theorem Zbt {c:Str}{M:Sto}(h:Zgg c=false):fsE c M=[]:=by unfold fsE;rw[h];rfl
theorem Zbf {c:Str}{M:Sto}(h:Zgg c=false):stE c M=M:=by unfold stE;rw[h];rfl
theorem ZoV {c:Str}{M:Sto}{ds:List D}(h:Zgg c=true):fsE c (M ++ [.lst ds])=ds:=by unfold fsE;rw[if_pos h,List.getLast?_concat]
theorem Zmj {c:Str}{M:Sto}{ds:List D}(h:Zgg c=true):stE c (M ++ [.lst ds])=M:=by unfold stE;rw[if_pos h,List.dropLast_concat]
theorem XO.hr {K:PySem.W.Frag}{H:Hp}{α:List Addr}{c:Str}{M:Sto}{dct:Option Addr}(h:XO K H α c M dct):HR K H α (stE c M):=by
 rcases h with ⟨h1,h2,_⟩ | ⟨h1,M0,ds,dx,fs,rfl,h2,_⟩
 ·rw[Zbf h1];exact h2
 ·rw[Zmj h1];exact h2
theorem XO.inst {K:PySem.W.Frag}{P:Program}{w:World}{H:Hp}{α:List Addr}{c:Str}{M:Sto}{e C:Addr}{oe:Obj}{vs:Array Value}{hp:Heap}(h:XO K H α c M oe.dict)(hok:HOk P w H hp)(he:hp.get? e=some oe)(k2:oe.cls= .ref C)(k4:oe.data= .fields vs): ∃ od,PySem.W.InstAt hp e oe C od:=by
 have nc:PySem.W.notCls oe=true:=by unfold PySem.W.notCls;rw[k4]
 rcases h with ⟨h1,h2,h3⟩ | ⟨h1,M0,ds,dx,fs,_,h2,h3,h4,h5,h6⟩
 ·exact ⟨none,he,k2,nc,by rw[h3];trivial⟩
 ·obtain ⟨o,g⟩:=Zb4 (hok _ _ h4)
  exact ⟨some o,he,k2,nc,by rw[h3];exact g⟩
noncomputable def Zq0 (gb:Sv)(cs:List Str)(W:List Bool)(i:Nat)(gh:Sv):Sv:=fun ρ M=>match gb ρ M with
 | .exc c M1=>if cs.contains c=true then (match gh ((kpR W ρ).set i (some (.err c (fsE c M1)))) (stE c M1) with
  | .ret d M2=> .ret d M2
  | .nx _ M2=> .nx (List.replicate ρ.length none) M2
  |_=> .bad) else .bad
 |o=>o
section
variable {X:Cx}{ξ:XK}{d n:Str}{cs:List Str}{i:Nat}{body suite:List Stmt}{b0:Stmt}{gb gh:Sv}{pos hpos np:Pos}
end
theorem ZB {k:Nat}{A:Around}{env:Env}(hr:Room k (A.deeper env))(h:100<=k):A.handled.isNone=true:=by
 have e:A.handled=none:=hr.hd h
 rw[e];rfl
end DL
end
section
namespace DL
open PySem PySem.Spec PyProof.Rows L2
noncomputable abbrev Me:=D->List D->Sto->Out D
noncomputable def MO (X:Cx)(ξ:XK)(r:V->List V->Hp->VK->Prop)(g:Me):Prop:= ∀ H α M v vs x ds Q,HR X.K H α M->Rep X.K H α v x->Reps X.K H α vs ds->OP X.K H α ξ Q (g x ds M)->r v vs H Q
theorem HR.wrE {K:PySem.W.Frag}{H:Hp}{α:List Addr}{M:Sto}{n:Nat}{p:Addr}{xs ys:List V}{ds:List D}(h:HR K H α M)(e:RefK H α 0 n p)(hp:H p=some (.lst ys))(r:Reps K H α xs ds):Ext K H (upd H p (.lst xs)) α α/\HR K (upd H p (.lst xs)) α (M.set n (.lst ds)):=
 ⟨Ext.wr hp,h.wr e hp r⟩
section
variable {X:Cx}{ξ:XK}{o e:Expr}{es:List Expr}{fo fa:Ev}{fs:Av}{name:Str}{apos cpos pos:Pos}{T id:String}{r:V->List V->Hp->VK->Prop}{g:Me}
noncomputable def Zj8 (x:D)(M:Sto):Bool:=match x with | .ref n=>M[n]?.isSome | _=>false
noncomputable def ZhJ (g:Me)(fo:Ev)(fs:Av):Ev:=fun ρ M=>(fo ρ M).bind fun x M1=>if Zj8 x M1=true then (fs ρ M1).bind fun ds M2=>g x ds M2 else .bad
theorem Zj9 {K:PySem.W.Frag}{H:Hp}{α:List Addr}{M:Sto}{v:V}{x:D}(h:HR K H α M)(rx:Rep K H α v x)(k:Zj8 x M=true):tyV K "list" v H:=by
 cases rx with
 | @ref p n hp=>
  obtain ⟨xs,g⟩:=h.some_at hp
  exact .inl ⟨rfl,_,SqL.of g⟩
 |_=>cases k
theorem Zmk (slot:Slot "list" name id)(hty:typeOf (.builtin id)=pure (.type "method_descriptor"))(hm:MtR X id r)(hf:MO X ξ r g)(ho:DE X ξ o fo)(ha:DA X ξ (e :: es) fs)
  (hbase:attributeBase o name X.env (eval o X.env)=eval o X.env:=by rfl)
  (hfew:((backTo cpos (starEach (e :: es) X.env)).all (fun x=> !x.1) && (backToKw cpos (keywordEach [] X.env)).all (fun x=>x.1.isSome)
   && decide ((e :: es).length + ([]:List Keyword).length + (if ([]:List Keyword).isEmpty then 0 else 1) < 30))=true:=by rfl)
  (hline:(apos.endLine == cpos.line)=true:=by rfl) (hs:starEach (e :: es) X.env=(false,eval e X.env) :: starEach es X.env:=by rfl) (hplain:(backTo cpos (starEach es X.env)).any (·.1)=false:=by rfl):
  DE X ξ (.Call (.Attribute o name apos) (e :: es) [] cpos) (ZhJ g fo fs):=by
 obtain ⟨to,po,qo⟩:=ho
 obtain ⟨ta,pa,qa⟩:=ha
 refine ⟨_,ZlR PySem.F.plainAttrs_list slot hty hm po pa hbase hfew hline hs hplain,fun σ ρ H α M Q s h q=> ?_⟩
 refine qo σ ρ H α M _ s h (OG.seq q fun x M1 v H1 α1 e1 h1 r1 q1=> ?_)
 by_cases k:Zj8 x M1=true
 ·rw[if_pos k] at q1
  exact ⟨Zj9 h1 r1 k,qa σ ρ H1 α1 M1 _ (s.mono e1) h1 (OG.seq q1 fun ds M2 vs H2 α2 e2 h2 r2 q2=>hf H2 α2 M2 v vs x ds Q h2 (Rep.mono e2 r1) r2 q2)⟩
 ·rw[if_neg k] at q1
  exact q1.elim
noncomputable def mApp:Me:=fun x ds M=>match x,ds with
 | .ref n,[d]=>(match M[n]? with | some (.lst xs)=>if xs.length < 10000000 then .ok .non (M.set n (.lst (xs ++ [d]))) else .bad | none=> .bad)
 |_,_=> .bad
theorem Zml:MO X ξ rAppend mApp:=by
 intro H α M v vs x ds Q h rx rs q;cases rx with
 | @ref p n hp=>
  match rs with
  | .nil=>exact q.elim
  | .cons _ (.cons _ _)=>exact q.elim
  | .cons (v:=u) (d:=d) ru .nil=>
   cases em:M[n]? with
   |none=>simp only[mApp,em] at q;exact q.elim
   |some so=>
    cases so with
    |lst es=>
     obtain ⟨xs,g1,g2⟩:=h.at hp em
     by_cases c:es.length < 10000000
     ·simp only[mApp,em,if_pos c] at q
      obtain ⟨k1,k2⟩:=h.wrE hp g1 (g2.append (.cons ru .nil))
      exact ⟨p,xs,u,rfl,rfl,g1,by rw[g2.length];exact Nat.lt_of_lt_of_le c (by decide),q _ _ α k1 k2 .non⟩
     ·simp only[mApp,em,if_neg c] at q
      exact q.elim
 |_=>cases rs<;>exact q.elim
noncomputable def Zq1:Me:=fun x ds M=>match x,ds with
 | .ref n,[]=>(match M[n]? with | some (.lst _)=> .ok .non (M.set n (.lst [])) | none=> .bad)
 |_,_=> .bad
noncomputable def mExt:Me:=fun x ds M=>match x,ds with
 | .ref n,[.ref m]=>(match M[n]?,M[m]? with | some (.lst xs),some (.lst ys)=>if xs.length + ys.length<=10000000 then .ok .non (M.set n (.lst (xs ++ ys))) else .bad | _,_=> .bad)
 |_,_=> .bad
theorem ZgA {x:D}{l:List D}{M:Sto}(h:mExt x l M≠ .bad): ∃ n m,x= .ref n/\l=[.ref m]:=by
 unfold mExt at h
 split at h
 ·rename_i n m;exact ⟨n,m,rfl,rfl⟩
 ·exact absurd rfl h
theorem Zmm:MO X ξ rExtend mExt:=by
 intro H α M v vs x ds Q h rx rs q;obtain ⟨n,m,rfl,rfl⟩:=ZgA (x:=x) (l:=ds) (M:=M) fun z=>by rw[z] at q;exact q.elim
 cases rx with
 | @ref p n hp=>
 cases rs with
 |cons ru rs=>
 cases rs
 cases ru with
 | @ref p2 m hp2=>
 cases em:M[n]? with
 |none=>simp only[mExt,em] at q;exact q.elim
 |some so=>
 cases em2:M[m]? with
 |none=>cases so;simp only[mExt,em,em2] at q;exact q.elim
 |some so2=>
 cases so with
 |lst es=>
 cases so2 with
 |lst es2=>
 obtain ⟨xs,g1,g2⟩:=h.at hp em
 obtain ⟨ys,g3,g4⟩:=h.at hp2 em2
 by_cases c:es.length + es2.length<=10000000
 ·simp only[mExt,em,em2,if_pos c] at q
  obtain ⟨k1,k2⟩:=h.wrE hp g1 (g2.append g4)
  exact ⟨p,p2,xs,ys,rfl,rfl,g1,g3,by rw[g2.length,g4.length];exact Nat.le_trans c (by decide),q _ _ α k1 k2 .non⟩
 ·simp only[mExt,em,em2,if_neg c] at q
  exact q.elim
theorem Zbu (ho:DE X ξ o fo)(ha:DE X ξ e fa)(hbase:attributeBase o "append" X.env (eval o X.env)=eval o X.env:=by rfl)
  (hfew:((backTo cpos (starEach [e] X.env)).all (fun x=> !x.1) && (backToKw cpos (keywordEach [] X.env)).all (fun x=>x.1.isSome)
   && decide ([e].length + ([]:List Keyword).length + (if ([]:List Keyword).isEmpty then 0 else 1) < 30))=true:=by rfl)
  (hline:(apos.endLine == cpos.line)=true:=by rfl) (hs:starEach [e] X.env=(false,eval e X.env) :: starEach [] X.env:=by rfl) (hplain:(backTo cpos (starEach [] X.env)).any (·.1)=false:=by rfl):
  DE X ξ (.Call (.Attribute o "append" apos) [e] [] cpos) (ZhJ mApp fo (Zc fa aNil)):=Zmk PySem.F.slot_list_append PySem.F.type_list_append Zdl Zml ho (Za ha Zd hs) hbase hfew hline hs hplain
noncomputable def DO (X:Cx)(ξ:XK)(e:Option Expr)(f:Ro->Sto->Out (Option Int)):Prop:= ∃ t:TO,PO X e t/\ ∀ σ ρ H α M (Q:Option Int->Hp->Prop),SR X.K H α σ ρ->HR X.K H α M->OG X.K (fun _ _ v d=>v=d) H α ξ Q (f ρ M)->t σ H Q
noncomputable def oNo:Ro->Sto->Out (Option Int):=fun _ M=> .ok none M
noncomputable def oSo (f:Ev):Ro->Sto->Out (Option Int):=fun ρ M=>(f ρ M).bind fun x M1=>match x with | .int i=> .ok (some i) M1 | _=> .bad
theorem ZcT:DO X ξ none oNo:=⟨_,ZjO,fun σ ρ H α M Q s h q=>q none H α Ext.refl h rfl⟩
theorem ZcU (ha:DE X ξ e fa):DO X ξ (some e) (oSo fa):=by
 obtain ⟨ta,pa,qa⟩:=ha
 refine ⟨_,ZjP pa,fun σ ρ H α M Q s h q=> ?_⟩
 refine qa σ ρ H α M _ s h (OG.seq q fun x M1 v H1 α1 e1 h1 r1 q1=> ?_)
 cases r1 with
 |int i=>exact ⟨i,rfl,q1 (some i) H1 α1 Ext.refl h1 rfl⟩
 |_=>exact q1.elim
noncomputable def Zec (xs:List D)(lo hi:Option Int):List D:=(xs.drop (HT.sIx xs.length 0 lo)).take (HT.sIx xs.length xs.length hi - HT.sIx xs.length 0 lo)
theorem Reps.drop {K:PySem.W.Frag}{H:Hp}{α:List Addr}: ∀ (n:Nat) {vs:List V} {ds:List D},Reps K H α vs ds->Reps K H α (vs.drop n) (ds.drop n)
 |0,_,_,h=>h
 |_ + 1,_,_,.nil=> .nil
 |n + 1,_,_,.cons _ t=>Reps.drop n t
theorem Reps.take {K:PySem.W.Frag}{H:Hp}{α:List Addr}: ∀ (n:Nat) {vs:List V} {ds:List D},Reps K H α vs ds->Reps K H α (vs.take n) (ds.take n)
 |0,_,_,_=> .nil
 |_ + 1,_,_,.nil=> .nil
 |n + 1,_,_,.cons r t=> .cons r (Reps.take n t)
theorem Reps.cut {K:PySem.W.Frag}{H:Hp}{α:List Addr}{vs:List V}{ds:List D}(r:Reps K H α vs ds)(lo hi:Option Int):Reps K H α (ZiW vs lo hi) (Zec ds lo hi):=by
 unfold ZiW Zec;rw[r.length];exact (r.drop _).take _
noncomputable def eSl (f:Ev)(lo hi:Ro->Sto->Out (Option Int)):Ev:=fun ρ M=>(f ρ M).bind fun x M1=>(lo ρ M1).bind fun l M2=>(hi ρ M2).bind fun u M3=>match x with
 | .ref n=>(match M3[n]? with | some (.lst xs)=> .ok (.ref M3.length) (M3 ++ [.lst (Zec xs l u)]) | none=> .bad)
 | .rol xs=> .ok (.ref M3.length) (M3 ++ [.lst (Zec xs l u)])
 | .tup xs=>if HT.sIx xs.length 0 l=0/\HT.sIx xs.length xs.length u=xs.length then .bad else .ok (.tup (Zec xs l u)) M3
 |_=> .bad
theorem ZdG {lo hi:Option Expr}{fl fh:Ro->Sto->Out (Option Int)}{p2:Pos}(he:DE X ξ e fa)(hl:DO X ξ lo fl)(hh:DO X ξ hi fh):DE X ξ (.Subscript e (.Slice lo hi none p2) pos) (eSl fa fl fh):=by
 obtain ⟨ta,pa,qa⟩:=he
 obtain ⟨tl,pl,ql⟩:=hl
 obtain ⟨th,ph,qh⟩:=hh
 refine ⟨_,ZeE (SlR.or ZjU ZlO) pa pl ph,fun σ ρ H α M Q s h q=> ?_⟩
 refine qa σ ρ H α M _ s h (OG.seq q fun x M1 v H1 α1 e1 h1 r1 q1=> ?_)
 refine ql σ ρ H1 α1 M1 _ (s.mono e1) h1 (OG.seq q1 fun l M2 l' H2 α2 e2 h2 r2 q2=> ?_)
 refine qh σ ρ H2 α2 M2 _ ((s.mono e1).mono e2) h2 (OG.seq q2 fun u M3 u' H3 α3 e3 h3 r3 q3=> ?_)
 cases r2
 cases r3
 cases Rep.mono e3 (Rep.mono e2 r1) with
 | @ref p n hp=>
  cases em:M3[n]? with
  |none=>simp only[em] at q3;exact q3.elim
  |some so=>
   cases so with
   |lst es=>
    simp only[em] at q3;obtain ⟨xs,g1,g2⟩:=h3.at hp em
    exact .inl ⟨p,xs,rfl,SqL.of g1,fun a ha=>q3 _ _ (α3 ++ [a]) (Ext.new ha) (h3.new ha (g2.cut l u)) (.ref ⟨h3.last a,Kn.lst Zm⟩)⟩
 | @rol p xs ds hp rp=>
  have q4:OP X.K H3 α3 ξ Q (.ok (.ref M3.length) (M3 ++ [.lst (Zec ds l u)])):=q3
  exact .inl ⟨p,xs,rfl,hp.sq,fun a ha=>q4 _ _ (α3 ++ [a]) (Ext.new ha) (h3.new ha (rp.cut l u)) (.ref ⟨h3.last a,Kn.lst Zm⟩)⟩
 | @tup p xs ds hp rp=>
  by_cases c:HT.sIx ds.length 0 l=0/\HT.sIx ds.length ds.length u=ds.length
  ·simp only[if_pos c] at q3
   exact q3.elim
  ·simp only[if_neg c] at q3
   exact .inr ⟨p,xs,rfl,(SqT.of hp),by rw[rp.length];exact c,fun a ha=>q3 _ _ α3 (Ext.new0 ha) (h3.tup ha) (.tup Zm (Reps.mono (Ext.new0 ha) (rp.cut l u)))⟩
 |_=>exact q3.elim
noncomputable def iR2 (fs:Av):Ro->Sto->Out Src:=fun ρ M=>(fs ρ M).bind fun ds M1=>match ds with
 | [.int i,.int j]=>if -(2 ^ 62)<=i/\i < 2 ^ 62/\ -(2 ^ 62)<=j/\j < 2 ^ 62 then .ok (.pur (Zbq i (j - i).toNat)) M1 else .bad
 |_=> .bad
end
theorem Zif (its:List Value):slicePick its.toArray none none (some (-1))=its.reverse.toArray:=by
 have h:=ZeS its.toArray
 have e:slicePick its.toArray none none (some (-1))=((List.range its.toArray.size).filterMap fun (m:Nat)=>its.toArray[((its.toArray.size:Int) - 1 + (m:Int) * (-1)).toNat]?).toArray:=by
  unfold slicePick sliceBounds sliceRange;simp only[Option.getD_some]
  congr 1
  rw[List.filterMap_map];have hc:(if (-1:Int) > 0 then (if (if (-1:Int) > 0 then (0:Int) else (its.toArray.size:Int) - 1) < (if (-1:Int) > 0 then (its.toArray.size:Int) else -1) then ((if (-1:Int) > 0 then (its.toArray.size:Int) else -1) - (if (-1:Int) > 0 then (0:Int) else (its.toArray.size:Int) - 1) + -1 - 1) / -1 else 0) else (if (if (-1:Int) > 0 then (0:Int) else (its.toArray.size:Int) - 1) > (if (-1:Int) > 0 then (its.toArray.size:Int) else -1) then ((if (-1:Int) > 0 then (0:Int) else (its.toArray.size:Int) - 1) - (if (-1:Int) > 0 then (its.toArray.size:Int) else -1) - -1 - 1) / (- -1) else 0)).toNat=its.toArray.size:=by
   simp
   split<;>omega
  rw[hc];refine ZcS fun m hm=> ?_
  simp only[Function.comp];have e2:((if (-1:Int) > 0 then (0:Int) else (its.toArray.size:Int) - 1) + -1 * (m:Int))=(its.toArray.size:Int) - 1 + (m:Int) * (-1):=by
   rw[if_neg (by decide)]
   omega
  rw[e2]
 rw[e,h]
noncomputable def eRv (f:Ev):Ev:=fun ρ M=>(f ρ M).bind fun x M1=>match x with
 | .tup xs=> .ok (.tup xs.reverse) M1
 | .ref n=>(match M1[n]? with | some (.lst xs)=> .ok (.ref M1.length) (M1 ++ [.lst xs.reverse]) | none=> .bad)
 | .rol xs=> .ok (.ref M1.length) (M1 ++ [.lst xs.reverse])
 |_=> .bad
noncomputable def tRv (K:PySem.W.Frag)(te:TE):TE:=fun σ H Q=>te σ H fun x H1=>(∃ a xs,x= .ref a/\SqT K H1 a xs/\ ∀ p,H1 p=none->Q (.ref p) (upd H1 p (.tup xs.reverse)))\/ ∃ a xs,x= .ref a/\SqL K H1 a xs/\ ∀ p,H1 p=none->Q (.ref p) (upd H1 p (.lst xs.reverse))
theorem ZoW {X:Cx}{e:Expr}{p2 p3 p4 pos:Pos}{j:Nat}{te:TE}(he:PE X e te):PE X (.Subscript e (.Slice none none (some (.UnaryOp .USub (.Constant (.int 1) j p3) p4)) p2) pos) (tRv X.K te):=by
 intro pins s σ H Q I h;refine Subscript_ (thn (he pins s σ H _ I h) fun v s1 ⟨x,H1,I1,r1,q1⟩=> ?_)
 refine wpAny_Slice ?_
 rw[evalPart_none];refine wpAny_pure (wpAny_pure ?_)
 rw[evalPart_some];refine thn (ZlC ZiS ZiQ pins s1 σ H1 (fun v H'=>v= .int (-1)/\H'=H1) I1 ⟨1,rfl,rfl,rfl⟩) fun u s2 ⟨y,H2,I2,r2,ey,eH⟩=> ?_
 subst ey eH;obtain ⟨t,rfl⟩:=r2
 have I4:Inv X pins σ H2 { s2 with heap:=s2.heap.push { cls:= .type "slice",data:= .fields #[.none,.none,.int (-1) t] } }:=I2.kept (t':=s2.toks) fun b ob q=>Heap.get?_push_of_some _ q
 show wpAny (model X.prog X.w) X.A (subscriptTail e (.Slice none none (some (.UnaryOp .USub (.Constant (.int 1) j p3) p4)) p2) v (.ref s2.heap.objs.size)) (EP X pins σ Q) X.xe { s2 with heap:=s2.heap.push { cls:= .type "slice",data:= .fields #[.none,.none,.int (-1) t] } }
 rcases q1 with ⟨a,xs,rfl,hq,q⟩ | ⟨a,xs,rfl,hq,q⟩
 ·cases r1
  obtain ⟨its,rv,ht,hz⟩:=I4.tuple hq
  have hsz:its.toArray.size<=sizeLine:=by rw[List.size_toArray,<- rv.length];exact hz
  refine tail_any (ops:=[.ref a,.ref s2.heap.objs.size]) ht.typeIs PyProof.Rows.slot_tuple_getitem.lookup (ZbD ht (Heap.IsSliceOf.new ..) ?_ hsz) (by with_unfolding_all rfl)
  have fr:=I4.fresh
  refine ⟨.ref _,_,I4.laid (t':=s2.toks) (fun _ _ q=>Heap.get?_push_of_some _ q) (Nat.le_refl _) ?_,rfl,q _ fr⟩
  exact ⟨by rw[List.length_reverse];exact hz,its.reverse,rv.reverse,_,Heap.get?_push_size _ rfl,rfl,_,rfl⟩
 ·cases r1
  obtain ⟨its,rv,ht,hz⟩:=I4.list hq
  have hsz:its.toArray.size<=sizeLine:=by rw[List.size_toArray,<- rv.length];exact hz
  refine tail_any (ops:=[.ref a,.ref s2.heap.objs.size]) ht.isList.typeIs slot_list_getitem.lookup (wpAny_getItem_list_slice ht.isList (Heap.IsSliceOf.new ..) .none .none (.int (-1) t) (by decide) ?_ hsz) (by with_unfolding_all rfl)
  rw[Zif];refine ⟨.ref _,_,I4.laid (t':=s2.toks) (o:= .lst xs.reverse) (fun _ _ q=>Heap.get?_push_of_some _ q) (Nat.le_refl _) ?_,rfl,q _ (I4.hok.fresh (Nat.le_refl _))⟩
  exact ⟨by rw[List.length_reverse];exact hz,its.reverse,0,rv.reverse,Heap.get?_push_size _ rfl⟩
theorem ZoX {X:Cx}{ξ:XK}{e:Expr}{f:Ev}{p2 p3 p4 pos:Pos}{j:Nat}(he:DE X ξ e f):DE X ξ (.Subscript e (.Slice none none (some (.UnaryOp .USub (.Constant (.int 1) j p3) p4)) p2) pos) (eRv f):=by
 obtain ⟨t,p,q⟩:=he
 refine ⟨_,ZoW p,fun σ ρ H α M Q s h w=>q σ ρ H α M _ s h (OG.seq w fun x M1 v H1 α1 e1 h1 r1 w1=> ?_)⟩
 cases r1 with
 | @tup a xs ds hp rp=>exact .inl ⟨a,xs,rfl,(SqT.of hp),fun l hl=>w1 _ _ α1 (Ext.new0 hl) (h1.tup hl) (.tup Zm (Reps.mono (Ext.new0 hl) rp.rev))⟩
 | @rol a xs ds hp rp=>
  have w2:OP X.K H1 α1 ξ Q (.ok (.ref M1.length) (M1 ++ [.lst ds.reverse])):=w1
  exact .inr ⟨a,xs,rfl,hp.sq,fun l hl=>w2 _ _ (α1 ++ [l]) (Ext.new hl) (h1.new hl rp.rev) (.ref ⟨h1.last l,Kn.lst Zm⟩)⟩
 | @ref a n hp=>
  cases em:M1[n]? with
  |none=>simp only[em] at w1;exact w1.elim
  |some so=>
   cases so with
   |lst es=>
    simp only[em] at w1;obtain ⟨xs,g1,g2⟩:=h1.at hp em
    exact .inr ⟨a,xs,rfl,SqL.of g1,fun l hl=>w1 _ _ (α1 ++ [l]) (Ext.new hl) (h1.new hl g2.rev) (.ref ⟨h1.last l,Kn.lst Zm⟩)⟩
 |_=>exact w1.elim
end DL
end
section
namespace DL
open PySem PySem.Spec PyProof.Rows L2
noncomputable def ZeT (tg:Tg)(g:Sv)(src:Src):Nat->Nat->Ro->Sto->Fl
 |f,i,ρ,M=>match nxt src i M with
  |none=> .bad
  |some none=> .nx ρ M
  |some (some d)=>(match f with
   |0=> .bad
   |f + 1=>(match tg d ρ with
    |none=> .bad
    |some ρ1=>(match g ρ1 M with
     | .nx ρ2 M2=>ZeT tg g src f (i + 1) ρ2 M2
     | .cnt ρ2 M2=>ZeT tg g src f (i + 1) ρ2 M2
     | .brk ρ2 M2=> .nx ρ2 M2
     |o=>o)))
noncomputable def Zed (tg:Tg)(fi:Ro->Sto->Out Src)(g:Sv):Sv:=fun ρ M=>ZP (fi ρ M) fun src M1=>ZeT tg g src (cnt src M1) 0 ρ M1
section
variable {X:Cx}{ξ:XK}{tg iter a b:Expr}{gt:Tg}{fi:Ro->Sto->Out Src}{g:Sv}{body:List Stmt}{f fa fb:Ev}{fs:Av}{p pos:Pos}
theorem Zee (hp:PassesOwn (model X.prog X.w) X.A X.env X.xe)(hi:DI X ξ tg iter fi)(hg:DG X tg gt)(hb:DSs X ξ body g)(hf: ∀ x,foldedSetIterable iter X.env x=pure x:=by intro _;rfl):DS X ξ (.For tg iter body [] pos) (Zed gt fi g):=by
 obtain ⟨wi,pi,qi⟩:=hi
 obtain ⟨tt,pt,qt⟩:=hg
 obtain ⟨tb,pb,qb⟩:=hb
 refine ⟨_,ZfS hp pi pt pb hf,fun σ ρ H α M Dn s hh w=>qi σ ρ H α M _ s hh (FP.seq w fun src M1 J H1 α1 e1 h1 sc w1=> ?_)⟩
 generalize eo:ZeT gt g src (cnt src M1) 0 ρ M1=o at w1;refine ⟨fun i m σ' H'=> ∃ ρ' α' M',Ext X.K H1 H' α1 α'/\SR X.K H' α' σ' ρ'/\HR X.K H' α' M'/\ZeT gt g src m i ρ' M'=o,⟨cnt src M1,ρ,α1,M1,Ext.refl,s.mono e1,h1,eo⟩,?_⟩
 rintro i m σ' H' ⟨ρ',α',M',ex,sr,hr,en⟩
 have s5:=sc i H' α' M' ex hr
 unfold ZeT at en;cases en1:nxt src i M' with
 |none=>rw[en1] at en;cases en;exact w1.elim
 |some od=>
  rw[en1] at en s5;cases od with
  |none=>cases en;exact .inl ⟨s5,w1 σ' H' α' ex hr sr⟩
  |some d=>
   obtain ⟨go,yl⟩:=s5
   cases m with
   |zero=>cases en;exact w1.elim
   |succ m=>
    simp only at en
    refine .inr ⟨go,fun σ2 H2=> ∃ ρ' α' M',Ext X.K H1 H2 α1 α'/\SR X.K H2 α' σ2 ρ'/\HR X.K H2 α' M'/\ZeT gt g src m (i + 1) ρ' M'=o,fun σ2 H2 z=>⟨m,Nat.lt_succ_self m,z⟩,fun x H2 y=> ?_⟩
    obtain ⟨ex7,hr7,rp7⟩:=yl x H2 y
    exact Zh9 (tg:=tg) w1 qt qb (ex.trans ex7) (sr.mono ex7) hr7 rp7 en (fun σ' H' z=>z)
end
theorem ZgB {X:Cx}{pins:List (Addr × Obj)}{σ:L2.St}{H:Hp}{s:Shared}{h':Heap}{t':Nat}{ch:List Addr}(I:Inv X pins σ H s)(k: ∀ b o,b ∉ ch->s.heap.get? b=some o->h'.get? b=some o)(hf: ∀ b∈ch,Zc9 X pins H b):Inv X pins σ H { s with heap:=h',toks:=t' }:=by
 have nit: ∀ b u,H b=some u->b ∉ ch:=fun b u e z=>by rw[(hf b z).1] at e;cases e
 have hL:X.env.locals ∉ ch:=fun z=>(hf _ z).2.1 rfl
 refine I.step (g':=s.gens) (d':=s.drawn) (ch:=ch) (fun b hb=> ?_) (fun b o _ _ hc e _=>k b o hc e) (fun b o _ _ hc e _=>⟨o.slots,k b o hc e⟩) (fun _ _ _ _ n=>n)
  (fun b o hc e=>⟨o,k b o hc e⟩) (fun _ _ e=>e) (fun _ _ _ e=>e) (fun b ps e=>⟨#[],by rw[e];simp⟩) (fun m hm=> ?_) (fun b u e=> ?_) I.bare
 ·obtain ⟨_,z1,_,z3,z4,z5⟩:=hf b hb
  exact ⟨z3,z1,z4,z5⟩
 ·obtain ⟨o,es,ep,ho,r⟩:=hm
  exact ⟨o,es,ep,k _ o hL ho,r⟩
 ·refine (I.hok b u e).stay (fun c v hc q=>k c v ?_ q) (fun _ q=>q) fun _ _ q=>q
  rcases hc with z | z
  ·rw[z];exact nit b u e
  ·exact nit c _ z
theorem Zja {X:Cx}{pins:List (Addr × Obj)}{σ:L2.St}{H:Hp}{s:Shared}{h':Heap}{t':Nat}{ch:List Addr}{vs:List V}{us:List Value}(I:Inv X pins σ H s)(hf: ∀ b∈ch,Zc9 X pins H b)(hlt: ∀ b∈ch,b < s.heap.objs.size)(rv:ZK vs us)(hz:vs.length<=sizeLine)
  (k: ∀ b o,b ∉ ch->s.heap.get? b=some o->h'.get? b=some o) (ht:h'.get? s.heap.objs.size=some { cls:= .type "tuple",data:= .seq us.toArray }):
  Inv X pins σ (upd H s.heap.objs.size (.tup vs)) { s with heap:=h',toks:=t' }/\H s.heap.objs.size=none/\ ∀ b∈ch,upd H s.heap.objs.size (.tup vs) b=none:=by
 have fr:H s.heap.objs.size=none:=I.hok.fresh (Nat.le_refl _)
 have hn: ∀ b∈ch,upd H s.heap.objs.size (.tup vs) b=none:=fun b hb=>by rw[Zl (Nat.ne_of_lt (hlt b hb))];exact (hf b hb).1
 have I1:Inv X pins σ (upd H s.heap.objs.size (.tup vs)) { s with heap:=s.heap.push { cls:= .type "tuple",data:= .seq us.toArray },toks:=t' }:=
  I.laid (t':=t') (o:= .tup vs) (fun _ _ q=>Heap.get?_push_of_some _ q) (Nat.le_refl _) ⟨hz,us,rv,_,Heap.get?_push_size _ rfl,rfl,_,rfl⟩
 refine ⟨ZgB (s:={ s with heap:=s.heap.push { cls:= .type "tuple",data:= .seq us.toArray },toks:=t' }) (t':=t') (ch:=ch) I1 (fun b o hb e=> ?_) (fun b hb=>⟨hn b hb,(hf b hb).2⟩),fr,hn⟩
 by_cases c:b=s.heap.objs.size
 ·subst c
  have e':(s.heap.push { cls:= .type "tuple",data:= .seq us.toArray }).get? s.heap.objs.size=some o:=e
  rw[Heap.get?_push_size _ rfl] at e'
  cases e'
  exact ht
 ·refine k b o hb ?_
  have e':(s.heap.push { cls:= .type "tuple",data:= .seq us.toArray }).get? b=some o:=e
  have hl:b < s.heap.objs.size:=by
   have q:b < s.heap.objs.size + 1:=by
    have z:=Heap.lt_size e'
    rwa [Heap.size_push] at z
   exact Nat.lt_of_le_of_ne (Nat.le_of_lt_succ q) c
  have q:(s.heap.push { cls:= .type "tuple",data:= .seq us.toArray }).get? b=s.heap.get? b:=by
   unfold Heap.get? Heap.push;simp only[Array.getElem?_push]
   rw[if_neg (Nat.ne_of_lt hl)]
  rwa [q] at e'
noncomputable def Ite (K:PySem.W.Frag)(a:Addr):It:=
 ⟨fun i H=> ∃ xs x,SqL K H a xs/\xs[i]?=some x,fun i H y H'=> ∃ p,H p=none/\y= .ref p/\ ∀ xs x,SqL K H a xs->xs[i]?=some x->H'=upd H p (.tup [.int i,x]),fun i H=> ∃ xs,SqL K H a xs/\xs.length<=i⟩
noncomputable def Itz (K:PySem.W.Frag)(a b:Addr):It:=
 ⟨fun i H=> ∃ xs ys x y,SqL K H a xs/\SqL K H b ys/\xs[i]?=some x/\ys[i]?=some y,fun i H v H'=> ∃ p,H p=none/\v= .ref p/\ ∀ xs ys x y,SqL K H a xs->SqL K H b ys->xs[i]?=some x->ys[i]?=some y->H'=upd H p (.tup [x,y]),
  fun i H=> ∃ xs ys,SqL K H a xs/\SqL K H b ys/\(xs.length<=i\/ys.length<=i)⟩
theorem ZgC {P:Program}{w:World}{K:PySem.W.Frag}{B:Around}{elts:List Expr}{k0:Nat}{tp:Pos}(hB:B.handled=none)(a e it:Addr)(hne:e≠it):
  Turn P w K B (.Tuple elts k0 tp) (Ite K a) [e,it] e (fun i h=>(∃ old,IsEnum h e it (i:Int) old)/\h.IsListIter it a i) where
 mem:=by simp
 obj:=fun i h st b hb=>by
  obtain ⟨⟨old,h1⟩,o,e2,c2,d2⟩:=st
  rcases List.mem_cons.mp hb with z | z
  ·subst z;exact ⟨_,h1,fun v z=>by cases z⟩
  ·have z':b=it:=by simpa using z
   subst z';exact ⟨o,e2,fun v z=>by rw[d2] at z;cases z⟩
 keep:=fun i h h' st k=>⟨let ⟨old,z⟩:=st.1;⟨old,k e (by simp) _ z⟩,st.2.at fun o z=>k it (by simp) o z⟩
 item:=by
  intro X hP hw hK hA i pins s σ H E I hf st hg;subst hP hw hK hA;obtain ⟨⟨old,h1⟩,h2⟩:=st
  obtain ⟨xs,x,hq,hx⟩:=hg
  obtain ⟨its,rv,p,hz⟩:=I.list hq
  obtain ⟨u,hu,ru⟩:=rv.get hx
  have lt: ∀ b∈[e,it],b < s.heap.objs.size:=fun b hb=>by
   rcases List.mem_cons.mp hb with z | z
   ·subst z;exact Heap.lt_size h1
   ·have z':b=it:=by simpa using z
    subst z';obtain ⟨o,e2,_⟩:=h2
    exact Heap.lt_size e2
  refine wpAny_pyNext_enum_item h1 h2 p.isList (x:=u) (by simpa using hu) hne fun h' o1 o2 o3 o4 o5=>⟨_,rfl,?_⟩
  refine wpAny_letOwnedTupleGo_enum (s:={ s with heap:=h',toks:=s.toks + 1 }) o1 fun h'' q1 q2=> ?_
  have pe:s.heap.objs.size≠e:=Nat.ne_of_gt (lt e (by simp))
  have ie:it≠e:=Ne.symm hne
  obtain ⟨J1,J2,J3⟩:=Zja (h':=h'') (t':=s.toks + 1) (ch:=[e,it]) (vs:=[.int i,x]) (us:=[.int i s.toks,u]) I hf lt (.cons ⟨_,rfl⟩ (.cons ru .nil)) (by show 2<=sizeLine;decide)
   (fun b o hb z=>by
    have n1:b≠e:=fun y=>hb (by simp[y])
    have n2:b≠it:=fun y=>hb (by simp[y])
    exact (q2.2 b n1).trans (o5 b o n1 n2 z)) ((q2.2 _ pe).trans o3)
  refine ⟨.ref s.heap.objs.size,_,J1,rfl,⟨_,J2,rfl,fun ys y hy hy2=> ?_⟩,⟨⟨u,by simpa using q1⟩,o2.at fun o z=>(q2.2 it ie).trans z⟩,J3⟩
  rw[I.list_inj hy hq,hx] at hy2;cases hy2
  rfl
 done:=by
  intro X hP hw hK hA i pins s σ H E I hf st hg;subst hP hw hK hA;obtain ⟨⟨old,h1⟩,h2⟩:=st
  obtain ⟨xs,hq,hx⟩:=hg
  obtain ⟨its,rv,p,hz⟩:=I.list hq
  obtain ⟨f0,f1,f2,f3,f4,f5⟩:=hf it (by simp)
  refine wpAny_pyNext_enum_end hB h1 h2 p.isList (by simp only[List.getElem?_toArray];exact List.getElem?_eq_none (by rw[<- rv.length];exact hx)) fun h' ext=>⟨rfl,?_⟩
  exact I.turned (t':=s.toks) (it:=it) (fun b o hb z=>ext b o hb z) f0 f1 f3 f4 f5
 self:=fun A i s Q E st q=>by
  obtain ⟨⟨old,h1⟩,_⟩:=st
  have hT:s.TypeIs (.ref e) "enumerate":=⟨_,h1,rfl⟩
  refine wpAny_pyIter_slot hT F.slot_enumerate_iter (wpAny_call_entry F.slot_enumerate_iter hT F.entry_enumerate_iter ?_ (F.args_enumerate_iter_1 _))
  show wpAny _ _ (ret (.ref e)) _ _ s
  exact wpAny_pure ⟨_,rfl,"enumerate",_,hT,F.slot_enumerate_next.lookup,q⟩
theorem Zov {P:Program}{w:World}{K:PySem.W.Frag}{B:Around}{elts:List Expr}{k0:Nat}{tp:Pos}(hB:B.handled=none){z TI TO i1 i2 a b:Addr}(D:ZipApart z TI TO i1 i2 a b):
  Turn P w K B (.Tuple elts k0 tp) (Itz K a b) [z,TI,TO,i1,i2] z (fun i h=>IsZip h z TI TO .none/\IsPair h TI (.ref i1) (.ref i2)/\(∃ x y,IsPair h TO x y)/\h.IsListIter i1 a i/\h.IsListIter i2 b i) where
 mem:=by simp
 obj:=fun i h st c hc=>by
  obtain ⟨h1,h2,⟨x,y,h3⟩,⟨o4,e4,c4,d4⟩,⟨o5,e5,c5,d5⟩⟩:=st
  simp only[List.mem_cons,List.not_mem_nil,or_false] at hc
  rcases hc with rfl | rfl | rfl | rfl | rfl
  ·exact ⟨_,h1,fun v q=>by cases q⟩
  ·exact ⟨_,h2,fun v q=>by cases q⟩
  ·exact ⟨_,h3,fun v q=>by cases q⟩
  ·exact ⟨o4,e4,fun v q=>by rw[d4] at q;cases q⟩
  ·exact ⟨o5,e5,fun v q=>by rw[d5] at q;cases q⟩
 keep:=fun i h h' st k=>by
  obtain ⟨h1,h2,⟨x,y,h3⟩,h4,h5⟩:=st
  exact ⟨k z (by simp) _ h1,k TI (by simp) _ h2,⟨x,y,k TO (by simp) _ h3⟩,h4.at fun o q=>k i1 (by simp) o q,h5.at fun o q=>k i2 (by simp) o q⟩
 item:=by
  intro X hP hw hK hA i pins s σ H E I hf st hg;subst hP hw hK hA;obtain ⟨h1,h2,⟨x0,y0,h3⟩,h4,h5⟩:=st
  obtain ⟨xs,ys,x,y,hq,hq2,hx,hy⟩:=hg
  obtain ⟨its,rv,p,hz⟩:=I.list hq
  obtain ⟨its2,rv2,p2,hz2⟩:=I.list hq2
  obtain ⟨u,hu,ru⟩:=rv.get hx
  obtain ⟨u2,hu2,ru2⟩:=rv2.get hy
  have lt: ∀ c∈[z,TI,TO,i1,i2],c < s.heap.objs.size:=fun c hc=>by
   simp only[List.mem_cons,List.not_mem_nil,or_false] at hc
   rcases hc with rfl | rfl | rfl | rfl | rfl
   ·exact Heap.lt_size h1
   ·exact Heap.lt_size h2
   ·exact Heap.lt_size h3
   ·obtain ⟨o,e2,_⟩:=h4;exact Heap.lt_size e2
   ·obtain ⟨o,e2,_⟩:=h5;exact Heap.lt_size e2
  refine wpAny_pyNext_zip_item D h1 h2 h3 h4 h5 p.isList p2.isList (x:=u) (y:=u2) (by simpa using hu) (by simpa using hu2) fun h' o1 o2 o3 o4 o5 o6 o7=>⟨_,rfl,?_⟩
  refine wpAny_letOwnedTupleGo_zip (s:={ s with heap:=h' }) o1 fun h'' q1 q2=> ?_
  have pe:s.heap.objs.size≠z:=Nat.ne_of_gt (lt z (by simp))
  obtain ⟨J1,J2,J3⟩:=Zja (h':=h'') (t':=s.toks) (ch:=[z,TI,TO,i1,i2]) (vs:=[x,y]) (us:=[u,u2]) I hf lt (.cons ru (.cons ru2 .nil)) (by show 2<=sizeLine;decide)
   (fun c o hc q=>by
    simp only[List.mem_cons,List.not_mem_nil,or_false,not_or] at hc;exact (q2.2 c hc.1).trans (o7 c o hc.1 hc.2.2.1 hc.2.2.2.1 hc.2.2.2.2 q)) ((q2.2 _ pe).trans o5)
  refine ⟨.ref s.heap.objs.size,_,J1,rfl,⟨_,J2,rfl,fun xs' ys' x' y' hx1 hy1 hx2 hy2=> ?_⟩,⟨q1,(q2.2 TI D.TIz).trans (o7 TI _ D.TIz D.TITO D.TIi1 D.TIi2 h2),⟨u,u2,(q2.2 TO D.TOz).trans o2⟩,o3.at fun o q=>(q2.2 i1 D.i1z).trans q,o4.at fun o q=>(q2.2 i2 D.i2z).trans q⟩,J3⟩
  rw[I.list_inj hx1 hq,hx] at hx2;rw[I.list_inj hy1 hq2,hy] at hy2;cases hx2
  cases hy2
  rfl
 done:=by
  intro X hP hw hK hA i pins s σ H E I hf st hg;subst hP hw hK hA;obtain ⟨h1,h2,⟨x0,y0,h3⟩,h4,h5⟩:=st
  obtain ⟨xs,ys,hq,hq2,hx⟩:=hg
  obtain ⟨its,rv,p,hz⟩:=I.list hq
  obtain ⟨its2,rv2,p2,hz2⟩:=I.list hq2
  have he:its.toArray[i]?=none\/its2.toArray[i]?=none:=by
   rcases hx with hx | hx
   ·exact .inl (by simp only[List.getElem?_toArray];exact List.getElem?_eq_none (by rw[<- rv.length];exact hx))
   ·exact .inr (by simp only[List.getElem?_toArray];exact List.getElem?_eq_none (by rw[<- rv2.length];exact hx))
  refine wpAny_pyNext_zip_end hB D h1 h2 h3 h4 h5 p.isList p2.isList he fun h' keep=>⟨rfl,?_⟩
  refine ZgB (t':=s.toks) (ch:=[z,TI,TO,i1,i2]) I (fun c o hc q=> ?_) hf
  simp only[List.mem_cons,List.not_mem_nil,or_false,not_or] at hc;exact keep c o hc.1 hc.2.2.1 hc.2.2.2.1 hc.2.2.2.2 q
 self:=fun A i s Q E st q=>wpAny_pyIter_zip st.1 q
theorem ZdH:bootBuiltins "enumerate"=some (.type "enumerate"):=by decide +kernel
section
variable {X:Cx}{ξ:XK}{a b:Expr}{elts:List Expr}{k0:Nat}{tp:Pos}{fa:Ev}{fs:Av}{p pos:Pos}{ta:TA}
noncomputable def ZoY (K:PySem.W.Frag)(t:TA):TI:=fun σ H R=>t σ H fun vs H1=> ∃ l xs,vs=[.ref l]/\SqL K H1 l xs/\R (Ite K l) H1
theorem Zka (hc:X.A.handled=none)(hg:Gl X "enumerate")(hm:X.mg "enumerate"=none)(ha:PA X [a] ta)(hs:starEach [a] X.env=(false,eval a X.env) :: starEach [] X.env:=by rfl)(hpl:(backTo pos (starEach [] X.env)).any (·.1)=false:=by rfl):
  PI X (.Tuple elts k0 tp) (.Call (.Name "enumerate" p) [a] [] pos) (ZoY X.K ta):=by
 intro pins s σ H R I h;refine wpAny_Call_Name_kw (Zdc I hg hm ZdH (PyProof.Rows.callWith_type1 (thn (ha pos pins s σ H _ I h) fun us s1 ⟨vs,H1,I1,r1,q1⟩=> ?_) hs hpl) (by decide) (by decide))
 obtain ⟨l,xs,rfl,hq,q⟩:=q1
 obtain ⟨u,rfl,ru⟩:=Zbz r1
 cases ru
 obtain ⟨its,rv,pl,hz⟩:=I1.list hq
 refine call_enumerate_list pl.isList fun h' e1 e2 e3 e4=> ?_
 have T:=ZgC (P:=X.prog) (w:=X.w) (K:=X.K) (B:=X.A) (elts:=elts) (k0:=k0) (tp:=tp) hc l (s1.heap.objs.size + 1) s1.heap.objs.size (Nat.ne_of_gt (Nat.lt_succ_self _))
 have I2:Inv X pins σ H1 { s1 with heap:=h',toks:=s1.toks }:=I1.kept (t':=s1.toks) e4
 refine T.self X.A 0 { s1 with heap:=h' } _ _ ⟨⟨_,e1⟩,e2⟩ ⟨_,_,_,_,H1,rfl,I2,T,⟨⟨_,e1⟩,e2⟩,fun b hb=> ?_,q⟩
 have hb':s1.heap.objs.size<=b:=by
  simp only[List.mem_cons,List.not_mem_nil,or_false] at hb
  rcases hb with rfl | rfl<;>omega
 exact I1.fpOk hb' (I1.hok.fresh hb')
noncomputable def iEn (fs:Av):Ro->Sto->Out Src:=fun ρ M=>(fs ρ M).bind fun ds M1=>match ds with | [.ref n]=> .ok (.enu n) M1 | _=> .bad
noncomputable def iZp (fs:Av):Ro->Sto->Out Src:=fun ρ M=>(fs ρ M).bind fun ds M1=>match ds with | [.ref n,.ref m]=> .ok (.zip n m) M1 | _=> .bad
theorem ZcV (hc:X.A.handled=none)(hm:X.mg "enumerate"=none)(ha:DA X ξ [a] fs)(hg:Gl X "enumerate":=by rfl)(hs:starEach [a] X.env=(false,eval a X.env) :: starEach [] X.env:=by rfl)(hpl:(backTo pos (starEach [] X.env)).any (·.1)=false:=by rfl):
  DI X ξ (.Tuple elts k0 tp) (.Call (.Name "enumerate" p) [a] [] pos) (iEn fs):=by
 obtain ⟨ta,pa,qa⟩:=ha
 refine ⟨_,Zka hc hg hm pa hs hpl,fun σ ρ H α M R s hh q=>qa σ ρ H α M _ s hh (OG.seq q fun ds M1 vs H1 α1 e1 h1 r1 w1=> ?_)⟩
 match r1 with
 | .nil=>exact w1.elim
 | .cons r (.cons _ _)=>cases r<;>exact w1.elim
 | .cons r .nil=>
  cases r with
  | @ref l n hp=>
   obtain ⟨xs0,g0⟩:=h1.some_at hp
   refine ⟨l,xs0,rfl,SqL.of g0,w1 _ H1 α1 Ext.refl h1 fun i H' α' M' ex hr=> ?_⟩
   cases em:M'[n]? with
   |none=>rw[show nxt (.enu n) i M'=none by simp only[nxt,em]];exact True.intro
   |some so=>
    cases so with
    |lst es=>
     obtain ⟨xs,g1,g2⟩:=hr.at (ex.get hp) em
     cases ei:es[i]? with
     |none=>rw[show nxt (.enu n) i M'=some none by simp only[nxt,em,ei]];exact ⟨xs,SqL.of g1,by rw[g2.length];exact List.getElem?_eq_none_iff.mp ei⟩
     |some d=>
      obtain ⟨v,k1,k2⟩:=g2.get ei
      rw[show nxt (.enu n) i M'=some (some (D.tup [D.int i,d])) by simp only[nxt,em,ei]]
      refine ⟨⟨xs,v,SqL.of g1,k1⟩,fun x H'' y=> ?_⟩
      obtain ⟨pp,y1,rfl,y3⟩:=y
      have y4:=y3 xs v (SqL.of g1) k1
      subst y4;exact ⟨Ext.new0 y1,hr.tup y1,.tup Zm (.cons (.int i) (.cons (Rep.mono (Ext.new0 y1) k2) .nil))⟩
  |_=>exact w1.elim
end
end DL
end
section
namespace DL
open PySem PySem.Spec PyProof.Rows L2
open PySem.SeqAt (EqAt RcAt RcNeAt)
section
variable {X:Cx}{ξ:XK}{pins:List (Addr × Obj)}{σ:L2.St}{H:Hp}{s:Shared}{α:List Addr}{M:Sto}
noncomputable def eqs (M:Sto)(d:D):List D->Option (List Bool)
 | []=>some []
 |x :: r=>match eqF 12 M x d with | some b=>(match eqs M d r with | some bs=>some (b :: bs) | none=>none) | none=>none
end
section
variable {X:Cx}{ξ:XK}
noncomputable def inE (x y:D)(M:Sto):Option Bool:=match Zds M y with | some ds=>(match eqs M x ds with | some bs=>some (bs.any id) | none=>none) | none=>none
noncomputable def Zq2:Bo:=fun x y M=>match inE x y M with | some b=> .ok (.bl b) M | none=> .bad
noncomputable def ZgD:Bo:=fun x y M=>match inE x y M with | some b=> .ok (.bl (!b)) M | none=> .bad
noncomputable def Zsj:Me:=fun x ds M=>match x,ds with
 | .ref n,[d]=>(match M[n]? with | some (.lst xs)=>(match eqs M d xs with | some bs=>(match bs.findIdx? id with | some j=> .ok (.int (j:Nat)) M | none=> .bad) | none=> .bad) | none=> .bad)
 |_,_=> .bad
noncomputable def Zsk:Me:=fun x ds M=>match x,ds with
 | .ref n,[d]=>(match M[n]? with | some (.lst xs)=>(match eqs M d xs with | some bs=> .ok (.int (bs.countP id:Nat)) M | none=> .bad) | none=> .bad)
 |_,_=> .bad
noncomputable def ZdI:List D->Option (List Int)
 | []=>some []
 | .int b :: r=>match ZdI r with | some bs=>some (b :: bs) | none=>none
 |_ :: _=>none
noncomputable def Zmn (g:List Int->Option Int):List D->Sto->Out D:=fun ds M=>match ds with
 | [x]=>(match Zds M x with | some xs=>(match x with | .con _=> .bad | .tup _=> .bad | _=>(match ZdI xs with | some ns=>(match g ns with | some i=> .ok (.int i) M | none=> .bad) | none=> .bad)) | none=> .bad)
 |_=> .bad
end
end DL
end
section
namespace DL
open PySem PySem.Spec PyProof.Rows L2
section
variable {κ:Type}[DecidableEq κ]
variable {K:PySem.W.Frag}{H H':Hp}{α α':List Addr}{key:κ->D}{dec:D->Option κ}
end
section
variable {X:Cx}{ξ:XK}{H:Hp}{α:List Addr}{M:Sto}
end
section
variable {X:Cx}{ξ:XK}{o i e:Expr}{fo fi f:Ev}{pos pos':Pos}
end
end DL
end
section
namespace DL
open PySem PySem.Spec PyProof.Rows L2
section
variable {X:Cx}{ξ:XK}{tg a:Expr}{fs:Av}{p pos:Pos}{ta:TA}
noncomputable def iRv (fs:Av):Ro->Sto->Out Src:=fun ρ M=>(fs ρ M).bind fun ds M1=>match ds with | [.ref n]=>(match M1[n]? with | some (.lst xs)=> .ok (.rev n xs.length) M1 | none=> .bad) | _=> .bad
end
end DL
end
section
namespace DL
open PySem PySem.Spec PyProof.Rows L2
section
variable {X:Cx}{ξ:XK}{e e1 e2:Expr}{es:List Expr}{f:Ev}{pos:Pos}
noncomputable def eFm (f:Ev):Ev:=fun ρ M=>(f ρ M).bind fun x M1=>match x with
 | .int i=>if i.natAbs.log2 < 1900 then .ok (.str (Str.ofString (toString i))) M1 else .bad
 | .str y=>if y.length<=100000 then .ok (.str y) M1 else .bad
 |_=> .bad
theorem Zmo (ha:DE X ξ e f):DE X ξ (.FormattedValue e (-1) none pos) (eFm f):=by
 obtain ⟨ta,pa,qa⟩:=ha
 refine ⟨fun σ H Q=>ta σ H fun x H1=>(∃ i,x= .int i/\i.natAbs.log2 < 1900/\Q (.str (Str.ofString (toString i))) H1)\/ ∃ y,x= .str y/\y.length<=100000/\Q (.str y) H1,fun pins s σ H Q I h=> ?_,fun σ ρ H α M Q s h q=> ?_⟩
 ·refine wpAny_FormattedValue_plain (wpAny_mono (pa pins s σ H _ I h) (fun v s1 ⟨x,H1,I1,r1,q1⟩=> ?_) fun _ _ z=>z)
  rcases q1 with ⟨i,rfl,hi,q⟩ | ⟨y,rfl,hy,q⟩
  ·obtain ⟨t,rfl⟩:=r1
   exact wpAny_formatField_int (by omega) ⟨.str (Str.ofString (toString i)),H1,I1.tok _,⟨_,rfl⟩,q⟩
  ·obtain ⟨t,rfl⟩:=r1
   exact wpAny_formatField_str ⟨.str y,H1,I1,⟨_,rfl⟩,q⟩ ⟨.str y,H1,I1.tok _,⟨_,rfl⟩,q⟩ (Nat.le_trans hy (by rw[sizeLine_eq];decide))
 ·refine qa σ ρ H α M _ s h (OG.seq q fun x M1 v H1 α1 e1 h1 r1 q1=> ?_)
  cases r1 with
  |int i=>
   by_cases hi:i.natAbs.log2 < 1900
   ·simp only[hi,if_true] at q1
    exact .inl ⟨i,rfl,hi,q1 _ H1 α1 Ext.refl h1 (.str _)⟩
   ·simp only[hi,if_false] at q1
    exact q1.elim
  |str y=>
   by_cases hi:y.length<=100000
   ·simp only[hi,if_true] at q1
    exact .inr ⟨y,rfl,hi,q1 _ H1 α1 Ext.refl h1 (.str _)⟩
   ·simp only[hi,if_false] at q1
    exact q1.elim
  |_=>exact q1.elim
noncomputable abbrev Jv:=Str->Ro->Sto->Out Str
noncomputable def PJ (X:Cx)(es:List Expr)(t:L2.St->Hp->Str->(Str->Hp->Prop)->Prop):Prop:=
 ∀ (pins:List (Addr × Obj)) (s:Shared) (σ:L2.St) (H:Hp) (acc:Str) (Q:Str->Hp->Prop),Inv X pins σ H s->t σ H acc Q->Joins (model X.prog X.w) X.A X.xe (evalEach es X.env) acc (fun out s1=>out.length<=100000/\ ∃ H',Inv X pins σ H' s1/\Q out H') s
noncomputable def DJ (X:Cx)(ξ:XK)(es:List Expr)(g:Jv):Prop:= ∃ t,PJ X es t/\ ∀ σ ρ H α M acc (Q:Str->Hp->Prop),SR X.K H α σ ρ->HR X.K H α M->OG X.K (fun _ _ v d=>v=d) H α ξ Q (g acc ρ M)->t σ H acc Q
noncomputable def jNil:Jv:=fun acc _ M=>if acc.length<=100000 then .ok acc M else .bad
noncomputable def ZcW (f:Ev)(g:Jv):Jv:=fun acc ρ M=>(f ρ M).bind fun x M1=>match x with
 | .str y=>if (acc ++ y).length<=100000 then g (acc ++ y) ρ M1 else .bad
 |_=> .bad
noncomputable def eFs (g:Jv):Ev:=fun ρ M=>(g Str.empty ρ M).bind fun x M1=> .ok (.str x) M1
theorem Zmp:DJ X ξ [] jNil:=by
 refine ⟨fun σ H acc Q=>acc.length<=100000/\Q acc H,fun pins s σ H acc Q I h=>⟨h.1,H,I,h.2⟩,fun σ ρ H α M acc Q s h q=> ?_⟩
 unfold jNil at q
 by_cases hl:acc.length<=100000
 ·rw[if_pos hl] at q
  exact ⟨hl,q acc H α Ext.refl h rfl⟩
 ·rw[if_neg hl] at q
  exact q.elim
theorem Zef {g:Jv}(ha:DE X ξ e f)(hr:DJ X ξ es g):DJ X ξ (e :: es) (ZcW f g):=by
 obtain ⟨ta,pa,qa⟩:=ha
 obtain ⟨tr,pr',qr⟩:=hr
 refine ⟨fun σ H acc Q=>ta σ H fun x H1=> ∃ y,x= .str y/\(acc ++ y).length<=100000/\tr σ H1 (acc ++ y) Q,fun pins s σ H acc Q I h=> ?_,fun σ ρ H α M acc Q s h q=> ?_⟩
 ·show wpAny _ _ (eval e X.env) _ _ s
  refine wpAny_mono (pa pins s σ H _ I h) (fun v s1 ⟨x,H1,I1,r1,q1⟩=> ?_) fun _ _ z=>z
  obtain ⟨y,rfl,hy,q⟩:=q1
  obtain ⟨t,rfl⟩:=r1
  exact ⟨y,t,rfl,Nat.le_trans hy (by rw[sizeLine_eq];decide),pr' pins s1 σ H1 (acc ++ y) Q I1 q⟩
 ·refine qa σ ρ H α M _ s h (OG.seq q fun x M1 v H1 α1 e1 h1 r1 q1=> ?_)
  cases r1 with
  |str y=>
   by_cases hi:(acc ++ y).length<=100000
   ·simp only[hi,if_true] at q1
    exact ⟨y,rfl,hi,qr σ ρ H1 α1 M1 (acc ++ y) Q (s.mono e1) h1 q1⟩
   ·simp only[hi,if_false] at q1
    exact q1.elim
  |_=>exact q1.elim
theorem ZoZ {g:Jv}(h:DJ X ξ (e1 :: e2 :: es) g):DE X ξ (.JoinedStr (e1 :: e2 :: es) pos) (eFs g):=by
 obtain ⟨t,pj,qj⟩:=h
 refine ⟨fun σ H Q=>t σ H Str.empty fun x H1=>Q (.str x) H1,fun pins s σ H Q I h=> ?_,fun σ ρ H α M Q s h q=> ?_⟩
 ·refine wpAny_JoinedStr ?_
  have:=pj pins s σ H Str.empty _ I h
  have mono: ∀ (ms:List (Sem Value)) (acc:Str) (P R:Str->Shared->Prop) (s:Shared),(∀ o s,P o s->R o s)->Joins (model X.prog X.w) X.A X.xe ms acc P s->Joins (model X.prog X.w) X.A X.xe ms acc R s:=by
   intro ms
   induction ms with
   |nil=>intro acc P R s hp hj;exact hp _ _ hj
   |cons m r ih=>
    intro acc P R s hp hj;exact wpAny_mono hj (fun v s1 ⟨y,t,e,l,k⟩=>⟨y,t,e,l,ih _ P R s1 hp k⟩) fun _ _ z=>z
  refine mono _ _ _ _ s (fun o s1 ⟨hl,H',I',q⟩=> ?_) this
  exact ⟨Nat.le_trans hl (by rw[sizeLine_eq];decide),.str o,H',I'.tok _,⟨_,rfl⟩,q⟩
 ·refine qj σ ρ H α M Str.empty _ s h (OG.seq q fun x M1 v H1 α1 e1 h1 r1 q1=> ?_)
  cases r1
  exact q1 _ H1 α1 Ext.refl h1 (.str x)
end
end DL
end
section
namespace DL
open PySem PySem.Spec PyProof.Rows L2
theorem Zfl {β γ:Type}{o:Out β}{f:β->Sto->Out γ}{g:γ->Sto->Fl}:ZP (o.bind f) g=ZP o fun x M=>ZP (f x M) g:=by cases o<;>rfl
section
variable {X:Cx}{ξ:XK}{tg iter elt:Expr}{ifs:List Expr}{scope:Scope}{cl:List (Str × Addr)}{N:List Str}{k:Nat}{fr:List Nat}{fi:Ro->Sto->Out Src}{gt:Tg}{c:Tv}{f:Ev}{pos:Pos}
theorem Zeg (iv:Nat){x:Str}{pos' spos:Pos}(hN:X.N.Nodup)(B:Blk X scope cl N k fr)(hi:DI X ξ tg iter fi)(hg: ∀ C fp s H,DG (blk X scope cl N C fp s H) tg gt)(ht: ∀ C fp s H,DC (blk X scope cl N C fp s H) ifs c)(he: ∀ C fp s H,DE (blk X scope cl N C fp s H) E0 elt f)
  (hiv:X.N[iv]?=some x:=by rfl) (hxl:Loc X.env.scope x:=by first | exact Or.inl rfl | exact Or.inr rfl) (hm:X.may iv=true:=by rfl) (hsw:swapsWith (.ListComp elt [⟨tg,iter,ifs,0⟩] scope pos) (some (.Name x pos')) spos.line X.env=pure true:=by rfl) (hf:X.fn x=true\/X.env.scope.names.lookup x=some .local:=by first | exact .inl rfl | exact .inr rfl | assumption)
  (hs: ∀ x,foldedSetIterable iter X.env x=pure x:=by intro _;rfl):DS X ξ (.Assign [.Name x pos'] (.ListComp elt [⟨tg,iter,ifs,0⟩] scope pos) spos) (ZJ (gNm iv) (Zan fi k fr gt c f)):=by
 obtain ⟨wi,pi,qi⟩:=hi
 refine ⟨fun Dn σ H=> ∃ ρ α M,SR X.K H α σ ρ/\HR X.K H α M/\FP X.K H α ξ Dn (ZJ (gNm iv) (Zan fi k fr gt c f) ρ M),?_,fun σ ρ H α M Dn s h q=>⟨ρ,α,M,s,h,q⟩⟩
 rintro pins s σ H Dn I ⟨ρ,α,M,sr,hr,op⟩
 rw[exec_Assign_Name_used _ _ _ _ hsw];refine wpAny_bind (wpAny_standAt (wpAny_bind ?_))
 show wpAny _ X.A (do let _ <- comprehension (.ListComp elt [⟨tg,iter,ifs,0⟩] scope pos) scope X.env _ (newList []) false (eval iter X.env) (some (assign (.Name x pos') X.env))) _ _ s
 have op:FP X.K H α ξ Dn (ZP (fi ρ M) fun src M1=>ZP (match Zcg src gt c f M1.length (cnt src M1) 0 (roB k fr ρ) (M1 ++ [.lst []]) with | .ok _ M2'=> .ok (.ref M1.length) M2' | _=> .bad) fun d M1=>Fl.nx (ρ.set iv (some d)) M1):=by
  have e:ZJ (gNm iv) (Zan fi k fr gt c f) ρ M=(ZP (fi ρ M) fun src M1=>ZP (match Zcg src gt c f M1.length (cnt src M1) 0 (roB k fr ρ) (M1 ++ [.lst []]) with | .ok _ M2'=> .ok (.ref M1.length) M2' | _=> .bad) fun d M1=>Fl.nx (ρ.set iv (some d)) M1):=by
   unfold ZJ Zan;rw[Zfl];rfl
  rw[<- e];exact op
 refine wpAny_bind (wpAny_mono (wpAny_comprehension_free (Q:=fun _ s'=>SP X pins Dn .next s') (use:=some (assign (.Name x pos') X.env)) rfl hs B.clos B.kind B.names ?_) (fun _ s' hq=>wpAny_pure (wpAny_pure hq)) fun _ _ e=>e)
 refine thn (pi pins s σ H (fun J H2=> ∃ α2 M2 src,Ext X.K H H2 α α2/\HR X.K H2 α2 M2/\Zme X.K H2 α2 J src/\FP X.K H2 α2 ξ Dn (ZP (match Zcg src gt c f M2.length (cnt src M2) 0 (roB k fr ρ) (M2 ++ [.lst []]) with | .ok _ M2'=> .ok (.ref M2.length) M2' | _=> .bad) fun d M1=>Fl.nx (ρ.set iv (some d)) M1)) I
  (qi σ ρ H α M _ sr hr (FP.seq op fun src M1 J H1 α1 e1 h1 r1 q1=>⟨α1,M1,src,e1,h1,r1,q1⟩))) fun v s1 w1=>thn w1 fun itv s2 w2=> ?_
 obtain ⟨it,fp,tn,J,H2,rfl,I2,T,st2,f2,α2,M2,src,e2,h2,sc,op2⟩:=w2
 have srI:=sr.mono e2
 refine wpAny_newObj_type ?_
 have I3:Inv X pins σ (upd H2 s2.heap.objs.size (.lst [])) { s2 with heap:=s2.heap.push { cls:= .type "list",data:= .seq ([]:List Value).toArray } }:=I2.lnew (its:=[]) (t':=s2.toks) .nil (Nat.zero_le _)
 have fD:H2 s2.heap.objs.size=none:=I2.fresh
 generalize hD:s2.heap.objs.size=D at I3 fD;generalize hs3:({ s2 with heap:=s2.heap.push { cls:= .type "list",data:= .seq ([]:List Value).toArray } }:Shared)=s3 at I3
 generalize hH3:upd H2 D (.lst [])=H3 at I3;have h3:HR X.K H3 (α2 ++ [D]) (M2 ++ [.lst []]):=by rw[<- hH3];exact h2.new fD .nil
 have e3:Ext X.K H2 H3 α2 (α2 ++ [D]):=by rw[<- hH3];exact Ext.new fD
 have aD:RefK H3 (α2 ++ [D]) 0 M2.length D:=⟨h2.last D,by first | exact Kn.lst Zm | (rw[<- hH3];exact Kn.lst Zm)⟩
 have lt2: ∀ b∈fp,b < s2.heap.objs.size:=fun b hb=>let ⟨o,e,_⟩:=T.obj _ _ st2 b hb;Heap.lt_size e
 have keep3: ∀ b o,s2.heap.get? b=some o->s3.heap.get? b=some o:=fun b o e=>by rw[<- hs3];exact Heap.get?_push_of_some _ e
 have f3: ∀ b∈fp,Zc9 X pins H3 b:=fun b hb=>⟨by rw[<- hH3,Zl (by rw[<- hD];exact Nat.ne_of_lt (lt2 b hb))];exact (f2 b hb).1,(f2 b hb).2⟩
 have lt3: ∀ b∈fp,b < s3.heap.objs.size:=fun b hb=>let ⟨o,e,_⟩:=T.obj _ _ st2 b hb;Heap.lt_size (keep3 b o e)
 have st3:tn 0 s3.heap:=T.keep _ _ _ st2 fun b _ o e=>keep3 b o e
 refine wpAny_newFunctionEnv B.cell (by intro y hy;simp at hy) (fun h₁ hns₁ hsb₁=> ?_) B.kind
 have keep4: ∀ b o,s3.heap.get? b=some o->h₁.get? b=some o:=fun b o e=>hsb₁.extBut b o (Nat.ne_of_lt (Heap.lt_size e)) (Heap.get?_push_of_some _ e)
 have I4:=Zgv (tk:=s3.toks + ([]:List (Str × Value)).length) B I3 f3 lt3 hns₁ keep4
 have st4:tn 0 h₁:=T.keep _ _ _ st3 fun b _ o e=>keep4 b o e
 have fp5: ∀ {H':Hp},(∀ b∈fp,H' b=none)-> ∀ b∈fp,Zc9 (blk X scope cl N s3.heap.objs.size fp s3 H3) [] H' b:=fun hn b hb=>⟨hn b hb,Nat.ne_of_lt (lt3 b hb),(Zgu B I3 f3 lt3).exfs b hb,.inl hb,fun x c h=>(f3 b hb).2.2.2.2.1 x c (B.sub x c h),fun p hp=>(by simp[blk] at hp)⟩
 cases er:Zcg src gt c f M2.length (cnt src M2) 0 (roB k fr ρ) (M2 ++ [.lst []]) with
 |exc x M9=>rw[er] at op2;exact op2.elim
 |bad=>rw[er] at op2;exact op2.elim
 |ok u9 M9=>
  rw[er] at op2;have loop:codeAny (model X.prog X.w) X.A (.compLoop (.ListComp elt [⟨tg,iter,ifs,0⟩] scope pos) 0 (.ref it) (.ref D) (compEnvC scope cl s3.heap.objs.size X.env)) (compPost (model X.prog X.w) X.A X.xe (some (assign (.Name x pos') X.env)) (fun _ s'=>SP X pins Dn .next s') (.ref D) s3.heap.objs.size) { s3 with heap:=h₁,toks:=s3.toks + ([]:List (Str × Value)).length }:=by
   refine ZeQ (Y:=blk X scope cl N s3.heap.objs.size fp s3 H3) T (fun _ _ z=>z) fp5 (hg _ fp s3 H3) (ht _ fp s3 H3) (he _ fp s3 H3) (fun i H' α' M' ex hr=>sc i H' α' M' (e3.trans ex) hr) aD I4 st4 (fun b hb=>(f3 b hb).1) ((srI.blk).mono e3) h3 er ?_
   intro σ5 H5 α5 s6 I6 ex5 hr5;obtain ⟨I7,tu⟩:=ZeP B I3 f3 I6
   obtain ⟨m6,hm6,_⟩:=id I6.loc
   refine wpAny_assign_Name (Zdb (v:= .ref D) I7 hN hiv hxl hm rfl (fun s8 I8 ⟨a,sb8,ha⟩=> ?_) hf)
   have nca:s3.heap.objs.size≠a:=by
    rcases ha with e | e
    ·rw[e];exact Nat.ne_of_gt I3.lt
    ·intro z
     obtain ⟨v,o,e',_⟩:=I3.cell x a e
     exact absurd (Heap.lt_size e') (by rw[<- z];exact Nat.lt_irrefl _)
   exact ⟨m6,hm6.sameBut sb8 nca,fun h' sb=>⟨_,H5,tu _ s8 h' I8 (fun b o hb e=>(sb.2 b hb).trans e),op2 _ H5 α5 (e3.trans ex5) hr5 ((srI.mono (e3.trans ex5)).set iv (.ref (ex5.get aD)))⟩⟩
  exact codeAny_compStart_list loop (T.self X.A 0 _ _ _ st4 loop)
end
end DL
end
section
namespace DL
open PySem PySem.Spec PyProof.Rows L2
noncomputable def Zsl:Bo:=fun x y M=>match x,y with
 | .ref n,.int k=>match M[n]? with
  |some (.lst xs)=>if (-9223372036854775808<=k/\k < 9223372036854775808)/\xs.length * k.toNat<=100000 then .ok (.ref M.length) (M ++ [.lst (List.replicate k.toNat xs).flatten]) else .bad
  |none=> .bad
 |_,_=> .bad
section
variable {X:Cx}{ξ:XK}{a b:Expr}{fa fb:Ev}{pos:Pos}
end
end DL
end
namespace DL
open PySem PySem.Spec L2
open PySem.W
section
variable {prog:Program}{w:World}{A:Around}{E:Value->Shared->Prop}{s:Shared}
end
section
variable {prog:Program}{w:World}{A:Around}{s:Shared}{R:Result->Shared->Prop}
variable {I:Addr}{fp wr:List Addr}{G:Array GenState->Array GenState->Prop}{n:Nat}{P:Nat->Value->Prop}{St:Nat->Shared->Prop}
end
section
variable {prog:Program}{w:World}{A:Around}{E:Value->Shared->Prop}{s:Shared}
variable {I:Addr}{fp wr:List Addr}{G:Array GenState->Array GenState->Prop}{n:Nat}{P:Nat->Value->Prop}{St:Nat->Shared->Prop}
end
section
variable {X:Cx}{ξ:XK}{a:Expr}{fs:Av}{p1 p2 p3 pos:Pos}{ta:TA}
end
end DL
section
namespace DL3
open PySem PySem.Spec PyProof.Rows L2 DL
open Sem (wp)
section
variable {prog:Program}{w:World}{A:Around}{E:Value->Shared->Prop}{s:Shared}
end
section
variable {prog:Program}{w:World}{A:Around}{E:Value->Shared->Prop}{s:Shared}
end
section
variable {X:Cx}{ξ:XK}{y1 y2 y3:Expr}{elts:List Expr}{k0:Nat}{tp:Pos}{fs:Av}{p pos:Pos}{ta:TA}
end
end DL3
end
section
namespace DL4
open PySem PySem.Spec PyProof.Rows L2 DL
open Sem (wp)
section
variable {prog:Program}{w:World}{A:Around}{E:Value->Shared->Prop}{s:Shared}
end
section
variable {prog:Program}{w:World}{A:Around}{E:Value->Shared->Prop}{s:Shared}
end
section
variable {X:Cx}{ξ:XK}{y1 y2 y3 y4:Expr}{elts:List Expr}{k0:Nat}{tp:Pos}{fs:Av}{p pos:Pos}{ta:TA}
end
end DL4
end
section
namespace PySem.SeqAt
open AutoSeq1 (wpAny_loadPart')
open MeetsSeq MeetsSeq2 MeetsSeq3 SeqRoads2
end PySem.SeqAt
namespace DL
open PySem PySem.Spec PyProof.Rows L2
open PySem.SeqAt
section
variable {X:Cx}{pins:List (Addr × Obj)}{σ:L2.St}{H:Hp}{s:Shared}{α:List Addr}{M:Sto}
end
end DL
end
section
namespace PySem
open Sem (wp)
section
variable {prog:Program}{w:World}{A:Around}{R:Result->Shared->Prop}{I:Addr}{fp wr:List Addr}{P:Nat->Value->Prop}{St:Nat->Heap->Prop}
end
section
variable {prog:Program}{w:World}{A:Around}{E:Value->Shared->Prop}{s:Shared}
end
end PySem
namespace DL
open PySem PySem.Spec PyProof.Rows L2
open PySem.SeqAt
section
variable {X:Cx}{pins:List (Addr × Obj)}{σ:L2.St}{H:Hp}{s:Shared}{α:List Addr}{M:Sto}
end
end DL
end
section
namespace HT
open PySem PyProof.Rows
section
open PySem.SeqAt
open PySem.AutoSeq1 (wpAny_loadPart')
open PySem.MeetsSeq PySem.MeetsSeq2 PySem.MeetsSeq3
end
section
variable {prog:Program}{w:World}{A:Around}{E:Value->Shared->Prop}{s:Shared}
end
end HT
namespace DL
open PySem PySem.Spec PyProof.Rows L2
section
variable {X:Cx}{ξ:XK}
end
end DL
end
section
namespace DL
open PySem PySem.Spec PyProof.Rows L2
end DL
end
section
namespace DL
open PySem PySem.Spec PyProof.Rows L2
section
variable {X:Cx}{pins:List (Addr × Obj)}{σ:L2.St}{H:Hp}{s:Shared}{a b:Addr}{v:V}{r:Value}{A:Around}{E:Value->Shared->Prop}
end
section
variable {X:Cx}{ξ:XK}{tg iter kx vx:Expr}{ifs:List Expr}{scope:Scope}{cl:List (Str × Addr)}{N:List Str}{k:Nat}{fr:List Nat}{fi:Ro->Sto->Out Src}{gt:Tg}{c:Tv}{fk fv:Ev}{pos:Pos}
end
end DL
end
section
namespace DL
open PySem PySem.Spec PyProof.Rows L2
section
variable {prog:Program}{w:World}{A:Around}{E:Value->Shared->Prop}{s:Shared}{d it:Addr}{od:Obj}{es:Array DictEntry}{ep i n:Nat}
end
section
variable {X:Cx}{pins:List (Addr × Obj)}{σ:L2.St}{H:Hp}{s:Shared}{d:Addr}{o:Obj}{kvs:List (List Key × V)}
end
section
variable {X:Cx}{ξ:XK}{tg a:Expr}{f:Ev}{te:TE}
end
end DL
end
section
namespace DL
open PySem PySem.Spec PyProof.Rows L2
section
variable {X:Cx}{ξ:XK}{e:Expr}{es:List Expr}{fs:Av}{p pos:Pos}{x:Str}
end
section
variable {X:Cx}{ξ:XK}{pos p:Pos}{v:Expr}{keys:List (Option Expr)}{values:List Expr}{k:Str}{f:Ev}{kfs:List (Str × Ev)}{j:Nat}
end
section
variable {X:Cx}{ξ:XK}{tg a:Expr}{f:Ev}{te:TE}
end
end DL
end
section
namespace DL
open PySem PySem.Spec PyProof.Rows L2
section
variable {X:Cx}{ξ:XK}{pins:List (Addr × Obj)}{σ:L2.St}{H:Hp}{s:Shared}{α:List Addr}{M:Sto}
end
end DL
end
section
namespace DL
open PySem PySem.Spec PyProof.Rows L2
section
variable {X:Cx}{ξ:XK}{tg:Expr}{fs:Av}{pos:Pos}
end
end DL
end
namespace DL
open PySem PySem.Spec L2
section
variable {X:Cx}{ξ:XK}{a b c:Expr}{fa fb fc:Ev}{pos:Pos}
noncomputable def Zkb (f:Ev):Prop:= ∀ ρ,(∃ d,∀ M,f ρ M= .ok d M)\/ ∀ M,f ρ M= .bad
theorem Zmq {d:D}:Zkb (eC d):=fun _=> .inl ⟨d,fun _=>rfl⟩
theorem Zo0 {r r':R2}{f g:Bo}(hp:Zkb fb)(hf:BO X ξ r f)(hg:BO X ξ r' g){ta tb tc:TE}
  (qa: ∀ σ ρ H α M Q,SR X.K H α σ ρ->HR X.K H α M->OP X.K H α ξ Q (fa ρ M)->ta σ H Q)
  (qb: ∀ σ ρ H α M Q,SR X.K H α σ ρ->HR X.K H α M->OP X.K H α ξ Q (fb ρ M)->tb σ H Q)
  (qc: ∀ σ ρ H α M Q,SR X.K H α σ ρ->HR X.K H α M->OP X.K H α ξ Q (fc ρ M)->tc σ H Q):
  ∀ σ ρ H α M Q,SR X.K H α σ ρ->HR X.K H α M->OP X.K H α ξ Q (Zam (e2 f fa fb) (e2 g fb fc) ρ M)->ZiU r r' ta tb tc σ H Q:=by
 intro σ ρ H α M Q s h q;unfold Zam e2 at q
 rcases hp ρ with ⟨d,hd⟩ | hd
 ·have q:OP X.K H α ξ Q ((fa ρ M).bind fun x M1=>(fb ρ M1).bind fun y M2=>(f x y M2).bind fun z M3=>match z with | .bl k=>if k=true then (fc ρ M3).bind fun w M4=>g d w M4 else .ok (.bl false) M3 | _=> .bad):=by
   simp only[hd,Out.bind] at q ⊢;cases e:fa ρ M with
   |ok x M1=>simp only[e] at q ⊢;exact q
   |exc c M1=>simp only[e] at q ⊢;exact q
   |bad=>simp only[e] at q ⊢;exact q
  refine qa σ ρ H α M _ s h (OG.seq q fun x M1 v H1 α1 e1 h1 r1 q1=> ?_)
  rw[hd] at q1;refine qb σ ρ H1 α1 M1 _ (s.mono e1) h1 ?_
  rw[hd];intro w H2 α2 e2 h2 r2;have q2:=OG.ext (o:=(f x d M1).bind fun z M3=>match z with | .bl k=>if k=true then (fc ρ M3).bind fun w M4=>g d w M4 else .ok (.bl false) M3 | _=> .bad) q1 e2
  refine hf H2 α2 M1 v w x d _ h2 (Rep.mono e2 r1) r2 (OG.seq q2 fun z M3 u H3 α3 e3 h3 r3 q3=> ?_)
  cases r3 with
  |bl k=>
   refine ⟨k,rfl,?_⟩
   cases k with
   |true=>
    refine Zh2 (qc σ ρ H3 α3 M3 _ ((s.mono e1).mono (e2.trans e3)) h3 (OG.seq q3 fun w' M4 u' H4 α4 e4 h4 r4 q4=> ?_))
    exact hg H4 α4 M4 w u' d w' Q h4 (Rep.mono (e3.trans e4) r2) r4 q4
   |false=>exact Zh1 (q3 _ H3 α3 Ext.refl h3 (.bl false))
  |_=>exact q3.elim
 ·simp only[hd] at q
  refine qa σ ρ H α M _ s h ?_
  cases e:fa ρ M with
  |ok x M1=>rw[e] at q;exact q.elim
  |exc c M1=>rw[e] at q;exact q
  |bad=>rw[e] at q;exact q
theorem Zmr {op op':CmpOp}{r r':R2}{f g:Bo}(ho:OpR X (compareOp op) r)(hf:BO X ξ r f)(ho':OpR X (compareOp op') r')(hg:BO X ξ r' g)(hp:Zkb fb)(ha:DE X ξ a fa)(hb:DE X ξ b fb)(hc:DE X ξ c fc)
  (hm:lastMarks [op,op'] [b,c]=false:=by with_unfolding_all rfl):DE X ξ (.Compare a [op,op'] [b,c] pos) (Zam (e2 f fa fb) (e2 g fb fc)):=by
 obtain ⟨ta,ha,qa⟩:=ha
 obtain ⟨tb,hb,qb⟩:=hb
 obtain ⟨tc,hc,qc⟩:=hc
 exact ⟨_,ZhV ho ho' ha hb hc hm,Zo0 hp hf hg qa qb qc⟩
end
end DL
section
namespace DL
open PySem PySem.Spec PyProof.Rows L2 PySem.W
section
variable {K:PySem.W.Frag}{H:Hp}{α:List Addr}
end
section
variable {X:Cx}{ξ:XK}{pos:Pos}
variable {o e:Expr}{fo fa:Ev}{apos cpos:Pos}
end
end DL
end
section
namespace PySem.SeqAt
open MeetsSeq MeetsSeq2 MeetsSeq3 SeqRoads2
end PySem.SeqAt
namespace DL
open PySem PySem.Spec PyProof.Rows L2 PySem.W
section
variable {X:Cx}{ξ:XK}{o e:Expr}{fo fa:Ev}{apos cpos:Pos}
end
end DL
end
section
namespace ST
open PySem PyProof.Rows
noncomputable abbrev lt (a b:List Int):Bool:=HT.ZjM a b
noncomputable def le (a b:List Int):Prop:=lt b a=false
variable (kf:Keyed->List Int)
noncomputable def ky (xs:Array Keyed)(i:Nat):List Int:=match xs[i]? with | some p=>kf p | none=>[]
noncomputable def Dn (xs:Array Keyed)(n:Nat):Prop:= ∀ i j,i<=j->j < n->le (ky kf xs j) (ky kf xs i)
variable {kf}
section
variable {prog:Program}{w:World}{A:Around}{E:Value->Shared->Prop}{s:Shared}{B:SortSt->Prop}{N:Nat}
end
end ST
end
section
namespace ST
end ST
namespace DL
open PySem PySem.Spec PyProof.Rows L2 PySem.W
section
variable {X:Cx}{ξ:XK}
end
end DL
end
section
namespace DL
open PySem PySem.Spec PyProof.Rows L2
section
variable {X:Cx}{ξ:XK}{o e e2:Expr}{fo fa fb:Ev}{apos cpos:Pos}
theorem Reps.tk {K:PySem.W.Frag}{H:Hp}{α:List Addr}: ∀ {vs:List V} {ds:List D} (i:Nat),Reps K H α vs ds->Reps K H α (vs.take i) (ds.take i)
 |_,_,0,_=> .nil
 |_,_,_ + 1,.nil=> .nil
 |_,_,i + 1,.cons r t=> .cons r (Reps.tk i t)
end
end DL
end
section
namespace DL
open PySem PySem.Spec PyProof.Rows L2
section
variable {X:Cx}{ξ:XK}
end
end DL
end
section
namespace DL
open PySem PySem.Spec L2
section
variable {X:Cx}{ξ:XK}{e:Expr}{f:Ev}{pos:Pos}
end
end DL
end
section
namespace DQ
open PySem PySem.Spec PyProof.Rows
section
variable {prog:Program}{w:World}{A:Around}{E:Value->Shared->Prop}{s:Shared}
theorem Zkc {it:Addr}{x:Str}{t:Tok}{i:Nat}{Q:Option Value->Shared->Prop}(q:ZaL A s.heap)(hit:s.heap.IsStrIter it "str_ascii_iterator" x t i)(hx:x.cps[i]?=none)
  (hQ: ∀ h',Heap.ExtBut it s.heap h'->Q none { s with heap:=h' }):wpAny (model prog w) A (pyNext (.ref it)) Q E s:=by
 obtain ⟨o,ho,hc,hd⟩:=id hit
 refine Zey hit.typeIs F.slot_str_ascii_iterator_next F.entry_str_ascii_iterator_next (F.args_str_ascii_iterator_next_1 _) ?_ hQ
 refine wpAny_bind (m:=field (.ref it) 0) (wpAny_field ho hd (x:= .str x t) rfl ?_)
 refine wpAny_bind (m:=field (.ref it) 1) (wpAny_field ho hd (x:= .int i 0) rfl ?_)
 simp only[Int.toNat_natCast,hx];refine wpAny_bind (wpAny_rule (wpAny_bind (wpAny_setField ho hd (by simp) (wpAny_bind (wpAny_letGo ?_)))))
 have q2:ZaL A.in1 (s.heap.update it (Obj.mapFields (·.setIfInBounds 0 Value.none))):=by
  rcases q with q | ⟨ea,oe,vs,e1,e2,e3,e4⟩
  ·exact .inl q
  ·refine .inr ⟨ea,oe,vs,e1,?_,e3,e4⟩
   rw[Heap.get?_update_other _ _ (fun z=> ?_)]
   ·exact e2
   ·rw[<- z,ho] at e2
    cases e2
    rw[hd] at e3;cases e3
    simp at e4
 refine Za0 q2 fun h' e k ho=>⟨e,rfl,ho,h',fun b o hb z=>k b o ?_,rfl⟩
 rw[Heap.get?_update_other _ _ (Ne.symm hb)]
 exact z
end
end DQ
namespace DL
open PySem PySem.Spec PyProof.Rows L2
noncomputable def Itx (x:Str):It:=⟨fun i _=>i < x.cps.size,fun i H v H'=>H'=H/\ ∃ c,x.cps[i]?=some c/\v= .str ⟨#[c]⟩,fun i _=>x.cps.size<=i⟩
theorem Zig {P:Program}{w:World}{K:PySem.W.Frag}{B:Around}{tg:Expr}(x:Str)(t:Tok)(it:Addr):Turn P w K B tg (Itx x) [it] it (fun i h=>h.IsStrIter it "str_ascii_iterator" x t i) where
 mem:=by simp
 obj:=fun i h st b hb=>by
  have e:b=it:=by simpa using hb
  subst e;obtain ⟨o,e,c,d⟩:=st
  exact ⟨o,e,fun v z=>by rw[d] at z;cases z⟩
 keep:=fun i h h' st k=>let ⟨o,e,r⟩:=st;⟨o,k it (by simp) o e,r⟩
 item:=by
  intro X hP hw hK hB i pins s σ H E I hf st hg;subst hP hw hK;obtain ⟨f0,f1,f2,f3,f4,f5⟩:=hf it (by simp)
  have hi:x.cps[i]?=some x.cps[i]:=Array.getElem?_eq_getElem hg
  refine wpAny_pyNext_ascii_item st hi fun h' st' sb=> ?_
  have I1:Inv X pins σ H { s with heap:=h',toks:=s.toks + 1 }:=I.turned (fun b o hb e=>(sb.2 b hb).trans e) f0 f1 f3 f4 f5
  obtain ⟨o,e,c,d⟩:=id st'
  exact ⟨_,rfl,ZhR (s:={ s with heap:=h',toks:=s.toks + 1 }) e c d (by decide) ⟨.str ⟨#[x.cps[i]]⟩,H,I1,⟨_,rfl⟩,⟨rfl,_,hi,rfl⟩,st',fun b hb=>(hf b hb).1⟩⟩
 done:=by
  intro X hP hw hK hB i pins s σ H E I hf st hg;subst hP hw hK;obtain ⟨f0,f1,f2,f3,f4,f5⟩:=hf it (by simp)
  exact DQ.Zkc I.qh st (by simp[show x.cps.size<=i from hg]) fun h' eb=>⟨rfl,I.turned (t':=s.toks) (fun b o hb e=>eb b o hb e) f0 f1 f3 f4 f5⟩
 self:=fun _ _ _ _ _ st h=>wpAny_pyIter_striter_ascii st h
section
variable {X:Cx}{ξ:XK}{tg o a b e:Expr}{es:List Expr}{f fo fa fb:Ev}{fs:Av}{name:Str}{p pos apos cpos:Pos}{id:String}{r:V->List V->Hp->VK->Prop}{g:Me}
noncomputable def asc (x:Str):Bool:=x.cps.all (· < 128)
noncomputable def Zsm (tl:TE):TI:=fun σ H R=>tl σ H fun v H1=> ∃ x,v= .str x/\asc x=true/\R (Itx x) H1
theorem Zms {l:Expr}{tl:TE}(hl:PE X l tl):PI X tg l (Zsm tl):=by
 intro pins s σ H R I h;refine thn (hl pins s σ H _ I h) fun v s1 ⟨x,H1,I1,r1,q1⟩=> ?_
 obtain ⟨x,rfl,hx,q⟩:=q1
 obtain ⟨t,rfl⟩:=r1
 have fp: ∀ b∈[s1.heap.objs.size],Zc9 X pins H1 b:=fun b hb=>by
  have e:b=s1.heap.objs.size:=by simpa using hb
  subst e;exact I1.fpOk (Nat.le_refl _) (I1.hok.fresh (Nat.le_refl _))
 refine wpAny_pyIter_ascii hx ?_
 exact ⟨s1.heap.objs.size,[s1.heap.objs.size],_,_,H1,rfl,I1.kept (t':=s1.toks) fun b o e=>Heap.get?_push_of_some _ e,Zig x t _,⟨_,Heap.get?_push_size _ rfl,rfl,rfl⟩,fp,q⟩
noncomputable def sgs (x:Str):List D:=x.cps.toList.map fun c=> .str ⟨#[c]⟩
noncomputable def iTx (f:Ev):Ro->Sto->Out Src:=fun ρ M=>(f ρ M).bind fun d M1=>match d with
 | .str x=>if asc x=true then .ok (.pur (sgs x)) M1 else .bad
 |_=> .bad
theorem Zmt (ha:DE X ξ a f):DI X ξ tg a (iTx f):=by
 obtain ⟨ta,pa,qa⟩:=ha
 refine ⟨_,Zms pa,fun σ ρ H α M R s hh q=>qa σ ρ H α M _ s hh (OG.seq q fun d M1 v H1 α1 e1 h1 r1 w1=> ?_)⟩
 cases r1 with
 |str x=>
  by_cases c:asc x=true
  ·simp only[if_pos c] at w1
   refine ⟨x,rfl,c,w1 (Itx x) H1 α1 Ext.refl h1 ?_⟩
   intro i H' α' M' ex hr;show match some (sgs x)[i]? with | some none=>_ | some (some d)=>_ | none=>True
   unfold sgs;rw[List.getElem?_map,Array.getElem?_toList]
   cases ei:x.cps[i]? with
   |none=>exact Array.getElem?_eq_none_iff.mp ei
   |some c=>
    refine ⟨(Array.getElem?_eq_some_iff.mp ei).1,fun v H'' y=> ?_⟩
    obtain ⟨rfl,c',e1,rfl⟩:=y
    rw[ei] at e1;cases e1
    exact ⟨Ext.refl,hr,.str _⟩
  ·simp only[if_neg c] at w1
   exact w1.elim
 |_=>exact w1.elim
noncomputable def ZhK (g:Me)(fo:Ev)(fs:Av):Ev:=fun ρ M=>(fo ρ M).bind fun x M1=>match x with | .str y=>(fs ρ M1).bind fun ds M2=>g (.str y) ds M2 | _=> .bad
theorem ZdJ (slot:Slot "str" name id)(hty:typeOf (.builtin id)=pure (.type "method_descriptor"))(hm:MtR X id r)(hf:MO X ξ r g)(ho:DE X ξ o fo)(ha:DA X ξ (e :: es) fs)
  (hbase:attributeBase o name X.env (eval o X.env)=eval o X.env:=by rfl)
  (hfew:((backTo cpos (starEach (e :: es) X.env)).all (fun x=> !x.1) && (backToKw cpos (keywordEach [] X.env)).all (fun x=>x.1.isSome)
   && decide ((e :: es).length + ([]:List Keyword).length + (if ([]:List Keyword).isEmpty then 0 else 1) < 30))=true:=by rfl)
  (hline:(apos.endLine == cpos.line)=true:=by rfl) (hs:starEach (e :: es) X.env=(false,eval e X.env) :: starEach es X.env:=by rfl) (hplain:(backTo cpos (starEach es X.env)).any (·.1)=false:=by rfl):
  DE X ξ (.Call (.Attribute o name apos) (e :: es) [] cpos) (ZhK g fo fs):=by
 obtain ⟨to,po,qo⟩:=ho
 obtain ⟨ta,pa,qa⟩:=ha
 refine ⟨_,ZlR PySem.F.plainAttrs_str slot hty hm po pa hbase hfew hline hs hplain,fun σ ρ H α M Q s h q=> ?_⟩
 refine qo σ ρ H α M _ s h (OG.seq q fun x M1 v H1 α1 e1 h1 r1 q1=> ?_)
 cases r1 with
 |str y=>exact ⟨rfl,qa σ ρ H1 α1 M1 _ (s.mono e1) h1 (OG.seq q1 fun ds M2 vs H2 α2 e2 h2 r2 q2=>hf H2 α2 M2 _ vs _ ds Q h2 (.str y) r2 q2)⟩
 |_=>exact q1.elim
noncomputable def mStw:Me:=fun x ds M=>match x,ds with | .str y,[.str z]=> .ok (.bl (Txt.startswith y z)) M | _,_=> .bad
theorem Zmu:MtM X "str.startswith" (fun x vs H Q=> ∃ y z,x= .str y/\vs=[.str z]/\Q (.bl (Txt.startswith y z)) H):=by
 intro pins s σ H x vs v us Q I rx rv h;obtain ⟨y,z,rfl,rfl,q⟩:=h
 obtain ⟨t,rfl⟩:=rx
 obtain ⟨u,rfl,t',rfl⟩:=Zbz rv
 exact SC.startswith ⟨.bl _,H,I,rfl,q⟩
theorem Zmv:MO X ξ (fun x vs H Q=> ∃ y z,x= .str y/\vs=[.str z]/\Q (.bl (Txt.startswith y z)) H) mStw:=by
 intro H α M v vs x ds Q h rx rs q;unfold mStw at q
 split at q
 ·cases rx
  cases rs with | cons ru rt=>cases rt;cases ru;exact ⟨_,_,rfl,rfl,q _ H α Ext.refl h (.bl _)⟩
 ·exact q.elim
theorem ZgE {xs:List V}{its:List Value}(r:ZK xs its): ∀ {ys:List Str},xs=ys.map V.str-> ∃ l:List (Str × Tok),its=strValues l/\l.map (·.1)=ys:=by
 induction r with
 |nil=>intro ys e;cases ys with | nil=>exact ⟨[],rfl,rfl⟩ | cons _ _=>cases e
 |cons r1 _ ih=>
  intro ys e;cases ys with
  |nil=>cases e
  |cons y ys=>
   cases e
   obtain ⟨t,rfl⟩:=r1
   obtain ⟨l,rfl,h2⟩:=ih rfl
   exact ⟨(y,t) :: l,rfl,by rw[List.map_cons,h2]⟩
theorem ZdK: ∀ (l:List (Str × Tok)),ZK ((l.map (·.1)).map V.str) (strValues l)
 | []=> .nil
 | (y,t) :: l=> .cons ⟨t,rfl⟩ (ZdK l)
noncomputable def txs:List D->Option (List Str)
 | []=>some []
 | .str y :: r=>match txs r with | some ys=>some (y :: ys) | none=>none
 |_ :: _=>none
theorem Zjb {K:PySem.W.Frag}{H:Hp}{α:List Addr}: ∀ {vs:List V} {ds:List D} {ys:List Str},Reps K H α vs ds->txs ds=some ys->vs=ys.map V.str
 |_,_,_,.nil,e=>by cases e;rfl
 |_,_,ys,.cons (v:=v) (d:=d) (ds:=ds) r t,e=>by
  cases r with
  |str y=>
   cases e1:txs ds with
   |none=>simp only[txs,e1] at e;cases e
   |some zs=>
    simp only[txs,e1] at e;cases e
    rw[Zjb t e1];rfl
  |_=>cases e
noncomputable def rJoin:V->List V->Hp->VK->Prop:=fun x vs H Q=> ∃ y l ys,x= .str y/\vs=[.ref l]/\H l=some (.lst (ys.map V.str))/\JoinOk y ys=true/\Q (.str (Txt.join y ys)) H
theorem ZgF:MtM X "str.join" rJoin:=by
 intro pins s σ H x vs v us Q I rx rv h;obtain ⟨y,l,ys,rfl,rfl,hH,hj,q⟩:=h
 obtain ⟨t,rfl⟩:=rx
 obtain ⟨u,rfl,ru⟩:=Zbz rv
 cases ru
 obtain ⟨z,its,n,r,hl,e⟩:=I.lstM hH
 obtain ⟨l',rfl,h2⟩:=ZgE r rfl
 exact SC.join (l:=l') ⟨_,e,rfl,_,rfl⟩ h2 hj fun t' k=>⟨.str _,H,I.tok _,⟨_,rfl⟩,q⟩
noncomputable def mJn:Me:=fun x ds M=>match x,ds with
 | .str y,[.ref n]=>(match M[n]? with | some (.lst xs)=>(match txs xs with | some ys=>if JoinOk y ys=true then .ok (.str (Txt.join y ys)) M else .bad | none=> .bad) | none=> .bad)
 |_,_=> .bad
theorem ZgG:MO X ξ rJoin mJn:=by
 intro H α M v vs x ds Q h rx rs q;unfold mJn at q
 split at q
 ·rename_i y n
  cases rx
  cases rs with
  |cons ru rt=>
   cases rt
   cases ru with
   |ref hp=>
    cases em:M[n]? with
    |none=>simp only[em] at q;exact q.elim
    |some so=>
     cases so with
     |lst ds=>
      obtain ⟨xs,g1,g2⟩:=h.at hp em
      cases et:txs ds with
      |none=>simp only[em,et] at q;exact q.elim
      |some ys=>
       by_cases c:JoinOk y ys=true
       ·simp only[em,et,if_pos c] at q
        rw[Zjb g2 et] at g1;exact ⟨y,_,ys,rfl,rfl,g1,c,q _ H α Ext.refl h (.str _)⟩
       ·simp only[em,et,if_neg c] at q
        exact q.elim
 ·exact q.elim
end
end DL
end
section
namespace SX
open PySem PySem.Builtin.Str DL
noncomputable def Zd4 (c:Nat):List Nat->Nat->List Nat
 | [],_=>[]
 |x :: r,k=>if x=c then k :: Zd4 c r (k + 1) else Zd4 c r (k + 1)
theorem ZdL (c x:Nat)(r:List Nat)(k:Nat):Zd4 c (x :: r) k=if x=c then k :: Zd4 c r (k + 1) else Zd4 c r (k + 1):=rfl
theorem ZcX (c:Nat): ∀ (l:List Nat) (k:Nat),(Zd4 c l k).length<=l.length
 | [],_=>Nat.le_refl _
 |x :: r,k=>by
  rw[ZdL]
  have:=ZcX c r (k + 1)
  split<;>simp<;>omega
noncomputable def stp (s:Str)(c L:Nat)(b:Array Nat × Nat)(a:Nat):Array Nat × Nat:=if (decide (b.1.size < L) && decide (b.2<=a) && decide (a + 1<=s.length) && subAt s ⟨#[c]⟩ a)=true then (b.1.push a,a + 1) else (b.1,b.2)
theorem ZdM (s:Str)(c L:Nat): ∀ (m i:Nat) (fd:Array Nat) (fr:Nat),i + m=s.cps.toList.length + 1->fr<=i->
  (List.foldl (stp s c L) (fd,fr) (List.range' i m)).1.toList=fd.toList ++ (Zd4 c (s.cps.toList.drop i) i).take (L - fd.size)
 |0,i,fd,fr,h,_=>by
  rw[List.drop_eq_nil_of_le (by omega)]
  simp[Zd4]
 |m + 1,i,fd,fr,h,hf=>by
  rw[List.range'_succ,List.foldl_cons];have hl:s.length=s.cps.toList.length:=by simp[Str.length]
  have no: ∀ (q:(decide (fd.size < L) && decide (fr<=i) && decide (i + 1<=s.length) && subAt s ⟨#[c]⟩ i)=false),stp s c L (fd,fr) i=(fd,fr):=fun q=>by unfold stp;rw[if_neg (by rw[q];decide)]
  by_cases hi:i < s.cps.toList.length
  ·have e:s.cps.toList.drop i=s.cps.toList[i] :: s.cps.toList.drop (i + 1):=List.drop_eq_getElem_cons hi
   have hs:subAt s ⟨#[c]⟩ i=decide (s.cps.toList[i]=c):=by
    unfold subAt;rw[show (⟨#[c]⟩:Str).length=1 from rfl];have e2:s.cps.extract i (i + 1)= #[s.cps.toList[i]]:=by
     apply Array.toList_inj.mp
     rw[Array.toList_extract,List.extract_eq_drop_take];rw[e]
     simp
    rw[e2]
    by_cases q:s.cps.toList[i]=c
    ·rw[q];simp
    ·rw[decide_eq_false q];apply beq_eq_false_iff_ne.mpr;intro z;injection z with z;injection z with z _;exact q z
   rw[e,ZdL]
   by_cases q:s.cps.toList[i]=c
   ·by_cases hL:fd.size < L
    ·have y:stp s c L (fd,fr) i=(fd.push i,i + 1):=by
      unfold stp;rw[hs,if_pos (by rw[decide_eq_true hL,decide_eq_true hf,decide_eq_true (show i + 1<=s.length by omega),decide_eq_true q];rfl)]
     rw[y,ZdM s c L m (i + 1) _ _ (by omega) (Nat.le_refl _)]
     rw[if_pos q,show L - fd.size=(L - (fd.push i).size) + 1 by rw[Array.size_push];omega,List.take_succ_cons]
     simp
    ·rw[no (by rw[decide_eq_false hL];rfl)]
     rw[ZdM s c L m (i + 1) _ _ (by omega) (by omega),show L - fd.size=0 by omega]
     simp
   ·rw[no (by rw[hs,decide_eq_false q,Bool.and_false])]
    rw[ZdM s c L m (i + 1) _ _ (by omega) (by omega),if_neg q]
  ·rw[no (by rw[decide_eq_false (show ¬ i + 1<=s.length by omega),Bool.and_false,Bool.false_and])]
   rw[ZdM s c L m (i + 1) _ _ (by omega) (by omega),List.drop_eq_nil_of_le (by omega),List.drop_eq_nil_of_le (by omega)]
   rfl
theorem occ (s:Str)(c L:Nat):occurrences s ⟨#[c]⟩ 0 s.length L=(Zd4 c s.cps.toList 0).take L:=by
 have:=ZdM s c L (s.cps.toList.length + 1) 0 #[] 0 (by omega) (Nat.le_refl _)
 unfold occurrences;dsimp only;rw[Std.Legacy.Range.forIn_eq_forIn_range'];have hz:[0:s.length + 1].size=s.cps.toList.length + 1:=by simp[Std.Legacy.Range.size,Str.length]
 rw[hz];simp only[List.drop_zero,Array.toList_empty,List.nil_append,Array.size_empty,Nat.sub_zero] at this;rw[<- this];have q: ∀ (i:Nat) (t:Array Nat × Nat),(if (decide (t.1.size < L) && decide (t.2<=i) && decide (i + (⟨#[c]⟩:Str).length<=s.length) && subAt s ⟨#[c]⟩ i)=true then (pure (ForInStep.yield (t.1.push i,i + (⟨#[c]⟩:Str).length)):Id _) else pure (ForInStep.yield (t.1,t.2)))
   =pure (ForInStep.yield (stp s c L t i)):=fun i t=>by unfold stp;rw[show (⟨#[c]⟩:Str).length=1 from rfl];split<;>rfl
 simp only[q,List.forIn_pure_yield_eq_foldl];rfl
noncomputable def spl (c:Nat):List Nat->List (List Nat)
 | []=>[[]]
 |x :: r=>if x=c then [] :: spl c r else match spl c r with | a :: t=>(x :: a) :: t | []=>[[x]]
theorem Zfm (c x:Nat)(r:List Nat):spl c (x :: r)=if x=c then [] :: spl c r else match spl c r with | a :: t=>(x :: a) :: t | []=>[[x]]:=rfl
theorem ZgH (c:Nat): ∀ l,spl c l≠[]
 | []=>by simp[spl]
 |x :: r=>by
  rw[Zfm]
  split
  ·simp
  ·cases e:spl c r with | nil=>simp | cons a t=>simp
noncomputable def pb (f:Nat->Nat->Str)(n:Nat):Nat->List Nat->List Str
 |a,[]=>[f a n]
 |a,i :: r=>f a i :: pb f n (i + 1) r
theorem Zjc (f:Nat->Nat->Str)(n:Nat): ∀ (a:Nat) (cs:List Nat),((a :: cs.map (· + 1)).zip (cs ++ [n])).map (fun x=>f x.1 x.2)=pb f n a cs
 |a,[]=>rfl
 |a,i :: r=>by
  have:=Zjc f n (i + 1) r
  simp only[List.map_cons,List.cons_append,List.zip_cons_cons,pb];rw[<- this]
theorem ZgI (s:Str)(c:Nat): ∀ (l mid:List Nat) (a k:Nat),a + mid.length=k->s.cps.toList.drop a=mid ++ l->a<=s.cps.toList.length->
  pb (strSub s) s.length a (Zd4 c l k)=(match spl c l with | x :: t=>(⟨(mid ++ x).toArray⟩:Str) :: t.map (fun y=>⟨y.toArray⟩) | []=>[])
 | [],mid,a,k,h,e,ha=>by
  show [strSub s a s.length]=[(⟨(mid ++ []).toArray⟩:Str)]
  have hl:s.length=s.cps.toList.length:=by simp[Str.length]
  rw[List.append_nil] at e;simp only[List.append_nil,List.map_nil,List.cons.injEq,and_true];unfold strSub
  congr 1
  apply Array.toList_inj.mp
  rw[Array.toList_extract,List.extract_eq_drop_take,e,hl];exact List.take_of_length_le (by rw[<- e,List.length_drop];exact Nat.le_refl _)
 |x :: r,mid,a,k,h,e,ha=>by
  have hk:k < s.cps.toList.length:=by
   have:=congrArg List.length e
   rw[List.length_drop,List.length_append,List.length_cons] at this;omega
  by_cases q:x=c
  ·have e2:s.cps.toList.drop (k + 1)=[] ++ r:=by
    have:=congrArg (List.drop (mid.length + 1)) e
    rw[List.drop_drop,List.drop_append,List.drop_eq_nil_of_le (Nat.le_succ _),show mid.length + 1 - mid.length=1 by omega] at this
    rw[<- h,Nat.add_assoc];exact this
   have ih:=ZgI s c r [] (k + 1) (k + 1) rfl e2 (by omega)
   rw[ZdL,Zfm,if_pos q,if_pos q];show strSub s a k :: pb (strSub s) s.length (k + 1) (Zd4 c r (k + 1))=_
   rw[ih];simp only[List.append_nil]
   congr 1
   ·unfold strSub
    congr 1
    apply Array.toList_inj.mp
    rw[Array.toList_extract,List.extract_eq_drop_take,e,show k - a=mid.length by omega,List.take_left]
   ·cases e3:spl c r with
    |nil=>exact absurd e3 (ZgH c r)
    |cons y t=>rfl
  ·have ih:=ZgI s c r (mid ++ [x]) a (k + 1) (by rw[List.length_append];simp;omega) (by rw[e];simp) ha
   rw[ZdL,Zfm,if_neg q,if_neg q,ih];cases e3:spl c r with
   |nil=>exact absurd e3 (ZgH c r)
   |cons y t=>simp
theorem Zih (s:Str)(c:Nat)(hc:c < 256):Txt.split s ⟨#[c]⟩=(spl c s.cps.toList).map fun l=>(⟨l.toArray⟩:Str):=by
 have hl:s.length=s.cps.toList.length:=by simp[Str.length]
 have key:partsBetween s (Zd4 c s.cps.toList 0) 1=(spl c s.cps.toList).map fun l=>(⟨l.toArray⟩:Str):=by
  have h:=ZgI s c s.cps.toList [] 0 0 rfl rfl (Nat.zero_le _)
  rw[<- Zjc] at h;unfold partsBetween;refine Eq.trans ?_ (h.trans ?_)
  ·rfl
  ·cases e3:spl c s.cps.toList with
   |nil=>exact absurd e3 (ZgH c _)
   |cons y t=>rfl
 have whole:Zd4 c s.cps.toList 0=[]->[s]=(spl c s.cps.toList).map fun l=>(⟨l.toArray⟩:Str):=fun e=>by
  rw[<- key,e];unfold partsBetween;simp only[List.map_nil,List.nil_append,List.zip_cons_cons,List.zip_nil_right,List.map_cons,List.cons.injEq,and_true];unfold strSub;cases s with
  |mk a=>congr 1;apply Array.toList_inj.mp;simp[Str.length]
 have k1:Builtin.Str.strKind (⟨#[c]⟩:Str)=1:=by
  unfold Builtin.Str.strKind;rw[if_pos (by simp[hc])]
 have k2:decide (Builtin.Str.strKind s < Builtin.Str.strKind (⟨#[c]⟩:Str))=false:=by
  rw[k1]
  apply decide_eq_false
  unfold Builtin.Str.strKind
  split<;>(try split)<;>omega
 have o:occurrences s ⟨#[c]⟩ 0 s.length (s.length + 1)=Zd4 c s.cps.toList 0:=by
  rw[occ,List.take_of_length_le]
  have:=ZcX c s.cps.toList 0
  omega
 unfold Txt.split;rw[k2,Bool.or_false,o,show (⟨#[c]⟩:Str).length=1 from rfl]
 split
 ·rename_i h
  have h:s.length < 1:=of_decide_eq_true h
  refine whole ?_
  have:s.cps.toList=[]:=List.eq_nil_of_length_eq_zero (by omega)
  rw[this];rfl
 ·split
  ·rename_i h
   exact whole (List.isEmpty_iff.mp h)
  ·exact key
theorem Zo1 (s:Str)(c:Nat):(!(occurrences s ⟨#[c]⟩ 0 s.length 1).isEmpty)=s.cps.toList.contains c:=by
 rw[occ]
 have: ∀ (l:List Nat) (k:Nat),(!((Zd4 c l k).take 1).isEmpty)=l.contains c:=by
  intro l
  induction l with
  |nil=>intro k;rfl
  |cons x r ih=>
   intro k;rw[ZdL]
   by_cases q:x=c
   ·rw[if_pos q,q];simp
   ·rw[if_neg q,ih,List.contains_cons]
    have:(c == x)=false:=beq_eq_false_iff_ne.mpr (Ne.symm q)
    rw[this];rfl
 exact this _ 0
noncomputable def jn (c:Nat):List (List Nat)->List Nat
 | []=>[]
 | [a]=>a
 |a :: r=>a ++ c :: jn c r
theorem Zeh (c:Nat): ∀ (a l:List Nat),c ∉ a->spl c (a ++ c :: l)=a :: spl c l
 | [],l,_=>by show spl c (c :: l)=_;rw[Zfm,if_pos rfl]
 |x :: a,l,h=>by
  have hx:x≠c:=fun e=>h (by rw[e];exact List.mem_cons_self ..)
  show spl c (x :: (a ++ c :: l))=_
  rw[Zfm,if_neg hx,Zeh c a l fun m=>h (List.mem_cons_of_mem _ m)]
theorem ZcY (c:Nat): ∀ (a:List Nat),c ∉ a->spl c a=[a]
 | [],_=>rfl
 |x :: a,h=>by
  have hx:x≠c:=fun e=>h (by rw[e];exact List.mem_cons_self ..)
  rw[Zfm,if_neg hx,ZcY c a fun m=>h (List.mem_cons_of_mem _ m)]
theorem Zjd (c:Nat): ∀ (ls:List (List Nat)),ls≠[]->(∀ a∈ls,c ∉ a)->spl c (jn c ls)=ls
 | [],h,_=>absurd rfl h
 | [a],_,h=>ZcY c a (h a (List.mem_cons_self ..))
 |a :: b :: r,_,h=>by
  show spl c (a ++ c :: jn c (b :: r))=_
  rw[Zeh c a _ (h a (List.mem_cons_self ..)),Zjd c (b :: r) (by simp) fun x m=>h x (List.mem_cons_of_mem _ m)]
theorem ZgJ (c:Nat)(ys:List Str):(Txt.join ⟨#[c]⟩ ys).cps.toList=jn c (ys.map (·.cps.toList)):=by
 have go: ∀ (l:List Str) (acc:Array Nat),(l.foldl (fun acc p=>acc ++ #[c] ++ p.cps) acc).toList=acc.toList ++ l.flatMap fun p=>c :: p.cps.toList:=by
  intro l
  induction l with
  |nil=>intro acc;simp
  |cons a r ih=>intro acc;rw[List.foldl_cons,ih];simp
 have e: ∀ (a:List Nat) (l:List Str),jn c (a :: l.map (·.cps.toList))=a ++ l.flatMap fun p=>c :: p.cps.toList:=by
  intro a l
  induction l generalizing a with
  |nil=>simp[jn]
  |cons b r ih=>
   rw[List.map_cons];show a ++ c :: jn c (b.cps.toList :: r.map (·.cps.toList))=_
   rw[ih]
   simp
 cases ys with
 |nil=>rfl
 |cons a r=>
  show Array.toList (List.foldl (fun acc p=>acc ++ #[c] ++ p.cps) a.cps r)=_
  rw[go,List.map_cons,e]
end SX
end
section
namespace DL
open PySem PySem.Spec PyProof.Rows L2 SX
section
variable {X:Cx}{ξ:XK}{tg o a b e:Expr}{es:List Expr}{f fo fa fb:Ev}{fs:Av}{name:Str}{p pos apos cpos:Pos}
noncomputable def mSpl:Me:=fun x ds M=>match x,ds with
 | .str y,[.str z]=>(match z.cps.toList with | [c]=>if c < 128/\y.length<=16000000 then .ok (.ref M.length) (M ++ [.lst ((spl c y.cps.toList).map fun l=> .str ⟨l.toArray⟩)]) else .bad | _=> .bad)
 |_,_=> .bad
noncomputable def rSpl:V->List V->Hp->VK->Prop:=fun x vs H Q=> ∃ y c,x= .str y/\vs=[.str ⟨#[c]⟩]/\c < 128/\y.length<=16000000/\ ∀ l,H l=none->Q (.ref l) (upd H l (.lst ((Txt.split y ⟨#[c]⟩).map V.str)))
theorem Zii (x:Str)(c:Nat):(Builtin.Str.partsBetween x (Builtin.Str.occurrences x ⟨#[c]⟩ 0 x.length (x.length + 1)) (⟨#[c]⟩:Str).length).length<=x.length + 1:=by
 unfold Builtin.Str.partsBetween;rw[occ];have h1:=ZcX c x.cps.toList 0
 have h2:x.cps.toList.length=x.length:=by simp[Str.length]
 have h3:(List.take (x.length + 1) (Zd4 c x.cps.toList 0)).length<=x.length:=by rw[List.length_take];omega
 simp only[List.length_map,List.length_zip,List.length_cons,List.length_append];omega
theorem ZeU:MtM X "str.split" rSpl:=by
 intro pins s σ H x vs v us Q I rx rv h;obtain ⟨y,c,rfl,rfl,hc,hy,q⟩:=h
 obtain ⟨t,rfl⟩:=rx
 obtain ⟨u,rfl,t',rfl⟩:=Zbz rv
 have hz:=sizeLine_eq
 have sz:y.length<=sizeLine:=by rw[hz];omega
 have hn:((⟨#[c]⟩:Str).length == 0)=false:=rfl
 have fin: ∀ (l:List (Str × Tok)) (k:Nat),l.map (·.1)=Txt.split y ⟨#[c]⟩->l.length<=sizeLine->EP X pins σ Q (.ref s.heap.objs.size) { s with heap:=s.heap.push { cls:= .type "list",data:= .seq (strValues l).toArray },toks:=k }:=fun l k e hl=>
  ⟨.ref s.heap.objs.size,_,I.lnew (its:=strValues l) (t':=k) (e ▸ ZdK l) (by rw[List.length_map,<- e,List.length_map];exact hl),rfl,q _ I.fresh⟩
 cases h1:(decide (y.length < (⟨#[c]⟩:Str).length) || decide (Builtin.Str.strKind y < Builtin.Str.strKind ⟨#[c]⟩))
 ·cases hf:(Builtin.Str.occurrences y ⟨#[c]⟩ 0 y.length (y.length + 1)).isEmpty
  ·have hp:(Builtin.Str.partsBetween y (Builtin.Str.occurrences y ⟨#[c]⟩ 0 y.length (y.length + 1)) (⟨#[c]⟩:Str).length).length<=sizeLine:=Nat.le_trans (Zii y c) (by rw[hz];omega)
   refine call_meets F.slot_str_split (typeIs_str _ _ _) F.entry_str_split (F.args_str_split_2 _ _) (meets_str_split_sep y ⟨#[c]⟩ t t' h1 hn hf sz hp) ?_
   show wants _ _ _ { s with toks:=_,heap:=s.heap.push { cls:= .type "list",data:= .seq (strsFrom s.toks (Builtin.Str.partsBetween y (Builtin.Str.occurrences y ⟨#[c]⟩ 0 y.length (y.length + 1)) (⟨#[c]⟩:Str).length)).toArray } }
   rw[strsFrom_eq];exact fin (numbered s.toks _) _ ((numbered_texts _ _).trans ((if_neg (ne_true_of_eq_false h1)).trans (if_neg (ne_true_of_eq_false hf))).symm) (by
    have:=congrArg List.length (numbered_texts s.toks (Builtin.Str.partsBetween y (Builtin.Str.occurrences y ⟨#[c]⟩ 0 y.length (y.length + 1)) (⟨#[c]⟩:Str).length))
    rw[List.length_map] at this
    omega)
  ·exact call_meets F.slot_str_split (typeIs_str _ _ _) F.entry_str_split (F.args_str_split_2 _ _) (meets_str_split_not_found y ⟨#[c]⟩ t t' h1 hn hf) (fin [(y,t)] s.toks ((if_neg (ne_true_of_eq_false h1)).trans (if_pos hf)).symm (by rw[hz];exact (by decide:1<=16777216)))
 ·exact call_meets F.slot_str_split (typeIs_str _ _ _) F.entry_str_split (F.args_str_split_2 _ _) (meets_str_split_cannot_occur y ⟨#[c]⟩ t t' h1) (fin [(y,t)] s.toks (if_pos h1).symm (by rw[hz];exact (by decide:1<=16777216)))
theorem Reps.strs {K:PySem.W.Frag}{H:Hp}{α:List Addr}: ∀ ys:List Str,Reps K H α (ys.map V.str) (ys.map D.str)
 | []=> .nil
 |y :: ys=> .cons (.str y) (Reps.strs ys)
theorem Zje:MO X ξ rSpl mSpl:=by
 intro H α M v vs x ds Q h rx rs q;unfold mSpl at q
 split at q
 ·rename_i y z
  cases rx
  cases rs with
  |cons ru rt=>
   cases rt
   cases ru
   split at q
   ·rename_i c ez
    by_cases cc:c < 128/\y.length<=16000000
    ·rw[if_pos cc] at q
     have e:z=⟨#[c]⟩:=by
      cases z with
      |mk zz=>congr 1;exact Array.toList_inj.mp ez
     subst e;refine ⟨y,c,rfl,rfl,cc.1,cc.2,fun l hl=> ?_⟩
     rw[Zih y c (by omega)]
     refine q _ _ (α ++ [l]) (Ext.new hl) (h.new hl ?_) (.ref ⟨h.last l,Kn.lst Zm⟩)
     have:=Reps.strs (K:=X.K) (H:=H) (α:=α) ((spl c y.cps.toList).map fun l=>(⟨l.toArray⟩:Str))
     rw[List.map_map,List.map_map] at this;rw[List.map_map];exact this
    ·rw[if_neg cc] at q
     exact q.elim
   ·exact q.elim
 ·exact q.elim
noncomputable def bLenT:List D->Sto->Out D:=fun ds M=>match ds with | [.str z]=>if z.length<=100000 then .ok (.int z.length) M else .bad | _=> .bad
theorem ZgK:CO X ξ (fun xs H Q=> ∃ z,xs=[.str z]/\z.length<=sizeLine/\Q (.int z.length) H) bLenT:=by
 intro H α M vs ds Q h rs q;unfold bLenT at q
 split at q
 ·cases rs with
  |cons r t=>
   cases t
   cases r
   split at q
   ·rename_i c;exact ⟨_,rfl,Zh5 c,q _ H α Ext.refl h (.int _)⟩
   ·exact q.elim
 ·exact q.elim
noncomputable def bStr:List D->Sto->Out D:=fun ds M=>match ds with | [.int i]=>if i.natAbs.log2 < 1900 then .ok (.str (Str.ofString (toString i))) M else .bad | _=> .bad
theorem ZgL:CO X ξ (fun xs H Q=> ∃ i,xs=[.int i]/\i.natAbs.log2 < 1920/\Q (.str (toString i)) H) bStr:=by
 intro H α M vs ds Q h rs q;unfold bStr at q
 split at q
 ·cases rs with
  |cons r t=>
   cases t
   cases r
   split at q
   ·rename_i c;exact ⟨_,rfl,by omega,q _ H α Ext.refl h (.str _)⟩
   ·exact q.elim
 ·exact q.elim
theorem ZgM:Zbd X (.type "int") (fun xs H Q=> ∃ z n,xs=[.str z]/\z.length<=640/\intText? z=some n/\Q (.int n) H):=by
 intro pins s σ H xs us Q I r h;obtain ⟨z,n,rfl,hz,hn,q⟩:=h
 obtain ⟨u,rfl,t,rfl⟩:=Zbz r
 exact PySem.W.KIN.call_text hn hz ⟨.int n,H,I.tok _,⟨_,rfl⟩,q⟩
noncomputable def bIntT:List D->Sto->Out D:=fun ds M=>match ds with | [.str z]=>if z.length<=640 then (match intText? z with | some n=> .ok (.int n) M | none=> .bad) else .bad | _=> .bad
theorem Zkd:CO X ξ (fun xs H Q=> ∃ z n,xs=[.str z]/\z.length<=640/\intText? z=some n/\Q (.int n) H) bIntT:=by
 intro H α M vs ds Q h rs q;unfold bIntT at q
 split at q
 ·rename_i z
  cases rs with
  |cons r t=>
   cases t
   cases r
   split at q
   ·rename_i c
    cases e:intText? z with
    |none=>rw[e] at q;exact q.elim
    |some n=>rw[e] at q;exact ⟨_,n,rfl,c,e,q _ H α Ext.refl h (.int _)⟩
   ·exact q.elim
 ·exact q.elim
noncomputable def dInT:Bo:=fun x y M=>match x,y with
 | .str i,.str j=>(match i.cps.toList with | [c]=> .ok (.bl (j.cps.toList.contains c)) M | _=> .bad)
 |_,_=> .bad
theorem Zmw:BO X ξ (fun x y H Q=> ∃ i j,x= .str i/\y= .str j/\Q (.bl (!(Builtin.Str.occurrences j i 0 j.length 1).isEmpty)) H) dInT:=by
 intro H α M v w x y Q h rv rw' q;unfold dInT at q
 split at q
 ·rename_i i j
  cases rv
  cases rw'
  split at q
  ·rename_i c ez
   have e:i=⟨#[c]⟩:=by
    cases i with
    |mk zz=>congr 1;exact Array.toList_inj.mp ez
   subst e;exact ⟨_,j,rfl,rfl,by rw[Zo1];exact q _ H α Ext.refl h (.bl _)⟩
  ·exact q.elim
 ·exact q.elim
noncomputable def Zow:Bo:=fun x y M=>match x,y with
 | .str z,.int i=>if 0<=i/\i < 100000 then (match z.cps.toList[i.toNat]? with | some c=> .ok (.str ⟨#[c]⟩) M | none=> .bad) else .bad
 |_,_=> .bad
theorem Zmx (ha:DE X ξ a fa)(hb:DE X ξ b fb)(hs:ZeB b:=by intro _ _;rfl):DE X ξ (.Subscript a b pos) (DL.e2 Zow fa fb):=by
 obtain ⟨ta,pa,qa⟩:=ha
 obtain ⟨tb,pb,qb⟩:=hb
 refine ⟨_,Zd6 pa pb hs,fun σ ρ H α M Q s h q=> ?_⟩
 refine qa σ ρ H α M _ s h (OG.seq q fun x M1 v H1 α1 e1 h1 r1 q1=>qb σ ρ H1 α1 M1 _ (s.mono e1) h1 (OG.seq q1 fun y M2 w H2 α2 e2 h2 r2 q2=> ?_))
 unfold Zow at q2
 split at q2
 ·rename_i z i
  cases r1
  cases r2
  split at q2
  ·rename_i c
   cases e:z.cps.toList[i.toNat]? with
   |none=>rw[e] at q2;exact q2.elim
   |some d=>
    rw[e] at q2;have el:=(List.getElem?_eq_some_iff.mp e).1
    refine ⟨z,i,d,rfl,rfl,c.1,by omega,?_,by rw[<- Array.getElem?_toList];exact e,q2 _ H2 α2 Ext.refl h2 (.str _)⟩
    have:z.length=z.cps.toList.length:=by simp[Str.length]
    omega
  ·exact q2.elim
 ·exact q2.elim
noncomputable def rSlS:V->Option Int->Option Int->Hp->VK->Prop:=fun x lo hi H Q=> ∃ z,x= .str z/\z.length<=sizeLine/\Q (.str (Txt.slice z lo hi)) H
theorem Zmy:SlR X rSlS:=by
 intro pins s σ H x v vl vu lo hi sl Q I rx hs pl pu h;obtain ⟨z,rfl,hz,q⟩:=h
 obtain ⟨t,rfl⟩:=rx
 refine ⟨"str",_,F.slot_str_getitem.lookup,typeIs_str _ _ _,?_⟩
 have fin: ∀ t' k,EP X pins σ Q (.str (Txt.slice z lo hi) t') { s with toks:=k }:=fun t' k=>⟨.str _,H,I.tok _,⟨_,rfl⟩,q⟩
 cases pl with
 |none=>
  cases pu with
  |none=>exact wpAny_getItem_str_slice (l:=none) (u:=none) (st:=none) hs rfl (post_val_or_str ⟨Nat.le_trans (Txt.slice_le z _ _) hz,fin⟩)
  |int j uj=>exact wpAny_getItem_str_slice (l:=none) (u:=some (j,uj)) (st:=none) hs rfl (post_val_or_str ⟨Nat.le_trans (Txt.slice_le z _ _) hz,fin⟩)
 |int i ui=>
  cases pu with
  |none=>exact wpAny_getItem_str_slice (l:=some (i,ui)) (u:=none) (st:=none) hs rfl (post_val_or_str ⟨Nat.le_trans (Txt.slice_le z _ _) hz,fin⟩)
  |int j uj=>exact wpAny_getItem_str_slice (l:=some (i,ui)) (u:=some (j,uj)) (st:=none) hs rfl (post_val_or_str ⟨Nat.le_trans (Txt.slice_le z _ _) hz,fin⟩)
noncomputable def Zke (z:Str)(lo hi:Option Int):Str:=⟨((z.cps.toList.drop (lo.getD 0).toNat).take ((hi.getD z.cps.toList.length).toNat - (lo.getD 0).toNat)).toArray⟩
noncomputable def okT (z:Str)(lo hi:Option Int):Prop:=0<=lo.getD 0/\lo.getD 0<=hi.getD z.cps.toList.length/\hi.getD z.cps.toList.length<=z.cps.toList.length
noncomputable instance (z:Str) (lo hi:Option Int):Decidable (okT z lo hi):=by unfold okT;infer_instance
theorem Zkf {z:Str}{lo hi:Option Int}(h:okT z lo hi):Txt.slice z lo hi=Zke z lo hi:=by
 unfold okT at h;have hl:z.length=z.cps.toList.length:=by simp[Str.length]
 have k: ∀ {i j:Int},0<=i/\i<=j/\j<=z.cps.toList.length->Txt.slice z (some i) (some j)=⟨((z.cps.toList.drop i.toNat).take (j.toNat - i.toNat)).toArray⟩:=fun {i j} q=>by
  rw[eq_of_beq (slice_closes q)]
  congr 3
  omega
 have n0: ∀ u,Txt.slice z none u=Txt.slice z (some 0) u:=fun u=>by unfold Txt.slice;rw[StrLaws.sliceIdx_none_lo]
 have n1: ∀ l,Txt.slice z l none=Txt.slice z l (some (z.length:Int)):=fun l=>by unfold Txt.slice;rw[StrLaws.sliceIdx_none_hi]
 unfold Zke;cases lo with
 |none=>
  rw[n0];cases hi with
  |none=>rw[n1,hl];exact k h
  |some j=>exact k h
 |some i=>
  cases hi with
  |none=>rw[n1,hl];exact k h
  |some j=>exact k h
noncomputable def Zox (f:Ev)(lo hi:Ro->Sto->Out (Option Int)):Ev:=fun ρ M=>(f ρ M).bind fun x M1=>(lo ρ M1).bind fun l M2=>(hi ρ M2).bind fun u M3=>match x with
 | .str z=>if z.length<=100000/\okT z l u then .ok (.str (Zke z l u)) M3 else .bad
 |_=> .bad
theorem Zmz {lo hi:Option Expr}{fl fh:Ro->Sto->Out (Option Int)}{p2:Pos}(he:DE X ξ e fa)(hl:DO X ξ lo fl)(hh:DO X ξ hi fh):DE X ξ (.Subscript e (.Slice lo hi none p2) pos) (Zox fa fl fh):=by
 obtain ⟨ta,pa,qa⟩:=he
 obtain ⟨tl,pl,ql⟩:=hl
 obtain ⟨th,ph,qh⟩:=hh
 refine ⟨_,ZeE Zmy pa pl ph,fun σ ρ H α M Q s h q=> ?_⟩
 refine qa σ ρ H α M _ s h (OG.seq q fun x M1 v H1 α1 e1 h1 r1 q1=> ?_)
 refine ql σ ρ H1 α1 M1 _ (s.mono e1) h1 (OG.seq q1 fun l M2 l' H2 α2 e2 h2 r2 q2=> ?_)
 refine qh σ ρ H2 α2 M2 _ ((s.mono e1).mono e2) h2 (OG.seq q2 fun u M3 u' H3 α3 e3 h3 r3 q3=> ?_)
 cases r2
 cases r3
 cases r1 with
 |str z=>
  by_cases c:z.length<=100000/\okT z l u
  ·simp only[if_pos c] at q3
   exact ⟨z,rfl,Zh5 c.1,by rw[Zkf c.2];exact q3 _ H3 α3 Ext.refl h3 (.str _)⟩
  ·simp only[if_neg c] at q3
   exact q3.elim
 |_=>exact q3.elim
end
end DL
end
section
namespace SX
open PySem PySem.NumText
theorem ZgN {x y:Str}(h:x.cps.toList=y.cps.toList):x=y:=by
 cases x with
 |mk a=>cases y with | mk b=>congr 1;exact Array.toList_inj.mp h
theorem Zbg (x:Str):x.length=x.cps.toList.length:=by simp[Str.length]
theorem Zkg (x y:Str):(x ++ y).cps.toList=x.cps.toList ++ y.cps.toList:=PySem.W.KT.app_list x y
noncomputable def tx (i:Int):Str:=Str.ofString (toString i)
noncomputable def dg (m:Nat):List Nat:=(Nat.toDigits 10 m).map Char.toNat
theorem Zjf (m:Nat):AllDigits (dg m):=by
 intro c hc;obtain ⟨ch,hch,e⟩:=List.mem_map.mp hc
 rw[<- e];exact PyProof.Rows.digit_range (Nat.isDigit_of_mem_toDigits (by decide) (by decide) hch)
theorem Zo2 (m:Nat):dg m≠[]:=by
 intro e;have h:=Nat.length_toDigits_pos (b:=10) (n:=m)
 rw[List.map_eq_nil_iff.mp e] at h;exact absurd h (by decide)
theorem ZmA (m:Nat):digitsVal (dg m)=m:=PySem.W.KIN.val_back m
theorem Zoy (i:Int):(tx i).cps.toList=(if i < 0 then [45] else []) ++ dg i.natAbs:=by
 unfold tx;cases i with
 |ofNat m=>
  rw[if_neg (by simp)]
  exact PySem.W.KIN.signs_num m
 |negSucc m=>
  rw[if_pos (Int.negSucc_lt_zero m)];rw[PyProof.Rows.signs_ofString];show (("-" ++ Nat.repr (m + 1)).toList).map Char.toNat=_
  rw[String.toList_append,List.map_append,Nat.toList_repr];rfl
theorem ZgO {m k:Nat}(hk:0 < k)(h:m < 10 ^ k):(dg m).length<=k:=by
 unfold dg;rw[List.length_map];exact (Nat.length_toDigits_le_iff (by decide) hk).mpr h
theorem Zkh:dg 0=[48]:=by decide
theorem Zki {m:Nat}(h:m≠0): ∃ c r,dg m=c :: r/\c≠48:=by
 induction m using Nat.strongRecOn with
 |_ m ih=>
  by_cases c:m < 10
  ·refine ⟨(Nat.digitChar m).toNat,[],by unfold dg;rw[Nat.toDigits_of_lt_base c];rfl,?_⟩
   have: ∀ d:Nat,d < 10->d≠0->(Nat.digitChar d).toNat≠48:=by decide
   exact this m c h
  ·obtain ⟨a,r,e,n⟩:=ih (m / 10) (by omega) (by omega)
   have t:Nat.toDigits 10 (m / 10) ++ Nat.toDigits 10 (m % 10)=Nat.toDigits 10 (10 * (m / 10) + m % 10):=Nat.toDigits_append_toDigits (by decide) (by omega) (Nat.mod_lt m (by decide))
   rw[Nat.div_add_mod] at t;refine ⟨a,r ++ dg (m % 10),?_,n⟩
   unfold dg at e ⊢;rw[<- t,List.map_append,e];rfl
theorem ZdN {i:Int}(h:i.natAbs < 10 ^ 60):(tx i).length<=61:=by
 rw[Zbg,Zoy,List.length_append]
 have:=ZgO (by decide) h
 split<;>simp<;>omega
theorem Zij {i:Int}{c:Nat}(h1:c≠45)(h2: ¬ (48<=c/\c<=57)):c ∉ (tx i).cps.toList:=by
 rw[Zoy];intro m
 rcases List.mem_append.mp m with m | m
 ·split at m
  ·simp at m;exact h1 m
  ·cases m
 ·exact h2 (Zjf _ c m)
end SX
end
section
namespace DQ
open PySem PySem.Spec PyProof.Rows
open Builtin Builtin.ObjectAttr
open PySem.W (Looks findIn mroIn specialIn takesIn clsIn looks_findIn looks_mroIn looks_find findObj handedIn hasDictIn lookIn)
section
variable {prog:Program}{w:World}{A:Around}{E:Value->Shared->Prop}{s:Shared}{K:PySem.W.Frag}{e C:Addr}{oe:Obj}{od:Option Obj}{name:Str}{v:Value}
noncomputable def ZmB:Value->Bool
 | .ref _=>true
 |_=>false
noncomputable def Zik:List Value->Bool
 | []=>false
 |v :: r=>if ZmB v then Zik r else (v :: r) == [.type "ValueError",.type "Exception",.type "BaseException",.type "object"]
theorem Zil {v:Value}(h:ZmB v=true): ∃ a,v= .ref a:=by
 cases v<;>first | exact ⟨_,rfl⟩ | cases h
theorem ZeV (self:Value): ∀ {l:List Value},Zik l=true->refuseLoop self "__setattr__" l=pure ()/\l.contains (.type "object")=true/\l.isEmpty=false
 | [],h=>by cases h
 |v :: r,h=>by
  unfold Zik at h
  split at h
  ·rename_i q
   obtain ⟨a,rfl⟩:=Zil q
   obtain ⟨h1,h2,_⟩:=ZeV self h
   exact ⟨by rw[refuseLoop_ref];exact h1,by rw[List.contains_cons,h2,Bool.or_true],rfl⟩
  ·have e:=eq_of_beq h
   rw[e];exact ⟨PySem.F.store_ValueError.passes self,by decide +kernel,rfl⟩
noncomputable def ZbE (K:PySem.W.Frag)(C:Addr):Bool:=(clsIn K C).any fun cd=>Zik cd.mro
theorem ZgP {tk:Tok}{R:Result->Shared->Prop}(X:K.In s.heap)(I:PySem.W.InstAt s.heap e oe C od)(hp:ZbE K C=true)(ht:PySem.W.takerIn K C name=some none)
  (h: ∀ b,wpAny (model prog w) A.in1 (storeInOwnDict (.ref e) (.ref C) (.str name tk) name v b)
   (fun fin s'=>match fin with | .done f=>R (.ok f) s' | .again c'=>c'.quiet=true/\codeAny (model prog w) A c' R s') (fun e s'=>R (.error e) s') s):
  codeAny (model prog w) A (.call (.builtin "object.__setattr__") ⟨[.ref e,.str name tk,v],[]⟩) R s:=by
 have SF:=PySem.F.store_object
 obtain ⟨cd,hc,ho⟩:=PySem.W.any_some hp
 obtain ⟨r1,r2,r3⟩:=ZeV (.ref e) ho
 have sub:Looks (model prog w) s.heap (isInstance (.ref e) (.type "object")) true:=I.type.andThen (looks_mroIn X (by unfold mroIn;rw[hc,Option.bind_some,if_neg (by rw[r3];decide),r2]))
 refine codeAny_call_builtin SF.slot.plain SF.entry (@PySem.W.check_slot (model prog w) _ _ s "object.__setattr__" "object" "__setattr__" (.ref e) [.str name tk,v] [] _ SF.kind SF.split sub (SF.args (.ref e) (.str name tk) v) ?_)
 obtain ⟨attr,ha,hr⟩:=Option.bind_eq_some_iff.mp ht
 have hm:Looks (model prog w) s.heap (mroOf (.ref C)) cd.mro:=(PySem.W.looks_clsIn X hc).andThen .now
 have L3:Looks (model prog w) s.heap (Builtin.ObjectAttr.storeTaker? attr) none:=by
  cases attr with
  |none=>exact .now
  |some a=>
   obtain ⟨b,hb,e⟩:=Option.map_eq_some_iff.mp hr
   refine (PySem.W.looks_takesIn X hb).andThen ?_
   cases b
   ·exact .now
   ·cases e
 rw[PySem.W.osa_eq,refuse_eq];refine wpAny_bind (wpAny_bind (I.type.here (wpAny_bind (hm.here ?_))))
 rw[r1];refine wpAny_pure (wpAny_bind (I.type.here (wpAny_bind ((looks_findIn X ha).here (wpAny_bind (L3.here ?_))))))
 exact h _
theorem ZmC {Q:Unit->Shared->Prop}(X:K.In s.heap)(I:PySem.W.InstAt s.heap e oe C od)(hs:findIn K (.ref C) "__setattr__"=some (some (.builtin "object.__setattr__")))(hp:ZbE K C=true)(ht:PySem.W.takerIn K C name=some none)
  (h: ∀ b,wpAny (model prog w) A.in1 (storeInOwnDict (.ref e) (.ref C) (.str name s.toks) name v b) (fun fin s'=>match fin with | .done (.ret _)=>Q () s' | _=>False) E { s with toks:=s.toks + 1 }):wpAny (model prog w) A (setAttr (.ref e) name v) Q E s:=by
 refine PySem.W.set_plain X I hs (ZgP (s:={ s with toks:=s.toks + 1 }) X I hp ht fun b=>wpAny_mono (h b) (fun fin s' z=> ?_) fun _ _ z=>z)
 rcases fin with (_ | _ | _ | _) | _<;>first | exact z | exact z.elim
theorem Zkj {vs:Array Value}{Q:Unit->Shared->Prop}(X:K.In s.heap)(hx:s.heap.get? e=some oe)(hc:oe.cls= .ref C)(hd:oe.data= .fields vs)(hn:oe.dict=none)(hs:findIn K (.ref C) "__setattr__"=some (some (.builtin "object.__setattr__")))(hp:ZbE K C=true)(ht:PySem.W.takerIn K C name=some none)(hh:hasDictIn K C=true)
  (h: ∀ h',h'.get? e=some { oe with dict:=some s.heap.objs.size }->h'.Ns1 s.heap.objs.size (fun y=>if y=name then some v else none)->(∀ b o,b≠e->s.heap.get? b=some o->h'.get? b=some o)->Q () { s with heap:=h',toks:=s.toks + 2 }):
  wpAny (model prog w) A (setAttr (.ref e) name v) Q E s:=by
 have I:PySem.W.InstAt s.heap e oe C none:=⟨hx,hc,by unfold PySem.W.notCls;rw[hd],by rw[hn];trivial⟩
 refine ZmC X I hs hp ht fun b=> ?_
 obtain ⟨cd,hcd,hd'⟩:=PySem.W.any_some hh
 refine wpAny_bind (wpAny_pure (wpAny_bind (wpAny_bind (wpAny_loadPart hx ?_))))
 rw[hc];refine wpAny_bind (PySem.W.Looks.here (s:={ s with toks:=s.toks + 1 }) (PySem.W.looks_clsIn X hcd) ?_)
 rw[hd',hn];dsimp only;rw[if_neg (by decide),if_neg (by simp[typeHasDict]),hd]
 dsimp only;obtain ⟨hp0,g,d,t,os⟩:=s
 dsimp only at hx h ⊢;have hx₁:(hp0.push { cls:= .type "dict",data:= .dict #[] }).get? e=some oe:=Heap.get?_push_of_some _ hx
 have hxs:e≠hp0.objs.size:=Nat.ne_of_lt (Heap.lt_size hx)
 refine wpAny_bind (wpAny_alloc' ?_)
 refine wpAny_bind (wpAny_update' hx₁ ?_)
 refine wpAny_pure ?_
 have hgd:((hp0.push { cls:= .type "dict",data:= .dict #[] }).update e fun o=>{ cls:=o.cls,dict:=some hp0.objs.size,data:=o.data,slots:=o.slots }).get? hp0.objs.size=some { cls:= .type "dict",data:= .dict #[] }:=
  (Heap.get?_update_ne _ _ _ _ hxs.symm).trans (Heap.get?_push_at rfl rfl)
 have hnd:((hp0.push { cls:= .type "dict",data:= .dict #[] }).update e fun o=>{ cls:=o.cls,dict:=some hp0.objs.size,data:=o.data,slots:=o.slots }).Ns hp0.objs.size (fun _=>none):=
  ⟨_,#[],_,hgd,rfl,fun e he=>absurd he (by simp),fun _=>rfl⟩
 show wpAny _ _ (storeInDict hp0.objs.size (.str name t) name v) _ _ _
 unfold storeInDict newKeyGuard;refine wpAny_bind (wpAny_pure (wpAny_bind (wpAny_nsSet1 (Heap.Ns1.of_empty hnd) fun h' hn' hs=> ?_)))
 obtain ⟨oD,esD,epD,hoD,hdD,hcD⟩:=hn'.count (PySem.Within.cons name v PySem.Within.nil)
 refine wpAny_bind (wpAny_lookBehind hoD (by rw[hdD];exact pastItsLine_dict (Nat.le_trans hcD (by rw[List.length_cons,List.length_nil,sizeLine_eq];omega))) ?_)
 refine wpAny_pure (h h' ?_ hn' fun b ob hbx hb=> ?_)
 ·refine (hs.2 e hxs).trans (Heap.get?_update_self _ hx₁ ?_)
  obtain ⟨oc,odi,odt,osl⟩:=oe
  dsimp only at hd;subst hd;rfl
 ·exact (hs.2 b (Nat.ne_of_lt (Heap.lt_size hb))).trans ((Heap.get?_update_ne _ _ _ _ hbx).trans (Heap.get?_push_of_some _ hb))
theorem Zkk {mA:Str->Option Value}{dx:Addr}{ns:List Str}{Q:Unit->Shared->Prop}(X:K.In s.heap)(I:PySem.W.InstAt s.heap e oe C od)(hd:oe.dict=some dx)(hns:s.heap.Ns1 dx mA)(hs:findIn K (.ref C) "__setattr__"=some (some (.builtin "object.__setattr__")))(hp:ZbE K C=true)(ht:PySem.W.takerIn K C name=some none)(hh:hasDictIn K C=true)
  (hw:PySem.Within mA ns) (hsz:ns.length<=1000) (h: ∀ h',h'.Ns1 dx (fun y=>if y=name then some v else mA y)->Heap.SameBut dx s.heap h'->Q () { s with heap:=h',toks:=s.toks + 2 }):
  wpAny (model prog w) A (setAttr (.ref e) name v) Q E s:=by
 refine ZmC X I hs hp ht fun b=> ?_
 obtain ⟨cd,hcd,hd'⟩:=PySem.W.any_some hh
 refine wpAny_bind (wpAny_pure (wpAny_bind (wpAny_bind (wpAny_loadPart I.at_ ?_))))
 rw[I.cls];refine wpAny_bind (PySem.W.Looks.here (s:={ s with toks:=s.toks + 1 }) (PySem.W.looks_clsIn X hcd) ?_)
 rw[hd',hd];refine wpAny_pure (a:=some dx) (wpAny_bind (wpAny_pure (wpAny_bind ?_)))
 refine wpAny_nsSet1 (s:={ s with toks:=s.toks + 1 }) hns fun h' hn2 hs2=> ?_
 obtain ⟨oD,esD,epD,hoD,hdD,hcD⟩:=hn2.count (PySem.Within.cons name v hw)
 refine wpAny_bind (wpAny_lookBehind hoD (by rw[hdD];exact pastItsLine_dict (Nat.le_trans hcD (by rw[List.length_cons,sizeLine_eq];omega))) ?_)
 exact wpAny_pure (h _ hn2 hs2)
theorem ZgQ {bm:List Value}{N:Addr}{nm q:Str}{bs:List Value}{hdct:Bool}{sn:List Str}{sub:List Value}{ab:Bool}{col:Option Bool}{dd:Option Addr}{k0 k1 k2 k3 k5:Option Value}{vs:Array Value}{Q:Value->Shared->Prop}{h:Heap}{g:Array GenState}{d:Drawn}{t:Nat}{os:OsState}
  (T:OwnTail h [.type "ValueError",.type "Exception",.type "BaseException",.type "object"] bm) (hC:h.get? C=some (excClassObj nm q C N bs bm hdct sn sub ab col dd k0 k1 k2 k3 k5 "ValueError.__new__")) (he:h.get? e=some oe) (hc:oe.cls= .ref C) (hd:oe.data= .fields vs) {t0:Addr} (h0:vs[0]?=some (.ref t0))
  (hq: ∀ h',(∀ b o,b≠e->h.get? b=some o->h'.get? b=some o)->h'.get? e=some { oe with data:= .fields (vs.setIfInBounds 0 (.ref h.objs.size)) }->Q .none ⟨h',g,d,t,os⟩):
  wpAny (model prog w) A (call (.builtin "ValueError.__init__") [.ref e,v]) Q E ⟨h,g,d,t,os⟩:=by
 refine wpAny_call (codeAny_call_builtin F.excBase_ValueError.init.plain F.excBase_ValueError.initEntry (wpAny_check_init_subT F.excBase_ValueError T hC he hc ?_))
 have hz:0 < vs.size:=(Array.getElem?_eq_some_iff.mp h0).1
 have he1:(h.push { cls:=Value.type "tuple",data:=Data.seq #[v] }).get? e=some oe:=Heap.get?_push_of_some _ he
 wp_walk
 rw[hd];refine wpAny_pure ?_
 rw[h0];refine wpAny_pure (wpAny_bind (wpAny_setField he1 hd hz ?_))
 wp_walk
 refine hq _ (fun b o hb x=> ?_) ?_
 ·rw[Heap.get?_update_other _ _ (Ne.symm hb)]
  exact Heap.get?_push_of_some _ x
 ·rw[Heap.get?_update_self _ he1 (Obj.isFreed_of_fields (Obj.data_mapFields hd _))]
  obtain ⟨oc,odi,odt,osl⟩:=oe
  dsimp only at hd;subst hd;rfl
end
section
variable {prog:Program}{w:World}{A:Around}{E:Value->Shared->Prop}{h:Heap}{g:Array GenState}{d:Drawn}{t:Nat}{os:OsState}
variable {nm q:Str}{C N:Addr}{bs bm bmB:List Value}{hdct:Bool}{sn:List Str}{sub:List Value}{ab:Bool}{col:Option Bool}{dd:Option Addr}{k0 k1 k2 k3 k5:Option Value}{B newId initId:String}
theorem ZcA (F:ExcBaseFacts B newId initId bmB)(T:OwnTail h bmB bm){mN:Str->Option Value}{rest:List Value}{fI:Addr}{oI:Obj}{Q:Fin->Shared->Prop}
  (hC:h.get? C=some (excClassObj nm q C N bs bm hdct sn sub ab col dd k0 k1 k2 k3 k5 newId)) (hn:h.Ns N mN) (hi:mN "__init__"=some (.ref fI)) (hfI:h.get? fI=some oI) (hfc:oI.cls= .type "function")
  (hq: ∀ h' e,Heap.MadeExcOf h h' e (.ref C) rest->wpAny (model prog w) A (call (.ref fI) (.ref e :: rest)) (fun r s'=>r= .none/\Q (.done (.ret (.ref e))) s') E ⟨h',g,d,t,os⟩) (hrest:rest.length<=sizeLine):
  wpAny (model prog w) A (Builtin.«type.__call__» ⟨.ref C :: rest,[]⟩) Q E ⟨h,g,d,t,os⟩:=by
 repeat (first | with_reducible refine wpAny_loadPart_at hC ?_ | with_reducible refine wpAny_madeBy_exc hC ?_ | wp_step)
 refine codeAny_call_builtin_code (Code.quiet_builtin _ F.quiet) (wpAny_check_new_subT F T hC ?_)
 refine codeAny_exc_new_subT F T hC ?_ hrest
 show wpAny _ _ _ _ _ _
 have hC₁:=Heap.get?_push_of_some { cls:= .ref C,data:= .fields #[.ref h.objs.size,.none,.none,.none,.bool false,.none] }
  (Heap.get?_push_of_some { cls:= .type "tuple",data:= .seq rest.toArray } hC)
 have hfI₁:=Heap.get?_push_of_some { cls:= .ref C,data:= .fields #[.ref h.objs.size,.none,.none,.none,.bool false,.none] }
  (Heap.get?_push_of_some { cls:= .type "tuple",data:= .seq rest.toArray } hfI)
 have hn₁:((h.push { cls:= .type "tuple",data:= .seq rest.toArray }).push { cls:= .ref C,data:= .fields #[.ref h.objs.size,.none,.none,.none,.bool false,.none] }).Ns N mN:=
  let ⟨o,es,ep,e,r⟩:=hn;⟨o,es,ep,Heap.get?_push_of_some _ (Heap.get?_push_of_some _ e),r⟩
 have hget:((h.push { cls:= .type "tuple",data:= .seq rest.toArray }).push
   { cls:= .ref C,data:= .fields #[.ref h.objs.size,.none,.none,.none,.bool false,.none] }).get? (h.objs.size + 1)=some
   { cls:= .ref C,data:= .fields #[.ref h.objs.size,.none,.none,.none,.bool false,.none] }:=by heap_get
 have hcC:(Value.ref C :: bm).contains (.ref C)=true:=by simp
 have T₁:=T.keeps (h':=(h.push { cls:= .type "tuple",data:= .seq rest.toArray }).push { cls:= .ref C,data:= .fields #[.ref h.objs.size,.none,.none,.none,.bool false,.none] })
  fun b o e=>Heap.get?_push_of_some _ (Heap.get?_push_of_some _ e)
 unfold isInstance
 repeat (first | with_reducible refine wpAny_loadPart_at hget ?_ | (with_reducible refine wpAny_isSubtype_exc hC₁ ?_;rw[hcC]) | wp_step)
 show wpAny _ _ (typeLookup (.ref C) _) _ _ _
 refine wpAny_typeLookup_tail hC₁ hn₁ T₁ F.mroIs F.init.lookup ?_
 rw[hi];refine wpAny_holding (wpAny_bind ?_)
 unfold bindSpecial;refine wpAny_bind (wpAny_typeOf (T:="function") ⟨_,hfI₁,hfc⟩ ?_)
 rw[if_pos (by decide)]
 refine wpAny_pure (wpAny_bind (wpAny_mono (hq _ (h.objs.size + 1) ⟨fun b o hb=>Heap.get?_push_of_some _ (Heap.get?_push_of_some _ hb),Heap.get?_none_of_le (Nat.le_succ _),h.objs.size,hget,Heap.get?_none_of_le (Nat.le_refl _),?_⟩) (fun r s' hr=> ?_) fun _ _ x=>x))
 ·exact Heap.get?_push_of_some _ (Heap.get?_push_at rfl rfl)
 ·obtain ⟨rfl,hQ⟩:=hr
  wp_walk
  exact hQ
theorem ZgR (F:ExcBaseFacts B newId initId bmB)(T:OwnTail h bmB bm){mN:Str->Option Value}{rest:List Value}{fI:Addr}{oI:Obj}{Q:Value->Shared->Prop}
  (hC:h.get? C=some (excClassObj nm q C N bs bm hdct sn sub ab col dd k0 k1 k2 k3 k5 newId)) (hn:h.Ns N mN) (hi:mN "__init__"=some (.ref fI)) (hfI:h.get? fI=some oI) (hfc:oI.cls= .type "function")
  (hq: ∀ h' e,Heap.MadeExcOf h h' e (.ref C) rest->wpAny (model prog w) (A.under (.builtin "type.__call__" ⟨.ref C :: rest,[]⟩)) (call (.ref fI) (.ref e :: rest)) (fun r s'=>r= .none/\Q (.ref e) s') E ⟨h',g,d,t,os⟩) (hrest:rest.length<=sizeLine):
  wpAny (model prog w) A (call (.ref C) rest) Q E ⟨h,g,d,t,os⟩:=by
 have f1:=tc_lookup
 have f2:=tc_bind (.ref C)
 have hT:(⟨h,g,d,t,os⟩:Shared).TypeIs (.ref C) "type":=⟨_,hC,rfl⟩
 refine wpAny_call (codeAny_of_tree ?_)
 show wpAny _ _ (callAny (.ref C) _) _ _ _
 repeat (any_goals (first | assumption | with_reducible refine wpAny_loadPart_at hC ?_ | wp_step))
 refine ⟨rfl,?_⟩
 refine codeAny_call_builtin_at (Code.quiet_builtin _ (by decide +kernel)) entry_typeCall (wpAny_check_type_call_sub hC (ZcA (hrest:=hrest) F T hC hn hi hfI hfc fun h' e hm=> ?_))
 exact hq h' e hm
end
section
variable {prog:Program}{w:World}{A:Around}{E:Value->Shared->Prop}{s:Shared}{env:Env}
variable {nm q:Str}{C N:Addr}{bs bm bmB:List Value}{hdct:Bool}{sn:List Str}{sub:List Value}{ab:Bool}{col:Option Bool}{dd:Option Addr}{k0 k1 k2 k3 k5:Option Value}{B newId initId:String}
theorem ZbF {x:Sem Value}{Q:Flow->Shared->Prop}(hbase:bm.contains (.type "BaseException")=true)(hh:A.handled=none)
  (h:wpAny (model prog w) A x (fun v s₁=> ∃ e oe vs,v= .ref e/\s₁.heap.get? C=some (excClassObj nm q C N bs bm hdct sn sub ab col dd k0 k1 k2 k3 k5 newId)/\s₁.heap.get? e=some oe/\oe.cls= .ref C/\oe.data= .fields vs/\vs[1]?=some .none/\E (.ref e) s₁) E s):
  wpAny (model prog w) A (raiseStmt env (some x) none) Q E s:=by
 have hcB:(Value.ref C :: bm).contains (.type "BaseException")=true:=by rw[List.contains_cons,hbase,Bool.or_true]
 unfold raiseStmt;refine wpAny_bind (wpAny_mono h (fun v s₁ h₁=> ?_) fun _ _ x=>x)
 obtain ⟨e,⟨oc,odi,odt,osl⟩,vs,rfl,hC,he,hc,hd,h1,hE⟩:=h₁
 dsimp only at hc hd;subst hc hd;obtain ⟨hp,g,d,tk,os⟩:=s₁
 repeat (first | with_reducible refine wpAny_loadPart_at he ?_ | with_reducible refine wpAny_loadPart_at hC ?_ | (with_reducible refine wpAny_isSubtype_exc hC ?_;rw[hcB]) | wp_step)
 rw[h1];refine wpAny_pure ?_
 rw[if_neg (by decide)]
 exact wpAny_pure (wpAny_raiseNew_none hh hE)
theorem Zfn {x:Str}{np cpos pos:Pos}{args:List Expr}{Q:Flow->Shared->Prop}(F:ExcBaseFacts B newId initId bmB){mN:Str->Option Value}{fI:Addr}{oI:Obj}
  (hbase:bm.contains (.type "BaseException")=true) (hh:A.handled=none) (hplain:(backTo cpos (starEach args env)).any (·.1)=false) (hi:mN "__init__"=some (.ref fI)) (hfc:oI.cls= .type "function")
  (h:wpAny (model prog w) A (eval (.Name x np) env) (fun f s₁=>f= .ref C/\wpAny (model prog w) A (evalArgs (.ref C) true (backTo cpos (starEach args env)) [])
   (fun a s₂=>a.kw=[]/\a.pos.length<=sizeLine/\s₂.heap.get? C=some (excClassObj nm q C N bs bm hdct sn sub ab col dd k0 k1 k2 k3 k5 newId)/\s₂.heap.Ns N mN/\OwnTail s₂.heap bmB bm/\s₂.heap.get? fI=some oI/\
    ∀ h' e,Heap.MadeExcOf s₂.heap h' e (.ref C) a.pos->wpAny (model prog w) (A.under (.builtin "type.__call__" ⟨.ref C :: a.pos,[]⟩)) (call (.ref fI) (.ref e :: a.pos))
     (fun r s'=>r= .none/\ ∃ oe vs,s'.heap.get? C=some (excClassObj nm q C N bs bm hdct sn sub ab col dd k0 k1 k2 k3 k5 newId)/\s'.heap.get? e=some oe/\oe.cls= .ref C/\oe.data= .fields vs/\vs[1]?=some .none/\E (.ref e) s') E { s₂ with heap:=h' }) E s₁) E s):
  wpAny (model prog w) A (exec (.Raise (some (.Call (.Name x np) args [] cpos)) none pos) env) Q E s:=by
 rw[arm_exec_Raise]
 first
  |refine wpAny_bind (wpAny_standAt (ZbF (C:=C) (nm:=nm) (q:=q) (N:=N) (bs:=bs) (bm:=bm) (hdct:=hdct) (sn:=sn) (sub:=sub) (ab:=ab) (col:=col) (dd:=dd) (k0:=k0) (k1:=k1) (k2:=k2) (k3:=k3) (k5:=k5) (newId:=newId) hbase hh (wpAny_bind (wpAny_mono (wpAny_Call_ofName (wpAny_mono h (fun f s₁ h₁=> ?_) fun _ _ x=>x)) (fun v s₃ h₃=>wpAny_bind (wpAny_standAt (wpAny_pure h₃))) fun _ _ x=>x))))
  | (simp only[evalOpt,Option.map];refine wpAny_bind (wpAny_standAt (ZbF (C:=C) (nm:=nm) (q:=q) (N:=N) (bs:=bs) (bm:=bm) (hdct:=hdct) (sn:=sn) (sub:=sub) (ab:=ab) (col:=col) (dd:=dd) (k0:=k0) (k1:=k1) (k2:=k2) (k3:=k3) (k5:=k5) (newId:=newId) hbase hh (wpAny_bind (wpAny_mono (wpAny_Call_ofName (wpAny_mono h (fun f s₁ h₁=> ?_) fun _ _ x=>x)) (fun v s₃ h₃=>wpAny_bind (wpAny_standAt (wpAny_pure h₃))) fun _ _ x=>x)))))
  | (refine wpAny_bind (wpAny_standAt (ZbF (C:=C) (nm:=nm) (q:=q) (N:=N) (bs:=bs) (bm:=bm) (hdct:=hdct) (sn:=sn) (sub:=sub) (ab:=ab) (col:=col) (dd:=dd) (k0:=k0) (k1:=k1) (k2:=k2) (k3:=k3) (k5:=k5) (newId:=newId) hbase hh ?_));refine wpAny_bind (wpAny_mono (wpAny_Call_ofName (wpAny_mono h (fun f s₁ h₁=> ?_) fun _ _ x=>x)) (fun v s₃ h₃=>wpAny_bind (wpAny_standAt (wpAny_pure h₃))) fun _ _ x=>x))
 obtain ⟨rfl,h₁⟩:=h₁
 unfold callWith;refine wpAny_bind (wpAny_holding (wpAny_mono h₁ (fun a s₂ h₂=>wpAny_bind (wpAny_standAt ?_)) fun _ _ x=>x))
 obtain ⟨apos,akw⟩:=a
 obtain ⟨hkw,hlen,hC,hn,T,hfI,h₂⟩:=h₂
 obtain rfl:akw=[]:=hkw
 obtain ⟨hp,g,d,tk,os⟩:=s₂
 simp only[hplain];refine wpAny_bind (wpAny_keeperOf_exc hC ?_)
 refine wpAny_bind (ZgR (hrest:=hlen) F T hC hn hi hfI hfc fun h' e hm=>wpAny_mono (h₂ h' e hm) (fun r s' z=>⟨z.1,wpAny_bind (wpAny_holding (wpAny_point (wpAny_pure ?_)))⟩) fun _ _ x=>x)
 obtain ⟨-,oe,vs,z1,z2,z3,z4,z5,z6⟩:=z
 exact ⟨e,oe,vs,rfl,z1,z2,z3,z4,z5,z6⟩
end
end DQ
end
section
namespace DL
open PySem PySem.Spec PyProof.Rows L2
open PySem.W (nsIn excIn tailIn nsOkIn mroIn clsIn typeIn findIn specialIn takesIn hasDictIn readsIn findCls handedIn)
noncomputable def ZeW (K:PySem.W.Frag)(C fI:Addr)(bmB:List Value)(newId:String):Bool:=match K.lookup C with
 |some ⟨.type "type",_,.cls cd,sl⟩=>(match cd.mro,sl.toList with
  | .ref C' :: bm,[_,_,_,_,some (.builtin n),_]=>C' == C && n == newId && !cd.hasDel && tailIn K bmB bm && nsOkIn K cd.ns && nsIn K cd.ns "__init__" == some (some (.ref fI))
  |_,_=>false)
 |_=>false
theorem Zfo {K:PySem.W.Frag}{h:Heap}{N:Addr}{mg:Str->Option Value}{n:Str}{v:Value}(X:K.In h)(G:h.Ns N mg)(e:nsIn K N n=some (some v)):mg n=some v:=by
 obtain ⟨o,es,ep,ho,hd,_,hf⟩:=G
 unfold PySem.W.nsIn at e
 split at e
 ·rename_i c d es' n' sl q
  have:=X _ _ q
  rw[ho] at this;cases this
  cases hd
  split at e
  ·rename_i en he
   cases e
   rw[<- hf];unfold nsFind findBy;rw[<- Array.find?_toList,he]
   rfl
  ·split at e<;>cases e
 ·cases e
theorem ZeX {K:PySem.W.Frag}{h:Heap}{C fI:Addr}{bmB:List Value}{newId:String}(X:K.In h)(q:ZeW K C fI bmB newId=true):
  ∃ bm N nm q bs hdct sn sub ab col dd k0 k1 k2 k3 k5 mN,h.get? C=some (excClassObj nm q C N bs bm hdct sn sub ab col dd k0 k1 k2 k3 k5 newId)/\h.Ns N mN/\mN "__init__"=some (.ref fI)/\OwnTail h bmB bm:=by
 unfold ZeW at q
 split at q
 ·rename_i dd cd sl ho
  split at q
  ·rename_i C' bm k0 k1 k2 k3 n k5 hm hs
   simp only[Bool.and_eq_true,beq_iff_eq,Bool.not_eq_true'] at q;obtain ⟨⟨⟨⟨⟨rfl,rfl⟩,hdel⟩,ht⟩,hok⟩,hni⟩:=q
   obtain ⟨nm,bs,mro,ns,qn,hd,sn,sub,ab,col,del⟩:=cd
   dsimp only at hm hdel hok hni;subst hm hdel;obtain ⟨l⟩:=sl
   simp only at hs
   subst hs;have G:h.Ns ns _:= .of_isNs (PySem.W.isNs_of_in X hok)
   exact ⟨bm,ns,nm,qn,bs,hd,sn,sub,ab,col,dd,k0,k1,k2,k3,k5,_,X _ _ ho,G,Zfo X G hni,PySem.W.tail_of_in X ht⟩
  ·cases q
 ·cases q
noncomputable def ZgS (K:PySem.W.Frag)(c:Str)(fI:Addr):Bool:=match Zcz K c with
 |some C=>ZeW K C fI bmV "ValueError.__new__" && findIn K (.ref C) "__getattribute__" == some (some (.builtin "BaseException.__getattribute__")) && findIn K (.ref C) "__getattr__" == some none && findIn K (.ref C) "__class__" == some (some (.builtin "object.__class__")) &&
  specialIn K (.builtin "object.__class__") "__get__" == some (some (.builtin "getset_descriptor.__get__")) && takesIn K (.builtin "object.__class__") == some true && mroIn K C (.type "BaseException") == some true && mroIn K C (.type "object") == some true && (clsIn K C).isSome &&
  findIn K (.ref C) "__setattr__" == some (some (.builtin "object.__setattr__")) && DQ.ZbE K C && hasDictIn K C && findIn K (.ref C) "where" == some none && findIn K (.ref C) "at" == some none && typeIn K (.ref fI) == some (.type "function")
 |none=>false
structure ExF (K:PySem.W.Frag) (C fI:Addr):Prop where
 inn:ZeW K C fI bmV "ValueError.__new__"=true
 exc:DQ.ExcC K C
 sa:findIn K (.ref C) "__setattr__"=some (some (.builtin "object.__setattr__"))
 ov:DQ.ZbE K C=true
 hd:hasDictIn K C=true
 fw:findIn K (.ref C) "where"=some none
 fa:findIn K (.ref C) "at"=some none
 ty:typeIn K (.ref fI)=some (.type "function")
theorem ZeY {K:PySem.W.Frag}{c:Str}{fI:Addr}(h:ZgS K c fI=true): ∃ C,nsIn K mainGlobals c=some (some (.ref C))/\ExF K C fI:=by
 unfold ZgS at h
 split at h
 ·rename_i C e
  simp only[Bool.and_eq_true,beq_iff_eq] at h;obtain ⟨⟨⟨⟨⟨⟨⟨⟨⟨⟨⟨⟨⟨⟨h1,h2⟩,h3⟩,h4⟩,h5⟩,h6⟩,h7⟩,h8⟩,h9⟩,h10⟩,h11⟩,h12⟩,h13⟩,h14⟩,h15⟩:=h
  exact ⟨C,Zbs e,h1,⟨h2,h3,h4,h5,h6,h7,h8,h9⟩,h10,h11,h12,h13,h14,h15⟩
 ·cases h
theorem ZeZ {K:PySem.W.Frag}{C:Addr}{f:Str}(h:findIn K (.ref C) f=some none):PySem.W.takerIn K C f=some none:=by unfold PySem.W.takerIn;rw[h];rfl
noncomputable def Mkg (C e:Addr)(dct:Option Addr)(h:Heap):Prop:= ∃ oe vs t0,h.get? e=some oe/\oe.cls= .ref C/\oe.dict=dct/\oe.data= .fields vs/\vs[0]?=some (.ref t0)/\vs[1]?=some .none/\vs[2]?=some .none
theorem ZgT {P:Program}{w:World}{H:Hp}{C e:Addr}{dct:Option Addr}{h:Heap}(m:Mkg C e dct h):Za5 P w H h e (.ext (Mkg C e dct)):=
 ⟨m,let ⟨oe,_,_,g,_⟩:=m;⟨oe,g⟩,fun _ _ ⟨oe,vs,t0,g,r⟩ k=>⟨oe,vs,t0,k _ g,r⟩⟩
section
variable {X:Cx}{pins:List (Addr × Obj)}{σ:L2.St}{H H':Hp}{s:Shared}{h':Heap}{t:Nat}{e C dx:Addr}{f:Str}
theorem ZcZ (I:Inv X pins σ H s)(ch:Addr->Prop)(c1: ∀ b,ch b->(∃ φ,H b=some (.ext φ))\/(∃ fs,H b=some (.xd fs))\/s.heap.get? b=none)(k: ∀ b o,¬ ch b->s.heap.get? b=some o->h'.get? b=some o)(th: ∀ b,ch b-> ∃ o,h'.get? b=some o)
  (hH: ∀ b,¬ ch b->H' b=H b) (ok: ∀ b u,ch b->H' b=some u->Za5 X.prog X.w H' h' b u):Inv X pins σ H' { s with heap:=h',toks:=t }:=by
 have nn: ∀ b o,s.heap.get? b=some o->H b=none-> ¬ ch b:=fun b o x n c=>by
  rcases c1 b c with ⟨φ,z⟩ | ⟨fs,z⟩ | z
  ·rw[n] at z;cases z
  ·rw[n] at z;cases z
  ·rw[x] at z;cases z
 have nt: ∀ b u,H b=some u->(∀ φ,u≠ .ext φ)->(∀ fs,u≠ .xd fs)-> ¬ ch b:=fun b u q n1 n2 c=>by
  rcases c1 b c with ⟨φ,z⟩ | ⟨fs,z⟩ | z
  ·rw[q] at z;cases z;exact n1 _ rfl
  ·rw[q] at z;cases z;exact n2 _ rfl
  ·obtain ⟨o,g⟩:=Zb4 (I.hok b u q)
   rw[z] at g;cases g
 refine I.call' (s':={ s with heap:=h',toks:=t }) (ch:=[]) rfl ⟨fun b o x n _ _=>k b o (nn b o x n) x,fun b o x n _ _=>⟨o.slots,k b o (nn b o x n) x⟩,fun b o x n _=>by rw[hH b (nn b o x n)];exact n,fun b o x _=> ?_,fun b xs q=> ?_,fun b o u q=> ?_,fun b ps q=>⟨#[],?_⟩⟩ (fun b u q=> ?_) I.bare (fun b z=>absurd z (by simp))
 ·by_cases c:ch b
  ·exact th b c
  ·exact ⟨o,k b o c x⟩
 ·rw[hH b (nt b _ q (by simp) (by simp))];exact q
 ·rw[hH b (nt b _ q (by simp) (by simp))];exact q
 ·rw[hH b (nt b _ q (by simp) (by simp)),Array.append_empty];exact q
 ·by_cases c:ch b
  ·exact ok b u c q
  ·rw[hH b c] at q
   refine (I.hok b u q).stay (fun a v ha r=>k a v ?_ r) (fun a r=> ?_) fun a xs r=> ?_
   ·rcases ha with rfl | ha
    ·exact c
    ·exact nt a _ ha (by simp) (by simp)
   ·rw[hH a (nt a _ r (by simp) (by simp))];exact r
   ·rw[hH a (nt a _ r (by simp) (by simp))];exact r
noncomputable def tFm (ta:TE):TE:=fun σ H Q=>ta σ H fun x H1=>(∃ i,x= .int i/\i.natAbs.log2 < 1900/\Q (.str (Str.ofString (toString i))) H1)\/ ∃ y,x= .str y/\y.length<=100000/\Q (.str y) H1
theorem ZmD {e:Expr}{ta:TE}{pos:Pos}(pa:PE X e ta):PE X (.FormattedValue e (-1) none pos) (tFm ta):=by
 intro pins s σ H Q I h;refine wpAny_FormattedValue_plain (wpAny_mono (pa pins s σ H _ I h) (fun v s1 ⟨x,H1,I1,r1,q1⟩=> ?_) fun _ _ z=>z)
 rcases q1 with ⟨i,rfl,hi,q⟩ | ⟨y,rfl,hy,q⟩
 ·obtain ⟨t,rfl⟩:=r1
  exact wpAny_formatField_int (by omega) ⟨.str (Str.ofString (toString i)),H1,I1.tok _,⟨_,rfl⟩,q⟩
 ·obtain ⟨t,rfl⟩:=r1
  exact wpAny_formatField_str ⟨.str y,H1,I1,⟨_,rfl⟩,q⟩ ⟨.str y,H1,I1.tok _,⟨_,rfl⟩,q⟩ (Nat.le_trans hy (by rw[sizeLine_eq];decide))
noncomputable def tF4 (a b:Str)(i j:Nat):TE:=fun σ H Q=> ∃ y n,σ[i]?=some (some (.str y))/\σ[j]?=some (some (.int n))/\a.length<=1000/\b.length<=1000/\y.length<=1000/\n.natAbs.log2 < 1900/\(Str.ofString (toString n)).length<=10000/\ ∀ x,Q (.str x) H
theorem Zo3 {a b n1 n2:Str}{i j k1 k2:Nat}{p1 p2 p3 p4 p5 p6 pos:Pos}(h1:X.N[i]?=some n1)(h2:X.N[j]?=some n2)(v1:Vis X.env.scope n1)(v2:Vis X.env.scope n2)
  (d1:(n1 == ("__debug__":Str))=false:=by decide) (d2:(n2 == ("__debug__":Str))=false:=by decide) (c1:(n1 == ("__classdict__":Str))=false:=by decide) (c2:(n2 == ("__classdict__":Str))=false:=by decide):
  PE X (.JoinedStr [.Constant (.str a) k1 p1,.FormattedValue (.Name n1 p2) (-1) none p3,.Constant (.str b) k2 p4,.FormattedValue (.Name n2 p5) (-1) none p6] pos) (tF4 a b i j):=by
 intro pins s σ H Q I ⟨y,n,e1,e2,la,lb,ly,ln,lt,q⟩;have sz: ∀ {x:Str},x.length<=100000->x.length<=sizeLine:=fun h=>Nat.le_trans h (by rw[sizeLine_eq];decide)
 have l0:(Str.empty:Str).length=0:=by decide
 refine wpAny_JoinedStr ?_
 show wpAny _ _ (eval (.Constant (.str a) k1 p1) X.env) _ _ s
 refine wpAny_mono (ZfM (X:=X) pins s σ H (fun x H1=>x= .str a/\H1=H) I ⟨rfl,rfl⟩) (fun v s1 ⟨x,H1,I1,r1,q1⟩=> ?_) fun _ _ z=>z
 obtain ⟨rfl,rfl⟩:=q1
 obtain ⟨t,rfl⟩:=r1
 refine ⟨a,t,rfl,sz (by rw[strLen_append];omega),?_⟩
 show wpAny _ _ (eval (.FormattedValue (.Name n1 p2) (-1) none p3) X.env) _ _ s1
 refine wpAny_mono (ZmD (ZbO h1 v1 d1 c1) pins s1 σ H1 (fun x H2=>x= .str y/\H2=H1) I1 ⟨_,e1,.inr ⟨y,rfl,by omega,rfl,rfl⟩⟩) (fun v s2 ⟨x,H2,I2,r2,q2⟩=> ?_) fun _ _ z=>z
 obtain ⟨rfl,rfl⟩:=q2
 obtain ⟨t2,rfl⟩:=r2
 refine ⟨y,t2,rfl,sz (by rw[strLen_append,strLen_append];omega),?_⟩
 show wpAny _ _ (eval (.Constant (.str b) k2 p4) X.env) _ _ s2
 refine wpAny_mono (ZfM (X:=X) pins s2 σ H2 (fun x H1=>x= .str b/\H1=H2) I2 ⟨rfl,rfl⟩) (fun v s3 ⟨x,H3,I3,r3,q3⟩=> ?_) fun _ _ z=>z
 obtain ⟨rfl,rfl⟩:=q3
 obtain ⟨t3,rfl⟩:=r3
 refine ⟨b,t3,rfl,sz (by rw[strLen_append,strLen_append,strLen_append];omega),?_⟩
 show wpAny _ _ (eval (.FormattedValue (.Name n2 p5) (-1) none p6) X.env) _ _ s3
 refine wpAny_mono (ZmD (ZbO h2 v2 d2 c2) pins s3 σ H3 (fun x H2=>x= .str (Str.ofString (toString n))/\H2=H3) I3 ⟨_,e2,.inl ⟨n,rfl,ln,rfl,rfl⟩⟩) (fun v s4 ⟨x,H4,I4,r4,q4⟩=> ?_) fun _ _ z=>z
 obtain ⟨rfl,rfl⟩:=q4
 obtain ⟨t4,rfl⟩:=r4
 refine ⟨_,t4,rfl,sz (by rw[strLen_append,strLen_append,strLen_append,strLen_append];omega),?_⟩
 exact ⟨sz (by rw[strLen_append,strLen_append,strLen_append,strLen_append];omega),.str _,H4,I4.tok _,⟨_,rfl⟩,q _⟩
noncomputable def Ze0 (K:PySem.W.Frag)(r:Str):Bool:=match Zcz K r with
 |some R=>specialIn K (.ref R) "__getattribute__" == some (some (.builtin "type.__getattribute__")) && readsIn K R (.type "type") && (match findCls K (.ref R) (.type "type") "__init__" with | some (.val v)=>v == .builtin "ValueError.__init__" | _=>false)
 |none=>false
theorem Zim {r sn:Str}{fe:Expr}{tf:TE}{fI:Addr}{p1 p2 p3 p4:Pos}{pl:Sem Bool}(hb:Ze0 X.K r=true)(gl: ∀ c v,nsIn X.K mainGlobals c=some (some v)->X.mg c=some v)(hg:Gl X r)(hc:ExF X.K C fI)(hn:X.N[0]?=some sn)(hv:Vis X.env.scope sn)(pf:PE X fe tf)
  (d1:(sn == ("__debug__":Str))=false:=by decide) (c1:(sn == ("__classdict__":Str))=false:=by decide) (hdb:(r == ("__debug__":Str))=false:=by decide)
  (hs:starEach [.Name sn p3,fe] X.env=(false,eval (.Name sn p3) X.env) :: starEach [fe] X.env:=by rfl) (hs2:starEach [fe] X.env=(false,eval fe X.env) :: starEach [] X.env:=by rfl) (hpl:(backTo p4 (starEach [fe] X.env)).any (·.1)=false:=by rfl)
  (ht:eval (.Call (.Attribute (.Name r p1) "__init__" p2) [.Name sn p3,fe] [] p4) X.env=(do
   let ov <- eval (.Name r p1) X.env
   standAt p2.atName
   let (f,first) <- holding [ov] (getMethod ov "__init__" pl)
   callWith p4 f first (backTo p4 (starEach [.Name sn p3,fe] X.env)) (backToKw p4 (keywordEach [] X.env))):=by rfl):
  PE X (.Call (.Attribute (.Name r p1) "__init__" p2) [.Name sn p3,fe] [] p4) (fun σ H Q=> ∃ e,σ[0]?=some (some (.ref e))/\H e=some (.ext (Mkg C e none))/\tf σ H fun x H1=> ∃ y,[V.ref e,x]=[V.ref e,y]/\H1=H/\Q .non H):=by
 unfold Ze0 at hb
 split at hb
 case h_2=>cases hb
 rename_i R hR;simp only[Bool.and_eq_true,beq_iff_eq] at hb;obtain ⟨⟨b1,b2⟩,b3⟩:=hb
 split at b3
 case h_2=>cases b3
 rename_i v0 b4;have b5:=eq_of_beq b3
 subst b5;intro pins s σ H Q I ⟨e,e0,he,q⟩;refine PySem.W.methodCall_KW (pl:=pl) (ZcL I hg (gl r _ (Zbs hR)) ?_ hdb) ht
 refine PySem.W.method_cls I.kIn b1 (PySem.W.cls_value I.kIn b2 b4 rfl ?_)
 have I1:=I.tok (s.toks + 1)
 have hA:=Zb9 (ZbO hn hv d1 c1) (Zb9 pf ZfY hs2) hs p4 pins { s with toks:=s.toks + 1 } σ H (fun vs H1=> ∃ x,vs=[V.ref e,x]/\H1=H/\Q .non H) I1 ⟨_,e0,q⟩
 rw[hs] at hA ⊢;refine Calls.callWith_builtin (by show (false || (backTo p4 (starEach [fe] X.env)).any (·.1))=false;rw[hpl]<;>rfl) (Calls.evalArgs_plain (thn hA fun us s2 ⟨vs,H2,I2,r2,x,ev,eh,q2⟩=> ?_))
 subst ev eh;obtain ⟨u1,u2,rfl,r3,r4⟩:=ZhW r2
 cases (show u1=Value.ref e from r3)
 obtain ⟨tl,N,nm,qn,bs,hdct,sn',sub,ab,col,dd,k0,k1,k2,k3,k5,mN,gC,hN,hni,TL⟩:=ZeX I2.kIn hc.inn
 obtain ⟨⟨oe,vs,t0,g1,g2,g3,g4,g5,g6,g7⟩,_,_⟩:=I2.hok e _ he
 obtain ⟨hp,gg,dd',tk,os⟩:=s2
 refine DQ.ZgQ TL gC g1 g2 g4 g5 fun h' k1 k2=>⟨.non,H2,?_,rfl,q2⟩
 have hz:0 < vs.size:=(Array.getElem?_eq_some_iff.mp g5).1
 refine ZcZ (s:=⟨hp,gg,dd',tk,os⟩) (t:=tk) I2 (fun b=>b=e) (fun b z=> .inl ⟨_,z ▸ he⟩) (fun b o z x=>k1 b o z x) (fun b z=>⟨_,z ▸ k2⟩) (fun b z=>rfl) fun b u z q'=> ?_
 subst z;rw[he] at q';cases q'
 refine ZgT ⟨_,_,hp.objs.size,k2,g2,g3,rfl,?_,?_,?_⟩
 ·rw[Array.getElem?_setIfInBounds_self_of_lt hz]
 ·rw[Array.getElem?_setIfInBounds_ne (by decide)];exact g6
 ·rw[Array.getElem?_setIfInBounds_ne (by decide)];exact g7
theorem Zo4 {f g:Str}{v:V}:[(f,v)].lookup g=if g=f then some v else none:=by
 rw[List.lookup_cons]
 by_cases c:g=f
 ·subst c;simp
 ·rw[if_neg c,show (g == f)=false by simpa using c];rfl
theorem Zkl {sn vn:Str}{fI:Addr}{i:Nat}{p1 p2 p3 pos:Pos}(hc:ExF X.K C fI)(hf:findIn X.K (.ref C) f=some none)(hn:X.N[0]?=some sn)(hv:Vis X.env.scope sn)(hn2:X.N[i]?=some vn)(hv2:Vis X.env.scope vn)
  (d1:(sn == ("__debug__":Str))=false:=by decide) (c1:(sn == ("__classdict__":Str))=false:=by decide) (d2:(vn == ("__debug__":Str))=false:=by decide) (c2:(vn == ("__classdict__":Str))=false:=by decide)
  (hs:swapsWith (.Name vn p3) (some (.Attribute (.Name sn p1) f p2)) pos.line X.env=pure false:=by rfl):
  PS X (.Assign [.Attribute (.Name sn p1) f p2] (.Name vn p3) pos) (fun Dn σ H=> ∃ e v,σ[0]?=some (some (.ref e))/\σ[i]?=some (some v)/\H e=some (.ext (Mkg C e none))/\ ∀ dx,H dx=none->dx≠e->Dn.nx σ (upd (upd H e (.ext (Mkg C e (some dx)))) dx (.xd [(f,v)]))):=by
 intro pins s σ H Dn I ⟨e,v,e0,e1,he,q⟩;refine plainObj_wpAny_Assign_Attribute (thn (ZbO hn2 hv2 d2 c2 pins s σ H (fun y H1=>y=v/\H1=H) I ⟨v,e1,rfl,rfl⟩) fun u s1 ⟨y,H1,I1,ry,ey,eh⟩=>thn (ZbO hn hv d1 c1 pins s1 σ H1 (fun y H2=>y= .ref e/\H2=H) I1 ⟨.ref e,e0,rfl,eh⟩) fun ov s2 ⟨x,H2,I2,rx,ex,eh2⟩=> ?_) hs
 subst ey ex eh2;obtain rfl:ov=Value.ref e:=rx
 obtain ⟨⟨oe,vs,t0,g1,g2,g3,g4,g5,g6,g7⟩,_,_⟩:=I2.hok e _ he
 have nd:s2.heap.objs.size≠e:=Nat.ne_of_gt (Heap.lt_size g1)
 refine DQ.Zkj I2.kIn g1 g2 g4 g3 hc.sa hc.ov (ZeZ hf) hc.hd fun h' k1 k2 k3=>⟨σ,_,?_,q s2.heap.objs.size (I2.hok.fresh (Nat.le_refl _)) nd⟩
 refine ZcZ I2 (fun b=>b=e\/b=s2.heap.objs.size) (fun b z=> ?_) (fun b o z x=>k3 b o (fun w=>z (.inl w)) x) (fun b z=> ?_) (fun b z=> ?_) fun b u z q'=> ?_
 ·rcases z with z | z
  ·exact .inl ⟨_,z ▸ he⟩
  ·exact .inr (.inr (z ▸ Heap.get?_none_of_le (Nat.le_refl _)))
 ·rcases z with z | z
  ·exact ⟨_,z ▸ k1⟩
  ·obtain ⟨od,_,_,g,_⟩:=k2
   exact ⟨od,z ▸ g⟩
 ·rw[Zl (fun w=>z (.inr w)),Zl (fun w=>z (.inl w))]
 ·rcases z with z | z
  ·subst z
   rw[Zl (Ne.symm nd),Zm] at q';cases q'
   exact ZgT ⟨_,vs,t0,k1,g2,rfl,g4,g5,g6,g7⟩
  ·subst z
   rw[Zm] at q';cases q'
   refine ⟨_,k2,fun g=> ?_⟩
   rw[Zo4]
   by_cases c:g=f
   ·rw[if_pos c,if_pos c];exact ry
   ·rw[if_neg c,if_neg c];trivial
theorem ZdO {g:Str}: ∀ {fs:List (Str × V)},g ∉ fs.map (·.1)->fs.lookup g=none
 | [],_=>rfl
 | (a,v) :: r,h=>by
  rw[List.map_cons,List.mem_cons,not_or] at h;rw[List.lookup_cons,show (g == a)=false by simpa using h.1]
  exact ZdO h.2
theorem Zkm {sn vn:Str}{fI:Addr}{i:Nat}{p1 p2 p3 pos:Pos}(hc:ExF X.K C fI)(hf:findIn X.K (.ref C) f=some none)(hn:X.N[0]?=some sn)(hv:Vis X.env.scope sn)(hn2:X.N[i]?=some vn)(hv2:Vis X.env.scope vn)
  (d1:(sn == ("__debug__":Str))=false:=by decide) (c1:(sn == ("__classdict__":Str))=false:=by decide) (d2:(vn == ("__debug__":Str))=false:=by decide) (c2:(vn == ("__classdict__":Str))=false:=by decide)
  (hs:swapsWith (.Name vn p3) (some (.Attribute (.Name sn p1) f p2)) pos.line X.env=pure false:=by rfl):
  PS X (.Assign [.Attribute (.Name sn p1) f p2] (.Name vn p3) pos) (fun Dn σ H=> ∃ e v dx fs,σ[0]?=some (some (.ref e))/\σ[i]?=some (some v)/\H e=some (.ext (Mkg C e (some dx)))/\H dx=some (.xd fs)/\fs.length<=100/\Dn.nx σ (upd H dx (.xd (ZiV f v fs)))):=by
 intro pins s σ H Dn I ⟨e,v,dx,fs,e0,e1,he,hdx,hl,q⟩;refine plainObj_wpAny_Assign_Attribute (thn (ZbO hn2 hv2 d2 c2 pins s σ H (fun y H1=>y=v/\H1=H) I ⟨v,e1,rfl,rfl⟩) fun u s1 ⟨y,H1,I1,ry,ey,eh⟩=>thn (ZbO hn hv d1 c1 pins s1 σ H1 (fun y H2=>y= .ref e/\H2=H) I1 ⟨.ref e,e0,rfl,eh⟩) fun ov s2 ⟨x,H2,I2,rx,ex,eh2⟩=> ?_) hs
 subst ey ex eh2;obtain rfl:ov=Value.ref e:=rx
 obtain ⟨⟨oe,vs,t0,g1,g2,g3,g4,g5,g6,g7⟩,_,_⟩:=I2.hok e _ he
 obtain ⟨mA,hns,hr⟩:=I2.hok dx _ hdx
 obtain ⟨od,es,ep,god,_⟩:=id hns
 have ne:e≠dx:=fun z=>by rw[z,hdx] at he;cases he
 have inst:PySem.W.InstAt s2.heap e oe C (some od):=⟨g1,g2,by unfold PySem.W.notCls;rw[g4],by rw[g3];exact god⟩
 refine DQ.Zkk (ns:=fs.map (·.1)) I2.kIn inst g3 hns hc.sa hc.ov (ZeZ hf) hc.hd (fun g hg=> ?_) (by rw[List.length_map];omega) fun h' k1 k2=>⟨σ,_,?_,q⟩
 ·apply Classical.byContradiction
  intro z
  have:=hr g
  rw[ZdO z] at this;exact hg (Zlo.none_of this)
 ·refine ZcZ I2 (fun b=>b=dx) (fun b z=> .inr (.inl ⟨_,z ▸ hdx⟩)) (fun b o z x=>(k2.2 b z).trans x) (fun b z=> ?_) (fun b z=>Zl z) fun b u z q'=> ?_
  ·obtain ⟨o',_,_,g,_⟩:=k1
   exact ⟨o',z ▸ g⟩
  ·subst z
   rw[Zm] at q';cases q'
   refine ⟨_,k1,fun g=> ?_⟩
   rw[Zb8]
   by_cases c:g=f
   ·rw[if_pos c,if_pos c];exact ry
   ·rw[if_neg c,if_neg c];exact hr g
end
noncomputable def N3:List Str:=["self","where","at"]
noncomputable def spI (C:Addr):Sp:=fun vs H Q _=> ∃ e y n,vs=[.ref e,.str y,.int n]/\H e=some (.ext (Mkg C e none))/\y.length<=1000/\n.natAbs.log2 < 1000/\
 ∀ dx,H dx=none->dx≠e->Q .non (upd (upd (upd H e (.ext (Mkg C e (some dx)))) dx (.xd [(PySem.Str.ofString "where",.str y)])) dx (.xd [(PySem.Str.ofString "where",.str y),(PySem.Str.ofString "at",.int n)]))
noncomputable def Zsn (C:Addr)(a b:Str):TS:=ZoH (Zlu (fun σ H Q=> ∃ e,σ[0]?=some (some (.ref e))/\H e=some (.ext (Mkg C e none))/\tF4 a b 1 2 σ H fun x H1=> ∃ y,[V.ref e,x]=[V.ref e,y]/\H1=H/\Q .non H))
 (ZoH (fun Dn σ H=> ∃ e v,σ[0]?=some (some (.ref e))/\σ[1]?=some (some v)/\H e=some (.ext (Mkg C e none))/\ ∀ dx,H dx=none->dx≠e->Dn.nx σ (upd (upd H e (.ext (Mkg C e (some dx)))) dx (.xd [(PySem.Str.ofString "where",v)])))
 (fun Dn σ H=> ∃ e v dx fs,σ[0]?=some (some (.ref e))/\σ[2]?=some (some v)/\H e=some (.ext (Mkg C e (some dx)))/\H dx=some (.xd fs)/\fs.length<=100/\Dn.nx σ (upd H dx (.xd (ZiV (PySem.Str.ofString "at") v fs)))))
section
variable {P:Program}{w:World}{K:PySem.W.Frag}{mg:Str->Option Value}{base:Heap}
theorem Zkn {n:Int}(h:n.natAbs.log2 < 1000):(Str.ofString (toString n)).length<=10000:=by
 rw[PySem.ofString_length];exact Nat.le_trans (int_text_length_le (by decide) h) (by decide)
theorem Zko {x qual:Str}{st:Stmt}{f:Addr}{fd:FuncData}{C:Addr}{k:Nat}{a b:Str}(F:Fun K x qual st f fd)(S:FnScope N3 N3 (Zr st))(la:a.length<=1000)(lb:b.length<=1000)
  (hb: ∀ (cdv:Value) (A:Around) (outer:List Env) (s:Shared) (H:Hp) (E:XK),PSs (Zf0 (CXE P w) P w K mg base N3 qual (Zr st) f cdv A outer s H E) (Z0 st) (Zsn C a b)):
  FnOk P w K mg base (CXE P w) (k + 1) f fd N3 (spI C):=by
 obtain ⟨oc,od,kV,doc,pm,an,cdv,ct,osl,rfl,lk,hcd⟩:=F.ex
 refine ZlM lk hcd S (fun vs H Q E h=> ?_) (fun A outer s H vs Q E hr h=> ?_)
 ·obtain ⟨e,y,n,rfl,_⟩:=h
  rfl
 ·obtain ⟨e,y,n,rfl,he,hy,hn,q⟩:=h
  refine ⟨_,hb cdv A outer s H E,?_⟩
  refine ⟨e,rfl,he,y,n,rfl,rfl,la,lb,hy,by omega,Zkn hn,fun x=>⟨_,rfl,rfl,?_⟩⟩
  refine ⟨e,.str y,rfl,rfl,he,fun dx h1 h2=> ?_⟩
  refine ⟨e,.int n,dx,[(PySem.Str.ofString "where",.str y)],rfl,rfl,by rw[Zl (Ne.symm h2),Zm],Zm,by simp,?_⟩
  have:=q dx h1 h2
  rw[show ZiV (PySem.Str.ofString "at") (V.int n) [(PySem.Str.ofString "where",V.str y)]=[(PySem.Str.ofString "where",V.str y),(PySem.Str.ofString "at",V.int n)] by
   unfold ZiV;rw[if_neg (by decide +kernel)]
   rfl]
  exact this
end
noncomputable def Zaz (c:Str)(fs:Av):Sv:=fun ρ M=>ZP (fs ρ M) fun ds M1=>match ds with
 | [.str y,.int n]=>if y.length<=1000/\n.natAbs.log2 < 1000 then .exc c (M1 ++ [.lst [.str y,.int n]]) else .bad
 |_=> .bad
section
variable {X:Cx}{ξ:XK}{pos:Pos}
theorem ZgU {x:Str}{np cpos:Pos}{a b:Expr}{fs:Av}{f:Addr}{fd:FuncData}{oI:Obj}{k:Nat}(T:Thr X ξ)(hx:ZgS X.K x f=true)(hf:Zgg x=true)(gl: ∀ c v,nsIn X.K mainGlobals c=some (some v)->X.mg c=some v)(hh:X.A.handled=none)
  (G: ∀ C,ExF X.K C f->FnOk X.prog X.w X.K X.mg X.base (CXE X.prog X.w) k f fd N3 (spI C)) (hr:Room (k + 1) X.A) (hb:ZcN X.K fd N3 []) (lk:X.K.lookup f=some oI) (lc:oI.cls= .type "function") (ha:DA X ξ [a,b] fs) (hg:Gl X x:=by rfl) (hdb:(x == ("__debug__":Str))=false:=by decide)
  (he:starEach [a,b] X.env=(false,eval a X.env) :: starEach [b] X.env:=by rfl) (hpl:(backTo cpos (starEach [b] X.env)).any (·.1)=false:=by rfl):DS X ξ (.Raise (some (.Call (.Name x np) [a,b] [] cpos)) none pos) (Zaz x fs):=by
 obtain ⟨ta,pa,qa⟩:=ha
 obtain ⟨C,hC,hE⟩:=ZeY hx
 refine ⟨fun Dn σ H=>ta σ H fun vs H1=> ∃ y n,vs=[.str y,.int n]/\y.length<=1000/\n.natAbs.log2 < 1000/\ ∀ dx,H1 dx=none->ξ (.ref C) (some dx) (upd H1 dx (.xd [(PySem.Str.ofString "where",.str y),(PySem.Str.ofString "at",.int n)])),fun pins s σ H Dn I h=> ?_,fun σ ρ H α M Dn s h q=> ?_⟩
 ·obtain ⟨tl,N,nm,q,bs,hdct,sn,sub,ab,col,dd,k0,k1,k2,k3,k5,mN,gC,hN,hni,TL⟩:=ZeX I.ok.mod.kin hE.inn
  refine DQ.Zfn (C:=C) (nm:=nm) (q:=q) (N:=N) (bs:=bs) (bm:=tl) (hdct:=hdct) (sn:=sn) (sub:=sub) (ab:=ab) (col:=col) (dd:=dd) (k0:=k0) (k1:=k1) (k2:=k2) (k3:=k3) (k5:=k5) (mN:=mN) (oI:=oI) F.excBase_ValueError
   (TL.hasType F.excBase_ValueError.hasBase) hh (by rw[he];show (false || (backTo cpos (starEach [b] X.env)).any (·.1))=false;rw[hpl];rfl) hni lc (ZcL I hg (gl x _ hC) ⟨rfl,?_⟩ hdb)
  have hs:=pa cpos pins s σ H _ I h
  rw[he] at hs ⊢;refine Calls.evalArgs_plain (wpAny_mono hs (fun us s2 ⟨vs,H1,I1,r1,y,n,ev,hy,hn,q⟩=>⟨rfl,?_,I1.bk _ _ gC,hN.keeps I1.bk,TL.keeps I1.bk,I1.kIn _ _ lk,fun h' e m=> ?_⟩) fun _ _ y=>y)
  ·rw[<- r1.length,ev];exact Nat.le_trans (show 2<=1000 by decide) (by rw[sizeLine_eq];decide)
  ·subst ev
   obtain ⟨t0,g1,g2,g3⟩:=m.there
   have ne: ∀ b o,s2.heap.get? b=some o->b≠e:=fun b o x z=>by rw[z,m.new] at x;cases x
   have h1e:H1 e=none:=Zi9 I1.hok m.new
   have I2:Inv X pins σ (upd H1 e (.ext (Mkg C e none))) { s2 with heap:=h' }:=by
    refine ZcZ (t:=s2.toks) I1 (fun b=>b=e) (fun b z=> .inr (.inr (z ▸ m.new))) (fun b o z x=>m.keeps b o x) (fun b z=>⟨_,z ▸ g1⟩) (fun b z=>Zl z) fun b u z q'=> ?_
    subst z;rw[Zm] at q';cases q'
    exact ZgT ⟨_,_,t0,g1,rfl,rfl,rfl,rfl,rfl,rfl⟩
   have r2:ZK (V.ref e :: [.str y,.int n]) (Value.ref e :: us):= .cons rfl r1
   have hl:(Value.ref e :: us ++ []).length=N3.length:=by rw[List.append_nil,<- r2.length];rfl
   have hsp:spI C [V.ref e,.str y,.int n] (upd H1 e (.ext (Mkg C e none))) (fun v H'=>v= .non/\ ∃ dx,H1 dx=none/\dx≠e/\H'=upd (upd (upd (upd H1 e (.ext (Mkg C e none))) e (.ext (Mkg C e (some dx)))) dx (.xd [(PySem.Str.ofString "where",.str y)])) dx (.xd [(PySem.Str.ofString "where",.str y),(PySem.Str.ofString "at",.int n)])) ξ:=
    ⟨e,y,n,rfl,Zm,hy,hn,fun dx h1 h2=>⟨rfl,dx,by rw[Zl h2] at h1;exact h1,h2,rfl⟩⟩
   have bd:=hb { s2 with heap:=h' } (Value.ref e :: us) I2.kIn hl
   rw[List.append_nil] at bd;refine wpAny_call (codeAny_mono ((G C hE).run _ X.stack { s2 with heap:=h' } _ ⟨Value.ref e :: us,[]⟩ (Value.ref e :: us) _ _ ξ (hr.make C us []) (I2.env0.make C us []) bd r2 hsp) fun r s' hq=> ?_)
   cases r with
   |error e'=>exact T.ps pins σ _ _ e' s' I2 hq
   |ok fl=>
    cases fl with
    |next=>exact False.elim hq
    |brk=>exact False.elim hq
    |cont=>exact False.elim hq
    |ret u=>
     obtain ⟨v,H',I3,rv,ev,_⟩:=I2.after hq
     obtain ⟨v',H',os,bare,un,hok,rv',ev',dx,hdx,dne,eH⟩:=hq
     subst ev';refine ⟨rv',?_⟩
     have hHe:H' e=some (.ext (Mkg C e (some dx))):=by rw[eH,Zl (Ne.symm dne),Zl (Ne.symm dne),Zm]
     have hHd:H' dx=some (.xd [(PySem.Str.ofString "where",.str y),(PySem.Str.ofString "at",.int n)]):=by rw[eH,Zm]
     have hHo: ∀ b,b≠e->b≠dx->H' b=H1 b:=fun b z1 z2=>by rw[eH,Zl z2,Zl z2,Zl z1,Zl z1]
     have dxn:s2.heap.get? dx=none:=by
      cases z:s2.heap.get? dx with
      |none=>rfl
      |some o=>
       have:=un.free dx o (m.keeps _ _ z) (by rw[Zl dne];exact hdx) (by simp)
       rw[hHd] at this;cases this
     have h2n: ∀ b o,s2.heap.get? b=some o->H1 b=none->upd H1 e (.ext (Mkg C e none)) b=none:=fun b o x z=>by rw[Zl (ne b o x)];exact z
     have nd: ∀ b o,s2.heap.get? b=some o->b≠dx:=fun b o x z=>by rw[z,dxn] at x;cases x
     obtain ⟨⟨oe,vs,t1,j1,j2,j3,j4,j5,j6,j7⟩,_,_⟩:=hok e _ hHe
     refine ⟨oe,vs,I3.bk _ _ gC,j1,j2,j4,j6,?_⟩
     refine T.mak pins σ H1 (upd H1 dx (.xd [(PySem.Str.ofString "where",.str y),(PySem.Str.ofString "at",.int n)])) s2 s' e oe vs C I1 os bare ⟨fun b o x z hb _=>un.keep b o (m.keeps b o x) (h2n b o x z) hb (by simp),fun b o x z hb _=>un.slot b o (m.keeps b o x) (h2n b o x z) hb (by simp),fun b o x z _=>by rw[Zl (nd b o x)];exact z,fun b o x _=>un.there b o (m.keeps b o x) (by simp),fun b xs z=> ?_,fun b o u z=> ?_,fun b ps z=>⟨#[],?_⟩⟩ (fun b u z=> ?_) m.new j1 j2 j4 j6 j7 (by rw[Zl (Ne.symm dne)];exact h1e) (by rw[j3];exact q dx hdx)
     ·rw[Zl (ZD z hdx)];exact z
     ·rw[Zl (ZD z hdx)];exact z
     ·rw[Zl (ZD z hdx),Array.append_empty];exact z
     ·by_cases c:b=dx
      ·subst c
       rw[Zm] at z;cases z
       have:=hok b _ hHd
       exact this
      ·rw[Zl c] at z
       have be:b≠e:=fun w=>by rw[w,h1e] at z;cases z
       have zb:H' b=some u:=by rw[hHo b be c];exact z
       have tr: ∀ a v,H' a=some v->(∀ φ,v≠ .ext φ)->(∀ fs,v≠ .xd fs)->upd H1 dx (.xd [(PySem.Str.ofString "where",.str y),(PySem.Str.ofString "at",.int n)]) a=some v:=fun a v r n1 n2=>by
        have a1:a≠e:=fun w=>by rw[w,hHe] at r;cases r;exact n1 _ rfl
        have a2:a≠dx:=fun w=>by rw[w,hHd] at r;cases r;exact n2 _ rfl
        rw[Zl a2,<- hHo a a1 a2];exact r
       exact (hok b u zb).stay (fun _ _ _ r=>r) (fun a r=>tr a _ r (by simp) (by simp)) fun a xs r=>tr a _ r (by simp) (by simp)
 ·refine qa σ ρ H α M _ s h (FP.seq q fun ds M1 vs H1 α1 e1 h1 r1 w1=> ?_)
  split at w1
  ·rename_i y n
   cases r1 with
   |cons ra rt=>
    cases rt with
    |cons rb rc=>
     cases rc
     cases ra
     cases rb
     by_cases hl:y.length<=1000/\n.natAbs.log2 < 1000
     ·rw[if_pos hl] at w1
      exact ⟨y,n,rfl,hl.1,hl.2,fun dx hdx=>w1 C _ α1 hC (Ext.new0 hdx) (some dx) (.inr ⟨hf,M1,_,dx,_,rfl,h1.tup hdx,rfl,Zm,rfl,.cons (.str y) (.cons (.int n) .nil)⟩)⟩
     ·rw[if_neg hl] at w1
      exact w1.elim
  ·exact w1.elim
end
noncomputable def Zin (s:Stmt)(i:Nat):Stmt:=match s with
 | .ClassDef _ _ _ b _ _ _ _ _ _ _=>b.getD i s
 |_=>s
structure IniOk (K:PySem.W.Frag) (x qual:Str) (st:Stmt) (f:Addr) (fd:FuncData):Prop where
 ex:ZgS K x f=true
 fn:Fun K "__init__" qual st f fd
 bs:Ze0 K "RayError"=true
 bi:ZcN K fd N3 []
section
variable {X:Cx}{ξ:XK}{pos:Pos}
theorem Zbv {x qual:Str}{st:Stmt}{np cpos:Pos}{a b:Expr}{fs:Av}{k:Nat}(J: ∃ f fd,IniOk X.K x qual st f fd)(G: ∀ f fd C,IniOk X.K x qual st f fd->ExF X.K C f->FnOk X.prog X.w X.K X.mg X.base (CXE X.prog X.w) k f fd N3 (spI C))(T:Thr X ξ)(hf:Zgg x=true)(gl: ∀ c v,nsIn X.K mainGlobals c=some (some v)->X.mg c=some v)(hh:X.A.handled=none)
  (hr:Room (k + 1) X.A) (ha:DA X ξ [a,b] fs) (hg:Gl X x:=by rfl) (hdb:(x == ("__debug__":Str))=false:=by decide)
  (he:starEach [a,b] X.env=(false,eval a X.env) :: starEach [b] X.env:=by rfl) (hpl:(backTo cpos (starEach [b] X.env)).any (·.1)=false:=by rfl):DS X ξ (.Raise (some (.Call (.Name x np) [a,b] [] cpos)) none pos) (Zaz x fs):=by
 obtain ⟨f,fd,J⟩:=J
 obtain ⟨oc,od,kV,doc,pm,an,cdv,ct,osl,_,lk,hcd⟩:=J.fn.ex
 obtain ⟨C,hC,hE⟩:=ZeY J.ex
 have ty:=hE.ty
 have lc:oc= .type "function":=by
  have:(X.K.lookup f).map (·.cls)=some (.type "function"):=ty
  rw[lk] at this;exact Option.some.inj this
 exact ZgU T J.ex hf gl hh (fun C hE=>G f fd C J hE) hr J.bi lk lc ha hg hdb he hpl
end
end DL
end
section
namespace DL
open PySem PySem.Spec PyProof.Rows L2
open PySem.W (nsIn excIn tailIn nsOkIn mroIn clsIn typeIn findIn specialIn takesIn kitOne Looks looks_mroIn looks_typeIn exmAny exm_tup2)
theorem ZgV {B:Heap}{l:List Env}{e:Addr}{cls:Value}{dct:Option Addr}{fl:Value}{h h':Heap}(f:DQ.Fly B l e cls dct fl h)(k: ∀ b o,h.get? b=some o->h'.get? b=some o):DQ.Fly B l e cls dct fl h':=by
 obtain ⟨st,nw,fr,oe,vs,T,oT,ts,g1,g2,g3,g4,g5,g6,g7,g8,g9,g10,g11⟩:=f
 exact ⟨fun b o q=>k b o (st b o q),nw,fr.of_keeps fun b o q _=>⟨o,k b o q,rfl⟩,oe,vs,T,oT,ts,k _ _ g1,g2,g3,g4,g5,g6,g7,g8,k _ _ g9,g10,g11⟩
noncomputable def ZgW (X:Cx)(t:Expr)(cs:List Str):Prop:= ∀ c∈cs,∀ C,nsIn X.K mainGlobals c=some (some (.ref C))-> ∀ (A':Around) (E:Value->Shared->Prop) (Q:Bool->Shared->Prop) (s:Shared) (pins:List (Addr × Obj)) (σ:L2.St) (H:Hp) (e:Addr) (oe:Obj) (od:Option Obj),
 Inv X pins σ H s->PySem.W.InstAt s.heap e oe C od->(∀ h',(∀ q o,s.heap.get? q=some o->h'.get? q=some o)->Q true { s with heap:=h' })->wpAny (model X.prog X.w) A' (eval t X.env) (fun v s1=>wpAny (model X.prog X.w) A' (excMatches (.ref e) v) Q E s1) E s
section
variable {X:Cx}{cs:List Str}{d d':Str}{np np' tp:Pos}{kk:Nat}
theorem Zio (hcat:Zgw X.K d cs=true)(gl: ∀ c v,nsIn X.K mainGlobals c=some (some v)->X.mg c=some v)(hg:Gl X d:=by rfl)(hdb:(d == ("__debug__":Str))=false:=by decide):ZgW X (.Name d np) cs:=by
 unfold Zgw at hcat
 split at hcat
 case h_2=>cases hcat
 rename_i D hD;simp only[Bool.and_eq_true,beq_iff_eq,List.all_eq_true] at hcat;obtain ⟨⟨⟨hD3,hD1⟩,hD2⟩,hall⟩:=hcat
 intro c hc C hC A' E Q s pins σ H e oe od J I q;have hm:=hall c hc
 rw[Zic hC] at hm;refine Calls.Name_function_global J.ok.kind hg (Calls.loadGlobal_global (by rw[J.ok.glob];exact J.mod.glob.keeps J.bk) (gl d _ (Zbs hD)) ?_) hdb
 exact Zgx (od:=od) J.kIn I hD1 hD2 hD3 (by simpa using hm.2) (q s.heap fun _ _ z=>z)
end
noncomputable def ZdP (gb:Sv)(cs:List Str)(W:List Bool)(gh:Sv):Sv:=fun ρ M=>match gb ρ M with
 | .exc c M1=>if cs.contains c=true then (match gh (kpR W ρ) (stE c M1) with
  | .ret d M2=> .ret d M2
  | .nx ρ2 M2=> .nx ρ2 M2
  |_=> .bad) else .bad
 |o=>o
section
variable {X:Cx}{ξ:XK}{cs:List Str}{t:Expr}{body suite:List Stmt}{b0:Stmt}{gb gh:Sv}{pos hpos:Pos}
theorem Zip {pins:List (Addr × Obj)}{σ1:L2.St}{H1 H2:Hp}{s1 s2:Shared}{h3 B:Heap}{ea C:Addr}{c:Str}{Dn:Ends}{α1:List Addr}{M1:Sto}{fl:Value}{ρk:Ro}{dct:Option Addr}
  (ht:ZgW X t cs) (hc:c∈cs) (srk:SR X.K H2 α1 σ1 ρk) (hx:X.ex=[]) (hh:X.A.handled=none) (hC2:nsIn X.K mainGlobals c=some (some (.ref C)))
  (hs: ∀ ea,DSs (Cx.han X ea) E0 (b0 :: suite) gh)
  (I1:Inv X pins σ1 H1 s1) (os:s2.os=s1.os) (bare:AllBare s2.gens) (un:Un (frs X.stack) [] H1 H2 s1.heap s2.heap) (hok:HOk X.prog X.w H2 s2.heap) (t1: ∀ b u,H2 b=some u-> ∃ o,B.get? b=some o) (t2: ∀ b o,s1.heap.get? b=some o->b ∉ frs X.stack-> ∃ o',B.get? b=some o')
  (st2:B.StaysIn s2.heap) (fly:DQ.Fly B X.stack ea (.ref C) dct fl h3) (up3:s2.heap.UpToSlots h3) (xo:XO X.K H2 α1 c M1 dct)
  (fp: ∀ H3,Ext X.K H2 H3 α1 α1->FP X.K H3 α1 E0 { nx:=Dn.nx,rt:=Dn.rt } (gh ρk (stE c M1))):
  wpAny (model X.prog X.w) X.A (setFlight (.ref ea) none) (fun _ s₃=>wpAny (model X.prog X.w) X.A (handleBy (.ref ea) X.env [.ExceptHandler (some t) none (b0 :: suite) hpos]) (SP X pins Dn) X.xe s₃) X.xe { s2 with heap:=h3 }:=by
 refine DQ.Zb3 (s:={ s2 with heap:=h3 }) fly fun h4 f4 up4=> ?_
 have inv: ∀ h,B.StaysIn h->s2.heap.UpToSlots h->Inv X pins σ1 H2 { s2 with heap:=h }:=fun h st up=>by
  obtain ⟨a1,a2⟩:=Zj7 I1 un hok t1 t2 st2 st up
  exact I1.call' (s':={ s2 with heap:=h }) (ch:=[]) os a1 a2 bare fun b z=>absurd z (by simp)
 have J4:=inv h4 f4.stay (up3.trans up4)
 obtain ⟨oe4,vs4,T4,oT4,ts4,g1,g2,g3,g4,g5,g6⟩:=id f4.obj
 refine wpAny_handleBy_cons (codeAny_handlers_test ?_) (by intro q;cases q)
 obtain ⟨od4,in4⟩:=XO.inst (g3 ▸ xo) J4.hok g1 g2 g4
 refine ht c hc C hC2 _ _ _ _ _ _ _ ea oe4 od4 J4 in4 fun h4' kp=> ?_
 have f4':DQ.Fly B X.stack ea (.ref C) dct .none h4':=ZgV f4 kp
 have up4':s2.heap.UpToSlots h4':=(up3.trans up4).trans (Heap.UpToSlots.of_keeps kp)
 refine codeAny_handlers_suite ?_
 refine DQ.Zb3 (s:={ s2 with heap:=h4' }) f4' fun h5 f5 up5=> ?_
 have J5:=inv h5 f5.stay (up4'.trans up5)
 obtain ⟨oe,vs,T5,oT5,ts5,k1,k2,k3,k4,k5,k6⟩:=id f5.obj
 have nB:B.get? ea=none:=f5.new
 have hn:H2 ea=none:=by
  cases z:H2 ea with
  |none=>rfl
  |some u=>obtain ⟨o,q⟩:=t1 ea u z;rw[nB] at q;cases q
 have nf:ea ∉ frs X.stack:=DQ.apart f5.frames k1 k4
 have h0:X.s₀.heap.get? ea=none:=by
  cases z:X.s₀.heap.get? ea with
  |none=>rfl
  |some o=>
   have nx:ea ∉ X.ex:=by rw[hx];simp
   obtain ⟨o',q⟩:=I1.base.there ea o z nx
   obtain ⟨o2,q2⟩:=t2 ea o' q nf
   rw[nB] at q2;cases q2
 have hp: ∀ p∈X.pn ++ pins,p.1≠ea:=fun p hp z=>by
  obtain ⟨q1,_,q3,q4,_⟩:=I1.pin p hp
  obtain ⟨o2,q2⟩:=t2 p.1 p.2 q1 (by rw[z];exact nf)
  rw[z,nB] at q2;cases q2
 have J6:=Zgy J5 hn k1 k4 h0 hp
 have J7:=Zj5 (e:=ea) J6 (.inr ⟨ea,oe,.own 0,vs,rfl,Zm,k4,k5⟩)
 have ex:Ext X.K H2 (upd H2 ea (.frz oe (.own 0))) α1 α1:=Ext.new0 hn
 obtain ⟨ts,ps,qs⟩:=hs ea
 have run:=ps pins _ _ _ { nx:=Dn.nx,rt:=Dn.rt } J7 (qs _ _ _ α1 (stE c M1) _ (srk.mono ex) (xo.hr.tup hn) (fp _ ex))
 refine wpAny_mono run (fun f s9 h9=> ?_) (fun _ _ z=>z.elim)
 cases f with
 |next=>
  obtain ⟨σ',H',J9,q⟩:=h9
  exact ⟨_,H',ZdF J9 hh,q⟩
 |ret u=>
  obtain ⟨v,σ',H',J9,r,q⟩:=h9
  exact ⟨v,_,H',ZdF J9 hh,r,q⟩
 |brk=>obtain ⟨_,_,_,q⟩:=h9;exact False.elim q
 |cont=>obtain ⟨_,_,_,q⟩:=h9;exact False.elim q
theorem Zkp (ht:ZgW X t cs)(hh:X.A.handled=none)(hx:X.ex=[])(hst:X.stack=X.env :: X.outer)(hf:X.env.frame=some X.env.locals)
  (W:List Bool) (hb: ∀ pn xe σ ξ',Thr (Cx.tri X pn xe W σ) ξ'->DSs (Cx.tri X pn xe W σ) ξ' body gb) (hs: ∀ ea,DSs (Cx.han X ea) E0 (b0 :: suite) gh) (fxn:X.fxs=none:=by rfl)
  :
  DS X ξ (.Try body [.ExceptHandler (some t) none (b0 :: suite) hpos] [] [] pos) (ZdP gb cs W gh):=by
 refine ⟨fun Dn σ H=> ∃ ρ α M,SR X.K H α σ ρ/\HR X.K H α M/\FP X.K H α ξ Dn (ZdP gb cs W gh ρ M),?_,fun σ ρ H α M Dn s h q=>⟨ρ,α,M,s,h,q⟩⟩
 rintro pins s σ H Dn I ⟨ρ,α,M,sr,hr,fp⟩
 refine wpAny_Try_except ?_
 have lenρ:ρ.length=X.N.length:=by rw[<- sr.1];exact I.len
 generalize hxe:(fun (e:Value) (s₁:Shared)=>wpAny (model X.prog X.w) X.A (noteFrame e X.env) (fun _ s₂=>wpAny (model X.prog X.w) X.A (setFlight e none) (fun _ s₃=>wpAny (model X.prog X.w) X.A (handleBy e X.env [.ExceptHandler (some t) none (b0 :: suite) hpos]) (SP X pins Dn) X.xe s₃) X.xe s₂) X.xe s₁)=xe'
 have own:PassesOwn (model X.prog X.w) X.A X.env xe':=by
  rw[<- hxe];exact PassesOwn.looking
 have land: ∀ {pins':List (Addr × Obj)} {σ1:L2.St} {H1 H2:Hp} {s1 s2:Shared} {h3 B:Heap} {ea C:Addr} {fl:Value} {dct:Option Addr},Inv (Cx.tri X (X.pn ++ pins) xe' W σ) pins' σ1 H1 s1->s2.os=s1.os->AllBare s2.gens->Un (frs X.stack) [] H1 H2 s1.heap s2.heap->HOk X.prog X.w H2 s2.heap->
   (∀ b u,H2 b=some u-> ∃ o,B.get? b=some o)->(∀ b o,s1.heap.get? b=some o->b ∉ frs X.stack-> ∃ o',B.get? b=some o')->B.StaysIn s2.heap->DQ.Fly B X.stack ea (.ref C) dct fl h3->s2.heap.UpToSlots h3->
   (∃ c M1 α',gb ρ M= .exc c M1/\nsIn X.K mainGlobals c=some (some (.ref C))/\Ext X.K H H2 α α'/\XO X.K H2 α' c M1 dct)->
   wpAny (model X.prog X.w) X.A (setFlight (.ref ea) none) (fun _ s₃=>wpAny (model X.prog X.w) X.A (handleBy (.ref ea) X.env [.ExceptHandler (some t) none (b0 :: suite) hpos]) (SP X pins Dn) X.xe s₃) X.xe { s2 with heap:=h3 }:=by
  intro pins' σ1 H1 H2 s1 s2 h3 B ea C fl dct I1 os bare un hok t1 t2 st2 fly up3 ⟨c,M1,α',eg,hC2,ex,hr1⟩;unfold ZdP at fp;simp only[eg] at fp
  by_cases hc:cs.contains c=true
  ·rw[if_pos hc] at fp
   refine Zip (ρk:=kpR W ρ) ht (List.contains_iff_mem.mp hc) ?_ hx hh hC2 hs (Zau fxn I1) os bare un hok t1 t2 st2 fly up3 hr1 fun H3 ex3=> ?_
   ·refine ⟨by rw[Zeb,lenρ];exact I1.len,fun j dd e=> ?_⟩
    obtain ⟨w1,w2⟩:=Zgz W ρ j dd e
    obtain ⟨v,v1,v2⟩:=sr.2 j dd w2
    exact ⟨v,(I1.fx W σ rfl j w1).trans v1,Rep.mono ex v2⟩
   cases er:gh (kpR W ρ) (stE c M1) with
   |ret dd M2=>rw[er] at fp;exact FP.ext (o:= .ret dd M2) fp (ex.trans ex3)
   |nx ρ2 M2=>rw[er] at fp;exact FP.ext (o:= .nx ρ2 M2) fp (ex.trans ex3)
   |brk ρ2 M2=>rw[er] at fp;exact fp.elim
   |cnt ρ2 M2=>rw[er] at fp;exact fp.elim
   |exc x M2=>rw[er] at fp;exact fp.elim
   |bad=>rw[er] at fp;exact fp.elim
  ·rw[if_neg hc] at fp
   exact fp.elim
 have T:Thr (Cx.tri X (X.pn ++ pins) xe' W σ) (fun cls dct H'=> ∃ C c M1 α',cls= .ref C/\gb ρ M= .exc c M1/\nsIn X.K mainGlobals c=some (some (.ref C))/\Ext X.K H H' α α'/\XO X.K H' α' c M1 dct):=by
  refine ⟨own,fun pins' σ1 H1 s1 e s2 I1 h=> ?_,fun pins' σ1 H1 H' s1 s' e oe vs C I1 os bare un hok hn he hc hd v1 v2 hne q=> ?_⟩
  ·obtain ⟨ea,C,dct,B,H2,rfl,os,bare,un,hok,fl,t1,t2,C',c,M1,α',q1,q3,q4,q5,q6⟩:=h
   cases q1
   show xe' (.ref ea) s2
   rw[<- hxe];have fl':DQ.Fly B (X.env :: X.outer) ea (.ref C) dct .none s2.heap:=hst ▸ fl
   refine DQ.ZeF (by rw[<- hst];exact I1.ok.frames) hf fl' fun h3 f3 up=> ?_
   exact land I1 os bare un hok t1 t2 fl.stay (hst ▸ f3) up ⟨c,M1,α',q3,q4,q5,q6⟩
  ·obtain ⟨C',c,M1,α',q1,q3,q4,q5,q6⟩:=q
   cases q1
   show xe' (.ref e) s'
   rw[<- hxe];have I2:=Zau fxn I1
   obtain ⟨t1,t2,hs',hl',hb'⟩:=Zdx I2 un hok hn he hne
   generalize ZhI s'.heap (e :: frs X.stack)=B at t2 hs' hl' hb' t1;refine Zfk (s:=s') (by rw[<- hst];exact I2.ok.frames) hf (hst ▸ hl') he hs' hb' hd v1 v2 fun h3 f3 up=> ?_
   rw[hc] at f3;exact land (s2:=s') I1 os bare un hok t1 t2 hs' (hst ▸ f3) up ⟨c,M1,α',q3,q4,q5,q6⟩
 obtain ⟨tb,pb,qb⟩:=hb _ _ _ _ T
 have fpb:FP X.K H α (fun cls dct H'=> ∃ C c M1 α',cls= .ref C/\gb ρ M= .exc c M1/\nsIn X.K mainGlobals c=some (some (.ref C))/\Ext X.K H H' α α'/\XO X.K H' α' c M1 dct) Dn (gb ρ M):=by
  unfold ZdP at fp;cases eg:gb ρ M with
  |exc c M1=>exact fun C H' α' n1 e1 dct h1=>⟨C,c,M1,α',rfl,rfl,n1,e1,h1⟩
  |nx ρ2 M2=>rw[eg] at fp;exact fp
  |ret d2 M2=>rw[eg] at fp;exact fp
  |brk ρ2 M2=>rw[eg] at fp;exact fp
  |cnt ρ2 M2=>rw[eg] at fp;exact fp
  |bad=>rw[eg] at fp;exact fp
 have run:=pb [] s σ H Dn (Zj6 I) (qb σ ρ H α M Dn sr hr fpb)
 refine wpAny_mono run (fun f s1 h1=> ?_) (fun e s1 h1=> ?_)
 ·cases f with
  |next=>
   obtain ⟨σ',H',J,q⟩:=h1
   exact wpAny_execs_nil ⟨σ',H',Zau fxn J,q⟩
  |brk=>obtain ⟨σ',H',J,q⟩:=h1;exact ⟨σ',H',Zau fxn J,q⟩
  |cont=>obtain ⟨σ',H',J,q⟩:=h1;exact ⟨σ',H',Zau fxn J,q⟩
  |ret u=>obtain ⟨v,σ',H',J,r,q⟩:=h1;exact ⟨v,σ',H',Zau fxn J,r,q⟩
 ·exact h1
end
end DL
end
section
namespace DL
open PySem PySem.Spec PyProof.Rows L2
noncomputable def ZgX:Sv:=(Zw (sIf (tv (e2 dGt (e2 dIx (Zf 0) (eC (.int 0))) (eC (.int 0)))) (Zw (ZJ (gNm 2) (e2 dMod (e2 dIx (Zf 0) (eC (.int 0))) (Zf 1)))
 (Zw (Zd9 (Zf 0) (eC (.int 0)) (e2 dDiv (e2 dIx (Zf 0) (eC (.int 0))) (Zf 1)))
 (ZM (Zf 2)))) sNil)
 (Zw (Zd9 (Zf 0) (eC (.int 1)) (e2 dMod (e2 dMul (e2 dIx (Zf 0) (eC (.int 1))) (eC (.int 48271))) (eC (.int 2147483647))))
 (ZM (e2 dMod (e2 dDiv (e2 dMod (e2 dMul (e2 dIx (Zf 0) (eC (.int 1))) (eC (.int 16807))) (eC (.int 2147483647))) (eC (.int 32))) (Zf 1)))))
noncomputable def FDigit:List D->Sto->Out D:=fnF ZgX 2 1
noncomputable def Bag (n:Nat)(M:Sto):Prop:= ∃ a b:Int,0<=a/\M[n]?=some (.lst [.int a,.int b])
structure Gr (n:Nat) (M M':Sto):Prop where
 len:M.length<=M'.length
 bag:Bag n M'
 keep: ∀ k,k≠n->k < M.length->M'[k]?=M[k]?
theorem Zei {g:Sv}{n k:Nat}{ds:List D}{M M':Sto}{d:D}(hl:ds.length=n)(h:g (ds.map some ++ List.replicate k none) M= .ret d M'):fnF g n k ds M= .ok d M':=by
 unfold fnF;rw[if_pos hl,h]
theorem ZbG {g h:Sv}{ρ ρ1:Ro}{M M1:Sto}(e:g ρ M= .nx ρ1 M1):Zw g h ρ M=h ρ1 M1:=by
 unfold Zw;rw[e]
theorem Zav {i j:Int}(h1: -(2 ^ 64) < j)(h2:j < 2 ^ 64):ZA i j:= .inr (.inl (intBits_le_64 h1 h2))
theorem Zci {i j:Int}(h1: -(2 ^ 64) < i)(h2:i < 2 ^ 64):ZA i j:= .inl (intBits_le_64 h1 h2)
theorem at0 {x:D}{r:List D}:atI (x :: r) 0=some x:=by
 show (ixN (r.length + 1) 0).bind _=_
 unfold ixN;rw[if_pos (by decide),if_pos (by omega)]
 rfl
theorem at1 {x y:D}{r:List D}:atI (x :: y :: r) 1=some y:=by
 show (ixN (r.length + 2) 1).bind _=_
 unfold ixN;rw[if_pos (by decide),if_pos (by omega)]
 rfl
theorem ix0 {n:Nat}:ixN (n + 1) 0=some 0:=by
 unfold ixN;rw[if_pos (by decide),if_pos (by omega)]
 rfl
theorem ix1 {n:Nat}:ixN (n + 2) 1=some 1:=by
 unfold ixN;rw[if_pos (by decide),if_pos (by omega)]
 rfl
theorem Ziq {n:Nat}{m:Int}{M:Sto}(hb:Bag n M)(hm:0 < m)(hd:Z2 m): ∃ r M',FDigit [.ref n,.int m] M= .ok (.int r) M'/\0<=r/\r < m/\Gr n M M':=by
 obtain ⟨a,b,ha,e⟩:=hb
 have hl:n < M.length:=(List.getElem?_eq_some_iff.mp e).1
 have hs: ∀ x,(M.set n x)[n]?=some x:=fun x=>List.getElem?_set_self hl
 have gr: ∀ a' b',0<=a'->Gr n M (M.set n (.lst [.int a',.int b'])):=fun a' b' h=>⟨by simp,⟨a',b',h,hs _⟩,fun k hk _=>by rw[List.getElem?_set_ne (Ne.symm hk)]⟩
 by_cases c:0 < a
 ·refine ⟨a.fmod m,M.set n (.lst [.int (a.fdiv m),.int b]),?_,?_,?_,gr _ _ ?_⟩
  ·simp[FDigit,ZgX,fnF,Zw,sNil,ZM,Zdy,ZaO,sIf,ZJ,Zb5,Zd9,ZP,gNm,gNl,gCs,gTp,DL.e2,Zf,eC,ZU,ZbB,Zj,Zc,aNil,tv,Zbe,ZcP,Z1,Zam,Zgh,Zb0,eIf,Zda,ZcE,Out.bind,dAdd,dSub,dMul,dDiv,dMod,dPow,dLt,dLe,dGt,dGe,dIx,atD,at0,at1,ix0,ix1,bLen,bAbs,bMax,bMin,bInt,bList,Zds,ZL,kd,Za8,dIs,Zbo,isP,e,c,hd,Int.ne_of_gt hm]
  ·rw[Int.fmod_eq_emod_of_nonneg _ (by omega)];exact Int.emod_nonneg _ (by omega)
  ·rw[Int.fmod_eq_emod_of_nonneg _ (by omega)];exact Int.emod_lt_of_pos _ hm
  ·rw[Int.fdiv_eq_ediv_of_nonneg _ (by omega)];exact Int.ediv_nonneg ha (by omega)
 ·refine ⟨(((b * 48271).fmod 2147483647 * 16807).fmod 2147483647 |>.fdiv 32).fmod m,M.set n (.lst [.int a,.int ((b * 48271).fmod 2147483647)]),?_,?_,?_,gr _ _ ha⟩
  ·have f1:ZA b 48271:=Zav (by decide) (by decide)
   have f2:ZA ((b * 48271).fmod 2147483647) 16807:=Zav (by decide) (by decide)
   have f3:Z2 32:=by decide +kernel
   simp[FDigit,ZgX,fnF,Zw,sNil,ZM,Zdy,ZaO,sIf,ZJ,Zb5,Zd9,ZP,gNm,gNl,gCs,gTp,DL.e2,Zf,eC,ZU,ZbB,Zj,Zc,aNil,tv,Zbe,ZcP,Z1,Zam,Zgh,Zb0,eIf,Zda,ZcE,Out.bind,dAdd,dSub,dMul,dDiv,dMod,dPow,dLt,dLe,dGt,dGe,dIx,atD,at0,at1,ix0,ix1,bLen,bAbs,bMax,bMin,bInt,bList,Zds,ZL,kd,Za8,dIs,Zbo,isP,e,c,hs,f1,f2,f3,Int.ne_of_gt hm]
  ·rw[Int.fmod_eq_emod_of_nonneg _ (by omega)];exact Int.emod_nonneg _ (by omega)
  ·rw[Int.fmod_eq_emod_of_nonneg _ (by omega)];exact Int.emod_lt_of_pos _ hm
theorem Bag.lt {n:Nat}{M:Sto}(h:Bag n M):n < M.length:=let ⟨_,_,_,e⟩:=h;(List.getElem?_eq_some_iff.mp e).1
theorem Bag.app {n:Nat}{M:Sto}(h:Bag n M)(L:Sto):Bag n (M ++ L):=by
 have hl:=h.lt
 obtain ⟨a,b,h1,h2⟩:=h
 exact ⟨a,b,h1,by rw[List.getElem?_append_left hl];exact h2⟩
theorem Gr.trans {n:Nat}{M M1 M2:Sto}(a:Gr n M M1)(b:Gr n M1 M2):Gr n M M2:=
 ⟨Nat.le_trans a.len b.len,b.bag,fun k h1 h2=>(b.keep k h1 (Nat.lt_of_lt_of_le h2 a.len)).trans (a.keep k h1 h2)⟩
theorem Gr.app {n:Nat}{M:Sto}(h:Bag n M)(L:Sto):Gr n M (M ++ L):=⟨by simp,h.app L,fun k _ hk=>by rw[List.getElem?_append_left hk]⟩
theorem Gr.app2 {n:Nat}{M M1:Sto}(h:Gr n M M1)(L:Sto):Gr n M (M1 ++ L):=h.trans (.app h.bag L)
theorem Gr.new {n:Nat}{M M1:Sto}{o:SO}{L:Sto}(hb:Bag n M)(h:Gr n (M ++ o :: L) M1):M1[M.length]?=some o:=by
 rw[h.keep _ (Nat.ne_of_gt hb.lt) (by simp)]
 simp
noncomputable def Zso:Sv:=(Zw (ZJ (gNm 2) (eC (.int 0)))
 (Zw (sIf (tv (e2 dLt (Zf 1) (Zj bLen (Zc (Zf 0) aNil)))) (ZJ (gNm 2) (Zj bAbs (Zc (e2 dIx (Zf 0) (Zf 1)) aNil))) sNil)
 (Zw (ZJ (gNm 3) (e2 dAdd (eC (.int 1)) (e2 dMod (e2 dAdd (e2 dAdd (e2 dAdd (e2 dMod (Zf 2) (eC (.int 2147483647))) (e2 dMul (e2 dMul (eC (.int 7919)) (Zf 1)) (Zf 1))) (e2 dMul (eC (.int 11)) (Zf 1))) (eC (.int 5))) (eC (.int 2147483646)))))
 (ZM (ZbB (Zc (e2 dMul (Zf 2) (Zj bInt (Zc (e2 dGe (Zf 2) (e2 dPow (eC (.int 10)) (eC (.int 18)))) aNil))) (Zc (Zf 3) aNil)))))))
noncomputable def FBag:List D->Sto->Out D:=fnF Zso 2 2
theorem Zir {ns:List Int}{k:Nat}(h:k < ns.length):atI (ns.map D.int) (k:Int)=some (.int ns[k]):=ZjS (by rw[List.getElem?_map,List.getElem?_eq_getElem h];rfl)
theorem ZmE {ns:List Int}{k:Nat}{M:Sto}(hk:k < 1000): ∃ a b:Int,0<=a/\FBag [.rol (ns.map D.int),.int k] M= .ok (.ref M.length) (M ++ [.lst [.int a,.int b]]):=by
 have f2:ZA 7919 (k:Int):=Zci (by decide) (by decide)
 have f3:ZA (7919 * (k:Int)) (k:Int):=Zav (by omega) (by omega)
 have f4:ZA 11 (k:Int):=Zci (by decide) (by decide)
 have body: ∀ cell:Int,0<=cell-> ∃ a b:Int,0<=a/\ ∀ M,Zw (ZJ (gNm 3) (e2 dAdd (eC (.int 1)) (e2 dMod (e2 dAdd (e2 dAdd (e2 dAdd (e2 dMod (Zf 2) (eC (.int 2147483647))) (e2 dMul (e2 dMul (eC (.int 7919)) (Zf 1)) (Zf 1))) (e2 dMul (eC (.int 11)) (Zf 1))) (eC (.int 5))) (eC (.int 2147483646)))))
   (ZM (ZbB (Zc (e2 dMul (Zf 2) (Zj bInt (Zc (e2 dGe (Zf 2) (e2 dPow (eC (.int 10)) (eC (.int 18)))) aNil))) (Zc (Zf 3) aNil)))) [some (.rol (ns.map D.int)),some (.int k),some (.int cell),none] M= .ret (.ref M.length) (M ++ [.lst [.int a,.int b]]):=by
  intro cell hc;have f5:ZA cell 1:=Zav (by decide) (by decide)
  have f6:ZA cell 0:=Zav (by decide) (by decide)
  by_cases c:(10 ^ 18:Int)<=cell
  ·refine ⟨cell * 1,1 + (cell.fmod 2147483647 + 7919 * (k:Int) * k + 11 * k + 5).fmod 2147483646,by omega,fun M=> ?_⟩
   have c':(1000000000000000000:Int)<=cell:=by omega
   simp[fnF,Zw,sNil,ZM,Zdy,ZaO,sIf,ZJ,Zb5,Zd9,ZP,gNm,gNl,gCs,gTp,DL.e2,Zf,eC,ZU,ZbB,Zj,Zc,aNil,tv,Zbe,ZcP,Z1,Zam,Zgh,Zb0,eIf,Zda,ZcE,Out.bind,dAdd,dSub,dMul,dDiv,dMod,dPow,dLt,dLe,dGt,dGe,dIx,atD,at0,at1,ix0,ix1,bLen,bAbs,bMax,bMin,bInt,bList,Zds,ZL,kd,Za8,dIs,Zbo,isP,f2,f3,f4,f5,f6,c']
  ·refine ⟨cell * 0,1 + (cell.fmod 2147483647 + 7919 * (k:Int) * k + 11 * k + 5).fmod 2147483646,by omega,fun M=> ?_⟩
   have c': ¬ (1000000000000000000:Int)<=cell:=by omega
   simp[fnF,Zw,sNil,ZM,Zdy,ZaO,sIf,ZJ,Zb5,Zd9,ZP,gNm,gNl,gCs,gTp,DL.e2,Zf,eC,ZU,ZbB,Zj,Zc,aNil,tv,Zbe,ZcP,Z1,Zam,Zgh,Zb0,eIf,Zda,ZcE,Out.bind,dAdd,dSub,dMul,dDiv,dMod,dPow,dLt,dLe,dGt,dGe,dIx,atD,at0,at1,ix0,ix1,bLen,bAbs,bMax,bMin,bInt,bList,Zds,ZL,kd,Za8,dIs,Zbo,isP,f2,f3,f4,f5,f6,c']
 by_cases c:k < ns.length
 ·obtain ⟨a,b,h,e⟩:=body (if ns[k] < 0 then -ns[k] else ns[k]) (by split<;>omega)
  refine ⟨a,b,h,Zei rfl ?_⟩
  have c':(k:Int) < (ns.length:Int):=by omega
  refine (ZbG (ρ1:=[some (.rol (ns.map D.int)),some (.int k),some (.int 0),none]) (M1:=M) rfl).trans ?_
  refine (ZbG (ρ1:=[some (.rol (ns.map D.int)),some (.int k),some (.int (if ns[k] < 0 then -ns[k] else ns[k])),none]) (M1:=M) ?_).trans (e M)
  simp[fnF,Zw,sNil,ZM,Zdy,ZaO,sIf,ZJ,Zb5,Zd9,ZP,gNm,gNl,gCs,gTp,DL.e2,Zf,eC,ZU,ZbB,Zj,Zc,aNil,tv,Zbe,ZcP,Z1,Zam,Zgh,Zb0,eIf,Zda,ZcE,Out.bind,dAdd,dSub,dMul,dDiv,dMod,dPow,dLt,dLe,dGt,dGe,dIx,atD,at0,at1,ix0,ix1,bLen,bAbs,bMax,bMin,bInt,bList,Zds,ZL,kd,Za8,dIs,Zbo,isP,Zir c,c']
 ·obtain ⟨a,b,h,e⟩:=body 0 (by omega)
  refine ⟨a,b,h,Zei rfl ?_⟩
  have c': ¬ (k:Int) < (ns.length:Int):=by omega
  refine (ZbG (ρ1:=[some (.rol (ns.map D.int)),some (.int k),some (.int 0),none]) (M1:=M) rfl).trans ?_
  refine (ZbG (ρ1:=[some (.rol (ns.map D.int)),some (.int k),some (.int 0),none]) (M1:=M) ?_).trans (e M)
  simp[fnF,Zw,sNil,ZM,Zdy,ZaO,sIf,ZJ,Zb5,Zd9,ZP,gNm,gNl,gCs,gTp,DL.e2,Zf,eC,ZU,ZbB,Zj,Zc,aNil,tv,Zbe,ZcP,Z1,Zam,Zgh,Zb0,eIf,Zda,ZcE,Out.bind,dAdd,dSub,dMul,dDiv,dMod,dPow,dLt,dLe,dGt,dGe,dIx,atD,at0,at1,ix0,ix1,bLen,bAbs,bMax,bMin,bInt,bList,Zds,ZL,kd,Za8,dIs,Zbo,isP,c',c]
theorem Ze1 {ρ:Ro}{i:Nat}{x:Option D}(h:ρ[i]?=some x):ρ.set i x=ρ:=by
 apply List.ext_getElem?
 intro k
 by_cases hk:k=i
 ·subst hk
  rw[List.getElem?_set_self (List.getElem?_eq_some_iff.mp h).1,h]
 ·rw[List.getElem?_set_ne (Ne.symm hk)]
noncomputable def cEu (i j:Nat):Sv:=Zb5 i j (Zc (Zf j) (Zc (e2 dMod (Zf i) (Zf j)) aNil))
theorem ZmF {c:Tv}{i j:Nat}{M:Sto}(hij:i≠j)(hc: ∀ (ρ:Ro) (b:Nat),ρ[j]?=some (some (.int b))->c ρ M= .ok (decide (b≠0)) M): ∀ (b a:Nat) (ρ:Ro),ρ[i]?=some (some (.int a))->ρ[j]?=some (some (.int b))->
  sWh c (cEu i j) ρ M= .nx ((ρ.set i (some (.int (Nat.gcd a b:Nat)))).set j (some (.int 0))) M:=by
 intro b
 induction b using Nat.strongRecOn with
 |ind b ih=>
  intro a ρ hi hj
  by_cases h0:b=0
  ·subst h0
   rw[Zdz (M1:=M) (by rw[hc ρ 0 hj];rfl),Nat.gcd_zero_right,Ze1 hi,Ze1 (x:=some (.int 0)) hj]
  ·have hl:i < ρ.length:=(List.getElem?_eq_some_iff.mp hi).1
   have hl2:j < ρ.length:=(List.getElem?_eq_some_iff.mp hj).1
   have ht:c ρ M= .ok true M:=by rw[hc ρ b hj,decide_eq_true h0]
   have hb:cEu i j ρ M= .nx ((ρ.set i (some (.int b))).set j (some (.int (a % b:Nat)))) M:=by
    have hb0: ¬ (b:Int)=0:=by omega
    have hm:(a:Int).fmod (b:Int)=((a % b:Nat):Int):=by rw[Int.fmod_eq_emod_of_nonneg _ (by omega)];rfl
    simp[cEu,Zb5,Zc,aNil,Zf,e2,dMod,Out.bind,ZP,hi,hj,hb0,hm,h0]
   have g1:((ρ.set i (some (.int b))).set j (some (.int (a % b:Nat))))[i]?=some (some (.int b)):=by
    rw[List.getElem?_set_ne (Ne.symm hij),List.getElem?_set_self hl]
   have g2:((ρ.set i (some (.int b))).set j (some (.int (a % b:Nat))))[j]?=some (some (.int (a % b:Nat))):=by
    rw[List.getElem?_set_self (by simpa using hl2)]
   have q:=ih (a % b) (Nat.mod_lt _ (by omega)) b _ g1 g2
   rw[ZeL ht hb (by rw[q];intro z;cases z),q]
   have eg:Nat.gcd b (a % b)=Nat.gcd a b:=by rw[Nat.gcd_comm b,<- Nat.gcd_rec,Nat.gcd_comm]
   rw[eg,List.set_comm _ _ (Ne.symm hij),List.set_set,List.set_set]
theorem ZmG {M:Sto}{a b:Int}:eqF 12 M (.int a) (.int b)=some (a == b):=rfl
theorem ne0 {j:Nat}{M:Sto}(ρ:Ro)(b:Nat)(h:ρ[j]?=some (some (.int b))):tv (e2 dNe (Zf j) (eC (.int 0))) ρ M= .ok (decide (b≠0)) M:=by
 simp[tv,e2,Zf,eC,h,Out.bind,dNe,ZmG]
 by_cases c:b=0
 ·subst c;rfl
 ·have: ¬ (b:Int)=0:=by omega
  simp[c,this]
theorem ZgY (a:Int):(if a < 0 then -a else a)=(a.natAbs:Int):=by split<;>omega
noncomputable def Zsp:Sv:=(Zw (Zb5 2 3 (Zc (Zj bAbs (Zc (Zf 0) aNil)) (Zc (Zj bAbs (Zc (Zf 1) aNil)) aNil)))
 (Zw (sWh (tv (e2 dNe (Zf 3) (eC (.int 0)))) (Zb5 2 3 (Zc (Zf 3) (Zc (e2 dMod (Zf 2) (Zf 3)) aNil))))
 (ZM (Zf 2))))
noncomputable def FGcd:List D->Sto->Out D:=fnF Zsp 2 2
theorem ZmH (a b:Int)(M:Sto):FGcd [.int a,.int b] M= .ok (.int (Int.gcd a b:Nat)) M:=by
 refine Zei rfl ?_
 refine (ZbG (ρ1:=[some (.int a),some (.int b),some (.int (a.natAbs:Nat)),some (.int (b.natAbs:Nat))]) (M1:=M) ?_).trans ?_
 ·simp[fnF,Zw,sNil,ZM,Zdy,ZaO,sIf,ZJ,Zb5,Zd9,ZP,gNm,gNl,gCs,gTp,DL.e2,Zf,eC,ZU,ZbB,Zj,Zc,aNil,tv,Zbe,ZcP,Z1,Zam,Zgh,Zb0,eIf,Zda,ZcE,Out.bind,dAdd,dSub,dMul,dDiv,dMod,dPow,dLt,dLe,dGt,dGe,dIx,atD,at0,at1,ix0,ix1,bLen,bAbs,bMax,bMin,bInt,bList,Zds,ZL,kd,Za8,dIs,Zbo,isP,ZgY]
 ·have q:=ZmF (c:=tv (e2 dNe (Zf 3) (eC (.int 0)))) (i:=2) (j:=3) (M:=M) (by decide) ne0 b.natAbs a.natAbs [some (.int a),some (.int b),some (.int (a.natAbs:Nat)),some (.int (b.natAbs:Nat))] rfl rfl
  refine (ZbG q).trans ?_
  rfl
end DL
end
section
namespace DL
open PySem PySem.Spec PyProof.Rows L2
end DL
end
section
namespace HD
open PySem PySem.W PyProof.Rows
noncomputable def Zoz (thr:Thread->Bool)(stp:SharedT->Thread->Option (SharedT × Thread))(n:Nat):SharedT->Thread->Option SharedT:=
 Nat.rec (motive:=fun _=>SharedT->Thread->Option SharedT) (fun _ _=>none) (fun _ ih s t=>Bool.rec (motive:=fun _=>Option SharedT) (Option.rec (motive:=fun _=>Option SharedT) none (fun r=>ih r.1 r.2) (stp s t)) (some s) (thr t)) n
noncomputable def Zis (ok:Thread->Bool)(stp:SharedT->Thread->Option (SharedT × Thread))(s:SharedT)(t:Thread):Option (SharedT × Thread):=Bool.rec (motive:=fun _=>Option (SharedT × Thread)) none (stp s t) (ok t)
section
variable {tb:String->Option Builtin}{p:Program}{w:World}{n₀:Nat}{ann:Option Value}
theorem Zjg: ∀ {n:Nat} {s s':SharedT} {t:Thread},Zoz through (Zis (stepOk n₀ ann) (stepT (denote tb) p w)) n s t=some s'->topRun tb p w n₀ ann n s.abs t=some s'.abs
 |0,s,s',t,h=>by cases h
 |n + 1,s,s',t,h=>by
  unfold topRun
  change Bool.rec (motive:=fun _=>Option SharedT) (Option.rec (motive:=fun _=>Option SharedT) none (fun r=>Zoz through (Zis (stepOk n₀ ann) (stepT (denote tb) p w)) n r.1 r.2) (Zis (stepOk n₀ ann) (stepT (denote tb) p w) s t)) (some s) (through t)=some s' at h
  cases ht:through t with
  |true=>
   rw[ht] at h;have h':some s=some s':=h
   cases h'
   rfl
  |false=>
   rw[ht] at h;cases hk:stepOk n₀ ann t with
   |false=>
    have e:Zis (stepOk n₀ ann) (stepT (denote tb) p w) s t=none:=by unfold Zis;rw[hk]
    rw[e] at h;cases h
   |true=>
    have e:Zis (stepOk n₀ ann) (stepT (denote tb) p w) s t=stepT (denote tb) p w s t:=by unfold Zis;rw[hk]
    rw[e] at h;cases hs:stepT (denote tb) p w s t with
    |none=>rw[hs] at h;cases h
    |some r=>
     obtain ⟨s2,t2⟩:=r
     rw[hs] at h
     have:=stepT_spec hs
     rw[this];exact Zjg (n:=n) h
end
noncomputable def T0 (w:World)(os:OsState):SharedT:=
 ⟨[boot_o_0,boot_o_1,boot_o_2,boot_o_3,boot_o_4,boot_o_5,boot_o_6,boot_o_7,boot_o_8,boot_o_9,boot_o_10].foldl (fun (r:Nat × BT) o=>(r.1 + 1,r.2.ins r.1 (o w.params))) (0,.nil) |>.2,11,(boot_heap w.params).life,#[],boot_drawn,boot_toks,os⟩
theorem ZmI (w:World)(os:OsState):(T0 w os).abs=⟨boot_heap w.params,#[],boot_drawn,boot_toks,os⟩:=by kernel_rfl
theorem Zkq:Str.ofString "__annotations__"=⟨#[95,95,97,110,110,111,116,97,116,105,111,110,115,95,95]⟩:=by decide +kernel
theorem ZgZ {p q:Program}{loose:List Str}{Xt:Shared->Bool}{α:Type}{Yf:Shared->α}{Ya:World->α}{N M:Nat}(e:opening p=plainProg p.main.scope.names)(hN:Nat.ble 600 N=true)(f: ∀ s,fenceModules? p s=some s)(le:Nat.ble M N=true)
  (Zo5: ∀ (w:World) (os:OsState),(Zoz through (Zis (stepOk 11 (some (.ref 6))) (stepT (denote treeTable) p w)) M (T0 w os) (topStub p)).map (fun s=>((staticsOk (importedModules p.main.body) (boot_heap w.params) s.abs.heap && namesBound p s.abs.heap && gensDone s.abs && laidKept (boot_heap w.params) s.abs.heap),
    openSeen q loose (importedModules p.main.body) Xt true s.abs,Yf s.abs))=some (true,openGood q loose,Ya w)):LeftO p q loose Xt Yf Ya N:=fun w=>by
 obtain ⟨⟨h,gs,d,k,os⟩,e1,e2⟩:=Option.map_eq_some_iff.mp (boot_open e hN f w)
 obtain ⟨rfl,rfl,rfl,rfl⟩:h=boot_heap w.params/\gs=Array.mk []/\d=boot_drawn/\k=boot_toks:=by simpa using e2
 obtain ⟨s',r1,r2⟩:=Option.map_eq_some_iff.mp (Zo5 w os)
 obtain ⟨l1,l2,l3⟩:_/\_/\_:=by simpa only[Prod.mk.injEq] using r2
 have r:=Zjg r1
 rw[ZmI] at r;have r:=topRun_mono (N - M) _ _ _ _ r
 rw[show M + (N - M)=N by have:=Nat.le_of_ble_eq_true le;omega] at r
 have z1:((boot_heap w.params).isNs mainGlobals && (Array.mk []:Array GenState).size == 0)=true:=by kernel_rfl
 have z2:(boot_heap w.params).objs.size=11:=rfl
 have z3:(boot_heap w.params).nsMap mainGlobals "__annotations__"=some (.ref 6):=by
  rw[Zkq]
  kernel_rfl
 have t:topFrom treeTable p w N ⟨boot_heap w.params,Array.mk [],boot_drawn,boot_toks,os⟩=some s'.abs:=by
  unfold topFrom;dsimp only;rw[z1,z2,z3,r];show (match staticsOk (importedModules p.main.body) (boot_heap w.params) s'.abs.heap && namesBound p s'.abs.heap && gensDone s'.abs && laidKept (boot_heap w.params) s'.abs.heap with | true=>_ | false=>_)=_
  rw[l1]
 unfold openEnds;rw[e1];show (topFrom treeTable p w N _).map _=_
 rw[t];exact congrArg some (Prod.ext l2 l3)
end HD
namespace HD
open PySem PySem.W
theorem Zo6: @stepOk= @PySem.W.Fast.tw6613529449190102663:=PySem.W.Fast.te6613529449190102663
theorem Zkr: @stepT= @PySem.W.Fast.tw10156331382660048174:=PySem.W.Fast.te10156331382660048174
theorem ZmJ: @denote= @PySem.W.Fast.tw11892475500146522536:=PySem.W.Fast.te11892475500146522536
theorem ZmK: @treeTable= @PySem.W.Fast.tw14364793385576792824:=PySem.W.Fast.te14364793385576792824
theorem Zks: @openSeen= @PySem.W.Fast.tw4187177175401517315:=PySem.W.Fast.te4187177175401517315
theorem ZmL: @importedModules= @PySem.W.Fast.tw5923862056798008813:=PySem.W.Fast.te5923862056798008813
end HD
end
section
namespace DL
open PySem PySem.Spec PyProof.Rows L2
noncomputable def wO {β:Type}(o:Out β)(Q:β->Sto->Prop)(E:Str->Sto->Prop):Prop:=match o with
 | .ok a M=>Q a M
 | .exc c M=>E c M
 | .bad=>False
noncomputable def wS (f:Fl)(N:Ro->Sto->Prop)(R:D->Sto->Prop)(B C:Ro->Sto->Prop)(E:Str->Sto->Prop):Prop:=match f with
 | .nx ρ M=>N ρ M
 | .ret d M=>R d M
 | .brk ρ M=>B ρ M
 | .cnt ρ M=>C ρ M
 | .exc c M=>E c M
 | .bad=>False
noncomputable def Br (k:Bool)(A B:Prop):Prop:=(k=true->A)/\(k=false->B)
noncomputable def wG {β:Type}(o:Option β)(N:β->Prop):Prop:=match o with | some ρ=>N ρ | none=>False
noncomputable def wV (o:Option (Option D))(Q:D->Prop):Prop:=match o with | some (some d)=>Q d | _=>False
noncomputable def wI (x:D)(Q:Int->Prop):Prop:=match x with | .int i=>Q i | _=>False
noncomputable def wB (x:D)(Q:Bool->Prop):Prop:=match x with | .bl i=>Q i | _=>False
noncomputable def wR (x:D)(Q:Nat->Prop):Prop:=match x with | .ref i=>Q i | _=>False
noncomputable def w1 (x:List D)(Q:D->Prop):Prop:=match x with | [v]=>Q v | _=>False
noncomputable def w2 (x:List D)(Q:D->D->Prop):Prop:=match x with | [v,w]=>Q v w | _=>False
noncomputable def wL (o:Option SO)(Q:List D->Prop):Prop:=match o with | some (.lst xs)=>Q xs | none=>False
section
variable {β:Type}{o o':Option (Option D)}{x x':D}{Q:D->Prop}{QI:Int->Prop}{QB:Bool->Prop}{QR:Nat->Prop}{QL:List D->Prop}{l l':Option SO}{d:D}{i:Int}{k:Bool}{n:Nat}{xs:List D}{g g':Option β}{QG:β->Prop}{y:β}
theorem Zsq:w1 [d] Q=Q d:=rfl
theorem Zsr {Q2:D->D->Prop}:w2 [d,x] Q2=Q2 d x:=rfl
theorem Zss:wV (some (some d)) Q=Q d:=rfl
theorem Zst:wI (.int i) QI=QI i:=rfl
theorem Zsu:wB (.bl k) QB=QB k:=rfl
theorem Zsv:wR (.ref n) QR=QR n:=rfl
theorem Zsw:wL (some (.lst xs)) QL=QL xs:=rfl
theorem Zsx:wG (some y) QG=QG y:=rfl
end
section
variable {β:Type}{Q:β->Sto->Prop}{E:Str->Sto->Prop}{N B C:Ro->Sto->Prop}{R:D->Sto->Prop}{ρ:Ro}{M:Sto}{A A':Prop}
theorem Zn {d:β}:wO (.ok d M) Q E=Q d M:=rfl
theorem ZmM {c:Str}:wO (.exc c M:Out β) Q E=E c M:=rfl
theorem ZoA:Br true A A'=A:=by simp[Br]
theorem Zq3:Br false A A'=A':=by simp[Br]
theorem br {k:Bool}(h1:k=true->A)(h2:k=false->A'):Br k A A':=⟨h1,h2⟩
theorem brD {p:Prop}[Decidable p](h1:p->A)(h2: ¬ p->A'):Br (decide p) A A':=⟨fun h=>h1 (of_decide_eq_true h),fun h=>h2 (of_decide_eq_false h)⟩
theorem brN {p:Prop}[Decidable p](h1: ¬ p->A)(h2:p->A'):Br (!decide p) A A':=⟨fun h=>h1 (by simpa using h),fun h=>h2 (by simpa using h)⟩
theorem Zcj {o:Out β}{Q':β->Sto->Prop}{E':Str->Sto->Prop}(h:wO o Q E)(hq: ∀ d M,Q d M->Q' d M)(he: ∀ c M,E c M->E' c M):wO o Q' E':=by
 cases o with
 |ok d M=>exact hq d M h
 |exc c M=>exact he c M h
 |bad=>exact h
theorem Zg0 {o:Out β}(h:wO o Q (fun _ _=>False)): ∃ d M',o= .ok d M'/\Q d M':=by
 cases o with
 |ok d M=>exact ⟨d,M,rfl,h⟩
 |exc c M=>exact h.elim
 |bad=>exact h.elim
theorem Zq {γ:Type}{o:Out γ}{f:γ->Sto->Out β}:wO (o.bind f) Q E=wO o (fun x M1=>wO (f x M1) Q E) E:=by cases o<;>rfl
end
section
variable {Q:D->Sto->Prop}{E:Str->Sto->Prop}{N B C:Ro->Sto->Prop}{R:D->Sto->Prop}{ρ:Ro}{M:Sto}{e f g:Ev}{fs:Av}
theorem Zo7 {op:Bo}:wO (e2 op f g ρ M) Q E=wO (f ρ M) (fun x M1=>wO (g ρ M1) (fun y M2=>wO (op x y M2) Q E) E) E:=by
 unfold e2;rw[Zq]
 congr 1
 funext x M1
 rw[Zq]
theorem Zsy {i:Nat}:wO (Zf i ρ M) Q E=wV ρ[i]? (fun d=>Q d M):=by
 unfold Zf;cases ρ[i]? with
 |none=>rfl
 |some o=>cases o<;>rfl
theorem Zkt {F:List D->Sto->Out D}:wO (Zj F fs ρ M) Q E=wO (fs ρ M) (fun ds M1=>wO (F ds M1) Q E) E:=Zq
theorem Zku {Q:List D->Sto->Prop}:wO (Zc f fs ρ M) Q E=wO (f ρ M) (fun x M1=>wO (fs ρ M1) (fun xs M2=>Q (x :: xs) M2) E) E:=by
 unfold Zc;rw[Zq]
 congr 1
 funext x M1
 rw[Zq]
 congr 1
theorem ZmN:wO (ZU fs ρ M) Q E=wO (fs ρ M) (fun xs M1=>xs.length<=1000/\Q (.tup xs) M1) E:=by
 unfold ZU;rw[Zq]
 congr 1
 funext x M1
 by_cases h:x.length<=1000
 ·rw[if_pos h];simp[h,wO]
 ·rw[if_neg h];simp[h,wO]
theorem ZmO:wO (ZbB fs ρ M) Q E=wO (fs ρ M) (fun xs M1=>xs.length<=1000/\Q (.ref M1.length) (M1 ++ [.lst xs])) E:=by
 unfold ZbB;rw[Zq]
 congr 1
 funext x M1
 by_cases h:x.length<=1000
 ·rw[if_pos h];simp[h,wO]
 ·rw[if_neg h];simp[h,wO]
variable {t u:Tv}
theorem ZmP {Q:Bool->Sto->Prop}:wO (Z1 t ρ M) Q E=wO (t ρ M) (fun k M1=>Q (!k) M1) E:=by
 unfold Z1;rw[Zq]
 congr 1
variable {a b:Sv}
theorem ZmQ:wS (Zw a b ρ M) N R B C E=wS (a ρ M) (fun ρ1 M1=>wS (b ρ1 M1) N R B C E) R B C E:=by
 unfold Zw;cases a ρ M<;>rfl
theorem ZQ {β:Type}{o:Out β}{k:β->Sto->Fl}:wS (ZP o k) N R B C E=wO o (fun x M1=>wS (k x M1) N R B C E) E:=by cases o<;>rfl
theorem ZmR:wS (ZM f ρ M) N R B C E=wO (f ρ M) R E:=ZQ
theorem Zkv:wS (ZaO f ρ M) N R B C E=wO (f ρ M) (fun _ M1=>N ρ M1) E:=ZQ
theorem ZmS {i:Nat}:wS (ZJ (gNm i) f ρ M) N R B C E=wO (f ρ M) (fun d M1=>N (ρ.set i (some d)) M1) E:=ZQ
theorem Zkw {gs:Tgs}:wS (ZJ (gTp gs) f ρ M) N R B C E=wO (f ρ M) (fun d M1=>wG (gTp gs d ρ) (fun r=>N r M1)) E:=by
 unfold ZJ;rw[ZQ]
 congr 1
 funext d M1
 cases gTp gs d ρ<;>rfl
theorem ZmT {i j:Nat}:wS (Zb5 i j fs ρ M) N R B C E=wO (fs ρ M) (fun ds M1=>w2 ds fun v w=>N ((ρ.set i (some v)).set j (some w)) M1) E:=by
 unfold Zb5;rw[ZQ]
 congr 1
 funext ds M1
 rcases ds with _ | ⟨v,_ | ⟨w,_ | ⟨z,r⟩⟩⟩<;>rfl
theorem ZmU {fo fi:Ev}:wS (Zd9 fo fi f ρ M) N R B C E=wO (f ρ M) (fun d M1=>wO (fo ρ M1) (fun o M2=>wO (fi ρ M2) (fun i M3=>wR o fun n=>wI i fun k=>wL M3[n]? fun xs=>wG (ixN xs.length k) fun j=>N ρ (M3.set n (.lst (xs.set j d)))) E) E) E:=by
 unfold Zd9;rw[ZQ]
 congr 1
 funext d M1
 rw[ZQ]
 congr 1
 funext o M2
 rw[ZQ]
 congr 1
 funext i M3
 cases o<;>cases i<;>try rfl
 rename_i n k;cases e:M3[n]? with
 |none=>simp only[e,wR,wI,wL,wS]
 |some s=>
  cases s with
  |lst xs=>
   cases e2:ixN xs.length k<;>simp only[e,e2,wR,wI,wL,wG,wS]
theorem Zit {c:Str}:wS (Zat c fs ρ M) N R B C E=wO (fs ρ M) (fun ds M1=>ds.length<=1000/\E c M1) E:=by
 unfold Zat;rw[ZQ]
 congr 1
 funext ds M1
 by_cases h:ds.length<=1000
 ·rw[if_pos h];simp[h,wS]
 ·rw[if_neg h];simp[h,wS]
theorem wF {n k:Nat}{ds:List D}(hl:ds.length=n):wO (fnF a n k ds M) Q E=wS (a (ds.map some ++ List.replicate k none) M) (fun _ M1=>Q .non M1) Q (fun _ _=>False) (fun _ _=>False) E:=by
 unfold fnF;rw[if_pos hl];cases a (ds.map some ++ List.replicate k none) M<;>rfl
theorem Zg1 {o:Fl}{N' B' C':Ro->Sto->Prop}{R':D->Sto->Prop}{E':Str->Sto->Prop}(h:wS o N R B C E)(hn: ∀ ρ M,N ρ M->N' ρ M)(hr: ∀ d M,R d M->R' d M)(hb: ∀ ρ M,B ρ M->B' ρ M)(hc: ∀ ρ M,C ρ M->C' ρ M)(he: ∀ c M,E c M->E' c M):wS o N' R' B' C' E':=by
 cases o with
 |nx ρ M=>exact hn _ _ h
 |ret ρ M=>exact hr _ _ h
 |brk ρ M=>exact hb _ _ h
 |cnt ρ M=>exact hc _ _ h
 |exc ρ M=>exact he _ _ h
 |bad=>exact h
variable {tg:Tg}{bd:Sv}{fi:Ro->Sto->Out Src}
theorem Zg2 (I:Nat->Ro->Sto->Prop): ∀ (xs:List D) (k:Nat) (ρ:Ro) (M:Sto),I k ρ M->(∀ i ρ M (h:i < xs.length),I (k + i) ρ M->wG (tg xs[i] ρ) fun r=>wS (bd r M) (I (k + i + 1)) R N (I (k + i + 1)) E)->(∀ ρ M,I (k + xs.length) ρ M->N ρ M)->wS (Za6 tg bd xs ρ M) N R B C E
 | [],k,ρ,M,h,_,hn=>hn ρ M h
 |x :: xs,k,ρ,M,h,st,hn=>by
  have s:=st 0 ρ M (by simp) h
  unfold Za6;simp only[List.getElem_cons_zero,Nat.add_zero] at s;cases e:tg x ρ with
  |none=>rw[e] at s;exact s.elim
  |some ρ1=>
   rw[e] at s;simp only[wG] at s;have rc: ∀ ρ2 M2,I (k + 1) ρ2 M2->wS (Za6 tg bd xs ρ2 M2) N R B C E:=fun ρ2 M2 h2=>Zg2 I xs (k + 1) ρ2 M2 h2 (fun i ρ M hi hI=>by
    have z:=st (i + 1) ρ M (by simp;omega) (by rw[show k + (i + 1)=k + 1 + i by omega];exact hI)
    simp only[List.getElem_cons_succ] at z;rw[show k + (i + 1) + 1=k + 1 + i + 1 by omega] at z
    exact z) (fun ρ M hI=>hn ρ M (by rw[show k + (x :: xs).length=k + 1 + xs.length by simp;omega];exact hI))
   cases eg:bd ρ1 M<;>rw[eg] at s<;>simp only[eg]
   ·exact rc _ _ s
   ·exact s
   ·exact s
   ·exact rc _ _ s
   ·exact s
   ·exact s
theorem Zkx:wS (Zba tg fs bd ρ M) N R B C E=wO (fs ρ M) (fun ds M1=>w1 ds fun d=>wI d fun j=>(-(2 ^ 62)<=j/\j < 2 ^ 62)/\wS (Za6 tg bd (Zbq 0 j.toNat) ρ M1) N R B C E) E:=by
 unfold Zba;rw[ZQ]
 congr 1
 funext ds M1
 rcases ds with _ | ⟨v,_ | ⟨w,r⟩⟩
 ·rfl
 ·cases v<;>try rfl
  rename_i j
  by_cases h: -(2 ^ 62)<=j/\j < 2 ^ 62
  ·simp only[w1,wI,eq_true h,true_and,if_true]
  ·simp only[w1,wI,eq_false h,false_and,if_false]
   rfl
 ·cases v<;>rfl
theorem ZcH (I:Nat->Ro->Sto->Prop){n:Nat}{lo:Int}(h0:I 0 ρ M)(st: ∀ i ρ M,i < n->I i ρ M->wG (tg (.int (lo + i)) ρ) fun r=>wS (bd r M) (I (i + 1)) R N (I (i + 1)) E)(hn: ∀ ρ M,I n ρ M->N ρ M):wS (Za6 tg bd (Zbq lo n) ρ M) N R B C E:=by
 have hl:(Zbq lo n).length=n:=by simp[Zbq]
 refine Zg2 I _ 0 ρ M h0 (fun i ρ M h hI=> ?_) (fun ρ M hI=>hn ρ M (by rw[hl,Nat.zero_add] at hI;exact hI))
 have:(Zbq lo n)[i]= .int (lo + i):=by simp[Zbq]
 rw[this];rw[Nat.zero_add] at *;exact st i ρ M (by rw[hl] at h;exact h) hI
theorem ZmV:wS (Zl7 tg f bd ρ M) N R B C E=wO (f ρ M) (fun d M1=>wS (Zi4 tg bd d ρ M1) N R B C E) E:=ZQ
theorem Zky (I:Nat->Ro->Sto->Prop){n:Nat}{xs:List D}: ∀ (f i:Nat) (ρ:Ro) (M:Sto),i + f=xs.length->I i ρ M->(∀ i ρ M,I i ρ M->M[n]?=some (.lst xs))->(∀ i ρ M (h:i < xs.length),I i ρ M->wG (tg xs[i] ρ) fun r=>wS (bd r M) (I (i + 1)) R N (I (i + 1)) E)->(∀ ρ M,I xs.length ρ M->N ρ M)->wS (ZfF tg bd n f i ρ M) N R B C E:=by
  intro f
  induction f with
  |zero=>
   intro i ρ M e h hm st hn;have hx:=hm _ _ _ h
   unfold ZfF;rw[hx]
   have:xs[i]?=none:=List.getElem?_eq_none (by omega)
   simp only[this];exact hn ρ M (by rw[show xs.length=i by omega];exact h)
  |succ f ih=>
   intro i ρ M e h hm st hn;have hx:=hm _ _ _ h
   unfold ZfF;rw[hx];have hi:i < xs.length:=by omega
   have:xs[i]?=some xs[i]:=List.getElem?_eq_getElem hi
   simp only[this];have s:=st i ρ M hi h
   cases e:tg xs[i] ρ with
   |none=>rw[e] at s;exact s.elim
   |some ρ1=>
    rw[e] at s;simp only[wG] at s;have rc: ∀ ρ2 M2,I (i + 1) ρ2 M2->wS (ZfF tg bd n f (i + 1) ρ2 M2) N R B C E:=fun ρ2 M2 h2=>ih (i + 1) ρ2 M2 (by omega) h2 hm st hn
    cases eg:bd ρ1 M<;>rw[eg] at s<;>simp only[eg]
    ·exact rc _ _ s
    ·exact s
    ·exact s
    ·exact rc _ _ s
    ·exact s
    ·exact s
theorem Zg3 (I:Nat->Ro->Sto->Prop){n:Nat}{xs:List D}(hM:M[n]?=some (.lst xs))(h0:I 0 ρ M)(hm: ∀ i ρ M,I i ρ M->M[n]?=some (.lst xs))(st: ∀ i ρ M (h:i < xs.length),I i ρ M->wG (tg xs[i] ρ) fun r=>wS (bd r M) (I (i + 1)) R N (I (i + 1)) E)(hn: ∀ ρ M,I xs.length ρ M->N ρ M):wS (Zi4 tg bd (.ref n) ρ M) N R B C E:=by
 show wS (match M[n]? with | some (.lst xs)=>ZfF tg bd n xs.length 0 ρ M | none=> .bad) N R B C E
 rw[hM];exact Zky I xs.length 0 ρ M (by omega) h0 hm st hn
theorem Zkz:wS (Zed tg fi bd ρ M) N R B C E=wO (fi ρ M) (fun src M1=>wS (ZeT tg bd src (cnt src M1) 0 ρ M1) N R B C E) E:=ZQ
theorem ZmW (I:Nat->Ro->Sto->Prop){src:Src}{xs:List D}: ∀ (f i:Nat) (ρ:Ro) (M:Sto),i<=xs.length->xs.length<=i + f->I i ρ M->(∀ i ρ M,i<=xs.length->I i ρ M->nxt src i M=some xs[i]?)->(∀ i ρ M (h:i < xs.length),I i ρ M->wG (tg xs[i] ρ) fun r=>wS (bd r M) (I (i + 1)) R N (I (i + 1)) E)->(∀ ρ M,I xs.length ρ M->N ρ M)->wS (ZeT tg bd src f i ρ M) N R B C E:=by
  intro f
  induction f with
  |zero=>
   intro i ρ M le e h hm st hn;have hx:=hm _ _ _ le h
   unfold ZeT;rw[hx];have hi: ¬ i < xs.length:=by omega
   have:xs[i]?=none:=List.getElem?_eq_none (by omega)
   simp only[this];exact hn ρ M (by rw[show xs.length=i by omega];exact h)
  |succ f ih=>
   intro i ρ M le e h hm st hn;have hx:=hm _ _ _ le h
   unfold ZeT;rw[hx]
   by_cases hi:i < xs.length
   ·have:xs[i]?=some xs[i]:=List.getElem?_eq_getElem hi
    simp only[this];have s:=st i ρ M hi h
    cases e:tg xs[i] ρ with
    |none=>rw[e] at s;exact s.elim
    |some ρ1=>
     rw[e] at s;simp only[wG] at s;have rc: ∀ ρ2 M2,I (i + 1) ρ2 M2->wS (ZeT tg bd src f (i + 1) ρ2 M2) N R B C E:=fun ρ2 M2 h2=>ih (i + 1) ρ2 M2 (by omega) (by omega) h2 hm st hn
     cases eg:bd ρ1 M<;>rw[eg] at s<;>simp only[eg]
     ·exact rc _ _ s
     ·exact s
     ·exact s
     ·exact rc _ _ s
     ·exact s
     ·exact s
   ·have:xs[i]?=none:=List.getElem?_eq_none (by omega)
    simp only[this];exact hn ρ M (by rw[show xs.length=i by omega];exact h)
theorem Ziu {c:Tv}(I:Nat->Ro->Sto->Prop)(st: ∀ n ρ M,I n ρ M->wO (c ρ M) (fun k M1=>Br k (wS (bd ρ M1) (fun ρ2 M2=> ∃ m,m < n/\I m ρ2 M2) R N (fun ρ2 M2=> ∃ m,m < n/\I m ρ2 M2) E) (N ρ M1)) E): ∀ (n:Nat) (ρ:Ro) (M:Sto),I n ρ M->wS (sWh c bd ρ M) N R B C E:=by
 intro n
 induction n using Nat.strongRecOn with
 |ind n ih=>
  intro ρ M h;have s:=st n ρ M h
  cases ec:c ρ M with
  |bad=>rw[ec] at s;exact s.elim
  |exc x M1=>rw[ec] at s;rw[ZbU (n:=1) (o:= .exc x M1) (by simp only[whN,ec])];exact s
  |ok k M1=>
   rw[ec] at s;cases k with
   |false=>
    rw[Zn,Zq3] at s;rw[Zdz ec];exact s
   |true=>
    rw[Zn,ZoA] at s;cases eg:bd ρ M1 with
    |nx ρ2 M2=>
     rw[eg] at s;obtain ⟨m,hm,hI⟩:=s
     have r:=ih m hm ρ2 M2 hI
     rw[ZeL ec eg (by intro z;rw[z] at r;exact r)]
     exact r
    |cnt ρ2 M2=>
     rw[eg] at s;obtain ⟨m,hm,hI⟩:=s
     have r:=ih m hm ρ2 M2 hI
     have nb:sWh c bd ρ2 M2≠ .bad:=by intro z;rw[z] at r;exact r
     obtain ⟨j,ej⟩:=Zgp nb
     rw[ZbU (n:=j + 1) (o:=sWh c bd ρ2 M2) (by simp only[whN,ec,eg];exact ej)]
     exact r
    |brk ρ2 M2=>rw[eg] at s;rw[ZbU (n:=1) (o:= .nx ρ2 M2) (by simp only[whN,ec,eg])];exact s
    |ret d M2=>rw[eg] at s;rw[ZbU (n:=1) (o:= .ret d M2) (by simp only[whN,ec,eg])];exact s
    |exc d M2=>rw[eg] at s;rw[ZbU (n:=1) (o:= .exc d M2) (by simp only[whN,ec,eg])];exact s
    |bad=>rw[eg] at s;exact s.elim
theorem ZkA {fi:Ro->Sto->Out Src}{k:Nat}{fr:List Nat}{c:Tv}:wO (Zan fi k fr tg c f ρ M) Q E=wO (fi ρ M) (fun src M1=>wO (Zcg src tg c f M1.length (cnt src M1) 0 (roB k fr ρ) (M1 ++ [.lst []])) (fun _ M2=>Q (.ref M1.length) M2) (fun _ _=>False)) E:=by
 unfold Zan;rw[Zq]
 congr 1
 funext src M1
 cases Zcg src tg c f M1.length (cnt src M1) 0 (roB k fr ρ) (M1 ++ [.lst []])<;>rfl
theorem Zg4 (I:Nat->Ro->Sto->Prop){src:Src}{xs:List D}{c:Tv}{m:Nat}{Q:Sto->Prop}: ∀ (fu i:Nat) (ρ:Ro) (M:Sto),i<=xs.length->xs.length<=i + fu->I i ρ M->(∀ i ρ M,i<=xs.length->I i ρ M->nxt src i M=some xs[i]?)->
  (∀ i ρ M (h:i < xs.length),I i ρ M->wG (tg xs[i] ρ) fun r=>wO (c r M) (fun k M1=>Br k (wO (f r M1) (fun y M2=>wL M2[m]? fun ys=>ys.length < 10000000/\I (i + 1) r (M2.set m (.lst (ys ++ [y])))) (fun _ _=>False)) (I (i + 1) r M1)) (fun _ _=>False))->
  (∀ ρ M,I xs.length ρ M->Q M)->wO (Zcg src tg c f m fu i ρ M) (fun _ M2=>Q M2) (fun _ _=>False):=by
  intro fu
  induction fu with
  |zero=>
   intro i ρ M le e h hm st hn;have hx:=hm _ _ _ le h
   unfold Zcg;rw[hx];have hi: ¬ i < xs.length:=by omega
   have:xs[i]?=none:=List.getElem?_eq_none (by omega)
   simp only[this];exact hn ρ M (by rw[show xs.length=i by omega];exact h)
  |succ fu ih=>
   intro i ρ M le e h hm st hn;have hx:=hm _ _ _ le h
   unfold Zcg;rw[hx]
   by_cases hi:i < xs.length
   ·have:xs[i]?=some xs[i]:=List.getElem?_eq_getElem hi
    simp only[this];have s:=st i ρ M hi h
    cases e:tg xs[i] ρ with
    |none=>rw[e] at s;exact s.elim
    |some ρ1=>
     rw[e] at s;simp only[wG] at s;have rc: ∀ ρ2 M2,I (i + 1) ρ2 M2->wO (Zcg src tg c f m fu (i + 1) ρ2 M2) (fun _ M2=>Q M2) (fun _ _=>False):=fun ρ2 M2 h2=>ih (i + 1) ρ2 M2 (by omega) (by omega) h2 hm st hn
     cases ec:c ρ1 M with
     |bad=>rw[ec] at s;exact s.elim
     |exc _ _=>rw[ec] at s;exact s.elim
     |ok k M1=>
      rw[ec] at s;rw[Zn] at s;cases k with
      |false=>
       rw[Zq3] at s;simp only[ec];exact rc _ _ s
      |true=>
       rw[ZoA] at s;simp only[ec];cases ef:f ρ1 M1 with
       |bad=>rw[ef] at s;exact s.elim
       |exc _ _=>rw[ef] at s;exact s.elim
       |ok y M2=>
        rw[ef,Zn] at s;simp only[ef];cases ey:M2[m]? with
        |none=>rw[ey] at s;exact s.elim
        |some o=>
         cases o with
         |lst ys=>
          rw[ey] at s;simp only[wL,ey] at s ⊢;rw[if_pos s.1];exact rc _ _ s.2
   ·have:xs[i]?=none:=List.getElem?_eq_none (by omega)
    simp only[this];exact hn ρ M (by rw[show xs.length=i by omega];exact h)
end
end DL
end
section
namespace DL
open PySem PySem.Spec PyProof.Rows L2
section
variable {Q:D->Sto->Prop}{E:Str->Sto->Prop}{N B C:Ro->Sto->Prop}{R:D->Sto->Prop}{ρ:Ro}{M:Sto}{f:Ev}{fs:Av}{i j:Int}{n m k:Nat}{x y d:D}{xs ys ds:List D}{lo hi:Ro->Sto->Out (Option Int)}
theorem ZdQ (h: -(18446744073709551616) < i/\i < 18446744073709551616):ZA i j:=Zci h.1 h.2
theorem Zc0 (h: -(18446744073709551616) < j/\j < 18446744073709551616):ZA i j:=Zav h.1 h.2
theorem ZbW (h:0 < j/\j < 18446744073709551616):Z2 j:=by
 refine ⟨by omega,?_⟩
 have:j.natAbs.log2 < 64:=(Nat.log2_lt (by omega)).mpr (by omega)
 omega
theorem Zo8:wO (dAdd (.int i) (.int j) M) Q E=Q (.int (i + j)) M:=rfl
theorem Zo9:wO (dSub (.int i) (.int j) M) Q E=Q (.int (i - j)) M:=rfl
theorem Zjh (h:ZA i j):wO (dMul (.int i) (.int j) M) Q E=Q (.int (i * j)) M:=by
 show wO (if ZA i j then _ else _) Q E=_
 rw[if_pos h];rfl
theorem Zpa (h: -(18446744073709551616) < i/\i < 18446744073709551616):wO (dMul (.int i) (.int j) M) Q E=Q (.int (i * j)) M:=Zjh (ZdQ h)
theorem ZmX (h: -(18446744073709551616) < j/\j < 18446744073709551616):wO (dMul (.int i) (.int j) M) Q E=Q (.int (i * j)) M:=Zjh (Zc0 h)
theorem Zpb (h:0 < j/\j < 18446744073709551616):wO (dDiv (.int i) (.int j) M) Q E=Q (.int (i / j)) M:=by
 show wO (if Z2 j then _ else _) Q E=_
 rw[if_pos (ZbW h),Int.fdiv_eq_ediv_of_nonneg _ (by omega)];rfl
theorem Zpc (h:0 < j):wO (dMod (.int i) (.int j) M) Q E=Q (.int (i % j)) M:=by
 show wO (if j≠0 then _ else _) Q E=_
 rw[if_pos (by omega),Int.fmod_eq_emod_of_nonneg _ (by omega)];rfl
theorem Zpd (h:0<=j/\j<=1000000/\i.natAbs < 18446744073709551616):wO (dPow (.int i) (.int j) M) Q E=Q (.int (i ^ j.toNat)) M:=by
 show wO (if 0<=j/\j<=1000000/\i.natAbs < 2 ^ 64 then _ else _) Q E=_
 rw[if_pos ⟨h.1,h.2.1,by omega⟩];rfl
theorem Zsz:wO (dLt (.int i) (.int j) M) Q E=Q (.bl (decide (i < j))) M:=rfl
theorem ZsA:wO (dLe (.int i) (.int j) M) Q E=Q (.bl (decide (i<=j))) M:=rfl
theorem ZsB:wO (dGt (.int i) (.int j) M) Q E=Q (.bl (decide (j < i))) M:=rfl
theorem ZsC:wO (dGe (.int i) (.int j) M) Q E=Q (.bl (decide (j<=i))) M:=rfl
theorem Zpe:wO (dAdd (.ref n) (.ref m) M) Q E=wL M[n]? fun xs=>wL M[m]? fun ys=>xs.length + ys.length<=10000000/\Q (.ref M.length) (M ++ [.lst (xs ++ ys)]):=by
 show wO (match M[n]?,M[m]? with | some (.lst xs),some (.lst ys)=>_ | _,_=>_) Q E=_
 cases e1:M[n]? with
 |none=>rfl
 |some o=>
  cases o with
  |lst xs=>
   cases e2:M[m]? with
   |none=>rfl
   |some p=>
    cases p with
    |lst ys=>
     by_cases h:xs.length + ys.length<=10000000
     ·simp[wL,h,wO]
     ·simp[wL,h,wO]
theorem ZmY (h:xs.length + ys.length<=100000/\xs≠[]):wO (dAdd (.tup xs) (.tup ys) M) Q E=Q (.tup (xs ++ ys)) M:=by
 show wO (if xs.length + ys.length<=100000/\xs≠[] then _ else _) Q E=_
 rw[if_pos h];rfl
theorem ZsD:wO (dEq x y M) Q E=wG (eqF 12 M x y) fun b=>Q (.bl b) M:=by
 show wO (match eqF 12 M x y with | some b=>_ | none=>_) Q E=_
 cases eqF 12 M x y<;>rfl
theorem ZsE:wO (dNe x y M) Q E=wG (eqF 12 M x y) fun b=>Q (.bl (!b)) M:=by
 show wO (match eqF 12 M x y with | some b=>_ | none=>_) Q E=_
 cases eqF 12 M x y<;>rfl
theorem ZsF:wO (dIs x y M) Q E=wG (isP x y) fun b=>Q (.bl b) M:=by
 show wO (match isP x y with | some b=>_ | none=>_) Q E=_
 cases isP x y<;>rfl
theorem Zpf:wO (Zbo x y M) Q E=wG (isP x y) fun b=>Q (.bl (!b)) M:=by
 show wO (match isP x y with | some b=>_ | none=>_) Q E=_
 cases isP x y<;>rfl
theorem ZkB:wO (atD xs i M) Q E=wG (atI xs i) fun d=>Q d M:=by
 unfold atD;cases atI xs i<;>rfl
theorem Zpg:wO (dIx (.tup xs) (.int i) M) Q E=wG (atI xs i) fun d=>Q d M:=ZkB
theorem Zph:wO (dIx (.rol xs) (.int i) M) Q E=wG (atI xs i) fun d=>Q d M:=ZkB
theorem Zpi:wO (dIx (.ref n) (.int i) M) Q E=wL M[n]? fun xs=>wG (atI xs i) fun d=>Q d M:=by
 show wO (match M[n]? with | some (.lst xs)=>atD xs i M | _=> .bad) Q E=_
 cases e1:M[n]? with
 |none=>rfl
 |some o=>cases o with | lst xs=>exact ZkB
theorem ZmZ:wO (bLen [.ref n] M) Q E=wL M[n]? fun xs=>Q (.int xs.length) M:=by
 show wO (match (match M[n]? with | some (.lst xs)=>some xs | _=>none) with | some xs=>_ | none=>_) Q E=_
 cases e1:M[n]? with
 |none=>rfl
 |some o=>cases o with | lst xs=>rfl
theorem Zm0:wO (bLen [.tup xs] M) Q E=Q (.int xs.length) M:=rfl
theorem Zm1:wO (bLen [.rol xs] M) Q E=Q (.int xs.length) M:=rfl
theorem Zpj:wO (bAbs [.int i] M) Q E=Q (.int (i.natAbs:Int)) M:=by rw[<- ZgY];rfl
theorem Zpk:wO (bMax [.int i,.int j] M) Q E=Q (.int (max i j)) M:=by
 have:max i j=if j > i then j else i:=by split<;>omega
 rw[this];rfl
theorem Zpl:wO (bMin [.int i,.int j] M) Q E=Q (.int (min i j)) M:=by
 have:min i j=if j < i then j else i:=by split<;>omega
 rw[this];rfl
theorem Zm2 {k:Bool}:wO (bInt [.bl k] M) Q E=Q (.int (if k then 1 else 0)) M:=rfl
theorem Zm3:wO (bInt [.int i] M) Q E=Q (.int i) M:=rfl
theorem ZkC:wO (bList [.ref n] M) Q E=wL M[n]? fun xs=>Q (.ref M.length) (M ++ [.lst xs]):=by
 show wO (match (match M[n]? with | some (.lst xs)=>some xs | _=>none) with | some xs=>_ | none=>_) Q E=_
 cases e1:M[n]? with
 |none=>rfl
 |some o=>cases o with | lst xs=>rfl
theorem ZkD:wO (bList [.tup xs] M) Q E=Q (.ref M.length) (M ++ [.lst xs]):=rfl
theorem Zpm:wO (bAll [.ref n] M) Q E=wL M[n]? fun xs=>wG (Z7 xs) fun bs=>Q (.bl (bs.all id)) M:=by
 show wO (match M[n]? with | some (.lst xs)=>(match Z7 xs with | some bs=>Out.ok (.bl (bs.all id)) M | none=> .bad) | none=> .bad) Q E=_
 cases e1:M[n]? with
 |none=>rfl
 |some o=>
  cases o with
  |lst xs=>
   show wO (match Z7 xs with | some bs=>Out.ok (.bl (bs.all id)) M | none=> .bad) Q E=wG (Z7 xs) _
   cases Z7 xs<;>rfl
theorem Zm4 {g:List Int->Option Int}:wO (Zmn g [.ref n] M) Q E=wL M[n]? fun xs=>wG (ZdI xs) fun ns=>wG (g ns) fun i=>Q (.int i) M:=by
 show wO (match (match M[n]? with | some (.lst xs)=>some xs | _=>none) with | some xs=>(match ZdI xs with | some ns=>(match g ns with | some i=>Out.ok (.int i) M | none=> .bad) | none=> .bad) | none=> .bad) Q E=_
 cases e1:M[n]? with
 |none=>rfl
 |some o=>
  cases o with
  |lst xs=>
   show wO (match ZdI xs with | some ns=>(match g ns with | some i=>Out.ok (.int i) M | none=> .bad) | none=> .bad) Q E=wG (ZdI xs) _
   cases ZdI xs with
   |none=>rfl
   |some ns=>
    show wO (match g ns with | some i=>Out.ok (.int i) M | none=> .bad) Q E=wG (g ns) _
    cases g ns<;>rfl
theorem ZsG {g:Me}{fo:Ev}:wO (ZhJ g fo fs ρ M) Q E=wO (fo ρ M) (fun x M1=>Zj8 x M1=true/\wO (fs ρ M1) (fun ds M2=>wO (g x ds M2) Q E) E) E:=by
 unfold ZhJ;rw[Zq]
 congr 1
 funext x M1
 by_cases h:Zj8 x M1=true
 ·simp only[h,if_true,true_and];rw[Zq]
 ·simp[h,wO]
theorem Zm5:Zj8 (.ref n) M=M[n]?.isSome:=rfl
theorem Zpn:wO (mApp (.ref n) [d] M) Q E=wL M[n]? fun xs=>xs.length < 10000000/\Q .non (M.set n (.lst (xs ++ [d]))):=by
 show wO (match M[n]? with | some (.lst xs)=>if xs.length < 10000000 then _ else _ | none=>_) Q E=_
 cases e1:M[n]? with
 |none=>rfl
 |some o=>
  cases o with
  |lst xs=>
   by_cases h:xs.length < 10000000
   ·simp[wL,h,wO]
   ·simp[wL,h,wO]
theorem Zpo:wO (Zq1 (.ref n) [] M) Q E=wL M[n]? fun xs=>Q .non (M.set n (.lst [])):=by
 show wO (match M[n]? with | some (.lst xs)=>_ | none=>_) Q E=_
 cases e1:M[n]? with
 |none=>rfl
 |some o=>cases o with | lst xs=>rfl
theorem Zpp:wO (mExt (.ref n) [.ref m] M) Q E=wL M[n]? fun xs=>wL M[m]? fun ys=>xs.length + ys.length<=10000000/\Q .non (M.set n (.lst (xs ++ ys))):=by
 show wO (match M[n]?,M[m]? with | some (.lst xs),some (.lst ys)=>if xs.length + ys.length<=10000000 then _ else _ | _,_=>_) Q E=_
 cases e1:M[n]? with
 |none=>rfl
 |some o=>
  cases o with
  |lst xs=>
   cases e2:M[m]? with
   |none=>rfl
   |some p=>
    cases p with
    |lst ys=>
     by_cases h:xs.length + ys.length<=10000000
     ·simp[wL,h,wO]
     ·simp[wL,h,wO]
noncomputable def slR (x:D)(l u:Option Int)(M3:Sto):Out D:=match x with
 | .ref n=>(match M3[n]? with | some (.lst xs)=> .ok (.ref M3.length) (M3 ++ [.lst (Zec xs l u)]) | none=> .bad)
 | .rol xs=> .ok (.ref M3.length) (M3 ++ [.lst (Zec xs l u)])
 | .tup xs=>if HT.sIx xs.length 0 l=0/\HT.sIx xs.length xs.length u=xs.length then .bad else .ok (.tup (Zec xs l u)) M3
 |_=> .bad
theorem Zpq:wO (eSl f lo hi ρ M) Q E=wO (f ρ M) (fun x M1=>wO (lo ρ M1) (fun l M2=>wO (hi ρ M2) (fun u M3=>wO (slR x l u M3) Q E) E) E) E:=by
 unfold eSl;rw[Zq]
 congr 1
 funext x M1
 rw[Zq]
 congr 1
 funext l M2
 rw[Zq]
 congr 1
theorem Zpr {l u:Option Int}:wO (slR (.ref n) l u M) Q E=wL M[n]? fun xs=>Q (.ref M.length) (M ++ [.lst (Zec xs l u)]):=by
 unfold slR;cases e1:M[n]? with
 |none=>simp only[e1];rfl
 |some o=>cases o with | lst xs=>simp only[e1];rfl
theorem Zps {Q:Option Int->Sto->Prop}:wO (oSo f ρ M) Q E=wO (f ρ M) (fun x M1=>wI x fun i=>Q (some i) M1) E:=by
 unfold oSo;rw[Zq]
 congr 1
 funext x M1
 cases x<;>rfl
theorem Zm6 (h:0<=i):Zec xs none (some i)=xs.take i.toNat:=by
 unfold Zec;simp only[HT.sIx];rw[if_neg (by omega),List.drop_zero,Nat.sub_zero]
 by_cases c:i.toNat<=xs.length
 ·rw[Nat.min_eq_left c]
 ·rw[Nat.min_eq_right (by omega),List.take_of_length_le (Nat.le_refl _),List.take_of_length_le (by omega)]
theorem Ziv (h:0<=i):Zec xs (some i) none=xs.drop i.toNat:=by
 unfold Zec;simp only[HT.sIx];rw[if_neg (by omega)]
 by_cases c:i.toNat<=xs.length
 ·rw[Nat.min_eq_left c,List.take_of_length_le (by simp)]
 ·rw[Nat.min_eq_right (by omega),List.drop_eq_nil_of_le (Nat.le_refl _),List.drop_eq_nil_of_le (by omega),List.take_nil]
theorem ZdR {L:Sto}:(M ++ L)[M.length]?=L[0]?:=by rw[List.getElem?_append_right (Nat.le_refl _),Nat.sub_self]
theorem Ziw {L:Sto}{i:Nat}:(M ++ L)[M.length + i]?=L[i]?:=by rw[List.getElem?_append_right (by omega)];congr 1;omega
theorem Zbh {L:Sto}(h:n < M.length):(M ++ L)[n]?=M[n]?:=List.getElem?_append_left h
theorem Zji {L:Sto}{o:SO}:(M ++ L).set M.length o=M ++ L.set 0 o:=by rw[List.set_append_right _ _ (Nat.le_refl _),Nat.sub_self]
theorem Zpt {L:Sto}{o:SO}{i:Nat}:(M ++ L).set (M.length + i) o=M ++ L.set i o:=by rw[List.set_append_right _ _ (by omega)];congr 2;omega
theorem Zm7 {o:SO}(h:k≠n):(M.set n o)[k]?=M[k]?:=List.getElem?_set_ne (Ne.symm h)
theorem Zm8 {o:SO}(h:n < M.length):(M.set n o)[n]?=some o:=List.getElem?_set_self h
theorem ZS {o:SO}(h:M[n]?=some o):n < M.length:=(List.getElem?_eq_some_iff.mp h).1
noncomputable abbrev pr (x y:Int):D:= .tup [.int x,.int y]
noncomputable def prs (rs:List (Int × Int)):List D:=rs.map fun p=>pr p.1 p.2
noncomputable def nts (ns:List Int):List D:=ns.map D.int
theorem Zx {rs:List (Int × Int)}:(prs rs).length=rs.length:=List.length_map _
theorem Zc1 {rs:List Int}:(nts rs).length=rs.length:=List.length_map _
theorem ZkE {a b:List (Int × Int)}:prs a ++ prs b=prs (a ++ b):=(List.map_append).symm
theorem ZkF {a b:List Int}:nts a ++ nts b=nts (a ++ b):=(List.map_append).symm
theorem Zix {a:List (Int × Int)}:(prs a).take n=prs (a.take n):=List.map_take.symm
theorem Ziy {a:List (Int × Int)}:(prs a).drop n=prs (a.drop n):=List.map_drop.symm
theorem Ziz {a:List Int}:(nts a).take n=nts (a.take n):=List.map_take.symm
theorem ZiA {a:List Int}:(nts a).drop n=nts (a.drop n):=List.map_drop.symm
theorem ZiB {a b:Int}{r:List (Int × Int)}:pr a b :: prs r=prs ((a,b) :: r):=rfl
theorem ZkG {a:List (Int × Int)}{b c:Int}:(prs a).set n (pr b c)=prs (a.set n (b,c)):=by unfold prs;rw[List.map_set]
theorem ZkH {a:List Int}{b:Int}:(nts a).set n (.int b)=nts (a.set n b):=by unfold nts;rw[List.map_set]
noncomputable def cy (rs:List (Int × Int))(i:Int):Int × Int:=rs.getD (i % rs.length).toNat (0,0)
theorem Zm9 {i:Int}{n:Nat}(h: -(n:Int)<=i/\i < n):ixN n i=some (i % n).toNat:=by
 unfold ixN
 by_cases c:0<=i
 ·rw[if_pos c,if_pos h.2,Int.emod_eq_of_lt c h.2]
 ·rw[if_neg c,if_pos h.1]
  have:i % n=i + n:=by
   rw[<- Int.add_emod_right,Int.emod_eq_of_lt (by omega) (by omega)]
  rw[this]
theorem ZdS {rs:List (Int × Int)}(h: -(rs.length:Int)<=i/\i < rs.length):atI (prs rs) i=some (pr (cy rs i).1 (cy rs i).2):=by
 unfold atI;rw[Zx,Zm9 h];have hp:(i % rs.length).toNat < rs.length:=by
  have:=Int.emod_lt_of_pos i (show (0:Int) < rs.length by omega)
  have:=Int.emod_nonneg i (show (rs.length:Int)≠0 by omega)
  omega
 simp[prs,cy,List.getElem?_eq_getElem hp]
theorem Zck {rs:List (Int × Int)}:cy rs (i % rs.length)=cy rs i:=by unfold cy;rw[Int.emod_emod_of_dvd _ (Int.dvd_refl _)]
theorem Zjj {rs:List (Int × Int)}:cy rs (i + rs.length)=cy rs i:=by unfold cy;rw[Int.add_emod_right]
theorem ZcI {rs:List (Int × Int)}:cy rs (i - rs.length)=cy rs i:=by unfold cy;rw[Int.sub_emod_right]
theorem Zg5 {rs:List (Int × Int)}{k:Nat}(h:k < rs.length):cy rs k=rs[k]:=by
 unfold cy;rw[Int.emod_eq_of_lt (by omega) (by omega)]
 simp[List.getElem?_eq_getElem h]
theorem Zpu {a b:Int}:eqF (n + 1) M (.int a) (.int b)=some (decide (a=b)):=rfl
theorem ZsH {a b:Bool}:eqF (n + 1) M (.bl a) (.bl b)=some (a == b):=rfl
theorem Zq4 {a b c d:Int}:eqF (n + 2) M (pr a b) (pr c d)=some (decide ((a,b)=(c,d))):=by
 show some ((a == c) && ((b == d) && true))=_
 congr 1
 rw[Bool.eq_iff_iff]
 simp
theorem Zna {rs ss:List (Int × Int)}:eqL (eqF (n + 2) M) (prs rs) (prs ss)=some (decide (rs=ss)):=by
 induction rs generalizing ss with
 |nil=>cases ss<;>rfl
 |cons r rs ih=>
  cases ss with
  |nil=>rfl
  |cons s ss=>
   show (match eqF (n + 2) M (pr r.1 r.2) (pr s.1 s.2) with | some a=>(match eqL _ (prs rs) (prs ss) with | some b=>some (a && b) | none=>none) | none=>none)=_
   rw[Zq4,ih];simp only[]
   congr 1
   rw[Bool.eq_iff_iff];obtain ⟨r1,r2⟩:=r
   obtain ⟨s1,s2⟩:=s
   simp
theorem Zpv {xs ys:List D}(h1:M[n]?=some (.lst xs))(h2:M[m]?=some (.lst ys)):eqF (k + 1) M (.ref n) (.ref m)=if xs.length=ys.length then eqL (eqF k M) xs ys else some false:=by
 show (match kd M (.ref n),kd M (.ref m) with | some a,some b=>eqK (eqF k M) a b | _,_=>none)=_
 have e1:kd M (.ref n)=some (.lst xs):=by show (match M[n]? with | some (.lst xs)=>some (Kd.lst xs) | _=>none)=_;rw[h1]
 have e2:kd M (.ref m)=some (.lst ys):=by show (match M[m]? with | some (.lst xs)=>some (Kd.lst xs) | _=>none)=_;rw[h2]
 rw[e1,e2];rfl
theorem Znb {rs ss:List (Int × Int)}(h1:M[n]?=some (.lst (prs rs)))(h2:M[m]?=some (.lst (prs ss))):eqF 12 M (.ref n) (.ref m)=some (decide (rs=ss)):=by
 rw[Zpv h1 h2,Zx,Zx]
 by_cases c:rs.length=ss.length
 ·rw[if_pos c,Zna]
 ·rw[if_neg c]
  congr 1
  symm
  exact decide_eq_false fun z=>c (by rw[z])
theorem Znc:ZL M (.int i)=some "int":=rfl
theorem Zpw {b:Bool}:ZL M (.bl b)=some "bool":=rfl
theorem Znd:ZL M (.tup xs)=some "tuple":=rfl
theorem Zne:ZL M .non=some "NoneType":=rfl
end
end DL
end
section
namespace DL
open PySem PySem.Spec PyProof.Rows L2
section
variable {Q:D->Sto->Prop}{E:Str->Sto->Prop}{N B C:Ro->Sto->Prop}{R:D->Sto->Prop}{ρ:Ro}{M:Sto}{f:Ev}{fs:Av}{i j:Int}{n m k:Nat}{x y z d:D}{xs ys ds:List D}{QS:Src->Sto->Prop}{tg:Tg}{bd:Sv}{b:Bool}
theorem ZkI:wS (Zgq tg fs bd ρ M) N R B C E=wO (fs ρ M) (fun ds M1=>w2 ds fun x y=>wI x fun i=>wI y fun j=>(-(2 ^ 62)<=i/\i < 2 ^ 62/\ -(2 ^ 62)<=j/\j < 2 ^ 62)/\wS (Za6 tg bd (Zbq i (j - i).toNat) ρ M1) N R B C E) E:=by
 unfold Zgq;rw[ZQ]
 congr 1
 funext ds M1
 rcases ds with _ | ⟨v,_ | ⟨w,_ | ⟨w',r⟩⟩⟩
 ·rfl
 ·cases v<;>rfl
 ·cases v<;>try rfl
  cases w<;>try rfl
  rename_i i j
  by_cases h: -(2 ^ 62)<=i/\i < 2 ^ 62/\ -(2 ^ 62)<=j/\j < 2 ^ 62
  ·simp only[w2,wI,eq_true h,true_and,if_true]
  ·simp only[w2,wI,eq_false h,false_and,if_false]
   rfl
 ·cases v<;>cases w<;>rfl
theorem ZsI:wO (iR1 fs ρ M) QS E=wO (fs ρ M) (fun ds M1=>w1 ds fun d=>wI d fun j=>(-(2 ^ 62)<=j/\j < 2 ^ 62)/\QS (.pur (Zbq 0 j.toNat)) M1) E:=by
 unfold iR1;rw[Zq]
 congr 1
 funext ds M1
 rcases ds with _ | ⟨v,_ | ⟨w,r⟩⟩
 ·rfl
 ·cases v<;>try rfl
  rename_i j
  by_cases h: -(2 ^ 62)<=j/\j < 2 ^ 62
  ·simp only[w1,wI,eq_true h,true_and,if_true,Zn]
  ·simp only[w1,wI,eq_false h,false_and,if_false]
   rfl
 ·cases v<;>rfl
theorem ZsJ:wO (iR2 fs ρ M) QS E=wO (fs ρ M) (fun ds M1=>w2 ds fun x y=>wI x fun i=>wI y fun j=>(-(2 ^ 62)<=i/\i < 2 ^ 62/\ -(2 ^ 62)<=j/\j < 2 ^ 62)/\QS (.pur (Zbq i (j - i).toNat)) M1) E:=by
 unfold iR2;rw[Zq]
 congr 1
 funext ds M1
 rcases ds with _ | ⟨v,_ | ⟨w,_ | ⟨w',r⟩⟩⟩
 ·rfl
 ·cases v<;>rfl
 ·cases v<;>try rfl
  cases w<;>try rfl
  rename_i i j
  by_cases h: -(2 ^ 62)<=i/\i < 2 ^ 62/\ -(2 ^ 62)<=j/\j < 2 ^ 62
  ·simp only[w2,wI,eq_true h,true_and,if_true,Zn]
  ·simp only[w2,wI,eq_false h,false_and,if_false]
   rfl
 ·cases v<;>cases w<;>rfl
theorem ZsK:wO (iEn fs ρ M) QS E=wO (fs ρ M) (fun ds M1=>w1 ds fun d=>wR d fun n=>QS (.enu n) M1) E:=by
 unfold iEn;rw[Zq]
 congr 1
 funext ds M1
 rcases ds with _ | ⟨v,_ | ⟨w,r⟩⟩<;>try rfl
 ·cases v<;>rfl
 ·cases v<;>rfl
theorem ZsL:wO (iZp fs ρ M) QS E=wO (fs ρ M) (fun ds M1=>w2 ds fun x y=>wR x fun n=>wR y fun m=>QS (.zip n m) M1) E:=by
 unfold iZp;rw[Zq]
 congr 1
 funext ds M1
 rcases ds with _ | ⟨v,_ | ⟨w,_ | ⟨w',r⟩⟩⟩<;>try rfl
 ·cases v<;>rfl
 ·cases v<;>cases w<;>rfl
 ·cases v<;>cases w<;>rfl
theorem ZsM:wO (iRv fs ρ M) QS E=wO (fs ρ M) (fun ds M1=>w1 ds fun d=>wR d fun n=>wL M1[n]? fun xs=>QS (.rev n xs.length) M1) E:=by
 unfold iRv;rw[Zq]
 congr 1
 funext ds M1
 rcases ds with _ | ⟨v,_ | ⟨w,r⟩⟩<;>try rfl
 ·cases v<;>try rfl
  rename_i n;cases e:M1[n]? with
  |none=>simp only[e];simp only[w1,wR,e];rfl
  |some o=>cases o with | lst xs=>simp only[e,w1,wR];rfl
 ·cases v<;>rfl
noncomputable def Zlf (Q:D->Sto->Prop)(ρ:Ro)(M:Sto):Prop:=Q .non M
theorem wF1:wO (fnF bd 1 k [x] M) Q E=wS (bd (some x :: List.replicate k none) M) (Zlf Q) Q (fun _ _=>False) (fun _ _=>False) E:=wF rfl
theorem wF2:wO (fnF bd 2 k [x,y] M) Q E=wS (bd (some x :: some y :: List.replicate k none) M) (Zlf Q) Q (fun _ _=>False) (fun _ _=>False) E:=wF rfl
theorem wF3:wO (fnF bd 3 k [x,y,z] M) Q E=wS (bd (some x :: some y :: some z :: List.replicate k none) M) (Zlf Q) Q (fun _ _=>False) (fun _ _=>False) E:=wF rfl
theorem wF4:wO (fnF bd 4 k [x,y,z,d] M) Q E=wS (bd (some x :: some y :: some z :: some d :: List.replicate k none) M) (Zlf Q) Q (fun _ _=>False) (fun _ _=>False) E:=wF rfl
theorem ZiC {a:List (Int × Int)}{b c:Int}:prs a ++ [pr b c]=prs (a ++ [(b,c)]):=by simp[prs]
theorem ZiD {a:List Int}{b:Int}:nts a ++ [D.int b]=nts (a ++ [b]):=by simp[nts]
theorem ZiE {b:Int}{r:List Int}:D.int b :: nts r=nts (b :: r):=rfl
theorem Zpx:isP .non .non=some true:=rfl
theorem Zpy:isP (.int i) .non=some false:=rfl
theorem Zpz:isP (.tup xs) .non=some false:=rfl
theorem ZpA:isP (.ref n) .non=some false:=rfl
theorem Zg6 (h:M[n]?=some (.lst xs)):cnt (.sto n) M=xs.length:=by show (match M[n]? with | some (.lst xs)=>xs.length | none=>0)=_;rw[h]
theorem Zg7 (h:M[n]?=some (.lst xs)):cnt (.enu n) M=xs.length:=by show (match M[n]? with | some (.lst xs)=>xs.length | none=>0)=_;rw[h]
theorem at2 {r:List D}:atI (x :: y :: z :: r) 2=some z:=by
 show (ixN (r.length + 3) 2).bind _=_
 unfold ixN;rw[if_pos (by decide),if_pos (by omega)]
 rfl
theorem at3 {r:List D}:atI (x :: y :: z :: d :: r) 3=some d:=by
 show (ixN (r.length + 4) 3).bind _=_
 unfold ixN;rw[if_pos (by decide),if_pos (by omega)]
 rfl
theorem Znf:Za8 "int" "int"=true:=rfl
theorem Zng:Za8 "int" "bool"=false:=rfl
theorem Znh:Za8 "bool" "int"=true:=rfl
theorem Zni:Za8 "bool" "bool"=true:=rfl
theorem Znj:Za8 "tuple" "tuple"=true:=rfl
theorem Znk:Za8 "list" "list"=true:=rfl
theorem Znl:Za8 "tuple" "int"=false:=rfl
theorem Znm:Za8 "tuple" "list"=false:=rfl
theorem Znn:Za8 "list" "tuple"=false:=rfl
theorem Zno:Za8 "list" "int"=false:=rfl
theorem Znp:Za8 "NoneType" "tuple"=false:=rfl
theorem Znq:Za8 "NoneType" "list"=false:=rfl
theorem Zjk (h:M[n]?=some (.lst xs)):nxt (.enu n) k M=some ((xs[k]?).map fun d=>D.tup [.int k,d]):=by
 show (match M[n]? with | some (.lst xs)=>(match xs[k]? with | some x=>some (some (D.tup [.int k,x])) | none=>some none) | none=>none)=_
 rw[h];simp only[];cases xs[k]?<;>rfl
theorem Zjl (h:M[n]?=some (.lst xs)):nxt (.sto n) k M=some xs[k]?:=by
 show (match M[n]? with | some (.lst xs)=>some xs[k]? | none=>none)=_
 rw[h]
section
variable {g:Jv}{bb:Nat}
end
theorem Zg8 (I:Nat->Ro->Sto->Prop)(hM:M[n]?=some (.lst xs))(h0:I 0 ρ M)(hm: ∀ i ρ M,I i ρ M->M[n]?=some (.lst xs))(st: ∀ (i:Nat) ρ M (h:i < xs.length),I i ρ M->wG (tg (.tup [.int i,xs[i]]) ρ) fun r=>wS (bd r M) (I (i + 1)) R N (I (i + 1)) E)(hn: ∀ ρ M,I xs.length ρ M->N ρ M):wS (ZeT tg bd (.enu n) (cnt (.enu n) M) 0 ρ M) N R B C E:=by
 rw[Zg7 hM];have hl:(xs.mapIdx fun (k:Nat) d=>D.tup [.int k,d]).length=xs.length:=by simp
 refine ZmW I (xs:=xs.mapIdx fun (k:Nat) d=>D.tup [.int k,d]) _ 0 ρ M (by simp) (by simp) h0 (fun i ρ M _ hI=> ?_) (fun i ρ M h hI=> ?_) (fun ρ M hI=>hn ρ M (by rw[hl] at hI;exact hI))
 ·rw[Zjk (hm _ _ _ hI),List.getElem?_mapIdx]
 ·rw[List.getElem_mapIdx]
  exact st i ρ M (by rw[hl] at h;exact h) hI
theorem ZkJ {src:Src}(Inv:Ro->Prop)(F:Nat->D){Q:Sto->Prop}(hl:xs.length < 10000000)(hcnt:xs.length<=cnt src M)(h0:Inv ρ)(hs: ∀ (L:Sto) (i:Nat),i<=xs.length->nxt src i (M ++ L)=some xs[i]?)
  (st: ∀ (i:Nat) (h:i < xs.length) (ρ:Ro) (L:Sto),Inv ρ->wG (tg xs[i] ρ) fun r=>Inv r/\wO (f r (M ++ L)) (fun y M2=>y=F i/\M2=M ++ L) (fun _ _=>False)) (hq:Q (M ++ [.lst ((List.range xs.length).map F)])):
  wO (Zcg src tg (fun _ M=> .ok true M) f M.length (cnt src M) 0 ρ (M ++ [.lst []])) (fun _ M2=>Q M2) (fun _ _=>False):=by
 refine Zg4 (fun i ρ M'=>Inv ρ/\M'=M ++ [.lst ((List.range i).map F)]) (xs:=xs) _ 0 ρ _ (by simp) (by omega) ⟨h0,rfl⟩ (fun i ρ M' hi hI=>by rw[hI.2];exact hs _ i hi) (fun i ρ M' h hI=> ?_) (fun ρ M' hI=>by rw[hI.2];exact hq)
 obtain ⟨hI,rfl⟩:=hI
 have s:=st i h ρ [.lst ((List.range i).map F)] hI
 cases e:tg xs[i] ρ with
 |none=>rw[e] at s;exact s.elim
 |some r=>
  rw[e] at s;obtain ⟨hr,s⟩:=s
  show Br true _ _
  rw[ZoA];refine Zcj s (fun y M2 ⟨h1,h2⟩=> ?_) (fun _ _ z=>z)
  subst h1 h2;rw[ZdR];refine ⟨by simp;omega,hr,?_⟩
  rw[Zji,List.range_succ,List.map_append];rfl
theorem ZiF {F G:Nat->Int}:(List.range n).map (fun i=>pr (F i) (G i))=prs ((List.range n).map fun i=>(F i,G i)):=by simp[prs]
end
end DL
end
section
namespace DL
open PySem PySem.Spec PyProof.Rows L2
section
variable {Q:D->Sto->Prop}{E:Str->Sto->Prop}{N B C:Ro->Sto->Prop}{R:D->Sto->Prop}{ρ:Ro}{M:Sto}{f g:Ev}{fs:Av}{i j:Int}{n m k:Nat}{x y z d:D}{xs ys ds:List D}{QL:List D->Sto->Prop}{QB:Bool->Sto->Prop}{QS:Src->Sto->Prop}{tg:Tg}{a bd:Sv}{b:Bool}{t u:Tv}
noncomputable def kU {β γ:Type}(u:β->Sto->Out γ)(Q:γ->Sto->Prop)(E:Str->Sto->Prop)(x:β)(M:Sto):Prop:=wO (u x M) Q E
noncomputable def kQ {β γ:Type}(Q:γ->Sto->Prop)(c:β->γ)(M:Sto)(x:β):Prop:=Q (c x) M
noncomputable def kB2 (op:Bo)(x:D)(Q:D->Sto->Prop)(E:Str->Sto->Prop)(y:D)(M:Sto):Prop:=wO (op x y M) Q E
noncomputable def kB1 (op:Bo)(g:Ev)(ρ:Ro)(Q:D->Sto->Prop)(E:Str->Sto->Prop)(x:D)(M:Sto):Prop:=wO (g ρ M) (kB2 op x Q E) E
theorem ZsN {op:Bo}:wO (e2 op f g ρ M) Q E=wO (f ρ M) (kB1 op g ρ Q E) E:=Zo7
theorem y_c:wO (eC d ρ M) Q E=Q d M:=rfl
theorem y_v:wO (Zf k ρ M) Q E=wV ρ[k]? (kQ Q id M):=Zsy
theorem Znr {F:List D->Sto->Out D}:wO (Zj F fs ρ M) Q E=wO (fs ρ M) (kU F Q E) E:=Zkt
noncomputable def kA2 (x:D)(Q:List D->Sto->Prop)(xs:List D)(M:Sto):Prop:=Q (x :: xs) M
noncomputable def kA1 (fs:Av)(ρ:Ro)(Q:List D->Sto->Prop)(E:Str->Sto->Prop)(x:D)(M:Sto):Prop:=wO (fs ρ M) (kA2 x Q) E
theorem ZpB:wO (aNil ρ M) QL E=QL [] M:=rfl
theorem Zns:wO (Zc f fs ρ M) QL E=wO (f ρ M) (kA1 fs ρ QL E) E:=Zku
noncomputable def kTu (Q:D->Sto->Prop)(xs:List D)(M:Sto):Prop:=xs.length<=1000/\Q (.tup xs) M
noncomputable def kLs (Q:D->Sto->Prop)(xs:List D)(M:Sto):Prop:=xs.length<=1000/\Q (.ref M.length) (M ++ [.lst xs])
theorem ZpC:wO (ZU fs ρ M) Q E=wO (fs ρ M) (kTu Q) E:=ZmN
theorem ZpD:wO (ZbB fs ρ M) Q E=wO (fs ρ M) (kLs Q) E:=ZmO
noncomputable def Zq5 (x:D)(M:Sto):Out D:=match x with | .int i=> .ok (.int (-i)) M | _=> .bad
theorem ZpE:wO (Zda f ρ M) Q E=wO (f ρ M) (kU Zq5 Q E) E:=by unfold Zda;exact Zq
theorem Znt:wO (Zq5 (.int i) M) Q E=Q (.int (-i)) M:=rfl
noncomputable def ZpF (T:String)(x:D)(M:Sto):Out D:=match ZL M x with | some t=> .ok (.bl (Za8 t T)) M | none=> .bad
theorem ZpG {T:String}:wO (ZcE T f ρ M) Q E=wO (f ρ M) (kU (ZpF T) Q E) E:=by unfold ZcE;exact Zq
noncomputable def kTy (T:String)(Q:D->Sto->Prop)(M:Sto)(t:String):Prop:=Q (.bl (Za8 t T)) M
theorem Znu {T:String}:wO (ZpF T x M) Q E=wG (ZL M x) (kTy T Q M):=by unfold ZpF;cases ZL M x<;>rfl
noncomputable def tC (b:Bool):Tv:=fun _ M=> .ok b M
noncomputable def BrO {β:Type}(k:Bool)(f g:Ro->Sto->Out β)(ρ:Ro)(M:Sto)(Q:β->Sto->Prop)(E:Str->Sto->Prop):Prop:=wO ((if k=true then f else g) ρ M) Q E
theorem ZsO {β:Type}{fO gO:Ro->Sto->Out β}{QO:β->Sto->Prop}:BrO true fO gO ρ M QO E=wO (fO ρ M) QO E:=rfl
theorem ZsP {β:Type}{fO gO:Ro->Sto->Out β}{QO:β->Sto->Prop}:BrO false fO gO ρ M QO E=wO (gO ρ M) QO E:=rfl
theorem brO {β:Type}{fO gO:Ro->Sto->Out β}{QO:β->Sto->Prop}{p:Prop}[Decidable p](h1:p->wO (fO ρ M) QO E)(h2: ¬ p->wO (gO ρ M) QO E):BrO (decide p) fO gO ρ M QO E:=by
 by_cases h:p
 ·rw[decide_eq_true h];exact h1 h
 ·rw[decide_eq_false h];exact h2 h
theorem ZsQ {β:Type}{fO gO:Ro->Sto->Out β}{QO:β->Sto->Prop}{p:Prop}[Decidable p](h1: ¬ p->wO (fO ρ M) QO E)(h2:p->wO (gO ρ M) QO E):BrO (!decide p) fO gO ρ M QO E:=by
 by_cases h:p
 ·rw[decide_eq_true h];exact h2 h
 ·rw[decide_eq_false h];exact h1 h
theorem ZkK {β:Type}{fO gO:Ro->Sto->Out β}{QO:β->Sto->Prop}(P:β->Sto->Prop)(h:BrO b fO gO ρ M P E)(hn: ∀ x M,P x M->QO x M):BrO b fO gO ρ M QO E:=by
 cases b
 ·exact Zcj h hn (fun _ _ z=>z)
 ·exact Zcj h hn (fun _ _ z=>z)
noncomputable def kIf (f g:Ev)(ρ:Ro)(Q:D->Sto->Prop)(E:Str->Sto->Prop)(k:Bool)(M:Sto):Prop:=BrO k f g ρ M Q E
theorem ZsR:wO (eIf t f g ρ M) Q E=wO (t ρ M) (kIf f g ρ Q E) E:=by unfold eIf;rw[Zq];congr 1;funext k M1;cases k<;>rfl
noncomputable def Zq6 (g:Ev)(ρ:Ro)(x:D)(M:Sto):Out D:=match x with | .bl k=>if k=true then g ρ M else .ok (.bl false) M | _=> .bad
noncomputable def oOr (g:Ev)(ρ:Ro)(x:D)(M:Sto):Out D:=match x with | .bl k=>if k=true then .ok (.bl true) M else g ρ M | _=> .bad
noncomputable def Zq7 (x:D)(M:Sto):Out D:=match x with | .bl k=> .ok (.bl (!k)) M | _=> .bad
noncomputable def oTv (x:D)(M:Sto):Out Bool:=match x with | .bl k=> .ok k M | _=> .bad
theorem ZpH:wO (Zam f g ρ M) Q E=wO (f ρ M) (kU (Zq6 g ρ) Q E) E:=by unfold Zam;exact Zq
theorem ZsS:wO (Zgh f g ρ M) Q E=wO (f ρ M) (kU (oOr g ρ) Q E) E:=by unfold Zgh;exact Zq
theorem ZpI:wO (Zb0 f ρ M) Q E=wO (f ρ M) (kU Zq7 Q E) E:=by unfold Zb0;exact Zq
theorem Znv:wO (Zq6 g ρ (.bl b) M) Q E=BrO b g (eC (.bl false)) ρ M Q E:=by cases b<;>rfl
theorem ZpJ:wO (oOr g ρ (.bl b) M) Q E=BrO b (eC (.bl true)) g ρ M Q E:=by cases b<;>rfl
theorem Znw:wO (Zq7 (.bl b) M) Q E=Q (.bl (!b)) M:=rfl
theorem ZsT:wO (tv f ρ M) QB E=wO (f ρ M) (kU oTv QB E) E:=by unfold tv;exact Zq
theorem ZpK:wO (oTv (.bl b) M) QB E=QB b M:=rfl
noncomputable def kTA (u:Tv)(ρ:Ro)(Q:Bool->Sto->Prop)(E:Str->Sto->Prop)(k:Bool)(M:Sto):Prop:=BrO k u (tC false) ρ M Q E
noncomputable def kTO (u:Tv)(ρ:Ro)(Q:Bool->Sto->Prop)(E:Str->Sto->Prop)(k:Bool)(M:Sto):Prop:=BrO k (tC true) u ρ M Q E
noncomputable def kTN (Q:Bool->Sto->Prop)(k:Bool)(M:Sto):Prop:=Q (!k) M
theorem ZsU:wO (tC b ρ M) QB E=QB b M:=rfl
theorem Znx:wO (Zbe t u ρ M) QB E=wO (t ρ M) (kTA u ρ QB E) E:=by unfold Zbe;rw[Zq];congr 1;funext k M1;cases k<;>rfl
theorem ZpL:wO (ZcP t u ρ M) QB E=wO (t ρ M) (kTO u ρ QB E) E:=by unfold ZcP;rw[Zq];congr 1;funext k M1;cases k<;>rfl
theorem Zny:wO (Z1 t ρ M) QB E=wO (t ρ M) (kTN QB) E:=ZmP
noncomputable def kSq (b:Sv)(N:Ro->Sto->Prop)(R:D->Sto->Prop)(B C:Ro->Sto->Prop)(E:Str->Sto->Prop)(ρ:Ro)(M:Sto):Prop:=wS (b ρ M) N R B C E
theorem ZpM:wS (Zw a bd ρ M) N R B C E=wS (a ρ M) (kSq bd N R B C E) R B C E:=ZmQ
theorem Znz:wS (sNil ρ M) N R B C E=N ρ M:=rfl
theorem ZpN:wS (Zsa ρ M) N R B C E=B ρ M:=rfl
theorem ZpO:wS (Zsb ρ M) N R B C E=C ρ M:=rfl
theorem ZpP:wS (ZM f ρ M) N R B C E=wO (f ρ M) R E:=ZmR
theorem ZnA:wS (Zdy ρ M) N R B C E=R .non M:=rfl
noncomputable def kDr (ρ:Ro)(N:Ro->Sto->Prop)(d:D)(M:Sto):Prop:=N ρ M
theorem ZnB:wS (ZaO f ρ M) N R B C E=wO (f ρ M) (kDr ρ N) E:=Zkv
noncomputable def BrS (k:Bool)(a b:Sv)(ρ:Ro)(M:Sto)(N:Ro->Sto->Prop)(R:D->Sto->Prop)(B C:Ro->Sto->Prop)(E:Str->Sto->Prop):Prop:=wS ((if k=true then a else b) ρ M) N R B C E
theorem ZsV:BrS true a bd ρ M N R B C E=wS (a ρ M) N R B C E:=rfl
theorem ZsW:BrS false a bd ρ M N R B C E=wS (bd ρ M) N R B C E:=rfl
theorem brS {p:Prop}[Decidable p](h1:p->wS (a ρ M) N R B C E)(h2: ¬ p->wS (bd ρ M) N R B C E):BrS (decide p) a bd ρ M N R B C E:=by
 by_cases h:p
 ·rw[decide_eq_true h];exact h1 h
 ·rw[decide_eq_false h];exact h2 h
theorem ZnC (h1:b=true->wS (a ρ M) N R B C E)(h2:b=false->wS (bd ρ M) N R B C E):BrS b a bd ρ M N R B C E:=by
 cases b
 ·exact h2 rfl
 ·exact h1 rfl
theorem Zq8 (P:Ro->Sto->Prop)(h:BrS b a bd ρ M P R B C E)(hn: ∀ ρ M,P ρ M->N ρ M):BrS b a bd ρ M N R B C E:=by
 cases b
 ·exact Zg1 h hn (fun _ _ z=>z) (fun _ _ z=>z) (fun _ _ z=>z) (fun _ _ z=>z)
 ·exact Zg1 h hn (fun _ _ z=>z) (fun _ _ z=>z) (fun _ _ z=>z) (fun _ _ z=>z)
noncomputable def kSi (a b:Sv)(ρ:Ro)(N:Ro->Sto->Prop)(R:D->Sto->Prop)(B C:Ro->Sto->Prop)(E:Str->Sto->Prop)(k:Bool)(M:Sto):Prop:=BrS k a b ρ M N R B C E
theorem ZpQ:wS (sIf t a bd ρ M) N R B C E=wO (t ρ M) (kSi a bd ρ N R B C E) E:=by unfold sIf;rw[ZQ];congr 1;funext k M1;cases k<;>rfl
noncomputable def kAs (i:Nat)(ρ:Ro)(N:Ro->Sto->Prop)(d:D)(M:Sto):Prop:=N (ρ.set i (some d)) M
theorem ZpR:wS (ZJ (gNm k) f ρ M) N R B C E=wO (f ρ M) (kAs k ρ N) E:=ZmS
noncomputable def kAt (gs:Tgs)(ρ:Ro)(N:Ro->Sto->Prop)(d:D)(M:Sto):Prop:=wG (gTp gs d ρ) (kQ N id M)
theorem ZnD {gs:Tgs}:wS (ZJ (gTp gs) f ρ M) N R B C E=wO (f ρ M) (kAt gs ρ N) E:=Zkw
noncomputable def Zq9 (i j:Nat)(ρ:Ro)(N:Ro->Sto->Prop)(M:Sto)(v w:D):Prop:=N ((ρ.set i (some v)).set j (some w)) M
noncomputable def kPa (i j:Nat)(ρ:Ro)(N:Ro->Sto->Prop)(ds:List D)(M:Sto):Prop:=w2 ds (Zq9 i j ρ N M)
theorem ZpS:wS (Zb5 k m fs ρ M) N R B C E=wO (fs ρ M) (kPa k m ρ N) E:=ZmT
noncomputable def Zra (n:Nat)(d:D)(xs:List D)(ρ:Ro)(N:Ro->Sto->Prop)(M:Sto)(j:Nat):Prop:=N ρ (M.set n (.lst (xs.set j d)))
noncomputable def Zrb (n:Nat)(k:Int)(d:D)(ρ:Ro)(N:Ro->Sto->Prop)(M:Sto)(xs:List D):Prop:=wG (ixN xs.length k) (Zra n d xs ρ N M)
noncomputable def Zrc (n:Nat)(d:D)(ρ:Ro)(N:Ro->Sto->Prop)(M:Sto)(k:Int):Prop:=wL M[n]? (Zrb n k d ρ N M)
noncomputable def Zrd (i:D)(d:D)(ρ:Ro)(N:Ro->Sto->Prop)(M:Sto)(n:Nat):Prop:=wI i (Zrc n d ρ N M)
noncomputable def Zre (o:D)(d:D)(ρ:Ro)(N:Ro->Sto->Prop)(i:D)(M:Sto):Prop:=wR o (Zrd i d ρ N M)
noncomputable def Zrf (fi:Ev)(d:D)(ρ:Ro)(N:Ro->Sto->Prop)(E:Str->Sto->Prop)(o:D)(M:Sto):Prop:=wO (fi ρ M) (Zre o d ρ N) E
noncomputable def kPu (fo fi:Ev)(ρ:Ro)(N:Ro->Sto->Prop)(E:Str->Sto->Prop)(d:D)(M:Sto):Prop:=wO (fo ρ M) (Zrf fi d ρ N E) E
theorem ZpT {fo fi:Ev}:wS (Zd9 fo fi f ρ M) N R B C E=wO (f ρ M) (kPu fo fi ρ N E) E:=ZmU
noncomputable def kRa (c:Str)(E:Str->Sto->Prop)(ds:List D)(M:Sto):Prop:=ds.length<=1000/\E c M
theorem ZkL {c:Str}:wS (Zat c fs ρ M) N R B C E=wO (fs ρ M) (kRa c E) E:=Zit
noncomputable def Zrg (tg:Tg)(bd:Sv)(ρ:Ro)(N:Ro->Sto->Prop)(R:D->Sto->Prop)(B C:Ro->Sto->Prop)(E:Str->Sto->Prop)(M:Sto)(j:Int):Prop:=(-(2 ^ 62)<=j/\j < 2 ^ 62)/\wS (Za6 tg bd (Zbq 0 j.toNat) ρ M) N R B C E
noncomputable def Zrh (tg:Tg)(bd:Sv)(ρ:Ro)(N:Ro->Sto->Prop)(R:D->Sto->Prop)(B C:Ro->Sto->Prop)(E:Str->Sto->Prop)(M:Sto)(d:D):Prop:=wI d (Zrg tg bd ρ N R B C E M)
noncomputable def kR1 (tg:Tg)(bd:Sv)(ρ:Ro)(N:Ro->Sto->Prop)(R:D->Sto->Prop)(B C:Ro->Sto->Prop)(E:Str->Sto->Prop)(ds:List D)(M:Sto):Prop:=w1 ds (Zrh tg bd ρ N R B C E M)
theorem ZnE:wS (Zba tg fs bd ρ M) N R B C E=wO (fs ρ M) (kR1 tg bd ρ N R B C E) E:=Zkx
noncomputable def Zri (tg:Tg)(bd:Sv)(ρ:Ro)(N:Ro->Sto->Prop)(R:D->Sto->Prop)(B C:Ro->Sto->Prop)(E:Str->Sto->Prop)(M:Sto)(i:Int)(j:Int):Prop:=(-(2 ^ 62)<=i/\i < 2 ^ 62/\ -(2 ^ 62)<=j/\j < 2 ^ 62)/\wS (Za6 tg bd (Zbq i (j - i).toNat) ρ M) N R B C E
noncomputable def Zrj (tg:Tg)(bd:Sv)(ρ:Ro)(N:Ro->Sto->Prop)(R:D->Sto->Prop)(B C:Ro->Sto->Prop)(E:Str->Sto->Prop)(M:Sto)(y:D)(i:Int):Prop:=wI y (Zri tg bd ρ N R B C E M i)
noncomputable def Zrk (tg:Tg)(bd:Sv)(ρ:Ro)(N:Ro->Sto->Prop)(R:D->Sto->Prop)(B C:Ro->Sto->Prop)(E:Str->Sto->Prop)(M:Sto)(x y:D):Prop:=wI x (Zrj tg bd ρ N R B C E M y)
noncomputable def kR2 (tg:Tg)(bd:Sv)(ρ:Ro)(N:Ro->Sto->Prop)(R:D->Sto->Prop)(B C:Ro->Sto->Prop)(E:Str->Sto->Prop)(ds:List D)(M:Sto):Prop:=w2 ds (Zrk tg bd ρ N R B C E M)
theorem ZnF:wS (Zgq tg fs bd ρ M) N R B C E=wO (fs ρ M) (kR2 tg bd ρ N R B C E) E:=ZkI
noncomputable def kFo (tg:Tg)(bd:Sv)(ρ:Ro)(N:Ro->Sto->Prop)(R:D->Sto->Prop)(B C:Ro->Sto->Prop)(E:Str->Sto->Prop)(d:D)(M:Sto):Prop:=wS (Zi4 tg bd d ρ M) N R B C E
theorem ZpU:wS (Zl7 tg f bd ρ M) N R B C E=wO (f ρ M) (kFo tg bd ρ N R B C E) E:=ZmV
theorem ZnG:wS (Zi4 tg bd (.tup xs) ρ M) N R B C E=wS (Za6 tg bd xs ρ M) N R B C E:=rfl
theorem ZnH:wS (Zi4 tg bd (.rol xs) ρ M) N R B C E=wS (Za6 tg bd xs ρ M) N R B C E:=rfl
noncomputable def kFs (tg:Tg)(bd:Sv)(ρ:Ro)(N:Ro->Sto->Prop)(R:D->Sto->Prop)(B C:Ro->Sto->Prop)(E:Str->Sto->Prop)(src:Src)(M:Sto):Prop:=wS (ZeT tg bd src (cnt src M) 0 ρ M) N R B C E
theorem ZnI {fi:Ro->Sto->Out Src}:wS (Zed tg fi bd ρ M) N R B C E=wO (fi ρ M) (kFs tg bd ρ N R B C E) E:=Zkz
noncomputable def hT (cs:List Str)(gh:Sv)(W:List Bool)(i:Nat)(ρ:Ro)(c:Str)(M:Sto):Fl:=if cs.contains c=true then (match gh ((kpR W ρ).set i (some (.err c (fsE c M)))) (stE c M) with | .ret d M2=> .ret d M2 | .nx _ M2=> .nx (List.replicate ρ.length none) M2 | _=> .bad) else .bad
noncomputable def kTr (cs:List Str)(gh:Sv)(W:List Bool)(i:Nat)(ρ:Ro)(N:Ro->Sto->Prop)(R:D->Sto->Prop)(B C:Ro->Sto->Prop)(E:Str->Sto->Prop)(c:Str)(M:Sto):Prop:=cs.contains c=true/\wS (gh ((kpR W ρ).set i (some (.err c (fsE c M)))) (stE c M)) (fun _ M2=>N (List.replicate ρ.length none) M2) R (fun _ _=>False) (fun _ _=>False) (fun _ _=>False)
theorem ZpV {cs:List Str}{W:List Bool}{gh:Sv}:wS (Zq0 a cs W k gh ρ M) N R B C E=wS (a ρ M) N R B C (kTr cs gh W k ρ N R B C E):=by
 unfold Zq0;cases e:a ρ M<;>try rfl
 rename_i c M1;show wS (if cs.contains c=true then _ else _) N R B C E=kTr cs gh W k ρ N R B C E c M1
 unfold kTr
 by_cases h:cs.contains c=true
 ·rw[if_pos h]
  simp only[h,true_and];cases gh ((kpR W ρ).set k (some (.err c (fsE c M1)))) (stE c M1)<;>rfl
 ·rw[if_neg h]
  simp only[h,Bool.false_eq_true,false_and];rfl
theorem Zfp:fsE (PySem.Str.ofString "NoRatio") M=[]:=Zbt (by decide +kernel)
theorem Zfq:stE (PySem.Str.ofString "NoRatio") M=M:=Zbf (by decide +kernel)
theorem ZdT:fsE (PySem.Str.ofString "NoTurning") M=[]:=Zbt (by decide +kernel)
theorem ZdU:stE (PySem.Str.ofString "NoTurning") M=M:=Zbf (by decide +kernel)
theorem ZdV:fsE (PySem.Str.ofString "NotSmooth") M=[]:=Zbt (by decide +kernel)
theorem ZdW:stE (PySem.Str.ofString "NotSmooth") M=M:=Zbf (by decide +kernel)
theorem Zfr:fsE (PySem.Str.ofString "NoWedge") M=[]:=Zbt (by decide +kernel)
theorem Zfs:stE (PySem.Str.ofString "NoWedge") M=M:=Zbf (by decide +kernel)
theorem ZiG:fsE (PySem.Str.ofString "NoRow") M=[]:=Zbt (by decide +kernel)
theorem ZiH:stE (PySem.Str.ofString "NoRow") M=M:=Zbf (by decide +kernel)
theorem Zft:fsE (PySem.Str.ofString "NoPlace") M=[]:=Zbt (by decide +kernel)
theorem Zfu:stE (PySem.Str.ofString "NoPlace") M=M:=Zbf (by decide +kernel)
theorem Zfv:fsE (PySem.Str.ofString "NoMinus") M=[]:=Zbt (by decide +kernel)
theorem Zfw:stE (PySem.Str.ofString "NoMinus") M=M:=Zbf (by decide +kernel)
theorem Zg9:fsE (PySem.Str.ofString "NoFour") M=[]:=Zbt (by decide +kernel)
theorem Zha:stE (PySem.Str.ofString "NoFour") M=M:=Zbf (by decide +kernel)
theorem Zej:fsE (PySem.Str.ofString "NoHeight") M=[]:=Zbt (by decide +kernel)
theorem Zek:stE (PySem.Str.ofString "NoHeight") M=M:=Zbf (by decide +kernel)
theorem Zhb:fsE (PySem.Str.ofString "NoBend") M=[]:=Zbt (by decide +kernel)
theorem Zhc:stE (PySem.Str.ofString "NoBend") M=M:=Zbf (by decide +kernel)
theorem Zhd:fsE (PySem.Str.ofString "NoBody") M=[]:=Zbt (by decide +kernel)
theorem Zhe:stE (PySem.Str.ofString "NoBody") M=M:=Zbf (by decide +kernel)
theorem ZiI:fsE (PySem.Str.ofString "NoOne") M=[]:=Zbt (by decide +kernel)
theorem ZiJ:stE (PySem.Str.ofString "NoOne") M=M:=Zbf (by decide +kernel)
theorem Zhf:fsE (PySem.Str.ofString "NoText") M=[]:=Zbt (by decide +kernel)
theorem Zhg:stE (PySem.Str.ofString "NoText") M=M:=Zbf (by decide +kernel)
theorem Zfx:fsE (PySem.Str.ofString "Unknown") M=[]:=Zbt (by decide +kernel)
theorem Zfy:stE (PySem.Str.ofString "Unknown") M=M:=Zbf (by decide +kernel)
theorem Zfz:fsE (PySem.Str.ofString "NoRound") (M ++ [.lst xs])=xs:=ZoV (by decide +kernel)
theorem ZfA:stE (PySem.Str.ofString "NoRound") (M ++ [.lst xs])=M:=Zmj (by decide +kernel)
noncomputable def ZsX (Q:D->Sto->Prop)(M1:Sto)(u:Unit)(M:Sto):Prop:=Q (.ref M1.length) M
noncomputable def kCo (tg:Tg)(c:Tv)(f:Ev)(k:Nat)(fr:List Nat)(ρ:Ro)(Q:D->Sto->Prop)(src:Src)(M:Sto):Prop:=wO (Zcg src tg c f M.length (cnt src M) 0 (roB k fr ρ) (M ++ [.lst []])) (ZsX Q M) (fun _ _=>False)
theorem ZnJ {fi:Ro->Sto->Out Src}{fr:List Nat}:wO (Zan fi k fr tg t f ρ M) Q E=wO (fi ρ M) (kCo tg t f k fr ρ Q) E:=ZkA
noncomputable def Zrl (QS:Src->Sto->Prop)(M:Sto)(j:Int):Prop:=(-(2 ^ 62)<=j/\j < 2 ^ 62)/\QS (.pur (Zbq 0 j.toNat)) M
noncomputable def Zrm (QS:Src->Sto->Prop)(M:Sto)(d:D):Prop:=wI d (Zrl QS M)
noncomputable def kS1 (QS:Src->Sto->Prop)(ds:List D)(M:Sto):Prop:=w1 ds (Zrm QS M)
theorem ZsY:wO (iR1 fs ρ M) QS E=wO (fs ρ M) (kS1 QS) E:=ZsI
noncomputable def Zrn (QS:Src->Sto->Prop)(M:Sto)(i:Int)(j:Int):Prop:=(-(2 ^ 62)<=i/\i < 2 ^ 62/\ -(2 ^ 62)<=j/\j < 2 ^ 62)/\QS (.pur (Zbq i (j - i).toNat)) M
noncomputable def Zro (QS:Src->Sto->Prop)(M:Sto)(y:D)(i:Int):Prop:=wI y (Zrn QS M i)
noncomputable def Zrp (QS:Src->Sto->Prop)(M:Sto)(x y:D):Prop:=wI x (Zro QS M y)
noncomputable def kS2 (QS:Src->Sto->Prop)(ds:List D)(M:Sto):Prop:=w2 ds (Zrp QS M)
theorem ZsZ:wO (iR2 fs ρ M) QS E=wO (fs ρ M) (kS2 QS) E:=ZsJ
noncomputable def oSq (d:D)(M:Sto):Out Src:=match d with | .tup ds=> .ok (.pur ds) M | .rol ds=> .ok (.pur ds) M | .con ds=> .ok (.pur ds) M | .ref n=> .ok (.sto n) M | _=> .bad
theorem Zs0:wO (iSq f ρ M) QS E=wO (f ρ M) (kU oSq QS E) E:=by unfold iSq;exact Zq
theorem ZpW:wO (oSq (.tup xs) M) QS E=QS (.pur xs) M:=rfl
theorem ZpX:wO (oSq (.rol xs) M) QS E=QS (.pur xs) M:=rfl
theorem ZpY:wO (oSq (.ref n) M) QS E=QS (.sto n) M:=rfl
noncomputable def Zrq (QS:Src->Sto->Prop)(M:Sto)(d:D):Prop:=wR d (kQ QS .enu M)
noncomputable def kEn (QS:Src->Sto->Prop)(ds:List D)(M:Sto):Prop:=w1 ds (Zrq QS M)
theorem Zs1:wO (iEn fs ρ M) QS E=wO (fs ρ M) (kEn QS) E:=ZsK
noncomputable def Zrr (QS:Src->Sto->Prop)(M:Sto)(y:D)(n:Nat):Prop:=wR y (kQ QS (.zip n) M)
noncomputable def Zrs (QS:Src->Sto->Prop)(M:Sto)(x y:D):Prop:=wR x (Zrr QS M y)
noncomputable def kZp (QS:Src->Sto->Prop)(ds:List D)(M:Sto):Prop:=w2 ds (Zrs QS M)
theorem Zs2:wO (iZp fs ρ M) QS E=wO (fs ρ M) (kZp QS) E:=ZsL
noncomputable def Zrt (QS:Src->Sto->Prop)(n:Nat)(M:Sto)(xs:List D):Prop:=QS (.rev n xs.length) M
noncomputable def Zru (QS:Src->Sto->Prop)(M:Sto)(n:Nat):Prop:=wL M[n]? (Zrt QS n M)
noncomputable def Zrv (QS:Src->Sto->Prop)(M:Sto)(d:D):Prop:=wR d (Zru QS M)
noncomputable def kRv (QS:Src->Sto->Prop)(ds:List D)(M:Sto):Prop:=w1 ds (Zrv QS M)
theorem Zs3:wO (iRv fs ρ M) QS E=wO (fs ρ M) (kRv QS) E:=ZsM
noncomputable def ZnK (xs:List D)(M:Sto)(Q:D->Sto->Prop)(ys:List D):Prop:=xs.length + ys.length<=10000000/\Q (.ref M.length) (M ++ [.lst (xs ++ ys)])
noncomputable def Zrw (m:Nat)(M:Sto)(Q:D->Sto->Prop)(xs:List D):Prop:=wL M[m]? (ZnK xs M Q)
theorem ZpZ:wO (dAdd (.ref n) (.ref m) M) Q E=wL M[n]? (Zrw m M Q):=Zpe
noncomputable def ZoB (i:Int)(M:Sto)(Q:D->Sto->Prop)(xs:List D):Prop:=((-9223372036854775808<=i/\i < 9223372036854775808)/\xs.length * i.toNat<=100000)/\Q (.ref M.length) (M ++ [.lst (List.replicate i.toNat xs).flatten])
theorem Zp0:wO (Zsl (.ref n) (.int i) M) Q E=wL M[n]? (ZoB i M Q):=by
 show wO (match M[n]? with | some (.lst xs)=>if (-9223372036854775808<=i/\i < 9223372036854775808)/\xs.length * i.toNat<=100000 then Out.ok (.ref M.length) (M ++ [.lst (List.replicate i.toNat xs).flatten]) else .bad | none=> .bad) Q E=_
 cases e1:M[n]? with
 |none=>rfl
 |some o=>
  cases o with
  |lst xs=>
   show wO (if (-9223372036854775808<=i/\i < 9223372036854775808)/\xs.length * i.toNat<=100000 then Out.ok (.ref M.length) (M ++ [.lst (List.replicate i.toNat xs).flatten]) else .bad) Q E=ZoB i M Q xs
   unfold ZoB
   by_cases h:(-9223372036854775808<=i/\i < 9223372036854775808)/\xs.length * i.toNat<=100000
   ·rw[if_pos h];simp only[eq_true h,true_and];rfl
   ·rw[if_neg h];simp only[eq_false h,false_and];rfl
noncomputable def kEq (Q:D->Sto->Prop)(M:Sto)(b:Bool):Prop:=Q (.bl b) M
noncomputable def kNe (Q:D->Sto->Prop)(M:Sto)(b:Bool):Prop:=Q (.bl (!b)) M
theorem Zs4:wO (dEq x y M) Q E=wG (eqF 12 M x y) (kEq Q M):=ZsD
theorem Zs5:wO (dNe x y M) Q E=wG (eqF 12 M x y) (kNe Q M):=ZsE
theorem Zs6:wO (dIs x y M) Q E=wG (isP x y) (kEq Q M):=ZsF
theorem Zp1:wO (Zbo x y M) Q E=wG (isP x y) (kNe Q M):=Zpf
theorem Zp2:wO (Zq2 x y M) Q E=wG (inE x y M) (kEq Q M):=by unfold Zq2;cases inE x y M<;>rfl
theorem ZiK:wO (ZgD x y M) Q E=wG (inE x y M) (kNe Q M):=by unfold ZgD;cases inE x y M<;>rfl
theorem Zp3:wO (dIx (.tup xs) (.int i) M) Q E=wG (atI xs i) (kQ Q id M):=Zpg
theorem Zp4:wO (dIx (.rol xs) (.int i) M) Q E=wG (atI xs i) (kQ Q id M):=Zph
noncomputable def kIx (i:Int)(Q:D->Sto->Prop)(M:Sto)(xs:List D):Prop:=wG (atI xs i) (kQ Q id M)
theorem Zp5:wO (dIx (.ref n) (.int i) M) Q E=wL M[n]? (kIx i Q M):=Zpi
noncomputable def Zrx (Q:D->Sto->Prop)(M:Sto)(xs:List D):Prop:=Q (.int xs.length) M
theorem ZnL:wO (bLen [.ref n] M) Q E=wL M[n]? (Zrx Q M):=ZmZ
noncomputable def kLi (Q:D->Sto->Prop)(M:Sto)(xs:List D):Prop:=Q (.ref M.length) (M ++ [.lst xs])
theorem ZkM:wO (bList [.ref n] M) Q E=wL M[n]? (kLi Q M):=ZkC
noncomputable def Zry (Q:D->Sto->Prop)(M:Sto)(bs:List Bool):Prop:=Q (.bl (bs.all id)) M
noncomputable def kAl (Q:D->Sto->Prop)(M:Sto)(xs:List D):Prop:=wG (Z7 xs) (Zry Q M)
theorem Zp6:wO (bAll [.ref n] M) Q E=wL M[n]? (kAl Q M):=Zpm
noncomputable def Zrz (g:List Int->Option Int)(Q:D->Sto->Prop)(M:Sto)(ns:List Int):Prop:=wG (g ns) (kQ Q .int M)
noncomputable def ZrA (g:List Int->Option Int)(Q:D->Sto->Prop)(M:Sto)(xs:List D):Prop:=wG (ZdI xs) (Zrz g Q M)
theorem ZnM {gi:List Int->Option Int}:wO (Zmn gi [.ref n] M) Q E=wL M[n]? (ZrA gi Q M):=Zm4
noncomputable def kMt (g:Me)(fs:Av)(ρ:Ro)(Q:D->Sto->Prop)(E:Str->Sto->Prop)(x:D)(M:Sto):Prop:=Zj8 x M=true/\wO (fs ρ M) (kU (g x) Q E) E
theorem Zs7 {me:Me}{fo:Ev}:wO (ZhJ me fo fs ρ M) Q E=wO (fo ρ M) (kMt me fs ρ Q E) E:=ZsG
noncomputable def ZrB (n:Nat)(d:D)(Q:D->Sto->Prop)(M:Sto)(xs:List D):Prop:=xs.length < 10000000/\Q .non (M.set n (.lst (xs ++ [d])))
theorem Zp7:wO (mApp (.ref n) [d] M) Q E=wL M[n]? (ZrB n d Q M):=Zpn
noncomputable def ZrC (n:Nat)(Q:D->Sto->Prop)(M:Sto)(xs:List D):Prop:=Q .non (M.set n (.lst []))
theorem Zp8:wO (Zq1 (.ref n) [] M) Q E=wL M[n]? (ZrC n Q M):=Zpo
noncomputable def ZnN (n:Nat)(xs:List D)(Q:D->Sto->Prop)(M:Sto)(ys:List D):Prop:=xs.length + ys.length<=10000000/\Q .non (M.set n (.lst (xs ++ ys)))
noncomputable def ZrD (n m:Nat)(Q:D->Sto->Prop)(M:Sto)(xs:List D):Prop:=wL M[m]? (ZnN n xs Q M)
theorem Zp9:wO (mExt (.ref n) [.ref m] M) Q E=wL M[n]? (ZrD n m Q M):=Zpp
noncomputable def ZkN (Q:D->Sto->Prop)(M:Sto)(bs:List Bool):Prop:=wG (bs.findIdx? id) (kQ Q (fun (j:Nat)=> .int j) M)
noncomputable def ZrE (d:D)(Q:D->Sto->Prop)(M:Sto)(xs:List D):Prop:=wG (eqs M d xs) (ZkN Q M)
theorem Zqa:wO (Zsj (.ref n) [d] M) Q E=wL M[n]? (ZrE d Q M):=by
 show wO (match M[n]? with | some (.lst xs)=>(match eqs M d xs with | some bs=>(match bs.findIdx? id with | some j=>Out.ok (.int (j:Nat)) M | none=> .bad) | none=> .bad) | none=> .bad) Q E=_
 cases e1:M[n]? with
 |none=>rfl
 |some o=>
  cases o with
  |lst xs=>
   show wO (match eqs M d xs with | some bs=>(match bs.findIdx? id with | some j=>Out.ok (.int (j:Nat)) M | none=> .bad) | none=> .bad) Q E=wG (eqs M d xs) (ZkN Q M)
   cases eqs M d xs with
   |none=>rfl
   |some bs=>
    show wO (match bs.findIdx? id with | some j=>Out.ok (.int (j:Nat)) M | none=> .bad) Q E=wG (bs.findIdx? id) _
    cases bs.findIdx? id<;>rfl
noncomputable def kCn (Q:D->Sto->Prop)(M:Sto)(bs:List Bool):Prop:=Q (.int (bs.countP id:Nat)) M
noncomputable def ZrF (d:D)(Q:D->Sto->Prop)(M:Sto)(xs:List D):Prop:=wG (eqs M d xs) (kCn Q M)
theorem ZnO:wO (Zsk (.ref n) [d] M) Q E=wL M[n]? (ZrF d Q M):=by
 show wO (match M[n]? with | some (.lst xs)=>(match eqs M d xs with | some bs=>Out.ok (.int (bs.countP id:Nat)) M | none=> .bad) | none=> .bad) Q E=_
 cases e1:M[n]? with
 |none=>rfl
 |some o=>
  cases o with
  |lst xs=>
   show wO (match eqs M d xs with | some bs=>Out.ok (.int (bs.countP id:Nat)) M | none=> .bad) Q E=wG (eqs M d xs) (kCn Q M)
   cases eqs M d xs<;>rfl
noncomputable def ZrG (l u:Option Int)(Q:D->Sto->Prop)(M:Sto)(xs:List D):Prop:=Q (.ref M.length) (M ++ [.lst (Zec xs l u)])
noncomputable def ZrH (x:D)(l:Option Int)(Q:D->Sto->Prop)(E:Str->Sto->Prop)(u:Option Int)(M:Sto):Prop:=wO (slR x l u M) Q E
noncomputable def ZrI (x:D)(hi:Ro->Sto->Out (Option Int))(ρ:Ro)(Q:D->Sto->Prop)(E:Str->Sto->Prop)(l:Option Int)(M:Sto):Prop:=wO (hi ρ M) (ZrH x l Q E) E
noncomputable def ZrJ (lo hi:Ro->Sto->Out (Option Int))(ρ:Ro)(Q:D->Sto->Prop)(E:Str->Sto->Prop)(x:D)(M:Sto):Prop:=wO (lo ρ M) (ZrI x hi ρ Q E) E
theorem Zs8 {lo hi:Ro->Sto->Out (Option Int)}:wO (eSl f lo hi ρ M) Q E=wO (f ρ M) (ZrJ lo hi ρ Q E) E:=Zpq
theorem Zqb {l u':Option Int}:wO (slR (.ref n) l u' M) Q E=wL M[n]? (ZrG l u' Q M):=Zpr
theorem Zqc {QI:Option Int->Sto->Prop}:wO (oNo ρ M) QI E=QI none M:=rfl
noncomputable def ZrK (Q:Option Int->Sto->Prop)(x:D)(M:Sto):Prop:=wI x (kQ Q some M)
theorem Zqd {QI:Option Int->Sto->Prop}:wO (oSo f ρ M) QI E=wO (f ρ M) (ZrK QI) E:=Zps
noncomputable def oRv (x:D)(M1:Sto):Out D:=match x with | .tup xs=> .ok (.tup xs.reverse) M1 | .ref n=>(match M1[n]? with | some (.lst xs)=> .ok (.ref M1.length) (M1 ++ [.lst xs.reverse]) | none=> .bad) | .rol xs=> .ok (.ref M1.length) (M1 ++ [.lst xs.reverse]) | _=> .bad
theorem Zs9:wO (eRv f ρ M) Q E=wO (f ρ M) (kU oRv Q E) E:=by unfold eRv;exact Zq
noncomputable def ZrL (Q:D->Sto->Prop)(M:Sto)(xs:List D):Prop:=Q (.ref M.length) (M ++ [.lst xs.reverse])
theorem Zqe:wO (oRv (.ref n) M) Q E=wL M[n]? (ZrL Q M):=by show wO (match M[n]? with | some (.lst xs)=>Out.ok (.ref M.length) (M ++ [.lst xs.reverse]) | none=> .bad) Q E=_;cases M[n]? with | none=>rfl | some o=>cases o with | lst xs=>rfl
theorem Zqf:wO (oRv (.tup xs) M) Q E=Q (.tup xs.reverse) M:=rfl
noncomputable def ZrM (tab:List (Str × Bool))(x:D)(M:Sto):Out D:=match x with | .err c _=>(match tab.lookup c with | some b=> .ok (.bl b) M | none=> .bad) | _=> .bad
theorem Zqg {tab:List (Str × Bool)}:wO (ZqZ tab f ρ M) Q E=wO (f ρ M) (kU (ZrM tab) Q E) E:=by unfold ZqZ;exact Zq
theorem ZnP {tab:List (Str × Bool)}{c:Str}:wO (ZrM tab (.err c xs) M) Q E=wG (tab.lookup c) (kEq Q M):=by show wO (match tab.lookup c with | some b=>Out.ok (.bl b) M | none=> .bad) Q E=_;cases tab.lookup c<;>rfl
noncomputable def kWh (bd:Sv)(ρ:Ro)(I:Ro->Sto->Prop)(N:Ro->Sto->Prop)(R:D->Sto->Prop)(B C:Ro->Sto->Prop)(E:Str->Sto->Prop)(k:Bool)(M:Sto):Prop:=Br k (wS (bd ρ M) I R N I E) (N ρ M)
theorem ZkO {c:Tv}(I:Nat->Ro->Sto->Prop)(st: ∀ n ρ M,I n ρ M->wO (c ρ M) (kWh bd ρ (fun ρ2 M2=> ∃ m,m < n/\I m ρ2 M2) N R B C E) E)(n:Nat)(ρ:Ro)(M:Sto)(h:I n ρ M):wS (sWh c bd ρ M) N R B C E:=Ziu I st n ρ M h
theorem ZnQ {I:Ro->Sto->Prop}{p:Prop}[Decidable p](h1: ¬ p->wS (bd ρ M) I R N I E)(h2:p->N ρ M):kWh bd ρ I N R B C E (!decide p) M:=brN h1 h2
theorem Zqh {I:Ro->Sto->Prop}{p:Prop}[Decidable p](h1:p->wS (bd ρ M) I R N I E)(h2: ¬ p->N ρ M):kWh bd ρ I N R B C E (decide p) M:=brD h1 h2
theorem ZrN {src:Src}{fr:List Nat}(Inv:Ro->Prop)(F:Nat->D)(hl:xs.length < 10000000)(hcnt:xs.length<=cnt src M)(h0:Inv (roB k fr ρ))(hs: ∀ (L:Sto) (i:Nat),i<=xs.length->nxt src i (M ++ L)=some xs[i]?)
  (st: ∀ (i:Nat) (h:i < xs.length) (ρ:Ro) (L:Sto),Inv ρ->wG (tg xs[i] ρ) fun r=>Inv r/\wO (f r (M ++ L)) (fun y M2=>y=F i/\M2=M ++ L) (fun _ _=>False)) (hq:Q (.ref M.length) (M ++ [.lst ((List.range xs.length).map F)])):
  kCo tg (fun _ M=> .ok true M) f k fr ρ Q src M:=ZkJ (Q:=fun M2=>Q (.ref M.length) M2) Inv F hl hcnt h0 hs st hq
theorem ZoC {fr:List Nat}(Inv:Ro->Prop)(F:Nat->D)(hM:M[n]?=some (.lst xs))(hl:xs.length < 10000000)(h0:Inv (roB k fr ρ))
  (st: ∀ (i:Nat) (h:i < xs.length) (ρ:Ro) (L:Sto),Inv ρ->wG (tg xs[i] ρ) fun r=>Inv r/\wO (f r (M ++ L)) (fun y M2=>y=F i/\M2=M ++ L) (fun _ _=>False)) (hq:Q (.ref M.length) (M ++ [.lst ((List.range xs.length).map F)])):
  kCo tg (fun _ M=> .ok true M) f k fr ρ Q (.sto n) M:=
 ZrN (xs:=xs) Inv F hl (by rw[Zg6 hM];exact Nat.le_refl _) h0 (fun L i hi=>by rw[Zjl];rw[List.getElem?_append_left (ZS hM)];exact hM) st hq
end
end DL
end
namespace DL
open PySem PySem.Spec L2
section
variable {Q:D->Sto->Prop}{E:Str->Sto->Prop}{M:Sto}{n:Nat}
end
end DL
section
namespace DL
open PySem PySem.Spec L2
section
variable {Q:D->Sto->Prop}{E:Str->Sto->Prop}{N B C:Ro->Sto->Prop}{R:D->Sto->Prop}{M:Sto}{ρ:Ro}{fs:Av}{f:Ev}{c:Str}{i:Nat}
noncomputable def Zqi (c:Str)(E:Str->Sto->Prop)(ds:List D)(M:Sto):Prop:=match ds with
 | [.str y,.int n]=>(y.length<=1000/\n.natAbs.log2 < 1000)/\E c (M ++ [.lst [.str y,.int n]])
 |_=>False
theorem Zjm {y:Str}{n:Int}:Zqi c E [.str y,.int n] M=((y.length<=1000/\n.natAbs.log2 < 1000)/\E c (M ++ [.lst [.str y,.int n]])):=rfl
theorem Ze2 (h:wO (fs ρ M) (Zqi c E) E):wS (Zaz c fs ρ M) N R B C E:=by
 unfold Zaz;rw[ZQ];refine Zcj h (fun ds M1 k=> ?_) (fun _ _ z=>z)
 unfold Zqi at k
 split at k
 ·rename_i y n
  show wS (if _ then _ else _) _ _ _ _ _
  rw[if_pos k.1];exact k.2
 ·exact k.elim
end
end DL
end
section
namespace DL
open PySem PySem.Spec L2
section
variable {N B C:Ro->Sto->Prop}{R:D->Sto->Prop}{E:Str->Sto->Prop}{M:Sto}{ρ:Ro}{gb gh:Sv}{cs:List Str}{W:List Bool}
noncomputable def Zqj (cs:List Str)(gh:Sv)(W:List Bool)(ρ:Ro)(N:Ro->Sto->Prop)(R:D->Sto->Prop)(c:Str)(M:Sto):Prop:=cs.contains c=true/\wS (gh (kpR W ρ) (stE c M)) N R (fun _ _=>False) (fun _ _=>False) (fun _ _=>False)
theorem ZnR:wS (ZdP gb cs W gh ρ M) N R B C E=wS (gb ρ M) N R B C (Zqj cs gh W ρ N R):=by
 unfold ZdP;cases e:gb ρ M<;>try rfl
 rename_i c M1;show wS (if cs.contains c=true then _ else _) N R B C E=Zqj cs gh W ρ N R c M1
 unfold Zqj
 by_cases h:cs.contains c=true
 ·rw[if_pos h]
  simp only[h,true_and];cases gh (kpR W ρ) (stE c M1)<;>rfl
 ·rw[if_neg h]
  simp only[h,Bool.false_eq_true,false_and];rfl
end
end DL
end
section
namespace DL
open PySem PySem.Spec PyProof.Rows L2 SX
section
variable {Q:D->Sto->Prop}{E:Str->Sto->Prop}{M:Sto}{ρ:Ro}{fs:Av}{f fo:Ev}{g:Me}{n:Nat}{i:Int}{y z:Str}{QS:Src->Sto->Prop}
noncomputable def kMS (g:Me)(fs:Av)(ρ:Ro)(Q:D->Sto->Prop)(E:Str->Sto->Prop)(x:D)(M:Sto):Prop:=match x with | .str y=>wO (fs ρ M) (kU (g (.str y)) Q E) E | _=>False
theorem Zhh:kMS g fs ρ Q E (.str y) M=wO (fs ρ M) (kU (g (.str y)) Q E) E:=rfl
theorem Zhi:wO (ZhK g fo fs ρ M) Q E=wO (fo ρ M) (kMS g fs ρ Q E) E:=by
 unfold ZhK;rw[Zq]
 congr 1
 funext x M1
 cases x<;>first | exact Zq | rfl
theorem Zqk:wO (mStw (.str y) [.str z] M) Q E=Q (.bl (Txt.startswith y z)) M:=rfl
noncomputable def kJn (y:Str)(Q:D->Sto->Prop)(M:Sto)(xs:List D):Prop:= ∃ ys,txs xs=some ys/\JoinOk y ys=true/\Q (.str (Txt.join y ys)) M
theorem ZrO {xs:List D}(h:M[n]?=some (.lst xs))(q:kJn y Q M xs):wO (mJn (.str y) [.ref n] M) Q E:=by
 obtain ⟨ys,e,j,q⟩:=q
 show wO (match M[n]? with | some (.lst xs)=>(match txs xs with | some ys=>if JoinOk y ys=true then .ok (.str (Txt.join y ys)) M else .bad | none=> .bad) | none=> .bad) Q E
 rw[h];simp only[e,if_pos j];exact q
theorem ZnS {c:Nat}(hz:z.cps.toList=[c])(hc:c < 128)(hy:y.length<=16000000)(q:Q (.ref M.length) (M ++ [.lst ((spl c y.cps.toList).map fun l=> .str ⟨l.toArray⟩)])):wO (mSpl (.str y) [.str z] M) Q E:=by
 show wO (match z.cps.toList with | [c]=>if c < 128/\y.length<=16000000 then .ok (.ref M.length) (M ++ [.lst ((spl c y.cps.toList).map fun l=> .str ⟨l.toArray⟩)]) else .bad | _=> .bad) Q E
 rw[hz];show wO (if _ then _ else _) Q E
 rw[if_pos ⟨hc,hy⟩];exact q
theorem Zjn:wO (bLenT [.str z] M) Q E=(z.length<=100000/\Q (.int z.length) M):=by
 show wO (if _ then _ else _) Q E=_
 by_cases c:z.length<=100000
 ·rw[if_pos c];exact propext ⟨fun h=>⟨c,h⟩,fun h=>h.2⟩
 ·rw[if_neg c];exact propext ⟨fun h=>h.elim,fun h=>c h.1⟩
theorem ZnT:wO (bStr [.int i] M) Q E=(i.natAbs.log2 < 1900/\Q (.str (tx i)) M):=by
 show wO (if _ then _ else _) Q E=_
 by_cases c:i.natAbs.log2 < 1900
 ·rw[if_pos c];exact propext ⟨fun h=>⟨c,h⟩,fun h=>h.2⟩
 ·rw[if_neg c];exact propext ⟨fun h=>h.elim,fun h=>c h.1⟩
theorem Zjo {k:Int}(hl:z.length<=640)(e:intText? z=some k)(q:Q (.int k) M):wO (bIntT [.str z] M) Q E:=by
 show wO (if _ then _ else _) Q E
 rw[if_pos hl,e];exact q
theorem Zql {c:Nat}{j:Str}:wO (dInT (.str ⟨#[c]⟩) (.str j) M) Q E=Q (.bl (j.cps.toList.contains c)) M:=rfl
theorem Zqm {c:Nat}(h:0<=i/\i < 100000)(e:z.cps.toList[i.toNat]?=some c)(q:Q (.str ⟨#[c]⟩) M):wO (Zow (.str z) (.int i) M) Q E:=by
 show wO (if _ then _ else _) Q E
 rw[if_pos h,e];exact q
noncomputable def kL3 (x:D)(l u:Option Int)(Q:D->Sto->Prop)(M:Sto):Prop:=match x with | .str z=>(z.length<=100000/\okT z l u)/\Q (.str (Zke z l u)) M | _=>False
noncomputable def kL2 (x:D)(l:Option Int)(Q:D->Sto->Prop)(u:Option Int)(M:Sto):Prop:=kL3 x l u Q M
noncomputable def kL1 (x:D)(hi:Ro->Sto->Out (Option Int))(ρ:Ro)(Q:D->Sto->Prop)(E:Str->Sto->Prop)(l:Option Int)(M:Sto):Prop:=wO (hi ρ M) (kL2 x l Q) E
noncomputable def kL0 (lo hi:Ro->Sto->Out (Option Int))(ρ:Ro)(Q:D->Sto->Prop)(E:Str->Sto->Prop)(x:D)(M:Sto):Prop:=wO (lo ρ M) (kL1 x hi ρ Q E) E
theorem Zqn {lo hi:Ro->Sto->Out (Option Int)}:wO (Zox f lo hi ρ M) Q E=wO (f ρ M) (kL0 lo hi ρ Q E) E:=by
 unfold Zox;rw[Zq]
 congr 1
 funext x M1
 rw[Zq];unfold kL0
 congr 1
 funext l M2
 rw[Zq];unfold kL1
 congr 1
 funext u M3
 unfold kL2 kL3;cases x with
 |str z=>
  show wO (if _ then _ else _) Q E=_
  by_cases c:z.length<=100000/\okT z l u
  ·rw[if_pos c];exact propext ⟨fun h=>⟨c,h⟩,fun h=>h.2⟩
  ·rw[if_neg c];exact propext ⟨fun h=>h.elim,fun h=>c h.1⟩
 |_=>rfl
theorem Zqo {l u:Option Int}:kL3 (.str z) l u Q M=((z.length<=100000/\okT z l u)/\Q (.str (Zke z l u)) M):=rfl
noncomputable def oTx (d:D)(M:Sto):Out Src:=match d with | .str x=>if asc x=true then .ok (.pur (sgs x)) M else .bad | _=> .bad
theorem Zqp:wO (iTx f ρ M) QS E=wO (f ρ M) (kU oTx QS E) E:=by unfold iTx;exact Zq
theorem Zqq:wO (oTx (.str z) M) QS E=(asc z=true/\QS (.pur (sgs z)) M):=by
 show wO (if _ then _ else _) QS E=_
 by_cases c:asc z=true
 ·rw[if_pos c];exact propext ⟨fun h=>⟨c,h⟩,fun h=>h.2⟩
 ·rw[if_neg c];exact propext ⟨fun h=>h.elim,fun h=>c h.1⟩
noncomputable def kFx (Q:D->Sto->Prop)(x:Str)(M:Sto):Prop:=Q (.str x) M
theorem Zta {j:Jv}:wO (eFs j ρ M) Q E=wO (j Str.empty ρ M) (kFx Q) E:=by unfold eFs;rw[Zq];rfl
noncomputable def kJc (acc:Str)(j:Jv)(ρ:Ro)(QJ:Str->Sto->Prop)(E:Str->Sto->Prop)(x:D)(M:Sto):Prop:=match x with | .str y=>(acc ++ y).length<=100000/\wO (j (acc ++ y) ρ M) QJ E | _=>False
theorem Zqr {acc:Str}{j:Jv}{QJ:Str->Sto->Prop}:wO (ZcW f j acc ρ M) QJ E=wO (f ρ M) (kJc acc j ρ QJ E) E:=by
 unfold ZcW;rw[Zq]
 congr 1
 funext x M1
 cases x with
 |str y=>
  show wO (if _ then _ else _) QJ E=((acc ++ y).length<=100000/\_)
  by_cases c:(acc ++ y).length<=100000
  ·rw[if_pos c];exact propext ⟨fun h=>⟨c,h⟩,fun h=>h.2⟩
  ·rw[if_neg c];exact propext ⟨fun h=>h.elim,fun h=>c h.1⟩
 |_=>rfl
theorem ZnU {acc:Str}{j:Jv}{QJ:Str->Sto->Prop}:kJc acc j ρ QJ E (.str y) M=((acc ++ y).length<=100000/\wO (j (acc ++ y) ρ M) QJ E):=rfl
theorem Zqs {acc:Str}{QJ:Str->Sto->Prop}:wO (jNil acc ρ M) QJ E=(acc.length<=100000/\QJ acc M):=by
 show wO (if _ then _ else _) QJ E=_
 by_cases c:acc.length<=100000
 ·rw[if_pos c];exact propext ⟨fun h=>⟨c,h⟩,fun h=>h.2⟩
 ·rw[if_neg c];exact propext ⟨fun h=>h.elim,fun h=>c h.1⟩
noncomputable def oFm (x:D)(M:Sto):Out D:=match x with
 | .int i=>if i.natAbs.log2 < 1900 then .ok (.str (Str.ofString (toString i))) M else .bad
 | .str y=>if y.length<=100000 then .ok (.str y) M else .bad
 |_=> .bad
theorem ZrP:wO (eFm f ρ M) Q E=wO (f ρ M) (kU oFm Q E) E:=by unfold eFm;exact Zq
theorem ZnV:wO (oFm (.str y) M) Q E=(y.length<=100000/\Q (.str y) M):=by
 show wO (if _ then _ else _) Q E=_
 by_cases c:y.length<=100000
 ·rw[if_pos c];exact propext ⟨fun h=>⟨c,h⟩,fun h=>h.2⟩
 ·rw[if_neg c];exact propext ⟨fun h=>h.elim,fun h=>c h.1⟩
theorem ZnW:wO (dAdd (.str y) (.str z) M) Q E=(y.length + z.length<=100000/\Q (.str (y ++ z)) M):=by
 show wO (if _ then _ else _) Q E=_
 by_cases c:y.length + z.length<=100000
 ·rw[if_pos c];exact propext ⟨fun h=>⟨c,h⟩,fun h=>h.2⟩
 ·rw[if_neg c];exact propext ⟨fun h=>h.elim,fun h=>c h.1⟩
theorem Zhj (ys:List Str):txs (ys.map D.str)=some ys:=by
 induction ys with
 |nil=>rfl
 |cons y ys ih=>show (match txs (ys.map D.str) with | some ys=>some (y :: ys) | none=>none)=_;rw[ih]
theorem ZdX {y:Str}{ys:List Str}{b:Nat}(hy:y.length<=1)(hb: ∀ x∈ys,x.length<=b)(hn:ys.length * (b + 1)<=16000000):JoinOk y ys=true:=by
 have: ∀ (l:List Str) (a:Nat),(∀ x∈l,x.length<=b)->l.foldl (· + ·.length + y.length) a<=a + l.length * (b + 1):=by
  intro l
  induction l with
  |nil=>intro a _;simp
  |cons x l ih=>
   intro a h;rw[List.foldl_cons];have h1:=ih (a + x.length + y.length) fun z m=>h z (List.mem_cons_of_mem _ m)
   have h2:=h x (List.mem_cons_self ..)
   rw[List.length_cons,Nat.succ_mul];omega
 have t:=this ys 0 hb
 unfold JoinOk Builtin.Str.tooLong;rw[List.foldl_toArray];have hz:=sizeLine_eq
 rw[Bool.not_eq_true',decide_eq_false_iff_not];omega
end
end DL
end
section
namespace DL
noncomputable abbrev Pt:=Int × Int
noncomputable def X (p q:Pt):Int:=p.1 * q.2 - p.2 * q.1
section
variable {rs:List Pt}{i j:Int}{k n:Nat}{p:Pt}
theorem ZaA {α:Type}{l:List α}{n:Nat}{d:α}(h:n < l.length):l.getD n d=l[n]:=by simp[List.getElem?_eq_getElem h]
theorem ZaT (h:0<=i/\i < rs.length):cy rs i=rs.getD i.toNat (0,0):=by
 unfold cy;rw[Int.emod_eq_of_lt h.1 h.2]
theorem Zao {m:Nat}(h:m≠0):(i % m).toNat < m/\0<=i % m:=by
 have:=Int.emod_lt_of_pos i (show (0:Int) < m by omega)
 have:=Int.emod_nonneg i (show (m:Int)≠0 by omega)
 omega
theorem Ze3 (h:rs≠[]):cy rs i∈rs:=by
 have hl:rs.length≠0:=by simpa using h
 unfold cy;rw[ZaA (Zao hl).1];exact List.getElem_mem _
theorem Zjp {f:Pt->Pt}(h:rs≠[]):cy (rs.map f) i=f (cy rs i):=by
 have hl:rs.length≠0:=by simpa using h
 unfold cy;rw[List.length_map,ZaA (by rw[List.length_map];exact (Zao hl).1),ZaA (Zao hl).1,List.getElem_map]
theorem Ze4 (hk:k<=rs.length):cy (rs.drop k ++ rs.take k) i=cy rs (i + k):=by
 by_cases h:rs.length=0
 ·have:rs=[]:=by simpa using h
  subst this
  simp[cy]
 have hL:(rs.drop k ++ rs.take k).length=rs.length:=by simp;omega
 have e1:cy (rs.drop k ++ rs.take k) i=cy (rs.drop k ++ rs.take k) (i % rs.length):=by
  conv=>rhs;rw[<- hL,Zck]
 have e2:cy rs (i + k)=cy rs (i % rs.length + k):=by
  unfold cy;rw[Int.emod_add_emod]
 rw[e1,e2];obtain ⟨a,b⟩:=Zao (i:=i) h
 generalize hm:i % (rs.length:Int)=m at *;have hm2:m < rs.length:=by omega
 rw[ZaT (by rw[hL];omega)]
 by_cases c:m + k < rs.length
 ·rw[ZaT (by omega)]
  rw[List.getD_eq_getElem?_getD,List.getD_eq_getElem?_getD,List.getElem?_append_left (by simp;omega),List.getElem?_drop]
  congr 2
  omega
 ·rw[<- ZcI,ZaT (by omega)]
  rw[List.getD_eq_getElem?_getD,List.getD_eq_getElem?_getD,List.getElem?_append_right (by simp;omega),List.getElem?_take_of_lt (by simp;omega)]
  congr 2
  simp
  omega
noncomputable def ins (rs:List Pt)(k:Nat)(p:Pt):List Pt:=rs.take (k + 1) ++ p :: rs.drop (k + 1)
theorem ZbH (hk:k < rs.length):(ins rs k p).length=rs.length + 1:=by simp[ins];omega
theorem Zjq (hk:k < rs.length)(h0:0<=j)(h1:j<=rs.length + 1):cy (ins rs k p) j=if j<=k then cy rs j else if j=k + 1 then p else cy rs (j - 1):=by
 have hL:=ZbH (p:=p) hk
 by_cases e:j=rs.length + 1
 ·subst e
  rw[if_neg (by omega),if_neg (by omega)]
  have e1:cy (ins rs k p) (rs.length + 1)=cy (ins rs k p) 0:=by
   have:=ZcI (rs:=ins rs k p) (i:=(rs.length:Int) + 1)
   rw[hL] at this;rw[<- this]
   congr 1
   omega
  have e2:cy rs ((rs.length:Int) + 1 - 1)=cy rs 0:=by
   rw[<- ZcI]
   congr 1
   omega
  rw[e1,e2,ZaT (by rw[hL];omega),ZaT (by omega)]
  unfold ins;rw[List.getD_eq_getElem?_getD,List.getD_eq_getElem?_getD,List.getElem?_append_left (by simp;omega),List.getElem?_take_of_lt (by simp)]
 ·have hj:j < rs.length + 1:=by omega
  rw[ZaT (by rw[hL];omega)]
  unfold ins;rw[List.getD_eq_getElem?_getD]
  by_cases c1:j<=k
  ·rw[if_pos c1,ZaT (by omega),List.getD_eq_getElem?_getD,List.getElem?_append_left (by simp;omega),List.getElem?_take_of_lt (by omega)]
  ·rw[if_neg c1,List.getElem?_append_right (by simp;omega)]
   have hl:(rs.take (k + 1)).length=k + 1:=by simp;omega
   rw[hl]
   by_cases c2:j=k + 1
   ·rw[if_pos c2]
    have:j.toNat - (k + 1)=0:=by omega
    rw[this];rfl
   ·rw[if_neg c2,ZaT (by omega),List.getD_eq_getElem?_getD]
    obtain ⟨z,hz⟩: ∃ z,j.toNat - (k + 1)=z + 1:=⟨j.toNat - (k + 1) - 1,by omega⟩
    rw[hz,List.getElem?_cons_succ,List.getElem?_drop]
    congr 2
    omega
theorem Zcl {P:Pt->Pt->Prop}(hn:rs.length≠0)(h: ∀ i:Int,0<=i->i < rs.length->P (cy rs i) (cy rs (i + 1)))(i:Int):P (cy rs i) (cy rs (i + 1)):=by
 have e1:cy rs i=cy rs (i % rs.length):=Zck.symm
 have e2:cy rs (i + 1)=cy rs (i % rs.length + 1):=by
  unfold cy;rw[Int.emod_add_emod]
 rw[e1,e2];obtain ⟨a,b⟩:=Zao (i:=i) hn
 exact h _ b (by omega)
noncomputable def cc (f:Pt->Pt->Nat):List Pt->Nat
 |a :: b :: r=>f a b + cc f (b :: r)
 |_=>0
noncomputable def cyc (f:Pt->Pt->Nat)(rs:List Pt):Nat:=cc f (rs ++ rs.take 1)
theorem Zbb {f:Pt->Pt->Nat}: ∀ (L:List Pt) (a:Pt) (R:List Pt),cc f (L ++ a :: R)=cc f (L ++ [a]) + cc f (a :: R)
 | [],a,R=>by simp[cc]
 | [b],a,R=>by simp[cc]
 |b :: c :: L,a,R=>by
  have:=Zbb (f:=f) (c :: L) a R
  simp only[List.cons_append,cc] at this ⊢;omega
theorem Zjr {f:Pt->Pt->Nat}{g:Pt->Pt}: ∀ (L:List Pt),cc f (L.map g)=cc (fun a b=>f (g a) (g b)) L
 | []=>rfl
 | [_]=>rfl
 |a :: b :: L=>by
  have:=Zjr (f:=f) (g:=g) (b :: L)
  simp only[List.map_cons,cc] at this ⊢;omega
theorem Zjs {f:Pt->Pt->Nat}: ∀ (L:List Pt),cc f L.reverse=cc (fun a b=>f b a) L
 | []=>rfl
 | [_]=>rfl
 |a :: b :: L=>by
  have:=Zjs (f:=f) (b :: L)
  rw[List.reverse_cons,List.reverse_cons,List.append_assoc,List.singleton_append,Zbb];rw[List.reverse_cons] at this;simp only[cc] at this ⊢;omega
theorem Z8 {f:Pt->Pt->Nat}{a:Pt}{r:List Pt}:cyc f (a :: r)=cc f (a :: (r ++ [a])):=by simp[cyc]
theorem Zbi {f:Pt->Pt->Nat}(A B:List Pt):cyc f (A ++ B)=cyc f (B ++ A):=by
 cases A with
 |nil=>simp
 |cons a A=>
  cases B with
  |nil=>simp
  |cons b B=>
   rw[List.cons_append,Z8,List.cons_append,Z8];have e1:a :: (A ++ b :: B ++ [a])=(a :: A) ++ b :: (B ++ [a]):=by simp
   have e2:b :: (B ++ a :: A ++ [b])=(b :: B) ++ a :: (A ++ [b]):=by simp
   rw[e1,e2,Zbb (a :: A) b,Zbb (b :: B) a];simp only[List.cons_append];omega
theorem Zc2 {f:Pt->Pt->Nat}{g:Pt->Pt}(L:List Pt):cyc f (L.map g)=cyc (fun a b=>f (g a) (g b)) L:=by
 unfold cyc;rw[<- List.map_take,<- List.map_append,Zjr]
theorem Zhk {f:Pt->Pt->Nat}(L:List Pt):cyc f L.reverse=cyc (fun a b=>f b a) L:=by
 cases L with
 |nil=>rfl
 |cons a L=>
  rw[List.reverse_cons,Zbi,List.singleton_append,Z8,Z8,<- Zjs]
  congr 1
  simp
noncomputable def in1 (w a b:Pt):Nat:=if 0<=X a w/\0 < X w b then 1 else 0
noncomputable def in2 (w a b:Pt):Nat:=if 0 < X a w/\0<=X w b then 1 else 0
noncomputable def Fan (rs:List Pt):Prop:= ∀ w:Pt,w≠(0,0)->cyc (in1 w) rs=1/\cyc (in2 w) rs=1
theorem ZnX {a b w:Pt}:X w (a.1 + b.1,a.2 + b.2)=X w a + X w b/\X (a.1 + b.1,a.2 + b.2) w=X a w + X b w:=by unfold X;constructor<;>grind
theorem ZfB {p q:Pt}:X p q=0 - X q p:=by unfold X;grind
theorem ZkP {a b w:Pt}:in1 w a b=in1 w a (a.1 + b.1,a.2 + b.2) + in1 w (a.1 + b.1,a.2 + b.2) b:=by
 have s:=ZnX (a:=a) (b:=b) (w:=w)
 have e1:=ZfB (p:=w) (q:=a)
 have e2:=ZfB (p:=b) (q:=w)
 unfold in1;rw[s.1,s.2,e1,e2];generalize X a w=p;generalize X w b=q
 repeat' split
 all_goals omega
theorem ZkQ {a b w:Pt}:in2 w a b=in2 w a (a.1 + b.1,a.2 + b.2) + in2 w (a.1 + b.1,a.2 + b.2) b:=by
 have s:=ZnX (a:=a) (b:=b) (w:=w)
 have e1:=ZfB (p:=w) (q:=a)
 have e2:=ZfB (p:=b) (q:=w)
 unfold in2;rw[s.1,s.2,e1,e2];generalize X a w=p;generalize X w b=q
 repeat' split
 all_goals omega
theorem Zhl {L R:List Pt}{a:Pt}:cy (L ++ a :: R) L.length=a:=by
 rw[ZaT (by simp;omega)]
 simp
theorem ZkR {L R:List Pt}{a b:Pt}:cy (L ++ a :: b :: R) (L.length + 1)=b:=by
 rw[ZaT (by simp;omega)]
 rw[show ((L.length:Int) + 1).toNat=L.length + 1 by omega]
 simp
theorem Zel {r:List Pt}{a:Pt}:cy (a :: r) (r.length + 1)=a:=by
 have:=ZcI (rs:=a :: r) (i:=(r.length:Int) + 1)
 rw[<- this,List.length_cons,show (r.length:Int) + 1 - ((r.length + 1:Nat):Int)=0 by omega,ZaT (by simp)]
 rfl
theorem Zcm {f:Pt->Pt->Nat}(hk:k < rs.length)(hf:f (cy rs k) (cy rs (k + 1))=f (cy rs k) p + f p (cy rs (k + 1))):cyc f (ins rs k p)=cyc f rs:=by
 obtain ⟨L,a,R,e,hl⟩: ∃ L a R,rs=L ++ a :: R/\L.length=k:=⟨rs.take k,rs[k],rs.drop (k + 1),by rw[List.getElem_cons_drop,List.take_append_drop],by simp;omega⟩
 have ei:ins rs k p=L ++ a :: p :: R:=by
  unfold ins;rw[e,<- hl,List.take_append,List.drop_append,List.take_of_length_le (by omega),List.drop_eq_nil_of_le (by omega)]
  simp
 have ca:cy rs k=a:=by rw[e,<- hl];exact Zhl
 cases R with
 |cons b R=>
  have cb:cy rs (k + 1)=b:=by rw[e,<- hl];exact ZkR
  rw[ca,cb] at hf;rw[ei,e,Zbi,Zbi L];simp only[List.cons_append,Z8,cc];omega
 |nil=>
  cases L with
  |nil=>
   have cb:cy rs (k + 1)=a:=by
    rw[e,<- hl];exact Zel (r:=[]) (a:=a)
   rw[ca,cb] at hf;rw[ei,e]
   simp[cyc,cc]
   omega
  |cons b L=>
   have cb:cy rs (k + 1)=b:=by
    rw[e,<- hl]
    have:=Zel (r:=L ++ [a]) (a:=b)
    simp only[List.length_append,List.length_cons,List.length_nil] at this ⊢;exact this
   rw[ca,cb] at hf;rw[ei,e];simp only[List.cons_append,Z8];have e1:b :: (L ++ [a,p] ++ [b])=(b :: L) ++ a :: [p,b]:=by simp
   have e2:b :: (L ++ [a] ++ [b])=(b :: L) ++ a :: [b]:=by simp
   rw[e1,e2,Zbb,Zbb (b :: L) a [b]];simp only[cc];omega
theorem Fan.rot (h:Fan rs):Fan (rs.drop k ++ rs.take k):=fun w hw=>by
 rw[Zbi,Zbi (rs.drop k),List.take_append_drop];exact h w hw
theorem Fan.ins (h:Fan rs)(hk:k < rs.length):Fan (ins rs k ((cy rs k).1 + (cy rs (k + 1)).1,(cy rs k).2 + (cy rs (k + 1)).2)):=fun w hw=>by
 rw[Zcm hk ZkP,Zcm hk ZkQ];exact h w hw
theorem Zjt {f:Pt->Pt}{s:Int}(hs:s=1\/s= -1)(hf: ∀ p q,X (f p) (f q)=s * X p q)(w:Pt)(hw:w≠(0,0)): ∃ w':Pt,w'≠(0,0)/\ ∀ a,X (f a) w=s * X a w':=by
 have d:=hf (1,0) (0,1)
 have d1:X (f (1,0)) (f (0,1))=s:=by rw[d];simp[X]
 have lin: ∀ a,(f a).1=a.1 * (f (1,0)).1 + a.2 * (f (0,1)).1/\(f a).2=a.1 * (f (1,0)).2 + a.2 * (f (0,1)).2:=by
  intro a;have h1:=hf a (1,0)
  have h2:=hf a (0,1)
  generalize f a=u at *;generalize f (1,0)=e1 at *;generalize f (0,1)=e2 at *;unfold X at *
  rcases hs with rfl | rfl<;>constructor<;>grind
 refine ⟨(X w (f (0,1)) * s,X (f (1,0)) w * s),?_,?_⟩
 ·intro z
  apply hw
  have z1:=congrArg Prod.fst z
  have z2:=congrArg Prod.snd z
  simp only at z1 z2
  generalize f (1,0)=e1 at *;generalize f (0,1)=e2 at *;unfold X at *
  apply Prod.ext
  ·rcases hs with rfl | rfl<;>simp only[]<;>grind
  ·rcases hs with rfl | rfl<;>simp only[]<;>grind
 ·intro a
  obtain ⟨l1,l2⟩:=lin a
  unfold X;rw[l1,l2]
  rcases hs with rfl | rfl<;>simp only[]<;>grind
theorem Fan.map (h:Fan rs){f:Pt->Pt}(hf: ∀ p q,X (f p) (f q)=X p q):Fan (rs.map f):=fun w hw=>by
 obtain ⟨w',hw',e⟩:=Zjt (s:=1) (.inl rfl) (fun p q=>by rw[hf,Int.one_mul]) w hw
 have e2: ∀ a,X w (f a)=X w' a:=fun a=>by rw[ZfB,e,ZfB (p:=w')];omega
 have c1: ∀ a b,in1 w (f a) (f b)=in1 w' a b:=fun a b=>by unfold in1;rw[e,e2,Int.one_mul]
 have c2: ∀ a b,in2 w (f a) (f b)=in2 w' a b:=fun a b=>by unfold in2;rw[e,e2,Int.one_mul]
 rw[Zc2,Zc2,show (fun a b=>in1 w (f a) (f b))=in1 w' from funext fun a=>funext fun b=>c1 a b,show (fun a b=>in2 w (f a) (f b))=in2 w' from funext fun a=>funext fun b=>c2 a b]
 exact h w' hw'
theorem Fan.flip (h:Fan rs){f:Pt->Pt}(hf: ∀ p q,X (f p) (f q)= -1 * X p q):Fan (rs.map f).reverse:=fun w hw=>by
 obtain ⟨w',hw',e⟩:=Zjt (s:= -1) (.inr rfl) hf w hw
 have e2: ∀ a,X w (f a)= -1 * X w' a:=fun a=>by rw[ZfB,e,ZfB (p:=w')];omega
 have c1: ∀ a b,in1 w (f b) (f a)=in2 w' a b:=fun a b=>by
  unfold in1 in2;rw[e,e2,ZfB (p:=b)]
  have:=ZfB (p:=a) (q:=w')
  simp only[show (0<= -1 * (0 - X w' b)/\0 < -1 * X w' a)=(0 < X a w'/\0<=X w' b) from propext ⟨fun _=>by omega,fun _=>by omega⟩]
 have c2: ∀ a b,in2 w (f b) (f a)=in1 w' a b:=fun a b=>by
  unfold in1 in2;rw[e,e2,ZfB (p:=b)]
  have:=ZfB (p:=a) (q:=w')
  simp only[show (0 < -1 * (0 - X w' b)/\0<= -1 * X w' a)=(0<=X a w'/\0 < X w' b) from propext ⟨fun _=>by omega,fun _=>by omega⟩]
 rw[Zhk,Zhk,Zc2,Zc2,show (fun a b=>in1 w (f b) (f a))=in2 w' from funext fun a=>funext fun b=>c1 a b,show (fun a b=>in2 w (f b) (f a))=in1 w' from funext fun a=>funext fun b=>c2 a b]
 exact ⟨(h w' hw').2,(h w' hw').1⟩
structure Smo (rs:List Pt):Prop where
 len:3<=rs.length
 one: ∀ i:Int,X (cy rs i) (cy rs (i + 1))=1
 fan:Fan rs
noncomputable def Nr (b:Int)(rs:List Pt):Prop:= ∀ p∈rs,(-b<=p.1/\p.1<=b)/\ -b<=p.2/\p.2<=b
theorem Smo.ne (h:Smo rs):rs≠[]:=by
 intro z
 have:=h.len
 rw[z] at this
 simp at this
theorem Nr.cy {b:Int}(h:Nr b rs)(hn:rs≠[])(i:Int):(-b<=(cy rs i).1/\(cy rs i).1<=b)/\ -b<=(cy rs i).2/\(cy rs i).2<=b:=h _ (Ze3 hn)
theorem Smo.ins (h:Smo rs)(hk:k < rs.length):Smo (ins rs k ((cy rs k).1 + (cy rs (k + 1)).1,(cy rs k).2 + (cy rs (k + 1)).2)):=by
 have hL:=ZbH (p:=((cy rs k).1 + (cy rs (k + 1)).1,(cy rs k).2 + (cy rs (k + 1)).2)) hk
 refine ⟨by rw[hL];have:=h.len;omega,?_,h.fan.ins hk⟩
 refine Zcl (P:=fun a b=>X a b=1) (by omega) ?_
 intro i h0 h1;rw[hL] at h1;rw[Zjq hk h0 (by omega),Zjq hk (by omega) (by omega)]
 have ok:=h.one k
 by_cases c1:i + 1<=k
 ·rw[if_pos (by omega),if_pos c1];exact h.one i
 ·rw[if_neg c1]
  by_cases c2:i=k
  ·subst c2
   rw[if_pos (by omega),if_pos rfl]
   unfold X at *
   grind
  ·rw[if_neg (by omega: ¬ i<=(k:Int)),if_neg (by omega: ¬ i + 1=(k:Int) + 1)]
   by_cases c3:i=k + 1
   ·subst c3
    rw[if_pos rfl]
    have:(k:Int) + 1 + 1 - 1=k + 1:=by omega
    rw[this];unfold X at *
    grind
   ·rw[if_neg c3]
    have:=h.one (i - 1)
    have e:i - 1 + 1=i + 1 - 1:=by omega
    rw[e] at this;exact this
theorem Smo.rot (h:Smo rs)(hk:k<=rs.length):Smo (rs.drop k ++ rs.take k):=by
 refine ⟨by have:=h.len;simp;omega,fun i=> ?_,h.fan.rot⟩
 rw[Ze4 hk,Ze4 hk]
 have:=h.one (i + k)
 have e:i + (k:Int) + 1=i + 1 + k:=by omega
 rw[e] at this;exact this
theorem Nr.ins {b:Int}(h:Nr b rs)(hp:(-b<=p.1/\p.1<=b)/\ -b<=p.2/\p.2<=b):Nr b (ins rs k p):=by
 intro q hq
 rcases List.mem_append.mp hq with hq | hq
 ·exact h q (List.mem_of_mem_take hq)
 ·rcases List.mem_cons.mp hq with hq | hq
  ·subst hq;exact hp
  ·exact h q (List.mem_of_mem_drop hq)
theorem Nr.rot {b:Int}(h:Nr b rs):Nr b (rs.drop k ++ rs.take k):=by
 intro q hq
 rcases List.mem_append.mp hq with hq | hq
 ·exact h q (List.mem_of_mem_drop hq)
 ·exact h q (List.mem_of_mem_take hq)
end
end DL
end
section
namespace CC
open PySem PySem.Spec L2 DL
noncomputable def Z9:Sv:=(ZM (e2 dSub (e2 dMul (e2 dIx (Zf 0) (eC (.int 0))) (e2 dIx (Zf 1) (eC (.int 1)))) (e2 dMul (e2 dIx (Zf 0) (eC (.int 1))) (e2 dIx (Zf 1) (eC (.int 0))))))
noncomputable def F_crossed:List D->Sto->Out D:=fnF Z9 2 0
noncomputable def Zbj:Sv:=(ZM (e2 dIx (Zf 0) (e2 dMod (e2 dAdd (Zf 1) (eC (.int 1))) (Zj bLen (Zc (Zf 0) aNil)))))
noncomputable def F_following:List D->Sto->Out D:=fnF Zbj 2 0
noncomputable def ZaB:Sv:=(ZM (e2 dSub (e2 dMul (e2 dIx (Zf 0) (eC (.int 0))) (e2 dIx (Zf 1) (eC (.int 1)))) (e2 dMul (e2 dIx (Zf 0) (eC (.int 1))) (e2 dIx (Zf 1) (eC (.int 0))))))
noncomputable def F_law_cross:List D->Sto->Out D:=fnF ZaB 2 0
end CC
end
open PySem PySem.Spec L2 DL
set_option hygiene false
set_option compiler.extract_closed false
local macro_rules | `(tactic| simp! [$ls,*]) => `(tactic| simp (implicitDefEqProofs := false) (disch := omega) only [ZsN, y_c, y_v, Znr, ZpB, Zns, ZpC, ZpD, ZpE, Znt, ZpG, Znu, ZsO, ZsP, ZsR, ZpH, ZsS, ZpI, Znv, ZpJ, Znw, ZsT, ZpK, ZsU, Znx, ZpL, Zny, ZpM, Znz, ZpN, ZpO, ZpP, ZnA, ZnB, ZsV, ZsW, ZpQ, ZpR, ZnD, ZpS, ZpT, ZkL, ZnE, ZnF, ZpU, ZnG, ZnH, ZnI, ZpV, Zfp, Zfq, ZdT, ZdU, ZdV, ZdW, Zfr, Zfs, ZiG, ZiH, Zft, Zfu, Zfv, Zfw, Zg9, Zha, Zej, Zek, Zhb, Zhc, Zhd, Zhe, ZiI, ZiJ, Zhf, Zhg, Zfx, Zfy, Zfz, ZfA, ZnJ, ZsY, ZsZ, Zs0, ZpW, ZpX, ZpY, Zs1, Zs2, Zs3, ZpZ, Zp0, Zs4, Zs5, Zs6, Zp1, Zp2, ZiK, Zp3, Zp4, Zp5, ZnL, ZkM, Zp6, ZnM, Zs7, Zp7, Zp8, Zp9, Zqa, ZnO, Zs8, Zqb, Zqc, Zqd, Zs9, Zqe, Zqf, Zqg, ZnP, kU, kQ, kB2, kB1, kA2, kA1, kTu, kLs, kTy, kIf, kTA, kTO, kTN, kSq, kDr, kSi, kAs, kAt, Zq9, kPa, Zra, Zrb, Zrc, Zrd, Zre, Zrf, kPu, kRa, Zrg, Zrh, kR1, Zri, Zrj, Zrk, kR2, kFo, kFs, kTr, Zrl, Zrm, kS1, Zrn, Zro, Zrp, kS2, Zrq, kEn, Zrr, Zrs, kZp, Zrt, Zru, Zrv, kRv, ZnK, Zrw, ZoB, kEq, kNe, kIx, Zrx, kLi, Zry, kAl, Zrz, ZrA, kMt, ZrB, ZrC, ZnN, ZrD, ZkN, ZrE, kCn, ZrF, ZrG, ZrH, ZrI, ZrJ, ZrK, ZrL, Zix, Ziy, ZkE, ZiB, ZiC, Ziz, ZiA, ZkF, ZiE, ZiD, ZkH, ZkG, Zlf, decide_eq_true, decide_eq_false, wF1, wF2, wF3, wF4, Zn, ZmM, Zss, Zst, Zsu, Zsv, Zsw, Zsx, Zsq, Zsr, Zo8, Zo9, Zpa, ZmX, Zpb, Zpc, Zpd, Zsz, ZsA, ZsB, ZsC, ZmY, Zm0, Zm1, Zpj, Zpk, Zpl, Zm2, Zm3, ZkD, Zm5, Zm6, Ziv, Zpx, Zpy, Zpz, ZpA, id, roB, kpR, cond_true, cond_false, at0, at1, at2, at3, gTp, gCs, gNl, gNm, List.set_cons_zero, List.set_cons_succ, List.getElem?_cons_zero, List.getElem?_cons_succ, List.length_cons, List.length_nil, List.length_append, List.length_map, List.map_cons, List.map_nil, List.cons_append, List.nil_append, List.append_assoc, List.append_nil, List.replicate_succ, List.replicate_zero, Option.join_some, Option.isSome_some, ZdR, Ziw, Zbh, Zji, Zpt, Zm7, Zm8, Zx, Zc1, Zpu, ZsH, Zq4, Znc, Zpw, Znd, Zne, Znf, Zng, Znh, Zni, Znj, Znk, Znl, Znm, Znn, Zno, Znp, Znq, true_and, and_true, Bool.not_true, Bool.not_false, decide_true, decide_false, Nat.reduceAdd, Nat.reduceLeDiff, Nat.reduceLT, Nat.add_zero, Nat.zero_add, Int.reducePow, Int.reduceToNat, Int.reduceNeg, Int.reduceMod, Int.reduceDiv, Int.reduceAdd, Int.reduceSub, Int.reduceMul, Int.cast_ofNat_Int, Int.reduceEq, Int.reduceLT, Int.reduceLE, $ls,*])
set_option hygiene true
section
namespace CC
open PySem PySem.Spec L2 DL
section
variable {Q:D->Sto->Prop}{E:Str->Sto->Prop}{M:Sto}{a b c d i:Int}{n:Nat}{rs:List Pt}
theorem Zaw (ha: -(18446744073709551616) < a/\a < 18446744073709551616)(hb: -(18446744073709551616) < b/\b < 18446744073709551616):wO (F_crossed [pr a b,pr c d] M) Q E=Q (.int (a * d - b * c)) M:=by
 simp![F_crossed,Z9]
theorem Zcn (ha: -(18446744073709551616) < a/\a < 18446744073709551616)(hb: -(18446744073709551616) < b/\b < 18446744073709551616):wO (F_law_cross [pr a b,pr c d] M) Q E=Q (.int (a * d - b * c)) M:=Zaw ha hb
theorem Zbk (h:M[n]?=some (.lst (prs rs)))(hi:0<=i/\i < rs.length):wO (F_following [.ref n,.int i] M) Q E=Q (pr (cy rs (i + 1)).1 (cy rs (i + 1)).2) M:=by
 have e:=Zao (i:=i + 1) (m:=rs.length) (by omega)
 simp![F_following,Zbj,h,ZdS,Zck]
theorem ZbI {rs:List Pt}{i:Nat}(h:i < (prs rs).length):(prs rs)[i]=pr (cy rs i).1 (cy rs i).2:=by
 have h':i < rs.length:=by rw[Zx] at h;exact h
 rw[Zg5 h']
 simp[prs]
theorem Zco {w a b:Pt}{p q:Int}(h1:X a w=p)(h2:X w b=q):in1 w a b=if 0<=p/\0 < q then 1 else 0:=by unfold in1;rw[h1,h2]
theorem Zcp {w a b:Pt}{p q:Int}(h1:X a w=p)(h2:X w b=q):in2 w a b=if 0 < p/\0<=q then 1 else 0:=by unfold in2;rw[h1,h2]
theorem Ztb:Fan [(1,0),(0,1),(-1,-1)]:=by
 rintro ⟨x,y⟩ hw
 have hw': ¬ (x=0/\y=0):=fun z=>hw (by rw[z.1,z.2])
 have a1:X (1,0) (x,y)=y:=by simp[X]
 have a2:X (0,1) (x,y)= -x:=by simp[X]
 have a3:X (-1,-1) (x,y)=x - y:=by simp[X];omega
 have b1:X (x,y) (0,1)=x:=by simp[X]
 have b2:X (x,y) (-1,-1)=y - x:=by simp[X];omega
 have b3:X (x,y) (1,0)= -y:=by simp[X]
 simp only[cyc,List.take_succ_cons,List.take_zero,List.cons_append,List.nil_append,cc];rw[Zco a1 b1,Zco a2 b2,Zco a3 b3,Zcp a1 b1,Zcp a2 b2,Zcp a3 b3];clear a1 a2 a3 b1 b2 b3 hw
 constructor
 all_goals
  repeat' split
  all_goals omega
theorem Ztc (f:Int):Fan [(1,0),(0,1),(-1,f),(0,-1)]:=by
 rintro ⟨x,y⟩ hw
 have hw': ¬ (x=0/\y=0):=fun z=>hw (by rw[z.1,z.2])
 have h0:x=0->x * f=0:=fun z=>by rw[z,Int.zero_mul]
 have a1:X (1,0) (x,y)=y:=by simp[X]
 have a2:X (0,1) (x,y)= -x:=by simp[X]
 have a3:X (-1,f) (x,y)= -y - x * f:=by unfold X;simp only;grind
 have a4:X (0,-1) (x,y)=x:=by simp[X]
 have b1:X (x,y) (0,1)=x:=by simp[X]
 have b2:X (x,y) (-1,f)=x * f + y:=by unfold X;simp only;grind
 have b3:X (x,y) (0,-1)= -x:=by simp[X]
 have b4:X (x,y) (1,0)= -y:=by simp[X]
 simp only[cyc,List.take_succ_cons,List.take_zero,List.cons_append,List.nil_append,cc];rw[Zco a1 b1,Zco a2 b2,Zco a3 b3,Zco a4 b4,Zcp a1 b1,Zcp a2 b2,Zcp a3 b3,Zcp a4 b4];clear a1 a2 a3 a4 b1 b2 b3 b4 hw;generalize x * f=z at *
 constructor
 all_goals
  repeat' split
  all_goals omega
theorem Ztd:Smo [(1,0),(0,1),(-1,-1)]:=by
 refine ⟨by decide,Zcl (P:=fun a b=>X a b=1) (by decide) ?_,Ztb⟩
 intro i h0 h1
 have:i=0\/i=1\/i=2:=by simp at h1;omega
 rcases this with rfl | rfl | rfl<;>rfl
theorem Zte (f:Int):Smo [(1,0),(0,1),(-1,f),(0,-1)]:=by
 refine ⟨by simp,Zcl (P:=fun a b=>X a b=1) (by simp) ?_,Ztc f⟩
 intro i h0 h1
 have:i=0\/i=1\/i=2\/i=3:=by simp at h1;omega
 rcases this with rfl | rfl | rfl | rfl<;>simp[X,cy]
end
end CC
end
section
namespace DL
noncomputable def T (rs:List Pt)(i:Int):Int:=0 - X (cy rs (i - 1)) (cy rs (i + 1))
section
variable {rs:List Pt}{k:Nat}{p:Pt}{j:Int}
end
end DL
namespace CC
open PySem PySem.Spec L2 DL
section
variable {Q:D->Sto->Prop}{E:Str->Sto->Prop}{M:Sto}{a b c d i:Int}{n:Nat}{rs:List Pt}
end
end CC
end
section
namespace DL
noncomputable def del (rs:List Pt)(k:Nat):List Pt:=rs.take k ++ rs.drop (k + 1)
section
variable {rs:List Pt}{k:Nat}{p:Pt}{j:Int}
theorem ZnY (p q:Pt):X p q=0 - X q p:=by unfold X;grind
theorem Zhm (hk:k < rs.length):(del rs k).length=rs.length - 1:=by simp[del];omega
end
end DL
end
section
namespace DL
noncomputable def nm (p:Pt):Int:=p.1 * p.1 + p.2 * p.2
theorem ZnZ {f:Pt->Pt->Nat}{L R:List Pt}{a b:Pt}:f a b<=cc f (L ++ a :: b :: R):=by
 rw[Zbb];simp only[cc];omega
end DL
namespace DL
section
variable {rs:List Pt}{k:Nat}
theorem ZkS {f:Pt->Pt->Nat}{a b p:Pt}{L R Y:List Pt}(e:R ++ L=b :: (Y ++ [a]))(hf:f a b=f a p + f p b):cyc f (L ++ R)=cyc f (L ++ p :: R):=by
 rw[Zbi L R,e,Zbi L,List.cons_append,e];simp only[Z8,List.cons_append,cc];have e1:b :: (Y ++ [a] ++ [p])=(b :: Y) ++ a :: [p]:=by simp
 have e2:b :: (Y ++ [a] ++ [b])=(b :: Y) ++ a :: [b]:=by simp
 rw[e1,e2,Zbb (b :: Y) a [p],Zbb (b :: Y) a [b]];simp only[cc];omega
end
end DL
end
section
namespace CE
open PySem PySem.Spec L2 DL
end CE
end
section
namespace CE
open PySem PySem.Spec L2 DL
section
variable {Q:D->Sto->Prop}{E:Str->Sto->Prop}{M:Sto}{a b c d i:Int}{n:Nat}{rs:List Pt}
end
end CE
end
section
namespace CF
open PySem PySem.Spec L2 DL CC
end CF
end
section
namespace CF
open PySem PySem.Spec L2 DL
section
variable {Q:D->Sto->Prop}{E:Str->Sto->Prop}{M:Sto}{a b c d i:Int}{n:Nat}{rs:List Pt}
theorem Nr.del {b:Int}{k:Nat}(h:Nr b rs):Nr b (del rs k):=fun p hp=>h p (by
 rcases List.mem_append.mp hp with z | z
 ·exact List.mem_of_mem_take z
 ·exact List.mem_of_mem_drop z)
end
end CF
end
section
namespace DL
open PySem PySem.Spec L2 DL
section
variable {M:Sto}
end
end DL
end
section
namespace CB
open PySem PySem.Spec L2 DL
noncomputable def Z9:Sv:=(ZM (e2 dSub (e2 dMul (e2 dIx (Zf 0) (eC (.int 0))) (e2 dIx (Zf 1) (eC (.int 1)))) (e2 dMul (e2 dIx (Zf 0) (eC (.int 1))) (e2 dIx (Zf 1) (eC (.int 0))))))
noncomputable def F_crossed:List D->Sto->Out D:=fnF Z9 2 0
noncomputable def ZaU:Sv:=(Zw (ZJ (gNm 5) (e2 dDiv (Zf 1) (Zf 2)))
 (Zw (Zb5 1 2 (Zc (Zf 2) (Zc (e2 dSub (Zf 1) (e2 dMul (Zf 5) (Zf 2))) aNil)))
 (Zb5 3 4 (Zc (Zf 4) (Zc (ZU (Zc (e2 dSub (e2 dIx (Zf 3) (eC (.int 0))) (e2 dMul (Zf 5) (e2 dIx (Zf 4) (eC (.int 0))))) (Zc (e2 dSub (e2 dIx (Zf 3) (eC (.int 1))) (e2 dMul (Zf 5) (e2 dIx (Zf 4) (eC (.int 1))))) aNil))) aNil)))))
noncomputable def Zcq:Sv:=(Zw (ZJ (gTp (gCs (gNm 1) (gCs (gNm 2) gNl))) (Zf 0))
 (Zw (ZJ (gTp (gCs (gNm 3) (gCs (gNm 4) gNl))) (ZU (Zc (ZU (Zc (eC (.int 0)) (Zc (eC (.int 1)) aNil))) (Zc (ZU (Zc (Zda (eC (.int 1))) (Zc (eC (.int 0)) aNil))) aNil))))
 (Zw (sWh (tv (e2 dNe (Zf 2) (eC (.int 0)))) ZaU)
 (ZM (ZU (Zc (e2 dMul (Zf 1) (e2 dIx (Zf 3) (eC (.int 0)))) (Zc (e2 dMul (Zf 1) (e2 dIx (Zf 3) (eC (.int 1)))) aNil)))))))
noncomputable def F_partner:List D->Sto->Out D:=fnF Zcq 1 5
noncomputable def Zap:Sv:=(Zw (ZJ (gNm 2) (Zj F_partner (Zc (Zf 0) aNil)))
 (Zw (ZJ (gNm 3) (e2 dDiv (Zj F_crossed (Zc (Zf 2) (Zc (Zf 1) aNil))) (Zj F_crossed (Zc (Zf 0) (Zc (Zf 1) aNil)))))
 (ZM (ZU (Zc (e2 dSub (e2 dIx (Zf 2) (eC (.int 0))) (e2 dMul (Zf 3) (e2 dIx (Zf 0) (eC (.int 0))))) (Zc (e2 dSub (e2 dIx (Zf 2) (eC (.int 1))) (e2 dMul (Zf 3) (e2 dIx (Zf 0) (eC (.int 1))))) aNil))))))
noncomputable def F_first_behind:List D->Sto->Out D:=fnF Zap 2 2
noncomputable def ZaC:Sv:=(Zw (ZJ (gNm 3) (Zda (e2 dDiv (Zda (Zf 0)) (Zf 1))))
 (Zw (ZaO (ZhJ mApp (Zf 2) (Zc (Zf 3) aNil)))
 (Zb5 0 1 (Zc (Zf 1) (Zc (e2 dSub (e2 dMul (Zf 3) (Zf 1)) (Zf 0)) aNil)))))
noncomputable def ZbJ:Sv:=(Zw (ZJ (gNm 2) (ZbB aNil))
 (Zw (sWh (tv (e2 dNe (Zf 1) (eC (.int 0)))) ZaC)
 (ZM (Zf 2))))
noncomputable def F_expanded:List D->Sto->Out D:=fnF ZbJ 2 2
noncomputable def ZkT:Sv:=(Zw (sIf (tv (e2 dLe (Zj F_crossed (Zc (Zf 0) (Zc (Zf 1) aNil))) (eC (.int 0)))) (Zat (PySem.Str.ofString "NoWedge") (Zc (eC (.str (PySem.Str.ofString "the two rays of a wedge, crossed, come to more than 0"))) aNil)) sNil)
 (ZM (Zj F_expanded (Zc (Zj F_crossed (Zc (Zf 0) (Zc (Zf 1) aNil))) (Zc (Zj F_crossed (Zc (Zj F_first_behind (Zc (Zf 0) (Zc (Zf 1) aNil))) (Zc (Zf 1) aNil))) aNil)))))
noncomputable def F_row:List D->Sto->Out D:=fnF ZkT 2 0
noncomputable def ZaV:Sv:=(Zw (ZaO (ZhJ mApp (Zf 3) (Zc (Zf 5) aNil)))
 (Zb5 4 5 (Zc (Zf 5) (Zc (ZU (Zc (e2 dSub (e2 dMul (Zf 6) (e2 dIx (Zf 5) (eC (.int 0)))) (e2 dIx (Zf 4) (eC (.int 0)))) (Zc (e2 dSub (e2 dMul (Zf 6) (e2 dIx (Zf 5) (eC (.int 1)))) (e2 dIx (Zf 4) (eC (.int 1)))) aNil))) aNil))))
noncomputable def Zcr:Sv:=(Zw (ZJ (gNm 2) (Zj F_row (Zc (Zf 0) (Zc (Zf 1) aNil))))
 (Zw (ZJ (gNm 3) (ZbB aNil))
 (Zw (Zb5 4 5 (Zc (Zf 0) (Zc (Zj F_first_behind (Zc (Zf 0) (Zc (Zf 1) aNil))) aNil)))
 (Zw (Zl7 (gNm 6) (Zf 2) ZaV)
 (ZM (Zf 3))))))
noncomputable def F_between:List D->Sto->Out D:=fnF Zcr 2 5
end CB
end
section
namespace DL
theorem Zhn {a b:Int}(h:b≠0):(a - a.fdiv b * b).natAbs < b.natAbs:=by
 have e:a - a.fdiv b * b=a.fmod b:=by rw[Int.fmod_def,Int.mul_comm]
 rw[e]
 by_cases c:0 < b
 ·have h1:=Int.fmod_lt_of_pos a c
  have h2:0<=a.fmod b:=by rw[Int.fmod_eq_emod_of_nonneg _ (by omega)];exact Int.emod_nonneg _ h
  omega
 ·have e2:a.fmod b= -((-a).fmod (-b)):=by rw[Int.neg_fmod_neg];omega
  have h1:=Int.fmod_lt_of_pos (-a) (show 0 < -b by omega)
  have h2:0<=(-a).fmod (-b):=by rw[Int.fmod_eq_emod_of_nonneg _ (by omega)];exact Int.emod_nonneg _ (by omega)
  omega
theorem ZkU {a b:Int}(h:b≠0):(a.fdiv b).natAbs<=a.natAbs + 1:=by
 have h1:=Zhn (a:=a) h
 generalize hr:a - a.fdiv b * b=r at h1;have h2:(a.fdiv b * b).natAbs<=a.natAbs + r.natAbs:=by omega
 rw[Int.natAbs_mul] at h2
 apply Classical.byContradiction
 intro c;have h3:(a.natAbs + 2) * b.natAbs<=(a.fdiv b).natAbs * b.natAbs:=Nat.mul_le_mul_right _ (by omega)
 have h4:a.natAbs * 1<=a.natAbs * b.natAbs:=Nat.mul_le_mul_left _ (by omega)
 rw[Nat.add_mul] at h3;omega
noncomputable def hj (t b:Int):List Int:=if h:0 < b then -((-t) / b) :: hj b (-((-t) / b) * b - t) else []
termination_by b.toNat
decreasing_by
 have h1:=Int.emod_nonneg (-t) (show b≠0 by omega)
 have h2:=Int.emod_lt_of_pos (-t) h
 have h3:=Int.emod_add_mul_ediv (-t) b
 rw[Int.neg_mul,Int.mul_comm];omega
theorem ZaD {t b:Int}(h:0 < b):0<= -((-t) / b) * b - t/\ -((-t) / b) * b - t < b:=by
 have h1:=Int.emod_nonneg (-t) (show b≠0 by omega)
 have h2:=Int.emod_lt_of_pos (-t) h
 have h3:=Int.emod_add_mul_ediv (-t) b
 rw[Int.neg_mul,Int.mul_comm];omega
theorem Zho {t b:Int}(h:0 < b)(ht:b < t):2<= -((-t) / b):=by
 have:=(ZaD (t:=t) h).1
 apply Classical.byContradiction
 intro c
 have: -((-t) / b) * b<=1 * b:=Int.mul_le_mul_of_nonneg_right (by omega) (by omega)
 omega
theorem Zju: ∀ (n:Nat) (t b:Int),b.toNat=n->(hj t b).length<=n:=by
 intro n
 induction n using Nat.strongRecOn with
 |ind n ih=>
  intro t b hb;unfold hj
  by_cases h:0 < b
  ·rw[dif_pos h]
   have:=ZaD (t:=t) h
   have:=ih (-((-t) / b) * b - t).toNat (by omega) b _ rfl
   simp only[List.length_cons];omega
  ·rw[dif_neg h]
   simp
end DL
namespace CB
open PySem PySem.Spec L2 DL
section
variable {Q:D->Sto->Prop}{E:Str->Sto->Prop}{M:Sto}{a b c d i:Int}{n m:Nat}{u v w:Pt}
noncomputable abbrev Bd (b:Int)(p:Pt):Prop:=(-b<=p.1/\p.1<=b)/\ -b<=p.2/\p.2<=b
theorem Zn0 {j:Int}(h:j≠0/\ -(18446744073709551616) < j/\j < 18446744073709551616):wO (dDiv (.int i) (.int j) M) Q E=Q (.int (i.fdiv j)) M:=by
 have:Z2 j:=by
  refine ⟨h.1,?_⟩
  have:j.natAbs.log2 < 65:=(Nat.log2_lt (by omega)).mpr (by omega)
  omega
 show wO (if Z2 j then _ else _) Q E=_
 rw[if_pos this];rfl
theorem Zhp (hg:Int.gcd u.1 u.2=1)(hb:Bd 1000000 u)(q: ∀ w:Pt,X u w=1->Q (pr w.1 w.2) M):wO (F_partner [pr u.1 u.2] M) Q E:=by
 simp![F_partner,Zcq];refine ZkO (fun k ρ M'=>M'=M/\ ∃ (h l:Int) (f s:Pt) (x:Option D),ρ=[some (pr u.1 u.2),some (.int h),some (.int l),some (pr f.1 f.2),some (pr s.1 s.2),x]/\k=l.natAbs/\Int.gcd h l=1/\(-1000000<=h/\h<=1000000)/\(-1000000<=l/\l<=1000000)/\X u f=h/\X u s=l) ?_ u.2.natAbs _ _ ⟨rfl,u.1,u.2,(0,1),(-1,0),_,rfl,rfl,hg,hb.1,hb.2,by simp[X],by simp[X]⟩
 rintro k ρ M ⟨rfl,h,l,f,s,x,rfl,rfl,g,hh,hl,e1,e2⟩
 simp![Zn];refine ZnQ (fun hl0=> ?_) (fun hl0=> ?_)
 ·have f1:=Zhn (a:=h) hl0
  have f2:=ZkU (a:=h) hl0
  simp![ZaU,Zn0];refine ⟨(h - h.fdiv l * l).natAbs,f1,l,h - h.fdiv l * l,s,(f.1 - h.fdiv l * s.1,f.2 - h.fdiv l * s.2),_,rfl,rfl,?_,hl,by omega,e2,?_⟩
  ·rw[Int.gcd_sub_mul_right_right,Int.gcd_comm]
   exact g
  ·unfold X at *
   simp only
   grind
 ·subst hl0
  rw[Int.gcd_zero_right] at g;simp![Zn]
  have:=q (h * f.1,h * f.2) (by
   have hh2:h * h=1:=by
    have:h=1\/h= -1:=by omega
    rcases this with z | z<;>rw[z]<;>rfl
   unfold X at *
   simp only
   grind)
  exact this
theorem Zaw (h:Bd 1000000 u\/Bd 1000000 v):wO (F_crossed [pr u.1 u.2,pr v.1 v.2] M) Q E=Q (.int (X u v)) M:=by
 rcases h with h | h
 ·simp![F_crossed,Z9]
  rfl
 ·simp![F_crossed,Z9]
  rfl
structure Wg (u v:Pt):Prop where
 gu:Int.gcd u.1 u.2=1
 gv:Int.gcd v.1 v.2=1
 bu:Bd 1000 u
 bv:Bd 1000 v
 pos:0 < X u v
theorem Wg.le (h:Wg u v):X u v<=2000000:=by
 obtain ⟨_,_,⟨⟨a1,a2⟩,a3,a4⟩,⟨⟨b1,b2⟩,b3,b4⟩,_⟩:=h
 have m: ∀ x y:Int,-1000<=x->x<=1000-> -1000<=y->y<=1000->(x * y).natAbs<=1000 * 1000:=by
  intro x y _ _ _ _;rw[Int.natAbs_mul];exact Nat.mul_le_mul (by omega) (by omega)
 have p1:=m u.1 v.2 a1 a2 b3 b4
 have p2:=m u.2 v.1 a3 a4 b1 b2
 unfold X;omega
theorem Zbc (h:Wg u v)(q: ∀ w:Pt,X u w=1->0<=X w v->X w v < X u v->Q (pr w.1 w.2) M):wO (F_first_behind [pr u.1 u.2,pr v.1 v.2] M) Q E:=by
 have bu:Bd 1000000 u:=by have:=h.bu;unfold Bd at *;omega
 have bv:Bd 1000000 v:=by have:=h.bv;unfold Bd at *;omega
 have hp:=h.pos
 have hl:=h.le
 simp![F_first_behind,Zap];refine Zhp h.gu bu fun w e=> ?_
 simp![Zaw (u:=w) (v:=v) (.inr bv),Zaw (u:=u) (v:=v) (.inr bv)];have m1:=Int.emod_nonneg (X w v) (show X u v≠0 by omega)
 have m2:=Int.emod_lt_of_pos (X w v) hp
 have m3:=Int.emod_add_mul_ediv (X w v) (X u v)
 generalize X w v / X u v=k at *;have e3:X (w.1 - k * u.1,w.2 - k * u.2) v=X w v % X u v:=by
  have:X (w.1 - k * u.1,w.2 - k * u.2) v=X w v - X u v * k:=by unfold X;simp only;grind
  omega
 exact q (w.1 - k * u.1,w.2 - k * u.2) (by unfold X at *;simp only;grind) (by omega) (by omega)
structure Fb (u v w:Pt):Prop where
 one:X u w=1
 lo:0<=X w v
 hi:X w v < X u v
theorem Fb.uniq {w w':Pt}(h:Fb u v w)(k:Fb u v w'):w=w':=by
 obtain ⟨h1,a1,a2⟩:=h
 obtain ⟨h2,b1,b2⟩:=k
 have e1:w'.1=X w' w * u.1 + w.1/\w'.2=X w' w * u.2 + w.2:=by unfold X at *;constructor<;>grind
 have e2:X w' v=X w' w * X u v + X w v:=by
  have:X w' v=X (X w' w * u.1 + w.1,X w' w * u.2 + w.2) v:=by rw[<- e1.1,<- e1.2]
  rw[this];unfold X
  simp only
  grind
 generalize X w' w=k at *;have k0:k=0:=by
  apply Classical.byContradiction
  intro c
  by_cases p:1<=k
  ·have:1 * X u v<=k * X u v:=Int.mul_le_mul_of_nonneg_right p (by omega)
   omega
  ·have:k * X u v<=(-1) * X u v:=Int.mul_le_mul_of_nonneg_right (by omega) (by omega)
   omega
 rw[k0] at e1
 apply Prod.ext<;>omega
theorem Zqt (h:Wg u v): ∃ w,Fb u v w:=by
 obtain ⟨d,M',_,w,hw⟩:=Zg0 (Zbc (M:=[]) (Q:=fun _ _=> ∃ w,Fb u v w) h fun w a b c=>⟨w,a,b,c⟩)
 exact ⟨w,hw⟩
theorem Zn1 (h:Wg u v)(hw:Fb u v w):wO (F_first_behind [pr u.1 u.2,pr v.1 v.2] M) Q E=Q (pr w.1 w.2) M:=by
 obtain ⟨d,M',e,e1,e2⟩:=Zg0 (Zbc (M:=M) (Q:=fun d M'=>d=pr w.1 w.2/\M'=M) h fun w' a b c=>⟨by rw[hw.uniq ⟨a,b,c⟩],rfl⟩)
 rw[e,e1,e2];rfl
theorem ZfC {t b:Int}(hb:0<=b)(hl:b<=90000)(q:Q (.ref M.length) (M ++ [.lst (nts (hj t b))])):wO (F_expanded [.int t,.int b] M) Q E:=by
 simp![F_expanded,ZbJ];refine ZkO (fun k ρ M'=> ∃ (t' b':Int) (xs:List Int) (x:Option D),ρ=[some (.int t'),some (.int b'),some (.ref M.length),x]/\M'=M ++ [.lst (nts xs)]/\0<=b'/\b'<=90000/\k=b'.toNat/\xs ++ hj t' b'=hj t b/\xs.length + b'.toNat<=90000) ?_ b.toNat _ _ ⟨t,b,[],_,rfl,rfl,hb,hl,rfl,rfl,by simp;omega⟩
 rintro k ρ M' ⟨t',b',xs,x,rfl,rfl,h0,h1,rfl,e,hx⟩
 simp![Zn];refine ZnQ (fun hl0=> ?_) (fun hl0=> ?_)
 ·have n1:=ZaD (t:=t') (show 0 < b' by omega)
  simp![ZaC];refine ⟨by omega,(-(-t' / b') * b' - t').toNat,by omega,_,_,xs ++ [-(-t' / b')],_,rfl,rfl,n1.1,by omega,rfl,?_,by simp;omega⟩
  rw[<- e]
  conv=>rhs;rw[hj,dif_pos (show 0 < b' by omega)]
  simp
 ·subst hl0
  simp![Zn]
  have:hj t' 0=[]:=by rw[hj,dif_neg (by omega)]
  rw[this,List.append_nil] at e;rw[e];exact q
theorem Zqu (h:Wg u v)(hw:Fb u v w)(hl:X u v<=90000)(q:Q (.ref M.length) (M ++ [.lst (nts (hj (X u v) (X w v)))])):wO (F_row [pr u.1 u.2,pr v.1 v.2] M) Q E:=by
 have bv:Bd 1000000 v:=by have:=h.bv;unfold Bd at *;omega
 have hp:=h.pos
 simp![F_row,ZkT,Zaw (u:=u) (v:=v) (.inr bv),Zaw (u:=w) (v:=v) (.inr bv),Zn1 h hw];exact ZfC hw.lo (by have:=hw.hi;omega) q
noncomputable def btw:Pt->Pt->List Int->List Pt
 |_,_,[]=>[]
 |a,r,k :: ks=>r :: btw r (k * r.1 - a.1,k * r.2 - a.2) ks
theorem Zhq: ∀ (a r:Pt) (ks:List Int),(btw a r ks).length=ks.length
 |_,_,[]=>rfl
 |a,r,k :: ks=>by rw[btw,List.length_cons,Zhq,List.length_cons]
theorem ZiL: ∀ (n:Nat) (t b:Int),b.toNat=n->0<=b->b < t-> ∀ k∈hj t b,2<=k/\k<=t:=by
 intro n
 induction n using Nat.strongRecOn with
 |ind n ih=>
  intro t b hb h0 ht k hk;unfold hj at hk
  by_cases h:0 < b
  ·rw[dif_pos h] at hk
   have nx:=ZaD (t:=t) h
   rcases List.mem_cons.mp hk with z | z
   ·rw[z]
    refine ⟨Zho h ht,?_⟩
    apply Classical.byContradiction
    intro c
    have:(t + 1) * b<= -((-t) / b) * b:=Int.mul_le_mul_of_nonneg_right (by omega) (by omega)
    have:t * 1<=t * b:=Int.mul_le_mul_of_nonneg_left (by omega) (by omega)
    rw[Int.add_mul] at *;omega
   ·have:=ih (-((-t) / b) * b - t).toNat (by omega) b _ rfl nx.1 nx.2 k z
    omega
  ·rw[dif_neg h] at hk
   simp at hk
theorem Zhr (h:Wg u v)(hw:Fb u v w)(hl:X u v<=90000)(q:Q (.ref (M.length + 1)) (M ++ [.lst (nts (hj (X u v) (X w v))),.lst (prs (btw u w (hj (X u v) (X w v))))])):wO (F_between [pr u.1 u.2,pr v.1 v.2] M) Q E:=by
 simp![F_between,Zcr];refine Zqu h hw hl ?_
 have sm:=ZiL _ (X u v) (X w v) rfl hw.lo hw.hi
 have ln:=Zju _ (X u v) (X w v) rfl
 have hi:=hw.hi
 generalize hj (X u v) (X w v)=ks at *;simp![Zn1 h hw];refine Zg3 (fun i ρ M'=> ∃ (a r:Pt) (pre suf:List Int) (dn:List Pt) (x:Option D),ρ=[some (pr u.1 u.2),some (pr v.1 v.2),some (.ref M.length),some (.ref (M.length + 1)),some (pr a.1 a.2),some (pr r.1 r.2),x]/\M'=M ++ [.lst (nts ks),.lst (prs dn)]/\ks=pre ++ suf/\pre.length=i/\btw u w ks=dn ++ btw a r suf/\dn.length=i) (n:=M.length) (xs:=nts ks) (by rw[ZdR];rfl) ⟨u,w,[],ks,[],_,rfl,rfl,rfl,rfl,rfl,rfl⟩ (fun i ρ M' ⟨_,_,_,_,_,_,_,e,_⟩=>by rw[e,ZdR];rfl) ?_ ?_
 ·rintro i ρ M' hi' ⟨a,r,pre,suf,dn,x,rfl,rfl,e1,e2,e3,e4⟩
  rw[Zc1] at hi';obtain ⟨k,suf,rfl⟩: ∃ k s,suf=k :: s:=by
   cases suf with
   |nil=>rw[e1] at hi';simp at hi';omega
   |cons k s=>exact ⟨k,s,rfl⟩
  have ek:(nts ks)[i]'(by rw[Zc1];exact hi')= .int k:=by
   subst e1 e2
   simp[nts]
  rw[ek];have hk:=sm k (by rw[e1];simp)
  simp![ZaV];refine ⟨by omega,r,(k * r.1 - a.1,k * r.2 - a.2),pre ++ [k],suf,dn ++ [(r.1,r.2)],_,rfl,rfl,by rw[e1];simp,by simp;omega,?_,by simp;omega⟩
  rw[e3,btw]
  simp
 ·rintro ρ M' ⟨a,r,pre,suf,dn,x,rfl,rfl,e1,e2,e3,e4⟩
  have:suf=[]:=by
   have:=congrArg List.length e1
   rw[Zc1] at e2
   simp at this
   cases suf with
   |nil=>rfl
   |cons _ _=>simp at this;omega
  subst this;rw[btw,List.append_nil] at e3;simp![Zn];rw[<- e3];exact q
end
end CB
end
section
namespace CB
open PySem PySem.Spec L2 DL
section
variable {Q:D->Sto->Prop}{E:Str->Sto->Prop}{M:Sto}{a b c d i:Int}{n m:Nat}{u v w:Pt}
theorem ZrQ (hu:Bd 200 u)(hv:Bd 200 v): -80000<=X u v/\X u v<=80000:=by
 obtain ⟨⟨a1,a2⟩,a3,a4⟩:=hu
 obtain ⟨⟨b1,b2⟩,b3,b4⟩:=hv
 have m: ∀ x y:Int,-200<=x->x<=200-> -200<=y->y<=200->(x * y).natAbs<=200 * 200:=by
  intro x y _ _ _ _;rw[Int.natAbs_mul];exact Nat.mul_le_mul (by omega) (by omega)
 have p1:=m u.1 v.2 a1 a2 b3 b4
 have p2:=m u.2 v.1 a3 a4 b1 b2
 unfold X;omega
noncomputable def Ch:List Pt->Prop
 |a :: b :: r=>X a b=1/\Ch (b :: r)
 |_=>True
theorem Zqv: ∀ (n:Nat) (t b:Int) (a r v:Pt),b.toNat=n->0<=b->b < t->X a r=1->X a v=t->X r v=b->Int.gcd v.1 v.2=1->Ch (a :: (btw a r (hj t b) ++ [v])):=by
 intro n
 induction n using Nat.strongRecOn with
 |ind n ih=>
  intro t b a r v hb h0 ht h1 h2 h3 gv;unfold hj
  by_cases h:0 < b
  ·rw[dif_pos h]
   have nx:=ZaD (t:=t) h
   generalize hk: -((-t) / b)=k at *;have q:=ih (k * b - t).toNat (by omega) b (k * b - t) r (k * r.1 - a.1,k * r.2 - a.2) v rfl nx.1 nx.2 (by unfold X at *;simp only;grind) h3 (by unfold X at *;simp only;grind) gv
   rw[btw];exact ⟨h1,q⟩
  ·rw[dif_neg h,btw]
   have b0:b=0:=by omega
   have e1:v.1=t * r.1/\v.2=t * r.2:=by unfold X at *;constructor<;>grind
   rw[e1.1,e1.2,Int.gcd_mul_left] at gv;have t1:t.natAbs=1:=Nat.eq_one_of_mul_eq_one_right gv
   refine ⟨by rw[h2];omega,trivial⟩
theorem ZkV (h:Wg u v)(hw:Fb u v w):Ch (u :: (btw u w (hj (X u v) (X w v)) ++ [v])):=Zqv _ _ _ u w v rfl hw.lo hw.hi hw.one rfl rfl h.gv
noncomputable def Tr (a b d:Pt):Prop:= ∃ k:Int,2<=k/\a.1 + d.1=k * b.1/\a.2 + d.2=k * b.2
noncomputable def Cv:List Pt->Prop
 |a :: b :: d :: r=>Tr a b d/\Cv (b :: d :: r)
 |_=>True
theorem Zn2: ∀ (n:Nat) (t b:Int) (a r v:Pt),b.toNat=n->0<=b->b < t->X a r=1->X a v=t->X r v=b->Int.gcd v.1 v.2=1->Cv (a :: (btw a r (hj t b) ++ [v]))/\ ∃ rest,btw a r (hj t b) ++ [v]=r :: rest:=by
 intro n
 induction n using Nat.strongRecOn with
 |ind n ih=>
  intro t b a r v hb h0 ht h1 h2 h3 gv;unfold hj
  by_cases h:0 < b
  ·rw[dif_pos h]
   have nx:=ZaD (t:=t) h
   have k2:=Zho h ht
   generalize hk: -((-t) / b)=k at *;obtain ⟨q,rest,e⟩:=ih (k * b - t).toNat (by omega) b (k * b - t) r (k * r.1 - a.1,k * r.2 - a.2) v rfl nx.1 nx.2 (by unfold X at *;simp only;grind) h3 (by unfold X at *;simp only;grind) gv
   rw[btw];refine ⟨?_,_,rfl⟩
   show Cv (a :: r :: (btw r (k * r.1 - a.1,k * r.2 - a.2) (hj b (k * b - t)) ++ [v]))
   rw[e] at q ⊢;exact ⟨⟨k,k2,by simp only;omega,by simp only;omega⟩,q⟩
  ·rw[dif_neg h,btw]
   have b0:b=0:=by omega
   have e1:v.1=t * r.1/\v.2=t * r.2:=by unfold X at *;constructor<;>grind
   have gv':=gv
   rw[e1.1,e1.2,Int.gcd_mul_left] at gv';have t1:t.natAbs=1:=Nat.eq_one_of_mul_eq_one_right gv'
   have tt:t=1:=by omega
   rw[tt] at e1
   have:v=r:=by apply Prod.ext<;>omega
   rw[this];exact ⟨trivial,[],rfl⟩
noncomputable def dt (f p:Pt):Int:=f.1 * p.1 + f.2 * p.2
end
section
variable {u v w:Pt}
theorem Zqw: ∀ (n:Nat) (t b:Int) (a r v:Pt),b.toNat=n->0<=b->b < t->X r v=b->X a v=t-> ∀ x∈btw a r (hj t b),0<=X x v/\X x v<=t:=by
 intro n
 induction n using Nat.strongRecOn with
 |ind n ih=>
  intro t b a r v hb h0 ht h3 h2 x hx;unfold hj at hx
  by_cases h:0 < b
  ·rw[dif_pos h] at hx
   have nx:=ZaD (t:=t) h
   generalize -((-t) / b)=k at *;rw[btw] at hx
   rcases List.mem_cons.mp hx with z | z
   ·rw[z,h3];omega
   ·have:=ih (k * b - t).toNat (by omega) b (k * b - t) r (k * r.1 - a.1,k * r.2 - a.2) v rfl nx.1 nx.2 (by unfold X at *;simp only;grind) h3 x z
    omega
  ·rw[dif_neg h,btw] at hx
   simp at hx
theorem Zqx {u:Pt}: ∀ (n:Nat) (t b:Int) (a r v:Pt),b.toNat=n->0<=b->b < t->X a r=1->X a v=t->X r v=b->Int.gcd v.1 v.2=1->0<=X u a->X u a<=X u r->X u r<=X u v/\ ∀ x∈btw a r (hj t b),0<=X u x/\X u x<=X u v:=by
 intro n
 induction n using Nat.strongRecOn with
 |ind n ih=>
  intro t b a r v hb h0 ht h1 h2 h3 gv p1 p2;unfold hj
  by_cases h:0 < b
  ·rw[dif_pos h]
   have nx:=ZaD (t:=t) h
   have k2:=Zho h ht
   generalize -((-t) / b)=k at *;have e:X u (k * r.1 - a.1,k * r.2 - a.2)=k * X u r - X u a:=by unfold X;simp only;grind
   have m:2 * X u r<=k * X u r:=Int.mul_le_mul_of_nonneg_right k2 (by omega)
   obtain ⟨q1,q2⟩:=ih (k * b - t).toNat (by omega) b (k * b - t) r (k * r.1 - a.1,k * r.2 - a.2) v rfl nx.1 nx.2 (by unfold X at *;simp only;grind) h3 (by unfold X at *;simp only;grind) gv (by omega) (by omega)
   refine ⟨by omega,fun x hx=> ?_⟩
   rw[btw] at hx
   rcases List.mem_cons.mp hx with z | z
   ·rw[z];omega
   ·exact q2 x z
  ·rw[dif_neg h,btw]
   have b0:b=0:=by omega
   have e1:v.1=t * r.1/\v.2=t * r.2:=by unfold X at *;constructor<;>grind
   have gv':=gv
   rw[e1.1,e1.2,Int.gcd_mul_left] at gv';have t1:t.natAbs=1:=Nat.eq_one_of_mul_eq_one_right gv'
   have tt:t=1:=by omega
   rw[tt] at e1
   have:v=r:=by apply Prod.ext<;>omega
   rw[this];exact ⟨Int.le_refl _,fun x hx=>by simp at hx⟩
end
end CB
end
section
namespace CA
open PySem PySem.Spec L2 DL
noncomputable def ZdY:Sv:=(Zw (ZJ (gNm 2) (eC (.int 0)))
 (Zw (sIf (tv (e2 dLt (Zf 1) (Zj bLen (Zc (Zf 0) aNil)))) (ZJ (gNm 2) (Zj bAbs (Zc (e2 dIx (Zf 0) (Zf 1)) aNil))) sNil)
 (Zw (ZJ (gNm 3) (e2 dAdd (eC (.int 1)) (e2 dMod (e2 dAdd (e2 dAdd (e2 dAdd (e2 dMod (Zf 2) (eC (.int 2147483647))) (e2 dMul (e2 dMul (eC (.int 7919)) (Zf 1)) (Zf 1))) (e2 dMul (eC (.int 11)) (Zf 1))) (eC (.int 5))) (eC (.int 2147483646)))))
 (ZM (ZbB (Zc (e2 dMul (Zf 2) (Zj bInt (Zc (e2 dGe (Zf 2) (e2 dPow (eC (.int 10)) (eC (.int 18)))) aNil))) (Zc (Zf 3) aNil)))))))
noncomputable def F_law_bag:List D->Sto->Out D:=fnF ZdY 2 2
noncomputable def Zcs:Sv:=(Zw (sIf (tv (e2 dGt (e2 dIx (Zf 0) (eC (.int 0))) (eC (.int 0)))) (Zw (ZJ (gNm 2) (e2 dMod (e2 dIx (Zf 0) (eC (.int 0))) (Zf 1)))
 (Zw (Zd9 (Zf 0) (eC (.int 0)) (e2 dDiv (e2 dIx (Zf 0) (eC (.int 0))) (Zf 1)))
 (ZM (Zf 2)))) sNil)
 (Zw (Zd9 (Zf 0) (eC (.int 1)) (e2 dMod (e2 dMul (e2 dIx (Zf 0) (eC (.int 1))) (eC (.int 48271))) (eC (.int 2147483647))))
 (ZM (e2 dMod (e2 dDiv (e2 dMod (e2 dMul (e2 dIx (Zf 0) (eC (.int 1))) (eC (.int 16807))) (eC (.int 2147483647))) (eC (.int 32))) (Zf 1)))))
noncomputable def F_law_digit:List D->Sto->Out D:=fnF Zcs 2 1
noncomputable def Zct:Sv:=(Zw (ZJ (gTp (gCs (gNm 2) (gCs (gNm 3) gNl))) (Zf 0))
 (ZM (ZU (Zc (e2 dAdd (e2 dMul (e2 dIx (Zf 2) (eC (.int 0))) (e2 dIx (Zf 1) (eC (.int 0)))) (e2 dMul (e2 dIx (Zf 2) (eC (.int 1))) (e2 dIx (Zf 1) (eC (.int 1))))) (Zc (e2 dAdd (e2 dMul (e2 dIx (Zf 3) (eC (.int 0))) (e2 dIx (Zf 1) (eC (.int 0)))) (e2 dMul (e2 dIx (Zf 3) (eC (.int 1))) (e2 dIx (Zf 1) (eC (.int 1))))) aNil)))))
noncomputable def F_law_led:List D->Sto->Out D:=fnF Zct 2 2
noncomputable def ZbK:Sv:=(Zw (ZJ (gNm 2) (Zj F_law_led (Zc (Zf 1) (Zc (ZU (Zc (e2 dIx (e2 dIx (Zf 0) (eC (.int 0))) (eC (.int 0))) (Zc (e2 dIx (e2 dIx (Zf 0) (eC (.int 1))) (eC (.int 0))) aNil))) aNil))))
 (Zw (ZJ (gNm 3) (Zj F_law_led (Zc (Zf 1) (Zc (ZU (Zc (e2 dIx (e2 dIx (Zf 0) (eC (.int 0))) (eC (.int 1))) (Zc (e2 dIx (e2 dIx (Zf 0) (eC (.int 1))) (eC (.int 1))) aNil))) aNil))))
 (ZM (ZU (Zc (ZU (Zc (e2 dIx (Zf 2) (eC (.int 0))) (Zc (e2 dIx (Zf 3) (eC (.int 0))) aNil))) (Zc (ZU (Zc (e2 dIx (Zf 2) (eC (.int 1))) (Zc (e2 dIx (Zf 3) (eC (.int 1))) aNil))) aNil))))))
noncomputable def F_law_both:List D->Sto->Out D:=fnF ZbK 2 2
noncomputable def Z4:Sv:=(Zw (ZJ (gNm 3) (e2 dSub (Zj F_law_digit (Zc (Zf 0) (Zc (eC (.int 7)) aNil))) (eC (.int 3))))
 (Zw (ZJ (gNm 4) (ZbB (Zc (ZU (Zc (ZU (Zc (eC (.int 1)) (Zc (Zf 3) aNil))) (Zc (ZU (Zc (eC (.int 0)) (Zc (eC (.int 1)) aNil))) aNil))) (Zc (ZU (Zc (ZU (Zc (eC (.int 1)) (Zc (eC (.int 0)) aNil))) (Zc (ZU (Zc (Zf 3) (Zc (eC (.int 1)) aNil))) aNil))) (Zc (ZU (Zc (ZU (Zc (eC (.int 0)) (Zc (eC (.int 1)) aNil))) (Zc (ZU (Zc (eC (.int 1)) (Zc (eC (.int 0)) aNil))) aNil))) (Zc (ZU (Zc (ZU (Zc (eC (.int 0)) (Zc (Zda (eC (.int 1))) aNil))) (Zc (ZU (Zc (eC (.int 1)) (Zc (eC (.int 0)) aNil))) aNil))) aNil))))))
 (ZJ (gNm 1) (Zj F_law_both (Zc (Zf 1) (Zc (e2 dIx (Zf 4) (Zj F_law_digit (Zc (Zf 0) (Zc (eC (.int 4)) aNil)))) aNil))))))
noncomputable def ZaE:Sv:=(Zw (ZJ (gNm 1) (ZU (Zc (ZU (Zc (eC (.int 1)) (Zc (eC (.int 0)) aNil))) (Zc (ZU (Zc (eC (.int 0)) (Zc (eC (.int 1)) aNil))) aNil))))
 (Zw (Zba (gNm 2) (Zc (Zj F_law_digit (Zc (Zf 0) (Zc (eC (.int 4)) aNil))) aNil) Z4)
 (ZM (Zf 1))))
noncomputable def F_law_turning:List D->Sto->Out D:=fnF ZaE 1 4
noncomputable def ZaB:Sv:=(ZM (e2 dSub (e2 dMul (e2 dIx (Zf 0) (eC (.int 0))) (e2 dIx (Zf 1) (eC (.int 1)))) (e2 dMul (e2 dIx (Zf 0) (eC (.int 1))) (e2 dIx (Zf 1) (eC (.int 0))))))
noncomputable def F_law_cross:List D->Sto->Out D:=fnF ZaB 2 0
noncomputable def Zcu:Sv:=(ZM (ZU (Zc (e2 dAdd (e2 dIx (Zf 0) (eC (.int 0))) (e2 dIx (Zf 1) (eC (.int 0)))) (Zc (e2 dAdd (e2 dIx (Zf 0) (eC (.int 1))) (e2 dIx (Zf 1) (eC (.int 1)))) aNil))))
noncomputable def F_law_sum:List D->Sto->Out D:=fnF Zcu 2 0
noncomputable def Za3:Sv:=(ZM (Zam (e2 dLe (Zj bAbs (Zc (e2 dIx (Zf 0) (eC (.int 0))) aNil)) (eC (.int 200))) (e2 dLe (Zj bAbs (Zc (e2 dIx (Zf 0) (eC (.int 1))) aNil)) (eC (.int 200)))))
noncomputable def F_law_near:List D->Sto->Out D:=fnF Za3 1 0
noncomputable def ZaF:Sv:=(Zw (ZJ (gNm 3) (Zan (iSq (Zf 0)) 1 [1] (gNm 0) (fun _ M=> .ok true M) (Zj F_law_led (Zc (Zf 1) (Zc (Zf 0) aNil)))))
 (Zw (sIf (Z1 (tv (Zj bAll (Zc (Zan (iSq (Zf 3)) 1 [] (gNm 0) (fun _ M=> .ok true M) (Zj F_law_near (Zc (Zf 0) aNil))) aNil)))) (ZJ (gNm 3) (Zj bList (Zc (Zf 0) aNil))) (sIf (tv (e2 dLt (Zj F_law_cross (Zc (e2 dIx (Zf 3) (eC (.int 0))) (Zc (e2 dIx (Zf 3) (eC (.int 1))) aNil))) (eC (.int 0)))) (ZJ (gNm 3) (eRv (Zf 3))) sNil))
 (ZM (e2 dAdd (eSl (Zf 3) (oSo (Zf 2)) oNo) (eSl (Zf 3) oNo (oSo (Zf 2)))))))
noncomputable def F_law_brought:List D->Sto->Out D:=fnF ZaF 3 1
noncomputable def Zaa:Sv:=(Zw (ZJ (gNm 4) (Zj F_law_digit (Zc (Zf 0) (Zc (Zj bLen (Zc (Zf 2) aNil)) aNil))))
 (Zw (ZJ (gNm 5) (Zj F_law_sum (Zc (e2 dIx (Zf 2) (Zf 4)) (Zc (e2 dIx (Zf 2) (e2 dMod (e2 dAdd (Zf 4) (eC (.int 1))) (Zj bLen (Zc (Zf 2) aNil)))) aNil))))
 (sIf (Zbe (tv (Zj F_law_near (Zc (Zf 5) aNil))) (tv (e2 dLt (Zj bLen (Zc (Zf 2) aNil)) (eC (.int 14))))) (ZJ (gNm 2) (e2 dAdd (e2 dAdd (eSl (Zf 2) oNo (oSo (e2 dAdd (Zf 4) (eC (.int 1))))) (ZbB (Zc (Zf 5) aNil))) (eSl (Zf 2) (oSo (e2 dAdd (Zf 4) (eC (.int 1)))) oNo))) sNil)))
noncomputable def ZaW:Sv:=(Zw (ZJ (gNm 1) (Zj F_law_digit (Zc (Zf 0) (Zc (e2 dIx (ZbB (Zc (eC (.int 4)) (Zc (eC (.int 4)) (Zc (eC (.int 4)) (Zc (eC (.int 4)) (Zc (eC (.int 4)) (Zc (eC (.int 4)) (Zc (eC (.int 12)) (Zc (eC (.int 201)) aNil))))))))) (Zj F_law_digit (Zc (Zf 0) (Zc (eC (.int 8)) aNil)))) aNil))))
 (Zw (ZJ (gNm 2) (e2 dIx (ZbB (Zc (ZbB (Zc (ZU (Zc (eC (.int 1)) (Zc (eC (.int 0)) aNil))) (Zc (ZU (Zc (eC (.int 0)) (Zc (eC (.int 1)) aNil))) (Zc (ZU (Zc (Zda (eC (.int 1))) (Zc (Zda (eC (.int 1))) aNil))) aNil)))) (Zc (ZbB (Zc (ZU (Zc (eC (.int 1)) (Zc (eC (.int 0)) aNil))) (Zc (ZU (Zc (eC (.int 0)) (Zc (eC (.int 1)) aNil))) (Zc (ZU (Zc (Zda (eC (.int 1))) (Zc (Zf 1) aNil))) (Zc (ZU (Zc (eC (.int 0)) (Zc (Zda (eC (.int 1))) aNil))) aNil))))) aNil))) (Zj F_law_digit (Zc (Zf 0) (Zc (eC (.int 2)) aNil)))))
 (Zw (Zba (gNm 3) (Zc (Zj F_law_digit (Zc (Zf 0) (Zc (e2 dIx (ZbB (Zc (eC (.int 5)) (Zc (eC (.int 5)) (Zc (eC (.int 12)) (Zc (eC (.int 5)) aNil))))) (Zj F_law_digit (Zc (Zf 0) (Zc (eC (.int 4)) aNil)))) aNil))) aNil) Zaa)
 (Zw (ZJ (gNm 6) (Zj F_law_digit (Zc (Zf 0) (Zc (Zj bLen (Zc (Zf 2) aNil)) aNil))))
 (ZM (Zj F_law_brought (Zc (Zf 2) (Zc (Zj F_law_turning (Zc (Zf 0) aNil)) (Zc (Zf 6) aNil)))))))))
noncomputable def F_law_smooth:List D->Sto->Out D:=fnF ZaW 1 6
end CA
end
section
namespace CA
open PySem PySem.Spec L2 DL
theorem ZkW:F_law_digit=FDigit:=rfl
theorem Zqy:F_law_bag=FBag:=rfl
theorem Zem:F_law_cross=CC.F_law_cross:=rfl
noncomputable abbrev mt (a b c d:Int):D:= .tup [pr a b,pr c d]
structure Tn (B a b c d:Int):Prop where
 fa: -B<=a/\a<=B
 fb: -B<=b/\b<=B
 fc: -B<=c/\c<=B
 fd: -B<=d/\d<=B
 det:a * d - b * c=1\/a * d - b * c= -1
theorem Zjv {B C x y:Int}(hx: -B<=x/\x<=B)(hy: -C<=y/\y<=C): -(B * C)<=x * y/\x * y<=B * C:=by
 have h:(x * y).natAbs<=(B * C).natAbs:=by
  rw[Int.natAbs_mul,Int.natAbs_mul];exact Nat.mul_le_mul (by omega) (by omega)
 have:0<=B * C:=Int.mul_nonneg (by omega) (by omega)
 omega
section
variable {Q:D->Sto->Prop}{E:Str->Sto->Prop}{M:Sto}{a b c d i:Int}{n m:Nat}{rs:List Pt}
theorem Zqz {ns:List Int}{k:Nat}(hk:k < 1000)(q: ∀ a b:Int,0<=a->Q (.ref M.length) (M ++ [.lst [.int a,.int b]])):wO (F_law_bag [.rol (ns.map D.int),.int k] M) Q E:=by
 obtain ⟨a,b,h,e⟩:=ZmE (ns:=ns) (k:=k) (M:=M) hk
 rw[Zqy,e];exact q a b h
theorem ZH {t:Int}(hb:Bag n M)(ht:0 < t/\t < 18446744073709551616)(q: ∀ r M',0<=r->r < t->Gr n M M'->Q (.int r) M'):wO (F_law_digit [.ref n,.int t] M) Q E:=by
 obtain ⟨r,M',e,r0,r1,g⟩:=Ziq hb ht.1 (ZbW ht)
 rw[ZkW,e];exact q r M' r0 r1 g
theorem Zn3 {x y:Int}(h:Tn 1000000 a b c d):wO (F_law_led [mt a b c d,pr x y] M) Q E=Q (pr (a * x + b * y) (c * x + d * y)) M:=by
 obtain ⟨h1,h2,h3,h4,_⟩:=h
 simp![F_law_led,Zct]
theorem Zn4 {p q r s:Int}(h:Tn 1000000 p q r s):wO (F_law_both [mt a b c d,mt p q r s] M) Q E=Q (mt (p * a + q * c) (p * b + q * d) (r * a + s * c) (r * b + s * d)) M:=by
 simp![F_law_both,ZbK,Zn3 h]
theorem ZkX {B p q r s:Int}(h:Tn B a b c d)(k:Tn 3 p q r s):Tn (6 * B) (p * a + q * c) (p * b + q * d) (r * a + s * c) (r * b + s * d):=by
 refine ⟨?_,?_,?_,?_,?_⟩
 ·have:=Zjv k.fa h.fa;have:=Zjv k.fb h.fc;omega
 ·have:=Zjv k.fa h.fb;have:=Zjv k.fb h.fd;omega
 ·have:=Zjv k.fc h.fa;have:=Zjv k.fd h.fc;omega
 ·have:=Zjv k.fc h.fb;have:=Zjv k.fd h.fd;omega
 ·have:(p * a + q * c) * (r * b + s * d) - (p * b + q * d) * (r * a + s * c)=(p * s - q * r) * (a * d - b * c):=by grind
  rw[this]
  rcases h.det with e | e<;>rcases k.det with e' | e'<;>rw[e,e']<;>decide
theorem Tn.mono {B B':Int}(h:Tn B a b c d)(hb:B<=B'):Tn B' a b c d:=by
 obtain ⟨h1,h2,h3,h4,h5⟩:=h
 exact ⟨by omega,by omega,by omega,by omega,h5⟩
theorem Zhs (hb:Bag n M)(q: ∀ a b c d M',Tn 216 a b c d->Gr n M M'->Q (mt a b c d) M'):wO (F_law_turning [.ref n] M) Q E:=by
 simp![F_law_turning,ZaE];refine ZH hb (by decide) fun r M1 r0 r1 g1=> ?_
 simp![Zn];refine ⟨by omega,?_⟩
 refine ZcH (fun i ρ M'=> ∃ a b c d x y z,ρ=[some (.ref n),some (mt a b c d),x,y,z]/\Tn (6 ^ i) a b c d/\Gr n M M') ⟨1,0,0,1,_,_,_,rfl,⟨by decide,by decide,by decide,by decide,.inl (by decide)⟩,g1⟩ ?_ ?_
 ·rintro i ρ M2 hi ⟨a,b,c,d,x,y,z,rfl,tn,gr⟩
  simp![Z4];refine ZH gr.bag (by decide) fun s M3 s0 s1 g3=> ?_
  simp![Zn];refine ZH (g3.bag.app _) (by decide) fun k M4 k0 k1 g4=> ?_
  have hL:=Gr.new g3.bag g4
  obtain ⟨p,q',r',s',ht,tk⟩: ∃ p q r' s',atI [mt 1 (s - 3) 0 1,mt 1 0 (s - 3) 1,mt 0 1 1 0,mt 0 (-1) 1 0] k=some (mt p q r' s')/\Tn 3 p q r' s':=by
   have:k=0\/k=1\/k=2\/k=3:=by omega
   rcases this with rfl | rfl | rfl | rfl
   ·exact ⟨1,s - 3,0,1,rfl,⟨by decide,by omega,by decide,by decide,.inl (by grind)⟩⟩
   ·exact ⟨1,0,s - 3,1,rfl,⟨by decide,by decide,by omega,by decide,.inl (by grind)⟩⟩
   ·exact ⟨0,1,1,0,rfl,⟨by decide,by decide,by decide,by decide,.inr (by decide)⟩⟩
   ·exact ⟨0,-1,1,0,rfl,⟨by decide,by decide,by decide,by decide,.inl (by decide)⟩⟩
  simp![hL,ht,Zn4 (tk.mono (by decide))]
  have bt:=ZkX tn tk
  rw[show (6:Int) * 6 ^ i=6 ^ (i + 1) by rw[Int.pow_succ,Int.mul_comm]] at bt
  exact ⟨_,_,_,_,_,_,_,rfl,bt,(gr.trans g3).trans ((Gr.app g3.bag _).trans g4)⟩
 ·rintro ρ M2 ⟨a,b,c,d,x,y,z,rfl,tn,gr⟩
  simp![Zn];refine q a b c d M2 (tn.mono ?_) gr
  have:r.toNat=0\/r.toNat=1\/r.toNat=2\/r.toNat=3:=by omega
  rcases this with e | e | e | e<;>rw[e]<;>decide
theorem Zjw {x y:Int}:wO (F_law_near [pr x y] M) Q E=Q (.bl (decide ((-200<=x/\x<=200)/\ -200<=y/\y<=200))) M:=by
 by_cases h1: -200<=x/\x<=200
 ·simp![F_law_near,Za3]
  congr 2
  rw[Bool.eq_iff_iff];simp only[decide_eq_true_eq];omega
 ·simp![F_law_near,Za3]
theorem ZdZ (bs:List Bool):Z7 (bs.map D.bl)=some bs:=by
 induction bs with
 |nil=>rfl
 |cons b r ih=>
  show (match Z7 (r.map D.bl) with | some bs=>some (b :: bs) | none=>none)=_
  rw[ih]
theorem Zjx (h:rs≠[])(i:Int):cy rs.reverse i=cy rs (-1 - i):=by
 have hl:rs.length≠0:=by simpa using h
 have e1:cy rs.reverse i=cy rs.reverse (i % rs.length):=by
  conv=>rhs;rw[<- List.length_reverse (as:=rs),Zck]
 have e2:cy rs (-1 - i)=cy rs (-1 - i % rs.length):=by
  unfold cy
  congr 2
  rw[Int.sub_emod,Int.sub_emod (-1) (i % rs.length),Int.emod_emod_of_dvd _ (Int.dvd_refl _)]
 rw[e1,e2];obtain ⟨a,b⟩:=Zao (i:=i) hl
 generalize i % (rs.length:Int)=m at *;rw[ZaT (by rw[List.length_reverse];omega),<- Zjj (rs:=rs),ZaT (by omega)]
 rw[List.getD_eq_getElem?_getD,List.getD_eq_getElem?_getD,List.getElem?_reverse (by omega)]
 congr 2
 omega
theorem ZkY (hl:3<=rs.length)(h: ∀ i:Int,X (cy rs i) (cy rs (i + 1))= -1)(hf:Fan rs.reverse):Smo rs.reverse:=by
 have ne:rs≠[]:=by intro z;rw[z] at hl;simp at hl
 refine ⟨by rw[List.length_reverse];exact hl,fun i=> ?_,hf⟩
 rw[Zjx ne,Zjx ne,ZnY]
 have:=h (-1 - (i + 1))
 rw[show -1 - (i + 1) + 1= -1 - i by omega] at this
 omega
theorem ZkZ:(prs rs).reverse=prs rs.reverse:=by simp[prs]
theorem Zht {st:Int}(h:M[n]?=some (.lst (prs rs)))(hs:Smo rs)(hb:Nr 200 rs)(hl:rs.length<=1000)(ht:Tn 1000000 a b c d)(hst:0<=st/\st<=rs.length)
  (q: ∀ ss m M',Smo ss->Nr 200 ss->ss.length=rs.length->M.length<=m->M'[m]?=some (.lst (prs ss))->M.length<=M'.length->(∀ k,k < M.length->M'[k]?=M[k]?)->Q (.ref m) M'):wO (F_law_brought [.ref n,mt a b c d,.int st] M) Q E:=by
 have hn:=ZS h
 have h3:=hs.len
 simp![F_law_brought,ZaF];refine ZoC (fun ρ=> ∃ x,ρ=[x,some (mt a b c d)]) (fun (i:Nat)=>pr (a * (cy rs i).1 + b * (cy rs i).2) (c * (cy rs i).1 + d * (cy rs i).2)) h (by rw[Zx];omega) ⟨_,rfl⟩ ?_ ?_
 ·rintro i hi ρ L ⟨x,rfl⟩
  rw[CC.ZbI];simp![Zn3 ht];exact ⟨_,rfl⟩
 rw[ZiF,Zx];generalize hT:((List.range rs.length).map fun (i:Nat)=>(a * (cy rs i).1 + b * (cy rs i).2,c * (cy rs i).1 + d * (cy rs i).2))=ts
 have eT:ts=rs.map fun p=>(a * p.1 + b * p.2,c * p.1 + d * p.2):=by
  rw[<- hT]
  apply List.ext_getElem
  ·simp
  ·intro i h1 h2
   simp at h1
   simp[Zg5 h1]
 have tl:ts.length=rs.length:=by rw[eT];simp
 have tX: ∀ i:Int,X (cy ts i) (cy ts (i + 1))=a * d - b * c:=by
  intro i;rw[eT,Zjp hs.ne,Zjp hs.ne]
  have:=hs.one i
  have e:X (a * (cy rs i).1 + b * (cy rs i).2,c * (cy rs i).1 + d * (cy rs i).2) (a * (cy rs (i + 1)).1 + b * (cy rs (i + 1)).2,c * (cy rs (i + 1)).1 + d * (cy rs (i + 1)).2)=(a * d - b * c) * X (cy rs i) (cy rs (i + 1)):=by unfold X;simp only;grind
  rw[e,this,Int.mul_one]
 have lX: ∀ p q:Pt,X (a * p.1 + b * p.2,c * p.1 + d * p.2) (a * q.1 + b * q.2,c * q.1 + d * q.2)=(a * d - b * c) * X p q:=by
  intro p q;unfold X;simp only;grind
 have tne:ts≠[]:=by intro z;rw[z] at tl;simp at tl;omega
 have k1:(M ++ [SO.lst (prs ts)])[M.length]?=some (.lst (prs ts)):=by simp
 have k2:(M ++ [SO.lst (prs ts)])[n]?=some (.lst (prs rs)):=by rw[Zbh hn];exact h
 have l1:(M ++ [SO.lst (prs ts)]).length=M.length + 1:=by simp
 have g1: ∀ k,k < M.length->(M ++ [SO.lst (prs ts)])[k]?=M[k]?:=fun k hk=>Zbh hk
 generalize M ++ [SO.lst (prs ts)]=M1 at *;simp![Zn];refine ZoC (fun ρ=> ∃ x,ρ=[x]) (fun (i:Nat)=> .bl (decide ((-200<=(cy ts i).1/\(cy ts i).1<=200)/\ -200<=(cy ts i).2/\(cy ts i).2<=200))) k1 (by rw[Zx];omega) ⟨_,rfl⟩ ?_ ?_
 ·rintro i hi ρ L ⟨x,rfl⟩
  rw[CC.ZbI];simp![Zjw];exact ⟨_,rfl⟩
 have eB:(List.range (prs ts).length).map (fun (i:Nat)=>D.bl (decide ((-200<=(cy ts i).1/\(cy ts i).1<=200)/\ -200<=(cy ts i).2/\(cy ts i).2<=200)))=((List.range ts.length).map fun (i:Nat)=>decide ((-200<=(cy ts i).1/\(cy ts i).1<=200)/\ -200<=(cy ts i).2/\(cy ts i).2<=200)).map D.bl:=by
  rw[List.map_map,Zx];rfl
 rw[eB];generalize hbs:((List.range ts.length).map fun (i:Nat)=>decide ((-200<=(cy ts i).1/\(cy ts i).1<=200)/\ -200<=(cy ts i).2/\(cy ts i).2<=200))=bs
 have nr:bs.all id=true->Nr 200 ts:=by
  intro hall p hp;obtain ⟨k,hk,rfl⟩:=List.getElem_of_mem hp
  have:=List.all_eq_true.mp hall (decide ((-200<=(cy ts k).1/\(cy ts k).1<=200)/\ -200<=(cy ts k).2/\(cy ts k).2<=200)) (by
   rw[<- hbs];exact List.mem_map.mpr ⟨k,List.mem_range.mpr hk,rfl⟩)
  have:=of_decide_eq_true this
  rw[Zg5 hk] at this;exact this
 simp![ZdZ];refine Zq8 (fun ρ M'=> ∃ ss m,ρ=[some (.ref n),some (mt a b c d),some (.int st),some (.ref m)]/\Smo ss/\Nr 200 ss/\ss.length=rs.length/\M'[m]?=some (.lst (prs ss))/\M1.length<=M'.length/\(∀ k,k < M1.length->M'[k]?=M1[k]?)) ?_ ?_
 ·generalize hall:bs.all id=al at *
  refine ZnC (fun h=> ?_) (fun h=> ?_)
  ·simp![k2]
   exact ⟨rs,_,rfl,hs,hb,rfl,by rw[Ziw];rfl,by omega,fun k hk=>by rw[Zbh hk]⟩
  ·have al1:al=true:=by simpa using h
   have N:=nr al1
   have b0:=Nr.cy N tne 0
   simp![k1,ZdS,Zem,CC.Zcn];have t0:=tX 0
   rw[show (0:Int) + 1=1 by omega] at t0
   refine brS (fun z=> ?_) (fun z=> ?_)
   ·simp![k1]
    have dm:a * d - b * c= -1:=by
     rcases ht.det with e | e
     ·unfold X at t0;omega
     ·exact e
    refine ⟨ts.reverse,_,rfl,ZkY (by omega) (fun i=>by rw[tX i,dm]) (by rw[eT];exact hs.fan.flip (f:=fun p=>(a * p.1 + b * p.2,c * p.1 + d * p.2)) fun p q=>by rw[lX,dm]),fun p hp=>N p (by simpa using hp),by rw[List.length_reverse];exact tl,by rw[Ziw,ZkZ];rfl,by omega,fun k hk=>by rw[Zbh hk]⟩
   ·simp![Zn]
    have dm:a * d - b * c=1:=by
     rcases ht.det with e | e
     ·exact e
     ·unfold X at t0;omega
    exact ⟨ts,_,rfl,⟨by omega,fun i=>by rw[tX i,dm],by rw[eT];exact hs.fan.map (f:=fun p=>(a * p.1 + b * p.2,c * p.1 + d * p.2)) fun p q=>by rw[lX,dm,Int.one_mul]⟩,N,tl,by rw[Zbh (by omega)];exact k1,by omega,fun k hk=>by rw[Zbh hk]⟩
 ·rintro _ M2 ⟨ss,m,rfl,s1,s2,s3,s4,s5,s6⟩
  have hm:=ZS s4
  simp![s4];refine ⟨by rw[List.length_take,List.length_drop];omega,?_⟩
  refine q (ss.drop st.toNat ++ ss.take st.toNat) _ _ (s1.rot (by omega)) (Nr.rot s2) (by rw[List.length_append,List.length_take,List.length_drop];omega) (by omega) (by rw[Ziw];rfl) (by rw[List.length_append];omega) (fun k hk=> ?_)
  rw[Zbh (by omega),s6 k (by omega),g1 k hk]
theorem ZqA {x y z w:Int}:wO (F_law_sum [pr x y,pr z w] M) Q E=Q (pr (x + z) (y + w)) M:=by
 simp![F_law_sum,Zcu]
theorem Gr.up {k:Nat}{M M1:Sto}{o:SO}(h:M[k]?=some o)(g:Gr n M M1)(hk:k≠n):M1[k]?=some o:=by
 rw[g.keep k hk (ZS h)];exact h
theorem Ze5 (hb:Bag n M)(q: ∀ ss m M',Smo ss->Nr 200 ss->ss.length<=14->M.length<=m->M'[m]?=some (.lst (prs ss))->Gr n M M'->Q (.ref m) M'):wO (F_law_smooth [.ref n] M) Q E:=by
 have hn:=hb.lt
 simp![F_law_smooth,ZaW];refine ZH (hb.app _) (by decide) fun r M1 r0 r1 g1=> ?_
 have k1:=Gr.new hb g1
 simp![k1];obtain ⟨sz,hs,z0,z1⟩: ∃ f:Int,atI [D.int 4,D.int 4,D.int 4,D.int 4,D.int 4,D.int 4,D.int 12,D.int 201] r=some (.int f)/\1<=f/\f<=201:=by
  have:r=0\/r=1\/r=2\/r=3\/r=4\/r=5\/r=6\/r=7:=by omega
  rcases this with rfl | rfl | rfl | rfl | rfl | rfl | rfl | rfl
  ·exact ⟨4,rfl,by decide,by decide⟩
  ·exact ⟨4,rfl,by decide,by decide⟩
  ·exact ⟨4,rfl,by decide,by decide⟩
  ·exact ⟨4,rfl,by decide,by decide⟩
  ·exact ⟨4,rfl,by decide,by decide⟩
  ·exact ⟨4,rfl,by decide,by decide⟩
  ·exact ⟨12,rfl,by decide,by decide⟩
  ·exact ⟨201,rfl,by decide,by decide⟩
 simp![hs];refine ZH g1.bag (by omega) fun f M2 f0 f1 g2=> ?_
 simp![Zn];have gr2:Gr n M M2:=((Gr.app hb _).trans g1).trans g2
 have h2:=gr2.bag
 have hn2:=h2.lt
 refine ZH (h2.app _) (by decide) fun c M3 c0 c1 g3=> ?_
 have e0:M3[M2.length]?=some (.lst [pr 1 0,pr 0 1,pr (-1) (-1)]):=by rw[g3.keep _ (by omega) (by simp),ZdR];rfl
 have e1:M3[M2.length + 1]?=some (.lst [pr 1 0,pr 0 1,pr (-1) f,pr 0 (-1)]):=by rw[g3.keep _ (by omega) (by simp),Ziw];rfl
 have e2:M3[M2.length + 2]?=some (.lst [.ref M2.length,.ref (M2.length + 1)]):=by rw[g3.keep _ (by omega) (by simp),Ziw];rfl
 have gr3:Gr n M M3:=gr2.trans ((Gr.app h2 _).trans g3)
 have ml:=gr2.len
 obtain ⟨m,ss,hm,hm0,s1,s2,s3,s4⟩: ∃ m ss,atI [D.ref M2.length,D.ref (M2.length + 1)] c=some (.ref m)/\(m≠n/\M.length<=m)/\Smo ss/\Nr 200 ss/\ss.length<=4/\M3[m]?=some (.lst (prs ss)):=by
  have:c=0\/c=1:=by omega
  rcases this with rfl | rfl
  ·refine ⟨M2.length,[(1,0),(0,1),(-1,-1)],rfl,by omega,CC.Ztd,?_,by simp,e0⟩
   intro p hp
   simp at hp
   rcases hp with rfl | rfl | rfl<;>simp
  ·refine ⟨M2.length + 1,[(1,0),(0,1),(-1,f),(0,-1)],rfl,by omega,CC.Zte f,?_,by simp,e1⟩
   intro p hp
   simp at hp
   rcases hp with rfl | rfl | rfl | rfl<;>simp<;>omega
 simp![e2,hm];have h3:=gr3.bag
 have hn3:=h3.lt
 refine ZH (h3.app _) (by decide) fun k M4 k0 k1' g4=> ?_
 have k4:=Gr.new h3 g4
 obtain ⟨tm,ht,t0,t1⟩: ∃ f:Int,atI [D.int 5,D.int 5,D.int 12,D.int 5] k=some (.int f)/\1<=f/\f<=12:=by
  have:k=0\/k=1\/k=2\/k=3:=by omega
  rcases this with rfl | rfl | rfl | rfl
  ·exact ⟨5,rfl,by decide,by decide⟩
  ·exact ⟨5,rfl,by decide,by decide⟩
  ·exact ⟨12,rfl,by decide,by decide⟩
  ·exact ⟨5,rfl,by decide,by decide⟩
 simp![k4,ht];have gr4:Gr n M M4:=gr3.trans ((Gr.app h3 _).trans g4)
 have a4:M4[m]?=some (.lst (prs ss)):=by rw[g4.keep _ hm0.1 (by have:=ZS s4;simp;omega),Zbh (ZS s4)];exact s4
 refine ZH gr4.bag (by omega) fun lp M5 lp0 lp1 g5=> ?_
 simp![Zn];refine ⟨by omega,?_⟩
 refine ZcH (fun i ρ M'=> ∃ ss m x1 x3 x4 x5 x6,ρ=[some (.ref n),x1,some (.ref m),x3,x4,x5,x6]/\(m≠n/\M.length<=m)/\Smo ss/\Nr 200 ss/\ss.length<=14/\M'[m]?=some (.lst (prs ss))/\Gr n M M') ⟨ss,m,_,_,_,_,_,rfl,hm0,s1,s2,by omega,Gr.up a4 g5 hm0.1,gr4.trans g5⟩ ?_ ?_
 ·rintro i ρ M6 hi ⟨ss,m,x1,x3,x4,x5,x6,rfl,m0,s1,s2,s3,s4,gr⟩
  have sl:=s1.len
  simp![Zaa,s4];refine ZH gr.bag (by omega) fun av M7 a0 a1 g7=> ?_
  have b4:=Gr.up s4 g7 m0.1
  have hb4:=ZS b4
  have gr7:=gr.trans g7
  have hn7:=gr7.bag.lt
  obtain ⟨av,rfl⟩: ∃ k:Nat,av=k:=⟨av.toNat,by omega⟩
  have e1:=Zao (i:=(av:Int) + 1) (m:=ss.length) (by omega)
  simp![b4,ZdS,Zck,ZqA,Zjw];have sm:=s1.ins (k:=av) (by omega)
  have nr:=fun h=>Nr.ins (k:=av) (p:=((cy ss av).1 + (cy ss (av + 1)).1,(cy ss av).2 + (cy ss (av + 1)).2)) s2 h
  generalize (cy ss av).1 + (cy ss (av + 1)).1=x at *;generalize (cy ss av).2 + (cy ss (av + 1)).2=y at *;refine ZkK (fun k M'=>M'=M7/\(k=true->((-200<=x/\x<=200)/\ -200<=y/\y<=200)/\ss.length < 14)) ?_ ?_
  ·refine brO (fun h=> ?_) (fun h=> ?_)
   ·simp![b4]
    exact fun z=>⟨h,by have:=of_decide_eq_true z;omega⟩
   ·simp![Zn]
    exact fun z=>by cases z
  rintro k M7 ⟨rfl,hk⟩
  simp![Zn];refine ZnC (fun h=> ?_) (fun h=> ?_)
  ·have le:((av:Int) + 1).toNat=av + 1:=by omega
   obtain ⟨hk1,hk2⟩:=hk h
   simp![b4,le];refine ⟨by rw[List.length_take];omega,by rw[List.length_take,List.length_drop];omega,ins ss av (x,y),_,_,_,_,_,_,rfl,by have:=gr7.len;omega,sm,nr hk1,by rw[ZbH (by omega)];omega,by rw[Ziw];rfl,gr7.app2 _⟩
  ·simp![Zn]
   exact ⟨ss,m,_,_,_,_,_,rfl,m0,s1,s2,s3,b4,gr7⟩
 ·rintro ρ M6 ⟨ss,m,x1,x3,x4,x5,x6,rfl,m0,s1,s2,s3,s4,gr⟩
  have sl:=s1.len
  simp![s4];refine ZH gr.bag (by omega) fun st M7 st0 st1 g7=> ?_
  have b4:=Gr.up s4 g7 m0.1
  simp![Zn];refine Zhs (gr.trans g7).bag fun a b c d M8 tn g8=> ?_
  have c4:=Gr.up b4 g8 m0.1
  have gr8:=(gr.trans g7).trans g8
  simp![Zn];refine Zht c4 s1 s2 (by omega) (tn.mono (by decide)) (by omega) fun tt m' M9 t1 t2 t3 t4 t5 t6 t7=> ?_
  refine q tt m' M9 t1 t2 (by omega) (by have:=gr8.len;omega) t5 ⟨by have:=gr8.len;omega,?_,fun k hk hkl=>by rw[t7 k (by have:=gr8.len;omega)];exact gr8.keep k hk hkl⟩
  obtain ⟨x,y,x0,hx⟩:=gr8.bag
  exact ⟨x,y,x0,by rw[t7 n gr8.bag.lt];exact hx⟩
end
end CA
end
section
namespace CY
open PySem PySem.Spec L2 DL CA
noncomputable def ZV:Sv:=(Zb5 1 2 (Zc (Zf 2) (Zc (e2 dMod (Zf 1) (Zf 2)) aNil)))
noncomputable def Zaq:Sv:=(Zw (Zb5 1 2 (Zc (Zj bAbs (Zc (e2 dIx (Zf 0) (eC (.int 0))) aNil)) (Zc (Zj bAbs (Zc (e2 dIx (Zf 0) (eC (.int 1))) aNil)) aNil)))
 (Zw (sWh (tv (e2 dGt (Zf 2) (eC (.int 0)))) ZV)
 (ZM (ZU (Zc (e2 dDiv (e2 dIx (Zf 0) (eC (.int 0))) (Zf 1)) (Zc (e2 dDiv (e2 dIx (Zf 0) (eC (.int 1))) (Zf 1)) aNil))))))
noncomputable def F_law_straight:List D->Sto->Out D:=fnF Zaq 1 2
noncomputable def Zag:Sv:=(Zw (ZJ (gNm 3) (e2 dIx (Zf 0) (e2 dMod (e2 dAdd (Zf 2) (eC (.int 1))) (Zj bLen (Zc (Zf 0) aNil)))))
 (sIf (Zbe (tv (e2 dGt (Zj F_law_cross (Zc (e2 dIx (Zf 0) (Zf 2)) (Zc (Zf 1) aNil))) (eC (.int 0)))) (tv (e2 dGt (Zj F_law_cross (Zc (Zf 1) (Zc (Zf 3) aNil))) (eC (.int 0))))) (ZM (e2 dAdd (e2 dAdd (eSl (Zf 0) oNo (oSo (e2 dAdd (Zf 2) (eC (.int 1))))) (ZbB (Zc (Zf 1) aNil))) (eSl (Zf 0) (oSo (e2 dAdd (Zf 2) (eC (.int 1)))) oNo))) sNil))
noncomputable def Zbw:Sv:=(Zw (Zba (gNm 2) (Zc (Zj bLen (Zc (Zf 0) aNil)) aNil) Zag)
 (ZM (Zf 0)))
noncomputable def F_law_put:List D->Sto->Out D:=fnF Zbw 2 2
noncomputable def Zah:Sv:=(Zw (ZJ (gNm 4) (e2 dSub (Zj F_law_digit (Zc (Zf 0) (Zc (Zf 2) aNil))) (e2 dDiv (Zf 2) (eC (.int 2)))))
 (Zw (ZJ (gNm 5) (e2 dSub (Zj F_law_digit (Zc (Zf 0) (Zc (Zf 2) aNil))) (e2 dDiv (Zf 2) (eC (.int 2)))))
 (sIf (Zbe (tv (e2 dNe (ZU (Zc (Zf 4) (Zc (Zf 5) aNil))) (ZU (Zc (eC (.int 0)) (Zc (eC (.int 0)) aNil))))) (tv (e2 dLt (Zj bLen (Zc (Zf 1) aNil)) (eC (.int 14))))) (ZJ (gNm 1) (Zj F_law_put (Zc (Zf 1) (Zc (Zj F_law_straight (Zc (ZU (Zc (Zf 4) (Zc (Zf 5) aNil))) aNil)) aNil)))) sNil)))
noncomputable def Zai:Sv:=(Zw (ZJ (gNm 6) (Zj F_law_digit (Zc (Zf 0) (Zc (Zj bLen (Zc (Zf 1) aNil)) aNil))))
 (sIf (Zbe (tv (e2 dGt (Zj bLen (Zc (Zf 1) aNil)) (eC (.int 3)))) (tv (e2 dGt (Zj F_law_cross (Zc (e2 dIx (Zf 1) (e2 dSub (Zf 6) (eC (.int 1)))) (Zc (e2 dIx (Zf 1) (e2 dMod (e2 dAdd (Zf 6) (eC (.int 1))) (Zj bLen (Zc (Zf 1) aNil)))) aNil))) (eC (.int 0))))) (ZJ (gNm 1) (e2 dAdd (eSl (Zf 1) oNo (oSo (Zf 6))) (eSl (Zf 1) (oSo (e2 dAdd (Zf 6) (eC (.int 1)))) oNo))) sNil))
noncomputable def Zbx:Sv:=(Zw (ZJ (gNm 1) (Zj F_law_smooth (Zc (Zf 0) aNil)))
 (Zw (ZJ (gNm 2) (e2 dIx (ZbB (Zc (eC (.int 7)) (Zc (eC (.int 7)) (Zc (eC (.int 7)) (Zc (eC (.int 41)) (Zc (eC (.int 401)) (Zc (eC (.int 7)) (Zc (eC (.int 7)) (Zc (eC (.int 41)) aNil))))))))) (Zj F_law_digit (Zc (Zf 0) (Zc (eC (.int 8)) aNil)))))
 (Zw (Zba (gNm 3) (Zc (Zj F_law_digit (Zc (Zf 0) (Zc (eC (.int 6)) aNil))) aNil) Zah)
 (Zw (Zba (gNm 3) (Zc (Zj F_law_digit (Zc (Zf 0) (Zc (eC (.int 6)) aNil))) aNil) Zai)
 (ZM (Zf 1))))))
noncomputable def F_law_any:List D->Sto->Out D:=fnF Zbx 1 6
end CY
end
section
namespace CY
open PySem PySem.Spec L2 DL
section
variable {Q:D->Sto->Prop}{E:Str->Sto->Prop}{M:Sto}{n m:Nat}{rs:List Pt}
theorem ZfD {x y:Int}(h0:(x,y)≠(0,0))(hx: -200<=x/\x<=200)(hy: -200<=y/\y<=200)(q: ∀ w:Pt,Int.gcd w.1 w.2=1->((-200<=w.1/\w.1<=200)/\ -200<=w.2/\w.2<=200)->Q (pr w.1 w.2) M):wO (F_law_straight [pr x y] M) Q E:=by
 simp![F_law_straight,Zaq];refine ZkO (fun k ρ M'=>M'=M/\ ∃ a b:Nat,ρ=[some (pr x y),some (.int a),some (.int b)]/\k=b/\Nat.gcd a b=Int.gcd x y/\a<=1000/\b<=1000) ?_ y.natAbs _ _ ⟨rfl,x.natAbs,y.natAbs,rfl,rfl,rfl,by omega,by omega⟩
 rintro k ρ M ⟨rfl,a,b,rfl,rfl,g,ha,hk'⟩
 simp![Zn];refine Zqh (fun h=> ?_) (fun h=> ?_)
 ·simp![ZV]
  have hb:0 < k:=by omega
  have hm:=Nat.mod_lt a hb
  refine ⟨a % k,hm,k,a % k,by rw[Int.natCast_emod],rfl,?_,?_⟩
  ·rw[<- g,Nat.gcd_comm k,<- Nat.gcd_rec,Nat.gcd_comm]
  ·omega
 ·have k0:k=0:=by omega
  subst k0;rw[Nat.gcd_zero_right] at g;have ap:0 < a:=by
   apply Nat.pos_of_ne_zero
   intro z;rw[z] at g
   have:=Int.gcd_eq_zero_iff.mp g.symm
   exact h0 (by rw[this.1,this.2])
  simp![Zn];have b1:=Int.natAbs_ediv_le_natAbs x a
  have b2:=Int.natAbs_ediv_le_natAbs y a
  refine q (x / a,y / a) ?_ ⟨by simp only;omega,by simp only;omega⟩
  rw[g];exact Int.gcd_ediv_gcd_ediv_gcd (by omega)
theorem Gr.of {M M':Sto}(hb:Bag n M)(l:M.length<=M'.length)(g: ∀ k,k < M.length->M'[k]?=M[k]?):Gr n M M':=by
 refine ⟨l,?_,fun k _ hk=>g k hk⟩
 obtain ⟨a,b,h,e⟩:=id hb
 exact ⟨a,b,h,(g n hb.lt).trans e⟩
end
end CY
end
section
namespace CR
open PySem PySem.Spec L2 DL
noncomputable def ZbL:Sv:=(ZM (Zam (ZcE "int" (Zf 0)) (Zb0 (ZcE "bool" (Zf 0)))))
noncomputable def F_is_whole:List D->Sto->Out D:=fnF ZbL 1 0
noncomputable def ZZ:Sv:=(Zb5 2 3 (Zc (Zf 3) (Zc (e2 dMod (Zf 2) (Zf 3)) aNil)))
noncomputable def Zaj:Sv:=(Zw (Zb5 2 3 (Zc (Zj bAbs (Zc (Zf 0) aNil)) (Zc (Zj bAbs (Zc (Zf 1) aNil)) aNil)))
 (Zw (sWh (tv (e2 dNe (Zf 3) (eC (.int 0)))) ZZ)
 (ZM (Zf 2))))
noncomputable def F_greatest_divisor:List D->Sto->Out D:=fnF Zaj 2 2
noncomputable def Zbl:Sv:=(ZM (Zam (ZcE "int" (Zf 0)) (Zb0 (ZcE "bool" (Zf 0)))))
noncomputable def F_law_whole:List D->Sto->Out D:=fnF Zbl 1 0
end CR
end
section
namespace CR
open PySem PySem.Spec L2 DL
theorem ZqB:F_greatest_divisor=FGcd:=rfl
section
variable {Q:D->Sto->Prop}{E:Str->Sto->Prop}{M:Sto}{k l:Nat}{p q:Rat}
end
end CR
end
section
namespace CH
open PySem PySem.Spec L2 DL CA CR
end CH
end
section
namespace CH
open PySem PySem.Spec L2 DL
section
variable {Q:D->Sto->Prop}{E:Str->Sto->Prop}{M:Sto}{n:Nat}
end
end CH
end
section
namespace CS
open PySem PySem.Spec L2 DL CC CR
end CS
end
section
namespace CS
open PySem PySem.Spec L2 DL
section
variable {Q:D->Sto->Prop}{E:Str->Sto->Prop}{M:Sto}{k l:Nat}{p q:Rat}
end
end CS
end
section
namespace CN
open PySem PySem.Spec L2 DL
open CC (F_following)
open CA (F_law_sum)
end CN
end
section
namespace CN
open PySem PySem.Spec L2 DL
noncomputable def cq (hs:List Rat)(i:Int):Rat:=hs.getD (i % hs.length).toNat 0
section
variable {Q:D->Sto->Prop}{E:Str->Sto->Prop}{M:Sto}{k l:Nat}{p q:Rat}{n m:Nat}{rs:List Pt}{hs:List Rat}{i:Int}
end
end CN
end
section
namespace CN
open PySem PySem.Spec L2 DL
section
variable {Q:D->Sto->Prop}{E:Str->Sto->Prop}{M:Sto}{k l:Nat}{p q:Rat}{n m:Nat}{rs:List Pt}{hs:List Rat}{i:Int}
end
end CN
end
section
namespace CN
open PySem PySem.Spec L2 DL
noncomputable def sm (f:Int->Rat):Nat->Rat
 |0=>0
 |n + 1=>sm f n + f n
end CN
end
section
namespace CU
open PySem PySem.Spec L2 DL
open CA (F_law_digit)
end CU
end
section
namespace CU
open PySem PySem.Spec L2 DL
open CN CS
noncomputable def thr (rs:List Pt)(hs:List Rat):Rat × Rat:=(cq hs 0 * (cy rs 1).2 - cq hs 1 * (cy rs 0).2,cq hs 1 * (cy rs 0).1 - cq hs 0 * (cy rs 1).1)
section
variable {Q:D->Sto->Prop}{E:Str->Sto->Prop}{M:Sto}{k l:Nat}{p q:Rat}{n m o:Nat}{rs:List Pt}{hs xs ys:List Rat}{i:Int}
end
end CU
end
section
namespace CV
open PySem PySem.Spec L2 DL
open CN CU CS
noncomputable def Kp (M M':Sto):Prop:=M.length<=M'.length/\ ∀ j < M.length,M'[j]?=M[j]?
section
variable {M M' M1 M2:Sto}{o:SO}{j:Nat}
theorem Kp.get (k:Kp M M')(h:M[j]?=some o):M'[j]?=some o:=(k.2 _ (ZS h)).trans h
theorem Kp.refl:Kp M M:=⟨Nat.le_refl _,fun _ _=>rfl⟩
theorem Kp.trans (a:Kp M M1)(b:Kp M1 M2):Kp M M2:=⟨Nat.le_trans a.1 b.1,fun j h=>(b.2 j (Nat.lt_of_lt_of_le h a.1)).trans (a.2 j h)⟩
theorem Kp.app {L:Sto}:Kp M (M ++ L):=⟨by simp,fun j h=>Zbh h⟩
theorem Kp.set (a:Kp M M1)(h:M.length<=j):Kp M (M1.set j o):=⟨by rw[List.length_set];exact a.1,fun i hi=>by rw[List.getElem?_set_ne (by omega)];exact a.2 i hi⟩
end
section
variable {Q:D->Sto->Prop}{E:Str->Sto->Prop}{M:Sto}{k l:Nat}{p q:Rat}{n m o:Nat}{rs:List Pt}{hs xs ys zs u v:List Rat}{i:Int}{f:Ev}{ρ:Ro}{mu mv N:Nat}
end
end CV
end
section
namespace CW
open PySem PySem.Spec L2 DL
end CW
end
section
namespace CW
open PySem PySem.Spec L2 DL
open CV
section
variable {Q:D->Sto->Prop}{E:Str->Sto->Prop}{M:Sto}{n m:Nat}{rs:List Pt}
end
end CW
end
section
namespace CB
open PySem PySem.Spec L2 DL
theorem mid {a b p w:Pt}(h1:0 < X a p)(h2:0 < X p b)(h:0 < X a b):in1 w a b=in1 w a p + in1 w p b/\in2 w a b=in2 w a p + in2 w p b:=by
 have e:X a b * X p w=X p b * X a w - X a p * X w b:=by unfold X;grind
 have s:=ZfB (p:=w) (q:=p)
 have k1:0<=X a w->0<=X p b * X a w:=fun z=>Int.mul_nonneg (by omega) z
 have k2:0 < X a w->0 < X p b * X a w:=fun z=>Int.mul_pos h2 z
 have k3:X a w<=0->X p b * X a w<=0:=fun z=>Int.mul_nonpos_of_nonneg_of_nonpos (by omega) z
 have k3':X a w < 0->X p b * X a w < 0:=fun z=>Int.mul_neg_of_pos_of_neg h2 z
 have l1:0<=X w b->0<=X a p * X w b:=fun z=>Int.mul_nonneg (by omega) z
 have l2:0 < X w b->0 < X a p * X w b:=fun z=>Int.mul_pos h1 z
 have l3:X w b<=0->X a p * X w b<=0:=fun z=>Int.mul_nonpos_of_nonneg_of_nonpos (by omega) z
 have l3':X w b < 0->X a p * X w b < 0:=fun z=>Int.mul_neg_of_pos_of_neg h1 z
 have m1:0<=X p w->0<=X a b * X p w:=fun z=>Int.mul_nonneg (by omega) z
 have m2:0 < X p w->0 < X a b * X p w:=fun z=>Int.mul_pos h z
 have m3:X p w<=0->X a b * X p w<=0:=fun z=>Int.mul_nonpos_of_nonneg_of_nonpos (by omega) z
 have m3':X p w < 0->X a b * X p w < 0:=fun z=>Int.mul_neg_of_pos_of_neg h z
 unfold in1 in2;rw[s];generalize X a b * X p w=z at *;generalize X p b * X a w=y at *;generalize X a p * X w b=x at *;generalize X a w=aw at *;generalize X w b=wb at *;generalize X p w=pw at *
 constructor
 all_goals
  repeat' split
  all_goals omega
noncomputable def Add (f:Pt->Pt->Nat):Prop:= ∀ a b p,0 < X a p->0 < X p b->0 < X a b->f a b=f a p + f p b
theorem Ztf {w:Pt}:Add (in1 w):=fun _ _ _ h1 h2 h=>(mid h1 h2 h).1
theorem Ztg {w:Pt}:Add (in2 w):=fun _ _ _ h1 h2 h=>(mid h1 h2 h).2
theorem Zn5 {f:Pt->Pt->Nat}(hf:Add f): ∀ (n:Nat) (t b:Int) (a r v:Pt),b.toNat=n->0<=b->b < t->X a r=1->X a v=t->X r v=b->cc f (a :: (btw a r (hj t b) ++ [v]))=f a v:=by
 intro n
 induction n using Nat.strongRecOn with
 |ind n ih=>
  intro t b a r v hb h0 ht h1 h2 h3;unfold hj
  by_cases h:0 < b
  ·rw[dif_pos h]
   have nx:=ZaD (t:=t) h
   generalize hk: -((-t) / b)=k at *;have q:=ih (k * b - t).toNat (by omega) b (k * b - t) r (k * r.1 - a.1,k * r.2 - a.2) v rfl nx.1 nx.2 (by unfold X at *;simp only;grind) h3 (by unfold X at *;simp only;grind)
   rw[btw,List.cons_append,cc,q];exact (hf a v r (by omega) (by omega) (by omega)).symm
  ·rw[dif_neg h,btw]
   simp[cc]
noncomputable def nx1 (a b:Pt):Nat:=if X a b=1 then 0 else 1
theorem Zn6: ∀ (l:List Pt),Ch l->cc nx1 l=0
 | [],_=>rfl
 | [_],_=>rfl
 |a :: b :: r,h=>by
  rw[cc,Zn6 (b :: r) h.2];unfold nx1;rw[if_pos h.1]
noncomputable def fbv (u v:Pt):Pt:= @dite _ (∃ w,Fb u v w) (Classical.propDecidable _) (fun h=>h.choose) (fun _=>(0,0))
theorem Zd0 {u v:Pt}(h:Wg u v):Fb u v (fbv u v):=by
 have e:=Zqt h
 unfold fbv;rw[dif_pos e];exact e.choose_spec
noncomputable def seg (u v:Pt):List Pt:=u :: btw u (fbv u v) (hj (X u v) (X (fbv u v) v))
noncomputable def ZaX:List Pt->List Pt
 |a :: b :: r=>seg a b ++ ZaX (b :: r)
 |_=>[]
noncomputable def Wgs:List Pt->Prop
 |a :: b :: r=>Wg a b/\Wgs (b :: r)
 |_=>True
theorem Zjy {f:Pt->Pt->Nat}(hf:Add f){u v:Pt}(h:Wg u v):cc f (seg u v ++ [v])=f u v:=by
 have k:=Zd0 h
 exact Zn5 hf _ _ _ u _ v rfl k.lo k.hi k.one rfl rfl
theorem Zk0 {u v:Pt}(h:Wg u v):cc nx1 (seg u v ++ [v])=0:=Zn6 _ (ZkV h (Zd0 h))
theorem Zhu {f g:Pt->Pt->Nat}(hs: ∀ u v,Wg u v->cc f (seg u v ++ [v])=g u v): ∀ (L:List Pt) (z:Pt),Wgs (L ++ [z])->cc f (ZaX (L ++ [z]) ++ [z])=cc g (L ++ [z])/\ ∃ r,ZaX (L ++ [z]) ++ [z]=(L ++ [z]).head (by simp) :: r
 | [],z,_=>by simp[ZaX,cc]
 | [a],z,h=>by
  have:=hs a z h.1
  refine ⟨?_,?_⟩
  ·simp only[List.cons_append,List.nil_append,ZaX,List.append_nil,cc]
   rw[this];omega
  ·simp[ZaX,seg]
 |a :: b :: L,z,h=>by
  obtain ⟨i1,r,i2⟩:=Zhu hs (b :: L) z h.2
  have:=hs a b h.1
  simp only[List.cons_append,List.head_cons] at i1 i2;refine ⟨?_,?_⟩
  ·simp only[List.cons_append,ZaX,List.append_assoc,cc]
   rw[i2,Zbb,this,<- i2,i1]
  ·simp only[List.cons_append,ZaX,seg]
   exact ⟨_,rfl⟩
noncomputable def lrd (rs:List Pt):List Pt:=ZaX (rs ++ rs.take 1)
theorem Ze6: ∀ (L:List Pt),L.length<=(ZaX L).length + 1
 | []=>by simp
 | [_]=>by simp
 |a :: b :: r=>by
  have:=Ze6 (b :: r)
  simp only[ZaX,seg,List.length_append,List.length_cons] at *;omega
theorem Zhv {a b:Pt}{r:List Pt}: ∃ s,ZaX (a :: b :: r)=a :: s:=⟨_,rfl⟩
theorem Zen {f g:Pt->Pt->Nat}(hs: ∀ u v,Wg u v->cc f (seg u v ++ [v])=g u v){a:Pt}{r:List Pt}(hr:r≠[])(h:Wgs (a :: r ++ [a])):cyc f (lrd (a :: r))=cyc g (a :: r):=by
 have k:=(Zhu hs (a :: r) a h).1
 have e:lrd (a :: r)=ZaX (a :: r ++ [a]):=by simp[lrd]
 obtain ⟨b,r',rfl⟩:=List.exists_cons_of_ne_nil hr
 obtain ⟨s,hs'⟩:=Zhv (a:=a) (b:=b) (r:=r' ++ [a])
 have e2:lrd (a :: b :: r')=a :: s:=by rw[e];simpa using hs'
 rw[e2,Z8,Z8]
 have:a :: (s ++ [a])=ZaX (a :: b :: r' ++ [a]) ++ [a]:=by rw[<- e,e2];simp
 rw[this,k]
 simp
theorem ZqC {rs:List Pt}(hl:rs≠[])(h:cyc nx1 rs=0)(i:Int):X (cy rs i) (cy rs (i + 1))=1:=by
 have l0:rs.length≠0:=fun z=>hl (List.length_eq_zero_iff.mp z)
 refine Zcl (P:=fun a b=>X a b=1) l0 ?_ i
 intro i h0 h1;obtain ⟨k,rfl⟩:=Int.eq_ofNat_of_zero_le h0
 have hk:k < rs.length:=by omega
 obtain ⟨L,a,R,e,hL⟩: ∃ L a R,rs=L ++ a :: R/\L.length=k:=⟨rs.take k,rs[k],rs.drop (k + 1),by rw[List.getElem_cons_drop,List.take_append_drop],by simp;omega⟩
 have ca:cy rs k=a:=by rw[e,<- hL];exact Zhl
 have z: ∀ b R',rs ++ rs.take 1=L ++ a :: b :: R'->X a b=1:=by
  intro b R' e2;unfold cyc at h;rw[e2] at h
  have:=ZnZ (f:=nx1) (L:=L) (a:=a) (b:=b) (R:=R')
  have n0:nx1 a b=0:=by omega
  unfold nx1 at n0
  split at n0
  ·assumption
  ·omega
 rw[ca];cases R with
 |cons b R=>
  have cb:cy rs (k + 1)=b:=by rw[e,<- hL];exact ZkR
  rw[show ((k:Nat):Int) + 1=(k:Int) + 1 from rfl,cb];exact z b (R ++ rs.take 1) (by rw[e];simp)
 |nil=>
  obtain ⟨c,t,ht⟩:=List.exists_cons_of_ne_nil hl
  have cb:cy rs (k + 1)=c:=by
   have lt:=congrArg List.length ht
   have le:=congrArg List.length e
   simp at lt le
   have:=Zel (r:=t) (a:=c)
   rw[ht];rw[show ((k:Nat):Int) + 1=(t.length:Int) + 1 by omega]
   exact this
  rw[cb];refine z c [] ?_
  have:rs.take 1=[c]:=by rw[ht];rfl
  rw[this,e]
  simp
theorem Zk1 {a:Pt}{r:List Pt}(h2:2<=r.length)(h:Wgs (a :: r ++ [a]))(hF:Fan (a :: r)):Smo (lrd (a :: r)):=by
 have hr:r≠[]:=by intro z;rw[z] at h2;simp at h2
 have ll:=Ze6 (a :: r ++ [a])
 have e:lrd (a :: r)=ZaX (a :: r ++ [a]):=by simp[lrd]
 have l3:3<=(lrd (a :: r)).length:=by rw[e];simp at ll ⊢;omega
 have ne:lrd (a :: r)≠[]:=by intro z;rw[z] at l3;simp at l3
 refine ⟨l3,?_,?_⟩
 ·refine ZqC ne ?_
  rw[Zen (f:=nx1) (g:=fun _ _=>0) (fun u v w=>Zk0 w) hr h]
  have: ∀ L:List Pt,cc (fun _ _=>0) L=0:=by
   intro L
   induction L with
   |nil=>rfl
   |cons x L ih=>
    cases L with
    |nil=>rfl
    |cons y L=>simp only[cc,ih]
  unfold cyc;exact this _
 ·intro w hw
  rw[Zen (fun u v z=>Zjy Ztf z) hr h,Zen (fun u v z=>Zjy Ztg z) hr h]
  exact hF w hw
theorem Zn7 {f:Pt}: ∀ (r:List Pt) (a b:Pt),Cv (a :: b :: r)->(∀ x∈a :: b :: r,0<=dt f x)->dt f a < dt f b-> ∀ x∈r,dt f b < dt f x
 | [],_,_,_,_,_=>by simp
 |d :: r,a,b,h,hp,hl=>by
  obtain ⟨k,k2,e1,e2⟩:=h.1
  have eq:dt f a + dt f d=k * dt f b:=by
   unfold dt
   have:f.1 * a.1 + f.2 * a.2 + (f.1 * d.1 + f.2 * d.2)=f.1 * (a.1 + d.1) + f.2 * (a.2 + d.2):=by grind
   rw[this,e1,e2]
   grind
  have h0:=hp b (by simp)
  have:2 * dt f b<=k * dt f b:=Int.mul_le_mul_of_nonneg_right k2 h0
  have lt:dt f b < dt f d:=by omega
  intro x hx
  rcases List.mem_cons.mp hx with rfl | hx
  ·exact lt
  ·have:=Zn7 r b d h.2 (fun y hy=>hp y (by simp[hy])) lt x hx
   omega
theorem Zn8 {f:Pt}{c:Int}: ∀ (l:List Pt) (a z:Pt),Cv (a :: (l ++ [z]))->(∀ x∈a :: (l ++ [z]),0<=dt f x)->dt f a<=c->dt f z<=c-> ∀ x∈l,dt f x<=c
 | [],_,_,_,_,_,_=>by simp
 |b :: l,a,z,h,hp,ha,hz=>by
  by_cases k:dt f b<=c
  ·intro x hx
   rcases List.mem_cons.mp hx with rfl | hx
   ·exact k
   ·refine Zn8 l b z ?_ (fun y hy=>hp y (by simp at hy ⊢;simp[hy])) k hz x hx
    cases l with
    |nil=>exact h.2
    |cons d l=>exact h.2
  ·have:=Zn7 (l ++ [z]) a b h (fun y hy=>hp y (by simpa using hy)) (by omega) z (by simp)
   omega
theorem Zk2 {u v w:Pt}(h:Wg u v)(hw:Fb u v w){B:Int}(hB:0<=B)(hu:Bd B u)(hv:Bd B v): ∀ x∈btw u w (hj (X u v) (X w v)),Bd B x:=by
 intro x hx;have a1:=fun x hx=>Zqw _ _ _ u w v rfl hw.lo hw.hi rfl rfl x hx
 have uu:X u u=0:=by unfold X;grind
 have vv:X v v=0:=by unfold X;grind
 have a2:=(Zqx (u:=u) _ _ _ u w v rfl hw.lo hw.hi hw.one rfl rfl h.gv (by omega) (by have:=hw.one;omega)).2
 have cv:=(Zn2 _ _ _ u w v rfl hw.lo hw.hi hw.one rfl rfl h.gv).1
 have hp:=h.pos
 have df: ∀ y:Pt,dt (v.2 - u.2,u.1 - v.1) y=X y v + X u y:=by intro y;unfold dt X;simp only;grind
 have le:=Zn8 (f:=(v.2 - u.2,u.1 - v.1)) (c:=X u v) _ u v cv (by
  intro y hy;rw[df]
  rcases List.mem_cons.mp hy with rfl | hy
  ·omega
  ·rcases List.mem_append.mp hy with hy | hy
   ·have:=a1 y hy;have:=a2 y hy;omega
   ·simp at hy;subst hy;omega) (by rw[df];omega) (by rw[df];omega) x hx
 rw[df] at le;have b1:=a1 x hx
 have b2:=a2 x hx
 have e1:X u v * x.1=X x v * u.1 + X u x * v.1:=by unfold X;grind
 have e2:X u v * x.2=X x v * u.2 + X u x * v.2:=by unfold X;grind
 have mb: ∀ y z:Int,-B<=y->y<=B-> -B<=z->z<=B-> -(X u v * B)<=X x v * y + X u x * z/\X x v * y + X u x * z<=X u v * B:=by
  intro y z y0 y1 z0 z1;have q1:X x v * y<=X x v * B:=Int.mul_le_mul_of_nonneg_left y1 b1.1
  have q2:X u x * z<=X u x * B:=Int.mul_le_mul_of_nonneg_left z1 b2.1
  have q3:X x v * -B<=X x v * y:=Int.mul_le_mul_of_nonneg_left y0 b1.1
  have q4:X u x * -B<=X u x * z:=Int.mul_le_mul_of_nonneg_left z0 b2.1
  have q5:(X x v + X u x) * B<=X u v * B:=Int.mul_le_mul_of_nonneg_right le hB
  rw[Int.add_mul] at q5;rw[Int.mul_neg] at q3 q4;omega
 have fin: ∀ y:Int,-(X u v * B)<=X u v * y->X u v * y<=X u v * B-> -B<=y/\y<=B:=by
  intro y h1 h2;refine ⟨?_,Int.le_of_mul_le_mul_left h2 hp⟩
  rw[<- Int.mul_neg] at h1;exact Int.le_of_mul_le_mul_left h1 hp
 obtain ⟨⟨u1,u2⟩,u3,u4⟩:=hu
 obtain ⟨⟨v1,v2⟩,v3,v4⟩:=hv
 have m1:=mb u.1 v.1 u1 u2 v1 v2
 have m2:=mb u.2 v.2 u3 u4 v3 v4
 rw[<- e1] at m1;rw[<- e2] at m2;exact ⟨fin _ m1.1 m1.2,fin _ m2.1 m2.2⟩
theorem Zhw {B:Int}(hB:0<=B): ∀ (L:List Pt),Wgs L->(∀ x∈L,Bd B x)-> ∀ x∈ZaX L,Bd B x
 | [],_,_=>by simp[ZaX]
 | [_],_,_=>by simp[ZaX]
 |a :: b :: r,h,hb=>by
  intro x hx;simp only[ZaX,seg] at hx
  rcases List.mem_append.mp hx with hx | hx
  ·rcases List.mem_cons.mp hx with rfl | hx
   ·exact hb x (by simp)
   ·exact Zk2 h.1 (Zd0 h.1) hB (hb a (by simp)) (hb b (by simp)) x hx
  ·exact Zhw hB (b :: r) h.2 (fun y hy=>hb y (by simp at hy ⊢;simp[hy])) x hx
end CB
end
section
namespace CL
open PySem PySem.Spec L2 DL
open CC (F_following)
open CB (F_between)
noncomputable def Z5:Sv:=(Zw (ZaO (ZhJ mApp (Zf 1) (Zc (Zf 3) aNil)))
 (ZaO (ZhJ mExt (Zf 1) (Zc (Zj F_between (Zc (Zf 3) (Zc (Zj F_following (Zc (Zf 0) (Zc (Zf 2) aNil))) aNil))) aNil))))
noncomputable def ZaG:Sv:=(Zw (ZJ (gNm 1) (ZbB aNil))
 (Zw (Zed (gTp (gCs (gNm 2) (gCs (gNm 3) gNl))) (iEn (Zc (Zf 0) aNil)) Z5)
 (ZM (Zf 1))))
noncomputable def F_least_round:List D->Sto->Out D:=fnF ZaG 1 3
end CL
end
section
namespace CL
open PySem PySem.Spec L2 DL
open CV CB
theorem Zd1: ∀ (L:List Pt) (a b:Pt),ZaX (L ++ [a,b])=ZaX (L ++ [a]) ++ seg a b
 | [],a,b=>by simp[ZaX]
 | [x],a,b=>by simp[ZaX]
 |x :: y :: L,a,b=>by
  have:=Zd1 (y :: L) a b
  simp only[List.cons_append,ZaX,List.append_assoc] at this ⊢;rw[this]
theorem Zhx: ∀ (L:List Pt) {a b:Pt} {R:List Pt},Wgs (L ++ a :: b :: R)->Wg a b
 | [],_,_,_,h=>h.1
 | [x],_,_,_,h=>h.2.1
 |x :: y :: L,_,_,_,h=>Zhx (y :: L) h.2
theorem Zhy {u v:Pt}(h:Wg u v)(hl:X u v<=90000):(seg u v).length<=90001:=by
 have k:=Zd0 h
 unfold seg;rw[List.length_cons,Zhq]
 have:=Zju _ (X u v) (X (fbv u v) v) rfl
 have:=k.hi
 have:=k.lo
 omega
theorem Zeo: ∀ (L:List Pt),Wgs L->(∀ A a b R,L=A ++ a :: b :: R->X a b<=90000)->(ZaX L).length<=90001 * L.length
 | [],_,_=>by simp[ZaX]
 | [_],_,_=>by simp[ZaX]
 |a :: b :: r,h,hx=>by
  have i:=Zeo (b :: r) h.2 fun A x y R e=>hx (a :: A) x y R (by rw[e];rfl)
  have s:=Zhy h.1 (hx [] a b r rfl)
  simp only[ZaX,List.length_append,List.length_cons] at *;omega
section
variable {Q:D->Sto->Prop}{E:Str->Sto->Prop}{M:Sto}{n:Nat}
theorem Zk3 {rs:List Pt}(h:M[n]?=some (.lst (prs rs)))(hne:rs≠[])(hw:Wgs (rs ++ rs.take 1))(hl:rs.length<=61)(hx: ∀ x∈rs,Bd 200 x)(q: ∀ M',Kp M M'->M'[M.length]?=some (.lst (prs (lrd rs)))->Q (.ref M.length) M'):wO (F_least_round [.ref n] M) Q E:=by
 have hn:=ZS h
 have l0:0 < rs.length:=List.length_pos_iff.mpr hne
 have xl: ∀ A x y R,rs ++ rs.take 1=A ++ x :: y :: R->X x y<=90000:=by
  intro A x y R e;have m: ∀ z∈rs ++ rs.take 1,Bd 200 z:=fun z hz=>by
   rcases List.mem_append.mp hz with hz | hz
   ·exact hx z hz
   ·exact hx z (List.mem_of_mem_take hz)
  have:=ZrQ (m x (by rw[e];simp)) (m y (by rw[e];simp))
  omega
 have ga: ∀ i:Nat,i<=rs.length->(rs ++ rs.take 1)[i]?=some (cy rs i):=by
  intro i hi
  by_cases c:i < rs.length
  ·rw[List.getElem?_append_left c,ZaT (by omega),ZaA (by omega),List.getElem?_eq_getElem c]
   simp
  ·have:i=rs.length:=by omega
   subst this;rw[List.getElem?_append_right (Nat.le_refl _),Nat.sub_self,<- ZcI,Int.sub_self,ZaT (by omega),ZaA (by omega)]
   rw[List.getElem?_take_of_lt (by decide),List.getElem?_eq_getElem (by omega)]
   simp
 have lch:(rs ++ rs.take 1).length=rs.length + 1:=by simp;omega
 have e:lrd rs=ZaX (rs ++ rs.take 1):=rfl
 rw[e] at q;generalize rs ++ rs.take 1=ch at *;have cut: ∀ i:Nat,i < rs.length->ch.take (i + 2)=ch.take i ++ [cy rs i,cy rs (i + 1)]/\ch.take (i + 1)=ch.take i ++ [cy rs i]:=by
  intro i hi;have g1:=ga i (by omega)
  have g2:=ga (i + 1) (by omega)
  constructor
  ·rw[List.take_add_one,List.take_add_one,g1,g2]
   simp
  ·rw[List.take_add_one,g1]
   simp
 simp![F_least_round,ZaG];have K1:Kp M (M ++ [SO.lst []]):=Kp.app
 have r1:(M ++ [SO.lst []])[M.length]?=some (.lst (prs (ZaX (ch.take (0 + 1))))):=by
  rw[ZdR];obtain ⟨c,cs,rfl⟩:=List.exists_cons_of_ne_nil (show ch≠[] by intro z;rw[z] at lch;simp at lch)
  simp[ZaX,prs]
 generalize M ++ [SO.lst []]=M1 at *;have h1:=K1.get h
 refine Zg8 (fun i ρ M'=>(∃ x2 x3,ρ=[some (.ref n),some (.ref M.length),x2,x3])/\Kp M M'/\M'[M.length]?=some (.lst (prs (ZaX (ch.take (i + 1)))))) h1 ⟨⟨_,_,rfl⟩,K1,r1⟩ (fun i ρ M' hI=>hI.2.1.get h) ?_ ?_
 ·rintro i ρ M2 hi ⟨⟨x2,x3,rfl⟩,K2,r2⟩
  rw[CC.ZbI hi];rw[Zx] at hi;obtain ⟨c1,c2⟩:=cut i hi
  have hch:ch=ch.take i ++ cy rs i :: cy rs (i + 1) :: ch.drop (i + 2):=by
   have:=List.take_append_drop (i + 2) ch
   rw[c1] at this
   simpa using this.symm
  have hW:Wg (cy rs i) (cy rs (i + 1)):=Zhx (ch.take i) (R:=ch.drop (i + 2)) (by rw[<- hch];exact hw)
  have hX:X (cy rs i) (cy rs (i + 1))<=90000:=xl (ch.take i) _ _ (ch.drop (i + 2)) hch
  have sl:(ZaX (ch.take (i + 1))).length<=90001 * 62:=by
   have w1:Wgs (ch.take (i + 1)):=by
    have: ∀ (L R:List Pt),Wgs (L ++ R)->Wgs L:=by
     intro L
     induction L with
     |nil=>intro R _;exact trivial
     |cons x L ih=>
      intro R h;cases L with
      |nil=>exact trivial
      |cons y L=>exact ⟨h.1,ih R h.2⟩
    exact this _ (ch.drop (i + 1)) (by rw[List.take_append_drop];exact hw)
   have:=Zeo _ w1 (fun A x y R e=>xl A x y (R ++ ch.drop (i + 1)) (by
    have t:=List.take_append_drop (i + 1) ch
    rw[e] at t;exact t.symm.trans (by simp)))
   have l2:(ch.take (i + 1)).length<=62:=by rw[List.length_take];omega
   have:=Nat.mul_le_mul_left 90001 l2
   omega
  have lr2:=ZS r2
  have fol: ∀ {Q:D->Sto->Prop} {M':Sto},M'[n]?=some (.lst (prs rs))->wO (CC.F_following [.ref n,.int i] M') Q E=Q (pr (cy rs (i + 1)).1 (cy rs (i + 1)).2) M':=fun h'=>CC.Zbk h' (by omega)
  generalize hsg:ZaX (ch.take (i + 1))=sg at *;simp![Z5,r2,Zx];refine ⟨by omega,?_⟩
  have K3:Kp M (M2.set M.length (SO.lst (prs (sg ++ [((cy rs i).1,(cy rs i).2)])))):=K2.set (Nat.le_refl _)
  have r3:(M2.set M.length (SO.lst (prs (sg ++ [((cy rs i).1,(cy rs i).2)]))))[M.length]?=some (.lst (prs (sg ++ [((cy rs i).1,(cy rs i).2)]))):=List.getElem?_set_self lr2
  generalize M2.set M.length (SO.lst (prs (sg ++ [((cy rs i).1,(cy rs i).2)])))=M3 at *;have lr3:=ZS r3
  rw[fol (K3.get h)];simp![Zn];refine Zhr hW (Zd0 hW) hX ?_
  have bl:(btw (cy rs i) (fbv (cy rs i) (cy rs (i + 1))) (hj (X (cy rs i) (cy rs (i + 1))) (X (fbv (cy rs i) (cy rs (i + 1))) (cy rs (i + 1))))).length<=90001:=by
   have:=Zhy hW hX
   unfold seg at this;rw[List.length_cons] at this;omega
  simp![r3,Zx];refine ⟨by omega,⟨_,_,rfl⟩,(K3.trans Kp.app).set (Nat.le_refl _),?_⟩
  rw[List.getElem?_set_self (by simp;omega),show i + 1 + 1=i + 2 from rfl,c1,Zd1,<- c2,hsg]
  simp[seg]
 ·rintro ρ M2 ⟨⟨x2,x3,rfl⟩,K2,r2⟩
  simp![Zn];rw[Zx,List.take_of_length_le (by omega)] at r2
  exact q _ K2 r2
end
end CL
end
section
namespace TW
open DL
noncomputable def nx (b:Int)(p q:Pt):Pt:=(0 - b * q.1 - p.1,0 - b * q.2 - p.2)
noncomputable def run (p q:Pt):List Int->Pt × Pt
 | []=>(p,q)
 |b :: bs=>run q (nx b p q) bs
noncomputable def ew (p q:Pt):Nat:=in1 (1,0) p q + in1 (-1,0) p q
noncomputable def st (a:Pt):Int:=if 0 < a.2\/(a.2=0/\a.1 < 0) then 1 else 0
end TW
end
section
namespace TW
open DL
section
variable {rs:List Pt}
noncomputable def Zth (rs:List Pt):Int->Nat->List Int
 |_,0=>[]
 |i,k + 1=>T rs (i + 1) :: Zth rs (i + 1) k
noncomputable def sf (f:Pt->Pt->Nat)(rs:List Pt):Int->Nat->Nat
 |_,0=>0
 |i,k + 1=>f (cy rs i) (cy rs (i + 1)) + sf f rs (i + 1) k
theorem ZqD {f:Pt->Pt->Nat}(hn:rs≠[]): ∀ (k i:Nat),i + k=rs.length->cc f ((rs ++ rs.take 1).drop i)=sf f rs i k:=by
 have l0:0 < rs.length:=List.length_pos_iff.mpr hn
 have ga: ∀ i:Nat,i<=rs.length->(rs ++ rs.take 1)[i]?=some (cy rs i):=by
  intro i hi
  by_cases c:i < rs.length
  ·rw[List.getElem?_append_left c,ZaT (by omega),ZaA (by omega),List.getElem?_eq_getElem c]
   simp
  ·have:i=rs.length:=by omega
   subst this;rw[List.getElem?_append_right (Nat.le_refl _),Nat.sub_self,<- ZcI,Int.sub_self,ZaT (by omega),ZaA (by omega)]
   rw[List.getElem?_take_of_lt (by decide),List.getElem?_eq_getElem (by omega)]
   simp
 have lch:(rs ++ rs.take 1).length=rs.length + 1:=by simp;omega
 have dr: ∀ i:Nat,i<=rs.length->(rs ++ rs.take 1).drop i=cy rs i :: (rs ++ rs.take 1).drop (i + 1):=by
  intro i hi;rw[List.drop_eq_getElem_cons (by omega)]
  have:=ga i hi
  rw[List.getElem?_eq_getElem (by omega)] at this
  rw[Option.some.inj this]
 intro k
 induction k with
 |zero=>
  intro i hi;rw[dr i (by omega),List.drop_eq_nil_of_le (by omega)]
  rfl
 |succ k ih=>
  intro i hi
  have:=ih (i + 1) (by omega)
  rw[dr i (by omega)]
  rw[dr (i + 1) (by omega)] at this ⊢
  rw[cc,this,sf];rfl
theorem Ze7 {f:Pt->Pt->Nat}(hn:rs≠[]):cyc f rs=sf f rs 0 rs.length:=by
 have:=ZqD (f:=f) hn rs.length 0 (by omega)
 exact this
end
end TW
end
section
end
section
namespace CT
open PySem PySem.Spec L2 DL
end CT
end
section
namespace CT
open PySem PySem.Spec L2 DL
open CV TW
noncomputable def Sm (L:List Int):Prop:= ∀ b∈L,-(1152921504606846976)<=b/\b<=1152921504606846976
section
variable {Q:D->Sto->Prop}{E:Str->Sto->Prop}{M:Sto}{n m:Nat}{L:List Int}
noncomputable def Zn9 (L:List Int):Prop:= ∀ b∈L,-1000000<=b/\b<=1000000
theorem Zn9.sm (h:Zn9 L):Sm L:=fun b hb=>by have:=h b hb;omega
noncomputable def Cl (L:List Int):Prop:=run (1,0) (0,1) L=((1,0),(0,1))
noncomputable instance (L:List Int):Decidable (Cl L):=by unfold Cl;infer_instance
end
end CT
end
section
namespace CT
open PySem PySem.Spec L2 DL
open CV
open TW (nx)
section
variable {Q:D->Sto->Prop}{E:Str->Sto->Prop}{M:Sto}{n m:Nat}{L:List Int}
end
end CT
end
section
namespace DL
open CB (mid Wg Wgs Bd)
section
variable {rs:List Pt}{k:Nat}
theorem ZiM {f:Pt->Pt->Nat}(hl:rs≠[])(h:cyc f rs=0)(i:Int):f (cy rs i) (cy rs (i + 1))=0:=by
 have l0:rs.length≠0:=fun z=>hl (List.length_eq_zero_iff.mp z)
 refine Zcl (P:=fun a b=>f a b=0) l0 ?_ i
 intro i h0 h1;rw[TW.Ze7 hl] at h
 have: ∀ (k:Nat) (j:Int),TW.sf f rs j k=0-> ∀ m:Nat,m < k->f (cy rs (j + m)) (cy rs (j + m + 1))=0:=by
  intro k
  induction k with
  |zero=>intro j _ m hm;omega
  |succ k ih=>
   intro j h m hm;rw[TW.sf] at h;cases m with
   |zero=>
    rw[show j + ((0:Nat):Int)=j by omega]
    omega
   |succ m=>
    have:=ih (j + 1) (by omega) m (by omega)
    rw[show j + ((m + 1:Nat):Int)=j + 1 + m by omega]
    exact this
 have:=this rs.length 0 h i.toNat (by omega)
 rw[show (0:Int) + (i.toNat:Nat)=i by omega] at this
 exact this
theorem Zep {f:Pt->Pt->Nat}(hl:rs≠[])(h: ∀ i:Int,f (cy rs i) (cy rs (i + 1))=0):cyc f rs=0:=by
 rw[TW.Ze7 hl]
 have: ∀ (k:Nat) (j:Int),TW.sf f rs j k=0:=by
  intro k
  induction k with
  |zero=>intro j;rfl
  |succ k ih=>intro j;rw[TW.sf,h,ih]
 exact this _ _
theorem Zeq {f:Pt->Pt->Nat}(hk:k < rs.length)(h3:3<=rs.length)(hf:f (cy rs (k - 1)) (cy rs (k + 1))=f (cy rs (k - 1)) (cy rs k) + f (cy rs k) (cy rs (k + 1))):cyc f (del rs k)=cyc f rs:=by
 obtain ⟨L,p,R,e,hl⟩: ∃ L a R,rs=L ++ a :: R/\L.length=k:=⟨rs.take k,rs[k],rs.drop (k + 1),by rw[List.getElem_cons_drop,List.take_append_drop],by simp;omega⟩
 have ed:DL.del rs k=L ++ R:=by
  unfold DL.del;rw[e,<- hl,List.take_append,List.drop_append,List.take_of_length_le (by omega),List.drop_eq_nil_of_le (by omega)]
  simp
 have lr:(R ++ L).length=rs.length - 1:=by rw[e];simp;omega
 obtain ⟨b,Y,a,hY⟩: ∃ b Y a,R ++ L=b :: (Y ++ [a]):=by
  match hRL:R ++ L,lr with
  | [],lr=>simp at lr;omega
  |b :: r,lr=>
   have:r≠[]:=by intro z;rw[z] at lr;simp at lr;omega
   exact ⟨b,r.dropLast,r.getLast this,by rw[List.dropLast_concat_getLast]⟩
 have er:rs.drop k ++ rs.take k=p :: (R ++ L):=by
  rw[e,<- hl,List.take_append,List.drop_append,List.take_of_length_le (by omega),List.drop_eq_nil_of_le (by omega)]
  simp
 have c0:cy rs k=p:=by rw[e,<- hl];exact Zhl
 have cb:cy rs (k + 1)=b:=by
  have:=Ze4 (rs:=rs) (k:=k) (i:=1) (by omega)
  rw[er,hY] at this;rw[show (k:Int) + 1=1 + k by omega,<- this]
  exact ZkR (L:=[]) (a:=p) (b:=b)
 have ca:cy rs (k - 1)=a:=by
  have:=Ze4 (rs:=rs) (k:=k) (i:= -1) (by omega)
  rw[er,hY] at this;rw[show (k:Int) - 1= -1 + k by omega,<- this,<- Zjj]
  have:=Zhl (L:=p :: b :: Y) (a:=a) (R:=[])
  rw[show (-1:Int) + ((p :: b :: (Y ++ [a])).length:Nat)=((p :: b :: Y).length:Nat) by simp;omega]
  simpa using this
 rw[c0,ca,cb] at hf;rw[ed,ZkS (p:=p) hY hf,<- e]
noncomputable def nxp (a b:Pt):Nat:=if 0 < X a b then 0 else 1
theorem Zoa {a b:Pt}(h:nxp a b=0):0 < X a b:=by
 unfold nxp at h
 split at h
 ·assumption
 ·omega
theorem Zcv {a b:Pt}(h:0 < X a b):nxp a b=0:=by unfold nxp;rw[if_pos h]
structure Rn (rs:List Pt):Prop where
 len:3<=rs.length
 ps:cyc nxp rs=0
 gc: ∀ p∈rs,Int.gcd p.1 p.2=1
 fan:Fan rs
theorem Rn.ne (h:Rn rs):rs≠[]:=by
 intro z
 have:=h.len
 rw[z] at this
 simp at this
theorem Rn.pos (h:Rn rs)(i:Int):0 < X (cy rs i) (cy rs (i + 1)):=Zoa (ZiM h.ne h.ps i)
theorem ZqE {a b:Pt}(h:X a b=1):Int.gcd a.1 a.2=1/\Int.gcd b.1 b.2=1:=by
 unfold X at h
 constructor
 ·have d1:((Int.gcd a.1 a.2:Nat):Int) ∣ a.1 * b.2 - a.2 * b.1:=Int.dvd_sub (Int.dvd_mul_of_dvd_left (Int.gcd_dvd_left _ _)) (Int.dvd_mul_of_dvd_left (Int.gcd_dvd_right _ _))
  rw[h] at d1;exact Nat.eq_one_of_dvd_one (Int.natCast_dvd_natCast.mp d1)
 ·have d1:((Int.gcd b.1 b.2:Nat):Int) ∣ a.1 * b.2 - a.2 * b.1:=Int.dvd_sub (Int.dvd_mul_of_dvd_right (Int.gcd_dvd_right _ _)) (Int.dvd_mul_of_dvd_right (Int.gcd_dvd_left _ _))
  rw[h] at d1;exact Nat.eq_one_of_dvd_one (Int.natCast_dvd_natCast.mp d1)
theorem Zob {p:Pt}(h:p∈rs): ∃ i:Int,p=cy rs i:=by
 obtain ⟨L,R,rfl⟩:=List.append_of_mem h
 exact ⟨L.length,Zhl.symm⟩
theorem Smo.rn (h:Smo rs):Rn rs:=by
 refine ⟨h.len,Zep h.ne fun i=>Zcv (by rw[h.one i];decide),fun p hp=> ?_,h.fan⟩
 obtain ⟨i,rfl⟩:=Zob hp
 exact (ZqE (h.one i)).1
theorem Rn.ins {w:Pt}(h:Rn rs)(hk:k < rs.length)(gw:Int.gcd w.1 w.2=1)(h1:0 < X (cy rs k) w)(h2:0 < X w (cy rs (k + 1))):Rn (ins rs k w):=by
 have hp:=h.pos k
 refine ⟨by rw[ZbH hk];have:=h.len;omega,?_,?_,?_⟩
 ·rw[Zcm hk (by rw[Zcv hp,Zcv h1,Zcv h2])]
  exact h.ps
 ·intro p hp
  rcases List.mem_append.mp hp with hp | hp
  ·exact h.gc p (List.mem_of_mem_take hp)
  ·rcases List.mem_cons.mp hp with hp | hp
   ·subst hp;exact gw
   ·exact h.gc p (List.mem_of_mem_drop hp)
 ·intro v hv
  rw[Zcm hk (mid h1 h2 hp).1,Zcm hk (mid h1 h2 hp).2];exact h.fan v hv
theorem Rn.del (h:Rn rs)(hk:k < rs.length)(h4:4<=rs.length)(hx:0 < X (cy rs (k - 1)) (cy rs (k + 1))):Rn (DL.del rs k):=by
 have p1:=h.pos (k - 1)
 rw[show (k:Int) - 1 + 1=k by omega] at p1
 have p2:=h.pos k
 refine ⟨by rw[Zhm hk];omega,?_,?_,?_⟩
 ·rw[Zeq hk (by omega) (by rw[Zcv hx,Zcv p1,Zcv p2])]
  exact h.ps
 ·intro p hp
  unfold DL.del at hp
  rcases List.mem_append.mp hp with hp | hp
  ·exact h.gc p (List.mem_of_mem_take hp)
  ·exact h.gc p (List.mem_of_mem_drop hp)
 ·intro v hv
  rw[Zeq hk (by omega) (mid p1 p2 hx).1,Zeq hk (by omega) (mid p1 p2 hx).2]
  exact h.fan v hv
theorem Rn.wgs (h:Rn rs)(hb:Nr 200 rs):Wgs (rs ++ rs.take 1):=by
 have key: ∀ (L:List Pt),(∀ A a b R,L=A ++ a :: b :: R->0 < X a b)->(∀ p∈L,Int.gcd p.1 p.2=1/\Bd 1000 p)->Wgs L:=by
  intro L
  induction L with
  |nil=>intro _ _;exact trivial
  |cons a L ih=>
   intro hp hg;cases L with
   |nil=>exact trivial
   |cons b L=>
    refine ⟨⟨(hg a (by simp)).1,(hg b (by simp)).1,(hg a (by simp)).2,(hg b (by simp)).2,hp [] a b L rfl⟩,ih (fun A x y R e=>hp (a :: A) x y R (by rw[e];rfl)) fun p hp'=>hg p (by simp at hp' ⊢;simp[hp'])⟩
 refine key _ ?_ ?_
 ·intro A a b R e
  have hz:=h.ps
  unfold cyc at hz;rw[e] at hz
  have:=ZnZ (f:=nxp) (L:=A) (a:=a) (b:=b) (R:=R)
  exact Zoa (by omega)
 ·intro p hp
  have hp':p∈rs:=by
   rcases List.mem_append.mp hp with hp | hp
   ·exact hp
   ·exact List.mem_of_mem_take hp
  have:=hb p hp'
  exact ⟨h.gc p hp',by unfold Bd;omega⟩
theorem Rn.least (h:Rn rs)(hb:Nr 200 rs):Smo (CB.lrd rs):=by
 obtain ⟨a,r,rfl⟩:=List.exists_cons_of_ne_nil h.ne
 exact CB.Zk1 (by have:=h.len;simp at this;omega) (by have:=h.wgs hb;simpa using this) h.fan
end
end DL
end
section
namespace CZ
open PySem PySem.Spec L2 DL
open CY (F_law_put Zbw Zag F_law_any Zbx Zah Zai)
section
variable {Q:D->Sto->Prop}{E:Str->Sto->Prop}{M:Sto}{n m:Nat}{rs:List Pt}
theorem ZqF {w:Pt}(h:M[n]?=some (.lst (prs rs)))(hr:Rn rs)(hb:Nr 200 rs)(hl:3<=rs.length/\rs.length<=13)(gw:Int.gcd w.1 w.2=1)(hw:(-200<=w.1/\w.1<=200)/\ -200<=w.2/\w.2<=200)
  (q: ∀ ss m M',Rn ss->Nr 200 ss->3<=ss.length->ss.length<=14->(m=n\/M.length<=m)->M'[m]?=some (.lst (prs ss))->M.length<=M'.length->(∀ k,k < M.length->M'[k]?=M[k]?)->Q (.ref m) M'):wO (F_law_put [.ref n,pr w.1 w.2] M) Q E:=by
 have hn:=ZS h
 have ne:rs≠[]:=by intro z;rw[z] at hl;simp at hl
 simp![F_law_put,Zbw,h];refine ⟨by omega,?_⟩
 rw[show ((rs.length:Int)).toNat=rs.length by omega]
 refine ZcH (fun i ρ M'=>M'=M/\ ∃ x y,ρ=[some (.ref n),some (pr w.1 w.2),x,y]) ⟨rfl,_,_,rfl⟩ ?_ ?_
 ·rintro k ρ M hk ⟨rfl,x,y,rfl⟩
  rw[show (0:Int) + (k:Int)=k by omega]
  have e1:=Zao (i:=(k:Int) + 1) (m:=rs.length) (by omega)
  have b1:=Nr.cy hb ne k
  simp![Zag,h,ZdS,Zck,CA.Zem,CC.Zcn];refine ZkK (fun b M'=>M'=M/\(b=true->0 < X (cy rs k) w/\0 < X w (cy rs (k + 1)))) ?_ ?_
  ·refine brO (fun z=> ?_) (fun z=> ?_)
   ·simp![CC.Zcn]
    exact fun u=>⟨by unfold X;omega,by unfold X;have:=of_decide_eq_true u;omega⟩
   ·simp![Zn]
    exact fun u=>by cases u
  rintro b M ⟨rfl,hx⟩
  simp![Zn];refine ZnC (fun z=> ?_) (fun z=> ?_)
  ·have le:((k:Int) + 1).toNat=k + 1:=by omega
   simp![h,le];refine ⟨by rw[List.length_take];omega,by rw[List.length_take,List.length_drop];omega,?_⟩
   obtain ⟨x1,x2⟩:=hx z
   exact q (ins rs k (w.1,w.2)) _ _ (hr.ins hk gw x1 x2) (Nr.ins hb hw) (by rw[ZbH hk];omega) (by rw[ZbH hk];omega) (.inr (by omega)) (by rw[Ziw];rfl) (by rw[List.length_append];omega) (fun j hj=>by rw[Zbh hj])
  ·simp![Zn]
   exact ⟨_,_,rfl⟩
 ·rintro ρ M ⟨rfl,x,y,rfl⟩
  simp![Zn];exact q rs n M hr hb hl.1 (by omega) (.inl rfl) h (Nat.le_refl _) (fun _ _=>rfl)
theorem ZqG (hb:Bag n M)(q: ∀ ss m M',Rn ss->Nr 200 ss->3<=ss.length->ss.length<=14->M.length<=m->M'[m]?=some (.lst (prs ss))->Gr n M M'->Q (.ref m) M'):wO (F_law_any [.ref n] M) Q E:=by
 have hn:=hb.lt
 simp![F_law_any,Zbx];refine CA.Ze5 hb fun ss m M1 s1 s2 s3 m0 s4 gr=> ?_
 have sl:=s1.len
 have hn1:=gr.bag.lt
 have gl:=gr.len
 simp![Zn];refine CA.ZH (gr.bag.app _) (by decide) fun r M2 r0 r1 g2=> ?_
 have k2:=Gr.new gr.bag g2
 have hs4:=ZS s4
 have a4:M2[m]?=some (.lst (prs ss)):=by rw[g2.keep _ (by omega) (by simp;omega),Zbh hs4];exact s4
 have gr2:Gr n M M2:=gr.trans ((Gr.app gr.bag _).trans g2)
 obtain ⟨wd,hw,w0⟩: ∃ f:Int,atI [D.int 7,D.int 7,D.int 7,D.int 41,D.int 401,D.int 7,D.int 7,D.int 41] r=some (.int f)/\(f=7\/f=41\/f=401):=by
  have:r=0\/r=1\/r=2\/r=3\/r=4\/r=5\/r=6\/r=7:=by omega
  rcases this with rfl | rfl | rfl | rfl | rfl | rfl | rfl | rfl
  ·exact ⟨7,rfl,by decide⟩
  ·exact ⟨7,rfl,by decide⟩
  ·exact ⟨7,rfl,by decide⟩
  ·exact ⟨41,rfl,by decide⟩
  ·exact ⟨401,rfl,by decide⟩
  ·exact ⟨7,rfl,by decide⟩
  ·exact ⟨7,rfl,by decide⟩
  ·exact ⟨41,rfl,by decide⟩
 simp![k2,hw];refine CA.ZH gr2.bag (by decide) fun lp M3 lp0 lp1 g3=> ?_
 simp![Zn];refine ⟨by omega,?_⟩
 refine ZcH (fun i ρ M'=> ∃ ss m x3 x4 x5 x6,ρ=[some (.ref n),some (.ref m),some (.int wd),x3,x4,x5,x6]/\(m≠n/\M.length<=m)/\(Rn ss/\Nr 200 ss)/\3<=ss.length/\ss.length<=14/\M'[m]?=some (.lst (prs ss))/\Gr n M M') ⟨ss,m,_,_,_,_,rfl,by omega,⟨s1.rn,s2⟩,sl,s3,CA.Gr.up a4 g3 (by omega),gr2.trans g3⟩ ?_ ?_
 ·rintro i ρ M4 hi ⟨ss,m,x3,x4,x5,x6,rfl,m0,s2,s3,s4,s5,gr⟩
  simp![Zah];refine CA.ZH gr.bag (by omega) fun x M5 a0 a1 g5=> ?_
  simp![Zn];refine CA.ZH g5.bag (by omega) fun y M6 b0 b1 g6=> ?_
  have gr6:=(gr.trans g5).trans g6
  have c5:=CA.Gr.up (CA.Gr.up s5 g5 m0.1) g6 m0.1
  have hx: -200<=x - wd / 2/\x - wd / 2<=200:=by omega
  have hy: -200<=y - wd / 2/\y - wd / 2<=200:=by omega
  simp![Zn];generalize x - wd / 2=x at *;generalize y - wd / 2=y at *;refine ZkK (fun b M'=>M'=M6/\(b=true->(x,y)≠(0,0)/\ss.length < 14)) ?_ ?_
  ·refine ZsQ (fun z=> ?_) (fun z=> ?_)
   ·simp![c5]
    exact fun u=>⟨z,by have:=of_decide_eq_true u;omega⟩
   ·simp![Zn]
    exact fun u=>by cases u
  rintro b M6 ⟨rfl,hb⟩
  simp![Zn];refine ZnC (fun z=> ?_) (fun z=> ?_)
  ·obtain ⟨h0,h1⟩:=hb z
   simp![Zn];refine CY.ZfD h0 hx hy fun w gw bw=> ?_
   simp![Zn];refine ZqF c5 s2.1 s2.2 (by omega) gw bw fun tt m' M7 tr t2 t3 t4 t0 t5 t6 t7=> ?_
   simp![Zn];have gr7:=gr6.trans (CY.Gr.of gr6.bag t6 t7)
   have:=gr6.len
   exact ⟨tt,m',_,_,_,_,rfl,by have:=gr6.bag.lt;omega,⟨tr,t2⟩,t3,t4,t5,gr7⟩
  ·simp![Zn]
   exact ⟨ss,m,_,_,_,_,rfl,m0,s2,s3,s4,c5,gr6⟩
 ·rintro ρ M4 ⟨ss,m,x3,x4,x5,x6,rfl,m0,s2,s3,s4,s5,gr⟩
  simp![Zn];refine CA.ZH gr.bag (by decide) fun lp M5 lp0 lp1 g5=> ?_
  simp![Zn];refine ⟨by omega,?_⟩
  refine ZcH (fun i ρ M'=> ∃ ss m x2 x3 x4 x5 x6,ρ=[some (.ref n),some (.ref m),x2,x3,x4,x5,x6]/\(m≠n/\M.length<=m)/\(Rn ss/\Nr 200 ss)/\3<=ss.length/\ss.length<=14/\M'[m]?=some (.lst (prs ss))/\Gr n M M') ⟨ss,m,_,_,_,_,_,rfl,m0,s2,s3,s4,CA.Gr.up s5 g5 m0.1,gr.trans g5⟩ ?_ ?_
  ·rintro i ρ M6 hi ⟨ss,m,x2,x3,x4,x5,x6,rfl,m0,s2,s3,s4,s5,gr⟩
   have ne:ss≠[]:=by intro z;rw[z] at s3;simp at s3
   simp![Zai,s5];refine CA.ZH gr.bag (by omega) fun av M7 a0 a1 g7=> ?_
   have c5:=CA.Gr.up s5 g7 m0.1
   have hc5:=ZS c5
   have gr7:=gr.trans g7
   obtain ⟨av,rfl⟩: ∃ k:Nat,av=k:=⟨av.toNat,by omega⟩
   have e1:=Zao (i:=(av:Int) + 1) (m:=ss.length) (by omega)
   have b1:=Nr.cy s2.2 ne ((av:Int) - 1)
   simp![c5];refine ZkK (fun b M'=>M'=M7/\(b=true->3 < ss.length/\0 < X (cy ss (av - 1)) (cy ss (av + 1)))) ?_ ?_
   ·refine brO (fun z=> ?_) (fun z=> ?_)
    ·simp![c5,ZdS,Zck,CA.Zem,CC.Zcn]
     exact fun u=>⟨by omega,by unfold X;have:=of_decide_eq_true u;omega⟩
    ·simp![Zn]
     exact fun u=>by cases u
   rintro b M7 ⟨rfl,hb⟩
   simp![Zn];refine ZnC (fun z=> ?_) (fun z=> ?_)
   ·obtain ⟨h4,hx⟩:=hb z
    have le:((av:Int) + 1).toNat=av + 1:=by omega
    have le2:(av:Int).toNat=av:=by omega
    simp![c5,le,le2];have dl:=Zhm (rs:=ss) (k:=av) (by omega)
    refine ⟨by rw[List.length_take,List.length_drop];omega,del ss av,_,_,_,_,_,_,rfl,by have:=gr7.len;have:=gr7.bag.lt;omega,⟨s2.1.del (by omega) (by omega) hx,CF.Nr.del s2.2⟩,by omega,by omega,by rw[Ziw];rfl,gr7.app2 _⟩
   ·simp![Zn]
    exact ⟨ss,m,_,_,_,_,_,rfl,m0,s2,s3,s4,c5,gr7⟩
  ·rintro ρ M6 ⟨ss,m,x2,x3,x4,x5,x6,rfl,m0,s2,s3,s4,s5,gr⟩
   simp![Zn];exact q ss m M6 s2.1 s2.2 s3 s4 m0.2 s5 gr
end
end CZ
end
section
namespace DL
open TW
open CT (Cl)
section
variable {rs us:List Pt}
end
end DL
end
section
namespace CB
open DL
section
variable {u v w:Pt}
noncomputable def kl:List Pt->List Int
 |a :: b :: d :: r=>X a d :: kl (b :: d :: r)
 |_=>[]
theorem Xvv (p:Pt):X p p=0:=by unfold X;grind
theorem ZqH: ∀ (r:List Pt) (a b:Pt) (v:Pt),Ch (a :: b :: r)->Cv (a :: b :: r)->(b :: r).getLast (by simp)=v->0<=X b v/\X b v < X a v
 | [],a,b,v,h,_,e=>by
  have:b=v:=e
  subst this;rw[Xvv,h.1];omega
 |c :: r,a,b,v,h,k,e=>by
  have ih:=ZqH r b c v h.2 k.2 (by rw[<- e];simp[List.getLast_cons])
  obtain ⟨m,m2,e1,e2⟩:=k.1
  have ex:X a v + X c v=m * X b v:=by unfold X;grind
  have:2 * X b v<=m * X b v:=Int.mul_le_mul_of_nonneg_right m2 (by omega)
  omega
theorem Zk4 {t b k c:Int}(hb:0 < b)(h0:0<=c)(h1:c < b)(e:t + c=k * b): -((-t) / b)=k:=by
 have: -t=c + b * (-k):=by grind
 rw[this,Int.add_mul_ediv_left _ _ (by omega),Int.ediv_eq_zero_of_lt h0 h1]
 omega
theorem only: ∀ (ws:List Pt) (u v w:Pt),Ch (u :: (ws ++ [v]))->Cv (u :: (ws ++ [v]))->Fb u v w->ws=btw u w (hj (X u v) (X w v))/\kl (u :: (ws ++ [v]))=hj (X u v) (X w v)
 | [],u,v,w,h,k,f=>by
  have h1:X u v=1:=h.1
  have l:=f.lo
  have l2:=f.hi
  have w0:X w v=0:=by omega
  rw[w0];unfold hj;rw[dif_neg (by decide)]
  exact ⟨rfl,rfl⟩
 |x :: ws,u,v,w,h,k,f=>by
  have hl:(x :: (ws ++ [v])).getLast (by simp)=v:=by simp[List.getLast_cons]
  have d:=ZqH (ws ++ [v]) u x v h k hl
  have fx:Fb u v x:=⟨h.1,d.1,d.2⟩
  have ew:=fx.uniq f
  subst ew;obtain ⟨y,R,eR⟩: ∃ y R,ws ++ [v]=y :: R:=by
   cases ws with
   |nil=>exact ⟨v,[],rfl⟩
   |cons y R=>exact ⟨y,R ++ [v],rfl⟩
  have h':Ch (x :: y :: R):=by rw[<- eR];exact h.2
  have kk:Cv (u :: x :: y :: R):=by rw[<- eR];exact k
  have hl2:(y :: R).getLast (by simp)=v:=by
   have:(ws ++ [v]).getLast (by simp)=v:=by simp
   simpa [eR] using this
  have d2:=ZqH R x y v h' kk.2 hl2
  obtain ⟨m,m2,e1,e2⟩:=kk.1
  have ex:X u v + X y v=m * X x v:=by unfold X;grind
  have hc:=Zk4 (by omega) d2.1 d2.2 ex
  have ey:(m * x.1 - u.1,m * x.2 - u.2)=y:=by apply Prod.ext<;>simp only<;>omega
  have m3:X u y=m:=by
   have:=h.1
   rw[<- ey];unfold X at *
   simp only
   grind
  have fy:Fb x v y:=⟨h'.1,d2.1,d2.2⟩
  have ih:=only ws x v y (by rw[eR];exact h') (by rw[eR];exact kk.2) fy
  have ej:hj (X u v) (X x v)=m :: hj (X x v) (X y v):=by
   rw[hj,dif_pos (by omega),hc]
   congr 2
   omega
  rw[ej]
  constructor
  ·rw[btw,ey,<- ih.1]
  ·show kl (u :: x :: (ws ++ [v]))=_
   rw[eR,kl,m3,<- eR,ih.2]
end
end CB
end
section
namespace CD
open PySem PySem.Spec L2 DL
end CD
end
section
namespace CD
open PySem PySem.Spec L2 DL
open CV
open CB (Bd)
open CA (Tn)
section
variable {Q:D->Sto->Prop}{E:Str->Sto->Prop}{M:Sto}{n m p:Nat}{rs:List Pt}{a b c d:Int}{ρ:Ro}{k:Nat}{xs:List D}{tg:Tg}{f:Ev}
theorem Zlg {fr:List Nat}(I:Ro->Prop)(F:Nat->D)(hM:M[n]?=some (.lst xs))(hl:xs.length < 10000000)(h0:I (roB k fr ρ))
  (st: ∀ (i:Nat) (h:i < xs.length) (ρ:Ro) (M':Sto),Kp M M'->I ρ->wG (tg xs[i] ρ) fun r=>I r/\wO (f r M') (fun y M2=>y=F i/\Kp M' M2) (fun _ _=>False))
  (hq: ∀ M',Kp M M'->M'[M.length]?=some (.lst ((List.range xs.length).map F))->Q (.ref M.length) M'):
  kCo tg (fun _ M=> .ok true M) f k fr ρ Q (.sto n) M:=by
 refine Zg4 (xs:=xs) (Q:=fun M2=>Q (.ref M.length) M2) (fun i ρ M'=>I ρ/\Kp M M'/\M'[M.length]?=some (.lst ((List.range i).map F))) _ 0 _ _ (by simp) (by rw[Zg6 hM];omega) ⟨h0,Kp.app,by simp⟩ (fun i ρ M' hi hI=>by rw[Zjl];exact hI.2.1.get hM) ?_ (fun ρ M' hI=>hq M' hI.2.1 hI.2.2)
 rintro i ρ M' hi ⟨hI,K,r⟩
 have s:=st i hi ρ M' K hI
 cases e:tg xs[i] ρ with
 |none=>rw[e] at s;exact s.elim
 |some r'=>
  rw[e] at s;obtain ⟨hr,s⟩:=s
  show Br true _ _
  rw[ZoA];refine Zcj s (fun y M2 ⟨h1,h2⟩=> ?_) (fun _ _ z=>z)
  subst h1;rw[h2.get r];have hl2:=ZS (h2.get r)
  refine ⟨by simp;omega,hr,(K.trans h2).set (Nat.le_refl _),?_⟩
  rw[List.getElem?_set_self hl2,List.range_succ,List.map_append]
  rfl
noncomputable abbrev tb (a b c d:Int):SO:= .lst [.int a,.int b,.int c,.int d]
end
end CD
end
section
namespace CD
open PySem PySem.Spec L2 DL
open CV
open CB (Bd)
open CA (Tn)
noncomputable def sg {α:Type}(neg:Bool)(k:Nat)(L:List α):List α:=(if neg then L.reverse else L).drop k ++ (if neg then L.reverse else L).take k
section
variable {Q:D->Sto->Prop}{E:Str->Sto->Prop}{M:Sto}{n m p:Nat}{rs:List Pt}{a b c d:Int}{ρ:Ro}{k:Nat}{xs:List D}{tg:Tg}{f:Ev}
end
end CD
end
section
namespace CD
open PySem PySem.Spec L2 DL
open CV CN CU CS
section
variable {Q:D->Sto->Prop}{E:Str->Sto->Prop}{M:Sto}{n m k l:Nat}{rs:List Pt}{p q:Rat}{xs:List Rat}{ms:List (Rat × Rat)}
end
end CD
end
section
namespace DL
open TW
open CN (cq)
section
variable {rs:List Pt}{hs:List Rat}
end
end DL
end
section
namespace CO
open PySem PySem.Spec L2 DL
open CC (F_following)
end CO
end
section
namespace CO
open PySem PySem.Spec L2 DL
open CV CN CU CS CD
open CA (Tn)
section
variable {Q:D->Sto->Prop}{E:Str->Sto->Prop}{M:Sto}{n m p:Nat}{rs us:List Pt}{hs:List Int}
end
end CO
end
section
end
section
end
section
end
section
end
section
end
section
namespace CQ
open PySem PySem.Spec L2 DL
end CQ
end
section
namespace CQ
open PySem PySem.Spec L2 DL
open CV
open CB (Bd)
open CA (Tn)
open CD (sg tb Zlg)
section
variable {Q:D->Sto->Prop}{E:Str->Sto->Prop}{M:Sto}{n m p:Nat}{rs:List Pt}{a b c d:Int}
end
end CQ
end
section
namespace CQ
open PySem PySem.Spec L2 DL
open CV
open CB (Bd)
open CA (Tn)
open CD (sg tb Zlg)
section
variable {Q:D->Sto->Prop}{E:Str->Sto->Prop}{M:Sto}{n m p:Nat}{rs:List Pt}{a b c d:Int}
end
end CQ
end
section
namespace CQ
open PySem PySem.Spec L2 DL
open CV
open CB (Bd)
open CA (Tn)
open CD (sg tb Zlg)
section
variable {Q:D->Sto->Prop}{E:Str->Sto->Prop}{M:Sto}{n m p:Nat}{rs:List Pt}{a b c d:Int}
end
end CQ
end
section
namespace CQ
open PySem PySem.Spec L2 DL
open CV
open CB (Bd)
open CA (Tn)
open CD (sg tb Zlg)
section
variable {Q:D->Sto->Prop}{E:Str->Sto->Prop}{M:Sto}{n m p:Nat}{rs:List Pt}{a b c d:Int}
end
end CQ
end
section
namespace CB
open PySem PySem.Spec L2 DL
open CD (sg)
section
variable {a b c d:Int}{u v w:Pt}{rs:List Pt}
end
end CB
end
section
namespace CX
open PySem PySem.Spec L2 DL
open CC (F_following)
open CL (F_least_round)
end CX
end
section
namespace CX
open PySem PySem.Spec L2 DL
open CV
open CB (Bd lrd)
noncomputable def ltP:List Pt->List Pt->Bool
 | [],[]=>false
 | [],_ :: _=>true
 |_ :: _,[]=>false
 |x :: xs,y :: ys=>if x=y then ltP xs ys else HT.ZjM [x.1,x.2] [y.1,y.2]
section
variable {Q:D->Sto->Prop}{E:Str->Sto->Prop}{M:Sto}{n m p:Nat}{rs ls:List Pt}
end
end CX
end
section
namespace CX
open PySem PySem.Spec L2 DL
open CV
open CB (Bd lrd)
section
variable {Q:D->Sto->Prop}{E:Str->Sto->Prop}{M:Sto}{n m p:Nat}{rs ls:List Pt}
end
end CX
end
section
namespace CX
open PySem PySem.Spec L2 DL
open CV
open CB (Bd lrd)
noncomputable def onw (L:List Pt)(i:Nat):List Pt:=L.drop i ++ L.take i
noncomputable def rdg (L:List Pt)(i:Nat)(b:Bool):List Pt:=if b then (onw L i).take 1 ++ ((onw L i).drop 1).reverse else onw L i
noncomputable def bsd (ls:List Pt)(i:Nat)(b:Bool):Pt:=if b then cy ls ((i:Int) - 1) else cy ls ((i:Int) + 1)
noncomputable def Bst (lo:Nat)(L ls:List Pt)(S:Nat->Bool->Prop)(v3 v4:D)(M:Sto):Prop:=(v3= .non/\v4= .non/\ ∀ i b,¬ S i b)\/ ∃ i b o,(S i b/\lo<=o)/\v3= .ref o/\v4= .tup [pr (cy ls (i:Nat)).1 (cy ls (i:Nat)).2,pr (bsd ls i b).1 (bsd ls i b).2]/\M[o]?=some (.lst (prs (rdg L i b)))/\ ∀ i' b',S i' b'->ltP (rdg L i' b') (rdg L i b)=false
theorem Bst.congr {lo:Nat}{L ls:List Pt}{S S':Nat->Bool->Prop}{v3 v4:D}{M:Sto}(h: ∀ i b,S i b ↔ S' i b)(k:Bst lo L ls S v3 v4 M):Bst lo L ls S' v3 v4 M:=by
 rcases k with ⟨h1,h2,h3⟩ | ⟨i,b,o,h1,h2,h3,h4,h5⟩
 ·exact .inl ⟨h1,h2,fun i b k=>h3 i b ((h i b).mpr k)⟩
 ·exact .inr ⟨i,b,o,⟨(h i b).mp h1.1,h1.2⟩,h2,h3,h4,fun i' b' k=>h5 i' b' ((h i' b').mpr k)⟩
section
variable {Q:D->Sto->Prop}{E:Str->Sto->Prop}{M:Sto}{n m p:Nat}{rs ls L:List Pt}{N B C:Ro->Sto->Prop}{R:D->Sto->Prop}
end
end CX
end
section
namespace CX
open PySem PySem.Spec L2 DL
open CB (Bd lrd ZaX seg)
open CD (sg)
section
variable {rs ls L L' O:List Pt}
noncomputable def sn (b:Bool):Int:=if b then -1 else 1
end
end CX
end
section
namespace CX
open PySem PySem.Spec L2 DL
open CB (Bd lrd)
open CV
open CD (sg)
section
variable {M:Sto}{n:Nat}{rs cs ls L L':List Pt}
end
end CX
end
section
end
section
end
section
end
section
end
section
end
section
namespace CG
open PySem PySem.Spec L2 DL
open CC (F_crossed F_following)
open CR (F_is_whole F_greatest_divisor F_law_whole)
noncomputable def Zcw:Sv:=(ZM (Zam (ZcE "tuple" (Zf 0)) (Zam (e2 dEq (Zj bLen (Zc (Zf 0) aNil)) (eC (.int 2))) (Zam (Zj F_is_whole (Zc (e2 dIx (Zf 0) (eC (.int 0))) aNil)) (Zj F_is_whole (Zc (e2 dIx (Zf 0) (eC (.int 1))) aNil))))))
noncomputable def F_is_pair:List D->Sto->Out D:=fnF Zcw 1 0
noncomputable def Zc3:Sv:=(ZM (Zj F_greatest_divisor (Zc (e2 dIx (Zf 0) (eC (.int 0))) (Zc (e2 dIx (Zf 0) (eC (.int 1))) aNil))))
noncomputable def F_common:List D->Sto->Out D:=fnF Zc3 1 0
noncomputable def Zc4:Sv:=(ZM (Zam (Zj F_is_pair (Zc (Zf 0) aNil)) (e2 dEq (Zj F_common (Zc (Zf 0) aNil)) (eC (.int 1)))))
noncomputable def F_is_ray:List D->Sto->Out D:=fnF Zc4 1 0
noncomputable def Zab:Sv:=(ZM (Zgh (e2 dEq (Zf 0) (ZU (Zc (eC (.int 1)) (Zc (eC (.int 0)) aNil)))) (Zam (e2 dLt (e2 dIx (Zf 0) (eC (.int 1))) (eC (.int 0))) (e2 dLt (eC (.int 0)) (e2 dIx (Zf 1) (eC (.int 1)))))))
noncomputable def F_met_direction:List D->Sto->Out D:=fnF Zab 2 0
noncomputable def Zac:Sv:=(sIf (Z1 (tv (Zj F_is_ray (Zc (Zf 2) aNil)))) (Zaz (PySem.Str.ofString "NoRound") (Zc (eC (.str (PySem.Str.ofString "ray"))) (Zc (Zf 1) aNil))) sNil)
noncomputable def ZT:Sv:=(sIf (tv (e2 dLe (Zj F_crossed (Zc (Zf 2) (Zc (Zj F_following (Zc (Zf 0) (Zc (Zf 1) aNil))) aNil))) (eC (.int 0)))) (Zaz (PySem.Str.ofString "NoRound") (Zc (eC (.str (PySem.Str.ofString "wedge"))) (Zc (Zf 1) aNil))) sNil)
noncomputable def ZaY:Sv:=(Zw (sIf (ZcP (Z1 (tv (ZcE "list" (Zf 0)))) (tv (e2 dLt (Zj bLen (Zc (Zf 0) aNil)) (eC (.int 3))))) (Zaz (PySem.Str.ofString "NoRound") (Zc (eC (.str (PySem.Str.ofString "round"))) (Zc (eC (.int 0)) aNil))) sNil)
 (Zw (Zed (gTp (gCs (gNm 1) (gCs (gNm 2) gNl))) (iEn (Zc (Zf 0) aNil)) Zac)
 (Zw (Zed (gTp (gCs (gNm 1) (gCs (gNm 2) gNl))) (iEn (Zc (Zf 0) aNil)) ZT)
 (sIf (tv (e2 dGt (Zj bLen (Zc (Zan (iEn (Zc (Zf 0) aNil)) 2 [0] (gTp (gCs (gNm 0) (gCs (gNm 1) gNl))) (tv (Zj F_met_direction (Zc (Zf 1) (Zc (Zj F_following (Zc (Zf 2) (Zc (Zf 0) aNil))) aNil)))) (Zf 0)) aNil)) (eC (.int 1)))) (Zaz (PySem.Str.ofString "NoRound") (Zc (eC (.str (PySem.Str.ofString "turns"))) (Zc (eC (.int 0)) aNil))) sNil))))
noncomputable def F_look_round:List D->Sto->Out D:=fnF ZaY 1 2
end CG
end
section
namespace CG
open PySem PySem.Spec L2 DL
open CB (Bd)
open CV (Kp)
open CC (F_following)
noncomputable abbrev NR:Str:=PySem.Str.ofString "NoRound"
noncomputable def met (a b:Pt):Bool:=decide (a=(1,0)) || (decide (a.2 < 0) && decide (0 < b.2))
theorem Zoc {a b:Pt}(g:Int.gcd a.1 a.2=1)(x:0 < X a b):(if met a b then 1 else 0)=in1 (1,0) a b:=by
 have e1:X a (1,0)=0 - a.2:=by unfold X;simp only;omega
 have e2:X (1,0) b=b.2:=by unfold X;simp only;omega
 unfold in1 met;rw[e1,e2]
 by_cases c:a.2=0
 ·have ga:a.1=1\/a.1= -1:=by
   rw[c,Int.gcd_zero_right] at g;omega
  unfold X at x;rw[c] at x
  rcases ga with h | h
  ·have ea:a=(1,0):=Prod.ext h c
   rw[h] at x;rw[ea]
   simp
   omega
  ·have ea:a≠(1,0):=fun z=>by rw[z] at h;simp at h
   rw[h] at x
   have: ¬ (0 < b.2):=by omega
   simp[ea,this]
 ·have ea:a≠(1,0):=fun z=>c (by rw[z])
  by_cases c2:a.2 < 0
  ·by_cases c3:0 < b.2
   ·simp[c2,c3];omega
   ·simp[ea,c3]
  ·have: ¬ (0<=0 - a.2):=by omega
   simp[ea,c2]
   omega
noncomputable def ZhL (rs:List Pt):Nat:=((List.range rs.length).filter fun (i:Nat)=>met (cy rs i) (cy rs (i + 1))).length
section
variable {Q:D->Sto->Prop}{E:Str->Sto->Prop}{N B C:Ro->Sto->Prop}{R:D->Sto->Prop}{M M':Sto}{m:Nat}{rs:List Pt}{u v:Pt}{d:D}
theorem Zjz {m:Nat}{xs:List D}(h:M[m]?=some (.lst xs)):ZL M (.ref m)=some "list":=by simp[ZL,kd,h]
theorem Zod:wO (F_is_pair [pr u.1 u.2] M) Q E=Q (.bl true) M:=by
 simp![F_is_pair,Zcw,CR.F_is_whole,CR.ZbL]
theorem ZqI (q:Q (.bl (decide (Int.gcd u.1 u.2=1))) M):wO (F_is_ray [pr u.1 u.2] M) Q E:=by
 simp![F_is_ray,Zc4,Zod];simp![F_common,Zc3,CR.ZqB];rw[ZmH];simp![Zn];have e:decide (((Int.gcd u.1 u.2:Nat):Int)=1)=decide (Int.gcd u.1 u.2=1):=decide_eq_decide.mpr (by omega)
 rw[e];exact q
theorem ZqJ (q:Q (.bl (met u v)) M):wO (F_met_direction [pr u.1 u.2,pr v.1 v.2] M) Q E:=by
 unfold met at q;simp![F_met_direction,Zab];refine brO (fun z=> ?_) (fun z=> ?_)
 ·simp![Zn]
  have e:u=(1,0):=z
  rw[decide_eq_true e,Bool.true_or] at q;exact q
 ·simp![Zn]
  have e: ¬ u=(1,0):=z
  rw[decide_eq_false e,Bool.false_or] at q;refine brO (fun z2=> ?_) (fun z2=> ?_)
  ·simp![Zn]
   rw[decide_eq_true z2,Bool.true_and] at q;exact q
  ·simp![Zn]
   rw[decide_eq_false z2,Bool.false_and] at q;exact q
theorem Zoe {i:Nat}(h:i<=2000000):((i:Int)).natAbs.log2 < 1000:=by
 rw[Int.natAbs_natCast]
 by_cases c:i=0
 ·rw[c];decide
 ·exact Nat.lt_of_lt_of_le ((Nat.log2_lt c).mpr (show i < 2 ^ 21 by omega)) (by decide)
theorem Zk5 {x y:Option D}(h:M[m]?=some (.lst (prs rs)))(hl:3<=rs.length/\rs.length<=2000000)(hb: ∀ p∈rs,Bd 1000000 p)(hg: ∀ p∈rs,Int.gcd p.1 p.2=1)
  (h1: ∀ i:Nat,i < rs.length->(∀ j:Nat,j < i->0 < X (cy rs j) (cy rs (j + 1)))-> ¬ 0 < X (cy rs i) (cy rs (i + 1))->E NR (M ++ [.lst [.str (PySem.Str.ofString "wedge"),.int i]]))
  (h2:(∀ i:Nat,i < rs.length->0 < X (cy rs i) (cy rs (i + 1)))->1 < ZhL rs-> ∀ M',Kp M M'->E NR (M' ++ [.lst [.str (PySem.Str.ofString "turns"),.int 0]]))
  (h3:(∀ i:Nat,i < rs.length->0 < X (cy rs i) (cy rs (i + 1)))->ZhL rs<=1-> ∀ M',Kp M M'->Q .non M'):
  wS ((Zw (Zed (gTp (gCs (gNm 1) (gCs (gNm 2) gNl))) (iEn (Zc (Zf 0) aNil)) ZT)
   (sIf (tv (e2 dGt (Zj bLen (Zc (Zan (iEn (Zc (Zf 0) aNil)) 2 [0] (gTp (gCs (gNm 0) (gCs (gNm 1) gNl))) (tv (Zj F_met_direction (Zc (Zf 1) (Zc (Zj F_following (Zc (Zf 2) (Zc (Zf 0) aNil))) aNil)))) (Zf 0)) aNil)) (eC (.int 1)))) (Zaz (PySem.Str.ofString "NoRound") (Zc (eC (.str (PySem.Str.ofString "turns"))) (Zc (eC (.int 0)) aNil))) sNil)) [some (.ref m),x,y] M) (Zlf Q) Q (fun _ _=>False) (fun _ _=>False) E:=by
 have ne:rs≠[]:=by intro z;rw[z] at hl;simp at hl
 simp![Zn];refine Zg8 (fun i ρ M'=>M'=M/\(∃ x y,ρ=[some (.ref m),x,y])/\ ∀ j:Nat,j < i->0 < X (cy rs j) (cy rs (j + 1))) h ⟨rfl,⟨_,_,rfl⟩,fun j hj=>by omega⟩ (fun i ρ M' hI=>by rw[hI.1];exact h) ?_ ?_
 ·rintro i ρ M' hi ⟨e,⟨x,y,rfl⟩,hj⟩
  rw[e];clear e M';rw[Zx] at hi;rw[CC.ZbI];have b1:=hb _ (Ze3 (i:=(i:Int)) ne)
  have cw: ∀ {Q:D->Sto->Prop} {E:Str->Sto->Prop},wO (CC.F_crossed [pr (cy rs i).1 (cy rs i).2,pr (cy rs (i + 1)).1 (cy rs (i + 1)).2] M) Q E=Q (.int (X (cy rs i) (cy rs (i + 1)))) M:=CC.Zcn (by unfold Bd at b1;omega) (by unfold Bd at b1;omega)
  simp![ZT,CC.Zbk h,cw];refine brS (fun z=> ?_) (fun z=> ?_)
  ·refine Ze2 ?_
   simp![Zjm];exact ⟨⟨by decide +kernel,Zoe (by omega)⟩,h1 i hi hj (by omega)⟩
  ·simp![Zn]
   refine ⟨⟨_,_,rfl⟩,fun j hj'=> ?_⟩
   by_cases c:j < i
   ·exact hj j c
   ·have:j=i:=by omega
    subst this;omega
 rintro ρ M' ⟨e,⟨x,y,rfl⟩,hj⟩
 rw[e];clear e M';rw[Zx] at hj;simp![Zn];show wO (Zcg (.enu m) _ _ _ M.length (cnt (.enu m) M) 0 _ (M ++ [.lst []])) _ _
 have hln:((prs rs).mapIdx fun (k:Nat) d=>D.tup [.int k,d]).length=rs.length:=by simp[Zx]
 have lm:=ZS h
 refine Zg4 (xs:=(prs rs).mapIdx fun (k:Nat) d=>D.tup [.int k,d]) (fun i ρ M'=>(∃ x y,ρ=[x,y,some (.ref m)])/\M'=M ++ [.lst (((List.range i).filter fun (i:Nat)=>met (cy rs i) (cy rs (i + 1))).map fun (i:Nat)=>D.int i)]) _ 0 _ _ (by simp) (by rw[Zg7 h,hln,Zx];omega) ⟨⟨_,_,rfl⟩,rfl⟩ (fun i ρ M' hi hI=> ?_) ?_ ?_
 ·rw[hI.2,Zjk (by rw[Zbh lm];exact h),List.getElem?_mapIdx]
 ·rintro i ρ M' hi ⟨⟨x,y,rfl⟩,rfl⟩
  have hi':i < rs.length:=by rw[hln] at hi;exact hi
  have hM:(M ++ [SO.lst (((List.range i).filter fun (i:Nat)=>met (cy rs i) (cy rs (i + 1))).map fun (i:Nat)=>D.int i)])[m]?=some (.lst (prs rs)):=by rw[Zbh lm];exact h
  rw[List.getElem_mapIdx,CC.ZbI];simp![CC.Zbk hM];refine ZqJ ?_
  simp![Zn];refine br (fun z=> ?_) (fun z=> ?_)
  ·simp![Zn]
   have l1:((List.range i).filter fun (i:Nat)=>met (cy rs i) (cy rs (i + 1))).length<=i:=by
    have:=List.length_filter_le (fun (i:Nat)=>met (cy rs i) (cy rs (i + 1))) (List.range i)
    rw[List.length_range] at this;exact this
   refine ⟨by omega,?_⟩
   rw[List.range_succ,List.filter_append,List.map_append]
   simp[List.filter_cons,z]
  ·refine ⟨⟨_,_,rfl⟩,?_⟩
   rw[List.range_succ,List.filter_append]
   simp[List.filter_cons,z]
 ·rintro ρ M' ⟨-,rfl⟩
  rw[hln];have hlen:(((List.range rs.length).filter fun (i:Nat)=>met (cy rs i) (cy rs (i + 1))).map fun (i:Nat)=>D.int i).length=ZhL rs:=by rw[List.length_map];rfl
  have t:(M ++ [SO.lst (((List.range rs.length).filter fun (i:Nat)=>met (cy rs i) (cy rs (i + 1))).map fun (i:Nat)=>D.int i)])[M.length]?=some (.lst (((List.range rs.length).filter fun (i:Nat)=>met (cy rs i) (cy rs (i + 1))).map fun (i:Nat)=>D.int i)):=by simp
  have K1:Kp M (M ++ [SO.lst (((List.range rs.length).filter fun (i:Nat)=>met (cy rs i) (cy rs (i + 1))).map fun (i:Nat)=>D.int i)]):=Kp.app
  generalize M ++ [SO.lst (((List.range rs.length).filter fun (i:Nat)=>met (cy rs i) (cy rs (i + 1))).map fun (i:Nat)=>D.int i)]=M1 at *
  generalize ((List.range rs.length).filter fun (i:Nat)=>met (cy rs i) (cy rs (i + 1))).map (fun (i:Nat)=>D.int i)=L at *
  show kA1 _ _ _ _ (.ref M.length) M1
  simp![t];rw[hlen];refine brS (fun z=> ?_) (fun z=> ?_)
  ·refine Ze2 ?_
   simp![Zjm];exact ⟨⟨by decide +kernel,by decide +kernel⟩,h2 hj (by omega) M1 K1⟩
  ·simp![Zn]
   exact h3 hj (by omega) M1 K1
theorem Zof (h:M[m]?=some (.lst (prs rs)))(hl:3<=rs.length/\rs.length<=2000000)(hb: ∀ p∈rs,Bd 1000000 p)(hg: ∀ p∈rs,Int.gcd p.1 p.2=1)
  (h1: ∀ i:Nat,i < rs.length->(∀ j:Nat,j < i->0 < X (cy rs j) (cy rs (j + 1)))-> ¬ 0 < X (cy rs i) (cy rs (i + 1))->E NR (M ++ [.lst [.str (PySem.Str.ofString "wedge"),.int i]]))
  (h2:(∀ i:Nat,i < rs.length->0 < X (cy rs i) (cy rs (i + 1)))->1 < ZhL rs-> ∀ M',Kp M M'->E NR (M' ++ [.lst [.str (PySem.Str.ofString "turns"),.int 0]]))
  (h3:(∀ i:Nat,i < rs.length->0 < X (cy rs i) (cy rs (i + 1)))->ZhL rs<=1-> ∀ M',Kp M M'->Q .non M'):wO (F_look_round [.ref m] M) Q E:=by
 have ne:rs≠[]:=by intro z;rw[z] at hl;simp at hl
 simp![F_look_round,ZaY,Zjz h,h];refine Zg8 (fun i ρ M'=>M'=M/\ ∃ x y,ρ=[some (.ref m),x,y]) h ⟨rfl,_,_,rfl⟩ (fun i ρ M' hI=>by rw[hI.1];exact h) ?_ ?_
 ·rintro i ρ M' hi ⟨e,x,y,rfl⟩
  rw[e];clear e M';rw[Zx] at hi;rw[CC.ZbI];simp![Zac];refine ZqI ?_
  rw[hg _ (Ze3 ne),decide_eq_true rfl];simp![Zn];exact ⟨_,_,rfl⟩
 rintro ρ M' ⟨e,x,y,rfl⟩
 rw[e];clear e M';exact Zk5 h hl hb hg h1 h2 h3
theorem Zog (h:M[m]?=some (.lst (prs rs)))(hl:3<=rs.length/\rs.length<=2000000)(hb: ∀ p∈rs,Bd 5000 p)(hg: ∀ p∈rs,Int.gcd p.1 p.2=1)
  (h1: ∀ i:Nat,i < rs.length->(∀ j:Nat,j < i->0 < X (cy rs j) (cy rs (j + 1)))-> ¬ 0 < X (cy rs i) (cy rs (i + 1))->E NR (M ++ [.lst [.str (PySem.Str.ofString "wedge"),.int i]]))
  (h2:(∀ i:Nat,i < rs.length->0 < X (cy rs i) (cy rs (i + 1)))->1 < ZhL rs-> ∀ M',Kp M M'->E NR (M' ++ [.lst [.str (PySem.Str.ofString "turns"),.int 0]]))
  (h3:(∀ i:Nat,i < rs.length->0 < X (cy rs i) (cy rs (i + 1)))->ZhL rs<=1-> ∀ M',Kp M M'->Q .non M'):wO (F_look_round [.ref m] M) Q E:=
 Zof h hl (fun p hp=>by have:=hb p hp;unfold Bd at *;omega) hg h1 h2 h3
end
end CG
end
section
end
section
end
section
end
section
namespace CI
open PySem PySem.Spec L2 DL
open CR (F_is_whole F_greatest_divisor)
noncomputable def ZaH:Sv:=(Zw (sIf (tv (e2 dGe (Zj bAbs (Zc (Zf 0) aNil)) (e2 dPow (eC (.int 10)) (eC (.int 60))))) (Zat (PySem.Str.ofString "NoText") (Zc (eC (.str (PySem.Str.ofString "a number has at most sixty figures"))) aNil)) sNil)
 (ZM (Zj bStr (Zc (Zf 0) aNil))))
noncomputable def F_number_text:List D->Sto->Out D:=fnF ZaH 1 0
noncomputable def ZbM:Sv:=(Zw (sIf (Z1 (tv (ZcE "str" (Zf 0)))) (Zat (PySem.Str.ofString "NoText") (Zc (eC (.str (PySem.Str.ofString "the thing is no text"))) aNil)) sNil)
 (ZM (ZhK mSpl (Zf 0) (Zc (eC (.str (PySem.Str.ofString " "))) aNil))))
noncomputable def F_words_of:List D->Sto->Out D:=fnF ZbM 1 0
noncomputable def ZaI:Sv:=(Zw (ZJ (gNm 1) (eIf (tv (ZhK mStw (Zf 0) (Zc (eC (.str (PySem.Str.ofString "-"))) aNil))) (Zox (Zf 0) (oSo (eC (.int 1))) oNo) (Zf 0)))
 (Zw (sIf (ZcP (tv (e2 dLt (Zj bLenT (Zc (Zf 1) aNil)) (eC (.int 1)))) (ZcP (tv (e2 dGt (Zj bLenT (Zc (Zf 1) aNil)) (eC (.int 60)))) (Z1 (tv (Zj bAll (Zc (Zan (iTx (Zf 1)) 1 [] (gNm 0) (fun _ M=> .ok true M) (e2 dInT (Zf 0) (eC (.str (PySem.Str.ofString "0123456789"))))) aNil)))))) (Zat (PySem.Str.ofString "NoText") (Zc (eC (.str (PySem.Str.ofString "a number is written by one to sixty figures"))) aNil)) sNil)
 (Zw (sIf (Zbe (tv (e2 dEq (e2 Zow (Zf 1) (eC (.int 0))) (eC (.str (PySem.Str.ofString "0"))))) (tv (e2 dNe (Zf 0) (eC (.str (PySem.Str.ofString "0")))))) (Zat (PySem.Str.ofString "NoText") (Zc (eC (.str (PySem.Str.ofString "a nought ahead stands in 0 alone"))) aNil)) sNil)
 (ZM (Zj bIntT (Zc (Zf 0) aNil))))))
noncomputable def F_read_number:List D->Sto->Out D:=fnF ZaI 1 1
end CI
end
section
namespace CI
open PySem PySem.Spec L2 DL SX PySem.NumText
open CV
section
variable {Q:D->Sto->Prop}{E:Str->Sto->Prop}{M:Sto}{n m k:Nat}{i:Int}{z:Str}
theorem Zhz {i:Int}(h:i.natAbs < 10 ^ 60):i.natAbs.log2 < 1900:=by
 by_cases z:i.natAbs=0
 ·rw[z];decide
 ·exact Nat.lt_trans ((Nat.log2_lt z).mpr (Nat.lt_of_lt_of_le h (by decide:10 ^ 60<=2 ^ 200))) (by decide)
theorem Ze8 (h:i.natAbs < 10 ^ 60)(q:Q (.str (tx i)) M):wO (F_number_text [.int i] M) Q E:=by
 have h1:=Zhz h
 simp![F_number_text,ZaH,ZnT];exact ⟨h1,q⟩
noncomputable def fgs (l:List Nat):List Nat:=match l with | 45 :: r=>r | _=>l
noncomputable def ten:List Nat:=[48,49,50,51,52,53,54,55,56,57]
noncomputable def okn (l:List Nat):Prop:=(1<=(fgs l).length/\(fgs l).length<=60/\(fgs l).all (fun c=>ten.contains c)=true)/\((fgs l).head?=some 48->l=[48])
noncomputable def vln (l:List Nat):Int:=if l.head?=some 45 then -(digitsVal (fgs l):Nat) else (digitsVal (fgs l):Nat)
theorem Zer {l:List Nat}(h:l.head?=some 45): ∃ r,l=45 :: r/\fgs l=r:=by
 cases l with
 |nil=>cases h
 |cons a r=>
  have:a=45:=by simpa using h
  subst this;exact ⟨r,rfl,rfl⟩
theorem Zc5 {l:List Nat}(h:l.head?≠some 45):fgs l=l:=by
 unfold fgs
 split
 ·exact absurd rfl h
 ·rfl
theorem ZhA (c:Nat):ten.contains c=true ↔ 48<=c/\c<=57:=by
 unfold ten;simp only[List.contains_cons,List.contains_nil,Bool.or_false,Bool.or_eq_true,beq_iff_eq];omega
theorem ZhB (z:Str):Txt.startswith z (PySem.Str.ofString "-")=decide (z.cps.toList.head?=some 45):=by
 have e:PySem.Str.ofString "-"=⟨#[45]⟩:=by decide
 rw[e];unfold Txt.startswith Builtin.Str.subAt;rw[show (⟨#[45]⟩:Str).length=1 from rfl,Zbg];have hx:z.cps.extract 0 (0 + 1)=(z.cps.toList.take 1).toArray:=by
  apply Array.toList_inj.mp
  rw[Array.toList_extract,List.extract_eq_drop_take]
  simp
 rw[hx];cases h:z.cps.toList with
 |nil=>rfl
 |cons a r=>
  simp only[List.take_succ_cons,List.take_zero,List.head?_cons,Option.some.injEq]
  by_cases c:a=45
  ·subst c;simp
  ·rw[decide_eq_false c]
   have:(#[a] == (⟨#[45]⟩:Str).cps)=false:=by
    apply beq_eq_false_iff_ne.mpr
    intro z
    injection z with z
    injection z with z _
    exact c z
   rw[show ([a]:List Nat).toArray= #[a] from rfl,this,Bool.and_false]
theorem ZqK (z:Str):(⟨z.cps.toList.toArray⟩:Str)=z:=ZgN (by simp)
theorem ZqL {k:Nat}{x y:Str}:eqF (k + 1) M (.str x) (.str y)=some (decide (x=y)):=rfl
theorem Zoh (l:List Nat):sgs ⟨l.toArray⟩=l.map fun c=>D.str ⟨#[c]⟩:=by simp[sgs]
noncomputable def pB (P:Prop)(M:Sto)(b:Bool)(M':Sto):Prop:=(b=true ↔ P)/\Kp M M'
theorem pBi {P:Prop}{M M':Sto}{b:Bool}(h:b=true ↔ P)(k:Kp M M'):pB P M b M':=⟨h,k⟩
theorem ZhC {xs:List Bool}:Z7 (xs.map D.bl)=some xs:=CA.ZdZ xs
theorem Zk6 (hz:asc z=true)(hl:z.length<=100000)(q1:okn z.cps.toList-> ∀ M',Kp M M'->Q (.int (vln z.cps.toList)) M')(q2: ¬ okn z.cps.toList-> ∀ M',Kp M M'->E (PySem.Str.ofString "NoText") M'):wO (F_read_number [.str z] M) Q E:=by
 have hs:=ZhB z
 have hL:=Zbg z
 have hk: ∀ c∈z.cps.toList,c < 128:=fun c hc=>by
  have:=hz
  unfold asc at this;rw[Array.all_eq_true] at this;obtain ⟨i,hi,e⟩:=List.mem_iff_getElem.mp hc
  have t:=this i (by simpa using hi)
  rw[<- e]
  simpa using t
 generalize eL:z.cps.toList=L at *;simp![F_read_number,ZaI,Zhi,Zhh,Zqk,hs];refine ZkK (fun d M'=>d= .str ⟨(fgs L).toArray⟩/\M'=M) ?_ ?_
 ·refine brO (fun c=> ?_) (fun c=> ?_)
  ·obtain ⟨r,e1,e2⟩:=Zer c
   simp![Zqn,kL0,kL1,kL2,Zqo];have e3:Zke z (some 1) none=⟨(fgs L).toArray⟩:=by
    unfold Zke;rw[eL,e2,e1]
    simp
   refine ⟨⟨hl,?_⟩,by rw[e3]⟩
   unfold okT;rw[eL,e1]
   simp
   omega
  ·simp![Zn]
   rw[Zc5 c,<- eL,ZqK]
 rintro d M0 ⟨rfl,e0⟩
 obtain rfl:=e0.symm
 have fl:(fgs L).length<=L.length:=by
  unfold fgs
  split<;>simp
 have fm: ∀ c∈fgs L,c < 128:=fun c hc=>by
  unfold fgs at hc
  split at hc
  ·exact hk c (List.mem_cons_of_mem _ hc)
  ·exact hk c hc
 have lF:(⟨(fgs L).toArray⟩:Str).length=(fgs L).length:=by rw[Zbg]
 have aF:asc ⟨(fgs L).toArray⟩=true:=by
  unfold asc;rw[Array.all_eq_true];intro i hi;simp only[List.getElem_toArray,decide_eq_true_eq];exact fm _ (List.getElem_mem _)
 simp![Zjn,lF];refine ⟨by omega,ZkK (pB (¬ (1<=(fgs L).length/\(fgs L).length<=60/\(fgs L).all (fun c=>ten.contains c)=true)) M) ?_ ?_⟩
 ·refine brO (fun c=> ?_) (fun c=> ?_)
  ·simp![Zn]
   exact pBi (by simp;omega) Kp.refl
  ·simp![Zjn,lF]
   refine ⟨by omega,?_⟩
   refine brO (fun c2=> ?_) (fun c2=> ?_)
   ·simp![Zn]
    exact pBi (by simp;omega) Kp.refl
   ·simp![Zqp,Zqq]
    rw[Zoh];refine ⟨aF,ZrN (xs:=(fgs L).map fun c=>D.str ⟨#[c]⟩) (fun ρ=> ∃ x,ρ=[x]) (fun i=> .bl (((fgs L).map fun c=>ten.contains c).getD i false)) (by simp;omega) (by simp[cnt]) ⟨_,rfl⟩ (fun L i hi=>rfl) ?_ ?_⟩
    ·rintro j hj ρ L' ⟨x,rfl⟩
     have hj':j < (fgs L).length:=by simpa using hj
     rw[List.getElem_map];have e5:(PySem.Str.ofString "0123456789").cps.toList=ten:=by decide
     simp![Zql,e5];refine ⟨⟨_,rfl⟩,?_⟩
     rw[List.getD_eq_getElem?_getD,List.getElem?_map,List.getElem?_eq_getElem hj']
     rfl
    ·have e6:(List.range ((fgs L).map fun c=>D.str ⟨#[c]⟩).length).map (fun i=>D.bl (((fgs L).map fun c=>ten.contains c).getD i false))=((fgs L).map fun c=>ten.contains c).map D.bl:=by
      apply List.ext_getElem
      ·simp
      ·intro i h1 h2
       have h3:i < ((fgs L).map fun c=>ten.contains c).length:=by simpa using h2
       rw[List.getElem_map,List.getElem_range,List.getElem_map,List.getD_eq_getElem?_getD,List.getElem?_eq_getElem h3]
       rfl
     rw[e6];simp![ZhC];refine pBi ?_ Kp.app
     rw[List.all_map]
     constructor
     ·intro h
      rintro ⟨_,_,h3⟩
      have h4:(List.all (fgs L) (id ∘ fun c=>ten.contains c))=true:=h3
      rw[h4] at h;cases h
     ·intro h
      cases h4:(fgs L).all fun c=>ten.contains c with
      |false=>exact congrArg (! ·) h4
      |true=>exact absurd ⟨by omega,by omega,h4⟩ h
 rintro b M1 ⟨hb,K1⟩
 by_cases P:1<=(fgs L).length/\(fgs L).length<=60/\(fgs L).all (fun c=>ten.contains c)=true
 ·have hb':b=false:=by
   cases b with
   |false=>rfl
   |true=>exact absurd P (hb.mp rfl)
  subst hb';obtain ⟨a,r,ef⟩: ∃ a r,fgs L=a :: r:=by
   cases h:fgs L with
   |nil=>rw[h] at P;exact absurd P.1 (by decide)
   |cons a r=>exact ⟨a,r,rfl⟩
  simp![Zn];refine Zqm (c:=a) (by decide) (by simp[ef]) ?_
  simp![ZqL];have ea:(decide ((⟨#[a]⟩:Str)=PySem.Str.ofString "0"))=decide (a=48):=by
   rw[show PySem.Str.ofString "0"=⟨#[48]⟩ by decide]
   by_cases c:a=48
   ·subst c;simp
   ·rw[decide_eq_false c,decide_eq_false]
    intro h;injection h with h;injection h with h;injection h with h _;exact c h
  have ez:(decide (z=PySem.Str.ofString "0"))=decide (L=[48]):=by
   rw[<- eL]
   by_cases c:z.cps.toList=[48]
   ·rw[decide_eq_true c,decide_eq_true (ZgN c)]
   ·rw[decide_eq_false c,decide_eq_false]
    intro h;rw[h] at c;exact c (by decide)
  have ad:AllDigits (fgs L):=fun c hc=>(ZhA c).mp (List.all_eq_true.mp P.2.2 c hc)
  have end_:((fgs L).head?=some 48->L=[48])-> ∀ M3,Kp M M3->wO (bIntT [.str z] M3) Q E:=fun ho M3 K3=>by
   have fin:=q1 ⟨P,ho⟩ M3 K3
   unfold vln at fin;have l60:z.length<=61:=by
    rw[hL]
    by_cases c:L.head?=some 45
    ·obtain ⟨r',e1,e2⟩:=Zer c
     rw[e1,List.length_cons,<- e2];omega
    ·rw[<- Zc5 c];omega
   by_cases c:L.head?=some 45
   ·obtain ⟨r',e1,e2⟩:=Zer c
    rw[if_pos c] at fin;refine Zjo (by omega) (intText_neg (cs:=fgs L) (by rw[eL,e2,e1]) ad (by rw[ef];simp) (by omega)) fin
   ·rw[if_neg c] at fin
    have e3:=Zc5 c
    rw[e3] at ad ef fin;refine Zjo (by omega) ?_ fin
    rw[intText_digits (by rw[eL];exact ad) (by rw[eL,ef];simp) (by omega),eL]
  rw[ea];refine ZkK (pB (a=48/\L≠[48]) M1) ?_ ?_
  ·refine brO (fun c=> ?_) (fun c=> ?_)
   ·simp![ZqL,ez]
    exact pBi (by simp[c]) Kp.refl
   ·simp![Zn]
    exact pBi (by simp[c]) Kp.refl
  rintro b M2 ⟨hb2,K2⟩
  have hh:(fgs L).head?=some a:=by rw[ef];rfl
  cases b with
  |true=>
   simp![Zn];obtain ⟨h1,h2⟩:=hb2.mp rfl
   exact q2 (fun h=>h2 (h.2 (by rw[hh,h1]))) M2 (K1.trans K2)
  |false=>
   simp![Zn];refine end_ (fun h=> ?_) M2 (K1.trans K2)
   rw[hh] at h
   by_cases c:L=[48]
   ·exact c
   ·exact absurd (hb2.mpr ⟨by simpa using h,c⟩) (by decide)
 ·have hb':b=true:=hb.mpr P
  subst hb';simp![Zn];exact q2 (fun h=>P h.1) M1 K1
theorem Zoi (h:i.natAbs < 10 ^ 60):okn (tx i).cps.toList/\vln (tx i).cps.toList=i/\asc (tx i)=true:=by
 have hl:=ZgO (by decide) h
 have ha:=Zjf i.natAbs
 have hn:=Zo2 i.natAbs
 have e:=Zoy i
 have f:fgs (tx i).cps.toList=dg i.natAbs:=by
  rw[e]
  by_cases c:i < 0
  ·rw[if_pos c];rfl
  ·rw[if_neg c,List.nil_append]
   refine Zc5 fun z=> ?_
   have:=ha 45 (List.mem_of_mem_head? z)
   omega
 have hh:(tx i).cps.toList.head?=some 45 ↔ i < 0:=by
  rw[e]
  by_cases c:i < 0
  ·simp[c]
  ·simp only[c,if_false,List.nil_append,iff_false]
   intro z
   have:=ha 45 (List.mem_of_mem_head? z)
   omega
 have lp:0 < (dg i.natAbs).length:=List.length_pos_iff.mpr hn
 refine ⟨⟨⟨by rw[f];exact lp,by rw[f];exact hl,by rw[f];exact List.all_eq_true.mpr fun c hc=>(ZhA c).mpr (ha c hc)⟩,fun z=> ?_⟩,?_,?_⟩
 ·rw[f] at z
  by_cases c:i.natAbs=0
  ·rw[e,c,Zkh,if_neg (by omega)];rfl
  ·obtain ⟨a,r,e1,n1⟩:=Zki c
   rw[e1] at z;exact absurd (by simpa using z) n1
 ·unfold vln
  rw[f,ZmA]
  by_cases c:i < 0
  ·rw[if_pos (hh.mpr c)];omega
  ·rw[if_neg (fun z=>c (hh.mp z))];omega
 ·unfold asc
  rw[Array.all_eq_true];intro j hj;have m:(tx i).cps[j]∈(tx i).cps.toList:=by simp
  rw[decide_eq_true_eq];rw[e] at m
  rcases List.mem_append.mp m with m | m
  ·split at m
   ·simp at m;omega
   ·cases m
  ·have:=ha _ m;omega
theorem Zd2 (h:i.natAbs < 10 ^ 60)(q: ∀ M',Kp M M'->Q (.int i) M'):wO (F_read_number [.str (tx i)] M) Q E:=by
 obtain ⟨h1,h2,h3⟩:=Zoi h
 have tl:=ZdN h
 exact Zk6 h3 (by omega) (fun _=>by rw[h2];exact q) (fun n=>absurd h1 n)
theorem Zes:(PySem.Str.ofString " ").cps.toList=[32]:=by decide
theorem Zc6 (a b:Str):(a ++ b).length=a.length + b.length:=by rw[Zbg,Zkg,List.length_append,<- Zbg,<- Zbg]
theorem Zet {α β:Type}(l:List α)(d:α)(f:α->β):(List.range l.length).map (fun i=>f (l.getD i d))=l.map f:=by
 apply List.ext_getElem
 ·simp
 ·intro i h1 h2
  have h3:i < l.length:=by simpa using h2
  simp[h3]
theorem Zeu {α:Type}{l:List α}{d:α}{i:Nat}(h:i < l.length):l.getD i d=l[i]:=by simp[h]
theorem ZhD:PySem.Str.ofString " "=⟨#[32]⟩:=by decide
theorem ZiN {ys:List Str}(hn:ys≠[])(h: ∀ y∈ys,32 ∉ y.cps.toList):(spl 32 (Txt.join (PySem.Str.ofString " ") ys).cps.toList).map (fun l=>D.str ⟨l.toArray⟩)=ys.map D.str:=by
 rw[ZhD,ZgJ,Zjd 32 _ (by simpa using hn) (by simpa using h),List.map_map]
 apply List.map_congr_left
 intro y _;show D.str ⟨y.cps.toList.toArray⟩=_
 rw[ZqK]
theorem ZiO {ys:List Str}{b:Nat}(h: ∀ y∈ys,y.length<=b):(Txt.join (PySem.Str.ofString " ") ys).length<=ys.length * (b + 1):=by
 rw[Zbg,ZhD,ZgJ]
 induction ys with
 |nil=>simp[jn]
 |cons y ys ih=>
  have h1:=h y (List.mem_cons_self ..)
  have h2:=ih fun z m=>h z (List.mem_cons_of_mem _ m)
  rw[Zbg] at h1;cases ys with
  |nil=>simp only[List.map_cons,List.map_nil,jn,List.length_cons,List.length_nil];omega
  |cons z zs=>
   have e:jn 32 ((y :: z :: zs).map fun x=>x.cps.toList)=y.cps.toList ++ 32 :: jn 32 ((z :: zs).map fun x=>x.cps.toList):=rfl
   rw[e,List.length_append,List.length_cons];rw[List.length_cons,Nat.succ_mul];omega
theorem Zk7 {z:Str}(hl:z.length<=16000000)(q:Q (.ref M.length) (M ++ [.lst ((spl 32 z.cps.toList).map fun l=> .str ⟨l.toArray⟩)])):wO (F_words_of [.str z] M) Q E:=by
 have ty:ZL M (.str z)=some "str":=rfl
 have ti:Za8 "str" "str"=true:=by decide
 simp![F_words_of,ZbM,ty,ti,Zhi,Zhh];exact ZnS Zes (by decide) hl q
end
end CI
end
section
namespace CIr
open PySem PySem.Spec L2 DL
open CI (F_number_text F_words_of F_read_number)
open CG (F_look_round)
noncomputable def Za4:Sv:=(Zw (ZdP (ZaO (Zj F_look_round (Zc (Zf 0) aNil))) [PySem.Str.ofString "NoRound"] [false] (ZM (eC (.bl false))))
 (ZM (eC (.bl true))))
noncomputable def F_is_round:List D->Sto->Out D:=fnF Za4 1 0
noncomputable def Zak:Sv:=(ZM (ZhK mJn (eC (.str (PySem.Str.ofString " "))) (Zc (Zan (iSq (Zf 0)) 2 [] (gTp (gCs (gNm 0) (gCs (gNm 1) gNl))) (fun _ M=> .ok true M) (eFs (ZcW (eFm (Zj F_number_text (Zc (Zf 0) aNil))) (ZcW (eC (.str (PySem.Str.ofString ","))) (ZcW (eFm (Zj F_number_text (Zc (Zf 1) aNil))) jNil))))) aNil)))
noncomputable def F_round_text:List D->Sto->Out D:=fnF Zak 1 0
noncomputable def ZaJ:Sv:=(Zw (ZJ (gNm 1) (Zan (iSq (ZhK mSpl (Zf 0) (Zc (eC (.str (PySem.Str.ofString ","))) aNil))) 1 [] (gNm 0) (fun _ M=> .ok true M) (Zj F_read_number (Zc (Zf 0) aNil))))
 (Zw (sIf (tv (e2 dNe (Zj bLen (Zc (Zf 1) aNil)) (eC (.int 2)))) (Zat (PySem.Str.ofString "NoText") (Zc (eC (.str (PySem.Str.ofString "a ray is written as two numbers with a comma between"))) aNil)) sNil)
 (ZM (ZU (Zc (e2 dIx (Zf 1) (eC (.int 0))) (Zc (e2 dIx (Zf 1) (eC (.int 1))) aNil))))))
noncomputable def F_read_pair:List D->Sto->Out D:=fnF ZaJ 1 1
noncomputable def Zal:Sv:=(Zw (ZJ (gNm 1) (Zan (iSq (Zj F_words_of (Zc (Zf 0) aNil))) 1 [] (gNm 0) (fun _ M=> .ok true M) (Zj F_read_pair (Zc (Zf 0) aNil))))
 (Zw (sIf (Z1 (tv (Zj F_is_round (Zc (Zf 1) aNil)))) (Zat (PySem.Str.ofString "NoText") (Zc (eC (.str (PySem.Str.ofString "the rays are no round"))) aNil)) sNil)
 (ZM (Zf 1))))
noncomputable def F_read_round:List D->Sto->Out D:=fnF Zal 1 1
end CIr
end
section
namespace CIr
open PySem PySem.Spec L2 DL SX
open CB (Bd lrd)
open CV CI
open CG (met ZhL)
open TW (sf Ze7)
section
variable {Q:D->Sto->Prop}{E:Str->Sto->Prop}{M M':Sto}{n m:Nat}{rs ss:List Pt}{w:Pt}
theorem ZjA {f:Pt->Pt->Nat}: ∀ (k:Nat) (j:Int),sf f rs j (k + 1)=sf f rs j k + f (cy rs (j + k)) (cy rs (j + k + 1))
 |0,j=>by simp[sf]
 |k + 1,j=>by
  rw[sf,ZjA k (j + 1),sf];rw[show j + 1 + (k:Int)=j + ((k + 1:Nat):Int) by omega]
  omega
theorem Zk8 (ne:rs≠[])(hx: ∀ i:Nat,i < rs.length->0 < X (cy rs i) (cy rs (i + 1)))(hg: ∀ p∈rs,Int.gcd p.1 p.2=1):ZhL rs=cyc (in1 (1,0)) rs:=by
 rw[Ze7 ne];unfold ZhL
 have: ∀ k:Nat,k<=rs.length->((List.range k).filter fun (i:Nat)=>met (cy rs i) (cy rs (i + 1))).length=sf (in1 (1,0)) rs 0 k:=by
  intro k
  induction k with
  |zero=>intro _;rfl
  |succ k ih=>
   intro hk;rw[List.range_succ,List.filter_append,List.length_append,ih (by omega),ZjA]
   have:=CG.Zoc (hg _ (Ze3 (i:=(k:Int)) ne)) (hx k (by omega))
   rw[show (0:Int) + (k:Int)=k by omega,<- this]
   congr 1
   cases c:met (cy rs k) (cy rs (k + 1))<;>simp[List.filter_cons,c]
 exact this _ (Nat.le_refl _)
theorem ZfE (h:M[m]?=some (.lst (prs rs)))(hr:Rn rs)(hl:rs.length<=2000000)(hb:Nr 200 rs)(q: ∀ M',Kp M M'->Q (.bl true) M'):wO (F_is_round [.ref m] M) Q E:=by
 simp![F_is_round,Za4,ZnR];refine CG.Zog h ⟨hr.len,hl⟩ (fun p hp=>by have:=hb p hp;unfold Bd;omega) hr.gc (fun i _ _ z=>absurd (hr.pos i) z) (fun _ z=> ?_) (fun _ z M' K=> ?_)
 ·rw[Zk8 hr.ne (fun i _=>hr.pos i) hr.gc,(hr.fan (1,0) (by decide)).1] at z
  omega
 ·simp![Zn]
  exact q M' K
noncomputable def ptx (p:Pt):Str:=tx p.1 ++ PySem.Str.ofString "," ++ tx p.2
noncomputable def otx (rs:List Pt):Str:=Txt.join (PySem.Str.ofString " ") (rs.map ptx)
theorem Zcx:(PySem.Str.ofString ",").cps.toList=[44]:=by decide
theorem Zoj (p:Pt):(ptx p).cps.toList=(tx p.1).cps.toList ++ 44 :: (tx p.2).cps.toList:=by
 unfold ptx;rw[Zkg,Zkg,Zcx,List.append_assoc];rfl
noncomputable def Fw (k:Nat)(p:Pt):Prop:=p.1.natAbs < 10 ^ k/\p.2.natAbs < 10 ^ k
theorem ZhE {k:Nat}{i:Int}(hk:0 < k)(h:i.natAbs < 10 ^ k):(tx i).length<=k + 1:=by
 rw[Zbg,Zoy,List.length_append]
 have:=ZgO hk h
 split<;>simp<;>omega
theorem ZbN {k:Nat}{p:Pt}(hk:0 < k)(h:Fw k p):(ptx p).length<=2 * k + 3:=by
 have h1:=ZhE hk h.1
 have h2:=ZhE hk h.2
 unfold ptx;rw[Zc6,Zc6,Zbg (PySem.Str.ofString ","),Zcx];simp;omega
theorem Fw.up {k:Nat}{p:Pt}(hk:k<=60)(h:Fw k p):p.1.natAbs < 10 ^ 60/\p.2.natAbs < 10 ^ 60:=
 ⟨Nat.lt_of_lt_of_le h.1 (Nat.pow_le_pow_right (by decide) hk),Nat.lt_of_lt_of_le h.2 (Nat.pow_le_pow_right (by decide) hk)⟩
theorem Zok {p:Pt}:32 ∉ (ptx p).cps.toList:=by
 rw[Zoj];have h1:32 ∉ (tx p.1).cps.toList:=Zij (by decide) (by decide)
 have h2:32 ∉ (tx p.2).cps.toList:=Zij (by decide) (by decide)
 intro m
 rcases List.mem_append.mp m with m | m
 ·exact h1 m
 ·rcases List.mem_cons.mp m with m | m
  ·cases m
  ·exact h2 m
theorem Zk9 {p:Pt}:spl 44 (ptx p).cps.toList=[(tx p.1).cps.toList,(tx p.2).cps.toList]:=by
 rw[Zoj];have h1:44 ∉ (tx p.1).cps.toList:=Zij (by decide) (by decide)
 have h2:44 ∉ (tx p.2).cps.toList:=Zij (by decide) (by decide)
 rw[Zeh 44 _ _ h1,ZcY 44 _ h2]
theorem ZhF {j:Nat}(h:j < (prs rs).length):(prs rs)[j]=pr (rs[j]'(by rw[Zx] at h;exact h)).1 (rs[j]'(by rw[Zx] at h;exact h)).2:=by simp[prs]
theorem Zd3 {k:Nat}(hk:0 < k/\k<=60)(h:M[n]?=some (.lst (prs rs)))(hz: ∀ p∈rs,Fw k p)(hl:rs.length * (2 * k + 4)<=16000000)(q: ∀ M',Kp M M'->Q (.str (otx rs)) M'):wO (F_round_text [.ref n] M) Q E:=by
 have l0:rs.length<=4000000:=by
  have:rs.length * 4<=rs.length * (2 * k + 4):=Nat.mul_le_mul_left _ (by omega)
  omega
 simp![F_round_text,Zak,Zhi,Zhh];refine ZoC (fun ρ=> ∃ x y,ρ=[x,y]) (fun i=>D.str (ptx (rs.getD i (0,0)))) h (by rw[Zx];omega) ⟨_,_,rfl⟩ ?_ ?_
 ·rintro j hj ρ L ⟨x,y,rfl⟩
  rw[ZhF];rw[Zx] at hj;have hf:=hz _ (List.getElem_mem hj)
  have hu:=hf.up hk.2
  have pl:=ZbN hk.1 hf
  have l1:=ZdN hu.1
  have l2:=ZdN hu.2
  have l3:(PySem.Str.ofString ",").length=1:=by rw[Zbg,Zcx];rfl
  rw[Zeu hj];unfold ptx at *;simp![Zta,Zqr,ZrP];refine ⟨⟨_,_,rfl⟩,Ze8 hu.1 ?_⟩
  simp![ZnV,Zqr,ZnU,PySem.W.KT.empty_app];refine ⟨by omega,by omega,by rw[Zc6];omega,?_⟩
  simp![ZrP];refine Ze8 hu.2 ?_
  simp![ZnV,Zqr,ZnU,Zqs];exact ⟨by omega,by omega,by omega,rfl,rfl⟩
 ·rw[Zx,Zet rs (0,0) fun q=>D.str (ptx q)]
  have r:(M ++ [SO.lst (rs.map fun q=>D.str (ptx q))])[M.length]?=some (.lst ((rs.map ptx).map D.str)):=by simp
  simp![Zn];refine ZrO r ⟨rs.map ptx,Zhj _,ZdX (b:=2 * k + 3) (by rw[Zbg,Zes];decide) ?_ ?_,q _ Kp.app⟩
  ·intro x hx
   obtain ⟨y,hy,rfl⟩:=List.mem_map.mp hx
   exact ZbN hk.1 (hz y hy)
  ·rw[List.length_map];exact hl
theorem Zev {p:Pt}(h:p.1.natAbs < 10 ^ 60/\p.2.natAbs < 10 ^ 60)(q: ∀ M',Kp M M'->Q (pr p.1 p.2) M'):wO (F_read_pair [.str (ptx p)] M) Q E:=by
 have pl:=ZbN (k:=60) (by decide) h
 simp![F_read_pair,ZaJ,Zhi,Zhh];refine ZnS Zcx (by decide) (by omega) ?_
 rw[Zk9];simp only[List.map_cons,List.map_nil,ZqK];have r0:(M ++ [SO.lst [.str (tx p.1),.str (tx p.2)]])[M.length]?=some (.lst [.str (tx p.1),.str (tx p.2)]):=by simp
 have K0:Kp M (M ++ [SO.lst [.str (tx p.1),.str (tx p.2)]]):=Kp.app
 generalize M ++ [SO.lst [.str (tx p.1),.str (tx p.2)]]=M1 at r0 K0 ⊢;simp![r0];refine CD.Zlg (fun ρ=> ∃ x,ρ=[x]) (fun i=>if i=0 then D.int p.1 else D.int p.2) r0 (by simp) ⟨_,rfl⟩ ?_ fun M2 K2 r2=> ?_
 ·rintro j hj ρ M' K ⟨x,rfl⟩
  have:j=0\/j=1:=by simp at hj;omega
  rcases this with rfl | rfl
  ·simp![Zn]
   exact ⟨⟨_,rfl⟩,Zd2 h.1 fun M3 K3=>⟨rfl,K3⟩⟩
  ·simp![Zn]
   exact ⟨⟨_,rfl⟩,Zd2 h.2 fun M3 K3=>⟨rfl,K3⟩⟩
 ·replace r2:M2[M1.length]?=some (.lst [.int p.1,.int p.2]):=r2
  simp![r2];exact q M2 (K0.trans K2)
theorem ZbX {k:Nat}(hk:0 < k/\k<=60)(hr:Rn rs)(hb:Nr 200 rs)(hll:rs.length<=2000000)(hz: ∀ p∈rs,Fw k p)(hl:rs.length * (2 * k + 4)<=16000000)(q: ∀ m M',Kp M M'->M.length<=m->M'[m]?=some (.lst (prs rs))->Q (.ref m) M'):wO (F_read_round [.str (otx rs)] M) Q E:=by
 have l1:(otx rs).length<=16000000:=by
  refine Nat.le_trans (ZiO (b:=2 * k + 3) ?_) (by rw[List.length_map];exact hl)
  intro x hx;obtain ⟨y,hy,rfl⟩:=List.mem_map.mp hx
  exact ZbN hk.1 (hz y hy)
 simp![F_read_round,Zal];refine Zk7 l1 ?_
 unfold otx;rw[ZiN (by simpa using hr.ne) (by intro y hy;obtain ⟨x,_,rfl⟩:=List.mem_map.mp hy;exact Zok)]
 have r0:(M ++ [SO.lst ((rs.map ptx).map D.str)])[M.length]?=some (.lst ((rs.map ptx).map D.str)):=by simp
 have K0:Kp M (M ++ [SO.lst ((rs.map ptx).map D.str)]):=Kp.app
 have L0:M.length<=(M ++ [SO.lst ((rs.map ptx).map D.str)]).length:=by simp
 generalize M ++ [SO.lst ((rs.map ptx).map D.str)]=M1 at r0 K0 L0 ⊢;simp![r0];refine CD.Zlg (fun ρ=> ∃ x,ρ=[x]) (fun i=>pr (rs.getD i (0,0)).1 (rs.getD i (0,0)).2) r0 (by simp;omega) ⟨_,rfl⟩ ?_ fun M2 K2 r2=> ?_
 ·rintro j hj ρ M' K ⟨x,rfl⟩
  have hj':j < rs.length:=by simpa using hj
  rw[List.getElem_map,List.getElem_map];simp![Zn];refine ⟨⟨_,rfl⟩,Zev ((hz _ (List.getElem_mem _)).up hk.2) fun M3 K3=> ?_⟩
  rw[Zeu hj'];exact ⟨rfl,K3⟩
 ·rw[List.length_map,List.length_map,Zet rs (0,0) fun q=>pr q.1 q.2] at r2
  replace r2:M2[M1.length]?=some (.lst (prs rs)):=r2
  simp![Zn];refine ZfE r2 hr hll hb fun M3 K3=> ?_
  simp![Zn];exact q _ M3 (K0.trans (K2.trans K3)) L0 (K3.get r2)
end
end CIr
end
section
namespace K75
open CR (ZbL F_is_whole ZZ Zaj F_greatest_divisor Zbl F_law_whole)
open CG (Zcw F_is_pair Zc3 F_common Zc4 F_is_ray Zab F_met_direction Zac ZT ZaY F_look_round)
open CC (Z9 F_crossed Zbj F_following ZaB F_law_cross)
open CI (ZaH F_number_text ZbM F_words_of ZaI F_read_number)
open CB (ZaU Zcq F_partner Zap F_first_behind ZaC ZbJ F_expanded ZkT F_row ZaV Zcr F_between)
open CL (Z5 ZaG F_least_round)
open CA (ZdY F_law_bag Zcs F_law_digit Zct F_law_led ZbK F_law_both Z4 ZaE F_law_turning Zcu F_law_sum Za3 F_law_near ZaF F_law_brought Zaa ZaW F_law_smooth)
open CY (ZV Zaq F_law_straight Zag Zbw F_law_put Zah Zai Zbx F_law_any)
open PySem PySem.Spec L2 DL
noncomputable def top (i:Nat):Stmt:=PySem.Challenge.pw_rayround_k75_rounds_as_texts.main.body.getD i (.Pass ⟨0,0,0,0⟩)
noncomputable abbrev ZbY:Stmt:=Zin (top 2) 0
noncomputable abbrev rw0 (n:String)(i f u ln na:Nat)(b:Bool)(v:Nat):Rw:=⟨n,i,f,"rayround.wholes",266,u,ln,na,b,v⟩
noncomputable abbrev rw1 (n:String)(i f u ln na:Nat)(b:Bool)(v:Nat):Rw:=⟨n,i,f,"rayround.pairs",285,u,ln,na,b,v⟩
noncomputable abbrev rw2 (n:String)(i f u ln na:Nat)(b:Bool)(v:Nat):Rw:=⟨n,i,f,"rayround.rounds",316,u,ln,na,b,v⟩
noncomputable abbrev rw3 (n:String)(i f u ln na:Nat)(b:Bool)(v:Nat):Rw:=⟨n,i,f,"rayround.texts",347,u,ln,na,b,v⟩
noncomputable abbrev rw4 (n:String)(i f u ln na:Nat)(b:Bool)(v:Nat):Rw:=⟨n,i,f,"rayround.wedges",387,u,ln,na,b,v⟩
noncomputable abbrev rw5 (n:String)(i f u ln na:Nat)(b:Bool)(v:Nat):Rw:=⟨n,i,f,"rayround.leastrounds",442,u,ln,na,b,v⟩
noncomputable abbrev rw6 (n:String)(i f u ln na:Nat)(b:Bool)(v:Nat):Rw:=⟨n,i,f,"law_rayround_k75_rounds_as_texts",454,u,ln,na,b,v⟩
noncomputable def tab:List Rw:=[rw0 "is_whole" 6 77 268 15 1 true 272,rw0 "greatest_divisor" 7 84 275 17 2 true 282,rw1 "is_pair" 9 91 287 23 1 true 291,rw1 "crossed" 10 98 294 25 2 true 299,rw1 "common" 11 105 302 27 1 true 306,rw1 "is_ray" 12 112 309 29 1 true 313,rw2 "following" 14 119 318 32 2 true 323,rw2 "met_direction" 15 126 326 34 2 true 331,rw2 "look_round" 16 131 334 36 1 false 337,rw2 "is_round" 17 138 340 47 1 true 344,rw3 "number_text" 19 145 349 54 1 true 353,rw3 "round_text" 20 150 356 58 1 false 359,rw3 "words_of" 21 157 362 60 1 true 366,rw3 "read_number" 22 162 369 64 1 false 372,rw3 "read_pair" 23 167 375 71 1 false 378,rw3 "read_round" 24 172 381 76 1 false 384,rw4 "partner" 26 179 389 82 1 true 398,rw4 "first_behind" 27 186 401 90 2 true 408,rw4 "expanded" 28 193 411 94 2 true 418,rw4 "row" 29 200 421 101 2 true 426,rw4 "between" 30 207 429 105 2 true 439,rw5 "least_round" 32 214 444 114 1 true 451,rw6 "_law_bag" 34 221 456 121 2 true 463,rw6 "_law_digit" 35 228 466 127 2 true 472,rw6 "_law_led" 36 235 475 134 2 true 482,rw6 "_law_both" 37 242 485 137 2 true 492,rw6 "_law_turning" 38 249 495 141 1 true 503,rw6 "_law_cross" 39 256 506 148 2 true 511,rw6 "_law_sum" 40 263 514 150 2 true 519,rw6 "_law_near" 41 270 522 152 1 true 526,rw6 "_law_brought" 42 275 529 154 3 false 532,rw6 "_law_smooth" 43 282 535 161 1 true 545,rw6 "_law_straight" 44 289 548 171 1 true 554,rw6 "_law_put" 45 296 557 176 2 true 564,rw6 "_law_any" 46 303 567 182 1 true 577,rw6 "_law_whole" 47 310 580 195 1 true 584,rw6 "_law_rays_text" 48 315 587 197 1 false 590,rw6 "_law_same" 49 322 593 199 2 true 599,rw6 "law" 50 329 602 206 1 true 612]
structure Txt (K:PySem.W.Frag) (mg:Str->Option Value):Prop extends Bs mg where
 gl: ∀ c v,PySem.W.nsIn K mainGlobals c=some (some v)->mg c=some v
 d:Dfs K top tab
 in_NoRound: ∃ f fd,IniOk K "NoRound" "NoRound.__init__" ZbY f fd
 ct_NoRound:Zgw K "NoRound" [PySem.Str.ofString "NoRound"]=true
 ex_NoText:Zmg K "NoText"=true
 ex_NoWedge:Zmg K "NoWedge"=true
section
variable {P:Program}{w:World}{K:PySem.W.Frag}{mg:Str->Option Value}{base:Heap}
theorem Zla:FnScope N3 N3 (Zr ZbY):=⟨rfl,rfl,rfl,by decide +kernel,rfl,by decide +kernel,by decide +kernel⟩
theorem Zc7 {f C:Addr}{fd:FuncData}(J:IniOk K "NoRound" "NoRound.__init__" ZbY f fd)(gl: ∀ c v,PySem.W.nsIn K mainGlobals c=some (some v)->mg c=some v)(hE:ExF K C f):FnOk P w K mg base (CXE P w) 1 f fd N3 (spI C):=
 Zko (k:=0) (a:=PySem.Str.ofString "no round: ") (b:=PySem.Str.ofString " ") J.fn Zla (by decide +kernel) (by decide +kernel) fun cdv A outer s H E=>ZcM (ZfO (Zim J.bs gl rfl hE rfl (Or.inl rfl) (Zo3 rfl rfl (Or.inl rfl) (Or.inl rfl)))) (ZcM (Zkl hE hE.fw rfl (Or.inl rfl) rfl (Or.inl rfl)) (ZfN (Zkm hE hE.fa rfl (Or.inl rfl) rfl (Or.inl rfl))))
theorem Zti {K:PySem.W.Frag}{fI c t:Nat}{m:Str}(lI:K.lookup fI=some ⟨.type "function",none,.func (PySem.W.fnOf "__init__" "NoRound.__init__" (Zax ZbY) (Z0 ZbY) (Zr ZbY) .none .none .none (.str m t) none (.ref c) .none),#[]⟩)(cI:PySem.W.codeIn K (.ref c) "NoRound.__init__"=true)(kI:PySem.W.keepIn K (.ref fI)=true)(xI:ZgS K "NoRound" fI=true)(bI:Ze0 K "RayError"=true): ∃ f fd,IniOk K "NoRound" "NoRound.__init__" ZbY f fd:=
 have RI:=ZiX (st:=ZbY) lI cI kI
 ⟨fI,_,xI,RI,bI,RI.binds (ps:=N3) fun _ _ _ _ _ _=>ZqV fun _ _ _=>rfl⟩
noncomputable def Za4:Sv:=(Zw (ZdP (ZaO (Zj F_look_round (Zc (Zf 0) aNil))) [PySem.Str.ofString "NoRound"] [false] (ZM (eC (.bl false))))
 (ZM (eC (.bl true))))
noncomputable def F_is_round:List D->Sto->Out D:=fnF Za4 1 0
noncomputable def Zak:Sv:=(ZM (ZhK mJn (eC (.str (PySem.Str.ofString " "))) (Zc (Zan (iSq (Zf 0)) 2 [] (gTp (gCs (gNm 0) (gCs (gNm 1) gNl))) (fun _ M=> .ok true M) (eFs (ZcW (eFm (Zj F_number_text (Zc (Zf 0) aNil))) (ZcW (eC (.str (PySem.Str.ofString ","))) (ZcW (eFm (Zj F_number_text (Zc (Zf 1) aNil))) jNil))))) aNil)))
noncomputable def F_round_text:List D->Sto->Out D:=fnF Zak 1 0
noncomputable def ZaJ:Sv:=(Zw (ZJ (gNm 1) (Zan (iSq (ZhK mSpl (Zf 0) (Zc (eC (.str (PySem.Str.ofString ","))) aNil))) 1 [] (gNm 0) (fun _ M=> .ok true M) (Zj F_read_number (Zc (Zf 0) aNil))))
 (Zw (sIf (tv (e2 dNe (Zj bLen (Zc (Zf 1) aNil)) (eC (.int 2)))) (Zat (PySem.Str.ofString "NoText") (Zc (eC (.str (PySem.Str.ofString "a ray is written as two numbers with a comma between"))) aNil)) sNil)
 (ZM (ZU (Zc (e2 dIx (Zf 1) (eC (.int 0))) (Zc (e2 dIx (Zf 1) (eC (.int 1))) aNil))))))
noncomputable def F_read_pair:List D->Sto->Out D:=fnF ZaJ 1 1
noncomputable def Zal:Sv:=(Zw (ZJ (gNm 1) (Zan (iSq (Zj F_words_of (Zc (Zf 0) aNil))) 1 [] (gNm 0) (fun _ M=> .ok true M) (Zj F_read_pair (Zc (Zf 0) aNil))))
 (Zw (sIf (Z1 (tv (Zj F_is_round (Zc (Zf 1) aNil)))) (Zat (PySem.Str.ofString "NoText") (Zc (eC (.str (PySem.Str.ofString "the rays are no round"))) aNil)) sNil)
 (ZM (Zf 1))))
noncomputable def F_read_round:List D->Sto->Out D:=fnF Zal 1 1
noncomputable def ZaZ:Sv:=(ZM (ZhK mJn (eC (.str (PySem.Str.ofString " "))) (Zc (Zan (iSq (Zf 0)) 1 [] (gNm 0) (fun _ M=> .ok true M) (e2 dAdd (e2 dAdd (Zj bStr (Zc (e2 dIx (Zf 0) (eC (.int 0))) aNil)) (eC (.str (PySem.Str.ofString ",")))) (Zj bStr (Zc (e2 dIx (Zf 0) (eC (.int 1))) aNil)))) aNil)))
noncomputable def F_law_rays_text:List D->Sto->Out D:=fnF ZaZ 1 0
noncomputable def Zby:Sv:=(sIf (ZcP (Z1 (tv (ZcE "tuple" (Zf 2)))) (ZcP (tv (e2 dNe (Zj bLen (Zc (Zf 2) aNil)) (eC (.int 2)))) (ZcP (Z1 (tv (Zj F_law_whole (Zc (e2 dIx (Zf 2) (eC (.int 0))) aNil)))) (Z1 (tv (Zj F_law_whole (Zc (e2 dIx (Zf 2) (eC (.int 1))) aNil))))))) (ZM (eC (.bl false))) sNil)
noncomputable def ZcJ:Sv:=(Zw (sIf (ZcP (Z1 (tv (ZcE "list" (Zf 0)))) (tv (e2 dNe (Zj bLen (Zc (Zf 0) aNil)) (Zj bLen (Zc (Zf 1) aNil))))) (ZM (eC (.bl false))) sNil)
 (Zw (Zl7 (gNm 2) (Zf 0) Zby)
 (ZM (e2 dEq (Zf 0) (Zf 1)))))
noncomputable def F_law_same:List D->Sto->Out D:=fnF ZcJ 2 1
noncomputable def Zc8:Sv:=(Zw (ZJ (gNm 2) (Zj F_law_bag (Zc (Zf 0) (Zc (Zf 1) aNil))))
 (Zw (ZJ (gNm 3) (e2 dIx (ZbB (Zc (Zj F_law_smooth (Zc (Zf 2) aNil)) (Zc (Zj F_law_any (Zc (Zf 2) aNil)) aNil))) (Zj F_law_digit (Zc (Zf 2) (Zc (eC (.int 2)) aNil)))))
 (Zw (sIf (tv (e2 dEq (Zj F_law_digit (Zc (Zf 2) (Zc (eC (.int 3)) aNil))) (eC (.int 1)))) (ZJ (gNm 3) (Zj F_least_round (Zc (Zj bList (Zc (Zf 3) aNil)) aNil))) sNil)
 (Zw (ZJ (gNm 4) (Zj bList (Zc (Zf 3) aNil)))
 (Zw (ZJ (gNm 5) (Zj F_round_text (Zc (Zf 4) aNil)))
 (Zw (sIf (ZcP (Z1 (tv (ZcE "str" (Zf 5)))) (ZcP (tv (e2 dNe (Zf 5) (Zj F_law_rays_text (Zc (Zf 3) aNil)))) (tv (e2 dNe (Zf 4) (Zf 3))))) (ZM (eC (.bl false))) sNil)
 (Zw (ZJ (gNm 6) (Zj F_read_round (Zc (Zf 5) aNil)))
 (Zw (sIf (Z1 (tv (Zj F_law_same (Zc (Zf 6) (Zc (Zf 3) aNil))))) (ZM (eC (.bl false))) sNil)
 (Zw (ZaO (ZhJ mApp (Zf 6) (Zc (ZU (Zc (eC (.int 1)) (Zc (eC (.int 0)) aNil))) aNil)))
 (sIf (Z1 (tv (Zj F_law_same (Zc (Zj F_read_round (Zc (Zf 5) aNil)) (Zc (Zf 3) aNil))))) (ZM (eC (.bl false))) sNil))))))))))
noncomputable def Zol:Sv:=(Zw (Zba (gNm 1) (Zc (Zj bMax (Zc (eC (.int 1)) (Zc (Zj bMin (Zc (eC (.int 8)) (Zc (Zj bLen (Zc (Zf 0) aNil)) aNil))) aNil))) aNil) Zc8)
 (ZM (eC (.bl true))))
noncomputable def Zew:List D->Sto->Out D:=fnF Zol 1 6
variable (T:Txt K mg)
include T
theorem C1:Cal P w K mg base "is_whole" 1 1 F_is_whole:=ZG (N:=["thing"]) (T.d.at 0 6) T.gl fun _ _ _ _ _ _ _ nd hr θ=>(Zi (Zs (Zce (Za9 Zgl T.b_isinstance T.b_int ZeN (Zb 0)) (ZcC (ZiZ (Za9 ZeI T.b_isinstance T.b_bool Zgs (Zb 0)))))))
theorem C2:Cal P w K mg base "greatest_divisor" 101 2 F_greatest_divisor:=ZG (N:=["one","other","high","low"]) (T.d.at 1 7) T.gl fun _ _ _ _ _ _ _ nd hr θ=>(Zg (Zbp 2 3 (ZB hr (by decide)) nd (Za (Zo Zad ZbS T.b_abs ZbV (Za (Zb 0) Zd)) (Za (Zo Zad ZbS T.b_abs ZbV (Za (Zb 1) Zd)) Zd)))
  (Zg (Zb7 θ.own (Zz (Za7 hr.units) Zcy (Zb 3) Ze) (Zi (Zbp 2 3 (ZB hr (by decide)) nd (Za (Zb 3) (Za (ZaK (Zb 2) (Zb 3)) Zd)))))
  (Zi (Zs (Zb 2)))))
theorem C3:Cal P w K mg base "is_pair" 2 1 F_is_pair:=ZG (N:=["thing"]) (T.d.at 2 9) T.gl fun _ _ _ _ _ _ _ nd hr θ=>(Zi (Zs (Zce (Za9 Zdt T.b_isinstance T.b_tuple ZeO (Zb 0)) (Zce (ZbQ (ZcD hr.units) Zfi (Zo Zk ZR T.b_len PySem.boot_len (Za (Zb 0) Zd)) Ze) (Zce (Zh (C1 T) θ hr (Za (Zp (Zb 0) Ze) Zd)) (ZcC (Zh (C1 T) θ hr (Za (Zp (Zb 0) Ze) Zd))))))))
theorem C4:Cal P w K mg base "crossed" 1 2 F_crossed:=ZG (N:=["one","other"]) (T.d.at 3 10) T.gl fun _ _ _ _ _ _ _ nd hr θ=>(Zi (Zs (Zaf (ZI (Zp (Zb 0) Ze) (Zp (Zb 1) Ze)) (ZI (Zp (Zb 0) Ze) (Zp (Zb 1) Ze)))))
theorem C5:Cal P w K mg base "common" 102 1 F_common:=ZG (N:=["pair"]) (T.d.at 4 11) T.gl fun _ _ _ _ _ _ _ nd hr θ=>(Zi (Zs (Zh (C2 T) θ hr (Za (Zp (Zb 0) Ze) (Za (Zp (Zb 0) Ze) Zd)))))
theorem C6:Cal P w K mg base "is_ray" 103 1 F_is_ray:=ZG (N:=["thing"]) (T.d.at 5 12) T.gl fun _ _ _ _ _ _ _ nd hr θ=>(Zi (Zs (Zce (Zh (C3 T) θ hr (Za (Zb 0) Zd)) (ZcC (ZbQ (ZcD hr.units) Zfi (Zh (C5 T) θ hr (Za (Zb 0) Zd)) Ze)))))
theorem C7:Cal P w K mg base "following" 1 2 F_following:=ZG (N:=["things","at"]) (T.d.at 6 14) T.gl fun _ _ _ _ _ _ _ nd hr θ=>(Zi (Zs (Zp (Zb 0) (ZaK (ZF (Zb 1) Ze) (Zo Zk ZR T.b_len PySem.boot_len (Za (Zb 0) Zd))))))
theorem C8:Cal P w K mg base "met_direction" 1 2 F_met_direction:=ZG (N:=["ray","behind"]) (T.d.at 7 15) T.gl fun _ _ _ _ _ _ _ nd hr θ=>(Zi (Zs (ZoS (ZbQ (ZcD hr.units) Zfi (Zb 0) (Zt (Za Ze (Za Ze Zd)))) (ZcC (Zmr Zdd Zdq Zdd Zdq Zmq (Zp (Zb 0) Ze) Ze (Zp (Zb 1) Ze))))))
theorem C9:Cal P w K mg base "look_round" 104 1 F_look_round:=ZG (N:=["thing","at","ray"]) (T.d.at 8 16) T.gl fun _ _ _ _ _ _ _ nd hr θ=>(Zg (Z3 (ZhH (ZcQ (Zas (Z6 (Za9 ZeJ T.b_isinstance T.b_list Zcf (Zb 0)))) (Zdo (Zz Zdd Zdq (Zo Zk ZR T.b_len PySem.boot_len (Za (Zb 0) Zd)) Ze)))) (Zi (Zbv T.in_NoRound (fun f fd C J E=>Zc7 J T.gl E) θ (by decide +kernel) T.gl (hr.hd (by decide)) (hr.mono (by decide)) (Za ZO (Za Ze Zd)))) Zy)
  (Zg (Zee θ.own (ZcV (hr.hd (by decide)) T.b_enumerate (Za (Zb 0) Zd)) (ZbT (ZB hr (by decide)) (ZC (Zv 1 nd) (ZC (Zv 2 nd) ZaP)) (hlen:=(ZN (ZN (fun _ _ _ h=>ZaQ h))))) (Zi (Z3 (Zas (Z6 (Zh (C6 T) θ hr (Za (Zb 2) Zd)))) (Zi (Zbv T.in_NoRound (fun f fd C J E=>Zc7 J T.gl E) θ (by decide +kernel) T.gl (hr.hd (by decide)) (hr.mono (by decide)) (Za ZO (Za (Zb 1) Zd)))) Zy)))
  (Zg (Zee θ.own (ZcV (hr.hd (by decide)) T.b_enumerate (Za (Zb 0) Zd)) (ZbT (ZB hr (by decide)) (ZC (Zv 1 nd) (ZC (Zv 2 nd) ZaP)) (hlen:=(ZN (ZN (fun _ _ _ h=>ZaQ h))))) (Zi (Z3 (Zz ZhU Zh6 (Zh (C4 T) θ hr (Za (Zb 2) (Za (Zh (C7 T) θ hr (Za (Zb 0) (Za (Zb 1) Zd))) Zd))) Ze) (Zi (Zbv T.in_NoRound (fun f fd C J E=>Zc7 J T.gl E) θ (by decide +kernel) T.gl (hr.hd (by decide)) (hr.mono (by decide)) (Za ZO (Za (Zb 1) Zd)))) Zy)))
  (Zi (Z3 (Zz Zde Zdr (Zo Zk ZR T.b_len PySem.boot_len (Za (Zch (ZqX (XN:=["thing","at","ray"]) (dn:=(Zr (top 16)).names) (N:=["at","ray","thing"]) (k:=2) (fr:=[0]) rfl rfl rfl rfl (by decide +kernel)) (ZcV (hr.hd (by decide)) T.b_enumerate (Za (Zb 0) Zd)) (fun _ _ _ _=>(ZbT (ZB hr (by decide)) (ZC (Zv 0 (show List.Nodup (["at","ray","thing"]:List Str) by decide +kernel)) (ZC (Zv 1 (show List.Nodup (["at","ray","thing"]:List Str) by decide +kernel)) ZaP)) (hlen:=(ZN (ZN (fun _ _ _ h=>ZaQ h)))))) (fun _ _ _ _=>(Or.inr ⟨_,rfl,(Z6 (Zh (C8 T) ZaR hr (Za (Zb 1) (Za (Zh (C7 T) ZaR hr (Za (Zb 2) (Za (Zb 0) Zd))) Zd))))⟩)) (fun _ _ _ _=>(Zb 0))) Zd)) Ze) (Zi (Zbv T.in_NoRound (fun f fd C J E=>Zc7 J T.gl E) θ (by decide +kernel) T.gl (hr.hd (by decide)) (hr.mono (by decide)) (Za ZO (Za Ze Zd)))) Zy)))))
theorem C10:Cal P w K mg base "is_round" 105 1 F_is_round:=ZG (N:=["thing"]) (T.d.at 9 17) T.gl fun _ _ _ _ _ _ _ nd hr θ=>(Zg (Zkp (Zio T.ct_NoRound T.gl) (hr.hd (by decide)) rfl rfl rfl [false] (fun pn xe σ ξ' θ'=>(Zi (ZbC (Zh (C9 T) θ' hr (Za (Zb 0) Zd))))) (fun ea=>(Zi (Zs Zdn))))
  (Zi (Zs Zdn)))
theorem C11:Cal P w K mg base "number_text" 101 1 F_number_text:=ZG (N:=["number"]) (T.d.at 10 19) T.gl fun _ _ _ _ _ _ _ nd hr θ=>(Zg (Z3 (Zz ZlH Zl0 (Zo Zad ZbS T.b_abs ZbV (Za (Zb 0) Zd)) (Zi0 Ze Ze)) (Zi (Zay θ T.ex_NoText T.gl (hr.hd (by decide)) (Za ZO Zd))) Zy)
  (Zi (Zs (ZY ZaM ZgL T.b_str ZdB (Za (Zb 0) Zd)))))
theorem C12:Cal P w K mg base "round_text" 102 1 F_round_text:=ZG (N:=["rays"]) (T.d.at 11 20) T.gl fun _ _ _ _ _ _ _ nd hr θ=>(Zi (Zs (ZdJ PySem.F.slot_str_join PySem.F.type_str_join ZgF ZgG ZO (Za (Zch (Zle (N:=["x","y"]) (k:=2) (by decide +kernel) rfl (by decide +kernel) rfl) (ZcF (Zb 0)) (fun _ _ _ _=>(ZbT (ZB hr (by decide)) (ZC (Zv 0 (show List.Nodup (["x","y"]:List Str) by decide +kernel)) (ZC (Zv 1 (show List.Nodup (["x","y"]:List Str) by decide +kernel)) ZaP)) (hlen:=(ZN (ZN (fun _ _ _ h=>ZaQ h)))))) (fun _ _ _ _=>(Or.inl ⟨rfl,rfl⟩)) (fun _ _ _ _=>(ZoZ (Zef (Zmo (Zh (C11 T) ZaR hr (Za (Zb 0) Zd))) (Zef ZO (Zef (Zmo (Zh (C11 T) ZaR hr (Za (Zb 1) Zd))) Zmp)))))) Zd))))
theorem C13:Cal P w K mg base "words_of" 101 1 F_words_of:=ZG (N:=["text"]) (T.d.at 12 21) T.gl fun _ _ _ _ _ _ _ nd hr θ=>(Zg (Z3 (Zas (Z6 (Za9 Zgm T.b_isinstance T.b_str ZdB (Zb 0)))) (Zi (Zay θ T.ex_NoText T.gl (hr.hd (by decide)) (Za ZO Zd))) Zy)
  (Zi (Zs (ZdJ PySem.F.slot_str_split PySem.F.type_str_split ZeU Zje (Zb 0) (Za ZO Zd)))))
theorem C14:Cal P w K mg base "read_number" 101 1 F_read_number:=ZG (N:=["word","figures"]) (T.d.at 13 22) T.gl fun _ _ _ _ _ _ _ nd hr θ=>(Zg (Zu 1 nd (ZoT (Z6 (ZdJ PySem.F.slot_str_startswith PySem.F.type_str_startswith Zmu Zmv (Zb 0) (Za ZO Zd))) (Zmz (Zb 0) (ZcU Ze) ZcT) (Zb 0)))
  (Zg (Z3 (ZhH (ZcQ (Zz Zdd Zdq (Zo ZbP ZgK T.b_len PySem.boot_len (Za (Zb 1) Zd)) Ze) (ZcQ (Zz Zde Zdr (Zo ZbP ZgK T.b_len PySem.boot_len (Za (Zb 1) Zd)) Ze) (Zdo (Zas (Z6 (Zo (ZeR (ZB hr (by decide))) Zi8 T.b_all Zi7 (Za (Zch (Zle (N:=["sign"]) (k:=1) (by decide +kernel) rfl (by decide +kernel) rfl) (Zmt (Zb 1)) (fun _ _ _ _=>(Zv 0 (show List.Nodup (["sign"]:List Str) by decide +kernel))) (fun _ _ _ _=>(Or.inl ⟨rfl,rfl⟩)) (fun _ _ _ _=>(ZbQ ZfU Zmw (Zb 0) ZO))) Zd)))))))) (Zi (Zay θ T.ex_NoText T.gl (hr.hd (by decide)) (Za ZO Zd))) Zy)
  (Zg (Z3 (ZhH (Zdp (Zz (ZcD hr.units) Zfi (Zmx (Zb 1) Ze) ZO) (Zcd (Zz (Za7 hr.units) Zcy (Zb 0) ZO)))) (Zi (Zay θ T.ex_NoText T.gl (hr.hd (by decide)) (Za ZO Zd))) Zy)
  (Zi (Zs (ZY ZgM Zkd T.b_int ZeN (Za (Zb 0) Zd)))))))
theorem C15:Cal P w K mg base "read_pair" 102 1 F_read_pair:=ZG (N:=["word","parts"]) (T.d.at 14 23) T.gl fun _ _ _ _ _ _ _ nd hr θ=>(Zg (Zeg 1 nd (Zle (N:=["part"]) (k:=1) (by decide +kernel) rfl (by decide +kernel) rfl) (ZcF (ZdJ PySem.F.slot_str_split PySem.F.type_str_split ZeU Zje (Zb 0) (Za ZO Zd))) (fun _ _ _ _=>(Zv 0 (show List.Nodup (["part"]:List Str) by decide +kernel))) (fun _ _ _ _=>(Or.inl ⟨rfl,rfl⟩)) (fun _ _ _ _=>(Zh (C14 T) ZaR hr (Za (Zb 0) Zd))))
  (Zg (Z3 (Zz (Za7 hr.units) Zcy (Zo Zk ZR T.b_len PySem.boot_len (Za (Zb 1) Zd)) Ze) (Zi (Zay θ T.ex_NoText T.gl (hr.hd (by decide)) (Za ZO Zd))) Zy)
  (Zi (Zs (Zt (Za (Zp (Zb 1) Ze) (Za (Zp (Zb 1) Ze) Zd)))))))
theorem C16:Cal P w K mg base "read_round" 106 1 F_read_round:=ZG (N:=["text","rays"]) (T.d.at 15 24) T.gl fun _ _ _ _ _ _ _ nd hr θ=>(Zg (Zeg 1 nd (Zle (N:=["word"]) (k:=1) (by decide +kernel) rfl (by decide +kernel) rfl) (ZcF (Zh (C13 T) θ hr (Za (Zb 0) Zd))) (fun _ _ _ _=>(Zv 0 (show List.Nodup (["word"]:List Str) by decide +kernel))) (fun _ _ _ _=>(Or.inl ⟨rfl,rfl⟩)) (fun _ _ _ _=>(Zh (C15 T) ZaR hr (Za (Zb 0) Zd))))
  (Zg (Z3 (Zas (Z6 (Zh (C10 T) θ hr (Za (Zb 1) Zd)))) (Zi (Zay θ T.ex_NoText T.gl (hr.hd (by decide)) (Za ZO Zd))) Zy)
  (Zi (Zs (Zb 1)))))
theorem C17:Cal P w K mg base "partner" 101 1 F_partner:=ZG (N:=["ray","high","low","first","second","many"]) (T.d.at 16 26) T.gl fun _ _ _ _ _ _ _ nd hr θ=>(Zg (Zgo (Zb 0) (ZbT (ZB hr (by decide)) (ZC (Zv 1 nd) (ZC (Zv 2 nd) ZaP)) (hlen:=(ZN (ZN (fun _ _ _ h=>ZaQ h))))))
  (Zg (Zgo (Zt (Za (Zt (Za Ze (Za Ze Zd))) (Za (Zt (Za (ZbR Ze) (Za Ze Zd))) Zd))) (ZbT (ZB hr (by decide)) (ZC (Zv 3 nd) (ZC (Zv 4 nd) ZaP)) (hlen:=(ZN (ZN (fun _ _ _ h=>ZaQ h))))))
  (Zg (Zb7 θ.own (Zz (Za7 hr.units) Zcy (Zb 2) Ze) (Zg (Zu 5 nd (Zbn (Zb 1) (Zb 2)))
  (Zg (Zbp 1 2 (ZB hr (by decide)) nd (Za (Zb 2) (Za (Zaf (Zb 1) (ZI (Zb 5) (Zb 2))) Zd)))
  (Zi (Zbp 3 4 (ZB hr (by decide)) nd (Za (Zb 4) (Za (Zt (Za (Zaf (Zp (Zb 3) Ze) (ZI (Zb 5) (Zp (Zb 4) Ze))) (Za (Zaf (Zp (Zb 3) Ze) (ZI (Zb 5) (Zp (Zb 4) Ze))) Zd))) Zd)))))))
  (Zi (Zs (Zt (Za (ZI (Zb 1) (Zp (Zb 3) Ze)) (Za (ZI (Zb 1) (Zp (Zb 3) Ze)) Zd))))))))
theorem C18:Cal P w K mg base "first_behind" 102 2 F_first_behind:=ZG (N:=["u","v","w","many"]) (T.d.at 17 27) T.gl fun _ _ _ _ _ _ _ nd hr θ=>(Zg (Zu 2 nd (Zh (C17 T) θ hr (Za (Zb 0) Zd)))
  (Zg (Zu 3 nd (Zbn (Zh (C4 T) θ hr (Za (Zb 2) (Za (Zb 1) Zd))) (Zh (C4 T) θ hr (Za (Zb 0) (Za (Zb 1) Zd)))))
  (Zi (Zs (Zt (Za (Zaf (Zp (Zb 2) Ze) (ZI (Zb 3) (Zp (Zb 0) Ze))) (Za (Zaf (Zp (Zb 2) Ze) (ZI (Zb 3) (Zp (Zb 0) Ze))) Zd)))))))
theorem C19:Cal P w K mg base "expanded" 101 2 F_expanded:=ZG (N:=["top","bottom","numbers","number"]) (T.d.at 18 28) T.gl fun _ _ _ _ _ _ _ nd hr θ=>(Zg (Zu 2 nd (Zae Zd))
  (Zg (Zb7 θ.own (Zz (Za7 hr.units) Zcy (Zb 1) Ze) (Zg (Zu 3 nd (ZbR (Zbn (ZbR (Zb 0)) (Zb 1))))
  (Zg (ZbC (Zbu (Zb 2) (Zb 3)))
  (Zi (Zbp 0 1 (ZB hr (by decide)) nd (Za (Zb 1) (Za (Zaf (ZI (Zb 3) (Zb 1)) (Zb 0)) Zd)))))))
  (Zi (Zs (Zb 2)))))
theorem C20:Cal P w K mg base "row" 103 2 F_row:=ZG (N:=["u","v"]) (T.d.at 19 29) T.gl fun _ _ _ _ _ _ _ nd hr θ=>(Zg (Z3 (Zz ZhU Zh6 (Zh (C4 T) θ hr (Za (Zb 0) (Za (Zb 1) Zd))) Ze) (Zi (Zay θ T.ex_NoWedge T.gl (hr.hd (by decide)) (Za ZO Zd))) Zy)
  (Zi (Zs (Zh (C19 T) θ hr (Za (Zh (C4 T) θ hr (Za (Zb 0) (Za (Zb 1) Zd))) (Za (Zh (C4 T) θ hr (Za (Zh (C18 T) θ hr (Za (Zb 0) (Za (Zb 1) Zd))) (Za (Zb 1) Zd))) Zd))))))
theorem C21:Cal P w K mg base "between" 104 2 F_between:=ZG (N:=["u","v","numbers","rays","ahead","ray","number"]) (T.d.at 20 30) T.gl fun _ _ _ _ _ _ _ nd hr θ=>(Zg (Zu 2 nd (Zh (C20 T) θ hr (Za (Zb 0) (Za (Zb 1) Zd))))
  (Zg (Zu 3 nd (Zae Zd))
  (Zg (Zbp 4 5 (ZB hr (by decide)) nd (Za (Zb 0) (Za (Zh (C18 T) θ hr (Za (Zb 0) (Za (Zb 1) Zd))) Zd)))
  (Zg (Zi6 θ.own (Zb 2) (Zv 6 nd) (Zg (ZbC (Zbu (Zb 3) (Zb 5)))
  (Zi (Zbp 4 5 (ZB hr (by decide)) nd (Za (Zb 5) (Za (Zt (Za (Zaf (ZI (Zb 6) (Zp (Zb 5) Ze)) (Zp (Zb 4) Ze)) (Za (Zaf (ZI (Zb 6) (Zp (Zb 5) Ze)) (Zp (Zb 4) Ze)) Zd))) Zd))))))
  (Zi (Zs (Zb 3)))))))
theorem C22:Cal P w K mg base "least_round" 105 1 F_least_round:=ZG (N:=["rays","least","at","ray"]) (T.d.at 21 32) T.gl fun _ _ _ _ _ _ _ nd hr θ=>(Zg (Zu 1 nd (Zae Zd))
  (Zg (Zee θ.own (ZcV (hr.hd (by decide)) T.b_enumerate (Za (Zb 0) Zd)) (ZbT (ZB hr (by decide)) (ZC (Zv 2 nd) (ZC (Zv 3 nd) ZaP)) (hlen:=(ZN (ZN (fun _ _ _ h=>ZaQ h))))) (Zg (ZbC (Zbu (Zb 1) (Zb 3)))
  (Zi (ZbC (Zmk PySem.F.slot_list_extend PySem.F.type_list_extend Zf7 Zmm (Zb 1) (Za (Zh (C21 T) θ hr (Za (Zb 3) (Za (Zh (C7 T) θ hr (Za (Zb 0) (Za (Zb 2) Zd))) Zd))) Zd))))))
  (Zi (Zs (Zb 1)))))
theorem C23:Cal P w K mg base "_law_bag" 1 2 F_law_bag:=ZG (N:=["_law_script","_law_k","_law_cell","_law_state"]) (T.d.at 22 34) T.gl fun _ _ _ _ _ _ _ nd hr θ=>(Zg (Zu 2 nd Ze)
  (Zg (Z3 (Zz Zdd Zdq (Zb 1) (Zo Zk ZR T.b_len PySem.boot_len (Za (Zb 0) Zd))) (Zi (Zu 2 nd (Zo Zad ZbS T.b_abs ZbV (Za (Zp (Zb 0) (Zb 1)) Zd)))) Zy)
  (Zg (Zu 3 nd (ZF Ze (ZaK (ZF (ZF (ZF (ZaK (Zb 2) Ze) (ZI (ZI Ze (Zb 1)) (Zb 1))) (ZI Ze (Zb 1))) Ze) Ze)))
  (Zi (Zs (Zae (Za (ZI (Zb 2) (ZY ZfX Zl5 T.b_int ZeN (Za (ZbQ ZlH Zl0 (Zb 2) (Zi0 Ze Ze)) Zd))) (Za (Zb 3) Zd))))))))
theorem C24:Cal P w K mg base "_law_digit" 1 2 F_law_digit:=ZG (N:=["_law_bag_here","_law_many","_law_found"]) (T.d.at 23 35) T.gl fun _ _ _ _ _ _ _ nd hr θ=>(Zg (Z3 (Zz Zde Zdr (Zp (Zb 0) Ze) Ze) (Zg (Zu 2 nd (ZaK (Zp (Zb 0) Ze) (Zb 1)))
  (Zg (Zi3 (Zb 0) Ze (Zbn (Zp (Zb 0) Ze) (Zb 1)))
  (Zi (Zs (Zb 2))))) Zy)
  (Zg (Zi3 (Zb 0) Ze (ZaK (ZI (Zp (Zb 0) Ze) Ze) Ze))
  (Zi (Zs (ZaK (Zbn (ZaK (ZI (Zp (Zb 0) Ze) Ze) Ze) Ze) (Zb 1))))))
theorem C25:Cal P w K mg base "_law_led" 101 2 F_law_led:=ZG (N:=["_law_turning_here","_law_pair","_law_first","_law_second"]) (T.d.at 24 36) T.gl fun _ _ _ _ _ _ _ nd hr θ=>(Zg (Zgo (Zb 0) (ZbT (ZB hr (by decide)) (ZC (Zv 2 nd) (ZC (Zv 3 nd) ZaP)) (hlen:=(ZN (ZN (fun _ _ _ h=>ZaQ h))))))
  (Zi (Zs (Zt (Za (ZF (ZI (Zp (Zb 2) Ze) (Zp (Zb 1) Ze)) (ZI (Zp (Zb 2) Ze) (Zp (Zb 1) Ze))) (Za (ZF (ZI (Zp (Zb 3) Ze) (Zp (Zb 1) Ze)) (ZI (Zp (Zb 3) Ze) (Zp (Zb 1) Ze))) Zd))))))
theorem C26:Cal P w K mg base "_law_both" 102 2 F_law_both:=ZG (N:=["_law_one","_law_other","_law_left","_law_right"]) (T.d.at 25 37) T.gl fun _ _ _ _ _ _ _ nd hr θ=>(Zg (Zu 2 nd (Zh (C25 T) θ hr (Za (Zb 1) (Za (Zt (Za (Zp (Zp (Zb 0) Ze) Ze) (Za (Zp (Zp (Zb 0) Ze) Ze) Zd))) Zd))))
  (Zg (Zu 3 nd (Zh (C25 T) θ hr (Za (Zb 1) (Za (Zt (Za (Zp (Zp (Zb 0) Ze) Ze) (Za (Zp (Zp (Zb 0) Ze) Ze) Zd))) Zd))))
  (Zi (Zs (Zt (Za (Zt (Za (Zp (Zb 2) Ze) (Za (Zp (Zb 3) Ze) Zd))) (Za (Zt (Za (Zp (Zb 2) Ze) (Za (Zp (Zb 3) Ze) Zd))) Zd)))))))
theorem C27:Cal P w K mg base "_law_turning" 103 1 F_law_turning:=ZG (N:=["_law_bag_here","_law_found","_law_k","_law_by","_law_some"]) (T.d.at 26 38) T.gl fun _ _ _ _ _ _ _ nd hr θ=>(Zg (Zu 1 nd (Zt (Za (Zt (Za Ze (Za Ze Zd))) (Za (Zt (Za Ze (Za Ze Zd))) Zd))))
  (Zg (Za2 θ.own T.b_range (Za (Zh (C24 T) θ hr (Za (Zb 0) (Za Ze Zd))) Zd) (Zv 2 nd) (Zg (Zu 3 nd (Zaf (Zh (C24 T) θ hr (Za (Zb 0) (Za Ze Zd))) Ze))
  (Zg (Zu 4 nd (Zae (Za (Zt (Za (Zt (Za Ze (Za (Zb 3) Zd))) (Za (Zt (Za Ze (Za Ze Zd))) Zd))) (Za (Zt (Za (Zt (Za Ze (Za Ze Zd))) (Za (Zt (Za (Zb 3) (Za Ze Zd))) Zd))) (Za (Zt (Za (Zt (Za Ze (Za Ze Zd))) (Za (Zt (Za Ze (Za Ze Zd))) Zd))) (Za (Zt (Za (Zt (Za Ze (Za (ZbR Ze) Zd))) (Za (Zt (Za Ze (Za Ze Zd))) Zd))) Zd))))))
  (Zi (Zu 1 nd (Zh (C26 T) θ hr (Za (Zb 1) (Za (Zp (Zb 4) (Zh (C24 T) θ hr (Za (Zb 0) (Za Ze Zd)))) Zd))))))))
  (Zi (Zs (Zb 1)))))
theorem C28:Cal P w K mg base "_law_cross" 1 2 F_law_cross:=ZG (N:=["_law_one","_law_other"]) (T.d.at 27 39) T.gl fun _ _ _ _ _ _ _ nd hr θ=>(Zi (Zs (Zaf (ZI (Zp (Zb 0) Ze) (Zp (Zb 1) Ze)) (ZI (Zp (Zb 0) Ze) (Zp (Zb 1) Ze)))))
theorem C29:Cal P w K mg base "_law_sum" 1 2 F_law_sum:=ZG (N:=["_law_one","_law_other"]) (T.d.at 28 40) T.gl fun _ _ _ _ _ _ _ nd hr θ=>(Zi (Zs (Zt (Za (ZF (Zp (Zb 0) Ze) (Zp (Zb 1) Ze)) (Za (ZF (Zp (Zb 0) Ze) (Zp (Zb 1) Ze)) Zd)))))
theorem C30:Cal P w K mg base "_law_near" 1 1 F_law_near:=ZG (N:=["_law_pair"]) (T.d.at 29 41) T.gl fun _ _ _ _ _ _ _ nd hr θ=>(Zi (Zs (Zce (ZbQ ZhU Zh6 (Zo Zad ZbS T.b_abs ZbV (Za (Zp (Zb 0) Ze) Zd)) Ze) (ZcC (ZbQ ZhU Zh6 (Zo Zad ZbS T.b_abs ZbV (Za (Zp (Zb 0) Ze) Zd)) Ze)))))
theorem C31:Cal P w K mg base "_law_brought" 102 3 F_law_brought:=ZG (N:=["_law_rays","_law_turning_here","_law_start","_law_led_here"]) (T.d.at 30 42) T.gl fun _ _ _ _ _ _ _ nd hr θ=>(Zg (Zeg 3 nd (ZqX (XN:=["_law_rays","_law_turning_here","_law_start","_law_led_here"]) (dn:=(Zr (top 42)).names) (N:=["_law_ray","_law_turning_here"]) (k:=1) (fr:=[1]) rfl rfl rfl rfl (by decide +kernel)) (ZcF (Zb 0)) (fun _ _ _ _=>(Zv 0 (show List.Nodup (["_law_ray","_law_turning_here"]:List Str) by decide +kernel))) (fun _ _ _ _=>(Or.inl ⟨rfl,rfl⟩)) (fun _ _ _ _=>(Zh (C25 T) ZaR hr (Za (Zb 1) (Za (Zb 0) Zd)))))
  (Zg (Z3 (Zas (Z6 (Zo (ZeR (ZB hr (by decide))) Zi8 T.b_all Zi7 (Za (Zch (Zle (N:=["_law_ray"]) (k:=1) (by decide +kernel) rfl (by decide +kernel) rfl) (ZcF (Zb 3)) (fun _ _ _ _=>(Zv 0 (show List.Nodup (["_law_ray"]:List Str) by decide +kernel))) (fun _ _ _ _=>(Or.inl ⟨rfl,rfl⟩)) (fun _ _ _ _=>(Zh (C30 T) ZaR hr (Za (Zb 0) Zd)))) Zd)))) (Zi (Zu 3 nd (ZY ZaN Zd8 T.b_list Zcf (Za (Zb 0) Zd)))) (Zi (Z3 (Zz Zdd Zdq (Zh (C28 T) θ hr (Za (Zp (Zb 3) Ze) (Za (Zp (Zb 3) Ze) Zd))) Ze) (Zi (Zu 3 nd (ZoX (Zb 3)))) Zy)))
  (Zi (Zs (ZF (ZdG (Zb 3) (ZcU (Zb 2)) ZcT) (ZdG (Zb 3) ZcT (ZcU (Zb 2))))))))
theorem C32:Cal P w K mg base "_law_smooth" 104 1 F_law_smooth:=ZG (N:=["_law_bag_here","_law_steep","_law_rays","_law_k","_law_at","_law_ray","_law_start"]) (T.d.at 31 43) T.gl fun _ _ _ _ _ _ _ nd hr θ=>(Zg (Zu 1 nd (Zh (C24 T) θ hr (Za (Zb 0) (Za (Zp (Zae (Za Ze (Za Ze (Za Ze (Za Ze (Za Ze (Za Ze (Za Ze (Za Ze Zd))))))))) (Zh (C24 T) θ hr (Za (Zb 0) (Za Ze Zd)))) Zd))))
  (Zg (Zu 2 nd (Zp (Zae (Za (Zae (Za (Zt (Za Ze (Za Ze Zd))) (Za (Zt (Za Ze (Za Ze Zd))) (Za (Zt (Za (ZbR Ze) (Za (ZbR Ze) Zd))) Zd)))) (Za (Zae (Za (Zt (Za Ze (Za Ze Zd))) (Za (Zt (Za Ze (Za Ze Zd))) (Za (Zt (Za (ZbR Ze) (Za (Zb 1) Zd))) (Za (Zt (Za Ze (Za (ZbR Ze) Zd))) Zd))))) Zd))) (Zh (C24 T) θ hr (Za (Zb 0) (Za Ze Zd)))))
  (Zg (Za2 θ.own T.b_range (Za (Zh (C24 T) θ hr (Za (Zb 0) (Za (Zp (Zae (Za Ze (Za Ze (Za Ze (Za Ze Zd))))) (Zh (C24 T) θ hr (Za (Zb 0) (Za Ze Zd)))) Zd))) Zd) (Zv 3 nd) (Zg (Zu 4 nd (Zh (C24 T) θ hr (Za (Zb 0) (Za (Zo Zk ZR T.b_len PySem.boot_len (Za (Zb 2) Zd)) Zd))))
  (Zg (Zu 5 nd (Zh (C29 T) θ hr (Za (Zp (Zb 2) (Zb 4)) (Za (Zp (Zb 2) (ZaK (ZF (Zb 4) Ze) (Zo Zk ZR T.b_len PySem.boot_len (Za (Zb 2) Zd)))) Zd))))
  (Zi (Z3 (ZhH (Zdp (Z6 (Zh (C30 T) θ hr (Za (Zb 5) Zd))) (Zcd (Zz Zdd Zdq (Zo Zk ZR T.b_len PySem.boot_len (Za (Zb 2) Zd)) Ze)))) (Zi (Zu 2 nd (ZF (ZF (ZdG (Zb 2) ZcT (ZcU (ZF (Zb 4) Ze))) (Zae (Za (Zb 5) Zd))) (ZdG (Zb 2) (ZcU (ZF (Zb 4) Ze)) ZcT)))) Zy)))))
  (Zg (Zu 6 nd (Zh (C24 T) θ hr (Za (Zb 0) (Za (Zo Zk ZR T.b_len PySem.boot_len (Za (Zb 2) Zd)) Zd))))
  (Zi (Zs (Zh (C31 T) θ hr (Za (Zb 2) (Za (Zh (C27 T) θ hr (Za (Zb 0) Zd)) (Za (Zb 6) Zd))))))))))
theorem C33:Cal P w K mg base "_law_straight" 101 1 F_law_straight:=ZG (N:=["_law_pair","_law_one","_law_other"]) (T.d.at 32 44) T.gl fun _ _ _ _ _ _ _ nd hr θ=>(Zg (Zbp 1 2 (ZB hr (by decide)) nd (Za (Zo Zad ZbS T.b_abs ZbV (Za (Zp (Zb 0) Ze) Zd)) (Za (Zo Zad ZbS T.b_abs ZbV (Za (Zp (Zb 0) Ze) Zd)) Zd)))
  (Zg (Zb7 θ.own (Zz Zde Zdr (Zb 2) Ze) (Zi (Zbp 1 2 (ZB hr (by decide)) nd (Za (Zb 2) (Za (ZaK (Zb 1) (Zb 2)) Zd)))))
  (Zi (Zs (Zt (Za (Zbn (Zp (Zb 0) Ze) (Zb 1)) (Za (Zbn (Zp (Zb 0) Ze) (Zb 1)) Zd)))))))
theorem C34:Cal P w K mg base "_law_put" 2 2 F_law_put:=ZG (N:=["_law_rays","_law_ray","_law_at","_law_behind"]) (T.d.at 33 45) T.gl fun _ _ _ _ _ _ _ nd hr θ=>(Zg (Za2 θ.own T.b_range (Za (Zo Zk ZR T.b_len PySem.boot_len (Za (Zb 0) Zd)) Zd) (Zv 2 nd) (Zg (Zu 3 nd (Zp (Zb 0) (ZaK (ZF (Zb 2) Ze) (Zo Zk ZR T.b_len PySem.boot_len (Za (Zb 0) Zd)))))
  (Zi (Z3 (ZhH (Zdp (Zz Zde Zdr (Zh (C28 T) θ hr (Za (Zp (Zb 0) (Zb 2)) (Za (Zb 1) Zd))) Ze) (Zcd (Zz Zde Zdr (Zh (C28 T) θ hr (Za (Zb 1) (Za (Zb 3) Zd))) Ze)))) (Zi (Zs (ZF (ZF (ZdG (Zb 0) ZcT (ZcU (ZF (Zb 2) Ze))) (Zae (Za (Zb 1) Zd))) (ZdG (Zb 0) (ZcU (ZF (Zb 2) Ze)) ZcT)))) Zy))))
  (Zi (Zs (Zb 0))))
theorem C35:Cal P w K mg base "_law_any" 105 1 F_law_any:=ZG (N:=["_law_bag_here","_law_rays","_law_wide","_law_k","_law_one","_law_other","_law_at"]) (T.d.at 34 46) T.gl fun _ _ _ _ _ _ _ nd hr θ=>(Zg (Zu 1 nd (Zh (C32 T) θ hr (Za (Zb 0) Zd)))
  (Zg (Zu 2 nd (Zp (Zae (Za Ze (Za Ze (Za Ze (Za Ze (Za Ze (Za Ze (Za Ze (Za Ze Zd))))))))) (Zh (C24 T) θ hr (Za (Zb 0) (Za Ze Zd)))))
  (Zg (Za2 θ.own T.b_range (Za (Zh (C24 T) θ hr (Za (Zb 0) (Za Ze Zd))) Zd) (Zv 3 nd) (Zg (Zu 4 nd (Zaf (Zh (C24 T) θ hr (Za (Zb 0) (Za (Zb 2) Zd))) (Zbn (Zb 2) Ze)))
  (Zg (Zu 5 nd (Zaf (Zh (C24 T) θ hr (Za (Zb 0) (Za (Zb 2) Zd))) (Zbn (Zb 2) Ze)))
  (Zi (Z3 (ZhH (Zdp (Zz (Za7 hr.units) Zcy (Zt (Za (Zb 4) (Za (Zb 5) Zd))) (Zt (Za Ze (Za Ze Zd)))) (Zcd (Zz Zdd Zdq (Zo Zk ZR T.b_len PySem.boot_len (Za (Zb 1) Zd)) Ze)))) (Zi (Zu 1 nd (Zh (C34 T) θ hr (Za (Zb 1) (Za (Zh (C33 T) θ hr (Za (Zt (Za (Zb 4) (Za (Zb 5) Zd))) Zd)) Zd))))) Zy)))))
  (Zg (Za2 θ.own T.b_range (Za (Zh (C24 T) θ hr (Za (Zb 0) (Za Ze Zd))) Zd) (Zv 3 nd) (Zg (Zu 6 nd (Zh (C24 T) θ hr (Za (Zb 0) (Za (Zo Zk ZR T.b_len PySem.boot_len (Za (Zb 1) Zd)) Zd))))
  (Zi (Z3 (ZhH (Zdp (Zz Zde Zdr (Zo Zk ZR T.b_len PySem.boot_len (Za (Zb 1) Zd)) Ze) (Zcd (Zz Zde Zdr (Zh (C28 T) θ hr (Za (Zp (Zb 1) (Zaf (Zb 6) Ze)) (Za (Zp (Zb 1) (ZaK (ZF (Zb 6) Ze) (Zo Zk ZR T.b_len PySem.boot_len (Za (Zb 1) Zd)))) Zd))) Ze)))) (Zi (Zu 1 nd (ZF (ZdG (Zb 1) ZcT (ZcU (Zb 6))) (ZdG (Zb 1) (ZcU (ZF (Zb 6) Ze)) ZcT)))) Zy))))
  (Zi (Zs (Zb 1)))))))
theorem C36:Cal P w K mg base "_law_whole" 1 1 F_law_whole:=ZG (N:=["_law_thing"]) (T.d.at 35 47) T.gl fun _ _ _ _ _ _ _ nd hr θ=>(Zi (Zs (Zce (Za9 Zgl T.b_isinstance T.b_int ZeN (Zb 0)) (ZcC (ZiZ (Za9 ZeI T.b_isinstance T.b_bool Zgs (Zb 0)))))))
theorem C37:Cal P w K mg base "_law_rays_text" 1 1 F_law_rays_text:=ZG (N:=["_law_rays"]) (T.d.at 36 48) T.gl fun _ _ _ _ _ _ _ nd hr θ=>(Zi (Zs (ZdJ PySem.F.slot_str_join PySem.F.type_str_join ZgF ZgG ZO (Za (Zch (Zle (N:=["_law_ray"]) (k:=1) (by decide +kernel) rfl (by decide +kernel) rfl) (ZcF (Zb 0)) (fun _ _ _ _=>(Zv 0 (show List.Nodup (["_law_ray"]:List Str) by decide +kernel))) (fun _ _ _ _=>(Or.inl ⟨rfl,rfl⟩)) (fun _ _ _ _=>(ZF (ZF (ZY ZaM ZgL T.b_str ZdB (Za (Zp (Zb 0) Ze) Zd)) ZO) (ZY ZaM ZgL T.b_str ZdB (Za (Zp (Zb 0) Ze) Zd))))) Zd))))
theorem C38:Cal P w K mg base "_law_same" 2 2 F_law_same:=ZG (N:=["_law_found","_law_rays","_law_ray"]) (T.d.at 37 49) T.gl fun _ _ _ _ _ _ _ nd hr θ=>(Zg (Z3 (ZhH (ZcQ (Zas (Z6 (Za9 ZeJ T.b_isinstance T.b_list Zcf (Zb 0)))) (Zdo (Zz (Za7 hr.units) Zcy (Zo Zk ZR T.b_len PySem.boot_len (Za (Zb 0) Zd)) (Zo Zk ZR T.b_len PySem.boot_len (Za (Zb 1) Zd)))))) (Zi (Zs Zdn)) Zy)
  (Zg (Zi6 θ.own (Zb 0) (Zv 2 nd) (Zi (Z3 (ZhH (ZcQ (Zas (Z6 (Za9 Zdt T.b_isinstance T.b_tuple ZeO (Zb 2)))) (ZcQ (Zz (Za7 hr.units) Zcy (Zo Zk ZR T.b_len PySem.boot_len (Za (Zb 2) Zd)) Ze) (ZcQ (Zas (Z6 (Zh (C36 T) θ hr (Za (Zp (Zb 2) Ze) Zd)))) (Zdo (Zas (Z6 (Zh (C36 T) θ hr (Za (Zp (Zb 2) Ze) Zd))))))))) (Zi (Zs Zdn)) Zy)))
  (Zi (Zs (ZbQ (ZcD hr.units) Zfi (Zb 0) (Zb 1))))))
theorem ZhC {f:Addr}{fd:FuncData}(F:Fun K "law" "law" (top 50) f fd):FnOk P w K mg base (CXE P w) 107 f fd ["_law_script"] (spD K Zew):=
 have nd:List.Nodup (["_law_script","_law_k","_law_bag_here","_law_rays","_law_handed","_law_text","_law_found"]:List Str):=by decide +kernel
 Zl9 (N:=["_law_script","_law_k","_law_bag_here","_law_rays","_law_handed","_law_text","_law_found"]) F ⟨rfl,rfl,rfl,nd,rfl,by decide +kernel,by decide +kernel⟩ rfl rfl fun _ _ _ _ _ _ hr θ=>(Zg (Za2 θ.own T.b_range (Za (Zo (ZfV (ZB hr (by decide))) Zl3 T.b_max Zma (Za Ze (Za (Zo (ZfW (ZB hr (by decide))) Zl4 T.b_min Zmb (Za Ze (Za (Zo Zk ZR T.b_len PySem.boot_len (Za (Zb 0) Zd)) Zd))) Zd))) Zd) (Zv 1 nd) (Zg (Zu 2 nd (Zh (C23 T) θ hr (Za (Zb 0) (Za (Zb 1) Zd))))
  (Zg (Zu 3 nd (Zp (Zae (Za (Zh (C32 T) θ hr (Za (Zb 2) Zd)) (Za (Zh (C35 T) θ hr (Za (Zb 2) Zd)) Zd))) (Zh (C24 T) θ hr (Za (Zb 2) (Za Ze Zd)))))
  (Zg (Z3 (Zz (ZcD hr.units) Zfi (Zh (C24 T) θ hr (Za (Zb 2) (Za Ze Zd))) Ze) (Zi (Zu 3 nd (Zh (C22 T) θ hr (Za (ZY ZaN Zd8 T.b_list Zcf (Za (Zb 3) Zd)) Zd)))) Zy)
  (Zg (Zu 4 nd (ZY ZaN Zd8 T.b_list Zcf (Za (Zb 3) Zd)))
  (Zg (Zu 5 nd (Zh (C12 T) θ hr (Za (Zb 4) Zd)))
  (Zg (Z3 (ZhH (ZcQ (Zas (Z6 (Za9 Zgm T.b_isinstance T.b_str ZdB (Zb 5)))) (ZcQ (Zz (Za7 hr.units) Zcy (Zb 5) (Zh (C37 T) θ hr (Za (Zb 3) Zd))) (Zdo (Zz (Za7 hr.units) Zcy (Zb 4) (Zb 3)))))) (Zi (Zs Zdn)) Zy)
  (Zg (Zu 6 nd (Zh (C16 T) θ hr (Za (Zb 5) Zd)))
  (Zg (Z3 (Zas (Z6 (Zh (C38 T) θ hr (Za (Zb 6) (Za (Zb 3) Zd))))) (Zi (Zs Zdn)) Zy)
  (Zg (ZbC (Zbu (Zb 6) (Zt (Za Ze (Za Ze Zd)))))
  (Zi (Z3 (Zas (Z6 (Zh (C38 T) θ hr (Za (Zh (C16 T) θ hr (Za (Zb 5) Zd)) (Za (Zb 3) Zd))))) (Zi (Zs Zdn)) Zy))))))))))))
  (Zi (Zs Zdn)))
end
theorem fin {l:PySem.W.OpenLaw}{w:World}{K:PySem.W.Frag}{h:Heap}{mg:Str->Option Value}{fa:Addr}(X:K.In h)(G:h.Ns mainGlobals mg)(hfa:mg "law"=some (.ref fa))(T:Txt K mg): ∃ fd:FuncData,(∀ (s:Shared) (v:Value),BindsTo s fd ⟨[v],[]⟩ [("_law_script",v)])/\ ∀ base:Heap,K.In base->base.Ns mainGlobals mg->FnOk l.prog w K mg base (CXE l.prog w) 107 fa fd ["_law_script"] (spD K Zew):=
 Zmd (l:=l) (w:=w) X G hfa (T.d.at 38 50) (fun _ _ _ _ _ _ _=>rfl) fun base fd F=>ZhC (base:=base) T F
end K75
end
section
namespace K75
open PySem PySem.Spec L2 DL SX
open CB (Bd lrd)
open CV CI CIr
theorem Zlb:F_round_text=CIr.F_round_text:=rfl
theorem Zom:F_read_round=CIr.F_read_round:=rfl
section
variable {Q:D->Sto->Prop}{E:Str->Sto->Prop}{M:Sto}{n m o:Nat}{rs:List Pt}
theorem Zex {k:Nat}(hk:0 < k/\k<=60)(h:M[n]?=some (.lst (prs rs)))(hz: ∀ p∈rs,Fw k p)(hl:rs.length * (2 * k + 4)<=16000000)(q: ∀ M',Kp M M'->Q (.str (otx rs)) M'):wO (F_law_rays_text [.ref n] M) Q E:=by
 have l0:rs.length<=4000000:=by
  have:rs.length * 4<=rs.length * (2 * k + 4):=Nat.mul_le_mul_left _ (by omega)
  omega
 simp![F_law_rays_text,ZaZ,Zhi,Zhh];refine ZoC (fun ρ=> ∃ x,ρ=[x]) (fun i=>D.str (ptx (rs.getD i (0,0)))) h (by rw[Zx];omega) ⟨_,rfl⟩ ?_ ?_
 ·rintro j hj ρ L ⟨x,rfl⟩
  rw[ZhF];rw[Zx] at hj;have hf:=hz _ (List.getElem_mem hj)
  have hu:=hf.up hk.2
  have pl:=ZbN hk.1 hf
  have l1:=ZdN hu.1
  have l2:=ZdN hu.2
  have g1:=Zhz hu.1
  have g2:=Zhz hu.2
  have l3:(PySem.Str.ofString ",").length=1:=by rw[Zbg,Zcx];rfl
  rw[Zeu hj];unfold ptx at *;simp![ZnT,ZnW,Zc6,l3];exact ⟨⟨_,rfl⟩,g1,by omega,g2,by omega⟩
 ·rw[Zx,Zet rs (0,0) fun q=>D.str (ptx q)]
  have r:(M ++ [SO.lst (rs.map fun q=>D.str (ptx q))])[M.length]?=some (.lst ((rs.map ptx).map D.str)):=by simp
  simp![Zn];refine ZrO r ⟨rs.map ptx,Zhj _,ZdX (b:=2 * k + 3) (by rw[Zbg,Zes];decide) ?_ ?_,q _ Kp.app⟩
  ·intro x hx
   obtain ⟨y,hy,rfl⟩:=List.mem_map.mp hx
   exact ZbN hk.1 (hz y hy)
  ·rw[List.length_map];exact hl
theorem ZjB (h1:M[n]?=some (.lst (prs rs)))(h2:M[m]?=some (.lst (prs rs)))(hl:rs.length<=4000000)(q:Q (.bl true) M):wO (F_law_same [.ref n,.ref m] M) Q E:=by
 have hq:eqF 12 M (.ref n) (.ref m)=some (decide (rs=rs)):=Znb h1 h2
 simp![F_law_same,ZcJ,CG.Zjz h1,h1,h2];refine Zg3 (fun i ρ M'=>(∃ x,ρ=[some (.ref n),some (.ref m),x])/\M'=M) h1 ⟨⟨_,rfl⟩,rfl⟩ (fun i ρ M' h=>by rw[h.2];exact h1) ?_ ?_
 ·rintro i ρ M' hi ⟨⟨x,rfl⟩,rfl⟩
  rw[ZhF];simp![Zby,CR.F_law_whole,CR.Zbl];exact ⟨_,rfl⟩
 ·rintro ρ M' ⟨⟨x,rfl⟩,rfl⟩
  simp![hq];exact q
theorem Zon (hr:Rn rs)(hb:Nr 200 rs):Nr 200 (lrd rs):=by
 have:=CB.Zhw (B:=200) (by decide) (rs ++ rs.take 1) (hr.wgs hb) fun x hx=>by
  have hx':x∈rs:=by
   rcases List.mem_append.mp hx with hp | hp
   ·exact hp
   ·exact List.mem_of_mem_take hp
  have:=hb x hx'
  unfold Bd;omega
 intro x hx
 have:=this x hx
 unfold Bd at this;omega
theorem ZiP (h:Rn rs)(hb:Nr 200 rs)(hl:rs.length<=14):(lrd rs).length<=1500000:=by
 have w:=h.wgs hb
 have:=CL.Zeo _ w fun A a b R e=>by
  have m: ∀ z∈rs ++ rs.take 1,Bd 200 z:=fun z hz=>by
   rcases List.mem_append.mp hz with hz | hz
   ·exact hb z hz
   ·exact hb z (List.mem_of_mem_take hz)
  have:=CB.ZrQ (m a (by rw[e];simp)) (m b (by rw[e];simp))
  omega
 unfold lrd;rw[List.length_append,List.length_take] at this;omega
theorem Zlc {ns:List Int}{k:Nat}{x2 x3 x4 x5 x6:Option D}{N B C:Ro->Sto->Prop}{R:D->Sto->Prop}(hk:k < 1000)(hN: ∀ x2 x3 x4 x5 x6 M',N [some (.rol (ns.map D.int)),some (.int k),x2,x3,x4,x5,x6] M'):wS (Zc8 [some (.rol (ns.map D.int)),some (.int k),x2,x3,x4,x5,x6] M) N R B C E:=by
 simp![Zc8];refine CA.Zqz hk fun a b h0=> ?_
 have hb:Bag M.length (M ++ [SO.lst [.int a,.int b]]):=⟨a,b,h0,by simp⟩
 generalize M ++ [SO.lst [.int a,.int b]]=M0 at hb ⊢;generalize M.length=n at hb ⊢;simp![Zn];refine CA.Ze5 hb fun ss m1 M1 s1 s2 s3 m0 s4 g1=> ?_
 have n0:=hb.lt
 simp![Zn];refine CZ.ZqG g1.bag fun rr m2 M2 r0 r1 r2 r3 r4 r5 g2=> ?_
 have n1:=g1.bag.lt
 have t4:=CA.Gr.up s4 g2 (by omega)
 simp![Zn];refine CA.ZH (g2.bag.app _) (by decide) fun s M3 s0 s1' g3=> ?_
 have k3:=Gr.new g2.bag g3
 have gb3:Gr n M2 M3:=(Gr.app g2.bag _).trans g3
 have u4:=CA.Gr.up t4 gb3 (by omega)
 have u5:=CA.Gr.up r5 gb3 (by omega)
 obtain ⟨rs,p,hs',hr,hb2,hl14,hp,pn⟩: ∃ rs p,atI [D.ref m1,D.ref m2] s=some (.ref p)/\Rn rs/\Nr 200 rs/\rs.length<=14/\M3[p]?=some (.lst (prs rs))/\p≠n:=by
  have:s=0\/s=1:=by omega
  rcases this with rfl | rfl
  ·exact ⟨ss,m1,rfl,s1.rn,s2,s3,u4,by omega⟩
  ·exact ⟨rr,m2,rfl,r0,r1,r3,u5,by omega⟩
 simp![k3,hs'];refine CA.ZH gb3.bag (by decide) fun d M4 d0 d1 g4=> ?_
 have v5:=CA.Gr.up hp g4 pn
 simp![Zn];refine Zq8 (fun ρ M'=> ∃ rs p,ρ=[some (.rol (ns.map D.int)),some (.int k),some (.ref n),some (.ref p),x4,x5,x6]/\Rn rs/\Nr 200 rs/\rs.length<=1500000/\M'[p]?=some (.lst (prs rs))) ?_ ?_
 ·refine brS (fun c=> ?_) (fun c=> ?_)
  ·simp![v5]
   have hv:=ZS v5
   refine CL.Zk3 (rs:=rs) (by rw[ZdR];rfl) hr.ne (hr.wgs hb2) (by omega) (fun x hx=>by have:=hb2 x hx;unfold Bd;omega) fun M5 K5 r6=> ?_
   simp![Zn];have ll:=ZiP hr hb2 hl14
   rw[List.length_append] at r6;exact ⟨lrd rs,_,rfl,(hr.least hb2).rn,Zon hr hb2,ll,r6⟩
  ·simp![Zn]
   exact ⟨rs,p,rfl,hr,hb2,by omega,v5⟩
 rintro _ M5 ⟨rs,p,rfl,hr,hb2,hl,hp⟩
 have fw: ∀ q∈rs,Fw 3 q:=fun q hq=>by have:=hb2 q hq;unfold Fw;omega
 have hl3:rs.length * (2 * 3 + 4)<=16000000:=by omega
 have h5:=ZS hp
 simp![hp,Zlb];have p0:(M5 ++ [SO.lst (prs rs)])[M5.length]?=some (.lst (prs rs)):=by rw[ZdR];rfl
 have p1:(M5 ++ [SO.lst (prs rs)])[p]?=some (.lst (prs rs)):=by rw[Zbh h5];exact hp
 generalize M5 ++ [SO.lst (prs rs)]=M6 at p0 p1 ⊢;generalize M5.length=l at p0 ⊢;refine Zd3 (k:=3) (by decide) p0 fw hl3 fun M7 K7=> ?_
 have ty:ZL M7 (.str (otx rs))=some "str":=rfl
 have ti:Za8 "str" "str"=true:=by decide
 simp![ty,ti];refine Zex (k:=3) (by decide) (K7.get p1) fw hl3 fun M8 K8=> ?_
 have K9:=K7.trans K8
 have a0:=K9.get p0
 have a1:=K9.get p1
 have hq:eqF 12 M8 (.ref l) (.ref p)=some (decide (rs=rs)):=Znb a0 a1
 simp![ZqL,hq,Zom];refine ZbX (k:=3) (by decide) hr hb2 (by omega) fw hl3 fun m10 M10 K10 l10 r10=> ?_
 have b1:=K10.get a1
 simp![Zn];refine ZjB r10 b1 (by omega) ?_
 have h10:=ZS r10
 have hp8:=ZS a1
 simp![r10];refine ⟨by omega,?_⟩
 have c1:(M10.set m10 (SO.lst (prs (rs ++ [(1,0)]))))[p]?=some (.lst (prs rs)):=by rw[List.getElem?_set_ne (by omega)];exact b1
 generalize M10.set m10 (SO.lst (prs (rs ++ [(1,0)])))=M11 at c1 ⊢;refine ZbX (k:=3) (by decide) hr hb2 (by omega) fw hl3 fun m12 M12 K12 l12 r12=> ?_
 simp![Zn];refine ZjB r12 (K12.get c1) (by omega) ?_
 simp![Zn];exact hN _ _ _ _ _ _
theorem law_true (ns:List Int)(h:ns.length<=63): ∃ M',Zew [.rol (ns.map D.int)] []= .ok (.bl true) M':=by
 have w:wO (Zew [.rol (ns.map D.int)] []) (fun d _=>d= .bl true) (fun _ _=>False):=by
  simp![Zew,Zol];refine ⟨by omega,?_⟩
  refine ZcH (fun _ ρ _=> ∃ x1 x2 x3 x4 x5 x6,ρ=[some (.rol (ns.map D.int)),x1,x2,x3,x4,x5,x6]) ⟨_,_,_,_,_,_,rfl⟩ ?_ ?_
  ·rintro i ρ M hi ⟨x1,x2,x3,x4,x5,x6,rfl⟩
   rw[show (0:Int) + (i:Int)=i by omega]
   simp![Zn];exact Zlc (by omega) fun _ _ _ _ _ _=>⟨_,_,_,_,_,_,rfl⟩
  ·rintro ρ M ⟨x1,x2,x3,x4,x5,x6,rfl⟩
   simp![Zn]
 obtain ⟨d,M',e,rfl⟩:=Zg0 w
 exact ⟨M',e⟩
end
end K75
end
namespace K75
open PySem PySem.Spec L2 DL
noncomputable def Zoo (p:Program)(i:Nat):Stmt:=p.main.body.getD i (.Pass ⟨0,0,0,0⟩)
noncomputable def ZqM:List Cw:=[⟨"NoWedge",56,234,10⟩,⟨"NoText",68,250,12⟩]
noncomputable def Kf (p:Program)(P:Params):PySem.W.Frag:=(3,{ cls:=Value.type "dict",data:=Data.dict ([zz1 P "__name__" 165 (zz3 "law_rayround_k75_rounds_as_texts" 454),zz1 P "__doc__" 166 (Value.none),zz1 P "__package__" 167 (Value.none),zz1 P "__loader__" 168 (Value.builtin "__main__.__loader__#opaque"),zz1 P "__spec__" 169 (Value.none),zz1 P "__annotations__" 170 (Value.ref 6),zz1 P "__builtins__" 171 (Value.ref 4),zz1 P "__file__" 173 (zz3 "/claim/cut.py" 172),zz1 P "__cached__" 174 (Value.none),zz1 P "RayError" 206 (Value.ref 24),zz1 P "NoRound" 233 (Value.ref 44)] ++ ZqM.map (·.de P) ++ tab.map (·.de P)).toArray 52 }) :: tab.flatMap (·.en (Zoo p)) ++ ZqM.flatMap (·.en P) ++ [(41,⟨.type "function",none,.func (PySem.W.fnOf "__init__" "NoRound.__init__" (Zax (Zin (Zoo p 2) 0)) (Z0 (Zin (Zoo p 2) 0)) (Zr (Zin (Zoo p 2) 0)) .none .none .none (.str "rayround.errors" 187) none (.ref 40) .none),#[]⟩),
 (40,{ cls:=Value.type "code",data:=Data.fields #[zz3 "__init__" 219,zz3 "NoRound.__init__" 220,zz3 "/claim/cut.py" 221,zz4 6,zz4 3,zz4 0,zz4 0,zz4 3,Value.ref 35,Value.bool true,zz4 181,Value.ref 36,Value.none,Value.ref 37,Value.ref 38,Value.ref 39,zz4 225,zz4 6,zz3 "/claim/cut.py" 226] }),
 (2,{ cls:=Value.none,data:=Data.dict #[] }),
 (23,{ cls:=Value.type "dict",data:=Data.dict #[zz1 P "__module__" 196 (zz3 "rayround.errors" 187),zz1 P "__firstlineno__" 200 (Value.int 2 199),zz1 P "__static_attributes__" 201 (Value.ref 22),zz1 P "__weakref__" 203 (Value.ref 25),zz1 P "__doc__" 204 (Value.none)] 3 }),
 (24,{ cls:=Value.type "type",data:=Data.cls { name:=Str.ofString "RayError",bases:=[Value.type "ValueError"],mro:=[Value.ref 24,Value.type "ValueError",Value.type "Exception",Value.type "BaseException",Value.type "object"],ns:=23,qualname:=Str.ofString "RayError",subclasses:=[Value.ref 44,Value.ref 56,Value.ref 68] },slots:= #[some (Value.ref 15),none,some (zz3 "RayError" 189),some (zz3 "RayError" 197),some (Value.builtin "ValueError.__new__"),some (Value.bool true)] }),
 (43,{ cls:=Value.type "dict",data:=Data.dict #[zz1 P "__module__" 214 (zz3 "rayround.errors" 187),zz1 P "__firstlineno__" 218 (Value.int 4 217),zz1 P "__init__" 227 (Value.ref 41),zz1 P "__static_attributes__" 230 (Value.ref 42),zz1 P "__doc__" 231 (Value.none)] 2 }),
 (44,{ cls:=Value.type "type",data:=Data.cls { name:=Str.ofString "NoRound",bases:=[Value.ref 24],mro:=[Value.ref 44,Value.ref 24,Value.type "ValueError",Value.type "Exception",Value.type "BaseException",Value.type "object"],ns:=43,qualname:=Str.ofString "NoRound" },slots:= #[some (Value.ref 28),none,some (zz3 "NoRound" 207),some (zz3 "NoRound" 215),some (Value.builtin "ValueError.__new__"),some (Value.bool true)] })]
noncomputable def asK:List Addr:=3 :: tab.flatMap (fun r=>[r.f,r.f - 1]) ++ ZqM.flatMap (fun r=>[r.f,r.f - 1]) ++ [41,40,2,23,24,43,44]
theorem Zop (p:Program)(P:Params):asK=(Kf p P).map (·.1):=by kernel_rfl
noncomputable def qf (p:Program):Program:={ p with main:={ p.main with body:=[Zoo p 50] } }
noncomputable def lo:List Str:=(["__name__","RayError","NoRound","NoWedge","NoText","is_whole","greatest_divisor","is_pair","crossed","common","is_ray","following","met_direction","look_round","is_round","number_text","round_text","words_of","read_number","read_pair","read_round","partner","first_behind","expanded","row","between","least_round","_law_bag","_law_digit","_law_led","_law_both","_law_turning","_law_cross","_law_sum","_law_near","_law_brought","_law_smooth","_law_straight","_law_put","_law_any","_law_whole","_law_rays_text","_law_same"]:List String).map Str.ofString
theorem Ztj {l:PySem.W.OpenLaw}{q:Program}{loose:List Str}{XP:(Str->Option Value)->Heap->Prop}{YP:World->Heap->Prop}{d:DefRec}{K:Params->PySem.W.Frag}(hn:l.most=some 63)(hdf:d.params.defaults=[])
  (hY: ∀ (w:World) (h:Heap),YP w h->(K w.params).In h)
  (F: ∀ (w:World) (mg:Str->Option Value) (fa:Addr) (h:Heap),(K w.params).In h->h.Ns mainGlobals mg->mg d.name=some (.ref fa)->
   ∃ fd:FuncData,(∀ (s:Shared) (u:Value),BindsTo s fd ⟨[u],[]⟩ [("_law_script",u)])/\ ∀ base:Heap,(K w.params).In base->base.Ns mainGlobals mg->FnOk l.prog w (K w.params) mg base (CXE l.prog w) 107 fa fd ["_law_script"] (spD (K w.params) Zew)):
  PySem.W.WalkO q loose XP YP l.row.toRowW d [] (fun f vs=>PySem.call f vs):=
 L2.ZjV (n:=63) (k:=107) (x:="_law_script") (CX:=fun w=>CXE l.prog w) (sp:=fun w=>spD (K w.params) Zew) hn (by decide) hdf ⟨fun _=>rfl,rfl,by decide,by decide⟩ hY F (fun _ _ a ns hl hO hS=>DL.Zmc hl hO hS (law_true ns hl)) fun _ _ _ _ _ ⟨_,_,_,_,_,_,_,_,_,_,_,_,_,q⟩=>q
end K75
open PySem PySem.W PyProof.Rows
namespace K75
noncomputable abbrev pw:=PySem.Challenge.pw_rayround_k75_rounds_as_texts
noncomputable abbrev Hk:Hook:=kHook (Kf pw) asK (Zop pw)
set_option maxRecDepth 1000000 in
set_option maxHeartbeats 0 in
theorem Zo5 (w:World)(os:OsState):(HD.Zoz through (HD.Zis (stepOk 11 (some (.ref 6))) (stepT (denote treeTable) PySem.Challenge.pw_rayround_k75_rounds_as_texts w)) 2153 (HD.T0 w os) (topStub PySem.Challenge.pw_rayround_k75_rounds_as_texts)).map (fun s=>((staticsOk (importedModules PySem.Challenge.pw_rayround_k75_rounds_as_texts.main.body) (boot_heap w.params) s.abs.heap && namesBound PySem.Challenge.pw_rayround_k75_rounds_as_texts s.abs.heap && gensDone s.abs && laidKept (boot_heap w.params) s.abs.heap),
  openSeen (qf PySem.Challenge.pw_rayround_k75_rounds_as_texts) lo (importedModules PySem.Challenge.pw_rayround_k75_rounds_as_texts.main.body) (fun s=>xlAt (qf PySem.Challenge.pw_rayround_k75_rounds_as_texts) [] s && recOk [] s) true s.abs,asK.map s.abs.heap.get?))=some (true,openGood (qf PySem.Challenge.pw_rayround_k75_rounds_as_texts) lo,(Kf PySem.Challenge.pw_rayround_k75_rounds_as_texts w.params).map fun x=>some x.2):=by
 rw[HD.Zo6,HD.Zkr,HD.ZmJ,HD.ZmK,HD.Zks,HD.ZmL]
 kernel_rfl
end K75
set_option maxRecDepth 1000000 in
set_option maxHeartbeats 0 in
theorem PySem.Challenge.cw_rayround_k75_rounds_as_texts_holds : PySem.Challenge.rw_rayround_k75_rounds_as_texts.Holds := by
 w_on
 refine holds_law (by kernel_rfl) fun said=> ?_
 refine holds_open (q:=K75.qf PySem.Challenge.pw_rayround_k75_rounds_as_texts) (loose:=K75.lo) (Xt:=fun s=>xlAt (K75.qf PySem.Challenge.pw_rayround_k75_rounds_as_texts) [] s && recOk [] s) (XP:=XL (K75.qf PySem.Challenge.pw_rayround_k75_rounds_as_texts) []) (Yf:=Hook.obs K75.Hk) (Ya:=Hook.val K75.Hk) (YP:=Hook.says K75.Hk) (N:=2753) ?hl (Hook.of K75.Hk) (Hook.keeps K75.Hk) (fun s e=>xl_of s (Bool.and_eq_true_iff.mp e).1) XL.keeps (by rfl) (by rfl) (by rfl) (fun s e=>recFacts_of (Bool.and_eq_true_iff.mp e).2) (by rfl) (by first | assumption | decide +kernel) (by decide +kernel) ⟨rfl,rfl,rfl,rfl,rfl,by decide +kernel⟩ ?hw ?hc
 case hl=>exact HD.ZgZ rfl (by decide) (fun s=>rfl) (by decide) K75.Zo5
 case hw=>w_witness2
 case hc=>
  refine K75.Ztj (l:=PySem.Challenge.rw_rayround_k75_rounds_as_texts) rfl rfl (fun w h Y=>PySem.W.kIn_of Y) ?F
  intro w mg fa h KX G hmg;refine K75.fin KX G hmg ⟨DL.Bs.of KX G ?_,fun c v e=>PySem.W.mg_of KX G e,DL.Dfs.of ?_,K75.Zti (fI:=41) (c:=40) (m:="rayround.errors") (t:=187) ?_ ?_ ?_ ?_ ?_,?_,?_,?_⟩
  all_goals kernel_rfl
