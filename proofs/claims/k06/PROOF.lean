import PyProof.Rows.All
import Wide.All
import OpenK.AllK
import Wide.FinOn
import Lean
import PyProof.EqAt
import PyProof.EqKinds
import PyProof.TupleCall
import PySem.Challenge.RW_rayround_k06_rounds_of_any_thing
set_option maxRecDepth 100000
set_option linter.all false
set_option Elab.async false
set_option maxHeartbeats 4000000
noncomputable section
set_option bootstrap.genMatcherCode false
set_option genSizeOf false
set_option genSizeOfSpec false
set_option compiler.extract_closed false
section
namespace DQ
open PySem PySem.Spec PyProof.Rows
noncomputable def ZbL (A:Around) (h:Heap):Prop:=A.handled=none\/ ∃ ea oe vs,A.handled=some (.ref ea)/\h.get? ea=some oe/\oe.data= .fields vs/\vs[2]?=some .none
theorem ZbL.keeps {A:Around} {h h':Heap} (q:ZbL A h) (k: ∀ b o,h.get? b=some o->h'.get? b=some o):ZbL A h':=by
 rcases q with q | ⟨ea,oe,vs,e1,e2,e3,e4⟩
 ·exact .inl q
 ·exact .inr ⟨ea,oe,vs,e1,k _ _ e2,e3,e4⟩
theorem ZdH:entryFor table "proto.unchain"=some Builtin.«proto.unchain» :=entryFor_of_fast (by kernel_rfl)
section
variable {prog:Program} {w:World} {A:Around} {E:Value->Shared->Prop} {s:Shared}
theorem Zfa {α:Type} {Q:α->Shared->Prop} {e:Addr} {oe:Obj} {vs:Array Value} (q:ZbL A s.heap) (he:s.heap.get? e=some oe) (hd:oe.data= .fields vs) (hz:2 < vs.size)
  (h: ∀ h',(∀ b o,b≠e->s.heap.get? b=some o->h'.get? b=some o)->(∃ o,h'.get? e=some o/\o.cls=oe.cls)->E (.ref e) { s with heap:=h' }):wpAny (model prog w) A (raiseNew (.ref e):Sem α) Q E s:=by
 have same:E (.ref e) s:=h s.heap (fun _ _ _ x=>x) ⟨oe,he,rfl⟩
 unfold raiseNew
 refine wpAny_bind (wpAny_handled ?_)
 rcases q with q | ⟨ea,oa,ws,q1,q2,q3,q4⟩
 ·rw[q]
  exact wpAny_bind (wpAny_pure (wpAny_throw same))
 ·rw[q1]
  dsimp only
  by_cases c:(Value.ref ea != Value.ref e)=true
  ·rw[if_pos c]
   refine wpAny_bind (wpAny_holding (wpAny_runValue (codeAny_builtin ZdH ?_)))
   unfold Builtin.«proto.unchain»
   refine wpAny_bind (wpAny_field q2 q3 q4 ?_)
   refine wpAny_bind (wpAny_pure ?_)
   have sf:wpAny (model prog w) A (setField (.ref e) 2 (.ref ea)) (fun _ s'=>wpAny (model prog w) A (throw (Value.ref e):Sem α) Q E s') E s:=by
    refine wpAny_setField he hd hz (wpAny_throw (h _ (fun b o hb x=> ?_) ⟨_,Heap.get?_update_self _ he (Obj.isFreed_of_fields (Obj.data_mapFields hd _)),Obj.cls_mapFields _ _⟩))
    rw[Heap.get?_update_other _ _ (Ne.symm hb)]
    exact x
   exact wpAny_pure (wpAny_bind sf)
  ·rw[if_neg c]
   exact wpAny_throw same
theorem Zcm {α:Type} {Q:α->Shared->Prop} (q:ZbL A s.heap)
  (h: ∀ h' e,(∀ b o,s.heap.get? b=some o->h'.get? b=some o)->(∃ o,h'.get? e=some o/\o.cls= .type "StopIteration")->E (.ref e) { s with heap:=h' }):
  wpAny (model prog w) A (newExc (.type "StopIteration") [] >>= fun x=>(raiseNew x:Sem α)) Q E s:=by
 refine wpAny_bind ?_
 simp only[newExc,newTuple]
 refine wpAny_bind (wpAny_newObj_type ?_ (by size_fits))
 refine wpAny_bind (m:=firstArgMember _ _) (wpAny_of_eq (a:=Value.none) (by first | rfl | (simp only[firstArgMember];rfl)) ?_)
 refine wpAny_newObj_type ?_ (by size_fits)
 refine Zfa (q.keeps fun b o x=>Heap.get?_push_of_some _ (Heap.get?_push_of_some _ x)) (Heap.get?_push_size _ rfl) rfl (by rw[Array.size_append];exact Nat.lt_of_lt_of_le (by decide:2 < 6) (Nat.le_add_right _ _)) fun h' k he=> ?_
 exact h h' _ (fun b o x=>k b o (Nat.ne_of_lt (Nat.lt_of_lt_of_le (Heap.lt_size x) (by rw[Heap.size_push];exact Nat.le_succ _))) (Heap.get?_push_of_some _ (Heap.get?_push_of_some _ x))) he
theorem ZkB {e:Addr} {Q:Bool->Shared->Prop} (he: ∃ o,s.heap.get? e=some o/\o.cls= .type "StopIteration") (h:Q true s):wpAny (model prog w) A (isInstance (.ref e) (.type "StopIteration")) Q E s:=
 let ⟨o,e1,e2⟩:=he
 wpAny_isInstance (T:="StopIteration") (b:=true) ⟨o,e1,e2⟩ isSubtype_stop h
theorem ZbL.in1 {h:Heap} (q:ZbL A h):ZbL A.in1 h:=q
noncomputable def Zg4 (it:Addr) (s:Shared) (e:Value) (s':Shared):Prop:= ∃ a,e= .ref a/\(∃ o,s'.heap.get? a=some o/\o.cls= .type "StopIteration")/\ ∃ h',Heap.ExtBut it s.heap h'/\s'={ s with heap:=h' }
theorem Zg5 {it:Addr} {T id:String} {b:Builtin} {Q:Option Value->Shared->Prop} (hT:s.TypeIs (.ref it) T) (sl:Slot T (Str.ofString "__next__") id) (hb:entryFor table id=some b) (ha:argsOk id ⟨[.ref it],[]⟩)
  (h:wpAny (model prog w) A.in1 (b ⟨[.ref it],[]⟩) (fun _ _=>False) (Zg4 it s) s) (hQ: ∀ h',Heap.ExtBut it s.heap h'->Q none { s with heap:=h' }):wpAny (model prog w) A (pyNext (.ref it)) Q E s:=by
 unfold pyNext
 refine wpAny_bind (wpAny_attempt (wpAny_callSpecial?_slot (name:=Str.ofString "__next__") hT sl (wpAny_call_entry sl hT hb (wpAny_mono h (fun _ _ z=>z.elim) fun e s' z=> ?_) ha)))
 obtain ⟨a,rfl,ho,h',eb,rfl⟩:=z
 exact wpAny_bind (ZkB ho (wpAny_pure (hQ h' eb)))
theorem Zg6 {it:Addr} {x left step:Int} {Q:Option Value->Shared->Prop} (q:ZbL A s.heap) (hit:IsRangeIter s.heap it x left step) (hl:left<=0)
  (hQ: ∀ h',Heap.ExtBut it s.heap h'->Q none { s with heap:=h' }):wpAny (model prog w) A (pyNext (.ref it)) Q E s:=by
 refine Zg5 ⟨_,hit,rfl⟩ F.slot_range_iterator_next F.entry_range_iterator_next (F.args_range_iterator_next_1 _) ?_ hQ
 refine wpAny_bind (m:=field (.ref it) 0) (wpAny_field hit rfl (x:=rawInt x) rfl ?_)
 refine wpAny_bind (m:=field (.ref it) 1) (wpAny_field hit rfl (x:=rawInt left) rfl ?_)
 refine wpAny_bind (m:=field (.ref it) 2) (wpAny_field hit rfl (x:=rawInt step) rfl ?_)
 dsimp only[rawInt]
 rw[if_pos hl]
 refine wpAny_bind (wpAny_rule (wpAny_bind ?_))
 exact Zcm q.in1 fun h' e k ho=>⟨e,rfl,ho,h',fun b o _ z=>k b o z,rfl⟩
theorem Zl4 {it l:Addr} {i:Nat} {o ol:Obj} {items:Array Value} {n:Nat} (q:ZbL A s.heap) (ho:s.heap.get? it=some o) (hd:o.data= .fields #[.ref l,.int i 0]) (hol:s.heap.get? l=some ol) (hdl:ol.data= .seq items n) (hx:items[i]?=none):
  wpAny (model prog w) A.in1 (Builtin.«list_iterator.__next__» ⟨[.ref it],[]⟩) (fun _ _=>False) (Zg4 it s) s:=by
 refine wpAny_bind (m:=field (.ref it) 0) (wpAny_field ho hd (x:= .ref l) rfl ?_)
 dsimp only
 rw[if_neg (show ¬ ((Value.ref l == Value.none)=true) from Bool.false_ne_true)]
 refine wpAny_bind (m:=field (.ref it) 1) (wpAny_field ho hd (x:= .int i 0) rfl ?_)
 refine wpAny_bind (m:=seqItems? (.ref l)) (wpAny_seqItems hol hdl ?_)
 simp only[Int.toNat_natCast,hx]
 refine wpAny_bind (wpAny_rule (wpAny_bind (wpAny_setField ho hd (by simp) ?_)))
 have q2:ZbL A.in1 (s.heap.update it (Obj.mapFields (·.setIfInBounds 0 Value.none))):=by
  rcases q with q | ⟨ea,oe,vs,e1,e2,e3,e4⟩
  ·exact .inl q
  ·refine .inr ⟨ea,oe,vs,e1,?_,e3,e4⟩
   rw[Heap.get?_update_other _ _ (fun z=> ?_)]
   ·exact e2
   ·rw[<- z,ho] at e2
    cases e2
    rw[hd] at e3
    cases e3
    simp at e4
 refine Zcm q2 fun h' e k ho=>⟨e,rfl,ho,h',fun b o hb z=>k b o ?_,rfl⟩
 rw[Heap.get?_update_other _ _ (Ne.symm hb)]
 exact z
theorem Zl5 {it l:Addr} {i:Nat} {o ol:Obj} {items:Array Value} {n:Nat} (q:ZbL A s.heap) (ho:s.heap.get? it=some o) (hd:o.data= .fields #[.ref l,.int i 0]) (hol:s.heap.get? l=some ol) (hdl:ol.data= .seq items n) (hx:items[i]?=none):
  wpAny (model prog w) A.in1 (Builtin.«tuple_iterator.__next__» ⟨[.ref it],[]⟩) (fun _ _=>False) (Zg4 it s) s:=by
 refine wpAny_bind (m:=field (.ref it) 0) (wpAny_field ho hd (x:= .ref l) rfl ?_)
 dsimp only
 rw[if_neg (show ¬ ((Value.ref l == Value.none)=true) from Bool.false_ne_true)]
 refine wpAny_bind (m:=field (.ref it) 1) (wpAny_field ho hd (x:= .int i 0) rfl ?_)
 refine wpAny_bind (m:=seqItems? (.ref l)) (wpAny_seqItems hol hdl ?_)
 simp only[Int.toNat_natCast,hx]
 refine wpAny_bind (wpAny_rule (wpAny_bind (wpAny_setField ho hd (by simp) ?_)))
 have q2:ZbL A.in1 (s.heap.update it (Obj.mapFields (·.setIfInBounds 0 Value.none))):=by
  rcases q with q | ⟨ea,oe,vs,e1,e2,e3,e4⟩
  ·exact .inl q
  ·refine .inr ⟨ea,oe,vs,e1,?_,e3,e4⟩
   rw[Heap.get?_update_other _ _ (fun z=> ?_)]
   ·exact e2
   ·rw[<- z,ho] at e2
    cases e2
    rw[hd] at e3
    cases e3
    simp at e4
 refine Zcm q2 fun h' e k ho=>⟨e,rfl,ho,h',fun b o hb z=>k b o ?_,rfl⟩
 rw[Heap.get?_update_other _ _ (Ne.symm hb)]
 exact z
theorem ZiN {it l:Addr} {i:Nat} {items} {Q:Option Value->Shared->Prop} (q:ZbL A s.heap) (hit:s.heap.IsListIter it l i) (hl:s.heap.IsList l items) (hx:items[i]?=none)
  (hQ: ∀ h',Heap.ExtBut it s.heap h'->Q none { s with heap:=h' }):wpAny (model prog w) A (pyNext (.ref it)) Q E s:=by
 obtain ⟨o,ho,hc,hd⟩:=id hit
 obtain ⟨ol,hol,_,nl,hdl⟩:=hl
 exact Zg5 hit.typeIs slot_listiter_next entry_listiter_next (args_listiter_next _) (Zl4 q ho hd hol hdl hx) hQ
theorem Zg7 {it l:Addr} {i:Nat} {items} {Q:Option Value->Shared->Prop} (q:ZbL A s.heap) (hit:s.heap.IsTupleIter it l i) (hl:s.heap.IsTuple l items) (hx:items[i]?=none)
  (hQ: ∀ h',Heap.ExtBut it s.heap h'->Q none { s with heap:=h' }):wpAny (model prog w) A (pyNext (.ref it)) Q E s:=by
 obtain ⟨o,ho,hc,hd⟩:=id hit
 obtain ⟨ol,hol,_,nl,hdl⟩:=hl
 exact Zg5 hit.typeIs F.slot_tuple_iterator_next F.entry_tuple_iterator_next (F.args_tuple_iterator_next_1 _) (Zl5 q ho hd hol hdl hx) hQ
end
end DQ
end
section
namespace L2
open PySem PySem.Spec PyProof.Rows
noncomputable abbrev Key:=Sum Int Str
noncomputable def Zl6:Key->Value->Bool
 | .inl k,v=>Value.isInt k v
 | .inr x,v=>Value.isStrOf x v
noncomputable def Zsb (w:World):Key->Int
 | .inl k=>hashInt k
 | .inr x=>hashStr w x
theorem ZN: ∀ {k:Key} {v:Value},Zl6 k v=true->(∃ i t,k=Sum.inl i/\v=Value.int i t)\/(∃ x t,k=Sum.inr x/\v=Value.str x t)
 | .inl i,v,h=>by
  obtain ⟨t,e⟩:=Value.isInt_shape (k:=i) (v:=v) h
  exact .inl ⟨i,t,rfl,e⟩
 | .inr x,v,h=>by
  obtain ⟨t,e⟩:=Value.isStrOf_shape (x:=x) (v:=v) h
  exact .inr ⟨x,t,rfl,e⟩
theorem Zl7 (a b:Int):decide ((Sum.inl a:Key)=Sum.inl b)=(a == b):=by
 by_cases e:a=b
 ·subst e;simp
 ·have h: ¬ (Sum.inl a:Key)=Sum.inl b:=fun q=>e (Sum.inl.inj q)
  rw[decide_eq_false h]
  exact (beq_eq_false_iff_ne.mpr e).symm
theorem Zl8 (a b:Str):decide ((Sum.inr a:Key)=Sum.inr b)=decide (a=b):=by
 by_cases e:a=b
 ·subst e;simp
 ·have h: ¬ (Sum.inr a:Key)=Sum.inr b:=fun q=>e (Sum.inr.inj q)
  rw[decide_eq_false h,decide_eq_false e]
theorem Zl9 (a:Int) (b:Str):decide ((Sum.inl a:Key)=Sum.inr b)=false:=decide_eq_false (fun q=>nomatch q)
theorem Zma (a:Str) (b:Int):decide ((Sum.inr a:Key)=Sum.inl b)=false:=decide_eq_false (fun q=>nomatch q)
noncomputable def Zg8 (prog:Program) (w:World):PySem.KeyKind prog w Key where
 is:=Zl6
 hash:=Zsb w
 inj:=fun v a b ha hb=>by
  rcases ZN ha with ⟨i,t,rfl,rfl⟩ | ⟨x,t,rfl,rfl⟩
  ·rcases ZN hb with ⟨j,u,rfl,e⟩ | ⟨y,u,rfl,e⟩
   ·injection e with e1 _;rw[e1]
   ·exact nomatch e
  ·rcases ZN hb with ⟨j,u,rfl,e⟩ | ⟨y,u,rfl,e⟩
   ·exact nomatch e
   ·injection e with e1 _;rw[e1]
 byValue:=fun k v h=>by
  rcases ZN h with ⟨i,t,rfl,rfl⟩ | ⟨x,t,rfl,rfl⟩<;>rfl
 pyHash:=fun hv h=>by
  rcases ZN hv with ⟨i,t,rfl,rfl⟩ | ⟨x,t,rfl,rfl⟩
  ·exact wpAny_pyHash_int h
  ·exact wpAny_pyHash_str h
 eqBool:=fun hu hv h=>by
  rcases ZN hu with ⟨i,t,rfl,rfl⟩ | ⟨x,t,rfl,rfl⟩
  ·rcases ZN hv with ⟨j,u,rfl,rfl⟩ | ⟨y,u,rfl,rfl⟩
   ·rw[Zl7] at h;exact wpAny_eqBool_int h
   ·rw[Zl9] at h;exact SeqAt.EqAt.int_str i t y u _ _ _ _ h
  ·rcases ZN hv with ⟨j,u,rfl,rfl⟩ | ⟨y,u,rfl,rfl⟩
   ·rw[Zma] at h;exact SeqAt.EqAt.str_int x t j u _ _ _ _ h
   ·rw[Zl8] at h;exact wpAny_eqBool_str h
 «strs» :=fun k x t v h=>by
  rcases ZN h with ⟨i,u,rfl,e⟩ | ⟨y,u,rfl,e⟩
  ·exact nomatch e
  ·injection e with e1 _
   subst e1
   cases v<;>rfl
end L2
namespace L2
open PySem PySem.Spec PyProof.Rows
inductive V where
 |non | bl (b:Bool) | int (i:Int) | str (x:Str) | byt (b:Array UInt8) | flt (b:UInt64) | ref (a:Addr) | ty (n:String)
 deriving DecidableEq
noncomputable def Zaf:V->Value->Prop
 | .non,u=>u=Value.none
 | .bl b,u=>u=Value.bool b
 | .int i,u=> ∃ t,u=Value.int i t
 | .str x,u=> ∃ t,u=Value.str x t
 | .byt b,u=> ∃ t,u=Value.bytes b t
 | .flt b,u=> ∃ t,u=Value.float b t
 | .ref a,u=>u=Value.ref a
 | .ty n,u=>u=Value.type n
noncomputable abbrev ZZ:List V->List Value->Prop:=Paired Zaf
theorem ZZ.length {xs:List V} {us:List Value} (r:ZZ xs us):xs.length=us.length:=Paired.length r
theorem ZZ.get: ∀ {xs:List V} {us:List Value} {i:Nat} {x:V},ZZ xs us->xs[i]?=some x-> ∃ u,us[i]?=some u/\Zaf x u
 |_,_,_,_,.nil,e=>by simp at e
 |_,_,0,_,.cons r _,e=>by simp at e;subst e;exact ⟨_,rfl,r⟩
 |_,_,i + 1,x,.cons _ t,e=>by
  obtain ⟨u,h1,h2⟩:=ZZ.get (i:=i) (x:=x) t (by simpa using e)
  exact ⟨u,by simpa using h1,h2⟩
theorem ZZ.set {x:V} {u:Value} (r:Zaf x u): ∀ {xs:List V} {us:List Value} (i:Nat),ZZ xs us->ZZ (xs.set i x) (us.set i u)
 |_,_,_,.nil=> .nil
 |_,_,0,.cons _ t=> .cons r t
 |_,_,i + 1,.cons q t=> .cons q (ZZ.set r i t)
theorem ZZ.append: ∀ {xs ys:List V} {us ws:List Value},ZZ xs us->ZZ ys ws->ZZ (xs ++ ys) (us ++ ws)
 |_,_,_,_,.nil,s=>s
 |_,_,_,_,.cons r t,s=> .cons r (ZZ.append t s)
theorem ZZ.take: ∀ {xs:List V} {us:List Value} (n:Nat),ZZ xs us->ZZ (xs.take n) (us.take n)
 |_,_,0,_=> .nil
 |_,_,_ + 1,.nil=> .nil
 |_,_,n + 1,.cons r t=> .cons r (ZZ.take n t)
theorem ZZ.drop: ∀ {xs:List V} {us:List Value} (n:Nat),ZZ xs us->ZZ (xs.drop n) (us.drop n)
 |_,_,0,r=>r
 |_,_,_ + 1,.nil=> .nil
 |_,_,n + 1,.cons _ t=>ZZ.drop n t
noncomputable def ZiJ:Option V->Option Value->Prop
 |some v,some u=>Zaf v u
 |none,none=>True
 |_,_=>False
noncomputable def KV {κ:Type}:List (κ × V)->List (κ × Value)->Prop:=Paired fun (p:κ × V) (q:κ × Value)=>p.1=q.1/\Zaf p.2 q.2
noncomputable def kV:Key->V
 | .inl i=> .int i
 | .inr x=> .str x
inductive HO where
 |lst (xs:List V)
 |tup (xs:List V)
 |dK (kvs:List (Key × V)) | dT (kvs:List (List Key × V))
 |set (S:Int->Bool) (n:Nat)
 |ins (C dx:Addr) (fs:List (Str × V))
 |own (x:Addr)
 |xd (fs:List (Str × V))
 |met (f x:Addr)
 |rng (lo hi:Int)
 |frz (o:Obj) (u:HO)
 |tbl (ps:Array Value)
 |ext (φ:Heap->Prop)
noncomputable abbrev Hp:=Addr->Option HO
noncomputable def upd (H:Hp) (a:Addr) (o:HO):Hp:=fun b=>if b=a then some o else H b
theorem Zn {H:Hp} {a:Addr} {o:HO}:upd H a o a=some o:=by unfold upd;rw[if_pos rfl]
theorem Zo {H:Hp} {a b:Addr} {o:HO} (h:b≠a):upd H a o b=H b:=by unfold upd;rw[if_neg h]
theorem ZK {H:Hp} {a b:Addr} {o:HO} (h:H a=some o) (h':H b=none):a≠b:=by
 intro e;subst e;rw[h] at h';cases h'
section
variable (P:Program) (w:World)
noncomputable def Zbw (H:Hp) (h:Heap) (a:Addr):HO->Prop
 | .lst xs=>xs.length<=sizeLine/\ ∃ (its:List Value) (n:Nat),ZZ xs its/\h.get? a=some { cls:= .type "list",data:= .seq its.toArray n }
 | .tup xs=>xs.length<=sizeLine/\ ∃ its:List Value,ZZ xs its/\IsTup h a its.toArray
 | .dK kvs=>kvs.length<=sizeLine/\(a == sysModules)=false/\ ∃ vs,KV kvs vs/\h.DictOf (Zg8 P w) a vs
 | .dT kvs=>kvs.length<=sizeLine/\(a == sysModules)=false/\ ∃ xs:List (List Key × Addr × Value),
   Paired (fun (p:List Key × V) (q:List Key × Addr × Value)=>p.1=q.1/\H q.2.1=some (.tup (p.1.map kV))/\Zaf p.2 q.2.2) kvs xs/\
   ∃ o es ep,h.get? a=some o/\o.ExactDict/\o.data= .dict es ep/\es.toList=xs.map (entryOfKey (tupleKind (Zg8 P w)))/\(xs.map (·.1)).Nodup
 | .set S n=>h.SetOf (intKind P w) a S n
 | .ins C dx fs=>H dx=some (.own a)/\fs.length<=1000/\dx≠a/\h.get? a=some (PySem.W.instObj C dx)/\
   ∃ mA,h.Ns1 dx mA/\(∀ f,ZiJ (fs.lookup f) (mA f))/\PySem.Within mA (fs.map (·.1))
 | .own _=> ∃ o,h.get? a=some o
 | .xd fs=> ∃ mA,h.Ns1 a mA/\ ∀ f,ZiJ (fs.lookup f) (mA f)
 | .rng lo hi=> ∃ t u v,h.get? a=some { cls:= .type "range",data:= .fields #[.int lo t,.int hi u,.int 1 v] }
 | .frz o u=>h.get? a=some o/\Zbw H h a u
 | .tbl ps=>h.get? a=some { cls:= .none,data:= .fields ps }
 | .met f x=>h.get? a=some (PySem.W.methodObj (.ref f) (.ref x))
 | .ext φ=>φ h/\(∃ o,h.get? a=some o)/\ ∀ h1 h2:Heap,φ h1->(∀ o,h1.get? a=some o->h2.get? a=some o)->φ h2
noncomputable def HOk (H:Hp) (h:Heap):Prop:= ∀ a o,H a=some o->Zbw P w H h a o
end
section
variable {P:Program} {w:World} {H H':Hp} {h h':Heap} {a:Addr} {o:HO}
theorem Zbw.lt (x:Zbw P w H h a o):a < h.objs.size:=by
 cases o with
 |lst xs=>obtain ⟨_,_,_,_,e⟩:=x;exact Heap.lt_size e
 |tup xs=>obtain ⟨_,_,_,p⟩:=x;exact p.lt
 |dK kvs=>obtain ⟨_,_,_,_,o,_,_,e,_⟩:=x;exact Heap.lt_size e
 |dT kvs=>obtain ⟨_,_,_,_,o,_,_,e,_⟩:=x;exact Heap.lt_size e
 |set S n=>obtain ⟨o,_,_,_,e,_⟩:=x;exact Heap.lt_size e
 |ins C dx fs=>obtain ⟨_,_,_,e,_⟩:=x;exact Heap.lt_size e
 |own y=>obtain ⟨_,e⟩:=x;exact Heap.lt_size e
 |xd fs=>obtain ⟨_,⟨_,_,_,e,_⟩,_⟩:=x;exact Heap.lt_size e
 |rng lo hi=>obtain ⟨_,_,_,e⟩:=x;exact Heap.lt_size e
 |frz ob u=>obtain ⟨e,_⟩:=x;exact Heap.lt_size e
 |tbl ps=>exact Heap.lt_size (show h.get? a=some _ from x)
 |met f y=>exact Heap.lt_size (show h.get? a=some _ from x)
 |ext φ=>obtain ⟨_,⟨_,e⟩,_⟩:=x;exact Heap.lt_size e
theorem Paired.mapP {α β:Type} {F G:α->β->Prop}: ∀ {l₁:List α} {l₂:List β},Paired F l₁ l₂->(∀ a b,F a b->G a b)->Paired G l₁ l₂
 |_,_,.nil,_=> .nil
 |_,_,.cons r t,f=> .cons (f _ _ r) (Paired.mapP t f)
theorem Zbw.stay (x:Zbw P w H h a o) (k: ∀ b u,(b=a\/H b=some (.own a))->h.get? b=some u->h'.get? b=some u)
  (ho: ∀ b,H b=some (.own a)->H' b=some (.own a)) (ht: ∀ b xs,H b=some (.tup xs)->H' b=some (.tup xs)):Zbw P w H' h' a o:=by
 induction o with
 |lst xs=>obtain ⟨z,its,n,r,e⟩:=x;exact ⟨z,its,n,r,k _ _ (.inl rfl) e⟩
 |tup xs=>obtain ⟨z,its,r,ob,e,c⟩:=x;exact ⟨z,its,r,ob,k _ _ (.inl rfl) e,c⟩
 |dK kvs=>obtain ⟨z,y,vs,r,ob,es,ep,e,c⟩:=x;exact ⟨z,y,vs,r,ob,es,ep,k _ _ (.inl rfl) e,c⟩
 |dT kvs=>
  obtain ⟨z,y,xs,r,ob,es,ep,e,c⟩:=x
  exact ⟨z,y,xs,Paired.mapP r fun p q z=>⟨z.1,ht _ _ z.2.1,z.2.2⟩,ob,es,ep,k _ _ (.inl rfl) e,c⟩
 |set S n=>obtain ⟨ob,es,ep,t,e,c⟩:=x;exact ⟨ob,es,ep,t,k _ _ (.inl rfl) e,c⟩
 |ins C dx fs=>
  obtain ⟨d,z,ne,e,mA,⟨od,es,ep,e2,c⟩,r⟩:=x
  exact ⟨ho _ d,z,ne,k _ _ (.inl rfl) e,mA,⟨od,es,ep,k _ _ (.inr d) e2,c⟩,r⟩
 |own y=>obtain ⟨ob,e⟩:=x;exact ⟨ob,k _ _ (.inl rfl) e⟩
 |xd fs=>obtain ⟨mA,⟨od,es,ep,e,c⟩,r⟩:=x;exact ⟨mA,⟨od,es,ep,k _ _ (.inl rfl) e,c⟩,r⟩
 |rng lo hi=>obtain ⟨t,u,v,e⟩:=x;exact ⟨t,u,v,k _ _ (.inl rfl) e⟩
 |frz ob u ih=>obtain ⟨e,q⟩:=x;exact ⟨k _ _ (.inl rfl) e,ih q⟩
 |tbl ps=>
  have e:h.get? a=some { cls:= .none,data:= .fields ps }:=x
  show h'.get? a=some { cls:= .none,data:= .fields ps }
  exact k a _ (.inl rfl) e
 |met f y=>
  have e:h.get? a=some (PySem.W.methodObj (.ref f) (.ref y)):=x
  show h'.get? a=some (PySem.W.methodObj (.ref f) (.ref y))
  exact k a _ (.inl rfl) e
 |ext φ=>obtain ⟨p,⟨o,e⟩,st⟩:=x;exact ⟨st _ _ p fun o q=>k _ _ (.inl rfl) q,⟨o,k _ _ (.inl rfl) e⟩,st⟩
theorem HOk.lt (x:HOk P w H h) (e:H a=some o):a < h.objs.size:=(x a o e).lt
theorem HOk.fresh (x:HOk P w H h) (e:h.objs.size<=a):H a=none:=by
 cases q:H a with
 |none=>rfl
 |some u=>exact absurd (Nat.lt_of_lt_of_le (x.lt q) e) (Nat.lt_irrefl _)
theorem HOk.kept (x:HOk P w H h) (k: ∀ b u,h.get? b=some u->h'.get? b=some u):HOk P w H h':=fun a o e=>
 (x a o e).stay (fun b u _ q=>k b u q) (fun _ q=>q) fun _ _ q=>q
theorem HOk.laid (x:HOk P w H h) (k: ∀ b u,h.get? b=some u->h'.get? b=some u) (hp:h.objs.size<=a) (new:Zbw P w (upd H a o) h' a o):HOk P w (upd H a o) h':=fun b u e=>by
 have hn:=x.fresh hp
 by_cases hb:b=a
 ·subst hb;rw[Zn] at e;cases e;exact new
 ·rw[Zo hb] at e
  exact (x b u e).stay (fun c v _ q=>k c v q) (fun c q=>by rw[Zo (ZK q hn)];exact q) fun c xs q=>by rw[Zo (ZK q hn)];exact q
end
noncomputable def Rd (H:Hp) (a:Addr) (u:HO):Prop:=H a=some u\/ ∃ o,H a=some (.frz o u)
theorem Rd.ok {P:Program} {w:World} {H:Hp} {h:Heap} {a:Addr} {u:HO} (r:Rd H a u) (x:HOk P w H h):Zbw P w H h a u:=by
 rcases r with r | ⟨o,r⟩
 ·exact x a u r
 ·obtain ⟨_,q⟩:=x a _ r
  exact q
noncomputable def Mut:Option HO->Prop
 |some (.lst _)=>True
 |some (.dK _)=>True
 |some (.dT _)=>True
 |some (.set _ _)=>True
 |some (.ins _ _ _)=>True
 |some (.ext _)=>True
 |_=>False
section
variable {P:Program} {w:World} {H:Hp} {h h':Heap} {x e:Addr} {o':HO}
theorem HOk.write (ok:HOk P w H h) (mu:Mut (H x)) (he:e=x\/H e=some (.own x)) (k: ∀ b u,b≠e->h.get? b=some u->h'.get? b=some u) (heo: ∃ u,h'.get? e=some u)
  (new:Zbw P w (upd H x o') h' x o'):HOk P w (upd H x o') h':=fun b u q=>by
 have nown: ∀ c y,H c=some (.own y)->c≠x:=fun c y r z=>by subst z;rw[r] at mu;exact mu
 have ntup: ∀ c xs,H c=some (.tup xs)->c≠x:=fun c xs r z=>by subst z;rw[r] at mu;exact mu
 by_cases hb:b=x
 ·subst hb;rw[Zn] at q;cases q;exact new
 ·rw[Zo hb] at q
  by_cases hbe:b=e
  ·have q':H b=some (.own x):=by
    rcases he with z | z
    ·exact absurd (hbe.trans z) hb
    ·rw[hbe];exact z
   rw[q] at q';cases q'
   obtain ⟨v,hv⟩:=heo
   exact ⟨v,by rw[hbe];exact hv⟩
  ·refine (ok b u q).stay (fun c v hc r=>k c v ?_ r) (fun c r=>by rw[Zo (nown c b r)];exact r) fun c xs r=>by rw[Zo (ntup c xs r)];exact r
   rcases hc with rfl | hc
   ·exact hbe
   ·rintro rfl
    rcases he with z | z
    ·exact nown c b hc z
    ·rw[hc] at z;cases z;exact hb rfl
end
structure Un (fs ex:List Addr) (H H':Hp) (h h':Heap):Prop where
 keep: ∀ b o,h.get? b=some o->H b=none->b ∉ fs->b ∉ ex->h'.get? b=some o
 slot: ∀ b o,h.get? b=some o->H b=none->b∈fs->b ∉ ex-> ∃ sl,h'.get? b=some { o with slots:=sl }
 free: ∀ b o,h.get? b=some o->H b=none->b ∉ ex->H' b=none
 there: ∀ b o,h.get? b=some o->b ∉ ex-> ∃ o',h'.get? b=some o'
 tups: ∀ b xs,H b=some (.tup xs)->H' b=some (.tup xs)
 frzs: ∀ b o u,H b=some (.frz o u)->H' b=some (.frz o u)
 tbls: ∀ b ps,H b=some (.tbl ps)-> ∃ more,H' b=some (.tbl (ps ++ more))
section
variable {fs fs' ex ex':List Addr} {H H1 H2:Hp} {h h1 h2 h':Heap} {a x e:Addr} {o:HO}
theorem Un.any (u:Un fs ex H H1 h h1) {b:Addr} {ob:Obj} (q:h.get? b=some ob) (n:H b=none) (hx:b ∉ ex): ∃ sl,h1.get? b=some { ob with slots:=sl }:=by
 by_cases hb:b∈fs
 ·exact u.slot b ob q n hb hx
 ·exact ⟨ob.slots,u.keep b ob q n hb hx⟩
theorem Un.kept (k: ∀ b u,h.get? b=some u->h'.get? b=some u):Un fs ex H H h h':=
 ⟨fun b ob q _ _ _=>k b ob q,fun b ob q _ _ _=>⟨ob.slots,k b ob q⟩,fun _ _ _ n _=>n,fun b ob q _=>⟨ob,k b ob q⟩,fun _ _ q=>q,fun _ _ _ q=>q,fun _ ps q=>⟨#[],by rw[q];simp⟩⟩
theorem Un.refl:Un fs ex H H h h:=Un.kept fun _ _ q=>q
theorem Un.laid (k: ∀ b u,h.get? b=some u->h'.get? b=some u) (hp:h.objs.size<=a) (hn:H a=none):Un fs ex H (upd H a o) h h' where
 keep:=fun b u q _ _ _=>k b u q
 slot:=fun b u q _ _ _=>⟨u.slots,k b u q⟩
 free:=fun b u q n _=>by rw[Zo (Nat.ne_of_lt (Nat.lt_of_lt_of_le (Heap.lt_size q) hp))];exact n
 there:=fun b u q _=>⟨u,k b u q⟩
 tups:=fun b xs q=>by rw[Zo (ZK q hn)];exact q
 frzs:=fun b u xs q=>by rw[Zo (ZK q hn)];exact q
 tbls:=fun b ps q=>⟨#[],by rw[Zo (ZK q hn),q];simp⟩
theorem Un.write (mu:Mut (H x)) (he:e=x\/H e=some (.own x)) (k: ∀ b u,b≠e->h.get? b=some u->h'.get? b=some u) (heo: ∃ u,h'.get? e=some u):Un fs ex H (upd H x o) h h':=by
 have hx: ∀ b,H b=none->b≠x:=fun b n z=>by subst z;rw[n] at mu;exact mu
 have hb: ∀ b,H b=none->b≠e:=fun b n z=>by
  subst z
  rcases he with r | r
  ·exact hx b n r
  ·rw[n] at r;cases r
 have hm: ∀ b u,H b=some u-> ¬ Mut (some u)->b≠x:=fun b u q nm z=>by subst z;rw[q] at mu;exact nm mu
 refine ⟨fun b u q n _ _=>k b u (hb b n) q,fun b u q n _ _=>⟨u.slots,k b u (hb b n) q⟩,fun b u q n _=>by rw[Zo (hx b n)];exact n,fun b u q _=> ?_,
  fun b xs q=>by rw[Zo (hm b _ q fun z=>z)];exact q,fun b u xs q=>by rw[Zo (hm b _ q fun z=>z)];exact q,fun b ps q=>⟨#[],by rw[Zo (hm b _ q fun z=>z),q];simp⟩⟩
 by_cases hbe:b=e
 ·subst hbe;exact heo
 ·exact ⟨u,k b u hbe q⟩
end
noncomputable def trk (h:Heap) (H:Hp):List Addr:=(List.range h.objs.size).filter fun a=>(H a).isSome
noncomputable def ZiK (h:Heap) (H:Hp):Heap:=PySem.W.hideAll h (trk h H)
theorem Zg9 (h:Heap) (H:Hp):(ZiK h H).objs.size=h.objs.size:=PySem.W.hideAll_size _ _
theorem Zfz {h:Heap} {H:Hp} {b:Addr} {o:Obj} (e:h.get? b=some o) (n:H b=none):(ZiK h H).get? b=some o:=
 PySem.W.hideAll_get _ e fun hm=>by
  have q:(H b).isSome=true:=(List.mem_filter.mp hm).2
  rw[n] at q;simp at q
theorem Zha {h:Heap} {H:Hp} {b:Addr} {o:Obj} (e:(ZiK h H).get? b=some o):h.get? b=some o/\H b=none:=by
 have e':h.get? b=some o:=PySem.W.of_hideAll (trk h H) e
 refine ⟨e',?_⟩
 cases q:H b with
 |none=>rfl
 |some x=>
  have hm:b∈trk h H:=List.mem_filter.mpr ⟨List.mem_range.mpr (Heap.lt_size e'),by simp[q]⟩
  have z:(ZiK h H).get? b=none:=PySem.W.hideAll_none (trk h H) hm
  rw[z] at e;cases e
end L2
namespace L2
open PySem PySem.Spec PyProof.Rows
structure Mod (K:PySem.W.Frag) (mg:Str->Option Value) (base:Heap):Prop where
 kin:K.In base
 glob:base.Ns mainGlobals mg
 blt: ∃ mb,base.Ns builtinsNs mb/\ ∀ x:Str,x≠"__name__"->mb x=bootBuiltins x
 nolimit:base.NoLimit
structure Cx where
 prog:Program
 w:World
 K:PySem.W.Frag
 mg:Str->Option Value
 base:Heap
 A:Around
 N:List Str
 s₀:Shared
 H₀:Hp
 env:Env
 outer:List Env
 stack:List Env
 ex:List Addr
 fn:Str->Bool
 calm:Bool
 pn:List (Addr × Obj)
 xe:Value->Shared->Prop
 fxs:Option (List Bool × List (Option V))
noncomputable def frs (l:List Env):List Addr:=l.filterMap (·.frame)
noncomputable abbrev Cx.fs (X:Cx):List Addr:=frs X.outer
noncomputable def Vis (sc:Scope) (x:Str):Prop:=sc.names.lookup x=some .local\/sc.names.lookup x=some .cell\/sc.names.lookup x=some .free
noncomputable def Loc (sc:Scope) (x:Str):Prop:=sc.names.lookup x=some .local\/sc.names.lookup x=some .cell
noncomputable def Zsc (env:Env) (h:Heap) (m:Str->Option Value) (x:Str) (u:Value):Prop:=
 (env.kindOf x=some .local/\m x=some u)\/((env.kindOf x=some .cell\/env.kindOf x=some .free)/\ ∃ c,env.cells.lookup x=some c/\h.IsCell c (some u))
structure Cx.Ok (X:Cx):Prop where
 mod:Mod X.K X.mg X.base
 kind:X.env.scope.kind= .function
 glob:X.env.globals=mainGlobals
 blt:X.env.builtins=builtinsNs
 above:X.s₀.heap.objs.size<=X.env.locals
 inj: ∀ x y c,X.env.cells.lookup x=some c->X.env.cells.lookup y=some c->x=y
 has: ∀ x,(X.env.kindOf x=some .cell\/X.env.kindOf x=some .free)-> ∃ c,X.env.cells.lookup x=some c
 cab: ∀ x c,X.fn x=true->X.env.cells.lookup x=some c->X.s₀.heap.objs.size<=c
 hd:X.calm=true->X.A.handled=none
 frames:X.A.frames=some X.stack
 stk:X.stack=X.outer\/(X.stack=X.env :: X.outer/\X.env.frame=some X.env.locals)
 exf: ∀ b∈X.ex,b≠X.env.locals/\ ∀ x c,X.env.cells.lookup x=some c->c≠b
 bs: ∀ b o,X.base.get? b=some o->X.s₀.heap.get? b=some o/\X.H₀ b=none
 bsz:X.base.objs.size<=X.s₀.heap.objs.size
 noex: ∀ b o,X.base.get? b=some o->b ∉ X.ex
 exfs: ∀ b∈X.ex,b ∉ X.fs
 funs:X.s₀.heap.FunFrames X.base X.outer
 frf: ∀ b∈X.fs,X.H₀ b=none
noncomputable def Qd (A:Around) (H:Hp):Prop:=A.handled=none\/ ∃ ea oe u vs,A.handled=some (.ref ea)/\H ea=some (.frz oe u)/\oe.data= .fields vs/\vs[2]?=some .none
theorem Qd.mono {A:Around} {H H':Hp} (q:Qd A H) (k: ∀ b o u,H b=some (.frz o u)->H' b=some (.frz o u)):Qd A H':=by
 rcases q with q | ⟨ea,oe,u,vs,e1,e2,e3,e4⟩
 ·exact .inl q
 ·exact .inr ⟨ea,oe,u,vs,e1,k _ _ _ e2,e3,e4⟩
noncomputable def Cx.may (X:Cx) (i:Nat):Bool:=match X.fxs with | none=>true | some (W,_)=>W[i]? == some true
noncomputable def Cx.Fx (X:Cx) (σ:List (Option V)):Prop:= ∀ W σ0,X.fxs=some (W,σ0)-> ∀ j:Nat,W[j]?=some false->σ[j]?=σ0[j]?
theorem Cx.Fx.free {X:Cx} {σ:List (Option V)} (h:X.fxs=none):X.Fx σ:=fun W σ0 e=>by rw[h] at e;cases e
theorem Cx.Fx.set {X:Cx} {σ:List (Option V)} {i:Nat} {v:Option V} (h:X.Fx σ) (m:X.may i=true):X.Fx (σ.set i v):=fun W σ0 e j hj=>by
 have ne:i≠j:=fun z=>by
  unfold Cx.may at m
  rw[e,z] at m
  have m':(W[j]? == some true)=true:=m
  rw[hj] at m'
  cases m'
 rw[List.getElem?_set_ne ne]
 exact h W σ0 e j hj
structure Inv (X:Cx) (pins:List (Addr × Obj)) (σ:List (Option V)) (H:Hp) (s:Shared):Prop where
 ok:X.Ok
 os:s.os=X.s₀.os
 bare:AllBare s.gens
 base:Un X.fs X.ex X.H₀ H X.s₀.heap s.heap
 loc: ∃ m,s.heap.Ns X.env.locals m/\ ∀ (i:Nat) (x:Str) (v:V),X.N[i]?=some x->σ[i]?=some (some v)->Vis X.env.scope x-> ∃ u,Zaf v u/\Zsc X.env s.heap m x u
 cell: ∀ x c,X.env.cells.lookup x=some c-> ∃ v,s.heap.IsCell c v
 free:H X.env.locals=none
 freeC: ∀ x c,X.env.cells.lookup x=some c->H c=none
 pin: ∀ p∈X.pn ++ pins,s.heap.get? p.1=some p.2/\H p.1=none/\p.1≠X.env.locals/\p.1 ∉ X.fs/\ ∀ v,p.2.data≠ .cell v
 hok:HOk X.prog X.w H s.heap
 len:σ.length=X.N.length
 qd:Qd X.A H
 fx:X.Fx σ
section
variable {X:Cx} {pins:List (Addr × Obj)} {σ:List (Option V)} {H H':Hp} {s:Shared} {h':Heap}
theorem Cx.Ok.nofr (ok:X.Ok) {b:Addr} {o:Obj} (e:X.base.get? b=some o):b ∉ X.fs:=fun hb=>by
 have:=(ok.funs.mem hb).1
 rw[e] at this;cases this
theorem Inv.bs (I:Inv X pins σ H s): ∀ b o,X.base.get? b=some o->s.heap.get? b=some o/\H b=none:=fun b o e=>
 ⟨I.base.keep b o (I.ok.bs b o e).1 (I.ok.bs b o e).2 (I.ok.nofr e) (I.ok.noex b o e),I.base.free b o (I.ok.bs b o e).1 (I.ok.bs b o e).2 (I.ok.noex b o e)⟩
theorem Inv.qh (I:Inv X pins σ H s):DQ.ZbL X.A s.heap:=by
 rcases I.qd with q | ⟨ea,oe,u,vs,e1,e2,e3,e4⟩
 ·exact .inl q
 ·exact .inr ⟨ea,oe,vs,e1,(I.hok _ _ e2).1,e3,e4⟩
theorem Inv.bk (I:Inv X pins σ H s): ∀ b o,X.base.get? b=some o->s.heap.get? b=some o:=fun b o e=>(I.bs b o e).1
theorem Inv.mod (I:Inv X pins σ H s):Mod X.K X.mg X.base:=I.ok.mod
theorem Inv.kIn (I:Inv X pins σ H s):X.K.In s.heap:=I.ok.mod.kin.keeps I.bk
theorem Inv.fr (I:Inv X pins σ H s): ∃ m,Fr X.base X.env.locals s.heap m:=
 let ⟨m,hn,_⟩:=I.loc
 ⟨m,hn,I.bk,Nat.le_trans I.ok.bsz I.ok.above⟩
theorem Inv.lt (I:Inv X pins σ H s):X.env.locals < s.heap.objs.size:=let ⟨_,hn,_⟩:=I.loc;hn.lt
theorem Inv.sz (I:Inv X pins σ H s):X.s₀.heap.objs.size<=s.heap.objs.size:=Nat.le_trans I.ok.above (Nat.le_of_lt I.lt)
theorem Inv.nofs (I:Inv X pins σ H s) {a:Addr} (h:s.heap.objs.size<=a):a ∉ X.fs:=fun hb=>by
 obtain ⟨_,o,ho,_⟩:=I.ok.funs.mem hb
 exact absurd (Nat.lt_of_lt_of_le (Heap.lt_size ho) (Nat.le_trans I.sz h)) (Nat.lt_irrefl _)
theorem Inv.cne (I:Inv X pins σ H s): ∀ x c,X.env.cells.lookup x=some c->c≠X.env.locals:=fun x c e z=>by
 obtain ⟨v,o,ho,hd⟩:=I.cell x c e
 obtain ⟨m,⟨o',es,ep,ho',hd',_⟩,_⟩:=I.loc
 rw[z,ho'] at ho;cases ho;rw[hd'] at hd;cases hd
theorem Inv.funs (I:Inv X pins σ H s):s.heap.FunFrames X.base X.outer:=by
 have all: ∀ (l:List Env),(∀ b∈frs l,b∈X.fs)->X.s₀.heap.FunFrames X.base l->s.heap.FunFrames X.base l:=by
  intro l
  induction l with
  |nil=>intro _ _;trivial
  |cons env r ih=>
   intro hs hl
   obtain ⟨hk,⟨L,o,hf,hn,ho,hd⟩,hr⟩:=hl
   have hL:L∈X.fs:=hs L (by unfold frs;rw[List.filterMap_cons,hf];exact List.mem_cons_self)
   obtain ⟨sl,e⟩:=I.base.slot L o ho (I.ok.frf L hL) hL fun z=>I.ok.exfs L z hL
   exact ⟨hk,⟨L,_,hf,hn,e,hd⟩,ih (fun b hb=>hs b (by unfold frs;rw[List.filterMap_cons,hf];exact List.mem_cons_of_mem _ hb)) hr⟩
 exact all X.outer (fun _ hb=>hb) I.ok.funs
theorem Inv.stack (I:Inv X pins σ H s):s.heap.FunFrames X.base X.stack:=by
 rcases I.ok.stk with e | ⟨e,hf⟩
 ·rw[e];exact I.funs
 ·rw[e]
  obtain ⟨m,hn,_⟩:=I.loc
  refine .cons (by rw[I.ok.kind];decide) hf hn ?_ I.funs
  exact Heap.get?_none_of_le (Nat.le_trans I.ok.bsz I.ok.above)
theorem Inv.stkSub (I:Inv X pins σ H s): ∀ b∈frs X.stack,b∈X.env.locals :: X.fs:=fun b hb=>by
 rcases I.ok.stk with e | ⟨e,hf⟩
 ·rw[e] at hb;exact List.mem_cons_of_mem _ hb
 ·rw[e] at hb
  unfold frs at hb
  rw[List.filterMap_cons,hf] at hb
  exact hb
theorem Inv.stkFree (I:Inv X pins σ H s): ∀ b∈frs X.stack,H b=none:=fun b hb=>by
 rcases List.mem_cons.mp (I.stkSub b hb) with e | hb
 ·rw[e];exact I.free
 ·obtain ⟨_,o,ho,_⟩:=I.ok.funs.mem hb
  exact I.base.free b o ho (I.ok.frf b hb) fun z=>I.ok.exfs b z hb
theorem Inv.step {g':Array GenState} {t':Nat} {d':Drawn} {ch:List Addr} (I:Inv X pins σ H s)
  (hch: ∀ b∈ch,(b∈X.ex\/X.s₀.heap.objs.size<=b)/\b≠X.env.locals/\(∀ x c,X.env.cells.lookup x=some c->c≠b)/\ ∀ p∈X.pn ++ pins,p.1≠b)
  (keep: ∀ b o,b≠X.env.locals->b ∉ X.fs->b ∉ ch->s.heap.get? b=some o->H b=none->h'.get? b=some o)
  (slot: ∀ b o,b≠X.env.locals->b∈X.fs->b ∉ ch->s.heap.get? b=some o->H b=none-> ∃ sl,h'.get? b=some { o with slots:=sl }) (free: ∀ b o,b ∉ ch->s.heap.get? b=some o->H b=none->H' b=none)
  (there: ∀ b o,b ∉ ch->s.heap.get? b=some o-> ∃ o',h'.get? b=some o')
  (tups: ∀ b xs,H b=some (.tup xs)->H' b=some (.tup xs)) (frzs: ∀ b o u,H b=some (.frz o u)->H' b=some (.frz o u)) (tbls: ∀ b ps,H b=some (.tbl ps)-> ∃ more,H' b=some (.tbl (ps ++ more)))
  (ns: ∀ m,s.heap.Ns X.env.locals m->h'.Ns X.env.locals m) (hok:HOk X.prog X.w H' h') (hg:AllBare g'):
  Inv X pins σ H' { s with heap:=h',gens:=g',drawn:=d',toks:=t' }:=by
 have neL: ∀ b o,X.s₀.heap.get? b=some o->b≠X.env.locals:=fun b o e=>Nat.ne_of_lt (Nat.lt_of_lt_of_le (Heap.lt_size e) I.ok.above)
 have neC: ∀ b o,X.s₀.heap.get? b=some o->b ∉ X.ex->b ∉ ch:=fun b o e hx hb=>by
  rcases (hch b hb).1 with z | z
  ·exact hx z
  ·exact absurd (Nat.lt_of_lt_of_le (Heap.lt_size e) z) (Nat.lt_irrefl _)
 have cellK: ∀ x c,X.env.cells.lookup x=some c-> ∀ v,s.heap.IsCell c v->h'.IsCell c v:=fun x c e v ⟨o,ho,hd⟩=>by
  have nch:c ∉ ch:=fun z=>(hch c z).2.2.1 x c e rfl
  by_cases hc:c∈X.fs
  ·obtain ⟨sl,q⟩:=slot c o (I.cne x c e) hc nch ho (I.freeC x c e)
   exact ⟨_,q,hd⟩
  ·exact ⟨o,keep c o (I.cne x c e) hc nch ho (I.freeC x c e),hd⟩
 refine ⟨I.ok,I.os,hg,⟨fun b o e n hb hx=> ?_,fun b o e n hb hx=> ?_,fun b o e n hx=> ?_,fun b o e hx=> ?_,fun b xs e=>tups b xs (I.base.tups b xs e),fun b o xs e=>frzs b o xs (I.base.frzs b o xs e),fun b ps e=> ?_⟩,?_,fun x c e=> ?_,?_,fun x c e=> ?_,fun p hp=> ?_,hok,I.len,I.qd.mono frzs,I.fx⟩
 ·exact keep b o (neL b o e) hb (neC b o e hx) (I.base.keep b o e n hb hx) (I.base.free b o e n hx)
 ·obtain ⟨sl,e1⟩:=I.base.slot b o e n hb hx
  obtain ⟨sl',e2⟩:=slot b _ (neL b o e) hb (neC b o e hx) e1 (I.base.free b o e n hx)
  exact ⟨sl',e2⟩
 ·obtain ⟨o',e1⟩:=I.base.there b o e hx
  exact free b o' (neC b o e hx) e1 (I.base.free b o e n hx)
 ·obtain ⟨o',e1⟩:=I.base.there b o e hx
  exact there b o' (neC b o e hx) e1
 ·obtain ⟨m1,e1⟩:=I.base.tbls b ps e
  obtain ⟨m2,e2⟩:=tbls b _ e1
  exact ⟨m1 ++ m2,by rw[e2,Array.append_assoc]⟩
 ·obtain ⟨m,hn,hl⟩:=I.loc
  refine ⟨m,ns m hn,fun i x v e1 e2 e3=> ?_⟩
  obtain ⟨u,r,l⟩:=hl i x v e1 e2 e3
  refine ⟨u,r,?_⟩
  rcases l with l | ⟨k,c,e,z⟩
  ·exact .inl l
  ·exact .inr ⟨k,c,e,cellK x c e _ z⟩
 ·obtain ⟨v,z⟩:=I.cell x c e
  exact ⟨v,cellK x c e v z⟩
 ·obtain ⟨m,⟨o,_,_,ho,_⟩,_⟩:=I.loc
  exact free _ o (fun z=>(hch _ z).2.1 rfl) ho I.free
 ·obtain ⟨v,o,ho,hd⟩:=I.cell x c e
  exact free c o (fun z=>(hch c z).2.2.1 x c e rfl) ho (I.freeC x c e)
 ·obtain ⟨e,n,ne,nf,d⟩:=I.pin p hp
  have nch:p.1 ∉ ch:=fun z=>(hch p.1 z).2.2.2 p hp rfl
  exact ⟨keep p.1 p.2 ne nf nch e n,free p.1 p.2 nch e n,ne,nf,d⟩
theorem Inv.un {t':Nat} (I:Inv X pins σ H s) (u:Un X.fs [] H H' s.heap h') (hok:HOk X.prog X.w H' h'):Inv X pins σ H' { s with heap:=h',toks:=t' }:=by
 obtain ⟨m,⟨o,es,ep,ho,r⟩,_⟩:=id I.loc
 obtain ⟨sl,hL⟩:=u.any ho I.free (by simp)
 exact I.step (g':=s.gens) (d':=s.drawn) (ch:=[]) (fun _ z=>nomatch z) (fun b o _ hb _ e n=>u.keep b o e n hb (by simp)) (fun b o _ hb _ e n=>u.slot b o e n hb (by simp)) (fun b o _ e n=>u.free b o e n (by simp)) (fun b o _ e=>u.there b o e (by simp)) u.tups u.frzs u.tbls (fun m' hm=>by
  obtain ⟨o',es',ep',ho',r'⟩:=hm
  rw[ho] at ho';cases ho'
  exact ⟨_,es',ep',hL,r'⟩) hok I.bare
theorem Inv.call {g':Array GenState} {t':Nat} {d':Drawn} {ch:List Addr} (I:Inv X pins σ H s) (u:Un (frs X.stack) ch H H' s.heap h') (hok:HOk X.prog X.w H' h') (hg:AllBare g')
  (hch: ∀ b∈ch,(b∈X.ex\/X.s₀.heap.objs.size<=b)/\b≠X.env.locals/\(∀ x c,X.env.cells.lookup x=some c->c≠b)/\ ∀ p∈X.pn ++ pins,p.1≠b):
  Inv X pins σ H' { s with heap:=h',gens:=g',drawn:=d',toks:=t' }:=by
 obtain ⟨m,⟨o,es,ep,ho,r⟩,_⟩:=id I.loc
 obtain ⟨sl,hL⟩:=u.any ho I.free fun z=>(hch _ z).2.1 rfl
 exact I.step (ch:=ch) hch (fun b o hL hb hc e n=>u.keep b o e n (fun z=>(List.mem_cons.mp (I.stkSub b z)).elim hL hb) hc) (fun b o _ _ hc e n=>u.any e n hc) (fun b o hc e n=>u.free b o e n hc) (fun b o hc e=>u.there b o e hc) u.tups u.frzs u.tbls (fun m' hm=>by
  obtain ⟨o',es',ep',ho',r'⟩:=hm
  rw[ho] at ho';cases ho'
  exact ⟨_,es',ep',hL,r'⟩) hok hg
theorem Inv.turned {t':Nat} {it:Addr} (I:Inv X pins σ H s) (k: ∀ b o,b≠it->s.heap.get? b=some o->h'.get? b=some o) (hn:H it=none) (hL:it≠X.env.locals)
  (h1:it∈X.ex\/X.s₀.heap.objs.size<=it) (h2: ∀ x c,X.env.cells.lookup x=some c->c≠it) (h3: ∀ p∈X.pn ++ pins,p.1≠it):Inv X pins σ H { s with heap:=h',toks:=t' }:=by
 have nit: ∀ b u,H b=some u->b≠it:=fun b u e z=>by rw[z,hn] at e;cases e
 refine I.step (g':=s.gens) (d':=s.drawn) (ch:=[it]) (fun b hb=> ?_) (fun b o _ _ hc e _=>k b o (fun z=>hc (by simp[z])) e) (fun b o _ _ hc e _=>⟨o.slots,k b o (fun z=>hc (by simp[z])) e⟩) (fun _ _ _ _ n=>n)
  (fun b o hc e=>⟨o,k b o (fun z=>hc (by simp[z])) e⟩) (fun _ _ e=>e) (fun _ _ _ e=>e) (fun b ps e=>⟨#[],by rw[e];simp⟩) (fun m hm=> ?_) (fun b u e=> ?_) I.bare
 ·have e:b=it:=by simpa using hb
  subst e
  exact ⟨h1,hL,h2,h3⟩
 ·obtain ⟨o,es,ep,ho,r⟩:=hm
  exact ⟨o,es,ep,k _ o (Ne.symm hL) ho,r⟩
 ·refine (I.hok b u e).stay (fun c v hc q=>k c v ?_ q) (fun _ q=>q) fun _ _ q=>q
  rcases hc with z | z
  ·rw[z];exact nit b u e
  ·exact nit c _ z
theorem Inv.tok (I:Inv X pins σ H s) (t:Nat):Inv X pins σ H { s with toks:=t }:=I.un (h':=s.heap) (t':=t) Un.refl I.hok
theorem Inv.kept {t':Nat} (I:Inv X pins σ H s) (k: ∀ b u,s.heap.get? b=some u->h'.get? b=some u):Inv X pins σ H { s with heap:=h',toks:=t' }:=I.un (Un.kept k) (I.hok.kept k)
theorem Inv.laid {a:Addr} {o:HO} {t':Nat} (I:Inv X pins σ H s) (k: ∀ b u,s.heap.get? b=some u->h'.get? b=some u) (hp:s.heap.objs.size<=a) (new:Zbw X.prog X.w (upd H a o) h' a o):
  Inv X pins σ (upd H a o) { s with heap:=h',toks:=t' }:=I.un (Un.laid k hp (I.hok.fresh hp)) (I.hok.laid k hp new)
theorem Inv.write {x e:Addr} {o:HO} {t':Nat} (I:Inv X pins σ H s) (mu:Mut (H x)) (he:e=x\/H e=some (.own x)) (k: ∀ b u,b≠e->s.heap.get? b=some u->h'.get? b=some u) (heo: ∃ u,h'.get? e=some u)
  (new:Zbw X.prog X.w (upd H x o) h' x o):Inv X pins σ (upd H x o) { s with heap:=h',toks:=t' }:=I.un (Un.write mu he k heo) (I.hok.write mu he k heo new)
theorem Inv.pins_of {pins':List (Addr × Obj)} (I:Inv X pins σ H s) (h: ∀ p∈pins',s.heap.get? p.1=some p.2/\H p.1=none/\p.1≠X.env.locals/\p.1 ∉ X.fs/\ ∀ v,p.2.data≠ .cell v):Inv X pins' σ H s:=
 ⟨I.ok,I.os,I.bare,I.base,I.loc,I.cell,I.free,I.freeC,fun p hp=>(List.mem_append.mp hp).elim (fun z=>I.pin p (List.mem_append_left _ z)) (h p),I.hok,I.len,I.qd,I.fx⟩
theorem ZfA {N:List Str} (hN:N.Nodup) {i j:Nat} {x:Str} (a:N[i]?=some x) (b:N[j]?=some x):i=j:=by
 obtain ⟨h1,e1⟩:=List.getElem?_eq_some_iff.mp a
 obtain ⟨h2,e2⟩:=List.getElem?_eq_some_iff.mp b
 exact (List.getElem_inj hN).mp (e1.trans e2.symm)
theorem Zek {M:Model} {A:Around} {E:Value->Shared->Prop} {i:Nat} {x:Str} {v:V} {u:Value} {Q:Unit->Shared->Prop} (I:Inv X pins σ H s) (hN:X.N.Nodup) (hi:X.N[i]?=some x) (hx:Loc X.env.scope x) (hm:X.may i=true) (r:Zaf v u)
  (h: ∀ s',Inv X pins (σ.set i (some v)) H s'->(∃ a,Heap.SameBut a s.heap s'.heap/\(a=X.env.locals\/X.env.cells.lookup x=some a))->Q () s') (hf:X.fn x=true\/X.env.scope.names.lookup x=some .local:=by first | exact .inl rfl | exact .inr rfl | assumption):wpAny M A (storeName X.env x u) Q E s:=by
 obtain ⟨m,hn,hl⟩:=id I.loc
 have hcls:(X.env.scope.kind == .class || (X.env.scope.kind == .module && X.env.locals != X.env.globals))=false:=by rw[I.ok.kind];rfl
 have hiσ:i < σ.length:=by rw[I.len];exact (List.getElem?_eq_some_iff.mp hi).1
 have cne:=I.cne
 have tracked: ∀ {a:Addr} {h':Heap},(∃ o,s.heap.get? a=some o/\H a=none)->Heap.SameBut a s.heap h'->HOk X.prog X.w H h':=fun {a h'} ha hs b ob e=>by
  obtain ⟨_,_,hfree⟩:=ha
  refine (I.hok b ob e).stay (fun c w' hc q=>(hs.2 c ?_).trans q) (fun _ q=>q) fun _ _ q=>q
  rintro rfl
  rcases hc with rfl | hc
  ·rw[hfree] at e;cases e
  ·rw[hfree] at hc;cases hc
 rcases hx with hk | hk
 ·refine wpAny_storeName_local hk hn (fun h' hn' hs=> ?_) hcls
  obtain ⟨oL,_,_,hoL,_⟩:=id hn
  refine h _ ⟨I.ok,I.os,I.bare,⟨fun b o e n hb hx=> ?_,fun b o e n hb hx=> ?_,I.base.free,fun b o e hx=> ?_,I.base.tups,I.base.frzs,I.base.tbls⟩,⟨_,hn',fun j y v' e1 e2 e3=> ?_⟩,fun y c e=> ?_,I.free,I.freeC,fun p hp=> ?_,tracked ⟨oL,hoL,I.free⟩ hs,by simpa using I.len,I.qd,I.fx.set hm⟩ ⟨_,hs,.inl rfl⟩
  ·exact (hs.2 b (Nat.ne_of_lt (Nat.lt_of_lt_of_le (Heap.lt_size e) I.ok.above))).trans (I.base.keep b o e n hb hx)
  ·obtain ⟨sl,e1⟩:=I.base.slot b o e n hb hx
   exact ⟨sl,(hs.2 b (Nat.ne_of_lt (Nat.lt_of_lt_of_le (Heap.lt_size e) I.ok.above))).trans e1⟩
  ·obtain ⟨o',e1⟩:=I.base.there b o e hx
   exact ⟨o',(hs.2 b (Nat.ne_of_lt (Nat.lt_of_lt_of_le (Heap.lt_size e) I.ok.above))).trans e1⟩
  ·by_cases hj:j=i
   ·subst hj
    rw[hi] at e1;cases e1
    rw[List.getElem?_set_self hiσ] at e2
    cases e2
    exact ⟨u,r,.inl ⟨hk,by simp⟩⟩
   ·rw[List.getElem?_set_ne (Ne.symm hj)] at e2
    obtain ⟨u',r',q⟩:=hl j y v' e1 e2 e3
    refine ⟨u',r',?_⟩
    rcases q with ⟨k,e⟩ | ⟨k,c,e,z⟩
    ·refine .inl ⟨k,?_⟩
     have:y≠x:=fun e=>hj (ZfA hN e1 (e ▸ hi))
     simp[this,e]
    ·exact .inr ⟨k,c,e,z.sameBut hs (cne y c e)⟩
  ·obtain ⟨w',z⟩:=I.cell y c e
   exact ⟨w',z.sameBut hs (cne y c e)⟩
  ·obtain ⟨e,n,ne,nf,d⟩:=I.pin p hp
   exact ⟨(hs.2 p.1 ne).trans e,n,ne,nf,d⟩
 ·have hfn:X.fn x=true:=by
   rcases hf with z | z
   ·exact z
   ·rw[z] at hk;cases hk
  obtain ⟨c,hc⟩:=I.ok.has x (.inl hk)
  obtain ⟨w',z⟩:=I.cell x c hc
  refine wpAny_storeName_cell I.ok.kind hk hc z (fun h' hc' hs=> ?_)
  obtain ⟨oc,hoc,hocd⟩:=id z
  refine h { s with heap:=h' } ⟨I.ok,I.os,I.bare,⟨fun b o e n hb hx=> ?_,fun b o e n hb hx=> ?_,I.base.free,fun b o e hx=> ?_,I.base.tups,I.base.frzs,I.base.tbls⟩,⟨m,hn.sameBut hs (Ne.symm (cne x c hc)),fun j y v' e1 e2 e3=> ?_⟩,fun y c' e=> ?_,I.free,I.freeC,fun p hp=> ?_,tracked ⟨oc,hoc,I.freeC x c hc⟩ hs,by simpa using I.len,I.qd,I.fx.set hm⟩ ⟨c,hs,.inr hc⟩
  ·exact (hs.2 b (Nat.ne_of_lt (Nat.lt_of_lt_of_le (Heap.lt_size e) (I.ok.cab x c hfn hc)))).trans (I.base.keep b o e n hb hx)
  ·obtain ⟨sl,e1⟩:=I.base.slot b o e n hb hx
   exact ⟨sl,(hs.2 b (Nat.ne_of_lt (Nat.lt_of_lt_of_le (Heap.lt_size e) (I.ok.cab x c hfn hc)))).trans e1⟩
  ·obtain ⟨o',e1⟩:=I.base.there b o e hx
   exact ⟨o',(hs.2 b (Nat.ne_of_lt (Nat.lt_of_lt_of_le (Heap.lt_size e) (I.ok.cab x c hfn hc)))).trans e1⟩
  ·by_cases hj:j=i
   ·subst hj
    rw[hi] at e1;cases e1
    rw[List.getElem?_set_self hiσ] at e2
    cases e2
    exact ⟨u,r,.inr ⟨.inl hk,c,hc,hc'⟩⟩
   ·rw[List.getElem?_set_ne (Ne.symm hj)] at e2
    obtain ⟨u',r',q⟩:=hl j y v' e1 e2 e3
    refine ⟨u',r',?_⟩
    rcases q with q | ⟨k,c',e,z'⟩
    ·exact .inl q
    ·refine .inr ⟨k,c',e,z'.sameBut hs ?_⟩
     rintro rfl
     exact hj (ZfA hN e1 (I.ok.inj _ _ _ e hc ▸ hi))
  ·by_cases hcc:c'=c
   ·subst hcc;exact ⟨_,hc'⟩
   ·obtain ⟨w2,z2⟩:=I.cell y c' e
    exact ⟨w2,z2.sameBut hs hcc⟩
  ·obtain ⟨e,n,ne,nf,d⟩:=I.pin p hp
   refine ⟨(hs.2 p.1 ?_).trans e,n,ne,nf,d⟩
   intro q
   rw[q,hoc] at e
   have q':oc=p.2:=Option.some.inj e
   exact d w' (by rw[<- q'];exact hocd)
theorem Zb5 {M:Model} {A:Around} {E:Value->Shared->Prop} {i:Nat} {x:Str} {v:V} {u:Value} {Q:Unit->Shared->Prop} (I:Inv X pins σ H s) (hN:X.N.Nodup) (hi:X.N[i]?=some x) (hx:Loc X.env.scope x) (hm:X.may i=true) (r:Zaf v u)
  (h: ∀ s',Inv X pins (σ.set i (some v)) H s'->Q () s') (hf:X.fn x=true\/X.env.scope.names.lookup x=some .local:=by first | exact .inl rfl | exact .inr rfl | assumption):wpAny M A (storeName X.env x u) Q E s:=
 Zek I hN hi hx hm r (fun s' I' _=>h s' I') hf
theorem Inv.call' {s':Shared} {ch:List Addr} (I:Inv X pins σ H s) (ho:s'.os=s.os) (u:Un (frs X.stack) ch H H' s.heap s'.heap) (hok:HOk X.prog X.w H' s'.heap) (hg:AllBare s'.gens)
  (hch: ∀ b∈ch,(b∈X.ex\/X.s₀.heap.objs.size<=b)/\b≠X.env.locals/\(∀ x c,X.env.cells.lookup x=some c->c≠b)/\ ∀ p∈X.pn ++ pins,p.1≠b):Inv X pins σ H' s':=by
 obtain ⟨h',g',d',t',o'⟩:=s'
 have e:o'=s.os:=ho
 subst e
 exact I.call (g':=g') (t':=t') (d':=d') u hok hg hch
end
noncomputable abbrev XK:=Value->Option Addr->Hp->Prop
noncomputable abbrev St:=List (Option V)
noncomputable abbrev VK:=V->Hp->Prop
noncomputable abbrev TE:=St->Hp->VK->Prop
noncomputable abbrev TT:=St->Hp->(Bool->Hp->Prop)->Prop
noncomputable abbrev TA:=St->Hp->(List V->Hp->Prop)->Prop
structure Ends where
 nx:St->Hp->Prop
 rt:VK
 bk:St->Hp->Prop:=fun _ _=>False
 ct:St->Hp->Prop:=fun _ _=>False
noncomputable abbrev TS:=Ends->St->Hp->Prop
noncomputable def EP (X:Cx) (pins:List (Addr × Obj)) (σ:St) (Q:VK) (u:Value) (s':Shared):Prop:= ∃ v H',Inv X pins σ H' s'/\Zaf v u/\Q v H'
noncomputable def TP (X:Cx) (pins:List (Addr × Obj)) (σ:St) (Q:Bool->Hp->Prop) (b:Bool) (s':Shared):Prop:= ∃ H',Inv X pins σ H' s'/\Q b H'
noncomputable def AP (X:Cx) (pins:List (Addr × Obj)) (σ:St) (Q:List V->Hp->Prop) (us:List Value) (s':Shared):Prop:= ∃ vs H',Inv X pins σ H' s'/\ZZ vs us/\Q vs H'
noncomputable def SP (X:Cx) (pins:List (Addr × Obj)) (D:Ends) (f:Flow) (s':Shared):Prop:=
 match f with
 | .next=> ∃ σ' H',Inv X pins σ' H' s'/\D.nx σ' H'
 | .brk=> ∃ σ' H',Inv X pins σ' H' s'/\D.bk σ' H'
 | .cont=> ∃ σ' H',Inv X pins σ' H' s'/\D.ct σ' H'
 | .ret u=> ∃ v σ' H',Inv X pins σ' H' s'/\Zaf v u/\D.rt v H'
noncomputable def PE (X:Cx) (e:Expr) (t:TE):Prop:=
 ∀ (pins:List (Addr × Obj)) (s:Shared) (σ:St) (H:Hp) (Q:VK),Inv X pins σ H s->t σ H Q->wpAny (model X.prog X.w) X.A (eval e X.env) (EP X pins σ Q) X.xe s
noncomputable def PT (X:Cx) (e:Expr) (t:TT):Prop:=
 ∀ (pins:List (Addr × Obj)) (s:Shared) (σ:St) (H:Hp) (Q:Bool->Hp->Prop),Inv X pins σ H s->t σ H Q->wpAny (model X.prog X.w) X.A (isTrue e X.env (eval e X.env)) (TP X pins σ Q) X.xe s
noncomputable def PW (X:Cx) (e:Expr) (t:TT):Prop:=
 ∀ (whole:Sem Value) (pins:List (Addr × Obj)) (s:Shared) (σ:St) (H:Hp) (Q:Bool->Hp->Prop),Inv X pins σ H s->t σ H Q->wpAny (model X.prog X.w) X.A (isTrue e X.env whole) (TP X pins σ Q) X.xe s
theorem PW.pt {X:Cx} {e:Expr} {t:TT} (h:PW X e t):PT X e t:=h _
noncomputable def PA (X:Cx) (es:List Expr) (t:TA):Prop:=
 ∀ (pos:Pos) (pins:List (Addr × Obj)) (s:Shared) (σ:St) (H:Hp) (Q:List V->Hp->Prop),Inv X pins σ H s->t σ H Q->wpAny (model X.prog X.w) X.A (spliced (backTo pos (starEach es X.env))) (AP X pins σ Q) X.xe s
noncomputable def PS (X:Cx) (st:Stmt) (t:TS):Prop:=
 ∀ (pins:List (Addr × Obj)) (s:Shared) (σ:St) (H:Hp) (D:Ends),Inv X pins σ H s->t D σ H->wpAny (model X.prog X.w) X.A (exec st X.env) (SP X pins D) X.xe s
noncomputable def PSs (X:Cx) (st:List Stmt) (t:TS):Prop:=
 ∀ (pins:List (Addr × Obj)) (s:Shared) (σ:St) (H:Hp) (D:Ends),Inv X pins σ H s->t D σ H->wpAny (model X.prog X.w) X.A (execs st X.env) (SP X pins D) X.xe s
theorem thn {α:Type} {t:Sem α} {Q Q':α->Shared->Prop} {M:Model} {A:Around} {E:Value->Shared->Prop} {s:Shared} (h:wpAny M A t Q E s) (hQ: ∀ a s,Q a s->Q' a s):wpAny M A t Q' E s:=wpAny_mono h hQ fun _ _ x=>x
end L2
namespace L2
open PySem PySem.Spec PyProof.Rows
section
variable {X:Cx}
theorem bin {a b:Expr} {ta tb:TE} (ha:PE X a ta) (hb:PE X b tb) {pins:List (Addr × Obj)} {s:Shared} {σ:St} {H:Hp} {R:V->V->Hp->Prop} (I:Inv X pins σ H s) (h:ta σ H fun x H1=>tb σ H1 fun y H2=>R x y H2)
  {α:Type} {Q:α->Shared->Prop} {f:Value->Value->Sem α}
  (hf: ∀ v u s2 x y H2,Inv X pins σ H2 s2->Zaf x v->Zaf y u->R x y H2->wpAny (model X.prog X.w) X.A (f v u) Q X.xe s2):
  wpAny (model X.prog X.w) X.A (eval a X.env) (fun v s₁=>wpAny (model X.prog X.w) X.A (eval b X.env) (fun u s₂=>wpAny (model X.prog X.w) X.A (f v u) Q X.xe s₂) X.xe s₁) X.xe s:=by
 refine thn (ha pins s σ H _ I h) fun v s1 ⟨x,H1,I1,r1,q1⟩=> ?_
 refine thn (hb pins s1 σ H1 _ I1 q1) fun u s2 ⟨y,H2,I2,r2,q2⟩=> ?_
 exact hf v u s2 x y H2 I2 r1 r2 q2
noncomputable def Zsd (i:Nat):TE:=fun σ H Q=> ∃ v,σ[i]?=some (some v)/\Q v H
noncomputable def tC (v:V):TE:=fun _ H Q=>Q v H
theorem Zcz {i:Nat} {x:Str} {pos:Pos} (hN:X.N[i]?=some x) (hv:Vis X.env.scope x) (hd:(x == ("__debug__":Str))=false:=by decide) (hcd:(x == ("__classdict__":Str))=false:=by decide):PE X (.Name x pos) (Zsd i):=by
 intro pins s σ H Q I h
 obtain ⟨v,e,h⟩:=h
 obtain ⟨m,hn,hl⟩:=I.loc
 obtain ⟨u,r,l⟩:=hl i x v hN e hv
 have fin:EP X pins σ Q u s:=⟨v,H,I,r,h⟩
 rcases l with ⟨hk,hm⟩ | ⟨hk,c,hc,hcell⟩
 ·exact wpAny_Name (wpAny_loadName_local I.ok.kind hk hn hm fin) hd
 ·rcases hk with hk | hk
  ·exact wpAny_Name (wpAny_loadName_cell I.ok.kind hk hc hcell fin) hd
  ·exact wpAny_Name (wpAny_loadName_free I.ok.kind hk hc hcell fin hcd) hd
theorem ZjP {i j pos}:PE X (.Constant (.int i) j pos) (tC (.int i)):=fun _ _ _ H _ I h=>wpAny_Constant_int ⟨.int i,H,I.tok _,⟨_,rfl⟩,h⟩
theorem Zpg {b j pos}:PE X (.Constant (.bool b) j pos) (tC (.bl b)):=fun _ _ _ H _ I h=>Constant_bool ⟨.bl b,H,I,rfl,h⟩
theorem Zmb {j pos}:PE X (.Constant .none j pos) (tC .non):=fun _ _ _ H _ I h=>Constant_none ⟨.non,H,I,rfl,h⟩
theorem Zhb {x j pos}:PE X (.Constant (.str x) j pos) (tC (.str x)):=fun _ _ _ H _ I h=>Calls.Constant_str ⟨.str x,H,I.tok _,⟨_,rfl⟩,h⟩
noncomputable def Gl (X:Cx) (x:Str):Prop:=X.env.kindOf x=some .globalImplicit
theorem ZdI {E:Value->Shared->Prop} {pins:List (Addr × Obj)} {s:Shared} {σ:St} {H:Hp} {x:Str} {u:Value} {pos:Pos} {Q:Value->Shared->Prop} (I:Inv X pins σ H s) (hg:Gl X x) (hm:X.mg x=some u) (h:Q u s)
  (hd:(x == ("__debug__":Str))=false:=by decide):wpAny (model X.prog X.w) X.A (eval (.Name x pos) X.env) Q E s:=
 Calls.Name_function_global I.ok.kind hg (Calls.loadGlobal_global (by rw[I.ok.glob];exact I.mod.glob.keeps I.bk) hm h) hd
theorem Zel {E:Value->Shared->Prop} {pins:List (Addr × Obj)} {s:Shared} {σ:St} {H:Hp} {x:Str} {u:Value} {pos:Pos} {Q:Value->Shared->Prop} (I:Inv X pins σ H s) (hg:Gl X x) (hm:X.mg x=none) (hv:bootBuiltins x=some u) (h:Q u s)
  (hn:x≠"__name__":=by decide) (hd:(x == ("__debug__":Str))=false:=by decide):wpAny (model X.prog X.w) X.A (eval (.Name x pos) X.env) Q E s:=by
 obtain ⟨mb,h1,h2⟩:=I.mod.blt
 exact Calls.Name_function_global I.ok.kind hg (Calls.loadGlobal_builtin (by rw[I.ok.glob];exact I.mod.glob.keeps I.bk) hm (by rw[I.ok.blt];exact h1.keeps I.bk) ((h2 x hn).trans hv) h) hd
theorem ZkC {x:Str} {v:V} {u:Value} {pos:Pos} (hg:Gl X x) (hm:X.mg x=some u) (r:Zaf v u) (hd:(x == ("__debug__":Str))=false:=by decide):PE X (.Name x pos) (tC v):=
 fun _ _ _ H _ I h=>ZdI I hg hm ⟨v,H,I,r,h⟩ hd
theorem Zhc {x:Str} {v:V} {u:Value} {pos:Pos} (hg:Gl X x) (hm:X.mg x=none) (hv:bootBuiltins x=some u) (r:Zaf v u) (hn:x≠"__name__":=by decide) (hd:(x == ("__debug__":Str))=false:=by decide):PE X (.Name x pos) (tC v):=
 fun _ _ _ H _ I h=>Zel I hg hm hv ⟨v,H,I,r,h⟩ hn hd
variable {a b:Expr} {ta tb:TE} {pos:Pos}
noncomputable def PC (X:Cx) (op:CmpOp) (a b:Expr) (t:TE):Prop:=
 ∀ (pins:List (Addr × Obj)) (s:Shared) (σ:St) (H:Hp) (Q:VK),Inv X pins σ H s->t σ H Q->
  wpAny (model X.prog X.w) X.A (eval a X.env) (fun v s₁=>wpAny (model X.prog X.w) X.A (eval b X.env) (fun u s₂=>wpAny (model X.prog X.w) X.A (compareOp op v u) (EP X pins σ Q) X.xe s₂) X.xe s₁) X.xe s
theorem ZiO (b:Expr) {op:CmpOp} (h:op≠ .In) (h2:op≠ .NotIn):behindInMarks op b=false:=by
 have e1:(op == CmpOp.In)=false:=by cases op<;>first | rfl | exact absurd rfl h
 have e2:(op == CmpOp.NotIn)=false:=by cases op<;>first | rfl | exact absurd rfl h2
 cases b<;>simp[behindInMarks,e1,e2]
noncomputable def tB (t:TE):TT:=fun σ H Q=>t σ H fun x H1=> ∃ c,x= .bl c/\Q c H1
theorem Zrb {op:CmpOp} {t:TE} (h:PC X op a b t) (h1:behindInMarks op b=false:=by first | exact ZiO _ (by decide) (by decide) | rfl):PT X (.Compare a [op] [b] pos) (tB t):=by
 intro pins s σ H Q I hw
 refine wpAny_isTrue_Compare1 (thn (h pins s σ H _ I hw) fun v s1 h1=>thn h1 fun u s2 h2=>thn h2 fun c s3 ⟨x,H1,I1,r1,q1⟩=> ?_) h1
 obtain ⟨d,rfl,q⟩:=q1
 cases r1
 exact wpAny_truthy_bool ⟨H1,I1,q⟩
theorem Zmc {e:Expr} {t:TE} (h:PE X e t) (he: ∀ whole,isTrue e X.env whole=(do let v <- whole;standAt e.pos;holding [v] (truthy v)):=by intro _;rfl):PT X e (tB t):=by
 intro pins s σ H Q I hw
 refine isTrue_plain (thn (h pins s σ H _ I hw) fun v s1 ⟨x,H1,I1,r1,q1⟩=> ?_) (he _)
 obtain ⟨d,rfl,q⟩:=q1
 cases r1
 exact wpAny_truthy_bool ⟨H1,I1,q⟩
variable {tA tB':TT} {rest:List Expr}
noncomputable def Zse (t u:TT):TT:=fun σ H Q=>t σ H fun c H1=>if c=true then u σ H1 Q else Q false H1
noncomputable def tOr (t u:TT):TT:=fun σ H Q=>t σ H fun c H1=>if c=true then Q true H1 else u σ H1 Q
noncomputable def Zsf (t:TT):TT:=fun σ H Q=>t σ H fun c H1=>Q (!c) H1
theorem pw_and1 (ha:PT X a tA):PW X (.BoolOp .And [a] pos) tA:=by
 intro wh pins s σ H Q I h
 refine isTrue_and (thn (ha pins s σ H Q I h) fun c s1 e=> ?_)
 cases c with
 |true=>exact isTrue_and_nil e
 |false=>exact e
theorem pw_or1 (ha:PT X a tA):PW X (.BoolOp .Or [a] pos) tA:=by
 intro wh pins s σ H Q I h
 refine isTrue_or (thn (ha pins s σ H Q I h) fun c s1 e=> ?_)
 cases c with
 |false=>exact isTrue_or_nil e
 |true=>exact e
theorem pw_and (ha:PT X a tA) (hb:PW X (.BoolOp .And (b :: rest) pos) tB'):PW X (.BoolOp .And (a :: b :: rest) pos) (Zse tA tB'):=by
 intro wh pins s σ H Q I h
 refine isTrue_and (thn (ha pins s σ H _ I h) fun c s1 ⟨H1,I1,q1⟩=> ?_)
 cases c with
 |true=>exact hb wh pins s1 σ H1 Q I1 q1
 |false=>exact ⟨H1,I1,q1⟩
theorem pw_or (ha:PT X a tA) (hb:PW X (.BoolOp .Or (b :: rest) pos) tB'):PW X (.BoolOp .Or (a :: b :: rest) pos) (tOr tA tB'):=by
 intro wh pins s σ H Q I h
 refine isTrue_or (thn (ha pins s σ H _ I h) fun c s1 ⟨H1,I1,q1⟩=> ?_)
 cases c with
 |true=>exact ⟨H1,I1,q1⟩
 |false=>exact hb wh pins s1 σ H1 Q I1 q1
theorem Zmd (ha:PT X a tA):PT X (.UnaryOp .Not a pos) (Zsf tA):=by
 intro pins s σ H Q I h
 exact isTrue_not (ha pins s σ H (fun c H1=>Q (!c) H1) I h)
noncomputable def Zph (ta tb:TE):TE:=fun σ H Q=>ta σ H fun x H1=> ∃ c,x= .bl c/\if c=true then tb σ H1 Q else Q (.bl false) H1
noncomputable def Zsg (ta tb:TE):TE:=fun σ H Q=>ta σ H fun x H1=> ∃ c,x= .bl c/\if c=true then Q (.bl true) H1 else tb σ H1 Q
noncomputable def Zpi (ta:TE):TE:=fun σ H Q=>ta σ H fun x H1=> ∃ c,x= .bl c/\Q (.bl (!c)) H1
theorem Zme {op} {t:TE} (h:PE X a t):PE X (.BoolOp op [a] pos) t:=fun pins s σ H Q I hw=>BoolOp_one (h pins s σ H Q I hw)
theorem Zmf (ha:PE X a ta) (hb:PE X (.BoolOp .And (b :: rest) pos) tb):PE X (.BoolOp .And (a :: b :: rest) pos) (Zph ta tb):=by
 intro pins s σ H Q I h
 refine BoolOp_and (thn (ha pins s σ H _ I h) fun v s1 ⟨x,H1,I1,r1,q1⟩=> ?_)
 obtain ⟨c,rfl,q1⟩:=q1
 cases r1
 refine wpAny_truthy_bool ?_
 cases c with
 |true=>exact hb pins s1 σ H1 Q I1 q1
 |false=>exact ⟨.bl false,H1,I1,rfl,q1⟩
theorem Zpj (ha:PE X a ta) (hb:PE X (.BoolOp .Or (b :: rest) pos) tb):PE X (.BoolOp .Or (a :: b :: rest) pos) (Zsg ta tb):=by
 intro pins s σ H Q I h
 refine BoolOp_or (thn (ha pins s σ H _ I h) fun v s1 ⟨x,H1,I1,r1,q1⟩=> ?_)
 obtain ⟨c,rfl,q1⟩:=q1
 cases r1
 refine wpAny_truthy_bool ?_
 cases c with
 |false=>exact hb pins s1 σ H1 Q I1 q1
 |true=>exact ⟨.bl true,H1,I1,rfl,q1⟩
theorem Zmg (ha:PE X a ta):PE X (.UnaryOp .Not a pos) (Zpi ta):=by
 intro pins s σ H Q I h
 refine UnaryOp_ (thn (ha pins s σ H _ I h) fun v s1 ⟨x,H1,I1,r1,q1⟩=> ?_)
 obtain ⟨c,rfl,q1⟩:=q1
 cases r1
 exact not_of (wpAny_truthy_bool ⟨.bl (!c),H1,I1,rfl,q1⟩)
end
end L2
namespace L2
open PySem PySem.Spec PyProof.Rows
noncomputable def SqL (K:PySem.W.Frag) (H:Hp) (a:Addr) (xs:List V):Prop:=
 Rd H a (.lst xs)\/
  ∃ (o:Obj) (its:Array Value) (n:Nat),K.lookup a=some o/\o.cls= .type "list"/\o.dict=none/\o.data= .seq its n/\its.size<=sizeLine/\ZZ xs its.toList
noncomputable def SqT (K:PySem.W.Frag) (H:Hp) (a:Addr) (xs:List V):Prop:=
 Rd H a (.tup xs)\/
  ∃ (o:Obj) (its:Array Value) (n:Nat),K.lookup a=some o/\o.cls= .type "tuple"/\o.data= .seq its n/\its.size<=sizeLine/\ZZ xs its.toList
noncomputable def Zsh:Value->Option V
 | .none=>some .non
 | .bool b=>some (.bl b)
 | .int i _=>some (.int i)
 | .str x _=>some (.str x)
 | .bytes b _=>some (.byt b)
 | .float b _=>some (.flt b)
 | .ref a=>some (.ref a)
 | .type n=>some (.ty n)
 |_=>none
theorem Zaf.abs {x:V} {u:Value} (r:Zaf x u):Zsh u=some x:=by
 cases x with
 |non=>cases r;rfl
 |bl _=>cases r;rfl
 |int _=>obtain ⟨t,rfl⟩:=r;rfl
 |str _=>obtain ⟨t,rfl⟩:=r;rfl
 |byt _=>obtain ⟨t,rfl⟩:=r;rfl
 |flt _=>obtain ⟨t,rfl⟩:=r;rfl
 |ref _=>cases r;rfl
 |ty _=>cases r;rfl
theorem Zaf.inj {x y:V} {u:Value} (r:Zaf x u) (q:Zaf y u):x=y:=Option.some.inj (r.abs.symm.trans q.abs)
theorem ZZ.inj: ∀ {xs ys:List V} {us:List Value},ZZ xs us->ZZ ys us->xs=ys
 |_,_,_,.nil,.nil=>rfl
 |_,_,_,.cons r t,.cons r' t'=>by rw[r.inj r',ZZ.inj t t']
section
variable {X:Cx} {pins:List (Addr × Obj)} {σ:St} {H:Hp} {s:Shared} {a:Addr} {xs ys:List V}
theorem SqL.of {K:PySem.W.Frag} (h:H a=some (.lst xs)):SqL K H a xs:= .inl (.inl h)
theorem SqT.of {K:PySem.W.Frag} (h:H a=some (.tup xs)):SqT K H a xs:= .inl (.inl h)
theorem Inv.list (I:Inv X pins σ H s) (h:SqL X.K H a xs): ∃ its:List Value,ZZ xs its/\PlainL s.heap a its.toArray/\xs.length<=sizeLine:=by
 rcases h with h | ⟨o,its,n,hk,hc,hd,hs,hz,r⟩
 ·obtain ⟨z,its,n,r,e⟩:=h.ok I.hok
  exact ⟨its,r,⟨_,n,e,rfl,rfl,rfl⟩,z⟩
 ·refine ⟨its.toList,r,⟨o,n,I.kIn a o hk,hc,hd,by simpa using hs⟩,?_⟩
  have e:=r.length
  simp only[Array.length_toList] at e
  omega
theorem Inv.tuple (I:Inv X pins σ H s) (h:SqT X.K H a xs): ∃ its:List Value,ZZ xs its/\IsTup s.heap a its.toArray/\xs.length<=sizeLine:=by
 rcases h with h | ⟨o,its,n,hk,hc,hs,hz,r⟩
 ·obtain ⟨z,its,r,p⟩:=h.ok I.hok
  exact ⟨its,r,p,z⟩
 ·refine ⟨its.toList,r,⟨o,I.kIn a o hk,hc,n,by simpa using hs⟩,?_⟩
  have e:=r.length
  simp only[Array.length_toList] at e
  omega
theorem Inv.list_inj (I:Inv X pins σ H s) (h:SqL X.K H a xs) (h':SqL X.K H a ys):xs=ys:=by
 obtain ⟨its,r,⟨o,n,e,_,_,d⟩,_⟩:=I.list h
 obtain ⟨its',r',⟨o',n',e',_,_,d'⟩,_⟩:=I.list h'
 rw[e] at e';cases e'
 rw[d] at d'
 injection d' with d1 _
 have:its=its':=by simpa using congrArg Array.toList d1
 subst this
 exact r.inj r'
theorem Inv.tuple_inj (I:Inv X pins σ H s) (h:SqT X.K H a xs) (h':SqT X.K H a ys):xs=ys:=by
 obtain ⟨its,r,⟨o,e,_,n,d⟩,_⟩:=I.tuple h
 obtain ⟨its',r',⟨o',e',_,n',d'⟩,_⟩:=I.tuple h'
 rw[e] at e';cases e'
 rw[d] at d'
 injection d' with d1 _
 have:its=its':=by simpa using congrArg Array.toList d1
 subst this
 exact r.inj r'
end
section
variable {X:Cx} {pins:List (Addr × Obj)} {σ:St} {H:Hp} {s:Shared} {E:Value->Shared->Prop}
end
section
variable {X:Cx} {st:Stmt} {rest:List Stmt} {t u:TS} {e:Expr} {te:TE} {pos:Pos}
noncomputable def tNext:TS:=fun D σ H=>D.nx σ H
noncomputable def Zpk (t u:TS):TS:=fun D σ H=>t { D with nx:=u D } σ H
theorem ZkD:PSs X [] tNext:=fun _ _ σ H _ I h=>wpAny_execs_nil ⟨σ,H,I,h⟩
theorem ZdJ (h1:PS X st t) (h2:PSs X rest u):PSs X (st :: rest) (Zpk t u):=by
 intro pins s σ H D I h
 refine wpAny_execs_cons (thn (h1 pins s σ H { D with nx:=u D } I h) fun f s1 q=> ?_)
 cases f with
 |next=>
  obtain ⟨σ',H',I',q⟩:=q
  exact h2 pins s1 σ' H' D I' q
 |ret v=>exact q
 |brk=>exact q
 |cont=>exact q
theorem Zhd (h1:PS X st t):PSs X [st] t:=by
 intro pins s σ H D I h
 refine wpAny_execs_cons (thn (h1 pins s σ H D I h) fun f s1 q=> ?_)
 cases f with
 |next=>exact wpAny_execs_nil q
 |ret v=>exact q
 |brk=>exact q
 |cont=>exact q
theorem Inv.quiet {pins:List (Addr × Obj)} {σ:St} {H:Hp} {s:Shared} (I:Inv X pins σ H s):interactive X.env=false:=by simp[interactive,I.ok.kind]
noncomputable def Zmh (te:TE):TS:=fun D σ H=>te σ H fun _ H1=>D.nx σ H1
theorem ZkE (he:PE X e te) (hs:swapsWith e none pos.line X.env=pure false:=by rfl):PS X (.Expr e pos) (Zmh te):=by
 intro pins s σ H D I h
 exact wpAny_Expr_any (thn (he pins s σ H _ I h) fun v s1 ⟨x,H1,I1,r1,q1⟩=>⟨σ,H1,I1,q1⟩) I.quiet hs
noncomputable def Zsi (te:TE):TS:=fun D σ H=>te σ H D.rt
theorem Zmi (he:PE X e te):PS X (.Return (some e) pos) (Zsi te):=by
 intro pins s σ H D I h
 exact wpAny_Return_some (thn (he pins s σ H _ I h) fun v s1 ⟨x,H1,I1,r1,q1⟩=>⟨x,σ,H1,I1,r1,q1⟩)
noncomputable def Zsj (c:TT) (t u:TS):TS:=fun D σ H=>c σ H fun b H1=>if b=true then t D σ H1 else u D σ H1
theorem Zpl {c:Expr} {a b:List Stmt} {tc:TT} (hc:PT X c tc) (ha:PSs X a t) (hb:PSs X b u):PS X (.If c a b pos) (Zsj tc t u):=by
 intro pins s σ H D I h
 refine wpAny_If (thn (hc pins s σ H _ I h) fun d s1 ⟨H1,I1,q1⟩=> ?_)
 cases d with
 |true=>exact ha pins s1 σ H1 D I1 q1
 |false=>exact hb pins s1 σ H1 D I1 q1
end
noncomputable abbrev TG:=V->St->Hp->(St->Hp->Prop)->Prop
noncomputable abbrev TGs:=List V->St->Hp->(St->Hp->Prop)->Prop
noncomputable def PG (X:Cx) (target:Expr) (t:TG):Prop:=
 ∀ (pins:List (Addr × Obj)) (s:Shared) (σ:St) (H:Hp) (v:V) (u:Value) (Q:St->Hp->Prop),Inv X pins σ H s->Zaf v u->t v σ H Q->
  wpAny (model X.prog X.w) X.A (assign target X.env u) (fun _ s'=> ∃ σ' H',Inv X pins σ' H' s'/\Q σ' H') X.xe s
noncomputable def PGs (X:Cx) (ts:List Expr) (t:TGs):Prop:=
 ∀ (pins:List (Addr × Obj)) (s:Shared) (σ:St) (H:Hp) (vs:List V) (us:List Value) (Q:St->Hp->Prop),Inv X pins σ H s->ZZ vs us->t vs σ H Q->
  wpAny (model X.prog X.w) X.A (assignInOrder ((assignEach ts X.env).map (·.2)) us) (fun _ s'=> ∃ σ' H',Inv X pins σ' H' s'/\Q σ' H') X.xe s
noncomputable abbrev Zpm:=V->V->V->Hp->(Hp->Prop)->Prop
noncomputable def Zrc (X:Cx) (t:Zpm):Prop:=
 ∀ (pins:List (Addr × Obj)) (s:Shared) (σ:St) (H:Hp) (o i v:V) (ov iv u:Value) (Q:Hp->Prop),Inv X pins σ H s->Zaf o ov->Zaf i iv->Zaf v u->t o i v H Q->
  wpAny (model X.prog X.w) X.A (setItem ov iv u) (fun _ s'=> ∃ H',Inv X pins σ H' s'/\Q H') X.xe s
section
variable {X:Cx} {pos:Pos}
noncomputable def Zmj (i:Nat):TG:=fun v σ H Q=>Q (σ.set i (some v)) H
theorem ZkF {i:Nat} {x:Str} (hN:X.N.Nodup) (hi:X.N[i]?=some x) (hx:Loc X.env.scope x) (hm:X.may i=true) (hf:X.fn x=true\/X.env.scope.names.lookup x=some .local:=by first | exact .inl rfl | exact .inr rfl | assumption):PG X (.Name x pos) (Zmj i):=by
 intro pins s σ H v u Q I r h
 exact wpAny_assign_Name (Zb5 I hN hi hx hm r (fun s' I'=>⟨_,H,I',h⟩) hf)
noncomputable def gNil:TGs:=fun vs σ H Q=>vs=[]/\Q σ H
noncomputable def Zpn (t:TG) (u:TGs):TGs:=fun vs σ H Q=> ∃ v r,vs=v :: r/\t v σ H fun σ' H'=>u r σ' H' Q
theorem ZkG:PGs X [] gNil:=by
 intro pins s σ H vs us Q I r h
 obtain ⟨e,h⟩:=h
 subst e
 cases r
 exact assignInOrder_nil ⟨σ,H,I,h⟩
theorem ZiP {e:Expr} {es:List Expr} {t:TG} {u:TGs} (h1:PG X e t) (h2:PGs X es u)
  (hs:(assignEach (e :: es) X.env).map (·.2)=assign e X.env :: (assignEach es X.env).map (·.2):=by rfl):PGs X (e :: es) (Zpn t u):=by
 intro pins s σ H vs us Q I r h
 obtain ⟨v,vr,e1,h⟩:=h
 subst e1
 cases r with
 |cons r rr=>
  rw[hs]
  refine assignInOrder_cons (thn (h1 pins s σ H _ _ _ I r h) fun _ s1 ⟨σ1,H1,I1,q1⟩=> ?_)
  exact h2 pins s1 σ1 H1 _ _ Q I1 rr q1
noncomputable def Zsk (K:PySem.W.Frag) (n:Nat) (t:TGs):TG:=fun v σ H Q=> ∃ a xs,v= .ref a/\SqT K H a xs/\xs.length=n/\t xs σ H Q
theorem Zmk {es:List Expr} {k:Nat} {t:TGs} {n:Nat} (hc:X.calm=true) (h:PGs X es t)
  (hn:(assignEach es X.env).length=n:=by rfl) (hst:(assignEach es X.env).findIdx? (·.1)=none:=by rfl):PG X (.Tuple es k pos) (Zsk X.K n t):=by
 intro pins s σ H v u Q I r hw
 obtain ⟨a,xs,e1,hq,hl,hw⟩:=hw
 subst e1
 cases r
 obtain ⟨its,rv,ht,hz⟩:=I.tuple hq
 refine assign_Tuple_tuple (I.ok.hd hc) ht (by simp[hn,<- hl,rv.length]) hst fun h' hx=> ?_
 have I1:Inv X pins σ H { s with heap:=h' }:=I.kept (t':=s.toks) fun b o e=>hx b o (Nat.ne_of_lt (Heap.lt_size e)) e
 exact h pins _ σ H xs _ Q I1 (by simpa using rv) hw
noncomputable def Zsl (to ti:TE) (t:Zpm):TG:=fun v σ H Q=>to σ H fun o H1=>ti σ H1 fun i H2=>t o i v H2 fun H3=>Q σ H3
theorem Zml {o i:Expr} {to ti:TE} {t:Zpm} (ho:PE X o to) (hi:PE X i ti) (hs:Zrc X t)
  (ha: ∀ v,assign (.Subscript o i pos) X.env v=(do
   let ov <- holding [v] (eval o X.env)
   let iv <- holding [v,ov] (eval i X.env)
   standAt pos
   holding [v,ov,iv] (setItem ov iv v)
   release [v,ov,iv] []):=by intro _;rfl):PG X (.Subscript o i pos) (Zsl to ti t):=by
 intro pins s σ H v u Q I r h
 rw[ha]
 refine wpAny_bind (wpAny_holding (thn (ho pins s σ H _ I h) fun ov s1 ⟨x,H1,I1,r1,q1⟩=> ?_))
 refine wpAny_bind (wpAny_holding (thn (hi pins s1 σ H1 _ I1 q1) fun iv s2 ⟨y,H2,I2,r2,q2⟩=> ?_))
 refine wpAny_bind (wpAny_standAt (wpAny_bind (wpAny_holding (thn (hs pins s2 σ H2 x y v ov iv u _ I2 r1 r2 r q2) fun _ s3 ⟨H3,I3,q3⟩=> ?_))))
 exact wpAny_release ⟨σ,H3,I3,q3⟩
noncomputable def Zrd (te:TE) (g:TG):TS:=fun D σ H=>te σ H fun x H1=>g x σ H1 D.nx
theorem ZjQ {tg e:Expr} {te:TE} {g:TG} (he:PE X e te) (hg:PG X tg g) (hs:swapsWithSole [tg] e pos.line X.env=pure false:=by rfl) (hw:swappedStores [tg] e X.env=pure none:=by rfl)
  (h1:(assignEach [tg] X.env).map (·.2)=[assign tg X.env]:=by rfl):PS X (.Assign [tg] e pos) (Zrd te g):=by
 intro pins s σ H D I h
 refine wpAny_Assign_stores (thn (he pins s σ H _ I h) fun v s1 ⟨x,H1,I1,r1,q1⟩=> ?_) hs hw
 rw[h1]
 exact thn (hg pins s1 σ H1 x v _ I1 r1 q1) fun _ s2 q=>q
theorem Zmm {i:Nat} {x:Str} {e:Expr} {te:TE} {pos':Pos} (hN:X.N.Nodup) (hi:X.N[i]?=some x) (hx:Loc X.env.scope x) (hm:X.may i=true) (he:PE X e te) (hs:swapsWith e (some (.Name x pos')) pos.line X.env=pure false:=by rfl) (hf:X.fn x=true\/X.env.scope.names.lookup x=some .local:=by first | exact .inl rfl | exact .inr rfl | assumption):
  PS X (.Assign [.Name x pos'] e pos) (Zrd te (Zmj i)):=by
 intro pins s σ H D I h
 refine wpAny_Assign_Name (thn (he pins s σ H _ I h) fun v s1 ⟨y,H1,I1,r1,q1⟩=> ?_) hs
 exact Zb5 I1 hN hi hx hm r1 (fun s2 I2=>⟨_,H1,I2,q1⟩) hf
noncomputable def Zsm (i j:Nat) (ta:TA):TS:=fun D σ H=>ta σ H fun vs H1=> ∃ v w,vs=[v,w]/\D.nx ((σ.set i (some v)).set j (some w)) H1
theorem Zmn {i j:Nat} {x y:Str} {a b:Expr} {ta:TA} {px py pt:Pos} {kt k2 pt2} (hc:X.calm=true) (mi:X.may i=true) (mj:X.may j=true) (hN:X.N.Nodup) (hi:X.N[i]?=some x) (hj:X.N[j]?=some y) (hij:i≠j)
  (hx:X.env.scope.names.lookup x=some .local) (hy:X.env.scope.names.lookup y=some .local) (ha:PA X [a,b] ta)
  (hw:swappedStores [.Tuple [.Name x px,.Name y py] kt pt] (.Tuple [a,b] k2 pt2) X.env=pure (some [x,y]))
  (hs:swapsWithSole [.Tuple [.Name x px,.Name y py] kt pt] (.Tuple [a,b] k2 pt2) pos.line X.env=pure false:=by rfl):
  PS X (.Assign [.Tuple [.Name x px,.Name y py] kt pt] (.Tuple [a,b] k2 pt2) pos) (Zsm i j ta):=by
 intro pins s σ H D I h
 rw[exec_Assign_arm]
 refine wpAny_bind (wpAny_standAt ?_)
 rw[hs]
 refine wpAny_bind (wpAny_pure ?_)
 rw[if_neg (by decide)]
 refine wpAny_bind (Tuple_ (thn (ha _ pins s σ H _ I h) fun us s1 ⟨vs,H1,I1,r1,q1⟩=> ?_))
 obtain ⟨v,w,e1,q1⟩:=q1
 subst e1
 obtain ⟨u1,u2,rfl,rv,rw'⟩: ∃ u1 u2,us=[u1,u2]/\Zaf v u1/\Zaf w u2:=by
  cases r1 with
  |cons p q=>
   cases q with
   |cons p' q'=>
    cases q'
    exact ⟨_,_,rfl,p,p'⟩
 refine wpAny_newObj_type ?_ (by show 2<=sizeLine;decide)
 have I2:Inv X pins σ H1 { s1 with heap:=s1.heap.push { cls:= .type "tuple",data:= .seq [u1,u2].toArray } }:=I1.kept (t':=s1.toks) fun b o e=>Heap.get?_push_of_some _ e
 rw[hw]
 refine wpAny_bind (wpAny_pure ?_)
 show wpAny (model X.prog X.w) X.A (do rule "assign.swapped-stores";let items <- unpackItems (.ref s1.heap.objs.size) 2 none;assignInOrder [fun v=>bindName X.env y v,fun v=>bindName X.env x v] items.reverse;pure Flow.next) _ _ _
 refine wpAny_bind (wpAny_rule (wpAny_bind (unpackItems_tuple (items:= #[u1,u2]) (I.ok.hd hc) (IsTup.new s1.heap _) fun h' hx'=> ?_)))
 have I3:=I2.kept (h':=h') (t':=s1.toks) fun b o e=>hx' b o (Nat.ne_of_lt (Heap.lt_size e)) e
 show wpAny _ _ (assignInOrder [fun v=>bindName X.env y v,fun v=>bindName X.env x v] [u2,u1] >>= fun _=>pure Flow.next) _ _ _
 refine wpAny_bind (assignInOrder_cons (wpAny_bindName (Zb5 I3 hN hj (.inl hy) mj rw' (fun s2 I4=> ?_) (.inr hy))))
 refine assignInOrder_cons (wpAny_bindName (Zb5 I4 hN hi (.inl hx) mi rv (fun s3 I5=>assignInOrder_nil (wpAny_pure ?_)) (.inr hx)))
 rw[List.set_comm _ _ (Ne.symm hij)] at I5
 exact ⟨_,H1,I5,q1⟩
end
section
variable {X:Cx} {pos:Pos}
noncomputable def Zmo (c:TT) (tb:TS):TS:=fun D σ H=> ∃ W:Nat->St->Hp->Prop,(∃ m,W m σ H)/\ ∀ m σ H,W m σ H->
 c σ H fun b H1=>if b=true then ∃ N:St->Hp->Prop,(∀ σ' H',N σ' H'-> ∃ m',m' < m/\W m' σ' H')/\tb { D with nx:=N,ct:=N,bk:=D.nx } σ H1 else D.nx σ H1
theorem ZiQ {c:Expr} {body:List Stmt} {tc:TT} {tb:TS} (hp:PassesOwn (model X.prog X.w) X.A X.env X.xe) (hc:PT X c tc) (hb:PSs X body tb):PS X (.While c body [] pos) (Zmo tc tb):=by
 intro pins s σ H D I h
 obtain ⟨W,⟨m0,w0⟩,turn⟩:=h
 refine wpAny_While (codeAny_whileLoop (fun n s'=> ∃ σ' H',Inv X pins σ' H' s'/\W n σ' H') ?_ m0 ⟨σ,H,I,w0⟩)
 rintro n s1 ⟨σ1,H1,I1,w1⟩
 refine wpAny_passesOwn hp (thn (hc pins s1 σ1 H1 _ I1 (turn n σ1 H1 w1)) fun b s2 ⟨H2,I2,q2⟩=> ?_)
 cases b with
 |true=>
  obtain ⟨N,hN,q2⟩:=q2
  rw[if_pos rfl]
  refine wpAny_passesOwn hp (thn (hb pins s2 σ1 H2 _ I2 q2) fun f s3 q3=> ?_)
  cases f with
  |next=>
   obtain ⟨σ3,H3,I3,n3⟩:=q3
   obtain ⟨m',hm,w3⟩:=hN σ3 H3 n3
   exact ⟨m',hm,σ3,H3,I3,w3⟩
  |cont=>
   obtain ⟨σ3,H3,I3,n3⟩:=q3
   obtain ⟨m',hm,w3⟩:=hN σ3 H3 n3
   exact ⟨m',hm,σ3,H3,I3,w3⟩
  |brk=>exact q3
  |ret v=>exact q3
 |false=>
  rw[if_neg Bool.false_ne_true]
  exact wpAny_execs_nil ⟨σ1,H2,I2,q2⟩
end
structure It where
 go:Nat->Hp->Prop
 yld:Nat->Hp->V->Hp->Prop
 stop:Nat->Hp->Prop
noncomputable def Zem (X:Cx) (pins:List (Addr × Obj)) (H:Hp) (b:Addr):Prop:=
 H b=none/\b≠X.env.locals/\b ∉ X.fs/\(b∈X.ex\/X.s₀.heap.objs.size<=b)/\(∀ x c,X.env.cells.lookup x=some c->c≠b)/\ ∀ p∈X.pn ++ pins,p.1≠b
theorem Inv.fpOk {X:Cx} {pins:List (Addr × Obj)} {σ:St} {H H':Hp} {s:Shared} {b:Addr} (I:Inv X pins σ H s) (hb:s.heap.objs.size<=b) (hn:H' b=none):Zem X pins H' b:=by
 refine ⟨hn,Nat.ne_of_gt (Nat.lt_of_lt_of_le I.lt hb),I.nofs hb,.inr (Nat.le_trans I.sz hb),fun x c e z=> ?_,fun p hp z=> ?_⟩
 ·obtain ⟨v,q⟩:=I.cell x c e
  exact absurd (Nat.lt_of_lt_of_le q.lt (by rw[z];exact hb)) (Nat.lt_irrefl _)
 ·exact absurd (Nat.lt_of_lt_of_le (Heap.lt_size (I.pin p hp).1) (by rw[z];exact hb)) (Nat.lt_irrefl _)
structure Turn (P:Program) (w:World) (K:PySem.W.Frag) (B:Around) (tg:Expr) (J:It) (fp:List Addr) (it:Addr) (tn:Nat->Heap->Prop):Prop where
 mem:it∈fp
 obj: ∀ i h,tn i h-> ∀ b∈fp,∃ o,h.get? b=some o/\ ∀ v,o.data≠ .cell v
 keep: ∀ i h h',tn i h->(∀ b∈fp,∀ o,h.get? b=some o->h'.get? b=some o)->tn i h'
 item: ∀ (X:Cx),X.prog=P->X.w=w->X.K=K->X.A=B-> ∀ (i:Nat) (pins:List (Addr × Obj)) (s:Shared) (σ:St) (H:Hp) (E:Value->Shared->Prop),Inv X pins σ H s->(∀ b∈fp,Zem X pins H b)->tn i s.heap->J.go i H->
  wpAny (model P w) X.A (pyNext (.ref it)) (fun r s1=> ∃ u,r=some u/\
   wpAny (model P w) X.A (letOwnedTupleGo tg (.ref it) u) (fun _ s2=> ∃ x H',Inv X pins σ H' s2/\Zaf x u/\J.yld i H x H'/\tn (i + 1) s2.heap/\ ∀ b∈fp,H' b=none) E s1) E s
 done: ∀ (X:Cx),X.prog=P->X.w=w->X.K=K->X.A=B-> ∀ (i:Nat) (pins:List (Addr × Obj)) (s:Shared) (σ:St) (H:Hp) (E:Value->Shared->Prop),Inv X pins σ H s->(∀ b∈fp,Zem X pins H b)->tn i s.heap->J.stop i H->
  wpAny (model P w) X.A (pyNext (.ref it)) (fun r s1=>r=none/\Inv X pins σ H s1) E s
 self: ∀ (A:Around) (i:Nat) (s:Shared) (Q:Value->Shared->Prop) (E:Value->Shared->Prop),tn i s.heap->Q (.ref it) s->wpAny (model P w) A (pyIter (.ref it)) Q E s
noncomputable abbrev TI:=St->Hp->(It->Hp->Prop)->Prop
noncomputable def PIE (X:Cx) (pins:List (Addr × Obj)) (σ:St) (tg:Expr) (R:It->Hp->Prop) (itv:Value) (s2:Shared):Prop:=
 ∃ (it:Addr) (fp:List Addr) (tn:Nat->Heap->Prop) (J:It) (H':Hp),itv= .ref it/\Inv X pins σ H' s2/\Turn X.prog X.w X.K X.A tg J fp it tn/\tn 0 s2.heap/\(∀ b∈fp,Zem X pins H' b)/\R J H'
noncomputable def PI (X:Cx) (tg iter:Expr) (wi:TI):Prop:=
 ∀ (pins:List (Addr × Obj)) (s:Shared) (σ:St) (H:Hp) (R:It->Hp->Prop),Inv X pins σ H s->wi σ H R->
  wpAny (model X.prog X.w) X.A (eval iter X.env) (fun v s1=>wpAny (model X.prog X.w) X.A (pyIter v) (PIE X pins σ tg R) X.xe s1) X.xe s
theorem ZkH {M:Model} {A:Around} {E:Value->Shared->Prop} {s:Shared} {tg:Expr} {it:Addr} {u:Value} {o:Obj} {n:String} {vs:Array Value} {Q:Unit->Shared->Prop} (ho:s.heap.get? it=some o) (hc:o.cls= .type n) (hd:o.data= .fields vs)
  (hn:["enumerate","zip","dict_itemiterator","dict_reverseitemiterator","odict_iterator","itertools.zip_longest","itertools.pairwise"].contains n=false) (hQ:Q () s):wpAny M A (letOwnedTupleGo tg (.ref it) u) Q E s:=by
 unfold letOwnedTupleGo
 cases tg<;>first
  |exact wpAny_pure hQ
  | (cases u<;>first
    |exact wpAny_pure hQ
    | (refine wpAny_bind (wpAny_load ho ?_)
       rw[hc,hd]
       show wpAny M A (if (["enumerate","zip","dict_itemiterator","dict_reverseitemiterator","odict_iterator","itertools.zip_longest","itertools.pairwise"].contains n && vs[0]? == some (rawInt _))=true then _ else _) Q E s
       rw[if_neg (by intro h;rw[hn,Bool.false_and] at h;cases h)]
       exact wpAny_pure hQ))
noncomputable def Itl (K:PySem.W.Frag) (a:Addr):It:=
 ⟨fun i H=> ∃ xs x,SqL K H a xs/\xs[i]?=some x,fun i H x H'=>H'=H/\ ∀ xs,SqL K H a xs->xs[i]?=some x,fun i H=> ∃ xs,SqL K H a xs/\xs.length<=i⟩
noncomputable def Itt (K:PySem.W.Frag) (a:Addr):It:=
 ⟨fun i H=> ∃ xs x,SqT K H a xs/\xs[i]?=some x,fun i H x H'=>H'=H/\ ∀ xs,SqT K H a xs->xs[i]?=some x,fun i H=> ∃ xs,SqT K H a xs/\xs.length<=i⟩
noncomputable def Itr (lo:Int) (n:Nat):It:=⟨fun i _=>i < n,fun i H x H'=>H'=H/\x= .int (lo + i),fun i _=>n<=i⟩
theorem Zhe {P:Program} {w:World} {K:PySem.W.Frag} {B:Around} {tg:Expr} (a it:Addr):Turn P w K B tg (Itl K a) [it] it (fun i h=>h.IsListIter it a i) where
 mem:=by simp
 obj:=fun i h st b hb=>by
  have e:b=it:=by simpa using hb
  subst e
  obtain ⟨o,e,c,d⟩:=st
  exact ⟨o,e,fun v z=>by rw[d] at z;cases z⟩
 keep:=fun i h h' st k=>st.at fun o e=>k it (by simp) o e
 item:=by
  intro X hP hw hK hB i pins s σ H E I hf st hg
  subst hP hw hK
  obtain ⟨xs,x,hq,hx⟩:=hg
  obtain ⟨its,rv,p,hz⟩:=I.list hq
  obtain ⟨u,hu,ru⟩:=rv.get hx
  obtain ⟨f0,f1,f2,f3,f4,f5⟩:=hf it (by simp)
  refine wpAny_pyNext_list_item st p.isList (x:=u) (by simpa using hu) fun h' st' sb=> ?_
  have I1:Inv X pins σ H { s with heap:=h' }:=I.turned (t':=s.toks) (fun b o hb e=>(sb.2 b hb).trans e) f0 f1 f3 f4 f5
  obtain ⟨o,e,c,d⟩:=id st'
  exact ⟨u,rfl,ZkH (s:={ s with heap:=h' }) e c d (by decide) ⟨x,H,I1,ru,⟨rfl,fun ys hy=>by rw[I.list_inj hy hq];exact hx⟩,st',fun b hb=>(hf b hb).1⟩⟩
 done:=by
  intro X hP hw hK hB i pins s σ H E I hf st hg
  subst hP hw hK
  obtain ⟨xs,hq,hx⟩:=hg
  obtain ⟨its,rv,p,hz⟩:=I.list hq
  obtain ⟨f0,f1,f2,f3,f4,f5⟩:=hf it (by simp)
  have hl:=rv.length
  exact DQ.ZiN I.qh st p.isList (by simp;omega) fun h' eb=>⟨rfl,I.turned (t':=s.toks) (fun b o hb e=>eb b o hb e) f0 f1 f3 f4 f5⟩
 self:=fun _ _ _ _ _ st h=>wpAny_pyIter_listiter st h
theorem Zgh {P:Program} {w:World} {K:PySem.W.Frag} {B:Around} {tg:Expr} (a it:Addr):Turn P w K B tg (Itt K a) [it] it (fun i h=>h.IsTupleIter it a i) where
 mem:=by simp
 obj:=fun i h st b hb=>by
  have e:b=it:=by simpa using hb
  subst e
  obtain ⟨o,e,c,d⟩:=st
  exact ⟨o,e,fun v z=>by rw[d] at z;cases z⟩
 keep:=fun i h h' st k=>st.at fun o e=>k it (by simp) o e
 item:=by
  intro X hP hw hK hB i pins s σ H E I hf st hg
  subst hP hw hK
  obtain ⟨xs,x,hq,hx⟩:=hg
  obtain ⟨its,rv,p,hz⟩:=I.tuple hq
  obtain ⟨u,hu,ru⟩:=rv.get hx
  obtain ⟨f0,f1,f2,f3,f4,f5⟩:=hf it (by simp)
  refine wpAny_pyNext_tuple_item st (show s.heap.IsTuple a its.toArray from p) (x:=u) (by simpa using hu) fun h' st' sb=> ?_
  have I1:Inv X pins σ H { s with heap:=h' }:=I.turned (t':=s.toks) (fun b o hb e=>(sb.2 b hb).trans e) f0 f1 f3 f4 f5
  obtain ⟨o,e,c,d⟩:=id st'
  exact ⟨u,rfl,ZkH (s:={ s with heap:=h' }) e c d (by decide) ⟨x,H,I1,ru,⟨rfl,fun ys hy=>by rw[I.tuple_inj hy hq];exact hx⟩,st',fun b hb=>(hf b hb).1⟩⟩
 done:=by
  intro X hP hw hK hB i pins s σ H E I hf st hg
  subst hP hw hK
  obtain ⟨xs,hq,hx⟩:=hg
  obtain ⟨its,rv,p,hz⟩:=I.tuple hq
  obtain ⟨f0,f1,f2,f3,f4,f5⟩:=hf it (by simp)
  have hl:=rv.length
  exact DQ.Zg7 I.qh st (show s.heap.IsTuple a its.toArray from p) (by simp;omega) fun h' eb=>⟨rfl,I.turned (t':=s.toks) (fun b o hb e=>eb b o hb e) f0 f1 f3 f4 f5⟩
 self:=fun _ _ _ _ _ st h=>wpAny_pyIter_tupleiter st h
theorem Zgi {P:Program} {w:World} {K:PySem.W.Frag} {B:Around} {tg:Expr} (it:Addr) (lo:Int) (n:Nat):Turn P w K B tg (Itr lo n) [it] it (fun i h=>IsRangeIter h it (lo + (i:Nat) * 1) ((n:Int) - (i:Nat)) 1) where
 mem:=by simp
 obj:=fun i h st b hb=>by
  have e:b=it:=by simpa using hb
  subst e
  exact ⟨_,st,fun v z=>by
   have z':Data.fields _=Data.cell v:=z
   cases z'⟩
 keep:=fun i h h' st k=>k it (by simp) _ st
 item:=by
  intro X hP hw hK hB i pins s σ H E I hf st hg
  subst hP hw hK
  obtain ⟨f0,f1,f2,f3,f4,f5⟩:=hf it (by simp)
  have hlt:i < n:=hg
  refine wpAny_pyNext_range_item st (by omega) fun h' st' sb=> ?_
  have I1:Inv X pins σ H { s with heap:=h',toks:=s.toks + 1 }:=I.turned (fun b o hb e=>(sb.2 b hb).trans e) f0 f1 f3 f4 f5
  have st2:IsRangeIter h' it (lo + ((i + 1:Nat):Int) * 1) ((n:Int) - ((i + 1:Nat):Int)) 1:=by
   have e1:lo + ((i + 1:Nat):Int) * 1=lo + (i:Nat) * 1 + 1:=by omega
   have e2:(n:Int) - ((i + 1:Nat):Int)=(n:Int) - (i:Nat) - 1:=by omega
   rw[e1,e2]
   exact st'
  refine ⟨_,rfl,ZkH (s:={ s with heap:=h',toks:=s.toks + 1 }) (n:="range_iterator") st2 rfl rfl (by decide) ⟨.int (lo + i),H,I1,⟨s.toks,?_⟩,⟨rfl,rfl⟩,st2,fun b hb=>(hf b hb).1⟩⟩
  rw[Int.mul_one]
 done:=by
  intro X hP hw hK hB i pins s σ H E I hf st hg
  subst hP hw hK
  obtain ⟨f0,f1,f2,f3,f4,f5⟩:=hf it (by simp)
  exact DQ.Zg6 I.qh st (by have:n<=i:=hg;omega) fun h' eb=>⟨rfl,I.turned (t':=s.toks) (fun b o hb e=>eb b o hb e) f0 f1 f3 f4 f5⟩
 self:=fun _ _ _ _ _ st h=>wpAny_pyIter_rangeiter st h
end L2
namespace L2
open PySem PySem.Spec PyProof.Rows
section
variable {X:Cx} {tg:Expr}
theorem ZiR {pins:List (Addr × Obj)} {σ:St} {H:Hp} {s:Shared} {R:It->Hp->Prop} {E:Value->Shared->Prop} {lo hi:Int} {t u v:Tok} {tk:Nat} (I:Inv X pins σ H s) (h1: -(2 ^ 62)<=lo) (h2:lo < 2 ^ 62) (h3: -(2 ^ 62)<=hi) (h4:hi < 2 ^ 62)
  (q:R (Itr lo (hi - lo).toNat) H):wpAny (model X.prog X.w) X.A (pyIter (.ref s.heap.objs.size)) (PIE X pins σ tg R) E { s with heap:=s.heap.push { cls:= .type "range",data:= .fields #[.int lo t,.int hi u,.int 1 v] },toks:=tk }:=by
 refine wpAny_pyIter_range (IsRange.new ..) (small_one h1 h2 h3 h4) ?_
 have I1:Inv X pins σ H { s with heap:=s.heap.push { cls:= .type "range",data:= .fields #[.int lo t,.int hi u,.int 1 v] },toks:=tk }:=I.kept fun b o e=>Heap.get?_push_of_some _ e
 refine ⟨(s.heap.push { cls:= .type "range",data:= .fields #[.int lo t,.int hi u,.int 1 v] }).objs.size,[(s.heap.push { cls:= .type "range",data:= .fields #[.int lo t,.int hi u,.int 1 v] }).objs.size],_,_,H,rfl,
  I1.kept (t':=tk) fun b o e=>Heap.get?_push_of_some _ e,Zgi _ lo (hi - lo).toNat,?_,fun b hb=> ?_,q⟩
 ·have e1:lo + ((0:Nat):Int) * 1=lo:=by simp
  have e2:(((hi - lo).toNat:Nat):Int) - ((0:Nat):Int)=Builtin.Range.rangeSize lo hi 1:=by rw[rangeSize_one];split<;>omega
  show IsRangeIter _ _ (lo + ((0:Nat):Int) * 1) ((((hi - lo).toNat:Nat):Int) - ((0:Nat):Int)) 1
  rw[e1,e2]
  exact Heap.get?_push_size _ rfl
 ·have e:b=(s.heap.push { cls:= .type "range",data:= .fields #[.int lo t,.int hi u,.int 1 v] }).objs.size:=by simpa using hb
  subst e
  exact I1.fpOk (Nat.le_refl _) (I1.hok.fresh (Nat.le_refl _))
noncomputable def Zpo (ta:TA):TI:=fun σ H R=>ta σ H fun vs H1=> ∃ j:Int,vs=[.int j]/\ -(2 ^ 62)<=j/\j < 2 ^ 62/\R (Itr 0 j.toNat) H1
theorem Zen {a:Expr} {ta:TA} {p pos:Pos} (hg:Gl X "range") (hm:X.mg "range"=none) (ha:PA X [a] ta) (hs:starEach [a] X.env=[(false,eval a X.env)]:=by rfl):PI X tg (.Call (.Name "range" p) [a] [] pos) (Zpo ta):=by
 intro pins s σ H R I h
 refine Call_ (Zel I hg hm boot_range (PyProof.Rows.callWith_type1 (thn (ha pos pins s σ H _ I h) fun us s1 ⟨vs,H1,I1,r1,q1⟩=> ?_) hs rfl))
 obtain ⟨j,e,q1,q2,q⟩:=q1
 subst e
 cases r1 with
 |cons r rr=>
  cases rr
  obtain ⟨t,rfl⟩:=r
  exact call_range_1 (ZiR I1 (by omega) (by omega) q1 q2 (by simpa using q))
noncomputable def Zsn (wi:TI) (g:TG) (tb:TS):TS:=fun D σ H=>wi σ H fun J H1=> ∃ W:Nat->Nat->St->Hp->Prop,(∃ m,W 0 m σ H1)/\ ∀ i m σ H,W i m σ H->
 (J.stop i H/\D.nx σ H)\/(J.go i H/\ ∃ N:St->Hp->Prop,(∀ σ' H',N σ' H'-> ∃ m',m' < m/\W (i + 1) m' σ' H')/\ ∀ x H',J.yld i H x H'->g x σ H' fun σ2 H2=>tb { D with nx:=N,ct:=N,bk:=D.nx } σ2 H2)
noncomputable def ZdA (fp:List Addr) (h:Heap):List (Addr × Obj):=fp.filterMap fun b=>(h.get? b).map fun o=>(b,o)
theorem ZbF {fp:List Addr} {h:Heap} {b:Addr} {o:Obj} (hb:b∈fp) (e:h.get? b=some o):(b,o)∈ZdA fp h:=List.mem_filterMap.mpr ⟨b,hb,by rw[e];rfl⟩
theorem Zhf {fp:List Addr} {h:Heap} {p:Addr × Obj} (hp:p∈ZdA fp h):p.1∈fp/\h.get? p.1=some p.2:=by
 obtain ⟨b,hb,e⟩:=List.mem_filterMap.mp hp
 cases q:h.get? b with
 |none=>rw[q] at e;cases e
 |some o=>
  rw[q] at e
  have e':(b,o)=p:=Option.some.inj e
  subst e'
  exact ⟨hb,q⟩
theorem Inv.pinned {pins:List (Addr × Obj)} {σ:St} {H:Hp} {s:Shared} {fp:List Addr} (I:Inv X pins σ H s) (hf: ∀ b∈fp,Zem X pins H b) (ho: ∀ b∈fp,∃ o,s.heap.get? b=some o/\ ∀ v,o.data≠ .cell v):Inv X (pins ++ ZdA fp s.heap) σ H s:=
 I.pins_of fun p hp=>(List.mem_append.mp hp).elim (fun z=>I.pin p (List.mem_append_right _ z)) fun z=>by
  obtain ⟨hb,e⟩:=Zhf z
  obtain ⟨f0,f1,f2,_⟩:=hf p.1 hb
  obtain ⟨o,e',d⟩:=ho p.1 hb
  rw[e] at e';cases e'
  exact ⟨e,f0,f1,f2,d⟩
theorem Inv.unpinned {pins pl:List (Addr × Obj)} {σ:St} {H:Hp} {s:Shared} (I:Inv X (pins ++ pl) σ H s):Inv X pins σ H s:=I.pins_of fun p hp=>I.pin p (List.mem_append_right _ (List.mem_append_left _ hp))
theorem ZjR {iter:Expr} {body:List Stmt} {wi:TI} {g:TG} {tb:TS} {pos:Pos} (hp:PassesOwn (model X.prog X.w) X.A X.env X.xe) (hi:PI X tg iter wi) (hg:PG X tg g) (hb:PSs X body tb)
  (hs: ∀ x,foldedSetIterable iter X.env x=pure x:=by intro _;rfl):PS X (.For tg iter body [] pos) (Zsn wi g tb):=by
 intro pins s σ H D I h
 refine wpAny_For (thn (hi pins s σ H _ I h) fun v s1 h1=>thn h1 fun itv s2 h2=> ?_) hs
 obtain ⟨it,fp,tn,J,H2,e,I2,T,st2,f2,W,⟨m0,w0⟩,turn⟩:=h2
 subst e
 have stat: ∀ {H':Hp},(∀ b∈fp,H' b=none)-> ∀ b∈fp,Zem X pins H' b:=fun hn b hb=>⟨hn b hb,(f2 b hb).2⟩
 refine codeAny_forLoop_any (fun n s'=> ∃ i σ' H',Inv X pins σ' H' s'/\tn i s'.heap/\(∀ b∈fp,H' b=none)/\W i n σ' H') ?_ m0 ⟨0,σ,H2,I2,st2,fun b hb=>(f2 b hb).1,w0⟩
 rintro n s3 ⟨i,σ3,H3,I3,st3,fr3,w3⟩
 rcases turn i n σ3 H3 w3 with ⟨stop,qn⟩ | ⟨go,N,hN,step⟩
 ·refine wpAny_passesOwn hp (thn (T.done X rfl rfl rfl rfl i pins s3 σ3 H3 X.xe I3 (stat fr3) st3 stop) fun r s4 ⟨hr,I4⟩=> ?_)
  subst hr
  exact wpAny_execs_nil ⟨σ3,H3,I4,qn⟩
 ·refine wpAny_passesOwn hp (thn (T.item X rfl rfl rfl rfl i pins s3 σ3 H3 X.xe I3 (stat fr3) st3 go) fun r s4 ⟨u,hr,h4⟩=> ?_)
  subst hr
  refine wpAny_passesOwn hp (thn h4 fun _ s5 ⟨x,H5,I5,r5,y5,st5,fr5⟩=> ?_)
  have I5':=I5.pinned (stat fr5) (T.obj _ _ st5)
  refine wpAny_passesOwn hp (thn (hg _ s5 σ3 H5 x u _ I5' r5 (step x H5 y5)) fun _ s6 ⟨σ6,H6,I6,q6⟩=> ?_)
  refine wpAny_passesOwn hp (thn (hb _ s6 σ6 H6 _ I6 q6) fun f s7 q7=> ?_)
  have again: ∀ {σ7:St} {H7:Hp},Inv X (pins ++ ZdA fp s5.heap) σ7 H7 s7->N σ7 H7-> ∃ m,m < n/\ ∃ i σ' H',Inv X pins σ' H' s7/\tn i s7.heap/\(∀ b∈fp,H' b=none)/\W i m σ' H':=fun {σ7 H7} I7 n7=>by
   obtain ⟨m',hm,w7⟩:=hN σ7 H7 n7
   refine ⟨m',hm,i + 1,σ7,H7,I7.unpinned,T.keep _ _ _ st5 fun b hb o e=>(I7.pin (b,o) (List.mem_append_right _ (List.mem_append_right _ (ZbF hb e)))).1,fun b hb=> ?_,w7⟩
   obtain ⟨o,e,d⟩:=T.obj _ _ st5 b hb
   exact (I7.pin (b,o) (List.mem_append_right _ (List.mem_append_right _ (ZbF hb e)))).2.1
  cases f with
  |next=>obtain ⟨σ7,H7,I7,n7⟩:=q7;exact again I7 n7
  |cont=>obtain ⟨σ7,H7,I7,n7⟩:=q7;exact again I7 n7
  |brk=>obtain ⟨σ7,H7,I7,q7⟩:=q7;exact ⟨σ7,H7,I7.unpinned,q7⟩
  |ret v=>obtain ⟨x7,σ7,H7,I7,r7,q7⟩:=q7;exact ⟨x7,σ7,H7,I7.unpinned,r7,q7⟩
end
theorem Zhg {lo:Int} {n:Nat} {g:TG} {tb:TS} {D:Ends} {σ:St} {H:Hp} (Pv:Nat->St->Hp->Prop) (h0:Pv 0 σ H)
  (hs: ∀ i σ H,i < n->Pv i σ H->g (.int (lo + i)) σ H fun σ2 H2=>tb { D with nx:=Pv (i + 1),ct:=Pv (i + 1),bk:=D.nx } σ2 H2) (hd: ∀ σ H,Pv n σ H->D.nx σ H):
  ∃ W:Nat->Nat->St->Hp->Prop,(∃ m,W 0 m σ H)/\ ∀ i m σ H,W i m σ H->
   ((Itr lo n).stop i H/\D.nx σ H)\/((Itr lo n).go i H/\ ∃ N:St->Hp->Prop,(∀ σ' H',N σ' H'-> ∃ m',m' < m/\W (i + 1) m' σ' H')/\ ∀ x H',(Itr lo n).yld i H x H'->g x σ H' fun σ2 H2=>tb { D with nx:=N,ct:=N,bk:=D.nx } σ2 H2):=by
 refine ⟨fun i m σ H=>m=n - i/\i<=n/\Pv i σ H,⟨n,by simp,Nat.zero_le _,h0⟩,?_⟩
 rintro i m σ H ⟨rfl,hi,p⟩
 by_cases hlt:i < n
 ·refine .inr ⟨hlt,Pv (i + 1),fun σ' H' p'=>⟨n - (i + 1),by omega,rfl,hlt,p'⟩,fun x H' y=> ?_⟩
  obtain ⟨e,y⟩:=y
  subst e y
  exact hs i σ _ hlt p
 ·have e:i=n:=by omega
  subst e
  exact .inl ⟨Nat.le_refl _,hd σ H p⟩
end L2
namespace L2
open PySem PySem.Spec PyProof.Rows
noncomputable abbrev R2:=V->V->Hp->VK->Prop
noncomputable def OpR (X:Cx) (f:Value->Value->Sem Value) (r:R2):Prop:=
 ∀ (pins:List (Addr × Obj)) (s:Shared) (σ:St) (H:Hp) (x y:V) (v u:Value) (Q:VK),Inv X pins σ H s->Zaf x v->Zaf y u->r x y H Q->
  wpAny (model X.prog X.w) X.A (f v u) (EP X pins σ Q) X.xe s
noncomputable def UnR (X:Cx) (f:Value->Sem Value) (r:V->Hp->VK->Prop):Prop:=
 ∀ (pins:List (Addr × Obj)) (s:Shared) (σ:St) (H:Hp) (x:V) (v:Value) (Q:VK),Inv X pins σ H s->Zaf x v->r x H Q->
  wpAny (model X.prog X.w) X.A (f v) (EP X pins σ Q) X.xe s
noncomputable def ZbM (X:Cx) (f:Value) (r:List V->Hp->VK->Prop):Prop:=
 ∀ (pins:List (Addr × Obj)) (s:Shared) (σ:St) (H:Hp) (xs:List V) (us:List Value) (Q:VK),Inv X pins σ H s->ZZ xs us->r xs H Q->
  wpAny (model X.prog X.w) X.A (call f us) (EP X pins σ Q) X.xe s
noncomputable def tOp (r:R2) (ta tb:TE):TE:=fun σ H Q=>ta σ H fun x H1=>tb σ H1 fun y H2=>r x y H2 Q
noncomputable def tUn (r:V->Hp->VK->Prop) (ta:TE):TE:=fun σ H Q=>ta σ H fun x H1=>r x H1 Q
noncomputable def rI (C:Int->Int->Prop) (g:Int->Int->V):R2:=fun x y H Q=> ∃ i j,x= .int i/\y= .int j/\C i j/\Q (g i j) H
noncomputable def rI0 (g:Int->Int->V):R2:=fun x y H Q=> ∃ i j,x= .int i/\y= .int j/\Q (g i j) H
noncomputable def rU (g:Int->V):V->Hp->VK->Prop:=fun x H Q=> ∃ i,x= .int i/\Q (g i) H
section
variable {X:Cx} {a b c:Expr} {ta tb tc:TE} {pos:Pos}
theorem Zpp (ha:PE X a ta) (hb:PE X b tb) {pins:List (Addr × Obj)} {s:Shared} {σ:St} {H:Hp} {R:V->V->Hp->Prop} (I:Inv X pins σ H s)
  (h:ta σ H fun x H1=>tb σ H1 fun y H2=>R x y H2) {Q:Value->Shared->Prop} {f:Value->Value->Sem Value}
  (hf: ∀ v u s2 x y H2,Inv X pins σ H2 s2->Zaf x v->Zaf y u->R x y H2->wpAny (model X.prog X.w) X.A (f v u) Q X.xe s2):
  wpAny (model X.prog X.w) X.A (eval a X.env) (fun v s₁=>wpAny (model X.prog X.w) X.A (eval b X.env) (fun u s₂=>wpAny (model X.prog X.w) X.A (f v u) Q X.xe s₂) X.xe s₁) X.xe s:=by
 refine thn (ha pins s σ H _ I h) fun v s1 ⟨x,H1,I1,r1,q1⟩=> ?_
 refine thn (hb pins s1 σ H1 _ I1 q1) fun u s2 ⟨y,H2,I2,r2,q2⟩=> ?_
 exact hf v u s2 x y H2 I2 r1 r2 q2
theorem Zpq {op:Operator} {r:R2} (ho:OpR X (binaryOp op) r) (ha:PE X a ta) (hb:PE X b tb):PE X (.BinOp a op b pos) (tOp r ta tb):=by
 intro pins s σ H Q I h
 exact wpAny_BinOp (Zpp ha hb I h fun v u s2 x y H2 I2 rx ry q=>ho pins s2 σ H2 x y v u Q I2 rx ry q)
theorem Zmp {op:UnaryOp} {r:V->Hp->VK->Prop} (ho:UnR X (unaryOp op) r) (ha:PE X a ta):PE X (.UnaryOp op a pos) (tUn r ta):=by
 intro pins s σ H Q I h
 exact UnaryOp_ (thn (ha pins s σ H _ I h) fun v s1 ⟨x,H1,I1,r1,q1⟩=>ho pins s1 σ H1 x v Q I1 r1 q1)
theorem opI {f:Value->Value->Sem Value} {C:Int->Int->Prop} {g:Int->Int->Int}
  (rule: ∀ (i j:Int) (t u:Tok) (s:Shared) (Q:Value->Shared->Prop) (E:Value->Shared->Prop),C i j->Q (.int (g i j) s.toks) { s with toks:=s.toks + 1 }->wpAny (model X.prog X.w) X.A (f (.int i t) (.int j u)) Q E s):
  OpR X f (rI C fun i j=> .int (g i j)):=by
 intro pins s σ H x y v u Q I rx ry h
 obtain ⟨i,j,rfl,rfl,hc,q⟩:=h
 obtain ⟨t,rfl⟩:=rx
 obtain ⟨t',rfl⟩:=ry
 exact rule i j t t' s _ _ hc ⟨.int (g i j),H,I.tok _,⟨_,rfl⟩,q⟩
theorem Zre {f:Value->Value->Sem Value} {g:Int->Int->Int}
  (rule: ∀ (i j:Int) (t u:Tok) (s:Shared) (Q:Value->Shared->Prop) (E:Value->Shared->Prop),Q (.int (g i j) s.toks) { s with toks:=s.toks + 1 }->wpAny (model X.prog X.w) X.A (f (.int i t) (.int j u)) Q E s):
  OpR X f (rI0 fun i j=> .int (g i j)):=by
 intro pins s σ H x y v u Q I rx ry h
 obtain ⟨i,j,rfl,rfl,q⟩:=h
 obtain ⟨t,rfl⟩:=rx
 obtain ⟨t',rfl⟩:=ry
 exact rule i j t t' s _ _ ⟨.int (g i j),H,I.tok _,⟨_,rfl⟩,q⟩
theorem Zo8 {f:Value->Value->Sem Value} {g:Int->Int->Bool}
  (rule: ∀ (i j:Int) (t u:Tok) (s:Shared) (Q:Value->Shared->Prop) (E:Value->Shared->Prop),Q (.bool (g i j)) s->wpAny (model X.prog X.w) X.A (f (.int i t) (.int j u)) Q E s):
  OpR X f (rI0 fun i j=> .bl (g i j)):=by
 intro pins s σ H x y v u Q I rx ry h
 obtain ⟨i,j,rfl,rfl,q⟩:=h
 obtain ⟨t,rfl⟩:=rx
 obtain ⟨t',rfl⟩:=ry
 exact rule i j t t' s _ _ ⟨.bl (g i j),H,I,rfl,q⟩
noncomputable def Zrf (i j:Int):Prop:=0<=j/\j<=1000000/\i.natAbs < 2 ^ 64
theorem Zmq:OpR X (binaryOp .Add) (rI0 fun i j=> .int (i + j)):=Zre fun _ _ _ _ _ _ _ q=>add_int q
theorem Zmr:OpR X (binaryOp .Sub) (rI0 fun i j=> .int (i - j)):=Zre fun _ _ _ _ _ _ _ q=>sub_int q
theorem ZkI:OpR X (binaryOp .Mod) (rI (fun _ j=>j≠0) fun i j=> .int (i.fmod j)):=opI fun _ _ _ _ _ _ _ hc q=>mod_int' hc q
theorem Zms:OpR X (binaryOp .Pow) (rI Zrf fun i j=> .int (i ^ j.toNat)):=opI fun _ _ _ _ _ _ _ hc q=>pow_int_small hc.1 hc.2.1 hc.2.2 q
theorem unI {f:Value->Sem Value} {g:Int->Int}
  (rule: ∀ (i:Int) (t:Tok) (s:Shared) (Q:Value->Shared->Prop) (E:Value->Shared->Prop),Q (.int (g i) s.toks) { s with toks:=s.toks + 1 }->wpAny (model X.prog X.w) X.A (f (.int i t)) Q E s):
  UnR X f (rU fun i=> .int (g i)):=by
 intro pins s σ H x v Q I rx h
 obtain ⟨i,rfl,q⟩:=h
 obtain ⟨t,rfl⟩:=rx
 exact rule i t s _ _ ⟨.int (g i),H,I.tok _,⟨_,rfl⟩,q⟩
theorem ZjS:UnR X (unaryOp .USub) (rU fun i=> .int (-i)):=unI fun _ _ _ _ _ q=>neg_int q
end
section
variable {X:Cx} {a b c:Expr} {ta tb tc:TE} {pos:Pos}
theorem ZcU:OpR X (compareOp .Lt) (rI0 fun i j=> .bl (decide (i < j))):=Zo8 fun _ _ _ _ _ _ _ q=>lt_int q
theorem ZiS:OpR X (compareOp .LtE) (rI0 fun i j=> .bl (decide (i<=j))):=Zo8 fun _ _ _ _ _ _ _ q=>le_int q
theorem Zdp:OpR X (compareOp .Gt) (rI0 fun i j=> .bl (decide (j < i))):=Zo8 fun _ _ _ _ _ _ _ q=>gt_int q
theorem Zpr:OpR X (compareOp .GtE) (rI0 fun i j=> .bl (decide (j<=i))):=Zo8 fun _ _ _ _ _ _ _ q=>ge_int q
theorem OpR.or {f:Value->Value->Sem Value} {r r':R2} (h:OpR X f r) (h':OpR X f r'):OpR X f (fun x y H Q=>r x y H Q\/r' x y H Q):=by
 intro pins s σ H x y v u Q I rx ry q
 rcases q with q | q
 ·exact h pins s σ H x y v u Q I rx ry q
 ·exact h' pins s σ H x y v u Q I rx ry q
theorem ZjT (b:Expr) {op:CmpOp} (h:op≠ .In:=by decide) (h2:op≠ .NotIn:=by decide):behindInMarks op b=false:=by
 have e1:(op == CmpOp.In)=false:=by cases op<;>first | rfl | exact absurd rfl h
 have e2:(op == CmpOp.NotIn)=false:=by cases op<;>first | rfl | exact absurd rfl h2
 cases b<;>simp[behindInMarks,e1,e2]
theorem ZkJ {op:CmpOp} {r:R2} (ho:OpR X (compareOp op) r) (ha:PE X a ta) (hb:PE X b tb) (hm:behindInMarks op b=false):PE X (.Compare a [op] [b] pos) (tOp r ta tb):=by
 intro pins s σ H Q I h
 exact wpAny_Compare1 (Zpp ha hb I h fun v u s2 x y H2 I2 rx ry q=>ho pins s2 σ H2 x y v u Q I2 rx ry q) hm
noncomputable def Zmt (t:TE):TT:=fun σ H Q=>t σ H fun x H'=> ∃ k,x= .bl k/\Q k H'
theorem ZkK {op:CmpOp} {r:R2} (ho:OpR X (compareOp op) r) (ha:PE X a ta) (hb:PE X b tb) (hm:behindInMarks op b=false):PT X (.Compare a [op] [b] pos) (Zmt (tOp r ta tb)):=by
 intro pins s σ H Q I h
 refine wpAny_isTrue_Compare1 (thn (ha pins s σ H _ I h) fun v s1 ⟨x,H1,I1,r1,q1⟩=>thn (hb pins s1 σ H1 _ I1 q1) fun u s2 ⟨y,H2,I2,r2,q2⟩=>
  thn (ho pins s2 σ H2 x y v u _ I2 r1 r2 q2) fun c s3 ⟨z,H3,I3,r3,k,e,q3⟩=> ?_) hm
 subst e
 cases r3
 exact wpAny_truthy_bool ⟨H3,I3,q3⟩
noncomputable def ZjU (r r':R2) (ta tb tc:TE):TE:=fun σ H Q=>ta σ H fun x H1=>tb σ H1 fun y H2=>r x y H2 fun z H3=> ∃ k,z= .bl k/\
 (if k=true then tc σ H3 fun w' H4=>r' y w' H4 Q else Q (.bl false) H3)
theorem ZiT {op op':CmpOp} {r r':R2} (ho:OpR X (compareOp op) r) (ho':OpR X (compareOp op') r') (ha:PE X a ta) (hb:PE X b tb) (hc:PE X c tc)
  (hm:lastMarks [op,op'] [b,c]=false:=by with_unfolding_all rfl):PE X (.Compare a [op,op'] [b,c] pos) (ZjU r r' ta tb tc):=by
 intro pins s σ H Q I h
 refine Compare_chain (thn (ha pins s σ H _ I h) fun v s1 ⟨x,H1,I1,r1,q1⟩=>chain_link (thn (hb pins s1 σ H1 _ I1 q1) fun u s2 ⟨y,H2,I2,r2,q2⟩=>
  thn (ho pins s2 σ H2 x y v u _ I2 r1 r2 q2) fun d s3 ⟨z,H3,I3,r3,k,e,q3⟩=> ?_)) hm
 subst e
 cases r3
 refine wpAny_truthy_bool ?_
 cases k with
 |false=>exact ite_ff ⟨.bl false,H3,I3,rfl,q3⟩
 |true=>exact ite_tt (chain_last (thn (hc pins s3 σ H3 _ I3 q3) fun w' s4 ⟨z',H4,I4,r4,q4⟩=>ho' pins s4 σ H4 y z' u w' Q I4 r2 r4 q4))
theorem ZfB:(sizeLine:Nat) < 2 ^ 63:=by rw[sizeLine_eq];decide
theorem Zgj:OpR X (binaryOp .Add) (fun x y H Q=> ∃ i j,x= .str i/\y= .str j/\i.length + j.length<=sizeLine/\Q (.str (i ++ j)) H):=by
 intro pins s σ H x y v u Q I rx ry h
 obtain ⟨i,j,rfl,rfl,hz,q⟩:=h
 obtain ⟨t,rfl⟩:=rx
 obtain ⟨t',rfl⟩:=ry
 exact add_str (fun t' tk=>⟨.str (i ++ j),H,I.tok _,⟨_,rfl⟩,q⟩) hz
theorem Zdq {x:V} {us:List Value} (r:ZZ [x] us): ∃ u,us=[u]/\Zaf x u:=by
 cases r with
 |cons r1 r2=>cases r2;exact ⟨_,rfl,r1⟩
theorem Zhh {x y:V} {us:List Value} (r:ZZ [x,y] us): ∃ u w',us=[u,w']/\Zaf x u/\Zaf y w':=by
 cases r with
 |cons r1 r2=>
  cases r2 with
  |cons r3 r4=>cases r4;exact ⟨_,_,rfl,r1,r3⟩
theorem Zbj:ZbM X (.builtin "abs") (fun xs H Q=> ∃ i,xs=[.int i]/\Q (.int (if i < 0 then -i else i)) H):=by
 intro pins s σ H xs us Q I r h
 obtain ⟨i,rfl,q⟩:=h
 obtain ⟨u,rfl,t,rfl⟩:=Zdq r
 exact call_abs_int fun u tk=>⟨.int (if i < 0 then -i else i),H,I.tok _,⟨_,rfl⟩,q⟩
theorem Zhi (hc:X.calm=true):ZbM X (.builtin "max") (fun xs H Q=> ∃ i j,xs=[.int i,.int j]/\Q (.int (if j > i then j else i)) H):=by
 intro pins s σ H xs us Q I r h
 obtain ⟨i,j,rfl,q⟩:=h
 obtain ⟨u,w',rfl,⟨t,rfl⟩,⟨t',rfl⟩⟩:=Zhh r
 refine max_two_ints (I.ok.hd hc) fun h' tk k=>⟨_,H,I.kept k,?_,q⟩
 by_cases hj:j > i
 ·rw[if_pos hj,if_pos hj];exact ⟨_,rfl⟩
 ·rw[if_neg hj,if_neg hj];exact ⟨_,rfl⟩
theorem Zhj (hc:X.calm=true):ZbM X (.builtin "min") (fun xs H Q=> ∃ i j,xs=[.int i,.int j]/\Q (.int (if j < i then j else i)) H):=by
 intro pins s σ H xs us Q I r h
 obtain ⟨i,j,rfl,q⟩:=h
 obtain ⟨u,w',rfl,⟨t,rfl⟩,⟨t',rfl⟩⟩:=Zhh r
 refine min_two_ints (I.ok.hd hc) fun h' tk k=>⟨_,H,I.kept k,?_,q⟩
 by_cases hj:j < i
 ·rw[if_pos hj,if_pos hj];exact ⟨_,rfl⟩
 ·rw[if_neg hj,if_neg hj];exact ⟨_,rfl⟩
theorem Zeo:ZbM X (.type "int") (fun xs H Q=>(∃ i,xs=[.int i]/\Q (.int i) H)\/ ∃ k,xs=[.bl k]/\Q (.int (if k then 1 else 0)) H):=by
 intro pins s σ H xs us Q I r h
 rcases h with ⟨i,rfl,q⟩ | ⟨k,rfl,q⟩
 ·obtain ⟨u,rfl,t,rfl⟩:=Zdq r
  exact call_int_int ⟨.int i,H,I,⟨_,rfl⟩,q⟩
 ·obtain ⟨u,rfl,r1⟩:=Zdq r
  cases r1
  exact call_int_bool ⟨.int (if k then 1 else 0),H,I.tok _,⟨_,rfl⟩,q⟩
end
end L2
namespace L2
open PySem PySem.Spec PyProof.Rows
theorem Zhk {h:Heap} {dx:Addr} {mA:Str->Option Value} (n:h.Ns1 dx mA): ∃ od,h.get? dx=some od/\ ∀ name,PySem.W.lookIn name od=some (mA name):=by
 obtain ⟨o,es,ep,ho,hd,hk,_,hm⟩:=n
 refine ⟨o,ho,fun name=> ?_⟩
 have e:=hm name
 unfold nsFind findBy at e
 rw[<- Array.find?_toList] at e
 unfold PySem.W.lookIn
 rw[hd]
 dsimp only
 split
 ·rename_i y q
  rw[q] at e
  exact congrArg some e
 ·rename_i q
  rw[q] at e
  have a:es.toList.any (·.refKey)=false:=by
   rw[List.any_eq_false]
   intro y hy
   obtain ⟨z,t,hkey⟩:=hk y (Array.mem_toList_iff.mp hy)
   simp[DictEntry.refKey,hkey]
  have a': ¬ es.toList.any (·.refKey)=true:=by rw[a];exact Bool.false_ne_true
  rw[if_neg a']
  exact congrArg some e
section
variable {prog:Program} {w:World} {A:Around} {E:Value->Shared->Prop} {s:Shared} {K:PySem.W.Frag} {x dx C f:Addr} {mA:Str->Option Value} {name:Str} {v:Value}
end
noncomputable def ZjV (f:Str) (v:V):List (Str × V)->List (Str × V)
 | []=>[(f,v)]
 | (g,x) :: r=>if g=f then (g,v) :: r else (g,x) :: ZjV f v r
theorem ZcV (f g:Str) (v:V): ∀ fs:List (Str × V),(ZjV f v fs).lookup g=if g=f then some v else fs.lookup g
 | []=>by
  show List.lookup g [(f,v)]=_
  by_cases h:g=f
  ·have hb:(g == f)=true:=beq_iff_eq.mpr h
   simp only[List.lookup,hb,if_pos h]
  ·have hb:(g == f)=false:=beq_eq_false_iff_ne.mpr h
   simp only[List.lookup,hb,if_neg h]
 | (k,x) :: r=>by
  have ih:=ZcV f g v r
  rw[show ZjV f v ((k,x) :: r)=(if k=f then (k,v) :: r else (k,x) :: ZjV f v r) from rfl]
  by_cases hk:k=f
  ·rw[if_pos hk]
   by_cases h:g=k
   ·have hb:(g == k)=true:=beq_iff_eq.mpr h
    simp only[List.lookup,hb,if_pos (h.trans hk)]
   ·have hb:(g == k)=false:=beq_eq_false_iff_ne.mpr h
    simp only[List.lookup,hb,if_neg (fun e:g=f=>h (e.trans hk.symm))]
  ·rw[if_neg hk]
   by_cases h:g=k
   ·have hb:(g == k)=true:=beq_iff_eq.mpr h
    simp only[List.lookup,hb,if_neg (fun e:g=f=>hk (h.symm.trans e))]
   ·have hb:(g == k)=false:=beq_eq_false_iff_ne.mpr h
    simp only[List.lookup,hb]
    exact ih
theorem ZiJ.some_of {v:V} {o:Option Value} (r:ZiJ (some v) o): ∃ u,o=some u/\Zaf v u:=by
 cases o with
 |none=>exact (show False from r).elim
 |some u=>exact ⟨u,rfl,r⟩
theorem ZiJ.none_of {o:Option Value} (r:ZiJ none o):o=none:=by
 cases o with
 |none=>rfl
 |some u=>exact (show False from r).elim
theorem Zhl {v:V} {u:Value} (r:Zaf v u):PySem.W.handedIn u=true:=by
 cases v with
 |non=>cases (show u=Value.none from r);rfl
 |bl b=>cases (show u=Value.bool b from r);rfl
 |int i=>obtain ⟨t,e⟩:=(show ∃ t,u=Value.int i t from r);cases e;rfl
 |str x=>obtain ⟨t,e⟩:=(show ∃ t,u=Value.str x t from r);cases e;rfl
 |byt b=>obtain ⟨t,e⟩:=(show ∃ t,u=Value.bytes b t from r);cases e;rfl
 |flt b=>obtain ⟨t,e⟩:=(show ∃ t,u=Value.float b t from r);cases e;rfl
 |ref a=>cases (show u=Value.ref a from r);rfl
 |ty n=>cases (show u=Value.type n from r);rfl
section
variable {P:Program} {w:World} {H H':Hp} {h h':Heap} {a C dx:Addr} {fs fs':List (Str × V)}
end
section
variable {X:Cx} {pins:List (Addr × Obj)} {σ:St} {H:Hp} {s:Shared} {a C dx:Addr} {fs:List (Str × V)} {f:Str} {v:V} {A:Around} {E:Value->Shared->Prop}
theorem ZkL {prog:Program} {w:World} {env:Env} {e:Expr} {f:Str} {pos:Pos} {s:Shared} {Q:Value->Shared->Prop} (hb:attributeBase e f env (eval e env)=eval e env)
  (h:wpAny (model prog w) A (eval e env) (fun o s₁=>wpAny (model prog w) A (getAttr o f true) Q E s₁) E s):wpAny (model prog w) A (eval (.Attribute e f pos) env) Q E s:=
 Attribute_any_ h (by rw[arm_eval_Attribute,hb])
end
section
variable {X:Cx} {o e value:Expr} {f:Str} {pos pos' tpos:Pos} {ta tv:TE}
end
section
variable {X:Cx} {pins:List (Addr × Obj)} {σ:St} {H:Hp} {s:Shared} {A:Around} {E:Value->Shared->Prop} {Q:Value->Shared->Prop} {c:Value} {b:Bool}
end
end L2
namespace L2
open PySem PySem.Spec PyProof.Rows
structure Room (k:Nat) (A:Around):Prop where
 hd:100<=k->A.handled=none
 gd:A.guards=some []
 dp:A.depth + 3 * k + 5 < recursionLimit
 un:A.units + 16 * k + 200 < cLine
theorem Room.mono {j k:Nat} {A:Around} (r:Room k A) (h:j<=k):Room j A:=⟨fun z=>r.hd (Nat.le_trans z h),r.gd,by have:=r.dp;omega,by have:=r.un;omega⟩
theorem Room.deeper {k:Nat} {A:Around} (r:Room (k + 1) A) (env:Env):Room k (A.deeper env):=
 ⟨fun z=>r.hd (Nat.le_succ_of_le z),r.gd,by have:=r.dp;show A.depth + 1 + 3 * k + 5 < _;omega,by have:=r.un;show A.units + 3 + 16 * k + 200 < _;omega⟩
theorem Zgk {A:Around} {C:Addr} {us:List Value} {kw:List (Str × Value)}:(A.under (.builtin "type.__call__" ⟨.ref C :: us,kw⟩)).depth=A.depth + 1:=by
 first | rfl | simp[Around.under,Code.weight,Code.isCreation,Code.isGuard,Code.isCaller,Code.frames,Code.isFrame,guardIds]
theorem Zgl {A:Around} {C:Addr} {us:List Value} {kw:List (Str × Value)}:(A.under (.builtin "type.__call__" ⟨.ref C :: us,kw⟩)).units=A.units + 1:=by
 first | rfl | simp[Around.under,Code.cUnits,Code.frames,Code.isFrame]
theorem Room.make {k:Nat} {A:Around} (r:Room (k + 1) A) (C:Addr) (us:List Value) (kw:List (Str × Value)):Room k (A.under (.builtin "type.__call__" ⟨.ref C :: us,kw⟩)):=
 ⟨fun z=>r.hd (Nat.le_succ_of_le z),r.gd,by have:=r.dp;rw[Zgk];omega,by have:=r.un;rw[Zgl];omega⟩
theorem Room.depth {k:Nat} {A:Around} (r:Room k A):A.depth < recursionLimit:=by have:=r.dp;omega
theorem Room.units {k:Nat} {A:Around} (r:Room k A):A.units + 64 < cLine:=by have:=r.un;omega
noncomputable def tNil:TA:=fun _ H Q=>Q [] H
noncomputable def Zps (ta:TE) (tr:TA):TA:=fun σ H Q=>ta σ H fun x H1=>tr σ H1 fun xs H2=>Q (x :: xs) H2
section
variable {X:Cx} {e:Expr} {es:List Expr} {te:TE} {t:TA} {pos:Pos}
theorem ZfC:PA X [] tNil:=fun _ _ _ _ H Q I h=>Calls.spliced_nil ⟨[],H,I,.nil,h⟩
theorem ZbT (ha:PE X e te) (hr:PA X es t) (hs:starEach (e :: es) X.env=(false,eval e X.env) :: starEach es X.env:=by rfl):PA X (e :: es) (Zps te t):=by
 intro pos pins s σ H Q I h
 rw[hs]
 show wpAny _ _ (spliced ((false,eval e X.env) :: backTo pos (starEach es X.env))) _ _ s
 refine Calls.spliced_cons (thn (ha pins s σ H _ I h) fun u s1 ⟨x,H1,I1,r1,q1⟩=> ?_)
 exact thn (hr pos pins s1 σ H1 _ I1 q1) fun us s2 ⟨xs,H2,I2,r2,q2⟩=>⟨x :: xs,H2,I2,.cons r1 r2,q2⟩
noncomputable def Zso (t:TA):TE:=fun σ H Q=>t σ H fun xs H1=>xs.length<=sizeLine/\ ∀ p,H1 p=none->Q (.ref p) (upd H1 p (.tup xs))
noncomputable def Zsp (t:TA):TE:=fun σ H Q=>t σ H fun xs H1=>xs.length<=sizeLine/\ ∀ p,H1 p=none->Q (.ref p) (upd H1 p (.lst xs))
theorem Zmu {x1} (h:PA X es t):PE X (.Tuple es x1 pos) (Zso t):=by
 intro pins s σ H Q I hq
 refine wpAny_Tuple_spliced (thn (h pos pins s σ H _ I hq) fun us s1 ⟨xs,H1,I1,r,z,q⟩=>⟨by rw[<- r.length];exact z,?_⟩)
 have hf:H1 s1.heap.objs.size=none:=I1.hok.fresh (Nat.le_refl _)
 refine ⟨.ref s1.heap.objs.size,upd H1 s1.heap.objs.size (.tup xs),I1.laid (t':=s1.toks) (fun b u e=>Heap.get?_push_of_some _ e) (Nat.le_refl _) ?_,rfl,q _ hf⟩
 exact ⟨z,us,r,⟨_,Heap.get?_push_size _ rfl,rfl,_,rfl⟩⟩
theorem Zmv (h:PA X es t):PE X (.List es pos) (Zsp t):=by
 intro pins s σ H Q I hq
 refine wpAny_List_spliced (thn (h pos pins s σ H _ I hq) fun us s1 ⟨xs,H1,I1,r,z,q⟩=>⟨by rw[<- r.length];exact z,?_⟩)
 have hf:H1 s1.heap.objs.size=none:=I1.hok.fresh (Nat.le_refl _)
 refine ⟨.ref s1.heap.objs.size,upd H1 s1.heap.objs.size (.lst xs),I1.laid (t':=s1.toks) (fun b u e=>Heap.get?_push_of_some _ e) (Nat.le_refl _) ?_,rfl,q _ hf⟩
 exact ⟨z,us,0,r,Heap.get?_push_size _ rfl⟩
end
noncomputable abbrev Sp:=List V->Hp->VK->XK->Prop
noncomputable abbrev CXT:=List Env->Hp->Shared->XK->Value->Shared->Prop
structure Env0 (P:Program) (w:World) (K:PySem.W.Frag) (mg:Str->Option Value) (base:Heap) (A:Around) (outer:List Env) (s:Shared) (H:Hp):Prop where
 frames:A.frames=some outer
 mod:Mod K mg base
 bs: ∀ b o,base.get? b=some o->s.heap.get? b=some o/\H b=none
 bsz:base.objs.size<=s.heap.objs.size
 funs:s.heap.FunFrames base outer
 frf: ∀ b∈frs outer,H b=none
 hok:HOk P w H s.heap
 bare:AllBare s.gens
 qd:Qd A H
noncomputable def CE (outer:List Env) (P:Program) (w:World) (H:Hp) (s:Shared) (Q:VK) (u:Value) (s':Shared):Prop:=
 ∃ v H',s'.os=s.os/\AllBare s'.gens/\Un (frs outer) [] H H' s.heap s'.heap/\HOk P w H' s'.heap/\Zaf v u/\Q v H'
noncomputable def CR (CX:CXT) (outer:List Env) (P:Program) (w:World) (H:Hp) (s:Shared) (Q:VK) (E:XK) (r:Result) (s':Shared):Prop:=
 match r with
 | .ok (.ret u)=>CE outer P w H s Q u s'
 | .ok _=>False
 | .error e=>CX outer H s E e s'
structure FnOk (P:Program) (w:World) (K:PySem.W.Frag) (mg:Str->Option Value) (base:Heap) (CX:CXT) (k:Nat) (f:Addr) (fd:FuncData) (ps:List Str) (sp:Sp):Prop where
 len: ∀ vs H Q E,sp vs H Q E->vs.length=ps.length
 run: ∀ (A:Around) (outer:List Env) (s:Shared) (H:Hp) (args:Args) (us:List Value) (vs:List V) (Q:VK) (E:XK),Room k A->Env0 P w K mg base A outer s H->BindsTo s fd args (ps.zip us)->ZZ vs us->sp vs H Q E->
  codeAny (model P w) A (.call (.ref f) args) (CR CX outer P w H s Q E) s
theorem Env0.make {P:Program} {w:World} {K:PySem.W.Frag} {mg:Str->Option Value} {base:Heap} {A:Around} {outer:List Env} {s:Shared} {H:Hp} (e:Env0 P w K mg base A outer s H) (C:Addr) (us:List Value) (kw:List (Str × Value)):
  Env0 P w K mg base (A.under (.builtin "type.__call__" ⟨.ref C :: us,kw⟩)) outer s H:=⟨by first | exact e.frames | (simpa [Around.under,Code.envs,Code.isFrame,pushEnvs] using e.frames),e.mod,e.bs,e.bsz,e.funs,e.frf,e.hok,e.bare,e.qd⟩
section
variable {X:Cx} {pins:List (Addr × Obj)} {σ:St} {H:Hp} {s s':Shared}
theorem Inv.env0 (I:Inv X pins σ H s):Env0 X.prog X.w X.K X.mg X.base X.A X.stack s H:=
 ⟨I.ok.frames,I.ok.mod,I.bs,Nat.le_trans I.ok.bsz I.sz,I.stack,I.stkFree,I.hok,I.bare,I.qd⟩
theorem Inv.after {Q:VK} {u:Value} (I:Inv X pins σ H s) (h:CE X.stack X.prog X.w H s Q u s'):EP X pins σ Q u s':=by
 obtain ⟨v,H',os,bare,un,hok,r,q⟩:=h
 obtain ⟨hh,g,d,t,os'⟩:=s'
 obtain rfl:os'=s.os:=os
 exact ⟨v,H',I.call (h':=hh) (g':=g) (d':=d) (t':=t) (ch:=[]) un hok bare (fun b z=>absurd z (by simp)),r,q⟩
end
noncomputable def Zpt (sp:Sp) (dvs:List V) (E:XK) (t:TA):TE:=fun σ H Q=>t σ H fun vs H1=>sp (vs ++ dvs) H1 Q E
noncomputable def ZdK (K:PySem.W.Frag) (fd:FuncData) (ps:List Str) (ds:List Value):Prop:=
 ∀ (s:Shared) (us:List Value),K.In s.heap->(us ++ ds).length=ps.length->BindsTo s fd ⟨us,[]⟩ (ps.zip (us ++ ds))
theorem ZdK.all {K:PySem.W.Frag} {fd:FuncData} {ps:List Str} (h: ∀ us:List Value,us.length=ps.length->bindArgs fd ⟨us,[]⟩=pure (ps.zip us)):ZdK K fd ps []:=fun s us _ hl=>by
 rw[List.append_nil] at hl ⊢
 exact .of_eq (h us hl)
noncomputable def Zhm (CX:CXT) (X:Cx) (E:XK):Prop:= ∀ (pins:List (Addr × Obj)) (σ:St) (H:Hp) (s:Shared) (e:Value) (s':Shared),Inv X pins σ H s->CX X.stack H s E e s'->X.xe e s'
section
variable {X:Cx} {CX:CXT} {k:Nat} {f C:Addr} {fd:FuncData} {ps:List Str} {sp:Sp} {dvs:List V} {ds:List Value} {E:XK} {x m:Str} {p pos apos:Pos} {e o:Expr} {es:List Expr} {ta:TE} {t:TA}
theorem Zmw {pins:List (Addr × Obj)} {σ:St} {H:Hp} {s:Shared} {Q:VK} {us:List Value} {vs:List V} (F:FnOk X.prog X.w X.K X.mg X.base CX k f fd ps sp) (hr:Room k X.A) (hb:ZdK X.K fd ps ds) (hd:ZZ dvs ds) (hx:Zhm CX X E)
  (I:Inv X pins σ H s) (r:ZZ vs us) (h:sp (vs ++ dvs) H Q E):wpAny (model X.prog X.w) X.A (call (.ref f) us) (EP X pins σ Q) X.xe s:=by
 have r2:ZZ (vs ++ dvs) (us ++ ds):=r.append hd
 have hl:(us ++ ds).length=ps.length:=by rw[<- r2.length];exact F.len _ _ _ _ h
 refine wpAny_call (codeAny_mono (F.run X.A X.stack s H ⟨us,[]⟩ (us ++ ds) (vs ++ dvs) Q E hr I.env0 (hb s us I.kIn hl) r2 h) fun r s' hq=> ?_)
 cases r with
 |error e=>exact hx pins σ H s e s' I hq
 |ok fl=>
  cases fl with
  |ret u=>exact I.after hq
  |next=>exact False.elim hq
  |brk=>exact False.elim hq
  |cont=>exact False.elim hq
theorem ZkM (F:FnOk X.prog X.w X.K X.mg X.base CX k f fd ps sp) (hr:Room k X.A) (hg:Gl X x) (hm:X.mg x=some (.ref f)) (hk:PySem.W.keepIn X.K (.ref f)=true) (hb:ZdK X.K fd ps ds) (hd:ZZ dvs ds) (hx:Zhm CX X E)
  (ha:PA X (e :: es) t) (hdb:(x == ("__debug__":Str))=false:=by decide) (he:starEach (e :: es) X.env=(false,eval e X.env) :: starEach es X.env:=by rfl) (hpl:(backTo pos (starEach es X.env)).any (·.1)=false:=by rfl):
  PE X (.Call (.Name x p) (e :: es) [] pos) (Zpt sp dvs E t):=by
 intro pins s σ H Q I h
 refine wpAny_Call_Name_kw (ZdI I hg hm ?_ hdb)
 refine PySem.W.callWith_K (h₀:=X.base) I.ok.mod.kin hk (thn (ha pos pins s σ H _ I h) fun us s1 ⟨vs,H1,I1,r,q⟩=>⟨I1.kIn,?_⟩) he hpl
 exact Zmw F hr hb hd hx I1 r q
end
section
variable {X:Cx} {CX:CXT} {k:Nat} {f C:Addr} {fd:FuncData} {ps ks:List Str} {sp:Sp} {E:XK} {x m:Str} {p pos apos kpos:Pos} {e o:Expr} {es:List Expr} {kws:List Keyword} {te ta:TE} {t tk:TA} {nm:Option Str}
variable {g:List Value->List Value->List Value} {gV:List V->List V->List V}
end
structure FnScope (N P:List Str) (sc:Scope):Prop where
 kind:sc.kind= .function
 co:sc.isCoroutine=false
 gen:sc.isGenerator=false
 nd:N.Nodup
 pre:N.take P.length=P
 par: ∀ x∈P,sc.names.lookup x=some .local\/sc.names.lookup x=some .cell
 nofree: ∀ y∈sc.names,y.2≠ .free
theorem Zep {kindOf:Str->Option NameKind} {x:Str}: ∀ {binds:List (Str × Value)} {m:Str->Option Value},(∀ v,(x,v) ∉ binds)->bindL kindOf binds m x=m x
 | [],_,_=>rfl
 | (n,v) :: r,m,h=>by
  unfold bindL
  rw[Zep fun w hw=>h w (List.mem_cons_of_mem _ hw)]
  split
  ·have:x≠n:=by rintro rfl;exact h v List.mem_cons_self
   simp[this]
  ·rfl
theorem Zeq {kindOf:Str->Option NameKind} {x:Str}: ∀ {binds:List (Str × Value)} {m:Str->Option Value},(∀ v,(x,v) ∉ binds)->bindC kindOf binds m x=m x
 | [],_,_=>rfl
 | (n,v) :: r,m,h=>by
  unfold bindC
  rw[Zeq fun w hw=>h w (List.mem_cons_of_mem _ hw)]
  split
  ·rfl
  ·have:x≠n:=by rintro rfl;exact h v List.mem_cons_self
   simp[this]
theorem Zer {kindOf:Str->Option NameKind} {x:Str} {v:Value}: ∀ {P:List Str} {vs:List Value} {i:Nat} {m:Str->Option Value},P.Nodup->P[i]?=some x->vs[i]?=some v->kindOf x=some .local->
  bindL kindOf (P.zip vs) m x=some v
 | [],_,_,_,_,h,_,_=>by simp at h
 |_ :: _,[],_,_,_,_,h,_=>by simp at h
 |p :: P,w :: vs,0,m,nd,h1,h2,hk=>by
  simp at h1 h2;subst h1;subst h2
  show bindL kindOf ((p,w) :: P.zip vs) m p=_
  unfold bindL
  rw[Zep fun v hv=>(List.nodup_cons.mp nd).1 (List.of_mem_zip hv).1,if_pos hk]
  simp
 |p :: P,w :: vs,i + 1,m,nd,h1,h2,hk=>by
  show bindL kindOf ((p,w) :: P.zip vs) m x=_
  unfold bindL
  exact Zer (i:=i) (List.nodup_cons.mp nd).2 (by simpa using h1) (by simpa using h2) hk
theorem Zes {kindOf:Str->Option NameKind} {x:Str} {v:Value}: ∀ {P:List Str} {vs:List Value} {i:Nat} {m:Str->Option Value},P.Nodup->P[i]?=some x->vs[i]?=some v->kindOf x≠some .local->
  bindC kindOf (P.zip vs) m x=some v
 | [],_,_,_,_,h,_,_=>by simp at h
 |_ :: _,[],_,_,_,_,h,_=>by simp at h
 |p :: P,w :: vs,0,m,nd,h1,h2,hk=>by
  simp at h1 h2;subst h1;subst h2
  show bindC kindOf ((p,w) :: P.zip vs) m p=_
  unfold bindC
  rw[Zeq fun v hv=>(List.nodup_cons.mp nd).1 (List.of_mem_zip hv).1,if_neg hk]
  simp
 |p :: P,w :: vs,i + 1,m,nd,h1,h2,hk=>by
  show bindC kindOf ((p,w) :: P.zip vs) m x=_
  unfold bindC
  exact Zes (i:=i) (List.nodup_cons.mp nd).2 (by simpa using h1) (by simpa using h2) hk
noncomputable def start (N:List Str) (vs:List V):St:=vs.map some ++ List.replicate (N.length - vs.length) none
noncomputable def ZiU (CX:CXT) (P:Program) (w:World) (K:PySem.W.Frag) (mg:Str->Option Value) (base:Heap) (N:List Str) (qual:Str) (scope:Scope) (f:Addr) (cd:Value) (A:Around) (outer:List Env) (s:Shared) (H:Hp) (E:XK):Cx where
 prog:=P
 w:=w
 K:=K
 mg:=mg
 base:=base
 A:=A.deeper (envOfC qual scope s.heap.objs.size f cd)
 N:=N
 s₀:=s
 H₀:=H
 env:=envOfC qual scope s.heap.objs.size f cd
 outer:=outer
 stack:=envOfC qual scope s.heap.objs.size f cd :: outer
 ex:=[]
 calm:=A.handled.isNone
 fxs:=none
 fn:=fun _=>true
 pn:=[]
 xe:=fun e s'=>wpAny (model P w) (A.deeper (envOfC qual scope s.heap.objs.size f cd)) (leaving (envOfC qual scope s.heap.objs.size f cd) e) (fun _ s''=>CX outer H s E e s'') (fun e' s''=>CX outer H s E e' s'') s'
theorem ZfD {sc:Scope} {n:Nat} {x:Str} (h:sc.names.lookup x=some .cell): ∃ c,(cellsFrom n sc.names []).lookup x=some c:=by
 have q:=PySem.W.cellsFrom_some sc.names n [] (.inl h)
 exact Option.isSome_iff_exists.mp q
theorem Zhn {CX:CXT} {P:Program} {w:World} {K:PySem.W.Frag} {mg:Str->Option Value} {base:Heap} {N ps:List Str} {qual:Str} {scope:Scope} {f:Addr} {cd:Value} {A:Around} {outer:List Env} {s s1:Shared} {H:Hp} {E:XK} {us:List Value} {vs:List V}
  (S:FnScope N ps scope) (e0:Env0 P w K mg base A outer s H) (hl:vs.length=ps.length) (r:ZZ vs us)
  (x:InCallC s s.heap.objs.size (bindL (envOfC qual scope s.heap.objs.size f cd).kindOf (ps.zip us) fun _=>none) (cellsFrom (s.heap.objs.size + 1) scope.names []) (bindC (envOfC qual scope s.heap.objs.size f cd).kindOf (ps.zip us) fun _=>none) s1):
  Inv (ZiU CX P w K mg base N qual scope f cd A outer s H E) [] (start N vs) H s1:=by
 have hpl:ps.length<=N.length:=by have:=congrArg List.length S.pre;rw[List.length_take] at this;omega
 obtain ⟨h1,tk,rfl,hk⟩:=x.done
 have noA: ∀ b:Addr,b ∉ (ZiU CX P w K mg base N qual scope f cd A outer s H E).ex:=fun b z=>absurd (show b∈([]:List Addr) from z) (by simp)
 refine ⟨⟨e0.mod,S.kind,rfl,rfl,Nat.le_refl _,fun y z c h1 h2=> ?_,fun y hy=> ?_,fun y c _ h=> ?_,fun z=>Option.isNone_iff_eq_none.mp z,Around.frames_deeper e0.frames,.inr ⟨rfl,rfl⟩,fun b z=>absurd z (noA b),e0.bs,e0.bsz,fun b _ _=>noA b,fun b z=>absurd z (noA b),e0.funs,e0.frf⟩,
  rfl,e0.bare,Un.kept hk,⟨_,x.toInCall.ns,fun i y v h1 h2 h3=> ?_⟩,fun y c h=>⟨_,x.cell y c h⟩,e0.hok.fresh (Nat.le_refl _),fun y c h=> ?_,fun p hp=>absurd (show p∈([]:List (Addr × Obj)) from hp) (by simp),e0.hok.kept hk,?_,e0.qd,.free rfl⟩
 ·exact name_of_addr x.apart (PySem.mem_of_lookup h1) (PySem.mem_of_lookup h2)
 ·have hy:scope.names.lookup y=some .cell\/scope.names.lookup y=some .free:=hy
  rcases hy with hy | hy
  ·exact ZfD hy
  ·exact absurd rfl (S.nofree _ (PySem.mem_of_lookup hy))
 ·exact Nat.le_of_lt (x.above y c (PySem.mem_of_lookup h))
 ·have hi:i < vs.length:=by
   unfold start at h2
   by_cases hi:i < vs.length
   ·exact hi
   ·rw[List.getElem?_append_right (by simpa using hi)] at h2
    rw[List.getElem?_replicate] at h2
    split at h2<;>cases h2
  have ha:vs[i]?=some v:=by
   unfold start at h2
   rw[List.getElem?_append_left (by simpa using hi),List.getElem?_map] at h2
   cases e:vs[i]? with
   |none=>rw[e] at h2;cases h2
   |some a=>rw[e] at h2;cases h2;rfl
  obtain ⟨u,hu,rv⟩:=r.get ha
  have hp:ps[i]?=some y:=by
   rw[<- S.pre,List.getElem?_take_of_lt (by omega)];exact h1
  have ndP:ps.Nodup:=by rw[<- S.pre];exact S.nd.sublist (List.take_sublist _ _)
  refine ⟨u,rv,?_⟩
  rcases S.par y (List.mem_of_getElem? hp) with k | k
  ·exact .inl ⟨k,Zer ndP hp hu k⟩
  ·obtain ⟨c,e⟩:=ZfD (n:=s.heap.objs.size + 1) k
   refine .inr ⟨.inl k,c,e,?_⟩
   have q:=x.cell y c e
   rw[Zes ndP hp hu (by show scope.names.lookup y≠_;rw[k];decide)] at q
   exact q
 ·exact e0.hok.fresh (Nat.le_of_lt (x.above y c (PySem.mem_of_lookup h)))
 ·unfold start
  show _=N.length
  rw[List.length_append,List.length_map,List.length_replicate]
  omega
theorem Zmx {CX:CXT} {P:Program} {w:World} {K:PySem.W.Frag} {mg:Str->Option Value} {base:Heap} {k:Nat} {f:Addr} {name qual:Str} {params:Arguments} {body:List Stmt} {scope:Scope} {dV kV doc pm cdv ct oc:Value} {an od:Option Addr}
  {osl:Array (Option Value)} {N ps:List Str} {sp:Sp} (lk:K.lookup f=some ⟨oc,od,.func (PySem.W.fnOf name qual params body scope dV kV doc pm an cdv ct),osl⟩) (hcd:PySem.W.codeIn K cdv qual=true) (S:FnScope N ps scope)
  (len: ∀ vs H Q E,sp vs H Q E->vs.length=ps.length)
  (hbody: ∀ (A:Around) (outer:List Env) (s:Shared) (H:Hp) (vs:List V) (Q:VK) (E:XK),Room k (A.deeper (envOfC qual scope s.heap.objs.size f cdv))->sp vs H Q E->
   ∃ t,PSs (ZiU CX P w K mg base N qual scope f cdv A outer s H E) body t/\t { nx:=fun _ H'=>Q .non H',rt:=Q } (start N vs) H):
  FnOk P w K mg base CX (k + 1) f (PySem.W.fnOf name qual params body scope dV kV doc pm an cdv ct) ps sp:=by
 refine ⟨len,fun A outer s H args us vs Q E hr e0 hb r hsp=> ?_⟩
 have hl:=len _ _ _ _ hsp
 have KX:K.In s.heap:=e0.mod.kin.keeps fun b o e=>(e0.bs b o e).1
 have lim:s.heap.NoLimit:=e0.mod.nolimit.keeps fun b o e=>(e0.bs b o e).1
 have hkind: ∀ y∈ps.zip us,scope.names.lookup y.1=some .local\/(scope.names.lookup y.1=some .cell/\((cellsFrom (s.heap.objs.size + 1) scope.names []).lookup y.1).isSome=true):=fun ⟨n,v⟩ hy=>by
  rcases S.par n (List.of_mem_zip hy).1 with q | q
  ·exact .inl q
  ·exact .inr ⟨q,PySem.W.cellsFrom_some _ _ _ (.inl q)⟩
 refine codeAny_call_function hr.depth (KX _ _ lk) rfl S.co S.gen rfl (PySem.W.codeRec_of KX hcd) (hb _ _ _ _ ?_)
 refine wpAny_newFunctionEnv_cells S.kind hkind fun env he s1 x=> ?_
 subst he
 refine ⟨lim.keeps x.toInCall.keep,codeAny_func ?_⟩
 obtain ⟨t,ht,hq⟩:=hbody A outer s H vs Q E (hr.deeper _) hsp
 have I:Inv (ZiU CX P w K mg base N qual scope f cdv A outer s H E) [] (start N vs) H s1:=Zhn S e0 hl r x
 refine wpAny_mono (ht [] s1 (start N vs) H _ I hq) (fun fl s' hs=> ?_) fun e s' hs=>hs
 have fin: ∀ {σ':St} {H':Hp} {v:V} {u:Value},Inv (ZiU CX P w K mg base N qual scope f cdv A outer s H E) [] σ' H' s'->Zaf v u->Q v H'->CE outer P w H s Q u s':=
  fun {σ' H' v u} J rv q=>⟨v,H',J.os,J.bare,J.base,J.hok,rv,q⟩
 cases fl with
 |ret u=>
  obtain ⟨v,σ',H',J,rv,q⟩:=hs
  exact fin J rv q
 |next=>
  obtain ⟨σ',H',J,q⟩:=hs
  exact fin (v:=V.non) (u:=Value.none) J rfl q
 |brk=>
  obtain ⟨_,_,_,q⟩:=hs
  exact False.elim q
 |cont=>
  obtain ⟨_,_,_,q⟩:=hs
  exact False.elim q
end L2
namespace L2
open PySem PySem.Spec PyProof.Rows
section
variable {X:Cx} {x:Str} {p pos:Pos} {e:Expr} {es:List Expr} {t:TA} {id T:String} {r:List V->Hp->VK->Prop}
noncomputable def tCB (r:List V->Hp->VK->Prop) (t:TA):TE:=fun σ H Q=>t σ H fun vs H1=>r vs H1 Q
theorem ZdL (hc:ZbM X (.builtin id) r) (hg:Gl X x) (hm:X.mg x=none) (hv:bootBuiltins x=some (.builtin id)) (ha:PA X (e :: es) t) (hn:x≠"__name__":=by decide) (hdb:(x == ("__debug__":Str))=false:=by decide)
  (he:starEach (e :: es) X.env=(false,eval e X.env) :: starEach es X.env:=by rfl) (hpl:(backTo pos (starEach es X.env)).any (·.1)=false:=by rfl):PE X (.Call (.Name x p) (e :: es) [] pos) (tCB r t):=by
 intro pins s σ H Q I h
 refine wpAny_Call_Name_kw (Zel I hg hm hv ?_ hn hdb)
 exact PyProof.Rows.callWith_builtin1 (thn (ha pos pins s σ H _ I h) fun us s1 ⟨vs,H1,I1,r1,q1⟩=>hc pins s1 σ H1 vs us Q I1 r1 q1) he hpl
theorem Zho (hc:ZbM X (.type T) r) (hg:Gl X x) (hm:X.mg x=none) (hv:bootBuiltins x=some (.type T)) (ha:PA X (e :: es) t) (hn:x≠"__name__":=by decide) (hdb:(x == ("__debug__":Str))=false:=by decide)
  (he:starEach (e :: es) X.env=(false,eval e X.env) :: starEach es X.env:=by rfl) (hpl:(backTo pos (starEach es X.env)).any (·.1)=false:=by rfl):PE X (.Call (.Name x p) (e :: es) [] pos) (tCB r t):=by
 intro pins s σ H Q I h
 refine wpAny_Call_Name_kw (Zel I hg hm hv ?_ hn hdb)
 exact PyProof.Rows.callWith_type1 (thn (ha pos pins s σ H _ I h) fun us s1 ⟨vs,H1,I1,r1,q1⟩=>hc pins s1 σ H1 vs us Q I1 r1 q1) he hpl
end
end L2
namespace HT
open PySem PyProof.Rows
noncomputable def Zmy:List Int->List Int->Bool
 | [],[]=>false
 | [],_ :: _=>true
 |_ :: _,[]=>false
 |x :: xs,y :: ys=>if x=y then Zmy xs ys else decide (x < y)
section
open PySem.SeqAt
open PySem.AutoSeq1 (wpAny_loadPart')
open PySem.MeetsSeq PySem.MeetsSeq2 PySem.MeetsSeq3
end
section
variable {prog:Program} {w:World} {A:Around} {E:Value->Shared->Prop} {s:Shared}
theorem ZkN {t b:Addr} {vs ws:List Value} {Q:Value->Shared->Prop} (ht:IsTup s.heap t vs.toArray) (hb:IsTup s.heap b ws.toArray) (hv:vs≠[])
  (h1:ws=[]->Q (.ref t) s) (h2:ws≠[]->Q (.ref s.heap.objs.size) { s with heap:=s.heap.push { cls:= .type "tuple",data:= .seq (vs ++ ws).toArray } })
  (hsz:vs.length + ws.length<=sizeLine):wpAny (model prog w) A (binaryOp .Add (.ref t) (.ref b)) Q E s:=by
 obtain ⟨⟨cls,dd,data,sl⟩,ho,hc,n,hd⟩:=id ht
 obtain ⟨⟨cls2,dd2,data2,sl2⟩,ho2,hc2,n2,hd2⟩:=id hb
 simp only at hc hd hc2 hd2
 subst hc hd hc2 hd2
 have e:vs.toArray ++ ws.toArray=(vs ++ ws).toArray:=by simp
 by_cases hw:ws=[]
 ·exact concat_meets ⟨_,ho,rfl⟩ ⟨_,ho2,rfl⟩ noFill_tuple_add seq_tuple_add PySem.F.slot_tuple_add PySem.F.entry_tuple_add (PySem.F.args_tuple_add_2 _ _)
   (tuple_addW1 t b vs.toArray ws.toArray n n2 dd dd2 sl sl2 (by simpa using hv) (by simp[hw])) ⟨ho,ho2,h1 hw⟩
 ·refine concat_meets ⟨_,ho,rfl⟩ ⟨_,ho2,rfl⟩ noFill_tuple_add seq_tuple_add PySem.F.slot_tuple_add PySem.F.entry_tuple_add (PySem.F.args_tuple_add_2 _ _)
   (tuple_addW2 t b vs.toArray ws.toArray n n2 dd dd2 sl sl2 (by simpa using hv) (by simpa using hw) (by rw[List.size_toArray,List.size_toArray];exact hsz)) ⟨ho,ho2,?_⟩
  rw[e]
  exact h2 hw
noncomputable def sIx (n d:Nat):Option Int->Nat
 |none=>d
 |some v=>if v < 0 then (v + (n:Int)).toNat else min v.toNat n
theorem Zmz (n d:Nat) (hd:d<=n) (o:Option Int):sIx n d o<=n:=by
 cases o with
 |none=>exact hd
 |some v=>
  show (if v < 0 then (v + (n:Int)).toNat else min v.toNat n)<=n
  by_cases hv:v < 0
  ·rw[if_pos hv];omega
  ·rw[if_neg hv];exact Nat.min_le_right _ _
theorem Zhp (v:Int) (n d:Nat):(if v < 0 then max (v + (n:Int)) 0 else min v (n:Int))=((sIx n d (some v):Nat):Int):=by
 show (if v < 0 then max (v + (n:Int)) 0 else min v (n:Int))=(((if v < 0 then (v + (n:Int)).toNat else min v.toNat n):Nat):Int)
 by_cases hv:v < 0
 ·simp only[if_pos hv];omega
 ·simp only[if_neg hv];omega
theorem Zgm (lo hi:Option Int) (n:Nat):Builtin.Slice.sliceAdjust lo hi 1 (n:Int)=(((sIx n 0 lo:Nat):Int),((sIx n n hi:Nat):Int)):=by
 have h1: ¬ ((1:Int) < 0):=by omega
 unfold Builtin.Slice.sliceAdjust
 simp only[h1,if_false]
 refine Prod.ext ?_ ?_
 ·cases lo with
  |none=>rfl
  |some v=>exact Zhp v n 0
 ·cases hi with
  |none=>rfl
  |some v=>exact Zhp v n n
theorem Zgn (i j:Nat):Builtin.Slice.slicePlaces (i:Int) (j:Int) 1=j - i:=by
 unfold Builtin.Slice.slicePlaces
 have h1:(1:Int) > 0:=by omega
 simp only[h1,if_true,Int.ediv_one]
 split<;>omega
theorem Za4 {v:Value} {o:Option Int} {Q:Option Int->Shared->Prop} (p:IsPart v o) (h:Q o s):wpAny (model prog w) A (Builtin.Slice.slicePartIndex v) Q E s:=by
 cases p with
 |none=>exact slicePart_none h
 |int i t=>exact slicePart_int h
theorem ZcM {sl:Addr} {vl vu:Value} {lo hi:Option Int} {n:Nat} {Q:Int × Int × Nat->Shared->Prop} (hs:s.heap.IsSliceOf sl vl vu .none) (pl:IsPart vl lo) (pu:IsPart vu hi)
  (h:Q (((sIx n 0 lo:Nat):Int),1,sIx n n hi - sIx n 0 lo) s):wpAny (model prog w) A (Builtin.Slice.sliceApplied (.ref sl) (pure (n:Int))) Q E s:=by
 obtain ⟨os,hos,hcs,hds⟩:=id hs
 unfold Builtin.Slice.sliceApplied Builtin.Slice.sliceFields
 refine wpAny_bind (wpAny_bind (wpAny_field hos hds (x:=vl) rfl (wpAny_bind (wpAny_field hos hds (x:=vu) rfl (wpAny_bind (wpAny_field hos hds (x:= .none) rfl (wpAny_pure ?_)))))))
 refine wpAny_bind (slicePart_none ?_)
 show wpAny _ _ (if ((1:Int) == 0)=true then _ else _) _ _ s
 rw[if_neg (by decide)]
 refine wpAny_bind (Za4 pl (wpAny_bind (Za4 pu (wpAny_bind (wpAny_pure ?_)))))
 show wpAny _ _ (match Builtin.Slice.sliceAdjust lo hi 1 (n:Int) with | (lo,hi)=>pure (lo,(1:Int),Builtin.Slice.slicePlaces lo hi 1)) _ _ s
 rw[Zgm lo hi n]
 show wpAny _ _ (pure (((sIx n 0 lo:Nat):Int),(1:Int),Builtin.Slice.slicePlaces ((sIx n 0 lo:Nat):Int) ((sIx n n hi:Nat):Int) 1)) _ _ s
 rw[Zgn]
 exact wpAny_pure h
theorem ZiV (xs:Array Value) (i k:Nat):((List.range k).filterMap fun (m:Nat)=>xs[((i:Int) + (m:Int) * 1).toNat]?).toArray=((xs.toList.drop i).take k).toArray:=by
 have e:(fun (m:Nat)=>xs[((i:Int) + (m:Int) * 1).toNat]?)=fun m=>xs[i + m]?:=by
  funext m
  have:((i:Int) + (m:Int) * 1).toNat=i + m:=by omega
  rw[this]
 rw[e]
 have:=pick_run xs i k
 rw[List.filterMap_map] at this
 have e2:((fun x=>xs[x]?) ∘ fun x=>i + x)=fun m=>xs[i + m]?:=rfl
 rw[e2] at this
 rw[this]
theorem Zcn {t sl:Addr} {items:Array Value} {vl vu:Value} {lo hi:Option Int} {Q:Value->Shared->Prop} (ht:IsTup s.heap t items) (hs:s.heap.IsSliceOf sl vl vu .none) (pl:IsPart vl lo) (pu:IsPart vu hi)
  (hw: ¬ (sIx items.size 0 lo=0/\sIx items.size items.size hi=items.size))
  (h:Q (.ref s.heap.objs.size) { s with heap:=s.heap.push { cls:= .type "tuple",data:= .seq ((items.toList.drop (sIx items.size 0 lo)).take (sIx items.size items.size hi - sIx items.size 0 lo)).toArray } })
  (hsz:items.size<=sizeLine):wpAny (model prog w) A (getItem (.ref t) (.ref sl)) Q E s:=by
 have htake:sizeOk (.seq ((items.toList.drop (sIx items.size 0 lo)).take (sIx items.size items.size hi - sIx items.size 0 lo)).toArray):=by
  show ((items.toList.drop (sIx items.size 0 lo)).take (sIx items.size items.size hi - sIx items.size 0 lo)).toArray.size<=sizeLine
  rw[List.size_toArray,List.length_take,List.length_drop,Array.length_toList]
  omega
 have hj:sIx items.size items.size hi<=items.size:=Zmz _ _ (Nat.le_refl _) hi
 obtain ⟨os,hos,hcs,hds⟩:=id hs
 have hTs:s.TypeIs (.ref sl) "slice":=⟨os,hos,hcs⟩
 unfold getItem
 try with_reducible refine wpAny_holding ?_
 first | refine wpAny_bind (wpAny_pure ?_) | skip
 refine wpAny_bind (wpAny_sequenceKey ht.typeIs (by decide) ?_)
 refine wpAny_bind (wpAny_callSpecial?_slot (name:=Str.ofString "__getitem__") ht.typeIs PyProof.Rows.slot_tuple_getitem
  (wpAny_call_entry PyProof.Rows.slot_tuple_getitem ht.typeIs entry_tuple_getitem ?_ (args_tuple_getitem _ _)))
 show wpAny _ _ (Builtin.Tuple.tupleItemsOf (.ref t) >>= _) _ _ s
 refine wpAny_bind (tupleItemsOf_ ht ?_)
 refine wpAny_bind (wpAny_typeOf hTs ?_)
 rw[if_pos (by decide)]
 refine wpAny_bind (ZcM hs pl pu ?_)
 have hno: ¬ ((((sIx items.size 0 lo:Nat):Int) == 0 && (1:Int) == 1 && (sIx items.size items.size hi - sIx items.size 0 lo) == items.size)=true):=by
  intro q
  rw[Bool.and_eq_true,Bool.and_eq_true] at q
  have q1:((sIx items.size 0 lo:Nat):Int)=0:=eq_of_beq q.1.1
  have q2:sIx items.size items.size hi - sIx items.size 0 lo=items.size:=eq_of_beq q.2
  exact hw ⟨by omega,by omega⟩
 show wpAny _ _ (if (((sIx items.size 0 lo:Nat):Int) == 0 && (1:Int) == 1 && (sIx items.size items.size hi - sIx items.size 0 lo) == items.size)=true then _ else _) _ _ s
 rw[if_neg hno,ZiV]
 first
  |exact wpAny_bind (m:=Builtin.Tuple.tupleExact _) (wpAny_newObj_type (wpAny_pure ⟨_,rfl,wpAny_pure h⟩) htake)
  |exact wpAny_bind (m:=Builtin.Tuple.tupleExact _) (wpAny_newObj_type (wpAny_bind (wpAny_pure (wpAny_pure ⟨_,rfl,wpAny_pure h⟩))) htake)
  |exact wpAny_bind (wpAny_bind (m:=Builtin.Tuple.tupleExact _) (wpAny_newObj_type (wpAny_pure (wpAny_pure ⟨_,rfl,wpAny_pure h⟩)) htake))
  |exact wpAny_bind (wpAny_bind (m:=Builtin.Tuple.tupleExact _) (wpAny_newObj_type (wpAny_pure ⟨_,rfl,wpAny_pure h⟩) htake))
end
end HT
namespace L2
open PySem PySem.Spec PyProof.Rows
noncomputable abbrev TO:=St->Hp->(Option Int->Hp->Prop)->Prop
noncomputable def PO (X:Cx) (e:Option Expr) (t:TO):Prop:=
 ∀ (pins:List (Addr × Obj)) (s:Shared) (σ:St) (H:Hp) (Q:Option Int->Hp->Prop),Inv X pins σ H s->t σ H Q->
  wpAny (model X.prog X.w) X.A (evalPart e X.env) (fun u s'=> ∃ o H',Inv X pins σ H' s'/\IsPart u o/\Q o H') X.xe s
noncomputable def tNoPart:TO:=fun _ H Q=>Q none H
noncomputable def Zpu (t:TE):TO:=fun σ H Q=>t σ H fun x H1=> ∃ i,x= .int i/\Q (some i) H1
section
variable {X:Cx} {e:Expr} {te:TE} {lo hi:Option Expr} {tl th:TO} {pos p2:Pos}
theorem ZkO:PO X none tNoPart:=by
 intro pins s σ H Q I h
 rw[evalPart_none]
 exact wpAny_pure ⟨none,H,I,.none,h⟩
theorem ZkP (h:PE X e te):PO X (some e) (Zpu te):=by
 intro pins s σ H Q I hw
 rw[evalPart_some]
 refine thn (h pins s σ H _ I hw) fun u s1 ⟨x,H1,I1,r1,q1⟩=> ?_
 obtain ⟨i,rfl,q⟩:=q1
 obtain ⟨t,rfl⟩:=r1
 exact ⟨some i,H1,I1,.int i t,q⟩
noncomputable def SlR (X:Cx) (r:V->Option Int->Option Int->Hp->VK->Prop):Prop:=
 ∀ (pins:List (Addr × Obj)) (s:Shared) (σ:St) (H:Hp) (x:V) (v vl vu:Value) (lo hi:Option Int) (sl:Addr) (Q:VK),Inv X pins σ H s->Zaf x v->s.heap.IsSliceOf sl vl vu .none->IsPart vl lo->IsPart vu hi->r x lo hi H Q->
  ∃ T id,typeLookup (.type T) "__getitem__"=pure (some (.builtin id))/\s.TypeIs v T/\wpAny (model X.prog X.w) X.A (getItem v (.ref sl)) (EP X pins σ Q) X.xe s
theorem SlR.or {r r':V->Option Int->Option Int->Hp->VK->Prop} (h:SlR X r) (h':SlR X r'):SlR X (fun x lo hi H Q=>r x lo hi H Q\/r' x lo hi H Q):=by
 intro pins s σ H x v vl vu lo hi sl Q I rx hs pl pu q
 rcases q with q | q
 ·exact h pins s σ H x v vl vu lo hi sl Q I rx hs pl pu q
 ·exact h' pins s σ H x v vl vu lo hi sl Q I rx hs pl pu q
noncomputable def tSl (r:V->Option Int->Option Int->Hp->VK->Prop) (te:TE) (tl th:TO):TE:=fun σ H Q=>te σ H fun x H1=>tl σ H1 fun l H2=>th σ H2 fun u H3=>r x l u H3 Q
theorem ZiW {r:V->Option Int->Option Int->Hp->VK->Prop} (hr:SlR X r) (he:PE X e te) (hl:PO X lo tl) (hu:PO X hi th):PE X (.Subscript e (.Slice lo hi none p2) pos) (tSl r te tl th):=by
 intro pins s σ H Q I h
 refine Subscript_ (thn (he pins s σ H _ I h) fun v s1 ⟨x,H1,I1,r1,q1⟩=> ?_)
 refine wpAny_Slice (thn (hl pins s1 σ H1 _ I1 q1) fun vl s2 ⟨l,H2,I2,pl,q2⟩=>thn (hu pins s2 σ H2 _ I2 q2) fun vu s3 ⟨u,H3,I3,pu,q3⟩=> ?_)
 rw[evalPart_none]
 refine wpAny_pure ?_
 have I4:Inv X pins σ H3 { s3 with heap:=s3.heap.push { cls:= .type "slice",data:= .fields #[vl,vu,.none] } }:=I3.kept (t':=s3.toks) fun b ob q=>Heap.get?_push_of_some _ q
 obtain ⟨T,id,hT,ht,hg⟩:=hr pins { s3 with heap:=s3.heap.push { cls:= .type "slice",data:= .fields #[vl,vu,.none] } } σ H3 x v vl vu l u s3.heap.objs.size Q I4 r1 (Heap.IsSliceOf.new ..) pl pu q3
 show wpAny (model X.prog X.w) X.A (subscriptTail e (.Slice lo hi none p2) v (.ref s3.heap.objs.size)) (EP X pins σ Q) X.xe { s3 with heap:=s3.heap.push { cls:= .type "slice",data:= .fields #[vl,vu,.none] } }
 exact tail_any (ops:=[.ref s3.heap.objs.size,v]) ht hT hg (by with_unfolding_all rfl)
noncomputable def ZjW (xs:List V) (lo hi:Option Int):List V:=(xs.drop (HT.sIx xs.length 0 lo)).take (HT.sIx xs.length xs.length hi - HT.sIx xs.length 0 lo)
theorem ZcW (xs:List V) (lo hi:Option Int):(ZjW xs lo hi).length<=xs.length:=by
 unfold ZjW
 rw[List.length_take,List.length_drop]
 omega
noncomputable def Zsq (K:PySem.W.Frag):V->Option Int->Option Int->Hp->VK->Prop:=fun x lo hi H Q=> ∃ a xs,x= .ref a/\SqT K H a xs/\
 ¬ (HT.sIx xs.length 0 lo=0/\HT.sIx xs.length xs.length hi=xs.length)/\ ∀ p,H p=none->Q (.ref p) (upd H p (.tup (ZjW xs lo hi)))
theorem ZmA:SlR X (Zsq X.K):=by
 intro pins s σ H x v vl vu lo hi sl Q I rx hs pl pu h
 obtain ⟨a,xs,rfl,hx,hw,q⟩:=h
 cases rx
 obtain ⟨its,r,ht,hz⟩:=I.tuple hx
 have hlen:its.toArray.size=xs.length:=by rw[List.size_toArray];exact r.length.symm
 refine ⟨"tuple",_,PyProof.Rows.slot_tuple_getitem.lookup,ht.typeIs,?_⟩
 refine HT.Zcn ht hs pl pu (by rw[hlen];exact hw) ?_ (by rw[hlen];exact hz)
 rw[hlen]
 refine ⟨.ref s.heap.objs.size,_,I.laid (t':=s.toks) (o:= .tup (ZjW xs lo hi)) (fun b ob q=>Heap.get?_push_of_some _ q) (Nat.le_refl _) ?_,rfl,q _ (I.hok.fresh (Nat.le_refl _))⟩
 exact ⟨Nat.le_trans (ZcW xs lo hi) hz,_,(r.drop (HT.sIx xs.length 0 lo)).take (HT.sIx xs.length xs.length hi - HT.sIx xs.length 0 lo),IsTup.new _ _⟩
noncomputable def ZkQ (K:PySem.W.Frag):R2:=fun x y H Q=> ∃ a b xs ys,x= .ref a/\y= .ref b/\SqT K H a xs/\SqT K H b ys/\xs≠[]/\xs.length + ys.length<=sizeLine/\
 (ys=[]->Q (.ref a) H)/\(ys≠[]-> ∀ p,H p=none->Q (.ref p) (upd H p (.tup (xs ++ ys))))
theorem ZZ.nil_iff {xs:List V} {us:List Value} (r:ZZ xs us):us=[] ↔ xs=[]:=by
 cases r with
 |nil=>simp
 |cons _ _=>simp
theorem ZkR:OpR X (binaryOp .Add) (ZkQ X.K):=by
 intro pins s σ H x y v u Q I rx ry h
 obtain ⟨a,b,xs,ys,rfl,rfl,ha,hb,hx,hz,q1,q2⟩:=h
 cases rx
 cases ry
 obtain ⟨its,r1,p1,_⟩:=I.tuple ha
 obtain ⟨its2,r2,p2,_⟩:=I.tuple hb
 refine HT.ZkN p1 p2 (fun z=>hx (r1.nil_iff.mp z)) (fun z=>⟨.ref a,H,I,rfl,q1 (r2.nil_iff.mp z)⟩) (fun z=> ?_) (by rw[<- r1.length,<- r2.length];exact hz)
 refine ⟨.ref s.heap.objs.size,_,I.laid (t':=s.toks) (o:= .tup (xs ++ ys)) (fun b ob q=>Heap.get?_push_of_some _ q) (Nat.le_refl _) ?_,rfl,q2 (fun w=>z (r2.nil_iff.mpr w)) _ (I.hok.fresh (Nat.le_refl _))⟩
 exact ⟨by rw[List.length_append];exact hz,_,r1.append r2,IsTup.new _ _⟩
end
end L2
namespace L2
open PySem PySem.Spec PyProof.Rows
noncomputable def ixN (n:Nat) (i:Int):Option Nat:=if 0<=i then (if i < n then some i.toNat else none) else if -(n:Int)<=i then some (i + n).toNat else none
noncomputable def atI {α:Type} (xs:List α) (i:Int):Option α:=(ixN xs.length i).bind fun j=>xs[j]?
theorem Zhq {n:Nat} {i:Int} {j:Nat} (h:ixN n i=some j):seqIndex? i n=some j/\j < n/\ -(n:Int)<=i/\i < n:=by
 unfold ixN at h
 by_cases h0:0<=i
 ·rw[if_pos h0] at h
  by_cases h1:i < n
  ·rw[if_pos h1] at h
   have e:i.toNat=j:=Option.some.inj h
   exact ⟨by rw[seqIndex_of h0 h1,e],by omega,by omega,h1⟩
  ·rw[if_neg h1] at h;cases h
 ·rw[if_neg h0] at h
  by_cases h1: -(n:Int)<=i
  ·rw[if_pos h1] at h
   have e:(i + n).toNat=j:=Option.some.inj h
   exact ⟨by rw[seqIndex_neg (by omega) h1,e],by omega,h1,by omega⟩
  ·rw[if_neg h1] at h;cases h
theorem Zhr {α:Type} {xs:List α} {i:Int} {v:α} (h:atI xs i=some v): ∃ j,seqIndex? i xs.length=some j/\xs[j]?=some v/\j < xs.length/\ -(xs.length:Int)<=i/\i < xs.length:=by
 unfold atI at h
 cases e:ixN xs.length i with
 |none=>rw[e] at h;cases h
 |some j=>
  rw[e] at h
  obtain ⟨h1,h2,h3,h4⟩:=Zhq e
  exact ⟨j,h1,h,h2,h3,h4⟩
theorem Zhs {α:Type} {xs:List α} {j:Nat} {v:α} (h:xs[j]?=some v):atI xs (j:Int)=some v:=by
 have hj:j < xs.length:=(List.getElem?_eq_some_iff.mp h).1
 have e:ixN xs.length (j:Int)=some j:=by
  unfold ixN
  rw[if_pos (by omega),if_pos (by omega)];simp
 unfold atI;rw[e];exact h
noncomputable def Zht (b:Expr):Prop:= ∀ o i,subscripted b false o i=operate [o,i] (getItem o i)
noncomputable def IxR (X:Cx) (r:R2):Prop:=
 ∀ (value slice:Expr) (pins:List (Addr × Obj)) (s:Shared) (σ:St) (H:Hp) (x y:V) (v u:Value) (Q:VK),Inv X pins σ H s->Zaf x v->Zaf y u->r x y H Q->
  subscripted slice false v u=operate [v,u] (getItem v u)->wpAny (model X.prog X.w) X.A (subscriptTail value slice v u) (EP X pins σ Q) X.xe s
section
variable {X:Cx} {a b:Expr} {ta tb:TE} {pos:Pos}
theorem IxR.or {r r':R2} (h:IxR X r) (h':IxR X r'):IxR X (fun x y H Q=>r x y H Q\/r' x y H Q):=by
 intro value slice pins s σ H x y v u Q I rx ry q hs
 rcases q with q | q
 ·exact h value slice pins s σ H x y v u Q I rx ry q hs
 ·exact h' value slice pins s σ H x y v u Q I rx ry q hs
theorem Zpv {r:R2} (hr:IxR X r) (ha:PE X a ta) (hb:PE X b tb) (hs:Zht b):PE X (.Subscript a b pos) (tOp r ta tb):=by
 intro pins s σ H Q I h
 exact Subscript_ (Zpp ha hb I h fun v u s2 x y H2 I2 rx ry q=>hr a b pins s2 σ H2 x y v u Q I2 rx ry q (hs _ _))
noncomputable def Zrg (K:PySem.W.Frag):R2:=fun x y H Q=> ∃ p xs i v,x= .ref p/\y= .int i/\SqL K H p xs/\atI xs i=some v/\Q v H
noncomputable def Zrh (K:PySem.W.Frag):R2:=fun x y H Q=> ∃ p xs i v,x= .ref p/\y= .int i/\SqT K H p xs/\atI xs i=some v/\Q v H
theorem ZkS:IxR X (Zrg X.K):=by
 intro value slice pins s σ H x y v u Q I rx ry h hs
 obtain ⟨p,xs,i,z,rfl,rfl,hq,he,q⟩:=h
 cases rx
 obtain ⟨t,rfl⟩:=ry
 obtain ⟨its,r,pl,hz⟩:=I.list hq
 obtain ⟨j,h1,h2,h3,h4,h5⟩:=Zhr he
 obtain ⟨w,ew,rw'⟩:=r.get h2
 have hl:=r.length
 have hn:=ZfB
 have fin:EP X pins σ Q w s:=⟨z,H,I,rw',q⟩
 by_cases h0:0<=i
 ·have hj:i.toNat=j:=by
   rw[seqIndex_of h0 h5] at h1
   exact Option.some.inj h1
  exact item_listR pl.isList h0 (by omega) (by rw[hj];simpa using ew) fin hs
 ·have hj:(i + (its.toArray.size:Int)).toNat=j:=by
   rw[seqIndex_neg (by omega) h4] at h1
   rw[List.size_toArray,<- hl]
   exact Option.some.inj h1
  exact subscriptTail_builtinR (x:=w) pl.isList.typeIs slot_list_getitem.lookup
   (wpAny_getItem_list_neg (Q:=fun r s'=>r=w/\EP X pins σ Q r s') pl.isList (by omega) (by rw[List.size_toArray]<;>omega) (by omega) (by rw[hj];simpa using ew) ⟨rfl,fin⟩) hs
theorem ZmB:IxR X (Zrh X.K):=by
 intro value slice pins s σ H x y v u Q I rx ry h hs
 obtain ⟨p,xs,i,z,rfl,rfl,hq,he,q⟩:=h
 cases rx
 obtain ⟨t,rfl⟩:=ry
 obtain ⟨its,r,pl,hz⟩:=I.tuple hq
 obtain ⟨j,h1,h2,h3,h4,h5⟩:=Zhr he
 obtain ⟨w,ew,rw'⟩:=r.get h2
 have hl:=r.length
 have hn:=ZfB
 have fin:EP X pins σ Q w s:=⟨z,H,I,rw',q⟩
 exact subscriptTail_builtinR (x:=w) pl.typeIs slot_tuple_getitem.lookup
  (getItem_tuple (j:=j) (Q:=fun r s'=>r=w/\EP X pins σ Q r s') pl (by omega) (by omega) (by rw[List.size_toArray,<- hl];exact h1) (by simpa using ew) ⟨rfl,fin⟩) hs
theorem Zgo (its:List Value) (n j:Nat) (u:Value):Obj.mapSeq (·.setIfInBounds j u) { cls:= .type "list",data:= .seq its.toArray n }={ cls:= .type "list",data:= .seq (its.set j u).toArray n }:=by
 simp[Obj.mapSeq]
theorem Inv.lst {pins:List (Addr × Obj)} {σ:St} {H:Hp} {s:Shared} {p:Addr} {xs:List V} (I:Inv X pins σ H s) (h:H p=some (.lst xs)):
  ∃ (its:List Value) (n:Nat),ZZ xs its/\s.heap.get? p=some { cls:= .type "list",data:= .seq its.toArray n }/\xs.length<=sizeLine:=by
 obtain ⟨z,its,n,r,e⟩:=I.hok p _ h
 exact ⟨its,n,r,e,z⟩
theorem Inv.lstUpd {pins:List (Addr × Obj)} {σ:St} {H:Hp} {s:Shared} {p:Addr} {xs ys:List V} {its its':List Value} {n n':Nat} {f:Obj->Obj} (I:Inv X pins σ H s) (h:H p=some (.lst xs))
  (ho:s.heap.get? p=some { cls:= .type "list",data:= .seq its.toArray n }) (hf:f { cls:= .type "list",data:= .seq its.toArray n }={ cls:= .type "list",data:= .seq its'.toArray n' }) (r:ZZ ys its') (hz:ys.length<=sizeLine) (t:Nat):
  Inv X pins σ (upd H p (.lst ys)) { s with heap:=s.heap.update p f,toks:=t }:=by
 have e:(s.heap.update p f).get? p=some { cls:= .type "list",data:= .seq its'.toArray n' }:=by
  rw[Heap.get?_update_self f ho (by rw[hf]<;>rfl),hf]
 refine I.write (x:=p) (e:=p) (by rw[h];trivial) (.inl rfl) (fun b u hb q=>(Heap.get?_update_other _ _ (Ne.symm hb)).trans q) ⟨_,e⟩ ?_
 exact ⟨hz,its',n',r,e⟩
noncomputable def rSetL:V->V->V->Hp->(Hp->Prop)->Prop:=fun o i v H Q=> ∃ p xs k j,o= .ref p/\i= .int k/\H p=some (.lst xs)/\ixN xs.length k=some j/\Q (upd H p (.lst (xs.set j v)))
theorem ZiX:Zrc X rSetL:=by
 intro pins s σ H o i v ov iv u Q I ro ri rv h
 obtain ⟨p,xs,k,j,rfl,rfl,hp,hj,q⟩:=h
 cases ro
 obtain ⟨t,rfl⟩:=ri
 obtain ⟨its,n,r,ho,hz⟩:=I.lst hp
 obtain ⟨h1,h2,h3,h4⟩:=Zhq hj
 have hl:=r.length
 have hn:=ZfB
 have I':Inv X pins σ (upd H p (.lst (xs.set j v))) { s with heap:=s.heap.update p (Obj.mapSeq (·.setIfInBounds j u)) }:=
  I.lstUpd hp ho (Zgo its n j u) (r.set rv j) (by rw[List.length_set];exact hz) s.toks
 by_cases h0:0<=k
 ·have hk:k.toNat=j:=by
   rw[seqIndex_of h0 h4] at h1
   exact Option.some.inj h1
  exact PySem.W.ki_setAt ho h0 (by omega) (by rw[List.size_toArray,<- hl];exact h4) (by rw[hk];exact ⟨_,I',q⟩)
 ·have hk:(k + (its.toArray.size:Int)).toNat=j:=by
   rw[seqIndex_neg (by omega) h3] at h1
   rw[List.size_toArray,<- hl]
   exact Option.some.inj h1
  exact PySem.W.ki_setBack ho (by omega) (by rw[List.size_toArray,<- hl];exact h3) (by omega) (by rw[hk];exact ⟨_,I',q⟩)
theorem Zet (lo hi:Option Int) (n:Nat):(sliceBounds lo hi none n).1=((HT.sIx n 0 lo:Nat):Int)/\(sliceBounds lo hi none n).2.1=((HT.sIx n n hi:Nat):Int)/\(sliceBounds lo hi none n).2.2=1:=by
 refine ⟨?_,?_,rfl⟩
 ·cases lo with
  |none=>simp[sliceBounds,HT.sIx]
  |some i=>
   simp only[sliceBounds,HT.sIx,Option.getD_none,show (1:Int) > 0 by decide,if_true]
   by_cases h:i < 0
   ·simp only[h,if_true]<;>omega
   ·simp only[h,if_false]<;>omega
 ·cases hi with
  |none=>simp[sliceBounds,HT.sIx]
  |some i=>
   simp only[sliceBounds,HT.sIx,Option.getD_none,show (1:Int) > 0 by decide,if_true]
   by_cases h:i < 0
   ·simp only[h,if_true]<;>omega
   ·simp only[h,if_false]<;>omega
theorem ZdM (its:List Value) (lo hi:Option Int):slicePick its.toArray lo hi none=((its.drop (HT.sIx its.length 0 lo)).take (HT.sIx its.length its.length hi - HT.sIx its.length 0 lo)).toArray:=by
 obtain ⟨h1,h2,h3⟩:=Zet lo hi its.toArray.size
 unfold slicePick
 rw[h1,h2,h3]
 simp only[sliceRange_one,pick_run,List.size_toArray]<;>rfl
noncomputable def Zsr (K:PySem.W.Frag):V->Option Int->Option Int->Hp->VK->Prop:=fun x lo hi H Q=> ∃ a xs,x= .ref a/\SqL K H a xs/\ ∀ p,H p=none->Q (.ref p) (upd H p (.lst (ZjW xs lo hi)))
theorem ZkT:SlR X (Zsr X.K):=by
 intro pins s σ H x v vl vu lo hi sl Q I rx hs pl pu h
 obtain ⟨a,xs,rfl,hx,q⟩:=h
 cases rx
 obtain ⟨its,r,ht,hz⟩:=I.list hx
 have hlen:=r.length
 refine ⟨"list",_,slot_list_getitem.lookup,ht.isList.typeIs,?_⟩
 refine wpAny_getItem_list_slice ht.isList hs pl pu .none (by simp) ?_ (by rw[List.size_toArray]<;>omega)
 rw[ZdM,<- hlen]
 refine ⟨.ref s.heap.objs.size,_,I.laid (t':=s.toks) (o:= .lst (ZjW xs lo hi)) (fun b ob q=>Heap.get?_push_of_some _ q) (Nat.le_refl _) ?_,rfl,q _ (I.hok.fresh (Nat.le_refl _))⟩
 exact ⟨Nat.le_trans (ZcW xs lo hi) hz,_,0,(r.drop (HT.sIx xs.length 0 lo)).take (HT.sIx xs.length xs.length hi - HT.sIx xs.length 0 lo),Heap.get?_push_size _ rfl⟩
theorem Zl:ZbM X (.builtin "len") (fun xs H Q=> ∃ p ys,xs=[.ref p]/\(SqL X.K H p ys\/SqT X.K H p ys)/\Q (.int ys.length) H):=by
 intro pins s σ H xs us Q I r h
 obtain ⟨p,ys,rfl,hq,q⟩:=h
 obtain ⟨u,rfl,rx⟩:=Zdq r
 cases rx
 have hn:=ZfB
 rcases hq with hq | hq
 ·obtain ⟨its,r',pl,hz⟩:=I.list hq
  have hlen:=r'.length
  exact Calls.call_len_list pl.isList (by simp only[List.size_toArray]<;>omega) ⟨.int ys.length,H,I.tok _,⟨s.toks + 1,by rw[List.size_toArray,hlen]⟩,q⟩
 ·obtain ⟨its,r',pl,hz⟩:=I.tuple hq
  have hlen:=r'.length
  exact len_tuple pl (by simp only[List.size_toArray]<;>omega) ⟨.int ys.length,H,I.tok _,⟨s.toks + 1,by rw[List.size_toArray,hlen]⟩,q⟩
theorem ZcA:ZbM X (.type "list") (fun xs H Q=> ∃ p ys,xs=[.ref p]/\(SqL X.K H p ys\/SqT X.K H p ys)/\ ∀ l,H l=none->Q (.ref l) (upd H l (.lst ys))):=by
 intro pins s σ H xs us Q I r h
 obtain ⟨p,ys,rfl,hq,q⟩:=h
 obtain ⟨u,rfl,rx⟩:=Zdq r
 cases rx
 have fin: ∀ (its:List Value),ZZ ys its->ys.length<=sizeLine-> ∀ (h':Heap) (c':Nat),(∀ b o',s.heap.get? b=some o'->h'.get? b=some o')->
   h'.get? s.heap.objs.size=some { cls:= .type "list",dict:=none,data:= .seq its.toArray c',slots:= #[] }->EP X pins σ Q (.ref s.heap.objs.size) { s with heap:=h' }:=fun its r' hz h' c' kp e=>
  ⟨.ref s.heap.objs.size,_,I.laid (t':=s.toks) kp (Nat.le_refl _) (show Zbw X.prog X.w _ h' _ (.lst ys) from ⟨hz,its,c',r',e⟩),rfl,q _ (I.hok.fresh (Nat.le_refl _))⟩
 rcases hq with hq | hq
 ·obtain ⟨its,r',pl,hz⟩:=I.list hq
  have hlen:=r'.length
  obtain ⟨o,ho,hc,n,hd⟩:=pl.isList
  exact call_list_seq p (.inl rfl) ho hc hd (fun h' c' kp e=>fin its r' hz h' c' kp e) (by simp only[List.size_toArray]<;>omega)
 ·obtain ⟨its,r',pl,hz⟩:=I.tuple hq
  have hlen:=r'.length
  obtain ⟨o,ho,hc,n,hd⟩:=pl
  exact call_list_seq p (.inr rfl) ho hc hd (fun h' c' kp e=>fin its r' hz h' c' kp e) (by simp only[List.size_toArray]<;>omega)
theorem ZdN:ZbM X (.type "tuple") (fun xs H Q=> ∃ p ys,xs=[.ref p]/\((SqL X.K H p ys/\ ∀ l,H l=none->Q (.ref l) (upd H l (.tup ys)))\/(SqT X.K H p ys/\Q (.ref p) H))):=by
 intro pins s σ H xs us Q I r h
 obtain ⟨p,ys,rfl,h⟩:=h
 obtain ⟨u,rfl,rx⟩:=Zdq r
 cases rx
 rcases h with ⟨hq,q⟩ | ⟨hq,q⟩
 ·obtain ⟨its,r',pl,hz⟩:=I.list hq
  have hlen:=r'.length
  refine call_tuple_list pl.isList (fun h' kp=> ?_) (by simp only[List.size_toArray]<;>omega)
  have I1:Inv X pins σ H { s with heap:=h' }:=I.kept (t':=s.toks) kp
  have I2:Inv X pins σ (upd H h'.objs.size (.tup ys)) { s with heap:=h'.push { cls:= .type "tuple",data:= .seq its.toArray } }:=
   I1.laid (t':=s.toks) (fun b o e=>Heap.get?_push_of_some _ e) (Nat.le_refl _) (show Zbw X.prog X.w _ _ _ (.tup ys) from ⟨hz,its,r',IsTup.new _ _⟩)
  exact ⟨.ref h'.objs.size,_,I2,rfl,q _ (I1.hok.fresh (Nat.le_refl _))⟩
 ·obtain ⟨its,r',pl,hz⟩:=I.tuple hq
  exact call_tuple_same pl ⟨.ref p,H,I,rfl,q⟩
variable {o e:Expr} {es:List Expr} {to:TE} {t:TA} {name:Str} {apos cpos:Pos} {T id:String} {r:V->List V->Hp->VK->Prop}
end
end L2
namespace L2
open PySem PySem.Spec PyProof.Rows
noncomputable def MtM (X:Cx) (id:String) (r:V->List V->Hp->VK->Prop):Prop:=
 ∀ (pins:List (Addr × Obj)) (s:Shared) (σ:St) (H:Hp) (x:V) (xs:List V) (v:Value) (us:List Value) (Q:VK),Inv X pins σ H s->Zaf x v->ZZ xs us->r x xs H Q->
  wpAny (model X.prog X.w) X.A (call (.builtin id) (v :: us)) (EP X pins σ Q) X.xe s
theorem ZZ.one: ∀ {x:V} {us:List Value},ZZ [x] us-> ∃ u,us=[u]/\Zaf x u
 |_,_,.cons r .nil=>⟨_,rfl,r⟩
theorem ZZ.reverse {xs:List V} {us:List Value} (h:ZZ xs us):ZZ xs.reverse us.reverse:=by
 induction h with
 |nil=>exact .nil
 |cons r t ih=>rw[List.reverse_cons,List.reverse_cons];exact ZZ.append ih (.cons r .nil)
section
variable {X:Cx} {pins:List (Addr × Obj)} {σ:St} {H:Hp} {s:Shared} {l b:Addr} {xs ys zs:List V}
theorem Inv.lset {its its':List Value} {n:Nat} {f:Array Value->Array Value} {t':Nat} (I:Inv X pins σ H s) (hH:H l=some (.lst xs))
  (e:s.heap.get? l=some { cls:= .type "list",data:= .seq its.toArray n }) (hf:f its.toArray=its'.toArray) (hv:ZZ ys its') (hz:ys.length<=sizeLine):
  Inv X pins σ (upd H l (.lst ys)) { s with heap:=s.heap.update l (Obj.mapSeq f),toks:=t' }:=by
 have q:=PySem.IsL.update e f
 rw[hf] at q
 refine I.write (x:=l) (e:=l) (by rw[hH];exact trivial) (.inl rfl) (fun b' u hb hu=>(Heap.get?_update_other s.heap (Obj.mapSeq f) (Ne.symm hb)).trans hu) ⟨_,q⟩ ?_
 exact ⟨hz,its',_,hv,q⟩
theorem Inv.lnew {its:List Value} {t':Nat} (I:Inv X pins σ H s) (hv:ZZ ys its) (hz:ys.length<=sizeLine):
  Inv X pins σ (upd H s.heap.objs.size (.lst ys)) { s with heap:=s.heap.push { cls:= .type "list",data:= .seq its.toArray },toks:=t' }:=
 I.laid (fun _ _ q=>Heap.get?_push_of_some _ q) (Nat.le_refl _) ⟨hz,its,0,hv,Heap.get?_push_size _ rfl⟩
theorem Inv.fresh (I:Inv X pins σ H s):H s.heap.objs.size=none:=I.hok.fresh (Nat.le_refl _)
theorem Inv.lstM (I:Inv X pins σ H s) (hH:H l=some (.lst xs)):xs.length<=sizeLine/\ ∃ (its:List Value) (n:Nat),ZZ xs its/\xs.length=its.length/\s.heap.get? l=some { cls:= .type "list",data:= .seq its.toArray n }:=by
 obtain ⟨z,its,n,r,e⟩:=I.hok l _ hH
 exact ⟨z,its,n,r,r.length,e⟩
theorem ZiY {n:Nat} (h:n<=sizeLine):Builtin.List.listTooLong n=false:=by
 unfold Builtin.List.listTooLong
 exact decide_eq_false (by omega)
end
section
variable {X:Cx}
noncomputable def rAppend:V->List V->Hp->VK->Prop:=fun x vs H Q=> ∃ l xs y,x= .ref l/\vs=[y]/\H l=some (.lst xs)/\xs.length < sizeLine/\Q .non (upd H l (.lst (xs ++ [y])))
theorem Zhu:MtM X "list.append" rAppend:=by
 intro pins s σ H x vs v us Q I rx rv h
 obtain ⟨l,xs,y,rfl,rfl,hH,hz,q⟩:=h
 cases rx
 obtain ⟨u,rfl,ru⟩:=rv.one
 obtain ⟨z,its,n,r,hl,e⟩:=I.lstM hH
 refine call_meets F.slot_list_append ⟨_,e,rfl⟩ F.entry_list_append (F.args_list_append_2 _ _) (PySem.list_append l its.toArray n u (by rw[List.size_toArray];omega)) ⟨e,?_⟩
 refine ⟨.non,_,I.lset (its':=its ++ [u]) hH e (by simp) (r.append (.cons ru .nil)) ?_,rfl,q⟩
 rw[List.length_append,List.length_singleton]
 omega
noncomputable def rExtend:V->List V->Hp->VK->Prop:=fun x vs H Q=> ∃ l b xs zs,x= .ref l/\vs=[.ref b]/\H l=some (.lst xs)/\H b=some (.lst zs)/\xs.length + zs.length<=sizeLine/\Q .non (upd H l (.lst (xs ++ zs)))
theorem ZmC:MtM X "list.extend" rExtend:=by
 intro pins s σ H x vs v us Q I rx rv h
 obtain ⟨l,b,xs,zs,rfl,rfl,hH,hB,hz,q⟩:=h
 cases rx
 obtain ⟨u,rfl,ru⟩:=rv.one
 cases ru
 obtain ⟨z,its,n,r,hl,e⟩:=I.lstM hH
 obtain ⟨z2,its2,n2,r2,hl2,e2⟩:=I.lstM hB
 have hsz:its.toArray.size + its2.toArray.size<=sizeLine:=by rw[List.size_toArray,List.size_toArray];omega
 have hlong: ¬ (!its.toArray.isEmpty && Builtin.List.listTooLong (its.toArray.size + its2.toArray.size))=true:=by
  rw[ZiY hsz,Bool.and_false]
  exact Bool.false_ne_true
 refine call_meets F.slot_list_extend ⟨_,e,rfl⟩ F.entry_list_extend (F.args_list_extend_2 _ _)
  (AutoSeq1.list_extend_list_list_0 l its.toArray n b its2.toArray n2 hlong (by rw[List.size_toArray];omega) (by omega)) ⟨e,e2,?_⟩
 refine ⟨.non,_,I.lset (its':=its ++ its2) hH e (by simp) (r.append r2) ?_,rfl,q⟩
 rw[List.length_append]
 omega
noncomputable def rCat:R2:=fun x y H Q=> ∃ l b xs zs,x= .ref l/\y= .ref b/\H l=some (.lst xs)/\H b=some (.lst zs)/\xs.length + zs.length<=sizeLine/\ ∀ p,H p=none->Q (.ref p) (upd H p (.lst (xs ++ zs)))
theorem ZmD:OpR X (binaryOp .Add) rCat:=by
 intro pins s σ H x y v u Q I rx ry h
 obtain ⟨l,b,xs,zs,rfl,rfl,hH,hB,hz,q⟩:=h
 cases rx
 cases ry
 obtain ⟨z,its,n,r,hl,e⟩:=I.lstM hH
 obtain ⟨z2,its2,n2,r2,hl2,e2⟩:=I.lstM hB
 refine PySem.P.add_list e e2 ?_ (by rw[List.size_toArray,List.size_toArray];omega)
 have ea:its.toArray ++ its2.toArray=(its ++ its2).toArray:=by simp
 rw[ea]
 exact ⟨.ref _,_,I.lnew (t':=s.toks) (r.append r2) (by rw[List.length_append];omega),rfl,q _ I.fresh⟩
end
section
variable {prog:Program} {w:World} {A:Around} {E:Value->Shared->Prop} {s:Shared}
end
section
variable {X:Cx}
end
end L2
namespace Att
open PySem PySem.W PySem.Calls PyProof.Rows
theorem ZcX {P:Params} {h:Heap}: ∀ (ns:List Int) (vs:List Value),WellAll P h vs (ns.map WData.int)->IntsAre vs ns:=by
 intro ns
 induction ns with
 |nil=>
  intro vs w
  rw[List.map_nil] at w
  cases w
  exact .nil
 |cons n ns ih=>
  intro vs w
  rw[List.map_cons] at w
  cases w with
  |cons a b=>
   cases a
   exact .cons _ _ (ih _ b)
theorem Zhv {l:OpenLaw} {n:Nat} (hn:l.most=some n) {P:Params} {h:Heap} {args:List WData} {vals:List Value}
  (hpre:l.row.toRowW.claim.pre args=true) (hwl:WellAll P h vals args):
  ∃ a vs ns,vals=[Value.ref a]/\args=[WData.list (ns.map WData.int)]/\h.get? a=some { cls:= .type "list",data:= .seq vs.toArray }/\IntsAre vs ns/\ns.length<=n:=by
 have hsh:WShape.hasAll [] args [.list .int]=true:=(pre_splitW hpre).1
 have hc:l.pre.holds [] { args:=args }=true:=(pre_splitW hpre).2
 obtain ⟨d,r,rfl,h1,h2⟩:=hasAllW_cons hsh
 obtain rfl:=hasAllW_nil h2
 obtain ⟨xs,rfl,h3⟩:=hasW_list h1
 obtain ⟨ns,rfl⟩:=items_int h3
 have hlen:ns.length<=n:=by
  unfold OpenLaw.pre at hc
  have h4:(WTm.not (.lt (.lit (.int (n:Int))) (.len (.arg 0)))).holds [] { args:=[.list (ns.map .int)] }=true:=by
   have h4:=(holds_andW hc).1
   rw[hn] at h4
   exact h4
  have h5:=condW_of h4 (w_not (w_lt w_lit (w_len_list (w_arg rfl))))
  rw[List.length_map] at h5
  refine Nat.le_of_not_lt fun q=> ?_
  have q':(n:Int) < ((ns.length:Nat):Int):=by omega
  first
   | (rw[decide_eq_true q'] at h5;exact absurd h5 (by decide))
   | (simp at h5;omega)
 cases hwl with
 |cons w1 w2=>
  cases w2
  cases w1 with
  |list ho hall=>exact ⟨_,_,ns,rfl,rfl,ho,ZcX ns _ hall,hlen⟩
theorem Zhw (l:OpenLaw) (args:List WData):l.row.toRowW.claim.post args (.bool true) args=true:=
 postW_of (r:=l.row.toRowW) (X:=(true == true))
  (show WShape.has [] (.bool true) .bool=true by first | rfl | decide | simp[WShape.has,WShape.arms,WShape.armsAll])
  (show (WTm.eq .res (.lit (.bool true))).value [] { args:=args,res:=some (.bool true),after:=args }=some (.bool (true == true)) from w_eq_bool (w_res rfl) w_lit) rfl
theorem Zfb {l:OpenLaw} {n:Nat} {q:Program} {loose:List Str} {XP:(Str->Option Value)->Heap->Prop} {YP:World->Heap->Prop} {d:DefRec}
  (hn:l.most=some n) (hdf:d.params.defaults=[])
  (call: ∀ (w:World) (s₀ s₁:Shared) (mg mb:Str->Option Value) (fa:Addr) (o:Obj) (pm cd doc:Value) (a:Addr) (vs:List Value) (ns:List Int),
   Ground q loose [] XP w s₀ mg mb s₁.heap->YP w s₁.heap->
   s₁.heap.get? fa=some o->o.data= .func (docDef d.name d.params d.body d.scope pm cd doc)->s₁.heap.CodeRec cd d.name->mg d.name=some (.ref fa)->
   s₁.heap.get? a=some { cls:= .type "list",data:= .seq vs.toArray }->IntsAre vs ns->ns.length<=n->s₁.gens= #[]->
   codeAny (model l.prog w) callerA (.call (.ref fa) ⟨[.ref a],[]⟩) (fun r s'=>r= .ok (.ret (.bool true))/\OldK s₁.heap s'.heap/\s'.os=s₁.os/\AllBare s'.gens) s₁):
  WalkO q loose XP YP l.row.toRowW d [] (fun f vs=>PySem.call f vs):=by
 intro w s₀ s₁ mg mb G Y fa o pm cd doc dV kV ho hd hcd hD hmg hg args vals as hpre hlay hrd hwl hlo
 obtain rfl:dV= .none:=Dflts.none hD hdf
 obtain rfl:kV= .none:=Dflts.noKw hD
 obtain ⟨a,vs,ns,rfl,rfl,hobj,hints,hlen⟩:=Zhv hn hpre hwl
 refine enter_call (codeAny_mono (call w s₀ s₁ mg mb fa o pm cd doc a vs ns G Y ho (fd_plain hd) hcd hmg hobj hints hlen hg) fun r s' hq=> ?_)
 obtain ⟨rfl,h2,h3,h4⟩:=hq
 exact ⟨.inl ⟨.bool true,.bool true,[],rfl,fun _=>rfl,.bool true,Zhw l _,fun _=>⟨List.Pairwise.nil,fun _ hm=>(nomatch hm)⟩⟩,h2,h3,h4⟩
section
variable {prog:Program} {w:World} {A:Around} {E:Value->Shared->Prop} {s:Shared} {K:Frag}
end
end Att
namespace L2
open PySem PySem.Spec PyProof.Rows
theorem Zeu: ∀ {vs:List Value} {ns:List Int},IntsAre vs ns->ZZ (ns.map V.int) vs
 |_,_,.nil=> .nil
 |_,_,.cons n t h=> .cons ⟨t,rfl⟩ (Zeu h)
noncomputable def Zo9 (H:Hp):Prop:= ∀ b,H b=none\/ ∃ o xs,H b=some (.frz o (.lst xs))
theorem ZiZ {P:Program} {w:World} {K:PySem.W.Frag} {mg mb:Str->Option Value} {CX:CXT} {k:Nat} {fa a:Addr} {fd:FuncData} {x:Str} {sp:Sp} {s₁:Shared} {vs:List Value} {ns:List Int}
  (KX:K.In s₁.heap) (hns:s₁.heap.Ns mainGlobals mg) (hb:s₁.heap.Ns builtinsNs mb) (hbb: ∀ x:Str,x≠"__name__"->mb x=bootBuiltins x) (hlim:s₁.heap.NoLimit) (hg:s₁.gens= #[])
  (ha:s₁.heap.get? a=some { cls:= .type "list",data:= .seq vs.toArray }) (hi:IntsAre vs ns) (hl:ns.length<=sizeLine) (hr:Room k callerA)
  (F: ∀ base:Heap,K.In base->base.Ns mainGlobals mg->FnOk P w K mg base CX k fa fd [x] sp) (hbind: ∀ (s:Shared) (u:Value),BindsTo s fd ⟨[u],[]⟩ [(x,u)])
  (hsp: ∀ H:Hp,Zo9 H->SqL K H a (ns.map V.int)->sp [.ref a] H (fun v _=>v= .bl true) fun _ _ _=>False)
  (hCX: ∀ H e s',CX [] H s₁ (fun _ _ _=>False) e s'->False):
  codeAny (model P w) callerA (.call (.ref fa) ⟨[.ref a],[]⟩) (fun r s'=>r= .ok (.ret (.bool true))/\OldK s₁.heap s'.heap/\s'.os=s₁.os/\AllBare s'.gens) s₁:=by
 have rv:=Zeu hi
 have lenV:=hi.length
 have core: ∀ H:Hp,Zo9 H->SqL K H a (ns.map V.int)->HOk P w H s₁.heap->(∀ b,H b≠none->b=a)->(H a≠none->K.lookup a=none)->
   codeAny (model P w) callerA (.call (.ref fa) ⟨[.ref a],[]⟩) (fun r s'=>r= .ok (.ret (.bool true))/\OldK s₁.heap s'.heap/\s'.os=s₁.os/\AllBare s'.gens) s₁:=by
  intro H hO hS hok hA hK
  have base_of: ∀ {b:Addr} {o:Obj},s₁.heap.get? b=some o->H b=none->(ZiK s₁.heap H).get? b=some o:=fun e n=>Zfz e n
  have noA: ∀ {b:Addr} {o:Obj} {es:Array DictEntry} {ep:Nat},s₁.heap.get? b=some o->o.data= .dict es ep->H b=none:=fun {b o es ep} e d=>by
   cases q:H b with
   |none=>rfl
   |some u=>
    have e':b=a:=hA b (by rw[q];simp)
    subst e'
    rw[ha] at e;cases e
    have d':Data.seq vs.toArray _=Data.dict es ep:=d
    cases d'
  have nsK: ∀ {b:Addr} {m:Str->Option Value},s₁.heap.Ns b m->(ZiK s₁.heap H).Ns b m:=fun {b m} ⟨o,es,ep,e,d,r⟩=>⟨o,es,ep,base_of e (noA e d),d,r⟩
  have hKb:K.In (ZiK s₁.heap H):=fun b o e=>base_of (KX b o e) (by
   cases q:H b with
   |none=>rfl
   |some u=>
    have e':b=a:=hA b (by rw[q];simp)
    subst e'
    rw[hK (by rw[q];simp)] at e;cases e)
  have hM:Mod K mg (ZiK s₁.heap H):=⟨hKb,nsK hns,⟨mb,nsK hb,hbb⟩,let ⟨mc,h1,h2⟩:=hlim;⟨mc,nsK h1,h2⟩⟩
  have e0:Env0 P w K mg (ZiK s₁.heap H) callerA [] s₁ H:=⟨rfl,hM,fun b o e=>Zha e,Nat.le_of_eq (Zg9 _ _),trivial,fun b hb=>absurd (show b∈([]:List Addr) from hb) (by simp),hok,.of_eq hg,.inl rfl⟩
  refine codeAny_mono ((F _ hKb (nsK hns)).run callerA [] s₁ H ⟨[.ref a],[]⟩ [.ref a] [.ref a] _ _ hr e0 (hbind s₁ (.ref a)) (.cons rfl .nil) (hsp H hO hS)) fun r s' h=> ?_
  cases r with
  |error e=>exact (hCX H e s' h).elim
  |ok fl=>
   cases fl with
   |next=>exact False.elim h
   |brk=>exact False.elim h
   |cont=>exact False.elim h
   |ret u=>
    obtain ⟨v,H',os,bare,un,hok',r',q⟩:=h
    have q':v= .bl true:=q
    subst q'
    obtain rfl:u=Value.bool true:=r'
    refine ⟨rfl,OldK.of_keep fun b o e=> ?_,os,bare⟩
    cases q:H b with
    |none=>exact un.keep b o e q (by intro z;exact absurd (show b∈([]:List Addr) from z) (by simp)) (by simp)
    |some u=>
     rcases hO b with z | ⟨ob,xs,z⟩
     ·rw[q] at z;cases z
     ·have z2:=un.frzs b ob _ z
      obtain ⟨e1,_⟩:=hok b _ z
      obtain ⟨e2,_⟩:=hok' b _ z2
      rw[e] at e1;cases e1
      exact e2
 cases hk:K.lookup a with
 |some o=>
  have e:=KX a o hk
  rw[ha] at e
  cases e
  refine core (fun _=>none) (fun _=> .inl rfl) (.inr ⟨_,vs.toArray,_,hk,rfl,rfl,rfl,by rw[List.size_toArray,lenV];exact hl,by simpa using rv⟩) (fun b u z=>by have z':(none:Option HO)=some u:=z;cases z') (fun b z=>absurd rfl z) fun z=>absurd rfl z
 |none=>
  refine core (fun b=>if b=a then some (.frz { cls:= .type "list",data:= .seq vs.toArray } (.lst (ns.map V.int))) else none) (fun b=> ?_) (.inl (.inr ⟨{ cls:= .type "list",data:= .seq vs.toArray },if_pos rfl⟩)) (fun b u z=> ?_) (fun b z=> ?_) fun _=>hk
  ·by_cases hb:b=a
   ·exact .inr ⟨_,_,if_pos hb⟩
   ·exact .inl (if_neg hb)
  ·by_cases hb:b=a
   ·have z':=(if_pos hb).symm.trans z
    cases z'
    subst hb
    exact ⟨ha,by rw[List.length_map];exact hl,vs,_,rv,ha⟩
   ·have z':=(if_neg hb).symm.trans z
    cases z'
  ·by_cases hb:b=a
   ·exact hb
   ·exact absurd (if_neg hb) z
end L2
namespace L2
open PySem PySem.Spec PyProof.Rows
theorem ZkU {l:PySem.W.OpenLaw} {n k:Nat} {q:Program} {loose:List Str} {XP:(Str->Option Value)->Heap->Prop} {YP:World->Heap->Prop} {d:DefRec} {K:Params->PySem.W.Frag} {CX:World->CXT} {sp:World->Sp} {x:Str}
  (hn:l.most=some n) (hn2:n<=sizeLine) (hdf:d.params.defaults=[]) (hr:Room k callerA)
  (hY: ∀ (w:World) (h:Heap),YP w h->(K w.params).In h)
  (F: ∀ (w:World) (mg:Str->Option Value) (fa:Addr) (h:Heap),(K w.params).In h->h.Ns mainGlobals mg->mg d.name=some (.ref fa)->
   ∃ fd:FuncData,(∀ (s:Shared) (u:Value),BindsTo s fd ⟨[u],[]⟩ [(x,u)])/\
    ∀ base:Heap,(K w.params).In base->base.Ns mainGlobals mg->FnOk l.prog w (K w.params) mg base (CX w) k fa fd [x] (sp w))
  (hsp: ∀ (w:World) (H:Hp) (a:Addr) (ns:List Int),ns.length<=n->Zo9 H->SqL (K w.params) H a (ns.map V.int)->sp w [.ref a] H (fun v _=>v= .bl true) fun _ _ _=>False)
  (hCX: ∀ (w:World) (H:Hp) (s:Shared) (e:Value) (s':Shared),CX w [] H s (fun _ _ _=>False) e s'->False):
  PySem.W.WalkO q loose XP YP l.row.toRowW d [] (fun f vs=>PySem.call f vs):=by
 refine Att.Zfb hn hdf fun w s₀ s₁ mg mb fa o pm cd doc a vs ns G Y ho hd hcd hmg hobj hints hlen hg=> ?_
 have KX:=hY w _ Y
 obtain ⟨fd,hb,hF⟩:=F w mg fa _ KX G.T.g hmg
 exact ZiZ KX G.T.g G.T.b G.T.builtins G.T.nolimit hg hobj hints (Nat.le_trans hlen hn2) hr hF hb (fun H hO hS=>hsp w H a ns hlen hO hS) fun H e s'=>hCX w H s₁ e s'
end L2
namespace L2
open PySem PySem.Spec PyProof.Rows
noncomputable def Zu (s:Stmt):Arguments:=match s with
 | .FunctionDef _ a _ _ _ _ _ _ _ _=>a
 |_=>{ posonlyargs:=[],args:=[],vararg:=none,kwonlyargs:=[],kw_defaults:=[],kwarg:=none,defaults:=[] }
noncomputable def Zq (s:Stmt):List Stmt:=match s with
 | .FunctionDef _ _ b _ _ _ _ _ _ _=>b
 |_=>[]
noncomputable def Zg (s:Stmt):Scope:=match s with
 | .FunctionDef _ _ _ _ _ _ sc _ _ _=>sc
 |_=>{ kind:= .function,names:=[],isGenerator:=false,isCoroutine:=false }
noncomputable abbrev E0:XK:=fun _ _ _=>False
structure Fun (K:PySem.W.Frag) (x qual:Str) (st:Stmt) (f:Addr) (fd:FuncData):Prop where
 ex: ∃ (oc:Value) (od:Option Addr) (kV doc pm:Value) (an:Option Addr) (cdv ct:Value) (osl:Array (Option Value)),
  fd=PySem.W.fnOf x qual (Zu st) (Zq st) (Zg st) .none kV doc pm an cdv ct/\K.lookup f=some ⟨oc,od,.func fd,osl⟩/\PySem.W.codeIn K cdv qual=true
 kp:PySem.W.keepIn K (.ref f)=true
section
variable {P:Program} {w:World} {K:PySem.W.Frag} {mg:Str->Option Value} {base:Heap}
theorem Fun.binds {x qual:Str} {st:Stmt} {f:Addr} {fd:FuncData} {ps:List Str} (F:Fun K x qual st f fd)
  (h: ∀ (kV doc pm:Value) (an:Option Addr) (cdv ct:Value) (us:List Value),us.length=ps.length->bindArgs (PySem.W.fnOf x qual (Zu st) (Zq st) (Zg st) .none kV doc pm an cdv ct) ⟨us,[]⟩=pure (ps.zip us)):ZdK K fd ps []:=by
 obtain ⟨oc,od,kV,doc,pm,an,cdv,ct,osl,rfl,lk,hcd⟩:=F.ex
 exact .all (h kV doc pm an cdv ct)
theorem ZF {x qual:Str} {st:Stmt} {f:Addr} {oc:Value} {od an:Option Addr} {osl:Array (Option Value)} {kV doc pm cdv ct:Value} (l:K.lookup f=some ⟨oc,od,.func (PySem.W.fnOf x qual (Zu st) (Zq st) (Zg st) .none kV doc pm an cdv ct),osl⟩)
  (c:PySem.W.codeIn K cdv qual=true) (k:PySem.W.keepIn K (.ref f)=true):Fun K x qual st f (PySem.W.fnOf x qual (Zu st) (Zq st) (Zg st) .none kV doc pm an cdv ct):=⟨⟨oc,od,kV,doc,pm,an,cdv,ct,osl,rfl,l,c⟩,k⟩
end
theorem Zhx {n:Nat} (h:n<=1000):n < sizeLine:=Nat.lt_of_le_of_lt h (by decide)
section
variable {X:Cx}
end
theorem ZjX {A B:Prop} (h:B):if false=true then A else B:=by
 rw[if_neg Bool.false_ne_true]
 exact h
theorem ZjY {A B:Prop} (h:A):if true=true then A else B:=by
 rw[if_pos rfl]
 exact h
end L2
end
section
namespace L2
open PySem PySem.Spec PyProof.Rows
end L2
namespace L2
open PySem PySem.Spec PyProof.Rows
section
variable (P:Program) (w:World)
end
section
variable {P:Program} {w:World} {H H':Hp} {h h':Heap} {a:Addr} {o:HO}
end
section
variable {P:Program} {w:World} {H:Hp} {h h':Heap} {x e:Addr} {o':HO}
end
section
variable {fs fs' ex ex':List Addr} {H H1 H2:Hp} {h h1 h2 h':Heap} {a x e:Addr} {o:HO}
end
end L2
namespace L2
open PySem PySem.Spec PyProof.Rows
section
variable {X:Cx} {pins:List (Addr × Obj)} {σ:List (Option V)} {H H':Hp} {s:Shared} {h':Heap}
end
end L2
namespace L2
open PySem PySem.Spec PyProof.Rows
section
variable {X:Cx}
variable {a b:Expr} {ta tb:TE} {pos:Pos}
variable {tA tB':TT} {rest:List Expr}
end
end L2
namespace L2
open PySem PySem.Spec PyProof.Rows
section
variable {X:Cx} {pins:List (Addr × Obj)} {σ:St} {H:Hp} {s:Shared} {a:Addr} {xs ys:List V}
end
section
variable {X:Cx} {pins:List (Addr × Obj)} {σ:St} {H:Hp} {s:Shared} {E:Value->Shared->Prop}
end
section
variable {X:Cx} {st:Stmt} {rest:List Stmt} {t u:TS} {e:Expr} {te:TE} {pos:Pos}
end
section
variable {X:Cx} {pos:Pos}
end
section
variable {X:Cx} {pos:Pos}
end
end L2
namespace L2
open PySem PySem.Spec PyProof.Rows
section
variable {X:Cx} {tg:Expr}
end
end L2
namespace L2
open PySem PySem.Spec PyProof.Rows
section
variable {X:Cx} {a b c:Expr} {ta tb tc:TE} {pos:Pos}
end
section
variable {X:Cx} {a b c:Expr} {ta tb tc:TE} {pos:Pos}
end
end L2
namespace L2
open PySem PySem.Spec PyProof.Rows
section
variable {prog:Program} {w:World} {A:Around} {E:Value->Shared->Prop} {s:Shared} {K:PySem.W.Frag} {x dx C f:Addr} {mA:Str->Option Value} {name:Str} {v:Value}
end
section
variable {P:Program} {w:World} {H H':Hp} {h h':Heap} {a C dx:Addr} {fs fs':List (Str × V)}
end
section
variable {X:Cx} {pins:List (Addr × Obj)} {σ:St} {H:Hp} {s:Shared} {a C dx:Addr} {fs:List (Str × V)} {f:Str} {v:V} {A:Around} {E:Value->Shared->Prop}
end
section
variable {X:Cx} {o e value:Expr} {f:Str} {pos pos' tpos:Pos} {ta tv:TE}
end
section
variable {X:Cx} {pins:List (Addr × Obj)} {σ:St} {H:Hp} {s:Shared} {A:Around} {E:Value->Shared->Prop} {Q:Value->Shared->Prop} {c:Value} {b:Bool}
end
end L2
namespace L2
open PySem PySem.Spec PyProof.Rows
section
variable {X:Cx} {e:Expr} {es:List Expr} {te:TE} {t:TA} {pos:Pos}
end
section
variable {X:Cx} {pins:List (Addr × Obj)} {σ:St} {H:Hp} {s s':Shared}
end
section
variable {X:Cx} {CX:CXT} {k:Nat} {f C:Addr} {fd:FuncData} {ps:List Str} {sp:Sp} {dvs:List V} {ds:List Value} {E:XK} {x m:Str} {p pos apos:Pos} {e o:Expr} {es:List Expr} {ta:TE} {t:TA}
end
section
variable {X:Cx} {CX:CXT} {k:Nat} {f C:Addr} {fd:FuncData} {ps ks:List Str} {sp:Sp} {E:XK} {x m:Str} {p pos apos kpos:Pos} {e o:Expr} {es:List Expr} {kws:List Keyword} {te ta:TE} {t tk:TA} {nm:Option Str}
variable {g:List Value->List Value->List Value} {gV:List V->List V->List V}
end
end L2
namespace L2
open PySem PySem.Spec PyProof.Rows
section
variable {X:Cx} {x:Str} {p pos:Pos} {e:Expr} {es:List Expr} {t:TA} {id T:String} {r:List V->Hp->VK->Prop}
end
end L2
namespace L2
open PySem PySem.Spec PyProof.Rows
section
variable {κ:Type} [DecidableEq κ]
noncomputable def ZkV (kvs:List (κ × V)) (k:κ):Option V:=(kvs.find? fun kv=>decide (kv.1=k)).map (·.2)
theorem ZfE {p:κ × V} {r:List (κ × V)} {k:κ} (e:p.1=k):ZkV (p :: r) k=some p.2:=by simp[ZkV,List.find?_cons,e]
theorem ZfF {p:κ × V} {r:List (κ × V)} {k:κ} (e: ¬ p.1=k):ZkV (p :: r) k=ZkV r k:=by simp[ZkV,List.find?_cons,e]
theorem KV.val {kvs:List (κ × V)} {vs:List (κ × Value)} (r:KV kvs vs) (k:κ):ZiJ (ZkV kvs k) (valueAt vs k):=by
 unfold KV at r
 induction r with
 |nil=>exact True.intro
 | @cons p q ps qs h t ih=>
  obtain ⟨h1,h2⟩:=h
  by_cases e:p.1=k
  ·have e':q.1=k:=h1.symm.trans e
   have b:valueAt (q :: qs) k=some q.2:=by simp[valueAt,List.find?_cons,e']
   rw[ZfE e,b];exact h2
  ·have e': ¬ q.1=k:=fun z=>e (h1.trans z)
   have b:valueAt (q :: qs) k=valueAt qs k:=by simp[valueAt,List.find?_cons,e']
   rw[ZfF e,b];exact ih
end
noncomputable abbrev KT (H:Hp):List (List Key × V)->List (List Key × Addr × Value)->Prop:=Paired fun p q=>p.1=q.1/\H q.2.1=some (.tup (p.1.map kV))/\Zaf p.2 q.2.2
theorem KT.val {H:Hp} {kvs:List (List Key × V)} {xs:List (List Key × Addr × Value)} (r:KT H kvs xs) (k:List Key):ZiJ (ZkV kvs k) ((atKey xs k).map (·.2)):=by
 induction r with
 |nil=>exact True.intro
 | @cons p q ps qs h t ih=>
  obtain ⟨h1,_,h2⟩:=h
  by_cases e:p.1=k
  ·have e':q.1=k:=h1.symm.trans e
   have b:atKey (q :: qs) k=some q.2:=by simp[atKey,List.find?_cons,e']
   rw[ZfE e,b];exact h2
  ·have e': ¬ q.1=k:=fun z=>e (h1.trans z)
   have b:atKey (q :: qs) k=atKey qs k:=by simp[atKey,List.find?_cons,e']
   rw[ZfF e,b];exact ih
section
variable {P:Program} {w:World} {H:Hp} {h:Heap} {a:Addr}
end
section
variable {X:Cx} {pins:List (Addr × Obj)} {σ:St} {H:Hp} {s:Shared} {a:Addr} {y v:V} {u r:Value} {o:Option V} {A:Around} {E:Value->Shared->Prop}
end
section
variable {X:Cx} {pins:List (Addr × Obj)} {σ:St} {H:Hp} {s:Shared} {a:Addr} {kvs:List (Key × V)} {k:Key} {u:Value} {A:Around} {E:Value->Shared->Prop}
end
section
variable {X:Cx} {o i e value:Expr} {pos pos' tpos:Pos} {td ty tv:TE}
end
section
variable {X:Cx} {pos:Pos}
end
structure M1 (X:Cx) (o:Expr) (m:Str) (apos:Pos) (e:Expr) (cpos:Pos):Prop where
 base:attributeBase o m X.env (eval o X.env)=eval o X.env
 few:((backTo cpos (starEach [e] X.env)).all (fun x=> !x.1) && (backToKw cpos (keywordEach [] X.env)).all (fun x=>x.1.isSome)
  && decide (([e]:List Expr).length + ([]:List Keyword).length + (if ([]:List Keyword).isEmpty then 0 else 1) < 30))=true
 line:(apos.endLine == cpos.line)=true
 trees:backTo cpos (starEach [e] X.env)=[(false,eval e X.env)]
structure M2 (X:Cx) (o:Expr) (m:Str) (apos:Pos) (e f:Expr) (cpos:Pos):Prop where
 base:attributeBase o m X.env (eval o X.env)=eval o X.env
 few:((backTo cpos (starEach [e,f] X.env)).all (fun x=> !x.1) && (backToKw cpos (keywordEach [] X.env)).all (fun x=>x.1.isSome)
  && decide (([e,f]:List Expr).length + ([]:List Keyword).length + (if ([]:List Keyword).isEmpty then 0 else 1) < 30))=true
 line:(apos.endLine == cpos.line)=true
 trees:backTo cpos (starEach [e,f] X.env)=[(false,eval e X.env),(false,eval f X.env)]
section
variable {X:Cx} {pins:List (Addr × Obj)} {σ:St} {H:Hp} {s:Shared} {a:Addr} {y d:V} {u r:Value} {o:Option V} {A:Around} {E:Value->Shared->Prop}
end
section
variable {X:Cx} {o e f:Expr} {apos cpos:Pos} {td ty tx:TE}
end
section
variable {X:Cx} {pins:List (Addr × Obj)} {σ:St} {H:Hp} {s:Shared} {a:Addr} {kvs:List (Key × V)} {A:Around} {E:Value->Shared->Prop}
end
section
variable {X:Cx} {pins:List (Addr × Obj)} {σ:St} {H:Hp} {s:Shared} {a:Addr} {y:V} {u:Value} {A:Around} {E:Value->Shared->Prop}
end
end L2
namespace Att
open PySem PySem.W PySem.Calls PyProof.Rows
section
variable {prog:Program} {w:World} {A:Around} {E:Value->Shared->Prop} {s:Shared} {K:Frag}
end
end Att
namespace L2
open PySem PySem.Spec PyProof.Rows
end L2
namespace L2
open PySem PySem.Spec PyProof.Rows
end L2
namespace L2
open PySem PySem.Spec PyProof.Rows
section
variable {P:Program} {w:World} {K:PySem.W.Frag} {mg:Str->Option Value} {base:Heap}
end
section
variable {X:Cx}
end
section
variable {κ:Type} [DecidableEq κ]
end
end L2
end
section
namespace DQ
open PySem PySem.Spec PyProof.Rows
structure Fly (B:Heap) (l:List Env) (e:Addr) (cls:Value) (dct:Option Addr) (fl:Value) (h:Heap):Prop where
 stay:B.StaysIn h
 new:B.get? e=none
 frames:h.FunFrames B l
 obj: ∃ oe vs T oT ts,h.get? e=some oe/\oe.cls=cls/\oe.dict=dct/\oe.data= .fields vs/\vs[2]?=some .none/\vs[1]?=some (.ref T)/\B.get? T=none/\T≠e/\h.get? T=some oT/\oT.data= .fields ts/\ts[3]?=some fl
theorem Fly.tail {B:Heap} {env:Env} {l:List Env} {e:Addr} {cls:Value} {dct:Option Addr} {fl:Value} {h:Heap} (f:Fly B (env :: l) e cls dct fl h):Fly B l e cls dct fl h:=⟨f.stay,f.new,f.frames.2.2,f.obj⟩
section
variable {M:Model} {A:Around} {E:Value->Shared->Prop} {s:Shared} {B:Heap} {env:Env} {outer l:List Env} {L e:Addr} {cls:Value} {dct:Option Addr} {fl:Value}
theorem apart {h:Heap} {oe:Obj} {vs:Array Value} (hl:h.FunFrames B l) (he:h.get? e=some oe) (hd:oe.data= .fields vs):e ∉ l.filterMap (·.frame):=fun z=>by
 obtain ⟨_,o,h1,h2⟩:=hl.mem z
 rw[he] at h1
 cases h1
 exact h2 vs hd
theorem ZcY {oe:Obj} {vs:Array Value} {head:Value} {hn:Bool} {Q:Unit->Shared->Prop} (hfr:A.frames=some (env :: outer)) (hl:s.heap.FunFrames B (env :: outer)) (hf:env.frame=some L)
  (he:s.heap.get? e=some oe) (hs:B.StaysIn s.heap) (hb:B.get? e=none) (hd:oe.data= .fields vs) (hz:2 < vs.size) (h2:vs[2]?=some .none)
  (h: ∀ h',Fly B (env :: outer) e oe.cls oe.dict (rawInt L) h'->s.heap.UpToSlots h'->Q () { s with heap:=h' }):
  wpAny M A (frameOf env >>= fun a=>entryPlaceOf L hn >>= fun pl=>EntryCells.newEntry head a .none (rawInt L) .none pl >>= fun b=>setField (.ref e) 1 b) Q E s:=by
 have ne:=apart hl he hd
 refine wpAny_bind (wpAny_frameOf_fun hfr hl hf fun h1 k1=>wpAny_bind (wpAny_entryPlaceOf fun pl hpl=>wpAny_bind ?_))
 unfold EntryCells.newEntry newFields
 refine wpAny_newObj_type ?_ (hpl.sizeOk5 _ _ _ _ _)
 generalize hT:([head,Value.ref L,Value.none,rawInt L,Value.none] ++ (if pl.isEmpty then List.replicate 6 Value.none else pl)).toArray=ts
 have h3:ts[3]?=some (rawInt L):=by
  rw[<- hT]
  rcases hpl with rfl | ⟨_,_,_,_,_,_,_,rfl⟩<;>simp
 have e1:h1.get? e=some oe:=(k1.2.1 e ne).trans he
 have s1:B.StaysIn h1:=fun b o hbo=>(k1.2.1 b fun z=>by rw[(hl.mem z).1] at hbo;cases hbo).trans (hs b o hbo)
 generalize hoT:({ cls:= .type "traceback",dict:=none,data:= .fields ts }:Obj)=oT
 have dT:oT.data= .fields ts:=by rw[<- hoT]
 have fT:oT.isFreed=false:=Obj.isFreed_of_fields dT
 have e2:(h1.push oT).get? e=some oe:=Heap.get?_push_of_some _ e1
 have nT:h1.objs.size≠e:=Nat.ne_of_gt (Heap.lt_size e1)
 refine wpAny_setField e2 hd (Nat.lt_trans (by decide) hz) (h _ ?_ ?_)
 ·have d3:=Obj.data_mapFields hd (·.setIfInBounds 1 (Value.ref h1.objs.size))
  have e3:=Heap.get?_update_self (Obj.mapFields (·.setIfInBounds 1 (Value.ref h1.objs.size))) e2 (Obj.isFreed_of_fields d3)
  have keep: ∀ b o,b≠e->h1.get? b=some o->((h1.push oT).update e (Obj.mapFields (·.setIfInBounds 1 (Value.ref h1.objs.size)))).get? b=some o:=fun b o hbe x=>by
   rw[Heap.get?_update_other _ _ (Ne.symm hbe)]
   exact Heap.get?_push_of_some _ x
  have gT:(h1.push oT).get? h1.objs.size=some oT:=Heap.get?_push_size _ fT
  refine ⟨fun b o x=>keep b o (fun z=>by rw[z,hb] at x;cases x) (s1 b o x),hb,hl.of_keeps fun b o x y=> ?_,_,_,h1.objs.size,oT,ts,e3,Obj.cls_mapFields _ _,?_,d3,?_,?_,s1.fresh,nT,?_,dT,h3⟩
  ·obtain ⟨sl,z⟩:=k1.2.2 b o x
   exact ⟨_,keep b _ (fun w=>y vs (by rw[w,he] at x;cases x;exact hd)) z,rfl⟩
  ·obtain ⟨c,d,dd,sl⟩:=oe
   cases hd
   rfl
  ·rw[Array.getElem?_setIfInBounds_ne (by decide)]
   exact h2
  ·rw[Array.getElem?_setIfInBounds_self_of_lt (Nat.lt_trans (by decide) hz)]
  ·rw[Heap.get?_update_other _ _ (Ne.symm nT)]
   exact gT
 ·intro b o x y
  obtain ⟨sl,z⟩:=k1.2.2 b o x
  refine ⟨sl,?_⟩
  rw[Heap.get?_update_other _ _ (fun w=>y vs (by rw[<- w,he] at x;cases x;exact hd))]
  exact Heap.get?_push_of_some _ z
theorem ZcQ {Q:Unit->Shared->Prop} (f:Fly B l e cls dct fl s.heap) (h: ∀ h',Fly B l e cls dct .none h'->s.heap.UpToSlots h'->Q () { s with heap:=h' }):wpAny M A (setFlight (.ref e) none) Q E s:=by
 obtain ⟨st,nw,fr,oe,vs,T,oT,ts,g1,g2,g3,g4,g5,g6,g7,g8,g9,g10,g11⟩:=f
 have hz:3 < ts.size:=(Array.getElem?_eq_some_iff.mp g11).1
 unfold setFlight
 refine wpAny_bind (wpAny_field g1 g4 g6 ?_)
 rw[if_pos (by simp)]
 have oth: ∀ b o,b≠T->s.heap.get? b=some o->(s.heap.update T (Obj.mapFields (·.setIfInBounds 3 Value.none))).get? b=some o:=fun b o hb x=>by
  rw[Heap.get?_update_other _ _ (Ne.symm hb)]
  exact x
 have nr: ∀ b o,s.heap.get? b=some o->(∀ vs,o.data≠ .fields vs)->b≠T:=fun b o x y z=>by
  rw[z,g9] at x
  cases x
  exact y ts g10
 refine wpAny_setField g9 g10 hz (h _ ⟨fun b o x=>oth b o (fun z=>by rw[z,g7] at x;cases x) (st b o x),nw,fr.of_keeps fun b o x y=>⟨o,oth b o (nr b o x y) x,rfl⟩,?_⟩ fun b o x y=>⟨o.slots,oth b o (nr b o x y) x⟩)
 exact ⟨oe,vs,T,_,_,oth e oe (Ne.symm g8) g1,g2,g3,g4,g5,g6,g7,g8,Heap.get?_update_self _ g9 (Obj.isFreed_of_fields (Obj.data_mapFields g10 _)),Obj.data_mapFields g10 _,by rw[Array.getElem?_setIfInBounds_self_of_lt hz];rfl⟩
theorem ZfG {Q:Unit->Shared->Prop} (hfr:A.frames=some (env :: outer)) (hf:env.frame=some L) (f:Fly B (env :: outer) e cls dct .none s.heap)
  (h: ∀ h',Fly B (env :: outer) e cls dct (rawInt L) h'->s.heap.UpToSlots h'->Q () { s with heap:=h' }):wpAny M A (noteFrame (.ref e) env) Q E s:=by
 obtain ⟨st,nw,fr,oe,vs,T,oT,ts,g1,g2,g3,g4,g5,g6,g7,g8,g9,g10,g11⟩:=f
 unfold noteFrame
 simp only[hf]
 refine wpAny_bind (wpAny_field g1 g4 g6 ?_)
 rw[if_pos (by simp)]
 refine wpAny_bind (wpAny_field g9 g10 g11 ?_)
 rw[if_neg (by simp[rawInt])]
 have oth: ∀ b o,b≠T->s.heap.get? b=some o->(s.heap.update T (Obj.mapFields (·.setIfInBounds 3 Value.none))).get? b=some o:=fun b o hb x=>by
  rw[Heap.get?_update_other _ _ (Ne.symm hb)]
  exact x
 have nr: ∀ b o,s.heap.get? b=some o->(∀ vs,o.data≠ .fields vs)->b≠T:=fun b o x y z=>by
  rw[z,g9] at x
  cases x
  exact y ts g10
 refine wpAny_bind (wpAny_setField g9 g10 (Array.getElem?_eq_some_iff.mp g11).1 ?_)
 refine ZcY hfr (fr.of_keeps fun b o x y=>⟨o,oth b o (nr b o x y) x,rfl⟩) hf (oth e oe (Ne.symm g8) g1) (fun b o x=>oth b o (fun z=>by rw[z,g7] at x;cases x) (st b o x)) nw g4 (Array.getElem?_eq_some_iff.mp g5).1 g5 fun h' k1 k2=>h h' (g2 ▸ g3 ▸ k1) ?_
 intro b o x y
 exact k2 b o (oth b o (nr b o x y) x) y
theorem Zhy {Q:Unit->Shared->Prop} (hfr:A.frames=some (env :: outer)) (hf:env.frame=some L) (f:Fly B (env :: outer) e cls dct .none s.heap)
  (h: ∀ h',Fly B outer e cls dct .none h'->s.heap.UpToSlots h'->Q () { s with heap:=h' }):wpAny M A (leaving env (.ref e)) Q E s:=by
 unfold leaving
 refine wpAny_bind (ZfG hfr hf f fun h1 k1 u1=> ?_)
 exact ZcQ (s:={ s with heap:=h1 }) k1 fun h2 k2 u2=>h h2 k2.tail (u1.trans u2)
theorem Zhz {oe:Obj} {vs:Array Value} {Q:Unit->Shared->Prop} (hfr:A.frames=some (env :: outer)) (hf:env.frame=some L) (hl:s.heap.FunFrames B (env :: outer)) (he:s.heap.get? e=some oe) (hs:B.StaysIn s.heap) (hb:B.get? e=none) (hd:oe.data= .fields vs) (h1:vs[1]?=some .none) (h2:vs[2]?=some .none)
  (h: ∀ h',Fly B outer e oe.cls oe.dict .none h'->s.heap.UpToSlots h'->Q () { s with heap:=h' }):wpAny M A (leaving env (.ref e)) Q E s:=by
 unfold leaving noteFrame
 simp only[hf]
 refine wpAny_bind (wpAny_bind (wpAny_field he hd h1 ?_))
 rw[if_neg (by decide)]
 refine ZcY hfr hl hf he hs hb hd (Array.getElem?_eq_some_iff.mp h2).1 h2 fun h' k1 u1=> ?_
 exact ZcQ (s:={ s with heap:=h' }) k1 fun h2 k2 u2=>h h2 k2.tail (u1.trans u2)
end
end DQ
end
section
namespace DQ
open PySem PySem.Spec PyProof.Rows
open PySem.W (Looks findIn mroIn specialIn takesIn clsIn looks_findIn looks_mroIn looks_find findObj KitX)
structure ExcC (K:PySem.W.Frag) (C:Addr):Prop where
 ga:findIn K (.ref C) "__getattribute__"=some (some (.builtin "BaseException.__getattribute__"))
 gt:findIn K (.ref C) "__getattr__"=some none
 cl:findIn K (.ref C) "__class__"=some (some (.builtin "object.__class__"))
 gs:specialIn K (.builtin "object.__class__") "__get__"=some (some (.builtin "getset_descriptor.__get__"))
 tk:takesIn K (.builtin "object.__class__")=some true
 bx:mroIn K C (.type "BaseException")=some true
 ob:mroIn K C (.type "object")=some true
 is:(clsIn K C).isSome=true
section
variable {prog:Program} {w:World} {A:Around} {E:Value->Shared->Prop} {s:Shared} {K:PySem.W.Frag} {e C:Addr} {oe:Obj} {od:Option Obj}
theorem ZfH {nameV:Value} {Q:Unit->Shared->Prop} (c:ExcC K C) (X:K.In s.heap) (I:PySem.W.InstAt s.heap e oe C od) (h:Q () s):wpAny (model prog w) A (checkBuiltinCall "BaseException.__getattribute__" ⟨[.ref e,nameV],[]⟩) Q E s:=by
 have hk:builtinKind "BaseException.__getattribute__"=some .slot:=by decide +kernel
 have hp:splitId "BaseException.__getattribute__"=some ("BaseException","__getattribute__"):=by decide +kernel
 obtain ⟨hh,g,d,t,os⟩:=s
 have L0:=I.type (M:=model prog w)
 have L1:=looks_mroIn (M:=model prog w) X c.bx
 have ha:=F.args_bexc_ga (.ref e) nameV
 simp only[checkBuiltinCall,hk,hp]
 refine wpAny_bind (wpAny_bind (L0.at (L1.at ?_)))
 repeat (any_goals (first | assumption | wp_step))
theorem ZhA {tk:Tok} {Q:Fin->Shared->Prop} (c:ExcC K C) (X:K.In s.heap) (I:PySem.W.InstAt s.heap e oe C od) (h:Q (.done (.ret (.ref C))) s):
  wpAny (model prog w) A (Builtin.«object.__getattribute__» ⟨[.ref e,.str "__class__" tk],[]⟩) Q E s:=by
 have hf:findObj K C od "__class__"=some (.bind (.builtin "getset_descriptor.__get__") (.builtin "object.__class__")):=by
  obtain ⟨cd,hc⟩:=Option.isSome_iff_exists.mp c.is
  unfold findObj
  rw[hc,Option.bind_some,c.cl,Option.bind_some]
  simp[c.gs,c.tk]
 have fin: ∀ {E':Value->Shared->Prop} {Q':Value->Shared->Prop},Q' (.ref C) s->wpAny (model prog w) A (call (.builtin "getset_descriptor.__get__") [.builtin "object.__class__",.ref e,.ref C]) Q' E' s:=fun {E' Q'} z=>wpAny_call (PySem.W.class_get X I c.ob z)
 obtain ⟨hh,g,d,t,os⟩:=s
 have L0:=I.type (M:=model prog w)
 have L1:=looks_find (M:=model prog w) X I hf
 refine wpAny_bind (wpAny_pure (wpAny_bind (wpAny_pure (wpAny_bind (L0.at (wpAny_bind (L1.at ?_)))))))
 refine wpAny_bind (wpAny_holding (fin ?_))
 exact wpAny_pure h
theorem ZmE {tk:Tok} {fill expr:Bool} {Q:Value->Shared->Prop} (c:ExcC K C) (X:K.In s.heap) (I:PySem.W.InstAt s.heap e oe C od) (h:Q (.ref C) s):wpAny (model prog w) A (getAttrBy (.ref e) (.str "__class__" tk) fill expr) Q E s:=by
 have hc: ∀ {E':Value->Shared->Prop} {Q':Value->Shared->Prop},Q' (.ref C) s->wpAny (model prog w) A (call (.builtin "BaseException.__getattribute__") [.ref e,.str "__class__" tk]) Q' E' s:=fun {E' Q'} z=>
  wpAny_call (codeAny_call_builtin F.attr_ValueError.ga.plain F.entry_bexc_ga (ZfH c X I (ZhA c X I z)))
 obtain ⟨hh,g,d,t,os⟩:=s
 have L0:=I.type (M:=model prog w)
 have L1:=looks_findIn (M:=model prog w) X c.ga
 have L2:=looks_findIn (M:=model prog w) X c.gt
 have hb:=F.attr_ValueError.ga.bind (.ref e)
 have hx:(onTheHeap (Value.ref C) && Value.builtin "BaseException.__getattribute__" == Value.builtin "object.__getattribute__")=false:=by rw[show (Value.builtin "BaseException.__getattribute__" == Value.builtin "object.__getattribute__")=false by decide +kernel];rfl
 have hy:(expr && onTheHeap (Value.builtin "BaseException.__getattribute__"))=false:=by cases expr<;>rfl
 unfold getAttrBy
 refine wpAny_holding (wpAny_bind (L0.at (wpAny_bind (L1.at ?_))))
 dsimp only
 rw[hx,if_neg (by decide)]
 unfold getAttrByItsOwn hookBefore
 rw[if_pos (show onTheHeap (Value.ref C)=true from rfl)]
 refine wpAny_bind (L2.at (wpAny_bind (wpAny_attempt (wpAny_holding ?_))))
 unfold callGetattribute
 rw[hy,if_neg (by decide)]
 unfold boundAndCalled
 refine wpAny_bind (wpAny_of_eq hb (hc ?_))
 exact wpAny_pure h
theorem Zi0 {Q:Option Value->Shared->Prop} (c:ExcC K C) (X:K.In s.heap) (I:PySem.W.InstAt s.heap e oe C od) (h:Q (some (.ref C)) { s with toks:=s.toks + 1 }):wpAny (model prog w) A (getAttr? (.ref e) "__class__") Q E s:=by
 unfold getAttr? getAttrBy?
 refine wpAny_bind (wpAny_mkText (wpAny_bind (wpAny_attempt (ZmE (s:={ s with toks:=s.toks + 1 }) c X I (wpAny_pure h)))))
theorem Zi1 (c:ExcC K C):KitX K (.ref e) (.ref C) (fun h=>PySem.W.InstAt h e oe C od) where
 ty:=fun _ _ _ I=>I.type
 it:=fun M h X _=>by
  obtain ⟨cd,hc⟩:=Option.isSome_iff_exists.mp c.is
  unfold clsIn at hc
  split at hc
  ·rename_i o1 o2 o3 o4 ho
   intro A' Q' E' s' k q
   unfold isType loadHead
   exact wpAny_bind (wpAny_loadPart (k _ _ (X _ _ ho)) (wpAny_pure q))
  ·cases hc
 ne:=fun h tp dd its n sl X htp=>by
  obtain ⟨cd,hc⟩:=Option.isSome_iff_exists.mp c.is
  refine Bool.eq_false_iff.mpr fun q=> ?_
  cases Value.ref.inj (beq_iff_eq.mp q)
  unfold clsIn at hc
  split at hc
  ·rename_i o1 o2 o3 o4 ho
   cases (X _ _ ho).symm.trans htp
  ·cases hc
 ca:=fun X I k=>Zi0 c X I k
end
end DQ
end
section
namespace DL
open PySem PySem.Spec PyProof.Rows L2
inductive D where
 |non
 |bl (b:Bool)
 |int (i:Int)
 |str (x:Str)
 |tup (xs:List D)
 |rol (xs:List D)
 |con (xs:List D)
 |ref (n:Nat)
 |err (c:Str) (xs:List D)
 |dk (n:Nat)
 |dt (n:Nat)
 |fn (c:Str)
inductive SO where
 |lst (xs:List D)
noncomputable abbrev Sto:=List SO
noncomputable abbrev Ro:=List (Option D)
noncomputable def SqF (K:PySem.W.Frag) (H:Hp) (a:Addr) (xs:List V):Prop:=
 (∃ o,H a=some (.frz o (.lst xs)))\/ ∃ (o:Obj) (its:Array Value) (n:Nat),K.lookup a=some o/\o.cls= .type "list"/\o.dict=none/\o.data= .seq its n/\its.size<=sizeLine/\ZZ xs its.toList
theorem SqF.sq {K:PySem.W.Frag} {H:Hp} {a:Addr} {xs:List V} (h:SqF K H a xs):SqL K H a xs:=by
 rcases h with ⟨o,h⟩ | h
 ·exact .inl (.inr ⟨o,h⟩)
 ·exact .inr h
noncomputable def SqK (K:PySem.W.Frag) (a:Addr) (xs:List V):Prop:= ∃ (o:Obj) (its:Array Value) (n:Nat),K.lookup a=some o/\o.cls= .type "tuple"/\o.data= .seq its n/\its.size<=sizeLine/\ZZ xs its.toList/\o.dict=none
theorem SqK.sq {K:PySem.W.Frag} {H:Hp} {a:Addr} {xs:List V} (h:SqK K a xs):SqT K H a xs:=
 let ⟨o,its,n,h1,h2,h3,h4,h5,_⟩:=h
 .inr ⟨o,its,n,h1,h2,h3,h4,h5⟩
noncomputable def Zi2:List Str:=[PySem.Str.ofString "where",PySem.Str.ofString "at"]
noncomputable def EOk (H:Hp) (p C:Addr) (xs:List V):Prop:= ∃ oe u vs,H p=some (.frz oe u)/\oe.cls= .ref C/\oe.data= .fields vs/\vs[2]?=some .none/\((xs=[]/\oe.dict=none)\/ ∃ dx fs,oe.dict=some dx/\H dx=some (.xd fs)/\fs.map (·.2)=xs/\fs.map (·.1)=Zi2)
noncomputable def Kn (H:Hp) (p:Addr):Option Nat:=match H p with | some (.lst _)=>some 0 | some (.dK _)=>some 1 | some (.dT _)=>some 2 | some (.frz _ (.dK _))=>some 1 | some (.frz _ (.dT _))=>some 2 | _=>none
structure RefK (H:Hp) (α:List Addr) (j n:Nat) (p:Addr):Prop where
 at':α[n]?=some p
 kn:Kn H p=some j
theorem Kn.lst {H:Hp} {p:Addr} {xs:List V} (h:H p=some (.lst xs)):Kn H p=some 0:=by unfold Kn;rw[h]
theorem Kn.ne {H:Hp} {p q:Addr} {j:Nat} {o:HO} (h:Kn H p=some j) (hq:H q=none):Kn (upd H q o) p=some j:=by
 have:p≠q:=by
  intro z
  unfold Kn at h
  rw[z,hq] at h
  cases h
 unfold Kn
 rw[Zo this]
 exact h
mutual
inductive Rep (K:PySem.W.Frag) (H:Hp) (α:List Addr):V->D->Prop where
 |non:Rep K H α .non .non
 |bl (b:Bool):Rep K H α (.bl b) (.bl b)
 |int (i:Int):Rep K H α (.int i) (.int i)
 |str (x:Str):Rep K H α (.str x) (.str x)
 |tup {p:Addr} {xs:List V} {ds:List D}:H p=some (.tup xs)->Reps K H α xs ds->Rep K H α (.ref p) (.tup ds)
 |rol {p:Addr} {xs:List V} {ds:List D}:SqF K H p xs->Reps K H α xs ds->Rep K H α (.ref p) (.rol ds)
 |con {p:Addr} {xs:List V} {ds:List D}:SqK K p xs->Reps K H α xs ds->Rep K H α (.ref p) (.con ds)
 |ref {p:Addr} {n:Nat}:RefK H α 0 n p->Rep K H α (.ref p) (.ref n)
 |dk {p:Addr} {n:Nat}:RefK H α 1 n p->Rep K H α (.ref p) (.dk n)
 |dt {p:Addr} {n:Nat}:RefK H α 2 n p->Rep K H α (.ref p) (.dt n)
 |fn {p:Addr} {c:Str}:PySem.W.nsIn K mainGlobals c=some (some (.ref p))->Rep K H α (.ref p) (.fn c)
 |err {p C:Addr} {c:Str} {xs:List V} {ds:List D}:PySem.W.nsIn K mainGlobals c=some (some (.ref C))->EOk H p C xs->Reps K H α xs ds->Rep K H α (.ref p) (.err c ds)
inductive Reps (K:PySem.W.Frag) (H:Hp) (α:List Addr):List V->List D->Prop where
 |nil:Reps K H α [] []
 |cons {v:V} {d:D} {vs:List V} {ds:List D}:Rep K H α v d->Reps K H α vs ds->Reps K H α (v :: vs) (d :: ds)
end
structure Ext (K:PySem.W.Frag) (H H':Hp) (α α':List Addr):Prop where
 tup: ∀ p xs,H p=some (.tup xs)->H' p=some (.tup xs)
 rol: ∀ p xs,SqF K H p xs->SqF K H' p xs
 err: ∀ p C xs,EOk H p C xs->EOk H' p C xs
 kn: ∀ p j,Kn H p=some j->Kn H' p=some j
 fz: ∀ p o u,H p=some (.frz o u)->H' p=some (.frz o u)
 al: ∃ β,α'=α ++ β
section
variable {K:PySem.W.Frag} {H H1 H2 H':Hp} {α α1 α2 α':List Addr}
theorem Ext.refl:Ext K H H α α:=⟨fun _ _ h=>h,fun _ _ h=>h,fun _ _ _ h=>h,fun _ _ h=>h,fun _ _ _ h=>h,[],(List.append_nil _).symm⟩
theorem Ext.trans (a:Ext K H H1 α α1) (b:Ext K H1 H2 α1 α2):Ext K H H2 α α2:=by
 obtain ⟨b1,e1⟩:=a.al
 obtain ⟨b2,e2⟩:=b.al
 exact ⟨fun p xs h=>b.tup p xs (a.tup p xs h),fun p xs h=>b.rol p xs (a.rol p xs h),fun p C xs h=>b.err p C xs (a.err p C xs h),fun p j h=>b.kn p j (a.kn p j h),fun p o u h=>b.fz p o u (a.fz p o u h),b1 ++ b2,by rw[e2,e1,List.append_assoc]⟩
theorem Ext.get0 (e:Ext K H H' α α') {n:Nat} {p:Addr} (h:α[n]?=some p):α'[n]?=some p:=by
 obtain ⟨β,e1⟩:=e.al
 have hl:n < α.length:=(List.getElem?_eq_some_iff.mp h).1
 rw[e1,List.getElem?_append_left hl]
 exact h
theorem Ext.get (e:Ext K H H' α α') {j n:Nat} {p:Addr} (h:RefK H α j n p):RefK H' α' j n p:=⟨e.get0 h.at',e.kn _ _ h.kn⟩
mutual
theorem Rep.mono (e:Ext K H H' α α'): ∀ {v:V} {d:D},Rep K H α v d->Rep K H' α' v d
 |_,_,.non=> .non
 |_,_,.bl b=> .bl b
 |_,_,.int i=> .int i
 |_,_,.str x=> .str x
 |_,_,.tup h r=> .tup (e.tup _ _ h) (Reps.mono e r)
 |_,_,.rol h r=> .rol (e.rol _ _ h) (Reps.mono e r)
 |_,_,.con h r=> .con h (Reps.mono e r)
 |_,_,.ref h=> .ref (e.get h)
 |_,_,.dk h=> .dk (e.get h)
 |_,_,.dt h=> .dt (e.get h)
 |_,_,.fn h=> .fn h
 |_,_,.err n h r=> .err n (e.err _ _ _ h) (Reps.mono e r)
theorem Reps.mono (e:Ext K H H' α α'): ∀ {vs:List V} {ds:List D},Reps K H α vs ds->Reps K H' α' vs ds
 |_,_,.nil=> .nil
 |_,_,.cons r t=> .cons (Rep.mono e r) (Reps.mono e t)
end
theorem Reps.length: ∀ {vs:List V} {ds:List D},Reps K H α vs ds->vs.length=ds.length
 |_,_,.nil=>rfl
 |_,_,.cons _ t=>by rw[List.length_cons,List.length_cons,Reps.length t]
theorem Reps.get: ∀ {vs:List V} {ds:List D} {i:Nat} {d:D},Reps K H α vs ds->ds[i]?=some d-> ∃ v,vs[i]?=some v/\Rep K H α v d
 |_,_,_,_,.nil,e=>by simp at e
 |_,_,0,_,.cons r _,e=>by simp at e;subst e;exact ⟨_,rfl,r⟩
 |_,_,i + 1,d,.cons _ t,e=>by
  obtain ⟨u,h1,h2⟩:=Reps.get (i:=i) (d:=d) t (by simpa using e)
  exact ⟨u,by simpa using h1,h2⟩
theorem Reps.set {v:V} {d:D} (r:Rep K H α v d): ∀ {vs:List V} {ds:List D} (i:Nat),Reps K H α vs ds->Reps K H α (vs.set i v) (ds.set i d)
 |_,_,_,.nil=> .nil
 |_,_,0,.cons _ t=> .cons r t
 |_,_,i + 1,.cons q t=> .cons q (Reps.set r i t)
theorem Reps.append: ∀ {vs ws:List V} {ds es:List D},Reps K H α vs ds->Reps K H α ws es->Reps K H α (vs ++ ws) (ds ++ es)
 |_,_,_,_,.nil,s=>s
 |_,_,_,_,.cons r t,s=> .cons r (Reps.append t s)
theorem Reps.ints: ∀ (ns:List Int),Reps K H α (ns.map V.int) (ns.map D.int)
 | []=> .nil
 |n :: r=> .cons (.int n) (Reps.ints r)
theorem ZhB {p q:Addr} {xs:List V} {o:HO} (h:H q=some (.tup xs)) (hp: ∀ u,H p=some u->(∀ ys,u≠ .tup ys)/\ ∀ ob w,u≠ .frz ob w):upd H p o q=some (.tup xs):=by
 rw[Zo (fun e=>(hp _ (e ▸ h)).1 _ rfl)]
 exact h
theorem ZhC {p q:Addr} {xs:List V} {o:HO} (h:SqF K H q xs) (hp: ∀ u,H p=some u-> ∀ ob w,u≠ .frz ob w):SqF K (upd H p o) q xs:=by
 rcases h with ⟨ob,h⟩ | h
 ·refine .inl ⟨ob,?_⟩
  rw[Zo (fun e=>hp _ (e ▸ h) _ _ rfl)]
  exact h
 ·exact .inr h
theorem ZjZ {p q:Addr} {ob:Obj} {u o:HO} (h:H q=some (.frz ob u)) (hp: ∀ u,H p=some u-> ∀ ob w,u≠ .frz ob w):upd H p o q=some (.frz ob u):=by
 rw[Zo (fun e=>hp _ (e ▸ h) _ _ rfl)]
 exact h
theorem ZhD {p q C:Addr} {xs:List V} {o:HO} (h:EOk H q C xs) (hp: ∀ u,H p=some u->(∀ ob w,u≠ .frz ob w)/\ ∀ fs,u≠ .xd fs):EOk (upd H p o) q C xs:=by
 obtain ⟨oe,u,vs,h1,h2,h3,h4,h5⟩:=h
 refine ⟨oe,u,vs,?_,h2,h3,h4,?_⟩
 ·rw[Zo (fun e=>(hp _ (e ▸ h1)).1 _ _ rfl)]
  exact h1
 ·rcases h5 with h5 | ⟨dx,fs,k1,k2,k3⟩
  ·exact .inl h5
  ·refine .inr ⟨dx,fs,k1,?_,k3⟩
   rw[Zo (fun e=>(hp _ (e ▸ k2)).2 _ rfl)]
   exact k2
theorem Ext.new {p:Addr} {o:HO} (h:H p=none) {β:List Addr}:Ext K H (upd H p o) α (α ++ β):=
 ⟨fun q xs z=>ZhB z (fun u e=>(by rw[h] at e;cases e)),fun q xs z=>ZhC z (fun u e=>(by rw[h] at e;cases e)),fun q C xs z=>ZhD z (fun u e=>(by rw[h] at e;cases e)),fun q j z=>Kn.ne z h,fun q o u z=>ZjZ z (fun u e=>(by rw[h] at e;cases e)),β,rfl⟩
theorem Ext.new0 {p:Addr} {o:HO} (h:H p=none):Ext K H (upd H p o) α α:=by
 have e:=Ext.new (K:=K) (H:=H) (α:=α) (o:=o) h (β:=[])
 rw[List.append_nil] at e
 exact e
theorem Ext.wrK {p:Addr} {o:HO} {j:Nat} (h:Kn H p=some j) (nf: ∀ ob w,H p≠some (.frz ob w)) (h':Kn (upd H p o) p=some j):Ext K H (upd H p o) α α:=by
 have ne (u:HO) (e:H p=some u):(∀ ys,u≠ .tup ys)/\(∀ ob w,u≠ .frz ob w)/\ ∀ fs,u≠ .xd fs:=by
  unfold Kn at h
  rw[e] at h
  refine ⟨fun ys z=> ?_,fun ob w z=>nf ob w (by rw[e,z]),fun fs z=> ?_⟩<;>subst z<;>cases h
 refine ⟨fun q xs z=>ZhB z fun u e=>⟨(ne u e).1,(ne u e).2.1⟩,fun q xs z=>ZhC z fun u e=>(ne u e).2.1,fun q C xs z=>ZhD z fun u e=>⟨(ne u e).2.1,(ne u e).2.2⟩,fun q i z=> ?_,fun q ob u z=>ZjZ z fun u e=>(ne u e).2.1,[],(List.append_nil _).symm⟩
 by_cases c:q=p
 ·subst c
  rw[h] at z
  cases z
  exact h'
 ·unfold Kn
  rw[Zo c]
  exact z
theorem Ext.wr {p:Addr} {xs ys:List V} (h:H p=some (.lst xs)):Ext K H (upd H p (.lst ys)) α α:=Ext.wrK (Kn.lst h) (fun ob w z=>by rw[h] at z;cases z) (Kn.lst Zn)
noncomputable def Zpw:Key->D
 | .inl i=> .int i
 | .inr x=> .str x
noncomputable def ZmF (ks:List Key):D:= .tup (ks.map Zpw)
noncomputable def ZfI (K:PySem.W.Frag) (H:Hp) (α:List Addr) {κ:Type} (key:κ->D) (kvs:List (κ × V)) (ds:List D):Prop:=
 ∃ es:List D,ds=List.zipWith (fun kv e=>D.tup [key kv.1,e]) kvs es/\Reps K H α (kvs.map (·.2)) es
noncomputable def SOk (K:PySem.W.Frag) (H:Hp) (α:List Addr) (p:Addr):SO->Prop
 | .lst ds=>(∃ xs,H p=some (.lst xs)/\Reps K H α xs ds)\/(∃ kvs,H p=some (.dK kvs)/\ZfI K H α Zpw kvs ds)\/(∃ kvs,H p=some (.dT kvs)/\ZfI K H α ZmF kvs ds)\/(∃ o kvs r,H p=some (.frz o (.dK kvs))/\ds= .non :: r/\ZfI K H α Zpw kvs r)\/(∃ o kvs r,H p=some (.frz o (.dT kvs))/\ds= .non :: r/\ZfI K H α ZmF kvs r)
theorem SOk.there {p:Addr} {o:SO} (h:SOk K H α p o): ∃ u,H p=some u:=by
 cases o with
 |lst ds=>rcases h with ⟨_,e,_⟩ | ⟨_,e,_⟩ | ⟨_,e,_⟩ | ⟨_,_,_,e,_⟩ | ⟨_,_,_,e,_⟩<;>exact ⟨_,e⟩
theorem SOk.mono {p:Addr} {o:SO} (h:SOk K H α p o) (ex:Ext K H H' α α') (e:H' p=H p):SOk K H' α' p o:=by
 cases o with
 |lst ds=>
  rcases h with ⟨xs,h1,h2⟩ | ⟨kvs,h1,es,h2,h3⟩ | ⟨kvs,h1,es,h2,h3⟩ | ⟨o,kvs,r,h1,h0,es,h2,h3⟩ | ⟨o,kvs,r,h1,h0,es,h2,h3⟩
  ·exact .inl ⟨xs,e.trans h1,Reps.mono ex h2⟩
  ·exact .inr (.inl ⟨kvs,e.trans h1,es,h2,Reps.mono ex h3⟩)
  ·exact .inr (.inr (.inl ⟨kvs,e.trans h1,es,h2,Reps.mono ex h3⟩))
  ·exact .inr (.inr (.inr (.inl ⟨o,kvs,r,e.trans h1,h0,es,h2,Reps.mono ex h3⟩)))
  ·exact .inr (.inr (.inr (.inr ⟨o,kvs,r,e.trans h1,h0,es,h2,Reps.mono ex h3⟩)))
structure HR (K:PySem.W.Frag) (H:Hp) (α:List Addr) (M:Sto):Prop where
 len:α.length=M.length
 nd:α.Nodup
 ob: ∀ (n:Nat) (p:Addr) (o:SO),α[n]?=some p->M[n]?=some o->SOk K H α p o
theorem HR.nil:HR K H [] []:=⟨rfl,List.nodup_nil,fun n p o h=>by simp at h⟩
theorem Kn.at {H:Hp} {p:Addr} {j:Nat} {u:HO} (k:Kn H p=some j) (e:H p=some u):(match some u with | some (.lst _)=>some 0 | some (.dK _)=>some 1 | some (.dT _)=>some 2 | some (.frz _ (.dK _))=>some 1 | some (.frz _ (.dT _))=>some 2 | _=>none)=some j:=by
 unfold Kn at k
 rw[e] at k
 exact k
theorem HR.at (h:HR K H α M) {n:Nat} {p:Addr} {ds:List D} (e:RefK H α 0 n p) (m:M[n]?=some (.lst ds)): ∃ xs,H p=some (.lst xs)/\Reps K H α xs ds:=by
 rcases h.ob n p _ e.at' m with h1 | ⟨_,h1,_⟩ | ⟨_,h1,_⟩ | ⟨_,_,_,h1,_⟩ | ⟨_,_,_,h1,_⟩
 ·exact h1
 all_goals exact absurd (Kn.at e.kn h1) (fun z=>nomatch z)
theorem RefK.lst {n:Nat} {p:Addr} (e:RefK H α 0 n p): ∃ xs,H p=some (.lst xs):=by
 have:=e.kn
 unfold Kn at this
 split at this
 ·rename_i xs h;exact ⟨xs,h⟩
 all_goals cases this
theorem HR.some_at {M:Sto} (h:HR K H α M) {n:Nat} {p:Addr} (e:RefK H α 0 n p): ∃ xs,H p=some (.lst xs):=e.lst
theorem HR.there {M:Sto} (h:HR K H α M) {n:Nat} {p:Addr} (e:α[n]?=some p): ∃ u,H p=some u:=by
 have hl:n < α.length:=(List.getElem?_eq_some_iff.mp e).1
 have hm:n < M.length:=by rw[<- h.len];exact hl
 exact (h.ob n p M[n] e (List.getElem?_eq_getElem hm)).there
theorem HR.tup {M:Sto} {p:Addr} {o:HO} (h:HR K H α M) (hp:H p=none):HR K (upd H p o) α M:=
 ⟨h.len,h.nd,fun n q so e m=>by
  obtain ⟨u,hu⟩:=h.there e
  exact (h.ob n q so e m).mono (Ext.new0 hp) (Zo (ZK hu hp))⟩
theorem HR.newO {M:Sto} {p:Addr} {o:HO} {so:SO} (h:HR K H α M) (hp:H p=none) (r:SOk K (upd H p o) (α ++ [p]) p so):HR K (upd H p o) (α ++ [p]) (M ++ [so]):=by
 have ex:Ext K H (upd H p o) α (α ++ [p]):=Ext.new hp
 refine ⟨by rw[List.length_append,List.length_append,h.len];rfl,?_,fun n q so' e m=> ?_⟩
 ·refine List.nodup_append.mpr ⟨h.nd,by simp,fun a ha b hb=> ?_⟩
  have hb':b=p:=by simpa using hb
  obtain ⟨n,hn,e⟩:=List.getElem_of_mem ha
  obtain ⟨u,z⟩:=h.there (n:=n) (p:=a) (by rw[List.getElem?_eq_getElem hn,e])
  rw[hb']
  exact ZK z hp
 ·by_cases hn:n < α.length
  ·rw[List.getElem?_append_left hn] at e
   rw[List.getElem?_append_left (by rw[<- h.len];exact hn)] at m
   obtain ⟨u,hu⟩:=h.there e
   exact (h.ob n q so' e m).mono ex (Zo (ZK hu hp))
  ·have en:n=α.length:=by
    have:n < (α ++ [p]).length:=(List.getElem?_eq_some_iff.mp e).1
    rw[List.length_append,List.length_singleton] at this
    omega
   subst en
   rw[List.getElem?_append_right (Nat.le_refl _),Nat.sub_self] at e
   rw[h.len,List.getElem?_append_right (Nat.le_refl _),Nat.sub_self] at m
   cases e
   cases m
   exact r
theorem HR.new {M:Sto} {p:Addr} {xs:List V} {ds:List D} (h:HR K H α M) (hp:H p=none) (r:Reps K H α xs ds):HR K (upd H p (.lst xs)) (α ++ [p]) (M ++ [.lst ds]):=
 h.newO hp (.inl ⟨xs,Zn,Reps.mono (Ext.new hp) r⟩)
theorem Zi3 {n m:Nat} {p:Addr} (h:α.Nodup) (a:α[n]?=some p) (b:α[m]?=some p):n=m:=by
 obtain ⟨h1,e1⟩:=List.getElem?_eq_some_iff.mp a
 obtain ⟨h2,e2⟩:=List.getElem?_eq_some_iff.mp b
 exact (List.getElem_inj h).mp (e1.trans e2.symm)
theorem HR.wrO {M:Sto} {n:Nat} {p:Addr} {o:HO} {so:SO} (h:HR K H α M) (e:α[n]?=some p) (ex:Ext K H (upd H p o) α α) (r:SOk K (upd H p o) α p so):HR K (upd H p o) α (M.set n so):=by
 have hn:n < M.length:=by rw[<- h.len];exact (List.getElem?_eq_some_iff.mp e).1
 refine ⟨by rw[List.length_set];exact h.len,h.nd,fun k q so' e' m=> ?_⟩
 by_cases hk:k=n
 ·subst hk
  rw[e] at e'
  cases e'
  rw[List.getElem?_set_self hn] at m
  cases m
  exact r
 ·rw[List.getElem?_set_ne (Ne.symm hk)] at m
  have hq:q≠p:=fun z=>hk (Zi3 h.nd (z ▸ e') e)
  exact (h.ob k q so' e' m).mono ex (Zo hq)
theorem HR.wr {M:Sto} {n:Nat} {p:Addr} {xs ys:List V} {ds:List D} (h:HR K H α M) (e:RefK H α 0 n p) (hp:H p=some (.lst ys)) (r:Reps K H α xs ds):HR K (upd H p (.lst xs)) α (M.set n (.lst ds)):=
 h.wrO e.at' (Ext.wr hp) (.inl ⟨xs,Zn,Reps.mono (Ext.wr hp) r⟩)
end
inductive Out (β:Type) where
 |ok (a:β) (M:Sto)
 |exc (c:Str) (M:Sto)
 |bad
noncomputable def Out.bind {β γ:Type} (o:Out β) (f:β->Sto->Out γ):Out γ:=match o with
 | .ok a M=>f a M
 | .exc c M=> .exc c M
 | .bad=> .bad
inductive Fl where
 |nx (ρ:Ro) (M:Sto)
 |ret (d:D) (M:Sto)
 |brk (ρ:Ro) (M:Sto)
 |cnt (ρ:Ro) (M:Sto)
 |exc (c:Str) (M:Sto)
 |bad
noncomputable def Zgp (c:Str):Bool:=c == PySem.Str.ofString "NoRound"
noncomputable def XO (K:PySem.W.Frag) (H:Hp) (α:List Addr) (c:Str) (M:Sto) (dct:Option Addr):Prop:=
 (Zgp c=false/\HR K H α M/\dct=none)\/(Zgp c=true/\ ∃ (M0:Sto) (ds:List D) (dx:Addr) (fs:List (Str × V)),M=M0 ++ [.lst ds]/\HR K H α M0/\dct=some dx/\H dx=some (.xd fs)/\fs.map (·.1)=Zi2/\Reps K H α (fs.map (·.2)) ds)
noncomputable def OG {β γ:Type} (K:PySem.W.Frag) (R:Hp->List Addr->γ->β->Prop) (H:Hp) (α:List Addr) (ξ:XK) (Q:γ->Hp->Prop):Out β->Prop
 | .ok d M'=> ∀ v H' α',Ext K H H' α α'->HR K H' α' M'->R H' α' v d->Q v H'
 | .exc c M'=> ∀ C H' α',PySem.W.nsIn K mainGlobals c=some (some (.ref C))->Ext K H H' α α'-> ∀ dct,XO K H' α' c M' dct->ξ (.ref C) dct H'
 | .bad=>False
theorem OG.ext {β γ:Type} {K:PySem.W.Frag} {R:Hp->List Addr->γ->β->Prop} {H H1:Hp} {α α1:List Addr} {ξ:XK} {Q:γ->Hp->Prop} {o:Out β} (h:OG K R H α ξ Q o) (e:Ext K H H1 α α1):OG K R H1 α1 ξ Q o:=by
 cases o with
 |ok d M'=>exact fun v H' α' e'=>h v H' α' (e.trans e')
 |exc c M'=>exact fun C H' α' n e'=>h C H' α' n (e.trans e')
 |bad=>exact h
noncomputable abbrev OP (K:PySem.W.Frag):=OG K (Rep K)
noncomputable abbrev OT (K:PySem.W.Frag):=OG (β:=Bool) (γ:=Bool) K (fun _ _ v d=>v=d)
noncomputable abbrev OA (K:PySem.W.Frag):=OG K (Reps K)
noncomputable def SR (K:PySem.W.Frag) (H:Hp) (α:List Addr) (σ:L2.St) (ρ:Ro):Prop:=σ.length=ρ.length/\ ∀ (i:Nat) (d:D),ρ[i]?=some (some d)-> ∃ v,σ[i]?=some (some v)/\Rep K H α v d
theorem SR.mono {K:PySem.W.Frag} {H H':Hp} {α α':List Addr} {σ:L2.St} {ρ:Ro} (h:SR K H α σ ρ) (e:Ext K H H' α α'):SR K H' α' σ ρ:=
 ⟨h.1,fun i d q=>let ⟨v,a,b⟩:=h.2 i d q;⟨v,a,Rep.mono e b⟩⟩
theorem SR.set {K:PySem.W.Frag} {H:Hp} {α:List Addr} {σ:L2.St} {ρ:Ro} {v:V} {d:D} (h:SR K H α σ ρ) (i:Nat) (r:Rep K H α v d):SR K H α (σ.set i (some v)) (ρ.set i (some d)):=by
 refine ⟨by rw[List.length_set,List.length_set];exact h.1,fun j e q=> ?_⟩
 by_cases hj:j=i
 ·subst hj
  have hl:j < ρ.length:=by
   have:=(List.getElem?_eq_some_iff.mp q).1
   rw[List.length_set] at this
   exact this
  rw[List.getElem?_set_self hl] at q
  cases q
  exact ⟨v,by rw[List.getElem?_set_self (by rw[h.1];exact hl)],r⟩
 ·rw[List.getElem?_set_ne (Ne.symm hj)] at q
  rw[List.getElem?_set_ne (Ne.symm hj)]
  exact h.2 j e q
noncomputable abbrev Ev:=Ro->Sto->Out D
noncomputable abbrev Tv:=Ro->Sto->Out Bool
noncomputable abbrev Av:=Ro->Sto->Out (List D)
noncomputable abbrev Sv:=Ro->Sto->Fl
noncomputable def DE (X:Cx) (ξ:XK) (e:Expr) (f:Ev):Prop:= ∃ t:TE,PE X e t/\ ∀ σ ρ H α M Q,SR X.K H α σ ρ->HR X.K H α M->OP X.K H α ξ Q (f ρ M)->t σ H Q
noncomputable def DT (X:Cx) (ξ:XK) (e:Expr) (f:Tv):Prop:= ∃ t:TT,PT X e t/\ ∀ σ ρ H α M Q,SR X.K H α σ ρ->HR X.K H α M->OT X.K H α ξ Q (f ρ M)->t σ H Q
noncomputable def DW (X:Cx) (ξ:XK) (e:Expr) (f:Tv):Prop:= ∃ t:TT,PW X e t/\ ∀ σ ρ H α M Q,SR X.K H α σ ρ->HR X.K H α M->OT X.K H α ξ Q (f ρ M)->t σ H Q
noncomputable def DA (X:Cx) (ξ:XK) (es:List Expr) (f:Av):Prop:= ∃ t:TA,PA X es t/\ ∀ σ ρ H α M Q,SR X.K H α σ ρ->HR X.K H α M->OA X.K H α ξ Q (f ρ M)->t σ H Q
theorem OG.seq {β γ β' γ':Type} {K:PySem.W.Frag} {R:Hp->List Addr->γ->β->Prop} {R':Hp->List Addr->γ'->β'->Prop} {H:Hp} {α:List Addr} {ξ:XK} {Q:γ'->Hp->Prop} {Q1:γ->Hp->Prop} {o:Out β} {f:β->Sto->Out β'}
  (h:OG K R' H α ξ Q (o.bind f)) (k: ∀ d M' v H' α',Ext K H H' α α'->HR K H' α' M'->R H' α' v d->OG K R' H' α' ξ Q (f d M')->Q1 v H'):OG K R H α ξ Q1 o:=by
 cases o with
 |ok d M'=>exact fun v H' α' e hr r=>k d M' v H' α' e hr r (OG.ext (o:=f d M') h e)
 |exc c M'=>exact h
 |bad=>exact h
section
variable {X:Cx} {ξ:XK} {a b e:Expr} {fa fb:Ev} {pos:Pos}
noncomputable def Zf (i:Nat):Ev:=fun ρ M=>match ρ[i]? with | some (some d)=> .ok d M | _=> .bad
noncomputable def eC (d:D):Ev:=fun _ M=> .ok d M
theorem Zb (i:Nat) {x:Str} (hN:X.N[i]?=some x:=by rfl) (hv:Vis X.env.scope x:=by first | exact Or.inl rfl | exact Or.inr (Or.inl rfl) | exact Or.inr (Or.inr rfl)) (hd:(x == ("__debug__":Str))=false:=by decide)
  (hcd:(x == ("__classdict__":Str))=false:=by decide):DE X ξ (.Name x pos) (Zf i):=by
 refine ⟨_,Zcz hN hv hd hcd,fun σ ρ H α M Q s h q=> ?_⟩
 unfold Zf at q
 cases e:ρ[i]? with
 |none=>rw[e] at q;exact q.elim
 |some o=>
  cases o with
  |none=>rw[e] at q;exact q.elim
  |some d=>
   rw[e] at q
   obtain ⟨v,h1,h2⟩:=s.2 i d e
   exact ⟨v,h1,q v H α Ext.refl h h2⟩
theorem Zd {i:Int} {j pos}:DE X ξ (.Constant (.int i) j pos) (eC (.int i)):=⟨_,ZjP,fun _ _ H α M _ _ h q=>q _ H α Ext.refl h (.int i)⟩
theorem Zfc {i:Bool} {j pos}:DE X ξ (.Constant (.bool i) j pos) (eC (.bl i)):=⟨_,Zpg,fun _ _ H α M _ _ h q=>q _ H α Ext.refl h (.bl i)⟩
theorem Zb6 {j pos}:DE X ξ (.Constant .none j pos) (eC .non):=⟨_,Zmb,fun _ _ H α M _ _ h q=>q _ H α Ext.refl h .non⟩
theorem ZaS {x:Str} {j pos}:DE X ξ (.Constant (.str x) j pos) (eC (.str x)):=⟨_,Zhb,fun _ _ H α M _ _ h q=>q _ H α Ext.refl h (.str x)⟩
noncomputable abbrev Bo:=D->D->Sto->Out D
noncomputable def e2 (f:Bo) (fa fb:Ev):Ev:=fun ρ M=>(fa ρ M).bind fun x M1=>(fb ρ M1).bind fun y M2=>f x y M2
noncomputable def BO (X:Cx) (ξ:XK) (r:R2) (f:Bo):Prop:= ∀ H α M v w x y Q,HR X.K H α M->Rep X.K H α v x->Rep X.K H α w y->OP X.K H α ξ Q (f x y M)->r v w H Q
theorem two {r:R2} {f:Bo} (hb:BO X ξ r f) {ta tb:TE} (qa: ∀ σ ρ H α M Q,SR X.K H α σ ρ->HR X.K H α M->OP X.K H α ξ Q (fa ρ M)->ta σ H Q)
  (qb: ∀ σ ρ H α M Q,SR X.K H α σ ρ->HR X.K H α M->OP X.K H α ξ Q (fb ρ M)->tb σ H Q): ∀ σ ρ H α M Q,SR X.K H α σ ρ->HR X.K H α M->OP X.K H α ξ Q (e2 f fa fb ρ M)->tOp r ta tb σ H Q:=by
 intro σ ρ H α M Q s h q
 refine qa σ ρ H α M _ s h (OG.seq q fun x M1 v H1 α1 e1 h1 r1 q1=> ?_)
 refine qb σ ρ H1 α1 M1 _ (s.mono e1) h1 (OG.seq q1 fun y M2 w H2 α2 e2 h2 r2 q2=> ?_)
 exact hb H2 α2 M2 v w x y Q h2 (Rep.mono e2 r1) r2 q2
theorem Zgq {op:Operator} {r:R2} {f:Bo} (ho:OpR X (binaryOp op) r) (hf:BO X ξ r f) (ha:DE X ξ a fa) (hb:DE X ξ b fb):DE X ξ (.BinOp a op b pos) (e2 f fa fb):=by
 obtain ⟨ta,ha,qa⟩:=ha
 obtain ⟨tb,hb,qb⟩:=hb
 exact ⟨_,Zpq ho ha hb,two hf qa qb⟩
theorem Zbx {op:CmpOp} {r:R2} {f:Bo} (ho:OpR X (compareOp op) r) (hf:BO X ξ r f) (ha:DE X ξ a fa) (hb:DE X ξ b fb) (hm:behindInMarks op b=false:=by first | exact ZjT _ | with_unfolding_all rfl):DE X ξ (.Compare a [op] [b] pos) (e2 f fa fb):=by
 obtain ⟨ta,ha,qa⟩:=ha
 obtain ⟨tb,hb,qb⟩:=hb
 exact ⟨_,ZkJ ho ha hb hm,two hf qa qb⟩
noncomputable def tv (f:Ev):Tv:=fun ρ M=>(f ρ M).bind fun x M1=>match x with | .bl k=> .ok k M1 | _=> .bad
theorem ZmG {t:TE} {f:Ev} (qa: ∀ σ ρ H α M Q,SR X.K H α σ ρ->HR X.K H α M->OP X.K H α ξ Q (f ρ M)->t σ H Q): ∀ σ ρ H α M Q,SR X.K H α σ ρ->HR X.K H α M->OT X.K H α ξ Q (tv f ρ M)->Zmt t σ H Q:=by
 intro σ ρ H α M Q s h q
 refine qa σ ρ H α M _ s h (OG.seq q fun x M1 v H1 α1 e1 h1 r1 q1=> ?_)
 cases r1 with
 |bl k=>exact ⟨k,rfl,q1 k H1 α1 Ext.refl h1 rfl⟩
 |_=>exact q1.elim
theorem ZA {op:CmpOp} {r:R2} {f:Bo} (ho:OpR X (compareOp op) r) (hf:BO X ξ r f) (ha:DE X ξ a fa) (hb:DE X ξ b fb) (hm:behindInMarks op b=false:=by first | exact ZjT _ | with_unfolding_all rfl):DT X ξ (.Compare a [op] [b] pos) (tv (e2 f fa fb)):=by
 obtain ⟨ta,ha,qa⟩:=ha
 obtain ⟨tb,hb,qb⟩:=hb
 exact ⟨_,ZkK ho ha hb hm,ZmG (two hf qa qb)⟩
theorem ZaK (h:DE X ξ e fa) (he: ∀ whole,isTrue e X.env whole=(do let v <- whole;standAt e.pos;holding [v] (truthy v)):=by intro _;rfl):DT X ξ e (tv fa):=by
 obtain ⟨ta,ha,qa⟩:=h
 exact ⟨_,Zmc ha he,ZmG qa⟩
variable {ga gb:Tv} {rest:List Expr}
noncomputable def Za5 (f g:Tv):Tv:=fun ρ M=>(f ρ M).bind fun k M1=>if k=true then g ρ M1 else .ok false M1
noncomputable def Zdr (f g:Tv):Tv:=fun ρ M=>(f ρ M).bind fun k M1=>if k=true then .ok true M1 else g ρ M1
noncomputable def ZaL (f:Tv):Tv:=fun ρ M=>(f ρ M).bind fun k M1=> .ok (!k) M1
theorem ZcZ (ha:DT X ξ a ga):DW X ξ (.BoolOp .And [a] pos) ga:=let ⟨_,h,q⟩:=ha;⟨_,pw_and1 h,q⟩
theorem Zc0 (ha:DT X ξ a ga):DW X ξ (.BoolOp .Or [a] pos) ga:=let ⟨_,h,q⟩:=ha;⟨_,pw_or1 h,q⟩
theorem Zev (ha:DT X ξ a ga) (hb:DW X ξ (.BoolOp .And (b :: rest) pos) gb):DW X ξ (.BoolOp .And (a :: b :: rest) pos) (Za5 ga gb):=by
 obtain ⟨ta,ha,qa⟩:=ha
 obtain ⟨tb,hb,qb⟩:=hb
 refine ⟨_,pw_and ha hb,fun σ ρ H α M Q s h q=> ?_⟩
 refine qa σ ρ H α M _ s h (OG.seq q fun k M1 v H1 α1 e1 h1 r1 q1=> ?_)
 cases r1
 cases k with
 |true=>exact ZjY (qb σ ρ H1 α1 M1 Q (s.mono e1) h1 q1)
 |false=>exact ZjX (q1 false H1 α1 Ext.refl h1 rfl)
theorem Zds (ha:DT X ξ a ga) (hb:DW X ξ (.BoolOp .Or (b :: rest) pos) gb):DW X ξ (.BoolOp .Or (a :: b :: rest) pos) (Zdr ga gb):=by
 obtain ⟨ta,ha,qa⟩:=ha
 obtain ⟨tb,hb,qb⟩:=hb
 refine ⟨_,pw_or ha hb,fun σ ρ H α M Q s h q=> ?_⟩
 refine qa σ ρ H α M _ s h (OG.seq q fun k M1 v H1 α1 e1 h1 r1 q1=> ?_)
 cases r1
 cases k with
 |true=>exact ZjY (q1 true H1 α1 Ext.refl h1 rfl)
 |false=>exact ZjX (qb σ ρ H1 α1 M1 Q (s.mono e1) h1 q1)
theorem Zg1 (h:DW X ξ e ga):DT X ξ e ga:=let ⟨_,h,q⟩:=h;⟨_,h.pt,q⟩
theorem Zby (ha:DT X ξ a ga):DT X ξ (.UnaryOp .Not a pos) (ZaL ga):=by
 obtain ⟨ta,ha,qa⟩:=ha
 refine ⟨_,Zmd ha,fun σ ρ H α M Q s h q=> ?_⟩
 refine qa σ ρ H α M _ s h (OG.seq q fun k M1 v H1 α1 e1 h1 r1 q1=> ?_)
 cases r1
 exact q1 (!k) H1 α1 Ext.refl h1 rfl
noncomputable def ZaE (f g:Ev):Ev:=fun ρ M=>(f ρ M).bind fun x M1=>match x with | .bl k=>if k=true then g ρ M1 else .ok (.bl false) M1 | _=> .bad
noncomputable def Zg2 (f g:Ev):Ev:=fun ρ M=>(f ρ M).bind fun x M1=>match x with | .bl k=>if k=true then .ok (.bl true) M1 else g ρ M1 | _=> .bad
noncomputable def Zco (f:Ev):Ev:=fun ρ M=>(f ρ M).bind fun x M1=>match x with | .bl k=> .ok (.bl (!k)) M1 | _=> .bad
theorem ZcB {op} (ha:DE X ξ a fa):DE X ξ (.BoolOp op [a] pos) fa:=let ⟨_,h,q⟩:=ha;⟨_,Zme h,q⟩
theorem Zb7 (ha:DE X ξ a fa) (hb:DE X ξ (.BoolOp .And (b :: rest) pos) fb):DE X ξ (.BoolOp .And (a :: b :: rest) pos) (ZaE fa fb):=by
 obtain ⟨ta,ha,qa⟩:=ha
 obtain ⟨tb,hb,qb⟩:=hb
 refine ⟨_,Zmf ha hb,fun σ ρ H α M Q s h q=> ?_⟩
 refine qa σ ρ H α M _ s h (OG.seq q fun x M1 v H1 α1 e1 h1 r1 q1=> ?_)
 cases r1 with
 |bl k=>
  refine ⟨k,rfl,?_⟩
  cases k with
  |true=>exact ZjY (qb σ ρ H1 α1 M1 Q (s.mono e1) h1 q1)
  |false=>exact ZjX (q1 _ H1 α1 Ext.refl h1 (.bl false))
 |_=>exact q1.elim
theorem Zpx (ha:DE X ξ a fa) (hb:DE X ξ (.BoolOp .Or (b :: rest) pos) fb):DE X ξ (.BoolOp .Or (a :: b :: rest) pos) (Zg2 fa fb):=by
 obtain ⟨ta,ha,qa⟩:=ha
 obtain ⟨tb,hb,qb⟩:=hb
 refine ⟨_,Zpj ha hb,fun σ ρ H α M Q s h q=> ?_⟩
 refine qa σ ρ H α M _ s h (OG.seq q fun x M1 v H1 α1 e1 h1 r1 q1=> ?_)
 cases r1 with
 |bl k=>
  refine ⟨k,rfl,?_⟩
  cases k with
  |true=>exact ZjY (q1 _ H1 α1 Ext.refl h1 (.bl true))
  |false=>exact ZjX (qb σ ρ H1 α1 M1 Q (s.mono e1) h1 q1)
 |_=>exact q1.elim
theorem Zj0 (ha:DE X ξ a fa):DE X ξ (.UnaryOp .Not a pos) (Zco fa):=by
 obtain ⟨ta,ha,qa⟩:=ha
 refine ⟨_,Zmg ha,fun σ ρ H α M Q s h q=> ?_⟩
 refine qa σ ρ H α M _ s h (OG.seq q fun x M1 v H1 α1 e1 h1 r1 q1=> ?_)
 cases r1 with
 |bl k=>exact ⟨k,rfl,q1 _ H1 α1 Ext.refl h1 (.bl (!k))⟩
 |_=>exact q1.elim
noncomputable def eIf (c:Tv) (f g:Ev):Ev:=fun ρ M=>(c ρ M).bind fun k M1=>if k=true then f ρ M1 else g ρ M1
variable {es:List Expr} {fs:Av}
noncomputable def aNil:Av:=fun _ M=> .ok [] M
noncomputable def Zc (f:Ev) (g:Av):Av:=fun ρ M=>(f ρ M).bind fun x M1=>(g ρ M1).bind fun xs M2=> .ok (x :: xs) M2
theorem Ze:DA X ξ [] aNil:=⟨_,ZfC,fun _ _ H α M _ _ h q=>q _ H α Ext.refl h .nil⟩
theorem Za (ha:DE X ξ e fa) (hr:DA X ξ es fs) (hs:starEach (e :: es) X.env=(false,eval e X.env) :: starEach es X.env:=by rfl):DA X ξ (e :: es) (Zc fa fs):=by
 obtain ⟨ta,ha,qa⟩:=ha
 obtain ⟨tb,hb,qb⟩:=hr
 refine ⟨_,ZbT ha hb hs,fun σ ρ H α M Q s h q=> ?_⟩
 refine qa σ ρ H α M _ s h (OG.seq q fun x M1 v H1 α1 e1 h1 r1 q1=> ?_)
 refine qb σ ρ H1 α1 M1 _ (s.mono e1) h1 (OG.seq q1 fun y M2 w H2 α2 e2 h2 r2 q2=> ?_)
 exact q2 _ H2 α2 Ext.refl h2 (.cons (Rep.mono e2 r1) r2)
noncomputable def Z3 (f:Av):Ev:=fun ρ M=>(f ρ M).bind fun xs M1=>if xs.length<=1000 then .ok (.tup xs) M1 else .bad
noncomputable def ZaD (f:Av):Ev:=fun ρ M=>(f ρ M).bind fun xs M1=>if xs.length<=1000 then .ok (.ref M1.length) (M1 ++ [.lst xs]) else .bad
theorem ZmH {n:Nat} (h:n<=1000):n<=sizeLine:=Nat.le_of_lt (Zhx h)
theorem Zs {x1} (ha:DA X ξ es fs):DE X ξ (.Tuple es x1 pos) (Z3 fs):=by
 obtain ⟨ta,ha,qa⟩:=ha
 refine ⟨_,Zmu ha,fun σ ρ H α M Q s h q=> ?_⟩
 refine qa σ ρ H α M _ s h (OG.seq q fun xs M1 vs H1 α1 e1 h1 r1 q1=> ?_)
 by_cases hl:xs.length<=1000
 ·rw[if_pos hl] at q1
  refine ⟨by rw[r1.length];exact ZmH hl,fun p hp=>q1 _ _ α1 (Ext.new0 hp) (h1.tup hp) (.tup Zn (Reps.mono (Ext.new0 hp) r1))⟩
 ·rw[if_neg hl] at q1
  exact q1.elim
theorem HR.last {K:PySem.W.Frag} {H:Hp} {α:List Addr} {M:Sto} (h:HR K H α M) (p:Addr):(α ++ [p])[M.length]?=some p:=by
 rw[<- h.len,List.getElem?_append_right (Nat.le_refl _),Nat.sub_self]
 rfl
theorem ZJ (ha:DA X ξ es fs):DE X ξ (.List es pos) (ZaD fs):=by
 obtain ⟨ta,ha,qa⟩:=ha
 refine ⟨_,Zmv ha,fun σ ρ H α M Q s h q=> ?_⟩
 refine qa σ ρ H α M _ s h (OG.seq q fun xs M1 vs H1 α1 e1 h1 r1 q1=> ?_)
 by_cases hl:xs.length<=1000
 ·rw[if_pos hl] at q1
  refine ⟨by rw[r1.length];exact ZmH hl,fun p hp=>q1 _ _ (α1 ++ [p]) (Ext.new hp) (h1.new hp r1) (.ref ⟨h1.last p,Kn.lst Zn⟩)⟩
 ·rw[if_neg hl] at q1
  exact q1.elim
end
end DL
end
section
namespace DL
open PySem PySem.Spec PyProof.Rows L2
open PySem.SeqAt (EqAt RcAt RcNeAt)
noncomputable def ZI (i j:Int):Prop:=Builtin.Int.intBits i<=64\/Builtin.Int.intBits j<=64\/(Builtin.Int.intBits i<=60000000/\Builtin.Int.intBits j<=60000000)
noncomputable instance (i j:Int):Decidable (ZI i j):=by unfold ZI;infer_instance
theorem ZI.ok {i j:Int} (h:ZI i j):IntMulOk i j:=by
 rcases h with h | h | ⟨h1,h2⟩
 ·exact .of_left h
 ·exact .of_right h
 ·exact .of_le h1 h2 (by decide)
noncomputable def Za0 (j:Int):Prop:=j≠0/\j.natAbs.log2 < 9000
noncomputable instance (j:Int):Decidable (Za0 j):=by unfold Za0;infer_instance
section
variable {X:Cx}
theorem ZkW:OpR X (binaryOp .Mult) (rI ZI fun i j=> .int (i * j)):=opI fun _ _ _ _ _ _ _ hc q=>mul_int q hc.ok
theorem Zi4:OpR X (binaryOp .FloorDiv) (rI (fun _ j=>Za0 j) fun i j=> .int (i.fdiv j)):=opI fun _ _ _ _ _ _ _ hc q=>floordiv_int hc.1 q (.inl (PyProof.noPylong_of_log2 hc.2))
end
noncomputable def dAdd:Bo:=fun x y M=>match x,y with
 | .int i,.int j=> .ok (.int (i + j)) M
 | .str i,.str j=>if i.length + j.length<=100000 then .ok (.str (i ++ j)) M else .bad
 | .ref n,.ref m=>match M[n]?,M[m]? with
  |some (.lst xs),some (.lst ys)=>if xs.length + ys.length<=10000000 then .ok (.ref M.length) (M ++ [.lst (xs ++ ys)]) else .bad
  |_,_=> .bad
 | .tup xs,.tup ys=>if xs.length + ys.length<=100000/\xs≠[] then .ok (.tup (xs ++ ys)) M else .bad
 |_,_=> .bad
noncomputable def dSub:Bo:=fun x y M=>match x,y with | .int i,.int j=> .ok (.int (i - j)) M | _,_=> .bad
noncomputable def dMul:Bo:=fun x y M=>match x,y with | .int i,.int j=>if ZI i j then .ok (.int (i * j)) M else .bad | _,_=> .bad
noncomputable def dDiv:Bo:=fun x y M=>match x,y with | .int i,.int j=>if Za0 j then .ok (.int (i.fdiv j)) M else .bad | _,_=> .bad
noncomputable def dMod:Bo:=fun x y M=>match x,y with | .int i,.int j=>if j≠0 then .ok (.int (i.fmod j)) M else .bad | _,_=> .bad
noncomputable def dPow:Bo:=fun x y M=>match x,y with | .int i,.int j=>if 0<=j/\j<=1000000/\i.natAbs < 2 ^ 64 then .ok (.int (i ^ j.toNat)) M else .bad | _,_=> .bad
noncomputable def dLt:Bo:=fun x y M=>match x,y with | .int i,.int j=> .ok (.bl (decide (i < j))) M | _,_=> .bad
noncomputable def dLe:Bo:=fun x y M=>match x,y with | .int i,.int j=> .ok (.bl (decide (i<=j))) M | _,_=> .bad
noncomputable def dGt:Bo:=fun x y M=>match x,y with | .int i,.int j=> .ok (.bl (decide (j < i))) M | _,_=> .bad
noncomputable def dGe:Bo:=fun x y M=>match x,y with | .int i,.int j=> .ok (.bl (decide (j<=i))) M | _,_=> .bad
theorem ZmI {n:Nat} (h:n<=100000):n<=sizeLine:=Nat.le_trans h (by decide)
section
variable {X:Cx} {ξ:XK}
theorem Zb8 {r:R2} {f:Bo} {C:Int->Int->Prop} [∀ i j,Decidable (C i j)] {g:Int->Int->D} {gV:Int->Int->V} (hg: ∀ H α i j,Rep X.K H α (gV i j) (g i j))
  (hf: ∀ x y M,f x y M=match x,y with | .int i,.int j=>if C i j then .ok (g i j) M else .bad | _,_=> .bad) (hr: ∀ i j H Q,C i j->Q (gV i j) H->r (.int i) (.int j) H Q):BO X ξ r f:=by
 intro H α M v w x y Q h rv rw' q
 rw[hf] at q
 cases rv<;>first | exact q.elim | skip
 cases rw'<;>first | exact q.elim | skip
 rename_i i j
 by_cases c:C i j
 ·simp only[if_pos c] at q
  exact hr i j H Q c (q _ H α Ext.refl h (hg H α i j))
 ·simp only[if_neg c] at q
  exact q.elim
theorem ZmJ:BO X ξ (rI0 fun i j=> .int (i - j)) dSub:=Zb8 (C:=fun _ _=>True) (fun _ _ i j=> .int (i - j)) (fun x y M=>by cases x<;>cases y<;>simp[dSub]) fun i j H Q _ q=>⟨i,j,rfl,rfl,q⟩
theorem ZmK:BO X ξ (rI ZI fun i j=> .int (i * j)) dMul:=Zb8 (C:=ZI) (fun _ _ i j=> .int (i * j)) (fun x y M=>by cases x<;>cases y<;>rfl) fun i j H Q c q=>⟨i,j,rfl,rfl,c,q⟩
theorem ZmL:BO X ξ (rI (fun _ j=>Za0 j) fun i j=> .int (i.fdiv j)) dDiv:=Zb8 (C:=fun _ j=>Za0 j) (fun _ _ i j=> .int (i.fdiv j)) (fun x y M=>by cases x<;>cases y<;>rfl) fun i j H Q c q=>⟨i,j,rfl,rfl,c,q⟩
theorem ZmM:BO X ξ (rI (fun _ j=>j≠0) fun i j=> .int (i.fmod j)) dMod:=Zb8 (C:=fun _ j=>j≠0) (fun _ _ i j=> .int (i.fmod j)) (fun x y M=>by cases x<;>cases y<;>rfl) fun i j H Q c q=>⟨i,j,rfl,rfl,c,q⟩
theorem ZmN:BO X ξ (rI Zrf fun i j=> .int (i ^ j.toNat)) dPow:=Zb8 (C:=fun i j=>0<=j/\j<=1000000/\i.natAbs < 2 ^ 64) (fun _ _ i j=> .int (i ^ j.toNat)) (fun x y M=>by cases x<;>cases y<;>rfl) fun i j H Q c q=>⟨i,j,rfl,rfl,c,q⟩
theorem Zc1:BO X ξ (rI0 fun i j=> .bl (decide (i < j))) dLt:=Zb8 (C:=fun _ _=>True) (fun _ _ i j=> .bl _) (fun x y M=>by cases x<;>cases y<;>simp[dLt]) fun i j H Q _ q=>⟨i,j,rfl,rfl,q⟩
theorem Zi5:BO X ξ (rI0 fun i j=> .bl (decide (i<=j))) dLe:=Zb8 (C:=fun _ _=>True) (fun _ _ i j=> .bl _) (fun x y M=>by cases x<;>cases y<;>simp[dLe]) fun i j H Q _ q=>⟨i,j,rfl,rfl,q⟩
theorem Zdt:BO X ξ (rI0 fun i j=> .bl (decide (j < i))) dGt:=Zb8 (C:=fun _ _=>True) (fun _ _ i j=> .bl _) (fun x y M=>by cases x<;>cases y<;>simp[dGt]) fun i j H Q _ q=>⟨i,j,rfl,rfl,q⟩
theorem Zpy:BO X ξ (rI0 fun i j=> .bl (decide (j<=i))) dGe:=Zb8 (C:=fun _ _=>True) (fun _ _ i j=> .bl _) (fun x y M=>by cases x<;>cases y<;>simp[dGe]) fun i j H Q _ q=>⟨i,j,rfl,rfl,q⟩
theorem ZkX:OpR X (binaryOp .Add) (fun x y H Q=>(rI0 (fun i j=> .int (i + j)) x y H Q\/(∃ i j,x= .str i/\y= .str j/\i.length + j.length<=sizeLine/\Q (.str (i ++ j)) H))\/(rCat x y H Q\/ZkQ X.K x y H Q)):=
 OpR.or (OpR.or Zmq Zgj) (OpR.or ZmD ZkR)
theorem ZmO:BO X ξ (fun x y H Q=>(rI0 (fun i j=> .int (i + j)) x y H Q\/(∃ i j,x= .str i/\y= .str j/\i.length + j.length<=sizeLine/\Q (.str (i ++ j)) H))\/(rCat x y H Q\/ZkQ X.K x y H Q)) dAdd:=by
 intro H α M v w x y Q h rv rw' q
 unfold dAdd at q
 split at q
 ·rename_i i j
  cases rv
  cases rw'
  exact .inl (.inl ⟨i,j,rfl,rfl,q _ H α Ext.refl h (.int (i + j))⟩)
 ·rename_i i j
  cases rv
  cases rw'
  split at q
  ·rename_i c
   exact .inl (.inr ⟨i,j,rfl,rfl,ZmI c,q _ H α Ext.refl h (.str _)⟩)
  ·exact q.elim
 ·rename_i n m
  cases rv with
  | @ref p _ hp=>
   cases rw' with
   | @ref p2 _ hp2=>
    split at q
    ·rename_i ds ds2 e1 e2
     split at q
     ·rename_i c
      obtain ⟨xs,g1,r1⟩:=h.at hp e1
      obtain ⟨ys,g2,r2⟩:=h.at hp2 e2
      refine .inr (.inl ⟨p,p2,xs,ys,rfl,rfl,g1,g2,by rw[r1.length,r2.length];exact Nat.le_trans c (by decide),fun l hl=> ?_⟩)
      exact q _ _ (α ++ [l]) (Ext.new hl) (h.new hl (r1.append r2)) (.ref ⟨h.last l,Kn.lst Zn⟩)
     ·exact q.elim
    ·exact q.elim
 ·rename_i ds ds2
  cases rv with
  | @tup p xs _ hp rp=>
   cases rw' with
   | @tup p2 xs2 _ hp2 rp2=>
    split at q
    ·rename_i c
     have nx:xs≠[]:=fun z=>c.2 (by have:=rp.length;rw[z] at this;exact List.eq_nil_of_length_eq_zero this.symm)
     refine .inr (.inr ⟨p,p2,xs,xs2,rfl,rfl,(SqT.of hp),(SqT.of hp2),nx,by rw[rp.length,rp2.length];exact ZmI c.1,fun z=> ?_,fun _ l hl=> ?_⟩)
     ·subst z
      cases rp2
      rw[List.append_nil] at q
      exact q _ H α Ext.refl h (.tup hp rp)
     ·exact q _ _ α (Ext.new0 hl) (h.tup hl) (.tup Zn (Reps.mono (Ext.new0 hl) (rp.append rp2)))
    ·exact q.elim
 ·exact q.elim
variable {a b e:Expr} {fa fb:Ev} {pos:Pos}
theorem Zw (ha:DE X ξ a fa) (hb:DE X ξ b fb):DE X ξ (.BinOp a .Add b pos) (e2 dAdd fa fb):=Zgq ZkX ZmO ha hb
theorem Zbz (ha:DE X ξ a fa) (hb:DE X ξ b fb):DE X ξ (.BinOp a .Sub b pos) (e2 dSub fa fb):=Zgq Zmr ZmJ ha hb
theorem Zam (ha:DE X ξ a fa) (hb:DE X ξ b fb):DE X ξ (.BinOp a .Mult b pos) (e2 dMul fa fb):=Zgq ZkW ZmK ha hb
theorem ZdB (ha:DE X ξ a fa) (hb:DE X ξ b fb):DE X ξ (.BinOp a .FloorDiv b pos) (e2 dDiv fa fb):=Zgq Zi4 ZmL ha hb
theorem Za6 (ha:DE X ξ a fa) (hb:DE X ξ b fb):DE X ξ (.BinOp a .Mod b pos) (e2 dMod fa fb):=Zgq ZkI ZmM ha hb
theorem ZmP (ha:DE X ξ a fa) (hb:DE X ξ b fb):DE X ξ (.BinOp a .Pow b pos) (e2 dPow fa fb):=Zgq Zms ZmN ha hb
noncomputable def Ze7 (f:Ev):Ev:=fun ρ M=>(f ρ M).bind fun x M1=>match x with | .int i=> .ok (.int (-i)) M1 | _=> .bad
theorem Zew (ha:DE X ξ a fa):DE X ξ (.UnaryOp .USub a pos) (Ze7 fa):=by
 obtain ⟨ta,ha,qa⟩:=ha
 refine ⟨_,Zmp ZjS ha,fun σ ρ H α M Q s h q=> ?_⟩
 refine qa σ ρ H α M _ s h (OG.seq q fun x M1 v H1 α1 e1 h1 r1 q1=> ?_)
 cases r1 with
 |int i=>exact ⟨i,rfl,q1 _ H1 α1 Ext.refl h1 (.int (-i))⟩
 |_=>exact q1.elim
noncomputable def atD (xs:List D) (i:Int) (M:Sto):Out D:=match atI xs i with | some d=> .ok d M | none=> .bad
noncomputable def dIx:Bo:=fun x y M=>match x,y with
 | .tup xs,.int i=>atD xs i M
 | .rol xs,.int i=>atD xs i M
 | .ref n,.int i=>match M[n]? with | some (.lst xs)=>atD xs i M | _=> .bad
 |_,_=> .bad
theorem Reps.atI {K:PySem.W.Frag} {H:Hp} {α:List Addr} {vs:List V} {ds:List D} {i:Int} {d:D} (r:Reps K H α vs ds) (h:L2.atI ds i=some d): ∃ v,L2.atI vs i=some v/\Rep K H α v d:=by
 unfold L2.atI at h ⊢
 rw[r.length]
 cases e:ixN ds.length i with
 |none=>rw[e] at h;cases h
 |some j=>
  rw[e] at h
  exact r.get h
theorem Zpz:BO X ξ (fun x y H Q=>Zrg X.K x y H Q\/Zrh X.K x y H Q) dIx:=by
 intro H α M v w x y Q h rv rw' q
 have at': ∀ {ds:List D} {i:Int},OP X.K H α ξ Q (atD ds i M)-> ∃ d,L2.atI ds i=some d/\OP X.K H α ξ Q (.ok d M):=fun {ds i} q=>by
  unfold atD at q
  cases e:L2.atI ds i with
  |none=>rw[e] at q;exact q.elim
  |some d=>rw[e] at q;exact ⟨d,rfl,q⟩
 unfold dIx at q
 split at q
 ·rename_i ds i
  cases rw'
  cases rv with
  | @tup p xs _ hp rp=>
   obtain ⟨d,e,q⟩:=at' q
   obtain ⟨v,h1,h2⟩:=rp.atI e
   exact .inr ⟨p,xs,i,v,rfl,rfl,(SqT.of hp),h1,q v H α Ext.refl h h2⟩
 ·rename_i ds i
  cases rw'
  cases rv with
  | @rol p xs _ hp rp=>
   obtain ⟨d,e,q⟩:=at' q
   obtain ⟨v,h1,h2⟩:=rp.atI e
   exact .inl ⟨p,xs,i,v,rfl,rfl,hp.sq,h1,q v H α Ext.refl h h2⟩
 ·rename_i n i
  cases rw'
  cases rv with
  | @ref p _ hp=>
   split at q
   ·rename_i ds e1
    obtain ⟨d,e,q⟩:=at' q
    obtain ⟨xs,g1,r1⟩:=h.at hp e1
    obtain ⟨v,h1,h2⟩:=r1.atI e
    exact .inl ⟨p,xs,i,v,rfl,rfl,SqL.of g1,h1,q v H α Ext.refl h h2⟩
   ·exact q.elim
 ·exact q.elim
theorem Zr (ha:DE X ξ a fa) (hb:DE X ξ b fb) (hs:Zht b:=by exact fun _ _=>rfl):DE X ξ (.Subscript a b pos) (e2 dIx fa fb):=by
 obtain ⟨ta,ha,qa⟩:=ha
 obtain ⟨tb,hb,qb⟩:=hb
 exact ⟨_,Zpv (IxR.or ZkS ZmB) ha hb hs,two Zpz qa qb⟩
end
inductive Kd where
 |non | bl (b:Bool) | int (i:Int) | str (x:Str) | tup (xs:List D) | lst (xs:List D)
noncomputable def kd (M:Sto):D->Option Kd
 | .non=>some .non
 | .bl b=>some (.bl b)
 | .int i=>some (.int i)
 | .str x=>some (.str x)
 | .tup xs=>some (.tup xs)
 | .rol xs=>some (.lst xs)
 | .con xs=>some (.tup xs)
 | .ref n=>match M[n]? with | some (.lst xs)=>some (.lst xs) | _=>none
 | .err _ _=>none
 | .dk _=>none
 | .dt _=>none
 | .fn _=>none
noncomputable def eqL (f:D->D->Option Bool):List D->List D->Option Bool
 | [],[]=>some true
 |x :: xs,y :: ys=>match f x y with | some a=>(match eqL f xs ys with | some b=>some (a && b) | none=>none) | none=>none
 |_,_=>some false
noncomputable def eqK (f:D->D->Option Bool):Kd->Kd->Option Bool
 | .non,.non=>some true
 | .bl a,.bl b=>some (a == b)
 | .bl a,.int b=>some ((if a then 1 else 0) == b)
 | .int a,.bl b=>some (a == (if b then 1 else 0))
 | .int a,.int b=>some (a == b)
 | .str a,.str b=>some (a == b)
 | .tup xs,.tup ys=>eqL f xs ys
 | .lst xs,.lst ys=>if xs.length=ys.length then eqL f xs ys else some false
 |_,_=>some false
noncomputable def eqF:Nat->Sto->D->D->Option Bool
 |0,_,_,_=>none
 |n + 1,M,x,y=>match kd M x,kd M y with | some a,some b=>eqK (eqF n M) a b | _,_=>none
inductive Vw (X:Cx) (H:Hp) (α:List Addr) (s:Shared):Kd->Value->Prop where
 |non:Vw X H α s .non .none
 |bl (b:Bool):Vw X H α s (.bl b) (.bool b)
 |int (i:Int) (t:Tok):Vw X H α s (.int i) (.int i t)
 |str (x:Str) (t:Tok):Vw X H α s (.str x) (.str x t)
 |tup {p:Addr} {xs:List V} {ds:List D} {its:List Value}:s.heap.IsTuple p its.toArray->ZZ xs its->Reps X.K H α xs ds->Vw X H α s (.tup ds) (.ref p)
 |lst {p:Addr} {xs:List V} {ds:List D} {its:List Value}:s.heap.IsList p its.toArray->ZZ xs its->Reps X.K H α xs ds->Vw X H α s (.lst ds) (.ref p)
section
variable {X:Cx} {ξ:XK} {pins:List (Addr × Obj)} {σ:L2.St} {H:Hp} {s:Shared} {α:List Addr} {M:Sto}
theorem vw (I:Inv X pins σ H s) (h:HR X.K H α M) {v:V} {x:D} {u:Value} {k:Kd} (r:Rep X.K H α v x) (ru:Zaf v u) (e:kd M x=some k):Vw X H α s k u:=by
 cases r with
 |non=>cases e;cases ru;exact .non
 |bl b=>cases e;cases ru;exact .bl b
 |int i=>cases e;obtain ⟨t,rfl⟩:=ru;exact .int i t
 |str x=>cases e;obtain ⟨t,rfl⟩:=ru;exact .str x t
 |err _ _ _=>cases e
 |dk _=>cases e
 |dt _=>cases e
 |fn _=>cases e
 | @tup p xs ds hp rp=>
  cases e;cases ru
  obtain ⟨its,h1,h2,_⟩:=I.tuple (SqT.of hp)
  exact .tup h2 h1 rp
 | @con p xs ds hp rp=>
  cases e;cases ru
  obtain ⟨its,h1,h2,_⟩:=I.tuple hp.sq
  exact .tup h2 h1 rp
 | @rol p xs ds hp rp=>
  cases e;cases ru
  obtain ⟨its,h1,h2,_⟩:=I.list hp.sq
  exact .lst h2.isList h1 rp
 | @ref p n hp=>
  cases ru
  cases e1:M[n]? with
  |none=>simp only[kd,e1] at e;cases e
  |some o=>
   cases o with
   |lst ds=>
    simp only[kd,e1] at e
    cases e
    obtain ⟨xs,g1,r1⟩:=h.at hp e1
    obtain ⟨its,h1,h2,_⟩:=I.list (SqL.of g1)
    exact .lst h2.isList h1 r1
noncomputable def Eq3 (A:Around) (s:Shared) (u z:Value) (b:Bool):Prop:=EqAt A s u z b/\RcAt A s u z b/\RcNeAt A s u z (!b)
theorem ZhE {f:D->D->Option Bool}: ∀ {xs ys:List D} {b:Bool},eqL f xs ys=some b->
  (∀ (j:Nat) x y,xs[j]?=some x->ys[j]?=some y-> ∃ c,f x y=some c)/\
  b=((List.range (min xs.length ys.length)).all (fun j=>match xs[j]?,ys[j]? with | some x,some y=>(f x y).getD false | _,_=>false) && xs.length == ys.length)
 | [],[],b,e=>by
  simp only[eqL,Option.some.injEq] at e
  subst e
  exact ⟨fun j x y h=>(by simp at h),(by simp)⟩
 |x :: xs,[],b,e=>by
  simp only[eqL,Option.some.injEq] at e
  subst e
  exact ⟨fun j x y h1 h2=>(by simp at h2),(by simp)⟩
 | [],y :: ys,b,e=>by
  simp only[eqL,Option.some.injEq] at e
  subst e
  exact ⟨fun j x y h1 h2=>(by simp at h1),(by simp)⟩
 |x :: xs,y :: ys,b,e=>by
  cases e1:f x y with
  |none=>simp only[eqL,e1] at e;cases e
  |some a=>
   cases e2:eqL f xs ys with
   |none=>simp only[eqL,e1,e2] at e;cases e
   |some c=>
    simp only[eqL,e1,e2,Option.some.injEq] at e
    subst e
    obtain ⟨h1,h2⟩:=ZhE e2
    refine ⟨fun j x' y' g1 g2=> ?_,?_⟩
    ·cases j with
     |zero=>
      simp at g1 g2
      subst g1 g2
      exact ⟨a,e1⟩
     |succ j=>
      simp at g1 g2
      exact h1 j x' y' g1 g2
    ·have em:min (x :: xs).length (y :: ys).length=min xs.length ys.length + 1:=by simp only[List.length_cons];omega
     rw[em,List.range_succ_eq_map,List.all_cons,List.all_map,h2]
     simp[e1,Bool.and_assoc,Function.comp_def]
theorem Zi6 (I:Inv X pins σ H s) (h:HR X.K H α M): ∀ (n:Nat) {v:V} {x y:D} {b:Bool},Rep X.K H α v x->Rep X.K H α v y->eqF n M x y=some b->b=true:=by
 intro n
 induction n with
 |zero=>intro v x y b _ _ e;simp only[eqF] at e;cases e
 |succ n ih=>
  have lists: ∀ (vs:List V) (xs ys:List D) (b:Bool),Reps X.K H α vs xs->Reps X.K H α vs ys->eqL (eqF n M) xs ys=some b->b=true:=by
   intro vs
   induction vs with
   |nil=>
    intro xs ys b r1 r2 e
    cases r1;cases r2
    simp only[eqL,Option.some.injEq] at e
    exact e.symm
   |cons v vs iv=>
    intro xs ys b r1 r2 e
    cases r1 with
    |cons p1 t1=>
     cases r2 with
     |cons p2 t2=>
      rename_i d1 ds1 d2 ds2
      cases e1:eqF n M d1 d2 with
      |none=>simp only[eqL,e1] at e;cases e
      |some a=>
       cases e2:eqL (eqF n M) ds1 ds2 with
       |none=>simp only[eqL,e1,e2] at e;cases e
       |some c=>
        simp only[eqL,e1,e2,Option.some.injEq] at e
        rw[<- e,ih p1 p2 e1,iv _ _ _ t1 t2 e2]
        rfl
  intro v x y b r1 r2 e
  have nl: ∀ {p:Addr} {xs ys:List V},SqT X.K H p xs->SqL X.K H p ys->False:=fun {p xs ys} a c=>by
   obtain ⟨i1,_,⟨o1,g1,c1,_⟩,_⟩:=I.tuple a
   obtain ⟨i2,_,⟨o2,_,g2,c2,_⟩,_⟩:=I.list c
   rw[g1] at g2
   cases g2
   rw[c1] at c2
   exact absurd c2 (by decide)
  have ll: ∀ {p:Addr} {n:Nat} {ds:List D},RefK H α 0 n p->M[n]?=some (.lst ds)-> ∃ vs,SqL X.K H p vs/\Reps X.K H α vs ds:=fun {p n ds} a c=>by
   obtain ⟨xs,g1,r1⟩:=h.at a c
   exact ⟨xs,SqL.of g1,r1⟩
  cases r1 with
  |non=>cases r2;simp only[eqF,kd,eqK,Option.some.injEq] at e;exact e.symm
  |bl c=>cases r2;simp only[eqF,kd,eqK,Option.some.injEq,beq_self_eq_true] at e;exact e.symm
  |int c=>cases r2;simp only[eqF,kd,eqK,Option.some.injEq,beq_self_eq_true] at e;exact e.symm
  |str c=>cases r2;simp only[eqF,kd,eqK,Option.some.injEq,beq_self_eq_true] at e;exact e.symm
  |err _ _ _=>simp[eqF,kd] at e
  |dk _=>simp[eqF,kd] at e
  |dt _=>simp[eqF,kd] at e
  |fn _=>simp[eqF,kd] at e
  | @tup p xs ds hp rp=>
   cases r2 with
   | @tup _ xs2 ds2 hp2 rp2=>
    cases I.tuple_inj (SqT.of hp) (SqT.of hp2)
    simp only[eqF,kd,eqK] at e
    exact lists _ _ _ _ rp rp2 e
   | @con _ xs2 ds2 hp2 rp2=>
    cases I.tuple_inj (SqT.of hp) hp2.sq
    simp only[eqF,kd,eqK] at e
    exact lists _ _ _ _ rp rp2 e
   | @rol _ xs2 ds2 hp2 rp2=>exact (nl (SqT.of hp) hp2.sq).elim
   |err _ _ _=>simp[eqF,kd] at e
   |dk _=>simp[eqF,kd] at e
   |dt _=>simp[eqF,kd] at e
   |fn _=>simp[eqF,kd] at e
   | @ref _ n2 hp2=>
    obtain ⟨ys,g⟩:=h.some_at hp2
    exact (nl (SqT.of hp) (SqL.of g)).elim
  | @con p xs ds hp rp=>
   cases r2 with
   | @tup _ xs2 ds2 hp2 rp2=>
    cases I.tuple_inj hp.sq (SqT.of hp2)
    simp only[eqF,kd,eqK] at e
    exact lists _ _ _ _ rp rp2 e
   | @con _ xs2 ds2 hp2 rp2=>
    cases I.tuple_inj hp.sq hp2.sq
    simp only[eqF,kd,eqK] at e
    exact lists _ _ _ _ rp rp2 e
   | @rol _ xs2 ds2 hp2 rp2=>exact (nl hp.sq hp2.sq).elim
   |err _ _ _=>simp[eqF,kd] at e
   |dk _=>simp[eqF,kd] at e
   |dt _=>simp[eqF,kd] at e
   |fn _=>simp[eqF,kd] at e
   | @ref _ n2 hp2=>
    obtain ⟨ys,g⟩:=h.some_at hp2
    exact (nl hp.sq (SqL.of g)).elim
  | @rol p xs ds hp rp=>
   cases r2 with
   | @tup _ xs2 ds2 hp2 rp2=>exact (nl (SqT.of hp2) hp.sq).elim
   | @con _ xs2 ds2 hp2 rp2=>exact (nl hp2.sq hp.sq).elim
   |err _ _ _=>simp[eqF,kd] at e
   |dk _=>simp[eqF,kd] at e
   |dt _=>simp[eqF,kd] at e
   |fn _=>simp[eqF,kd] at e
   | @rol _ xs2 ds2 hp2 rp2=>
    cases I.list_inj hp.sq hp2.sq
    simp only[eqF,kd,eqK,if_pos (rp.length.symm.trans rp2.length)] at e
    exact lists _ _ _ _ rp rp2 e
   | @ref _ n2 hp2=>
    cases e1:M[n2]? with
    |none=>simp only[eqF,kd,e1] at e;cases e
    |some o=>
     cases o with
     |lst ds2=>
      obtain ⟨ys,g,r⟩:=ll hp2 e1
      cases I.list_inj hp.sq g
      simp only[eqF,kd,e1,eqK,if_pos (rp.length.symm.trans r.length)] at e
      exact lists _ _ _ _ rp r e
  | @ref p n1 hp=>
   cases e0:M[n1]? with
   |none=>simp only[eqF,kd,e0] at e;cases e
   |some o0=>
    cases o0 with
    |lst ds=>
     obtain ⟨xs,g0,rp⟩:=ll hp e0
     cases r2 with
     | @tup _ xs2 ds2 hp2 rp2=>exact (nl (SqT.of hp2) g0).elim
     | @con _ xs2 ds2 hp2 rp2=>exact (nl hp2.sq g0).elim
     |err _ _ _=>simp[eqF,kd,e0] at e
     |dk _=>simp[eqF,kd,e0] at e
     |dt _=>simp[eqF,kd,e0] at e
     |fn _=>simp[eqF,kd,e0] at e
     | @rol _ xs2 ds2 hp2 rp2=>
      cases I.list_inj g0 hp2.sq
      simp only[eqF,kd,e0,eqK,if_pos (rp.length.symm.trans rp2.length)] at e
      exact lists _ _ _ _ rp rp2 e
     | @ref _ n2 hp2=>
      cases e1:M[n2]? with
      |none=>simp only[eqF,kd,e0,e1] at e;cases e
      |some o=>
       cases o with
       |lst ds2=>
        obtain ⟨ys,g,r⟩:=ll hp2 e1
        cases I.list_inj g0 g
        simp only[eqF,kd,e0,e1,eqK,if_pos (rp.length.symm.trans r.length)] at e
        exact lists _ _ _ _ rp r e
end
end DL
end
section
namespace DL
open PySem PySem.Spec PyProof.Rows L2
open PySem.SeqAt (EqAt RcAt RcNeAt)
section
variable {X:Cx} {ξ:XK} {pins:List (Addr × Obj)} {σ:L2.St} {H:Hp} {s:Shared} {α:List Addr} {M:Sto}
theorem ZfJ {A:Around} {n:Nat} {xs1 xs2:List V} {ds1 ds2:List D} {i1 i2:List Value} {b:Bool} (v1:ZZ xs1 i1) (v2:ZZ xs2 i2) (r1:Reps X.K H α xs1 ds1) (r2:Reps X.K H α xs2 ds2)
  (ih: ∀ (x y:D) (v w:V) (u z:Value) (b:Bool),eqF n M x y=some b->Rep X.K H α v x->Rep X.K H α w y->Zaf v u->Zaf w z->EqAt A s u z b) (e:eqL (eqF n M) ds1 ds2=some b):
  ∃ f:Nat->Bool,(∀ (j:Nat) (h1:j < i1.toArray.size) (h2:j < i2.toArray.size),EqAt A s i1.toArray[j] i2.toArray[j] (f j))/\b=((List.range (min i1.toArray.size i2.toArray.size)).all f && i1.toArray.size == i2.toArray.size):=by
 obtain ⟨g1,g2⟩:=ZhE e
 have l1:i1.toArray.size=ds1.length:=by rw[List.size_toArray,<- v1.length,r1.length]
 have l2:i2.toArray.size=ds2.length:=by rw[List.size_toArray,<- v2.length,r2.length]
 refine ⟨_,fun j h1 h2=> ?_,by rw[l1,l2];exact g2⟩
 have k1:j < ds1.length:=by rw[<- l1];exact h1
 have k2:j < ds2.length:=by rw[<- l2];exact h2
 obtain ⟨c,hc⟩:=g1 j _ _ (List.getElem?_eq_getElem k1) (List.getElem?_eq_getElem k2)
 obtain ⟨v,a1,a2⟩:=r1.get (List.getElem?_eq_getElem k1)
 obtain ⟨w,b1,b2⟩:=r2.get (List.getElem?_eq_getElem k2)
 obtain ⟨u,a3,a4⟩:=v1.get a1
 obtain ⟨z,b3,b4⟩:=v2.get b1
 have q:=ih _ _ v w u z c hc a2 b2 a4 b4
 simp only[List.getElem?_eq_getElem k1,List.getElem?_eq_getElem k2,hc,Option.getD_some]
 have e1:i1.toArray[j]=u:=by
  have:=List.getElem?_eq_some_iff.mp a3
  obtain ⟨_,z⟩:=this
  simpa using z
 have e2:i2.toArray[j]=z:=by
  have:=List.getElem?_eq_some_iff.mp b3
  obtain ⟨_,z⟩:=this
  simpa using z
 rw[e1,e2]
 exact q
theorem ZhF (I:Inv X pins σ H s) (h:HR X.K H α M) {n:Nat} {x y:D} {v w:V} {p q:Addr} {b:Bool} {A:Around} (e:eqF n M x y=some b) (rx:Rep X.K H α v x) (ry:Rep X.K H α w y) (rv:Zaf v (.ref p)) (rw':Zaf w (.ref q))
  (k:RcAt A s (.ref p) (.ref q) b) (k':RcNeAt A s (.ref p) (.ref q) (!b)):Eq3 A s (.ref p) (.ref q) b:=by
 refine ⟨?_,k,k'⟩
 by_cases c:p=q
 ·subst c
  cases Zaf.inj rv rw'
  rw[Zi6 I h n rx ry e]
  exact EqAt.same _
 ·exact EqAt.of_refs c k
theorem eq3 (I:Inv X pins σ H s) (h:HR X.K H α M): ∀ (n:Nat) (x y:D) (v w:V) (u z:Value) (b:Bool) (A:Around),A.units + n < cLine->eqF n M x y=some b->Rep X.K H α v x->Rep X.K H α w y->Zaf v u->Zaf w z->Eq3 A s u z b:=by
 intro n
 induction n with
 |zero=>intro x y v w u z b A _ e;simp only[eqF] at e;cases e
 |succ n ih=>
  intro x y v w u z b A hn e rx ry rv rw'
  have hu:A.units < cLine:=by omega
  have e0:=e
  unfold eqF at e
  cases ka:kd M x with
  |none=>rw[ka] at e;cases e
  |some ka'=>
   cases kb:kd M y with
   |none=>rw[ka,kb] at e;cases e
   |some kb'=>
    rw[ka,kb] at e
    have va:=vw I h rx rv ka
    have vb:=vw I h ry rw' kb
    have deep: ∀ (x y:D) (v w:V) (u z:Value) (b:Bool),eqF n M x y=some b->Rep X.K H α v x->Rep X.K H α w y->Zaf v u->Zaf w z->EqAt A.in1 s u z b:=fun x y v w u z b e a1 a2 a3 a4=>
     (ih x y v w u z b A.in1 (by rw[Around.in1_units];omega) e a1 a2 a3 a4).1
    cases va with
    |non=>
     cases vb<;>simp only[eqK,Option.some.injEq] at e<;>subst e
     ·exact ⟨EqAt.same _,.none_none,.none_none⟩
     ·exact ⟨.none_bool _,.none_bool _,.none_bool _⟩
     ·exact ⟨.none_int _ _,.none_int _ _,.none_int _ _⟩
     ·exact ⟨.none_str _ _,.none_str _ _,.none_str _ _⟩
     ·rename_i g _ _;exact ⟨.none_tuple g hu,.none_tuple g hu,.none_tuple g hu⟩
     ·rename_i g _ _;exact ⟨.none_list g hu,.none_list g hu,.none_list g hu⟩
    |bl c=>
     cases vb<;>simp only[eqK,Option.some.injEq] at e<;>subst e
     ·exact ⟨.bool_none _,.bool_none _,.bool_none _⟩
     ·exact ⟨.bool_bool _ _,.bool_bool _ _,.bool_bool _ _⟩
     ·exact ⟨.bool_int _ _ _,.bool_int _ _ _,.bool_int _ _ _⟩
     ·exact ⟨.bool_str _ _ _,.bool_str _ _ _,.bool_str _ _ _⟩
     ·rename_i g _ _;exact ⟨.bool_tuple _ g hu,.bool_tuple _ g hu,.bool_tuple _ g hu⟩
     ·rename_i g _ _;exact ⟨.bool_list _ g hu,.bool_list _ g hu,.bool_list _ g hu⟩
    |int c t=>
     cases vb<;>simp only[eqK,Option.some.injEq] at e<;>subst e
     ·exact ⟨.int_none _ _,.int_none _ _,.int_none _ _⟩
     ·exact ⟨.int_bool _ _ _,.int_bool _ _ _,.int_bool _ _ _⟩
     ·exact ⟨.int_int _ _ _ _,.int_int _ _ _ _,.int_int _ _ _ _⟩
     ·exact ⟨.int_str _ _ _ _,.int_str _ _ _ _,.int_str _ _ _ _⟩
     ·rename_i g _ _;exact ⟨.int_tuple _ _ g hu,.int_tuple _ _ g hu,.int_tuple _ _ g hu⟩
     ·rename_i g _ _;exact ⟨.int_list _ _ g hu,.int_list _ _ g hu,.int_list _ _ g hu⟩
    |str c t=>
     cases vb<;>simp only[eqK,Option.some.injEq] at e<;>subst e
     ·exact ⟨.str_none _ _,.str_none _ _,.str_none _ _⟩
     ·exact ⟨.str_bool _ _ _,.str_bool _ _ _,.str_bool _ _ _⟩
     ·exact ⟨.str_int _ _ _ _,.str_int _ _ _ _,.str_int _ _ _ _⟩
     ·exact ⟨.str_str _ _ _ _,.str_str _ _ _ _,.str_str _ _ _ _⟩
     ·rename_i g _ _;exact ⟨.str_tuple _ _ g hu,.str_tuple _ _ g hu,.str_tuple _ _ g hu⟩
     ·rename_i g _ _;exact ⟨.str_list _ _ g hu,.str_list _ _ g hu,.str_list _ _ g hu⟩
    | @tup p xs ds its g1 w1 q1=>
     cases vb with
     | @tup p2 xs2 ds2 its2 g2 w2 q2=>
      simp only[eqK] at e
      obtain ⟨f,hf,hb⟩:=ZfJ w1 w2 q1 q2 deep e
      subst hb
      exact ZhF I h e0 rx ry rv rw' (.tuples g1 g2 hu hf) (.tuples g1 g2 hu hf)
     | @lst p2 xs2 ds2 its2 g2 w2 q2=>
      simp only[eqK,Option.some.injEq] at e
      subst e
      exact ZhF I h e0 rx ry rv rw' (.tuple_list g1 g2 hu) (.tuple_list g1 g2 hu)
     |non=>simp only[eqK,Option.some.injEq] at e;subst e;exact ⟨.tuple_none g1 hu,.tuple_none g1 hu,.tuple_none g1 hu⟩
     |bl c=>simp only[eqK,Option.some.injEq] at e;subst e;exact ⟨.tuple_bool _ g1 hu,.tuple_bool _ g1 hu,.tuple_bool _ g1 hu⟩
     |int c t=>simp only[eqK,Option.some.injEq] at e;subst e;exact ⟨.tuple_int _ _ g1 hu,.tuple_int _ _ g1 hu,.tuple_int _ _ g1 hu⟩
     |str c t=>simp only[eqK,Option.some.injEq] at e;subst e;exact ⟨.tuple_str _ _ g1 hu,.tuple_str _ _ g1 hu,.tuple_str _ _ g1 hu⟩
    | @lst p xs ds its g1 w1 q1=>
     cases vb with
     | @lst p2 xs2 ds2 its2 g2 w2 q2=>
      simp only[eqK] at e
      have l1:its.toArray.size=ds.length:=by rw[List.size_toArray,<- w1.length,q1.length]
      have l2:its2.toArray.size=ds2.length:=by rw[List.size_toArray,<- w2.length,q2.length]
      by_cases c:ds.length=ds2.length
      ·rw[if_pos c] at e
       have hs:its.toArray.size=its2.toArray.size:=by rw[l1,l2,c]
       obtain ⟨f,hf,hb⟩:=ZfJ w1 w2 q1 q2 deep e
       rw[hs,Nat.min_self,beq_self_eq_true,Bool.and_true,<- hs] at hb
       subst hb
       exact ZhF I h e0 rx ry rv rw' (.lists g1 g2 hs hu hf) (.lists g1 g2 hs hu hf)
      ·rw[if_neg c] at e
       have e':false=b:=Option.some.inj e
       subst e'
       have hs:(its.toArray.size != its2.toArray.size)=true:=by rw[l1,l2];simpa using c
       exact ZhF I h e0 rx ry rv rw' (.lists_lengths g1 g2 hs hu) (.lists_lengths g1 g2 hs hu)
     | @tup p2 xs2 ds2 its2 g2 w2 q2=>
      simp only[eqK,Option.some.injEq] at e
      subst e
      exact ZhF I h e0 rx ry rv rw' (.list_tuple g1 g2 hu) (.list_tuple g1 g2 hu)
     |non=>simp only[eqK,Option.some.injEq] at e;subst e;exact ⟨.list_none g1 hu,.list_none g1 hu,.list_none g1 hu⟩
     |bl c=>simp only[eqK,Option.some.injEq] at e;subst e;exact ⟨.list_bool _ g1 hu,.list_bool _ g1 hu,.list_bool _ g1 hu⟩
     |int c t=>simp only[eqK,Option.some.injEq] at e;subst e;exact ⟨.list_int _ _ g1 hu,.list_int _ _ g1 hu,.list_int _ _ g1 hu⟩
     |str c t=>simp only[eqK,Option.some.injEq] at e;subst e;exact ⟨.list_str _ _ g1 hu,.list_str _ _ g1 hu,.list_str _ _ g1 hu⟩
end
section
variable {X:Cx} {ξ:XK}
noncomputable def Zpa (X:Cx) (neg:Bool):R2:=fun v w H Q=> ∃ α M x y b,HR X.K H α M/\Rep X.K H α v x/\Rep X.K H α w y/\eqF 12 M x y=some b/\Q (.bl (neg ^^ b)) H
theorem ZaT (hu:X.A.units + 64 < cLine):OpR X (compareOp .Eq) (Zpa X false):=by
 intro pins s σ H v w u z Q I rv rw' ⟨α,M,x,y,b,h,rx,ry,e,q⟩
 refine (eq3 I h 12 x y v w u z b X.A (by omega) e rx ry rv rw').2.1 _ _ _ _ ⟨.bl b,H,I,rfl,?_⟩
 simpa using q
theorem Zc2 (hu:X.A.units + 64 < cLine):OpR X (compareOp .NotEq) (Zpa X true):=by
 intro pins s σ H v w u z Q I rv rw' ⟨α,M,x,y,b,h,rx,ry,e,q⟩
 refine (eq3 I h 12 x y v w u z b X.A (by omega) e rx ry rv rw').2.2 _ _ _ _ ⟨.bl (!b),H,I,rfl,?_⟩
 simpa using q
noncomputable def dEq:Bo:=fun x y M=>match eqF 12 M x y with | some b=> .ok (.bl b) M | none=> .bad
noncomputable def dNe:Bo:=fun x y M=>match eqF 12 M x y with | some b=> .ok (.bl (!b)) M | none=> .bad
theorem Zb9:BO X ξ (Zpa X false) dEq:=by
 intro H α M v w x y Q h rv rw' q
 unfold dEq at q
 cases e:eqF 12 M x y with
 |none=>rw[e] at q;exact q.elim
 |some b=>rw[e] at q;exact ⟨α,M,x,y,b,h,rv,rw',e,by simpa using q _ H α Ext.refl h (.bl b)⟩
theorem Zfd:BO X ξ (Zpa X true) dNe:=by
 intro H α M v w x y Q h rv rw' q
 unfold dNe at q
 cases e:eqF 12 M x y with
 |none=>rw[e] at q;exact q.elim
 |some b=>rw[e] at q;exact ⟨α,M,x,y,b,h,rv,rw',e,by simpa using q _ H α Ext.refl h (.bl (!b))⟩
noncomputable def ZhG:V->Bool
 | .non=>true
 | .bl _=>true
 |_=>false
noncomputable def rIs (neg:Bool):R2:=fun v w H Q=>ZhG w=true/\Q (.bl (neg ^^ decide (v=w))) H
theorem Zi7 {v w:V} {u z:Value} (rv:Zaf v u) (rw':Zaf w z) (p:ZhG w=true):plainIs u z=true/\(u == z)=decide (v=w):=by
 cases w with
 |non=>
  cases rw'
  cases v with
  |non=>cases rv;exact ⟨rfl,rfl⟩
  |bl b=>cases rv;exact ⟨rfl,by rw[decide_eq_false (fun z=>(nomatch z))];rfl⟩
  |int b=>obtain ⟨t,rfl⟩:=rv;exact ⟨rfl,by rw[decide_eq_false (fun z=>(nomatch z))];rfl⟩
  |str b=>obtain ⟨t,rfl⟩:=rv;exact ⟨rfl,by rw[decide_eq_false (fun z=>(nomatch z))];rfl⟩
  |byt b=>obtain ⟨t,rfl⟩:=rv;exact ⟨rfl,by rw[decide_eq_false (fun z=>(nomatch z))];rfl⟩
  |flt b=>obtain ⟨t,rfl⟩:=rv;exact ⟨rfl,by rw[decide_eq_false (fun z=>(nomatch z))];rfl⟩
  |ref b=>cases rv;exact ⟨rfl,by rw[decide_eq_false (fun z=>(nomatch z))];rfl⟩
  |ty b=>cases rv;exact ⟨rfl,by rw[decide_eq_false (fun z=>(nomatch z))];rfl⟩
 |bl c=>
  cases rw'
  cases v with
  |non=>cases rv;exact ⟨rfl,by rw[decide_eq_false (fun z=>(nomatch z))];rfl⟩
  |bl b=>cases rv;refine ⟨rfl,?_⟩;cases b<;>cases c<;>rfl
  |int b=>obtain ⟨t,rfl⟩:=rv;exact ⟨rfl,by rw[decide_eq_false (fun z=>(nomatch z))];rfl⟩
  |str b=>obtain ⟨t,rfl⟩:=rv;exact ⟨rfl,by rw[decide_eq_false (fun z=>(nomatch z))];rfl⟩
  |byt b=>obtain ⟨t,rfl⟩:=rv;exact ⟨rfl,by rw[decide_eq_false (fun z=>(nomatch z))];rfl⟩
  |flt b=>obtain ⟨t,rfl⟩:=rv;exact ⟨rfl,by rw[decide_eq_false (fun z=>(nomatch z))];rfl⟩
  |ref b=>cases rv;exact ⟨rfl,by rw[decide_eq_false (fun z=>(nomatch z))];rfl⟩
  |ty b=>cases rv;exact ⟨rfl,by rw[decide_eq_false (fun z=>(nomatch z))];rfl⟩
 |_=>cases p
theorem Zc3:OpR X (compareOp .IsNot) (rIs true):=by
 intro pins s σ H v w u z Q I rv rw' ⟨p,q⟩
 obtain ⟨h1,h2⟩:=Zi7 rv rw' p
 refine wpAny_isNot_plain h1 ⟨.bl (!(u == z)),H,I,rfl,?_⟩
 rw[h2]
 simpa using q
noncomputable def isP:D->D->Option Bool
 | .non,.non=>some true
 | .bl a,.bl b=>some (a == b)
 |_,.non=>some false
 |_,.bl _=>some false
 |_,_=>none
noncomputable def dIs:Bo:=fun x y M=>match isP x y with | some b=> .ok (.bl b) M | none=> .bad
noncomputable def dIsNot:Bo:=fun x y M=>match isP x y with | some b=> .ok (.bl (!b)) M | none=> .bad
theorem ZmQ {K:PySem.W.Frag} {H:Hp} {α:List Addr} {v w:V} {x y:D} {b:Bool} (rv:Rep K H α v x) (rw':Rep K H α w y) (e:isP x y=some b):ZhG w=true/\decide (v=w)=b:=by
 unfold isP at e
 split at e
 ·cases rv;cases rw';cases e;exact ⟨rfl,rfl⟩
 ·rename_i c d
  cases rv;cases rw';cases e
  refine ⟨rfl,?_⟩
  cases c<;>cases d<;>rfl
 ·rename_i hx
  cases rw';cases e
  refine ⟨rfl,decide_eq_false fun z=> ?_⟩
  subst z
  cases rv
  exact hx rfl
 ·rename_i c hx
  cases rw';cases e
  refine ⟨rfl,decide_eq_false fun z=> ?_⟩
  subst z
  cases rv
  exact hx _ rfl
 ·cases e
theorem ZdO:BO X ξ (rIs true) dIsNot:=by
 intro H α M v w x y Q h rv rw' q
 unfold dIsNot at q
 cases e:isP x y with
 |none=>rw[e] at q;exact q.elim
 |some b=>
  rw[e] at q
  obtain ⟨p,d⟩:=ZmQ rv rw' e
  exact ⟨p,by rw[d];simpa using q _ H α Ext.refl h (.bl (!b))⟩
noncomputable def ZmR:D->Bool
 | .non=>true
 | .bl _=>true
 | .int _=>true
 | .str _=>true
 |_=>false
noncomputable def Zss:D->D->Bool
 | .non,.non=>true
 | .bl a,.bl b=>a == b
 | .bl a,.int b=>(if a then 1 else 0) == b
 | .int a,.bl b=>a == (if b then 1 else 0)
 | .int a,.int b=>a == b
 | .str a,.str b=>a == b
 |_,_=>false
noncomputable def ZcR (M:Sto):D->Option (List D)
 | .tup xs=>some xs
 | .rol xs=>some xs
 | .con xs=>some xs
 | .ref n=>match M[n]? with | some (.lst xs)=>some xs | _=>none
 |_=>none
theorem ZhH {K:PySem.W.Frag} {H:Hp} {α:List Addr} {M:Sto} (h:HR K H α M) {v:V} {x:D} {ds:List D} (r:Rep K H α v x) (e:ZcR M x=some ds): ∃ p xs,v= .ref p/\(SqL K H p xs\/SqT K H p xs)/\Reps K H α xs ds:=by
 cases r with
 | @tup p xs ds hp rp=>cases e;exact ⟨p,xs,rfl,.inr (SqT.of hp),rp⟩
 | @con p xs ds hp rp=>cases e;exact ⟨p,xs,rfl,.inr hp.sq,rp⟩
 | @rol p xs ds hp rp=>cases e;exact ⟨p,xs,rfl,.inl hp.sq,rp⟩
 | @ref p n hp=>
  cases e1:M[n]? with
  |none=>simp only[ZcR,e1] at e;cases e
  |some o=>
   cases o with
   |lst es=>
    simp only[ZcR,e1] at e
    cases e
    obtain ⟨xs,g1,r1⟩:=h.at hp e1
    exact ⟨p,xs,rfl,.inl (SqL.of g1),r1⟩
 |_=>cases e
theorem Zi8 {K:PySem.W.Frag} {H:Hp} {α:List Addr} {M:Sto} (h:HR K H α M) {v:V} {x:D} {ds:List D} (r:Rep K H α v x) (e:ZcR M x=some ds) (nc: ∀ ys,x≠ .con ys): ∃ p xs,v= .ref p/\(SqL K H p xs\/H p=some (.tup xs))/\Reps K H α xs ds:=by
 cases r with
 |con _ _=>exact absurd rfl (nc _)
 | @tup p xs ds hp rp=>cases e;exact ⟨p,xs,rfl,.inr hp,rp⟩
 | @rol p xs ds hp rp=>cases e;exact ⟨p,xs,rfl,.inl hp.sq,rp⟩
 | @ref p n hp=>
  cases e1:M[n]? with
  |none=>simp only[ZcR,e1] at e;cases e
  |some o=>
   cases o with
   |lst es=>
    simp only[ZcR,e1] at e
    cases e
    obtain ⟨xs,g1,r1⟩:=h.at hp e1
    exact ⟨p,xs,rfl,.inl (SqL.of g1),r1⟩
 |_=>cases e
noncomputable def inD (x y:D) (M:Sto):Option Bool:=match ZcR M y with | some ds=>if ZmR x=true/\ds.all ZmR=true then some (ds.any fun y=>Zss y x) else none | none=>none
variable {e:Expr} {es:List Expr} {fs:Av} {fa:Ev} {p pos:Pos} {x:Str} {id T:String} {r:List V->Hp->VK->Prop} {f:List D->Sto->Out D}
noncomputable def Zk (f:List D->Sto->Out D) (fs:Av):Ev:=fun ρ M=>(fs ρ M).bind f
noncomputable def CO (X:Cx) (ξ:XK) (r:List V->Hp->VK->Prop) (f:List D->Sto->Out D):Prop:= ∀ H α M vs ds Q,HR X.K H α M->Reps X.K H α vs ds->OP X.K H α ξ Q (f ds M)->r vs H Q
theorem Zp (hc:ZbM X (.builtin id) r) (hf:CO X ξ r f) (hm:X.mg x=none) (hv:bootBuiltins x=some (.builtin id)) (ha:DA X ξ (e :: es) fs) (hg:Gl X x:=by rfl) (hn:x≠"__name__":=by decide) (hdb:(x == ("__debug__":Str))=false:=by decide)
  (he:starEach (e :: es) X.env=(false,eval e X.env) :: starEach es X.env:=by rfl) (hpl:(backTo pos (starEach es X.env)).any (·.1)=false:=by rfl):DE X ξ (.Call (.Name x p) (e :: es) [] pos) (Zk f fs):=by
 obtain ⟨ta,ha,qa⟩:=ha
 refine ⟨_,ZdL hc hg hm hv ha hn hdb he hpl,fun σ ρ H α M Q s h q=> ?_⟩
 exact qa σ ρ H α M _ s h (OG.seq q fun ds M1 vs H1 α1 e1 h1 r1 q1=>hf H1 α1 M1 vs ds Q h1 r1 q1)
theorem ZbA (hc:ZbM X (.type T) r) (hf:CO X ξ r f) (hm:X.mg x=none) (hv:bootBuiltins x=some (.type T)) (ha:DA X ξ (e :: es) fs) (hg:Gl X x:=by rfl) (hn:x≠"__name__":=by decide) (hdb:(x == ("__debug__":Str))=false:=by decide)
  (he:starEach (e :: es) X.env=(false,eval e X.env) :: starEach es X.env:=by rfl) (hpl:(backTo pos (starEach es X.env)).any (·.1)=false:=by rfl):DE X ξ (.Call (.Name x p) (e :: es) [] pos) (Zk f fs):=by
 obtain ⟨ta,ha,qa⟩:=ha
 refine ⟨_,Zho hc hg hm hv ha hn hdb he hpl,fun σ ρ H α M Q s h q=> ?_⟩
 exact qa σ ρ H α M _ s h (OG.seq q fun ds M1 vs H1 α1 e1 h1 r1 q1=>hf H1 α1 M1 vs ds Q h1 r1 q1)
noncomputable def bLen:List D->Sto->Out D:=fun ds M=>match ds with
 | [x]=>match ZcR M x with | some xs=> .ok (.int xs.length) M | none=> .bad
 |_=> .bad
theorem ZX:CO X ξ (fun xs H Q=> ∃ p ys,xs=[.ref p]/\(SqL X.K H p ys\/SqT X.K H p ys)/\Q (.int ys.length) H) bLen:=by
 intro H α M vs ds Q h rs q
 unfold bLen at q
 cases rs with
 |nil=>exact q.elim
 | @cons v x vs ds r t=>
  cases t with
  |cons _ _=>exact q.elim
  |nil=>
  cases e:ZcR M x with
  |none=>simp only[e] at q;exact q.elim
  |some ys=>
   simp only[e] at q
   obtain ⟨p,xs,rfl,h2,h3⟩:=ZhH h r e
   exact ⟨p,xs,rfl,h2,by rw[h3.length];exact q _ H α Ext.refl h (.int _)⟩
noncomputable def bAbs:List D->Sto->Out D:=fun ds M=>match ds with | [.int i]=> .ok (.int (if i < 0 then -i else i)) M | _=> .bad
theorem Zc4:CO X ξ (fun xs H Q=> ∃ i,xs=[.int i]/\Q (.int (if i < 0 then -i else i)) H) bAbs:=by
 intro H α M vs ds Q h rs q
 unfold bAbs at q
 split at q
 ·cases rs with
  |cons r t=>
   cases t
   cases r
   exact ⟨_,rfl,q _ H α Ext.refl h (.int _)⟩
 ·exact q.elim
noncomputable def bMax:List D->Sto->Out D:=fun ds M=>match ds with | [.int i,.int j]=> .ok (.int (if j > i then j else i)) M | _=> .bad
noncomputable def bMin:List D->Sto->Out D:=fun ds M=>match ds with | [.int i,.int j]=> .ok (.int (if j < i then j else i)) M | _=> .bad
theorem Zj1 {g:Int->Int->Int} {f:List D->Sto->Out D} (hf: ∀ ds M,f ds M=match ds with | [.int i,.int j]=> .ok (.int (g i j)) M | _=> .bad):CO X ξ (fun xs H Q=> ∃ i j,xs=[.int i,.int j]/\Q (.int (g i j)) H) f:=by
 intro H α M vs ds Q h rs q
 rw[hf] at q
 split at q
 ·rename_i i j
  cases rs with
  |cons r t=>
   cases t with
   |cons r' t'=>
    cases t'
    cases r
    cases r'
    exact ⟨i,j,rfl,q _ H α Ext.refl h (.int _)⟩
 ·exact q.elim
theorem ZmS:CO X ξ (fun xs H Q=> ∃ i j,xs=[.int i,.int j]/\Q (.int (if j > i then j else i)) H) bMax:=Zj1 (g:=fun i j=>if j > i then j else i) fun ds M=>rfl
theorem ZmT:CO X ξ (fun xs H Q=> ∃ i j,xs=[.int i,.int j]/\Q (.int (if j < i then j else i)) H) bMin:=Zj1 (g:=fun i j=>if j < i then j else i) fun ds M=>rfl
noncomputable def bInt:List D->Sto->Out D:=fun ds M=>match ds with | [.int i]=> .ok (.int i) M | [.bl k]=> .ok (.int (if k then 1 else 0)) M | _=> .bad
theorem Zj2:CO X ξ (fun xs H Q=>(∃ i,xs=[.int i]/\Q (.int i) H)\/ ∃ k,xs=[.bl k]/\Q (.int (if k then 1 else 0)) H) bInt:=by
 intro H α M vs ds Q h rs q
 unfold bInt at q
 split at q
 ·cases rs with
  |cons r t=>
   cases t
   cases r
   exact .inl ⟨_,rfl,q _ H α Ext.refl h (.int _)⟩
 ·cases rs with
  |cons r t=>
   cases t
   cases r
   exact .inr ⟨_,rfl,q _ H α Ext.refl h (.int _)⟩
 ·exact q.elim
noncomputable def bList:List D->Sto->Out D:=fun ds M=>match ds with
 | [x]=>match ZcR M x with | some xs=> .ok (.ref M.length) (M ++ [.lst xs]) | none=> .bad
 |_=> .bad
theorem ZhI:CO X ξ (fun xs H Q=> ∃ p ys,xs=[.ref p]/\(SqL X.K H p ys\/SqT X.K H p ys)/\ ∀ l,H l=none->Q (.ref l) (upd H l (.lst ys))) bList:=by
 intro H α M vs ds Q h rs q
 unfold bList at q
 cases rs with
 |nil=>exact q.elim
 | @cons v x vs ds r t=>
  cases t with
  |cons _ _=>exact q.elim
  |nil=>
  cases e:ZcR M x with
  |none=>simp only[e] at q;exact q.elim
  |some ys=>
   simp only[e] at q
   obtain ⟨p,xs,rfl,h2,h3⟩:=ZhH h r e
   exact ⟨p,xs,rfl,h2,fun l hl=>q _ _ (α ++ [l]) (Ext.new hl) (h.new hl h3) (.ref ⟨h.last l,Kn.lst Zn⟩)⟩
noncomputable def ZC (M:Sto) (x:D):Option String:=match kd M x with
 |some .non=>some "NoneType"
 |some (.bl _)=>some "bool"
 |some (.int _)=>some "int"
 |some (.str _)=>some "str"
 |some (.tup _)=>some "tuple"
 |some (.lst _)=>some "list"
 |none=>none
noncomputable def ZbB (t T:String):Bool:=t == T || (t == "bool" && T == "int")
noncomputable def Zdu (T:String) (f:Ev):Ev:=fun ρ M=>(f ρ M).bind fun x M1=>match ZC M1 x with | some t=> .ok (.bl (ZbB t T)) M1 | none=> .bad
noncomputable def Zst (X:Cx) (T:String):List V->Hp->VK->Prop:=fun vs H Q=> ∃ v α M x t,vs=[v,.ty T]/\HR X.K H α M/\Rep X.K H α v x/\ZC M x=some t/\Q (.bl (ZbB t T)) H
structure Kit (K:PySem.W.Frag) (T:String):Prop where
 non:PySem.W.kitOne K (.type "NoneType") (.type T)=some (ZbB "NoneType" T)
 bl:PySem.W.kitOne K (.type "bool") (.type T)=some (ZbB "bool" T)
 int:PySem.W.kitOne K (.type "int") (.type T)=some (ZbB "int" T)
 str:PySem.W.kitOne K (.type "str") (.type T)=some (ZbB "str" T)
 tup:PySem.W.kitOne K (.type "tuple") (.type T)=some (ZbB "tuple" T)
 lst:PySem.W.kitOne K (.type "list") (.type T)=some (ZbB "list" T)
theorem ZhJ {K:PySem.W.Frag}:Kit K "int":=⟨rfl,rfl,rfl,rfl,rfl,rfl⟩
theorem ZfK {K:PySem.W.Frag}:Kit K "bool":=⟨rfl,rfl,rfl,rfl,rfl,rfl⟩
theorem Zex {K:PySem.W.Frag}:Kit K "tuple":=⟨rfl,rfl,rfl,rfl,rfl,rfl⟩
theorem ZdP {K:PySem.W.Frag}:Kit K "list":=⟨rfl,rfl,rfl,rfl,rfl,rfl⟩
theorem ZkY {K:PySem.W.Frag}:Kit K "str":=⟨rfl,rfl,rfl,rfl,rfl,rfl⟩
theorem Zi9 (kt:Kit X.K T):ZbM X (.builtin "isinstance") (Zst X T):=by
 intro pins s σ H vs us Q I rs ⟨v,α,M,x,t,e1,h,rx,et,q⟩
 subst e1
 obtain ⟨u,w,rfl,ru,rw'⟩:=Zhh rs
 cases rw'
 unfold ZC at et
 cases ek:kd M x with
 |none=>rw[ek] at et;cases et
 |some k=>
  rw[ek] at et
  have va:=vw I h rx ru ek
  have fin: ∀ tk,EP X pins σ Q (.bool (ZbB t T)) { s with toks:=tk }:=fun tk=>⟨.bl _,H,I.tok tk,rfl,q⟩
  cases va with
  |non=>cases et;exact PySem.W.kia_one PySem.W.kitx_none I.kIn True.intro kt.non (fun z=>nomatch z) fin
  |bl b=>cases et;exact PySem.W.kia_one PySem.W.kitx_bool I.kIn True.intro kt.bl (fun z=>nomatch z) fin
  |int i t=>cases et;exact PySem.W.kia_one PySem.W.kitx_int I.kIn True.intro kt.int (fun z=>nomatch z) fin
  |str i t=>cases et;exact PySem.W.kia_one PySem.W.kitx_str I.kIn True.intro kt.str (fun z=>nomatch z) fin
  |tup g _ _=>cases et;obtain ⟨o,h1,h2,_⟩:=g;exact PySem.W.kia_one PySem.W.kitx_tuple I.kIn ⟨o,h1,h2⟩ kt.tup (fun z=>nomatch z) fin
  |lst g _ _=>cases et;obtain ⟨o,h1,h2,_⟩:=g;exact PySem.W.kia_one PySem.W.kitx_list I.kIn ⟨o,h1,h2⟩ kt.lst (fun z=>nomatch z) fin
theorem ZbQ {y:Str} {p2:Pos} (kt:Kit X.K T) (hm:X.mg "isinstance"=none) (hmT:X.mg y=none) (hvT:bootBuiltins y=some (.type T)) (ha:DE X ξ e fa) (hg:Gl X "isinstance":=by rfl) (hgT:Gl X y:=by rfl) (hn:y≠"__name__":=by decide) (hdb:(y == ("__debug__":Str))=false:=by decide)
  (he:starEach [e,.Name y p2] X.env=(false,eval e X.env) :: starEach [.Name y p2] X.env:=by rfl) (he2:starEach [.Name y p2] X.env=(false,eval (.Name y p2) X.env) :: starEach [] X.env:=by rfl) (hpl:(backTo pos (starEach [.Name y p2] X.env)).any (·.1)=false:=by rfl):DE X ξ (.Call (.Name "isinstance" p) [e,.Name y p2] [] pos) (Zdu T fa):=by
 obtain ⟨ta,ha,qa⟩:=ha
 refine ⟨_,ZdL (Zi9 kt) hg hm (by with_unfolding_all rfl) (ZbT ha (ZbT (Zhc hgT hmT hvT (v:= .ty T) rfl hn hdb) ZfC he2) he) (by decide) (by decide) he hpl,fun σ ρ H α M Q s h q=> ?_⟩
 refine qa σ ρ H α M _ s h (OG.seq q fun x M1 v H1 α1 e1 h1 r1 q1=> ?_)
 cases et:ZC M1 x with
 |none=>simp only[et] at q1;exact q1.elim
 |some t=>
  simp only[et] at q1
  exact ⟨v,α1,M1,x,t,rfl,h1,r1,et,q1 _ H1 α1 Ext.refl h1 (.bl _)⟩
end
end DL
end
section
namespace DL
open PySem PySem.Spec PyProof.Rows L2
noncomputable def CXE (P:Program) (w:World):CXT:=fun outer H s E e s'=> ∃ (ea C:Addr) (dct:Option Addr) (B:Heap) (H':Hp),e= .ref ea/\s'.os=s.os/\AllBare s'.gens/\Un (frs outer) [] H H' s.heap s'.heap/\HOk P w H' s'.heap/\
 DQ.Fly B outer ea (.ref C) dct .none s'.heap/\(∀ b u,H' b=some u-> ∃ o,B.get? b=some o)/\(∀ b o,s.heap.get? b=some o->b ∉ frs outer-> ∃ o',B.get? b=some o')/\E (.ref C) dct H'
structure Thr (X:Cx) (ξ:XK):Prop where
 own:PassesOwn (model X.prog X.w) X.A X.env X.xe
 ps:Zhm (CXE X.prog X.w) X ξ
 mak: ∀ (pins:List (Addr × Obj)) (σ:L2.St) (H H':Hp) (s s':Shared) (e:Addr) (oe:Obj) (vs:Array Value) (C:Addr),Inv X pins σ H s->s'.os=s.os->AllBare s'.gens->Un (frs X.stack) [] H H' s.heap s'.heap->HOk X.prog X.w H' s'.heap->s.heap.get? e=none->s'.heap.get? e=some oe->oe.cls= .ref C->
  oe.data= .fields vs->vs[1]?=some .none->vs[2]?=some .none->H' e=none->ξ (.ref C) oe.dict H'->X.xe (.ref e) s'
theorem Zey {h b1 b2:Heap}: ∀ {l:List Env},h.FunFrames b1 l->(∀ b∈frs l,b2.get? b=none)->h.FunFrames b2 l
 | [],_,_=>trivial
 |env :: r,⟨h1,⟨L,o,h2,h3,h4,h5⟩,h6⟩,k=>⟨h1,⟨L,o,h2,k L (by unfold frs;rw[List.filterMap_cons,h2];exact List.mem_cons_self),h4,h5⟩,Zey h6 fun b hb=>k b (by
   unfold frs
   rw[List.filterMap_cons,h2]
   exact List.mem_cons_of_mem _ hb)⟩
section
variable {X:Cx} {pins:List (Addr × Obj)} {σ:L2.St} {H H':Hp} {s:Shared} {h1 h2 B:Heap}
theorem Zj3 (hx:X.ex=[]) (I:Inv X pins σ H s) (u:Un (frs X.stack) [] H H' s.heap h1) (hok:HOk X.prog X.w H' h1) (t1: ∀ b q,H' b=some q-> ∃ o,B.get? b=some o) (t2: ∀ b o,s.heap.get? b=some o->b ∉ frs X.stack-> ∃ o',B.get? b=some o')
  (st1:B.StaysIn h1) (st2:B.StaysIn h2) (up:h1.UpToSlots h2):Un X.fs [] X.H₀ H' X.s₀.heap h2/\HOk X.prog X.w H' h2/\ ∀ b o,X.s₀.heap.get? b=some o->b ∉ X.fs-> ∃ o',B.get? b=some o':=by
 have kB: ∀ b ob o,B.get? b=some ob->h1.get? b=some o->h2.get? b=some o:=fun b ob o e x=>by
  have z:=st1 b ob e
  rw[x] at z
  cases z
  exact st2 b _ e
 have nx: ∀ b,b ∉ X.ex:=fun b=>by rw[hx];simp
 have nL: ∀ b o,X.s₀.heap.get? b=some o->b ∉ X.fs->b ∉ frs X.stack:=fun b o e n z=>by
  rcases List.mem_cons.mp (I.stkSub b z) with q | q
  ·exact absurd (Heap.lt_size e) (by rw[q];exact Nat.not_lt_of_le I.ok.above)
  ·exact n q
 have th: ∀ b o,X.s₀.heap.get? b=some o->b ∉ X.fs-> ∃ o',B.get? b=some o':=fun b o e n=>by
  obtain ⟨o',e'⟩:=I.base.there b o e (nx b)
  exact t2 b o' e' (nL b o e n)
 have sl: ∀ b o,X.s₀.heap.get? b=some o->X.H₀ b=none->b∈X.fs-> ∃ sl,h2.get? b=some { o with slots:=sl }:=fun b o e n hb=>by
  obtain ⟨s1,e1⟩:=I.base.slot b o e n hb (nx b)
  obtain ⟨s2,e2⟩:=u.any e1 (I.base.free b o e n (nx b)) (by simp)
  obtain ⟨_,o',g1,g2⟩:=I.ok.funs.mem hb
  rw[e] at g1
  cases g1
  obtain ⟨s3,e3⟩:=up b _ e2 g2
  exact ⟨s3,e3⟩
 refine ⟨⟨fun b o e n hb _=> ?_,fun b o e n hb _=>sl b o e n hb,fun b o e n _=> ?_,fun b o e _=> ?_,fun b xs e=>u.tups b xs (I.base.tups b xs e),fun b o xs e=>u.frzs b o xs (I.base.frzs b o xs e),fun b ps e=> ?_⟩,fun a o e=> ?_,th⟩
 ·obtain ⟨ob,g⟩:=th b o e hb
  exact kB b ob o g (u.keep b o (I.base.keep b o e n hb (nx b)) (I.base.free b o e n (nx b)) (nL b o e hb) (by simp))
 ·obtain ⟨o',e'⟩:=I.base.there b o e (nx b)
  exact u.free b o' e' (I.base.free b o e n (nx b)) (by simp)
 ·by_cases hb:b∈X.fs
  ·obtain ⟨s1,e1⟩:=sl b o e (I.ok.frf b hb) hb
   exact ⟨_,e1⟩
  ·obtain ⟨ob,g⟩:=th b o e hb
   exact ⟨ob,st2 b ob g⟩
 ·obtain ⟨m1,e1⟩:=I.base.tbls b ps e
  obtain ⟨m2,e2⟩:=u.tbls b _ e1
  exact ⟨m1 ++ m2,by rw[e2,Array.append_assoc]⟩
 ·refine (hok a o e).stay (fun b q hb x=> ?_) (fun _ q=>q) fun _ _ q=>q
  have tr: ∃ q,H' b=some q:=by
   rcases hb with z | z
   ·exact ⟨o,z ▸ e⟩
   ·exact ⟨_,z⟩
  obtain ⟨q',z⟩:=tr
  obtain ⟨ob,g⟩:=t1 b q' z
  exact kB b ob q g x
end
theorem Zca {P:Program} {w:World} {H:Hp} {h:Heap} {a:Addr} {o:HO} (x:Zbw P w H h a o): ∃ ob,h.get? a=some ob:=by
 cases o with
 |lst xs=>obtain ⟨_,_,_,_,e⟩:=x;exact ⟨_,e⟩
 |tup xs=>obtain ⟨_,_,_,ob,e,_⟩:=x;exact ⟨_,e⟩
 |dK kvs=>obtain ⟨_,_,_,_,o,_,_,e,_⟩:=x;exact ⟨_,e⟩
 |dT kvs=>obtain ⟨_,_,_,_,o,_,_,e,_⟩:=x;exact ⟨_,e⟩
 |set S n=>obtain ⟨o,_,_,_,e,_⟩:=x;exact ⟨_,e⟩
 |ins C dx fs=>obtain ⟨_,_,_,e,_⟩:=x;exact ⟨_,e⟩
 |own y=>exact x
 |xd fs=>obtain ⟨_,⟨_,_,_,e,_⟩,_⟩:=x;exact ⟨_,e⟩
 |rng lo hi=>obtain ⟨_,_,_,e⟩:=x;exact ⟨_,e⟩
 |frz ob u=>obtain ⟨e,_⟩:=x;exact ⟨_,e⟩
 |tbl ps=>exact ⟨_,(show h.get? a=some _ from x)⟩
 |met f y=>exact ⟨_,(show h.get? a=some _ from x)⟩
 |ext φ=>obtain ⟨_,e,_⟩:=x;exact e
noncomputable def ZiL (h:Heap) (l:List Addr):Heap:=ZiK h fun b=>if b∈l then some (.own 0) else none
theorem ZfL {h:Heap} {l:List Addr} {b:Addr} {o:Obj} (e:h.get? b=some o) (n:b ∉ l):(ZiL h l).get? b=some o:=Zfz e (if_neg n)
theorem ZhK {h:Heap} {l:List Addr} {b:Addr} {o:Obj} (e:(ZiL h l).get? b=some o):h.get? b=some o/\b ∉ l:=by
 obtain ⟨a,n⟩:=Zha e
 refine ⟨a,fun z=> ?_⟩
 simp only[if_pos z] at n
 cases n
theorem Zez {h:Heap} {l:List Addr} {b:Addr} (n:b∈l):(ZiL h l).get? b=none:=by
 cases q:(ZiL h l).get? b with
 |none=>rfl
 |some o=>exact absurd n (ZhK q).2
theorem ZeA {h h' b1:Heap}: ∀ {l:List Env},h.FunFrames b1 l->(∀ b o,b∈frs l->h.get? b=some o-> ∃ o',h'.get? b=some o'/\o'.data=o.data)->h'.FunFrames b1 l
 | [],_,_=>trivial
 |env :: r,⟨h1,⟨L,o,h2,h3,h4,h5⟩,h6⟩,k=>by
  have m:frs (env :: r)=L :: frs r:=by unfold frs;rw[List.filterMap_cons,h2]
  obtain ⟨o',g1,g2⟩:=k L o (by rw[m];exact List.mem_cons_self) h4
  exact ⟨h1,⟨L,o',h2,h3,g1,fun vs=>g2 ▸ h5 vs⟩,ZeA h6 fun b o hb=>k b o (by rw[m];exact List.mem_cons_of_mem _ hb)⟩
theorem ZeB {X:Cx} {pins:List (Addr × Obj)} {σ:L2.St} {H H':Hp} {s s':Shared} {e:Addr} {oe:Obj} (I:Inv X pins σ H s) (un:Un (frs X.stack) [] H H' s.heap s'.heap) (hok:HOk X.prog X.w H' s'.heap) (hn:s.heap.get? e=none) (he:s'.heap.get? e=some oe) (hne:H' e=none):
  (∀ b u,H' b=some u-> ∃ o,(ZiL s'.heap (e :: frs X.stack)).get? b=some o)/\(∀ b o,s.heap.get? b=some o->b ∉ frs X.stack-> ∃ o',(ZiL s'.heap (e :: frs X.stack)).get? b=some o')/\
  (ZiL s'.heap (e :: frs X.stack)).StaysIn s'.heap/\s'.heap.FunFrames (ZiL s'.heap (e :: frs X.stack)) X.stack/\(ZiL s'.heap (e :: frs X.stack)).get? e=none:=by
 have nfr: ∀ b∈frs X.stack,H' b=none:=fun b hb=>by
  obtain ⟨_,o',g1,g2⟩:=I.stack.mem hb
  exact un.free b o' g1 (I.stkFree b hb) (by simp)
 refine ⟨fun b u x=> ?_,fun b o x n=> ?_,fun b o x=>(ZhK x).1,ZeA (Zey I.stack fun b hb=>Zez (List.mem_cons_of_mem _ hb)) fun b o hb x=> ?_,Zez (by simp)⟩
 ·obtain ⟨o,g⟩:=Zca (hok b u x)
  refine ⟨o,ZfL g fun z=> ?_⟩
  rcases List.mem_cons.mp z with z | z
  ·rw[z,hne] at x;cases x
  ·rw[nfr b z] at x;cases x
 ·obtain ⟨o',g⟩:=un.there b o x (by simp)
  refine ⟨o',ZfL g fun z=> ?_⟩
  rcases List.mem_cons.mp z with z | z
  ·rw[z,hn] at x;cases x
  ·exact n z
 ·obtain ⟨sl,g⟩:=un.any x (I.stkFree b hb) (by simp)
  exact ⟨_,g,rfl⟩
theorem ZmU {P:Program} {w:World} {K:PySem.W.Frag} {mg:Str->Option Value} {base:Heap} {N:List Str} {qual:Str} {scope:Scope} {f:Addr} {cd:Value} {A:Around} {outer:List Env} {s:Shared} {H:Hp} {E:XK}:
  Thr (ZiU (CXE P w) P w K mg base N qual scope f cd A outer s H E) E:=by
 refine ⟨PassesOwn.leaving,fun pins σ H1 s1 e s2 I h=> ?_,fun pins σ H1 H' s1 s' e oe vs C I os bare un hok hn he hc hd v1 v2 hne q=> ?_⟩
 ·obtain ⟨ea,C,dct,B,H2,rfl,os,bare,un,hok,fl,t1,t2,q⟩:=h
  refine DQ.Zhy (outer:=outer) I.ok.frames rfl fl fun h3 f3 up=> ?_
  obtain ⟨a1,a2,a3⟩:=Zj3 rfl I un hok t1 t2 fl.stay f3.stay up
  exact ⟨ea,C,dct,B,H2,rfl,os.trans I.os,bare,a1,a2,f3,t1,a3,q⟩
 ·obtain ⟨t1,t2,hs,hl,hb⟩:=ZeB I un hok hn he hne
  refine DQ.Zhz (s:=s') (outer:=outer) I.ok.frames rfl hl he hs hb hd v1 v2 fun h3 f3 up=> ?_
  obtain ⟨a1,a2,a3⟩:=Zj3 rfl I un hok t1 t2 hs f3.stay up
  rw[hc] at f3
  exact ⟨e,C,oe.dict,_,H',rfl,os.trans I.os,bare,a1,a2,f3,t1,a3,q⟩
end DL
end
section
namespace DL
open PySem PySem.Spec PyProof.Rows L2
noncomputable def FP (K:PySem.W.Frag) (H:Hp) (α:List Addr) (ξ:XK) (Dn:Ends):Fl->Prop
 | .nx ρ' M'=> ∀ σ' H' α',Ext K H H' α α'->HR K H' α' M'->SR K H' α' σ' ρ'->Dn.nx σ' H'
 | .brk ρ' M'=> ∀ σ' H' α',Ext K H H' α α'->HR K H' α' M'->SR K H' α' σ' ρ'->Dn.bk σ' H'
 | .cnt ρ' M'=> ∀ σ' H' α',Ext K H H' α α'->HR K H' α' M'->SR K H' α' σ' ρ'->Dn.ct σ' H'
 | .ret d M'=> ∀ v H' α',Ext K H H' α α'->HR K H' α' M'->Rep K H' α' v d->Dn.rt v H'
 | .exc c M'=> ∀ C H' α',PySem.W.nsIn K mainGlobals c=some (some (.ref C))->Ext K H H' α α'-> ∀ dct,XO K H' α' c M' dct->ξ (.ref C) dct H'
 | .bad=>False
theorem FP.ext {K:PySem.W.Frag} {H H1:Hp} {α α1:List Addr} {ξ:XK} {Dn:Ends} {o:Fl} (h:FP K H α ξ Dn o) (e:Ext K H H1 α α1):FP K H1 α1 ξ Dn o:=by
 cases o with
 |nx ρ M=>exact fun σ' H' α' e'=>h σ' H' α' (e.trans e')
 |brk ρ M=>exact fun σ' H' α' e'=>h σ' H' α' (e.trans e')
 |cnt ρ M=>exact fun σ' H' α' e'=>h σ' H' α' (e.trans e')
 |ret d M=>exact fun v H' α' e'=>h v H' α' (e.trans e')
 |exc c M=>exact fun C H' α' n e'=>h C H' α' n (e.trans e')
 |bad=>exact h
noncomputable def DS (X:Cx) (ξ:XK) (st:Stmt) (g:Sv):Prop:= ∃ t:TS,PS X st t/\ ∀ σ ρ H α M Dn,SR X.K H α σ ρ->HR X.K H α M->FP X.K H α ξ Dn (g ρ M)->t Dn σ H
noncomputable def DSs (X:Cx) (ξ:XK) (st:List Stmt) (g:Sv):Prop:= ∃ t:TS,PSs X st t/\ ∀ σ ρ H α M Dn,SR X.K H α σ ρ->HR X.K H α M->FP X.K H α ξ Dn (g ρ M)->t Dn σ H
noncomputable def Z0 {β:Type} (o:Out β) (k:β->Sto->Fl):Fl:=match o with
 | .ok a M=>k a M
 | .exc c M=> .exc c M
 | .bad=> .bad
theorem FP.seq {β γ:Type} {K:PySem.W.Frag} {R:Hp->List Addr->γ->β->Prop} {H:Hp} {α:List Addr} {ξ:XK} {Dn:Ends} {Q1:γ->Hp->Prop} {o:Out β} {f:β->Sto->Fl}
  (h:FP K H α ξ Dn (Z0 o f)) (k: ∀ d M' v H' α',Ext K H H' α α'->HR K H' α' M'->R H' α' v d->FP K H' α' ξ Dn (f d M')->Q1 v H'):OG K R H α ξ Q1 o:=by
 cases o with
 |ok d M'=>exact fun v H' α' e hr r=>k d M' v H' α' e hr r (FP.ext (o:=f d M') h e)
 |exc c M'=>exact h
 |bad=>exact h
noncomputable def ZB (g h:Sv):Sv:=fun ρ M=>match g ρ M with
 | .nx ρ1 M1=>h ρ1 M1
 |o=>o
noncomputable def sNil:Sv:=fun ρ M=> .nx ρ M
noncomputable def ZW (f:Ev):Sv:=fun ρ M=>Z0 (f ρ M) fun d M1=> .ret d M1
noncomputable def ZdQ:Sv:=fun _ M=> .ret .non M
noncomputable def Zdv (f:Ev):Sv:=fun ρ M=>Z0 (f ρ M) fun _ M1=> .nx ρ M1
noncomputable def sIf (c:Tv) (g h:Sv):Sv:=fun ρ M=>Z0 (c ρ M) fun k M1=>if k=true then g ρ M1 else h ρ M1
noncomputable def Zsu:Sv:=fun ρ M=> .brk ρ M
noncomputable def Zsv:Sv:=fun ρ M=> .cnt ρ M
noncomputable abbrev Tg:=D->Ro->Option Ro
noncomputable abbrev Tgs:=List D->Ro->Option Ro
noncomputable def gNm (i:Nat):Tg:=fun d ρ=>some (ρ.set i (some d))
noncomputable def gNl:Tgs:=fun ds ρ=>match ds with | []=>some ρ | _=>none
noncomputable def gCs (g:Tg) (gs:Tgs):Tgs:=fun ds ρ=>match ds with | d :: r=>(match g d ρ with | some ρ1=>gs r ρ1 | none=>none) | []=>none
noncomputable def gTp (gs:Tgs):Tg:=fun d ρ=>match d with | .tup ds=>gs ds ρ | _=>none
noncomputable def ZO (g:Tg) (f:Ev):Sv:=fun ρ M=>Z0 (f ρ M) fun d M1=>match g d ρ with | some ρ1=> .nx ρ1 M1 | none=> .bad
noncomputable def ZdC (i j:Nat) (fs:Av):Sv:=fun ρ M=>Z0 (fs ρ M) fun ds M1=>match ds with | [v,w]=> .nx ((ρ.set i (some v)).set j (some w)) M1 | _=> .bad
noncomputable def Ze8 (fo fi fe:Ev):Sv:=fun ρ M=>Z0 (fe ρ M) fun d M1=>Z0 (fo ρ M1) fun o M2=>Z0 (fi ρ M2) fun i M3=>match o,i with
 | .ref n,.int k=>(match M3[n]? with
  |some (.lst xs)=>(match ixN xs.length k with | some j=> .nx ρ (M3.set n (.lst (xs.set j d))) | none=> .bad)
  |_=> .bad)
 |_,_=> .bad
section
variable {X:Cx} {ξ:XK} {st:Stmt} {sts:List Stmt} {g h:Sv} {e:Expr} {f:Ev} {pos:Pos} {c:Expr} {fc:Tv}
theorem Zz:DSs X ξ [] sNil:=⟨_,ZkD,fun σ ρ H α M Dn s h q=>q σ H α Ext.refl h s⟩
theorem Zh (h1:DS X ξ st g) (h2:DSs X ξ sts h):DSs X ξ (st :: sts) (ZB g h):=by
 obtain ⟨t1,p1,q1⟩:=h1
 obtain ⟨t2,p2,q2⟩:=h2
 refine ⟨_,ZdJ p1 p2,fun σ ρ H α M Dn s hh q=>q1 σ ρ H α M { Dn with nx:=t2 Dn } s hh ?_⟩
 unfold ZB at q
 cases e:g ρ M with
 |nx ρ1 M1=>rw[e] at q;exact fun σ' H' α' ex hr sr=>q2 σ' ρ1 H' α' M1 Dn sr hr (FP.ext q ex)
 |brk ρ1 M1=>rw[e] at q;exact q
 |cnt ρ1 M1=>rw[e] at q;exact q
 |ret d M1=>rw[e] at q;exact q
 |exc c M1=>rw[e] at q;exact q
 |bad=>rw[e] at q;exact q
theorem Zj (h1:DS X ξ st g):DSs X ξ [st] g:=let ⟨_,p,q⟩:=h1;⟨_,Zhd p,q⟩
theorem Zt (he:DE X ξ e f):DS X ξ (.Return (some e) pos) (ZW f):=by
 obtain ⟨t,p,q⟩:=he
 exact ⟨_,Zmi p,fun σ ρ H α M Dn s hh w=>q σ ρ H α M _ s hh (FP.seq w fun d M1 v H1 α1 e1 h1 r1 w1=>w1 v H1 α1 Ext.refl h1 r1)⟩
theorem Z4 {a b:List Stmt} (hc:DT X ξ c fc) (ha:DSs X ξ a g) (hb:DSs X ξ b h):DS X ξ (.If c a b pos) (sIf fc g h):=by
 obtain ⟨tc,pc,qc⟩:=hc
 obtain ⟨ta,pa,qa⟩:=ha
 obtain ⟨tb,pb,qb⟩:=hb
 refine ⟨_,Zpl pc pa pb,fun σ ρ H α M Dn s hh w=>qc σ ρ H α M _ s hh (FP.seq w fun k M1 v H1 α1 e1 h1 r1 w1=> ?_)⟩
 cases r1
 cases k with
 |true=>exact ZjY (qa σ ρ H1 α1 M1 Dn (s.mono e1) h1 w1)
 |false=>exact ZjX (qb σ ρ H1 α1 M1 Dn (s.mono e1) h1 w1)
noncomputable def DG (X:Cx) (tg:Expr) (g:Tg):Prop:= ∃ t:TG,PG X tg t/\ ∀ v d σ ρ H α ρ' Q,SR X.K H α σ ρ->Rep X.K H α v d->g d ρ=some ρ'->(∀ σ',SR X.K H α σ' ρ'->Q σ' H)->t v σ H Q
noncomputable def DGs (X:Cx) (tgs:List Expr) (g:Tgs):Prop:= ∃ t:TGs,PGs X tgs t/\ ∀ vs ds σ ρ H α ρ' Q,SR X.K H α σ ρ->Reps X.K H α vs ds->g ds ρ=some ρ'->(∀ σ',SR X.K H α σ' ρ'->Q σ' H)->t vs σ H Q
theorem ZE (i:Nat) {x:Str} (hN:X.N.Nodup) (hi:X.N[i]?=some x:=by rfl) (hx:Loc X.env.scope x:=by first | exact Or.inl rfl | exact Or.inr rfl) (hm:X.may i=true:=by rfl) (hf:X.fn x=true\/X.env.scope.names.lookup x=some .local:=by first | exact .inl rfl | exact .inr rfl | assumption):DG X (.Name x pos) (gNm i):=by
 refine ⟨_,ZkF hN hi hx hm hf,fun v d σ ρ H α ρ' Q s r e k=> ?_⟩
 cases e
 exact k _ (s.set i r)
theorem ZbU:DGs X [] gNl:=by
 refine ⟨_,ZkG,fun vs ds σ ρ H α ρ' Q s r e k=> ?_⟩
 cases r with
 |nil=>cases e;exact ⟨rfl,k _ s⟩
 |cons _ _=>cases e
theorem ZV {es:List Expr} {g:Tg} {gs:Tgs} (h1:DG X e g) (h2:DGs X es gs) (hs:(assignEach (e :: es) X.env).map (·.2)=assign e X.env :: (assignEach es X.env).map (·.2):=by rfl):DGs X (e :: es) (gCs g gs):=by
 obtain ⟨t1,p1,q1⟩:=h1
 obtain ⟨t2,p2,q2⟩:=h2
 refine ⟨_,ZiP p1 p2 hs,fun vs ds σ ρ H α ρ' Q s r e k=> ?_⟩
 cases r with
 |nil=>cases e
 |cons r rr=>
  rename_i v d vs ds
  cases e1:g d ρ with
  |none=>simp only[gCs,e1] at e;cases e
  |some ρ1=>
   simp only[gCs,e1] at e
   exact ⟨v,vs,rfl,q1 v d σ ρ H α ρ1 _ s r e1 fun σ' s'=>q2 vs ds σ' ρ1 H α ρ' Q s' rr e k⟩
theorem Zc5 {es:List Expr} {k:Nat} {gs:Tgs} {n:Nat} (hc:X.calm=true) (h:DGs X es gs) (hn:(assignEach es X.env).length=n:=by rfl) (hlen: ∀ ds ρ ρ',gs ds ρ=some ρ'->ds.length=n) (hst:(assignEach es X.env).findIdx? (·.1)=none:=by rfl):DG X (.Tuple es k pos) (gTp gs):=by
 obtain ⟨t,p,q⟩:=h
 refine ⟨_,Zmk hc p hn hst,fun v d σ ρ H α ρ' Q s r e k=> ?_⟩
 cases r with
 | @tup a xs ds hp rp=>
  have e':gs ds ρ=some ρ':=e
  exact ⟨a,xs,rfl,(SqT.of hp),by rw[rp.length];exact hlen ds ρ ρ' e',q xs ds σ ρ H α ρ' Q s rp e' k⟩
 |_=>cases e
theorem ZbV {ds:List D} {ρ ρ':Ro} (h:gNl ds ρ=some ρ'):ds.length=0:=by cases ds with | nil=>rfl | cons _ _=>cases h
theorem Zag {g:Tg} {gs:Tgs} {n:Nat} (h: ∀ ds ρ ρ',gs ds ρ=some ρ'->ds.length=n) (ds:List D) (ρ ρ':Ro) (e:gCs g gs ds ρ=some ρ'):ds.length=n + 1:=by
 cases ds with
 |nil=>cases e
 |cons d r=>
  cases e1:g d ρ with
  |none=>simp only[gCs,e1] at e;cases e
  |some ρ1=>simp only[gCs,e1] at e;rw[List.length_cons,h r ρ1 ρ' e]
theorem Zy (i:Nat) {x:Str} {pos':Pos} (hN:X.N.Nodup) (he:DE X ξ e f) (hi:X.N[i]?=some x:=by rfl) (hx:Loc X.env.scope x:=by first | exact Or.inl rfl | exact Or.inr rfl) (hm:X.may i=true:=by rfl) (hs:swapsWith e (some (.Name x pos')) pos.line X.env=pure false:=by rfl) (hf:X.fn x=true\/X.env.scope.names.lookup x=some .local:=by first | exact .inl rfl | exact .inr rfl | assumption):
  DS X ξ (.Assign [.Name x pos'] e pos) (ZO (gNm i) f):=by
 obtain ⟨t,p,q⟩:=he
 exact ⟨_,Zmm hN hi hx hm p hs hf,fun σ ρ H α M Dn s hh w=>q σ ρ H α M _ s hh (FP.seq w fun d M1 v H1 α1 e1 h1 r1 w1=>w1 _ H1 α1 Ext.refl h1 ((s.mono e1).set i r1))⟩
theorem Zj4 {tg:Expr} {gt:Tg} (he:DE X ξ e f) (hg:DG X tg gt) (hs:swapsWithSole [tg] e pos.line X.env=pure false:=by rfl) (hw:swappedStores [tg] e X.env=pure none:=by rfl)
  (h1:(assignEach [tg] X.env).map (·.2)=[assign tg X.env]:=by rfl):DS X ξ (.Assign [tg] e pos) (ZO gt f):=by
 obtain ⟨t,p,q⟩:=he
 obtain ⟨tt,pt,qt⟩:=hg
 refine ⟨_,ZjQ p pt hs hw h1,fun σ ρ H α M Dn s hh w=>q σ ρ H α M _ s hh (FP.seq w fun d M1 v H1 α1 e1 h1 r1 w1=> ?_)⟩
 cases eg:gt d ρ with
 |none=>simp only[eg] at w1;exact w1.elim
 |some ρ1=>
  simp only[eg] at w1
  exact qt v d σ ρ H1 α1 ρ1 _ (s.mono e1) r1 eg fun σ' s'=>w1 σ' H1 α1 Ext.refl h1 s'
theorem ZfM (i j:Nat) {x y:Str} {a b:Expr} {fs:Av} {px py pt:Pos} {kt k2 pt2} (hc:X.calm=true) (hN:X.N.Nodup) (ha:DA X ξ [a,b] fs) (hi:X.N[i]?=some x:=by rfl) (hj:X.N[j]?=some y:=by rfl) (mi:X.may i=true:=by rfl) (mj:X.may j=true:=by rfl) (hij:i≠j:=by decide)
  (hx:X.env.scope.names.lookup x=some .local:=by rfl) (hy:X.env.scope.names.lookup y=some .local:=by rfl)
  (hw:swappedStores [.Tuple [.Name x px,.Name y py] kt pt] (.Tuple [a,b] k2 pt2) X.env=pure (some [x,y]):=by rfl)
  (hs:swapsWithSole [.Tuple [.Name x px,.Name y py] kt pt] (.Tuple [a,b] k2 pt2) pos.line X.env=pure false:=by rfl):
  DS X ξ (.Assign [.Tuple [.Name x px,.Name y py] kt pt] (.Tuple [a,b] k2 pt2) pos) (ZdC i j fs):=by
 obtain ⟨t,p,q⟩:=ha
 refine ⟨_,Zmn hc mi mj hN hi hj hij hx hy p hw hs,fun σ ρ H α M Dn s hh w=>q σ ρ H α M _ s hh (FP.seq w fun ds M1 vs H1 α1 e1 h1 r1 w1=> ?_)⟩
 match r1 with
 | .nil=>exact w1.elim
 | .cons _ .nil=>exact w1.elim
 | .cons _ (.cons _ (.cons _ _))=>exact w1.elim
 | .cons r (.cons r' .nil)=>exact ⟨_,_,rfl,w1 _ H1 α1 Ext.refl h1 (((s.mono e1).set i r).set j r')⟩
theorem Zj5 {o i:Expr} {fo fi:Ev} {pos':Pos} (ho:DE X ξ o fo) (hi:DE X ξ i fi) (he:DE X ξ e f)
  (ha: ∀ v,assign (.Subscript o i pos') X.env v=(do
   let ov <- holding [v] (eval o X.env)
   let iv <- holding [v,ov] (eval i X.env)
   standAt pos'
   holding [v,ov,iv] (setItem ov iv v)
   release [v,ov,iv] []):=by intro _;rfl) (hs:swapsWithSole [.Subscript o i pos'] e pos.line X.env=pure false:=by rfl) (hw:swappedStores [.Subscript o i pos'] e X.env=pure none:=by rfl)
  (h1:(assignEach [.Subscript o i pos'] X.env).map (·.2)=[assign (.Subscript o i pos') X.env]:=by rfl):DS X ξ (.Assign [.Subscript o i pos'] e pos) (Ze8 fo fi f):=by
 obtain ⟨t,p,q⟩:=he
 obtain ⟨to,po,qo⟩:=ho
 obtain ⟨ti,pi,qi⟩:=hi
 refine ⟨_,ZjQ p (Zml po pi ZiX ha) hs hw h1,fun σ ρ H α M Dn s hh w=>q σ ρ H α M _ s hh (FP.seq w fun d M1 v H1 α1 e1 h1 r1 w1=> ?_)⟩
 refine qo σ ρ H1 α1 M1 _ (s.mono e1) h1 (FP.seq w1 fun od M2 ov H2 α2 e2 h2 r2 w2=> ?_)
 refine qi σ ρ H2 α2 M2 _ ((s.mono e1).mono e2) h2 (FP.seq w2 fun kd M3 kv H3 α3 e3 h3 r3 w3=> ?_)
 cases Rep.mono e3 r2 with
 | @ref p n hp=>
  cases r3 with
  |int k=>
   cases em:M3[n]? with
   |none=>simp only[em] at w3;exact w3.elim
   |some so=>
    cases so with
    |lst ds=>
     cases ej:ixN ds.length k with
     |none=>simp only[em,ej] at w3;exact w3.elim
     |some j=>
      simp only[em,ej] at w3
      obtain ⟨xs,g1,g2⟩:=h3.at hp em
      refine ⟨p,xs,k,j,rfl,rfl,g1,by rw[g2.length];exact ej,?_⟩
      exact w3 σ _ α3 (Ext.wr g1) (h3.wr hp g1 (Reps.set (Rep.mono e3 (Rep.mono e2 r1)) j g2)) ((((s.mono e1).mono e2).mono e3).mono (Ext.wr g1))
  |_=>exact w3.elim
 |_=>exact w3.elim
noncomputable def whN (c:Tv) (g:Sv):Nat->Ro->Sto->Option Fl
 |0,_,_=>none
 |n + 1,ρ,M=>match c ρ M with
  | .ok true M1=>(match g ρ M1 with
   | .nx ρ2 M2=>whN c g n ρ2 M2
   | .cnt ρ2 M2=>whN c g n ρ2 M2
   | .brk ρ2 M2=>some (.nx ρ2 M2)
   |o=>some o)
  | .ok false M1=>some (.nx ρ M1)
  | .exc e M1=>some (.exc e M1)
  | .bad=>some .bad
theorem ZcS {c:Tv} {g:Sv}: ∀ {n:Nat} {ρ:Ro} {M:Sto} {o:Fl},whN c g n ρ M=some o-> ∀ k,whN c g (n + k) ρ M=some o
 |0,_,_,_,e,_=>by simp only[whN] at e;cases e
 |n + 1,ρ,M,o,e,k=>by
  have ek:n + 1 + k=(n + k) + 1:=by omega
  rw[ek]
  unfold whN at e ⊢
  cases ec:c ρ M with
  |bad=>rw[ec] at e;exact e
  |exc x M1=>rw[ec] at e;exact e
  |ok b M1=>
   rw[ec] at e
   cases b with
   |false=>exact e
   |true=>
    cases eg:g ρ M1 with
    |nx ρ2 M2=>simp only[eg] at e ⊢;exact ZcS e k
    |cnt ρ2 M2=>simp only[eg] at e ⊢;exact ZcS e k
    |brk ρ2 M2=>simp only[eg] at e ⊢;exact e
    |ret d M2=>simp only[eg] at e ⊢;exact e
    |exc x M2=>simp only[eg] at e ⊢;exact e
    |bad=>simp only[eg] at e ⊢;exact e
open Classical in
noncomputable def sWh (c:Tv) (g:Sv):Sv:=fun ρ M=>if h: ∃ o n,whN c g n ρ M=some o then Classical.choose h else .bad
theorem ZcC {c:Tv} {g:Sv} {n:Nat} {ρ:Ro} {M:Sto} {o:Fl} (e:whN c g n ρ M=some o):sWh c g ρ M=o:=by
 have hx: ∃ o n,whN c g n ρ M=some o:=⟨o,n,e⟩
 unfold sWh
 rw[dif_pos hx]
 obtain ⟨m,em⟩:=Classical.choose_spec hx
 have h1:=ZcS em n
 have h2:=ZcS e m
 rw[Nat.add_comm] at h2
 rw[h1] at h2
 exact Option.some.inj h2
theorem ZhL {c:Tv} {g:Sv} {ρ:Ro} {M:Sto} (e:sWh c g ρ M≠ .bad): ∃ n,whN c g n ρ M=some (sWh c g ρ M):=by
 by_cases hx: ∃ o n,whN c g n ρ M=some o
 ·obtain ⟨o,n,h⟩:=hx
  exact ⟨n,by rw[ZcC h];exact h⟩
 ·unfold sWh at e
  rw[dif_neg hx] at e
  exact absurd rfl e
theorem ZeC {c:Tv} {g:Sv} {ρ:Ro} {M M1:Sto} (h:c ρ M= .ok false M1):sWh c g ρ M= .nx ρ M1:=ZcC (n:=1) (by simp only[whN,h])
theorem ZfN {c:Tv} {g:Sv} {ρ ρ2:Ro} {M M1 M2:Sto} (h:c ρ M= .ok true M1) (h2:g ρ M1= .nx ρ2 M2) (hb:sWh c g ρ2 M2≠ .bad):sWh c g ρ M=sWh c g ρ2 M2:=by
 obtain ⟨n,e⟩:=ZhL hb
 exact ZcC (n:=n + 1) (by simp only[whN,h,h2];exact e)
theorem ZfO {body:List Stmt} (hp:PassesOwn (model X.prog X.w) X.A X.env X.xe) (hc:DT X ξ c fc) (hb:DSs X ξ body g):DS X ξ (.While c body [] pos) (sWh fc g):=by
 obtain ⟨tc,pc,qc⟩:=hc
 obtain ⟨tb,pb,qb⟩:=hb
 refine ⟨_,ZiQ hp pc pb,fun σ ρ H α M Dn s hh w=> ?_⟩
 have nb:sWh fc g ρ M≠ .bad:=fun z=>by rw[z] at w;exact w
 obtain ⟨n,en⟩:=ZhL nb
 generalize sWh fc g ρ M=o at w en
 refine ⟨fun m σ' H'=> ∃ ρ' α' M',Ext X.K H H' α α'/\SR X.K H' α' σ' ρ'/\HR X.K H' α' M'/\whN fc g m ρ' M'=some o,⟨n,ρ,α,M,Ext.refl,s,hh,en⟩,?_⟩
 rintro m σ1 H1 ⟨ρ1,α1,M1,e1,s1,h1,en1⟩
 cases m with
 |zero=>simp only[whN] at en1;cases en1
 |succ m=>
  refine qc σ1 ρ1 H1 α1 M1 _ s1 h1 ?_
  unfold whN at en1
  cases ec:fc ρ1 M1 with
  |bad=>rw[ec] at en1;cases en1;exact w.elim
  |exc x M2=>
   rw[ec] at en1;cases en1
   exact fun C H' α' nn ex hr=>w C H' α' nn (e1.trans ex) hr
  |ok b M2=>
   rw[ec] at en1
   intro v H2 α2 e2 h2 ev
   cases ev
   cases b with
   |false=>
    cases en1
    exact ZjX (w σ1 H2 α2 (e1.trans e2) h2 (s1.mono e2))
   |true=>
    refine ZjY ⟨fun σ' H'=> ∃ ρ' α' M',Ext X.K H H' α α'/\SR X.K H' α' σ' ρ'/\HR X.K H' α' M'/\whN fc g m ρ' M'=some o,fun σ' H' z=>⟨m,Nat.lt_succ_self m,z⟩,?_⟩
    refine qb σ1 ρ1 H2 α2 M2 _ (s1.mono e2) h2 ?_
    have e12:=e1.trans e2
    cases eg:g ρ1 M2 with
    |nx ρ2 M3=>simp only[eg] at en1;exact fun σ' H' α' ex hr sr=>⟨ρ2,α',M3,e12.trans ex,sr,hr,en1⟩
    |cnt ρ2 M3=>simp only[eg] at en1;exact fun σ' H' α' ex hr sr=>⟨ρ2,α',M3,e12.trans ex,sr,hr,en1⟩
    |brk ρ2 M3=>simp only[eg] at en1;cases en1;exact fun σ' H' α' ex hr sr=>w σ' H' α' (e12.trans ex) hr sr
    |ret d M3=>simp only[eg] at en1;cases en1;exact fun v H' α' ex hr sr=>w v H' α' (e12.trans ex) hr sr
    |exc x M3=>simp only[eg] at en1;cases en1;exact fun C H' α' nn ex hr=>w C H' α' nn (e12.trans ex) hr
    |bad=>simp only[eg] at en1;cases en1;exact w.elim
noncomputable def ZdR (tg:Tg) (g:Sv):List D->Ro->Sto->Fl
 | [],ρ,M=> .nx ρ M
 |d :: r,ρ,M=>match tg d ρ with
  |none=> .bad
  |some ρ1=>(match g ρ1 M with
   | .nx ρ2 M2=>ZdR tg g r ρ2 M2
   | .cnt ρ2 M2=>ZdR tg g r ρ2 M2
   | .brk ρ2 M2=> .nx ρ2 M2
   |o=>o)
noncomputable def ZpA (tg:Tg) (g:Sv) (n:Nat):Nat->Nat->Ro->Sto->Fl
 |f,i,ρ,M=>match M[n]? with
  |some (.lst xs)=>(match xs[i]? with
   |none=> .nx ρ M
   |some d=>(match f with
    |0=> .bad
    |f + 1=>(match tg d ρ with
     |none=> .bad
     |some ρ1=>(match g ρ1 M with
      | .nx ρ2 M2=>ZpA tg g n f (i + 1) ρ2 M2
      | .cnt ρ2 M2=>ZpA tg g n f (i + 1) ρ2 M2
      | .brk ρ2 M2=> .nx ρ2 M2
      |o=>o))))
  |none=> .bad
noncomputable def ZbG (lo:Int) (n:Nat):List D:=(List.range n).map fun (i:Nat)=>D.int (lo + i)
noncomputable def ZmV (tg:Tg) (g:Sv) (d:D) (ρ:Ro) (M:Sto):Fl:=match d with
 | .tup xs=>ZdR tg g xs ρ M
 | .rol xs=>ZdR tg g xs ρ M
 | .ref n=>(match M[n]? with | some (.lst xs)=>ZpA tg g n xs.length 0 ρ M | none=> .bad)
 |_=> .bad
noncomputable def Zri (tg:Tg) (f:Ev) (g:Sv):Sv:=fun ρ M=>Z0 (f ρ M) fun d M1=>ZmV tg g d ρ M1
noncomputable def Zbt (tg:Tg) (fs:Av) (g:Sv):Sv:=fun ρ M=>Z0 (fs ρ M) fun ds M1=>match ds with
 | [.int j]=>if -(2 ^ 62)<=j/\j < 2 ^ 62 then ZdR tg g (ZbG 0 j.toNat) ρ M1 else .bad
 |_=> .bad
noncomputable def ZhM (tg:Tg) (fs:Av) (g:Sv):Sv:=fun ρ M=>Z0 (fs ρ M) fun ds M1=>match ds with
 | [.int i,.int j]=>if -(2 ^ 62)<=i/\i < 2 ^ 62/\ -(2 ^ 62)<=j/\j < 2 ^ 62 then ZdR tg g (ZbG i (j - i).toNat) ρ M1 else .bad
 |_=> .bad
theorem ZfP {lo:Int} {n i:Nat} (h:i < n):(ZbG lo n)[i]?=some (.int (lo + i)):=by
 unfold ZbG
 rw[List.getElem?_map,List.getElem?_range h]
 rfl
theorem ZdS {lo:Int} {n:Nat}:(ZbG lo n).length=n:=by unfold ZbG;rw[List.length_map,List.length_range]
theorem ZhN {lo:Int} {n i:Nat} (h:i < n):(ZbG lo n).drop i= .int (lo + i) :: (ZbG lo n).drop (i + 1):=by
 have hl:i < (ZbG lo n).length:=by rw[ZdS];exact h
 have e:=ZfP (lo:=lo) h
 rw[List.getElem?_eq_getElem hl] at e
 rw[List.drop_eq_getElem_cons hl,Option.some.inj e]
theorem ZmW {tg:Expr} {gt:Tg} {tt:TG} {tb:TS} {Dn:Ends} {H H1:Hp} {α α1:List Addr} {o:Fl} {k:Ro->Sto->Fl} (w:FP X.K H α ξ Dn o)
  (qt: ∀ v d σ ρ H α ρ' Q,SR X.K H α σ ρ->Rep X.K H α v d->gt d ρ=some ρ'->(∀ σ',SR X.K H α σ' ρ'->Q σ' H)->tt v σ H Q) (qb: ∀ σ ρ H α M Dn,SR X.K H α σ ρ->HR X.K H α M->FP X.K H α ξ Dn (g ρ M)->tb Dn σ H)
  {v:V} {d:D} {σ1:L2.St} {ρ1:Ro} {M1:Sto} (e1:Ext X.K H H1 α α1) (s1:SR X.K H1 α1 σ1 ρ1) (h1:HR X.K H1 α1 M1) (r:Rep X.K H1 α1 v d)
  (en:(match gt d ρ1 with | none=>Fl.bad | some ρ2=>(match g ρ2 M1 with | .nx ρ3 M3=>k ρ3 M3 | .cnt ρ3 M3=>k ρ3 M3 | .brk ρ3 M3=> .nx ρ3 M3 | o=>o))=o)
  {N:L2.St->Hp->Prop} (hN: ∀ σ' H',(∃ ρ' α' M',Ext X.K H H' α α'/\SR X.K H' α' σ' ρ'/\HR X.K H' α' M'/\k ρ' M'=o)->N σ' H'):tt v σ1 H1 fun σ2 H2=>tb { Dn with nx:=N,ct:=N,bk:=Dn.nx } σ2 H2:=by
 cases eg:gt d ρ1 with
 |none=>rw[eg] at en;cases en;exact w.elim
 |some ρ2=>
  simp only[eg] at en
  refine qt v d σ1 ρ1 H1 α1 ρ2 _ s1 r eg fun σ2 s2=>qb σ2 ρ2 H1 α1 M1 _ s2 h1 ?_
  cases ex:g ρ2 M1 with
  |nx ρ3 M3=>simp only[ex] at en;exact fun σ' H' α' e2 hr sr=>hN _ _ ⟨ρ3,α',M3,e1.trans e2,sr,hr,en⟩
  |cnt ρ3 M3=>simp only[ex] at en;exact fun σ' H' α' e2 hr sr=>hN _ _ ⟨ρ3,α',M3,e1.trans e2,sr,hr,en⟩
  |brk ρ3 M3=>simp only[ex] at en;cases en;exact fun σ' H' α' e2 hr sr=>w σ' H' α' (e1.trans e2) hr sr
  |ret d M3=>simp only[ex] at en;cases en;exact fun v H' α' e2 hr sr=>w v H' α' (e1.trans e2) hr sr
  |exc x M3=>simp only[ex] at en;cases en;exact fun C H' α' nn e2 hr=>w C H' α' nn (e1.trans e2) hr
  |bad=>simp only[ex] at en;cases en;exact w.elim
theorem ZmX {tg:Expr} {gt:Tg} {tt:TG} {tb:TS} {Dn:Ends} {H:Hp} {α:List Addr} {lo:Int} {n:Nat} {σ:L2.St} {ρ:Ro} {M:Sto}
  (qt: ∀ v d σ ρ H α ρ' Q,SR X.K H α σ ρ->Rep X.K H α v d->gt d ρ=some ρ'->(∀ σ',SR X.K H α σ' ρ'->Q σ' H)->tt v σ H Q) (qb: ∀ σ ρ H α M Dn,SR X.K H α σ ρ->HR X.K H α M->FP X.K H α ξ Dn (g ρ M)->tb Dn σ H)
  (s:SR X.K H α σ ρ) (hh:HR X.K H α M) (w:FP X.K H α ξ Dn (ZdR gt g (ZbG lo n) ρ M)):
  ∃ W:Nat->Nat->L2.St->Hp->Prop,(∃ m,W 0 m σ H)/\ ∀ i m σ H,W i m σ H->
   ((Itr lo n).stop i H/\Dn.nx σ H)\/((Itr lo n).go i H/\ ∃ N:L2.St->Hp->Prop,(∀ σ' H',N σ' H'-> ∃ m',m' < m/\W (i + 1) m' σ' H')/\ ∀ x H',(Itr lo n).yld i H x H'->tt x σ H' fun σ2 H2=>tb { Dn with nx:=N,ct:=N,bk:=Dn.nx } σ2 H2):=by
 generalize ho:ZdR gt g (ZbG lo n) ρ M=o at w
 refine Zhg (fun i σ' H'=> ∃ ρ' α' M',Ext X.K H H' α α'/\SR X.K H' α' σ' ρ'/\HR X.K H' α' M'/\ZdR gt g ((ZbG lo n).drop i) ρ' M'=o) ⟨ρ,α,M,Ext.refl,s,hh,ho⟩ ?_ ?_
 ·rintro i σ1 H1 hi ⟨ρ1,α1,M1,e1,s1,h1,en⟩
  rw[ZhN hi] at en
  exact ZmW (tg:=tg) w qt qb e1 s1 h1 (.int (lo + i)) en (fun σ' H' z=>z)
 ·rintro σ1 H1 ⟨ρ1,α1,M1,e1,s1,h1,en⟩
  rw[List.drop_eq_nil_of_le (by rw[ZdS];exact Nat.le_refl _)] at en
  cases en
  exact w σ1 H1 α1 e1 h1 s1
theorem ZaU {tg a:Expr} {gt:Tg} {fs:Av} {body:List Stmt} {p p2:Pos} (hp:PassesOwn (model X.prog X.w) X.A X.env X.xe) (hm:X.mg "range"=none) (ha:DA X ξ [a] fs) (hg:DG X tg gt) (hb:DSs X ξ body g)
  (hgl:Gl X "range":=by rfl) (hs:starEach [a] X.env=[(false,eval a X.env)]:=by rfl) (hf: ∀ x,foldedSetIterable (.Call (.Name "range" p) [a] [] p2) X.env x=pure x:=by intro _;rfl):DS X ξ (.For tg (.Call (.Name "range" p) [a] [] p2) body [] pos) (Zbt gt fs g):=by
 obtain ⟨ta,pa,qa⟩:=ha
 obtain ⟨tt,pt,qt⟩:=hg
 obtain ⟨tb,pb,qb⟩:=hb
 refine ⟨_,ZjR hp (Zen hgl hm pa hs) pt pb hf,fun σ ρ H α M Dn s hh w=>qa σ ρ H α M _ s hh (FP.seq w fun ds M1 vs H1 α1 e1 h1 r1 w1=> ?_)⟩
 match r1 with
 | .nil=>exact w1.elim
 | .cons r (.cons _ _)=>cases r<;>exact w1.elim
 | .cons r .nil=>
  cases r with
  |int j=>
   by_cases c: -(2 ^ 62)<=j/\j < 2 ^ 62
   ·simp only[if_pos c] at w1
    exact ⟨j,rfl,c.1,c.2,ZmX (tg:=tg) qt qb (s.mono e1) h1 w1⟩
   ·simp only[if_neg c] at w1
    exact w1.elim
  |_=>exact w1.elim
noncomputable def Zsw (K:PySem.W.Frag) (tl:TE):TI:=fun σ H R=>tl σ H fun x H1=> ∃ a,x= .ref a/\(((∃ xs,SqL K H1 a xs)/\R (Itl K a) H1)\/((∃ xs,SqT K H1 a xs)/\R (Itt K a) H1))
theorem ZmY {tg l:Expr} {tl:TE} (hl:PE X l tl):PI X tg l (Zsw X.K tl):=by
 intro pins s σ H R I h
 refine thn (hl pins s σ H _ I h) fun v s1 ⟨x,H1,I1,r1,q1⟩=> ?_
 obtain ⟨a,e,q⟩:=q1
 subst e
 cases r1
 have fp: ∀ b∈[s1.heap.objs.size],Zem X pins H1 b:=fun b hb=>by
  have e:b=s1.heap.objs.size:=by simpa using hb
  subst e
  exact I1.fpOk (Nat.le_refl _) (I1.hok.fresh (Nat.le_refl _))
 rcases q with ⟨⟨xs,hq⟩,q⟩ | ⟨⟨xs,hq⟩,q⟩
 ·obtain ⟨its,rv,p,hz⟩:=I1.list hq
  refine wpAny_pyIter_list p.isList ?_
  exact ⟨s1.heap.objs.size,[s1.heap.objs.size],_,_,H1,rfl,I1.kept (t':=s1.toks) fun b o e=>Heap.get?_push_of_some _ e,Zhe a _,⟨_,Heap.get?_push_size _ rfl,rfl,rfl⟩,fp,q⟩
 ·obtain ⟨its,rv,p,hz⟩:=I1.tuple hq
  refine wpAny_pyIter_tuple (show s1.heap.IsTuple a its.toArray from p) ?_
  exact ⟨s1.heap.objs.size,[s1.heap.objs.size],_,_,H1,rfl,I1.kept (t':=s1.toks) fun b o e=>Heap.get?_push_of_some _ e,Zgh a _,⟨_,Heap.get?_push_size _ rfl,rfl,rfl⟩,fp,q⟩
end
noncomputable def fnF (g:Sv) (n k:Nat):List D->Sto->Out D:=fun ds M=>if ds.length=n then (match g (ds.map some ++ List.replicate k none) M with
 | .ret d M'=> .ok d M'
 | .nx _ M'=> .ok .non M'
 | .exc c M'=> .exc c M'
 |_=> .bad) else .bad
noncomputable def spD (K:PySem.W.Frag) (F:List D->Sto->Out D):Sp:=fun vs H Q E=> ∃ ds α M,Reps K H α vs ds/\HR K H α M/\OP K H α E Q (F ds M)
theorem ZeD: ∀ {ds:List D} {k i:Nat} {d:D},(ds.map some ++ List.replicate k none)[i]?=some (some d)->ds[i]?=some d
 | [],k,i,d,h=>by
  rw[List.map_nil,List.nil_append] at h
  have:=List.mem_of_getElem? h
  rw[List.mem_replicate] at this
  cases this.2
 |x :: r,k,0,d,h=>by simpa using h
 |x :: r,k,i + 1,d,h=>by
  rw[List.map_cons,List.cons_append,List.getElem?_cons_succ] at h
  rw[List.getElem?_cons_succ]
  exact ZeD h
theorem SR.start {K:PySem.W.Frag} {H:Hp} {α:List Addr} {N:List Str} {vs:List V} {ds:List D} {k:Nat} (r:Reps K H α vs ds) (hk:k=N.length - ds.length):SR K H α (start N vs) (ds.map some ++ List.replicate k none):=by
 unfold L2.start
 refine ⟨by simp only[List.length_append,List.length_map,List.length_replicate,r.length,hk],fun i d h=> ?_⟩
 obtain ⟨v,h1,h2⟩:=r.get (ZeD h)
 refine ⟨v,?_,h2⟩
 have hl:i < vs.length:=(List.getElem?_eq_some_iff.mp h1).1
 rw[List.getElem?_append_left (by rw[List.length_map];exact hl),List.getElem?_map,h1]
 rfl
section
variable {P:Program} {w:World} {K:PySem.W.Frag} {mg:Str->Option Value} {base:Heap}
theorem Z5 {x qual:Str} {st:Stmt} {f:Addr} {fd:FuncData} {N ps:List Str} {k n m:Nat} {g:Sv} (F:Fun K x qual st f fd) (S:FnScope N ps (Zg st)) (hn:n=ps.length) (hm:m=N.length - n)
  (hb: ∀ (cdv:Value) (A:Around) (outer:List Env) (s:Shared) (H:Hp) (E:XK),Room k (A.deeper (envOfC qual (Zg st) s.heap.objs.size f cdv))->Thr (ZiU (CXE P w) P w K mg base N qual (Zg st) f cdv A outer s H E) E->DSs (ZiU (CXE P w) P w K mg base N qual (Zg st) f cdv A outer s H E) E (Zq st) g):
  FnOk P w K mg base (CXE P w) (k + 1) f fd ps (spD K (fnF g n m)):=by
 obtain ⟨oc,od,kV,doc,pm,an,cdv,ct,osl,rfl,lk,hcd⟩:=F.ex
 refine Zmx lk hcd S (fun vs H Q E h=> ?_) (fun A outer s H vs Q E hr h=> ?_)
 ·obtain ⟨ds,α,M,r,_,q⟩:=h
  by_cases c:ds.length=n
  ·rw[r.length,c,hn]
  ·simp only[fnF,if_neg c] at q
   exact q.elim
 ·obtain ⟨ds,α,M,r,hh,q⟩:=h
  obtain ⟨t,p,w'⟩:=hb cdv A outer s H E hr ZmU
  by_cases c:ds.length=n
  ·simp only[fnF,if_pos c] at q
   refine ⟨t,p,w' _ _ H α M _ (SR.start (N:=N) r (k:=m) (by rw[hm,c])) hh ?_⟩
   cases e:g (ds.map some ++ List.replicate m none) M with
   |nx ρ' M'=>simp only[e] at q;exact fun σ' H' α' ex hr sr=>q _ H' α' ex hr .non
   |ret d M'=>simp only[e] at q;exact q
   |exc x M'=>simp only[e] at q;exact q
   |brk ρ' M'=>simp only[e] at q;exact q.elim
   |cnt ρ' M'=>simp only[e] at q;exact q.elim
   |bad=>simp only[e] at q;exact q.elim
  ·simp only[fnF,if_neg c] at q
   exact q.elim
end
section
variable {X:Cx} {ξ:XK} {k:Nat} {f:Addr} {fd:FuncData} {ps:List Str} {F:List D->Sto->Out D} {x:Str} {p pos:Pos} {e:Expr} {es:List Expr} {fs:Av}
theorem ZkZ (G:FnOk X.prog X.w X.K X.mg X.base (CXE X.prog X.w) k f fd ps (spD X.K F)) (T:Thr X ξ) (hr:Room k X.A) (hm:X.mg x=some (.ref f)) (hk:PySem.W.keepIn X.K (.ref f)=true) (hb:ZdK X.K fd ps []) (ha:DA X ξ (e :: es) fs) (hg:Gl X x:=by rfl)
  (hdb:(x == ("__debug__":Str))=false:=by decide) (he:starEach (e :: es) X.env=(false,eval e X.env) :: starEach es X.env:=by rfl) (hpl:(backTo pos (starEach es X.env)).any (·.1)=false:=by rfl):DE X ξ (.Call (.Name x p) (e :: es) [] pos) (Zk F fs):=by
 obtain ⟨t,pa,qa⟩:=ha
 refine ⟨_,ZkM G hr hg hm hk hb .nil T.ps pa hdb he hpl,fun σ ρ H α M Q s hh q=>qa σ ρ H α M _ s hh (OG.seq q fun ds M1 vs H1 α1 e1 h1 r1 q1=> ?_)⟩
 rw[List.append_nil]
 exact ⟨ds,α1,M1,r1,h1,q1⟩
end
end DL
end
section
namespace DL
open PySem PySem.Spec PyProof.Rows L2
theorem Zc6:bootBuiltins "abs"=some (.builtin "abs"):=by decide +kernel
theorem ZfQ:bootBuiltins "int"=some (.type "int"):=by decide +kernel
theorem ZhO:bootBuiltins "bool"=some (.type "bool"):=by decide +kernel
theorem ZmZ:bootBuiltins "str"=some (.type "str"):=by decide +kernel
theorem Zc7:bootBuiltins "list"=some (.type "list"):=by decide +kernel
theorem ZdT:bootBuiltins "tuple"=some (.type "tuple"):=by decide +kernel
theorem Zm0:bootBuiltins "max"=some (.builtin "max"):=by decide +kernel
theorem Zm1:bootBuiltins "min"=some (.builtin "min"):=by decide +kernel
theorem Zm2:bootBuiltins "all"=some (.builtin "all"):=by decide +kernel
noncomputable def Cal (P:Program) (w:World) (K:PySem.W.Frag) (mg:Str->Option Value) (base:Heap) (x:Str) (k n:Nat) (F:List D->Sto->Out D):Prop:=
 ∃ (f:Addr) (fd:FuncData) (ps:List Str),FnOk P w K mg base (CXE P w) k f fd ps (spD K F)/\mg x=some (.ref f)/\PySem.W.keepIn K (.ref f)=true/\ps.length=n/\ZdK K fd ps []
theorem Zi {X:Cx} {ξ:XK} {k n:Nat} {F:List D->Sto->Out D} {x:Str} {p pos:Pos} {e:Expr} {es:List Expr} {fs:Av} (C:Cal X.prog X.w X.K X.mg X.base x k n F) (T:Thr X ξ) (hr:Room k X.A) (ha:DA X ξ (e :: es) fs) (hg:Gl X x:=by rfl)
  (hdb:(x == ("__debug__":Str))=false:=by decide) (he:starEach (e :: es) X.env=(false,eval e X.env) :: starEach es X.env:=by rfl) (hpl:(backTo pos (starEach es X.env)).any (·.1)=false:=by rfl):DE X ξ (.Call (.Name x p) (e :: es) [] pos) (Zk F fs):=by
 obtain ⟨f,fd,ps,G,hm,hk,_,hb⟩:=C
 exact ZkZ G T hr hm hk hb ha hg hdb he hpl
theorem Zm3 {K:PySem.W.Frag} {H:Hp} {a:Addr} {ns:List Int} {n:Nat} {F:List D->Sto->Out D} (hl:ns.length<=n) (hO:Zo9 H) (hS:SqL K H a (ns.map V.int)) (h: ∃ M',F [.rol (ns.map D.int)] []= .ok (.bl true) M'):
  spD K F [.ref a] H (fun v _=>v= .bl true) (fun _ _ _=>False):=by
 obtain ⟨M',e⟩:=h
 have hF:SqF K H a (ns.map V.int):=by
  rcases hS with (h | ⟨o,h⟩) | h
  ·rcases hO a with z | ⟨o,xs,z⟩
   ·rw[h] at z;cases z
   ·rw[h] at z;cases z
  ·exact .inl ⟨o,h⟩
  ·exact .inr h
 refine ⟨[.rol (ns.map D.int)],[],[],.cons (.rol hF (Reps.ints ns)) .nil,HR.nil,?_⟩
 rw[e]
 intro v H' α' _ _ r
 cases r
 rfl
end DL
end
section
namespace DL
open PySem PySem.Spec PyProof.Rows L2
inductive Src where
 |pur (ds:List D)
 |sto (n:Nat)
 |zip (n m:Nat)
 |enu (n:Nat)
 |rev (n l:Nat)
 |zips (ns:List Nat)
 |dct (n:Nat)
noncomputable def ZhP (M:Sto) (i:Nat):List Nat->Option (Option (List D))
 | []=>some (some [])
 |n :: ns=>match M[n]? with
  |none=>none
  |some (.lst xs)=>match ZhP M i ns with
   |none=>none
   |some r=>match xs[i]?,r with | some x,some ds=>some (some (x :: ds)) | _,_=>some none
noncomputable def nxt (src:Src) (i:Nat) (M:Sto):Option (Option D):=match src with
 | .pur ds=>some ds[i]?
 | .sto n=>match M[n]? with | some (.lst xs)=>some xs[i]? | none=>none
 | .zip n m=>match M[n]?,M[m]? with
  |some (.lst xs),some (.lst ys)=>(match xs[i]?,ys[i]? with | some x,some y=>some (some (.tup [x,y])) | _,_=>some none)
  |_,_=>none
 | .enu n=>match M[n]? with | some (.lst xs)=>(match xs[i]? with | some x=>some (some (.tup [.int i,x])) | none=>some none) | none=>none
 | .dct n=>match M[n]? with | some (.lst (.non :: r))=>(match r[i]? with | some (.tup (k :: _))=>some (some k) | some _=>none | none=>some none) | _=>none
 | .zips ns=>match ZhP M i ns with | some (some ds)=>some (some (.tup ds)) | some none=>some none | none=>none
 | .rev n l=>match M[n]? with | some (.lst xs)=>if i < l then (match xs[l - 1 - i]? with | some x=>some (some x) | none=>none) else (if i=l then some none else none) | none=>none
noncomputable def cnt (src:Src) (M:Sto):Nat:=match src with
 | .pur ds=>ds.length
 | .sto n=>match M[n]? with | some (.lst xs)=>xs.length | none=>0
 | .zip n _=>match M[n]? with | some (.lst xs)=>xs.length | none=>0
 | .enu n=>match M[n]? with | some (.lst xs)=>xs.length | none=>0
 | .rev _ l=>l
 | .dct n=>match M[n]? with | some (.lst xs)=>xs.length | none=>0
 | .zips ns=>match ns with | n :: _=>(match M[n]? with | some (.lst xs)=>xs.length | none=>0) | []=>0
noncomputable def Ats (H:Hp) (α:List Addr):List Nat->List Addr->Prop
 | [],[]=>True
 |n :: ns,l :: ls=>RefK H α 0 n l/\Ats H α ns ls
 |_,_=>False
noncomputable def Zm4 (K:PySem.W.Frag) (H:Hp) (α:List Addr) (J:It) (src:Src):Prop:= ∀ (i:Nat) H' α' M',Ext K H H' α α'->HR K H' α' M'->match nxt src i M' with
 |some none=>J.stop i H'
 |some (some d)=>J.go i H'/\ ∀ x H'',J.yld i H' x H''->Ext K H' H'' α' α'/\HR K H'' α' M'/\Rep K H'' α' x d
 |none=>True
noncomputable def DI (X:Cx) (ξ:XK) (tg iter:Expr) (f:Ro->Sto->Out Src):Prop:= ∃ wi:TI,PI X tg iter wi/\ ∀ σ ρ H α M R,SR X.K H α σ ρ->HR X.K H α M->OG X.K (Zm4 X.K) H α ξ R (f ρ M)->wi σ H R
section
variable {X:Cx} {ξ:XK} {tg iter a b:Expr} {fs:Av} {f:Ev} {p pos:Pos}
noncomputable def iR1 (fs:Av):Ro->Sto->Out Src:=fun ρ M=>(fs ρ M).bind fun ds M1=>match ds with
 | [.int j]=>if -(2 ^ 62)<=j/\j < 2 ^ 62 then .ok (.pur (ZbG 0 j.toNat)) M1 else .bad
 |_=> .bad
theorem Zgr {K:PySem.W.Frag} {H:Hp} {α:List Addr} {lo:Int} {n:Nat}:Zm4 K H α (Itr lo n) (.pur (ZbG lo n)):=by
 intro i H' α' M' ex hr
 show match some (ZbG lo n)[i]? with | some none=>_ | some (some d)=>_ | none=>True
 by_cases h:i < n
 ·rw[ZfP h]
  refine ⟨h,fun x H'' y=> ?_⟩
  obtain ⟨e1,e2⟩:=y
  subst e1 e2
  exact ⟨Ext.refl,hr,.int _⟩
 ·rw[List.getElem?_eq_none (by rw[ZdS];omega)]
  exact Nat.le_of_not_lt h
theorem ZhQ (hm:X.mg "range"=none) (ha:DA X ξ [a] fs) (hgl:Gl X "range":=by rfl) (hs:starEach [a] X.env=[(false,eval a X.env)]:=by rfl):DI X ξ tg (.Call (.Name "range" p) [a] [] pos) (iR1 fs):=by
 obtain ⟨ta,pa,qa⟩:=ha
 refine ⟨_,Zen hgl hm pa hs,fun σ ρ H α M R s hh q=>qa σ ρ H α M _ s hh (OG.seq q fun ds M1 vs H1 α1 e1 h1 r1 w1=> ?_)⟩
 match r1 with
 | .nil=>exact w1.elim
 | .cons r (.cons _ _)=>cases r<;>exact w1.elim
 | .cons r .nil=>
  cases r with
  |int j=>
   by_cases c: -(2 ^ 62)<=j/\j < 2 ^ 62
   ·simp only[if_pos c] at w1
    exact ⟨j,rfl,c.1,c.2,w1 _ H1 α1 Ext.refl h1 Zgr⟩
   ·simp only[if_neg c] at w1
    exact w1.elim
  |_=>exact w1.elim
noncomputable def iSq (f:Ev):Ro->Sto->Out Src:=fun ρ M=>(f ρ M).bind fun d M1=>match d with
 | .tup ds=> .ok (.pur ds) M1
 | .rol ds=> .ok (.pur ds) M1
 | .con ds=> .ok (.pur ds) M1
 | .ref n=> .ok (.sto n) M1
 |_=> .bad
theorem Zj6 (ha:DE X ξ a f):DI X ξ tg a (iSq f):=by
 obtain ⟨ta,pa,qa⟩:=ha
 refine ⟨_,ZmY pa,fun σ ρ H α M R s hh q=>qa σ ρ H α M _ s hh (OG.seq q fun d M1 v H1 α1 e1 h1 r1 w1=> ?_)⟩
 cases r1 with
 | @tup p xs ds hp rp=>
  refine ⟨p,rfl,.inr ⟨⟨xs,(SqT.of hp)⟩,w1 (Itt X.K p) H1 α1 Ext.refl h1 ?_⟩⟩
  intro i H' α' M' ex hr
  show match some ds[i]? with | some none=>_ | some (some d)=>_ | none=>True
  cases ei:ds[i]? with
  |none=>exact ⟨xs,SqT.of (ex.tup _ _ hp),by rw[rp.length];exact List.getElem?_eq_none_iff.mp ei⟩
  |some d=>
   obtain ⟨v,k1,k2⟩:=rp.get ei
   refine ⟨⟨xs,v,SqT.of (ex.tup _ _ hp),k1⟩,fun x H'' y=> ?_⟩
   obtain ⟨ey,y⟩:=y
   have z:=y xs (SqT.of (ex.tup _ _ hp))
   rw[k1] at z
   cases z
   subst ey
   exact ⟨Ext.refl,hr,Rep.mono ex k2⟩
 | @con p xs ds hp rp=>
  refine ⟨p,rfl,.inr ⟨⟨xs,hp.sq⟩,w1 (Itt X.K p) H1 α1 Ext.refl h1 ?_⟩⟩
  intro i H' α' M' ex hr
  show match some ds[i]? with | some none=>_ | some (some d)=>_ | none=>True
  cases ei:ds[i]? with
  |none=>exact ⟨xs,hp.sq,by rw[rp.length];exact List.getElem?_eq_none_iff.mp ei⟩
  |some d=>
   obtain ⟨v,k1,k2⟩:=rp.get ei
   refine ⟨⟨xs,v,hp.sq,k1⟩,fun x H'' y=> ?_⟩
   obtain ⟨ey,y⟩:=y
   have z:=y xs hp.sq
   rw[k1] at z
   cases z
   subst ey
   exact ⟨Ext.refl,hr,Rep.mono ex k2⟩
 | @rol p xs ds hp rp=>
  refine ⟨p,rfl,.inl ⟨⟨xs,hp.sq⟩,w1 (Itl X.K p) H1 α1 Ext.refl h1 ?_⟩⟩
  intro i H' α' M' ex hr
  show match some ds[i]? with | some none=>_ | some (some d)=>_ | none=>True
  have hq:=(ex.rol _ _ hp).sq
  cases ei:ds[i]? with
  |none=>exact ⟨xs,hq,by rw[rp.length];exact List.getElem?_eq_none_iff.mp ei⟩
  |some d=>
   obtain ⟨v,k1,k2⟩:=rp.get ei
   refine ⟨⟨xs,v,hq,k1⟩,fun x H'' y=> ?_⟩
   obtain ⟨ey,y⟩:=y
   have z:=y xs hq
   rw[k1] at z
   cases z
   subst ey
   exact ⟨Ext.refl,hr,Rep.mono ex k2⟩
 | @ref p n hp=>
  obtain ⟨xs0,g0⟩:=h1.some_at hp
  refine ⟨p,rfl,.inl ⟨⟨xs0,SqL.of g0⟩,w1 (Itl X.K p) H1 α1 Ext.refl h1 ?_⟩⟩
  intro i H' α' M' ex hr
  show match (match M'[n]? with | some (.lst xs)=>some xs[i]? | none=>none) with | some none=>_ | some (some d)=>_ | none=>True
  cases em:M'[n]? with
  |none=>exact True.intro
  |some so=>
   cases so with
   |lst ds=>
    obtain ⟨xs,g1,g2⟩:=hr.at (ex.get hp) em
    show match some ds[i]? with | some none=>_ | some (some d)=>_ | none=>True
    cases ei:ds[i]? with
    |none=>exact ⟨xs,SqL.of g1,by rw[g2.length];exact List.getElem?_eq_none_iff.mp ei⟩
    |some d=>
     obtain ⟨v,k1,k2⟩:=g2.get ei
     refine ⟨⟨xs,v,SqL.of g1,k1⟩,fun x H'' y=> ?_⟩
     obtain ⟨ey,y⟩:=y
     have z:=y xs (SqL.of g1)
     rw[k1] at z
     cases z
     subst ey
     exact ⟨Ext.refl,hr,k2⟩
 |_=>exact w1.elim
end
noncomputable def blk (X:Cx) (scope:Scope) (cl:List (Str × Addr)) (N:List Str) (C:Addr) (fp:List Addr) (s:Shared) (H:Hp):Cx:=
 { X with N:=N,s₀:=s,H₀:=H,env:=compEnvC scope cl C X.env,outer:=X.stack,stack:=X.stack,ex:=fp,fn:=fun _=>false,pn:=[],xe:=fun _ _=>False,fxs:=none }
theorem ZdU {X:Cx} {scope:Scope} {cl:List (Str × Addr)} {N:List Str} {C:Addr} {fp:List Addr} {s:Shared} {H:Hp}:Thr (blk X scope cl N C fp s H) E0:=
 ⟨PassesOwn.never,fun _ _ _ _ _ _ _ ⟨_,_,_,_,_,_,_,_,_,_,_,_,_,q⟩=>q,fun _ _ _ _ _ _ _ _ _ _ _ _ _ _ _ _ _ _ _ _ _ _ q=>q⟩
noncomputable def ZcD (src:Src) (tg:Tg) (c:Tv) (f:Ev) (n:Nat):Nat->Nat->Ro->Sto->Out Unit
 |fuel,i,ρ,M=>match nxt src i M with
  |none=> .bad
  |some none=> .ok () M
  |some (some d)=>(match fuel with
   |0=> .bad
   |fuel + 1=>(match tg d ρ with
    |none=> .bad
    |some ρ1=>(match c ρ1 M with
     | .ok true M1=>(match f ρ1 M1 with
      | .ok x M2=>(match M2[n]? with
       |some (.lst xs)=>if xs.length < 10000000 then ZcD src tg c f n fuel (i + 1) ρ1 (M2.set n (.lst (xs ++ [x]))) else .bad
       |none=> .bad)
      |_=> .bad)
     | .ok false M1=>ZcD src tg c f n fuel (i + 1) ρ1 M1
     |_=> .bad)))
noncomputable def roB (k:Nat) (fr:List Nat) (ρ:Ro):Ro:=List.replicate k none ++ fr.map fun i=>(ρ[i]?).join
noncomputable def ZbN (fi:Ro->Sto->Out Src) (k:Nat) (fr:List Nat) (tg:Tg) (c:Tv) (f:Ev):Ev:=fun ρ M=>(fi ρ M).bind fun src M1=>match ZcD src tg c f M1.length (cnt src M1) 0 (roB k fr ρ) (M1 ++ [.lst []]) with
 | .ok _ M2=> .ok (.ref M1.length) M2
 |_=> .bad
structure Blk (X:Cx) (scope:Scope) (cl:List (Str × Addr)) (N:List Str) (k:Nat) (fr:List Nat):Prop where
 clos:closureFor scope X.env=pure cl
 kind:scope.kind= .function
 cell: ∀ y∈scope.names,y.2≠ .cell
 names: ∀ y∈scope.names,y.2= .local->scope.names.lookup y.1=some .local
 sub: ∀ x c,cl.lookup x=some c->X.env.cells.lookup x=some c
 has: ∀ x,((relabel scope X.env).names.lookup x=some .cell\/(relabel scope X.env).names.lookup x=some .free)-> ∃ c,cl.lookup x=some c
 len:N.length=k + fr.length
 at_: ∀ (j i:Nat),fr[j]?=some i-> ∃ x,N[k + j]?=some x/\X.N[i]?=some x/\X.env.kindOf x=some .cell/\((relabel scope X.env).names.lookup x=some .cell\/(relabel scope X.env).names.lookup x=some .free)/\cl.lookup x=X.env.cells.lookup x
theorem ZeE {prog:Program} {w:World} {A:Around} {R:Result->Shared->Prop} {s:Shared} {elt target iter:Expr} {ifs:List Expr} {scope:Scope} {pos:Pos} {it acc:Value} {env:Env} (I:Nat->Shared->Prop)
  (turn: ∀ n s,I n s->wpAny (model prog w) A (pyNext it) (fun r s₁=>match r with
   |none=>R (.ok .next) s₁
   |some v=>wpAny (model prog w) A (letOwnedTupleGo target it v) (fun _ s₁=>wpAny (model prog w) A (assign target env v) (fun _ s₂=>
     wpAny (model prog w) A (forIn ifs true fun c r=>if r=true then do let ok <- isTrue c env (eval c env);pure (ForInStep.yield ok) else pure (ForInStep.yield r)) (fun ok s₃=>
      if ok=true then wpAny (model prog w) A (eval elt env) (fun x s₄=>
       wpAny (model prog w) A (call (.builtin "list.append") [acc,x]) (fun _ s₅=> ∃ m,m < n/\I m s₅) (fun _ _=>False) s₄) (fun _ _=>False) s₃
      else ∃ m,m < n/\I m s₃) (fun _ _=>False) s₂) (fun _ _=>False) s₁) (fun _ _=>False) s₁) (fun _ _=>False) s)
  (n:Nat) (h:I n s):
  codeAny (model prog w) A (.compLoop (.ListComp elt [⟨target,iter,ifs,0⟩] scope pos) 0 it acc env) R s:=by
 refine codeAny_loop rfl I (fun n s hI=> ?_) n h
 show wpAny _ A ((compTurn (.ListComp elt [⟨target,iter,ifs,0⟩] scope pos) 0 it acc env).onRaise (fun x=>do noteFrame x env;theTreesLotGoes x)) _ _ s
 refine wpAny_noted ?_
 rw[compTurn_list]
 refine wpAny_bind (wpAny_standAt (wpAny_bind (wpAny_mono (turn n s hI) (fun r s₁ h₁=> ?_) fun _ _ h'=>h'.elim)))
 cases r with
 |none=>exact wpAny_pure h₁
 |some v=>
  refine wpAny_bind (wpAny_mono h₁ (fun _ s₁ h₁=> ?_) fun _ _ h'=>h'.elim)
  refine wpAny_bind (wpAny_mono h₁ (fun _ s₂ h₂=>wpAny_bind (wpAny_mono h₂ (fun ok s₃ h₃=> ?_) fun _ _ h'=>h'.elim)) fun _ _ h'=>h'.elim)
  cases ok with
  |false=>exact wpAny_pure ⟨rfl,h₃⟩
  |true=>
   exact wpAny_bind (wpAny_bind (wpAny_mono h₃ (fun x s₄ h₄=>wpAny_bind (wpAny_mono h₄ (fun _ s₅ h₅=>wpAny_pure (wpAny_pure ⟨rfl,h₅⟩)) fun _ _ h'=>h'.elim)) fun _ _ h'=>h'.elim))
noncomputable def DC (X:Cx) (ifs:List Expr) (c:Tv):Prop:=(ifs=[]/\c=fun _ M=> .ok true M)\/ ∃ e,ifs=[e]/\DT X E0 e c
section
variable {X:Cx} {ξ:XK} {tg iter elt:Expr} {ifs:List Expr} {scope:Scope} {cl:List (Str × Addr)} {N:List Str} {k:Nat} {fr:List Nat} {fi:Ro->Sto->Out Src} {gt:Tg} {c:Tv} {f:Ev} {pos:Pos}
theorem ZhR (B:Blk X scope cl N k fr) {pins:List (Addr × Obj)} {σ:L2.St} {H:Hp} {s:Shared} {fp:List Addr} (I:Inv X pins σ H s) (hf: ∀ b∈fp,Zem X pins H b) (hlt: ∀ b∈fp,b < s.heap.objs.size):(blk X scope cl N s.heap.objs.size fp s H).Ok where
 mod:=I.ok.mod
 kind:=B.kind
 glob:=I.ok.glob
 blt:=I.ok.blt
 above:=Nat.le_refl _
 inj:=fun x y c h1 h2=>I.ok.inj x y c (B.sub x c h1) (B.sub y c h2)
 has:=fun x h=>B.has x h
 cab:=fun x c h=>(by cases h)
 hd:=I.ok.hd
 frames:=I.ok.frames
 stk:= .inl rfl
 exf:=fun b hb=>⟨Nat.ne_of_lt (hlt b hb),fun x c h=>(hf b hb).2.2.2.2.1 x c (B.sub x c h)⟩
 bs:=I.bs
 bsz:=Nat.le_trans I.ok.bsz I.sz
 noex:=fun b o e hb=>by
  rcases (hf b hb).2.2.2.1 with z | z
  ·exact I.ok.noex b o e z
  ·exact absurd (Nat.lt_of_lt_of_le (Heap.lt_size (I.ok.bs b o e).1) z) (Nat.lt_irrefl _)
 exfs:=fun b hb z=>by
  rcases List.mem_cons.mp (I.stkSub b z) with e | e
  ·exact (hf b hb).2.1 e
  ·exact (hf b hb).2.2.1 e
 funs:=I.stack
 frf:=I.stkFree
theorem join_some {α:Type} {o:Option (Option α)} {v:α} (h:o.join=some v):o=some (some v):=by
 cases o with
 |none=>cases h
 |some x=>cases x with
  |none=>cases h
  |some y=>cases h;rfl
theorem Zk0 {ρ:Ro} {i:Nat} {d:D} (h:(roB k fr ρ)[i]?=some (some d)): ∃ j r,i=k + j/\fr[j]?=some r/\ρ[r]?=some (some d):=by
 unfold roB at h
 by_cases hi:i < k
 ·rw[List.getElem?_append_left (by rw[List.length_replicate];exact hi)] at h
  have:=List.mem_of_getElem? h
  rw[List.mem_replicate] at this
  cases this.2
 ·rw[List.getElem?_append_right (by rw[List.length_replicate];omega),List.length_replicate,List.getElem?_map] at h
  cases e:fr[i - k]? with
  |none=>rw[e] at h;cases h
  |some r=>
   rw[e] at h
   exact ⟨i - k,r,by omega,e,join_some (Option.some.inj h)⟩
noncomputable def stB (k:Nat) (fr:List Nat) (σ:L2.St):L2.St:=List.replicate k none ++ fr.map fun i=>(σ[i]?).join
theorem Zk1 {σ:L2.St} {i:Nat} {d:V} (h:(stB k fr σ)[i]?=some (some d)): ∃ j r,i=k + j/\fr[j]?=some r/\σ[r]?=some (some d):=by
 unfold stB at h
 by_cases hi:i < k
 ·rw[List.getElem?_append_left (by rw[List.length_replicate];exact hi)] at h
  have:=List.mem_of_getElem? h
  rw[List.mem_replicate] at this
  cases this.2
 ·rw[List.getElem?_append_right (by rw[List.length_replicate];omega),List.length_replicate,List.getElem?_map] at h
  cases e:fr[i - k]? with
  |none=>rw[e] at h;cases h
  |some r=>
   rw[e] at h
   exact ⟨i - k,r,by omega,e,join_some (Option.some.inj h)⟩
theorem SR.blk {K:PySem.W.Frag} {H:Hp} {α:List Addr} {σ:L2.St} {ρ:Ro} (h:SR K H α σ ρ):SR K H α (stB k fr σ) (roB k fr ρ):=by
 refine ⟨by simp[stB,roB],fun i d e=> ?_⟩
 obtain ⟨j,r,rfl,e1,e2⟩:=Zk0 e
 obtain ⟨v,e3,e4⟩:=h.2 r d e2
 refine ⟨v,?_,e4⟩
 unfold stB
 rw[List.getElem?_append_right (by rw[List.length_replicate];omega),List.length_replicate,List.getElem?_map,Nat.add_sub_cancel_left,e1]
 show some (σ[r]?).join=_
 rw[e3]
 rfl
theorem ZhS (B:Blk X scope cl N k fr) {pins:List (Addr × Obj)} {σ:L2.St} {H:Hp} {s:Shared} {fp:List Addr} {h1:Heap} {tk:Nat} {m:Str->Option Value} (I:Inv X pins σ H s) (hf: ∀ b∈fp,Zem X pins H b) (hlt: ∀ b∈fp,b < s.heap.objs.size)
  (hn:h1.Ns s.heap.objs.size m) (hk: ∀ b o,s.heap.get? b=some o->h1.get? b=some o):Inv (blk X scope cl N s.heap.objs.size fp s H) [] (stB k fr σ) H { s with heap:=h1,toks:=tk } where
 ok:=ZhR B I hf hlt
 os:=rfl
 bare:=I.bare
 base:=Un.kept hk
 loc:=by
  refine ⟨m,hn,fun i x v e1 e2 e3=> ?_⟩
  obtain ⟨j,r,rfl,g1,g2⟩:=Zk1 e2
  obtain ⟨y,k1,k2,k3,k4,k5⟩:=B.at_ j r g1
  have exy:x=y:=Option.some.inj (e1.symm.trans k1)
  subst exy
  obtain ⟨m0,hm0,hl⟩:=I.loc
  obtain ⟨u,ru,lk⟩:=hl r x v k2 g2 (.inr (.inl k3))
  refine ⟨u,ru,?_⟩
  rcases lk with ⟨z,_⟩ | ⟨_,c,z1,⟨o,z2,z3⟩⟩
  ·rw[k3] at z;cases z
  ·exact .inr ⟨k4,c,k5.trans z1,⟨o,hk _ _ z2,z3⟩⟩
 cell:=fun x c h=>by
  obtain ⟨v,o,e1,e2⟩:=I.cell x c (B.sub x c h)
  exact ⟨v,o,hk _ _ e1,e2⟩
 free:=I.fresh
 freeC:=fun x c h=>I.freeC x c (B.sub x c h)
 pin:=fun p hp=>(by simp[blk] at hp)
 hok:=I.hok.kept hk
 len:=by
  show (stB k fr σ).length=N.length
  rw[B.len]
  simp[stB]
 qd:=I.qd
 fx:= .free rfl
theorem ZfR {pins:List (Addr × Obj)} {σ σ5:L2.St} {H3 H5:Hp} {s3 s6:Shared} {fp:List Addr} (B:Blk X scope cl N k fr) (I3:Inv X pins σ H3 s3) (f3: ∀ b∈fp,Zem X pins H3 b) (I6:Inv (blk X scope cl N s3.heap.objs.size fp s3 H3) [] σ5 H5 s6):Inv X pins σ H5 s6/\ ∀ (σ':L2.St) (s8:Shared) (h':Heap),Inv X pins σ' H5 s8->(∀ b o,b≠s3.heap.objs.size->s8.heap.get? b=some o->h'.get? b=some o)->Inv X pins σ' H5 { s8 with heap:=h',toks:=s8.toks }:=by
 refine ⟨I3.call' (s':=s6) (ch:=fp) I6.os I6.base I6.hok I6.bare fun b hb=> ?_,fun σ' s8 h' I8 sb=> ?_⟩
 ·obtain ⟨_,z1,z2,z3,z4,z5⟩:=f3 b hb
  exact ⟨z3,z1,z4,z5⟩
 ·exact I8.turned (it:=s3.heap.objs.size) sb I6.free (Nat.ne_of_gt I3.lt) (.inr I3.sz)
   (fun x c h z=>by
    obtain ⟨v,o,e,_⟩:=I3.cell x c h
    exact absurd (Heap.lt_size e) (by rw[z];exact Nat.lt_irrefl _)) (fun p hp z=>by
    have:=(I3.pin p hp).1
    exact absurd (Heap.lt_size this) (by rw[z];exact Nat.lt_irrefl _))
noncomputable def CmI (Y:Cx) (fp:List Addr) (tn:Nat->Heap->Prop) (H3:Hp) (α3:List Addr) (g:Nat->Nat->Ro->Sto->Prop) (n:Nat) (s':Shared):Prop:=
 ∃ i σ' ρ' H' α' M',Inv Y [] σ' H' s'/\tn i s'.heap/\(∀ b∈fp,H' b=none)/\SR Y.K H' α' σ' ρ'/\HR Y.K H' α' M'/\Ext Y.K H3 H' α3 α'/\g n i ρ' M'
theorem ZfS {Y:Cx} {fp α3:List Addr} {it D:Addr} {tn:Nat->Heap->Prop} {J:It} {tg iter elt:Expr} {ifs:List Expr} {scope:Scope} {pos:Pos} {gt:Tg} {c:Tv} {f:Ev} {src:Src} {H3:Hp} {σ0:L2.St} {ρ0:Ro} {M3 M9:Sto} {u9:Unit} {n0 fuel:Nat} {s4:Shared} {R:Result->Shared->Prop}
  (T:Turn Y.prog Y.w Y.K Y.A tg J fp it tn) (hxe: ∀ x y,Y.xe x y->False) (fp5: ∀ {H':Hp},(∀ b∈fp,H' b=none)-> ∀ b∈fp,Zem Y [] H' b) (hg:DG Y tg gt) (tst:DC Y ifs c) (he:DE Y E0 elt f)
  (sc:Zm4 Y.K H3 α3 J src) (aD:RefK H3 α3 0 n0 D) (I4:Inv Y [] σ0 H3 s4) (st4:tn 0 s4.heap) (fr4: ∀ b∈fp,H3 b=none) (sr:SR Y.K H3 α3 σ0 ρ0) (h3:HR Y.K H3 α3 M3) (er:ZcD src gt c f n0 fuel 0 ρ0 M3= .ok u9 M9)
  (post: ∀ σ5 H5 α5 s6,Inv Y [] σ5 H5 s6->Ext Y.K H3 H5 α3 α5->HR Y.K H5 α5 M9->R (.ok .next) s6):
  codeAny (model Y.prog Y.w) Y.A (.compLoop (.ListComp elt [⟨tg,iter,ifs,0⟩] scope pos) 0 (.ref it) (.ref D) Y.env) R s4:=by
 obtain ⟨tt,pt,qt⟩:=hg
 obtain ⟨te,pe,qe⟩:=he
 refine ZeE (CmI Y fp tn H3 α3 fun n i ρ' M'=>ZcD src gt c f n0 n i ρ' M'= .ok u9 M9) ?_ fuel ⟨0,σ0,ρ0,H3,α3,M3,I4,st4,fr4,sr,h3,Ext.refl,er⟩
 rintro n s5 ⟨i,σ5,ρ5,H5,α5,M5,I5,st5,fr5,sr5,hr5,ex5,en⟩
 have src5:=sc i H5 α5 M5 ex5 hr5
 rw[ZcD] at en
 cases ex:nxt src i M5 with
 |none=>rw[ex] at en;cases en
 |some od=>
  rw[ex] at src5 en
  cases od with
  |none=>
   cases en
   have fin:=T.done Y rfl rfl rfl rfl i [] s5 σ5 H5 (fun _ _=>False) I5 (fp5 fr5) st5 src5
   refine thn fin fun r s6 w6=> ?_
   obtain ⟨hr6,I6⟩:=w6
   subst hr6
   exact post σ5 H5 α5 s6 I6 ex5 hr5
  |some d=>
   obtain ⟨go,yl⟩:=src5
   cases n with
   |zero=>cases en
   |succ n=>
    simp only at en
    have itm:=T.item Y rfl rfl rfl rfl i [] s5 σ5 H5 (fun _ _=>False) I5 (fp5 fr5) st5 go
    refine thn itm fun r s6 ⟨u,hr6,w6⟩=> ?_
    subst hr6
    refine thn w6 fun _ s7 ⟨x,H7,I7,r7,y7,st7,fr7⟩=> ?_
    obtain ⟨ex7,hr7,rp7⟩:=yl x H7 y7
    have sr5:=sr5.mono ex7
    have hr5:=hr7
    have ex5:=ex5.trans ex7
    have I7':=I7.pinned (fp5 fr7) (T.obj _ _ st7)
    cases eg:gt d ρ5 with
    |none=>rw[eg] at en;cases en
    |some ρ6=>
     rw[eg] at en
     simp only at en
     have asg:=pt _ s7 σ5 H7 x u _ I7' r7 (qt x d σ5 ρ5 H7 α5 ρ6 (fun σ' H'=>H'=H7/\SR Y.K H7 α5 σ' ρ6) sr5 rp7 eg fun σ' s'=>⟨rfl,s'⟩)
     refine wpAny_mono asg (fun _ s8 ⟨σ8,H8,I8,z8,sr8⟩=> ?_) (fun x y z=>hxe x y z)
     subst z8
     have again: ∀ {σ9:L2.St} {H9:Hp} {s9:Shared},Inv Y ([] ++ ZdA fp s7.heap) σ9 H9 s9->Inv Y [] σ9 H9 s9/\tn (i + 1) s9.heap/\ ∀ b∈fp,H9 b=none:=fun {σ9 H9 s9} I9=>by
      refine ⟨I9.unpinned,T.keep _ _ _ st7 fun b hb o e=>(I9.pin (b,o) (List.mem_append_right _ (List.mem_append_right _ (ZbF hb e)))).1,fun b hb=> ?_⟩
      obtain ⟨o,e,_⟩:=T.obj _ _ st7 b hb
      exact (I9.pin (b,o) (List.mem_append_right _ (List.mem_append_right _ (ZbF hb e)))).2.1
     have after: ∀ (kk:Bool) (M8:Sto) (H9:Hp) (α9:List Addr) (s9:Shared),Inv Y ([] ++ ZdA fp s7.heap) σ8 H9 s9->Ext Y.K H8 H9 α5 α9->HR Y.K H9 α9 M8->c ρ6 M5= .ok kk M8->
       (if kk=true then wpAny (model Y.prog Y.w) Y.A (eval elt Y.env) (fun x s₄=>wpAny (model Y.prog Y.w) Y.A (call (.builtin "list.append") [.ref D,x]) (fun _ s₅=> ∃ m,m < n + 1/\CmI Y fp tn H3 α3 (fun n i ρ' M'=>ZcD src gt c f n0 n i ρ' M'= .ok u9 M9) m s₅) (fun _ _=>False) s₄) (fun _ _=>False) s9
        else ∃ m,m < n + 1/\CmI Y fp tn H3 α3 (fun n i ρ' M'=>ZcD src gt c f n0 n i ρ' M'= .ok u9 M9) m s9):=by
      intro kk M8 H9 α9 s9 I9 ex9 hr9 ec
      rw[ec] at en
      cases kk with
      |false=>
       obtain ⟨a1,a2,a3⟩:=again I9
       exact ZjX ⟨n,Nat.lt_succ_self n,i + 1,σ8,ρ6,H9,α9,M8,a1,a2,a3,sr8.mono ex9,hr9,ex5.trans ex9,en⟩
      |true=>
       simp only at en
       refine ZjY ?_
       cases ef:f ρ6 M8 with
       |exc x9 M10=>rw[ef] at en;cases en
       |bad=>rw[ef] at en;cases en
       |ok y M10=>
        rw[ef] at en
        simp only at en
        have ev:=pe _ s9 σ8 H9 (fun v H'=> ∃ α',Ext Y.K H9 H' α9 α'/\HR Y.K H' α' M10/\Rep Y.K H' α' v y) I9 (qe σ8 ρ6 H9 α9 M8 _ (sr8.mono ex9) hr9 (by
         rw[ef]
         exact fun v H' α' e h r=>⟨α',e,h,r⟩))
        refine wpAny_mono ev (fun yv s10 ⟨v,H10,I10,r10,α10,ex10,hr10,rp10⟩=> ?_) (fun x y z=>hxe x y z)
        cases em:M10[n0]? with
        |none=>rw[em] at en;cases en
        |some so=>
         cases so with
         |lst ds=>
          rw[em] at en
          simp only at en
          by_cases cz:ds.length < 10000000
          ·rw[if_pos cz] at en
           have aD10:=ex10.get (ex9.get (ex5.get aD))
           obtain ⟨xs,g1,g2⟩:=hr10.at aD10 em
           have ap:=Zhu (X:=Y) _ s10 σ8 H10 (.ref D) [v] (.ref D) [yv] (fun _ H'=>H'=upd H10 D (.lst (xs ++ [v]))) I10 rfl (.cons r10 .nil) ⟨D,xs,v,rfl,rfl,g1,by rw[g2.length];exact Nat.lt_of_lt_of_le cz (by decide),rfl⟩
           refine wpAny_mono ap (fun _ s11 ⟨v11,H11,I11,_,z11⟩=> ?_) (fun x y z=>hxe x y z)
           subst z11
           obtain ⟨a1,a2,a3⟩:=again I11
           have exw:Ext Y.K H10 (upd H10 D (.lst (xs ++ [v]))) α10 α10:=Ext.wr g1
           exact ⟨n,Nat.lt_succ_self n,i + 1,σ8,ρ6,_,α10,_,a1,a2,a3,((sr8.mono ex9).mono ex10).mono exw,hr10.wr aD10 g1 (g2.append (.cons rp10 .nil)),((ex5.trans ex9).trans ex10).trans exw,en⟩
          ·rw[if_neg cz] at en
           cases en
     rcases tst with ⟨rfl,ec⟩ | ⟨e,rfl,tt',ptt,qtt⟩
     ·refine wpAny_tests_nil ?_
      exact after true M5 H8 α5 s8 I8 Ext.refl hr5 (by rw[ec])
     ·refine wpAny_tests_one ?_
      cases ec:c ρ6 M5 with
      |exc x9 M10=>rw[ec] at en;cases en
      |bad=>rw[ec] at en;cases en
      |ok kk M8=>
       have tv':=ptt _ s8 σ8 H8 (fun b H'=>b=kk/\ ∃ α',Ext Y.K H8 H' α5 α'/\HR Y.K H' α' M8) I8 (qtt σ8 ρ6 H8 α5 M5 _ sr8 hr5 (by
        rw[ec]
        exact fun v H' α' e h r=>⟨r,α',e,h⟩))
       refine wpAny_mono tv' (fun b s9 ⟨H9,I9,zb,α9,ex9,hr9⟩=> ?_) (fun x y z=>hxe x y z)
       subst zb
       exact after b M8 H9 α9 s9 I9 ex9 hr9 ec
theorem Zfe (B:Blk X scope cl N k fr) (hi:DI X ξ tg iter fi) (hg: ∀ C fp s H,DG (blk X scope cl N C fp s H) tg gt) (ht: ∀ C fp s H,DC (blk X scope cl N C fp s H) ifs c) (he: ∀ C fp s H,DE (blk X scope cl N C fp s H) E0 elt f)
  (hs: ∀ x,foldedSetIterable iter X.env x=pure x:=by intro _;rfl):DE X ξ (.ListComp elt [⟨tg,iter,ifs,0⟩] scope pos) (ZbN fi k fr gt c f):=by
 obtain ⟨wi,pi,qi⟩:=hi
 refine ⟨fun σ H Q=> ∃ ρ α M,SR X.K H α σ ρ/\HR X.K H α M/\OP X.K H α ξ Q (ZbN fi k fr gt c f ρ M),?_,fun σ ρ H α M Q s h q=>⟨ρ,α,M,s,h,q⟩⟩
 rintro pins s σ H Q I ⟨ρ,α,M,sr,hr,op⟩
 rw[eval_ListComp]
 refine wpAny_comprehension_free (use:=none) rfl hs B.clos B.kind B.names ?_
 refine thn (pi pins s σ H (fun J H2=> ∃ α2 M2 src,Ext X.K H H2 α α2/\HR X.K H2 α2 M2/\Zm4 X.K H2 α2 J src/\OP X.K H2 α2 ξ Q (match ZcD src gt c f M2.length (cnt src M2) 0 (roB k fr ρ) (M2 ++ [.lst []]) with | .ok _ M2'=> .ok (.ref M2.length) M2' | _=> .bad)) I
  (qi σ ρ H α M _ sr hr (OG.seq op fun src M1 J H1 α1 e1 h1 r1 q1=>⟨α1,M1,src,e1,h1,r1,q1⟩))) fun v s1 w1=>thn w1 fun itv s2 w2=> ?_
 obtain ⟨it,fp,tn,J,H2,rfl,I2,T,st2,f2,α2,M2,src,e2,h2,sc,op2⟩:=w2
 have srI:=sr.mono e2
 refine wpAny_newObj_type ?_
 have I3:Inv X pins σ (upd H2 s2.heap.objs.size (.lst [])) { s2 with heap:=s2.heap.push { cls:= .type "list",data:= .seq ([]:List Value).toArray } }:=I2.lnew (its:=[]) (t':=s2.toks) .nil (Nat.zero_le _)
 have fD:H2 s2.heap.objs.size=none:=I2.fresh
 generalize hD:s2.heap.objs.size=D at I3 fD
 generalize hs3:({ s2 with heap:=s2.heap.push { cls:= .type "list",data:= .seq ([]:List Value).toArray } }:Shared)=s3 at I3
 generalize hH3:upd H2 D (.lst [])=H3 at I3
 have h3:HR X.K H3 (α2 ++ [D]) (M2 ++ [.lst []]):=by rw[<- hH3];exact h2.new fD .nil
 have e3:Ext X.K H2 H3 α2 (α2 ++ [D]):=by rw[<- hH3];exact Ext.new fD
 have aD:RefK H3 (α2 ++ [D]) 0 M2.length D:=⟨h2.last D,by first | exact Kn.lst Zn | (rw[<- hH3];exact Kn.lst Zn)⟩
 have lt2: ∀ b∈fp,b < s2.heap.objs.size:=fun b hb=>let ⟨o,e,_⟩:=T.obj _ _ st2 b hb;Heap.lt_size e
 have keep3: ∀ b o,s2.heap.get? b=some o->s3.heap.get? b=some o:=fun b o e=>by rw[<- hs3];exact Heap.get?_push_of_some _ e
 have f3: ∀ b∈fp,Zem X pins H3 b:=fun b hb=>⟨by rw[<- hH3,Zo (by rw[<- hD];exact Nat.ne_of_lt (lt2 b hb))];exact (f2 b hb).1,(f2 b hb).2⟩
 have lt3: ∀ b∈fp,b < s3.heap.objs.size:=fun b hb=>let ⟨o,e,_⟩:=T.obj _ _ st2 b hb;Heap.lt_size (keep3 b o e)
 have st3:tn 0 s3.heap:=T.keep _ _ _ st2 fun b _ o e=>keep3 b o e
 refine wpAny_newFunctionEnv B.cell (by intro y hy;simp at hy) (fun h₁ hns₁ hsb₁=> ?_) B.kind
 have keep4: ∀ b o,s3.heap.get? b=some o->h₁.get? b=some o:=fun b o e=>hsb₁.extBut b o (Nat.ne_of_lt (Heap.lt_size e)) (Heap.get?_push_of_some _ e)
 have I4:=ZhS (tk:=s3.toks + ([]:List (Str × Value)).length) B I3 f3 lt3 hns₁ keep4
 have st4:tn 0 h₁:=T.keep _ _ _ st3 fun b _ o e=>keep4 b o e
 have fp5: ∀ {H':Hp},(∀ b∈fp,H' b=none)-> ∀ b∈fp,Zem (blk X scope cl N s3.heap.objs.size fp s3 H3) [] H' b:=fun hn b hb=>⟨hn b hb,Nat.ne_of_lt (lt3 b hb),(ZhR B I3 f3 lt3).exfs b hb,.inl hb,fun x c h=>(f3 b hb).2.2.2.2.1 x c (B.sub x c h),fun p hp=>(by simp[blk] at hp)⟩
 cases er:ZcD src gt c f M2.length (cnt src M2) 0 (roB k fr ρ) (M2 ++ [.lst []]) with
 |exc x M9=>rw[er] at op2;exact op2.elim
 |bad=>rw[er] at op2;exact op2.elim
 |ok u9 M9=>
  rw[er] at op2
  have loop:codeAny (model X.prog X.w) X.A (.compLoop (.ListComp elt [⟨tg,iter,ifs,0⟩] scope pos) 0 (.ref it) (.ref D) (compEnvC scope cl s3.heap.objs.size X.env)) (compPost (model X.prog X.w) X.A X.xe none (EP X pins σ Q) (.ref D) s3.heap.objs.size) { s3 with heap:=h₁,toks:=s3.toks + ([]:List (Str × Value)).length }:=by
   refine ZfS (Y:=blk X scope cl N s3.heap.objs.size fp s3 H3) T (fun _ _ z=>z) fp5 (hg _ fp s3 H3) (ht _ fp s3 H3) (he _ fp s3 H3) (fun i H' α' M' ex hr=>sc i H' α' M' (e3.trans ex) hr) aD I4 st4 (fun b hb=>(f3 b hb).1) ((srI.blk).mono e3) h3 er ?_
   intro σ5 H5 α5 s6 I6 ex5 hr5
   obtain ⟨I7,I8⟩:=ZfR B I3 f3 I6
   obtain ⟨m6,hm6,_⟩:=id I6.loc
   exact ⟨m6,hm6,fun h' sb=>⟨.ref D,H5,I8 σ s6 h' I7 (fun b o hb e=>(sb.2 b hb).trans e),rfl,op2 _ H5 α5 (e3.trans ex5) hr5 (.ref (ex5.get aD))⟩⟩
  exact codeAny_compStart_list loop (T.self X.A 0 _ _ _ st4 loop)
end
end DL
end
section
namespace DL
open PySem PySem.Spec PyProof.Rows L2
theorem Zm5 {names:List (Str × NameKind)} (h:names.all (fun y=>y.2 != .cell && y.2 != .free)=true) (x:Str): ¬ (names.lookup x=some .cell\/names.lookup x=some .free):=by
 induction names with
 |nil=>intro z;rcases z with z | z<;>simp at z
 |cons y r ih=>
  rw[List.all_cons,Bool.and_eq_true] at h
  obtain ⟨n,kd⟩:=y
  rw[List.lookup_cons]
  cases e:x == n with
  |true=>
   simp only
   intro z
   have h1:=h.1
   rcases z with z | z<;>(cases z;simp at h1)
  |false=>exact ih h.2
theorem Zja {names:List (Str × NameKind)} {env:Env} (h:names.all (fun y=>y.2 != .cell && y.2 != .free)=true):
  (names.map fun (n,k)=>if (k == NameKind.free && env.scope.kind == .function && env.kindOf n == some .cell) then (n,NameKind.cell) else (n,k))=names:=by
 induction names with
 |nil=>rfl
 |cons y r ih=>
  rw[List.all_cons,Bool.and_eq_true] at h
  obtain ⟨n,kd⟩:=y
  have hk:(kd == NameKind.free)=false:=by
   have h1:=h.1
   rw[Bool.and_eq_true] at h1
   have h2:=h1.2
   cases kd<;>first | rfl | simp at h2
  rw[List.map_cons,ih h.2]
  simp[hk]
theorem Zsx {X:Cx} {scope:Scope} {N:List Str} {k:Nat} (h:scope.names.all (fun y=>y.2 != .cell && y.2 != .free)=true) (hk:scope.kind= .function) (hn: ∀ y∈scope.names,y.2= .local->scope.names.lookup y.1=some .local) (hl:N.length=k):Blk X scope [] N k [] where
 clos:=closureFor_none fun y hy z=>by
  have:=List.all_eq_true.mp h y hy
  rw[z] at this
  simp at this
 kind:=hk
 cell:=fun y hy z=>by
  have:=List.all_eq_true.mp h y hy
  rw[z] at this
  simp at this
 names:=hn
 sub:=fun x c z=>(by cases z)
 has:=fun x z=>by
  have e:(relabel scope X.env).names=scope.names:=Zja h
  rw[e] at z
  exact absurd z (Zm5 h x)
 len:=hl
 at_:=fun j i z=>(by simp at z)
theorem Zff {env:Env}: ∀ (names:List (Str × NameKind)) (acc:List (Str × Addr)),(∀ y∈names,y.2= .free-> ∃ c,env.cells.lookup y.1=some c)->
  (forIn names acc fun (x:Str × NameKind) (cs:List (Str × Addr))=>if x.2 == NameKind.free then (do let a <- cellOf env x.1;pure (ForInStep.yield ((x.1,a) :: cs))) else (pure (ForInStep.yield cs):Sem _))=
   (pure (((names.filter fun y=>y.2 == .free).map fun y=>(y.1,(env.cells.lookup y.1).getD 0)).reverse ++ acc):Sem (List (Str × Addr)))
 | [],acc,_=>by simp
 | (n,kd) :: r,acc,h=>by
  rw[List.forIn_cons]
  by_cases hk:(kd == NameKind.free)=true
  ·obtain ⟨c,hc⟩:=h (n,kd) List.mem_cons_self (by simpa using hk)
   have e1:cellOf env n=pure c:=by unfold cellOf;rw[hc]
   have ih:=Zff r ((n,c) :: acc) fun y hy=>h y (List.mem_cons_of_mem _ hy)
   simp only[hk,if_true,e1,pure_bind]
   refine Eq.trans ih ?_
   simp[List.filter_cons,hk,hc]
  ·have ih:=Zff r acc fun y hy=>h y (List.mem_cons_of_mem _ hy)
   simp only[hk,if_false,pure_bind]
   refine Eq.trans ih ?_
   simp[List.filter_cons,hk]
noncomputable def clF (scope:Scope) (env:Env):List (Str × Addr):=((scope.names.filter fun y=>y.2 == .free).map fun y=>(y.1,(env.cells.lookup y.1).getD 0)).reverse
theorem ZdD {env:Env}: ∀ {l:List (Str × NameKind)} {x:Str} {c:Addr},(l.map fun y=>(y.1,(env.cells.lookup y.1).getD 0)).lookup x=some c->c=(env.cells.lookup x).getD 0/\ ∃ y∈l,y.1=x
 | [],x,c,h=>by simp at h
 |y :: r,x,c,h=>by
  rw[List.map_cons,List.lookup_cons] at h
  cases e:x == y.1 with
  |true=>
   rw[e] at h
   have ex:x=y.1:=by simpa using e
   cases h
   exact ⟨by rw[ex],y,List.mem_cons_self,ex.symm⟩
  |false=>
   rw[e] at h
   obtain ⟨h1,z,h2,h3⟩:=ZdD h
   exact ⟨h1,z,List.mem_cons_of_mem _ h2,h3⟩
theorem Zcb {α:Type}: ∀ {l:List (Str × α)} {x:Str},(∃ y∈l,y.1=x)-> ∃ c,l.lookup x=some c
 | [],x,h=>by obtain ⟨y,h1,_⟩:=h;simp at h1
 |z :: r,x,h=>by
  rw[List.lookup_cons]
  cases e:x == z.1 with
  |true=>exact ⟨_,rfl⟩
  |false=>
   obtain ⟨y,h1,h2⟩:=h
   rcases List.mem_cons.mp h1 with q | q
   ·subst q;rw[h2] at e;simp at e
   ·exact Zcb ⟨y,q,h2⟩
theorem Zaw {env:Env} (nc: ∀ n,env.scope.names.lookup n=env.kindOf n): ∀ {names:List (Str × NameKind)} {x:Str} {kd:NameKind},(names.map fun (n,k)=>if (k == NameKind.free && env.scope.kind == .function && env.kindOf n == some .cell) then (n,NameKind.cell) else (n,k)).lookup x=some kd->
  names.lookup x=some kd\/(names.lookup x=some .free/\kd= .cell)
 | [],x,kd,h=>by simp at h
 | (n,q) :: r,x,kd,h=>by
  rw[List.map_cons,List.lookup_cons] at h
  rw[List.lookup_cons]
  dsimp only at h ⊢
  by_cases c:(q == NameKind.free && env.scope.kind == .function && env.kindOf n == some .cell)=true
  ·rw[if_pos c] at h
   dsimp only at h
   cases e:x == n with
   |true=>
    rw[e] at h
    cases h
    simp only[Bool.and_eq_true,beq_iff_eq] at c
    exact .inr ⟨by rw[c.1.1],rfl⟩
   |false=>rw[e] at h;exact Zaw nc h
  ·rw[if_neg c] at h
   dsimp only at h
   cases e:x == n with
   |true=>rw[e] at h;exact .inl h
   |false=>rw[e] at h;exact Zaw nc h
theorem ZbC {env:Env}: ∀ {names:List (Str × NameKind)} {x:Str},names.lookup x=some .free->(∃ kd,(kd=NameKind.cell\/kd=NameKind.free)/\(names.map fun (n,k)=>if (k == NameKind.free && env.scope.kind == .function && env.kindOf n == some .cell) then (n,NameKind.cell) else (n,k)).lookup x=some kd)
 | [],x,h=>by simp at h
 | (n,q) :: r,x,h=>by
  rw[List.lookup_cons] at h
  rw[List.map_cons,List.lookup_cons]
  by_cases c:(q == NameKind.free && env.scope.kind == .function && env.kindOf n == some .cell)=true
  ·dsimp only
   rw[if_pos c]
   cases e:x == n with
   |true=>exact ⟨_,.inl rfl,rfl⟩
   |false=>rw[e] at h;exact ZbC h
  ·dsimp only
   rw[if_neg c]
   cases e:x == n with
   |true=>rw[e] at h;exact ⟨q,.inr (Option.some.inj h),rfl⟩
   |false=>rw[e] at h;exact ZbC h
noncomputable def Zrj (XN N:List Str) (dn sn:List (Str × NameKind)) (k:Nat) (fr:List Nat):Bool:=
 (sn.all fun y=>y.2 != .cell && (y.2 != .free || dn.lookup y.1 == some .cell) && (y.2 != .local || sn.lookup y.1 == some .local)) && N.length == k + fr.length &&
  (List.range fr.length).all fun j=>match fr[j]? with
   |some i=>(match N[k + j]?,XN[i]? with | some x,some y=>x == y && dn.lookup x == some .cell && sn.lookup x == some .free | _,_=>false)
   |none=>false
theorem ZpB {X:Cx} {scope:Scope} {N:List Str} {k n:Nat} {fr:List Nat} {XN:List Str} {dn:List (Str × NameKind)} (hN:X.N=XN) (hd:X.env.scope.names=dn) (hc:X.env.cells=cellsFrom n dn []) (hk:scope.kind= .function) (h:Zrj XN N dn scope.names k fr=true):Blk X scope (clF scope X.env) N k fr:=by
 unfold Zrj at h
 simp only[Bool.and_eq_true,List.all_eq_true,bne_iff_ne,ne_eq,Bool.or_eq_true,beq_iff_eq] at h
 obtain ⟨⟨h1,h2⟩,h3⟩:=h
 have kind: ∀ x,X.env.kindOf x=dn.lookup x:=fun x=>by rw[<- hd];rfl
 have cel: ∀ x,dn.lookup x=some .cell-> ∃ c,X.env.cells.lookup x=some c:=fun x e=>by
  have:=PySem.W.cellsFrom_some dn n [] (.inl e)
  rw[hc]
  exact Option.isSome_iff_exists.mp this
 have frc: ∀ y∈scope.names,y.2= .free-> ∃ c,X.env.cells.lookup y.1=some c:=fun y hy e=>by
  rcases (h1 y hy).1.2 with z | z
  ·exact absurd e z
  ·exact cel _ z
 have sub: ∀ x c,(clF scope X.env).lookup x=some c->X.env.cells.lookup x=some c:=fun x c e=>by
  unfold clF at e
  rw[<- List.map_reverse] at e
  obtain ⟨e1,y,e2,e3⟩:=ZdD e
  have e4:=List.mem_filter.mp (List.mem_reverse.mp e2)
  obtain ⟨c',g⟩:=frc y e4.1 (by simpa using e4.2)
  rw[e3] at g
  rw[g] at e1 ⊢
  rw[e1]
  rfl
 have has: ∀ x,scope.names.lookup x=some .free-> ∃ c,(clF scope X.env).lookup x=some c:=fun x e=>by
  refine Zcb ?_
  have m:=PySem.mem_of_lookup e
  exact ⟨(x,(X.env.cells.lookup x).getD 0),List.mem_reverse.mpr (List.mem_map.mpr ⟨(x,.free),List.mem_filter.mpr ⟨m,by simp⟩,rfl⟩),rfl⟩
 refine ⟨?_,hk,fun y hy=>(h1 y hy).1.1,fun y hy e=> ?_,sub,fun x z=> ?_,h2,fun j i e=> ?_⟩
 ·have:=Zff (env:=X.env) scope.names [] frc
  rw[List.append_nil] at this
  unfold closureFor
  exact (congrArg (fun (m:Sem (List (Str × Addr)))=>m >>= fun cs=>(pure cs:Sem (List (Str × Addr)))) this).trans (pure_bind _ _)
 ·rcases (h1 y hy).2 with z | z
  ·exact absurd e z
  ·exact z
 ·have nc: ∀ m,X.env.scope.names.lookup m=X.env.kindOf m:=fun m=>rfl
  refine has x ?_
  rcases z with z | z
  ·rcases Zaw nc z with q | q
   ·exact absurd rfl (h1 _ (PySem.mem_of_lookup q)).1.1
   ·exact q.1
  ·rcases Zaw nc z with q | q
   ·exact q
   ·cases q.2
 ·have hj:j < fr.length:=(List.getElem?_eq_some_iff.mp e).1
  have q:=h3 j (List.mem_range.mpr hj)
  rw[e] at q
  dsimp only at q
  cases e1:N[k + j]? with
  |none=>rw[e1] at q;cases q
  |some x=>
   cases e2:XN[i]? with
   |none=>rw[e1,e2] at q;cases q
   |some y=>
    rw[e1,e2] at q
    simp only[Bool.and_eq_true,beq_iff_eq] at q
    obtain ⟨⟨q1,q2⟩,q3⟩:=q
    subst q1
    obtain ⟨kd,r1,r2⟩:=ZbC (env:=X.env) q3
    obtain ⟨c,r3⟩:=has x q3
    refine ⟨x,rfl,by rw[hN];exact e2,by rw[kind];exact q2,?_,r3.trans (sub x c r3).symm⟩
    rcases r1 with r1 | r1
    ·exact .inl (r1 ▸ r2)
    ·exact .inr (r1 ▸ r2)
section
variable {X:Cx} {ξ:XK}
noncomputable def Zrk (X:Cx):List V->Hp->VK->Prop:=fun vs H Q=> ∃ (p:Addr) (bs:List Bool),vs=[.ref p]/\SqL X.K H p (bs.map V.bl)/\Q (.bl (bs.all id)) H
theorem ZeF: ∀ {bs:List Bool} {us:List Value} {i:Nat} {u:Value},ZZ (bs.map V.bl) us->us[i]?=some u-> ∃ b,bs[i]?=some b/\u= .bool b
 | [],us,i,u,h,e=>by cases h;simp at e
 |b :: r,us,i,u,h,e=>by
  cases h with
  |cons h1 h2=>
   cases i with
   |zero=>simp at e;subst e;exact ⟨b,rfl,h1⟩
   |succ i=>simp at e;obtain ⟨b',g1,g2⟩:=ZeF h2 e;exact ⟨b',by simpa using g1,g2⟩
theorem Zgs (bs:List Bool):((List.range bs.length).all fun i=>(bs[i]?).getD true)=bs.all id:=by
 rw[Bool.eq_iff_iff,List.all_eq_true,List.all_eq_true]
 constructor
 ·intro h b hb
  obtain ⟨i,hi,e⟩:=List.getElem_of_mem hb
  have:=h i (List.mem_range.mpr hi)
  simp only[List.getElem?_eq_getElem hi,Option.getD_some,e] at this
  exact this
 ·intro h i hi
  have hi':=List.mem_range.mp hi
  simp only[List.getElem?_eq_getElem hi',Option.getD_some]
  exact h _ (List.getElem_mem hi')
theorem Zjb (hc:X.calm=true):ZbM X (.builtin "all") (Zrk X):=by
 intro pins s σ H vs us Q I rs ⟨p,bs,e,hl,q⟩
 subst e
 obtain ⟨u,rfl,ru⟩:=Zdq rs
 cases ru
 obtain ⟨its,hv,hp,hz⟩:=I.list hl
 have hlt:p < s.heap.objs.size:=by obtain ⟨_,e,_⟩:=hp.isList;exact Heap.lt_size e
 refine call_all_walk (wpAny_pyIter_list hp.isList ?_)
 refine ⟨s.heap.objs.size,[s.heap.objs.size,p],[s.heap.objs.size],its.toArray.size,_,_,fun i=>(bs[i]?).getD true,rfl,Walks.list (A:=X.A.in1) (I.ok.hd hc) _ p (Nat.ne_of_lt hlt) its.toArray,
  ⟨⟨_,Heap.get?_push_size _ rfl,rfl,rfl⟩,hp.isList.push _⟩,fun i v s' Q' E' hP hQ=> ?_,fun h' tk hk=> ?_⟩
 ·obtain ⟨b,e,rfl⟩:=ZeF (i:=i) (u:=v) hv (by simpa using hP)
  simp only[e,Option.getD_some] at hQ
  exact wpAny_truthy_bool hQ
 ·have e:((List.range its.toArray.size).all fun i=>(bs[i]?).getD true)=bs.all id:=by
   rw[List.size_toArray,<- hv.length,List.length_map];exact Zgs bs
  rw[e]
  exact ⟨.bl (bs.all id),H,I.kept fun b o e=>hk b o (fun hm=>by rw[List.mem_singleton.mp hm] at e;exact Nat.lt_irrefl _ (Heap.lt_size e)) (Heap.get?_push_of_some _ e),rfl,q⟩
noncomputable def ZaM:List D->Option (List Bool)
 | []=>some []
 | .bl b :: r=>match ZaM r with | some bs=>some (b :: bs) | none=>none
 |_ :: _=>none
theorem ZeG {K:PySem.W.Frag} {H:Hp} {α:List Addr}: ∀ {vs:List V} {ds:List D} {bs:List Bool},Reps K H α vs ds->ZaM ds=some bs->vs=bs.map V.bl
 |_,_,_,.nil,e=>by cases e;rfl
 |_,_,bs,.cons (d:=d) (ds:=ds) r t,e=>by
  cases r with
  |bl b=>
   cases e1:ZaM ds with
   |none=>simp only[ZaM,e1] at e;cases e
   |some cs=>
    simp only[ZaM,e1,Option.some.injEq] at e
    subst e
    rw[ZeG t e1]
    rfl
  |_=>cases e
noncomputable def bAll:List D->Sto->Out D:=fun ds M=>match ds with
 | [.ref n]=>(match M[n]? with | some (.lst xs)=>(match ZaM xs with | some bs=> .ok (.bl (bs.all id)) M | none=> .bad) | none=> .bad)
 |_=> .bad
theorem Zm6:CO X ξ (Zrk X) bAll:=by
 intro H α M vs ds Q h rs q
 match rs with
 | .nil=>exact q.elim
 | .cons r (.cons _ _)=>cases r<;>exact q.elim
 | .cons r .nil=>
  cases r with
  | @ref p n hp=>
   cases e1:M[n]? with
   |none=>simp only[bAll,e1] at q;exact q.elim
   |some so=>
    cases so with
    |lst es=>
     cases e2:ZaM es with
     |none=>simp only[bAll,e1,e2] at q;exact q.elim
     |some bs=>
      simp only[bAll,e1,e2] at q
      obtain ⟨xs,g1,g2⟩:=h.at hp e1
      have:=ZeG g2 e2
      subst this
      exact ⟨p,bs,rfl,SqL.of g1,q _ H α Ext.refl h (.bl _)⟩
  |_=>exact q.elim
end
section
variable {prog:Program} {w:World} {A:Around} {E:Value->Shared->Prop} {s:Shared}
theorem ZcN {sl:Addr} {t:Tok} {n:Nat} {Q:Int × Int × Nat->Shared->Prop} (hs:s.heap.IsSliceOf sl .none .none (.int (-1) t)) (h:Q ((n:Int) - 1,-1,n) s):wpAny (model prog w) A (Builtin.Slice.sliceApplied (.ref sl) (pure (n:Int))) Q E s:=by
 obtain ⟨os,hos,hcs,hds⟩:=id hs
 unfold Builtin.Slice.sliceApplied Builtin.Slice.sliceFields
 refine wpAny_bind (wpAny_bind (wpAny_field hos hds (x:= .none) rfl (wpAny_bind (wpAny_field hos hds (x:= .none) rfl (wpAny_bind (wpAny_field hos hds (x:= .int (-1) t) rfl (wpAny_pure ?_)))))))
 refine wpAny_bind (HT.Za4 (.int (-1) t) ?_)
 show wpAny _ _ (if ((-1:Int) == 0)=true then _ else _) _ _ s
 rw[if_neg (by decide)]
 refine wpAny_bind (HT.Za4 .none (wpAny_bind (HT.Za4 .none (wpAny_bind (wpAny_pure ?_)))))
 have e1:Builtin.Slice.sliceAdjust none none (-1) (n:Int)=((n:Int) - 1,-1):=rfl
 have e2:Builtin.Slice.slicePlaces ((n:Int) - 1) (-1) (-1)=n:=by
  unfold Builtin.Slice.slicePlaces
  rw[if_neg (by decide)]
  by_cases c:0 < n
  ·rw[if_pos (by omega)]
   have:((n:Int) - 1 - -1 - 1) / (- -1) + 1=n:=by
    rw[show (- -1:Int)=1 from rfl,Int.ediv_one];omega
   rw[this]
   omega
  ·rw[if_neg (by omega)]
   omega
 show wpAny _ _ (match Builtin.Slice.sliceAdjust none none (-1) (n:Int) with | (lo,hi)=>pure (lo,(-1:Int),Builtin.Slice.slicePlaces lo hi (-1))) _ _ s
 rw[e1]
 show wpAny _ _ (pure ((n:Int) - 1,(-1:Int),Builtin.Slice.slicePlaces ((n:Int) - 1) (-1) (-1))) _ _ s
 rw[e2]
 exact wpAny_pure h
theorem ZdV {α β:Type} {f g:α->Option β}: ∀ {l:List α},(∀ m∈l,f m=g m)->l.filterMap f=l.filterMap g
 | [],_=>rfl
 |x :: r,h=>by
  rw[List.filterMap_cons,List.filterMap_cons,h x List.mem_cons_self,ZdV fun m hm=>h m (List.mem_cons_of_mem _ hm)]
theorem ZfT (xs:Array Value):((List.range xs.size).filterMap fun (m:Nat)=>xs[((xs.size:Int) - 1 + (m:Int) * (-1)).toNat]?).toArray=xs.toList.reverse.toArray:=by
 congr 1
 apply List.ext_getElem?
 intro i
 have all:(List.range xs.size).filterMap (fun (m:Nat)=>xs[((xs.size:Int) - 1 + (m:Int) * (-1)).toNat]?)=(List.range xs.size).map fun m=>xs[xs.size - 1 - m]?.getD .none:=by
  rw[<- List.filterMap_eq_map]
  refine ZdV fun m hm=> ?_
  have hm':=List.mem_range.mp hm
  have e:((xs.size:Int) - 1 + (m:Int) * (-1)).toNat=xs.size - 1 - m:=by omega
  rw[e]
  have hlt:xs.size - 1 - m < xs.size:=by omega
  simp[hlt]
 rw[all]
 by_cases hi:i < xs.size
 ·have hlt:xs.size - 1 - i < xs.size:=by omega
  rw[List.getElem?_map,List.getElem?_range hi,List.getElem?_reverse (by simpa using hi)]
  simp[hlt]
 ·rw[List.getElem?_eq_none (by simpa using hi),List.getElem?_eq_none (by simpa using hi)]
theorem Zcp {t sl:Addr} {items:Array Value} {u:Tok} {Q:Value->Shared->Prop} (ht:IsTup s.heap t items) (hs:s.heap.IsSliceOf sl .none .none (.int (-1) u))
  (h:Q (.ref s.heap.objs.size) { s with heap:=s.heap.push { cls:= .type "tuple",data:= .seq items.toList.reverse.toArray } }) (hsz:items.size<=sizeLine):wpAny (model prog w) A (getItem (.ref t) (.ref sl)) Q E s:=by
 have htake:sizeOk (.seq items.toList.reverse.toArray):=by
  show items.toList.reverse.toArray.size<=sizeLine
  rw[List.size_toArray,List.length_reverse,Array.length_toList]
  exact hsz
 obtain ⟨os,hos,hcs,hds⟩:=id hs
 have hTs:s.TypeIs (.ref sl) "slice":=⟨os,hos,hcs⟩
 unfold getItem
 try with_reducible refine wpAny_holding ?_
 first | refine wpAny_bind (wpAny_pure ?_) | skip
 refine wpAny_bind (wpAny_sequenceKey ht.typeIs (by decide) ?_)
 refine wpAny_bind (wpAny_callSpecial?_slot (name:=Str.ofString "__getitem__") ht.typeIs PyProof.Rows.slot_tuple_getitem
  (wpAny_call_entry PyProof.Rows.slot_tuple_getitem ht.typeIs entry_tuple_getitem ?_ (args_tuple_getitem _ _)))
 show wpAny _ _ (Builtin.Tuple.tupleItemsOf (.ref t) >>= _) _ _ s
 refine wpAny_bind (tupleItemsOf_ ht ?_)
 refine wpAny_bind (wpAny_typeOf hTs ?_)
 rw[if_pos (by decide)]
 refine wpAny_bind (ZcN hs ?_)
 have hno: ¬ ((((items.size:Int) - 1) == 0 && (-1:Int) == 1 && items.size == items.size)=true):=by
  intro q
  rw[Bool.and_eq_true,Bool.and_eq_true] at q
  exact absurd q.1.2 (by decide)
 show wpAny _ _ (if (((items.size:Int) - 1) == 0 && (-1:Int) == 1 && items.size == items.size)=true then _ else _) _ _ s
 rw[if_neg hno,ZfT]
 first
  |exact wpAny_bind (m:=Builtin.Tuple.tupleExact _) (wpAny_newObj_type (wpAny_pure ⟨_,rfl,wpAny_pure h⟩) htake)
  |exact wpAny_bind (m:=Builtin.Tuple.tupleExact _) (wpAny_newObj_type (wpAny_bind (wpAny_pure (wpAny_pure ⟨_,rfl,wpAny_pure h⟩))) htake)
  |exact wpAny_bind (wpAny_bind (m:=Builtin.Tuple.tupleExact _) (wpAny_newObj_type (wpAny_pure (wpAny_pure ⟨_,rfl,wpAny_pure h⟩)) htake))
  |exact wpAny_bind (wpAny_bind (m:=Builtin.Tuple.tupleExact _) (wpAny_newObj_type (wpAny_pure ⟨_,rfl,wpAny_pure h⟩) htake))
end
section
variable {X:Cx} {ξ:XK} {e:Expr} {f:Ev} {p2 p3 p4 pos:Pos} {j:Nat}
theorem Reps.rev {K:PySem.W.Frag} {H:Hp} {α:List Addr}: ∀ {vs:List V} {ds:List D},Reps K H α vs ds->Reps K H α vs.reverse ds.reverse
 |_,_,.nil=> .nil
 |_,_,.cons r t=>by
  rw[List.reverse_cons,List.reverse_cons]
  exact (Reps.rev t).append (.cons r .nil)
end
end DL
end
section
namespace DL
open PySem PySem.Spec PyProof.Rows L2
section
variable {X:Cx} {ξ:XK}
end
end DL
end
section
namespace DL
open PySem PySem.Spec PyProof.Rows L2
section
variable {M:Model} {A:Around} {E:Value->Shared->Prop} {s:Shared}
end
section
variable {X:Cx} {ξ:XK} {tg iter elt:Expr} {ifs:List Expr} {scope:Scope} {cl:List (Str × Addr)} {N:List Str} {k:Nat} {fr:List Nat} {fi:Ro->Sto->Out Src} {gt:Tg} {c:Tv} {f:Ev} {pos:Pos}
end
section
variable {X:Cx} {scope0:Scope} {cl0:List (Str × Addr)} {N0:List Str} {k0:Nat} {fr0:List Nat} {C:Addr} {fp:List Addr} {s:Shared} {H:Hp} {scope:Scope} {N:List Str} {k:Nat} {fr:List Nat} {dn:List (Str × NameKind)}
end
end DL
end
section
namespace DL
open PySem PySem.Spec PyProof.Rows L2
open PySem.W (nsIn excIn tailIn nsOkIn mroIn clsIn typeIn findIn specialIn takesIn kitOne Looks)
noncomputable abbrev bmV:List Value:=[.type "ValueError",.type "Exception",.type "BaseException",.type "object"]
noncomputable def ZbO (K:PySem.W.Frag) (c:Str):Option Addr:=match nsIn K mainGlobals c with | some (some (.ref C))=>some C | _=>none
theorem Zcc {K:PySem.W.Frag} {c:Str} {C:Addr} (h:ZbO K c=some C):nsIn K mainGlobals c=some (some (.ref C)):=by
 unfold ZbO at h
 split at h
 ·rename_i C' e;cases h;exact e
 ·cases h
noncomputable def Ztx (K:PySem.W.Frag) (c:Str):Bool:=match ZbO K c with
 |some C=>excIn K C bmV "ValueError.__new__" && findIn K (.ref C) "__getattribute__" == some (some (.builtin "BaseException.__getattribute__")) && findIn K (.ref C) "__getattr__" == some none && findIn K (.ref C) "__class__" == some (some (.builtin "object.__class__")) &&
  specialIn K (.builtin "object.__class__") "__get__" == some (some (.builtin "getset_descriptor.__get__")) && takesIn K (.builtin "object.__class__") == some true && mroIn K C (.type "BaseException") == some true && mroIn K C (.type "object") == some true && (clsIn K C).isSome
 |none=>false
noncomputable def Zgt (K:PySem.W.Frag) (c:Str):Bool:=match ZbO K c with
 |some C=>findIn K (.ref C) "__getattribute__" == some (some (.builtin "BaseException.__getattribute__")) && findIn K (.ref C) "__getattr__" == some none && findIn K (.ref C) "__class__" == some (some (.builtin "object.__class__")) &&
  specialIn K (.builtin "object.__class__") "__get__" == some (some (.builtin "getset_descriptor.__get__")) && takesIn K (.builtin "object.__class__") == some true && mroIn K C (.type "BaseException") == some true && mroIn K C (.type "object") == some true && (clsIn K C).isSome
 |none=>false
theorem Zjc {K:PySem.W.Frag} {c:Str} (h:Zgt K c=true): ∃ C,nsIn K mainGlobals c=some (some (.ref C))/\DQ.ExcC K C:=by
 unfold Zgt at h
 split at h
 ·rename_i C e
  simp only[Bool.and_eq_true,beq_iff_eq] at h
  obtain ⟨⟨⟨⟨⟨⟨⟨h2,h3⟩,h4⟩,h5⟩,h6⟩,h7⟩,h8⟩,h9⟩:=h
  exact ⟨C,Zcc e,h2,h3,h4,h5,h6,h7,h8,h9⟩
 ·cases h
noncomputable def Z6 (K:PySem.W.Frag) (d:Str) (tab:List (Str × Bool)):Bool:=match ZbO K d with
 |some D=>tab.all fun p=>Zgt K p.1 && (match ZbO K p.1 with | some C=>kitOne K (.ref C) (.ref D) == some p.2 | none=>false)
 |none=>false
noncomputable def ZhT (K:PySem.W.Frag) (T:String) (tab:List (Str × Bool)):Bool:=tab.all fun p=>Zgt K p.1 && (match ZbO K p.1 with | some C=>kitOne K (.ref C) (.type T) == some p.2 | none=>false)
noncomputable def ZfU (K:PySem.W.Frag) (d:Str) (cs:List Str):Bool:=match ZbO K d with
 |some D=>mroIn K D (.type "BaseException") == some true && typeIn K (.ref D) == some (.type "type") && (clsIn K D).isSome && cs.all fun c=>Zgt K c && (match ZbO K c with | some C=>mroIn K C (.ref D) == some true | none=>false)
 |none=>false
theorem ZfV {K:PySem.W.Frag} {c:Str} {C:Addr} (h:nsIn K mainGlobals c=some (some (.ref C))):ZbO K c=some C:=by
 unfold ZbO
 rw[h]
theorem Zk2 {α:Type} {tab:List (Str × α)} {c:Str} {b:α} (h:tab.lookup c=some b):(c,b)∈tab:=PySem.mem_of_lookup h
noncomputable def Zan (tab:List (Str × Bool)) (f:Ev):Ev:=fun ρ M=>(f ρ M).bind fun x M1=>match x with | .err c _=>(match tab.lookup c with | some b=> .ok (.bl b) M1 | none=> .bad) | _=> .bad
section
variable {X:Cx} {ξ:XK} {e:Expr} {fa:Ev} {p pos:Pos} {tab:List (Str × Bool)}
noncomputable def Zsy (X:Cx) (cv2:V) (tab:List (Str × Bool)):List V->Hp->VK->Prop:=fun vs H Q=> ∃ (q:Addr) (C:Addr) (c:Str) (xs:List V) (b:Bool),vs=[.ref q,cv2]/\EOk H q C xs/\nsIn X.K mainGlobals c=some (some (.ref C))/\tab.lookup c=some b/\Q (.bl b) H
theorem Zk3 {H:Hp} {pins:List (Addr × Obj)} {σ:L2.St} {s:Shared} {q C:Addr} {xs:List V} (I:Inv X pins σ H s) (h:EOk H q C xs): ∃ oe od,PySem.W.InstAt s.heap q oe C od:=by
 obtain ⟨oe,u,vs,h1,h2,h3,h4,h5⟩:=h
 have g:=(I.hok q _ h1).1
 have nc:PySem.W.notCls oe=true:=by unfold PySem.W.notCls;rw[h3]
 rcases h5 with ⟨_,h5⟩ | ⟨dx,fs,k1,k2,k3⟩
 ·exact ⟨oe,none,g,h2,nc,by rw[h5];trivial⟩
 ·obtain ⟨o,he⟩:=Zca (I.hok _ _ k2)
  exact ⟨oe,some o,g,h2,nc,by rw[k1];exact he⟩
theorem Zjd {cv:Value} {cv2:V} (hv: ∀ w,Zaf cv2 w->w=cv) (ht: ∀ c b C,tab.lookup c=some b->nsIn X.K mainGlobals c=some (some (.ref C))->DQ.ExcC X.K C/\kitOne X.K (.ref C) cv=some b):ZbM X (.builtin "isinstance") (Zsy X cv2 tab):=by
 intro pins s σ H vs us Q I rs ⟨q,C,c,xs,b,e1,h1,h2,h3,h4⟩
 subst e1
 obtain ⟨u,w,rfl,ru,rw'⟩:=Zhh rs
 cases (show u=Value.ref q from ru)
 cases hv w rw'
 obtain ⟨oe,od,J⟩:=Zk3 I h1
 obtain ⟨k1,k2⟩:=ht c b C h3 h2
 exact PySem.W.kia_one (DQ.Zi1 k1) I.kIn J k2 (fun z=>nomatch z) fun tk=>⟨.bl b,H,I.tok tk,rfl,h4⟩
theorem Zj7 {K:PySem.W.Frag} {cv:Value} (h: ∀ p∈tab,Zgt K p.1=true/\ ∃ C,ZbO K p.1=some C/\kitOne K (.ref C) cv=some p.2): ∀ c b C,tab.lookup c=some b->nsIn K mainGlobals c=some (some (.ref C))->DQ.ExcC K C/\kitOne K (.ref C) cv=some b:=by
 intro c b C h1 h2
 obtain ⟨h3,C',h4,h5⟩:=h (c,b) (Zk2 h1)
 obtain ⟨C'',h6,h7⟩:=Zjc h3
 rw[h2] at h6
 cases h6
 rw[ZfV h2] at h4
 cases h4
 exact ⟨h7,h5⟩
theorem ZhU {ty:Expr} {cv:Value} {cv2:V} (hv: ∀ w,Zaf cv2 w->w=cv) (ht: ∀ c b C,tab.lookup c=some b->nsIn X.K mainGlobals c=some (some (.ref C))->DQ.ExcC X.K C/\kitOne X.K (.ref C) cv=some b) (hty:PE X ty (tC cv2)) (hm:X.mg "isinstance"=none) (ha:DE X ξ e fa) (hg:Gl X "isinstance":=by rfl)
  (he:starEach [e,ty] X.env=(false,eval e X.env) :: starEach [ty] X.env:=by rfl) (he2:starEach [ty] X.env=(false,eval ty X.env) :: starEach [] X.env:=by rfl) (hpl:(backTo pos (starEach [ty] X.env)).any (·.1)=false:=by rfl):DE X ξ (.Call (.Name "isinstance" p) [e,ty] [] pos) (Zan tab fa):=by
 obtain ⟨ta,ha,qa⟩:=ha
 refine ⟨_,ZdL (Zjd hv ht) hg hm (by with_unfolding_all rfl) (ZbT ha (ZbT hty ZfC he2) he) (by decide) (by decide) he hpl,fun σ ρ H α M Q s h q=> ?_⟩
 refine qa σ ρ H α M _ s h (OG.seq q fun x M1 v H1 α1 e1 h1 r1 q1=> ?_)
 cases r1 with
 | @err q C c xs ds k1 k2 k3=>
  cases et:tab.lookup c with
  |none=>simp only[et] at q1;exact q1.elim
  |some b=>
   simp only[et] at q1
   exact ⟨q,C,c,xs,b,rfl,k2,k1,et,q1 _ H1 α1 Ext.refl h1 (.bl _)⟩
 |_=>exact q1.elim
theorem ZaN {y:Str} {p2:Pos} (ht:Z6 X.K y tab=true) (gl: ∀ c v,nsIn X.K mainGlobals c=some (some v)->X.mg c=some v) (hm:X.mg "isinstance"=none) (ha:DE X ξ e fa) (hg:Gl X "isinstance":=by rfl) (hgT:Gl X y:=by rfl) (hdb:(y == ("__debug__":Str))=false:=by decide)
  (he:starEach [e,.Name y p2] X.env=(false,eval e X.env) :: starEach [.Name y p2] X.env:=by rfl) (he2:starEach [.Name y p2] X.env=(false,eval (.Name y p2) X.env) :: starEach [] X.env:=by rfl) (hpl:(backTo pos (starEach [.Name y p2] X.env)).any (·.1)=false:=by rfl):DE X ξ (.Call (.Name "isinstance" p) [e,.Name y p2] [] pos) (Zan tab fa):=by
 unfold Z6 at ht
 split at ht
 ·rename_i D hD
  refine ZhU (cv:= .ref D) (cv2:= .ref D) (fun w z=>z) (Zj7 fun q hq=> ?_) (ZkC hgT (gl y _ (Zcc hD)) rfl hdb) hm ha hg he he2 hpl
  have z:=List.all_eq_true.mp ht q hq
  rw[Bool.and_eq_true] at z
  refine ⟨z.1,?_⟩
  cases hc:ZbO X.K q.1 with
  |none=>rw[hc] at z;cases z.2
  |some C=>rw[hc] at z;exact ⟨C,rfl,beq_iff_eq.mp z.2⟩
 ·cases ht
theorem Zm7 {y:Str} {T:String} {p2:Pos} (ht:ZhT X.K T tab=true) (hm:X.mg "isinstance"=none) (hmT:X.mg y=none) (hvT:bootBuiltins y=some (.type T)) (ha:DE X ξ e fa) (hg:Gl X "isinstance":=by rfl) (hgT:Gl X y:=by rfl) (hn:y≠"__name__":=by decide) (hdb:(y == ("__debug__":Str))=false:=by decide)
  (he:starEach [e,.Name y p2] X.env=(false,eval e X.env) :: starEach [.Name y p2] X.env:=by rfl) (he2:starEach [.Name y p2] X.env=(false,eval (.Name y p2) X.env) :: starEach [] X.env:=by rfl) (hpl:(backTo pos (starEach [.Name y p2] X.env)).any (·.1)=false:=by rfl):DE X ξ (.Call (.Name "isinstance" p) [e,.Name y p2] [] pos) (Zan tab fa):=by
 refine ZhU (cv:= .type T) (cv2:= .ty T) (fun w z=>z) (Zj7 fun q hq=> ?_) (Zhc hgT hmT hvT (v:= .ty T) rfl hn hdb) hm ha hg he he2 hpl
 have z:=List.all_eq_true.mp ht q hq
 rw[Bool.and_eq_true] at z
 refine ⟨z.1,?_⟩
 cases hc:ZbO X.K q.1 with
 |none=>rw[hc] at z;cases z.2
 |some C=>rw[hc] at z;exact ⟨C,rfl,beq_iff_eq.mp z.2⟩
theorem ZdW:bootBuiltins "ValueError"=some (.type "ValueError"):=by decide +kernel
theorem Zm8 {P:Program} {w:World} {H:Hp} {h:Heap} {e:Addr} (k:HOk P w H h) (hn:h.get? e=none):H e=none:=by
 cases z:H e with
 |none=>rfl
 |some u=>obtain ⟨o,g⟩:=Zca (k e u z);rw[hn] at g;cases g
noncomputable def ZfW (c:Str) (fs:Av):Sv:=fun ρ M=>Z0 (fs ρ M) fun ds M1=>if ds.length<=1000 then .exc c M1 else .bad
end
end DL
end
section
namespace DL
open PySem PySem.Spec PyProof.Rows L2
open PySem.W (nsIn excIn tailIn nsOkIn mroIn clsIn typeIn findIn specialIn takesIn kitOne Looks looks_mroIn looks_typeIn)
theorem ZhV {K:PySem.W.Frag} {e C D:Addr} {oe:Obj} {od:Option Obj} {b:Bool} {prog:Program} {w:World} {A:Around} {E:Value->Shared->Prop} {s:Shared} {Q:Bool->Shared->Prop} (X:K.In s.heap) (I:PySem.W.InstAt s.heap e oe C od)
  (hD:typeIn K (.ref D)=some (.type "type")) (hi:(clsIn K D).isSome=true) (hb:mroIn K D (.type "BaseException")=some true) (hm:mroIn K C (.ref D)=some b) (h:Q b s):wpAny (model prog w) A (excMatches (.ref e) (.ref D)) Q E s:=by
 obtain ⟨hh,g,d,tk,os⟩:=s
 have L0:=I.type (M:=model prog w)
 have L1:=looks_typeIn (M:=model prog w) X hD
 have L2:Looks (model prog w) hh (isInstance (.ref D) (.type "tuple")) false:=L1.andThen (Looks.of_pure tc_notTuple)
 have L3:Looks (model prog w) hh (isType (.ref D)) true:=by
  obtain ⟨cd,hc⟩:=Option.isSome_iff_exists.mp hi
  unfold clsIn at hc
  split at hc
  ·rename_i o1 o2 o3 o4 ho
   intro A' Q' E' s' k q
   unfold isType loadHead
   exact wpAny_bind (wpAny_loadPart (k _ _ (X _ _ ho)) (wpAny_pure q))
  ·cases hc
 have L4:=looks_mroIn (M:=model prog w) X hb
 have L5:=looks_mroIn (M:=model prog w) X hm
 have L6:Looks (model prog w) hh (isExcClass (.ref D)) true:=L3.andThen (by simpa using L4)
 unfold excMatches
 refine wpAny_bind (L2.at ?_)
 simp only[Bool.false_eq_true,if_false]
 refine wpAny_bind (m:=forIn [Value.ref D] _ _) ?_
 rw[List.forIn_cons]
 refine wpAny_bind (wpAny_bind (L6.at ?_))
 simp only[Bool.not_true,Bool.false_eq_true,if_false]
 refine wpAny_pure ?_
 dsimp only
 rw[List.forIn_nil]
 refine wpAny_pure (wpAny_bind (L0.at (wpAny_bind ?_)))
 rw[List.forIn_cons]
 refine wpAny_bind (wpAny_bind (L5.at ?_))
 cases b with
 |true=>exact wpAny_pure (wpAny_pure (wpAny_pure h))
 |false=>
  simp only[Bool.false_eq_true,if_false]
  refine wpAny_pure ?_
  dsimp only
  rw[List.forIn_nil]
  exact wpAny_pure (wpAny_pure h)
noncomputable def Cx.han (X:Cx) (e:Addr):Cx:={ X with A:=X.A.mark (some (.ref e)),calm:=false,xe:=fun _ _=>False }
noncomputable def Cx.tri (X:Cx) (pn:List (Addr × Obj)) (xe:Value->Shared->Prop) (W:List Bool) (σ:L2.St):Cx:={ X with pn:=pn,xe:=xe,fxs:=some (W,σ) }
theorem Zc8 {j k:Nat} {A:Around} {v:Value} (r:Room k A) (h:j<=k) (hj:j < 100):Room j (A.mark (some v)):=⟨fun z=>absurd z (Nat.not_le_of_lt hj),r.gd,(r.mono h).dp,(r.mono h).un⟩
theorem ZhW {X:Cx} {e:Addr}:Thr (Cx.han X e) E0:=⟨PassesOwn.never,fun _ _ _ _ _ _ _ ⟨_,_,_,_,_,_,_,_,_,_,_,_,_,q⟩=>q,fun _ _ _ _ _ _ _ _ _ _ _ _ _ _ _ _ _ _ _ _ _ _ q=>q⟩
section
variable {X:Cx} {pins pins' pn:List (Addr × Obj)} {σ:L2.St} {H H':Hp} {s:Shared} {xe:Value->Shared->Prop} {e:Addr}
theorem Zm9 (ok:X.Ok):(Cx.han X e).Ok:=
 ⟨ok.mod,ok.kind,ok.glob,ok.blt,ok.above,ok.inj,ok.has,ok.cab,fun z=>(by cases z),ok.frames,ok.stk,ok.exf,ok.bs,ok.bsz,ok.noex,ok.exfs,ok.funs,ok.frf⟩
theorem Zje (ok:(Cx.han X e).Ok) (hh:X.A.handled=none):X.Ok:=
 ⟨ok.mod,ok.kind,ok.glob,ok.blt,ok.above,ok.inj,ok.has,ok.cab,fun _=>hh,ok.frames,ok.stk,ok.exf,ok.bs,ok.bsz,ok.noex,ok.exfs,ok.funs,ok.frf⟩
theorem Zna {W:List Bool} (ok:X.Ok):(Cx.tri X pn xe W σ).Ok:=
 ⟨ok.mod,ok.kind,ok.glob,ok.blt,ok.above,ok.inj,ok.has,ok.cab,ok.hd,ok.frames,ok.stk,ok.exf,ok.bs,ok.bsz,ok.noex,ok.exfs,ok.funs,ok.frf⟩
theorem Zjf {W:List Bool} (ok:(Cx.tri X pn xe W σ).Ok):X.Ok:=
 ⟨ok.mod,ok.kind,ok.glob,ok.blt,ok.above,ok.inj,ok.has,ok.cab,ok.hd,ok.frames,ok.stk,ok.exf,ok.bs,ok.bsz,ok.noex,ok.exfs,ok.funs,ok.frf⟩
theorem Zk4 (I:Inv X pins σ H s) (q:Qd (X.A.mark (some (.ref e))) H):Inv (Cx.han X e) pins σ H s:=⟨Zm9 I.ok,I.os,I.bare,I.base,I.loc,I.cell,I.free,I.freeC,I.pin,I.hok,I.len,q,I.fx⟩
theorem ZeH (I:Inv (Cx.han X e) pins σ H s) (hh:X.A.handled=none):Inv X pins σ H s:=⟨Zje I.ok hh,I.os,I.bare,I.base,I.loc,I.cell,I.free,I.freeC,I.pin,I.hok,I.len,.inl hh,I.fx⟩
theorem Zk5 {W:List Bool} (I:Inv X pins σ H s):Inv (Cx.tri X (X.pn ++ pins) xe W σ) [] σ H s:=⟨Zna I.ok,I.os,I.bare,I.base,I.loc,I.cell,I.free,I.freeC,fun p hp=>I.pin p (by rw[List.append_nil] at hp;exact hp),I.hok,I.len,I.qd,fun W' σ0 e j _=>by cases e;rfl⟩
theorem Za7 {W:List Bool} {σ0:L2.St} (hx:X.fxs=none) (I:Inv (Cx.tri X (X.pn ++ pins) xe W σ0) pins' σ H s):Inv X pins σ H s:=⟨Zjf I.ok,I.os,I.bare,I.base,I.loc,I.cell,I.free,I.freeC,fun p hp=>I.pin p (List.mem_append_left _ hp),I.hok,I.len,I.qd,.free hx⟩
theorem ZeI (fxn:X.fxs=none) (I:Inv X pins σ H s) {h':Heap} {m':Str->Option Value} {t:Nat} (hn:h'.Ns X.env.locals m') (hs:Heap.SameBut X.env.locals s.heap h'):Inv X pins (List.replicate X.N.length none) H { s with heap:=h',toks:=t }:=by
 obtain ⟨m,⟨oL,es,ep,hoL,hdL,r⟩,hl⟩:=id I.loc
 have neL: ∀ b o,X.s₀.heap.get? b=some o->b≠X.env.locals:=fun b o x=>Nat.ne_of_lt (Nat.lt_of_lt_of_le (Heap.lt_size x) I.ok.above)
 refine ⟨I.ok,I.os,I.bare,⟨fun b o x n hb hx=>(hs.2 b (neL b o x)).trans (I.base.keep b o x n hb hx),fun b o x n hb hx=> ?_,I.base.free,fun b o x hx=> ?_,I.base.tups,I.base.frzs,I.base.tbls⟩,⟨m',hn,fun i x v e1 e2 e3=> ?_⟩,fun x c z=> ?_,I.free,I.freeC,fun p hp=> ?_,fun b u z=> ?_,?_,I.qd,.free fxn⟩
 ·obtain ⟨sl,z⟩:=I.base.slot b o x n hb hx
  exact ⟨sl,(hs.2 b (neL b o x)).trans z⟩
 ·obtain ⟨o',z⟩:=I.base.there b o x hx
  exact ⟨o',(hs.2 b (neL b o x)).trans z⟩
 ·rw[List.getElem?_replicate] at e2
  split at e2<;>cases e2
 ·obtain ⟨v,q⟩:=I.cell x c z
  exact ⟨v,q.sameBut hs (I.cne x c z)⟩
 ·obtain ⟨g1,g2,g3,g4,g5⟩:=I.pin p hp
  exact ⟨(hs.2 p.1 g3).trans g1,g2,g3,g4,g5⟩
 ·refine (I.hok b u z).stay (fun c w' hc q=>(hs.2 c ?_).trans q) (fun _ q=>q) fun _ _ q=>q
  rintro rfl
  rcases hc with rfl | hc
  ·rw[I.free] at z;cases z
  ·rw[I.free] at hc;cases hc
 ·rw[List.length_replicate]
theorem ZhX (I:Inv X pins σ H s) {a:Addr} {o:Obj} {vs:Array Value} (hn:H a=none) (he:s.heap.get? a=some o) (hd:o.data= .fields vs) (h0:X.s₀.heap.get? a=none) (hp: ∀ p∈X.pn ++ pins,p.1≠a):Inv X pins σ (upd H a (.frz o (.own 0))) s:=by
 have ne: ∀ b u,H b=some u->b≠a:=fun b u z q=>by rw[q,hn] at z;cases z
 refine ⟨I.ok,I.os,I.bare,⟨I.base.keep,I.base.slot,fun b o' x n hx=> ?_,I.base.there,fun b xs x=> ?_,fun b o' u x=> ?_,fun b ps x=> ?_⟩,I.loc,I.cell,?_,fun x c z=> ?_,fun p hp'=> ?_,fun b u z=> ?_,I.len,I.qd.mono fun b o' u x=> ?_,I.fx⟩
 ·rw[Zo (fun z=>by rw[z,h0] at x;cases x)]
  exact I.base.free b o' x n hx
 ·have:=I.base.tups b xs x
  rw[Zo (ne b _ this)];exact this
 ·have:=I.base.frzs b o' u x
  rw[Zo (ne b _ this)];exact this
 ·obtain ⟨m1,z⟩:=I.base.tbls b ps x
  exact ⟨m1,by rw[Zo (ne b _ z)];exact z⟩
 ·rw[Zo (fun z=> ?_)]
  ·exact I.free
  ·obtain ⟨m,⟨oL,es,ep,hoL,hdL,r⟩,_⟩:=I.loc
   rw[z,he] at hoL
   cases hoL
   rw[hd] at hdL
   cases hdL
 ·rw[Zo (fun q=> ?_)]
  ·exact I.freeC x c z
  ·obtain ⟨v,oc,g1,g2⟩:=I.cell x c z
   rw[q,he] at g1
   cases g1
   rw[hd] at g2
   cases g2
 ·obtain ⟨g1,g2,g3,g4,g5⟩:=I.pin p hp'
  exact ⟨g1,by rw[Zo (hp p hp')];exact g2,g3,g4,g5⟩
 ·by_cases hb:b=a
  ·subst hb
   rw[Zn] at z
   cases z
   exact ⟨he,⟨o,he⟩⟩
  ·rw[Zo hb] at z
   exact (I.hok b u z).stay (fun _ _ _ q=>q) (fun c q=>by rw[Zo (ne c _ q)];exact q) fun c xs q=>by rw[Zo (ne c _ q)];exact q
 ·rw[Zo (ne b _ x)];exact x
theorem Zk6 {h1 h2 B:Heap} (I:Inv X pins σ H s) (u:Un (frs X.stack) [] H H' s.heap h1) (hok:HOk X.prog X.w H' h1) (t1: ∀ b q,H' b=some q-> ∃ o,B.get? b=some o) (t2: ∀ b o,s.heap.get? b=some o->b ∉ frs X.stack-> ∃ o',B.get? b=some o')
  (st1:B.StaysIn h1) (st2:B.StaysIn h2) (up:h1.UpToSlots h2):Un (frs X.stack) [] H H' s.heap h2/\HOk X.prog X.w H' h2:=by
 have kB: ∀ b ob o,B.get? b=some ob->h1.get? b=some o->h2.get? b=some o:=fun b ob o e x=>by
  have z:=st1 b ob e
  rw[x] at z
  cases z
  exact st2 b _ e
 have sl: ∀ b o,s.heap.get? b=some o->H b=none->b∈frs X.stack-> ∃ sl,h2.get? b=some { o with slots:=sl }:=fun b o x n hb=>by
  obtain ⟨s2,e2⟩:=u.any x n (by simp)
  obtain ⟨_,o',g1,g2⟩:=I.stack.mem hb
  rw[x] at g1
  cases g1
  obtain ⟨s3,e3⟩:=up b _ e2 g2
  exact ⟨s3,e3⟩
 refine ⟨⟨fun b o x n hb _=> ?_,fun b o x n hb _=>sl b o x n hb,u.free,fun b o x _=> ?_,u.tups,u.frzs,u.tbls⟩,fun a o x=> ?_⟩
 ·obtain ⟨ob,g⟩:=t2 b o x hb
  exact kB b ob o g (u.keep b o x n hb (by simp))
 ·by_cases hb:b∈frs X.stack
  ·obtain ⟨s1,e1⟩:=sl b o x (I.stkFree b hb) hb
   exact ⟨_,e1⟩
  ·obtain ⟨ob,g⟩:=t2 b o x hb
   exact ⟨ob,st2 b ob g⟩
 ·refine (hok a o x).stay (fun b q hb y=> ?_) (fun _ q=>q) fun _ _ q=>q
  have tr: ∃ q,H' b=some q:=by
   rcases hb with z | z
   ·exact ⟨o,z ▸ x⟩
   ·exact ⟨_,z⟩
  obtain ⟨q',z⟩:=tr
  obtain ⟨ob,g⟩:=t1 b q' z
  exact kB b ob q g y
end
theorem Zgu {M:Model} {A:Around} {E:Value->Shared->Prop} {s:Shared} {B:Heap} {env:Env} {outer:List Env} {L e:Addr} {oe:Obj} {vs:Array Value} {Q:Unit->Shared->Prop} (hfr:A.frames=some (env :: outer)) (hf:env.frame=some L) (hl:s.heap.FunFrames B (env :: outer)) (he:s.heap.get? e=some oe) (hs:B.StaysIn s.heap) (hb:B.get? e=none) (hd:oe.data= .fields vs) (h1:vs[1]?=some .none) (h2:vs[2]?=some .none)
  (h: ∀ h',DQ.Fly B (env :: outer) e oe.cls oe.dict (rawInt L) h'->s.heap.UpToSlots h'->Q () { s with heap:=h' }):wpAny M A (noteFrame (.ref e) env) Q E s:=by
 unfold noteFrame
 simp only[hf]
 refine wpAny_bind (wpAny_field he hd h1 ?_)
 rw[if_neg (by decide)]
 exact DQ.ZcY hfr hl hf he hs hb hd (Array.getElem?_eq_some_iff.mp h2).1 h2 h
noncomputable def kpR:List Bool->Ro->Ro
 |b :: m,x :: r=>(bif b then none else x) :: kpR m r
 |_,[]=>[]
 | [],_ :: r=>none :: kpR [] r
theorem Zfg: ∀ (W:List Bool) (ρ:Ro),(kpR W ρ).length=ρ.length
 | [],[]=>rfl
 |_ :: _,[]=>rfl
 | [],_ :: r=>by rw[kpR,List.length_cons,List.length_cons,Zfg [] r]
 |_ :: m,_ :: r=>by rw[kpR,List.length_cons,List.length_cons,Zfg m r]
theorem ZhY: ∀ (W:List Bool) (ρ:Ro) (j:Nat) (d:D),(kpR W ρ)[j]?=some (some d)->W[j]?=some false/\ρ[j]?=some (some d)
 | [],[],_,_,h=>by simp[kpR] at h
 |_ :: _,[],_,_,h=>by simp[kpR] at h
 | [],_ :: r,0,_,h=>by simp[kpR] at h
 | [],x :: r,j + 1,d,h=>by
  have:=ZhY [] r j d (by simpa [kpR] using h)
  simp at this
 |b :: m,x :: r,0,d,h=>by
  cases b with
  |true=>simp[kpR] at h
  |false=>exact ⟨rfl,by simpa [kpR] using h⟩
 |b :: m,x :: r,j + 1,d,h=>by
  have:=ZhY m r j d (by simpa [kpR] using h)
  simpa using this
noncomputable def fsE (c:Str) (M:Sto):List D:=if Zgp c=true then (match M.getLast? with | some (.lst xs)=>xs | none=>[]) else []
noncomputable def stE (c:Str) (M:Sto):Sto:=if Zgp c=true then M.dropLast else M
theorem ZbW {c:Str} {M:Sto} (h:Zgp c=false):fsE c M=[]:=by unfold fsE;rw[h];rfl
theorem ZbX {c:Str} {M:Sto} (h:Zgp c=false):stE c M=M:=by unfold stE;rw[h];rfl
theorem Znb {c:Str} {M:Sto} {ds:List D} (h:Zgp c=true):fsE c (M ++ [.lst ds])=ds:=by unfold fsE;rw[if_pos h,List.getLast?_concat]
theorem Znc {c:Str} {M:Sto} {ds:List D} (h:Zgp c=true):stE c (M ++ [.lst ds])=M:=by unfold stE;rw[if_pos h,List.dropLast_concat]
theorem XO.hr {K:PySem.W.Frag} {H:Hp} {α:List Addr} {c:Str} {M:Sto} {dct:Option Addr} (h:XO K H α c M dct):HR K H α (stE c M):=by
 rcases h with ⟨h1,h2,_⟩ | ⟨h1,M0,ds,dx,fs,rfl,h2,_⟩
 ·rw[ZbX h1];exact h2
 ·rw[Znc h1];exact h2
theorem XO.rep {K:PySem.W.Frag} {H:Hp} {α:List Addr} {c:Str} {M:Sto} {e C:Addr} {oe:Obj} {vs:Array Value} (h:XO K H α c M oe.dict) (hn:H e=none) (hC:nsIn K mainGlobals c=some (some (.ref C))) (k2:oe.cls= .ref C) (k4:oe.data= .fields vs) (k5:vs[2]?=some .none):
  Rep K (upd H e (.frz oe (.own 0))) α (.ref e) (.err c (fsE c M)):=by
 have ex:Ext K H (upd H e (.frz oe (.own 0))) α α:=Ext.new0 hn
 rcases h with ⟨h1,h2,h3⟩ | ⟨h1,M0,ds,dx,fs,rfl,h2,h3,h4,h5,h6⟩
 ·rw[ZbW h1]
  exact .err hC ⟨oe,.own 0,vs,Zn,k2,k4,k5,.inl ⟨rfl,h3⟩⟩ .nil
 ·rw[Znb h1]
  refine .err hC ⟨oe,.own 0,vs,Zn,k2,k4,k5,.inr ⟨dx,fs,h3,?_,rfl,h5⟩⟩ (Reps.mono ex h6)
  rw[Zo (fun z=>by rw[z,hn] at h4;cases h4)]
  exact h4
theorem XO.inst {K:PySem.W.Frag} {P:Program} {w:World} {H:Hp} {α:List Addr} {c:Str} {M:Sto} {e C:Addr} {oe:Obj} {vs:Array Value} {hp:Heap} (h:XO K H α c M oe.dict) (hok:HOk P w H hp) (he:hp.get? e=some oe) (k2:oe.cls= .ref C) (k4:oe.data= .fields vs): ∃ od,PySem.W.InstAt hp e oe C od:=by
 have nc:PySem.W.notCls oe=true:=by unfold PySem.W.notCls;rw[k4]
 rcases h with ⟨h1,h2,h3⟩ | ⟨h1,M0,ds,dx,fs,_,h2,h3,h4,h5,h6⟩
 ·exact ⟨none,he,k2,nc,by rw[h3];trivial⟩
 ·obtain ⟨o,g⟩:=Zca (hok _ _ h4)
  exact ⟨some o,he,k2,nc,by rw[h3];exact g⟩
noncomputable def Zj8 (gb:Sv) (cs:List Str) (W:List Bool) (i:Nat) (gh:Sv):Sv:=fun ρ M=>match gb ρ M with
 | .exc c M1=>if cs.contains c=true then (match gh ((kpR W ρ).set i (some (.err c (fsE c M1)))) (stE c M1) with
  | .ret d M2=> .ret d M2
  | .nx _ M2=> .nx (List.replicate ρ.length none) M2
  |_=> .bad) else .bad
 |o=>o
section
variable {X:Cx} {ξ:XK} {d n:Str} {cs:List Str} {i:Nat} {body suite:List Stmt} {b0:Stmt} {gb gh:Sv} {pos hpos np:Pos}
theorem Zk7 {pins:List (Addr × Obj)} {σ1:L2.St} {H1 H2:Hp} {s1 s2:Shared} {h3 B:Heap} {ea C D:Addr} {c:Str} {Dn:Ends} {α1:List Addr} {M1:Sto} {fl:Value} {ρk:Ro} {dct:Option Addr}
  (fxn:X.fxs=none) (srk:SR X.K H2 α1 σ1 ρk) (hx:X.ex=[]) (hh:X.A.handled=none) (hN:X.N.Nodup) (hi:X.N[i]?=some n) (hl:X.env.kindOf n=some .local) (hg:Gl X d) (hdb:(d == ("__debug__":Str))=false) (hmD:X.mg d=some (.ref D)) (hD1:typeIn X.K (.ref D)=some (.type "type")) (hD2:(clsIn X.K D).isSome=true) (hD3:mroIn X.K D (.type "BaseException")=some true)
  (hC1:mroIn X.K C (.ref D)=some true) (hC2:nsIn X.K mainGlobals c=some (some (.ref C)))
  (hs: ∀ ea,DSs (Cx.han X ea) E0 (b0 :: suite) gh)
  (I1:Inv X pins σ1 H1 s1) (os:s2.os=s1.os) (bare:AllBare s2.gens) (un:Un (frs X.stack) [] H1 H2 s1.heap s2.heap) (hok:HOk X.prog X.w H2 s2.heap) (t1: ∀ b u,H2 b=some u-> ∃ o,B.get? b=some o) (t2: ∀ b o,s1.heap.get? b=some o->b ∉ frs X.stack-> ∃ o',B.get? b=some o')
  (st2:B.StaysIn s2.heap) (fly:DQ.Fly B X.stack ea (.ref C) dct fl h3) (up3:s2.heap.UpToSlots h3) (xo:XO X.K H2 α1 c M1 dct)
  (fp: ∀ H3,Ext X.K H2 H3 α1 α1->FP X.K H3 α1 E0 { nx:=fun _ H'=>Dn.nx (List.replicate X.N.length none) H',rt:=Dn.rt } (gh (ρk.set i (some (.err c (fsE c M1)))) (stE c M1))):
  wpAny (model X.prog X.w) X.A (setFlight (.ref ea) none) (fun _ s₃=>wpAny (model X.prog X.w) X.A (handleBy (.ref ea) X.env [.ExceptHandler (some (.Name d np)) (some n) (b0 :: suite) hpos]) (SP X pins Dn) X.xe s₃) X.xe { s2 with heap:=h3 }:=by
 refine DQ.ZcQ (s:={ s2 with heap:=h3 }) fly fun h4 f4 up4=> ?_
 have inv: ∀ h,B.StaysIn h->s2.heap.UpToSlots h->Inv X pins σ1 H2 { s2 with heap:=h }:=fun h st up=>by
  obtain ⟨a1,a2⟩:=Zk6 I1 un hok t1 t2 st2 st up
  exact I1.call' (s':={ s2 with heap:=h }) (ch:=[]) os a1 a2 bare fun b z=>absurd z (by simp)
 have J4:=inv h4 f4.stay (up3.trans up4)
 obtain ⟨oe4,vs4,T4,oT4,ts4,g1,g2,g3,g4,g5,g6⟩:=id f4.obj
 refine wpAny_handleBy_cons (codeAny_handlers_test ?_) (by intro q;cases q)
 refine Calls.Name_function_global J4.ok.kind hg (Calls.loadGlobal_global (by rw[J4.ok.glob];exact J4.mod.glob.keeps J4.bk) hmD ?_) hdb
 obtain ⟨od4,in4⟩:=XO.inst (g3 ▸ xo) J4.hok g1 g2 g4
 refine ZhV (od:=od4) J4.kIn in4 hD1 hD2 hD3 hC1 ?_
 refine codeAny_handlers_suite_as ?_
 refine DQ.ZcQ (s:={ s2 with heap:=h4 }) f4 fun h5 f5 up5=> ?_
 have J5:=inv h5 f5.stay ((up3.trans up4).trans up5)
 obtain ⟨oe,vs,T5,oT5,ts5,k1,k2,k3,k4,k5,k6⟩:=id f5.obj
 have nB:B.get? ea=none:=f5.new
 have hn:H2 ea=none:=by
  cases z:H2 ea with
  |none=>rfl
  |some u=>obtain ⟨o,q⟩:=t1 ea u z;rw[nB] at q;cases q
 have nf:ea ∉ frs X.stack:=DQ.apart f5.frames k1 k4
 have h0:X.s₀.heap.get? ea=none:=by
  cases z:X.s₀.heap.get? ea with
  |none=>rfl
  |some o=>
   have nx:ea ∉ X.ex:=by rw[hx];simp
   obtain ⟨o',q⟩:=I1.base.there ea o z nx
   obtain ⟨o2,q2⟩:=t2 ea o' q nf
   rw[nB] at q2
   cases q2
 have hp: ∀ p∈X.pn ++ pins,p.1≠ea:=fun p hp z=>by
  obtain ⟨q1,_,q3,q4,_⟩:=I1.pin p hp
  obtain ⟨o2,q2⟩:=t2 p.1 p.2 q1 (by rw[z];exact nf)
  rw[z,nB] at q2
  cases q2
 have J6:=ZhX J5 hn k1 k4 h0 hp
 have J7:=Zk4 (e:=ea) J6 (.inr ⟨ea,oe,.own 0,vs,rfl,Zn,k4,k5⟩)
 have il:i < X.N.length:=(List.getElem?_eq_some_iff.mp hi).1
 refine Zb5 (X:=Cx.han X ea) (v:= .ref ea) J7 hN hi (.inl hl) (by unfold Cx.may;rw[show (Cx.han X ea).fxs=none from fxn]) rfl (fun s8 J8=> ?_) (.inr hl)
 have ex:Ext X.K H2 (upd H2 ea (.frz oe (.own 0))) α1 α1:=Ext.new0 hn
 have rp:Rep X.K (upd H2 ea (.frz oe (.own 0))) α1 (.ref ea) (.err c (fsE c M1)):=XO.rep (k3 ▸ xo) hn hC2 k2 k4 k5
 have sr:SR X.K (upd H2 ea (.frz oe (.own 0))) α1 (σ1.set i (some (.ref ea))) (ρk.set i (some (.err c (fsE c M1)))):=(srk.mono ex).set i rp
 obtain ⟨ts,ps,qs⟩:=hs ea
 have run:=ps pins s8 _ _ { nx:=fun _ H'=>Dn.nx (List.replicate X.N.length none) H',rt:=Dn.rt } J8 (qs _ _ _ α1 (stE c M1) _ sr (xo.hr.tup hn) (fp _ ex))
 refine wpAny_mono run (fun f s9 h9=> ?_) (fun _ _ z=>z.elim)
 have hcls:(X.env.scope.kind == .class || (X.env.scope.kind == .module && X.env.locals != X.env.globals))=false:=by rw[J5.ok.kind];rfl
 cases f with
 |next=>
  obtain ⟨σ',H',J9,q⟩:=h9
  have K9:=ZeH J9 hh
  obtain ⟨m,hm,_⟩:=id K9.loc
  exact wpAny_nameGoes hl hm hcls fun h' m' hn' hs'=>⟨_,H',ZeI fxn K9 hn' hs',q⟩
 |ret u=>
  obtain ⟨v,σ',H',J9,r,q⟩:=h9
  have K9:=ZeH J9 hh
  obtain ⟨m,hm,_⟩:=id K9.loc
  exact wpAny_nameGoes hl hm hcls fun h' m' hn' hs'=>⟨v,_,H',ZeI fxn K9 hn' hs',r,q⟩
 |brk=>obtain ⟨_,_,_,q⟩:=h9;exact False.elim q
 |cont=>obtain ⟨_,_,_,q⟩:=h9;exact False.elim q
theorem Znd (hcat:ZfU X.K d cs=true) (gl: ∀ c v,nsIn X.K mainGlobals c=some (some v)->X.mg c=some v) (hh:X.A.handled=none) (hx:X.ex=[]) (hst:X.stack=X.env :: X.outer) (hf:X.env.frame=some X.env.locals) (hN:X.N.Nodup)
  (W:List Bool) (hb: ∀ pn xe σ ξ',Thr (Cx.tri X pn xe W σ) ξ'->DSs (Cx.tri X pn xe W σ) ξ' body gb) (hs: ∀ ea,DSs (Cx.han X ea) E0 (b0 :: suite) gh) (fxn:X.fxs=none:=by rfl)
  (hi:X.N[i]?=some n:=by rfl) (hl:X.env.kindOf n=some .local:=by rfl) (hg:Gl X d:=by rfl) (hdb:(d == ("__debug__":Str))=false:=by decide):
  DS X ξ (.Try body [.ExceptHandler (some (.Name d np)) (some n) (b0 :: suite) hpos] [] [] pos) (Zj8 gb cs W i gh):=by
 unfold ZfU at hcat
 split at hcat
 case h_2=>cases hcat
 rename_i D hD
 simp only[Bool.and_eq_true,beq_iff_eq,List.all_eq_true] at hcat
 obtain ⟨⟨⟨hD3,hD1⟩,hD2⟩,hall⟩:=hcat
 refine ⟨fun Dn σ H=> ∃ ρ α M,SR X.K H α σ ρ/\HR X.K H α M/\FP X.K H α ξ Dn (Zj8 gb cs W i gh ρ M),?_,fun σ ρ H α M Dn s h q=>⟨ρ,α,M,s,h,q⟩⟩
 rintro pins s σ H Dn I ⟨ρ,α,M,sr,hr,fp⟩
 refine wpAny_Try_except ?_
 have lenρ:ρ.length=X.N.length:=by rw[<- sr.1];exact I.len
 generalize hxe:(fun (e:Value) (s₁:Shared)=>wpAny (model X.prog X.w) X.A (noteFrame e X.env) (fun _ s₂=>wpAny (model X.prog X.w) X.A (setFlight e none) (fun _ s₃=>wpAny (model X.prog X.w) X.A (handleBy e X.env [.ExceptHandler (some (.Name d np)) (some n) (b0 :: suite) hpos]) (SP X pins Dn) X.xe s₃) X.xe s₂) X.xe s₁)=xe'
 have own:PassesOwn (model X.prog X.w) X.A X.env xe':=by
  rw[<- hxe]
  exact PassesOwn.looking
 have land: ∀ {pins':List (Addr × Obj)} {σ1:L2.St} {H1 H2:Hp} {s1 s2:Shared} {h3 B:Heap} {ea C:Addr} {fl:Value} {dct:Option Addr},Inv (Cx.tri X (X.pn ++ pins) xe' W σ) pins' σ1 H1 s1->s2.os=s1.os->AllBare s2.gens->Un (frs X.stack) [] H1 H2 s1.heap s2.heap->HOk X.prog X.w H2 s2.heap->
   (∀ b u,H2 b=some u-> ∃ o,B.get? b=some o)->(∀ b o,s1.heap.get? b=some o->b ∉ frs X.stack-> ∃ o',B.get? b=some o')->B.StaysIn s2.heap->DQ.Fly B X.stack ea (.ref C) dct fl h3->s2.heap.UpToSlots h3->
   (∃ c M1 α',gb ρ M= .exc c M1/\nsIn X.K mainGlobals c=some (some (.ref C))/\Ext X.K H H2 α α'/\XO X.K H2 α' c M1 dct)->
   wpAny (model X.prog X.w) X.A (setFlight (.ref ea) none) (fun _ s₃=>wpAny (model X.prog X.w) X.A (handleBy (.ref ea) X.env [.ExceptHandler (some (.Name d np)) (some n) (b0 :: suite) hpos]) (SP X pins Dn) X.xe s₃) X.xe { s2 with heap:=h3 }:=by
  intro pins' σ1 H1 H2 s1 s2 h3 B ea C fl dct I1 os bare un hok t1 t2 st2 fly up3 ⟨c,M1,α',eg,hC2,ex,hr1⟩
  unfold Zj8 at fp
  simp only[eg] at fp
  by_cases hc:cs.contains c=true
  ·rw[if_pos hc] at fp
   have hm:=hall c (List.contains_iff_mem.mp hc)
   rw[ZfV hC2] at hm
   refine Zk7 (ρk:=kpR W ρ) fxn ?_ hx hh hN hi hl hg hdb (gl d _ (Zcc hD)) hD1 hD2 hD3 (by simpa using hm.2) hC2 hs (Za7 fxn I1) os bare un hok t1 t2 st2 fly up3 hr1 fun H3 ex3=> ?_
   ·refine ⟨by rw[Zfg,lenρ];exact I1.len,fun j dd e=> ?_⟩
    obtain ⟨w1,w2⟩:=ZhY W ρ j dd e
    obtain ⟨v,v1,v2⟩:=sr.2 j dd w2
    exact ⟨v,(I1.fx W σ rfl j w1).trans v1,Rep.mono ex v2⟩
   rw[lenρ] at fp
   cases er:gh ((kpR W ρ).set i (some (.err c (fsE c M1)))) (stE c M1) with
   |ret dd M2=>rw[er] at fp;exact FP.ext (o:= .ret dd M2) fp (ex.trans ex3)
   |nx ρ2 M2=>
    rw[er] at fp
    intro σ' H' α'' e1 e2 e3
    refine fp _ H' α'' ((ex.trans ex3).trans e1) e2 ⟨by rw[List.length_replicate,List.length_replicate],fun j dd z=> ?_⟩
    rw[List.getElem?_replicate] at z
    split at z<;>cases z
   |brk ρ2 M2=>rw[er] at fp;exact fp.elim
   |cnt ρ2 M2=>rw[er] at fp;exact fp.elim
   |exc x M2=>rw[er] at fp;exact fp.elim
   |bad=>rw[er] at fp;exact fp.elim
  ·rw[if_neg hc] at fp
   exact fp.elim
 have T:Thr (Cx.tri X (X.pn ++ pins) xe' W σ) (fun cls dct H'=> ∃ C c M1 α',cls= .ref C/\gb ρ M= .exc c M1/\nsIn X.K mainGlobals c=some (some (.ref C))/\Ext X.K H H' α α'/\XO X.K H' α' c M1 dct):=by
  refine ⟨own,fun pins' σ1 H1 s1 e s2 I1 h=> ?_,fun pins' σ1 H1 H' s1 s' e oe vs C I1 os bare un hok hn he hc hd v1 v2 hne q=> ?_⟩
  ·obtain ⟨ea,C,dct,B,H2,rfl,os,bare,un,hok,fl,t1,t2,C',c,M1,α',q1,q3,q4,q5,q6⟩:=h
   cases q1
   show xe' (.ref ea) s2
   rw[<- hxe]
   have fl':DQ.Fly B (X.env :: X.outer) ea (.ref C) dct .none s2.heap:=hst ▸ fl
   refine DQ.ZfG (by rw[<- hst];exact I1.ok.frames) hf fl' fun h3 f3 up=> ?_
   exact land I1 os bare un hok t1 t2 fl.stay (hst ▸ f3) up ⟨c,M1,α',q3,q4,q5,q6⟩
  ·obtain ⟨C',c,M1,α',q1,q3,q4,q5,q6⟩:=q
   cases q1
   show xe' (.ref e) s'
   rw[<- hxe]
   have I2:=Za7 fxn I1
   obtain ⟨t1,t2,hs',hl',hb'⟩:=ZeB I2 un hok hn he hne
   generalize ZiL s'.heap (e :: frs X.stack)=B at t2 hs' hl' hb' t1
   refine Zgu (s:=s') (by rw[<- hst];exact I2.ok.frames) hf (hst ▸ hl') he hs' hb' hd v1 v2 fun h3 f3 up=> ?_
   rw[hc] at f3
   exact land (s2:=s') I1 os bare un hok t1 t2 hs' (hst ▸ f3) up ⟨c,M1,α',q3,q4,q5,q6⟩
 obtain ⟨tb,pb,qb⟩:=hb _ _ _ _ T
 have fpb:FP X.K H α (fun cls dct H'=> ∃ C c M1 α',cls= .ref C/\gb ρ M= .exc c M1/\nsIn X.K mainGlobals c=some (some (.ref C))/\Ext X.K H H' α α'/\XO X.K H' α' c M1 dct) Dn (gb ρ M):=by
  unfold Zj8 at fp
  cases eg:gb ρ M with
  |exc c M1=>exact fun C H' α' n1 e1 dct h1=>⟨C,c,M1,α',rfl,rfl,n1,e1,h1⟩
  |nx ρ2 M2=>rw[eg] at fp;exact fp
  |ret d2 M2=>rw[eg] at fp;exact fp
  |brk ρ2 M2=>rw[eg] at fp;exact fp
  |cnt ρ2 M2=>rw[eg] at fp;exact fp
  |bad=>rw[eg] at fp;exact fp
 have run:=pb [] s σ H Dn (Zk5 I) (qb σ ρ H α M Dn sr hr fpb)
 refine wpAny_mono run (fun f s1 h1=> ?_) (fun e s1 h1=> ?_)
 ·cases f with
  |next=>
   obtain ⟨σ',H',J,q⟩:=h1
   exact wpAny_execs_nil ⟨σ',H',Za7 fxn J,q⟩
  |brk=>obtain ⟨σ',H',J,q⟩:=h1;exact ⟨σ',H',Za7 fxn J,q⟩
  |cont=>obtain ⟨σ',H',J,q⟩:=h1;exact ⟨σ',H',Za7 fxn J,q⟩
  |ret u=>obtain ⟨v,σ',H',J,r,q⟩:=h1;exact ⟨v,σ',H',Za7 fxn J,r,q⟩
 ·exact h1
end
theorem Zah {k:Nat} {A:Around} {env:Env} (hr:Room k (A.deeper env)) (h:100<=k):A.handled.isNone=true:=by
 have e:A.handled=none:=hr.hd h
 rw[e]
 rfl
end DL
end
section
namespace DL
open PySem PySem.Spec PyProof.Rows L2
noncomputable abbrev Me:=D->List D->Sto->Out D
section
variable {X:Cx} {ξ:XK} {o e:Expr} {es:List Expr} {fo fa:Ev} {fs:Av} {name:Str} {apos cpos pos:Pos} {T id:String} {r:V->List V->Hp->VK->Prop} {g:Me}
noncomputable def Zne (x:D) (M:Sto):Bool:=match x with | .ref n=>M[n]?.isSome | _=>false
noncomputable def ZpC (g:Me) (fo:Ev) (fs:Av):Ev:=fun ρ M=>(fo ρ M).bind fun x M1=>if Zne x M1=true then (fs ρ M1).bind fun ds M2=>g x ds M2 else .bad
noncomputable def Zrl:Me:=fun x ds M=>match x,ds with
 | .ref n,[d]=>(match M[n]? with | some (.lst xs)=>if xs.length < 10000000 then .ok .non (M.set n (.lst (xs ++ [d]))) else .bad | none=> .bad)
 |_,_=> .bad
noncomputable def Zrm:Me:=fun x ds M=>match x,ds with
 | .ref n,[]=>(match M[n]? with | some (.lst _)=> .ok .non (M.set n (.lst [])) | none=> .bad)
 |_,_=> .bad
noncomputable def Zrn:Me:=fun x ds M=>match x,ds with
 | .ref n,[.ref m]=>(match M[n]?,M[m]? with | some (.lst xs),some (.lst ys)=>if xs.length + ys.length<=10000000 then .ok .non (M.set n (.lst (xs ++ ys))) else .bad | _,_=> .bad)
 |_,_=> .bad
noncomputable def DO (X:Cx) (ξ:XK) (e:Option Expr) (f:Ro->Sto->Out (Option Int)):Prop:= ∃ t:TO,PO X e t/\ ∀ σ ρ H α M (Q:Option Int->Hp->Prop),SR X.K H α σ ρ->HR X.K H α M->OG X.K (fun _ _ v d=>v=d) H α ξ Q (f ρ M)->t σ H Q
noncomputable def oNo:Ro->Sto->Out (Option Int):=fun _ M=> .ok none M
noncomputable def oSo (f:Ev):Ro->Sto->Out (Option Int):=fun ρ M=>(f ρ M).bind fun x M1=>match x with | .int i=> .ok (some i) M1 | _=> .bad
theorem ZaA:DO X ξ none oNo:=⟨_,ZkO,fun σ ρ H α M Q s h q=>q none H α Ext.refl h rfl⟩
theorem Zal (ha:DE X ξ e fa):DO X ξ (some e) (oSo fa):=by
 obtain ⟨ta,pa,qa⟩:=ha
 refine ⟨_,ZkP pa,fun σ ρ H α M Q s h q=> ?_⟩
 refine qa σ ρ H α M _ s h (OG.seq q fun x M1 v H1 α1 e1 h1 r1 q1=> ?_)
 cases r1 with
 |int i=>exact ⟨i,rfl,q1 (some i) H1 α1 Ext.refl h1 rfl⟩
 |_=>exact q1.elim
noncomputable def Zej (xs:List D) (lo hi:Option Int):List D:=(xs.drop (HT.sIx xs.length 0 lo)).take (HT.sIx xs.length xs.length hi - HT.sIx xs.length 0 lo)
theorem Reps.drop {K:PySem.W.Frag} {H:Hp} {α:List Addr}: ∀ (n:Nat) {vs:List V} {ds:List D},Reps K H α vs ds->Reps K H α (vs.drop n) (ds.drop n)
 |0,_,_,h=>h
 |_ + 1,_,_,.nil=> .nil
 |n + 1,_,_,.cons _ t=>Reps.drop n t
theorem Reps.take {K:PySem.W.Frag} {H:Hp} {α:List Addr}: ∀ (n:Nat) {vs:List V} {ds:List D},Reps K H α vs ds->Reps K H α (vs.take n) (ds.take n)
 |0,_,_,_=> .nil
 |_ + 1,_,_,.nil=> .nil
 |n + 1,_,_,.cons r t=> .cons r (Reps.take n t)
theorem Reps.cut {K:PySem.W.Frag} {H:Hp} {α:List Addr} {vs:List V} {ds:List D} (r:Reps K H α vs ds) (lo hi:Option Int):Reps K H α (ZjW vs lo hi) (Zej ds lo hi):=by
 unfold ZjW Zej
 rw[r.length]
 exact (r.drop _).take _
noncomputable def eSl (f:Ev) (lo hi:Ro->Sto->Out (Option Int)):Ev:=fun ρ M=>(f ρ M).bind fun x M1=>(lo ρ M1).bind fun l M2=>(hi ρ M2).bind fun u M3=>match x with
 | .ref n=>(match M3[n]? with | some (.lst xs)=> .ok (.ref M3.length) (M3 ++ [.lst (Zej xs l u)]) | none=> .bad)
 | .rol xs=> .ok (.ref M3.length) (M3 ++ [.lst (Zej xs l u)])
 | .tup xs=>if HT.sIx xs.length 0 l=0/\HT.sIx xs.length xs.length u=xs.length then .bad else .ok (.tup (Zej xs l u)) M3
 |_=> .bad
theorem Zao {lo hi:Option Expr} {fl fh:Ro->Sto->Out (Option Int)} {p2:Pos} (he:DE X ξ e fa) (hl:DO X ξ lo fl) (hh:DO X ξ hi fh):DE X ξ (.Subscript e (.Slice lo hi none p2) pos) (eSl fa fl fh):=by
 obtain ⟨ta,pa,qa⟩:=he
 obtain ⟨tl,pl,ql⟩:=hl
 obtain ⟨th,ph,qh⟩:=hh
 refine ⟨_,ZiW (SlR.or ZkT ZmA) pa pl ph,fun σ ρ H α M Q s h q=> ?_⟩
 refine qa σ ρ H α M _ s h (OG.seq q fun x M1 v H1 α1 e1 h1 r1 q1=> ?_)
 refine ql σ ρ H1 α1 M1 _ (s.mono e1) h1 (OG.seq q1 fun l M2 l' H2 α2 e2 h2 r2 q2=> ?_)
 refine qh σ ρ H2 α2 M2 _ ((s.mono e1).mono e2) h2 (OG.seq q2 fun u M3 u' H3 α3 e3 h3 r3 q3=> ?_)
 cases r2
 cases r3
 cases Rep.mono e3 (Rep.mono e2 r1) with
 | @ref p n hp=>
  cases em:M3[n]? with
  |none=>simp only[em] at q3;exact q3.elim
  |some so=>
   cases so with
   |lst es=>
    simp only[em] at q3
    obtain ⟨xs,g1,g2⟩:=h3.at hp em
    exact .inl ⟨p,xs,rfl,SqL.of g1,fun a ha=>q3 _ _ (α3 ++ [a]) (Ext.new ha) (h3.new ha (g2.cut l u)) (.ref ⟨h3.last a,Kn.lst Zn⟩)⟩
 | @rol p xs ds hp rp=>
  have q4:OP X.K H3 α3 ξ Q (.ok (.ref M3.length) (M3 ++ [.lst (Zej ds l u)])):=q3
  exact .inl ⟨p,xs,rfl,hp.sq,fun a ha=>q4 _ _ (α3 ++ [a]) (Ext.new ha) (h3.new ha (rp.cut l u)) (.ref ⟨h3.last a,Kn.lst Zn⟩)⟩
 | @tup p xs ds hp rp=>
  by_cases c:HT.sIx ds.length 0 l=0/\HT.sIx ds.length ds.length u=ds.length
  ·simp only[if_pos c] at q3
   exact q3.elim
  ·simp only[if_neg c] at q3
   exact .inr ⟨p,xs,rfl,(SqT.of hp),by rw[rp.length];exact c,fun a ha=>q3 _ _ α3 (Ext.new0 ha) (h3.tup ha) (.tup Zn (Reps.mono (Ext.new0 ha) (rp.cut l u)))⟩
 |_=>exact q3.elim
noncomputable def Zpb (M:Sto) (x:D):Option (List D):=match x with | .con _=>none | y=>ZcR M y
theorem ZhZ {M:Sto} {x:D} {ys:List D} (e:Zpb M x=some ys):ZcR M x=some ys/\ ∀ zs,x≠ .con zs:=by
 cases x with
 |con _=>cases e
 |_=>exact ⟨e,fun _ z=>by cases z⟩
noncomputable def bTup:List D->Sto->Out D:=fun ds M=>match ds with
 | [x]=>match Zpb M x with | some xs=> .ok (.tup xs) M | none=> .bad
 |_=> .bad
theorem Znf:CO X ξ (fun xs H Q=> ∃ p ys,xs=[.ref p]/\((SqL X.K H p ys/\ ∀ l,H l=none->Q (.ref l) (upd H l (.tup ys)))\/(SqT X.K H p ys/\Q (.ref p) H))) bTup:=by
 intro H α M vs ds Q h rs q
 unfold bTup at q
 match rs with
 | .nil=>exact q.elim
 | .cons _ (.cons _ _)=>exact q.elim
 | .cons (d:=x) r .nil=>
  cases e:Zpb M x with
  |none=>simp only[e] at q;exact q.elim
  |some ys=>
   simp only[e] at q
   obtain ⟨p,xs,rfl,h2,h3⟩:=Zi8 h r (ZhZ e).1 (ZhZ e).2
   rcases h2 with h2 | h2
   ·exact ⟨p,xs,rfl,.inl ⟨h2,fun l hl=>q _ _ α (Ext.new0 hl) (h.tup hl) (.tup Zn (Reps.mono (Ext.new0 hl) h3))⟩⟩
   ·exact ⟨p,xs,rfl,.inr ⟨SqT.of h2,q _ H α Ext.refl h (.tup h2 h3)⟩⟩
noncomputable def iR2 (fs:Av):Ro->Sto->Out Src:=fun ρ M=>(fs ρ M).bind fun ds M1=>match ds with
 | [.int i,.int j]=>if -(2 ^ 62)<=i/\i < 2 ^ 62/\ -(2 ^ 62)<=j/\j < 2 ^ 62 then .ok (.pur (ZbG i (j - i).toNat)) M1 else .bad
 |_=> .bad
end
theorem Zjg (its:List Value):slicePick its.toArray none none (some (-1))=its.reverse.toArray:=by
 have h:=ZfT its.toArray
 have e:slicePick its.toArray none none (some (-1))=((List.range its.toArray.size).filterMap fun (m:Nat)=>its.toArray[((its.toArray.size:Int) - 1 + (m:Int) * (-1)).toNat]?).toArray:=by
  unfold slicePick sliceBounds sliceRange
  simp only[Option.getD_some]
  congr 1
  rw[List.filterMap_map]
  have hc:(if (-1:Int) > 0 then (if (if (-1:Int) > 0 then (0:Int) else (its.toArray.size:Int) - 1) < (if (-1:Int) > 0 then (its.toArray.size:Int) else -1) then ((if (-1:Int) > 0 then (its.toArray.size:Int) else -1) - (if (-1:Int) > 0 then (0:Int) else (its.toArray.size:Int) - 1) + -1 - 1) / -1 else 0) else (if (if (-1:Int) > 0 then (0:Int) else (its.toArray.size:Int) - 1) > (if (-1:Int) > 0 then (its.toArray.size:Int) else -1) then ((if (-1:Int) > 0 then (0:Int) else (its.toArray.size:Int) - 1) - (if (-1:Int) > 0 then (its.toArray.size:Int) else -1) - -1 - 1) / (- -1) else 0)).toNat=its.toArray.size:=by
   simp
   split<;>omega
  rw[hc]
  refine ZdV fun m hm=> ?_
  simp only[Function.comp]
  have e2:((if (-1:Int) > 0 then (0:Int) else (its.toArray.size:Int) - 1) + -1 * (m:Int))=(its.toArray.size:Int) - 1 + (m:Int) * (-1):=by
   rw[if_neg (by decide)]
   omega
  rw[e2]
 rw[e,h]
noncomputable def eRv (f:Ev):Ev:=fun ρ M=>(f ρ M).bind fun x M1=>match x with
 | .tup xs=> .ok (.tup xs.reverse) M1
 | .ref n=>(match M1[n]? with | some (.lst xs)=> .ok (.ref M1.length) (M1 ++ [.lst xs.reverse]) | none=> .bad)
 | .rol xs=> .ok (.ref M1.length) (M1 ++ [.lst xs.reverse])
 |_=> .bad
noncomputable def tRv (K:PySem.W.Frag) (te:TE):TE:=fun σ H Q=>te σ H fun x H1=>(∃ a xs,x= .ref a/\SqT K H1 a xs/\ ∀ p,H1 p=none->Q (.ref p) (upd H1 p (.tup xs.reverse)))\/ ∃ a xs,x= .ref a/\SqL K H1 a xs/\ ∀ p,H1 p=none->Q (.ref p) (upd H1 p (.lst xs.reverse))
theorem ZpD {X:Cx} {e:Expr} {p2 p3 p4 pos:Pos} {j:Nat} {te:TE} (he:PE X e te):PE X (.Subscript e (.Slice none none (some (.UnaryOp .USub (.Constant (.int 1) j p3) p4)) p2) pos) (tRv X.K te):=by
 intro pins s σ H Q I h
 refine Subscript_ (thn (he pins s σ H _ I h) fun v s1 ⟨x,H1,I1,r1,q1⟩=> ?_)
 refine wpAny_Slice ?_
 rw[evalPart_none]
 refine wpAny_pure (wpAny_pure ?_)
 rw[evalPart_some]
 refine thn (Zmp ZjS ZjP pins s1 σ H1 (fun v H'=>v= .int (-1)/\H'=H1) I1 ⟨1,rfl,rfl,rfl⟩) fun u s2 ⟨y,H2,I2,r2,ey,eH⟩=> ?_
 subst ey eH
 obtain ⟨t,rfl⟩:=r2
 have I4:Inv X pins σ H2 { s2 with heap:=s2.heap.push { cls:= .type "slice",data:= .fields #[.none,.none,.int (-1) t] } }:=I2.kept (t':=s2.toks) fun b ob q=>Heap.get?_push_of_some _ q
 show wpAny (model X.prog X.w) X.A (subscriptTail e (.Slice none none (some (.UnaryOp .USub (.Constant (.int 1) j p3) p4)) p2) v (.ref s2.heap.objs.size)) (EP X pins σ Q) X.xe { s2 with heap:=s2.heap.push { cls:= .type "slice",data:= .fields #[.none,.none,.int (-1) t] } }
 rcases q1 with ⟨a,xs,rfl,hq,q⟩ | ⟨a,xs,rfl,hq,q⟩
 ·cases r1
  obtain ⟨its,rv,ht,hz⟩:=I4.tuple hq
  have hsz:its.toArray.size<=sizeLine:=by rw[List.size_toArray,<- rv.length];exact hz
  refine tail_any (ops:=[.ref a,.ref s2.heap.objs.size]) ht.typeIs PyProof.Rows.slot_tuple_getitem.lookup (Zcp ht (Heap.IsSliceOf.new ..) ?_ hsz) (by with_unfolding_all rfl)
  have fr:=I4.fresh
  refine ⟨.ref _,_,I4.laid (t':=s2.toks) (fun _ _ q=>Heap.get?_push_of_some _ q) (Nat.le_refl _) ?_,rfl,q _ fr⟩
  exact ⟨by rw[List.length_reverse];exact hz,its.reverse,rv.reverse,_,Heap.get?_push_size _ rfl,rfl,_,rfl⟩
 ·cases r1
  obtain ⟨its,rv,ht,hz⟩:=I4.list hq
  have hsz:its.toArray.size<=sizeLine:=by rw[List.size_toArray,<- rv.length];exact hz
  refine tail_any (ops:=[.ref a,.ref s2.heap.objs.size]) ht.isList.typeIs slot_list_getitem.lookup (wpAny_getItem_list_slice ht.isList (Heap.IsSliceOf.new ..) .none .none (.int (-1) t) (by decide) ?_ hsz) (by with_unfolding_all rfl)
  rw[Zjg]
  refine ⟨.ref _,_,I4.laid (t':=s2.toks) (o:= .lst xs.reverse) (fun _ _ q=>Heap.get?_push_of_some _ q) (Nat.le_refl _) ?_,rfl,q _ (I4.hok.fresh (Nat.le_refl _))⟩
  exact ⟨by rw[List.length_reverse];exact hz,its.reverse,0,rv.reverse,Heap.get?_push_size _ rfl⟩
theorem Zk8 {X:Cx} {ξ:XK} {e:Expr} {f:Ev} {p2 p3 p4 pos:Pos} {j:Nat} (he:DE X ξ e f):DE X ξ (.Subscript e (.Slice none none (some (.UnaryOp .USub (.Constant (.int 1) j p3) p4)) p2) pos) (eRv f):=by
 obtain ⟨t,p,q⟩:=he
 refine ⟨_,ZpD p,fun σ ρ H α M Q s h w=>q σ ρ H α M _ s h (OG.seq w fun x M1 v H1 α1 e1 h1 r1 w1=> ?_)⟩
 cases r1 with
 | @tup a xs ds hp rp=>exact .inl ⟨a,xs,rfl,(SqT.of hp),fun l hl=>w1 _ _ α1 (Ext.new0 hl) (h1.tup hl) (.tup Zn (Reps.mono (Ext.new0 hl) rp.rev))⟩
 | @rol a xs ds hp rp=>
  have w2:OP X.K H1 α1 ξ Q (.ok (.ref M1.length) (M1 ++ [.lst ds.reverse])):=w1
  exact .inr ⟨a,xs,rfl,hp.sq,fun l hl=>w2 _ _ (α1 ++ [l]) (Ext.new hl) (h1.new hl rp.rev) (.ref ⟨h1.last l,Kn.lst Zn⟩)⟩
 | @ref a n hp=>
  cases em:M1[n]? with
  |none=>simp only[em] at w1;exact w1.elim
  |some so=>
   cases so with
   |lst es=>
    simp only[em] at w1
    obtain ⟨xs,g1,g2⟩:=h1.at hp em
    exact .inr ⟨a,xs,rfl,SqL.of g1,fun l hl=>w1 _ _ (α1 ++ [l]) (Ext.new hl) (h1.new hl g2.rev) (.ref ⟨h1.last l,Kn.lst Zn⟩)⟩
 |_=>exact w1.elim
end DL
end
section
namespace DL
open PySem PySem.Spec PyProof.Rows L2
noncomputable def ZfX (tg:Tg) (g:Sv) (src:Src):Nat->Nat->Ro->Sto->Fl
 |f,i,ρ,M=>match nxt src i M with
  |none=> .bad
  |some none=> .nx ρ M
  |some (some d)=>(match f with
   |0=> .bad
   |f + 1=>(match tg d ρ with
    |none=> .bad
    |some ρ1=>(match g ρ1 M with
     | .nx ρ2 M2=>ZfX tg g src f (i + 1) ρ2 M2
     | .cnt ρ2 M2=>ZfX tg g src f (i + 1) ρ2 M2
     | .brk ρ2 M2=> .nx ρ2 M2
     |o=>o)))
noncomputable def ZeJ (tg:Tg) (fi:Ro->Sto->Out Src) (g:Sv):Sv:=fun ρ M=>Z0 (fi ρ M) fun src M1=>ZfX tg g src (cnt src M1) 0 ρ M1
section
variable {X:Cx} {ξ:XK} {tg iter a b:Expr} {gt:Tg} {fi:Ro->Sto->Out Src} {g:Sv} {body:List Stmt} {f fa fb:Ev} {fs:Av} {p pos:Pos}
theorem ZdX (hp:PassesOwn (model X.prog X.w) X.A X.env X.xe) (hi:DI X ξ tg iter fi) (hg:DG X tg gt) (hb:DSs X ξ body g) (hf: ∀ x,foldedSetIterable iter X.env x=pure x:=by intro _;rfl):DS X ξ (.For tg iter body [] pos) (ZeJ gt fi g):=by
 obtain ⟨wi,pi,qi⟩:=hi
 obtain ⟨tt,pt,qt⟩:=hg
 obtain ⟨tb,pb,qb⟩:=hb
 refine ⟨_,ZjR hp pi pt pb hf,fun σ ρ H α M Dn s hh w=>qi σ ρ H α M _ s hh (FP.seq w fun src M1 J H1 α1 e1 h1 sc w1=> ?_)⟩
 generalize eo:ZfX gt g src (cnt src M1) 0 ρ M1=o at w1
 refine ⟨fun i m σ' H'=> ∃ ρ' α' M',Ext X.K H1 H' α1 α'/\SR X.K H' α' σ' ρ'/\HR X.K H' α' M'/\ZfX gt g src m i ρ' M'=o,⟨cnt src M1,ρ,α1,M1,Ext.refl,s.mono e1,h1,eo⟩,?_⟩
 rintro i m σ' H' ⟨ρ',α',M',ex,sr,hr,en⟩
 have s5:=sc i H' α' M' ex hr
 unfold ZfX at en
 cases en1:nxt src i M' with
 |none=>rw[en1] at en;cases en;exact w1.elim
 |some od=>
  rw[en1] at en s5
  cases od with
  |none=>cases en;exact .inl ⟨s5,w1 σ' H' α' ex hr sr⟩
  |some d=>
   obtain ⟨go,yl⟩:=s5
   cases m with
   |zero=>cases en;exact w1.elim
   |succ m=>
    simp only at en
    refine .inr ⟨go,fun σ2 H2=> ∃ ρ' α' M',Ext X.K H1 H2 α1 α'/\SR X.K H2 α' σ2 ρ'/\HR X.K H2 α' M'/\ZfX gt g src m (i + 1) ρ' M'=o,fun σ2 H2 z=>⟨m,Nat.lt_succ_self m,z⟩,fun x H2 y=> ?_⟩
    obtain ⟨ex7,hr7,rp7⟩:=yl x H2 y
    exact ZmW (tg:=tg) w1 qt qb (ex.trans ex7) (sr.mono ex7) hr7 rp7 en (fun σ' H' z=>z)
end
theorem Zh0 {X:Cx} {pins:List (Addr × Obj)} {σ:L2.St} {H:Hp} {s:Shared} {h':Heap} {t':Nat} {ch:List Addr} (I:Inv X pins σ H s) (k: ∀ b o,b ∉ ch->s.heap.get? b=some o->h'.get? b=some o) (hf: ∀ b∈ch,Zem X pins H b):Inv X pins σ H { s with heap:=h',toks:=t' }:=by
 have nit: ∀ b u,H b=some u->b ∉ ch:=fun b u e z=>by rw[(hf b z).1] at e;cases e
 have hL:X.env.locals ∉ ch:=fun z=>(hf _ z).2.1 rfl
 refine I.step (g':=s.gens) (d':=s.drawn) (ch:=ch) (fun b hb=> ?_) (fun b o _ _ hc e _=>k b o hc e) (fun b o _ _ hc e _=>⟨o.slots,k b o hc e⟩) (fun _ _ _ _ n=>n)
  (fun b o hc e=>⟨o,k b o hc e⟩) (fun _ _ e=>e) (fun _ _ _ e=>e) (fun b ps e=>⟨#[],by rw[e];simp⟩) (fun m hm=> ?_) (fun b u e=> ?_) I.bare
 ·obtain ⟨_,z1,_,z3,z4,z5⟩:=hf b hb
  exact ⟨z3,z1,z4,z5⟩
 ·obtain ⟨o,es,ep,ho,r⟩:=hm
  exact ⟨o,es,ep,k _ o hL ho,r⟩
 ·refine (I.hok b u e).stay (fun c v hc q=>k c v ?_ q) (fun _ q=>q) fun _ _ q=>q
  rcases hc with z | z
  ·rw[z];exact nit b u e
  ·exact nit c _ z
theorem Zj9 {X:Cx} {pins:List (Addr × Obj)} {σ:L2.St} {H:Hp} {s:Shared} {h':Heap} {t':Nat} {ch:List Addr} {vs:List V} {us:List Value} (I:Inv X pins σ H s) (hf: ∀ b∈ch,Zem X pins H b) (hlt: ∀ b∈ch,b < s.heap.objs.size) (rv:ZZ vs us) (hz:vs.length<=sizeLine)
  (k: ∀ b o,b ∉ ch->s.heap.get? b=some o->h'.get? b=some o) (ht:h'.get? s.heap.objs.size=some { cls:= .type "tuple",data:= .seq us.toArray }):
  Inv X pins σ (upd H s.heap.objs.size (.tup vs)) { s with heap:=h',toks:=t' }/\H s.heap.objs.size=none/\ ∀ b∈ch,upd H s.heap.objs.size (.tup vs) b=none:=by
 have fr:H s.heap.objs.size=none:=I.hok.fresh (Nat.le_refl _)
 have hn: ∀ b∈ch,upd H s.heap.objs.size (.tup vs) b=none:=fun b hb=>by rw[Zo (Nat.ne_of_lt (hlt b hb))];exact (hf b hb).1
 have I1:Inv X pins σ (upd H s.heap.objs.size (.tup vs)) { s with heap:=s.heap.push { cls:= .type "tuple",data:= .seq us.toArray },toks:=t' }:=
  I.laid (t':=t') (o:= .tup vs) (fun _ _ q=>Heap.get?_push_of_some _ q) (Nat.le_refl _) ⟨hz,us,rv,_,Heap.get?_push_size _ rfl,rfl,_,rfl⟩
 refine ⟨Zh0 (s:={ s with heap:=s.heap.push { cls:= .type "tuple",data:= .seq us.toArray },toks:=t' }) (t':=t') (ch:=ch) I1 (fun b o hb e=> ?_) (fun b hb=>⟨hn b hb,(hf b hb).2⟩),fr,hn⟩
 by_cases c:b=s.heap.objs.size
 ·subst c
  have e':(s.heap.push { cls:= .type "tuple",data:= .seq us.toArray }).get? s.heap.objs.size=some o:=e
  rw[Heap.get?_push_size _ rfl] at e'
  cases e'
  exact ht
 ·refine k b o hb ?_
  have e':(s.heap.push { cls:= .type "tuple",data:= .seq us.toArray }).get? b=some o:=e
  have hl:b < s.heap.objs.size:=by
   have q:b < s.heap.objs.size + 1:=by
    have z:=Heap.lt_size e'
    rwa [Heap.size_push] at z
   exact Nat.lt_of_le_of_ne (Nat.le_of_lt_succ q) c
  have q:(s.heap.push { cls:= .type "tuple",data:= .seq us.toArray }).get? b=s.heap.get? b:=by
   unfold Heap.get? Heap.push
   simp only[Array.getElem?_push]
   rw[if_neg (Nat.ne_of_lt hl)]
  rwa [q] at e'
noncomputable def Ite (K:PySem.W.Frag) (a:Addr):It:=
 ⟨fun i H=> ∃ xs x,SqL K H a xs/\xs[i]?=some x,fun i H y H'=> ∃ p,H p=none/\y= .ref p/\ ∀ xs x,SqL K H a xs->xs[i]?=some x->H'=upd H p (.tup [.int i,x]),fun i H=> ∃ xs,SqL K H a xs/\xs.length<=i⟩
noncomputable def Itz (K:PySem.W.Frag) (a b:Addr):It:=
 ⟨fun i H=> ∃ xs ys x y,SqL K H a xs/\SqL K H b ys/\xs[i]?=some x/\ys[i]?=some y,fun i H v H'=> ∃ p,H p=none/\v= .ref p/\ ∀ xs ys x y,SqL K H a xs->SqL K H b ys->xs[i]?=some x->ys[i]?=some y->H'=upd H p (.tup [x,y]),
  fun i H=> ∃ xs ys,SqL K H a xs/\SqL K H b ys/\(xs.length<=i\/ys.length<=i)⟩
theorem Zh1 {P:Program} {w:World} {K:PySem.W.Frag} {B:Around} {elts:List Expr} {k0:Nat} {tp:Pos} (hB:B.handled=none) (a e it:Addr) (hne:e≠it):
  Turn P w K B (.Tuple elts k0 tp) (Ite K a) [e,it] e (fun i h=>(∃ old,IsEnum h e it (i:Int) old)/\h.IsListIter it a i) where
 mem:=by simp
 obj:=fun i h st b hb=>by
  obtain ⟨⟨old,h1⟩,o,e2,c2,d2⟩:=st
  rcases List.mem_cons.mp hb with z | z
  ·subst z;exact ⟨_,h1,fun v z=>by cases z⟩
  ·have z':b=it:=by simpa using z
   subst z'
   exact ⟨o,e2,fun v z=>by rw[d2] at z;cases z⟩
 keep:=fun i h h' st k=>⟨let ⟨old,z⟩:=st.1;⟨old,k e (by simp) _ z⟩,st.2.at fun o z=>k it (by simp) o z⟩
 item:=by
  intro X hP hw hK hA i pins s σ H E I hf st hg
  subst hP hw hK hA
  obtain ⟨⟨old,h1⟩,h2⟩:=st
  obtain ⟨xs,x,hq,hx⟩:=hg
  obtain ⟨its,rv,p,hz⟩:=I.list hq
  obtain ⟨u,hu,ru⟩:=rv.get hx
  have lt: ∀ b∈[e,it],b < s.heap.objs.size:=fun b hb=>by
   rcases List.mem_cons.mp hb with z | z
   ·subst z;exact Heap.lt_size h1
   ·have z':b=it:=by simpa using z
    subst z'
    obtain ⟨o,e2,_⟩:=h2
    exact Heap.lt_size e2
  refine wpAny_pyNext_enum_item h1 h2 p.isList (x:=u) (by simpa using hu) hne fun h' o1 o2 o3 o4 o5=>⟨_,rfl,?_⟩
  refine wpAny_letOwnedTupleGo_enum (s:={ s with heap:=h',toks:=s.toks + 1 }) o1 fun h'' q1 q2=> ?_
  have pe:s.heap.objs.size≠e:=Nat.ne_of_gt (lt e (by simp))
  have ie:it≠e:=Ne.symm hne
  obtain ⟨J1,J2,J3⟩:=Zj9 (h':=h'') (t':=s.toks + 1) (ch:=[e,it]) (vs:=[.int i,x]) (us:=[.int i s.toks,u]) I hf lt (.cons ⟨_,rfl⟩ (.cons ru .nil)) (by show 2<=sizeLine;decide)
   (fun b o hb z=>by
    have n1:b≠e:=fun y=>hb (by simp[y])
    have n2:b≠it:=fun y=>hb (by simp[y])
    exact (q2.2 b n1).trans (o5 b o n1 n2 z)) ((q2.2 _ pe).trans o3)
  refine ⟨.ref s.heap.objs.size,_,J1,rfl,⟨_,J2,rfl,fun ys y hy hy2=> ?_⟩,⟨⟨u,by simpa using q1⟩,o2.at fun o z=>(q2.2 it ie).trans z⟩,J3⟩
  rw[I.list_inj hy hq,hx] at hy2
  cases hy2
  rfl
 done:=by
  intro X hP hw hK hA i pins s σ H E I hf st hg
  subst hP hw hK hA
  obtain ⟨⟨old,h1⟩,h2⟩:=st
  obtain ⟨xs,hq,hx⟩:=hg
  obtain ⟨its,rv,p,hz⟩:=I.list hq
  obtain ⟨f0,f1,f2,f3,f4,f5⟩:=hf it (by simp)
  refine wpAny_pyNext_enum_end hB h1 h2 p.isList (by simp only[List.getElem?_toArray];exact List.getElem?_eq_none (by rw[<- rv.length];exact hx)) fun h' ext=>⟨rfl,?_⟩
  exact I.turned (t':=s.toks) (it:=it) (fun b o hb z=>ext b o hb z) f0 f1 f3 f4 f5
 self:=fun A i s Q E st q=>by
  obtain ⟨⟨old,h1⟩,_⟩:=st
  have hT:s.TypeIs (.ref e) "enumerate":=⟨_,h1,rfl⟩
  refine wpAny_pyIter_slot hT F.slot_enumerate_iter (wpAny_call_entry F.slot_enumerate_iter hT F.entry_enumerate_iter ?_ (F.args_enumerate_iter_1 _))
  show wpAny _ _ (ret (.ref e)) _ _ s
  exact wpAny_pure ⟨_,rfl,"enumerate",_,hT,F.slot_enumerate_next.lookup,q⟩
theorem Zpc {P:Program} {w:World} {K:PySem.W.Frag} {B:Around} {elts:List Expr} {k0:Nat} {tp:Pos} (hB:B.handled=none) {z TI TO i1 i2 a b:Addr} (D:ZipApart z TI TO i1 i2 a b):
  Turn P w K B (.Tuple elts k0 tp) (Itz K a b) [z,TI,TO,i1,i2] z (fun i h=>IsZip h z TI TO .none/\IsPair h TI (.ref i1) (.ref i2)/\(∃ x y,IsPair h TO x y)/\h.IsListIter i1 a i/\h.IsListIter i2 b i) where
 mem:=by simp
 obj:=fun i h st c hc=>by
  obtain ⟨h1,h2,⟨x,y,h3⟩,⟨o4,e4,c4,d4⟩,⟨o5,e5,c5,d5⟩⟩:=st
  simp only[List.mem_cons,List.not_mem_nil,or_false] at hc
  rcases hc with rfl | rfl | rfl | rfl | rfl
  ·exact ⟨_,h1,fun v q=>by cases q⟩
  ·exact ⟨_,h2,fun v q=>by cases q⟩
  ·exact ⟨_,h3,fun v q=>by cases q⟩
  ·exact ⟨o4,e4,fun v q=>by rw[d4] at q;cases q⟩
  ·exact ⟨o5,e5,fun v q=>by rw[d5] at q;cases q⟩
 keep:=fun i h h' st k=>by
  obtain ⟨h1,h2,⟨x,y,h3⟩,h4,h5⟩:=st
  exact ⟨k z (by simp) _ h1,k TI (by simp) _ h2,⟨x,y,k TO (by simp) _ h3⟩,h4.at fun o q=>k i1 (by simp) o q,h5.at fun o q=>k i2 (by simp) o q⟩
 item:=by
  intro X hP hw hK hA i pins s σ H E I hf st hg
  subst hP hw hK hA
  obtain ⟨h1,h2,⟨x0,y0,h3⟩,h4,h5⟩:=st
  obtain ⟨xs,ys,x,y,hq,hq2,hx,hy⟩:=hg
  obtain ⟨its,rv,p,hz⟩:=I.list hq
  obtain ⟨its2,rv2,p2,hz2⟩:=I.list hq2
  obtain ⟨u,hu,ru⟩:=rv.get hx
  obtain ⟨u2,hu2,ru2⟩:=rv2.get hy
  have lt: ∀ c∈[z,TI,TO,i1,i2],c < s.heap.objs.size:=fun c hc=>by
   simp only[List.mem_cons,List.not_mem_nil,or_false] at hc
   rcases hc with rfl | rfl | rfl | rfl | rfl
   ·exact Heap.lt_size h1
   ·exact Heap.lt_size h2
   ·exact Heap.lt_size h3
   ·obtain ⟨o,e2,_⟩:=h4;exact Heap.lt_size e2
   ·obtain ⟨o,e2,_⟩:=h5;exact Heap.lt_size e2
  refine wpAny_pyNext_zip_item D h1 h2 h3 h4 h5 p.isList p2.isList (x:=u) (y:=u2) (by simpa using hu) (by simpa using hu2) fun h' o1 o2 o3 o4 o5 o6 o7=>⟨_,rfl,?_⟩
  refine wpAny_letOwnedTupleGo_zip (s:={ s with heap:=h' }) o1 fun h'' q1 q2=> ?_
  have pe:s.heap.objs.size≠z:=Nat.ne_of_gt (lt z (by simp))
  obtain ⟨J1,J2,J3⟩:=Zj9 (h':=h'') (t':=s.toks) (ch:=[z,TI,TO,i1,i2]) (vs:=[x,y]) (us:=[u,u2]) I hf lt (.cons ru (.cons ru2 .nil)) (by show 2<=sizeLine;decide)
   (fun c o hc q=>by
    simp only[List.mem_cons,List.not_mem_nil,or_false,not_or] at hc
    exact (q2.2 c hc.1).trans (o7 c o hc.1 hc.2.2.1 hc.2.2.2.1 hc.2.2.2.2 q)) ((q2.2 _ pe).trans o5)
  refine ⟨.ref s.heap.objs.size,_,J1,rfl,⟨_,J2,rfl,fun xs' ys' x' y' hx1 hy1 hx2 hy2=> ?_⟩,⟨q1,(q2.2 TI D.TIz).trans (o7 TI _ D.TIz D.TITO D.TIi1 D.TIi2 h2),⟨u,u2,(q2.2 TO D.TOz).trans o2⟩,o3.at fun o q=>(q2.2 i1 D.i1z).trans q,o4.at fun o q=>(q2.2 i2 D.i2z).trans q⟩,J3⟩
  rw[I.list_inj hx1 hq,hx] at hx2
  rw[I.list_inj hy1 hq2,hy] at hy2
  cases hx2
  cases hy2
  rfl
 done:=by
  intro X hP hw hK hA i pins s σ H E I hf st hg
  subst hP hw hK hA
  obtain ⟨h1,h2,⟨x0,y0,h3⟩,h4,h5⟩:=st
  obtain ⟨xs,ys,hq,hq2,hx⟩:=hg
  obtain ⟨its,rv,p,hz⟩:=I.list hq
  obtain ⟨its2,rv2,p2,hz2⟩:=I.list hq2
  have he:its.toArray[i]?=none\/its2.toArray[i]?=none:=by
   rcases hx with hx | hx
   ·exact .inl (by simp only[List.getElem?_toArray];exact List.getElem?_eq_none (by rw[<- rv.length];exact hx))
   ·exact .inr (by simp only[List.getElem?_toArray];exact List.getElem?_eq_none (by rw[<- rv2.length];exact hx))
  refine wpAny_pyNext_zip_end hB D h1 h2 h3 h4 h5 p.isList p2.isList he fun h' keep=>⟨rfl,?_⟩
  refine Zh0 (t':=s.toks) (ch:=[z,TI,TO,i1,i2]) I (fun c o hc q=> ?_) hf
  simp only[List.mem_cons,List.not_mem_nil,or_false,not_or] at hc
  exact keep c o hc.1 hc.2.2.1 hc.2.2.2.1 hc.2.2.2.2 q
 self:=fun A i s Q E st q=>wpAny_pyIter_zip st.1 q
theorem ZeK:bootBuiltins "enumerate"=some (.type "enumerate"):=by decide +kernel
section
variable {X:Cx} {ξ:XK} {a b:Expr} {elts:List Expr} {k0:Nat} {tp:Pos} {fa:Ev} {fs:Av} {p pos:Pos} {ta:TA}
noncomputable def ZpE (K:PySem.W.Frag) (t:TA):TI:=fun σ H R=>t σ H fun vs H1=> ∃ l xs,vs=[.ref l]/\SqL K H1 l xs/\R (Ite K l) H1
theorem Zk9 (hc:X.A.handled=none) (hg:Gl X "enumerate") (hm:X.mg "enumerate"=none) (ha:PA X [a] ta) (hs:starEach [a] X.env=(false,eval a X.env) :: starEach [] X.env:=by rfl) (hpl:(backTo pos (starEach [] X.env)).any (·.1)=false:=by rfl):
  PI X (.Tuple elts k0 tp) (.Call (.Name "enumerate" p) [a] [] pos) (ZpE X.K ta):=by
 intro pins s σ H R I h
 refine wpAny_Call_Name_kw (Zel I hg hm ZeK (PyProof.Rows.callWith_type1 (thn (ha pos pins s σ H _ I h) fun us s1 ⟨vs,H1,I1,r1,q1⟩=> ?_) hs hpl) (by decide) (by decide))
 obtain ⟨l,xs,rfl,hq,q⟩:=q1
 obtain ⟨u,rfl,ru⟩:=Zdq r1
 cases ru
 obtain ⟨its,rv,pl,hz⟩:=I1.list hq
 refine call_enumerate_list pl.isList fun h' e1 e2 e3 e4=> ?_
 have T:=Zh1 (P:=X.prog) (w:=X.w) (K:=X.K) (B:=X.A) (elts:=elts) (k0:=k0) (tp:=tp) hc l (s1.heap.objs.size + 1) s1.heap.objs.size (Nat.ne_of_gt (Nat.lt_succ_self _))
 have I2:Inv X pins σ H1 { s1 with heap:=h',toks:=s1.toks }:=I1.kept (t':=s1.toks) e4
 refine T.self X.A 0 { s1 with heap:=h' } _ _ ⟨⟨_,e1⟩,e2⟩ ⟨_,_,_,_,H1,rfl,I2,T,⟨⟨_,e1⟩,e2⟩,fun b hb=> ?_,q⟩
 have hb':s1.heap.objs.size<=b:=by
  simp only[List.mem_cons,List.not_mem_nil,or_false] at hb
  rcases hb with rfl | rfl<;>omega
 exact I1.fpOk hb' (I1.hok.fresh hb')
noncomputable def iEn (fs:Av):Ro->Sto->Out Src:=fun ρ M=>(fs ρ M).bind fun ds M1=>match ds with | [.ref n]=> .ok (.enu n) M1 | _=> .bad
noncomputable def iZp (fs:Av):Ro->Sto->Out Src:=fun ρ M=>(fs ρ M).bind fun ds M1=>match ds with | [.ref n,.ref m]=> .ok (.zip n m) M1 | _=> .bad
theorem Zc9 (hc:X.A.handled=none) (hm:X.mg "enumerate"=none) (ha:DA X ξ [a] fs) (hg:Gl X "enumerate":=by rfl) (hs:starEach [a] X.env=(false,eval a X.env) :: starEach [] X.env:=by rfl) (hpl:(backTo pos (starEach [] X.env)).any (·.1)=false:=by rfl):
  DI X ξ (.Tuple elts k0 tp) (.Call (.Name "enumerate" p) [a] [] pos) (iEn fs):=by
 obtain ⟨ta,pa,qa⟩:=ha
 refine ⟨_,Zk9 hc hg hm pa hs hpl,fun σ ρ H α M R s hh q=>qa σ ρ H α M _ s hh (OG.seq q fun ds M1 vs H1 α1 e1 h1 r1 w1=> ?_)⟩
 match r1 with
 | .nil=>exact w1.elim
 | .cons r (.cons _ _)=>cases r<;>exact w1.elim
 | .cons r .nil=>
  cases r with
  | @ref l n hp=>
   obtain ⟨xs0,g0⟩:=h1.some_at hp
   refine ⟨l,xs0,rfl,SqL.of g0,w1 _ H1 α1 Ext.refl h1 fun i H' α' M' ex hr=> ?_⟩
   cases em:M'[n]? with
   |none=>rw[show nxt (.enu n) i M'=none by simp only[nxt,em]];exact True.intro
   |some so=>
    cases so with
    |lst es=>
     obtain ⟨xs,g1,g2⟩:=hr.at (ex.get hp) em
     cases ei:es[i]? with
     |none=>rw[show nxt (.enu n) i M'=some none by simp only[nxt,em,ei]];exact ⟨xs,SqL.of g1,by rw[g2.length];exact List.getElem?_eq_none_iff.mp ei⟩
     |some d=>
      obtain ⟨v,k1,k2⟩:=g2.get ei
      rw[show nxt (.enu n) i M'=some (some (D.tup [D.int i,d])) by simp only[nxt,em,ei]]
      refine ⟨⟨xs,v,SqL.of g1,k1⟩,fun x H'' y=> ?_⟩
      obtain ⟨pp,y1,rfl,y3⟩:=y
      have y4:=y3 xs v (SqL.of g1) k1
      subst y4
      exact ⟨Ext.new0 y1,hr.tup y1,.tup Zn (.cons (.int i) (.cons (Rep.mono (Ext.new0 y1) k2) .nil))⟩
  |_=>exact w1.elim
end
end DL
end
section
namespace DL
open PySem PySem.Spec PyProof.Rows L2
open PySem.SeqAt (EqAt RcAt RcNeAt)
section
variable {X:Cx} {ξ:XK} {pins:List (Addr × Obj)} {σ:L2.St} {H:Hp} {s:Shared} {α:List Addr} {M:Sto}
noncomputable def eqs (M:Sto) (d:D):List D->Option (List Bool)
 | []=>some []
 |x :: r=>match eqF 12 M x d with | some b=>(match eqs M d r with | some bs=>some (b :: bs) | none=>none) | none=>none
end
section
variable {X:Cx} {ξ:XK}
noncomputable def inE (x y:D) (M:Sto):Option Bool:=match ZcR M y with | some ds=>(match eqs M x ds with | some bs=>some (bs.any id) | none=>none) | none=>none
noncomputable def Zro:Bo:=fun x y M=>match inE x y M with | some b=> .ok (.bl b) M | none=> .bad
noncomputable def Zh2:Bo:=fun x y M=>match inE x y M with | some b=> .ok (.bl (!b)) M | none=> .bad
noncomputable def Zsz:Me:=fun x ds M=>match x,ds with
 | .ref n,[d]=>(match M[n]? with | some (.lst xs)=>(match eqs M d xs with | some bs=>(match bs.findIdx? id with | some j=> .ok (.int (j:Nat)) M | none=> .bad) | none=> .bad) | none=> .bad)
 |_,_=> .bad
noncomputable def ZsA:Me:=fun x ds M=>match x,ds with
 | .ref n,[d]=>(match M[n]? with | some (.lst xs)=>(match eqs M d xs with | some bs=> .ok (.int (bs.countP id:Nat)) M | none=> .bad) | none=> .bad)
 |_,_=> .bad
noncomputable def ZeL:List D->Option (List Int)
 | []=>some []
 | .int b :: r=>match ZeL r with | some bs=>some (b :: bs) | none=>none
 |_ :: _=>none
noncomputable def Zng (g:List Int->Option Int):List D->Sto->Out D:=fun ds M=>match ds with
 | [x]=>(match ZcR M x with | some xs=>(match x with | .con _=> .bad | .tup _=> .bad | _=>(match ZeL xs with | some ns=>(match g ns with | some i=> .ok (.int i) M | none=> .bad) | none=> .bad)) | none=> .bad)
 |_=> .bad
end
end DL
end
section
namespace DL
open PySem PySem.Spec PyProof.Rows L2
section
variable {κ:Type} [DecidableEq κ]
variable {K:PySem.W.Frag} {H H':Hp} {α α':List Addr} {key:κ->D} {dec:D->Option κ}
end
section
variable {X:Cx} {ξ:XK} {H:Hp} {α:List Addr} {M:Sto}
end
section
variable {X:Cx} {ξ:XK} {o i e:Expr} {fo fi f:Ev} {pos pos':Pos}
end
end DL
end
section
namespace DL
open PySem PySem.Spec PyProof.Rows L2
section
variable {X:Cx} {ξ:XK} {tg a:Expr} {fs:Av} {p pos:Pos} {ta:TA}
noncomputable def iRv (fs:Av):Ro->Sto->Out Src:=fun ρ M=>(fs ρ M).bind fun ds M1=>match ds with | [.ref n]=>(match M1[n]? with | some (.lst xs)=> .ok (.rev n xs.length) M1 | none=> .bad) | _=> .bad
end
end DL
end
section
namespace DL
open PySem PySem.Spec PyProof.Rows L2
section
variable {X:Cx} {ξ:XK} {e e1 e2:Expr} {es:List Expr} {f:Ev} {pos:Pos}
end
end DL
end
section
namespace DL
open PySem PySem.Spec PyProof.Rows L2
theorem Zgv {β γ:Type} {o:Out β} {f:β->Sto->Out γ} {g:γ->Sto->Fl}:Z0 (o.bind f) g=Z0 o fun x M=>Z0 (f x M) g:=by cases o<;>rfl
section
variable {X:Cx} {ξ:XK} {tg iter elt:Expr} {ifs:List Expr} {scope:Scope} {cl:List (Str × Addr)} {N:List Str} {k:Nat} {fr:List Nat} {fi:Ro->Sto->Out Src} {gt:Tg} {c:Tv} {f:Ev} {pos:Pos}
theorem Zla (iv:Nat) {x:Str} {pos' spos:Pos} (hN:X.N.Nodup) (B:Blk X scope cl N k fr) (hi:DI X ξ tg iter fi) (hg: ∀ C fp s H,DG (blk X scope cl N C fp s H) tg gt) (ht: ∀ C fp s H,DC (blk X scope cl N C fp s H) ifs c) (he: ∀ C fp s H,DE (blk X scope cl N C fp s H) E0 elt f)
  (hiv:X.N[iv]?=some x:=by rfl) (hxl:Loc X.env.scope x:=by first | exact Or.inl rfl | exact Or.inr rfl) (hm:X.may iv=true:=by rfl) (hsw:swapsWith (.ListComp elt [⟨tg,iter,ifs,0⟩] scope pos) (some (.Name x pos')) spos.line X.env=pure true:=by rfl) (hf:X.fn x=true\/X.env.scope.names.lookup x=some .local:=by first | exact .inl rfl | exact .inr rfl | assumption)
  (hs: ∀ x,foldedSetIterable iter X.env x=pure x:=by intro _;rfl):DS X ξ (.Assign [.Name x pos'] (.ListComp elt [⟨tg,iter,ifs,0⟩] scope pos) spos) (ZO (gNm iv) (ZbN fi k fr gt c f)):=by
 obtain ⟨wi,pi,qi⟩:=hi
 refine ⟨fun Dn σ H=> ∃ ρ α M,SR X.K H α σ ρ/\HR X.K H α M/\FP X.K H α ξ Dn (ZO (gNm iv) (ZbN fi k fr gt c f) ρ M),?_,fun σ ρ H α M Dn s h q=>⟨ρ,α,M,s,h,q⟩⟩
 rintro pins s σ H Dn I ⟨ρ,α,M,sr,hr,op⟩
 rw[exec_Assign_Name_used _ _ _ _ hsw]
 refine wpAny_bind (wpAny_standAt (wpAny_bind ?_))
 show wpAny _ X.A (do let _ <- comprehension (.ListComp elt [⟨tg,iter,ifs,0⟩] scope pos) scope X.env _ (newList []) false (eval iter X.env) (some (assign (.Name x pos') X.env))) _ _ s
 have op:FP X.K H α ξ Dn (Z0 (fi ρ M) fun src M1=>Z0 (match ZcD src gt c f M1.length (cnt src M1) 0 (roB k fr ρ) (M1 ++ [.lst []]) with | .ok _ M2'=> .ok (.ref M1.length) M2' | _=> .bad) fun d M1=>Fl.nx (ρ.set iv (some d)) M1):=by
  have e:ZO (gNm iv) (ZbN fi k fr gt c f) ρ M=(Z0 (fi ρ M) fun src M1=>Z0 (match ZcD src gt c f M1.length (cnt src M1) 0 (roB k fr ρ) (M1 ++ [.lst []]) with | .ok _ M2'=> .ok (.ref M1.length) M2' | _=> .bad) fun d M1=>Fl.nx (ρ.set iv (some d)) M1):=by
   unfold ZO ZbN
   rw[Zgv]
   rfl
  rw[<- e]
  exact op
 refine wpAny_bind (wpAny_mono (wpAny_comprehension_free (Q:=fun _ s'=>SP X pins Dn .next s') (use:=some (assign (.Name x pos') X.env)) rfl hs B.clos B.kind B.names ?_) (fun _ s' hq=>wpAny_pure (wpAny_pure hq)) fun _ _ e=>e)
 refine thn (pi pins s σ H (fun J H2=> ∃ α2 M2 src,Ext X.K H H2 α α2/\HR X.K H2 α2 M2/\Zm4 X.K H2 α2 J src/\FP X.K H2 α2 ξ Dn (Z0 (match ZcD src gt c f M2.length (cnt src M2) 0 (roB k fr ρ) (M2 ++ [.lst []]) with | .ok _ M2'=> .ok (.ref M2.length) M2' | _=> .bad) fun d M1=>Fl.nx (ρ.set iv (some d)) M1)) I
  (qi σ ρ H α M _ sr hr (FP.seq op fun src M1 J H1 α1 e1 h1 r1 q1=>⟨α1,M1,src,e1,h1,r1,q1⟩))) fun v s1 w1=>thn w1 fun itv s2 w2=> ?_
 obtain ⟨it,fp,tn,J,H2,rfl,I2,T,st2,f2,α2,M2,src,e2,h2,sc,op2⟩:=w2
 have srI:=sr.mono e2
 refine wpAny_newObj_type ?_
 have I3:Inv X pins σ (upd H2 s2.heap.objs.size (.lst [])) { s2 with heap:=s2.heap.push { cls:= .type "list",data:= .seq ([]:List Value).toArray } }:=I2.lnew (its:=[]) (t':=s2.toks) .nil (Nat.zero_le _)
 have fD:H2 s2.heap.objs.size=none:=I2.fresh
 generalize hD:s2.heap.objs.size=D at I3 fD
 generalize hs3:({ s2 with heap:=s2.heap.push { cls:= .type "list",data:= .seq ([]:List Value).toArray } }:Shared)=s3 at I3
 generalize hH3:upd H2 D (.lst [])=H3 at I3
 have h3:HR X.K H3 (α2 ++ [D]) (M2 ++ [.lst []]):=by rw[<- hH3];exact h2.new fD .nil
 have e3:Ext X.K H2 H3 α2 (α2 ++ [D]):=by rw[<- hH3];exact Ext.new fD
 have aD:RefK H3 (α2 ++ [D]) 0 M2.length D:=⟨h2.last D,by first | exact Kn.lst Zn | (rw[<- hH3];exact Kn.lst Zn)⟩
 have lt2: ∀ b∈fp,b < s2.heap.objs.size:=fun b hb=>let ⟨o,e,_⟩:=T.obj _ _ st2 b hb;Heap.lt_size e
 have keep3: ∀ b o,s2.heap.get? b=some o->s3.heap.get? b=some o:=fun b o e=>by rw[<- hs3];exact Heap.get?_push_of_some _ e
 have f3: ∀ b∈fp,Zem X pins H3 b:=fun b hb=>⟨by rw[<- hH3,Zo (by rw[<- hD];exact Nat.ne_of_lt (lt2 b hb))];exact (f2 b hb).1,(f2 b hb).2⟩
 have lt3: ∀ b∈fp,b < s3.heap.objs.size:=fun b hb=>let ⟨o,e,_⟩:=T.obj _ _ st2 b hb;Heap.lt_size (keep3 b o e)
 have st3:tn 0 s3.heap:=T.keep _ _ _ st2 fun b _ o e=>keep3 b o e
 refine wpAny_newFunctionEnv B.cell (by intro y hy;simp at hy) (fun h₁ hns₁ hsb₁=> ?_) B.kind
 have keep4: ∀ b o,s3.heap.get? b=some o->h₁.get? b=some o:=fun b o e=>hsb₁.extBut b o (Nat.ne_of_lt (Heap.lt_size e)) (Heap.get?_push_of_some _ e)
 have I4:=ZhS (tk:=s3.toks + ([]:List (Str × Value)).length) B I3 f3 lt3 hns₁ keep4
 have st4:tn 0 h₁:=T.keep _ _ _ st3 fun b _ o e=>keep4 b o e
 have fp5: ∀ {H':Hp},(∀ b∈fp,H' b=none)-> ∀ b∈fp,Zem (blk X scope cl N s3.heap.objs.size fp s3 H3) [] H' b:=fun hn b hb=>⟨hn b hb,Nat.ne_of_lt (lt3 b hb),(ZhR B I3 f3 lt3).exfs b hb,.inl hb,fun x c h=>(f3 b hb).2.2.2.2.1 x c (B.sub x c h),fun p hp=>(by simp[blk] at hp)⟩
 cases er:ZcD src gt c f M2.length (cnt src M2) 0 (roB k fr ρ) (M2 ++ [.lst []]) with
 |exc x M9=>rw[er] at op2;exact op2.elim
 |bad=>rw[er] at op2;exact op2.elim
 |ok u9 M9=>
  rw[er] at op2
  have loop:codeAny (model X.prog X.w) X.A (.compLoop (.ListComp elt [⟨tg,iter,ifs,0⟩] scope pos) 0 (.ref it) (.ref D) (compEnvC scope cl s3.heap.objs.size X.env)) (compPost (model X.prog X.w) X.A X.xe (some (assign (.Name x pos') X.env)) (fun _ s'=>SP X pins Dn .next s') (.ref D) s3.heap.objs.size) { s3 with heap:=h₁,toks:=s3.toks + ([]:List (Str × Value)).length }:=by
   refine ZfS (Y:=blk X scope cl N s3.heap.objs.size fp s3 H3) T (fun _ _ z=>z) fp5 (hg _ fp s3 H3) (ht _ fp s3 H3) (he _ fp s3 H3) (fun i H' α' M' ex hr=>sc i H' α' M' (e3.trans ex) hr) aD I4 st4 (fun b hb=>(f3 b hb).1) ((srI.blk).mono e3) h3 er ?_
   intro σ5 H5 α5 s6 I6 ex5 hr5
   obtain ⟨I7,tu⟩:=ZfR B I3 f3 I6
   obtain ⟨m6,hm6,_⟩:=id I6.loc
   refine wpAny_assign_Name (Zek (v:= .ref D) I7 hN hiv hxl hm rfl (fun s8 I8 ⟨a,sb8,ha⟩=> ?_) hf)
   have nca:s3.heap.objs.size≠a:=by
    rcases ha with e | e
    ·rw[e];exact Nat.ne_of_gt I3.lt
    ·intro z
     obtain ⟨v,o,e',_⟩:=I3.cell x a e
     exact absurd (Heap.lt_size e') (by rw[<- z];exact Nat.lt_irrefl _)
   exact ⟨m6,hm6.sameBut sb8 nca,fun h' sb=>⟨_,H5,tu _ s8 h' I8 (fun b o hb e=>(sb.2 b hb).trans e),op2 _ H5 α5 (e3.trans ex5) hr5 ((srI.mono (e3.trans ex5)).set iv (.ref (ex5.get aD)))⟩⟩
  exact codeAny_compStart_list loop (T.self X.A 0 _ _ _ st4 loop)
end
end DL
end
section
namespace DL
open PySem PySem.Spec PyProof.Rows L2
noncomputable def ZsB:Bo:=fun x y M=>match x,y with
 | .ref n,.int k=>match M[n]? with
  |some (.lst xs)=>if (-9223372036854775808<=k/\k < 9223372036854775808)/\xs.length * k.toNat<=100000 then .ok (.ref M.length) (M ++ [.lst (List.replicate k.toNat xs).flatten]) else .bad
  |none=> .bad
 |_,_=> .bad
section
variable {X:Cx} {ξ:XK} {a b:Expr} {fa fb:Ev} {pos:Pos}
end
end DL
end
namespace DL
open PySem PySem.Spec L2
open PySem.W
section
variable {prog:Program} {w:World} {A:Around} {E:Value->Shared->Prop} {s:Shared}
end
section
variable {prog:Program} {w:World} {A:Around} {s:Shared} {R:Result->Shared->Prop}
variable {I:Addr} {fp wr:List Addr} {G:Array GenState->Array GenState->Prop} {n:Nat} {P:Nat->Value->Prop} {St:Nat->Shared->Prop}
end
section
variable {prog:Program} {w:World} {A:Around} {E:Value->Shared->Prop} {s:Shared}
variable {I:Addr} {fp wr:List Addr} {G:Array GenState->Array GenState->Prop} {n:Nat} {P:Nat->Value->Prop} {St:Nat->Shared->Prop}
end
section
variable {X:Cx} {ξ:XK} {a:Expr} {fs:Av} {p1 p2 p3 pos:Pos} {ta:TA}
end
end DL
section
namespace DL3
open PySem PySem.Spec PyProof.Rows L2 DL
open Sem (wp)
section
variable {prog:Program} {w:World} {A:Around} {E:Value->Shared->Prop} {s:Shared}
end
section
variable {prog:Program} {w:World} {A:Around} {E:Value->Shared->Prop} {s:Shared}
end
section
variable {X:Cx} {ξ:XK} {y1 y2 y3:Expr} {elts:List Expr} {k0:Nat} {tp:Pos} {fs:Av} {p pos:Pos} {ta:TA}
end
end DL3
end
section
namespace DL4
open PySem PySem.Spec PyProof.Rows L2 DL
open Sem (wp)
section
variable {prog:Program} {w:World} {A:Around} {E:Value->Shared->Prop} {s:Shared}
end
section
variable {prog:Program} {w:World} {A:Around} {E:Value->Shared->Prop} {s:Shared}
end
section
variable {X:Cx} {ξ:XK} {y1 y2 y3 y4:Expr} {elts:List Expr} {k0:Nat} {tp:Pos} {fs:Av} {p pos:Pos} {ta:TA}
end
end DL4
end
section
namespace PySem.SeqAt
open AutoSeq1 (wpAny_loadPart')
open MeetsSeq MeetsSeq2 MeetsSeq3 SeqRoads2
end PySem.SeqAt
namespace DL
open PySem PySem.Spec PyProof.Rows L2
open PySem.SeqAt
section
variable {X:Cx} {pins:List (Addr × Obj)} {σ:L2.St} {H:Hp} {s:Shared} {α:List Addr} {M:Sto}
end
end DL
end
section
namespace PySem
open Sem (wp)
section
variable {prog:Program} {w:World} {A:Around} {R:Result->Shared->Prop} {I:Addr} {fp wr:List Addr} {P:Nat->Value->Prop} {St:Nat->Heap->Prop}
end
section
variable {prog:Program} {w:World} {A:Around} {E:Value->Shared->Prop} {s:Shared}
end
end PySem
namespace DL
open PySem PySem.Spec PyProof.Rows L2
open PySem.SeqAt
section
variable {X:Cx} {pins:List (Addr × Obj)} {σ:L2.St} {H:Hp} {s:Shared} {α:List Addr} {M:Sto}
end
end DL
end
section
namespace HT
open PySem PyProof.Rows
section
open PySem.SeqAt
open PySem.AutoSeq1 (wpAny_loadPart')
open PySem.MeetsSeq PySem.MeetsSeq2 PySem.MeetsSeq3
end
section
variable {prog:Program} {w:World} {A:Around} {E:Value->Shared->Prop} {s:Shared}
end
end HT
namespace DL
open PySem PySem.Spec PyProof.Rows L2
section
variable {X:Cx} {ξ:XK}
end
end DL
end
section
namespace DL
open PySem PySem.Spec PyProof.Rows L2
end DL
end
section
namespace DL
open PySem PySem.Spec PyProof.Rows L2
section
variable {X:Cx} {pins:List (Addr × Obj)} {σ:L2.St} {H:Hp} {s:Shared} {a b:Addr} {v:V} {r:Value} {A:Around} {E:Value->Shared->Prop}
end
section
variable {X:Cx} {ξ:XK} {tg iter kx vx:Expr} {ifs:List Expr} {scope:Scope} {cl:List (Str × Addr)} {N:List Str} {k:Nat} {fr:List Nat} {fi:Ro->Sto->Out Src} {gt:Tg} {c:Tv} {fk fv:Ev} {pos:Pos}
end
end DL
end
section
namespace DL
open PySem PySem.Spec PyProof.Rows L2
section
variable {prog:Program} {w:World} {A:Around} {E:Value->Shared->Prop} {s:Shared} {d it:Addr} {od:Obj} {es:Array DictEntry} {ep i n:Nat}
end
section
variable {X:Cx} {pins:List (Addr × Obj)} {σ:L2.St} {H:Hp} {s:Shared} {d:Addr} {o:Obj} {kvs:List (List Key × V)}
end
section
variable {X:Cx} {ξ:XK} {tg a:Expr} {f:Ev} {te:TE}
end
end DL
end
section
namespace DL
open PySem PySem.Spec PyProof.Rows L2
section
variable {X:Cx} {ξ:XK} {e:Expr} {es:List Expr} {fs:Av} {p pos:Pos} {x:Str}
end
section
variable {X:Cx} {ξ:XK} {pos p:Pos} {v:Expr} {keys:List (Option Expr)} {values:List Expr} {k:Str} {f:Ev} {kfs:List (Str × Ev)} {j:Nat}
end
section
variable {X:Cx} {ξ:XK} {tg a:Expr} {f:Ev} {te:TE}
end
end DL
end
section
namespace DL
open PySem PySem.Spec PyProof.Rows L2
noncomputable def Zcd (f:D->Option PyData):List D->Option (List PyData)
 | []=>some []
 |d :: r=>match f d,Zcd f r with | some a,some b=>some (a :: b) | _,_=>none
noncomputable def pyD (M:Sto):Nat->D->Option PyData
 |0,_=>none
 |k + 1,d=>match d with
  | .non=>some .none
  | .bl b=>some (.bool b)
  | .int i=>some (.int i)
  | .str x=>some (.str x)
  | .tup xs=>(Zcd (pyD M k) xs).map .tuple
  | .rol xs=>(Zcd (pyD M k) xs).map .list
  | .con xs=>(Zcd (pyD M k) xs).map .tuple
  | .ref n=>(match M[n]? with | some (.lst xs)=>(Zcd (pyD M k) xs).map .list | none=>none)
  |_=>none
mutual
noncomputable def bdP:PyData->Nat
 | .none=>4
 | .bool _=>5
 | .int i=>i.natAbs.log2 + 2
 | .str x=>(reprText x).length
 | .list xs=>2 + Zjh xs
 | .tuple xs=>3 + Zjh xs
 | .dict _=>0
noncomputable def Zjh:List PyData->Nat
 | []=>0
 |x :: r=>bdP x + 2 + Zjh r
end
noncomputable def ZpF:D->Bool
 | .tup _ | .rol _ | .con _ | .ref _=>true
 |_=>false
noncomputable def bRepr:List D->Sto->Out D:=fun ds M=>match ds with
 | [d]=>if ZpF d=true then (match pyD M 8 d with | some t=>if t.showable=true/\bdP t<=100000 then .ok (.str t.shown) M else .bad | none=> .bad) else .bad
 |_=> .bad
theorem Zlb (s:String):(Str.ofString s).length=s.length:=PySem.ofString_length s
mutual
theorem ZfY: ∀ t:PyData,t.hasDict=false->t.shown.length<=bdP t
 | .none,_=>by rw[PyData.shown_none,bdP];exact (by decide +kernel:(("None":String):Str).length<=4)
 | .bool b,_=>by
  rw[PyData.shown_bool,bdP]
  cases b<;>decide +kernel
 | .int i,_=>by
  rw[PyData.shown_int,bdP,Zlb]
  exact int_text_length_le (Nat.succ_pos _) (Nat.lt_succ_self _)
 | .str x,_=>by rw[PyData.shown_str,bdP];exact Nat.le_refl _
 | .list xs,h=>by
  have:=ZbY xs (by simpa [PyData.hasDict] using h)
  rw[PyData.shown_list,bdP,Str.length_append,Str.length_append]
  have e1:(("[":String):Str).length=1:=by decide +kernel
  have e2:(("]":String):Str).length=1:=by decide +kernel
  rw[e1,e2]
  omega
 | .tuple xs,h=>by
  have:=ZbY xs (by simpa [PyData.hasDict] using h)
  rw[PyData.shown_tuple,bdP,Str.length_append,Str.length_append]
  have e1:(("(":String):Str).length=1:=by decide +kernel
  have e2:(((if xs.length == 1 then ",)" else ")":String)):Str).length<=2:=by split<;>decide +kernel
  rw[e1]
  omega
 | .dict _,h=>by simp[PyData.hasDict] at h
theorem ZbY: ∀ xs:List PyData,PyData.hasDictAll xs=false->(Str.join ", " (PyData.shownAll xs)).length<=Zjh xs
 | [],_=>by rw[PyData.shownAll_nil,Zjh];decide +kernel
 |x :: r,h=>by
  have h':x.hasDict=false/\PyData.hasDictAll r=false:=by simpa [PyData.hasDictAll] using h
  have a:=ZfY x h'.1
  have b:=ZbY r h'.2
  rw[PyData.shownAll_cons,Zjh]
  have e:=join_length_add (PyData.shown x :: PyData.shownAll r) (by simp)
  by_cases hr:PyData.shownAll r=[]
  ·rw[hr] at e ⊢
   rw[piled_cons,piled_nil] at e
   omega
  ·have e':=join_length_add (PyData.shownAll r) hr
   rw[piled_cons] at e
   omega
end
section
variable {X:Cx} {ξ:XK} {pins:List (Addr × Obj)} {σ:L2.St} {H:Hp} {s:Shared} {α:List Addr} {M:Sto}
theorem Zh3 {k:Nat} (ih: ∀ (d:D) (v:V) (u:Value) (t:PyData),Rep X.K H α v d->Zaf v u->pyD M k d=some t->(∃ as,Reads s.heap u t as)/\t.hasDict=false/\t.depth<=k): ∀ (ds:List D) (vs:List V) (us:List Value) (ts:List PyData),Reps X.K H α vs ds->ZZ vs us->Zcd (pyD M k) ds=some ts->(∃ as,ReadsAll s.heap us ts as)/\PyData.hasDictAll ts=false/\PyData.depthAll ts<=k
 |_,_,_,ts,.nil,.nil,e=>by
  cases e
  exact ⟨⟨_,.nil⟩,by simp[PyData.hasDictAll],by simp[PyData.depthAll]⟩
 |d :: ds,_,_,ts,.cons r rs,.cons w ws,e=>by
  unfold Zcd at e
  split at e
  ·rename_i a b ea eb
   cases e
   obtain ⟨⟨as,h1⟩,h2,h3⟩:=ih _ _ _ _ r w ea
   obtain ⟨⟨bs,k1⟩,k2,k3⟩:=Zh3 ih _ _ _ _ rs ws eb
   exact ⟨⟨_,.cons h1 k1⟩,by simp[PyData.hasDictAll,h2,k2],by simp only[PyData.depthAll];omega⟩
  ·cases e
theorem Zlc (I:Inv X pins σ H s) (h:HR X.K H α M): ∀ (k:Nat) (d:D) (v:V) (u:Value) (t:PyData),Rep X.K H α v d->Zaf v u->pyD M k d=some t->(∃ as,Reads s.heap u t as)/\t.hasDict=false/\t.depth<=k
 |0,d,v,u,t,r,w,e=>by cases e
 |k + 1,d,v,u,t,r,w,e=>by
  have tu: ∀ (p:Addr) (xs:List V) (ds:List D) (z:Option PyData),SqT X.K H p xs->Reps X.K H α xs ds->(Zcd (pyD M k) ds).map PyData.tuple=some t->(∃ as,Reads s.heap (.ref p) t as)/\t.hasDict=false/\t.depth<=k + 1:=fun p xs ds _ h1 h2 e=>by
   obtain ⟨ts,e1,rfl⟩:=Option.map_eq_some_iff.mp e
   obtain ⟨its,hv,⟨o,g1,g2,n,g3⟩,_⟩:=I.tuple h1
   obtain ⟨⟨as,k1⟩,k2,k3⟩:=Zh3 (Zlc I h k) _ _ _ _ h2 hv e1
   exact ⟨⟨_,.tuple g1 g2 g3 k1⟩,by simpa [PyData.hasDict] using k2,by simp only[PyData.depth];omega⟩
  have li: ∀ (p:Addr) (xs:List V) (ds:List D),SqL X.K H p xs->Reps X.K H α xs ds->(Zcd (pyD M k) ds).map PyData.list=some t->(∃ as,Reads s.heap (.ref p) t as)/\t.hasDict=false/\t.depth<=k + 1:=fun p xs ds h1 h2 e=>by
   obtain ⟨ts,e1,rfl⟩:=Option.map_eq_some_iff.mp e
   obtain ⟨its,hv,pl,_⟩:=I.list h1
   obtain ⟨o,g1,g2,n,g3⟩:=pl.isList
   obtain ⟨⟨as,k1⟩,k2,k3⟩:=Zh3 (Zlc I h k) _ _ _ _ h2 hv e1
   exact ⟨⟨_,.list g1 g2 g3 k1⟩,by simpa [PyData.hasDict] using k2,by simp only[PyData.depth];omega⟩
  cases r with
  |non=>cases e;cases w;exact ⟨⟨_,.none⟩,by simp[PyData.hasDict],by simp[PyData.depth]⟩
  |bl b=>cases e;cases w;exact ⟨⟨_,.bool b⟩,by simp[PyData.hasDict],by simp[PyData.depth]⟩
  |int i=>cases e;obtain ⟨z,rfl⟩:=w;exact ⟨⟨_,.int i z⟩,by simp[PyData.hasDict],by simp[PyData.depth]⟩
  |str x=>cases e;obtain ⟨z,rfl⟩:=w;exact ⟨⟨_,.str x z⟩,by simp[PyData.hasDict],by simp[PyData.depth]⟩
  |tup h1 h2=>cases w;exact tu _ _ _ none (.inl (.inl h1)) h2 e
  |con h1 h2=>cases w;exact tu _ _ _ none h1.sq h2 e
  |rol h1 h2=>cases w;exact li _ _ _ h1.sq h2 e
  | @ref p n h1=>
   cases w
   change (match M[n]? with | some (.lst xs)=>(Zcd (pyD M k) xs).map .list | none=>none)=some t at e
   split at e
   ·rename_i e1
    obtain ⟨xs,k1,k2⟩:=h.at h1 e1
    exact li _ _ _ (.inl (.inl k1)) k2 e
   ·cases e
  |_=>cases e
noncomputable def Zld (X:Cx):List V->Hp->VK->Prop:=fun xs H Q=> ∃ (p:Addr) (α:List Addr) (M:Sto) (d:D) (t:PyData),xs=[.ref p]/\HR X.K H α M/\Rep X.K H α (.ref p) d/\pyD M 8 d=some t/\t.showable=true/\bdP t<=100000/\Q (.str t.shown) H
theorem Zh4 {j:Nat} (hr:Room j X.A):ZbM X (.builtin "repr") (Zld X):=by
 intro pins s σ H vs us Q I rs ⟨p,α,M,d,t,e,h,r,e1,hs,hb,q⟩
 subst e
 obtain ⟨u,rfl,ru⟩:=Zdq rs
 cases ru
 obtain ⟨⟨as,k1⟩,k2,k3⟩:=Zlc I h 8 d _ _ t r rfl e1
 refine repr_of_reads' k1 hs (PyData.noDict_hsm k2) hr.gd (by have:=hr.un;omega) (fun _ _ e=>e) (fun h' u tk hk=>⟨.str t.shown,H,I.kept fun b o e=>hk b o e,⟨u,rfl⟩,q⟩) (Nat.le_trans (ZfY t k2) (Nat.le_trans hb (by rw[sizeLine_eq];decide)))
theorem Zh5:bootBuiltins "repr"=some (.builtin "repr"):=by decide +kernel
theorem Zle:CO X ξ (Zld X) bRepr:=by
 intro H α M vs ds Q h rs q
 match rs with
 | .nil=>exact q.elim
 | .cons r (.cons _ _)=>cases r<;>exact q.elim
 | .cons (d:=x) (v:=v) r .nil=>
  unfold bRepr at q
  dsimp only at q
  split at q
  ·rename_i hq
   split at q
   ·rename_i t e
    split at q
    ·rename_i c
     have: ∃ p,v= .ref p:=by cases r<;>first | exact ⟨_,rfl⟩ | cases hq
     obtain ⟨p,rfl⟩:=this
     exact ⟨p,α,M,x,t,rfl,h,r,e,c.1,c.2,q _ H α Ext.refl h (.str _)⟩
    ·exact q.elim
   ·exact q.elim
  ·exact q.elim
end
end DL
end
section
namespace DL
open PySem PySem.Spec PyProof.Rows L2
section
variable {X:Cx} {ξ:XK} {tg:Expr} {fs:Av} {pos:Pos}
end
end DL
end
namespace DL
open PySem PySem.Spec L2
section
variable {X:Cx} {ξ:XK} {a b c:Expr} {fa fb fc:Ev} {pos:Pos}
noncomputable def Zlf (f:Ev):Prop:= ∀ ρ,(∃ d,∀ M,f ρ M= .ok d M)\/ ∀ M,f ρ M= .bad
theorem Znh {d:D}:Zlf (eC d):=fun _=> .inl ⟨d,fun _=>rfl⟩
theorem ZpG {r r':R2} {f g:Bo} (hp:Zlf fb) (hf:BO X ξ r f) (hg:BO X ξ r' g) {ta tb tc:TE}
  (qa: ∀ σ ρ H α M Q,SR X.K H α σ ρ->HR X.K H α M->OP X.K H α ξ Q (fa ρ M)->ta σ H Q)
  (qb: ∀ σ ρ H α M Q,SR X.K H α σ ρ->HR X.K H α M->OP X.K H α ξ Q (fb ρ M)->tb σ H Q)
  (qc: ∀ σ ρ H α M Q,SR X.K H α σ ρ->HR X.K H α M->OP X.K H α ξ Q (fc ρ M)->tc σ H Q):
  ∀ σ ρ H α M Q,SR X.K H α σ ρ->HR X.K H α M->OP X.K H α ξ Q (ZaE (e2 f fa fb) (e2 g fb fc) ρ M)->ZjU r r' ta tb tc σ H Q:=by
 intro σ ρ H α M Q s h q
 unfold ZaE e2 at q
 rcases hp ρ with ⟨d,hd⟩ | hd
 ·have q:OP X.K H α ξ Q ((fa ρ M).bind fun x M1=>(fb ρ M1).bind fun y M2=>(f x y M2).bind fun z M3=>match z with | .bl k=>if k=true then (fc ρ M3).bind fun w M4=>g d w M4 else .ok (.bl false) M3 | _=> .bad):=by
   simp only[hd,Out.bind] at q ⊢
   cases e:fa ρ M with
   |ok x M1=>simp only[e] at q ⊢;exact q
   |exc c M1=>simp only[e] at q ⊢;exact q
   |bad=>simp only[e] at q ⊢;exact q
  refine qa σ ρ H α M _ s h (OG.seq q fun x M1 v H1 α1 e1 h1 r1 q1=> ?_)
  rw[hd] at q1
  refine qb σ ρ H1 α1 M1 _ (s.mono e1) h1 ?_
  rw[hd]
  intro w H2 α2 e2 h2 r2
  have q2:=OG.ext (o:=(f x d M1).bind fun z M3=>match z with | .bl k=>if k=true then (fc ρ M3).bind fun w M4=>g d w M4 else .ok (.bl false) M3 | _=> .bad) q1 e2
  refine hf H2 α2 M1 v w x d _ h2 (Rep.mono e2 r1) r2 (OG.seq q2 fun z M3 u H3 α3 e3 h3 r3 q3=> ?_)
  cases r3 with
  |bl k=>
   refine ⟨k,rfl,?_⟩
   cases k with
   |true=>
    refine ZjY (qc σ ρ H3 α3 M3 _ ((s.mono e1).mono (e2.trans e3)) h3 (OG.seq q3 fun w' M4 u' H4 α4 e4 h4 r4 q4=> ?_))
    exact hg H4 α4 M4 w u' d w' Q h4 (Rep.mono (e3.trans e4) r2) r4 q4
   |false=>exact ZjX (q3 _ H3 α3 Ext.refl h3 (.bl false))
  |_=>exact q3.elim
 ·simp only[hd] at q
  refine qa σ ρ H α M _ s h ?_
  cases e:fa ρ M with
  |ok x M1=>rw[e] at q;exact q.elim
  |exc c M1=>rw[e] at q;exact q
  |bad=>rw[e] at q;exact q
theorem Zni {op op':CmpOp} {r r':R2} {f g:Bo} (ho:OpR X (compareOp op) r) (hf:BO X ξ r f) (ho':OpR X (compareOp op') r') (hg:BO X ξ r' g) (hp:Zlf fb) (ha:DE X ξ a fa) (hb:DE X ξ b fb) (hc:DE X ξ c fc)
  (hm:lastMarks [op,op'] [b,c]=false:=by with_unfolding_all rfl):DE X ξ (.Compare a [op,op'] [b,c] pos) (ZaE (e2 f fa fb) (e2 g fb fc)):=by
 obtain ⟨ta,ha,qa⟩:=ha
 obtain ⟨tb,hb,qb⟩:=hb
 obtain ⟨tc,hc,qc⟩:=hc
 exact ⟨_,ZiT ho ho' ha hb hc hm,ZpG hp hf hg qa qb qc⟩
end
end DL
section
namespace DL
open PySem PySem.Spec PyProof.Rows L2 PySem.W
section
variable {K:PySem.W.Frag} {H:Hp} {α:List Addr}
end
section
variable {X:Cx} {ξ:XK} {pos:Pos}
variable {o e:Expr} {fo fa:Ev} {apos cpos:Pos}
end
end DL
end
section
namespace PySem.SeqAt
open MeetsSeq MeetsSeq2 MeetsSeq3 SeqRoads2
end PySem.SeqAt
namespace DL
open PySem PySem.Spec PyProof.Rows L2 PySem.W
section
variable {X:Cx} {ξ:XK} {o e:Expr} {fo fa:Ev} {apos cpos:Pos}
end
end DL
end
section
namespace ST
open PySem PyProof.Rows
noncomputable abbrev lt (a b:List Int):Bool:=HT.Zmy a b
noncomputable def le (a b:List Int):Prop:=lt b a=false
variable (kf:Keyed->List Int)
noncomputable def ky (xs:Array Keyed) (i:Nat):List Int:=match xs[i]? with | some p=>kf p | none=>[]
noncomputable def Dn (xs:Array Keyed) (n:Nat):Prop:= ∀ i j,i<=j->j < n->le (ky kf xs j) (ky kf xs i)
variable {kf}
section
variable {prog:Program} {w:World} {A:Around} {E:Value->Shared->Prop} {s:Shared} {B:SortSt->Prop} {N:Nat}
end
end ST
end
section
namespace ST
end ST
namespace DL
open PySem PySem.Spec PyProof.Rows L2 PySem.W
section
variable {X:Cx} {ξ:XK}
end
end DL
end
section
namespace DL
open PySem PySem.Spec PyProof.Rows L2
section
variable {X:Cx} {ξ:XK} {o e e2:Expr} {fo fa fb:Ev} {apos cpos:Pos}
theorem Reps.tk {K:PySem.W.Frag} {H:Hp} {α:List Addr}: ∀ {vs:List V} {ds:List D} (i:Nat),Reps K H α vs ds->Reps K H α (vs.take i) (ds.take i)
 |_,_,0,_=> .nil
 |_,_,_ + 1,.nil=> .nil
 |_,_,i + 1,.cons r t=> .cons r (Reps.tk i t)
end
end DL
end
section
namespace DL
open PySem PySem.Spec PyProof.Rows L2
noncomputable def atR:D->Option Str
 | .non=>some (PySem.Str.ofString "None")
 | .bl b=>some (PySem.Str.ofString (if b then "True" else "False"))
 | .int i=>if i.natAbs.log2 < 1900 then some (PySem.Str.ofString (toString i)) else none
 | .str x=>if (reprText x).length<=100000 then some (reprText x) else none
 |_=>none
noncomputable def bReprA:List D->Sto->Out D:=fun ds M=>match ds with
 | [d]=>(match atR d with | some t=> .ok (.str t) M | none=>bRepr [d] M)
 |_=> .bad
section
variable {X:Cx} {ξ:XK}
noncomputable def Zka (X:Cx):List V->Hp->VK->Prop:=fun xs H Q=>Zld X xs H Q\/ ∃ v t,xs=[v]/\((v= .non/\t=PySem.Str.ofString "None")\/(∃ b,v= .bl b/\t=PySem.Str.ofString (if b then "True" else "False"))\/(∃ i,v= .int i/\i.natAbs.log2 < 1900/\t=PySem.Str.ofString (toString i))\/(∃ x,v= .str x/\(reprText x).length<=100000/\t=reprText x))/\Q (.str t) H
theorem ZdE {j:Nat} (hr:Room j X.A):ZbM X (.builtin "repr") (Zka X):=by
 intro pins s σ H vs us Q I rs h
 rcases h with h | ⟨v,t,rfl,h,q⟩
 ·exact Zh4 hr pins s σ H vs us Q I rs h
 ·obtain ⟨u,rfl,ru⟩:=Zdq rs
  rcases h with ⟨rfl,rfl⟩ | ⟨b,rfl,rfl⟩ | ⟨i,rfl,hi,rfl⟩ | ⟨x,rfl,hx,rfl⟩
  ·cases (show u=Value.none from ru)
   exact P.repr_of_none ⟨.str _,H,I.tok _,⟨_,rfl⟩,q⟩
  ·cases (show u=Value.bool b from ru)
   have e:PySem.Str.ofString (if b=true then "True" else "False")=if b=true then PySem.Str.ofString "True" else PySem.Str.ofString "False":=by cases b<;>rfl
   rw[e] at q
   exact P.repr_of_bool ⟨.str _,H,I.tok _,⟨_,rfl⟩,q⟩
  ·obtain ⟨t,rfl⟩:=ru
   exact P.repr_of_int (by omega) ⟨.str _,H,I.tok _,⟨_,rfl⟩,q⟩
  ·obtain ⟨t,rfl⟩:=ru
   exact P.repr_of_str ⟨.str _,H,I.tok _,⟨_,rfl⟩,q⟩ (Nat.le_trans hx (by rw[sizeLine_eq];decide))
theorem ZfZ:CO X ξ (Zka X) bReprA:=by
 intro H α M vs ds Q h rs q
 match rs with
 | .nil=>exact q.elim
 | .cons _ (.cons _ _)=>exact q.elim
 | .cons (d:=x) (v:=v) r .nil=>
  unfold bReprA at q
  dsimp only at q
  cases e:atR x with
  |none=>
   rw[e] at q
   exact .inl (Zle H α M _ _ Q h (.cons r .nil) q)
  |some t=>
   rw[e] at q
   refine .inr ⟨v,t,rfl,?_,q _ H α Ext.refl h (.str _)⟩
   cases r with
   |non=>cases e;exact .inl ⟨rfl,rfl⟩
   |bl b=>cases e;exact .inr (.inl ⟨b,rfl,rfl⟩)
   |int i=>
    change (if i.natAbs.log2 < 1900 then some (PySem.Str.ofString (toString i)) else none)=some t at e
    by_cases c:i.natAbs.log2 < 1900
    ·rw[if_pos c] at e
     cases e
     exact .inr (.inr (.inl ⟨i,rfl,c,rfl⟩))
    ·rw[if_neg c] at e
     cases e
   |str y=>
    change (if (reprText y).length<=100000 then some (reprText y) else none)=some t at e
    by_cases c:(reprText y).length<=100000
    ·rw[if_pos c] at e
     cases e
     exact .inr (.inr (.inr ⟨y,rfl,c,rfl⟩))
    ·rw[if_neg c] at e
     cases e
   |_=>cases e
end
end DL
end
section
namespace DQ
open PySem PySem.Spec PyProof.Rows
open Builtin Builtin.ObjectAttr
open PySem.W (Looks findIn mroIn specialIn takesIn clsIn looks_findIn looks_mroIn looks_find findObj handedIn hasDictIn lookIn)
section
variable {prog:Program} {w:World} {A:Around} {E:Value->Shared->Prop} {s:Shared} {K:PySem.W.Frag} {e C:Addr} {oe:Obj} {od:Option Obj} {name:Str} {v:Value}
theorem Zh6 {tk:Tok} {Q:Fin->Shared->Prop} (X:K.In s.heap) (I:PySem.W.InstAt s.heap e oe C od) (hf:findObj K C od name=some (.value v)) (h:Q (.done (.ret v)) s):
  wpAny (model prog w) A (Builtin.«object.__getattribute__» ⟨[.ref e,.str name tk],[]⟩) Q E s:=by
 obtain ⟨hh,g,d,t,os⟩:=s
 have L0:=I.type (M:=model prog w)
 have L1:=looks_find (M:=model prog w) X I hf
 refine wpAny_bind (wpAny_pure (wpAny_bind (wpAny_pure (wpAny_bind (L0.at (wpAny_bind (L1.at ?_)))))))
 exact wpAny_pure h
theorem Znj {tk:Tok} {fill expr:Bool} {Q:Value->Shared->Prop} (c:ExcC K C) (X:K.In s.heap) (I:PySem.W.InstAt s.heap e oe C od) (hf:findObj K C od name=some (.value v)) (hh:handedIn v=true) (h:Q v s):wpAny (model prog w) A (getAttrBy (.ref e) (.str name tk) fill expr) Q E s:=by
 have hc: ∀ {E':Value->Shared->Prop} {Q':Value->Shared->Prop},Q' v s->wpAny (model prog w) A (call (.builtin "BaseException.__getattribute__") [.ref e,.str name tk]) Q' E' s:=fun {E' Q'} z=>
  wpAny_call (codeAny_call_builtin F.attr_ValueError.ga.plain F.entry_bexc_ga (ZfH c X I (Zh6 X I hf z)))
 obtain ⟨hp,g,d,t,os⟩:=s
 have L0:=I.type (M:=model prog w)
 have L1:=looks_findIn (M:=model prog w) X c.ga
 have L2:=looks_findIn (M:=model prog w) X c.gt
 have hb:=F.attr_ValueError.ga.bind (.ref e)
 have hx:(onTheHeap (Value.ref C) && Value.builtin "BaseException.__getattribute__" == Value.builtin "object.__getattribute__")=false:=by rw[show (Value.builtin "BaseException.__getattribute__" == Value.builtin "object.__getattribute__")=false by decide +kernel];rfl
 have hy:(expr && onTheHeap (Value.builtin "BaseException.__getattribute__"))=false:=by cases expr<;>rfl
 unfold getAttrBy
 refine wpAny_holding (wpAny_bind (L0.at (wpAny_bind (L1.at ?_))))
 dsimp only
 rw[hx,if_neg (by decide)]
 unfold getAttrByItsOwn hookBefore
 rw[if_pos (show onTheHeap (Value.ref C)=true from rfl)]
 refine wpAny_bind (L2.at (wpAny_bind (wpAny_attempt (wpAny_holding ?_))))
 unfold callGetattribute
 rw[hy,if_neg (by decide)]
 unfold boundAndCalled
 refine wpAny_bind (wpAny_of_eq hb (hc ?_))
 exact PySem.W.handed_on hh h
theorem Zji {expr:Bool} {Q:Value->Shared->Prop} (c:ExcC K C) (X:K.In s.heap) (I:PySem.W.InstAt s.heap e oe C od) (hf:findObj K C od name=some (.value v)) (hh:handedIn v=true) (h:Q v { s with toks:=s.toks + 1 }):wpAny (model prog w) A (getAttr (.ref e) name expr) Q E s:=by
 unfold getAttr
 exact wpAny_bind (wpAny_mkText (Znj (s:={ s with toks:=s.toks + 1 }) c X I hf hh h))
noncomputable def Znk:Value->Bool
 | .ref _=>true
 |_=>false
noncomputable def Zjj:List Value->Bool
 | []=>false
 |v :: r=>if Znk v then Zjj r else (v :: r) == [.type "ValueError",.type "Exception",.type "BaseException",.type "object"]
theorem Zjk {v:Value} (h:Znk v=true): ∃ a,v= .ref a:=by
 cases v<;>first | exact ⟨_,rfl⟩ | cases h
theorem Zf0 (self:Value): ∀ {l:List Value},Zjj l=true->refuseLoop self "__setattr__" l=pure ()/\l.contains (.type "object")=true/\l.isEmpty=false
 | [],h=>by cases h
 |v :: r,h=>by
  unfold Zjj at h
  split at h
  ·rename_i q
   obtain ⟨a,rfl⟩:=Zjk q
   obtain ⟨h1,h2,_⟩:=Zf0 self h
   exact ⟨by rw[refuseLoop_ref];exact h1,by rw[List.contains_cons,h2,Bool.or_true],rfl⟩
  ·have e:=eq_of_beq h
   rw[e]
   exact ⟨PySem.F.store_ValueError.passes self,by decide +kernel,rfl⟩
noncomputable def Zcq (K:PySem.W.Frag) (C:Addr):Bool:=(clsIn K C).any fun cd=>Zjj cd.mro
theorem Zh7 {tk:Tok} {R:Result->Shared->Prop} (X:K.In s.heap) (I:PySem.W.InstAt s.heap e oe C od) (hp:Zcq K C=true) (ht:PySem.W.takerIn K C name=some none)
  (h: ∀ b,wpAny (model prog w) A.in1 (storeInOwnDict (.ref e) (.ref C) (.str name tk) name v b)
   (fun fin s'=>match fin with | .done f=>R (.ok f) s' | .again c'=>c'.quiet=true/\codeAny (model prog w) A c' R s') (fun e s'=>R (.error e) s') s):
  codeAny (model prog w) A (.call (.builtin "object.__setattr__") ⟨[.ref e,.str name tk,v],[]⟩) R s:=by
 have SF:=PySem.F.store_object
 obtain ⟨cd,hc,ho⟩:=PySem.W.any_some hp
 obtain ⟨r1,r2,r3⟩:=Zf0 (.ref e) ho
 have sub:Looks (model prog w) s.heap (isInstance (.ref e) (.type "object")) true:=I.type.andThen (looks_mroIn X (by unfold mroIn;rw[hc,Option.bind_some,if_neg (by rw[r3];decide),r2]))
 refine codeAny_call_builtin SF.slot.plain SF.entry (@PySem.W.check_slot (model prog w) _ _ s "object.__setattr__" "object" "__setattr__" (.ref e) [.str name tk,v] [] _ SF.kind SF.split sub (SF.args (.ref e) (.str name tk) v) ?_)
 obtain ⟨attr,ha,hr⟩:=Option.bind_eq_some_iff.mp ht
 have hm:Looks (model prog w) s.heap (mroOf (.ref C)) cd.mro:=(PySem.W.looks_clsIn X hc).andThen .now
 have L3:Looks (model prog w) s.heap (Builtin.ObjectAttr.storeTaker? attr) none:=by
  cases attr with
  |none=>exact .now
  |some a=>
   obtain ⟨b,hb,e⟩:=Option.map_eq_some_iff.mp hr
   refine (PySem.W.looks_takesIn X hb).andThen ?_
   cases b
   ·exact .now
   ·cases e
 rw[PySem.W.osa_eq,refuse_eq]
 refine wpAny_bind (wpAny_bind (I.type.here (wpAny_bind (hm.here ?_))))
 rw[r1]
 refine wpAny_pure (wpAny_bind (I.type.here (wpAny_bind ((looks_findIn X ha).here (wpAny_bind (L3.here ?_))))))
 exact h _
theorem Znl {Q:Unit->Shared->Prop} (X:K.In s.heap) (I:PySem.W.InstAt s.heap e oe C od) (hs:findIn K (.ref C) "__setattr__"=some (some (.builtin "object.__setattr__"))) (hp:Zcq K C=true) (ht:PySem.W.takerIn K C name=some none)
  (h: ∀ b,wpAny (model prog w) A.in1 (storeInOwnDict (.ref e) (.ref C) (.str name s.toks) name v b) (fun fin s'=>match fin with | .done (.ret _)=>Q () s' | _=>False) E { s with toks:=s.toks + 1 }):wpAny (model prog w) A (setAttr (.ref e) name v) Q E s:=by
 refine PySem.W.set_plain X I hs (Zh7 (s:={ s with toks:=s.toks + 1 }) X I hp ht fun b=>wpAny_mono (h b) (fun fin s' z=> ?_) fun _ _ z=>z)
 rcases fin with (_ | _ | _ | _) | _<;>first | exact z | exact z.elim
theorem Zlg {vs:Array Value} {Q:Unit->Shared->Prop} (X:K.In s.heap) (hx:s.heap.get? e=some oe) (hc:oe.cls= .ref C) (hd:oe.data= .fields vs) (hn:oe.dict=none) (hs:findIn K (.ref C) "__setattr__"=some (some (.builtin "object.__setattr__"))) (hp:Zcq K C=true) (ht:PySem.W.takerIn K C name=some none) (hh:hasDictIn K C=true)
  (h: ∀ h',h'.get? e=some { oe with dict:=some s.heap.objs.size }->h'.Ns1 s.heap.objs.size (fun y=>if y=name then some v else none)->(∀ b o,b≠e->s.heap.get? b=some o->h'.get? b=some o)->Q () { s with heap:=h',toks:=s.toks + 2 }):
  wpAny (model prog w) A (setAttr (.ref e) name v) Q E s:=by
 have I:PySem.W.InstAt s.heap e oe C none:=⟨hx,hc,by unfold PySem.W.notCls;rw[hd],by rw[hn];trivial⟩
 refine Znl X I hs hp ht fun b=> ?_
 obtain ⟨cd,hcd,hd'⟩:=PySem.W.any_some hh
 refine wpAny_bind (wpAny_pure (wpAny_bind (wpAny_bind (wpAny_loadPart hx ?_))))
 rw[hc]
 refine wpAny_bind (PySem.W.Looks.here (s:={ s with toks:=s.toks + 1 }) (PySem.W.looks_clsIn X hcd) ?_)
 rw[hd',hn]
 dsimp only
 rw[if_neg (by decide),if_neg (by simp[typeHasDict]),hd]
 dsimp only
 obtain ⟨hp0,g,d,t,os⟩:=s
 dsimp only at hx h ⊢
 have hx₁:(hp0.push { cls:= .type "dict",data:= .dict #[] }).get? e=some oe:=Heap.get?_push_of_some _ hx
 have hxs:e≠hp0.objs.size:=Nat.ne_of_lt (Heap.lt_size hx)
 refine wpAny_bind (wpAny_alloc' ?_)
 refine wpAny_bind (wpAny_update' hx₁ ?_)
 refine wpAny_pure ?_
 have hgd:((hp0.push { cls:= .type "dict",data:= .dict #[] }).update e fun o=>{ cls:=o.cls,dict:=some hp0.objs.size,data:=o.data,slots:=o.slots }).get? hp0.objs.size=some { cls:= .type "dict",data:= .dict #[] }:=
  (Heap.get?_update_ne _ _ _ _ hxs.symm).trans (Heap.get?_push_at rfl rfl)
 have hnd:((hp0.push { cls:= .type "dict",data:= .dict #[] }).update e fun o=>{ cls:=o.cls,dict:=some hp0.objs.size,data:=o.data,slots:=o.slots }).Ns hp0.objs.size (fun _=>none):=
  ⟨_,#[],_,hgd,rfl,fun e he=>absurd he (by simp),fun _=>rfl⟩
 show wpAny _ _ (storeInDict hp0.objs.size (.str name t) name v) _ _ _
 unfold storeInDict newKeyGuard
 refine wpAny_bind (wpAny_pure (wpAny_bind (wpAny_nsSet1 (Heap.Ns1.of_empty hnd) fun h' hn' hs=> ?_)))
 obtain ⟨oD,esD,epD,hoD,hdD,hcD⟩:=hn'.count (PySem.Within.cons name v PySem.Within.nil)
 refine wpAny_bind (wpAny_lookBehind hoD (by rw[hdD];exact pastItsLine_dict (Nat.le_trans hcD (by rw[List.length_cons,List.length_nil,sizeLine_eq];omega))) ?_)
 refine wpAny_pure (h h' ?_ hn' fun b ob hbx hb=> ?_)
 ·refine (hs.2 e hxs).trans (Heap.get?_update_self _ hx₁ ?_)
  obtain ⟨oc,odi,odt,osl⟩:=oe
  dsimp only at hd
  subst hd
  rfl
 ·exact (hs.2 b (Nat.ne_of_lt (Heap.lt_size hb))).trans ((Heap.get?_update_ne _ _ _ _ hbx).trans (Heap.get?_push_of_some _ hb))
theorem Zlh {mA:Str->Option Value} {dx:Addr} {ns:List Str} {Q:Unit->Shared->Prop} (X:K.In s.heap) (I:PySem.W.InstAt s.heap e oe C od) (hd:oe.dict=some dx) (hns:s.heap.Ns1 dx mA) (hs:findIn K (.ref C) "__setattr__"=some (some (.builtin "object.__setattr__"))) (hp:Zcq K C=true) (ht:PySem.W.takerIn K C name=some none) (hh:hasDictIn K C=true)
  (hw:PySem.Within mA ns) (hsz:ns.length<=1000) (h: ∀ h',h'.Ns1 dx (fun y=>if y=name then some v else mA y)->Heap.SameBut dx s.heap h'->Q () { s with heap:=h',toks:=s.toks + 2 }):
  wpAny (model prog w) A (setAttr (.ref e) name v) Q E s:=by
 refine Znl X I hs hp ht fun b=> ?_
 obtain ⟨cd,hcd,hd'⟩:=PySem.W.any_some hh
 refine wpAny_bind (wpAny_pure (wpAny_bind (wpAny_bind (wpAny_loadPart I.at_ ?_))))
 rw[I.cls]
 refine wpAny_bind (PySem.W.Looks.here (s:={ s with toks:=s.toks + 1 }) (PySem.W.looks_clsIn X hcd) ?_)
 rw[hd',hd]
 refine wpAny_pure (a:=some dx) (wpAny_bind (wpAny_pure (wpAny_bind ?_)))
 refine wpAny_nsSet1 (s:={ s with toks:=s.toks + 1 }) hns fun h' hn2 hs2=> ?_
 obtain ⟨oD,esD,epD,hoD,hdD,hcD⟩:=hn2.count (PySem.Within.cons name v hw)
 refine wpAny_bind (wpAny_lookBehind hoD (by rw[hdD];exact pastItsLine_dict (Nat.le_trans hcD (by rw[List.length_cons,sizeLine_eq];omega))) ?_)
 exact wpAny_pure (h _ hn2 hs2)
theorem Zh8 {bm:List Value} {N:Addr} {nm q:Str} {bs:List Value} {hdct:Bool} {sn:List Str} {sub:List Value} {ab:Bool} {col:Option Bool} {dd:Option Addr} {k0 k1 k2 k3 k5:Option Value} {vs:Array Value} {Q:Value->Shared->Prop} {h:Heap} {g:Array GenState} {d:Drawn} {t:Nat} {os:OsState}
  (T:OwnTail h [.type "ValueError",.type "Exception",.type "BaseException",.type "object"] bm) (hC:h.get? C=some (excClassObj nm q C N bs bm hdct sn sub ab col dd k0 k1 k2 k3 k5 "ValueError.__new__")) (he:h.get? e=some oe) (hc:oe.cls= .ref C) (hd:oe.data= .fields vs) {t0:Addr} (h0:vs[0]?=some (.ref t0))
  (hq: ∀ h',(∀ b o,b≠e->h.get? b=some o->h'.get? b=some o)->h'.get? e=some { oe with data:= .fields (vs.setIfInBounds 0 (.ref h.objs.size)) }->Q .none ⟨h',g,d,t,os⟩):
  wpAny (model prog w) A (call (.builtin "ValueError.__init__") [.ref e,v]) Q E ⟨h,g,d,t,os⟩:=by
 refine wpAny_call (codeAny_call_builtin F.excBase_ValueError.init.plain F.excBase_ValueError.initEntry (wpAny_check_init_subT F.excBase_ValueError T hC he hc ?_))
 have hz:0 < vs.size:=(Array.getElem?_eq_some_iff.mp h0).1
 have he1:(h.push { cls:=Value.type "tuple",data:=Data.seq #[v] }).get? e=some oe:=Heap.get?_push_of_some _ he
 wp_walk
 rw[hd]
 refine wpAny_pure ?_
 rw[h0]
 refine wpAny_pure (wpAny_bind (wpAny_setField he1 hd hz ?_))
 wp_walk
 refine hq _ (fun b o hb x=> ?_) ?_
 ·rw[Heap.get?_update_other _ _ (Ne.symm hb)]
  exact Heap.get?_push_of_some _ x
 ·rw[Heap.get?_update_self _ he1 (Obj.isFreed_of_fields (Obj.data_mapFields hd _))]
  obtain ⟨oc,odi,odt,osl⟩:=oe
  dsimp only at hd
  subst hd
  rfl
end
section
variable {prog:Program} {w:World} {A:Around} {E:Value->Shared->Prop} {h:Heap} {g:Array GenState} {d:Drawn} {t:Nat} {os:OsState}
variable {nm q:Str} {C N:Addr} {bs bm bmB:List Value} {hdct:Bool} {sn:List Str} {sub:List Value} {ab:Bool} {col:Option Bool} {dd:Option Addr} {k0 k1 k2 k3 k5:Option Value} {B newId initId:String}
theorem Zdw (F:ExcBaseFacts B newId initId bmB) (T:OwnTail h bmB bm) {mN:Str->Option Value} {rest:List Value} {fI:Addr} {oI:Obj} {Q:Fin->Shared->Prop}
  (hC:h.get? C=some (excClassObj nm q C N bs bm hdct sn sub ab col dd k0 k1 k2 k3 k5 newId)) (hn:h.Ns N mN) (hi:mN "__init__"=some (.ref fI)) (hfI:h.get? fI=some oI) (hfc:oI.cls= .type "function")
  (hq: ∀ h' e,Heap.MadeExcOf h h' e (.ref C) rest->wpAny (model prog w) A (call (.ref fI) (.ref e :: rest)) (fun r s'=>r= .none/\Q (.done (.ret (.ref e))) s') E ⟨h',g,d,t,os⟩) (hrest:rest.length<=sizeLine):
  wpAny (model prog w) A (Builtin.«type.__call__» ⟨.ref C :: rest,[]⟩) Q E ⟨h,g,d,t,os⟩:=by
 repeat (first | with_reducible refine wpAny_loadPart_at hC ?_ | with_reducible refine wpAny_madeBy_exc hC ?_ | wp_step)
 refine codeAny_call_builtin_code (Code.quiet_builtin _ F.quiet) (wpAny_check_new_subT F T hC ?_)
 refine codeAny_exc_new_subT F T hC ?_ hrest
 show wpAny _ _ _ _ _ _
 have hC₁:=Heap.get?_push_of_some { cls:= .ref C,data:= .fields #[.ref h.objs.size,.none,.none,.none,.bool false,.none] }
  (Heap.get?_push_of_some { cls:= .type "tuple",data:= .seq rest.toArray } hC)
 have hfI₁:=Heap.get?_push_of_some { cls:= .ref C,data:= .fields #[.ref h.objs.size,.none,.none,.none,.bool false,.none] }
  (Heap.get?_push_of_some { cls:= .type "tuple",data:= .seq rest.toArray } hfI)
 have hn₁:((h.push { cls:= .type "tuple",data:= .seq rest.toArray }).push { cls:= .ref C,data:= .fields #[.ref h.objs.size,.none,.none,.none,.bool false,.none] }).Ns N mN:=
  let ⟨o,es,ep,e,r⟩:=hn;⟨o,es,ep,Heap.get?_push_of_some _ (Heap.get?_push_of_some _ e),r⟩
 have hget:((h.push { cls:= .type "tuple",data:= .seq rest.toArray }).push
   { cls:= .ref C,data:= .fields #[.ref h.objs.size,.none,.none,.none,.bool false,.none] }).get? (h.objs.size + 1)=some
   { cls:= .ref C,data:= .fields #[.ref h.objs.size,.none,.none,.none,.bool false,.none] }:=by heap_get
 have hcC:(Value.ref C :: bm).contains (.ref C)=true:=by simp
 have T₁:=T.keeps (h':=(h.push { cls:= .type "tuple",data:= .seq rest.toArray }).push { cls:= .ref C,data:= .fields #[.ref h.objs.size,.none,.none,.none,.bool false,.none] })
  fun b o e=>Heap.get?_push_of_some _ (Heap.get?_push_of_some _ e)
 unfold isInstance
 repeat (first | with_reducible refine wpAny_loadPart_at hget ?_ | (with_reducible refine wpAny_isSubtype_exc hC₁ ?_;rw[hcC]) | wp_step)
 show wpAny _ _ (typeLookup (.ref C) _) _ _ _
 refine wpAny_typeLookup_tail hC₁ hn₁ T₁ F.mroIs F.init.lookup ?_
 rw[hi]
 refine wpAny_holding (wpAny_bind ?_)
 unfold bindSpecial
 refine wpAny_bind (wpAny_typeOf (T:="function") ⟨_,hfI₁,hfc⟩ ?_)
 rw[if_pos (by decide)]
 refine wpAny_pure (wpAny_bind (wpAny_mono (hq _ (h.objs.size + 1) ⟨fun b o hb=>Heap.get?_push_of_some _ (Heap.get?_push_of_some _ hb),Heap.get?_none_of_le (Nat.le_succ _),h.objs.size,hget,Heap.get?_none_of_le (Nat.le_refl _),?_⟩) (fun r s' hr=> ?_) fun _ _ x=>x))
 ·exact Heap.get?_push_of_some _ (Heap.get?_push_at rfl rfl)
 ·obtain ⟨rfl,hQ⟩:=hr
  wp_walk
  exact hQ
theorem Zh9 (F:ExcBaseFacts B newId initId bmB) (T:OwnTail h bmB bm) {mN:Str->Option Value} {rest:List Value} {fI:Addr} {oI:Obj} {Q:Value->Shared->Prop}
  (hC:h.get? C=some (excClassObj nm q C N bs bm hdct sn sub ab col dd k0 k1 k2 k3 k5 newId)) (hn:h.Ns N mN) (hi:mN "__init__"=some (.ref fI)) (hfI:h.get? fI=some oI) (hfc:oI.cls= .type "function")
  (hq: ∀ h' e,Heap.MadeExcOf h h' e (.ref C) rest->wpAny (model prog w) (A.under (.builtin "type.__call__" ⟨.ref C :: rest,[]⟩)) (call (.ref fI) (.ref e :: rest)) (fun r s'=>r= .none/\Q (.ref e) s') E ⟨h',g,d,t,os⟩) (hrest:rest.length<=sizeLine):
  wpAny (model prog w) A (call (.ref C) rest) Q E ⟨h,g,d,t,os⟩:=by
 have f1:=tc_lookup
 have f2:=tc_bind (.ref C)
 have hT:(⟨h,g,d,t,os⟩:Shared).TypeIs (.ref C) "type":=⟨_,hC,rfl⟩
 refine wpAny_call (codeAny_of_tree ?_)
 show wpAny _ _ (callAny (.ref C) _) _ _ _
 repeat (any_goals (first | assumption | with_reducible refine wpAny_loadPart_at hC ?_ | wp_step))
 refine ⟨rfl,?_⟩
 refine codeAny_call_builtin_at (Code.quiet_builtin _ (by decide +kernel)) entry_typeCall (wpAny_check_type_call_sub hC (Zdw (hrest:=hrest) F T hC hn hi hfI hfc fun h' e hm=> ?_))
 exact hq h' e hm
end
section
variable {prog:Program} {w:World} {A:Around} {E:Value->Shared->Prop} {s:Shared} {env:Env}
variable {nm q:Str} {C N:Addr} {bs bm bmB:List Value} {hdct:Bool} {sn:List Str} {sub:List Value} {ab:Bool} {col:Option Bool} {dd:Option Addr} {k0 k1 k2 k3 k5:Option Value} {B newId initId:String}
theorem Zcr {x:Sem Value} {Q:Flow->Shared->Prop} (hbase:bm.contains (.type "BaseException")=true) (hh:A.handled=none)
  (h:wpAny (model prog w) A x (fun v s₁=> ∃ e oe vs,v= .ref e/\s₁.heap.get? C=some (excClassObj nm q C N bs bm hdct sn sub ab col dd k0 k1 k2 k3 k5 newId)/\s₁.heap.get? e=some oe/\oe.cls= .ref C/\oe.data= .fields vs/\vs[1]?=some .none/\E (.ref e) s₁) E s):
  wpAny (model prog w) A (raiseStmt env (some x) none) Q E s:=by
 have hcB:(Value.ref C :: bm).contains (.type "BaseException")=true:=by rw[List.contains_cons,hbase,Bool.or_true]
 unfold raiseStmt
 refine wpAny_bind (wpAny_mono h (fun v s₁ h₁=> ?_) fun _ _ x=>x)
 obtain ⟨e,⟨oc,odi,odt,osl⟩,vs,rfl,hC,he,hc,hd,h1,hE⟩:=h₁
 dsimp only at hc hd
 subst hc hd
 obtain ⟨hp,g,d,tk,os⟩:=s₁
 repeat (first | with_reducible refine wpAny_loadPart_at he ?_ | with_reducible refine wpAny_loadPart_at hC ?_ | (with_reducible refine wpAny_isSubtype_exc hC ?_;rw[hcB]) | wp_step)
 rw[h1]
 refine wpAny_pure ?_
 rw[if_neg (by decide)]
 exact wpAny_pure (wpAny_raiseNew_none hh hE)
theorem Zgw {x:Str} {np cpos pos:Pos} {args:List Expr} {Q:Flow->Shared->Prop} (F:ExcBaseFacts B newId initId bmB) {mN:Str->Option Value} {fI:Addr} {oI:Obj}
  (hbase:bm.contains (.type "BaseException")=true) (hh:A.handled=none) (hplain:(backTo cpos (starEach args env)).any (·.1)=false) (hi:mN "__init__"=some (.ref fI)) (hfc:oI.cls= .type "function")
  (h:wpAny (model prog w) A (eval (.Name x np) env) (fun f s₁=>f= .ref C/\wpAny (model prog w) A (evalArgs (.ref C) true (backTo cpos (starEach args env)) [])
   (fun a s₂=>a.kw=[]/\a.pos.length<=sizeLine/\s₂.heap.get? C=some (excClassObj nm q C N bs bm hdct sn sub ab col dd k0 k1 k2 k3 k5 newId)/\s₂.heap.Ns N mN/\OwnTail s₂.heap bmB bm/\s₂.heap.get? fI=some oI/\
    ∀ h' e,Heap.MadeExcOf s₂.heap h' e (.ref C) a.pos->wpAny (model prog w) (A.under (.builtin "type.__call__" ⟨.ref C :: a.pos,[]⟩)) (call (.ref fI) (.ref e :: a.pos))
     (fun r s'=>r= .none/\ ∃ oe vs,s'.heap.get? C=some (excClassObj nm q C N bs bm hdct sn sub ab col dd k0 k1 k2 k3 k5 newId)/\s'.heap.get? e=some oe/\oe.cls= .ref C/\oe.data= .fields vs/\vs[1]?=some .none/\E (.ref e) s') E { s₂ with heap:=h' }) E s₁) E s):
  wpAny (model prog w) A (exec (.Raise (some (.Call (.Name x np) args [] cpos)) none pos) env) Q E s:=by
 rw[arm_exec_Raise]
 first
  |refine wpAny_bind (wpAny_standAt (Zcr (C:=C) (nm:=nm) (q:=q) (N:=N) (bs:=bs) (bm:=bm) (hdct:=hdct) (sn:=sn) (sub:=sub) (ab:=ab) (col:=col) (dd:=dd) (k0:=k0) (k1:=k1) (k2:=k2) (k3:=k3) (k5:=k5) (newId:=newId) hbase hh (wpAny_bind (wpAny_mono (wpAny_Call_ofName (wpAny_mono h (fun f s₁ h₁=> ?_) fun _ _ x=>x)) (fun v s₃ h₃=>wpAny_bind (wpAny_standAt (wpAny_pure h₃))) fun _ _ x=>x))))
  | (simp only[evalOpt,Option.map];refine wpAny_bind (wpAny_standAt (Zcr (C:=C) (nm:=nm) (q:=q) (N:=N) (bs:=bs) (bm:=bm) (hdct:=hdct) (sn:=sn) (sub:=sub) (ab:=ab) (col:=col) (dd:=dd) (k0:=k0) (k1:=k1) (k2:=k2) (k3:=k3) (k5:=k5) (newId:=newId) hbase hh (wpAny_bind (wpAny_mono (wpAny_Call_ofName (wpAny_mono h (fun f s₁ h₁=> ?_) fun _ _ x=>x)) (fun v s₃ h₃=>wpAny_bind (wpAny_standAt (wpAny_pure h₃))) fun _ _ x=>x)))))
  | (refine wpAny_bind (wpAny_standAt (Zcr (C:=C) (nm:=nm) (q:=q) (N:=N) (bs:=bs) (bm:=bm) (hdct:=hdct) (sn:=sn) (sub:=sub) (ab:=ab) (col:=col) (dd:=dd) (k0:=k0) (k1:=k1) (k2:=k2) (k3:=k3) (k5:=k5) (newId:=newId) hbase hh ?_));refine wpAny_bind (wpAny_mono (wpAny_Call_ofName (wpAny_mono h (fun f s₁ h₁=> ?_) fun _ _ x=>x)) (fun v s₃ h₃=>wpAny_bind (wpAny_standAt (wpAny_pure h₃))) fun _ _ x=>x))
 obtain ⟨rfl,h₁⟩:=h₁
 unfold callWith
 refine wpAny_bind (wpAny_holding (wpAny_mono h₁ (fun a s₂ h₂=>wpAny_bind (wpAny_standAt ?_)) fun _ _ x=>x))
 obtain ⟨apos,akw⟩:=a
 obtain ⟨hkw,hlen,hC,hn,T,hfI,h₂⟩:=h₂
 obtain rfl:akw=[]:=hkw
 obtain ⟨hp,g,d,tk,os⟩:=s₂
 simp only[hplain]
 refine wpAny_bind (wpAny_keeperOf_exc hC ?_)
 refine wpAny_bind (Zh9 (hrest:=hlen) F T hC hn hi hfI hfc fun h' e hm=>wpAny_mono (h₂ h' e hm) (fun r s' z=>⟨z.1,wpAny_bind (wpAny_holding (wpAny_point (wpAny_pure ?_)))⟩) fun _ _ x=>x)
 obtain ⟨-,oe,vs,z1,z2,z3,z4,z5,z6⟩:=z
 exact ⟨e,oe,vs,rfl,z1,z2,z3,z4,z5,z6⟩
end
end DQ
end
section
namespace DL
open PySem PySem.Spec PyProof.Rows L2
open PySem.W (nsIn excIn tailIn nsOkIn mroIn clsIn typeIn findIn specialIn takesIn hasDictIn readsIn findCls handedIn)
noncomputable def Zf1 (K:PySem.W.Frag) (C fI:Addr) (bmB:List Value) (newId:String):Bool:=match K.lookup C with
 |some ⟨.type "type",_,.cls cd,sl⟩=>(match cd.mro,sl.toList with
  | .ref C' :: bm,[_,_,_,_,some (.builtin n),_]=>C' == C && n == newId && !cd.hasDel && tailIn K bmB bm && nsOkIn K cd.ns && nsIn K cd.ns "__init__" == some (some (.ref fI))
  |_,_=>false)
 |_=>false
theorem Zgx {K:PySem.W.Frag} {h:Heap} {N:Addr} {mg:Str->Option Value} {n:Str} {v:Value} (X:K.In h) (G:h.Ns N mg) (e:nsIn K N n=some (some v)):mg n=some v:=by
 obtain ⟨o,es,ep,ho,hd,_,hf⟩:=G
 unfold PySem.W.nsIn at e
 split at e
 ·rename_i c d es' n' sl q
  have:=X _ _ q
  rw[ho] at this
  cases this
  cases hd
  split at e
  ·rename_i en he
   cases e
   rw[<- hf]
   unfold nsFind findBy
   rw[<- Array.find?_toList,he]
   rfl
  ·split at e<;>cases e
 ·cases e
theorem Zf2 {K:PySem.W.Frag} {h:Heap} {C fI:Addr} {bmB:List Value} {newId:String} (X:K.In h) (q:Zf1 K C fI bmB newId=true):
  ∃ bm N nm q bs hdct sn sub ab col dd k0 k1 k2 k3 k5 mN,h.get? C=some (excClassObj nm q C N bs bm hdct sn sub ab col dd k0 k1 k2 k3 k5 newId)/\h.Ns N mN/\mN "__init__"=some (.ref fI)/\OwnTail h bmB bm:=by
 unfold Zf1 at q
 split at q
 ·rename_i dd cd sl ho
  split at q
  ·rename_i C' bm k0 k1 k2 k3 n k5 hm hs
   simp only[Bool.and_eq_true,beq_iff_eq,Bool.not_eq_true'] at q
   obtain ⟨⟨⟨⟨⟨rfl,rfl⟩,hdel⟩,ht⟩,hok⟩,hni⟩:=q
   obtain ⟨nm,bs,mro,ns,qn,hd,sn,sub,ab,col,del⟩:=cd
   dsimp only at hm hdel hok hni
   subst hm hdel
   obtain ⟨l⟩:=sl
   simp only at hs
   subst hs
   have G:h.Ns ns _:= .of_isNs (PySem.W.isNs_of_in X hok)
   exact ⟨bm,ns,nm,qn,bs,hd,sn,sub,ab,col,dd,k0,k1,k2,k3,k5,_,X _ _ ho,G,Zgx X G hni,PySem.W.tail_of_in X ht⟩
  ·cases q
 ·cases q
noncomputable def Zgy (K:PySem.W.Frag) (c:Str) (fI:Addr):Bool:=match ZbO K c with
 |some C=>Zf1 K C fI bmV "ValueError.__new__" && findIn K (.ref C) "__getattribute__" == some (some (.builtin "BaseException.__getattribute__")) && findIn K (.ref C) "__getattr__" == some none && findIn K (.ref C) "__class__" == some (some (.builtin "object.__class__")) &&
  specialIn K (.builtin "object.__class__") "__get__" == some (some (.builtin "getset_descriptor.__get__")) && takesIn K (.builtin "object.__class__") == some true && mroIn K C (.type "BaseException") == some true && mroIn K C (.type "object") == some true && (clsIn K C).isSome &&
  findIn K (.ref C) "__setattr__" == some (some (.builtin "object.__setattr__")) && DQ.Zcq K C && hasDictIn K C && findIn K (.ref C) "where" == some none && findIn K (.ref C) "at" == some none && typeIn K (.ref fI) == some (.type "function")
 |none=>false
structure ExF (K:PySem.W.Frag) (C fI:Addr):Prop where
 inn:Zf1 K C fI bmV "ValueError.__new__"=true
 exc:DQ.ExcC K C
 sa:findIn K (.ref C) "__setattr__"=some (some (.builtin "object.__setattr__"))
 ov:DQ.Zcq K C=true
 hd:hasDictIn K C=true
 fw:findIn K (.ref C) "where"=some none
 fa:findIn K (.ref C) "at"=some none
 ty:typeIn K (.ref fI)=some (.type "function")
theorem ZdY {K:PySem.W.Frag} {c:Str} {fI:Addr} (h:Zgy K c fI=true): ∃ C,nsIn K mainGlobals c=some (some (.ref C))/\ExF K C fI:=by
 unfold Zgy at h
 split at h
 ·rename_i C e
  simp only[Bool.and_eq_true,beq_iff_eq] at h
  obtain ⟨⟨⟨⟨⟨⟨⟨⟨⟨⟨⟨⟨⟨⟨h1,h2⟩,h3⟩,h4⟩,h5⟩,h6⟩,h7⟩,h8⟩,h9⟩,h10⟩,h11⟩,h12⟩,h13⟩,h14⟩,h15⟩:=h
  exact ⟨C,Zcc e,h1,⟨h2,h3,h4,h5,h6,h7,h8,h9⟩,h10,h11,h12,h13,h14,h15⟩
 ·cases h
theorem Zf3 {K:PySem.W.Frag} {C:Addr} {f:Str} (h:findIn K (.ref C) f=some none):PySem.W.takerIn K C f=some none:=by unfold PySem.W.takerIn;rw[h];rfl
noncomputable def Mkg (C e:Addr) (dct:Option Addr) (h:Heap):Prop:= ∃ oe vs t0,h.get? e=some oe/\oe.cls= .ref C/\oe.dict=dct/\oe.data= .fields vs/\vs[0]?=some (.ref t0)/\vs[1]?=some .none/\vs[2]?=some .none
theorem Zia {P:Program} {w:World} {H:Hp} {C e:Addr} {dct:Option Addr} {h:Heap} (m:Mkg C e dct h):Zbw P w H h e (.ext (Mkg C e dct)):=
 ⟨m,let ⟨oe,_,_,g,_⟩:=m;⟨oe,g⟩,fun _ _ ⟨oe,vs,t0,g,r⟩ k=>⟨oe,vs,t0,k _ g,r⟩⟩
section
variable {X:Cx} {pins:List (Addr × Obj)} {σ:L2.St} {H H':Hp} {s:Shared} {h':Heap} {t:Nat} {e C dx:Addr} {f:Str}
theorem ZdZ (I:Inv X pins σ H s) (ch:Addr->Prop) (c1: ∀ b,ch b->(∃ φ,H b=some (.ext φ))\/(∃ fs,H b=some (.xd fs))\/s.heap.get? b=none) (k: ∀ b o,¬ ch b->s.heap.get? b=some o->h'.get? b=some o) (th: ∀ b,ch b-> ∃ o,h'.get? b=some o)
  (hH: ∀ b,¬ ch b->H' b=H b) (ok: ∀ b u,ch b->H' b=some u->Zbw X.prog X.w H' h' b u):Inv X pins σ H' { s with heap:=h',toks:=t }:=by
 have nn: ∀ b o,s.heap.get? b=some o->H b=none-> ¬ ch b:=fun b o x n c=>by
  rcases c1 b c with ⟨φ,z⟩ | ⟨fs,z⟩ | z
  ·rw[n] at z;cases z
  ·rw[n] at z;cases z
  ·rw[x] at z;cases z
 have nt: ∀ b u,H b=some u->(∀ φ,u≠ .ext φ)->(∀ fs,u≠ .xd fs)-> ¬ ch b:=fun b u q n1 n2 c=>by
  rcases c1 b c with ⟨φ,z⟩ | ⟨fs,z⟩ | z
  ·rw[q] at z;cases z;exact n1 _ rfl
  ·rw[q] at z;cases z;exact n2 _ rfl
  ·obtain ⟨o,g⟩:=Zca (I.hok b u q)
   rw[z] at g;cases g
 refine I.call' (s':={ s with heap:=h',toks:=t }) (ch:=[]) rfl ⟨fun b o x n _ _=>k b o (nn b o x n) x,fun b o x n _ _=>⟨o.slots,k b o (nn b o x n) x⟩,fun b o x n _=>by rw[hH b (nn b o x n)];exact n,fun b o x _=> ?_,fun b xs q=> ?_,fun b o u q=> ?_,fun b ps q=>⟨#[],?_⟩⟩ (fun b u q=> ?_) I.bare (fun b z=>absurd z (by simp))
 ·by_cases c:ch b
  ·exact th b c
  ·exact ⟨o,k b o c x⟩
 ·rw[hH b (nt b _ q (by simp) (by simp))];exact q
 ·rw[hH b (nt b _ q (by simp) (by simp))];exact q
 ·rw[hH b (nt b _ q (by simp) (by simp)),Array.append_empty];exact q
 ·by_cases c:ch b
  ·exact ok b u c q
  ·rw[hH b c] at q
   refine (I.hok b u q).stay (fun a v ha r=>k a v ?_ r) (fun a r=> ?_) fun a xs r=> ?_
   ·rcases ha with rfl | ha
    ·exact c
    ·exact nt a _ ha (by simp) (by simp)
   ·rw[hH a (nt a _ r (by simp) (by simp))];exact r
   ·rw[hH a (nt a _ r (by simp) (by simp))];exact r
noncomputable def tFm (ta:TE):TE:=fun σ H Q=>ta σ H fun x H1=>(∃ i,x= .int i/\i.natAbs.log2 < 1900/\Q (.str (Str.ofString (toString i))) H1)\/ ∃ y,x= .str y/\y.length<=100000/\Q (.str y) H1
theorem Znm {e:Expr} {ta:TE} {pos:Pos} (pa:PE X e ta):PE X (.FormattedValue e (-1) none pos) (tFm ta):=by
 intro pins s σ H Q I h
 refine wpAny_FormattedValue_plain (wpAny_mono (pa pins s σ H _ I h) (fun v s1 ⟨x,H1,I1,r1,q1⟩=> ?_) fun _ _ z=>z)
 rcases q1 with ⟨i,rfl,hi,q⟩ | ⟨y,rfl,hy,q⟩
 ·obtain ⟨t,rfl⟩:=r1
  exact wpAny_formatField_int (by omega) ⟨.str (Str.ofString (toString i)),H1,I1.tok _,⟨_,rfl⟩,q⟩
 ·obtain ⟨t,rfl⟩:=r1
  exact wpAny_formatField_str ⟨.str y,H1,I1,⟨_,rfl⟩,q⟩ ⟨.str y,H1,I1.tok _,⟨_,rfl⟩,q⟩ (Nat.le_trans hy (by rw[sizeLine_eq];decide))
noncomputable def tF4 (a b:Str) (i j:Nat):TE:=fun σ H Q=> ∃ y n,σ[i]?=some (some (.str y))/\σ[j]?=some (some (.int n))/\a.length<=1000/\b.length<=1000/\y.length<=1000/\n.natAbs.log2 < 1900/\(Str.ofString (toString n)).length<=10000/\ ∀ x,Q (.str x) H
theorem ZpH {a b n1 n2:Str} {i j k1 k2:Nat} {p1 p2 p3 p4 p5 p6 pos:Pos} (h1:X.N[i]?=some n1) (h2:X.N[j]?=some n2) (v1:Vis X.env.scope n1) (v2:Vis X.env.scope n2)
  (d1:(n1 == ("__debug__":Str))=false:=by decide) (d2:(n2 == ("__debug__":Str))=false:=by decide) (c1:(n1 == ("__classdict__":Str))=false:=by decide) (c2:(n2 == ("__classdict__":Str))=false:=by decide):
  PE X (.JoinedStr [.Constant (.str a) k1 p1,.FormattedValue (.Name n1 p2) (-1) none p3,.Constant (.str b) k2 p4,.FormattedValue (.Name n2 p5) (-1) none p6] pos) (tF4 a b i j):=by
 intro pins s σ H Q I ⟨y,n,e1,e2,la,lb,ly,ln,lt,q⟩
 have sz: ∀ {x:Str},x.length<=100000->x.length<=sizeLine:=fun h=>Nat.le_trans h (by rw[sizeLine_eq];decide)
 have l0:(Str.empty:Str).length=0:=by decide
 refine wpAny_JoinedStr ?_
 show wpAny _ _ (eval (.Constant (.str a) k1 p1) X.env) _ _ s
 refine wpAny_mono (Zhb (X:=X) pins s σ H (fun x H1=>x= .str a/\H1=H) I ⟨rfl,rfl⟩) (fun v s1 ⟨x,H1,I1,r1,q1⟩=> ?_) fun _ _ z=>z
 obtain ⟨rfl,rfl⟩:=q1
 obtain ⟨t,rfl⟩:=r1
 refine ⟨a,t,rfl,sz (by rw[strLen_append];omega),?_⟩
 show wpAny _ _ (eval (.FormattedValue (.Name n1 p2) (-1) none p3) X.env) _ _ s1
 refine wpAny_mono (Znm (Zcz h1 v1 d1 c1) pins s1 σ H1 (fun x H2=>x= .str y/\H2=H1) I1 ⟨_,e1,.inr ⟨y,rfl,by omega,rfl,rfl⟩⟩) (fun v s2 ⟨x,H2,I2,r2,q2⟩=> ?_) fun _ _ z=>z
 obtain ⟨rfl,rfl⟩:=q2
 obtain ⟨t2,rfl⟩:=r2
 refine ⟨y,t2,rfl,sz (by rw[strLen_append,strLen_append];omega),?_⟩
 show wpAny _ _ (eval (.Constant (.str b) k2 p4) X.env) _ _ s2
 refine wpAny_mono (Zhb (X:=X) pins s2 σ H2 (fun x H1=>x= .str b/\H1=H2) I2 ⟨rfl,rfl⟩) (fun v s3 ⟨x,H3,I3,r3,q3⟩=> ?_) fun _ _ z=>z
 obtain ⟨rfl,rfl⟩:=q3
 obtain ⟨t3,rfl⟩:=r3
 refine ⟨b,t3,rfl,sz (by rw[strLen_append,strLen_append,strLen_append];omega),?_⟩
 show wpAny _ _ (eval (.FormattedValue (.Name n2 p5) (-1) none p6) X.env) _ _ s3
 refine wpAny_mono (Znm (Zcz h2 v2 d2 c2) pins s3 σ H3 (fun x H2=>x= .str (Str.ofString (toString n))/\H2=H3) I3 ⟨_,e2,.inl ⟨n,rfl,ln,rfl,rfl⟩⟩) (fun v s4 ⟨x,H4,I4,r4,q4⟩=> ?_) fun _ _ z=>z
 obtain ⟨rfl,rfl⟩:=q4
 obtain ⟨t4,rfl⟩:=r4
 refine ⟨_,t4,rfl,sz (by rw[strLen_append,strLen_append,strLen_append,strLen_append];omega),?_⟩
 exact ⟨sz (by rw[strLen_append,strLen_append,strLen_append,strLen_append];omega),.str _,H4,I4.tok _,⟨_,rfl⟩,q _⟩
noncomputable def Zf4 (K:PySem.W.Frag) (r:Str):Bool:=match ZbO K r with
 |some R=>specialIn K (.ref R) "__getattribute__" == some (some (.builtin "type.__getattribute__")) && readsIn K R (.type "type") && (match findCls K (.ref R) (.type "type") "__init__" with | some (.val v)=>v == .builtin "ValueError.__init__" | _=>false)
 |none=>false
theorem Zjl {r sn:Str} {fe:Expr} {tf:TE} {fI:Addr} {p1 p2 p3 p4:Pos} {pl:Sem Bool} (hb:Zf4 X.K r=true) (gl: ∀ c v,nsIn X.K mainGlobals c=some (some v)->X.mg c=some v) (hg:Gl X r) (hc:ExF X.K C fI) (hn:X.N[0]?=some sn) (hv:Vis X.env.scope sn) (pf:PE X fe tf)
  (d1:(sn == ("__debug__":Str))=false:=by decide) (c1:(sn == ("__classdict__":Str))=false:=by decide) (hdb:(r == ("__debug__":Str))=false:=by decide)
  (hs:starEach [.Name sn p3,fe] X.env=(false,eval (.Name sn p3) X.env) :: starEach [fe] X.env:=by rfl) (hs2:starEach [fe] X.env=(false,eval fe X.env) :: starEach [] X.env:=by rfl) (hpl:(backTo p4 (starEach [fe] X.env)).any (·.1)=false:=by rfl)
  (ht:eval (.Call (.Attribute (.Name r p1) "__init__" p2) [.Name sn p3,fe] [] p4) X.env=(do
   let ov <- eval (.Name r p1) X.env
   standAt p2.atName
   let (f,first) <- holding [ov] (getMethod ov "__init__" pl)
   callWith p4 f first (backTo p4 (starEach [.Name sn p3,fe] X.env)) (backToKw p4 (keywordEach [] X.env))):=by rfl):
  PE X (.Call (.Attribute (.Name r p1) "__init__" p2) [.Name sn p3,fe] [] p4) (fun σ H Q=> ∃ e,σ[0]?=some (some (.ref e))/\H e=some (.ext (Mkg C e none))/\tf σ H fun x H1=> ∃ y,[V.ref e,x]=[V.ref e,y]/\H1=H/\Q .non H):=by
 unfold Zf4 at hb
 split at hb
 case h_2=>cases hb
 rename_i R hR
 simp only[Bool.and_eq_true,beq_iff_eq] at hb
 obtain ⟨⟨b1,b2⟩,b3⟩:=hb
 split at b3
 case h_2=>cases b3
 rename_i v0 b4
 have b5:=eq_of_beq b3
 subst b5
 intro pins s σ H Q I ⟨e,e0,he,q⟩
 refine PySem.W.methodCall_KW (pl:=pl) (ZdI I hg (gl r _ (Zcc hR)) ?_ hdb) ht
 refine PySem.W.method_cls I.kIn b1 (PySem.W.cls_value I.kIn b2 b4 rfl ?_)
 have I1:=I.tok (s.toks + 1)
 have hA:=ZbT (Zcz hn hv d1 c1) (ZbT pf ZfC hs2) hs p4 pins { s with toks:=s.toks + 1 } σ H (fun vs H1=> ∃ x,vs=[V.ref e,x]/\H1=H/\Q .non H) I1 ⟨_,e0,q⟩
 rw[hs] at hA ⊢
 refine Calls.callWith_builtin (by show (false || (backTo p4 (starEach [fe] X.env)).any (·.1))=false;rw[hpl]<;>rfl) (Calls.evalArgs_plain (thn hA fun us s2 ⟨vs,H2,I2,r2,x,ev,eh,q2⟩=> ?_))
 subst ev eh
 obtain ⟨u1,u2,rfl,r3,r4⟩:=Zhh r2
 cases (show u1=Value.ref e from r3)
 obtain ⟨tl,N,nm,qn,bs,hdct,sn',sub,ab,col,dd,k0,k1,k2,k3,k5,mN,gC,hN,hni,TL⟩:=Zf2 I2.kIn hc.inn
 obtain ⟨⟨oe,vs,t0,g1,g2,g3,g4,g5,g6,g7⟩,_,_⟩:=I2.hok e _ he
 obtain ⟨hp,gg,dd',tk,os⟩:=s2
 refine DQ.Zh8 TL gC g1 g2 g4 g5 fun h' k1 k2=>⟨.non,H2,?_,rfl,q2⟩
 have hz:0 < vs.size:=(Array.getElem?_eq_some_iff.mp g5).1
 refine ZdZ (s:=⟨hp,gg,dd',tk,os⟩) (t:=tk) I2 (fun b=>b=e) (fun b z=> .inl ⟨_,z ▸ he⟩) (fun b o z x=>k1 b o z x) (fun b z=>⟨_,z ▸ k2⟩) (fun b z=>rfl) fun b u z q'=> ?_
 subst z
 rw[he] at q'
 cases q'
 refine Zia ⟨_,_,hp.objs.size,k2,g2,g3,rfl,?_,?_,?_⟩
 ·rw[Array.getElem?_setIfInBounds_self_of_lt hz]
 ·rw[Array.getElem?_setIfInBounds_ne (by decide)];exact g6
 ·rw[Array.getElem?_setIfInBounds_ne (by decide)];exact g7
theorem Znn {f g:Str} {v:V}:[(f,v)].lookup g=if g=f then some v else none:=by
 rw[List.lookup_cons]
 by_cases c:g=f
 ·subst c;simp
 ·rw[if_neg c,show (g == f)=false by simpa using c];rfl
theorem Zli {sn vn:Str} {fI:Addr} {i:Nat} {p1 p2 p3 pos:Pos} (hc:ExF X.K C fI) (hf:findIn X.K (.ref C) f=some none) (hn:X.N[0]?=some sn) (hv:Vis X.env.scope sn) (hn2:X.N[i]?=some vn) (hv2:Vis X.env.scope vn)
  (d1:(sn == ("__debug__":Str))=false:=by decide) (c1:(sn == ("__classdict__":Str))=false:=by decide) (d2:(vn == ("__debug__":Str))=false:=by decide) (c2:(vn == ("__classdict__":Str))=false:=by decide)
  (hs:swapsWith (.Name vn p3) (some (.Attribute (.Name sn p1) f p2)) pos.line X.env=pure false:=by rfl):
  PS X (.Assign [.Attribute (.Name sn p1) f p2] (.Name vn p3) pos) (fun Dn σ H=> ∃ e v,σ[0]?=some (some (.ref e))/\σ[i]?=some (some v)/\H e=some (.ext (Mkg C e none))/\ ∀ dx,H dx=none->dx≠e->Dn.nx σ (upd (upd H e (.ext (Mkg C e (some dx)))) dx (.xd [(f,v)]))):=by
 intro pins s σ H Dn I ⟨e,v,e0,e1,he,q⟩
 refine plainObj_wpAny_Assign_Attribute (thn (Zcz hn2 hv2 d2 c2 pins s σ H (fun y H1=>y=v/\H1=H) I ⟨v,e1,rfl,rfl⟩) fun u s1 ⟨y,H1,I1,ry,ey,eh⟩=>thn (Zcz hn hv d1 c1 pins s1 σ H1 (fun y H2=>y= .ref e/\H2=H) I1 ⟨.ref e,e0,rfl,eh⟩) fun ov s2 ⟨x,H2,I2,rx,ex,eh2⟩=> ?_) hs
 subst ey ex eh2
 obtain rfl:ov=Value.ref e:=rx
 obtain ⟨⟨oe,vs,t0,g1,g2,g3,g4,g5,g6,g7⟩,_,_⟩:=I2.hok e _ he
 have nd:s2.heap.objs.size≠e:=Nat.ne_of_gt (Heap.lt_size g1)
 refine DQ.Zlg I2.kIn g1 g2 g4 g3 hc.sa hc.ov (Zf3 hf) hc.hd fun h' k1 k2 k3=>⟨σ,_,?_,q s2.heap.objs.size (I2.hok.fresh (Nat.le_refl _)) nd⟩
 refine ZdZ I2 (fun b=>b=e\/b=s2.heap.objs.size) (fun b z=> ?_) (fun b o z x=>k3 b o (fun w=>z (.inl w)) x) (fun b z=> ?_) (fun b z=> ?_) fun b u z q'=> ?_
 ·rcases z with z | z
  ·exact .inl ⟨_,z ▸ he⟩
  ·exact .inr (.inr (z ▸ Heap.get?_none_of_le (Nat.le_refl _)))
 ·rcases z with z | z
  ·exact ⟨_,z ▸ k1⟩
  ·obtain ⟨od,_,_,g,_⟩:=k2
   exact ⟨od,z ▸ g⟩
 ·rw[Zo (fun w=>z (.inr w)),Zo (fun w=>z (.inl w))]
 ·rcases z with z | z
  ·subst z
   rw[Zo (Ne.symm nd),Zn] at q'
   cases q'
   exact Zia ⟨_,vs,t0,k1,g2,rfl,g4,g5,g6,g7⟩
  ·subst z
   rw[Zn] at q'
   cases q'
   refine ⟨_,k2,fun g=> ?_⟩
   rw[Znn]
   by_cases c:g=f
   ·rw[if_pos c,if_pos c];exact ry
   ·rw[if_neg c,if_neg c];trivial
theorem ZeM {g:Str}: ∀ {fs:List (Str × V)},g ∉ fs.map (·.1)->fs.lookup g=none
 | [],_=>rfl
 | (a,v) :: r,h=>by
  rw[List.map_cons,List.mem_cons,not_or] at h
  rw[List.lookup_cons,show (g == a)=false by simpa using h.1]
  exact ZeM h.2
theorem Zlj {sn vn:Str} {fI:Addr} {i:Nat} {p1 p2 p3 pos:Pos} (hc:ExF X.K C fI) (hf:findIn X.K (.ref C) f=some none) (hn:X.N[0]?=some sn) (hv:Vis X.env.scope sn) (hn2:X.N[i]?=some vn) (hv2:Vis X.env.scope vn)
  (d1:(sn == ("__debug__":Str))=false:=by decide) (c1:(sn == ("__classdict__":Str))=false:=by decide) (d2:(vn == ("__debug__":Str))=false:=by decide) (c2:(vn == ("__classdict__":Str))=false:=by decide)
  (hs:swapsWith (.Name vn p3) (some (.Attribute (.Name sn p1) f p2)) pos.line X.env=pure false:=by rfl):
  PS X (.Assign [.Attribute (.Name sn p1) f p2] (.Name vn p3) pos) (fun Dn σ H=> ∃ e v dx fs,σ[0]?=some (some (.ref e))/\σ[i]?=some (some v)/\H e=some (.ext (Mkg C e (some dx)))/\H dx=some (.xd fs)/\fs.length<=100/\Dn.nx σ (upd H dx (.xd (ZjV f v fs)))):=by
 intro pins s σ H Dn I ⟨e,v,dx,fs,e0,e1,he,hdx,hl,q⟩
 refine plainObj_wpAny_Assign_Attribute (thn (Zcz hn2 hv2 d2 c2 pins s σ H (fun y H1=>y=v/\H1=H) I ⟨v,e1,rfl,rfl⟩) fun u s1 ⟨y,H1,I1,ry,ey,eh⟩=>thn (Zcz hn hv d1 c1 pins s1 σ H1 (fun y H2=>y= .ref e/\H2=H) I1 ⟨.ref e,e0,rfl,eh⟩) fun ov s2 ⟨x,H2,I2,rx,ex,eh2⟩=> ?_) hs
 subst ey ex eh2
 obtain rfl:ov=Value.ref e:=rx
 obtain ⟨⟨oe,vs,t0,g1,g2,g3,g4,g5,g6,g7⟩,_,_⟩:=I2.hok e _ he
 obtain ⟨mA,hns,hr⟩:=I2.hok dx _ hdx
 obtain ⟨od,es,ep,god,_⟩:=id hns
 have ne:e≠dx:=fun z=>by rw[z,hdx] at he;cases he
 have inst:PySem.W.InstAt s2.heap e oe C (some od):=⟨g1,g2,by unfold PySem.W.notCls;rw[g4],by rw[g3];exact god⟩
 refine DQ.Zlh (ns:=fs.map (·.1)) I2.kIn inst g3 hns hc.sa hc.ov (Zf3 hf) hc.hd (fun g hg=> ?_) (by rw[List.length_map];omega) fun h' k1 k2=>⟨σ,_,?_,q⟩
 ·apply Classical.byContradiction
  intro z
  have:=hr g
  rw[ZeM z] at this
  exact hg (ZiJ.none_of this)
 ·refine ZdZ I2 (fun b=>b=dx) (fun b z=> .inr (.inl ⟨_,z ▸ hdx⟩)) (fun b o z x=>(k2.2 b z).trans x) (fun b z=> ?_) (fun b z=>Zo z) fun b u z q'=> ?_
  ·obtain ⟨o',_,_,g,_⟩:=k1
   exact ⟨o',z ▸ g⟩
  ·subst z
   rw[Zn] at q'
   cases q'
   refine ⟨_,k1,fun g=> ?_⟩
   rw[ZcV]
   by_cases c:g=f
   ·rw[if_pos c,if_pos c];exact ry
   ·rw[if_neg c,if_neg c];exact hr g
end
noncomputable def N3:List Str:=["self","where","at"]
noncomputable def spI (C:Addr):Sp:=fun vs H Q _=> ∃ e y n,vs=[.ref e,.str y,.int n]/\H e=some (.ext (Mkg C e none))/\y.length<=1000/\n.natAbs.log2 < 1000/\
 ∀ dx,H dx=none->dx≠e->Q .non (upd (upd (upd H e (.ext (Mkg C e (some dx)))) dx (.xd [(PySem.Str.ofString "where",.str y)])) dx (.xd [(PySem.Str.ofString "where",.str y),(PySem.Str.ofString "at",.int n)]))
noncomputable def ZsC (C:Addr) (a b:Str):TS:=Zpk (Zmh (fun σ H Q=> ∃ e,σ[0]?=some (some (.ref e))/\H e=some (.ext (Mkg C e none))/\tF4 a b 1 2 σ H fun x H1=> ∃ y,[V.ref e,x]=[V.ref e,y]/\H1=H/\Q .non H))
 (Zpk (fun Dn σ H=> ∃ e v,σ[0]?=some (some (.ref e))/\σ[1]?=some (some v)/\H e=some (.ext (Mkg C e none))/\ ∀ dx,H dx=none->dx≠e->Dn.nx σ (upd (upd H e (.ext (Mkg C e (some dx)))) dx (.xd [(PySem.Str.ofString "where",v)])))
 (fun Dn σ H=> ∃ e v dx fs,σ[0]?=some (some (.ref e))/\σ[2]?=some (some v)/\H e=some (.ext (Mkg C e (some dx)))/\H dx=some (.xd fs)/\fs.length<=100/\Dn.nx σ (upd H dx (.xd (ZjV (PySem.Str.ofString "at") v fs)))))
section
variable {P:Program} {w:World} {K:PySem.W.Frag} {mg:Str->Option Value} {base:Heap}
theorem Zlk {n:Int} (h:n.natAbs.log2 < 1000):(Str.ofString (toString n)).length<=10000:=by
 rw[PySem.ofString_length]
 exact Nat.le_trans (int_text_length_le (by decide) h) (by decide)
theorem Zll {x qual:Str} {st:Stmt} {f:Addr} {fd:FuncData} {C:Addr} {k:Nat} {a b:Str} (F:Fun K x qual st f fd) (S:FnScope N3 N3 (Zg st)) (la:a.length<=1000) (lb:b.length<=1000)
  (hb: ∀ (cdv:Value) (A:Around) (outer:List Env) (s:Shared) (H:Hp) (E:XK),PSs (ZiU (CXE P w) P w K mg base N3 qual (Zg st) f cdv A outer s H E) (Zq st) (ZsC C a b)):
  FnOk P w K mg base (CXE P w) (k + 1) f fd N3 (spI C):=by
 obtain ⟨oc,od,kV,doc,pm,an,cdv,ct,osl,rfl,lk,hcd⟩:=F.ex
 refine Zmx lk hcd S (fun vs H Q E h=> ?_) (fun A outer s H vs Q E hr h=> ?_)
 ·obtain ⟨e,y,n,rfl,_⟩:=h
  rfl
 ·obtain ⟨e,y,n,rfl,he,hy,hn,q⟩:=h
  refine ⟨_,hb cdv A outer s H E,?_⟩
  refine ⟨e,rfl,he,y,n,rfl,rfl,la,lb,hy,by omega,Zlk hn,fun x=>⟨_,rfl,rfl,?_⟩⟩
  refine ⟨e,.str y,rfl,rfl,he,fun dx h1 h2=> ?_⟩
  refine ⟨e,.int n,dx,[(PySem.Str.ofString "where",.str y)],rfl,rfl,by rw[Zo (Ne.symm h2),Zn],Zn,by simp,?_⟩
  have:=q dx h1 h2
  rw[show ZjV (PySem.Str.ofString "at") (V.int n) [(PySem.Str.ofString "where",V.str y)]=[(PySem.Str.ofString "where",V.str y),(PySem.Str.ofString "at",V.int n)] by
   unfold ZjV
   rw[if_neg (by decide +kernel)]
   rfl]
  exact this
end
noncomputable def Zbk (c:Str) (fs:Av):Sv:=fun ρ M=>Z0 (fs ρ M) fun ds M1=>match ds with
 | [.str y,.int n]=>if y.length<=1000/\n.natAbs.log2 < 1000 then .exc c (M1 ++ [.lst [.str y,.int n]]) else .bad
 |_=> .bad
section
variable {X:Cx} {ξ:XK} {pos:Pos}
theorem Zib {x:Str} {np cpos:Pos} {a b:Expr} {fs:Av} {f:Addr} {fd:FuncData} {oI:Obj} {k:Nat} (T:Thr X ξ) (hx:Zgy X.K x f=true) (hf:Zgp x=true) (gl: ∀ c v,nsIn X.K mainGlobals c=some (some v)->X.mg c=some v) (hh:X.A.handled=none)
  (G: ∀ C,ExF X.K C f->FnOk X.prog X.w X.K X.mg X.base (CXE X.prog X.w) k f fd N3 (spI C)) (hr:Room (k + 1) X.A) (hb:ZdK X.K fd N3 []) (lk:X.K.lookup f=some oI) (lc:oI.cls= .type "function") (ha:DA X ξ [a,b] fs) (hg:Gl X x:=by rfl) (hdb:(x == ("__debug__":Str))=false:=by decide)
  (he:starEach [a,b] X.env=(false,eval a X.env) :: starEach [b] X.env:=by rfl) (hpl:(backTo cpos (starEach [b] X.env)).any (·.1)=false:=by rfl):DS X ξ (.Raise (some (.Call (.Name x np) [a,b] [] cpos)) none pos) (Zbk x fs):=by
 obtain ⟨ta,pa,qa⟩:=ha
 obtain ⟨C,hC,hE⟩:=ZdY hx
 refine ⟨fun Dn σ H=>ta σ H fun vs H1=> ∃ y n,vs=[.str y,.int n]/\y.length<=1000/\n.natAbs.log2 < 1000/\ ∀ dx,H1 dx=none->ξ (.ref C) (some dx) (upd H1 dx (.xd [(PySem.Str.ofString "where",.str y),(PySem.Str.ofString "at",.int n)])),fun pins s σ H Dn I h=> ?_,fun σ ρ H α M Dn s h q=> ?_⟩
 ·obtain ⟨tl,N,nm,q,bs,hdct,sn,sub,ab,col,dd,k0,k1,k2,k3,k5,mN,gC,hN,hni,TL⟩:=Zf2 I.ok.mod.kin hE.inn
  refine DQ.Zgw (C:=C) (nm:=nm) (q:=q) (N:=N) (bs:=bs) (bm:=tl) (hdct:=hdct) (sn:=sn) (sub:=sub) (ab:=ab) (col:=col) (dd:=dd) (k0:=k0) (k1:=k1) (k2:=k2) (k3:=k3) (k5:=k5) (mN:=mN) (oI:=oI) F.excBase_ValueError
   (TL.hasType F.excBase_ValueError.hasBase) hh (by rw[he];show (false || (backTo cpos (starEach [b] X.env)).any (·.1))=false;rw[hpl];rfl) hni lc (ZdI I hg (gl x _ hC) ⟨rfl,?_⟩ hdb)
  have hs:=pa cpos pins s σ H _ I h
  rw[he] at hs ⊢
  refine Calls.evalArgs_plain (wpAny_mono hs (fun us s2 ⟨vs,H1,I1,r1,y,n,ev,hy,hn,q⟩=>⟨rfl,?_,I1.bk _ _ gC,hN.keeps I1.bk,TL.keeps I1.bk,I1.kIn _ _ lk,fun h' e m=> ?_⟩) fun _ _ y=>y)
  ·rw[<- r1.length,ev];exact Nat.le_trans (show 2<=1000 by decide) (by rw[sizeLine_eq];decide)
  ·subst ev
   obtain ⟨t0,g1,g2,g3⟩:=m.there
   have ne: ∀ b o,s2.heap.get? b=some o->b≠e:=fun b o x z=>by rw[z,m.new] at x;cases x
   have h1e:H1 e=none:=Zm8 I1.hok m.new
   have I2:Inv X pins σ (upd H1 e (.ext (Mkg C e none))) { s2 with heap:=h' }:=by
    refine ZdZ (t:=s2.toks) I1 (fun b=>b=e) (fun b z=> .inr (.inr (z ▸ m.new))) (fun b o z x=>m.keeps b o x) (fun b z=>⟨_,z ▸ g1⟩) (fun b z=>Zo z) fun b u z q'=> ?_
    subst z
    rw[Zn] at q'
    cases q'
    exact Zia ⟨_,_,t0,g1,rfl,rfl,rfl,rfl,rfl,rfl⟩
   have r2:ZZ (V.ref e :: [.str y,.int n]) (Value.ref e :: us):= .cons rfl r1
   have hl:(Value.ref e :: us ++ []).length=N3.length:=by rw[List.append_nil,<- r2.length];rfl
   have hsp:spI C [V.ref e,.str y,.int n] (upd H1 e (.ext (Mkg C e none))) (fun v H'=>v= .non/\ ∃ dx,H1 dx=none/\dx≠e/\H'=upd (upd (upd (upd H1 e (.ext (Mkg C e none))) e (.ext (Mkg C e (some dx)))) dx (.xd [(PySem.Str.ofString "where",.str y)])) dx (.xd [(PySem.Str.ofString "where",.str y),(PySem.Str.ofString "at",.int n)])) ξ:=
    ⟨e,y,n,rfl,Zn,hy,hn,fun dx h1 h2=>⟨rfl,dx,by rw[Zo h2] at h1;exact h1,h2,rfl⟩⟩
   have bd:=hb { s2 with heap:=h' } (Value.ref e :: us) I2.kIn hl
   rw[List.append_nil] at bd
   refine wpAny_call (codeAny_mono ((G C hE).run _ X.stack { s2 with heap:=h' } _ ⟨Value.ref e :: us,[]⟩ (Value.ref e :: us) _ _ ξ (hr.make C us []) (I2.env0.make C us []) bd r2 hsp) fun r s' hq=> ?_)
   cases r with
   |error e'=>exact T.ps pins σ _ _ e' s' I2 hq
   |ok fl=>
    cases fl with
    |next=>exact False.elim hq
    |brk=>exact False.elim hq
    |cont=>exact False.elim hq
    |ret u=>
     obtain ⟨v,H',I3,rv,ev,_⟩:=I2.after hq
     obtain ⟨v',H',os,bare,un,hok,rv',ev',dx,hdx,dne,eH⟩:=hq
     subst ev'
     refine ⟨rv',?_⟩
     have hHe:H' e=some (.ext (Mkg C e (some dx))):=by rw[eH,Zo (Ne.symm dne),Zo (Ne.symm dne),Zn]
     have hHd:H' dx=some (.xd [(PySem.Str.ofString "where",.str y),(PySem.Str.ofString "at",.int n)]):=by rw[eH,Zn]
     have hHo: ∀ b,b≠e->b≠dx->H' b=H1 b:=fun b z1 z2=>by rw[eH,Zo z2,Zo z2,Zo z1,Zo z1]
     have dxn:s2.heap.get? dx=none:=by
      cases z:s2.heap.get? dx with
      |none=>rfl
      |some o=>
       have:=un.free dx o (m.keeps _ _ z) (by rw[Zo dne];exact hdx) (by simp)
       rw[hHd] at this
       cases this
     have h2n: ∀ b o,s2.heap.get? b=some o->H1 b=none->upd H1 e (.ext (Mkg C e none)) b=none:=fun b o x z=>by rw[Zo (ne b o x)];exact z
     have nd: ∀ b o,s2.heap.get? b=some o->b≠dx:=fun b o x z=>by rw[z,dxn] at x;cases x
     obtain ⟨⟨oe,vs,t1,j1,j2,j3,j4,j5,j6,j7⟩,_,_⟩:=hok e _ hHe
     refine ⟨oe,vs,I3.bk _ _ gC,j1,j2,j4,j6,?_⟩
     refine T.mak pins σ H1 (upd H1 dx (.xd [(PySem.Str.ofString "where",.str y),(PySem.Str.ofString "at",.int n)])) s2 s' e oe vs C I1 os bare ⟨fun b o x z hb _=>un.keep b o (m.keeps b o x) (h2n b o x z) hb (by simp),fun b o x z hb _=>un.slot b o (m.keeps b o x) (h2n b o x z) hb (by simp),fun b o x z _=>by rw[Zo (nd b o x)];exact z,fun b o x _=>un.there b o (m.keeps b o x) (by simp),fun b xs z=> ?_,fun b o u z=> ?_,fun b ps z=>⟨#[],?_⟩⟩ (fun b u z=> ?_) m.new j1 j2 j4 j6 j7 (by rw[Zo (Ne.symm dne)];exact h1e) (by rw[j3];exact q dx hdx)
     ·rw[Zo (ZK z hdx)];exact z
     ·rw[Zo (ZK z hdx)];exact z
     ·rw[Zo (ZK z hdx),Array.append_empty];exact z
     ·by_cases c:b=dx
      ·subst c
       rw[Zn] at z
       cases z
       have:=hok b _ hHd
       exact this
      ·rw[Zo c] at z
       have be:b≠e:=fun w=>by rw[w,h1e] at z;cases z
       have zb:H' b=some u:=by rw[hHo b be c];exact z
       have tr: ∀ a v,H' a=some v->(∀ φ,v≠ .ext φ)->(∀ fs,v≠ .xd fs)->upd H1 dx (.xd [(PySem.Str.ofString "where",.str y),(PySem.Str.ofString "at",.int n)]) a=some v:=fun a v r n1 n2=>by
        have a1:a≠e:=fun w=>by rw[w,hHe] at r;cases r;exact n1 _ rfl
        have a2:a≠dx:=fun w=>by rw[w,hHd] at r;cases r;exact n2 _ rfl
        rw[Zo a2,<- hHo a a1 a2]
        exact r
       exact (hok b u zb).stay (fun _ _ _ r=>r) (fun a r=>tr a _ r (by simp) (by simp)) fun a xs r=>tr a _ r (by simp) (by simp)
 ·refine qa σ ρ H α M _ s h (FP.seq q fun ds M1 vs H1 α1 e1 h1 r1 w1=> ?_)
  split at w1
  ·rename_i y n
   cases r1 with
   |cons ra rt=>
    cases rt with
    |cons rb rc=>
     cases rc
     cases ra
     cases rb
     by_cases hl:y.length<=1000/\n.natAbs.log2 < 1000
     ·rw[if_pos hl] at w1
      exact ⟨y,n,rfl,hl.1,hl.2,fun dx hdx=>w1 C _ α1 hC (Ext.new0 hdx) (some dx) (.inr ⟨hf,M1,_,dx,_,rfl,h1.tup hdx,rfl,Zn,rfl,.cons (.str y) (.cons (.int n) .nil)⟩)⟩
     ·rw[if_neg hl] at w1
      exact w1.elim
  ·exact w1.elim
noncomputable def Zkb (i:Nat) (f:Ev):Ev:=fun ρ M=>(f ρ M).bind fun x M1=>match x with | .err c ds=>if Zgp c=true then (match ds[i]? with | some d=> .ok d M1 | none=> .bad) else .bad | _=> .bad
theorem Zno {fs:List (Str × V)} {xs:List V} (h1:fs.map (·.1)=Zi2) (h2:fs.map (·.2)=xs): ∃ a b,xs=[a,b]/\fs=[(PySem.Str.ofString "where",a),(PySem.Str.ofString "at",b)]:=by
 match fs,h1 with
 | [(n1,a),(n2,b)],h1=>
  simp only[List.map_cons,List.map_nil,Zi2,List.cons.injEq] at h1
  obtain ⟨rfl,rfl,_⟩:=h1
  exact ⟨a,b,h2.symm,rfl⟩
 | [],h1=>cases h1
 | [_],h1=>simp[Zi2] at h1
 |_ :: _ :: _ :: _,h1=>simp[Zi2] at h1
theorem Znp {e:Expr} {f:Str} {fa:Ev} {fI:Addr} (i:Nat) (hx:Zgy X.K (PySem.Str.ofString "NoRound") fI=true) (ha:DE X ξ e fa) (hi:Zi2[i]?=some f:=by rfl) (hb:attributeBase e f X.env (eval e X.env)=eval e X.env:=by rfl):DE X ξ (.Attribute e f pos) (Zkb i fa):=by
 obtain ⟨ta,pa,qa⟩:=ha
 obtain ⟨C,hC,hE⟩:=ZdY hx
 refine ⟨fun σ H Q=>ta σ H fun x H1=> ∃ p xs v,x= .ref p/\EOk H1 p C xs/\xs[i]?=some v/\Q v H1,fun pins s σ H Q I h=> ?_,fun σ ρ H α M Q s h q=> ?_⟩
 ·refine ZkL hb (thn (pa pins s σ H _ I h) fun u s1 ⟨x,H1,I1,rx,p,xs,v,ex,ok,hv,q⟩=> ?_)
  subst ex
  obtain rfl:u=Value.ref p:=rx
  obtain ⟨oe,uu,vs,g1,g2,g3,g4,g5⟩:=ok
  have go:=(I1.hok p _ g1).1
  rcases g5 with ⟨z,_⟩ | ⟨dx,fs,k1,k2,k3,k4⟩
  ·rw[z] at hv;simp at hv
  ·obtain ⟨a,b,ex,ef⟩:=Zno k4 k3
   obtain ⟨mA,hns,hr⟩:=I1.hok dx _ k2
   obtain ⟨od,ho,hl⟩:=Zhk hns
   have inst:PySem.W.InstAt s1.heap p oe C (some od):=⟨go,g2,by unfold PySem.W.notCls;rw[g3],by rw[k1];exact ho⟩
   have fin: ∀ (nm:Str) (w:V),findIn X.K (.ref C) nm=some none->fs.lookup nm=some w->Q w H1->wpAny (model X.prog X.w) X.A (getAttr (.ref p) nm true) (EP X pins σ Q) X.xe s1:=fun nm w z1 z2 z4=>by
    obtain ⟨u,hu,ru⟩:=ZiJ.some_of (v:=w) (o:=mA nm) (by rw[<- z2];exact hr nm)
    exact DQ.Zji hE.exc I1.kIn inst (PySem.W.findObj_own hE.hd z1 rfl (by rw[hl,hu])) (Zhl ru) ⟨w,H1,I1.tok _,ru,z4⟩
   match i,hi,hv with
   |0,hi,hv=>
    rw[ex] at hv
    cases hi
    cases hv
    exact fin _ _ hE.fw (by rw[ef];rfl) q
   |1,hi,hv=>
    rw[ex] at hv
    cases hi
    cases hv
    refine fin _ _ hE.fa ?_ q
    rw[ef,List.lookup_cons,show (PySem.Str.ofString "at" == PySem.Str.ofString "where")=false by decide +kernel,Znn,if_pos rfl]
   |i + 2,hi,_=>simp[Zi2] at hi
 ·refine qa σ ρ H α M _ s h (OG.seq q fun x M1 v H1 α1 e1 h1 r1 q1=> ?_)
  cases r1 with
  | @err p C' c xs ds k1 k2 k3=>
   by_cases hf:Zgp c=true
   ·simp only[hf,if_true] at q1
    have ec:c=PySem.Str.ofString "NoRound":=eq_of_beq hf
    subst ec
    rw[hC] at k1
    cases k1
    cases ed:ds[i]? with
    |none=>simp only[ed] at q1;exact q1.elim
    |some d=>
     simp only[ed] at q1
     obtain ⟨w,hw,rw'⟩:=k3.get ed
     exact ⟨p,xs,w,rfl,k2,hw,q1 _ H1 α1 Ext.refl h1 rw'⟩
   ·simp only[hf] at q1
    exact q1.elim
  |_=>exact q1.elim
end
noncomputable def Zjm (s:Stmt) (i:Nat):Stmt:=match s with
 | .ClassDef _ _ _ b _ _ _ _ _ _ _=>b.getD i s
 |_=>s
structure IniOk (K:PySem.W.Frag) (x qual:Str) (st:Stmt) (f:Addr) (fd:FuncData):Prop where
 ex:Zgy K x f=true
 fn:Fun K "__init__" qual st f fd
 bs:Zf4 K "RayError"=true
 bi:ZdK K fd N3 []
section
variable {X:Cx} {ξ:XK} {pos:Pos}
theorem Zce {x qual:Str} {st:Stmt} {np cpos:Pos} {a b:Expr} {fs:Av} {k:Nat} (J: ∃ f fd,IniOk X.K x qual st f fd) (G: ∀ f fd C,IniOk X.K x qual st f fd->ExF X.K C f->FnOk X.prog X.w X.K X.mg X.base (CXE X.prog X.w) k f fd N3 (spI C)) (T:Thr X ξ) (hf:Zgp x=true) (gl: ∀ c v,nsIn X.K mainGlobals c=some (some v)->X.mg c=some v) (hh:X.A.handled=none)
  (hr:Room (k + 1) X.A) (ha:DA X ξ [a,b] fs) (hg:Gl X x:=by rfl) (hdb:(x == ("__debug__":Str))=false:=by decide)
  (he:starEach [a,b] X.env=(false,eval a X.env) :: starEach [b] X.env:=by rfl) (hpl:(backTo cpos (starEach [b] X.env)).any (·.1)=false:=by rfl):DS X ξ (.Raise (some (.Call (.Name x np) [a,b] [] cpos)) none pos) (Zbk x fs):=by
 obtain ⟨f,fd,J⟩:=J
 obtain ⟨oc,od,kV,doc,pm,an,cdv,ct,osl,_,lk,hcd⟩:=J.fn.ex
 obtain ⟨C,hC,hE⟩:=ZdY J.ex
 have ty:=hE.ty
 have lc:oc= .type "function":=by
  have:(X.K.lookup f).map (·.cls)=some (.type "function"):=ty
  rw[lk] at this
  exact Option.some.inj this
 exact Zib T J.ex hf gl hh (fun C hE=>G f fd C J hE) hr J.bi lk lc ha hg hdb he hpl
theorem Zd0 {e:Expr} {f qual:Str} {st:Stmt} {fa:Ev} (i:Nat) (J: ∃ f fd,IniOk X.K (PySem.Str.ofString "NoRound") qual st f fd) (ha:DE X ξ e fa) (hi:Zi2[i]?=some f:=by rfl) (hb:attributeBase e f X.env (eval e X.env)=eval e X.env:=by rfl):DE X ξ (.Attribute e f pos) (Zkb i fa):=by
 obtain ⟨f,fd,J⟩:=J
 exact Znp i J.ex ha hi hb
end
end DL
end
section
namespace DL
open PySem PySem.Spec PyProof.Rows L2
noncomputable def Zic:Sv:=(ZB (sIf (tv (e2 dGt (e2 dIx (Zf 0) (eC (.int 0))) (eC (.int 0)))) (ZB (ZO (gNm 2) (e2 dMod (e2 dIx (Zf 0) (eC (.int 0))) (Zf 1)))
 (ZB (Ze8 (Zf 0) (eC (.int 0)) (e2 dDiv (e2 dIx (Zf 0) (eC (.int 0))) (Zf 1)))
 (ZW (Zf 2)))) sNil)
 (ZB (Ze8 (Zf 0) (eC (.int 1)) (e2 dMod (e2 dMul (e2 dIx (Zf 0) (eC (.int 1))) (eC (.int 48271))) (eC (.int 2147483647))))
 (ZW (e2 dMod (e2 dDiv (e2 dMod (e2 dMul (e2 dIx (Zf 0) (eC (.int 1))) (eC (.int 16807))) (eC (.int 2147483647))) (eC (.int 32))) (Zf 1)))))
noncomputable def FDigit:List D->Sto->Out D:=fnF Zic 2 1
noncomputable def Bag (n:Nat) (M:Sto):Prop:= ∃ a b:Int,0<=a/\M[n]?=some (.lst [.int a,.int b])
structure Gr (n:Nat) (M M':Sto):Prop where
 len:M.length<=M'.length
 bag:Bag n M'
 keep: ∀ k,k≠n->k < M.length->M'[k]?=M[k]?
theorem Zd1 {g:Sv} {n k:Nat} {ds:List D} {M M':Sto} {d:D} (hl:ds.length=n) (h:g (ds.map some ++ List.replicate k none) M= .ret d M'):fnF g n k ds M= .ok d M':=by
 unfold fnF
 rw[if_pos hl,h]
theorem Zcs {g h:Sv} {ρ ρ1:Ro} {M M1:Sto} (e:g ρ M= .nx ρ1 M1):ZB g h ρ M=h ρ1 M1:=by
 unfold ZB
 rw[e]
theorem Za8 {i j:Int} (h1: -(2 ^ 64) < j) (h2:j < 2 ^ 64):ZI i j:= .inr (.inl (intBits_le_64 h1 h2))
theorem Zda {i j:Int} (h1: -(2 ^ 64) < i) (h2:i < 2 ^ 64):ZI i j:= .inl (intBits_le_64 h1 h2)
theorem at0 {x:D} {r:List D}:atI (x :: r) 0=some x:=by
 show (ixN (r.length + 1) 0).bind _=_
 unfold ixN
 rw[if_pos (by decide),if_pos (by omega)]
 rfl
theorem at1 {x y:D} {r:List D}:atI (x :: y :: r) 1=some y:=by
 show (ixN (r.length + 2) 1).bind _=_
 unfold ixN
 rw[if_pos (by decide),if_pos (by omega)]
 rfl
theorem ix0 {n:Nat}:ixN (n + 1) 0=some 0:=by
 unfold ixN
 rw[if_pos (by decide),if_pos (by omega)]
 rfl
theorem ix1 {n:Nat}:ixN (n + 2) 1=some 1:=by
 unfold ixN
 rw[if_pos (by decide),if_pos (by omega)]
 rfl
theorem Zjn {n:Nat} {m:Int} {M:Sto} (hb:Bag n M) (hm:0 < m) (hd:Za0 m): ∃ r M',FDigit [.ref n,.int m] M= .ok (.int r) M'/\0<=r/\r < m/\Gr n M M':=by
 obtain ⟨a,b,ha,e⟩:=hb
 have hl:n < M.length:=(List.getElem?_eq_some_iff.mp e).1
 have hs: ∀ x,(M.set n x)[n]?=some x:=fun x=>List.getElem?_set_self hl
 have gr: ∀ a' b',0<=a'->Gr n M (M.set n (.lst [.int a',.int b'])):=fun a' b' h=>⟨by simp,⟨a',b',h,hs _⟩,fun k hk _=>by rw[List.getElem?_set_ne (Ne.symm hk)]⟩
 by_cases c:0 < a
 ·refine ⟨a.fmod m,M.set n (.lst [.int (a.fdiv m),.int b]),?_,?_,?_,gr _ _ ?_⟩
  ·simp[FDigit,Zic,fnF,ZB,sNil,ZW,ZdQ,Zdv,sIf,ZO,ZdC,Ze8,Z0,gNm,gNl,gCs,gTp,DL.e2,Zf,eC,Z3,ZaD,Zk,Zc,aNil,tv,Za5,Zdr,ZaL,ZaE,Zg2,Zco,eIf,Ze7,Zdu,Out.bind,dAdd,dSub,dMul,dDiv,dMod,dPow,dLt,dLe,dGt,dGe,dIx,atD,at0,at1,ix0,ix1,bLen,bAbs,bMax,bMin,bInt,bList,ZcR,ZC,kd,ZbB,dIs,dIsNot,isP,e,c,hd,Int.ne_of_gt hm]
  ·rw[Int.fmod_eq_emod_of_nonneg _ (by omega)];exact Int.emod_nonneg _ (by omega)
  ·rw[Int.fmod_eq_emod_of_nonneg _ (by omega)];exact Int.emod_lt_of_pos _ hm
  ·rw[Int.fdiv_eq_ediv_of_nonneg _ (by omega)];exact Int.ediv_nonneg ha (by omega)
 ·refine ⟨(((b * 48271).fmod 2147483647 * 16807).fmod 2147483647 |>.fdiv 32).fmod m,M.set n (.lst [.int a,.int ((b * 48271).fmod 2147483647)]),?_,?_,?_,gr _ _ ha⟩
  ·have f1:ZI b 48271:=Za8 (by decide) (by decide)
   have f2:ZI ((b * 48271).fmod 2147483647) 16807:=Za8 (by decide) (by decide)
   have f3:Za0 32:=by decide +kernel
   simp[FDigit,Zic,fnF,ZB,sNil,ZW,ZdQ,Zdv,sIf,ZO,ZdC,Ze8,Z0,gNm,gNl,gCs,gTp,DL.e2,Zf,eC,Z3,ZaD,Zk,Zc,aNil,tv,Za5,Zdr,ZaL,ZaE,Zg2,Zco,eIf,Ze7,Zdu,Out.bind,dAdd,dSub,dMul,dDiv,dMod,dPow,dLt,dLe,dGt,dGe,dIx,atD,at0,at1,ix0,ix1,bLen,bAbs,bMax,bMin,bInt,bList,ZcR,ZC,kd,ZbB,dIs,dIsNot,isP,e,c,hs,f1,f2,f3,Int.ne_of_gt hm]
  ·rw[Int.fmod_eq_emod_of_nonneg _ (by omega)];exact Int.emod_nonneg _ (by omega)
  ·rw[Int.fmod_eq_emod_of_nonneg _ (by omega)];exact Int.emod_lt_of_pos _ hm
theorem Bag.lt {n:Nat} {M:Sto} (h:Bag n M):n < M.length:=let ⟨_,_,_,e⟩:=h;(List.getElem?_eq_some_iff.mp e).1
theorem Bag.app {n:Nat} {M:Sto} (h:Bag n M) (L:Sto):Bag n (M ++ L):=by
 have hl:=h.lt
 obtain ⟨a,b,h1,h2⟩:=h
 exact ⟨a,b,h1,by rw[List.getElem?_append_left hl];exact h2⟩
theorem Gr.refl {n:Nat} {M:Sto} (h:Bag n M):Gr n M M:=⟨Nat.le_refl _,h,fun _ _ _=>rfl⟩
theorem Gr.trans {n:Nat} {M M1 M2:Sto} (a:Gr n M M1) (b:Gr n M1 M2):Gr n M M2:=
 ⟨Nat.le_trans a.len b.len,b.bag,fun k h1 h2=>(b.keep k h1 (Nat.lt_of_lt_of_le h2 a.len)).trans (a.keep k h1 h2)⟩
theorem Gr.app {n:Nat} {M:Sto} (h:Bag n M) (L:Sto):Gr n M (M ++ L):=⟨by simp,h.app L,fun k _ hk=>by rw[List.getElem?_append_left hk]⟩
theorem Gr.app2 {n:Nat} {M M1:Sto} (h:Gr n M M1) (L:Sto):Gr n M (M1 ++ L):=h.trans (.app h.bag L)
theorem Gr.new {n:Nat} {M M1:Sto} {o:SO} {L:Sto} (hb:Bag n M) (h:Gr n (M ++ o :: L) M1):M1[M.length]?=some o:=by
 rw[h.keep _ (Nat.ne_of_gt hb.lt) (by simp)]
 simp
noncomputable def ZsD:Sv:=(ZB (ZO (gNm 2) (eC (.int 0)))
 (ZB (sIf (tv (e2 dLt (Zf 1) (Zk bLen (Zc (Zf 0) aNil)))) (ZO (gNm 2) (Zk bAbs (Zc (e2 dIx (Zf 0) (Zf 1)) aNil))) sNil)
 (ZB (ZO (gNm 3) (e2 dAdd (eC (.int 1)) (e2 dMod (e2 dAdd (e2 dAdd (e2 dAdd (e2 dMod (Zf 2) (eC (.int 2147483647))) (e2 dMul (e2 dMul (eC (.int 7919)) (Zf 1)) (Zf 1))) (e2 dMul (eC (.int 11)) (Zf 1))) (eC (.int 5))) (eC (.int 2147483646)))))
 (ZW (ZaD (Zc (e2 dMul (Zf 2) (Zk bInt (Zc (e2 dGe (Zf 2) (e2 dPow (eC (.int 10)) (eC (.int 18)))) aNil))) (Zc (Zf 3) aNil)))))))
noncomputable def FBag:List D->Sto->Out D:=fnF ZsD 2 2
theorem Zjo {ns:List Int} {k:Nat} (h:k < ns.length):atI (ns.map D.int) (k:Int)=some (.int ns[k]):=Zhs (by rw[List.getElem?_map,List.getElem?_eq_getElem h];rfl)
theorem Znq {ns:List Int} {k:Nat} {M:Sto} (hk:k < 1000): ∃ a b:Int,0<=a/\FBag [.rol (ns.map D.int),.int k] M= .ok (.ref M.length) (M ++ [.lst [.int a,.int b]]):=by
 have f2:ZI 7919 (k:Int):=Zda (by decide) (by decide)
 have f3:ZI (7919 * (k:Int)) (k:Int):=Za8 (by omega) (by omega)
 have f4:ZI 11 (k:Int):=Zda (by decide) (by decide)
 have body: ∀ cell:Int,0<=cell-> ∃ a b:Int,0<=a/\ ∀ M,ZB (ZO (gNm 3) (e2 dAdd (eC (.int 1)) (e2 dMod (e2 dAdd (e2 dAdd (e2 dAdd (e2 dMod (Zf 2) (eC (.int 2147483647))) (e2 dMul (e2 dMul (eC (.int 7919)) (Zf 1)) (Zf 1))) (e2 dMul (eC (.int 11)) (Zf 1))) (eC (.int 5))) (eC (.int 2147483646)))))
   (ZW (ZaD (Zc (e2 dMul (Zf 2) (Zk bInt (Zc (e2 dGe (Zf 2) (e2 dPow (eC (.int 10)) (eC (.int 18)))) aNil))) (Zc (Zf 3) aNil)))) [some (.rol (ns.map D.int)),some (.int k),some (.int cell),none] M= .ret (.ref M.length) (M ++ [.lst [.int a,.int b]]):=by
  intro cell hc
  have f5:ZI cell 1:=Za8 (by decide) (by decide)
  have f6:ZI cell 0:=Za8 (by decide) (by decide)
  by_cases c:(10 ^ 18:Int)<=cell
  ·refine ⟨cell * 1,1 + (cell.fmod 2147483647 + 7919 * (k:Int) * k + 11 * k + 5).fmod 2147483646,by omega,fun M=> ?_⟩
   have c':(1000000000000000000:Int)<=cell:=by omega
   simp[fnF,ZB,sNil,ZW,ZdQ,Zdv,sIf,ZO,ZdC,Ze8,Z0,gNm,gNl,gCs,gTp,DL.e2,Zf,eC,Z3,ZaD,Zk,Zc,aNil,tv,Za5,Zdr,ZaL,ZaE,Zg2,Zco,eIf,Ze7,Zdu,Out.bind,dAdd,dSub,dMul,dDiv,dMod,dPow,dLt,dLe,dGt,dGe,dIx,atD,at0,at1,ix0,ix1,bLen,bAbs,bMax,bMin,bInt,bList,ZcR,ZC,kd,ZbB,dIs,dIsNot,isP,f2,f3,f4,f5,f6,c']
  ·refine ⟨cell * 0,1 + (cell.fmod 2147483647 + 7919 * (k:Int) * k + 11 * k + 5).fmod 2147483646,by omega,fun M=> ?_⟩
   have c': ¬ (1000000000000000000:Int)<=cell:=by omega
   simp[fnF,ZB,sNil,ZW,ZdQ,Zdv,sIf,ZO,ZdC,Ze8,Z0,gNm,gNl,gCs,gTp,DL.e2,Zf,eC,Z3,ZaD,Zk,Zc,aNil,tv,Za5,Zdr,ZaL,ZaE,Zg2,Zco,eIf,Ze7,Zdu,Out.bind,dAdd,dSub,dMul,dDiv,dMod,dPow,dLt,dLe,dGt,dGe,dIx,atD,at0,at1,ix0,ix1,bLen,bAbs,bMax,bMin,bInt,bList,ZcR,ZC,kd,ZbB,dIs,dIsNot,isP,f2,f3,f4,f5,f6,c']
 by_cases c:k < ns.length
 ·obtain ⟨a,b,h,e⟩:=body (if ns[k] < 0 then -ns[k] else ns[k]) (by split<;>omega)
  refine ⟨a,b,h,Zd1 rfl ?_⟩
  have c':(k:Int) < (ns.length:Int):=by omega
  refine (Zcs (ρ1:=[some (.rol (ns.map D.int)),some (.int k),some (.int 0),none]) (M1:=M) rfl).trans ?_
  refine (Zcs (ρ1:=[some (.rol (ns.map D.int)),some (.int k),some (.int (if ns[k] < 0 then -ns[k] else ns[k])),none]) (M1:=M) ?_).trans (e M)
  simp[fnF,ZB,sNil,ZW,ZdQ,Zdv,sIf,ZO,ZdC,Ze8,Z0,gNm,gNl,gCs,gTp,DL.e2,Zf,eC,Z3,ZaD,Zk,Zc,aNil,tv,Za5,Zdr,ZaL,ZaE,Zg2,Zco,eIf,Ze7,Zdu,Out.bind,dAdd,dSub,dMul,dDiv,dMod,dPow,dLt,dLe,dGt,dGe,dIx,atD,at0,at1,ix0,ix1,bLen,bAbs,bMax,bMin,bInt,bList,ZcR,ZC,kd,ZbB,dIs,dIsNot,isP,Zjo c,c']
 ·obtain ⟨a,b,h,e⟩:=body 0 (by omega)
  refine ⟨a,b,h,Zd1 rfl ?_⟩
  have c': ¬ (k:Int) < (ns.length:Int):=by omega
  refine (Zcs (ρ1:=[some (.rol (ns.map D.int)),some (.int k),some (.int 0),none]) (M1:=M) rfl).trans ?_
  refine (Zcs (ρ1:=[some (.rol (ns.map D.int)),some (.int k),some (.int 0),none]) (M1:=M) ?_).trans (e M)
  simp[fnF,ZB,sNil,ZW,ZdQ,Zdv,sIf,ZO,ZdC,Ze8,Z0,gNm,gNl,gCs,gTp,DL.e2,Zf,eC,Z3,ZaD,Zk,Zc,aNil,tv,Za5,Zdr,ZaL,ZaE,Zg2,Zco,eIf,Ze7,Zdu,Out.bind,dAdd,dSub,dMul,dDiv,dMod,dPow,dLt,dLe,dGt,dGe,dIx,atD,at0,at1,ix0,ix1,bLen,bAbs,bMax,bMin,bInt,bList,ZcR,ZC,kd,ZbB,dIs,dIsNot,isP,c',c]
theorem Zf5 {ρ:Ro} {i:Nat} {x:Option D} (h:ρ[i]?=some x):ρ.set i x=ρ:=by
 apply List.ext_getElem?
 intro k
 by_cases hk:k=i
 ·subst hk
  rw[List.getElem?_set_self (List.getElem?_eq_some_iff.mp h).1,h]
 ·rw[List.getElem?_set_ne (Ne.symm hk)]
noncomputable def cEu (i j:Nat):Sv:=ZdC i j (Zc (Zf j) (Zc (e2 dMod (Zf i) (Zf j)) aNil))
theorem Znr {c:Tv} {i j:Nat} {M:Sto} (hij:i≠j) (hc: ∀ (ρ:Ro) (b:Nat),ρ[j]?=some (some (.int b))->c ρ M= .ok (decide (b≠0)) M): ∀ (b a:Nat) (ρ:Ro),ρ[i]?=some (some (.int a))->ρ[j]?=some (some (.int b))->
  sWh c (cEu i j) ρ M= .nx ((ρ.set i (some (.int (Nat.gcd a b:Nat)))).set j (some (.int 0))) M:=by
 intro b
 induction b using Nat.strongRecOn with
 |ind b ih=>
  intro a ρ hi hj
  by_cases h0:b=0
  ·subst h0
   rw[ZeC (M1:=M) (by rw[hc ρ 0 hj];rfl),Nat.gcd_zero_right,Zf5 hi,Zf5 (x:=some (.int 0)) hj]
  ·have hl:i < ρ.length:=(List.getElem?_eq_some_iff.mp hi).1
   have hl2:j < ρ.length:=(List.getElem?_eq_some_iff.mp hj).1
   have ht:c ρ M= .ok true M:=by rw[hc ρ b hj,decide_eq_true h0]
   have hb:cEu i j ρ M= .nx ((ρ.set i (some (.int b))).set j (some (.int (a % b:Nat)))) M:=by
    have hb0: ¬ (b:Int)=0:=by omega
    have hm:(a:Int).fmod (b:Int)=((a % b:Nat):Int):=by rw[Int.fmod_eq_emod_of_nonneg _ (by omega)];rfl
    simp[cEu,ZdC,Zc,aNil,Zf,e2,dMod,Out.bind,Z0,hi,hj,hb0,hm,h0]
   have g1:((ρ.set i (some (.int b))).set j (some (.int (a % b:Nat))))[i]?=some (some (.int b)):=by
    rw[List.getElem?_set_ne (Ne.symm hij),List.getElem?_set_self hl]
   have g2:((ρ.set i (some (.int b))).set j (some (.int (a % b:Nat))))[j]?=some (some (.int (a % b:Nat))):=by
    rw[List.getElem?_set_self (by simpa using hl2)]
   have q:=ih (a % b) (Nat.mod_lt _ (by omega)) b _ g1 g2
   rw[ZfN ht hb (by rw[q];intro z;cases z),q]
   have eg:Nat.gcd b (a % b)=Nat.gcd a b:=by rw[Nat.gcd_comm b,<- Nat.gcd_rec,Nat.gcd_comm]
   rw[eg,List.set_comm _ _ (Ne.symm hij),List.set_set,List.set_set]
theorem Zns {M:Sto} {a b:Int}:eqF 12 M (.int a) (.int b)=some (a == b):=rfl
theorem ne0 {j:Nat} {M:Sto} (ρ:Ro) (b:Nat) (h:ρ[j]?=some (some (.int b))):tv (e2 dNe (Zf j) (eC (.int 0))) ρ M= .ok (decide (b≠0)) M:=by
 simp[tv,e2,Zf,eC,h,Out.bind,dNe,Zns]
 by_cases c:b=0
 ·subst c;rfl
 ·have: ¬ (b:Int)=0:=by omega
  simp[c,this]
theorem Zid (a:Int):(if a < 0 then -a else a)=(a.natAbs:Int):=by split<;>omega
noncomputable def ZsE:Sv:=(ZB (ZdC 2 3 (Zc (Zk bAbs (Zc (Zf 0) aNil)) (Zc (Zk bAbs (Zc (Zf 1) aNil)) aNil)))
 (ZB (sWh (tv (e2 dNe (Zf 3) (eC (.int 0)))) (ZdC 2 3 (Zc (Zf 3) (Zc (e2 dMod (Zf 2) (Zf 3)) aNil))))
 (ZW (Zf 2))))
noncomputable def FGcd:List D->Sto->Out D:=fnF ZsE 2 2
theorem Znt (a b:Int) (M:Sto):FGcd [.int a,.int b] M= .ok (.int (Int.gcd a b:Nat)) M:=by
 refine Zd1 rfl ?_
 refine (Zcs (ρ1:=[some (.int a),some (.int b),some (.int (a.natAbs:Nat)),some (.int (b.natAbs:Nat))]) (M1:=M) ?_).trans ?_
 ·simp[fnF,ZB,sNil,ZW,ZdQ,Zdv,sIf,ZO,ZdC,Ze8,Z0,gNm,gNl,gCs,gTp,DL.e2,Zf,eC,Z3,ZaD,Zk,Zc,aNil,tv,Za5,Zdr,ZaL,ZaE,Zg2,Zco,eIf,Ze7,Zdu,Out.bind,dAdd,dSub,dMul,dDiv,dMod,dPow,dLt,dLe,dGt,dGe,dIx,atD,at0,at1,ix0,ix1,bLen,bAbs,bMax,bMin,bInt,bList,ZcR,ZC,kd,ZbB,dIs,dIsNot,isP,Zid]
 ·have q:=Znr (c:=tv (e2 dNe (Zf 3) (eC (.int 0)))) (i:=2) (j:=3) (M:=M) (by decide) ne0 b.natAbs a.natAbs [some (.int a),some (.int b),some (.int (a.natAbs:Nat)),some (.int (b.natAbs:Nat))] rfl rfl
  refine (Zcs q).trans ?_
  rfl
end DL
end
section
namespace DL
open PySem PySem.Spec PyProof.Rows L2
theorem Zfh {ds:List D} {tg:Tg} {c:Tv} {f:Ev} {M:Sto} {Inv:Ro->Prop} {P:D->Option D} (ht: ∀ d∈ds,∀ ρ,Inv ρ-> ∃ ρ1,tg d ρ=some ρ1/\Inv ρ1/\ ∀ xs,
   (∃ y,P d=some y/\c ρ1 (M ++ [.lst xs])= .ok true (M ++ [.lst xs])/\f ρ1 (M ++ [.lst xs])= .ok y (M ++ [.lst xs]))\/(P d=none/\c ρ1 (M ++ [.lst xs])= .ok false (M ++ [.lst xs]))):
  ∀ (k i:Nat) (ρ:Ro) (xs:List D),i + k=ds.length->Inv ρ->xs.length + k < 100000->ZcD (.pur ds) tg c f M.length k i ρ (M ++ [.lst xs])= .ok () (M ++ [.lst (xs ++ (ds.drop i).filterMap P)])
 |0,i,ρ,xs,e,_,_=>by
  have hi:ds[i]?=none:=List.getElem?_eq_none (by omega)
  have hd:ds.drop i=[]:=List.drop_eq_nil_of_le (by omega)
  unfold ZcD
  simp only[nxt,hi,hd,List.filterMap_nil,List.append_nil]
 |k + 1,i,ρ,xs,e,hI,hl=>by
  have hi:i < ds.length:=by omega
  have hg:ds[i]?=some ds[i]:=List.getElem?_eq_getElem hi
  obtain ⟨ρ1,e1,I1,h⟩:=ht ds[i] (List.getElem_mem hi) ρ hI
  rw[List.drop_eq_getElem_cons hi]
  unfold ZcD
  simp only[nxt,hg,e1]
  rcases h xs with ⟨y,p,h1,h2⟩ | ⟨p,h1⟩
  ·have l1:(M ++ [SO.lst xs])[M.length]?=some (.lst xs):=by simp
   have l2:(M ++ [SO.lst xs]).set M.length (.lst (xs ++ [y]))=M ++ [.lst (xs ++ [y])]:=by simp
   simp only[h1,h2,l1,l2,if_pos (show xs.length < 10000000 by omega)]
   rw[Zfh ht k (i + 1) ρ1 (xs ++ [y]) (by omega) I1 (by simp;omega),List.filterMap_cons_some p]
   simp
  ·simp only[h1]
   rw[Zfh ht k (i + 1) ρ1 xs (by omega) I1 (by omega),List.filterMap_cons_none p]
noncomputable def Zie (bs:List D) (d:D):Option D:=match d with
 | .int i=>(match atI bs i with | some (.bl true)=>some d | _=>none)
 |_=>none
noncomputable def Zjp (t0 t1 t2 t3 t4 t5 t6 t7 t8 t9 t10 t11 t12 t13 t14 tV:List (Str × Bool)):Sv:=(ZB (ZO (gNm 1) (ZaD (Zc (Zan t0 (Zf 0)) (Zc (Zan t1 (Zf 0)) (Zc (Zan t2 (Zf 0)) (Zc (Zan t3 (Zf 0)) aNil))))))
 (ZB (ZO (gNm 1) (e2 dAdd (Zf 1) (ZaD (Zc (Zan t4 (Zf 0)) (Zc (Zan t5 (Zf 0)) (Zc (Zan t6 (Zf 0)) (Zc (Zan t7 (Zf 0)) aNil)))))))
 (ZB (ZO (gNm 1) (e2 dAdd (Zf 1) (ZaD (Zc (Zan t8 (Zf 0)) (Zc (Zan t9 (Zf 0)) (Zc (Zan t10 (Zf 0)) (Zc (Zan t11 (Zf 0)) aNil)))))))
 (ZB (ZO (gNm 1) (e2 dAdd (Zf 1) (ZaD (Zc (Zan t12 (Zf 0)) (Zc (Zan t13 (Zf 0)) (Zc (Zan t14 (Zf 0)) aNil))))))
 (ZW (ZbN (iR1 (Zc (eC (.int 15)) aNil)) 1 [0,1] (gNm 0) (Za5 (tv (e2 dIx (Zf 2) (Zf 0))) (tv (Zan tV (Zf 1)))) (Zf 0)))))))
theorem Zgz {t0 t1 t2 t3 t4 t5 t6 t7 t8 t9 t10 t11 t12 t13 t14 tV:List (Str × Bool)} {c:Str} {es:List D} {b0 b1 b2 b3 b4 b5 b6 b7 b8 b9 b10 b11 b12 b13 b14:Bool} {M:Sto} (h0:t0.lookup c=some b0) (h1:t1.lookup c=some b1) (h2:t2.lookup c=some b2) (h3:t3.lookup c=some b3) (h4:t4.lookup c=some b4) (h5:t5.lookup c=some b5) (h6:t6.lookup c=some b6) (h7:t7.lookup c=some b7) (h8:t8.lookup c=some b8) (h9:t9.lookup c=some b9) (h10:t10.lookup c=some b10) (h11:t11.lookup c=some b11) (h12:t12.lookup c=some b12) (h13:t13.lookup c=some b13) (h14:t14.lookup c=some b14) (hV:tV.lookup c=some true):
  ∃ L,fnF (Zjp t0 t1 t2 t3 t4 t5 t6 t7 t8 t9 t10 t11 t12 t13 t14 tV) 1 1 [.err c es] M= .ok (.ref (M.length + 7)) (M ++ L)/\(M ++ L)[M.length + 7]?=some (.lst ((ZbG 0 15).filterMap (Zie [D.bl b0,D.bl b1,D.bl b2,D.bl b3,D.bl b4,D.bl b5,D.bl b6,D.bl b7,D.bl b8,D.bl b9,D.bl b10,D.bl b11,D.bl b12,D.bl b13,D.bl b14]))):=by
 generalize hL:[SO.lst [D.bl b0,D.bl b1,D.bl b2,D.bl b3],.lst [D.bl b4,D.bl b5,D.bl b6,D.bl b7],.lst [D.bl b0,D.bl b1,D.bl b2,D.bl b3,D.bl b4,D.bl b5,D.bl b6,D.bl b7],.lst [D.bl b8,D.bl b9,D.bl b10,D.bl b11],.lst [D.bl b0,D.bl b1,D.bl b2,D.bl b3,D.bl b4,D.bl b5,D.bl b6,D.bl b7,D.bl b8,D.bl b9,D.bl b10,D.bl b11],.lst [D.bl b12,D.bl b13,D.bl b14],.lst [D.bl b0,D.bl b1,D.bl b2,D.bl b3,D.bl b4,D.bl b5,D.bl b6,D.bl b7,D.bl b8,D.bl b9,D.bl b10,D.bl b11,D.bl b12,D.bl b13,D.bl b14]]=L
 have lL:L.length=7:=by subst hL;rfl
 have l6:(M ++ L)[M.length + 6]?=some (.lst [D.bl b0,D.bl b1,D.bl b2,D.bl b3,D.bl b4,D.bl b5,D.bl b6,D.bl b7,D.bl b8,D.bl b9,D.bl b10,D.bl b11,D.bl b12,D.bl b13,D.bl b14]):=by subst hL;simp
 have run: ∀ rest:Sv,ZB (ZO (gNm 1) (ZaD (Zc (Zan t0 (Zf 0)) (Zc (Zan t1 (Zf 0)) (Zc (Zan t2 (Zf 0)) (Zc (Zan t3 (Zf 0)) aNil))))))
   (ZB (ZO (gNm 1) (e2 dAdd (Zf 1) (ZaD (Zc (Zan t4 (Zf 0)) (Zc (Zan t5 (Zf 0)) (Zc (Zan t6 (Zf 0)) (Zc (Zan t7 (Zf 0)) aNil)))))))
   (ZB (ZO (gNm 1) (e2 dAdd (Zf 1) (ZaD (Zc (Zan t8 (Zf 0)) (Zc (Zan t9 (Zf 0)) (Zc (Zan t10 (Zf 0)) (Zc (Zan t11 (Zf 0)) aNil)))))))
   (ZB (ZO (gNm 1) (e2 dAdd (Zf 1) (ZaD (Zc (Zan t12 (Zf 0)) (Zc (Zan t13 (Zf 0)) (Zc (Zan t14 (Zf 0)) aNil)))))) rest))) [some (.err c es),none] M=rest [some (.err c es),some (.ref (M.length + 6))] (M ++ L):=by
  intro rest
  subst hL
  simp[fnF,ZB,sNil,ZW,ZdQ,Zdv,sIf,ZO,ZdC,Ze8,Z0,gNm,gNl,gCs,gTp,DL.e2,Zf,eC,Z3,ZaD,Zk,Zc,aNil,tv,Za5,Zdr,ZaL,ZaE,Zg2,Zco,eIf,Ze7,Zdu,Out.bind,dAdd,dSub,dMul,dDiv,dMod,dPow,dLt,dLe,dGt,dGe,dIx,atD,at0,at1,ix0,ix1,bLen,bAbs,bMax,bMin,bInt,bList,ZcR,ZC,kd,ZbB,dIs,dIsNot,isP,Zan,ZfW,Zj8,h0,h1,h2,h3,h4,h5,h6,h7,h8,h9,h10,h11,h12,h13,h14]
 have cp:=Zfh (ds:=ZbG 0 15) (tg:=gNm 0) (c:=Za5 (tv (e2 dIx (Zf 2) (Zf 0))) (tv (Zan tV (Zf 1)))) (f:=Zf 0) (M:=M ++ L) (Inv:=fun ρ=> ∃ x,ρ=[x,some (.err c es),some (.ref (M.length + 6))])
  (P:=Zie [D.bl b0,D.bl b1,D.bl b2,D.bl b3,D.bl b4,D.bl b5,D.bl b6,D.bl b7,D.bl b8,D.bl b9,D.bl b10,D.bl b11,D.bl b12,D.bl b13,D.bl b14]) (by
   intro d hd ρ ⟨x,hρ⟩
   subst hρ
   obtain ⟨i,hi,rfl⟩:=List.mem_map.mp hd
   have hi':i < 15:=List.mem_range.mp hi
   refine ⟨_,rfl,⟨_,rfl⟩,fun xs=> ?_⟩
   have l7:(M ++ L ++ [SO.lst xs])[M.length + 6]?=some (.lst [D.bl b0,D.bl b1,D.bl b2,D.bl b3,D.bl b4,D.bl b5,D.bl b6,D.bl b7,D.bl b8,D.bl b9,D.bl b10,D.bl b11,D.bl b12,D.bl b13,D.bl b14]):=by
    rw[List.getElem?_append_left (by rw[List.length_append,lL];omega)]
    exact l6
   have ei:(0:Int) + (i:Nat)=(i:Nat):=by omega
   rw[ei]
   obtain ⟨b,hb⟩: ∃ b,atI [D.bl b0,D.bl b1,D.bl b2,D.bl b3,D.bl b4,D.bl b5,D.bl b6,D.bl b7,D.bl b8,D.bl b9,D.bl b10,D.bl b11,D.bl b12,D.bl b13,D.bl b14] (i:Nat)=some (.bl b):=by
    have q: ∀ i:Nat,i < 15-> ∃ b,[D.bl b0,D.bl b1,D.bl b2,D.bl b3,D.bl b4,D.bl b5,D.bl b6,D.bl b7,D.bl b8,D.bl b9,D.bl b10,D.bl b11,D.bl b12,D.bl b13,D.bl b14][i]?=some (.bl b):=by
     intro i hi
     have:i=0\/i=1\/i=2\/i=3\/i=4\/i=5\/i=6\/i=7\/i=8\/i=9\/i=10\/i=11\/i=12\/i=13\/i=14:=by omega
     rcases this with rfl | rfl | rfl | rfl | rfl | rfl | rfl | rfl | rfl | rfl | rfl | rfl | rfl | rfl | rfl<;>exact ⟨_,rfl⟩
    obtain ⟨b,hb⟩:=q i hi'
    exact ⟨b,Zhs hb⟩
   have hc:Za5 (tv (e2 dIx (Zf 2) (Zf 0))) (tv (Zan tV (Zf 1))) [some (.int (i:Nat)),some (.err c es),some (.ref (M.length + 6))] (M ++ L ++ [.lst xs])= .ok b (M ++ L ++ [.lst xs]):=by
    cases b<;>simp only[Za5,tv,DL.e2,Zf,List.getElem?_cons_zero,List.getElem?_cons_succ,Out.bind,dIx,l7,atD,hb,Zan,hV,if_pos,if_neg,Bool.false_eq_true,if_false]
   cases b with
   |true=>exact .inl ⟨.int (i:Nat),by simp only[Zie,hb],hc,rfl⟩
   |false=>exact .inr ⟨by simp only[Zie,hb],hc⟩) 15 0 [none,some (.err c es),some (.ref (M.length + 6))] [] rfl ⟨none,rfl⟩ (by decide)
 refine ⟨L ++ [.lst ((ZbG 0 15).filterMap (Zie [D.bl b0,D.bl b1,D.bl b2,D.bl b3,D.bl b4,D.bl b5,D.bl b6,D.bl b7,D.bl b8,D.bl b9,D.bl b10,D.bl b11,D.bl b12,D.bl b13,D.bl b14]))],Zd1 rfl ?_,?_⟩
 ·refine (run _).trans ?_
  have len:(M ++ L).length=M.length + 7:=by rw[List.length_append,lL]
  have cn:cnt (.pur (ZbG 0 15)) (M ++ L)=15:=rfl
  rw[List.drop_zero,List.nil_append] at cp
  simp only[len,List.append_assoc] at cp
  have hr:iR1 (Zc (eC (.int 15)) aNil) [some (.err c es),some (.ref (M.length + 6))] (M ++ L)= .ok (.pur (ZbG 0 15)) (M ++ L):=rfl
  have ho:roB 1 [0,1] [some (.err c es),some (.ref (M.length + 6))]=[none,some (.err c es),some (.ref (M.length + 6))]:=rfl
  simp only[ZW,Z0,ZbN,hr,Out.bind,cn,ho,cp,len,List.append_assoc]
 ·rw[<- List.append_assoc,List.getElem?_append_right (by rw[List.length_append,lL];omega),List.length_append,lL,Nat.sub_self]
  rfl
end DL
end
section
namespace HD
open PySem PySem.W PyProof.Rows
noncomputable def Zpd (thr:Thread->Bool) (stp:SharedT->Thread->Option (SharedT × Thread)) (n:Nat):SharedT->Thread->Option SharedT:=
 Nat.rec (motive:=fun _=>SharedT->Thread->Option SharedT) (fun _ _=>none) (fun _ ih s t=>Bool.rec (motive:=fun _=>Option SharedT) (Option.rec (motive:=fun _=>Option SharedT) none (fun r=>ih r.1 r.2) (stp s t)) (some s) (thr t)) n
noncomputable def Zjq (ok:Thread->Bool) (stp:SharedT->Thread->Option (SharedT × Thread)) (s:SharedT) (t:Thread):Option (SharedT × Thread):=Bool.rec (motive:=fun _=>Option (SharedT × Thread)) none (stp s t) (ok t)
section
variable {tb:String->Option Builtin} {p:Program} {w:World} {n₀:Nat} {ann:Option Value}
theorem Zkc: ∀ {n:Nat} {s s':SharedT} {t:Thread},Zpd through (Zjq (stepOk n₀ ann) (stepT (denote tb) p w)) n s t=some s'->topRun tb p w n₀ ann n s.abs t=some s'.abs
 |0,s,s',t,h=>by cases h
 |n + 1,s,s',t,h=>by
  unfold topRun
  change Bool.rec (motive:=fun _=>Option SharedT) (Option.rec (motive:=fun _=>Option SharedT) none (fun r=>Zpd through (Zjq (stepOk n₀ ann) (stepT (denote tb) p w)) n r.1 r.2) (Zjq (stepOk n₀ ann) (stepT (denote tb) p w) s t)) (some s) (through t)=some s' at h
  cases ht:through t with
  |true=>
   rw[ht] at h
   have h':some s=some s':=h
   cases h'
   rfl
  |false=>
   rw[ht] at h
   cases hk:stepOk n₀ ann t with
   |false=>
    have e:Zjq (stepOk n₀ ann) (stepT (denote tb) p w) s t=none:=by unfold Zjq;rw[hk]
    rw[e] at h
    cases h
   |true=>
    have e:Zjq (stepOk n₀ ann) (stepT (denote tb) p w) s t=stepT (denote tb) p w s t:=by unfold Zjq;rw[hk]
    rw[e] at h
    cases hs:stepT (denote tb) p w s t with
    |none=>rw[hs] at h;cases h
    |some r=>
     obtain ⟨s2,t2⟩:=r
     rw[hs] at h
     have:=stepT_spec hs
     rw[this]
     exact Zkc (n:=n) h
end
noncomputable def T0 (w:World) (os:OsState):SharedT:=
 ⟨[boot_o_0,boot_o_1,boot_o_2,boot_o_3,boot_o_4,boot_o_5,boot_o_6,boot_o_7,boot_o_8,boot_o_9,boot_o_10].foldl (fun (r:Nat × BT) o=>(r.1 + 1,r.2.ins r.1 (o w.params))) (0,.nil) |>.2,11,(boot_heap w.params).life,#[],boot_drawn,boot_toks,os⟩
theorem Znu (w:World) (os:OsState):(T0 w os).abs=⟨boot_heap w.params,#[],boot_drawn,boot_toks,os⟩:=by kernel_rfl
theorem Zlm:Str.ofString "__annotations__"=⟨#[95,95,97,110,110,111,116,97,116,105,111,110,115,95,95]⟩:=by decide +kernel
theorem Zif {p q:Program} {loose:List Str} {Xt:Shared->Bool} {α:Type} {Yf:Shared->α} {Ya:World->α} {N M:Nat} (e:opening p=plainProg p.main.scope.names) (hN:Nat.ble 600 N=true) (f: ∀ s,fenceModules? p s=some s) (le:Nat.ble M N=true)
  (ZpI: ∀ (w:World) (os:OsState),(Zpd through (Zjq (stepOk 11 (some (.ref 6))) (stepT (denote treeTable) p w)) M (T0 w os) (topStub p)).map (fun s=>((staticsOk (importedModules p.main.body) (boot_heap w.params) s.abs.heap && namesBound p s.abs.heap && gensDone s.abs && laidKept (boot_heap w.params) s.abs.heap),
    openSeen q loose (importedModules p.main.body) Xt true s.abs,Yf s.abs))=some (true,openGood q loose,Ya w)):LeftO p q loose Xt Yf Ya N:=fun w=>by
 obtain ⟨⟨h,gs,d,k,os⟩,e1,e2⟩:=Option.map_eq_some_iff.mp (boot_open e hN f w)
 obtain ⟨rfl,rfl,rfl,rfl⟩:h=boot_heap w.params/\gs=Array.mk []/\d=boot_drawn/\k=boot_toks:=by simpa using e2
 obtain ⟨s',r1,r2⟩:=Option.map_eq_some_iff.mp (ZpI w os)
 obtain ⟨l1,l2,l3⟩:_/\_/\_:=by simpa only[Prod.mk.injEq] using r2
 have r:=Zkc r1
 rw[Znu] at r
 have r:=topRun_mono (N - M) _ _ _ _ r
 rw[show M + (N - M)=N by have:=Nat.le_of_ble_eq_true le;omega] at r
 have z1:((boot_heap w.params).isNs mainGlobals && (Array.mk []:Array GenState).size == 0)=true:=by kernel_rfl
 have z2:(boot_heap w.params).objs.size=11:=rfl
 have z3:(boot_heap w.params).nsMap mainGlobals "__annotations__"=some (.ref 6):=by
  rw[Zlm]
  kernel_rfl
 have t:topFrom treeTable p w N ⟨boot_heap w.params,Array.mk [],boot_drawn,boot_toks,os⟩=some s'.abs:=by
  unfold topFrom
  dsimp only
  rw[z1,z2,z3,r]
  show (match staticsOk (importedModules p.main.body) (boot_heap w.params) s'.abs.heap && namesBound p s'.abs.heap && gensDone s'.abs && laidKept (boot_heap w.params) s'.abs.heap with | true=>_ | false=>_)=_
  rw[l1]
 unfold openEnds
 rw[e1]
 show (topFrom treeTable p w N _).map _=_
 rw[t]
 exact congrArg some (Prod.ext l2 l3)
end HD
namespace HD
open PySem PySem.W
theorem ZpJ: @stepOk= @PySem.W.Fast.tw6613529449190102663:=PySem.W.Fast.te6613529449190102663
theorem Zln: @stepT= @PySem.W.Fast.tw10156331382660048174:=PySem.W.Fast.te10156331382660048174
theorem Znv: @denote= @PySem.W.Fast.tw11892475500146522536:=PySem.W.Fast.te11892475500146522536
theorem Znw: @treeTable= @PySem.W.Fast.tw14364793385576792824:=PySem.W.Fast.te14364793385576792824
theorem Zlo: @openSeen= @PySem.W.Fast.tw4187177175401517315:=PySem.W.Fast.te4187177175401517315
theorem Znx: @importedModules= @PySem.W.Fast.tw5923862056798008813:=PySem.W.Fast.te5923862056798008813
end HD
end
section
namespace DL
open PySem PySem.Spec PyProof.Rows L2
noncomputable def wO {β:Type} (o:Out β) (Q:β->Sto->Prop) (E:Str->Sto->Prop):Prop:=match o with
 | .ok a M=>Q a M
 | .exc c M=>E c M
 | .bad=>False
noncomputable def wS (f:Fl) (N:Ro->Sto->Prop) (R:D->Sto->Prop) (B C:Ro->Sto->Prop) (E:Str->Sto->Prop):Prop:=match f with
 | .nx ρ M=>N ρ M
 | .ret d M=>R d M
 | .brk ρ M=>B ρ M
 | .cnt ρ M=>C ρ M
 | .exc c M=>E c M
 | .bad=>False
noncomputable def Br (k:Bool) (A B:Prop):Prop:=(k=true->A)/\(k=false->B)
noncomputable def wG {β:Type} (o:Option β) (N:β->Prop):Prop:=match o with | some ρ=>N ρ | none=>False
noncomputable def wV (o:Option (Option D)) (Q:D->Prop):Prop:=match o with | some (some d)=>Q d | _=>False
noncomputable def wI (x:D) (Q:Int->Prop):Prop:=match x with | .int i=>Q i | _=>False
noncomputable def wB (x:D) (Q:Bool->Prop):Prop:=match x with | .bl i=>Q i | _=>False
noncomputable def wR (x:D) (Q:Nat->Prop):Prop:=match x with | .ref i=>Q i | _=>False
noncomputable def w1 (x:List D) (Q:D->Prop):Prop:=match x with | [v]=>Q v | _=>False
noncomputable def w2 (x:List D) (Q:D->D->Prop):Prop:=match x with | [v,w]=>Q v w | _=>False
noncomputable def wL (o:Option SO) (Q:List D->Prop):Prop:=match o with | some (.lst xs)=>Q xs | none=>False
section
variable {β:Type} {o o':Option (Option D)} {x x':D} {Q:D->Prop} {QI:Int->Prop} {QB:Bool->Prop} {QR:Nat->Prop} {QL:List D->Prop} {l l':Option SO} {d:D} {i:Int} {k:Bool} {n:Nat} {xs:List D} {g g':Option β} {QG:β->Prop} {y:β}
theorem ZsF:w1 [d] Q=Q d:=rfl
theorem ZsG {Q2:D->D->Prop}:w2 [d,x] Q2=Q2 d x:=rfl
theorem ZsH:wV (some (some d)) Q=Q d:=rfl
theorem ZsI:wI (.int i) QI=QI i:=rfl
theorem ZsJ:wB (.bl k) QB=QB k:=rfl
theorem ZsK:wR (.ref n) QR=QR n:=rfl
theorem ZsL:wL (some (.lst xs)) QL=QL xs:=rfl
theorem ZsM:wG (some y) QG=QG y:=rfl
end
section
variable {β:Type} {Q:β->Sto->Prop} {E:Str->Sto->Prop} {N B C:Ro->Sto->Prop} {R:D->Sto->Prop} {ρ:Ro} {M:Sto} {A A':Prop}
theorem Zm {d:β}:wO (.ok d M) Q E=Q d M:=rfl
theorem Zny {c:Str}:wO (.exc c M:Out β) Q E=E c M:=rfl
theorem ZpK:Br true A A'=A:=by simp[Br]
theorem Zrp:Br false A A'=A':=by simp[Br]
theorem br {k:Bool} (h1:k=true->A) (h2:k=false->A'):Br k A A':=⟨h1,h2⟩
theorem brD {p:Prop} [Decidable p] (h1:p->A) (h2: ¬ p->A'):Br (decide p) A A':=⟨fun h=>h1 (of_decide_eq_true h),fun h=>h2 (of_decide_eq_false h)⟩
theorem Zd2 {o:Out β} {Q':β->Sto->Prop} {E':Str->Sto->Prop} (h:wO o Q E) (hq: ∀ d M,Q d M->Q' d M) (he: ∀ c M,E c M->E' c M):wO o Q' E':=by
 cases o with
 |ok d M=>exact hq d M h
 |exc c M=>exact he c M h
 |bad=>exact h
theorem Znz {o:Out β} (h:wO o Q (fun _ _=>False)): ∃ d M',o= .ok d M'/\Q d M':=by
 cases o with
 |ok d M=>exact ⟨d,M,rfl,h⟩
 |exc c M=>exact h.elim
 |bad=>exact h.elim
theorem Zx {γ:Type} {o:Out γ} {f:γ->Sto->Out β}:wO (o.bind f) Q E=wO o (fun x M1=>wO (f x M1) Q E) E:=by cases o<;>rfl
end
section
variable {Q:D->Sto->Prop} {E:Str->Sto->Prop} {N B C:Ro->Sto->Prop} {R:D->Sto->Prop} {ρ:Ro} {M:Sto} {e f g:Ev} {fs:Av}
theorem ZpL {op:Bo}:wO (e2 op f g ρ M) Q E=wO (f ρ M) (fun x M1=>wO (g ρ M1) (fun y M2=>wO (op x y M2) Q E) E) E:=by
 unfold e2
 rw[Zx]
 congr 1
 funext x M1
 rw[Zx]
theorem ZsN {i:Nat}:wO (Zf i ρ M) Q E=wV ρ[i]? (fun d=>Q d M):=by
 unfold Zf
 cases ρ[i]? with
 |none=>rfl
 |some o=>cases o<;>rfl
theorem Zlp {F:List D->Sto->Out D}:wO (Zk F fs ρ M) Q E=wO (fs ρ M) (fun ds M1=>wO (F ds M1) Q E) E:=Zx
theorem Zlq {Q:List D->Sto->Prop}:wO (Zc f fs ρ M) Q E=wO (f ρ M) (fun x M1=>wO (fs ρ M1) (fun xs M2=>Q (x :: xs) M2) E) E:=by
 unfold Zc
 rw[Zx]
 congr 1
 funext x M1
 rw[Zx]
 congr 1
theorem ZnA:wO (Z3 fs ρ M) Q E=wO (fs ρ M) (fun xs M1=>xs.length<=1000/\Q (.tup xs) M1) E:=by
 unfold Z3
 rw[Zx]
 congr 1
 funext x M1
 by_cases h:x.length<=1000
 ·rw[if_pos h];simp[h,wO]
 ·rw[if_neg h];simp[h,wO]
theorem ZnB:wO (ZaD fs ρ M) Q E=wO (fs ρ M) (fun xs M1=>xs.length<=1000/\Q (.ref M1.length) (M1 ++ [.lst xs])) E:=by
 unfold ZaD
 rw[Zx]
 congr 1
 funext x M1
 by_cases h:x.length<=1000
 ·rw[if_pos h];simp[h,wO]
 ·rw[if_neg h];simp[h,wO]
variable {t u:Tv}
theorem ZnC {Q:Bool->Sto->Prop}:wO (ZaL t ρ M) Q E=wO (t ρ M) (fun k M1=>Q (!k) M1) E:=by
 unfold ZaL
 rw[Zx]
 congr 1
variable {a b:Sv}
theorem ZnD:wS (ZB a b ρ M) N R B C E=wS (a ρ M) (fun ρ1 M1=>wS (b ρ1 M1) N R B C E) R B C E:=by
 unfold ZB
 cases a ρ M<;>rfl
theorem Z8 {β:Type} {o:Out β} {k:β->Sto->Fl}:wS (Z0 o k) N R B C E=wO o (fun x M1=>wS (k x M1) N R B C E) E:=by cases o<;>rfl
theorem ZnE:wS (ZW f ρ M) N R B C E=wO (f ρ M) R E:=Z8
theorem Zlr:wS (Zdv f ρ M) N R B C E=wO (f ρ M) (fun _ M1=>N ρ M1) E:=Z8
theorem ZnF {i:Nat}:wS (ZO (gNm i) f ρ M) N R B C E=wO (f ρ M) (fun d M1=>N (ρ.set i (some d)) M1) E:=Z8
theorem Zls {gs:Tgs}:wS (ZO (gTp gs) f ρ M) N R B C E=wO (f ρ M) (fun d M1=>wG (gTp gs d ρ) (fun r=>N r M1)) E:=by
 unfold ZO
 rw[Z8]
 congr 1
 funext d M1
 cases gTp gs d ρ<;>rfl
theorem ZnG {i j:Nat}:wS (ZdC i j fs ρ M) N R B C E=wO (fs ρ M) (fun ds M1=>w2 ds fun v w=>N ((ρ.set i (some v)).set j (some w)) M1) E:=by
 unfold ZdC
 rw[Z8]
 congr 1
 funext ds M1
 rcases ds with _ | ⟨v,_ | ⟨w,_ | ⟨z,r⟩⟩⟩<;>rfl
theorem ZnH {fo fi:Ev}:wS (Ze8 fo fi f ρ M) N R B C E=wO (f ρ M) (fun d M1=>wO (fo ρ M1) (fun o M2=>wO (fi ρ M2) (fun i M3=>wR o fun n=>wI i fun k=>wL M3[n]? fun xs=>wG (ixN xs.length k) fun j=>N ρ (M3.set n (.lst (xs.set j d)))) E) E) E:=by
 unfold Ze8
 rw[Z8]
 congr 1
 funext d M1
 rw[Z8]
 congr 1
 funext o M2
 rw[Z8]
 congr 1
 funext i M3
 cases o<;>cases i<;>try rfl
 rename_i n k
 cases e:M3[n]? with
 |none=>simp only[e,wR,wI,wL,wS]
 |some s=>
  cases s with
  |lst xs=>
   cases e2:ixN xs.length k<;>simp only[e,e2,wR,wI,wL,wG,wS]
theorem Zjr {c:Str}:wS (ZfW c fs ρ M) N R B C E=wO (fs ρ M) (fun ds M1=>ds.length<=1000/\E c M1) E:=by
 unfold ZfW
 rw[Z8]
 congr 1
 funext ds M1
 by_cases h:ds.length<=1000
 ·rw[if_pos h];simp[h,wS]
 ·rw[if_neg h];simp[h,wS]
theorem wF {n k:Nat} {ds:List D} (hl:ds.length=n):wO (fnF a n k ds M) Q E=wS (a (ds.map some ++ List.replicate k none) M) (fun _ M1=>Q .non M1) Q (fun _ _=>False) (fun _ _=>False) E:=by
 unfold fnF
 rw[if_pos hl]
 cases a (ds.map some ++ List.replicate k none) M<;>rfl
theorem Zig {o:Fl} {N' B' C':Ro->Sto->Prop} {R':D->Sto->Prop} {E':Str->Sto->Prop} (h:wS o N R B C E) (hn: ∀ ρ M,N ρ M->N' ρ M) (hr: ∀ d M,R d M->R' d M) (hb: ∀ ρ M,B ρ M->B' ρ M) (hc: ∀ ρ M,C ρ M->C' ρ M) (he: ∀ c M,E c M->E' c M):wS o N' R' B' C' E':=by
 cases o with
 |nx ρ M=>exact hn _ _ h
 |ret ρ M=>exact hr _ _ h
 |brk ρ M=>exact hb _ _ h
 |cnt ρ M=>exact hc _ _ h
 |exc ρ M=>exact he _ _ h
 |bad=>exact h
variable {tg:Tg} {bd:Sv} {fi:Ro->Sto->Out Src}
theorem Zih (I:Nat->Ro->Sto->Prop): ∀ (xs:List D) (k:Nat) (ρ:Ro) (M:Sto),I k ρ M->(∀ i ρ M (h:i < xs.length),I (k + i) ρ M->wG (tg xs[i] ρ) fun r=>wS (bd r M) (I (k + i + 1)) R N (I (k + i + 1)) E)->(∀ ρ M,I (k + xs.length) ρ M->N ρ M)->wS (ZdR tg bd xs ρ M) N R B C E
 | [],k,ρ,M,h,_,hn=>hn ρ M h
 |x :: xs,k,ρ,M,h,st,hn=>by
  have s:=st 0 ρ M (by simp) h
  unfold ZdR
  simp only[List.getElem_cons_zero,Nat.add_zero] at s
  cases e:tg x ρ with
  |none=>rw[e] at s;exact s.elim
  |some ρ1=>
   rw[e] at s
   simp only[wG] at s
   have rc: ∀ ρ2 M2,I (k + 1) ρ2 M2->wS (ZdR tg bd xs ρ2 M2) N R B C E:=fun ρ2 M2 h2=>Zih I xs (k + 1) ρ2 M2 h2 (fun i ρ M hi hI=>by
    have z:=st (i + 1) ρ M (by simp;omega) (by rw[show k + (i + 1)=k + 1 + i by omega];exact hI)
    simp only[List.getElem_cons_succ] at z
    rw[show k + (i + 1) + 1=k + 1 + i + 1 by omega] at z
    exact z) (fun ρ M hI=>hn ρ M (by rw[show k + (x :: xs).length=k + 1 + xs.length by simp;omega];exact hI))
   cases eg:bd ρ1 M<;>rw[eg] at s<;>simp only[eg]
   ·exact rc _ _ s
   ·exact s
   ·exact s
   ·exact rc _ _ s
   ·exact s
   ·exact s
theorem Zlt:wS (Zbt tg fs bd ρ M) N R B C E=wO (fs ρ M) (fun ds M1=>w1 ds fun d=>wI d fun j=>(-(2 ^ 62)<=j/\j < 2 ^ 62)/\wS (ZdR tg bd (ZbG 0 j.toNat) ρ M1) N R B C E) E:=by
 unfold Zbt
 rw[Z8]
 congr 1
 funext ds M1
 rcases ds with _ | ⟨v,_ | ⟨w,r⟩⟩
 ·rfl
 ·cases v<;>try rfl
  rename_i j
  by_cases h: -(2 ^ 62)<=j/\j < 2 ^ 62
  ·simp only[w1,wI,eq_true h,true_and,if_true]
  ·simp only[w1,wI,eq_false h,false_and,if_false]
   rfl
 ·cases v<;>rfl
theorem ZcE (I:Nat->Ro->Sto->Prop) {n:Nat} {lo:Int} (h0:I 0 ρ M) (st: ∀ i ρ M,i < n->I i ρ M->wG (tg (.int (lo + i)) ρ) fun r=>wS (bd r M) (I (i + 1)) R N (I (i + 1)) E) (hn: ∀ ρ M,I n ρ M->N ρ M):wS (ZdR tg bd (ZbG lo n) ρ M) N R B C E:=by
 have hl:(ZbG lo n).length=n:=by simp[ZbG]
 refine Zih I _ 0 ρ M h0 (fun i ρ M h hI=> ?_) (fun ρ M hI=>hn ρ M (by rw[hl,Nat.zero_add] at hI;exact hI))
 have:(ZbG lo n)[i]= .int (lo + i):=by simp[ZbG]
 rw[this]
 rw[Nat.zero_add] at *
 exact st i ρ M (by rw[hl] at h;exact h) hI
theorem ZnI:wS (Zri tg f bd ρ M) N R B C E=wO (f ρ M) (fun d M1=>wS (ZmV tg bd d ρ M1) N R B C E) E:=Z8
theorem Zlu:wS (ZeJ tg fi bd ρ M) N R B C E=wO (fi ρ M) (fun src M1=>wS (ZfX tg bd src (cnt src M1) 0 ρ M1) N R B C E) E:=Z8
theorem ZnJ (I:Nat->Ro->Sto->Prop) {src:Src} {xs:List D}: ∀ (f i:Nat) (ρ:Ro) (M:Sto),i<=xs.length->xs.length<=i + f->I i ρ M->(∀ i ρ M,i<=xs.length->I i ρ M->nxt src i M=some xs[i]?)->(∀ i ρ M (h:i < xs.length),I i ρ M->wG (tg xs[i] ρ) fun r=>wS (bd r M) (I (i + 1)) R N (I (i + 1)) E)->(∀ ρ M,I xs.length ρ M->N ρ M)->wS (ZfX tg bd src f i ρ M) N R B C E:=by
  intro f
  induction f with
  |zero=>
   intro i ρ M le e h hm st hn
   have hx:=hm _ _ _ le h
   unfold ZfX
   rw[hx]
   have hi: ¬ i < xs.length:=by omega
   have:xs[i]?=none:=List.getElem?_eq_none (by omega)
   simp only[this]
   exact hn ρ M (by rw[show xs.length=i by omega];exact h)
  |succ f ih=>
   intro i ρ M le e h hm st hn
   have hx:=hm _ _ _ le h
   unfold ZfX
   rw[hx]
   by_cases hi:i < xs.length
   ·have:xs[i]?=some xs[i]:=List.getElem?_eq_getElem hi
    simp only[this]
    have s:=st i ρ M hi h
    cases e:tg xs[i] ρ with
    |none=>rw[e] at s;exact s.elim
    |some ρ1=>
     rw[e] at s
     simp only[wG] at s
     have rc: ∀ ρ2 M2,I (i + 1) ρ2 M2->wS (ZfX tg bd src f (i + 1) ρ2 M2) N R B C E:=fun ρ2 M2 h2=>ih (i + 1) ρ2 M2 (by omega) (by omega) h2 hm st hn
     cases eg:bd ρ1 M<;>rw[eg] at s<;>simp only[eg]
     ·exact rc _ _ s
     ·exact s
     ·exact s
     ·exact rc _ _ s
     ·exact s
     ·exact s
   ·have:xs[i]?=none:=List.getElem?_eq_none (by omega)
    simp only[this]
    exact hn ρ M (by rw[show xs.length=i by omega];exact h)
theorem Zjs {c:Tv} (I:Nat->Ro->Sto->Prop) (st: ∀ n ρ M,I n ρ M->wO (c ρ M) (fun k M1=>Br k (wS (bd ρ M1) (fun ρ2 M2=> ∃ m,m < n/\I m ρ2 M2) R N (fun ρ2 M2=> ∃ m,m < n/\I m ρ2 M2) E) (N ρ M1)) E): ∀ (n:Nat) (ρ:Ro) (M:Sto),I n ρ M->wS (sWh c bd ρ M) N R B C E:=by
 intro n
 induction n using Nat.strongRecOn with
 |ind n ih=>
  intro ρ M h
  have s:=st n ρ M h
  cases ec:c ρ M with
  |bad=>rw[ec] at s;exact s.elim
  |exc x M1=>rw[ec] at s;rw[ZcC (n:=1) (o:= .exc x M1) (by simp only[whN,ec])];exact s
  |ok k M1=>
   rw[ec] at s
   cases k with
   |false=>
    rw[Zm,Zrp] at s
    rw[ZeC ec]
    exact s
   |true=>
    rw[Zm,ZpK] at s
    cases eg:bd ρ M1 with
    |nx ρ2 M2=>
     rw[eg] at s
     obtain ⟨m,hm,hI⟩:=s
     have r:=ih m hm ρ2 M2 hI
     rw[ZfN ec eg (by intro z;rw[z] at r;exact r)]
     exact r
    |cnt ρ2 M2=>
     rw[eg] at s
     obtain ⟨m,hm,hI⟩:=s
     have r:=ih m hm ρ2 M2 hI
     have nb:sWh c bd ρ2 M2≠ .bad:=by intro z;rw[z] at r;exact r
     obtain ⟨j,ej⟩:=ZhL nb
     rw[ZcC (n:=j + 1) (o:=sWh c bd ρ2 M2) (by simp only[whN,ec,eg];exact ej)]
     exact r
    |brk ρ2 M2=>rw[eg] at s;rw[ZcC (n:=1) (o:= .nx ρ2 M2) (by simp only[whN,ec,eg])];exact s
    |ret d M2=>rw[eg] at s;rw[ZcC (n:=1) (o:= .ret d M2) (by simp only[whN,ec,eg])];exact s
    |exc d M2=>rw[eg] at s;rw[ZcC (n:=1) (o:= .exc d M2) (by simp only[whN,ec,eg])];exact s
    |bad=>rw[eg] at s;exact s.elim
theorem Zlv {fi:Ro->Sto->Out Src} {k:Nat} {fr:List Nat} {c:Tv}:wO (ZbN fi k fr tg c f ρ M) Q E=wO (fi ρ M) (fun src M1=>wO (ZcD src tg c f M1.length (cnt src M1) 0 (roB k fr ρ) (M1 ++ [.lst []])) (fun _ M2=>Q (.ref M1.length) M2) (fun _ _=>False)) E:=by
 unfold ZbN
 rw[Zx]
 congr 1
 funext src M1
 cases ZcD src tg c f M1.length (cnt src M1) 0 (roB k fr ρ) (M1 ++ [.lst []])<;>rfl
theorem Zkd (I:Nat->Ro->Sto->Prop) {src:Src} {xs:List D} {c:Tv} {m:Nat} {Q:Sto->Prop}: ∀ (fu i:Nat) (ρ:Ro) (M:Sto),i<=xs.length->xs.length<=i + fu->I i ρ M->(∀ i ρ M,i<=xs.length->I i ρ M->nxt src i M=some xs[i]?)->
  (∀ i ρ M (h:i < xs.length),I i ρ M->wG (tg xs[i] ρ) fun r=>wO (c r M) (fun k M1=>Br k (wO (f r M1) (fun y M2=>wL M2[m]? fun ys=>ys.length < 10000000/\I (i + 1) r (M2.set m (.lst (ys ++ [y])))) (fun _ _=>False)) (I (i + 1) r M1)) (fun _ _=>False))->
  (∀ ρ M,I xs.length ρ M->Q M)->wO (ZcD src tg c f m fu i ρ M) (fun _ M2=>Q M2) (fun _ _=>False):=by
  intro fu
  induction fu with
  |zero=>
   intro i ρ M le e h hm st hn
   have hx:=hm _ _ _ le h
   unfold ZcD
   rw[hx]
   have hi: ¬ i < xs.length:=by omega
   have:xs[i]?=none:=List.getElem?_eq_none (by omega)
   simp only[this]
   exact hn ρ M (by rw[show xs.length=i by omega];exact h)
  |succ fu ih=>
   intro i ρ M le e h hm st hn
   have hx:=hm _ _ _ le h
   unfold ZcD
   rw[hx]
   by_cases hi:i < xs.length
   ·have:xs[i]?=some xs[i]:=List.getElem?_eq_getElem hi
    simp only[this]
    have s:=st i ρ M hi h
    cases e:tg xs[i] ρ with
    |none=>rw[e] at s;exact s.elim
    |some ρ1=>
     rw[e] at s
     simp only[wG] at s
     have rc: ∀ ρ2 M2,I (i + 1) ρ2 M2->wO (ZcD src tg c f m fu (i + 1) ρ2 M2) (fun _ M2=>Q M2) (fun _ _=>False):=fun ρ2 M2 h2=>ih (i + 1) ρ2 M2 (by omega) (by omega) h2 hm st hn
     cases ec:c ρ1 M with
     |bad=>rw[ec] at s;exact s.elim
     |exc _ _=>rw[ec] at s;exact s.elim
     |ok k M1=>
      rw[ec] at s
      rw[Zm] at s
      cases k with
      |false=>
       rw[Zrp] at s
       simp only[ec]
       exact rc _ _ s
      |true=>
       rw[ZpK] at s
       simp only[ec]
       cases ef:f ρ1 M1 with
       |bad=>rw[ef] at s;exact s.elim
       |exc _ _=>rw[ef] at s;exact s.elim
       |ok y M2=>
        rw[ef,Zm] at s
        simp only[ef]
        cases ey:M2[m]? with
        |none=>rw[ey] at s;exact s.elim
        |some o=>
         cases o with
         |lst ys=>
          rw[ey] at s
          simp only[wL,ey] at s ⊢
          rw[if_pos s.1]
          exact rc _ _ s.2
   ·have:xs[i]?=none:=List.getElem?_eq_none (by omega)
    simp only[this]
    exact hn ρ M (by rw[show xs.length=i by omega];exact h)
end
end DL
end
section
namespace DL
open PySem PySem.Spec PyProof.Rows L2
section
variable {Q:D->Sto->Prop} {E:Str->Sto->Prop} {N B C:Ro->Sto->Prop} {R:D->Sto->Prop} {ρ:Ro} {M:Sto} {f:Ev} {fs:Av} {i j:Int} {n m k:Nat} {x y d:D} {xs ys ds:List D} {lo hi:Ro->Sto->Out (Option Int)}
theorem ZeN (h: -(18446744073709551616) < i/\i < 18446744073709551616):ZI i j:=Zda h.1 h.2
theorem Zd3 (h: -(18446744073709551616) < j/\j < 18446744073709551616):ZI i j:=Za8 h.1 h.2
theorem ZcF (h:0 < j/\j < 18446744073709551616):Za0 j:=by
 refine ⟨by omega,?_⟩
 have:j.natAbs.log2 < 64:=(Nat.log2_lt (by omega)).mpr (by omega)
 omega
theorem ZpM:wO (dAdd (.int i) (.int j) M) Q E=Q (.int (i + j)) M:=rfl
theorem ZpN:wO (dSub (.int i) (.int j) M) Q E=Q (.int (i - j)) M:=rfl
theorem Zke (h:ZI i j):wO (dMul (.int i) (.int j) M) Q E=Q (.int (i * j)) M:=by
 show wO (if ZI i j then _ else _) Q E=_
 rw[if_pos h];rfl
theorem ZpO (h: -(18446744073709551616) < i/\i < 18446744073709551616):wO (dMul (.int i) (.int j) M) Q E=Q (.int (i * j)) M:=Zke (ZeN h)
theorem ZnK (h: -(18446744073709551616) < j/\j < 18446744073709551616):wO (dMul (.int i) (.int j) M) Q E=Q (.int (i * j)) M:=Zke (Zd3 h)
theorem ZpP (h:0 < j/\j < 18446744073709551616):wO (dDiv (.int i) (.int j) M) Q E=Q (.int (i / j)) M:=by
 show wO (if Za0 j then _ else _) Q E=_
 rw[if_pos (ZcF h),Int.fdiv_eq_ediv_of_nonneg _ (by omega)];rfl
theorem ZpQ (h:0 < j):wO (dMod (.int i) (.int j) M) Q E=Q (.int (i % j)) M:=by
 show wO (if j≠0 then _ else _) Q E=_
 rw[if_pos (by omega),Int.fmod_eq_emod_of_nonneg _ (by omega)];rfl
theorem ZpR (h:0<=j/\j<=1000000/\i.natAbs < 18446744073709551616):wO (dPow (.int i) (.int j) M) Q E=Q (.int (i ^ j.toNat)) M:=by
 show wO (if 0<=j/\j<=1000000/\i.natAbs < 2 ^ 64 then _ else _) Q E=_
 rw[if_pos ⟨h.1,h.2.1,by omega⟩];rfl
theorem ZsO:wO (dLt (.int i) (.int j) M) Q E=Q (.bl (decide (i < j))) M:=rfl
theorem ZsP:wO (dLe (.int i) (.int j) M) Q E=Q (.bl (decide (i<=j))) M:=rfl
theorem ZsQ:wO (dGt (.int i) (.int j) M) Q E=Q (.bl (decide (j < i))) M:=rfl
theorem ZsR:wO (dGe (.int i) (.int j) M) Q E=Q (.bl (decide (j<=i))) M:=rfl
theorem ZpS:wO (dAdd (.ref n) (.ref m) M) Q E=wL M[n]? fun xs=>wL M[m]? fun ys=>xs.length + ys.length<=10000000/\Q (.ref M.length) (M ++ [.lst (xs ++ ys)]):=by
 show wO (match M[n]?,M[m]? with | some (.lst xs),some (.lst ys)=>_ | _,_=>_) Q E=_
 cases e1:M[n]? with
 |none=>rfl
 |some o=>
  cases o with
  |lst xs=>
   cases e2:M[m]? with
   |none=>rfl
   |some p=>
    cases p with
    |lst ys=>
     by_cases h:xs.length + ys.length<=10000000
     ·simp[wL,h,wO]
     ·simp[wL,h,wO]
theorem ZnL (h:xs.length + ys.length<=100000/\xs≠[]):wO (dAdd (.tup xs) (.tup ys) M) Q E=Q (.tup (xs ++ ys)) M:=by
 show wO (if xs.length + ys.length<=100000/\xs≠[] then _ else _) Q E=_
 rw[if_pos h];rfl
theorem ZsS:wO (dEq x y M) Q E=wG (eqF 12 M x y) fun b=>Q (.bl b) M:=by
 show wO (match eqF 12 M x y with | some b=>_ | none=>_) Q E=_
 cases eqF 12 M x y<;>rfl
theorem ZsT:wO (dNe x y M) Q E=wG (eqF 12 M x y) fun b=>Q (.bl (!b)) M:=by
 show wO (match eqF 12 M x y with | some b=>_ | none=>_) Q E=_
 cases eqF 12 M x y<;>rfl
theorem ZsU:wO (dIs x y M) Q E=wG (isP x y) fun b=>Q (.bl b) M:=by
 show wO (match isP x y with | some b=>_ | none=>_) Q E=_
 cases isP x y<;>rfl
theorem ZpT:wO (dIsNot x y M) Q E=wG (isP x y) fun b=>Q (.bl (!b)) M:=by
 show wO (match isP x y with | some b=>_ | none=>_) Q E=_
 cases isP x y<;>rfl
theorem Zlw:wO (atD xs i M) Q E=wG (atI xs i) fun d=>Q d M:=by
 unfold atD
 cases atI xs i<;>rfl
theorem ZpU:wO (dIx (.tup xs) (.int i) M) Q E=wG (atI xs i) fun d=>Q d M:=Zlw
theorem ZpV:wO (dIx (.rol xs) (.int i) M) Q E=wG (atI xs i) fun d=>Q d M:=Zlw
theorem ZpW:wO (dIx (.ref n) (.int i) M) Q E=wL M[n]? fun xs=>wG (atI xs i) fun d=>Q d M:=by
 show wO (match M[n]? with | some (.lst xs)=>atD xs i M | _=> .bad) Q E=_
 cases e1:M[n]? with
 |none=>rfl
 |some o=>cases o with | lst xs=>exact Zlw
theorem ZnM:wO (bLen [.ref n] M) Q E=wL M[n]? fun xs=>Q (.int xs.length) M:=by
 show wO (match (match M[n]? with | some (.lst xs)=>some xs | _=>none) with | some xs=>_ | none=>_) Q E=_
 cases e1:M[n]? with
 |none=>rfl
 |some o=>cases o with | lst xs=>rfl
theorem ZnN:wO (bLen [.tup xs] M) Q E=Q (.int xs.length) M:=rfl
theorem ZnO:wO (bLen [.rol xs] M) Q E=Q (.int xs.length) M:=rfl
theorem ZpX:wO (bAbs [.int i] M) Q E=Q (.int (i.natAbs:Int)) M:=by rw[<- Zid];rfl
theorem ZpY:wO (bMax [.int i,.int j] M) Q E=Q (.int (max i j)) M:=by
 have:max i j=if j > i then j else i:=by split<;>omega
 rw[this];rfl
theorem ZpZ:wO (bMin [.int i,.int j] M) Q E=Q (.int (min i j)) M:=by
 have:min i j=if j < i then j else i:=by split<;>omega
 rw[this];rfl
theorem ZnP {k:Bool}:wO (bInt [.bl k] M) Q E=Q (.int (if k then 1 else 0)) M:=rfl
theorem ZnQ:wO (bInt [.int i] M) Q E=Q (.int i) M:=rfl
theorem Zlx:wO (bList [.ref n] M) Q E=wL M[n]? fun xs=>Q (.ref M.length) (M ++ [.lst xs]):=by
 show wO (match (match M[n]? with | some (.lst xs)=>some xs | _=>none) with | some xs=>_ | none=>_) Q E=_
 cases e1:M[n]? with
 |none=>rfl
 |some o=>cases o with | lst xs=>rfl
theorem Zly:wO (bList [.tup xs] M) Q E=Q (.ref M.length) (M ++ [.lst xs]):=rfl
theorem Zp0:wO (bAll [.ref n] M) Q E=wL M[n]? fun xs=>wG (ZaM xs) fun bs=>Q (.bl (bs.all id)) M:=by
 show wO (match M[n]? with | some (.lst xs)=>(match ZaM xs with | some bs=>Out.ok (.bl (bs.all id)) M | none=> .bad) | none=> .bad) Q E=_
 cases e1:M[n]? with
 |none=>rfl
 |some o=>
  cases o with
  |lst xs=>
   show wO (match ZaM xs with | some bs=>Out.ok (.bl (bs.all id)) M | none=> .bad) Q E=wG (ZaM xs) _
   cases ZaM xs<;>rfl
theorem ZnR {g:List Int->Option Int}:wO (Zng g [.ref n] M) Q E=wL M[n]? fun xs=>wG (ZeL xs) fun ns=>wG (g ns) fun i=>Q (.int i) M:=by
 show wO (match (match M[n]? with | some (.lst xs)=>some xs | _=>none) with | some xs=>(match ZeL xs with | some ns=>(match g ns with | some i=>Out.ok (.int i) M | none=> .bad) | none=> .bad) | none=> .bad) Q E=_
 cases e1:M[n]? with
 |none=>rfl
 |some o=>
  cases o with
  |lst xs=>
   show wO (match ZeL xs with | some ns=>(match g ns with | some i=>Out.ok (.int i) M | none=> .bad) | none=> .bad) Q E=wG (ZeL xs) _
   cases ZeL xs with
   |none=>rfl
   |some ns=>
    show wO (match g ns with | some i=>Out.ok (.int i) M | none=> .bad) Q E=wG (g ns) _
    cases g ns<;>rfl
theorem ZsV {g:Me} {fo:Ev}:wO (ZpC g fo fs ρ M) Q E=wO (fo ρ M) (fun x M1=>Zne x M1=true/\wO (fs ρ M1) (fun ds M2=>wO (g x ds M2) Q E) E) E:=by
 unfold ZpC
 rw[Zx]
 congr 1
 funext x M1
 by_cases h:Zne x M1=true
 ·simp only[h,if_true,true_and];rw[Zx]
 ·simp[h,wO]
theorem ZnS:Zne (.ref n) M=M[n]?.isSome:=rfl
theorem Zp1:wO (Zrl (.ref n) [d] M) Q E=wL M[n]? fun xs=>xs.length < 10000000/\Q .non (M.set n (.lst (xs ++ [d]))):=by
 show wO (match M[n]? with | some (.lst xs)=>if xs.length < 10000000 then _ else _ | none=>_) Q E=_
 cases e1:M[n]? with
 |none=>rfl
 |some o=>
  cases o with
  |lst xs=>
   by_cases h:xs.length < 10000000
   ·simp[wL,h,wO]
   ·simp[wL,h,wO]
theorem Zp2:wO (Zrm (.ref n) [] M) Q E=wL M[n]? fun xs=>Q .non (M.set n (.lst [])):=by
 show wO (match M[n]? with | some (.lst xs)=>_ | none=>_) Q E=_
 cases e1:M[n]? with
 |none=>rfl
 |some o=>cases o with | lst xs=>rfl
theorem Zp3:wO (Zrn (.ref n) [.ref m] M) Q E=wL M[n]? fun xs=>wL M[m]? fun ys=>xs.length + ys.length<=10000000/\Q .non (M.set n (.lst (xs ++ ys))):=by
 show wO (match M[n]?,M[m]? with | some (.lst xs),some (.lst ys)=>if xs.length + ys.length<=10000000 then _ else _ | _,_=>_) Q E=_
 cases e1:M[n]? with
 |none=>rfl
 |some o=>
  cases o with
  |lst xs=>
   cases e2:M[m]? with
   |none=>rfl
   |some p=>
    cases p with
    |lst ys=>
     by_cases h:xs.length + ys.length<=10000000
     ·simp[wL,h,wO]
     ·simp[wL,h,wO]
noncomputable def slR (x:D) (l u:Option Int) (M3:Sto):Out D:=match x with
 | .ref n=>(match M3[n]? with | some (.lst xs)=> .ok (.ref M3.length) (M3 ++ [.lst (Zej xs l u)]) | none=> .bad)
 | .rol xs=> .ok (.ref M3.length) (M3 ++ [.lst (Zej xs l u)])
 | .tup xs=>if HT.sIx xs.length 0 l=0/\HT.sIx xs.length xs.length u=xs.length then .bad else .ok (.tup (Zej xs l u)) M3
 |_=> .bad
theorem Zp4:wO (eSl f lo hi ρ M) Q E=wO (f ρ M) (fun x M1=>wO (lo ρ M1) (fun l M2=>wO (hi ρ M2) (fun u M3=>wO (slR x l u M3) Q E) E) E) E:=by
 unfold eSl
 rw[Zx]
 congr 1
 funext x M1
 rw[Zx]
 congr 1
 funext l M2
 rw[Zx]
 congr 1
theorem Zp5 {l u:Option Int}:wO (slR (.ref n) l u M) Q E=wL M[n]? fun xs=>Q (.ref M.length) (M ++ [.lst (Zej xs l u)]):=by
 unfold slR
 cases e1:M[n]? with
 |none=>simp only[e1];rfl
 |some o=>cases o with | lst xs=>simp only[e1];rfl
theorem Zp6 {Q:Option Int->Sto->Prop}:wO (oSo f ρ M) Q E=wO (f ρ M) (fun x M1=>wI x fun i=>Q (some i) M1) E:=by
 unfold oSo
 rw[Zx]
 congr 1
 funext x M1
 cases x<;>rfl
theorem ZnT (h:0<=i):Zej xs none (some i)=xs.take i.toNat:=by
 unfold Zej
 simp only[HT.sIx]
 rw[if_neg (by omega),List.drop_zero,Nat.sub_zero]
 by_cases c:i.toNat<=xs.length
 ·rw[Nat.min_eq_left c]
 ·rw[Nat.min_eq_right (by omega),List.take_of_length_le (Nat.le_refl _),List.take_of_length_le (by omega)]
theorem Zjt (h:0<=i):Zej xs (some i) none=xs.drop i.toNat:=by
 unfold Zej
 simp only[HT.sIx]
 rw[if_neg (by omega)]
 by_cases c:i.toNat<=xs.length
 ·rw[Nat.min_eq_left c,List.take_of_length_le (by simp)]
 ·rw[Nat.min_eq_right (by omega),List.drop_eq_nil_of_le (Nat.le_refl _),List.drop_eq_nil_of_le (by omega),List.take_nil]
theorem ZgA {L:Sto}:(M ++ L)[M.length]?=L[0]?:=by rw[List.getElem?_append_right (Nat.le_refl _),Nat.sub_self]
theorem Zd4 {L:Sto} {i:Nat}:(M ++ L)[M.length + i]?=L[i]?:=by rw[List.getElem?_append_right (by omega)];congr 1;omega
theorem ZbP {L:Sto} (h:n < M.length):(M ++ L)[n]?=M[n]?:=List.getElem?_append_left h
theorem Zkf {L:Sto} {o:SO}:(M ++ L).set M.length o=M ++ L.set 0 o:=by rw[List.set_append_right _ _ (Nat.le_refl _),Nat.sub_self]
theorem Zp7 {L:Sto} {o:SO} {i:Nat}:(M ++ L).set (M.length + i) o=M ++ L.set i o:=by rw[List.set_append_right _ _ (by omega)];congr 2;omega
theorem ZnU {o:SO} (h:k≠n):(M.set n o)[k]?=M[k]?:=List.getElem?_set_ne (Ne.symm h)
theorem ZnV {o:SO} (h:n < M.length):(M.set n o)[n]?=some o:=List.getElem?_set_self h
theorem Zaa {o:SO} (h:M[n]?=some o):n < M.length:=(List.getElem?_eq_some_iff.mp h).1
noncomputable abbrev pr (x y:Int):D:= .tup [.int x,.int y]
noncomputable def prs (rs:List (Int × Int)):List D:=rs.map fun p=>pr p.1 p.2
noncomputable def nts (ns:List Int):List D:=ns.map D.int
theorem Zv {rs:List (Int × Int)}:(prs rs).length=rs.length:=List.length_map _
theorem Zlz {rs:List Int}:(nts rs).length=rs.length:=List.length_map _
theorem ZlA {a b:List (Int × Int)}:prs a ++ prs b=prs (a ++ b):=(List.map_append).symm
theorem ZlB {a b:List Int}:nts a ++ nts b=nts (a ++ b):=(List.map_append).symm
theorem Zju {a:List (Int × Int)}:(prs a).take n=prs (a.take n):=List.map_take.symm
theorem Zjv {a:List (Int × Int)}:(prs a).drop n=prs (a.drop n):=List.map_drop.symm
theorem Zjw {a:List Int}:(nts a).take n=nts (a.take n):=List.map_take.symm
theorem Zjx {a:List Int}:(nts a).drop n=nts (a.drop n):=List.map_drop.symm
theorem Zjy {a b:Int} {r:List (Int × Int)}:pr a b :: prs r=prs ((a,b) :: r):=rfl
theorem ZlC {a:List (Int × Int)} {b c:Int}:(prs a).set n (pr b c)=prs (a.set n (b,c)):=by unfold prs;rw[List.map_set]
theorem ZlD {a:List Int} {b:Int}:(nts a).set n (.int b)=nts (a.set n b):=by unfold nts;rw[List.map_set]
noncomputable def cy (rs:List (Int × Int)) (i:Int):Int × Int:=rs.getD (i % rs.length).toNat (0,0)
noncomputable def cn (rs:List Int) (i:Int):Int:=rs.getD (i % rs.length).toNat 0
theorem Zkg {i:Int} {n:Nat} (h: -(n:Int)<=i/\i < n):ixN n i=some (i % n).toNat:=by
 unfold ixN
 by_cases c:0<=i
 ·rw[if_pos c,if_pos h.2,Int.emod_eq_of_lt c h.2]
 ·rw[if_neg c,if_pos h.1]
  have:i % n=i + n:=by
   rw[<- Int.add_emod_right,Int.emod_eq_of_lt (by omega) (by omega)]
  rw[this]
theorem Zbu {rs:List (Int × Int)} (h: -(rs.length:Int)<=i/\i < rs.length):atI (prs rs) i=some (pr (cy rs i).1 (cy rs i).2):=by
 unfold atI
 rw[Zv,Zkg h]
 have hp:(i % rs.length).toNat < rs.length:=by
  have:=Int.emod_lt_of_pos i (show (0:Int) < rs.length by omega)
  have:=Int.emod_nonneg i (show (rs.length:Int)≠0 by omega)
  omega
 simp[prs,cy,List.getElem?_eq_getElem hp]
theorem ZcG {rs:List (Int × Int)}:cy rs (i % rs.length)=cy rs i:=by unfold cy;rw[Int.emod_emod_of_dvd _ (Int.dvd_refl _)]
theorem Zf6 {rs:List (Int × Int)}:cy rs (i + rs.length)=cy rs i:=by unfold cy;rw[Int.add_emod_right]
theorem ZeO {rs:List (Int × Int)}:cy rs (i - rs.length)=cy rs i:=by unfold cy;rw[Int.sub_emod_right]
theorem Zii {rs:List (Int × Int)} {k:Nat} (h:k < rs.length):cy rs k=rs[k]:=by
 unfold cy
 rw[Int.emod_eq_of_lt (by omega) (by omega)]
 simp[List.getElem?_eq_getElem h]
theorem Zfi {a b:Int}:eqF (n + 1) M (.int a) (.int b)=some (decide (a=b)):=rfl
theorem ZsW {a b:Bool}:eqF (n + 1) M (.bl a) (.bl b)=some (a == b):=rfl
theorem ZsX {a b c d:Int}:eqF (n + 2) M (pr a b) (pr c d)=some (decide ((a,b)=(c,d))):=by
 show some ((a == c) && ((b == d) && true))=_
 congr 1
 rw[Bool.eq_iff_iff]
 simp
theorem Zp8 {xs ys:List D} (h1:M[n]?=some (.lst xs)) (h2:M[m]?=some (.lst ys)):eqF (k + 1) M (.ref n) (.ref m)=if xs.length=ys.length then eqL (eqF k M) xs ys else some false:=by
 show (match kd M (.ref n),kd M (.ref m) with | some a,some b=>eqK (eqF k M) a b | _,_=>none)=_
 have e1:kd M (.ref n)=some (.lst xs):=by show (match M[n]? with | some (.lst xs)=>some (Kd.lst xs) | _=>none)=_;rw[h1]
 have e2:kd M (.ref m)=some (.lst ys):=by show (match M[m]? with | some (.lst xs)=>some (Kd.lst xs) | _=>none)=_;rw[h2]
 rw[e1,e2]
 rfl
theorem ZnW:ZC M (.int i)=some "int":=rfl
theorem Zp9 {b:Bool}:ZC M (.bl b)=some "bool":=rfl
theorem ZnX:ZC M (.tup xs)=some "tuple":=rfl
theorem ZnY:ZC M .non=some "NoneType":=rfl
end
end DL
end
section
namespace DL
open PySem PySem.Spec PyProof.Rows L2
section
variable {Q:D->Sto->Prop} {E:Str->Sto->Prop} {N B C:Ro->Sto->Prop} {R:D->Sto->Prop} {ρ:Ro} {M:Sto} {f:Ev} {fs:Av} {i j:Int} {n m k:Nat} {x y z d:D} {xs ys ds:List D} {QS:Src->Sto->Prop} {tg:Tg} {bd:Sv} {b:Bool}
theorem ZlE:wS (ZhM tg fs bd ρ M) N R B C E=wO (fs ρ M) (fun ds M1=>w2 ds fun x y=>wI x fun i=>wI y fun j=>(-(2 ^ 62)<=i/\i < 2 ^ 62/\ -(2 ^ 62)<=j/\j < 2 ^ 62)/\wS (ZdR tg bd (ZbG i (j - i).toNat) ρ M1) N R B C E) E:=by
 unfold ZhM
 rw[Z8]
 congr 1
 funext ds M1
 rcases ds with _ | ⟨v,_ | ⟨w,_ | ⟨w',r⟩⟩⟩
 ·rfl
 ·cases v<;>rfl
 ·cases v<;>try rfl
  cases w<;>try rfl
  rename_i i j
  by_cases h: -(2 ^ 62)<=i/\i < 2 ^ 62/\ -(2 ^ 62)<=j/\j < 2 ^ 62
  ·simp only[w2,wI,eq_true h,true_and,if_true]
  ·simp only[w2,wI,eq_false h,false_and,if_false]
   rfl
 ·cases v<;>cases w<;>rfl
theorem ZsY:wO (iR1 fs ρ M) QS E=wO (fs ρ M) (fun ds M1=>w1 ds fun d=>wI d fun j=>(-(2 ^ 62)<=j/\j < 2 ^ 62)/\QS (.pur (ZbG 0 j.toNat)) M1) E:=by
 unfold iR1
 rw[Zx]
 congr 1
 funext ds M1
 rcases ds with _ | ⟨v,_ | ⟨w,r⟩⟩
 ·rfl
 ·cases v<;>try rfl
  rename_i j
  by_cases h: -(2 ^ 62)<=j/\j < 2 ^ 62
  ·simp only[w1,wI,eq_true h,true_and,if_true,Zm]
  ·simp only[w1,wI,eq_false h,false_and,if_false]
   rfl
 ·cases v<;>rfl
theorem ZsZ:wO (iR2 fs ρ M) QS E=wO (fs ρ M) (fun ds M1=>w2 ds fun x y=>wI x fun i=>wI y fun j=>(-(2 ^ 62)<=i/\i < 2 ^ 62/\ -(2 ^ 62)<=j/\j < 2 ^ 62)/\QS (.pur (ZbG i (j - i).toNat)) M1) E:=by
 unfold iR2
 rw[Zx]
 congr 1
 funext ds M1
 rcases ds with _ | ⟨v,_ | ⟨w,_ | ⟨w',r⟩⟩⟩
 ·rfl
 ·cases v<;>rfl
 ·cases v<;>try rfl
  cases w<;>try rfl
  rename_i i j
  by_cases h: -(2 ^ 62)<=i/\i < 2 ^ 62/\ -(2 ^ 62)<=j/\j < 2 ^ 62
  ·simp only[w2,wI,eq_true h,true_and,if_true,Zm]
  ·simp only[w2,wI,eq_false h,false_and,if_false]
   rfl
 ·cases v<;>cases w<;>rfl
theorem Zs0:wO (iEn fs ρ M) QS E=wO (fs ρ M) (fun ds M1=>w1 ds fun d=>wR d fun n=>QS (.enu n) M1) E:=by
 unfold iEn
 rw[Zx]
 congr 1
 funext ds M1
 rcases ds with _ | ⟨v,_ | ⟨w,r⟩⟩<;>try rfl
 ·cases v<;>rfl
 ·cases v<;>rfl
theorem Zs1:wO (iZp fs ρ M) QS E=wO (fs ρ M) (fun ds M1=>w2 ds fun x y=>wR x fun n=>wR y fun m=>QS (.zip n m) M1) E:=by
 unfold iZp
 rw[Zx]
 congr 1
 funext ds M1
 rcases ds with _ | ⟨v,_ | ⟨w,_ | ⟨w',r⟩⟩⟩<;>try rfl
 ·cases v<;>rfl
 ·cases v<;>cases w<;>rfl
 ·cases v<;>cases w<;>rfl
theorem Zs2:wO (iRv fs ρ M) QS E=wO (fs ρ M) (fun ds M1=>w1 ds fun d=>wR d fun n=>wL M1[n]? fun xs=>QS (.rev n xs.length) M1) E:=by
 unfold iRv
 rw[Zx]
 congr 1
 funext ds M1
 rcases ds with _ | ⟨v,_ | ⟨w,r⟩⟩<;>try rfl
 ·cases v<;>try rfl
  rename_i n
  cases e:M1[n]? with
  |none=>simp only[e];simp only[w1,wR,e];rfl
  |some o=>cases o with | lst xs=>simp only[e,w1,wR];rfl
 ·cases v<;>rfl
noncomputable def Zl3 (Q:D->Sto->Prop) (ρ:Ro) (M:Sto):Prop:=Q .non M
theorem wF1:wO (fnF bd 1 k [x] M) Q E=wS (bd (some x :: List.replicate k none) M) (Zl3 Q) Q (fun _ _=>False) (fun _ _=>False) E:=wF rfl
theorem wF2:wO (fnF bd 2 k [x,y] M) Q E=wS (bd (some x :: some y :: List.replicate k none) M) (Zl3 Q) Q (fun _ _=>False) (fun _ _=>False) E:=wF rfl
theorem wF3:wO (fnF bd 3 k [x,y,z] M) Q E=wS (bd (some x :: some y :: some z :: List.replicate k none) M) (Zl3 Q) Q (fun _ _=>False) (fun _ _=>False) E:=wF rfl
theorem wF4:wO (fnF bd 4 k [x,y,z,d] M) Q E=wS (bd (some x :: some y :: some z :: some d :: List.replicate k none) M) (Zl3 Q) Q (fun _ _=>False) (fun _ _=>False) E:=wF rfl
theorem Zjz {a:List (Int × Int)} {b c:Int}:prs a ++ [pr b c]=prs (a ++ [(b,c)]):=by simp[prs]
theorem ZjA {a:List Int} {b:Int}:nts a ++ [D.int b]=nts (a ++ [b]):=by simp[nts]
theorem ZjB {b:Int} {r:List Int}:D.int b :: nts r=nts (b :: r):=rfl
theorem Zqa:isP .non .non=some true:=rfl
theorem Zqb:isP (.int i) .non=some false:=rfl
theorem Zqc:isP (.tup xs) .non=some false:=rfl
theorem Zqd:isP (.ref n) .non=some false:=rfl
theorem ZlF (h:M[n]?=some (.lst xs)):cnt (.sto n) M=xs.length:=by show (match M[n]? with | some (.lst xs)=>xs.length | none=>0)=_;rw[h]
theorem Zij (h:M[n]?=some (.lst xs)):cnt (.enu n) M=xs.length:=by show (match M[n]? with | some (.lst xs)=>xs.length | none=>0)=_;rw[h]
theorem at2 {r:List D}:atI (x :: y :: z :: r) 2=some z:=by
 show (ixN (r.length + 3) 2).bind _=_
 unfold ixN
 rw[if_pos (by decide),if_pos (by omega)]
 rfl
theorem at3 {r:List D}:atI (x :: y :: z :: d :: r) 3=some d:=by
 show (ixN (r.length + 4) 3).bind _=_
 unfold ixN
 rw[if_pos (by decide),if_pos (by omega)]
 rfl
theorem ZnZ:ZbB "int" "int"=true:=rfl
theorem Zn0:ZbB "int" "bool"=false:=rfl
theorem Zn1:ZbB "bool" "int"=true:=rfl
theorem Zn2:ZbB "bool" "bool"=true:=rfl
theorem Zn3:ZbB "tuple" "tuple"=true:=rfl
theorem Zn4:ZbB "list" "list"=true:=rfl
theorem Zn5:ZbB "tuple" "int"=false:=rfl
theorem Zn6:ZbB "tuple" "list"=false:=rfl
theorem Zn7:ZbB "list" "tuple"=false:=rfl
theorem Zn8:ZbB "list" "int"=false:=rfl
theorem Zn9:ZbB "NoneType" "tuple"=false:=rfl
theorem Zoa:ZbB "NoneType" "list"=false:=rfl
theorem Zkh (h:M[n]?=some (.lst xs)):nxt (.enu n) k M=some ((xs[k]?).map fun d=>D.tup [.int k,d]):=by
 show (match M[n]? with | some (.lst xs)=>(match xs[k]? with | some x=>some (some (D.tup [.int k,x])) | none=>some none) | none=>none)=_
 rw[h]
 simp only[]
 cases xs[k]?<;>rfl
theorem Zob (h:M[n]?=some (.lst xs)):nxt (.sto n) k M=some xs[k]?:=by
 show (match M[n]? with | some (.lst xs)=>some xs[k]? | none=>none)=_
 rw[h]
section
variable {g:Jv} {bb:Nat}
end
theorem ZdF (I:Nat->Ro->Sto->Prop) (hM:M[n]?=some (.lst xs)) (h0:I 0 ρ M) (hm: ∀ i ρ M,I i ρ M->M[n]?=some (.lst xs)) (st: ∀ (i:Nat) ρ M (h:i < xs.length),I i ρ M->wG (tg (.tup [.int i,xs[i]]) ρ) fun r=>wS (bd r M) (I (i + 1)) R N (I (i + 1)) E) (hn: ∀ ρ M,I xs.length ρ M->N ρ M):wS (ZfX tg bd (.enu n) (cnt (.enu n) M) 0 ρ M) N R B C E:=by
 rw[Zij hM]
 have hl:(xs.mapIdx fun (k:Nat) d=>D.tup [.int k,d]).length=xs.length:=by simp
 refine ZnJ I (xs:=xs.mapIdx fun (k:Nat) d=>D.tup [.int k,d]) _ 0 ρ M (by simp) (by simp) h0 (fun i ρ M _ hI=> ?_) (fun i ρ M h hI=> ?_) (fun ρ M hI=>hn ρ M (by rw[hl] at hI;exact hI))
 ·rw[Zkh (hm _ _ _ hI),List.getElem?_mapIdx]
 ·rw[List.getElem_mapIdx]
  exact st i ρ M (by rw[hl] at h;exact h) hI
theorem ZlG {src:Src} (Inv:Ro->Prop) (F:Nat->D) {Q:Sto->Prop} (hl:xs.length < 10000000) (hcnt:xs.length<=cnt src M) (h0:Inv ρ) (hs: ∀ (L:Sto) (i:Nat),i<=xs.length->nxt src i (M ++ L)=some xs[i]?)
  (st: ∀ (i:Nat) (h:i < xs.length) (ρ:Ro) (L:Sto),Inv ρ->wG (tg xs[i] ρ) fun r=>Inv r/\wO (f r (M ++ L)) (fun y M2=>y=F i/\M2=M ++ L) (fun _ _=>False)) (hq:Q (M ++ [.lst ((List.range xs.length).map F)])):
  wO (ZcD src tg (fun _ M=> .ok true M) f M.length (cnt src M) 0 ρ (M ++ [.lst []])) (fun _ M2=>Q M2) (fun _ _=>False):=by
 refine Zkd (fun i ρ M'=>Inv ρ/\M'=M ++ [.lst ((List.range i).map F)]) (xs:=xs) _ 0 ρ _ (by simp) (by omega) ⟨h0,rfl⟩ (fun i ρ M' hi hI=>by rw[hI.2];exact hs _ i hi) (fun i ρ M' h hI=> ?_) (fun ρ M' hI=>by rw[hI.2];exact hq)
 obtain ⟨hI,rfl⟩:=hI
 have s:=st i h ρ [.lst ((List.range i).map F)] hI
 cases e:tg xs[i] ρ with
 |none=>rw[e] at s;exact s.elim
 |some r=>
  rw[e] at s
  obtain ⟨hr,s⟩:=s
  show Br true _ _
  rw[ZpK]
  refine Zd2 s (fun y M2 ⟨h1,h2⟩=> ?_) (fun _ _ z=>z)
  subst h1 h2
  rw[ZgA]
  refine ⟨by simp;omega,hr,?_⟩
  rw[Zkf,List.range_succ,List.map_append]
  rfl
theorem ZjC {F G:Nat->Int}:(List.range n).map (fun i=>pr (F i) (G i))=prs ((List.range n).map fun i=>(F i,G i)):=by simp[prs]
end
end DL
end
section
namespace DL
open PySem PySem.Spec PyProof.Rows L2
section
variable {Q:D->Sto->Prop} {E:Str->Sto->Prop} {N B C:Ro->Sto->Prop} {R:D->Sto->Prop} {ρ:Ro} {M:Sto} {f g:Ev} {fs:Av} {i j:Int} {n m k:Nat} {x y z d:D} {xs ys ds:List D} {QL:List D->Sto->Prop} {QB:Bool->Sto->Prop} {QS:Src->Sto->Prop} {tg:Tg} {a bd:Sv} {b:Bool} {t u:Tv}
noncomputable def kU {β γ:Type} (u:β->Sto->Out γ) (Q:γ->Sto->Prop) (E:Str->Sto->Prop) (x:β) (M:Sto):Prop:=wO (u x M) Q E
noncomputable def kQ {β γ:Type} (Q:γ->Sto->Prop) (c:β->γ) (M:Sto) (x:β):Prop:=Q (c x) M
noncomputable def kB2 (op:Bo) (x:D) (Q:D->Sto->Prop) (E:Str->Sto->Prop) (y:D) (M:Sto):Prop:=wO (op x y M) Q E
noncomputable def kB1 (op:Bo) (g:Ev) (ρ:Ro) (Q:D->Sto->Prop) (E:Str->Sto->Prop) (x:D) (M:Sto):Prop:=wO (g ρ M) (kB2 op x Q E) E
theorem Zs3 {op:Bo}:wO (e2 op f g ρ M) Q E=wO (f ρ M) (kB1 op g ρ Q E) E:=ZpL
theorem y_c:wO (eC d ρ M) Q E=Q d M:=rfl
theorem y_v:wO (Zf k ρ M) Q E=wV ρ[k]? (kQ Q id M):=ZsN
theorem Zoc {F:List D->Sto->Out D}:wO (Zk F fs ρ M) Q E=wO (fs ρ M) (kU F Q E) E:=Zlp
noncomputable def kA2 (x:D) (Q:List D->Sto->Prop) (xs:List D) (M:Sto):Prop:=Q (x :: xs) M
noncomputable def kA1 (fs:Av) (ρ:Ro) (Q:List D->Sto->Prop) (E:Str->Sto->Prop) (x:D) (M:Sto):Prop:=wO (fs ρ M) (kA2 x Q) E
theorem Zqe:wO (aNil ρ M) QL E=QL [] M:=rfl
theorem Zod:wO (Zc f fs ρ M) QL E=wO (f ρ M) (kA1 fs ρ QL E) E:=Zlq
noncomputable def kTu (Q:D->Sto->Prop) (xs:List D) (M:Sto):Prop:=xs.length<=1000/\Q (.tup xs) M
noncomputable def kLs (Q:D->Sto->Prop) (xs:List D) (M:Sto):Prop:=xs.length<=1000/\Q (.ref M.length) (M ++ [.lst xs])
theorem Zqf:wO (Z3 fs ρ M) Q E=wO (fs ρ M) (kTu Q) E:=ZnA
theorem Zqg:wO (ZaD fs ρ M) Q E=wO (fs ρ M) (kLs Q) E:=ZnB
noncomputable def Zrq (x:D) (M:Sto):Out D:=match x with | .int i=> .ok (.int (-i)) M | _=> .bad
theorem Zqh:wO (Ze7 f ρ M) Q E=wO (f ρ M) (kU Zrq Q E) E:=by unfold Ze7;exact Zx
theorem Zoe:wO (Zrq (.int i) M) Q E=Q (.int (-i)) M:=rfl
noncomputable def Zqi (T:String) (x:D) (M:Sto):Out D:=match ZC M x with | some t=> .ok (.bl (ZbB t T)) M | none=> .bad
theorem Zqj {T:String}:wO (Zdu T f ρ M) Q E=wO (f ρ M) (kU (Zqi T) Q E) E:=by unfold Zdu;exact Zx
noncomputable def kTy (T:String) (Q:D->Sto->Prop) (M:Sto) (t:String):Prop:=Q (.bl (ZbB t T)) M
theorem Zof {T:String}:wO (Zqi T x M) Q E=wG (ZC M x) (kTy T Q M):=by unfold Zqi;cases ZC M x<;>rfl
noncomputable def tC (b:Bool):Tv:=fun _ M=> .ok b M
noncomputable def BrO {β:Type} (k:Bool) (f g:Ro->Sto->Out β) (ρ:Ro) (M:Sto) (Q:β->Sto->Prop) (E:Str->Sto->Prop):Prop:=wO ((if k=true then f else g) ρ M) Q E
theorem Zs4 {β:Type} {fO gO:Ro->Sto->Out β} {QO:β->Sto->Prop}:BrO true fO gO ρ M QO E=wO (fO ρ M) QO E:=rfl
theorem Zs5 {β:Type} {fO gO:Ro->Sto->Out β} {QO:β->Sto->Prop}:BrO false fO gO ρ M QO E=wO (gO ρ M) QO E:=rfl
theorem brO {β:Type} {fO gO:Ro->Sto->Out β} {QO:β->Sto->Prop} {p:Prop} [Decidable p] (h1:p->wO (fO ρ M) QO E) (h2: ¬ p->wO (gO ρ M) QO E):BrO (decide p) fO gO ρ M QO E:=by
 by_cases h:p
 ·rw[decide_eq_true h];exact h1 h
 ·rw[decide_eq_false h];exact h2 h
theorem Zrr {β:Type} {fO gO:Ro->Sto->Out β} {QO:β->Sto->Prop} {p:Prop} [Decidable p] (h1: ¬ p->wO (fO ρ M) QO E) (h2:p->wO (gO ρ M) QO E):BrO (!decide p) fO gO ρ M QO E:=by
 by_cases h:p
 ·rw[decide_eq_true h];exact h2 h
 ·rw[decide_eq_false h];exact h1 h
theorem Zpe {β:Type} {fO gO:Ro->Sto->Out β} {QO:β->Sto->Prop} (P:β->Sto->Prop) (h:BrO b fO gO ρ M P E) (hn: ∀ x M,P x M->QO x M):BrO b fO gO ρ M QO E:=by
 cases b
 ·exact Zd2 h hn (fun _ _ z=>z)
 ·exact Zd2 h hn (fun _ _ z=>z)
noncomputable def kIf (f g:Ev) (ρ:Ro) (Q:D->Sto->Prop) (E:Str->Sto->Prop) (k:Bool) (M:Sto):Prop:=BrO k f g ρ M Q E
theorem Zs6:wO (eIf t f g ρ M) Q E=wO (t ρ M) (kIf f g ρ Q E) E:=by unfold eIf;rw[Zx];congr 1;funext k M1;cases k<;>rfl
noncomputable def Zrs (g:Ev) (ρ:Ro) (x:D) (M:Sto):Out D:=match x with | .bl k=>if k=true then g ρ M else .ok (.bl false) M | _=> .bad
noncomputable def oOr (g:Ev) (ρ:Ro) (x:D) (M:Sto):Out D:=match x with | .bl k=>if k=true then .ok (.bl true) M else g ρ M | _=> .bad
noncomputable def Zrt (x:D) (M:Sto):Out D:=match x with | .bl k=> .ok (.bl (!k)) M | _=> .bad
noncomputable def oTv (x:D) (M:Sto):Out Bool:=match x with | .bl k=> .ok k M | _=> .bad
theorem Zqk:wO (ZaE f g ρ M) Q E=wO (f ρ M) (kU (Zrs g ρ) Q E) E:=by unfold ZaE;exact Zx
theorem Zs7:wO (Zg2 f g ρ M) Q E=wO (f ρ M) (kU (oOr g ρ) Q E) E:=by unfold Zg2;exact Zx
theorem Zql:wO (Zco f ρ M) Q E=wO (f ρ M) (kU Zrt Q E) E:=by unfold Zco;exact Zx
theorem Zog:wO (Zrs g ρ (.bl b) M) Q E=BrO b g (eC (.bl false)) ρ M Q E:=by cases b<;>rfl
theorem Zqm:wO (oOr g ρ (.bl b) M) Q E=BrO b (eC (.bl true)) g ρ M Q E:=by cases b<;>rfl
theorem Zoh:wO (Zrt (.bl b) M) Q E=Q (.bl (!b)) M:=rfl
theorem Zs8:wO (tv f ρ M) QB E=wO (f ρ M) (kU oTv QB E) E:=by unfold tv;exact Zx
theorem Zqn:wO (oTv (.bl b) M) QB E=QB b M:=rfl
noncomputable def kTA (u:Tv) (ρ:Ro) (Q:Bool->Sto->Prop) (E:Str->Sto->Prop) (k:Bool) (M:Sto):Prop:=BrO k u (tC false) ρ M Q E
noncomputable def kTO (u:Tv) (ρ:Ro) (Q:Bool->Sto->Prop) (E:Str->Sto->Prop) (k:Bool) (M:Sto):Prop:=BrO k (tC true) u ρ M Q E
noncomputable def kTN (Q:Bool->Sto->Prop) (k:Bool) (M:Sto):Prop:=Q (!k) M
theorem Zs9:wO (tC b ρ M) QB E=QB b M:=rfl
theorem Zoi:wO (Za5 t u ρ M) QB E=wO (t ρ M) (kTA u ρ QB E) E:=by unfold Za5;rw[Zx];congr 1;funext k M1;cases k<;>rfl
theorem Zqo:wO (Zdr t u ρ M) QB E=wO (t ρ M) (kTO u ρ QB E) E:=by unfold Zdr;rw[Zx];congr 1;funext k M1;cases k<;>rfl
theorem Zoj:wO (ZaL t ρ M) QB E=wO (t ρ M) (kTN QB) E:=ZnC
noncomputable def kSq (b:Sv) (N:Ro->Sto->Prop) (R:D->Sto->Prop) (B C:Ro->Sto->Prop) (E:Str->Sto->Prop) (ρ:Ro) (M:Sto):Prop:=wS (b ρ M) N R B C E
theorem Zqp:wS (ZB a bd ρ M) N R B C E=wS (a ρ M) (kSq bd N R B C E) R B C E:=ZnD
theorem Zok:wS (sNil ρ M) N R B C E=N ρ M:=rfl
theorem Zqq:wS (Zsu ρ M) N R B C E=B ρ M:=rfl
theorem Zqr:wS (Zsv ρ M) N R B C E=C ρ M:=rfl
theorem Zqs:wS (ZW f ρ M) N R B C E=wO (f ρ M) R E:=ZnE
theorem Zol:wS (ZdQ ρ M) N R B C E=R .non M:=rfl
noncomputable def kDr (ρ:Ro) (N:Ro->Sto->Prop) (d:D) (M:Sto):Prop:=N ρ M
theorem Zom:wS (Zdv f ρ M) N R B C E=wO (f ρ M) (kDr ρ N) E:=Zlr
noncomputable def BrS (k:Bool) (a b:Sv) (ρ:Ro) (M:Sto) (N:Ro->Sto->Prop) (R:D->Sto->Prop) (B C:Ro->Sto->Prop) (E:Str->Sto->Prop):Prop:=wS ((if k=true then a else b) ρ M) N R B C E
theorem Zta:BrS true a bd ρ M N R B C E=wS (a ρ M) N R B C E:=rfl
theorem Ztb:BrS false a bd ρ M N R B C E=wS (bd ρ M) N R B C E:=rfl
theorem brS {p:Prop} [Decidable p] (h1:p->wS (a ρ M) N R B C E) (h2: ¬ p->wS (bd ρ M) N R B C E):BrS (decide p) a bd ρ M N R B C E:=by
 by_cases h:p
 ·rw[decide_eq_true h];exact h1 h
 ·rw[decide_eq_false h];exact h2 h
theorem Zon (h1:b=true->wS (a ρ M) N R B C E) (h2:b=false->wS (bd ρ M) N R B C E):BrS b a bd ρ M N R B C E:=by
 cases b
 ·exact h2 rfl
 ·exact h1 rfl
theorem Zru (P:Ro->Sto->Prop) (h:BrS b a bd ρ M P R B C E) (hn: ∀ ρ M,P ρ M->N ρ M):BrS b a bd ρ M N R B C E:=by
 cases b
 ·exact Zig h hn (fun _ _ z=>z) (fun _ _ z=>z) (fun _ _ z=>z) (fun _ _ z=>z)
 ·exact Zig h hn (fun _ _ z=>z) (fun _ _ z=>z) (fun _ _ z=>z) (fun _ _ z=>z)
noncomputable def kSi (a b:Sv) (ρ:Ro) (N:Ro->Sto->Prop) (R:D->Sto->Prop) (B C:Ro->Sto->Prop) (E:Str->Sto->Prop) (k:Bool) (M:Sto):Prop:=BrS k a b ρ M N R B C E
theorem Zqt:wS (sIf t a bd ρ M) N R B C E=wO (t ρ M) (kSi a bd ρ N R B C E) E:=by unfold sIf;rw[Z8];congr 1;funext k M1;cases k<;>rfl
noncomputable def kAs (i:Nat) (ρ:Ro) (N:Ro->Sto->Prop) (d:D) (M:Sto):Prop:=N (ρ.set i (some d)) M
theorem Zqu:wS (ZO (gNm k) f ρ M) N R B C E=wO (f ρ M) (kAs k ρ N) E:=ZnF
noncomputable def kAt (gs:Tgs) (ρ:Ro) (N:Ro->Sto->Prop) (d:D) (M:Sto):Prop:=wG (gTp gs d ρ) (kQ N id M)
theorem Zoo {gs:Tgs}:wS (ZO (gTp gs) f ρ M) N R B C E=wO (f ρ M) (kAt gs ρ N) E:=Zls
noncomputable def Zrv (i j:Nat) (ρ:Ro) (N:Ro->Sto->Prop) (M:Sto) (v w:D):Prop:=N ((ρ.set i (some v)).set j (some w)) M
noncomputable def kPa (i j:Nat) (ρ:Ro) (N:Ro->Sto->Prop) (ds:List D) (M:Sto):Prop:=w2 ds (Zrv i j ρ N M)
theorem Zqv:wS (ZdC k m fs ρ M) N R B C E=wO (fs ρ M) (kPa k m ρ N) E:=ZnG
noncomputable def Zrw (n:Nat) (d:D) (xs:List D) (ρ:Ro) (N:Ro->Sto->Prop) (M:Sto) (j:Nat):Prop:=N ρ (M.set n (.lst (xs.set j d)))
noncomputable def Zrx (n:Nat) (k:Int) (d:D) (ρ:Ro) (N:Ro->Sto->Prop) (M:Sto) (xs:List D):Prop:=wG (ixN xs.length k) (Zrw n d xs ρ N M)
noncomputable def Zry (n:Nat) (d:D) (ρ:Ro) (N:Ro->Sto->Prop) (M:Sto) (k:Int):Prop:=wL M[n]? (Zrx n k d ρ N M)
noncomputable def Zrz (i:D) (d:D) (ρ:Ro) (N:Ro->Sto->Prop) (M:Sto) (n:Nat):Prop:=wI i (Zry n d ρ N M)
noncomputable def ZrA (o:D) (d:D) (ρ:Ro) (N:Ro->Sto->Prop) (i:D) (M:Sto):Prop:=wR o (Zrz i d ρ N M)
noncomputable def ZrB (fi:Ev) (d:D) (ρ:Ro) (N:Ro->Sto->Prop) (E:Str->Sto->Prop) (o:D) (M:Sto):Prop:=wO (fi ρ M) (ZrA o d ρ N) E
noncomputable def kPu (fo fi:Ev) (ρ:Ro) (N:Ro->Sto->Prop) (E:Str->Sto->Prop) (d:D) (M:Sto):Prop:=wO (fo ρ M) (ZrB fi d ρ N E) E
theorem Zqw {fo fi:Ev}:wS (Ze8 fo fi f ρ M) N R B C E=wO (f ρ M) (kPu fo fi ρ N E) E:=ZnH
noncomputable def kRa (c:Str) (E:Str->Sto->Prop) (ds:List D) (M:Sto):Prop:=ds.length<=1000/\E c M
theorem ZlH {c:Str}:wS (ZfW c fs ρ M) N R B C E=wO (fs ρ M) (kRa c E) E:=Zjr
noncomputable def ZrC (tg:Tg) (bd:Sv) (ρ:Ro) (N:Ro->Sto->Prop) (R:D->Sto->Prop) (B C:Ro->Sto->Prop) (E:Str->Sto->Prop) (M:Sto) (j:Int):Prop:=(-(2 ^ 62)<=j/\j < 2 ^ 62)/\wS (ZdR tg bd (ZbG 0 j.toNat) ρ M) N R B C E
noncomputable def ZrD (tg:Tg) (bd:Sv) (ρ:Ro) (N:Ro->Sto->Prop) (R:D->Sto->Prop) (B C:Ro->Sto->Prop) (E:Str->Sto->Prop) (M:Sto) (d:D):Prop:=wI d (ZrC tg bd ρ N R B C E M)
noncomputable def kR1 (tg:Tg) (bd:Sv) (ρ:Ro) (N:Ro->Sto->Prop) (R:D->Sto->Prop) (B C:Ro->Sto->Prop) (E:Str->Sto->Prop) (ds:List D) (M:Sto):Prop:=w1 ds (ZrD tg bd ρ N R B C E M)
theorem Zop:wS (Zbt tg fs bd ρ M) N R B C E=wO (fs ρ M) (kR1 tg bd ρ N R B C E) E:=Zlt
noncomputable def ZrE (tg:Tg) (bd:Sv) (ρ:Ro) (N:Ro->Sto->Prop) (R:D->Sto->Prop) (B C:Ro->Sto->Prop) (E:Str->Sto->Prop) (M:Sto) (i:Int) (j:Int):Prop:=(-(2 ^ 62)<=i/\i < 2 ^ 62/\ -(2 ^ 62)<=j/\j < 2 ^ 62)/\wS (ZdR tg bd (ZbG i (j - i).toNat) ρ M) N R B C E
noncomputable def ZrF (tg:Tg) (bd:Sv) (ρ:Ro) (N:Ro->Sto->Prop) (R:D->Sto->Prop) (B C:Ro->Sto->Prop) (E:Str->Sto->Prop) (M:Sto) (y:D) (i:Int):Prop:=wI y (ZrE tg bd ρ N R B C E M i)
noncomputable def ZrG (tg:Tg) (bd:Sv) (ρ:Ro) (N:Ro->Sto->Prop) (R:D->Sto->Prop) (B C:Ro->Sto->Prop) (E:Str->Sto->Prop) (M:Sto) (x y:D):Prop:=wI x (ZrF tg bd ρ N R B C E M y)
noncomputable def kR2 (tg:Tg) (bd:Sv) (ρ:Ro) (N:Ro->Sto->Prop) (R:D->Sto->Prop) (B C:Ro->Sto->Prop) (E:Str->Sto->Prop) (ds:List D) (M:Sto):Prop:=w2 ds (ZrG tg bd ρ N R B C E M)
theorem Zoq:wS (ZhM tg fs bd ρ M) N R B C E=wO (fs ρ M) (kR2 tg bd ρ N R B C E) E:=ZlE
noncomputable def kFo (tg:Tg) (bd:Sv) (ρ:Ro) (N:Ro->Sto->Prop) (R:D->Sto->Prop) (B C:Ro->Sto->Prop) (E:Str->Sto->Prop) (d:D) (M:Sto):Prop:=wS (ZmV tg bd d ρ M) N R B C E
theorem Zqx:wS (Zri tg f bd ρ M) N R B C E=wO (f ρ M) (kFo tg bd ρ N R B C E) E:=ZnI
theorem Zor:wS (ZmV tg bd (.tup xs) ρ M) N R B C E=wS (ZdR tg bd xs ρ M) N R B C E:=rfl
theorem Zos:wS (ZmV tg bd (.rol xs) ρ M) N R B C E=wS (ZdR tg bd xs ρ M) N R B C E:=rfl
noncomputable def kFs (tg:Tg) (bd:Sv) (ρ:Ro) (N:Ro->Sto->Prop) (R:D->Sto->Prop) (B C:Ro->Sto->Prop) (E:Str->Sto->Prop) (src:Src) (M:Sto):Prop:=wS (ZfX tg bd src (cnt src M) 0 ρ M) N R B C E
theorem Zot {fi:Ro->Sto->Out Src}:wS (ZeJ tg fi bd ρ M) N R B C E=wO (fi ρ M) (kFs tg bd ρ N R B C E) E:=Zlu
noncomputable def hT (cs:List Str) (gh:Sv) (W:List Bool) (i:Nat) (ρ:Ro) (c:Str) (M:Sto):Fl:=if cs.contains c=true then (match gh ((kpR W ρ).set i (some (.err c (fsE c M)))) (stE c M) with | .ret d M2=> .ret d M2 | .nx _ M2=> .nx (List.replicate ρ.length none) M2 | _=> .bad) else .bad
noncomputable def kTr (cs:List Str) (gh:Sv) (W:List Bool) (i:Nat) (ρ:Ro) (N:Ro->Sto->Prop) (R:D->Sto->Prop) (B C:Ro->Sto->Prop) (E:Str->Sto->Prop) (c:Str) (M:Sto):Prop:=cs.contains c=true/\wS (gh ((kpR W ρ).set i (some (.err c (fsE c M)))) (stE c M)) (fun _ M2=>N (List.replicate ρ.length none) M2) R (fun _ _=>False) (fun _ _=>False) (fun _ _=>False)
theorem Zqy {cs:List Str} {W:List Bool} {gh:Sv}:wS (Zj8 a cs W k gh ρ M) N R B C E=wS (a ρ M) N R B C (kTr cs gh W k ρ N R B C E):=by
 unfold Zj8
 cases e:a ρ M<;>try rfl
 rename_i c M1
 show wS (if cs.contains c=true then _ else _) N R B C E=kTr cs gh W k ρ N R B C E c M1
 unfold kTr
 by_cases h:cs.contains c=true
 ·rw[if_pos h]
  simp only[h,true_and]
  cases gh ((kpR W ρ).set k (some (.err c (fsE c M1)))) (stE c M1)<;>rfl
 ·rw[if_neg h]
  simp only[h,Bool.false_eq_true,false_and]
  rfl
theorem ZgB:fsE (PySem.Str.ofString "NoRatio") M=[]:=ZbW (by decide +kernel)
theorem ZgC:stE (PySem.Str.ofString "NoRatio") M=M:=ZbX (by decide +kernel)
theorem ZeP:fsE (PySem.Str.ofString "NoTurning") M=[]:=ZbW (by decide +kernel)
theorem ZeQ:stE (PySem.Str.ofString "NoTurning") M=M:=ZbX (by decide +kernel)
theorem ZeR:fsE (PySem.Str.ofString "NotSmooth") M=[]:=ZbW (by decide +kernel)
theorem ZeS:stE (PySem.Str.ofString "NotSmooth") M=M:=ZbX (by decide +kernel)
theorem ZgD:fsE (PySem.Str.ofString "NoWedge") M=[]:=ZbW (by decide +kernel)
theorem ZgE:stE (PySem.Str.ofString "NoWedge") M=M:=ZbX (by decide +kernel)
theorem ZjD:fsE (PySem.Str.ofString "NoRow") M=[]:=ZbW (by decide +kernel)
theorem ZjE:stE (PySem.Str.ofString "NoRow") M=M:=ZbX (by decide +kernel)
theorem ZgF:fsE (PySem.Str.ofString "NoPlace") M=[]:=ZbW (by decide +kernel)
theorem ZgG:stE (PySem.Str.ofString "NoPlace") M=M:=ZbX (by decide +kernel)
theorem ZgH:fsE (PySem.Str.ofString "NoMinus") M=[]:=ZbW (by decide +kernel)
theorem ZgI:stE (PySem.Str.ofString "NoMinus") M=M:=ZbX (by decide +kernel)
theorem Zik:fsE (PySem.Str.ofString "NoFour") M=[]:=ZbW (by decide +kernel)
theorem Zil:stE (PySem.Str.ofString "NoFour") M=M:=ZbX (by decide +kernel)
theorem Zfj:fsE (PySem.Str.ofString "NoHeight") M=[]:=ZbW (by decide +kernel)
theorem Zfk:stE (PySem.Str.ofString "NoHeight") M=M:=ZbX (by decide +kernel)
theorem Zim:fsE (PySem.Str.ofString "NoBend") M=[]:=ZbW (by decide +kernel)
theorem Zin:stE (PySem.Str.ofString "NoBend") M=M:=ZbX (by decide +kernel)
theorem Zio:fsE (PySem.Str.ofString "NoBody") M=[]:=ZbW (by decide +kernel)
theorem Zip:stE (PySem.Str.ofString "NoBody") M=M:=ZbX (by decide +kernel)
theorem ZjF:fsE (PySem.Str.ofString "NoOne") M=[]:=ZbW (by decide +kernel)
theorem ZjG:stE (PySem.Str.ofString "NoOne") M=M:=ZbX (by decide +kernel)
theorem Ziq:fsE (PySem.Str.ofString "NoText") M=[]:=ZbW (by decide +kernel)
theorem Zir:stE (PySem.Str.ofString "NoText") M=M:=ZbX (by decide +kernel)
theorem ZgJ:fsE (PySem.Str.ofString "Unknown") M=[]:=ZbW (by decide +kernel)
theorem ZgK:stE (PySem.Str.ofString "Unknown") M=M:=ZbX (by decide +kernel)
theorem ZgL:fsE (PySem.Str.ofString "NoRound") (M ++ [.lst xs])=xs:=Znb (by decide +kernel)
theorem ZgM:stE (PySem.Str.ofString "NoRound") (M ++ [.lst xs])=M:=Znc (by decide +kernel)
noncomputable def Ztc (Q:D->Sto->Prop) (M1:Sto) (u:Unit) (M:Sto):Prop:=Q (.ref M1.length) M
noncomputable def kCo (tg:Tg) (c:Tv) (f:Ev) (k:Nat) (fr:List Nat) (ρ:Ro) (Q:D->Sto->Prop) (src:Src) (M:Sto):Prop:=wO (ZcD src tg c f M.length (cnt src M) 0 (roB k fr ρ) (M ++ [.lst []])) (Ztc Q M) (fun _ _=>False)
theorem Zou {fi:Ro->Sto->Out Src} {fr:List Nat}:wO (ZbN fi k fr tg t f ρ M) Q E=wO (fi ρ M) (kCo tg t f k fr ρ Q) E:=Zlv
noncomputable def ZrH (QS:Src->Sto->Prop) (M:Sto) (j:Int):Prop:=(-(2 ^ 62)<=j/\j < 2 ^ 62)/\QS (.pur (ZbG 0 j.toNat)) M
noncomputable def ZrI (QS:Src->Sto->Prop) (M:Sto) (d:D):Prop:=wI d (ZrH QS M)
noncomputable def kS1 (QS:Src->Sto->Prop) (ds:List D) (M:Sto):Prop:=w1 ds (ZrI QS M)
theorem Ztd:wO (iR1 fs ρ M) QS E=wO (fs ρ M) (kS1 QS) E:=ZsY
noncomputable def ZrJ (QS:Src->Sto->Prop) (M:Sto) (i:Int) (j:Int):Prop:=(-(2 ^ 62)<=i/\i < 2 ^ 62/\ -(2 ^ 62)<=j/\j < 2 ^ 62)/\QS (.pur (ZbG i (j - i).toNat)) M
noncomputable def ZrK (QS:Src->Sto->Prop) (M:Sto) (y:D) (i:Int):Prop:=wI y (ZrJ QS M i)
noncomputable def ZrL (QS:Src->Sto->Prop) (M:Sto) (x y:D):Prop:=wI x (ZrK QS M y)
noncomputable def kS2 (QS:Src->Sto->Prop) (ds:List D) (M:Sto):Prop:=w2 ds (ZrL QS M)
theorem Zte:wO (iR2 fs ρ M) QS E=wO (fs ρ M) (kS2 QS) E:=ZsZ
noncomputable def oSq (d:D) (M:Sto):Out Src:=match d with | .tup ds=> .ok (.pur ds) M | .rol ds=> .ok (.pur ds) M | .con ds=> .ok (.pur ds) M | .ref n=> .ok (.sto n) M | _=> .bad
theorem Ztf:wO (iSq f ρ M) QS E=wO (f ρ M) (kU oSq QS E) E:=by unfold iSq;exact Zx
theorem Zqz:wO (oSq (.tup xs) M) QS E=QS (.pur xs) M:=rfl
theorem ZqA:wO (oSq (.rol xs) M) QS E=QS (.pur xs) M:=rfl
theorem ZqB:wO (oSq (.ref n) M) QS E=QS (.sto n) M:=rfl
noncomputable def ZrM (QS:Src->Sto->Prop) (M:Sto) (d:D):Prop:=wR d (kQ QS .enu M)
noncomputable def kEn (QS:Src->Sto->Prop) (ds:List D) (M:Sto):Prop:=w1 ds (ZrM QS M)
theorem Ztg:wO (iEn fs ρ M) QS E=wO (fs ρ M) (kEn QS) E:=Zs0
noncomputable def ZrN (QS:Src->Sto->Prop) (M:Sto) (y:D) (n:Nat):Prop:=wR y (kQ QS (.zip n) M)
noncomputable def ZrO (QS:Src->Sto->Prop) (M:Sto) (x y:D):Prop:=wR x (ZrN QS M y)
noncomputable def kZp (QS:Src->Sto->Prop) (ds:List D) (M:Sto):Prop:=w2 ds (ZrO QS M)
theorem Zth:wO (iZp fs ρ M) QS E=wO (fs ρ M) (kZp QS) E:=Zs1
noncomputable def ZrP (QS:Src->Sto->Prop) (n:Nat) (M:Sto) (xs:List D):Prop:=QS (.rev n xs.length) M
noncomputable def ZrQ (QS:Src->Sto->Prop) (M:Sto) (n:Nat):Prop:=wL M[n]? (ZrP QS n M)
noncomputable def ZrR (QS:Src->Sto->Prop) (M:Sto) (d:D):Prop:=wR d (ZrQ QS M)
noncomputable def kRv (QS:Src->Sto->Prop) (ds:List D) (M:Sto):Prop:=w1 ds (ZrR QS M)
theorem Zti:wO (iRv fs ρ M) QS E=wO (fs ρ M) (kRv QS) E:=Zs2
noncomputable def Zov (xs:List D) (M:Sto) (Q:D->Sto->Prop) (ys:List D):Prop:=xs.length + ys.length<=10000000/\Q (.ref M.length) (M ++ [.lst (xs ++ ys)])
noncomputable def ZrS (m:Nat) (M:Sto) (Q:D->Sto->Prop) (xs:List D):Prop:=wL M[m]? (Zov xs M Q)
theorem ZqC:wO (dAdd (.ref n) (.ref m) M) Q E=wL M[n]? (ZrS m M Q):=ZpS
noncomputable def Zpf (i:Int) (M:Sto) (Q:D->Sto->Prop) (xs:List D):Prop:=((-9223372036854775808<=i/\i < 9223372036854775808)/\xs.length * i.toNat<=100000)/\Q (.ref M.length) (M ++ [.lst (List.replicate i.toNat xs).flatten])
theorem ZqD:wO (ZsB (.ref n) (.int i) M) Q E=wL M[n]? (Zpf i M Q):=by
 show wO (match M[n]? with | some (.lst xs)=>if (-9223372036854775808<=i/\i < 9223372036854775808)/\xs.length * i.toNat<=100000 then Out.ok (.ref M.length) (M ++ [.lst (List.replicate i.toNat xs).flatten]) else .bad | none=> .bad) Q E=_
 cases e1:M[n]? with
 |none=>rfl
 |some o=>
  cases o with
  |lst xs=>
   show wO (if (-9223372036854775808<=i/\i < 9223372036854775808)/\xs.length * i.toNat<=100000 then Out.ok (.ref M.length) (M ++ [.lst (List.replicate i.toNat xs).flatten]) else .bad) Q E=Zpf i M Q xs
   unfold Zpf
   by_cases h:(-9223372036854775808<=i/\i < 9223372036854775808)/\xs.length * i.toNat<=100000
   ·rw[if_pos h];simp only[eq_true h,true_and];rfl
   ·rw[if_neg h];simp only[eq_false h,false_and];rfl
noncomputable def kEq (Q:D->Sto->Prop) (M:Sto) (b:Bool):Prop:=Q (.bl b) M
noncomputable def kNe (Q:D->Sto->Prop) (M:Sto) (b:Bool):Prop:=Q (.bl (!b)) M
theorem Ztj:wO (dEq x y M) Q E=wG (eqF 12 M x y) (kEq Q M):=ZsS
theorem Ztk:wO (dNe x y M) Q E=wG (eqF 12 M x y) (kNe Q M):=ZsT
theorem Ztl:wO (dIs x y M) Q E=wG (isP x y) (kEq Q M):=ZsU
theorem ZqE:wO (dIsNot x y M) Q E=wG (isP x y) (kNe Q M):=ZpT
theorem ZqF:wO (Zro x y M) Q E=wG (inE x y M) (kEq Q M):=by unfold Zro;cases inE x y M<;>rfl
theorem ZjH:wO (Zh2 x y M) Q E=wG (inE x y M) (kNe Q M):=by unfold Zh2;cases inE x y M<;>rfl
theorem ZqG:wO (dIx (.tup xs) (.int i) M) Q E=wG (atI xs i) (kQ Q id M):=ZpU
theorem ZqH:wO (dIx (.rol xs) (.int i) M) Q E=wG (atI xs i) (kQ Q id M):=ZpV
noncomputable def kIx (i:Int) (Q:D->Sto->Prop) (M:Sto) (xs:List D):Prop:=wG (atI xs i) (kQ Q id M)
theorem ZqI:wO (dIx (.ref n) (.int i) M) Q E=wL M[n]? (kIx i Q M):=ZpW
noncomputable def ZrT (Q:D->Sto->Prop) (M:Sto) (xs:List D):Prop:=Q (.int xs.length) M
theorem Zow:wO (bLen [.ref n] M) Q E=wL M[n]? (ZrT Q M):=ZnM
noncomputable def kLi (Q:D->Sto->Prop) (M:Sto) (xs:List D):Prop:=Q (.ref M.length) (M ++ [.lst xs])
theorem ZlI:wO (bList [.ref n] M) Q E=wL M[n]? (kLi Q M):=Zlx
noncomputable def ZrU (Q:D->Sto->Prop) (M:Sto) (bs:List Bool):Prop:=Q (.bl (bs.all id)) M
noncomputable def kAl (Q:D->Sto->Prop) (M:Sto) (xs:List D):Prop:=wG (ZaM xs) (ZrU Q M)
theorem ZqJ:wO (bAll [.ref n] M) Q E=wL M[n]? (kAl Q M):=Zp0
noncomputable def ZrV (g:List Int->Option Int) (Q:D->Sto->Prop) (M:Sto) (ns:List Int):Prop:=wG (g ns) (kQ Q .int M)
noncomputable def ZrW (g:List Int->Option Int) (Q:D->Sto->Prop) (M:Sto) (xs:List D):Prop:=wG (ZeL xs) (ZrV g Q M)
theorem Zox {gi:List Int->Option Int}:wO (Zng gi [.ref n] M) Q E=wL M[n]? (ZrW gi Q M):=ZnR
noncomputable def kMt (g:Me) (fs:Av) (ρ:Ro) (Q:D->Sto->Prop) (E:Str->Sto->Prop) (x:D) (M:Sto):Prop:=Zne x M=true/\wO (fs ρ M) (kU (g x) Q E) E
theorem Ztm {me:Me} {fo:Ev}:wO (ZpC me fo fs ρ M) Q E=wO (fo ρ M) (kMt me fs ρ Q E) E:=ZsV
noncomputable def ZrX (n:Nat) (d:D) (Q:D->Sto->Prop) (M:Sto) (xs:List D):Prop:=xs.length < 10000000/\Q .non (M.set n (.lst (xs ++ [d])))
theorem ZqK:wO (Zrl (.ref n) [d] M) Q E=wL M[n]? (ZrX n d Q M):=Zp1
noncomputable def ZrY (n:Nat) (Q:D->Sto->Prop) (M:Sto) (xs:List D):Prop:=Q .non (M.set n (.lst []))
theorem ZqL:wO (Zrm (.ref n) [] M) Q E=wL M[n]? (ZrY n Q M):=Zp2
noncomputable def Zoy (n:Nat) (xs:List D) (Q:D->Sto->Prop) (M:Sto) (ys:List D):Prop:=xs.length + ys.length<=10000000/\Q .non (M.set n (.lst (xs ++ ys)))
noncomputable def ZrZ (n m:Nat) (Q:D->Sto->Prop) (M:Sto) (xs:List D):Prop:=wL M[m]? (Zoy n xs Q M)
theorem ZqM:wO (Zrn (.ref n) [.ref m] M) Q E=wL M[n]? (ZrZ n m Q M):=Zp3
noncomputable def ZlJ (Q:D->Sto->Prop) (M:Sto) (bs:List Bool):Prop:=wG (bs.findIdx? id) (kQ Q (fun (j:Nat)=> .int j) M)
noncomputable def Zr0 (d:D) (Q:D->Sto->Prop) (M:Sto) (xs:List D):Prop:=wG (eqs M d xs) (ZlJ Q M)
theorem ZqN:wO (Zsz (.ref n) [d] M) Q E=wL M[n]? (Zr0 d Q M):=by
 show wO (match M[n]? with | some (.lst xs)=>(match eqs M d xs with | some bs=>(match bs.findIdx? id with | some j=>Out.ok (.int (j:Nat)) M | none=> .bad) | none=> .bad) | none=> .bad) Q E=_
 cases e1:M[n]? with
 |none=>rfl
 |some o=>
  cases o with
  |lst xs=>
   show wO (match eqs M d xs with | some bs=>(match bs.findIdx? id with | some j=>Out.ok (.int (j:Nat)) M | none=> .bad) | none=> .bad) Q E=wG (eqs M d xs) (ZlJ Q M)
   cases eqs M d xs with
   |none=>rfl
   |some bs=>
    show wO (match bs.findIdx? id with | some j=>Out.ok (.int (j:Nat)) M | none=> .bad) Q E=wG (bs.findIdx? id) _
    cases bs.findIdx? id<;>rfl
noncomputable def kCn (Q:D->Sto->Prop) (M:Sto) (bs:List Bool):Prop:=Q (.int (bs.countP id:Nat)) M
noncomputable def Zr1 (d:D) (Q:D->Sto->Prop) (M:Sto) (xs:List D):Prop:=wG (eqs M d xs) (kCn Q M)
theorem Zoz:wO (ZsA (.ref n) [d] M) Q E=wL M[n]? (Zr1 d Q M):=by
 show wO (match M[n]? with | some (.lst xs)=>(match eqs M d xs with | some bs=>Out.ok (.int (bs.countP id:Nat)) M | none=> .bad) | none=> .bad) Q E=_
 cases e1:M[n]? with
 |none=>rfl
 |some o=>
  cases o with
  |lst xs=>
   show wO (match eqs M d xs with | some bs=>Out.ok (.int (bs.countP id:Nat)) M | none=> .bad) Q E=wG (eqs M d xs) (kCn Q M)
   cases eqs M d xs<;>rfl
noncomputable def Zr2 (l u:Option Int) (Q:D->Sto->Prop) (M:Sto) (xs:List D):Prop:=Q (.ref M.length) (M ++ [.lst (Zej xs l u)])
noncomputable def Zr3 (x:D) (l:Option Int) (Q:D->Sto->Prop) (E:Str->Sto->Prop) (u:Option Int) (M:Sto):Prop:=wO (slR x l u M) Q E
noncomputable def Zr4 (x:D) (hi:Ro->Sto->Out (Option Int)) (ρ:Ro) (Q:D->Sto->Prop) (E:Str->Sto->Prop) (l:Option Int) (M:Sto):Prop:=wO (hi ρ M) (Zr3 x l Q E) E
noncomputable def Zr5 (lo hi:Ro->Sto->Out (Option Int)) (ρ:Ro) (Q:D->Sto->Prop) (E:Str->Sto->Prop) (x:D) (M:Sto):Prop:=wO (lo ρ M) (Zr4 x hi ρ Q E) E
theorem Ztn {lo hi:Ro->Sto->Out (Option Int)}:wO (eSl f lo hi ρ M) Q E=wO (f ρ M) (Zr5 lo hi ρ Q E) E:=Zp4
theorem ZqO {l u':Option Int}:wO (slR (.ref n) l u' M) Q E=wL M[n]? (Zr2 l u' Q M):=Zp5
theorem ZqP {QI:Option Int->Sto->Prop}:wO (oNo ρ M) QI E=QI none M:=rfl
noncomputable def Zr6 (Q:Option Int->Sto->Prop) (x:D) (M:Sto):Prop:=wI x (kQ Q some M)
theorem ZqQ {QI:Option Int->Sto->Prop}:wO (oSo f ρ M) QI E=wO (f ρ M) (Zr6 QI) E:=Zp6
noncomputable def oRv (x:D) (M1:Sto):Out D:=match x with | .tup xs=> .ok (.tup xs.reverse) M1 | .ref n=>(match M1[n]? with | some (.lst xs)=> .ok (.ref M1.length) (M1 ++ [.lst xs.reverse]) | none=> .bad) | .rol xs=> .ok (.ref M1.length) (M1 ++ [.lst xs.reverse]) | _=> .bad
theorem Zto:wO (eRv f ρ M) Q E=wO (f ρ M) (kU oRv Q E) E:=by unfold eRv;exact Zx
noncomputable def Zr7 (Q:D->Sto->Prop) (M:Sto) (xs:List D):Prop:=Q (.ref M.length) (M ++ [.lst xs.reverse])
theorem ZqR:wO (oRv (.ref n) M) Q E=wL M[n]? (Zr7 Q M):=by show wO (match M[n]? with | some (.lst xs)=>Out.ok (.ref M.length) (M ++ [.lst xs.reverse]) | none=> .bad) Q E=_;cases M[n]? with | none=>rfl | some o=>cases o with | lst xs=>rfl
theorem ZqS:wO (oRv (.tup xs) M) Q E=Q (.tup xs.reverse) M:=rfl
noncomputable def Zr8 (tab:List (Str × Bool)) (x:D) (M:Sto):Out D:=match x with | .err c _=>(match tab.lookup c with | some b=> .ok (.bl b) M | none=> .bad) | _=> .bad
theorem ZqT {tab:List (Str × Bool)}:wO (Zan tab f ρ M) Q E=wO (f ρ M) (kU (Zr8 tab) Q E) E:=by unfold Zan;exact Zx
theorem ZoA {tab:List (Str × Bool)} {c:Str}:wO (Zr8 tab (.err c xs) M) Q E=wG (tab.lookup c) (kEq Q M):=by show wO (match tab.lookup c with | some b=>Out.ok (.bl b) M | none=> .bad) Q E=_;cases tab.lookup c<;>rfl
noncomputable def kWh (bd:Sv) (ρ:Ro) (I:Ro->Sto->Prop) (N:Ro->Sto->Prop) (R:D->Sto->Prop) (B C:Ro->Sto->Prop) (E:Str->Sto->Prop) (k:Bool) (M:Sto):Prop:=Br k (wS (bd ρ M) I R N I E) (N ρ M)
theorem ZoB {c:Tv} (I:Nat->Ro->Sto->Prop) (st: ∀ n ρ M,I n ρ M->wO (c ρ M) (kWh bd ρ (fun ρ2 M2=> ∃ m,m < n/\I m ρ2 M2) N R B C E) E) (n:Nat) (ρ:Ro) (M:Sto) (h:I n ρ M):wS (sWh c bd ρ M) N R B C E:=Zjs I st n ρ M h
theorem ZoC {I:Ro->Sto->Prop} {p:Prop} [Decidable p] (h1:p->wS (bd ρ M) I R N I E) (h2: ¬ p->N ρ M):kWh bd ρ I N R B C E (decide p) M:=brD h1 h2
theorem Ztp {src:Src} {fr:List Nat} (Inv:Ro->Prop) (F:Nat->D) (hl:xs.length < 10000000) (hcnt:xs.length<=cnt src M) (h0:Inv (roB k fr ρ)) (hs: ∀ (L:Sto) (i:Nat),i<=xs.length->nxt src i (M ++ L)=some xs[i]?)
  (st: ∀ (i:Nat) (h:i < xs.length) (ρ:Ro) (L:Sto),Inv ρ->wG (tg xs[i] ρ) fun r=>Inv r/\wO (f r (M ++ L)) (fun y M2=>y=F i/\M2=M ++ L) (fun _ _=>False)) (hq:Q (.ref M.length) (M ++ [.lst ((List.range xs.length).map F)])):
  kCo tg (fun _ M=> .ok true M) f k fr ρ Q src M:=ZlG (Q:=fun M2=>Q (.ref M.length) M2) Inv F hl hcnt h0 hs st hq
theorem Zr9 {fr:List Nat} (Inv:Ro->Prop) (F:Nat->D) (hM:M[n]?=some (.lst xs)) (hl:xs.length < 10000000) (h0:Inv (roB k fr ρ))
  (st: ∀ (i:Nat) (h:i < xs.length) (ρ:Ro) (L:Sto),Inv ρ->wG (tg xs[i] ρ) fun r=>Inv r/\wO (f r (M ++ L)) (fun y M2=>y=F i/\M2=M ++ L) (fun _ _=>False)) (hq:Q (.ref M.length) (M ++ [.lst ((List.range xs.length).map F)])):
  kCo tg (fun _ M=> .ok true M) f k fr ρ Q (.sto n) M:=
 Ztp (xs:=xs) Inv F hl (by rw[ZlF hM];exact Nat.le_refl _) h0 (fun L i hi=>by rw[Zob];rw[List.getElem?_append_left (Zaa hM)];exact hM) st hq
end
end DL
end
namespace DL
open PySem PySem.Spec L2
section
variable {Q:D->Sto->Prop} {E:Str->Sto->Prop} {M:Sto} {n:Nat}
end
end DL
section
namespace DL
open PySem PySem.Spec L2
section
variable {Q:D->Sto->Prop} {E:Str->Sto->Prop} {N B C:Ro->Sto->Prop} {R:D->Sto->Prop} {M:Sto} {ρ:Ro} {fs:Av} {f:Ev} {c:Str} {i:Nat}
noncomputable def ZqU (c:Str) (E:Str->Sto->Prop) (ds:List D) (M:Sto):Prop:=match ds with
 | [.str y,.int n]=>(y.length<=1000/\n.natAbs.log2 < 1000)/\E c (M ++ [.lst [.str y,.int n]])
 |_=>False
theorem ZeT {y:Str} {n:Int}:ZqU c E [.str y,.int n] M=((y.length<=1000/\n.natAbs.log2 < 1000)/\E c (M ++ [.lst [.str y,.int n]])):=rfl
theorem Zcf (h:wO (fs ρ M) (ZqU c E) E):wS (Zbk c fs ρ M) N R B C E:=by
 unfold Zbk
 rw[Z8]
 refine Zd2 h (fun ds M1 k=> ?_) (fun _ _ z=>z)
 unfold ZqU at k
 split at k
 ·rename_i y n
  show wS (if _ then _ else _) _ _ _ _ _
  rw[if_pos k.1]
  exact k.2
 ·exact k.elim
noncomputable def ZqV (i:Nat) (x:D) (M:Sto):Out D:=match x with | .err c ds=>if Zgp c=true then (match ds[i]? with | some d=> .ok d M | none=> .bad) else .bad | _=> .bad
theorem ZqW:wO (Zkb i f ρ M) Q E=wO (f ρ M) (kU (ZqV i) Q E) E:=by unfold Zkb;exact Zx
theorem ZoD {a:D} {r:List D}:wO (ZqV 0 (.err (PySem.Str.ofString "NoRound") (a :: r)) M) Q E=Q a M:=rfl
theorem ZoE {a b:D} {r:List D}:wO (ZqV 1 (.err (PySem.Str.ofString "NoRound") (a :: b :: r)) M) Q E=Q b M:=rfl
end
end DL
end
section
namespace DL
noncomputable abbrev Pt:=Int × Int
noncomputable def X (p q:Pt):Int:=p.1 * q.2 - p.2 * q.1
section
variable {rs:List Pt} {i j:Int} {k n:Nat} {p:Pt}
theorem Zcg {α:Type} {l:List α} {n:Nat} {d:α} (h:n < l.length):l.getD n d=l[n]:=by simp[List.getElem?_eq_getElem h]
theorem ZbZ (h:0<=i/\i < rs.length):cy rs i=rs.getD i.toNat (0,0):=by
 unfold cy
 rw[Int.emod_eq_of_lt h.1 h.2]
theorem ZaO {m:Nat} (h:m≠0):(i % m).toNat < m/\0<=i % m:=by
 have:=Int.emod_lt_of_pos i (show (0:Int) < m by omega)
 have:=Int.emod_nonneg i (show (m:Int)≠0 by omega)
 omega
theorem Zch (h:rs≠[]):cy rs i∈rs:=by
 have hl:rs.length≠0:=by simpa using h
 unfold cy
 rw[Zcg (ZaO hl).1]
 exact List.getElem_mem _
theorem Zki {f:Pt->Pt} (h:rs≠[]):cy (rs.map f) i=f (cy rs i):=by
 have hl:rs.length≠0:=by simpa using h
 unfold cy
 rw[List.length_map,Zcg (by rw[List.length_map];exact (ZaO hl).1),Zcg (ZaO hl).1,List.getElem_map]
theorem Zf7 (hk:k<=rs.length):cy (rs.drop k ++ rs.take k) i=cy rs (i + k):=by
 by_cases h:rs.length=0
 ·have:rs=[]:=by simpa using h
  subst this
  simp[cy]
 have hL:(rs.drop k ++ rs.take k).length=rs.length:=by simp;omega
 have e1:cy (rs.drop k ++ rs.take k) i=cy (rs.drop k ++ rs.take k) (i % rs.length):=by
  conv=>rhs;rw[<- hL,ZcG]
 have e2:cy rs (i + k)=cy rs (i % rs.length + k):=by
  unfold cy
  rw[Int.emod_add_emod]
 rw[e1,e2]
 obtain ⟨a,b⟩:=ZaO (i:=i) h
 generalize hm:i % (rs.length:Int)=m at *
 have hm2:m < rs.length:=by omega
 rw[ZbZ (by rw[hL];omega)]
 by_cases c:m + k < rs.length
 ·rw[ZbZ (by omega)]
  rw[List.getD_eq_getElem?_getD,List.getD_eq_getElem?_getD,List.getElem?_append_left (by simp;omega),List.getElem?_drop]
  congr 2
  omega
 ·rw[<- ZeO,ZbZ (by omega)]
  rw[List.getD_eq_getElem?_getD,List.getD_eq_getElem?_getD,List.getElem?_append_right (by simp;omega),List.getElem?_take_of_lt (by simp;omega)]
  congr 2
  simp
  omega
noncomputable def ins (rs:List Pt) (k:Nat) (p:Pt):List Pt:=rs.take (k + 1) ++ p :: rs.drop (k + 1)
theorem Zct (hk:k < rs.length):(ins rs k p).length=rs.length + 1:=by simp[ins];omega
theorem Zkj (hk:k < rs.length) (h0:0<=j) (h1:j<=rs.length + 1):cy (ins rs k p) j=if j<=k then cy rs j else if j=k + 1 then p else cy rs (j - 1):=by
 have hL:=Zct (p:=p) hk
 by_cases e:j=rs.length + 1
 ·subst e
  rw[if_neg (by omega),if_neg (by omega)]
  have e1:cy (ins rs k p) (rs.length + 1)=cy (ins rs k p) 0:=by
   have:=ZeO (rs:=ins rs k p) (i:=(rs.length:Int) + 1)
   rw[hL] at this
   rw[<- this]
   congr 1
   omega
  have e2:cy rs ((rs.length:Int) + 1 - 1)=cy rs 0:=by
   rw[<- ZeO]
   congr 1
   omega
  rw[e1,e2,ZbZ (by rw[hL];omega),ZbZ (by omega)]
  unfold ins
  rw[List.getD_eq_getElem?_getD,List.getD_eq_getElem?_getD,List.getElem?_append_left (by simp;omega),List.getElem?_take_of_lt (by simp)]
 ·have hj:j < rs.length + 1:=by omega
  rw[ZbZ (by rw[hL];omega)]
  unfold ins
  rw[List.getD_eq_getElem?_getD]
  by_cases c1:j<=k
  ·rw[if_pos c1,ZbZ (by omega),List.getD_eq_getElem?_getD,List.getElem?_append_left (by simp;omega),List.getElem?_take_of_lt (by omega)]
  ·rw[if_neg c1,List.getElem?_append_right (by simp;omega)]
   have hl:(rs.take (k + 1)).length=k + 1:=by simp;omega
   rw[hl]
   by_cases c2:j=k + 1
   ·rw[if_pos c2]
    have:j.toNat - (k + 1)=0:=by omega
    rw[this]
    rfl
   ·rw[if_neg c2,ZbZ (by omega),List.getD_eq_getElem?_getD]
    obtain ⟨z,hz⟩: ∃ z,j.toNat - (k + 1)=z + 1:=⟨j.toNat - (k + 1) - 1,by omega⟩
    rw[hz,List.getElem?_cons_succ,List.getElem?_drop]
    congr 2
    omega
theorem Zd5 {P:Pt->Pt->Prop} (hn:rs.length≠0) (h: ∀ i:Int,0<=i->i < rs.length->P (cy rs i) (cy rs (i + 1))) (i:Int):P (cy rs i) (cy rs (i + 1)):=by
 have e1:cy rs i=cy rs (i % rs.length):=ZcG.symm
 have e2:cy rs (i + 1)=cy rs (i % rs.length + 1):=by
  unfold cy
  rw[Int.emod_add_emod]
 rw[e1,e2]
 obtain ⟨a,b⟩:=ZaO (i:=i) hn
 exact h _ b (by omega)
noncomputable def cc (f:Pt->Pt->Nat):List Pt->Nat
 |a :: b :: r=>f a b + cc f (b :: r)
 |_=>0
noncomputable def cyc (f:Pt->Pt->Nat) (rs:List Pt):Nat:=cc f (rs ++ rs.take 1)
theorem ZcH {f:Pt->Pt->Nat}: ∀ (L:List Pt) (a:Pt) (R:List Pt),cc f (L ++ a :: R)=cc f (L ++ [a]) + cc f (a :: R)
 | [],a,R=>by simp[cc]
 | [b],a,R=>by simp[cc]
 |b :: c :: L,a,R=>by
  have:=ZcH (f:=f) (c :: L) a R
  simp only[List.cons_append,cc] at this ⊢
  omega
theorem Zkk {f:Pt->Pt->Nat} {g:Pt->Pt}: ∀ (L:List Pt),cc f (L.map g)=cc (fun a b=>f (g a) (g b)) L
 | []=>rfl
 | [_]=>rfl
 |a :: b :: L=>by
  have:=Zkk (f:=f) (g:=g) (b :: L)
  simp only[List.map_cons,cc] at this ⊢
  omega
theorem Zkl {f:Pt->Pt->Nat}: ∀ (L:List Pt),cc f L.reverse=cc (fun a b=>f b a) L
 | []=>rfl
 | [_]=>rfl
 |a :: b :: L=>by
  have:=Zkl (f:=f) (b :: L)
  rw[List.reverse_cons,List.reverse_cons,List.append_assoc,List.singleton_append,ZcH]
  rw[List.reverse_cons] at this
  simp only[cc] at this ⊢
  omega
theorem Zbl {f:Pt->Pt->Nat} {a:Pt} {r:List Pt}:cyc f (a :: r)=cc f (a :: (r ++ [a])):=by simp[cyc]
theorem Zb0 {f:Pt->Pt->Nat} (A B:List Pt):cyc f (A ++ B)=cyc f (B ++ A):=by
 cases A with
 |nil=>simp
 |cons a A=>
  cases B with
  |nil=>simp
  |cons b B=>
   rw[List.cons_append,Zbl,List.cons_append,Zbl]
   have e1:a :: (A ++ b :: B ++ [a])=(a :: A) ++ b :: (B ++ [a]):=by simp
   have e2:b :: (B ++ a :: A ++ [b])=(b :: B) ++ a :: (A ++ [b]):=by simp
   rw[e1,e2,ZcH (a :: A) b,ZcH (b :: B) a]
   simp only[List.cons_append]
   omega
theorem Zd6 {f:Pt->Pt->Nat} {g:Pt->Pt} (L:List Pt):cyc f (L.map g)=cyc (fun a b=>f (g a) (g b)) L:=by
 unfold cyc
 rw[<- List.map_take,<- List.map_append,Zkk]
theorem Zis {f:Pt->Pt->Nat} (L:List Pt):cyc f L.reverse=cyc (fun a b=>f b a) L:=by
 cases L with
 |nil=>rfl
 |cons a L=>
  rw[List.reverse_cons,Zb0,List.singleton_append,Zbl,Zbl,<- Zkl]
  congr 1
  simp
noncomputable def in1 (w a b:Pt):Nat:=if 0<=X a w/\0 < X w b then 1 else 0
noncomputable def in2 (w a b:Pt):Nat:=if 0 < X a w/\0<=X w b then 1 else 0
noncomputable def Fan (rs:List Pt):Prop:= ∀ w:Pt,w≠(0,0)->cyc (in1 w) rs=1/\cyc (in2 w) rs=1
theorem ZoF {a b w:Pt}:X w (a.1 + b.1,a.2 + b.2)=X w a + X w b/\X (a.1 + b.1,a.2 + b.2) w=X a w + X b w:=by unfold X;constructor<;>grind
theorem ZgN {p q:Pt}:X p q=0 - X q p:=by unfold X;grind
theorem ZlK {a b w:Pt}:in1 w a b=in1 w a (a.1 + b.1,a.2 + b.2) + in1 w (a.1 + b.1,a.2 + b.2) b:=by
 have s:=ZoF (a:=a) (b:=b) (w:=w)
 have e1:=ZgN (p:=w) (q:=a)
 have e2:=ZgN (p:=b) (q:=w)
 unfold in1
 rw[s.1,s.2,e1,e2]
 generalize X a w=p
 generalize X w b=q
 repeat' split
 all_goals omega
theorem ZlL {a b w:Pt}:in2 w a b=in2 w a (a.1 + b.1,a.2 + b.2) + in2 w (a.1 + b.1,a.2 + b.2) b:=by
 have s:=ZoF (a:=a) (b:=b) (w:=w)
 have e1:=ZgN (p:=w) (q:=a)
 have e2:=ZgN (p:=b) (q:=w)
 unfold in2
 rw[s.1,s.2,e1,e2]
 generalize X a w=p
 generalize X w b=q
 repeat' split
 all_goals omega
theorem ZjI {L R:List Pt} {a:Pt}:cy (L ++ a :: R) L.length=a:=by
 rw[ZbZ (by simp;omega)]
 simp
theorem ZoG {L R:List Pt} {a b:Pt}:cy (L ++ a :: b :: R) (L.length + 1)=b:=by
 rw[ZbZ (by simp;omega)]
 rw[show ((L.length:Int) + 1).toNat=L.length + 1 by omega]
 simp
theorem Zit {r:List Pt} {a:Pt}:cy (a :: r) (r.length + 1)=a:=by
 have:=ZeO (rs:=a :: r) (i:=(r.length:Int) + 1)
 rw[<- this,List.length_cons,show (r.length:Int) + 1 - ((r.length + 1:Nat):Int)=0 by omega,ZbZ (by simp)]
 rfl
theorem Zdb {f:Pt->Pt->Nat} (hk:k < rs.length) (hf:f (cy rs k) (cy rs (k + 1))=f (cy rs k) p + f p (cy rs (k + 1))):cyc f (ins rs k p)=cyc f rs:=by
 obtain ⟨L,a,R,e,hl⟩: ∃ L a R,rs=L ++ a :: R/\L.length=k:=⟨rs.take k,rs[k],rs.drop (k + 1),by rw[List.getElem_cons_drop,List.take_append_drop],by simp;omega⟩
 have ei:ins rs k p=L ++ a :: p :: R:=by
  unfold ins
  rw[e,<- hl,List.take_append,List.drop_append,List.take_of_length_le (by omega),List.drop_eq_nil_of_le (by omega)]
  simp
 have ca:cy rs k=a:=by rw[e,<- hl];exact ZjI
 cases R with
 |cons b R=>
  have cb:cy rs (k + 1)=b:=by rw[e,<- hl];exact ZoG
  rw[ca,cb] at hf
  rw[ei,e,Zb0,Zb0 L]
  simp only[List.cons_append,Zbl,cc]
  omega
 |nil=>
  cases L with
  |nil=>
   have cb:cy rs (k + 1)=a:=by
    rw[e,<- hl]
    exact Zit (r:=[]) (a:=a)
   rw[ca,cb] at hf
   rw[ei,e]
   simp[cyc,cc]
   omega
  |cons b L=>
   have cb:cy rs (k + 1)=b:=by
    rw[e,<- hl]
    have:=Zit (r:=L ++ [a]) (a:=b)
    simp only[List.length_append,List.length_cons,List.length_nil] at this ⊢
    exact this
   rw[ca,cb] at hf
   rw[ei,e]
   simp only[List.cons_append,Zbl]
   have e1:b :: (L ++ [a,p] ++ [b])=(b :: L) ++ a :: [p,b]:=by simp
   have e2:b :: (L ++ [a] ++ [b])=(b :: L) ++ a :: [b]:=by simp
   rw[e1,e2,ZcH,ZcH (b :: L) a [b]]
   simp only[cc]
   omega
theorem Fan.rot (h:Fan rs):Fan (rs.drop k ++ rs.take k):=fun w hw=>by
 rw[Zb0,Zb0 (rs.drop k),List.take_append_drop]
 exact h w hw
theorem Fan.ins (h:Fan rs) (hk:k < rs.length):Fan (ins rs k ((cy rs k).1 + (cy rs (k + 1)).1,(cy rs k).2 + (cy rs (k + 1)).2)):=fun w hw=>by
 rw[Zdb hk ZlK,Zdb hk ZlL]
 exact h w hw
theorem Zkm {f:Pt->Pt} {s:Int} (hs:s=1\/s= -1) (hf: ∀ p q,X (f p) (f q)=s * X p q) (w:Pt) (hw:w≠(0,0)): ∃ w':Pt,w'≠(0,0)/\ ∀ a,X (f a) w=s * X a w':=by
 have d:=hf (1,0) (0,1)
 have d1:X (f (1,0)) (f (0,1))=s:=by rw[d];simp[X]
 have lin: ∀ a,(f a).1=a.1 * (f (1,0)).1 + a.2 * (f (0,1)).1/\(f a).2=a.1 * (f (1,0)).2 + a.2 * (f (0,1)).2:=by
  intro a
  have h1:=hf a (1,0)
  have h2:=hf a (0,1)
  generalize f a=u at *
  generalize f (1,0)=e1 at *
  generalize f (0,1)=e2 at *
  unfold X at *
  rcases hs with rfl | rfl<;>constructor<;>grind
 refine ⟨(X w (f (0,1)) * s,X (f (1,0)) w * s),?_,?_⟩
 ·intro z
  apply hw
  have z1:=congrArg Prod.fst z
  have z2:=congrArg Prod.snd z
  simp only at z1 z2
  generalize f (1,0)=e1 at *
  generalize f (0,1)=e2 at *
  unfold X at *
  apply Prod.ext
  ·rcases hs with rfl | rfl<;>simp only[]<;>grind
  ·rcases hs with rfl | rfl<;>simp only[]<;>grind
 ·intro a
  obtain ⟨l1,l2⟩:=lin a
  unfold X
  rw[l1,l2]
  rcases hs with rfl | rfl<;>simp only[]<;>grind
theorem Fan.map (h:Fan rs) {f:Pt->Pt} (hf: ∀ p q,X (f p) (f q)=X p q):Fan (rs.map f):=fun w hw=>by
 obtain ⟨w',hw',e⟩:=Zkm (s:=1) (.inl rfl) (fun p q=>by rw[hf,Int.one_mul]) w hw
 have e2: ∀ a,X w (f a)=X w' a:=fun a=>by rw[ZgN,e,ZgN (p:=w')];omega
 have c1: ∀ a b,in1 w (f a) (f b)=in1 w' a b:=fun a b=>by unfold in1;rw[e,e2,Int.one_mul]
 have c2: ∀ a b,in2 w (f a) (f b)=in2 w' a b:=fun a b=>by unfold in2;rw[e,e2,Int.one_mul]
 rw[Zd6,Zd6,show (fun a b=>in1 w (f a) (f b))=in1 w' from funext fun a=>funext fun b=>c1 a b,show (fun a b=>in2 w (f a) (f b))=in2 w' from funext fun a=>funext fun b=>c2 a b]
 exact h w' hw'
theorem Fan.flip (h:Fan rs) {f:Pt->Pt} (hf: ∀ p q,X (f p) (f q)= -1 * X p q):Fan (rs.map f).reverse:=fun w hw=>by
 obtain ⟨w',hw',e⟩:=Zkm (s:= -1) (.inr rfl) hf w hw
 have e2: ∀ a,X w (f a)= -1 * X w' a:=fun a=>by rw[ZgN,e,ZgN (p:=w')];omega
 have c1: ∀ a b,in1 w (f b) (f a)=in2 w' a b:=fun a b=>by
  unfold in1 in2
  rw[e,e2,ZgN (p:=b)]
  have:=ZgN (p:=a) (q:=w')
  simp only[show (0<= -1 * (0 - X w' b)/\0 < -1 * X w' a)=(0 < X a w'/\0<=X w' b) from propext ⟨fun _=>by omega,fun _=>by omega⟩]
 have c2: ∀ a b,in2 w (f b) (f a)=in1 w' a b:=fun a b=>by
  unfold in1 in2
  rw[e,e2,ZgN (p:=b)]
  have:=ZgN (p:=a) (q:=w')
  simp only[show (0 < -1 * (0 - X w' b)/\0<= -1 * X w' a)=(0<=X a w'/\0 < X w' b) from propext ⟨fun _=>by omega,fun _=>by omega⟩]
 rw[Zis,Zis,Zd6,Zd6,show (fun a b=>in1 w (f b) (f a))=in2 w' from funext fun a=>funext fun b=>c1 a b,show (fun a b=>in2 w (f b) (f a))=in1 w' from funext fun a=>funext fun b=>c2 a b]
 exact ⟨(h w' hw').2,(h w' hw').1⟩
structure Smo (rs:List Pt):Prop where
 len:3<=rs.length
 one: ∀ i:Int,X (cy rs i) (cy rs (i + 1))=1
 fan:Fan rs
noncomputable def Nr (b:Int) (rs:List Pt):Prop:= ∀ p∈rs,(-b<=p.1/\p.1<=b)/\ -b<=p.2/\p.2<=b
theorem Smo.ne (h:Smo rs):rs≠[]:=by
 intro z
 have:=h.len
 rw[z] at this
 simp at this
theorem Nr.cy {b:Int} (h:Nr b rs) (hn:rs≠[]) (i:Int):(-b<=(cy rs i).1/\(cy rs i).1<=b)/\ -b<=(cy rs i).2/\(cy rs i).2<=b:=h _ (Zch hn)
theorem Smo.ins (h:Smo rs) (hk:k < rs.length):Smo (ins rs k ((cy rs k).1 + (cy rs (k + 1)).1,(cy rs k).2 + (cy rs (k + 1)).2)):=by
 have hL:=Zct (p:=((cy rs k).1 + (cy rs (k + 1)).1,(cy rs k).2 + (cy rs (k + 1)).2)) hk
 refine ⟨by rw[hL];have:=h.len;omega,?_,h.fan.ins hk⟩
 refine Zd5 (P:=fun a b=>X a b=1) (by omega) ?_
 intro i h0 h1
 rw[hL] at h1
 rw[Zkj hk h0 (by omega),Zkj hk (by omega) (by omega)]
 have ok:=h.one k
 by_cases c1:i + 1<=k
 ·rw[if_pos (by omega),if_pos c1];exact h.one i
 ·rw[if_neg c1]
  by_cases c2:i=k
  ·subst c2
   rw[if_pos (by omega),if_pos rfl]
   unfold X at *
   grind
  ·rw[if_neg (by omega: ¬ i<=(k:Int)),if_neg (by omega: ¬ i + 1=(k:Int) + 1)]
   by_cases c3:i=k + 1
   ·subst c3
    rw[if_pos rfl]
    have:(k:Int) + 1 + 1 - 1=k + 1:=by omega
    rw[this]
    unfold X at *
    grind
   ·rw[if_neg c3]
    have:=h.one (i - 1)
    have e:i - 1 + 1=i + 1 - 1:=by omega
    rw[e] at this
    exact this
theorem Smo.rot (h:Smo rs) (hk:k<=rs.length):Smo (rs.drop k ++ rs.take k):=by
 refine ⟨by have:=h.len;simp;omega,fun i=> ?_,h.fan.rot⟩
 rw[Zf7 hk,Zf7 hk]
 have:=h.one (i + k)
 have e:i + (k:Int) + 1=i + 1 + k:=by omega
 rw[e] at this
 exact this
theorem Nr.ins {b:Int} (h:Nr b rs) (hp:(-b<=p.1/\p.1<=b)/\ -b<=p.2/\p.2<=b):Nr b (ins rs k p):=by
 intro q hq
 rcases List.mem_append.mp hq with hq | hq
 ·exact h q (List.mem_of_mem_take hq)
 ·rcases List.mem_cons.mp hq with hq | hq
  ·subst hq;exact hp
  ·exact h q (List.mem_of_mem_drop hq)
theorem Nr.rot {b:Int} (h:Nr b rs):Nr b (rs.drop k ++ rs.take k):=by
 intro q hq
 rcases List.mem_append.mp hq with hq | hq
 ·exact h q (List.mem_of_mem_drop hq)
 ·exact h q (List.mem_of_mem_take hq)
end
end DL
end
section
namespace CC
open PySem PySem.Spec L2 DL
noncomputable def Zdc:Sv:=(ZW (e2 dSub (e2 dMul (e2 dIx (Zf 0) (eC (.int 0))) (e2 dIx (Zf 1) (eC (.int 1)))) (e2 dMul (e2 dIx (Zf 0) (eC (.int 1))) (e2 dIx (Zf 1) (eC (.int 0))))))
noncomputable def F_crossed:List D->Sto->Out D:=fnF Zdc 2 0
noncomputable def Zb1:Sv:=(ZW (e2 dIx (Zf 0) (e2 dMod (e2 dAdd (Zf 1) (eC (.int 1))) (Zk bLen (Zc (Zf 0) aNil)))))
noncomputable def F_following:List D->Sto->Out D:=fnF Zb1 2 0
noncomputable def Zbm:Sv:=(ZW (e2 dSub (e2 dMul (e2 dIx (Zf 0) (eC (.int 0))) (e2 dIx (Zf 1) (eC (.int 1)))) (e2 dMul (e2 dIx (Zf 0) (eC (.int 1))) (e2 dIx (Zf 1) (eC (.int 0))))))
noncomputable def F_law_cross:List D->Sto->Out D:=fnF Zbm 2 0
end CC
end
open PySem PySem.Spec L2 DL
set_option hygiene false
set_option compiler.extract_closed false
local macro_rules | `(tactic| simp! [$ls,*]) => `(tactic| simp (implicitDefEqProofs := false) (disch := omega) only [Zs3, y_c, y_v, Zoc, Zqe, Zod, Zqf, Zqg, Zqh, Zoe, Zqj, Zof, Zs4, Zs5, Zs6, Zqk, Zs7, Zql, Zog, Zqm, Zoh, Zs8, Zqn, Zs9, Zoi, Zqo, Zoj, Zqp, Zok, Zqq, Zqr, Zqs, Zol, Zom, Zta, Ztb, Zqt, Zqu, Zoo, Zqv, Zqw, ZlH, Zop, Zoq, Zqx, Zor, Zos, Zot, Zqy, ZgB, ZgC, ZeP, ZeQ, ZeR, ZeS, ZgD, ZgE, ZjD, ZjE, ZgF, ZgG, ZgH, ZgI, Zik, Zil, Zfj, Zfk, Zim, Zin, Zio, Zip, ZjF, ZjG, Ziq, Zir, ZgJ, ZgK, ZgL, ZgM, Zou, Ztd, Zte, Ztf, Zqz, ZqA, ZqB, Ztg, Zth, Zti, ZqC, ZqD, Ztj, Ztk, Ztl, ZqE, ZqF, ZjH, ZqG, ZqH, ZqI, Zow, ZlI, ZqJ, Zox, Ztm, ZqK, ZqL, ZqM, ZqN, Zoz, Ztn, ZqO, ZqP, ZqQ, Zto, ZqR, ZqS, ZqT, ZoA, kU, kQ, kB2, kB1, kA2, kA1, kTu, kLs, kTy, kIf, kTA, kTO, kTN, kSq, kDr, kSi, kAs, kAt, Zrv, kPa, Zrw, Zrx, Zry, Zrz, ZrA, ZrB, kPu, kRa, ZrC, ZrD, kR1, ZrE, ZrF, ZrG, kR2, kFo, kFs, kTr, ZrH, ZrI, kS1, ZrJ, ZrK, ZrL, kS2, ZrM, kEn, ZrN, ZrO, kZp, ZrP, ZrQ, ZrR, kRv, Zov, ZrS, Zpf, kEq, kNe, kIx, ZrT, kLi, ZrU, kAl, ZrV, ZrW, kMt, ZrX, ZrY, Zoy, ZrZ, ZlJ, Zr0, kCn, Zr1, Zr2, Zr3, Zr4, Zr5, Zr6, Zr7, Zju, Zjv, ZlA, Zjy, Zjz, Zjw, Zjx, ZlB, ZjB, ZjA, ZlD, ZlC, Zl3, decide_eq_true, decide_eq_false, wF1, wF2, wF3, wF4, Zm, Zny, ZsH, ZsI, ZsJ, ZsK, ZsL, ZsM, ZsF, ZsG, ZpM, ZpN, ZpO, ZnK, ZpP, ZpQ, ZpR, ZsO, ZsP, ZsQ, ZsR, ZnL, ZnN, ZnO, ZpX, ZpY, ZpZ, ZnP, ZnQ, Zly, ZnS, ZnT, Zjt, Zqa, Zqb, Zqc, Zqd, id, roB, kpR, cond_true, cond_false, at0, at1, at2, at3, gTp, gCs, gNl, gNm, List.set_cons_zero, List.set_cons_succ, List.getElem?_cons_zero, List.getElem?_cons_succ, List.length_cons, List.length_nil, List.length_append, List.length_map, List.map_cons, List.map_nil, List.cons_append, List.nil_append, List.append_assoc, List.append_nil, List.replicate_succ, List.replicate_zero, Option.join_some, Option.isSome_some, ZgA, Zd4, ZbP, Zkf, Zp7, ZnU, ZnV, Zv, Zlz, Zfi, ZsW, ZsX, ZnW, Zp9, ZnX, ZnY, ZnZ, Zn0, Zn1, Zn2, Zn3, Zn4, Zn5, Zn6, Zn7, Zn8, Zn9, Zoa, true_and, and_true, Bool.not_true, Bool.not_false, decide_true, decide_false, Nat.reduceAdd, Nat.reduceLeDiff, Nat.reduceLT, Nat.add_zero, Nat.zero_add, Int.reducePow, Int.reduceToNat, Int.reduceNeg, Int.reduceMod, Int.reduceDiv, Int.reduceAdd, Int.reduceSub, Int.reduceMul, Int.cast_ofNat_Int, Int.reduceEq, Int.reduceLT, Int.reduceLE, $ls,*])
set_option hygiene true
section
namespace CC
open PySem PySem.Spec L2 DL
section
variable {Q:D->Sto->Prop} {E:Str->Sto->Prop} {M:Sto} {a b c d i:Int} {n:Nat} {rs:List Pt}
theorem Ziu (ha: -(18446744073709551616) < a/\a < 18446744073709551616) (hb: -(18446744073709551616) < b/\b < 18446744073709551616):wO (F_crossed [pr a b,pr c d] M) Q E=Q (.int (a * d - b * c)) M:=by
 simp![F_crossed,Zdc]
theorem Zcu (ha: -(18446744073709551616) < a/\a < 18446744073709551616) (hb: -(18446744073709551616) < b/\b < 18446744073709551616):wO (F_law_cross [pr a b,pr c d] M) Q E=Q (.int (a * d - b * c)) M:=Ziu ha hb
theorem Zdd (h:M[n]?=some (.lst (prs rs))) (hi:0<=i/\i < rs.length):wO (F_following [.ref n,.int i] M) Q E=Q (pr (cy rs (i + 1)).1 (cy rs (i + 1)).2) M:=by
 have e:=ZaO (i:=i + 1) (m:=rs.length) (by omega)
 simp![F_following,Zb1,h,Zbu,ZcG]
theorem Zb2 {rs:List Pt} {i:Nat} (h:i < (prs rs).length):(prs rs)[i]=pr (cy rs i).1 (cy rs i).2:=by
 have h':i < rs.length:=by rw[Zv] at h;exact h
 rw[Zii h']
 simp[prs]
theorem Zde {w a b:Pt} {p q:Int} (h1:X a w=p) (h2:X w b=q):in1 w a b=if 0<=p/\0 < q then 1 else 0:=by unfold in1;rw[h1,h2]
theorem Zdf {w a b:Pt} {p q:Int} (h1:X a w=p) (h2:X w b=q):in2 w a b=if 0 < p/\0<=q then 1 else 0:=by unfold in2;rw[h1,h2]
theorem Ztq:Fan [(1,0),(0,1),(-1,-1)]:=by
 rintro ⟨x,y⟩ hw
 have hw': ¬ (x=0/\y=0):=fun z=>hw (by rw[z.1,z.2])
 have a1:X (1,0) (x,y)=y:=by simp[X]
 have a2:X (0,1) (x,y)= -x:=by simp[X]
 have a3:X (-1,-1) (x,y)=x - y:=by simp[X];omega
 have b1:X (x,y) (0,1)=x:=by simp[X]
 have b2:X (x,y) (-1,-1)=y - x:=by simp[X];omega
 have b3:X (x,y) (1,0)= -y:=by simp[X]
 simp only[cyc,List.take_succ_cons,List.take_zero,List.cons_append,List.nil_append,cc]
 rw[Zde a1 b1,Zde a2 b2,Zde a3 b3,Zdf a1 b1,Zdf a2 b2,Zdf a3 b3]
 clear a1 a2 a3 b1 b2 b3 hw
 constructor
 all_goals
  repeat' split
  all_goals omega
theorem Ztr (f:Int):Fan [(1,0),(0,1),(-1,f),(0,-1)]:=by
 rintro ⟨x,y⟩ hw
 have hw': ¬ (x=0/\y=0):=fun z=>hw (by rw[z.1,z.2])
 have h0:x=0->x * f=0:=fun z=>by rw[z,Int.zero_mul]
 have a1:X (1,0) (x,y)=y:=by simp[X]
 have a2:X (0,1) (x,y)= -x:=by simp[X]
 have a3:X (-1,f) (x,y)= -y - x * f:=by unfold X;simp only;grind
 have a4:X (0,-1) (x,y)=x:=by simp[X]
 have b1:X (x,y) (0,1)=x:=by simp[X]
 have b2:X (x,y) (-1,f)=x * f + y:=by unfold X;simp only;grind
 have b3:X (x,y) (0,-1)= -x:=by simp[X]
 have b4:X (x,y) (1,0)= -y:=by simp[X]
 simp only[cyc,List.take_succ_cons,List.take_zero,List.cons_append,List.nil_append,cc]
 rw[Zde a1 b1,Zde a2 b2,Zde a3 b3,Zde a4 b4,Zdf a1 b1,Zdf a2 b2,Zdf a3 b3,Zdf a4 b4]
 clear a1 a2 a3 a4 b1 b2 b3 b4 hw
 generalize x * f=z at *
 constructor
 all_goals
  repeat' split
  all_goals omega
theorem Zts:Smo [(1,0),(0,1),(-1,-1)]:=by
 refine ⟨by decide,Zd5 (P:=fun a b=>X a b=1) (by decide) ?_,Ztq⟩
 intro i h0 h1
 have:i=0\/i=1\/i=2:=by simp at h1;omega
 rcases this with rfl | rfl | rfl<;>rfl
theorem Ztt (f:Int):Smo [(1,0),(0,1),(-1,f),(0,-1)]:=by
 refine ⟨by simp,Zd5 (P:=fun a b=>X a b=1) (by simp) ?_,Ztr f⟩
 intro i h0 h1
 have:i=0\/i=1\/i=2\/i=3:=by simp at h1;omega
 rcases this with rfl | rfl | rfl | rfl<;>simp[X,cy]
end
end CC
end
section
namespace DL
noncomputable def T (rs:List Pt) (i:Int):Int:=0 - X (cy rs (i - 1)) (cy rs (i + 1))
section
variable {rs:List Pt} {k:Nat} {p:Pt} {j:Int}
end
end DL
namespace CC
open PySem PySem.Spec L2 DL
section
variable {Q:D->Sto->Prop} {E:Str->Sto->Prop} {M:Sto} {a b c d i:Int} {n:Nat} {rs:List Pt}
end
end CC
end
section
namespace DL
noncomputable def del (rs:List Pt) (k:Nat):List Pt:=rs.take k ++ rs.drop (k + 1)
section
variable {rs:List Pt} {k:Nat} {p:Pt} {j:Int}
theorem ZoH (p q:Pt):X p q=0 - X q p:=by unfold X;grind
theorem Ziv (hk:k < rs.length):(del rs k).length=rs.length - 1:=by simp[del];omega
end
end DL
end
section
namespace DL
noncomputable def nm (p:Pt):Int:=p.1 * p.1 + p.2 * p.2
end DL
namespace DL
section
variable {rs:List Pt} {k:Nat}
theorem ZlM {f:Pt->Pt->Nat} {a b p:Pt} {L R Y:List Pt} (e:R ++ L=b :: (Y ++ [a])) (hf:f a b=f a p + f p b):cyc f (L ++ R)=cyc f (L ++ p :: R):=by
 rw[Zb0 L R,e,Zb0 L,List.cons_append,e]
 simp only[Zbl,List.cons_append,cc]
 have e1:b :: (Y ++ [a] ++ [p])=(b :: Y) ++ a :: [p]:=by simp
 have e2:b :: (Y ++ [a] ++ [b])=(b :: Y) ++ a :: [b]:=by simp
 rw[e1,e2,ZcH (b :: Y) a [p],ZcH (b :: Y) a [b]]
 simp only[cc]
 omega
end
end DL
end
section
namespace CE
open PySem PySem.Spec L2 DL
end CE
end
section
namespace CE
open PySem PySem.Spec L2 DL
section
variable {Q:D->Sto->Prop} {E:Str->Sto->Prop} {M:Sto} {a b c d i:Int} {n:Nat} {rs:List Pt}
end
end CE
end
section
namespace CF
open PySem PySem.Spec L2 DL CC
end CF
end
section
namespace CF
open PySem PySem.Spec L2 DL
section
variable {Q:D->Sto->Prop} {E:Str->Sto->Prop} {M:Sto} {a b c d i:Int} {n:Nat} {rs:List Pt}
theorem Nr.del {b:Int} {k:Nat} (h:Nr b rs):Nr b (del rs k):=fun p hp=>h p (by
 rcases List.mem_append.mp hp with z | z
 ·exact List.mem_of_mem_take z
 ·exact List.mem_of_mem_drop z)
end
end CF
end
section
namespace DL
open PySem PySem.Spec L2 DL
section
variable {M:Sto}
theorem ZoI {k:Nat} {a b:Str}:eqF (k + 1) M (.str a) (.str b)=some (a == b):=rfl
end
end DL
end
section
namespace CB
open PySem PySem.Spec L2 DL
end CB
end
section
namespace DL
noncomputable def hj (t b:Int):List Int:=if h:0 < b then -((-t) / b) :: hj b (-((-t) / b) * b - t) else []
termination_by b.toNat
decreasing_by
 have h1:=Int.emod_nonneg (-t) (show b≠0 by omega)
 have h2:=Int.emod_lt_of_pos (-t) h
 have h3:=Int.emod_add_mul_ediv (-t) b
 rw[Int.neg_mul,Int.mul_comm]
 omega
end DL
namespace CB
open PySem PySem.Spec L2 DL
section
variable {Q:D->Sto->Prop} {E:Str->Sto->Prop} {M:Sto} {a b c d i:Int} {n m:Nat} {u v w:Pt}
noncomputable abbrev Bd (b:Int) (p:Pt):Prop:=(-b<=p.1/\p.1<=b)/\ -b<=p.2/\p.2<=b
structure Fb (u v w:Pt):Prop where
 one:X u w=1
 lo:0<=X w v
 hi:X w v < X u v
theorem Fb.uniq {w w':Pt} (h:Fb u v w) (k:Fb u v w'):w=w':=by
 obtain ⟨h1,a1,a2⟩:=h
 obtain ⟨h2,b1,b2⟩:=k
 have e1:w'.1=X w' w * u.1 + w.1/\w'.2=X w' w * u.2 + w.2:=by unfold X at *;constructor<;>grind
 have e2:X w' v=X w' w * X u v + X w v:=by
  have:X w' v=X (X w' w * u.1 + w.1,X w' w * u.2 + w.2) v:=by rw[<- e1.1,<- e1.2]
  rw[this]
  unfold X
  simp only
  grind
 generalize X w' w=k at *
 have k0:k=0:=by
  apply Classical.byContradiction
  intro c
  by_cases p:1<=k
  ·have:1 * X u v<=k * X u v:=Int.mul_le_mul_of_nonneg_right p (by omega)
   omega
  ·have:k * X u v<=(-1) * X u v:=Int.mul_le_mul_of_nonneg_right (by omega) (by omega)
   omega
 rw[k0] at e1
 apply Prod.ext<;>omega
noncomputable def btw:Pt->Pt->List Int->List Pt
 |_,_,[]=>[]
 |a,r,k :: ks=>r :: btw r (k * r.1 - a.1,k * r.2 - a.2) ks
end
end CB
end
section
namespace CB
open PySem PySem.Spec L2 DL
section
variable {Q:D->Sto->Prop} {E:Str->Sto->Prop} {M:Sto} {a b c d i:Int} {n m:Nat} {u v w:Pt}
noncomputable def Ch:List Pt->Prop
 |a :: b :: r=>X a b=1/\Ch (b :: r)
 |_=>True
noncomputable def Tr (a b d:Pt):Prop:= ∃ k:Int,2<=k/\a.1 + d.1=k * b.1/\a.2 + d.2=k * b.2
noncomputable def Cv:List Pt->Prop
 |a :: b :: d :: r=>Tr a b d/\Cv (b :: d :: r)
 |_=>True
end
section
variable {u v w:Pt}
end
end CB
end
section
namespace CA
open PySem PySem.Spec L2 DL
noncomputable def ZeU:Sv:=(ZB (ZO (gNm 2) (eC (.int 0)))
 (ZB (sIf (tv (e2 dLt (Zf 1) (Zk bLen (Zc (Zf 0) aNil)))) (ZO (gNm 2) (Zk bAbs (Zc (e2 dIx (Zf 0) (Zf 1)) aNil))) sNil)
 (ZB (ZO (gNm 3) (e2 dAdd (eC (.int 1)) (e2 dMod (e2 dAdd (e2 dAdd (e2 dAdd (e2 dMod (Zf 2) (eC (.int 2147483647))) (e2 dMul (e2 dMul (eC (.int 7919)) (Zf 1)) (Zf 1))) (e2 dMul (eC (.int 11)) (Zf 1))) (eC (.int 5))) (eC (.int 2147483646)))))
 (ZW (ZaD (Zc (e2 dMul (Zf 2) (Zk bInt (Zc (e2 dGe (Zf 2) (e2 dPow (eC (.int 10)) (eC (.int 18)))) aNil))) (Zc (Zf 3) aNil)))))))
noncomputable def F_law_bag:List D->Sto->Out D:=fnF ZeU 2 2
noncomputable def Zdg:Sv:=(ZB (sIf (tv (e2 dGt (e2 dIx (Zf 0) (eC (.int 0))) (eC (.int 0)))) (ZB (ZO (gNm 2) (e2 dMod (e2 dIx (Zf 0) (eC (.int 0))) (Zf 1)))
 (ZB (Ze8 (Zf 0) (eC (.int 0)) (e2 dDiv (e2 dIx (Zf 0) (eC (.int 0))) (Zf 1)))
 (ZW (Zf 2)))) sNil)
 (ZB (Ze8 (Zf 0) (eC (.int 1)) (e2 dMod (e2 dMul (e2 dIx (Zf 0) (eC (.int 1))) (eC (.int 48271))) (eC (.int 2147483647))))
 (ZW (e2 dMod (e2 dDiv (e2 dMod (e2 dMul (e2 dIx (Zf 0) (eC (.int 1))) (eC (.int 16807))) (eC (.int 2147483647))) (eC (.int 32))) (Zf 1)))))
noncomputable def F_law_digit:List D->Sto->Out D:=fnF Zdg 2 1
noncomputable def Zdh:Sv:=(ZB (ZO (gTp (gCs (gNm 2) (gCs (gNm 3) gNl))) (Zf 0))
 (ZW (Z3 (Zc (e2 dAdd (e2 dMul (e2 dIx (Zf 2) (eC (.int 0))) (e2 dIx (Zf 1) (eC (.int 0)))) (e2 dMul (e2 dIx (Zf 2) (eC (.int 1))) (e2 dIx (Zf 1) (eC (.int 1))))) (Zc (e2 dAdd (e2 dMul (e2 dIx (Zf 3) (eC (.int 0))) (e2 dIx (Zf 1) (eC (.int 0)))) (e2 dMul (e2 dIx (Zf 3) (eC (.int 1))) (e2 dIx (Zf 1) (eC (.int 1))))) aNil)))))
noncomputable def F_law_led:List D->Sto->Out D:=fnF Zdh 2 2
noncomputable def Zcv:Sv:=(ZB (ZO (gNm 2) (Zk F_law_led (Zc (Zf 1) (Zc (Z3 (Zc (e2 dIx (e2 dIx (Zf 0) (eC (.int 0))) (eC (.int 0))) (Zc (e2 dIx (e2 dIx (Zf 0) (eC (.int 1))) (eC (.int 0))) aNil))) aNil))))
 (ZB (ZO (gNm 3) (Zk F_law_led (Zc (Zf 1) (Zc (Z3 (Zc (e2 dIx (e2 dIx (Zf 0) (eC (.int 0))) (eC (.int 1))) (Zc (e2 dIx (e2 dIx (Zf 0) (eC (.int 1))) (eC (.int 1))) aNil))) aNil))))
 (ZW (Z3 (Zc (Z3 (Zc (e2 dIx (Zf 2) (eC (.int 0))) (Zc (e2 dIx (Zf 3) (eC (.int 0))) aNil))) (Zc (Z3 (Zc (e2 dIx (Zf 2) (eC (.int 1))) (Zc (e2 dIx (Zf 3) (eC (.int 1))) aNil))) aNil))))))
noncomputable def F_law_both:List D->Sto->Out D:=fnF Zcv 2 2
noncomputable def ZaC:Sv:=(ZB (ZO (gNm 3) (e2 dSub (Zk F_law_digit (Zc (Zf 0) (Zc (eC (.int 7)) aNil))) (eC (.int 3))))
 (ZB (ZO (gNm 4) (ZaD (Zc (Z3 (Zc (Z3 (Zc (eC (.int 1)) (Zc (Zf 3) aNil))) (Zc (Z3 (Zc (eC (.int 0)) (Zc (eC (.int 1)) aNil))) aNil))) (Zc (Z3 (Zc (Z3 (Zc (eC (.int 1)) (Zc (eC (.int 0)) aNil))) (Zc (Z3 (Zc (Zf 3) (Zc (eC (.int 1)) aNil))) aNil))) (Zc (Z3 (Zc (Z3 (Zc (eC (.int 0)) (Zc (eC (.int 1)) aNil))) (Zc (Z3 (Zc (eC (.int 1)) (Zc (eC (.int 0)) aNil))) aNil))) (Zc (Z3 (Zc (Z3 (Zc (eC (.int 0)) (Zc (Ze7 (eC (.int 1))) aNil))) (Zc (Z3 (Zc (eC (.int 1)) (Zc (eC (.int 0)) aNil))) aNil))) aNil))))))
 (ZO (gNm 1) (Zk F_law_both (Zc (Zf 1) (Zc (e2 dIx (Zf 4) (Zk F_law_digit (Zc (Zf 0) (Zc (eC (.int 4)) aNil)))) aNil))))))
noncomputable def Zbn:Sv:=(ZB (ZO (gNm 1) (Z3 (Zc (Z3 (Zc (eC (.int 1)) (Zc (eC (.int 0)) aNil))) (Zc (Z3 (Zc (eC (.int 0)) (Zc (eC (.int 1)) aNil))) aNil))))
 (ZB (Zbt (gNm 2) (Zc (Zk F_law_digit (Zc (Zf 0) (Zc (eC (.int 4)) aNil))) aNil) ZaC)
 (ZW (Zf 1))))
noncomputable def F_law_turning:List D->Sto->Out D:=fnF Zbn 1 4
noncomputable def Zbm:Sv:=(ZW (e2 dSub (e2 dMul (e2 dIx (Zf 0) (eC (.int 0))) (e2 dIx (Zf 1) (eC (.int 1)))) (e2 dMul (e2 dIx (Zf 0) (eC (.int 1))) (e2 dIx (Zf 1) (eC (.int 0))))))
noncomputable def F_law_cross:List D->Sto->Out D:=fnF Zbm 2 0
noncomputable def Zdi:Sv:=(ZW (Z3 (Zc (e2 dAdd (e2 dIx (Zf 0) (eC (.int 0))) (e2 dIx (Zf 1) (eC (.int 0)))) (Zc (e2 dAdd (e2 dIx (Zf 0) (eC (.int 1))) (e2 dIx (Zf 1) (eC (.int 1)))) aNil))))
noncomputable def F_law_sum:List D->Sto->Out D:=fnF Zdi 2 0
noncomputable def ZbH:Sv:=(ZW (ZaE (e2 dLe (Zk bAbs (Zc (e2 dIx (Zf 0) (eC (.int 0))) aNil)) (eC (.int 200))) (e2 dLe (Zk bAbs (Zc (e2 dIx (Zf 0) (eC (.int 1))) aNil)) (eC (.int 200)))))
noncomputable def F_law_near:List D->Sto->Out D:=fnF ZbH 1 0
noncomputable def Zbo:Sv:=(ZB (ZO (gNm 3) (ZbN (iSq (Zf 0)) 1 [1] (gNm 0) (fun _ M=> .ok true M) (Zk F_law_led (Zc (Zf 1) (Zc (Zf 0) aNil)))))
 (ZB (sIf (ZaL (tv (Zk bAll (Zc (ZbN (iSq (Zf 3)) 1 [] (gNm 0) (fun _ M=> .ok true M) (Zk F_law_near (Zc (Zf 0) aNil))) aNil)))) (ZO (gNm 3) (Zk bList (Zc (Zf 0) aNil))) (sIf (tv (e2 dLt (Zk F_law_cross (Zc (e2 dIx (Zf 3) (eC (.int 0))) (Zc (e2 dIx (Zf 3) (eC (.int 1))) aNil))) (eC (.int 0)))) (ZO (gNm 3) (eRv (Zf 3))) sNil))
 (ZW (e2 dAdd (eSl (Zf 3) (oSo (Zf 2)) oNo) (eSl (Zf 3) oNo (oSo (Zf 2)))))))
noncomputable def F_law_brought:List D->Sto->Out D:=fnF Zbo 3 1
noncomputable def ZaP:Sv:=(ZB (ZO (gNm 4) (Zk F_law_digit (Zc (Zf 0) (Zc (Zk bLen (Zc (Zf 2) aNil)) aNil))))
 (ZB (ZO (gNm 5) (Zk F_law_sum (Zc (e2 dIx (Zf 2) (Zf 4)) (Zc (e2 dIx (Zf 2) (e2 dMod (e2 dAdd (Zf 4) (eC (.int 1))) (Zk bLen (Zc (Zf 2) aNil)))) aNil))))
 (sIf (Za5 (tv (Zk F_law_near (Zc (Zf 5) aNil))) (tv (e2 dLt (Zk bLen (Zc (Zf 2) aNil)) (eC (.int 14))))) (ZO (gNm 2) (e2 dAdd (e2 dAdd (eSl (Zf 2) oNo (oSo (e2 dAdd (Zf 4) (eC (.int 1))))) (ZaD (Zc (Zf 5) aNil))) (eSl (Zf 2) (oSo (e2 dAdd (Zf 4) (eC (.int 1)))) oNo))) sNil)))
noncomputable def ZbD:Sv:=(ZB (ZO (gNm 1) (Zk F_law_digit (Zc (Zf 0) (Zc (e2 dIx (ZaD (Zc (eC (.int 4)) (Zc (eC (.int 4)) (Zc (eC (.int 4)) (Zc (eC (.int 4)) (Zc (eC (.int 4)) (Zc (eC (.int 4)) (Zc (eC (.int 12)) (Zc (eC (.int 201)) aNil))))))))) (Zk F_law_digit (Zc (Zf 0) (Zc (eC (.int 8)) aNil)))) aNil))))
 (ZB (ZO (gNm 2) (e2 dIx (ZaD (Zc (ZaD (Zc (Z3 (Zc (eC (.int 1)) (Zc (eC (.int 0)) aNil))) (Zc (Z3 (Zc (eC (.int 0)) (Zc (eC (.int 1)) aNil))) (Zc (Z3 (Zc (Ze7 (eC (.int 1))) (Zc (Ze7 (eC (.int 1))) aNil))) aNil)))) (Zc (ZaD (Zc (Z3 (Zc (eC (.int 1)) (Zc (eC (.int 0)) aNil))) (Zc (Z3 (Zc (eC (.int 0)) (Zc (eC (.int 1)) aNil))) (Zc (Z3 (Zc (Ze7 (eC (.int 1))) (Zc (Zf 1) aNil))) (Zc (Z3 (Zc (eC (.int 0)) (Zc (Ze7 (eC (.int 1))) aNil))) aNil))))) aNil))) (Zk F_law_digit (Zc (Zf 0) (Zc (eC (.int 2)) aNil)))))
 (ZB (Zbt (gNm 3) (Zc (Zk F_law_digit (Zc (Zf 0) (Zc (e2 dIx (ZaD (Zc (eC (.int 5)) (Zc (eC (.int 5)) (Zc (eC (.int 12)) (Zc (eC (.int 5)) aNil))))) (Zk F_law_digit (Zc (Zf 0) (Zc (eC (.int 4)) aNil)))) aNil))) aNil) ZaP)
 (ZB (ZO (gNm 6) (Zk F_law_digit (Zc (Zf 0) (Zc (Zk bLen (Zc (Zf 2) aNil)) aNil))))
 (ZW (Zk F_law_brought (Zc (Zf 2) (Zc (Zk F_law_turning (Zc (Zf 0) aNil)) (Zc (Zf 6) aNil)))))))))
noncomputable def F_law_smooth:List D->Sto->Out D:=fnF ZbD 1 6
end CA
end
section
namespace CA
open PySem PySem.Spec L2 DL
theorem ZlN:F_law_digit=FDigit:=rfl
theorem ZqX:F_law_bag=FBag:=rfl
theorem Zfl:F_law_cross=CC.F_law_cross:=rfl
noncomputable abbrev mt (a b c d:Int):D:= .tup [pr a b,pr c d]
structure Tn (B a b c d:Int):Prop where
 fa: -B<=a/\a<=B
 fb: -B<=b/\b<=B
 fc: -B<=c/\c<=B
 fd: -B<=d/\d<=B
 det:a * d - b * c=1\/a * d - b * c= -1
theorem Zkn {B C x y:Int} (hx: -B<=x/\x<=B) (hy: -C<=y/\y<=C): -(B * C)<=x * y/\x * y<=B * C:=by
 have h:(x * y).natAbs<=(B * C).natAbs:=by
  rw[Int.natAbs_mul,Int.natAbs_mul]
  exact Nat.mul_le_mul (by omega) (by omega)
 have:0<=B * C:=Int.mul_nonneg (by omega) (by omega)
 omega
section
variable {Q:D->Sto->Prop} {E:Str->Sto->Prop} {M:Sto} {a b c d i:Int} {n m:Nat} {rs:List Pt}
theorem ZqY {ns:List Int} {k:Nat} (hk:k < 1000) (q: ∀ a b:Int,0<=a->Q (.ref M.length) (M ++ [.lst [.int a,.int b]])):wO (F_law_bag [.rol (ns.map D.int),.int k] M) Q E:=by
 obtain ⟨a,b,h,e⟩:=Znq (ns:=ns) (k:=k) (M:=M) hk
 rw[ZqX,e]
 exact q a b h
theorem ZG {t:Int} (hb:Bag n M) (ht:0 < t/\t < 18446744073709551616) (q: ∀ r M',0<=r->r < t->Gr n M M'->Q (.int r) M'):wO (F_law_digit [.ref n,.int t] M) Q E:=by
 obtain ⟨r,M',e,r0,r1,g⟩:=Zjn hb ht.1 (ZcF ht)
 rw[ZlN,e]
 exact q r M' r0 r1 g
theorem ZoJ {x y:Int} (h:Tn 1000000 a b c d):wO (F_law_led [mt a b c d,pr x y] M) Q E=Q (pr (a * x + b * y) (c * x + d * y)) M:=by
 obtain ⟨h1,h2,h3,h4,_⟩:=h
 simp![F_law_led,Zdh]
theorem ZoK {p q r s:Int} (h:Tn 1000000 p q r s):wO (F_law_both [mt a b c d,mt p q r s] M) Q E=Q (mt (p * a + q * c) (p * b + q * d) (r * a + s * c) (r * b + s * d)) M:=by
 simp![F_law_both,Zcv,ZoJ h]
theorem ZlO {B p q r s:Int} (h:Tn B a b c d) (k:Tn 3 p q r s):Tn (6 * B) (p * a + q * c) (p * b + q * d) (r * a + s * c) (r * b + s * d):=by
 refine ⟨?_,?_,?_,?_,?_⟩
 ·have:=Zkn k.fa h.fa;have:=Zkn k.fb h.fc;omega
 ·have:=Zkn k.fa h.fb;have:=Zkn k.fb h.fd;omega
 ·have:=Zkn k.fc h.fa;have:=Zkn k.fd h.fc;omega
 ·have:=Zkn k.fc h.fb;have:=Zkn k.fd h.fd;omega
 ·have:(p * a + q * c) * (r * b + s * d) - (p * b + q * d) * (r * a + s * c)=(p * s - q * r) * (a * d - b * c):=by grind
  rw[this]
  rcases h.det with e | e<;>rcases k.det with e' | e'<;>rw[e,e']<;>decide
theorem Tn.mono {B B':Int} (h:Tn B a b c d) (hb:B<=B'):Tn B' a b c d:=by
 obtain ⟨h1,h2,h3,h4,h5⟩:=h
 exact ⟨by omega,by omega,by omega,by omega,h5⟩
theorem Ziw (hb:Bag n M) (q: ∀ a b c d M',Tn 216 a b c d->Gr n M M'->Q (mt a b c d) M'):wO (F_law_turning [.ref n] M) Q E:=by
 simp![F_law_turning,Zbn]
 refine ZG hb (by decide) fun r M1 r0 r1 g1=> ?_
 simp![Zm]
 refine ⟨by omega,?_⟩
 refine ZcE (fun i ρ M'=> ∃ a b c d x y z,ρ=[some (.ref n),some (mt a b c d),x,y,z]/\Tn (6 ^ i) a b c d/\Gr n M M') ⟨1,0,0,1,_,_,_,rfl,⟨by decide,by decide,by decide,by decide,.inl (by decide)⟩,g1⟩ ?_ ?_
 ·rintro i ρ M2 hi ⟨a,b,c,d,x,y,z,rfl,tn,gr⟩
  simp![ZaC]
  refine ZG gr.bag (by decide) fun s M3 s0 s1 g3=> ?_
  simp![Zm]
  refine ZG (g3.bag.app _) (by decide) fun k M4 k0 k1 g4=> ?_
  have hL:=Gr.new g3.bag g4
  obtain ⟨p,q',r',s',ht,tk⟩: ∃ p q r' s',atI [mt 1 (s - 3) 0 1,mt 1 0 (s - 3) 1,mt 0 1 1 0,mt 0 (-1) 1 0] k=some (mt p q r' s')/\Tn 3 p q r' s':=by
   have:k=0\/k=1\/k=2\/k=3:=by omega
   rcases this with rfl | rfl | rfl | rfl
   ·exact ⟨1,s - 3,0,1,rfl,⟨by decide,by omega,by decide,by decide,.inl (by grind)⟩⟩
   ·exact ⟨1,0,s - 3,1,rfl,⟨by decide,by decide,by omega,by decide,.inl (by grind)⟩⟩
   ·exact ⟨0,1,1,0,rfl,⟨by decide,by decide,by decide,by decide,.inr (by decide)⟩⟩
   ·exact ⟨0,-1,1,0,rfl,⟨by decide,by decide,by decide,by decide,.inl (by decide)⟩⟩
  simp![hL,ht,ZoK (tk.mono (by decide))]
  have bt:=ZlO tn tk
  rw[show (6:Int) * 6 ^ i=6 ^ (i + 1) by rw[Int.pow_succ,Int.mul_comm]] at bt
  exact ⟨_,_,_,_,_,_,_,rfl,bt,(gr.trans g3).trans ((Gr.app g3.bag _).trans g4)⟩
 ·rintro ρ M2 ⟨a,b,c,d,x,y,z,rfl,tn,gr⟩
  simp![Zm]
  refine q a b c d M2 (tn.mono ?_) gr
  have:r.toNat=0\/r.toNat=1\/r.toNat=2\/r.toNat=3:=by omega
  rcases this with e | e | e | e<;>rw[e]<;>decide
theorem Zko {x y:Int}:wO (F_law_near [pr x y] M) Q E=Q (.bl (decide ((-200<=x/\x<=200)/\ -200<=y/\y<=200))) M:=by
 by_cases h1: -200<=x/\x<=200
 ·simp![F_law_near,ZbH]
  congr 2
  rw[Bool.eq_iff_iff]
  simp only[decide_eq_true_eq]
  omega
 ·simp![F_law_near,ZbH]
theorem Zix (bs:List Bool):ZaM (bs.map D.bl)=some bs:=by
 induction bs with
 |nil=>rfl
 |cons b r ih=>
  show (match ZaM (r.map D.bl) with | some bs=>some (b :: bs) | none=>none)=_
  rw[ih]
theorem Zkp (h:rs≠[]) (i:Int):cy rs.reverse i=cy rs (-1 - i):=by
 have hl:rs.length≠0:=by simpa using h
 have e1:cy rs.reverse i=cy rs.reverse (i % rs.length):=by
  conv=>rhs;rw[<- List.length_reverse (as:=rs),ZcG]
 have e2:cy rs (-1 - i)=cy rs (-1 - i % rs.length):=by
  unfold cy
  congr 2
  rw[Int.sub_emod,Int.sub_emod (-1) (i % rs.length),Int.emod_emod_of_dvd _ (Int.dvd_refl _)]
 rw[e1,e2]
 obtain ⟨a,b⟩:=ZaO (i:=i) hl
 generalize i % (rs.length:Int)=m at *
 rw[ZbZ (by rw[List.length_reverse];omega),<- Zf6 (rs:=rs),ZbZ (by omega)]
 rw[List.getD_eq_getElem?_getD,List.getD_eq_getElem?_getD,List.getElem?_reverse (by omega)]
 congr 2
 omega
theorem ZlP (hl:3<=rs.length) (h: ∀ i:Int,X (cy rs i) (cy rs (i + 1))= -1) (hf:Fan rs.reverse):Smo rs.reverse:=by
 have ne:rs≠[]:=by intro z;rw[z] at hl;simp at hl
 refine ⟨by rw[List.length_reverse];exact hl,fun i=> ?_,hf⟩
 rw[Zkp ne,Zkp ne,ZoH]
 have:=h (-1 - (i + 1))
 rw[show -1 - (i + 1) + 1= -1 - i by omega] at this
 omega
theorem ZlQ:(prs rs).reverse=prs rs.reverse:=by simp[prs]
theorem Ziy {st:Int} (h:M[n]?=some (.lst (prs rs))) (hs:Smo rs) (hb:Nr 200 rs) (hl:rs.length<=1000) (ht:Tn 1000000 a b c d) (hst:0<=st/\st<=rs.length)
  (q: ∀ ss m M',Smo ss->Nr 200 ss->ss.length=rs.length->M.length<=m->M'[m]?=some (.lst (prs ss))->M.length<=M'.length->(∀ k,k < M.length->M'[k]?=M[k]?)->Q (.ref m) M'):wO (F_law_brought [.ref n,mt a b c d,.int st] M) Q E:=by
 have hn:=Zaa h
 have h3:=hs.len
 simp![F_law_brought,Zbo]
 refine Zr9 (fun ρ=> ∃ x,ρ=[x,some (mt a b c d)]) (fun (i:Nat)=>pr (a * (cy rs i).1 + b * (cy rs i).2) (c * (cy rs i).1 + d * (cy rs i).2)) h (by rw[Zv];omega) ⟨_,rfl⟩ ?_ ?_
 ·rintro i hi ρ L ⟨x,rfl⟩
  rw[CC.Zb2]
  simp![ZoJ ht]
  exact ⟨_,rfl⟩
 rw[ZjC,Zv]
 generalize hT:((List.range rs.length).map fun (i:Nat)=>(a * (cy rs i).1 + b * (cy rs i).2,c * (cy rs i).1 + d * (cy rs i).2))=ts
 have eT:ts=rs.map fun p=>(a * p.1 + b * p.2,c * p.1 + d * p.2):=by
  rw[<- hT]
  apply List.ext_getElem
  ·simp
  ·intro i h1 h2
   simp at h1
   simp[Zii h1]
 have tl:ts.length=rs.length:=by rw[eT];simp
 have tX: ∀ i:Int,X (cy ts i) (cy ts (i + 1))=a * d - b * c:=by
  intro i
  rw[eT,Zki hs.ne,Zki hs.ne]
  have:=hs.one i
  have e:X (a * (cy rs i).1 + b * (cy rs i).2,c * (cy rs i).1 + d * (cy rs i).2) (a * (cy rs (i + 1)).1 + b * (cy rs (i + 1)).2,c * (cy rs (i + 1)).1 + d * (cy rs (i + 1)).2)=(a * d - b * c) * X (cy rs i) (cy rs (i + 1)):=by unfold X;simp only;grind
  rw[e,this,Int.mul_one]
 have lX: ∀ p q:Pt,X (a * p.1 + b * p.2,c * p.1 + d * p.2) (a * q.1 + b * q.2,c * q.1 + d * q.2)=(a * d - b * c) * X p q:=by
  intro p q;unfold X;simp only;grind
 have tne:ts≠[]:=by intro z;rw[z] at tl;simp at tl;omega
 have k1:(M ++ [SO.lst (prs ts)])[M.length]?=some (.lst (prs ts)):=by simp
 have k2:(M ++ [SO.lst (prs ts)])[n]?=some (.lst (prs rs)):=by rw[ZbP hn];exact h
 have l1:(M ++ [SO.lst (prs ts)]).length=M.length + 1:=by simp
 have g1: ∀ k,k < M.length->(M ++ [SO.lst (prs ts)])[k]?=M[k]?:=fun k hk=>ZbP hk
 generalize M ++ [SO.lst (prs ts)]=M1 at *
 simp![Zm]
 refine Zr9 (fun ρ=> ∃ x,ρ=[x]) (fun (i:Nat)=> .bl (decide ((-200<=(cy ts i).1/\(cy ts i).1<=200)/\ -200<=(cy ts i).2/\(cy ts i).2<=200))) k1 (by rw[Zv];omega) ⟨_,rfl⟩ ?_ ?_
 ·rintro i hi ρ L ⟨x,rfl⟩
  rw[CC.Zb2]
  simp![Zko]
  exact ⟨_,rfl⟩
 have eB:(List.range (prs ts).length).map (fun (i:Nat)=>D.bl (decide ((-200<=(cy ts i).1/\(cy ts i).1<=200)/\ -200<=(cy ts i).2/\(cy ts i).2<=200)))=((List.range ts.length).map fun (i:Nat)=>decide ((-200<=(cy ts i).1/\(cy ts i).1<=200)/\ -200<=(cy ts i).2/\(cy ts i).2<=200)).map D.bl:=by
  rw[List.map_map,Zv]
  rfl
 rw[eB]
 generalize hbs:((List.range ts.length).map fun (i:Nat)=>decide ((-200<=(cy ts i).1/\(cy ts i).1<=200)/\ -200<=(cy ts i).2/\(cy ts i).2<=200))=bs
 have nr:bs.all id=true->Nr 200 ts:=by
  intro hall p hp
  obtain ⟨k,hk,rfl⟩:=List.getElem_of_mem hp
  have:=List.all_eq_true.mp hall (decide ((-200<=(cy ts k).1/\(cy ts k).1<=200)/\ -200<=(cy ts k).2/\(cy ts k).2<=200)) (by
   rw[<- hbs]
   exact List.mem_map.mpr ⟨k,List.mem_range.mpr hk,rfl⟩)
  have:=of_decide_eq_true this
  rw[Zii hk] at this
  exact this
 simp![Zix]
 refine Zru (fun ρ M'=> ∃ ss m,ρ=[some (.ref n),some (mt a b c d),some (.int st),some (.ref m)]/\Smo ss/\Nr 200 ss/\ss.length=rs.length/\M'[m]?=some (.lst (prs ss))/\M1.length<=M'.length/\(∀ k,k < M1.length->M'[k]?=M1[k]?)) ?_ ?_
 ·generalize hall:bs.all id=al at *
  refine Zon (fun h=> ?_) (fun h=> ?_)
  ·simp![k2]
   exact ⟨rs,_,rfl,hs,hb,rfl,by rw[Zd4];rfl,by omega,fun k hk=>by rw[ZbP hk]⟩
  ·have al1:al=true:=by simpa using h
   have N:=nr al1
   have b0:=Nr.cy N tne 0
   simp![k1,Zbu,Zfl,CC.Zcu]
   have t0:=tX 0
   rw[show (0:Int) + 1=1 by omega] at t0
   refine brS (fun z=> ?_) (fun z=> ?_)
   ·simp![k1]
    have dm:a * d - b * c= -1:=by
     rcases ht.det with e | e
     ·unfold X at t0;omega
     ·exact e
    refine ⟨ts.reverse,_,rfl,ZlP (by omega) (fun i=>by rw[tX i,dm]) (by rw[eT];exact hs.fan.flip (f:=fun p=>(a * p.1 + b * p.2,c * p.1 + d * p.2)) fun p q=>by rw[lX,dm]),fun p hp=>N p (by simpa using hp),by rw[List.length_reverse];exact tl,by rw[Zd4,ZlQ];rfl,by omega,fun k hk=>by rw[ZbP hk]⟩
   ·simp![Zm]
    have dm:a * d - b * c=1:=by
     rcases ht.det with e | e
     ·exact e
     ·unfold X at t0;omega
    exact ⟨ts,_,rfl,⟨by omega,fun i=>by rw[tX i,dm],by rw[eT];exact hs.fan.map (f:=fun p=>(a * p.1 + b * p.2,c * p.1 + d * p.2)) fun p q=>by rw[lX,dm,Int.one_mul]⟩,N,tl,by rw[ZbP (by omega)];exact k1,by omega,fun k hk=>by rw[ZbP hk]⟩
 ·rintro _ M2 ⟨ss,m,rfl,s1,s2,s3,s4,s5,s6⟩
  have hm:=Zaa s4
  simp![s4]
  refine ⟨by rw[List.length_take,List.length_drop];omega,?_⟩
  refine q (ss.drop st.toNat ++ ss.take st.toNat) _ _ (s1.rot (by omega)) (Nr.rot s2) (by rw[List.length_append,List.length_take,List.length_drop];omega) (by omega) (by rw[Zd4];rfl) (by rw[List.length_append];omega) (fun k hk=> ?_)
  rw[ZbP (by omega),s6 k (by omega),g1 k hk]
theorem ZqZ {x y z w:Int}:wO (F_law_sum [pr x y,pr z w] M) Q E=Q (pr (x + z) (y + w)) M:=by
 simp![F_law_sum,Zdi]
theorem Gr.up {k:Nat} {M M1:Sto} {o:SO} (h:M[k]?=some o) (g:Gr n M M1) (hk:k≠n):M1[k]?=some o:=by
 rw[g.keep k hk (Zaa h)]
 exact h
theorem Zf8 (hb:Bag n M) (q: ∀ ss m M',Smo ss->Nr 200 ss->ss.length<=14->M.length<=m->M'[m]?=some (.lst (prs ss))->Gr n M M'->Q (.ref m) M'):wO (F_law_smooth [.ref n] M) Q E:=by
 have hn:=hb.lt
 simp![F_law_smooth,ZbD]
 refine ZG (hb.app _) (by decide) fun r M1 r0 r1 g1=> ?_
 have k1:=Gr.new hb g1
 simp![k1]
 obtain ⟨sz,hs,z0,z1⟩: ∃ f:Int,atI [D.int 4,D.int 4,D.int 4,D.int 4,D.int 4,D.int 4,D.int 12,D.int 201] r=some (.int f)/\1<=f/\f<=201:=by
  have:r=0\/r=1\/r=2\/r=3\/r=4\/r=5\/r=6\/r=7:=by omega
  rcases this with rfl | rfl | rfl | rfl | rfl | rfl | rfl | rfl
  ·exact ⟨4,rfl,by decide,by decide⟩
  ·exact ⟨4,rfl,by decide,by decide⟩
  ·exact ⟨4,rfl,by decide,by decide⟩
  ·exact ⟨4,rfl,by decide,by decide⟩
  ·exact ⟨4,rfl,by decide,by decide⟩
  ·exact ⟨4,rfl,by decide,by decide⟩
  ·exact ⟨12,rfl,by decide,by decide⟩
  ·exact ⟨201,rfl,by decide,by decide⟩
 simp![hs]
 refine ZG g1.bag (by omega) fun f M2 f0 f1 g2=> ?_
 simp![Zm]
 have gr2:Gr n M M2:=((Gr.app hb _).trans g1).trans g2
 have h2:=gr2.bag
 have hn2:=h2.lt
 refine ZG (h2.app _) (by decide) fun c M3 c0 c1 g3=> ?_
 have e0:M3[M2.length]?=some (.lst [pr 1 0,pr 0 1,pr (-1) (-1)]):=by rw[g3.keep _ (by omega) (by simp),ZgA];rfl
 have e1:M3[M2.length + 1]?=some (.lst [pr 1 0,pr 0 1,pr (-1) f,pr 0 (-1)]):=by rw[g3.keep _ (by omega) (by simp),Zd4];rfl
 have e2:M3[M2.length + 2]?=some (.lst [.ref M2.length,.ref (M2.length + 1)]):=by rw[g3.keep _ (by omega) (by simp),Zd4];rfl
 have gr3:Gr n M M3:=gr2.trans ((Gr.app h2 _).trans g3)
 have ml:=gr2.len
 obtain ⟨m,ss,hm,hm0,s1,s2,s3,s4⟩: ∃ m ss,atI [D.ref M2.length,D.ref (M2.length + 1)] c=some (.ref m)/\(m≠n/\M.length<=m)/\Smo ss/\Nr 200 ss/\ss.length<=4/\M3[m]?=some (.lst (prs ss)):=by
  have:c=0\/c=1:=by omega
  rcases this with rfl | rfl
  ·refine ⟨M2.length,[(1,0),(0,1),(-1,-1)],rfl,by omega,CC.Zts,?_,by simp,e0⟩
   intro p hp
   simp at hp
   rcases hp with rfl | rfl | rfl<;>simp
  ·refine ⟨M2.length + 1,[(1,0),(0,1),(-1,f),(0,-1)],rfl,by omega,CC.Ztt f,?_,by simp,e1⟩
   intro p hp
   simp at hp
   rcases hp with rfl | rfl | rfl | rfl<;>simp<;>omega
 simp![e2,hm]
 have h3:=gr3.bag
 have hn3:=h3.lt
 refine ZG (h3.app _) (by decide) fun k M4 k0 k1' g4=> ?_
 have k4:=Gr.new h3 g4
 obtain ⟨tm,ht,t0,t1⟩: ∃ f:Int,atI [D.int 5,D.int 5,D.int 12,D.int 5] k=some (.int f)/\1<=f/\f<=12:=by
  have:k=0\/k=1\/k=2\/k=3:=by omega
  rcases this with rfl | rfl | rfl | rfl
  ·exact ⟨5,rfl,by decide,by decide⟩
  ·exact ⟨5,rfl,by decide,by decide⟩
  ·exact ⟨12,rfl,by decide,by decide⟩
  ·exact ⟨5,rfl,by decide,by decide⟩
 simp![k4,ht]
 have gr4:Gr n M M4:=gr3.trans ((Gr.app h3 _).trans g4)
 have a4:M4[m]?=some (.lst (prs ss)):=by rw[g4.keep _ hm0.1 (by have:=Zaa s4;simp;omega),ZbP (Zaa s4)];exact s4
 refine ZG gr4.bag (by omega) fun lp M5 lp0 lp1 g5=> ?_
 simp![Zm]
 refine ⟨by omega,?_⟩
 refine ZcE (fun i ρ M'=> ∃ ss m x1 x3 x4 x5 x6,ρ=[some (.ref n),x1,some (.ref m),x3,x4,x5,x6]/\(m≠n/\M.length<=m)/\Smo ss/\Nr 200 ss/\ss.length<=14/\M'[m]?=some (.lst (prs ss))/\Gr n M M') ⟨ss,m,_,_,_,_,_,rfl,hm0,s1,s2,by omega,Gr.up a4 g5 hm0.1,gr4.trans g5⟩ ?_ ?_
 ·rintro i ρ M6 hi ⟨ss,m,x1,x3,x4,x5,x6,rfl,m0,s1,s2,s3,s4,gr⟩
  have sl:=s1.len
  simp![ZaP,s4]
  refine ZG gr.bag (by omega) fun av M7 a0 a1 g7=> ?_
  have b4:=Gr.up s4 g7 m0.1
  have hb4:=Zaa b4
  have gr7:=gr.trans g7
  have hn7:=gr7.bag.lt
  obtain ⟨av,rfl⟩: ∃ k:Nat,av=k:=⟨av.toNat,by omega⟩
  have e1:=ZaO (i:=(av:Int) + 1) (m:=ss.length) (by omega)
  simp![b4,Zbu,ZcG,ZqZ,Zko]
  have sm:=s1.ins (k:=av) (by omega)
  have nr:=fun h=>Nr.ins (k:=av) (p:=((cy ss av).1 + (cy ss (av + 1)).1,(cy ss av).2 + (cy ss (av + 1)).2)) s2 h
  generalize (cy ss av).1 + (cy ss (av + 1)).1=x at *
  generalize (cy ss av).2 + (cy ss (av + 1)).2=y at *
  refine Zpe (fun k M'=>M'=M7/\(k=true->((-200<=x/\x<=200)/\ -200<=y/\y<=200)/\ss.length < 14)) ?_ ?_
  ·refine brO (fun h=> ?_) (fun h=> ?_)
   ·simp![b4]
    exact fun z=>⟨h,by have:=of_decide_eq_true z;omega⟩
   ·simp![Zm]
    exact fun z=>by cases z
  rintro k M7 ⟨rfl,hk⟩
  simp![Zm]
  refine Zon (fun h=> ?_) (fun h=> ?_)
  ·have le:((av:Int) + 1).toNat=av + 1:=by omega
   obtain ⟨hk1,hk2⟩:=hk h
   simp![b4,le]
   refine ⟨by rw[List.length_take];omega,by rw[List.length_take,List.length_drop];omega,ins ss av (x,y),_,_,_,_,_,_,rfl,by have:=gr7.len;omega,sm,nr hk1,by rw[Zct (by omega)];omega,by rw[Zd4];rfl,gr7.app2 _⟩
  ·simp![Zm]
   exact ⟨ss,m,_,_,_,_,_,rfl,m0,s1,s2,s3,b4,gr7⟩
 ·rintro ρ M6 ⟨ss,m,x1,x3,x4,x5,x6,rfl,m0,s1,s2,s3,s4,gr⟩
  have sl:=s1.len
  simp![s4]
  refine ZG gr.bag (by omega) fun st M7 st0 st1 g7=> ?_
  have b4:=Gr.up s4 g7 m0.1
  simp![Zm]
  refine Ziw (gr.trans g7).bag fun a b c d M8 tn g8=> ?_
  have c4:=Gr.up b4 g8 m0.1
  have gr8:=(gr.trans g7).trans g8
  simp![Zm]
  refine Ziy c4 s1 s2 (by omega) (tn.mono (by decide)) (by omega) fun tt m' M9 t1 t2 t3 t4 t5 t6 t7=> ?_
  refine q tt m' M9 t1 t2 (by omega) (by have:=gr8.len;omega) t5 ⟨by have:=gr8.len;omega,?_,fun k hk hkl=>by rw[t7 k (by have:=gr8.len;omega)];exact gr8.keep k hk hkl⟩
  obtain ⟨x,y,x0,hx⟩:=gr8.bag
  exact ⟨x,y,x0,by rw[t7 n gr8.bag.lt];exact hx⟩
end
end CA
end
section
namespace CY
open PySem PySem.Spec L2 DL CA
noncomputable def Z1:Sv:=(ZdC 1 2 (Zc (Zf 2) (Zc (e2 dMod (Zf 1) (Zf 2)) aNil)))
noncomputable def Zax:Sv:=(ZB (ZdC 1 2 (Zc (Zk bAbs (Zc (e2 dIx (Zf 0) (eC (.int 0))) aNil)) (Zc (Zk bAbs (Zc (e2 dIx (Zf 0) (eC (.int 1))) aNil)) aNil)))
 (ZB (sWh (tv (e2 dGt (Zf 2) (eC (.int 0)))) Z1)
 (ZW (Z3 (Zc (e2 dDiv (e2 dIx (Zf 0) (eC (.int 0))) (Zf 1)) (Zc (e2 dDiv (e2 dIx (Zf 0) (eC (.int 1))) (Zf 1)) aNil))))))
noncomputable def F_law_straight:List D->Sto->Out D:=fnF Zax 1 2
noncomputable def ZaV:Sv:=(ZB (ZO (gNm 3) (e2 dIx (Zf 0) (e2 dMod (e2 dAdd (Zf 2) (eC (.int 1))) (Zk bLen (Zc (Zf 0) aNil)))))
 (sIf (Za5 (tv (e2 dGt (Zk F_law_cross (Zc (e2 dIx (Zf 0) (Zf 2)) (Zc (Zf 1) aNil))) (eC (.int 0)))) (tv (e2 dGt (Zk F_law_cross (Zc (Zf 1) (Zc (Zf 3) aNil))) (eC (.int 0))))) (ZW (e2 dAdd (e2 dAdd (eSl (Zf 0) oNo (oSo (e2 dAdd (Zf 2) (eC (.int 1))))) (ZaD (Zc (Zf 1) aNil))) (eSl (Zf 0) (oSo (e2 dAdd (Zf 2) (eC (.int 1)))) oNo))) sNil))
noncomputable def Zci:Sv:=(ZB (Zbt (gNm 2) (Zc (Zk bLen (Zc (Zf 0) aNil)) aNil) ZaV)
 (ZW (Zf 0)))
noncomputable def F_law_put:List D->Sto->Out D:=fnF Zci 2 2
noncomputable def ZaW:Sv:=(ZB (ZO (gNm 4) (e2 dSub (Zk F_law_digit (Zc (Zf 0) (Zc (Zf 2) aNil))) (e2 dDiv (Zf 2) (eC (.int 2)))))
 (ZB (ZO (gNm 5) (e2 dSub (Zk F_law_digit (Zc (Zf 0) (Zc (Zf 2) aNil))) (e2 dDiv (Zf 2) (eC (.int 2)))))
 (sIf (Za5 (tv (e2 dNe (Z3 (Zc (Zf 4) (Zc (Zf 5) aNil))) (Z3 (Zc (eC (.int 0)) (Zc (eC (.int 0)) aNil))))) (tv (e2 dLt (Zk bLen (Zc (Zf 1) aNil)) (eC (.int 14))))) (ZO (gNm 1) (Zk F_law_put (Zc (Zf 1) (Zc (Zk F_law_straight (Zc (Z3 (Zc (Zf 4) (Zc (Zf 5) aNil))) aNil)) aNil)))) sNil)))
noncomputable def ZaX:Sv:=(ZB (ZO (gNm 6) (Zk F_law_digit (Zc (Zf 0) (Zc (Zk bLen (Zc (Zf 1) aNil)) aNil))))
 (sIf (Za5 (tv (e2 dGt (Zk bLen (Zc (Zf 1) aNil)) (eC (.int 3)))) (tv (e2 dGt (Zk F_law_cross (Zc (e2 dIx (Zf 1) (e2 dSub (Zf 6) (eC (.int 1)))) (Zc (e2 dIx (Zf 1) (e2 dMod (e2 dAdd (Zf 6) (eC (.int 1))) (Zk bLen (Zc (Zf 1) aNil)))) aNil))) (eC (.int 0))))) (ZO (gNm 1) (e2 dAdd (eSl (Zf 1) oNo (oSo (Zf 6))) (eSl (Zf 1) (oSo (e2 dAdd (Zf 6) (eC (.int 1)))) oNo))) sNil))
noncomputable def Zcj:Sv:=(ZB (ZO (gNm 1) (Zk F_law_smooth (Zc (Zf 0) aNil)))
 (ZB (ZO (gNm 2) (e2 dIx (ZaD (Zc (eC (.int 7)) (Zc (eC (.int 7)) (Zc (eC (.int 7)) (Zc (eC (.int 41)) (Zc (eC (.int 401)) (Zc (eC (.int 7)) (Zc (eC (.int 7)) (Zc (eC (.int 41)) aNil))))))))) (Zk F_law_digit (Zc (Zf 0) (Zc (eC (.int 8)) aNil)))))
 (ZB (Zbt (gNm 3) (Zc (Zk F_law_digit (Zc (Zf 0) (Zc (eC (.int 6)) aNil))) aNil) ZaW)
 (ZB (Zbt (gNm 3) (Zc (Zk F_law_digit (Zc (Zf 0) (Zc (eC (.int 6)) aNil))) aNil) ZaX)
 (ZW (Zf 1))))))
noncomputable def F_law_any:List D->Sto->Out D:=fnF Zcj 1 6
end CY
end
section
namespace CY
open PySem PySem.Spec L2 DL
section
variable {Q:D->Sto->Prop} {E:Str->Sto->Prop} {M:Sto} {n m:Nat} {rs:List Pt}
theorem ZgO {x y:Int} (h0:(x,y)≠(0,0)) (hx: -200<=x/\x<=200) (hy: -200<=y/\y<=200) (q: ∀ w:Pt,Int.gcd w.1 w.2=1->((-200<=w.1/\w.1<=200)/\ -200<=w.2/\w.2<=200)->Q (pr w.1 w.2) M):wO (F_law_straight [pr x y] M) Q E:=by
 simp![F_law_straight,Zax]
 refine ZoB (fun k ρ M'=>M'=M/\ ∃ a b:Nat,ρ=[some (pr x y),some (.int a),some (.int b)]/\k=b/\Nat.gcd a b=Int.gcd x y/\a<=1000/\b<=1000) ?_ y.natAbs _ _ ⟨rfl,x.natAbs,y.natAbs,rfl,rfl,rfl,by omega,by omega⟩
 rintro k ρ M ⟨rfl,a,b,rfl,rfl,g,ha,hk'⟩
 simp![Zm]
 refine ZoC (fun h=> ?_) (fun h=> ?_)
 ·simp![Z1]
  have hb:0 < k:=by omega
  have hm:=Nat.mod_lt a hb
  refine ⟨a % k,hm,k,a % k,by rw[Int.natCast_emod],rfl,?_,?_⟩
  ·rw[<- g,Nat.gcd_comm k,<- Nat.gcd_rec,Nat.gcd_comm]
  ·omega
 ·have k0:k=0:=by omega
  subst k0
  rw[Nat.gcd_zero_right] at g
  have ap:0 < a:=by
   apply Nat.pos_of_ne_zero
   intro z
   rw[z] at g
   have:=Int.gcd_eq_zero_iff.mp g.symm
   exact h0 (by rw[this.1,this.2])
  simp![Zm]
  have b1:=Int.natAbs_ediv_le_natAbs x a
  have b2:=Int.natAbs_ediv_le_natAbs y a
  refine q (x / a,y / a) ?_ ⟨by simp only;omega,by simp only;omega⟩
  rw[g]
  exact Int.gcd_ediv_gcd_ediv_gcd (by omega)
theorem Gr.of {M M':Sto} (hb:Bag n M) (l:M.length<=M'.length) (g: ∀ k,k < M.length->M'[k]?=M[k]?):Gr n M M':=by
 refine ⟨l,?_,fun k _ hk=>g k hk⟩
 obtain ⟨a,b,h,e⟩:=id hb
 exact ⟨a,b,h,(g n hb.lt).trans e⟩
end
end CY
end
section
namespace CR
open PySem PySem.Spec L2 DL
noncomputable def ZaF:Sv:=(ZW (ZaE (Zdu "int" (Zf 0)) (Zco (Zdu "bool" (Zf 0)))))
noncomputable def F_is_whole:List D->Sto->Out D:=fnF ZaF 1 0
noncomputable def ZaB:Sv:=(ZdC 2 3 (Zc (Zf 3) (Zc (e2 dMod (Zf 2) (Zf 3)) aNil)))
noncomputable def ZaY:Sv:=(ZB (ZdC 2 3 (Zc (Zk bAbs (Zc (Zf 0) aNil)) (Zc (Zk bAbs (Zc (Zf 1) aNil)) aNil)))
 (ZB (sWh (tv (e2 dNe (Zf 3) (eC (.int 0)))) ZaB)
 (ZW (Zf 2))))
noncomputable def F_greatest_divisor:List D->Sto->Out D:=fnF ZaY 2 2
noncomputable def Zbp:Sv:=(ZW (ZaE (Zdu "int" (Zf 0)) (Zco (Zdu "bool" (Zf 0)))))
noncomputable def F_law_whole:List D->Sto->Out D:=fnF Zbp 1 0
end CR
end
section
namespace CR
open PySem PySem.Spec L2 DL
noncomputable abbrev rt (q:Rat):D:=pr q.num (q.den:Int)
theorem Zq0:F_greatest_divisor=FGcd:=rfl
section
variable {Q:D->Sto->Prop} {E:Str->Sto->Prop} {M:Sto} {k l:Nat} {p q:Rat}
end
end CR
end
section
namespace CH
open PySem PySem.Spec L2 DL CA CR
end CH
end
section
namespace CH
open PySem PySem.Spec L2 DL
open CR (rt)
section
variable {Q:D->Sto->Prop} {E:Str->Sto->Prop} {M:Sto} {n:Nat}
end
end CH
end
section
namespace CS
open PySem PySem.Spec L2 DL CC CR
end CS
end
section
namespace CS
open PySem PySem.Spec L2 DL
open CR (rt)
section
variable {Q:D->Sto->Prop} {E:Str->Sto->Prop} {M:Sto} {k l:Nat} {p q:Rat}
end
end CS
end
section
namespace CN
open PySem PySem.Spec L2 DL
open CC (F_following)
open CA (F_law_sum)
end CN
end
section
namespace CN
open PySem PySem.Spec L2 DL
open CR (rt)
noncomputable def cq (hs:List Rat) (i:Int):Rat:=hs.getD (i % hs.length).toNat 0
section
variable {Q:D->Sto->Prop} {E:Str->Sto->Prop} {M:Sto} {k l:Nat} {p q:Rat} {n m:Nat} {rs:List Pt} {hs:List Rat} {i:Int}
end
end CN
end
section
namespace CN
open PySem PySem.Spec L2 DL
open CR (rt)
section
variable {Q:D->Sto->Prop} {E:Str->Sto->Prop} {M:Sto} {k l:Nat} {p q:Rat} {n m:Nat} {rs:List Pt} {hs:List Rat} {i:Int}
end
end CN
end
section
namespace CN
open PySem PySem.Spec L2 DL
open CR (rt)
end CN
end
section
namespace CU
open PySem PySem.Spec L2 DL
open CA (F_law_digit)
end CU
end
section
namespace CU
open PySem PySem.Spec L2 DL
open CR (rt)
open CN CS
noncomputable def thr (rs:List Pt) (hs:List Rat):Rat × Rat:=(cq hs 0 * (cy rs 1).2 - cq hs 1 * (cy rs 0).2,cq hs 1 * (cy rs 0).1 - cq hs 0 * (cy rs 1).1)
noncomputable abbrev rp (m:Rat × Rat):D:= .tup [rt m.1,rt m.2]
section
variable {Q:D->Sto->Prop} {E:Str->Sto->Prop} {M:Sto} {k l:Nat} {p q:Rat} {n m o:Nat} {rs:List Pt} {hs xs ys:List Rat} {i:Int}
theorem Ztu {ds:List D} (h:M[n]?=some (.lst ds)):wO (bTup [.ref n] M) Q E=Q (.tup ds) M:=by
 unfold bTup Zpb
 simp only[ZcR,h,wO]
end
end CU
end
section
namespace CV
open PySem PySem.Spec L2 DL
open CR (rt)
open CN CU CS
noncomputable def Kp (M M':Sto):Prop:=M.length<=M'.length/\ ∀ j < M.length,M'[j]?=M[j]?
section
variable {M M' M1 M2:Sto} {o:SO} {j:Nat}
theorem Kp.get (k:Kp M M') (h:M[j]?=some o):M'[j]?=some o:=(k.2 _ (Zaa h)).trans h
theorem Kp.refl:Kp M M:=⟨Nat.le_refl _,fun _ _=>rfl⟩
theorem Kp.trans (a:Kp M M1) (b:Kp M1 M2):Kp M M2:=⟨Nat.le_trans a.1 b.1,fun j h=>(b.2 j (Nat.lt_of_lt_of_le h a.1)).trans (a.2 j h)⟩
theorem Kp.app {L:Sto}:Kp M (M ++ L):=⟨by simp,fun j h=>ZbP h⟩
theorem Kp.bag {n:Nat} (k:Kp M M') (b:Bag n M):Bag n M':=(CY.Gr.of b k.1 k.2).bag
theorem Kp.gr {n:Nat} (k:Kp M M') (b:Bag n M):Gr n M M':=CY.Gr.of b k.1 k.2
end
section
variable {Q:D->Sto->Prop} {E:Str->Sto->Prop} {M:Sto} {k l:Nat} {p q:Rat} {n m o:Nat} {rs:List Pt} {hs xs ys zs u v:List Rat} {i:Int} {f:Ev} {ρ:Ro} {mu mv N:Nat}
end
end CV
end
section
namespace CW
open PySem PySem.Spec L2 DL
end CW
end
section
namespace CW
open PySem PySem.Spec L2 DL
open CV
section
variable {Q:D->Sto->Prop} {E:Str->Sto->Prop} {M:Sto} {n m:Nat} {rs:List Pt}
end
end CW
end
section
namespace CB
open PySem PySem.Spec L2 DL
theorem mid {a b p w:Pt} (h1:0 < X a p) (h2:0 < X p b) (h:0 < X a b):in1 w a b=in1 w a p + in1 w p b/\in2 w a b=in2 w a p + in2 w p b:=by
 have e:X a b * X p w=X p b * X a w - X a p * X w b:=by unfold X;grind
 have s:=ZgN (p:=w) (q:=p)
 have k1:0<=X a w->0<=X p b * X a w:=fun z=>Int.mul_nonneg (by omega) z
 have k2:0 < X a w->0 < X p b * X a w:=fun z=>Int.mul_pos h2 z
 have k3:X a w<=0->X p b * X a w<=0:=fun z=>Int.mul_nonpos_of_nonneg_of_nonpos (by omega) z
 have k3':X a w < 0->X p b * X a w < 0:=fun z=>Int.mul_neg_of_pos_of_neg h2 z
 have l1:0<=X w b->0<=X a p * X w b:=fun z=>Int.mul_nonneg (by omega) z
 have l2:0 < X w b->0 < X a p * X w b:=fun z=>Int.mul_pos h1 z
 have l3:X w b<=0->X a p * X w b<=0:=fun z=>Int.mul_nonpos_of_nonneg_of_nonpos (by omega) z
 have l3':X w b < 0->X a p * X w b < 0:=fun z=>Int.mul_neg_of_pos_of_neg h1 z
 have m1:0<=X p w->0<=X a b * X p w:=fun z=>Int.mul_nonneg (by omega) z
 have m2:0 < X p w->0 < X a b * X p w:=fun z=>Int.mul_pos h z
 have m3:X p w<=0->X a b * X p w<=0:=fun z=>Int.mul_nonpos_of_nonneg_of_nonpos (by omega) z
 have m3':X p w < 0->X a b * X p w < 0:=fun z=>Int.mul_neg_of_pos_of_neg h z
 unfold in1 in2
 rw[s]
 generalize X a b * X p w=z at *
 generalize X p b * X a w=y at *
 generalize X a p * X w b=x at *
 generalize X a w=aw at *
 generalize X w b=wb at *
 generalize X p w=pw at *
 constructor
 all_goals
  repeat' split
  all_goals omega
end CB
end
section
namespace CL
open PySem PySem.Spec L2 DL
open CC (F_following)
end CL
end
section
namespace CL
open PySem PySem.Spec L2 DL
open CV CB
section
variable {Q:D->Sto->Prop} {E:Str->Sto->Prop} {M:Sto} {n:Nat}
end
end CL
end
section
namespace TW
open DL
noncomputable def nx (b:Int) (p q:Pt):Pt:=(0 - b * q.1 - p.1,0 - b * q.2 - p.2)
noncomputable def run (p q:Pt):List Int->Pt × Pt
 | []=>(p,q)
 |b :: bs=>run q (nx b p q) bs
noncomputable def ew (p q:Pt):Nat:=in1 (1,0) p q + in1 (-1,0) p q
noncomputable def st (a:Pt):Int:=if 0 < a.2\/(a.2=0/\a.1 < 0) then 1 else 0
end TW
end
section
namespace TW
open DL
section
variable {rs:List Pt}
noncomputable def Ztv (rs:List Pt):Int->Nat->List Int
 |_,0=>[]
 |i,k + 1=>T rs (i + 1) :: Ztv rs (i + 1) k
noncomputable def sf (f:Pt->Pt->Nat) (rs:List Pt):Int->Nat->Nat
 |_,0=>0
 |i,k + 1=>f (cy rs i) (cy rs (i + 1)) + sf f rs (i + 1) k
theorem Zq1 {f:Pt->Pt->Nat} (hn:rs≠[]): ∀ (k i:Nat),i + k=rs.length->cc f ((rs ++ rs.take 1).drop i)=sf f rs i k:=by
 have l0:0 < rs.length:=List.length_pos_iff.mpr hn
 have ga: ∀ i:Nat,i<=rs.length->(rs ++ rs.take 1)[i]?=some (cy rs i):=by
  intro i hi
  by_cases c:i < rs.length
  ·rw[List.getElem?_append_left c,ZbZ (by omega),Zcg (by omega),List.getElem?_eq_getElem c]
   simp
  ·have:i=rs.length:=by omega
   subst this
   rw[List.getElem?_append_right (Nat.le_refl _),Nat.sub_self,<- ZeO,Int.sub_self,ZbZ (by omega),Zcg (by omega)]
   rw[List.getElem?_take_of_lt (by decide),List.getElem?_eq_getElem (by omega)]
   simp
 have lch:(rs ++ rs.take 1).length=rs.length + 1:=by simp;omega
 have dr: ∀ i:Nat,i<=rs.length->(rs ++ rs.take 1).drop i=cy rs i :: (rs ++ rs.take 1).drop (i + 1):=by
  intro i hi
  rw[List.drop_eq_getElem_cons (by omega)]
  have:=ga i hi
  rw[List.getElem?_eq_getElem (by omega)] at this
  rw[Option.some.inj this]
 intro k
 induction k with
 |zero=>
  intro i hi
  rw[dr i (by omega),List.drop_eq_nil_of_le (by omega)]
  rfl
 |succ k ih=>
  intro i hi
  have:=ih (i + 1) (by omega)
  rw[dr i (by omega)]
  rw[dr (i + 1) (by omega)] at this ⊢
  rw[cc,this,sf]
  rfl
theorem Zf9 {f:Pt->Pt->Nat} (hn:rs≠[]):cyc f rs=sf f rs 0 rs.length:=by
 have:=Zq1 (f:=f) hn rs.length 0 (by omega)
 exact this
end
end TW
end
section
end
section
namespace CT
open PySem PySem.Spec L2 DL
end CT
end
section
namespace CT
open PySem PySem.Spec L2 DL
open CV TW
section
variable {Q:D->Sto->Prop} {E:Str->Sto->Prop} {M:Sto} {n m:Nat} {L:List Int}
noncomputable def Cl (L:List Int):Prop:=run (1,0) (0,1) L=((1,0),(0,1))
noncomputable instance (L:List Int):Decidable (Cl L):=by unfold Cl;infer_instance
end
end CT
end
section
namespace CT
open PySem PySem.Spec L2 DL
open CV
open TW (nx)
section
variable {Q:D->Sto->Prop} {E:Str->Sto->Prop} {M:Sto} {n m:Nat} {L:List Int}
end
end CT
end
section
namespace DL
open CB (mid Bd)
section
variable {rs:List Pt} {k:Nat}
theorem ZjJ {f:Pt->Pt->Nat} (hl:rs≠[]) (h:cyc f rs=0) (i:Int):f (cy rs i) (cy rs (i + 1))=0:=by
 have l0:rs.length≠0:=fun z=>hl (List.length_eq_zero_iff.mp z)
 refine Zd5 (P:=fun a b=>f a b=0) l0 ?_ i
 intro i h0 h1
 rw[TW.Zf9 hl] at h
 have: ∀ (k:Nat) (j:Int),TW.sf f rs j k=0-> ∀ m:Nat,m < k->f (cy rs (j + m)) (cy rs (j + m + 1))=0:=by
  intro k
  induction k with
  |zero=>intro j _ m hm;omega
  |succ k ih=>
   intro j h m hm
   rw[TW.sf] at h
   cases m with
   |zero=>
    rw[show j + ((0:Nat):Int)=j by omega]
    omega
   |succ m=>
    have:=ih (j + 1) (by omega) m (by omega)
    rw[show j + ((m + 1:Nat):Int)=j + 1 + m by omega]
    exact this
 have:=this rs.length 0 h i.toNat (by omega)
 rw[show (0:Int) + (i.toNat:Nat)=i by omega] at this
 exact this
theorem Zfm {f:Pt->Pt->Nat} (hl:rs≠[]) (h: ∀ i:Int,f (cy rs i) (cy rs (i + 1))=0):cyc f rs=0:=by
 rw[TW.Zf9 hl]
 have: ∀ (k:Nat) (j:Int),TW.sf f rs j k=0:=by
  intro k
  induction k with
  |zero=>intro j;rfl
  |succ k ih=>intro j;rw[TW.sf,h,ih]
 exact this _ _
theorem Zfn {f:Pt->Pt->Nat} (hk:k < rs.length) (h3:3<=rs.length) (hf:f (cy rs (k - 1)) (cy rs (k + 1))=f (cy rs (k - 1)) (cy rs k) + f (cy rs k) (cy rs (k + 1))):cyc f (del rs k)=cyc f rs:=by
 obtain ⟨L,p,R,e,hl⟩: ∃ L a R,rs=L ++ a :: R/\L.length=k:=⟨rs.take k,rs[k],rs.drop (k + 1),by rw[List.getElem_cons_drop,List.take_append_drop],by simp;omega⟩
 have ed:DL.del rs k=L ++ R:=by
  unfold DL.del
  rw[e,<- hl,List.take_append,List.drop_append,List.take_of_length_le (by omega),List.drop_eq_nil_of_le (by omega)]
  simp
 have lr:(R ++ L).length=rs.length - 1:=by rw[e];simp;omega
 obtain ⟨b,Y,a,hY⟩: ∃ b Y a,R ++ L=b :: (Y ++ [a]):=by
  match hRL:R ++ L,lr with
  | [],lr=>simp at lr;omega
  |b :: r,lr=>
   have:r≠[]:=by intro z;rw[z] at lr;simp at lr;omega
   exact ⟨b,r.dropLast,r.getLast this,by rw[List.dropLast_concat_getLast]⟩
 have er:rs.drop k ++ rs.take k=p :: (R ++ L):=by
  rw[e,<- hl,List.take_append,List.drop_append,List.take_of_length_le (by omega),List.drop_eq_nil_of_le (by omega)]
  simp
 have c0:cy rs k=p:=by rw[e,<- hl];exact ZjI
 have cb:cy rs (k + 1)=b:=by
  have:=Zf7 (rs:=rs) (k:=k) (i:=1) (by omega)
  rw[er,hY] at this
  rw[show (k:Int) + 1=1 + k by omega,<- this]
  exact ZoG (L:=[]) (a:=p) (b:=b)
 have ca:cy rs (k - 1)=a:=by
  have:=Zf7 (rs:=rs) (k:=k) (i:= -1) (by omega)
  rw[er,hY] at this
  rw[show (k:Int) - 1= -1 + k by omega,<- this,<- Zf6]
  have:=ZjI (L:=p :: b :: Y) (a:=a) (R:=[])
  rw[show (-1:Int) + ((p :: b :: (Y ++ [a])).length:Nat)=((p :: b :: Y).length:Nat) by simp;omega]
  simpa using this
 rw[c0,ca,cb] at hf
 rw[ed,ZlM (p:=p) hY hf,<- e]
noncomputable def nxp (a b:Pt):Nat:=if 0 < X a b then 0 else 1
theorem Zq2 {a b:Pt} (h:nxp a b=0):0 < X a b:=by
 unfold nxp at h
 split at h
 ·assumption
 ·omega
theorem Zdj {a b:Pt} (h:0 < X a b):nxp a b=0:=by unfold nxp;rw[if_pos h]
structure Rn (rs:List Pt):Prop where
 len:3<=rs.length
 ps:cyc nxp rs=0
 gc: ∀ p∈rs,Int.gcd p.1 p.2=1
 fan:Fan rs
theorem Rn.ne (h:Rn rs):rs≠[]:=by
 intro z
 have:=h.len
 rw[z] at this
 simp at this
theorem Rn.pos (h:Rn rs) (i:Int):0 < X (cy rs i) (cy rs (i + 1)):=Zq2 (ZjJ h.ne h.ps i)
theorem Zq3 {a b:Pt} (h:X a b=1):Int.gcd a.1 a.2=1/\Int.gcd b.1 b.2=1:=by
 unfold X at h
 constructor
 ·have d1:((Int.gcd a.1 a.2:Nat):Int) ∣ a.1 * b.2 - a.2 * b.1:=Int.dvd_sub (Int.dvd_mul_of_dvd_left (Int.gcd_dvd_left _ _)) (Int.dvd_mul_of_dvd_left (Int.gcd_dvd_right _ _))
  rw[h] at d1
  exact Nat.eq_one_of_dvd_one (Int.natCast_dvd_natCast.mp d1)
 ·have d1:((Int.gcd b.1 b.2:Nat):Int) ∣ a.1 * b.2 - a.2 * b.1:=Int.dvd_sub (Int.dvd_mul_of_dvd_right (Int.gcd_dvd_right _ _)) (Int.dvd_mul_of_dvd_right (Int.gcd_dvd_left _ _))
  rw[h] at d1
  exact Nat.eq_one_of_dvd_one (Int.natCast_dvd_natCast.mp d1)
theorem ZoL {p:Pt} (h:p∈rs): ∃ i:Int,p=cy rs i:=by
 obtain ⟨L,R,rfl⟩:=List.append_of_mem h
 exact ⟨L.length,ZjI.symm⟩
theorem Smo.rn (h:Smo rs):Rn rs:=by
 refine ⟨h.len,Zfm h.ne fun i=>Zdj (by rw[h.one i];decide),fun p hp=> ?_,h.fan⟩
 obtain ⟨i,rfl⟩:=ZoL hp
 exact (Zq3 (h.one i)).1
theorem Rn.ins {w:Pt} (h:Rn rs) (hk:k < rs.length) (gw:Int.gcd w.1 w.2=1) (h1:0 < X (cy rs k) w) (h2:0 < X w (cy rs (k + 1))):Rn (ins rs k w):=by
 have hp:=h.pos k
 refine ⟨by rw[Zct hk];have:=h.len;omega,?_,?_,?_⟩
 ·rw[Zdb hk (by rw[Zdj hp,Zdj h1,Zdj h2])]
  exact h.ps
 ·intro p hp
  rcases List.mem_append.mp hp with hp | hp
  ·exact h.gc p (List.mem_of_mem_take hp)
  ·rcases List.mem_cons.mp hp with hp | hp
   ·subst hp;exact gw
   ·exact h.gc p (List.mem_of_mem_drop hp)
 ·intro v hv
  rw[Zdb hk (mid h1 h2 hp).1,Zdb hk (mid h1 h2 hp).2]
  exact h.fan v hv
theorem Rn.del (h:Rn rs) (hk:k < rs.length) (h4:4<=rs.length) (hx:0 < X (cy rs (k - 1)) (cy rs (k + 1))):Rn (DL.del rs k):=by
 have p1:=h.pos (k - 1)
 rw[show (k:Int) - 1 + 1=k by omega] at p1
 have p2:=h.pos k
 refine ⟨by rw[Ziv hk];omega,?_,?_,?_⟩
 ·rw[Zfn hk (by omega) (by rw[Zdj hx,Zdj p1,Zdj p2])]
  exact h.ps
 ·intro p hp
  unfold DL.del at hp
  rcases List.mem_append.mp hp with hp | hp
  ·exact h.gc p (List.mem_of_mem_take hp)
  ·exact h.gc p (List.mem_of_mem_drop hp)
 ·intro v hv
  rw[Zfn hk (by omega) (mid p1 p2 hx).1,Zfn hk (by omega) (mid p1 p2 hx).2]
  exact h.fan v hv
end
end DL
end
section
namespace CZ
open PySem PySem.Spec L2 DL
open CY (F_law_put Zci ZaV F_law_any Zcj ZaW ZaX)
section
variable {Q:D->Sto->Prop} {E:Str->Sto->Prop} {M:Sto} {n m:Nat} {rs:List Pt}
theorem Zq4 {w:Pt} (h:M[n]?=some (.lst (prs rs))) (hr:Rn rs) (hb:Nr 200 rs) (hl:3<=rs.length/\rs.length<=13) (gw:Int.gcd w.1 w.2=1) (hw:(-200<=w.1/\w.1<=200)/\ -200<=w.2/\w.2<=200)
  (q: ∀ ss m M',Rn ss->Nr 200 ss->3<=ss.length->ss.length<=14->(m=n\/M.length<=m)->M'[m]?=some (.lst (prs ss))->M.length<=M'.length->(∀ k,k < M.length->M'[k]?=M[k]?)->Q (.ref m) M'):wO (F_law_put [.ref n,pr w.1 w.2] M) Q E:=by
 have hn:=Zaa h
 have ne:rs≠[]:=by intro z;rw[z] at hl;simp at hl
 simp![F_law_put,Zci,h]
 refine ⟨by omega,?_⟩
 rw[show ((rs.length:Int)).toNat=rs.length by omega]
 refine ZcE (fun i ρ M'=>M'=M/\ ∃ x y,ρ=[some (.ref n),some (pr w.1 w.2),x,y]) ⟨rfl,_,_,rfl⟩ ?_ ?_
 ·rintro k ρ M hk ⟨rfl,x,y,rfl⟩
  rw[show (0:Int) + (k:Int)=k by omega]
  have e1:=ZaO (i:=(k:Int) + 1) (m:=rs.length) (by omega)
  have b1:=Nr.cy hb ne k
  simp![ZaV,h,Zbu,ZcG,CA.Zfl,CC.Zcu]
  refine Zpe (fun b M'=>M'=M/\(b=true->0 < X (cy rs k) w/\0 < X w (cy rs (k + 1)))) ?_ ?_
  ·refine brO (fun z=> ?_) (fun z=> ?_)
   ·simp![CC.Zcu]
    exact fun u=>⟨by unfold X;omega,by unfold X;have:=of_decide_eq_true u;omega⟩
   ·simp![Zm]
    exact fun u=>by cases u
  rintro b M ⟨rfl,hx⟩
  simp![Zm]
  refine Zon (fun z=> ?_) (fun z=> ?_)
  ·have le:((k:Int) + 1).toNat=k + 1:=by omega
   simp![h,le]
   refine ⟨by rw[List.length_take];omega,by rw[List.length_take,List.length_drop];omega,?_⟩
   obtain ⟨x1,x2⟩:=hx z
   exact q (ins rs k (w.1,w.2)) _ _ (hr.ins hk gw x1 x2) (Nr.ins hb hw) (by rw[Zct hk];omega) (by rw[Zct hk];omega) (.inr (by omega)) (by rw[Zd4];rfl) (by rw[List.length_append];omega) (fun j hj=>by rw[ZbP hj])
  ·simp![Zm]
   exact ⟨_,_,rfl⟩
 ·rintro ρ M ⟨rfl,x,y,rfl⟩
  simp![Zm]
  exact q rs n M hr hb hl.1 (by omega) (.inl rfl) h (Nat.le_refl _) (fun _ _=>rfl)
theorem Zq5 (hb:Bag n M) (q: ∀ ss m M',Rn ss->Nr 200 ss->3<=ss.length->ss.length<=14->M.length<=m->M'[m]?=some (.lst (prs ss))->Gr n M M'->Q (.ref m) M'):wO (F_law_any [.ref n] M) Q E:=by
 have hn:=hb.lt
 simp![F_law_any,Zcj]
 refine CA.Zf8 hb fun ss m M1 s1 s2 s3 m0 s4 gr=> ?_
 have sl:=s1.len
 have hn1:=gr.bag.lt
 have gl:=gr.len
 simp![Zm]
 refine CA.ZG (gr.bag.app _) (by decide) fun r M2 r0 r1 g2=> ?_
 have k2:=Gr.new gr.bag g2
 have hs4:=Zaa s4
 have a4:M2[m]?=some (.lst (prs ss)):=by rw[g2.keep _ (by omega) (by simp;omega),ZbP hs4];exact s4
 have gr2:Gr n M M2:=gr.trans ((Gr.app gr.bag _).trans g2)
 obtain ⟨wd,hw,w0⟩: ∃ f:Int,atI [D.int 7,D.int 7,D.int 7,D.int 41,D.int 401,D.int 7,D.int 7,D.int 41] r=some (.int f)/\(f=7\/f=41\/f=401):=by
  have:r=0\/r=1\/r=2\/r=3\/r=4\/r=5\/r=6\/r=7:=by omega
  rcases this with rfl | rfl | rfl | rfl | rfl | rfl | rfl | rfl
  ·exact ⟨7,rfl,by decide⟩
  ·exact ⟨7,rfl,by decide⟩
  ·exact ⟨7,rfl,by decide⟩
  ·exact ⟨41,rfl,by decide⟩
  ·exact ⟨401,rfl,by decide⟩
  ·exact ⟨7,rfl,by decide⟩
  ·exact ⟨7,rfl,by decide⟩
  ·exact ⟨41,rfl,by decide⟩
 simp![k2,hw]
 refine CA.ZG gr2.bag (by decide) fun lp M3 lp0 lp1 g3=> ?_
 simp![Zm]
 refine ⟨by omega,?_⟩
 refine ZcE (fun i ρ M'=> ∃ ss m x3 x4 x5 x6,ρ=[some (.ref n),some (.ref m),some (.int wd),x3,x4,x5,x6]/\(m≠n/\M.length<=m)/\(Rn ss/\Nr 200 ss)/\3<=ss.length/\ss.length<=14/\M'[m]?=some (.lst (prs ss))/\Gr n M M') ⟨ss,m,_,_,_,_,rfl,by omega,⟨s1.rn,s2⟩,sl,s3,CA.Gr.up a4 g3 (by omega),gr2.trans g3⟩ ?_ ?_
 ·rintro i ρ M4 hi ⟨ss,m,x3,x4,x5,x6,rfl,m0,s2,s3,s4,s5,gr⟩
  simp![ZaW]
  refine CA.ZG gr.bag (by omega) fun x M5 a0 a1 g5=> ?_
  simp![Zm]
  refine CA.ZG g5.bag (by omega) fun y M6 b0 b1 g6=> ?_
  have gr6:=(gr.trans g5).trans g6
  have c5:=CA.Gr.up (CA.Gr.up s5 g5 m0.1) g6 m0.1
  have hx: -200<=x - wd / 2/\x - wd / 2<=200:=by omega
  have hy: -200<=y - wd / 2/\y - wd / 2<=200:=by omega
  simp![Zm]
  generalize x - wd / 2=x at *
  generalize y - wd / 2=y at *
  refine Zpe (fun b M'=>M'=M6/\(b=true->(x,y)≠(0,0)/\ss.length < 14)) ?_ ?_
  ·refine Zrr (fun z=> ?_) (fun z=> ?_)
   ·simp![c5]
    exact fun u=>⟨z,by have:=of_decide_eq_true u;omega⟩
   ·simp![Zm]
    exact fun u=>by cases u
  rintro b M6 ⟨rfl,hb⟩
  simp![Zm]
  refine Zon (fun z=> ?_) (fun z=> ?_)
  ·obtain ⟨h0,h1⟩:=hb z
   simp![Zm]
   refine CY.ZgO h0 hx hy fun w gw bw=> ?_
   simp![Zm]
   refine Zq4 c5 s2.1 s2.2 (by omega) gw bw fun tt m' M7 tr t2 t3 t4 t0 t5 t6 t7=> ?_
   simp![Zm]
   have gr7:=gr6.trans (CY.Gr.of gr6.bag t6 t7)
   have:=gr6.len
   exact ⟨tt,m',_,_,_,_,rfl,by have:=gr6.bag.lt;omega,⟨tr,t2⟩,t3,t4,t5,gr7⟩
  ·simp![Zm]
   exact ⟨ss,m,_,_,_,_,rfl,m0,s2,s3,s4,c5,gr6⟩
 ·rintro ρ M4 ⟨ss,m,x3,x4,x5,x6,rfl,m0,s2,s3,s4,s5,gr⟩
  simp![Zm]
  refine CA.ZG gr.bag (by decide) fun lp M5 lp0 lp1 g5=> ?_
  simp![Zm]
  refine ⟨by omega,?_⟩
  refine ZcE (fun i ρ M'=> ∃ ss m x2 x3 x4 x5 x6,ρ=[some (.ref n),some (.ref m),x2,x3,x4,x5,x6]/\(m≠n/\M.length<=m)/\(Rn ss/\Nr 200 ss)/\3<=ss.length/\ss.length<=14/\M'[m]?=some (.lst (prs ss))/\Gr n M M') ⟨ss,m,_,_,_,_,_,rfl,m0,s2,s3,s4,CA.Gr.up s5 g5 m0.1,gr.trans g5⟩ ?_ ?_
  ·rintro i ρ M6 hi ⟨ss,m,x2,x3,x4,x5,x6,rfl,m0,s2,s3,s4,s5,gr⟩
   have ne:ss≠[]:=by intro z;rw[z] at s3;simp at s3
   simp![ZaX,s5]
   refine CA.ZG gr.bag (by omega) fun av M7 a0 a1 g7=> ?_
   have c5:=CA.Gr.up s5 g7 m0.1
   have hc5:=Zaa c5
   have gr7:=gr.trans g7
   obtain ⟨av,rfl⟩: ∃ k:Nat,av=k:=⟨av.toNat,by omega⟩
   have e1:=ZaO (i:=(av:Int) + 1) (m:=ss.length) (by omega)
   have b1:=Nr.cy s2.2 ne ((av:Int) - 1)
   simp![c5]
   refine Zpe (fun b M'=>M'=M7/\(b=true->3 < ss.length/\0 < X (cy ss (av - 1)) (cy ss (av + 1)))) ?_ ?_
   ·refine brO (fun z=> ?_) (fun z=> ?_)
    ·simp![c5,Zbu,ZcG,CA.Zfl,CC.Zcu]
     exact fun u=>⟨by omega,by unfold X;have:=of_decide_eq_true u;omega⟩
    ·simp![Zm]
     exact fun u=>by cases u
   rintro b M7 ⟨rfl,hb⟩
   simp![Zm]
   refine Zon (fun z=> ?_) (fun z=> ?_)
   ·obtain ⟨h4,hx⟩:=hb z
    have le:((av:Int) + 1).toNat=av + 1:=by omega
    have le2:(av:Int).toNat=av:=by omega
    simp![c5,le,le2]
    have dl:=Ziv (rs:=ss) (k:=av) (by omega)
    refine ⟨by rw[List.length_take,List.length_drop];omega,del ss av,_,_,_,_,_,_,rfl,by have:=gr7.len;have:=gr7.bag.lt;omega,⟨s2.1.del (by omega) (by omega) hx,CF.Nr.del s2.2⟩,by omega,by omega,by rw[Zd4];rfl,gr7.app2 _⟩
   ·simp![Zm]
    exact ⟨ss,m,_,_,_,_,_,rfl,m0,s2,s3,s4,c5,gr7⟩
  ·rintro ρ M6 ⟨ss,m,x2,x3,x4,x5,x6,rfl,m0,s2,s3,s4,s5,gr⟩
   simp![Zm]
   exact q ss m M6 s2.1 s2.2 s3 s4 m0.2 s5 gr
end
end CZ
end
section
namespace DL
open TW
open CT (Cl)
section
variable {rs us:List Pt}
end
end DL
end
section
namespace CB
open DL
section
variable {u v w:Pt}
noncomputable def kl:List Pt->List Int
 |a :: b :: d :: r=>X a d :: kl (b :: d :: r)
 |_=>[]
theorem Xvv (p:Pt):X p p=0:=by unfold X;grind
theorem Zq6: ∀ (r:List Pt) (a b:Pt) (v:Pt),Ch (a :: b :: r)->Cv (a :: b :: r)->(b :: r).getLast (by simp)=v->0<=X b v/\X b v < X a v
 | [],a,b,v,h,_,e=>by
  have:b=v:=e
  subst this
  rw[Xvv,h.1]
  omega
 |c :: r,a,b,v,h,k,e=>by
  have ih:=Zq6 r b c v h.2 k.2 (by rw[<- e];simp[List.getLast_cons])
  obtain ⟨m,m2,e1,e2⟩:=k.1
  have ex:X a v + X c v=m * X b v:=by unfold X;grind
  have:2 * X b v<=m * X b v:=Int.mul_le_mul_of_nonneg_right m2 (by omega)
  omega
theorem ZlR {t b k c:Int} (hb:0 < b) (h0:0<=c) (h1:c < b) (e:t + c=k * b): -((-t) / b)=k:=by
 have: -t=c + b * (-k):=by grind
 rw[this,Int.add_mul_ediv_left _ _ (by omega),Int.ediv_eq_zero_of_lt h0 h1]
 omega
theorem only: ∀ (ws:List Pt) (u v w:Pt),Ch (u :: (ws ++ [v]))->Cv (u :: (ws ++ [v]))->Fb u v w->ws=btw u w (hj (X u v) (X w v))/\kl (u :: (ws ++ [v]))=hj (X u v) (X w v)
 | [],u,v,w,h,k,f=>by
  have h1:X u v=1:=h.1
  have l:=f.lo
  have l2:=f.hi
  have w0:X w v=0:=by omega
  rw[w0]
  unfold hj
  rw[dif_neg (by decide)]
  exact ⟨rfl,rfl⟩
 |x :: ws,u,v,w,h,k,f=>by
  have hl:(x :: (ws ++ [v])).getLast (by simp)=v:=by simp[List.getLast_cons]
  have d:=Zq6 (ws ++ [v]) u x v h k hl
  have fx:Fb u v x:=⟨h.1,d.1,d.2⟩
  have ew:=fx.uniq f
  subst ew
  obtain ⟨y,R,eR⟩: ∃ y R,ws ++ [v]=y :: R:=by
   cases ws with
   |nil=>exact ⟨v,[],rfl⟩
   |cons y R=>exact ⟨y,R ++ [v],rfl⟩
  have h':Ch (x :: y :: R):=by rw[<- eR];exact h.2
  have kk:Cv (u :: x :: y :: R):=by rw[<- eR];exact k
  have hl2:(y :: R).getLast (by simp)=v:=by
   have:(ws ++ [v]).getLast (by simp)=v:=by simp
   simpa [eR] using this
  have d2:=Zq6 R x y v h' kk.2 hl2
  obtain ⟨m,m2,e1,e2⟩:=kk.1
  have ex:X u v + X y v=m * X x v:=by unfold X;grind
  have hc:=ZlR (by omega) d2.1 d2.2 ex
  have ey:(m * x.1 - u.1,m * x.2 - u.2)=y:=by apply Prod.ext<;>simp only<;>omega
  have m3:X u y=m:=by
   have:=h.1
   rw[<- ey]
   unfold X at *
   simp only
   grind
  have fy:Fb x v y:=⟨h'.1,d2.1,d2.2⟩
  have ih:=only ws x v y (by rw[eR];exact h') (by rw[eR];exact kk.2) fy
  have ej:hj (X u v) (X x v)=m :: hj (X x v) (X y v):=by
   rw[hj,dif_pos (by omega),hc]
   congr 2
   omega
  rw[ej]
  constructor
  ·rw[btw,ey,<- ih.1]
  ·show kl (u :: x :: (ws ++ [v]))=_
   rw[eR,kl,m3,<- eR,ih.2]
end
end CB
end
section
namespace CD
open PySem PySem.Spec L2 DL
end CD
end
section
namespace CD
open PySem PySem.Spec L2 DL
open CV
open CB (Bd)
open CA (Tn)
open CR (rt)
section
variable {Q:D->Sto->Prop} {E:Str->Sto->Prop} {M:Sto} {n m p:Nat} {rs:List Pt} {a b c d:Int} {ρ:Ro} {k:Nat} {xs:List D} {tg:Tg} {f:Ev}
noncomputable abbrev tb (a b c d:Int):SO:= .lst [.int a,.int b,.int c,.int d]
end
end CD
end
section
namespace CD
open PySem PySem.Spec L2 DL
open CV
open CB (Bd)
open CA (Tn)
open CR (rt)
section
variable {Q:D->Sto->Prop} {E:Str->Sto->Prop} {M:Sto} {n m p:Nat} {rs:List Pt} {a b c d:Int} {ρ:Ro} {k:Nat} {xs:List D} {tg:Tg} {f:Ev}
end
end CD
end
section
namespace CD
open PySem PySem.Spec L2 DL
open CV CN CU CS
open CR (rt)
section
variable {Q:D->Sto->Prop} {E:Str->Sto->Prop} {M:Sto} {n m k l:Nat} {rs:List Pt} {p q:Rat} {xs:List Rat} {ms:List (Rat × Rat)}
end
end CD
end
section
namespace DL
open TW
open CN (cq)
section
variable {rs:List Pt} {hs:List Rat}
end
end DL
end
section
namespace CO
open PySem PySem.Spec L2 DL
open CC (F_following)
end CO
end
section
namespace CO
open PySem PySem.Spec L2 DL
open CV CN CU CS CD
open CA (Tn)
open CR (rt)
section
variable {Q:D->Sto->Prop} {E:Str->Sto->Prop} {M:Sto} {n m p:Nat} {rs us:List Pt} {hs:List Int}
theorem Zga {f:D->D->Option Bool}: ∀ {xs:List D},(∀ x∈xs,f x x=some true)->eqL f xs xs=some true
 | [],_=>rfl
 |x :: xs,h=>by
  rw[eqL,h x (by simp),Zga fun y hy=>h y (List.mem_cons_of_mem _ hy)]
  rfl
end
end CO
end
section
end
section
end
section
end
section
end
section
end
section
end
section
end
section
end
section
end
section
end
section
end
section
end
section
end
section
end
section
end
section
end
section
end
section
end
section
end
section
end
section
end
section
end
section
namespace CG
open PySem PySem.Spec L2 DL
open CC (F_crossed F_following)
open CR (F_is_whole F_greatest_divisor F_law_whole)
noncomputable def Zck:Sv:=(ZW (ZaE (Zdu "tuple" (Zf 0)) (ZaE (e2 dEq (Zk bLen (Zc (Zf 0) aNil)) (eC (.int 2))) (ZaE (Zk F_is_whole (Zc (e2 dIx (Zf 0) (eC (.int 0))) aNil)) (Zk F_is_whole (Zc (e2 dIx (Zf 0) (eC (.int 1))) aNil))))))
noncomputable def F_is_pair:List D->Sto->Out D:=fnF Zck 1 0
noncomputable def Zd7:Sv:=(ZW (Zk F_greatest_divisor (Zc (e2 dIx (Zf 0) (eC (.int 0))) (Zc (e2 dIx (Zf 0) (eC (.int 1))) aNil))))
noncomputable def F_common:List D->Sto->Out D:=fnF Zd7 1 0
noncomputable def ZcT:Sv:=(ZW (ZaE (Zk F_is_pair (Zc (Zf 0) aNil)) (e2 dEq (Zk F_common (Zc (Zf 0) aNil)) (eC (.int 1)))))
noncomputable def F_is_ray:List D->Sto->Out D:=fnF ZcT 1 0
noncomputable def ZaQ:Sv:=(ZW (Zg2 (e2 dEq (Zf 0) (Z3 (Zc (eC (.int 1)) (Zc (eC (.int 0)) aNil)))) (ZaE (e2 dLt (e2 dIx (Zf 0) (eC (.int 1))) (eC (.int 0))) (e2 dLt (eC (.int 0)) (e2 dIx (Zf 1) (eC (.int 1)))))))
noncomputable def F_met_direction:List D->Sto->Out D:=fnF ZaQ 2 0
noncomputable def Zai:Sv:=(sIf (ZaL (tv (Zk F_is_ray (Zc (Zf 2) aNil)))) (Zbk (PySem.Str.ofString "NoRound") (Zc (eC (.str (PySem.Str.ofString "ray"))) (Zc (Zf 1) aNil))) sNil)
noncomputable def Zaj:Sv:=(sIf (tv (e2 dLe (Zk F_crossed (Zc (Zf 2) (Zc (Zk F_following (Zc (Zf 0) (Zc (Zf 1) aNil))) aNil))) (eC (.int 0)))) (Zbk (PySem.Str.ofString "NoRound") (Zc (eC (.str (PySem.Str.ofString "wedge"))) (Zc (Zf 1) aNil))) sNil)
noncomputable def Zab:Sv:=(ZB (sIf (Zdr (ZaL (tv (Zdu "list" (Zf 0)))) (tv (e2 dLt (Zk bLen (Zc (Zf 0) aNil)) (eC (.int 3))))) (Zbk (PySem.Str.ofString "NoRound") (Zc (eC (.str (PySem.Str.ofString "round"))) (Zc (eC (.int 0)) aNil))) sNil)
 (ZB (ZeJ (gTp (gCs (gNm 1) (gCs (gNm 2) gNl))) (iEn (Zc (Zf 0) aNil)) Zai)
 (ZB (ZeJ (gTp (gCs (gNm 1) (gCs (gNm 2) gNl))) (iEn (Zc (Zf 0) aNil)) Zaj)
 (sIf (tv (e2 dGt (Zk bLen (Zc (ZbN (iEn (Zc (Zf 0) aNil)) 2 [0] (gTp (gCs (gNm 0) (gCs (gNm 1) gNl))) (tv (Zk F_met_direction (Zc (Zf 1) (Zc (Zk F_following (Zc (Zf 2) (Zc (Zf 0) aNil))) aNil)))) (Zf 0)) aNil)) (eC (.int 1)))) (Zbk (PySem.Str.ofString "NoRound") (Zc (eC (.str (PySem.Str.ofString "turns"))) (Zc (eC (.int 0)) aNil))) sNil))))
noncomputable def F_look_round:List D->Sto->Out D:=fnF Zab 1 2
noncomputable def Zcl:Sv:=(ZB (ZO (gNm 1) (ZaD (Zc (Zan [(PySem.Str.ofString "NoRound",false)] (Zf 0)) (Zc (Zan [(PySem.Str.ofString "NoRound",false)] (Zf 0)) (Zc (Zan [(PySem.Str.ofString "NoRound",true)] (Zf 0)) (Zc (Zan [(PySem.Str.ofString "NoRound",false)] (Zf 0)) aNil))))))
 (ZB (ZO (gNm 1) (e2 dAdd (Zf 1) (ZaD (Zc (Zan [(PySem.Str.ofString "NoRound",false)] (Zf 0)) (Zc (Zan [(PySem.Str.ofString "NoRound",false)] (Zf 0)) (Zc (Zan [(PySem.Str.ofString "NoRound",false)] (Zf 0)) (Zc (Zan [(PySem.Str.ofString "NoRound",false)] (Zf 0)) aNil)))))))
 (ZB (ZO (gNm 1) (e2 dAdd (Zf 1) (ZaD (Zc (Zan [(PySem.Str.ofString "NoRound",false)] (Zf 0)) (Zc (Zan [(PySem.Str.ofString "NoRound",false)] (Zf 0)) (Zc (Zan [(PySem.Str.ofString "NoRound",false)] (Zf 0)) (Zc (Zan [(PySem.Str.ofString "NoRound",false)] (Zf 0)) aNil)))))))
 (ZB (ZO (gNm 1) (e2 dAdd (Zf 1) (ZaD (Zc (Zan [(PySem.Str.ofString "NoRound",false)] (Zf 0)) (Zc (Zan [(PySem.Str.ofString "NoRound",false)] (Zf 0)) (Zc (Zan [(PySem.Str.ofString "NoRound",false)] (Zf 0)) aNil))))))
 (ZW (ZbN (iR1 (Zc (eC (.int 15)) aNil)) 1 [0,1] (gNm 0) (Za5 (tv (e2 dIx (Zf 2) (Zf 0))) (tv (Zan [(PySem.Str.ofString "NoRound",true)] (Zf 1)))) (Zf 0)))))))
noncomputable def F_law_classes:List D->Sto->Out D:=fnF Zcl 1 1
noncomputable def ZaZ:Sv:=(ZB (Zj8 (ZO (gNm 1) (Zk F_look_round (Zc (Zf 0) aNil))) [PySem.Str.ofString "NoRound"] [false,true,false] 2 (ZB (sIf (Zdr (tv (e2 dNe (Zk F_law_classes (Zc (Zf 2) aNil)) (ZaD (Zc (eC (.int 2)) aNil)))) (Zdr (ZaL (tv (Zdu "str" (Zkb 0 (Zf 2))))) (ZaL (tv (Zk F_law_whole (Zc (Zkb 1 (Zf 2)) aNil)))))) (ZW (eC (.str (PySem.Str.ofString "another refusal")))) sNil)
 (ZW (Z3 (Zc (Zkb 0 (Zf 2)) (Zc (Zkb 1 (Zf 2)) aNil))))))
 (ZB (sIf (tv (e2 dIsNot (Zf 1) (eC .non))) (ZW (eC (.str (PySem.Str.ofString "something")))) sNil)
 (ZW (eC .non))))
noncomputable def F_law_looked:List D->Sto->Out D:=fnF ZaZ 1 2
end CG
end
section
namespace CG
open PySem PySem.Spec L2 DL
open CB (Bd)
open CV (Kp)
open CC (F_following)
noncomputable abbrev NR:Str:=PySem.Str.ofString "NoRound"
noncomputable def met (a b:Pt):Bool:=decide (a=(1,0)) || (decide (a.2 < 0) && decide (0 < b.2))
theorem ZoM {a b:Pt} (g:Int.gcd a.1 a.2=1) (x:0 < X a b):(if met a b then 1 else 0)=in1 (1,0) a b:=by
 have e1:X a (1,0)=0 - a.2:=by unfold X;simp only;omega
 have e2:X (1,0) b=b.2:=by unfold X;simp only;omega
 unfold in1 met
 rw[e1,e2]
 by_cases c:a.2=0
 ·have ga:a.1=1\/a.1= -1:=by
   rw[c,Int.gcd_zero_right] at g
   omega
  unfold X at x
  rw[c] at x
  rcases ga with h | h
  ·have ea:a=(1,0):=Prod.ext h c
   rw[h] at x
   rw[ea]
   simp
   omega
  ·have ea:a≠(1,0):=fun z=>by rw[z] at h;simp at h
   rw[h] at x
   have: ¬ (0 < b.2):=by omega
   simp[ea,this]
 ·have ea:a≠(1,0):=fun z=>c (by rw[z])
  by_cases c2:a.2 < 0
  ·by_cases c3:0 < b.2
   ·simp[c2,c3];omega
   ·simp[ea,c3]
  ·have: ¬ (0<=0 - a.2):=by omega
   simp[ea,c2]
   omega
noncomputable def Ze9 (rs:List Pt):Nat:=((List.range rs.length).filter fun (i:Nat)=>met (cy rs i) (cy rs (i + 1))).length
section
variable {Q:D->Sto->Prop} {E:Str->Sto->Prop} {N B C:Ro->Sto->Prop} {R:D->Sto->Prop} {M M':Sto} {m:Nat} {rs:List Pt} {u v:Pt} {d:D}
theorem ZbR {m:Nat} {xs:List D} (h:M[m]?=some (.lst xs)):ZC M (.ref m)=some "list":=by simp[ZC,kd,h]
theorem ZoN:wO (F_is_pair [pr u.1 u.2] M) Q E=Q (.bl true) M:=by
 simp![F_is_pair,Zck,CR.F_is_whole,CR.ZaF]
theorem ZoO (q:Q (.bl (decide (Int.gcd u.1 u.2=1))) M):wO (F_is_ray [pr u.1 u.2] M) Q E:=by
 simp![F_is_ray,ZcT,ZoN]
 simp![F_common,Zd7,CR.Zq0]
 rw[Znt]
 simp![Zm]
 have e:decide (((Int.gcd u.1 u.2:Nat):Int)=1)=decide (Int.gcd u.1 u.2=1):=decide_eq_decide.mpr (by omega)
 rw[e]
 exact q
theorem Zq7 (q:Q (.bl (met u v)) M):wO (F_met_direction [pr u.1 u.2,pr v.1 v.2] M) Q E:=by
 unfold met at q
 simp![F_met_direction,ZaQ]
 refine brO (fun z=> ?_) (fun z=> ?_)
 ·simp![Zm]
  have e:u=(1,0):=z
  rw[decide_eq_true e,Bool.true_or] at q
  exact q
 ·simp![Zm]
  have e: ¬ u=(1,0):=z
  rw[decide_eq_false e,Bool.false_or] at q
  refine brO (fun z2=> ?_) (fun z2=> ?_)
  ·simp![Zm]
   rw[decide_eq_true z2,Bool.true_and] at q
   exact q
  ·simp![Zm]
   rw[decide_eq_false z2,Bool.false_and] at q
   exact q
theorem Zkq {i:Nat} (h:i<=1000):((i:Int)).natAbs.log2 < 1000:=by
 rw[Int.natAbs_natCast]
 by_cases c:i=0
 ·rw[c];decide
 ·exact Nat.lt_of_lt_of_le ((Nat.log2_lt c).mpr (show i < 2 ^ 10 by omega)) (by decide)
theorem ZlS {x y:Option D} (h:M[m]?=some (.lst (prs rs))) (hl:3<=rs.length/\rs.length<=1000) (hb: ∀ p∈rs,Bd 5000 p) (hg: ∀ p∈rs,Int.gcd p.1 p.2=1)
  (h1: ∀ i:Nat,i < rs.length->(∀ j:Nat,j < i->0 < X (cy rs j) (cy rs (j + 1)))-> ¬ 0 < X (cy rs i) (cy rs (i + 1))->E NR (M ++ [.lst [.str (PySem.Str.ofString "wedge"),.int i]]))
  (h2:(∀ i:Nat,i < rs.length->0 < X (cy rs i) (cy rs (i + 1)))->1 < Ze9 rs-> ∀ M',Kp M M'->E NR (M' ++ [.lst [.str (PySem.Str.ofString "turns"),.int 0]]))
  (h3:(∀ i:Nat,i < rs.length->0 < X (cy rs i) (cy rs (i + 1)))->Ze9 rs<=1-> ∀ M',Kp M M'->Q .non M'):
  wS ((ZB (ZeJ (gTp (gCs (gNm 1) (gCs (gNm 2) gNl))) (iEn (Zc (Zf 0) aNil)) Zaj)
   (sIf (tv (e2 dGt (Zk bLen (Zc (ZbN (iEn (Zc (Zf 0) aNil)) 2 [0] (gTp (gCs (gNm 0) (gCs (gNm 1) gNl))) (tv (Zk F_met_direction (Zc (Zf 1) (Zc (Zk F_following (Zc (Zf 2) (Zc (Zf 0) aNil))) aNil)))) (Zf 0)) aNil)) (eC (.int 1)))) (Zbk (PySem.Str.ofString "NoRound") (Zc (eC (.str (PySem.Str.ofString "turns"))) (Zc (eC (.int 0)) aNil))) sNil)) [some (.ref m),x,y] M) (Zl3 Q) Q (fun _ _=>False) (fun _ _=>False) E:=by
 have ne:rs≠[]:=by intro z;rw[z] at hl;simp at hl
 simp![Zm]
 refine ZdF (fun i ρ M'=>M'=M/\(∃ x y,ρ=[some (.ref m),x,y])/\ ∀ j:Nat,j < i->0 < X (cy rs j) (cy rs (j + 1))) h ⟨rfl,⟨_,_,rfl⟩,fun j hj=>by omega⟩ (fun i ρ M' hI=>by rw[hI.1];exact h) ?_ ?_
 ·rintro i ρ M' hi ⟨e,⟨x,y,rfl⟩,hj⟩
  rw[e]
  clear e M'
  rw[Zv] at hi
  rw[CC.Zb2]
  have b1:=hb _ (Zch (i:=(i:Int)) ne)
  have cw: ∀ {Q:D->Sto->Prop} {E:Str->Sto->Prop},wO (CC.F_crossed [pr (cy rs i).1 (cy rs i).2,pr (cy rs (i + 1)).1 (cy rs (i + 1)).2] M) Q E=Q (.int (X (cy rs i) (cy rs (i + 1)))) M:=CC.Zcu (by unfold Bd at b1;omega) (by unfold Bd at b1;omega)
  simp![Zaj,CC.Zdd h,cw]
  refine brS (fun z=> ?_) (fun z=> ?_)
  ·refine Zcf ?_
   simp![ZeT]
   exact ⟨⟨by decide +kernel,Zkq (by omega)⟩,h1 i hi hj (by omega)⟩
  ·simp![Zm]
   refine ⟨⟨_,_,rfl⟩,fun j hj'=> ?_⟩
   by_cases c:j < i
   ·exact hj j c
   ·have:j=i:=by omega
    subst this
    omega
 rintro ρ M' ⟨e,⟨x,y,rfl⟩,hj⟩
 rw[e]
 clear e M'
 rw[Zv] at hj
 simp![Zm]
 show wO (ZcD (.enu m) _ _ _ M.length (cnt (.enu m) M) 0 _ (M ++ [.lst []])) _ _
 have hln:((prs rs).mapIdx fun (k:Nat) d=>D.tup [.int k,d]).length=rs.length:=by simp[Zv]
 have lm:=Zaa h
 refine Zkd (xs:=(prs rs).mapIdx fun (k:Nat) d=>D.tup [.int k,d]) (fun i ρ M'=>(∃ x y,ρ=[x,y,some (.ref m)])/\M'=M ++ [.lst (((List.range i).filter fun (i:Nat)=>met (cy rs i) (cy rs (i + 1))).map fun (i:Nat)=>D.int i)]) _ 0 _ _ (by simp) (by rw[Zij h,hln,Zv];omega) ⟨⟨_,_,rfl⟩,rfl⟩ (fun i ρ M' hi hI=> ?_) ?_ ?_
 ·rw[hI.2,Zkh (by rw[ZbP lm];exact h),List.getElem?_mapIdx]
 ·rintro i ρ M' hi ⟨⟨x,y,rfl⟩,rfl⟩
  have hi':i < rs.length:=by rw[hln] at hi;exact hi
  have hM:(M ++ [SO.lst (((List.range i).filter fun (i:Nat)=>met (cy rs i) (cy rs (i + 1))).map fun (i:Nat)=>D.int i)])[m]?=some (.lst (prs rs)):=by rw[ZbP lm];exact h
  rw[List.getElem_mapIdx,CC.Zb2]
  simp![CC.Zdd hM]
  refine Zq7 ?_
  simp![Zm]
  refine br (fun z=> ?_) (fun z=> ?_)
  ·simp![Zm]
   have l1:((List.range i).filter fun (i:Nat)=>met (cy rs i) (cy rs (i + 1))).length<=i:=by
    have:=List.length_filter_le (fun (i:Nat)=>met (cy rs i) (cy rs (i + 1))) (List.range i)
    rw[List.length_range] at this
    exact this
   refine ⟨by omega,?_⟩
   rw[List.range_succ,List.filter_append,List.map_append]
   simp[List.filter_cons,z]
  ·refine ⟨⟨_,_,rfl⟩,?_⟩
   rw[List.range_succ,List.filter_append]
   simp[List.filter_cons,z]
 ·rintro ρ M' ⟨-,rfl⟩
  rw[hln]
  have hlen:(((List.range rs.length).filter fun (i:Nat)=>met (cy rs i) (cy rs (i + 1))).map fun (i:Nat)=>D.int i).length=Ze9 rs:=by rw[List.length_map];rfl
  have t:(M ++ [SO.lst (((List.range rs.length).filter fun (i:Nat)=>met (cy rs i) (cy rs (i + 1))).map fun (i:Nat)=>D.int i)])[M.length]?=some (.lst (((List.range rs.length).filter fun (i:Nat)=>met (cy rs i) (cy rs (i + 1))).map fun (i:Nat)=>D.int i)):=by simp
  have K1:Kp M (M ++ [SO.lst (((List.range rs.length).filter fun (i:Nat)=>met (cy rs i) (cy rs (i + 1))).map fun (i:Nat)=>D.int i)]):=Kp.app
  generalize M ++ [SO.lst (((List.range rs.length).filter fun (i:Nat)=>met (cy rs i) (cy rs (i + 1))).map fun (i:Nat)=>D.int i)]=M1 at *
  generalize ((List.range rs.length).filter fun (i:Nat)=>met (cy rs i) (cy rs (i + 1))).map (fun (i:Nat)=>D.int i)=L at *
  show kA1 _ _ _ _ (.ref M.length) M1
  simp![t]
  rw[hlen]
  refine brS (fun z=> ?_) (fun z=> ?_)
  ·refine Zcf ?_
   simp![ZeT]
   exact ⟨⟨by decide +kernel,by decide +kernel⟩,h2 hj (by omega) M1 K1⟩
  ·simp![Zm]
   exact h3 hj (by omega) M1 K1
theorem Ziz (h:M[m]?=some (.lst (prs rs))) (hl:3<=rs.length/\rs.length<=1000) (hb: ∀ p∈rs,Bd 5000 p) (hg: ∀ p∈rs,Int.gcd p.1 p.2=1)
  (h1: ∀ i:Nat,i < rs.length->(∀ j:Nat,j < i->0 < X (cy rs j) (cy rs (j + 1)))-> ¬ 0 < X (cy rs i) (cy rs (i + 1))->E NR (M ++ [.lst [.str (PySem.Str.ofString "wedge"),.int i]]))
  (h2:(∀ i:Nat,i < rs.length->0 < X (cy rs i) (cy rs (i + 1)))->1 < Ze9 rs-> ∀ M',Kp M M'->E NR (M' ++ [.lst [.str (PySem.Str.ofString "turns"),.int 0]]))
  (h3:(∀ i:Nat,i < rs.length->0 < X (cy rs i) (cy rs (i + 1)))->Ze9 rs<=1-> ∀ M',Kp M M'->Q .non M'):wO (F_look_round [.ref m] M) Q E:=by
 have ne:rs≠[]:=by intro z;rw[z] at hl;simp at hl
 simp![F_look_round,Zab,ZbR h,h]
 refine ZdF (fun i ρ M'=>M'=M/\ ∃ x y,ρ=[some (.ref m),x,y]) h ⟨rfl,_,_,rfl⟩ (fun i ρ M' hI=>by rw[hI.1];exact h) ?_ ?_
 ·rintro i ρ M' hi ⟨e,x,y,rfl⟩
  rw[e]
  clear e M'
  rw[Zv] at hi
  rw[CC.Zb2]
  simp![Zai]
  refine ZoO ?_
  rw[hg _ (Zch ne),decide_eq_true rfl]
  simp![Zm]
  exact ⟨_,_,rfl⟩
 rintro ρ M' ⟨e,x,y,rfl⟩
 rw[e]
 clear e M'
 exact ZlS h hl hb hg h1 h2 h3
theorem ZiA {es:List D} (q: ∀ L,(M ++ L)[M.length + 7]?=some (.lst [.int 2])->Q (.ref (M.length + 7)) (M ++ L)):wO (F_law_classes [.err NR es] M) Q E:=by
 have lk: ∀ b:Bool,List.lookup NR [(NR,b)]=some b:=fun b=>by simp[List.lookup]
 obtain ⟨L,e1,e2⟩:=Zgz (es:=es) (M:=M) (h0:=lk false) (h1:=lk false) (h2:=lk true) (h3:=lk false) (h4:=lk false) (h5:=lk false) (h6:=lk false) (h7:=lk false) (h8:=lk false) (h9:=lk false) (h10:=lk false) (h11:=lk false) (h12:=lk false) (h13:=lk false) (h14:=lk false) (lk true)
 have e:F_law_classes [.err NR es] M=_:=e1
 rw[e]
 exact q L e2
theorem Zgb {w:Str} {i:Int} (hL: ∀ {Q:D->Sto->Prop} {E:Str->Sto->Prop},(∀ M',Kp M M'->E NR (M' ++ [.lst [.str w,.int i]]))->wO (F_look_round [d] M) Q E) (q: ∀ M',Kp M M'->Q (.tup [.str w,.int i]) M'):wO (F_law_looked [d] M) Q E:=by
 simp![F_law_looked,ZaZ]
 refine hL fun M1 K1=> ?_
 simp![Zm]
 refine ⟨by decide +kernel,ZiA fun L e=> ?_⟩
 have K2:Kp M (M1 ++ L):=K1.trans Kp.app
 generalize M1 ++ L=M2 at *
 generalize M1.length + 7=o at *
 have e1:eqF 12 (M2 ++ [SO.lst [.int 2]]) (.ref o) (.ref M2.length)=some true:=by
  rw[Zp8 (by rw[ZbP (Zaa e)];exact e) (show (M2 ++ [SO.lst [.int 2]])[M2.length]?=some (.lst [.int 2]) by simp)]
  rfl
 simp![e1,ZqW,ZoD,ZoE,CR.F_law_whole,CR.Zbp]
 exact q _ (K2.trans Kp.app)
theorem ZjK (hL: ∀ {Q:D->Sto->Prop} {E:Str->Sto->Prop},(∀ M',Kp M M'->Q .non M')->wO (F_look_round [d] M) Q E) (q: ∀ M',Kp M M'->Q .non M'):wO (F_law_looked [d] M) Q E:=by
 simp![F_law_looked,ZaZ]
 refine hL fun M1 K1=> ?_
 simp![Zm]
 exact q _ K1
end
end CG
end
section
namespace CJ
open PySem PySem.Spec L2 DL
open CC (F_law_cross)
open CR (F_law_whole)
open CY (F_law_straight)
noncomputable def ZbE:Sv:=(ZB (sIf (Zdr (ZaL (tv (Zdu "tuple" (Zf 0)))) (Zdr (tv (e2 dNe (Zk bLen (Zc (Zf 0) aNil)) (eC (.int 2)))) (Zdr (ZaL (tv (Zk F_law_whole (Zc (e2 dIx (Zf 0) (eC (.int 0))) aNil)))) (ZaL (tv (Zk F_law_whole (Zc (e2 dIx (Zf 0) (eC (.int 1))) aNil))))))) (ZW (eC (.bl false))) sNil)
 (ZW (ZaE (e2 dNe (Zf 0) (Z3 (Zc (eC (.int 0)) (Zc (eC (.int 0)) aNil)))) (e2 dEq (Zk F_law_straight (Zc (Zf 0) aNil)) (Zf 0)))))
noncomputable def F_law_is_ray:List D->Sto->Out D:=fnF ZbE 1 0
noncomputable def Za1:Sv:=(ZB (sIf (tv (e2 dEq (e2 dIx (Zf 0) (eC (.int 1))) (eC (.int 0)))) (ZW (e2 dGt (e2 dIx (Zf 0) (eC (.int 0))) (eC (.int 0)))) sNil)
 (ZW (ZaE (e2 dLt (e2 dIx (Zf 0) (eC (.int 1))) (eC (.int 0))) (e2 dGt (e2 dIx (Zf 1) (eC (.int 1))) (eC (.int 0))))))
noncomputable def F_law_has_east:List D->Sto->Out D:=fnF Za1 2 0
noncomputable def Zay:Sv:=(sIf (ZaL (tv (Zk F_law_is_ray (Zc (Zf 2) aNil)))) (ZW (Z3 (Zc (eC (.str (PySem.Str.ofString "ray"))) (Zc (Zf 1) aNil)))) sNil)
noncomputable def Za2:Sv:=(sIf (tv (e2 dLe (Zk F_law_cross (Zc (Zf 2) (Zc (e2 dIx (Zf 0) (e2 dMod (e2 dAdd (Zf 1) (eC (.int 1))) (Zk bLen (Zc (Zf 0) aNil)))) aNil))) (eC (.int 0)))) (ZW (Z3 (Zc (eC (.str (PySem.Str.ofString "wedge"))) (Zc (Zf 1) aNil)))) sNil)
noncomputable def Za3:Sv:=(ZO (gNm 3) (e2 dAdd (Zf 3) (Zk bInt (Zc (Zk F_law_has_east (Zc (e2 dIx (Zf 0) (e2 dSub (Zf 1) (eC (.int 1)))) (Zc (e2 dIx (Zf 0) (Zf 1)) aNil))) aNil))))
noncomputable def Zap:Sv:=(ZB (sIf (Zdr (ZaL (tv (Zdu "list" (Zf 0)))) (tv (e2 dLt (Zk bLen (Zc (Zf 0) aNil)) (eC (.int 3))))) (ZW (Z3 (Zc (eC (.str (PySem.Str.ofString "round"))) (Zc (eC (.int 0)) aNil)))) sNil)
 (ZB (ZeJ (gTp (gCs (gNm 1) (gCs (gNm 2) gNl))) (iEn (Zc (Zf 0) aNil)) Zay)
 (ZB (ZeJ (gTp (gCs (gNm 1) (gCs (gNm 2) gNl))) (iEn (Zc (Zf 0) aNil)) Za2)
 (ZB (ZO (gNm 3) (eC (.int 0)))
 (ZB (Zbt (gNm 1) (Zc (Zk bLen (Zc (Zf 0) aNil)) aNil) Za3)
 (ZB (sIf (tv (e2 dGt (Zf 3) (eC (.int 1)))) (ZW (Z3 (Zc (eC (.str (PySem.Str.ofString "turns"))) (Zc (eC (.int 0)) aNil)))) sNil)
 (ZW (eC .non))))))))
noncomputable def F_law_fault:List D->Sto->Out D:=fnF Zap 1 3
end CJ
end
section
namespace CJ
open PySem PySem.Spec L2 DL
open CB (Bd)
open CV (Kp)
open CG (met Ze9 NR)
noncomputable def ZiM (M:Sto) (x:D):Prop:= ∃ t,ZC M x=some t/\(ZbB t "int"=false\/t="bool")
noncomputable def Odd (M:Sto) (d:D):Prop:=(∃ t,ZC M d=some t/\ZbB t "tuple"=false)\/ ∃ xs,d= .tup xs/\(xs.length≠2\/ ∃ x y,xs=[x,y]/\(ZiM M x\/(∃ i,x= .int i)/\ZiM M y))
noncomputable def El (M:Sto) (d:D):Option Pt->Prop
 |some p=>d=pr p.1 p.2/\Bd 5000 p
 |none=>Odd M d
theorem ZoP {M M':Sto} (k:Kp M M') {d:D} {t:String} (h:ZC M d=some t):ZC M' d=some t:=by
 cases d with
 |ref n=>
  cases e:M[n]? with
  |none=>simp[ZC,kd,e] at h
  |some o=>
   cases o with
   |lst xs=>
    simp only[ZC,kd,e] at h
    simp only[ZC,kd,k.get e]
    exact h
 |_=>exact h
theorem ZiM.up {M M':Sto} (k:Kp M M') {x:D} (h:ZiM M x):ZiM M' x:=let ⟨t,a,b⟩:=h;⟨t,ZoP k a,b⟩
theorem Odd.up {M M':Sto} (k:Kp M M') {d:D} (h:Odd M d):Odd M' d:=by
 rcases h with ⟨t,a,b⟩ | ⟨xs,e,h⟩
 ·exact .inl ⟨t,ZoP k a,b⟩
 ·refine .inr ⟨xs,e,?_⟩
  rcases h with h | ⟨x,y,e2,h⟩
  ·exact .inl h
  ·refine .inr ⟨x,y,e2,?_⟩
   rcases h with h | ⟨h1,h2⟩
   ·exact .inl (h.up k)
   ·exact .inr ⟨h1,h2.up k⟩
theorem El.up {M M':Sto} (k:Kp M M') {d:D}: ∀ {o:Option Pt},El M d o->El M' d o
 |some _,h=>h
 |none,h=>Odd.up k h
structure Els (M:Sto) (ds:List D) (L:List (Option Pt)):Prop where
 len:ds.length=L.length
 at': ∀ i (h:i < ds.length) (h':i < L.length),El M ds[i] L[i]
theorem Els.up {M M':Sto} (k:Kp M M') {ds:List D} {L:List (Option Pt)} (h:Els M ds L):Els M' ds L:=⟨h.len,fun i a b=>(h.at' i a b).up k⟩
noncomputable def Zg3 (o:Option Pt):Bool:=match o with | some p=>decide (Int.gcd p.1 p.2=1) | none=>false
inductive Res:List (Option Pt)->Option (Str × Nat)->Prop where
 |ray {L:List (Option Pt)} (i:Nat) (h:i < L.length):(∀ j (hj:j < L.length),j < i->Zg3 L[j]=true)->Zg3 L[i]=false->Res L (some (PySem.Str.ofString "ray",i))
 |wedge {rs:List Pt} (i:Nat) (h:i < rs.length):(∀ p∈rs,Int.gcd p.1 p.2=1)->(∀ j:Nat,j < i->0 < X (cy rs j) (cy rs (j + 1)))-> ¬ 0 < X (cy rs i) (cy rs (i + 1))->Res (rs.map some) (some (PySem.Str.ofString "wedge",i))
 |turns {rs:List Pt}:(∀ p∈rs,Int.gcd p.1 p.2=1)->(∀ j:Nat,j < rs.length->0 < X (cy rs j) (cy rs (j + 1)))->1 < Ze9 rs->Res (rs.map some) (some (PySem.Str.ofString "turns",0))
 |fine {rs:List Pt}:(∀ p∈rs,Int.gcd p.1 p.2=1)->(∀ j:Nat,j < rs.length->0 < X (cy rs j) (cy rs (j + 1)))->Ze9 rs<=1->Res (rs.map some) none
noncomputable def enc:Option (Str × Nat)->D
 |none=> .non
 |some (w,i)=> .tup [.str w,.int i]
theorem ZoQ {p:Nat->Prop}: ∀ n,p n-> ∃ m,p m/\ ∀ j,j < m-> ¬ p j:=by
 intro n
 induction n using Nat.strongRecOn with
 |ind n ih=>
  intro h
  by_cases c: ∃ j,j < n/\p j
  ·obtain ⟨j,a,b⟩:=c
   exact ih j a b
  ·exact ⟨n,h,fun j hj z=>c ⟨j,hj,z⟩⟩
theorem Zgc: ∀ {L:List (Option Pt)},(∀ o∈L,Zg3 o=true)-> ∃ rs:List Pt,L=rs.map some/\ ∀ p∈rs,Int.gcd p.1 p.2=1
 | [],_=>⟨[],rfl,fun p hp=>by simp at hp⟩
 |o :: L,h=>by
  obtain ⟨rs,e,g⟩:=Zgc (L:=L) fun x hx=>h x (by simp[hx])
  have:=h o (by simp)
  cases o with
  |none=>cases this
  |some p=>
   refine ⟨p :: rs,by rw[e];rfl,fun q hq=> ?_⟩
   rcases List.mem_cons.mp hq with rfl | hq
   ·exact of_decide_eq_true this
   ·exact g q hq
theorem Res.ex (L:List (Option Pt)): ∃ r,Res L r:=by
 by_cases c: ∃ i,∃ h:i < L.length,Zg3 L[i]=false
 ·obtain ⟨n,hn⟩:=c
  obtain ⟨i,⟨hi,e⟩,hm⟩:=ZoQ (p:=fun i=> ∃ h:i < L.length,Zg3 L[i]=false) n hn
  refine ⟨_,.ray i hi (fun j hj hlt=> ?_) e⟩
  cases z:Zg3 L[j] with
  |true=>rfl
  |false=>exact absurd ⟨hj,z⟩ (hm j hlt)
 ·obtain ⟨rs,rfl,g⟩:=Zgc (L:=L) fun o ho=>by
   obtain ⟨i,hi,rfl⟩:=List.getElem_of_mem ho
   cases z:Zg3 L[i] with
   |true=>rfl
   |false=>exact absurd ⟨i,hi,z⟩ c
  by_cases c2: ∃ i:Nat,i < rs.length/\ ¬ 0 < X (cy rs i) (cy rs (i + 1))
  ·obtain ⟨n,hn⟩:=c2
   obtain ⟨i,⟨hi,e⟩,hm⟩:=ZoQ (p:=fun (i:Nat)=>i < rs.length/\ ¬ 0 < X (cy rs i) (cy rs (i + 1))) n hn
   refine ⟨_,.wedge i hi g (fun j hj=> ?_) e⟩
   exact Classical.byContradiction fun z=>hm j hj ⟨by omega,z⟩
  ·have pos: ∀ j:Nat,j < rs.length->0 < X (cy rs j) (cy rs (j + 1)):=fun j hj=>Classical.byContradiction fun z=>c2 ⟨j,hj,z⟩
   by_cases c3:1 < Ze9 rs
   ·exact ⟨_,.turns g pos c3⟩
   ·exact ⟨_,.fine g pos (by omega)⟩
section
variable {Q:D->Sto->Prop} {E:Str->Sto->Prop} {N B C:Ro->Sto->Prop} {R:D->Sto->Prop} {M M':Sto} {m:Nat} {rs:List Pt} {u v:Pt} {d:D} {o:Option Pt} {ds:List D} {L:List (Option Pt)} {r:Option (Str × Nat)}
theorem ZoR:eqF 12 M (enc r) (enc r)=some true:=by
 cases r with
 |none=>rfl
 |some p=>
  show eqL (eqF 11 M) [.str p.1,.int p.2] [.str p.1,.int p.2]=some true
  exact CO.Zga fun x hx=>by
   simp at hx
   rcases hx with rfl | rfl
   ·rw[ZoI];simp
   ·rw[Zfi];simp
theorem Zd8 {x:D} (h:ZiM M x) (q:Q (.bl false) M):wO (CR.F_is_whole [x] M) Q E:=by
 obtain ⟨t,a,b⟩:=h
 rcases b with b | rfl
 ·simp![CR.F_is_whole,CR.ZaF,a,b]
  exact q
 ·simp![CR.F_is_whole,CR.ZaF,a]
  exact q
theorem ZeV {x:D} (h:ZiM M x) (q:Q (.bl false) M):wO (CR.F_law_whole [x] M) Q E:=Zd8 h q
theorem ZiB {i:Int}:wO (CR.F_is_whole [.int i] M) Q E=Q (.bl true) M:=by
 simp![CR.F_is_whole,CR.ZaF]
theorem ZjL {i:Int}:wO (CR.F_law_whole [.int i] M) Q E=Q (.bl true) M:=ZiB
theorem Zkr {xs:List D} (h:xs.length≠2):decide ((xs.length:Int)=2)=false:=decide_eq_false (by omega)
theorem Zq8 (h:El M d o) (q:Q (.bl (Zg3 o)) M):wO (CG.F_is_ray [d] M) Q E:=by
 cases o with
 |some p=>
  obtain ⟨rfl,_⟩:=h
  exact CG.ZoO q
 |none=>
  simp![CG.F_is_ray,CG.ZcT,CG.F_is_pair,CG.Zck]
  rcases h with ⟨t,a,b⟩ | ⟨xs,rfl,h⟩
  ·simp![a,b]
   exact q
  ·rcases h with h | ⟨x,y,rfl,h⟩
   ·simp![Zfi,Zkr h]
    exact q
   ·simp![Zfi]
    rcases h with h | ⟨⟨i,rfl⟩,h⟩
    ·refine Zd8 h ?_
     simp![Zm]
     exact q
    ·simp![ZiB]
     refine Zd8 h ?_
     simp![Zm]
     exact q
theorem ZgP {x y:Int} (h0:(x,y)≠(0,0)) (hx: -5000<=x/\x<=5000) (hy: -5000<=y/\y<=5000) (q:Q (pr (x / (Int.gcd x y:Nat)) (y / (Int.gcd x y:Nat))) M):wO (CY.F_law_straight [pr x y] M) Q E:=by
 simp![CY.F_law_straight,CY.Zax]
 refine ZoB (fun k ρ M'=>M'=M/\ ∃ a b:Nat,ρ=[some (pr x y),some (.int a),some (.int b)]/\k=b/\Nat.gcd a b=Int.gcd x y/\a<=5000/\b<=5000) ?_ y.natAbs _ _ ⟨rfl,x.natAbs,y.natAbs,rfl,rfl,rfl,by omega,by omega⟩
 rintro k ρ M' ⟨e,a,b,rfl,rfl,g,ha,hk'⟩
 rw[e]
 clear e M'
 simp![Zm]
 refine ZoC (fun h=> ?_) (fun h=> ?_)
 ·simp![CY.Z1]
  have hb:0 < k:=by omega
  have hm:=Nat.mod_lt a hb
  refine ⟨a % k,hm,k,a % k,by rw[Int.natCast_emod],rfl,?_,?_⟩
  ·rw[<- g,Nat.gcd_comm k,<- Nat.gcd_rec,Nat.gcd_comm]
  ·omega
 ·have k0:k=0:=by omega
  subst k0
  rw[Nat.gcd_zero_right] at g
  have ap:0 < a:=by
   apply Nat.pos_of_ne_zero
   intro z
   rw[z] at g
   have:=Int.gcd_eq_zero_iff.mp g.symm
   exact h0 (by rw[this.1,this.2])
  simp![Zm]
  rw[g]
  exact q
theorem ZoS {x g:Int} (h0:x≠0) (hd:g ∣ x) (h:x / g=x):g=1:=by
 have:=Int.ediv_mul_cancel hd
 rw[h] at this
 have e:x * (g - 1)=0:=by rw[Int.mul_sub,this];omega
 rcases Int.mul_eq_zero.mp e with z | z
 ·exact absurd z h0
 ·omega
theorem ZlT {p:Pt} (h0:(p.1,p.2)≠(0,0)):decide ((p.1 / (Int.gcd p.1 p.2:Nat),p.2 / (Int.gcd p.1 p.2:Nat))=(p.1,p.2))=Zg3 (some p):=by
 show _=decide _
 rw[decide_eq_decide,Prod.mk.injEq]
 constructor
 ·rintro ⟨h1,h2⟩
  by_cases c:p.1=0
  ·have c2:p.2≠0:=fun z=>h0 (by rw[c,z])
   have:=ZoS c2 (Int.gcd_dvd_right ..) h2
   omega
  ·have:=ZoS c (Int.gcd_dvd_left ..) h1
   omega
 ·intro h
  rw[h]
  exact ⟨Int.ediv_one _,Int.ediv_one _⟩
theorem Zks (h:El M d o) (q:Q (.bl (Zg3 o)) M):wO (F_law_is_ray [d] M) Q E:=by
 simp![F_law_is_ray,ZbE]
 cases o with
 |some p=>
  obtain ⟨rfl,hb⟩:=h
  unfold Bd at hb
  simp![Zfi,CR.F_law_whole,CR.Zbp]
  refine Zrr (fun z=> ?_) (fun z=> ?_)
  ·simp![Zm]
   refine ZgP z hb.1 hb.2 ?_
   simp![Zm]
   rw[ZlT z]
   exact q
  ·simp![Zm]
   have e:Zg3 (some p)=false:=decide_eq_false fun g=>by
    rw[(Prod.mk.inj z).1,(Prod.mk.inj z).2] at g
    simp at g
   rw[<- e]
   exact q
 |none=>
  rcases h with ⟨t,a,b⟩ | ⟨xs,rfl,h⟩
  ·simp![a,b]
   exact q
  ·rcases h with h | ⟨x,y,rfl,h⟩
   ·simp![Zfi,Zkr h]
    exact q
   ·simp![Zfi]
    rcases h with h | ⟨⟨i,rfl⟩,h⟩
    ·refine ZeV h ?_
     simp![Zm]
     exact q
    ·simp![ZjL]
     refine ZeV h ?_
     simp![Zm]
     exact q
theorem ZoT (g:Int.gcd u.1 u.2=1) (q:Q (.bl (met u v)) M):wO (F_law_has_east [pr u.1 u.2,pr v.1 v.2] M) Q E:=by
 unfold met at q
 simp![F_law_has_east,Za1]
 refine brS (fun z=> ?_) (fun z=> ?_)
 ·simp![Zm]
  have e:(decide (u=(1,0)) || (decide (u.2 < 0) && decide (0 < v.2)))=decide (0 < u.1):=by
   rw[z,Int.gcd_zero_right] at g
   have: ¬ (u.2 < 0):=by omega
   by_cases c:0 < u.1
   ·have eu:u=(1,0):=Prod.ext (by show u.1=1;omega) z
    simp[eu]
   ·have eu:u≠(1,0):=fun w=>c (by rw[w];decide)
    simp[eu,this,c]
  rw[e] at q
  exact q
 ·simp![Zm]
  have eu:u≠(1,0):=fun w=>z (by rw[w])
  rw[decide_eq_false eu,Bool.false_or] at q
  refine brO (fun z2=> ?_) (fun z2=> ?_)
  ·simp![Zm]
   rw[decide_eq_true z2,Bool.true_and] at q
   exact q
  ·simp![Zm]
   rw[decide_eq_false z2,Bool.false_and] at q
   exact q
theorem Zcw {rs:List Pt} (h:Els M ds (rs.map some)):ds=prs rs/\ ∀ p∈rs,Bd 5000 p:=by
 have l:=h.len
 rw[List.length_map] at l
 constructor
 ·apply List.ext_getElem
  ·rw[Zv];exact l
  ·intro i h1 h2
   have:=h.at' i h1 (by rw[List.length_map];omega)
   rw[List.getElem_map] at this
   rw[this.1]
   simp[prs]
 ·intro p hp
  obtain ⟨i,hi,rfl⟩:=List.getElem_of_mem hp
  have:=h.at' i (by omega) (by rw[List.length_map];omega)
  rw[List.getElem_map] at this
  exact this.2
theorem Zkt {i j:Nat} {p:Nat->Prop} (a: ∀ k,k < i->p k) (b: ∀ k,k < j->p k) (na: ¬ p i) (nb: ¬ p j):i=j:=by
 rcases Nat.lt_trichotomy i j with c | c | c
 ·exact absurd (b i c) na
 ·exact c
 ·exact absurd (a j c) nb
theorem Zku (hr:Res L r) (h:M[m]?=some (.lst ds)) (he:Els M ds L) (hl:3<=ds.length/\ds.length<=1000)
  (q1: ∀ w i,r=some (w,i)-> ∀ M',Kp M M'->E NR (M' ++ [.lst [.str w,.int i]])) (q2:r=none-> ∀ M',Kp M M'->Q .non M'):wO (CG.F_look_round [.ref m] M) Q E:=by
 have len:=he.len
 cases hr with
 |ray i hi hj e=>
  simp![CG.F_look_round,CG.Zab,CG.ZbR h,h]
  refine ZdF (fun k ρ M'=>M'=M/\(∃ x y,ρ=[some (.ref m),x,y])/\k<=i) h ⟨rfl,⟨_,_,rfl⟩,Nat.zero_le _⟩ (fun k ρ M' hI=>by rw[hI.1];exact h) ?_ ?_
  ·rintro k ρ M' hk ⟨e1,⟨x,y,rfl⟩,ki⟩
   rw[e1]
   clear e1 M'
   simp![CG.Zai]
   refine Zq8 (he.at' k hk (by omega)) ?_
   by_cases c:k < i
   ·rw[hj k (by omega) c]
    simp![Zm]
    exact ⟨⟨_,_,rfl⟩,by omega⟩
   ·have ek:k=i:=by omega
    subst ek
    rw[e]
    simp![Zm]
    refine Zcf ?_
    simp![ZeT]
    exact ⟨⟨by decide +kernel,CG.Zkq (by omega)⟩,q1 _ _ rfl M Kp.refl⟩
  ·rintro ρ M' ⟨_,_,ki⟩
   omega
 |wedge i hi g pos np=>
  obtain ⟨rfl,hb⟩:=Zcw he
  rw[Zv] at hl
  refine CG.Ziz h hl hb g (fun i' hi' hj' np'=> ?_) (fun all _=>absurd (all i hi) np) (fun all _=>absurd (all i hi) np)
  have:=Zkt hj' pos np' np
  subst this
  exact q1 _ _ rfl M Kp.refl
 |turns g pos c=>
  obtain ⟨rfl,hb⟩:=Zcw he
  rw[Zv] at hl
  exact CG.Ziz h hl hb g (fun i hi _ np=>absurd (pos i hi) np) (fun _ _ M' K=>q1 _ _ rfl M' K) (fun _ z=>by omega)
 |fine g pos c=>
  obtain ⟨rfl,hb⟩:=Zcw he
  rw[Zv] at hl
  exact CG.Ziz h hl hb g (fun i hi _ np=>absurd (pos i hi) np) (fun _ z=>by omega) (fun _ _ M' K=>q2 rfl M' K)
noncomputable def sm (f:Int->Nat) (a:Int):Nat->Nat
 |0=>0
 |k + 1=>sm f a k + f (a + k)
theorem ZoU {f:Int->Nat}: ∀ k:Nat,sm f (-1) (k + 1)=f (-1) + sm f 0 k
 |0=>by simp[sm]
 |k + 1=>by
  rw[sm,ZoU k,sm]
  rw[show (-1:Int) + ((k + 1:Nat):Int)=0 + (k:Int) by omega]
  omega
noncomputable def mt (rs:List Pt) (i:Int):Nat:=if met (cy rs i) (cy rs (i + 1)) then 1 else 0
theorem ZlU:Ze9 rs=sm (mt rs) 0 rs.length:=by
 have: ∀ k:Nat,((List.range k).filter fun (i:Nat)=>met (cy rs i) (cy rs (i + 1))).length=sm (mt rs) 0 k:=by
  intro k
  induction k with
  |zero=>rfl
  |succ k ih=>
   rw[List.range_succ,List.filter_append,List.length_append,ih,sm]
   congr 1
   unfold mt
   rw[show (0:Int) + (k:Int)=k by omega]
   cases c:met (cy rs k) (cy rs (k + 1))<;>simp[List.filter_cons,c]
 exact this _
theorem ZlV (h:0 < rs.length):sm (mt rs) (-1) rs.length=Ze9 rs:=by
 obtain ⟨k,hk⟩: ∃ k,rs.length=k + 1:=⟨rs.length - 1,by omega⟩
 rw[ZlU,hk,ZoU,sm]
 have e:mt rs (-1)=mt rs (0 + (k:Int)):=by
  unfold mt
  have e1:cy rs (-1)=cy rs (0 + (k:Int)):=by rw[<- Zf6,hk];congr 1<;>omega
  have e2:cy rs (-1 + 1)=cy rs (0 + (k:Int) + 1):=by rw[<- Zf6,hk];congr 1<;>omega
  rw[e1,e2]
 omega
theorem Zfo (h:M[m]?=some (.lst (prs rs))) (hl:3<=rs.length/\rs.length<=1000) (hb: ∀ p∈rs,Bd 5000 p) (hg: ∀ p∈rs,Int.gcd p.1 p.2=1)
  (h1: ∀ i:Nat,i < rs.length->(∀ j:Nat,j < i->0 < X (cy rs j) (cy rs (j + 1)))-> ¬ 0 < X (cy rs i) (cy rs (i + 1))->Q (.tup [.str (PySem.Str.ofString "wedge"),.int i]) M)
  (h2:(∀ i:Nat,i < rs.length->0 < X (cy rs i) (cy rs (i + 1)))->1 < Ze9 rs->Q (.tup [.str (PySem.Str.ofString "turns"),.int 0]) M)
  (h3:(∀ i:Nat,i < rs.length->0 < X (cy rs i) (cy rs (i + 1)))->Ze9 rs<=1->Q .non M):wO (F_law_fault [.ref m] M) Q E:=by
 have ne:rs≠[]:=by intro z;rw[z] at hl;simp at hl
 simp![F_law_fault,Zap,CG.ZbR h,h]
 refine ZdF (fun i ρ M'=>M'=M/\ ∃ x y,ρ=[some (.ref m),x,y,none]) h ⟨rfl,_,_,rfl⟩ (fun i ρ M' hI=>by rw[hI.1];exact h) ?_ ?_
 ·rintro i ρ M' hi ⟨e,x,y,rfl⟩
  rw[e]
  clear e M'
  rw[Zv] at hi
  rw[CC.Zb2]
  simp![Zay]
  have mem:cy rs i∈rs:=Zch ne
  refine Zks (o:=some (cy rs i)) ⟨rfl,hb _ mem⟩ ?_
  rw[show Zg3 (some (cy rs i))=true from decide_eq_true (hg _ mem)]
  simp![Zm]
  exact ⟨_,_,rfl⟩
 rintro ρ M' ⟨e,x,y,rfl⟩
 rw[e]
 clear e M'
 simp![Zm]
 refine ZdF (fun i ρ M'=>M'=M/\(∃ x y,ρ=[some (.ref m),x,y,none])/\ ∀ j:Nat,j < i->0 < X (cy rs j) (cy rs (j + 1))) h ⟨rfl,⟨_,_,rfl⟩,fun j hj=>by omega⟩ (fun i ρ M' hI=>by rw[hI.1];exact h) ?_ ?_
 ·rintro i ρ M' hi ⟨e,⟨x,y,rfl⟩,hj⟩
  rw[e]
  clear e M'
  rw[Zv] at hi
  rw[CC.Zb2]
  have b1:=hb _ (Zch (i:=(i:Int)) ne)
  have e1:=ZaO (i:=(i:Int) + 1) (m:=rs.length) (by omega)
  have cw: ∀ {Q:D->Sto->Prop} {E:Str->Sto->Prop},wO (CC.F_law_cross [pr (cy rs i).1 (cy rs i).2,pr (cy rs (i + 1)).1 (cy rs (i + 1)).2] M) Q E=Q (.int (X (cy rs i) (cy rs (i + 1)))) M:=CC.Zcu (by unfold Bd at b1;omega) (by unfold Bd at b1;omega)
  simp![Za2,h,Zbu,ZcG,cw]
  refine brS (fun z=> ?_) (fun z=> ?_)
  ·simp![Zm]
   exact h1 i hi hj (by omega)
  ·simp![Zm]
   refine ⟨⟨_,_,rfl⟩,fun j hj'=> ?_⟩
   by_cases c:j < i
   ·exact hj j c
   ·have:j=i:=by omega
    subst this
    omega
 rintro ρ M' ⟨e,⟨x,y,rfl⟩,hj⟩
 rw[e]
 clear e M'
 rw[Zv] at hj
 simp![h]
 refine ⟨by omega,?_⟩
 rw[show ((rs.length:Int)).toNat=rs.length by omega]
 refine ZcE (fun i ρ M'=>M'=M/\ ∃ x y,ρ=[some (.ref m),x,y,some (.int (sm (mt rs) (-1) i))]) ⟨rfl,_,_,rfl⟩ ?_ ?_
 ·rintro i ρ M' hi ⟨e,x,y,rfl⟩
  rw[e]
  clear e M'
  rw[show (0:Int) + (i:Int)=i by omega]
  simp![Za3,h,Zbu]
  refine ZoT (hg _ (Zch ne)) ?_
  have e:((sm (mt rs) (-1) i:Nat):Int) + (if met (cy rs ((i:Int) - 1)) (cy rs i)=true then 1 else 0)=(sm (mt rs) (-1) (i + 1):Nat):=by
   rw[sm]
   unfold mt
   rw[show (-1:Int) + (i:Int)=(i:Int) - 1 by omega,show (i:Int) - 1 + 1=i by omega]
   split<;>simp
  simp![e]
  exact ⟨_,_,rfl⟩
 rintro ρ M' ⟨e,x,y,rfl⟩
 rw[e,ZlV (by omega)]
 clear e M'
 simp![Zm]
 refine brS (fun z=> ?_) (fun z=> ?_)
 ·simp![Zm]
  exact h2 hj (by omega)
 ·simp![Zm]
  exact h3 hj (by omega)
theorem ZiC (hr:Res L r) (h:M[m]?=some (.lst ds)) (he:Els M ds L) (hl:3<=ds.length/\ds.length<=1000) (q:Q (enc r) M):wO (F_law_fault [.ref m] M) Q E:=by
 have len:=he.len
 cases hr with
 |ray i hi hj e=>
  simp![F_law_fault,Zap,CG.ZbR h,h]
  refine ZdF (fun k ρ M'=>M'=M/\(∃ x y,ρ=[some (.ref m),x,y,none])/\k<=i) h ⟨rfl,⟨_,_,rfl⟩,Nat.zero_le _⟩ (fun k ρ M' hI=>by rw[hI.1];exact h) ?_ ?_
  ·rintro k ρ M' hk ⟨e1,⟨x,y,rfl⟩,ki⟩
   rw[e1]
   clear e1 M'
   simp![Zay]
   refine Zks (he.at' k hk (by omega)) ?_
   by_cases c:k < i
   ·rw[hj k (by omega) c]
    simp![Zm]
    exact ⟨⟨_,_,rfl⟩,by omega⟩
   ·have ek:k=i:=by omega
    subst ek
    rw[e]
    simp![Zm]
    exact q
  ·rintro ρ M' ⟨_,_,ki⟩
   omega
 |wedge i hi g pos np=>
  obtain ⟨rfl,hb⟩:=Zcw he
  rw[Zv] at hl
  refine Zfo h hl hb g (fun i' hi' hj' np'=> ?_) (fun all _=>absurd (all i hi) np) (fun all _=>absurd (all i hi) np)
  have:=Zkt hj' pos np' np
  subst this
  exact q
 |turns g pos c=>
  obtain ⟨rfl,hb⟩:=Zcw he
  rw[Zv] at hl
  exact Zfo h hl hb g (fun i hi _ np=>absurd (pos i hi) np) (fun _ _=>q) (fun _ z=>by omega)
 |fine g pos c=>
  obtain ⟨rfl,hb⟩:=Zcw he
  rw[Zv] at hl
  exact Zfo h hl hb g (fun i hi _ np=>absurd (pos i hi) np) (fun _ z=>by omega) (fun _ _=>q)
theorem Zgd (hr:Res L r) (h:M[m]?=some (.lst ds)) (he:Els M ds L) (hl:3<=ds.length/\ds.length<=1000) (q: ∀ M',Kp M M'->Q (enc r) M'):wO (CG.F_law_looked [.ref m] M) Q E:=by
 cases r with
 |none=>exact CG.ZjK (fun k=>Zku hr h he hl (fun _ _ e=>by cases e) fun _=>k) q
 |some p=>exact CG.Zgb (w:=p.1) (i:=p.2) (fun k=>Zku hr h he hl (fun w i e=>by cases e;exact k) fun e=>by cases e) q
end
end CJ
end
section
namespace K06
open CR (ZaF F_is_whole ZaB ZaY F_greatest_divisor Zbp F_law_whole)
open CG (Zck F_is_pair Zd7 F_common ZcT F_is_ray ZaQ F_met_direction Zai Zaj Zab F_look_round Zcl F_law_classes ZaZ F_law_looked)
open CC (Zdc F_crossed Zb1 F_following Zbm F_law_cross)
open CA (ZeU F_law_bag Zdg F_law_digit Zdh F_law_led Zcv F_law_both ZaC Zbn F_law_turning Zdi F_law_sum ZbH F_law_near Zbo F_law_brought ZaP ZbD F_law_smooth)
open CY (Z1 Zax F_law_straight ZaV Zci F_law_put ZaW ZaX Zcj F_law_any)
open CJ (ZbE F_law_is_ray Za1 F_law_has_east Zay Za2 Za3 Zap F_law_fault)
open PySem PySem.Spec L2 DL
noncomputable def top (i:Nat):Stmt:=PySem.Challenge.pw_rayround_k06_rounds_of_any_thing.main.body.getD i (.Pass ⟨0,0,0,0⟩)
noncomputable abbrev ZcI:Stmt:=Zjm (top 4) 0
structure Txt (K:PySem.W.Frag) (mg:Str->Option Value):Prop where
 gl: ∀ c v,PySem.W.nsIn K mainGlobals c=some (some v)->mg c=some v
 b_isinstance:mg "isinstance"=none
 b_int:mg "int"=none
 b_bool:mg "bool"=none
 b_abs:mg "abs"=none
 b_tuple:mg "tuple"=none
 b_len:mg "len"=none
 b_list:mg "list"=none
 b_enumerate:mg "enumerate"=none
 b_range:mg "range"=none
 b_all:mg "all"=none
 b_ValueError:mg "ValueError"=none
 b_str:mg "str"=none
 b_min:mg "min"=none
 b_max:mg "max"=none
 b_repr:mg "repr"=none
 in_NoRound: ∃ f fd,IniOk K "NoRound" "NoRound.__init__" ZcI f fd
 it_NotSmooth:Z6 K "NotSmooth" [(PySem.Str.ofString "NoRound",false)]=true
 it_NoRound:Z6 K "NoRound" [(PySem.Str.ofString "NoRound",true)]=true
 it_NoTurning:Z6 K "NoTurning" [(PySem.Str.ofString "NoRound",false)]=true
 it_NoRatio:Z6 K "NoRatio" [(PySem.Str.ofString "NoRound",false)]=true
 it_NoMinus:Z6 K "NoMinus" [(PySem.Str.ofString "NoRound",false)]=true
 it_NoPlace:Z6 K "NoPlace" [(PySem.Str.ofString "NoRound",false)]=true
 it_NoRow:Z6 K "NoRow" [(PySem.Str.ofString "NoRound",false)]=true
 it_NoWedge:Z6 K "NoWedge" [(PySem.Str.ofString "NoRound",false)]=true
 it_NoBody:Z6 K "NoBody" [(PySem.Str.ofString "NoRound",false)]=true
 it_NoBend:Z6 K "NoBend" [(PySem.Str.ofString "NoRound",false)]=true
 it_NoHeight:Z6 K "NoHeight" [(PySem.Str.ofString "NoRound",false)]=true
 it_NoFour:Z6 K "NoFour" [(PySem.Str.ofString "NoRound",false)]=true
 it_Unknown:Z6 K "Unknown" [(PySem.Str.ofString "NoRound",false)]=true
 it_NoText:Z6 K "NoText" [(PySem.Str.ofString "NoRound",false)]=true
 it_NoOne:Z6 K "NoOne" [(PySem.Str.ofString "NoRound",false)]=true
 ib_ValueError:ZhT K "ValueError" [(PySem.Str.ofString "NoRound",true)]=true
 ct_RayError:ZfU K "RayError" [PySem.Str.ofString "NoRound"]=true
section
variable {P:Program} {w:World} {K:PySem.W.Frag} {mg:Str->Option Value} {base:Heap}
theorem ZlW:FnScope N3 N3 (Zg ZcI):=⟨rfl,rfl,rfl,by decide +kernel,rfl,by decide +kernel,by decide +kernel⟩
theorem Zd9 {f C:Addr} {fd:FuncData} (J:IniOk K "NoRound" "NoRound.__init__" ZcI f fd) (gl: ∀ c v,PySem.W.nsIn K mainGlobals c=some (some v)->mg c=some v) (hE:ExF K C f):FnOk P w K mg base (CXE P w) 1 f fd N3 (spI C):=
 Zll (k:=0) (a:=PySem.Str.ofString "no round: ") (b:=PySem.Str.ofString " ") J.fn ZlW (by decide +kernel) (by decide +kernel) fun cdv A outer s H E=>ZdJ (ZkE (Zjl J.bs gl rfl hE rfl (Or.inl rfl) (ZpH rfl rfl (Or.inl rfl) (Or.inl rfl)))) (ZdJ (Zli hE hE.fw rfl (Or.inl rfl) rfl (Or.inl rfl)) (Zhd (Zlj hE hE.fa rfl (Or.inl rfl) rfl (Or.inl rfl))))
noncomputable abbrev ZaG:Stmt:=top 18
theorem Zfp:FnScope ["thing"] ["thing"] (Zg ZaG):=⟨rfl,rfl,rfl,by decide +kernel,rfl,by decide +kernel,by decide +kernel⟩
theorem Zfq {f:Addr} {fd:FuncData} (F:Fun K "is_whole" "is_whole" ZaG f fd) (T:Txt K mg):FnOk P w K mg base (CXE P w) 1 f fd ["thing"] (spD K F_is_whole):=
 Z5 F Zfp rfl rfl fun cdv A outer s H E hr θ=>(Zj (Zt (Zb7 (ZbQ ZhJ T.b_isinstance T.b_int ZfQ (Zb 0)) (ZcB (Zj0 (ZbQ ZfK T.b_isinstance T.b_bool ZhO (Zb 0)))))))
noncomputable abbrev ZD:Stmt:=top 19
theorem Z9:FnScope ["one","other","high","low"] ["one","other"] (Zg ZD):=⟨rfl,rfl,rfl,by decide +kernel,rfl,by decide +kernel,by decide +kernel⟩
theorem Zb3 {f:Addr} {fd:FuncData} (F:Fun K "greatest_divisor" "greatest_divisor" ZD f fd) (T:Txt K mg):FnOk P w K mg base (CXE P w) 101 f fd ["one","other"] (spD K F_greatest_divisor):=
 Z5 F Z9 rfl rfl fun cdv A outer s H E hr θ=>(Zh (ZfM 2 3 (Zah hr (by decide)) Z9.nd (Za (Zp Zbj Zc4 T.b_abs Zc6 (Za (Zb 0) Ze)) (Za (Zp Zbj Zc4 T.b_abs Zc6 (Za (Zb 1) Ze)) Ze)))
  (Zh (ZfO θ.own (ZA (Zc2 hr.units) Zfd (Zb 3) Zd) (Zj (ZfM 2 3 (Zah hr (by decide)) Z9.nd (Za (Zb 3) (Za (Za6 (Zb 2) (Zb 3)) Ze)))))
  (Zj (Zt (Zb 2)))))
noncomputable abbrev Za9:Stmt:=top 21
theorem ZgQ:FnScope ["thing"] ["thing"] (Zg Za9):=⟨rfl,rfl,rfl,by decide +kernel,rfl,by decide +kernel,by decide +kernel⟩
theorem ZgR {f:Addr} {fd:FuncData} (F:Fun K "is_pair" "is_pair" Za9 f fd) (T:Txt K mg) (C_is_whole:Cal P w K mg base "is_whole" 1 1 F_is_whole):FnOk P w K mg base (CXE P w) 2 f fd ["thing"] (spD K F_is_pair):=
 Z5 F ZgQ rfl rfl fun cdv A outer s H E hr θ=>(Zj (Zt (Zb7 (ZbQ Zex T.b_isinstance T.b_tuple ZdT (Zb 0)) (Zb7 (Zbx (ZaT hr.units) Zb9 (Zp Zl ZX T.b_len PySem.boot_len (Za (Zb 0) Ze)) Zd) (Zb7 (Zi C_is_whole θ (hr.mono (by decide)) (Za (Zr (Zb 0) Zd) Ze)) (ZcB (Zi C_is_whole θ (hr.mono (by decide)) (Za (Zr (Zb 0) Zd) Ze))))))))
noncomputable abbrev Zba:Stmt:=top 22
theorem ZgS:FnScope ["one","other"] ["one","other"] (Zg Zba):=⟨rfl,rfl,rfl,by decide +kernel,rfl,by decide +kernel,by decide +kernel⟩
theorem ZgT {f:Addr} {fd:FuncData} (F:Fun K "crossed" "crossed" Zba f fd) (T:Txt K mg):FnOk P w K mg base (CXE P w) 1 f fd ["one","other"] (spD K F_crossed):=
 Z5 F ZgS rfl rfl fun cdv A outer s H E hr θ=>(Zj (Zt (Zbz (Zam (Zr (Zb 0) Zd) (Zr (Zb 1) Zd)) (Zam (Zr (Zb 0) Zd) (Zr (Zb 1) Zd)))))
noncomputable abbrev ZbI:Stmt:=top 23
theorem ZiD:FnScope ["pair"] ["pair"] (Zg ZbI):=⟨rfl,rfl,rfl,by decide +kernel,rfl,by decide +kernel,by decide +kernel⟩
theorem ZiE {f:Addr} {fd:FuncData} (F:Fun K "common" "common" ZbI f fd) (T:Txt K mg) (C_greatest_divisor:Cal P w K mg base "greatest_divisor" 101 2 F_greatest_divisor):FnOk P w K mg base (CXE P w) 102 f fd ["pair"] (spD K F_common):=
 Z5 F ZiD rfl rfl fun cdv A outer s H E hr θ=>(Zj (Zt (Zi C_greatest_divisor θ (hr.mono (by decide)) (Za (Zr (Zb 0) Zd) (Za (Zr (Zb 0) Zd) Ze)))))
noncomputable abbrev ZbJ:Stmt:=top 24
theorem ZiF:FnScope ["thing"] ["thing"] (Zg ZbJ):=⟨rfl,rfl,rfl,by decide +kernel,rfl,by decide +kernel,by decide +kernel⟩
theorem ZiG {f:Addr} {fd:FuncData} (F:Fun K "is_ray" "is_ray" ZbJ f fd) (T:Txt K mg) (C_is_pair:Cal P w K mg base "is_pair" 2 1 F_is_pair) (C_common:Cal P w K mg base "common" 102 1 F_common):FnOk P w K mg base (CXE P w) 103 f fd ["thing"] (spD K F_is_ray):=
 Z5 F ZiF rfl rfl fun cdv A outer s H E hr θ=>(Zj (Zt (Zb7 (Zi C_is_pair θ (hr.mono (by decide)) (Za (Zb 0) Ze)) (ZcB (Zbx (ZaT hr.units) Zb9 (Zi C_common θ (hr.mono (by decide)) (Za (Zb 0) Ze)) Zd)))))
noncomputable abbrev Zaq:Stmt:=top 26
theorem ZeW:FnScope ["things","at"] ["things","at"] (Zg Zaq):=⟨rfl,rfl,rfl,by decide +kernel,rfl,by decide +kernel,by decide +kernel⟩
theorem ZeX {f:Addr} {fd:FuncData} (F:Fun K "following" "following" Zaq f fd) (T:Txt K mg):FnOk P w K mg base (CXE P w) 1 f fd ["things","at"] (spD K F_following):=
 Z5 F ZeW rfl rfl fun cdv A outer s H E hr θ=>(Zj (Zt (Zr (Zb 0) (Za6 (Zw (Zb 1) Zd) (Zp Zl ZX T.b_len PySem.boot_len (Za (Zb 0) Ze))))))
noncomputable abbrev ZL:Stmt:=top 27
theorem ZcO:FnScope ["ray","behind"] ["ray","behind"] (Zg ZL):=⟨rfl,rfl,rfl,by decide +kernel,rfl,by decide +kernel,by decide +kernel⟩
theorem ZcP {f:Addr} {fd:FuncData} (F:Fun K "met_direction" "met_direction" ZL f fd) (T:Txt K mg):FnOk P w K mg base (CXE P w) 1 f fd ["ray","behind"] (spD K F_met_direction):=
 Z5 F ZcO rfl rfl fun cdv A outer s H E hr θ=>(Zj (Zt (Zpx (Zbx (ZaT hr.units) Zb9 (Zb 0) (Zs (Za Zd (Za Zd Ze)))) (ZcB (Zni ZcU Zc1 ZcU Zc1 Znh (Zr (Zb 0) Zd) Zd (Zr (Zb 1) Zd))))))
noncomputable abbrev ZY:Stmt:=top 28
theorem Zak:FnScope ["thing","at","ray"] ["thing"] (Zg ZY):=⟨rfl,rfl,rfl,by decide +kernel,rfl,by decide +kernel,by decide +kernel⟩
theorem Zea {f:Addr} {fd:FuncData} (F:Fun K "look_round" "look_round" ZY f fd) (T:Txt K mg) (C_is_ray:Cal P w K mg base "is_ray" 103 1 F_is_ray) (C_following:Cal P w K mg base "following" 1 2 F_following) (C_crossed:Cal P w K mg base "crossed" 1 2 F_crossed) (C_met_direction:Cal P w K mg base "met_direction" 1 2 F_met_direction):FnOk P w K mg base (CXE P w) 104 f fd ["thing"] (spD K F_look_round):=
 Z5 F Zak rfl rfl fun cdv A outer s H E hr θ=>(Zh (Z4 (Zg1 (Zds (Zby (ZaK (ZbQ ZdP T.b_isinstance T.b_list Zc7 (Zb 0)))) (Zc0 (ZA ZcU Zc1 (Zp Zl ZX T.b_len PySem.boot_len (Za (Zb 0) Ze)) Zd)))) (Zj (Zce T.in_NoRound (fun f fd C J E=>Zd9 J T.gl E) θ (by decide +kernel) T.gl (hr.hd (by decide)) (hr.mono (by decide)) (Za ZaS (Za Zd Ze)))) Zz)
  (Zh (ZdX θ.own (Zc9 (hr.hd (by decide)) T.b_enumerate (Za (Zb 0) Ze)) (Zc5 (Zah hr (by decide)) (ZV (ZE 1 Zak.nd) (ZV (ZE 2 Zak.nd) ZbU)) (hlen:=(Zag (Zag (fun _ _ _ h=>ZbV h))))) (Zj (Z4 (Zby (ZaK (Zi C_is_ray θ (hr.mono (by decide)) (Za (Zb 2) Ze)))) (Zj (Zce T.in_NoRound (fun f fd C J E=>Zd9 J T.gl E) θ (by decide +kernel) T.gl (hr.hd (by decide)) (hr.mono (by decide)) (Za ZaS (Za (Zb 1) Ze)))) Zz)))
  (Zh (ZdX θ.own (Zc9 (hr.hd (by decide)) T.b_enumerate (Za (Zb 0) Ze)) (Zc5 (Zah hr (by decide)) (ZV (ZE 1 Zak.nd) (ZV (ZE 2 Zak.nd) ZbU)) (hlen:=(Zag (Zag (fun _ _ _ h=>ZbV h))))) (Zj (Z4 (ZA ZiS Zi5 (Zi C_crossed θ (hr.mono (by decide)) (Za (Zb 2) (Za (Zi C_following θ (hr.mono (by decide)) (Za (Zb 0) (Za (Zb 1) Ze))) Ze))) Zd) (Zj (Zce T.in_NoRound (fun f fd C J E=>Zd9 J T.gl E) θ (by decide +kernel) T.gl (hr.hd (by decide)) (hr.mono (by decide)) (Za ZaS (Za (Zb 1) Ze)))) Zz)))
  (Zj (Z4 (ZA Zdp Zdt (Zp Zl ZX T.b_len PySem.boot_len (Za (Zfe (ZpB (XN:=["thing","at","ray"]) (dn:=(Zg ZY).names) (N:=["at","ray","thing"]) (k:=2) (fr:=[0]) rfl rfl rfl rfl (by decide +kernel)) (Zc9 (hr.hd (by decide)) T.b_enumerate (Za (Zb 0) Ze)) (fun _ _ _ _=>(Zc5 (Zah hr (by decide)) (ZV (ZE 0 (show List.Nodup (["at","ray","thing"]:List Str) by decide +kernel)) (ZV (ZE 1 (show List.Nodup (["at","ray","thing"]:List Str) by decide +kernel)) ZbU)) (hlen:=(Zag (Zag (fun _ _ _ h=>ZbV h)))))) (fun _ _ _ _=>(Or.inr ⟨_,rfl,(ZaK (Zi C_met_direction ZdU (hr.mono (by decide)) (Za (Zb 1) (Za (Zi C_following ZdU (hr.mono (by decide)) (Za (Zb 2) (Za (Zb 0) Ze))) Ze))))⟩)) (fun _ _ _ _=>(Zb 0))) Ze)) Zd) (Zj (Zce T.in_NoRound (fun f fd C J E=>Zd9 J T.gl E) θ (by decide +kernel) T.gl (hr.hd (by decide)) (hr.mono (by decide)) (Za ZaS (Za Zd Ze)))) Zz)))))
noncomputable abbrev Zbb:Stmt:=top 30
theorem ZbK:FnScope ["_law_script","_law_k","_law_cell","_law_state"] ["_law_script","_law_k"] (Zg Zbb):=⟨rfl,rfl,rfl,by decide +kernel,rfl,by decide +kernel,by decide +kernel⟩
theorem ZgU {f:Addr} {fd:FuncData} (F:Fun K "_law_bag" "_law_bag" Zbb f fd) (T:Txt K mg):FnOk P w K mg base (CXE P w) 1 f fd ["_law_script","_law_k"] (spD K F_law_bag):=
 Z5 F ZbK rfl rfl fun cdv A outer s H E hr θ=>(Zh (Zy 2 ZbK.nd Zd)
  (Zh (Z4 (ZA ZcU Zc1 (Zb 1) (Zp Zl ZX T.b_len PySem.boot_len (Za (Zb 0) Ze))) (Zj (Zy 2 ZbK.nd (Zp Zbj Zc4 T.b_abs Zc6 (Za (Zr (Zb 0) (Zb 1)) Ze)))) Zz)
  (Zh (Zy 3 ZbK.nd (Zw Zd (Za6 (Zw (Zw (Zw (Za6 (Zb 2) Zd) (Zam (Zam Zd (Zb 1)) (Zb 1))) (Zam Zd (Zb 1))) Zd) Zd)))
  (Zj (Zt (ZJ (Za (Zam (Zb 2) (ZbA Zeo Zj2 T.b_int ZfQ (Za (Zbx Zpr Zpy (Zb 2) (ZmP Zd Zd)) Ze))) (Za (Zb 3) Ze))))))))
noncomputable abbrev Zar:Stmt:=top 31
theorem ZcJ:FnScope ["_law_bag_here","_law_many","_law_found"] ["_law_bag_here","_law_many"] (Zg Zar):=⟨rfl,rfl,rfl,by decide +kernel,rfl,by decide +kernel,by decide +kernel⟩
theorem ZeY {f:Addr} {fd:FuncData} (F:Fun K "_law_digit" "_law_digit" Zar f fd) (T:Txt K mg):FnOk P w K mg base (CXE P w) 1 f fd ["_law_bag_here","_law_many"] (spD K F_law_digit):=
 Z5 F ZcJ rfl rfl fun cdv A outer s H E hr θ=>(Zh (Z4 (ZA Zdp Zdt (Zr (Zb 0) Zd) Zd) (Zh (Zy 2 ZcJ.nd (Za6 (Zr (Zb 0) Zd) (Zb 1)))
  (Zh (Zj5 (Zb 0) Zd (ZdB (Zr (Zb 0) Zd) (Zb 1)))
  (Zj (Zt (Zb 2))))) Zz)
  (Zh (Zj5 (Zb 0) Zd (Za6 (Zam (Zr (Zb 0) Zd) Zd) Zd))
  (Zj (Zt (Za6 (ZdB (Za6 (Zam (Zr (Zb 0) Zd) Zd) Zd) Zd) (Zb 1))))))
noncomputable abbrev Zbc:Stmt:=top 32
theorem Zcx:FnScope ["_law_turning_here","_law_pair","_law_first","_law_second"] ["_law_turning_here","_law_pair"] (Zg Zbc):=⟨rfl,rfl,rfl,by decide +kernel,rfl,by decide +kernel,by decide +kernel⟩
theorem ZgV {f:Addr} {fd:FuncData} (F:Fun K "_law_led" "_law_led" Zbc f fd) (T:Txt K mg):FnOk P w K mg base (CXE P w) 101 f fd ["_law_turning_here","_law_pair"] (spD K F_law_led):=
 Z5 F Zcx rfl rfl fun cdv A outer s H E hr θ=>(Zh (Zj4 (Zb 0) (Zc5 (Zah hr (by decide)) (ZV (ZE 2 Zcx.nd) (ZV (ZE 3 Zcx.nd) ZbU)) (hlen:=(Zag (Zag (fun _ _ _ h=>ZbV h))))))
  (Zj (Zt (Zs (Za (Zw (Zam (Zr (Zb 2) Zd) (Zr (Zb 1) Zd)) (Zam (Zr (Zb 2) Zd) (Zr (Zb 1) Zd))) (Za (Zw (Zam (Zr (Zb 3) Zd) (Zr (Zb 1) Zd)) (Zam (Zr (Zb 3) Zd) (Zr (Zb 1) Zd))) Ze))))))
noncomputable abbrev ZaH:Stmt:=top 33
theorem Zb4:FnScope ["_law_one","_law_other","_law_left","_law_right"] ["_law_one","_law_other"] (Zg ZaH):=⟨rfl,rfl,rfl,by decide +kernel,rfl,by decide +kernel,by decide +kernel⟩
theorem Zfr {f:Addr} {fd:FuncData} (F:Fun K "_law_both" "_law_both" ZaH f fd) (T:Txt K mg) (C_law_led:Cal P w K mg base "_law_led" 101 2 F_law_led):FnOk P w K mg base (CXE P w) 102 f fd ["_law_one","_law_other"] (spD K F_law_both):=
 Z5 F Zb4 rfl rfl fun cdv A outer s H E hr θ=>(Zh (Zy 2 Zb4.nd (Zi C_law_led θ (hr.mono (by decide)) (Za (Zb 1) (Za (Zs (Za (Zr (Zr (Zb 0) Zd) Zd) (Za (Zr (Zr (Zb 0) Zd) Zd) Ze))) Ze))))
  (Zh (Zy 3 Zb4.nd (Zi C_law_led θ (hr.mono (by decide)) (Za (Zb 1) (Za (Zs (Za (Zr (Zr (Zb 0) Zd) Zd) (Za (Zr (Zr (Zb 0) Zd) Zd) Ze))) Ze))))
  (Zj (Zt (Zs (Za (Zs (Za (Zr (Zb 2) Zd) (Za (Zr (Zb 3) Zd) Ze))) (Za (Zs (Za (Zr (Zb 2) Zd) (Za (Zr (Zb 3) Zd) Ze))) Ze)))))))
noncomputable abbrev Z2:Stmt:=top 34
theorem ZR:FnScope ["_law_bag_here","_law_found","_law_k","_law_by","_law_some"] ["_law_bag_here"] (Zg Z2):=⟨rfl,rfl,rfl,by decide +kernel,rfl,by decide +kernel,by decide +kernel⟩
theorem Zdx {f:Addr} {fd:FuncData} (F:Fun K "_law_turning" "_law_turning" Z2 f fd) (T:Txt K mg) (C_law_digit:Cal P w K mg base "_law_digit" 1 2 F_law_digit) (C_law_both:Cal P w K mg base "_law_both" 102 2 F_law_both):FnOk P w K mg base (CXE P w) 103 f fd ["_law_bag_here"] (spD K F_law_turning):=
 Z5 F ZR rfl rfl fun cdv A outer s H E hr θ=>(Zh (Zy 1 ZR.nd (Zs (Za (Zs (Za Zd (Za Zd Ze))) (Za (Zs (Za Zd (Za Zd Ze))) Ze))))
  (Zh (ZaU θ.own T.b_range (Za (Zi C_law_digit θ (hr.mono (by decide)) (Za (Zb 0) (Za Zd Ze))) Ze) (ZE 2 ZR.nd) (Zh (Zy 3 ZR.nd (Zbz (Zi C_law_digit θ (hr.mono (by decide)) (Za (Zb 0) (Za Zd Ze))) Zd))
  (Zh (Zy 4 ZR.nd (ZJ (Za (Zs (Za (Zs (Za Zd (Za (Zb 3) Ze))) (Za (Zs (Za Zd (Za Zd Ze))) Ze))) (Za (Zs (Za (Zs (Za Zd (Za Zd Ze))) (Za (Zs (Za (Zb 3) (Za Zd Ze))) Ze))) (Za (Zs (Za (Zs (Za Zd (Za Zd Ze))) (Za (Zs (Za Zd (Za Zd Ze))) Ze))) (Za (Zs (Za (Zs (Za Zd (Za (Zew Zd) Ze))) (Za (Zs (Za Zd (Za Zd Ze))) Ze))) Ze))))))
  (Zj (Zy 1 ZR.nd (Zi C_law_both θ (hr.mono (by decide)) (Za (Zb 1) (Za (Zr (Zb 4) (Zi C_law_digit θ (hr.mono (by decide)) (Za (Zb 0) (Za Zd Ze)))) Ze))))))))
  (Zj (Zt (Zb 1)))))
noncomputable abbrev Zas:Stmt:=top 35
theorem ZeZ:FnScope ["_law_one","_law_other"] ["_law_one","_law_other"] (Zg Zas):=⟨rfl,rfl,rfl,by decide +kernel,rfl,by decide +kernel,by decide +kernel⟩
theorem Ze0 {f:Addr} {fd:FuncData} (F:Fun K "_law_cross" "_law_cross" Zas f fd) (T:Txt K mg):FnOk P w K mg base (CXE P w) 1 f fd ["_law_one","_law_other"] (spD K F_law_cross):=
 Z5 F ZeZ rfl rfl fun cdv A outer s H E hr θ=>(Zj (Zt (Zbz (Zam (Zr (Zb 0) Zd) (Zr (Zb 1) Zd)) (Zam (Zr (Zb 0) Zd) (Zr (Zb 1) Zd)))))
noncomputable abbrev Zbd:Stmt:=top 36
theorem ZgW:FnScope ["_law_one","_law_other"] ["_law_one","_law_other"] (Zg Zbd):=⟨rfl,rfl,rfl,by decide +kernel,rfl,by decide +kernel,by decide +kernel⟩
theorem ZgX {f:Addr} {fd:FuncData} (F:Fun K "_law_sum" "_law_sum" Zbd f fd) (T:Txt K mg):FnOk P w K mg base (CXE P w) 1 f fd ["_law_one","_law_other"] (spD K F_law_sum):=
 Z5 F ZgW rfl rfl fun cdv A outer s H E hr θ=>(Zj (Zt (Zs (Za (Zw (Zr (Zb 0) Zd) (Zr (Zb 1) Zd)) (Za (Zw (Zr (Zb 0) Zd) (Zr (Zb 1) Zd)) Ze)))))
noncomputable abbrev ZaI:Stmt:=top 37
theorem Zfs:FnScope ["_law_pair"] ["_law_pair"] (Zg ZaI):=⟨rfl,rfl,rfl,by decide +kernel,rfl,by decide +kernel,by decide +kernel⟩
theorem Zft {f:Addr} {fd:FuncData} (F:Fun K "_law_near" "_law_near" ZaI f fd) (T:Txt K mg):FnOk P w K mg base (CXE P w) 1 f fd ["_law_pair"] (spD K F_law_near):=
 Z5 F Zfs rfl rfl fun cdv A outer s H E hr θ=>(Zj (Zt (Zb7 (Zbx ZiS Zi5 (Zp Zbj Zc4 T.b_abs Zc6 (Za (Zr (Zb 0) Zd) Ze)) Zd) (ZcB (Zbx ZiS Zi5 (Zp Zbj Zc4 T.b_abs Zc6 (Za (Zr (Zb 0) Zd) Ze)) Zd)))))
noncomputable abbrev ZP:Stmt:=top 38
theorem Zaz:FnScope ["_law_rays","_law_turning_here","_law_start","_law_led_here"] ["_law_rays","_law_turning_here","_law_start"] (Zg ZP):=⟨rfl,rfl,rfl,by decide +kernel,rfl,by decide +kernel,by decide +kernel⟩
theorem Zdy {f:Addr} {fd:FuncData} (F:Fun K "_law_brought" "_law_brought" ZP f fd) (T:Txt K mg) (C_law_led:Cal P w K mg base "_law_led" 101 2 F_law_led) (C_law_near:Cal P w K mg base "_law_near" 1 1 F_law_near) (C_law_cross:Cal P w K mg base "_law_cross" 1 2 F_law_cross):FnOk P w K mg base (CXE P w) 102 f fd ["_law_rays","_law_turning_here","_law_start"] (spD K F_law_brought):=
 Z5 F Zaz rfl rfl fun cdv A outer s H E hr θ=>(Zh (Zla 3 Zaz.nd (ZpB (XN:=["_law_rays","_law_turning_here","_law_start","_law_led_here"]) (dn:=(Zg ZP).names) (N:=["_law_ray","_law_turning_here"]) (k:=1) (fr:=[1]) rfl rfl rfl rfl (by decide +kernel)) (Zj6 (Zb 0)) (fun _ _ _ _=>(ZE 0 (show List.Nodup (["_law_ray","_law_turning_here"]:List Str) by decide +kernel))) (fun _ _ _ _=>(Or.inl ⟨rfl,rfl⟩)) (fun _ _ _ _=>(Zi C_law_led ZdU (hr.mono (by decide)) (Za (Zb 1) (Za (Zb 0) Ze)))))
  (Zh (Z4 (Zby (ZaK (Zp (Zjb (Zah hr (by decide))) Zm6 T.b_all Zm2 (Za (Zfe (Zsx (N:=["_law_ray"]) (k:=1) (by decide +kernel) rfl (by decide +kernel) rfl) (Zj6 (Zb 3)) (fun _ _ _ _=>(ZE 0 (show List.Nodup (["_law_ray"]:List Str) by decide +kernel))) (fun _ _ _ _=>(Or.inl ⟨rfl,rfl⟩)) (fun _ _ _ _=>(Zi C_law_near ZdU (hr.mono (by decide)) (Za (Zb 0) Ze)))) Ze)))) (Zj (Zy 3 Zaz.nd (ZbA ZcA ZhI T.b_list Zc7 (Za (Zb 0) Ze)))) (Zj (Z4 (ZA ZcU Zc1 (Zi C_law_cross θ (hr.mono (by decide)) (Za (Zr (Zb 3) Zd) (Za (Zr (Zb 3) Zd) Ze))) Zd) (Zj (Zy 3 Zaz.nd (Zk8 (Zb 3)))) Zz)))
  (Zj (Zt (Zw (Zao (Zb 3) (Zal (Zb 2)) ZaA) (Zao (Zb 3) ZaA (Zal (Zb 2))))))))
noncomputable abbrev Zac:Stmt:=top 39
theorem ZH:FnScope ["_law_bag_here","_law_steep","_law_rays","_law_k","_law_at","_law_ray","_law_start"] ["_law_bag_here"] (Zg Zac):=⟨rfl,rfl,rfl,by decide +kernel,rfl,by decide +kernel,by decide +kernel⟩
theorem Zeb {f:Addr} {fd:FuncData} (F:Fun K "_law_smooth" "_law_smooth" Zac f fd) (T:Txt K mg) (C_law_digit:Cal P w K mg base "_law_digit" 1 2 F_law_digit) (C_law_sum:Cal P w K mg base "_law_sum" 1 2 F_law_sum) (C_law_near:Cal P w K mg base "_law_near" 1 1 F_law_near) (C_law_turning:Cal P w K mg base "_law_turning" 103 1 F_law_turning) (C_law_brought:Cal P w K mg base "_law_brought" 102 3 F_law_brought):FnOk P w K mg base (CXE P w) 104 f fd ["_law_bag_here"] (spD K F_law_smooth):=
 Z5 F ZH rfl rfl fun cdv A outer s H E hr θ=>(Zh (Zy 1 ZH.nd (Zi C_law_digit θ (hr.mono (by decide)) (Za (Zb 0) (Za (Zr (ZJ (Za Zd (Za Zd (Za Zd (Za Zd (Za Zd (Za Zd (Za Zd (Za Zd Ze))))))))) (Zi C_law_digit θ (hr.mono (by decide)) (Za (Zb 0) (Za Zd Ze)))) Ze))))
  (Zh (Zy 2 ZH.nd (Zr (ZJ (Za (ZJ (Za (Zs (Za Zd (Za Zd Ze))) (Za (Zs (Za Zd (Za Zd Ze))) (Za (Zs (Za (Zew Zd) (Za (Zew Zd) Ze))) Ze)))) (Za (ZJ (Za (Zs (Za Zd (Za Zd Ze))) (Za (Zs (Za Zd (Za Zd Ze))) (Za (Zs (Za (Zew Zd) (Za (Zb 1) Ze))) (Za (Zs (Za Zd (Za (Zew Zd) Ze))) Ze))))) Ze))) (Zi C_law_digit θ (hr.mono (by decide)) (Za (Zb 0) (Za Zd Ze)))))
  (Zh (ZaU θ.own T.b_range (Za (Zi C_law_digit θ (hr.mono (by decide)) (Za (Zb 0) (Za (Zr (ZJ (Za Zd (Za Zd (Za Zd (Za Zd Ze))))) (Zi C_law_digit θ (hr.mono (by decide)) (Za (Zb 0) (Za Zd Ze)))) Ze))) Ze) (ZE 3 ZH.nd) (Zh (Zy 4 ZH.nd (Zi C_law_digit θ (hr.mono (by decide)) (Za (Zb 0) (Za (Zp Zl ZX T.b_len PySem.boot_len (Za (Zb 2) Ze)) Ze))))
  (Zh (Zy 5 ZH.nd (Zi C_law_sum θ (hr.mono (by decide)) (Za (Zr (Zb 2) (Zb 4)) (Za (Zr (Zb 2) (Za6 (Zw (Zb 4) Zd) (Zp Zl ZX T.b_len PySem.boot_len (Za (Zb 2) Ze)))) Ze))))
  (Zj (Z4 (Zg1 (Zev (ZaK (Zi C_law_near θ (hr.mono (by decide)) (Za (Zb 5) Ze))) (ZcZ (ZA ZcU Zc1 (Zp Zl ZX T.b_len PySem.boot_len (Za (Zb 2) Ze)) Zd)))) (Zj (Zy 2 ZH.nd (Zw (Zw (Zao (Zb 2) ZaA (Zal (Zw (Zb 4) Zd))) (ZJ (Za (Zb 5) Ze))) (Zao (Zb 2) (Zal (Zw (Zb 4) Zd)) ZaA)))) Zz)))))
  (Zh (Zy 6 ZH.nd (Zi C_law_digit θ (hr.mono (by decide)) (Za (Zb 0) (Za (Zp Zl ZX T.b_len PySem.boot_len (Za (Zb 2) Ze)) Ze))))
  (Zj (Zt (Zi C_law_brought θ (hr.mono (by decide)) (Za (Zb 2) (Za (Zi C_law_turning θ (hr.mono (by decide)) (Za (Zb 0) Ze)) (Za (Zb 6) Ze))))))))))
noncomputable abbrev ZS:Stmt:=top 40
theorem ZaR:FnScope ["_law_pair","_law_one","_law_other"] ["_law_pair"] (Zg ZS):=⟨rfl,rfl,rfl,by decide +kernel,rfl,by decide +kernel,by decide +kernel⟩
theorem Zdk {f:Addr} {fd:FuncData} (F:Fun K "_law_straight" "_law_straight" ZS f fd) (T:Txt K mg):FnOk P w K mg base (CXE P w) 101 f fd ["_law_pair"] (spD K F_law_straight):=
 Z5 F ZaR rfl rfl fun cdv A outer s H E hr θ=>(Zh (ZfM 1 2 (Zah hr (by decide)) ZaR.nd (Za (Zp Zbj Zc4 T.b_abs Zc6 (Za (Zr (Zb 0) Zd) Ze)) (Za (Zp Zbj Zc4 T.b_abs Zc6 (Za (Zr (Zb 0) Zd) Ze)) Ze)))
  (Zh (ZfO θ.own (ZA Zdp Zdt (Zb 2) Zd) (Zj (ZfM 1 2 (Zah hr (by decide)) ZaR.nd (Za (Zb 2) (Za (Za6 (Zb 1) (Zb 2)) Ze)))))
  (Zj (Zt (Zs (Za (ZdB (Zr (Zb 0) Zd) (Zb 1)) (Za (ZdB (Zr (Zb 0) Zd) (Zb 1)) Ze)))))))
noncomputable abbrev Zbe:Stmt:=top 41
theorem Zcy:FnScope ["_law_rays","_law_ray","_law_at","_law_behind"] ["_law_rays","_law_ray"] (Zg Zbe):=⟨rfl,rfl,rfl,by decide +kernel,rfl,by decide +kernel,by decide +kernel⟩
theorem ZgY {f:Addr} {fd:FuncData} (F:Fun K "_law_put" "_law_put" Zbe f fd) (T:Txt K mg) (C_law_cross:Cal P w K mg base "_law_cross" 1 2 F_law_cross):FnOk P w K mg base (CXE P w) 2 f fd ["_law_rays","_law_ray"] (spD K F_law_put):=
 Z5 F Zcy rfl rfl fun cdv A outer s H E hr θ=>(Zh (ZaU θ.own T.b_range (Za (Zp Zl ZX T.b_len PySem.boot_len (Za (Zb 0) Ze)) Ze) (ZE 2 Zcy.nd) (Zh (Zy 3 Zcy.nd (Zr (Zb 0) (Za6 (Zw (Zb 2) Zd) (Zp Zl ZX T.b_len PySem.boot_len (Za (Zb 0) Ze)))))
  (Zj (Z4 (Zg1 (Zev (ZA Zdp Zdt (Zi C_law_cross θ (hr.mono (by decide)) (Za (Zr (Zb 0) (Zb 2)) (Za (Zb 1) Ze))) Zd) (ZcZ (ZA Zdp Zdt (Zi C_law_cross θ (hr.mono (by decide)) (Za (Zb 1) (Za (Zb 3) Ze))) Zd)))) (Zj (Zt (Zw (Zw (Zao (Zb 0) ZaA (Zal (Zw (Zb 2) Zd))) (ZJ (Za (Zb 1) Ze))) (Zao (Zb 0) (Zal (Zw (Zb 2) Zd)) ZaA)))) Zz))))
  (Zj (Zt (Zb 0))))
noncomputable abbrev Zbf:Stmt:=top 42
theorem ZT:FnScope ["_law_bag_here","_law_rays","_law_wide","_law_k","_law_one","_law_other","_law_at"] ["_law_bag_here"] (Zg Zbf):=⟨rfl,rfl,rfl,by decide +kernel,rfl,by decide +kernel,by decide +kernel⟩
theorem ZgZ {f:Addr} {fd:FuncData} (F:Fun K "_law_any" "_law_any" Zbf f fd) (T:Txt K mg) (C_law_smooth:Cal P w K mg base "_law_smooth" 104 1 F_law_smooth) (C_law_digit:Cal P w K mg base "_law_digit" 1 2 F_law_digit) (C_law_straight:Cal P w K mg base "_law_straight" 101 1 F_law_straight) (C_law_put:Cal P w K mg base "_law_put" 2 2 F_law_put) (C_law_cross:Cal P w K mg base "_law_cross" 1 2 F_law_cross):FnOk P w K mg base (CXE P w) 105 f fd ["_law_bag_here"] (spD K F_law_any):=
 Z5 F ZT rfl rfl fun cdv A outer s H E hr θ=>(Zh (Zy 1 ZT.nd (Zi C_law_smooth θ (hr.mono (by decide)) (Za (Zb 0) Ze)))
  (Zh (Zy 2 ZT.nd (Zr (ZJ (Za Zd (Za Zd (Za Zd (Za Zd (Za Zd (Za Zd (Za Zd (Za Zd Ze))))))))) (Zi C_law_digit θ (hr.mono (by decide)) (Za (Zb 0) (Za Zd Ze)))))
  (Zh (ZaU θ.own T.b_range (Za (Zi C_law_digit θ (hr.mono (by decide)) (Za (Zb 0) (Za Zd Ze))) Ze) (ZE 3 ZT.nd) (Zh (Zy 4 ZT.nd (Zbz (Zi C_law_digit θ (hr.mono (by decide)) (Za (Zb 0) (Za (Zb 2) Ze))) (ZdB (Zb 2) Zd)))
  (Zh (Zy 5 ZT.nd (Zbz (Zi C_law_digit θ (hr.mono (by decide)) (Za (Zb 0) (Za (Zb 2) Ze))) (ZdB (Zb 2) Zd)))
  (Zj (Z4 (Zg1 (Zev (ZA (Zc2 hr.units) Zfd (Zs (Za (Zb 4) (Za (Zb 5) Ze))) (Zs (Za Zd (Za Zd Ze)))) (ZcZ (ZA ZcU Zc1 (Zp Zl ZX T.b_len PySem.boot_len (Za (Zb 1) Ze)) Zd)))) (Zj (Zy 1 ZT.nd (Zi C_law_put θ (hr.mono (by decide)) (Za (Zb 1) (Za (Zi C_law_straight θ (hr.mono (by decide)) (Za (Zs (Za (Zb 4) (Za (Zb 5) Ze))) Ze)) Ze))))) Zz)))))
  (Zh (ZaU θ.own T.b_range (Za (Zi C_law_digit θ (hr.mono (by decide)) (Za (Zb 0) (Za Zd Ze))) Ze) (ZE 3 ZT.nd) (Zh (Zy 6 ZT.nd (Zi C_law_digit θ (hr.mono (by decide)) (Za (Zb 0) (Za (Zp Zl ZX T.b_len PySem.boot_len (Za (Zb 1) Ze)) Ze))))
  (Zj (Z4 (Zg1 (Zev (ZA Zdp Zdt (Zp Zl ZX T.b_len PySem.boot_len (Za (Zb 1) Ze)) Zd) (ZcZ (ZA Zdp Zdt (Zi C_law_cross θ (hr.mono (by decide)) (Za (Zr (Zb 1) (Zbz (Zb 6) Zd)) (Za (Zr (Zb 1) (Za6 (Zw (Zb 6) Zd) (Zp Zl ZX T.b_len PySem.boot_len (Za (Zb 1) Ze)))) Ze))) Zd)))) (Zj (Zy 1 ZT.nd (Zw (Zao (Zb 1) ZaA (Zal (Zb 6))) (Zao (Zb 1) (Zal (Zw (Zb 6) Zd)) ZaA)))) Zz))))
  (Zj (Zt (Zb 1)))))))
noncomputable abbrev Zat:Stmt:=top 43
theorem Ze1:FnScope ["_law_thing"] ["_law_thing"] (Zg Zat):=⟨rfl,rfl,rfl,by decide +kernel,rfl,by decide +kernel,by decide +kernel⟩
theorem Ze2 {f:Addr} {fd:FuncData} (F:Fun K "_law_whole" "_law_whole" Zat f fd) (T:Txt K mg):FnOk P w K mg base (CXE P w) 1 f fd ["_law_thing"] (spD K F_law_whole):=
 Z5 F Ze1 rfl rfl fun cdv A outer s H E hr θ=>(Zj (Zt (Zb7 (ZbQ ZhJ T.b_isinstance T.b_int ZfQ (Zb 0)) (ZcB (Zj0 (ZbQ ZfK T.b_isinstance T.b_bool ZhO (Zb 0)))))))
noncomputable abbrev ZQ:Stmt:=top 44
theorem Z7:FnScope ["_law_e","_law_some"] ["_law_e"] (Zg ZQ):=⟨rfl,rfl,rfl,by decide +kernel,rfl,by decide +kernel,by decide +kernel⟩
theorem Zdz {f:Addr} {fd:FuncData} (F:Fun K "_law_classes" "_law_classes" ZQ f fd) (T:Txt K mg):FnOk P w K mg base (CXE P w) 1 f fd ["_law_e"] (spD K F_law_classes):=
 Z5 F Z7 rfl rfl fun cdv A outer s H E hr θ=>(Zh (Zy 1 Z7.nd (ZJ (Za (ZaN T.it_NoRatio T.gl T.b_isinstance (Zb 0)) (Za (ZaN T.it_NoTurning T.gl T.b_isinstance (Zb 0)) (Za (ZaN T.it_NoRound T.gl T.b_isinstance (Zb 0)) (Za (ZaN T.it_NotSmooth T.gl T.b_isinstance (Zb 0)) Ze))))))
  (Zh (Zy 1 Z7.nd (Zw (Zb 1) (ZJ (Za (ZaN T.it_NoWedge T.gl T.b_isinstance (Zb 0)) (Za (ZaN T.it_NoRow T.gl T.b_isinstance (Zb 0)) (Za (ZaN T.it_NoPlace T.gl T.b_isinstance (Zb 0)) (Za (ZaN T.it_NoMinus T.gl T.b_isinstance (Zb 0)) Ze)))))))
  (Zh (Zy 1 Z7.nd (Zw (Zb 1) (ZJ (Za (ZaN T.it_NoFour T.gl T.b_isinstance (Zb 0)) (Za (ZaN T.it_NoHeight T.gl T.b_isinstance (Zb 0)) (Za (ZaN T.it_NoBend T.gl T.b_isinstance (Zb 0)) (Za (ZaN T.it_NoBody T.gl T.b_isinstance (Zb 0)) Ze)))))))
  (Zh (Zy 1 Z7.nd (Zw (Zb 1) (ZJ (Za (ZaN T.it_NoOne T.gl T.b_isinstance (Zb 0)) (Za (ZaN T.it_NoText T.gl T.b_isinstance (Zb 0)) (Za (ZaN T.it_Unknown T.gl T.b_isinstance (Zb 0)) Ze))))))
  (Zj (Zt (Zfe (ZpB (XN:=["_law_e","_law_some"]) (dn:=(Zg ZQ).names) (N:=["_law_k","_law_e","_law_some"]) (k:=1) (fr:=[0,1]) rfl rfl rfl rfl (by decide +kernel)) (ZhQ T.b_range (Za Zd Ze)) (fun _ _ _ _=>(ZE 0 (show List.Nodup (["_law_k","_law_e","_law_some"]:List Str) by decide +kernel))) (fun _ _ _ _=>(Or.inr ⟨_,rfl,(Zg1 (Zev (ZaK (Zr (Zb 2) (Zb 0))) (ZcZ (ZaK (Zm7 T.ib_ValueError T.b_isinstance T.b_ValueError ZdW (Zb 1))))))⟩)) (fun _ _ _ _=>(Zb 0)))))))))
noncomputable abbrev Zad:Stmt:=top 45
theorem Zec:FnScope ["_law_thing"] ["_law_thing"] (Zg Zad):=⟨rfl,rfl,rfl,by decide +kernel,rfl,by decide +kernel,by decide +kernel⟩
theorem Zed {f:Addr} {fd:FuncData} (F:Fun K "_law_is_ray" "_law_is_ray" Zad f fd) (T:Txt K mg) (C_law_whole:Cal P w K mg base "_law_whole" 1 1 F_law_whole) (C_law_straight:Cal P w K mg base "_law_straight" 101 1 F_law_straight):FnOk P w K mg base (CXE P w) 102 f fd ["_law_thing"] (spD K F_law_is_ray):=
 Z5 F Zec rfl rfl fun cdv A outer s H E hr θ=>(Zh (Z4 (Zg1 (Zds (Zby (ZaK (ZbQ Zex T.b_isinstance T.b_tuple ZdT (Zb 0)))) (Zds (ZA (Zc2 hr.units) Zfd (Zp Zl ZX T.b_len PySem.boot_len (Za (Zb 0) Ze)) Zd) (Zds (Zby (ZaK (Zi C_law_whole θ (hr.mono (by decide)) (Za (Zr (Zb 0) Zd) Ze)))) (Zc0 (Zby (ZaK (Zi C_law_whole θ (hr.mono (by decide)) (Za (Zr (Zb 0) Zd) Ze))))))))) (Zj (Zt Zfc)) Zz)
  (Zj (Zt (Zb7 (Zbx (Zc2 hr.units) Zfd (Zb 0) (Zs (Za Zd (Za Zd Ze)))) (ZcB (Zbx (ZaT hr.units) Zb9 (Zi C_law_straight θ (hr.mono (by decide)) (Za (Zb 0) Ze)) (Zb 0)))))))
noncomputable abbrev ZU:Stmt:=top 46
theorem Zdl:FnScope ["_law_one","_law_other"] ["_law_one","_law_other"] (Zg ZU):=⟨rfl,rfl,rfl,by decide +kernel,rfl,by decide +kernel,by decide +kernel⟩
theorem Zdm {f:Addr} {fd:FuncData} (F:Fun K "_law_has_east" "_law_has_east" ZU f fd) (T:Txt K mg):FnOk P w K mg base (CXE P w) 1 f fd ["_law_one","_law_other"] (spD K F_law_has_east):=
 Z5 F Zdl rfl rfl fun cdv A outer s H E hr θ=>(Zh (Z4 (ZA (ZaT hr.units) Zb9 (Zr (Zb 0) Zd) Zd) (Zj (Zt (Zbx Zdp Zdt (Zr (Zb 0) Zd) Zd))) Zz)
  (Zj (Zt (Zb7 (Zbx ZcU Zc1 (Zr (Zb 0) Zd) Zd) (ZcB (Zbx Zdp Zdt (Zr (Zb 1) Zd) Zd))))))
noncomputable abbrev Zau:Stmt:=top 47
theorem ZM:FnScope ["_law_thing","_law_at","_law_ray","_law_many"] ["_law_thing"] (Zg Zau):=⟨rfl,rfl,rfl,by decide +kernel,rfl,by decide +kernel,by decide +kernel⟩
theorem Ze3 {f:Addr} {fd:FuncData} (F:Fun K "_law_fault" "_law_fault" Zau f fd) (T:Txt K mg) (C_law_is_ray:Cal P w K mg base "_law_is_ray" 102 1 F_law_is_ray) (C_law_cross:Cal P w K mg base "_law_cross" 1 2 F_law_cross) (C_law_has_east:Cal P w K mg base "_law_has_east" 1 2 F_law_has_east):FnOk P w K mg base (CXE P w) 103 f fd ["_law_thing"] (spD K F_law_fault):=
 Z5 F ZM rfl rfl fun cdv A outer s H E hr θ=>(Zh (Z4 (Zg1 (Zds (Zby (ZaK (ZbQ ZdP T.b_isinstance T.b_list Zc7 (Zb 0)))) (Zc0 (ZA ZcU Zc1 (Zp Zl ZX T.b_len PySem.boot_len (Za (Zb 0) Ze)) Zd)))) (Zj (Zt (Zs (Za ZaS (Za Zd Ze))))) Zz)
  (Zh (ZdX θ.own (Zc9 (hr.hd (by decide)) T.b_enumerate (Za (Zb 0) Ze)) (Zc5 (Zah hr (by decide)) (ZV (ZE 1 ZM.nd) (ZV (ZE 2 ZM.nd) ZbU)) (hlen:=(Zag (Zag (fun _ _ _ h=>ZbV h))))) (Zj (Z4 (Zby (ZaK (Zi C_law_is_ray θ (hr.mono (by decide)) (Za (Zb 2) Ze)))) (Zj (Zt (Zs (Za ZaS (Za (Zb 1) Ze))))) Zz)))
  (Zh (ZdX θ.own (Zc9 (hr.hd (by decide)) T.b_enumerate (Za (Zb 0) Ze)) (Zc5 (Zah hr (by decide)) (ZV (ZE 1 ZM.nd) (ZV (ZE 2 ZM.nd) ZbU)) (hlen:=(Zag (Zag (fun _ _ _ h=>ZbV h))))) (Zj (Z4 (ZA ZiS Zi5 (Zi C_law_cross θ (hr.mono (by decide)) (Za (Zb 2) (Za (Zr (Zb 0) (Za6 (Zw (Zb 1) Zd) (Zp Zl ZX T.b_len PySem.boot_len (Za (Zb 0) Ze)))) Ze))) Zd) (Zj (Zt (Zs (Za ZaS (Za (Zb 1) Ze))))) Zz)))
  (Zh (Zy 3 ZM.nd Zd)
  (Zh (ZaU θ.own T.b_range (Za (Zp Zl ZX T.b_len PySem.boot_len (Za (Zb 0) Ze)) Ze) (ZE 1 ZM.nd) (Zj (Zy 3 ZM.nd (Zw (Zb 3) (ZbA Zeo Zj2 T.b_int ZfQ (Za (Zi C_law_has_east θ (hr.mono (by decide)) (Za (Zr (Zb 0) (Zbz (Zb 1) Zd)) (Za (Zr (Zb 0) (Zb 1)) Ze))) Ze))))))
  (Zh (Z4 (ZA Zdp Zdt (Zb 3) Zd) (Zj (Zt (Zs (Za ZaS (Za Zd Ze))))) Zz)
  (Zj (Zt Zb6))))))))
noncomputable abbrev Zae:Stmt:=top 48
theorem Zbq:FnScope ["_law_thing","_law_found","_law_e"] ["_law_thing"] (Zg Zae):=⟨rfl,rfl,rfl,by decide +kernel,rfl,by decide +kernel,by decide +kernel⟩
theorem Zee {f:Addr} {fd:FuncData} (F:Fun K "_law_looked" "_law_looked" Zae f fd) (T:Txt K mg) (C_look_round:Cal P w K mg base "look_round" 104 1 F_look_round) (C_law_classes:Cal P w K mg base "_law_classes" 1 1 F_law_classes) (C_law_whole:Cal P w K mg base "_law_whole" 1 1 F_law_whole):FnOk P w K mg base (CXE P w) 105 f fd ["_law_thing"] (spD K F_law_looked):=
 Z5 F Zbq rfl rfl fun cdv A outer s H E hr θ=>(Zh (Znd T.ct_RayError T.gl (hr.hd (by decide)) rfl rfl rfl Zbq.nd [false,true,false] (fun pn xe σ ξ' θ'=>(Zj (Zy 1 Zbq.nd (Zi C_look_round θ' (hr.mono (by decide)) (Za (Zb 0) Ze))))) (fun ea=>(Zh (Z4 (Zg1 (Zds (ZA (Zc2 (Zc8 (j:=0) hr (by decide) (by decide)).units) Zfd (Zi C_law_classes ZhW (Zc8 hr (by decide) (by decide)) (Za (Zb 2) Ze)) (ZJ (Za Zd Ze))) (Zds (Zby (ZaK (ZbQ ZkY T.b_isinstance T.b_str ZmZ (Zd0 0 T.in_NoRound (Zb 2))))) (Zc0 (Zby (ZaK (Zi C_law_whole ZhW (Zc8 hr (by decide) (by decide)) (Za (Zd0 1 T.in_NoRound (Zb 2)) Ze)))))))) (Zj (Zt ZaS)) Zz)
  (Zj (Zt (Zs (Za (Zd0 0 T.in_NoRound (Zb 2)) (Za (Zd0 1 T.in_NoRound (Zb 2)) Ze))))))))
  (Zh (Z4 (ZA Zc3 ZdO (Zb 1) Zb6) (Zj (Zt ZaS)) Zz)
  (Zj (Zt Zb6))))
noncomputable abbrev Zbg:Stmt:=top 49
noncomputable def Ze4:Sv:=(ZB (ZO (gTp (gCs (gNm 2) (gCs (gNm 3) gNl))) (Zf 1))
 (ZB (ZO (gNm 4) (ZaD (Zc (eC .non) (Zc (eC (.bl true)) (Zc (eC (.int 1)) (Zc (eC (.str (PySem.Str.ofString "1,0"))) (Zc (ZaD (Zc (Zf 2) (Zc (Zf 3) aNil))) (Zc (Z3 (Zc (Zf 2) aNil)) (Zc (Z3 (Zc (Zf 2) (Zc (Zf 3) (Zc (eC (.int 1)) aNil)))) (Zc (Z3 (Zc (eC (.int 0)) (Zc (eC (.int 0)) aNil))) (Zc (Z3 (Zc (e2 dMul (eC (.int 2)) (Zf 2)) (Zc (e2 dMul (eC (.int 2)) (Zf 3)) aNil))) (Zc (Z3 (Zc (eC (.bl true)) (Zc (eC (.int 0)) aNil))) aNil))))))))))))
 (ZB (ZO (gNm 4) (e2 dAdd (Zf 4) (ZaD (Zc (Z3 (Zc (Zf 2) (Zc (eC .non) aNil))) (Zc (Z3 aNil) (Zc (Z3 (Zc (Z3 (Zc (eC (.int 1)) (Zc (eC (.int 0)) aNil))) (Zc (eC (.int 1)) aNil))) (Zc (Z3 (Zc (e2 dSub (eC (.int 0)) (e2 dMul (eC (.int 3)) (Zf 2))) (Zc (e2 dSub (eC (.int 0)) (e2 dMul (eC (.int 3)) (Zf 3))) aNil))) (Zc (Z3 (Zc (Zf 2) (Zc (ZaD (Zc (Zf 3) aNil)) aNil))) (Zc (Z3 (Zc (eC (.str (PySem.Str.ofString "1"))) (Zc (eC (.str (PySem.Str.ofString "0"))) aNil))) aNil)))))))))
 (ZW (e2 dIx (Zf 4) (Zk F_law_digit (Zc (Zf 0) (Zc (eC (.int 16)) aNil))))))))
noncomputable def F_law_odd:List D->Sto->Out D:=fnF Ze4 2 3
theorem Zbh:FnScope ["_law_bag_here","_law_ray","_law_one","_law_other","_law_some"] ["_law_bag_here","_law_ray"] (Zg Zbg):=⟨rfl,rfl,rfl,by decide +kernel,rfl,by decide +kernel,by decide +kernel⟩
theorem Zg0 {f:Addr} {fd:FuncData} (F:Fun K "_law_odd" "_law_odd" Zbg f fd) (T:Txt K mg) (C_law_digit:Cal P w K mg base "_law_digit" 1 2 F_law_digit):FnOk P w K mg base (CXE P w) 101 f fd ["_law_bag_here","_law_ray"] (spD K F_law_odd):=
 Z5 F Zbh rfl rfl fun cdv A outer s H E hr θ=>(Zh (Zj4 (Zb 1) (Zc5 (Zah hr (by decide)) (ZV (ZE 2 Zbh.nd) (ZV (ZE 3 Zbh.nd) ZbU)) (hlen:=(Zag (Zag (fun _ _ _ h=>ZbV h))))))
  (Zh (Zy 4 Zbh.nd (ZJ (Za Zb6 (Za Zfc (Za Zd (Za ZaS (Za (ZJ (Za (Zb 2) (Za (Zb 3) Ze))) (Za (Zs (Za (Zb 2) Ze)) (Za (Zs (Za (Zb 2) (Za (Zb 3) (Za Zd Ze)))) (Za (Zs (Za Zd (Za Zd Ze))) (Za (Zs (Za (Zam Zd (Zb 2)) (Za (Zam Zd (Zb 3)) Ze))) (Za (Zs (Za Zfc (Za Zd Ze))) Ze))))))))))))
  (Zh (Zy 4 Zbh.nd (Zw (Zb 4) (ZJ (Za (Zs (Za (Zb 2) (Za Zb6 Ze))) (Za (Zs Ze) (Za (Zs (Za (Zs (Za Zd (Za Zd Ze))) (Za Zd Ze))) (Za (Zs (Za (Zbz Zd (Zam Zd (Zb 2))) (Za (Zbz Zd (Zam Zd (Zb 3))) Ze))) (Za (Zs (Za (Zb 2) (Za (ZJ (Za (Zb 3) Ze)) Ze))) (Za (Zs (Za ZaS (Za ZaS Ze))) Ze)))))))))
  (Zj (Zt (Zr (Zb 4) (Zi C_law_digit θ (hr.mono (by decide)) (Za (Zb 0) (Za Zd Ze)))))))))
noncomputable abbrev ZaJ:Stmt:=top 50
noncomputable def ZdG:Sv:=(ZB (ZO (gNm 2) (Zk F_law_digit (Zc (Zf 0) (Zc (Zk bLen (Zc (Zf 1) aNil)) aNil))))
 (ZB (ZO (gNm 3) (Zk F_law_digit (Zc (Zf 0) (Zc (eC (.int 11)) aNil))))
 (ZB (sIf (tv (e2 dEq (Zf 3) (eC (.int 10)))) (ZW (e2 dAdd (Zf 1) (Zf 1))) sNil)
 (ZB (sIf (tv (e2 dEq (Zf 3) (eC (.int 0)))) (ZB (ZO (gNm 4) (ZaD (Zc (eC .non) (Zc (Zk bTup (Zc (Zf 1) aNil)) (Zc (eSl (Zf 1) oNo (oSo (eC (.int 2)))) (Zc (eSl (Zf 1) oNo (oSo (eC (.int 1)))) (Zc (ZaD aNil) (Zc (eC (.str (PySem.Str.ofString "1,0 0,1 -1,-1"))) (Zc (eC (.int 3)) (Zc (eC (.bl true)) (Zc (ZaD (Zc (Zf 1) aNil)) (Zc (e2 dIx (Zf 1) (eC (.int 0))) aNil))))))))))))
 (ZW (e2 dIx (Zf 4) (Zk F_law_digit (Zc (Zf 0) (Zc (eC (.int 10)) aNil)))))) sNil)
 (ZB (sIf (tv (e2 dLt (Zf 3) (eC (.int 3)))) (ZW (e2 dAdd (e2 dAdd (eSl (Zf 1) oNo (oSo (Zf 2))) (ZaD (Zc (Zk F_law_odd (Zc (Zf 0) (Zc (e2 dIx (Zf 1) (Zf 2)) aNil))) aNil))) (eSl (Zf 1) (oSo (e2 dAdd (Zf 2) (eC (.int 1)))) oNo))) sNil)
 (ZB (sIf (tv (e2 dEq (Zf 3) (eC (.int 3)))) (ZW (e2 dAdd (e2 dAdd (eSl (Zf 1) oNo (oSo (Zf 2))) (ZaD (Zc (e2 dIx (Zf 1) (Zf 2)) aNil))) (eSl (Zf 1) (oSo (Zf 2)) oNo))) sNil)
 (ZB (sIf (tv (e2 dEq (Zf 3) (eC (.int 4)))) (ZW (e2 dAdd (e2 dAdd (eSl (Zf 1) oNo (oSo (Zf 2))) (ZaD (Zc (Z3 (Zc (e2 dSub (eC (.int 0)) (e2 dIx (e2 dIx (Zf 1) (Zf 2)) (eC (.int 0)))) (Zc (e2 dSub (eC (.int 0)) (e2 dIx (e2 dIx (Zf 1) (Zf 2)) (eC (.int 1)))) aNil))) aNil))) (eSl (Zf 1) (oSo (e2 dAdd (Zf 2) (eC (.int 1)))) oNo))) sNil)
 (ZB (sIf (tv (e2 dEq (Zf 3) (eC (.int 5)))) (ZW (e2 dAdd (e2 dAdd (eRv (eSl (Zf 1) (oSo (Zf 2)) (oSo (e2 dAdd (Zf 2) (eC (.int 2)))))) (eSl (Zf 1) oNo (oSo (Zf 2)))) (eSl (Zf 1) (oSo (e2 dAdd (Zf 2) (eC (.int 2)))) oNo))) sNil)
 (ZB (sIf (tv (e2 dEq (Zf 3) (eC (.int 6)))) (ZW (eRv (Zf 1))) sNil)
 (ZB (sIf (tv (e2 dEq (Zf 3) (eC (.int 7)))) (ZW (e2 dAdd (eSl (Zf 1) oNo (oSo (Zf 2))) (eSl (Zf 1) (oSo (e2 dAdd (Zf 2) (eC (.int 2)))) oNo))) sNil)
 (ZB (sIf (tv (e2 dEq (Zf 3) (eC (.int 8)))) (ZW (e2 dAdd (eSl (Zf 1) oNo (oSo (Zf 2))) (eSl (Zf 1) (oSo (e2 dAdd (Zf 2) (eC (.int 1)))) oNo))) sNil)
 (ZW (e2 dAdd (eSl (Zf 1) (oSo (Zf 2)) oNo) (eSl (Zf 1) oNo (oSo (Zf 2))))))))))))))))
noncomputable def F_law_bent:List D->Sto->Out D:=fnF ZdG 2 3
theorem Zbr:FnScope ["_law_bag_here","_law_rays","_law_at","_law_way","_law_some"] ["_law_bag_here","_law_rays"] (Zg ZaJ):=⟨rfl,rfl,rfl,by decide +kernel,rfl,by decide +kernel,by decide +kernel⟩
theorem Zfu {f:Addr} {fd:FuncData} (F:Fun K "_law_bent" "_law_bent" ZaJ f fd) (T:Txt K mg) (C_law_digit:Cal P w K mg base "_law_digit" 1 2 F_law_digit) (C_law_odd:Cal P w K mg base "_law_odd" 101 2 F_law_odd):FnOk P w K mg base (CXE P w) 102 f fd ["_law_bag_here","_law_rays"] (spD K F_law_bent):=
 Z5 F Zbr rfl rfl fun cdv A outer s H E hr θ=>(Zh (Zy 2 Zbr.nd (Zi C_law_digit θ (hr.mono (by decide)) (Za (Zb 0) (Za (Zp Zl ZX T.b_len PySem.boot_len (Za (Zb 1) Ze)) Ze))))
  (Zh (Zy 3 Zbr.nd (Zi C_law_digit θ (hr.mono (by decide)) (Za (Zb 0) (Za Zd Ze))))
  (Zh (Z4 (ZA (ZaT hr.units) Zb9 (Zb 3) Zd) (Zj (Zt (Zw (Zb 1) (Zb 1)))) Zz)
  (Zh (Z4 (ZA (ZaT hr.units) Zb9 (Zb 3) Zd) (Zh (Zy 4 Zbr.nd (ZJ (Za Zb6 (Za (ZbA ZdN Znf T.b_tuple ZdT (Za (Zb 1) Ze)) (Za (Zao (Zb 1) ZaA (Zal Zd)) (Za (Zao (Zb 1) ZaA (Zal Zd)) (Za (ZJ Ze) (Za ZaS (Za Zd (Za Zfc (Za (ZJ (Za (Zb 1) Ze)) (Za (Zr (Zb 1) Zd) Ze))))))))))))
  (Zj (Zt (Zr (Zb 4) (Zi C_law_digit θ (hr.mono (by decide)) (Za (Zb 0) (Za Zd Ze))))))) Zz)
  (Zh (Z4 (ZA ZcU Zc1 (Zb 3) Zd) (Zj (Zt (Zw (Zw (Zao (Zb 1) ZaA (Zal (Zb 2))) (ZJ (Za (Zi C_law_odd θ (hr.mono (by decide)) (Za (Zb 0) (Za (Zr (Zb 1) (Zb 2)) Ze))) Ze))) (Zao (Zb 1) (Zal (Zw (Zb 2) Zd)) ZaA)))) Zz)
  (Zh (Z4 (ZA (ZaT hr.units) Zb9 (Zb 3) Zd) (Zj (Zt (Zw (Zw (Zao (Zb 1) ZaA (Zal (Zb 2))) (ZJ (Za (Zr (Zb 1) (Zb 2)) Ze))) (Zao (Zb 1) (Zal (Zb 2)) ZaA)))) Zz)
  (Zh (Z4 (ZA (ZaT hr.units) Zb9 (Zb 3) Zd) (Zj (Zt (Zw (Zw (Zao (Zb 1) ZaA (Zal (Zb 2))) (ZJ (Za (Zs (Za (Zbz Zd (Zr (Zr (Zb 1) (Zb 2)) Zd)) (Za (Zbz Zd (Zr (Zr (Zb 1) (Zb 2)) Zd)) Ze))) Ze))) (Zao (Zb 1) (Zal (Zw (Zb 2) Zd)) ZaA)))) Zz)
  (Zh (Z4 (ZA (ZaT hr.units) Zb9 (Zb 3) Zd) (Zj (Zt (Zw (Zw (Zk8 (Zao (Zb 1) (Zal (Zb 2)) (Zal (Zw (Zb 2) Zd)))) (Zao (Zb 1) ZaA (Zal (Zb 2)))) (Zao (Zb 1) (Zal (Zw (Zb 2) Zd)) ZaA)))) Zz)
  (Zh (Z4 (ZA (ZaT hr.units) Zb9 (Zb 3) Zd) (Zj (Zt (Zk8 (Zb 1)))) Zz)
  (Zh (Z4 (ZA (ZaT hr.units) Zb9 (Zb 3) Zd) (Zj (Zt (Zw (Zao (Zb 1) ZaA (Zal (Zb 2))) (Zao (Zb 1) (Zal (Zw (Zb 2) Zd)) ZaA)))) Zz)
  (Zh (Z4 (ZA (ZaT hr.units) Zb9 (Zb 3) Zd) (Zj (Zt (Zw (Zao (Zb 1) ZaA (Zal (Zb 2))) (Zao (Zb 1) (Zal (Zw (Zb 2) Zd)) ZaA)))) Zz)
  (Zj (Zt (Zw (Zao (Zb 1) (Zal (Zb 2)) ZaA) (Zao (Zb 1) ZaA (Zal (Zb 2)))))))))))))))))
noncomputable abbrev Zav:Stmt:=top 51
noncomputable def Zbs:Sv:=(ZB (sIf (Zdr (ZaL (tv (Zdu "list" (Zf 1)))) (tv (e2 dLt (Zk bLen (Zc (Zf 1) aNil)) (eC (.int 3))))) (ZW (Zf 1)) sNil)
 (ZB (ZO (gNm 2) (Zk F_law_digit (Zc (Zf 0) (Zc (Zk bLen (Zc (Zf 1) aNil)) aNil))))
 (ZW (e2 dAdd (e2 dAdd (eSl (Zf 1) oNo (oSo (Zf 2))) (ZaD (Zc (e2 dIx (ZaD (Zc (eC .non) (Zc (Z3 (Zc (eC (.int 2)) (Zc (eC (.int 0)) aNil))) (Zc (Z3 (Zc (eC (.int 1)) (Zc (eC (.int 0)) aNil))) (Zc (Z3 (Zc (eC (.int 0)) (Zc (eC (.int 1)) aNil))) aNil))))) (Zk F_law_digit (Zc (Zf 0) (Zc (eC (.int 4)) aNil)))) aNil))) (eSl (Zf 1) (oSo (e2 dAdd (Zf 2) (eC (.int 1)))) oNo)))))
noncomputable def F_law_again:List D->Sto->Out D:=fnF Zbs 2 1
theorem ZcK:FnScope ["_law_bag_here","_law_thing","_law_at"] ["_law_bag_here","_law_thing"] (Zg Zav):=⟨rfl,rfl,rfl,by decide +kernel,rfl,by decide +kernel,by decide +kernel⟩
theorem Ze5 {f:Addr} {fd:FuncData} (F:Fun K "_law_again" "_law_again" Zav f fd) (T:Txt K mg) (C_law_digit:Cal P w K mg base "_law_digit" 1 2 F_law_digit):FnOk P w K mg base (CXE P w) 2 f fd ["_law_bag_here","_law_thing"] (spD K F_law_again):=
 Z5 F ZcK rfl rfl fun cdv A outer s H E hr θ=>(Zh (Z4 (Zg1 (Zds (Zby (ZaK (ZbQ ZdP T.b_isinstance T.b_list Zc7 (Zb 1)))) (Zc0 (ZA ZcU Zc1 (Zp Zl ZX T.b_len PySem.boot_len (Za (Zb 1) Ze)) Zd)))) (Zj (Zt (Zb 1))) Zz)
  (Zh (Zy 2 ZcK.nd (Zi C_law_digit θ (hr.mono (by decide)) (Za (Zb 0) (Za (Zp Zl ZX T.b_len PySem.boot_len (Za (Zb 1) Ze)) Ze))))
  (Zj (Zt (Zw (Zw (Zao (Zb 1) ZaA (Zal (Zb 2))) (ZJ (Za (Zr (ZJ (Za Zb6 (Za (Zs (Za Zd (Za Zd Ze))) (Za (Zs (Za Zd (Za Zd Ze))) (Za (Zs (Za Zd (Za Zd Ze))) Ze))))) (Zi C_law_digit θ (hr.mono (by decide)) (Za (Zb 0) (Za Zd Ze)))) Ze))) (Zao (Zb 1) (Zal (Zw (Zb 2) Zd)) ZaA))))))
noncomputable abbrev Zef:Stmt:=top 52
noncomputable def Zeg:Sv:=(ZB (ZO (gNm 5) (Zk F_law_bent (Zc (Zf 2) (Zc (Zf 3) aNil))))
 (ZB (sIf (tv (e2 dEq (Zk F_law_digit (Zc (Zf 2) (Zc (eC (.int 4)) aNil))) (eC (.int 1)))) (ZO (gNm 5) (Zk F_law_again (Zc (Zf 2) (Zc (Zf 5) aNil)))) sNil)
 (ZB (ZO (gNm 6) (Zk bReprA (Zc (Zf 5) aNil)))
 (sIf (Zdr (tv (e2 dNe (Zk F_law_looked (Zc (Zf 5) aNil)) (Zk F_law_fault (Zc (Zf 5) aNil)))) (tv (e2 dNe (Zk bReprA (Zc (Zf 5) aNil)) (Zf 6)))) (ZW (eC (.bl false))) sNil))))
noncomputable def Zeh:Sv:=(ZB (ZO (gNm 2) (Zk F_law_bag (Zc (Zf 0) (Zc (Zf 1) aNil))))
 (ZB (ZO (gNm 3) (e2 dIx (ZaD (Zc (Zk F_law_smooth (Zc (Zf 2) aNil)) (Zc (Zk F_law_any (Zc (Zf 2) aNil)) aNil))) (Zk F_law_digit (Zc (Zf 2) (Zc (eC (.int 2)) aNil)))))
 (ZB (sIf (Zdr (tv (e2 dIsNot (Zk F_law_fault (Zc (Zf 3) aNil)) (eC .non))) (tv (e2 dIsNot (Zk F_law_looked (Zc (Zk bList (Zc (Zf 3) aNil)) aNil)) (eC .non)))) (ZW (eC (.bl false))) sNil)
 (Zbt (gNm 4) (Zc (eC (.int 4)) aNil) Zeg))))
noncomputable def ZoV:Sv:=(ZB (Zbt (gNm 1) (Zc (Zk bMax (Zc (eC (.int 1)) (Zc (Zk bMin (Zc (eC (.int 8)) (Zc (Zk bLen (Zc (Zf 0) aNil)) aNil))) aNil))) aNil) Zeh)
 (ZW (eC (.bl true))))
noncomputable def Zfv:List D->Sto->Out D:=fnF ZoV 1 6
theorem ZcL:FnScope ["_law_script","_law_k","_law_bag_here","_law_rays","_law_turn","_law_thing","_law_kept"] ["_law_script"] (Zg Zef):=⟨rfl,rfl,rfl,by decide +kernel,rfl,by decide +kernel,by decide +kernel⟩
theorem ZoW {f:Addr} {fd:FuncData} (F:Fun K "law" "law" Zef f fd) (T:Txt K mg) (C_law_bag:Cal P w K mg base "_law_bag" 1 2 F_law_bag) (C_law_any:Cal P w K mg base "_law_any" 105 1 F_law_any) (C_law_smooth:Cal P w K mg base "_law_smooth" 104 1 F_law_smooth) (C_law_digit:Cal P w K mg base "_law_digit" 1 2 F_law_digit) (C_law_fault:Cal P w K mg base "_law_fault" 103 1 F_law_fault) (C_law_looked:Cal P w K mg base "_law_looked" 105 1 F_law_looked) (C_law_bent:Cal P w K mg base "_law_bent" 102 2 F_law_bent) (C_law_again:Cal P w K mg base "_law_again" 2 2 F_law_again):FnOk P w K mg base (CXE P w) 106 f fd ["_law_script"] (spD K Zfv):=
 Z5 F ZcL rfl rfl fun cdv A outer s H E hr θ=>(Zh (ZaU θ.own T.b_range (Za (Zp (Zhi (Zah hr (by decide))) ZmS T.b_max Zm0 (Za Zd (Za (Zp (Zhj (Zah hr (by decide))) ZmT T.b_min Zm1 (Za Zd (Za (Zp Zl ZX T.b_len PySem.boot_len (Za (Zb 0) Ze)) Ze))) Ze))) Ze) (ZE 1 ZcL.nd) (Zh (Zy 2 ZcL.nd (Zi C_law_bag θ (hr.mono (by decide)) (Za (Zb 0) (Za (Zb 1) Ze))))
  (Zh (Zy 3 ZcL.nd (Zr (ZJ (Za (Zi C_law_smooth θ (hr.mono (by decide)) (Za (Zb 2) Ze)) (Za (Zi C_law_any θ (hr.mono (by decide)) (Za (Zb 2) Ze)) Ze))) (Zi C_law_digit θ (hr.mono (by decide)) (Za (Zb 2) (Za Zd Ze)))))
  (Zh (Z4 (Zg1 (Zds (ZA Zc3 ZdO (Zi C_law_fault θ (hr.mono (by decide)) (Za (Zb 3) Ze)) Zb6) (Zc0 (ZA Zc3 ZdO (Zi C_law_looked θ (hr.mono (by decide)) (Za (ZbA ZcA ZhI T.b_list Zc7 (Za (Zb 3) Ze)) Ze)) Zb6)))) (Zj (Zt Zfc)) Zz)
  (Zj (ZaU θ.own T.b_range (Za Zd Ze) (ZE 4 ZcL.nd) (Zh (Zy 5 ZcL.nd (Zi C_law_bent θ (hr.mono (by decide)) (Za (Zb 2) (Za (Zb 3) Ze))))
  (Zh (Z4 (ZA (ZaT hr.units) Zb9 (Zi C_law_digit θ (hr.mono (by decide)) (Za (Zb 2) (Za Zd Ze))) Zd) (Zj (Zy 5 ZcL.nd (Zi C_law_again θ (hr.mono (by decide)) (Za (Zb 2) (Za (Zb 5) Ze))))) Zz)
  (Zh (Zy 6 ZcL.nd (Zp (ZdE hr) ZfZ T.b_repr Zh5 (Za (Zb 5) Ze)))
  (Zj (Z4 (Zg1 (Zds (ZA (Zc2 hr.units) Zfd (Zi C_law_looked θ (hr.mono (by decide)) (Za (Zb 5) Ze)) (Zi C_law_fault θ (hr.mono (by decide)) (Za (Zb 5) Ze))) (Zc0 (ZA (Zc2 hr.units) Zfd (Zp (ZdE hr) ZfZ T.b_repr Zh5 (Za (Zb 5) Ze)) (Zb 6))))) (Zj (Zt Zfc)) Zz)))))))))))
  (Zj (Zt Zfc)))
end
theorem Zfw {α:Type} {P:List α->Prop} (h: ∀ x0,P [x0]): ∀ us:List α,us.length=1->P us
 | [x0],_=>h x0
theorem Zfx {α:Type} {P:List α->Prop} (h: ∀ x0 x1,P [x0,x1]): ∀ us:List α,us.length=2->P us
 | [x0,x1],_=>h x0 x1
theorem Zsa {α:Type} {P:List α->Prop} (h: ∀ x0 x1 x2,P [x0,x1,x2]): ∀ us:List α,us.length=3->P us
 | [x0,x1,x2],_=>h x0 x1 x2
theorem ZoX {l:PySem.W.OpenLaw} {w:World} {K:PySem.W.Frag} {h:Heap} {mg:Str->Option Value} {fa f1 f2 f3 f4 f5 f6 f7 f8 f9 f10 f11 f12 f13 f14 f15 f16 f17 f18 f19 f20 f21 f22 f23 f24 f25 f26 f27 f28 f29 f30 f31 f32:Addr} (X:K.In h) (G:h.Ns mainGlobals mg) (hfa:mg "law"=some (.ref fa))
  {od1 an1 od2 an2 od3 an3 od4 an4 od5 an5 od6 an6 od7 an7 od8 an8 od9 an9 od10 an10 od11 an11 od12 an12 od13 an13 od14 an14 od15 an15 od16 an16 od17 an17 od18 an18 od19 an19 od20 an20 od21 an21 od22 an22 od23 an23 od24 an24 od25 an25 od26 an26 od27 an27 od28 an28 od29 an29 od30 an30 od31 an31 od32 an32:Option Addr} {sl1 sl2 sl3 sl4 sl5 sl6 sl7 sl8 sl9 sl10 sl11 sl12 sl13 sl14 sl15 sl16 sl17 sl18 sl19 sl20 sl21 sl22 sl23 sl24 sl25 sl26 sl27 sl28 sl29 sl30 sl31 sl32:Array (Option Value)} {oc1 kV1 dc1 pm1 cd1 ct1 oc2 kV2 dc2 pm2 cd2 ct2 oc3 kV3 dc3 pm3 cd3 ct3 oc4 kV4 dc4 pm4 cd4 ct4 oc5 kV5 dc5 pm5 cd5 ct5 oc6 kV6 dc6 pm6 cd6 ct6 oc7 kV7 dc7 pm7 cd7 ct7 oc8 kV8 dc8 pm8 cd8 ct8 oc9 kV9 dc9 pm9 cd9 ct9 oc10 kV10 dc10 pm10 cd10 ct10 oc11 kV11 dc11 pm11 cd11 ct11 oc12 kV12 dc12 pm12 cd12 ct12 oc13 kV13 dc13 pm13 cd13 ct13 oc14 kV14 dc14 pm14 cd14 ct14 oc15 kV15 dc15 pm15 cd15 ct15 oc16 kV16 dc16 pm16 cd16 ct16 oc17 kV17 dc17 pm17 cd17 ct17 oc18 kV18 dc18 pm18 cd18 ct18 oc19 kV19 dc19 pm19 cd19 ct19 oc20 kV20 dc20 pm20 cd20 ct20 oc21 kV21 dc21 pm21 cd21 ct21 oc22 kV22 dc22 pm22 cd22 ct22 oc23 kV23 dc23 pm23 cd23 ct23 oc24 kV24 dc24 pm24 cd24 ct24 oc25 kV25 dc25 pm25 cd25 ct25 oc26 kV26 dc26 pm26 cd26 ct26 oc27 kV27 dc27 pm27 cd27 ct27 oc28 kV28 dc28 pm28 cd28 ct28 oc29 kV29 dc29 pm29 cd29 ct29 oc30 kV30 dc30 pm30 cd30 ct30 oc31 kV31 dc31 pm31 cd31 ct31 oc32 kV32 dc32 pm32 cd32 ct32:Value}
  (a1:PySem.W.nsIn K mainGlobals "is_whole"=some (some (.ref f1))) (l1:K.lookup f1=some ⟨oc1,od1,.func (PySem.W.fnOf "is_whole" "is_whole" (Zu ZaG) (Zq ZaG) (Zg ZaG) .none kV1 dc1 pm1 an1 cd1 ct1),sl1⟩) (c1:PySem.W.codeIn K cd1 "is_whole"=true) (k1:PySem.W.keepIn K (.ref f1)=true)
  (a2:PySem.W.nsIn K mainGlobals "greatest_divisor"=some (some (.ref f2))) (l2:K.lookup f2=some ⟨oc2,od2,.func (PySem.W.fnOf "greatest_divisor" "greatest_divisor" (Zu ZD) (Zq ZD) (Zg ZD) .none kV2 dc2 pm2 an2 cd2 ct2),sl2⟩) (c2:PySem.W.codeIn K cd2 "greatest_divisor"=true) (k2:PySem.W.keepIn K (.ref f2)=true)
  (a3:PySem.W.nsIn K mainGlobals "is_pair"=some (some (.ref f3))) (l3:K.lookup f3=some ⟨oc3,od3,.func (PySem.W.fnOf "is_pair" "is_pair" (Zu Za9) (Zq Za9) (Zg Za9) .none kV3 dc3 pm3 an3 cd3 ct3),sl3⟩) (c3:PySem.W.codeIn K cd3 "is_pair"=true) (k3:PySem.W.keepIn K (.ref f3)=true)
  (a4:PySem.W.nsIn K mainGlobals "crossed"=some (some (.ref f4))) (l4:K.lookup f4=some ⟨oc4,od4,.func (PySem.W.fnOf "crossed" "crossed" (Zu Zba) (Zq Zba) (Zg Zba) .none kV4 dc4 pm4 an4 cd4 ct4),sl4⟩) (c4:PySem.W.codeIn K cd4 "crossed"=true) (k4:PySem.W.keepIn K (.ref f4)=true)
  (a5:PySem.W.nsIn K mainGlobals "common"=some (some (.ref f5))) (l5:K.lookup f5=some ⟨oc5,od5,.func (PySem.W.fnOf "common" "common" (Zu ZbI) (Zq ZbI) (Zg ZbI) .none kV5 dc5 pm5 an5 cd5 ct5),sl5⟩) (c5:PySem.W.codeIn K cd5 "common"=true) (k5:PySem.W.keepIn K (.ref f5)=true)
  (a6:PySem.W.nsIn K mainGlobals "is_ray"=some (some (.ref f6))) (l6:K.lookup f6=some ⟨oc6,od6,.func (PySem.W.fnOf "is_ray" "is_ray" (Zu ZbJ) (Zq ZbJ) (Zg ZbJ) .none kV6 dc6 pm6 an6 cd6 ct6),sl6⟩) (c6:PySem.W.codeIn K cd6 "is_ray"=true) (k6:PySem.W.keepIn K (.ref f6)=true)
  (a7:PySem.W.nsIn K mainGlobals "following"=some (some (.ref f7))) (l7:K.lookup f7=some ⟨oc7,od7,.func (PySem.W.fnOf "following" "following" (Zu Zaq) (Zq Zaq) (Zg Zaq) .none kV7 dc7 pm7 an7 cd7 ct7),sl7⟩) (c7:PySem.W.codeIn K cd7 "following"=true) (k7:PySem.W.keepIn K (.ref f7)=true)
  (a8:PySem.W.nsIn K mainGlobals "met_direction"=some (some (.ref f8))) (l8:K.lookup f8=some ⟨oc8,od8,.func (PySem.W.fnOf "met_direction" "met_direction" (Zu ZL) (Zq ZL) (Zg ZL) .none kV8 dc8 pm8 an8 cd8 ct8),sl8⟩) (c8:PySem.W.codeIn K cd8 "met_direction"=true) (k8:PySem.W.keepIn K (.ref f8)=true)
  (a9:PySem.W.nsIn K mainGlobals "look_round"=some (some (.ref f9))) (l9:K.lookup f9=some ⟨oc9,od9,.func (PySem.W.fnOf "look_round" "look_round" (Zu ZY) (Zq ZY) (Zg ZY) .none kV9 dc9 pm9 an9 cd9 ct9),sl9⟩) (c9:PySem.W.codeIn K cd9 "look_round"=true) (k9:PySem.W.keepIn K (.ref f9)=true)
  (a10:PySem.W.nsIn K mainGlobals "_law_bag"=some (some (.ref f10))) (l10:K.lookup f10=some ⟨oc10,od10,.func (PySem.W.fnOf "_law_bag" "_law_bag" (Zu Zbb) (Zq Zbb) (Zg Zbb) .none kV10 dc10 pm10 an10 cd10 ct10),sl10⟩) (c10:PySem.W.codeIn K cd10 "_law_bag"=true) (k10:PySem.W.keepIn K (.ref f10)=true)
  (a11:PySem.W.nsIn K mainGlobals "_law_digit"=some (some (.ref f11))) (l11:K.lookup f11=some ⟨oc11,od11,.func (PySem.W.fnOf "_law_digit" "_law_digit" (Zu Zar) (Zq Zar) (Zg Zar) .none kV11 dc11 pm11 an11 cd11 ct11),sl11⟩) (c11:PySem.W.codeIn K cd11 "_law_digit"=true) (k11:PySem.W.keepIn K (.ref f11)=true)
  (a12:PySem.W.nsIn K mainGlobals "_law_led"=some (some (.ref f12))) (l12:K.lookup f12=some ⟨oc12,od12,.func (PySem.W.fnOf "_law_led" "_law_led" (Zu Zbc) (Zq Zbc) (Zg Zbc) .none kV12 dc12 pm12 an12 cd12 ct12),sl12⟩) (c12:PySem.W.codeIn K cd12 "_law_led"=true) (k12:PySem.W.keepIn K (.ref f12)=true)
  (a13:PySem.W.nsIn K mainGlobals "_law_both"=some (some (.ref f13))) (l13:K.lookup f13=some ⟨oc13,od13,.func (PySem.W.fnOf "_law_both" "_law_both" (Zu ZaH) (Zq ZaH) (Zg ZaH) .none kV13 dc13 pm13 an13 cd13 ct13),sl13⟩) (c13:PySem.W.codeIn K cd13 "_law_both"=true) (k13:PySem.W.keepIn K (.ref f13)=true)
  (a14:PySem.W.nsIn K mainGlobals "_law_turning"=some (some (.ref f14))) (l14:K.lookup f14=some ⟨oc14,od14,.func (PySem.W.fnOf "_law_turning" "_law_turning" (Zu Z2) (Zq Z2) (Zg Z2) .none kV14 dc14 pm14 an14 cd14 ct14),sl14⟩) (c14:PySem.W.codeIn K cd14 "_law_turning"=true) (k14:PySem.W.keepIn K (.ref f14)=true)
  (a15:PySem.W.nsIn K mainGlobals "_law_cross"=some (some (.ref f15))) (l15:K.lookup f15=some ⟨oc15,od15,.func (PySem.W.fnOf "_law_cross" "_law_cross" (Zu Zas) (Zq Zas) (Zg Zas) .none kV15 dc15 pm15 an15 cd15 ct15),sl15⟩) (c15:PySem.W.codeIn K cd15 "_law_cross"=true) (k15:PySem.W.keepIn K (.ref f15)=true)
  (a16:PySem.W.nsIn K mainGlobals "_law_sum"=some (some (.ref f16))) (l16:K.lookup f16=some ⟨oc16,od16,.func (PySem.W.fnOf "_law_sum" "_law_sum" (Zu Zbd) (Zq Zbd) (Zg Zbd) .none kV16 dc16 pm16 an16 cd16 ct16),sl16⟩) (c16:PySem.W.codeIn K cd16 "_law_sum"=true) (k16:PySem.W.keepIn K (.ref f16)=true)
  (a17:PySem.W.nsIn K mainGlobals "_law_near"=some (some (.ref f17))) (l17:K.lookup f17=some ⟨oc17,od17,.func (PySem.W.fnOf "_law_near" "_law_near" (Zu ZaI) (Zq ZaI) (Zg ZaI) .none kV17 dc17 pm17 an17 cd17 ct17),sl17⟩) (c17:PySem.W.codeIn K cd17 "_law_near"=true) (k17:PySem.W.keepIn K (.ref f17)=true)
  (a18:PySem.W.nsIn K mainGlobals "_law_brought"=some (some (.ref f18))) (l18:K.lookup f18=some ⟨oc18,od18,.func (PySem.W.fnOf "_law_brought" "_law_brought" (Zu ZP) (Zq ZP) (Zg ZP) .none kV18 dc18 pm18 an18 cd18 ct18),sl18⟩) (c18:PySem.W.codeIn K cd18 "_law_brought"=true) (k18:PySem.W.keepIn K (.ref f18)=true)
  (a19:PySem.W.nsIn K mainGlobals "_law_smooth"=some (some (.ref f19))) (l19:K.lookup f19=some ⟨oc19,od19,.func (PySem.W.fnOf "_law_smooth" "_law_smooth" (Zu Zac) (Zq Zac) (Zg Zac) .none kV19 dc19 pm19 an19 cd19 ct19),sl19⟩) (c19:PySem.W.codeIn K cd19 "_law_smooth"=true) (k19:PySem.W.keepIn K (.ref f19)=true)
  (a20:PySem.W.nsIn K mainGlobals "_law_straight"=some (some (.ref f20))) (l20:K.lookup f20=some ⟨oc20,od20,.func (PySem.W.fnOf "_law_straight" "_law_straight" (Zu ZS) (Zq ZS) (Zg ZS) .none kV20 dc20 pm20 an20 cd20 ct20),sl20⟩) (c20:PySem.W.codeIn K cd20 "_law_straight"=true) (k20:PySem.W.keepIn K (.ref f20)=true)
  (a21:PySem.W.nsIn K mainGlobals "_law_put"=some (some (.ref f21))) (l21:K.lookup f21=some ⟨oc21,od21,.func (PySem.W.fnOf "_law_put" "_law_put" (Zu Zbe) (Zq Zbe) (Zg Zbe) .none kV21 dc21 pm21 an21 cd21 ct21),sl21⟩) (c21:PySem.W.codeIn K cd21 "_law_put"=true) (k21:PySem.W.keepIn K (.ref f21)=true)
  (a22:PySem.W.nsIn K mainGlobals "_law_any"=some (some (.ref f22))) (l22:K.lookup f22=some ⟨oc22,od22,.func (PySem.W.fnOf "_law_any" "_law_any" (Zu Zbf) (Zq Zbf) (Zg Zbf) .none kV22 dc22 pm22 an22 cd22 ct22),sl22⟩) (c22:PySem.W.codeIn K cd22 "_law_any"=true) (k22:PySem.W.keepIn K (.ref f22)=true)
  (a23:PySem.W.nsIn K mainGlobals "_law_whole"=some (some (.ref f23))) (l23:K.lookup f23=some ⟨oc23,od23,.func (PySem.W.fnOf "_law_whole" "_law_whole" (Zu Zat) (Zq Zat) (Zg Zat) .none kV23 dc23 pm23 an23 cd23 ct23),sl23⟩) (c23:PySem.W.codeIn K cd23 "_law_whole"=true) (k23:PySem.W.keepIn K (.ref f23)=true)
  (a24:PySem.W.nsIn K mainGlobals "_law_classes"=some (some (.ref f24))) (l24:K.lookup f24=some ⟨oc24,od24,.func (PySem.W.fnOf "_law_classes" "_law_classes" (Zu ZQ) (Zq ZQ) (Zg ZQ) .none kV24 dc24 pm24 an24 cd24 ct24),sl24⟩) (c24:PySem.W.codeIn K cd24 "_law_classes"=true) (k24:PySem.W.keepIn K (.ref f24)=true)
  (a25:PySem.W.nsIn K mainGlobals "_law_is_ray"=some (some (.ref f25))) (l25:K.lookup f25=some ⟨oc25,od25,.func (PySem.W.fnOf "_law_is_ray" "_law_is_ray" (Zu Zad) (Zq Zad) (Zg Zad) .none kV25 dc25 pm25 an25 cd25 ct25),sl25⟩) (c25:PySem.W.codeIn K cd25 "_law_is_ray"=true) (k25:PySem.W.keepIn K (.ref f25)=true)
  (a26:PySem.W.nsIn K mainGlobals "_law_has_east"=some (some (.ref f26))) (l26:K.lookup f26=some ⟨oc26,od26,.func (PySem.W.fnOf "_law_has_east" "_law_has_east" (Zu ZU) (Zq ZU) (Zg ZU) .none kV26 dc26 pm26 an26 cd26 ct26),sl26⟩) (c26:PySem.W.codeIn K cd26 "_law_has_east"=true) (k26:PySem.W.keepIn K (.ref f26)=true)
  (a27:PySem.W.nsIn K mainGlobals "_law_fault"=some (some (.ref f27))) (l27:K.lookup f27=some ⟨oc27,od27,.func (PySem.W.fnOf "_law_fault" "_law_fault" (Zu Zau) (Zq Zau) (Zg Zau) .none kV27 dc27 pm27 an27 cd27 ct27),sl27⟩) (c27:PySem.W.codeIn K cd27 "_law_fault"=true) (k27:PySem.W.keepIn K (.ref f27)=true)
  (a28:PySem.W.nsIn K mainGlobals "_law_looked"=some (some (.ref f28))) (l28:K.lookup f28=some ⟨oc28,od28,.func (PySem.W.fnOf "_law_looked" "_law_looked" (Zu Zae) (Zq Zae) (Zg Zae) .none kV28 dc28 pm28 an28 cd28 ct28),sl28⟩) (c28:PySem.W.codeIn K cd28 "_law_looked"=true) (k28:PySem.W.keepIn K (.ref f28)=true)
  (a29:PySem.W.nsIn K mainGlobals "_law_odd"=some (some (.ref f29))) (l29:K.lookup f29=some ⟨oc29,od29,.func (PySem.W.fnOf "_law_odd" "_law_odd" (Zu Zbg) (Zq Zbg) (Zg Zbg) .none kV29 dc29 pm29 an29 cd29 ct29),sl29⟩) (c29:PySem.W.codeIn K cd29 "_law_odd"=true) (k29:PySem.W.keepIn K (.ref f29)=true)
  (a30:PySem.W.nsIn K mainGlobals "_law_bent"=some (some (.ref f30))) (l30:K.lookup f30=some ⟨oc30,od30,.func (PySem.W.fnOf "_law_bent" "_law_bent" (Zu ZaJ) (Zq ZaJ) (Zg ZaJ) .none kV30 dc30 pm30 an30 cd30 ct30),sl30⟩) (c30:PySem.W.codeIn K cd30 "_law_bent"=true) (k30:PySem.W.keepIn K (.ref f30)=true)
  (a31:PySem.W.nsIn K mainGlobals "_law_again"=some (some (.ref f31))) (l31:K.lookup f31=some ⟨oc31,od31,.func (PySem.W.fnOf "_law_again" "_law_again" (Zu Zav) (Zq Zav) (Zg Zav) .none kV31 dc31 pm31 an31 cd31 ct31),sl31⟩) (c31:PySem.W.codeIn K cd31 "_law_again"=true) (k31:PySem.W.keepIn K (.ref f31)=true)
  (a32:PySem.W.nsIn K mainGlobals "law"=some (some (.ref f32))) (l32:K.lookup f32=some ⟨oc32,od32,.func (PySem.W.fnOf "law" "law" (Zu Zef) (Zq Zef) (Zg Zef) .none kV32 dc32 pm32 an32 cd32 ct32),sl32⟩) (c32:PySem.W.codeIn K cd32 "law"=true) (k32:PySem.W.keepIn K (.ref f32)=true)
  {fI:Addr} {odI anI:Option Addr} {slI:Array (Option Value)} {ocI kVI dcI pmI cdI ctI:Value} (lI:K.lookup fI=some ⟨ocI,odI,.func (PySem.W.fnOf "__init__" "NoRound.__init__" (Zu ZcI) (Zq ZcI) (Zg ZcI) .none kVI dcI pmI anI cdI ctI),slI⟩) (cI:PySem.W.codeIn K cdI "NoRound.__init__"=true) (kI:PySem.W.keepIn K (.ref fI)=true) (xI:Zgy K "NoRound" fI=true) (bI:Zf4 K "RayError"=true)
  (z_isinstance:PySem.W.nsIn K mainGlobals "isinstance"=some none)
  (z_int:PySem.W.nsIn K mainGlobals "int"=some none)
  (z_bool:PySem.W.nsIn K mainGlobals "bool"=some none)
  (z_abs:PySem.W.nsIn K mainGlobals "abs"=some none)
  (z_tuple:PySem.W.nsIn K mainGlobals "tuple"=some none)
  (z_len:PySem.W.nsIn K mainGlobals "len"=some none)
  (z_list:PySem.W.nsIn K mainGlobals "list"=some none)
  (z_enumerate:PySem.W.nsIn K mainGlobals "enumerate"=some none)
  (z_range:PySem.W.nsIn K mainGlobals "range"=some none)
  (z_all:PySem.W.nsIn K mainGlobals "all"=some none)
  (z_ValueError:PySem.W.nsIn K mainGlobals "ValueError"=some none)
  (z_str:PySem.W.nsIn K mainGlobals "str"=some none)
  (z_min:PySem.W.nsIn K mainGlobals "min"=some none)
  (z_max:PySem.W.nsIn K mainGlobals "max"=some none)
  (z_repr:PySem.W.nsIn K mainGlobals "repr"=some none)
  (q_it_NotSmooth:Z6 K "NotSmooth" [(PySem.Str.ofString "NoRound",false)]=true)
  (q_it_NoRound:Z6 K "NoRound" [(PySem.Str.ofString "NoRound",true)]=true)
  (q_it_NoTurning:Z6 K "NoTurning" [(PySem.Str.ofString "NoRound",false)]=true)
  (q_it_NoRatio:Z6 K "NoRatio" [(PySem.Str.ofString "NoRound",false)]=true)
  (q_it_NoMinus:Z6 K "NoMinus" [(PySem.Str.ofString "NoRound",false)]=true)
  (q_it_NoPlace:Z6 K "NoPlace" [(PySem.Str.ofString "NoRound",false)]=true)
  (q_it_NoRow:Z6 K "NoRow" [(PySem.Str.ofString "NoRound",false)]=true)
  (q_it_NoWedge:Z6 K "NoWedge" [(PySem.Str.ofString "NoRound",false)]=true)
  (q_it_NoBody:Z6 K "NoBody" [(PySem.Str.ofString "NoRound",false)]=true)
  (q_it_NoBend:Z6 K "NoBend" [(PySem.Str.ofString "NoRound",false)]=true)
  (q_it_NoHeight:Z6 K "NoHeight" [(PySem.Str.ofString "NoRound",false)]=true)
  (q_it_NoFour:Z6 K "NoFour" [(PySem.Str.ofString "NoRound",false)]=true)
  (q_it_Unknown:Z6 K "Unknown" [(PySem.Str.ofString "NoRound",false)]=true)
  (q_it_NoText:Z6 K "NoText" [(PySem.Str.ofString "NoRound",false)]=true)
  (q_it_NoOne:Z6 K "NoOne" [(PySem.Str.ofString "NoRound",false)]=true)
  (q_ib_ValueError:ZhT K "ValueError" [(PySem.Str.ofString "NoRound",true)]=true)
  (q_ct_RayError:ZfU K "RayError" [PySem.Str.ofString "NoRound"]=true)
  : ∃ fd:FuncData,(∀ (s:Shared) (v:Value),BindsTo s fd ⟨[v],[]⟩ [("_law_script",v)])/\ ∀ base:Heap,K.In base->base.Ns mainGlobals mg->FnOk l.prog w K mg base (CXE l.prog w) 106 fa fd ["_law_script"] (spD K Zfv):=by
 have e:=hfa.symm.trans (PySem.W.mg_of X G a32)
 cases e
 have RI:=ZF (st:=ZcI) lI cI kI
 have JI: ∃ f fd,IniOk K "NoRound" "NoRound.__init__" ZcI f fd:=⟨fI,_,xI,RI,bI,RI.binds (ps:=N3) fun _ _ _ _ _ _=>Zsa fun _ _ _=>rfl⟩
 have T:Txt K mg:=⟨fun c v e=>PySem.W.mg_of X G e,PySem.W.mg_none_of X G z_isinstance,PySem.W.mg_none_of X G z_int,PySem.W.mg_none_of X G z_bool,PySem.W.mg_none_of X G z_abs,PySem.W.mg_none_of X G z_tuple,PySem.W.mg_none_of X G z_len,PySem.W.mg_none_of X G z_list,PySem.W.mg_none_of X G z_enumerate,PySem.W.mg_none_of X G z_range,PySem.W.mg_none_of X G z_all,PySem.W.mg_none_of X G z_ValueError,PySem.W.mg_none_of X G z_str,PySem.W.mg_none_of X G z_min,PySem.W.mg_none_of X G z_max,PySem.W.mg_none_of X G z_repr,JI,q_it_NotSmooth,q_it_NoRound,q_it_NoTurning,q_it_NoRatio,q_it_NoMinus,q_it_NoPlace,q_it_NoRow,q_it_NoWedge,q_it_NoBody,q_it_NoBend,q_it_NoHeight,q_it_NoFour,q_it_Unknown,q_it_NoText,q_it_NoOne,q_ib_ValueError,q_ct_RayError⟩
 have R1:=ZF (st:=ZaG) l1 c1 k1
 have R2:=ZF (st:=ZD) l2 c2 k2
 have R3:=ZF (st:=Za9) l3 c3 k3
 have R4:=ZF (st:=Zba) l4 c4 k4
 have R5:=ZF (st:=ZbI) l5 c5 k5
 have R6:=ZF (st:=ZbJ) l6 c6 k6
 have R7:=ZF (st:=Zaq) l7 c7 k7
 have R8:=ZF (st:=ZL) l8 c8 k8
 have R9:=ZF (st:=ZY) l9 c9 k9
 have R10:=ZF (st:=Zbb) l10 c10 k10
 have R11:=ZF (st:=Zar) l11 c11 k11
 have R12:=ZF (st:=Zbc) l12 c12 k12
 have R13:=ZF (st:=ZaH) l13 c13 k13
 have R14:=ZF (st:=Z2) l14 c14 k14
 have R15:=ZF (st:=Zas) l15 c15 k15
 have R16:=ZF (st:=Zbd) l16 c16 k16
 have R17:=ZF (st:=ZaI) l17 c17 k17
 have R18:=ZF (st:=ZP) l18 c18 k18
 have R19:=ZF (st:=Zac) l19 c19 k19
 have R20:=ZF (st:=ZS) l20 c20 k20
 have R21:=ZF (st:=Zbe) l21 c21 k21
 have R22:=ZF (st:=Zbf) l22 c22 k22
 have R23:=ZF (st:=Zat) l23 c23 k23
 have R24:=ZF (st:=ZQ) l24 c24 k24
 have R25:=ZF (st:=Zad) l25 c25 k25
 have R26:=ZF (st:=ZU) l26 c26 k26
 have R27:=ZF (st:=Zau) l27 c27 k27
 have R28:=ZF (st:=Zae) l28 c28 k28
 have R29:=ZF (st:=Zbg) l29 c29 k29
 have R30:=ZF (st:=ZaJ) l30 c30 k30
 have R31:=ZF (st:=Zav) l31 c31 k31
 have R32:=ZF (st:=Zef) l32 c32 k32
 refine ⟨PySem.W.fnOf "law" "law" (Zu Zef) (Zq Zef) (Zg Zef) .none kV32 dc32 pm32 an32 cd32 ct32,fun s v=> .of_eq rfl,fun base _ _=> ?_⟩
 have C1:Cal l.prog w K mg base "is_whole" 1 1 F_is_whole:=⟨f1,_,["thing"],Zfq R1 T,PySem.W.mg_of X G a1,k1,rfl,R1.binds (ps:=["thing"]) fun _ _ _ _ _ _=>Zfw fun _=>rfl⟩
 have C2:Cal l.prog w K mg base "greatest_divisor" 101 2 F_greatest_divisor:=⟨f2,_,["one","other"],Zb3 R2 T,PySem.W.mg_of X G a2,k2,rfl,R2.binds (ps:=["one","other"]) fun _ _ _ _ _ _=>Zfx fun _ _=>rfl⟩
 have C3:Cal l.prog w K mg base "is_pair" 2 1 F_is_pair:=⟨f3,_,["thing"],ZgR R3 T C1,PySem.W.mg_of X G a3,k3,rfl,R3.binds (ps:=["thing"]) fun _ _ _ _ _ _=>Zfw fun _=>rfl⟩
 have C4:Cal l.prog w K mg base "crossed" 1 2 F_crossed:=⟨f4,_,["one","other"],ZgT R4 T,PySem.W.mg_of X G a4,k4,rfl,R4.binds (ps:=["one","other"]) fun _ _ _ _ _ _=>Zfx fun _ _=>rfl⟩
 have C5:Cal l.prog w K mg base "common" 102 1 F_common:=⟨f5,_,["pair"],ZiE R5 T C2,PySem.W.mg_of X G a5,k5,rfl,R5.binds (ps:=["pair"]) fun _ _ _ _ _ _=>Zfw fun _=>rfl⟩
 have C6:Cal l.prog w K mg base "is_ray" 103 1 F_is_ray:=⟨f6,_,["thing"],ZiG R6 T C3 C5,PySem.W.mg_of X G a6,k6,rfl,R6.binds (ps:=["thing"]) fun _ _ _ _ _ _=>Zfw fun _=>rfl⟩
 have C7:Cal l.prog w K mg base "following" 1 2 F_following:=⟨f7,_,["things","at"],ZeX R7 T,PySem.W.mg_of X G a7,k7,rfl,R7.binds (ps:=["things","at"]) fun _ _ _ _ _ _=>Zfx fun _ _=>rfl⟩
 have C8:Cal l.prog w K mg base "met_direction" 1 2 F_met_direction:=⟨f8,_,["ray","behind"],ZcP R8 T,PySem.W.mg_of X G a8,k8,rfl,R8.binds (ps:=["ray","behind"]) fun _ _ _ _ _ _=>Zfx fun _ _=>rfl⟩
 have C9:Cal l.prog w K mg base "look_round" 104 1 F_look_round:=⟨f9,_,["thing"],Zea R9 T C6 C7 C4 C8,PySem.W.mg_of X G a9,k9,rfl,R9.binds (ps:=["thing"]) fun _ _ _ _ _ _=>Zfw fun _=>rfl⟩
 have C10:Cal l.prog w K mg base "_law_bag" 1 2 F_law_bag:=⟨f10,_,["_law_script","_law_k"],ZgU R10 T,PySem.W.mg_of X G a10,k10,rfl,R10.binds (ps:=["_law_script","_law_k"]) fun _ _ _ _ _ _=>Zfx fun _ _=>rfl⟩
 have C11:Cal l.prog w K mg base "_law_digit" 1 2 F_law_digit:=⟨f11,_,["_law_bag_here","_law_many"],ZeY R11 T,PySem.W.mg_of X G a11,k11,rfl,R11.binds (ps:=["_law_bag_here","_law_many"]) fun _ _ _ _ _ _=>Zfx fun _ _=>rfl⟩
 have C12:Cal l.prog w K mg base "_law_led" 101 2 F_law_led:=⟨f12,_,["_law_turning_here","_law_pair"],ZgV R12 T,PySem.W.mg_of X G a12,k12,rfl,R12.binds (ps:=["_law_turning_here","_law_pair"]) fun _ _ _ _ _ _=>Zfx fun _ _=>rfl⟩
 have C13:Cal l.prog w K mg base "_law_both" 102 2 F_law_both:=⟨f13,_,["_law_one","_law_other"],Zfr R13 T C12,PySem.W.mg_of X G a13,k13,rfl,R13.binds (ps:=["_law_one","_law_other"]) fun _ _ _ _ _ _=>Zfx fun _ _=>rfl⟩
 have C14:Cal l.prog w K mg base "_law_turning" 103 1 F_law_turning:=⟨f14,_,["_law_bag_here"],Zdx R14 T C11 C13,PySem.W.mg_of X G a14,k14,rfl,R14.binds (ps:=["_law_bag_here"]) fun _ _ _ _ _ _=>Zfw fun _=>rfl⟩
 have C15:Cal l.prog w K mg base "_law_cross" 1 2 F_law_cross:=⟨f15,_,["_law_one","_law_other"],Ze0 R15 T,PySem.W.mg_of X G a15,k15,rfl,R15.binds (ps:=["_law_one","_law_other"]) fun _ _ _ _ _ _=>Zfx fun _ _=>rfl⟩
 have C16:Cal l.prog w K mg base "_law_sum" 1 2 F_law_sum:=⟨f16,_,["_law_one","_law_other"],ZgX R16 T,PySem.W.mg_of X G a16,k16,rfl,R16.binds (ps:=["_law_one","_law_other"]) fun _ _ _ _ _ _=>Zfx fun _ _=>rfl⟩
 have C17:Cal l.prog w K mg base "_law_near" 1 1 F_law_near:=⟨f17,_,["_law_pair"],Zft R17 T,PySem.W.mg_of X G a17,k17,rfl,R17.binds (ps:=["_law_pair"]) fun _ _ _ _ _ _=>Zfw fun _=>rfl⟩
 have C18:Cal l.prog w K mg base "_law_brought" 102 3 F_law_brought:=⟨f18,_,["_law_rays","_law_turning_here","_law_start"],Zdy R18 T C12 C17 C15,PySem.W.mg_of X G a18,k18,rfl,R18.binds (ps:=["_law_rays","_law_turning_here","_law_start"]) fun _ _ _ _ _ _=>Zsa fun _ _ _=>rfl⟩
 have C19:Cal l.prog w K mg base "_law_smooth" 104 1 F_law_smooth:=⟨f19,_,["_law_bag_here"],Zeb R19 T C11 C16 C17 C14 C18,PySem.W.mg_of X G a19,k19,rfl,R19.binds (ps:=["_law_bag_here"]) fun _ _ _ _ _ _=>Zfw fun _=>rfl⟩
 have C20:Cal l.prog w K mg base "_law_straight" 101 1 F_law_straight:=⟨f20,_,["_law_pair"],Zdk R20 T,PySem.W.mg_of X G a20,k20,rfl,R20.binds (ps:=["_law_pair"]) fun _ _ _ _ _ _=>Zfw fun _=>rfl⟩
 have C21:Cal l.prog w K mg base "_law_put" 2 2 F_law_put:=⟨f21,_,["_law_rays","_law_ray"],ZgY R21 T C15,PySem.W.mg_of X G a21,k21,rfl,R21.binds (ps:=["_law_rays","_law_ray"]) fun _ _ _ _ _ _=>Zfx fun _ _=>rfl⟩
 have C22:Cal l.prog w K mg base "_law_any" 105 1 F_law_any:=⟨f22,_,["_law_bag_here"],ZgZ R22 T C19 C11 C20 C21 C15,PySem.W.mg_of X G a22,k22,rfl,R22.binds (ps:=["_law_bag_here"]) fun _ _ _ _ _ _=>Zfw fun _=>rfl⟩
 have C23:Cal l.prog w K mg base "_law_whole" 1 1 F_law_whole:=⟨f23,_,["_law_thing"],Ze2 R23 T,PySem.W.mg_of X G a23,k23,rfl,R23.binds (ps:=["_law_thing"]) fun _ _ _ _ _ _=>Zfw fun _=>rfl⟩
 have C24:Cal l.prog w K mg base "_law_classes" 1 1 F_law_classes:=⟨f24,_,["_law_e"],Zdz R24 T,PySem.W.mg_of X G a24,k24,rfl,R24.binds (ps:=["_law_e"]) fun _ _ _ _ _ _=>Zfw fun _=>rfl⟩
 have C25:Cal l.prog w K mg base "_law_is_ray" 102 1 F_law_is_ray:=⟨f25,_,["_law_thing"],Zed R25 T C23 C20,PySem.W.mg_of X G a25,k25,rfl,R25.binds (ps:=["_law_thing"]) fun _ _ _ _ _ _=>Zfw fun _=>rfl⟩
 have C26:Cal l.prog w K mg base "_law_has_east" 1 2 F_law_has_east:=⟨f26,_,["_law_one","_law_other"],Zdm R26 T,PySem.W.mg_of X G a26,k26,rfl,R26.binds (ps:=["_law_one","_law_other"]) fun _ _ _ _ _ _=>Zfx fun _ _=>rfl⟩
 have C27:Cal l.prog w K mg base "_law_fault" 103 1 F_law_fault:=⟨f27,_,["_law_thing"],Ze3 R27 T C25 C15 C26,PySem.W.mg_of X G a27,k27,rfl,R27.binds (ps:=["_law_thing"]) fun _ _ _ _ _ _=>Zfw fun _=>rfl⟩
 have C28:Cal l.prog w K mg base "_law_looked" 105 1 F_law_looked:=⟨f28,_,["_law_thing"],Zee R28 T C9 C24 C23,PySem.W.mg_of X G a28,k28,rfl,R28.binds (ps:=["_law_thing"]) fun _ _ _ _ _ _=>Zfw fun _=>rfl⟩
 have C29:Cal l.prog w K mg base "_law_odd" 101 2 F_law_odd:=⟨f29,_,["_law_bag_here","_law_ray"],Zg0 R29 T C11,PySem.W.mg_of X G a29,k29,rfl,R29.binds (ps:=["_law_bag_here","_law_ray"]) fun _ _ _ _ _ _=>Zfx fun _ _=>rfl⟩
 have C30:Cal l.prog w K mg base "_law_bent" 102 2 F_law_bent:=⟨f30,_,["_law_bag_here","_law_rays"],Zfu R30 T C11 C29,PySem.W.mg_of X G a30,k30,rfl,R30.binds (ps:=["_law_bag_here","_law_rays"]) fun _ _ _ _ _ _=>Zfx fun _ _=>rfl⟩
 have C31:Cal l.prog w K mg base "_law_again" 2 2 F_law_again:=⟨f31,_,["_law_bag_here","_law_thing"],Ze5 R31 T C11,PySem.W.mg_of X G a31,k31,rfl,R31.binds (ps:=["_law_bag_here","_law_thing"]) fun _ _ _ _ _ _=>Zfx fun _ _=>rfl⟩
 exact ZoW R32 T C10 C22 C19 C11 C27 C28 C30 C31
end K06
end
section
namespace K06
open PySem PySem.Spec L2 DL
open CB (Bd)
open CV (Kp)
open CJ (Els El Res enc Odd ZiM)
open TW (sf Zf9)
open CG (met Ze9)
structure Ks (n:Nat) (M M':Sto):Prop where
 off: ∀ j o,j≠n->M[j]?=some o->M'[j]?=some o
 on:M[n]?.isSome->M'[n]?.isSome
section
variable {M M' M1 M2:Sto} {n m:Nat} {d:D}
theorem Ks.refl:Ks n M M:=⟨fun _ _ _ h=>h,fun h=>h⟩
theorem Ks.trans (a:Ks n M M1) (b:Ks n M1 M2):Ks n M M2:=⟨fun j o h e=>b.off j o h (a.off j o h e),fun h=>b.on (a.on h)⟩
theorem Ks.kp (k:Kp M M'):Ks n M M':=⟨fun j o _ e=>k.get e,fun h=>by
 obtain ⟨o,e⟩:=Option.isSome_iff_exists.mp h
 rw[k.get e]
 rfl⟩
theorem Ks.gr (g:Gr n M M'):Ks n M M':=⟨fun j o h e=>CA.Gr.up e g h,fun _=>by
 obtain ⟨a,b,_,e⟩:=g.bag
 rw[e]
 rfl⟩
theorem ZjM (k:Ks n M M') {t:String} (h:ZC M d=some t):ZC M' d=some t:=by
 cases d with
 |ref j=>
  cases e:M[j]? with
  |none=>simp[ZC,kd,e] at h
  |some o=>
   cases o with
   |lst xs=>
    have: ∃ ys,M'[j]?=some (.lst ys):=by
     by_cases c:j=n
     ·subst c
      obtain ⟨o,e2⟩:=Option.isSome_iff_exists.mp (k.on (by rw[e];rfl))
      cases o with
      |lst ys=>exact ⟨ys,e2⟩
     ·exact ⟨xs,k.off j _ c e⟩
    obtain ⟨ys,e2⟩:=this
    simp only[ZC,kd,e] at h
    simp only[ZC,kd,e2]
    exact h
 |_=>exact h
theorem El.ks (k:Ks n M M'): ∀ {o:Option Pt},El M d o->El M' d o
 |some _,h=>h
 |none,h=>by
  have nw: ∀ {x:D},ZiM M x->ZiM M' x:=fun ⟨t,a,b⟩=>⟨t,ZjM k a,b⟩
  rcases h with ⟨t,a,b⟩ | ⟨xs,e,h⟩
  ·exact .inl ⟨t,ZjM k a,b⟩
  ·refine .inr ⟨xs,e,?_⟩
   rcases h with h | ⟨x,y,e2,h⟩
   ·exact .inl h
   ·refine .inr ⟨x,y,e2,?_⟩
    rcases h with h | ⟨h1,h2⟩
    ·exact .inl (nw h)
    ·exact .inr ⟨h1,nw h2⟩
noncomputable def Bad:SO:= .lst [.fn (PySem.Str.ofString "")]
theorem Zdn {f g:D->Option PyData} (h: ∀ d t,f d=some t->g d=some t): ∀ (xs:List D) (ts:List PyData),Zcd f xs=some ts->Zcd g xs=some ts
 | [],ts,e=>e
 |x :: r,ts,e=>by
  unfold Zcd at e ⊢
  split at e
  ·rename_i a b e1 e2
   rw[h x a e1,Zdn h r b e2]
   exact e
  ·cases e
theorem ZlX (k: ∀ j o,j≠n->M[j]?=some o->M'[j]?=some o): ∀ (f:Nat) (d:D) (t:PyData),pyD (M.set n Bad) f d=some t->pyD M' f d=some t
 |0,_,_,e=>e
 |f + 1,d,t,e=>by
  have ih:=Zdn (ZlX k f)
  have mp: ∀ {c:List PyData->PyData} {xs:List D},(Zcd (pyD (M.set n Bad) f) xs).map c=some t->(Zcd (pyD M' f) xs).map c=some t:=fun {c xs} e=>by
   obtain ⟨ts,e1,e2⟩:=Option.map_eq_some_iff.mp e
   rw[ih xs ts e1,<- e2]
   rfl
  cases d with
  |tup xs=>exact mp e
  |rol xs=>exact mp e
  |con xs=>exact mp e
  |ref j=>
   change (match (M.set n Bad)[j]? with | some (.lst xs)=>(Zcd (pyD (M.set n Bad) f) xs).map .list | none=>none)=some t at e
   show (match M'[j]? with | some (.lst xs)=>(Zcd (pyD M' f) xs).map .list | none=>none)=some t
   by_cases c:j=n
   ·subst c
    exfalso
    by_cases l:j < M.length
    ·rw[List.getElem?_set_self l] at e
     have:pyD (M.set j Bad) f (.fn (PySem.Str.ofString ""))=none:=by cases f<;>rfl
     have z:Zcd (pyD (M.set j Bad) f) [.fn (PySem.Str.ofString "")]=none:=by rw[Zcd,this]
     change (Zcd (pyD (M.set j Bad) f) [.fn (PySem.Str.ofString "")]).map PyData.list=some t at e
     rw[z] at e
     cases e
    ·rw[List.getElem?_eq_none (by rw[List.length_set];omega)] at e
     cases e
   ·rw[List.getElem?_set_ne (Ne.symm c)] at e
    cases em:M[j]? with
    |none=>rw[em] at e;cases e
    |some o=>
     cases o with
     |lst xs=>
      rw[em] at e
      rw[k j _ c em]
      exact mp e
  |_=>exact e
theorem ZoY: ∀ (f:Nat) (d:D) (t:PyData),pyD M f d=some t->pyD M (f + 1) d=some t
 |0,_,_,e=>by cases e
 |f + 1,d,t,e=>by
  have ih:=Zdn (ZoY f)
  have mp: ∀ {c:List PyData->PyData} {xs:List D},(Zcd (pyD M f) xs).map c=some t->(Zcd (pyD M (f + 1)) xs).map c=some t:=fun {c xs} e=>by
   obtain ⟨ts,e1,e2⟩:=Option.map_eq_some_iff.mp e
   rw[ih xs ts e1,<- e2]
   rfl
  cases d with
  |tup xs=>exact mp e
  |rol xs=>exact mp e
  |con xs=>exact mp e
  |ref j=>
   change (match M[j]? with | some (.lst xs)=>(Zcd (pyD M f) xs).map .list | none=>none)=some t at e
   show (match M[j]? with | some (.lst xs)=>(Zcd (pyD M (f + 1)) xs).map .list | none=>none)=some t
   cases em:M[j]? with
   |none=>rw[em] at e;cases e
   |some o=>
    cases o with
    |lst xs=>
     rw[em] at e
     exact mp e
  |_=>exact e
noncomputable def Sh (n:Nat) (M:Sto) (k b:Nat) (d:D):Prop:= ∃ t,pyD (M.set n Bad) k d=some t/\t.showable=true/\bdP t<=b
theorem ZlY (k:Ks n M M'): ∀ j o,j≠n->M[j]?=some o->(M'.set n Bad)[j]?=some o:=fun j o h e=>by rw[List.getElem?_set_ne (Ne.symm h)];exact k.off j o h e
theorem Sh.ks {k b:Nat} (h:Sh n M k b d) (s:Ks n M M'):Sh n M' k b d:=let ⟨t,a,c⟩:=h;⟨t,ZlX (ZlY s) k d t a,c⟩
theorem Sh.up {k l b c:Nat} (h:Sh n M k b d) (hk:k<=l) (hb:b<=c):Sh n M l c d:=by
 obtain ⟨t,a,e,f⟩:=h
 refine ⟨t,?_,e,by omega⟩
 obtain ⟨j,rfl⟩: ∃ j,l=k + j:=⟨l - k,by omega⟩
 clear hk
 induction j with
 |zero=>exact a
 |succ j ih=>exact ZoY _ _ _ ih
theorem Zkv {k b:Nat} (hb:4<=b):Sh n M (k + 1) b .non:=⟨.none,rfl,rfl,by rw[bdP];exact hb⟩
theorem ZoZ {k b:Nat} {x:Bool} (hb:5<=b):Sh n M (k + 1) b (.bl x):=⟨.bool x,rfl,rfl,by rw[bdP];exact hb⟩
theorem Zge {k b:Nat} {i:Int} (hi:i.natAbs < 1000000) (hb:22<=b):Sh n M (k + 1) b (.int i):=by
 have l:i.natAbs.log2 < 20:=by
  by_cases z:i.natAbs=0
  ·rw[z];decide
  ·exact (Nat.log2_lt z).mpr (by omega)
 refine ⟨.int i,rfl,?_,by rw[bdP];omega⟩
 rw[PyData.showable,decide_eq_true_eq]
 omega
theorem Zkw {k b:Nat} {x:Str} (hb:(reprText x).length<=b):Sh n M (k + 1) b (.str x):=⟨.str x,rfl,rfl,by rw[bdP];exact hb⟩
theorem ZiH {k b:Nat}: ∀ {xs:List D},(∀ x∈xs,Sh n M k b x)-> ∃ ts,Zcd (pyD (M.set n Bad) k) xs=some ts/\PyData.showableAll ts=true/\Zjh ts<=xs.length * (b + 2)
 | [],_=>⟨[],rfl,by simp[PyData.showableAll],by simp[Zjh]⟩
 |x :: r,h=>by
  obtain ⟨t,a1,a2,a3⟩:=h x (by simp)
  obtain ⟨ts,b1,b2,b3⟩:=ZiH (xs:=r) fun y hy=>h y (by simp[hy])
  refine ⟨t :: ts,by rw[Zcd,a1,b1],by rw[PyData.showableAll,a2,b2];rfl,?_⟩
  rw[Zjh,List.length_cons,Nat.add_mul]
  omega
theorem ZbS {k b c:Nat} {xs:List D} (h: ∀ x∈xs,Sh n M k b x) (hc:3 + xs.length * (b + 2)<=c):Sh n M (k + 1) c (.tup xs):=by
 obtain ⟨ts,a1,a2,a3⟩:=ZiH h
 refine ⟨.tuple ts,?_,by rw[PyData.showable];exact a2,by rw[bdP];omega⟩
 show (Zcd (pyD (M.set n Bad) k) xs).map PyData.tuple=_
 rw[a1]
 rfl
theorem Ze6 {k b c j:Nat} {xs:List D} (hj:M[j]?=some (.lst xs)) (jn:j≠n) (h: ∀ x∈xs,Sh n M k b x) (hc:3 + xs.length * (b + 2)<=c):Sh n M (k + 1) c (.ref j):=by
 obtain ⟨ts,a1,a2,a3⟩:=ZiH h
 refine ⟨.list ts,?_,by rw[PyData.showable];exact a2,by rw[bdP];omega⟩
 show (match (M.set n Bad)[j]? with | some (.lst xs)=>(Zcd (pyD (M.set n Bad) k) xs).map PyData.list | none=>none)=_
 rw[List.getElem?_set_ne (Ne.symm jn),hj]
 show (Zcd (pyD (M.set n Bad) k) xs).map PyData.list=_
 rw[a1]
 rfl
noncomputable def Rp (n:Nat) (M:Sto) (d:D):Prop:= ∃ tx,∀ M',Ks n M M'->bReprA [d] M'= .ok (.str tx) M'
theorem Rp.ks (h:Rp n M d) (k:Ks n M M'):Rp n M' d:=let ⟨tx,f⟩:=h;⟨tx,fun M2 k2=>f M2 (k.trans k2)⟩
theorem Zgf {k:Nat} (hp:ZpF d=true) (h:Sh n M k 100000 d) (hk:k<=8):Rp n M d:=by
 obtain ⟨t,a,e,f⟩:=h.up hk (Nat.le_refl _)
 refine ⟨t.shown,fun M' s=> ?_⟩
 have z:atR d=none:=by cases d<;>first | rfl | cases hp
 have p:=ZlX s.off 8 d t a
 show (match atR d with | some t=>Out.ok (D.str t) M' | none=>bRepr [d] M')=_
 rw[z]
 show (if ZpF d=true then _ else _)=_
 rw[if_pos hp,p]
 show (if _ then _ else _)=_
 rw[if_pos ⟨e,f⟩]
theorem Zo0 {tx:Str} (h:atR d=some tx):Rp n M d:=⟨tx,fun M' _=>by
 show (match atR d with | some t=>Out.ok (D.str t) M' | none=>bRepr [d] M')=_
 rw[h]⟩
noncomputable def Ge (n:Nat) (M:Sto) (d:D):Prop:=(∃ o,El M d o)/\Sh n M 4 300 d
theorem Ge.ks (h:Ge n M d) (k:Ks n M M'):Ge n M' d:=let ⟨⟨o,e⟩,s⟩:=h;⟨⟨o,El.ks k e⟩,s.ks k⟩
noncomputable def NoL (n:Nat) (M:Sto) (d:D):Prop:=(∃ t,ZC M d=some t/\ZbB t "list"=false)\/ ∃ m ds,d= .ref m/\m≠n/\M[m]?=some (.lst ds)/\ds.length < 3
noncomputable def TL (n:Nat) (M:Sto) (d:D):Prop:= ∃ m ds,d= .ref m/\m≠n/\M[m]?=some (.lst ds)/\3<=ds.length/\ds.length<=60/\ ∀ x∈ds,Ge n M x
structure Tg (n:Nat) (M:Sto) (d:D):Prop where
 td:NoL n M d\/TL n M d
 rp:Rp n M d
theorem Tg.ks (h:Tg n M d) (k:Ks n M M'):Tg n M' d:=by
 refine ⟨?_,h.rp.ks k⟩
 rcases h.td with (⟨t,a,b⟩ | ⟨m,ds,e,mn,hm,l⟩) | ⟨m,ds,e,mn,hm,l1,l2,g⟩
 ·exact .inl (.inl ⟨t,ZjM k a,b⟩)
 ·exact .inl (.inr ⟨m,ds,e,mn,k.off m _ mn hm,l⟩)
 ·exact .inr ⟨m,ds,e,mn,k.off m _ mn hm,l1,l2,fun x hx=>(g x hx).ks k⟩
theorem Zei {ds:List D} (h:M[m]?=some (.lst ds)) (mn:m≠n) (hl:ds.length<=60) (hg: ∀ x∈ds,Ge n M x):Tg n M (.ref m):=by
 refine ⟨?_,Zgf (k:=5) rfl (Ze6 h mn (fun x hx=>(hg x hx).2) (by omega)) (by decide)⟩
 by_cases c:ds.length < 3
 ·exact .inl (.inr ⟨m,ds,rfl,mn,h,c⟩)
 ·exact .inr ⟨m,ds,rfl,mn,h,by omega,hl,hg⟩
theorem ZjN {x y:Int} {k b:Nat} (hx:x.natAbs < 1000000) (hy:y.natAbs < 1000000) (hb:51<=b):Sh n M (k + 2) b (pr x y):=
 ZbS (b:=22) (fun z hz=>by simp at hz;rcases hz with rfl | rfl;exact Zge hx (by decide);exact Zge hy (by decide)) (by simpa using hb)
theorem Zfy {p:Pt} (h:Bd 5000 p):Ge n M (pr p.1 p.2):=by
 have h':=h
 unfold Bd at h'
 exact ⟨⟨some p,rfl,h⟩,ZjN (by omega) (by omega) (by decide)⟩
theorem Zo1 {rs:List Pt} (h: ∀ p∈rs,Bd 5000 p): ∀ x∈prs rs,Ge n M x:=fun x hx=>by
 obtain ⟨p,hp,rfl⟩:=List.mem_map.mp hx
 exact Zfy (h p hp)
theorem Zo2 {ds:List D}:(∀ x∈ds,∃ o,El M x o)-> ∃ L,Els M ds L:=by
 induction ds with
 |nil=>intro _;exact ⟨[],rfl,fun i h=>by simp at h⟩
 |cons d r ih=>
  intro h
  obtain ⟨o,e⟩:=h d (by simp)
  obtain ⟨L,l⟩:=ih fun x hx=>h x (by simp[hx])
  refine ⟨o :: L,by rw[List.length_cons,List.length_cons,l.len],fun i h1 h2=> ?_⟩
  cases i with
  |zero=>exact e
  |succ i=>exact l.at' i (by simpa using h1) (by simpa using h2)
end
section
variable {Q:D->Sto->Prop} {E:Str->Sto->Prop} {N B C:Ro->Sto->Prop} {R:D->Sto->Prop} {M M':Sto} {n m:Nat} {rs ss:List Pt} {u v w:Pt} {d:D}
theorem Zkx {f:Pt->Pt->Nat}: ∀ (k:Nat) (j:Int),sf f rs j (k + 1)=sf f rs j k + f (cy rs (j + k)) (cy rs (j + k + 1))
 |0,j=>by simp[sf]
 |k + 1,j=>by
  rw[sf,Zkx k (j + 1),sf]
  rw[show j + 1 + (k:Int)=j + ((k + 1:Nat):Int) by omega]
  omega
theorem ZlZ (ne:rs≠[]) (hx: ∀ i:Nat,i < rs.length->0 < X (cy rs i) (cy rs (i + 1))) (hg: ∀ p∈rs,Int.gcd p.1 p.2=1):Ze9 rs=cyc (in1 (1,0)) rs:=by
 rw[Zf9 ne]
 unfold Ze9
 have: ∀ k:Nat,k<=rs.length->((List.range k).filter fun (i:Nat)=>met (cy rs i) (cy rs (i + 1))).length=sf (in1 (1,0)) rs 0 k:=by
  intro k
  induction k with
  |zero=>intro _;rfl
  |succ k ih=>
   intro hk
   rw[List.range_succ,List.filter_append,List.length_append,ih (by omega),Zkx]
   have:=CG.ZoM (hg _ (Zch (i:=(k:Int)) ne)) (hx k (by omega))
   rw[show (0:Int) + (k:Int)=k by omega,<- this]
   congr 1
   cases c:met (cy rs k) (cy rs (k + 1))<;>simp[List.filter_cons,c]
 exact this _ (Nat.le_refl _)
theorem Zl0 (h:NoL n M d) (q:E CG.NR (M ++ [.lst [.str (PySem.Str.ofString "round"),.int 0]])):wO (CG.F_look_round [d] M) Q E:=by
 rcases h with ⟨t,a,b⟩ | ⟨m,ds,rfl,mn,hm,l⟩
 ·simp![CG.F_look_round,CG.Zab,a,b]
  refine Zcf ?_
  simp![ZeT]
  exact ⟨⟨by decide +kernel,by decide +kernel⟩,q⟩
 ·simp![CG.F_look_round,CG.Zab,CG.ZbR hm,hm]
  refine Zcf ?_
  simp![ZeT]
  exact ⟨⟨by decide +kernel,by decide +kernel⟩,q⟩
theorem ZjO (h:NoL n M d) (q:Q (.tup [.str (PySem.Str.ofString "round"),.int 0]) M):wO (CJ.F_law_fault [d] M) Q E:=by
 rcases h with ⟨t,a,b⟩ | ⟨m,ds,rfl,mn,hm,l⟩
 ·simp![CJ.F_law_fault,CJ.Zap,a,b]
  exact q
 ·simp![CJ.F_law_fault,CJ.Zap,CG.ZbR hm,hm]
  exact q
theorem Zo3 (h:Tg n M d): ∃ r,(∀ {Q:D->Sto->Prop} {E:Str->Sto->Prop},(∀ M',Kp M M'->Q (enc r) M')->wO (CG.F_law_looked [d] M) Q E)/\ ∀ {M':Sto} {Q:D->Sto->Prop} {E:Str->Sto->Prop},Kp M M'->Q (enc r) M'->wO (CJ.F_law_fault [d] M') Q E:=by
 rcases h.td with t | ⟨m,ds,rfl,mn,hm,l1,l2,g⟩
 ·have up: ∀ {M'},Kp M M'->NoL n M' d:=fun K=>by
   rcases t with ⟨t,a,b⟩ | ⟨m,ds,e,mn,hm,l⟩
   ·exact .inl ⟨t,ZjM (n:=n) (Ks.kp K) a,b⟩
   ·exact .inr ⟨m,ds,e,mn,K.get hm,l⟩
  exact ⟨some (PySem.Str.ofString "round",0),fun q=>CG.Zgb (w:=PySem.Str.ofString "round") (i:=0) (fun k=>Zl0 t (k M Kp.refl)) q,fun K q=>ZjO (up K) q⟩
 ·obtain ⟨L,el⟩:=Zo2 fun x hx=>(g x hx).1
  obtain ⟨r,hr⟩:=Res.ex L
  exact ⟨r,fun q=>CJ.Zgd hr hm el (by omega) q,fun K q=>CJ.ZiC hr (K.get hm) (el.up K) (by omega) q⟩
theorem ZiI {xs:List D} {i:Int} (h:0<=i/\i < xs.length): ∃ x,atI xs i=some x/\x∈xs:=by
 refine ⟨xs[i.toNat]'(by omega),?_,List.getElem_mem _⟩
 unfold atI
 rw[Zkg ⟨by omega,h.2⟩,Int.emod_eq_of_lt h.1 h.2]
 exact List.getElem?_eq_getElem _
theorem Zbi (h:Odd M d) (s:Sh n M 4 300 d):Ge n M d:=⟨⟨none,h⟩,s⟩
theorem Zky:Ge n M .non:=Zbi (.inl ⟨_,rfl,rfl⟩) (Zkv (by decide))
theorem Zq9 (hb:Bag n M) (hp:Bd 200 u) (q: ∀ d M',Ge n M' d->Gr n M M'->Q d M'):wO (F_law_odd [.ref n,pr u.1 u.2] M) Q E:=by
 have ln:=hb.lt
 have hp':=hp
 unfold Bd at hp'
 simp![F_law_odd,Ze4]
 generalize hL:[D.non,D.bl true,D.int 1,D.str (Str.ofString "1,0"),D.ref M.length,D.tup [D.int u.1],D.tup [D.int u.1,D.int u.2,D.int 1],D.tup [D.int 0,D.int 0],D.tup [D.int (2 * u.1),D.int (2 * u.2)],D.tup [D.bl true,D.int 0],D.tup [D.int u.1,D.non],D.tup [],D.tup [D.tup [D.int 1,D.int 0],D.int 1],D.tup [D.int (0 - 3 * u.1),D.int (0 - 3 * u.2)],D.tup [D.int u.1,D.ref (M.length + 2)],D.tup [D.str (Str.ofString "1"),D.str (Str.ofString "0")]]=L
 generalize hM1:M ++ _=M1
 have K1:Kp M M1:=hM1 ▸ Kp.app
 have s0:M1[M.length]?=some (.lst [.int u.1,.int u.2]):=by rw[<- hM1,ZgA];rfl
 have s2:M1[M.length + 2]?=some (.lst [.int u.2]):=by rw[<- hM1,Zd4];rfl
 have s4:M1[M.length + 4]?=some (.lst L):=by rw[<- hM1,Zd4];rfl
 have lL:L.length=16:=by rw[<- hL];rfl
 clear hM1
 have i1: ∀ {k b:Nat} {x:Int},x.natAbs < 1000000->22<=b->Sh n M1 (k + 1) b (.int x):=fun h hb=>Zge h hb
 have g: ∀ x∈L,Ge n M1 x:=by
  intro x hx
  rw[<- hL] at hx
  simp only[List.mem_cons,List.not_mem_nil,or_false] at hx
  rcases hx with rfl | rfl | rfl | rfl | rfl | rfl | rfl | rfl | rfl | rfl | rfl | rfl | rfl | rfl | rfl | rfl
  ·exact Zky
  ·exact Zbi (.inl ⟨_,rfl,rfl⟩) (ZoZ (by decide))
  ·exact Zbi (.inl ⟨_,rfl,rfl⟩) (Zge (by decide) (by decide))
  ·exact Zbi (.inl ⟨_,rfl,rfl⟩) (Zkw (by decide +kernel))
  ·exact Zbi (.inl ⟨_,CG.ZbR s0,rfl⟩) (Ze6 (k:=3) (b:=22) s0 (by omega) (fun z hz=>by simp at hz;rcases hz with rfl | rfl<;>exact i1 (by omega) (by decide)) (by simp))
  ·exact Zbi (.inr ⟨_,rfl,.inl (by simp)⟩) (ZbS (k:=3) (b:=22) (fun z hz=>by simp at hz;subst hz;exact i1 (by omega) (by decide)) (by simp))
  ·exact Zbi (.inr ⟨_,rfl,.inl (by simp)⟩) (ZbS (k:=3) (b:=22) (fun z hz=>by simp at hz;rcases hz with rfl | rfl | rfl<;>exact i1 (by omega) (by decide)) (by simp))
  ·exact Zfy (p:=(0,0)) (by unfold Bd;decide)
  ·exact Zfy (p:=(2 * u.1,2 * u.2)) (by unfold Bd;simp only;omega)
  ·exact Zbi (.inr ⟨_,rfl,.inr ⟨_,_,rfl,.inl ⟨_,rfl,.inr rfl⟩⟩⟩) (ZbS (k:=3) (b:=22) (fun z hz=>by simp at hz;rcases hz with rfl | rfl;exact ZoZ (by decide);exact i1 (by decide) (by decide)) (by simp))
  ·exact Zbi (.inr ⟨_,rfl,.inr ⟨_,_,rfl,.inr ⟨⟨_,rfl⟩,_,rfl,.inl rfl⟩⟩⟩) (ZbS (k:=3) (b:=22) (fun z hz=>by simp at hz;rcases hz with rfl | rfl;exact i1 (by omega) (by decide);exact Zkv (by decide)) (by simp))
  ·exact Zbi (.inr ⟨_,rfl,.inl (by simp)⟩) (ZbS (k:=3) (b:=22) (fun z hz=>by simp at hz) (by simp))
  ·exact Zbi (.inr ⟨_,rfl,.inr ⟨_,_,rfl,.inl ⟨_,rfl,.inl rfl⟩⟩⟩) (ZbS (k:=3) (b:=51) (fun z hz=>by simp at hz;rcases hz with rfl | rfl;exact ZjN (by decide) (by decide) (by decide);exact i1 (by decide) (by decide)) (by simp))
  ·exact Zfy (p:=(0 - 3 * u.1,0 - 3 * u.2)) (by unfold Bd;simp only;omega)
  ·exact Zbi (.inr ⟨_,rfl,.inr ⟨_,_,rfl,.inr ⟨⟨_,rfl⟩,_,CG.ZbR s2,.inl rfl⟩⟩⟩) (ZbS (k:=3) (b:=51) (fun z hz=>by simp at hz;rcases hz with rfl | rfl;exact i1 (by omega) (by decide);exact Ze6 (k:=2) (b:=22) s2 (by omega) (fun y hy=>by simp at hy;subst hy;exact i1 (by omega) (by decide)) (by simp)) (by simp))
  ·exact Zbi (.inr ⟨_,rfl,.inr ⟨_,_,rfl,.inl ⟨_,rfl,.inl rfl⟩⟩⟩) (ZbS (k:=3) (b:=22) (fun z hz=>by simp at hz;rcases hz with rfl | rfl<;>exact Zkw (by decide +kernel)) (by simp))
 clear hL
 refine CA.ZG (K1.bag hb) (by decide) fun r M2 r0 r1 G2=> ?_
 have s5:=CA.Gr.up s4 G2 (by omega)
 obtain ⟨x,ex,mx⟩:=ZiI (xs:=L) (i:=r) (by omega)
 simp![s5,ex]
 exact q x M2 ((g x mx).ks (Ks.gr G2)) ((K1.gr hb).trans G2)
theorem Zdo {rs:List Pt} (h: ∀ p∈rs,Bd 200 p): ∀ x∈prs rs,Ge n M x:=Zo1 fun p hp=>by have:=h p hp;unfold Bd at *;omega
theorem Zgg {rs:List Pt} (h:M[m]?=some (.lst (prs rs))) (mn:m≠n) (hl:rs.length<=60) (hb: ∀ p∈rs,Bd 200 p):Tg n M (.ref m):=Zei h mn (by rw[Zv];exact hl) (Zdo hb)
theorem Zl1 {tx:Str} {t:String} (h:atR d=some tx) (a:ZC M d=some t) (b:ZbB t "list"=false):Tg n M d:=⟨.inl (.inl ⟨t,a,b⟩),Zo0 h⟩
theorem Zo4 (hb:Bag n M) (h:M[m]?=some (.lst (prs rs))) (mn:m≠n) (hl:3<=rs.length/\rs.length<=14) (hr: ∀ p∈rs,Bd 200 p) (q: ∀ d M',Tg n M' d->Gr n M M'->Q d M'):wO (F_law_bent [.ref n,.ref m] M) Q E:=by
 have ne:rs≠[]:=by intro z;rw[z] at hl;simp at hl
 simp![F_law_bent,ZdG,h]
 refine CA.ZG hb (by omega) fun t M1 t0 t1 G1=> ?_
 obtain ⟨a,rfl⟩: ∃ a:Nat,t=a:=⟨t.toNat,by omega⟩
 simp![Zm]
 refine CA.ZG G1.bag (by decide) fun w M2 w0 w1 G2=> ?_
 have h2:M2[m]?=some (.lst (prs rs)):=CA.Gr.up (CA.Gr.up h G1 mn) G2 mn
 have G:=G1.trans G2
 have lm:=Zaa h2
 have bg:=G2.bag
 have ln:=bg.lt
 have fin: ∀ {L:Sto},Gr n M (M2 ++ L):=fun {L}=>G.trans (Gr.app bg L)
 have take: ∀ {k:Nat},∀ p∈rs.take k,Bd 200 p:=fun p hp=>hr p (List.mem_of_mem_take hp)
 have drop: ∀ {k:Nat},∀ p∈rs.drop k,Bd 200 p:=fun p hp=>hr p (List.mem_of_mem_drop hp)
 have app: ∀ {x y:List Pt},(∀ p∈x,Bd 200 p)->(∀ p∈y,Bd 200 p)-> ∀ p∈x ++ y,Bd 200 p:=fun hx hy p hp=>by
  rcases List.mem_append.mp hp with hp | hp
  ·exact hx p hp
  ·exact hy p hp
 have one: ∀ {u:Pt} {y:List Pt},Bd 200 u->(∀ p∈y,Bd 200 p)-> ∀ p∈u :: y,Bd 200 p:=fun hx hy p hp=>by
  rcases List.mem_cons.mp hp with rfl | hp
  ·exact hx
  ·exact hy p hp
 have ca:cy rs a∈rs:=Zch ne
 have e1:((a:Int) + 1).toNat=a + 1:=by omega
 have e2:((a:Int) + 2).toNat=a + 2:=by omega
 have e0:((a:Int)).toNat=a:=by omega
 have tgl: ∀ {L:Sto} {ds:List D} {k:Nat},L[k]?=some (.lst ds)->ds.length<=60->(∀ x∈ds,Ge n (M2 ++ L) x)->Tg n (M2 ++ L) (.ref (M2.length + k)):=fun {L ds k} e l g=>Zei (by rw[Zd4];exact e) (by omega) l g
 have lt: ∀ k,(rs.take k).length<=14:=fun k=>by rw[List.length_take];omega
 have ld: ∀ k,(rs.drop k).length<=14:=fun k=>by rw[List.length_drop];omega
 have cb:=hr _ ca
 simp![Zm]
 refine brS (fun z=> ?_) (fun z=> ?_)
 ·simp![h2]
  refine ⟨by omega,?_⟩
  exact q _ _ (Zgg (rs:=rs ++ rs) (by simp) (by omega) (by rw[List.length_append];omega) (app hr hr)) fin
 simp![Zm]
 refine brS (fun z=> ?_) (fun z=> ?_)
 ·simp![CU.Ztu h2,h2,Zbu]
  generalize hL:[D.non,D.tup (prs rs),D.ref (List.length M2),D.ref (List.length M2 + 1),D.ref (List.length M2 + 2),D.str (Str.ofString "1,0 0,1 -1,-1"),D.int 3,D.bl true,D.ref (List.length M2 + 3),pr (cy rs 0).fst (cy rs 0).snd]=L
  generalize hM3:M2 ++ _=M3
  have K1:Kp M2 M3:=hM3 ▸ Kp.app
  have s0:M3[M2.length]?=some (.lst (prs (rs.take 2))):=by rw[<- hM3,ZgA];rfl
  have s1:M3[M2.length + 1]?=some (.lst (prs (rs.take 1))):=by rw[<- hM3,Zd4];rfl
  have s2:M3[M2.length + 2]?=some (.lst (prs [])):=by rw[<- hM3,Zd4];rfl
  have s3:M3[M2.length + 3]?=some (.lst [.ref m]):=by rw[<- hM3,Zd4];rfl
  have s4:M3[M2.length + 4]?=some (.lst L):=by rw[<- hM3,Zd4];rfl
  have lL:L.length=10:=by rw[<- hL];rfl
  clear hM3
  have shp: ∀ {k:Nat},∀ x∈prs rs,Sh n M3 (k + 2) 51 x:=fun {k} x hx=>by
   obtain ⟨p,hp,rfl⟩:=List.mem_map.mp hx
   have:=hr p hp
   unfold Bd at this
   exact ZjN (by omega) (by omega) (by decide)
  have g: ∀ x∈L,Tg n M3 x:=by
   intro x hx
   rw[<- hL] at hx
   simp only[List.mem_cons,List.not_mem_nil,or_false] at hx
   rcases hx with rfl | rfl | rfl | rfl | rfl | rfl | rfl | rfl | rfl | rfl
   ·exact Zl1 (t:="NoneType") rfl rfl rfl
   ·exact ⟨.inl (.inl ⟨_,rfl,rfl⟩),Zgf (k:=3) rfl (ZbS (b:=51) shp (by rw[Zv];omega)) (by decide)⟩
   ·exact Zgg s0 (by omega) (by rw[List.length_take];omega) take
   ·exact Zgg s1 (by omega) (by rw[List.length_take];omega) take
   ·exact Zgg s2 (by omega) (by simp) (by simp)
   ·exact ⟨.inl (.inl ⟨_,rfl,rfl⟩),Zo0 (tx:=reprText (Str.ofString "1,0 0,1 -1,-1")) (by show (if _ then _ else _)=_;rw[if_pos (by decide +kernel)])⟩
   ·exact Zl1 (t:="int") rfl rfl rfl
   ·exact Zl1 (t:="bool") rfl rfl rfl
   ·refine ⟨.inl (.inr ⟨_,_,rfl,by omega,s3,by simp⟩),Zgf (k:=4) rfl (Ze6 (k:=3) (b:=800) s3 (by omega) (fun z hz=> ?_) (by simp)) (by decide)⟩
    simp at hz
    subst hz
    exact Ze6 (k:=2) (b:=51) (K1.get h2) mn shp (by rw[Zv];omega)
   ·have:=hr _ (Zch (i:=0) ne)
    unfold Bd at this
    exact ⟨.inl (.inl ⟨_,rfl,rfl⟩),Zgf (k:=2) rfl (ZjN (by omega) (by omega) (by decide)) (by decide)⟩
  refine CA.ZG (K1.bag bg) (by decide) fun r M4 r0 r1 G4=> ?_
  obtain ⟨x,ex,mx⟩:=ZiI (xs:=L) (i:=r) (by omega)
  simp![CA.Gr.up s4 G4 (by omega),ex]
  exact q x M4 ((g x mx).ks (Ks.gr G4)) (G.trans ((K1.gr bg).trans G4))
 simp![Zm]
 refine brS (fun z=> ?_) (fun z=> ?_)
 ·simp![h2,Zbu,e0,e1]
  have bg3:Bag n (M2 ++ [SO.lst (prs (List.take a rs))]):=(Gr.app bg _).bag
  refine Zq9 bg3 cb fun d M3 hd G3=> ?_
  have f0:M3[M2.length]?=some (.lst (prs (rs.take a))):=CA.Gr.up (by simp) G3 (by omega)
  have f1:M3[m]?=some (.lst (prs rs)):=CA.Gr.up (by rw[List.getElem?_append_left lm];exact h2) G3 mn
  have lm3:=Zaa f1
  have l03:=Zaa f0
  have ln3:=G3.bag.lt
  simp![f0,f1,e0,e1]
  have:=lt a
  have:=ld (a + 1)
  refine ⟨by omega,by omega,q _ _ (Zei (ds:=prs (List.take a rs) ++ d :: prs (List.drop (a + 1) rs)) (by rw[Zd4];rfl) (by omega) (by simp only[Zv,List.length_append,List.length_cons];omega) fun x hx=> ?_) (fin.trans (G3.trans (Gr.app G3.bag _)))⟩
  rcases List.mem_append.mp hx with hx | hx
  ·exact Zdo take x hx
  rcases List.mem_cons.mp hx with rfl | hx
  ·exact hd.ks (Ks.kp Kp.app)
  ·exact Zdo drop x hx
 simp![Zm]
 refine brS (fun z=> ?_) (fun z=> ?_)
 ·simp![h2,Zbu,e0,e1]
  have:=lt a
  have:=ld a
  refine ⟨by omega,by omega,q _ _ (tgl (k:=4) rfl (by simp only[Zv,List.length_append,List.length_cons];omega) (Zdo (app take (one cb drop)))) fin⟩
 simp![Zm]
 refine brS (fun z=> ?_) (fun z=> ?_)
 ·simp![h2,Zbu,e0,e1]
  have:=lt a
  have:=ld (a + 1)
  have cn:Bd 200 (0 - (cy rs a).1,0 - (cy rs a).2):=by unfold Bd at cb ⊢;simp only;omega
  refine ⟨by omega,by omega,q _ _ (tgl (k:=4) rfl (by simp only[Zv,List.length_append,List.length_cons];omega) (Zdo (app take (one cn drop)))) fin⟩
 simp![Zm]
 refine brS (fun z=> ?_) (fun z=> ?_)
 ·simp![h2,Zbu,e0,e1,e2]
  have:=lt a
  have:=ld (a + 2)
  have lc:(Zej (prs rs) (some (a:Int)) (some ((a:Int) + 2))).reverse.length<=14:=by
   rw[List.length_reverse]
   unfold Zej
   rw[List.length_take,List.length_drop,Zv]
   omega
  have gc: ∀ {M:Sto},∀ x∈(Zej (prs rs) (some (a:Int)) (some ((a:Int) + 2))).reverse,Ge n M x:=fun x hx=>Zdo hr x (List.mem_of_mem_drop (List.mem_of_mem_take (List.mem_reverse.mp hx)))
  refine ⟨by omega,by omega,q _ _ (tgl (k:=5) rfl (by simp only[Zv,List.length_append];omega) fun x hx=> ?_) fin⟩
  rcases List.mem_append.mp hx with hx | hx
  ·exact gc x hx
  ·exact Zdo (app take drop) x hx
 simp![Zm]
 refine brS (fun z=> ?_) (fun z=> ?_)
 ·simp![h2]
  exact q _ _ (tgl (k:=0) rfl (by rw[List.length_reverse,Zv];omega) fun x hx=>Zdo hr x (List.mem_reverse.mp hx)) fin
 simp![Zm]
 refine brS (fun z=> ?_) (fun z=> ?_)
 ·simp![h2,e0,e2]
  have:=lt a
  have:=ld (a + 2)
  exact ⟨by omega,q _ _ (tgl (k:=2) rfl (by simp only[Zv,List.length_append];omega) (Zdo (app take drop))) fin⟩
 simp![Zm]
 refine brS (fun z=> ?_) (fun z=> ?_)
 ·simp![h2,e0,e1]
  have:=lt a
  have:=ld (a + 1)
  exact ⟨by omega,q _ _ (tgl (k:=2) rfl (by simp only[Zv,List.length_append];omega) (Zdo (app take drop))) fin⟩
 simp![h2,e0]
 have:=lt a
 have:=ld a
 exact ⟨by omega,q _ _ (tgl (k:=2) rfl (by simp only[Zv,List.length_append];omega) (Zdo (app drop take))) fin⟩
theorem Zl2 (hb:Bag n M) (h:Tg n M d) (q: ∀ d M',Tg n M' d->Gr n M M'->Q d M'):wO (F_law_again [.ref n,d] M) Q E:=by
 rcases h.td with (⟨t,a,b⟩ | ⟨m,ds,rfl,mn,hm,l⟩) | ⟨m,ds,rfl,mn,hm,l1,l2,g⟩
 ·simp![F_law_again,Zbs,a,b]
  exact q _ _ h (Gr.refl hb)
 ·simp![F_law_again,Zbs,CG.ZbR hm,hm]
  exact q _ _ h (Gr.refl hb)
 ·simp![F_law_again,Zbs,CG.ZbR hm,hm]
  refine CA.ZG hb (by omega) fun t M1 t0 t1 G1=> ?_
  have h1:=CA.Gr.up hm G1 mn
  have l3:=Zaa h1
  have g1: ∀ x∈ds,Ge n M1 x:=fun x hx=>(g x hx).ks (Ks.gr G1)
  obtain ⟨a,rfl⟩: ∃ a:Nat,t=a:=⟨t.toNat,by omega⟩
  have e1:((a:Int) + 1).toNat=a + 1:=by omega
  simp![h1]
  generalize hL:[D.non,D.tup [D.int 2,D.int 0],D.tup [D.int 1,D.int 0],D.tup [D.int 0,D.int 1]]=L
  generalize hM2:M1 ++ _=M2
  have K1:Kp M1 M2:=hM2 ▸ Kp.app
  have ln1:=G1.bag.lt
  have s0:M2[M1.length]?=some (.lst (ds.take a)):=by rw[<- hM2,ZgA];rfl
  have s1:M2[M1.length + 1]?=some (.lst L):=by rw[<- hM2,Zd4];rfl
  have s2:=K1.get h1
  have lL:L.length=4:=by rw[<- hL];rfl
  clear hM2
  have gL: ∀ {M':Sto},∀ x∈L,Ge n M' x:=by
   intro M' x hx
   rw[<- hL] at hx
   simp only[List.mem_cons,List.not_mem_nil,or_false] at hx
   rcases hx with rfl | rfl | rfl | rfl
   ·exact Zky
   ·exact Zfy (p:=(2,0)) (by unfold Bd;decide)
   ·exact Zfy (p:=(1,0)) (by unfold Bd;decide)
   ·exact Zfy (p:=(0,1)) (by unfold Bd;decide)
  refine CA.ZG (K1.bag G1.bag) (by decide) fun r M3 r0 r1 G3=> ?_
  obtain ⟨x,ex,mx⟩:=ZiI (xs:=L) (i:=r) (by omega)
  have u0:=CA.Gr.up s0 G3 (by omega)
  have u1:=CA.Gr.up s1 G3 (by omega)
  have u2:=CA.Gr.up s2 G3 mn
  have l0:=Zaa u0
  have l2:=Zaa u2
  have g3: ∀ x∈ds,Ge n M3 x:=fun x hx=>(g1 x hx).ks ((Ks.kp K1).trans (Ks.gr G3))
  have ln3:=G3.bag.lt
  simp![u1,ex,u0,u2,e1]
  have:=List.length_take (i:=a) (l:=ds)
  have:=List.length_drop (i:=a + 1) (l:=ds)
  refine ⟨by omega,by omega,q _ _ (Zei (ds:=List.take a ds ++ x :: List.drop (a + 1) ds) (by rw[Zd4];rfl) (by omega) (by simp only[List.length_append,List.length_cons];omega) fun y hy=> ?_) (G1.trans ((K1.gr G1.bag).trans (G3.trans (Gr.app G3.bag _))))⟩
  have up: ∀ y∈ds,Ge n (M3 ++ [SO.lst [x],SO.lst (List.take a ds ++ [x]),SO.lst (List.drop (a + 1) ds),SO.lst (List.take a ds ++ x :: List.drop (a + 1) ds)]) y:=fun y hy=>(g3 y hy).ks (Ks.kp Kp.app)
  rcases List.mem_append.mp hy with hy | hy
  ·exact up y (List.mem_of_mem_take hy)
  rcases List.mem_cons.mp hy with rfl | hy
  ·exact gL _ mx
  ·exact up y (List.mem_of_mem_drop hy)
theorem Zkz (h:Rn rs):Res (rs.map some) none:=by
 refine .fine h.gc (fun i _=>h.pos i) ?_
 rw[ZlZ h.ne (fun i _=>h.pos i) h.gc,(h.fan (1,0) (by decide)).1]
 exact Nat.le_refl _
theorem ZkA (hb:Nr 200 rs):Els M (prs rs) (rs.map some):=by
 refine ⟨by rw[Zv,List.length_map],fun i h1 h2=> ?_⟩
 have hi:i < rs.length:=by rw[Zv] at h1;exact h1
 have:=hb _ (List.getElem_mem hi)
 simp only[prs,List.getElem_map]
 exact ⟨rfl,by unfold Bd;omega⟩
theorem Zra (hb:Nr 200 rs): ∀ p∈rs,Bd 200 p:=fun p hp=>by
 have:=hb p hp
 unfold Bd
 omega
theorem Zo5 {x0 x1 x4 x5 x6:Option D} (hb:Bag n M) (h:M[m]?=some (.lst (prs rs))) (mn:m≠n) (hl:3<=rs.length/\rs.length<=14) (hr: ∀ p∈rs,Bd 200 p) (hN: ∀ x5 x6 M',Bag n M'->M'[m]?=some (.lst (prs rs))->N [x0,x1,some (.ref n),some (.ref m),x4,x5,x6] M'):
  wS (Zeg [x0,x1,some (.ref n),some (.ref m),x4,x5,x6] M) N R B C E:=by
 simp![Zeg]
 refine Zo4 hb h mn hl hr fun d M1 hd G1=> ?_
 have h1:=CA.Gr.up h G1 mn
 simp![Zm]
 refine CA.ZG G1.bag (by decide) fun r M2 r0 r1 G2=> ?_
 have h2:=CA.Gr.up h1 G2 mn
 have hd2:=hd.ks (Ks.gr G2)
 simp![Zm]
 refine Zru (fun ρ M'=>Bag n M'/\M'[m]?=some (.lst (prs rs))/\ ∃ d,Tg n M' d/\ρ=[x0,x1,some (.ref n),some (.ref m),x4,some d,x6]) ?_ ?_
 ·refine brS (fun z=> ?_) (fun z=> ?_)
  ·simp![Zm]
   refine Zl2 G2.bag hd2 fun d M3 hd3 G3=> ?_
   simp![Zm]
   exact ⟨G3.bag,CA.Gr.up h2 G3 mn,d,hd3,rfl⟩
  ·simp![Zm]
   exact ⟨G2.bag,h2,d,hd2,rfl⟩
 rintro _ M3 ⟨bg3,h3,d,hd3,rfl⟩
 obtain ⟨tx,rp⟩:=hd3.rp
 obtain ⟨r,fl,ff⟩:=Zo3 hd3
 simp![rp M3 Ks.refl]
 refine fl fun M4 K4=> ?_
 simp![Zm]
 refine ff K4 ?_
 have qs:eqF 12 M4 (.str tx) (.str tx)=some true:=by rw[ZoI];simp
 simp![CJ.ZoR,rp M4 (Ks.kp K4),qs]
 exact hN _ _ _ (K4.bag bg3) (K4.get h3)
theorem Zo6 {ns:List Int} {k:Nat} {x2 x3 x4 x5 x6:Option D} (hk:k < 1000) (hN: ∀ x2 x3 x4 x5 x6 M',N [some (.rol (ns.map D.int)),some (.int k),x2,x3,x4,x5,x6] M'):
  wS (Zeh [some (.rol (ns.map D.int)),some (.int k),x2,x3,x4,x5,x6] M) N R B C E:=by
 simp![Zeh]
 refine CA.ZqY hk fun a b ha=> ?_
 have B0:Bag M.length (M ++ [.lst [.int a,.int b]]):=⟨a,b,ha,by simp⟩
 generalize M ++ [SO.lst [.int a,.int b]]=M0 at *
 generalize M.length=n at *
 have ln0:=B0.lt
 simp![Zm]
 refine CA.Zf8 B0 fun ss o M1 sm sb sl lo s1 G1=> ?_
 have ln1:=G1.bag.lt
 simp![Zm]
 refine CZ.Zq5 G1.bag fun os p M2 r2 b2 l2 l3 lp s2 G2=> ?_
 have u1:=CA.Gr.up s1 G2 (by omega)
 simp![Zm]
 refine CA.ZG (G2.bag.app _) (by decide) fun r M3 r0 r1 G3=> ?_
 have v0:=Gr.new G2.bag G3
 have v1:=CA.Gr.up (CA.Gr.up u1 (Gr.app G2.bag _) (by omega)) G3 (by omega)
 have v2:=CA.Gr.up (CA.Gr.up s2 (Gr.app G2.bag _) (by omega)) G3 (by omega)
 have: ∃ m rs,Rn rs/\Nr 200 rs/\rs.length<=14/\m≠n/\M3[m]?=some (.lst (prs rs))/\atI [D.ref o,D.ref p] r=some (D.ref m):=by
  rcases (by omega:r=0\/r=1) with rfl | rfl
  ·exact ⟨o,ss,sm.rn,sb,sl,by omega,v1,rfl⟩
  ·exact ⟨p,os,r2,b2,l3,by omega,v2,rfl⟩
 obtain ⟨m,rs,rr,rb,rl,mn,v3,em⟩:=this
 have rl3:=rr.len
 simp![v0,em]
 refine CJ.ZiC (Zkz rr) v3 (ZkA rb) (by rw[Zv];omega) ?_
 have lm3:=Zaa v3
 simp![v3,enc]
 refine CJ.Zgd (Zkz rr) (m:=M3.length) (by simp) (ZkA rb) (by rw[Zv];omega) fun M4 K4=> ?_
 simp![enc]
 refine ZcE (fun _ ρ M'=> ∃ x4 x5 x6,ρ=[some (.rol (ns.map D.int)),some (.int k),some (.ref n),some (.ref m),x4,x5,x6]/\Bag n M'/\M'[m]?=some (.lst (prs rs))) ⟨_,_,_,rfl,K4.bag (G3.bag.app _),K4.get (by rw[ZbP lm3];exact v3)⟩ ?_ ?_
 ·rintro i ρ M5 hi ⟨x4,x5,x6,rfl,bg,v⟩
  simp![Zm]
  exact Zo5 bg v mn (by omega) (Zra rb) fun x5 x6 M' a b=>⟨_,_,_,rfl,a,b⟩
 ·rintro ρ M5 ⟨x4,x5,x6,rfl,bg,v⟩
  exact hN _ _ _ _ _ _
theorem law_true (ns:List Int) (h:ns.length<=63): ∃ M',Zfv [.rol (ns.map D.int)] []= .ok (.bl true) M':=by
 have w:wO (Zfv [.rol (ns.map D.int)] []) (fun d _=>d= .bl true) (fun _ _=>False):=by
  simp![Zfv,ZoV]
  refine ⟨by omega,?_⟩
  refine ZcE (fun _ ρ _=> ∃ x1 x2 x3 x4 x5 x6,ρ=[some (.rol (ns.map D.int)),x1,x2,x3,x4,x5,x6]) ⟨_,_,_,_,_,_,rfl⟩ ?_ ?_
  ·rintro i ρ M hi ⟨x1,x2,x3,x4,x5,x6,rfl⟩
   rw[show (0:Int) + (i:Int)=i by omega]
   simp![Zm]
   exact Zo6 (by omega) fun _ _ _ _ _ _=>⟨_,_,_,_,_,_,rfl⟩
  ·rintro ρ M ⟨x1,x2,x3,x4,x5,x6,rfl⟩
   simp![Zm]
 obtain ⟨d,M',e,rfl⟩:=Znz w
 exact ⟨M',e⟩
end
end K06
end
namespace K06
open PySem PySem.Spec L2 DL
noncomputable abbrev zz1 (P:Params) (s:String) (n:Nat) (v:Value):DictEntry:={ hash:=PyData.keyHash P (Str.ofString s),key:=Value.str (Str.ofString s) n,val:=v }
noncomputable abbrev zz2 (x:Array Value):Obj:={ cls:=Value.type "code",data:=Data.fields x }
noncomputable abbrev zz3 (s:String) (n:Nat):Value:=Value.str (Str.ofString s) n
noncomputable abbrev zz4 (n:Int):Value:=Value.int n 0
noncomputable def fO (n:Str) (st:Stmt) (cd:Nat) (m:Str) (t:Nat):Obj:=⟨.type "function",none,.func (PySem.W.fnOf n n (Zu st) (Zq st) (Zg st) .none .none .none (.str m t) none (.ref cd) .none),#[]⟩
noncomputable def Zbv (p:Program) (i:Nat):Stmt:=p.main.body.getD i (.Pass ⟨0,0,0,0⟩)
noncomputable def Kf (p:Program) (P:Params):PySem.W.Frag:=[(3,{ cls:=Value.type "dict",data:=Data.dict #[zz1 P "__name__" 165 (zz3 "law_rayround_k06_rounds_of_any_thing" 532),zz1 P "__doc__" 166 (Value.none),zz1 P "__package__" 167 (Value.none),zz1 P "__loader__" 168 (Value.builtin "__main__.__loader__#opaque"),zz1 P "__spec__" 169 (Value.none),zz1 P "__annotations__" 170 (Value.ref 6),zz1 P "__builtins__" 171 (Value.ref 4),zz1 P "__file__" 173 (zz3 "/claim/cut.py" 172),zz1 P "__cached__" 174 (Value.none),zz1 P "RayError" 206 (Value.ref 24),zz1 P "NoRatio" 222 (Value.ref 37),zz1 P "NoTurning" 238 (Value.ref 49),zz1 P "NoRound" 265 (Value.ref 68),zz1 P "NotSmooth" 281 (Value.ref 80),zz1 P "NoWedge" 297 (Value.ref 92),zz1 P "NoRow" 313 (Value.ref 104),zz1 P "NoPlace" 329 (Value.ref 116),zz1 P "NoMinus" 345 (Value.ref 128),zz1 P "NoFour" 361 (Value.ref 140),zz1 P "NoHeight" 377 (Value.ref 152),zz1 P "NoBend" 393 (Value.ref 164),zz1 P "NoBody" 409 (Value.ref 176),zz1 P "NoOne" 425 (Value.ref 188),zz1 P "NoText" 441 (Value.ref 200),zz1 P "Unknown" 457 (Value.ref 212),zz1 P "is_whole" 466 (Value.ref 221),zz1 P "greatest_divisor" 476 (Value.ref 228),zz1 P "is_pair" 485 (Value.ref 235),zz1 P "crossed" 493 (Value.ref 242),zz1 P "common" 500 (Value.ref 249),zz1 P "is_ray" 507 (Value.ref 256),zz1 P "following" 517 (Value.ref 263),zz1 P "met_direction" 525 (Value.ref 270),zz1 P "look_round" 531 (Value.ref 275),zz1 P "_law_bag" 543 (Value.ref 282),zz1 P "_law_digit" 552 (Value.ref 289),zz1 P "_law_led" 562 (Value.ref 296),zz1 P "_law_both" 572 (Value.ref 303),zz1 P "_law_turning" 583 (Value.ref 310),zz1 P "_law_cross" 591 (Value.ref 317),zz1 P "_law_sum" 599 (Value.ref 324),zz1 P "_law_near" 606 (Value.ref 331),zz1 P "_law_brought" 612 (Value.ref 336),zz1 P "_law_smooth" 625 (Value.ref 343),zz1 P "_law_straight" 634 (Value.ref 350),zz1 P "_law_put" 644 (Value.ref 357),zz1 P "_law_any" 657 (Value.ref 364),zz1 P "_law_whole" 664 (Value.ref 371),zz1 P "_law_classes" 670 (Value.ref 376),zz1 P "_law_is_ray" 677 (Value.ref 383),zz1 P "_law_has_east" 685 (Value.ref 390),zz1 P "_law_fault" 695 (Value.ref 397),zz1 P "_law_looked" 704 (Value.ref 404),zz1 P "_law_odd" 715 (Value.ref 411),zz1 P "_law_bent" 726 (Value.ref 418),zz1 P "_law_again" 735 (Value.ref 425),zz1 P "law" 748 (Value.ref 432)] 57 }),
 (221,fO "is_whole" (Zbv p 18) 220 "rayround.wholes" 458),
 (220,zz2 #[zz3 "is_whole" 460,zz3 "is_whole" 461,zz3 "/claim/cut.py" 462,zz4 39,zz4 1,zz4 0,zz4 0,zz4 3,Value.ref 215,Value.bool true,zz4 181,Value.ref 216,Value.none,Value.ref 217,Value.ref 218,Value.ref 219,zz4 464,zz4 39,zz3 "/claim/cut.py" 465]),
 (228,fO "greatest_divisor" (Zbv p 19) 227 "rayround.wholes" 458),
 (227,zz2 #[zz3 "greatest_divisor" 467,zz3 "greatest_divisor" 468,zz3 "/claim/cut.py" 469,zz4 41,zz4 2,zz4 0,zz4 0,zz4 3,Value.ref 222,Value.bool true,zz4 181,Value.ref 223,Value.none,Value.ref 224,Value.ref 225,Value.ref 226,zz4 474,zz4 41,zz3 "/claim/cut.py" 475]),
 (235,fO "is_pair" (Zbv p 21) 234 "rayround.pairs" 477),
 (234,zz2 #[zz3 "is_pair" 479,zz3 "is_pair" 480,zz3 "/claim/cut.py" 481,zz4 47,zz4 1,zz4 0,zz4 0,zz4 3,Value.ref 229,Value.bool true,zz4 181,Value.ref 230,Value.none,Value.ref 231,Value.ref 232,Value.ref 233,zz4 483,zz4 47,zz3 "/claim/cut.py" 484]),
 (242,fO "crossed" (Zbv p 22) 241 "rayround.pairs" 477),
 (241,zz2 #[zz3 "crossed" 486,zz3 "crossed" 487,zz3 "/claim/cut.py" 488,zz4 49,zz4 2,zz4 0,zz4 0,zz4 3,Value.ref 236,Value.bool true,zz4 181,Value.ref 237,Value.none,Value.ref 238,Value.ref 239,Value.ref 240,zz4 491,zz4 49,zz3 "/claim/cut.py" 492]),
 (249,fO "common" (Zbv p 23) 248 "rayround.pairs" 477),
 (248,zz2 #[zz3 "common" 494,zz3 "common" 495,zz3 "/claim/cut.py" 496,zz4 51,zz4 1,zz4 0,zz4 0,zz4 3,Value.ref 243,Value.bool true,zz4 181,Value.ref 244,Value.none,Value.ref 245,Value.ref 246,Value.ref 247,zz4 498,zz4 51,zz3 "/claim/cut.py" 499]),
 (256,fO "is_ray" (Zbv p 24) 255 "rayround.pairs" 477),
 (255,zz2 #[zz3 "is_ray" 501,zz3 "is_ray" 502,zz3 "/claim/cut.py" 503,zz4 53,zz4 1,zz4 0,zz4 0,zz4 3,Value.ref 250,Value.bool true,zz4 181,Value.ref 251,Value.none,Value.ref 252,Value.ref 253,Value.ref 254,zz4 505,zz4 53,zz3 "/claim/cut.py" 506]),
 (263,fO "following" (Zbv p 26) 262 "rayround.rounds" 508),
 (262,zz2 #[zz3 "following" 510,zz3 "following" 511,zz3 "/claim/cut.py" 512,zz4 56,zz4 2,zz4 0,zz4 0,zz4 3,Value.ref 257,Value.bool true,zz4 181,Value.ref 258,Value.none,Value.ref 259,Value.ref 260,Value.ref 261,zz4 515,zz4 56,zz3 "/claim/cut.py" 516]),
 (270,fO "met_direction" (Zbv p 27) 269 "rayround.rounds" 508),
 (269,zz2 #[zz3 "met_direction" 518,zz3 "met_direction" 519,zz3 "/claim/cut.py" 520,zz4 58,zz4 2,zz4 0,zz4 0,zz4 3,Value.ref 264,Value.bool true,zz4 181,Value.ref 265,Value.none,Value.ref 266,Value.ref 267,Value.ref 268,zz4 523,zz4 58,zz3 "/claim/cut.py" 524]),
 (275,fO "look_round" (Zbv p 28) 274 "rayround.rounds" 508),
 (274,zz2 #[zz3 "look_round" 526,zz3 "look_round" 527,zz3 "/claim/cut.py" 528,zz4 60,zz4 1,zz4 0,zz4 0,zz4 3,Value.ref 271,Value.bool true,zz4 181,Value.ref 272,Value.none,Value.none,Value.none,Value.ref 273,zz4 529,zz4 60,zz3 "/claim/cut.py" 530]),
 (282,fO "_law_bag" (Zbv p 30) 281 "law_rayround_k06_rounds_of_any_thing" 532),
 (281,zz2 #[zz3 "_law_bag" 534,zz3 "_law_bag" 535,zz3 "/claim/cut.py" 536,zz4 72,zz4 2,zz4 0,zz4 0,zz4 3,Value.ref 276,Value.bool true,zz4 181,Value.ref 277,Value.none,Value.ref 278,Value.ref 279,Value.ref 280,zz4 541,zz4 72,zz3 "/claim/cut.py" 542]),
 (289,fO "_law_digit" (Zbv p 31) 288 "law_rayround_k06_rounds_of_any_thing" 532),
 (288,zz2 #[zz3 "_law_digit" 544,zz3 "_law_digit" 545,zz3 "/claim/cut.py" 546,zz4 78,zz4 2,zz4 0,zz4 0,zz4 3,Value.ref 283,Value.bool true,zz4 181,Value.ref 284,Value.none,Value.ref 285,Value.ref 286,Value.ref 287,zz4 550,zz4 78,zz3 "/claim/cut.py" 551]),
 (296,fO "_law_led" (Zbv p 32) 295 "law_rayround_k06_rounds_of_any_thing" 532),
 (295,zz2 #[zz3 "_law_led" 553,zz3 "_law_led" 554,zz3 "/claim/cut.py" 555,zz4 85,zz4 2,zz4 0,zz4 0,zz4 3,Value.ref 290,Value.bool true,zz4 181,Value.ref 291,Value.none,Value.ref 292,Value.ref 293,Value.ref 294,zz4 560,zz4 85,zz3 "/claim/cut.py" 561]),
 (303,fO "_law_both" (Zbv p 33) 302 "law_rayround_k06_rounds_of_any_thing" 532),
 (302,zz2 #[zz3 "_law_both" 563,zz3 "_law_both" 564,zz3 "/claim/cut.py" 565,zz4 88,zz4 2,zz4 0,zz4 0,zz4 3,Value.ref 297,Value.bool true,zz4 181,Value.ref 298,Value.none,Value.ref 299,Value.ref 300,Value.ref 301,zz4 570,zz4 88,zz3 "/claim/cut.py" 571]),
 (310,fO "_law_turning" (Zbv p 34) 309 "law_rayround_k06_rounds_of_any_thing" 532),
 (309,zz2 #[zz3 "_law_turning" 573,zz3 "_law_turning" 574,zz3 "/claim/cut.py" 575,zz4 92,zz4 1,zz4 0,zz4 0,zz4 3,Value.ref 304,Value.bool true,zz4 181,Value.ref 305,Value.none,Value.ref 306,Value.ref 307,Value.ref 308,zz4 581,zz4 92,zz3 "/claim/cut.py" 582]),
 (317,fO "_law_cross" (Zbv p 35) 316 "law_rayround_k06_rounds_of_any_thing" 532),
 (316,zz2 #[zz3 "_law_cross" 584,zz3 "_law_cross" 585,zz3 "/claim/cut.py" 586,zz4 99,zz4 2,zz4 0,zz4 0,zz4 3,Value.ref 311,Value.bool true,zz4 181,Value.ref 312,Value.none,Value.ref 313,Value.ref 314,Value.ref 315,zz4 589,zz4 99,zz3 "/claim/cut.py" 590]),
 (324,fO "_law_sum" (Zbv p 36) 323 "law_rayround_k06_rounds_of_any_thing" 532),
 (323,zz2 #[zz3 "_law_sum" 592,zz3 "_law_sum" 593,zz3 "/claim/cut.py" 594,zz4 101,zz4 2,zz4 0,zz4 0,zz4 3,Value.ref 318,Value.bool true,zz4 181,Value.ref 319,Value.none,Value.ref 320,Value.ref 321,Value.ref 322,zz4 597,zz4 101,zz3 "/claim/cut.py" 598]),
 (331,fO "_law_near" (Zbv p 37) 330 "law_rayround_k06_rounds_of_any_thing" 532),
 (330,zz2 #[zz3 "_law_near" 600,zz3 "_law_near" 601,zz3 "/claim/cut.py" 602,zz4 103,zz4 1,zz4 0,zz4 0,zz4 3,Value.ref 325,Value.bool true,zz4 181,Value.ref 326,Value.none,Value.ref 327,Value.ref 328,Value.ref 329,zz4 604,zz4 103,zz3 "/claim/cut.py" 605]),
 (336,fO "_law_brought" (Zbv p 38) 335 "law_rayround_k06_rounds_of_any_thing" 532),
 (335,zz2 #[zz3 "_law_brought" 607,zz3 "_law_brought" 608,zz3 "/claim/cut.py" 609,zz4 105,zz4 3,zz4 0,zz4 0,zz4 3,Value.ref 332,Value.bool true,zz4 181,Value.ref 333,Value.none,Value.none,Value.none,Value.ref 334,zz4 610,zz4 105,zz3 "/claim/cut.py" 611]),
 (343,fO "_law_smooth" (Zbv p 39) 342 "law_rayround_k06_rounds_of_any_thing" 532),
 (342,zz2 #[zz3 "_law_smooth" 613,zz3 "_law_smooth" 614,zz3 "/claim/cut.py" 615,zz4 112,zz4 1,zz4 0,zz4 0,zz4 3,Value.ref 337,Value.bool true,zz4 181,Value.ref 338,Value.none,Value.ref 339,Value.ref 340,Value.ref 341,zz4 623,zz4 112,zz3 "/claim/cut.py" 624]),
 (350,fO "_law_straight" (Zbv p 40) 349 "law_rayround_k06_rounds_of_any_thing" 532),
 (349,zz2 #[zz3 "_law_straight" 626,zz3 "_law_straight" 627,zz3 "/claim/cut.py" 628,zz4 122,zz4 1,zz4 0,zz4 0,zz4 3,Value.ref 344,Value.bool true,zz4 181,Value.ref 345,Value.none,Value.ref 346,Value.ref 347,Value.ref 348,zz4 632,zz4 122,zz3 "/claim/cut.py" 633]),
 (357,fO "_law_put" (Zbv p 41) 356 "law_rayround_k06_rounds_of_any_thing" 532),
 (356,zz2 #[zz3 "_law_put" 635,zz3 "_law_put" 636,zz3 "/claim/cut.py" 637,zz4 127,zz4 2,zz4 0,zz4 0,zz4 3,Value.ref 351,Value.bool true,zz4 181,Value.ref 352,Value.none,Value.ref 353,Value.ref 354,Value.ref 355,zz4 642,zz4 127,zz3 "/claim/cut.py" 643]),
 (364,fO "_law_any" (Zbv p 42) 363 "law_rayround_k06_rounds_of_any_thing" 532),
 (363,zz2 #[zz3 "_law_any" 645,zz3 "_law_any" 646,zz3 "/claim/cut.py" 647,zz4 133,zz4 1,zz4 0,zz4 0,zz4 3,Value.ref 358,Value.bool true,zz4 181,Value.ref 359,Value.none,Value.ref 360,Value.ref 361,Value.ref 362,zz4 655,zz4 133,zz3 "/claim/cut.py" 656]),
 (371,fO "_law_whole" (Zbv p 43) 370 "law_rayround_k06_rounds_of_any_thing" 532),
 (370,zz2 #[zz3 "_law_whole" 658,zz3 "_law_whole" 659,zz3 "/claim/cut.py" 660,zz4 146,zz4 1,zz4 0,zz4 0,zz4 3,Value.ref 365,Value.bool true,zz4 181,Value.ref 366,Value.none,Value.ref 367,Value.ref 368,Value.ref 369,zz4 662,zz4 146,zz3 "/claim/cut.py" 663]),
 (376,fO "_law_classes" (Zbv p 44) 375 "law_rayround_k06_rounds_of_any_thing" 532),
 (375,zz2 #[zz3 "_law_classes" 665,zz3 "_law_classes" 666,zz3 "/claim/cut.py" 667,zz4 148,zz4 1,zz4 0,zz4 0,zz4 3,Value.ref 372,Value.bool true,zz4 181,Value.ref 373,Value.none,Value.none,Value.none,Value.ref 374,zz4 668,zz4 148,zz3 "/claim/cut.py" 669]),
 (383,fO "_law_is_ray" (Zbv p 45) 382 "law_rayround_k06_rounds_of_any_thing" 532),
 (382,zz2 #[zz3 "_law_is_ray" 671,zz3 "_law_is_ray" 672,zz3 "/claim/cut.py" 673,zz4 154,zz4 1,zz4 0,zz4 0,zz4 3,Value.ref 377,Value.bool true,zz4 181,Value.ref 378,Value.none,Value.ref 379,Value.ref 380,Value.ref 381,zz4 675,zz4 154,zz3 "/claim/cut.py" 676]),
 (390,fO "_law_has_east" (Zbv p 46) 389 "law_rayround_k06_rounds_of_any_thing" 532),
 (389,zz2 #[zz3 "_law_has_east" 678,zz3 "_law_has_east" 679,zz3 "/claim/cut.py" 680,zz4 158,zz4 2,zz4 0,zz4 0,zz4 3,Value.ref 384,Value.bool true,zz4 181,Value.ref 385,Value.none,Value.ref 386,Value.ref 387,Value.ref 388,zz4 683,zz4 158,zz3 "/claim/cut.py" 684]),
 (397,fO "_law_fault" (Zbv p 47) 396 "law_rayround_k06_rounds_of_any_thing" 532),
 (396,zz2 #[zz3 "_law_fault" 686,zz3 "_law_fault" 687,zz3 "/claim/cut.py" 688,zz4 162,zz4 1,zz4 0,zz4 0,zz4 3,Value.ref 391,Value.bool true,zz4 181,Value.ref 392,Value.none,Value.ref 393,Value.ref 394,Value.ref 395,zz4 693,zz4 162,zz3 "/claim/cut.py" 694]),
 (404,fO "_law_looked" (Zbv p 48) 403 "law_rayround_k06_rounds_of_any_thing" 532),
 (403,zz2 #[zz3 "_law_looked" 696,zz3 "_law_looked" 697,zz3 "/claim/cut.py" 698,zz4 177,zz4 1,zz4 0,zz4 0,zz4 3,Value.ref 398,Value.bool true,zz4 181,Value.ref 399,Value.none,Value.ref 400,Value.ref 401,Value.ref 402,zz4 702,zz4 177,zz3 "/claim/cut.py" 703]),
 (411,fO "_law_odd" (Zbv p 49) 410 "law_rayround_k06_rounds_of_any_thing" 532),
 (410,zz2 #[zz3 "_law_odd" 705,zz3 "_law_odd" 706,zz3 "/claim/cut.py" 707,zz4 187,zz4 2,zz4 0,zz4 0,zz4 3,Value.ref 405,Value.bool true,zz4 181,Value.ref 406,Value.none,Value.ref 407,Value.ref 408,Value.ref 409,zz4 713,zz4 187,zz3 "/claim/cut.py" 714]),
 (418,fO "_law_bent" (Zbv p 50) 417 "law_rayround_k06_rounds_of_any_thing" 532),
 (417,zz2 #[zz3 "_law_bent" 716,zz3 "_law_bent" 717,zz3 "/claim/cut.py" 718,zz4 192,zz4 2,zz4 0,zz4 0,zz4 3,Value.ref 412,Value.bool true,zz4 181,Value.ref 413,Value.none,Value.ref 414,Value.ref 415,Value.ref 416,zz4 724,zz4 192,zz3 "/claim/cut.py" 725]),
 (425,fO "_law_again" (Zbv p 51) 424 "law_rayround_k06_rounds_of_any_thing" 532),
 (424,zz2 #[zz3 "_law_again" 727,zz3 "_law_again" 728,zz3 "/claim/cut.py" 729,zz4 215,zz4 2,zz4 0,zz4 0,zz4 3,Value.ref 419,Value.bool true,zz4 181,Value.ref 420,Value.none,Value.ref 421,Value.ref 422,Value.ref 423,zz4 733,zz4 215,zz3 "/claim/cut.py" 734]),
 (432,fO "law" (Zbv p 52) 431 "law_rayround_k06_rounds_of_any_thing" 532),
 (431,zz2 #[zz3 "law" 736,zz3 "law" 737,zz3 "/claim/cut.py" 738,zz4 220,zz4 1,zz4 0,zz4 0,zz4 3,Value.ref 426,Value.bool true,zz4 181,Value.ref 427,Value.none,Value.ref 428,Value.ref 429,Value.ref 430,zz4 746,zz4 220,zz3 "/claim/cut.py" 747]),
 (65,⟨.type "function",none,.func (PySem.W.fnOf "__init__" "NoRound.__init__" (Zu (Zjm (Zbv p 4) 0)) (Zq (Zjm (Zbv p 4) 0)) (Zg (Zjm (Zbv p 4) 0)) .none .none .none (.str "rayround.errors" 187) none (.ref 64) .none),#[]⟩),
 (64,zz2 #[zz3 "__init__" 251,zz3 "NoRound.__init__" 252,zz3 "/claim/cut.py" 253,zz4 10,zz4 3,zz4 0,zz4 0,zz4 3,Value.ref 59,Value.bool true,zz4 181,Value.ref 60,Value.none,Value.ref 61,Value.ref 62,Value.ref 63,zz4 257,zz4 10,zz3 "/claim/cut.py" 258]),
 (2,{ cls:=Value.none,data:=Data.dict #[] }),
 (23,{ cls:=Value.type "dict",data:=Data.dict #[zz1 P "__module__" 196 (zz3 "rayround.errors" 187),zz1 P "__firstlineno__" 200 (Value.int 2 199),zz1 P "__static_attributes__" 201 (Value.ref 22),zz1 P "__weakref__" 203 (Value.ref 25),zz1 P "__doc__" 204 (Value.none)] 3 }),
 (24,{ cls:=Value.type "type",data:=Data.cls { name:=Str.ofString "RayError",bases:=[Value.type "ValueError"],mro:=[Value.ref 24,Value.type "ValueError",Value.type "Exception",Value.type "BaseException",Value.type "object"],ns:=23,qualname:=Str.ofString "RayError",subclasses:=[Value.ref 37,Value.ref 49,Value.ref 68,Value.ref 80,Value.ref 92,Value.ref 104,Value.ref 116,Value.ref 128,Value.ref 140,Value.ref 152,Value.ref 164,Value.ref 176,Value.ref 188,Value.ref 200,Value.ref 212] },slots:= #[some (Value.ref 15),none,some (zz3 "RayError" 189),some (zz3 "RayError" 197),some (Value.builtin "ValueError.__new__"),some (Value.bool true)] }),
 (36,{ cls:=Value.type "dict",data:=Data.dict #[zz1 P "__module__" 214 (zz3 "rayround.errors" 187),zz1 P "__firstlineno__" 218 (Value.int 4 217),zz1 P "__static_attributes__" 219 (Value.ref 35),zz1 P "__doc__" 220 (Value.none)] 2 }),
 (37,{ cls:=Value.type "type",data:=Data.cls { name:=Str.ofString "NoRatio",bases:=[Value.ref 24],mro:=[Value.ref 37,Value.ref 24,Value.type "ValueError",Value.type "Exception",Value.type "BaseException",Value.type "object"],ns:=36,qualname:=Str.ofString "NoRatio" },slots:= #[some (Value.ref 28),none,some (zz3 "NoRatio" 207),some (zz3 "NoRatio" 215),some (Value.builtin "ValueError.__new__"),some (Value.bool true)] }),
 (48,{ cls:=Value.type "dict",data:=Data.dict #[zz1 P "__module__" 230 (zz3 "rayround.errors" 187),zz1 P "__firstlineno__" 234 (Value.int 6 233),zz1 P "__static_attributes__" 235 (Value.ref 47),zz1 P "__doc__" 236 (Value.none)] 2 }),
 (49,{ cls:=Value.type "type",data:=Data.cls { name:=Str.ofString "NoTurning",bases:=[Value.ref 24],mro:=[Value.ref 49,Value.ref 24,Value.type "ValueError",Value.type "Exception",Value.type "BaseException",Value.type "object"],ns:=48,qualname:=Str.ofString "NoTurning" },slots:= #[some (Value.ref 40),none,some (zz3 "NoTurning" 223),some (zz3 "NoTurning" 231),some (Value.builtin "ValueError.__new__"),some (Value.bool true)] }),
 (67,{ cls:=Value.type "dict",data:=Data.dict #[zz1 P "__module__" 246 (zz3 "rayround.errors" 187),zz1 P "__firstlineno__" 250 (Value.int 8 249),zz1 P "__init__" 259 (Value.ref 65),zz1 P "__static_attributes__" 262 (Value.ref 66),zz1 P "__doc__" 263 (Value.none)] 2 }),
 (68,{ cls:=Value.type "type",data:=Data.cls { name:=Str.ofString "NoRound",bases:=[Value.ref 24],mro:=[Value.ref 68,Value.ref 24,Value.type "ValueError",Value.type "Exception",Value.type "BaseException",Value.type "object"],ns:=67,qualname:=Str.ofString "NoRound" },slots:= #[some (Value.ref 52),none,some (zz3 "NoRound" 239),some (zz3 "NoRound" 247),some (Value.builtin "ValueError.__new__"),some (Value.bool true)] }),
 (79,{ cls:=Value.type "dict",data:=Data.dict #[zz1 P "__module__" 273 (zz3 "rayround.errors" 187),zz1 P "__firstlineno__" 277 (Value.int 14 276),zz1 P "__static_attributes__" 278 (Value.ref 78),zz1 P "__doc__" 279 (Value.none)] 2 }),
 (80,{ cls:=Value.type "type",data:=Data.cls { name:=Str.ofString "NotSmooth",bases:=[Value.ref 24],mro:=[Value.ref 80,Value.ref 24,Value.type "ValueError",Value.type "Exception",Value.type "BaseException",Value.type "object"],ns:=79,qualname:=Str.ofString "NotSmooth" },slots:= #[some (Value.ref 71),none,some (zz3 "NotSmooth" 266),some (zz3 "NotSmooth" 274),some (Value.builtin "ValueError.__new__"),some (Value.bool true)] }),
 (91,{ cls:=Value.type "dict",data:=Data.dict #[zz1 P "__module__" 289 (zz3 "rayround.errors" 187),zz1 P "__firstlineno__" 293 (Value.int 16 292),zz1 P "__static_attributes__" 294 (Value.ref 90),zz1 P "__doc__" 295 (Value.none)] 2 }),
 (92,{ cls:=Value.type "type",data:=Data.cls { name:=Str.ofString "NoWedge",bases:=[Value.ref 24],mro:=[Value.ref 92,Value.ref 24,Value.type "ValueError",Value.type "Exception",Value.type "BaseException",Value.type "object"],ns:=91,qualname:=Str.ofString "NoWedge" },slots:= #[some (Value.ref 83),none,some (zz3 "NoWedge" 282),some (zz3 "NoWedge" 290),some (Value.builtin "ValueError.__new__"),some (Value.bool true)] }),
 (103,{ cls:=Value.type "dict",data:=Data.dict #[zz1 P "__module__" 305 (zz3 "rayround.errors" 187),zz1 P "__firstlineno__" 309 (Value.int 18 308),zz1 P "__static_attributes__" 310 (Value.ref 102),zz1 P "__doc__" 311 (Value.none)] 2 }),
 (104,{ cls:=Value.type "type",data:=Data.cls { name:=Str.ofString "NoRow",bases:=[Value.ref 24],mro:=[Value.ref 104,Value.ref 24,Value.type "ValueError",Value.type "Exception",Value.type "BaseException",Value.type "object"],ns:=103,qualname:=Str.ofString "NoRow" },slots:= #[some (Value.ref 95),none,some (zz3 "NoRow" 298),some (zz3 "NoRow" 306),some (Value.builtin "ValueError.__new__"),some (Value.bool true)] }),
 (115,{ cls:=Value.type "dict",data:=Data.dict #[zz1 P "__module__" 321 (zz3 "rayround.errors" 187),zz1 P "__firstlineno__" 325 (Value.int 20 324),zz1 P "__static_attributes__" 326 (Value.ref 114),zz1 P "__doc__" 327 (Value.none)] 2 }),
 (116,{ cls:=Value.type "type",data:=Data.cls { name:=Str.ofString "NoPlace",bases:=[Value.ref 24],mro:=[Value.ref 116,Value.ref 24,Value.type "ValueError",Value.type "Exception",Value.type "BaseException",Value.type "object"],ns:=115,qualname:=Str.ofString "NoPlace" },slots:= #[some (Value.ref 107),none,some (zz3 "NoPlace" 314),some (zz3 "NoPlace" 322),some (Value.builtin "ValueError.__new__"),some (Value.bool true)] }),
 (127,{ cls:=Value.type "dict",data:=Data.dict #[zz1 P "__module__" 337 (zz3 "rayround.errors" 187),zz1 P "__firstlineno__" 341 (Value.int 22 340),zz1 P "__static_attributes__" 342 (Value.ref 126),zz1 P "__doc__" 343 (Value.none)] 2 }),
 (128,{ cls:=Value.type "type",data:=Data.cls { name:=Str.ofString "NoMinus",bases:=[Value.ref 24],mro:=[Value.ref 128,Value.ref 24,Value.type "ValueError",Value.type "Exception",Value.type "BaseException",Value.type "object"],ns:=127,qualname:=Str.ofString "NoMinus" },slots:= #[some (Value.ref 119),none,some (zz3 "NoMinus" 330),some (zz3 "NoMinus" 338),some (Value.builtin "ValueError.__new__"),some (Value.bool true)] }),
 (139,{ cls:=Value.type "dict",data:=Data.dict #[zz1 P "__module__" 353 (zz3 "rayround.errors" 187),zz1 P "__firstlineno__" 357 (Value.int 24 356),zz1 P "__static_attributes__" 358 (Value.ref 138),zz1 P "__doc__" 359 (Value.none)] 2 }),
 (140,{ cls:=Value.type "type",data:=Data.cls { name:=Str.ofString "NoFour",bases:=[Value.ref 24],mro:=[Value.ref 140,Value.ref 24,Value.type "ValueError",Value.type "Exception",Value.type "BaseException",Value.type "object"],ns:=139,qualname:=Str.ofString "NoFour" },slots:= #[some (Value.ref 131),none,some (zz3 "NoFour" 346),some (zz3 "NoFour" 354),some (Value.builtin "ValueError.__new__"),some (Value.bool true)] }),
 (151,{ cls:=Value.type "dict",data:=Data.dict #[zz1 P "__module__" 369 (zz3 "rayround.errors" 187),zz1 P "__firstlineno__" 373 (Value.int 26 372),zz1 P "__static_attributes__" 374 (Value.ref 150),zz1 P "__doc__" 375 (Value.none)] 2 }),
 (152,{ cls:=Value.type "type",data:=Data.cls { name:=Str.ofString "NoHeight",bases:=[Value.ref 24],mro:=[Value.ref 152,Value.ref 24,Value.type "ValueError",Value.type "Exception",Value.type "BaseException",Value.type "object"],ns:=151,qualname:=Str.ofString "NoHeight" },slots:= #[some (Value.ref 143),none,some (zz3 "NoHeight" 362),some (zz3 "NoHeight" 370),some (Value.builtin "ValueError.__new__"),some (Value.bool true)] }),
 (163,{ cls:=Value.type "dict",data:=Data.dict #[zz1 P "__module__" 385 (zz3 "rayround.errors" 187),zz1 P "__firstlineno__" 389 (Value.int 28 388),zz1 P "__static_attributes__" 390 (Value.ref 162),zz1 P "__doc__" 391 (Value.none)] 2 }),
 (164,{ cls:=Value.type "type",data:=Data.cls { name:=Str.ofString "NoBend",bases:=[Value.ref 24],mro:=[Value.ref 164,Value.ref 24,Value.type "ValueError",Value.type "Exception",Value.type "BaseException",Value.type "object"],ns:=163,qualname:=Str.ofString "NoBend" },slots:= #[some (Value.ref 155),none,some (zz3 "NoBend" 378),some (zz3 "NoBend" 386),some (Value.builtin "ValueError.__new__"),some (Value.bool true)] }),
 (175,{ cls:=Value.type "dict",data:=Data.dict #[zz1 P "__module__" 401 (zz3 "rayround.errors" 187),zz1 P "__firstlineno__" 405 (Value.int 30 404),zz1 P "__static_attributes__" 406 (Value.ref 174),zz1 P "__doc__" 407 (Value.none)] 2 }),
 (176,{ cls:=Value.type "type",data:=Data.cls { name:=Str.ofString "NoBody",bases:=[Value.ref 24],mro:=[Value.ref 176,Value.ref 24,Value.type "ValueError",Value.type "Exception",Value.type "BaseException",Value.type "object"],ns:=175,qualname:=Str.ofString "NoBody" },slots:= #[some (Value.ref 167),none,some (zz3 "NoBody" 394),some (zz3 "NoBody" 402),some (Value.builtin "ValueError.__new__"),some (Value.bool true)] }),
 (187,{ cls:=Value.type "dict",data:=Data.dict #[zz1 P "__module__" 417 (zz3 "rayround.errors" 187),zz1 P "__firstlineno__" 421 (Value.int 32 420),zz1 P "__static_attributes__" 422 (Value.ref 186),zz1 P "__doc__" 423 (Value.none)] 2 }),
 (188,{ cls:=Value.type "type",data:=Data.cls { name:=Str.ofString "NoOne",bases:=[Value.ref 24],mro:=[Value.ref 188,Value.ref 24,Value.type "ValueError",Value.type "Exception",Value.type "BaseException",Value.type "object"],ns:=187,qualname:=Str.ofString "NoOne" },slots:= #[some (Value.ref 179),none,some (zz3 "NoOne" 410),some (zz3 "NoOne" 418),some (Value.builtin "ValueError.__new__"),some (Value.bool true)] }),
 (199,{ cls:=Value.type "dict",data:=Data.dict #[zz1 P "__module__" 433 (zz3 "rayround.errors" 187),zz1 P "__firstlineno__" 437 (Value.int 34 436),zz1 P "__static_attributes__" 438 (Value.ref 198),zz1 P "__doc__" 439 (Value.none)] 2 }),
 (200,{ cls:=Value.type "type",data:=Data.cls { name:=Str.ofString "NoText",bases:=[Value.ref 24],mro:=[Value.ref 200,Value.ref 24,Value.type "ValueError",Value.type "Exception",Value.type "BaseException",Value.type "object"],ns:=199,qualname:=Str.ofString "NoText" },slots:= #[some (Value.ref 191),none,some (zz3 "NoText" 426),some (zz3 "NoText" 434),some (Value.builtin "ValueError.__new__"),some (Value.bool true)] }),
 (211,{ cls:=Value.type "dict",data:=Data.dict #[zz1 P "__module__" 449 (zz3 "rayround.errors" 187),zz1 P "__firstlineno__" 453 (Value.int 36 452),zz1 P "__static_attributes__" 454 (Value.ref 210),zz1 P "__doc__" 455 (Value.none)] 2 }),
 (212,{ cls:=Value.type "type",data:=Data.cls { name:=Str.ofString "Unknown",bases:=[Value.ref 24],mro:=[Value.ref 212,Value.ref 24,Value.type "ValueError",Value.type "Exception",Value.type "BaseException",Value.type "object"],ns:=211,qualname:=Str.ofString "Unknown" },slots:= #[some (Value.ref 203),none,some (zz3 "Unknown" 442),some (zz3 "Unknown" 450),some (Value.builtin "ValueError.__new__"),some (Value.bool true)] })]
noncomputable def asK:List Addr:=[3,221,220,228,227,235,234,242,241,249,248,256,255,263,262,270,269,275,274,282,281,289,288,296,295,303,302,310,309,317,316,324,323,331,330,336,335,343,342,350,349,357,356,364,363,371,370,376,375,383,382,390,389,397,396,404,403,411,410,418,417,425,424,432,431,65,64,2,23,24,36,37,48,49,67,68,79,80,91,92,103,104,115,116,127,128,139,140,151,152,163,164,175,176,187,188,199,200,211,212]
theorem Zo7 (p:Program) (P:Params):asK=(Kf p P).map (·.1):=rfl
noncomputable def qf (p:Program):Program:={ p with main:={ p.main with body:=[Zbv p 52] } }
noncomputable def lo:List Str:=[("__name__":Str),("RayError":Str),("NoRatio":Str),("NoTurning":Str),("NoRound":Str),("NotSmooth":Str),("NoWedge":Str),("NoRow":Str),("NoPlace":Str),("NoMinus":Str),("NoFour":Str),("NoHeight":Str),("NoBend":Str),("NoBody":Str),("NoOne":Str),("NoText":Str),("Unknown":Str),("is_whole":Str),("greatest_divisor":Str),("is_pair":Str),("crossed":Str),("common":Str),("is_ray":Str),("following":Str),("met_direction":Str),("look_round":Str),("_law_bag":Str),("_law_digit":Str),("_law_led":Str),("_law_both":Str),("_law_turning":Str),("_law_cross":Str),("_law_sum":Str),("_law_near":Str),("_law_brought":Str),("_law_smooth":Str),("_law_straight":Str),("_law_put":Str),("_law_any":Str),("_law_whole":Str),("_law_classes":Str),("_law_is_ray":Str),("_law_has_east":Str),("_law_fault":Str),("_law_looked":Str),("_law_odd":Str),("_law_bent":Str),("_law_again":Str)]
theorem Ztw {l:PySem.W.OpenLaw} {q:Program} {loose:List Str} {XP:(Str->Option Value)->Heap->Prop} {YP:World->Heap->Prop} {d:DefRec} {K:Params->PySem.W.Frag} (hn:l.most=some 63) (hdf:d.params.defaults=[])
  (hY: ∀ (w:World) (h:Heap),YP w h->(K w.params).In h)
  (F: ∀ (w:World) (mg:Str->Option Value) (fa:Addr) (h:Heap),(K w.params).In h->h.Ns mainGlobals mg->mg d.name=some (.ref fa)->
   ∃ fd:FuncData,(∀ (s:Shared) (u:Value),BindsTo s fd ⟨[u],[]⟩ [("_law_script",u)])/\ ∀ base:Heap,(K w.params).In base->base.Ns mainGlobals mg->FnOk l.prog w (K w.params) mg base (CXE l.prog w) 106 fa fd ["_law_script"] (spD (K w.params) Zfv)):
  PySem.W.WalkO q loose XP YP l.row.toRowW d [] (fun f vs=>PySem.call f vs):=
 L2.ZkU (n:=63) (k:=106) (x:="_law_script") (CX:=fun w=>CXE l.prog w) (sp:=fun w=>spD (K w.params) Zfv) hn (by decide) hdf ⟨fun _=>rfl,rfl,by decide,by decide⟩ hY F (fun _ _ a ns hl hO hS=>DL.Zm3 hl hO hS (law_true ns hl)) fun _ _ _ _ _ ⟨_,_,_,_,_,_,_,_,_,_,_,_,_,q⟩=>q
end K06
open PySem PySem.W PyProof.Rows
lay_quick PySem.Challenge.pw_rayround_k06_rounds_of_any_thing
namespace K06
noncomputable abbrev Hk:Hook:=kHook (Kf PySem.Challenge.pw_rayround_k06_rounds_of_any_thing) asK (Zo7 PySem.Challenge.pw_rayround_k06_rounds_of_any_thing)
noncomputable def Xs (s:Shared):Bool:=xlAt (qf PySem.Challenge.pw_rayround_k06_rounds_of_any_thing) [] s && recOk (RowW.records (OpenRow.toRowW (OpenLaw.row PySem.Challenge.rw_rayround_k06_rounds_of_any_thing))) s
set_option maxRecDepth 1000000 in
set_option maxHeartbeats 0 in
theorem ZpI (w:World) (os:OsState):(HD.Zpd through (HD.Zjq (stepOk 11 (some (.ref 6))) (stepT (denote treeTable) PySem.Challenge.pw_rayround_k06_rounds_of_any_thing w)) 4484 (HD.T0 w os) (topStub PySem.Challenge.pw_rayround_k06_rounds_of_any_thing)).map (fun s=>((staticsOk (importedModules PySem.Challenge.pw_rayround_k06_rounds_of_any_thing.main.body) (boot_heap w.params) s.abs.heap && namesBound PySem.Challenge.pw_rayround_k06_rounds_of_any_thing s.abs.heap && gensDone s.abs && laidKept (boot_heap w.params) s.abs.heap),
  openSeen (qf PySem.Challenge.pw_rayround_k06_rounds_of_any_thing) lo (importedModules PySem.Challenge.pw_rayround_k06_rounds_of_any_thing.main.body) (fun s=>xlAt (qf PySem.Challenge.pw_rayround_k06_rounds_of_any_thing) [] s && recOk [] s) true s.abs,asK.map s.abs.heap.get?))=some (true,openGood (qf PySem.Challenge.pw_rayround_k06_rounds_of_any_thing) lo,(Kf PySem.Challenge.pw_rayround_k06_rounds_of_any_thing w.params).map fun x=>some x.2):=by
 rw[HD.ZpJ,HD.Zln,HD.Znv,HD.Znw,HD.Zlo,HD.Znx,PySem.W.Fast.te7875273227019626736]
 kernel_rfl
end K06
set_option maxRecDepth 1000000 in
set_option maxHeartbeats 0 in
theorem PySem.Challenge.cw_rayround_k06_rounds_of_any_thing_holds : PySem.Challenge.rw_rayround_k06_rounds_of_any_thing.Holds := by
 w_on;o_law
 refine holds_open (q:=K06.qf PySem.Challenge.pw_rayround_k06_rounds_of_any_thing) (loose:=K06.lo) (Xt:=fun s=>xlAt (K06.qf PySem.Challenge.pw_rayround_k06_rounds_of_any_thing) [] s && recOk [] s) (XP:=XL (K06.qf PySem.Challenge.pw_rayround_k06_rounds_of_any_thing) []) (Yf:=Hook.obs K06.Hk) (Ya:=Hook.val K06.Hk) (YP:=Hook.says K06.Hk) (N:=5084) ?hl (Hook.of K06.Hk) (Hook.keeps K06.Hk) (fun s e=>xl_of s (Bool.and_eq_true_iff.mp e).1) XL.keeps (by rfl) (by rfl) (by rfl) (fun s e=>recFacts_of (Bool.and_eq_true_iff.mp e).2) (by rfl) (by first | assumption | decide +kernel) (by decide +kernel) ⟨rfl,rfl,rfl,rfl,rfl,by decide +kernel⟩ ?hw ?hc
 case hl=>exact HD.Zif rfl (by decide) (fun s=>rfl) (by decide) K06.ZpI
 case hw=>w_witness2
 case hc=>
  refine K06.Ztw (l:=PySem.Challenge.rw_rayround_k06_rounds_of_any_thing) rfl rfl (fun w h Y=>PySem.W.kIn_of Y) ?F
  intro w mg fa h KX G hmg
  refine K06.ZoX (f1:=221) (od1:=none) (an1:=none) (sl1:= #[]) (oc1:= .type "function") (kV1:= .none) (dc1:= .none) (pm1:= .str "rayround.wholes" 458) (cd1:= .ref 220) (ct1:= .none) (f2:=228) (od2:=none) (an2:=none) (sl2:= #[]) (oc2:= .type "function") (kV2:= .none) (dc2:= .none) (pm2:= .str "rayround.wholes" 458) (cd2:= .ref 227) (ct2:= .none) (f3:=235) (od3:=none) (an3:=none) (sl3:= #[]) (oc3:= .type "function") (kV3:= .none) (dc3:= .none) (pm3:= .str "rayround.pairs" 477) (cd3:= .ref 234) (ct3:= .none) (f4:=242) (od4:=none) (an4:=none) (sl4:= #[]) (oc4:= .type "function") (kV4:= .none) (dc4:= .none) (pm4:= .str "rayround.pairs" 477) (cd4:= .ref 241) (ct4:= .none) (f5:=249) (od5:=none) (an5:=none) (sl5:= #[]) (oc5:= .type "function") (kV5:= .none) (dc5:= .none) (pm5:= .str "rayround.pairs" 477) (cd5:= .ref 248) (ct5:= .none) (f6:=256) (od6:=none) (an6:=none) (sl6:= #[]) (oc6:= .type "function") (kV6:= .none) (dc6:= .none) (pm6:= .str "rayround.pairs" 477) (cd6:= .ref 255) (ct6:= .none) (f7:=263) (od7:=none) (an7:=none) (sl7:= #[]) (oc7:= .type "function") (kV7:= .none) (dc7:= .none) (pm7:= .str "rayround.rounds" 508) (cd7:= .ref 262) (ct7:= .none) (f8:=270) (od8:=none) (an8:=none) (sl8:= #[]) (oc8:= .type "function") (kV8:= .none) (dc8:= .none) (pm8:= .str "rayround.rounds" 508) (cd8:= .ref 269) (ct8:= .none) (f9:=275) (od9:=none) (an9:=none) (sl9:= #[]) (oc9:= .type "function") (kV9:= .none) (dc9:= .none) (pm9:= .str "rayround.rounds" 508) (cd9:= .ref 274) (ct9:= .none) (f10:=282) (od10:=none) (an10:=none) (sl10:= #[]) (oc10:= .type "function") (kV10:= .none) (dc10:= .none) (pm10:= .str "law_rayround_k06_rounds_of_any_thing" 532) (cd10:= .ref 281) (ct10:= .none) (f11:=289) (od11:=none) (an11:=none) (sl11:= #[]) (oc11:= .type "function") (kV11:= .none) (dc11:= .none) (pm11:= .str "law_rayround_k06_rounds_of_any_thing" 532) (cd11:= .ref 288) (ct11:= .none) (f12:=296) (od12:=none) (an12:=none) (sl12:= #[]) (oc12:= .type "function") (kV12:= .none) (dc12:= .none) (pm12:= .str "law_rayround_k06_rounds_of_any_thing" 532) (cd12:= .ref 295) (ct12:= .none) (f13:=303) (od13:=none) (an13:=none) (sl13:= #[]) (oc13:= .type "function") (kV13:= .none) (dc13:= .none) (pm13:= .str "law_rayround_k06_rounds_of_any_thing" 532) (cd13:= .ref 302) (ct13:= .none) (f14:=310) (od14:=none) (an14:=none) (sl14:= #[]) (oc14:= .type "function") (kV14:= .none) (dc14:= .none) (pm14:= .str "law_rayround_k06_rounds_of_any_thing" 532) (cd14:= .ref 309) (ct14:= .none) (f15:=317) (od15:=none) (an15:=none) (sl15:= #[]) (oc15:= .type "function") (kV15:= .none) (dc15:= .none) (pm15:= .str "law_rayround_k06_rounds_of_any_thing" 532) (cd15:= .ref 316) (ct15:= .none) (f16:=324) (od16:=none) (an16:=none) (sl16:= #[]) (oc16:= .type "function") (kV16:= .none) (dc16:= .none) (pm16:= .str "law_rayround_k06_rounds_of_any_thing" 532) (cd16:= .ref 323) (ct16:= .none) (f17:=331) (od17:=none) (an17:=none) (sl17:= #[]) (oc17:= .type "function") (kV17:= .none) (dc17:= .none) (pm17:= .str "law_rayround_k06_rounds_of_any_thing" 532) (cd17:= .ref 330) (ct17:= .none) (f18:=336) (od18:=none) (an18:=none) (sl18:= #[]) (oc18:= .type "function") (kV18:= .none) (dc18:= .none) (pm18:= .str "law_rayround_k06_rounds_of_any_thing" 532) (cd18:= .ref 335) (ct18:= .none) (f19:=343) (od19:=none) (an19:=none) (sl19:= #[]) (oc19:= .type "function") (kV19:= .none) (dc19:= .none) (pm19:= .str "law_rayround_k06_rounds_of_any_thing" 532) (cd19:= .ref 342) (ct19:= .none) (f20:=350) (od20:=none) (an20:=none) (sl20:= #[]) (oc20:= .type "function") (kV20:= .none) (dc20:= .none) (pm20:= .str "law_rayround_k06_rounds_of_any_thing" 532) (cd20:= .ref 349) (ct20:= .none) (f21:=357) (od21:=none) (an21:=none) (sl21:= #[]) (oc21:= .type "function") (kV21:= .none) (dc21:= .none) (pm21:= .str "law_rayround_k06_rounds_of_any_thing" 532) (cd21:= .ref 356) (ct21:= .none) (f22:=364) (od22:=none) (an22:=none) (sl22:= #[]) (oc22:= .type "function") (kV22:= .none) (dc22:= .none) (pm22:= .str "law_rayround_k06_rounds_of_any_thing" 532) (cd22:= .ref 363) (ct22:= .none) (f23:=371) (od23:=none) (an23:=none) (sl23:= #[]) (oc23:= .type "function") (kV23:= .none) (dc23:= .none) (pm23:= .str "law_rayround_k06_rounds_of_any_thing" 532) (cd23:= .ref 370) (ct23:= .none) (f24:=376) (od24:=none) (an24:=none) (sl24:= #[]) (oc24:= .type "function") (kV24:= .none) (dc24:= .none) (pm24:= .str "law_rayround_k06_rounds_of_any_thing" 532) (cd24:= .ref 375) (ct24:= .none) (f25:=383) (od25:=none) (an25:=none) (sl25:= #[]) (oc25:= .type "function") (kV25:= .none) (dc25:= .none) (pm25:= .str "law_rayround_k06_rounds_of_any_thing" 532) (cd25:= .ref 382) (ct25:= .none) (f26:=390) (od26:=none) (an26:=none) (sl26:= #[]) (oc26:= .type "function") (kV26:= .none) (dc26:= .none) (pm26:= .str "law_rayround_k06_rounds_of_any_thing" 532) (cd26:= .ref 389) (ct26:= .none) (f27:=397) (od27:=none) (an27:=none) (sl27:= #[]) (oc27:= .type "function") (kV27:= .none) (dc27:= .none) (pm27:= .str "law_rayround_k06_rounds_of_any_thing" 532) (cd27:= .ref 396) (ct27:= .none) (f28:=404) (od28:=none) (an28:=none) (sl28:= #[]) (oc28:= .type "function") (kV28:= .none) (dc28:= .none) (pm28:= .str "law_rayround_k06_rounds_of_any_thing" 532) (cd28:= .ref 403) (ct28:= .none) (f29:=411) (od29:=none) (an29:=none) (sl29:= #[]) (oc29:= .type "function") (kV29:= .none) (dc29:= .none) (pm29:= .str "law_rayround_k06_rounds_of_any_thing" 532) (cd29:= .ref 410) (ct29:= .none) (f30:=418) (od30:=none) (an30:=none) (sl30:= #[]) (oc30:= .type "function") (kV30:= .none) (dc30:= .none) (pm30:= .str "law_rayround_k06_rounds_of_any_thing" 532) (cd30:= .ref 417) (ct30:= .none) (f31:=425) (od31:=none) (an31:=none) (sl31:= #[]) (oc31:= .type "function") (kV31:= .none) (dc31:= .none) (pm31:= .str "law_rayround_k06_rounds_of_any_thing" 532) (cd31:= .ref 424) (ct31:= .none) (f32:=432) (od32:=none) (an32:=none) (sl32:= #[]) (oc32:= .type "function") (kV32:= .none) (dc32:= .none) (pm32:= .str "law_rayround_k06_rounds_of_any_thing" 532) (cd32:= .ref 431) (ct32:= .none) (fI:=65) (odI:=none) (anI:=none) (slI:= #[]) (ocI:= .type "function") (kVI:= .none) (dcI:= .none) (pmI:= .str "rayround.errors" 187) (cdI:= .ref 64) (ctI:= .none) KX G hmg ?a1 ?l1 ?c1 ?k1 ?a2 ?l2 ?c2 ?k2 ?a3 ?l3 ?c3 ?k3 ?a4 ?l4 ?c4 ?k4 ?a5 ?l5 ?c5 ?k5 ?a6 ?l6 ?c6 ?k6 ?a7 ?l7 ?c7 ?k7 ?a8 ?l8 ?c8 ?k8 ?a9 ?l9 ?c9 ?k9 ?a10 ?l10 ?c10 ?k10 ?a11 ?l11 ?c11 ?k11 ?a12 ?l12 ?c12 ?k12 ?a13 ?l13 ?c13 ?k13 ?a14 ?l14 ?c14 ?k14 ?a15 ?l15 ?c15 ?k15 ?a16 ?l16 ?c16 ?k16 ?a17 ?l17 ?c17 ?k17 ?a18 ?l18 ?c18 ?k18 ?a19 ?l19 ?c19 ?k19 ?a20 ?l20 ?c20 ?k20 ?a21 ?l21 ?c21 ?k21 ?a22 ?l22 ?c22 ?k22 ?a23 ?l23 ?c23 ?k23 ?a24 ?l24 ?c24 ?k24 ?a25 ?l25 ?c25 ?k25 ?a26 ?l26 ?c26 ?k26 ?a27 ?l27 ?c27 ?k27 ?a28 ?l28 ?c28 ?k28 ?a29 ?l29 ?c29 ?k29 ?a30 ?l30 ?c30 ?k30 ?a31 ?l31 ?c31 ?k31 ?a32 ?l32 ?c32 ?k32 ?lI ?cI ?kI ?xI ?bI ?z_isinstance ?z_int ?z_bool ?z_abs ?z_tuple ?z_len ?z_list ?z_enumerate ?z_range ?z_all ?z_ValueError ?z_str ?z_min ?z_max ?z_repr ?q_it_NotSmooth ?q_it_NoRound ?q_it_NoTurning ?q_it_NoRatio ?q_it_NoMinus ?q_it_NoPlace ?q_it_NoRow ?q_it_NoWedge ?q_it_NoBody ?q_it_NoBend ?q_it_NoHeight ?q_it_NoFour ?q_it_Unknown ?q_it_NoText ?q_it_NoOne ?q_ib_ValueError ?q_ct_RayError
  all_goals kernel_rfl
