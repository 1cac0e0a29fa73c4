import PyProof.Rows.All
import Wide.All
import OpenK.AllK
import Wide.FinOn
import Lean
import PyProof.EqAt
import PyProof.EqKinds
import PyProof.TupleCall
import PySem.Challenge.RW_rayround_k64_kinds_of_ones
set_option maxRecDepth 100000
set_option linter.all false
set_option Elab.async false
set_option maxHeartbeats 4000000
noncomputable section
section
namespace DQ
open PySem PySem.Spec PyProof.Rows
noncomputable def ZbK (A:Around) (h:Heap):Prop:=A.handled=none\/ ∃ ea oe vs,A.handled=some (.ref ea)/\h.get? ea=some oe/\oe.data= .fields vs/\vs[2]?=some .none
theorem ZbK.keeps {A:Around} {h h':Heap} (q:ZbK A h) (k: ∀ b o,h.get? b=some o->h'.get? b=some o):ZbK A h':=by
 rcases q with q | ⟨ea,oe,vs,e1,e2,e3,e4⟩
 ·exact .inl q
 ·exact .inr ⟨ea,oe,vs,e1,k _ _ e2,e3,e4⟩
theorem Zdp:entryFor table "proto.unchain"=some Builtin.«proto.unchain» :=entryFor_of_fast (by kernel_rfl)
section
variable {prog:Program} {w:World} {A:Around} {E:Value->Shared->Prop} {s:Shared}
theorem ZeJ {α:Type} {Q:α->Shared->Prop} {e:Addr} {oe:Obj} {vs:Array Value} (q:ZbK A s.heap) (he:s.heap.get? e=some oe) (hd:oe.data= .fields vs) (hz:2 < vs.size)
  (h: ∀ h',(∀ b o,b≠e->s.heap.get? b=some o->h'.get? b=some o)->(∃ o,h'.get? e=some o/\o.cls=oe.cls)->E (.ref e) { s with heap:=h' }):wpAny (model prog w) A (raiseNew (.ref e):Sem α) Q E s:=by
 have same:E (.ref e) s:=h s.heap (fun _ _ _ x=>x) ⟨oe,he,rfl⟩
 unfold raiseNew
 refine wpAny_bind (wpAny_handled ?_)
 rcases q with q | ⟨ea,oa,ws,q1,q2,q3,q4⟩
 ·rw[q]
  exact wpAny_bind (wpAny_pure (wpAny_throw same))
 ·rw[q1]
  dsimp only
  by_cases c:(Value.ref ea != Value.ref e)=true
  ·rw[if_pos c]
   refine wpAny_bind (wpAny_holding (wpAny_runValue (codeAny_builtin Zdp ?_)))
   unfold Builtin.«proto.unchain»
   refine wpAny_bind (wpAny_field q2 q3 q4 ?_)
   refine wpAny_bind (wpAny_pure ?_)
   have sf:wpAny (model prog w) A (setField (.ref e) 2 (.ref ea)) (fun _ s'=>wpAny (model prog w) A (throw (Value.ref e):Sem α) Q E s') E s:=by
    refine wpAny_setField he hd hz (wpAny_throw (h _ (fun b o hb x=> ?_) ⟨_,Heap.get?_update_self _ he (Obj.isFreed_of_fields (Obj.data_mapFields hd _)),Obj.cls_mapFields _ _⟩))
    rw[Heap.get?_update_other _ _ (Ne.symm hb)]
    exact x
   exact wpAny_pure (wpAny_bind sf)
  ·rw[if_neg c]
   exact wpAny_throw same
theorem Zcd {α:Type} {Q:α->Shared->Prop} (q:ZbK A s.heap)
  (h: ∀ h' e,(∀ b o,s.heap.get? b=some o->h'.get? b=some o)->(∃ o,h'.get? e=some o/\o.cls= .type "StopIteration")->E (.ref e) { s with heap:=h' }):
  wpAny (model prog w) A (newExc (.type "StopIteration") [] >>= fun x=>(raiseNew x:Sem α)) Q E s:=by
 refine wpAny_bind ?_
 simp only[newExc,newTuple]
 refine wpAny_bind (wpAny_newObj_type ?_ (by size_fits))
 refine wpAny_bind (m:=firstArgMember _ _) (wpAny_of_eq (a:=Value.none) (by first | rfl | (simp only[firstArgMember];rfl)) ?_)
 refine wpAny_newObj_type ?_ (by size_fits)
 refine ZeJ (q.keeps fun b o x=>Heap.get?_push_of_some _ (Heap.get?_push_of_some _ x)) (Heap.get?_push_size _ rfl) rfl (by rw[Array.size_append];exact Nat.lt_of_lt_of_le (by decide:2 < 6) (Nat.le_add_right _ _)) fun h' k he=> ?_
 exact h h' _ (fun b o x=>k b o (Nat.ne_of_lt (Nat.lt_of_lt_of_le (Heap.lt_size x) (by rw[Heap.size_push];exact Nat.le_succ _))) (Heap.get?_push_of_some _ (Heap.get?_push_of_some _ x))) he
theorem Zkx {e:Addr} {Q:Bool->Shared->Prop} (he: ∃ o,s.heap.get? e=some o/\o.cls= .type "StopIteration") (h:Q true s):wpAny (model prog w) A (isInstance (.ref e) (.type "StopIteration")) Q E s:=
 let ⟨o,e1,e2⟩:=he
 wpAny_isInstance (T:="StopIteration") (b:=true) ⟨o,e1,e2⟩ isSubtype_stop h
theorem ZbK.in1 {h:Heap} (q:ZbK A h):ZbK A.in1 h:=q
noncomputable def Zgx (it:Addr) (s:Shared) (e:Value) (s':Shared):Prop:= ∃ a,e= .ref a/\(∃ o,s'.heap.get? a=some o/\o.cls= .type "StopIteration")/\ ∃ h',Heap.ExtBut it s.heap h'/\s'={ s with heap:=h' }
theorem Zgy {it:Addr} {T id:String} {b:Builtin} {Q:Option Value->Shared->Prop} (hT:s.TypeIs (.ref it) T) (sl:Slot T (Str.ofString "__next__") id) (hb:entryFor table id=some b) (ha:argsOk id ⟨[.ref it],[]⟩)
  (h:wpAny (model prog w) A.in1 (b ⟨[.ref it],[]⟩) (fun _ _=>False) (Zgx it s) s) (hQ: ∀ h',Heap.ExtBut it s.heap h'->Q none { s with heap:=h' }):wpAny (model prog w) A (pyNext (.ref it)) Q E s:=by
 unfold pyNext
 refine wpAny_bind (wpAny_attempt (wpAny_callSpecial?_slot (name:=Str.ofString "__next__") hT sl (wpAny_call_entry sl hT hb (wpAny_mono h (fun _ _ z=>z.elim) fun e s' z=> ?_) ha)))
 obtain ⟨a,rfl,ho,h',eb,rfl⟩:=z
 exact wpAny_bind (Zkx ho (wpAny_pure (hQ h' eb)))
theorem Zgz {it:Addr} {x left step:Int} {Q:Option Value->Shared->Prop} (q:ZbK A s.heap) (hit:IsRangeIter s.heap it x left step) (hl:left<=0)
  (hQ: ∀ h',Heap.ExtBut it s.heap h'->Q none { s with heap:=h' }):wpAny (model prog w) A (pyNext (.ref it)) Q E s:=by
 refine Zgy ⟨_,hit,rfl⟩ F.slot_range_iterator_next F.entry_range_iterator_next (F.args_range_iterator_next_1 _) ?_ hQ
 refine wpAny_bind (m:=field (.ref it) 0) (wpAny_field hit rfl (x:=rawInt x) rfl ?_)
 refine wpAny_bind (m:=field (.ref it) 1) (wpAny_field hit rfl (x:=rawInt left) rfl ?_)
 refine wpAny_bind (m:=field (.ref it) 2) (wpAny_field hit rfl (x:=rawInt step) rfl ?_)
 dsimp only[rawInt]
 rw[if_pos hl]
 refine wpAny_bind (wpAny_rule (wpAny_bind ?_))
 exact Zcd q.in1 fun h' e k ho=>⟨e,rfl,ho,h',fun b o _ z=>k b o z,rfl⟩
theorem Zmk {it l:Addr} {i:Nat} {o ol:Obj} {items:Array Value} {n:Nat} (q:ZbK A s.heap) (ho:s.heap.get? it=some o) (hd:o.data= .fields #[.ref l,.int i 0]) (hol:s.heap.get? l=some ol) (hdl:ol.data= .seq items n) (hx:items[i]?=none):
  wpAny (model prog w) A.in1 (Builtin.«list_iterator.__next__» ⟨[.ref it],[]⟩) (fun _ _=>False) (Zgx it s) s:=by
 refine wpAny_bind (m:=field (.ref it) 0) (wpAny_field ho hd (x:= .ref l) rfl ?_)
 dsimp only
 rw[if_neg (show ¬ ((Value.ref l == Value.none)=true) from Bool.false_ne_true)]
 refine wpAny_bind (m:=field (.ref it) 1) (wpAny_field ho hd (x:= .int i 0) rfl ?_)
 refine wpAny_bind (m:=seqItems? (.ref l)) (wpAny_seqItems hol hdl ?_)
 simp only[Int.toNat_natCast,hx]
 refine wpAny_bind (wpAny_rule (wpAny_bind (wpAny_setField ho hd (by simp) ?_)))
 have q2:ZbK A.in1 (s.heap.update it (Obj.mapFields (·.setIfInBounds 0 Value.none))):=by
  rcases q with q | ⟨ea,oe,vs,e1,e2,e3,e4⟩
  ·exact .inl q
  ·refine .inr ⟨ea,oe,vs,e1,?_,e3,e4⟩
   rw[Heap.get?_update_other _ _ (fun z=> ?_)]
   ·exact e2
   ·rw[<- z,ho] at e2
    cases e2
    rw[hd] at e3
    cases e3
    simp at e4
 refine Zcd q2 fun h' e k ho=>⟨e,rfl,ho,h',fun b o hb z=>k b o ?_,rfl⟩
 rw[Heap.get?_update_other _ _ (Ne.symm hb)]
 exact z
theorem Zml {it l:Addr} {i:Nat} {o ol:Obj} {items:Array Value} {n:Nat} (q:ZbK A s.heap) (ho:s.heap.get? it=some o) (hd:o.data= .fields #[.ref l,.int i 0]) (hol:s.heap.get? l=some ol) (hdl:ol.data= .seq items n) (hx:items[i]?=none):
  wpAny (model prog w) A.in1 (Builtin.«tuple_iterator.__next__» ⟨[.ref it],[]⟩) (fun _ _=>False) (Zgx it s) s:=by
 refine wpAny_bind (m:=field (.ref it) 0) (wpAny_field ho hd (x:= .ref l) rfl ?_)
 dsimp only
 rw[if_neg (show ¬ ((Value.ref l == Value.none)=true) from Bool.false_ne_true)]
 refine wpAny_bind (m:=field (.ref it) 1) (wpAny_field ho hd (x:= .int i 0) rfl ?_)
 refine wpAny_bind (m:=seqItems? (.ref l)) (wpAny_seqItems hol hdl ?_)
 simp only[Int.toNat_natCast,hx]
 refine wpAny_bind (wpAny_rule (wpAny_bind (wpAny_setField ho hd (by simp) ?_)))
 have q2:ZbK A.in1 (s.heap.update it (Obj.mapFields (·.setIfInBounds 0 Value.none))):=by
  rcases q with q | ⟨ea,oe,vs,e1,e2,e3,e4⟩
  ·exact .inl q
  ·refine .inr ⟨ea,oe,vs,e1,?_,e3,e4⟩
   rw[Heap.get?_update_other _ _ (fun z=> ?_)]
   ·exact e2
   ·rw[<- z,ho] at e2
    cases e2
    rw[hd] at e3
    cases e3
    simp at e4
 refine Zcd q2 fun h' e k ho=>⟨e,rfl,ho,h',fun b o hb z=>k b o ?_,rfl⟩
 rw[Heap.get?_update_other _ _ (Ne.symm hb)]
 exact z
theorem Ziy {it l:Addr} {i:Nat} {items} {Q:Option Value->Shared->Prop} (q:ZbK A s.heap) (hit:s.heap.IsListIter it l i) (hl:s.heap.IsList l items) (hx:items[i]?=none)
  (hQ: ∀ h',Heap.ExtBut it s.heap h'->Q none { s with heap:=h' }):wpAny (model prog w) A (pyNext (.ref it)) Q E s:=by
 obtain ⟨o,ho,hc,hd⟩:=id hit
 obtain ⟨ol,hol,_,nl,hdl⟩:=hl
 exact Zgy hit.typeIs slot_listiter_next entry_listiter_next (args_listiter_next _) (Zmk q ho hd hol hdl hx) hQ
theorem ZgA {it l:Addr} {i:Nat} {items} {Q:Option Value->Shared->Prop} (q:ZbK A s.heap) (hit:s.heap.IsTupleIter it l i) (hl:s.heap.IsTuple l items) (hx:items[i]?=none)
  (hQ: ∀ h',Heap.ExtBut it s.heap h'->Q none { s with heap:=h' }):wpAny (model prog w) A (pyNext (.ref it)) Q E s:=by
 obtain ⟨o,ho,hc,hd⟩:=id hit
 obtain ⟨ol,hol,_,nl,hdl⟩:=hl
 exact Zgy hit.typeIs F.slot_tuple_iterator_next F.entry_tuple_iterator_next (F.args_tuple_iterator_next_1 _) (Zml q ho hd hol hdl hx) hQ
end
end DQ
end
section
namespace L2
open PySem PySem.Spec PyProof.Rows
noncomputable abbrev Key:=Sum Int Str
noncomputable def ZfR:Key->Value->Bool
 | .inl k,v=>Value.isInt k v
 | .inr x,v=>Value.isStrOf x v
noncomputable def Ztj (w:World):Key->Int
 | .inl k=>hashInt k
 | .inr x=>hashStr w x
theorem ZN: ∀ {k:Key} {v:Value},ZfR k v=true->(∃ i t,k=Sum.inl i/\v=Value.int i t)\/(∃ x t,k=Sum.inr x/\v=Value.str x t)
 | .inl i,v,h=>by
  obtain ⟨t,e⟩:=Value.isInt_shape (k:=i) (v:=v) h
  exact .inl ⟨i,t,rfl,e⟩
 | .inr x,v,h=>by
  obtain ⟨t,e⟩:=Value.isStrOf_shape (x:=x) (v:=v) h
  exact .inr ⟨x,t,rfl,e⟩
theorem ZgB (i:Int) (t:Tok):ZfR (.inl i) (.int i t)=true:=by simp[ZfR,Value.isInt]
theorem ZgC (x:Str) (t:Tok):ZfR (.inr x) (.str x t)=true:=by simp[ZfR,Value.isStrOf]
theorem Zmm (a b:Int):decide ((Sum.inl a:Key)=Sum.inl b)=(a == b):=by
 by_cases e:a=b
 ·subst e;simp
 ·have h: ¬ (Sum.inl a:Key)=Sum.inl b:=fun q=>e (Sum.inl.inj q)
  rw[decide_eq_false h]
  exact (beq_eq_false_iff_ne.mpr e).symm
theorem Zmn (a b:Str):decide ((Sum.inr a:Key)=Sum.inr b)=decide (a=b):=by
 by_cases e:a=b
 ·subst e;simp
 ·have h: ¬ (Sum.inr a:Key)=Sum.inr b:=fun q=>e (Sum.inr.inj q)
  rw[decide_eq_false h,decide_eq_false e]
theorem Zmo (a:Int) (b:Str):decide ((Sum.inl a:Key)=Sum.inr b)=false:=decide_eq_false (fun q=>nomatch q)
theorem Zmp (a:Str) (b:Int):decide ((Sum.inr a:Key)=Sum.inl b)=false:=decide_eq_false (fun q=>nomatch q)
noncomputable def ZaF (prog:Program) (w:World):PySem.KeyKind prog w Key where
 is:=ZfR
 hash:=Ztj w
 inj:=fun v a b ha hb=>by
  rcases ZN ha with ⟨i,t,rfl,rfl⟩ | ⟨x,t,rfl,rfl⟩
  ·rcases ZN hb with ⟨j,u,rfl,e⟩ | ⟨y,u,rfl,e⟩
   ·injection e with e1 _;rw[e1]
   ·exact nomatch e
  ·rcases ZN hb with ⟨j,u,rfl,e⟩ | ⟨y,u,rfl,e⟩
   ·exact nomatch e
   ·injection e with e1 _;rw[e1]
 byValue:=fun k v h=>by
  rcases ZN h with ⟨i,t,rfl,rfl⟩ | ⟨x,t,rfl,rfl⟩<;>rfl
 pyHash:=fun hv h=>by
  rcases ZN hv with ⟨i,t,rfl,rfl⟩ | ⟨x,t,rfl,rfl⟩
  ·exact wpAny_pyHash_int h
  ·exact wpAny_pyHash_str h
 eqBool:=fun hu hv h=>by
  rcases ZN hu with ⟨i,t,rfl,rfl⟩ | ⟨x,t,rfl,rfl⟩
  ·rcases ZN hv with ⟨j,u,rfl,rfl⟩ | ⟨y,u,rfl,rfl⟩
   ·rw[Zmm] at h;exact wpAny_eqBool_int h
   ·rw[Zmo] at h;exact SeqAt.EqAt.int_str i t y u _ _ _ _ h
  ·rcases ZN hv with ⟨j,u,rfl,rfl⟩ | ⟨y,u,rfl,rfl⟩
   ·rw[Zmp] at h;exact SeqAt.EqAt.str_int x t j u _ _ _ _ h
   ·rw[Zmn] at h;exact wpAny_eqBool_str h
 «strs» :=fun k x t v h=>by
  rcases ZN h with ⟨i,u,rfl,e⟩ | ⟨y,u,rfl,e⟩
  ·exact nomatch e
  ·injection e with e1 _
   subst e1
   cases v<;>rfl
theorem ZeK (prog:Program) (w:World) (i:Int) (t:Tok):(ZaF prog w).is (.inl i) (.int i t)=true:=ZgB i t
theorem ZeL (prog:Program) (w:World) (x:Str) (t:Tok):(ZaF prog w).is (.inr x) (.str x t)=true:=ZgC x t
end L2
namespace L2
open PySem PySem.Spec PyProof.Rows
inductive V where
 |non | bl (b:Bool) | int (i:Int) | str (x:Str) | byt (b:Array UInt8) | flt (b:UInt64) | ref (a:Addr) | ty (n:String)
 deriving DecidableEq
noncomputable def ZU:V->Value->Prop
 | .non,u=>u=Value.none
 | .bl b,u=>u=Value.bool b
 | .int i,u=> ∃ t,u=Value.int i t
 | .str x,u=> ∃ t,u=Value.str x t
 | .byt b,u=> ∃ t,u=Value.bytes b t
 | .flt b,u=> ∃ t,u=Value.float b t
 | .ref a,u=>u=Value.ref a
 | .ty n,u=>u=Value.type n
noncomputable abbrev ZW:List V->List Value->Prop:=Paired ZU
theorem ZW.length {xs:List V} {us:List Value} (r:ZW xs us):xs.length=us.length:=Paired.length r
theorem ZW.get: ∀ {xs:List V} {us:List Value} {i:Nat} {x:V},ZW xs us->xs[i]?=some x-> ∃ u,us[i]?=some u/\ZU x u
 |_,_,_,_,.nil,e=>by simp at e
 |_,_,0,_,.cons r _,e=>by simp at e;subst e;exact ⟨_,rfl,r⟩
 |_,_,i + 1,x,.cons _ t,e=>by
  obtain ⟨u,h1,h2⟩:=ZW.get (i:=i) (x:=x) t (by simpa using e)
  exact ⟨u,by simpa using h1,h2⟩
theorem ZW.append: ∀ {xs ys:List V} {us ws:List Value},ZW xs us->ZW ys ws->ZW (xs ++ ys) (us ++ ws)
 |_,_,_,_,.nil,s=>s
 |_,_,_,_,.cons r t,s=> .cons r (ZW.append t s)
theorem ZW.take: ∀ {xs:List V} {us:List Value} (n:Nat),ZW xs us->ZW (xs.take n) (us.take n)
 |_,_,0,_=> .nil
 |_,_,_ + 1,.nil=> .nil
 |_,_,n + 1,.cons r t=> .cons r (ZW.take n t)
theorem ZW.drop: ∀ {xs:List V} {us:List Value} (n:Nat),ZW xs us->ZW (xs.drop n) (us.drop n)
 |_,_,0,r=>r
 |_,_,_ + 1,.nil=> .nil
 |_,_,n + 1,.cons _ t=>ZW.drop n t
noncomputable def Zmi:Option V->Option Value->Prop
 |some v,some u=>ZU v u
 |none,none=>True
 |_,_=>False
noncomputable def KV {κ:Type}:List (κ × V)->List (κ × Value)->Prop:=Paired fun (p:κ × V) (q:κ × Value)=>p.1=q.1/\ZU p.2 q.2
noncomputable def kV:Key->V
 | .inl i=> .int i
 | .inr x=> .str x
inductive HO where
 |lst (xs:List V)
 |tup (xs:List V)
 |dK (kvs:List (Key × V)) | dT (kvs:List (List Key × V))
 |set (S:Int->Bool) (n:Nat)
 |ins (C dx:Addr) (fs:List (Str × V))
 |own (x:Addr)
 |xd (fs:List (Str × V))
 |met (f x:Addr)
 |rng (lo hi:Int)
 |frz (o:Obj) (u:HO)
 |tbl (ps:Array Value)
 |ext (φ:Heap->Prop)
noncomputable abbrev Hp:=Addr->Option HO
noncomputable def upd (H:Hp) (a:Addr) (o:HO):Hp:=fun b=>if b=a then some o else H b
theorem Zr {H:Hp} {a:Addr} {o:HO}:upd H a o a=some o:=by unfold upd;rw[if_pos rfl]
theorem ZJ {H:Hp} {a b:Addr} {o:HO} (h:b≠a):upd H a o b=H b:=by unfold upd;rw[if_neg h]
theorem ZpV {H:Hp} {a b:Addr} {o u:HO} (h:H a=some o) (h':H b=some u) (d:o≠u):a≠b:=by
 intro e;subst e;rw[h] at h';exact d (Option.some.inj h')
theorem Z9 {H:Hp} {a b:Addr} {o:HO} (h:H a=some o) (h':H b=none):a≠b:=by
 intro e;subst e;rw[h] at h';cases h'
section
variable (P:Program) (w:World)
noncomputable def Zba (H:Hp) (h:Heap) (a:Addr):HO->Prop
 | .lst xs=>xs.length<=sizeLine/\ ∃ (its:List Value) (n:Nat),ZW xs its/\h.get? a=some { cls:= .type "list",data:= .seq its.toArray n }
 | .tup xs=>xs.length<=sizeLine/\ ∃ its:List Value,ZW xs its/\IsTup h a its.toArray
 | .dK kvs=>kvs.length<=sizeLine/\(a == sysModules)=false/\ ∃ vs,KV kvs vs/\h.DictOf (ZaF P w) a vs
 | .dT kvs=>kvs.length<=sizeLine/\(a == sysModules)=false/\ ∃ xs:List (List Key × Addr × Value),
   Paired (fun (p:List Key × V) (q:List Key × Addr × Value)=>p.1=q.1/\H q.2.1=some (.tup (p.1.map kV))/\ZU p.2 q.2.2) kvs xs/\
   ∃ o es ep,h.get? a=some o/\o.ExactDict/\o.data= .dict es ep/\es.toList=xs.map (entryOfKey (tupleKind (ZaF P w)))/\(xs.map (·.1)).Nodup
 | .set S n=>h.SetOf (intKind P w) a S n
 | .ins C dx fs=>H dx=some (.own a)/\fs.length<=1000/\dx≠a/\h.get? a=some (PySem.W.instObj C dx)/\
   ∃ mA,h.Ns1 dx mA/\(∀ f,Zmi (fs.lookup f) (mA f))/\PySem.Within mA (fs.map (·.1))
 | .own _=> ∃ o,h.get? a=some o
 | .xd fs=> ∃ mA,h.Ns1 a mA/\ ∀ f,Zmi (fs.lookup f) (mA f)
 | .rng lo hi=> ∃ t u v,h.get? a=some { cls:= .type "range",data:= .fields #[.int lo t,.int hi u,.int 1 v] }
 | .frz o u=>h.get? a=some o/\Zba H h a u
 | .tbl ps=>h.get? a=some { cls:= .none,data:= .fields ps }
 | .met f x=>h.get? a=some (PySem.W.methodObj (.ref f) (.ref x))
 | .ext φ=>φ h/\(∃ o,h.get? a=some o)/\ ∀ h1 h2:Heap,φ h1->(∀ o,h1.get? a=some o->h2.get? a=some o)->φ h2
noncomputable def HOk (H:Hp) (h:Heap):Prop:= ∀ a o,H a=some o->Zba P w H h a o
end
section
variable {P:Program} {w:World} {H H':Hp} {h h':Heap} {a:Addr} {o:HO}
theorem Zba.lt (x:Zba P w H h a o):a < h.objs.size:=by
 cases o with
 |lst xs=>obtain ⟨_,_,_,_,e⟩:=x;exact Heap.lt_size e
 |tup xs=>obtain ⟨_,_,_,p⟩:=x;exact p.lt
 |dK kvs=>obtain ⟨_,_,_,_,o,_,_,e,_⟩:=x;exact Heap.lt_size e
 |dT kvs=>obtain ⟨_,_,_,_,o,_,_,e,_⟩:=x;exact Heap.lt_size e
 |set S n=>obtain ⟨o,_,_,_,e,_⟩:=x;exact Heap.lt_size e
 |ins C dx fs=>obtain ⟨_,_,_,e,_⟩:=x;exact Heap.lt_size e
 |own y=>obtain ⟨_,e⟩:=x;exact Heap.lt_size e
 |xd fs=>obtain ⟨_,⟨_,_,_,e,_⟩,_⟩:=x;exact Heap.lt_size e
 |rng lo hi=>obtain ⟨_,_,_,e⟩:=x;exact Heap.lt_size e
 |frz ob u=>obtain ⟨e,_⟩:=x;exact Heap.lt_size e
 |tbl ps=>exact Heap.lt_size (show h.get? a=some _ from x)
 |met f y=>exact Heap.lt_size (show h.get? a=some _ from x)
 |ext φ=>obtain ⟨_,⟨_,e⟩,_⟩:=x;exact Heap.lt_size e
theorem Paired.mapP {α β:Type} {F G:α->β->Prop}: ∀ {l₁:List α} {l₂:List β},Paired F l₁ l₂->(∀ a b,F a b->G a b)->Paired G l₁ l₂
 |_,_,.nil,_=> .nil
 |_,_,.cons r t,f=> .cons (f _ _ r) (Paired.mapP t f)
theorem Zba.stay (x:Zba P w H h a o) (k: ∀ b u,(b=a\/H b=some (.own a))->h.get? b=some u->h'.get? b=some u)
  (ho: ∀ b,H b=some (.own a)->H' b=some (.own a)) (ht: ∀ b xs,H b=some (.tup xs)->H' b=some (.tup xs)):Zba P w H' h' a o:=by
 induction o with
 |lst xs=>obtain ⟨z,its,n,r,e⟩:=x;exact ⟨z,its,n,r,k _ _ (.inl rfl) e⟩
 |tup xs=>obtain ⟨z,its,r,ob,e,c⟩:=x;exact ⟨z,its,r,ob,k _ _ (.inl rfl) e,c⟩
 |dK kvs=>obtain ⟨z,y,vs,r,ob,es,ep,e,c⟩:=x;exact ⟨z,y,vs,r,ob,es,ep,k _ _ (.inl rfl) e,c⟩
 |dT kvs=>
  obtain ⟨z,y,xs,r,ob,es,ep,e,c⟩:=x
  exact ⟨z,y,xs,Paired.mapP r fun p q z=>⟨z.1,ht _ _ z.2.1,z.2.2⟩,ob,es,ep,k _ _ (.inl rfl) e,c⟩
 |set S n=>obtain ⟨ob,es,ep,t,e,c⟩:=x;exact ⟨ob,es,ep,t,k _ _ (.inl rfl) e,c⟩
 |ins C dx fs=>
  obtain ⟨d,z,ne,e,mA,⟨od,es,ep,e2,c⟩,r⟩:=x
  exact ⟨ho _ d,z,ne,k _ _ (.inl rfl) e,mA,⟨od,es,ep,k _ _ (.inr d) e2,c⟩,r⟩
 |own y=>obtain ⟨ob,e⟩:=x;exact ⟨ob,k _ _ (.inl rfl) e⟩
 |xd fs=>obtain ⟨mA,⟨od,es,ep,e,c⟩,r⟩:=x;exact ⟨mA,⟨od,es,ep,k _ _ (.inl rfl) e,c⟩,r⟩
 |rng lo hi=>obtain ⟨t,u,v,e⟩:=x;exact ⟨t,u,v,k _ _ (.inl rfl) e⟩
 |frz ob u ih=>obtain ⟨e,q⟩:=x;exact ⟨k _ _ (.inl rfl) e,ih q⟩
 |tbl ps=>
  have e:h.get? a=some { cls:= .none,data:= .fields ps }:=x
  show h'.get? a=some { cls:= .none,data:= .fields ps }
  exact k a _ (.inl rfl) e
 |met f y=>
  have e:h.get? a=some (PySem.W.methodObj (.ref f) (.ref y)):=x
  show h'.get? a=some (PySem.W.methodObj (.ref f) (.ref y))
  exact k a _ (.inl rfl) e
 |ext φ=>obtain ⟨p,⟨o,e⟩,st⟩:=x;exact ⟨st _ _ p fun o q=>k _ _ (.inl rfl) q,⟨o,k _ _ (.inl rfl) e⟩,st⟩
theorem HOk.lt (x:HOk P w H h) (e:H a=some o):a < h.objs.size:=(x a o e).lt
theorem HOk.fresh (x:HOk P w H h) (e:h.objs.size<=a):H a=none:=by
 cases q:H a with
 |none=>rfl
 |some u=>exact absurd (Nat.lt_of_lt_of_le (x.lt q) e) (Nat.lt_irrefl _)
theorem HOk.kept (x:HOk P w H h) (k: ∀ b u,h.get? b=some u->h'.get? b=some u):HOk P w H h':=fun a o e=>
 (x a o e).stay (fun b u _ q=>k b u q) (fun _ q=>q) fun _ _ q=>q
theorem HOk.laid (x:HOk P w H h) (k: ∀ b u,h.get? b=some u->h'.get? b=some u) (hp:h.objs.size<=a) (new:Zba P w (upd H a o) h' a o):HOk P w (upd H a o) h':=fun b u e=>by
 have hn:=x.fresh hp
 by_cases hb:b=a
 ·subst hb;rw[Zr] at e;cases e;exact new
 ·rw[ZJ hb] at e
  exact (x b u e).stay (fun c v _ q=>k c v q) (fun c q=>by rw[ZJ (Z9 q hn)];exact q) fun c xs q=>by rw[ZJ (Z9 q hn)];exact q
end
noncomputable def Rd (H:Hp) (a:Addr) (u:HO):Prop:=H a=some u\/ ∃ o,H a=some (.frz o u)
theorem Rd.ok {P:Program} {w:World} {H:Hp} {h:Heap} {a:Addr} {u:HO} (r:Rd H a u) (x:HOk P w H h):Zba P w H h a u:=by
 rcases r with r | ⟨o,r⟩
 ·exact x a u r
 ·obtain ⟨_,q⟩:=x a _ r
  exact q
noncomputable def Mut:Option HO->Prop
 |some (.lst _)=>True
 |some (.dK _)=>True
 |some (.dT _)=>True
 |some (.set _ _)=>True
 |some (.ins _ _ _)=>True
 |some (.ext _)=>True
 |_=>False
section
variable {P:Program} {w:World} {H:Hp} {h h':Heap} {x e:Addr} {o':HO}
theorem HOk.write (ok:HOk P w H h) (mu:Mut (H x)) (he:e=x\/H e=some (.own x)) (k: ∀ b u,b≠e->h.get? b=some u->h'.get? b=some u) (heo: ∃ u,h'.get? e=some u)
  (new:Zba P w (upd H x o') h' x o'):HOk P w (upd H x o') h':=fun b u q=>by
 have nown: ∀ c y,H c=some (.own y)->c≠x:=fun c y r z=>by subst z;rw[r] at mu;exact mu
 have ntup: ∀ c xs,H c=some (.tup xs)->c≠x:=fun c xs r z=>by subst z;rw[r] at mu;exact mu
 by_cases hb:b=x
 ·subst hb;rw[Zr] at q;cases q;exact new
 ·rw[ZJ hb] at q
  by_cases hbe:b=e
  ·have q':H b=some (.own x):=by
    rcases he with z | z
    ·exact absurd (hbe.trans z) hb
    ·rw[hbe];exact z
   rw[q] at q';cases q'
   obtain ⟨v,hv⟩:=heo
   exact ⟨v,by rw[hbe];exact hv⟩
  ·refine (ok b u q).stay (fun c v hc r=>k c v ?_ r) (fun c r=>by rw[ZJ (nown c b r)];exact r) fun c xs r=>by rw[ZJ (ntup c xs r)];exact r
   rcases hc with rfl | hc
   ·exact hbe
   ·rintro rfl
    rcases he with z | z
    ·exact nown c b hc z
    ·rw[hc] at z;cases z;exact hb rfl
end
structure Un (fs ex:List Addr) (H H':Hp) (h h':Heap):Prop where
 keep: ∀ b o,h.get? b=some o->H b=none->b ∉ fs->b ∉ ex->h'.get? b=some o
 slot: ∀ b o,h.get? b=some o->H b=none->b∈fs->b ∉ ex-> ∃ sl,h'.get? b=some { o with slots:=sl }
 free: ∀ b o,h.get? b=some o->H b=none->b ∉ ex->H' b=none
 there: ∀ b o,h.get? b=some o->b ∉ ex-> ∃ o',h'.get? b=some o'
 tups: ∀ b xs,H b=some (.tup xs)->H' b=some (.tup xs)
 frzs: ∀ b o u,H b=some (.frz o u)->H' b=some (.frz o u)
 tbls: ∀ b ps,H b=some (.tbl ps)-> ∃ more,H' b=some (.tbl (ps ++ more))
section
variable {fs fs' ex ex':List Addr} {H H1 H2:Hp} {h h1 h2 h':Heap} {a x e:Addr} {o:HO}
theorem Un.any (u:Un fs ex H H1 h h1) {b:Addr} {ob:Obj} (q:h.get? b=some ob) (n:H b=none) (hx:b ∉ ex): ∃ sl,h1.get? b=some { ob with slots:=sl }:=by
 by_cases hb:b∈fs
 ·exact u.slot b ob q n hb hx
 ·exact ⟨ob.slots,u.keep b ob q n hb hx⟩
theorem Un.kept (k: ∀ b u,h.get? b=some u->h'.get? b=some u):Un fs ex H H h h':=
 ⟨fun b ob q _ _ _=>k b ob q,fun b ob q _ _ _=>⟨ob.slots,k b ob q⟩,fun _ _ _ n _=>n,fun b ob q _=>⟨ob,k b ob q⟩,fun _ _ q=>q,fun _ _ _ q=>q,fun _ ps q=>⟨#[],by rw[q];simp⟩⟩
theorem Un.refl:Un fs ex H H h h:=Un.kept fun _ _ q=>q
theorem Un.laid (k: ∀ b u,h.get? b=some u->h'.get? b=some u) (hp:h.objs.size<=a) (hn:H a=none):Un fs ex H (upd H a o) h h' where
 keep:=fun b u q _ _ _=>k b u q
 slot:=fun b u q _ _ _=>⟨u.slots,k b u q⟩
 free:=fun b u q n _=>by rw[ZJ (Nat.ne_of_lt (Nat.lt_of_lt_of_le (Heap.lt_size q) hp))];exact n
 there:=fun b u q _=>⟨u,k b u q⟩
 tups:=fun b xs q=>by rw[ZJ (Z9 q hn)];exact q
 frzs:=fun b u xs q=>by rw[ZJ (Z9 q hn)];exact q
 tbls:=fun b ps q=>⟨#[],by rw[ZJ (Z9 q hn),q];simp⟩
theorem Un.write (mu:Mut (H x)) (he:e=x\/H e=some (.own x)) (k: ∀ b u,b≠e->h.get? b=some u->h'.get? b=some u) (heo: ∃ u,h'.get? e=some u):Un fs ex H (upd H x o) h h':=by
 have hx: ∀ b,H b=none->b≠x:=fun b n z=>by subst z;rw[n] at mu;exact mu
 have hb: ∀ b,H b=none->b≠e:=fun b n z=>by
  subst z
  rcases he with r | r
  ·exact hx b n r
  ·rw[n] at r;cases r
 have hm: ∀ b u,H b=some u-> ¬ Mut (some u)->b≠x:=fun b u q nm z=>by subst z;rw[q] at mu;exact nm mu
 refine ⟨fun b u q n _ _=>k b u (hb b n) q,fun b u q n _ _=>⟨u.slots,k b u (hb b n) q⟩,fun b u q n _=>by rw[ZJ (hx b n)];exact n,fun b u q _=> ?_,
  fun b xs q=>by rw[ZJ (hm b _ q fun z=>z)];exact q,fun b u xs q=>by rw[ZJ (hm b _ q fun z=>z)];exact q,fun b ps q=>⟨#[],by rw[ZJ (hm b _ q fun z=>z),q];simp⟩⟩
 by_cases hbe:b=e
 ·subst hbe;exact heo
 ·exact ⟨u,k b u hbe q⟩
end
noncomputable def trk (h:Heap) (H:Hp):List Addr:=(List.range h.objs.size).filter fun a=>(H a).isSome
noncomputable def Ziv (h:Heap) (H:Hp):Heap:=PySem.W.hideAll h (trk h H)
theorem ZgD (h:Heap) (H:Hp):(Ziv h H).objs.size=h.objs.size:=PySem.W.hideAll_size _ _
theorem Zfh {h:Heap} {H:Hp} {b:Addr} {o:Obj} (e:h.get? b=some o) (n:H b=none):(Ziv h H).get? b=some o:=
 PySem.W.hideAll_get _ e fun hm=>by
  have q:(H b).isSome=true:=(List.mem_filter.mp hm).2
  rw[n] at q;simp at q
theorem ZgE {h:Heap} {H:Hp} {b:Addr} {o:Obj} (e:(Ziv h H).get? b=some o):h.get? b=some o/\H b=none:=by
 have e':h.get? b=some o:=PySem.W.of_hideAll (trk h H) e
 refine ⟨e',?_⟩
 cases q:H b with
 |none=>rfl
 |some x=>
  have hm:b∈trk h H:=List.mem_filter.mpr ⟨List.mem_range.mpr (Heap.lt_size e'),by simp[q]⟩
  have z:(Ziv h H).get? b=none:=PySem.W.hideAll_none (trk h H) hm
  rw[z] at e;cases e
end L2
namespace L2
open PySem PySem.Spec PyProof.Rows
structure Mod (K:PySem.W.Frag) (mg:Str->Option Value) (base:Heap):Prop where
 kin:K.In base
 glob:base.Ns mainGlobals mg
 blt: ∃ mb,base.Ns builtinsNs mb/\ ∀ x:Str,x≠"__name__"->mb x=bootBuiltins x
 nolimit:base.NoLimit
structure Cx where
 prog:Program
 w:World
 K:PySem.W.Frag
 mg:Str->Option Value
 base:Heap
 A:Around
 N:List Str
 s₀:Shared
 H₀:Hp
 env:Env
 outer:List Env
 stack:List Env
 ex:List Addr
 fn:Str->Bool
 calm:Bool
 pn:List (Addr × Obj)
 xe:Value->Shared->Prop
noncomputable def frs (l:List Env):List Addr:=l.filterMap (·.frame)
noncomputable abbrev Cx.fs (X:Cx):List Addr:=frs X.outer
noncomputable def Vis (sc:Scope) (x:Str):Prop:=sc.names.lookup x=some .local\/sc.names.lookup x=some .cell\/sc.names.lookup x=some .free
noncomputable def Loc (sc:Scope) (x:Str):Prop:=sc.names.lookup x=some .local\/sc.names.lookup x=some .cell
noncomputable def Ztk (env:Env) (h:Heap) (m:Str->Option Value) (x:Str) (u:Value):Prop:=
 (env.kindOf x=some .local/\m x=some u)\/((env.kindOf x=some .cell\/env.kindOf x=some .free)/\ ∃ c,env.cells.lookup x=some c/\h.IsCell c (some u))
structure Cx.Ok (X:Cx):Prop where
 mod:Mod X.K X.mg X.base
 kind:X.env.scope.kind= .function
 glob:X.env.globals=mainGlobals
 blt:X.env.builtins=builtinsNs
 above:X.s₀.heap.objs.size<=X.env.locals
 inj: ∀ x y c,X.env.cells.lookup x=some c->X.env.cells.lookup y=some c->x=y
 has: ∀ x,(X.env.kindOf x=some .cell\/X.env.kindOf x=some .free)-> ∃ c,X.env.cells.lookup x=some c
 cab: ∀ x c,X.fn x=true->X.env.cells.lookup x=some c->X.s₀.heap.objs.size<=c
 hd:X.calm=true->X.A.handled=none
 frames:X.A.frames=some X.stack
 stk:X.stack=X.outer\/(X.stack=X.env :: X.outer/\X.env.frame=some X.env.locals)
 exf: ∀ b∈X.ex,b≠X.env.locals/\ ∀ x c,X.env.cells.lookup x=some c->c≠b
 bs: ∀ b o,X.base.get? b=some o->X.s₀.heap.get? b=some o/\X.H₀ b=none
 bsz:X.base.objs.size<=X.s₀.heap.objs.size
 noex: ∀ b o,X.base.get? b=some o->b ∉ X.ex
 exfs: ∀ b∈X.ex,b ∉ X.fs
 funs:X.s₀.heap.FunFrames X.base X.outer
 frf: ∀ b∈X.fs,X.H₀ b=none
noncomputable def Qd (A:Around) (H:Hp):Prop:=A.handled=none\/ ∃ ea oe u vs,A.handled=some (.ref ea)/\H ea=some (.frz oe u)/\oe.data= .fields vs/\vs[2]?=some .none
theorem Qd.mono {A:Around} {H H':Hp} (q:Qd A H) (k: ∀ b o u,H b=some (.frz o u)->H' b=some (.frz o u)):Qd A H':=by
 rcases q with q | ⟨ea,oe,u,vs,e1,e2,e3,e4⟩
 ·exact .inl q
 ·exact .inr ⟨ea,oe,u,vs,e1,k _ _ _ e2,e3,e4⟩
structure Inv (X:Cx) (pins:List (Addr × Obj)) (σ:List (Option V)) (H:Hp) (s:Shared):Prop where
 ok:X.Ok
 os:s.os=X.s₀.os
 bare:AllBare s.gens
 base:Un X.fs X.ex X.H₀ H X.s₀.heap s.heap
 loc: ∃ m,s.heap.Ns X.env.locals m/\ ∀ (i:Nat) (x:Str) (v:V),X.N[i]?=some x->σ[i]?=some (some v)->Vis X.env.scope x-> ∃ u,ZU v u/\Ztk X.env s.heap m x u
 cell: ∀ x c,X.env.cells.lookup x=some c-> ∃ v,s.heap.IsCell c v
 free:H X.env.locals=none
 freeC: ∀ x c,X.env.cells.lookup x=some c->H c=none
 pin: ∀ p∈X.pn ++ pins,s.heap.get? p.1=some p.2/\H p.1=none/\p.1≠X.env.locals/\p.1 ∉ X.fs/\ ∀ v,p.2.data≠ .cell v
 hok:HOk X.prog X.w H s.heap
 len:σ.length=X.N.length
 qd:Qd X.A H
section
variable {X:Cx} {pins:List (Addr × Obj)} {σ:List (Option V)} {H H':Hp} {s:Shared} {h':Heap}
theorem Cx.Ok.nofr (ok:X.Ok) {b:Addr} {o:Obj} (e:X.base.get? b=some o):b ∉ X.fs:=fun hb=>by
 have:=(ok.funs.mem hb).1
 rw[e] at this;cases this
theorem Inv.bs (I:Inv X pins σ H s): ∀ b o,X.base.get? b=some o->s.heap.get? b=some o/\H b=none:=fun b o e=>
 ⟨I.base.keep b o (I.ok.bs b o e).1 (I.ok.bs b o e).2 (I.ok.nofr e) (I.ok.noex b o e),I.base.free b o (I.ok.bs b o e).1 (I.ok.bs b o e).2 (I.ok.noex b o e)⟩
theorem Inv.qh (I:Inv X pins σ H s):DQ.ZbK X.A s.heap:=by
 rcases I.qd with q | ⟨ea,oe,u,vs,e1,e2,e3,e4⟩
 ·exact .inl q
 ·exact .inr ⟨ea,oe,vs,e1,(I.hok _ _ e2).1,e3,e4⟩
theorem Inv.bk (I:Inv X pins σ H s): ∀ b o,X.base.get? b=some o->s.heap.get? b=some o:=fun b o e=>(I.bs b o e).1
theorem Inv.mod (I:Inv X pins σ H s):Mod X.K X.mg X.base:=I.ok.mod
theorem Inv.kIn (I:Inv X pins σ H s):X.K.In s.heap:=I.ok.mod.kin.keeps I.bk
theorem Inv.fr (I:Inv X pins σ H s): ∃ m,Fr X.base X.env.locals s.heap m:=
 let ⟨m,hn,_⟩:=I.loc
 ⟨m,hn,I.bk,Nat.le_trans I.ok.bsz I.ok.above⟩
theorem Inv.lt (I:Inv X pins σ H s):X.env.locals < s.heap.objs.size:=let ⟨_,hn,_⟩:=I.loc;hn.lt
theorem Inv.sz (I:Inv X pins σ H s):X.s₀.heap.objs.size<=s.heap.objs.size:=Nat.le_trans I.ok.above (Nat.le_of_lt I.lt)
theorem Inv.nofs (I:Inv X pins σ H s) {a:Addr} (h:s.heap.objs.size<=a):a ∉ X.fs:=fun hb=>by
 obtain ⟨_,o,ho,_⟩:=I.ok.funs.mem hb
 exact absurd (Nat.lt_of_lt_of_le (Heap.lt_size ho) (Nat.le_trans I.sz h)) (Nat.lt_irrefl _)
theorem Inv.cne (I:Inv X pins σ H s): ∀ x c,X.env.cells.lookup x=some c->c≠X.env.locals:=fun x c e z=>by
 obtain ⟨v,o,ho,hd⟩:=I.cell x c e
 obtain ⟨m,⟨o',es,ep,ho',hd',_⟩,_⟩:=I.loc
 rw[z,ho'] at ho;cases ho;rw[hd'] at hd;cases hd
theorem Inv.funs (I:Inv X pins σ H s):s.heap.FunFrames X.base X.outer:=by
 have all: ∀ (l:List Env),(∀ b∈frs l,b∈X.fs)->X.s₀.heap.FunFrames X.base l->s.heap.FunFrames X.base l:=by
  intro l
  induction l with
  |nil=>intro _ _;trivial
  |cons env r ih=>
   intro hs hl
   obtain ⟨hk,⟨L,o,hf,hn,ho,hd⟩,hr⟩:=hl
   have hL:L∈X.fs:=hs L (by unfold frs;rw[List.filterMap_cons,hf];exact List.mem_cons_self)
   obtain ⟨sl,e⟩:=I.base.slot L o ho (I.ok.frf L hL) hL fun z=>I.ok.exfs L z hL
   exact ⟨hk,⟨L,_,hf,hn,e,hd⟩,ih (fun b hb=>hs b (by unfold frs;rw[List.filterMap_cons,hf];exact List.mem_cons_of_mem _ hb)) hr⟩
 exact all X.outer (fun _ hb=>hb) I.ok.funs
theorem Inv.stack (I:Inv X pins σ H s):s.heap.FunFrames X.base X.stack:=by
 rcases I.ok.stk with e | ⟨e,hf⟩
 ·rw[e];exact I.funs
 ·rw[e]
  obtain ⟨m,hn,_⟩:=I.loc
  refine .cons (by rw[I.ok.kind];decide) hf hn ?_ I.funs
  exact Heap.get?_none_of_le (Nat.le_trans I.ok.bsz I.ok.above)
theorem Inv.stkSub (I:Inv X pins σ H s): ∀ b∈frs X.stack,b∈X.env.locals :: X.fs:=fun b hb=>by
 rcases I.ok.stk with e | ⟨e,hf⟩
 ·rw[e] at hb;exact List.mem_cons_of_mem _ hb
 ·rw[e] at hb
  unfold frs at hb
  rw[List.filterMap_cons,hf] at hb
  exact hb
theorem Inv.stkFree (I:Inv X pins σ H s): ∀ b∈frs X.stack,H b=none:=fun b hb=>by
 rcases List.mem_cons.mp (I.stkSub b hb) with e | hb
 ·rw[e];exact I.free
 ·obtain ⟨_,o,ho,_⟩:=I.ok.funs.mem hb
  exact I.base.free b o ho (I.ok.frf b hb) fun z=>I.ok.exfs b z hb
theorem Inv.step {g':Array GenState} {t':Nat} {d':Drawn} {ch:List Addr} (I:Inv X pins σ H s)
  (hch: ∀ b∈ch,(b∈X.ex\/X.s₀.heap.objs.size<=b)/\b≠X.env.locals/\(∀ x c,X.env.cells.lookup x=some c->c≠b)/\ ∀ p∈X.pn ++ pins,p.1≠b)
  (keep: ∀ b o,b≠X.env.locals->b ∉ X.fs->b ∉ ch->s.heap.get? b=some o->H b=none->h'.get? b=some o)
  (slot: ∀ b o,b≠X.env.locals->b∈X.fs->b ∉ ch->s.heap.get? b=some o->H b=none-> ∃ sl,h'.get? b=some { o with slots:=sl }) (free: ∀ b o,b ∉ ch->s.heap.get? b=some o->H b=none->H' b=none)
  (there: ∀ b o,b ∉ ch->s.heap.get? b=some o-> ∃ o',h'.get? b=some o')
  (tups: ∀ b xs,H b=some (.tup xs)->H' b=some (.tup xs)) (frzs: ∀ b o u,H b=some (.frz o u)->H' b=some (.frz o u)) (tbls: ∀ b ps,H b=some (.tbl ps)-> ∃ more,H' b=some (.tbl (ps ++ more)))
  (ns: ∀ m,s.heap.Ns X.env.locals m->h'.Ns X.env.locals m) (hok:HOk X.prog X.w H' h') (hg:AllBare g'):
  Inv X pins σ H' { s with heap:=h',gens:=g',drawn:=d',toks:=t' }:=by
 have neL: ∀ b o,X.s₀.heap.get? b=some o->b≠X.env.locals:=fun b o e=>Nat.ne_of_lt (Nat.lt_of_lt_of_le (Heap.lt_size e) I.ok.above)
 have neC: ∀ b o,X.s₀.heap.get? b=some o->b ∉ X.ex->b ∉ ch:=fun b o e hx hb=>by
  rcases (hch b hb).1 with z | z
  ·exact hx z
  ·exact absurd (Nat.lt_of_lt_of_le (Heap.lt_size e) z) (Nat.lt_irrefl _)
 have cellK: ∀ x c,X.env.cells.lookup x=some c-> ∀ v,s.heap.IsCell c v->h'.IsCell c v:=fun x c e v ⟨o,ho,hd⟩=>by
  have nch:c ∉ ch:=fun z=>(hch c z).2.2.1 x c e rfl
  by_cases hc:c∈X.fs
  ·obtain ⟨sl,q⟩:=slot c o (I.cne x c e) hc nch ho (I.freeC x c e)
   exact ⟨_,q,hd⟩
  ·exact ⟨o,keep c o (I.cne x c e) hc nch ho (I.freeC x c e),hd⟩
 refine ⟨I.ok,I.os,hg,⟨fun b o e n hb hx=> ?_,fun b o e n hb hx=> ?_,fun b o e n hx=> ?_,fun b o e hx=> ?_,fun b xs e=>tups b xs (I.base.tups b xs e),fun b o xs e=>frzs b o xs (I.base.frzs b o xs e),fun b ps e=> ?_⟩,?_,fun x c e=> ?_,?_,fun x c e=> ?_,fun p hp=> ?_,hok,I.len,I.qd.mono frzs⟩
 ·exact keep b o (neL b o e) hb (neC b o e hx) (I.base.keep b o e n hb hx) (I.base.free b o e n hx)
 ·obtain ⟨sl,e1⟩:=I.base.slot b o e n hb hx
  obtain ⟨sl',e2⟩:=slot b _ (neL b o e) hb (neC b o e hx) e1 (I.base.free b o e n hx)
  exact ⟨sl',e2⟩
 ·obtain ⟨o',e1⟩:=I.base.there b o e hx
  exact free b o' (neC b o e hx) e1 (I.base.free b o e n hx)
 ·obtain ⟨o',e1⟩:=I.base.there b o e hx
  exact there b o' (neC b o e hx) e1
 ·obtain ⟨m1,e1⟩:=I.base.tbls b ps e
  obtain ⟨m2,e2⟩:=tbls b _ e1
  exact ⟨m1 ++ m2,by rw[e2,Array.append_assoc]⟩
 ·obtain ⟨m,hn,hl⟩:=I.loc
  refine ⟨m,ns m hn,fun i x v e1 e2 e3=> ?_⟩
  obtain ⟨u,r,l⟩:=hl i x v e1 e2 e3
  refine ⟨u,r,?_⟩
  rcases l with l | ⟨k,c,e,z⟩
  ·exact .inl l
  ·exact .inr ⟨k,c,e,cellK x c e _ z⟩
 ·obtain ⟨v,z⟩:=I.cell x c e
  exact ⟨v,cellK x c e v z⟩
 ·obtain ⟨m,⟨o,_,_,ho,_⟩,_⟩:=I.loc
  exact free _ o (fun z=>(hch _ z).2.1 rfl) ho I.free
 ·obtain ⟨v,o,ho,hd⟩:=I.cell x c e
  exact free c o (fun z=>(hch c z).2.2.1 x c e rfl) ho (I.freeC x c e)
 ·obtain ⟨e,n,ne,nf,d⟩:=I.pin p hp
  have nch:p.1 ∉ ch:=fun z=>(hch p.1 z).2.2.2 p hp rfl
  exact ⟨keep p.1 p.2 ne nf nch e n,free p.1 p.2 nch e n,ne,nf,d⟩
theorem Inv.un {t':Nat} (I:Inv X pins σ H s) (u:Un X.fs [] H H' s.heap h') (hok:HOk X.prog X.w H' h'):Inv X pins σ H' { s with heap:=h',toks:=t' }:=by
 obtain ⟨m,⟨o,es,ep,ho,r⟩,_⟩:=id I.loc
 obtain ⟨sl,hL⟩:=u.any ho I.free (by simp)
 exact I.step (g':=s.gens) (d':=s.drawn) (ch:=[]) (fun _ z=>nomatch z) (fun b o _ hb _ e n=>u.keep b o e n hb (by simp)) (fun b o _ hb _ e n=>u.slot b o e n hb (by simp)) (fun b o _ e n=>u.free b o e n (by simp)) (fun b o _ e=>u.there b o e (by simp)) u.tups u.frzs u.tbls (fun m' hm=>by
  obtain ⟨o',es',ep',ho',r'⟩:=hm
  rw[ho] at ho';cases ho'
  exact ⟨_,es',ep',hL,r'⟩) hok I.bare
theorem Inv.call {g':Array GenState} {t':Nat} {d':Drawn} {ch:List Addr} (I:Inv X pins σ H s) (u:Un (frs X.stack) ch H H' s.heap h') (hok:HOk X.prog X.w H' h') (hg:AllBare g')
  (hch: ∀ b∈ch,(b∈X.ex\/X.s₀.heap.objs.size<=b)/\b≠X.env.locals/\(∀ x c,X.env.cells.lookup x=some c->c≠b)/\ ∀ p∈X.pn ++ pins,p.1≠b):
  Inv X pins σ H' { s with heap:=h',gens:=g',drawn:=d',toks:=t' }:=by
 obtain ⟨m,⟨o,es,ep,ho,r⟩,_⟩:=id I.loc
 obtain ⟨sl,hL⟩:=u.any ho I.free fun z=>(hch _ z).2.1 rfl
 exact I.step (ch:=ch) hch (fun b o hL hb hc e n=>u.keep b o e n (fun z=>(List.mem_cons.mp (I.stkSub b z)).elim hL hb) hc) (fun b o _ _ hc e n=>u.any e n hc) (fun b o hc e n=>u.free b o e n hc) (fun b o hc e=>u.there b o e hc) u.tups u.frzs u.tbls (fun m' hm=>by
  obtain ⟨o',es',ep',ho',r'⟩:=hm
  rw[ho] at ho';cases ho'
  exact ⟨_,es',ep',hL,r'⟩) hok hg
theorem Inv.turned {t':Nat} {it:Addr} (I:Inv X pins σ H s) (k: ∀ b o,b≠it->s.heap.get? b=some o->h'.get? b=some o) (hn:H it=none) (hL:it≠X.env.locals)
  (h1:it∈X.ex\/X.s₀.heap.objs.size<=it) (h2: ∀ x c,X.env.cells.lookup x=some c->c≠it) (h3: ∀ p∈X.pn ++ pins,p.1≠it):Inv X pins σ H { s with heap:=h',toks:=t' }:=by
 have nit: ∀ b u,H b=some u->b≠it:=fun b u e z=>by rw[z,hn] at e;cases e
 refine I.step (g':=s.gens) (d':=s.drawn) (ch:=[it]) (fun b hb=> ?_) (fun b o _ _ hc e _=>k b o (fun z=>hc (by simp[z])) e) (fun b o _ _ hc e _=>⟨o.slots,k b o (fun z=>hc (by simp[z])) e⟩) (fun _ _ _ _ n=>n)
  (fun b o hc e=>⟨o,k b o (fun z=>hc (by simp[z])) e⟩) (fun _ _ e=>e) (fun _ _ _ e=>e) (fun b ps e=>⟨#[],by rw[e];simp⟩) (fun m hm=> ?_) (fun b u e=> ?_) I.bare
 ·have e:b=it:=by simpa using hb
  subst e
  exact ⟨h1,hL,h2,h3⟩
 ·obtain ⟨o,es,ep,ho,r⟩:=hm
  exact ⟨o,es,ep,k _ o (Ne.symm hL) ho,r⟩
 ·refine (I.hok b u e).stay (fun c v hc q=>k c v ?_ q) (fun _ q=>q) fun _ _ q=>q
  rcases hc with z | z
  ·rw[z];exact nit b u e
  ·exact nit c _ z
theorem Inv.tok (I:Inv X pins σ H s) (t:Nat):Inv X pins σ H { s with toks:=t }:=I.un (h':=s.heap) (t':=t) Un.refl I.hok
theorem Inv.kept {t':Nat} (I:Inv X pins σ H s) (k: ∀ b u,s.heap.get? b=some u->h'.get? b=some u):Inv X pins σ H { s with heap:=h',toks:=t' }:=I.un (Un.kept k) (I.hok.kept k)
theorem Inv.laid {a:Addr} {o:HO} {t':Nat} (I:Inv X pins σ H s) (k: ∀ b u,s.heap.get? b=some u->h'.get? b=some u) (hp:s.heap.objs.size<=a) (new:Zba X.prog X.w (upd H a o) h' a o):
  Inv X pins σ (upd H a o) { s with heap:=h',toks:=t' }:=I.un (Un.laid k hp (I.hok.fresh hp)) (I.hok.laid k hp new)
theorem Inv.write {x e:Addr} {o:HO} {t':Nat} (I:Inv X pins σ H s) (mu:Mut (H x)) (he:e=x\/H e=some (.own x)) (k: ∀ b u,b≠e->s.heap.get? b=some u->h'.get? b=some u) (heo: ∃ u,h'.get? e=some u)
  (new:Zba X.prog X.w (upd H x o) h' x o):Inv X pins σ (upd H x o) { s with heap:=h',toks:=t' }:=I.un (Un.write mu he k heo) (I.hok.write mu he k heo new)
theorem Inv.pins_of {pins':List (Addr × Obj)} (I:Inv X pins σ H s) (h: ∀ p∈pins',s.heap.get? p.1=some p.2/\H p.1=none/\p.1≠X.env.locals/\p.1 ∉ X.fs/\ ∀ v,p.2.data≠ .cell v):Inv X pins' σ H s:=
 ⟨I.ok,I.os,I.bare,I.base,I.loc,I.cell,I.free,I.freeC,fun p hp=>(List.mem_append.mp hp).elim (fun z=>I.pin p (List.mem_append_left _ z)) (h p),I.hok,I.len,I.qd⟩
theorem Zfi {N:List Str} (hN:N.Nodup) {i j:Nat} {x:Str} (a:N[i]?=some x) (b:N[j]?=some x):i=j:=by
 obtain ⟨h1,e1⟩:=List.getElem?_eq_some_iff.mp a
 obtain ⟨h2,e2⟩:=List.getElem?_eq_some_iff.mp b
 exact (List.getElem_inj hN).mp (e1.trans e2.symm)
theorem ZdU {M:Model} {A:Around} {E:Value->Shared->Prop} {i:Nat} {x:Str} {v:V} {u:Value} {Q:Unit->Shared->Prop} (I:Inv X pins σ H s) (hN:X.N.Nodup) (hi:X.N[i]?=some x) (hx:Loc X.env.scope x) (r:ZU v u)
  (h: ∀ s',Inv X pins (σ.set i (some v)) H s'->(∃ a,Heap.SameBut a s.heap s'.heap/\(a=X.env.locals\/X.env.cells.lookup x=some a))->Q () s') (hf:X.fn x=true\/X.env.scope.names.lookup x=some .local:=by first | exact .inl rfl | exact .inr rfl | assumption):wpAny M A (storeName X.env x u) Q E s:=by
 obtain ⟨m,hn,hl⟩:=id I.loc
 have hcls:(X.env.scope.kind == .class || (X.env.scope.kind == .module && X.env.locals != X.env.globals))=false:=by rw[I.ok.kind];rfl
 have hiσ:i < σ.length:=by rw[I.len];exact (List.getElem?_eq_some_iff.mp hi).1
 have cne:=I.cne
 have tracked: ∀ {a:Addr} {h':Heap},(∃ o,s.heap.get? a=some o/\H a=none)->Heap.SameBut a s.heap h'->HOk X.prog X.w H h':=fun {a h'} ha hs b ob e=>by
  obtain ⟨_,_,hfree⟩:=ha
  refine (I.hok b ob e).stay (fun c w' hc q=>(hs.2 c ?_).trans q) (fun _ q=>q) fun _ _ q=>q
  rintro rfl
  rcases hc with rfl | hc
  ·rw[hfree] at e;cases e
  ·rw[hfree] at hc;cases hc
 rcases hx with hk | hk
 ·refine wpAny_storeName_local hk hn (fun h' hn' hs=> ?_) hcls
  obtain ⟨oL,_,_,hoL,_⟩:=id hn
  refine h _ ⟨I.ok,I.os,I.bare,⟨fun b o e n hb hx=> ?_,fun b o e n hb hx=> ?_,I.base.free,fun b o e hx=> ?_,I.base.tups,I.base.frzs,I.base.tbls⟩,⟨_,hn',fun j y v' e1 e2 e3=> ?_⟩,fun y c e=> ?_,I.free,I.freeC,fun p hp=> ?_,tracked ⟨oL,hoL,I.free⟩ hs,by simpa using I.len,I.qd⟩ ⟨_,hs,.inl rfl⟩
  ·exact (hs.2 b (Nat.ne_of_lt (Nat.lt_of_lt_of_le (Heap.lt_size e) I.ok.above))).trans (I.base.keep b o e n hb hx)
  ·obtain ⟨sl,e1⟩:=I.base.slot b o e n hb hx
   exact ⟨sl,(hs.2 b (Nat.ne_of_lt (Nat.lt_of_lt_of_le (Heap.lt_size e) I.ok.above))).trans e1⟩
  ·obtain ⟨o',e1⟩:=I.base.there b o e hx
   exact ⟨o',(hs.2 b (Nat.ne_of_lt (Nat.lt_of_lt_of_le (Heap.lt_size e) I.ok.above))).trans e1⟩
  ·by_cases hj:j=i
   ·subst hj
    rw[hi] at e1;cases e1
    rw[List.getElem?_set_self hiσ] at e2
    cases e2
    exact ⟨u,r,.inl ⟨hk,by simp⟩⟩
   ·rw[List.getElem?_set_ne (Ne.symm hj)] at e2
    obtain ⟨u',r',q⟩:=hl j y v' e1 e2 e3
    refine ⟨u',r',?_⟩
    rcases q with ⟨k,e⟩ | ⟨k,c,e,z⟩
    ·refine .inl ⟨k,?_⟩
     have:y≠x:=fun e=>hj (Zfi hN e1 (e ▸ hi))
     simp[this,e]
    ·exact .inr ⟨k,c,e,z.sameBut hs (cne y c e)⟩
  ·obtain ⟨w',z⟩:=I.cell y c e
   exact ⟨w',z.sameBut hs (cne y c e)⟩
  ·obtain ⟨e,n,ne,nf,d⟩:=I.pin p hp
   exact ⟨(hs.2 p.1 ne).trans e,n,ne,nf,d⟩
 ·have hfn:X.fn x=true:=by
   rcases hf with z | z
   ·exact z
   ·rw[z] at hk;cases hk
  obtain ⟨c,hc⟩:=I.ok.has x (.inl hk)
  obtain ⟨w',z⟩:=I.cell x c hc
  refine wpAny_storeName_cell I.ok.kind hk hc z (fun h' hc' hs=> ?_)
  obtain ⟨oc,hoc,hocd⟩:=id z
  refine h { s with heap:=h' } ⟨I.ok,I.os,I.bare,⟨fun b o e n hb hx=> ?_,fun b o e n hb hx=> ?_,I.base.free,fun b o e hx=> ?_,I.base.tups,I.base.frzs,I.base.tbls⟩,⟨m,hn.sameBut hs (Ne.symm (cne x c hc)),fun j y v' e1 e2 e3=> ?_⟩,fun y c' e=> ?_,I.free,I.freeC,fun p hp=> ?_,tracked ⟨oc,hoc,I.freeC x c hc⟩ hs,by simpa using I.len,I.qd⟩ ⟨c,hs,.inr hc⟩
  ·exact (hs.2 b (Nat.ne_of_lt (Nat.lt_of_lt_of_le (Heap.lt_size e) (I.ok.cab x c hfn hc)))).trans (I.base.keep b o e n hb hx)
  ·obtain ⟨sl,e1⟩:=I.base.slot b o e n hb hx
   exact ⟨sl,(hs.2 b (Nat.ne_of_lt (Nat.lt_of_lt_of_le (Heap.lt_size e) (I.ok.cab x c hfn hc)))).trans e1⟩
  ·obtain ⟨o',e1⟩:=I.base.there b o e hx
   exact ⟨o',(hs.2 b (Nat.ne_of_lt (Nat.lt_of_lt_of_le (Heap.lt_size e) (I.ok.cab x c hfn hc)))).trans e1⟩
  ·by_cases hj:j=i
   ·subst hj
    rw[hi] at e1;cases e1
    rw[List.getElem?_set_self hiσ] at e2
    cases e2
    exact ⟨u,r,.inr ⟨.inl hk,c,hc,hc'⟩⟩
   ·rw[List.getElem?_set_ne (Ne.symm hj)] at e2
    obtain ⟨u',r',q⟩:=hl j y v' e1 e2 e3
    refine ⟨u',r',?_⟩
    rcases q with q | ⟨k,c',e,z'⟩
    ·exact .inl q
    ·refine .inr ⟨k,c',e,z'.sameBut hs ?_⟩
     rintro rfl
     exact hj (Zfi hN e1 (I.ok.inj _ _ _ e hc ▸ hi))
  ·by_cases hcc:c'=c
   ·subst hcc;exact ⟨_,hc'⟩
   ·obtain ⟨w2,z2⟩:=I.cell y c' e
    exact ⟨w2,z2.sameBut hs hcc⟩
  ·obtain ⟨e,n,ne,nf,d⟩:=I.pin p hp
   refine ⟨(hs.2 p.1 ?_).trans e,n,ne,nf,d⟩
   intro q
   rw[q,hoc] at e
   have q':oc=p.2:=Option.some.inj e
   exact d w' (by rw[<- q'];exact hocd)
theorem Zcz {M:Model} {A:Around} {E:Value->Shared->Prop} {i:Nat} {x:Str} {v:V} {u:Value} {Q:Unit->Shared->Prop} (I:Inv X pins σ H s) (hN:X.N.Nodup) (hi:X.N[i]?=some x) (hx:Loc X.env.scope x) (r:ZU v u)
  (h: ∀ s',Inv X pins (σ.set i (some v)) H s'->Q () s') (hf:X.fn x=true\/X.env.scope.names.lookup x=some .local:=by first | exact .inl rfl | exact .inr rfl | assumption):wpAny M A (storeName X.env x u) Q E s:=
 ZdU I hN hi hx r (fun s' I' _=>h s' I') hf
theorem Inv.call' {s':Shared} {ch:List Addr} (I:Inv X pins σ H s) (ho:s'.os=s.os) (u:Un (frs X.stack) ch H H' s.heap s'.heap) (hok:HOk X.prog X.w H' s'.heap) (hg:AllBare s'.gens)
  (hch: ∀ b∈ch,(b∈X.ex\/X.s₀.heap.objs.size<=b)/\b≠X.env.locals/\(∀ x c,X.env.cells.lookup x=some c->c≠b)/\ ∀ p∈X.pn ++ pins,p.1≠b):Inv X pins σ H' s':=by
 obtain ⟨h',g',d',t',o'⟩:=s'
 have e:o'=s.os:=ho
 subst e
 exact I.call (g':=g') (t':=t') (d':=d') u hok hg hch
end
noncomputable abbrev XK:=Value->Option Addr->Hp->Prop
noncomputable abbrev St:=List (Option V)
noncomputable abbrev VK:=V->Hp->Prop
noncomputable abbrev TE:=St->Hp->VK->Prop
noncomputable abbrev TT:=St->Hp->(Bool->Hp->Prop)->Prop
noncomputable abbrev TA:=St->Hp->(List V->Hp->Prop)->Prop
structure Ends where
 nx:St->Hp->Prop
 rt:VK
 bk:St->Hp->Prop:=fun _ _=>False
 ct:St->Hp->Prop:=fun _ _=>False
noncomputable abbrev TS:=Ends->St->Hp->Prop
noncomputable def EP (X:Cx) (pins:List (Addr × Obj)) (σ:St) (Q:VK) (u:Value) (s':Shared):Prop:= ∃ v H',Inv X pins σ H' s'/\ZU v u/\Q v H'
noncomputable def TP (X:Cx) (pins:List (Addr × Obj)) (σ:St) (Q:Bool->Hp->Prop) (b:Bool) (s':Shared):Prop:= ∃ H',Inv X pins σ H' s'/\Q b H'
noncomputable def AP (X:Cx) (pins:List (Addr × Obj)) (σ:St) (Q:List V->Hp->Prop) (us:List Value) (s':Shared):Prop:= ∃ vs H',Inv X pins σ H' s'/\ZW vs us/\Q vs H'
noncomputable def SP (X:Cx) (pins:List (Addr × Obj)) (D:Ends) (f:Flow) (s':Shared):Prop:=
 match f with
 | .next=> ∃ σ' H',Inv X pins σ' H' s'/\D.nx σ' H'
 | .brk=> ∃ σ' H',Inv X pins σ' H' s'/\D.bk σ' H'
 | .cont=> ∃ σ' H',Inv X pins σ' H' s'/\D.ct σ' H'
 | .ret u=> ∃ v σ' H',Inv X pins σ' H' s'/\ZU v u/\D.rt v H'
noncomputable def PE (X:Cx) (e:Expr) (t:TE):Prop:=
 ∀ (pins:List (Addr × Obj)) (s:Shared) (σ:St) (H:Hp) (Q:VK),Inv X pins σ H s->t σ H Q->wpAny (model X.prog X.w) X.A (eval e X.env) (EP X pins σ Q) X.xe s
noncomputable def PT (X:Cx) (e:Expr) (t:TT):Prop:=
 ∀ (pins:List (Addr × Obj)) (s:Shared) (σ:St) (H:Hp) (Q:Bool->Hp->Prop),Inv X pins σ H s->t σ H Q->wpAny (model X.prog X.w) X.A (isTrue e X.env (eval e X.env)) (TP X pins σ Q) X.xe s
noncomputable def PW (X:Cx) (e:Expr) (t:TT):Prop:=
 ∀ (whole:Sem Value) (pins:List (Addr × Obj)) (s:Shared) (σ:St) (H:Hp) (Q:Bool->Hp->Prop),Inv X pins σ H s->t σ H Q->wpAny (model X.prog X.w) X.A (isTrue e X.env whole) (TP X pins σ Q) X.xe s
theorem PW.pt {X:Cx} {e:Expr} {t:TT} (h:PW X e t):PT X e t:=h _
noncomputable def PA (X:Cx) (es:List Expr) (t:TA):Prop:=
 ∀ (pos:Pos) (pins:List (Addr × Obj)) (s:Shared) (σ:St) (H:Hp) (Q:List V->Hp->Prop),Inv X pins σ H s->t σ H Q->wpAny (model X.prog X.w) X.A (spliced (backTo pos (starEach es X.env))) (AP X pins σ Q) X.xe s
noncomputable def PS (X:Cx) (st:Stmt) (t:TS):Prop:=
 ∀ (pins:List (Addr × Obj)) (s:Shared) (σ:St) (H:Hp) (D:Ends),Inv X pins σ H s->t D σ H->wpAny (model X.prog X.w) X.A (exec st X.env) (SP X pins D) X.xe s
noncomputable def PSs (X:Cx) (st:List Stmt) (t:TS):Prop:=
 ∀ (pins:List (Addr × Obj)) (s:Shared) (σ:St) (H:Hp) (D:Ends),Inv X pins σ H s->t D σ H->wpAny (model X.prog X.w) X.A (execs st X.env) (SP X pins D) X.xe s
theorem thn {α:Type} {t:Sem α} {Q Q':α->Shared->Prop} {M:Model} {A:Around} {E:Value->Shared->Prop} {s:Shared} (h:wpAny M A t Q E s) (hQ: ∀ a s,Q a s->Q' a s):wpAny M A t Q' E s:=wpAny_mono h hQ fun _ _ x=>x
end L2
namespace L2
open PySem PySem.Spec PyProof.Rows
section
variable {X:Cx}
theorem bin {a b:Expr} {ta tb:TE} (ha:PE X a ta) (hb:PE X b tb) {pins:List (Addr × Obj)} {s:Shared} {σ:St} {H:Hp} {R:V->V->Hp->Prop} (I:Inv X pins σ H s) (h:ta σ H fun x H1=>tb σ H1 fun y H2=>R x y H2)
  {α:Type} {Q:α->Shared->Prop} {f:Value->Value->Sem α}
  (hf: ∀ v u s2 x y H2,Inv X pins σ H2 s2->ZU x v->ZU y u->R x y H2->wpAny (model X.prog X.w) X.A (f v u) Q X.xe s2):
  wpAny (model X.prog X.w) X.A (eval a X.env) (fun v s₁=>wpAny (model X.prog X.w) X.A (eval b X.env) (fun u s₂=>wpAny (model X.prog X.w) X.A (f v u) Q X.xe s₂) X.xe s₁) X.xe s:=by
 refine thn (ha pins s σ H _ I h) fun v s1 ⟨x,H1,I1,r1,q1⟩=> ?_
 refine thn (hb pins s1 σ H1 _ I1 q1) fun u s2 ⟨y,H2,I2,r2,q2⟩=> ?_
 exact hf v u s2 x y H2 I2 r1 r2 q2
noncomputable def Ztl (i:Nat):TE:=fun σ H Q=> ∃ v,σ[i]?=some (some v)/\Q v H
noncomputable def tC (v:V):TE:=fun _ H Q=>Q v H
theorem Zmq {i:Nat} {x:Str} {pos:Pos} (hN:X.N[i]?=some x) (hv:Vis X.env.scope x) (hd:(x == ("__debug__":Str))=false:=by decide) (hcd:(x == ("__classdict__":Str))=false:=by decide):PE X (.Name x pos) (Ztl i):=by
 intro pins s σ H Q I h
 obtain ⟨v,e,h⟩:=h
 obtain ⟨m,hn,hl⟩:=I.loc
 obtain ⟨u,r,l⟩:=hl i x v hN e hv
 have fin:EP X pins σ Q u s:=⟨v,H,I,r,h⟩
 rcases l with ⟨hk,hm⟩ | ⟨hk,c,hc,hcell⟩
 ·exact wpAny_Name (wpAny_loadName_local I.ok.kind hk hn hm fin) hd
 ·rcases hk with hk | hk
  ·exact wpAny_Name (wpAny_loadName_cell I.ok.kind hk hc hcell fin) hd
  ·exact wpAny_Name (wpAny_loadName_free I.ok.kind hk hc hcell fin hcd) hd
theorem ZgF {i j pos}:PE X (.Constant (.int i) j pos) (tC (.int i)):=fun _ _ _ H _ I h=>wpAny_Constant_int ⟨.int i,H,I.tok _,⟨_,rfl⟩,h⟩
theorem ZpW {b j pos}:PE X (.Constant (.bool b) j pos) (tC (.bl b)):=fun _ _ _ H _ I h=>Constant_bool ⟨.bl b,H,I,rfl,h⟩
theorem Zmr {j pos}:PE X (.Constant .none j pos) (tC .non):=fun _ _ _ H _ I h=>Constant_none ⟨.non,H,I,rfl,h⟩
theorem Zms {x j pos}:PE X (.Constant (.str x) j pos) (tC (.str x)):=fun _ _ _ H _ I h=>Calls.Constant_str ⟨.str x,H,I.tok _,⟨_,rfl⟩,h⟩
noncomputable def Gl (X:Cx) (x:Str):Prop:=X.env.kindOf x=some .globalImplicit
theorem Zdq {E:Value->Shared->Prop} {pins:List (Addr × Obj)} {s:Shared} {σ:St} {H:Hp} {x:Str} {u:Value} {pos:Pos} {Q:Value->Shared->Prop} (I:Inv X pins σ H s) (hg:Gl X x) (hm:X.mg x=some u) (h:Q u s)
  (hd:(x == ("__debug__":Str))=false:=by decide):wpAny (model X.prog X.w) X.A (eval (.Name x pos) X.env) Q E s:=
 Calls.Name_function_global I.ok.kind hg (Calls.loadGlobal_global (by rw[I.ok.glob];exact I.mod.glob.keeps I.bk) hm h) hd
theorem ZbW {E:Value->Shared->Prop} {pins:List (Addr × Obj)} {s:Shared} {σ:St} {H:Hp} {x:Str} {u:Value} {pos:Pos} {Q:Value->Shared->Prop} (I:Inv X pins σ H s) (hg:Gl X x) (hm:X.mg x=none) (hv:bootBuiltins x=some u) (h:Q u s)
  (hn:x≠"__name__":=by decide) (hd:(x == ("__debug__":Str))=false:=by decide):wpAny (model X.prog X.w) X.A (eval (.Name x pos) X.env) Q E s:=by
 obtain ⟨mb,h1,h2⟩:=I.mod.blt
 exact Calls.Name_function_global I.ok.kind hg (Calls.loadGlobal_builtin (by rw[I.ok.glob];exact I.mod.glob.keeps I.bk) hm (by rw[I.ok.blt];exact h1.keeps I.bk) ((h2 x hn).trans hv) h) hd
theorem Zky {x:Str} {v:V} {u:Value} {pos:Pos} (hg:Gl X x) (hm:X.mg x=some u) (r:ZU v u) (hd:(x == ("__debug__":Str))=false:=by decide):PE X (.Name x pos) (tC v):=
 fun _ _ _ H _ I h=>Zdq I hg hm ⟨v,H,I,r,h⟩ hd
theorem Zkz {x:Str} {v:V} {u:Value} {pos:Pos} (hg:Gl X x) (hm:X.mg x=none) (hv:bootBuiltins x=some u) (r:ZU v u) (hn:x≠"__name__":=by decide) (hd:(x == ("__debug__":Str))=false:=by decide):PE X (.Name x pos) (tC v):=
 fun _ _ _ H _ I h=>ZbW I hg hm hv ⟨v,H,I,r,h⟩ hn hd
variable {a b:Expr} {ta tb:TE} {pos:Pos}
noncomputable def PC (X:Cx) (op:CmpOp) (a b:Expr) (t:TE):Prop:=
 ∀ (pins:List (Addr × Obj)) (s:Shared) (σ:St) (H:Hp) (Q:VK),Inv X pins σ H s->t σ H Q->
  wpAny (model X.prog X.w) X.A (eval a X.env) (fun v s₁=>wpAny (model X.prog X.w) X.A (eval b X.env) (fun u s₂=>wpAny (model X.prog X.w) X.A (compareOp op v u) (EP X pins σ Q) X.xe s₂) X.xe s₁) X.xe s
theorem Ziz (b:Expr) {op:CmpOp} (h:op≠ .In) (h2:op≠ .NotIn):behindInMarks op b=false:=by
 have e1:(op == CmpOp.In)=false:=by cases op<;>first | rfl | exact absurd rfl h
 have e2:(op == CmpOp.NotIn)=false:=by cases op<;>first | rfl | exact absurd rfl h2
 cases b<;>simp[behindInMarks,e1,e2]
noncomputable def tB (t:TE):TT:=fun σ H Q=>t σ H fun x H1=> ∃ c,x= .bl c/\Q c H1
theorem Zr9 {op:CmpOp} {t:TE} (h:PC X op a b t) (h1:behindInMarks op b=false:=by first | exact Ziz _ (by decide) (by decide) | rfl):PT X (.Compare a [op] [b] pos) (tB t):=by
 intro pins s σ H Q I hw
 refine wpAny_isTrue_Compare1 (thn (h pins s σ H _ I hw) fun v s1 h1=>thn h1 fun u s2 h2=>thn h2 fun c s3 ⟨x,H1,I1,r1,q1⟩=> ?_) h1
 obtain ⟨d,rfl,q⟩:=q1
 cases r1
 exact wpAny_truthy_bool ⟨H1,I1,q⟩
theorem Zmt {e:Expr} {t:TE} (h:PE X e t) (he: ∀ whole,isTrue e X.env whole=(do let v <- whole;standAt e.pos;holding [v] (truthy v)):=by intro _;rfl):PT X e (tB t):=by
 intro pins s σ H Q I hw
 refine isTrue_plain (thn (h pins s σ H _ I hw) fun v s1 ⟨x,H1,I1,r1,q1⟩=> ?_) (he _)
 obtain ⟨d,rfl,q⟩:=q1
 cases r1
 exact wpAny_truthy_bool ⟨H1,I1,q⟩
variable {tA tB':TT} {rest:List Expr}
noncomputable def Ztm (t u:TT):TT:=fun σ H Q=>t σ H fun c H1=>if c=true then u σ H1 Q else Q false H1
noncomputable def tOr (t u:TT):TT:=fun σ H Q=>t σ H fun c H1=>if c=true then Q true H1 else u σ H1 Q
noncomputable def Ztn (t:TT):TT:=fun σ H Q=>t σ H fun c H1=>Q (!c) H1
theorem pw_and1 (ha:PT X a tA):PW X (.BoolOp .And [a] pos) tA:=by
 intro wh pins s σ H Q I h
 refine isTrue_and (thn (ha pins s σ H Q I h) fun c s1 e=> ?_)
 cases c with
 |true=>exact isTrue_and_nil e
 |false=>exact e
theorem pw_or1 (ha:PT X a tA):PW X (.BoolOp .Or [a] pos) tA:=by
 intro wh pins s σ H Q I h
 refine isTrue_or (thn (ha pins s σ H Q I h) fun c s1 e=> ?_)
 cases c with
 |false=>exact isTrue_or_nil e
 |true=>exact e
theorem pw_and (ha:PT X a tA) (hb:PW X (.BoolOp .And (b :: rest) pos) tB'):PW X (.BoolOp .And (a :: b :: rest) pos) (Ztm tA tB'):=by
 intro wh pins s σ H Q I h
 refine isTrue_and (thn (ha pins s σ H _ I h) fun c s1 ⟨H1,I1,q1⟩=> ?_)
 cases c with
 |true=>exact hb wh pins s1 σ H1 Q I1 q1
 |false=>exact ⟨H1,I1,q1⟩
theorem pw_or (ha:PT X a tA) (hb:PW X (.BoolOp .Or (b :: rest) pos) tB'):PW X (.BoolOp .Or (a :: b :: rest) pos) (tOr tA tB'):=by
 intro wh pins s σ H Q I h
 refine isTrue_or (thn (ha pins s σ H _ I h) fun c s1 ⟨H1,I1,q1⟩=> ?_)
 cases c with
 |true=>exact ⟨H1,I1,q1⟩
 |false=>exact hb wh pins s1 σ H1 Q I1 q1
theorem Zmu (ha:PT X a tA):PT X (.UnaryOp .Not a pos) (Ztn tA):=by
 intro pins s σ H Q I h
 exact isTrue_not (ha pins s σ H (fun c H1=>Q (!c) H1) I h)
noncomputable def tIf (t:TT) (ta tb:TE):TE:=fun σ H Q=>t σ H fun c H1=>if c=true then ta σ H1 Q else tb σ H1 Q
theorem ZiA {c:Expr} (hc:PT X c tA) (ha:PE X a ta) (hb:PE X b tb):PE X (.IfExp c a b pos) (tIf tA ta tb):=by
 intro pins s σ H Q I h
 refine wpAny_IfExp (thn (hc pins s σ H _ I h) fun d s1 ⟨H1,I1,q1⟩=> ?_)
 cases d with
 |true=>exact ha pins s1 σ H1 Q I1 q1
 |false=>exact hb pins s1 σ H1 Q I1 q1
end
end L2
namespace L2
open PySem PySem.Spec PyProof.Rows
noncomputable def SqL (K:PySem.W.Frag) (H:Hp) (a:Addr) (xs:List V):Prop:=
 Rd H a (.lst xs)\/
  ∃ (o:Obj) (its:Array Value) (n:Nat),K.lookup a=some o/\o.cls= .type "list"/\o.dict=none/\o.data= .seq its n/\its.size<=sizeLine/\ZW xs its.toList
noncomputable def SqT (K:PySem.W.Frag) (H:Hp) (a:Addr) (xs:List V):Prop:=
 Rd H a (.tup xs)\/
  ∃ (o:Obj) (its:Array Value) (n:Nat),K.lookup a=some o/\o.cls= .type "tuple"/\o.data= .seq its n/\its.size<=sizeLine/\ZW xs its.toList
noncomputable def Zto:Value->Option V
 | .none=>some .non
 | .bool b=>some (.bl b)
 | .int i _=>some (.int i)
 | .str x _=>some (.str x)
 | .bytes b _=>some (.byt b)
 | .float b _=>some (.flt b)
 | .ref a=>some (.ref a)
 | .type n=>some (.ty n)
 |_=>none
theorem ZU.abs {x:V} {u:Value} (r:ZU x u):Zto u=some x:=by
 cases x with
 |non=>cases r;rfl
 |bl _=>cases r;rfl
 |int _=>obtain ⟨t,rfl⟩:=r;rfl
 |str _=>obtain ⟨t,rfl⟩:=r;rfl
 |byt _=>obtain ⟨t,rfl⟩:=r;rfl
 |flt _=>obtain ⟨t,rfl⟩:=r;rfl
 |ref _=>cases r;rfl
 |ty _=>cases r;rfl
theorem ZU.inj {x y:V} {u:Value} (r:ZU x u) (q:ZU y u):x=y:=Option.some.inj (r.abs.symm.trans q.abs)
theorem ZW.inj: ∀ {xs ys:List V} {us:List Value},ZW xs us->ZW ys us->xs=ys
 |_,_,_,.nil,.nil=>rfl
 |_,_,_,.cons r t,.cons r' t'=>by rw[r.inj r',ZW.inj t t']
section
variable {X:Cx} {pins:List (Addr × Obj)} {σ:St} {H:Hp} {s:Shared} {a:Addr} {xs ys:List V}
theorem SqL.of {K:PySem.W.Frag} (h:H a=some (.lst xs)):SqL K H a xs:= .inl (.inl h)
theorem SqT.of {K:PySem.W.Frag} (h:H a=some (.tup xs)):SqT K H a xs:= .inl (.inl h)
theorem Inv.list (I:Inv X pins σ H s) (h:SqL X.K H a xs): ∃ its:List Value,ZW xs its/\PlainL s.heap a its.toArray/\xs.length<=sizeLine:=by
 rcases h with h | ⟨o,its,n,hk,hc,hd,hs,hz,r⟩
 ·obtain ⟨z,its,n,r,e⟩:=h.ok I.hok
  exact ⟨its,r,⟨_,n,e,rfl,rfl,rfl⟩,z⟩
 ·refine ⟨its.toList,r,⟨o,n,I.kIn a o hk,hc,hd,by simpa using hs⟩,?_⟩
  have e:=r.length
  simp only[Array.length_toList] at e
  omega
theorem Inv.tuple (I:Inv X pins σ H s) (h:SqT X.K H a xs): ∃ its:List Value,ZW xs its/\IsTup s.heap a its.toArray/\xs.length<=sizeLine:=by
 rcases h with h | ⟨o,its,n,hk,hc,hs,hz,r⟩
 ·obtain ⟨z,its,r,p⟩:=h.ok I.hok
  exact ⟨its,r,p,z⟩
 ·refine ⟨its.toList,r,⟨o,I.kIn a o hk,hc,n,by simpa using hs⟩,?_⟩
  have e:=r.length
  simp only[Array.length_toList] at e
  omega
theorem Inv.list_inj (I:Inv X pins σ H s) (h:SqL X.K H a xs) (h':SqL X.K H a ys):xs=ys:=by
 obtain ⟨its,r,⟨o,n,e,_,_,d⟩,_⟩:=I.list h
 obtain ⟨its',r',⟨o',n',e',_,_,d'⟩,_⟩:=I.list h'
 rw[e] at e';cases e'
 rw[d] at d'
 injection d' with d1 _
 have:its=its':=by simpa using congrArg Array.toList d1
 subst this
 exact r.inj r'
theorem Inv.tuple_inj (I:Inv X pins σ H s) (h:SqT X.K H a xs) (h':SqT X.K H a ys):xs=ys:=by
 obtain ⟨its,r,⟨o,e,_,n,d⟩,_⟩:=I.tuple h
 obtain ⟨its',r',⟨o',e',_,n',d'⟩,_⟩:=I.tuple h'
 rw[e] at e';cases e'
 rw[d] at d'
 injection d' with d1 _
 have:its=its':=by simpa using congrArg Array.toList d1
 subst this
 exact r.inj r'
end
section
variable {X:Cx} {pins:List (Addr × Obj)} {σ:St} {H:Hp} {s:Shared} {E:Value->Shared->Prop}
end
section
variable {X:Cx} {st:Stmt} {rest:List Stmt} {t u:TS} {e:Expr} {te:TE} {pos:Pos}
noncomputable def tNext:TS:=fun D σ H=>D.nx σ H
noncomputable def Ztp (t u:TS):TS:=fun D σ H=>t { D with nx:=u D } σ H
theorem ZkA:PSs X [] tNext:=fun _ _ σ H _ I h=>wpAny_execs_nil ⟨σ,H,I,h⟩
theorem ZiB (h1:PS X st t) (h2:PSs X rest u):PSs X (st :: rest) (Ztp t u):=by
 intro pins s σ H D I h
 refine wpAny_execs_cons (thn (h1 pins s σ H { D with nx:=u D } I h) fun f s1 q=> ?_)
 cases f with
 |next=>
  obtain ⟨σ',H',I',q⟩:=q
  exact h2 pins s1 σ' H' D I' q
 |ret v=>exact q
 |brk=>exact q
 |cont=>exact q
theorem ZkB (h1:PS X st t):PSs X [st] t:=by
 intro pins s σ H D I h
 refine wpAny_execs_cons (thn (h1 pins s σ H D I h) fun f s1 q=> ?_)
 cases f with
 |next=>exact wpAny_execs_nil q
 |ret v=>exact q
 |brk=>exact q
 |cont=>exact q
theorem Inv.quiet {pins:List (Addr × Obj)} {σ:St} {H:Hp} {s:Shared} (I:Inv X pins σ H s):interactive X.env=false:=by simp[interactive,I.ok.kind]
noncomputable def ZpX (te:TE):TS:=fun D σ H=>te σ H fun _ H1=>D.nx σ H1
theorem ZkC (he:PE X e te) (hs:swapsWith e none pos.line X.env=pure false:=by rfl):PS X (.Expr e pos) (ZpX te):=by
 intro pins s σ H D I h
 exact wpAny_Expr_any (thn (he pins s σ H _ I h) fun v s1 ⟨x,H1,I1,r1,q1⟩=>⟨σ,H1,I1,q1⟩) I.quiet hs
noncomputable def Ztq (te:TE):TS:=fun D σ H=>te σ H D.rt
theorem Zmv (he:PE X e te):PS X (.Return (some e) pos) (Ztq te):=by
 intro pins s σ H D I h
 exact wpAny_Return_some (thn (he pins s σ H _ I h) fun v s1 ⟨x,H1,I1,r1,q1⟩=>⟨x,σ,H1,I1,r1,q1⟩)
noncomputable def Ztr (c:TT) (t u:TS):TS:=fun D σ H=>c σ H fun b H1=>if b=true then t D σ H1 else u D σ H1
theorem ZpY {c:Expr} {a b:List Stmt} {tc:TT} (hc:PT X c tc) (ha:PSs X a t) (hb:PSs X b u):PS X (.If c a b pos) (Ztr tc t u):=by
 intro pins s σ H D I h
 refine wpAny_If (thn (hc pins s σ H _ I h) fun d s1 ⟨H1,I1,q1⟩=> ?_)
 cases d with
 |true=>exact ha pins s1 σ H1 D I1 q1
 |false=>exact hb pins s1 σ H1 D I1 q1
end
noncomputable abbrev TG:=V->St->Hp->(St->Hp->Prop)->Prop
noncomputable abbrev TGs:=List V->St->Hp->(St->Hp->Prop)->Prop
noncomputable def PG (X:Cx) (target:Expr) (t:TG):Prop:=
 ∀ (pins:List (Addr × Obj)) (s:Shared) (σ:St) (H:Hp) (v:V) (u:Value) (Q:St->Hp->Prop),Inv X pins σ H s->ZU v u->t v σ H Q->
  wpAny (model X.prog X.w) X.A (assign target X.env u) (fun _ s'=> ∃ σ' H',Inv X pins σ' H' s'/\Q σ' H') X.xe s
noncomputable def PGs (X:Cx) (ts:List Expr) (t:TGs):Prop:=
 ∀ (pins:List (Addr × Obj)) (s:Shared) (σ:St) (H:Hp) (vs:List V) (us:List Value) (Q:St->Hp->Prop),Inv X pins σ H s->ZW vs us->t vs σ H Q->
  wpAny (model X.prog X.w) X.A (assignInOrder ((assignEach ts X.env).map (·.2)) us) (fun _ s'=> ∃ σ' H',Inv X pins σ' H' s'/\Q σ' H') X.xe s
section
variable {X:Cx} {pos:Pos}
noncomputable def Zmw (i:Nat):TG:=fun v σ H Q=>Q (σ.set i (some v)) H
theorem ZkD {i:Nat} {x:Str} (hN:X.N.Nodup) (hi:X.N[i]?=some x) (hx:Loc X.env.scope x) (hf:X.fn x=true\/X.env.scope.names.lookup x=some .local:=by first | exact .inl rfl | exact .inr rfl | assumption):PG X (.Name x pos) (Zmw i):=by
 intro pins s σ H v u Q I r h
 exact wpAny_assign_Name (Zcz I hN hi hx r (fun s' I'=>⟨_,H,I',h⟩) hf)
noncomputable def gNil:TGs:=fun vs σ H Q=>vs=[]/\Q σ H
noncomputable def ZpZ (t:TG) (u:TGs):TGs:=fun vs σ H Q=> ∃ v r,vs=v :: r/\t v σ H fun σ' H'=>u r σ' H' Q
theorem ZkE:PGs X [] gNil:=by
 intro pins s σ H vs us Q I r h
 obtain ⟨e,h⟩:=h
 subst e
 cases r
 exact assignInOrder_nil ⟨σ,H,I,h⟩
theorem ZiC {e:Expr} {es:List Expr} {t:TG} {u:TGs} (h1:PG X e t) (h2:PGs X es u)
  (hs:(assignEach (e :: es) X.env).map (·.2)=assign e X.env :: (assignEach es X.env).map (·.2):=by rfl):PGs X (e :: es) (ZpZ t u):=by
 intro pins s σ H vs us Q I r h
 obtain ⟨v,vr,e1,h⟩:=h
 subst e1
 cases r with
 |cons r rr=>
  rw[hs]
  refine assignInOrder_cons (thn (h1 pins s σ H _ _ _ I r h) fun _ s1 ⟨σ1,H1,I1,q1⟩=> ?_)
  exact h2 pins s1 σ1 H1 _ _ Q I1 rr q1
noncomputable def Zts (K:PySem.W.Frag) (n:Nat) (t:TGs):TG:=fun v σ H Q=> ∃ a xs,v= .ref a/\SqT K H a xs/\xs.length=n/\t xs σ H Q
theorem Zmx {es:List Expr} {k:Nat} {t:TGs} {n:Nat} (hc:X.calm=true) (h:PGs X es t)
  (hn:(assignEach es X.env).length=n:=by rfl) (hst:(assignEach es X.env).findIdx? (·.1)=none:=by rfl):PG X (.Tuple es k pos) (Zts X.K n t):=by
 intro pins s σ H v u Q I r hw
 obtain ⟨a,xs,e1,hq,hl,hw⟩:=hw
 subst e1
 cases r
 obtain ⟨its,rv,ht,hz⟩:=I.tuple hq
 refine assign_Tuple_tuple (I.ok.hd hc) ht (by simp[hn,<- hl,rv.length]) hst fun h' hx=> ?_
 have I1:Inv X pins σ H { s with heap:=h' }:=I.kept (t':=s.toks) fun b o e=>hx b o (Nat.ne_of_lt (Heap.lt_size e)) e
 exact h pins _ σ H xs _ Q I1 (by simpa using rv) hw
noncomputable def Zsa (te:TE) (g:TG):TS:=fun D σ H=>te σ H fun x H1=>g x σ H1 D.nx
theorem Zmy {tg e:Expr} {te:TE} {g:TG} (he:PE X e te) (hg:PG X tg g) (hs:swapsWithSole [tg] e pos.line X.env=pure false:=by rfl) (hw:swappedStores [tg] e X.env=pure none:=by rfl)
  (h1:(assignEach [tg] X.env).map (·.2)=[assign tg X.env]:=by rfl):PS X (.Assign [tg] e pos) (Zsa te g):=by
 intro pins s σ H D I h
 refine wpAny_Assign_stores (thn (he pins s σ H _ I h) fun v s1 ⟨x,H1,I1,r1,q1⟩=> ?_) hs hw
 rw[h1]
 exact thn (hg pins s1 σ H1 x v _ I1 r1 q1) fun _ s2 q=>q
theorem Zmz {i:Nat} {x:Str} {e:Expr} {te:TE} {pos':Pos} (hN:X.N.Nodup) (hi:X.N[i]?=some x) (hx:Loc X.env.scope x) (he:PE X e te) (hs:swapsWith e (some (.Name x pos')) pos.line X.env=pure false:=by rfl) (hf:X.fn x=true\/X.env.scope.names.lookup x=some .local:=by first | exact .inl rfl | exact .inr rfl | assumption):
  PS X (.Assign [.Name x pos'] e pos) (Zsa te (Zmw i)):=by
 intro pins s σ H D I h
 refine wpAny_Assign_Name (thn (he pins s σ H _ I h) fun v s1 ⟨y,H1,I1,r1,q1⟩=> ?_) hs
 exact Zcz I1 hN hi hx r1 (fun s2 I2=>⟨_,H1,I2,q1⟩) hf
noncomputable def Ztt (i j:Nat) (ta:TA):TS:=fun D σ H=>ta σ H fun vs H1=> ∃ v w,vs=[v,w]/\D.nx ((σ.set i (some v)).set j (some w)) H1
theorem ZmA {i j:Nat} {x y:Str} {a b:Expr} {ta:TA} {px py pt:Pos} {kt k2 pt2} (hc:X.calm=true) (hN:X.N.Nodup) (hi:X.N[i]?=some x) (hj:X.N[j]?=some y) (hij:i≠j)
  (hx:X.env.scope.names.lookup x=some .local) (hy:X.env.scope.names.lookup y=some .local) (ha:PA X [a,b] ta)
  (hw:swappedStores [.Tuple [.Name x px,.Name y py] kt pt] (.Tuple [a,b] k2 pt2) X.env=pure (some [x,y]))
  (hs:swapsWithSole [.Tuple [.Name x px,.Name y py] kt pt] (.Tuple [a,b] k2 pt2) pos.line X.env=pure false:=by rfl):
  PS X (.Assign [.Tuple [.Name x px,.Name y py] kt pt] (.Tuple [a,b] k2 pt2) pos) (Ztt i j ta):=by
 intro pins s σ H D I h
 rw[exec_Assign_arm]
 refine wpAny_bind (wpAny_standAt ?_)
 rw[hs]
 refine wpAny_bind (wpAny_pure ?_)
 rw[if_neg (by decide)]
 refine wpAny_bind (Tuple_ (thn (ha _ pins s σ H _ I h) fun us s1 ⟨vs,H1,I1,r1,q1⟩=> ?_))
 obtain ⟨v,w,e1,q1⟩:=q1
 subst e1
 obtain ⟨u1,u2,rfl,rv,rw'⟩: ∃ u1 u2,us=[u1,u2]/\ZU v u1/\ZU w u2:=by
  cases r1 with
  |cons p q=>
   cases q with
   |cons p' q'=>
    cases q'
    exact ⟨_,_,rfl,p,p'⟩
 refine wpAny_newObj_type ?_ (by show 2<=sizeLine;decide)
 have I2:Inv X pins σ H1 { s1 with heap:=s1.heap.push { cls:= .type "tuple",data:= .seq [u1,u2].toArray } }:=I1.kept (t':=s1.toks) fun b o e=>Heap.get?_push_of_some _ e
 rw[hw]
 refine wpAny_bind (wpAny_pure ?_)
 show wpAny (model X.prog X.w) X.A (do rule "assign.swapped-stores";let items <- unpackItems (.ref s1.heap.objs.size) 2 none;assignInOrder [fun v=>bindName X.env y v,fun v=>bindName X.env x v] items.reverse;pure Flow.next) _ _ _
 refine wpAny_bind (wpAny_rule (wpAny_bind (unpackItems_tuple (items:= #[u1,u2]) (I.ok.hd hc) (IsTup.new s1.heap _) fun h' hx'=> ?_)))
 have I3:=I2.kept (h':=h') (t':=s1.toks) fun b o e=>hx' b o (Nat.ne_of_lt (Heap.lt_size e)) e
 show wpAny _ _ (assignInOrder [fun v=>bindName X.env y v,fun v=>bindName X.env x v] [u2,u1] >>= fun _=>pure Flow.next) _ _ _
 refine wpAny_bind (assignInOrder_cons (wpAny_bindName (Zcz I3 hN hj (.inl hy) rw' (fun s2 I4=> ?_) (.inr hy))))
 refine assignInOrder_cons (wpAny_bindName (Zcz I4 hN hi (.inl hx) rv (fun s3 I5=>assignInOrder_nil (wpAny_pure ?_)) (.inr hx)))
 rw[List.set_comm _ _ (Ne.symm hij)] at I5
 exact ⟨_,H1,I5,q1⟩
end
section
variable {X:Cx} {pos:Pos}
noncomputable def ZmB (c:TT) (tb:TS):TS:=fun D σ H=> ∃ W:Nat->St->Hp->Prop,(∃ m,W m σ H)/\ ∀ m σ H,W m σ H->
 c σ H fun b H1=>if b=true then ∃ N:St->Hp->Prop,(∀ σ' H',N σ' H'-> ∃ m',m' < m/\W m' σ' H')/\tb { D with nx:=N,ct:=N,bk:=D.nx } σ H1 else D.nx σ H1
theorem ZiD {c:Expr} {body:List Stmt} {tc:TT} {tb:TS} (hp:PassesOwn (model X.prog X.w) X.A X.env X.xe) (hc:PT X c tc) (hb:PSs X body tb):PS X (.While c body [] pos) (ZmB tc tb):=by
 intro pins s σ H D I h
 obtain ⟨W,⟨m0,w0⟩,turn⟩:=h
 refine wpAny_While (codeAny_whileLoop (fun n s'=> ∃ σ' H',Inv X pins σ' H' s'/\W n σ' H') ?_ m0 ⟨σ,H,I,w0⟩)
 rintro n s1 ⟨σ1,H1,I1,w1⟩
 refine wpAny_passesOwn hp (thn (hc pins s1 σ1 H1 _ I1 (turn n σ1 H1 w1)) fun b s2 ⟨H2,I2,q2⟩=> ?_)
 cases b with
 |true=>
  obtain ⟨N,hN,q2⟩:=q2
  rw[if_pos rfl]
  refine wpAny_passesOwn hp (thn (hb pins s2 σ1 H2 _ I2 q2) fun f s3 q3=> ?_)
  cases f with
  |next=>
   obtain ⟨σ3,H3,I3,n3⟩:=q3
   obtain ⟨m',hm,w3⟩:=hN σ3 H3 n3
   exact ⟨m',hm,σ3,H3,I3,w3⟩
  |cont=>
   obtain ⟨σ3,H3,I3,n3⟩:=q3
   obtain ⟨m',hm,w3⟩:=hN σ3 H3 n3
   exact ⟨m',hm,σ3,H3,I3,w3⟩
  |brk=>exact q3
  |ret v=>exact q3
 |false=>
  rw[if_neg Bool.false_ne_true]
  exact wpAny_execs_nil ⟨σ1,H2,I2,q2⟩
end
structure It where
 go:Nat->Hp->Prop
 yld:Nat->Hp->V->Hp->Prop
 stop:Nat->Hp->Prop
noncomputable def ZdV (X:Cx) (pins:List (Addr × Obj)) (H:Hp) (b:Addr):Prop:=
 H b=none/\b≠X.env.locals/\b ∉ X.fs/\(b∈X.ex\/X.s₀.heap.objs.size<=b)/\(∀ x c,X.env.cells.lookup x=some c->c≠b)/\ ∀ p∈X.pn ++ pins,p.1≠b
theorem Inv.fpOk {X:Cx} {pins:List (Addr × Obj)} {σ:St} {H H':Hp} {s:Shared} {b:Addr} (I:Inv X pins σ H s) (hb:s.heap.objs.size<=b) (hn:H' b=none):ZdV X pins H' b:=by
 refine ⟨hn,Nat.ne_of_gt (Nat.lt_of_lt_of_le I.lt hb),I.nofs hb,.inr (Nat.le_trans I.sz hb),fun x c e z=> ?_,fun p hp z=> ?_⟩
 ·obtain ⟨v,q⟩:=I.cell x c e
  exact absurd (Nat.lt_of_lt_of_le q.lt (by rw[z];exact hb)) (Nat.lt_irrefl _)
 ·exact absurd (Nat.lt_of_lt_of_le (Heap.lt_size (I.pin p hp).1) (by rw[z];exact hb)) (Nat.lt_irrefl _)
structure Turn (P:Program) (w:World) (K:PySem.W.Frag) (B:Around) (tg:Expr) (J:It) (fp:List Addr) (it:Addr) (tn:Nat->Heap->Prop):Prop where
 mem:it∈fp
 obj: ∀ i h,tn i h-> ∀ b∈fp,∃ o,h.get? b=some o/\ ∀ v,o.data≠ .cell v
 keep: ∀ i h h',tn i h->(∀ b∈fp,∀ o,h.get? b=some o->h'.get? b=some o)->tn i h'
 item: ∀ (X:Cx),X.prog=P->X.w=w->X.K=K->X.A=B-> ∀ (i:Nat) (pins:List (Addr × Obj)) (s:Shared) (σ:St) (H:Hp) (E:Value->Shared->Prop),Inv X pins σ H s->(∀ b∈fp,ZdV X pins H b)->tn i s.heap->J.go i H->
  wpAny (model P w) X.A (pyNext (.ref it)) (fun r s1=> ∃ u,r=some u/\
   wpAny (model P w) X.A (letOwnedTupleGo tg (.ref it) u) (fun _ s2=> ∃ x H',Inv X pins σ H' s2/\ZU x u/\J.yld i H x H'/\tn (i + 1) s2.heap/\ ∀ b∈fp,H' b=none) E s1) E s
 done: ∀ (X:Cx),X.prog=P->X.w=w->X.K=K->X.A=B-> ∀ (i:Nat) (pins:List (Addr × Obj)) (s:Shared) (σ:St) (H:Hp) (E:Value->Shared->Prop),Inv X pins σ H s->(∀ b∈fp,ZdV X pins H b)->tn i s.heap->J.stop i H->
  wpAny (model P w) X.A (pyNext (.ref it)) (fun r s1=>r=none/\Inv X pins σ H s1) E s
 self: ∀ (A:Around) (i:Nat) (s:Shared) (Q:Value->Shared->Prop) (E:Value->Shared->Prop),tn i s.heap->Q (.ref it) s->wpAny (model P w) A (pyIter (.ref it)) Q E s
noncomputable abbrev TI:=St->Hp->(It->Hp->Prop)->Prop
noncomputable def PIE (X:Cx) (pins:List (Addr × Obj)) (σ:St) (tg:Expr) (R:It->Hp->Prop) (itv:Value) (s2:Shared):Prop:=
 ∃ (it:Addr) (fp:List Addr) (tn:Nat->Heap->Prop) (J:It) (H':Hp),itv= .ref it/\Inv X pins σ H' s2/\Turn X.prog X.w X.K X.A tg J fp it tn/\tn 0 s2.heap/\(∀ b∈fp,ZdV X pins H' b)/\R J H'
noncomputable def PI (X:Cx) (tg iter:Expr) (wi:TI):Prop:=
 ∀ (pins:List (Addr × Obj)) (s:Shared) (σ:St) (H:Hp) (R:It->Hp->Prop),Inv X pins σ H s->wi σ H R->
  wpAny (model X.prog X.w) X.A (eval iter X.env) (fun v s1=>wpAny (model X.prog X.w) X.A (pyIter v) (PIE X pins σ tg R) X.xe s1) X.xe s
theorem ZiE {M:Model} {A:Around} {E:Value->Shared->Prop} {s:Shared} {tg:Expr} {it:Addr} {u:Value} {o:Obj} {n:String} {vs:Array Value} {Q:Unit->Shared->Prop} (ho:s.heap.get? it=some o) (hc:o.cls= .type n) (hd:o.data= .fields vs)
  (hn:["enumerate","zip","dict_itemiterator","dict_reverseitemiterator","odict_iterator","itertools.zip_longest","itertools.pairwise"].contains n=false) (hQ:Q () s):wpAny M A (letOwnedTupleGo tg (.ref it) u) Q E s:=by
 unfold letOwnedTupleGo
 cases tg<;>first
  |exact wpAny_pure hQ
  | (cases u<;>first
    |exact wpAny_pure hQ
    | (refine wpAny_bind (wpAny_load ho ?_)
       rw[hc,hd]
       show wpAny M A (if (["enumerate","zip","dict_itemiterator","dict_reverseitemiterator","odict_iterator","itertools.zip_longest","itertools.pairwise"].contains n && vs[0]? == some (rawInt _))=true then _ else _) Q E s
       rw[if_neg (by intro h;rw[hn,Bool.false_and] at h;cases h)]
       exact wpAny_pure hQ))
noncomputable def Itl (K:PySem.W.Frag) (a:Addr):It:=
 ⟨fun i H=> ∃ xs x,SqL K H a xs/\xs[i]?=some x,fun i H x H'=>H'=H/\ ∀ xs,SqL K H a xs->xs[i]?=some x,fun i H=> ∃ xs,SqL K H a xs/\xs.length<=i⟩
noncomputable def Itt (K:PySem.W.Frag) (a:Addr):It:=
 ⟨fun i H=> ∃ xs x,SqT K H a xs/\xs[i]?=some x,fun i H x H'=>H'=H/\ ∀ xs,SqT K H a xs->xs[i]?=some x,fun i H=> ∃ xs,SqT K H a xs/\xs.length<=i⟩
noncomputable def Itr (lo:Int) (n:Nat):It:=⟨fun i _=>i < n,fun i H x H'=>H'=H/\x= .int (lo + i),fun i _=>n<=i⟩
theorem ZgG {P:Program} {w:World} {K:PySem.W.Frag} {B:Around} {tg:Expr} (a it:Addr):Turn P w K B tg (Itl K a) [it] it (fun i h=>h.IsListIter it a i) where
 mem:=by simp
 obj:=fun i h st b hb=>by
  have e:b=it:=by simpa using hb
  subst e
  obtain ⟨o,e,c,d⟩:=st
  exact ⟨o,e,fun v z=>by rw[d] at z;cases z⟩
 keep:=fun i h h' st k=>st.at fun o e=>k it (by simp) o e
 item:=by
  intro X hP hw hK hB i pins s σ H E I hf st hg
  subst hP hw hK
  obtain ⟨xs,x,hq,hx⟩:=hg
  obtain ⟨its,rv,p,hz⟩:=I.list hq
  obtain ⟨u,hu,ru⟩:=rv.get hx
  obtain ⟨f0,f1,f2,f3,f4,f5⟩:=hf it (by simp)
  refine wpAny_pyNext_list_item st p.isList (x:=u) (by simpa using hu) fun h' st' sb=> ?_
  have I1:Inv X pins σ H { s with heap:=h' }:=I.turned (t':=s.toks) (fun b o hb e=>(sb.2 b hb).trans e) f0 f1 f3 f4 f5
  obtain ⟨o,e,c,d⟩:=id st'
  exact ⟨u,rfl,ZiE (s:={ s with heap:=h' }) e c d (by decide) ⟨x,H,I1,ru,⟨rfl,fun ys hy=>by rw[I.list_inj hy hq];exact hx⟩,st',fun b hb=>(hf b hb).1⟩⟩
 done:=by
  intro X hP hw hK hB i pins s σ H E I hf st hg
  subst hP hw hK
  obtain ⟨xs,hq,hx⟩:=hg
  obtain ⟨its,rv,p,hz⟩:=I.list hq
  obtain ⟨f0,f1,f2,f3,f4,f5⟩:=hf it (by simp)
  have hl:=rv.length
  exact DQ.Ziy I.qh st p.isList (by simp;omega) fun h' eb=>⟨rfl,I.turned (t':=s.toks) (fun b o hb e=>eb b o hb e) f0 f1 f3 f4 f5⟩
 self:=fun _ _ _ _ _ st h=>wpAny_pyIter_listiter st h
theorem ZfS {P:Program} {w:World} {K:PySem.W.Frag} {B:Around} {tg:Expr} (a it:Addr):Turn P w K B tg (Itt K a) [it] it (fun i h=>h.IsTupleIter it a i) where
 mem:=by simp
 obj:=fun i h st b hb=>by
  have e:b=it:=by simpa using hb
  subst e
  obtain ⟨o,e,c,d⟩:=st
  exact ⟨o,e,fun v z=>by rw[d] at z;cases z⟩
 keep:=fun i h h' st k=>st.at fun o e=>k it (by simp) o e
 item:=by
  intro X hP hw hK hB i pins s σ H E I hf st hg
  subst hP hw hK
  obtain ⟨xs,x,hq,hx⟩:=hg
  obtain ⟨its,rv,p,hz⟩:=I.tuple hq
  obtain ⟨u,hu,ru⟩:=rv.get hx
  obtain ⟨f0,f1,f2,f3,f4,f5⟩:=hf it (by simp)
  refine wpAny_pyNext_tuple_item st (show s.heap.IsTuple a its.toArray from p) (x:=u) (by simpa using hu) fun h' st' sb=> ?_
  have I1:Inv X pins σ H { s with heap:=h' }:=I.turned (t':=s.toks) (fun b o hb e=>(sb.2 b hb).trans e) f0 f1 f3 f4 f5
  obtain ⟨o,e,c,d⟩:=id st'
  exact ⟨u,rfl,ZiE (s:={ s with heap:=h' }) e c d (by decide) ⟨x,H,I1,ru,⟨rfl,fun ys hy=>by rw[I.tuple_inj hy hq];exact hx⟩,st',fun b hb=>(hf b hb).1⟩⟩
 done:=by
  intro X hP hw hK hB i pins s σ H E I hf st hg
  subst hP hw hK
  obtain ⟨xs,hq,hx⟩:=hg
  obtain ⟨its,rv,p,hz⟩:=I.tuple hq
  obtain ⟨f0,f1,f2,f3,f4,f5⟩:=hf it (by simp)
  have hl:=rv.length
  exact DQ.ZgA I.qh st (show s.heap.IsTuple a its.toArray from p) (by simp;omega) fun h' eb=>⟨rfl,I.turned (t':=s.toks) (fun b o hb e=>eb b o hb e) f0 f1 f3 f4 f5⟩
 self:=fun _ _ _ _ _ st h=>wpAny_pyIter_tupleiter st h
theorem ZfT {P:Program} {w:World} {K:PySem.W.Frag} {B:Around} {tg:Expr} (it:Addr) (lo:Int) (n:Nat):Turn P w K B tg (Itr lo n) [it] it (fun i h=>IsRangeIter h it (lo + (i:Nat) * 1) ((n:Int) - (i:Nat)) 1) where
 mem:=by simp
 obj:=fun i h st b hb=>by
  have e:b=it:=by simpa using hb
  subst e
  exact ⟨_,st,fun v z=>by
   have z':Data.fields _=Data.cell v:=z
   cases z'⟩
 keep:=fun i h h' st k=>k it (by simp) _ st
 item:=by
  intro X hP hw hK hB i pins s σ H E I hf st hg
  subst hP hw hK
  obtain ⟨f0,f1,f2,f3,f4,f5⟩:=hf it (by simp)
  have hlt:i < n:=hg
  refine wpAny_pyNext_range_item st (by omega) fun h' st' sb=> ?_
  have I1:Inv X pins σ H { s with heap:=h',toks:=s.toks + 1 }:=I.turned (fun b o hb e=>(sb.2 b hb).trans e) f0 f1 f3 f4 f5
  have st2:IsRangeIter h' it (lo + ((i + 1:Nat):Int) * 1) ((n:Int) - ((i + 1:Nat):Int)) 1:=by
   have e1:lo + ((i + 1:Nat):Int) * 1=lo + (i:Nat) * 1 + 1:=by omega
   have e2:(n:Int) - ((i + 1:Nat):Int)=(n:Int) - (i:Nat) - 1:=by omega
   rw[e1,e2]
   exact st'
  refine ⟨_,rfl,ZiE (s:={ s with heap:=h',toks:=s.toks + 1 }) (n:="range_iterator") st2 rfl rfl (by decide) ⟨.int (lo + i),H,I1,⟨s.toks,?_⟩,⟨rfl,rfl⟩,st2,fun b hb=>(hf b hb).1⟩⟩
  rw[Int.mul_one]
 done:=by
  intro X hP hw hK hB i pins s σ H E I hf st hg
  subst hP hw hK
  obtain ⟨f0,f1,f2,f3,f4,f5⟩:=hf it (by simp)
  exact DQ.Zgz I.qh st (by have:n<=i:=hg;omega) fun h' eb=>⟨rfl,I.turned (t':=s.toks) (fun b o hb e=>eb b o hb e) f0 f1 f3 f4 f5⟩
 self:=fun _ _ _ _ _ st h=>wpAny_pyIter_rangeiter st h
end L2
namespace L2
open PySem PySem.Spec PyProof.Rows
section
variable {X:Cx} {tg:Expr}
theorem ZiF {pins:List (Addr × Obj)} {σ:St} {H:Hp} {s:Shared} {R:It->Hp->Prop} {E:Value->Shared->Prop} {lo hi:Int} {t u v:Tok} {tk:Nat} (I:Inv X pins σ H s) (h1: -(2 ^ 62)<=lo) (h2:lo < 2 ^ 62) (h3: -(2 ^ 62)<=hi) (h4:hi < 2 ^ 62)
  (q:R (Itr lo (hi - lo).toNat) H):wpAny (model X.prog X.w) X.A (pyIter (.ref s.heap.objs.size)) (PIE X pins σ tg R) E { s with heap:=s.heap.push { cls:= .type "range",data:= .fields #[.int lo t,.int hi u,.int 1 v] },toks:=tk }:=by
 refine wpAny_pyIter_range (IsRange.new ..) (small_one h1 h2 h3 h4) ?_
 have I1:Inv X pins σ H { s with heap:=s.heap.push { cls:= .type "range",data:= .fields #[.int lo t,.int hi u,.int 1 v] },toks:=tk }:=I.kept fun b o e=>Heap.get?_push_of_some _ e
 refine ⟨(s.heap.push { cls:= .type "range",data:= .fields #[.int lo t,.int hi u,.int 1 v] }).objs.size,[(s.heap.push { cls:= .type "range",data:= .fields #[.int lo t,.int hi u,.int 1 v] }).objs.size],_,_,H,rfl,
  I1.kept (t':=tk) fun b o e=>Heap.get?_push_of_some _ e,ZfT _ lo (hi - lo).toNat,?_,fun b hb=> ?_,q⟩
 ·have e1:lo + ((0:Nat):Int) * 1=lo:=by simp
  have e2:(((hi - lo).toNat:Nat):Int) - ((0:Nat):Int)=Builtin.Range.rangeSize lo hi 1:=by rw[rangeSize_one];split<;>omega
  show IsRangeIter _ _ (lo + ((0:Nat):Int) * 1) ((((hi - lo).toNat:Nat):Int) - ((0:Nat):Int)) 1
  rw[e1,e2]
  exact Heap.get?_push_size _ rfl
 ·have e:b=(s.heap.push { cls:= .type "range",data:= .fields #[.int lo t,.int hi u,.int 1 v] }).objs.size:=by simpa using hb
  subst e
  exact I1.fpOk (Nat.le_refl _) (I1.hok.fresh (Nat.le_refl _))
noncomputable def Zp0 (ta:TA):TI:=fun σ H R=>ta σ H fun vs H1=> ∃ j:Int,vs=[.int j]/\ -(2 ^ 62)<=j/\j < 2 ^ 62/\R (Itr 0 j.toNat) H1
theorem ZdW {a:Expr} {ta:TA} {p pos:Pos} (hg:Gl X "range") (hm:X.mg "range"=none) (ha:PA X [a] ta) (hs:starEach [a] X.env=[(false,eval a X.env)]:=by rfl):PI X tg (.Call (.Name "range" p) [a] [] pos) (Zp0 ta):=by
 intro pins s σ H R I h
 refine Call_ (ZbW I hg hm boot_range (PyProof.Rows.callWith_type1 (thn (ha pos pins s σ H _ I h) fun us s1 ⟨vs,H1,I1,r1,q1⟩=> ?_) hs rfl))
 obtain ⟨j,e,q1,q2,q⟩:=q1
 subst e
 cases r1 with
 |cons r rr=>
  cases rr
  obtain ⟨t,rfl⟩:=r
  exact call_range_1 (ZiF I1 (by omega) (by omega) q1 q2 (by simpa using q))
noncomputable def Ztu (wi:TI) (g:TG) (tb:TS):TS:=fun D σ H=>wi σ H fun J H1=> ∃ W:Nat->Nat->St->Hp->Prop,(∃ m,W 0 m σ H1)/\ ∀ i m σ H,W i m σ H->
 (J.stop i H/\D.nx σ H)\/(J.go i H/\ ∃ N:St->Hp->Prop,(∀ σ' H',N σ' H'-> ∃ m',m' < m/\W (i + 1) m' σ' H')/\ ∀ x H',J.yld i H x H'->g x σ H' fun σ2 H2=>tb { D with nx:=N,ct:=N,bk:=D.nx } σ2 H2)
noncomputable def Zbt (fp:List Addr) (h:Heap):List (Addr × Obj):=fp.filterMap fun b=>(h.get? b).map fun o=>(b,o)
theorem Zaa {fp:List Addr} {h:Heap} {b:Addr} {o:Obj} (hb:b∈fp) (e:h.get? b=some o):(b,o)∈Zbt fp h:=List.mem_filterMap.mpr ⟨b,hb,by rw[e];rfl⟩
theorem ZgH {fp:List Addr} {h:Heap} {p:Addr × Obj} (hp:p∈Zbt fp h):p.1∈fp/\h.get? p.1=some p.2:=by
 obtain ⟨b,hb,e⟩:=List.mem_filterMap.mp hp
 cases q:h.get? b with
 |none=>rw[q] at e;cases e
 |some o=>
  rw[q] at e
  have e':(b,o)=p:=Option.some.inj e
  subst e'
  exact ⟨hb,q⟩
theorem Inv.pinned {pins:List (Addr × Obj)} {σ:St} {H:Hp} {s:Shared} {fp:List Addr} (I:Inv X pins σ H s) (hf: ∀ b∈fp,ZdV X pins H b) (ho: ∀ b∈fp,∃ o,s.heap.get? b=some o/\ ∀ v,o.data≠ .cell v):Inv X (pins ++ Zbt fp s.heap) σ H s:=
 I.pins_of fun p hp=>(List.mem_append.mp hp).elim (fun z=>I.pin p (List.mem_append_right _ z)) fun z=>by
  obtain ⟨hb,e⟩:=ZgH z
  obtain ⟨f0,f1,f2,_⟩:=hf p.1 hb
  obtain ⟨o,e',d⟩:=ho p.1 hb
  rw[e] at e';cases e'
  exact ⟨e,f0,f1,f2,d⟩
theorem Inv.unpinned {pins pl:List (Addr × Obj)} {σ:St} {H:Hp} {s:Shared} (I:Inv X (pins ++ pl) σ H s):Inv X pins σ H s:=I.pins_of fun p hp=>I.pin p (List.mem_append_right _ (List.mem_append_left _ hp))
theorem ZgI {iter:Expr} {body:List Stmt} {wi:TI} {g:TG} {tb:TS} {pos:Pos} (hp:PassesOwn (model X.prog X.w) X.A X.env X.xe) (hi:PI X tg iter wi) (hg:PG X tg g) (hb:PSs X body tb)
  (hs: ∀ x,foldedSetIterable iter X.env x=pure x:=by intro _;rfl):PS X (.For tg iter body [] pos) (Ztu wi g tb):=by
 intro pins s σ H D I h
 refine wpAny_For (thn (hi pins s σ H _ I h) fun v s1 h1=>thn h1 fun itv s2 h2=> ?_) hs
 obtain ⟨it,fp,tn,J,H2,e,I2,T,st2,f2,W,⟨m0,w0⟩,turn⟩:=h2
 subst e
 have stat: ∀ {H':Hp},(∀ b∈fp,H' b=none)-> ∀ b∈fp,ZdV X pins H' b:=fun hn b hb=>⟨hn b hb,(f2 b hb).2⟩
 refine codeAny_forLoop_any (fun n s'=> ∃ i σ' H',Inv X pins σ' H' s'/\tn i s'.heap/\(∀ b∈fp,H' b=none)/\W i n σ' H') ?_ m0 ⟨0,σ,H2,I2,st2,fun b hb=>(f2 b hb).1,w0⟩
 rintro n s3 ⟨i,σ3,H3,I3,st3,fr3,w3⟩
 rcases turn i n σ3 H3 w3 with ⟨stop,qn⟩ | ⟨go,N,hN,step⟩
 ·refine wpAny_passesOwn hp (thn (T.done X rfl rfl rfl rfl i pins s3 σ3 H3 X.xe I3 (stat fr3) st3 stop) fun r s4 ⟨hr,I4⟩=> ?_)
  subst hr
  exact wpAny_execs_nil ⟨σ3,H3,I4,qn⟩
 ·refine wpAny_passesOwn hp (thn (T.item X rfl rfl rfl rfl i pins s3 σ3 H3 X.xe I3 (stat fr3) st3 go) fun r s4 ⟨u,hr,h4⟩=> ?_)
  subst hr
  refine wpAny_passesOwn hp (thn h4 fun _ s5 ⟨x,H5,I5,r5,y5,st5,fr5⟩=> ?_)
  have I5':=I5.pinned (stat fr5) (T.obj _ _ st5)
  refine wpAny_passesOwn hp (thn (hg _ s5 σ3 H5 x u _ I5' r5 (step x H5 y5)) fun _ s6 ⟨σ6,H6,I6,q6⟩=> ?_)
  refine wpAny_passesOwn hp (thn (hb _ s6 σ6 H6 _ I6 q6) fun f s7 q7=> ?_)
  have again: ∀ {σ7:St} {H7:Hp},Inv X (pins ++ Zbt fp s5.heap) σ7 H7 s7->N σ7 H7-> ∃ m,m < n/\ ∃ i σ' H',Inv X pins σ' H' s7/\tn i s7.heap/\(∀ b∈fp,H' b=none)/\W i m σ' H':=fun {σ7 H7} I7 n7=>by
   obtain ⟨m',hm,w7⟩:=hN σ7 H7 n7
   refine ⟨m',hm,i + 1,σ7,H7,I7.unpinned,T.keep _ _ _ st5 fun b hb o e=>(I7.pin (b,o) (List.mem_append_right _ (List.mem_append_right _ (Zaa hb e)))).1,fun b hb=> ?_,w7⟩
   obtain ⟨o,e,d⟩:=T.obj _ _ st5 b hb
   exact (I7.pin (b,o) (List.mem_append_right _ (List.mem_append_right _ (Zaa hb e)))).2.1
  cases f with
  |next=>obtain ⟨σ7,H7,I7,n7⟩:=q7;exact again I7 n7
  |cont=>obtain ⟨σ7,H7,I7,n7⟩:=q7;exact again I7 n7
  |brk=>obtain ⟨σ7,H7,I7,q7⟩:=q7;exact ⟨σ7,H7,I7.unpinned,q7⟩
  |ret v=>obtain ⟨x7,σ7,H7,I7,r7,q7⟩:=q7;exact ⟨x7,σ7,H7,I7.unpinned,r7,q7⟩
end
theorem ZiG {K:PySem.W.Frag} {a:Addr} {xs:List V} {g:TG} {tb:TS} {D:Ends} {σ:St} {H:Hp} (Pv:Nat->St->Hp->Prop) (h0:Pv 0 σ H) (hl: ∀ i σ H,i<=xs.length->Pv i σ H->SqL K H a xs)
  (hs: ∀ i x σ H,xs[i]?=some x->Pv i σ H->g x σ H fun σ2 H2=>tb { D with nx:=Pv (i + 1),ct:=Pv (i + 1),bk:=D.nx } σ2 H2) (hd: ∀ σ H,Pv xs.length σ H->D.nx σ H):
  ∃ W:Nat->Nat->St->Hp->Prop,(∃ m,W 0 m σ H)/\ ∀ i m σ H,W i m σ H->
   ((Itl K a).stop i H/\D.nx σ H)\/((Itl K a).go i H/\ ∃ N:St->Hp->Prop,(∀ σ' H',N σ' H'-> ∃ m',m' < m/\W (i + 1) m' σ' H')/\ ∀ x H',(Itl K a).yld i H x H'->g x σ H' fun σ2 H2=>tb { D with nx:=N,ct:=N,bk:=D.nx } σ2 H2):=by
 refine ⟨fun i m σ H=>m=xs.length - i/\i<=xs.length/\Pv i σ H,⟨xs.length,by simp,Nat.zero_le _,h0⟩,?_⟩
 rintro i m σ H ⟨rfl,hi,p⟩
 have q:=hl i σ H hi p
 by_cases hlt:i < xs.length
 ·refine .inr ⟨⟨xs,xs[i],q,by simp[hlt]⟩,Pv (i + 1),fun σ' H' p'=>⟨xs.length - (i + 1),by omega,rfl,hlt,p'⟩,fun x H' y=> ?_⟩
  obtain ⟨e,y⟩:=y
  subst e
  exact hs i x σ _ (y xs q) p
 ·have e:i=xs.length:=by omega
  subst e
  exact .inl ⟨⟨xs,q,Nat.le_refl _⟩,hd σ H p⟩
theorem ZkF {K:PySem.W.Frag} {a:Addr} {xs:List V} {g:TG} {tb:TS} {D:Ends} {σ:St} {H:Hp} (Pv:Nat->St->Hp->Prop) (h0:Pv 0 σ H) (hl: ∀ i σ H,i<=xs.length->Pv i σ H->SqT K H a xs)
  (hs: ∀ i x σ H,xs[i]?=some x->Pv i σ H->g x σ H fun σ2 H2=>tb { D with nx:=Pv (i + 1),ct:=Pv (i + 1),bk:=D.nx } σ2 H2) (hd: ∀ σ H,Pv xs.length σ H->D.nx σ H):
  ∃ W:Nat->Nat->St->Hp->Prop,(∃ m,W 0 m σ H)/\ ∀ i m σ H,W i m σ H->
   ((Itt K a).stop i H/\D.nx σ H)\/((Itt K a).go i H/\ ∃ N:St->Hp->Prop,(∀ σ' H',N σ' H'-> ∃ m',m' < m/\W (i + 1) m' σ' H')/\ ∀ x H',(Itt K a).yld i H x H'->g x σ H' fun σ2 H2=>tb { D with nx:=N,ct:=N,bk:=D.nx } σ2 H2):=by
 refine ⟨fun i m σ H=>m=xs.length - i/\i<=xs.length/\Pv i σ H,⟨xs.length,by simp,Nat.zero_le _,h0⟩,?_⟩
 rintro i m σ H ⟨rfl,hi,p⟩
 have q:=hl i σ H hi p
 by_cases hlt:i < xs.length
 ·refine .inr ⟨⟨xs,xs[i],q,by simp[hlt]⟩,Pv (i + 1),fun σ' H' p'=>⟨xs.length - (i + 1),by omega,rfl,hlt,p'⟩,fun x H' y=> ?_⟩
  obtain ⟨e,y⟩:=y
  subst e
  exact hs i x σ _ (y xs q) p
 ·have e:i=xs.length:=by omega
  subst e
  exact .inl ⟨⟨xs,q,Nat.le_refl _⟩,hd σ H p⟩
theorem ZgJ {lo:Int} {n:Nat} {g:TG} {tb:TS} {D:Ends} {σ:St} {H:Hp} (Pv:Nat->St->Hp->Prop) (h0:Pv 0 σ H)
  (hs: ∀ i σ H,i < n->Pv i σ H->g (.int (lo + i)) σ H fun σ2 H2=>tb { D with nx:=Pv (i + 1),ct:=Pv (i + 1),bk:=D.nx } σ2 H2) (hd: ∀ σ H,Pv n σ H->D.nx σ H):
  ∃ W:Nat->Nat->St->Hp->Prop,(∃ m,W 0 m σ H)/\ ∀ i m σ H,W i m σ H->
   ((Itr lo n).stop i H/\D.nx σ H)\/((Itr lo n).go i H/\ ∃ N:St->Hp->Prop,(∀ σ' H',N σ' H'-> ∃ m',m' < m/\W (i + 1) m' σ' H')/\ ∀ x H',(Itr lo n).yld i H x H'->g x σ H' fun σ2 H2=>tb { D with nx:=N,ct:=N,bk:=D.nx } σ2 H2):=by
 refine ⟨fun i m σ H=>m=n - i/\i<=n/\Pv i σ H,⟨n,by simp,Nat.zero_le _,h0⟩,?_⟩
 rintro i m σ H ⟨rfl,hi,p⟩
 by_cases hlt:i < n
 ·refine .inr ⟨hlt,Pv (i + 1),fun σ' H' p'=>⟨n - (i + 1),by omega,rfl,hlt,p'⟩,fun x H' y=> ?_⟩
  obtain ⟨e,y⟩:=y
  subst e y
  exact hs i σ _ hlt p
 ·have e:i=n:=by omega
  subst e
  exact .inl ⟨Nat.le_refl _,hd σ H p⟩
end L2
namespace L2
open PySem PySem.Spec PyProof.Rows
noncomputable abbrev R2:=V->V->Hp->VK->Prop
noncomputable def OpR (X:Cx) (f:Value->Value->Sem Value) (r:R2):Prop:=
 ∀ (pins:List (Addr × Obj)) (s:Shared) (σ:St) (H:Hp) (x y:V) (v u:Value) (Q:VK),Inv X pins σ H s->ZU x v->ZU y u->r x y H Q->
  wpAny (model X.prog X.w) X.A (f v u) (EP X pins σ Q) X.xe s
noncomputable def UnR (X:Cx) (f:Value->Sem Value) (r:V->Hp->VK->Prop):Prop:=
 ∀ (pins:List (Addr × Obj)) (s:Shared) (σ:St) (H:Hp) (x:V) (v:Value) (Q:VK),Inv X pins σ H s->ZU x v->r x H Q->
  wpAny (model X.prog X.w) X.A (f v) (EP X pins σ Q) X.xe s
noncomputable def ZbR (X:Cx) (f:Value) (r:List V->Hp->VK->Prop):Prop:=
 ∀ (pins:List (Addr × Obj)) (s:Shared) (σ:St) (H:Hp) (xs:List V) (us:List Value) (Q:VK),Inv X pins σ H s->ZW xs us->r xs H Q->
  wpAny (model X.prog X.w) X.A (call f us) (EP X pins σ Q) X.xe s
noncomputable def tOp (r:R2) (ta tb:TE):TE:=fun σ H Q=>ta σ H fun x H1=>tb σ H1 fun y H2=>r x y H2 Q
noncomputable def tUn (r:V->Hp->VK->Prop) (ta:TE):TE:=fun σ H Q=>ta σ H fun x H1=>r x H1 Q
noncomputable def rI (C:Int->Int->Prop) (g:Int->Int->V):R2:=fun x y H Q=> ∃ i j,x= .int i/\y= .int j/\C i j/\Q (g i j) H
noncomputable def rI0 (g:Int->Int->V):R2:=fun x y H Q=> ∃ i j,x= .int i/\y= .int j/\Q (g i j) H
noncomputable def rU (g:Int->V):V->Hp->VK->Prop:=fun x H Q=> ∃ i,x= .int i/\Q (g i) H
section
variable {X:Cx} {a b c:Expr} {ta tb tc:TE} {pos:Pos}
theorem Zp1 (ha:PE X a ta) (hb:PE X b tb) {pins:List (Addr × Obj)} {s:Shared} {σ:St} {H:Hp} {R:V->V->Hp->Prop} (I:Inv X pins σ H s)
  (h:ta σ H fun x H1=>tb σ H1 fun y H2=>R x y H2) {Q:Value->Shared->Prop} {f:Value->Value->Sem Value}
  (hf: ∀ v u s2 x y H2,Inv X pins σ H2 s2->ZU x v->ZU y u->R x y H2->wpAny (model X.prog X.w) X.A (f v u) Q X.xe s2):
  wpAny (model X.prog X.w) X.A (eval a X.env) (fun v s₁=>wpAny (model X.prog X.w) X.A (eval b X.env) (fun u s₂=>wpAny (model X.prog X.w) X.A (f v u) Q X.xe s₂) X.xe s₁) X.xe s:=by
 refine thn (ha pins s σ H _ I h) fun v s1 ⟨x,H1,I1,r1,q1⟩=> ?_
 refine thn (hb pins s1 σ H1 _ I1 q1) fun u s2 ⟨y,H2,I2,r2,q2⟩=> ?_
 exact hf v u s2 x y H2 I2 r1 r2 q2
theorem Zp2 {op:Operator} {r:R2} (ho:OpR X (binaryOp op) r) (ha:PE X a ta) (hb:PE X b tb):PE X (.BinOp a op b pos) (tOp r ta tb):=by
 intro pins s σ H Q I h
 exact wpAny_BinOp (Zp1 ha hb I h fun v u s2 x y H2 I2 rx ry q=>ho pins s2 σ H2 x y v u Q I2 rx ry q)
theorem ZmC {op:UnaryOp} {r:V->Hp->VK->Prop} (ho:UnR X (unaryOp op) r) (ha:PE X a ta):PE X (.UnaryOp op a pos) (tUn r ta):=by
 intro pins s σ H Q I h
 exact UnaryOp_ (thn (ha pins s σ H _ I h) fun v s1 ⟨x,H1,I1,r1,q1⟩=>ho pins s1 σ H1 x v Q I1 r1 q1)
theorem opI {f:Value->Value->Sem Value} {C:Int->Int->Prop} {g:Int->Int->Int}
  (rule: ∀ (i j:Int) (t u:Tok) (s:Shared) (Q:Value->Shared->Prop) (E:Value->Shared->Prop),C i j->Q (.int (g i j) s.toks) { s with toks:=s.toks + 1 }->wpAny (model X.prog X.w) X.A (f (.int i t) (.int j u)) Q E s):
  OpR X f (rI C fun i j=> .int (g i j)):=by
 intro pins s σ H x y v u Q I rx ry h
 obtain ⟨i,j,rfl,rfl,hc,q⟩:=h
 obtain ⟨t,rfl⟩:=rx
 obtain ⟨t',rfl⟩:=ry
 exact rule i j t t' s _ _ hc ⟨.int (g i j),H,I.tok _,⟨_,rfl⟩,q⟩
theorem Zsb {f:Value->Value->Sem Value} {g:Int->Int->Int}
  (rule: ∀ (i j:Int) (t u:Tok) (s:Shared) (Q:Value->Shared->Prop) (E:Value->Shared->Prop),Q (.int (g i j) s.toks) { s with toks:=s.toks + 1 }->wpAny (model X.prog X.w) X.A (f (.int i t) (.int j u)) Q E s):
  OpR X f (rI0 fun i j=> .int (g i j)):=by
 intro pins s σ H x y v u Q I rx ry h
 obtain ⟨i,j,rfl,rfl,q⟩:=h
 obtain ⟨t,rfl⟩:=rx
 obtain ⟨t',rfl⟩:=ry
 exact rule i j t t' s _ _ ⟨.int (g i j),H,I.tok _,⟨_,rfl⟩,q⟩
theorem ZpH {f:Value->Value->Sem Value} {g:Int->Int->Bool}
  (rule: ∀ (i j:Int) (t u:Tok) (s:Shared) (Q:Value->Shared->Prop) (E:Value->Shared->Prop),Q (.bool (g i j)) s->wpAny (model X.prog X.w) X.A (f (.int i t) (.int j u)) Q E s):
  OpR X f (rI0 fun i j=> .bl (g i j)):=by
 intro pins s σ H x y v u Q I rx ry h
 obtain ⟨i,j,rfl,rfl,q⟩:=h
 obtain ⟨t,rfl⟩:=rx
 obtain ⟨t',rfl⟩:=ry
 exact rule i j t t' s _ _ ⟨.bl (g i j),H,I,rfl,q⟩
noncomputable def Zsc (i j:Int):Prop:=0<=j/\j<=1000000/\i.natAbs < 2 ^ 64
theorem ZmD:OpR X (binaryOp .Add) (rI0 fun i j=> .int (i + j)):=Zsb fun _ _ _ _ _ _ _ q=>add_int q
theorem ZmE:OpR X (binaryOp .Sub) (rI0 fun i j=> .int (i - j)):=Zsb fun _ _ _ _ _ _ _ q=>sub_int q
theorem ZkG:OpR X (binaryOp .Mod) (rI (fun _ j=>j≠0) fun i j=> .int (i.fmod j)):=opI fun _ _ _ _ _ _ _ hc q=>mod_int' hc q
theorem ZmF:OpR X (binaryOp .Pow) (rI Zsc fun i j=> .int (i ^ j.toNat)):=opI fun _ _ _ _ _ _ _ hc q=>pow_int_small hc.1 hc.2.1 hc.2.2 q
theorem unI {f:Value->Sem Value} {g:Int->Int}
  (rule: ∀ (i:Int) (t:Tok) (s:Shared) (Q:Value->Shared->Prop) (E:Value->Shared->Prop),Q (.int (g i) s.toks) { s with toks:=s.toks + 1 }->wpAny (model X.prog X.w) X.A (f (.int i t)) Q E s):
  UnR X f (rU fun i=> .int (g i)):=by
 intro pins s σ H x v Q I rx h
 obtain ⟨i,rfl,q⟩:=h
 obtain ⟨t,rfl⟩:=rx
 exact rule i t s _ _ ⟨.int (g i),H,I.tok _,⟨_,rfl⟩,q⟩
theorem ZjJ:UnR X (unaryOp .USub) (rU fun i=> .int (-i)):=unI fun _ _ _ _ _ q=>neg_int q
end
section
variable {X:Cx} {a b c:Expr} {ta tb tc:TE} {pos:Pos}
theorem ZgK:OpR X (compareOp .Lt) (rI0 fun i j=> .bl (decide (i < j))):=ZpH fun _ _ _ _ _ _ _ q=>lt_int q
theorem ZkH:OpR X (compareOp .LtE) (rI0 fun i j=> .bl (decide (i<=j))):=ZpH fun _ _ _ _ _ _ _ q=>le_int q
theorem Zp3:OpR X (compareOp .Gt) (rI0 fun i j=> .bl (decide (j < i))):=ZpH fun _ _ _ _ _ _ _ q=>gt_int q
theorem Zp4:OpR X (compareOp .GtE) (rI0 fun i j=> .bl (decide (j<=i))):=ZpH fun _ _ _ _ _ _ _ q=>ge_int q
theorem OpR.or {f:Value->Value->Sem Value} {r r':R2} (h:OpR X f r) (h':OpR X f r'):OpR X f (fun x y H Q=>r x y H Q\/r' x y H Q):=by
 intro pins s σ H x y v u Q I rx ry q
 rcases q with q | q
 ·exact h pins s σ H x y v u Q I rx ry q
 ·exact h' pins s σ H x y v u Q I rx ry q
theorem ZjK (b:Expr) {op:CmpOp} (h:op≠ .In:=by decide) (h2:op≠ .NotIn:=by decide):behindInMarks op b=false:=by
 have e1:(op == CmpOp.In)=false:=by cases op<;>first | rfl | exact absurd rfl h
 have e2:(op == CmpOp.NotIn)=false:=by cases op<;>first | rfl | exact absurd rfl h2
 cases b<;>simp[behindInMarks,e1,e2]
theorem ZkI {op:CmpOp} {r:R2} (ho:OpR X (compareOp op) r) (ha:PE X a ta) (hb:PE X b tb) (hm:behindInMarks op b=false):PE X (.Compare a [op] [b] pos) (tOp r ta tb):=by
 intro pins s σ H Q I h
 exact wpAny_Compare1 (Zp1 ha hb I h fun v u s2 x y H2 I2 rx ry q=>ho pins s2 σ H2 x y v u Q I2 rx ry q) hm
noncomputable def ZkJ (t:TE):TT:=fun σ H Q=>t σ H fun x H'=> ∃ k,x= .bl k/\Q k H'
theorem ZkK {op:CmpOp} {r:R2} (ho:OpR X (compareOp op) r) (ha:PE X a ta) (hb:PE X b tb) (hm:behindInMarks op b=false):PT X (.Compare a [op] [b] pos) (ZkJ (tOp r ta tb)):=by
 intro pins s σ H Q I h
 refine wpAny_isTrue_Compare1 (thn (ha pins s σ H _ I h) fun v s1 ⟨x,H1,I1,r1,q1⟩=>thn (hb pins s1 σ H1 _ I1 q1) fun u s2 ⟨y,H2,I2,r2,q2⟩=>
  thn (ho pins s2 σ H2 x y v u _ I2 r1 r2 q2) fun c s3 ⟨z,H3,I3,r3,k,e,q3⟩=> ?_) hm
 subst e
 cases r3
 exact wpAny_truthy_bool ⟨H3,I3,q3⟩
noncomputable def ZjL (r r':R2) (ta tb tc:TE):TE:=fun σ H Q=>ta σ H fun x H1=>tb σ H1 fun y H2=>r x y H2 fun z H3=> ∃ k,z= .bl k/\
 (if k=true then tc σ H3 fun w' H4=>r' y w' H4 Q else Q (.bl false) H3)
theorem ZiH {op op':CmpOp} {r r':R2} (ho:OpR X (compareOp op) r) (ho':OpR X (compareOp op') r') (ha:PE X a ta) (hb:PE X b tb) (hc:PE X c tc)
  (hm:lastMarks [op,op'] [b,c]=false:=by with_unfolding_all rfl):PT X (.Compare a [op,op'] [b,c] pos) (ZkJ (ZjL r r' ta tb tc)):=by
 intro pins s σ H Q I h
 refine isTrue_chain (thn (ha pins s σ H _ I h) fun v s1 ⟨x,H1,I1,r1,q1⟩=>test_link (thn (hb pins s1 σ H1 _ I1 q1) fun u s2 ⟨y,H2,I2,r2,q2⟩=>
  thn (ho pins s2 σ H2 x y v u _ I2 r1 r2 q2) fun d s3 ⟨z,H3,I3,r3,k,e,q3⟩=> ?_)) hm
 subst e
 cases r3
 refine wpAny_truthy_bool ?_
 cases k with
 |false=>
  obtain ⟨k',e',q'⟩:=q3
  cases e'
  exact ite_ff ⟨H3,I3,q'⟩
 |true=>
  refine ite_tt (test_last (thn (hc pins s3 σ H3 _ I3 q3) fun w' s4 ⟨z',H4,I4,r4,q4⟩=>thn (ho' pins s4 σ H4 y z' u w' _ I4 r2 r4 q4) fun d' s5 ⟨z2,H5,I5,r5,k2,e2,q5⟩=> ?_))
  subst e2
  cases r5
  exact wpAny_truthy_bool ⟨H5,I5,q5⟩
theorem ZgL:(sizeLine:Nat) < 2 ^ 63:=by rw[sizeLine_eq];decide
theorem ZfU:OpR X (binaryOp .Add) (fun x y H Q=> ∃ i j,x= .str i/\y= .str j/\i.length + j.length<=sizeLine/\Q (.str (i ++ j)) H):=by
 intro pins s σ H x y v u Q I rx ry h
 obtain ⟨i,j,rfl,rfl,hz,q⟩:=h
 obtain ⟨t,rfl⟩:=rx
 obtain ⟨t',rfl⟩:=ry
 exact add_str (fun t' tk=>⟨.str (i ++ j),H,I.tok _,⟨_,rfl⟩,q⟩) hz
theorem Zcu {x:V} {us:List Value} (r:ZW [x] us): ∃ u,us=[u]/\ZU x u:=by
 cases r with
 |cons r1 r2=>cases r2;exact ⟨_,rfl,r1⟩
theorem ZgM {x y:V} {us:List Value} (r:ZW [x,y] us): ∃ u w',us=[u,w']/\ZU x u/\ZU y w':=by
 cases r with
 |cons r1 r2=>
  cases r2 with
  |cons r3 r4=>cases r4;exact ⟨_,_,rfl,r1,r3⟩
theorem Zfj:ZbR X (.builtin "abs") (fun xs H Q=> ∃ i,xs=[.int i]/\Q (.int (if i < 0 then -i else i)) H):=by
 intro pins s σ H xs us Q I r h
 obtain ⟨i,rfl,q⟩:=h
 obtain ⟨u,rfl,t,rfl⟩:=Zcu r
 exact call_abs_int fun u tk=>⟨.int (if i < 0 then -i else i),H,I.tok _,⟨_,rfl⟩,q⟩
theorem ZgN (hc:X.calm=true):ZbR X (.builtin "max") (fun xs H Q=> ∃ i j,xs=[.int i,.int j]/\Q (.int (if j > i then j else i)) H):=by
 intro pins s σ H xs us Q I r h
 obtain ⟨i,j,rfl,q⟩:=h
 obtain ⟨u,w',rfl,⟨t,rfl⟩,⟨t',rfl⟩⟩:=ZgM r
 refine max_two_ints (I.ok.hd hc) fun h' tk k=>⟨_,H,I.kept k,?_,q⟩
 by_cases hj:j > i
 ·rw[if_pos hj,if_pos hj];exact ⟨_,rfl⟩
 ·rw[if_neg hj,if_neg hj];exact ⟨_,rfl⟩
theorem ZgO (hc:X.calm=true):ZbR X (.builtin "min") (fun xs H Q=> ∃ i j,xs=[.int i,.int j]/\Q (.int (if j < i then j else i)) H):=by
 intro pins s σ H xs us Q I r h
 obtain ⟨i,j,rfl,q⟩:=h
 obtain ⟨u,w',rfl,⟨t,rfl⟩,⟨t',rfl⟩⟩:=ZgM r
 refine min_two_ints (I.ok.hd hc) fun h' tk k=>⟨_,H,I.kept k,?_,q⟩
 by_cases hj:j < i
 ·rw[if_pos hj,if_pos hj];exact ⟨_,rfl⟩
 ·rw[if_neg hj,if_neg hj];exact ⟨_,rfl⟩
end
end L2
namespace L2
open PySem PySem.Spec PyProof.Rows
section
variable {prog:Program} {w:World} {A:Around} {E:Value->Shared->Prop} {s:Shared} {K:PySem.W.Frag} {x dx C f:Addr} {mA:Str->Option Value} {name:Str} {v:Value}
end
section
variable {P:Program} {w:World} {H H':Hp} {h h':Heap} {a C dx:Addr} {fs fs':List (Str × V)}
end
section
variable {X:Cx} {pins:List (Addr × Obj)} {σ:St} {H:Hp} {s:Shared} {a C dx:Addr} {fs:List (Str × V)} {f:Str} {v:V} {A:Around} {E:Value->Shared->Prop}
end
section
variable {X:Cx} {o e value:Expr} {f:Str} {pos pos' tpos:Pos} {ta tv:TE}
end
section
variable {X:Cx} {pins:List (Addr × Obj)} {σ:St} {H:Hp} {s:Shared} {A:Around} {E:Value->Shared->Prop} {Q:Value->Shared->Prop} {c:Value} {b:Bool}
end
end L2
namespace L2
open PySem PySem.Spec PyProof.Rows
structure Room (k:Nat) (A:Around):Prop where
 hd:100<=k->A.handled=none
 dp:A.depth + 3 * k + 5 < recursionLimit
 un:A.units + 16 * k + 200 < cLine
theorem Room.mono {j k:Nat} {A:Around} (r:Room k A) (h:j<=k):Room j A:=⟨fun z=>r.hd (Nat.le_trans z h),by have:=r.dp;omega,by have:=r.un;omega⟩
theorem Room.deeper {k:Nat} {A:Around} (r:Room (k + 1) A) (env:Env):Room k (A.deeper env):=
 ⟨fun z=>r.hd (Nat.le_succ_of_le z),by have:=r.dp;show A.depth + 1 + 3 * k + 5 < _;omega,by have:=r.un;show A.units + 3 + 16 * k + 200 < _;omega⟩
theorem Room.depth {k:Nat} {A:Around} (r:Room k A):A.depth < recursionLimit:=by have:=r.dp;omega
theorem Room.units {k:Nat} {A:Around} (r:Room k A):A.units + 64 < cLine:=by have:=r.un;omega
noncomputable def tNil:TA:=fun _ H Q=>Q [] H
noncomputable def Zp5 (ta:TE) (tr:TA):TA:=fun σ H Q=>ta σ H fun x H1=>tr σ H1 fun xs H2=>Q (x :: xs) H2
section
variable {X:Cx} {e:Expr} {es:List Expr} {te:TE} {t:TA} {pos:Pos}
theorem ZjM:PA X [] tNil:=fun _ _ _ _ H Q I h=>Calls.spliced_nil ⟨[],H,I,.nil,h⟩
theorem ZeM (ha:PE X e te) (hr:PA X es t) (hs:starEach (e :: es) X.env=(false,eval e X.env) :: starEach es X.env:=by rfl):PA X (e :: es) (Zp5 te t):=by
 intro pos pins s σ H Q I h
 rw[hs]
 show wpAny _ _ (spliced ((false,eval e X.env) :: backTo pos (starEach es X.env))) _ _ s
 refine Calls.spliced_cons (thn (ha pins s σ H _ I h) fun u s1 ⟨x,H1,I1,r1,q1⟩=> ?_)
 exact thn (hr pos pins s1 σ H1 _ I1 q1) fun us s2 ⟨xs,H2,I2,r2,q2⟩=>⟨x :: xs,H2,I2,.cons r1 r2,q2⟩
noncomputable def Ztv (t:TA):TE:=fun σ H Q=>t σ H fun xs H1=>xs.length<=sizeLine/\ ∀ p,H1 p=none->Q (.ref p) (upd H1 p (.tup xs))
noncomputable def Ztw (t:TA):TE:=fun σ H Q=>t σ H fun xs H1=>xs.length<=sizeLine/\ ∀ p,H1 p=none->Q (.ref p) (upd H1 p (.lst xs))
theorem ZmG {x1} (h:PA X es t):PE X (.Tuple es x1 pos) (Ztv t):=by
 intro pins s σ H Q I hq
 refine wpAny_Tuple_spliced (thn (h pos pins s σ H _ I hq) fun us s1 ⟨xs,H1,I1,r,z,q⟩=>⟨by rw[<- r.length];exact z,?_⟩)
 have hf:H1 s1.heap.objs.size=none:=I1.hok.fresh (Nat.le_refl _)
 refine ⟨.ref s1.heap.objs.size,upd H1 s1.heap.objs.size (.tup xs),I1.laid (t':=s1.toks) (fun b u e=>Heap.get?_push_of_some _ e) (Nat.le_refl _) ?_,rfl,q _ hf⟩
 exact ⟨z,us,r,⟨_,Heap.get?_push_size _ rfl,rfl,_,rfl⟩⟩
theorem ZmH (h:PA X es t):PE X (.List es pos) (Ztw t):=by
 intro pins s σ H Q I hq
 refine wpAny_List_spliced (thn (h pos pins s σ H _ I hq) fun us s1 ⟨xs,H1,I1,r,z,q⟩=>⟨by rw[<- r.length];exact z,?_⟩)
 have hf:H1 s1.heap.objs.size=none:=I1.hok.fresh (Nat.le_refl _)
 refine ⟨.ref s1.heap.objs.size,upd H1 s1.heap.objs.size (.lst xs),I1.laid (t':=s1.toks) (fun b u e=>Heap.get?_push_of_some _ e) (Nat.le_refl _) ?_,rfl,q _ hf⟩
 exact ⟨z,us,0,r,Heap.get?_push_size _ rfl⟩
end
noncomputable abbrev Sp:=List V->Hp->VK->XK->Prop
noncomputable abbrev CXT:=List Env->Hp->Shared->XK->Value->Shared->Prop
structure Env0 (P:Program) (w:World) (K:PySem.W.Frag) (mg:Str->Option Value) (base:Heap) (A:Around) (outer:List Env) (s:Shared) (H:Hp):Prop where
 frames:A.frames=some outer
 mod:Mod K mg base
 bs: ∀ b o,base.get? b=some o->s.heap.get? b=some o/\H b=none
 bsz:base.objs.size<=s.heap.objs.size
 funs:s.heap.FunFrames base outer
 frf: ∀ b∈frs outer,H b=none
 hok:HOk P w H s.heap
 bare:AllBare s.gens
 qd:Qd A H
noncomputable def CE (outer:List Env) (P:Program) (w:World) (H:Hp) (s:Shared) (Q:VK) (u:Value) (s':Shared):Prop:=
 ∃ v H',s'.os=s.os/\AllBare s'.gens/\Un (frs outer) [] H H' s.heap s'.heap/\HOk P w H' s'.heap/\ZU v u/\Q v H'
noncomputable def CR (CX:CXT) (outer:List Env) (P:Program) (w:World) (H:Hp) (s:Shared) (Q:VK) (E:XK) (r:Result) (s':Shared):Prop:=
 match r with
 | .ok (.ret u)=>CE outer P w H s Q u s'
 | .ok _=>False
 | .error e=>CX outer H s E e s'
structure FnOk (P:Program) (w:World) (K:PySem.W.Frag) (mg:Str->Option Value) (base:Heap) (CX:CXT) (k:Nat) (f:Addr) (fd:FuncData) (ps:List Str) (sp:Sp):Prop where
 len: ∀ vs H Q E,sp vs H Q E->vs.length=ps.length
 run: ∀ (A:Around) (outer:List Env) (s:Shared) (H:Hp) (args:Args) (us:List Value) (vs:List V) (Q:VK) (E:XK),Room k A->Env0 P w K mg base A outer s H->BindsTo s fd args (ps.zip us)->ZW vs us->sp vs H Q E->
  codeAny (model P w) A (.call (.ref f) args) (CR CX outer P w H s Q E) s
section
variable {X:Cx} {pins:List (Addr × Obj)} {σ:St} {H:Hp} {s s':Shared}
theorem Inv.env0 (I:Inv X pins σ H s):Env0 X.prog X.w X.K X.mg X.base X.A X.stack s H:=
 ⟨I.ok.frames,I.ok.mod,I.bs,Nat.le_trans I.ok.bsz I.sz,I.stack,I.stkFree,I.hok,I.bare,I.qd⟩
theorem Inv.after {Q:VK} {u:Value} (I:Inv X pins σ H s) (h:CE X.stack X.prog X.w H s Q u s'):EP X pins σ Q u s':=by
 obtain ⟨v,H',os,bare,un,hok,r,q⟩:=h
 obtain ⟨hh,g,d,t,os'⟩:=s'
 obtain rfl:os'=s.os:=os
 exact ⟨v,H',I.call (h':=hh) (g':=g) (d':=d) (t':=t) (ch:=[]) un hok bare (fun b z=>absurd z (by simp)),r,q⟩
end
noncomputable def ZmI (sp:Sp) (dvs:List V) (E:XK) (t:TA):TE:=fun σ H Q=>t σ H fun vs H1=>sp (vs ++ dvs) H1 Q E
noncomputable def ZdX (K:PySem.W.Frag) (fd:FuncData) (ps:List Str) (ds:List Value):Prop:=
 ∀ (s:Shared) (us:List Value),K.In s.heap->(us ++ ds).length=ps.length->BindsTo s fd ⟨us,[]⟩ (ps.zip (us ++ ds))
theorem ZdX.all {K:PySem.W.Frag} {fd:FuncData} {ps:List Str} (h: ∀ us:List Value,us.length=ps.length->bindArgs fd ⟨us,[]⟩=pure (ps.zip us)):ZdX K fd ps []:=fun s us _ hl=>by
 rw[List.append_nil] at hl ⊢
 exact .of_eq (h us hl)
noncomputable def Zfk (CX:CXT) (X:Cx) (E:XK):Prop:= ∀ (pins:List (Addr × Obj)) (σ:St) (H:Hp) (s:Shared) (e:Value) (s':Shared),Inv X pins σ H s->CX X.stack H s E e s'->X.xe e s'
section
variable {X:Cx} {CX:CXT} {k:Nat} {f C:Addr} {fd:FuncData} {ps:List Str} {sp:Sp} {dvs:List V} {ds:List Value} {E:XK} {x m:Str} {p pos apos:Pos} {e o:Expr} {es:List Expr} {ta:TE} {t:TA}
theorem ZjN {pins:List (Addr × Obj)} {σ:St} {H:Hp} {s:Shared} {Q:VK} {us:List Value} {vs:List V} (F:FnOk X.prog X.w X.K X.mg X.base CX k f fd ps sp) (hr:Room k X.A) (hb:ZdX X.K fd ps ds) (hd:ZW dvs ds) (hx:Zfk CX X E)
  (I:Inv X pins σ H s) (r:ZW vs us) (h:sp (vs ++ dvs) H Q E):wpAny (model X.prog X.w) X.A (call (.ref f) us) (EP X pins σ Q) X.xe s:=by
 have r2:ZW (vs ++ dvs) (us ++ ds):=r.append hd
 have hl:(us ++ ds).length=ps.length:=by rw[<- r2.length];exact F.len _ _ _ _ h
 refine wpAny_call (codeAny_mono (F.run X.A X.stack s H ⟨us,[]⟩ (us ++ ds) (vs ++ dvs) Q E hr I.env0 (hb s us I.kIn hl) r2 h) fun r s' hq=> ?_)
 cases r with
 |error e=>exact hx pins σ H s e s' I hq
 |ok fl=>
  cases fl with
  |ret u=>exact I.after hq
  |next=>exact False.elim hq
  |brk=>exact False.elim hq
  |cont=>exact False.elim hq
theorem ZkL (F:FnOk X.prog X.w X.K X.mg X.base CX k f fd ps sp) (hr:Room k X.A) (hg:Gl X x) (hm:X.mg x=some (.ref f)) (hk:PySem.W.keepIn X.K (.ref f)=true) (hb:ZdX X.K fd ps ds) (hd:ZW dvs ds) (hx:Zfk CX X E)
  (ha:PA X (e :: es) t) (hdb:(x == ("__debug__":Str))=false:=by decide) (he:starEach (e :: es) X.env=(false,eval e X.env) :: starEach es X.env:=by rfl) (hpl:(backTo pos (starEach es X.env)).any (·.1)=false:=by rfl):
  PE X (.Call (.Name x p) (e :: es) [] pos) (ZmI sp dvs E t):=by
 intro pins s σ H Q I h
 refine wpAny_Call_Name_kw (Zdq I hg hm ?_ hdb)
 refine PySem.W.callWith_K (h₀:=X.base) I.ok.mod.kin hk (thn (ha pos pins s σ H _ I h) fun us s1 ⟨vs,H1,I1,r,q⟩=>⟨I1.kIn,?_⟩) he hpl
 exact ZjN F hr hb hd hx I1 r q
theorem ZiI (F:FnOk X.prog X.w X.K X.mg X.base CX k f fd ps sp) (hr:Room k X.A) (hg:Gl X x) (hm:X.mg x=some (.ref f)) (hk:PySem.W.keepIn X.K (.ref f)=true) (hb:ZdX X.K fd ps ds) (hd:ZW dvs ds) (hx:Zfk CX X E)
  (hdb:(x == ("__debug__":Str))=false:=by decide):PE X (.Call (.Name x p) [] [] pos) (ZmI sp dvs E tNil):=by
 intro pins s σ H Q I h
 refine wpAny_Call_Name_kw (Zdq I hg hm ?_ hdb)
 exact PySem.W.callWith_K0 I.kIn hk (ZjN (us:=[]) F hr hb hd hx I .nil h)
end
section
variable {X:Cx} {CX:CXT} {k:Nat} {f C:Addr} {fd:FuncData} {ps ks:List Str} {sp:Sp} {E:XK} {x m:Str} {p pos apos kpos:Pos} {e o:Expr} {es:List Expr} {kws:List Keyword} {te ta:TE} {t tk:TA} {nm:Option Str}
variable {g:List Value->List Value->List Value} {gV:List V->List V->List V}
end
structure FnScope (N P:List Str) (sc:Scope):Prop where
 kind:sc.kind= .function
 co:sc.isCoroutine=false
 gen:sc.isGenerator=false
 nd:N.Nodup
 pre:N.take P.length=P
 par: ∀ x∈P,sc.names.lookup x=some .local\/sc.names.lookup x=some .cell
 nofree: ∀ y∈sc.names,y.2≠ .free
theorem ZdY {kindOf:Str->Option NameKind} {x:Str}: ∀ {binds:List (Str × Value)} {m:Str->Option Value},(∀ v,(x,v) ∉ binds)->bindL kindOf binds m x=m x
 | [],_,_=>rfl
 | (n,v) :: r,m,h=>by
  unfold bindL
  rw[ZdY fun w hw=>h w (List.mem_cons_of_mem _ hw)]
  split
  ·have:x≠n:=by rintro rfl;exact h v List.mem_cons_self
   simp[this]
  ·rfl
theorem ZdZ {kindOf:Str->Option NameKind} {x:Str}: ∀ {binds:List (Str × Value)} {m:Str->Option Value},(∀ v,(x,v) ∉ binds)->bindC kindOf binds m x=m x
 | [],_,_=>rfl
 | (n,v) :: r,m,h=>by
  unfold bindC
  rw[ZdZ fun w hw=>h w (List.mem_cons_of_mem _ hw)]
  split
  ·rfl
  ·have:x≠n:=by rintro rfl;exact h v List.mem_cons_self
   simp[this]
theorem Zd0 {kindOf:Str->Option NameKind} {x:Str} {v:Value}: ∀ {P:List Str} {vs:List Value} {i:Nat} {m:Str->Option Value},P.Nodup->P[i]?=some x->vs[i]?=some v->kindOf x=some .local->
  bindL kindOf (P.zip vs) m x=some v
 | [],_,_,_,_,h,_,_=>by simp at h
 |_ :: _,[],_,_,_,_,h,_=>by simp at h
 |p :: P,w :: vs,0,m,nd,h1,h2,hk=>by
  simp at h1 h2;subst h1;subst h2
  show bindL kindOf ((p,w) :: P.zip vs) m p=_
  unfold bindL
  rw[ZdY fun v hv=>(List.nodup_cons.mp nd).1 (List.of_mem_zip hv).1,if_pos hk]
  simp
 |p :: P,w :: vs,i + 1,m,nd,h1,h2,hk=>by
  show bindL kindOf ((p,w) :: P.zip vs) m x=_
  unfold bindL
  exact Zd0 (i:=i) (List.nodup_cons.mp nd).2 (by simpa using h1) (by simpa using h2) hk
theorem Zd1 {kindOf:Str->Option NameKind} {x:Str} {v:Value}: ∀ {P:List Str} {vs:List Value} {i:Nat} {m:Str->Option Value},P.Nodup->P[i]?=some x->vs[i]?=some v->kindOf x≠some .local->
  bindC kindOf (P.zip vs) m x=some v
 | [],_,_,_,_,h,_,_=>by simp at h
 |_ :: _,[],_,_,_,_,h,_=>by simp at h
 |p :: P,w :: vs,0,m,nd,h1,h2,hk=>by
  simp at h1 h2;subst h1;subst h2
  show bindC kindOf ((p,w) :: P.zip vs) m p=_
  unfold bindC
  rw[ZdZ fun v hv=>(List.nodup_cons.mp nd).1 (List.of_mem_zip hv).1,if_neg hk]
  simp
 |p :: P,w :: vs,i + 1,m,nd,h1,h2,hk=>by
  show bindC kindOf ((p,w) :: P.zip vs) m x=_
  unfold bindC
  exact Zd1 (i:=i) (List.nodup_cons.mp nd).2 (by simpa using h1) (by simpa using h2) hk
noncomputable def start (N:List Str) (vs:List V):St:=vs.map some ++ List.replicate (N.length - vs.length) none
noncomputable def ZeH (CX:CXT) (P:Program) (w:World) (K:PySem.W.Frag) (mg:Str->Option Value) (base:Heap) (N:List Str) (qual:Str) (scope:Scope) (f:Addr) (cd:Value) (A:Around) (outer:List Env) (s:Shared) (H:Hp) (E:XK):Cx where
 prog:=P
 w:=w
 K:=K
 mg:=mg
 base:=base
 A:=A.deeper (envOfC qual scope s.heap.objs.size f cd)
 N:=N
 s₀:=s
 H₀:=H
 env:=envOfC qual scope s.heap.objs.size f cd
 outer:=outer
 stack:=envOfC qual scope s.heap.objs.size f cd :: outer
 ex:=[]
 calm:=A.handled.isNone
 fn:=fun _=>true
 pn:=[]
 xe:=fun e s'=>wpAny (model P w) (A.deeper (envOfC qual scope s.heap.objs.size f cd)) (leaving (envOfC qual scope s.heap.objs.size f cd) e) (fun _ s''=>CX outer H s E e s'') (fun e' s''=>CX outer H s E e' s'') s'
theorem Zfl {sc:Scope} {n:Nat} {x:Str} (h:sc.names.lookup x=some .cell): ∃ c,(cellsFrom n sc.names []).lookup x=some c:=by
 have q:=PySem.W.cellsFrom_some sc.names n [] (.inl h)
 exact Option.isSome_iff_exists.mp q
theorem ZgP {CX:CXT} {P:Program} {w:World} {K:PySem.W.Frag} {mg:Str->Option Value} {base:Heap} {N ps:List Str} {qual:Str} {scope:Scope} {f:Addr} {cd:Value} {A:Around} {outer:List Env} {s s1:Shared} {H:Hp} {E:XK} {us:List Value} {vs:List V}
  (S:FnScope N ps scope) (e0:Env0 P w K mg base A outer s H) (hl:vs.length=ps.length) (r:ZW vs us)
  (x:InCallC s s.heap.objs.size (bindL (envOfC qual scope s.heap.objs.size f cd).kindOf (ps.zip us) fun _=>none) (cellsFrom (s.heap.objs.size + 1) scope.names []) (bindC (envOfC qual scope s.heap.objs.size f cd).kindOf (ps.zip us) fun _=>none) s1):
  Inv (ZeH CX P w K mg base N qual scope f cd A outer s H E) [] (start N vs) H s1:=by
 have hpl:ps.length<=N.length:=by have:=congrArg List.length S.pre;rw[List.length_take] at this;omega
 obtain ⟨h1,tk,rfl,hk⟩:=x.done
 have noA: ∀ b:Addr,b ∉ (ZeH CX P w K mg base N qual scope f cd A outer s H E).ex:=fun b z=>absurd (show b∈([]:List Addr) from z) (by simp)
 refine ⟨⟨e0.mod,S.kind,rfl,rfl,Nat.le_refl _,fun y z c h1 h2=> ?_,fun y hy=> ?_,fun y c _ h=> ?_,fun z=>Option.isNone_iff_eq_none.mp z,Around.frames_deeper e0.frames,.inr ⟨rfl,rfl⟩,fun b z=>absurd z (noA b),e0.bs,e0.bsz,fun b _ _=>noA b,fun b z=>absurd z (noA b),e0.funs,e0.frf⟩,
  rfl,e0.bare,Un.kept hk,⟨_,x.toInCall.ns,fun i y v h1 h2 h3=> ?_⟩,fun y c h=>⟨_,x.cell y c h⟩,e0.hok.fresh (Nat.le_refl _),fun y c h=> ?_,fun p hp=>absurd (show p∈([]:List (Addr × Obj)) from hp) (by simp),e0.hok.kept hk,?_,e0.qd⟩
 ·exact name_of_addr x.apart (PySem.mem_of_lookup h1) (PySem.mem_of_lookup h2)
 ·have hy:scope.names.lookup y=some .cell\/scope.names.lookup y=some .free:=hy
  rcases hy with hy | hy
  ·exact Zfl hy
  ·exact absurd rfl (S.nofree _ (PySem.mem_of_lookup hy))
 ·exact Nat.le_of_lt (x.above y c (PySem.mem_of_lookup h))
 ·have hi:i < vs.length:=by
   unfold start at h2
   by_cases hi:i < vs.length
   ·exact hi
   ·rw[List.getElem?_append_right (by simpa using hi)] at h2
    rw[List.getElem?_replicate] at h2
    split at h2<;>cases h2
  have ha:vs[i]?=some v:=by
   unfold start at h2
   rw[List.getElem?_append_left (by simpa using hi),List.getElem?_map] at h2
   cases e:vs[i]? with
   |none=>rw[e] at h2;cases h2
   |some a=>rw[e] at h2;cases h2;rfl
  obtain ⟨u,hu,rv⟩:=r.get ha
  have hp:ps[i]?=some y:=by
   rw[<- S.pre,List.getElem?_take_of_lt (by omega)];exact h1
  have ndP:ps.Nodup:=by rw[<- S.pre];exact S.nd.sublist (List.take_sublist _ _)
  refine ⟨u,rv,?_⟩
  rcases S.par y (List.mem_of_getElem? hp) with k | k
  ·exact .inl ⟨k,Zd0 ndP hp hu k⟩
  ·obtain ⟨c,e⟩:=Zfl (n:=s.heap.objs.size + 1) k
   refine .inr ⟨.inl k,c,e,?_⟩
   have q:=x.cell y c e
   rw[Zd1 ndP hp hu (by show scope.names.lookup y≠_;rw[k];decide)] at q
   exact q
 ·exact e0.hok.fresh (Nat.le_of_lt (x.above y c (PySem.mem_of_lookup h)))
 ·unfold start
  show _=N.length
  rw[List.length_append,List.length_map,List.length_replicate]
  omega
theorem Zp6 {CX:CXT} {P:Program} {w:World} {K:PySem.W.Frag} {mg:Str->Option Value} {base:Heap} {k:Nat} {f:Addr} {name qual:Str} {params:Arguments} {body:List Stmt} {scope:Scope} {dV kV doc pm cdv ct oc:Value} {an od:Option Addr}
  {osl:Array (Option Value)} {N ps:List Str} {sp:Sp} (lk:K.lookup f=some ⟨oc,od,.func (PySem.W.fnOf name qual params body scope dV kV doc pm an cdv ct),osl⟩) (hcd:PySem.W.codeIn K cdv qual=true) (S:FnScope N ps scope)
  (len: ∀ vs H Q E,sp vs H Q E->vs.length=ps.length)
  (hbody: ∀ (A:Around) (outer:List Env) (s:Shared) (H:Hp) (vs:List V) (Q:VK) (E:XK),Room k (A.deeper (envOfC qual scope s.heap.objs.size f cdv))->sp vs H Q E->
   ∃ t,PSs (ZeH CX P w K mg base N qual scope f cdv A outer s H E) body t/\t { nx:=fun _ H'=>Q .non H',rt:=Q } (start N vs) H):
  FnOk P w K mg base CX (k + 1) f (PySem.W.fnOf name qual params body scope dV kV doc pm an cdv ct) ps sp:=by
 refine ⟨len,fun A outer s H args us vs Q E hr e0 hb r hsp=> ?_⟩
 have hl:=len _ _ _ _ hsp
 have KX:K.In s.heap:=e0.mod.kin.keeps fun b o e=>(e0.bs b o e).1
 have lim:s.heap.NoLimit:=e0.mod.nolimit.keeps fun b o e=>(e0.bs b o e).1
 have hkind: ∀ y∈ps.zip us,scope.names.lookup y.1=some .local\/(scope.names.lookup y.1=some .cell/\((cellsFrom (s.heap.objs.size + 1) scope.names []).lookup y.1).isSome=true):=fun ⟨n,v⟩ hy=>by
  rcases S.par n (List.of_mem_zip hy).1 with q | q
  ·exact .inl q
  ·exact .inr ⟨q,PySem.W.cellsFrom_some _ _ _ (.inl q)⟩
 refine codeAny_call_function hr.depth (KX _ _ lk) rfl S.co S.gen rfl (PySem.W.codeRec_of KX hcd) (hb _ _ _ _ ?_)
 refine wpAny_newFunctionEnv_cells S.kind hkind fun env he s1 x=> ?_
 subst he
 refine ⟨lim.keeps x.toInCall.keep,codeAny_func ?_⟩
 obtain ⟨t,ht,hq⟩:=hbody A outer s H vs Q E (hr.deeper _) hsp
 have I:Inv (ZeH CX P w K mg base N qual scope f cdv A outer s H E) [] (start N vs) H s1:=ZgP S e0 hl r x
 refine wpAny_mono (ht [] s1 (start N vs) H _ I hq) (fun fl s' hs=> ?_) fun e s' hs=>hs
 have fin: ∀ {σ':St} {H':Hp} {v:V} {u:Value},Inv (ZeH CX P w K mg base N qual scope f cdv A outer s H E) [] σ' H' s'->ZU v u->Q v H'->CE outer P w H s Q u s':=
  fun {σ' H' v u} J rv q=>⟨v,H',J.os,J.bare,J.base,J.hok,rv,q⟩
 cases fl with
 |ret u=>
  obtain ⟨v,σ',H',J,rv,q⟩:=hs
  exact fin J rv q
 |next=>
  obtain ⟨σ',H',J,q⟩:=hs
  exact fin (v:=V.non) (u:=Value.none) J rfl q
 |brk=>
  obtain ⟨_,_,_,q⟩:=hs
  exact False.elim q
 |cont=>
  obtain ⟨_,_,_,q⟩:=hs
  exact False.elim q
end L2
namespace L2
open PySem PySem.Spec PyProof.Rows
section
variable {X:Cx} {x:Str} {p pos:Pos} {e:Expr} {es:List Expr} {t:TA} {id T:String} {r:List V->Hp->VK->Prop}
noncomputable def tCB (r:List V->Hp->VK->Prop) (t:TA):TE:=fun σ H Q=>t σ H fun vs H1=>r vs H1 Q
theorem Zfm (hc:ZbR X (.builtin id) r) (hg:Gl X x) (hm:X.mg x=none) (hv:bootBuiltins x=some (.builtin id)) (ha:PA X (e :: es) t) (hn:x≠"__name__":=by decide) (hdb:(x == ("__debug__":Str))=false:=by decide)
  (he:starEach (e :: es) X.env=(false,eval e X.env) :: starEach es X.env:=by rfl) (hpl:(backTo pos (starEach es X.env)).any (·.1)=false:=by rfl):PE X (.Call (.Name x p) (e :: es) [] pos) (tCB r t):=by
 intro pins s σ H Q I h
 refine wpAny_Call_Name_kw (ZbW I hg hm hv ?_ hn hdb)
 exact PyProof.Rows.callWith_builtin1 (thn (ha pos pins s σ H _ I h) fun us s1 ⟨vs,H1,I1,r1,q1⟩=>hc pins s1 σ H1 vs us Q I1 r1 q1) he hpl
theorem ZgQ (hc:ZbR X (.type T) r) (hg:Gl X x) (hm:X.mg x=none) (hv:bootBuiltins x=some (.type T)) (ha:PA X (e :: es) t) (hn:x≠"__name__":=by decide) (hdb:(x == ("__debug__":Str))=false:=by decide)
  (he:starEach (e :: es) X.env=(false,eval e X.env) :: starEach es X.env:=by rfl) (hpl:(backTo pos (starEach es X.env)).any (·.1)=false:=by rfl):PE X (.Call (.Name x p) (e :: es) [] pos) (tCB r t):=by
 intro pins s σ H Q I h
 refine wpAny_Call_Name_kw (ZbW I hg hm hv ?_ hn hdb)
 exact PyProof.Rows.callWith_type1 (thn (ha pos pins s σ H _ I h) fun us s1 ⟨vs,H1,I1,r1,q1⟩=>hc pins s1 σ H1 vs us Q I1 r1 q1) he hpl
end
end L2
namespace HT
open PySem PyProof.Rows
noncomputable def Zbu:List Int->List Int->Bool
 | [],[]=>false
 | [],_ :: _=>true
 |_ :: _,[]=>false
 |x :: xs,y :: ys=>if x=y then Zbu xs ys else decide (x < y)
theorem Zce (x y:Int) (xs ys:List Int):Zbu (x :: xs) (y :: ys)=if x=y then Zbu xs ys else decide (x < y):=rfl
theorem ZbX:Zbu [] []=false:=rfl
theorem Zc3 (y:Int) (ys:List Int):Zbu [] (y :: ys)=true:=rfl
theorem Zc4 (x:Int) (xs:List Int):Zbu (x :: xs) []=false:=rfl
theorem ZiJ (A:Around) (s:Shared) (a:Int) (t:Tok) (c:Int) (u:Tok): ∃ e,SeqAt.EqAt A s (.int a t) (.int c u) e/\(e=true ↔ a=c):=
 ⟨(a == c),SeqAt.EqAt.int_int a t c u,by simp⟩
theorem ZiK (A:Around) (s:Shared) (a:Int) (t:Tok) (c:Int) (u:Tok) (prog:Program) (w:World) (E:Value->Shared->Prop) (Q:Value->Shared->Prop) (h:Q (.bool (decide (a < c))) s):
  wpAny (model prog w) A (richCompare .Lt (.int a t) (.int c u)) Q E s:=
 (PyProof.Rows.lt_int h:wpAny (model prog w) A (compareOp .Lt (.int a t) (.int c u)) Q E s)
section
open PySem.SeqAt
open PySem.AutoSeq1 (wpAny_loadPart')
open PySem.MeetsSeq PySem.MeetsSeq2 PySem.MeetsSeq3
theorem Zdr (l b:Addr) (items items2:Array Value) (n n2:Nat) (dd dd2:Option Addr) (sl sl2:Array (Option Value)) (ns ms:List Int) (hi:IntsAre items.toList ns) (hj:IntsAre items2.toList ms):
  Meets (Builtin.«tuple.__lt__» ⟨[.ref l,.ref b],[]⟩)
   (fun _ R s=>s.heap.get? l=some { cls:= .type "tuple",dict:=dd,data:= .seq items n,slots:=sl }/\s.heap.get? b=some { cls:= .type "tuple",dict:=dd2,data:= .seq items2 n2,slots:=sl2 }/\
    R (.ok (.ret (.bool (Zbu ns ms)))) s):=
 .of_wp fun prog w A R s h=>by
  obtain ⟨hp,g,d,tk,os⟩:=s;obtain ⟨hl,hb,h⟩:=h
  have f2:=AutoSeq1.sub_tuple_tuple
  have z1:items.size=ns.length:=by rw[<- hi.length];simp
  have z2:items2.size=ms.length:=by rw[<- hj.length];simp
  wp_walk using wpAny_loadPart' hl,wpAny_loadPart' hb,wpAny_forIn_list _ (fun rest b s'=>b.1=none/\s'=⟨hp,g,d,tk,os⟩/\ ∃ (vs ws:List Value) (ns' ms':List Int),rest=vs.zip ws/\
   IntsAre vs ns'/\IntsAre ws ms'/\ns'.length + items2.size=ms'.length + items.size/\R (.ok (.ret (.bool (Zbu ns' ms')))) ⟨hp,g,d,tk,os⟩) _
  case turn=>
   rintro ⟨y,x⟩ rest b s' ⟨hb',rfl,vs,ws,ns',ms',hz,hvi,hwi,hlen,hR⟩
   cases hvi with
   |nil=>rw[List.zip_nil_left] at hz;cases hz
   |cons a t hvi'=>
    cases hwi with
    |nil=>rw[List.zip_nil_right] at hz;cases hz
    |cons c u hwi'=>
     rw[List.zip_cons_cons] at hz
     injection hz with hyx hrest
     injection hyx with hy hx
     subst hy hx
     rw[Zce] at hR
     simp only[List.length_cons] at hlen
     obtain ⟨e,he,hiff⟩:=ZiJ A.in1 ⟨hp,g,d,tk,os⟩ a t c u
     refine wpAny_bind (he prog w _ _ ?_)
     cases e with
     |true=>
      rw[if_pos (hiff.mp rfl)] at hR
      wp_walk
      exact ⟨rfl,rfl,_,_,_,_,hrest,hvi',hwi',by omega,hR⟩
     |false=>
      rw[if_neg (fun q=>absurd (hiff.mpr q) Bool.false_ne_true)] at hR
      have hri:=ZiK A.in1 ⟨hp,g,d,tk,os⟩ a t c u prog w
      wp_walk using hri
      exact ⟨_,rfl,by simpa using hR⟩
  case fin=>
   rintro ⟨b1,b2⟩ s' ⟨hb',rfl,vs,ws,ns',ms',hz,hvi,hwi,hlen,hR⟩
   simp only at hb'
   subst hb'
   have hv:Zbu ns' ms'=decide (items.size < items2.size):=by
    cases hvi with
    |nil=>
     cases hwi with
     |nil=>
      simp only[List.length_nil] at hlen
      rw[ZbX]
      exact (decide_eq_false (by omega)).symm
     |cons c u hw=>
      simp only[List.length_nil,List.length_cons] at hlen
      rw[Zc3]
      exact (decide_eq_true (by omega)).symm
    |cons a t hv=>
     cases hwi with
     |nil=>
      simp only[List.length_nil,List.length_cons] at hlen
      rw[Zc4]
      exact (decide_eq_false (by omega)).symm
     |cons c u hw=>
      rw[List.zip_cons_cons] at hz
      cases hz
   rw[hv] at hR
   wp_walk
   exact ⟨_,rfl,by simpa [Builtin.Tuple.tupleCompareSizes] using hR⟩
  case h=>
   exact ⟨rfl,rfl,items.toList,items2.toList,ns,ms,rfl,hi,hj,by omega,h⟩
end
section
variable {prog:Program} {w:World} {A:Around} {E:Value->Shared->Prop} {s:Shared}
theorem ZfV {l b:Addr} {items items2:Array Value} {ns ms:List Int} {Q:Value->Shared->Prop} (hl:IsTup s.heap l items) (hb:IsTup s.heap b items2) (hi:IntsAre items.toList ns) (hj:IntsAre items2.toList ms)
  (hu:A.units < cLine) (h:Q (.bool (Zbu ns ms)) s):wpAny (model prog w) A (compareOp .Lt (.ref l) (.ref b)) Q E s:=by
 obtain ⟨⟨cls,dd,data,sl⟩,ho,hc,n,hd⟩:=id hl
 obtain ⟨⟨cls2,dd2,data2,sl2⟩,ho2,hc2,n2,hd2⟩:=id hb
 simp only at hc hd hc2 hd2
 subst hc hd hc2 hd2
 exact richCompare_meets_room (op:= .Lt) ⟨_,ho,rfl⟩ ⟨_,ho2,rfl⟩ PySem.F.slot_tuple_lt PySem.F.entry_tuple_lt (PySem.F.args_tuple_lt_2 _ _) (Zdr l b items items2 n n2 dd dd2 sl sl2 ns ms hi hj)
  ⟨ho,ho2,show Value.bool (Zbu ns ms)≠Value.notImplemented/\Q (.bool (Zbu ns ms)) s from ⟨(fun x=>nomatch x),h⟩⟩ hu
theorem ZkM {t b:Addr} {vs ws:List Value} {Q:Value->Shared->Prop} (ht:IsTup s.heap t vs.toArray) (hb:IsTup s.heap b ws.toArray) (hv:vs≠[])
  (h1:ws=[]->Q (.ref t) s) (h2:ws≠[]->Q (.ref s.heap.objs.size) { s with heap:=s.heap.push { cls:= .type "tuple",data:= .seq (vs ++ ws).toArray } })
  (hsz:vs.length + ws.length<=sizeLine):wpAny (model prog w) A (binaryOp .Add (.ref t) (.ref b)) Q E s:=by
 obtain ⟨⟨cls,dd,data,sl⟩,ho,hc,n,hd⟩:=id ht
 obtain ⟨⟨cls2,dd2,data2,sl2⟩,ho2,hc2,n2,hd2⟩:=id hb
 simp only at hc hd hc2 hd2
 subst hc hd hc2 hd2
 have e:vs.toArray ++ ws.toArray=(vs ++ ws).toArray:=by simp
 by_cases hw:ws=[]
 ·exact concat_meets ⟨_,ho,rfl⟩ ⟨_,ho2,rfl⟩ noFill_tuple_add seq_tuple_add PySem.F.slot_tuple_add PySem.F.entry_tuple_add (PySem.F.args_tuple_add_2 _ _)
   (tuple_addW1 t b vs.toArray ws.toArray n n2 dd dd2 sl sl2 (by simpa using hv) (by simp[hw])) ⟨ho,ho2,h1 hw⟩
 ·refine concat_meets ⟨_,ho,rfl⟩ ⟨_,ho2,rfl⟩ noFill_tuple_add seq_tuple_add PySem.F.slot_tuple_add PySem.F.entry_tuple_add (PySem.F.args_tuple_add_2 _ _)
   (tuple_addW2 t b vs.toArray ws.toArray n n2 dd dd2 sl sl2 (by simpa using hv) (by simpa using hw) (by rw[List.size_toArray,List.size_toArray];exact hsz)) ⟨ho,ho2,?_⟩
  rw[e]
  exact h2 hw
noncomputable def sIx (n d:Nat):Option Int->Nat
 |none=>d
 |some v=>if v < 0 then (v + (n:Int)).toNat else min v.toNat n
theorem ZmJ (n d:Nat) (hd:d<=n) (o:Option Int):sIx n d o<=n:=by
 cases o with
 |none=>exact hd
 |some v=>
  show (if v < 0 then (v + (n:Int)).toNat else min v.toNat n)<=n
  by_cases hv:v < 0
  ·rw[if_pos hv];omega
  ·rw[if_neg hv];exact Nat.min_le_right _ _
theorem ZgR (v:Int) (n d:Nat):(if v < 0 then max (v + (n:Int)) 0 else min v (n:Int))=((sIx n d (some v):Nat):Int):=by
 show (if v < 0 then max (v + (n:Int)) 0 else min v (n:Int))=(((if v < 0 then (v + (n:Int)).toNat else min v.toNat n):Nat):Int)
 by_cases hv:v < 0
 ·simp only[if_pos hv];omega
 ·simp only[if_neg hv];omega
theorem ZfW (lo hi:Option Int) (n:Nat):Builtin.Slice.sliceAdjust lo hi 1 (n:Int)=(((sIx n 0 lo:Nat):Int),((sIx n n hi:Nat):Int)):=by
 have h1: ¬ ((1:Int) < 0):=by omega
 unfold Builtin.Slice.sliceAdjust
 simp only[h1,if_false]
 refine Prod.ext ?_ ?_
 ·cases lo with
  |none=>rfl
  |some v=>exact ZgR v n 0
 ·cases hi with
  |none=>rfl
  |some v=>exact ZgR v n n
theorem ZfX (i j:Nat):Builtin.Slice.slicePlaces (i:Int) (j:Int) 1=j - i:=by
 unfold Builtin.Slice.slicePlaces
 have h1:(1:Int) > 0:=by omega
 simp only[h1,if_true,Int.ediv_one]
 split<;>omega
theorem Zdc {v:Value} {o:Option Int} {Q:Option Int->Shared->Prop} (p:IsPart v o) (h:Q o s):wpAny (model prog w) A (Builtin.Slice.slicePartIndex v) Q E s:=by
 cases p with
 |none=>exact slicePart_none h
 |int i t=>exact slicePart_int h
theorem Zcv {sl:Addr} {vl vu:Value} {lo hi:Option Int} {n:Nat} {Q:Int × Int × Nat->Shared->Prop} (hs:s.heap.IsSliceOf sl vl vu .none) (pl:IsPart vl lo) (pu:IsPart vu hi)
  (h:Q (((sIx n 0 lo:Nat):Int),1,sIx n n hi - sIx n 0 lo) s):wpAny (model prog w) A (Builtin.Slice.sliceApplied (.ref sl) (pure (n:Int))) Q E s:=by
 obtain ⟨os,hos,hcs,hds⟩:=id hs
 unfold Builtin.Slice.sliceApplied Builtin.Slice.sliceFields
 refine wpAny_bind (wpAny_bind (wpAny_field hos hds (x:=vl) rfl (wpAny_bind (wpAny_field hos hds (x:=vu) rfl (wpAny_bind (wpAny_field hos hds (x:= .none) rfl (wpAny_pure ?_)))))))
 refine wpAny_bind (slicePart_none ?_)
 show wpAny _ _ (if ((1:Int) == 0)=true then _ else _) _ _ s
 rw[if_neg (by decide)]
 refine wpAny_bind (Zdc pl (wpAny_bind (Zdc pu (wpAny_bind (wpAny_pure ?_)))))
 show wpAny _ _ (match Builtin.Slice.sliceAdjust lo hi 1 (n:Int) with | (lo,hi)=>pure (lo,(1:Int),Builtin.Slice.slicePlaces lo hi 1)) _ _ s
 rw[ZfW lo hi n]
 show wpAny _ _ (pure (((sIx n 0 lo:Nat):Int),(1:Int),Builtin.Slice.slicePlaces ((sIx n 0 lo:Nat):Int) ((sIx n n hi:Nat):Int) 1)) _ _ s
 rw[ZfX]
 exact wpAny_pure h
theorem ZiL (xs:Array Value) (i k:Nat):((List.range k).filterMap fun (m:Nat)=>xs[((i:Int) + (m:Int) * 1).toNat]?).toArray=((xs.toList.drop i).take k).toArray:=by
 have e:(fun (m:Nat)=>xs[((i:Int) + (m:Int) * 1).toNat]?)=fun m=>xs[i + m]?:=by
  funext m
  have:((i:Int) + (m:Int) * 1).toNat=i + m:=by omega
  rw[this]
 rw[e]
 have:=pick_run xs i k
 rw[List.filterMap_map] at this
 have e2:((fun x=>xs[x]?) ∘ fun x=>i + x)=fun m=>xs[i + m]?:=rfl
 rw[e2] at this
 rw[this]
theorem Zcf {t sl:Addr} {items:Array Value} {vl vu:Value} {lo hi:Option Int} {Q:Value->Shared->Prop} (ht:IsTup s.heap t items) (hs:s.heap.IsSliceOf sl vl vu .none) (pl:IsPart vl lo) (pu:IsPart vu hi)
  (hw: ¬ (sIx items.size 0 lo=0/\sIx items.size items.size hi=items.size))
  (h:Q (.ref s.heap.objs.size) { s with heap:=s.heap.push { cls:= .type "tuple",data:= .seq ((items.toList.drop (sIx items.size 0 lo)).take (sIx items.size items.size hi - sIx items.size 0 lo)).toArray } })
  (hsz:items.size<=sizeLine):wpAny (model prog w) A (getItem (.ref t) (.ref sl)) Q E s:=by
 have htake:sizeOk (.seq ((items.toList.drop (sIx items.size 0 lo)).take (sIx items.size items.size hi - sIx items.size 0 lo)).toArray):=by
  show ((items.toList.drop (sIx items.size 0 lo)).take (sIx items.size items.size hi - sIx items.size 0 lo)).toArray.size<=sizeLine
  rw[List.size_toArray,List.length_take,List.length_drop,Array.length_toList]
  omega
 have hj:sIx items.size items.size hi<=items.size:=ZmJ _ _ (Nat.le_refl _) hi
 obtain ⟨os,hos,hcs,hds⟩:=id hs
 have hTs:s.TypeIs (.ref sl) "slice":=⟨os,hos,hcs⟩
 unfold getItem
 try with_reducible refine wpAny_holding ?_
 first | refine wpAny_bind (wpAny_pure ?_) | skip
 refine wpAny_bind (wpAny_sequenceKey ht.typeIs (by decide) ?_)
 refine wpAny_bind (wpAny_callSpecial?_slot (name:=Str.ofString "__getitem__") ht.typeIs PyProof.Rows.slot_tuple_getitem
  (wpAny_call_entry PyProof.Rows.slot_tuple_getitem ht.typeIs entry_tuple_getitem ?_ (args_tuple_getitem _ _)))
 show wpAny _ _ (Builtin.Tuple.tupleItemsOf (.ref t) >>= _) _ _ s
 refine wpAny_bind (tupleItemsOf_ ht ?_)
 refine wpAny_bind (wpAny_typeOf hTs ?_)
 rw[if_pos (by decide)]
 refine wpAny_bind (Zcv hs pl pu ?_)
 have hno: ¬ ((((sIx items.size 0 lo:Nat):Int) == 0 && (1:Int) == 1 && (sIx items.size items.size hi - sIx items.size 0 lo) == items.size)=true):=by
  intro q
  rw[Bool.and_eq_true,Bool.and_eq_true] at q
  have q1:((sIx items.size 0 lo:Nat):Int)=0:=eq_of_beq q.1.1
  have q2:sIx items.size items.size hi - sIx items.size 0 lo=items.size:=eq_of_beq q.2
  exact hw ⟨by omega,by omega⟩
 show wpAny _ _ (if (((sIx items.size 0 lo:Nat):Int) == 0 && (1:Int) == 1 && (sIx items.size items.size hi - sIx items.size 0 lo) == items.size)=true then _ else _) _ _ s
 rw[if_neg hno,ZiL]
 first
  |exact wpAny_bind (m:=Builtin.Tuple.tupleExact _) (wpAny_newObj_type (wpAny_pure ⟨_,rfl,wpAny_pure h⟩) htake)
  |exact wpAny_bind (m:=Builtin.Tuple.tupleExact _) (wpAny_newObj_type (wpAny_bind (wpAny_pure (wpAny_pure ⟨_,rfl,wpAny_pure h⟩))) htake)
  |exact wpAny_bind (wpAny_bind (m:=Builtin.Tuple.tupleExact _) (wpAny_newObj_type (wpAny_pure (wpAny_pure ⟨_,rfl,wpAny_pure h⟩)) htake))
  |exact wpAny_bind (wpAny_bind (m:=Builtin.Tuple.tupleExact _) (wpAny_newObj_type (wpAny_pure ⟨_,rfl,wpAny_pure h⟩) htake))
end
end HT
namespace L2
open PySem PySem.Spec PyProof.Rows
noncomputable abbrev TO:=St->Hp->(Option Int->Hp->Prop)->Prop
noncomputable def PO (X:Cx) (e:Option Expr) (t:TO):Prop:=
 ∀ (pins:List (Addr × Obj)) (s:Shared) (σ:St) (H:Hp) (Q:Option Int->Hp->Prop),Inv X pins σ H s->t σ H Q->
  wpAny (model X.prog X.w) X.A (evalPart e X.env) (fun u s'=> ∃ o H',Inv X pins σ H' s'/\IsPart u o/\Q o H') X.xe s
noncomputable def tNoPart:TO:=fun _ H Q=>Q none H
noncomputable def Zp7 (t:TE):TO:=fun σ H Q=>t σ H fun x H1=> ∃ i,x= .int i/\Q (some i) H1
theorem Zdd {ns:List Int}: ∀ {us:List Value},ZW (ns.map V.int) us->IntsAre us ns:=by
 induction ns with
 |nil=>intro us r;rw[List.map_nil] at r;cases r;exact .nil
 |cons n ns ih=>
  intro us r
  rw[List.map_cons] at r
  cases r with
  |cons r1 r2=>
   obtain ⟨t,e⟩:=r1
   subst e
   exact .cons n t (ih r2)
section
variable {X:Cx} {e:Expr} {te:TE} {lo hi:Option Expr} {tl th:TO} {pos p2:Pos}
theorem ZkN:PO X none tNoPart:=by
 intro pins s σ H Q I h
 rw[evalPart_none]
 exact wpAny_pure ⟨none,H,I,.none,h⟩
theorem ZkO (h:PE X e te):PO X (some e) (Zp7 te):=by
 intro pins s σ H Q I hw
 rw[evalPart_some]
 refine thn (h pins s σ H _ I hw) fun u s1 ⟨x,H1,I1,r1,q1⟩=> ?_
 obtain ⟨i,rfl,q⟩:=q1
 obtain ⟨t,rfl⟩:=r1
 exact ⟨some i,H1,I1,.int i t,q⟩
noncomputable def SlR (X:Cx) (r:V->Option Int->Option Int->Hp->VK->Prop):Prop:=
 ∀ (pins:List (Addr × Obj)) (s:Shared) (σ:St) (H:Hp) (x:V) (v vl vu:Value) (lo hi:Option Int) (sl:Addr) (Q:VK),Inv X pins σ H s->ZU x v->s.heap.IsSliceOf sl vl vu .none->IsPart vl lo->IsPart vu hi->r x lo hi H Q->
  ∃ T id,typeLookup (.type T) "__getitem__"=pure (some (.builtin id))/\s.TypeIs v T/\wpAny (model X.prog X.w) X.A (getItem v (.ref sl)) (EP X pins σ Q) X.xe s
theorem SlR.or {r r':V->Option Int->Option Int->Hp->VK->Prop} (h:SlR X r) (h':SlR X r'):SlR X (fun x lo hi H Q=>r x lo hi H Q\/r' x lo hi H Q):=by
 intro pins s σ H x v vl vu lo hi sl Q I rx hs pl pu q
 rcases q with q | q
 ·exact h pins s σ H x v vl vu lo hi sl Q I rx hs pl pu q
 ·exact h' pins s σ H x v vl vu lo hi sl Q I rx hs pl pu q
noncomputable def tSl (r:V->Option Int->Option Int->Hp->VK->Prop) (te:TE) (tl th:TO):TE:=fun σ H Q=>te σ H fun x H1=>tl σ H1 fun l H2=>th σ H2 fun u H3=>r x l u H3 Q
theorem ZiM {r:V->Option Int->Option Int->Hp->VK->Prop} (hr:SlR X r) (he:PE X e te) (hl:PO X lo tl) (hu:PO X hi th):PE X (.Subscript e (.Slice lo hi none p2) pos) (tSl r te tl th):=by
 intro pins s σ H Q I h
 refine Subscript_ (thn (he pins s σ H _ I h) fun v s1 ⟨x,H1,I1,r1,q1⟩=> ?_)
 refine wpAny_Slice (thn (hl pins s1 σ H1 _ I1 q1) fun vl s2 ⟨l,H2,I2,pl,q2⟩=>thn (hu pins s2 σ H2 _ I2 q2) fun vu s3 ⟨u,H3,I3,pu,q3⟩=> ?_)
 rw[evalPart_none]
 refine wpAny_pure ?_
 have I4:Inv X pins σ H3 { s3 with heap:=s3.heap.push { cls:= .type "slice",data:= .fields #[vl,vu,.none] } }:=I3.kept (t':=s3.toks) fun b ob q=>Heap.get?_push_of_some _ q
 obtain ⟨T,id,hT,ht,hg⟩:=hr pins { s3 with heap:=s3.heap.push { cls:= .type "slice",data:= .fields #[vl,vu,.none] } } σ H3 x v vl vu l u s3.heap.objs.size Q I4 r1 (Heap.IsSliceOf.new ..) pl pu q3
 show wpAny (model X.prog X.w) X.A (subscriptTail e (.Slice lo hi none p2) v (.ref s3.heap.objs.size)) (EP X pins σ Q) X.xe { s3 with heap:=s3.heap.push { cls:= .type "slice",data:= .fields #[vl,vu,.none] } }
 exact tail_any (ops:=[.ref s3.heap.objs.size,v]) ht hT hg (by with_unfolding_all rfl)
noncomputable def ZjO (xs:List V) (lo hi:Option Int):List V:=(xs.drop (HT.sIx xs.length 0 lo)).take (HT.sIx xs.length xs.length hi - HT.sIx xs.length 0 lo)
theorem ZcH (xs:List V) (lo hi:Option Int):(ZjO xs lo hi).length<=xs.length:=by
 unfold ZjO
 rw[List.length_take,List.length_drop]
 omega
noncomputable def Ztx (K:PySem.W.Frag):V->Option Int->Option Int->Hp->VK->Prop:=fun x lo hi H Q=> ∃ a xs,x= .ref a/\SqT K H a xs/\
 ¬ (HT.sIx xs.length 0 lo=0/\HT.sIx xs.length xs.length hi=xs.length)/\ ∀ p,H p=none->Q (.ref p) (upd H p (.tup (ZjO xs lo hi)))
theorem ZmK:SlR X (Ztx X.K):=by
 intro pins s σ H x v vl vu lo hi sl Q I rx hs pl pu h
 obtain ⟨a,xs,rfl,hx,hw,q⟩:=h
 cases rx
 obtain ⟨its,r,ht,hz⟩:=I.tuple hx
 have hlen:its.toArray.size=xs.length:=by rw[List.size_toArray];exact r.length.symm
 refine ⟨"tuple",_,PyProof.Rows.slot_tuple_getitem.lookup,ht.typeIs,?_⟩
 refine HT.Zcf ht hs pl pu (by rw[hlen];exact hw) ?_ (by rw[hlen];exact hz)
 rw[hlen]
 refine ⟨.ref s.heap.objs.size,_,I.laid (t':=s.toks) (o:= .tup (ZjO xs lo hi)) (fun b ob q=>Heap.get?_push_of_some _ q) (Nat.le_refl _) ?_,rfl,q _ (I.hok.fresh (Nat.le_refl _))⟩
 exact ⟨Nat.le_trans (ZcH xs lo hi) hz,_,(r.drop (HT.sIx xs.length 0 lo)).take (HT.sIx xs.length xs.length hi - HT.sIx xs.length 0 lo),IsTup.new _ _⟩
noncomputable def ZkP (K:PySem.W.Frag):R2:=fun x y H Q=> ∃ a b xs ys,x= .ref a/\y= .ref b/\SqT K H a xs/\SqT K H b ys/\xs≠[]/\xs.length + ys.length<=sizeLine/\
 (ys=[]->Q (.ref a) H)/\(ys≠[]-> ∀ p,H p=none->Q (.ref p) (upd H p (.tup (xs ++ ys))))
theorem ZW.nil_iff {xs:List V} {us:List Value} (r:ZW xs us):us=[] ↔ xs=[]:=by
 cases r with
 |nil=>simp
 |cons _ _=>simp
theorem ZkQ:OpR X (binaryOp .Add) (ZkP X.K):=by
 intro pins s σ H x y v u Q I rx ry h
 obtain ⟨a,b,xs,ys,rfl,rfl,ha,hb,hx,hz,q1,q2⟩:=h
 cases rx
 cases ry
 obtain ⟨its,r1,p1,_⟩:=I.tuple ha
 obtain ⟨its2,r2,p2,_⟩:=I.tuple hb
 refine HT.ZkM p1 p2 (fun z=>hx (r1.nil_iff.mp z)) (fun z=>⟨.ref a,H,I,rfl,q1 (r2.nil_iff.mp z)⟩) (fun z=> ?_) (by rw[<- r1.length,<- r2.length];exact hz)
 refine ⟨.ref s.heap.objs.size,_,I.laid (t':=s.toks) (o:= .tup (xs ++ ys)) (fun b ob q=>Heap.get?_push_of_some _ q) (Nat.le_refl _) ?_,rfl,q2 (fun w=>z (r2.nil_iff.mpr w)) _ (I.hok.fresh (Nat.le_refl _))⟩
 exact ⟨by rw[List.length_append];exact hz,_,r1.append r2,IsTup.new _ _⟩
end
end L2
namespace L2
open PySem PySem.Spec PyProof.Rows
noncomputable def ixN (n:Nat) (i:Int):Option Nat:=if 0<=i then (if i < n then some i.toNat else none) else if -(n:Int)<=i then some (i + n).toNat else none
noncomputable def atI {α:Type} (xs:List α) (i:Int):Option α:=(ixN xs.length i).bind fun j=>xs[j]?
theorem ZkR {n:Nat} {i:Int} {j:Nat} (h:ixN n i=some j):seqIndex? i n=some j/\j < n/\ -(n:Int)<=i/\i < n:=by
 unfold ixN at h
 by_cases h0:0<=i
 ·rw[if_pos h0] at h
  by_cases h1:i < n
  ·rw[if_pos h1] at h
   have e:i.toNat=j:=Option.some.inj h
   exact ⟨by rw[seqIndex_of h0 h1,e],by omega,by omega,h1⟩
  ·rw[if_neg h1] at h;cases h
 ·rw[if_neg h0] at h
  by_cases h1: -(n:Int)<=i
  ·rw[if_pos h1] at h
   have e:(i + n).toNat=j:=Option.some.inj h
   exact ⟨by rw[seqIndex_neg (by omega) h1,e],by omega,h1,by omega⟩
  ·rw[if_neg h1] at h;cases h
theorem ZgS {α:Type} {xs:List α} {i:Int} {v:α} (h:atI xs i=some v): ∃ j,seqIndex? i xs.length=some j/\xs[j]?=some v/\j < xs.length/\ -(xs.length:Int)<=i/\i < xs.length:=by
 unfold atI at h
 cases e:ixN xs.length i with
 |none=>rw[e] at h;cases h
 |some j=>
  rw[e] at h
  obtain ⟨h1,h2,h3,h4⟩:=ZkR e
  exact ⟨j,h1,h,h2,h3,h4⟩
theorem ZeN {α:Type} {xs:List α} {j:Nat} {v:α} (h:xs[j]?=some v):atI xs (j:Int)=some v:=by
 have hj:j < xs.length:=(List.getElem?_eq_some_iff.mp h).1
 have e:ixN xs.length (j:Int)=some j:=by
  unfold ixN
  rw[if_pos (by omega),if_pos (by omega)];simp
 unfold atI;rw[e];exact h
noncomputable def ZgT (b:Expr):Prop:= ∀ o i,subscripted b false o i=operate [o,i] (getItem o i)
noncomputable def IxR (X:Cx) (r:R2):Prop:=
 ∀ (value slice:Expr) (pins:List (Addr × Obj)) (s:Shared) (σ:St) (H:Hp) (x y:V) (v u:Value) (Q:VK),Inv X pins σ H s->ZU x v->ZU y u->r x y H Q->
  subscripted slice false v u=operate [v,u] (getItem v u)->wpAny (model X.prog X.w) X.A (subscriptTail value slice v u) (EP X pins σ Q) X.xe s
noncomputable def MtR (X:Cx) (id:String) (r:V->List V->Hp->VK->Prop):Prop:=
 ∀ (pins:List (Addr × Obj)) (s:Shared) (σ:St) (H:Hp) (x:V) (xs:List V) (v:Value) (us:List Value) (Q:VK),Inv X pins σ H s->ZU x v->ZW xs us->r x xs H Q->
  wpAny (model X.prog X.w) X.A (call (.builtin id) (v :: us)) (EP X pins σ Q) X.xe s
section
variable {X:Cx} {a b:Expr} {ta tb:TE} {pos:Pos}
theorem IxR.or {r r':R2} (h:IxR X r) (h':IxR X r'):IxR X (fun x y H Q=>r x y H Q\/r' x y H Q):=by
 intro value slice pins s σ H x y v u Q I rx ry q hs
 rcases q with q | q
 ·exact h value slice pins s σ H x y v u Q I rx ry q hs
 ·exact h' value slice pins s σ H x y v u Q I rx ry q hs
theorem Zp8 {r:R2} (hr:IxR X r) (ha:PE X a ta) (hb:PE X b tb) (hs:ZgT b):PE X (.Subscript a b pos) (tOp r ta tb):=by
 intro pins s σ H Q I h
 exact Subscript_ (Zp1 ha hb I h fun v u s2 x y H2 I2 rx ry q=>hr a b pins s2 σ H2 x y v u Q I2 rx ry q (hs _ _))
noncomputable def Zsd (K:PySem.W.Frag):R2:=fun x y H Q=> ∃ p xs i v,x= .ref p/\y= .int i/\SqL K H p xs/\atI xs i=some v/\Q v H
noncomputable def Zse (K:PySem.W.Frag):R2:=fun x y H Q=> ∃ p xs i v,x= .ref p/\y= .int i/\SqT K H p xs/\atI xs i=some v/\Q v H
theorem ZkS:IxR X (Zsd X.K):=by
 intro value slice pins s σ H x y v u Q I rx ry h hs
 obtain ⟨p,xs,i,z,rfl,rfl,hq,he,q⟩:=h
 cases rx
 obtain ⟨t,rfl⟩:=ry
 obtain ⟨its,r,pl,hz⟩:=I.list hq
 obtain ⟨j,h1,h2,h3,h4,h5⟩:=ZgS he
 obtain ⟨w,ew,rw'⟩:=r.get h2
 have hl:=r.length
 have hn:=ZgL
 have fin:EP X pins σ Q w s:=⟨z,H,I,rw',q⟩
 by_cases h0:0<=i
 ·have hj:i.toNat=j:=by
   rw[seqIndex_of h0 h5] at h1
   exact Option.some.inj h1
  exact item_listR pl.isList h0 (by omega) (by rw[hj];simpa using ew) fin hs
 ·have hj:(i + (its.toArray.size:Int)).toNat=j:=by
   rw[seqIndex_neg (by omega) h4] at h1
   rw[List.size_toArray,<- hl]
   exact Option.some.inj h1
  exact subscriptTail_builtinR (x:=w) pl.isList.typeIs slot_list_getitem.lookup
   (wpAny_getItem_list_neg (Q:=fun r s'=>r=w/\EP X pins σ Q r s') pl.isList (by omega) (by rw[List.size_toArray]<;>omega) (by omega) (by rw[hj];simpa using ew) ⟨rfl,fin⟩) hs
theorem ZmL:IxR X (Zse X.K):=by
 intro value slice pins s σ H x y v u Q I rx ry h hs
 obtain ⟨p,xs,i,z,rfl,rfl,hq,he,q⟩:=h
 cases rx
 obtain ⟨t,rfl⟩:=ry
 obtain ⟨its,r,pl,hz⟩:=I.tuple hq
 obtain ⟨j,h1,h2,h3,h4,h5⟩:=ZgS he
 obtain ⟨w,ew,rw'⟩:=r.get h2
 have hl:=r.length
 have hn:=ZgL
 have fin:EP X pins σ Q w s:=⟨z,H,I,rw',q⟩
 exact subscriptTail_builtinR (x:=w) pl.typeIs slot_tuple_getitem.lookup
  (getItem_tuple (j:=j) (Q:=fun r s'=>r=w/\EP X pins σ Q r s') pl (by omega) (by omega) (by rw[List.size_toArray,<- hl];exact h1) (by simpa using ew) ⟨rfl,fin⟩) hs
theorem Zd2 (lo hi:Option Int) (n:Nat):(sliceBounds lo hi none n).1=((HT.sIx n 0 lo:Nat):Int)/\(sliceBounds lo hi none n).2.1=((HT.sIx n n hi:Nat):Int)/\(sliceBounds lo hi none n).2.2=1:=by
 refine ⟨?_,?_,rfl⟩
 ·cases lo with
  |none=>simp[sliceBounds,HT.sIx]
  |some i=>
   simp only[sliceBounds,HT.sIx,Option.getD_none,show (1:Int) > 0 by decide,if_true]
   by_cases h:i < 0
   ·simp only[h,if_true]<;>omega
   ·simp only[h,if_false]<;>omega
 ·cases hi with
  |none=>simp[sliceBounds,HT.sIx]
  |some i=>
   simp only[sliceBounds,HT.sIx,Option.getD_none,show (1:Int) > 0 by decide,if_true]
   by_cases h:i < 0
   ·simp only[h,if_true]<;>omega
   ·simp only[h,if_false]<;>omega
theorem Zds (its:List Value) (lo hi:Option Int):slicePick its.toArray lo hi none=((its.drop (HT.sIx its.length 0 lo)).take (HT.sIx its.length its.length hi - HT.sIx its.length 0 lo)).toArray:=by
 obtain ⟨h1,h2,h3⟩:=Zd2 lo hi its.toArray.size
 unfold slicePick
 rw[h1,h2,h3]
 simp only[sliceRange_one,pick_run,List.size_toArray]<;>rfl
noncomputable def Zty (K:PySem.W.Frag):V->Option Int->Option Int->Hp->VK->Prop:=fun x lo hi H Q=> ∃ a xs,x= .ref a/\SqL K H a xs/\ ∀ p,H p=none->Q (.ref p) (upd H p (.lst (ZjO xs lo hi)))
theorem ZkT:SlR X (Zty X.K):=by
 intro pins s σ H x v vl vu lo hi sl Q I rx hs pl pu h
 obtain ⟨a,xs,rfl,hx,q⟩:=h
 cases rx
 obtain ⟨its,r,ht,hz⟩:=I.list hx
 have hlen:=r.length
 refine ⟨"list",_,slot_list_getitem.lookup,ht.isList.typeIs,?_⟩
 refine wpAny_getItem_list_slice ht.isList hs pl pu .none (by simp) ?_ (by rw[List.size_toArray]<;>omega)
 rw[Zds,<- hlen]
 refine ⟨.ref s.heap.objs.size,_,I.laid (t':=s.toks) (o:= .lst (ZjO xs lo hi)) (fun b ob q=>Heap.get?_push_of_some _ q) (Nat.le_refl _) ?_,rfl,q _ (I.hok.fresh (Nat.le_refl _))⟩
 exact ⟨Nat.le_trans (ZcH xs lo hi) hz,_,0,(r.drop (HT.sIx xs.length 0 lo)).take (HT.sIx xs.length xs.length hi - HT.sIx xs.length 0 lo),Heap.get?_push_size _ rfl⟩
theorem Zz:ZbR X (.builtin "len") (fun xs H Q=> ∃ p ys,xs=[.ref p]/\(SqL X.K H p ys\/SqT X.K H p ys)/\Q (.int ys.length) H):=by
 intro pins s σ H xs us Q I r h
 obtain ⟨p,ys,rfl,hq,q⟩:=h
 obtain ⟨u,rfl,rx⟩:=Zcu r
 cases rx
 have hn:=ZgL
 rcases hq with hq | hq
 ·obtain ⟨its,r',pl,hz⟩:=I.list hq
  have hlen:=r'.length
  exact Calls.call_len_list pl.isList (by simp only[List.size_toArray]<;>omega) ⟨.int ys.length,H,I.tok _,⟨s.toks + 1,by rw[List.size_toArray,hlen]⟩,q⟩
 ·obtain ⟨its,r',pl,hz⟩:=I.tuple hq
  have hlen:=r'.length
  exact len_tuple pl (by simp only[List.size_toArray]<;>omega) ⟨.int ys.length,H,I.tok _,⟨s.toks + 1,by rw[List.size_toArray,hlen]⟩,q⟩
theorem Zbv:ZbR X (.type "list") (fun xs H Q=> ∃ p ys,xs=[.ref p]/\(SqL X.K H p ys\/SqT X.K H p ys)/\ ∀ l,H l=none->Q (.ref l) (upd H l (.lst ys))):=by
 intro pins s σ H xs us Q I r h
 obtain ⟨p,ys,rfl,hq,q⟩:=h
 obtain ⟨u,rfl,rx⟩:=Zcu r
 cases rx
 have fin: ∀ (its:List Value),ZW ys its->ys.length<=sizeLine-> ∀ (h':Heap) (c':Nat),(∀ b o',s.heap.get? b=some o'->h'.get? b=some o')->
   h'.get? s.heap.objs.size=some { cls:= .type "list",dict:=none,data:= .seq its.toArray c',slots:= #[] }->EP X pins σ Q (.ref s.heap.objs.size) { s with heap:=h' }:=fun its r' hz h' c' kp e=>
  ⟨.ref s.heap.objs.size,_,I.laid (t':=s.toks) kp (Nat.le_refl _) (show Zba X.prog X.w _ h' _ (.lst ys) from ⟨hz,its,c',r',e⟩),rfl,q _ (I.hok.fresh (Nat.le_refl _))⟩
 rcases hq with hq | hq
 ·obtain ⟨its,r',pl,hz⟩:=I.list hq
  have hlen:=r'.length
  obtain ⟨o,ho,hc,n,hd⟩:=pl.isList
  exact call_list_seq p (.inl rfl) ho hc hd (fun h' c' kp e=>fin its r' hz h' c' kp e) (by simp only[List.size_toArray]<;>omega)
 ·obtain ⟨its,r',pl,hz⟩:=I.tuple hq
  have hlen:=r'.length
  obtain ⟨o,ho,hc,n,hd⟩:=pl
  exact call_list_seq p (.inr rfl) ho hc hd (fun h' c' kp e=>fin its r' hz h' c' kp e) (by simp only[List.size_toArray]<;>omega)
theorem Zdt:ZbR X (.type "tuple") (fun xs H Q=> ∃ p ys,xs=[.ref p]/\((SqL X.K H p ys/\ ∀ l,H l=none->Q (.ref l) (upd H l (.tup ys)))\/(SqT X.K H p ys/\Q (.ref p) H))):=by
 intro pins s σ H xs us Q I r h
 obtain ⟨p,ys,rfl,h⟩:=h
 obtain ⟨u,rfl,rx⟩:=Zcu r
 cases rx
 rcases h with ⟨hq,q⟩ | ⟨hq,q⟩
 ·obtain ⟨its,r',pl,hz⟩:=I.list hq
  have hlen:=r'.length
  refine call_tuple_list pl.isList (fun h' kp=> ?_) (by simp only[List.size_toArray]<;>omega)
  have I1:Inv X pins σ H { s with heap:=h' }:=I.kept (t':=s.toks) kp
  have I2:Inv X pins σ (upd H h'.objs.size (.tup ys)) { s with heap:=h'.push { cls:= .type "tuple",data:= .seq its.toArray } }:=
   I1.laid (t':=s.toks) (fun b o e=>Heap.get?_push_of_some _ e) (Nat.le_refl _) (show Zba X.prog X.w _ _ _ (.tup ys) from ⟨hz,its,r',IsTup.new _ _⟩)
  exact ⟨.ref h'.objs.size,_,I2,rfl,q _ (I1.hok.fresh (Nat.le_refl _))⟩
 ·obtain ⟨its,r',pl,hz⟩:=I.tuple hq
  exact call_tuple_same pl ⟨.ref p,H,I,rfl,q⟩
noncomputable def tyV (K:PySem.W.Frag) (T:String) (x:V) (H:Hp):Prop:=match x with
 | .str _=>T="str"
 | .int _=>T="int"
 | .ref p=>(T="list"/\ ∃ xs,SqL K H p xs)\/(T="tuple"/\ ∃ o,K.lookup p=some o/\o.cls= .type "tuple"/\o.dict=none)\/
   (T="dict"/\((∃ kvs,H p=some (.dK kvs))\/ ∃ kvs,H p=some (.dT kvs)))\/(T="set"/\ ∃ S n,H p=some (.set S n))
 |_=>False
theorem ZmM {pins:List (Addr × Obj)} {σ:St} {H:Hp} {s:Shared} {T:String} {x:V} {v:Value} (I:Inv X pins σ H s) (r:ZU x v) (ty:tyV X.K T x H):
  s.TypeIs v T/\ ∀ a,v= .ref a-> ∃ ob,s.heap.get? a=some ob/\ob.dict=none:=by
 cases x with
 |str z=>
  obtain ⟨t,rfl⟩:=r
  cases (show T="str" from ty)
  exact ⟨typeIs_str s z t,fun _ e=>nomatch e⟩
 |int i=>
  obtain ⟨t,rfl⟩:=r
  cases (show T="int" from ty)
  exact ⟨typeIs_int s i t,fun _ e=>nomatch e⟩
 |ref p=>
  cases r
  rcases ty with ⟨rfl,xs,hq⟩ | ⟨rfl,o,hk,hc,hd⟩ | ⟨rfl,hk⟩ | ⟨rfl,S,n,hk⟩
  ·obtain ⟨its,_,pl,_⟩:=I.list hq
   refine ⟨pl.isList.typeIs,fun a e=> ?_⟩
   cases e
   obtain ⟨o,n,e,c,hd,_⟩:=pl
   exact ⟨o,e,hd⟩
  ·refine ⟨⟨o,I.kIn p o hk,hc⟩,fun a e=> ?_⟩
   cases e
   exact ⟨o,I.kIn _ o hk,hd⟩
  ·have z: ∃ o,s.heap.get? p=some o/\o.ExactDict:=by
    rcases hk with ⟨kvs,hk⟩ | ⟨kvs,hk⟩
    ·obtain ⟨_,_,_,_,o,_,_,e,ex,_⟩:=I.hok p _ hk
     exact ⟨o,e,ex⟩
    ·obtain ⟨_,_,_,_,o,_,_,e,ex,_⟩:=I.hok p _ hk
     exact ⟨o,e,ex⟩
   obtain ⟨o,e,ex⟩:=z
   refine ⟨⟨o,e,ex.1⟩,fun a e2=> ?_⟩
   cases e2
   exact ⟨o,e,ex.2.1⟩
  ·obtain ⟨o,_,_,_,e,ex,_⟩:=I.hok p _ hk
   refine ⟨⟨o,e,ex.1⟩,fun a e2=> ?_⟩
   cases e2
   exact ⟨o,e,ex.2.1⟩
 |_=>exact False.elim ty
noncomputable def tBM (K:PySem.W.Frag) (T:String) (r:V->List V->Hp->VK->Prop) (to:TE) (t:TA):TE:=fun σ H Q=>to σ H fun x H1=>tyV K T x H1/\t σ H1 fun xs H2=>r x xs H2 Q
variable {o e:Expr} {es:List Expr} {to:TE} {t:TA} {name:Str} {apos cpos:Pos} {T id:String} {r:V->List V->Hp->VK->Prop}
theorem ZmN (pa:PlainAttrs T) (slot:Slot T name id) (hty:typeOf (.builtin id)=pure (.type "method_descriptor")) (hm:MtR X id r) (ho:PE X o to) (ha:PA X (e :: es) t)
  (hbase:attributeBase o name X.env (eval o X.env)=eval o X.env:=by rfl)
  (hfew:((backTo cpos (starEach (e :: es) X.env)).all (fun x=> !x.1) && (backToKw cpos (keywordEach [] X.env)).all (fun x=>x.1.isSome)
   && decide ((e :: es).length + ([]:List Keyword).length + (if ([]:List Keyword).isEmpty then 0 else 1) < 30))=true:=by rfl)
  (hline:(apos.endLine == cpos.line)=true:=by rfl) (hs:starEach (e :: es) X.env=(false,eval e X.env) :: starEach es X.env:=by rfl) (hplain:(backTo cpos (starEach es X.env)).any (·.1)=false:=by rfl):
  PE X (.Call (.Attribute o name apos) (e :: es) [] cpos) (tBM X.K T r to t):=by
 intro pins s σ H Q I h
 refine wpAny_Call_method_late hbase hfew hline rfl (thn (ho pins s σ H _ I h) fun v s1 ⟨x,H1,I1,r1,ty,q1⟩=> ?_)
 obtain ⟨h1,h2⟩:=ZmM I1 r1 ty
 refine ⟨T,id,pa,slot,hty,h1,h2,?_⟩
 have hA:=ha cpos pins s1 σ H1 _ I1 q1
 rw[hs] at hA ⊢
 refine Calls.callWith_builtin (by show (false || (backTo cpos (starEach es X.env)).any (·.1))=false;rw[hplain]<;>rfl) (Calls.evalArgs_plain ?_)
 exact thn hA fun us s2 ⟨vs,H2,I2,r2,q2⟩=>hm pins s2 σ H2 x vs v us Q I2 r1 r2 q2
end
end L2
namespace L2
open PySem PySem.Spec PyProof.Rows
noncomputable def MtM (X:Cx) (id:String) (r:V->List V->Hp->VK->Prop):Prop:=
 ∀ (pins:List (Addr × Obj)) (s:Shared) (σ:St) (H:Hp) (x:V) (xs:List V) (v:Value) (us:List Value) (Q:VK),Inv X pins σ H s->ZU x v->ZW xs us->r x xs H Q->
  wpAny (model X.prog X.w) X.A (call (.builtin id) (v :: us)) (EP X pins σ Q) X.xe s
theorem ZW.one: ∀ {x:V} {us:List Value},ZW [x] us-> ∃ u,us=[u]/\ZU x u
 |_,_,.cons r .nil=>⟨_,rfl,r⟩
theorem ZW.reverse {xs:List V} {us:List Value} (h:ZW xs us):ZW xs.reverse us.reverse:=by
 induction h with
 |nil=>exact .nil
 |cons r t ih=>rw[List.reverse_cons,List.reverse_cons];exact ZW.append ih (.cons r .nil)
section
variable {X:Cx} {pins:List (Addr × Obj)} {σ:St} {H:Hp} {s:Shared} {l b:Addr} {xs ys zs:List V}
theorem Inv.lset {its its':List Value} {n:Nat} {f:Array Value->Array Value} {t':Nat} (I:Inv X pins σ H s) (hH:H l=some (.lst xs))
  (e:s.heap.get? l=some { cls:= .type "list",data:= .seq its.toArray n }) (hf:f its.toArray=its'.toArray) (hv:ZW ys its') (hz:ys.length<=sizeLine):
  Inv X pins σ (upd H l (.lst ys)) { s with heap:=s.heap.update l (Obj.mapSeq f),toks:=t' }:=by
 have q:=PySem.IsL.update e f
 rw[hf] at q
 refine I.write (x:=l) (e:=l) (by rw[hH];exact trivial) (.inl rfl) (fun b' u hb hu=>(Heap.get?_update_other s.heap (Obj.mapSeq f) (Ne.symm hb)).trans hu) ⟨_,q⟩ ?_
 exact ⟨hz,its',_,hv,q⟩
theorem Inv.lnew {its:List Value} {t':Nat} (I:Inv X pins σ H s) (hv:ZW ys its) (hz:ys.length<=sizeLine):
  Inv X pins σ (upd H s.heap.objs.size (.lst ys)) { s with heap:=s.heap.push { cls:= .type "list",data:= .seq its.toArray },toks:=t' }:=
 I.laid (fun _ _ q=>Heap.get?_push_of_some _ q) (Nat.le_refl _) ⟨hz,its,0,hv,Heap.get?_push_size _ rfl⟩
theorem Inv.fresh (I:Inv X pins σ H s):H s.heap.objs.size=none:=I.hok.fresh (Nat.le_refl _)
theorem Inv.lstM (I:Inv X pins σ H s) (hH:H l=some (.lst xs)):xs.length<=sizeLine/\ ∃ (its:List Value) (n:Nat),ZW xs its/\xs.length=its.length/\s.heap.get? l=some { cls:= .type "list",data:= .seq its.toArray n }:=by
 obtain ⟨z,its,n,r,e⟩:=I.hok l _ hH
 exact ⟨z,its,n,r,r.length,e⟩
theorem ZiN {n:Nat} (h:n<=sizeLine):Builtin.List.listTooLong n=false:=by
 unfold Builtin.List.listTooLong
 exact decide_eq_false (by omega)
end
section
variable {X:Cx}
noncomputable def rAppend:V->List V->Hp->VK->Prop:=fun x vs H Q=> ∃ l xs y,x= .ref l/\vs=[y]/\H l=some (.lst xs)/\xs.length < sizeLine/\Q .non (upd H l (.lst (xs ++ [y])))
theorem ZcI:MtM X "list.append" rAppend:=by
 intro pins s σ H x vs v us Q I rx rv h
 obtain ⟨l,xs,y,rfl,rfl,hH,hz,q⟩:=h
 cases rx
 obtain ⟨u,rfl,ru⟩:=rv.one
 obtain ⟨z,its,n,r,hl,e⟩:=I.lstM hH
 refine call_meets F.slot_list_append ⟨_,e,rfl⟩ F.entry_list_append (F.args_list_append_2 _ _) (PySem.list_append l its.toArray n u (by rw[List.size_toArray];omega)) ⟨e,?_⟩
 refine ⟨.non,_,I.lset (its':=its ++ [u]) hH e (by simp) (r.append (.cons ru .nil)) ?_,rfl,q⟩
 rw[List.length_append,List.length_singleton]
 omega
noncomputable def rExtend:V->List V->Hp->VK->Prop:=fun x vs H Q=> ∃ l b xs zs,x= .ref l/\vs=[.ref b]/\H l=some (.lst xs)/\H b=some (.lst zs)/\xs.length + zs.length<=sizeLine/\Q .non (upd H l (.lst (xs ++ zs)))
theorem ZgU:MtM X "list.extend" rExtend:=by
 intro pins s σ H x vs v us Q I rx rv h
 obtain ⟨l,b,xs,zs,rfl,rfl,hH,hB,hz,q⟩:=h
 cases rx
 obtain ⟨u,rfl,ru⟩:=rv.one
 cases ru
 obtain ⟨z,its,n,r,hl,e⟩:=I.lstM hH
 obtain ⟨z2,its2,n2,r2,hl2,e2⟩:=I.lstM hB
 have hsz:its.toArray.size + its2.toArray.size<=sizeLine:=by rw[List.size_toArray,List.size_toArray];omega
 have hlong: ¬ (!its.toArray.isEmpty && Builtin.List.listTooLong (its.toArray.size + its2.toArray.size))=true:=by
  rw[ZiN hsz,Bool.and_false]
  exact Bool.false_ne_true
 refine call_meets F.slot_list_extend ⟨_,e,rfl⟩ F.entry_list_extend (F.args_list_extend_2 _ _)
  (AutoSeq1.list_extend_list_list_0 l its.toArray n b its2.toArray n2 hlong (by rw[List.size_toArray];omega) (by omega)) ⟨e,e2,?_⟩
 refine ⟨.non,_,I.lset (its':=its ++ its2) hH e (by simp) (r.append r2) ?_,rfl,q⟩
 rw[List.length_append]
 omega
noncomputable def rCat:R2:=fun x y H Q=> ∃ l b xs zs,x= .ref l/\y= .ref b/\H l=some (.lst xs)/\H b=some (.lst zs)/\xs.length + zs.length<=sizeLine/\ ∀ p,H p=none->Q (.ref p) (upd H p (.lst (xs ++ zs)))
theorem ZmO:OpR X (binaryOp .Add) rCat:=by
 intro pins s σ H x y v u Q I rx ry h
 obtain ⟨l,b,xs,zs,rfl,rfl,hH,hB,hz,q⟩:=h
 cases rx
 cases ry
 obtain ⟨z,its,n,r,hl,e⟩:=I.lstM hH
 obtain ⟨z2,its2,n2,r2,hl2,e2⟩:=I.lstM hB
 refine PySem.P.add_list e e2 ?_ (by rw[List.size_toArray,List.size_toArray];omega)
 have ea:its.toArray ++ its2.toArray=(its ++ its2).toArray:=by simp
 rw[ea]
 exact ⟨.ref _,_,I.lnew (t':=s.toks) (r.append r2) (by rw[List.length_append];omega),rfl,q _ I.fresh⟩
end
section
variable {prog:Program} {w:World} {A:Around} {E:Value->Shared->Prop} {s:Shared}
end
section
variable {X:Cx}
end
end L2
namespace Att
open PySem PySem.W PySem.Calls PyProof.Rows
theorem ZcJ {P:Params} {h:Heap}: ∀ (ns:List Int) (vs:List Value),WellAll P h vs (ns.map WData.int)->IntsAre vs ns:=by
 intro ns
 induction ns with
 |nil=>
  intro vs w
  rw[List.map_nil] at w
  cases w
  exact .nil
 |cons n ns ih=>
  intro vs w
  rw[List.map_cons] at w
  cases w with
  |cons a b=>
   cases a
   exact .cons _ _ (ih _ b)
theorem ZgV {l:OpenLaw} {n:Nat} (hn:l.most=some n) {P:Params} {h:Heap} {args:List WData} {vals:List Value}
  (hpre:l.row.toRowW.claim.pre args=true) (hwl:WellAll P h vals args):
  ∃ a vs ns,vals=[Value.ref a]/\args=[WData.list (ns.map WData.int)]/\h.get? a=some { cls:= .type "list",data:= .seq vs.toArray }/\IntsAre vs ns/\ns.length<=n:=by
 have hsh:WShape.hasAll [] args [.list .int]=true:=(pre_splitW hpre).1
 have hc:l.pre.holds [] { args:=args }=true:=(pre_splitW hpre).2
 obtain ⟨d,r,rfl,h1,h2⟩:=hasAllW_cons hsh
 obtain rfl:=hasAllW_nil h2
 obtain ⟨xs,rfl,h3⟩:=hasW_list h1
 obtain ⟨ns,rfl⟩:=items_int h3
 have hlen:ns.length<=n:=by
  unfold OpenLaw.pre at hc
  have h4:(WTm.not (.lt (.lit (.int (n:Int))) (.len (.arg 0)))).holds [] { args:=[.list (ns.map .int)] }=true:=by
   have h4:=(holds_andW hc).1
   rw[hn] at h4
   exact h4
  have h5:=condW_of h4 (w_not (w_lt w_lit (w_len_list (w_arg rfl))))
  rw[List.length_map] at h5
  refine Nat.le_of_not_lt fun q=> ?_
  have q':(n:Int) < ((ns.length:Nat):Int):=by omega
  first
   | (rw[decide_eq_true q'] at h5;exact absurd h5 (by decide))
   | (simp at h5;omega)
 cases hwl with
 |cons w1 w2=>
  cases w2
  cases w1 with
  |list ho hall=>exact ⟨_,_,ns,rfl,rfl,ho,ZcJ ns _ hall,hlen⟩
theorem ZgW (l:OpenLaw) (args:List WData):l.row.toRowW.claim.post args (.bool true) args=true:=
 postW_of (r:=l.row.toRowW) (X:=(true == true))
  (show WShape.has [] (.bool true) .bool=true by first | rfl | decide | simp[WShape.has,WShape.arms,WShape.armsAll])
  (show (WTm.eq .res (.lit (.bool true))).value [] { args:=args,res:=some (.bool true),after:=args }=some (.bool (true == true)) from w_eq_bool (w_res rfl) w_lit) rfl
theorem ZeO {l:OpenLaw} {n:Nat} {q:Program} {loose:List Str} {XP:(Str->Option Value)->Heap->Prop} {YP:World->Heap->Prop} {d:DefRec}
  (hn:l.most=some n) (hdf:d.params.defaults=[])
  (call: ∀ (w:World) (s₀ s₁:Shared) (mg mb:Str->Option Value) (fa:Addr) (o:Obj) (pm cd doc:Value) (a:Addr) (vs:List Value) (ns:List Int),
   Ground q loose [] XP w s₀ mg mb s₁.heap->YP w s₁.heap->
   s₁.heap.get? fa=some o->o.data= .func (docDef d.name d.params d.body d.scope pm cd doc)->s₁.heap.CodeRec cd d.name->mg d.name=some (.ref fa)->
   s₁.heap.get? a=some { cls:= .type "list",data:= .seq vs.toArray }->IntsAre vs ns->ns.length<=n->s₁.gens= #[]->
   codeAny (model l.prog w) callerA (.call (.ref fa) ⟨[.ref a],[]⟩) (fun r s'=>r= .ok (.ret (.bool true))/\OldK s₁.heap s'.heap/\s'.os=s₁.os/\AllBare s'.gens) s₁):
  WalkO q loose XP YP l.row.toRowW d [] (fun f vs=>PySem.call f vs):=by
 intro w s₀ s₁ mg mb G Y fa o pm cd doc dV kV ho hd hcd hD hmg hg args vals as hpre hlay hrd hwl hlo
 obtain rfl:dV= .none:=Dflts.none hD hdf
 obtain rfl:kV= .none:=Dflts.noKw hD
 obtain ⟨a,vs,ns,rfl,rfl,hobj,hints,hlen⟩:=ZgV hn hpre hwl
 refine enter_call (codeAny_mono (call w s₀ s₁ mg mb fa o pm cd doc a vs ns G Y ho (fd_plain hd) hcd hmg hobj hints hlen hg) fun r s' hq=> ?_)
 obtain ⟨rfl,h2,h3,h4⟩:=hq
 exact ⟨.inl ⟨.bool true,.bool true,[],rfl,fun _=>rfl,.bool true,ZgW l _,fun _=>⟨List.Pairwise.nil,fun _ hm=>(nomatch hm)⟩⟩,h2,h3,h4⟩
section
variable {prog:Program} {w:World} {A:Around} {E:Value->Shared->Prop} {s:Shared} {K:Frag}
end
end Att
namespace L2
open PySem PySem.Spec PyProof.Rows
theorem Zd3: ∀ {vs:List Value} {ns:List Int},IntsAre vs ns->ZW (ns.map V.int) vs
 |_,_,.nil=> .nil
 |_,_,.cons n t h=> .cons ⟨t,rfl⟩ (Zd3 h)
noncomputable def ZpI (H:Hp):Prop:= ∀ b,H b=none\/ ∃ o xs,H b=some (.frz o (.lst xs))
theorem ZiO {P:Program} {w:World} {K:PySem.W.Frag} {mg mb:Str->Option Value} {CX:CXT} {k:Nat} {fa a:Addr} {fd:FuncData} {x:Str} {sp:Sp} {s₁:Shared} {vs:List Value} {ns:List Int}
  (KX:K.In s₁.heap) (hns:s₁.heap.Ns mainGlobals mg) (hb:s₁.heap.Ns builtinsNs mb) (hbb: ∀ x:Str,x≠"__name__"->mb x=bootBuiltins x) (hlim:s₁.heap.NoLimit) (hg:s₁.gens= #[])
  (ha:s₁.heap.get? a=some { cls:= .type "list",data:= .seq vs.toArray }) (hi:IntsAre vs ns) (hl:ns.length<=sizeLine) (hr:Room k callerA)
  (F: ∀ base:Heap,K.In base->base.Ns mainGlobals mg->FnOk P w K mg base CX k fa fd [x] sp) (hbind: ∀ (s:Shared) (u:Value),BindsTo s fd ⟨[u],[]⟩ [(x,u)])
  (hsp: ∀ H:Hp,ZpI H->SqL K H a (ns.map V.int)->sp [.ref a] H (fun v _=>v= .bl true) fun _ _ _=>False)
  (hCX: ∀ H e s',CX [] H s₁ (fun _ _ _=>False) e s'->False):
  codeAny (model P w) callerA (.call (.ref fa) ⟨[.ref a],[]⟩) (fun r s'=>r= .ok (.ret (.bool true))/\OldK s₁.heap s'.heap/\s'.os=s₁.os/\AllBare s'.gens) s₁:=by
 have rv:=Zd3 hi
 have lenV:=hi.length
 have core: ∀ H:Hp,ZpI H->SqL K H a (ns.map V.int)->HOk P w H s₁.heap->(∀ b,H b≠none->b=a)->(H a≠none->K.lookup a=none)->
   codeAny (model P w) callerA (.call (.ref fa) ⟨[.ref a],[]⟩) (fun r s'=>r= .ok (.ret (.bool true))/\OldK s₁.heap s'.heap/\s'.os=s₁.os/\AllBare s'.gens) s₁:=by
  intro H hO hS hok hA hK
  have base_of: ∀ {b:Addr} {o:Obj},s₁.heap.get? b=some o->H b=none->(Ziv s₁.heap H).get? b=some o:=fun e n=>Zfh e n
  have noA: ∀ {b:Addr} {o:Obj} {es:Array DictEntry} {ep:Nat},s₁.heap.get? b=some o->o.data= .dict es ep->H b=none:=fun {b o es ep} e d=>by
   cases q:H b with
   |none=>rfl
   |some u=>
    have e':b=a:=hA b (by rw[q];simp)
    subst e'
    rw[ha] at e;cases e
    have d':Data.seq vs.toArray _=Data.dict es ep:=d
    cases d'
  have nsK: ∀ {b:Addr} {m:Str->Option Value},s₁.heap.Ns b m->(Ziv s₁.heap H).Ns b m:=fun {b m} ⟨o,es,ep,e,d,r⟩=>⟨o,es,ep,base_of e (noA e d),d,r⟩
  have hKb:K.In (Ziv s₁.heap H):=fun b o e=>base_of (KX b o e) (by
   cases q:H b with
   |none=>rfl
   |some u=>
    have e':b=a:=hA b (by rw[q];simp)
    subst e'
    rw[hK (by rw[q];simp)] at e;cases e)
  have hM:Mod K mg (Ziv s₁.heap H):=⟨hKb,nsK hns,⟨mb,nsK hb,hbb⟩,let ⟨mc,h1,h2⟩:=hlim;⟨mc,nsK h1,h2⟩⟩
  have e0:Env0 P w K mg (Ziv s₁.heap H) callerA [] s₁ H:=⟨rfl,hM,fun b o e=>ZgE e,Nat.le_of_eq (ZgD _ _),trivial,fun b hb=>absurd (show b∈([]:List Addr) from hb) (by simp),hok,.of_eq hg,.inl rfl⟩
  refine codeAny_mono ((F _ hKb (nsK hns)).run callerA [] s₁ H ⟨[.ref a],[]⟩ [.ref a] [.ref a] _ _ hr e0 (hbind s₁ (.ref a)) (.cons rfl .nil) (hsp H hO hS)) fun r s' h=> ?_
  cases r with
  |error e=>exact (hCX H e s' h).elim
  |ok fl=>
   cases fl with
   |next=>exact False.elim h
   |brk=>exact False.elim h
   |cont=>exact False.elim h
   |ret u=>
    obtain ⟨v,H',os,bare,un,hok',r',q⟩:=h
    have q':v= .bl true:=q
    subst q'
    obtain rfl:u=Value.bool true:=r'
    refine ⟨rfl,OldK.of_keep fun b o e=> ?_,os,bare⟩
    cases q:H b with
    |none=>exact un.keep b o e q (by intro z;exact absurd (show b∈([]:List Addr) from z) (by simp)) (by simp)
    |some u=>
     rcases hO b with z | ⟨ob,xs,z⟩
     ·rw[q] at z;cases z
     ·have z2:=un.frzs b ob _ z
      obtain ⟨e1,_⟩:=hok b _ z
      obtain ⟨e2,_⟩:=hok' b _ z2
      rw[e] at e1;cases e1
      exact e2
 cases hk:K.lookup a with
 |some o=>
  have e:=KX a o hk
  rw[ha] at e
  cases e
  refine core (fun _=>none) (fun _=> .inl rfl) (.inr ⟨_,vs.toArray,_,hk,rfl,rfl,rfl,by rw[List.size_toArray,lenV];exact hl,by simpa using rv⟩) (fun b u z=>by have z':(none:Option HO)=some u:=z;cases z') (fun b z=>absurd rfl z) fun z=>absurd rfl z
 |none=>
  refine core (fun b=>if b=a then some (.frz { cls:= .type "list",data:= .seq vs.toArray } (.lst (ns.map V.int))) else none) (fun b=> ?_) (.inl (.inr ⟨{ cls:= .type "list",data:= .seq vs.toArray },if_pos rfl⟩)) (fun b u z=> ?_) (fun b z=> ?_) fun _=>hk
  ·by_cases hb:b=a
   ·exact .inr ⟨_,_,if_pos hb⟩
   ·exact .inl (if_neg hb)
  ·by_cases hb:b=a
   ·have z':=(if_pos hb).symm.trans z
    cases z'
    subst hb
    exact ⟨ha,by rw[List.length_map];exact hl,vs,_,rv,ha⟩
   ·have z':=(if_neg hb).symm.trans z
    cases z'
  ·by_cases hb:b=a
   ·exact hb
   ·exact absurd (if_neg hb) z
end L2
namespace L2
open PySem PySem.Spec PyProof.Rows
theorem ZkU {l:PySem.W.OpenLaw} {n k:Nat} {q:Program} {loose:List Str} {XP:(Str->Option Value)->Heap->Prop} {YP:World->Heap->Prop} {d:DefRec} {K:Params->PySem.W.Frag} {CX:World->CXT} {sp:World->Sp} {x:Str}
  (hn:l.most=some n) (hn2:n<=sizeLine) (hdf:d.params.defaults=[]) (hr:Room k callerA)
  (hY: ∀ (w:World) (h:Heap),YP w h->(K w.params).In h)
  (F: ∀ (w:World) (mg:Str->Option Value) (fa:Addr) (h:Heap),(K w.params).In h->h.Ns mainGlobals mg->mg d.name=some (.ref fa)->
   ∃ fd:FuncData,(∀ (s:Shared) (u:Value),BindsTo s fd ⟨[u],[]⟩ [(x,u)])/\
    ∀ base:Heap,(K w.params).In base->base.Ns mainGlobals mg->FnOk l.prog w (K w.params) mg base (CX w) k fa fd [x] (sp w))
  (hsp: ∀ (w:World) (H:Hp) (a:Addr) (ns:List Int),ns.length<=n->ZpI H->SqL (K w.params) H a (ns.map V.int)->sp w [.ref a] H (fun v _=>v= .bl true) fun _ _ _=>False)
  (hCX: ∀ (w:World) (H:Hp) (s:Shared) (e:Value) (s':Shared),CX w [] H s (fun _ _ _=>False) e s'->False):
  PySem.W.WalkO q loose XP YP l.row.toRowW d [] (fun f vs=>PySem.call f vs):=by
 refine Att.ZeO hn hdf fun w s₀ s₁ mg mb fa o pm cd doc a vs ns G Y ho hd hcd hmg hobj hints hlen hg=> ?_
 have KX:=hY w _ Y
 obtain ⟨fd,hb,hF⟩:=F w mg fa _ KX G.T.g hmg
 exact ZiO KX G.T.g G.T.b G.T.builtins G.T.nolimit hg hobj hints (Nat.le_trans hlen hn2) hr hF hb (fun H hO hS=>hsp w H a ns hlen hO hS) fun H e s'=>hCX w H s₁ e s'
end L2
namespace L2
open PySem PySem.Spec PyProof.Rows
noncomputable def Zs (s:Stmt):Arguments:=match s with
 | .FunctionDef _ a _ _ _ _ _ _ _ _=>a
 |_=>{ posonlyargs:=[],args:=[],vararg:=none,kwonlyargs:=[],kw_defaults:=[],kwarg:=none,defaults:=[] }
noncomputable def Zq (s:Stmt):List Stmt:=match s with
 | .FunctionDef _ _ b _ _ _ _ _ _ _=>b
 |_=>[]
noncomputable def Zh (s:Stmt):Scope:=match s with
 | .FunctionDef _ _ _ _ _ _ sc _ _ _=>sc
 |_=>{ kind:= .function,names:=[],isGenerator:=false,isCoroutine:=false }
noncomputable abbrev E0:XK:=fun _ _ _=>False
structure Fun (K:PySem.W.Frag) (x qual:Str) (st:Stmt) (f:Addr) (fd:FuncData):Prop where
 ex: ∃ (oc:Value) (od:Option Addr) (kV doc pm:Value) (an:Option Addr) (cdv ct:Value) (osl:Array (Option Value)),
  fd=PySem.W.fnOf x qual (Zs st) (Zq st) (Zh st) .none kV doc pm an cdv ct/\K.lookup f=some ⟨oc,od,.func fd,osl⟩/\PySem.W.codeIn K cdv qual=true
 kp:PySem.W.keepIn K (.ref f)=true
section
variable {P:Program} {w:World} {K:PySem.W.Frag} {mg:Str->Option Value} {base:Heap}
theorem Fun.binds {x qual:Str} {st:Stmt} {f:Addr} {fd:FuncData} {ps:List Str} (F:Fun K x qual st f fd)
  (h: ∀ (kV doc pm:Value) (an:Option Addr) (cdv ct:Value) (us:List Value),us.length=ps.length->bindArgs (PySem.W.fnOf x qual (Zs st) (Zq st) (Zh st) .none kV doc pm an cdv ct) ⟨us,[]⟩=pure (ps.zip us)):ZdX K fd ps []:=by
 obtain ⟨oc,od,kV,doc,pm,an,cdv,ct,osl,rfl,lk,hcd⟩:=F.ex
 exact .all (h kV doc pm an cdv ct)
theorem ZK {x qual:Str} {st:Stmt} {f:Addr} {oc:Value} {od an:Option Addr} {osl:Array (Option Value)} {kV doc pm cdv ct:Value} (l:K.lookup f=some ⟨oc,od,.func (PySem.W.fnOf x qual (Zs st) (Zq st) (Zh st) .none kV doc pm an cdv ct),osl⟩)
  (c:PySem.W.codeIn K cdv qual=true) (k:PySem.W.keepIn K (.ref f)=true):Fun K x qual st f (PySem.W.fnOf x qual (Zs st) (Zq st) (Zh st) .none kV doc pm an cdv ct):=⟨⟨oc,od,kV,doc,pm,an,cdv,ct,osl,rfl,l,c⟩,k⟩
end
theorem ZgX {n:Nat} (h:n<=1000):n < sizeLine:=Nat.lt_of_le_of_lt h (by decide)
section
variable {X:Cx}
end
theorem ZiP {A B:Prop} (h:B):if false=true then A else B:=by
 rw[if_neg Bool.false_ne_true]
 exact h
theorem ZiQ {A B:Prop} (h:A):if true=true then A else B:=by
 rw[if_pos rfl]
 exact h
noncomputable def Zsf (H H':Hp):Prop:= ∀ b o,H b=some o->H' b=some o
theorem Zsf.free {H H':Hp} (e:Zsf H H') {l:Addr} (h:H' l=Option.none):H l=Option.none:=by
 cases q:H l with
 |none=>rfl
 |some o=>
  rw[e l o q] at h
  cases h
end L2
end
section
namespace L2
open PySem PySem.Spec PyProof.Rows
end L2
namespace L2
open PySem PySem.Spec PyProof.Rows
section
variable (P:Program) (w:World)
end
section
variable {P:Program} {w:World} {H H':Hp} {h h':Heap} {a:Addr} {o:HO}
end
section
variable {P:Program} {w:World} {H:Hp} {h h':Heap} {x e:Addr} {o':HO}
end
section
variable {fs fs' ex ex':List Addr} {H H1 H2:Hp} {h h1 h2 h':Heap} {a x e:Addr} {o:HO}
end
end L2
namespace L2
open PySem PySem.Spec PyProof.Rows
section
variable {X:Cx} {pins:List (Addr × Obj)} {σ:List (Option V)} {H H':Hp} {s:Shared} {h':Heap}
end
end L2
namespace L2
open PySem PySem.Spec PyProof.Rows
section
variable {X:Cx}
variable {a b:Expr} {ta tb:TE} {pos:Pos}
variable {tA tB':TT} {rest:List Expr}
end
end L2
namespace L2
open PySem PySem.Spec PyProof.Rows
section
variable {X:Cx} {pins:List (Addr × Obj)} {σ:St} {H:Hp} {s:Shared} {a:Addr} {xs ys:List V}
end
section
variable {X:Cx} {pins:List (Addr × Obj)} {σ:St} {H:Hp} {s:Shared} {E:Value->Shared->Prop}
end
section
variable {X:Cx} {st:Stmt} {rest:List Stmt} {t u:TS} {e:Expr} {te:TE} {pos:Pos}
end
section
variable {X:Cx} {pos:Pos}
end
section
variable {X:Cx} {pos:Pos}
end
end L2
namespace L2
open PySem PySem.Spec PyProof.Rows
section
variable {X:Cx} {tg:Expr}
end
end L2
namespace L2
open PySem PySem.Spec PyProof.Rows
section
variable {X:Cx} {a b c:Expr} {ta tb tc:TE} {pos:Pos}
end
section
variable {X:Cx} {a b c:Expr} {ta tb tc:TE} {pos:Pos}
end
end L2
namespace L2
open PySem PySem.Spec PyProof.Rows
section
variable {prog:Program} {w:World} {A:Around} {E:Value->Shared->Prop} {s:Shared} {K:PySem.W.Frag} {x dx C f:Addr} {mA:Str->Option Value} {name:Str} {v:Value}
end
section
variable {P:Program} {w:World} {H H':Hp} {h h':Heap} {a C dx:Addr} {fs fs':List (Str × V)}
end
section
variable {X:Cx} {pins:List (Addr × Obj)} {σ:St} {H:Hp} {s:Shared} {a C dx:Addr} {fs:List (Str × V)} {f:Str} {v:V} {A:Around} {E:Value->Shared->Prop}
end
section
variable {X:Cx} {o e value:Expr} {f:Str} {pos pos' tpos:Pos} {ta tv:TE}
end
section
variable {X:Cx} {pins:List (Addr × Obj)} {σ:St} {H:Hp} {s:Shared} {A:Around} {E:Value->Shared->Prop} {Q:Value->Shared->Prop} {c:Value} {b:Bool}
end
end L2
namespace L2
open PySem PySem.Spec PyProof.Rows
section
variable {X:Cx} {e:Expr} {es:List Expr} {te:TE} {t:TA} {pos:Pos}
end
section
variable {X:Cx} {pins:List (Addr × Obj)} {σ:St} {H:Hp} {s s':Shared}
end
section
variable {X:Cx} {CX:CXT} {k:Nat} {f C:Addr} {fd:FuncData} {ps:List Str} {sp:Sp} {dvs:List V} {ds:List Value} {E:XK} {x m:Str} {p pos apos:Pos} {e o:Expr} {es:List Expr} {ta:TE} {t:TA}
end
section
variable {X:Cx} {CX:CXT} {k:Nat} {f C:Addr} {fd:FuncData} {ps ks:List Str} {sp:Sp} {E:XK} {x m:Str} {p pos apos kpos:Pos} {e o:Expr} {es:List Expr} {kws:List Keyword} {te ta:TE} {t tk:TA} {nm:Option Str}
variable {g:List Value->List Value->List Value} {gV:List V->List V->List V}
end
end L2
namespace L2
open PySem PySem.Spec PyProof.Rows
section
variable {X:Cx} {x:Str} {p pos:Pos} {e:Expr} {es:List Expr} {t:TA} {id T:String} {r:List V->Hp->VK->Prop}
end
end L2
namespace L2
open PySem PySem.Spec PyProof.Rows
section
variable {κ:Type} [DecidableEq κ]
noncomputable def ZdS (kvs:List (κ × V)) (k:κ):Option V:=(kvs.find? fun kv=>decide (kv.1=k)).map (·.2)
noncomputable def ZgY (kvs:List (κ × V)) (k:κ) (v:V):List (κ × V):=
 if (kvs.any fun kv=>decide (kv.1=k))=true then kvs.map (fun kv=>if kv.1=k then (kv.1,v) else kv) else kvs ++ [(k,v)]
theorem ZcA {p:κ × V} {r:List (κ × V)} {k:κ} (e:p.1=k):ZdS (p :: r) k=some p.2:=by simp[ZdS,List.find?_cons,e]
theorem ZcB {p:κ × V} {r:List (κ × V)} {k:κ} (e: ¬ p.1=k):ZdS (p :: r) k=ZdS r k:=by simp[ZdS,List.find?_cons,e]
theorem Zdu (k:κ): ∀ kvs:List (κ × V),(kvs.any fun kv=>decide (kv.1=k))=(ZdS kvs k).isSome
 | []=>rfl
 |p :: r=>by
  rw[List.any_cons]
  by_cases e:p.1=k
  ·simp only[ZcA e,decide_eq_true e,Bool.true_or,Option.isSome_some]
  ·rw[ZcB e,decide_eq_false e,Bool.false_or];exact Zdu k r
theorem ZeP (kvs:List (κ × V)) (k:κ) (v:V):(ZgY kvs k v).length<=kvs.length + 1:=by
 unfold ZgY
 split
 ·rw[List.length_map];omega
 ·rw[List.length_append,List.length_cons,List.length_nil];omega
theorem Zmi.isSome_eq {o:Option V} {u:Option Value} (r:Zmi o u):o.isSome=u.isSome:=by
 cases o with
 |none=>cases u with
  |none=>rfl
  |some _=>exact (show False from r).elim
 |some _=>cases u with
  |none=>exact (show False from r).elim
  |some _=>rfl
theorem KV.val {kvs:List (κ × V)} {vs:List (κ × Value)} (r:KV kvs vs) (k:κ):Zmi (ZdS kvs k) (valueAt vs k):=by
 unfold KV at r
 induction r with
 |nil=>exact True.intro
 | @cons p q ps qs h t ih=>
  obtain ⟨h1,h2⟩:=h
  by_cases e:p.1=k
  ·have e':q.1=k:=h1.symm.trans e
   have b:valueAt (q :: qs) k=some q.2:=by simp[valueAt,List.find?_cons,e']
   rw[ZcA e,b];exact h2
  ·have e': ¬ q.1=k:=fun z=>e (h1.trans z)
   have b:valueAt (q :: qs) k=valueAt qs k:=by simp[valueAt,List.find?_cons,e']
   rw[ZcB e,b];exact ih
end
theorem ZmP {P:Program} {w:World} {k:Key} {u:Value} (r:ZU (kV k) u):(ZaF P w).is k u=true:=by
 cases k with
 |inl i=>obtain ⟨t,e⟩:=(show ∃ t,u=Value.int i t from r);subst e;exact ZeK P w i t
 |inr x=>obtain ⟨t,e⟩:=(show ∃ t,u=Value.str x t from r);subst e;exact ZeL P w x t
theorem Zd4 {P:Program} {w:World}: ∀ {ks:List Key} {us:List Value},ZW (ks.map kV) us->ItemsAre (ZaF P w) ks us
 | [],_,r=>by rw[List.map_nil] at r;cases r;exact .nil
 |k :: ks,_,r=>by
  rw[List.map_cons] at r
  cases r with
  |cons h t=>exact .cons (ZmP h) (Zd4 t)
noncomputable abbrev KT (H:Hp):List (List Key × V)->List (List Key × Addr × Value)->Prop:=Paired fun p q=>p.1=q.1/\H q.2.1=some (.tup (p.1.map kV))/\ZU p.2 q.2.2
theorem KT.val {H:Hp} {kvs:List (List Key × V)} {xs:List (List Key × Addr × Value)} (r:KT H kvs xs) (k:List Key):Zmi (ZdS kvs k) ((atKey xs k).map (·.2)):=by
 induction r with
 |nil=>exact True.intro
 | @cons p q ps qs h t ih=>
  obtain ⟨h1,_,h2⟩:=h
  by_cases e:p.1=k
  ·have e':q.1=k:=h1.symm.trans e
   have b:atKey (q :: qs) k=some q.2:=by simp[atKey,List.find?_cons,e']
   rw[ZcA e,b];exact h2
  ·have e': ¬ q.1=k:=fun z=>e (h1.trans z)
   have b:atKey (q :: qs) k=atKey qs k:=by simp[atKey,List.find?_cons,e']
   rw[ZcB e,b];exact ih
theorem KT.repl {H:Hp} {kvs:List (List Key × V)} {xs:List (List Key × Addr × Value)} (r:KT H kvs xs) (k:List Key) {y:V} {u:Value} (ry:ZU y u):
  KT H (kvs.map fun kv=>if kv.1=k then (kv.1,y) else kv) (xs.map (putAt k u)):=by
 induction r with
 |nil=>exact .nil
 | @cons p q ps qs h t ih=>
  rw[List.map_cons,List.map_cons]
  refine .cons ?_ ih
  obtain ⟨h1,h2,h3⟩:=h
  unfold putAt
  by_cases e:p.1=k
  ·rw[if_pos e,if_pos (h1.symm.trans e)];exact ⟨h1,h2,ry⟩
  ·rw[if_neg e,if_neg (fun z=>e (h1.trans z))];exact ⟨h1,h2,h3⟩
theorem KT.put {H:Hp} {kvs:List (List Key × V)} {xs:List (List Key × Addr × Value)} (r:KT H kvs xs) (k:List Key) {b:Addr} {y:V} {u:Value} (hb:H b=some (.tup (k.map kV))) (ry:ZU y u):
  KT H (ZgY kvs k y) (storedH xs k b u):=by
 have e:(kvs.any fun kv=>decide (kv.1=k))=(atKey xs k).isSome:=by
  rw[Zdu,(r.val k).isSome_eq,Option.isSome_map]
 unfold ZgY storedH
 rw[e]
 by_cases q:(atKey xs k).isSome=true
 ·rw[if_pos q,if_pos q];exact r.repl k ry
 ·rw[if_neg q,if_neg q];exact Paired.snoc r ⟨rfl,hb,ry⟩
theorem KT.keeps {H H':Hp} {kvs:List (List Key × V)} {xs:List (List Key × Addr × Value)} (r:KT H kvs xs) (ht: ∀ b ys,H b=some (.tup ys)->H' b=some (.tup ys)):KT H' kvs xs:=
 Paired.mapP r fun _ _ z=>⟨z.1,ht _ _ z.2.1,z.2.2⟩
section
variable {P:Program} {w:World} {H:Hp} {h:Heap} {a:Addr}
theorem ZmQ {u:HO} (ok:HOk P w H h) (e:Rd H a u):Zba P w H h a u:=e.ok ok
theorem Zp9 {kvs:List (Key × V)} (ok:HOk P w H h) (e:Rd H a (.dK kvs)):kvs.length<=sizeLine/\(a == sysModules)=false/\ ∃ vs,KV kvs vs/\h.DictOf (ZaF P w) a vs:=
 show Zba P w H h a (.dK kvs) from ZmQ ok e
theorem ZgZ {ks:List Key} (ok:HOk P w H h) (e:H a=some (.tup (ks.map kV))):(tupleKind (ZaF P w)).is h ks a:=by
 obtain ⟨_,its,r,o,h1,h2,n,h3⟩:=(show Zba P w H h a (.tup (ks.map kV)) from ok a _ e)
 exact ⟨o,its.toArray,n,h1,h2,h3,by simpa using Zd4 r⟩
theorem ZmR {kvs:List (List Key × V)} (ok:HOk P w H h) (e:Rd H a (.dT kvs)):kvs.length<=sizeLine/\(a == sysModules)=false/\
  ∃ xs,KT H kvs xs/\h.DictOfH (tupleKind (ZaF P w)) a xs:=by
 obtain ⟨z,y,xs,r,o,es,ep,h1,h2,h3,h4,h5⟩:=(show Zba P w H h a (.dT kvs) from ZmQ ok e)
 refine ⟨z,y,xs,r,o,es,ep,h1,h2,h3,h4,fun x hx=> ?_,h5⟩
 have all: ∀ {l:List (List Key × V)} {m:List (List Key × Addr × Value)},KT H l m-> ∀ x∈m,(tupleKind (ZaF P w)).is h x.1 x.2.1:=by
  intro l m q
  induction q with
  |nil=>intro x hx;exact nomatch hx
  | @cons p q ps qs hq t ih=>
   intro x hx
   rcases List.mem_cons.mp hx with e | hx
   ·subst e
    exact ZgZ ok (by rw[<- hq.1];exact hq.2.1)
   ·exact ih x hx
 exact all r x hx
theorem Zg0 {kvs:List (List Key × V)} (ok:HOk P w H h) (e:H a=some (.dT kvs)):kvs.length<=sizeLine/\(a == sysModules)=false/\
  ∃ xs,KT H kvs xs/\h.DictOfH (tupleKind (ZaF P w)) a xs:=ZmR ok (.inl e)
end
noncomputable def ZiR (H:Hp) (a:Addr) (y:V) (r:Option V):Prop:=
 (∃ kvs k,Rd H a (.dK kvs)/\y=kV k/\r=ZdS kvs k)\/ ∃ kvs k b,Rd H a (.dT kvs)/\y= .ref b/\H b=some (.tup (k.map kV))/\r=ZdS kvs k
theorem ZiR.k {H:Hp} {a:Addr} {kvs:List (Key × V)} {k:Key} (e:H a=some (.dK kvs)):ZiR H a (kV k) (ZdS kvs k):= .inl ⟨kvs,k,.inl e,rfl,rfl⟩
theorem ZiR.t {H:Hp} {a b:Addr} {kvs:List (List Key × V)} {k:List Key} (e:H a=some (.dT kvs)) (eb:H b=some (.tup (k.map kV))):ZiR H a (.ref b) (ZdS kvs k):= .inr ⟨kvs,k,b,.inl e,rfl,eb,rfl⟩
section
variable {X:Cx} {pins:List (Addr × Obj)} {σ:St} {H:Hp} {s:Shared} {a:Addr} {y v:V} {u r:Value} {o:Option V} {A:Around} {E:Value->Shared->Prop}
theorem Inv.big (I:Inv X pins σ H s):sysModules < s.heap.objs.size:=by
 have h:mainGlobals < s.heap.objs.size:=(I.mod.glob.keeps I.bk).lt
 exact Nat.lt_trans (by decide) h
theorem Ztz {Q:Value->Shared->Prop} (hu:A.units + 1 < cLine) (I:Inv X pins σ H s) (g:ZiR H a y o) (ry:ZU y u) (h: ∀ s',Inv X pins σ H s'->Q (.bool o.isSome) s'):
  wpAny (model X.prog X.w) A (compareOp .In u (.ref a)) Q E s:=by
 rcases g with ⟨kvs,k,e,ey,l⟩ | ⟨kvs,k,b,e,ey,eb,l⟩
 ·subst ey
  obtain ⟨z,hd,vs,rel,dd⟩:=Zp9 I.hok e
  refine wpAny_in_of (ZmP ry) hd dd.mapOf ?_
  rw[<- (rel.val k).isSome_eq,<- l]
  exact h _ (I.tok _)
 ·subst ey
  cases (show u=Value.ref b from ry)
  obtain ⟨z,hd,xs,rel,dd⟩:=ZmR I.hok e
  refine wpAny_in_heap (tupleKind_room_in1 hu) (ZgZ I.hok eb) hd dd ?_
  have q:=(rel.val k).isSome_eq
  rw[Option.isSome_map] at q
  rw[<- q,<- l]
  exact h _ (I.tok _)
theorem ZkV {h':Heap} {t':Nat} {ob:HO} (I:Inv X pins σ H s) (mu:Mut (H a)) (hs:Heap.SameBut a s.heap h') (he: ∃ q,h'.get? a=some q) (new:Zba X.prog X.w (upd H a ob) h' a ob):
  Inv X pins σ (upd H a ob) { s with heap:=h',toks:=t' }:=
 I.write (x:=a) (e:=a) mu (.inl rfl) (fun b q hb z=>(hs.2 b hb).trans z) he new
end
section
variable {X:Cx} {pins:List (Addr × Obj)} {σ:St} {H:Hp} {s:Shared} {a:Addr} {kvs:List (Key × V)} {k:Key} {u:Value} {A:Around} {E:Value->Shared->Prop}
end
section
variable {X:Cx} {o i e value:Expr} {pos pos' tpos:Pos} {td ty tv:TE}
end
theorem ZiS {P:Program} {w:World} {H:Hp} (h:Heap) (hb:sysModules < h.objs.size):Zba P w H (h.push { cls:= .type "dict",data:= .dict #[] }) h.objs.size (.dT []):=
 ⟨Nat.zero_le _,beq_eq_false_iff_ne.mpr (Ne.symm (Nat.ne_of_lt hb)),[],.nil,_,#[],0,Heap.get?_push_size _ rfl,⟨rfl,rfl,rfl⟩,rfl,rfl,List.nodup_nil⟩
section
variable {X:Cx} {pos:Pos}
end
structure M1 (X:Cx) (o:Expr) (m:Str) (apos:Pos) (e:Expr) (cpos:Pos):Prop where
 base:attributeBase o m X.env (eval o X.env)=eval o X.env
 few:((backTo cpos (starEach [e] X.env)).all (fun x=> !x.1) && (backToKw cpos (keywordEach [] X.env)).all (fun x=>x.1.isSome)
  && decide (([e]:List Expr).length + ([]:List Keyword).length + (if ([]:List Keyword).isEmpty then 0 else 1) < 30))=true
 line:(apos.endLine == cpos.line)=true
 trees:backTo cpos (starEach [e] X.env)=[(false,eval e X.env)]
structure M2 (X:Cx) (o:Expr) (m:Str) (apos:Pos) (e f:Expr) (cpos:Pos):Prop where
 base:attributeBase o m X.env (eval o X.env)=eval o X.env
 few:((backTo cpos (starEach [e,f] X.env)).all (fun x=> !x.1) && (backToKw cpos (keywordEach [] X.env)).all (fun x=>x.1.isSome)
  && decide (([e,f]:List Expr).length + ([]:List Keyword).length + (if ([]:List Keyword).isEmpty then 0 else 1) < 30))=true
 line:(apos.endLine == cpos.line)=true
 trees:backTo cpos (starEach [e,f] X.env)=[(false,eval e X.env),(false,eval f X.env)]
noncomputable def IsD (H:Hp) (a:Addr):Prop:=(∃ kvs,Rd H a (.dK kvs))\/ ∃ kvs,Rd H a (.dT kvs)
section
variable {X:Cx} {pins:List (Addr × Obj)} {σ:St} {H:Hp} {s:Shared} {a:Addr} {y d:V} {u r:Value} {o:Option V} {A:Around} {E:Value->Shared->Prop}
end
section
variable {X:Cx} {o e f:Expr} {apos cpos:Pos} {td ty tx:TE}
end
section
variable {X:Cx} {pins:List (Addr × Obj)} {σ:St} {H:Hp} {s:Shared} {a:Addr} {kvs:List (Key × V)} {A:Around} {E:Value->Shared->Prop}
end
section
variable {X:Cx} {pins:List (Addr × Obj)} {σ:St} {H:Hp} {s:Shared} {a:Addr} {y:V} {u:Value} {A:Around} {E:Value->Shared->Prop}
end
end L2
namespace Att
open PySem PySem.W PySem.Calls PyProof.Rows
section
variable {prog:Program} {w:World} {A:Around} {E:Value->Shared->Prop} {s:Shared} {K:Frag}
end
end Att
namespace L2
open PySem PySem.Spec PyProof.Rows
end L2
namespace L2
open PySem PySem.Spec PyProof.Rows
end L2
namespace L2
open PySem PySem.Spec PyProof.Rows
section
variable {P:Program} {w:World} {K:PySem.W.Frag} {mg:Str->Option Value} {base:Heap}
end
section
variable {X:Cx}
end
section
variable {κ:Type} [DecidableEq κ]
end
end L2
end
section
namespace DQ
open PySem PySem.Spec PyProof.Rows
structure Fly (B:Heap) (l:List Env) (e:Addr) (cls:Value) (dct:Option Addr) (fl:Value) (h:Heap):Prop where
 stay:B.StaysIn h
 new:B.get? e=none
 frames:h.FunFrames B l
 obj: ∃ oe vs T oT ts,h.get? e=some oe/\oe.cls=cls/\oe.dict=dct/\oe.data= .fields vs/\vs[2]?=some .none/\vs[1]?=some (.ref T)/\B.get? T=none/\T≠e/\h.get? T=some oT/\oT.data= .fields ts/\ts[3]?=some fl
theorem Fly.tail {B:Heap} {env:Env} {l:List Env} {e:Addr} {cls:Value} {dct:Option Addr} {fl:Value} {h:Heap} (f:Fly B (env :: l) e cls dct fl h):Fly B l e cls dct fl h:=⟨f.stay,f.new,f.frames.2.2,f.obj⟩
section
variable {M:Model} {A:Around} {E:Value->Shared->Prop} {s:Shared} {B:Heap} {env:Env} {outer l:List Env} {L e:Addr} {cls:Value} {dct:Option Addr} {fl:Value}
theorem apart {h:Heap} {oe:Obj} {vs:Array Value} (hl:h.FunFrames B l) (he:h.get? e=some oe) (hd:oe.data= .fields vs):e ∉ l.filterMap (·.frame):=fun z=>by
 obtain ⟨_,o,h1,h2⟩:=hl.mem z
 rw[he] at h1
 cases h1
 exact h2 vs hd
theorem Zd5 {oe:Obj} {vs:Array Value} {head:Value} {hn:Bool} {Q:Unit->Shared->Prop} (hfr:A.frames=some (env :: outer)) (hl:s.heap.FunFrames B (env :: outer)) (hf:env.frame=some L)
  (he:s.heap.get? e=some oe) (hs:B.StaysIn s.heap) (hb:B.get? e=none) (hd:oe.data= .fields vs) (hz:2 < vs.size) (h2:vs[2]?=some .none)
  (h: ∀ h',Fly B (env :: outer) e oe.cls oe.dict (rawInt L) h'->s.heap.UpToSlots h'->Q () { s with heap:=h' }):
  wpAny M A (frameOf env >>= fun a=>entryPlaceOf L hn >>= fun pl=>EntryCells.newEntry head a .none (rawInt L) .none pl >>= fun b=>setField (.ref e) 1 b) Q E s:=by
 have ne:=apart hl he hd
 refine wpAny_bind (wpAny_frameOf_fun hfr hl hf fun h1 k1=>wpAny_bind (wpAny_entryPlaceOf fun pl hpl=>wpAny_bind ?_))
 unfold EntryCells.newEntry newFields
 refine wpAny_newObj_type ?_ (hpl.sizeOk5 _ _ _ _ _)
 generalize hT:([head,Value.ref L,Value.none,rawInt L,Value.none] ++ (if pl.isEmpty then List.replicate 6 Value.none else pl)).toArray=ts
 have h3:ts[3]?=some (rawInt L):=by
  rw[<- hT]
  rcases hpl with rfl | ⟨_,_,_,_,_,_,_,rfl⟩<;>simp
 have e1:h1.get? e=some oe:=(k1.2.1 e ne).trans he
 have s1:B.StaysIn h1:=fun b o hbo=>(k1.2.1 b fun z=>by rw[(hl.mem z).1] at hbo;cases hbo).trans (hs b o hbo)
 generalize hoT:({ cls:= .type "traceback",dict:=none,data:= .fields ts }:Obj)=oT
 have dT:oT.data= .fields ts:=by rw[<- hoT]
 have fT:oT.isFreed=false:=Obj.isFreed_of_fields dT
 have e2:(h1.push oT).get? e=some oe:=Heap.get?_push_of_some _ e1
 have nT:h1.objs.size≠e:=Nat.ne_of_gt (Heap.lt_size e1)
 refine wpAny_setField e2 hd (Nat.lt_trans (by decide) hz) (h _ ?_ ?_)
 ·have d3:=Obj.data_mapFields hd (·.setIfInBounds 1 (Value.ref h1.objs.size))
  have e3:=Heap.get?_update_self (Obj.mapFields (·.setIfInBounds 1 (Value.ref h1.objs.size))) e2 (Obj.isFreed_of_fields d3)
  have keep: ∀ b o,b≠e->h1.get? b=some o->((h1.push oT).update e (Obj.mapFields (·.setIfInBounds 1 (Value.ref h1.objs.size)))).get? b=some o:=fun b o hbe x=>by
   rw[Heap.get?_update_other _ _ (Ne.symm hbe)]
   exact Heap.get?_push_of_some _ x
  have gT:(h1.push oT).get? h1.objs.size=some oT:=Heap.get?_push_size _ fT
  refine ⟨fun b o x=>keep b o (fun z=>by rw[z,hb] at x;cases x) (s1 b o x),hb,hl.of_keeps fun b o x y=> ?_,_,_,h1.objs.size,oT,ts,e3,Obj.cls_mapFields _ _,?_,d3,?_,?_,s1.fresh,nT,?_,dT,h3⟩
  ·obtain ⟨sl,z⟩:=k1.2.2 b o x
   exact ⟨_,keep b _ (fun w=>y vs (by rw[w,he] at x;cases x;exact hd)) z,rfl⟩
  ·obtain ⟨c,d,dd,sl⟩:=oe
   cases hd
   rfl
  ·rw[Array.getElem?_setIfInBounds_ne (by decide)]
   exact h2
  ·rw[Array.getElem?_setIfInBounds_self_of_lt (Nat.lt_trans (by decide) hz)]
  ·rw[Heap.get?_update_other _ _ (Ne.symm nT)]
   exact gT
 ·intro b o x y
  obtain ⟨sl,z⟩:=k1.2.2 b o x
  refine ⟨sl,?_⟩
  rw[Heap.get?_update_other _ _ (fun w=>y vs (by rw[<- w,he] at x;cases x;exact hd))]
  exact Heap.get?_push_of_some _ z
theorem Zfn {Q:Unit->Shared->Prop} (f:Fly B l e cls dct fl s.heap) (h: ∀ h',Fly B l e cls dct .none h'->s.heap.UpToSlots h'->Q () { s with heap:=h' }):wpAny M A (setFlight (.ref e) none) Q E s:=by
 obtain ⟨st,nw,fr,oe,vs,T,oT,ts,g1,g2,g3,g4,g5,g6,g7,g8,g9,g10,g11⟩:=f
 have hz:3 < ts.size:=(Array.getElem?_eq_some_iff.mp g11).1
 unfold setFlight
 refine wpAny_bind (wpAny_field g1 g4 g6 ?_)
 rw[if_pos (by simp)]
 have oth: ∀ b o,b≠T->s.heap.get? b=some o->(s.heap.update T (Obj.mapFields (·.setIfInBounds 3 Value.none))).get? b=some o:=fun b o hb x=>by
  rw[Heap.get?_update_other _ _ (Ne.symm hb)]
  exact x
 have nr: ∀ b o,s.heap.get? b=some o->(∀ vs,o.data≠ .fields vs)->b≠T:=fun b o x y z=>by
  rw[z,g9] at x
  cases x
  exact y ts g10
 refine wpAny_setField g9 g10 hz (h _ ⟨fun b o x=>oth b o (fun z=>by rw[z,g7] at x;cases x) (st b o x),nw,fr.of_keeps fun b o x y=>⟨o,oth b o (nr b o x y) x,rfl⟩,?_⟩ fun b o x y=>⟨o.slots,oth b o (nr b o x y) x⟩)
 exact ⟨oe,vs,T,_,_,oth e oe (Ne.symm g8) g1,g2,g3,g4,g5,g6,g7,g8,Heap.get?_update_self _ g9 (Obj.isFreed_of_fields (Obj.data_mapFields g10 _)),Obj.data_mapFields g10 _,by rw[Array.getElem?_setIfInBounds_self_of_lt hz];rfl⟩
theorem ZiT {Q:Unit->Shared->Prop} (hfr:A.frames=some (env :: outer)) (hf:env.frame=some L) (f:Fly B (env :: outer) e cls dct .none s.heap)
  (h: ∀ h',Fly B (env :: outer) e cls dct (rawInt L) h'->s.heap.UpToSlots h'->Q () { s with heap:=h' }):wpAny M A (noteFrame (.ref e) env) Q E s:=by
 obtain ⟨st,nw,fr,oe,vs,T,oT,ts,g1,g2,g3,g4,g5,g6,g7,g8,g9,g10,g11⟩:=f
 unfold noteFrame
 simp only[hf]
 refine wpAny_bind (wpAny_field g1 g4 g6 ?_)
 rw[if_pos (by simp)]
 refine wpAny_bind (wpAny_field g9 g10 g11 ?_)
 rw[if_neg (by simp[rawInt])]
 have oth: ∀ b o,b≠T->s.heap.get? b=some o->(s.heap.update T (Obj.mapFields (·.setIfInBounds 3 Value.none))).get? b=some o:=fun b o hb x=>by
  rw[Heap.get?_update_other _ _ (Ne.symm hb)]
  exact x
 have nr: ∀ b o,s.heap.get? b=some o->(∀ vs,o.data≠ .fields vs)->b≠T:=fun b o x y z=>by
  rw[z,g9] at x
  cases x
  exact y ts g10
 refine wpAny_bind (wpAny_setField g9 g10 (Array.getElem?_eq_some_iff.mp g11).1 ?_)
 refine Zd5 hfr (fr.of_keeps fun b o x y=>⟨o,oth b o (nr b o x y) x,rfl⟩) hf (oth e oe (Ne.symm g8) g1) (fun b o x=>oth b o (fun z=>by rw[z,g7] at x;cases x) (st b o x)) nw g4 (Array.getElem?_eq_some_iff.mp g5).1 g5 fun h' k1 k2=>h h' (g2 ▸ g3 ▸ k1) ?_
 intro b o x y
 exact k2 b o (oth b o (nr b o x y) x) y
theorem Zg1 {Q:Unit->Shared->Prop} (hfr:A.frames=some (env :: outer)) (hf:env.frame=some L) (f:Fly B (env :: outer) e cls dct .none s.heap)
  (h: ∀ h',Fly B outer e cls dct .none h'->s.heap.UpToSlots h'->Q () { s with heap:=h' }):wpAny M A (leaving env (.ref e)) Q E s:=by
 unfold leaving
 refine wpAny_bind (ZiT hfr hf f fun h1 k1 u1=> ?_)
 exact Zfn (s:={ s with heap:=h1 }) k1 fun h2 k2 u2=>h h2 k2.tail (u1.trans u2)
theorem Zg2 {oe:Obj} {vs:Array Value} {Q:Unit->Shared->Prop} (hfr:A.frames=some (env :: outer)) (hf:env.frame=some L) (hl:s.heap.FunFrames B (env :: outer)) (he:s.heap.get? e=some oe) (hs:B.StaysIn s.heap) (hb:B.get? e=none) (hd:oe.data= .fields vs) (h1:vs[1]?=some .none) (h2:vs[2]?=some .none)
  (h: ∀ h',Fly B outer e oe.cls oe.dict .none h'->s.heap.UpToSlots h'->Q () { s with heap:=h' }):wpAny M A (leaving env (.ref e)) Q E s:=by
 unfold leaving noteFrame
 simp only[hf]
 refine wpAny_bind (wpAny_bind (wpAny_field he hd h1 ?_))
 rw[if_neg (by decide)]
 refine Zd5 hfr hl hf he hs hb hd (Array.getElem?_eq_some_iff.mp h2).1 h2 fun h' k1 u1=> ?_
 exact Zfn (s:={ s with heap:=h' }) k1 fun h2 k2 u2=>h h2 k2.tail (u1.trans u2)
end
end DQ
end
section
namespace DQ
open PySem PySem.Spec PyProof.Rows
open PySem.W (Looks findIn mroIn specialIn takesIn clsIn looks_findIn looks_mroIn looks_find findObj KitX)
structure ExcC (K:PySem.W.Frag) (C:Addr):Prop where
 ga:findIn K (.ref C) "__getattribute__"=some (some (.builtin "BaseException.__getattribute__"))
 gt:findIn K (.ref C) "__getattr__"=some none
 cl:findIn K (.ref C) "__class__"=some (some (.builtin "object.__class__"))
 gs:specialIn K (.builtin "object.__class__") "__get__"=some (some (.builtin "getset_descriptor.__get__"))
 tk:takesIn K (.builtin "object.__class__")=some true
 bx:mroIn K C (.type "BaseException")=some true
 ob:mroIn K C (.type "object")=some true
 is:(clsIn K C).isSome=true
section
variable {prog:Program} {w:World} {A:Around} {E:Value->Shared->Prop} {s:Shared} {K:PySem.W.Frag} {e C:Addr} {oe:Obj} {od:Option Obj}
end
end DQ
end
section
namespace DL
open PySem PySem.Spec PyProof.Rows L2
inductive D where
 |non
 |bl (b:Bool)
 |int (i:Int)
 |str (x:Str)
 |tup (xs:List D)
 |rol (xs:List D)
 |con (xs:List D)
 |ref (n:Nat)
 |err (c:Str) (xs:List D)
 |dk (n:Nat)
 |dt (n:Nat)
inductive SO where
 |lst (xs:List D)
noncomputable abbrev Sto:=List SO
noncomputable abbrev Ro:=List (Option D)
noncomputable def SqF (K:PySem.W.Frag) (H:Hp) (a:Addr) (xs:List V):Prop:=
 (∃ o,H a=some (.frz o (.lst xs)))\/ ∃ (o:Obj) (its:Array Value) (n:Nat),K.lookup a=some o/\o.cls= .type "list"/\o.dict=none/\o.data= .seq its n/\its.size<=sizeLine/\ZW xs its.toList
theorem SqF.sq {K:PySem.W.Frag} {H:Hp} {a:Addr} {xs:List V} (h:SqF K H a xs):SqL K H a xs:=by
 rcases h with ⟨o,h⟩ | h
 ·exact .inl (.inr ⟨o,h⟩)
 ·exact .inr h
noncomputable def SqK (K:PySem.W.Frag) (a:Addr) (xs:List V):Prop:= ∃ (o:Obj) (its:Array Value) (n:Nat),K.lookup a=some o/\o.cls= .type "tuple"/\o.data= .seq its n/\its.size<=sizeLine/\ZW xs its.toList/\o.dict=none
theorem SqK.sq {K:PySem.W.Frag} {H:Hp} {a:Addr} {xs:List V} (h:SqK K a xs):SqT K H a xs:=
 let ⟨o,its,n,h1,h2,h3,h4,h5,_⟩:=h
 .inr ⟨o,its,n,h1,h2,h3,h4,h5⟩
noncomputable def EOk (H:Hp) (p C:Addr) (xs:List V):Prop:= ∃ oe u vs,H p=some (.frz oe u)/\oe.cls= .ref C/\oe.data= .fields vs/\vs[2]?=some .none/\((xs=[]/\oe.dict=none)\/ ∃ dx fs,oe.dict=some dx/\H dx=some (.xd fs)/\fs.map (·.2)=xs)
noncomputable def Kn (H:Hp) (p:Addr):Option Nat:=match H p with | some (.lst _)=>some 0 | some (.dK _)=>some 1 | some (.dT _)=>some 2 | _=>none
structure RefK (H:Hp) (α:List Addr) (j n:Nat) (p:Addr):Prop where
 at':α[n]?=some p
 kn:Kn H p=some j
theorem Kn.lst {H:Hp} {p:Addr} {xs:List V} (h:H p=some (.lst xs)):Kn H p=some 0:=by unfold Kn;rw[h]
theorem Kn.ne {H:Hp} {p q:Addr} {j:Nat} {o:HO} (h:Kn H p=some j) (hq:H q=none):Kn (upd H q o) p=some j:=by
 have:p≠q:=by
  intro z
  unfold Kn at h
  rw[z,hq] at h
  cases h
 unfold Kn
 rw[ZJ this]
 exact h
mutual
inductive Rep (K:PySem.W.Frag) (H:Hp) (α:List Addr):V->D->Prop where
 |non:Rep K H α .non .non
 |bl (b:Bool):Rep K H α (.bl b) (.bl b)
 |int (i:Int):Rep K H α (.int i) (.int i)
 |str (x:Str):Rep K H α (.str x) (.str x)
 |tup {p:Addr} {xs:List V} {ds:List D}:H p=some (.tup xs)->Reps K H α xs ds->Rep K H α (.ref p) (.tup ds)
 |rol {p:Addr} {xs:List V} {ds:List D}:SqF K H p xs->Reps K H α xs ds->Rep K H α (.ref p) (.rol ds)
 |con {p:Addr} {xs:List V} {ds:List D}:SqK K p xs->Reps K H α xs ds->Rep K H α (.ref p) (.con ds)
 |ref {p:Addr} {n:Nat}:RefK H α 0 n p->Rep K H α (.ref p) (.ref n)
 |dk {p:Addr} {n:Nat}:RefK H α 1 n p->Rep K H α (.ref p) (.dk n)
 |dt {p:Addr} {n:Nat}:RefK H α 2 n p->Rep K H α (.ref p) (.dt n)
 |err {p C:Addr} {c:Str} {xs:List V} {ds:List D}:PySem.W.nsIn K mainGlobals c=some (some (.ref C))->EOk H p C xs->Reps K H α xs ds->Rep K H α (.ref p) (.err c ds)
inductive Reps (K:PySem.W.Frag) (H:Hp) (α:List Addr):List V->List D->Prop where
 |nil:Reps K H α [] []
 |cons {v:V} {d:D} {vs:List V} {ds:List D}:Rep K H α v d->Reps K H α vs ds->Reps K H α (v :: vs) (d :: ds)
end
structure Ext (K:PySem.W.Frag) (H H':Hp) (α α':List Addr):Prop where
 tup: ∀ p xs,H p=some (.tup xs)->H' p=some (.tup xs)
 rol: ∀ p xs,SqF K H p xs->SqF K H' p xs
 err: ∀ p C xs,EOk H p C xs->EOk H' p C xs
 kn: ∀ p j,Kn H p=some j->Kn H' p=some j
 al: ∃ β,α'=α ++ β
section
variable {K:PySem.W.Frag} {H H1 H2 H':Hp} {α α1 α2 α':List Addr}
theorem Ext.refl:Ext K H H α α:=⟨fun _ _ h=>h,fun _ _ h=>h,fun _ _ _ h=>h,fun _ _ h=>h,[],(List.append_nil _).symm⟩
theorem Ext.trans (a:Ext K H H1 α α1) (b:Ext K H1 H2 α1 α2):Ext K H H2 α α2:=by
 obtain ⟨b1,e1⟩:=a.al
 obtain ⟨b2,e2⟩:=b.al
 exact ⟨fun p xs h=>b.tup p xs (a.tup p xs h),fun p xs h=>b.rol p xs (a.rol p xs h),fun p C xs h=>b.err p C xs (a.err p C xs h),fun p j h=>b.kn p j (a.kn p j h),b1 ++ b2,by rw[e2,e1,List.append_assoc]⟩
theorem Ext.get0 (e:Ext K H H' α α') {n:Nat} {p:Addr} (h:α[n]?=some p):α'[n]?=some p:=by
 obtain ⟨β,e1⟩:=e.al
 have hl:n < α.length:=(List.getElem?_eq_some_iff.mp h).1
 rw[e1,List.getElem?_append_left hl]
 exact h
theorem Ext.get (e:Ext K H H' α α') {j n:Nat} {p:Addr} (h:RefK H α j n p):RefK H' α' j n p:=⟨e.get0 h.at',e.kn _ _ h.kn⟩
mutual
theorem Rep.mono (e:Ext K H H' α α'): ∀ {v:V} {d:D},Rep K H α v d->Rep K H' α' v d
 |_,_,.non=> .non
 |_,_,.bl b=> .bl b
 |_,_,.int i=> .int i
 |_,_,.str x=> .str x
 |_,_,.tup h r=> .tup (e.tup _ _ h) (Reps.mono e r)
 |_,_,.rol h r=> .rol (e.rol _ _ h) (Reps.mono e r)
 |_,_,.con h r=> .con h (Reps.mono e r)
 |_,_,.ref h=> .ref (e.get h)
 |_,_,.dk h=> .dk (e.get h)
 |_,_,.dt h=> .dt (e.get h)
 |_,_,.err n h r=> .err n (e.err _ _ _ h) (Reps.mono e r)
theorem Reps.mono (e:Ext K H H' α α'): ∀ {vs:List V} {ds:List D},Reps K H α vs ds->Reps K H' α' vs ds
 |_,_,.nil=> .nil
 |_,_,.cons r t=> .cons (Rep.mono e r) (Reps.mono e t)
end
theorem Reps.length: ∀ {vs:List V} {ds:List D},Reps K H α vs ds->vs.length=ds.length
 |_,_,.nil=>rfl
 |_,_,.cons _ t=>by rw[List.length_cons,List.length_cons,Reps.length t]
theorem Reps.get: ∀ {vs:List V} {ds:List D} {i:Nat} {d:D},Reps K H α vs ds->ds[i]?=some d-> ∃ v,vs[i]?=some v/\Rep K H α v d
 |_,_,_,_,.nil,e=>by simp at e
 |_,_,0,_,.cons r _,e=>by simp at e;subst e;exact ⟨_,rfl,r⟩
 |_,_,i + 1,d,.cons _ t,e=>by
  obtain ⟨u,h1,h2⟩:=Reps.get (i:=i) (d:=d) t (by simpa using e)
  exact ⟨u,by simpa using h1,h2⟩
theorem Reps.append: ∀ {vs ws:List V} {ds es:List D},Reps K H α vs ds->Reps K H α ws es->Reps K H α (vs ++ ws) (ds ++ es)
 |_,_,_,_,.nil,s=>s
 |_,_,_,_,.cons r t,s=> .cons r (Reps.append t s)
theorem Reps.ints: ∀ (ns:List Int),Reps K H α (ns.map V.int) (ns.map D.int)
 | []=> .nil
 |n :: r=> .cons (.int n) (Reps.ints r)
theorem Zg3 {p q:Addr} {xs:List V} {o:HO} (h:H q=some (.tup xs)) (hp: ∀ u,H p=some u->(∀ ys,u≠ .tup ys)/\ ∀ ob w,u≠ .frz ob w):upd H p o q=some (.tup xs):=by
 rw[ZJ (fun e=>(hp _ (e ▸ h)).1 _ rfl)]
 exact h
theorem Zg4 {p q:Addr} {xs:List V} {o:HO} (h:SqF K H q xs) (hp: ∀ u,H p=some u-> ∀ ob w,u≠ .frz ob w):SqF K (upd H p o) q xs:=by
 rcases h with ⟨ob,h⟩ | h
 ·refine .inl ⟨ob,?_⟩
  rw[ZJ (fun e=>hp _ (e ▸ h) _ _ rfl)]
  exact h
 ·exact .inr h
theorem Zg5 {p q C:Addr} {xs:List V} {o:HO} (h:EOk H q C xs) (hp: ∀ u,H p=some u->(∀ ob w,u≠ .frz ob w)/\ ∀ fs,u≠ .xd fs):EOk (upd H p o) q C xs:=by
 obtain ⟨oe,u,vs,h1,h2,h3,h4,h5⟩:=h
 refine ⟨oe,u,vs,?_,h2,h3,h4,?_⟩
 ·rw[ZJ (fun e=>(hp _ (e ▸ h1)).1 _ _ rfl)]
  exact h1
 ·rcases h5 with h5 | ⟨dx,fs,k1,k2,k3⟩
  ·exact .inl h5
  ·refine .inr ⟨dx,fs,k1,?_,k3⟩
   rw[ZJ (fun e=>(hp _ (e ▸ k2)).2 _ rfl)]
   exact k2
theorem Ext.new {p:Addr} {o:HO} (h:H p=none) {β:List Addr}:Ext K H (upd H p o) α (α ++ β):=
 ⟨fun q xs z=>Zg3 z (fun u e=>(by rw[h] at e;cases e)),fun q xs z=>Zg4 z (fun u e=>(by rw[h] at e;cases e)),fun q C xs z=>Zg5 z (fun u e=>(by rw[h] at e;cases e)),fun q j z=>Kn.ne z h,β,rfl⟩
theorem Ext.new0 {p:Addr} {o:HO} (h:H p=none):Ext K H (upd H p o) α α:=by
 have e:=Ext.new (K:=K) (H:=H) (α:=α) (o:=o) h (β:=[])
 rw[List.append_nil] at e
 exact e
theorem Ext.wrK {p:Addr} {o:HO} {j:Nat} (h:Kn H p=some j) (h':Kn (upd H p o) p=some j):Ext K H (upd H p o) α α:=by
 have ne (u:HO) (e:H p=some u):(∀ ys,u≠ .tup ys)/\(∀ ob w,u≠ .frz ob w)/\ ∀ fs,u≠ .xd fs:=by
  unfold Kn at h
  rw[e] at h
  refine ⟨fun ys z=> ?_,fun ob w z=> ?_,fun fs z=> ?_⟩<;>subst z<;>cases h
 refine ⟨fun q xs z=>Zg3 z fun u e=>⟨(ne u e).1,(ne u e).2.1⟩,fun q xs z=>Zg4 z fun u e=>(ne u e).2.1,fun q C xs z=>Zg5 z fun u e=>⟨(ne u e).2.1,(ne u e).2.2⟩,fun q i z=> ?_,[],(List.append_nil _).symm⟩
 by_cases c:q=p
 ·subst c
  rw[h] at z
  cases z
  exact h'
 ·unfold Kn
  rw[ZJ c]
  exact z
theorem Ext.wr {p:Addr} {xs ys:List V} (h:H p=some (.lst xs)):Ext K H (upd H p (.lst ys)) α α:=Ext.wrK (Kn.lst h) (Kn.lst Zr)
noncomputable def ZkW:Key->D
 | .inl i=> .int i
 | .inr x=> .str x
noncomputable def Zg6 (ks:List Key):D:= .tup (ks.map ZkW)
noncomputable def ZbN (K:PySem.W.Frag) (H:Hp) (α:List Addr) {κ:Type} (key:κ->D) (kvs:List (κ × V)) (ds:List D):Prop:=
 ∃ es:List D,ds=List.zipWith (fun kv e=>D.tup [key kv.1,e]) kvs es/\Reps K H α (kvs.map (·.2)) es
noncomputable def SOk (K:PySem.W.Frag) (H:Hp) (α:List Addr) (p:Addr):SO->Prop
 | .lst ds=>(∃ xs,H p=some (.lst xs)/\Reps K H α xs ds)\/(∃ kvs,H p=some (.dK kvs)/\ZbN K H α ZkW kvs ds)\/(∃ kvs,H p=some (.dT kvs)/\ZbN K H α Zg6 kvs ds)
theorem SOk.there {p:Addr} {o:SO} (h:SOk K H α p o): ∃ u,H p=some u:=by
 cases o with
 |lst ds=>rcases h with ⟨_,e,_⟩ | ⟨_,e,_⟩ | ⟨_,e,_⟩<;>exact ⟨_,e⟩
theorem SOk.mono {p:Addr} {o:SO} (h:SOk K H α p o) (ex:Ext K H H' α α') (e:H' p=H p):SOk K H' α' p o:=by
 cases o with
 |lst ds=>
  rcases h with ⟨xs,h1,h2⟩ | ⟨kvs,h1,es,h2,h3⟩ | ⟨kvs,h1,es,h2,h3⟩
  ·exact .inl ⟨xs,e.trans h1,Reps.mono ex h2⟩
  ·exact .inr (.inl ⟨kvs,e.trans h1,es,h2,Reps.mono ex h3⟩)
  ·exact .inr (.inr ⟨kvs,e.trans h1,es,h2,Reps.mono ex h3⟩)
structure HR (K:PySem.W.Frag) (H:Hp) (α:List Addr) (M:Sto):Prop where
 len:α.length=M.length
 nd:α.Nodup
 ob: ∀ (n:Nat) (p:Addr) (o:SO),α[n]?=some p->M[n]?=some o->SOk K H α p o
theorem HR.nil:HR K H [] []:=⟨rfl,List.nodup_nil,fun n p o h=>by simp at h⟩
theorem HR.at (h:HR K H α M) {n:Nat} {p:Addr} {ds:List D} (e:RefK H α 0 n p) (m:M[n]?=some (.lst ds)): ∃ xs,H p=some (.lst xs)/\Reps K H α xs ds:=by
 rcases h.ob n p _ e.at' m with h1 | ⟨_,h1,_⟩ | ⟨_,h1,_⟩
 ·exact h1
 ·have:=e.kn;unfold Kn at this;rw[h1] at this;cases this
 ·have:=e.kn;unfold Kn at this;rw[h1] at this;cases this
theorem HR.atK (h:HR K H α M) {n:Nat} {p:Addr} {ds:List D} (e:RefK H α 1 n p) (m:M[n]?=some (.lst ds)): ∃ kvs,H p=some (.dK kvs)/\ZbN K H α ZkW kvs ds:=by
 rcases h.ob n p _ e.at' m with ⟨_,h1,_⟩ | h1 | ⟨_,h1,_⟩
 ·have:=e.kn;unfold Kn at this;rw[h1] at this;cases this
 ·exact h1
 ·have:=e.kn;unfold Kn at this;rw[h1] at this;cases this
theorem HR.atT (h:HR K H α M) {n:Nat} {p:Addr} {ds:List D} (e:RefK H α 2 n p) (m:M[n]?=some (.lst ds)): ∃ kvs,H p=some (.dT kvs)/\ZbN K H α Zg6 kvs ds:=by
 rcases h.ob n p _ e.at' m with ⟨_,h1,_⟩ | ⟨_,h1,_⟩ | h1
 ·have:=e.kn;unfold Kn at this;rw[h1] at this;cases this
 ·have:=e.kn;unfold Kn at this;rw[h1] at this;cases this
 ·exact h1
theorem RefK.lst {n:Nat} {p:Addr} (e:RefK H α 0 n p): ∃ xs,H p=some (.lst xs):=by
 have:=e.kn
 unfold Kn at this
 split at this
 ·rename_i xs h;exact ⟨xs,h⟩
 ·cases this
 ·cases this
 ·cases this
theorem HR.some_at {M:Sto} (h:HR K H α M) {n:Nat} {p:Addr} (e:RefK H α 0 n p): ∃ xs,H p=some (.lst xs):=e.lst
theorem HR.there {M:Sto} (h:HR K H α M) {n:Nat} {p:Addr} (e:α[n]?=some p): ∃ u,H p=some u:=by
 have hl:n < α.length:=(List.getElem?_eq_some_iff.mp e).1
 have hm:n < M.length:=by rw[<- h.len];exact hl
 exact (h.ob n p M[n] e (List.getElem?_eq_getElem hm)).there
theorem HR.tup {M:Sto} {p:Addr} {o:HO} (h:HR K H α M) (hp:H p=none):HR K (upd H p o) α M:=
 ⟨h.len,h.nd,fun n q so e m=>by
  obtain ⟨u,hu⟩:=h.there e
  exact (h.ob n q so e m).mono (Ext.new0 hp) (ZJ (Z9 hu hp))⟩
theorem HR.newO {M:Sto} {p:Addr} {o:HO} {so:SO} (h:HR K H α M) (hp:H p=none) (r:SOk K (upd H p o) (α ++ [p]) p so):HR K (upd H p o) (α ++ [p]) (M ++ [so]):=by
 have ex:Ext K H (upd H p o) α (α ++ [p]):=Ext.new hp
 refine ⟨by rw[List.length_append,List.length_append,h.len];rfl,?_,fun n q so' e m=> ?_⟩
 ·refine List.nodup_append.mpr ⟨h.nd,by simp,fun a ha b hb=> ?_⟩
  have hb':b=p:=by simpa using hb
  obtain ⟨n,hn,e⟩:=List.getElem_of_mem ha
  obtain ⟨u,z⟩:=h.there (n:=n) (p:=a) (by rw[List.getElem?_eq_getElem hn,e])
  rw[hb']
  exact Z9 z hp
 ·by_cases hn:n < α.length
  ·rw[List.getElem?_append_left hn] at e
   rw[List.getElem?_append_left (by rw[<- h.len];exact hn)] at m
   obtain ⟨u,hu⟩:=h.there e
   exact (h.ob n q so' e m).mono ex (ZJ (Z9 hu hp))
  ·have en:n=α.length:=by
    have:n < (α ++ [p]).length:=(List.getElem?_eq_some_iff.mp e).1
    rw[List.length_append,List.length_singleton] at this
    omega
   subst en
   rw[List.getElem?_append_right (Nat.le_refl _),Nat.sub_self] at e
   rw[h.len,List.getElem?_append_right (Nat.le_refl _),Nat.sub_self] at m
   cases e
   cases m
   exact r
theorem HR.new {M:Sto} {p:Addr} {xs:List V} {ds:List D} (h:HR K H α M) (hp:H p=none) (r:Reps K H α xs ds):HR K (upd H p (.lst xs)) (α ++ [p]) (M ++ [.lst ds]):=
 h.newO hp (.inl ⟨xs,Zr,Reps.mono (Ext.new hp) r⟩)
theorem ZiU {n m:Nat} {p:Addr} (h:α.Nodup) (a:α[n]?=some p) (b:α[m]?=some p):n=m:=by
 obtain ⟨h1,e1⟩:=List.getElem?_eq_some_iff.mp a
 obtain ⟨h2,e2⟩:=List.getElem?_eq_some_iff.mp b
 exact (List.getElem_inj h).mp (e1.trans e2.symm)
theorem HR.wrO {M:Sto} {n:Nat} {p:Addr} {o:HO} {so:SO} (h:HR K H α M) (e:α[n]?=some p) (ex:Ext K H (upd H p o) α α) (r:SOk K (upd H p o) α p so):HR K (upd H p o) α (M.set n so):=by
 have hn:n < M.length:=by rw[<- h.len];exact (List.getElem?_eq_some_iff.mp e).1
 refine ⟨by rw[List.length_set];exact h.len,h.nd,fun k q so' e' m=> ?_⟩
 by_cases hk:k=n
 ·subst hk
  rw[e] at e'
  cases e'
  rw[List.getElem?_set_self hn] at m
  cases m
  exact r
 ·rw[List.getElem?_set_ne (Ne.symm hk)] at m
  have hq:q≠p:=fun z=>hk (ZiU h.nd (z ▸ e') e)
  exact (h.ob k q so' e' m).mono ex (ZJ hq)
theorem HR.wr {M:Sto} {n:Nat} {p:Addr} {xs ys:List V} {ds:List D} (h:HR K H α M) (e:RefK H α 0 n p) (hp:H p=some (.lst ys)) (r:Reps K H α xs ds):HR K (upd H p (.lst xs)) α (M.set n (.lst ds)):=
 h.wrO e.at' (Ext.wr hp) (.inl ⟨xs,Zr,Reps.mono (Ext.wr hp) r⟩)
end
inductive Out (β:Type) where
 |ok (a:β) (M:Sto)
 |exc (c:Str) (M:Sto)
 |bad
noncomputable def Out.bind {β γ:Type} (o:Out β) (f:β->Sto->Out γ):Out γ:=match o with
 | .ok a M=>f a M
 | .exc c M=> .exc c M
 | .bad=> .bad
inductive Fl where
 |nx (ρ:Ro) (M:Sto)
 |ret (d:D) (M:Sto)
 |brk (ρ:Ro) (M:Sto)
 |cnt (ρ:Ro) (M:Sto)
 |exc (c:Str) (M:Sto)
 |bad
noncomputable def OG {β γ:Type} (K:PySem.W.Frag) (R:Hp->List Addr->γ->β->Prop) (H:Hp) (α:List Addr) (ξ:XK) (Q:γ->Hp->Prop):Out β->Prop
 | .ok d M'=> ∀ v H' α',Ext K H H' α α'->HR K H' α' M'->R H' α' v d->Q v H'
 | .exc c M'=> ∀ C H' α',PySem.W.nsIn K mainGlobals c=some (some (.ref C))->Ext K H H' α α'->HR K H' α' M'->ξ (.ref C) none H'
 | .bad=>False
theorem OG.ext {β γ:Type} {K:PySem.W.Frag} {R:Hp->List Addr->γ->β->Prop} {H H1:Hp} {α α1:List Addr} {ξ:XK} {Q:γ->Hp->Prop} {o:Out β} (h:OG K R H α ξ Q o) (e:Ext K H H1 α α1):OG K R H1 α1 ξ Q o:=by
 cases o with
 |ok d M'=>exact fun v H' α' e'=>h v H' α' (e.trans e')
 |exc c M'=>exact fun C H' α' n e'=>h C H' α' n (e.trans e')
 |bad=>exact h
noncomputable abbrev OP (K:PySem.W.Frag):=OG K (Rep K)
noncomputable abbrev OT (K:PySem.W.Frag):=OG (β:=Bool) (γ:=Bool) K (fun _ _ v d=>v=d)
noncomputable abbrev OA (K:PySem.W.Frag):=OG K (Reps K)
noncomputable def SR (K:PySem.W.Frag) (H:Hp) (α:List Addr) (σ:L2.St) (ρ:Ro):Prop:=σ.length=ρ.length/\ ∀ (i:Nat) (d:D),ρ[i]?=some (some d)-> ∃ v,σ[i]?=some (some v)/\Rep K H α v d
theorem SR.mono {K:PySem.W.Frag} {H H':Hp} {α α':List Addr} {σ:L2.St} {ρ:Ro} (h:SR K H α σ ρ) (e:Ext K H H' α α'):SR K H' α' σ ρ:=
 ⟨h.1,fun i d q=>let ⟨v,a,b⟩:=h.2 i d q;⟨v,a,Rep.mono e b⟩⟩
theorem SR.set {K:PySem.W.Frag} {H:Hp} {α:List Addr} {σ:L2.St} {ρ:Ro} {v:V} {d:D} (h:SR K H α σ ρ) (i:Nat) (r:Rep K H α v d):SR K H α (σ.set i (some v)) (ρ.set i (some d)):=by
 refine ⟨by rw[List.length_set,List.length_set];exact h.1,fun j e q=> ?_⟩
 by_cases hj:j=i
 ·subst hj
  have hl:j < ρ.length:=by
   have:=(List.getElem?_eq_some_iff.mp q).1
   rw[List.length_set] at this
   exact this
  rw[List.getElem?_set_self hl] at q
  cases q
  exact ⟨v,by rw[List.getElem?_set_self (by rw[h.1];exact hl)],r⟩
 ·rw[List.getElem?_set_ne (Ne.symm hj)] at q
  rw[List.getElem?_set_ne (Ne.symm hj)]
  exact h.2 j e q
noncomputable abbrev Ev:=Ro->Sto->Out D
noncomputable abbrev Tv:=Ro->Sto->Out Bool
noncomputable abbrev Av:=Ro->Sto->Out (List D)
noncomputable abbrev Sv:=Ro->Sto->Fl
noncomputable def DE (X:Cx) (ξ:XK) (e:Expr) (f:Ev):Prop:= ∃ t:TE,PE X e t/\ ∀ σ ρ H α M Q,SR X.K H α σ ρ->HR X.K H α M->OP X.K H α ξ Q (f ρ M)->t σ H Q
noncomputable def DT (X:Cx) (ξ:XK) (e:Expr) (f:Tv):Prop:= ∃ t:TT,PT X e t/\ ∀ σ ρ H α M Q,SR X.K H α σ ρ->HR X.K H α M->OT X.K H α ξ Q (f ρ M)->t σ H Q
noncomputable def DW (X:Cx) (ξ:XK) (e:Expr) (f:Tv):Prop:= ∃ t:TT,PW X e t/\ ∀ σ ρ H α M Q,SR X.K H α σ ρ->HR X.K H α M->OT X.K H α ξ Q (f ρ M)->t σ H Q
noncomputable def DA (X:Cx) (ξ:XK) (es:List Expr) (f:Av):Prop:= ∃ t:TA,PA X es t/\ ∀ σ ρ H α M Q,SR X.K H α σ ρ->HR X.K H α M->OA X.K H α ξ Q (f ρ M)->t σ H Q
theorem OG.seq {β γ β' γ':Type} {K:PySem.W.Frag} {R:Hp->List Addr->γ->β->Prop} {R':Hp->List Addr->γ'->β'->Prop} {H:Hp} {α:List Addr} {ξ:XK} {Q:γ'->Hp->Prop} {Q1:γ->Hp->Prop} {o:Out β} {f:β->Sto->Out β'}
  (h:OG K R' H α ξ Q (o.bind f)) (k: ∀ d M' v H' α',Ext K H H' α α'->HR K H' α' M'->R H' α' v d->OG K R' H' α' ξ Q (f d M')->Q1 v H'):OG K R H α ξ Q1 o:=by
 cases o with
 |ok d M'=>exact fun v H' α' e hr r=>k d M' v H' α' e hr r (OG.ext (o:=f d M') h e)
 |exc c M'=>exact h
 |bad=>exact h
section
variable {X:Cx} {ξ:XK} {a b e:Expr} {fa fb:Ev} {pos:Pos}
noncomputable def Zd (i:Nat):Ev:=fun ρ M=>match ρ[i]? with | some (some d)=> .ok d M | _=> .bad
noncomputable def eC (d:D):Ev:=fun _ M=> .ok d M
theorem Za (i:Nat) {x:Str} (hN:X.N[i]?=some x:=by rfl) (hv:Vis X.env.scope x:=by first | exact Or.inl rfl | exact Or.inr (Or.inl rfl) | exact Or.inr (Or.inr rfl)) (hd:(x == ("__debug__":Str))=false:=by decide)
  (hcd:(x == ("__classdict__":Str))=false:=by decide):DE X ξ (.Name x pos) (Zd i):=by
 refine ⟨_,Zmq hN hv hd hcd,fun σ ρ H α M Q s h q=> ?_⟩
 unfold Zd at q
 cases e:ρ[i]? with
 |none=>rw[e] at q;exact q.elim
 |some o=>
  cases o with
  |none=>rw[e] at q;exact q.elim
  |some d=>
   rw[e] at q
   obtain ⟨v,h1,h2⟩:=s.2 i d e
   exact ⟨v,h1,q v H α Ext.refl h h2⟩
theorem Ze {i:Int} {j pos}:DE X ξ (.Constant (.int i) j pos) (eC (.int i)):=⟨_,ZgF,fun _ _ H α M _ _ h q=>q _ H α Ext.refl h (.int i)⟩
theorem ZkX {i:Bool} {j pos}:DE X ξ (.Constant (.bool i) j pos) (eC (.bl i)):=⟨_,ZpW,fun _ _ H α M _ _ h q=>q _ H α Ext.refl h (.bl i)⟩
theorem Zd6 {j pos}:DE X ξ (.Constant .none j pos) (eC .non):=⟨_,Zmr,fun _ _ H α M _ _ h q=>q _ H α Ext.refl h .non⟩
theorem Zd7 {x:Str} {j pos}:DE X ξ (.Constant (.str x) j pos) (eC (.str x)):=⟨_,Zms,fun _ _ H α M _ _ h q=>q _ H α Ext.refl h (.str x)⟩
noncomputable abbrev Bo:=D->D->Sto->Out D
noncomputable def e2 (f:Bo) (fa fb:Ev):Ev:=fun ρ M=>(fa ρ M).bind fun x M1=>(fb ρ M1).bind fun y M2=>f x y M2
noncomputable def BO (X:Cx) (ξ:XK) (r:R2) (f:Bo):Prop:= ∀ H α M v w x y Q,HR X.K H α M->Rep X.K H α v x->Rep X.K H α w y->OP X.K H α ξ Q (f x y M)->r v w H Q
theorem two {r:R2} {f:Bo} (hb:BO X ξ r f) {ta tb:TE} (qa: ∀ σ ρ H α M Q,SR X.K H α σ ρ->HR X.K H α M->OP X.K H α ξ Q (fa ρ M)->ta σ H Q)
  (qb: ∀ σ ρ H α M Q,SR X.K H α σ ρ->HR X.K H α M->OP X.K H α ξ Q (fb ρ M)->tb σ H Q): ∀ σ ρ H α M Q,SR X.K H α σ ρ->HR X.K H α M->OP X.K H α ξ Q (e2 f fa fb ρ M)->tOp r ta tb σ H Q:=by
 intro σ ρ H α M Q s h q
 refine qa σ ρ H α M _ s h (OG.seq q fun x M1 v H1 α1 e1 h1 r1 q1=> ?_)
 refine qb σ ρ H1 α1 M1 _ (s.mono e1) h1 (OG.seq q1 fun y M2 w H2 α2 e2 h2 r2 q2=> ?_)
 exact hb H2 α2 M2 v w x y Q h2 (Rep.mono e2 r1) r2 q2
theorem ZfY {op:Operator} {r:R2} {f:Bo} (ho:OpR X (binaryOp op) r) (hf:BO X ξ r f) (ha:DE X ξ a fa) (hb:DE X ξ b fb):DE X ξ (.BinOp a op b pos) (e2 f fa fb):=by
 obtain ⟨ta,ha,qa⟩:=ha
 obtain ⟨tb,hb,qb⟩:=hb
 exact ⟨_,Zp2 ho ha hb,two hf qa qb⟩
theorem ZmS {op:CmpOp} {r:R2} {f:Bo} (ho:OpR X (compareOp op) r) (hf:BO X ξ r f) (ha:DE X ξ a fa) (hb:DE X ξ b fb) (hm:behindInMarks op b=false:=by first | exact ZjK _ | with_unfolding_all rfl):DE X ξ (.Compare a [op] [b] pos) (e2 f fa fb):=by
 obtain ⟨ta,ha,qa⟩:=ha
 obtain ⟨tb,hb,qb⟩:=hb
 exact ⟨_,ZkI ho ha hb hm,two hf qa qb⟩
noncomputable def tv (f:Ev):Tv:=fun ρ M=>(f ρ M).bind fun x M1=>match x with | .bl k=> .ok k M1 | _=> .bad
theorem Zg0 {t:TE} {f:Ev} (qa: ∀ σ ρ H α M Q,SR X.K H α σ ρ->HR X.K H α M->OP X.K H α ξ Q (f ρ M)->t σ H Q): ∀ σ ρ H α M Q,SR X.K H α σ ρ->HR X.K H α M->OT X.K H α ξ Q (tv f ρ M)->ZkJ t σ H Q:=by
 intro σ ρ H α M Q s h q
 refine qa σ ρ H α M _ s h (OG.seq q fun x M1 v H1 α1 e1 h1 r1 q1=> ?_)
 cases r1 with
 |bl k=>exact ⟨k,rfl,q1 k H1 α1 Ext.refl h1 rfl⟩
 |_=>exact q1.elim
theorem ZO {op:CmpOp} {r:R2} {f:Bo} (ho:OpR X (compareOp op) r) (hf:BO X ξ r f) (ha:DE X ξ a fa) (hb:DE X ξ b fb) (hm:behindInMarks op b=false:=by first | exact ZjK _ | with_unfolding_all rfl):DT X ξ (.Compare a [op] [b] pos) (tv (e2 f fa fb)):=by
 obtain ⟨ta,ha,qa⟩:=ha
 obtain ⟨tb,hb,qb⟩:=hb
 exact ⟨_,ZkK ho ha hb hm,Zg0 (two hf qa qb)⟩
theorem ZjP (h:DE X ξ e fa) (he: ∀ whole,isTrue e X.env whole=(do let v <- whole;standAt e.pos;holding [v] (truthy v)):=by intro _;rfl):DT X ξ e (tv fa):=by
 obtain ⟨ta,ha,qa⟩:=h
 exact ⟨_,Zmt ha he,Zg0 qa⟩
variable {ga gb:Tv} {rest:List Expr}
noncomputable def ZiV (f g:Tv):Tv:=fun ρ M=>(f ρ M).bind fun k M1=>if k=true then g ρ M1 else .ok false M1
noncomputable def ZiW (f g:Tv):Tv:=fun ρ M=>(f ρ M).bind fun k M1=>if k=true then .ok true M1 else g ρ M1
noncomputable def ZfZ (f:Tv):Tv:=fun ρ M=>(f ρ M).bind fun k M1=> .ok (!k) M1
theorem ZkY (ha:DT X ξ a ga):DW X ξ (.BoolOp .And [a] pos) ga:=let ⟨_,h,q⟩:=ha;⟨_,pw_and1 h,q⟩
theorem Zg7 (ha:DT X ξ a ga):DW X ξ (.BoolOp .Or [a] pos) ga:=let ⟨_,h,q⟩:=ha;⟨_,pw_or1 h,q⟩
theorem ZmT (ha:DT X ξ a ga) (hb:DW X ξ (.BoolOp .And (b :: rest) pos) gb):DW X ξ (.BoolOp .And (a :: b :: rest) pos) (ZiV ga gb):=by
 obtain ⟨ta,ha,qa⟩:=ha
 obtain ⟨tb,hb,qb⟩:=hb
 refine ⟨_,pw_and ha hb,fun σ ρ H α M Q s h q=> ?_⟩
 refine qa σ ρ H α M _ s h (OG.seq q fun k M1 v H1 α1 e1 h1 r1 q1=> ?_)
 cases r1
 cases k with
 |true=>exact ZiQ (qb σ ρ H1 α1 M1 Q (s.mono e1) h1 q1)
 |false=>exact ZiP (q1 false H1 α1 Ext.refl h1 rfl)
theorem Zg8 (ha:DT X ξ a ga) (hb:DW X ξ (.BoolOp .Or (b :: rest) pos) gb):DW X ξ (.BoolOp .Or (a :: b :: rest) pos) (ZiW ga gb):=by
 obtain ⟨ta,ha,qa⟩:=ha
 obtain ⟨tb,hb,qb⟩:=hb
 refine ⟨_,pw_or ha hb,fun σ ρ H α M Q s h q=> ?_⟩
 refine qa σ ρ H α M _ s h (OG.seq q fun k M1 v H1 α1 e1 h1 r1 q1=> ?_)
 cases r1
 cases k with
 |true=>exact ZiQ (q1 true H1 α1 Ext.refl h1 rfl)
 |false=>exact ZiP (qb σ ρ H1 α1 M1 Q (s.mono e1) h1 q1)
theorem ZpJ (h:DW X ξ e ga):DT X ξ e ga:=let ⟨_,h,q⟩:=h;⟨_,h.pt,q⟩
theorem ZjQ (ha:DT X ξ a ga):DT X ξ (.UnaryOp .Not a pos) (ZfZ ga):=by
 obtain ⟨ta,ha,qa⟩:=ha
 refine ⟨_,Zmu ha,fun σ ρ H α M Q s h q=> ?_⟩
 refine qa σ ρ H α M _ s h (OG.seq q fun k M1 v H1 α1 e1 h1 r1 q1=> ?_)
 cases r1
 exact q1 (!k) H1 α1 Ext.refl h1 rfl
noncomputable def Zf0 (f g:Ev):Ev:=fun ρ M=>(f ρ M).bind fun x M1=>match x with | .bl k=>if k=true then g ρ M1 else .ok (.bl false) M1 | _=> .bad
noncomputable def Zsg (f g:Ev):Ev:=fun ρ M=>(f ρ M).bind fun x M1=>match x with | .bl k=>if k=true then .ok (.bl true) M1 else g ρ M1 | _=> .bad
noncomputable def ZmU (f:Ev):Ev:=fun ρ M=>(f ρ M).bind fun x M1=>match x with | .bl k=> .ok (.bl (!k)) M1 | _=> .bad
noncomputable def eIf (c:Tv) (f g:Ev):Ev:=fun ρ M=>(c ρ M).bind fun k M1=>if k=true then f ρ M1 else g ρ M1
theorem Zqa {c:Expr} (hc:DT X ξ c ga) (ha:DE X ξ a fa) (hb:DE X ξ b fb):DE X ξ (.IfExp c a b pos) (eIf ga fa fb):=by
 obtain ⟨tc,hc,qc⟩:=hc
 obtain ⟨ta,ha,qa⟩:=ha
 obtain ⟨tb,hb,qb⟩:=hb
 refine ⟨_,ZiA hc ha hb,fun σ ρ H α M Q s h q=> ?_⟩
 refine qc σ ρ H α M _ s h (OG.seq q fun k M1 v H1 α1 e1 h1 r1 q1=> ?_)
 cases r1
 cases k with
 |true=>exact ZiQ (qa σ ρ H1 α1 M1 Q (s.mono e1) h1 q1)
 |false=>exact ZiP (qb σ ρ H1 α1 M1 Q (s.mono e1) h1 q1)
variable {es:List Expr} {fs:Av}
noncomputable def aNil:Av:=fun _ M=> .ok [] M
noncomputable def Zc (f:Ev) (g:Av):Av:=fun ρ M=>(f ρ M).bind fun x M1=>(g ρ M1).bind fun xs M2=> .ok (x :: xs) M2
theorem Zf:DA X ξ [] aNil:=⟨_,ZjM,fun _ _ H α M _ _ h q=>q _ H α Ext.refl h .nil⟩
theorem Zb (ha:DE X ξ e fa) (hr:DA X ξ es fs) (hs:starEach (e :: es) X.env=(false,eval e X.env) :: starEach es X.env:=by rfl):DA X ξ (e :: es) (Zc fa fs):=by
 obtain ⟨ta,ha,qa⟩:=ha
 obtain ⟨tb,hb,qb⟩:=hr
 refine ⟨_,ZeM ha hb hs,fun σ ρ H α M Q s h q=> ?_⟩
 refine qa σ ρ H α M _ s h (OG.seq q fun x M1 v H1 α1 e1 h1 r1 q1=> ?_)
 refine qb σ ρ H1 α1 M1 _ (s.mono e1) h1 (OG.seq q1 fun y M2 w H2 α2 e2 h2 r2 q2=> ?_)
 exact q2 _ H2 α2 Ext.refl h2 (.cons (Rep.mono e2 r1) r2)
noncomputable def Zal (f:Av):Ev:=fun ρ M=>(f ρ M).bind fun xs M1=>if xs.length<=1000 then .ok (.tup xs) M1 else .bad
noncomputable def Zc5 (f:Av):Ev:=fun ρ M=>(f ρ M).bind fun xs M1=>if xs.length<=1000 then .ok (.ref M1.length) (M1 ++ [.lst xs]) else .bad
theorem ZkZ {n:Nat} (h:n<=1000):n<=sizeLine:=Nat.le_of_lt (ZgX h)
theorem ZF {x1} (ha:DA X ξ es fs):DE X ξ (.Tuple es x1 pos) (Zal fs):=by
 obtain ⟨ta,ha,qa⟩:=ha
 refine ⟨_,ZmG ha,fun σ ρ H α M Q s h q=> ?_⟩
 refine qa σ ρ H α M _ s h (OG.seq q fun xs M1 vs H1 α1 e1 h1 r1 q1=> ?_)
 by_cases hl:xs.length<=1000
 ·rw[if_pos hl] at q1
  refine ⟨by rw[r1.length];exact ZkZ hl,fun p hp=>q1 _ _ α1 (Ext.new0 hp) (h1.tup hp) (.tup Zr (Reps.mono (Ext.new0 hp) r1))⟩
 ·rw[if_neg hl] at q1
  exact q1.elim
theorem HR.last {K:PySem.W.Frag} {H:Hp} {α:List Addr} {M:Sto} (h:HR K H α M) (p:Addr):(α ++ [p])[M.length]?=some p:=by
 rw[<- h.len,List.getElem?_append_right (Nat.le_refl _),Nat.sub_self]
 rfl
theorem ZbO (ha:DA X ξ es fs):DE X ξ (.List es pos) (Zc5 fs):=by
 obtain ⟨ta,ha,qa⟩:=ha
 refine ⟨_,ZmH ha,fun σ ρ H α M Q s h q=> ?_⟩
 refine qa σ ρ H α M _ s h (OG.seq q fun xs M1 vs H1 α1 e1 h1 r1 q1=> ?_)
 by_cases hl:xs.length<=1000
 ·rw[if_pos hl] at q1
  refine ⟨by rw[r1.length];exact ZkZ hl,fun p hp=>q1 _ _ (α1 ++ [p]) (Ext.new hp) (h1.new hp r1) (.ref ⟨h1.last p,Kn.lst Zr⟩)⟩
 ·rw[if_neg hl] at q1
  exact q1.elim
end
end DL
end
section
namespace DL
open PySem PySem.Spec PyProof.Rows L2
open PySem.SeqAt (EqAt RcAt RcNeAt)
noncomputable def Z3 (i j:Int):Prop:=Builtin.Int.intBits i<=64\/Builtin.Int.intBits j<=64\/(Builtin.Int.intBits i<=60000000/\Builtin.Int.intBits j<=60000000)
noncomputable instance (i j:Int):Decidable (Z3 i j):=by unfold Z3;infer_instance
theorem Z3.ok {i j:Int} (h:Z3 i j):IntMulOk i j:=by
 rcases h with h | h | ⟨h1,h2⟩
 ·exact .of_left h
 ·exact .of_right h
 ·exact .of_le h1 h2 (by decide)
theorem Zf1 {i j:Int} (m n:Nat) (h1:i.natAbs < 2 ^ m) (h2:j.natAbs < 2 ^ n) (hm:m<=60000000:=by decide) (hn:n<=60000000:=by decide):Z3 i j:=
 .inr (.inr ⟨Nat.le_trans (intBits_le_iff.mpr h1) hm,Nat.le_trans (intBits_le_iff.mpr h2) hn⟩)
noncomputable def Zbb (j:Int):Prop:=j≠0/\j.natAbs.log2 < 9000
noncomputable instance (j:Int):Decidable (Zbb j):=by unfold Zbb;infer_instance
section
variable {X:Cx}
theorem Zk0:OpR X (binaryOp .Mult) (rI Z3 fun i j=> .int (i * j)):=opI fun _ _ _ _ _ _ _ hc q=>mul_int q hc.ok
theorem ZiX:OpR X (binaryOp .FloorDiv) (rI (fun _ j=>Zbb j) fun i j=> .int (i.fdiv j)):=opI fun _ _ _ _ _ _ _ hc q=>floordiv_int hc.1 q (.inl (PyProof.noPylong_of_log2 hc.2))
end
noncomputable def dAdd:Bo:=fun x y M=>match x,y with
 | .int i,.int j=> .ok (.int (i + j)) M
 | .str i,.str j=>if i.length + j.length<=100000 then .ok (.str (i ++ j)) M else .bad
 | .ref n,.ref m=>match M[n]?,M[m]? with
  |some (.lst xs),some (.lst ys)=>if xs.length + ys.length<=10000000 then .ok (.ref M.length) (M ++ [.lst (xs ++ ys)]) else .bad
  |_,_=> .bad
 | .tup xs,.tup ys=>if xs.length + ys.length<=100000/\xs≠[] then .ok (.tup (xs ++ ys)) M else .bad
 |_,_=> .bad
noncomputable def dSub:Bo:=fun x y M=>match x,y with | .int i,.int j=> .ok (.int (i - j)) M | _,_=> .bad
noncomputable def dMul:Bo:=fun x y M=>match x,y with | .int i,.int j=>if Z3 i j then .ok (.int (i * j)) M else .bad | _,_=> .bad
noncomputable def dDiv:Bo:=fun x y M=>match x,y with | .int i,.int j=>if Zbb j then .ok (.int (i.fdiv j)) M else .bad | _,_=> .bad
noncomputable def dMod:Bo:=fun x y M=>match x,y with | .int i,.int j=>if j≠0 then .ok (.int (i.fmod j)) M else .bad | _,_=> .bad
noncomputable def dPow:Bo:=fun x y M=>match x,y with | .int i,.int j=>if 0<=j/\j<=1000000/\i.natAbs < 2 ^ 64 then .ok (.int (i ^ j.toNat)) M else .bad | _,_=> .bad
noncomputable def dLt:Bo:=fun x y M=>match x,y with | .int i,.int j=> .ok (.bl (decide (i < j))) M | _,_=> .bad
noncomputable def dLe:Bo:=fun x y M=>match x,y with | .int i,.int j=> .ok (.bl (decide (i<=j))) M | _,_=> .bad
noncomputable def dGt:Bo:=fun x y M=>match x,y with | .int i,.int j=> .ok (.bl (decide (j < i))) M | _,_=> .bad
noncomputable def dGe:Bo:=fun x y M=>match x,y with | .int i,.int j=> .ok (.bl (decide (j<=i))) M | _,_=> .bad
theorem ZmV {n:Nat} (h:n<=100000):n<=sizeLine:=Nat.le_trans h (by decide)
section
variable {X:Cx} {ξ:XK}
theorem ZbY {r:R2} {f:Bo} {C:Int->Int->Prop} [∀ i j,Decidable (C i j)] {g:Int->Int->D} {gV:Int->Int->V} (hg: ∀ H α i j,Rep X.K H α (gV i j) (g i j))
  (hf: ∀ x y M,f x y M=match x,y with | .int i,.int j=>if C i j then .ok (g i j) M else .bad | _,_=> .bad) (hr: ∀ i j H Q,C i j->Q (gV i j) H->r (.int i) (.int j) H Q):BO X ξ r f:=by
 intro H α M v w x y Q h rv rw' q
 rw[hf] at q
 cases rv<;>first | exact q.elim | skip
 cases rw'<;>first | exact q.elim | skip
 rename_i i j
 by_cases c:C i j
 ·simp only[if_pos c] at q
  exact hr i j H Q c (q _ H α Ext.refl h (hg H α i j))
 ·simp only[if_neg c] at q
  exact q.elim
theorem ZmW:BO X ξ (rI0 fun i j=> .int (i - j)) dSub:=ZbY (C:=fun _ _=>True) (fun _ _ i j=> .int (i - j)) (fun x y M=>by cases x<;>cases y<;>simp[dSub]) fun i j H Q _ q=>⟨i,j,rfl,rfl,q⟩
theorem ZmX:BO X ξ (rI Z3 fun i j=> .int (i * j)) dMul:=ZbY (C:=Z3) (fun _ _ i j=> .int (i * j)) (fun x y M=>by cases x<;>cases y<;>rfl) fun i j H Q c q=>⟨i,j,rfl,rfl,c,q⟩
theorem ZmY:BO X ξ (rI (fun _ j=>Zbb j) fun i j=> .int (i.fdiv j)) dDiv:=ZbY (C:=fun _ j=>Zbb j) (fun _ _ i j=> .int (i.fdiv j)) (fun x y M=>by cases x<;>cases y<;>rfl) fun i j H Q c q=>⟨i,j,rfl,rfl,c,q⟩
theorem ZmZ:BO X ξ (rI (fun _ j=>j≠0) fun i j=> .int (i.fmod j)) dMod:=ZbY (C:=fun _ j=>j≠0) (fun _ _ i j=> .int (i.fmod j)) (fun x y M=>by cases x<;>cases y<;>rfl) fun i j H Q c q=>⟨i,j,rfl,rfl,c,q⟩
theorem Zm0:BO X ξ (rI Zsc fun i j=> .int (i ^ j.toNat)) dPow:=ZbY (C:=fun i j=>0<=j/\j<=1000000/\i.natAbs < 2 ^ 64) (fun _ _ i j=> .int (i ^ j.toNat)) (fun x y M=>by cases x<;>cases y<;>rfl) fun i j H Q c q=>⟨i,j,rfl,rfl,c,q⟩
theorem Zg9:BO X ξ (rI0 fun i j=> .bl (decide (i < j))) dLt:=ZbY (C:=fun _ _=>True) (fun _ _ i j=> .bl _) (fun x y M=>by cases x<;>cases y<;>simp[dLt]) fun i j H Q _ q=>⟨i,j,rfl,rfl,q⟩
theorem Zk1:BO X ξ (rI0 fun i j=> .bl (decide (i<=j))) dLe:=ZbY (C:=fun _ _=>True) (fun _ _ i j=> .bl _) (fun x y M=>by cases x<;>cases y<;>simp[dLe]) fun i j H Q _ q=>⟨i,j,rfl,rfl,q⟩
theorem Zqb:BO X ξ (rI0 fun i j=> .bl (decide (j < i))) dGt:=ZbY (C:=fun _ _=>True) (fun _ _ i j=> .bl _) (fun x y M=>by cases x<;>cases y<;>simp[dGt]) fun i j H Q _ q=>⟨i,j,rfl,rfl,q⟩
theorem Zqc:BO X ξ (rI0 fun i j=> .bl (decide (j<=i))) dGe:=ZbY (C:=fun _ _=>True) (fun _ _ i j=> .bl _) (fun x y M=>by cases x<;>cases y<;>simp[dGe]) fun i j H Q _ q=>⟨i,j,rfl,rfl,q⟩
theorem Zk2:OpR X (binaryOp .Add) (fun x y H Q=>(rI0 (fun i j=> .int (i + j)) x y H Q\/(∃ i j,x= .str i/\y= .str j/\i.length + j.length<=sizeLine/\Q (.str (i ++ j)) H))\/(rCat x y H Q\/ZkP X.K x y H Q)):=
 OpR.or (OpR.or ZmD ZfU) (OpR.or ZmO ZkQ)
theorem Zm1:BO X ξ (fun x y H Q=>(rI0 (fun i j=> .int (i + j)) x y H Q\/(∃ i j,x= .str i/\y= .str j/\i.length + j.length<=sizeLine/\Q (.str (i ++ j)) H))\/(rCat x y H Q\/ZkP X.K x y H Q)) dAdd:=by
 intro H α M v w x y Q h rv rw' q
 unfold dAdd at q
 split at q
 ·rename_i i j
  cases rv
  cases rw'
  exact .inl (.inl ⟨i,j,rfl,rfl,q _ H α Ext.refl h (.int (i + j))⟩)
 ·rename_i i j
  cases rv
  cases rw'
  split at q
  ·rename_i c
   exact .inl (.inr ⟨i,j,rfl,rfl,ZmV c,q _ H α Ext.refl h (.str _)⟩)
  ·exact q.elim
 ·rename_i n m
  cases rv with
  | @ref p _ hp=>
   cases rw' with
   | @ref p2 _ hp2=>
    split at q
    ·rename_i ds ds2 e1 e2
     split at q
     ·rename_i c
      obtain ⟨xs,g1,r1⟩:=h.at hp e1
      obtain ⟨ys,g2,r2⟩:=h.at hp2 e2
      refine .inr (.inl ⟨p,p2,xs,ys,rfl,rfl,g1,g2,by rw[r1.length,r2.length];exact Nat.le_trans c (by decide),fun l hl=> ?_⟩)
      exact q _ _ (α ++ [l]) (Ext.new hl) (h.new hl (r1.append r2)) (.ref ⟨h.last l,Kn.lst Zr⟩)
     ·exact q.elim
    ·exact q.elim
 ·rename_i ds ds2
  cases rv with
  | @tup p xs _ hp rp=>
   cases rw' with
   | @tup p2 xs2 _ hp2 rp2=>
    split at q
    ·rename_i c
     have nx:xs≠[]:=fun z=>c.2 (by have:=rp.length;rw[z] at this;exact List.eq_nil_of_length_eq_zero this.symm)
     refine .inr (.inr ⟨p,p2,xs,xs2,rfl,rfl,(SqT.of hp),(SqT.of hp2),nx,by rw[rp.length,rp2.length];exact ZmV c.1,fun z=> ?_,fun _ l hl=> ?_⟩)
     ·subst z
      cases rp2
      rw[List.append_nil] at q
      exact q _ H α Ext.refl h (.tup hp rp)
     ·exact q _ _ α (Ext.new0 hl) (h.tup hl) (.tup Zr (Reps.mono (Ext.new0 hl) (rp.append rp2)))
    ·exact q.elim
 ·exact q.elim
variable {a b e:Expr} {fa fb:Ev} {pos:Pos}
theorem Zab (ha:DE X ξ a fa) (hb:DE X ξ b fb):DE X ξ (.BinOp a .Add b pos) (e2 dAdd fa fb):=ZfY Zk2 Zm1 ha hb
theorem Z5 (ha:DE X ξ a fa) (hb:DE X ξ b fb):DE X ξ (.BinOp a .Sub b pos) (e2 dSub fa fb):=ZfY ZmE ZmW ha hb
theorem Z1 (ha:DE X ξ a fa) (hb:DE X ξ b fb):DE X ξ (.BinOp a .Mult b pos) (e2 dMul fa fb):=ZfY Zk0 ZmX ha hb
theorem ZaW (ha:DE X ξ a fa) (hb:DE X ξ b fb):DE X ξ (.BinOp a .FloorDiv b pos) (e2 dDiv fa fb):=ZfY ZiX ZmY ha hb
theorem ZaB (ha:DE X ξ a fa) (hb:DE X ξ b fb):DE X ξ (.BinOp a .Mod b pos) (e2 dMod fa fb):=ZfY ZkG ZmZ ha hb
theorem Zde (ha:DE X ξ a fa) (hb:DE X ξ b fb):DE X ξ (.BinOp a .Pow b pos) (e2 dPow fa fb):=ZfY ZmF Zm0 ha hb
noncomputable def Zcm (f:Ev):Ev:=fun ρ M=>(f ρ M).bind fun x M1=>match x with | .int i=> .ok (.int (-i)) M1 | _=> .bad
theorem ZaX (ha:DE X ξ a fa):DE X ξ (.UnaryOp .USub a pos) (Zcm fa):=by
 obtain ⟨ta,ha,qa⟩:=ha
 refine ⟨_,ZmC ZjJ ha,fun σ ρ H α M Q s h q=> ?_⟩
 refine qa σ ρ H α M _ s h (OG.seq q fun x M1 v H1 α1 e1 h1 r1 q1=> ?_)
 cases r1 with
 |int i=>exact ⟨i,rfl,q1 _ H1 α1 Ext.refl h1 (.int (-i))⟩
 |_=>exact q1.elim
noncomputable def atD (xs:List D) (i:Int) (M:Sto):Out D:=match atI xs i with | some d=> .ok d M | none=> .bad
noncomputable def dIx:Bo:=fun x y M=>match x,y with
 | .tup xs,.int i=>atD xs i M
 | .rol xs,.int i=>atD xs i M
 | .ref n,.int i=>match M[n]? with | some (.lst xs)=>atD xs i M | _=> .bad
 |_,_=> .bad
theorem Reps.atI {K:PySem.W.Frag} {H:Hp} {α:List Addr} {vs:List V} {ds:List D} {i:Int} {d:D} (r:Reps K H α vs ds) (h:L2.atI ds i=some d): ∃ v,L2.atI vs i=some v/\Rep K H α v d:=by
 unfold L2.atI at h ⊢
 rw[r.length]
 cases e:ixN ds.length i with
 |none=>rw[e] at h;cases h
 |some j=>
  rw[e] at h
  exact r.get h
theorem Zqd:BO X ξ (fun x y H Q=>Zsd X.K x y H Q\/Zse X.K x y H Q) dIx:=by
 intro H α M v w x y Q h rv rw' q
 have at': ∀ {ds:List D} {i:Int},OP X.K H α ξ Q (atD ds i M)-> ∃ d,L2.atI ds i=some d/\OP X.K H α ξ Q (.ok d M):=fun {ds i} q=>by
  unfold atD at q
  cases e:L2.atI ds i with
  |none=>rw[e] at q;exact q.elim
  |some d=>rw[e] at q;exact ⟨d,rfl,q⟩
 unfold dIx at q
 split at q
 ·rename_i ds i
  cases rw'
  cases rv with
  | @tup p xs _ hp rp=>
   obtain ⟨d,e,q⟩:=at' q
   obtain ⟨v,h1,h2⟩:=rp.atI e
   exact .inr ⟨p,xs,i,v,rfl,rfl,(SqT.of hp),h1,q v H α Ext.refl h h2⟩
 ·rename_i ds i
  cases rw'
  cases rv with
  | @rol p xs _ hp rp=>
   obtain ⟨d,e,q⟩:=at' q
   obtain ⟨v,h1,h2⟩:=rp.atI e
   exact .inl ⟨p,xs,i,v,rfl,rfl,hp.sq,h1,q v H α Ext.refl h h2⟩
 ·rename_i n i
  cases rw'
  cases rv with
  | @ref p _ hp=>
   split at q
   ·rename_i ds e1
    obtain ⟨d,e,q⟩:=at' q
    obtain ⟨xs,g1,r1⟩:=h.at hp e1
    obtain ⟨v,h1,h2⟩:=r1.atI e
    exact .inl ⟨p,xs,i,v,rfl,rfl,SqL.of g1,h1,q v H α Ext.refl h h2⟩
   ·exact q.elim
 ·exact q.elim
theorem ZH (ha:DE X ξ a fa) (hb:DE X ξ b fb) (hs:ZgT b:=by exact fun _ _=>rfl):DE X ξ (.Subscript a b pos) (e2 dIx fa fb):=by
 obtain ⟨ta,ha,qa⟩:=ha
 obtain ⟨tb,hb,qb⟩:=hb
 exact ⟨_,Zp8 (IxR.or ZkS ZmL) ha hb hs,two Zqd qa qb⟩
end
inductive Kd where
 |non | bl (b:Bool) | int (i:Int) | str (x:Str) | tup (xs:List D) | lst (xs:List D)
noncomputable def kd (M:Sto):D->Option Kd
 | .non=>some .non
 | .bl b=>some (.bl b)
 | .int i=>some (.int i)
 | .str x=>some (.str x)
 | .tup xs=>some (.tup xs)
 | .rol xs=>some (.lst xs)
 | .con xs=>some (.tup xs)
 | .ref n=>match M[n]? with | some (.lst xs)=>some (.lst xs) | _=>none
 | .err _ _=>none
 | .dk _=>none
 | .dt _=>none
noncomputable def eqL (f:D->D->Option Bool):List D->List D->Option Bool
 | [],[]=>some true
 |x :: xs,y :: ys=>match f x y with | some a=>(match eqL f xs ys with | some b=>some (a && b) | none=>none) | none=>none
 |_,_=>some false
noncomputable def eqK (f:D->D->Option Bool):Kd->Kd->Option Bool
 | .non,.non=>some true
 | .bl a,.bl b=>some (a == b)
 | .bl a,.int b=>some ((if a then 1 else 0) == b)
 | .int a,.bl b=>some (a == (if b then 1 else 0))
 | .int a,.int b=>some (a == b)
 | .str a,.str b=>some (a == b)
 | .tup xs,.tup ys=>eqL f xs ys
 | .lst xs,.lst ys=>if xs.length=ys.length then eqL f xs ys else some false
 |_,_=>some false
noncomputable def eqF:Nat->Sto->D->D->Option Bool
 |0,_,_,_=>none
 |n + 1,M,x,y=>match kd M x,kd M y with | some a,some b=>eqK (eqF n M) a b | _,_=>none
inductive Vw (X:Cx) (H:Hp) (α:List Addr) (s:Shared):Kd->Value->Prop where
 |non:Vw X H α s .non .none
 |bl (b:Bool):Vw X H α s (.bl b) (.bool b)
 |int (i:Int) (t:Tok):Vw X H α s (.int i) (.int i t)
 |str (x:Str) (t:Tok):Vw X H α s (.str x) (.str x t)
 |tup {p:Addr} {xs:List V} {ds:List D} {its:List Value}:s.heap.IsTuple p its.toArray->ZW xs its->Reps X.K H α xs ds->Vw X H α s (.tup ds) (.ref p)
 |lst {p:Addr} {xs:List V} {ds:List D} {its:List Value}:s.heap.IsList p its.toArray->ZW xs its->Reps X.K H α xs ds->Vw X H α s (.lst ds) (.ref p)
section
variable {X:Cx} {ξ:XK} {pins:List (Addr × Obj)} {σ:L2.St} {H:Hp} {s:Shared} {α:List Addr} {M:Sto}
theorem vw (I:Inv X pins σ H s) (h:HR X.K H α M) {v:V} {x:D} {u:Value} {k:Kd} (r:Rep X.K H α v x) (ru:ZU v u) (e:kd M x=some k):Vw X H α s k u:=by
 cases r with
 |non=>cases e;cases ru;exact .non
 |bl b=>cases e;cases ru;exact .bl b
 |int i=>cases e;obtain ⟨t,rfl⟩:=ru;exact .int i t
 |str x=>cases e;obtain ⟨t,rfl⟩:=ru;exact .str x t
 |err _ _ _=>cases e
 |dk _=>cases e
 |dt _=>cases e
 | @tup p xs ds hp rp=>
  cases e;cases ru
  obtain ⟨its,h1,h2,_⟩:=I.tuple (SqT.of hp)
  exact .tup h2 h1 rp
 | @con p xs ds hp rp=>
  cases e;cases ru
  obtain ⟨its,h1,h2,_⟩:=I.tuple hp.sq
  exact .tup h2 h1 rp
 | @rol p xs ds hp rp=>
  cases e;cases ru
  obtain ⟨its,h1,h2,_⟩:=I.list hp.sq
  exact .lst h2.isList h1 rp
 | @ref p n hp=>
  cases ru
  cases e1:M[n]? with
  |none=>simp only[kd,e1] at e;cases e
  |some o=>
   cases o with
   |lst ds=>
    simp only[kd,e1] at e
    cases e
    obtain ⟨xs,g1,r1⟩:=h.at hp e1
    obtain ⟨its,h1,h2,_⟩:=I.list (SqL.of g1)
    exact .lst h2.isList h1 r1
noncomputable def Eq3 (A:Around) (s:Shared) (u z:Value) (b:Bool):Prop:=EqAt A s u z b/\RcAt A s u z b/\RcNeAt A s u z (!b)
theorem Zha {f:D->D->Option Bool}: ∀ {xs ys:List D} {b:Bool},eqL f xs ys=some b->
  (∀ (j:Nat) x y,xs[j]?=some x->ys[j]?=some y-> ∃ c,f x y=some c)/\
  b=((List.range (min xs.length ys.length)).all (fun j=>match xs[j]?,ys[j]? with | some x,some y=>(f x y).getD false | _,_=>false) && xs.length == ys.length)
 | [],[],b,e=>by
  simp only[eqL,Option.some.injEq] at e
  subst e
  exact ⟨fun j x y h=>(by simp at h),(by simp)⟩
 |x :: xs,[],b,e=>by
  simp only[eqL,Option.some.injEq] at e
  subst e
  exact ⟨fun j x y h1 h2=>(by simp at h2),(by simp)⟩
 | [],y :: ys,b,e=>by
  simp only[eqL,Option.some.injEq] at e
  subst e
  exact ⟨fun j x y h1 h2=>(by simp at h1),(by simp)⟩
 |x :: xs,y :: ys,b,e=>by
  cases e1:f x y with
  |none=>simp only[eqL,e1] at e;cases e
  |some a=>
   cases e2:eqL f xs ys with
   |none=>simp only[eqL,e1,e2] at e;cases e
   |some c=>
    simp only[eqL,e1,e2,Option.some.injEq] at e
    subst e
    obtain ⟨h1,h2⟩:=Zha e2
    refine ⟨fun j x' y' g1 g2=> ?_,?_⟩
    ·cases j with
     |zero=>
      simp at g1 g2
      subst g1 g2
      exact ⟨a,e1⟩
     |succ j=>
      simp at g1 g2
      exact h1 j x' y' g1 g2
    ·have em:min (x :: xs).length (y :: ys).length=min xs.length ys.length + 1:=by simp only[List.length_cons];omega
     rw[em,List.range_succ_eq_map,List.all_cons,List.all_map,h2]
     simp[e1,Bool.and_assoc,Function.comp_def]
theorem ZiY (I:Inv X pins σ H s) (h:HR X.K H α M): ∀ (n:Nat) {v:V} {x y:D} {b:Bool},Rep X.K H α v x->Rep X.K H α v y->eqF n M x y=some b->b=true:=by
 intro n
 induction n with
 |zero=>intro v x y b _ _ e;simp only[eqF] at e;cases e
 |succ n ih=>
  have lists: ∀ (vs:List V) (xs ys:List D) (b:Bool),Reps X.K H α vs xs->Reps X.K H α vs ys->eqL (eqF n M) xs ys=some b->b=true:=by
   intro vs
   induction vs with
   |nil=>
    intro xs ys b r1 r2 e
    cases r1;cases r2
    simp only[eqL,Option.some.injEq] at e
    exact e.symm
   |cons v vs iv=>
    intro xs ys b r1 r2 e
    cases r1 with
    |cons p1 t1=>
     cases r2 with
     |cons p2 t2=>
      rename_i d1 ds1 d2 ds2
      cases e1:eqF n M d1 d2 with
      |none=>simp only[eqL,e1] at e;cases e
      |some a=>
       cases e2:eqL (eqF n M) ds1 ds2 with
       |none=>simp only[eqL,e1,e2] at e;cases e
       |some c=>
        simp only[eqL,e1,e2,Option.some.injEq] at e
        rw[<- e,ih p1 p2 e1,iv _ _ _ t1 t2 e2]
        rfl
  intro v x y b r1 r2 e
  have nl: ∀ {p:Addr} {xs ys:List V},SqT X.K H p xs->SqL X.K H p ys->False:=fun {p xs ys} a c=>by
   obtain ⟨i1,_,⟨o1,g1,c1,_⟩,_⟩:=I.tuple a
   obtain ⟨i2,_,⟨o2,_,g2,c2,_⟩,_⟩:=I.list c
   rw[g1] at g2
   cases g2
   rw[c1] at c2
   exact absurd c2 (by decide)
  have ll: ∀ {p:Addr} {n:Nat} {ds:List D},RefK H α 0 n p->M[n]?=some (.lst ds)-> ∃ vs,SqL X.K H p vs/\Reps X.K H α vs ds:=fun {p n ds} a c=>by
   obtain ⟨xs,g1,r1⟩:=h.at a c
   exact ⟨xs,SqL.of g1,r1⟩
  cases r1 with
  |non=>cases r2;simp only[eqF,kd,eqK,Option.some.injEq] at e;exact e.symm
  |bl c=>cases r2;simp only[eqF,kd,eqK,Option.some.injEq,beq_self_eq_true] at e;exact e.symm
  |int c=>cases r2;simp only[eqF,kd,eqK,Option.some.injEq,beq_self_eq_true] at e;exact e.symm
  |str c=>cases r2;simp only[eqF,kd,eqK,Option.some.injEq,beq_self_eq_true] at e;exact e.symm
  |err _ _ _=>simp[eqF,kd] at e
  |dk _=>simp[eqF,kd] at e
  |dt _=>simp[eqF,kd] at e
  | @tup p xs ds hp rp=>
   cases r2 with
   | @tup _ xs2 ds2 hp2 rp2=>
    cases I.tuple_inj (SqT.of hp) (SqT.of hp2)
    simp only[eqF,kd,eqK] at e
    exact lists _ _ _ _ rp rp2 e
   | @con _ xs2 ds2 hp2 rp2=>
    cases I.tuple_inj (SqT.of hp) hp2.sq
    simp only[eqF,kd,eqK] at e
    exact lists _ _ _ _ rp rp2 e
   | @rol _ xs2 ds2 hp2 rp2=>exact (nl (SqT.of hp) hp2.sq).elim
   |err _ _ _=>simp[eqF,kd] at e
   |dk _=>simp[eqF,kd] at e
   |dt _=>simp[eqF,kd] at e
   | @ref _ n2 hp2=>
    obtain ⟨ys,g⟩:=h.some_at hp2
    exact (nl (SqT.of hp) (SqL.of g)).elim
  | @con p xs ds hp rp=>
   cases r2 with
   | @tup _ xs2 ds2 hp2 rp2=>
    cases I.tuple_inj hp.sq (SqT.of hp2)
    simp only[eqF,kd,eqK] at e
    exact lists _ _ _ _ rp rp2 e
   | @con _ xs2 ds2 hp2 rp2=>
    cases I.tuple_inj hp.sq hp2.sq
    simp only[eqF,kd,eqK] at e
    exact lists _ _ _ _ rp rp2 e
   | @rol _ xs2 ds2 hp2 rp2=>exact (nl hp.sq hp2.sq).elim
   |err _ _ _=>simp[eqF,kd] at e
   |dk _=>simp[eqF,kd] at e
   |dt _=>simp[eqF,kd] at e
   | @ref _ n2 hp2=>
    obtain ⟨ys,g⟩:=h.some_at hp2
    exact (nl hp.sq (SqL.of g)).elim
  | @rol p xs ds hp rp=>
   cases r2 with
   | @tup _ xs2 ds2 hp2 rp2=>exact (nl (SqT.of hp2) hp.sq).elim
   | @con _ xs2 ds2 hp2 rp2=>exact (nl hp2.sq hp.sq).elim
   |err _ _ _=>simp[eqF,kd] at e
   |dk _=>simp[eqF,kd] at e
   |dt _=>simp[eqF,kd] at e
   | @rol _ xs2 ds2 hp2 rp2=>
    cases I.list_inj hp.sq hp2.sq
    simp only[eqF,kd,eqK,if_pos (rp.length.symm.trans rp2.length)] at e
    exact lists _ _ _ _ rp rp2 e
   | @ref _ n2 hp2=>
    cases e1:M[n2]? with
    |none=>simp only[eqF,kd,e1] at e;cases e
    |some o=>
     cases o with
     |lst ds2=>
      obtain ⟨ys,g,r⟩:=ll hp2 e1
      cases I.list_inj hp.sq g
      simp only[eqF,kd,e1,eqK,if_pos (rp.length.symm.trans r.length)] at e
      exact lists _ _ _ _ rp r e
  | @ref p n1 hp=>
   cases e0:M[n1]? with
   |none=>simp only[eqF,kd,e0] at e;cases e
   |some o0=>
    cases o0 with
    |lst ds=>
     obtain ⟨xs,g0,rp⟩:=ll hp e0
     cases r2 with
     | @tup _ xs2 ds2 hp2 rp2=>exact (nl (SqT.of hp2) g0).elim
     | @con _ xs2 ds2 hp2 rp2=>exact (nl hp2.sq g0).elim
     |err _ _ _=>simp[eqF,kd,e0] at e
     |dk _=>simp[eqF,kd,e0] at e
     |dt _=>simp[eqF,kd,e0] at e
     | @rol _ xs2 ds2 hp2 rp2=>
      cases I.list_inj g0 hp2.sq
      simp only[eqF,kd,e0,eqK,if_pos (rp.length.symm.trans rp2.length)] at e
      exact lists _ _ _ _ rp rp2 e
     | @ref _ n2 hp2=>
      cases e1:M[n2]? with
      |none=>simp only[eqF,kd,e0,e1] at e;cases e
      |some o=>
       cases o with
       |lst ds2=>
        obtain ⟨ys,g,r⟩:=ll hp2 e1
        cases I.list_inj g0 g
        simp only[eqF,kd,e0,e1,eqK,if_pos (rp.length.symm.trans r.length)] at e
        exact lists _ _ _ _ rp r e
end
end DL
end
section
namespace DL
open PySem PySem.Spec PyProof.Rows L2
open PySem.SeqAt (EqAt RcAt RcNeAt)
section
variable {X:Cx} {ξ:XK} {pins:List (Addr × Obj)} {σ:L2.St} {H:Hp} {s:Shared} {α:List Addr} {M:Sto}
theorem Zfo {A:Around} {n:Nat} {xs1 xs2:List V} {ds1 ds2:List D} {i1 i2:List Value} {b:Bool} (v1:ZW xs1 i1) (v2:ZW xs2 i2) (r1:Reps X.K H α xs1 ds1) (r2:Reps X.K H α xs2 ds2)
  (ih: ∀ (x y:D) (v w:V) (u z:Value) (b:Bool),eqF n M x y=some b->Rep X.K H α v x->Rep X.K H α w y->ZU v u->ZU w z->EqAt A s u z b) (e:eqL (eqF n M) ds1 ds2=some b):
  ∃ f:Nat->Bool,(∀ (j:Nat) (h1:j < i1.toArray.size) (h2:j < i2.toArray.size),EqAt A s i1.toArray[j] i2.toArray[j] (f j))/\b=((List.range (min i1.toArray.size i2.toArray.size)).all f && i1.toArray.size == i2.toArray.size):=by
 obtain ⟨g1,g2⟩:=Zha e
 have l1:i1.toArray.size=ds1.length:=by rw[List.size_toArray,<- v1.length,r1.length]
 have l2:i2.toArray.size=ds2.length:=by rw[List.size_toArray,<- v2.length,r2.length]
 refine ⟨_,fun j h1 h2=> ?_,by rw[l1,l2];exact g2⟩
 have k1:j < ds1.length:=by rw[<- l1];exact h1
 have k2:j < ds2.length:=by rw[<- l2];exact h2
 obtain ⟨c,hc⟩:=g1 j _ _ (List.getElem?_eq_getElem k1) (List.getElem?_eq_getElem k2)
 obtain ⟨v,a1,a2⟩:=r1.get (List.getElem?_eq_getElem k1)
 obtain ⟨w,b1,b2⟩:=r2.get (List.getElem?_eq_getElem k2)
 obtain ⟨u,a3,a4⟩:=v1.get a1
 obtain ⟨z,b3,b4⟩:=v2.get b1
 have q:=ih _ _ v w u z c hc a2 b2 a4 b4
 simp only[List.getElem?_eq_getElem k1,List.getElem?_eq_getElem k2,hc,Option.getD_some]
 have e1:i1.toArray[j]=u:=by
  have:=List.getElem?_eq_some_iff.mp a3
  obtain ⟨_,z⟩:=this
  simpa using z
 have e2:i2.toArray[j]=z:=by
  have:=List.getElem?_eq_some_iff.mp b3
  obtain ⟨_,z⟩:=this
  simpa using z
 rw[e1,e2]
 exact q
theorem Zhb (I:Inv X pins σ H s) (h:HR X.K H α M) {n:Nat} {x y:D} {v w:V} {p q:Addr} {b:Bool} {A:Around} (e:eqF n M x y=some b) (rx:Rep X.K H α v x) (ry:Rep X.K H α w y) (rv:ZU v (.ref p)) (rw':ZU w (.ref q))
  (k:RcAt A s (.ref p) (.ref q) b) (k':RcNeAt A s (.ref p) (.ref q) (!b)):Eq3 A s (.ref p) (.ref q) b:=by
 refine ⟨?_,k,k'⟩
 by_cases c:p=q
 ·subst c
  cases ZU.inj rv rw'
  rw[ZiY I h n rx ry e]
  exact EqAt.same _
 ·exact EqAt.of_refs c k
theorem eq3 (I:Inv X pins σ H s) (h:HR X.K H α M): ∀ (n:Nat) (x y:D) (v w:V) (u z:Value) (b:Bool) (A:Around),A.units + n < cLine->eqF n M x y=some b->Rep X.K H α v x->Rep X.K H α w y->ZU v u->ZU w z->Eq3 A s u z b:=by
 intro n
 induction n with
 |zero=>intro x y v w u z b A _ e;simp only[eqF] at e;cases e
 |succ n ih=>
  intro x y v w u z b A hn e rx ry rv rw'
  have hu:A.units < cLine:=by omega
  have e0:=e
  unfold eqF at e
  cases ka:kd M x with
  |none=>rw[ka] at e;cases e
  |some ka'=>
   cases kb:kd M y with
   |none=>rw[ka,kb] at e;cases e
   |some kb'=>
    rw[ka,kb] at e
    have va:=vw I h rx rv ka
    have vb:=vw I h ry rw' kb
    have deep: ∀ (x y:D) (v w:V) (u z:Value) (b:Bool),eqF n M x y=some b->Rep X.K H α v x->Rep X.K H α w y->ZU v u->ZU w z->EqAt A.in1 s u z b:=fun x y v w u z b e a1 a2 a3 a4=>
     (ih x y v w u z b A.in1 (by rw[Around.in1_units];omega) e a1 a2 a3 a4).1
    cases va with
    |non=>
     cases vb<;>simp only[eqK,Option.some.injEq] at e<;>subst e
     ·exact ⟨EqAt.same _,.none_none,.none_none⟩
     ·exact ⟨.none_bool _,.none_bool _,.none_bool _⟩
     ·exact ⟨.none_int _ _,.none_int _ _,.none_int _ _⟩
     ·exact ⟨.none_str _ _,.none_str _ _,.none_str _ _⟩
     ·rename_i g _ _;exact ⟨.none_tuple g hu,.none_tuple g hu,.none_tuple g hu⟩
     ·rename_i g _ _;exact ⟨.none_list g hu,.none_list g hu,.none_list g hu⟩
    |bl c=>
     cases vb<;>simp only[eqK,Option.some.injEq] at e<;>subst e
     ·exact ⟨.bool_none _,.bool_none _,.bool_none _⟩
     ·exact ⟨.bool_bool _ _,.bool_bool _ _,.bool_bool _ _⟩
     ·exact ⟨.bool_int _ _ _,.bool_int _ _ _,.bool_int _ _ _⟩
     ·exact ⟨.bool_str _ _ _,.bool_str _ _ _,.bool_str _ _ _⟩
     ·rename_i g _ _;exact ⟨.bool_tuple _ g hu,.bool_tuple _ g hu,.bool_tuple _ g hu⟩
     ·rename_i g _ _;exact ⟨.bool_list _ g hu,.bool_list _ g hu,.bool_list _ g hu⟩
    |int c t=>
     cases vb<;>simp only[eqK,Option.some.injEq] at e<;>subst e
     ·exact ⟨.int_none _ _,.int_none _ _,.int_none _ _⟩
     ·exact ⟨.int_bool _ _ _,.int_bool _ _ _,.int_bool _ _ _⟩
     ·exact ⟨.int_int _ _ _ _,.int_int _ _ _ _,.int_int _ _ _ _⟩
     ·exact ⟨.int_str _ _ _ _,.int_str _ _ _ _,.int_str _ _ _ _⟩
     ·rename_i g _ _;exact ⟨.int_tuple _ _ g hu,.int_tuple _ _ g hu,.int_tuple _ _ g hu⟩
     ·rename_i g _ _;exact ⟨.int_list _ _ g hu,.int_list _ _ g hu,.int_list _ _ g hu⟩
    |str c t=>
     cases vb<;>simp only[eqK,Option.some.injEq] at e<;>subst e
     ·exact ⟨.str_none _ _,.str_none _ _,.str_none _ _⟩
     ·exact ⟨.str_bool _ _ _,.str_bool _ _ _,.str_bool _ _ _⟩
     ·exact ⟨.str_int _ _ _ _,.str_int _ _ _ _,.str_int _ _ _ _⟩
     ·exact ⟨.str_str _ _ _ _,.str_str _ _ _ _,.str_str _ _ _ _⟩
     ·rename_i g _ _;exact ⟨.str_tuple _ _ g hu,.str_tuple _ _ g hu,.str_tuple _ _ g hu⟩
     ·rename_i g _ _;exact ⟨.str_list _ _ g hu,.str_list _ _ g hu,.str_list _ _ g hu⟩
    | @tup p xs ds its g1 w1 q1=>
     cases vb with
     | @tup p2 xs2 ds2 its2 g2 w2 q2=>
      simp only[eqK] at e
      obtain ⟨f,hf,hb⟩:=Zfo w1 w2 q1 q2 deep e
      subst hb
      exact Zhb I h e0 rx ry rv rw' (.tuples g1 g2 hu hf) (.tuples g1 g2 hu hf)
     | @lst p2 xs2 ds2 its2 g2 w2 q2=>
      simp only[eqK,Option.some.injEq] at e
      subst e
      exact Zhb I h e0 rx ry rv rw' (.tuple_list g1 g2 hu) (.tuple_list g1 g2 hu)
     |non=>simp only[eqK,Option.some.injEq] at e;subst e;exact ⟨.tuple_none g1 hu,.tuple_none g1 hu,.tuple_none g1 hu⟩
     |bl c=>simp only[eqK,Option.some.injEq] at e;subst e;exact ⟨.tuple_bool _ g1 hu,.tuple_bool _ g1 hu,.tuple_bool _ g1 hu⟩
     |int c t=>simp only[eqK,Option.some.injEq] at e;subst e;exact ⟨.tuple_int _ _ g1 hu,.tuple_int _ _ g1 hu,.tuple_int _ _ g1 hu⟩
     |str c t=>simp only[eqK,Option.some.injEq] at e;subst e;exact ⟨.tuple_str _ _ g1 hu,.tuple_str _ _ g1 hu,.tuple_str _ _ g1 hu⟩
    | @lst p xs ds its g1 w1 q1=>
     cases vb with
     | @lst p2 xs2 ds2 its2 g2 w2 q2=>
      simp only[eqK] at e
      have l1:its.toArray.size=ds.length:=by rw[List.size_toArray,<- w1.length,q1.length]
      have l2:its2.toArray.size=ds2.length:=by rw[List.size_toArray,<- w2.length,q2.length]
      by_cases c:ds.length=ds2.length
      ·rw[if_pos c] at e
       have hs:its.toArray.size=its2.toArray.size:=by rw[l1,l2,c]
       obtain ⟨f,hf,hb⟩:=Zfo w1 w2 q1 q2 deep e
       rw[hs,Nat.min_self,beq_self_eq_true,Bool.and_true,<- hs] at hb
       subst hb
       exact Zhb I h e0 rx ry rv rw' (.lists g1 g2 hs hu hf) (.lists g1 g2 hs hu hf)
      ·rw[if_neg c] at e
       have e':false=b:=Option.some.inj e
       subst e'
       have hs:(its.toArray.size != its2.toArray.size)=true:=by rw[l1,l2];simpa using c
       exact Zhb I h e0 rx ry rv rw' (.lists_lengths g1 g2 hs hu) (.lists_lengths g1 g2 hs hu)
     | @tup p2 xs2 ds2 its2 g2 w2 q2=>
      simp only[eqK,Option.some.injEq] at e
      subst e
      exact Zhb I h e0 rx ry rv rw' (.list_tuple g1 g2 hu) (.list_tuple g1 g2 hu)
     |non=>simp only[eqK,Option.some.injEq] at e;subst e;exact ⟨.list_none g1 hu,.list_none g1 hu,.list_none g1 hu⟩
     |bl c=>simp only[eqK,Option.some.injEq] at e;subst e;exact ⟨.list_bool _ g1 hu,.list_bool _ g1 hu,.list_bool _ g1 hu⟩
     |int c t=>simp only[eqK,Option.some.injEq] at e;subst e;exact ⟨.list_int _ _ g1 hu,.list_int _ _ g1 hu,.list_int _ _ g1 hu⟩
     |str c t=>simp only[eqK,Option.some.injEq] at e;subst e;exact ⟨.list_str _ _ g1 hu,.list_str _ _ g1 hu,.list_str _ _ g1 hu⟩
end
section
variable {X:Cx} {ξ:XK}
noncomputable def ZpK (X:Cx) (neg:Bool):R2:=fun v w H Q=> ∃ α M x y b,HR X.K H α M/\Rep X.K H α v x/\Rep X.K H α w y/\eqF 12 M x y=some b/\Q (.bl (neg ^^ b)) H
theorem Zdf (hu:X.A.units + 64 < cLine):OpR X (compareOp .Eq) (ZpK X false):=by
 intro pins s σ H v w u z Q I rv rw' ⟨α,M,x,y,b,h,rx,ry,e,q⟩
 refine (eq3 I h 12 x y v w u z b X.A (by omega) e rx ry rv rw').2.1 _ _ _ _ ⟨.bl b,H,I,rfl,?_⟩
 simpa using q
theorem Zcn (hu:X.A.units + 64 < cLine):OpR X (compareOp .NotEq) (ZpK X true):=by
 intro pins s σ H v w u z Q I rv rw' ⟨α,M,x,y,b,h,rx,ry,e,q⟩
 refine (eq3 I h 12 x y v w u z b X.A (by omega) e rx ry rv rw').2.2 _ _ _ _ ⟨.bl (!b),H,I,rfl,?_⟩
 simpa using q
noncomputable def dEq:Bo:=fun x y M=>match eqF 12 M x y with | some b=> .ok (.bl b) M | none=> .bad
noncomputable def dNe:Bo:=fun x y M=>match eqF 12 M x y with | some b=> .ok (.bl (!b)) M | none=> .bad
theorem Zf2:BO X ξ (ZpK X false) dEq:=by
 intro H α M v w x y Q h rv rw' q
 unfold dEq at q
 cases e:eqF 12 M x y with
 |none=>rw[e] at q;exact q.elim
 |some b=>rw[e] at q;exact ⟨α,M,x,y,b,h,rv,rw',e,by simpa using q _ H α Ext.refl h (.bl b)⟩
theorem Zd8:BO X ξ (ZpK X true) dNe:=by
 intro H α M v w x y Q h rv rw' q
 unfold dNe at q
 cases e:eqF 12 M x y with
 |none=>rw[e] at q;exact q.elim
 |some b=>rw[e] at q;exact ⟨α,M,x,y,b,h,rv,rw',e,by simpa using q _ H α Ext.refl h (.bl (!b))⟩
noncomputable def Zhc:V->Bool
 | .non=>true
 | .bl _=>true
 |_=>false
noncomputable def rIs (neg:Bool):R2:=fun v w H Q=>Zhc w=true/\Q (.bl (neg ^^ decide (v=w))) H
theorem Zfp {v w:V} {u z:Value} (rv:ZU v u) (rw':ZU w z) (p:Zhc w=true):plainIs u z=true/\(u == z)=decide (v=w):=by
 cases w with
 |non=>
  cases rw'
  cases v with
  |non=>cases rv;exact ⟨rfl,rfl⟩
  |bl b=>cases rv;exact ⟨rfl,by rw[decide_eq_false (fun z=>(nomatch z))];rfl⟩
  |int b=>obtain ⟨t,rfl⟩:=rv;exact ⟨rfl,by rw[decide_eq_false (fun z=>(nomatch z))];rfl⟩
  |str b=>obtain ⟨t,rfl⟩:=rv;exact ⟨rfl,by rw[decide_eq_false (fun z=>(nomatch z))];rfl⟩
  |byt b=>obtain ⟨t,rfl⟩:=rv;exact ⟨rfl,by rw[decide_eq_false (fun z=>(nomatch z))];rfl⟩
  |flt b=>obtain ⟨t,rfl⟩:=rv;exact ⟨rfl,by rw[decide_eq_false (fun z=>(nomatch z))];rfl⟩
  |ref b=>cases rv;exact ⟨rfl,by rw[decide_eq_false (fun z=>(nomatch z))];rfl⟩
  |ty b=>cases rv;exact ⟨rfl,by rw[decide_eq_false (fun z=>(nomatch z))];rfl⟩
 |bl c=>
  cases rw'
  cases v with
  |non=>cases rv;exact ⟨rfl,by rw[decide_eq_false (fun z=>(nomatch z))];rfl⟩
  |bl b=>cases rv;refine ⟨rfl,?_⟩;cases b<;>cases c<;>rfl
  |int b=>obtain ⟨t,rfl⟩:=rv;exact ⟨rfl,by rw[decide_eq_false (fun z=>(nomatch z))];rfl⟩
  |str b=>obtain ⟨t,rfl⟩:=rv;exact ⟨rfl,by rw[decide_eq_false (fun z=>(nomatch z))];rfl⟩
  |byt b=>obtain ⟨t,rfl⟩:=rv;exact ⟨rfl,by rw[decide_eq_false (fun z=>(nomatch z))];rfl⟩
  |flt b=>obtain ⟨t,rfl⟩:=rv;exact ⟨rfl,by rw[decide_eq_false (fun z=>(nomatch z))];rfl⟩
  |ref b=>cases rv;exact ⟨rfl,by rw[decide_eq_false (fun z=>(nomatch z))];rfl⟩
  |ty b=>cases rv;exact ⟨rfl,by rw[decide_eq_false (fun z=>(nomatch z))];rfl⟩
 |_=>cases p
theorem Zm2:OpR X (compareOp .Is) (rIs false):=by
 intro pins s σ H v w u z Q I rv rw' ⟨p,q⟩
 obtain ⟨h1,h2⟩:=Zfp rv rw' p
 refine wpAny_is_plain h1 ⟨.bl (u == z),H,I,rfl,?_⟩
 rw[h2]
 simpa using q
theorem Zhd:OpR X (compareOp .IsNot) (rIs true):=by
 intro pins s σ H v w u z Q I rv rw' ⟨p,q⟩
 obtain ⟨h1,h2⟩:=Zfp rv rw' p
 refine wpAny_isNot_plain h1 ⟨.bl (!(u == z)),H,I,rfl,?_⟩
 rw[h2]
 simpa using q
noncomputable def isP:D->D->Option Bool
 | .non,.non=>some true
 | .bl a,.bl b=>some (a == b)
 |_,.non=>some false
 |_,.bl _=>some false
 |_,_=>none
noncomputable def dIs:Bo:=fun x y M=>match isP x y with | some b=> .ok (.bl b) M | none=> .bad
noncomputable def dIsNot:Bo:=fun x y M=>match isP x y with | some b=> .ok (.bl (!b)) M | none=> .bad
theorem ZjR {K:PySem.W.Frag} {H:Hp} {α:List Addr} {v w:V} {x y:D} {b:Bool} (rv:Rep K H α v x) (rw':Rep K H α w y) (e:isP x y=some b):Zhc w=true/\decide (v=w)=b:=by
 unfold isP at e
 split at e
 ·cases rv;cases rw';cases e;exact ⟨rfl,rfl⟩
 ·rename_i c d
  cases rv;cases rw';cases e
  refine ⟨rfl,?_⟩
  cases c<;>cases d<;>rfl
 ·rename_i hx
  cases rw';cases e
  refine ⟨rfl,decide_eq_false fun z=> ?_⟩
  subst z
  cases rv
  exact hx rfl
 ·rename_i c hx
  cases rw';cases e
  refine ⟨rfl,decide_eq_false fun z=> ?_⟩
  subst z
  cases rv
  exact hx _ rfl
 ·cases e
theorem Zqe:BO X ξ (rIs false) dIs:=by
 intro H α M v w x y Q h rv rw' q
 unfold dIs at q
 cases e:isP x y with
 |none=>rw[e] at q;exact q.elim
 |some b=>
  rw[e] at q
  obtain ⟨p,d⟩:=ZjR rv rw' e
  exact ⟨p,by rw[d];simpa using q _ H α Ext.refl h (.bl b)⟩
theorem ZiZ:BO X ξ (rIs true) dIsNot:=by
 intro H α M v w x y Q h rv rw' q
 unfold dIsNot at q
 cases e:isP x y with
 |none=>rw[e] at q;exact q.elim
 |some b=>
  rw[e] at q
  obtain ⟨p,d⟩:=ZjR rv rw' e
  exact ⟨p,by rw[d];simpa using q _ H α Ext.refl h (.bl (!b))⟩
noncomputable def Zm3:D->Bool
 | .non=>true
 | .bl _=>true
 | .int _=>true
 | .str _=>true
 |_=>false
noncomputable def ZtA:D->D->Bool
 | .non,.non=>true
 | .bl a,.bl b=>a == b
 | .bl a,.int b=>(if a then 1 else 0) == b
 | .int a,.bl b=>a == (if b then 1 else 0)
 | .int a,.int b=>a == b
 | .str a,.str b=>a == b
 |_,_=>false
noncomputable def ZdT (M:Sto):D->Option (List D)
 | .tup xs=>some xs
 | .rol xs=>some xs
 | .con xs=>some xs
 | .ref n=>match M[n]? with | some (.lst xs)=>some xs | _=>none
 |_=>none
theorem Zhe {K:PySem.W.Frag} {H:Hp} {α:List Addr} {M:Sto} (h:HR K H α M) {v:V} {x:D} {ds:List D} (r:Rep K H α v x) (e:ZdT M x=some ds): ∃ p xs,v= .ref p/\(SqL K H p xs\/SqT K H p xs)/\Reps K H α xs ds:=by
 cases r with
 | @tup p xs ds hp rp=>cases e;exact ⟨p,xs,rfl,.inr (SqT.of hp),rp⟩
 | @con p xs ds hp rp=>cases e;exact ⟨p,xs,rfl,.inr hp.sq,rp⟩
 | @rol p xs ds hp rp=>cases e;exact ⟨p,xs,rfl,.inl hp.sq,rp⟩
 | @ref p n hp=>
  cases e1:M[n]? with
  |none=>simp only[ZdT,e1] at e;cases e
  |some o=>
   cases o with
   |lst es=>
    simp only[ZdT,e1] at e
    cases e
    obtain ⟨xs,g1,r1⟩:=h.at hp e1
    exact ⟨p,xs,rfl,.inl (SqL.of g1),r1⟩
 |_=>cases e
theorem Zi0 {K:PySem.W.Frag} {H:Hp} {α:List Addr} {M:Sto} (h:HR K H α M) {v:V} {x:D} {ds:List D} (r:Rep K H α v x) (e:ZdT M x=some ds) (nc: ∀ ys,x≠ .con ys): ∃ p xs,v= .ref p/\(SqL K H p xs\/H p=some (.tup xs))/\Reps K H α xs ds:=by
 cases r with
 |con _ _=>exact absurd rfl (nc _)
 | @tup p xs ds hp rp=>cases e;exact ⟨p,xs,rfl,.inr hp,rp⟩
 | @rol p xs ds hp rp=>cases e;exact ⟨p,xs,rfl,.inl hp.sq,rp⟩
 | @ref p n hp=>
  cases e1:M[n]? with
  |none=>simp only[ZdT,e1] at e;cases e
  |some o=>
   cases o with
   |lst es=>
    simp only[ZdT,e1] at e
    cases e
    obtain ⟨xs,g1,r1⟩:=h.at hp e1
    exact ⟨p,xs,rfl,.inl (SqL.of g1),r1⟩
 |_=>cases e
noncomputable def inD (x y:D) (M:Sto):Option Bool:=match ZdT M y with | some ds=>if Zm3 x=true/\ds.all Zm3=true then some (ds.any fun y=>ZtA y x) else none | none=>none
variable {e:Expr} {es:List Expr} {fs:Av} {fa:Ev} {p pos:Pos} {x:Str} {id T:String} {r:List V->Hp->VK->Prop} {f:List D->Sto->Out D}
noncomputable def Zj (f:List D->Sto->Out D) (fs:Av):Ev:=fun ρ M=>(fs ρ M).bind f
noncomputable def CO (X:Cx) (ξ:XK) (r:List V->Hp->VK->Prop) (f:List D->Sto->Out D):Prop:= ∀ H α M vs ds Q,HR X.K H α M->Reps X.K H α vs ds->OP X.K H α ξ Q (f ds M)->r vs H Q
theorem ZA (hc:ZbR X (.builtin id) r) (hf:CO X ξ r f) (hm:X.mg x=none) (hv:bootBuiltins x=some (.builtin id)) (ha:DA X ξ (e :: es) fs) (hg:Gl X x:=by rfl) (hn:x≠"__name__":=by decide) (hdb:(x == ("__debug__":Str))=false:=by decide)
  (he:starEach (e :: es) X.env=(false,eval e X.env) :: starEach es X.env:=by rfl) (hpl:(backTo pos (starEach es X.env)).any (·.1)=false:=by rfl):DE X ξ (.Call (.Name x p) (e :: es) [] pos) (Zj f fs):=by
 obtain ⟨ta,ha,qa⟩:=ha
 refine ⟨_,Zfm hc hg hm hv ha hn hdb he hpl,fun σ ρ H α M Q s h q=> ?_⟩
 exact qa σ ρ H α M _ s h (OG.seq q fun ds M1 vs H1 α1 e1 h1 r1 q1=>hf H1 α1 M1 vs ds Q h1 r1 q1)
theorem ZbZ (hc:ZbR X (.type T) r) (hf:CO X ξ r f) (hm:X.mg x=none) (hv:bootBuiltins x=some (.type T)) (ha:DA X ξ (e :: es) fs) (hg:Gl X x:=by rfl) (hn:x≠"__name__":=by decide) (hdb:(x == ("__debug__":Str))=false:=by decide)
  (he:starEach (e :: es) X.env=(false,eval e X.env) :: starEach es X.env:=by rfl) (hpl:(backTo pos (starEach es X.env)).any (·.1)=false:=by rfl):DE X ξ (.Call (.Name x p) (e :: es) [] pos) (Zj f fs):=by
 obtain ⟨ta,ha,qa⟩:=ha
 refine ⟨_,ZgQ hc hg hm hv ha hn hdb he hpl,fun σ ρ H α M Q s h q=> ?_⟩
 exact qa σ ρ H α M _ s h (OG.seq q fun ds M1 vs H1 α1 e1 h1 r1 q1=>hf H1 α1 M1 vs ds Q h1 r1 q1)
noncomputable def bLen:List D->Sto->Out D:=fun ds M=>match ds with
 | [x]=>match ZdT M x with | some xs=> .ok (.int xs.length) M | none=> .bad
 |_=> .bad
theorem Zbw:CO X ξ (fun xs H Q=> ∃ p ys,xs=[.ref p]/\(SqL X.K H p ys\/SqT X.K H p ys)/\Q (.int ys.length) H) bLen:=by
 intro H α M vs ds Q h rs q
 unfold bLen at q
 cases rs with
 |nil=>exact q.elim
 | @cons v x vs ds r t=>
  cases t with
  |cons _ _=>exact q.elim
  |nil=>
  cases e:ZdT M x with
  |none=>simp only[e] at q;exact q.elim
  |some ys=>
   simp only[e] at q
   obtain ⟨p,xs,rfl,h2,h3⟩:=Zhe h r e
   exact ⟨p,xs,rfl,h2,by rw[h3.length];exact q _ H α Ext.refl h (.int _)⟩
noncomputable def bAbs:List D->Sto->Out D:=fun ds M=>match ds with | [.int i]=> .ok (.int (if i < 0 then -i else i)) M | _=> .bad
theorem ZjS:CO X ξ (fun xs H Q=> ∃ i,xs=[.int i]/\Q (.int (if i < 0 then -i else i)) H) bAbs:=by
 intro H α M vs ds Q h rs q
 unfold bAbs at q
 split at q
 ·cases rs with
  |cons r t=>
   cases t
   cases r
   exact ⟨_,rfl,q _ H α Ext.refl h (.int _)⟩
 ·exact q.elim
noncomputable def bMax:List D->Sto->Out D:=fun ds M=>match ds with | [.int i,.int j]=> .ok (.int (if j > i then j else i)) M | _=> .bad
noncomputable def bMin:List D->Sto->Out D:=fun ds M=>match ds with | [.int i,.int j]=> .ok (.int (if j < i then j else i)) M | _=> .bad
theorem ZjT {g:Int->Int->Int} {f:List D->Sto->Out D} (hf: ∀ ds M,f ds M=match ds with | [.int i,.int j]=> .ok (.int (g i j)) M | _=> .bad):CO X ξ (fun xs H Q=> ∃ i j,xs=[.int i,.int j]/\Q (.int (g i j)) H) f:=by
 intro H α M vs ds Q h rs q
 rw[hf] at q
 split at q
 ·rename_i i j
  cases rs with
  |cons r t=>
   cases t with
   |cons r' t'=>
    cases t'
    cases r
    cases r'
    exact ⟨i,j,rfl,q _ H α Ext.refl h (.int _)⟩
 ·exact q.elim
theorem Zm4:CO X ξ (fun xs H Q=> ∃ i j,xs=[.int i,.int j]/\Q (.int (if j > i then j else i)) H) bMax:=ZjT (g:=fun i j=>if j > i then j else i) fun ds M=>rfl
theorem Zm5:CO X ξ (fun xs H Q=> ∃ i j,xs=[.int i,.int j]/\Q (.int (if j < i then j else i)) H) bMin:=ZjT (g:=fun i j=>if j < i then j else i) fun ds M=>rfl
noncomputable def Zsh:List D->Sto->Out D:=fun ds M=>match ds with | [.int i]=> .ok (.int i) M | [.bl k]=> .ok (.int (if k then 1 else 0)) M | _=> .bad
noncomputable def bList:List D->Sto->Out D:=fun ds M=>match ds with
 | [x]=>match ZdT M x with | some xs=> .ok (.ref M.length) (M ++ [.lst xs]) | none=> .bad
 |_=> .bad
theorem ZeQ:CO X ξ (fun xs H Q=> ∃ p ys,xs=[.ref p]/\(SqL X.K H p ys\/SqT X.K H p ys)/\ ∀ l,H l=none->Q (.ref l) (upd H l (.lst ys))) bList:=by
 intro H α M vs ds Q h rs q
 unfold bList at q
 cases rs with
 |nil=>exact q.elim
 | @cons v x vs ds r t=>
  cases t with
  |cons _ _=>exact q.elim
  |nil=>
  cases e:ZdT M x with
  |none=>simp only[e] at q;exact q.elim
  |some ys=>
   simp only[e] at q
   obtain ⟨p,xs,rfl,h2,h3⟩:=Zhe h r e
   exact ⟨p,xs,rfl,h2,fun l hl=>q _ _ (α ++ [l]) (Ext.new hl) (h.new hl h3) (.ref ⟨h.last l,Kn.lst Zr⟩)⟩
noncomputable def Zbx (M:Sto) (x:D):Option String:=match kd M x with
 |some .non=>some "NoneType"
 |some (.bl _)=>some "bool"
 |some (.int _)=>some "int"
 |some (.str _)=>some "str"
 |some (.tup _)=>some "tuple"
 |some (.lst _)=>some "list"
 |none=>none
noncomputable def ZcK (t T:String):Bool:=t == T || (t == "bool" && T == "int")
noncomputable def Zm6 (T:String) (f:Ev):Ev:=fun ρ M=>(f ρ M).bind fun x M1=>match Zbx M1 x with | some t=> .ok (.bl (ZcK t T)) M1 | none=> .bad
noncomputable def ZtB (X:Cx) (T:String):List V->Hp->VK->Prop:=fun vs H Q=> ∃ v α M x t,vs=[v,.ty T]/\HR X.K H α M/\Rep X.K H α v x/\Zbx M x=some t/\Q (.bl (ZcK t T)) H
structure Kit (K:PySem.W.Frag) (T:String):Prop where
 non:PySem.W.kitOne K (.type "NoneType") (.type T)=some (ZcK "NoneType" T)
 bl:PySem.W.kitOne K (.type "bool") (.type T)=some (ZcK "bool" T)
 int:PySem.W.kitOne K (.type "int") (.type T)=some (ZcK "int" T)
 str:PySem.W.kitOne K (.type "str") (.type T)=some (ZcK "str" T)
 tup:PySem.W.kitOne K (.type "tuple") (.type T)=some (ZcK "tuple" T)
 lst:PySem.W.kitOne K (.type "list") (.type T)=some (ZcK "list" T)
theorem Zk3 {K:PySem.W.Frag}:Kit K "int":=⟨rfl,rfl,rfl,rfl,rfl,rfl⟩
theorem Zi1 {K:PySem.W.Frag}:Kit K "bool":=⟨rfl,rfl,rfl,rfl,rfl,rfl⟩
theorem Zi2 (kt:Kit X.K T):ZbR X (.builtin "isinstance") (ZtB X T):=by
 intro pins s σ H vs us Q I rs ⟨v,α,M,x,t,e1,h,rx,et,q⟩
 subst e1
 obtain ⟨u,w,rfl,ru,rw'⟩:=ZgM rs
 cases rw'
 unfold Zbx at et
 cases ek:kd M x with
 |none=>rw[ek] at et;cases et
 |some k=>
  rw[ek] at et
  have va:=vw I h rx ru ek
  have fin: ∀ tk,EP X pins σ Q (.bool (ZcK t T)) { s with toks:=tk }:=fun tk=>⟨.bl _,H,I.tok tk,rfl,q⟩
  cases va with
  |non=>cases et;exact PySem.W.kia_one PySem.W.kitx_none I.kIn True.intro kt.non (fun z=>nomatch z) fin
  |bl b=>cases et;exact PySem.W.kia_one PySem.W.kitx_bool I.kIn True.intro kt.bl (fun z=>nomatch z) fin
  |int i t=>cases et;exact PySem.W.kia_one PySem.W.kitx_int I.kIn True.intro kt.int (fun z=>nomatch z) fin
  |str i t=>cases et;exact PySem.W.kia_one PySem.W.kitx_str I.kIn True.intro kt.str (fun z=>nomatch z) fin
  |tup g _ _=>cases et;obtain ⟨o,h1,h2,_⟩:=g;exact PySem.W.kia_one PySem.W.kitx_tuple I.kIn ⟨o,h1,h2⟩ kt.tup (fun z=>nomatch z) fin
  |lst g _ _=>cases et;obtain ⟨o,h1,h2,_⟩:=g;exact PySem.W.kia_one PySem.W.kitx_list I.kIn ⟨o,h1,h2⟩ kt.lst (fun z=>nomatch z) fin
theorem ZjU {y:Str} {p2:Pos} (kt:Kit X.K T) (hm:X.mg "isinstance"=none) (hmT:X.mg y=none) (hvT:bootBuiltins y=some (.type T)) (ha:DE X ξ e fa) (hg:Gl X "isinstance":=by rfl) (hgT:Gl X y:=by rfl) (hn:y≠"__name__":=by decide) (hdb:(y == ("__debug__":Str))=false:=by decide)
  (he:starEach [e,.Name y p2] X.env=(false,eval e X.env) :: starEach [.Name y p2] X.env:=by rfl) (he2:starEach [.Name y p2] X.env=(false,eval (.Name y p2) X.env) :: starEach [] X.env:=by rfl) (hpl:(backTo pos (starEach [.Name y p2] X.env)).any (·.1)=false:=by rfl):DE X ξ (.Call (.Name "isinstance" p) [e,.Name y p2] [] pos) (Zm6 T fa):=by
 obtain ⟨ta,ha,qa⟩:=ha
 refine ⟨_,Zfm (Zi2 kt) hg hm (by with_unfolding_all rfl) (ZeM ha (ZeM (Zkz hgT hmT hvT (v:= .ty T) rfl hn hdb) ZjM he2) he) (by decide) (by decide) he hpl,fun σ ρ H α M Q s h q=> ?_⟩
 refine qa σ ρ H α M _ s h (OG.seq q fun x M1 v H1 α1 e1 h1 r1 q1=> ?_)
 cases et:Zbx M1 x with
 |none=>simp only[et] at q1;exact q1.elim
 |some t=>
  simp only[et] at q1
  exact ⟨v,α1,M1,x,t,rfl,h1,r1,et,q1 _ H1 α1 Ext.refl h1 (.bl _)⟩
end
end DL
end
section
namespace DL
open PySem PySem.Spec PyProof.Rows L2
noncomputable def CXE (P:Program) (w:World):CXT:=fun outer H s E e s'=> ∃ (ea C:Addr) (dct:Option Addr) (B:Heap) (H':Hp),e= .ref ea/\s'.os=s.os/\AllBare s'.gens/\Un (frs outer) [] H H' s.heap s'.heap/\HOk P w H' s'.heap/\
 DQ.Fly B outer ea (.ref C) dct .none s'.heap/\(∀ b u,H' b=some u-> ∃ o,B.get? b=some o)/\(∀ b o,s.heap.get? b=some o->b ∉ frs outer-> ∃ o',B.get? b=some o')/\E (.ref C) dct H'
structure Thr (X:Cx) (ξ:XK):Prop where
 own:PassesOwn (model X.prog X.w) X.A X.env X.xe
 ps:Zfk (CXE X.prog X.w) X ξ
 mak: ∀ (pins:List (Addr × Obj)) (σ:L2.St) (H:Hp) (s:Shared) (h':Heap) (e:Addr) (oe:Obj) (vs:Array Value) (C:Addr),Inv X pins σ H s->(∀ b o,s.heap.get? b=some o->h'.get? b=some o)->s.heap.get? e=none->h'.get? e=some oe->oe.cls= .ref C->oe.dict=none->
  oe.data= .fields vs->vs[1]?=some .none->vs[2]?=some .none->ξ (.ref C) none H->X.xe (.ref e) { s with heap:=h' }
theorem Zd9 {h b1 b2:Heap}: ∀ {l:List Env},h.FunFrames b1 l->(∀ b∈frs l,b2.get? b=none)->h.FunFrames b2 l
 | [],_,_=>trivial
 |env :: r,⟨h1,⟨L,o,h2,h3,h4,h5⟩,h6⟩,k=>⟨h1,⟨L,o,h2,k L (by unfold frs;rw[List.filterMap_cons,h2];exact List.mem_cons_self),h4,h5⟩,Zd9 h6 fun b hb=>k b (by
   unfold frs
   rw[List.filterMap_cons,h2]
   exact List.mem_cons_of_mem _ hb)⟩
section
variable {X:Cx} {pins:List (Addr × Obj)} {σ:L2.St} {H H':Hp} {s:Shared} {h1 h2 B:Heap}
theorem ZjV (hx:X.ex=[]) (I:Inv X pins σ H s) (u:Un (frs X.stack) [] H H' s.heap h1) (hok:HOk X.prog X.w H' h1) (t1: ∀ b q,H' b=some q-> ∃ o,B.get? b=some o) (t2: ∀ b o,s.heap.get? b=some o->b ∉ frs X.stack-> ∃ o',B.get? b=some o')
  (st1:B.StaysIn h1) (st2:B.StaysIn h2) (up:h1.UpToSlots h2):Un X.fs [] X.H₀ H' X.s₀.heap h2/\HOk X.prog X.w H' h2/\ ∀ b o,X.s₀.heap.get? b=some o->b ∉ X.fs-> ∃ o',B.get? b=some o':=by
 have kB: ∀ b ob o,B.get? b=some ob->h1.get? b=some o->h2.get? b=some o:=fun b ob o e x=>by
  have z:=st1 b ob e
  rw[x] at z
  cases z
  exact st2 b _ e
 have nx: ∀ b,b ∉ X.ex:=fun b=>by rw[hx];simp
 have nL: ∀ b o,X.s₀.heap.get? b=some o->b ∉ X.fs->b ∉ frs X.stack:=fun b o e n z=>by
  rcases List.mem_cons.mp (I.stkSub b z) with q | q
  ·exact absurd (Heap.lt_size e) (by rw[q];exact Nat.not_lt_of_le I.ok.above)
  ·exact n q
 have th: ∀ b o,X.s₀.heap.get? b=some o->b ∉ X.fs-> ∃ o',B.get? b=some o':=fun b o e n=>by
  obtain ⟨o',e'⟩:=I.base.there b o e (nx b)
  exact t2 b o' e' (nL b o e n)
 have sl: ∀ b o,X.s₀.heap.get? b=some o->X.H₀ b=none->b∈X.fs-> ∃ sl,h2.get? b=some { o with slots:=sl }:=fun b o e n hb=>by
  obtain ⟨s1,e1⟩:=I.base.slot b o e n hb (nx b)
  obtain ⟨s2,e2⟩:=u.any e1 (I.base.free b o e n (nx b)) (by simp)
  obtain ⟨_,o',g1,g2⟩:=I.ok.funs.mem hb
  rw[e] at g1
  cases g1
  obtain ⟨s3,e3⟩:=up b _ e2 g2
  exact ⟨s3,e3⟩
 refine ⟨⟨fun b o e n hb _=> ?_,fun b o e n hb _=>sl b o e n hb,fun b o e n _=> ?_,fun b o e _=> ?_,fun b xs e=>u.tups b xs (I.base.tups b xs e),fun b o xs e=>u.frzs b o xs (I.base.frzs b o xs e),fun b ps e=> ?_⟩,fun a o e=> ?_,th⟩
 ·obtain ⟨ob,g⟩:=th b o e hb
  exact kB b ob o g (u.keep b o (I.base.keep b o e n hb (nx b)) (I.base.free b o e n (nx b)) (nL b o e hb) (by simp))
 ·obtain ⟨o',e'⟩:=I.base.there b o e (nx b)
  exact u.free b o' e' (I.base.free b o e n (nx b)) (by simp)
 ·by_cases hb:b∈X.fs
  ·obtain ⟨s1,e1⟩:=sl b o e (I.ok.frf b hb) hb
   exact ⟨_,e1⟩
  ·obtain ⟨ob,g⟩:=th b o e hb
   exact ⟨ob,st2 b ob g⟩
 ·obtain ⟨m1,e1⟩:=I.base.tbls b ps e
  obtain ⟨m2,e2⟩:=u.tbls b _ e1
  exact ⟨m1 ++ m2,by rw[e2,Array.append_assoc]⟩
 ·refine (hok a o e).stay (fun b q hb x=> ?_) (fun _ q=>q) fun _ _ q=>q
  have tr: ∃ q,H' b=some q:=by
   rcases hb with z | z
   ·exact ⟨o,z ▸ e⟩
   ·exact ⟨_,z⟩
  obtain ⟨q',z⟩:=tr
  obtain ⟨ob,g⟩:=t1 b q' z
  exact kB b ob q g x
end
theorem Zi3 {P:Program} {w:World} {H:Hp} {h:Heap} {a:Addr} {o:HO} (x:Zba P w H h a o): ∃ ob,h.get? a=some ob:=by
 cases o with
 |lst xs=>obtain ⟨_,_,_,_,e⟩:=x;exact ⟨_,e⟩
 |tup xs=>obtain ⟨_,_,_,ob,e,_⟩:=x;exact ⟨_,e⟩
 |dK kvs=>obtain ⟨_,_,_,_,o,_,_,e,_⟩:=x;exact ⟨_,e⟩
 |dT kvs=>obtain ⟨_,_,_,_,o,_,_,e,_⟩:=x;exact ⟨_,e⟩
 |set S n=>obtain ⟨o,_,_,_,e,_⟩:=x;exact ⟨_,e⟩
 |ins C dx fs=>obtain ⟨_,_,_,e,_⟩:=x;exact ⟨_,e⟩
 |own y=>exact x
 |xd fs=>obtain ⟨_,⟨_,_,_,e,_⟩,_⟩:=x;exact ⟨_,e⟩
 |rng lo hi=>obtain ⟨_,_,_,e⟩:=x;exact ⟨_,e⟩
 |frz ob u=>obtain ⟨e,_⟩:=x;exact ⟨_,e⟩
 |tbl ps=>exact ⟨_,(show h.get? a=some _ from x)⟩
 |met f y=>exact ⟨_,(show h.get? a=some _ from x)⟩
 |ext φ=>obtain ⟨_,e,_⟩:=x;exact e
noncomputable def Ziw (h:Heap) (l:List Addr):Heap:=Ziv h fun b=>if b∈l then some (.own 0) else none
theorem Zfq {h:Heap} {l:List Addr} {b:Addr} {o:Obj} (e:h.get? b=some o) (n:b ∉ l):(Ziw h l).get? b=some o:=Zfh e (if_neg n)
theorem ZeR {h:Heap} {l:List Addr} {b:Addr} {o:Obj} (e:(Ziw h l).get? b=some o):h.get? b=some o/\b ∉ l:=by
 obtain ⟨a,n⟩:=ZgE e
 refine ⟨a,fun z=> ?_⟩
 simp only[if_pos z] at n
 cases n
theorem Zhf {h:Heap} {l:List Addr} {b:Addr} (n:b∈l):(Ziw h l).get? b=none:=by
 cases q:(Ziw h l).get? b with
 |none=>rfl
 |some o=>exact absurd n (ZeR q).2
theorem Zm7 {P:Program} {w:World} {K:PySem.W.Frag} {mg:Str->Option Value} {base:Heap} {N:List Str} {qual:Str} {scope:Scope} {f:Addr} {cd:Value} {A:Around} {outer:List Env} {s:Shared} {H:Hp} {E:XK}:
  Thr (ZeH (CXE P w) P w K mg base N qual scope f cd A outer s H E) E:=by
 refine ⟨PassesOwn.leaving,fun pins σ H1 s1 e s2 I h=> ?_,fun pins σ H1 s1 h' e oe vs C I k hn he hc hdi hd v1 v2 q=> ?_⟩
 ·obtain ⟨ea,C,dct,B,H2,rfl,os,bare,un,hok,fl,t1,t2,q⟩:=h
  refine DQ.Zg1 (outer:=outer) I.ok.frames rfl fl fun h3 f3 up=> ?_
  obtain ⟨a1,a2,a3⟩:=ZjV rfl I un hok t1 t2 fl.stay f3.stay up
  exact ⟨ea,C,dct,B,H2,rfl,os.trans I.os,bare,a1,a2,f3,t1,a3,q⟩
 ·have st:=I.stack
  have t2: ∀ b o,s1.heap.get? b=some o->b ∉ frs (ZeH (CXE P w) P w K mg base N qual scope f cd A outer s H E).stack-> ∃ o',(Ziw s1.heap (frs (ZeH (CXE P w) P w K mg base N qual scope f cd A outer s H E).stack)).get? b=some o':=fun b o x n=>⟨o,Zfq x n⟩
  have hs:(Ziw s1.heap (frs (ZeH (CXE P w) P w K mg base N qual scope f cd A outer s H E).stack)).StaysIn h':=fun b o x=>k b o (ZeR x).1
  have hl:h'.FunFrames (Ziw s1.heap (frs (ZeH (CXE P w) P w K mg base N qual scope f cd A outer s H E).stack)) (ZeH (CXE P w) P w K mg base N qual scope f cd A outer s H E).stack:=
   (Zd9 st fun b hb=>Zhf hb).of_keeps fun b o x _=>⟨o,k b o x,rfl⟩
  have hb:(Ziw s1.heap (frs (ZeH (CXE P w) P w K mg base N qual scope f cd A outer s H E).stack)).get? e=none:=by
   cases z:(Ziw s1.heap (frs (ZeH (CXE P w) P w K mg base N qual scope f cd A outer s H E).stack)).get? e with
   |none=>rfl
   |some o=>
    have:=(ZeR z).1
    rw[hn] at this
    cases this
  have t1: ∀ b u,H1 b=some u-> ∃ o,(Ziw s1.heap (frs (ZeH (CXE P w) P w K mg base N qual scope f cd A outer s H E).stack)).get? b=some o:=fun b u x=>by
   obtain ⟨o,g⟩:=Zi3 (I.hok b u x)
   exact ⟨o,Zfq g fun z=>by rw[I.stkFree b z] at x;cases x⟩
  refine DQ.Zg2 (s:={ s1 with heap:=h' }) (outer:=outer) I.ok.frames rfl hl he hs hb hd v1 v2 fun h3 f3 up=> ?_
  obtain ⟨a1,a2,a3⟩:=ZjV rfl I (Un.kept k) (I.hok.kept k) t1 t2 hs f3.stay up
  rw[hc,hdi] at f3
  exact ⟨e,C,none,_,H1,rfl,I.os,I.bare,a1,a2,f3,t1,a3,q⟩
end DL
end
section
namespace DL
open PySem PySem.Spec PyProof.Rows L2
noncomputable def FP (K:PySem.W.Frag) (H:Hp) (α:List Addr) (ξ:XK) (Dn:Ends):Fl->Prop
 | .nx ρ' M'=> ∀ σ' H' α',Ext K H H' α α'->HR K H' α' M'->SR K H' α' σ' ρ'->Dn.nx σ' H'
 | .brk ρ' M'=> ∀ σ' H' α',Ext K H H' α α'->HR K H' α' M'->SR K H' α' σ' ρ'->Dn.bk σ' H'
 | .cnt ρ' M'=> ∀ σ' H' α',Ext K H H' α α'->HR K H' α' M'->SR K H' α' σ' ρ'->Dn.ct σ' H'
 | .ret d M'=> ∀ v H' α',Ext K H H' α α'->HR K H' α' M'->Rep K H' α' v d->Dn.rt v H'
 | .exc c M'=> ∀ C H' α',PySem.W.nsIn K mainGlobals c=some (some (.ref C))->Ext K H H' α α'->HR K H' α' M'->ξ (.ref C) none H'
 | .bad=>False
theorem FP.ext {K:PySem.W.Frag} {H H1:Hp} {α α1:List Addr} {ξ:XK} {Dn:Ends} {o:Fl} (h:FP K H α ξ Dn o) (e:Ext K H H1 α α1):FP K H1 α1 ξ Dn o:=by
 cases o with
 |nx ρ M=>exact fun σ' H' α' e'=>h σ' H' α' (e.trans e')
 |brk ρ M=>exact fun σ' H' α' e'=>h σ' H' α' (e.trans e')
 |cnt ρ M=>exact fun σ' H' α' e'=>h σ' H' α' (e.trans e')
 |ret d M=>exact fun v H' α' e'=>h v H' α' (e.trans e')
 |exc c M=>exact fun C H' α' n e'=>h C H' α' n (e.trans e')
 |bad=>exact h
noncomputable def DS (X:Cx) (ξ:XK) (st:Stmt) (g:Sv):Prop:= ∃ t:TS,PS X st t/\ ∀ σ ρ H α M Dn,SR X.K H α σ ρ->HR X.K H α M->FP X.K H α ξ Dn (g ρ M)->t Dn σ H
noncomputable def DSs (X:Cx) (ξ:XK) (st:List Stmt) (g:Sv):Prop:= ∃ t:TS,PSs X st t/\ ∀ σ ρ H α M Dn,SR X.K H α σ ρ->HR X.K H α M->FP X.K H α ξ Dn (g ρ M)->t Dn σ H
noncomputable def ZaY {β:Type} (o:Out β) (k:β->Sto->Fl):Fl:=match o with
 | .ok a M=>k a M
 | .exc c M=> .exc c M
 | .bad=> .bad
theorem FP.seq {β γ:Type} {K:PySem.W.Frag} {R:Hp->List Addr->γ->β->Prop} {H:Hp} {α:List Addr} {ξ:XK} {Dn:Ends} {Q1:γ->Hp->Prop} {o:Out β} {f:β->Sto->Fl}
  (h:FP K H α ξ Dn (ZaY o f)) (k: ∀ d M' v H' α',Ext K H H' α α'->HR K H' α' M'->R H' α' v d->FP K H' α' ξ Dn (f d M')->Q1 v H'):OG K R H α ξ Q1 o:=by
 cases o with
 |ok d M'=>exact fun v H' α' e hr r=>k d M' v H' α' e hr r (FP.ext (o:=f d M') h e)
 |exc c M'=>exact h
 |bad=>exact h
noncomputable def Zu (g h:Sv):Sv:=fun ρ M=>match g ρ M with
 | .nx ρ1 M1=>h ρ1 M1
 |o=>o
noncomputable def sNil:Sv:=fun ρ M=> .nx ρ M
noncomputable def Zaf (f:Ev):Sv:=fun ρ M=>ZaY (f ρ M) fun d M1=> .ret d M1
noncomputable def Zqf:Sv:=fun _ M=> .ret .non M
noncomputable def ZaJ (f:Ev):Sv:=fun ρ M=>ZaY (f ρ M) fun _ M1=> .nx ρ M1
noncomputable def sIf (c:Tv) (g h:Sv):Sv:=fun ρ M=>ZaY (c ρ M) fun k M1=>if k=true then g ρ M1 else h ρ M1
noncomputable def ZtC:Sv:=fun ρ M=> .brk ρ M
noncomputable def ZtD:Sv:=fun ρ M=> .cnt ρ M
noncomputable abbrev Tg:=D->Ro->Option Ro
noncomputable abbrev Tgs:=List D->Ro->Option Ro
noncomputable def gNm (i:Nat):Tg:=fun d ρ=>some (ρ.set i (some d))
noncomputable def gNl:Tgs:=fun ds ρ=>match ds with | []=>some ρ | _=>none
noncomputable def gCs (g:Tg) (gs:Tgs):Tgs:=fun ds ρ=>match ds with | d :: r=>(match g d ρ with | some ρ1=>gs r ρ1 | none=>none) | []=>none
noncomputable def gTp (gs:Tgs):Tg:=fun d ρ=>match d with | .tup ds=>gs ds ρ | _=>none
noncomputable def ZD (g:Tg) (f:Ev):Sv:=fun ρ M=>ZaY (f ρ M) fun d M1=>match g d ρ with | some ρ1=> .nx ρ1 M1 | none=> .bad
noncomputable def ZeI (i j:Nat) (fs:Av):Sv:=fun ρ M=>ZaY (fs ρ M) fun ds M1=>match ds with | [v,w]=> .nx ((ρ.set i (some v)).set j (some w)) M1 | _=> .bad
noncomputable def Zqg (fo fi fe:Ev):Sv:=fun ρ M=>ZaY (fe ρ M) fun d M1=>ZaY (fo ρ M1) fun o M2=>ZaY (fi ρ M2) fun i M3=>match o,i with
 | .ref n,.int k=>(match M3[n]? with
  |some (.lst xs)=>(match ixN xs.length k with | some j=> .nx ρ (M3.set n (.lst (xs.set j d))) | none=> .bad)
  |_=> .bad)
 |_,_=> .bad
section
variable {X:Cx} {ξ:XK} {st:Stmt} {sts:List Stmt} {g h:Sv} {e:Expr} {f:Ev} {pos:Pos} {c:Expr} {fc:Tv}
theorem Z4:DSs X ξ [] sNil:=⟨_,ZkA,fun σ ρ H α M Dn s h q=>q σ H α Ext.refl h s⟩
theorem Zg (h1:DS X ξ st g) (h2:DSs X ξ sts h):DSs X ξ (st :: sts) (Zu g h):=by
 obtain ⟨t1,p1,q1⟩:=h1
 obtain ⟨t2,p2,q2⟩:=h2
 refine ⟨_,ZiB p1 p2,fun σ ρ H α M Dn s hh q=>q1 σ ρ H α M { Dn with nx:=t2 Dn } s hh ?_⟩
 unfold Zu at q
 cases e:g ρ M with
 |nx ρ1 M1=>rw[e] at q;exact fun σ' H' α' ex hr sr=>q2 σ' ρ1 H' α' M1 Dn sr hr (FP.ext q ex)
 |brk ρ1 M1=>rw[e] at q;exact q
 |cnt ρ1 M1=>rw[e] at q;exact q
 |ret d M1=>rw[e] at q;exact q
 |exc c M1=>rw[e] at q;exact q
 |bad=>rw[e] at q;exact q
theorem Zi (h1:DS X ξ st g):DSs X ξ [st] g:=let ⟨_,p,q⟩:=h1;⟨_,ZkB p,q⟩
theorem ZG (he:DE X ξ e f):DS X ξ (.Return (some e) pos) (Zaf f):=by
 obtain ⟨t,p,q⟩:=he
 exact ⟨_,Zmv p,fun σ ρ H α M Dn s hh w=>q σ ρ H α M _ s hh (FP.seq w fun d M1 v H1 α1 e1 h1 r1 w1=>w1 v H1 α1 Ext.refl h1 r1)⟩
theorem ZaZ (he:DE X ξ e f) (hs:swapsWith e none pos.line X.env=pure false:=by rfl):DS X ξ (.Expr e pos) (ZaJ f):=by
 obtain ⟨t,p,q⟩:=he
 exact ⟨_,ZkC p hs,fun σ ρ H α M Dn s hh w=>q σ ρ H α M _ s hh (FP.seq w fun d M1 v H1 α1 e1 h1 r1 w1=>w1 σ H1 α1 Ext.refl h1 (s.mono e1))⟩
theorem Zbk {a b:List Stmt} (hc:DT X ξ c fc) (ha:DSs X ξ a g) (hb:DSs X ξ b h):DS X ξ (.If c a b pos) (sIf fc g h):=by
 obtain ⟨tc,pc,qc⟩:=hc
 obtain ⟨ta,pa,qa⟩:=ha
 obtain ⟨tb,pb,qb⟩:=hb
 refine ⟨_,ZpY pc pa pb,fun σ ρ H α M Dn s hh w=>qc σ ρ H α M _ s hh (FP.seq w fun k M1 v H1 α1 e1 h1 r1 w1=> ?_)⟩
 cases r1
 cases k with
 |true=>exact ZiQ (qa σ ρ H1 α1 M1 Dn (s.mono e1) h1 w1)
 |false=>exact ZiP (qb σ ρ H1 α1 M1 Dn (s.mono e1) h1 w1)
noncomputable def DG (X:Cx) (tg:Expr) (g:Tg):Prop:= ∃ t:TG,PG X tg t/\ ∀ v d σ ρ H α ρ' Q,SR X.K H α σ ρ->Rep X.K H α v d->g d ρ=some ρ'->(∀ σ',SR X.K H α σ' ρ'->Q σ' H)->t v σ H Q
noncomputable def DGs (X:Cx) (tgs:List Expr) (g:Tgs):Prop:= ∃ t:TGs,PGs X tgs t/\ ∀ vs ds σ ρ H α ρ' Q,SR X.K H α σ ρ->Reps X.K H α vs ds->g ds ρ=some ρ'->(∀ σ',SR X.K H α σ' ρ'->Q σ' H)->t vs σ H Q
theorem Zp (i:Nat) {x:Str} (hN:X.N.Nodup) (hi:X.N[i]?=some x:=by rfl) (hx:Loc X.env.scope x:=by first | exact Or.inl rfl | exact Or.inr rfl) (hf:X.fn x=true\/X.env.scope.names.lookup x=some .local:=by first | exact .inl rfl | exact .inr rfl | assumption):DG X (.Name x pos) (gNm i):=by
 refine ⟨_,ZkD hN hi hx hf,fun v d σ ρ H α ρ' Q s r e k=> ?_⟩
 cases e
 exact k _ (s.set i r)
theorem ZaG:DGs X [] gNl:=by
 refine ⟨_,ZkE,fun vs ds σ ρ H α ρ' Q s r e k=> ?_⟩
 cases r with
 |nil=>cases e;exact ⟨rfl,k _ s⟩
 |cons _ _=>cases e
theorem Zx {es:List Expr} {g:Tg} {gs:Tgs} (h1:DG X e g) (h2:DGs X es gs) (hs:(assignEach (e :: es) X.env).map (·.2)=assign e X.env :: (assignEach es X.env).map (·.2):=by rfl):DGs X (e :: es) (gCs g gs):=by
 obtain ⟨t1,p1,q1⟩:=h1
 obtain ⟨t2,p2,q2⟩:=h2
 refine ⟨_,ZiC p1 p2 hs,fun vs ds σ ρ H α ρ' Q s r e k=> ?_⟩
 cases r with
 |nil=>cases e
 |cons r rr=>
  rename_i v d vs ds
  cases e1:g d ρ with
  |none=>simp only[gCs,e1] at e;cases e
  |some ρ1=>
   simp only[gCs,e1] at e
   exact ⟨v,vs,rfl,q1 v d σ ρ H α ρ1 _ s r e1 fun σ' s'=>q2 vs ds σ' ρ1 H α ρ' Q s' rr e k⟩
theorem Zbq {es:List Expr} {k:Nat} {gs:Tgs} {n:Nat} (hc:X.calm=true) (h:DGs X es gs) (hn:(assignEach es X.env).length=n:=by rfl) (hlen: ∀ ds ρ ρ',gs ds ρ=some ρ'->ds.length=n) (hst:(assignEach es X.env).findIdx? (·.1)=none:=by rfl):DG X (.Tuple es k pos) (gTp gs):=by
 obtain ⟨t,p,q⟩:=h
 refine ⟨_,Zmx hc p hn hst,fun v d σ ρ H α ρ' Q s r e k=> ?_⟩
 cases r with
 | @tup a xs ds hp rp=>
  have e':gs ds ρ=some ρ':=e
  exact ⟨a,xs,rfl,(SqT.of hp),by rw[rp.length];exact hlen ds ρ ρ' e',q xs ds σ ρ H α ρ' Q s rp e' k⟩
 |_=>cases e
theorem ZaH {ds:List D} {ρ ρ':Ro} (h:gNl ds ρ=some ρ'):ds.length=0:=by cases ds with | nil=>rfl | cons _ _=>cases h
theorem ZE {g:Tg} {gs:Tgs} {n:Nat} (h: ∀ ds ρ ρ',gs ds ρ=some ρ'->ds.length=n) (ds:List D) (ρ ρ':Ro) (e:gCs g gs ds ρ=some ρ'):ds.length=n + 1:=by
 cases ds with
 |nil=>cases e
 |cons d r=>
  cases e1:g d ρ with
  |none=>simp only[gCs,e1] at e;cases e
  |some ρ1=>simp only[gCs,e1] at e;rw[List.length_cons,h r ρ1 ρ' e]
theorem Zm (i:Nat) {x:Str} {pos':Pos} (hN:X.N.Nodup) (he:DE X ξ e f) (hi:X.N[i]?=some x:=by rfl) (hx:Loc X.env.scope x:=by first | exact Or.inl rfl | exact Or.inr rfl) (hs:swapsWith e (some (.Name x pos')) pos.line X.env=pure false:=by rfl) (hf:X.fn x=true\/X.env.scope.names.lookup x=some .local:=by first | exact .inl rfl | exact .inr rfl | assumption):
  DS X ξ (.Assign [.Name x pos'] e pos) (ZD (gNm i) f):=by
 obtain ⟨t,p,q⟩:=he
 exact ⟨_,Zmz hN hi hx p hs hf,fun σ ρ H α M Dn s hh w=>q σ ρ H α M _ s hh (FP.seq w fun d M1 v H1 α1 e1 h1 r1 w1=>w1 _ H1 α1 Ext.refl h1 ((s.mono e1).set i r1))⟩
theorem ZjW {tg:Expr} {gt:Tg} (he:DE X ξ e f) (hg:DG X tg gt) (hs:swapsWithSole [tg] e pos.line X.env=pure false:=by rfl) (hw:swappedStores [tg] e X.env=pure none:=by rfl)
  (h1:(assignEach [tg] X.env).map (·.2)=[assign tg X.env]:=by rfl):DS X ξ (.Assign [tg] e pos) (ZD gt f):=by
 obtain ⟨t,p,q⟩:=he
 obtain ⟨tt,pt,qt⟩:=hg
 refine ⟨_,Zmy p pt hs hw h1,fun σ ρ H α M Dn s hh w=>q σ ρ H α M _ s hh (FP.seq w fun d M1 v H1 α1 e1 h1 r1 w1=> ?_)⟩
 cases eg:gt d ρ with
 |none=>simp only[eg] at w1;exact w1.elim
 |some ρ1=>
  simp only[eg] at w1
  exact qt v d σ ρ H1 α1 ρ1 _ (s.mono e1) r1 eg fun σ' s'=>w1 σ' H1 α1 Ext.refl h1 s'
theorem Zdg (i j:Nat) {x y:Str} {a b:Expr} {fs:Av} {px py pt:Pos} {kt k2 pt2} (hc:X.calm=true) (hN:X.N.Nodup) (ha:DA X ξ [a,b] fs) (hi:X.N[i]?=some x:=by rfl) (hj:X.N[j]?=some y:=by rfl) (hij:i≠j:=by decide)
  (hx:X.env.scope.names.lookup x=some .local:=by rfl) (hy:X.env.scope.names.lookup y=some .local:=by rfl)
  (hw:swappedStores [.Tuple [.Name x px,.Name y py] kt pt] (.Tuple [a,b] k2 pt2) X.env=pure (some [x,y]):=by rfl)
  (hs:swapsWithSole [.Tuple [.Name x px,.Name y py] kt pt] (.Tuple [a,b] k2 pt2) pos.line X.env=pure false:=by rfl):
  DS X ξ (.Assign [.Tuple [.Name x px,.Name y py] kt pt] (.Tuple [a,b] k2 pt2) pos) (ZeI i j fs):=by
 obtain ⟨t,p,q⟩:=ha
 refine ⟨_,ZmA hc hN hi hj hij hx hy p hw hs,fun σ ρ H α M Dn s hh w=>q σ ρ H α M _ s hh (FP.seq w fun ds M1 vs H1 α1 e1 h1 r1 w1=> ?_)⟩
 match r1 with
 | .nil=>exact w1.elim
 | .cons _ .nil=>exact w1.elim
 | .cons _ (.cons _ (.cons _ _))=>exact w1.elim
 | .cons r (.cons r' .nil)=>exact ⟨_,_,rfl,w1 _ H1 α1 Ext.refl h1 (((s.mono e1).set i r).set j r')⟩
noncomputable def whN (c:Tv) (g:Sv):Nat->Ro->Sto->Option Fl
 |0,_,_=>none
 |n + 1,ρ,M=>match c ρ M with
  | .ok true M1=>(match g ρ M1 with
   | .nx ρ2 M2=>whN c g n ρ2 M2
   | .cnt ρ2 M2=>whN c g n ρ2 M2
   | .brk ρ2 M2=>some (.nx ρ2 M2)
   |o=>some o)
  | .ok false M1=>some (.nx ρ M1)
  | .exc e M1=>some (.exc e M1)
  | .bad=>some .bad
theorem ZcC {c:Tv} {g:Sv}: ∀ {n:Nat} {ρ:Ro} {M:Sto} {o:Fl},whN c g n ρ M=some o-> ∀ k,whN c g (n + k) ρ M=some o
 |0,_,_,_,e,_=>by simp only[whN] at e;cases e
 |n + 1,ρ,M,o,e,k=>by
  have ek:n + 1 + k=(n + k) + 1:=by omega
  rw[ek]
  unfold whN at e ⊢
  cases ec:c ρ M with
  |bad=>rw[ec] at e;exact e
  |exc x M1=>rw[ec] at e;exact e
  |ok b M1=>
   rw[ec] at e
   cases b with
   |false=>exact e
   |true=>
    cases eg:g ρ M1 with
    |nx ρ2 M2=>simp only[eg] at e ⊢;exact ZcC e k
    |cnt ρ2 M2=>simp only[eg] at e ⊢;exact ZcC e k
    |brk ρ2 M2=>simp only[eg] at e ⊢;exact e
    |ret d M2=>simp only[eg] at e ⊢;exact e
    |exc x M2=>simp only[eg] at e ⊢;exact e
    |bad=>simp only[eg] at e ⊢;exact e
open Classical in
noncomputable def sWh (c:Tv) (g:Sv):Sv:=fun ρ M=>if h: ∃ o n,whN c g n ρ M=some o then Classical.choose h else .bad
theorem Zco {c:Tv} {g:Sv} {n:Nat} {ρ:Ro} {M:Sto} {o:Fl} (e:whN c g n ρ M=some o):sWh c g ρ M=o:=by
 have hx: ∃ o n,whN c g n ρ M=some o:=⟨o,n,e⟩
 unfold sWh
 rw[dif_pos hx]
 obtain ⟨m,em⟩:=Classical.choose_spec hx
 have h1:=ZcC em n
 have h2:=ZcC e m
 rw[Nat.add_comm] at h2
 rw[h1] at h2
 exact Option.some.inj h2
theorem Zhg {c:Tv} {g:Sv} {ρ:Ro} {M:Sto} (e:sWh c g ρ M≠ .bad): ∃ n,whN c g n ρ M=some (sWh c g ρ M):=by
 by_cases hx: ∃ o n,whN c g n ρ M=some o
 ·obtain ⟨o,n,h⟩:=hx
  exact ⟨n,by rw[Zco h];exact h⟩
 ·unfold sWh at e
  rw[dif_neg hx] at e
  exact absurd rfl e
theorem Zhh {c:Tv} {g:Sv} {ρ:Ro} {M M1:Sto} (h:c ρ M= .ok false M1):sWh c g ρ M= .nx ρ M1:=Zco (n:=1) (by simp only[whN,h])
theorem Zi4 {c:Tv} {g:Sv} {ρ ρ2:Ro} {M M1 M2:Sto} (h:c ρ M= .ok true M1) (h2:g ρ M1= .nx ρ2 M2) (hb:sWh c g ρ2 M2≠ .bad):sWh c g ρ M=sWh c g ρ2 M2:=by
 obtain ⟨n,e⟩:=Zhg hb
 exact Zco (n:=n + 1) (by simp only[whN,h,h2];exact e)
theorem Zfr {body:List Stmt} (hp:PassesOwn (model X.prog X.w) X.A X.env X.xe) (hc:DT X ξ c fc) (hb:DSs X ξ body g):DS X ξ (.While c body [] pos) (sWh fc g):=by
 obtain ⟨tc,pc,qc⟩:=hc
 obtain ⟨tb,pb,qb⟩:=hb
 refine ⟨_,ZiD hp pc pb,fun σ ρ H α M Dn s hh w=> ?_⟩
 have nb:sWh fc g ρ M≠ .bad:=fun z=>by rw[z] at w;exact w
 obtain ⟨n,en⟩:=Zhg nb
 generalize sWh fc g ρ M=o at w en
 refine ⟨fun m σ' H'=> ∃ ρ' α' M',Ext X.K H H' α α'/\SR X.K H' α' σ' ρ'/\HR X.K H' α' M'/\whN fc g m ρ' M'=some o,⟨n,ρ,α,M,Ext.refl,s,hh,en⟩,?_⟩
 rintro m σ1 H1 ⟨ρ1,α1,M1,e1,s1,h1,en1⟩
 cases m with
 |zero=>simp only[whN] at en1;cases en1
 |succ m=>
  refine qc σ1 ρ1 H1 α1 M1 _ s1 h1 ?_
  unfold whN at en1
  cases ec:fc ρ1 M1 with
  |bad=>rw[ec] at en1;cases en1;exact w.elim
  |exc x M2=>
   rw[ec] at en1;cases en1
   exact fun C H' α' nn ex hr=>w C H' α' nn (e1.trans ex) hr
  |ok b M2=>
   rw[ec] at en1
   intro v H2 α2 e2 h2 ev
   cases ev
   cases b with
   |false=>
    cases en1
    exact ZiP (w σ1 H2 α2 (e1.trans e2) h2 (s1.mono e2))
   |true=>
    refine ZiQ ⟨fun σ' H'=> ∃ ρ' α' M',Ext X.K H H' α α'/\SR X.K H' α' σ' ρ'/\HR X.K H' α' M'/\whN fc g m ρ' M'=some o,fun σ' H' z=>⟨m,Nat.lt_succ_self m,z⟩,?_⟩
    refine qb σ1 ρ1 H2 α2 M2 _ (s1.mono e2) h2 ?_
    have e12:=e1.trans e2
    cases eg:g ρ1 M2 with
    |nx ρ2 M3=>simp only[eg] at en1;exact fun σ' H' α' ex hr sr=>⟨ρ2,α',M3,e12.trans ex,sr,hr,en1⟩
    |cnt ρ2 M3=>simp only[eg] at en1;exact fun σ' H' α' ex hr sr=>⟨ρ2,α',M3,e12.trans ex,sr,hr,en1⟩
    |brk ρ2 M3=>simp only[eg] at en1;cases en1;exact fun σ' H' α' ex hr sr=>w σ' H' α' (e12.trans ex) hr sr
    |ret d M3=>simp only[eg] at en1;cases en1;exact fun v H' α' ex hr sr=>w v H' α' (e12.trans ex) hr sr
    |exc x M3=>simp only[eg] at en1;cases en1;exact fun C H' α' nn ex hr=>w C H' α' nn (e12.trans ex) hr
    |bad=>simp only[eg] at en1;cases en1;exact w.elim
noncomputable def ZbL (tg:Tg) (g:Sv):List D->Ro->Sto->Fl
 | [],ρ,M=> .nx ρ M
 |d :: r,ρ,M=>match tg d ρ with
  |none=> .bad
  |some ρ1=>(match g ρ1 M with
   | .nx ρ2 M2=>ZbL tg g r ρ2 M2
   | .cnt ρ2 M2=>ZbL tg g r ρ2 M2
   | .brk ρ2 M2=> .nx ρ2 M2
   |o=>o)
noncomputable def Zgv (tg:Tg) (g:Sv) (n:Nat):Nat->Nat->Ro->Sto->Fl
 |f,i,ρ,M=>match M[n]? with
  |some (.lst xs)=>(match xs[i]? with
   |none=> .nx ρ M
   |some d=>(match f with
    |0=> .bad
    |f + 1=>(match tg d ρ with
     |none=> .bad
     |some ρ1=>(match g ρ1 M with
      | .nx ρ2 M2=>Zgv tg g n f (i + 1) ρ2 M2
      | .cnt ρ2 M2=>Zgv tg g n f (i + 1) ρ2 M2
      | .brk ρ2 M2=> .nx ρ2 M2
      |o=>o))))
  |none=> .bad
noncomputable def Zbs (lo:Int) (n:Nat):List D:=(List.range n).map fun (i:Nat)=>D.int (lo + i)
noncomputable def ZjX (tg:Tg) (g:Sv) (d:D) (ρ:Ro) (M:Sto):Fl:=match d with
 | .tup xs=>ZbL tg g xs ρ M
 | .rol xs=>ZbL tg g xs ρ M
 | .ref n=>(match M[n]? with | some (.lst xs)=>Zgv tg g n xs.length 0 ρ M | none=> .bad)
 |_=> .bad
noncomputable def Zgw (tg:Tg) (f:Ev) (g:Sv):Sv:=fun ρ M=>ZaY (f ρ M) fun d M1=>ZjX tg g d ρ M1
noncomputable def Zb0 (tg:Tg) (fs:Av) (g:Sv):Sv:=fun ρ M=>ZaY (fs ρ M) fun ds M1=>match ds with
 | [.int j]=>if -(2 ^ 62)<=j/\j < 2 ^ 62 then ZbL tg g (Zbs 0 j.toNat) ρ M1 else .bad
 |_=> .bad
noncomputable def Zhi (tg:Tg) (fs:Av) (g:Sv):Sv:=fun ρ M=>ZaY (fs ρ M) fun ds M1=>match ds with
 | [.int i,.int j]=>if -(2 ^ 62)<=i/\i < 2 ^ 62/\ -(2 ^ 62)<=j/\j < 2 ^ 62 then ZbL tg g (Zbs i (j - i).toNat) ρ M1 else .bad
 |_=> .bad
theorem Zfs {lo:Int} {n i:Nat} (h:i < n):(Zbs lo n)[i]?=some (.int (lo + i)):=by
 unfold Zbs
 rw[List.getElem?_map,List.getElem?_range h]
 rfl
theorem Zdv {lo:Int} {n:Nat}:(Zbs lo n).length=n:=by unfold Zbs;rw[List.length_map,List.length_range]
theorem Zhj {lo:Int} {n i:Nat} (h:i < n):(Zbs lo n).drop i= .int (lo + i) :: (Zbs lo n).drop (i + 1):=by
 have hl:i < (Zbs lo n).length:=by rw[Zdv];exact h
 have e:=Zfs (lo:=lo) h
 rw[List.getElem?_eq_getElem hl] at e
 rw[List.drop_eq_getElem_cons hl,Option.some.inj e]
theorem Zi5 {tg:Expr} {gt:Tg} {tt:TG} {tb:TS} {Dn:Ends} {H H1:Hp} {α α1:List Addr} {o:Fl} {k:Ro->Sto->Fl} (w:FP X.K H α ξ Dn o)
  (qt: ∀ v d σ ρ H α ρ' Q,SR X.K H α σ ρ->Rep X.K H α v d->gt d ρ=some ρ'->(∀ σ',SR X.K H α σ' ρ'->Q σ' H)->tt v σ H Q) (qb: ∀ σ ρ H α M Dn,SR X.K H α σ ρ->HR X.K H α M->FP X.K H α ξ Dn (g ρ M)->tb Dn σ H)
  {v:V} {d:D} {σ1:L2.St} {ρ1:Ro} {M1:Sto} (e1:Ext X.K H H1 α α1) (s1:SR X.K H1 α1 σ1 ρ1) (h1:HR X.K H1 α1 M1) (r:Rep X.K H1 α1 v d)
  (en:(match gt d ρ1 with | none=>Fl.bad | some ρ2=>(match g ρ2 M1 with | .nx ρ3 M3=>k ρ3 M3 | .cnt ρ3 M3=>k ρ3 M3 | .brk ρ3 M3=> .nx ρ3 M3 | o=>o))=o)
  {N:L2.St->Hp->Prop} (hN: ∀ σ' H',(∃ ρ' α' M',Ext X.K H H' α α'/\SR X.K H' α' σ' ρ'/\HR X.K H' α' M'/\k ρ' M'=o)->N σ' H'):tt v σ1 H1 fun σ2 H2=>tb { Dn with nx:=N,ct:=N,bk:=Dn.nx } σ2 H2:=by
 cases eg:gt d ρ1 with
 |none=>rw[eg] at en;cases en;exact w.elim
 |some ρ2=>
  simp only[eg] at en
  refine qt v d σ1 ρ1 H1 α1 ρ2 _ s1 r eg fun σ2 s2=>qb σ2 ρ2 H1 α1 M1 _ s2 h1 ?_
  cases ex:g ρ2 M1 with
  |nx ρ3 M3=>simp only[ex] at en;exact fun σ' H' α' e2 hr sr=>hN _ _ ⟨ρ3,α',M3,e1.trans e2,sr,hr,en⟩
  |cnt ρ3 M3=>simp only[ex] at en;exact fun σ' H' α' e2 hr sr=>hN _ _ ⟨ρ3,α',M3,e1.trans e2,sr,hr,en⟩
  |brk ρ3 M3=>simp only[ex] at en;cases en;exact fun σ' H' α' e2 hr sr=>w σ' H' α' (e1.trans e2) hr sr
  |ret d M3=>simp only[ex] at en;cases en;exact fun v H' α' e2 hr sr=>w v H' α' (e1.trans e2) hr sr
  |exc x M3=>simp only[ex] at en;cases en;exact fun C H' α' nn e2 hr=>w C H' α' nn (e1.trans e2) hr
  |bad=>simp only[ex] at en;cases en;exact w.elim
theorem Zm8 {tg:Expr} {gt:Tg} {tt:TG} {tb:TS} {Dn:Ends} {H:Hp} {α:List Addr} {lo:Int} {n:Nat} {σ:L2.St} {ρ:Ro} {M:Sto}
  (qt: ∀ v d σ ρ H α ρ' Q,SR X.K H α σ ρ->Rep X.K H α v d->gt d ρ=some ρ'->(∀ σ',SR X.K H α σ' ρ'->Q σ' H)->tt v σ H Q) (qb: ∀ σ ρ H α M Dn,SR X.K H α σ ρ->HR X.K H α M->FP X.K H α ξ Dn (g ρ M)->tb Dn σ H)
  (s:SR X.K H α σ ρ) (hh:HR X.K H α M) (w:FP X.K H α ξ Dn (ZbL gt g (Zbs lo n) ρ M)):
  ∃ W:Nat->Nat->L2.St->Hp->Prop,(∃ m,W 0 m σ H)/\ ∀ i m σ H,W i m σ H->
   ((Itr lo n).stop i H/\Dn.nx σ H)\/((Itr lo n).go i H/\ ∃ N:L2.St->Hp->Prop,(∀ σ' H',N σ' H'-> ∃ m',m' < m/\W (i + 1) m' σ' H')/\ ∀ x H',(Itr lo n).yld i H x H'->tt x σ H' fun σ2 H2=>tb { Dn with nx:=N,ct:=N,bk:=Dn.nx } σ2 H2):=by
 generalize ho:ZbL gt g (Zbs lo n) ρ M=o at w
 refine ZgJ (fun i σ' H'=> ∃ ρ' α' M',Ext X.K H H' α α'/\SR X.K H' α' σ' ρ'/\HR X.K H' α' M'/\ZbL gt g ((Zbs lo n).drop i) ρ' M'=o) ⟨ρ,α,M,Ext.refl,s,hh,ho⟩ ?_ ?_
 ·rintro i σ1 H1 hi ⟨ρ1,α1,M1,e1,s1,h1,en⟩
  rw[Zhj hi] at en
  exact Zi5 (tg:=tg) w qt qb e1 s1 h1 (.int (lo + i)) en (fun σ' H' z=>z)
 ·rintro σ1 H1 ⟨ρ1,α1,M1,e1,s1,h1,en⟩
  rw[List.drop_eq_nil_of_le (by rw[Zdv];exact Nat.le_refl _)] at en
  cases en
  exact w σ1 H1 α1 e1 h1 s1
theorem ZcD {tg a:Expr} {gt:Tg} {fs:Av} {body:List Stmt} {p p2:Pos} (hp:PassesOwn (model X.prog X.w) X.A X.env X.xe) (hm:X.mg "range"=none) (ha:DA X ξ [a] fs) (hg:DG X tg gt) (hb:DSs X ξ body g)
  (hgl:Gl X "range":=by rfl) (hs:starEach [a] X.env=[(false,eval a X.env)]:=by rfl) (hf: ∀ x,foldedSetIterable (.Call (.Name "range" p) [a] [] p2) X.env x=pure x:=by intro _;rfl):DS X ξ (.For tg (.Call (.Name "range" p) [a] [] p2) body [] pos) (Zb0 gt fs g):=by
 obtain ⟨ta,pa,qa⟩:=ha
 obtain ⟨tt,pt,qt⟩:=hg
 obtain ⟨tb,pb,qb⟩:=hb
 refine ⟨_,ZgI hp (ZdW hgl hm pa hs) pt pb hf,fun σ ρ H α M Dn s hh w=>qa σ ρ H α M _ s hh (FP.seq w fun ds M1 vs H1 α1 e1 h1 r1 w1=> ?_)⟩
 match r1 with
 | .nil=>exact w1.elim
 | .cons r (.cons _ _)=>cases r<;>exact w1.elim
 | .cons r .nil=>
  cases r with
  |int j=>
   by_cases c: -(2 ^ 62)<=j/\j < 2 ^ 62
   ·simp only[if_pos c] at w1
    exact ⟨j,rfl,c.1,c.2,Zm8 (tg:=tg) qt qb (s.mono e1) h1 w1⟩
   ·simp only[if_neg c] at w1
    exact w1.elim
  |_=>exact w1.elim
noncomputable def ZtE (K:PySem.W.Frag) (tl:TE):TI:=fun σ H R=>tl σ H fun x H1=> ∃ a,x= .ref a/\(((∃ xs,SqL K H1 a xs)/\R (Itl K a) H1)\/((∃ xs,SqT K H1 a xs)/\R (Itt K a) H1))
theorem ZjY {tg l:Expr} {tl:TE} (hl:PE X l tl):PI X tg l (ZtE X.K tl):=by
 intro pins s σ H R I h
 refine thn (hl pins s σ H _ I h) fun v s1 ⟨x,H1,I1,r1,q1⟩=> ?_
 obtain ⟨a,e,q⟩:=q1
 subst e
 cases r1
 have fp: ∀ b∈[s1.heap.objs.size],ZdV X pins H1 b:=fun b hb=>by
  have e:b=s1.heap.objs.size:=by simpa using hb
  subst e
  exact I1.fpOk (Nat.le_refl _) (I1.hok.fresh (Nat.le_refl _))
 rcases q with ⟨⟨xs,hq⟩,q⟩ | ⟨⟨xs,hq⟩,q⟩
 ·obtain ⟨its,rv,p,hz⟩:=I1.list hq
  refine wpAny_pyIter_list p.isList ?_
  exact ⟨s1.heap.objs.size,[s1.heap.objs.size],_,_,H1,rfl,I1.kept (t':=s1.toks) fun b o e=>Heap.get?_push_of_some _ e,ZgG a _,⟨_,Heap.get?_push_size _ rfl,rfl,rfl⟩,fp,q⟩
 ·obtain ⟨its,rv,p,hz⟩:=I1.tuple hq
  refine wpAny_pyIter_tuple (show s1.heap.IsTuple a its.toArray from p) ?_
  exact ⟨s1.heap.objs.size,[s1.heap.objs.size],_,_,H1,rfl,I1.kept (t':=s1.toks) fun b o e=>Heap.get?_push_of_some _ e,ZfS a _,⟨_,Heap.get?_push_size _ rfl,rfl,rfl⟩,fp,q⟩
theorem Zea {tg l:Expr} {gt:Tg} {f:Ev} {body:List Stmt} (hp:PassesOwn (model X.prog X.w) X.A X.env X.xe) (hl:DE X ξ l f) (hg:DG X tg gt) (hb:DSs X ξ body g)
  (hf: ∀ x,foldedSetIterable l X.env x=pure x:=by intro _;rfl):DS X ξ (.For tg l body [] pos) (Zgw gt f g):=by
 obtain ⟨ta,pa,qa⟩:=hl
 obtain ⟨tt,pt,qt⟩:=hg
 obtain ⟨tb,pb,qb⟩:=hb
 refine ⟨_,ZgI hp (ZjY pa) pt pb hf,fun σ ρ H α M Dn s hh w=>qa σ ρ H α M _ s hh (FP.seq w fun d M1 v H1 α1 e1 h1 r1 w1=> ?_)⟩
 have s1:=s.mono e1
 have pure_: ∀ (ds:List D) (xs:List V),Reps X.K H1 α1 xs ds->FP X.K H1 α1 ξ Dn (ZbL gt g ds ρ M1)-> ∀ (i:Nat) σ' H',(∃ ρ' α' M',Ext X.K H1 H' α1 α'/\SR X.K H' α' σ' ρ'/\HR X.K H' α' M'/\ZbL gt g (ds.drop i) ρ' M'=ZbL gt g ds ρ M1)->
   (∀ x,xs[i]?=some x->tt x σ' H' fun σ2 H2=>tb { Dn with nx:=fun σ H=> ∃ ρ' α' M',Ext X.K H1 H α1 α'/\SR X.K H α' σ ρ'/\HR X.K H α' M'/\ZbL gt g (ds.drop (i + 1)) ρ' M'=ZbL gt g ds ρ M1,ct:=fun σ H=> ∃ ρ' α' M',Ext X.K H1 H α1 α'/\SR X.K H α' σ ρ'/\HR X.K H α' M'/\ZbL gt g (ds.drop (i + 1)) ρ' M'=ZbL gt g ds ρ M1,bk:=Dn.nx } σ2 H2)/\
   (i=xs.length->Dn.nx σ' H'):=by
  intro ds xs r w1 i σ' H' ⟨ρ',α',M',ex,sr,hr,en⟩
  refine ⟨fun x hx=> ?_,fun hi=> ?_⟩
  ·have hi:i < ds.length:=by rw[<- r.length];exact (List.getElem?_eq_some_iff.mp hx).1
   obtain ⟨v,g1,g2⟩:=r.get (List.getElem?_eq_getElem hi)
   rw[hx] at g1
   cases g1
   rw[List.drop_eq_getElem_cons hi] at en
   exact Zi5 (tg:=tg) w1 qt qb ex sr hr (Rep.mono ex g2) en (fun σ' H' z=>z)
  ·rw[hi,r.length,List.drop_length] at en
   have en':Fl.nx ρ' M'=ZbL gt g ds ρ M1:=en
   rw[<- en'] at w1
   exact w1 σ' H' α' ex hr sr
 cases r1 with
 | @tup p xs ds hp rp=>
  have w2:FP X.K H1 α1 ξ Dn (ZbL gt g ds ρ M1):=w1
  refine ⟨p,rfl,.inr ⟨⟨xs,(SqT.of hp)⟩,ZkF (K:=X.K) (a:=p) (xs:=xs) (fun i σ' H'=> ∃ ρ' α' M',Ext X.K H1 H' α1 α'/\SR X.K H' α' σ' ρ'/\HR X.K H' α' M'/\ZbL gt g (ds.drop i) ρ' M'=ZbL gt g ds ρ M1) ⟨ρ,α1,M1,Ext.refl,s1,h1,rfl⟩ ?_ ?_ ?_⟩⟩
  ·rintro i σ' H' _ ⟨ρ',α',M',ex,_⟩
   exact SqT.of (ex.tup _ _ hp)
  ·intro i x σ' H' hx z
   exact (pure_ ds xs rp w2 i σ' H' z).1 x hx
  ·intro σ' H' z
   exact (pure_ ds xs rp w2 _ σ' H' z).2 rfl
 | @rol p xs ds hp rp=>
  have w2:FP X.K H1 α1 ξ Dn (ZbL gt g ds ρ M1):=w1
  refine ⟨p,rfl,.inl ⟨⟨xs,hp.sq⟩,ZiG (K:=X.K) (a:=p) (xs:=xs) (fun i σ' H'=> ∃ ρ' α' M',Ext X.K H1 H' α1 α'/\SR X.K H' α' σ' ρ'/\HR X.K H' α' M'/\ZbL gt g (ds.drop i) ρ' M'=ZbL gt g ds ρ M1) ⟨ρ,α1,M1,Ext.refl,s1,h1,rfl⟩ ?_ ?_ ?_⟩⟩
  ·rintro i σ' H' _ ⟨ρ',α',M',ex,_⟩
   exact (ex.rol _ _ hp).sq
  ·intro i x σ' H' hx z
   exact (pure_ ds xs rp w2 i σ' H' z).1 x hx
  ·intro σ' H' z
   exact (pure_ ds xs rp w2 _ σ' H' z).2 rfl
 | @ref p n hp=>
  cases em:M1[n]? with
  |none=>simp only[ZjX,em] at w1;exact w1.elim
  |some so=>
   cases so with
   |lst ds=>
    simp only[ZjX,em] at w1
    obtain ⟨xs0,g0,r0⟩:=h1.at hp em
    generalize eo:Zgv gt g n ds.length 0 ρ M1=o at w1
    refine ⟨p,rfl,.inl ⟨⟨xs0,SqL.of g0⟩,fun i m σ' H'=> ∃ ρ' α' M',Ext X.K H1 H' α1 α'/\SR X.K H' α' σ' ρ'/\HR X.K H' α' M'/\Zgv gt g n m i ρ' M'=o,⟨ds.length,ρ,α1,M1,Ext.refl,s1,h1,eo⟩,?_⟩⟩
    rintro i m σ' H' ⟨ρ',α',M',ex,sr,hr,en⟩
    unfold Zgv at en
    cases em2:M'[n]? with
    |none=>simp only[em2] at en;cases en;exact w1.elim
    |some so2=>
     cases so2 with
     |lst ds2=>
      simp only[em2] at en
      obtain ⟨xs,g1,g2⟩:=hr.at (ex.get hp) em2
      cases ei:ds2[i]? with
      |none=>
       simp only[ei] at en
       cases en
       refine .inl ⟨⟨xs,SqL.of g1,?_⟩,w1 σ' H' α' ex hr sr⟩
       rw[g2.length]
       exact List.getElem?_eq_none_iff.mp ei
      |some d=>
       simp only[ei] at en
       obtain ⟨v,k1,k2⟩:=g2.get ei
       cases m with
       |zero=>cases en;exact w1.elim
       |succ m=>
        refine .inr ⟨⟨xs,v,SqL.of g1,k1⟩,fun σ2 H2=> ∃ ρ' α' M',Ext X.K H1 H2 α1 α'/\SR X.K H2 α' σ2 ρ'/\HR X.K H2 α' M'/\Zgv gt g n m (i + 1) ρ' M'=o,fun σ2 H2 z=>⟨m,Nat.lt_succ_self m,z⟩,fun x H2 y=> ?_⟩
        obtain ⟨ey,y⟩:=y
        subst ey
        have ev:=y xs (SqL.of g1)
        rw[k1] at ev
        cases ev
        exact Zi5 (tg:=tg) w1 qt qb ex sr hr k2 en (fun σ' H' z=>z)
 |_=>exact w1.elim
end
noncomputable def fnF (g:Sv) (n k:Nat):List D->Sto->Out D:=fun ds M=>if ds.length=n then (match g (ds.map some ++ List.replicate k none) M with
 | .ret d M'=> .ok d M'
 | .nx _ M'=> .ok .non M'
 | .exc c M'=> .exc c M'
 |_=> .bad) else .bad
noncomputable def spD (K:PySem.W.Frag) (F:List D->Sto->Out D):Sp:=fun vs H Q E=> ∃ ds α M,Reps K H α vs ds/\HR K H α M/\OP K H α E Q (F ds M)
theorem Zeb: ∀ {ds:List D} {k i:Nat} {d:D},(ds.map some ++ List.replicate k none)[i]?=some (some d)->ds[i]?=some d
 | [],k,i,d,h=>by
  rw[List.map_nil,List.nil_append] at h
  have:=List.mem_of_getElem? h
  rw[List.mem_replicate] at this
  cases this.2
 |x :: r,k,0,d,h=>by simpa using h
 |x :: r,k,i + 1,d,h=>by
  rw[List.map_cons,List.cons_append,List.getElem?_cons_succ] at h
  rw[List.getElem?_cons_succ]
  exact Zeb h
theorem SR.start {K:PySem.W.Frag} {H:Hp} {α:List Addr} {N:List Str} {vs:List V} {ds:List D} {k:Nat} (r:Reps K H α vs ds) (hk:k=N.length - ds.length):SR K H α (start N vs) (ds.map some ++ List.replicate k none):=by
 unfold L2.start
 refine ⟨by simp only[List.length_append,List.length_map,List.length_replicate,r.length,hk],fun i d h=> ?_⟩
 obtain ⟨v,h1,h2⟩:=r.get (Zeb h)
 refine ⟨v,?_,h2⟩
 have hl:i < vs.length:=(List.getElem?_eq_some_iff.mp h1).1
 rw[List.getElem?_append_left (by rw[List.length_map];exact hl),List.getElem?_map,h1]
 rfl
section
variable {P:Program} {w:World} {K:PySem.W.Frag} {mg:Str->Option Value} {base:Heap}
theorem Zak {x qual:Str} {st:Stmt} {f:Addr} {fd:FuncData} {N ps:List Str} {k n m:Nat} {g:Sv} (F:Fun K x qual st f fd) (S:FnScope N ps (Zh st)) (hn:n=ps.length) (hm:m=N.length - n)
  (hb: ∀ (cdv:Value) (A:Around) (outer:List Env) (s:Shared) (H:Hp) (E:XK),Room k (A.deeper (envOfC qual (Zh st) s.heap.objs.size f cdv))->Thr (ZeH (CXE P w) P w K mg base N qual (Zh st) f cdv A outer s H E) E->DSs (ZeH (CXE P w) P w K mg base N qual (Zh st) f cdv A outer s H E) E (Zq st) g):
  FnOk P w K mg base (CXE P w) (k + 1) f fd ps (spD K (fnF g n m)):=by
 obtain ⟨oc,od,kV,doc,pm,an,cdv,ct,osl,rfl,lk,hcd⟩:=F.ex
 refine Zp6 lk hcd S (fun vs H Q E h=> ?_) (fun A outer s H vs Q E hr h=> ?_)
 ·obtain ⟨ds,α,M,r,_,q⟩:=h
  by_cases c:ds.length=n
  ·rw[r.length,c,hn]
  ·simp only[fnF,if_neg c] at q
   exact q.elim
 ·obtain ⟨ds,α,M,r,hh,q⟩:=h
  obtain ⟨t,p,w'⟩:=hb cdv A outer s H E hr Zm7
  by_cases c:ds.length=n
  ·simp only[fnF,if_pos c] at q
   refine ⟨t,p,w' _ _ H α M _ (SR.start (N:=N) r (k:=m) (by rw[hm,c])) hh ?_⟩
   cases e:g (ds.map some ++ List.replicate m none) M with
   |nx ρ' M'=>simp only[e] at q;exact fun σ' H' α' ex hr sr=>q _ H' α' ex hr .non
   |ret d M'=>simp only[e] at q;exact q
   |exc x M'=>simp only[e] at q;exact q
   |brk ρ' M'=>simp only[e] at q;exact q.elim
   |cnt ρ' M'=>simp only[e] at q;exact q.elim
   |bad=>simp only[e] at q;exact q.elim
  ·simp only[fnF,if_neg c] at q
   exact q.elim
end
section
variable {X:Cx} {ξ:XK} {k:Nat} {f:Addr} {fd:FuncData} {ps:List Str} {F:List D->Sto->Out D} {x:Str} {p pos:Pos} {e:Expr} {es:List Expr} {fs:Av}
theorem Zk4 (G:FnOk X.prog X.w X.K X.mg X.base (CXE X.prog X.w) k f fd ps (spD X.K F)) (T:Thr X ξ) (hr:Room k X.A) (hm:X.mg x=some (.ref f)) (hk:PySem.W.keepIn X.K (.ref f)=true) (hb:ZdX X.K fd ps []) (ha:DA X ξ (e :: es) fs) (hg:Gl X x:=by rfl)
  (hdb:(x == ("__debug__":Str))=false:=by decide) (he:starEach (e :: es) X.env=(false,eval e X.env) :: starEach es X.env:=by rfl) (hpl:(backTo pos (starEach es X.env)).any (·.1)=false:=by rfl):DE X ξ (.Call (.Name x p) (e :: es) [] pos) (Zj F fs):=by
 obtain ⟨t,pa,qa⟩:=ha
 refine ⟨_,ZkL G hr hg hm hk hb .nil T.ps pa hdb he hpl,fun σ ρ H α M Q s hh q=>qa σ ρ H α M _ s hh (OG.seq q fun ds M1 vs H1 α1 e1 h1 r1 q1=> ?_)⟩
 rw[List.append_nil]
 exact ⟨ds,α1,M1,r1,h1,q1⟩
end
end DL
end
section
namespace DL
open PySem PySem.Spec PyProof.Rows L2
theorem ZjZ:bootBuiltins "abs"=some (.builtin "abs"):=by decide +kernel
theorem Zm9:bootBuiltins "int"=some (.type "int"):=by decide +kernel
theorem Zk5:bootBuiltins "bool"=some (.type "bool"):=by decide +kernel
theorem Zdw:bootBuiltins "list"=some (.type "list"):=by decide +kernel
theorem Zi6:bootBuiltins "tuple"=some (.type "tuple"):=by decide +kernel
theorem Zj0:bootBuiltins "max"=some (.builtin "max"):=by decide +kernel
theorem Zft:bootBuiltins "min"=some (.builtin "min"):=by decide +kernel
noncomputable def Cal (P:Program) (w:World) (K:PySem.W.Frag) (mg:Str->Option Value) (base:Heap) (x:Str) (k n:Nat) (F:List D->Sto->Out D):Prop:=
 ∃ (f:Addr) (fd:FuncData) (ps:List Str),FnOk P w K mg base (CXE P w) k f fd ps (spD K F)/\mg x=some (.ref f)/\PySem.W.keepIn K (.ref f)=true/\ps.length=n/\ZdX K fd ps []
theorem Zk {X:Cx} {ξ:XK} {k n:Nat} {F:List D->Sto->Out D} {x:Str} {p pos:Pos} {e:Expr} {es:List Expr} {fs:Av} (C:Cal X.prog X.w X.K X.mg X.base x k n F) (T:Thr X ξ) (hr:Room k X.A) (ha:DA X ξ (e :: es) fs) (hg:Gl X x:=by rfl)
  (hdb:(x == ("__debug__":Str))=false:=by decide) (he:starEach (e :: es) X.env=(false,eval e X.env) :: starEach es X.env:=by rfl) (hpl:(backTo pos (starEach es X.env)).any (·.1)=false:=by rfl):DE X ξ (.Call (.Name x p) (e :: es) [] pos) (Zj F fs):=by
 obtain ⟨f,fd,ps,G,hm,hk,_,hb⟩:=C
 exact Zk4 G T hr hm hk hb ha hg hdb he hpl
theorem Zna {K:PySem.W.Frag} {H:Hp} {a:Addr} {ns:List Int} {n:Nat} {F:List D->Sto->Out D} (hl:ns.length<=n) (hO:ZpI H) (hS:SqL K H a (ns.map V.int)) (h: ∃ M',F [.rol (ns.map D.int)] []= .ok (.bl true) M'):
  spD K F [.ref a] H (fun v _=>v= .bl true) (fun _ _ _=>False):=by
 obtain ⟨M',e⟩:=h
 have hF:SqF K H a (ns.map V.int):=by
  rcases hS with (h | ⟨o,h⟩) | h
  ·rcases hO a with z | ⟨o,xs,z⟩
   ·rw[h] at z;cases z
   ·rw[h] at z;cases z
  ·exact .inl ⟨o,h⟩
  ·exact .inr h
 refine ⟨[.rol (ns.map D.int)],[],[],.cons (.rol hF (Reps.ints ns)) .nil,HR.nil,?_⟩
 rw[e]
 intro v H' α' _ _ r
 cases r
 rfl
end DL
end
section
namespace DL
open PySem PySem.Spec PyProof.Rows L2
inductive Src where
 |pur (ds:List D)
 |sto (n:Nat)
 |zip (n m:Nat)
 |enu (n:Nat)
 |rev (n l:Nat)
 |zips (ns:List Nat)
noncomputable def Zhk (M:Sto) (i:Nat):List Nat->Option (Option (List D))
 | []=>some (some [])
 |n :: ns=>match M[n]? with
  |none=>none
  |some (.lst xs)=>match Zhk M i ns with
   |none=>none
   |some r=>match xs[i]?,r with | some x,some ds=>some (some (x :: ds)) | _,_=>some none
noncomputable def nxt (src:Src) (i:Nat) (M:Sto):Option (Option D):=match src with
 | .pur ds=>some ds[i]?
 | .sto n=>match M[n]? with | some (.lst xs)=>some xs[i]? | none=>none
 | .zip n m=>match M[n]?,M[m]? with
  |some (.lst xs),some (.lst ys)=>(match xs[i]?,ys[i]? with | some x,some y=>some (some (.tup [x,y])) | _,_=>some none)
  |_,_=>none
 | .enu n=>match M[n]? with | some (.lst xs)=>(match xs[i]? with | some x=>some (some (.tup [.int i,x])) | none=>some none) | none=>none
 | .zips ns=>match Zhk M i ns with | some (some ds)=>some (some (.tup ds)) | some none=>some none | none=>none
 | .rev n l=>match M[n]? with | some (.lst xs)=>if i < l then (match xs[l - 1 - i]? with | some x=>some (some x) | none=>none) else (if i=l then some none else none) | none=>none
noncomputable def cnt (src:Src) (M:Sto):Nat:=match src with
 | .pur ds=>ds.length
 | .sto n=>match M[n]? with | some (.lst xs)=>xs.length | none=>0
 | .zip n _=>match M[n]? with | some (.lst xs)=>xs.length | none=>0
 | .enu n=>match M[n]? with | some (.lst xs)=>xs.length | none=>0
 | .rev _ l=>l
 | .zips ns=>match ns with | n :: _=>(match M[n]? with | some (.lst xs)=>xs.length | none=>0) | []=>0
noncomputable def Ats (H:Hp) (α:List Addr):List Nat->List Addr->Prop
 | [],[]=>True
 |n :: ns,l :: ls=>RefK H α 0 n l/\Ats H α ns ls
 |_,_=>False
noncomputable def Znb (K:PySem.W.Frag) (H:Hp) (α:List Addr) (J:It) (src:Src):Prop:= ∀ (i:Nat) H' α' M',Ext K H H' α α'->HR K H' α' M'->match nxt src i M' with
 |some none=>J.stop i H'
 |some (some d)=>J.go i H'/\ ∀ x H'',J.yld i H' x H''->Ext K H' H'' α' α'/\HR K H'' α' M'/\Rep K H'' α' x d
 |none=>True
noncomputable def DI (X:Cx) (ξ:XK) (tg iter:Expr) (f:Ro->Sto->Out Src):Prop:= ∃ wi:TI,PI X tg iter wi/\ ∀ σ ρ H α M R,SR X.K H α σ ρ->HR X.K H α M->OG X.K (Znb X.K) H α ξ R (f ρ M)->wi σ H R
section
variable {X:Cx} {ξ:XK} {tg iter a b:Expr} {fs:Av} {f:Ev} {p pos:Pos}
noncomputable def iR1 (fs:Av):Ro->Sto->Out Src:=fun ρ M=>(fs ρ M).bind fun ds M1=>match ds with
 | [.int j]=>if -(2 ^ 62)<=j/\j < 2 ^ 62 then .ok (.pur (Zbs 0 j.toNat)) M1 else .bad
 |_=> .bad
theorem Zf3 {K:PySem.W.Frag} {H:Hp} {α:List Addr} {lo:Int} {n:Nat}:Znb K H α (Itr lo n) (.pur (Zbs lo n)):=by
 intro i H' α' M' ex hr
 show match some (Zbs lo n)[i]? with | some none=>_ | some (some d)=>_ | none=>True
 by_cases h:i < n
 ·rw[Zfs h]
  refine ⟨h,fun x H'' y=> ?_⟩
  obtain ⟨e1,e2⟩:=y
  subst e1 e2
  exact ⟨Ext.refl,hr,.int _⟩
 ·rw[List.getElem?_eq_none (by rw[Zdv];omega)]
  exact Nat.le_of_not_lt h
theorem Zec (hm:X.mg "range"=none) (ha:DA X ξ [a] fs) (hgl:Gl X "range":=by rfl) (hs:starEach [a] X.env=[(false,eval a X.env)]:=by rfl):DI X ξ tg (.Call (.Name "range" p) [a] [] pos) (iR1 fs):=by
 obtain ⟨ta,pa,qa⟩:=ha
 refine ⟨_,ZdW hgl hm pa hs,fun σ ρ H α M R s hh q=>qa σ ρ H α M _ s hh (OG.seq q fun ds M1 vs H1 α1 e1 h1 r1 w1=> ?_)⟩
 match r1 with
 | .nil=>exact w1.elim
 | .cons r (.cons _ _)=>cases r<;>exact w1.elim
 | .cons r .nil=>
  cases r with
  |int j=>
   by_cases c: -(2 ^ 62)<=j/\j < 2 ^ 62
   ·simp only[if_pos c] at w1
    exact ⟨j,rfl,c.1,c.2,w1 _ H1 α1 Ext.refl h1 Zf3⟩
   ·simp only[if_neg c] at w1
    exact w1.elim
  |_=>exact w1.elim
noncomputable def iSq (f:Ev):Ro->Sto->Out Src:=fun ρ M=>(f ρ M).bind fun d M1=>match d with
 | .tup ds=> .ok (.pur ds) M1
 | .rol ds=> .ok (.pur ds) M1
 | .con ds=> .ok (.pur ds) M1
 | .ref n=> .ok (.sto n) M1
 |_=> .bad
theorem Zdh (ha:DE X ξ a f):DI X ξ tg a (iSq f):=by
 obtain ⟨ta,pa,qa⟩:=ha
 refine ⟨_,ZjY pa,fun σ ρ H α M R s hh q=>qa σ ρ H α M _ s hh (OG.seq q fun d M1 v H1 α1 e1 h1 r1 w1=> ?_)⟩
 cases r1 with
 | @tup p xs ds hp rp=>
  refine ⟨p,rfl,.inr ⟨⟨xs,(SqT.of hp)⟩,w1 (Itt X.K p) H1 α1 Ext.refl h1 ?_⟩⟩
  intro i H' α' M' ex hr
  show match some ds[i]? with | some none=>_ | some (some d)=>_ | none=>True
  cases ei:ds[i]? with
  |none=>exact ⟨xs,SqT.of (ex.tup _ _ hp),by rw[rp.length];exact List.getElem?_eq_none_iff.mp ei⟩
  |some d=>
   obtain ⟨v,k1,k2⟩:=rp.get ei
   refine ⟨⟨xs,v,SqT.of (ex.tup _ _ hp),k1⟩,fun x H'' y=> ?_⟩
   obtain ⟨ey,y⟩:=y
   have z:=y xs (SqT.of (ex.tup _ _ hp))
   rw[k1] at z
   cases z
   subst ey
   exact ⟨Ext.refl,hr,Rep.mono ex k2⟩
 | @con p xs ds hp rp=>
  refine ⟨p,rfl,.inr ⟨⟨xs,hp.sq⟩,w1 (Itt X.K p) H1 α1 Ext.refl h1 ?_⟩⟩
  intro i H' α' M' ex hr
  show match some ds[i]? with | some none=>_ | some (some d)=>_ | none=>True
  cases ei:ds[i]? with
  |none=>exact ⟨xs,hp.sq,by rw[rp.length];exact List.getElem?_eq_none_iff.mp ei⟩
  |some d=>
   obtain ⟨v,k1,k2⟩:=rp.get ei
   refine ⟨⟨xs,v,hp.sq,k1⟩,fun x H'' y=> ?_⟩
   obtain ⟨ey,y⟩:=y
   have z:=y xs hp.sq
   rw[k1] at z
   cases z
   subst ey
   exact ⟨Ext.refl,hr,Rep.mono ex k2⟩
 | @rol p xs ds hp rp=>
  refine ⟨p,rfl,.inl ⟨⟨xs,hp.sq⟩,w1 (Itl X.K p) H1 α1 Ext.refl h1 ?_⟩⟩
  intro i H' α' M' ex hr
  show match some ds[i]? with | some none=>_ | some (some d)=>_ | none=>True
  have hq:=(ex.rol _ _ hp).sq
  cases ei:ds[i]? with
  |none=>exact ⟨xs,hq,by rw[rp.length];exact List.getElem?_eq_none_iff.mp ei⟩
  |some d=>
   obtain ⟨v,k1,k2⟩:=rp.get ei
   refine ⟨⟨xs,v,hq,k1⟩,fun x H'' y=> ?_⟩
   obtain ⟨ey,y⟩:=y
   have z:=y xs hq
   rw[k1] at z
   cases z
   subst ey
   exact ⟨Ext.refl,hr,Rep.mono ex k2⟩
 | @ref p n hp=>
  obtain ⟨xs0,g0⟩:=h1.some_at hp
  refine ⟨p,rfl,.inl ⟨⟨xs0,SqL.of g0⟩,w1 (Itl X.K p) H1 α1 Ext.refl h1 ?_⟩⟩
  intro i H' α' M' ex hr
  show match (match M'[n]? with | some (.lst xs)=>some xs[i]? | none=>none) with | some none=>_ | some (some d)=>_ | none=>True
  cases em:M'[n]? with
  |none=>exact True.intro
  |some so=>
   cases so with
   |lst ds=>
    obtain ⟨xs,g1,g2⟩:=hr.at (ex.get hp) em
    show match some ds[i]? with | some none=>_ | some (some d)=>_ | none=>True
    cases ei:ds[i]? with
    |none=>exact ⟨xs,SqL.of g1,by rw[g2.length];exact List.getElem?_eq_none_iff.mp ei⟩
    |some d=>
     obtain ⟨v,k1,k2⟩:=g2.get ei
     refine ⟨⟨xs,v,SqL.of g1,k1⟩,fun x H'' y=> ?_⟩
     obtain ⟨ey,y⟩:=y
     have z:=y xs (SqL.of g1)
     rw[k1] at z
     cases z
     subst ey
     exact ⟨Ext.refl,hr,k2⟩
 |_=>exact w1.elim
end
noncomputable def blk (X:Cx) (scope:Scope) (cl:List (Str × Addr)) (N:List Str) (C:Addr) (fp:List Addr) (s:Shared) (H:Hp):Cx:=
 { X with N:=N,s₀:=s,H₀:=H,env:=compEnvC scope cl C X.env,outer:=X.stack,stack:=X.stack,ex:=fp,fn:=fun _=>false,pn:=[],xe:=fun _ _=>False }
theorem Zcg {X:Cx} {scope:Scope} {cl:List (Str × Addr)} {N:List Str} {C:Addr} {fp:List Addr} {s:Shared} {H:Hp}:Thr (blk X scope cl N C fp s H) E0:=
 ⟨PassesOwn.never,fun _ _ _ _ _ _ _ ⟨_,_,_,_,_,_,_,_,_,_,_,_,_,q⟩=>q,fun _ _ _ _ _ _ _ _ _ _ _ _ _ _ _ _ _ _ q=>q⟩
noncomputable def Zcw (src:Src) (tg:Tg) (c:Tv) (f:Ev) (n:Nat):Nat->Nat->Ro->Sto->Out Unit
 |fuel,i,ρ,M=>match nxt src i M with
  |none=> .bad
  |some none=> .ok () M
  |some (some d)=>(match fuel with
   |0=> .bad
   |fuel + 1=>(match tg d ρ with
    |none=> .bad
    |some ρ1=>(match c ρ1 M with
     | .ok true M1=>(match f ρ1 M1 with
      | .ok x M2=>(match M2[n]? with
       |some (.lst xs)=>if xs.length < 10000000 then Zcw src tg c f n fuel (i + 1) ρ1 (M2.set n (.lst (xs ++ [x]))) else .bad
       |none=> .bad)
      |_=> .bad)
     | .ok false M1=>Zcw src tg c f n fuel (i + 1) ρ1 M1
     |_=> .bad)))
noncomputable def roB (k:Nat) (fr:List Nat) (ρ:Ro):Ro:=List.replicate k none ++ fr.map fun i=>(ρ[i]?).join
noncomputable def Za0 (fi:Ro->Sto->Out Src) (k:Nat) (fr:List Nat) (tg:Tg) (c:Tv) (f:Ev):Ev:=fun ρ M=>(fi ρ M).bind fun src M1=>match Zcw src tg c f M1.length (cnt src M1) 0 (roB k fr ρ) (M1 ++ [.lst []]) with
 | .ok _ M2=> .ok (.ref M1.length) M2
 |_=> .bad
structure Blk (X:Cx) (scope:Scope) (cl:List (Str × Addr)) (N:List Str) (k:Nat) (fr:List Nat):Prop where
 clos:closureFor scope X.env=pure cl
 kind:scope.kind= .function
 cell: ∀ y∈scope.names,y.2≠ .cell
 names: ∀ y∈scope.names,y.2= .local->scope.names.lookup y.1=some .local
 sub: ∀ x c,cl.lookup x=some c->X.env.cells.lookup x=some c
 has: ∀ x,((relabel scope X.env).names.lookup x=some .cell\/(relabel scope X.env).names.lookup x=some .free)-> ∃ c,cl.lookup x=some c
 len:N.length=k + fr.length
 at_: ∀ (j i:Nat),fr[j]?=some i-> ∃ x,N[k + j]?=some x/\X.N[i]?=some x/\X.env.kindOf x=some .cell/\((relabel scope X.env).names.lookup x=some .cell\/(relabel scope X.env).names.lookup x=some .free)/\cl.lookup x=X.env.cells.lookup x
theorem Zcp {prog:Program} {w:World} {A:Around} {R:Result->Shared->Prop} {s:Shared} {elt target iter:Expr} {ifs:List Expr} {scope:Scope} {pos:Pos} {it acc:Value} {env:Env} (I:Nat->Shared->Prop)
  (turn: ∀ n s,I n s->wpAny (model prog w) A (pyNext it) (fun r s₁=>match r with
   |none=>R (.ok .next) s₁
   |some v=>wpAny (model prog w) A (letOwnedTupleGo target it v) (fun _ s₁=>wpAny (model prog w) A (assign target env v) (fun _ s₂=>
     wpAny (model prog w) A (forIn ifs true fun c r=>if r=true then do let ok <- isTrue c env (eval c env);pure (ForInStep.yield ok) else pure (ForInStep.yield r)) (fun ok s₃=>
      if ok=true then wpAny (model prog w) A (eval elt env) (fun x s₄=>
       wpAny (model prog w) A (call (.builtin "list.append") [acc,x]) (fun _ s₅=> ∃ m,m < n/\I m s₅) (fun _ _=>False) s₄) (fun _ _=>False) s₃
      else ∃ m,m < n/\I m s₃) (fun _ _=>False) s₂) (fun _ _=>False) s₁) (fun _ _=>False) s₁) (fun _ _=>False) s)
  (n:Nat) (h:I n s):
  codeAny (model prog w) A (.compLoop (.ListComp elt [⟨target,iter,ifs,0⟩] scope pos) 0 it acc env) R s:=by
 refine codeAny_loop rfl I (fun n s hI=> ?_) n h
 show wpAny _ A ((compTurn (.ListComp elt [⟨target,iter,ifs,0⟩] scope pos) 0 it acc env).onRaise (fun x=>do noteFrame x env;theTreesLotGoes x)) _ _ s
 refine wpAny_noted ?_
 rw[compTurn_list]
 refine wpAny_bind (wpAny_standAt (wpAny_bind (wpAny_mono (turn n s hI) (fun r s₁ h₁=> ?_) fun _ _ h'=>h'.elim)))
 cases r with
 |none=>exact wpAny_pure h₁
 |some v=>
  refine wpAny_bind (wpAny_mono h₁ (fun _ s₁ h₁=> ?_) fun _ _ h'=>h'.elim)
  refine wpAny_bind (wpAny_mono h₁ (fun _ s₂ h₂=>wpAny_bind (wpAny_mono h₂ (fun ok s₃ h₃=> ?_) fun _ _ h'=>h'.elim)) fun _ _ h'=>h'.elim)
  cases ok with
  |false=>exact wpAny_pure ⟨rfl,h₃⟩
  |true=>
   exact wpAny_bind (wpAny_bind (wpAny_mono h₃ (fun x s₄ h₄=>wpAny_bind (wpAny_mono h₄ (fun _ s₅ h₅=>wpAny_pure (wpAny_pure ⟨rfl,h₅⟩)) fun _ _ h'=>h'.elim)) fun _ _ h'=>h'.elim))
noncomputable def DC (X:Cx) (ifs:List Expr) (c:Tv):Prop:=(ifs=[]/\c=fun _ M=> .ok true M)\/ ∃ e,ifs=[e]/\DT X E0 e c
section
variable {X:Cx} {ξ:XK} {tg iter elt:Expr} {ifs:List Expr} {scope:Scope} {cl:List (Str × Addr)} {N:List Str} {k:Nat} {fr:List Nat} {fi:Ro->Sto->Out Src} {gt:Tg} {c:Tv} {f:Ev} {pos:Pos}
theorem Zfu (B:Blk X scope cl N k fr) {pins:List (Addr × Obj)} {σ:L2.St} {H:Hp} {s:Shared} {fp:List Addr} (I:Inv X pins σ H s) (hf: ∀ b∈fp,ZdV X pins H b) (hlt: ∀ b∈fp,b < s.heap.objs.size):(blk X scope cl N s.heap.objs.size fp s H).Ok where
 mod:=I.ok.mod
 kind:=B.kind
 glob:=I.ok.glob
 blt:=I.ok.blt
 above:=Nat.le_refl _
 inj:=fun x y c h1 h2=>I.ok.inj x y c (B.sub x c h1) (B.sub y c h2)
 has:=fun x h=>B.has x h
 cab:=fun x c h=>(by cases h)
 hd:=I.ok.hd
 frames:=I.ok.frames
 stk:= .inl rfl
 exf:=fun b hb=>⟨Nat.ne_of_lt (hlt b hb),fun x c h=>(hf b hb).2.2.2.2.1 x c (B.sub x c h)⟩
 bs:=I.bs
 bsz:=Nat.le_trans I.ok.bsz I.sz
 noex:=fun b o e hb=>by
  rcases (hf b hb).2.2.2.1 with z | z
  ·exact I.ok.noex b o e z
  ·exact absurd (Nat.lt_of_lt_of_le (Heap.lt_size (I.ok.bs b o e).1) z) (Nat.lt_irrefl _)
 exfs:=fun b hb z=>by
  rcases List.mem_cons.mp (I.stkSub b z) with e | e
  ·exact (hf b hb).2.1 e
  ·exact (hf b hb).2.2.1 e
 funs:=I.stack
 frf:=I.stkFree
theorem join_some {α:Type} {o:Option (Option α)} {v:α} (h:o.join=some v):o=some (some v):=by
 cases o with
 |none=>cases h
 |some x=>cases x with
  |none=>cases h
  |some y=>cases h;rfl
theorem Zk6 {ρ:Ro} {i:Nat} {d:D} (h:(roB k fr ρ)[i]?=some (some d)): ∃ j r,i=k + j/\fr[j]?=some r/\ρ[r]?=some (some d):=by
 unfold roB at h
 by_cases hi:i < k
 ·rw[List.getElem?_append_left (by rw[List.length_replicate];exact hi)] at h
  have:=List.mem_of_getElem? h
  rw[List.mem_replicate] at this
  cases this.2
 ·rw[List.getElem?_append_right (by rw[List.length_replicate];omega),List.length_replicate,List.getElem?_map] at h
  cases e:fr[i - k]? with
  |none=>rw[e] at h;cases h
  |some r=>
   rw[e] at h
   exact ⟨i - k,r,by omega,e,join_some (Option.some.inj h)⟩
noncomputable def stB (k:Nat) (fr:List Nat) (σ:L2.St):L2.St:=List.replicate k none ++ fr.map fun i=>(σ[i]?).join
theorem Zk7 {σ:L2.St} {i:Nat} {d:V} (h:(stB k fr σ)[i]?=some (some d)): ∃ j r,i=k + j/\fr[j]?=some r/\σ[r]?=some (some d):=by
 unfold stB at h
 by_cases hi:i < k
 ·rw[List.getElem?_append_left (by rw[List.length_replicate];exact hi)] at h
  have:=List.mem_of_getElem? h
  rw[List.mem_replicate] at this
  cases this.2
 ·rw[List.getElem?_append_right (by rw[List.length_replicate];omega),List.length_replicate,List.getElem?_map] at h
  cases e:fr[i - k]? with
  |none=>rw[e] at h;cases h
  |some r=>
   rw[e] at h
   exact ⟨i - k,r,by omega,e,join_some (Option.some.inj h)⟩
theorem SR.blk {K:PySem.W.Frag} {H:Hp} {α:List Addr} {σ:L2.St} {ρ:Ro} (h:SR K H α σ ρ):SR K H α (stB k fr σ) (roB k fr ρ):=by
 refine ⟨by simp[stB,roB],fun i d e=> ?_⟩
 obtain ⟨j,r,rfl,e1,e2⟩:=Zk6 e
 obtain ⟨v,e3,e4⟩:=h.2 r d e2
 refine ⟨v,?_,e4⟩
 unfold stB
 rw[List.getElem?_append_right (by rw[List.length_replicate];omega),List.length_replicate,List.getElem?_map,Nat.add_sub_cancel_left,e1]
 show some (σ[r]?).join=_
 rw[e3]
 rfl
theorem ZeS (B:Blk X scope cl N k fr) {pins:List (Addr × Obj)} {σ:L2.St} {H:Hp} {s:Shared} {fp:List Addr} {h1:Heap} {tk:Nat} {m:Str->Option Value} (I:Inv X pins σ H s) (hf: ∀ b∈fp,ZdV X pins H b) (hlt: ∀ b∈fp,b < s.heap.objs.size)
  (hn:h1.Ns s.heap.objs.size m) (hk: ∀ b o,s.heap.get? b=some o->h1.get? b=some o):Inv (blk X scope cl N s.heap.objs.size fp s H) [] (stB k fr σ) H { s with heap:=h1,toks:=tk } where
 ok:=Zfu B I hf hlt
 os:=rfl
 bare:=I.bare
 base:=Un.kept hk
 loc:=by
  refine ⟨m,hn,fun i x v e1 e2 e3=> ?_⟩
  obtain ⟨j,r,rfl,g1,g2⟩:=Zk7 e2
  obtain ⟨y,k1,k2,k3,k4,k5⟩:=B.at_ j r g1
  have exy:x=y:=Option.some.inj (e1.symm.trans k1)
  subst exy
  obtain ⟨m0,hm0,hl⟩:=I.loc
  obtain ⟨u,ru,lk⟩:=hl r x v k2 g2 (.inr (.inl k3))
  refine ⟨u,ru,?_⟩
  rcases lk with ⟨z,_⟩ | ⟨_,c,z1,⟨o,z2,z3⟩⟩
  ·rw[k3] at z;cases z
  ·exact .inr ⟨k4,c,k5.trans z1,⟨o,hk _ _ z2,z3⟩⟩
 cell:=fun x c h=>by
  obtain ⟨v,o,e1,e2⟩:=I.cell x c (B.sub x c h)
  exact ⟨v,o,hk _ _ e1,e2⟩
 free:=I.fresh
 freeC:=fun x c h=>I.freeC x c (B.sub x c h)
 pin:=fun p hp=>(by simp[blk] at hp)
 hok:=I.hok.kept hk
 len:=by
  show (stB k fr σ).length=N.length
  rw[B.len]
  simp[stB]
 qd:=I.qd
theorem Zby (B:Blk X scope cl N k fr) (hi:DI X ξ tg iter fi) (hg: ∀ C fp s H,DG (blk X scope cl N C fp s H) tg gt) (ht: ∀ C fp s H,DC (blk X scope cl N C fp s H) ifs c) (he: ∀ C fp s H,DE (blk X scope cl N C fp s H) E0 elt f)
  (hs: ∀ x,foldedSetIterable iter X.env x=pure x:=by intro _;rfl):DE X ξ (.ListComp elt [⟨tg,iter,ifs,0⟩] scope pos) (Za0 fi k fr gt c f):=by
 obtain ⟨wi,pi,qi⟩:=hi
 refine ⟨fun σ H Q=> ∃ ρ α M,SR X.K H α σ ρ/\HR X.K H α M/\OP X.K H α ξ Q (Za0 fi k fr gt c f ρ M),?_,fun σ ρ H α M Q s h q=>⟨ρ,α,M,s,h,q⟩⟩
 rintro pins s σ H Q I ⟨ρ,α,M,sr,hr,op⟩
 rw[eval_ListComp]
 refine wpAny_comprehension_free (use:=none) rfl hs B.clos B.kind B.names ?_
 refine thn (pi pins s σ H (fun J H2=> ∃ α2 M2 src,Ext X.K H H2 α α2/\HR X.K H2 α2 M2/\Znb X.K H2 α2 J src/\OP X.K H2 α2 ξ Q (match Zcw src gt c f M2.length (cnt src M2) 0 (roB k fr ρ) (M2 ++ [.lst []]) with | .ok _ M2'=> .ok (.ref M2.length) M2' | _=> .bad)) I
  (qi σ ρ H α M _ sr hr (OG.seq op fun src M1 J H1 α1 e1 h1 r1 q1=>⟨α1,M1,src,e1,h1,r1,q1⟩))) fun v s1 w1=>thn w1 fun itv s2 w2=> ?_
 obtain ⟨it,fp,tn,J,H2,rfl,I2,T,st2,f2,α2,M2,src,e2,h2,sc,op2⟩:=w2
 have srI:=sr.mono e2
 refine wpAny_newObj_type ?_
 have I3:Inv X pins σ (upd H2 s2.heap.objs.size (.lst [])) { s2 with heap:=s2.heap.push { cls:= .type "list",data:= .seq ([]:List Value).toArray } }:=I2.lnew (its:=[]) (t':=s2.toks) .nil (Nat.zero_le _)
 have fD:H2 s2.heap.objs.size=none:=I2.fresh
 generalize hD:s2.heap.objs.size=D at I3 fD
 generalize hs3:({ s2 with heap:=s2.heap.push { cls:= .type "list",data:= .seq ([]:List Value).toArray } }:Shared)=s3 at I3
 generalize hH3:upd H2 D (.lst [])=H3 at I3
 have h3:HR X.K H3 (α2 ++ [D]) (M2 ++ [.lst []]):=by rw[<- hH3];exact h2.new fD .nil
 have e3:Ext X.K H2 H3 α2 (α2 ++ [D]):=by rw[<- hH3];exact Ext.new fD
 have aD:RefK H3 (α2 ++ [D]) 0 M2.length D:=⟨h2.last D,by first | exact Kn.lst Zr | (rw[<- hH3];exact Kn.lst Zr)⟩
 have lt2: ∀ b∈fp,b < s2.heap.objs.size:=fun b hb=>let ⟨o,e,_⟩:=T.obj _ _ st2 b hb;Heap.lt_size e
 have keep3: ∀ b o,s2.heap.get? b=some o->s3.heap.get? b=some o:=fun b o e=>by rw[<- hs3];exact Heap.get?_push_of_some _ e
 have f3: ∀ b∈fp,ZdV X pins H3 b:=fun b hb=>⟨by rw[<- hH3,ZJ (by rw[<- hD];exact Nat.ne_of_lt (lt2 b hb))];exact (f2 b hb).1,(f2 b hb).2⟩
 have lt3: ∀ b∈fp,b < s3.heap.objs.size:=fun b hb=>let ⟨o,e,_⟩:=T.obj _ _ st2 b hb;Heap.lt_size (keep3 b o e)
 have st3:tn 0 s3.heap:=T.keep _ _ _ st2 fun b _ o e=>keep3 b o e
 refine wpAny_newFunctionEnv B.cell (by intro y hy;simp at hy) (fun h₁ hns₁ hsb₁=> ?_) B.kind
 have keep4: ∀ b o,s3.heap.get? b=some o->h₁.get? b=some o:=fun b o e=>hsb₁.extBut b o (Nat.ne_of_lt (Heap.lt_size e)) (Heap.get?_push_of_some _ e)
 have I4:=ZeS (tk:=s3.toks + ([]:List (Str × Value)).length) B I3 f3 lt3 hns₁ keep4
 have st4:tn 0 h₁:=T.keep _ _ _ st3 fun b _ o e=>keep4 b o e
 generalize hX:blk X scope cl N s3.heap.objs.size fp s3 H3=Y at I4
 have YK:Y.K=X.K:=by rw[<- hX];rfl
 have Yp:Y.prog=X.prog:=by rw[<- hX];rfl
 have Yw:Y.w=X.w:=by rw[<- hX];rfl
 have YA:Y.A=X.A:=by rw[<- hX];rfl
 have Ye:Y.env=compEnvC scope cl s3.heap.objs.size X.env:=by rw[<- hX];rfl
 obtain ⟨tt,pt,qt⟩:=hg s3.heap.objs.size fp s3 H3
 obtain ⟨te,pe,qe⟩:=he s3.heap.objs.size fp s3 H3
 have tst:=ht s3.heap.objs.size fp s3 H3
 rw[hX] at pt qt pe qe tst
 cases er:Zcw src gt c f M2.length (cnt src M2) 0 (roB k fr ρ) (M2 ++ [.lst []]) with
 |exc x M9=>rw[er] at op2;exact op2.elim
 |bad=>rw[er] at op2;exact op2.elim
 |ok u9 M9=>
  rw[er] at op2
  have loop:codeAny (model X.prog X.w) X.A (.compLoop (.ListComp elt [⟨tg,iter,ifs,0⟩] scope pos) 0 (.ref it) (.ref D) (compEnvC scope cl s3.heap.objs.size X.env)) (compPost (model X.prog X.w) X.A X.xe none (EP X pins σ Q) (.ref D) s3.heap.objs.size) { s3 with heap:=h₁,toks:=s3.toks + ([]:List (Str × Value)).length }:=by
   refine Zcp (fun n s'=> ∃ i σ' ρ' H' α' M',Inv Y [] σ' H' s'/\tn i s'.heap/\(∀ b∈fp,H' b=none)/\SR X.K H' α' σ' ρ'/\HR X.K H' α' M'/\Ext X.K H3 H' (α2 ++ [D]) α'/\Zcw src gt c f M2.length n i ρ' M'= .ok u9 M9) ?_ (cnt src M2)
    ⟨0,stB k fr σ,roB k fr ρ,H3,α2 ++ [D],M2 ++ [.lst []],I4,st4,fun b hb=>(f3 b hb).1,(srI.blk).mono e3,h3,Ext.refl,er⟩
   rintro n s5 ⟨i,σ5,ρ5,H5,α5,M5,I5,st5,fr5,sr5,hr5,ex5,en⟩
   have fp5: ∀ {H':Hp},(∀ b∈fp,H' b=none)-> ∀ b∈fp,ZdV Y [] H' b:=fun hn b hb=>⟨hn b hb,by rw[Ye];exact Nat.ne_of_lt (lt3 b hb),by
    have:=(Zfu B I3 f3 lt3).exfs b hb
    rw[hX] at this;exact this,.inl (by rw[<- hX];exact hb),fun x c h=>(by rw[Ye] at h;exact (f3 b hb).2.2.2.2.1 x c (B.sub x c h)),fun p hp=>(by rw[<- hX] at hp;simp[blk] at hp)⟩
   have src5:=sc i H5 α5 M5 (e3.trans ex5) hr5
   rw[Zcw] at en
   cases ex:nxt src i M5 with
   |none=>rw[ex] at en;cases en
   |some od=>
    rw[ex] at src5 en
    cases od with
    |none=>
     cases en
     have fin:=T.done Y Yp Yw YK YA i [] s5 σ5 H5 (fun _ _=>False) I5 (fp5 fr5) st5 src5
     rw[YA] at fin
     refine thn fin fun r s6 ⟨hr6,I6⟩=> ?_
     subst hr6
     obtain ⟨m6,hm6,_⟩:=id I6.loc
     rw[Ye] at hm6
     refine ⟨m6,hm6,fun h' sb=> ?_⟩
     have un:=I6.base
     have hok6:=I6.hok
     have I7:Inv X pins σ H5 s6:=by
      refine I3.call' (s':=s6) (ch:=fp) ?_ ?_ ?_ I6.bare fun b hb=> ?_
      ·have:=I6.os
       rw[this,<- hX];rfl
      ·rw[<- hX] at un
       exact un
      ·rw[Yp,Yw] at hok6
       exact hok6
      ·obtain ⟨_,z1,z2,z3,z4,z5⟩:=f3 b hb
       exact ⟨z3,z1,z4,z5⟩
     have hC:H5 s3.heap.objs.size=none:=by have:=I6.free;rw[Ye] at this;exact this
     have I8:Inv X pins σ H5 { s6 with heap:=h',toks:=s6.toks }:=I7.turned (it:=s3.heap.objs.size) (fun b o hb e=>(sb.2 b hb).trans e) hC (Nat.ne_of_gt I3.lt) (.inr I3.sz)
      (fun x c h z=>by
       obtain ⟨v,o,e,_⟩:=I3.cell x c h
       exact absurd (Heap.lt_size e) (by rw[z];exact Nat.lt_irrefl _)) (fun p hp z=>by
       have:=(I3.pin p hp).1
       exact absurd (Heap.lt_size this) (by rw[z];exact Nat.lt_irrefl _))
     exact ⟨.ref D,H5,I8,rfl,op2 _ H5 α5 (e3.trans ex5) hr5 (.ref (ex5.get aD))⟩
    |some d=>
     obtain ⟨go,yl⟩:=src5
     cases n with
     |zero=>cases en
     |succ n=>
      simp only at en
      have itm:=T.item Y Yp Yw YK YA i [] s5 σ5 H5 (fun _ _=>False) I5 (fp5 fr5) st5 go
      rw[YA] at itm
      refine thn itm fun r s6 ⟨u,hr6,w6⟩=> ?_
      subst hr6
      refine thn w6 fun _ s7 ⟨x,H7,I7,r7,y7,st7,fr7⟩=> ?_
      obtain ⟨ex7,hr7,rp7⟩:=yl x H7 y7
      have sr5:=sr5.mono ex7
      have hr5:=hr7
      have ex5:=ex5.trans ex7
      have I7':=I7.pinned (fp5 fr7) (T.obj _ _ st7)
      cases eg:gt d ρ5 with
      |none=>rw[eg] at en;cases en
      |some ρ6=>
       rw[eg] at en
       simp only at en
       have asg:=pt _ s7 σ5 H7 x u _ I7' r7 (qt x d σ5 ρ5 H7 α5 ρ6 (fun σ' H'=>H'=H7/\SR X.K H7 α5 σ' ρ6) (by rw[YK];exact sr5) (by rw[YK];exact rp7) eg fun σ' s'=>⟨rfl,by rw[YK] at s';exact s'⟩)
       rw[Yp,Yw,YA,Ye] at asg
       refine wpAny_mono asg (fun _ s8 ⟨σ8,H8,I8,z8,sr8⟩=> ?_) (fun _ _ z=>by rw[<- hX] at z;exact z)
       subst z8
       have again: ∀ {σ9:L2.St} {H9:Hp} {s9:Shared},Inv Y ([] ++ Zbt fp s7.heap) σ9 H9 s9->Inv Y [] σ9 H9 s9/\tn (i + 1) s9.heap/\ ∀ b∈fp,H9 b=none:=fun {σ9 H9 s9} I9=>by
        refine ⟨I9.unpinned,T.keep _ _ _ st7 fun b hb o e=>(I9.pin (b,o) (List.mem_append_right _ (List.mem_append_right _ (Zaa hb e)))).1,fun b hb=> ?_⟩
        obtain ⟨o,e,_⟩:=T.obj _ _ st7 b hb
        exact (I9.pin (b,o) (List.mem_append_right _ (List.mem_append_right _ (Zaa hb e)))).2.1
       have after: ∀ (kk:Bool) (M8:Sto) (H9:Hp) (α9:List Addr) (s9:Shared),Inv Y ([] ++ Zbt fp s7.heap) σ8 H9 s9->Ext X.K H8 H9 α5 α9->HR X.K H9 α9 M8->c ρ6 M5= .ok kk M8->
         (if kk=true then wpAny (model X.prog X.w) X.A (eval elt (compEnvC scope cl s3.heap.objs.size X.env)) (fun x s₄=>wpAny (model X.prog X.w) X.A (call (.builtin "list.append") [.ref D,x]) (fun _ s₅=> ∃ m,m < n + 1/\ ∃ i σ' ρ' H' α' M',Inv Y [] σ' H' s₅/\tn i s₅.heap/\(∀ b∈fp,H' b=none)/\SR X.K H' α' σ' ρ'/\HR X.K H' α' M'/\Ext X.K H3 H' (α2 ++ [D]) α'/\Zcw src gt c f M2.length m i ρ' M'= .ok u9 M9) (fun _ _=>False) s₄) (fun _ _=>False) s9
          else ∃ m,m < n + 1/\ ∃ i σ' ρ' H' α' M',Inv Y [] σ' H' s9/\tn i s9.heap/\(∀ b∈fp,H' b=none)/\SR X.K H' α' σ' ρ'/\HR X.K H' α' M'/\Ext X.K H3 H' (α2 ++ [D]) α'/\Zcw src gt c f M2.length m i ρ' M'= .ok u9 M9):=by
        intro kk M8 H9 α9 s9 I9 ex9 hr9 ec
        rw[ec] at en
        cases kk with
        |false=>
         obtain ⟨a1,a2,a3⟩:=again I9
         exact ZiP ⟨n,Nat.lt_succ_self n,i + 1,σ8,ρ6,H9,α9,M8,a1,a2,a3,sr8.mono ex9,hr9,ex5.trans ex9,en⟩
        |true=>
         simp only at en
         refine ZiQ ?_
         cases ef:f ρ6 M8 with
         |exc x9 M10=>rw[ef] at en;cases en
         |bad=>rw[ef] at en;cases en
         |ok y M10=>
          rw[ef] at en
          simp only at en
          have ev:=pe _ s9 σ8 H9 (fun v H'=> ∃ α',Ext X.K H9 H' α9 α'/\HR X.K H' α' M10/\Rep X.K H' α' v y) I9 (qe σ8 ρ6 H9 α9 M8 _ (by rw[YK];exact sr8.mono ex9) (by rw[YK];exact hr9) (by
           rw[ef,YK]
           exact fun v H' α' e h r=>⟨α',e,h,r⟩))
          rw[Yp,Yw,YA,Ye] at ev
          refine wpAny_mono ev (fun yv s10 ⟨v,H10,I10,r10,α10,ex10,hr10,rp10⟩=> ?_) (fun _ _ z=>by rw[<- hX] at z;exact z)
          cases em:M10[M2.length]? with
          |none=>rw[em] at en;cases en
          |some so=>
           cases so with
           |lst ds=>
            rw[em] at en
            simp only at en
            by_cases cz:ds.length < 10000000
            ·rw[if_pos cz] at en
             have aD10:=ex10.get (ex9.get (ex5.get aD))
             obtain ⟨xs,g1,g2⟩:=hr10.at aD10 em
             have ap:=ZcI (X:=Y) _ s10 σ8 H10 (.ref D) [v] (.ref D) [yv] (fun _ H'=>H'=upd H10 D (.lst (xs ++ [v]))) I10 rfl (.cons r10 .nil) ⟨D,xs,v,rfl,rfl,g1,by rw[g2.length];exact Nat.lt_of_lt_of_le cz (by decide),rfl⟩
             rw[Yp,Yw,YA] at ap
             refine wpAny_mono ap (fun _ s11 ⟨v11,H11,I11,_,z11⟩=> ?_) (fun _ _ z=>by rw[<- hX] at z;exact z)
             subst z11
             obtain ⟨a1,a2,a3⟩:=again I11
             have exw:Ext X.K H10 (upd H10 D (.lst (xs ++ [v]))) α10 α10:=Ext.wr g1
             exact ⟨n,Nat.lt_succ_self n,i + 1,σ8,ρ6,_,α10,_,a1,a2,a3,((sr8.mono ex9).mono ex10).mono exw,hr10.wr aD10 g1 (g2.append (.cons rp10 .nil)),((ex5.trans ex9).trans ex10).trans exw,en⟩
            ·rw[if_neg cz] at en
             cases en
       rcases tst with ⟨rfl,ec⟩ | ⟨e,rfl,tt',ptt,qtt⟩
       ·refine wpAny_tests_nil ?_
        exact after true M5 H8 α5 s8 I8 Ext.refl hr5 (by rw[ec])
       ·refine wpAny_tests_one ?_
        cases ec:c ρ6 M5 with
        |exc x9 M10=>rw[ec] at en;cases en
        |bad=>rw[ec] at en;cases en
        |ok kk M8=>
         have tv':=ptt _ s8 σ8 H8 (fun b H'=>b=kk/\ ∃ α',Ext X.K H8 H' α5 α'/\HR X.K H' α' M8) I8 (qtt σ8 ρ6 H8 α5 M5 _ (by rw[YK];exact sr8) (by rw[YK];exact hr5) (by
          rw[ec,YK]
          exact fun v H' α' e h r=>⟨r,α',e,h⟩))
         rw[Yp,Yw,YA,Ye] at tv'
         refine wpAny_mono tv' (fun b s9 ⟨H9,I9,zb,α9,ex9,hr9⟩=> ?_) (fun _ _ z=>by rw[<- hX] at z;exact z)
         subst zb
         exact after b M8 H9 α9 s9 I9 ex9 hr9 ec
  exact codeAny_compStart_list loop (T.self X.A 0 _ _ _ st4 loop)
end
end DL
end
section
namespace DL
open PySem PySem.Spec PyProof.Rows L2
theorem Znc {names:List (Str × NameKind)} (h:names.all (fun y=>y.2 != .cell && y.2 != .free)=true) (x:Str): ¬ (names.lookup x=some .cell\/names.lookup x=some .free):=by
 induction names with
 |nil=>intro z;rcases z with z | z<;>simp at z
 |cons y r ih=>
  rw[List.all_cons,Bool.and_eq_true] at h
  obtain ⟨n,kd⟩:=y
  rw[List.lookup_cons]
  cases e:x == n with
  |true=>
   simp only
   intro z
   have h1:=h.1
   rcases z with z | z<;>(cases z;simp at h1)
  |false=>exact ih h.2
theorem Zi7 {names:List (Str × NameKind)} {env:Env} (h:names.all (fun y=>y.2 != .cell && y.2 != .free)=true):
  (names.map fun (n,k)=>if (k == NameKind.free && env.scope.kind == .function && env.kindOf n == some .cell) then (n,NameKind.cell) else (n,k))=names:=by
 induction names with
 |nil=>rfl
 |cons y r ih=>
  rw[List.all_cons,Bool.and_eq_true] at h
  obtain ⟨n,kd⟩:=y
  have hk:(kd == NameKind.free)=false:=by
   have h1:=h.1
   rw[Bool.and_eq_true] at h1
   have h2:=h1.2
   cases kd<;>first | rfl | simp at h2
  rw[List.map_cons,ih h.2]
  simp[hk]
theorem Zk8 {X:Cx} {scope:Scope} {N:List Str} {k:Nat} (h:scope.names.all (fun y=>y.2 != .cell && y.2 != .free)=true) (hk:scope.kind= .function) (hn: ∀ y∈scope.names,y.2= .local->scope.names.lookup y.1=some .local) (hl:N.length=k):Blk X scope [] N k [] where
 clos:=closureFor_none fun y hy z=>by
  have:=List.all_eq_true.mp h y hy
  rw[z] at this
  simp at this
 kind:=hk
 cell:=fun y hy z=>by
  have:=List.all_eq_true.mp h y hy
  rw[z] at this
  simp at this
 names:=hn
 sub:=fun x c z=>(by cases z)
 has:=fun x z=>by
  have e:(relabel scope X.env).names=scope.names:=Zi7 h
  rw[e] at z
  exact absurd z (Znc h x)
 len:=hl
 at_:=fun j i z=>(by simp at z)
theorem ZeT {env:Env}: ∀ (names:List (Str × NameKind)) (acc:List (Str × Addr)),(∀ y∈names,y.2= .free-> ∃ c,env.cells.lookup y.1=some c)->
  (forIn names acc fun (x:Str × NameKind) (cs:List (Str × Addr))=>if x.2 == NameKind.free then (do let a <- cellOf env x.1;pure (ForInStep.yield ((x.1,a) :: cs))) else (pure (ForInStep.yield cs):Sem _))=
   (pure (((names.filter fun y=>y.2 == .free).map fun y=>(y.1,(env.cells.lookup y.1).getD 0)).reverse ++ acc):Sem (List (Str × Addr)))
 | [],acc,_=>by simp
 | (n,kd) :: r,acc,h=>by
  rw[List.forIn_cons]
  by_cases hk:(kd == NameKind.free)=true
  ·obtain ⟨c,hc⟩:=h (n,kd) List.mem_cons_self (by simpa using hk)
   have e1:cellOf env n=pure c:=by unfold cellOf;rw[hc]
   have ih:=ZeT r ((n,c) :: acc) fun y hy=>h y (List.mem_cons_of_mem _ hy)
   simp only[hk,if_true,e1,pure_bind]
   refine Eq.trans ih ?_
   simp[List.filter_cons,hk,hc]
  ·have ih:=ZeT r acc fun y hy=>h y (List.mem_cons_of_mem _ hy)
   simp only[hk,if_false,pure_bind]
   refine Eq.trans ih ?_
   simp[List.filter_cons,hk]
noncomputable def clF (scope:Scope) (env:Env):List (Str × Addr):=((scope.names.filter fun y=>y.2 == .free).map fun y=>(y.1,(env.cells.lookup y.1).getD 0)).reverse
theorem Zdi {env:Env}: ∀ {l:List (Str × NameKind)} {x:Str} {c:Addr},(l.map fun y=>(y.1,(env.cells.lookup y.1).getD 0)).lookup x=some c->c=(env.cells.lookup x).getD 0/\ ∃ y∈l,y.1=x
 | [],x,c,h=>by simp at h
 |y :: r,x,c,h=>by
  rw[List.map_cons,List.lookup_cons] at h
  cases e:x == y.1 with
  |true=>
   rw[e] at h
   have ex:x=y.1:=by simpa using e
   cases h
   exact ⟨by rw[ex],y,List.mem_cons_self,ex.symm⟩
  |false=>
   rw[e] at h
   obtain ⟨h1,z,h2,h3⟩:=Zdi h
   exact ⟨h1,z,List.mem_cons_of_mem _ h2,h3⟩
theorem Zb1 {α:Type}: ∀ {l:List (Str × α)} {x:Str},(∃ y∈l,y.1=x)-> ∃ c,l.lookup x=some c
 | [],x,h=>by obtain ⟨y,h1,_⟩:=h;simp at h1
 |z :: r,x,h=>by
  rw[List.lookup_cons]
  cases e:x == z.1 with
  |true=>exact ⟨_,rfl⟩
  |false=>
   obtain ⟨y,h1,h2⟩:=h
   rcases List.mem_cons.mp h1 with q | q
   ·subst q;rw[h2] at e;simp at e
   ·exact Zb1 ⟨y,q,h2⟩
theorem Zaw {env:Env} (nc: ∀ n,env.scope.names.lookup n=env.kindOf n): ∀ {names:List (Str × NameKind)} {x:Str} {kd:NameKind},(names.map fun (n,k)=>if (k == NameKind.free && env.scope.kind == .function && env.kindOf n == some .cell) then (n,NameKind.cell) else (n,k)).lookup x=some kd->
  names.lookup x=some kd\/(names.lookup x=some .free/\kd= .cell)
 | [],x,kd,h=>by simp at h
 | (n,q) :: r,x,kd,h=>by
  rw[List.map_cons,List.lookup_cons] at h
  rw[List.lookup_cons]
  dsimp only at h ⊢
  by_cases c:(q == NameKind.free && env.scope.kind == .function && env.kindOf n == some .cell)=true
  ·rw[if_pos c] at h
   dsimp only at h
   cases e:x == n with
   |true=>
    rw[e] at h
    cases h
    simp only[Bool.and_eq_true,beq_iff_eq] at c
    exact .inr ⟨by rw[c.1.1],rfl⟩
   |false=>rw[e] at h;exact Zaw nc h
  ·rw[if_neg c] at h
   dsimp only at h
   cases e:x == n with
   |true=>rw[e] at h;exact .inl h
   |false=>rw[e] at h;exact Zaw nc h
theorem Zbz {env:Env}: ∀ {names:List (Str × NameKind)} {x:Str},names.lookup x=some .free->(∃ kd,(kd=NameKind.cell\/kd=NameKind.free)/\(names.map fun (n,k)=>if (k == NameKind.free && env.scope.kind == .function && env.kindOf n == some .cell) then (n,NameKind.cell) else (n,k)).lookup x=some kd)
 | [],x,h=>by simp at h
 | (n,q) :: r,x,h=>by
  rw[List.lookup_cons] at h
  rw[List.map_cons,List.lookup_cons]
  by_cases c:(q == NameKind.free && env.scope.kind == .function && env.kindOf n == some .cell)=true
  ·dsimp only
   rw[if_pos c]
   cases e:x == n with
   |true=>exact ⟨_,.inl rfl,rfl⟩
   |false=>rw[e] at h;exact Zbz h
  ·dsimp only
   rw[if_neg c]
   cases e:x == n with
   |true=>rw[e] at h;exact ⟨q,.inr (Option.some.inj h),rfl⟩
   |false=>rw[e] at h;exact Zbz h
noncomputable def Zsi (XN N:List Str) (dn sn:List (Str × NameKind)) (k:Nat) (fr:List Nat):Bool:=
 (sn.all fun y=>y.2 != .cell && (y.2 != .free || dn.lookup y.1 == some .cell) && (y.2 != .local || sn.lookup y.1 == some .local)) && N.length == k + fr.length &&
  (List.range fr.length).all fun j=>match fr[j]? with
   |some i=>(match N[k + j]?,XN[i]? with | some x,some y=>x == y && dn.lookup x == some .cell && sn.lookup x == some .free | _,_=>false)
   |none=>false
theorem Zqh {X:Cx} {scope:Scope} {N:List Str} {k n:Nat} {fr:List Nat} {XN:List Str} {dn:List (Str × NameKind)} (hN:X.N=XN) (hd:X.env.scope.names=dn) (hc:X.env.cells=cellsFrom n dn []) (hk:scope.kind= .function) (h:Zsi XN N dn scope.names k fr=true):Blk X scope (clF scope X.env) N k fr:=by
 unfold Zsi at h
 simp only[Bool.and_eq_true,List.all_eq_true,bne_iff_ne,ne_eq,Bool.or_eq_true,beq_iff_eq] at h
 obtain ⟨⟨h1,h2⟩,h3⟩:=h
 have kind: ∀ x,X.env.kindOf x=dn.lookup x:=fun x=>by rw[<- hd];rfl
 have cel: ∀ x,dn.lookup x=some .cell-> ∃ c,X.env.cells.lookup x=some c:=fun x e=>by
  have:=PySem.W.cellsFrom_some dn n [] (.inl e)
  rw[hc]
  exact Option.isSome_iff_exists.mp this
 have frc: ∀ y∈scope.names,y.2= .free-> ∃ c,X.env.cells.lookup y.1=some c:=fun y hy e=>by
  rcases (h1 y hy).1.2 with z | z
  ·exact absurd e z
  ·exact cel _ z
 have sub: ∀ x c,(clF scope X.env).lookup x=some c->X.env.cells.lookup x=some c:=fun x c e=>by
  unfold clF at e
  rw[<- List.map_reverse] at e
  obtain ⟨e1,y,e2,e3⟩:=Zdi e
  have e4:=List.mem_filter.mp (List.mem_reverse.mp e2)
  obtain ⟨c',g⟩:=frc y e4.1 (by simpa using e4.2)
  rw[e3] at g
  rw[g] at e1 ⊢
  rw[e1]
  rfl
 have has: ∀ x,scope.names.lookup x=some .free-> ∃ c,(clF scope X.env).lookup x=some c:=fun x e=>by
  refine Zb1 ?_
  have m:=PySem.mem_of_lookup e
  exact ⟨(x,(X.env.cells.lookup x).getD 0),List.mem_reverse.mpr (List.mem_map.mpr ⟨(x,.free),List.mem_filter.mpr ⟨m,by simp⟩,rfl⟩),rfl⟩
 refine ⟨?_,hk,fun y hy=>(h1 y hy).1.1,fun y hy e=> ?_,sub,fun x z=> ?_,h2,fun j i e=> ?_⟩
 ·have:=ZeT (env:=X.env) scope.names [] frc
  rw[List.append_nil] at this
  unfold closureFor
  exact (congrArg (fun (m:Sem (List (Str × Addr)))=>m >>= fun cs=>(pure cs:Sem (List (Str × Addr)))) this).trans (pure_bind _ _)
 ·rcases (h1 y hy).2 with z | z
  ·exact absurd e z
  ·exact z
 ·have nc: ∀ m,X.env.scope.names.lookup m=X.env.kindOf m:=fun m=>rfl
  refine has x ?_
  rcases z with z | z
  ·rcases Zaw nc z with q | q
   ·exact absurd rfl (h1 _ (PySem.mem_of_lookup q)).1.1
   ·exact q.1
  ·rcases Zaw nc z with q | q
   ·exact q
   ·cases q.2
 ·have hj:j < fr.length:=(List.getElem?_eq_some_iff.mp e).1
  have q:=h3 j (List.mem_range.mpr hj)
  rw[e] at q
  dsimp only at q
  cases e1:N[k + j]? with
  |none=>rw[e1] at q;cases q
  |some x=>
   cases e2:XN[i]? with
   |none=>rw[e1,e2] at q;cases q
   |some y=>
    rw[e1,e2] at q
    simp only[Bool.and_eq_true,beq_iff_eq] at q
    obtain ⟨⟨q1,q2⟩,q3⟩:=q
    subst q1
    obtain ⟨kd,r1,r2⟩:=Zbz (env:=X.env) q3
    obtain ⟨c,r3⟩:=has x q3
    refine ⟨x,rfl,by rw[hN];exact e2,by rw[kind];exact q2,?_,r3.trans (sub x c r3).symm⟩
    rcases r1 with r1 | r1
    ·exact .inl (r1 ▸ r2)
    ·exact .inr (r1 ▸ r2)
section
variable {X:Cx} {ξ:XK}
noncomputable def Zcq:List D->Option (List Bool)
 | []=>some []
 | .bl b :: r=>match Zcq r with | some bs=>some (b :: bs) | none=>none
 |_ :: _=>none
noncomputable def Zsj:List D->Sto->Out D:=fun ds M=>match ds with
 | [.ref n]=>(match M[n]? with | some (.lst xs)=>(match Zcq xs with | some bs=> .ok (.bl (bs.all id)) M | none=> .bad) | none=> .bad)
 |_=> .bad
end
section
variable {prog:Program} {w:World} {A:Around} {E:Value->Shared->Prop} {s:Shared}
theorem Zdx {α β:Type} {f g:α->Option β}: ∀ {l:List α},(∀ m∈l,f m=g m)->l.filterMap f=l.filterMap g
 | [],_=>rfl
 |x :: r,h=>by
  rw[List.filterMap_cons,List.filterMap_cons,h x List.mem_cons_self,Zdx fun m hm=>h m (List.mem_cons_of_mem _ hm)]
theorem Zi8 (xs:Array Value):((List.range xs.size).filterMap fun (m:Nat)=>xs[((xs.size:Int) - 1 + (m:Int) * (-1)).toNat]?).toArray=xs.toList.reverse.toArray:=by
 congr 1
 apply List.ext_getElem?
 intro i
 have all:(List.range xs.size).filterMap (fun (m:Nat)=>xs[((xs.size:Int) - 1 + (m:Int) * (-1)).toNat]?)=(List.range xs.size).map fun m=>xs[xs.size - 1 - m]?.getD .none:=by
  rw[<- List.filterMap_eq_map]
  refine Zdx fun m hm=> ?_
  have hm':=List.mem_range.mp hm
  have e:((xs.size:Int) - 1 + (m:Int) * (-1)).toNat=xs.size - 1 - m:=by omega
  rw[e]
  have hlt:xs.size - 1 - m < xs.size:=by omega
  simp[hlt]
 rw[all]
 by_cases hi:i < xs.size
 ·have hlt:xs.size - 1 - i < xs.size:=by omega
  rw[List.getElem?_map,List.getElem?_range hi,List.getElem?_reverse (by simpa using hi)]
  simp[hlt]
 ·rw[List.getElem?_eq_none (by simpa using hi),List.getElem?_eq_none (by simpa using hi)]
end
section
variable {X:Cx} {ξ:XK} {e:Expr} {f:Ev} {p2 p3 p4 pos:Pos} {j:Nat}
theorem Reps.rev {K:PySem.W.Frag} {H:Hp} {α:List Addr}: ∀ {vs:List V} {ds:List D},Reps K H α vs ds->Reps K H α vs.reverse ds.reverse
 |_,_,.nil=> .nil
 |_,_,.cons r t=>by
  rw[List.reverse_cons,List.reverse_cons]
  exact (Reps.rev t).append (.cons r .nil)
end
end DL
end
section
namespace DL
open PySem PySem.Spec PyProof.Rows L2
section
variable {X:Cx} {ξ:XK}
end
end DL
end
section
namespace DL
open PySem PySem.Spec PyProof.Rows L2
section
variable {M:Model} {A:Around} {E:Value->Shared->Prop} {s:Shared}
end
section
variable {X:Cx} {ξ:XK} {tg iter elt:Expr} {ifs:List Expr} {scope:Scope} {cl:List (Str × Addr)} {N:List Str} {k:Nat} {fr:List Nat} {fi:Ro->Sto->Out Src} {gt:Tg} {c:Tv} {f:Ev} {pos:Pos}
end
section
variable {X:Cx} {scope0:Scope} {cl0:List (Str × Addr)} {N0:List Str} {k0:Nat} {fr0:List Nat} {C:Addr} {fp:List Addr} {s:Shared} {H:Hp} {scope:Scope} {N:List Str} {k:Nat} {fr:List Nat} {dn:List (Str × NameKind)}
end
end DL
end
section
namespace DL
open PySem PySem.Spec PyProof.Rows L2
open PySem.W (nsIn excIn tailIn nsOkIn mroIn clsIn typeIn findIn specialIn takesIn kitOne Looks)
noncomputable abbrev bmV:List Value:=[.type "ValueError",.type "Exception",.type "BaseException",.type "object"]
noncomputable def Zk9 (K:PySem.W.Frag) (c:Str):Option Addr:=match nsIn K mainGlobals c with | some (some (.ref C))=>some C | _=>none
theorem Zi9 {K:PySem.W.Frag} {c:Str} {C:Addr} (h:Zk9 K c=some C):nsIn K mainGlobals c=some (some (.ref C)):=by
 unfold Zk9 at h
 split at h
 ·rename_i C' e;cases h;exact e
 ·cases h
noncomputable def Zhl (K:PySem.W.Frag) (c:Str):Bool:=match Zk9 K c with
 |some C=>excIn K C bmV "ValueError.__new__" && findIn K (.ref C) "__getattribute__" == some (some (.builtin "BaseException.__getattribute__")) && findIn K (.ref C) "__getattr__" == some none && findIn K (.ref C) "__class__" == some (some (.builtin "object.__class__")) &&
  specialIn K (.builtin "object.__class__") "__get__" == some (some (.builtin "getset_descriptor.__get__")) && takesIn K (.builtin "object.__class__") == some true && mroIn K C (.type "BaseException") == some true && mroIn K C (.type "object") == some true && (clsIn K C).isSome
 |none=>false
theorem Zla {K:PySem.W.Frag} {c:Str} (h:Zhl K c=true): ∃ C,nsIn K mainGlobals c=some (some (.ref C))/\excIn K C bmV "ValueError.__new__"=true/\DQ.ExcC K C:=by
 unfold Zhl at h
 split at h
 ·rename_i C e
  simp only[Bool.and_eq_true,beq_iff_eq] at h
  obtain ⟨⟨⟨⟨⟨⟨⟨⟨h1,h2⟩,h3⟩,h4⟩,h5⟩,h6⟩,h7⟩,h8⟩,h9⟩:=h
  exact ⟨C,Zi9 e,h1,h2,h3,h4,h5,h6,h7,h8,h9⟩
 ·cases h
theorem Zlb {K:PySem.W.Frag} {h:Heap} {C:Addr} {bmB:List Value} {newId:String} (X:K.In h) (q:excIn K C bmB newId=true):
  ∃ bm N nm q bs hdct sn sub ab col dd k0 k1 k2 k3 k5 mN,h.get? C=some (excClassObj nm q C N bs bm hdct sn sub ab col dd k0 k1 k2 k3 k5 newId)/\h.Ns N mN/\mN "__init__"=none/\OwnTail h bmB bm:=by
 unfold excIn at q
 split at q
 ·rename_i dd cd sl ho
  split at q
  ·rename_i C' bm k0 k1 k2 k3 n k5 hm hs
   simp only[Bool.and_eq_true,beq_iff_eq,Bool.not_eq_true'] at q
   obtain ⟨⟨⟨⟨⟨rfl,rfl⟩,hdel⟩,ht⟩,hok⟩,hni⟩:=q
   obtain ⟨nm,bs,mro,ns,qn,hd,sn,sub,ab,col,del⟩:=cd
   dsimp only at hm hdel hok hni
   subst hm hdel
   obtain ⟨l⟩:=sl
   simp only at hs
   subst hs
   exact ⟨bm,ns,nm,qn,bs,hd,sn,sub,ab,col,dd,k0,k1,k2,k3,k5,_,X _ _ ho,.of_isNs (PySem.W.isNs_of_in X hok),PySem.W.nsMap_none_of_in X hok hni,PySem.W.tail_of_in X ht⟩
  ·cases q
 ·cases q
noncomputable def Zsk (tab:List (Str × Bool)) (f:Ev):Ev:=fun ρ M=>(f ρ M).bind fun x M1=>match x with | .err c _=>(match tab.lookup c with | some b=> .ok (.bl b) M1 | none=> .bad) | _=> .bad
section
variable {X:Cx} {ξ:XK} {e:Expr} {fa:Ev} {p pos:Pos} {tab:List (Str × Bool)}
noncomputable def ZbA (c:Str) (fs:Av):Sv:=fun ρ M=>ZaY (fs ρ M) fun ds M1=>if ds.length<=1000 then .exc c M1 else .bad
theorem ZcE {x:Str} {np cpos:Pos} {a:Expr} {as:List Expr} {fs:Av} (T:Thr X ξ) (hx:Zhl X.K x=true) (gl: ∀ c v,nsIn X.K mainGlobals c=some (some v)->X.mg c=some v) (hh:X.A.handled=none) (ha:DA X ξ (a :: as) fs) (hg:Gl X x:=by rfl) (hdb:(x == ("__debug__":Str))=false:=by decide)
  (he:starEach (a :: as) X.env=(false,eval a X.env) :: starEach as X.env:=by rfl) (hpl:(backTo cpos (starEach as X.env)).any (·.1)=false:=by rfl):DS X ξ (.Raise (some (.Call (.Name x np) (a :: as) [] cpos)) none pos) (ZbA x fs):=by
 obtain ⟨ta,pa,qa⟩:=ha
 obtain ⟨C,hC,hq,_⟩:=Zla hx
 refine ⟨fun Dn σ H=>ta σ H fun vs H1=>vs.length<=sizeLine/\ξ (.ref C) none H1,fun pins s σ H Dn I h=> ?_,fun σ ρ H α M Dn s h q=> ?_⟩
 ·obtain ⟨tl,N,nm,q,bs,hdct,sn,sub,ab,col,dd,k0,k1,k2,k3,k5,mN,gC,hN,hni,TL⟩:=Zlb I.ok.mod.kin hq
  refine wpAny_Raise_call_subT (C:=C) (nm:=nm) (q:=q) (N:=N) (bs:=bs) (bm:=tl) (hdct:=hdct) (sn:=sn) (sub:=sub) (ab:=ab) (col:=col) (dd:=dd) (k0:=k0) (k1:=k1) (k2:=k2) (k3:=k3) (k5:=k5) F.excBase_ValueError (mN:=mN)
   (TL.hasType F.excBase_ValueError.hasBase) hh (by rw[he];show (false || (backTo cpos (starEach as X.env)).any (·.1))=false;rw[hpl];rfl) hni (Zdq I hg (gl x _ hC) ⟨rfl,?_⟩ hdb)
  have hs:=pa cpos pins s σ H _ I h
  rw[he] at hs ⊢
  refine Calls.evalArgs_plain (wpAny_mono hs (fun us s2 ⟨vs,H1,I1,r1,z1,z2⟩=>⟨rfl,by rw[<- r1.length];exact z1,I1.bk _ _ gC,hN.keeps I1.bk,TL.keeps I1.bk,fun h' e m=> ?_⟩) fun _ _ y=>y)
  obtain ⟨t,g1,g2,g3⟩:=m.there
  exact T.mak pins σ H1 s2 h' e _ _ C I1 m.keeps m.new g1 rfl rfl rfl rfl rfl z2
 ·refine qa σ ρ H α M _ s h (FP.seq q fun ds M1 vs H1 α1 e1 h1 r1 w1=> ?_)
  by_cases hl:ds.length<=1000
  ·rw[if_pos hl] at w1
   exact ⟨by rw[r1.length];exact ZkZ hl,w1 C H1 α1 hC Ext.refl h1⟩
  ·rw[if_neg hl] at w1
   exact w1.elim
end
end DL
end
section
namespace DL
open PySem PySem.Spec PyProof.Rows L2
open PySem.W (nsIn excIn tailIn nsOkIn mroIn clsIn typeIn findIn specialIn takesIn kitOne Looks looks_mroIn looks_typeIn)
section
variable {X:Cx} {pins pins' pn:List (Addr × Obj)} {σ:L2.St} {H H':Hp} {s:Shared} {xe:Value->Shared->Prop} {e:Addr}
end
noncomputable def Zsl (gb:Sv) (cs:List Str) (i:Nat) (gh:Sv):Sv:=fun ρ M=>match gb ρ M with
 | .exc c M1=>if cs.contains c=true then (match gh ((List.replicate ρ.length none).set i (some (.err c []))) M1 with
  | .ret d M2=> .ret d M2
  | .nx _ M2=> .nx (List.replicate ρ.length none) M2
  |_=> .bad) else .bad
 |o=>o
section
variable {X:Cx} {ξ:XK} {d n:Str} {cs:List Str} {i:Nat} {body suite:List Stmt} {b0:Stmt} {gb gh:Sv} {pos hpos np:Pos}
end
theorem ZC {k:Nat} {A:Around} {env:Env} (hr:Room k (A.deeper env)) (h:100<=k):A.handled.isNone=true:=by
 have e:A.handled=none:=hr.hd h
 rw[e]
 rfl
end DL
end
section
namespace DL
open PySem PySem.Spec PyProof.Rows L2
noncomputable abbrev Me:=D->List D->Sto->Out D
noncomputable def MO (X:Cx) (ξ:XK) (r:V->List V->Hp->VK->Prop) (g:Me):Prop:= ∀ H α M v vs x ds Q,HR X.K H α M->Rep X.K H α v x->Reps X.K H α vs ds->OP X.K H α ξ Q (g x ds M)->r v vs H Q
theorem HR.wrE {K:PySem.W.Frag} {H:Hp} {α:List Addr} {M:Sto} {n:Nat} {p:Addr} {xs ys:List V} {ds:List D} (h:HR K H α M) (e:RefK H α 0 n p) (hp:H p=some (.lst ys)) (r:Reps K H α xs ds):Ext K H (upd H p (.lst xs)) α α/\HR K (upd H p (.lst xs)) α (M.set n (.lst ds)):=
 ⟨Ext.wr hp,h.wr e hp r⟩
section
variable {X:Cx} {ξ:XK} {o e:Expr} {es:List Expr} {fo fa:Ev} {fs:Av} {name:Str} {apos cpos pos:Pos} {T id:String} {r:V->List V->Hp->VK->Prop} {g:Me}
noncomputable def Zlc (x:D) (M:Sto):Bool:=match x with | .ref n=>M[n]?.isSome | _=>false
noncomputable def ZcF (g:Me) (fo:Ev) (fs:Av):Ev:=fun ρ M=>(fo ρ M).bind fun x M1=>if Zlc x M1=true then (fs ρ M1).bind fun ds M2=>g x ds M2 else .bad
theorem Zld {K:PySem.W.Frag} {H:Hp} {α:List Addr} {M:Sto} {v:V} {x:D} (h:HR K H α M) (rx:Rep K H α v x) (k:Zlc x M=true):tyV K "list" v H:=by
 cases rx with
 | @ref p n hp=>
  obtain ⟨xs,g⟩:=h.some_at hp
  exact .inl ⟨rfl,_,SqL.of g⟩
 |_=>cases k
theorem Zle (slot:Slot "list" name id) (hty:typeOf (.builtin id)=pure (.type "method_descriptor")) (hm:MtR X id r) (hf:MO X ξ r g) (ho:DE X ξ o fo) (ha:DA X ξ (e :: es) fs)
  (hbase:attributeBase o name X.env (eval o X.env)=eval o X.env:=by rfl)
  (hfew:((backTo cpos (starEach (e :: es) X.env)).all (fun x=> !x.1) && (backToKw cpos (keywordEach [] X.env)).all (fun x=>x.1.isSome)
   && decide ((e :: es).length + ([]:List Keyword).length + (if ([]:List Keyword).isEmpty then 0 else 1) < 30))=true:=by rfl)
  (hline:(apos.endLine == cpos.line)=true:=by rfl) (hs:starEach (e :: es) X.env=(false,eval e X.env) :: starEach es X.env:=by rfl) (hplain:(backTo cpos (starEach es X.env)).any (·.1)=false:=by rfl):
  DE X ξ (.Call (.Attribute o name apos) (e :: es) [] cpos) (ZcF g fo fs):=by
 obtain ⟨to,po,qo⟩:=ho
 obtain ⟨ta,pa,qa⟩:=ha
 refine ⟨_,ZmN PySem.F.plainAttrs_list slot hty hm po pa hbase hfew hline hs hplain,fun σ ρ H α M Q s h q=> ?_⟩
 refine qo σ ρ H α M _ s h (OG.seq q fun x M1 v H1 α1 e1 h1 r1 q1=> ?_)
 by_cases k:Zlc x M1=true
 ·rw[if_pos k] at q1
  exact ⟨Zld h1 r1 k,qa σ ρ H1 α1 M1 _ (s.mono e1) h1 (OG.seq q1 fun ds M2 vs H2 α2 e2 h2 r2 q2=>hf H2 α2 M2 v vs x ds Q h2 (Rep.mono e2 r1) r2 q2)⟩
 ·rw[if_neg k] at q1
  exact q1.elim
noncomputable def mApp:Me:=fun x ds M=>match x,ds with
 | .ref n,[d]=>(match M[n]? with | some (.lst xs)=>if xs.length < 10000000 then .ok .non (M.set n (.lst (xs ++ [d]))) else .bad | none=> .bad)
 |_,_=> .bad
theorem Znd:MO X ξ rAppend mApp:=by
 intro H α M v vs x ds Q h rx rs q
 cases rx with
 | @ref p n hp=>
  match rs with
  | .nil=>exact q.elim
  | .cons _ (.cons _ _)=>exact q.elim
  | .cons (v:=u) (d:=d) ru .nil=>
   cases em:M[n]? with
   |none=>simp only[mApp,em] at q;exact q.elim
   |some so=>
    cases so with
    |lst es=>
     obtain ⟨xs,g1,g2⟩:=h.at hp em
     by_cases c:es.length < 10000000
     ·simp only[mApp,em,if_pos c] at q
      obtain ⟨k1,k2⟩:=h.wrE hp g1 (g2.append (.cons ru .nil))
      exact ⟨p,xs,u,rfl,rfl,g1,by rw[g2.length];exact Nat.lt_of_lt_of_le c (by decide),q _ _ α k1 k2 .non⟩
     ·simp only[mApp,em,if_neg c] at q
      exact q.elim
 |_=>cases rs<;>exact q.elim
noncomputable def Zsm:Me:=fun x ds M=>match x,ds with
 | .ref n,[]=>(match M[n]? with | some (.lst _)=> .ok .non (M.set n (.lst [])) | none=> .bad)
 |_,_=> .bad
noncomputable def mExt:Me:=fun x ds M=>match x,ds with
 | .ref n,[.ref m]=>(match M[n]?,M[m]? with | some (.lst xs),some (.lst ys)=>if xs.length + ys.length<=10000000 then .ok .non (M.set n (.lst (xs ++ ys))) else .bad | _,_=> .bad)
 |_,_=> .bad
theorem Zhm {x:D} {l:List D} {M:Sto} (h:mExt x l M≠ .bad): ∃ n m,x= .ref n/\l=[.ref m]:=by
 unfold mExt at h
 split at h
 ·rename_i n m;exact ⟨n,m,rfl,rfl⟩
 ·exact absurd rfl h
theorem Zne:MO X ξ rExtend mExt:=by
 intro H α M v vs x ds Q h rx rs q
 obtain ⟨n,m,rfl,rfl⟩:=Zhm (x:=x) (l:=ds) (M:=M) fun z=>by rw[z] at q;exact q.elim
 cases rx with
 | @ref p n hp=>
 cases rs with
 |cons ru rs=>
 cases rs
 cases ru with
 | @ref p2 m hp2=>
 cases em:M[n]? with
 |none=>simp only[mExt,em] at q;exact q.elim
 |some so=>
 cases em2:M[m]? with
 |none=>cases so;simp only[mExt,em,em2] at q;exact q.elim
 |some so2=>
 cases so with
 |lst es=>
 cases so2 with
 |lst es2=>
 obtain ⟨xs,g1,g2⟩:=h.at hp em
 obtain ⟨ys,g3,g4⟩:=h.at hp2 em2
 by_cases c:es.length + es2.length<=10000000
 ·simp only[mExt,em,em2,if_pos c] at q
  obtain ⟨k1,k2⟩:=h.wrE hp g1 (g2.append g4)
  exact ⟨p,p2,xs,ys,rfl,rfl,g1,g3,by rw[g2.length,g4.length];exact Nat.le_trans c (by decide),q _ _ α k1 k2 .non⟩
 ·simp only[mExt,em,em2,if_neg c] at q
  exact q.elim
theorem ZaC (ho:DE X ξ o fo) (ha:DE X ξ e fa) (hbase:attributeBase o "append" X.env (eval o X.env)=eval o X.env:=by rfl)
  (hfew:((backTo cpos (starEach [e] X.env)).all (fun x=> !x.1) && (backToKw cpos (keywordEach [] X.env)).all (fun x=>x.1.isSome)
   && decide ([e].length + ([]:List Keyword).length + (if ([]:List Keyword).isEmpty then 0 else 1) < 30))=true:=by rfl)
  (hline:(apos.endLine == cpos.line)=true:=by rfl) (hs:starEach [e] X.env=(false,eval e X.env) :: starEach [] X.env:=by rfl) (hplain:(backTo cpos (starEach [] X.env)).any (·.1)=false:=by rfl):
  DE X ξ (.Call (.Attribute o "append" apos) [e] [] cpos) (ZcF mApp fo (Zc fa aNil)):=Zle PySem.F.slot_list_append PySem.F.type_list_append ZcI Znd ho (Zb ha Zf hs) hbase hfew hline hs hplain
noncomputable def DO (X:Cx) (ξ:XK) (e:Option Expr) (f:Ro->Sto->Out (Option Int)):Prop:= ∃ t:TO,PO X e t/\ ∀ σ ρ H α M (Q:Option Int->Hp->Prop),SR X.K H α σ ρ->HR X.K H α M->OG X.K (fun _ _ v d=>v=d) H α ξ Q (f ρ M)->t σ H Q
noncomputable def oNo:Ro->Sto->Out (Option Int):=fun _ M=> .ok none M
noncomputable def oSo (f:Ev):Ro->Sto->Out (Option Int):=fun ρ M=>(f ρ M).bind fun x M1=>match x with | .int i=> .ok (some i) M1 | _=> .bad
theorem ZcL:DO X ξ none oNo:=⟨_,ZkN,fun σ ρ H α M Q s h q=>q none H α Ext.refl h rfl⟩
theorem ZcM (ha:DE X ξ e fa):DO X ξ (some e) (oSo fa):=by
 obtain ⟨ta,pa,qa⟩:=ha
 refine ⟨_,ZkO pa,fun σ ρ H α M Q s h q=> ?_⟩
 refine qa σ ρ H α M _ s h (OG.seq q fun x M1 v H1 α1 e1 h1 r1 q1=> ?_)
 cases r1 with
 |int i=>exact ⟨i,rfl,q1 (some i) H1 α1 Ext.refl h1 rfl⟩
 |_=>exact q1.elim
noncomputable def Zdy (xs:List D) (lo hi:Option Int):List D:=(xs.drop (HT.sIx xs.length 0 lo)).take (HT.sIx xs.length xs.length hi - HT.sIx xs.length 0 lo)
theorem Reps.drop {K:PySem.W.Frag} {H:Hp} {α:List Addr}: ∀ (n:Nat) {vs:List V} {ds:List D},Reps K H α vs ds->Reps K H α (vs.drop n) (ds.drop n)
 |0,_,_,h=>h
 |_ + 1,_,_,.nil=> .nil
 |n + 1,_,_,.cons _ t=>Reps.drop n t
theorem Reps.take {K:PySem.W.Frag} {H:Hp} {α:List Addr}: ∀ (n:Nat) {vs:List V} {ds:List D},Reps K H α vs ds->Reps K H α (vs.take n) (ds.take n)
 |0,_,_,_=> .nil
 |_ + 1,_,_,.nil=> .nil
 |n + 1,_,_,.cons r t=> .cons r (Reps.take n t)
theorem Reps.cut {K:PySem.W.Frag} {H:Hp} {α:List Addr} {vs:List V} {ds:List D} (r:Reps K H α vs ds) (lo hi:Option Int):Reps K H α (ZjO vs lo hi) (Zdy ds lo hi):=by
 unfold ZjO Zdy
 rw[r.length]
 exact (r.drop _).take _
noncomputable def eSl (f:Ev) (lo hi:Ro->Sto->Out (Option Int)):Ev:=fun ρ M=>(f ρ M).bind fun x M1=>(lo ρ M1).bind fun l M2=>(hi ρ M2).bind fun u M3=>match x with
 | .ref n=>(match M3[n]? with | some (.lst xs)=> .ok (.ref M3.length) (M3 ++ [.lst (Zdy xs l u)]) | none=> .bad)
 | .rol xs=> .ok (.ref M3.length) (M3 ++ [.lst (Zdy xs l u)])
 | .tup xs=>if HT.sIx xs.length 0 l=0/\HT.sIx xs.length xs.length u=xs.length then .bad else .ok (.tup (Zdy xs l u)) M3
 |_=> .bad
theorem ZcN {lo hi:Option Expr} {fl fh:Ro->Sto->Out (Option Int)} {p2:Pos} (he:DE X ξ e fa) (hl:DO X ξ lo fl) (hh:DO X ξ hi fh):DE X ξ (.Subscript e (.Slice lo hi none p2) pos) (eSl fa fl fh):=by
 obtain ⟨ta,pa,qa⟩:=he
 obtain ⟨tl,pl,ql⟩:=hl
 obtain ⟨th,ph,qh⟩:=hh
 refine ⟨_,ZiM (SlR.or ZkT ZmK) pa pl ph,fun σ ρ H α M Q s h q=> ?_⟩
 refine qa σ ρ H α M _ s h (OG.seq q fun x M1 v H1 α1 e1 h1 r1 q1=> ?_)
 refine ql σ ρ H1 α1 M1 _ (s.mono e1) h1 (OG.seq q1 fun l M2 l' H2 α2 e2 h2 r2 q2=> ?_)
 refine qh σ ρ H2 α2 M2 _ ((s.mono e1).mono e2) h2 (OG.seq q2 fun u M3 u' H3 α3 e3 h3 r3 q3=> ?_)
 cases r2
 cases r3
 cases Rep.mono e3 (Rep.mono e2 r1) with
 | @ref p n hp=>
  cases em:M3[n]? with
  |none=>simp only[em] at q3;exact q3.elim
  |some so=>
   cases so with
   |lst es=>
    simp only[em] at q3
    obtain ⟨xs,g1,g2⟩:=h3.at hp em
    exact .inl ⟨p,xs,rfl,SqL.of g1,fun a ha=>q3 _ _ (α3 ++ [a]) (Ext.new ha) (h3.new ha (g2.cut l u)) (.ref ⟨h3.last a,Kn.lst Zr⟩)⟩
 | @rol p xs ds hp rp=>
  have q4:OP X.K H3 α3 ξ Q (.ok (.ref M3.length) (M3 ++ [.lst (Zdy ds l u)])):=q3
  exact .inl ⟨p,xs,rfl,hp.sq,fun a ha=>q4 _ _ (α3 ++ [a]) (Ext.new ha) (h3.new ha (rp.cut l u)) (.ref ⟨h3.last a,Kn.lst Zr⟩)⟩
 | @tup p xs ds hp rp=>
  by_cases c:HT.sIx ds.length 0 l=0/\HT.sIx ds.length ds.length u=ds.length
  ·simp only[if_pos c] at q3
   exact q3.elim
  ·simp only[if_neg c] at q3
   exact .inr ⟨p,xs,rfl,(SqT.of hp),by rw[rp.length];exact c,fun a ha=>q3 _ _ α3 (Ext.new0 ha) (h3.tup ha) (.tup Zr (Reps.mono (Ext.new0 ha) (rp.cut l u)))⟩
 |_=>exact q3.elim
noncomputable def ZpL (M:Sto) (x:D):Option (List D):=match x with | .con _=>none | y=>ZdT M y
theorem Zhn {M:Sto} {x:D} {ys:List D} (e:ZpL M x=some ys):ZdT M x=some ys/\ ∀ zs,x≠ .con zs:=by
 cases x with
 |con _=>cases e
 |_=>exact ⟨e,fun _ z=>by cases z⟩
noncomputable def bTup:List D->Sto->Out D:=fun ds M=>match ds with
 | [x]=>match ZpL M x with | some xs=> .ok (.tup xs) M | none=> .bad
 |_=> .bad
theorem Znf:CO X ξ (fun xs H Q=> ∃ p ys,xs=[.ref p]/\((SqL X.K H p ys/\ ∀ l,H l=none->Q (.ref l) (upd H l (.tup ys)))\/(SqT X.K H p ys/\Q (.ref p) H))) bTup:=by
 intro H α M vs ds Q h rs q
 unfold bTup at q
 match rs with
 | .nil=>exact q.elim
 | .cons _ (.cons _ _)=>exact q.elim
 | .cons (d:=x) r .nil=>
  cases e:ZpL M x with
  |none=>simp only[e] at q;exact q.elim
  |some ys=>
   simp only[e] at q
   obtain ⟨p,xs,rfl,h2,h3⟩:=Zi0 h r (Zhn e).1 (Zhn e).2
   rcases h2 with h2 | h2
   ·exact ⟨p,xs,rfl,.inl ⟨h2,fun l hl=>q _ _ α (Ext.new0 hl) (h.tup hl) (.tup Zr (Reps.mono (Ext.new0 hl) h3))⟩⟩
   ·exact ⟨p,xs,rfl,.inr ⟨SqT.of h2,q _ H α Ext.refl h (.tup h2 h3)⟩⟩
noncomputable def iR2 (fs:Av):Ro->Sto->Out Src:=fun ρ M=>(fs ρ M).bind fun ds M1=>match ds with
 | [.int i,.int j]=>if -(2 ^ 62)<=i/\i < 2 ^ 62/\ -(2 ^ 62)<=j/\j < 2 ^ 62 then .ok (.pur (Zbs i (j - i).toNat)) M1 else .bad
 |_=> .bad
end
noncomputable def eRv (f:Ev):Ev:=fun ρ M=>(f ρ M).bind fun x M1=>match x with
 | .tup xs=> .ok (.tup xs.reverse) M1
 | .ref n=>(match M1[n]? with | some (.lst xs)=> .ok (.ref M1.length) (M1 ++ [.lst xs.reverse]) | none=> .bad)
 | .rol xs=> .ok (.ref M1.length) (M1 ++ [.lst xs.reverse])
 |_=> .bad
end DL
end
section
namespace DL
open PySem PySem.Spec PyProof.Rows L2
noncomputable def Zfv (tg:Tg) (g:Sv) (src:Src):Nat->Nat->Ro->Sto->Fl
 |f,i,ρ,M=>match nxt src i M with
  |none=> .bad
  |some none=> .nx ρ M
  |some (some d)=>(match f with
   |0=> .bad
   |f + 1=>(match tg d ρ with
    |none=> .bad
    |some ρ1=>(match g ρ1 M with
     | .nx ρ2 M2=>Zfv tg g src f (i + 1) ρ2 M2
     | .cnt ρ2 M2=>Zfv tg g src f (i + 1) ρ2 M2
     | .brk ρ2 M2=> .nx ρ2 M2
     |o=>o)))
noncomputable def Zc6 (tg:Tg) (fi:Ro->Sto->Out Src) (g:Sv):Sv:=fun ρ M=>ZaY (fi ρ M) fun src M1=>Zfv tg g src (cnt src M1) 0 ρ M1
section
variable {X:Cx} {ξ:XK} {tg iter a b:Expr} {gt:Tg} {fi:Ro->Sto->Out Src} {g:Sv} {body:List Stmt} {f fa fb:Ev} {fs:Av} {p pos:Pos}
theorem ZeU (hp:PassesOwn (model X.prog X.w) X.A X.env X.xe) (hi:DI X ξ tg iter fi) (hg:DG X tg gt) (hb:DSs X ξ body g) (hf: ∀ x,foldedSetIterable iter X.env x=pure x:=by intro _;rfl):DS X ξ (.For tg iter body [] pos) (Zc6 gt fi g):=by
 obtain ⟨wi,pi,qi⟩:=hi
 obtain ⟨tt,pt,qt⟩:=hg
 obtain ⟨tb,pb,qb⟩:=hb
 refine ⟨_,ZgI hp pi pt pb hf,fun σ ρ H α M Dn s hh w=>qi σ ρ H α M _ s hh (FP.seq w fun src M1 J H1 α1 e1 h1 sc w1=> ?_)⟩
 generalize eo:Zfv gt g src (cnt src M1) 0 ρ M1=o at w1
 refine ⟨fun i m σ' H'=> ∃ ρ' α' M',Ext X.K H1 H' α1 α'/\SR X.K H' α' σ' ρ'/\HR X.K H' α' M'/\Zfv gt g src m i ρ' M'=o,⟨cnt src M1,ρ,α1,M1,Ext.refl,s.mono e1,h1,eo⟩,?_⟩
 rintro i m σ' H' ⟨ρ',α',M',ex,sr,hr,en⟩
 have s5:=sc i H' α' M' ex hr
 unfold Zfv at en
 cases en1:nxt src i M' with
 |none=>rw[en1] at en;cases en;exact w1.elim
 |some od=>
  rw[en1] at en s5
  cases od with
  |none=>cases en;exact .inl ⟨s5,w1 σ' H' α' ex hr sr⟩
  |some d=>
   obtain ⟨go,yl⟩:=s5
   cases m with
   |zero=>cases en;exact w1.elim
   |succ m=>
    simp only at en
    refine .inr ⟨go,fun σ2 H2=> ∃ ρ' α' M',Ext X.K H1 H2 α1 α'/\SR X.K H2 α' σ2 ρ'/\HR X.K H2 α' M'/\Zfv gt g src m (i + 1) ρ' M'=o,fun σ2 H2 z=>⟨m,Nat.lt_succ_self m,z⟩,fun x H2 y=> ?_⟩
    obtain ⟨ex7,hr7,rp7⟩:=yl x H2 y
    exact Zi5 (tg:=tg) w1 qt qb (ex.trans ex7) (sr.mono ex7) hr7 rp7 en (fun σ' H' z=>z)
end
theorem Zho {X:Cx} {pins:List (Addr × Obj)} {σ:L2.St} {H:Hp} {s:Shared} {h':Heap} {t':Nat} {ch:List Addr} (I:Inv X pins σ H s) (k: ∀ b o,b ∉ ch->s.heap.get? b=some o->h'.get? b=some o) (hf: ∀ b∈ch,ZdV X pins H b):Inv X pins σ H { s with heap:=h',toks:=t' }:=by
 have nit: ∀ b u,H b=some u->b ∉ ch:=fun b u e z=>by rw[(hf b z).1] at e;cases e
 have hL:X.env.locals ∉ ch:=fun z=>(hf _ z).2.1 rfl
 refine I.step (g':=s.gens) (d':=s.drawn) (ch:=ch) (fun b hb=> ?_) (fun b o _ _ hc e _=>k b o hc e) (fun b o _ _ hc e _=>⟨o.slots,k b o hc e⟩) (fun _ _ _ _ n=>n)
  (fun b o hc e=>⟨o,k b o hc e⟩) (fun _ _ e=>e) (fun _ _ _ e=>e) (fun b ps e=>⟨#[],by rw[e];simp⟩) (fun m hm=> ?_) (fun b u e=> ?_) I.bare
 ·obtain ⟨_,z1,_,z3,z4,z5⟩:=hf b hb
  exact ⟨z3,z1,z4,z5⟩
 ·obtain ⟨o,es,ep,ho,r⟩:=hm
  exact ⟨o,es,ep,k _ o hL ho,r⟩
 ·refine (I.hok b u e).stay (fun c v hc q=>k c v ?_ q) (fun _ q=>q) fun _ _ q=>q
  rcases hc with z | z
  ·rw[z];exact nit b u e
  ·exact nit c _ z
theorem Zj1 {X:Cx} {pins:List (Addr × Obj)} {σ:L2.St} {H:Hp} {s:Shared} {h':Heap} {t':Nat} {ch:List Addr} {vs:List V} {us:List Value} (I:Inv X pins σ H s) (hf: ∀ b∈ch,ZdV X pins H b) (hlt: ∀ b∈ch,b < s.heap.objs.size) (rv:ZW vs us) (hz:vs.length<=sizeLine)
  (k: ∀ b o,b ∉ ch->s.heap.get? b=some o->h'.get? b=some o) (ht:h'.get? s.heap.objs.size=some { cls:= .type "tuple",data:= .seq us.toArray }):
  Inv X pins σ (upd H s.heap.objs.size (.tup vs)) { s with heap:=h',toks:=t' }/\H s.heap.objs.size=none/\ ∀ b∈ch,upd H s.heap.objs.size (.tup vs) b=none:=by
 have fr:H s.heap.objs.size=none:=I.hok.fresh (Nat.le_refl _)
 have hn: ∀ b∈ch,upd H s.heap.objs.size (.tup vs) b=none:=fun b hb=>by rw[ZJ (Nat.ne_of_lt (hlt b hb))];exact (hf b hb).1
 have I1:Inv X pins σ (upd H s.heap.objs.size (.tup vs)) { s with heap:=s.heap.push { cls:= .type "tuple",data:= .seq us.toArray },toks:=t' }:=
  I.laid (t':=t') (o:= .tup vs) (fun _ _ q=>Heap.get?_push_of_some _ q) (Nat.le_refl _) ⟨hz,us,rv,_,Heap.get?_push_size _ rfl,rfl,_,rfl⟩
 refine ⟨Zho (s:={ s with heap:=s.heap.push { cls:= .type "tuple",data:= .seq us.toArray },toks:=t' }) (t':=t') (ch:=ch) I1 (fun b o hb e=> ?_) (fun b hb=>⟨hn b hb,(hf b hb).2⟩),fr,hn⟩
 by_cases c:b=s.heap.objs.size
 ·subst c
  have e':(s.heap.push { cls:= .type "tuple",data:= .seq us.toArray }).get? s.heap.objs.size=some o:=e
  rw[Heap.get?_push_size _ rfl] at e'
  cases e'
  exact ht
 ·refine k b o hb ?_
  have e':(s.heap.push { cls:= .type "tuple",data:= .seq us.toArray }).get? b=some o:=e
  have hl:b < s.heap.objs.size:=by
   have q:b < s.heap.objs.size + 1:=by
    have z:=Heap.lt_size e'
    rwa [Heap.size_push] at z
   exact Nat.lt_of_le_of_ne (Nat.le_of_lt_succ q) c
  have q:(s.heap.push { cls:= .type "tuple",data:= .seq us.toArray }).get? b=s.heap.get? b:=by
   unfold Heap.get? Heap.push
   simp only[Array.getElem?_push]
   rw[if_neg (Nat.ne_of_lt hl)]
  rwa [q] at e'
noncomputable def Ite (K:PySem.W.Frag) (a:Addr):It:=
 ⟨fun i H=> ∃ xs x,SqL K H a xs/\xs[i]?=some x,fun i H y H'=> ∃ p,H p=none/\y= .ref p/\ ∀ xs x,SqL K H a xs->xs[i]?=some x->H'=upd H p (.tup [.int i,x]),fun i H=> ∃ xs,SqL K H a xs/\xs.length<=i⟩
noncomputable def Itz (K:PySem.W.Frag) (a b:Addr):It:=
 ⟨fun i H=> ∃ xs ys x y,SqL K H a xs/\SqL K H b ys/\xs[i]?=some x/\ys[i]?=some y,fun i H v H'=> ∃ p,H p=none/\v= .ref p/\ ∀ xs ys x y,SqL K H a xs->SqL K H b ys->xs[i]?=some x->ys[i]?=some y->H'=upd H p (.tup [x,y]),
  fun i H=> ∃ xs ys,SqL K H a xs/\SqL K H b ys/\(xs.length<=i\/ys.length<=i)⟩
theorem Zhp {P:Program} {w:World} {K:PySem.W.Frag} {B:Around} {elts:List Expr} {k0:Nat} {tp:Pos} (hB:B.handled=none) (a e it:Addr) (hne:e≠it):
  Turn P w K B (.Tuple elts k0 tp) (Ite K a) [e,it] e (fun i h=>(∃ old,IsEnum h e it (i:Int) old)/\h.IsListIter it a i) where
 mem:=by simp
 obj:=fun i h st b hb=>by
  obtain ⟨⟨old,h1⟩,o,e2,c2,d2⟩:=st
  rcases List.mem_cons.mp hb with z | z
  ·subst z;exact ⟨_,h1,fun v z=>by cases z⟩
  ·have z':b=it:=by simpa using z
   subst z'
   exact ⟨o,e2,fun v z=>by rw[d2] at z;cases z⟩
 keep:=fun i h h' st k=>⟨let ⟨old,z⟩:=st.1;⟨old,k e (by simp) _ z⟩,st.2.at fun o z=>k it (by simp) o z⟩
 item:=by
  intro X hP hw hK hA i pins s σ H E I hf st hg
  subst hP hw hK hA
  obtain ⟨⟨old,h1⟩,h2⟩:=st
  obtain ⟨xs,x,hq,hx⟩:=hg
  obtain ⟨its,rv,p,hz⟩:=I.list hq
  obtain ⟨u,hu,ru⟩:=rv.get hx
  have lt: ∀ b∈[e,it],b < s.heap.objs.size:=fun b hb=>by
   rcases List.mem_cons.mp hb with z | z
   ·subst z;exact Heap.lt_size h1
   ·have z':b=it:=by simpa using z
    subst z'
    obtain ⟨o,e2,_⟩:=h2
    exact Heap.lt_size e2
  refine wpAny_pyNext_enum_item h1 h2 p.isList (x:=u) (by simpa using hu) hne fun h' o1 o2 o3 o4 o5=>⟨_,rfl,?_⟩
  refine wpAny_letOwnedTupleGo_enum (s:={ s with heap:=h',toks:=s.toks + 1 }) o1 fun h'' q1 q2=> ?_
  have pe:s.heap.objs.size≠e:=Nat.ne_of_gt (lt e (by simp))
  have ie:it≠e:=Ne.symm hne
  obtain ⟨J1,J2,J3⟩:=Zj1 (h':=h'') (t':=s.toks + 1) (ch:=[e,it]) (vs:=[.int i,x]) (us:=[.int i s.toks,u]) I hf lt (.cons ⟨_,rfl⟩ (.cons ru .nil)) (by show 2<=sizeLine;decide)
   (fun b o hb z=>by
    have n1:b≠e:=fun y=>hb (by simp[y])
    have n2:b≠it:=fun y=>hb (by simp[y])
    exact (q2.2 b n1).trans (o5 b o n1 n2 z)) ((q2.2 _ pe).trans o3)
  refine ⟨.ref s.heap.objs.size,_,J1,rfl,⟨_,J2,rfl,fun ys y hy hy2=> ?_⟩,⟨⟨u,by simpa using q1⟩,o2.at fun o z=>(q2.2 it ie).trans z⟩,J3⟩
  rw[I.list_inj hy hq,hx] at hy2
  cases hy2
  rfl
 done:=by
  intro X hP hw hK hA i pins s σ H E I hf st hg
  subst hP hw hK hA
  obtain ⟨⟨old,h1⟩,h2⟩:=st
  obtain ⟨xs,hq,hx⟩:=hg
  obtain ⟨its,rv,p,hz⟩:=I.list hq
  obtain ⟨f0,f1,f2,f3,f4,f5⟩:=hf it (by simp)
  refine wpAny_pyNext_enum_end hB h1 h2 p.isList (by simp only[List.getElem?_toArray];exact List.getElem?_eq_none (by rw[<- rv.length];exact hx)) fun h' ext=>⟨rfl,?_⟩
  exact I.turned (t':=s.toks) (it:=it) (fun b o hb z=>ext b o hb z) f0 f1 f3 f4 f5
 self:=fun A i s Q E st q=>by
  obtain ⟨⟨old,h1⟩,_⟩:=st
  have hT:s.TypeIs (.ref e) "enumerate":=⟨_,h1,rfl⟩
  refine wpAny_pyIter_slot hT F.slot_enumerate_iter (wpAny_call_entry F.slot_enumerate_iter hT F.entry_enumerate_iter ?_ (F.args_enumerate_iter_1 _))
  show wpAny _ _ (ret (.ref e)) _ _ s
  exact wpAny_pure ⟨_,rfl,"enumerate",_,hT,F.slot_enumerate_next.lookup,q⟩
theorem Zja {P:Program} {w:World} {K:PySem.W.Frag} {B:Around} {elts:List Expr} {k0:Nat} {tp:Pos} (hB:B.handled=none) {z TI TO i1 i2 a b:Addr} (D:ZipApart z TI TO i1 i2 a b):
  Turn P w K B (.Tuple elts k0 tp) (Itz K a b) [z,TI,TO,i1,i2] z (fun i h=>IsZip h z TI TO .none/\IsPair h TI (.ref i1) (.ref i2)/\(∃ x y,IsPair h TO x y)/\h.IsListIter i1 a i/\h.IsListIter i2 b i) where
 mem:=by simp
 obj:=fun i h st c hc=>by
  obtain ⟨h1,h2,⟨x,y,h3⟩,⟨o4,e4,c4,d4⟩,⟨o5,e5,c5,d5⟩⟩:=st
  simp only[List.mem_cons,List.not_mem_nil,or_false] at hc
  rcases hc with rfl | rfl | rfl | rfl | rfl
  ·exact ⟨_,h1,fun v q=>by cases q⟩
  ·exact ⟨_,h2,fun v q=>by cases q⟩
  ·exact ⟨_,h3,fun v q=>by cases q⟩
  ·exact ⟨o4,e4,fun v q=>by rw[d4] at q;cases q⟩
  ·exact ⟨o5,e5,fun v q=>by rw[d5] at q;cases q⟩
 keep:=fun i h h' st k=>by
  obtain ⟨h1,h2,⟨x,y,h3⟩,h4,h5⟩:=st
  exact ⟨k z (by simp) _ h1,k TI (by simp) _ h2,⟨x,y,k TO (by simp) _ h3⟩,h4.at fun o q=>k i1 (by simp) o q,h5.at fun o q=>k i2 (by simp) o q⟩
 item:=by
  intro X hP hw hK hA i pins s σ H E I hf st hg
  subst hP hw hK hA
  obtain ⟨h1,h2,⟨x0,y0,h3⟩,h4,h5⟩:=st
  obtain ⟨xs,ys,x,y,hq,hq2,hx,hy⟩:=hg
  obtain ⟨its,rv,p,hz⟩:=I.list hq
  obtain ⟨its2,rv2,p2,hz2⟩:=I.list hq2
  obtain ⟨u,hu,ru⟩:=rv.get hx
  obtain ⟨u2,hu2,ru2⟩:=rv2.get hy
  have lt: ∀ c∈[z,TI,TO,i1,i2],c < s.heap.objs.size:=fun c hc=>by
   simp only[List.mem_cons,List.not_mem_nil,or_false] at hc
   rcases hc with rfl | rfl | rfl | rfl | rfl
   ·exact Heap.lt_size h1
   ·exact Heap.lt_size h2
   ·exact Heap.lt_size h3
   ·obtain ⟨o,e2,_⟩:=h4;exact Heap.lt_size e2
   ·obtain ⟨o,e2,_⟩:=h5;exact Heap.lt_size e2
  refine wpAny_pyNext_zip_item D h1 h2 h3 h4 h5 p.isList p2.isList (x:=u) (y:=u2) (by simpa using hu) (by simpa using hu2) fun h' o1 o2 o3 o4 o5 o6 o7=>⟨_,rfl,?_⟩
  refine wpAny_letOwnedTupleGo_zip (s:={ s with heap:=h' }) o1 fun h'' q1 q2=> ?_
  have pe:s.heap.objs.size≠z:=Nat.ne_of_gt (lt z (by simp))
  obtain ⟨J1,J2,J3⟩:=Zj1 (h':=h'') (t':=s.toks) (ch:=[z,TI,TO,i1,i2]) (vs:=[x,y]) (us:=[u,u2]) I hf lt (.cons ru (.cons ru2 .nil)) (by show 2<=sizeLine;decide)
   (fun c o hc q=>by
    simp only[List.mem_cons,List.not_mem_nil,or_false,not_or] at hc
    exact (q2.2 c hc.1).trans (o7 c o hc.1 hc.2.2.1 hc.2.2.2.1 hc.2.2.2.2 q)) ((q2.2 _ pe).trans o5)
  refine ⟨.ref s.heap.objs.size,_,J1,rfl,⟨_,J2,rfl,fun xs' ys' x' y' hx1 hy1 hx2 hy2=> ?_⟩,⟨q1,(q2.2 TI D.TIz).trans (o7 TI _ D.TIz D.TITO D.TIi1 D.TIi2 h2),⟨u,u2,(q2.2 TO D.TOz).trans o2⟩,o3.at fun o q=>(q2.2 i1 D.i1z).trans q,o4.at fun o q=>(q2.2 i2 D.i2z).trans q⟩,J3⟩
  rw[I.list_inj hx1 hq,hx] at hx2
  rw[I.list_inj hy1 hq2,hy] at hy2
  cases hx2
  cases hy2
  rfl
 done:=by
  intro X hP hw hK hA i pins s σ H E I hf st hg
  subst hP hw hK hA
  obtain ⟨h1,h2,⟨x0,y0,h3⟩,h4,h5⟩:=st
  obtain ⟨xs,ys,hq,hq2,hx⟩:=hg
  obtain ⟨its,rv,p,hz⟩:=I.list hq
  obtain ⟨its2,rv2,p2,hz2⟩:=I.list hq2
  have he:its.toArray[i]?=none\/its2.toArray[i]?=none:=by
   rcases hx with hx | hx
   ·exact .inl (by simp only[List.getElem?_toArray];exact List.getElem?_eq_none (by rw[<- rv.length];exact hx))
   ·exact .inr (by simp only[List.getElem?_toArray];exact List.getElem?_eq_none (by rw[<- rv2.length];exact hx))
  refine wpAny_pyNext_zip_end hB D h1 h2 h3 h4 h5 p.isList p2.isList he fun h' keep=>⟨rfl,?_⟩
  refine Zho (t':=s.toks) (ch:=[z,TI,TO,i1,i2]) I (fun c o hc q=> ?_) hf
  simp only[List.mem_cons,List.not_mem_nil,or_false,not_or] at hc
  exact keep c o hc.1 hc.2.2.1 hc.2.2.2.1 hc.2.2.2.2 q
 self:=fun A i s Q E st q=>wpAny_pyIter_zip st.1 q
theorem Zng {n a b:Nat} (h1:a < n) (h2:b < n):ZipApart (n + 4) (n + 2) (n + 3) n (n + 1) a b:=⟨Nat.ne_of_lt (by omega),Nat.ne_of_lt (by omega),Nat.ne_of_lt (by omega),Nat.ne_of_lt (by omega),Nat.ne_of_lt (by omega),Nat.ne_of_gt (by omega),Nat.ne_of_gt (by omega),Nat.ne_of_gt (by omega),Nat.ne_of_gt (by omega),Nat.ne_of_lt (by omega),Nat.ne_of_lt (by omega),Nat.ne_of_lt (by omega),Nat.ne_of_lt (by omega),Nat.ne_of_lt (by omega),Nat.ne_of_lt (by omega),Nat.ne_of_lt (by omega),Nat.ne_of_lt (by omega),Nat.ne_of_lt (by omega)⟩
theorem Znh:bootBuiltins "zip"=some (.type "zip"):=by decide +kernel
theorem Zed:bootBuiltins "enumerate"=some (.type "enumerate"):=by decide +kernel
section
variable {X:Cx} {ξ:XK} {a b:Expr} {elts:List Expr} {k0:Nat} {tp:Pos} {fa:Ev} {fs:Av} {p pos:Pos} {ta:TA}
noncomputable def Zqi (K:PySem.W.Frag) (t:TA):TI:=fun σ H R=>t σ H fun vs H1=> ∃ l xs,vs=[.ref l]/\SqL K H1 l xs/\R (Ite K l) H1
noncomputable def ZtF (K:PySem.W.Frag) (t:TA):TI:=fun σ H R=>t σ H fun vs H1=> ∃ l l2 xs ys,vs=[.ref l,.ref l2]/\SqL K H1 l xs/\SqL K H1 l2 ys/\R (Itz K l l2) H1
theorem Zlf (hc:X.A.handled=none) (hg:Gl X "enumerate") (hm:X.mg "enumerate"=none) (ha:PA X [a] ta) (hs:starEach [a] X.env=(false,eval a X.env) :: starEach [] X.env:=by rfl) (hpl:(backTo pos (starEach [] X.env)).any (·.1)=false:=by rfl):
  PI X (.Tuple elts k0 tp) (.Call (.Name "enumerate" p) [a] [] pos) (Zqi X.K ta):=by
 intro pins s σ H R I h
 refine wpAny_Call_Name_kw (ZbW I hg hm Zed (PyProof.Rows.callWith_type1 (thn (ha pos pins s σ H _ I h) fun us s1 ⟨vs,H1,I1,r1,q1⟩=> ?_) hs hpl) (by decide) (by decide))
 obtain ⟨l,xs,rfl,hq,q⟩:=q1
 obtain ⟨u,rfl,ru⟩:=Zcu r1
 cases ru
 obtain ⟨its,rv,pl,hz⟩:=I1.list hq
 refine call_enumerate_list pl.isList fun h' e1 e2 e3 e4=> ?_
 have T:=Zhp (P:=X.prog) (w:=X.w) (K:=X.K) (B:=X.A) (elts:=elts) (k0:=k0) (tp:=tp) hc l (s1.heap.objs.size + 1) s1.heap.objs.size (Nat.ne_of_gt (Nat.lt_succ_self _))
 have I2:Inv X pins σ H1 { s1 with heap:=h',toks:=s1.toks }:=I1.kept (t':=s1.toks) e4
 refine T.self X.A 0 { s1 with heap:=h' } _ _ ⟨⟨_,e1⟩,e2⟩ ⟨_,_,_,_,H1,rfl,I2,T,⟨⟨_,e1⟩,e2⟩,fun b hb=> ?_,q⟩
 have hb':s1.heap.objs.size<=b:=by
  simp only[List.mem_cons,List.not_mem_nil,or_false] at hb
  rcases hb with rfl | rfl<;>omega
 exact I1.fpOk hb' (I1.hok.fresh hb')
theorem Zni (hc:X.A.handled=none) (hg:Gl X "zip") (hm:X.mg "zip"=none) (ha:PA X [a,b] ta) (hs:starEach [a,b] X.env=(false,eval a X.env) :: starEach [b] X.env:=by rfl) (hpl:(backTo pos (starEach [b] X.env)).any (·.1)=false:=by rfl):
  PI X (.Tuple elts k0 tp) (.Call (.Name "zip" p) [a,b] [] pos) (ZtF X.K ta):=by
 intro pins s σ H R I h
 refine wpAny_Call_Name_kw (ZbW I hg hm Znh (PyProof.Rows.callWith_type1 (thn (ha pos pins s σ H _ I h) fun us s1 ⟨vs,H1,I1,r1,q1⟩=> ?_) hs hpl) (by decide) (by decide))
 obtain ⟨l,l2,xs,ys,rfl,hq,hq2,q⟩:=q1
 obtain ⟨u,u2,rfl,ru,ru2⟩:=ZgM r1
 cases ru
 cases ru2
 obtain ⟨its,rv,pl,hz⟩:=I1.list hq
 obtain ⟨its2,rv2,pl2,hz2⟩:=I1.list hq2
 have lt1:l < s1.heap.objs.size:=by obtain ⟨_,e,_⟩:=pl.isList;exact Heap.lt_size e
 have lt2:l2 < s1.heap.objs.size:=by obtain ⟨_,e,_⟩:=pl2.isList;exact Heap.lt_size e
 refine call_zip_2 pl.isList pl2.isList fun h' e1 e2 e3 e4 e5 e6 e7=> ?_
 have D:=Zng lt1 lt2
 have T:=Zja (P:=X.prog) (w:=X.w) (K:=X.K) (B:=X.A) (elts:=elts) (k0:=k0) (tp:=tp) hc D
 have I2:Inv X pins σ H1 { s1 with heap:=h',toks:=s1.toks }:=I1.kept (t':=s1.toks) e7
 refine T.self X.A 0 { s1 with heap:=h' } _ _ ⟨e1,e2,⟨_,_,e3⟩,e4,e5⟩ ⟨_,_,_,_,H1,rfl,I2,T,⟨e1,e2,⟨_,_,e3⟩,e4,e5⟩,fun c hc=> ?_,q⟩
 have hb':s1.heap.objs.size<=c:=by
  simp only[List.mem_cons,List.not_mem_nil,or_false] at hc
  rcases hc with rfl | rfl | rfl | rfl | rfl<;>omega
 exact I1.fpOk hb' (I1.hok.fresh hb')
noncomputable def iEn (fs:Av):Ro->Sto->Out Src:=fun ρ M=>(fs ρ M).bind fun ds M1=>match ds with | [.ref n]=> .ok (.enu n) M1 | _=> .bad
noncomputable def iZp (fs:Av):Ro->Sto->Out Src:=fun ρ M=>(fs ρ M).bind fun ds M1=>match ds with | [.ref n,.ref m]=> .ok (.zip n m) M1 | _=> .bad
theorem ZeV (hc:X.A.handled=none) (hm:X.mg "enumerate"=none) (ha:DA X ξ [a] fs) (hg:Gl X "enumerate":=by rfl) (hs:starEach [a] X.env=(false,eval a X.env) :: starEach [] X.env:=by rfl) (hpl:(backTo pos (starEach [] X.env)).any (·.1)=false:=by rfl):
  DI X ξ (.Tuple elts k0 tp) (.Call (.Name "enumerate" p) [a] [] pos) (iEn fs):=by
 obtain ⟨ta,pa,qa⟩:=ha
 refine ⟨_,Zlf hc hg hm pa hs hpl,fun σ ρ H α M R s hh q=>qa σ ρ H α M _ s hh (OG.seq q fun ds M1 vs H1 α1 e1 h1 r1 w1=> ?_)⟩
 match r1 with
 | .nil=>exact w1.elim
 | .cons r (.cons _ _)=>cases r<;>exact w1.elim
 | .cons r .nil=>
  cases r with
  | @ref l n hp=>
   obtain ⟨xs0,g0⟩:=h1.some_at hp
   refine ⟨l,xs0,rfl,SqL.of g0,w1 _ H1 α1 Ext.refl h1 fun i H' α' M' ex hr=> ?_⟩
   cases em:M'[n]? with
   |none=>rw[show nxt (.enu n) i M'=none by simp only[nxt,em]];exact True.intro
   |some so=>
    cases so with
    |lst es=>
     obtain ⟨xs,g1,g2⟩:=hr.at (ex.get hp) em
     cases ei:es[i]? with
     |none=>rw[show nxt (.enu n) i M'=some none by simp only[nxt,em,ei]];exact ⟨xs,SqL.of g1,by rw[g2.length];exact List.getElem?_eq_none_iff.mp ei⟩
     |some d=>
      obtain ⟨v,k1,k2⟩:=g2.get ei
      rw[show nxt (.enu n) i M'=some (some (D.tup [D.int i,d])) by simp only[nxt,em,ei]]
      refine ⟨⟨xs,v,SqL.of g1,k1⟩,fun x H'' y=> ?_⟩
      obtain ⟨pp,y1,rfl,y3⟩:=y
      have y4:=y3 xs v (SqL.of g1) k1
      subst y4
      exact ⟨Ext.new0 y1,hr.tup y1,.tup Zr (.cons (.int i) (.cons (Rep.mono (Ext.new0 y1) k2) .nil))⟩
  |_=>exact w1.elim
theorem Znj (hc:X.A.handled=none) (hm:X.mg "zip"=none) (ha:DA X ξ [a,b] fs) (hg:Gl X "zip":=by rfl) (hs:starEach [a,b] X.env=(false,eval a X.env) :: starEach [b] X.env:=by rfl) (hpl:(backTo pos (starEach [b] X.env)).any (·.1)=false:=by rfl):
  DI X ξ (.Tuple elts k0 tp) (.Call (.Name "zip" p) [a,b] [] pos) (iZp fs):=by
 obtain ⟨ta,pa,qa⟩:=ha
 refine ⟨_,Zni hc hg hm pa hs hpl,fun σ ρ H α M R s hh q=>qa σ ρ H α M _ s hh (OG.seq q fun ds M1 vs H1 α1 e1 h1 r1 w1=> ?_)⟩
 match r1 with
 | .nil=>exact w1.elim
 | .cons r .nil=>cases r<;>exact w1.elim
 | .cons r (.cons r' (.cons _ _))=>cases r<;>cases r'<;>exact w1.elim
 | .cons r (.cons r' .nil)=>
  cases r with
  | @ref l n hp=>
   cases r' with
   | @ref l2 m hp2=>
    obtain ⟨xs0,g0⟩:=h1.some_at hp
    obtain ⟨ys0,g0'⟩:=h1.some_at hp2
    refine ⟨l,l2,xs0,ys0,rfl,SqL.of g0,SqL.of g0',w1 _ H1 α1 Ext.refl h1 fun i H' α' M' ex hr=> ?_⟩
    cases em:M'[n]? with
    |none=>rw[show nxt (.zip n m) i M'=none by simp only[nxt,em]];exact True.intro
    |some so=>
     cases em2:M'[m]? with
     |none=>cases so;rw[show nxt (.zip n m) i M'=none by simp only[nxt,em,em2]];exact True.intro
     |some so2=>
      cases so with
      |lst es=>
       cases so2 with
       |lst es2=>
        obtain ⟨xs,g1,g2⟩:=hr.at (ex.get hp) em
        obtain ⟨ys,g3,g4⟩:=hr.at (ex.get hp2) em2
        cases ei:es[i]? with
        |none=>rw[show nxt (.zip n m) i M'=some none by simp only[nxt,em,em2,ei]];exact ⟨xs,ys,SqL.of g1,SqL.of g3,.inl (by rw[g2.length];exact List.getElem?_eq_none_iff.mp ei)⟩
        |some d=>
         cases ej:es2[i]? with
         |none=>rw[show nxt (.zip n m) i M'=some none by simp only[nxt,em,em2,ei,ej]];exact ⟨xs,ys,SqL.of g1,SqL.of g3,.inr (by rw[g4.length];exact List.getElem?_eq_none_iff.mp ej)⟩
         |some d2=>
          obtain ⟨v,k1,k2⟩:=g2.get ei
          obtain ⟨v2,k3,k4⟩:=g4.get ej
          rw[show nxt (.zip n m) i M'=some (some (D.tup [d,d2])) by simp only[nxt,em,em2,ei,ej]]
          refine ⟨⟨xs,ys,v,v2,SqL.of g1,SqL.of g3,k1,k3⟩,fun x H'' y=> ?_⟩
          obtain ⟨pp,y1,rfl,y3⟩:=y
          have y4:=y3 xs ys v v2 (SqL.of g1) (SqL.of g3) k1 k3
          subst y4
          exact ⟨Ext.new0 y1,hr.tup y1,.tup Zr (.cons (Rep.mono (Ext.new0 y1) k2) (.cons (Rep.mono (Ext.new0 y1) k4) .nil))⟩
   |_=>exact w1.elim
  |_=>cases r'<;>exact w1.elim
end
end DL
end
section
namespace DL
open PySem PySem.Spec PyProof.Rows L2
open PySem.SeqAt (EqAt RcAt RcNeAt)
inductive Ks (X:Cx) (H:Hp) (α:List Addr):Kd->Kd->Prop where
 |non:Ks X H α .non .non
 |bl (b:Bool):Ks X H α (.bl b) (.bl b)
 |int (i:Int):Ks X H α (.int i) (.int i)
 |str (x:Str):Ks X H α (.str x) (.str x)
 |tup {vs:List V} {ds es:List D}:Reps X.K H α vs ds->Reps X.K H α vs es->Ks X H α (.tup ds) (.tup es)
 |lst {vs:List V} {ds es:List D}:Reps X.K H α vs ds->Reps X.K H α vs es->Ks X H α (.lst ds) (.lst es)
section
variable {X:Cx} {ξ:XK} {pins:List (Addr × Obj)} {σ:L2.St} {H:Hp} {s:Shared} {α:List Addr} {M:Sto}
theorem Znk (h:HR X.K H α M) {v:V} {x:D} {k:Kd} (r:Rep X.K H α v x) (e:kd M x=some k):
  (match k with | .tup ds=> ∃ p vs,v= .ref p/\SqT X.K H p vs/\Reps X.K H α vs ds | .lst ds=> ∃ p vs,v= .ref p/\SqL X.K H p vs/\Reps X.K H α vs ds | .non=>v= .non | .bl b=>v= .bl b | .int i=>v= .int i | .str x=>v= .str x):=by
 cases r with
 |non=>cases e;rfl
 |bl b=>cases e;rfl
 |int i=>cases e;rfl
 |str x=>cases e;rfl
 |err _ _ _=>cases e
 |dk _=>cases e
 |dt _=>cases e
 | @tup p xs ds hp rp=>cases e;exact ⟨p,xs,rfl,(SqT.of hp),rp⟩
 | @con p xs ds hp rp=>cases e;exact ⟨p,xs,rfl,hp.sq,rp⟩
 | @rol p xs ds hp rp=>cases e;exact ⟨p,xs,rfl,hp.sq,rp⟩
 | @ref p n hp=>
  cases e1:M[n]? with
  |none=>simp only[kd,e1] at e;cases e
  |some o=>
   cases o with
   |lst ds=>
    simp only[kd,e1] at e
    cases e
    obtain ⟨xs,g1,r1⟩:=h.at hp e1
    exact ⟨p,xs,rfl,SqL.of g1,r1⟩
theorem Zhq (I:Inv X pins σ H s) (h:HR X.K H α M) {v:V} {x y:D} {k l:Kd} (rx:Rep X.K H α v x) (ry:Rep X.K H α v y) (ex:kd M x=some k) (ey:kd M y=some l):Ks X H α k l:=by
 have a:=Znk h rx ex
 have b:=Znk h ry ey
 have nl: ∀ {p:Addr} {xs ys:List V},SqT X.K H p xs->SqL X.K H p ys->False:=fun {p xs ys} a c=>by
  obtain ⟨i1,_,⟨o1,g1,c1,_⟩,_⟩:=I.tuple a
  obtain ⟨i2,_,⟨o2,_,g2,c2,_⟩,_⟩:=I.list c
  rw[g1] at g2
  cases g2
  rw[c1] at c2
  exact absurd c2 (by decide)
 cases k with
 |non=>cases a;cases l<;>first | (cases b;done) | exact .non | (obtain ⟨_,_,q,_⟩:=b;cases q)
 |bl c=>cases a;cases l<;>first | (cases b;done) | (cases b;exact .bl c) | (obtain ⟨_,_,q,_⟩:=b;cases q)
 |int c=>cases a;cases l<;>first | (cases b;done) | (cases b;exact .int c) | (obtain ⟨_,_,q,_⟩:=b;cases q)
 |str c=>cases a;cases l<;>first | (cases b;done) | (cases b;exact .str c) | (obtain ⟨_,_,q,_⟩:=b;cases q)
 |tup ds=>
  obtain ⟨p,vs,rfl,q1,q2⟩:=a
  cases l with
  |tup es=>
   obtain ⟨p2,vs2,e2,q3,q4⟩:=b
   cases e2
   cases I.tuple_inj q1 q3
   exact .tup q2 q4
  |lst es=>
   obtain ⟨p2,vs2,e2,q3,q4⟩:=b
   cases e2
   exact (nl q1 q3).elim
  |_=>cases b
 |lst ds=>
  obtain ⟨p,vs,rfl,q1,q2⟩:=a
  cases l with
  |lst es=>
   obtain ⟨p2,vs2,e2,q3,q4⟩:=b
   cases e2
   cases I.list_inj q1 q3
   exact .lst q2 q4
  |tup es=>
   obtain ⟨p2,vs2,e2,q3,q4⟩:=b
   cases e2
   exact (nl q3 q1).elim
  |_=>cases b
theorem Zj2 (I:Inv X pins σ H s) (h:HR X.K H α M): ∀ (n:Nat) {v w:V} {x x' y y':D} {b b':Bool},Rep X.K H α v x->Rep X.K H α v x'->Rep X.K H α w y->Rep X.K H α w y'->eqF n M x y=some b->eqF n M x' y'=some b'->b=b':=by
 intro n
 induction n with
 |zero=>intro v w x x' y y' b b' _ _ _ _ e;simp only[eqF] at e;cases e
 |succ n ih=>
  have lists: ∀ (vs ws:List V) (xs xs' ys ys':List D) (b b':Bool),Reps X.K H α vs xs->Reps X.K H α vs xs'->Reps X.K H α ws ys->Reps X.K H α ws ys'->eqL (eqF n M) xs ys=some b->eqL (eqF n M) xs' ys'=some b'->b=b':=by
   intro vs
   induction vs with
   |nil=>
    intro ws xs xs' ys ys' b b' r1 r2 r3 r4 e e'
    cases r1;cases r2
    cases r3 with
    |nil=>cases r4;simp only[eqL,Option.some.injEq] at e e';rw[<- e,<- e']
    |cons _ _=>cases r4;simp only[eqL,Option.some.injEq] at e e';rw[<- e,<- e']
   |cons v vs iv=>
    intro ws xs xs' ys ys' b b' r1 r2 r3 r4 e e'
    cases r1 with
    |cons p1 t1=>
     cases r2 with
     |cons p2 t2=>
      cases r3 with
      |nil=>cases r4;simp only[eqL,Option.some.injEq] at e e';rw[<- e,<- e']
      |cons p3 t3=>
       cases r4 with
       |cons p4 t4=>
        rename_i d1 ds1 d2 ds2 w d3 ws ds3 d4 ds4
        cases a1:eqF n M d1 d3 with
        |none=>simp only[eqL,a1] at e;cases e
        |some a=>
         cases a2:eqF n M d2 d4 with
         |none=>simp only[eqL,a2] at e';cases e'
         |some a'=>
          cases c1:eqL (eqF n M) ds1 ds3 with
          |none=>simp only[eqL,a1,c1] at e;cases e
          |some c=>
           cases c2:eqL (eqF n M) ds2 ds4 with
           |none=>simp only[eqL,a2,c2] at e';cases e'
           |some c'=>
            simp only[eqL,a1,c1,Option.some.injEq] at e
            simp only[eqL,a2,c2,Option.some.injEq] at e'
            rw[<- e,<- e',ih p1 p2 p3 p4 a1 a2,iv _ _ _ _ _ _ _ t1 t2 t3 t4 c1 c2]
  intro v w x x' y y' b b' rx rx' ry ry' e e'
  unfold eqF at e e'
  cases k1:kd M x with
  |none=>rw[k1] at e;cases e
  |some ka=>
   cases k2:kd M y with
   |none=>rw[k1,k2] at e;cases e
   |some kb=>
    cases k3:kd M x' with
    |none=>rw[k3] at e';cases e'
    |some ka'=>
     cases k4:kd M y' with
     |none=>rw[k3,k4] at e';cases e'
     |some kb'=>
      rw[k1,k2] at e
      rw[k3,k4] at e'
      have s1:=Zhq I h rx rx' k1 k3
      have s2:=Zhq I h ry ry' k2 k4
      cases s1 with
      |tup a1 a2=>
       cases s2 with
       |tup b1 b2=>simp only[eqK] at e e';exact lists _ _ _ _ _ _ _ _ a1 a2 b1 b2 e e'
       |_=>simp only[eqK,Option.some.injEq] at e e';rw[<- e,<- e']
      |lst a1 a2=>
       cases s2 with
       |lst b1 b2=>
        simp only[eqK] at e e'
        rw[<- a1.length,<- b1.length] at e
        rw[<- a2.length,<- b2.length] at e'
        split at e
        ·rename_i c
         rw[if_pos c] at e'
         exact lists _ _ _ _ _ _ _ _ a1 a2 b1 b2 e e'
        ·rename_i c
         rw[if_neg c] at e'
         cases e;cases e';rfl
       |_=>simp only[eqK,Option.some.injEq] at e e';rw[<- e,<- e']
      |_=>cases s2<;>(simp only[eqK,Option.some.injEq] at e e';rw[<- e,<- e'])
noncomputable def eqs (M:Sto) (d:D):List D->Option (List Bool)
 | []=>some []
 |x :: r=>match eqF 12 M x d with | some b=>(match eqs M d r with | some bs=>some (b :: bs) | none=>none) | none=>none
theorem Zhr: ∀ {M:Sto} {d:D} {xs:List D} {bs:List Bool},eqs M d xs=some bs->bs.length=xs.length
 |_,_,[],_,e=>by cases e;rfl
 |M,d,x :: r,bs,e=>by
  cases e1:eqF 12 M x d with
  |none=>simp only[eqs,e1] at e;cases e
  |some b=>
   cases e2:eqs M d r with
   |none=>simp only[eqs,e1,e2] at e;cases e
   |some cs=>simp only[eqs,e1,e2,Option.some.injEq] at e;subst e;rw[List.length_cons,List.length_cons,Zhr e2]
theorem Zhs: ∀ {M:Sto} {d:D} {xs:List D} {bs:List Bool} {i:Nat} {x:D},eqs M d xs=some bs->xs[i]?=some x-> ∃ b,bs[i]?=some b/\eqF 12 M x d=some b
 |_,_,[],_,i,x,e,hx=>by simp at hx
 |M,d,y :: r,bs,i,x,e,hx=>by
  cases e1:eqF 12 M y d with
  |none=>simp only[eqs,e1] at e;cases e
  |some b=>
   cases e2:eqs M d r with
   |none=>simp only[eqs,e1,e2] at e;cases e
   |some cs=>
    simp only[eqs,e1,e2,Option.some.injEq] at e
    subst e
    cases i with
    |zero=>simp at hx;subst hx;exact ⟨b,rfl,e1⟩
    |succ i=>simp at hx;obtain ⟨b',q1,q2⟩:=Zhs e2 hx;exact ⟨b',by simpa using q1,q2⟩
open Classical in
theorem Zht {A:Around} (hu:A.units + 64 < cLine) (I:Inv X pins σ H s) (h:HR X.K H α M) {vs:List V} {ds:List D} {us:List Value} {v:V} {d:D} {u:Value} {bs:List Bool} (rv:ZW vs us) (rp:Reps X.K H α vs ds) (ru:ZU v u) (rd:Rep X.K H α v d) (e:eqs M d ds=some bs):
  ∃ f:Value->Bool,(∀ y,y∈us.toArray->EqAt A.in1 s y u (f y))/\us.map f=bs:=by
 have ll:us.length=ds.length:=by rw[<- rv.length,rp.length]
 have at_: ∀ (i:Nat) y,us[i]?=some y-> ∃ w x b,ZU w y/\Rep X.K H α w x/\bs[i]?=some b/\eqF 12 M x d=some b:=fun i y hy=>by
  have hi:i < ds.length:=by rw[<- ll];exact (List.getElem?_eq_some_iff.mp hy).1
  obtain ⟨w,a1,a2⟩:=rp.get (List.getElem?_eq_getElem hi)
  obtain ⟨y',a3,a4⟩:=rv.get a1
  rw[hy] at a3
  cases a3
  obtain ⟨b,a5,a6⟩:=Zhs e (List.getElem?_eq_getElem hi)
  exact ⟨w,_,b,a4,a2,a5,a6⟩
 refine ⟨fun y=>decide (∃ w x,ZU w y/\Rep X.K H α w x/\eqF 12 M x d=some true),fun y hy=> ?_,?_⟩
 ·obtain ⟨i,hi,ey⟩:=List.getElem_of_mem (by simpa using hy)
  obtain ⟨w,x,b,q1,q2,q3,q4⟩:=at_ i y (by rw[List.getElem?_eq_getElem hi,ey])
  have hb:decide (∃ w x,ZU w y/\Rep X.K H α w x/\eqF 12 M x d=some true)=b:=by
   cases b with
   |true=>exact decide_eq_true ⟨w,x,q1,q2,q4⟩
   |false=>
    refine decide_eq_false fun ⟨w',x',z1,z2,z3⟩=> ?_
    cases ZU.inj z1 q1
    have:=Zj2 I h 12 z2 q2 rd rd z3 q4
    cases this
  show EqAt A.in1 s y u (decide (∃ w x,ZU w y/\Rep X.K H α w x/\eqF 12 M x d=some true))
  rw[hb]
  exact (eq3 I h 12 x d w v y u b A.in1 (by rw[Around.in1_units];omega) q4 q2 rd q1 ru).1
 ·apply List.ext_getElem?
  intro i
  rw[List.getElem?_map]
  cases hy:us[i]? with
  |none=>
   have:bs[i]?=none:=List.getElem?_eq_none (by rw[Zhr e,<- ll];exact List.getElem?_eq_none_iff.mp hy)
   rw[this]
   rfl
  |some y=>
   obtain ⟨w,x,b,q1,q2,q3,q4⟩:=at_ i y hy
   rw[q3]
   show some _=some b
   congr 1
   cases b with
   |true=>exact decide_eq_true ⟨w,x,q1,q2,q4⟩
   |false=>
    refine decide_eq_false fun ⟨w',x',z1,z2,z3⟩=> ?_
    cases ZU.inj z1 q1
    have:=Zj2 I h 12 z2 q2 rd rd z3 q4
    cases this
end
section
variable {X:Cx} {ξ:XK}
noncomputable def inE (x y:D) (M:Sto):Option Bool:=match ZdT M y with | some ds=>(match eqs M x ds with | some bs=>some (bs.any id) | none=>none) | none=>none
noncomputable def Zsn:Bo:=fun x y M=>match inE x y M with | some b=> .ok (.bl b) M | none=> .bad
noncomputable def Zhu:Bo:=fun x y M=>match inE x y M with | some b=> .ok (.bl (!b)) M | none=> .bad
noncomputable def Znl (X:Cx):V->List V->Hp->VK->Prop:=fun v vs H Q=> ∃ α M d ds bs p xs u,HR X.K H α M/\v= .ref p/\vs=[u]/\Rep X.K H α u d/\SqL X.K H p xs/\Reps X.K H α xs ds/\eqs M d ds=some bs/\Q (.int (bs.countP id:Nat)) H
theorem Znm (hu:X.A.units + 64 < cLine):MtR X "list.count" (Znl X):=by
 intro pins s σ H x vs v us Q I rx rv hh
 obtain ⟨α,M,d,ds,bs,p,xs,u,h,e1,e2,rd,hq,rp,e,q⟩:=hh
 subst e1 e2
 cases rx
 obtain ⟨uv,rfl,ru⟩:=Zcu rv
 obtain ⟨its,r,pl,hz⟩:=I.list hq
 obtain ⟨f,f1,f2⟩:=Zht (A:=X.A) hu I h r rp ru rd e
 obtain ⟨⟨cls,dd,data,sl⟩,ho,hc,n,hd⟩:=pl.isList
 simp only at hc hd
 subst hc hd
 refine call_meets F.slot_list_count ⟨_,ho,rfl⟩ F.entry_list_count (F.args_list_count_2 _ _) (SeqAt.list_countAt p its.toArray n dd sl uv f) ⟨ho,f1,?_⟩
 refine ⟨.int (bs.countP id:Nat),H,I.tok _,⟨s.toks,?_⟩,q⟩
 rw[<- f2,List.countP_map]
 rfl
noncomputable def ZtG:Me:=fun x ds M=>match x,ds with
 | .ref n,[d]=>(match M[n]? with | some (.lst xs)=>(match eqs M d xs with | some bs=>(match bs.findIdx? id with | some j=> .ok (.int (j:Nat)) M | none=> .bad) | none=> .bad) | none=> .bad)
 |_,_=> .bad
noncomputable def mCnt:Me:=fun x ds M=>match x,ds with
 | .ref n,[d]=>(match M[n]? with | some (.lst xs)=>(match eqs M d xs with | some bs=> .ok (.int (bs.countP id:Nat)) M | none=> .bad) | none=> .bad)
 |_,_=> .bad
theorem Znn:MO X ξ (Znl X) mCnt:=by
 intro H α M v vs x ds Q h rx rs q
 cases rx with
 | @ref p n hp=>
  match rs with
  | .nil=>exact q.elim
  | .cons _ (.cons _ _)=>exact q.elim
  | .cons (v:=u) (d:=d) ru .nil=>
   cases em:M[n]? with
   |none=>simp only[mCnt,em] at q;exact q.elim
   |some so=>
    cases so with
    |lst es=>
     cases e2:eqs M d es with
     |none=>simp only[mCnt,em,e2] at q;exact q.elim
     |some bs=>
      simp only[mCnt,em,e2] at q
      obtain ⟨xs,g1,g2⟩:=h.at hp em
      exact ⟨α,M,d,es,bs,p,xs,u,h,rfl,rfl,ru,SqL.of g1,g2,e2,q _ H α Ext.refl h (.int _)⟩
 |_=>cases rs<;>exact q.elim
noncomputable def ZbM:List D->Option (List Int)
 | []=>some []
 | .int b :: r=>match ZbM r with | some bs=>some (b :: bs) | none=>none
 |_ :: _=>none
theorem Zfw {K:PySem.W.Frag} {H:Hp} {α:List Addr}: ∀ {vs:List V} {ds:List D} {bs:List Int},Reps K H α vs ds->ZbM ds=some bs->vs=bs.map V.int
 |_,_,_,.nil,e=>by cases e;rfl
 |_,_,bs,.cons (d:=d) (ds:=ds) r t,e=>by
  cases r with
  |int b=>
   cases e1:ZbM ds with
   |none=>simp only[ZbM,e1] at e;cases e
   |some cs=>
    simp only[ZbM,e1,Option.some.injEq] at e
    subst e
    rw[Zfw t e1]
    rfl
  |_=>cases e
noncomputable def Zee (X:Cx) (g:List Int->Option V):List V->Hp->VK->Prop:=fun vs H Q=> ∃ (p:Addr) (ns:List Int) (v:V),vs=[.ref p]/\SqL X.K H p (ns.map V.int)/\g ns=some v/\Q v H
theorem ZbG: ∀ {ns:List Int} {us:List Value} {i:Nat} {u:Value},ZW (ns.map V.int) us->us[i]?=some u-> ∃ t,u= .int (ns.getD i 0) t
 | [],us,i,u,h,e=>by cases h;simp at e
 |b :: r,us,i,u,h,e=>by
  cases h with
  |cons h1 h2=>
   cases i with
   |zero=>simp at e;subst e;exact h1
   |succ i=>simp at e;obtain ⟨t,g⟩:=ZbG h2 e;exact ⟨t,by simpa using g⟩
theorem ZcO (hc:X.calm=true) {pins:List (Addr × Obj)} {σ:L2.St} {H:Hp} {s:Shared} {p:Addr} {ns:List Int} (I:Inv X pins σ H s) (hl:SqL X.K H p (ns.map V.int)) {Q:Value->Shared->Prop} {E:Value->Shared->Prop}
  (q: ∀ (its:List Value) (it:Addr),ZW (ns.map V.int) its->its.length=ns.length->it=s.heap.objs.size->Walks X.prog X.w X.A.in1 it [it,p] [it] its.toArray.size (fun i v=>its.toArray[i]?=some v) (fun i h=>h.IsListIter it p i/\h.IsList p its.toArray)->
   (∀ b∈[it,p],b < (s.heap.push { cls:= .type "list_iterator",data:= .fields #[.ref p,.int 0 0] }).objs.size)->((s.heap.push { cls:= .type "list_iterator",data:= .fields #[.ref p,.int 0 0] }).IsListIter it p 0/\(s.heap.push { cls:= .type "list_iterator",data:= .fields #[.ref p,.int 0 0] }).IsList p its.toArray)->
   (∀ h' tk,(∀ b o,b ∉ [it]->(s.heap.push { cls:= .type "list_iterator",data:= .fields #[.ref p,.int 0 0] }).get? b=some o->h'.get? b=some o)->Inv X pins σ H { s with heap:=h',toks:=tk })->Q (.ref it) { s with heap:=s.heap.push { cls:= .type "list_iterator",data:= .fields #[.ref p,.int 0 0] } }):
  wpAny (model X.prog X.w) X.A.in1 (pyIter (.ref p)) Q E s:=by
 obtain ⟨its,hv,hp,hz⟩:=I.list hl
 have hlt:p < s.heap.objs.size:=by obtain ⟨_,e,_⟩:=hp.isList;exact Heap.lt_size e
 refine wpAny_pyIter_list hp.isList ?_
 refine q its s.heap.objs.size hv (by rw[<- hv.length,List.length_map]) rfl (Walks.list (A:=X.A.in1) (I.ok.hd hc) _ p (Nat.ne_of_lt hlt) its.toArray) (fun b hb=> ?_) ⟨⟨_,Heap.get?_push_size _ rfl,rfl,rfl⟩,hp.isList.push _⟩ fun h' tk hk=> ?_
 ·rw[Heap.size_push]
  simp only[List.mem_cons,List.not_mem_nil,or_false] at hb
  rcases hb with rfl | rfl
  ·exact Nat.lt_succ_self _
  ·exact Nat.lt_succ_of_lt hlt
 ·exact I.kept fun b o e=>hk b o (fun hm=>by rw[List.mem_singleton.mp hm] at e;exact Nat.lt_irrefl _ (Heap.lt_size e)) (Heap.get?_push_of_some _ e)
noncomputable def ZpM (ns:List Int):Option V:=if ∀ j,j < ns.length->(-(2 ^ 63)<=ns.getD j 0/\ns.getD j 0 < 2 ^ 63)/\ -(2 ^ 63)<=(ns.take (j + 1)).sum/\(ns.take (j + 1)).sum < 2 ^ 63 then some (.int ns.sum) else none
theorem ZbS (ns:List Int): ∀ j,preSum (fun i=>ns.getD i 0) j=(ns.take j).sum
 |0=>rfl
 |j + 1=>by
  show preSum (fun i=>ns.getD i 0) j + ns.getD j 0=_
  rw[ZbS ns j]
  by_cases h:j < ns.length
  ·rw[List.take_succ_eq_append_getElem h,List.sum_append_int]
   simp[h]
  ·rw[List.take_of_length_le (by omega),List.take_of_length_le (by omega)]
   simp[h]
theorem Zhv (hc:X.calm=true):ZbR X (.builtin "sum") (Zee X ZpM):=by
 intro pins s σ H vs us Q I rs hh
 obtain ⟨p,ns,v,e,hl,hg,q⟩:=hh
 subst e
 obtain ⟨u,rfl,ru⟩:=Zcu rs
 cases ru
 unfold ZpM at hg
 split at hg
 case isFalse=>cases hg
 rename_i fit
 cases hg
 refine call_sum_walk (ZcO hc I hl fun its it hv hlen ei W hfp st back=> ?_)
 refine ⟨it,_,_,_,_,_,fun i=>ns.getD i 0,rfl,W,st,hfp,fun i v hP=>ZbG hv (by simpa using hP),fun j hj=> ?_,fun h' tk t' hk=>⟨.int ns.sum,H,back h' tk hk,⟨t',?_⟩,q⟩⟩
 ·have hj':j < ns.length:=by rw[List.size_toArray,hlen] at hj;exact hj
  obtain ⟨a,b⟩:=fit j hj'
  exact ⟨a,by rw[ZbS];exact b⟩
 ·rw[ZbS,List.size_toArray,hlen,List.take_length]
theorem Zjb {ns:List Int} (h:0 < ns.length):ns.max?=some (ns.getD (argBest (fun i j=>decide (ns.getD i 0 > ns.getD j 0)) (ns.length - 1)) 0):=by
 obtain ⟨h1,h2⟩:=argBest_gt (fun i=>ns.getD i 0) (ns.length - 1)
 refine List.max?_eq_some_iff.mpr ⟨?_,fun b hb=> ?_⟩
 ·have hl:argBest (fun i j=>decide (ns.getD i 0 > ns.getD j 0)) (ns.length - 1) < ns.length:=by omega
  rw[List.getD_eq_getElem?_getD,List.getElem?_eq_getElem hl]
  exact List.getElem_mem hl
 ·obtain ⟨j,hj,rfl⟩:=List.getElem_of_mem hb
  have:=h2 j (by omega)
  rwa [show ns.getD j 0=ns[j] by rw[List.getD_eq_getElem?_getD,List.getElem?_eq_getElem hj];rfl] at this
theorem Zjc {ns:List Int} (h:0 < ns.length):ns.min?=some (ns.getD (argBest (fun i j=>decide (ns.getD i 0 < ns.getD j 0)) (ns.length - 1)) 0):=by
 obtain ⟨h1,h2⟩:=argBest_lt (fun i=>ns.getD i 0) (ns.length - 1)
 refine List.min?_eq_some_iff.mpr ⟨?_,fun b hb=> ?_⟩
 ·have hl:argBest (fun i j=>decide (ns.getD i 0 < ns.getD j 0)) (ns.length - 1) < ns.length:=by omega
  rw[List.getD_eq_getElem?_getD,List.getElem?_eq_getElem hl]
  exact List.getElem_mem hl
 ·obtain ⟨j,hj,rfl⟩:=List.getElem_of_mem hb
  have:=h2 j (by omega)
  rwa [show ns.getD j 0=ns[j] by rw[List.getD_eq_getElem?_getD,List.getElem?_eq_getElem hj];rfl] at this
noncomputable def ZpN (ns:List Int):Option V:=ns.max?.map V.int
noncomputable def ZpO (ns:List Int):Option V:=ns.min?.map V.int
theorem Zhw (hc:X.calm=true):ZbR X (.builtin "max") (Zee X ZpN):=by
 intro pins s σ H vs us Q I rs hh
 obtain ⟨p,ns,v,e,hl,hg,q⟩:=hh
 subst e
 obtain ⟨u,rfl,ru⟩:=Zcu rs
 cases ru
 have hn:0 < ns.length:=by cases ns with | nil=>cases hg | cons _ _=>simp
 unfold ZpN at hg
 rw[Zjb hn] at hg
 cases hg
 refine call_max_walk (ZcO hc I hl fun its it hv hlen ei W hfp st back=> ?_)
 refine ⟨it,_,_,_,_,_,_,rfl,W,st,hfp,by rw[List.size_toArray,hlen];exact hn,CmpOf.ints_gt (fun i=>ns.getD i 0) (fun i v hP=>ZbG hv (by simpa using hP)),fun v h' tk hP hk=>⟨_,H,back h' tk hk,?_,q⟩⟩
 rw[List.size_toArray,hlen] at hP
 exact ZbG hv (by simpa using hP)
theorem Zef (hc:X.calm=true):ZbR X (.builtin "min") (Zee X ZpO):=by
 intro pins s σ H vs us Q I rs hh
 obtain ⟨p,ns,v,e,hl,hg,q⟩:=hh
 subst e
 obtain ⟨u,rfl,ru⟩:=Zcu rs
 cases ru
 have hn:0 < ns.length:=by cases ns with | nil=>cases hg | cons _ _=>simp
 unfold ZpO at hg
 rw[Zjc hn] at hg
 cases hg
 refine call_min_walk (ZcO hc I hl fun its it hv hlen ei W hfp st back=> ?_)
 refine ⟨it,_,_,_,_,_,_,rfl,W,st,hfp,by rw[List.size_toArray,hlen];exact hn,CmpOf.ints_lt (fun i=>ns.getD i 0) (fun i v hP=>ZbG hv (by simpa using hP)),fun v h' tk hP hk=>⟨_,H,back h' tk hk,?_,q⟩⟩
 rw[List.size_toArray,hlen] at hP
 exact ZbG hv (by simpa using hP)
noncomputable def Zch (g:List Int->Option Int):List D->Sto->Out D:=fun ds M=>match ds with
 | [x]=>(match ZdT M x with | some xs=>(match x with | .con _=> .bad | .tup _=> .bad | _=>(match ZbM xs with | some ns=>(match g ns with | some i=> .ok (.int i) M | none=> .bad) | none=> .bad)) | none=> .bad)
 |_=> .bad
theorem ZeW {g:List Int->Option Int} {gV:List Int->Option V} (hg: ∀ ns i,g ns=some i->gV ns=some (.int i)):CO X ξ (Zee X gV) (Zch g):=by
 intro H α M vs ds Q h rs q
 unfold Zch at q
 match rs with
 | .nil=>exact q.elim
 | .cons _ (.cons _ _)=>exact q.elim
 | .cons (d:=x) r .nil=>
  have fin: ∀ (p:Addr) (xs:List V) (ys:List D),SqL X.K H p xs->Reps X.K H α xs ys->OP X.K H α ξ Q (match ZbM ys with | some ns=>(match g ns with | some i=> .ok (.int i) M | none=> .bad) | none=> .bad)->Zee X gV [.ref p] H Q:=fun p xs ys k1 k2 q=>by
   cases e1:ZbM ys with
   |none=>rw[e1] at q;exact q.elim
   |some ns=>
    cases e2:g ns with
    |none=>simp only[e1,e2] at q;exact q.elim
    |some i=>
     simp only[e1,e2] at q
     have:=Zfw k2 e1
     subst this
     exact ⟨p,ns,.int i,rfl,k1,hg _ _ e2,q _ H α Ext.refl h (.int i)⟩
  cases r with
  | @rol p xs ds hp rp=>exact fin p xs ds hp.sq rp q
  | @ref p n hp=>
   cases em:M[n]? with
   |none=>simp only[ZdT,em] at q;exact q.elim
   |some so=>
    cases so with
    |lst es=>
     simp only[ZdT,em] at q
     obtain ⟨xs,g1,g2⟩:=h.at hp em
     exact fin p xs es (SqL.of g1) g2 q
  |tup _ _=>exact q.elim
  |con _ _=>exact q.elim
  |_=>exact q.elim
noncomputable def Zf4 (ns:List Int):Option Int:=if ∀ j,j < ns.length->(-(2 ^ 63)<=ns.getD j 0/\ns.getD j 0 < 2 ^ 63)/\ -(2 ^ 63)<=(ns.take (j + 1)).sum/\(ns.take (j + 1)).sum < 2 ^ 63 then some ns.sum else none
theorem Zno:CO X ξ (Zee X ZpM) (Zch Zf4):=ZeW fun ns i e=>by
 unfold Zf4 at e
 unfold ZpM
 split at e
 ·rename_i c;rw[if_pos c];cases e;rfl
 ·cases e
theorem Zlg:CO X ξ (Zee X ZpN) (Zch List.max?):=ZeW fun ns i e=>by unfold ZpN;rw[e];rfl
theorem Zhx:CO X ξ (Zee X ZpO) (Zch List.min?):=ZeW fun ns i e=>by unfold ZpO;rw[e];rfl
theorem Znp:bootBuiltins "sum"=some (.builtin "sum"):=by decide +kernel
end
end DL
end
section
namespace DL
open PySem PySem.Spec PyProof.Rows L2
noncomputable def kK:D->Option Key
 | .int i=>some (.inl i)
 | .str x=>some (.inr x)
 |_=>none
noncomputable def kKs:List D->Option (List Key)
 | []=>some []
 |d :: r=>match kK d,kKs r with | some k,some ks=>some (k :: ks) | _,_=>none
noncomputable def kT:D->Option (List Key)
 | .tup ds=>kKs ds
 |_=>none
theorem Znq {d:D} {k:Key} (h:kK d=some k):d=ZkW k:=by
 cases d<;>first | (cases h;rfl) | cases h
theorem Zhy (k:Key):kK (ZkW k)=some k:=by cases k<;>rfl
theorem Zhz: ∀ {ds:List D} {ks:List Key},kKs ds=some ks->ds=ks.map ZkW
 | [],ks,h=>by cases h;rfl
 |d :: r,ks,h=>by
  unfold kKs at h
  split at h
  ·rename_i k ks' e1 e2
   cases h
   rw[List.map_cons,<- Znq e1,<- Zhz e2]
  ·cases h
theorem Zfx: ∀ (ks:List Key),kKs (ks.map ZkW)=some ks
 | []=>rfl
 |k :: ks=>by rw[List.map_cons,kKs,Zhy,Zfx ks]
theorem Znr {d:D} {ks:List Key} (h:kT d=some ks):d=Zg6 ks:=by
 cases d with
 |tup ds=>rw[Zg6,<- Zhz h]
 |_=>cases h
theorem Zfy (ks:List Key):kT (Zg6 ks)=some ks:=Zfx ks
section
variable {κ:Type} [DecidableEq κ]
noncomputable def ZcG (dec:D->Option κ) (k:κ):List D->Option D
 | []=>none
 | .tup [a,v] :: r=>if dec a=some k then some v else ZcG dec k r
 |_ :: r=>ZcG dec k r
noncomputable def Zj3 (dec:D->Option κ) (k:κ) (v:D) (ds:List D):List D:=ds.map fun e=>match e with | .tup [a,w]=>if dec a=some k then .tup [a,v] else e | e=>e
noncomputable def Zix (dec:D->Option κ) (k:κ) (kd v:D) (ds:List D):List D:=if (ZcG dec k ds).isSome then Zj3 dec k v ds else ds ++ [.tup [kd,v]]
variable {K:PySem.W.Frag} {H H':Hp} {α α':List Addr} {key:κ->D} {dec:D->Option κ}
theorem ZhA:ZbN K H α key [] []:=⟨[],rfl,.nil⟩
theorem Zb2 (hd: ∀ k,dec (key k)=some k): ∀ {kvs:List (κ × V)} {es:List D} (k:κ),Reps K H α (kvs.map (·.2)) es->
  match ZcG dec k (List.zipWith (fun kv e=>D.tup [key kv.1,e]) kvs es) with | none=>ZdS kvs k=none | some d=> ∃ v,ZdS kvs k=some v/\Rep K H α v d
 | [],es,k,h=>by cases h;rfl
 | (k',v) :: kvs,_,k,.cons r t=>by
  simp only[List.zipWith_cons_cons,ZcG,hd,Option.some.injEq]
  by_cases c:k'=k
  ·rw[if_pos c]
   exact ⟨v,ZcA (p:=(k',v)) c,r⟩
  ·rw[if_neg c]
   have:=Zb2 hd k t
   have e:ZdS ((k',v) :: kvs) k=ZdS kvs k:=ZcB (p:=(k',v)) c
   rw[e]
   exact this
theorem Zeg (hd: ∀ k,dec (key k)=some k) {w:V} {d:D} (rw':Rep K H α w d): ∀ {kvs:List (κ × V)} {es:List D} (k:κ),Reps K H α (kvs.map (·.2)) es->
  ∃ es',Zj3 dec k d (List.zipWith (fun kv e=>D.tup [key kv.1,e]) kvs es)=List.zipWith (fun kv e=>D.tup [key kv.1,e]) (kvs.map fun kv=>if kv.1=k then (kv.1,w) else kv) es'/\Reps K H α ((kvs.map fun kv=>if kv.1=k then (kv.1,w) else kv).map (·.2)) es'
 | [],es,k,h=>by cases h;exact ⟨[],rfl,.nil⟩
 | (k',v) :: kvs,_,k,.cons (d:=dv) (ds:=es) r t=>by
  obtain ⟨es',h1,h2⟩:=Zeg hd rw' k t
  unfold Zj3 at h1
  by_cases c:k'=k
  ·refine ⟨d :: es',?_,?_⟩
   ·simp only[Zj3,List.zipWith_cons_cons,List.map_cons,hd,Option.some.injEq,if_pos c,h1]
   ·simp only[List.map_cons,if_pos c]
    exact .cons rw' h2
  ·refine ⟨dv :: es',?_,?_⟩
   ·simp only[Zj3,List.zipWith_cons_cons,List.map_cons,hd,Option.some.injEq,if_neg c,h1]
   ·simp only[List.map_cons,if_neg c]
    exact .cons r h2
theorem Zfz {α' β γ:Type} {f:α'->β->γ} {x:α'} {y:β}: ∀ {xs:List α'} {ys:List β},xs.length=ys.length->List.zipWith f (xs ++ [x]) (ys ++ [y])=List.zipWith f xs ys ++ [f x y]
 | [],[],_=>rfl
 |a :: xs,b :: ys,h=>by simp[Zfz (xs:=xs) (ys:=ys) (by simpa using h)]
theorem ZhB (hd: ∀ k,dec (key k)=some k) {kvs:List (κ × V)} {ds:List D} {w:V} {d:D} (k:κ) (h:ZbN K H α key kvs ds) (r:Rep K H α w d):ZbN K H α key (ZgY kvs k w) (Zix dec k (key k) d ds):=by
 obtain ⟨es,rfl,hr⟩:=h
 have pv:=Zb2 hd k hr
 have an:=Zdu k kvs
 unfold ZgY Zix
 cases e:ZcG dec k (List.zipWith (fun kv e=>D.tup [key kv.1,e]) kvs es) with
 |none=>
  rw[e] at pv
  rw[if_neg (by rw[an,pv];simp),if_neg (by simp)]
  refine ⟨es ++ [d],?_,?_⟩
  ·rw[Zfz (by rw[<- hr.length,List.length_map])]
  ·rw[List.map_append]
   exact hr.append (.cons r .nil)
 |some x=>
  rw[e] at pv
  obtain ⟨v,hv,_⟩:=pv
  rw[if_pos (by rw[an,hv];rfl),if_pos (show (some x).isSome=true from rfl)]
  exact Zeg hd r k hr
theorem ZhC {kvs:List (κ × V)} {ds:List D} (h:ZbN K H α key kvs ds):kvs.length=ds.length:=by
 obtain ⟨es,rfl,hr⟩:=h
 have:=hr.length
 rw[List.length_map] at this
 simp[this]
theorem Zf5 {kvs:List (κ × V)} {ds:List D} (h:ZbN K H α key kvs ds) (e:Ext K H H' α α'):ZbN K H' α' key kvs ds:=by
 obtain ⟨es,h1,h2⟩:=h
 exact ⟨es,h1,Reps.mono e h2⟩
end
noncomputable def Zqj (K:PySem.W.Frag) (H:Hp) (α:List Addr) (o:Option D) (ov:Option V):Prop:=match o with | none=>ov=none | some d=> ∃ u,ov=some u/\Rep K H α u d
theorem ZtH {a b:Nat} (h:a + 64 < b):a + 1 < b:=by omega
noncomputable def Zf6 (M:Sto) (x k:D):Option (Option D):=match x with
 | .dk n=>(match kK k,M[n]? with | some kk,some (.lst ds)=>some (ZcG kK kk ds) | _,_=>none)
 | .dt n=>(match kT k,M[n]? with | some kk,some (.lst ds)=>some (ZcG kT kk ds) | _,_=>none)
 |_=>none
section
variable {X:Cx} {ξ:XK} {H:Hp} {α:List Addr} {M:Sto}
theorem ZhD {v:V} {d:D} {k:Key} (r:Rep X.K H α v d) (e:kK d=some k):v=kV k:=by
 cases r with
 |int i=>cases e;rfl
 |str x=>cases e;rfl
 |_=>cases e
theorem Zdz: ∀ {vs:List V} {ds:List D} {ks:List Key},Reps X.K H α vs ds->kKs ds=some ks->vs=ks.map kV
 |_,_,ks,.nil,e=>by cases e;rfl
 |_,_,ks,.cons (d:=d) (ds:=ds) r t,e=>by
  unfold kKs at e
  split at e
  ·rename_i k ks' e1 e2
   cases e
   rw[List.map_cons,ZhD r e1,Zdz t e2]
  ·cases e
theorem Zlh (h:HR X.K H α M) {v w:V} {x k:D} {o:Option D} (r:Rep X.K H α v x) (rk:Rep X.K H α w k) (e:Zf6 M x k=some o):
  ∃ a ov,v= .ref a/\ZiR H a w ov/\IsD H a/\Zqj X.K H α o ov:=by
 cases r with
 | @dk p n hp=>
  simp only[Zf6] at e
  split at e
  ·rename_i kk ds e1 e2
   cases e
   obtain ⟨kvs,g1,es,rfl,g2⟩:=h.atK hp e2
   have pv:=Zb2 Zhy kk g2
   refine ⟨p,ZdS kvs kk,rfl,by rw[ZhD rk e1];exact ZiR.k g1,.inl ⟨kvs,.inl g1⟩,?_⟩
   unfold Zqj
   exact pv
  ·cases e
 | @dt p n hp=>
  simp only[Zf6] at e
  split at e
  ·rename_i kk ds e1 e2
   cases e
   obtain ⟨kvs,g1,es,rfl,g2⟩:=h.atT hp e2
   have pv:=Zb2 Zfy kk g2
   cases rk with
   | @tup b xs ds' hb rb=>
    refine ⟨p,ZdS kvs kk,rfl,ZiR.t g1 (by rw[hb,Zdz rb e1]),.inr ⟨kvs,.inl g1⟩,?_⟩
    unfold Zqj
    exact pv
   |_=>cases e1
  ·cases e
 |_=>cases e
end
section
variable {X:Cx} {ξ:XK} {o i e:Expr} {fo fi f:Ev} {pos pos':Pos}
noncomputable def Zso (neg:Bool):R2:=fun v w H Q=> ∃ a o,w= .ref a/\ZiR H a v o/\Q (.bl (neg ^^ o.isSome)) H
noncomputable def Zli (neg:Bool):Bo:=fun k x M=>match Zf6 M x k with | some o=> .ok (.bl (neg ^^ o.isSome)) M | none=> .bad
theorem Zns (hu:X.A.units + 64 < cLine):OpR X (compareOp .In) (Zso false):=by
 intro pins s σ H x y v u Q I rx ry ⟨a,ov,e1,g,q⟩
 subst e1
 cases (show u=Value.ref a from ry)
 exact Ztz (ZtH hu) I g rx fun s' I'=>⟨.bl ov.isSome,H,I',rfl,by simpa using q⟩
theorem Znt {neg:Bool}:BO X ξ (Zso neg) (Zli neg):=by
 intro H α M v w x y Q h r1 r2 q
 unfold Zli at q
 cases eg:Zf6 M y x with
 |none=>rw[eg] at q;exact q.elim
 |some oo=>
  rw[eg] at q
  obtain ⟨a,ov,g1,g2,_,g4⟩:=Zlh h r2 r1 eg
  have es:ov.isSome=oo.isSome:=by
   cases oo with
   |none=>rw[show ov=none from g4];rfl
   |some d=>obtain ⟨u,rfl,_⟩:=g4;rfl
  exact ⟨a,ov,g1,g2,by rw[es];exact q _ H α Ext.refl h (.bl _)⟩
noncomputable def Znu (M:Sto) (x k d:D):Option Sto:=match x with
 | .dk n=>(match kK k,M[n]? with | some kk,some (.lst ds)=>if ds.length < 10000000 then some (M.set n (.lst (Zix kK kk k d ds))) else none | _,_=>none)
 | .dt n=>(match kT k,M[n]? with | some kk,some (.lst ds)=>if ds.length < 10000000 then some (M.set n (.lst (Zix kT kk k d ds))) else none | _,_=>none)
 |_=>none
end
end DL
end
section
namespace DL
open PySem PySem.Spec PyProof.Rows L2
noncomputable def Itv (K:PySem.W.Frag) (a:Addr) (l:Nat):It:=
 ⟨fun i H=>i < l/\ ∃ xs x,SqL K H a xs/\xs[l - 1 - i]?=some x,fun i H x H'=>H'=H/\ ∀ xs,SqL K H a xs->xs[l - 1 - i]?=some x,fun i _=>i=l⟩
theorem Zjd {P:Program} {w:World} {K:PySem.W.Frag} {B:Around} {tg:Expr} (hB:B.handled=none) (a it:Addr) (l:Nat):Turn P w K B tg (Itv K a l) [it] it (fun i h=>h.IsRevIter it a ((l:Int) - 1 - i)) where
 mem:=by simp
 obj:=fun i h st b hb=>by
  have e:b=it:=by simpa using hb
  subst e
  obtain ⟨o,e,c,d⟩:=st
  exact ⟨o,e,fun v z=>by rw[d] at z;cases z⟩
 keep:=fun i h h' st k=>st.at fun o e=>k it (by simp) o e
 item:=by
  intro X hP hw hK hA i pins s σ H E I hf st hg
  subst hP hw hK hA
  obtain ⟨hi,xs,x,hq,hx⟩:=hg
  obtain ⟨its,rv,p,hz⟩:=I.list hq
  obtain ⟨u,hu,ru⟩:=rv.get hx
  obtain ⟨f0,f1,f2,f3,f4,f5⟩:=hf it (by simp)
  have en:((l:Int) - 1 - i)=((l - 1 - i:Nat):Int):=by omega
  rw[en] at st
  refine wpAny_pyNext_rev_item st p.isList (x:=u) (by simpa using hu) fun h' st' sb=> ?_
  have I1:Inv X pins σ H { s with heap:=h' }:=I.turned (t':=s.toks) (fun b o hb e=>(sb.2 b hb).trans e) f0 f1 f3 f4 f5
  have st2:h'.IsRevIter it a ((l:Int) - 1 - ((i + 1:Nat):Int)):=by
   have e2:((l:Int) - 1 - ((i + 1:Nat):Int))=((l - 1 - i:Nat):Int) - 1:=by omega
   rw[e2]
   exact st'
  obtain ⟨o,e,c,d⟩:=id st'
  exact ⟨u,rfl,ZiE (s:={ s with heap:=h' }) e c d (by decide) ⟨x,H,I1,ru,⟨rfl,fun ys hy=>by rw[I.list_inj hy hq];exact hx⟩,st2,fun b hb=>(hf b hb).1⟩⟩
 done:=by
  intro X hP hw hK hA i pins s σ H E I hf st hg
  subst hP hw hK hA
  obtain ⟨f0,f1,f2,f3,f4,f5⟩:=hf it (by simp)
  have hg':i=l:=hg
  have en:((l:Int) - 1 - i)= -1:=by omega
  rw[en] at st
  refine wpAny_pyNext_rev_end hB st fun h' ext=>⟨rfl,?_⟩
  exact I.turned (t':=s.toks) (it:=it) (fun b o hb z=>ext b o hb z) f0 f1 f3 f4 f5
 self:=fun A i s Q E st q=>wpAny_pyIter_revIter st q
theorem ZcP:bootBuiltins "reversed"=some (.type "reversed"):=by decide +kernel
section
variable {X:Cx} {ξ:XK} {tg a:Expr} {fs:Av} {p pos:Pos} {ta:TA}
noncomputable def ZtI (K:PySem.W.Frag) (t:TA):TI:=fun σ H R=>t σ H fun vs H1=> ∃ l xs,vs=[.ref l]/\SqL K H1 l xs/\R (Itv K l xs.length) H1
theorem Znv (hc:X.A.handled=none) (hg:Gl X "reversed") (hm:X.mg "reversed"=none) (ha:PA X [a] ta) (hs:starEach [a] X.env=(false,eval a X.env) :: starEach [] X.env:=by rfl) (hpl:(backTo pos (starEach [] X.env)).any (·.1)=false:=by rfl):
  PI X tg (.Call (.Name "reversed" p) [a] [] pos) (ZtI X.K ta):=by
 intro pins s σ H R I h
 refine wpAny_Call_Name_kw (ZbW I hg hm ZcP (PyProof.Rows.callWith_type1 (thn (ha pos pins s σ H _ I h) fun us s1 ⟨vs,H1,I1,r1,q1⟩=> ?_) hs hpl) (by decide) (by decide))
 obtain ⟨l,xs,rfl,hq,q⟩:=q1
 obtain ⟨u,rfl,ru⟩:=Zcu r1
 cases ru
 obtain ⟨its,rv,pl,hz⟩:=I1.list hq
 refine call_reversed_list pl.isList ?_
 have T:=Zjd (P:=X.prog) (w:=X.w) (K:=X.K) (B:=X.A) (tg:=tg) hc l s1.heap.objs.size xs.length
 have I2:Inv X pins σ H1 { s1 with heap:=s1.heap.push (revObj l ((its.toArray.size:Int) - 1)),toks:=s1.toks }:=I1.kept (t':=s1.toks) fun b o e=>Heap.get?_push_of_some _ e
 have st:(s1.heap.push (revObj l ((its.toArray.size:Int) - 1))).IsRevIter s1.heap.objs.size l ((xs.length:Int) - 1 - ((0:Nat):Int)):=by
  refine ⟨_,Heap.get?_push_size _ rfl,rfl,?_⟩
  have e:((its.toArray.size:Int) - 1)=(xs.length:Int) - 1 - ((0:Nat):Int):=by rw[List.size_toArray,<- rv.length];simp
  rw[e]
  rfl
 refine T.self X.A 0 { s1 with heap:=s1.heap.push (revObj l ((its.toArray.size:Int) - 1)) } _ _ st ⟨_,_,_,_,H1,rfl,I2,T,st,fun b hb=> ?_,q⟩
 have hb':s1.heap.objs.size<=b:=by
  have:b=s1.heap.objs.size:=by simpa using hb
  rw[this]
  exact Nat.le_refl _
 exact I1.fpOk hb' (I1.hok.fresh hb')
noncomputable def iRv (fs:Av):Ro->Sto->Out Src:=fun ρ M=>(fs ρ M).bind fun ds M1=>match ds with | [.ref n]=>(match M1[n]? with | some (.lst xs)=> .ok (.rev n xs.length) M1 | none=> .bad) | _=> .bad
theorem Znw (hc:X.A.handled=none) (hm:X.mg "reversed"=none) (ha:DA X ξ [a] fs) (hg:Gl X "reversed":=by rfl) (hs:starEach [a] X.env=(false,eval a X.env) :: starEach [] X.env:=by rfl) (hpl:(backTo pos (starEach [] X.env)).any (·.1)=false:=by rfl):
  DI X ξ tg (.Call (.Name "reversed" p) [a] [] pos) (iRv fs):=by
 obtain ⟨ta,pa,qa⟩:=ha
 refine ⟨_,Znv hc hg hm pa hs hpl,fun σ ρ H α M R s hh q=>qa σ ρ H α M _ s hh (OG.seq q fun ds M1 vs H1 α1 e1 h1 r1 w1=> ?_)⟩
 match r1 with
 | .nil=>exact w1.elim
 | .cons r (.cons _ _)=>cases r<;>exact w1.elim
 | .cons r .nil=>
  cases r with
  | @ref l n hp=>
   cases em0:M1[n]? with
   |none=>simp only[em0] at w1;exact w1.elim
   |some so0=>
    cases so0 with
    |lst es0=>
     simp only[em0] at w1
     obtain ⟨xs0,g0,g0'⟩:=h1.at hp em0
     refine ⟨l,xs0,rfl,SqL.of g0,?_⟩
     rw[g0'.length]
     refine w1 _ H1 α1 Ext.refl h1 fun i H' α' M' ex hr=> ?_
     cases em:M'[n]? with
     |none=>rw[show nxt (.rev n es0.length) i M'=none by simp only[nxt,em]];exact True.intro
     |some so=>
      cases so with
      |lst es=>
       obtain ⟨xs,g1,g2⟩:=hr.at (ex.get hp) em
       by_cases hi:i < es0.length
       ·cases ei:es[es0.length - 1 - i]? with
        |none=>rw[show nxt (.rev n es0.length) i M'=none by simp only[nxt,em,if_pos hi,ei]];exact True.intro
        |some d=>
         rw[show nxt (.rev n es0.length) i M'=some (some d) by simp only[nxt,em,if_pos hi,ei]]
         obtain ⟨v,k1,k2⟩:=g2.get ei
         refine ⟨⟨hi,xs,v,SqL.of g1,k1⟩,fun x H'' y=> ?_⟩
         obtain ⟨ey,y⟩:=y
         subst ey
         have z:=y xs (SqL.of g1)
         rw[k1] at z
         cases z
         exact ⟨Ext.refl,hr,k2⟩
       ·by_cases he:i=es0.length
        ·rw[show nxt (.rev n es0.length) i M'=some none by simp only[nxt,em,if_neg hi,if_pos he]]
         exact he
        ·rw[show nxt (.rev n es0.length) i M'=none by simp only[nxt,em,if_neg hi,if_neg he]]
         exact True.intro
  |_=>exact w1.elim
end
end DL
end
section
namespace DL
open PySem PySem.Spec PyProof.Rows L2
section
variable {X:Cx} {ξ:XK} {e e1 e2:Expr} {es:List Expr} {f:Ev} {pos:Pos}
noncomputable def eFm (f:Ev):Ev:=fun ρ M=>(f ρ M).bind fun x M1=>match x with
 | .int i=>if i.natAbs.log2 < 1900 then .ok (.str (Str.ofString (toString i))) M1 else .bad
 | .str y=>if y.length<=100000 then .ok (.str y) M1 else .bad
 |_=> .bad
theorem Zqk (ha:DE X ξ e f):DE X ξ (.FormattedValue e (-1) none pos) (eFm f):=by
 obtain ⟨ta,pa,qa⟩:=ha
 refine ⟨fun σ H Q=>ta σ H fun x H1=>(∃ i,x= .int i/\i.natAbs.log2 < 1900/\Q (.str (Str.ofString (toString i))) H1)\/ ∃ y,x= .str y/\y.length<=100000/\Q (.str y) H1,fun pins s σ H Q I h=> ?_,fun σ ρ H α M Q s h q=> ?_⟩
 ·refine wpAny_FormattedValue_plain (wpAny_mono (pa pins s σ H _ I h) (fun v s1 ⟨x,H1,I1,r1,q1⟩=> ?_) fun _ _ z=>z)
  rcases q1 with ⟨i,rfl,hi,q⟩ | ⟨y,rfl,hy,q⟩
  ·obtain ⟨t,rfl⟩:=r1
   exact wpAny_formatField_int (by omega) ⟨.str (Str.ofString (toString i)),H1,I1.tok _,⟨_,rfl⟩,q⟩
  ·obtain ⟨t,rfl⟩:=r1
   exact wpAny_formatField_str ⟨.str y,H1,I1,⟨_,rfl⟩,q⟩ ⟨.str y,H1,I1.tok _,⟨_,rfl⟩,q⟩ (Nat.le_trans hy (by rw[sizeLine_eq];decide))
 ·refine qa σ ρ H α M _ s h (OG.seq q fun x M1 v H1 α1 e1 h1 r1 q1=> ?_)
  cases r1 with
  |int i=>
   by_cases hi:i.natAbs.log2 < 1900
   ·simp only[hi,if_true] at q1
    exact .inl ⟨i,rfl,hi,q1 _ H1 α1 Ext.refl h1 (.str _)⟩
   ·simp only[hi,if_false] at q1
    exact q1.elim
  |str y=>
   by_cases hi:y.length<=100000
   ·simp only[hi,if_true] at q1
    exact .inr ⟨y,rfl,hi,q1 _ H1 α1 Ext.refl h1 (.str _)⟩
   ·simp only[hi,if_false] at q1
    exact q1.elim
  |_=>exact q1.elim
noncomputable abbrev Jv:=Str->Ro->Sto->Out Str
noncomputable def PJ (X:Cx) (es:List Expr) (t:L2.St->Hp->Str->(Str->Hp->Prop)->Prop):Prop:=
 ∀ (pins:List (Addr × Obj)) (s:Shared) (σ:L2.St) (H:Hp) (acc:Str) (Q:Str->Hp->Prop),Inv X pins σ H s->t σ H acc Q->Joins (model X.prog X.w) X.A X.xe (evalEach es X.env) acc (fun out s1=>out.length<=100000/\ ∃ H',Inv X pins σ H' s1/\Q out H') s
noncomputable def DJ (X:Cx) (ξ:XK) (es:List Expr) (g:Jv):Prop:= ∃ t,PJ X es t/\ ∀ σ ρ H α M acc (Q:Str->Hp->Prop),SR X.K H α σ ρ->HR X.K H α M->OG X.K (fun _ _ v d=>v=d) H α ξ Q (g acc ρ M)->t σ H acc Q
noncomputable def jNil:Jv:=fun acc _ M=>if acc.length<=100000 then .ok acc M else .bad
noncomputable def Zc7 (f:Ev) (g:Jv):Jv:=fun acc ρ M=>(f ρ M).bind fun x M1=>match x with
 | .str y=>if (acc ++ y).length<=100000 then g (acc ++ y) ρ M1 else .bad
 |_=> .bad
noncomputable def eFs (g:Jv):Ev:=fun ρ M=>(g Str.empty ρ M).bind fun x M1=> .ok (.str x) M1
theorem Znx:DJ X ξ [] jNil:=by
 refine ⟨fun σ H acc Q=>acc.length<=100000/\Q acc H,fun pins s σ H acc Q I h=>⟨h.1,H,I,h.2⟩,fun σ ρ H α M acc Q s h q=> ?_⟩
 unfold jNil at q
 by_cases hl:acc.length<=100000
 ·rw[if_pos hl] at q
  exact ⟨hl,q acc H α Ext.refl h rfl⟩
 ·rw[if_neg hl] at q
  exact q.elim
theorem ZeX {g:Jv} (ha:DE X ξ e f) (hr:DJ X ξ es g):DJ X ξ (e :: es) (Zc7 f g):=by
 obtain ⟨ta,pa,qa⟩:=ha
 obtain ⟨tr,pr',qr⟩:=hr
 refine ⟨fun σ H acc Q=>ta σ H fun x H1=> ∃ y,x= .str y/\(acc ++ y).length<=100000/\tr σ H1 (acc ++ y) Q,fun pins s σ H acc Q I h=> ?_,fun σ ρ H α M acc Q s h q=> ?_⟩
 ·show wpAny _ _ (eval e X.env) _ _ s
  refine wpAny_mono (pa pins s σ H _ I h) (fun v s1 ⟨x,H1,I1,r1,q1⟩=> ?_) fun _ _ z=>z
  obtain ⟨y,rfl,hy,q⟩:=q1
  obtain ⟨t,rfl⟩:=r1
  exact ⟨y,t,rfl,Nat.le_trans hy (by rw[sizeLine_eq];decide),pr' pins s1 σ H1 (acc ++ y) Q I1 q⟩
 ·refine qa σ ρ H α M _ s h (OG.seq q fun x M1 v H1 α1 e1 h1 r1 q1=> ?_)
  cases r1 with
  |str y=>
   by_cases hi:(acc ++ y).length<=100000
   ·simp only[hi,if_true] at q1
    exact ⟨y,rfl,hi,qr σ ρ H1 α1 M1 (acc ++ y) Q (s.mono e1) h1 q1⟩
   ·simp only[hi,if_false] at q1
    exact q1.elim
  |_=>exact q1.elim
theorem Zql {g:Jv} (h:DJ X ξ (e1 :: e2 :: es) g):DE X ξ (.JoinedStr (e1 :: e2 :: es) pos) (eFs g):=by
 obtain ⟨t,pj,qj⟩:=h
 refine ⟨fun σ H Q=>t σ H Str.empty fun x H1=>Q (.str x) H1,fun pins s σ H Q I h=> ?_,fun σ ρ H α M Q s h q=> ?_⟩
 ·refine wpAny_JoinedStr ?_
  have:=pj pins s σ H Str.empty _ I h
  have mono: ∀ (ms:List (Sem Value)) (acc:Str) (P R:Str->Shared->Prop) (s:Shared),(∀ o s,P o s->R o s)->Joins (model X.prog X.w) X.A X.xe ms acc P s->Joins (model X.prog X.w) X.A X.xe ms acc R s:=by
   intro ms
   induction ms with
   |nil=>intro acc P R s hp hj;exact hp _ _ hj
   |cons m r ih=>
    intro acc P R s hp hj
    exact wpAny_mono hj (fun v s1 ⟨y,t,e,l,k⟩=>⟨y,t,e,l,ih _ P R s1 hp k⟩) fun _ _ z=>z
  refine mono _ _ _ _ s (fun o s1 ⟨hl,H',I',q⟩=> ?_) this
  exact ⟨Nat.le_trans hl (by rw[sizeLine_eq];decide),.str o,H',I'.tok _,⟨_,rfl⟩,q⟩
 ·refine qj σ ρ H α M Str.empty _ s h (OG.seq q fun x M1 v H1 α1 e1 h1 r1 q1=> ?_)
  cases r1
  exact q1 _ H1 α1 Ext.refl h1 (.str x)
end
end DL
end
section
namespace DL
open PySem PySem.Spec PyProof.Rows L2
theorem Zf7 {β γ:Type} {o:Out β} {f:β->Sto->Out γ} {g:γ->Sto->Fl}:ZaY (o.bind f) g=ZaY o fun x M=>ZaY (f x M) g:=by cases o<;>rfl
section
variable {X:Cx} {ξ:XK} {tg iter elt:Expr} {ifs:List Expr} {scope:Scope} {cl:List (Str × Addr)} {N:List Str} {k:Nat} {fr:List Nat} {fi:Ro->Sto->Out Src} {gt:Tg} {c:Tv} {f:Ev} {pos:Pos}
theorem Zlj (iv:Nat) {x:Str} {pos' spos:Pos} (hN:X.N.Nodup) (B:Blk X scope cl N k fr) (hi:DI X ξ tg iter fi) (hg: ∀ C fp s H,DG (blk X scope cl N C fp s H) tg gt) (ht: ∀ C fp s H,DC (blk X scope cl N C fp s H) ifs c) (he: ∀ C fp s H,DE (blk X scope cl N C fp s H) E0 elt f)
  (hiv:X.N[iv]?=some x:=by rfl) (hxl:Loc X.env.scope x:=by first | exact Or.inl rfl | exact Or.inr rfl) (hsw:swapsWith (.ListComp elt [⟨tg,iter,ifs,0⟩] scope pos) (some (.Name x pos')) spos.line X.env=pure true:=by rfl) (hf:X.fn x=true\/X.env.scope.names.lookup x=some .local:=by first | exact .inl rfl | exact .inr rfl | assumption)
  (hs: ∀ x,foldedSetIterable iter X.env x=pure x:=by intro _;rfl):DS X ξ (.Assign [.Name x pos'] (.ListComp elt [⟨tg,iter,ifs,0⟩] scope pos) spos) (ZD (gNm iv) (Za0 fi k fr gt c f)):=by
 obtain ⟨wi,pi,qi⟩:=hi
 refine ⟨fun Dn σ H=> ∃ ρ α M,SR X.K H α σ ρ/\HR X.K H α M/\FP X.K H α ξ Dn (ZD (gNm iv) (Za0 fi k fr gt c f) ρ M),?_,fun σ ρ H α M Dn s h q=>⟨ρ,α,M,s,h,q⟩⟩
 rintro pins s σ H Dn I ⟨ρ,α,M,sr,hr,op⟩
 rw[exec_Assign_Name_used _ _ _ _ hsw]
 refine wpAny_bind (wpAny_standAt (wpAny_bind ?_))
 show wpAny _ X.A (do let _ <- comprehension (.ListComp elt [⟨tg,iter,ifs,0⟩] scope pos) scope X.env _ (newList []) false (eval iter X.env) (some (assign (.Name x pos') X.env))) _ _ s
 have op:FP X.K H α ξ Dn (ZaY (fi ρ M) fun src M1=>ZaY (match Zcw src gt c f M1.length (cnt src M1) 0 (roB k fr ρ) (M1 ++ [.lst []]) with | .ok _ M2'=> .ok (.ref M1.length) M2' | _=> .bad) fun d M1=>Fl.nx (ρ.set iv (some d)) M1):=by
  have e:ZD (gNm iv) (Za0 fi k fr gt c f) ρ M=(ZaY (fi ρ M) fun src M1=>ZaY (match Zcw src gt c f M1.length (cnt src M1) 0 (roB k fr ρ) (M1 ++ [.lst []]) with | .ok _ M2'=> .ok (.ref M1.length) M2' | _=> .bad) fun d M1=>Fl.nx (ρ.set iv (some d)) M1):=by
   unfold ZD Za0
   rw[Zf7]
   rfl
  rw[<- e]
  exact op
 refine wpAny_bind (wpAny_mono (wpAny_comprehension_free (Q:=fun _ s'=>SP X pins Dn .next s') (use:=some (assign (.Name x pos') X.env)) rfl hs B.clos B.kind B.names ?_) (fun _ s' hq=>wpAny_pure (wpAny_pure hq)) fun _ _ e=>e)
 refine thn (pi pins s σ H (fun J H2=> ∃ α2 M2 src,Ext X.K H H2 α α2/\HR X.K H2 α2 M2/\Znb X.K H2 α2 J src/\FP X.K H2 α2 ξ Dn (ZaY (match Zcw src gt c f M2.length (cnt src M2) 0 (roB k fr ρ) (M2 ++ [.lst []]) with | .ok _ M2'=> .ok (.ref M2.length) M2' | _=> .bad) fun d M1=>Fl.nx (ρ.set iv (some d)) M1)) I
  (qi σ ρ H α M _ sr hr (FP.seq op fun src M1 J H1 α1 e1 h1 r1 q1=>⟨α1,M1,src,e1,h1,r1,q1⟩))) fun v s1 w1=>thn w1 fun itv s2 w2=> ?_
 obtain ⟨it,fp,tn,J,H2,rfl,I2,T,st2,f2,α2,M2,src,e2,h2,sc,op2⟩:=w2
 have srI:=sr.mono e2
 refine wpAny_newObj_type ?_
 have I3:Inv X pins σ (upd H2 s2.heap.objs.size (.lst [])) { s2 with heap:=s2.heap.push { cls:= .type "list",data:= .seq ([]:List Value).toArray } }:=I2.lnew (its:=[]) (t':=s2.toks) .nil (Nat.zero_le _)
 have fD:H2 s2.heap.objs.size=none:=I2.fresh
 generalize hD:s2.heap.objs.size=D at I3 fD
 generalize hs3:({ s2 with heap:=s2.heap.push { cls:= .type "list",data:= .seq ([]:List Value).toArray } }:Shared)=s3 at I3
 generalize hH3:upd H2 D (.lst [])=H3 at I3
 have h3:HR X.K H3 (α2 ++ [D]) (M2 ++ [.lst []]):=by rw[<- hH3];exact h2.new fD .nil
 have e3:Ext X.K H2 H3 α2 (α2 ++ [D]):=by rw[<- hH3];exact Ext.new fD
 have aD:RefK H3 (α2 ++ [D]) 0 M2.length D:=⟨h2.last D,by first | exact Kn.lst Zr | (rw[<- hH3];exact Kn.lst Zr)⟩
 have lt2: ∀ b∈fp,b < s2.heap.objs.size:=fun b hb=>let ⟨o,e,_⟩:=T.obj _ _ st2 b hb;Heap.lt_size e
 have keep3: ∀ b o,s2.heap.get? b=some o->s3.heap.get? b=some o:=fun b o e=>by rw[<- hs3];exact Heap.get?_push_of_some _ e
 have f3: ∀ b∈fp,ZdV X pins H3 b:=fun b hb=>⟨by rw[<- hH3,ZJ (by rw[<- hD];exact Nat.ne_of_lt (lt2 b hb))];exact (f2 b hb).1,(f2 b hb).2⟩
 have lt3: ∀ b∈fp,b < s3.heap.objs.size:=fun b hb=>let ⟨o,e,_⟩:=T.obj _ _ st2 b hb;Heap.lt_size (keep3 b o e)
 have st3:tn 0 s3.heap:=T.keep _ _ _ st2 fun b _ o e=>keep3 b o e
 refine wpAny_newFunctionEnv B.cell (by intro y hy;simp at hy) (fun h₁ hns₁ hsb₁=> ?_) B.kind
 have keep4: ∀ b o,s3.heap.get? b=some o->h₁.get? b=some o:=fun b o e=>hsb₁.extBut b o (Nat.ne_of_lt (Heap.lt_size e)) (Heap.get?_push_of_some _ e)
 have I4:=ZeS (tk:=s3.toks + ([]:List (Str × Value)).length) B I3 f3 lt3 hns₁ keep4
 have st4:tn 0 h₁:=T.keep _ _ _ st3 fun b _ o e=>keep4 b o e
 generalize hX:blk X scope cl N s3.heap.objs.size fp s3 H3=Y at I4
 have YK:Y.K=X.K:=by rw[<- hX];rfl
 have Yp:Y.prog=X.prog:=by rw[<- hX];rfl
 have Yw:Y.w=X.w:=by rw[<- hX];rfl
 have YA:Y.A=X.A:=by rw[<- hX];rfl
 have Ye:Y.env=compEnvC scope cl s3.heap.objs.size X.env:=by rw[<- hX];rfl
 obtain ⟨tt,pt,qt⟩:=hg s3.heap.objs.size fp s3 H3
 obtain ⟨te,pe,qe⟩:=he s3.heap.objs.size fp s3 H3
 have tst:=ht s3.heap.objs.size fp s3 H3
 rw[hX] at pt qt pe qe tst
 cases er:Zcw src gt c f M2.length (cnt src M2) 0 (roB k fr ρ) (M2 ++ [.lst []]) with
 |exc x M9=>rw[er] at op2;exact op2.elim
 |bad=>rw[er] at op2;exact op2.elim
 |ok u9 M9=>
  rw[er] at op2
  have loop:codeAny (model X.prog X.w) X.A (.compLoop (.ListComp elt [⟨tg,iter,ifs,0⟩] scope pos) 0 (.ref it) (.ref D) (compEnvC scope cl s3.heap.objs.size X.env)) (compPost (model X.prog X.w) X.A X.xe (some (assign (.Name x pos') X.env)) (fun _ s'=>SP X pins Dn .next s') (.ref D) s3.heap.objs.size) { s3 with heap:=h₁,toks:=s3.toks + ([]:List (Str × Value)).length }:=by
   refine Zcp (fun n s'=> ∃ i σ' ρ' H' α' M',Inv Y [] σ' H' s'/\tn i s'.heap/\(∀ b∈fp,H' b=none)/\SR X.K H' α' σ' ρ'/\HR X.K H' α' M'/\Ext X.K H3 H' (α2 ++ [D]) α'/\Zcw src gt c f M2.length n i ρ' M'= .ok u9 M9) ?_ (cnt src M2)
    ⟨0,stB k fr σ,roB k fr ρ,H3,α2 ++ [D],M2 ++ [.lst []],I4,st4,fun b hb=>(f3 b hb).1,(srI.blk).mono e3,h3,Ext.refl,er⟩
   rintro n s5 ⟨i,σ5,ρ5,H5,α5,M5,I5,st5,fr5,sr5,hr5,ex5,en⟩
   have fp5: ∀ {H':Hp},(∀ b∈fp,H' b=none)-> ∀ b∈fp,ZdV Y [] H' b:=fun hn b hb=>⟨hn b hb,by rw[Ye];exact Nat.ne_of_lt (lt3 b hb),by
    have:=(Zfu B I3 f3 lt3).exfs b hb
    rw[hX] at this;exact this,.inl (by rw[<- hX];exact hb),fun x c h=>(by rw[Ye] at h;exact (f3 b hb).2.2.2.2.1 x c (B.sub x c h)),fun p hp=>(by rw[<- hX] at hp;simp[blk] at hp)⟩
   have src5:=sc i H5 α5 M5 (e3.trans ex5) hr5
   rw[Zcw] at en
   cases ex:nxt src i M5 with
   |none=>rw[ex] at en;cases en
   |some od=>
    rw[ex] at src5 en
    cases od with
    |none=>
     cases en
     have fin:=T.done Y Yp Yw YK YA i [] s5 σ5 H5 (fun _ _=>False) I5 (fp5 fr5) st5 src5
     rw[YA] at fin
     refine thn fin fun r s6 ⟨hr6,I6⟩=> ?_
     subst hr6
     obtain ⟨m6,hm6,_⟩:=id I6.loc
     rw[Ye] at hm6
     have un:=I6.base
     have hok6:=I6.hok
     have I7:Inv X pins σ H5 s6:=by
      refine I3.call' (s':=s6) (ch:=fp) ?_ ?_ ?_ I6.bare fun b hb=> ?_
      ·have:=I6.os
       rw[this,<- hX];rfl
      ·rw[<- hX] at un
       exact un
      ·rw[Yp,Yw] at hok6
       exact hok6
      ·obtain ⟨_,z1,z2,z3,z4,z5⟩:=f3 b hb
       exact ⟨z3,z1,z4,z5⟩
     have hC:H5 s3.heap.objs.size=none:=by have:=I6.free;rw[Ye] at this;exact this
     refine wpAny_assign_Name (ZdU (v:= .ref D) I7 hN hiv hxl rfl (fun s8 I8 ⟨a,sb8,ha⟩=> ?_) hf)
     have nca:s3.heap.objs.size≠a:=by
      rcases ha with e | e
      ·rw[e];exact Nat.ne_of_gt I3.lt
      ·intro z
       obtain ⟨v,o,e',_⟩:=I3.cell x a e
       exact absurd (Heap.lt_size e') (by rw[<- z];exact Nat.lt_irrefl _)
     refine ⟨m6,hm6.sameBut sb8 nca,fun h' sb=> ?_⟩
     have I9:Inv X pins (σ.set iv (some (.ref D))) H5 { s8 with heap:=h',toks:=s8.toks }:=I8.turned (it:=s3.heap.objs.size) (fun b o hb e=>(sb.2 b hb).trans e) hC (Nat.ne_of_gt I3.lt) (.inr I3.sz)
      (fun x c h z=>by
       obtain ⟨v,o,e,_⟩:=I3.cell x c h
       exact absurd (Heap.lt_size e) (by rw[z];exact Nat.lt_irrefl _)) (fun p hp z=>by
       have:=(I3.pin p hp).1
       exact absurd (Heap.lt_size this) (by rw[z];exact Nat.lt_irrefl _))
     exact ⟨_,H5,I9,op2 _ H5 α5 (e3.trans ex5) hr5 ((srI.mono (e3.trans ex5)).set iv (.ref (ex5.get aD)))⟩
    |some d=>
     obtain ⟨go,yl⟩:=src5
     cases n with
     |zero=>cases en
     |succ n=>
      simp only at en
      have itm:=T.item Y Yp Yw YK YA i [] s5 σ5 H5 (fun _ _=>False) I5 (fp5 fr5) st5 go
      rw[YA] at itm
      refine thn itm fun r s6 ⟨u,hr6,w6⟩=> ?_
      subst hr6
      refine thn w6 fun _ s7 ⟨x,H7,I7,r7,y7,st7,fr7⟩=> ?_
      obtain ⟨ex7,hr7,rp7⟩:=yl x H7 y7
      have sr5:=sr5.mono ex7
      have hr5:=hr7
      have ex5:=ex5.trans ex7
      have I7':=I7.pinned (fp5 fr7) (T.obj _ _ st7)
      cases eg:gt d ρ5 with
      |none=>rw[eg] at en;cases en
      |some ρ6=>
       rw[eg] at en
       simp only at en
       have asg:=pt _ s7 σ5 H7 x u _ I7' r7 (qt x d σ5 ρ5 H7 α5 ρ6 (fun σ' H'=>H'=H7/\SR X.K H7 α5 σ' ρ6) (by rw[YK];exact sr5) (by rw[YK];exact rp7) eg fun σ' s'=>⟨rfl,by rw[YK] at s';exact s'⟩)
       rw[Yp,Yw,YA,Ye] at asg
       refine wpAny_mono asg (fun _ s8 ⟨σ8,H8,I8,z8,sr8⟩=> ?_) (fun _ _ z=>by rw[<- hX] at z;exact z)
       subst z8
       have again: ∀ {σ9:L2.St} {H9:Hp} {s9:Shared},Inv Y ([] ++ Zbt fp s7.heap) σ9 H9 s9->Inv Y [] σ9 H9 s9/\tn (i + 1) s9.heap/\ ∀ b∈fp,H9 b=none:=fun {σ9 H9 s9} I9=>by
        refine ⟨I9.unpinned,T.keep _ _ _ st7 fun b hb o e=>(I9.pin (b,o) (List.mem_append_right _ (List.mem_append_right _ (Zaa hb e)))).1,fun b hb=> ?_⟩
        obtain ⟨o,e,_⟩:=T.obj _ _ st7 b hb
        exact (I9.pin (b,o) (List.mem_append_right _ (List.mem_append_right _ (Zaa hb e)))).2.1
       have after: ∀ (kk:Bool) (M8:Sto) (H9:Hp) (α9:List Addr) (s9:Shared),Inv Y ([] ++ Zbt fp s7.heap) σ8 H9 s9->Ext X.K H8 H9 α5 α9->HR X.K H9 α9 M8->c ρ6 M5= .ok kk M8->
         (if kk=true then wpAny (model X.prog X.w) X.A (eval elt (compEnvC scope cl s3.heap.objs.size X.env)) (fun x s₄=>wpAny (model X.prog X.w) X.A (call (.builtin "list.append") [.ref D,x]) (fun _ s₅=> ∃ m,m < n + 1/\ ∃ i σ' ρ' H' α' M',Inv Y [] σ' H' s₅/\tn i s₅.heap/\(∀ b∈fp,H' b=none)/\SR X.K H' α' σ' ρ'/\HR X.K H' α' M'/\Ext X.K H3 H' (α2 ++ [D]) α'/\Zcw src gt c f M2.length m i ρ' M'= .ok u9 M9) (fun _ _=>False) s₄) (fun _ _=>False) s9
          else ∃ m,m < n + 1/\ ∃ i σ' ρ' H' α' M',Inv Y [] σ' H' s9/\tn i s9.heap/\(∀ b∈fp,H' b=none)/\SR X.K H' α' σ' ρ'/\HR X.K H' α' M'/\Ext X.K H3 H' (α2 ++ [D]) α'/\Zcw src gt c f M2.length m i ρ' M'= .ok u9 M9):=by
        intro kk M8 H9 α9 s9 I9 ex9 hr9 ec
        rw[ec] at en
        cases kk with
        |false=>
         obtain ⟨a1,a2,a3⟩:=again I9
         exact ZiP ⟨n,Nat.lt_succ_self n,i + 1,σ8,ρ6,H9,α9,M8,a1,a2,a3,sr8.mono ex9,hr9,ex5.trans ex9,en⟩
        |true=>
         simp only at en
         refine ZiQ ?_
         cases ef:f ρ6 M8 with
         |exc x9 M10=>rw[ef] at en;cases en
         |bad=>rw[ef] at en;cases en
         |ok y M10=>
          rw[ef] at en
          simp only at en
          have ev:=pe _ s9 σ8 H9 (fun v H'=> ∃ α',Ext X.K H9 H' α9 α'/\HR X.K H' α' M10/\Rep X.K H' α' v y) I9 (qe σ8 ρ6 H9 α9 M8 _ (by rw[YK];exact sr8.mono ex9) (by rw[YK];exact hr9) (by
           rw[ef,YK]
           exact fun v H' α' e h r=>⟨α',e,h,r⟩))
          rw[Yp,Yw,YA,Ye] at ev
          refine wpAny_mono ev (fun yv s10 ⟨v,H10,I10,r10,α10,ex10,hr10,rp10⟩=> ?_) (fun _ _ z=>by rw[<- hX] at z;exact z)
          cases em:M10[M2.length]? with
          |none=>rw[em] at en;cases en
          |some so=>
           cases so with
           |lst ds=>
            rw[em] at en
            simp only at en
            by_cases cz:ds.length < 10000000
            ·rw[if_pos cz] at en
             have aD10:=ex10.get (ex9.get (ex5.get aD))
             obtain ⟨xs,g1,g2⟩:=hr10.at aD10 em
             have ap:=ZcI (X:=Y) _ s10 σ8 H10 (.ref D) [v] (.ref D) [yv] (fun _ H'=>H'=upd H10 D (.lst (xs ++ [v]))) I10 rfl (.cons r10 .nil) ⟨D,xs,v,rfl,rfl,g1,by rw[g2.length];exact Nat.lt_of_lt_of_le cz (by decide),rfl⟩
             rw[Yp,Yw,YA] at ap
             refine wpAny_mono ap (fun _ s11 ⟨v11,H11,I11,_,z11⟩=> ?_) (fun _ _ z=>by rw[<- hX] at z;exact z)
             subst z11
             obtain ⟨a1,a2,a3⟩:=again I11
             have exw:Ext X.K H10 (upd H10 D (.lst (xs ++ [v]))) α10 α10:=Ext.wr g1
             exact ⟨n,Nat.lt_succ_self n,i + 1,σ8,ρ6,_,α10,_,a1,a2,a3,((sr8.mono ex9).mono ex10).mono exw,hr10.wr aD10 g1 (g2.append (.cons rp10 .nil)),((ex5.trans ex9).trans ex10).trans exw,en⟩
            ·rw[if_neg cz] at en
             cases en
       rcases tst with ⟨rfl,ec⟩ | ⟨e,rfl,tt',ptt,qtt⟩
       ·refine wpAny_tests_nil ?_
        exact after true M5 H8 α5 s8 I8 Ext.refl hr5 (by rw[ec])
       ·refine wpAny_tests_one ?_
        cases ec:c ρ6 M5 with
        |exc x9 M10=>rw[ec] at en;cases en
        |bad=>rw[ec] at en;cases en
        |ok kk M8=>
         have tv':=ptt _ s8 σ8 H8 (fun b H'=>b=kk/\ ∃ α',Ext X.K H8 H' α5 α'/\HR X.K H' α' M8) I8 (qtt σ8 ρ6 H8 α5 M5 _ (by rw[YK];exact sr8) (by rw[YK];exact hr5) (by
          rw[ec,YK]
          exact fun v H' α' e h r=>⟨r,α',e,h⟩))
         rw[Yp,Yw,YA,Ye] at tv'
         refine wpAny_mono tv' (fun b s9 ⟨H9,I9,zb,α9,ex9,hr9⟩=> ?_) (fun _ _ z=>by rw[<- hX] at z;exact z)
         subst zb
         exact after b M8 H9 α9 s9 I9 ex9 hr9 ec
  exact codeAny_compStart_list loop (T.self X.A 0 _ _ _ st4 loop)
end
end DL
end
section
namespace DL
open PySem PySem.Spec PyProof.Rows L2
noncomputable def ZtJ:Bo:=fun x y M=>match x,y with
 | .ref n,.int k=>match M[n]? with
  |some (.lst xs)=>if (-9223372036854775808<=k/\k < 9223372036854775808)/\xs.length * k.toNat<=100000 then .ok (.ref M.length) (M ++ [.lst (List.replicate k.toNat xs).flatten]) else .bad
  |none=> .bad
 |_,_=> .bad
section
variable {X:Cx} {ξ:XK} {a b:Expr} {fa fb:Ev} {pos:Pos}
end
end DL
end
namespace DL
open PySem PySem.Spec L2
open PySem.W
theorem Zf8:typeLookup (.type "list_reverseiterator") "__len__"=pure none:=by rw[typeLookup_type,builtinLookup_eq_fast];kernel_rfl
theorem Zje:typeLookup (.type "list_reverseiterator") "__length_hint__"=pure (some (.builtin "list_reverseiterator.__length_hint__")):=by rw[typeLookup_type,builtinLookup_eq_fast];kernel_rfl
theorem Zlk:isSubtype (.type "list_reverseiterator") (.type "list_reverseiterator")=pure true:=by rw[isSubtype_type];kernel_rfl
theorem ZhE:splitId "list_reverseiterator.__length_hint__"=some ("list_reverseiterator","__length_hint__"):=by decide +kernel
section
variable {prog:Program} {w:World} {A:Around} {E:Value->Shared->Prop} {s:Shared}
theorem Zjf {I:Addr} {Q:Bool->Shared->Prop} (hT:s.TypeIs (.ref I) "list_reverseiterator") (h:Q false s):wpAny (model prog w) A (Builtin.List.listLengthHint (.ref I)) Q E s:=by
 unfold Builtin.List.listLengthHint
 refine wpAny_bind (wpAny_specialOf hT Zf8 ?_)
 show wpAny _ A (specialOf (Value.ref I) (Str.ofString "__length_hint__") >>= _) _ _ _
 refine wpAny_bind (wpAny_specialOf hT Zje ?_)
 simp only[ZhE]
 refine wpAny_bind (wpAny_isInstance hT Zlk ?_)
 exact wpAny_pure h
end
section
variable {prog:Program} {w:World} {A:Around} {s:Shared} {R:Result->Shared->Prop}
variable {I:Addr} {fp wr:List Addr} {G:Array GenState->Array GenState->Prop} {n:Nat} {P:Nat->Value->Prop} {St:Nat->Shared->Prop}
theorem Zf9 (W:WalksS prog w A.in1 I fp wr G n P St) (hT: ∀ i s,St i s->s.TypeIs (.ref I) "list_reverseiterator") (S:Addr) (res:Value) (c₀:Nat) (hst:St 0 s) (hSf:S ∉ fp) (hI:I∈fp)
  (hS:s.heap.get? S=some { cls:= .type "list",data:= .seq #[] c₀ })
  (hR: ∀ s' acc' c',Moved (S :: wr) G s s'->s'.heap.get? S=some { cls:= .type "list",dict:=none,data:= .seq acc' c',slots:= #[] }->ItemsOf P acc' n->R (.ok (.ret res)) s') (hn:n<=sizeLine):
  wpAny (model prog w) A.in1 (Builtin.List.listExtendWith (.ref S) (.ref I) res)
   (fun fin s'=>match fin with | .done f=>R (.ok f) s' | .again c'=>c'.quiet=true/\codeAny (model prog w) A c' R s') (fun e s'=>R (.error e) s') s:=by
 have hSI:S≠I:=fun e=>hSf (e ▸ hI)
 unfold Builtin.List.listExtendWith
 refine wpAny_bind (wpAny_typeOf (hT 0 _ hst) ?_)
 have h1:Builtin.List.listSameRef (.ref S) (.ref I)=false:=by simp[Builtin.List.listSameRef,hSI]
 have h2:(Value.type "list_reverseiterator" == Value.type "list")=false:=by decide
 have h3:(Value.type "list_reverseiterator" == Value.type "tuple")=false:=by decide
 simp only[h1,h2,h3,Bool.or_false,Bool.false_eq_true,if_false]
 refine wpAny_bind (W.self 0 _ _ _ hst ?_)
 refine wpAny_bind (wpAny_holding ?_)
 refine Zjf (hT 0 _ hst) ?_
 refine wpAny_pure ⟨plainId_quiet F.plain_extend_loop _,codeAny_extend_loopS W hn _ hSf _ n 0 _ _ _ rfl (Nat.zero_le _) hst hS (ItemsOf.nil P) fun s' acc' c' hm hS' hacc=> ?_⟩
 exact hR s' acc' c' hm hS' hacc
theorem ZdA (W:WalksS prog w A.in1 I fp wr G n P St) (hT: ∀ i s,St i s->s.TypeIs (.ref I) "list_reverseiterator") (S:Addr) (hst:St 0 s) (hSf:S ∉ fp) (hI:I∈fp)
  (hS:s.heap.get? S=some { cls:= .type "list",data:= .seq #[] })
  (hR: ∀ s' acc' c',Moved (S :: wr) G s s'->s'.heap.get? S=some { cls:= .type "list",dict:=none,data:= .seq acc' c',slots:= #[] }->ItemsOf P acc' n->R (.ok (.ret .none)) s') (hn:n<=sizeLine):
  wpAny (model prog w) A.in1 (Builtin.«list.__init__» ⟨[.ref S,.ref I],[]⟩)
   (fun fin s'=>match fin with | .done f=>R (.ok f) s' | .again c'=>c'.quiet=true/\codeAny (model prog w) A c' R s') (fun e s'=>R (.error e) s') s:=by
 show wpAny _ A.in1 (do let old <- Builtin.List.listItems (.ref S);Builtin.List.listUpdate (.ref S) (fun _=> #[]);letGo old.toList.reverse;Builtin.List.listExtendWith (.ref S) (.ref I) .none) _ _ s
 refine wpAny_bind ?_
 unfold Builtin.List.listItems
 refine wpAny_bind (wpAny_seqItems hS rfl (wpAny_pure ?_))
 show wpAny _ A.in1 (updateSeq S (fun _=> #[]) >>= fun _=>letGo (#[]:Array Value).toList.reverse >>= fun _=>Builtin.List.listExtendWith (.ref S) (.ref I) .none) _ _ s
 refine wpAny_bind (wpAny_updateSeq hS rfl ?_)
 have hS₂:=Heap.get?_update_self (Obj.mapSeq (fun _=>(#[]:Array Value))) hS rfl
 have oth: ∀ b o,b≠S->s.heap.get? b=some o->(s.heap.update S (Obj.mapSeq (fun _=>(#[]:Array Value)))).get? b=some o:=
  fun b o hb e=>(Heap.get?_update_other _ _ (Ne.symm hb)).trans e
 refine wpAny_bind (wpAny_letGo ?_)
 refine Zf9 W hT S .none _ (W.frame 0 s _ s.toks hst (Nat.le_refl _) fun b hb o e=>oth b o (fun h=>hSf (h ▸ hb)) e) hSf hI hS₂ (fun s' acc' c' hm hS' hacc=> ?_) hn
 exact hR s' acc' c' (Moved.trans W.gtrans ((Moved.refl W.grefl).then_heap (Nat.le_refl _) fun b o hb e=>oth b o (fun h=>hb (h ▸ List.mem_cons_self)) e) hm) hS' hacc
end
section
variable {prog:Program} {w:World} {A:Around} {E:Value->Shared->Prop} {s:Shared}
variable {I:Addr} {fp wr:List Addr} {G:Array GenState->Array GenState->Prop} {n:Nat} {P:Nat->Value->Prop} {St:Nat->Shared->Prop}
theorem ZdB {Q:Value->Shared->Prop} (W:WalksS prog w A.in1.in1 I fp wr G n P St) (hT: ∀ i s,St i s->s.TypeIs (.ref I) "list_reverseiterator") (hst:St 0 s) (hfp: ∀ b∈fp,b < s.heap.objs.size) (hI:I∈fp)
  (hQ: ∀ s' acc' c',Moved (s.heap.objs.size :: wr) G { s with heap:=s.heap.push { cls:= .type "list",data:= .seq #[] } } s'->
   s'.heap.get? s.heap.objs.size=some { cls:= .type "list",dict:=none,data:= .seq acc' c',slots:= #[] }->ItemsOf P acc' n->Q (.ref s.heap.objs.size) s') (hn:n<=sizeLine):
  wpAny (model prog w) A (call (.type "list") [.ref I]) Q E s:=by
 have hSf:s.heap.objs.size ∉ fp:=fun hm=>Nat.lt_irrefl _ (hfp _ hm)
 refine callType_codes (Q₁:=fun obj s₁=>obj= .ref s.heap.objs.size/\s₁={ s with heap:=s.heap.push { cls:= .type "list",data:= .seq #[] } }) F.called_list (F.typeCall_list_1 _) F.entry_list_init
  (code_list_new _ ⟨rfl,rfl⟩) fun obj s₁ h₁=> ?_
 obtain ⟨rfl,rfl⟩:=h₁
 have hS:(s.heap.push { cls:= .type "list",data:= .seq #[] }).get? s.heap.objs.size=some { cls:= .type "list",data:= .seq #[] }:=Heap.get?_push_size _ rfl
 refine ⟨⟨_,hS,rfl⟩,F.args_list_init_2 _ _,ZdA W hT _ (W.frame 0 s _ s.toks hst (Nat.le_refl _) fun b _ o e=>Heap.get?_push_of_some _ e) hSf hI hS (fun s' acc' c' hm hS' hacc=> ?_) hn⟩
 exact ⟨rfl,hQ s' acc' c' hm hS' hacc⟩
end
section
variable {X:Cx} {ξ:XK} {a:Expr} {fs:Av} {p1 p2 p3 pos:Pos} {ta:TA}
noncomputable def tLR (K:PySem.W.Frag) (t:TA):TE:=fun σ H Q=>t σ H fun vs H1=> ∃ l xs,vs=[.ref l]/\SqL K H1 l xs/\ ∀ p,H1 p=none->Q (.ref p) (upd H1 p (.lst xs.reverse))
theorem ZhF {its:List Value} {acc:Array Value} (h:ItemsOf (fun i v=>its.toArray[its.toArray.size - 1 - i]?=some v) acc its.toArray.size):acc=its.reverse.toArray:=by
 obtain ⟨hz,hv⟩:=h
 apply Array.ext'
 apply List.ext_getElem?
 intro i
 rw[List.toList_toArray]
 by_cases hi:i < acc.size
 ·have e:acc.toList[i]?=some acc[i]:=by rw[Array.getElem?_toList];exact Array.getElem?_eq_getElem hi
  have:=hv i _ (Array.getElem?_eq_getElem hi)
  rw[e,<- this,List.getElem?_toArray,List.size_toArray,List.getElem?_reverse (by rw[hz,List.size_toArray] at hi;exact hi)]
 ·rw[List.getElem?_eq_none (by rw[Array.length_toList];omega),List.getElem?_eq_none (by rw[hz,List.size_toArray] at hi;rw[List.length_reverse];omega)]
theorem Zqm (hc:X.A.handled=none) (hgl:Gl X "list") (hml:X.mg "list"=none) (hg:Gl X "reversed") (hm:X.mg "reversed"=none) (ha:PA X [a] ta) (hs:starEach [a] X.env=(false,eval a X.env) :: starEach [] X.env:=by rfl) (hpl:(backTo p3 (starEach [] X.env)).any (·.1)=false:=by rfl) (hs1:starEach [.Call (.Name "reversed" p2) [a] [] p3] X.env=(false,eval (.Call (.Name "reversed" p2) [a] [] p3) X.env) :: starEach [] X.env:=by rfl) (hpl1:(backTo pos (starEach [] X.env)).any (·.1)=false:=by rfl):
  PE X (.Call (.Name "list" p1) [.Call (.Name "reversed" p2) [a] [] p3] [] pos) (tLR X.K ta):=by
 intro pins s σ H Q I h
 refine wpAny_Call_Name_kw (ZbW I hgl hml Zdw (PyProof.Rows.callWith_type1 ?_ hs1 hpl1) (by decide) (by decide))
 rw[hs1]
 show wpAny _ _ (spliced ((false,eval (.Call (.Name "reversed" p2) [a] [] p3) X.env) :: backTo pos (starEach [] X.env))) _ _ s
 refine Calls.spliced_cons ?_
 refine wpAny_Call_Name_kw (ZbW I hg hm ZcP (PyProof.Rows.callWith_type1 (thn (ha p3 pins s σ H _ I h) fun us s1 ⟨vs,H1,I1,r1,q1⟩=> ?_) hs hpl) (by decide) (by decide))
 obtain ⟨l,xs,rfl,hq,q⟩:=q1
 obtain ⟨u,rfl,ru⟩:=Zcu r1
 cases ru
 obtain ⟨its,rv,pl,hz⟩:=I1.list hq
 have hll:l < s1.heap.objs.size:=by
  obtain ⟨o,ho,_⟩:=pl.isList
  exact Heap.lt_size ho
 refine call_reversed_list pl.isList (Calls.spliced_nil ?_)
 have W:=(PySem.Walks.listRev (prog:=X.prog) (w:=X.w) (A:=X.A.in1.in1) hc s1.heap.objs.size l (Nat.ne_of_lt hll) its.toArray).toS
 have hsz:its.toArray.size<=sizeLine:=by rw[List.size_toArray,<- rv.length];exact hz
 refine ZdB W (fun i s x=>x.2.1.typeIs) ⟨Nat.zero_le _,⟨_,Heap.get?_push_size _ rfl,rfl,?_⟩,?_⟩ ?_ (by simp) (fun s' acc c hmv hS hit=> ?_) hsz
 ·show Data.fields #[.ref l,rawInt ((its.toArray.size:Int) - 1)]=_
  rw[show (its.toArray.size:Int) - 1 - ((0:Nat):Int)=(its.toArray.size:Int) - 1 by omega]
 ·exact pl.isList.at fun o e=>Heap.get?_push_of_some _ e
 ·intro b hb
  have:b=s1.heap.objs.size\/b=l:=by simpa using hb
  have hz2:(s1.heap.push (revObj l ((its.toArray.size:Int) - 1))).objs.size=s1.heap.objs.size + 1:=by simp[Heap.push]
  show b < (s1.heap.push (revObj l ((its.toArray.size:Int) - 1))).objs.size
  rw[hz2]
  rcases this with rfl | rfl
  ·exact Nat.lt_succ_self _
  ·exact Nat.lt_succ_of_lt hll
 ·have ea:=ZhF hit
  subst ea
  have hz2:(s1.heap.push (revObj l ((its.toArray.size:Int) - 1))).objs.size=s1.heap.objs.size + 1:=by simp[Heap.push]
  have K: ∀ b u,s1.heap.get? b=some u->s'.heap.get? b=some u:=by
   intro b u hb
   have hlt:=Heap.lt_size hb
   refine hmv.heap b u ?_ (Heap.get?_push_of_some _ (Heap.get?_push_of_some _ hb))
   intro hmem
   have:b=s1.heap.objs.size + 1\/b=s1.heap.objs.size:=by
    simp only[List.mem_cons,List.not_mem_nil,or_false] at hmem
    rcases hmem with e | e
    ·exact .inl (e.trans hz2)
    ·exact .inr e
   rcases this with e | e
   ·exact absurd (e ▸ hlt) (Nat.not_lt.mpr (Nat.le_succ _))
   ·exact absurd (e ▸ hlt) (Nat.lt_irrefl _)
  have es:s'={ s1 with heap:=s'.heap,toks:=s'.toks }:=by
   obtain ⟨h1,g1,d1,t1,o1⟩:=s1
   obtain ⟨h2,g2,d2,t2,o2⟩:=s'
   have e1:g2=g1:=hmv.gens
   have e2:d2=d1:=hmv.drawn
   have e3:o2=o1:=hmv.os
   subst e1 e2 e3
   rfl
  have hS':s'.heap.get? (s1.heap.objs.size + 1)=some { cls:= .type "list",dict:=none,data:= .seq its.reverse.toArray c,slots:= #[] }:=by
   rw[<- hz2];exact hS
  show EP X pins σ Q (.ref (s1.heap.push (revObj l ((its.toArray.size:Int) - 1))).objs.size) s'
  rw[hz2,es]
  refine ⟨.ref _,_,I1.laid (t':=s'.toks) (o:= .lst xs.reverse) K (Nat.le_succ _) ?_,rfl,q _ (I1.hok.fresh (Nat.le_succ _))⟩
  exact ⟨by rw[List.length_reverse];exact hz,its.reverse,c,rv.reverse,hS'⟩
noncomputable def bLR:List D->Sto->Out D:=fun ds M1=>match ds with
 | [.ref n]=>(match M1[n]? with | some (.lst xs)=> .ok (.ref M1.length) (M1 ++ [.lst xs.reverse]) | none=> .bad)
 | [.rol xs]=> .ok (.ref M1.length) (M1 ++ [.lst xs.reverse])
 |_=> .bad
theorem Zqn (hc:X.A.handled=none) (hml:X.mg "list"=none) (hm:X.mg "reversed"=none) (ha:DA X ξ [a] fs) (hgl:Gl X "list":=by rfl) (hg:Gl X "reversed":=by rfl) (hs:starEach [a] X.env=(false,eval a X.env) :: starEach [] X.env:=by rfl) (hpl:(backTo p3 (starEach [] X.env)).any (·.1)=false:=by rfl) (hs1:starEach [.Call (.Name "reversed" p2) [a] [] p3] X.env=(false,eval (.Call (.Name "reversed" p2) [a] [] p3) X.env) :: starEach [] X.env:=by rfl) (hpl1:(backTo pos (starEach [] X.env)).any (·.1)=false:=by rfl):
  DE X ξ (.Call (.Name "list" p1) [.Call (.Name "reversed" p2) [a] [] p3] [] pos) (Zj bLR fs):=by
 obtain ⟨ta,pa,qa⟩:=ha
 refine ⟨_,Zqm hc hgl hml hg hm pa hs hpl hs1 hpl1,fun σ ρ H α M Q s hh w=>qa σ ρ H α M _ s hh (OG.seq w fun ds M1 vs H1 α1 e1 h1 r1 w1=> ?_)⟩
 match r1 with
 | .nil=>exact w1.elim
 | .cons r (.cons _ _)=>cases r<;>exact w1.elim
 | .cons r .nil=>
  cases r with
  | @rol a xs ds hp rp=>
   have w2:OP X.K H1 α1 ξ Q (.ok (.ref M1.length) (M1 ++ [.lst ds.reverse])):=w1
   exact ⟨a,xs,rfl,hp.sq,fun l hl=>w2 _ _ (α1 ++ [l]) (Ext.new hl) (h1.new hl rp.rev) (.ref ⟨h1.last l,Kn.lst Zr⟩)⟩
  | @ref a n hp=>
   cases em:M1[n]? with
   |none=>simp only[bLR,em] at w1;exact w1.elim
   |some so=>
    cases so with
    |lst es=>
     simp only[bLR,em] at w1
     obtain ⟨xs,g1,g2⟩:=h1.at hp em
     exact ⟨a,xs,rfl,SqL.of g1,fun l hl=>w1 _ _ (α1 ++ [l]) (Ext.new hl) (h1.new hl g2.rev) (.ref ⟨h1.last l,Kn.lst Zr⟩)⟩
  |_=>exact w1.elim
end
end DL
section
namespace DL3
open PySem PySem.Spec PyProof.Rows L2 DL
open Sem (wp)
section
variable {prog:Program} {w:World} {A:Around} {E:Value->Shared->Prop} {s:Shared}
end
section
variable {prog:Program} {w:World} {A:Around} {E:Value->Shared->Prop} {s:Shared}
end
section
variable {X:Cx} {ξ:XK} {y1 y2 y3:Expr} {elts:List Expr} {k0:Nat} {tp:Pos} {fs:Av} {p pos:Pos} {ta:TA}
end
end DL3
end
section
namespace DL4
open PySem PySem.Spec PyProof.Rows L2 DL
open Sem (wp)
section
variable {prog:Program} {w:World} {A:Around} {E:Value->Shared->Prop} {s:Shared}
end
section
variable {prog:Program} {w:World} {A:Around} {E:Value->Shared->Prop} {s:Shared}
end
section
variable {X:Cx} {ξ:XK} {y1 y2 y3 y4:Expr} {elts:List Expr} {k0:Nat} {tp:Pos} {fs:Av} {p pos:Pos} {ta:TA}
end
end DL4
end
section
namespace PySem.SeqAt
open AutoSeq1 (wpAny_loadPart')
open MeetsSeq MeetsSeq2 MeetsSeq3 SeqRoads2
noncomputable def Zqo (A:Around) (s:Shared) (y x:Value) (b:Bool):Prop:=
 ∀ (prog:Program) (w:World) (E:Value->Shared->Prop) (Q:Value->Shared->Prop),Q (.bool b) s->wpAny (model prog w) A (richCompare .Lt y x) Q E s
noncomputable def lxI (e f:Nat->Bool) (m n:Nat):Nat->Nat->Bool
 |0,_=>decide (m < n)
 |k + 1,i=>if e i=true then lxI e f m n k (i + 1) else f i
theorem ZhG (l b:Addr) (items items2:Array Value) (n n2:Nat) (dd dd2:Option Addr) (sl sl2:Array (Option Value)) (e f:Nat->Bool) (k:Nat):
  ∀ i:Nat,min items.size items2.size - i=k->Meets (Builtin.«list.__eq__.loop» ⟨[.ref l,.ref b,rawInt i,rawInt 0],[]⟩)
   (fun A R s=>s.heap.get? l=some { cls:= .type "list",dict:=dd,data:= .seq items n,slots:=sl }/\s.heap.get? b=some { cls:= .type "list",dict:=dd2,data:= .seq items2 n2,slots:=sl2 }/\
    (∀ j (h1:j < items.size) (h2:j < items2.size),EqAt A.in1 s items[j] items2[j] (e j))/\(∀ j (h1:j < items.size) (h2:j < items2.size),e j=false->Zqo A.in1 s items[j] items2[j] (f j))/\
    R (.ok (.ret (.bool (lxI e f items.size items2.size k i)))) s):=by
 induction k with
 |zero=>
  intro i hk prog w A R s h
  obtain ⟨hp,g,d,tk,os⟩:=s;obtain ⟨hl,hb,he,hf,h⟩:=h
  wp_walk using wpAny_loadPart' hl,wpAny_loadPart' hb
  have hor:items[((i:Nat):Int).toNat]?=none\/items2[((i:Nat):Int).toNat]?=none:=by
   rcases Nat.lt_or_ge i items.size with c | c
   ·exact .inr (by simp;omega)
   ·exact .inl (by simp;omega)
  rcases hor with hi1 | hi2
  ·rw[hi1]
   wp_walk using wpAny_loadPart' hl,wpAny_loadPart' hb
   exact h
  ·rw[hi2]
   cases hi1:items[((i:Nat):Int).toNat]? with
   |none=>
    wp_walk using wpAny_loadPart' hl,wpAny_loadPart' hb
    exact h
   |some x=>
    wp_walk using wpAny_loadPart' hl,wpAny_loadPart' hb
    exact h
 |succ k ih=>
  intro i hk prog w A R s h
  obtain ⟨hp,g,d,tk,os⟩:=s;obtain ⟨hl,hb,he,hf,h⟩:=h
  wp_walk using wpAny_loadPart' hl,wpAny_loadPart' hb
  have hlt:i < items.size:=by omega
  have hlt2:i < items2.size:=by omega
  have hi1:items[((i:Nat):Int).toNat]?=some items[i]:=by simp[hlt]
  have hi2:items2[((i:Nat):Int).toNat]?=some items2[i]:=by simp[hlt2]
  have hc:((i:Int) + 1)=((i + 1:Nat):Int):=by push_cast;rfl
  rw[lxI] at h
  rw[hi1,hi2]
  refine wpAny_bind (he i hlt hlt2 prog w _ _ ?_)
  cases hb':e i with
  |true=>
   rw[if_pos hb'] at h
   wp_walk
   rw[hc]
   exact ⟨plainId_quiet plain_eq_loop _,codeAny_builtin entry_eq_loop (by
    rw[Around.under_plainId plain_eq_loop _]
    exact ih (i + 1) (by omega) prog w A R _ ⟨hl,hb,he,hf,h⟩)⟩
  |false=>
   rw[if_neg (by rw[hb'];decide)] at h
   wp_walk using wpAny_loadPart' hl,wpAny_loadPart' hb
   rw[hi1,hi2]
   refine wpAny_bind (hf i hlt hlt2 hb' prog w _ _ ?_)
   wp_walk
   exact h
theorem Zeh (l b:Addr) (items items2:Array Value) (n n2:Nat) (dd dd2:Option Addr) (sl sl2:Array (Option Value)) (e f:Nat->Bool):
  Meets (Builtin.«list.__lt__» ⟨[.ref l,.ref b],[]⟩)
   (fun A R s=>s.heap.get? l=some { cls:= .type "list",dict:=dd,data:= .seq items n,slots:=sl }/\s.heap.get? b=some { cls:= .type "list",dict:=dd2,data:= .seq items2 n2,slots:=sl2 }/\
    (∀ j (h1:j < items.size) (h2:j < items2.size),EqAt A.in1 s items[j] items2[j] (e j))/\(∀ j (h1:j < items.size) (h2:j < items2.size),e j=false->Zqo A.in1 s items[j] items2[j] (f j))/\
    R (.ok (.ret (.bool (lxI e f items.size items2.size (min items.size items2.size) 0)))) s):=by
 intro prog w A R s h
 obtain ⟨hp,g,d,tk,os⟩:=s;obtain ⟨hl,hb,he,hf,h⟩:=h
 have f3:=AutoSeq1.sub_list_list
 wp_walk using wpAny_loadPart' hl,wpAny_loadPart' hb
 exact ⟨plainId_quiet plain_eq_loop _,codeAny_builtin entry_eq_loop (by
  rw[Around.under_plainId plain_eq_loop _]
  exact ZhG l b items items2 n n2 dd dd2 sl sl2 e f _ 0 rfl prog w A R _ ⟨hl,hb,he,hf,h⟩)⟩
end PySem.SeqAt
namespace DL
open PySem PySem.Spec PyProof.Rows L2
open PySem.SeqAt
noncomputable def Zbl:List D->Option (List Int)
 | []=>some []
 | .int i :: r=>match Zbl r with | some is=>some (i :: is) | none=>none
 |_ :: _=>none
noncomputable def ltE:D->D->Option Bool
 | .int a,.int b=>some (decide (a < b))
 | .tup xs,.tup ys=>(match Zbl xs,Zbl ys with | some a,some b=>some (HT.Zbu a b) | _,_=>none)
 |_,_=>none
noncomputable def ltL:List D->List D->Option Bool
 | [],[]=>some false
 | [],_ :: _=>some true
 |_ :: _,[]=>some false
 |x :: xs,y :: ys=>match ltE x y with
  |none=>none
  |some b=>if eqX x y=true then ltL xs ys else some b
where eqX:D->D->Bool
 | .int a,.int b=>a == b
 | .tup xs,.tup ys=>Zbl xs == Zbl ys
 |_,_=>false
theorem Zei {M:Sto} {n:Nat}: ∀ {xs ys:List D} {a b:List Int},Zbl xs=some a->Zbl ys=some b->eqL (eqF (n + 1) M) xs ys=some (a == b)
 | [],[],a,b,h1,h2=>by cases h1;cases h2;rfl
 | [],y :: ys,a,b,h1,h2=>by
  cases h1
  cases y with
  |int i=>
   unfold Zbl at h2
   split at h2
   ·cases h2;rfl
   ·cases h2
  |_=>cases h2
 |x :: xs,[],a,b,h1,h2=>by
  cases h2
  cases x with
  |int i=>
   unfold Zbl at h1
   split at h1
   ·cases h1;rfl
   ·cases h1
  |_=>cases h1
 |x :: xs,y :: ys,a,b,h1,h2=>by
  cases x with
  |int i=>
   cases y with
   |int j=>
    unfold Zbl at h1 h2
    split at h1
    ·rename_i is e1
     split at h2
     ·rename_i js e2
      cases h1
      cases h2
      rw[eqL,Zei e1 e2]
      show some ((i == j) && (is == js))=_
      rfl
     ·cases h2
    ·cases h1
   |_=>cases h2
  |_=>cases h1
theorem Zj4 {M:Sto} {n:Nat} {x y:D} {b:Bool} (h:ltE x y=some b):eqF (n + 2) M x y=some (ltL.eqX x y):=by
 cases x with
 |int i=>
  cases y with
  |int j=>rfl
  |_=>cases h
 |tup xs=>
  cases y with
  |tup ys=>
   cases e1:Zbl xs with
   |none=>simp only[ltE,e1] at h;cases h
   |some a=>
    cases e2:Zbl ys with
    |none=>simp only[ltE,e1,e2] at h;cases h
    |some c=>
     show eqL (eqF (n + 1) M) xs ys=_
     rw[Zei e1 e2]
     simp only[ltL.eqX,e1,e2]
     rfl
  |_=>cases h
 |_=>cases h
theorem ZcQ {K:PySem.W.Frag} {H:Hp} {α:List Addr}: ∀ {vs:List V} {ds:List D} {a:List Int},Reps K H α vs ds->Zbl ds=some a->vs=a.map V.int
 |_,_,a,.nil,e=>by cases e;rfl
 |_,_,a,.cons (d:=d) (ds:=ds) r t,e=>by
  cases r with
  |int i=>
   unfold Zbl at e
   split at e
   ·rename_i is e1
    cases e
    rw[ZcQ t e1]
    rfl
   ·cases e
  |_=>cases e
section
variable {X:Cx} {pins:List (Addr × Obj)} {σ:L2.St} {H:Hp} {s:Shared} {α:List Addr} {M:Sto}
theorem Zny (I:Inv X pins σ H s) {A:Around} (hu:A.units < cLine) {x y:D} {v w:V} {u z:Value} {b:Bool} (h:ltE x y=some b) (r1:Rep X.K H α v x) (r2:Rep X.K H α w y) (ru:ZU v u) (rz:ZU w z):Zqo A s u z b:=by
 intro prog w' E Q q
 cases r1 with
 |int i=>
  cases r2 with
  |int j=>
   cases h
   obtain ⟨t,rfl⟩:=ru
   obtain ⟨t',rfl⟩:=rz
   exact lt_int q
  |_=>cases h
 | @tup p xs ds hp rp=>
  cases r2 with
  | @tup p2 xs2 ds2 hp2 rp2=>
   cases e1:Zbl ds with
   |none=>simp only[ltE,e1] at h;cases h
   |some a=>
    cases e2:Zbl ds2 with
    |none=>simp only[ltE,e1,e2] at h;cases h
    |some c=>
     simp only[ltE,e1,e2,Option.some.injEq] at h
     subst h
     cases ru
     cases rz
     have h1:=ZcQ rp e1
     have h2:=ZcQ rp2 e2
     subst h1 h2
     obtain ⟨its,q1,p1,_⟩:=I.tuple (SqT.of hp)
     obtain ⟨its2,q2,p2',_⟩:=I.tuple (SqT.of hp2)
     exact HT.ZfV p1 p2' (Zdd q1) (Zdd q2) hu q
  |_=>cases h
 |_=>cases h
theorem ZhH: ∀ {xs ys:List D} {b:Bool},ltL xs ys=some b-> ∀ (e f:Nat->Bool) (i m n:Nat),(∀ j x y,xs[j]?=some x->ys[j]?=some y->(ltE x y).isSome=true->e (i + j)=ltL.eqX x y/\(ltL.eqX x y=false->ltE x y=some (f (i + j))))->m=i + xs.length->n=i + ys.length->lxI e f m n (min xs.length ys.length) i=b
 | [],[],b,h,e,f,i,m,n,hh,hm,hn=>by cases h;simp[lxI,hm,hn]
 | [],y :: ys,b,h,e,f,i,m,n,hh,hm,hn=>by cases h;simp[lxI,hm,hn]
 |x :: xs,[],b,h,e,f,i,m,n,hh,hm,hn=>by cases h;simp[lxI,hm,hn]
 |x :: xs,y :: ys,b,h,e,f,i,m,n,hh,hm,hn=>by
  rw[ltL] at h
  cases el:ltE x y with
  |none=>rw[el] at h;cases h
  |some c=>
   rw[el] at h
   simp only at h
   obtain ⟨h1,h2⟩:=hh 0 x y rfl rfl (by rw[el];rfl)
   rw[Nat.add_zero] at h1 h2
   rw[List.length_cons,List.length_cons,Nat.succ_min_succ,lxI,h1]
   by_cases q:ltL.eqX x y=true
   ·rw[if_pos q] at h ⊢
    exact ZhH h e f (i + 1) m n (fun j a b' ha hb hs=>by
     have:=hh (j + 1) a b' (by simpa using ha) (by simpa using hb) hs
     rw[show i + (j + 1)=i + 1 + j by omega] at this
     exact this) (by rw[hm,List.length_cons];omega) (by rw[hn,List.length_cons];omega)
   ·rw[if_neg q] at h ⊢
    cases h
    have:=h2 (by simpa using q)
    rw[el] at this
    exact (Option.some.inj this).symm
noncomputable def Za6:List D->List D->Bool
 |x :: xs,y :: ys=>(ltE x y).isSome && Za6 xs ys
 |_,_=>true
theorem ZbB: ∀ {xs ys:List D},Za6 xs ys=true-> ∀ (j:Nat) x y,xs[j]?=some x->ys[j]?=some y->(ltE x y).isSome=true
 | [],_,_,j,x,y,hx,_=>by simp at hx
 |_ :: _,[],_,j,x,y,_,hy=>by simp at hy
 |x0 :: xs,y0 :: ys,h,j,x,y,hx,hy=>by
  rw[Za6,Bool.and_eq_true] at h
  cases j with
  |zero=>simp at hx hy;subst hx hy;exact h.1
  |succ j=>exact ZbB h.2 j x y (by simpa using hx) (by simpa using hy)
noncomputable def Zsp (X:Cx):R2:=fun v w H Q=> ∃ α M p q xs ys ds es b,HR X.K H α M/\v= .ref p/\w= .ref q/\H p=some (.lst xs)/\H q=some (.lst ys)/\Reps X.K H α xs ds/\Reps X.K H α ys es/\Za6 ds es=true/\ltL ds es=some b/\Q (.bl b) H
theorem ZcR: ∀ {xs:List V} {us:List Value} {j:Nat} {u:Value},ZW xs us->us[j]?=some u-> ∃ x,xs[j]?=some x/\ZU x u
 | [],us,j,u,h,e=>by cases h;simp at e
 |x :: xs,us,j,u,h,e=>by
  cases h with
  |cons h1 h2=>
   cases j with
   |zero=>simp at e;subst e;exact ⟨x,rfl,h1⟩
   |succ j=>simp at e;obtain ⟨y,g1,g2⟩:=ZcR h2 e;exact ⟨y,by simpa using g1,g2⟩
theorem ZcS {K:PySem.W.Frag}: ∀ {xs:List V} {ds:List D} {j:Nat} {x:V},Reps K H α xs ds->xs[j]?=some x-> ∃ d,ds[j]?=some d/\Rep K H α x d
 |_,_,j,x,.nil,e=>by simp at e
 |_,_,0,x,.cons r _,e=>by simp at e;subst e;exact ⟨_,rfl,r⟩
 |_,_,j + 1,x,.cons _ t,e=>by
  obtain ⟨d,g1,g2⟩:=ZcS (j:=j) t (by simpa using e)
  exact ⟨d,by simpa using g1,g2⟩
theorem Znz (hu:X.A.units + 64 < cLine):OpR X (compareOp .Lt) (Zsp X):=by
 intro pins s σ H x y v u Q I rx ry hh
 obtain ⟨α,M,p,q,xs,ys,ds,es,b,hr,e1,e2,hp,hq,r1,r2,hc,hl,k⟩:=hh
 subst e1 e2
 cases (show v=Value.ref p from rx)
 cases (show u=Value.ref q from ry)
 obtain ⟨its,v1,p1,_⟩:=I.list (SqL.of hp)
 obtain ⟨its2,v2,p2,_⟩:=I.list (SqL.of hq)
 obtain ⟨⟨cls,dd,data,sl⟩,ho,hcl,n,hd⟩:=id p1.isList
 obtain ⟨⟨cls2,dd2,data2,sl2⟩,ho2,hcl2,n2,hd2⟩:=id p2.isList
 simp only at hcl hd hcl2 hd2
 subst hcl hd hcl2 hd2
 let e:Nat->Bool:=fun j=>match ds[j]?,es[j]? with | some a,some c=>ltL.eqX a c | _,_=>false
 let f:Nat->Bool:=fun j=>match ds[j]?,es[j]? with | some a,some c=>(ltE a c).getD false | _,_=>false
 have both: ∀ j (h1:j < its.toArray.size) (h2:j < its2.toArray.size),∃ a c vx vy,ds[j]?=some a/\es[j]?=some c/\Rep X.K H α vx a/\Rep X.K H α vy c/\ZU vx its.toArray[j]/\ZU vy its2.toArray[j]:=by
  intro j h1 h2
  obtain ⟨vx,g1,g2⟩:=ZcR (j:=j) (u:=its.toArray[j]) v1 (by simp at h1;simp[h1])
  obtain ⟨vy,g3,g4⟩:=ZcR (j:=j) (u:=its2.toArray[j]) v2 (by simp at h2;simp[h2])
  obtain ⟨a,g5,g6⟩:=ZcS r1 g1
  obtain ⟨c,g7,g8⟩:=ZcS r2 g3
  exact ⟨a,c,vx,vy,g5,g7,g6,g8,g2,g4⟩
 have lx:lxI e f its.toArray.size its2.toArray.size (min its.toArray.size its2.toArray.size) 0=b:=by
  have l1:its.toArray.size=ds.length:=by rw[List.size_toArray,<- v1.length,r1.length]
  have l2:its2.toArray.size=es.length:=by rw[List.size_toArray,<- v2.length,r2.length]
  rw[l1,l2]
  refine ZhH hl e f 0 _ _ (fun j a c ha hb hs=> ?_) (by omega) (by omega)
  rw[Nat.zero_add]
  refine ⟨by show (match ds[j]?,es[j]? with | some a,some c=>ltL.eqX a c | _,_=>false)=_;rw[ha,hb],fun _=> ?_⟩
  show _=some (match ds[j]?,es[j]? with | some a,some c=>(ltE a c).getD false | _,_=>false)
  obtain ⟨b',hb'⟩:=Option.isSome_iff_exists.mp hs
  simp[ha,hb,hb']
 refine richCompare_meets_room (op:= .Lt) ⟨_,ho,rfl⟩ ⟨_,ho2,rfl⟩ F.slot_list_lt F.entry_list_lt (F.args_list_lt_2 _ _) (Zeh p q its.toArray its2.toArray n n2 dd dd2 sl sl2 e f)
  ⟨ho,ho2,fun j h1 h2=> ?_,fun j h1 h2 ej=> ?_,?_⟩ (by omega)
 ·obtain ⟨a,c,vx,vy,g1,g2,g3,g4,g5,g6⟩:=both j h1 h2
  have hs:=ZbB hc j a c g1 g2
  obtain ⟨b',hb'⟩:=Option.isSome_iff_exists.mp hs
  have ee:e j=ltL.eqX a c:=by show (match ds[j]?,es[j]? with | some a,some c=>ltL.eqX a c | _,_=>false)=_;rw[g1,g2]
  rw[ee]
  exact (eq3 I hr 12 a c vx vy _ _ _ _ (by rw[Around.in1_units];omega) (Zj4 (n:=10) hb') g3 g4 g5 g6).1
 ·obtain ⟨a,c,vx,vy,g1,g2,g3,g4,g5,g6⟩:=both j h1 h2
  have hs:=ZbB hc j a c g1 g2
  obtain ⟨b',hb'⟩:=Option.isSome_iff_exists.mp hs
  have ff:f j=b':=by show (match ds[j]?,es[j]? with | some a,some c=>(ltE a c).getD false | _,_=>false)=_;rw[g1,g2];simp only;rw[hb'];rfl
  rw[ff]
  exact Zny I (by rw[Around.in1_units];omega) hb' g3 g4 g5 g6
 ·rw[lx]
  show Value.bool b≠Value.notImplemented/\EP X pins σ Q (.bool b) s
  exact ⟨(fun z=>nomatch z),(⟨V.bl b,H,I,rfl,k⟩:EP X pins σ Q (.bool b) s)⟩
noncomputable def dLtL:Bo:=fun x y M=>match x,y with
 | .ref n,.ref m=>(match M[n]?,M[m]? with | some (.lst ds),some (.lst es)=>if Za6 ds es=true then (match ltL ds es with | some b=> .ok (.bl b) M | none=> .bad) else .bad | _,_=> .bad)
 |_,_=> .bad
theorem ZhI {x y:D} {M:Sto} (h:dLtL x y M≠ .bad): ∃ n m,x= .ref n/\y= .ref m:=by
 unfold dLtL at h
 split at h
 ·rename_i n m;exact ⟨n,m,rfl,rfl⟩
 ·exact absurd rfl h
theorem ZnA {ξ:XK}:BO X ξ (Zsp X) dLtL:=by
 intro H α M v w x y Q h r1 r2 q
 obtain ⟨n,m,rfl,rfl⟩:=ZhI (x:=x) (y:=y) (M:=M) fun z=>by rw[z] at q;exact q.elim
 cases r1 with
 | @ref p n hp=>
  cases r2 with
  | @ref p2 m hp2=>
   simp only[dLtL] at q
   cases e1:M[n]? with
   |none=>simp only[e1] at q;exact q.elim
   |some so=>
    cases e2:M[m]? with
    |none=>cases so;simp only[e1,e2] at q;exact q.elim
    |some so2=>
     cases so with
     |lst ds=>
      cases so2 with
      |lst es=>
       simp only[e1,e2] at q
       by_cases hc:Za6 ds es=true
       ·rw[if_pos hc] at q
        cases hl:ltL ds es with
        |none=>simp only[hl] at q;exact q.elim
        |some b=>
         simp only[hl] at q
         obtain ⟨xs,g1,g2⟩:=h.at hp e1
         obtain ⟨ys,g3,g4⟩:=h.at hp2 e2
         exact ⟨α,M,p,p2,xs,ys,ds,es,b,h,rfl,rfl,g1,g3,g2,g4,hc,hl,q _ H α Ext.refl h (.bl b)⟩
       ·rw[if_neg hc] at q
        exact q.elim
end
end DL
end
section
namespace PySem
open Sem (wp)
section
variable {prog:Program} {w:World} {A:Around} {R:Result->Shared->Prop} {I:Addr} {fp wr:List Addr} {P:Nat->Value->Prop} {St:Nat->Heap->Prop}
theorem Zj5 (W:Walks prog w A.in1 I fp wr 2 P St) (S:Addr) (hSf:S ∉ fp) {s:Shared} {vb:Value} {c:Nat} (hst:St 2 s.heap)
  (hS:s.heap.get? S=some { cls:= .type "list",dict:=none,data:= .seq #[vb,vb] c,slots:= #[] })
  (hR: ∀ h' tk,(∀ b o,b ∉ wr->b≠S->s.heap.get? b=some o->h'.get? b=some o)->R (.ok (.ret vb)) { s with heap:=h',toks:=tk }):
  codeAny (model prog w) A (.builtin "min.loop" ⟨[.ref I,.none,.ref S],[]⟩) R s:=by
 have hSw:S ∉ wr:=fun h=>hSf (W.sub _ h)
 refine codeAny_builtin F.entry_min_loop ?_
 rw[Around.under_plainId F.plain_min_loop _]
 show wpAny _ A.in1 (seqItems? (.ref S) >>= _) _ _ s
 refine wpAny_bind (wpAny_seqItems hS rfl ?_)
 show wpAny _ A.in1 (tryCatch (pyNext (.ref I)) _ >>= _) _ _ s
 refine wpAny_bind (wpAny_tryCatch (W.done s _ _ hst fun h' tk hk'=> ?_))
 have hS':=hk' S _ hSw hS
 show wpAny _ A.in1 (updateSeq S (fun _=> #[]) >>= _) _ _ _
 refine wpAny_bind ?_
 refine wpAny_updateSeq hS' rfl (wpAny_bind (wpAny_letGo (wpAny_pure ?_)))
 exact hR _ tk fun b o hbw hbS e=>(Heap.get?_update_other _ _ (Ne.symm hbS)).trans (hk' b o hbw e)
theorem ZnB (W:Walks prog w A.in1 I fp wr 2 P St) (S:Addr) (hSf:S ∉ fp) {s:Shared} {v0 v1:Value} {bt:Bool} {c:Nat} (hst:St 1 s.heap) (hP1: ∀ v,P 1 v->v=v1)
  (hS:s.heap.get? S=some { cls:= .type "list",dict:=none,data:= .seq #[v0,v0] c,slots:= #[] })
  (hcmp: ∀ (h':Heap) (tk:Nat) (Q E:Value->Shared->Prop),(∀ b o,b ∉ wr->b≠S->s.heap.get? b=some o->h'.get? b=some o)->Q (.bool bt) { s with heap:=h',toks:=tk }->wpAny (model prog w) A.in1 (richCompare .Lt v1 v0) Q E { s with heap:=h',toks:=tk })
  (hR: ∀ h' tk,(∀ b o,b ∉ wr->b≠S->s.heap.get? b=some o->h'.get? b=some o)->R (.ok (.ret (if bt then v1 else v0))) { s with heap:=h',toks:=tk }):
  codeAny (model prog w) A (.builtin "min.loop" ⟨[.ref I,.none,.ref S],[]⟩) R s:=by
 have hSw:S ∉ wr:=fun h=>hSf (W.sub _ h)
 have hname:(toString "min" ++ toString ".loop":String)="min.loop":=by decide
 refine codeAny_builtin F.entry_min_loop ?_
 rw[Around.under_plainId F.plain_min_loop _]
 show wpAny _ A.in1 (seqItems? (.ref S) >>= _) _ _ s
 refine wpAny_bind (wpAny_seqItems hS rfl ?_)
 show wpAny _ A.in1 (tryCatch (pyNext (.ref I)) _ >>= _) _ _ s
 refine wpAny_bind (wpAny_tryCatch (W.item 1 s _ _ (by decide) hst fun v h' tk hP hst' hk'=> ?_))
 have hS':=hk' S _ hSw hS
 have e1:=hP1 v hP
 subst e1
 show wpAny _ A.in1 (tryCatch (holding [v,v] (richCompare .Lt v v0 >>= _)) _ >>= _) _ _ _
 refine wpAny_bind (wpAny_tryCatch (wpAny_holding (wpAny_bind (hcmp h' tk _ _ (fun b o hb _ e=>hk' b o hb e) ?_))))
 refine wpAny_bind (wpAny_holding (wpAny_truthy_bool ?_))
 refine wpAny_bind (wpAny_letGo (wpAny_pure ?_))
 cases bt with
 |true=>
  simp only[if_true]
  refine wpAny_bind ?_
  refine wpAny_updateSeq hS' rfl (wpAny_bind (wpAny_letGo ?_))
  rw[hname]
  refine wpAny_pure ⟨plainId_quiet F.plain_min_loop _,Zj5 W S hSf (W.frame _ _ _ hst' fun b hbf o e=> ?_) (Heap.get?_update_self _ hS' rfl) fun h'' tk'' hk''=> ?_⟩
  ·exact (Heap.get?_update_other _ _ (fun h:S=b=>hSf (by rw[h];exact hbf))).trans e
  ·exact hR h'' tk'' fun b o hbw hbS e=>hk'' b o hbw hbS ((Heap.get?_update_other _ _ (Ne.symm hbS)).trans (hk' b o hbw e))
 |false=>
  simp only[Bool.false_eq_true,if_false]
  refine wpAny_bind (wpAny_letGo ?_)
  rw[hname]
  refine wpAny_pure ⟨plainId_quiet F.plain_min_loop _,Zj5 W S hSf hst' hS' fun h'' tk'' hk''=> ?_⟩
  exact hR h'' tk'' fun b o hbw hbS e=>hk'' b o hbw hbS (hk' b o hbw e)
theorem Zll (W:Walks prog w A.in1 I fp wr 2 P St) (S:Addr) (hSf:S ∉ fp) {s:Shared} {v0 v1:Value} {bt:Bool} {c:Nat} (hst:St 0 s.heap) (hP0: ∀ v,P 0 v->v=v0) (hP1: ∀ v,P 1 v->v=v1)
  (hS:s.heap.get? S=some { cls:= .type "list",dict:=none,data:= .seq #[] c,slots:= #[] })
  (hcmp: ∀ (h':Heap) (tk:Nat) (Q E:Value->Shared->Prop),(∀ b o,b ∉ wr->b≠S->s.heap.get? b=some o->h'.get? b=some o)->Q (.bool bt) { s with heap:=h',toks:=tk }->wpAny (model prog w) A.in1 (richCompare .Lt v1 v0) Q E { s with heap:=h',toks:=tk })
  (hR: ∀ h' tk,(∀ b o,b ∉ wr->b≠S->s.heap.get? b=some o->h'.get? b=some o)->R (.ok (.ret (if bt then v1 else v0))) { s with heap:=h',toks:=tk }):
  codeAny (model prog w) A (.builtin "min.loop" ⟨[.ref I,.none,.ref S],[]⟩) R s:=by
 have hSw:S ∉ wr:=fun h=>hSf (W.sub _ h)
 have hname:(toString "min" ++ toString ".loop":String)="min.loop":=by decide
 refine codeAny_builtin F.entry_min_loop ?_
 rw[Around.under_plainId F.plain_min_loop _]
 show wpAny _ A.in1 (seqItems? (.ref S) >>= _) _ _ s
 refine wpAny_bind (wpAny_seqItems hS rfl ?_)
 show wpAny _ A.in1 (tryCatch (pyNext (.ref I)) _ >>= _) _ _ s
 refine wpAny_bind (wpAny_tryCatch (W.item 0 s _ _ (by decide) hst fun v h' tk hP hst' hk'=> ?_))
 have hS':=hk' S _ hSw hS
 have e0:=hP0 v hP
 subst e0
 show wpAny _ A.in1 (updateSeq S (fun _=> #[v,v]) >>= _) _ _ _
 refine wpAny_bind ?_
 refine wpAny_updateSeq hS' rfl ?_
 rw[hname]
 refine wpAny_pure ⟨plainId_quiet F.plain_min_loop _,ZnB W S hSf (W.frame _ _ _ hst' fun b hbf o e=> ?_) hP1 (Heap.get?_update_self _ hS' rfl) (fun h2 tk2 Q E hk'' hq=>hcmp h2 tk2 Q E (fun b o hbw hbS e=>hk'' b o hbw hbS ((Heap.get?_update_other _ _ (Ne.symm hbS)).trans (hk' b o hbw e))) hq) fun h'' tk'' hk''=> ?_⟩
 ·exact (Heap.get?_update_other _ _ (fun h:S=b=>hSf (by rw[h];exact hbf))).trans e
 ·exact hR h'' tk'' fun b o hbw hbS e=>hk'' b o hbw hbS ((Heap.get?_update_other _ _ (Ne.symm hbS)).trans (hk' b o hbw e))
end
section
variable {prog:Program} {w:World} {A:Around} {E:Value->Shared->Prop} {s:Shared}
theorem Zga {v0 v1:Value} {bt:Bool} {Q:Value->Shared->Prop} (hh:A.handled=none)
  (hcmp: ∀ (h':Heap) (tk:Nat) (Q E:Value->Shared->Prop),(∀ b o,s.heap.get? b=some o->h'.get? b=some o)->Q (.bool bt) { s with heap:=h',toks:=tk }->wpAny (model prog w) A.in1 (richCompare .Lt v1 v0) Q E { s with heap:=h',toks:=tk })
  (h: ∀ h' tk,(∀ c o,s.heap.get? c=some o->h'.get? c=some o)->Q (if bt then v1 else v0) { s with heap:=h',toks:=tk }):
  wpAny (model prog w) A (call (.builtin "min") [v0,v1]) Q E s:=by
 have hname:(toString "min" ++ toString ".loop":String)="min.loop":=by decide
 refine call_function_tree F.kind_min F.plain_min F.entry_min (F.args_min2 _ _) ?_
 show wpAny _ A.in1 (Builtin.Builtins.bindParams "min" ["key","default"] 0 ⟨[],[]⟩ >>= _) _ _ s
 refine wpAny_bind (wpAny_of_eq (show Builtin.Builtins.bindParams "min" ["key","default"] 0 ⟨[],[]⟩=pure [none,none] from rfl) ?_)
 show wpAny _ A.in1 (newTuple [v0,v1] >>= _) _ _ s
 refine wpAny_bind (wpAny_newObj_type ?_)
 have hT:(s.heap.push { cls:= .type "tuple",data:= .seq #[v0,v1] }).IsTuple s.heap.objs.size #[v0,v1]:=⟨_,Heap.get?_push_size _ rfl,rfl,0,rfl⟩
 refine wpAny_bind (wpAny_pyIter_tuple hT ?_)
 have hsz:(s.heap.push { cls:= .type "tuple",data:= .seq #[v0,v1] }).objs.size=s.heap.objs.size + 1:=Heap.size_push ..
 refine wpAny_bind (wpAny_newObj_type ?_)
 rw[hname]
 have W:=Walks.tuple (prog:=prog) (w:=w) (A:=A.in1) hh (s.heap.push { cls:= .type "tuple",data:= .seq #[v0,v1] }).objs.size s.heap.objs.size (by rw[hsz];exact Nat.ne_of_lt (Nat.lt_succ_self _)) #[v0,v1]
 have hI:((s.heap.push { cls:= .type "tuple",data:= .seq #[v0,v1] }).push { cls:= .type "tuple_iterator",data:= .fields #[.ref s.heap.objs.size,.int 0 0] }).objs.size=s.heap.objs.size + 2:=by rw[Heap.size_push,hsz]
 have old: ∀ (x:Obj) b o,s.heap.get? b=some o->(((s.heap.push { cls:= .type "tuple",data:= .seq #[v0,v1] }).push { cls:= .type "tuple_iterator",data:= .fields #[.ref s.heap.objs.size,.int 0 0] }).push x).get? b=some o:=fun x b o e=>Heap.get?_push_of_some _ (Heap.get?_push_of_some _ (Heap.get?_push_of_some _ e))
 have lt: ∀ b o,s.heap.get? b=some o->b < s.heap.objs.size:=fun b o e=>Heap.lt_size e
 refine wpAny_pure ⟨plainId_quiet F.plain_min_loop _,Zll W _ ?_ (v0:=v0) (v1:=v1) (bt:=bt) (W.frame _ _ _ ⟨⟨_,Heap.get?_push_size _ rfl,rfl,rfl⟩,hT.push _⟩ fun b _ o e=>Heap.get?_push_of_some _ e) (fun v h=> ?_) (fun v h=> ?_) (Heap.get?_push_size _ rfl) (fun h2 tk2 Q E hk hq=>hcmp h2 tk2 Q E (fun b o e=>hk b o ?_ ?_ (old _ b o e)) hq) fun h' tk hk=>h h' tk fun b o e=>hk b o ?_ ?_ (old _ b o e)⟩
 ·intro hm
  change ((s.heap.push { cls:= .type "tuple",data:= .seq #[v0,v1] }).push { cls:= .type "tuple_iterator",data:= .fields #[.ref s.heap.objs.size,.int 0 0] }).objs.size∈[(s.heap.push { cls:= .type "tuple",data:= .seq #[v0,v1] }).objs.size,s.heap.objs.size] at hm
  rw[hI,hsz] at hm
  simp at hm
 ·exact (Option.some.inj h).symm
 ·exact (Option.some.inj h).symm
 ·intro hm
  rw[hsz] at hm
  have l:=lt b o e
  simp at hm
  rw[hm] at l
  exact Nat.lt_irrefl _ (Nat.lt_of_succ_lt l)
 ·intro hm
  change b=((s.heap.push { cls:= .type "tuple",data:= .seq #[v0,v1] }).push { cls:= .type "tuple_iterator",data:= .fields #[.ref s.heap.objs.size,.int 0 0] }).objs.size at hm
  rw[hI] at hm
  have l:=lt b o e
  rw[hm] at l
  exact Nat.lt_irrefl _ (Nat.lt_of_succ_lt (Nat.lt_of_succ_lt l))
 ·intro hm
  rw[hsz] at hm
  have l:=lt b o e
  simp at hm
  rw[hm] at l
  exact Nat.lt_irrefl _ (Nat.lt_of_succ_lt l)
 ·intro hm
  change b=((s.heap.push { cls:= .type "tuple",data:= .seq #[v0,v1] }).push { cls:= .type "tuple_iterator",data:= .fields #[.ref s.heap.objs.size,.int 0 0] }).objs.size at hm
  rw[hI] at hm
  have l:=lt b o e
  rw[hm] at l
  exact Nat.lt_irrefl _ (Nat.lt_of_succ_lt (Nat.lt_of_succ_lt l))
end
end PySem
namespace DL
open PySem PySem.Spec PyProof.Rows L2
open PySem.SeqAt
section
variable {X:Cx} {pins:List (Addr × Obj)} {σ:L2.St} {H:Hp} {s:Shared} {α:List Addr} {M:Sto}
theorem ZnC {A:Around} {p q:Addr} {xs ys:List V} {ds es:List D} {b:Bool} {Q E:Value->Shared->Prop} (hu:A.units + 63 < cLine) (I:Inv X pins σ H s) (hr:HR X.K H α M) (hp:H p=some (.lst xs)) (hq:H q=some (.lst ys)) (r1:Reps X.K H α xs ds) (r2:Reps X.K H α ys es) (hc:Za6 ds es=true) (hl:ltL ds es=some b) (k:Q (.bool b) s):wpAny (model X.prog X.w) A (richCompare .Lt (.ref p) (.ref q)) Q E s:=by
 obtain ⟨its,v1,p1,_⟩:=I.list (SqL.of hp)
 obtain ⟨its2,v2,p2,_⟩:=I.list (SqL.of hq)
 obtain ⟨⟨cls,dd,data,sl⟩,ho,hcl,n,hd⟩:=id p1.isList
 obtain ⟨⟨cls2,dd2,data2,sl2⟩,ho2,hcl2,n2,hd2⟩:=id p2.isList
 simp only at hcl hd hcl2 hd2
 subst hcl hd hcl2 hd2
 let e:Nat->Bool:=fun j=>match ds[j]?,es[j]? with | some a,some c=>ltL.eqX a c | _,_=>false
 let f:Nat->Bool:=fun j=>match ds[j]?,es[j]? with | some a,some c=>(ltE a c).getD false | _,_=>false
 have both: ∀ j (h1:j < its.toArray.size) (h2:j < its2.toArray.size),∃ a c vx vy,ds[j]?=some a/\es[j]?=some c/\Rep X.K H α vx a/\Rep X.K H α vy c/\ZU vx its.toArray[j]/\ZU vy its2.toArray[j]:=by
  intro j h1 h2
  obtain ⟨vx,g1,g2⟩:=ZcR (j:=j) (u:=its.toArray[j]) v1 (by simp at h1;simp[h1])
  obtain ⟨vy,g3,g4⟩:=ZcR (j:=j) (u:=its2.toArray[j]) v2 (by simp at h2;simp[h2])
  obtain ⟨a,g5,g6⟩:=ZcS r1 g1
  obtain ⟨c,g7,g8⟩:=ZcS r2 g3
  exact ⟨a,c,vx,vy,g5,g7,g6,g8,g2,g4⟩
 have lx:lxI e f its.toArray.size its2.toArray.size (min its.toArray.size its2.toArray.size) 0=b:=by
  have l1:its.toArray.size=ds.length:=by rw[List.size_toArray,<- v1.length,r1.length]
  have l2:its2.toArray.size=es.length:=by rw[List.size_toArray,<- v2.length,r2.length]
  rw[l1,l2]
  refine ZhH hl e f 0 _ _ (fun j a c ha hb hs=> ?_) (by omega) (by omega)
  rw[Nat.zero_add]
  refine ⟨by show (match ds[j]?,es[j]? with | some a,some c=>ltL.eqX a c | _,_=>false)=_;rw[ha,hb],fun _=> ?_⟩
  show _=some (match ds[j]?,es[j]? with | some a,some c=>(ltE a c).getD false | _,_=>false)
  obtain ⟨b',hb'⟩:=Option.isSome_iff_exists.mp hs
  simp[ha,hb,hb']
 refine richCompare_meets_room (op:= .Lt) ⟨_,ho,rfl⟩ ⟨_,ho2,rfl⟩ F.slot_list_lt F.entry_list_lt (F.args_list_lt_2 _ _) (Zeh p q its.toArray its2.toArray n n2 dd dd2 sl sl2 e f)
  ⟨ho,ho2,fun j h1 h2=> ?_,fun j h1 h2 ej=> ?_,?_⟩ (by omega)
 ·obtain ⟨a,c,vx,vy,g1,g2,g3,g4,g5,g6⟩:=both j h1 h2
  have hs:=ZbB hc j a c g1 g2
  obtain ⟨b',hb'⟩:=Option.isSome_iff_exists.mp hs
  have ee:e j=ltL.eqX a c:=by show (match ds[j]?,es[j]? with | some a,some c=>ltL.eqX a c | _,_=>false)=_;rw[g1,g2]
  rw[ee]
  exact (eq3 I hr 12 a c vx vy _ _ _ _ (by rw[Around.in1_units];omega) (Zj4 (n:=10) hb') g3 g4 g5 g6).1
 ·obtain ⟨a,c,vx,vy,g1,g2,g3,g4,g5,g6⟩:=both j h1 h2
  have hs:=ZbB hc j a c g1 g2
  obtain ⟨b',hb'⟩:=Option.isSome_iff_exists.mp hs
  have ff:f j=b':=by show (match ds[j]?,es[j]? with | some a,some c=>(ltE a c).getD false | _,_=>false)=_;rw[g1,g2];simp only;rw[hb'];rfl
  rw[ff]
  exact Zny I (by rw[Around.in1_units];omega) hb' g3 g4 g5 g6
 ·rw[lx]
  show Value.bool b≠Value.notImplemented/\Q (.bool b) s
  exact ⟨(fun z=>nomatch z),k⟩
noncomputable def ZnD (X:Cx):List V->Hp->VK->Prop:=fun l H Q=> ∃ α M p q xs ys ds es b,HR X.K H α M/\l=[.ref q,.ref p]/\H p=some (.lst xs)/\H q=some (.lst ys)/\Reps X.K H α xs ds/\Reps X.K H α ys es/\Za6 ds es=true/\ltL ds es=some b/\Q (if b=true then .ref p else .ref q) H
theorem Zgb (hc:X.calm=true) (hu:X.A.units + 64 < cLine):ZbR X (.builtin "min") (ZnD X):=by
 intro pins s σ H xs us Q I r h
 obtain ⟨α,M,p,q,xs,ys,ds,es,b,hr,rfl,hp,hq,r1,r2,hcm,hl,k⟩:=h
 obtain ⟨u,w',rfl,ru,rw'⟩:=ZgM r
 cases (show u=Value.ref q from ru)
 cases (show w'=Value.ref p from rw')
 refine Zga (bt:=b) (I.ok.hd hc) (fun h' tk Q E kp hq'=>ZnC (by rw[Around.in1_units];omega) (I.kept kp) hr hp hq r1 r2 hcm hl hq') fun h' tk kp=>⟨if b=true then .ref p else .ref q,H,I.kept kp,?_,k⟩
 cases b<;>exact rfl
noncomputable def bMinL:List D->Sto->Out D:=fun l M=>match l with
 | [.ref n,.ref m]=>(match M[m]?,M[n]? with | some (.lst ds),some (.lst es)=>if Za6 ds es=true then (match ltL ds es with | some b=> .ok (if b=true then .ref m else .ref n) M | none=> .bad) else .bad | _,_=> .bad)
 |_=> .bad
theorem ZeY {l:List D} {M:Sto} (h:bMinL l M≠ .bad): ∃ n m,l=[.ref n,.ref m]:=by
 unfold bMinL at h
 split at h
 ·rename_i n m;exact ⟨n,m,rfl⟩
 ·exact absurd rfl h
theorem Zjg {ξ:XK}:CO X ξ (ZnD X) bMinL:=by
 intro H α M vs ds0 Q h rs q
 obtain ⟨n,m,rfl⟩:=ZeY (l:=ds0) (M:=M) fun z=>by rw[z] at q;exact q.elim
 cases rs with
 |cons r rs=>
 cases rs with
 |cons r' rs=>
 cases rs
 cases r with
 | @ref p2 n hp2=>
 cases r' with
 | @ref p m hp=>
 simp only[bMinL] at q
 cases e1:M[m]? with
 |none=>simp only[e1] at q;exact q.elim
 |some so=>
 cases e2:M[n]? with
 |none=>cases so;simp only[e1,e2] at q;exact q.elim
 |some so2=>
 cases so with
 |lst ds=>
 cases so2 with
 |lst es=>
 simp only[e1,e2] at q
 by_cases hc:Za6 ds es=true
 ·rw[if_pos hc] at q
  cases hl:ltL ds es with
  |none=>simp only[hl] at q;exact q.elim
  |some b=>
   simp only[hl] at q
   obtain ⟨xs,g1,g2⟩:=h.at hp e1
   obtain ⟨ys,g3,g4⟩:=h.at hp2 e2
   refine ⟨α,M,p,p2,xs,ys,ds,es,b,h,rfl,g1,g3,g2,g4,hc,hl,q _ H α Ext.refl h ?_⟩
   cases b
   ·exact .ref hp2
   ·exact .ref hp
 ·rw[if_neg hc] at q
  exact q.elim
end
end DL
end
section
namespace HT
open PySem PyProof.Rows
section
open PySem.SeqAt
open PySem.AutoSeq1 (wpAny_loadPart')
open PySem.MeetsSeq PySem.MeetsSeq2 PySem.MeetsSeq3
end
section
variable {prog:Program} {w:World} {A:Around} {E:Value->Shared->Prop} {s:Shared}
end
end HT
namespace DL
open PySem PySem.Spec PyProof.Rows L2
section
variable {X:Cx} {ξ:XK}
end
end DL
end
section
namespace DL
open PySem PySem.Spec PyProof.Rows L2
theorem Zqp (its:List Value):slicePick its.toArray none (some 0) (some (-1))=(its.drop 1).reverse.toArray:=by
 cases its with
 |nil=>rfl
 |cons x r=>
  have h:=Zi8 r.toArray
  have e:slicePick (x :: r).toArray none (some 0) (some (-1))=((List.range r.toArray.size).filterMap fun (m:Nat)=>r.toArray[((r.toArray.size:Int) - 1 + (m:Int) * (-1)).toNat]?).toArray:=by
   unfold slicePick sliceBounds sliceRange
   simp only[Option.getD_some]
   congr 1
   rw[List.filterMap_map]
   simp only[List.size_toArray,List.length_cons]
   simp only[gt_iff_lt,show ¬ ((0:Int) < -1) by decide,if_false,Int.lt_irrefl]
   generalize hn:(if max (-1:Int) (min 0 (((r.length + 1:Nat):Int) - 1)) < ((r.length + 1:Nat):Int) - 1 then _ else (0:Int)).toNat=cnt
   have c:cnt=r.length:=by
    rw[<- hn]
    have m0:max (-1:Int) (min 0 (((r.length + 1:Nat):Int) - 1))=0:=by omega
    rw[m0]
    split
    ·simp
     try omega
    ·simp
     omega
   rw[c]
   refine Zdx fun m hm=> ?_
   have hm':=List.mem_range.mp hm
   simp only[Function.comp]
   rw[show (((r.length + 1:Nat):Int) - 1 + -1 * (m:Int)).toNat=((r.length:Int) - 1 + (m:Int) * (-1)).toNat + 1 by omega]
   simp
  rw[e,h]
  rfl
noncomputable def eR0 (f:Ev):Ev:=fun ρ M=>(f ρ M).bind fun x M1=>match x with
 | .ref n=>(match M1[n]? with | some (.lst xs)=> .ok (.ref M1.length) (M1 ++ [.lst (xs.drop 1).reverse]) | none=> .bad)
 |_=> .bad
noncomputable def tR0 (K:PySem.W.Frag) (te:TE):TE:=fun σ H Q=>te σ H fun x H1=> ∃ a xs,x= .ref a/\SqL K H1 a xs/\ ∀ p,H1 p=none->Q (.ref p) (upd H1 p (.lst (xs.drop 1).reverse))
theorem Zqq {X:Cx} {e:Expr} {p2 p3 p4 p5 pos:Pos} {j j0:Nat} {te:TE} (he:PE X e te):PE X (.Subscript e (.Slice none (some (.Constant (.int 0) j0 p5)) (some (.UnaryOp .USub (.Constant (.int 1) j p3) p4)) p2) pos) (tR0 X.K te):=by
 intro pins s σ H Q I h
 refine Subscript_ (thn (he pins s σ H _ I h) fun v s1 ⟨x,H1,I1,r1,q1⟩=> ?_)
 refine wpAny_Slice ?_
 rw[evalPart_none]
 refine wpAny_pure ?_
 rw[evalPart_some]
 refine thn (ZgF pins s1 σ H1 (fun v H'=>v= .int 0/\H'=H1) I1 ⟨rfl,rfl⟩) fun u0 s1' ⟨y0,H1',I1',r2',ey0,eH0⟩=> ?_
 subst ey0 eH0
 obtain ⟨t0,rfl⟩:=r2'
 rw[evalPart_some]
 refine thn (ZmC ZjJ ZgF pins s1' σ H1' (fun v H'=>v= .int (-1)/\H'=H1') I1' ⟨1,rfl,rfl,rfl⟩) fun u s2 ⟨y,H2,I2,r2,ey,eH⟩=> ?_
 subst ey eH
 obtain ⟨t,rfl⟩:=r2
 have I4:Inv X pins σ H2 { s2 with heap:=s2.heap.push { cls:= .type "slice",data:= .fields #[.none,.int 0 t0,.int (-1) t] } }:=I2.kept (t':=s2.toks) fun b ob q=>Heap.get?_push_of_some _ q
 show wpAny (model X.prog X.w) X.A (subscriptTail e (.Slice none (some (.Constant (.int 0) j0 p5)) (some (.UnaryOp .USub (.Constant (.int 1) j p3) p4)) p2) v (.ref s2.heap.objs.size)) (EP X pins σ Q) X.xe { s2 with heap:=s2.heap.push { cls:= .type "slice",data:= .fields #[.none,.int 0 t0,.int (-1) t] } }
 obtain ⟨a,xs,rfl,hq,q⟩:=q1
 cases r1
 obtain ⟨its,rv,ht,hz⟩:=I4.list hq
 have hsz:its.toArray.size<=sizeLine:=by rw[List.size_toArray,<- rv.length];exact hz
 refine tail_any (ops:=[.ref a,.ref s2.heap.objs.size]) ht.isList.typeIs slot_list_getitem.lookup (wpAny_getItem_list_slice ht.isList (Heap.IsSliceOf.new ..) .none (.int 0 t0) (.int (-1) t) (by decide) ?_ hsz) (by with_unfolding_all rfl)
 rw[Zqp]
 refine ⟨.ref _,_,I4.laid (t':=s2.toks) (o:= .lst (xs.drop 1).reverse) (fun _ _ q=>Heap.get?_push_of_some _ q) (Nat.le_refl _) ?_,rfl,q _ (I4.hok.fresh (Nat.le_refl _))⟩
 exact ⟨by rw[List.length_reverse,List.length_drop];omega,(its.drop 1).reverse,0,(rv.drop 1).reverse,Heap.get?_push_size _ rfl⟩
theorem ZhJ {K:PySem.W.Frag} {H:Hp} {α:List Addr}: ∀ {vs:List V} {ds:List D},Reps K H α vs ds->Reps K H α (vs.drop 1) (ds.drop 1)
 |_,_,.nil=> .nil
 |_,_,.cons _ t=>t
theorem Zqr {X:Cx} {ξ:XK} {e:Expr} {f:Ev} {p2 p3 p4 p5 pos:Pos} {j j0:Nat} (he:DE X ξ e f):DE X ξ (.Subscript e (.Slice none (some (.Constant (.int 0) j0 p5)) (some (.UnaryOp .USub (.Constant (.int 1) j p3) p4)) p2) pos) (eR0 f):=by
 obtain ⟨t,p,q⟩:=he
 refine ⟨_,Zqq p,fun σ ρ H α M Q s h w=>q σ ρ H α M _ s h (OG.seq w fun x M1 v H1 α1 e1 h1 r1 w1=> ?_)⟩
 cases r1 with
 | @ref a n hp=>
  cases em:M1[n]? with
  |none=>simp only[em] at w1;exact w1.elim
  |some so=>
   cases so with
   |lst es=>
    simp only[em] at w1
    obtain ⟨xs,g1,g2⟩:=h1.at hp em
    exact ⟨a,xs,rfl,SqL.of g1,fun l hl=>w1 _ _ (α1 ++ [l]) (Ext.new hl) (h1.new hl (ZhJ g2).rev) (.ref ⟨h1.last l,Kn.lst Zr⟩)⟩
 |_=>exact w1.elim
end DL
end
section
namespace DL
open PySem PySem.Spec PyProof.Rows L2
section
variable {X:Cx} {pins:List (Addr × Obj)} {σ:L2.St} {H:Hp} {s:Shared} {a b:Addr} {v:V} {r:Value} {A:Around} {E:Value->Shared->Prop}
theorem ZnE {kvs:List (List Key × V)} {k:List Key} {Q:Unit->Shared->Prop} (hu:A.units < cLine) (I:Inv X pins σ H s) (e:H a=some (.dT kvs)) (eb:H b=some (.tup (k.map kV))) (l:kvs.length < sizeLine) (rv:ZU v r) (h: ∀ s',Inv X pins σ (upd H a (.dT (ZgY kvs k v))) s'->Q () s'):
  wpAny (model X.prog X.w) A (dictSet a (.ref b) r) Q E s:=by
 obtain ⟨z,hd,xs,rel,dd⟩:=L2.Zg0 I.hok e
 have hz:xs.length<=sizeLine:=by rw[<- Paired.length rel];exact z
 have hl:(ZgY kvs k v).length<=sizeLine:=by have:=ZeP kvs k v;omega
 refine wpAny_dictSet_heap (hsz:=hz) (knd:=tupleKind (ZaF X.prog X.w)) hu (ZgZ I.hok eb) dd fun h' dd' hs=>h _ ?_
 obtain ⟨q,es,ep,hq,h2,h3,h4,_,h5⟩:=dd'
 refine ZkV I (by rw[e];exact True.intro) hs ⟨q,hq⟩ ⟨hl,hd,_,(rel.put k eb rv).keeps fun c ys ec=> ?_,q,es,ep,hq,h2,h3,h4,h5⟩
 rw[ZJ (ZpV ec e (fun z=>nomatch z))]
 exact ec
end
noncomputable def ZbT (src:Src) (tg:Tg) (c:Tv) (fk fv:Ev) (n:Nat):Nat->Nat->Ro->Sto->Out Unit
 |fuel,i,ρ,M=>match nxt src i M with
  |none=> .bad
  |some none=> .ok () M
  |some (some d)=>(match fuel with
   |0=> .bad
   |fuel + 1=>(match tg d ρ with
    |none=> .bad
    |some ρ1=>(match c ρ1 M with
     | .ok true M1=>(match fk ρ1 M1 with
      | .ok x M2=>(match fv ρ1 M2 with
       | .ok y M3=>(match Znu M3 (.dt n) x y with
        |some M4=>ZbT src tg c fk fv n fuel (i + 1) ρ1 M4
        |none=> .bad)
       |_=> .bad)
      |_=> .bad)
     | .ok false M1=>ZbT src tg c fk fv n fuel (i + 1) ρ1 M1
     |_=> .bad)))
noncomputable def Zdj (fi:Ro->Sto->Out Src) (k:Nat) (fr:List Nat) (tg:Tg) (c:Tv) (fk fv:Ev):Ev:=fun ρ M=>(fi ρ M).bind fun src M1=>match ZbT src tg c fk fv M1.length (cnt src M1) 0 (roB k fr ρ) (M1 ++ [.lst []]) with
 | .ok _ M2=> .ok (.dt M1.length) M2
 |_=> .bad
theorem ZdC {prog:Program} {w:World} {A:Around} {R:Result->Shared->Prop} {s:Shared} {kx vx target iter:Expr} {ifs:List Expr} {scope:Scope} {pos:Pos} {it:Value} {D:Addr} {env:Env} (I:Nat->Shared->Prop)
  (turn: ∀ n s,I n s->wpAny (model prog w) A (pyNext it) (fun r s₁=>match r with
   |none=>R (.ok .next) s₁
   |some v=>wpAny (model prog w) A (letOwnedTupleGo target it v) (fun _ s₁=>wpAny (model prog w) A (assign target env v) (fun _ s₂=>
     wpAny (model prog w) A (forIn ifs true fun c r=>if r=true then do let ok <- isTrue c env (eval c env);pure (ForInStep.yield ok) else pure (ForInStep.yield r)) (fun ok s₃=>
      if ok=true then wpAny (model prog w) A (eval kx env) (fun kv s₄=>wpAny (model prog w) A (eval vx env) (fun vv s₅=>
       wpAny (model prog w) A (dictSet D kv vv) (fun _ s₆=> ∃ m,m < n/\I m s₆) (fun _ _=>False) s₅) (fun _ _=>False) s₄) (fun _ _=>False) s₃
      else ∃ m,m < n/\I m s₃) (fun _ _=>False) s₂) (fun _ _=>False) s₁) (fun _ _=>False) s₁) (fun _ _=>False) s)
  (n:Nat) (h:I n s):
  codeAny (model prog w) A (.compLoop (.DictComp kx vx [⟨target,iter,ifs,0⟩] scope pos) 0 it (.ref D) env) R s:=by
 refine codeAny_loop rfl I (fun n s hI=> ?_) n h
 show wpAny _ A ((compTurn (.DictComp kx vx [⟨target,iter,ifs,0⟩] scope pos) 0 it (.ref D) env).onRaise (fun x=>do noteFrame x env;theTreesLotGoes x)) _ _ s
 refine wpAny_noted ?_
 rw[compTurn_dict]
 refine wpAny_bind (wpAny_standAt (wpAny_bind (wpAny_mono (turn n s hI) (fun r s₁ h₁=> ?_) fun _ _ h'=>h'.elim)))
 cases r with
 |none=>exact wpAny_pure h₁
 |some v=>
  refine wpAny_bind (wpAny_mono h₁ (fun _ s₁ h₁=> ?_) fun _ _ h'=>h'.elim)
  refine wpAny_bind (wpAny_mono h₁ (fun _ s₂ h₂=>wpAny_bind (wpAny_mono h₂ (fun ok s₃ h₃=> ?_) fun _ _ h'=>h'.elim)) fun _ _ h'=>h'.elim)
  cases ok with
  |false=>exact wpAny_pure ⟨rfl,h₃⟩
  |true=>
   refine wpAny_bind (wpAny_bind (wpAny_mono h₃ (fun kv s₄ h₄=> ?_) fun _ _ h'=>h'.elim))
   refine wpAny_bind (wpAny_holding (wpAny_mono h₄ (fun vv s₅ h₅=> ?_) fun _ _ h'=>h'.elim))
   refine wpAny_bind (wpAny_standAt ?_)
   refine wpAny_holding (wpAny_mono h₅ (fun _ s₆ h₆=> ?_) fun _ _ h'=>h'.elim)
   exact wpAny_pure ⟨rfl,h₆⟩
section
variable {X:Cx} {ξ:XK} {tg iter kx vx:Expr} {ifs:List Expr} {scope:Scope} {cl:List (Str × Addr)} {N:List Str} {k:Nat} {fr:List Nat} {fi:Ro->Sto->Out Src} {gt:Tg} {c:Tv} {fk fv:Ev} {pos:Pos}
theorem Zjh (hu:X.A.units + 64 < cLine) (B:Blk X scope cl N k fr) (hi:DI X ξ tg iter fi) (hg: ∀ C fp s H,DG (blk X scope cl N C fp s H) tg gt) (ht: ∀ C fp s H,DC (blk X scope cl N C fp s H) ifs c) (hk: ∀ C fp s H,DE (blk X scope cl N C fp s H) E0 kx fk) (hv: ∀ C fp s H,DE (blk X scope cl N C fp s H) E0 vx fv)
  (hs: ∀ x,foldedSetIterable iter X.env x=pure x:=by intro _;rfl):DE X ξ (.DictComp kx vx [⟨tg,iter,ifs,0⟩] scope pos) (Zdj fi k fr gt c fk fv):=by
 obtain ⟨wi,pi,qi⟩:=hi
 refine ⟨fun σ H Q=> ∃ ρ α M,SR X.K H α σ ρ/\HR X.K H α M/\OP X.K H α ξ Q (Zdj fi k fr gt c fk fv ρ M),?_,fun σ ρ H α M Q s h q=>⟨ρ,α,M,s,h,q⟩⟩
 rintro pins s σ H Q I ⟨ρ,α,M,sr,hr,op⟩
 rw[arm_eval_DictComp]
 refine wpAny_comprehension_free (use:=none) rfl hs B.clos B.kind B.names ?_
 refine thn (pi pins s σ H (fun J H2=> ∃ α2 M2 src,Ext X.K H H2 α α2/\HR X.K H2 α2 M2/\Znb X.K H2 α2 J src/\OP X.K H2 α2 ξ Q (match ZbT src gt c fk fv M2.length (cnt src M2) 0 (roB k fr ρ) (M2 ++ [.lst []]) with | .ok _ M2'=> .ok (.dt M2.length) M2' | _=> .bad)) I
  (qi σ ρ H α M _ sr hr (OG.seq op fun src M1 J H1 α1 e1 h1 r1 q1=>⟨α1,M1,src,e1,h1,r1,q1⟩))) fun v s1 w1=>thn w1 fun itv s2 w2=> ?_
 obtain ⟨it,fp,tn,J,H2,rfl,I2,T,st2,f2,α2,M2,src,e2,h2,sc,op2⟩:=w2
 have srI:=sr.mono e2
 refine wpAny_newObj_type ?_
 have I3:Inv X pins σ (upd H2 s2.heap.objs.size (.dT [])) { s2 with heap:=s2.heap.push { cls:= .type "dict",dict:=none,data:= .dict #[] } }:=I2.laid (a:=s2.heap.objs.size) (o:= .dT []) (t':=s2.toks) (fun _ _ q=>Heap.get?_push_of_some _ q) (Nat.le_refl _) (ZiS s2.heap I2.big)
 have fD:H2 s2.heap.objs.size=none:=I2.fresh
 generalize hD:s2.heap.objs.size=D at I3 fD
 generalize hs3:({ s2 with heap:=s2.heap.push { cls:= .type "dict",dict:=none,data:= .dict #[] } }:Shared)=s3 at I3
 generalize hH3:upd H2 D (.dT [])=H3 at I3
 have h3:HR X.K H3 (α2 ++ [D]) (M2 ++ [.lst []]):=by rw[<- hH3];exact h2.newO fD (.inr (.inr ⟨[],Zr,ZhA⟩))
 have e3:Ext X.K H2 H3 α2 (α2 ++ [D]):=by rw[<- hH3];exact Ext.new fD
 have aD:RefK H3 (α2 ++ [D]) 2 M2.length D:=⟨h2.last D,by rw[<- hH3];unfold Kn;rw[Zr]⟩
 have lt2: ∀ b∈fp,b < s2.heap.objs.size:=fun b hb=>let ⟨o,e,_⟩:=T.obj _ _ st2 b hb;Heap.lt_size e
 have keep3: ∀ b o,s2.heap.get? b=some o->s3.heap.get? b=some o:=fun b o e=>by rw[<- hs3];exact Heap.get?_push_of_some _ e
 have f3: ∀ b∈fp,ZdV X pins H3 b:=fun b hb=>⟨by rw[<- hH3,ZJ (by rw[<- hD];exact Nat.ne_of_lt (lt2 b hb))];exact (f2 b hb).1,(f2 b hb).2⟩
 have lt3: ∀ b∈fp,b < s3.heap.objs.size:=fun b hb=>let ⟨o,e,_⟩:=T.obj _ _ st2 b hb;Heap.lt_size (keep3 b o e)
 have st3:tn 0 s3.heap:=T.keep _ _ _ st2 fun b _ o e=>keep3 b o e
 refine wpAny_newFunctionEnv B.cell (by intro y hy;simp at hy) (fun h₁ hns₁ hsb₁=> ?_) B.kind
 have keep4: ∀ b o,s3.heap.get? b=some o->h₁.get? b=some o:=fun b o e=>hsb₁.extBut b o (Nat.ne_of_lt (Heap.lt_size e)) (Heap.get?_push_of_some _ e)
 have I4:=ZeS (tk:=s3.toks + ([]:List (Str × Value)).length) B I3 f3 lt3 hns₁ keep4
 have st4:tn 0 h₁:=T.keep _ _ _ st3 fun b _ o e=>keep4 b o e
 generalize hX:blk X scope cl N s3.heap.objs.size fp s3 H3=Y at I4
 have YK:Y.K=X.K:=by rw[<- hX];rfl
 have Yp:Y.prog=X.prog:=by rw[<- hX];rfl
 have Yw:Y.w=X.w:=by rw[<- hX];rfl
 have YA:Y.A=X.A:=by rw[<- hX];rfl
 have Ye:Y.env=compEnvC scope cl s3.heap.objs.size X.env:=by rw[<- hX];rfl
 obtain ⟨tt,pt,qt⟩:=hg s3.heap.objs.size fp s3 H3
 obtain ⟨tk,pk,qk⟩:=hk s3.heap.objs.size fp s3 H3
 obtain ⟨tv,pv,qv⟩:=hv s3.heap.objs.size fp s3 H3
 have tst:=ht s3.heap.objs.size fp s3 H3
 rw[hX] at pt qt pk qk pv qv tst
 cases er:ZbT src gt c fk fv M2.length (cnt src M2) 0 (roB k fr ρ) (M2 ++ [.lst []]) with
 |exc x M9=>rw[er] at op2;exact op2.elim
 |bad=>rw[er] at op2;exact op2.elim
 |ok u9 M9=>
  rw[er] at op2
  have loop:codeAny (model X.prog X.w) X.A (.compLoop (.DictComp kx vx [⟨tg,iter,ifs,0⟩] scope pos) 0 (.ref it) (.ref D) (compEnvC scope cl s3.heap.objs.size X.env)) (compPost (model X.prog X.w) X.A X.xe none (EP X pins σ Q) (.ref D) s3.heap.objs.size) { s3 with heap:=h₁,toks:=s3.toks + ([]:List (Str × Value)).length }:=by
   refine ZdC (fun n s'=> ∃ i σ' ρ' H' α' M',Inv Y [] σ' H' s'/\tn i s'.heap/\(∀ b∈fp,H' b=none)/\SR X.K H' α' σ' ρ'/\HR X.K H' α' M'/\Ext X.K H3 H' (α2 ++ [D]) α'/\ZbT src gt c fk fv M2.length n i ρ' M'= .ok u9 M9) ?_ (cnt src M2)
    ⟨0,stB k fr σ,roB k fr ρ,H3,α2 ++ [D],M2 ++ [.lst []],I4,st4,fun b hb=>(f3 b hb).1,(srI.blk).mono e3,h3,Ext.refl,er⟩
   rintro n s5 ⟨i,σ5,ρ5,H5,α5,M5,I5,st5,fr5,sr5,hr5,ex5,en⟩
   have fp5: ∀ {H':Hp},(∀ b∈fp,H' b=none)-> ∀ b∈fp,ZdV Y [] H' b:=fun hn b hb=>⟨hn b hb,by rw[Ye];exact Nat.ne_of_lt (lt3 b hb),by
    have:=(Zfu B I3 f3 lt3).exfs b hb
    rw[hX] at this;exact this,.inl (by rw[<- hX];exact hb),fun x c h=>(by rw[Ye] at h;exact (f3 b hb).2.2.2.2.1 x c (B.sub x c h)),fun p hp=>(by rw[<- hX] at hp;simp[blk] at hp)⟩
   have src5:=sc i H5 α5 M5 (e3.trans ex5) hr5
   rw[ZbT] at en
   cases ex:nxt src i M5 with
   |none=>rw[ex] at en;cases en
   |some od=>
    rw[ex] at src5 en
    cases od with
    |none=>
     cases en
     have fin:=T.done Y Yp Yw YK YA i [] s5 σ5 H5 (fun _ _=>False) I5 (fp5 fr5) st5 src5
     rw[YA] at fin
     refine thn fin fun r s6 ⟨hr6,I6⟩=> ?_
     subst hr6
     obtain ⟨m6,hm6,_⟩:=id I6.loc
     rw[Ye] at hm6
     refine ⟨m6,hm6,fun h' sb=> ?_⟩
     have un:=I6.base
     have hok6:=I6.hok
     have I7:Inv X pins σ H5 s6:=by
      refine I3.call' (s':=s6) (ch:=fp) ?_ ?_ ?_ I6.bare fun b hb=> ?_
      ·have:=I6.os
       rw[this,<- hX];rfl
      ·rw[<- hX] at un
       exact un
      ·rw[Yp,Yw] at hok6
       exact hok6
      ·obtain ⟨_,z1,z2,z3,z4,z5⟩:=f3 b hb
       exact ⟨z3,z1,z4,z5⟩
     have hC:H5 s3.heap.objs.size=none:=by have:=I6.free;rw[Ye] at this;exact this
     have I8:Inv X pins σ H5 { s6 with heap:=h',toks:=s6.toks }:=I7.turned (it:=s3.heap.objs.size) (fun b o hb e=>(sb.2 b hb).trans e) hC (Nat.ne_of_gt I3.lt) (.inr I3.sz)
      (fun x c h z=>by
       obtain ⟨v,o,e,_⟩:=I3.cell x c h
       exact absurd (Heap.lt_size e) (by rw[z];exact Nat.lt_irrefl _)) (fun p hp z=>by
       have:=(I3.pin p hp).1
       exact absurd (Heap.lt_size this) (by rw[z];exact Nat.lt_irrefl _))
     exact ⟨.ref D,H5,I8,rfl,op2 _ H5 α5 (e3.trans ex5) hr5 (.dt (ex5.get aD))⟩
    |some d=>
     obtain ⟨go,yl⟩:=src5
     cases n with
     |zero=>cases en
     |succ n=>
      simp only at en
      have itm:=T.item Y Yp Yw YK YA i [] s5 σ5 H5 (fun _ _=>False) I5 (fp5 fr5) st5 go
      rw[YA] at itm
      refine thn itm fun r s6 ⟨u,hr6,w6⟩=> ?_
      subst hr6
      refine thn w6 fun _ s7 ⟨x,H7,I7,r7,y7,st7,fr7⟩=> ?_
      obtain ⟨ex7,hr7,rp7⟩:=yl x H7 y7
      have sr5:=sr5.mono ex7
      have hr5:=hr7
      have ex5:=ex5.trans ex7
      have I7':=I7.pinned (fp5 fr7) (T.obj _ _ st7)
      cases eg:gt d ρ5 with
      |none=>rw[eg] at en;cases en
      |some ρ6=>
       rw[eg] at en
       simp only at en
       have asg:=pt _ s7 σ5 H7 x u _ I7' r7 (qt x d σ5 ρ5 H7 α5 ρ6 (fun σ' H'=>H'=H7/\SR X.K H7 α5 σ' ρ6) (by rw[YK];exact sr5) (by rw[YK];exact rp7) eg fun σ' s'=>⟨rfl,by rw[YK] at s';exact s'⟩)
       rw[Yp,Yw,YA,Ye] at asg
       refine wpAny_mono asg (fun _ s8 ⟨σ8,H8,I8,z8,sr8⟩=> ?_) (fun _ _ z=>by rw[<- hX] at z;exact z)
       subst z8
       have again: ∀ {σ9:L2.St} {H9:Hp} {s9:Shared},Inv Y ([] ++ Zbt fp s7.heap) σ9 H9 s9->Inv Y [] σ9 H9 s9/\tn (i + 1) s9.heap/\ ∀ b∈fp,H9 b=none:=fun {σ9 H9 s9} I9=>by
        refine ⟨I9.unpinned,T.keep _ _ _ st7 fun b hb o e=>(I9.pin (b,o) (List.mem_append_right _ (List.mem_append_right _ (Zaa hb e)))).1,fun b hb=> ?_⟩
        obtain ⟨o,e,_⟩:=T.obj _ _ st7 b hb
        exact (I9.pin (b,o) (List.mem_append_right _ (List.mem_append_right _ (Zaa hb e)))).2.1
       have after: ∀ (kk:Bool) (M8:Sto) (H9:Hp) (α9:List Addr) (s9:Shared),Inv Y ([] ++ Zbt fp s7.heap) σ8 H9 s9->Ext X.K H8 H9 α5 α9->HR X.K H9 α9 M8->c ρ6 M5= .ok kk M8->
         (if kk=true then wpAny (model X.prog X.w) X.A (eval kx (compEnvC scope cl s3.heap.objs.size X.env)) (fun kv s₄=>wpAny (model X.prog X.w) X.A (eval vx (compEnvC scope cl s3.heap.objs.size X.env)) (fun vv s₅=>wpAny (model X.prog X.w) X.A (dictSet D kv vv) (fun _ s₆=> ∃ m,m < n + 1/\ ∃ i σ' ρ' H' α' M',Inv Y [] σ' H' s₆/\tn i s₆.heap/\(∀ b∈fp,H' b=none)/\SR X.K H' α' σ' ρ'/\HR X.K H' α' M'/\Ext X.K H3 H' (α2 ++ [D]) α'/\ZbT src gt c fk fv M2.length m i ρ' M'= .ok u9 M9) (fun _ _=>False) s₅) (fun _ _=>False) s₄) (fun _ _=>False) s9
          else ∃ m,m < n + 1/\ ∃ i σ' ρ' H' α' M',Inv Y [] σ' H' s9/\tn i s9.heap/\(∀ b∈fp,H' b=none)/\SR X.K H' α' σ' ρ'/\HR X.K H' α' M'/\Ext X.K H3 H' (α2 ++ [D]) α'/\ZbT src gt c fk fv M2.length m i ρ' M'= .ok u9 M9):=by
        intro kk M8 H9 α9 s9 I9 ex9 hr9 ec
        rw[ec] at en
        cases kk with
        |false=>
         obtain ⟨a1,a2,a3⟩:=again I9
         exact ZiP ⟨n,Nat.lt_succ_self n,i + 1,σ8,ρ6,H9,α9,M8,a1,a2,a3,sr8.mono ex9,hr9,ex5.trans ex9,en⟩
        |true=>
         simp only at en
         refine ZiQ ?_
         cases ef:fk ρ6 M8 with
         |exc x9 M10=>rw[ef] at en;cases en
         |bad=>rw[ef] at en;cases en
         |ok y M10=>
          rw[ef] at en
          simp only at en
          have ev:=pk _ s9 σ8 H9 (fun v H'=> ∃ α',Ext X.K H9 H' α9 α'/\HR X.K H' α' M10/\Rep X.K H' α' v y) I9 (qk σ8 ρ6 H9 α9 M8 _ (by rw[YK];exact sr8.mono ex9) (by rw[YK];exact hr9) (by
           rw[ef,YK]
           exact fun v H' α' e h r=>⟨α',e,h,r⟩))
          rw[Yp,Yw,YA,Ye] at ev
          refine wpAny_mono ev (fun yv s10 ⟨v,H10,I10,r10,α10,ex10,hr10,rp10⟩=> ?_) (fun _ _ z=>by rw[<- hX] at z;exact z)
          cases eg2:fv ρ6 M10 with
          |exc x9 M11=>rw[eg2] at en;cases en
          |bad=>rw[eg2] at en;cases en
          |ok y2 M11=>
           rw[eg2] at en
           simp only at en
           have ev2:=pv _ s10 σ8 H10 (fun v H'=> ∃ α',Ext X.K H10 H' α10 α'/\HR X.K H' α' M11/\Rep X.K H' α' v y2) I10 (qv σ8 ρ6 H10 α10 M10 _ (by rw[YK];exact (sr8.mono ex9).mono ex10) (by rw[YK];exact hr10) (by
            rw[eg2,YK]
            exact fun v H' α' e h r=>⟨α',e,h,r⟩))
           rw[Yp,Yw,YA,Ye] at ev2
           refine wpAny_mono ev2 (fun yv2 s11 ⟨v2,H11,I11,r11,α11,ex11,hr11,rp11⟩=> ?_) (fun _ _ z=>by rw[<- hX] at z;exact z)
           have aD11:=ex11.get (ex10.get (ex9.get (ex5.get aD)))
           have rk:=Rep.mono ex11 rp10
           simp only[Znu] at en
           cases e5:kT y with
           |none=>simp only[e5] at en;cases en
           |some kk=>
            cases em:M11[M2.length]? with
            |none=>simp only[e5,em] at en;cases en
            |some so=>
             cases so with
             |lst ds=>
              simp only[e5,em] at en
              by_cases cz:ds.length < 10000000
              ·simp only[if_pos cz] at en
               obtain ⟨kvs,g1,g2⟩:=hr11.atT aD11 em
               have kn:Kn (upd H11 D (.dT (ZgY kvs kk v2))) D=some 2:=by unfold Kn;rw[Zr]
               have exw:Ext X.K H11 (upd H11 D (.dT (ZgY kvs kk v2))) α11 α11:=Ext.wrK aD11.kn kn
               have eg3:=ZhB Zfy kk g2 rp11
               rw[<- Znr e5] at eg3
               cases rk with
               | @tup tb txs tds thb trb=>
                cases r10
                have hkey:H11 tb=some (.tup (kk.map kV)):=by rw[thb,Zdz (X:=X) trb e5]
                have st:=ZnE (A:=X.A) (E:=fun _ _=>False) (by omega) I11 g1 hkey (by rw[ZhC g2];exact Nat.lt_of_lt_of_le cz (by decide)) r11 (Q:=fun _ s'=>Inv Y ([] ++ Zbt fp s7.heap) σ8 (upd H11 D (.dT (ZgY kvs kk v2))) s') fun s' I'=>I'
                rw[Yp,Yw] at st
                refine wpAny_mono st (fun _ s12 I12=> ?_) (fun _ _ z=>z)
                obtain ⟨a1,a2,a3⟩:=again I12
                exact ⟨n,Nat.lt_succ_self n,i + 1,σ8,ρ6,_,α11,_,a1,a2,a3,(((sr8.mono ex9).mono ex10).mono ex11).mono exw,hr11.wrO aD11.at' exw (.inr (.inr ⟨_,Zr,Zf5 eg3 exw⟩)),(((ex5.trans ex9).trans ex10).trans ex11).trans exw,en⟩
               |_=>cases e5
              ·simp only[if_neg cz] at en
               cases en
       rcases tst with ⟨rfl,ec⟩ | ⟨e,rfl,tt',ptt,qtt⟩
       ·refine wpAny_tests_nil ?_
        exact after true M5 H8 α5 s8 I8 Ext.refl hr5 (by rw[ec])
       ·refine wpAny_tests_one ?_
        cases ec:c ρ6 M5 with
        |exc x9 M10=>rw[ec] at en;cases en
        |bad=>rw[ec] at en;cases en
        |ok kk M8=>
         have tv':=ptt _ s8 σ8 H8 (fun b H'=>b=kk/\ ∃ α',Ext X.K H8 H' α5 α'/\HR X.K H' α' M8) I8 (qtt σ8 ρ6 H8 α5 M5 _ (by rw[YK];exact sr8) (by rw[YK];exact hr5) (by
          rw[ec,YK]
          exact fun v H' α' e h r=>⟨r,α',e,h⟩))
         rw[Yp,Yw,YA,Ye] at tv'
         refine wpAny_mono tv' (fun b s9 ⟨H9,I9,zb,α9,ex9,hr9⟩=> ?_) (fun _ _ z=>by rw[<- hX] at z;exact z)
         subst zb
         exact after b M8 H9 α9 s9 I9 ex9 hr9 ec
  exact codeAny_compStart_dict loop (T.self X.A 0 _ _ _ st4 loop)
end
end DL
end
namespace DL
open PySem PySem.Spec L2
section
variable {X:Cx} {ξ:XK} {a b c:Expr} {fa fb fc:Ev} {pos:Pos}
noncomputable def Zlm (f:Ev):Prop:= ∀ ρ,(∃ d,∀ M,f ρ M= .ok d M)\/ ∀ M,f ρ M= .bad
theorem ZnF {i:Nat}:Zlm (Zd i):=fun ρ=>by
 cases e:ρ[i]? with
 |none=>exact .inr fun M=>by simp only[Zd,e]
 |some o=>
  cases o with
  |none=>exact .inr fun M=>by simp only[Zd,e]
  |some d=>exact .inl ⟨d,fun M=>by simp only[Zd,e]⟩
theorem Zqs {r r':R2} {f g:Bo} (hp:Zlm fb) (hf:BO X ξ r f) (hg:BO X ξ r' g) {ta tb tc:TE}
  (qa: ∀ σ ρ H α M Q,SR X.K H α σ ρ->HR X.K H α M->OP X.K H α ξ Q (fa ρ M)->ta σ H Q)
  (qb: ∀ σ ρ H α M Q,SR X.K H α σ ρ->HR X.K H α M->OP X.K H α ξ Q (fb ρ M)->tb σ H Q)
  (qc: ∀ σ ρ H α M Q,SR X.K H α σ ρ->HR X.K H α M->OP X.K H α ξ Q (fc ρ M)->tc σ H Q):
  ∀ σ ρ H α M Q,SR X.K H α σ ρ->HR X.K H α M->OP X.K H α ξ Q (Zf0 (e2 f fa fb) (e2 g fb fc) ρ M)->ZjL r r' ta tb tc σ H Q:=by
 intro σ ρ H α M Q s h q
 unfold Zf0 e2 at q
 rcases hp ρ with ⟨d,hd⟩ | hd
 ·have q:OP X.K H α ξ Q ((fa ρ M).bind fun x M1=>(fb ρ M1).bind fun y M2=>(f x y M2).bind fun z M3=>match z with | .bl k=>if k=true then (fc ρ M3).bind fun w M4=>g d w M4 else .ok (.bl false) M3 | _=> .bad):=by
   simp only[hd,Out.bind] at q ⊢
   cases e:fa ρ M with
   |ok x M1=>simp only[e] at q ⊢;exact q
   |exc c M1=>simp only[e] at q ⊢;exact q
   |bad=>simp only[e] at q ⊢;exact q
  refine qa σ ρ H α M _ s h (OG.seq q fun x M1 v H1 α1 e1 h1 r1 q1=> ?_)
  rw[hd] at q1
  refine qb σ ρ H1 α1 M1 _ (s.mono e1) h1 ?_
  rw[hd]
  intro w H2 α2 e2 h2 r2
  have q2:=OG.ext (o:=(f x d M1).bind fun z M3=>match z with | .bl k=>if k=true then (fc ρ M3).bind fun w M4=>g d w M4 else .ok (.bl false) M3 | _=> .bad) q1 e2
  refine hf H2 α2 M1 v w x d _ h2 (Rep.mono e2 r1) r2 (OG.seq q2 fun z M3 u H3 α3 e3 h3 r3 q3=> ?_)
  cases r3 with
  |bl k=>
   refine ⟨k,rfl,?_⟩
   cases k with
   |true=>
    refine ZiQ (qc σ ρ H3 α3 M3 _ ((s.mono e1).mono (e2.trans e3)) h3 (OG.seq q3 fun w' M4 u' H4 α4 e4 h4 r4 q4=> ?_))
    exact hg H4 α4 M4 w u' d w' Q h4 (Rep.mono (e3.trans e4) r2) r4 q4
   |false=>exact ZiP (q3 _ H3 α3 Ext.refl h3 (.bl false))
  |_=>exact q3.elim
 ·simp only[hd] at q
  refine qa σ ρ H α M _ s h ?_
  cases e:fa ρ M with
  |ok x M1=>rw[e] at q;exact q.elim
  |exc c M1=>rw[e] at q;exact q
  |bad=>rw[e] at q;exact q
theorem ZnG {op op':CmpOp} {r r':R2} {f g:Bo} (ho:OpR X (compareOp op) r) (hf:BO X ξ r f) (ho':OpR X (compareOp op') r') (hg:BO X ξ r' g) (hp:Zlm fb) (ha:DE X ξ a fa) (hb:DE X ξ b fb) (hc:DE X ξ c fc)
  (hm:lastMarks [op,op'] [b,c]=false:=by with_unfolding_all rfl):DT X ξ (.Compare a [op,op'] [b,c] pos) (tv (Zf0 (e2 f fa fb) (e2 g fb fc))):=by
 obtain ⟨ta,ha,qa⟩:=ha
 obtain ⟨tb,hb,qb⟩:=hb
 obtain ⟨tc,hc,qc⟩:=hc
 exact ⟨_,ZiH ho ho' ha hb hc hm,Zg0 (Zqs hp hf hg qa qb qc)⟩
end
end DL
section
namespace DL
open PySem PySem.Spec PyProof.Rows L2 PySem.W
noncomputable def Zgc:List Value->List Int->Bool
 | [],[]=>true
 | .int i _ :: r,j :: s=>i == j && Zgc r s
 |_,_=>false
noncomputable def Zgd (K:PySem.W.Frag) (v:Value):Option (Addr × List Value):=match v with
 | .ref p=>(match K.lookup p with
  |some o=>if (o.cls == .type "tuple" && o.dict.isNone)=true then (match o.data with | .seq its _=>if its.size<=1000 then some (p,its.toList) else none | _=>none) else none
  |none=>none)
 |_=>none
noncomputable def Zge (K:PySem.W.Frag):List Value->List (List Int)->Bool
 | [],[]=>true
 |v :: r,js :: s=>(match Zgd K v with | some (_,us)=>Zgc us js | none=>false) && Zge K r s
 |_,_=>false
noncomputable def Zji (K:PySem.W.Frag) (x:Str) (rows:List (List Int)):Bool:=match nsIn K mainGlobals x with
 |some (some v)=>(match Zgd K v with | some (_,us)=>Zge K us rows | none=>false)
 |_=>false
noncomputable def ZnH (rows:List (List Int)):D:= .con (rows.map fun r=> .con (r.map D.int))
section
variable {K:PySem.W.Frag} {H:Hp} {α:List Addr}
theorem ZfA: ∀ {us:List Value} {js:List Int},Zgc us js=true-> ∃ xs,ZW xs us/\Reps K H α xs (js.map D.int)
 | [],[],_=>⟨[],.nil,.nil⟩
 | .int i t :: r,j :: s,h=>by
  simp only[Zgc,Bool.and_eq_true,beq_iff_eq] at h
  obtain ⟨xs,h1,h2⟩:=ZfA h.2
  obtain ⟨rfl,-⟩:=h
  exact ⟨.int i :: xs,.cons ⟨t,rfl⟩ h1,.cons (.int i) h2⟩
 | [],_ :: _,h=>by simp[Zgc] at h
 | .int _ _ :: _,[],h=>by simp[Zgc] at h
theorem ZfB {v:Value} {p:Addr} {us:List Value} (h:Zgd K v=some (p,us)):v= .ref p/\ ∃ (o:Obj) (its:Array Value) (n:Nat),K.lookup p=some o/\o.cls= .type "tuple"/\o.data= .seq its n/\its.size<=sizeLine/\its.toList=us/\o.dict=none:=by
 unfold Zgd at h
 split at h
 ·rename_i p'
  split at h
  ·rename_i o ho
   split at h
   ·rename_i hc
    split at h
    ·rename_i its n hd
     split at h
     ·rename_i hz
      cases h
      simp only[Bool.and_eq_true,beq_iff_eq,Option.isNone_iff_eq_none] at hc
      exact ⟨rfl,o,its,n,ho,hc.1,hd,Nat.le_trans hz (by decide),rfl,hc.2⟩
     ·cases h
    ·cases h
   ·cases h
  ·cases h
 ·cases h
theorem ZfC: ∀ {us:List Value} {rows:List (List Int)},Zge K us rows=true-> ∃ xs,ZW xs us/\Reps K H α xs (rows.map fun r=>D.con (r.map D.int))
 | [],[],_=>⟨[],.nil,.nil⟩
 |v :: r,js :: s,h=>by
  simp only[Zge,Bool.and_eq_true] at h
  obtain ⟨h1,h2⟩:=h
  obtain ⟨xs,k1,k2⟩:=ZfC h2
  cases e:Zgd K v with
  |none=>rw[e] at h1;cases h1
  |some q=>
   obtain ⟨p,us⟩:=q
   rw[e] at h1
   obtain ⟨rfl,o,its,n,a1,a2,a3,a4,a5,a6⟩:=ZfB e
   obtain ⟨ys,b1,b2⟩:=ZfA (K:=K) (H:=H) (α:=α) h1
   exact ⟨.ref p :: xs,.cons rfl k1,.cons (.con ⟨o,its,n,a1,a2,a3,a4,by rw[a5];exact b1,a6⟩ b2) k2⟩
 | [],_ :: _,h=>by simp[Zge] at h
 |_ :: _,[],h=>by simp[Zge] at h
end
section
variable {X:Cx} {ξ:XK} {pos:Pos}
theorem Zj6 {x:Str} {rows:List (List Int)} (hx:Zji X.K x rows=true) (gl: ∀ c v,nsIn X.K mainGlobals c=some (some v)->X.mg c=some v) (hg:Gl X x:=by rfl) (hdb:(x == ("__debug__":Str))=false:=by decide):DE X ξ (.Name x pos) (eC (ZnH rows)):=by
 unfold Zji at hx
 split at hx
 ·rename_i v hv
  cases e:Zgd X.K v with
  |none=>rw[e] at hx;cases hx
  |some q=>
   obtain ⟨p,us⟩:=q
   rw[e] at hx
   obtain ⟨rfl,o,its,n,a1,a2,a3,a4,a5,a6⟩:=ZfB e
   refine ⟨_,Zky (v:= .ref p) hg (gl x _ hv) rfl hdb,fun σ ρ H α M Q s h q=> ?_⟩
   obtain ⟨ys,b1,b2⟩:=ZfC (K:=X.K) (H:=H) (α:=α) hx
   exact q _ H α Ext.refl h (.con ⟨o,its,n,a1,a2,a3,a4,by rw[a5];exact b1,a6⟩ b2)
 ·cases hx
theorem ZhK {k:Nat} {F:List D->Sto->Out D} {x:Str} {p:Pos} (C:Cal X.prog X.w X.K X.mg X.base x k 0 F) (T:Thr X ξ) (hr:Room k X.A) (hg:Gl X x:=by rfl) (hdb:(x == ("__debug__":Str))=false:=by decide):DE X ξ (.Call (.Name x p) [] [] pos) (Zj F aNil):=by
 obtain ⟨f,fd,ps,G,hm,hk,_,hb⟩:=C
 refine ⟨_,ZiI G hr hg hm hk hb .nil T.ps hdb,fun σ ρ H α M Q s hh q=> ?_⟩
 exact ⟨[],α,M,.nil,hh,q⟩
variable {o e:Expr} {fo fa:Ev} {apos cpos:Pos}
end
end DL
end
section
namespace PySem.SeqAt
open MeetsSeq MeetsSeq2 MeetsSeq3 SeqRoads2
theorem tup_idx (p:Addr) (items:Array Value) (n:Nat) (dd:Option Addr) (sl:Array (Option Value)) (x:Value) (e:Value->Bool) (j:Nat) (hj:j < items.size)
  (hit:e items[j]=true) (hno: ∀ m (hm:m < items.size),m < j->e items[m]=false):
  Meets (Builtin.«tuple.index» ⟨[.ref p,x],[]⟩)
   (fun A R s=>s.heap.get? p=some { cls:= .type "tuple",dict:=dd,data:= .seq items n,slots:=sl }/\(∀ y,y∈items->EqAt A.in1 s y x (e y))/\R (.ok (.ret (.int j s.toks))) { s with toks:=s.toks + 1 }):=by
 intro prog w A R s h
 obtain ⟨hl,he,h⟩:=h
 obtain ⟨hp,g,d,tk,os⟩:=s
 wp_walk using wpAny_tupleItemsOf hl rfl
 rw[Nat.min_self]
 show wpAny _ _ (forIn [:items.size] ((none,()):Option Fin × Unit) _) _ _ _
 rw[Std.Legacy.Range.forIn_eq_forIn_range']
 refine wpAny_forIn_list _ (fun l b s'=>s'=⟨hp,g,d,tk,os⟩/\b=(none,())/\ ∃ i,i<=j/\l=List.range' i (items.size - i)) _ ?_ ?_ _ _ ⟨rfl,rfl,0,Nat.zero_le _,by simp[Std.Legacy.Range.size]⟩
 ·rintro i rest b s' ⟨rfl,rfl,k,hk,e1⟩
  have hk2:k < items.size:=by omega
  rw[show items.size - k=(items.size - (k + 1)) + 1 by omega,List.range'_succ] at e1
  obtain ⟨rfl,rfl⟩:=List.cons.inj e1
  have hi:items[i]?=some items[i]:=by simp[hk2]
  rw[hi]
  refine wpAny_bind (he _ (Array.getElem_mem hk2) prog w _ _ ?_)
  by_cases c:i=j
  ·subst c
   rw[hit]
   simp only[if_true]
   wp_walk
   exact h
  ·rw[hno i hk2 (by omega)]
   simp only[Bool.false_eq_true,if_false]
   exact wpAny_pure ⟨rfl,rfl,i + 1,by omega,rfl⟩
 ·rintro b s' ⟨rfl,rfl,k,hk,e1⟩
  exfalso
  have:=congrArg List.length e1
  simp at this
  omega
end PySem.SeqAt
namespace DL
open PySem PySem.Spec PyProof.Rows L2 PySem.W
section
variable {X:Cx} {ξ:XK} {o e:Expr} {fo fa:Ev} {apos cpos:Pos}
noncomputable def Zqt (X:Cx):V->List V->Hp->VK->Prop:=fun v vs H Q=> ∃ α M d ds bs p xs u j,HR X.K H α M/\v= .ref p/\vs=[u]/\Rep X.K H α u d/\SqT X.K H p xs/\Reps X.K H α xs ds/\eqs M d ds=some bs/\bs.findIdx? id=some j/\Q (.int (j:Nat)) H
theorem Zln (hu:X.A.units + 64 < cLine):MtR X "tuple.index" (Zqt X):=by
 intro pins s σ H x vs v us Q I rx rv hh
 obtain ⟨α,M,d,ds,bs,p,xs,u,j,h,e1,e2,rd,hq,rp,e,ej,q⟩:=hh
 subst e1 e2
 cases rx
 obtain ⟨uv,rfl,ru⟩:=Zcu rv
 obtain ⟨its,r,pl,hz⟩:=I.tuple hq
 obtain ⟨f,f1,f2⟩:=Zht (A:=X.A) hu I h r rp ru rd e
 obtain ⟨⟨cls,dd,data,sl⟩,ho,hc,n,hd⟩:=pl
 simp only at hc hd
 subst hc hd
 obtain ⟨jl,j1,j2⟩:=List.findIdx?_eq_some_iff_getElem.mp ej
 have lb:bs.length=its.length:=by rw[<- f2,List.length_map]
 have gt: ∀ (m:Nat) (hm:m < its.length),bs[m]?=some (f its[m]):=fun m hm=>by rw[<- f2,List.getElem?_map,List.getElem?_eq_getElem hm];rfl
 refine call_meets PySem.F.slot_tuple_index ⟨_,ho,rfl⟩ PySem.F.entry_tuple_index (PySem.F.args_tuple_index_2 _ _) (SeqAt.tup_idx p its.toArray n dd sl uv f j (by simp;omega) ?_ fun m hm hmj=> ?_) ⟨ho,f1,.int (j:Nat),H,I.tok _,⟨_,rfl⟩,q⟩
 ·have g1:=gt j (by omega)
  rw[List.getElem?_eq_getElem jl] at g1
  rw[List.getElem_toArray,<- Option.some.inj g1]
  exact j1
 ·have hm':m < its.length:=by simpa using hm
  have g1:=gt m hm'
  rw[List.getElem?_eq_getElem (by omega)] at g1
  rw[List.getElem_toArray,<- Option.some.inj g1]
  simpa using j2 m hmj
noncomputable def Zqu (g:Me) (fo:Ev) (fs:Av):Ev:=fun ρ M=>(fo ρ M).bind fun x M1=>match x with | .con xs=>(fs ρ M1).bind fun ds M2=>g (.con xs) ds M2 | _=> .bad
noncomputable def ZcT:Me:=fun x ds M=>match x,ds with
 | .con xs,[d]=>(match eqs M d xs with | some bs=>(match bs.findIdx? id with | some j=> .ok (.int (j:Nat)) M | none=> .bad) | none=> .bad)
 |_,_=> .bad
theorem Zlo (hu:X.A.units + 64 < cLine) (ho:DE X ξ o fo) (ha:DE X ξ e fa) (hbase:attributeBase o "index" X.env (eval o X.env)=eval o X.env:=by rfl)
  (hfew:((backTo cpos (starEach [e] X.env)).all (fun x=> !x.1) && (backToKw cpos (keywordEach [] X.env)).all (fun x=>x.1.isSome)
   && decide ([e].length + ([]:List Keyword).length + (if ([]:List Keyword).isEmpty then 0 else 1) < 30))=true:=by rfl)
  (hline:(apos.endLine == cpos.line)=true:=by rfl) (hs:starEach [e] X.env=(false,eval e X.env) :: starEach [] X.env:=by rfl) (hplain:(backTo cpos (starEach [] X.env)).any (·.1)=false:=by rfl):
  DE X ξ (.Call (.Attribute o "index" apos) [e] [] cpos) (Zqu ZcT fo (Zc fa aNil)):=by
 obtain ⟨to,po,qo⟩:=ho
 obtain ⟨ta,pa,qa⟩:=Zb ha Zf hs
 refine ⟨_,ZmN PySem.F.plainAttrs_tuple PySem.F.slot_tuple_index PySem.F.type_tuple_index (Zln hu) po pa hbase hfew hline hs hplain,fun σ ρ H α M Q s h q=> ?_⟩
 refine qo σ ρ H α M _ s h (OG.seq q fun x M1 v H1 α1 e1 h1 r1 q1=> ?_)
 cases r1 with
 | @con p xs ds hp rp=>
  refine ⟨?_,qa σ ρ H1 α1 M1 _ (s.mono e1) h1 (OG.seq q1 fun ds' M2 vs H2 α2 e2 h2 r2 q2=> ?_)⟩
  ·obtain ⟨o,its,n,k1,k2,k3,k4,k5,k6⟩:=hp
   exact .inr (.inl ⟨rfl,o,k1,k2,k6⟩)
  ·match r2 with
   | .nil=>exact q2.elim
   | .cons _ (.cons _ _)=>exact q2.elim
   | .cons (v:=u) (d:=d) ru .nil=>
    cases c2:eqs M2 d ds with
    |none=>simp only[ZcT,c2] at q2;exact q2.elim
    |some bs=>
     cases c3:bs.findIdx? id with
     |none=>simp only[ZcT,c2,c3] at q2;exact q2.elim
     |some j=>
      simp only[ZcT,c2,c3] at q2
      exact ⟨α2,M2,d,ds,bs,p,xs,u,j,h2,rfl,rfl,ru,hp.sq,Reps.mono e2 rp,c2,c3,q2 _ H2 α2 Ext.refl h2 (.int _)⟩
 |_=>exact q1.elim
end
end DL
end
section
namespace DL
open PySem PySem.Spec PyProof.Rows L2
theorem ZhL {i j:Int} (h1: -(2 ^ 64) < j) (h2:j < 2 ^ 64):Z3 i j:= .inr (.inl (intBits_le_64 h1 h2))
theorem ZhM {i j:Int} (h1: -(2 ^ 64) < i) (h2:i < 2 ^ 64):Z3 i j:= .inl (intBits_le_64 h1 h2)
theorem at0 {x:D} {r:List D}:atI (x :: r) 0=some x:=by
 show (ixN (r.length + 1) 0).bind _=_
 unfold ixN
 rw[if_pos (by decide),if_pos (by omega)]
 rfl
theorem at1 {x y:D} {r:List D}:atI (x :: y :: r) 1=some y:=by
 show (ixN (r.length + 2) 1).bind _=_
 unfold ixN
 rw[if_pos (by decide),if_pos (by omega)]
 rfl
theorem Zjj {ns:List Int} {k:Nat} (h:k < ns.length):atI (ns.map D.int) (k:Int)=some (.int ns[k]):=ZeN (by rw[List.getElem?_map,List.getElem?_eq_getElem h];rfl)
theorem Zlp (a:Int):(if a < 0 then -a else a)=(a.natAbs:Int):=by split<;>omega
end DL
end
section
end
section
namespace HD
open PySem PySem.W PyProof.Rows
noncomputable def ZpP (thr:Thread->Bool) (stp:SharedT->Thread->Option (SharedT × Thread)) (n:Nat):SharedT->Thread->Option SharedT:=
 Nat.rec (motive:=fun _=>SharedT->Thread->Option SharedT) (fun _ _=>none) (fun _ ih s t=>Bool.rec (motive:=fun _=>Option SharedT) (Option.rec (motive:=fun _=>Option SharedT) none (fun r=>ih r.1 r.2) (stp s t)) (some s) (thr t)) n
noncomputable def Zjk (ok:Thread->Bool) (stp:SharedT->Thread->Option (SharedT × Thread)) (s:SharedT) (t:Thread):Option (SharedT × Thread):=Bool.rec (motive:=fun _=>Option (SharedT × Thread)) none (stp s t) (ok t)
section
variable {tb:String->Option Builtin} {p:Program} {w:World} {n₀:Nat} {ann:Option Value}
theorem Zj7: ∀ {n:Nat} {s s':SharedT} {t:Thread},ZpP through (Zjk (stepOk n₀ ann) (stepT (denote tb) p w)) n s t=some s'->topRun tb p w n₀ ann n s.abs t=some s'.abs
 |0,s,s',t,h=>by cases h
 |n + 1,s,s',t,h=>by
  unfold topRun
  change Bool.rec (motive:=fun _=>Option SharedT) (Option.rec (motive:=fun _=>Option SharedT) none (fun r=>ZpP through (Zjk (stepOk n₀ ann) (stepT (denote tb) p w)) n r.1 r.2) (Zjk (stepOk n₀ ann) (stepT (denote tb) p w) s t)) (some s) (through t)=some s' at h
  cases ht:through t with
  |true=>
   rw[ht] at h
   have h':some s=some s':=h
   cases h'
   rfl
  |false=>
   rw[ht] at h
   cases hk:stepOk n₀ ann t with
   |false=>
    have e:Zjk (stepOk n₀ ann) (stepT (denote tb) p w) s t=none:=by unfold Zjk;rw[hk]
    rw[e] at h
    cases h
   |true=>
    have e:Zjk (stepOk n₀ ann) (stepT (denote tb) p w) s t=stepT (denote tb) p w s t:=by unfold Zjk;rw[hk]
    rw[e] at h
    cases hs:stepT (denote tb) p w s t with
    |none=>rw[hs] at h;cases h
    |some r=>
     obtain ⟨s2,t2⟩:=r
     rw[hs] at h
     have:=stepT_spec hs
     rw[this]
     exact Zj7 (n:=n) h
end
noncomputable def T0 (w:World) (os:OsState):SharedT:=
 ⟨[boot_o_0,boot_o_1,boot_o_2,boot_o_3,boot_o_4,boot_o_5,boot_o_6,boot_o_7,boot_o_8,boot_o_9,boot_o_10].foldl (fun (r:Nat × BT) o=>(r.1 + 1,r.2.ins r.1 (o w.params))) (0,.nil) |>.2,11,(boot_heap w.params).life,#[],boot_drawn,boot_toks,os⟩
theorem ZnI (w:World) (os:OsState):(T0 w os).abs=⟨boot_heap w.params,#[],boot_drawn,boot_toks,os⟩:=by kernel_rfl
theorem Zlq:Str.ofString "__annotations__"=⟨#[95,95,97,110,110,111,116,97,116,105,111,110,115,95,95]⟩:=by decide +kernel
theorem ZhN {p q:Program} {loose:List Str} {Xt:Shared->Bool} {α:Type} {Yf:Shared->α} {Ya:World->α} {N M:Nat} (e:opening p=plainProg p.main.scope.names) (hN:Nat.ble 600 N=true) (f: ∀ s,fenceModules? p s=some s) (le:Nat.ble M N=true)
  (Zqv: ∀ (w:World) (os:OsState),(ZpP through (Zjk (stepOk 11 (some (.ref 6))) (stepT (denote treeTable) p w)) M (T0 w os) (topStub p)).map (fun s=>((staticsOk (importedModules p.main.body) (boot_heap w.params) s.abs.heap && namesBound p s.abs.heap && gensDone s.abs && laidKept (boot_heap w.params) s.abs.heap),
    openSeen q loose (importedModules p.main.body) Xt true s.abs,Yf s.abs))=some (true,openGood q loose,Ya w)):LeftO p q loose Xt Yf Ya N:=fun w=>by
 obtain ⟨⟨h,gs,d,k,os⟩,e1,e2⟩:=Option.map_eq_some_iff.mp (boot_open e hN f w)
 obtain ⟨rfl,rfl,rfl,rfl⟩:h=boot_heap w.params/\gs=Array.mk []/\d=boot_drawn/\k=boot_toks:=by simpa using e2
 obtain ⟨s',r1,r2⟩:=Option.map_eq_some_iff.mp (Zqv w os)
 obtain ⟨l1,l2,l3⟩:_/\_/\_:=by simpa only[Prod.mk.injEq] using r2
 have r:=Zj7 r1
 rw[ZnI] at r
 have r:=topRun_mono (N - M) _ _ _ _ r
 rw[show M + (N - M)=N by have:=Nat.le_of_ble_eq_true le;omega] at r
 have z1:((boot_heap w.params).isNs mainGlobals && (Array.mk []:Array GenState).size == 0)=true:=by kernel_rfl
 have z2:(boot_heap w.params).objs.size=11:=rfl
 have z3:(boot_heap w.params).nsMap mainGlobals "__annotations__"=some (.ref 6):=by
  rw[Zlq]
  kernel_rfl
 have t:topFrom treeTable p w N ⟨boot_heap w.params,Array.mk [],boot_drawn,boot_toks,os⟩=some s'.abs:=by
  unfold topFrom
  dsimp only
  rw[z1,z2,z3,r]
  show (match staticsOk (importedModules p.main.body) (boot_heap w.params) s'.abs.heap && namesBound p s'.abs.heap && gensDone s'.abs && laidKept (boot_heap w.params) s'.abs.heap with | true=>_ | false=>_)=_
  rw[l1]
 unfold openEnds
 rw[e1]
 show (topFrom treeTable p w N _).map _=_
 rw[t]
 exact congrArg some (Prod.ext l2 l3)
end HD
namespace HD
open PySem PySem.W
theorem Zqw: @stepOk= @PySem.W.Fast.tw6613529449190102663:=PySem.W.Fast.te6613529449190102663
theorem Zlr: @stepT= @PySem.W.Fast.tw10156331382660048174:=PySem.W.Fast.te10156331382660048174
theorem ZnJ: @denote= @PySem.W.Fast.tw11892475500146522536:=PySem.W.Fast.te11892475500146522536
theorem ZnK: @treeTable= @PySem.W.Fast.tw14364793385576792824:=PySem.W.Fast.te14364793385576792824
theorem Zls: @openSeen= @PySem.W.Fast.tw4187177175401517315:=PySem.W.Fast.te4187177175401517315
theorem ZnL: @importedModules= @PySem.W.Fast.tw5923862056798008813:=PySem.W.Fast.te5923862056798008813
end HD
end
section
namespace DL
open PySem PySem.Spec PyProof.Rows L2
noncomputable def wO {β:Type} (o:Out β) (Q:β->Sto->Prop) (E:Str->Sto->Prop):Prop:=match o with
 | .ok a M=>Q a M
 | .exc c M=>E c M
 | .bad=>False
noncomputable def wS (f:Fl) (N:Ro->Sto->Prop) (R:D->Sto->Prop) (B C:Ro->Sto->Prop) (E:Str->Sto->Prop):Prop:=match f with
 | .nx ρ M=>N ρ M
 | .ret d M=>R d M
 | .brk ρ M=>B ρ M
 | .cnt ρ M=>C ρ M
 | .exc c M=>E c M
 | .bad=>False
noncomputable def Br (k:Bool) (A B:Prop):Prop:=(k=true->A)/\(k=false->B)
noncomputable def wG {β:Type} (o:Option β) (N:β->Prop):Prop:=match o with | some ρ=>N ρ | none=>False
noncomputable def wV (o:Option (Option D)) (Q:D->Prop):Prop:=match o with | some (some d)=>Q d | _=>False
noncomputable def wI (x:D) (Q:Int->Prop):Prop:=match x with | .int i=>Q i | _=>False
noncomputable def wB (x:D) (Q:Bool->Prop):Prop:=match x with | .bl i=>Q i | _=>False
noncomputable def wR (x:D) (Q:Nat->Prop):Prop:=match x with | .ref i=>Q i | _=>False
noncomputable def w1 (x:List D) (Q:D->Prop):Prop:=match x with | [v]=>Q v | _=>False
noncomputable def w2 (x:List D) (Q:D->D->Prop):Prop:=match x with | [v,w]=>Q v w | _=>False
noncomputable def wL (o:Option SO) (Q:List D->Prop):Prop:=match o with | some (.lst xs)=>Q xs | none=>False
section
variable {β:Type} {o o':Option (Option D)} {x x':D} {Q:D->Prop} {QI:Int->Prop} {QB:Bool->Prop} {QR:Nat->Prop} {QL:List D->Prop} {l l':Option SO} {d:D} {i:Int} {k:Bool} {n:Nat} {xs:List D} {g g':Option β} {QG:β->Prop} {y:β}
theorem ZtK:w1 [d] Q=Q d:=rfl
theorem ZtL {Q2:D->D->Prop}:w2 [d,x] Q2=Q2 d x:=rfl
theorem ZtM:wV (some (some d)) Q=Q d:=rfl
theorem ZtN:wI (.int i) QI=QI i:=rfl
theorem ZtO:wB (.bl k) QB=QB k:=rfl
theorem ZtP:wR (.ref n) QR=QR n:=rfl
theorem ZtQ:wL (some (.lst xs)) QL=QL xs:=rfl
theorem ZtR:wG (some y) QG=QG y:=rfl
end
section
variable {β:Type} {Q:β->Sto->Prop} {E:Str->Sto->Prop} {N B C:Ro->Sto->Prop} {R:D->Sto->Prop} {ρ:Ro} {M:Sto} {A A':Prop}
theorem Zn {d:β}:wO (.ok d M) Q E=Q d M:=rfl
theorem ZnM {c:Str}:wO (.exc c M:Out β) Q E=E c M:=rfl
theorem ZnN:Br true A A'=A:=by simp[Br]
theorem Zsq:Br false A A'=A':=by simp[Br]
theorem brN {p:Prop} [Decidable p] (h1: ¬ p->A) (h2:p->A'):Br (!decide p) A A':=⟨fun h=>h1 (by simpa using h),fun h=>h2 (by simpa using h)⟩
theorem ZeZ {o:Out β} {Q':β->Sto->Prop} {E':Str->Sto->Prop} (h:wO o Q E) (hq: ∀ d M,Q d M->Q' d M) (he: ∀ c M,E c M->E' c M):wO o Q' E':=by
 cases o with
 |ok d M=>exact hq d M h
 |exc c M=>exact he c M h
 |bad=>exact h
theorem ZhO {o:Out β} (h:wO o Q (fun _ _=>False)): ∃ d M',o= .ok d M'/\Q d M':=by
 cases o with
 |ok d M=>exact ⟨d,M,rfl,h⟩
 |exc c M=>exact h.elim
 |bad=>exact h.elim
theorem Zt {γ:Type} {o:Out γ} {f:γ->Sto->Out β}:wO (o.bind f) Q E=wO o (fun x M1=>wO (f x M1) Q E) E:=by cases o<;>rfl
end
section
variable {Q:D->Sto->Prop} {E:Str->Sto->Prop} {N B C:Ro->Sto->Prop} {R:D->Sto->Prop} {ρ:Ro} {M:Sto} {e f g:Ev} {fs:Av}
theorem Zqx {op:Bo}:wO (e2 op f g ρ M) Q E=wO (f ρ M) (fun x M1=>wO (g ρ M1) (fun y M2=>wO (op x y M2) Q E) E) E:=by
 unfold e2
 rw[Zt]
 congr 1
 funext x M1
 rw[Zt]
theorem ZtS {i:Nat}:wO (Zd i ρ M) Q E=wV ρ[i]? (fun d=>Q d M):=by
 unfold Zd
 cases ρ[i]? with
 |none=>rfl
 |some o=>cases o<;>rfl
theorem Zlt {F:List D->Sto->Out D}:wO (Zj F fs ρ M) Q E=wO (fs ρ M) (fun ds M1=>wO (F ds M1) Q E) E:=Zt
theorem Zlu {Q:List D->Sto->Prop}:wO (Zc f fs ρ M) Q E=wO (f ρ M) (fun x M1=>wO (fs ρ M1) (fun xs M2=>Q (x :: xs) M2) E) E:=by
 unfold Zc
 rw[Zt]
 congr 1
 funext x M1
 rw[Zt]
 congr 1
theorem ZnO:wO (Zal fs ρ M) Q E=wO (fs ρ M) (fun xs M1=>xs.length<=1000/\Q (.tup xs) M1) E:=by
 unfold Zal
 rw[Zt]
 congr 1
 funext x M1
 by_cases h:x.length<=1000
 ·rw[if_pos h];simp[h,wO]
 ·rw[if_neg h];simp[h,wO]
theorem ZnP:wO (Zc5 fs ρ M) Q E=wO (fs ρ M) (fun xs M1=>xs.length<=1000/\Q (.ref M1.length) (M1 ++ [.lst xs])) E:=by
 unfold Zc5
 rw[Zt]
 congr 1
 funext x M1
 by_cases h:x.length<=1000
 ·rw[if_pos h];simp[h,wO]
 ·rw[if_neg h];simp[h,wO]
variable {t u:Tv}
theorem ZnQ {Q:Bool->Sto->Prop}:wO (ZfZ t ρ M) Q E=wO (t ρ M) (fun k M1=>Q (!k) M1) E:=by
 unfold ZfZ
 rw[Zt]
 congr 1
variable {a b:Sv}
theorem ZnR:wS (Zu a b ρ M) N R B C E=wS (a ρ M) (fun ρ1 M1=>wS (b ρ1 M1) N R B C E) R B C E:=by
 unfold Zu
 cases a ρ M<;>rfl
theorem Zag {β:Type} {o:Out β} {k:β->Sto->Fl}:wS (ZaY o k) N R B C E=wO o (fun x M1=>wS (k x M1) N R B C E) E:=by cases o<;>rfl
theorem ZnS:wS (Zaf f ρ M) N R B C E=wO (f ρ M) R E:=Zag
theorem Zlv:wS (ZaJ f ρ M) N R B C E=wO (f ρ M) (fun _ M1=>N ρ M1) E:=Zag
theorem ZnT {i:Nat}:wS (ZD (gNm i) f ρ M) N R B C E=wO (f ρ M) (fun d M1=>N (ρ.set i (some d)) M1) E:=Zag
theorem Zlw {gs:Tgs}:wS (ZD (gTp gs) f ρ M) N R B C E=wO (f ρ M) (fun d M1=>wG (gTp gs d ρ) (fun r=>N r M1)) E:=by
 unfold ZD
 rw[Zag]
 congr 1
 funext d M1
 cases gTp gs d ρ<;>rfl
theorem ZnU {i j:Nat}:wS (ZeI i j fs ρ M) N R B C E=wO (fs ρ M) (fun ds M1=>w2 ds fun v w=>N ((ρ.set i (some v)).set j (some w)) M1) E:=by
 unfold ZeI
 rw[Zag]
 congr 1
 funext ds M1
 rcases ds with _ | ⟨v,_ | ⟨w,_ | ⟨z,r⟩⟩⟩<;>rfl
theorem ZnV {fo fi:Ev}:wS (Zqg fo fi f ρ M) N R B C E=wO (f ρ M) (fun d M1=>wO (fo ρ M1) (fun o M2=>wO (fi ρ M2) (fun i M3=>wR o fun n=>wI i fun k=>wL M3[n]? fun xs=>wG (ixN xs.length k) fun j=>N ρ (M3.set n (.lst (xs.set j d)))) E) E) E:=by
 unfold Zqg
 rw[Zag]
 congr 1
 funext d M1
 rw[Zag]
 congr 1
 funext o M2
 rw[Zag]
 congr 1
 funext i M3
 cases o<;>cases i<;>try rfl
 rename_i n k
 cases e:M3[n]? with
 |none=>simp only[e,wR,wI,wL,wS]
 |some s=>
  cases s with
  |lst xs=>
   cases e2:ixN xs.length k<;>simp only[e,e2,wR,wI,wL,wG,wS]
theorem Zjl {c:Str}:wS (ZbA c fs ρ M) N R B C E=wO (fs ρ M) (fun ds M1=>ds.length<=1000/\E c M1) E:=by
 unfold ZbA
 rw[Zag]
 congr 1
 funext ds M1
 by_cases h:ds.length<=1000
 ·rw[if_pos h];simp[h,wS]
 ·rw[if_neg h];simp[h,wS]
theorem wF {n k:Nat} {ds:List D} (hl:ds.length=n):wO (fnF a n k ds M) Q E=wS (a (ds.map some ++ List.replicate k none) M) (fun _ M1=>Q .non M1) Q (fun _ _=>False) (fun _ _=>False) E:=by
 unfold fnF
 rw[if_pos hl]
 cases a (ds.map some ++ List.replicate k none) M<;>rfl
theorem ZhP {o:Fl} {N' B' C':Ro->Sto->Prop} {R':D->Sto->Prop} {E':Str->Sto->Prop} (h:wS o N R B C E) (hn: ∀ ρ M,N ρ M->N' ρ M) (hr: ∀ d M,R d M->R' d M) (hb: ∀ ρ M,B ρ M->B' ρ M) (hc: ∀ ρ M,C ρ M->C' ρ M) (he: ∀ c M,E c M->E' c M):wS o N' R' B' C' E':=by
 cases o with
 |nx ρ M=>exact hn _ _ h
 |ret ρ M=>exact hr _ _ h
 |brk ρ M=>exact hb _ _ h
 |cnt ρ M=>exact hc _ _ h
 |exc ρ M=>exact he _ _ h
 |bad=>exact h
variable {tg:Tg} {bd:Sv} {fi:Ro->Sto->Out Src}
theorem Ze0 (I:Nat->Ro->Sto->Prop): ∀ (xs:List D) (k:Nat) (ρ:Ro) (M:Sto),I k ρ M->(∀ i ρ M (h:i < xs.length),I (k + i) ρ M->wG (tg xs[i] ρ) fun r=>wS (bd r M) (I (k + i + 1)) R N (I (k + i + 1)) E)->(∀ ρ M,I (k + xs.length) ρ M->N ρ M)->wS (ZbL tg bd xs ρ M) N R B C E
 | [],k,ρ,M,h,_,hn=>hn ρ M h
 |x :: xs,k,ρ,M,h,st,hn=>by
  have s:=st 0 ρ M (by simp) h
  unfold ZbL
  simp only[List.getElem_cons_zero,Nat.add_zero] at s
  cases e:tg x ρ with
  |none=>rw[e] at s;exact s.elim
  |some ρ1=>
   rw[e] at s
   simp only[wG] at s
   have rc: ∀ ρ2 M2,I (k + 1) ρ2 M2->wS (ZbL tg bd xs ρ2 M2) N R B C E:=fun ρ2 M2 h2=>Ze0 I xs (k + 1) ρ2 M2 h2 (fun i ρ M hi hI=>by
    have z:=st (i + 1) ρ M (by simp;omega) (by rw[show k + (i + 1)=k + 1 + i by omega];exact hI)
    simp only[List.getElem_cons_succ] at z
    rw[show k + (i + 1) + 1=k + 1 + i + 1 by omega] at z
    exact z) (fun ρ M hI=>hn ρ M (by rw[show k + (x :: xs).length=k + 1 + xs.length by simp;omega];exact hI))
   cases eg:bd ρ1 M<;>rw[eg] at s<;>simp only[eg]
   ·exact rc _ _ s
   ·exact s
   ·exact s
   ·exact rc _ _ s
   ·exact s
   ·exact s
theorem Zlx:wS (Zb0 tg fs bd ρ M) N R B C E=wO (fs ρ M) (fun ds M1=>w1 ds fun d=>wI d fun j=>(-(2 ^ 62)<=j/\j < 2 ^ 62)/\wS (ZbL tg bd (Zbs 0 j.toNat) ρ M1) N R B C E) E:=by
 unfold Zb0
 rw[Zag]
 congr 1
 funext ds M1
 rcases ds with _ | ⟨v,_ | ⟨w,r⟩⟩
 ·rfl
 ·cases v<;>try rfl
  rename_i j
  by_cases h: -(2 ^ 62)<=j/\j < 2 ^ 62
  ·simp only[w1,wI,eq_true h,true_and,if_true]
  ·simp only[w1,wI,eq_false h,false_and,if_false]
   rfl
 ·cases v<;>rfl
theorem Zej (I:Nat->Ro->Sto->Prop) {n:Nat} {lo:Int} (h0:I 0 ρ M) (st: ∀ i ρ M,i < n->I i ρ M->wG (tg (.int (lo + i)) ρ) fun r=>wS (bd r M) (I (i + 1)) R N (I (i + 1)) E) (hn: ∀ ρ M,I n ρ M->N ρ M):wS (ZbL tg bd (Zbs lo n) ρ M) N R B C E:=by
 have hl:(Zbs lo n).length=n:=by simp[Zbs]
 refine Ze0 I _ 0 ρ M h0 (fun i ρ M h hI=> ?_) (fun ρ M hI=>hn ρ M (by rw[hl,Nat.zero_add] at hI;exact hI))
 have:(Zbs lo n)[i]= .int (lo + i):=by simp[Zbs]
 rw[this]
 rw[Nat.zero_add] at *
 exact st i ρ M (by rw[hl] at h;exact h) hI
theorem ZnW:wS (Zgw tg f bd ρ M) N R B C E=wO (f ρ M) (fun d M1=>wS (ZjX tg bd d ρ M1) N R B C E) E:=Zag
theorem Zly (I:Nat->Ro->Sto->Prop) {n:Nat} {xs:List D}: ∀ (f i:Nat) (ρ:Ro) (M:Sto),i + f=xs.length->I i ρ M->(∀ i ρ M,I i ρ M->M[n]?=some (.lst xs))->(∀ i ρ M (h:i < xs.length),I i ρ M->wG (tg xs[i] ρ) fun r=>wS (bd r M) (I (i + 1)) R N (I (i + 1)) E)->(∀ ρ M,I xs.length ρ M->N ρ M)->wS (Zgv tg bd n f i ρ M) N R B C E:=by
  intro f
  induction f with
  |zero=>
   intro i ρ M e h hm st hn
   have hx:=hm _ _ _ h
   unfold Zgv
   rw[hx]
   have:xs[i]?=none:=List.getElem?_eq_none (by omega)
   simp only[this]
   exact hn ρ M (by rw[show xs.length=i by omega];exact h)
  |succ f ih=>
   intro i ρ M e h hm st hn
   have hx:=hm _ _ _ h
   unfold Zgv
   rw[hx]
   have hi:i < xs.length:=by omega
   have:xs[i]?=some xs[i]:=List.getElem?_eq_getElem hi
   simp only[this]
   have s:=st i ρ M hi h
   cases e:tg xs[i] ρ with
   |none=>rw[e] at s;exact s.elim
   |some ρ1=>
    rw[e] at s
    simp only[wG] at s
    have rc: ∀ ρ2 M2,I (i + 1) ρ2 M2->wS (Zgv tg bd n f (i + 1) ρ2 M2) N R B C E:=fun ρ2 M2 h2=>ih (i + 1) ρ2 M2 (by omega) h2 hm st hn
    cases eg:bd ρ1 M<;>rw[eg] at s<;>simp only[eg]
    ·exact rc _ _ s
    ·exact s
    ·exact s
    ·exact rc _ _ s
    ·exact s
    ·exact s
theorem ZdD (I:Nat->Ro->Sto->Prop) {n:Nat} {xs:List D} (hM:M[n]?=some (.lst xs)) (h0:I 0 ρ M) (hm: ∀ i ρ M,I i ρ M->M[n]?=some (.lst xs)) (st: ∀ i ρ M (h:i < xs.length),I i ρ M->wG (tg xs[i] ρ) fun r=>wS (bd r M) (I (i + 1)) R N (I (i + 1)) E) (hn: ∀ ρ M,I xs.length ρ M->N ρ M):wS (ZjX tg bd (.ref n) ρ M) N R B C E:=by
 show wS (match M[n]? with | some (.lst xs)=>Zgv tg bd n xs.length 0 ρ M | none=> .bad) N R B C E
 rw[hM]
 exact Zly I xs.length 0 ρ M (by omega) h0 hm st hn
theorem Zlz:wS (Zc6 tg fi bd ρ M) N R B C E=wO (fi ρ M) (fun src M1=>wS (Zfv tg bd src (cnt src M1) 0 ρ M1) N R B C E) E:=Zag
theorem ZnX (I:Nat->Ro->Sto->Prop) {src:Src} {xs:List D}: ∀ (f i:Nat) (ρ:Ro) (M:Sto),i<=xs.length->xs.length<=i + f->I i ρ M->(∀ i ρ M,i<=xs.length->I i ρ M->nxt src i M=some xs[i]?)->(∀ i ρ M (h:i < xs.length),I i ρ M->wG (tg xs[i] ρ) fun r=>wS (bd r M) (I (i + 1)) R N (I (i + 1)) E)->(∀ ρ M,I xs.length ρ M->N ρ M)->wS (Zfv tg bd src f i ρ M) N R B C E:=by
  intro f
  induction f with
  |zero=>
   intro i ρ M le e h hm st hn
   have hx:=hm _ _ _ le h
   unfold Zfv
   rw[hx]
   have hi: ¬ i < xs.length:=by omega
   have:xs[i]?=none:=List.getElem?_eq_none (by omega)
   simp only[this]
   exact hn ρ M (by rw[show xs.length=i by omega];exact h)
  |succ f ih=>
   intro i ρ M le e h hm st hn
   have hx:=hm _ _ _ le h
   unfold Zfv
   rw[hx]
   by_cases hi:i < xs.length
   ·have:xs[i]?=some xs[i]:=List.getElem?_eq_getElem hi
    simp only[this]
    have s:=st i ρ M hi h
    cases e:tg xs[i] ρ with
    |none=>rw[e] at s;exact s.elim
    |some ρ1=>
     rw[e] at s
     simp only[wG] at s
     have rc: ∀ ρ2 M2,I (i + 1) ρ2 M2->wS (Zfv tg bd src f (i + 1) ρ2 M2) N R B C E:=fun ρ2 M2 h2=>ih (i + 1) ρ2 M2 (by omega) (by omega) h2 hm st hn
     cases eg:bd ρ1 M<;>rw[eg] at s<;>simp only[eg]
     ·exact rc _ _ s
     ·exact s
     ·exact s
     ·exact rc _ _ s
     ·exact s
     ·exact s
   ·have:xs[i]?=none:=List.getElem?_eq_none (by omega)
    simp only[this]
    exact hn ρ M (by rw[show xs.length=i by omega];exact h)
theorem Zjm {c:Tv} (I:Nat->Ro->Sto->Prop) (st: ∀ n ρ M,I n ρ M->wO (c ρ M) (fun k M1=>Br k (wS (bd ρ M1) (fun ρ2 M2=> ∃ m,m < n/\I m ρ2 M2) R N (fun ρ2 M2=> ∃ m,m < n/\I m ρ2 M2) E) (N ρ M1)) E): ∀ (n:Nat) (ρ:Ro) (M:Sto),I n ρ M->wS (sWh c bd ρ M) N R B C E:=by
 intro n
 induction n using Nat.strongRecOn with
 |ind n ih=>
  intro ρ M h
  have s:=st n ρ M h
  cases ec:c ρ M with
  |bad=>rw[ec] at s;exact s.elim
  |exc x M1=>rw[ec] at s;rw[Zco (n:=1) (o:= .exc x M1) (by simp only[whN,ec])];exact s
  |ok k M1=>
   rw[ec] at s
   cases k with
   |false=>
    rw[Zn,Zsq] at s
    rw[Zhh ec]
    exact s
   |true=>
    rw[Zn,ZnN] at s
    cases eg:bd ρ M1 with
    |nx ρ2 M2=>
     rw[eg] at s
     obtain ⟨m,hm,hI⟩:=s
     have r:=ih m hm ρ2 M2 hI
     rw[Zi4 ec eg (by intro z;rw[z] at r;exact r)]
     exact r
    |cnt ρ2 M2=>
     rw[eg] at s
     obtain ⟨m,hm,hI⟩:=s
     have r:=ih m hm ρ2 M2 hI
     have nb:sWh c bd ρ2 M2≠ .bad:=by intro z;rw[z] at r;exact r
     obtain ⟨j,ej⟩:=Zhg nb
     rw[Zco (n:=j + 1) (o:=sWh c bd ρ2 M2) (by simp only[whN,ec,eg];exact ej)]
     exact r
    |brk ρ2 M2=>rw[eg] at s;rw[Zco (n:=1) (o:= .nx ρ2 M2) (by simp only[whN,ec,eg])];exact s
    |ret d M2=>rw[eg] at s;rw[Zco (n:=1) (o:= .ret d M2) (by simp only[whN,ec,eg])];exact s
    |exc d M2=>rw[eg] at s;rw[Zco (n:=1) (o:= .exc d M2) (by simp only[whN,ec,eg])];exact s
    |bad=>rw[eg] at s;exact s.elim
theorem ZlA {fi:Ro->Sto->Out Src} {k:Nat} {fr:List Nat} {c:Tv}:wO (Za0 fi k fr tg c f ρ M) Q E=wO (fi ρ M) (fun src M1=>wO (Zcw src tg c f M1.length (cnt src M1) 0 (roB k fr ρ) (M1 ++ [.lst []])) (fun _ M2=>Q (.ref M1.length) M2) (fun _ _=>False)) E:=by
 unfold Za0
 rw[Zt]
 congr 1
 funext src M1
 cases Zcw src tg c f M1.length (cnt src M1) 0 (roB k fr ρ) (M1 ++ [.lst []])<;>rfl
theorem ZhQ (I:Nat->Ro->Sto->Prop) {src:Src} {xs:List D} {c:Tv} {m:Nat} {Q:Sto->Prop}: ∀ (fu i:Nat) (ρ:Ro) (M:Sto),i<=xs.length->xs.length<=i + fu->I i ρ M->(∀ i ρ M,i<=xs.length->I i ρ M->nxt src i M=some xs[i]?)->
  (∀ i ρ M (h:i < xs.length),I i ρ M->wG (tg xs[i] ρ) fun r=>wO (c r M) (fun k M1=>Br k (wO (f r M1) (fun y M2=>wL M2[m]? fun ys=>ys.length < 10000000/\I (i + 1) r (M2.set m (.lst (ys ++ [y])))) (fun _ _=>False)) (I (i + 1) r M1)) (fun _ _=>False))->
  (∀ ρ M,I xs.length ρ M->Q M)->wO (Zcw src tg c f m fu i ρ M) (fun _ M2=>Q M2) (fun _ _=>False):=by
  intro fu
  induction fu with
  |zero=>
   intro i ρ M le e h hm st hn
   have hx:=hm _ _ _ le h
   unfold Zcw
   rw[hx]
   have hi: ¬ i < xs.length:=by omega
   have:xs[i]?=none:=List.getElem?_eq_none (by omega)
   simp only[this]
   exact hn ρ M (by rw[show xs.length=i by omega];exact h)
  |succ fu ih=>
   intro i ρ M le e h hm st hn
   have hx:=hm _ _ _ le h
   unfold Zcw
   rw[hx]
   by_cases hi:i < xs.length
   ·have:xs[i]?=some xs[i]:=List.getElem?_eq_getElem hi
    simp only[this]
    have s:=st i ρ M hi h
    cases e:tg xs[i] ρ with
    |none=>rw[e] at s;exact s.elim
    |some ρ1=>
     rw[e] at s
     simp only[wG] at s
     have rc: ∀ ρ2 M2,I (i + 1) ρ2 M2->wO (Zcw src tg c f m fu (i + 1) ρ2 M2) (fun _ M2=>Q M2) (fun _ _=>False):=fun ρ2 M2 h2=>ih (i + 1) ρ2 M2 (by omega) (by omega) h2 hm st hn
     cases ec:c ρ1 M with
     |bad=>rw[ec] at s;exact s.elim
     |exc _ _=>rw[ec] at s;exact s.elim
     |ok k M1=>
      rw[ec] at s
      rw[Zn] at s
      cases k with
      |false=>
       rw[Zsq] at s
       simp only[ec]
       exact rc _ _ s
      |true=>
       rw[ZnN] at s
       simp only[ec]
       cases ef:f ρ1 M1 with
       |bad=>rw[ef] at s;exact s.elim
       |exc _ _=>rw[ef] at s;exact s.elim
       |ok y M2=>
        rw[ef,Zn] at s
        simp only[ef]
        cases ey:M2[m]? with
        |none=>rw[ey] at s;exact s.elim
        |some o=>
         cases o with
         |lst ys=>
          rw[ey] at s
          simp only[wL,ey] at s ⊢
          rw[if_pos s.1]
          exact rc _ _ s.2
   ·have:xs[i]?=none:=List.getElem?_eq_none (by omega)
    simp only[this]
    exact hn ρ M (by rw[show xs.length=i by omega];exact h)
end
end DL
end
section
namespace DL
open PySem PySem.Spec PyProof.Rows L2
section
variable {Q:D->Sto->Prop} {E:Str->Sto->Prop} {N B C:Ro->Sto->Prop} {R:D->Sto->Prop} {ρ:Ro} {M:Sto} {f:Ev} {fs:Av} {i j:Int} {n m k:Nat} {x y d:D} {xs ys ds:List D} {lo hi:Ro->Sto->Out (Option Int)}
theorem Zek (h: -(18446744073709551616) < i/\i < 18446744073709551616):Z3 i j:=ZhM h.1 h.2
theorem ZdE (h: -(18446744073709551616) < j/\j < 18446744073709551616):Z3 i j:=ZhL h.1 h.2
theorem Zel (h:0 < j/\j < 18446744073709551616):Zbb j:=by
 refine ⟨by omega,?_⟩
 have:j.natAbs.log2 < 64:=(Nat.log2_lt (by omega)).mpr (by omega)
 omega
theorem Zqy:wO (dAdd (.int i) (.int j) M) Q E=Q (.int (i + j)) M:=rfl
theorem Zqz:wO (dSub (.int i) (.int j) M) Q E=Q (.int (i - j)) M:=rfl
theorem ZfD (h:Z3 i j):wO (dMul (.int i) (.int j) M) Q E=Q (.int (i * j)) M:=by
 show wO (if Z3 i j then _ else _) Q E=_
 rw[if_pos h];rfl
theorem ZqA (h: -(18446744073709551616) < i/\i < 18446744073709551616):wO (dMul (.int i) (.int j) M) Q E=Q (.int (i * j)) M:=ZfD (Zek h)
theorem ZnY (h: -(18446744073709551616) < j/\j < 18446744073709551616):wO (dMul (.int i) (.int j) M) Q E=Q (.int (i * j)) M:=ZfD (ZdE h)
theorem ZqB (h:0 < j/\j < 18446744073709551616):wO (dDiv (.int i) (.int j) M) Q E=Q (.int (i / j)) M:=by
 show wO (if Zbb j then _ else _) Q E=_
 rw[if_pos (Zel h),Int.fdiv_eq_ediv_of_nonneg _ (by omega)];rfl
theorem ZqC (h:0 < j):wO (dMod (.int i) (.int j) M) Q E=Q (.int (i % j)) M:=by
 show wO (if j≠0 then _ else _) Q E=_
 rw[if_pos (by omega),Int.fmod_eq_emod_of_nonneg _ (by omega)];rfl
theorem ZqD (h:0<=j/\j<=1000000/\i.natAbs < 18446744073709551616):wO (dPow (.int i) (.int j) M) Q E=Q (.int (i ^ j.toNat)) M:=by
 show wO (if 0<=j/\j<=1000000/\i.natAbs < 2 ^ 64 then _ else _) Q E=_
 rw[if_pos ⟨h.1,h.2.1,by omega⟩];rfl
theorem ZtT:wO (dLt (.int i) (.int j) M) Q E=Q (.bl (decide (i < j))) M:=rfl
theorem ZtU:wO (dLe (.int i) (.int j) M) Q E=Q (.bl (decide (i<=j))) M:=rfl
theorem ZtV:wO (dGt (.int i) (.int j) M) Q E=Q (.bl (decide (j < i))) M:=rfl
theorem ZtW:wO (dGe (.int i) (.int j) M) Q E=Q (.bl (decide (j<=i))) M:=rfl
theorem ZqE:wO (dAdd (.ref n) (.ref m) M) Q E=wL M[n]? fun xs=>wL M[m]? fun ys=>xs.length + ys.length<=10000000/\Q (.ref M.length) (M ++ [.lst (xs ++ ys)]):=by
 show wO (match M[n]?,M[m]? with | some (.lst xs),some (.lst ys)=>_ | _,_=>_) Q E=_
 cases e1:M[n]? with
 |none=>rfl
 |some o=>
  cases o with
  |lst xs=>
   cases e2:M[m]? with
   |none=>rfl
   |some p=>
    cases p with
    |lst ys=>
     by_cases h:xs.length + ys.length<=10000000
     ·simp[wL,h,wO]
     ·simp[wL,h,wO]
theorem ZnZ (h:xs.length + ys.length<=100000/\xs≠[]):wO (dAdd (.tup xs) (.tup ys) M) Q E=Q (.tup (xs ++ ys)) M:=by
 show wO (if xs.length + ys.length<=100000/\xs≠[] then _ else _) Q E=_
 rw[if_pos h];rfl
theorem ZtX:wO (dEq x y M) Q E=wG (eqF 12 M x y) fun b=>Q (.bl b) M:=by
 show wO (match eqF 12 M x y with | some b=>_ | none=>_) Q E=_
 cases eqF 12 M x y<;>rfl
theorem ZtY:wO (dNe x y M) Q E=wG (eqF 12 M x y) fun b=>Q (.bl (!b)) M:=by
 show wO (match eqF 12 M x y with | some b=>_ | none=>_) Q E=_
 cases eqF 12 M x y<;>rfl
theorem ZtZ:wO (dIs x y M) Q E=wG (isP x y) fun b=>Q (.bl b) M:=by
 show wO (match isP x y with | some b=>_ | none=>_) Q E=_
 cases isP x y<;>rfl
theorem ZqF:wO (dIsNot x y M) Q E=wG (isP x y) fun b=>Q (.bl (!b)) M:=by
 show wO (match isP x y with | some b=>_ | none=>_) Q E=_
 cases isP x y<;>rfl
theorem ZlB:wO (atD xs i M) Q E=wG (atI xs i) fun d=>Q d M:=by
 unfold atD
 cases atI xs i<;>rfl
theorem ZqG:wO (dIx (.tup xs) (.int i) M) Q E=wG (atI xs i) fun d=>Q d M:=ZlB
theorem ZqH:wO (dIx (.rol xs) (.int i) M) Q E=wG (atI xs i) fun d=>Q d M:=ZlB
theorem ZqI:wO (dIx (.ref n) (.int i) M) Q E=wL M[n]? fun xs=>wG (atI xs i) fun d=>Q d M:=by
 show wO (match M[n]? with | some (.lst xs)=>atD xs i M | _=> .bad) Q E=_
 cases e1:M[n]? with
 |none=>rfl
 |some o=>cases o with | lst xs=>exact ZlB
theorem Zn0:wO (bLen [.ref n] M) Q E=wL M[n]? fun xs=>Q (.int xs.length) M:=by
 show wO (match (match M[n]? with | some (.lst xs)=>some xs | _=>none) with | some xs=>_ | none=>_) Q E=_
 cases e1:M[n]? with
 |none=>rfl
 |some o=>cases o with | lst xs=>rfl
theorem Zn1:wO (bLen [.tup xs] M) Q E=Q (.int xs.length) M:=rfl
theorem Zn2:wO (bLen [.rol xs] M) Q E=Q (.int xs.length) M:=rfl
theorem ZqJ:wO (bAbs [.int i] M) Q E=Q (.int (i.natAbs:Int)) M:=by rw[<- Zlp];rfl
theorem ZqK:wO (bMax [.int i,.int j] M) Q E=Q (.int (max i j)) M:=by
 have:max i j=if j > i then j else i:=by split<;>omega
 rw[this];rfl
theorem ZqL:wO (bMin [.int i,.int j] M) Q E=Q (.int (min i j)) M:=by
 have:min i j=if j < i then j else i:=by split<;>omega
 rw[this];rfl
theorem Zn3 {k:Bool}:wO (Zsh [.bl k] M) Q E=Q (.int (if k then 1 else 0)) M:=rfl
theorem Zn4:wO (Zsh [.int i] M) Q E=Q (.int i) M:=rfl
theorem ZlC:wO (bList [.ref n] M) Q E=wL M[n]? fun xs=>Q (.ref M.length) (M ++ [.lst xs]):=by
 show wO (match (match M[n]? with | some (.lst xs)=>some xs | _=>none) with | some xs=>_ | none=>_) Q E=_
 cases e1:M[n]? with
 |none=>rfl
 |some o=>cases o with | lst xs=>rfl
theorem ZlD:wO (bList [.tup xs] M) Q E=Q (.ref M.length) (M ++ [.lst xs]):=rfl
theorem ZqM:wO (Zsj [.ref n] M) Q E=wL M[n]? fun xs=>wG (Zcq xs) fun bs=>Q (.bl (bs.all id)) M:=by
 show wO (match M[n]? with | some (.lst xs)=>(match Zcq xs with | some bs=>Out.ok (.bl (bs.all id)) M | none=> .bad) | none=> .bad) Q E=_
 cases e1:M[n]? with
 |none=>rfl
 |some o=>
  cases o with
  |lst xs=>
   show wO (match Zcq xs with | some bs=>Out.ok (.bl (bs.all id)) M | none=> .bad) Q E=wG (Zcq xs) _
   cases Zcq xs<;>rfl
theorem Zn5 {g:List Int->Option Int}:wO (Zch g [.ref n] M) Q E=wL M[n]? fun xs=>wG (ZbM xs) fun ns=>wG (g ns) fun i=>Q (.int i) M:=by
 show wO (match (match M[n]? with | some (.lst xs)=>some xs | _=>none) with | some xs=>(match ZbM xs with | some ns=>(match g ns with | some i=>Out.ok (.int i) M | none=> .bad) | none=> .bad) | none=> .bad) Q E=_
 cases e1:M[n]? with
 |none=>rfl
 |some o=>
  cases o with
  |lst xs=>
   show wO (match ZbM xs with | some ns=>(match g ns with | some i=>Out.ok (.int i) M | none=> .bad) | none=> .bad) Q E=wG (ZbM xs) _
   cases ZbM xs with
   |none=>rfl
   |some ns=>
    show wO (match g ns with | some i=>Out.ok (.int i) M | none=> .bad) Q E=wG (g ns) _
    cases g ns<;>rfl
theorem Zt0 {g:Me} {fo:Ev}:wO (ZcF g fo fs ρ M) Q E=wO (fo ρ M) (fun x M1=>Zlc x M1=true/\wO (fs ρ M1) (fun ds M2=>wO (g x ds M2) Q E) E) E:=by
 unfold ZcF
 rw[Zt]
 congr 1
 funext x M1
 by_cases h:Zlc x M1=true
 ·simp only[h,if_true,true_and];rw[Zt]
 ·simp[h,wO]
theorem Zn6:Zlc (.ref n) M=M[n]?.isSome:=rfl
theorem ZqN:wO (mApp (.ref n) [d] M) Q E=wL M[n]? fun xs=>xs.length < 10000000/\Q .non (M.set n (.lst (xs ++ [d]))):=by
 show wO (match M[n]? with | some (.lst xs)=>if xs.length < 10000000 then _ else _ | none=>_) Q E=_
 cases e1:M[n]? with
 |none=>rfl
 |some o=>
  cases o with
  |lst xs=>
   by_cases h:xs.length < 10000000
   ·simp[wL,h,wO]
   ·simp[wL,h,wO]
theorem ZqO:wO (Zsm (.ref n) [] M) Q E=wL M[n]? fun xs=>Q .non (M.set n (.lst [])):=by
 show wO (match M[n]? with | some (.lst xs)=>_ | none=>_) Q E=_
 cases e1:M[n]? with
 |none=>rfl
 |some o=>cases o with | lst xs=>rfl
theorem ZqP:wO (mExt (.ref n) [.ref m] M) Q E=wL M[n]? fun xs=>wL M[m]? fun ys=>xs.length + ys.length<=10000000/\Q .non (M.set n (.lst (xs ++ ys))):=by
 show wO (match M[n]?,M[m]? with | some (.lst xs),some (.lst ys)=>if xs.length + ys.length<=10000000 then _ else _ | _,_=>_) Q E=_
 cases e1:M[n]? with
 |none=>rfl
 |some o=>
  cases o with
  |lst xs=>
   cases e2:M[m]? with
   |none=>rfl
   |some p=>
    cases p with
    |lst ys=>
     by_cases h:xs.length + ys.length<=10000000
     ·simp[wL,h,wO]
     ·simp[wL,h,wO]
noncomputable def slR (x:D) (l u:Option Int) (M3:Sto):Out D:=match x with
 | .ref n=>(match M3[n]? with | some (.lst xs)=> .ok (.ref M3.length) (M3 ++ [.lst (Zdy xs l u)]) | none=> .bad)
 | .rol xs=> .ok (.ref M3.length) (M3 ++ [.lst (Zdy xs l u)])
 | .tup xs=>if HT.sIx xs.length 0 l=0/\HT.sIx xs.length xs.length u=xs.length then .bad else .ok (.tup (Zdy xs l u)) M3
 |_=> .bad
theorem ZqQ:wO (eSl f lo hi ρ M) Q E=wO (f ρ M) (fun x M1=>wO (lo ρ M1) (fun l M2=>wO (hi ρ M2) (fun u M3=>wO (slR x l u M3) Q E) E) E) E:=by
 unfold eSl
 rw[Zt]
 congr 1
 funext x M1
 rw[Zt]
 congr 1
 funext l M2
 rw[Zt]
 congr 1
theorem ZqR {l u:Option Int}:wO (slR (.ref n) l u M) Q E=wL M[n]? fun xs=>Q (.ref M.length) (M ++ [.lst (Zdy xs l u)]):=by
 unfold slR
 cases e1:M[n]? with
 |none=>simp only[e1];rfl
 |some o=>cases o with | lst xs=>simp only[e1];rfl
theorem ZqS {Q:Option Int->Sto->Prop}:wO (oSo f ρ M) Q E=wO (f ρ M) (fun x M1=>wI x fun i=>Q (some i) M1) E:=by
 unfold oSo
 rw[Zt]
 congr 1
 funext x M1
 cases x<;>rfl
theorem Zn7 (h:0<=i):Zdy xs none (some i)=xs.take i.toNat:=by
 unfold Zdy
 simp only[HT.sIx]
 rw[if_neg (by omega),List.drop_zero,Nat.sub_zero]
 by_cases c:i.toNat<=xs.length
 ·rw[Nat.min_eq_left c]
 ·rw[Nat.min_eq_right (by omega),List.take_of_length_le (Nat.le_refl _),List.take_of_length_le (by omega)]
theorem Zjn (h:0<=i):Zdy xs (some i) none=xs.drop i.toNat:=by
 unfold Zdy
 simp only[HT.sIx]
 rw[if_neg (by omega)]
 by_cases c:i.toNat<=xs.length
 ·rw[Nat.min_eq_left c,List.take_of_length_le (by simp)]
 ·rw[Nat.min_eq_right (by omega),List.drop_eq_nil_of_le (Nat.le_refl _),List.drop_eq_nil_of_le (by omega),List.take_nil]
theorem ZdF {L:Sto}:(M ++ L)[M.length]?=L[0]?:=by rw[List.getElem?_append_right (Nat.le_refl _),Nat.sub_self]
theorem Zj8 {L:Sto} {i:Nat}:(M ++ L)[M.length + i]?=L[i]?:=by rw[List.getElem?_append_right (by omega)];congr 1;omega
theorem Zci {L:Sto} (h:n < M.length):(M ++ L)[n]?=M[n]?:=List.getElem?_append_left h
theorem Zj9 {L:Sto} {o:SO}:(M ++ L).set M.length o=M ++ L.set 0 o:=by rw[List.set_append_right _ _ (Nat.le_refl _),Nat.sub_self]
theorem ZqT {L:Sto} {o:SO} {i:Nat}:(M ++ L).set (M.length + i) o=M ++ L.set i o:=by rw[List.set_append_right _ _ (by omega)];congr 2;omega
theorem Zn8 {o:SO} (h:k≠n):(M.set n o)[k]?=M[k]?:=List.getElem?_set_ne (Ne.symm h)
theorem Zn9 {o:SO} (h:n < M.length):(M.set n o)[n]?=some o:=List.getElem?_set_self h
theorem Zw {o:SO} (h:M[n]?=some o):n < M.length:=(List.getElem?_eq_some_iff.mp h).1
noncomputable abbrev pr (x y:Int):D:= .tup [.int x,.int y]
noncomputable def prs (rs:List (Int × Int)):List D:=rs.map fun p=>pr p.1 p.2
noncomputable def nts (ns:List Int):List D:=ns.map D.int
theorem Zy {rs:List (Int × Int)}:(prs rs).length=rs.length:=List.length_map _
theorem Zam {rs:List Int}:(nts rs).length=rs.length:=List.length_map _
theorem ZhR {a b:List (Int × Int)}:prs a ++ prs b=prs (a ++ b):=(List.map_append).symm
theorem ZhS {a b:List Int}:nts a ++ nts b=nts (a ++ b):=(List.map_append).symm
theorem Zjo {a:List (Int × Int)}:(prs a).take n=prs (a.take n):=List.map_take.symm
theorem ZfE {a:List (Int × Int)}:(prs a).drop n=prs (a.drop n):=List.map_drop.symm
theorem Zjp {a:List Int}:(nts a).take n=nts (a.take n):=List.map_take.symm
theorem Zjq {a:List Int}:(nts a).drop n=nts (a.drop n):=List.map_drop.symm
theorem Zjr {a b:Int} {r:List (Int × Int)}:pr a b :: prs r=prs ((a,b) :: r):=rfl
theorem ZlE {a:List (Int × Int)} {b c:Int}:(prs a).set n (pr b c)=prs (a.set n (b,c)):=by unfold prs;rw[List.map_set]
theorem ZlF {a:List Int} {b:Int}:(nts a).set n (.int b)=nts (a.set n b):=by unfold nts;rw[List.map_set]
noncomputable def cy (rs:List (Int × Int)) (i:Int):Int × Int:=rs.getD (i % rs.length).toNat (0,0)
noncomputable def cn (rs:List Int) (i:Int):Int:=rs.getD (i % rs.length).toNat 0
theorem Zoa {i:Int} {n:Nat} (h: -(n:Int)<=i/\i < n):ixN n i=some (i % n).toNat:=by
 unfold ixN
 by_cases c:0<=i
 ·rw[if_pos c,if_pos h.2,Int.emod_eq_of_lt c h.2]
 ·rw[if_neg c,if_pos h.1]
  have:i % n=i + n:=by
   rw[<- Int.add_emod_right,Int.emod_eq_of_lt (by omega) (by omega)]
  rw[this]
theorem ZcU {rs:List (Int × Int)} (h: -(rs.length:Int)<=i/\i < rs.length):atI (prs rs) i=some (pr (cy rs i).1 (cy rs i).2):=by
 unfold atI
 rw[Zy,Zoa h]
 have hp:(i % rs.length).toNat < rs.length:=by
  have:=Int.emod_lt_of_pos i (show (0:Int) < rs.length by omega)
  have:=Int.emod_nonneg i (show (rs.length:Int)≠0 by omega)
  omega
 simp[prs,cy,List.getElem?_eq_getElem hp]
theorem Zdk {rs:List (Int × Int)}:cy rs (i % rs.length)=cy rs i:=by unfold cy;rw[Int.emod_emod_of_dvd _ (Int.dvd_refl _)]
theorem Z2 {rs:List (Int × Int)}:cy rs (i + rs.length)=cy rs i:=by unfold cy;rw[Int.add_emod_right]
theorem Zcr {rs:List (Int × Int)}:cy rs (i - rs.length)=cy rs i:=by unfold cy;rw[Int.sub_emod_right]
theorem Zcs {rs:List (Int × Int)} {k:Nat} (h:k < rs.length):cy rs k=rs[k]:=by
 unfold cy
 rw[Int.emod_eq_of_lt (by omega) (by omega)]
 simp[List.getElem?_eq_getElem h]
theorem ZfF {rs:List Int} {k:Nat} (h:k < rs.length):cn rs k=rs[k]:=by
 unfold cn
 rw[Int.emod_eq_of_lt (by omega) (by omega)]
 simp[List.getElem?_eq_getElem h]
theorem Zob {a b:Int}:eqF (n + 1) M (.int a) (.int b)=some (decide (a=b)):=rfl
theorem Zt1 {a b:Bool}:eqF (n + 1) M (.bl a) (.bl b)=some (a == b):=rfl
theorem Zsr {a b c d:Int}:eqF (n + 2) M (pr a b) (pr c d)=some (decide ((a,b)=(c,d))):=by
 show some ((a == c) && ((b == d) && true))=_
 congr 1
 rw[Bool.eq_iff_iff]
 simp
theorem Zka {rs ss:List (Int × Int)}:eqL (eqF (n + 2) M) (prs rs) (prs ss)=some (decide (rs=ss)):=by
 induction rs generalizing ss with
 |nil=>cases ss<;>rfl
 |cons r rs ih=>
  cases ss with
  |nil=>rfl
  |cons s ss=>
   show (match eqF (n + 2) M (pr r.1 r.2) (pr s.1 s.2) with | some a=>(match eqL _ (prs rs) (prs ss) with | some b=>some (a && b) | none=>none) | none=>none)=_
   rw[Zsr,ih]
   simp only[]
   congr 1
   rw[Bool.eq_iff_iff]
   obtain ⟨r1,r2⟩:=r
   obtain ⟨s1,s2⟩:=s
   simp
theorem Zkb {rs ss:List Int}:eqL (eqF (n + 1) M) (nts rs) (nts ss)=some (decide (rs=ss)):=by
 induction rs generalizing ss with
 |nil=>cases ss<;>rfl
 |cons r rs ih=>
  cases ss with
  |nil=>rfl
  |cons s ss=>
   show (match eqF (n + 1) M (.int r) (.int s) with | some a=>(match eqL _ (nts rs) (nts ss) with | some b=>some (a && b) | none=>none) | none=>none)=_
   rw[Zob,ih]
   simp only[]
   congr 1
   rw[Bool.eq_iff_iff]
   simp
theorem ZlG {xs ys:List D} (h1:M[n]?=some (.lst xs)) (h2:M[m]?=some (.lst ys)):eqF (k + 1) M (.ref n) (.ref m)=if xs.length=ys.length then eqL (eqF k M) xs ys else some false:=by
 show (match kd M (.ref n),kd M (.ref m) with | some a,some b=>eqK (eqF k M) a b | _,_=>none)=_
 have e1:kd M (.ref n)=some (.lst xs):=by show (match M[n]? with | some (.lst xs)=>some (Kd.lst xs) | _=>none)=_;rw[h1]
 have e2:kd M (.ref m)=some (.lst ys):=by show (match M[m]? with | some (.lst xs)=>some (Kd.lst xs) | _=>none)=_;rw[h2]
 rw[e1,e2]
 rfl
theorem ZlH {rs ss:List (Int × Int)} (h1:M[n]?=some (.lst (prs rs))) (h2:M[m]?=some (.lst (prs ss))):eqF 12 M (.ref n) (.ref m)=some (decide (rs=ss)):=by
 rw[ZlG h1 h2,Zy,Zy]
 by_cases c:rs.length=ss.length
 ·rw[if_pos c,Zka]
 ·rw[if_neg c]
  congr 1
  symm
  exact decide_eq_false fun z=>c (by rw[z])
theorem Zoc {rs ss:List Int} (h1:M[n]?=some (.lst (nts rs))) (h2:M[m]?=some (.lst (nts ss))):eqF 12 M (.ref n) (.ref m)=some (decide (rs=ss)):=by
 rw[ZlG h1 h2,Zam,Zam]
 by_cases c:rs.length=ss.length
 ·rw[if_pos c,Zkb]
 ·rw[if_neg c]
  congr 1
  symm
  exact decide_eq_false fun z=>c (by rw[z])
theorem Zod:Zbx M (.int i)=some "int":=rfl
theorem ZqU {b:Bool}:Zbx M (.bl b)=some "bool":=rfl
theorem Zoe:Zbx M (.tup xs)=some "tuple":=rfl
theorem Zof:Zbx M .non=some "NoneType":=rfl
end
end DL
end
section
namespace DL
open PySem PySem.Spec PyProof.Rows L2
section
variable {Q:D->Sto->Prop} {E:Str->Sto->Prop} {N B C:Ro->Sto->Prop} {R:D->Sto->Prop} {ρ:Ro} {M:Sto} {f:Ev} {fs:Av} {i j:Int} {n m k:Nat} {x y z d:D} {xs ys ds:List D} {QS:Src->Sto->Prop} {tg:Tg} {bd:Sv} {b:Bool}
theorem ZlI:wS (Zhi tg fs bd ρ M) N R B C E=wO (fs ρ M) (fun ds M1=>w2 ds fun x y=>wI x fun i=>wI y fun j=>(-(2 ^ 62)<=i/\i < 2 ^ 62/\ -(2 ^ 62)<=j/\j < 2 ^ 62)/\wS (ZbL tg bd (Zbs i (j - i).toNat) ρ M1) N R B C E) E:=by
 unfold Zhi
 rw[Zag]
 congr 1
 funext ds M1
 rcases ds with _ | ⟨v,_ | ⟨w,_ | ⟨w',r⟩⟩⟩
 ·rfl
 ·cases v<;>rfl
 ·cases v<;>try rfl
  cases w<;>try rfl
  rename_i i j
  by_cases h: -(2 ^ 62)<=i/\i < 2 ^ 62/\ -(2 ^ 62)<=j/\j < 2 ^ 62
  ·simp only[w2,wI,eq_true h,true_and,if_true]
  ·simp only[w2,wI,eq_false h,false_and,if_false]
   rfl
 ·cases v<;>cases w<;>rfl
theorem Zt2:wO (iR1 fs ρ M) QS E=wO (fs ρ M) (fun ds M1=>w1 ds fun d=>wI d fun j=>(-(2 ^ 62)<=j/\j < 2 ^ 62)/\QS (.pur (Zbs 0 j.toNat)) M1) E:=by
 unfold iR1
 rw[Zt]
 congr 1
 funext ds M1
 rcases ds with _ | ⟨v,_ | ⟨w,r⟩⟩
 ·rfl
 ·cases v<;>try rfl
  rename_i j
  by_cases h: -(2 ^ 62)<=j/\j < 2 ^ 62
  ·simp only[w1,wI,eq_true h,true_and,if_true,Zn]
  ·simp only[w1,wI,eq_false h,false_and,if_false]
   rfl
 ·cases v<;>rfl
theorem Zt3:wO (iR2 fs ρ M) QS E=wO (fs ρ M) (fun ds M1=>w2 ds fun x y=>wI x fun i=>wI y fun j=>(-(2 ^ 62)<=i/\i < 2 ^ 62/\ -(2 ^ 62)<=j/\j < 2 ^ 62)/\QS (.pur (Zbs i (j - i).toNat)) M1) E:=by
 unfold iR2
 rw[Zt]
 congr 1
 funext ds M1
 rcases ds with _ | ⟨v,_ | ⟨w,_ | ⟨w',r⟩⟩⟩
 ·rfl
 ·cases v<;>rfl
 ·cases v<;>try rfl
  cases w<;>try rfl
  rename_i i j
  by_cases h: -(2 ^ 62)<=i/\i < 2 ^ 62/\ -(2 ^ 62)<=j/\j < 2 ^ 62
  ·simp only[w2,wI,eq_true h,true_and,if_true,Zn]
  ·simp only[w2,wI,eq_false h,false_and,if_false]
   rfl
 ·cases v<;>cases w<;>rfl
theorem Zt4:wO (iEn fs ρ M) QS E=wO (fs ρ M) (fun ds M1=>w1 ds fun d=>wR d fun n=>QS (.enu n) M1) E:=by
 unfold iEn
 rw[Zt]
 congr 1
 funext ds M1
 rcases ds with _ | ⟨v,_ | ⟨w,r⟩⟩<;>try rfl
 ·cases v<;>rfl
 ·cases v<;>rfl
theorem Zt5:wO (iZp fs ρ M) QS E=wO (fs ρ M) (fun ds M1=>w2 ds fun x y=>wR x fun n=>wR y fun m=>QS (.zip n m) M1) E:=by
 unfold iZp
 rw[Zt]
 congr 1
 funext ds M1
 rcases ds with _ | ⟨v,_ | ⟨w,_ | ⟨w',r⟩⟩⟩<;>try rfl
 ·cases v<;>rfl
 ·cases v<;>cases w<;>rfl
 ·cases v<;>cases w<;>rfl
theorem Zt6:wO (iRv fs ρ M) QS E=wO (fs ρ M) (fun ds M1=>w1 ds fun d=>wR d fun n=>wL M1[n]? fun xs=>QS (.rev n xs.length) M1) E:=by
 unfold iRv
 rw[Zt]
 congr 1
 funext ds M1
 rcases ds with _ | ⟨v,_ | ⟨w,r⟩⟩<;>try rfl
 ·cases v<;>try rfl
  rename_i n
  cases e:M1[n]? with
  |none=>simp only[e];simp only[w1,wR,e];rfl
  |some o=>cases o with | lst xs=>simp only[e,w1,wR];rfl
 ·cases v<;>rfl
noncomputable def Zmj (Q:D->Sto->Prop) (ρ:Ro) (M:Sto):Prop:=Q .non M
theorem wF1:wO (fnF bd 1 k [x] M) Q E=wS (bd (some x :: List.replicate k none) M) (Zmj Q) Q (fun _ _=>False) (fun _ _=>False) E:=wF rfl
theorem wF2:wO (fnF bd 2 k [x,y] M) Q E=wS (bd (some x :: some y :: List.replicate k none) M) (Zmj Q) Q (fun _ _=>False) (fun _ _=>False) E:=wF rfl
theorem wF3:wO (fnF bd 3 k [x,y,z] M) Q E=wS (bd (some x :: some y :: some z :: List.replicate k none) M) (Zmj Q) Q (fun _ _=>False) (fun _ _=>False) E:=wF rfl
theorem wF4:wO (fnF bd 4 k [x,y,z,d] M) Q E=wS (bd (some x :: some y :: some z :: some d :: List.replicate k none) M) (Zmj Q) Q (fun _ _=>False) (fun _ _=>False) E:=wF rfl
theorem ZfG {a:List (Int × Int)} {b c:Int}:prs a ++ [pr b c]=prs (a ++ [(b,c)]):=by simp[prs]
theorem Zjs {a:List Int} {b:Int}:nts a ++ [D.int b]=nts (a ++ [b]):=by simp[nts]
theorem Zjt {b:Int} {r:List Int}:D.int b :: nts r=nts (b :: r):=rfl
theorem ZqV:isP .non .non=some true:=rfl
theorem ZqW:isP (.int i) .non=some false:=rfl
theorem ZqX:isP (.tup xs) .non=some false:=rfl
theorem ZqY:isP (.ref n) .non=some false:=rfl
theorem Ze1 (h:M[n]?=some (.lst xs)):cnt (.sto n) M=xs.length:=by show (match M[n]? with | some (.lst xs)=>xs.length | none=>0)=_;rw[h]
theorem ZlJ (h:M[n]?=some (.lst xs)):cnt (.enu n) M=xs.length:=by show (match M[n]? with | some (.lst xs)=>xs.length | none=>0)=_;rw[h]
theorem ZlK (h:M[n]?=some (.lst xs)):cnt (.zip n m) M=xs.length:=by show (match M[n]? with | some (.lst xs)=>xs.length | none=>0)=_;rw[h]
theorem at2 {r:List D}:atI (x :: y :: z :: r) 2=some z:=by
 show (ixN (r.length + 3) 2).bind _=_
 unfold ixN
 rw[if_pos (by decide),if_pos (by omega)]
 rfl
theorem at3 {r:List D}:atI (x :: y :: z :: d :: r) 3=some d:=by
 show (ixN (r.length + 4) 3).bind _=_
 unfold ixN
 rw[if_pos (by decide),if_pos (by omega)]
 rfl
theorem Zog:ZcK "int" "int"=true:=rfl
theorem Zoh:ZcK "int" "bool"=false:=rfl
theorem Zoi:ZcK "bool" "int"=true:=rfl
theorem Zoj:ZcK "bool" "bool"=true:=rfl
theorem Zok:ZcK "tuple" "tuple"=true:=rfl
theorem Zol:ZcK "list" "list"=true:=rfl
theorem Zom:ZcK "tuple" "int"=false:=rfl
theorem Zon:ZcK "tuple" "list"=false:=rfl
theorem Zoo:ZcK "list" "tuple"=false:=rfl
theorem Zop:ZcK "list" "int"=false:=rfl
theorem Zoq:ZcK "NoneType" "tuple"=false:=rfl
theorem Zor:ZcK "NoneType" "list"=false:=rfl
theorem Zos (h:M[n]?=some (.lst xs)):nxt (.enu n) k M=some ((xs[k]?).map fun d=>D.tup [.int k,d]):=by
 show (match M[n]? with | some (.lst xs)=>(match xs[k]? with | some x=>some (some (D.tup [.int k,x])) | none=>some none) | none=>none)=_
 rw[h]
 simp only[]
 cases xs[k]?<;>rfl
theorem Zem (h:M[n]?=some (.lst xs)):nxt (.sto n) k M=some xs[k]?:=by
 show (match M[n]? with | some (.lst xs)=>some xs[k]? | none=>none)=_
 rw[h]
section
variable {g:Jv} {bb:Nat}
end
theorem ZhT (I:Nat->Ro->Sto->Prop) (hM:M[n]?=some (.lst xs)) (h0:I 0 ρ M) (hm: ∀ i ρ M,I i ρ M->M[n]?=some (.lst xs)) (st: ∀ (i:Nat) ρ M (h:i < xs.length),I i ρ M->wG (tg (.tup [.int i,xs[i]]) ρ) fun r=>wS (bd r M) (I (i + 1)) R N (I (i + 1)) E) (hn: ∀ ρ M,I xs.length ρ M->N ρ M):wS (Zfv tg bd (.enu n) (cnt (.enu n) M) 0 ρ M) N R B C E:=by
 rw[ZlJ hM]
 have hl:(xs.mapIdx fun (k:Nat) d=>D.tup [.int k,d]).length=xs.length:=by simp
 refine ZnX I (xs:=xs.mapIdx fun (k:Nat) d=>D.tup [.int k,d]) _ 0 ρ M (by simp) (by simp) h0 (fun i ρ M _ hI=> ?_) (fun i ρ M h hI=> ?_) (fun ρ M hI=>hn ρ M (by rw[hl] at hI;exact hI))
 ·rw[Zos (hm _ _ _ hI),List.getElem?_mapIdx]
 ·rw[List.getElem_mapIdx]
  exact st i ρ M (by rw[hl] at h;exact h) hI
theorem Zot (h:M[n]?=some (.lst xs)) (h':M[m]?=some (.lst ys)):nxt (.zip n m) k M=some ((List.zipWith (fun a b=>D.tup [a,b]) xs ys)[k]?):=by
 show (match M[n]?,M[m]? with | some (.lst xs),some (.lst ys)=>(match xs[k]?,ys[k]? with | some x,some y=>some (some (D.tup [x,y])) | _,_=>some none) | _,_=>none)=_
 rw[h,h',List.getElem?_zipWith]
 simp only[]
 cases xs[k]?<;>cases ys[k]?<;>rfl
theorem Zou (h:M[n]?=some (.lst xs)) (hk:k<=xs.length):nxt (.rev n xs.length) k M=some xs.reverse[k]?:=by
 show (match M[n]? with | some (.lst ys)=>if k < xs.length then (match ys[xs.length - 1 - k]? with | some x=>some (some x) | none=>none) else (if k=xs.length then some none else none) | none=>none)=_
 rw[h]
 simp only[]
 by_cases c:k < xs.length
 ·rw[if_pos c,List.getElem?_reverse c,List.getElem?_eq_getElem (by omega)]
 ·rw[if_neg c,if_pos (by omega),List.getElem?_eq_none (by simp;omega)]
theorem ZlL {src:Src} (Inv:Ro->Prop) (F:Nat->D) {Q:Sto->Prop} (hl:xs.length < 10000000) (hcnt:xs.length<=cnt src M) (h0:Inv ρ) (hs: ∀ (L:Sto) (i:Nat),i<=xs.length->nxt src i (M ++ L)=some xs[i]?)
  (st: ∀ (i:Nat) (h:i < xs.length) (ρ:Ro) (L:Sto),Inv ρ->wG (tg xs[i] ρ) fun r=>Inv r/\wO (f r (M ++ L)) (fun y M2=>y=F i/\M2=M ++ L) (fun _ _=>False)) (hq:Q (M ++ [.lst ((List.range xs.length).map F)])):
  wO (Zcw src tg (fun _ M=> .ok true M) f M.length (cnt src M) 0 ρ (M ++ [.lst []])) (fun _ M2=>Q M2) (fun _ _=>False):=by
 refine ZhQ (fun i ρ M'=>Inv ρ/\M'=M ++ [.lst ((List.range i).map F)]) (xs:=xs) _ 0 ρ _ (by simp) (by omega) ⟨h0,rfl⟩ (fun i ρ M' hi hI=>by rw[hI.2];exact hs _ i hi) (fun i ρ M' h hI=> ?_) (fun ρ M' hI=>by rw[hI.2];exact hq)
 obtain ⟨hI,rfl⟩:=hI
 have s:=st i h ρ [.lst ((List.range i).map F)] hI
 cases e:tg xs[i] ρ with
 |none=>rw[e] at s;exact s.elim
 |some r=>
  rw[e] at s
  obtain ⟨hr,s⟩:=s
  show Br true _ _
  rw[ZnN]
  refine ZeZ s (fun y M2 ⟨h1,h2⟩=> ?_) (fun _ _ z=>z)
  subst h1 h2
  rw[ZdF]
  refine ⟨by simp;omega,hr,?_⟩
  rw[Zj9,List.range_succ,List.map_append]
  rfl
theorem Ze2 {lo:Int}:(Zbs lo n).length=n:=by simp[Zbs]
theorem ZlM {lo:Int} (h:k < (Zbs lo n).length):(Zbs lo n)[k]= .int (lo + k):=by simp[Zbs]
theorem Ze3 {F:Nat->Int}:(List.range n).map (fun i=>D.int (F i))=nts ((List.range n).map F):=by simp[nts]
end
end DL
end
section
namespace DL
open PySem PySem.Spec PyProof.Rows L2
section
variable {Q:D->Sto->Prop} {E:Str->Sto->Prop} {N B C:Ro->Sto->Prop} {R:D->Sto->Prop} {ρ:Ro} {M:Sto} {f g:Ev} {fs:Av} {i j:Int} {n m k:Nat} {x y z d:D} {xs ys ds:List D} {QL:List D->Sto->Prop} {QB:Bool->Sto->Prop} {QS:Src->Sto->Prop} {tg:Tg} {a bd:Sv} {b:Bool} {t u:Tv}
noncomputable def kU {β γ:Type} (u:β->Sto->Out γ) (Q:γ->Sto->Prop) (E:Str->Sto->Prop) (x:β) (M:Sto):Prop:=wO (u x M) Q E
noncomputable def kQ {β γ:Type} (Q:γ->Sto->Prop) (c:β->γ) (M:Sto) (x:β):Prop:=Q (c x) M
noncomputable def kB2 (op:Bo) (x:D) (Q:D->Sto->Prop) (E:Str->Sto->Prop) (y:D) (M:Sto):Prop:=wO (op x y M) Q E
noncomputable def kB1 (op:Bo) (g:Ev) (ρ:Ro) (Q:D->Sto->Prop) (E:Str->Sto->Prop) (x:D) (M:Sto):Prop:=wO (g ρ M) (kB2 op x Q E) E
theorem Zt7 {op:Bo}:wO (e2 op f g ρ M) Q E=wO (f ρ M) (kB1 op g ρ Q E) E:=Zqx
theorem y_c:wO (eC d ρ M) Q E=Q d M:=rfl
theorem y_v:wO (Zd k ρ M) Q E=wV ρ[k]? (kQ Q id M):=ZtS
theorem Zov {F:List D->Sto->Out D}:wO (Zj F fs ρ M) Q E=wO (fs ρ M) (kU F Q E) E:=Zlt
noncomputable def kA2 (x:D) (Q:List D->Sto->Prop) (xs:List D) (M:Sto):Prop:=Q (x :: xs) M
noncomputable def kA1 (fs:Av) (ρ:Ro) (Q:List D->Sto->Prop) (E:Str->Sto->Prop) (x:D) (M:Sto):Prop:=wO (fs ρ M) (kA2 x Q) E
theorem ZqZ:wO (aNil ρ M) QL E=QL [] M:=rfl
theorem Zow:wO (Zc f fs ρ M) QL E=wO (f ρ M) (kA1 fs ρ QL E) E:=Zlu
noncomputable def kTu (Q:D->Sto->Prop) (xs:List D) (M:Sto):Prop:=xs.length<=1000/\Q (.tup xs) M
noncomputable def kLs (Q:D->Sto->Prop) (xs:List D) (M:Sto):Prop:=xs.length<=1000/\Q (.ref M.length) (M ++ [.lst xs])
theorem Zq0:wO (Zal fs ρ M) Q E=wO (fs ρ M) (kTu Q) E:=ZnO
theorem Zq1:wO (Zc5 fs ρ M) Q E=wO (fs ρ M) (kLs Q) E:=ZnP
noncomputable def Zss (x:D) (M:Sto):Out D:=match x with | .int i=> .ok (.int (-i)) M | _=> .bad
theorem Zq2:wO (Zcm f ρ M) Q E=wO (f ρ M) (kU Zss Q E) E:=by unfold Zcm;exact Zt
theorem Zox:wO (Zss (.int i) M) Q E=Q (.int (-i)) M:=rfl
noncomputable def Zq3 (T:String) (x:D) (M:Sto):Out D:=match Zbx M x with | some t=> .ok (.bl (ZcK t T)) M | none=> .bad
theorem Zq4 {T:String}:wO (Zm6 T f ρ M) Q E=wO (f ρ M) (kU (Zq3 T) Q E) E:=by unfold Zm6;exact Zt
noncomputable def kTy (T:String) (Q:D->Sto->Prop) (M:Sto) (t:String):Prop:=Q (.bl (ZcK t T)) M
theorem Zoy {T:String}:wO (Zq3 T x M) Q E=wG (Zbx M x) (kTy T Q M):=by unfold Zq3;cases Zbx M x<;>rfl
noncomputable def tC (b:Bool):Tv:=fun _ M=> .ok b M
noncomputable def BrO {β:Type} (k:Bool) (f g:Ro->Sto->Out β) (ρ:Ro) (M:Sto) (Q:β->Sto->Prop) (E:Str->Sto->Prop):Prop:=wO ((if k=true then f else g) ρ M) Q E
theorem Zt8 {β:Type} {fO gO:Ro->Sto->Out β} {QO:β->Sto->Prop}:BrO true fO gO ρ M QO E=wO (fO ρ M) QO E:=rfl
theorem Zt9 {β:Type} {fO gO:Ro->Sto->Out β} {QO:β->Sto->Prop}:BrO false fO gO ρ M QO E=wO (gO ρ M) QO E:=rfl
theorem brO {β:Type} {fO gO:Ro->Sto->Out β} {QO:β->Sto->Prop} {p:Prop} [Decidable p] (h1:p->wO (fO ρ M) QO E) (h2: ¬ p->wO (gO ρ M) QO E):BrO (decide p) fO gO ρ M QO E:=by
 by_cases h:p
 ·rw[decide_eq_true h];exact h1 h
 ·rw[decide_eq_false h];exact h2 h
theorem Zua {β:Type} {fO gO:Ro->Sto->Out β} {QO:β->Sto->Prop} (P:β->Sto->Prop) (h:BrO b fO gO ρ M P E) (hn: ∀ x M,P x M->QO x M):BrO b fO gO ρ M QO E:=by
 cases b
 ·exact ZeZ h hn (fun _ _ z=>z)
 ·exact ZeZ h hn (fun _ _ z=>z)
noncomputable def kIf (f g:Ev) (ρ:Ro) (Q:D->Sto->Prop) (E:Str->Sto->Prop) (k:Bool) (M:Sto):Prop:=BrO k f g ρ M Q E
theorem Zub:wO (eIf t f g ρ M) Q E=wO (t ρ M) (kIf f g ρ Q E) E:=by unfold eIf;rw[Zt];congr 1;funext k M1;cases k<;>rfl
noncomputable def Zst (g:Ev) (ρ:Ro) (x:D) (M:Sto):Out D:=match x with | .bl k=>if k=true then g ρ M else .ok (.bl false) M | _=> .bad
noncomputable def oOr (g:Ev) (ρ:Ro) (x:D) (M:Sto):Out D:=match x with | .bl k=>if k=true then .ok (.bl true) M else g ρ M | _=> .bad
noncomputable def Zsu (x:D) (M:Sto):Out D:=match x with | .bl k=> .ok (.bl (!k)) M | _=> .bad
noncomputable def oTv (x:D) (M:Sto):Out Bool:=match x with | .bl k=> .ok k M | _=> .bad
theorem Zq5:wO (Zf0 f g ρ M) Q E=wO (f ρ M) (kU (Zst g ρ) Q E) E:=by unfold Zf0;exact Zt
theorem Zuc:wO (Zsg f g ρ M) Q E=wO (f ρ M) (kU (oOr g ρ) Q E) E:=by unfold Zsg;exact Zt
theorem Zq6:wO (ZmU f ρ M) Q E=wO (f ρ M) (kU Zsu Q E) E:=by unfold ZmU;exact Zt
theorem Zoz:wO (Zst g ρ (.bl b) M) Q E=BrO b g (eC (.bl false)) ρ M Q E:=by cases b<;>rfl
theorem Zq7:wO (oOr g ρ (.bl b) M) Q E=BrO b (eC (.bl true)) g ρ M Q E:=by cases b<;>rfl
theorem ZoA:wO (Zsu (.bl b) M) Q E=Q (.bl (!b)) M:=rfl
theorem Zud:wO (tv f ρ M) QB E=wO (f ρ M) (kU oTv QB E) E:=by unfold tv;exact Zt
theorem Zq8:wO (oTv (.bl b) M) QB E=QB b M:=rfl
noncomputable def kTA (u:Tv) (ρ:Ro) (Q:Bool->Sto->Prop) (E:Str->Sto->Prop) (k:Bool) (M:Sto):Prop:=BrO k u (tC false) ρ M Q E
noncomputable def kTO (u:Tv) (ρ:Ro) (Q:Bool->Sto->Prop) (E:Str->Sto->Prop) (k:Bool) (M:Sto):Prop:=BrO k (tC true) u ρ M Q E
noncomputable def kTN (Q:Bool->Sto->Prop) (k:Bool) (M:Sto):Prop:=Q (!k) M
theorem Zue:wO (tC b ρ M) QB E=QB b M:=rfl
theorem ZoB:wO (ZiV t u ρ M) QB E=wO (t ρ M) (kTA u ρ QB E) E:=by unfold ZiV;rw[Zt];congr 1;funext k M1;cases k<;>rfl
theorem Zq9:wO (ZiW t u ρ M) QB E=wO (t ρ M) (kTO u ρ QB E) E:=by unfold ZiW;rw[Zt];congr 1;funext k M1;cases k<;>rfl
theorem ZoC:wO (ZfZ t ρ M) QB E=wO (t ρ M) (kTN QB) E:=ZnQ
noncomputable def kSq (b:Sv) (N:Ro->Sto->Prop) (R:D->Sto->Prop) (B C:Ro->Sto->Prop) (E:Str->Sto->Prop) (ρ:Ro) (M:Sto):Prop:=wS (b ρ M) N R B C E
theorem Zra:wS (Zu a bd ρ M) N R B C E=wS (a ρ M) (kSq bd N R B C E) R B C E:=ZnR
theorem ZoD:wS (sNil ρ M) N R B C E=N ρ M:=rfl
theorem Zrb:wS (ZtC ρ M) N R B C E=B ρ M:=rfl
theorem Zrc:wS (ZtD ρ M) N R B C E=C ρ M:=rfl
theorem Zrd:wS (Zaf f ρ M) N R B C E=wO (f ρ M) R E:=ZnS
theorem ZoE:wS (Zqf ρ M) N R B C E=R .non M:=rfl
noncomputable def kDr (ρ:Ro) (N:Ro->Sto->Prop) (d:D) (M:Sto):Prop:=N ρ M
theorem ZoF:wS (ZaJ f ρ M) N R B C E=wO (f ρ M) (kDr ρ N) E:=Zlv
noncomputable def BrS (k:Bool) (a b:Sv) (ρ:Ro) (M:Sto) (N:Ro->Sto->Prop) (R:D->Sto->Prop) (B C:Ro->Sto->Prop) (E:Str->Sto->Prop):Prop:=wS ((if k=true then a else b) ρ M) N R B C E
theorem Zuf:BrS true a bd ρ M N R B C E=wS (a ρ M) N R B C E:=rfl
theorem Zug:BrS false a bd ρ M N R B C E=wS (bd ρ M) N R B C E:=rfl
theorem brS {p:Prop} [Decidable p] (h1:p->wS (a ρ M) N R B C E) (h2: ¬ p->wS (bd ρ M) N R B C E):BrS (decide p) a bd ρ M N R B C E:=by
 by_cases h:p
 ·rw[decide_eq_true h];exact h1 h
 ·rw[decide_eq_false h];exact h2 h
theorem Zuh {p:Prop} [Decidable p] (h1: ¬ p->wS (a ρ M) N R B C E) (h2:p->wS (bd ρ M) N R B C E):BrS (!decide p) a bd ρ M N R B C E:=by
 by_cases h:p
 ·rw[decide_eq_true h];exact h2 h
 ·rw[decide_eq_false h];exact h1 h
theorem Zsv (h1:b=true->wS (a ρ M) N R B C E) (h2:b=false->wS (bd ρ M) N R B C E):BrS b a bd ρ M N R B C E:=by
 cases b
 ·exact h2 rfl
 ·exact h1 rfl
theorem Zre (P:Ro->Sto->Prop) (h:BrS b a bd ρ M P R B C E) (hn: ∀ ρ M,P ρ M->N ρ M):BrS b a bd ρ M N R B C E:=by
 cases b
 ·exact ZhP h hn (fun _ _ z=>z) (fun _ _ z=>z) (fun _ _ z=>z) (fun _ _ z=>z)
 ·exact ZhP h hn (fun _ _ z=>z) (fun _ _ z=>z) (fun _ _ z=>z) (fun _ _ z=>z)
noncomputable def kSi (a b:Sv) (ρ:Ro) (N:Ro->Sto->Prop) (R:D->Sto->Prop) (B C:Ro->Sto->Prop) (E:Str->Sto->Prop) (k:Bool) (M:Sto):Prop:=BrS k a b ρ M N R B C E
theorem Zrf:wS (sIf t a bd ρ M) N R B C E=wO (t ρ M) (kSi a bd ρ N R B C E) E:=by unfold sIf;rw[Zag];congr 1;funext k M1;cases k<;>rfl
noncomputable def kAs (i:Nat) (ρ:Ro) (N:Ro->Sto->Prop) (d:D) (M:Sto):Prop:=N (ρ.set i (some d)) M
theorem Zrg:wS (ZD (gNm k) f ρ M) N R B C E=wO (f ρ M) (kAs k ρ N) E:=ZnT
noncomputable def kAt (gs:Tgs) (ρ:Ro) (N:Ro->Sto->Prop) (d:D) (M:Sto):Prop:=wG (gTp gs d ρ) (kQ N id M)
theorem ZoG {gs:Tgs}:wS (ZD (gTp gs) f ρ M) N R B C E=wO (f ρ M) (kAt gs ρ N) E:=Zlw
noncomputable def Zsw (i j:Nat) (ρ:Ro) (N:Ro->Sto->Prop) (M:Sto) (v w:D):Prop:=N ((ρ.set i (some v)).set j (some w)) M
noncomputable def kPa (i j:Nat) (ρ:Ro) (N:Ro->Sto->Prop) (ds:List D) (M:Sto):Prop:=w2 ds (Zsw i j ρ N M)
theorem Zrh:wS (ZeI k m fs ρ M) N R B C E=wO (fs ρ M) (kPa k m ρ N) E:=ZnU
noncomputable def Zsx (n:Nat) (d:D) (xs:List D) (ρ:Ro) (N:Ro->Sto->Prop) (M:Sto) (j:Nat):Prop:=N ρ (M.set n (.lst (xs.set j d)))
noncomputable def Zsy (n:Nat) (k:Int) (d:D) (ρ:Ro) (N:Ro->Sto->Prop) (M:Sto) (xs:List D):Prop:=wG (ixN xs.length k) (Zsx n d xs ρ N M)
noncomputable def Zsz (n:Nat) (d:D) (ρ:Ro) (N:Ro->Sto->Prop) (M:Sto) (k:Int):Prop:=wL M[n]? (Zsy n k d ρ N M)
noncomputable def ZsA (i:D) (d:D) (ρ:Ro) (N:Ro->Sto->Prop) (M:Sto) (n:Nat):Prop:=wI i (Zsz n d ρ N M)
noncomputable def ZsB (o:D) (d:D) (ρ:Ro) (N:Ro->Sto->Prop) (i:D) (M:Sto):Prop:=wR o (ZsA i d ρ N M)
noncomputable def ZsC (fi:Ev) (d:D) (ρ:Ro) (N:Ro->Sto->Prop) (E:Str->Sto->Prop) (o:D) (M:Sto):Prop:=wO (fi ρ M) (ZsB o d ρ N) E
noncomputable def kPu (fo fi:Ev) (ρ:Ro) (N:Ro->Sto->Prop) (E:Str->Sto->Prop) (d:D) (M:Sto):Prop:=wO (fo ρ M) (ZsC fi d ρ N E) E
theorem Zri {fo fi:Ev}:wS (Zqg fo fi f ρ M) N R B C E=wO (f ρ M) (kPu fo fi ρ N E) E:=ZnV
noncomputable def kRa (c:Str) (E:Str->Sto->Prop) (ds:List D) (M:Sto):Prop:=ds.length<=1000/\E c M
theorem ZlN {c:Str}:wS (ZbA c fs ρ M) N R B C E=wO (fs ρ M) (kRa c E) E:=Zjl
noncomputable def ZsD (tg:Tg) (bd:Sv) (ρ:Ro) (N:Ro->Sto->Prop) (R:D->Sto->Prop) (B C:Ro->Sto->Prop) (E:Str->Sto->Prop) (M:Sto) (j:Int):Prop:=(-(2 ^ 62)<=j/\j < 2 ^ 62)/\wS (ZbL tg bd (Zbs 0 j.toNat) ρ M) N R B C E
noncomputable def ZsE (tg:Tg) (bd:Sv) (ρ:Ro) (N:Ro->Sto->Prop) (R:D->Sto->Prop) (B C:Ro->Sto->Prop) (E:Str->Sto->Prop) (M:Sto) (d:D):Prop:=wI d (ZsD tg bd ρ N R B C E M)
noncomputable def kR1 (tg:Tg) (bd:Sv) (ρ:Ro) (N:Ro->Sto->Prop) (R:D->Sto->Prop) (B C:Ro->Sto->Prop) (E:Str->Sto->Prop) (ds:List D) (M:Sto):Prop:=w1 ds (ZsE tg bd ρ N R B C E M)
theorem ZoH:wS (Zb0 tg fs bd ρ M) N R B C E=wO (fs ρ M) (kR1 tg bd ρ N R B C E) E:=Zlx
noncomputable def ZsF (tg:Tg) (bd:Sv) (ρ:Ro) (N:Ro->Sto->Prop) (R:D->Sto->Prop) (B C:Ro->Sto->Prop) (E:Str->Sto->Prop) (M:Sto) (i:Int) (j:Int):Prop:=(-(2 ^ 62)<=i/\i < 2 ^ 62/\ -(2 ^ 62)<=j/\j < 2 ^ 62)/\wS (ZbL tg bd (Zbs i (j - i).toNat) ρ M) N R B C E
noncomputable def ZsG (tg:Tg) (bd:Sv) (ρ:Ro) (N:Ro->Sto->Prop) (R:D->Sto->Prop) (B C:Ro->Sto->Prop) (E:Str->Sto->Prop) (M:Sto) (y:D) (i:Int):Prop:=wI y (ZsF tg bd ρ N R B C E M i)
noncomputable def ZsH (tg:Tg) (bd:Sv) (ρ:Ro) (N:Ro->Sto->Prop) (R:D->Sto->Prop) (B C:Ro->Sto->Prop) (E:Str->Sto->Prop) (M:Sto) (x y:D):Prop:=wI x (ZsG tg bd ρ N R B C E M y)
noncomputable def kR2 (tg:Tg) (bd:Sv) (ρ:Ro) (N:Ro->Sto->Prop) (R:D->Sto->Prop) (B C:Ro->Sto->Prop) (E:Str->Sto->Prop) (ds:List D) (M:Sto):Prop:=w2 ds (ZsH tg bd ρ N R B C E M)
theorem ZoI:wS (Zhi tg fs bd ρ M) N R B C E=wO (fs ρ M) (kR2 tg bd ρ N R B C E) E:=ZlI
noncomputable def kFo (tg:Tg) (bd:Sv) (ρ:Ro) (N:Ro->Sto->Prop) (R:D->Sto->Prop) (B C:Ro->Sto->Prop) (E:Str->Sto->Prop) (d:D) (M:Sto):Prop:=wS (ZjX tg bd d ρ M) N R B C E
theorem Zrj:wS (Zgw tg f bd ρ M) N R B C E=wO (f ρ M) (kFo tg bd ρ N R B C E) E:=ZnW
theorem ZoJ:wS (ZjX tg bd (.tup xs) ρ M) N R B C E=wS (ZbL tg bd xs ρ M) N R B C E:=rfl
theorem ZoK:wS (ZjX tg bd (.rol xs) ρ M) N R B C E=wS (ZbL tg bd xs ρ M) N R B C E:=rfl
noncomputable def kFs (tg:Tg) (bd:Sv) (ρ:Ro) (N:Ro->Sto->Prop) (R:D->Sto->Prop) (B C:Ro->Sto->Prop) (E:Str->Sto->Prop) (src:Src) (M:Sto):Prop:=wS (Zfv tg bd src (cnt src M) 0 ρ M) N R B C E
theorem ZoL {fi:Ro->Sto->Out Src}:wS (Zc6 tg fi bd ρ M) N R B C E=wO (fi ρ M) (kFs tg bd ρ N R B C E) E:=Zlz
noncomputable def hT (cs:List Str) (gh:Sv) (i:Nat) (ρ:Ro) (c:Str) (M:Sto):Fl:=if cs.contains c=true then (match gh ((List.replicate ρ.length none).set i (some (.err c []))) M with | .ret d M2=> .ret d M2 | .nx _ M2=> .nx (List.replicate ρ.length none) M2 | _=> .bad) else .bad
noncomputable def kTr (cs:List Str) (gh:Sv) (i:Nat) (ρ:Ro) (N:Ro->Sto->Prop) (R:D->Sto->Prop) (B C:Ro->Sto->Prop) (E:Str->Sto->Prop) (c:Str) (M:Sto):Prop:=cs.contains c=true/\wS (gh ((List.replicate ρ.length none).set i (some (.err c []))) M) (fun _ M2=>N (List.replicate ρ.length none) M2) R (fun _ _=>False) (fun _ _=>False) (fun _ _=>False)
theorem Zrk {cs:List Str} {gh:Sv}:wS (Zsl a cs k gh ρ M) N R B C E=wS (a ρ M) N R B C (kTr cs gh k ρ N R B C E):=by
 unfold Zsl
 cases e:a ρ M<;>try rfl
 rename_i c M1
 show wS (if cs.contains c=true then _ else _) N R B C E=kTr cs gh k ρ N R B C E c M1
 unfold kTr
 by_cases h:cs.contains c=true
 ·rw[if_pos h]
  simp only[h,true_and]
  cases gh ((List.replicate ρ.length none).set k (some (.err c []))) M1<;>rfl
 ·rw[if_neg h]
  simp only[h,Bool.false_eq_true,false_and]
  rfl
noncomputable def Zui (Q:D->Sto->Prop) (M1:Sto) (u:Unit) (M:Sto):Prop:=Q (.ref M1.length) M
noncomputable def kCo (tg:Tg) (c:Tv) (f:Ev) (k:Nat) (fr:List Nat) (ρ:Ro) (Q:D->Sto->Prop) (src:Src) (M:Sto):Prop:=wO (Zcw src tg c f M.length (cnt src M) 0 (roB k fr ρ) (M ++ [.lst []])) (Zui Q M) (fun _ _=>False)
theorem ZoM {fi:Ro->Sto->Out Src} {fr:List Nat}:wO (Za0 fi k fr tg t f ρ M) Q E=wO (fi ρ M) (kCo tg t f k fr ρ Q) E:=ZlA
noncomputable def ZsI (QS:Src->Sto->Prop) (M:Sto) (j:Int):Prop:=(-(2 ^ 62)<=j/\j < 2 ^ 62)/\QS (.pur (Zbs 0 j.toNat)) M
noncomputable def ZsJ (QS:Src->Sto->Prop) (M:Sto) (d:D):Prop:=wI d (ZsI QS M)
noncomputable def kS1 (QS:Src->Sto->Prop) (ds:List D) (M:Sto):Prop:=w1 ds (ZsJ QS M)
theorem Zuj:wO (iR1 fs ρ M) QS E=wO (fs ρ M) (kS1 QS) E:=Zt2
noncomputable def ZsK (QS:Src->Sto->Prop) (M:Sto) (i:Int) (j:Int):Prop:=(-(2 ^ 62)<=i/\i < 2 ^ 62/\ -(2 ^ 62)<=j/\j < 2 ^ 62)/\QS (.pur (Zbs i (j - i).toNat)) M
noncomputable def ZsL (QS:Src->Sto->Prop) (M:Sto) (y:D) (i:Int):Prop:=wI y (ZsK QS M i)
noncomputable def ZsM (QS:Src->Sto->Prop) (M:Sto) (x y:D):Prop:=wI x (ZsL QS M y)
noncomputable def kS2 (QS:Src->Sto->Prop) (ds:List D) (M:Sto):Prop:=w2 ds (ZsM QS M)
theorem Zuk:wO (iR2 fs ρ M) QS E=wO (fs ρ M) (kS2 QS) E:=Zt3
noncomputable def oSq (d:D) (M:Sto):Out Src:=match d with | .tup ds=> .ok (.pur ds) M | .rol ds=> .ok (.pur ds) M | .con ds=> .ok (.pur ds) M | .ref n=> .ok (.sto n) M | _=> .bad
theorem Zul:wO (iSq f ρ M) QS E=wO (f ρ M) (kU oSq QS E) E:=by unfold iSq;exact Zt
theorem Zrl:wO (oSq (.tup xs) M) QS E=QS (.pur xs) M:=rfl
theorem Zrm:wO (oSq (.rol xs) M) QS E=QS (.pur xs) M:=rfl
theorem Zrn:wO (oSq (.ref n) M) QS E=QS (.sto n) M:=rfl
noncomputable def ZsN (QS:Src->Sto->Prop) (M:Sto) (d:D):Prop:=wR d (kQ QS .enu M)
noncomputable def kEn (QS:Src->Sto->Prop) (ds:List D) (M:Sto):Prop:=w1 ds (ZsN QS M)
theorem Zum:wO (iEn fs ρ M) QS E=wO (fs ρ M) (kEn QS) E:=Zt4
noncomputable def ZsO (QS:Src->Sto->Prop) (M:Sto) (y:D) (n:Nat):Prop:=wR y (kQ QS (.zip n) M)
noncomputable def ZsP (QS:Src->Sto->Prop) (M:Sto) (x y:D):Prop:=wR x (ZsO QS M y)
noncomputable def kZp (QS:Src->Sto->Prop) (ds:List D) (M:Sto):Prop:=w2 ds (ZsP QS M)
theorem Zun:wO (iZp fs ρ M) QS E=wO (fs ρ M) (kZp QS) E:=Zt5
noncomputable def ZsQ (QS:Src->Sto->Prop) (n:Nat) (M:Sto) (xs:List D):Prop:=QS (.rev n xs.length) M
noncomputable def ZsR (QS:Src->Sto->Prop) (M:Sto) (n:Nat):Prop:=wL M[n]? (ZsQ QS n M)
noncomputable def ZsS (QS:Src->Sto->Prop) (M:Sto) (d:D):Prop:=wR d (ZsR QS M)
noncomputable def kRv (QS:Src->Sto->Prop) (ds:List D) (M:Sto):Prop:=w1 ds (ZsS QS M)
theorem Zuo:wO (iRv fs ρ M) QS E=wO (fs ρ M) (kRv QS) E:=Zt6
noncomputable def ZoN (xs:List D) (M:Sto) (Q:D->Sto->Prop) (ys:List D):Prop:=xs.length + ys.length<=10000000/\Q (.ref M.length) (M ++ [.lst (xs ++ ys)])
noncomputable def ZsT (m:Nat) (M:Sto) (Q:D->Sto->Prop) (xs:List D):Prop:=wL M[m]? (ZoN xs M Q)
theorem Zro:wO (dAdd (.ref n) (.ref m) M) Q E=wL M[n]? (ZsT m M Q):=ZqE
noncomputable def ZpQ (i:Int) (M:Sto) (Q:D->Sto->Prop) (xs:List D):Prop:=((-9223372036854775808<=i/\i < 9223372036854775808)/\xs.length * i.toNat<=100000)/\Q (.ref M.length) (M ++ [.lst (List.replicate i.toNat xs).flatten])
theorem Zrp:wO (ZtJ (.ref n) (.int i) M) Q E=wL M[n]? (ZpQ i M Q):=by
 show wO (match M[n]? with | some (.lst xs)=>if (-9223372036854775808<=i/\i < 9223372036854775808)/\xs.length * i.toNat<=100000 then Out.ok (.ref M.length) (M ++ [.lst (List.replicate i.toNat xs).flatten]) else .bad | none=> .bad) Q E=_
 cases e1:M[n]? with
 |none=>rfl
 |some o=>
  cases o with
  |lst xs=>
   show wO (if (-9223372036854775808<=i/\i < 9223372036854775808)/\xs.length * i.toNat<=100000 then Out.ok (.ref M.length) (M ++ [.lst (List.replicate i.toNat xs).flatten]) else .bad) Q E=ZpQ i M Q xs
   unfold ZpQ
   by_cases h:(-9223372036854775808<=i/\i < 9223372036854775808)/\xs.length * i.toNat<=100000
   ·rw[if_pos h];simp only[eq_true h,true_and];rfl
   ·rw[if_neg h];simp only[eq_false h,false_and];rfl
noncomputable def kEq (Q:D->Sto->Prop) (M:Sto) (b:Bool):Prop:=Q (.bl b) M
noncomputable def kNe (Q:D->Sto->Prop) (M:Sto) (b:Bool):Prop:=Q (.bl (!b)) M
theorem Zup:wO (dEq x y M) Q E=wG (eqF 12 M x y) (kEq Q M):=ZtX
theorem Zuq:wO (dNe x y M) Q E=wG (eqF 12 M x y) (kNe Q M):=ZtY
theorem Zur:wO (dIs x y M) Q E=wG (isP x y) (kEq Q M):=ZtZ
theorem Zrq:wO (dIsNot x y M) Q E=wG (isP x y) (kNe Q M):=ZqF
theorem Zrr:wO (Zsn x y M) Q E=wG (inE x y M) (kEq Q M):=by unfold Zsn;cases inE x y M<;>rfl
theorem Zju:wO (Zhu x y M) Q E=wG (inE x y M) (kNe Q M):=by unfold Zhu;cases inE x y M<;>rfl
theorem Zrs:wO (dIx (.tup xs) (.int i) M) Q E=wG (atI xs i) (kQ Q id M):=ZqG
theorem Zrt:wO (dIx (.rol xs) (.int i) M) Q E=wG (atI xs i) (kQ Q id M):=ZqH
noncomputable def kIx (i:Int) (Q:D->Sto->Prop) (M:Sto) (xs:List D):Prop:=wG (atI xs i) (kQ Q id M)
theorem Zru:wO (dIx (.ref n) (.int i) M) Q E=wL M[n]? (kIx i Q M):=ZqI
noncomputable def ZsU (Q:D->Sto->Prop) (M:Sto) (xs:List D):Prop:=Q (.int xs.length) M
theorem ZoO:wO (bLen [.ref n] M) Q E=wL M[n]? (ZsU Q M):=Zn0
noncomputable def kLi (Q:D->Sto->Prop) (M:Sto) (xs:List D):Prop:=Q (.ref M.length) (M ++ [.lst xs])
theorem ZlO:wO (bList [.ref n] M) Q E=wL M[n]? (kLi Q M):=ZlC
noncomputable def ZsV (Q:D->Sto->Prop) (M:Sto) (bs:List Bool):Prop:=Q (.bl (bs.all id)) M
noncomputable def kAl (Q:D->Sto->Prop) (M:Sto) (xs:List D):Prop:=wG (Zcq xs) (ZsV Q M)
theorem Zrv:wO (Zsj [.ref n] M) Q E=wL M[n]? (kAl Q M):=ZqM
noncomputable def ZsW (g:List Int->Option Int) (Q:D->Sto->Prop) (M:Sto) (ns:List Int):Prop:=wG (g ns) (kQ Q .int M)
noncomputable def ZsX (g:List Int->Option Int) (Q:D->Sto->Prop) (M:Sto) (xs:List D):Prop:=wG (ZbM xs) (ZsW g Q M)
theorem ZoP {gi:List Int->Option Int}:wO (Zch gi [.ref n] M) Q E=wL M[n]? (ZsX gi Q M):=Zn5
noncomputable def kMt (g:Me) (fs:Av) (ρ:Ro) (Q:D->Sto->Prop) (E:Str->Sto->Prop) (x:D) (M:Sto):Prop:=Zlc x M=true/\wO (fs ρ M) (kU (g x) Q E) E
theorem Zus {me:Me} {fo:Ev}:wO (ZcF me fo fs ρ M) Q E=wO (fo ρ M) (kMt me fs ρ Q E) E:=Zt0
noncomputable def ZsY (n:Nat) (d:D) (Q:D->Sto->Prop) (M:Sto) (xs:List D):Prop:=xs.length < 10000000/\Q .non (M.set n (.lst (xs ++ [d])))
theorem Zrw:wO (mApp (.ref n) [d] M) Q E=wL M[n]? (ZsY n d Q M):=ZqN
noncomputable def ZsZ (n:Nat) (Q:D->Sto->Prop) (M:Sto) (xs:List D):Prop:=Q .non (M.set n (.lst []))
theorem Zrx:wO (Zsm (.ref n) [] M) Q E=wL M[n]? (ZsZ n Q M):=ZqO
noncomputable def ZoQ (n:Nat) (xs:List D) (Q:D->Sto->Prop) (M:Sto) (ys:List D):Prop:=xs.length + ys.length<=10000000/\Q .non (M.set n (.lst (xs ++ ys)))
noncomputable def Zs0 (n m:Nat) (Q:D->Sto->Prop) (M:Sto) (xs:List D):Prop:=wL M[m]? (ZoQ n xs Q M)
theorem Zry:wO (mExt (.ref n) [.ref m] M) Q E=wL M[n]? (Zs0 n m Q M):=ZqP
noncomputable def ZlP (Q:D->Sto->Prop) (M:Sto) (bs:List Bool):Prop:=wG (bs.findIdx? id) (kQ Q (fun (j:Nat)=> .int j) M)
noncomputable def Zs1 (d:D) (Q:D->Sto->Prop) (M:Sto) (xs:List D):Prop:=wG (eqs M d xs) (ZlP Q M)
theorem Zrz:wO (ZtG (.ref n) [d] M) Q E=wL M[n]? (Zs1 d Q M):=by
 show wO (match M[n]? with | some (.lst xs)=>(match eqs M d xs with | some bs=>(match bs.findIdx? id with | some j=>Out.ok (.int (j:Nat)) M | none=> .bad) | none=> .bad) | none=> .bad) Q E=_
 cases e1:M[n]? with
 |none=>rfl
 |some o=>
  cases o with
  |lst xs=>
   show wO (match eqs M d xs with | some bs=>(match bs.findIdx? id with | some j=>Out.ok (.int (j:Nat)) M | none=> .bad) | none=> .bad) Q E=wG (eqs M d xs) (ZlP Q M)
   cases eqs M d xs with
   |none=>rfl
   |some bs=>
    show wO (match bs.findIdx? id with | some j=>Out.ok (.int (j:Nat)) M | none=> .bad) Q E=wG (bs.findIdx? id) _
    cases bs.findIdx? id<;>rfl
noncomputable def kCn (Q:D->Sto->Prop) (M:Sto) (bs:List Bool):Prop:=Q (.int (bs.countP id:Nat)) M
noncomputable def Zs2 (d:D) (Q:D->Sto->Prop) (M:Sto) (xs:List D):Prop:=wG (eqs M d xs) (kCn Q M)
theorem ZoR:wO (mCnt (.ref n) [d] M) Q E=wL M[n]? (Zs2 d Q M):=by
 show wO (match M[n]? with | some (.lst xs)=>(match eqs M d xs with | some bs=>Out.ok (.int (bs.countP id:Nat)) M | none=> .bad) | none=> .bad) Q E=_
 cases e1:M[n]? with
 |none=>rfl
 |some o=>
  cases o with
  |lst xs=>
   show wO (match eqs M d xs with | some bs=>Out.ok (.int (bs.countP id:Nat)) M | none=> .bad) Q E=wG (eqs M d xs) (kCn Q M)
   cases eqs M d xs<;>rfl
noncomputable def Zs3 (l u:Option Int) (Q:D->Sto->Prop) (M:Sto) (xs:List D):Prop:=Q (.ref M.length) (M ++ [.lst (Zdy xs l u)])
noncomputable def Zs4 (x:D) (l:Option Int) (Q:D->Sto->Prop) (E:Str->Sto->Prop) (u:Option Int) (M:Sto):Prop:=wO (slR x l u M) Q E
noncomputable def Zs5 (x:D) (hi:Ro->Sto->Out (Option Int)) (ρ:Ro) (Q:D->Sto->Prop) (E:Str->Sto->Prop) (l:Option Int) (M:Sto):Prop:=wO (hi ρ M) (Zs4 x l Q E) E
noncomputable def Zs6 (lo hi:Ro->Sto->Out (Option Int)) (ρ:Ro) (Q:D->Sto->Prop) (E:Str->Sto->Prop) (x:D) (M:Sto):Prop:=wO (lo ρ M) (Zs5 x hi ρ Q E) E
theorem Zut {lo hi:Ro->Sto->Out (Option Int)}:wO (eSl f lo hi ρ M) Q E=wO (f ρ M) (Zs6 lo hi ρ Q E) E:=ZqQ
theorem ZrA {l u':Option Int}:wO (slR (.ref n) l u' M) Q E=wL M[n]? (Zs3 l u' Q M):=ZqR
theorem ZrB {QI:Option Int->Sto->Prop}:wO (oNo ρ M) QI E=QI none M:=rfl
noncomputable def Zs7 (Q:Option Int->Sto->Prop) (x:D) (M:Sto):Prop:=wI x (kQ Q some M)
theorem ZrC {QI:Option Int->Sto->Prop}:wO (oSo f ρ M) QI E=wO (f ρ M) (Zs7 QI) E:=ZqS
noncomputable def oRv (x:D) (M1:Sto):Out D:=match x with | .tup xs=> .ok (.tup xs.reverse) M1 | .ref n=>(match M1[n]? with | some (.lst xs)=> .ok (.ref M1.length) (M1 ++ [.lst xs.reverse]) | none=> .bad) | .rol xs=> .ok (.ref M1.length) (M1 ++ [.lst xs.reverse]) | _=> .bad
theorem Zuu:wO (eRv f ρ M) Q E=wO (f ρ M) (kU oRv Q E) E:=by unfold eRv;exact Zt
noncomputable def ZpR (Q:D->Sto->Prop) (M:Sto) (xs:List D):Prop:=Q (.ref M.length) (M ++ [.lst xs.reverse])
theorem ZrD:wO (oRv (.ref n) M) Q E=wL M[n]? (ZpR Q M):=by show wO (match M[n]? with | some (.lst xs)=>Out.ok (.ref M.length) (M ++ [.lst xs.reverse]) | none=> .bad) Q E=_;cases M[n]? with | none=>rfl | some o=>cases o with | lst xs=>rfl
theorem ZrE:wO (oRv (.tup xs) M) Q E=Q (.tup xs.reverse) M:=rfl
noncomputable def Zs8 (tab:List (Str × Bool)) (x:D) (M:Sto):Out D:=match x with | .err c _=>(match tab.lookup c with | some b=> .ok (.bl b) M | none=> .bad) | _=> .bad
theorem ZrF {tab:List (Str × Bool)}:wO (Zsk tab f ρ M) Q E=wO (f ρ M) (kU (Zs8 tab) Q E) E:=by unfold Zsk;exact Zt
theorem ZoS {tab:List (Str × Bool)} {c:Str}:wO (Zs8 tab (.err c xs) M) Q E=wG (tab.lookup c) (kEq Q M):=by show wO (match tab.lookup c with | some b=>Out.ok (.bl b) M | none=> .bad) Q E=_;cases tab.lookup c<;>rfl
noncomputable def kWh (bd:Sv) (ρ:Ro) (I:Ro->Sto->Prop) (N:Ro->Sto->Prop) (R:D->Sto->Prop) (B C:Ro->Sto->Prop) (E:Str->Sto->Prop) (k:Bool) (M:Sto):Prop:=Br k (wS (bd ρ M) I R N I E) (N ρ M)
theorem ZoT {c:Tv} (I:Nat->Ro->Sto->Prop) (st: ∀ n ρ M,I n ρ M->wO (c ρ M) (kWh bd ρ (fun ρ2 M2=> ∃ m,m < n/\I m ρ2 M2) N R B C E) E) (n:Nat) (ρ:Ro) (M:Sto) (h:I n ρ M):wS (sWh c bd ρ M) N R B C E:=Zjm I st n ρ M h
theorem ZoU {I:Ro->Sto->Prop} {p:Prop} [Decidable p] (h1: ¬ p->wS (bd ρ M) I R N I E) (h2:p->N ρ M):kWh bd ρ I N R B C E (!decide p) M:=brN h1 h2
theorem ZpS {src:Src} {fr:List Nat} (Inv:Ro->Prop) (F:Nat->D) (hl:xs.length < 10000000) (hcnt:xs.length<=cnt src M) (h0:Inv (roB k fr ρ)) (hs: ∀ (L:Sto) (i:Nat),i<=xs.length->nxt src i (M ++ L)=some xs[i]?)
  (st: ∀ (i:Nat) (h:i < xs.length) (ρ:Ro) (L:Sto),Inv ρ->wG (tg xs[i] ρ) fun r=>Inv r/\wO (f r (M ++ L)) (fun y M2=>y=F i/\M2=M ++ L) (fun _ _=>False)) (hq:Q (.ref M.length) (M ++ [.lst ((List.range xs.length).map F)])):
  kCo tg (fun _ M=> .ok true M) f k fr ρ Q src M:=ZlL (Q:=fun M2=>Q (.ref M.length) M2) Inv F hl hcnt h0 hs st hq
theorem Zs9 {fr:List Nat} (Inv:Ro->Prop) (F:Nat->D) (hl:n < 10000000) (h0:Inv (roB k fr ρ))
  (st: ∀ (i:Nat) (h:i < n) (ρ:Ro) (L:Sto),Inv ρ->wG (tg (.int i) ρ) fun r=>Inv r/\wO (f r (M ++ L)) (fun y M2=>y=F i/\M2=M ++ L) (fun _ _=>False)) (hq:Q (.ref M.length) (M ++ [.lst ((List.range n).map F)])):
  kCo tg (fun _ M=> .ok true M) f k fr ρ Q (.pur (Zbs 0 n)) M:=by
 refine ZpS (xs:=Zbs 0 n) Inv F (by rw[Ze2];exact hl) (by simp[cnt]) h0 (fun L i hi=>rfl) (fun i hi ρ L hI=> ?_) (by rw[Ze2];exact hq)
 rw[ZlM]
 have:=st i (by rw[Ze2] at hi;exact hi) ρ L hI
 rw[show (0:Int) + (i:Nat)=i by omega]
 exact this
theorem Zta {fr:List Nat} (Inv:Ro->Prop) (F:Nat->D) (hM:M[n]?=some (.lst xs)) (hl:xs.length < 10000000) (h0:Inv (roB k fr ρ))
  (st: ∀ (i:Nat) (h:i < xs.length) (ρ:Ro) (L:Sto),Inv ρ->wG (tg xs[i] ρ) fun r=>Inv r/\wO (f r (M ++ L)) (fun y M2=>y=F i/\M2=M ++ L) (fun _ _=>False)) (hq:Q (.ref M.length) (M ++ [.lst ((List.range xs.length).map F)])):
  kCo tg (fun _ M=> .ok true M) f k fr ρ Q (.sto n) M:=
 ZpS (xs:=xs) Inv F hl (by rw[Ze1 hM];exact Nat.le_refl _) h0 (fun L i hi=>by rw[Zem];rw[List.getElem?_append_left (Zw hM)];exact hM) st hq
end
end DL
end
namespace DL
open PySem PySem.Spec L2
section
variable {Q:D->Sto->Prop} {E:Str->Sto->Prop} {M:Sto} {n:Nat}
theorem ZrG:wO (bLR [.ref n] M) Q E=wL M[n]? (ZpR Q M):=by
 show wO (match M[n]? with | some (.lst xs)=>Out.ok (.ref M.length) (M ++ [.lst xs.reverse]) | none=> .bad) Q E=_
 cases M[n]? with
 |none=>rfl
 |some o=>cases o with | lst xs=>rfl
end
end DL
namespace DL
open PySem PySem.Spec L2
section
variable {E:Str->Sto->Prop} {N B C:Ro->Sto->Prop} {R:D->Sto->Prop} {ρ:Ro} {M:Sto} {fs:Av} {a b c d:Nat} {QS:Src->Sto->Prop} {tg:Tg} {bd:Sv} {xs ys zs ws:List D}
noncomputable def z3 (xs ys zs:List D) (L:Nat):List D:=(List.range L).map fun i=>D.tup [xs.getD i .non,ys.getD i .non,zs.getD i .non]
theorem gD {xs:List D} {i:Nat} (h:i < xs.length):xs[i]?=some (xs.getD i .non):=by simp[List.getElem?_eq_getElem h]
end
end DL
section
namespace DL
noncomputable abbrev Pt:=Int × Int
noncomputable def X (p q:Pt):Int:=p.1 * q.2 - p.2 * q.1
section
variable {rs:List Pt} {i j:Int} {k n:Nat} {p:Pt}
theorem ZaK {α:Type} {l:List α} {n:Nat} {d:α} (h:n < l.length):l.getD n d=l[n]:=by simp[List.getElem?_eq_getElem h]
theorem Za5 (h:0<=i/\i < rs.length):cy rs i=rs.getD i.toNat (0,0):=by
 unfold cy
 rw[Int.emod_eq_of_lt h.1 h.2]
theorem Za1 {m:Nat} (h:m≠0):(i % m).toNat < m/\0<=i % m:=by
 have:=Int.emod_lt_of_pos i (show (0:Int) < m by omega)
 have:=Int.emod_nonneg i (show (m:Int)≠0 by omega)
 omega
theorem Zkc (h:rs≠[]):cy rs i∈rs:=by
 have hl:rs.length≠0:=by simpa using h
 unfold cy
 rw[ZaK (Za1 hl).1]
 exact List.getElem_mem _
theorem Zb3 {f:Pt->Pt} (h:rs≠[]):cy (rs.map f) i=f (cy rs i):=by
 have hl:rs.length≠0:=by simpa using h
 unfold cy
 rw[List.length_map,ZaK (by rw[List.length_map];exact (Za1 hl).1),ZaK (Za1 hl).1,List.getElem_map]
theorem Zct (hk:k<=rs.length):cy (rs.drop k ++ rs.take k) i=cy rs (i + k):=by
 by_cases h:rs.length=0
 ·have:rs=[]:=by simpa using h
  subst this
  simp[cy]
 have hL:(rs.drop k ++ rs.take k).length=rs.length:=by simp;omega
 have e1:cy (rs.drop k ++ rs.take k) i=cy (rs.drop k ++ rs.take k) (i % rs.length):=by
  conv=>rhs;rw[<- hL,Zdk]
 have e2:cy rs (i + k)=cy rs (i % rs.length + k):=by
  unfold cy
  rw[Int.emod_add_emod]
 rw[e1,e2]
 obtain ⟨a,b⟩:=Za1 (i:=i) h
 generalize hm:i % (rs.length:Int)=m at *
 have hm2:m < rs.length:=by omega
 rw[Za5 (by rw[hL];omega)]
 by_cases c:m + k < rs.length
 ·rw[Za5 (by omega)]
  rw[List.getD_eq_getElem?_getD,List.getD_eq_getElem?_getD,List.getElem?_append_left (by simp;omega),List.getElem?_drop]
  congr 2
  omega
 ·rw[<- Zcr,Za5 (by omega)]
  rw[List.getD_eq_getElem?_getD,List.getD_eq_getElem?_getD,List.getElem?_append_right (by simp;omega),List.getElem?_take_of_lt (by simp;omega)]
  congr 2
  simp
  omega
noncomputable def ins (rs:List Pt) (k:Nat) (p:Pt):List Pt:=rs.take (k + 1) ++ p :: rs.drop (k + 1)
theorem ZdG (hk:k < rs.length):(ins rs k p).length=rs.length + 1:=by simp[ins];omega
theorem Zkd (hk:k < rs.length) (h0:0<=j) (h1:j<=rs.length + 1):cy (ins rs k p) j=if j<=k then cy rs j else if j=k + 1 then p else cy rs (j - 1):=by
 have hL:=ZdG (p:=p) hk
 by_cases e:j=rs.length + 1
 ·subst e
  rw[if_neg (by omega),if_neg (by omega)]
  have e1:cy (ins rs k p) (rs.length + 1)=cy (ins rs k p) 0:=by
   have:=Zcr (rs:=ins rs k p) (i:=(rs.length:Int) + 1)
   rw[hL] at this
   rw[<- this]
   congr 1
   omega
  have e2:cy rs ((rs.length:Int) + 1 - 1)=cy rs 0:=by
   rw[<- Zcr]
   congr 1
   omega
  rw[e1,e2,Za5 (by rw[hL];omega),Za5 (by omega)]
  unfold ins
  rw[List.getD_eq_getElem?_getD,List.getD_eq_getElem?_getD,List.getElem?_append_left (by simp;omega),List.getElem?_take_of_lt (by simp)]
 ·have hj:j < rs.length + 1:=by omega
  rw[Za5 (by rw[hL];omega)]
  unfold ins
  rw[List.getD_eq_getElem?_getD]
  by_cases c1:j<=k
  ·rw[if_pos c1,Za5 (by omega),List.getD_eq_getElem?_getD,List.getElem?_append_left (by simp;omega),List.getElem?_take_of_lt (by omega)]
  ·rw[if_neg c1,List.getElem?_append_right (by simp;omega)]
   have hl:(rs.take (k + 1)).length=k + 1:=by simp;omega
   rw[hl]
   by_cases c2:j=k + 1
   ·rw[if_pos c2]
    have:j.toNat - (k + 1)=0:=by omega
    rw[this]
    rfl
   ·rw[if_neg c2,Za5 (by omega),List.getD_eq_getElem?_getD]
    obtain ⟨z,hz⟩: ∃ z,j.toNat - (k + 1)=z + 1:=⟨j.toNat - (k + 1) - 1,by omega⟩
    rw[hz,List.getElem?_cons_succ,List.getElem?_drop]
    congr 2
    omega
theorem Zcj {P:Pt->Pt->Prop} (hn:rs.length≠0) (h: ∀ i:Int,0<=i->i < rs.length->P (cy rs i) (cy rs (i + 1))) (i:Int):P (cy rs i) (cy rs (i + 1)):=by
 have e1:cy rs i=cy rs (i % rs.length):=Zdk.symm
 have e2:cy rs (i + 1)=cy rs (i % rs.length + 1):=by
  unfold cy
  rw[Int.emod_add_emod]
 rw[e1,e2]
 obtain ⟨a,b⟩:=Za1 (i:=i) hn
 exact h _ b (by omega)
noncomputable def cc (f:Pt->Pt->Nat):List Pt->Nat
 |a :: b :: r=>f a b + cc f (b :: r)
 |_=>0
noncomputable def cyc (f:Pt->Pt->Nat) (rs:List Pt):Nat:=cc f (rs ++ rs.take 1)
theorem ZbC {f:Pt->Pt->Nat}: ∀ (L:List Pt) (a:Pt) (R:List Pt),cc f (L ++ a :: R)=cc f (L ++ [a]) + cc f (a :: R)
 | [],a,R=>by simp[cc]
 | [b],a,R=>by simp[cc]
 |b :: c :: L,a,R=>by
  have:=ZbC (f:=f) (c :: L) a R
  simp only[List.cons_append,cc] at this ⊢
  omega
theorem Zke {f:Pt->Pt->Nat} {g:Pt->Pt}: ∀ (L:List Pt),cc f (L.map g)=cc (fun a b=>f (g a) (g b)) L
 | []=>rfl
 | [_]=>rfl
 |a :: b :: L=>by
  have:=Zke (f:=f) (g:=g) (b :: L)
  simp only[List.map_cons,cc] at this ⊢
  omega
theorem Zkf {f:Pt->Pt->Nat}: ∀ (L:List Pt),cc f L.reverse=cc (fun a b=>f b a) L
 | []=>rfl
 | [_]=>rfl
 |a :: b :: L=>by
  have:=Zkf (f:=f) (b :: L)
  rw[List.reverse_cons,List.reverse_cons,List.append_assoc,List.singleton_append,ZbC]
  rw[List.reverse_cons] at this
  simp only[cc] at this ⊢
  omega
theorem Zax {f:Pt->Pt->Nat} {a:Pt} {r:List Pt}:cyc f (a :: r)=cc f (a :: (r ++ [a])):=by simp[cyc]
theorem ZbU {f:Pt->Pt->Nat} (A B:List Pt):cyc f (A ++ B)=cyc f (B ++ A):=by
 cases A with
 |nil=>simp
 |cons a A=>
  cases B with
  |nil=>simp
  |cons b B=>
   rw[List.cons_append,Zax,List.cons_append,Zax]
   have e1:a :: (A ++ b :: B ++ [a])=(a :: A) ++ b :: (B ++ [a]):=by simp
   have e2:b :: (B ++ a :: A ++ [b])=(b :: B) ++ a :: (A ++ [b]):=by simp
   rw[e1,e2,ZbC (a :: A) b,ZbC (b :: B) a]
   simp only[List.cons_append]
   omega
theorem ZdH {f:Pt->Pt->Nat} {g:Pt->Pt} (L:List Pt):cyc f (L.map g)=cyc (fun a b=>f (g a) (g b)) L:=by
 unfold cyc
 rw[<- List.map_take,<- List.map_append,Zke]
theorem ZhU {f:Pt->Pt->Nat} (L:List Pt):cyc f L.reverse=cyc (fun a b=>f b a) L:=by
 cases L with
 |nil=>rfl
 |cons a L=>
  rw[List.reverse_cons,ZbU,List.singleton_append,Zax,Zax,<- Zkf]
  congr 1
  simp
noncomputable def in1 (w a b:Pt):Nat:=if 0<=X a w/\0 < X w b then 1 else 0
noncomputable def in2 (w a b:Pt):Nat:=if 0 < X a w/\0<=X w b then 1 else 0
noncomputable def Fan (rs:List Pt):Prop:= ∀ w:Pt,w≠(0,0)->cyc (in1 w) rs=1/\cyc (in2 w) rs=1
theorem ZoV {a b w:Pt}:X w (a.1 + b.1,a.2 + b.2)=X w a + X w b/\X (a.1 + b.1,a.2 + b.2) w=X a w + X b w:=by unfold X;constructor<;>grind
theorem Zcx {p q:Pt}:X p q=0 - X q p:=by unfold X;grind
theorem ZhV {a b w:Pt}:in1 w a b=in1 w a (a.1 + b.1,a.2 + b.2) + in1 w (a.1 + b.1,a.2 + b.2) b:=by
 have s:=ZoV (a:=a) (b:=b) (w:=w)
 have e1:=Zcx (p:=w) (q:=a)
 have e2:=Zcx (p:=b) (q:=w)
 unfold in1
 rw[s.1,s.2,e1,e2]
 generalize X a w=p
 generalize X w b=q
 repeat' split
 all_goals omega
theorem ZhW {a b w:Pt}:in2 w a b=in2 w a (a.1 + b.1,a.2 + b.2) + in2 w (a.1 + b.1,a.2 + b.2) b:=by
 have s:=ZoV (a:=a) (b:=b) (w:=w)
 have e1:=Zcx (p:=w) (q:=a)
 have e2:=Zcx (p:=b) (q:=w)
 unfold in2
 rw[s.1,s.2,e1,e2]
 generalize X a w=p
 generalize X w b=q
 repeat' split
 all_goals omega
theorem ZdI {L R:List Pt} {a:Pt}:cy (L ++ a :: R) L.length=a:=by
 rw[Za5 (by simp;omega)]
 simp
theorem Zjv {L R:List Pt} {a b:Pt}:cy (L ++ a :: b :: R) (L.length + 1)=b:=by
 rw[Za5 (by simp;omega)]
 rw[show ((L.length:Int) + 1).toNat=L.length + 1 by omega]
 simp
theorem ZdJ {r:List Pt} {a:Pt}:cy (a :: r) (r.length + 1)=a:=by
 have:=Zcr (rs:=a :: r) (i:=(r.length:Int) + 1)
 rw[<- this,List.length_cons,show (r.length:Int) + 1 - ((r.length + 1:Nat):Int)=0 by omega,Za5 (by simp)]
 rfl
theorem ZhX {f:Pt->Pt->Nat} (hk:k < rs.length) (hf:f (cy rs k) (cy rs (k + 1))=f (cy rs k) p + f p (cy rs (k + 1))):cyc f (ins rs k p)=cyc f rs:=by
 obtain ⟨L,a,R,e,hl⟩: ∃ L a R,rs=L ++ a :: R/\L.length=k:=⟨rs.take k,rs[k],rs.drop (k + 1),by rw[List.getElem_cons_drop,List.take_append_drop],by simp;omega⟩
 have ei:ins rs k p=L ++ a :: p :: R:=by
  unfold ins
  rw[e,<- hl,List.take_append,List.drop_append,List.take_of_length_le (by omega),List.drop_eq_nil_of_le (by omega)]
  simp
 have ca:cy rs k=a:=by rw[e,<- hl];exact ZdI
 cases R with
 |cons b R=>
  have cb:cy rs (k + 1)=b:=by rw[e,<- hl];exact Zjv
  rw[ca,cb] at hf
  rw[ei,e,ZbU,ZbU L]
  simp only[List.cons_append,Zax,cc]
  omega
 |nil=>
  cases L with
  |nil=>
   have cb:cy rs (k + 1)=a:=by
    rw[e,<- hl]
    exact ZdJ (r:=[]) (a:=a)
   rw[ca,cb] at hf
   rw[ei,e]
   simp[cyc,cc]
   omega
  |cons b L=>
   have cb:cy rs (k + 1)=b:=by
    rw[e,<- hl]
    have:=ZdJ (r:=L ++ [a]) (a:=b)
    simp only[List.length_append,List.length_cons,List.length_nil] at this ⊢
    exact this
   rw[ca,cb] at hf
   rw[ei,e]
   simp only[List.cons_append,Zax]
   have e1:b :: (L ++ [a,p] ++ [b])=(b :: L) ++ a :: [p,b]:=by simp
   have e2:b :: (L ++ [a] ++ [b])=(b :: L) ++ a :: [b]:=by simp
   rw[e1,e2,ZbC,ZbC (b :: L) a [b]]
   simp only[cc]
   omega
theorem Fan.rot (h:Fan rs):Fan (rs.drop k ++ rs.take k):=fun w hw=>by
 rw[ZbU,ZbU (rs.drop k),List.take_append_drop]
 exact h w hw
theorem Fan.ins (h:Fan rs) (hk:k < rs.length):Fan (ins rs k ((cy rs k).1 + (cy rs (k + 1)).1,(cy rs k).2 + (cy rs (k + 1)).2)):=fun w hw=>by
 rw[ZhX hk ZhV,ZhX hk ZhW]
 exact h w hw
theorem Zkg {f:Pt->Pt} {s:Int} (hs:s=1\/s= -1) (hf: ∀ p q,X (f p) (f q)=s * X p q) (w:Pt) (hw:w≠(0,0)): ∃ w':Pt,w'≠(0,0)/\ ∀ a,X (f a) w=s * X a w':=by
 have d:=hf (1,0) (0,1)
 have d1:X (f (1,0)) (f (0,1))=s:=by rw[d];simp[X]
 have lin: ∀ a,(f a).1=a.1 * (f (1,0)).1 + a.2 * (f (0,1)).1/\(f a).2=a.1 * (f (1,0)).2 + a.2 * (f (0,1)).2:=by
  intro a
  have h1:=hf a (1,0)
  have h2:=hf a (0,1)
  generalize f a=u at *
  generalize f (1,0)=e1 at *
  generalize f (0,1)=e2 at *
  unfold X at *
  rcases hs with rfl | rfl<;>constructor<;>grind
 refine ⟨(X w (f (0,1)) * s,X (f (1,0)) w * s),?_,?_⟩
 ·intro z
  apply hw
  have z1:=congrArg Prod.fst z
  have z2:=congrArg Prod.snd z
  simp only at z1 z2
  generalize f (1,0)=e1 at *
  generalize f (0,1)=e2 at *
  unfold X at *
  apply Prod.ext
  ·rcases hs with rfl | rfl<;>simp only[]<;>grind
  ·rcases hs with rfl | rfl<;>simp only[]<;>grind
 ·intro a
  obtain ⟨l1,l2⟩:=lin a
  unfold X
  rw[l1,l2]
  rcases hs with rfl | rfl<;>simp only[]<;>grind
theorem Fan.map (h:Fan rs) {f:Pt->Pt} (hf: ∀ p q,X (f p) (f q)=X p q):Fan (rs.map f):=fun w hw=>by
 obtain ⟨w',hw',e⟩:=Zkg (s:=1) (.inl rfl) (fun p q=>by rw[hf,Int.one_mul]) w hw
 have e2: ∀ a,X w (f a)=X w' a:=fun a=>by rw[Zcx,e,Zcx (p:=w')];omega
 have c1: ∀ a b,in1 w (f a) (f b)=in1 w' a b:=fun a b=>by unfold in1;rw[e,e2,Int.one_mul]
 have c2: ∀ a b,in2 w (f a) (f b)=in2 w' a b:=fun a b=>by unfold in2;rw[e,e2,Int.one_mul]
 rw[ZdH,ZdH,show (fun a b=>in1 w (f a) (f b))=in1 w' from funext fun a=>funext fun b=>c1 a b,show (fun a b=>in2 w (f a) (f b))=in2 w' from funext fun a=>funext fun b=>c2 a b]
 exact h w' hw'
theorem Fan.flip (h:Fan rs) {f:Pt->Pt} (hf: ∀ p q,X (f p) (f q)= -1 * X p q):Fan (rs.map f).reverse:=fun w hw=>by
 obtain ⟨w',hw',e⟩:=Zkg (s:= -1) (.inr rfl) hf w hw
 have e2: ∀ a,X w (f a)= -1 * X w' a:=fun a=>by rw[Zcx,e,Zcx (p:=w')];omega
 have c1: ∀ a b,in1 w (f b) (f a)=in2 w' a b:=fun a b=>by
  unfold in1 in2
  rw[e,e2,Zcx (p:=b)]
  have:=Zcx (p:=a) (q:=w')
  simp only[show (0<= -1 * (0 - X w' b)/\0 < -1 * X w' a)=(0 < X a w'/\0<=X w' b) from propext ⟨fun _=>by omega,fun _=>by omega⟩]
 have c2: ∀ a b,in2 w (f b) (f a)=in1 w' a b:=fun a b=>by
  unfold in1 in2
  rw[e,e2,Zcx (p:=b)]
  have:=Zcx (p:=a) (q:=w')
  simp only[show (0 < -1 * (0 - X w' b)/\0<= -1 * X w' a)=(0<=X a w'/\0 < X w' b) from propext ⟨fun _=>by omega,fun _=>by omega⟩]
 rw[ZhU,ZhU,ZdH,ZdH,show (fun a b=>in1 w (f b) (f a))=in2 w' from funext fun a=>funext fun b=>c1 a b,show (fun a b=>in2 w (f b) (f a))=in1 w' from funext fun a=>funext fun b=>c2 a b]
 exact ⟨(h w' hw').2,(h w' hw').1⟩
structure Smo (rs:List Pt):Prop where
 len:3<=rs.length
 one: ∀ i:Int,X (cy rs i) (cy rs (i + 1))=1
 fan:Fan rs
noncomputable def Nr (b:Int) (rs:List Pt):Prop:= ∀ p∈rs,(-b<=p.1/\p.1<=b)/\ -b<=p.2/\p.2<=b
theorem Smo.ne (h:Smo rs):rs≠[]:=by
 intro z
 have:=h.len
 rw[z] at this
 simp at this
theorem Nr.cy {b:Int} (h:Nr b rs) (hn:rs≠[]) (i:Int):(-b<=(cy rs i).1/\(cy rs i).1<=b)/\ -b<=(cy rs i).2/\(cy rs i).2<=b:=h _ (Zkc hn)
theorem Smo.ins (h:Smo rs) (hk:k < rs.length):Smo (ins rs k ((cy rs k).1 + (cy rs (k + 1)).1,(cy rs k).2 + (cy rs (k + 1)).2)):=by
 have hL:=ZdG (p:=((cy rs k).1 + (cy rs (k + 1)).1,(cy rs k).2 + (cy rs (k + 1)).2)) hk
 refine ⟨by rw[hL];have:=h.len;omega,?_,h.fan.ins hk⟩
 refine Zcj (P:=fun a b=>X a b=1) (by omega) ?_
 intro i h0 h1
 rw[hL] at h1
 rw[Zkd hk h0 (by omega),Zkd hk (by omega) (by omega)]
 have ok:=h.one k
 by_cases c1:i + 1<=k
 ·rw[if_pos (by omega),if_pos c1];exact h.one i
 ·rw[if_neg c1]
  by_cases c2:i=k
  ·subst c2
   rw[if_pos (by omega),if_pos rfl]
   unfold X at *
   grind
  ·rw[if_neg (by omega: ¬ i<=(k:Int)),if_neg (by omega: ¬ i + 1=(k:Int) + 1)]
   by_cases c3:i=k + 1
   ·subst c3
    rw[if_pos rfl]
    have:(k:Int) + 1 + 1 - 1=k + 1:=by omega
    rw[this]
    unfold X at *
    grind
   ·rw[if_neg c3]
    have:=h.one (i - 1)
    have e:i - 1 + 1=i + 1 - 1:=by omega
    rw[e] at this
    exact this
theorem Smo.rot (h:Smo rs) (hk:k<=rs.length):Smo (rs.drop k ++ rs.take k):=by
 refine ⟨by have:=h.len;simp;omega,fun i=> ?_,h.fan.rot⟩
 rw[Zct hk,Zct hk]
 have:=h.one (i + k)
 have e:i + (k:Int) + 1=i + 1 + k:=by omega
 rw[e] at this
 exact this
theorem Smo.map (h:Smo rs) {f:Pt->Pt} (hf: ∀ p q,X (f p) (f q)=X p q):Smo (rs.map f):=by
 refine ⟨by have:=h.len;simp;omega,fun i=> ?_,h.fan.map hf⟩
 rw[Zb3 h.ne,Zb3 h.ne,hf]
 exact h.one i
theorem Nr.ins {b:Int} (h:Nr b rs) (hp:(-b<=p.1/\p.1<=b)/\ -b<=p.2/\p.2<=b):Nr b (ins rs k p):=by
 intro q hq
 rcases List.mem_append.mp hq with hq | hq
 ·exact h q (List.mem_of_mem_take hq)
 ·rcases List.mem_cons.mp hq with hq | hq
  ·subst hq;exact hp
  ·exact h q (List.mem_of_mem_drop hq)
theorem Nr.rot {b:Int} (h:Nr b rs):Nr b (rs.drop k ++ rs.take k):=by
 intro q hq
 rcases List.mem_append.mp hq with hq | hq
 ·exact h q (List.mem_of_mem_drop hq)
 ·exact h q (List.mem_of_mem_take hq)
end
end DL
end
section
namespace CC
open PySem PySem.Spec L2 DL
noncomputable def Z6:Sv:=(Zaf (e2 dSub (e2 dMul (e2 dIx (Zd 0) (eC (.int 0))) (e2 dIx (Zd 1) (eC (.int 1)))) (e2 dMul (e2 dIx (Zd 0) (eC (.int 1))) (e2 dIx (Zd 1) (eC (.int 0))))))
noncomputable def F_crossed:List D->Sto->Out D:=fnF Z6 2 0
noncomputable def Zan:Sv:=(Zaf (e2 dIx (Zd 0) (e2 dMod (e2 dAdd (Zd 1) (eC (.int 1))) (Zj bLen (Zc (Zd 0) aNil)))))
noncomputable def F_following:List D->Sto->Out D:=fnF Zan 2 0
noncomputable def ZP:Sv:=(sIf (tv (e2 dNe (Zj F_crossed (Zc (Zd 2) (Zc (Zj F_following (Zc (Zd 0) (Zc (Zd 1) aNil))) aNil))) (eC (.int 1)))) (Zaf (Zd 1)) sNil)
noncomputable def Zao:Sv:=(Zu (Zc6 (gTp (gCs (gNm 1) (gCs (gNm 2) gNl))) (iEn (Zc (Zd 0) aNil)) ZP)
 (Zaf (eC .non)))
noncomputable def F_unspanned:List D->Sto->Out D:=fnF Zao 1 2
noncomputable def Zac:Sv:=(Zu (ZD (gNm 1) (Zj F_unspanned (Zc (Zd 0) aNil)))
 (sIf (tv (e2 dIsNot (Zd 1) (eC .non))) (ZbA (PySem.Str.ofString "NotSmooth") (Zc (eFs (Zc7 (eC (.str (PySem.Str.ofString "ray "))) (Zc7 (eFm (Zd 1)) (Zc7 (eC (.str (PySem.Str.ofString " does not cross the next one in 1"))) jNil)))) aNil)) sNil))
noncomputable def F_ask_smooth:List D->Sto->Out D:=fnF Zac 1 1
noncomputable def ZaL:Sv:=(Zu (ZD (gNm 2) (eC (.int 0)))
 (Zu (sIf (tv (e2 dLt (Zd 1) (Zj bLen (Zc (Zd 0) aNil)))) (ZD (gNm 2) (e2 dMod (e2 dIx (Zd 0) (Zd 1)) (e2 dPow (eC (.int 10)) (eC (.int 60))))) sNil)
 (Zu (sIf (tv (e2 dLt (Zd 2) (e2 dPow (eC (.int 10)) (eC (.int 18))))) (Zu (ZD (gNm 3) (e2 dMod (e2 dMul (e2 dAdd (Zd 2) (e2 dMul (eC (.int 1442695040888963407)) (e2 dAdd (Zd 1) (eC (.int 1))))) (eC (.int 6364136223846793005))) (e2 dPow (eC (.int 10)) (eC (.int 37)))))
 (ZD (gNm 2) (e2 dMod (e2 dDiv (e2 dMul (Zd 3) (Zd 3)) (e2 dPow (eC (.int 10)) (eC (.int 17)))) (e2 dPow (eC (.int 10)) (eC (.int 56)))))) sNil)
 (Zaf (Zd 2)))))
noncomputable def F_law_cell_at:List D->Sto->Out D:=fnF ZaL 2 2
noncomputable def ZbV:Sv:=(Zaf (e2 dSub (e2 dMul (e2 dIx (Zd 0) (eC (.int 0))) (e2 dIx (Zd 1) (eC (.int 1)))) (e2 dMul (e2 dIx (Zd 0) (eC (.int 1))) (e2 dIx (Zd 1) (eC (.int 0))))))
noncomputable def F_law_cross:List D->Sto->Out D:=fnF ZbV 2 0
noncomputable def ZaM:Sv:=(sIf (tv (e2 dEq (Zd 4) (eC (.int 0)))) (ZaJ (ZcF mApp (Zd 5) (Zc (Zal (Zc (e2 dAdd (Zd 6) (e2 dMul (Zd 3) (Zd 7))) (Zc (Zd 7) aNil))) aNil))) (sIf (tv (e2 dEq (Zd 4) (eC (.int 1)))) (ZaJ (ZcF mApp (Zd 5) (Zc (Zal (Zc (Zd 6) (Zc (e2 dAdd (Zd 7) (e2 dMul (Zd 3) (Zd 6))) aNil))) aNil))) (sIf (tv (e2 dEq (Zd 4) (eC (.int 2)))) (ZaJ (ZcF mApp (Zd 5) (Zc (Zal (Zc (e2 dSub (eC (.int 0)) (Zd 7)) (Zc (Zd 6) aNil))) aNil))) (ZaJ (ZcF mApp (Zd 5) (Zc (Zal (Zc (Zd 6) (Zc (Zd 7) aNil))) aNil))))))
noncomputable def ZaN:Sv:=(Zu (ZD (gNm 3) (e2 dSub (e2 dMod (e2 dDiv (Zd 1) (eC (.int 4))) (eC (.int 5))) (eC (.int 2))))
 (Zu (sIf (tv (e2 dEq (e2 dMod (e2 dDiv (Zd 1) (eC (.int 20))) (eC (.int 8))) (eC (.int 0)))) (ZD (gNm 3) (e2 dSub (e2 dMod (e2 dDiv (Zd 1) (eC (.int 160))) (eC (.int 19))) (eC (.int 9)))) sNil)
 (Zu (ZD (gNm 4) (e2 dMod (Zd 1) (eC (.int 4))))
 (Zu (ZD (gNm 1) (e2 dDiv (Zd 1) (eC (.int 3040))))
 (Zu (ZD (gNm 5) (Zc5 aNil))
 (Zu (Zgw (gTp (gCs (gNm 6) (gCs (gNm 7) gNl))) (Zd 0) ZaM)
 (sIf (tv (e2 dLe (Zj (Zch List.max?) (Zc (e2 dAdd (Za0 (iSq (Zd 5)) 2 [] (gTp (gCs (gNm 0) (gCs (gNm 1) gNl))) (fun _ M=> .ok true M) (Zj bAbs (Zc (Zd 0) aNil))) (Za0 (iSq (Zd 5)) 2 [] (gTp (gCs (gNm 0) (gCs (gNm 1) gNl))) (fun _ M=> .ok true M) (Zj bAbs (Zc (Zd 1) aNil)))) aNil)) (eC (.int 200)))) (ZD (gNm 0) (Zd 5)) sNil)))))))
noncomputable def ZbH:Sv:=(Zu (Zb0 (gNm 2) (Zc (eC (.int 3)) aNil) ZaN)
 (Zaf (Zd 0)))
noncomputable def F_law_turn:List D->Sto->Out D:=fnF ZbH 2 6
noncomputable def ZbI:Sv:=(Zu (ZD (gNm 1) (Zj bLen (Zc (Zd 0) aNil)))
 (Zaf (Za0 (iR1 (Zc (Zd 1) aNil)) 1 [0,1] (gNm 0) (fun _ M=> .ok true M) (e2 dSub (eC (.int 0)) (Zj F_law_cross (Zc (e2 dIx (Zd 1) (e2 dSub (Zd 0) (eC (.int 1)))) (Zc (e2 dIx (Zd 1) (e2 dMod (e2 dAdd (Zd 0) (eC (.int 1))) (Zd 2))) aNil)))))))
noncomputable def F_law_tags:List D->Sto->Out D:=fnF ZbI 1 1
end CC
end
open PySem PySem.Spec L2 DL
set_option hygiene false
set_option compiler.extract_closed false
local macro_rules | `(tactic| simp! [$ls,*]) => `(tactic| simp (implicitDefEqProofs := false) (disch := omega) only [Zt7, y_c, y_v, Zov, ZqZ, Zow, Zq0, Zq1, Zq2, Zox, Zq4, Zoy, Zt8, Zt9, Zub, Zq5, Zuc, Zq6, Zoz, Zq7, ZoA, Zud, Zq8, Zue, ZoB, Zq9, ZoC, Zra, ZoD, Zrb, Zrc, Zrd, ZoE, ZoF, Zuf, Zug, Zrf, Zrg, ZoG, Zrh, Zri, ZlN, ZoH, ZoI, Zrj, ZoJ, ZoK, ZoL, Zrk, ZoM, Zuj, Zuk, Zul, Zrl, Zrm, Zrn, Zum, Zun, Zuo, Zro, Zrp, Zup, Zuq, Zur, Zrq, Zrr, Zju, Zrs, Zrt, Zru, ZoO, ZlO, Zrv, ZoP, Zus, Zrw, Zrx, Zry, Zrz, ZoR, Zut, ZrA, ZrB, ZrC, Zuu, ZrD, ZrE, ZrF, ZoS, kU, kQ, kB2, kB1, kA2, kA1, kTu, kLs, kTy, kIf, kTA, kTO, kTN, kSq, kDr, kSi, kAs, kAt, Zsw, kPa, Zsx, Zsy, Zsz, ZsA, ZsB, ZsC, kPu, kRa, ZsD, ZsE, kR1, ZsF, ZsG, ZsH, kR2, kFo, kFs, kTr, ZsI, ZsJ, kS1, ZsK, ZsL, ZsM, kS2, ZsN, kEn, ZsO, ZsP, kZp, ZsQ, ZsR, ZsS, kRv, ZoN, ZsT, ZpQ, kEq, kNe, kIx, ZsU, kLi, ZsV, kAl, ZsW, ZsX, kMt, ZsY, ZsZ, ZoQ, Zs0, ZlP, Zs1, kCn, Zs2, Zs3, Zs4, Zs5, Zs6, Zs7, ZpR, Zjo, ZfE, ZhR, Zjr, ZfG, Zjp, Zjq, ZhS, Zjt, Zjs, ZlF, ZlE, Zmj, decide_eq_true, decide_eq_false, wF1, wF2, wF3, wF4, Zn, ZnM, ZtM, ZtN, ZtO, ZtP, ZtQ, ZtR, ZtK, ZtL, Zqy, Zqz, ZqA, ZnY, ZqB, ZqC, ZqD, ZtT, ZtU, ZtV, ZtW, ZnZ, Zn1, Zn2, ZqJ, ZqK, ZqL, Zn3, Zn4, ZlD, Zn6, Zn7, Zjn, ZqV, ZqW, ZqX, ZqY, id, roB, at0, at1, at2, at3, gTp, gCs, gNl, gNm, List.set_cons_zero, List.set_cons_succ, List.getElem?_cons_zero, List.getElem?_cons_succ, List.length_cons, List.length_nil, List.length_append, List.length_map, List.map_cons, List.map_nil, List.cons_append, List.nil_append, List.append_assoc, List.append_nil, List.replicate_succ, List.replicate_zero, Option.join_some, Option.isSome_some, ZdF, Zj8, Zci, Zj9, ZqT, Zn8, Zn9, Zy, Zam, Zob, Zt1, Zsr, Zod, ZqU, Zoe, Zof, Zog, Zoh, Zoi, Zoj, Zok, Zol, Zom, Zon, Zoo, Zop, Zoq, Zor, true_and, and_true, Bool.not_true, Bool.not_false, decide_true, decide_false, Nat.reduceAdd, Nat.reduceLeDiff, Nat.reduceLT, Nat.add_zero, Nat.zero_add, Int.reducePow, Int.reduceToNat, Int.reduceNeg, Int.reduceMod, Int.reduceDiv, Int.reduceAdd, Int.reduceSub, Int.reduceMul, Int.cast_ofNat_Int, Int.reduceEq, Int.reduceLT, Int.reduceLE, $ls,*])
set_option hygiene true
section
namespace CC
open PySem PySem.Spec L2 DL
section
variable {Q:D->Sto->Prop} {E:Str->Sto->Prop} {M:Sto} {a b c d i:Int} {n:Nat} {rs:List Pt}
theorem ZaD (ha: -(18446744073709551616) < a/\a < 18446744073709551616) (hb: -(18446744073709551616) < b/\b < 18446744073709551616):wO (F_crossed [pr a b,pr c d] M) Q E=Q (.int (a * d - b * c)) M:=by
 simp![F_crossed,Z6]
theorem ZlQ (ha: -(18446744073709551616) < a/\a < 18446744073709551616) (hb: -(18446744073709551616) < b/\b < 18446744073709551616):wO (F_law_cross [pr a b,pr c d] M) Q E=Q (.int (a * d - b * c)) M:=ZaD ha hb
theorem Zbm (h:M[n]?=some (.lst (prs rs))) (hi:0<=i/\i < rs.length):wO (F_following [.ref n,.int i] M) Q E=Q (pr (cy rs (i + 1)).1 (cy rs (i + 1)).2) M:=by
 have e:=Za1 (i:=i + 1) (m:=rs.length) (by omega)
 simp![F_following,Zan,h,ZcU,Zdk]
theorem ZbD {rs:List Pt} {i:Nat} (h:i < (prs rs).length):(prs rs)[i]=pr (cy rs i).1 (cy rs i).2:=by
 have h':i < rs.length:=by rw[Zy] at h;exact h
 rw[Zcs h']
 simp[prs]
theorem Nr.big {b:Int} {rs:List Pt} (h:Nr b rs) (hb:b<=18446744073709551615) (hn:rs≠[]) (i:Int):(-(18446744073709551616) < (cy rs i).1/\(cy rs i).1 < 18446744073709551616)/\(-(18446744073709551616) < (cy rs i).2/\(cy rs i).2 < 18446744073709551616):=by
 have:=Nr.cy h hn i
 omega
theorem Ze4 (h:M[n]?=some (.lst (prs rs))) (hs:Smo rs) (hb:Nr 18446744073709551615 rs) (k:Q .non M):wO (F_unspanned [.ref n] M) Q E:=by
 simp![F_unspanned,Zao]
 refine ZhT (fun i ρ M'=>M'=M/\ ∃ x y,ρ=[some (.ref n),x,y]) h ⟨rfl,_,_,rfl⟩ (fun i ρ M' hI=>by rw[hI.1];exact h) ?_ ?_
 ·rintro i ρ M' hi ⟨rfl,x,y,rfl⟩
  have b1:=Nr.big hb (by decide) hs.ne i
  have o1:=hs.one i
  have hi':i < rs.length:=by rw[Zy] at hi;exact hi
  rw[ZbD]
  simp![ZP,Zbm h,ZaD]
  unfold X at o1
  rw[o1]
  simp![Zn]
  exact ⟨_,_,rfl⟩
 ·rintro ρ M' ⟨rfl,x,y,rfl⟩
  simp![Zn]
  exact k
theorem Zen (h:M[n]?=some (.lst (prs rs))) (hs:Smo rs) (hb:Nr 18446744073709551615 rs) (k:Q .non M):wO (F_ask_smooth [.ref n] M) Q E:=by
 simp![F_ask_smooth,Zac]
 refine Ze4 h hs hb ?_
 simp![Zn]
 exact k
theorem ZoW {i j:Int} (hi:0<=i/\i < 10 ^ 60) (hj:0<=j/\j < 10 ^ 60):Z3 i j:=Zf1 200 200 (show i.natAbs < 2 ^ 200 by omega) (show j.natAbs < 2 ^ 200 by omega) (by decide) (by decide)
theorem Zeo {ns:List Int} {k:Nat} (q: ∀ c:Int,0<=c->Q (.int c) M):wO (F_law_cell_at [.rol (ns.map D.int),.int k] M) Q E:=by
 have tail: ∀ v:Int,0<=v->Q (.int v) M:=q
 simp![F_law_cell_at,ZaL]
 refine brS (fun h1=> ?_) (fun h1=> ?_)
 ·have h2:k < ns.length:=by simpa using h1
  simp![Zjj h2]
  obtain ⟨c,hc,c0⟩: ∃ c:Int,ns[k] % 1000000000000000000000000000000000000000000000000000000000000=c/\0<=c:=⟨_,rfl,by omega⟩
  rw[hc]
  refine brS (fun h1=> ?_) (fun h1=> ?_)
  ·simp![Zn]
   rw[ZfD (ZoW (by omega) (by omega))]
   simp![Zn]
   exact q _ (by omega)
  ·simp![Zn]
   exact q _ c0
 ·obtain ⟨c,hc,c0⟩: ∃ c:Int,0=c/\0<=c:=⟨_,rfl,by omega⟩
  rw[hc]
  simp![Zn]
  rw[ZfD (ZoW (by omega) (by omega))]
  simp![Zn]
  exact q _ (by omega)
noncomputable def tf (w m:Int) (p:Pt):Pt:=if w=0 then (p.1 + m * p.2,p.2) else if w=1 then (p.1,p.2 + m * p.1) else if w=2 then (0 - p.2,p.1) else p
theorem Ztb {w m:Int} (p q:Pt):X (tf w m p) (tf w m q)=X p q:=by
 unfold tf X
 split
 ·grind
 ·split
  ·grind
  ·split
   ·grind
   ·rfl
theorem Zb4 {xs:List Int}:ZbM (nts xs)=some xs:=by
 induction xs with
 |nil=>rfl
 |cons x r ih=>show (match ZbM (nts r) with | some bs=>some (x :: bs) | none=>none)=_;rw[ih]
theorem ZoX {xs:List Int} {v b:Int} (h:xs.max?=some v) (hv:v<=b): ∀ x∈xs,x<=b:=by
 intro x hx
 exact Int.le_trans ((List.max?_le_iff h).mp (Int.le_refl v) x hx) hv
theorem ZfH {m:Nat} {M:Sto} {ss:List Pt} {ρ:Ro} {Q:D->Sto->Prop} (k:Nat) (hk:k=0\/k=1) (h:M[m]?=some (.lst (prs ss))) (hl:ss.length<=1000) (q:Q (.ref M.length) (M ++ [.lst (nts ((List.range ss.length).map fun (i:Nat)=>(if k=0 then (cy ss i).1.natAbs else (cy ss i).2.natAbs:Int)))])):
  kCo (gTp (gCs (gNm 0) (gCs (gNm 1) gNl))) (fun _ M=> .ok true M) (Zj bAbs (Zc (Zd k) aNil)) 2 [] ρ Q (.sto m) M:=by
 refine Zta (fun ρ=> ∃ x y,ρ=[x,y]) (fun (i:Nat)=> .int (if k=0 then (cy ss i).1.natAbs else (cy ss i).2.natAbs:Int)) h (by rw[Zy];omega) ⟨_,_,rfl⟩ ?_ (by rw[Ze3,Zy];exact q)
 rintro i hi ρ L ⟨x,y,rfl⟩
 rw[ZbD]
 rcases hk with rfl | rfl
 ·simp![Zn]
  exact ⟨⟨_,_,rfl⟩,rfl⟩
 ·simp![Zn]
  exact ⟨⟨_,_,rfl⟩,rfl⟩
theorem ZlR {c:Int} (h:M[n]?=some (.lst (prs rs))) (hs:Smo rs) (hb:Nr 200 rs) (hl:rs.length<=1000)
  (q: ∀ ss m M',(∀ i j:Int,X (cy ss i) (cy ss j)=X (cy rs i) (cy rs j))->Smo ss->Nr 200 ss->ss.length=rs.length->M'[m]?=some (.lst (prs ss))->M.length<=M'.length->(∀ k,k < M.length->M'[k]?=M[k]?)->Q (.ref m) M'):wO (F_law_turn [.ref n,.int c] M) Q E:=by
 simp![F_law_turn,ZbH]
 refine Zej (fun i ρ M'=> ∃ ss m c x1 x2 x3 x4 x5 x6,ρ=[some (.ref m),some (.int c),x1,x2,x3,x4,x5,x6]/\(∀ i j:Int,X (cy ss i) (cy ss j)=X (cy rs i) (cy rs j))/\Smo ss/\Nr 200 ss/\ss.length=rs.length/\M'[m]?=some (.lst (prs ss))/\M.length<=M'.length/\(∀ k,k < M.length->M'[k]?=M[k]?)) ⟨rs,n,c,_,_,_,_,_,_,rfl,fun _ _=>rfl,hs,hb,rfl,h,Nat.le_refl _,fun _ _=>rfl⟩ ?_ ?_
 ·rintro i ρ M1 hi ⟨ss,m,c,x1,x2,x3,x4,x5,x6,rfl,s0,s1,s2,s3,s4,s5,s6⟩
  have hm:=Zw s4
  simp![ZaN]
  refine Zre (fun ρ M'=>M'=M1/\ ∃ u:Int,(-9<=u/\u<=9)/\ρ=[some (D.ref m),some (D.int c),some (D.int (0 + ↑i)),some (D.int u),x3,x4,x5,x6]) ?_ ?_
  ·refine brS (fun _=> ?_) (fun _=> ?_)
   ·simp![Zn]
    exact ⟨_,⟨by omega,by omega⟩,rfl⟩
   ·simp![Zn]
    exact ⟨_,⟨by omega,by omega⟩,rfl⟩
  rintro _ M1 ⟨rfl,u,hu,rfl⟩
  simp![Zn]
  generalize c % 4=w
  have hm1:(M1 ++ [SO.lst []])[m]?=some (.lst (prs ss)):=by rw[List.getElem?_append_left hm];exact s4
  refine ZdD (fun i ρ M'=>M'=M1 ++ [.lst (prs ((ss.map (tf w u)).take i))]/\ ∃ y x x',ρ=[some (D.ref m),some (D.int (c / 3040)),y,some (D.int u),some (D.int w),some (D.ref M1.length),x,x']) hm1 ⟨by simp[prs],_,_,_,rfl⟩ (fun i ρ M' hI=>by rw[hI.1,List.getElem?_append_left hm];exact s4) ?_ ?_
  ·rintro i ρ M' hi ⟨rfl,y,x,x',rfl⟩
   rw[ZbD]
   rw[Zy] at hi
   have b1:=Nr.cy s2 s1.ne i
   have tk:prs ((ss.map (tf w u)).take i) ++ [pr (tf w u (cy ss i)).1 (tf w u (cy ss i)).2]=prs ((ss.map (tf w u)).take (i + 1)):=by
    rw[List.take_succ,List.getElem?_map,List.getElem?_eq_getElem hi,<- ZhR,Zcs hi]
    rfl
   have tl:((ss.map (tf w u)).take i).length < 10000000:=by simp;omega
   have fin: ∀ a b:Int,tf w u (cy ss i)=(a,b)->M1 ++ [.lst (prs ((ss.map (tf w u)).take i ++ [(a,b)]))]=M1 ++ [.lst (prs ((ss.map (tf w u)).take (i + 1)))]:=by
    intro a b e
    rw[e] at tk
    rw[<- ZfG,tk]
   simp![ZaM]
   refine brS (fun h1=> ?_) (fun h1=> ?_)
   ·simp![tl]
    exact ⟨fin _ _ (by rw[tf,if_pos h1]),_,_,_,rfl⟩
   simp![Zn]
   refine brS (fun h2=> ?_) (fun h2=> ?_)
   ·simp![tl]
    exact ⟨fin _ _ (by rw[tf,if_neg h1,if_pos h2]),_,_,_,rfl⟩
   simp![Zn]
   refine brS (fun h3=> ?_) (fun h3=> ?_)
   ·simp![tl]
    exact ⟨fin _ _ (by rw[tf,if_neg h1,if_neg h2,if_pos h3]),_,_,_,rfl⟩
   ·simp![tl]
    exact ⟨fin _ _ (by rw[tf,if_neg h1,if_neg h2,if_neg h3]),_,_,_,rfl⟩
  ·rintro ρ M' ⟨rfl,y,x,x',rfl⟩
   rw[List.take_of_length_le (by simp[Zy])]
   have e1:Smo (ss.map (tf w u)):=s1.map Ztb
   have e0: ∀ i j:Int,X (cy (ss.map (tf w u)) i) (cy (ss.map (tf w u)) j)=X (cy rs i) (cy rs j):=fun i j=>by rw[Zb3 s1.ne,Zb3 s1.ne,Ztb,s0]
   have e2:(ss.map (tf w u)).length=rs.length:=by simp;exact s3
   generalize ss.map (tf w u)=ts at *
   have t4:(M1 ++ [SO.lst (prs ts)])[M1.length]?=some (.lst (prs ts)):=by simp
   have l2:(M1 ++ [SO.lst (prs ts)]).length=M1.length + 1:=by simp
   have k2: ∀ k,k < M1.length->(M1 ++ [SO.lst (prs ts)])[k]?=M1[k]?:=fun k hk=>List.getElem?_append_left hk
   generalize M1 ++ [SO.lst (prs ts)]=M2 at *
   simp![Zn]
   refine ZfH 0 (.inl rfl) t4 (by omega) ?_
   generalize hA:((List.range ts.length).map fun (i:Nat)=>(if 0=0 then (cy ts i).1.natAbs else (cy ts i).2.natAbs:Int))=A
   have lA:A.length=ts.length:=by subst hA;simp
   simp![Zn]
   refine ZfH 1 (.inr rfl) (by rw[List.getElem?_append_left (by omega)];exact t4) (by omega) ?_
   generalize hB:((List.range ts.length).map fun (i:Nat)=>(if 1=0 then (cy ts i).1.natAbs else (cy ts i).2.natAbs:Int))=B
   have lB:B.length=ts.length:=by subst hB;simp
   simp![Zn]
   refine ⟨by omega,?_⟩
   obtain ⟨v,hv⟩: ∃ v,(A ++ B).max?=some v:=by
    cases e:(A ++ B).max? with
    |some v=>exact ⟨v,rfl⟩
    |none=>
     rw[List.max?_eq_none_iff] at e
     have h0:(A ++ B).length=0:=by rw[e];rfl
     have:=e1.len
     rw[List.length_append] at h0
     omega
   simp![ZhS,Zb4,hv]
   have hx:=fun b (hb:v<=b)=>ZoX hv hb
   refine brS (fun h=> ?_) (fun h=> ?_)
   ·simp![Zn]
    have nr:Nr 200 ts:=by
     intro p hp
     obtain ⟨k,hk,rfl⟩:=List.getElem_of_mem hp
     have a1:=hx 200 h (cy ts k).1.natAbs (by
      rw[List.mem_append];left;subst hA
      exact List.mem_map.mpr ⟨k,List.mem_range.mpr hk,rfl⟩)
     have a2:=hx 200 h (cy ts k).2.natAbs (by
      rw[List.mem_append];right;subst hB
      exact List.mem_map.mpr ⟨k,List.mem_range.mpr hk,rfl⟩)
     rw[Zcs hk] at a1 a2
     omega
    exact ⟨ts,_,_,_,_,_,_,_,_,rfl,e0,e1,nr,e2,by rw[List.getElem?_append_left (by omega)];exact t4,by omega,fun k hk=>by rw[List.getElem?_append_left (by omega),k2 k (by omega)];exact s6 k hk⟩
   ·simp![Zn]
    exact ⟨ss,_,_,_,_,_,_,_,_,rfl,s0,s1,s2,s3,by rw[List.getElem?_append_left (by omega),k2 _ hm];exact s4,by omega,fun k hk=>by rw[List.getElem?_append_left (by omega),k2 k (by omega)];exact s6 k hk⟩
 ·rintro ρ M1 ⟨ss,m,c,x1,x2,x3,x4,x5,x6,rfl,s0,s1,s2,s3,s4,s5,s6⟩
  simp![Zn]
  exact q ss m M1 s0 s1 s2 s3 s4 s5 s6
theorem ZcV {w a b:Pt} {p q:Int} (h1:X a w=p) (h2:X w b=q):in1 w a b=if 0<=p/\0 < q then 1 else 0:=by unfold in1;rw[h1,h2]
theorem ZcW {w a b:Pt} {p q:Int} (h1:X a w=p) (h2:X w b=q):in2 w a b=if 0 < p/\0<=q then 1 else 0:=by unfold in2;rw[h1,h2]
theorem Zuv:Fan [(1,0),(0,1),(-1,-1)]:=by
 rintro ⟨x,y⟩ hw
 have hw': ¬ (x=0/\y=0):=fun z=>hw (by rw[z.1,z.2])
 have a1:X (1,0) (x,y)=y:=by simp[X]
 have a2:X (0,1) (x,y)= -x:=by simp[X]
 have a3:X (-1,-1) (x,y)=x - y:=by simp[X];omega
 have b1:X (x,y) (0,1)=x:=by simp[X]
 have b2:X (x,y) (-1,-1)=y - x:=by simp[X];omega
 have b3:X (x,y) (1,0)= -y:=by simp[X]
 simp only[cyc,List.take_succ_cons,List.take_zero,List.cons_append,List.nil_append,cc]
 rw[ZcV a1 b1,ZcV a2 b2,ZcV a3 b3,ZcW a1 b1,ZcW a2 b2,ZcW a3 b3]
 clear a1 a2 a3 b1 b2 b3 hw
 constructor
 all_goals
  repeat' split
  all_goals omega
theorem Zuw (f:Int):Fan [(1,0),(0,1),(-1,f),(0,-1)]:=by
 rintro ⟨x,y⟩ hw
 have hw': ¬ (x=0/\y=0):=fun z=>hw (by rw[z.1,z.2])
 have h0:x=0->x * f=0:=fun z=>by rw[z,Int.zero_mul]
 have a1:X (1,0) (x,y)=y:=by simp[X]
 have a2:X (0,1) (x,y)= -x:=by simp[X]
 have a3:X (-1,f) (x,y)= -y - x * f:=by unfold X;simp only;grind
 have a4:X (0,-1) (x,y)=x:=by simp[X]
 have b1:X (x,y) (0,1)=x:=by simp[X]
 have b2:X (x,y) (-1,f)=x * f + y:=by unfold X;simp only;grind
 have b3:X (x,y) (0,-1)= -x:=by simp[X]
 have b4:X (x,y) (1,0)= -y:=by simp[X]
 simp only[cyc,List.take_succ_cons,List.take_zero,List.cons_append,List.nil_append,cc]
 rw[ZcV a1 b1,ZcV a2 b2,ZcV a3 b3,ZcV a4 b4,ZcW a1 b1,ZcW a2 b2,ZcW a3 b3,ZcW a4 b4]
 clear a1 a2 a3 a4 b1 b2 b3 b4 hw
 generalize x * f=z at *
 constructor
 all_goals
  repeat' split
  all_goals omega
theorem ZrH:Smo [(1,0),(0,1),(-1,-1)]:=by
 refine ⟨by decide,Zcj (P:=fun a b=>X a b=1) (by decide) ?_,Zuv⟩
 intro i h0 h1
 have:i=0\/i=1\/i=2:=by simp at h1;omega
 rcases this with rfl | rfl | rfl<;>rfl
theorem ZpT (f:Int):Smo [(1,0),(0,1),(-1,f),(0,-1)]:=by
 refine ⟨by simp,Zcj (P:=fun a b=>X a b=1) (by simp) ?_,Zuw f⟩
 intro i h0 h1
 have:i=0\/i=1\/i=2\/i=3:=by simp at h1;omega
 rcases this with rfl | rfl | rfl | rfl<;>simp[X,cy]
end
end CC
end
section
namespace DL
noncomputable def T (rs:List Pt) (i:Int):Int:=0 - X (cy rs (i - 1)) (cy rs (i + 1))
noncomputable def Zo (rs:List Pt):List Int:=(List.range rs.length).map fun (i:Nat)=>T rs i
section
variable {rs:List Pt} {k:Nat} {p:Pt} {j:Int}
theorem ZL:(Zo rs).length=rs.length:=by simp[Zo]
theorem Zb5 {i:Nat} (h:i < rs.length):(Zo rs)[i]?=some (T rs i):=by
 simp[Zo,h]
end
end DL
namespace CC
open PySem PySem.Spec L2 DL
section
variable {Q:D->Sto->Prop} {E:Str->Sto->Prop} {M:Sto} {a b c d i:Int} {n:Nat} {rs:List Pt}
theorem ZhY (h:M[n]?=some (.lst (prs rs))) (hn:0 < rs.length) (hl:rs.length<=1000) (hb:Nr 18446744073709551615 rs) (q:Q (.ref M.length) (M ++ [.lst (nts (Zo rs))])):wO (F_law_tags [.ref n] M) Q E:=by
 have ne:rs≠[]:=by intro z;rw[z] at hn;simp at hn
 have hm:=Zw h
 simp![F_law_tags,ZbI,h]
 refine ⟨by omega,?_⟩
 rw[show ((rs.length:Int)).toNat=rs.length by omega]
 refine Zs9 (fun ρ=> ∃ x,ρ=[x,some (.ref n),some (.int rs.length)]) (fun (i:Nat)=> .int (T rs i)) (by omega) ⟨_,rfl⟩ ?_ (by rw[Ze3];exact q)
 rintro i hi ρ L ⟨x,rfl⟩
 have e1:=Za1 (i:=(i:Int) + 1) (m:=rs.length) (by omega)
 have b1:=Nr.big hb (by decide) ne (i - 1)
 simp![h,ZcU,Zdk,ZlQ]
 exact ⟨⟨_,rfl⟩,rfl⟩
end
end CC
end
section
namespace DL
noncomputable def del (rs:List Pt) (k:Nat):List Pt:=rs.take k ++ rs.drop (k + 1)
section
variable {rs:List Pt} {k:Nat} {p:Pt} {j:Int}
theorem nbr (hs:Smo rs) (i:Int):(cy rs (i - 1)).1 + (cy rs (i + 1)).1=0 - T rs i * (cy rs i).1/\(cy rs (i - 1)).2 + (cy rs (i + 1)).2=0 - T rs i * (cy rs i).2:=by
 have o1:=hs.one (i - 1)
 have o2:=hs.one i
 rw[show i - 1 + 1=i by omega] at o1
 unfold T X at *
 constructor<;>grind
theorem Zkh (p q:Pt):X p q=0 - X q p:=by unfold X;grind
theorem ZhZ (hs:Smo rs) (i:Int):(cy rs i=((cy rs (i - 1)).1 + (cy rs (i + 1)).1,(cy rs (i - 1)).2 + (cy rs (i + 1)).2)) ↔ T rs i= -1:=by
 obtain ⟨n1,n2⟩:=nbr hs i
 rw[n1,n2]
 have o2:=hs.one i
 constructor
 ·intro e
  generalize cy rs i=v at *
  generalize cy rs (i + 1)=w at *
  obtain ⟨v1,v2⟩:=v
  obtain ⟨w1,w2⟩:=w
  simp only[Prod.mk.injEq,X] at *
  obtain ⟨e1,e2⟩:=e
  have:(T rs i + 1) * (v1 * w2 - v2 * w1)=0:=by grind
  rw[o2] at this
  omega
 ·intro e
  rw[e]
  apply Prod.ext<;>simp
theorem Zck (hk:k < rs.length):(del rs k).length=rs.length - 1:=by simp[del];omega
theorem ZaI (hk:k < rs.length) (h0:0<=j) (h1:j < rs.length - 1):cy (del rs k) j=if j < k then cy rs j else cy rs (j + 1):=by
 have hL:=Zck hk
 rw[Za5 (by rw[hL];omega)]
 unfold del
 rw[List.getD_eq_getElem?_getD]
 by_cases c1:j < k
 ·rw[if_pos c1,Za5 (by omega),List.getD_eq_getElem?_getD,List.getElem?_append_left (by simp;omega),List.getElem?_take_of_lt (by omega)]
 ·have hl:(rs.take k).length=k:=by simp;omega
  rw[if_neg c1,Za5 (by omega),List.getD_eq_getElem?_getD,List.getElem?_append_right (by rw[hl];omega),hl,List.getElem?_drop]
  congr 2
  omega
theorem Zh0 (hk:k < rs.length) (hn:3<=rs.length):cy (del rs k) (-1)=if (k:Int)=rs.length - 1 then cy rs (-2) else cy rs (-1):=by
 have hL:=Zck hk
 have e:=Z2 (rs:=del rs k) (i:= -1)
 rw[hL] at e
 rw[<- e,ZaI hk (by omega) (by omega)]
 by_cases c:(k:Int)=rs.length - 1
 ·rw[if_pos (by omega),if_pos c,<- Z2 (rs:=rs) (i:= -2)]
  exact congrArg _ (by omega)
 ·rw[if_neg (by omega),if_neg c,<- Z2 (rs:=rs) (i:= -1)]
  exact congrArg _ (by omega)
theorem Ze5 (hk:k < rs.length) (hn:3<=rs.length) (hj:j=rs.length - 1):cy (del rs k) j=if k=0 then cy rs (rs.length + 1) else cy rs rs.length:=by
 have hL:=Zck hk
 have e:=Zcr (rs:=del rs k) (i:=j)
 rw[hL] at e
 rw[<- e,show j - ((rs.length - 1:Nat):Int)=0 by omega,ZaI hk (by omega) (by omega)]
 by_cases c:k=0
 ·rw[if_neg (by omega),if_pos c,<- Z2 (rs:=rs) (i:=0 + 1)]
  exact congrArg _ (by omega)
 ·rw[if_pos (by omega),if_neg c,<- Z2 (rs:=rs) (i:=0)]
  exact congrArg _ (by omega)
theorem ZrI (hs:Smo rs) (hk:k < rs.length) (h4:4<=rs.length) (ht:T rs k= -1) (h0:0<=j) (h1:j < rs.length - 1):T (del rs k) j=
  if j < k then T rs j + (if j=k - 1 then 1 else 0) + (if j=0/\(k:Int)=rs.length - 1 then 1 else 0) else T rs (j + 1) + (if j=k then 1 else 0) + (if j=rs.length - 2/\k=0 then 1 else 0):=by
 have hy:=(ZhZ hs k).mpr ht
 have hA: ∀ q,X (cy rs (k - 1)) q=X (cy rs k) q - X (cy rs (k + 1)) q:=by intro q;rw[hy];unfold X;grind
 have hB: ∀ q,X q (cy rs (k + 1))=X q (cy rs k) - X q (cy rs (k - 1)):=by intro q;rw[hy];unfold X;grind
 have o1:=hs.one ((k:Int) - 1 - 1)
 have o2:=hs.one ((k:Int) + 1)
 rw[show (k:Int) - 1 - 1 + 1=k - 1 by omega] at o1
 unfold T
 by_cases c1:j < k
 ·by_cases c2:j=0
  ·subst c2
   rw[show (0:Int) - 1= -1 from rfl,Zh0 hk (by omega)]
   by_cases c3:(k:Int)=rs.length - 1
   ·simp (disch:=omega) only[ZaI hk,if_pos,if_neg,true_and,and_true]
    have e1:cy rs (-2)=cy rs (k - 1):=by rw[<- Z2 (rs:=rs) (i:= -2)];exact congrArg _ (by omega)
    have e2:cy rs (-1)=cy rs k:=by rw[<- Z2 (rs:=rs) (i:= -1)];exact congrArg _ (by omega)
    have e3:cy rs ((k:Int) + 1)=cy rs 0:=by rw[<- Z2 (rs:=rs) (i:=0)];exact congrArg _ (by omega)
    have o:=hs.one 0
    rw[e1,e2,hA,e3]
    omega
   ·by_cases c4:(k:Int)=1
    ·simp (disch:=omega) only[ZaI hk,if_pos,if_neg,true_and,and_true]
     have e2:cy rs (-1)=cy rs ((k:Int) - 1 - 1):=congrArg _ (by omega)
     have e3:cy rs (0 + 1 + 1)=cy rs ((k:Int) + 1):=congrArg _ (by omega)
     have e4:cy rs (0 + 1)=cy rs (k:Int):=congrArg _ (by omega)
     rw[e2,e3,e4,hB]
     omega
    ·simp (disch:=omega) only[ZaI hk,if_pos,if_neg,true_and,and_true]
     omega
  ·by_cases c4:j=k - 1
   ·by_cases c5:(k:Int)=rs.length - 1
    ·rw[Ze5 hk (by omega) (j:=j + 1) (by omega)]
     simp (disch:=omega) only[ZaI hk,if_pos,if_neg,true_and,and_true]
     have e2:cy rs (j - 1)=cy rs ((k:Int) - 1 - 1):=congrArg _ (by omega)
     have e3:cy rs (rs.length:Int)=cy rs ((k:Int) + 1):=congrArg _ (by omega)
     have e4:cy rs (j + 1)=cy rs (k:Int):=congrArg _ (by omega)
     rw[e2,e3,e4,hB]
     omega
    ·simp (disch:=omega) only[ZaI hk,if_pos,if_neg,true_and,and_true]
     have e2:cy rs (j - 1)=cy rs ((k:Int) - 1 - 1):=congrArg _ (by omega)
     have e3:cy rs (j + 1 + 1)=cy rs ((k:Int) + 1):=congrArg _ (by omega)
     have e4:cy rs (j + 1)=cy rs (k:Int):=congrArg _ (by omega)
     rw[e2,e3,e4,hB]
     omega
   ·simp (disch:=omega) only[ZaI hk,if_pos,if_neg,true_and,and_true]
    omega
 ·by_cases c2:j=rs.length - 2
  ·rw[Ze5 hk (by omega) (j:=j + 1) (by omega)]
   by_cases c3:k=0
   ·simp (disch:=omega) only[ZaI hk,if_pos,if_neg,true_and,and_true]
    have e1:cy rs (j - 1 + 1)=cy rs ((k:Int) - 1 - 1):=by rw[<- Z2 (rs:=rs) (i:=(k:Int) - 1 - 1)];exact congrArg _ (by omega)
    have e2:cy rs ((rs.length:Int) + 1)=cy rs ((k:Int) + 1):=by rw[<- Z2 (rs:=rs) (i:=(k:Int) + 1)];exact congrArg _ (by omega)
    have e3:cy rs (j + 1 - 1)=cy rs ((k:Int) - 1 - 1):=by rw[<- Z2 (rs:=rs) (i:=(k:Int) - 1 - 1)];exact congrArg _ (by omega)
    have e4:cy rs (j + 1 + 1)=cy rs (k:Int):=by rw[<- Z2 (rs:=rs) (i:=(k:Int))];exact congrArg _ (by omega)
    rw[e1,e2,e3,e4,hB]
    omega
   ·by_cases c4:j=k
    ·simp (disch:=omega) only[ZaI hk,if_pos,if_neg,true_and,and_true]
     have e1:cy rs (j - 1)=cy rs ((k:Int) - 1):=congrArg _ (by omega)
     have e2:cy rs (rs.length:Int)=cy rs ((k:Int) + 1 + 1):=congrArg _ (by omega)
     have e3:cy rs (j + 1 - 1)=cy rs (k:Int):=congrArg _ (by omega)
     have e4:cy rs (j + 1 + 1)=cy rs ((k:Int) + 1 + 1):=congrArg _ (by omega)
     rw[e1,e2,e3,e4,hA]
     omega
    ·simp (disch:=omega) only[ZaI hk,if_pos,if_neg,true_and,and_true]
     have e1:cy rs (j - 1 + 1)=cy rs (j + 1 - 1):=congrArg _ (by omega)
     have e2:cy rs (rs.length:Int)=cy rs (j + 1 + 1):=congrArg _ (by omega)
     rw[e1,e2]
     omega
  ·by_cases c4:j=k
   ·by_cases c5:k=0
    ·have e0:cy (del rs k) (j - 1)=cy rs ((k:Int) - 1):=by
      rw[show j - 1= -1 by omega,Zh0 hk (by omega),if_neg (by omega)]
      exact congrArg _ (by omega)
     rw[e0]
     simp (disch:=omega) only[ZaI hk,if_pos,if_neg,true_and,and_true]
     have e3:cy rs (j + 1 - 1)=cy rs (k:Int):=congrArg _ (by omega)
     have e4:cy rs (j + 1 + 1)=cy rs ((k:Int) + 1 + 1):=congrArg _ (by omega)
     rw[e3,e4,hA]
     omega
    ·simp (disch:=omega) only[ZaI hk,if_pos,if_neg,true_and,and_true]
     have e1:cy rs (j - 1)=cy rs ((k:Int) - 1):=congrArg _ (by omega)
     have e3:cy rs (j + 1 - 1)=cy rs (k:Int):=congrArg _ (by omega)
     have e4:cy rs (j + 1 + 1)=cy rs ((k:Int) + 1 + 1):=congrArg _ (by omega)
     rw[e1,e3,e4,hA]
     omega
   ·simp (disch:=omega) only[ZaI hk,if_pos,if_neg,true_and,and_true]
    have e1:cy rs (j - 1 + 1)=cy rs (j + 1 - 1):=congrArg _ (by omega)
    rw[e1]
    omega
end
end DL
end
section
namespace DL
noncomputable def nm (p:Pt):Int:=p.1 * p.1 + p.2 * p.2
theorem Zh1 (x:Int):0<=x * x:=by
 rcases Int.le_total 0 x with h | h
 ·exact Int.mul_nonneg h h
 ·exact Int.mul_nonneg_of_nonpos_of_nonpos h h
theorem Ztc {x:Int} (h:x * x<=0):x=0:=by
 have:=Zh1 x
 have:x * x=0:=by omega
 rcases Int.mul_eq_zero.mp this with h | h<;>exact h
theorem ZoY (p:Pt):0<=nm p:=by have:=Zh1 p.1;have:=Zh1 p.2;unfold nm;omega
theorem big {p q r:Pt} {a:Int} (h1:X p q=1) (h2:X q r=1) (e1:p.1 + r.1=a * q.1) (e2:p.2 + r.2=a * q.2) (hp:nm p<=nm q) (hr:nm r<=nm q):a<=1:=by
 apply Classical.byContradiction
 intro c
 have ha:2<=a:=by omega
 have k:a * a * nm q + nm (p.1 - r.1,p.2 - r.2)=2 * nm p + 2 * nm r:=by
  have:a * a * nm q=(a * q.1) * (a * q.1) + (a * q.2) * (a * q.2):=by unfold nm;grind
  rw[this,<- e1,<- e2]
  unfold nm
  grind
 have k4:4 * nm q<=a * a * nm q:=Int.mul_le_mul_of_nonneg_right (by have:2 * 2<=a * a:=Int.mul_le_mul ha ha (by omega) (by omega);omega) (ZoY q)
 have d:=ZoY (p.1 - r.1,p.2 - r.2)
 have d0:nm (p.1 - r.1,p.2 - r.2)<=0:=by omega
 unfold nm at d0
 simp only at d0
 have s1:=Zh1 (p.1 - r.1)
 have s2:=Zh1 (p.2 - r.2)
 have z1:=Ztc (x:=p.1 - r.1) (by omega)
 have z2:=Ztc (x:=p.2 - r.2) (by omega)
 have f1:p.1=r.1:=by omega
 have f2:p.2=r.2:=by omega
 unfold X at h1 h2
 rw[f1,f2] at h1
 have:r.1 * q.2 - r.2 * q.1= -(q.1 * r.2 - q.2 * r.1):=by grind
 omega
theorem Zep {p q r:Pt} (h1:X p q=1) (h2:X q r=1):p.1 + r.1=X p r * q.1/\p.2 + r.2=X p r * q.2:=by
 unfold X at *
 constructor<;>grind
theorem Zh2 {w a b:Pt} (h1:0<=X a w) (h2:0 < X w b):in1 w a b=1:=by unfold in1;rw[if_pos ⟨h1,h2⟩]
theorem ZdK {w a b:Pt} (h:in1 w a b=0): ¬ (0<=X a w/\0 < X w b):=by
 intro z
 rw[Zh2 z.1 z.2] at h
 omega
theorem Zh3 {f:Pt->Pt->Nat} {L R:List Pt} {a b:Pt}:f a b<=cc f (L ++ a :: b :: R):=by
 rw[ZbC]
 simp only[cc]
 omega
theorem XX (p:Pt):X p p=0:=by unfold X;grind
theorem ZoZ {u v w:Pt} {xs:List Pt} (hF:Fan (u :: (xs ++ [w,v]))) (ch: ∀ L a b R,u :: (xs ++ [w,v,u])=L ++ a :: b :: R->X a b=1) (hk:0<=X u w) {x:Pt} (hx:x∈xs):1<=X u x/\1<=X x w:=by
 obtain ⟨A,B,rfl⟩:=List.append_of_mem hx
 obtain ⟨n,N,hN⟩: ∃ n N,B ++ [w,v,u]=n :: N:=by cases B with | nil=>exact ⟨_,_,rfl⟩ | cons b B=>exact ⟨_,_,rfl⟩
 obtain ⟨f,Fs,hf⟩: ∃ f Fs,A ++ [x]=f :: Fs:=by cases A with | nil=>exact ⟨_,_,rfl⟩ | cons b B=>exact ⟨_,_,rfl⟩
 have x1:X x n=1:=ch (u :: A) x n N (by simp[<- hN])
 have u1:X u f=1:=by
  refine ch [] u f (Fs ++ n :: N) ?_
  rw[<- hN]
  have:A ++ x :: B ++ [w,v,u]=A ++ [x] ++ (B ++ [w,v,u]):=by simp
  rw[this,hf]
  simp
 have wv:X w v=1:=ch (u :: (A ++ x :: B)) w v [u] (by simp)
 have vu:X v u=1:=ch (u :: (A ++ x :: B) ++ [w]) v u [] (by simp)
 have x0:x≠(0,0):=by
  intro z
  rw[z] at x1
  simp[X] at x1
 have c:=(hF x x0).1
 rw[Zax] at c
 have e1:u :: (A ++ x :: B ++ [w,v] ++ [u])=(u :: A) ++ x :: (B ++ [w,v,u]):=by simp
 rw[e1,ZbC,hN] at c
 have g1:in1 x u f<=cc (in1 x) (u :: A ++ [x]):=by
  have:=Zh3 (f:=in1 x) (L:=[]) (a:=u) (b:=f) (R:=Fs)
  rw[List.nil_append,<- hf] at this
  exact this
 have g2:in1 x x n=1:=Zh2 (by rw[XX];omega) (by omega)
 have e2:cc (in1 x) (x :: n :: N)=1 + cc (in1 x) (n :: N):=by simp only[cc];omega
 rw[e2] at c
 have z1:in1 x u f=0:=by omega
 have z2:cc (in1 x) (n :: N)=0:=by omega
 rw[<- hN] at z2
 have g3:in1 x w v<=cc (in1 x) (B ++ [w,v,u]):=Zh3 (L:=B) (a:=w) (b:=v) (R:=[u])
 have g4:in1 x v u<=cc (in1 x) (B ++ [w,v,u]):=by
  have:=Zh3 (f:=in1 x) (L:=B ++ [w]) (a:=v) (b:=u) (R:=[])
  simpa using this
 have o1:=ZdK (show in1 x w v=0 by omega)
 have o2:=ZdK (show in1 x v u=0 by omega)
 have o3:=ZdK z1
 have t:=Zep wv vu
 have k1:X w u= -X u w:=by rw[Zcx];omega
 rw[k1] at t
 have hp:x.1=X x u * v.1 + X v x * u.1/\x.2=X x u * v.2 + X v x * u.2:=by unfold X at *;constructor<;>grind
 have xw:X x w=X u w * X v x + X u x:=by
  have e:w.1= -X u w * v.1 - u.1/\w.2= -X u w * v.2 - u.2:=by omega
  have:X x w=x.1 * w.2 - x.2 * w.1:=rfl
  rw[this,e.1,e.2]
  have a1:=Zcx (p:=v) (q:=x)
  have a2:=Zcx (p:=u) (q:=x)
  unfold X at *
  grind
 have s1:=Zcx (p:=x) (q:=u)
 have s2:=Zcx (p:=w) (q:=x)
 have s3:=Zcx (p:=x) (q:=v)
 have nn:0<=X v x->0<=X u w * X v x:=fun h=>Int.mul_nonneg hk h
 have np:X v x < 0->X u w * X v x<=0:=fun h=>Int.mul_nonpos_of_nonneg_of_nonpos hk (by omega)
 have ux:0<=X u x:=by
  by_cases c:0<=X v x
  ·apply Classical.byContradiction
   intro d
   exact o2 ⟨c,by omega⟩
  ·have:=np (by omega)
   have: ¬ (0<=X w x):=fun d=>o1 ⟨d,by omega⟩
   omega
 have ux1:X u x≠0:=by
  intro z
  have hv:0 < X v x:=by
   apply Classical.byContradiction
   intro d
   by_cases c:X v x=0
   ·rw[c,s1,z] at hp
    apply x0
    apply Prod.ext
    ·rw[hp.1];simp
    ·rw[hp.2];simp
   ·have:=np (by omega)
    have: ¬ (0<=X w x):=fun d=>o1 ⟨d,by omega⟩
    omega
  apply o3
  refine ⟨by omega,?_⟩
  have:X x f=X v x * X u f:=by
   rw[s1,z] at hp
   have:X x f=x.1 * f.2 - x.2 * f.1:=rfl
   rw[this,hp.1,hp.2]
   generalize X v x=m
   unfold X
   grind
  rw[this,u1]
  omega
 refine ⟨by omega,?_⟩
 by_cases c:0<=X v x
 ·have:=nn c
  omega
 ·have: ¬ (0<=X w x):=fun d=>o1 ⟨d,by omega⟩
  omega
theorem Ztd {w:Pt}: ∀ (xs:List Pt) (p q:Pt),(∀ L a b d R,p :: q :: (xs ++ [w])=L ++ a :: b :: d :: R->X a b=1/\X b d=1/\2<=X a d)->X q w + 1<=X p w/\xs.length + 1<=X q w
 | [],p,q,h=>by
  obtain ⟨h1,h2,h3⟩:=h [] p q w [] rfl
  rw[h2]
  simp
  omega
 |r :: xs,p,q,h=>by
  have ih:=Ztd xs q r fun L a b d R e=>h (p :: L) a b d R (by rw[List.cons_append,e];simp)
  obtain ⟨h1,h2,h3⟩:=h [] p q r (xs ++ [w]) rfl
  have t:=Zep h1 h2
  have e:X p w=X p r * X q w - X r w:=by
   have:X p w=(X p r * q.1 - r.1) * w.2 - (X p r * q.2 - r.2) * w.1:=by
    rw[<- t.1,<- t.2]
    unfold X
    grind
   rw[this]
   generalize X p r=m
   unfold X
   grind
  have:2 * X q w<=X p r * X q w:=Int.mul_le_mul_of_nonneg_right h3 (by omega)
  simp only[List.length_cons]
  omega
theorem Zjw {α:Type} {A B:List α} {a b c w:α} {R:List α} (h:A ++ [w]=B ++ a :: b :: c :: R): ∃ R',c :: R=R' ++ [w]/\A=B ++ a :: b :: R':=by
 refine ⟨(c :: R).dropLast,?_,?_⟩
 ·have g:(c :: R).getLast (by simp)=w:=by
   have:=congrArg List.getLast? h
   rw[List.getLast?_append,List.getLast?_append] at this
   simp[List.getLast?_cons] at this
   simp[List.getLast_eq_getLastD,this]
  rw[<- g,List.dropLast_concat_getLast]
 ·have:=congrArg List.dropLast h
  rw[List.dropLast_concat] at this
  rw[this,List.dropLast_append_of_ne_nil (by simp)]
  rfl
theorem Zjx {u v w:Pt} {xs:List Pt} (hl:2<=xs.length) (hF:Fan (u :: (xs ++ [w,v]))) (ch: ∀ L a b R,u :: (xs ++ [w,v,u])=L ++ a :: b :: R->X a b=1) (hk:0<=X u w) (nt: ∀ L a b d R,u :: (xs ++ [w])=L ++ a :: b :: d :: R->X a d≠1):False:=by
 have ins:=fun x (hx:x∈xs)=>ZoZ hF ch hk hx
 obtain ⟨x,y,r,rfl⟩: ∃ x y r,xs=x :: y :: r:=by
  match xs,hl with
  |x :: y :: r,_=>exact ⟨x,y,r,rfl⟩
 have key: ∀ L a b d R,u :: (x :: y :: r ++ [w])=L ++ a :: b :: d :: R->X a b=1/\X b d=1/\2<=X a d:=by
  intro L a b d R e
  have h1:X a b=1:=ch L a b (d :: R ++ [v,u]) (by
   have:u :: (x :: y :: r ++ [w,v,u])=u :: (x :: y :: r ++ [w]) ++ [v,u]:=by simp
   rw[this,e];simp)
  have h2:X b d=1:=ch (L ++ [a]) b d (R ++ [v,u]) (by
   have:u :: (x :: y :: r ++ [w,v,u])=u :: (x :: y :: r ++ [w]) ++ [v,u]:=by simp
   rw[this,e];simp)
  have n1:=nt L a b d R e
  refine ⟨h1,h2,?_⟩
  have t:=Zep h1 h2
  have yy:X u a + X u d=X a d * X u b:=by
   have:X u a + X u d=u.1 * (a.2 + d.2) - u.2 * (a.1 + d.1):=by unfold X;grind
   rw[this,t.1,t.2]
   generalize X a d=m
   unfold X
   grind
  have hb:b∈x :: y :: r/\(X u a + X u d > 0):=by
   have wk:d=w\/d∈x :: y :: r:=by
    have:d∈x :: y :: r ++ [w]:=by
     cases L with
     |nil=>
      simp only[List.nil_append,List.cons.injEq] at e
      rw[e.2];simp
     |cons l L=>
      simp only[List.cons_append,List.cons.injEq] at e
      have e2:x :: y :: r ++ [w]=L ++ a :: b :: d :: R:=e.2
      rw[e2];simp
    rcases List.mem_append.mp this with h | h
    ·exact .inr h
    ·exact .inl (by simpa using h)
   have yd:0<=X u d:=by
    rcases wk with rfl | h
    ·exact hk
    ·have:=(ins d h).1;omega
   cases L with
   |nil=>
    simp only[List.nil_append,List.cons.injEq,List.cons_append] at e
    obtain ⟨rfl,rfl,e⟩:=e
    have dy:d=y:=e.1.symm
    subst dy
    have:=(ins d (by simp)).1
    exact ⟨by simp,by rw[XX];omega⟩
   |cons l L=>
    simp only[List.cons_append,List.cons.injEq] at e
    have e':x :: y :: r ++ [w]=L ++ a :: b :: d :: R:=e.2
    have am:a∈x :: y :: r/\b∈x :: y :: r:=by
     obtain ⟨R',-,e4⟩:=Zjw e'
     rw[e4]
     simp
    have:=(ins a am.1).1
    exact ⟨am.2,by omega⟩
  have yb:=(ins b hb.1).1
  have hp:=hb.2
  rw[yy] at hp
  have:1<=X a d:=by
   apply Classical.byContradiction
   intro c
   have:X a d * X u b<=0:=Int.mul_nonpos_of_nonpos_of_nonneg (by omega) (by omega)
   omega
  omega
 have d:=Ztd (y :: r) u x key
 have wv:X w v=1:=ch (u :: (x :: y :: r)) w v [u] (by simp)
 have vu:X v u=1:=ch (u :: (x :: y :: r) ++ [w]) v u [] (by simp)
 have ux:X u x=1:=ch [] u x (y :: r ++ [w,v,u]) (by simp)
 have t:=Zep wv vu
 have k1:X w u= -X u w:=by rw[Zcx];omega
 rw[k1] at t
 have xw:X x w=X u w * X v x + X u x:=by
  have e:w.1= -X u w * v.1 - u.1/\w.2= -X u w * v.2 - u.2:=by omega
  have:X x w=x.1 * w.2 - x.2 * w.1:=rfl
  rw[this,e.1,e.2]
  generalize X u w=m
  unfold X
  grind
 rw[ux] at xw
 simp only[List.length_cons] at d
 generalize X v x=c at *
 generalize X u w=k at *
 by_cases hc:1<=c
 ·have:k * 1<=k * c:=Int.mul_le_mul_of_nonneg_left hc hk
  omega
 ·have:k * c<=0:=Int.mul_nonpos_of_nonneg_of_nonpos hk (by omega)
  omega
theorem Zo0 {rs:List Pt} (h:Smo rs): ∀ L a b R,rs ++ rs.take 1=L ++ a :: b :: R->X a b=1:=by
 intro L a b R e
 have hl:=h.len
 have ll:L.length + 2 + R.length=rs.length + 1:=by
  have:=congrArg List.length e
  simp at this
  omega
 have ga: ∀ i:Nat,i<=rs.length->(rs ++ rs.take 1)[i]?=some (cy rs i):=by
  intro i hi
  by_cases c:i < rs.length
  ·rw[List.getElem?_append_left c,Za5 (by omega),ZaK (by omega),List.getElem?_eq_getElem c]
   simp
  ·have:i=rs.length:=by omega
   subst this
   rw[List.getElem?_append_right (Nat.le_refl _),Nat.sub_self,<- Zcr,Int.sub_self,Za5 (by omega),ZaK (by omega)]
   rw[List.getElem?_take_of_lt (by decide),List.getElem?_eq_getElem (by omega)]
   simp
 have g1:=ga L.length (by omega)
 have g2:=ga (L.length + 1) (by omega)
 rw[e,List.getElem?_append_right (Nat.le_refl _),Nat.sub_self] at g1
 rw[e,List.getElem?_append_right (by omega),show L.length + 1 - L.length=1 by omega] at g2
 simp at g1 g2
 rw[g1,g2]
 exact h.one L.length
theorem Zo1 {L R:List Pt} {a b d:Pt}:cy (L ++ a :: b :: d :: R) (L.length + 2)=d:=by
 have:=ZdI (L:=L ++ [a,b]) (a:=d) (R:=R)
 simp at this
 exact this
theorem Zki (f:Pt->Int): ∀ (rs:List Pt),rs≠[]-> ∃ p∈rs,∀ q∈rs,f q<=f p
 | [],h=>absurd rfl h
 | [p],_=>⟨p,by simp,fun q hq=>by simp at hq;rw[hq];omega⟩
 |p :: q :: r,_=>by
  obtain ⟨m,hm,h⟩:=Zki f (q :: r) (by simp)
  by_cases c:f m<=f p
  ·refine ⟨p,by simp,fun x hx=> ?_⟩
   rcases List.mem_cons.mp hx with rfl | hx
   ·omega
   ·have:=h x hx;omega
  ·refine ⟨m,by simp[hm],fun x hx=> ?_⟩
   rcases List.mem_cons.mp hx with rfl | hx
   ·omega
   ·exact h x hx
theorem Zh4 {rs:List Pt} (h:Smo rs) (h5:5<=rs.length): ∃ i:Nat,i < rs.length/\T rs i= -1:=by
 apply Classical.byContradiction
 intro hno
 have nt: ∀ i:Int,T rs i≠ -1:=by
  intro i z
  obtain ⟨a,b⟩:=Za1 (i:=i) (m:=rs.length) (by omega)
  apply hno
  refine ⟨(i % rs.length).toNat,a,?_⟩
  rw[show (((i % rs.length).toNat:Nat):Int)=i % rs.length by omega]
  unfold T at z ⊢
  have e1:cy rs (i % rs.length - 1)=cy rs (i - 1):=by unfold cy;rw[Int.emod_sub_emod]
  have e2:cy rs (i % rs.length + 1)=cy rs (i + 1):=by unfold cy;rw[Int.emod_add_emod]
  rw[e1,e2]
  exact z
 obtain ⟨p,hp,hm⟩:=Zki nm rs h.ne
 obtain ⟨A,B,e⟩:=List.append_of_mem hp
 have hl:=congrArg List.length e
 simp at hl
 have rot:rs.drop (A.length + 1) ++ rs.take (A.length + 1)=B ++ A ++ [p]:=by
  rw[e,List.drop_append,List.take_append,List.drop_eq_nil_of_le (by omega),List.take_of_length_le (by omega)]
  simp
 have hr:=h.rot (k:=A.length + 1) (by omega)
 have nr: ∀ i:Int,T (rs.drop (A.length + 1) ++ rs.take (A.length + 1)) i≠ -1:=by
  intro i z
  apply nt (i + (A.length + 1:Nat))
  unfold T at z ⊢
  rw[Zct (by omega),Zct (by omega)] at z
  rw[show i + ((A.length + 1:Nat):Int) - 1=i - 1 + ((A.length + 1:Nat):Int) by omega,show i + ((A.length + 1:Nat):Int) + 1=i + 1 + ((A.length + 1:Nat):Int) by omega]
  exact z
 rw[rot] at hr nr
 obtain ⟨u,xs,w,hC⟩: ∃ u xs w,B ++ A=u :: (xs ++ [w]):=by
  have hn:4<=(B ++ A).length:=by simp;omega
  match hBA:B ++ A,hn with
  |u :: r,hn=>
   have:r≠[]:=by intro z;rw[z] at hn;simp at hn
   exact ⟨u,r.dropLast,r.getLast this,by rw[List.dropLast_concat_getLast]⟩
 rw[hC] at hr nr
 have eL:u :: (xs ++ [w]) ++ [p]=u :: (xs ++ [w,p]):=by simp
 rw[eL] at hr nr
 have lx:2<=xs.length:=by
  have:=congrArg List.length hC
  simp at this
  omega
 have ch: ∀ L a b R,u :: (xs ++ [w,p,u])=L ++ a :: b :: R->X a b=1:=by
  intro L a b R e
  refine Zo0 hr L a b R ?_
  rw[<- e]
  simp
 have wv:X w p=1:=ch (u :: xs) w p [u] (by simp)
 have vu:X p u=1:=ch (u :: xs ++ [w]) p u [] (by simp)
 have t:=Zep wv vu
 have inm: ∀ x,x∈u :: (xs ++ [w])->x∈rs:=by
  intro x hx
  rw[<- hC] at hx
  rw[e]
  rcases List.mem_append.mp hx with h | h
  ·simp[h]
  ·simp[h]
 have a1:=big wv vu t.1 t.2 (hm w (inm w (by simp))) (hm u (inm u (by simp)))
 have np:X w u≠1:=by
  intro z
  apply nr ((u :: xs).length + 1)
  unfold T
  have c1:cy (u :: (xs ++ [w,p])) ((u :: xs).length + 1 - 1)=w:=by
   rw[show ((u :: xs).length:Int) + 1 - 1=(u :: xs).length by omega]
   exact ZdI (L:=u :: xs) (a:=w) (R:=[p])
  have c2:cy (u :: (xs ++ [w,p])) ((u :: xs).length + 1 + 1)=u:=by
   have:=ZdJ (r:=xs ++ [w,p]) (a:=u)
   rw[show (((xs ++ [w,p]).length:Nat):Int) + 1=((u :: xs).length:Int) + 1 + 1 by simp;omega] at this
   exact this
  rw[c1,c2,z]
  rfl
 have k1:X u w= -X w u:=by rw[Zcx];omega
 refine Zjx lx hr.fan ch (by omega) ?_
 intro L a b d R e z
 apply nr (L.length + 1)
 unfold T
 have e':u :: (xs ++ [w,p])=L ++ a :: b :: d :: (R ++ [p]):=by
  have:u :: (xs ++ [w,p])=u :: (xs ++ [w]) ++ [p]:=by simp
  rw[this,e];simp
 rw[e',show (L.length:Int) + 1 - 1=L.length by omega,show (L.length:Int) + 1 + 1=L.length + 2 by omega,ZdI,Zo1,z]
 rfl
end DL
namespace DL
section
variable {rs:List Pt} {k:Nat}
theorem Zh5 {f:Pt->Pt->Nat} {a b p:Pt} {L R Y:List Pt} (e:R ++ L=b :: (Y ++ [a])) (hf:f a b=f a p + f p b):cyc f (L ++ R)=cyc f (L ++ p :: R):=by
 rw[ZbU L R,e,ZbU L,List.cons_append,e]
 simp only[Zax,List.cons_append,cc]
 have e1:b :: (Y ++ [a] ++ [p])=(b :: Y) ++ a :: [p]:=by simp
 have e2:b :: (Y ++ [a] ++ [b])=(b :: Y) ++ a :: [b]:=by simp
 rw[e1,e2,ZbC (b :: Y) a [p],ZbC (b :: Y) a [b]]
 simp only[cc]
 omega
theorem Smo.del (h:Smo rs) (hk:k < rs.length) (h4:4<=rs.length) (ht:T rs k= -1):Smo (del rs k):=by
 have hL:=Zck hk
 have sm:=(ZhZ h k).mpr ht
 refine ⟨by omega,?_,?_⟩
 ·refine Zcj (P:=fun a b=>X a b=1) (by omega) ?_
  intro j h0 h1
  rw[hL] at h1
  have xk:X (cy rs (k - 1)) (cy rs (k + 1))=1:=by unfold T at ht;omega
  rw[ZaI hk h0 (by omega)]
  by_cases c:j + 1 < rs.length - 1
  ·rw[ZaI hk (by omega) (by omega)]
   by_cases c1:j + 1 < k
   ·rw[if_pos (by omega),if_pos c1];exact h.one j
   ·by_cases c2:j + 1=k
    ·rw[if_pos (by omega),if_neg c1,show j=(k:Int) - 1 by omega,show (k:Int) - 1 + 1 + 1=k + 1 by omega]
     exact xk
    ·rw[if_neg (by omega),if_neg c1];exact h.one (j + 1)
  ·have jE:j + 1=rs.length - 1:=by omega
   rw[Ze5 hk (by omega) jE]
   by_cases c0:k=0
   ·subst c0
    rw[if_neg (by omega),if_pos rfl,show j + 1=((0:Nat):Int) - 1 + rs.length by omega,Z2,show (rs.length:Int) + 1=((0:Nat):Int) + 1 + rs.length by omega,Z2]
    exact xk
   ·rw[if_neg c0]
    by_cases c2:j + 1=k
    ·rw[if_pos (by omega),show j=(k:Int) - 1 by omega,show (rs.length:Int)=k + 1 by omega]
     exact xk
    ·rw[if_neg (by omega),show j + 1=(rs.length:Int) - 1 by omega]
     have:=h.one (rs.length - 1)
     rw[show (rs.length:Int) - 1 + 1=rs.length by omega] at this
     exact this
 ·intro w hw
  obtain ⟨L,p,R,e,hl⟩: ∃ L a R,rs=L ++ a :: R/\L.length=k:=⟨rs.take k,rs[k],rs.drop (k + 1),by rw[List.getElem_cons_drop,List.take_append_drop],by simp;omega⟩
  have ed:DL.del rs k=L ++ R:=by
   unfold DL.del
   rw[e,<- hl,List.take_append,List.drop_append,List.take_of_length_le (by omega),List.drop_eq_nil_of_le (by omega)]
   simp
  have lr:(R ++ L).length=rs.length - 1:=by rw[e];simp;omega
  obtain ⟨b,Y,a,hY⟩: ∃ b Y a,R ++ L=b :: (Y ++ [a]):=by
   match hRL:R ++ L,lr with
   | [],lr=>simp at lr;omega
   |b :: r,lr=>
    have:r≠[]:=by intro z;rw[z] at lr;simp at lr;omega
    exact ⟨b,r.dropLast,r.getLast this,by rw[List.dropLast_concat_getLast]⟩
  have hr:=h.rot (k:=k) (by omega)
  have er:rs.drop k ++ rs.take k=p :: (R ++ L):=by
   rw[e,<- hl,List.take_append,List.drop_append,List.take_of_length_le (by omega),List.drop_eq_nil_of_le (by omega)]
   simp
  have c0:cy rs k=p:=by rw[e,<- hl];exact ZdI
  have cb:cy rs (k + 1)=b:=by
   have:=Zct (rs:=rs) (k:=k) (i:=1) (by omega)
   rw[er,hY] at this
   rw[show (k:Int) + 1=1 + k by omega,<- this]
   exact Zjv (L:=[]) (a:=p) (b:=b)
  have ca:cy rs (k - 1)=a:=by
   have:=Zct (rs:=rs) (k:=k) (i:= -1) (by omega)
   rw[er,hY] at this
   rw[show (k:Int) - 1= -1 + k by omega,<- this,<- Z2]
   have:=ZdI (L:=p :: b :: Y) (a:=a) (R:=[])
   rw[show (-1:Int) + ((p :: b :: (Y ++ [a])).length:Nat)=((p :: b :: Y).length:Nat) by simp;omega]
   simpa using this
  rw[c0,ca,cb] at sm
  rw[ed,Zh5 (p:=p) hY (by rw[sm];exact ZhV),Zh5 (p:=p) hY (by rw[sm];exact ZhW),<- e]
  exact h.fan w hw
end
end DL
end
section
namespace CE
open PySem PySem.Spec L2 DL
noncomputable def Z6:Sv:=(Zaf (e2 dSub (e2 dMul (e2 dIx (Zd 0) (eC (.int 0))) (e2 dIx (Zd 1) (eC (.int 1)))) (e2 dMul (e2 dIx (Zd 0) (eC (.int 1))) (e2 dIx (Zd 1) (eC (.int 0))))))
noncomputable def F_crossed:List D->Sto->Out D:=fnF Z6 2 0
noncomputable def Zan:Sv:=(Zaf (e2 dIx (Zd 0) (e2 dMod (e2 dAdd (Zd 1) (eC (.int 1))) (Zj bLen (Zc (Zd 0) aNil)))))
noncomputable def F_following:List D->Sto->Out D:=fnF Zan 2 0
noncomputable def ZP:Sv:=(sIf (tv (e2 dNe (Zj F_crossed (Zc (Zd 2) (Zc (Zj F_following (Zc (Zd 0) (Zc (Zd 1) aNil))) aNil))) (eC (.int 1)))) (Zaf (Zd 1)) sNil)
noncomputable def Zao:Sv:=(Zu (Zc6 (gTp (gCs (gNm 1) (gCs (gNm 2) gNl))) (iEn (Zc (Zd 0) aNil)) ZP)
 (Zaf (eC .non)))
noncomputable def F_unspanned:List D->Sto->Out D:=fnF Zao 1 2
noncomputable def Zac:Sv:=(Zu (ZD (gNm 1) (Zj F_unspanned (Zc (Zd 0) aNil)))
 (sIf (tv (e2 dIsNot (Zd 1) (eC .non))) (ZbA (PySem.Str.ofString "NotSmooth") (Zc (eFs (Zc7 (eC (.str (PySem.Str.ofString "ray "))) (Zc7 (eFm (Zd 1)) (Zc7 (eC (.str (PySem.Str.ofString " does not cross the next one in 1"))) jNil)))) aNil)) sNil))
noncomputable def F_ask_smooth:List D->Sto->Out D:=fnF Zac 1 1
noncomputable def Zb6:Sv:=(Zu (ZaJ (Zj F_ask_smooth (Zc (Zd 0) aNil)))
 (Zaf (Za0 (iR1 (Zc (Zj bLen (Zc (Zd 0) aNil)) aNil)) 1 [0] (gNm 0) (fun _ M=> .ok true M) (Zj F_crossed (Zc (Zj F_following (Zc (Zd 1) (Zc (Zd 0) aNil))) (Zc (e2 dIx (Zd 1) (e2 dSub (Zd 0) (eC (.int 1)))) aNil))))))
noncomputable def F_numbers:List D->Sto->Out D:=fnF Zb6 1 0
end CE
end
section
namespace CE
open PySem PySem.Spec L2 DL
theorem Zh6:F_crossed=CC.F_crossed:=rfl
theorem Ze6:F_following=CC.F_following:=rfl
theorem Zeq:F_ask_smooth=CC.F_ask_smooth:=rfl
section
variable {Q:D->Sto->Prop} {E:Str->Sto->Prop} {M:Sto} {a b c d i:Int} {n:Nat} {rs:List Pt}
theorem Zer (h:M[n]?=some (.lst (prs rs))) (hs:Smo rs) (hl:rs.length<=1000000) (hb:Nr 18446744073709551615 rs) (q:Q (.ref M.length) (M ++ [.lst (nts (Zo rs))])):wO (F_numbers [.ref n] M) Q E:=by
 have hm:=Zw h
 have hn:=hs.len
 simp![F_numbers,Zb6,Zeq]
 refine CC.Zen h hs hb ?_
 simp![h]
 refine ⟨by omega,?_⟩
 rw[show ((rs.length:Int)).toNat=rs.length by omega]
 refine Zs9 (fun ρ=> ∃ x,ρ=[x,some (.ref n)]) (fun (i:Nat)=> .int (T rs i)) (by omega) ⟨_,rfl⟩ ?_ (by rw[Ze3];exact q)
 rintro i hi ρ L ⟨x,rfl⟩
 have b1:=CC.Nr.big hb (by decide) hs.ne (i + 1)
 have hL:(M ++ L)[n]?=some (.lst (prs rs)):=by rw[Zci hm];exact h
 simp![Ze6,Zh6,CC.Zbm hL,h,ZcU,CC.ZaD]
 refine ⟨⟨_,rfl⟩,?_⟩
 unfold T
 rw[<- Zkh]
 rfl
end
end CE
end
section
namespace CF
open PySem PySem.Spec L2 DL CC
end CF
end
section
namespace CF
open PySem PySem.Spec L2 DL
section
variable {Q:D->Sto->Prop} {E:Str->Sto->Prop} {M:Sto} {a b c d i:Int} {n:Nat} {rs:List Pt}
end
end CF
end
section
namespace DL
open PySem PySem.Spec L2 DL
section
variable {M:Sto}
end
end DL
end
section
namespace CB
open PySem PySem.Spec L2 DL
noncomputable def Z6:Sv:=(Zaf (e2 dSub (e2 dMul (e2 dIx (Zd 0) (eC (.int 0))) (e2 dIx (Zd 1) (eC (.int 1)))) (e2 dMul (e2 dIx (Zd 0) (eC (.int 1))) (e2 dIx (Zd 1) (eC (.int 0))))))
noncomputable def F_crossed:List D->Sto->Out D:=fnF Z6 2 0
noncomputable def Za7:Sv:=(Zu (ZD (gNm 5) (e2 dDiv (Zd 1) (Zd 2)))
 (Zu (ZeI 1 2 (Zc (Zd 2) (Zc (e2 dSub (Zd 1) (e2 dMul (Zd 5) (Zd 2))) aNil)))
 (ZeI 3 4 (Zc (Zd 4) (Zc (Zal (Zc (e2 dSub (e2 dIx (Zd 3) (eC (.int 0))) (e2 dMul (Zd 5) (e2 dIx (Zd 4) (eC (.int 0))))) (Zc (e2 dSub (e2 dIx (Zd 3) (eC (.int 1))) (e2 dMul (Zd 5) (e2 dIx (Zd 4) (eC (.int 1))))) aNil))) aNil)))))
noncomputable def Zb7:Sv:=(Zu (ZD (gTp (gCs (gNm 1) (gCs (gNm 2) gNl))) (Zd 0))
 (Zu (ZD (gTp (gCs (gNm 3) (gCs (gNm 4) gNl))) (Zal (Zc (Zal (Zc (eC (.int 0)) (Zc (eC (.int 1)) aNil))) (Zc (Zal (Zc (Zcm (eC (.int 1))) (Zc (eC (.int 0)) aNil))) aNil))))
 (Zu (sWh (tv (e2 dNe (Zd 2) (eC (.int 0)))) Za7)
 (Zaf (Zal (Zc (e2 dMul (Zd 1) (e2 dIx (Zd 3) (eC (.int 0)))) (Zc (e2 dMul (Zd 1) (e2 dIx (Zd 3) (eC (.int 1)))) aNil)))))))
noncomputable def F_partner:List D->Sto->Out D:=fnF Zb7 1 5
noncomputable def Zay:Sv:=(Zu (ZD (gNm 2) (Zj F_partner (Zc (Zd 0) aNil)))
 (Zu (ZD (gNm 3) (e2 dDiv (Zj F_crossed (Zc (Zd 2) (Zc (Zd 1) aNil))) (Zj F_crossed (Zc (Zd 0) (Zc (Zd 1) aNil)))))
 (Zaf (Zal (Zc (e2 dSub (e2 dIx (Zd 2) (eC (.int 0))) (e2 dMul (Zd 3) (e2 dIx (Zd 0) (eC (.int 0))))) (Zc (e2 dSub (e2 dIx (Zd 2) (eC (.int 1))) (e2 dMul (Zd 3) (e2 dIx (Zd 0) (eC (.int 1))))) aNil))))))
noncomputable def F_first_behind:List D->Sto->Out D:=fnF Zay 2 2
noncomputable def ZaO:Sv:=(Zu (ZD (gNm 3) (Zcm (e2 dDiv (Zcm (Zd 0)) (Zd 1))))
 (Zu (ZaJ (ZcF mApp (Zd 2) (Zc (Zd 3) aNil)))
 (ZeI 0 1 (Zc (Zd 1) (Zc (e2 dSub (e2 dMul (Zd 3) (Zd 1)) (Zd 0)) aNil)))))
noncomputable def ZbJ:Sv:=(Zu (ZD (gNm 2) (Zc5 aNil))
 (Zu (sWh (tv (e2 dNe (Zd 1) (eC (.int 0)))) ZaO)
 (Zaf (Zd 2))))
noncomputable def F_expanded:List D->Sto->Out D:=fnF ZbJ 2 2
noncomputable def Zjy:Sv:=(Zu (sIf (tv (e2 dLe (Zj F_crossed (Zc (Zd 0) (Zc (Zd 1) aNil))) (eC (.int 0)))) (ZbA (PySem.Str.ofString "NoWedge") (Zc (eC (.str (PySem.Str.ofString "the two rays of a wedge, crossed, come to more than 0"))) aNil)) sNil)
 (Zaf (Zj F_expanded (Zc (Zj F_crossed (Zc (Zd 0) (Zc (Zd 1) aNil))) (Zc (Zj F_crossed (Zc (Zj F_first_behind (Zc (Zd 0) (Zc (Zd 1) aNil))) (Zc (Zd 1) aNil))) aNil)))))
noncomputable def F_row:List D->Sto->Out D:=fnF Zjy 2 0
noncomputable def Za8:Sv:=(Zu (ZaJ (ZcF mApp (Zd 3) (Zc (Zd 5) aNil)))
 (ZeI 4 5 (Zc (Zd 5) (Zc (Zal (Zc (e2 dSub (e2 dMul (Zd 6) (e2 dIx (Zd 5) (eC (.int 0)))) (e2 dIx (Zd 4) (eC (.int 0)))) (Zc (e2 dSub (e2 dMul (Zd 6) (e2 dIx (Zd 5) (eC (.int 1)))) (e2 dIx (Zd 4) (eC (.int 1)))) aNil))) aNil))))
noncomputable def Zb8:Sv:=(Zu (ZD (gNm 2) (Zj F_row (Zc (Zd 0) (Zc (Zd 1) aNil))))
 (Zu (ZD (gNm 3) (Zc5 aNil))
 (Zu (ZeI 4 5 (Zc (Zd 0) (Zc (Zj F_first_behind (Zc (Zd 0) (Zc (Zd 1) aNil))) aNil)))
 (Zu (Zgw (gNm 6) (Zd 2) Za8)
 (Zaf (Zd 3))))))
noncomputable def F_between:List D->Sto->Out D:=fnF Zb8 2 5
end CB
end
section
namespace DL
theorem Zh7 {a b:Int} (h:b≠0):(a - a.fdiv b * b).natAbs < b.natAbs:=by
 have e:a - a.fdiv b * b=a.fmod b:=by rw[Int.fmod_def,Int.mul_comm]
 rw[e]
 by_cases c:0 < b
 ·have h1:=Int.fmod_lt_of_pos a c
  have h2:0<=a.fmod b:=by rw[Int.fmod_eq_emod_of_nonneg _ (by omega)];exact Int.emod_nonneg _ h
  omega
 ·have e2:a.fmod b= -((-a).fmod (-b)):=by rw[Int.neg_fmod_neg];omega
  have h1:=Int.fmod_lt_of_pos (-a) (show 0 < -b by omega)
  have h2:0<=(-a).fmod (-b):=by rw[Int.fmod_eq_emod_of_nonneg _ (by omega)];exact Int.emod_nonneg _ (by omega)
  omega
theorem ZlS {a b:Int} (h:b≠0):(a.fdiv b).natAbs<=a.natAbs + 1:=by
 have h1:=Zh7 (a:=a) h
 generalize hr:a - a.fdiv b * b=r at h1
 have h2:(a.fdiv b * b).natAbs<=a.natAbs + r.natAbs:=by omega
 rw[Int.natAbs_mul] at h2
 apply Classical.byContradiction
 intro c
 have h3:(a.natAbs + 2) * b.natAbs<=(a.fdiv b).natAbs * b.natAbs:=Nat.mul_le_mul_right _ (by omega)
 have h4:a.natAbs * 1<=a.natAbs * b.natAbs:=Nat.mul_le_mul_left _ (by omega)
 rw[Nat.add_mul] at h3
 omega
noncomputable def hj (t b:Int):List Int:=if h:0 < b then -((-t) / b) :: hj b (-((-t) / b) * b - t) else []
termination_by b.toNat
decreasing_by
 have h1:=Int.emod_nonneg (-t) (show b≠0 by omega)
 have h2:=Int.emod_lt_of_pos (-t) h
 have h3:=Int.emod_add_mul_ediv (-t) b
 rw[Int.neg_mul,Int.mul_comm]
 omega
theorem Zbn {t b:Int} (h:0 < b):0<= -((-t) / b) * b - t/\ -((-t) / b) * b - t < b:=by
 have h1:=Int.emod_nonneg (-t) (show b≠0 by omega)
 have h2:=Int.emod_lt_of_pos (-t) h
 have h3:=Int.emod_add_mul_ediv (-t) b
 rw[Int.neg_mul,Int.mul_comm]
 omega
theorem Zh8 {t b:Int} (h:0 < b) (ht:b < t):2<= -((-t) / b):=by
 have:=(Zbn (t:=t) h).1
 apply Classical.byContradiction
 intro c
 have: -((-t) / b) * b<=1 * b:=Int.mul_le_mul_of_nonneg_right (by omega) (by omega)
 omega
theorem Zkj: ∀ (n:Nat) (t b:Int),b.toNat=n->(hj t b).length<=n:=by
 intro n
 induction n using Nat.strongRecOn with
 |ind n ih=>
  intro t b hb
  unfold hj
  by_cases h:0 < b
  ·rw[dif_pos h]
   have:=Zbn (t:=t) h
   have:=ih (-((-t) / b) * b - t).toNat (by omega) b _ rfl
   simp only[List.length_cons]
   omega
  ·rw[dif_neg h]
   simp
end DL
namespace CB
open PySem PySem.Spec L2 DL
section
variable {Q:D->Sto->Prop} {E:Str->Sto->Prop} {M:Sto} {a b c d i:Int} {n m:Nat} {u v w:Pt}
noncomputable abbrev Bd (b:Int) (p:Pt):Prop:=(-b<=p.1/\p.1<=b)/\ -b<=p.2/\p.2<=b
theorem Zo2 {j:Int} (h:j≠0/\ -(18446744073709551616) < j/\j < 18446744073709551616):wO (dDiv (.int i) (.int j) M) Q E=Q (.int (i.fdiv j)) M:=by
 have:Zbb j:=by
  refine ⟨h.1,?_⟩
  have:j.natAbs.log2 < 65:=(Nat.log2_lt (by omega)).mpr (by omega)
  omega
 show wO (if Zbb j then _ else _) Q E=_
 rw[if_pos this];rfl
theorem Zh9 (hg:Int.gcd u.1 u.2=1) (hb:Bd 1000000 u) (q: ∀ w:Pt,X u w=1->Q (pr w.1 w.2) M):wO (F_partner [pr u.1 u.2] M) Q E:=by
 simp![F_partner,Zb7]
 refine ZoT (fun k ρ M'=>M'=M/\ ∃ (h l:Int) (f s:Pt) (x:Option D),ρ=[some (pr u.1 u.2),some (.int h),some (.int l),some (pr f.1 f.2),some (pr s.1 s.2),x]/\k=l.natAbs/\Int.gcd h l=1/\(-1000000<=h/\h<=1000000)/\(-1000000<=l/\l<=1000000)/\X u f=h/\X u s=l) ?_ u.2.natAbs _ _ ⟨rfl,u.1,u.2,(0,1),(-1,0),_,rfl,rfl,hg,hb.1,hb.2,by simp[X],by simp[X]⟩
 rintro k ρ M ⟨rfl,h,l,f,s,x,rfl,rfl,g,hh,hl,e1,e2⟩
 simp![Zn]
 refine ZoU (fun hl0=> ?_) (fun hl0=> ?_)
 ·have f1:=Zh7 (a:=h) hl0
  have f2:=ZlS (a:=h) hl0
  simp![Za7,Zo2]
  refine ⟨(h - h.fdiv l * l).natAbs,f1,l,h - h.fdiv l * l,s,(f.1 - h.fdiv l * s.1,f.2 - h.fdiv l * s.2),_,rfl,rfl,?_,hl,by omega,e2,?_⟩
  ·rw[Int.gcd_sub_mul_right_right,Int.gcd_comm]
   exact g
  ·unfold X at *
   simp only
   grind
 ·subst hl0
  rw[Int.gcd_zero_right] at g
  simp![Zn]
  have:=q (h * f.1,h * f.2) (by
   have hh2:h * h=1:=by
    have:h=1\/h= -1:=by omega
    rcases this with z | z<;>rw[z]<;>rfl
   unfold X at *
   simp only
   grind)
  exact this
theorem ZaD (h:Bd 1000000 u\/Bd 1000000 v):wO (F_crossed [pr u.1 u.2,pr v.1 v.2] M) Q E=Q (.int (X u v)) M:=by
 rcases h with h | h
 ·simp![F_crossed,Z6]
  rfl
 ·simp![F_crossed,Z6]
  rfl
structure Wg (u v:Pt):Prop where
 gu:Int.gcd u.1 u.2=1
 gv:Int.gcd v.1 v.2=1
 bu:Bd 1000 u
 bv:Bd 1000 v
 pos:0 < X u v
theorem Wg.le (h:Wg u v):X u v<=2000000:=by
 obtain ⟨_,_,⟨⟨a1,a2⟩,a3,a4⟩,⟨⟨b1,b2⟩,b3,b4⟩,_⟩:=h
 have m: ∀ x y:Int,-1000<=x->x<=1000-> -1000<=y->y<=1000->(x * y).natAbs<=1000 * 1000:=by
  intro x y _ _ _ _
  rw[Int.natAbs_mul]
  exact Nat.mul_le_mul (by omega) (by omega)
 have p1:=m u.1 v.2 a1 a2 b3 b4
 have p2:=m u.2 v.1 a3 a4 b1 b2
 unfold X
 omega
theorem ZbP (h:Wg u v) (q: ∀ w:Pt,X u w=1->0<=X w v->X w v < X u v->Q (pr w.1 w.2) M):wO (F_first_behind [pr u.1 u.2,pr v.1 v.2] M) Q E:=by
 have bu:Bd 1000000 u:=by have:=h.bu;unfold Bd at *;omega
 have bv:Bd 1000000 v:=by have:=h.bv;unfold Bd at *;omega
 have hp:=h.pos
 have hl:=h.le
 simp![F_first_behind,Zay]
 refine Zh9 h.gu bu fun w e=> ?_
 simp![ZaD (u:=w) (v:=v) (.inr bv),ZaD (u:=u) (v:=v) (.inr bv)]
 have m1:=Int.emod_nonneg (X w v) (show X u v≠0 by omega)
 have m2:=Int.emod_lt_of_pos (X w v) hp
 have m3:=Int.emod_add_mul_ediv (X w v) (X u v)
 generalize X w v / X u v=k at *
 have e3:X (w.1 - k * u.1,w.2 - k * u.2) v=X w v % X u v:=by
  have:X (w.1 - k * u.1,w.2 - k * u.2) v=X w v - X u v * k:=by unfold X;simp only;grind
  omega
 exact q (w.1 - k * u.1,w.2 - k * u.2) (by unfold X at *;simp only;grind) (by omega) (by omega)
structure Fb (u v w:Pt):Prop where
 one:X u w=1
 lo:0<=X w v
 hi:X w v < X u v
theorem Fb.uniq {w w':Pt} (h:Fb u v w) (k:Fb u v w'):w=w':=by
 obtain ⟨h1,a1,a2⟩:=h
 obtain ⟨h2,b1,b2⟩:=k
 have e1:w'.1=X w' w * u.1 + w.1/\w'.2=X w' w * u.2 + w.2:=by unfold X at *;constructor<;>grind
 have e2:X w' v=X w' w * X u v + X w v:=by
  have:X w' v=X (X w' w * u.1 + w.1,X w' w * u.2 + w.2) v:=by rw[<- e1.1,<- e1.2]
  rw[this]
  unfold X
  simp only
  grind
 generalize X w' w=k at *
 have k0:k=0:=by
  apply Classical.byContradiction
  intro c
  by_cases p:1<=k
  ·have:1 * X u v<=k * X u v:=Int.mul_le_mul_of_nonneg_right p (by omega)
   omega
  ·have:k * X u v<=(-1) * X u v:=Int.mul_le_mul_of_nonneg_right (by omega) (by omega)
   omega
 rw[k0] at e1
 apply Prod.ext<;>omega
theorem ZrJ (h:Wg u v): ∃ w,Fb u v w:=by
 obtain ⟨d,M',_,w,hw⟩:=ZhO (ZbP (M:=[]) (Q:=fun _ _=> ∃ w,Fb u v w) h fun w a b c=>⟨w,a,b,c⟩)
 exact ⟨w,hw⟩
theorem Zo3 (h:Wg u v) (hw:Fb u v w):wO (F_first_behind [pr u.1 u.2,pr v.1 v.2] M) Q E=Q (pr w.1 w.2) M:=by
 obtain ⟨d,M',e,e1,e2⟩:=ZhO (ZbP (M:=M) (Q:=fun d M'=>d=pr w.1 w.2/\M'=M) h fun w' a b c=>⟨by rw[hw.uniq ⟨a,b,c⟩],rfl⟩)
 rw[e,e1,e2]
 rfl
theorem Zgf {t b:Int} (hb:0<=b) (hl:b<=90000) (q:Q (.ref M.length) (M ++ [.lst (nts (hj t b))])):wO (F_expanded [.int t,.int b] M) Q E:=by
 simp![F_expanded,ZbJ]
 refine ZoT (fun k ρ M'=> ∃ (t' b':Int) (xs:List Int) (x:Option D),ρ=[some (.int t'),some (.int b'),some (.ref M.length),x]/\M'=M ++ [.lst (nts xs)]/\0<=b'/\b'<=90000/\k=b'.toNat/\xs ++ hj t' b'=hj t b/\xs.length + b'.toNat<=90000) ?_ b.toNat _ _ ⟨t,b,[],_,rfl,rfl,hb,hl,rfl,rfl,by simp;omega⟩
 rintro k ρ M' ⟨t',b',xs,x,rfl,rfl,h0,h1,rfl,e,hx⟩
 simp![Zn]
 refine ZoU (fun hl0=> ?_) (fun hl0=> ?_)
 ·have n1:=Zbn (t:=t') (show 0 < b' by omega)
  simp![ZaO]
  refine ⟨by omega,(-(-t' / b') * b' - t').toNat,by omega,_,_,xs ++ [-(-t' / b')],_,rfl,rfl,n1.1,by omega,rfl,?_,by simp;omega⟩
  rw[<- e]
  conv=>rhs;rw[hj,dif_pos (show 0 < b' by omega)]
  simp
 ·subst hl0
  simp![Zn]
  have:hj t' 0=[]:=by rw[hj,dif_neg (by omega)]
  rw[this,List.append_nil] at e
  rw[e]
  exact q
theorem ZrK (h:Wg u v) (hw:Fb u v w) (hl:X u v<=90000) (q:Q (.ref M.length) (M ++ [.lst (nts (hj (X u v) (X w v)))])):wO (F_row [pr u.1 u.2,pr v.1 v.2] M) Q E:=by
 have bv:Bd 1000000 v:=by have:=h.bv;unfold Bd at *;omega
 have hp:=h.pos
 simp![F_row,Zjy,ZaD (u:=u) (v:=v) (.inr bv),ZaD (u:=w) (v:=v) (.inr bv),Zo3 h hw]
 exact Zgf hw.lo (by have:=hw.hi;omega) q
noncomputable def btw:Pt->Pt->List Int->List Pt
 |_,_,[]=>[]
 |a,r,k :: ks=>r :: btw r (k * r.1 - a.1,k * r.2 - a.2) ks
theorem Zia: ∀ (a r:Pt) (ks:List Int),(btw a r ks).length=ks.length
 |_,_,[]=>rfl
 |a,r,k :: ks=>by rw[btw,List.length_cons,Zia,List.length_cons]
theorem Zjz: ∀ (n:Nat) (t b:Int),b.toNat=n->0<=b->b < t-> ∀ k∈hj t b,2<=k/\k<=t:=by
 intro n
 induction n using Nat.strongRecOn with
 |ind n ih=>
  intro t b hb h0 ht k hk
  unfold hj at hk
  by_cases h:0 < b
  ·rw[dif_pos h] at hk
   have nx:=Zbn (t:=t) h
   rcases List.mem_cons.mp hk with z | z
   ·rw[z]
    refine ⟨Zh8 h ht,?_⟩
    apply Classical.byContradiction
    intro c
    have:(t + 1) * b<= -((-t) / b) * b:=Int.mul_le_mul_of_nonneg_right (by omega) (by omega)
    have:t * 1<=t * b:=Int.mul_le_mul_of_nonneg_left (by omega) (by omega)
    rw[Int.add_mul] at *
    omega
   ·have:=ih (-((-t) / b) * b - t).toNat (by omega) b _ rfl nx.1 nx.2 k z
    omega
  ·rw[dif_neg h] at hk
   simp at hk
theorem Zib (h:Wg u v) (hw:Fb u v w) (hl:X u v<=90000) (q:Q (.ref (M.length + 1)) (M ++ [.lst (nts (hj (X u v) (X w v))),.lst (prs (btw u w (hj (X u v) (X w v))))])):wO (F_between [pr u.1 u.2,pr v.1 v.2] M) Q E:=by
 simp![F_between,Zb8]
 refine ZrK h hw hl ?_
 have sm:=Zjz _ (X u v) (X w v) rfl hw.lo hw.hi
 have ln:=Zkj _ (X u v) (X w v) rfl
 have hi:=hw.hi
 generalize hj (X u v) (X w v)=ks at *
 simp![Zo3 h hw]
 refine ZdD (fun i ρ M'=> ∃ (a r:Pt) (pre suf:List Int) (dn:List Pt) (x:Option D),ρ=[some (pr u.1 u.2),some (pr v.1 v.2),some (.ref M.length),some (.ref (M.length + 1)),some (pr a.1 a.2),some (pr r.1 r.2),x]/\M'=M ++ [.lst (nts ks),.lst (prs dn)]/\ks=pre ++ suf/\pre.length=i/\btw u w ks=dn ++ btw a r suf/\dn.length=i) (n:=M.length) (xs:=nts ks) (by rw[ZdF];rfl) ⟨u,w,[],ks,[],_,rfl,rfl,rfl,rfl,rfl,rfl⟩ (fun i ρ M' ⟨_,_,_,_,_,_,_,e,_⟩=>by rw[e,ZdF];rfl) ?_ ?_
 ·rintro i ρ M' hi' ⟨a,r,pre,suf,dn,x,rfl,rfl,e1,e2,e3,e4⟩
  rw[Zam] at hi'
  obtain ⟨k,suf,rfl⟩: ∃ k s,suf=k :: s:=by
   cases suf with
   |nil=>rw[e1] at hi';simp at hi';omega
   |cons k s=>exact ⟨k,s,rfl⟩
  have ek:(nts ks)[i]'(by rw[Zam];exact hi')= .int k:=by
   subst e1 e2
   simp[nts]
  rw[ek]
  have hk:=sm k (by rw[e1];simp)
  simp![Za8]
  refine ⟨by omega,r,(k * r.1 - a.1,k * r.2 - a.2),pre ++ [k],suf,dn ++ [(r.1,r.2)],_,rfl,rfl,by rw[e1];simp,by simp;omega,?_,by simp;omega⟩
  rw[e3,btw]
  simp
 ·rintro ρ M' ⟨a,r,pre,suf,dn,x,rfl,rfl,e1,e2,e3,e4⟩
  have:suf=[]:=by
   have:=congrArg List.length e1
   rw[Zam] at e2
   simp at this
   cases suf with
   |nil=>rfl
   |cons _ _=>simp at this;omega
  subst this
  rw[btw,List.append_nil] at e3
  simp![Zn]
  rw[<- e3]
  exact q
end
end CB
end
section
namespace CB
open PySem PySem.Spec L2 DL
section
variable {Q:D->Sto->Prop} {E:Str->Sto->Prop} {M:Sto} {a b c d i:Int} {n m:Nat} {u v w:Pt}
theorem Zux (hu:Bd 200 u) (hv:Bd 200 v): -80000<=X u v/\X u v<=80000:=by
 obtain ⟨⟨a1,a2⟩,a3,a4⟩:=hu
 obtain ⟨⟨b1,b2⟩,b3,b4⟩:=hv
 have m: ∀ x y:Int,-200<=x->x<=200-> -200<=y->y<=200->(x * y).natAbs<=200 * 200:=by
  intro x y _ _ _ _
  rw[Int.natAbs_mul]
  exact Nat.mul_le_mul (by omega) (by omega)
 have p1:=m u.1 v.2 a1 a2 b3 b4
 have p2:=m u.2 v.1 a3 a4 b1 b2
 unfold X
 omega
noncomputable def Ch:List Pt->Prop
 |a :: b :: r=>X a b=1/\Ch (b :: r)
 |_=>True
theorem ZrL: ∀ (n:Nat) (t b:Int) (a r v:Pt),b.toNat=n->0<=b->b < t->X a r=1->X a v=t->X r v=b->Int.gcd v.1 v.2=1->Ch (a :: (btw a r (hj t b) ++ [v])):=by
 intro n
 induction n using Nat.strongRecOn with
 |ind n ih=>
  intro t b a r v hb h0 ht h1 h2 h3 gv
  unfold hj
  by_cases h:0 < b
  ·rw[dif_pos h]
   have nx:=Zbn (t:=t) h
   generalize hk: -((-t) / b)=k at *
   have q:=ih (k * b - t).toNat (by omega) b (k * b - t) r (k * r.1 - a.1,k * r.2 - a.2) v rfl nx.1 nx.2 (by unfold X at *;simp only;grind) h3 (by unfold X at *;simp only;grind) gv
   rw[btw]
   exact ⟨h1,q⟩
  ·rw[dif_neg h,btw]
   have b0:b=0:=by omega
   have e1:v.1=t * r.1/\v.2=t * r.2:=by unfold X at *;constructor<;>grind
   rw[e1.1,e1.2,Int.gcd_mul_left] at gv
   have t1:t.natAbs=1:=Nat.eq_one_of_mul_eq_one_right gv
   refine ⟨by rw[h2];omega,trivial⟩
theorem ZlT (h:Wg u v) (hw:Fb u v w):Ch (u :: (btw u w (hj (X u v) (X w v)) ++ [v])):=ZrL _ _ _ u w v rfl hw.lo hw.hi hw.one rfl rfl h.gv
noncomputable def Tr (a b d:Pt):Prop:= ∃ k:Int,2<=k/\a.1 + d.1=k * b.1/\a.2 + d.2=k * b.2
noncomputable def Cv:List Pt->Prop
 |a :: b :: d :: r=>Tr a b d/\Cv (b :: d :: r)
 |_=>True
theorem Zo4: ∀ (n:Nat) (t b:Int) (a r v:Pt),b.toNat=n->0<=b->b < t->X a r=1->X a v=t->X r v=b->Int.gcd v.1 v.2=1->Cv (a :: (btw a r (hj t b) ++ [v]))/\ ∃ rest,btw a r (hj t b) ++ [v]=r :: rest:=by
 intro n
 induction n using Nat.strongRecOn with
 |ind n ih=>
  intro t b a r v hb h0 ht h1 h2 h3 gv
  unfold hj
  by_cases h:0 < b
  ·rw[dif_pos h]
   have nx:=Zbn (t:=t) h
   have k2:=Zh8 h ht
   generalize hk: -((-t) / b)=k at *
   obtain ⟨q,rest,e⟩:=ih (k * b - t).toNat (by omega) b (k * b - t) r (k * r.1 - a.1,k * r.2 - a.2) v rfl nx.1 nx.2 (by unfold X at *;simp only;grind) h3 (by unfold X at *;simp only;grind) gv
   rw[btw]
   refine ⟨?_,_,rfl⟩
   show Cv (a :: r :: (btw r (k * r.1 - a.1,k * r.2 - a.2) (hj b (k * b - t)) ++ [v]))
   rw[e] at q ⊢
   exact ⟨⟨k,k2,by simp only;omega,by simp only;omega⟩,q⟩
  ·rw[dif_neg h,btw]
   have b0:b=0:=by omega
   have e1:v.1=t * r.1/\v.2=t * r.2:=by unfold X at *;constructor<;>grind
   have gv':=gv
   rw[e1.1,e1.2,Int.gcd_mul_left] at gv'
   have t1:t.natAbs=1:=Nat.eq_one_of_mul_eq_one_right gv'
   have tt:t=1:=by omega
   rw[tt] at e1
   have:v=r:=by apply Prod.ext<;>omega
   rw[this]
   exact ⟨trivial,[],rfl⟩
noncomputable def dt (f p:Pt):Int:=f.1 * p.1 + f.2 * p.2
end
section
variable {u v w:Pt}
theorem ZrM: ∀ (n:Nat) (t b:Int) (a r v:Pt),b.toNat=n->0<=b->b < t->X r v=b->X a v=t-> ∀ x∈btw a r (hj t b),0<=X x v/\X x v<=t:=by
 intro n
 induction n using Nat.strongRecOn with
 |ind n ih=>
  intro t b a r v hb h0 ht h3 h2 x hx
  unfold hj at hx
  by_cases h:0 < b
  ·rw[dif_pos h] at hx
   have nx:=Zbn (t:=t) h
   generalize -((-t) / b)=k at *
   rw[btw] at hx
   rcases List.mem_cons.mp hx with z | z
   ·rw[z,h3];omega
   ·have:=ih (k * b - t).toNat (by omega) b (k * b - t) r (k * r.1 - a.1,k * r.2 - a.2) v rfl nx.1 nx.2 (by unfold X at *;simp only;grind) h3 x z
    omega
  ·rw[dif_neg h,btw] at hx
   simp at hx
theorem ZrN {u:Pt}: ∀ (n:Nat) (t b:Int) (a r v:Pt),b.toNat=n->0<=b->b < t->X a r=1->X a v=t->X r v=b->Int.gcd v.1 v.2=1->0<=X u a->X u a<=X u r->X u r<=X u v/\ ∀ x∈btw a r (hj t b),0<=X u x/\X u x<=X u v:=by
 intro n
 induction n using Nat.strongRecOn with
 |ind n ih=>
  intro t b a r v hb h0 ht h1 h2 h3 gv p1 p2
  unfold hj
  by_cases h:0 < b
  ·rw[dif_pos h]
   have nx:=Zbn (t:=t) h
   have k2:=Zh8 h ht
   generalize -((-t) / b)=k at *
   have e:X u (k * r.1 - a.1,k * r.2 - a.2)=k * X u r - X u a:=by unfold X;simp only;grind
   have m:2 * X u r<=k * X u r:=Int.mul_le_mul_of_nonneg_right k2 (by omega)
   obtain ⟨q1,q2⟩:=ih (k * b - t).toNat (by omega) b (k * b - t) r (k * r.1 - a.1,k * r.2 - a.2) v rfl nx.1 nx.2 (by unfold X at *;simp only;grind) h3 (by unfold X at *;simp only;grind) gv (by omega) (by omega)
   refine ⟨by omega,fun x hx=> ?_⟩
   rw[btw] at hx
   rcases List.mem_cons.mp hx with z | z
   ·rw[z];omega
   ·exact q2 x z
  ·rw[dif_neg h,btw]
   have b0:b=0:=by omega
   have e1:v.1=t * r.1/\v.2=t * r.2:=by unfold X at *;constructor<;>grind
   have gv':=gv
   rw[e1.1,e1.2,Int.gcd_mul_left] at gv'
   have t1:t.natAbs=1:=Nat.eq_one_of_mul_eq_one_right gv'
   have tt:t=1:=by omega
   rw[tt] at e1
   have:v=r:=by apply Prod.ext<;>omega
   rw[this]
   exact ⟨Int.le_refl _,fun x hx=>by simp at hx⟩
end
end CB
end
section
namespace CA
open PySem PySem.Spec L2 DL
end CA
end
section
namespace CA
open PySem PySem.Spec L2 DL
section
variable {Q:D->Sto->Prop} {E:Str->Sto->Prop} {M:Sto} {a b c d i:Int} {n m:Nat} {rs:List Pt}
theorem ZfI (h:rs≠[]) (i:Int):cy rs.reverse i=cy rs (-1 - i):=by
 have hl:rs.length≠0:=by simpa using h
 have e1:cy rs.reverse i=cy rs.reverse (i % rs.length):=by
  conv=>rhs;rw[<- List.length_reverse (as:=rs),Zdk]
 have e2:cy rs (-1 - i)=cy rs (-1 - i % rs.length):=by
  unfold cy
  congr 2
  rw[Int.sub_emod,Int.sub_emod (-1) (i % rs.length),Int.emod_emod_of_dvd _ (Int.dvd_refl _)]
 rw[e1,e2]
 obtain ⟨a,b⟩:=Za1 (i:=i) hl
 generalize i % (rs.length:Int)=m at *
 rw[Za5 (by rw[List.length_reverse];omega),<- Z2 (rs:=rs),Za5 (by omega)]
 rw[List.getD_eq_getElem?_getD,List.getD_eq_getElem?_getD,List.getElem?_reverse (by omega)]
 congr 2
 omega
theorem ZlU (hl:3<=rs.length) (h: ∀ i:Int,X (cy rs i) (cy rs (i + 1))= -1) (hf:Fan rs.reverse):Smo rs.reverse:=by
 have ne:rs≠[]:=by intro z;rw[z] at hl;simp at hl
 refine ⟨by rw[List.length_reverse];exact hl,fun i=> ?_,hf⟩
 rw[ZfI ne,ZfI ne,Zkh]
 have:=h (-1 - (i + 1))
 rw[show -1 - (i + 1) + 1= -1 - i by omega] at this
 omega
end
end CA
end
section
namespace CY
open PySem PySem.Spec L2 DL CA
end CY
end
section
namespace CY
open PySem PySem.Spec L2 DL
section
variable {Q:D->Sto->Prop} {E:Str->Sto->Prop} {M:Sto} {n m:Nat} {rs:List Pt}
end
end CY
end
section
namespace CR
open PySem PySem.Spec L2 DL
end CR
end
section
namespace CR
open PySem PySem.Spec L2 DL
noncomputable abbrev rt (q:Rat):D:=pr q.num (q.den:Int)
section
variable {Q:D->Sto->Prop} {E:Str->Sto->Prop} {M:Sto} {k l:Nat} {p q:Rat}
end
end CR
end
section
namespace CH
open PySem PySem.Spec L2 DL CA CR
end CH
end
section
namespace CH
open PySem PySem.Spec L2 DL
open CR (rt)
section
variable {Q:D->Sto->Prop} {E:Str->Sto->Prop} {M:Sto} {n:Nat}
end
end CH
end
section
namespace CS
open PySem PySem.Spec L2 DL CC CR
end CS
end
section
namespace CS
open PySem PySem.Spec L2 DL
open CR (rt)
section
variable {Q:D->Sto->Prop} {E:Str->Sto->Prop} {M:Sto} {k l:Nat} {p q:Rat}
end
end CS
end
section
namespace CN
open PySem PySem.Spec L2 DL
open CE (F_numbers)
open CC (F_following)
end CN
end
section
namespace CN
open PySem PySem.Spec L2 DL
open CR (rt)
noncomputable def cq (hs:List Rat) (i:Int):Rat:=hs.getD (i % hs.length).toNat 0
section
variable {Q:D->Sto->Prop} {E:Str->Sto->Prop} {M:Sto} {k l:Nat} {p q:Rat} {n m:Nat} {rs:List Pt} {hs:List Rat} {i:Int}
end
end CN
end
section
namespace CN
open PySem PySem.Spec L2 DL
open CR (rt)
section
variable {Q:D->Sto->Prop} {E:Str->Sto->Prop} {M:Sto} {k l:Nat} {p q:Rat} {n m:Nat} {rs:List Pt} {hs:List Rat} {i:Int}
theorem ZlV {ts:List Int} {i:Nat} (h:i < (nts ts).length):(nts ts)[i]= .int (cn ts i):=by
 rw[Zam] at h
 rw[ZfF h]
 simp[nts]
end
end CN
end
section
namespace CN
open PySem PySem.Spec L2 DL
open CR (rt)
end CN
end
section
namespace CU
open PySem PySem.Spec L2 DL
open CC (F_ask_smooth)
end CU
end
section
namespace CU
open PySem PySem.Spec L2 DL
open CR (rt)
open CN CS
noncomputable def thr (rs:List Pt) (hs:List Rat):Rat × Rat:=(cq hs 0 * (cy rs 1).2 - cq hs 1 * (cy rs 0).2,cq hs 1 * (cy rs 0).1 - cq hs 0 * (cy rs 1).1)
noncomputable abbrev rp (m:Rat × Rat):D:= .tup [rt m.1,rt m.2]
section
variable {Q:D->Sto->Prop} {E:Str->Sto->Prop} {M:Sto} {k l:Nat} {p q:Rat} {n m o:Nat} {rs:List Pt} {hs xs ys:List Rat} {i:Int}
theorem ZlH (h1:M[n]?=some (.lst (prs rs))) {ss:List Pt} (h2:M[m]?=some (.lst (prs ss))):eqF (k + 3) M (.ref n) (.ref m)=some (decide (rs=ss)):=by
 rw[ZlG h1 h2,Zka]
 by_cases e:rs=ss
 ·subst e;simp
 ·rw[decide_eq_false e]
  split<;>rfl
theorem Zuy {ds:List D} (h:M[n]?=some (.lst ds)):wO (bTup [.ref n] M) Q E=Q (.tup ds) M:=by
 unfold bTup ZpL
 simp only[ZdT,h,wO]
end
end CU
end
section
namespace CV
open PySem PySem.Spec L2 DL
open CR (rt)
open CN CU CS
noncomputable def Kp (M M':Sto):Prop:=M.length<=M'.length/\ ∀ j < M.length,M'[j]?=M[j]?
section
variable {M M' M1 M2:Sto} {o:SO} {j:Nat}
theorem Kp.get (k:Kp M M') (h:M[j]?=some o):M'[j]?=some o:=(k.2 _ (Zw h)).trans h
theorem Kp.refl:Kp M M:=⟨Nat.le_refl _,fun _ _=>rfl⟩
theorem Kp.trans (a:Kp M M1) (b:Kp M1 M2):Kp M M2:=⟨Nat.le_trans a.1 b.1,fun j h=>(b.2 j (Nat.lt_of_lt_of_le h a.1)).trans (a.2 j h)⟩
theorem Kp.app {L:Sto}:Kp M (M ++ L):=⟨by simp,fun j h=>Zci h⟩
theorem Kp.set (a:Kp M M1) (h:M.length<=j):Kp M (M1.set j o):=⟨by rw[List.length_set];exact a.1,fun i hi=>by rw[List.getElem?_set_ne (by omega)];exact a.2 i hi⟩
end
section
variable {Q:D->Sto->Prop} {E:Str->Sto->Prop} {M:Sto} {k l:Nat} {p q:Rat} {n m o:Nat} {rs:List Pt} {hs xs ys zs u v:List Rat} {i:Int} {f:Ev} {ρ:Ro} {mu mv N:Nat}
end
end CV
end
section
namespace CW
open PySem PySem.Spec L2 DL
open CC (F_law_tags)
open CE (F_numbers)
end CW
end
section
namespace CW
open PySem PySem.Spec L2 DL
open CV
noncomputable def fx (rs:List Pt):Nat:=((Zo rs).findIdx? (fun t=>decide (t= -1))).getD 0
noncomputable def wk:Nat->List Pt->List Int × List Pt
 |0,rs=>([],rs)
 |n + 1,rs=>if 5<=rs.length then ((fx rs:Int) :: (wk n (del rs (fx rs))).1,(wk n (del rs (fx rs))).2) else ([],rs)
section
variable {Q:D->Sto->Prop} {E:Str->Sto->Prop} {M:Sto} {n m:Nat} {rs:List Pt}
end
end CW
end
section
namespace CB
open PySem PySem.Spec L2 DL
theorem mid {a b p w:Pt} (h1:0 < X a p) (h2:0 < X p b) (h:0 < X a b):in1 w a b=in1 w a p + in1 w p b/\in2 w a b=in2 w a p + in2 w p b:=by
 have e:X a b * X p w=X p b * X a w - X a p * X w b:=by unfold X;grind
 have s:=Zcx (p:=w) (q:=p)
 have k1:0<=X a w->0<=X p b * X a w:=fun z=>Int.mul_nonneg (by omega) z
 have k2:0 < X a w->0 < X p b * X a w:=fun z=>Int.mul_pos h2 z
 have k3:X a w<=0->X p b * X a w<=0:=fun z=>Int.mul_nonpos_of_nonneg_of_nonpos (by omega) z
 have k3':X a w < 0->X p b * X a w < 0:=fun z=>Int.mul_neg_of_pos_of_neg h2 z
 have l1:0<=X w b->0<=X a p * X w b:=fun z=>Int.mul_nonneg (by omega) z
 have l2:0 < X w b->0 < X a p * X w b:=fun z=>Int.mul_pos h1 z
 have l3:X w b<=0->X a p * X w b<=0:=fun z=>Int.mul_nonpos_of_nonneg_of_nonpos (by omega) z
 have l3':X w b < 0->X a p * X w b < 0:=fun z=>Int.mul_neg_of_pos_of_neg h1 z
 have m1:0<=X p w->0<=X a b * X p w:=fun z=>Int.mul_nonneg (by omega) z
 have m2:0 < X p w->0 < X a b * X p w:=fun z=>Int.mul_pos h z
 have m3:X p w<=0->X a b * X p w<=0:=fun z=>Int.mul_nonpos_of_nonneg_of_nonpos (by omega) z
 have m3':X p w < 0->X a b * X p w < 0:=fun z=>Int.mul_neg_of_pos_of_neg h z
 unfold in1 in2
 rw[s]
 generalize X a b * X p w=z at *
 generalize X p b * X a w=y at *
 generalize X a p * X w b=x at *
 generalize X a w=aw at *
 generalize X w b=wb at *
 generalize X p w=pw at *
 constructor
 all_goals
  repeat' split
  all_goals omega
noncomputable def Add (f:Pt->Pt->Nat):Prop:= ∀ a b p,0 < X a p->0 < X p b->0 < X a b->f a b=f a p + f p b
theorem Zuz {w:Pt}:Add (in1 w):=fun _ _ _ h1 h2 h=>(mid h1 h2 h).1
theorem ZuA {w:Pt}:Add (in2 w):=fun _ _ _ h1 h2 h=>(mid h1 h2 h).2
theorem Zo5 {f:Pt->Pt->Nat} (hf:Add f): ∀ (n:Nat) (t b:Int) (a r v:Pt),b.toNat=n->0<=b->b < t->X a r=1->X a v=t->X r v=b->cc f (a :: (btw a r (hj t b) ++ [v]))=f a v:=by
 intro n
 induction n using Nat.strongRecOn with
 |ind n ih=>
  intro t b a r v hb h0 ht h1 h2 h3
  unfold hj
  by_cases h:0 < b
  ·rw[dif_pos h]
   have nx:=Zbn (t:=t) h
   generalize hk: -((-t) / b)=k at *
   have q:=ih (k * b - t).toNat (by omega) b (k * b - t) r (k * r.1 - a.1,k * r.2 - a.2) v rfl nx.1 nx.2 (by unfold X at *;simp only;grind) h3 (by unfold X at *;simp only;grind)
   rw[btw,List.cons_append,cc,q]
   exact (hf a v r (by omega) (by omega) (by omega)).symm
  ·rw[dif_neg h,btw]
   simp[cc]
noncomputable def nx1 (a b:Pt):Nat:=if X a b=1 then 0 else 1
theorem Zo6: ∀ (l:List Pt),Ch l->cc nx1 l=0
 | [],_=>rfl
 | [_],_=>rfl
 |a :: b :: r,h=>by
  rw[cc,Zo6 (b :: r) h.2]
  unfold nx1
  rw[if_pos h.1]
noncomputable def fbv (u v:Pt):Pt:= @dite _ (∃ w,Fb u v w) (Classical.propDecidable _) (fun h=>h.choose) (fun _=>(0,0))
theorem Zdl {u v:Pt} (h:Wg u v):Fb u v (fbv u v):=by
 have e:=ZrJ h
 unfold fbv
 rw[dif_pos e]
 exact e.choose_spec
noncomputable def seg (u v:Pt):List Pt:=u :: btw u (fbv u v) (hj (X u v) (X (fbv u v) v))
noncomputable def Zbr:List Pt->List Pt
 |a :: b :: r=>seg a b ++ Zbr (b :: r)
 |_=>[]
noncomputable def Wgs:List Pt->Prop
 |a :: b :: r=>Wg a b/\Wgs (b :: r)
 |_=>True
theorem Zkk {f:Pt->Pt->Nat} (hf:Add f) {u v:Pt} (h:Wg u v):cc f (seg u v ++ [v])=f u v:=by
 have k:=Zdl h
 exact Zo5 hf _ _ _ u _ v rfl k.lo k.hi k.one rfl rfl
theorem ZlW {u v:Pt} (h:Wg u v):cc nx1 (seg u v ++ [v])=0:=Zo6 _ (ZlT h (Zdl h))
theorem Zic {f g:Pt->Pt->Nat} (hs: ∀ u v,Wg u v->cc f (seg u v ++ [v])=g u v): ∀ (L:List Pt) (z:Pt),Wgs (L ++ [z])->cc f (Zbr (L ++ [z]) ++ [z])=cc g (L ++ [z])/\ ∃ r,Zbr (L ++ [z]) ++ [z]=(L ++ [z]).head (by simp) :: r
 | [],z,_=>by simp[Zbr,cc]
 | [a],z,h=>by
  have:=hs a z h.1
  refine ⟨?_,?_⟩
  ·simp only[List.cons_append,List.nil_append,Zbr,List.append_nil,cc]
   rw[this]
   omega
  ·simp[Zbr,seg]
 |a :: b :: L,z,h=>by
  obtain ⟨i1,r,i2⟩:=Zic hs (b :: L) z h.2
  have:=hs a b h.1
  simp only[List.cons_append,List.head_cons] at i1 i2
  refine ⟨?_,?_⟩
  ·simp only[List.cons_append,Zbr,List.append_assoc,cc]
   rw[i2,ZbC,this,<- i2,i1]
  ·simp only[List.cons_append,Zbr,seg]
   exact ⟨_,rfl⟩
noncomputable def lrd (rs:List Pt):List Pt:=Zbr (rs ++ rs.take 1)
theorem ZfJ: ∀ (L:List Pt),L.length<=(Zbr L).length + 1
 | []=>by simp
 | [_]=>by simp
 |a :: b :: r=>by
  have:=ZfJ (b :: r)
  simp only[Zbr,seg,List.length_append,List.length_cons] at *
  omega
theorem Zid {a b:Pt} {r:List Pt}: ∃ s,Zbr (a :: b :: r)=a :: s:=⟨_,rfl⟩
theorem Ze7 {f g:Pt->Pt->Nat} (hs: ∀ u v,Wg u v->cc f (seg u v ++ [v])=g u v) {a:Pt} {r:List Pt} (hr:r≠[]) (h:Wgs (a :: r ++ [a])):cyc f (lrd (a :: r))=cyc g (a :: r):=by
 have k:=(Zic hs (a :: r) a h).1
 have e:lrd (a :: r)=Zbr (a :: r ++ [a]):=by simp[lrd]
 obtain ⟨b,r',rfl⟩:=List.exists_cons_of_ne_nil hr
 obtain ⟨s,hs'⟩:=Zid (a:=a) (b:=b) (r:=r' ++ [a])
 have e2:lrd (a :: b :: r')=a :: s:=by rw[e];simpa using hs'
 rw[e2,Zax,Zax]
 have:a :: (s ++ [a])=Zbr (a :: b :: r' ++ [a]) ++ [a]:=by rw[<- e,e2];simp
 rw[this,k]
 simp
theorem ZrO {rs:List Pt} (hl:rs≠[]) (h:cyc nx1 rs=0) (i:Int):X (cy rs i) (cy rs (i + 1))=1:=by
 have l0:rs.length≠0:=fun z=>hl (List.length_eq_zero_iff.mp z)
 refine Zcj (P:=fun a b=>X a b=1) l0 ?_ i
 intro i h0 h1
 obtain ⟨k,rfl⟩:=Int.eq_ofNat_of_zero_le h0
 have hk:k < rs.length:=by omega
 obtain ⟨L,a,R,e,hL⟩: ∃ L a R,rs=L ++ a :: R/\L.length=k:=⟨rs.take k,rs[k],rs.drop (k + 1),by rw[List.getElem_cons_drop,List.take_append_drop],by simp;omega⟩
 have ca:cy rs k=a:=by rw[e,<- hL];exact ZdI
 have z: ∀ b R',rs ++ rs.take 1=L ++ a :: b :: R'->X a b=1:=by
  intro b R' e2
  unfold cyc at h
  rw[e2] at h
  have:=Zh3 (f:=nx1) (L:=L) (a:=a) (b:=b) (R:=R')
  have n0:nx1 a b=0:=by omega
  unfold nx1 at n0
  split at n0
  ·assumption
  ·omega
 rw[ca]
 cases R with
 |cons b R=>
  have cb:cy rs (k + 1)=b:=by rw[e,<- hL];exact Zjv
  rw[show ((k:Nat):Int) + 1=(k:Int) + 1 from rfl,cb]
  exact z b (R ++ rs.take 1) (by rw[e];simp)
 |nil=>
  obtain ⟨c,t,ht⟩:=List.exists_cons_of_ne_nil hl
  have cb:cy rs (k + 1)=c:=by
   have lt:=congrArg List.length ht
   have le:=congrArg List.length e
   simp at lt le
   have:=ZdJ (r:=t) (a:=c)
   rw[ht]
   rw[show ((k:Nat):Int) + 1=(t.length:Int) + 1 by omega]
   exact this
  rw[cb]
  refine z c [] ?_
  have:rs.take 1=[c]:=by rw[ht];rfl
  rw[this,e]
  simp
theorem ZlX {a:Pt} {r:List Pt} (h2:2<=r.length) (h:Wgs (a :: r ++ [a])) (hF:Fan (a :: r)):Smo (lrd (a :: r)):=by
 have hr:r≠[]:=by intro z;rw[z] at h2;simp at h2
 have ll:=ZfJ (a :: r ++ [a])
 have e:lrd (a :: r)=Zbr (a :: r ++ [a]):=by simp[lrd]
 have l3:3<=(lrd (a :: r)).length:=by rw[e];simp at ll ⊢;omega
 have ne:lrd (a :: r)≠[]:=by intro z;rw[z] at l3;simp at l3
 refine ⟨l3,?_,?_⟩
 ·refine ZrO ne ?_
  rw[Ze7 (f:=nx1) (g:=fun _ _=>0) (fun u v w=>ZlW w) hr h]
  have: ∀ L:List Pt,cc (fun _ _=>0) L=0:=by
   intro L
   induction L with
   |nil=>rfl
   |cons x L ih=>
    cases L with
    |nil=>rfl
    |cons y L=>simp only[cc,ih]
  unfold cyc
  exact this _
 ·intro w hw
  rw[Ze7 (fun u v z=>Zkk Zuz z) hr h,Ze7 (fun u v z=>Zkk ZuA z) hr h]
  exact hF w hw
theorem Zo7 {f:Pt}: ∀ (r:List Pt) (a b:Pt),Cv (a :: b :: r)->(∀ x∈a :: b :: r,0<=dt f x)->dt f a < dt f b-> ∀ x∈r,dt f b < dt f x
 | [],_,_,_,_,_=>by simp
 |d :: r,a,b,h,hp,hl=>by
  obtain ⟨k,k2,e1,e2⟩:=h.1
  have eq:dt f a + dt f d=k * dt f b:=by
   unfold dt
   have:f.1 * a.1 + f.2 * a.2 + (f.1 * d.1 + f.2 * d.2)=f.1 * (a.1 + d.1) + f.2 * (a.2 + d.2):=by grind
   rw[this,e1,e2]
   grind
  have h0:=hp b (by simp)
  have:2 * dt f b<=k * dt f b:=Int.mul_le_mul_of_nonneg_right k2 h0
  have lt:dt f b < dt f d:=by omega
  intro x hx
  rcases List.mem_cons.mp hx with rfl | hx
  ·exact lt
  ·have:=Zo7 r b d h.2 (fun y hy=>hp y (by simp[hy])) lt x hx
   omega
theorem Zo8 {f:Pt} {c:Int}: ∀ (l:List Pt) (a z:Pt),Cv (a :: (l ++ [z]))->(∀ x∈a :: (l ++ [z]),0<=dt f x)->dt f a<=c->dt f z<=c-> ∀ x∈l,dt f x<=c
 | [],_,_,_,_,_,_=>by simp
 |b :: l,a,z,h,hp,ha,hz=>by
  by_cases k:dt f b<=c
  ·intro x hx
   rcases List.mem_cons.mp hx with rfl | hx
   ·exact k
   ·refine Zo8 l b z ?_ (fun y hy=>hp y (by simp at hy ⊢;simp[hy])) k hz x hx
    cases l with
    |nil=>exact h.2
    |cons d l=>exact h.2
  ·have:=Zo7 (l ++ [z]) a b h (fun y hy=>hp y (by simpa using hy)) (by omega) z (by simp)
   omega
theorem ZlY {u v w:Pt} (h:Wg u v) (hw:Fb u v w) {B:Int} (hB:0<=B) (hu:Bd B u) (hv:Bd B v): ∀ x∈btw u w (hj (X u v) (X w v)),Bd B x:=by
 intro x hx
 have a1:=fun x hx=>ZrM _ _ _ u w v rfl hw.lo hw.hi rfl rfl x hx
 have uu:X u u=0:=by unfold X;grind
 have vv:X v v=0:=by unfold X;grind
 have a2:=(ZrN (u:=u) _ _ _ u w v rfl hw.lo hw.hi hw.one rfl rfl h.gv (by omega) (by have:=hw.one;omega)).2
 have cv:=(Zo4 _ _ _ u w v rfl hw.lo hw.hi hw.one rfl rfl h.gv).1
 have hp:=h.pos
 have df: ∀ y:Pt,dt (v.2 - u.2,u.1 - v.1) y=X y v + X u y:=by intro y;unfold dt X;simp only;grind
 have le:=Zo8 (f:=(v.2 - u.2,u.1 - v.1)) (c:=X u v) _ u v cv (by
  intro y hy
  rw[df]
  rcases List.mem_cons.mp hy with rfl | hy
  ·omega
  ·rcases List.mem_append.mp hy with hy | hy
   ·have:=a1 y hy;have:=a2 y hy;omega
   ·simp at hy;subst hy;omega) (by rw[df];omega) (by rw[df];omega) x hx
 rw[df] at le
 have b1:=a1 x hx
 have b2:=a2 x hx
 have e1:X u v * x.1=X x v * u.1 + X u x * v.1:=by unfold X;grind
 have e2:X u v * x.2=X x v * u.2 + X u x * v.2:=by unfold X;grind
 have mb: ∀ y z:Int,-B<=y->y<=B-> -B<=z->z<=B-> -(X u v * B)<=X x v * y + X u x * z/\X x v * y + X u x * z<=X u v * B:=by
  intro y z y0 y1 z0 z1
  have q1:X x v * y<=X x v * B:=Int.mul_le_mul_of_nonneg_left y1 b1.1
  have q2:X u x * z<=X u x * B:=Int.mul_le_mul_of_nonneg_left z1 b2.1
  have q3:X x v * -B<=X x v * y:=Int.mul_le_mul_of_nonneg_left y0 b1.1
  have q4:X u x * -B<=X u x * z:=Int.mul_le_mul_of_nonneg_left z0 b2.1
  have q5:(X x v + X u x) * B<=X u v * B:=Int.mul_le_mul_of_nonneg_right le hB
  rw[Int.add_mul] at q5
  rw[Int.mul_neg] at q3 q4
  omega
 have fin: ∀ y:Int,-(X u v * B)<=X u v * y->X u v * y<=X u v * B-> -B<=y/\y<=B:=by
  intro y h1 h2
  refine ⟨?_,Int.le_of_mul_le_mul_left h2 hp⟩
  rw[<- Int.mul_neg] at h1
  exact Int.le_of_mul_le_mul_left h1 hp
 obtain ⟨⟨u1,u2⟩,u3,u4⟩:=hu
 obtain ⟨⟨v1,v2⟩,v3,v4⟩:=hv
 have m1:=mb u.1 v.1 u1 u2 v1 v2
 have m2:=mb u.2 v.2 u3 u4 v3 v4
 rw[<- e1] at m1
 rw[<- e2] at m2
 exact ⟨fin _ m1.1 m1.2,fin _ m2.1 m2.2⟩
theorem Zie {B:Int} (hB:0<=B): ∀ (L:List Pt),Wgs L->(∀ x∈L,Bd B x)-> ∀ x∈Zbr L,Bd B x
 | [],_,_=>by simp[Zbr]
 | [_],_,_=>by simp[Zbr]
 |a :: b :: r,h,hb=>by
  intro x hx
  simp only[Zbr,seg] at hx
  rcases List.mem_append.mp hx with hx | hx
  ·rcases List.mem_cons.mp hx with rfl | hx
   ·exact hb x (by simp)
   ·exact ZlY h.1 (Zdl h.1) hB (hb a (by simp)) (hb b (by simp)) x hx
  ·exact Zie hB (b :: r) h.2 (fun y hy=>hb y (by simp at hy ⊢;simp[hy])) x hx
end CB
end
section
namespace CL
open PySem PySem.Spec L2 DL
open CC (F_following)
open CB (F_between)
noncomputable def Z8:Sv:=(Zu (ZaJ (ZcF mApp (Zd 1) (Zc (Zd 3) aNil)))
 (ZaJ (ZcF mExt (Zd 1) (Zc (Zj F_between (Zc (Zd 3) (Zc (Zj F_following (Zc (Zd 0) (Zc (Zd 2) aNil))) aNil))) aNil))))
noncomputable def ZaP:Sv:=(Zu (ZD (gNm 1) (Zc5 aNil))
 (Zu (Zc6 (gTp (gCs (gNm 2) (gCs (gNm 3) gNl))) (iEn (Zc (Zd 0) aNil)) Z8)
 (Zaf (Zd 1))))
noncomputable def F_least_round:List D->Sto->Out D:=fnF ZaP 1 3
end CL
end
section
namespace CL
open PySem PySem.Spec L2 DL
open CV CB
theorem Zes: ∀ (L:List Pt) (a b:Pt),Zbr (L ++ [a,b])=Zbr (L ++ [a]) ++ seg a b
 | [],a,b=>by simp[Zbr]
 | [x],a,b=>by simp[Zbr]
 |x :: y :: L,a,b=>by
  have:=Zes (y :: L) a b
  simp only[List.cons_append,Zbr,List.append_assoc] at this ⊢
  rw[this]
theorem Zif: ∀ (L:List Pt) {a b:Pt} {R:List Pt},Wgs (L ++ a :: b :: R)->Wg a b
 | [],_,_,_,h=>h.1
 | [x],_,_,_,h=>h.2.1
 |x :: y :: L,_,_,_,h=>Zif (y :: L) h.2
theorem Zig {u v:Pt} (h:Wg u v) (hl:X u v<=90000):(seg u v).length<=90001:=by
 have k:=Zdl h
 unfold seg
 rw[List.length_cons,Zia]
 have:=Zkj _ (X u v) (X (fbv u v) v) rfl
 have:=k.hi
 have:=k.lo
 omega
theorem Zih: ∀ (L:List Pt),Wgs L->(∀ A a b R,L=A ++ a :: b :: R->X a b<=90000)->(Zbr L).length<=90001 * L.length
 | [],_,_=>by simp[Zbr]
 | [_],_,_=>by simp[Zbr]
 |a :: b :: r,h,hx=>by
  have i:=Zih (b :: r) h.2 fun A x y R e=>hx (a :: A) x y R (by rw[e];rfl)
  have s:=Zig h.1 (hx [] a b r rfl)
  simp only[Zbr,List.length_append,List.length_cons] at *
  omega
section
variable {Q:D->Sto->Prop} {E:Str->Sto->Prop} {M:Sto} {n:Nat}
theorem ZdL {rs:List Pt} (h:M[n]?=some (.lst (prs rs))) (hne:rs≠[]) (hw:Wgs (rs ++ rs.take 1)) (hl:rs.length<=61) (hx: ∀ x∈rs,Bd 200 x) (q: ∀ M',Kp M M'->M'[M.length]?=some (.lst (prs (lrd rs)))->Q (.ref M.length) M'):wO (F_least_round [.ref n] M) Q E:=by
 have hn:=Zw h
 have l0:0 < rs.length:=List.length_pos_iff.mpr hne
 have xl: ∀ A x y R,rs ++ rs.take 1=A ++ x :: y :: R->X x y<=90000:=by
  intro A x y R e
  have m: ∀ z∈rs ++ rs.take 1,Bd 200 z:=fun z hz=>by
   rcases List.mem_append.mp hz with hz | hz
   ·exact hx z hz
   ·exact hx z (List.mem_of_mem_take hz)
  have:=Zux (m x (by rw[e];simp)) (m y (by rw[e];simp))
  omega
 have ga: ∀ i:Nat,i<=rs.length->(rs ++ rs.take 1)[i]?=some (cy rs i):=by
  intro i hi
  by_cases c:i < rs.length
  ·rw[List.getElem?_append_left c,Za5 (by omega),ZaK (by omega),List.getElem?_eq_getElem c]
   simp
  ·have:i=rs.length:=by omega
   subst this
   rw[List.getElem?_append_right (Nat.le_refl _),Nat.sub_self,<- Zcr,Int.sub_self,Za5 (by omega),ZaK (by omega)]
   rw[List.getElem?_take_of_lt (by decide),List.getElem?_eq_getElem (by omega)]
   simp
 have lch:(rs ++ rs.take 1).length=rs.length + 1:=by simp;omega
 have e:lrd rs=Zbr (rs ++ rs.take 1):=rfl
 rw[e] at q
 generalize rs ++ rs.take 1=ch at *
 have cut: ∀ i:Nat,i < rs.length->ch.take (i + 2)=ch.take i ++ [cy rs i,cy rs (i + 1)]/\ch.take (i + 1)=ch.take i ++ [cy rs i]:=by
  intro i hi
  have g1:=ga i (by omega)
  have g2:=ga (i + 1) (by omega)
  constructor
  ·rw[List.take_add_one,List.take_add_one,g1,g2]
   simp
  ·rw[List.take_add_one,g1]
   simp
 simp![F_least_round,ZaP]
 have K1:Kp M (M ++ [SO.lst []]):=Kp.app
 have r1:(M ++ [SO.lst []])[M.length]?=some (.lst (prs (Zbr (ch.take (0 + 1))))):=by
  rw[ZdF]
  obtain ⟨c,cs,rfl⟩:=List.exists_cons_of_ne_nil (show ch≠[] by intro z;rw[z] at lch;simp at lch)
  simp[Zbr,prs]
 generalize M ++ [SO.lst []]=M1 at *
 have h1:=K1.get h
 refine ZhT (fun i ρ M'=>(∃ x2 x3,ρ=[some (.ref n),some (.ref M.length),x2,x3])/\Kp M M'/\M'[M.length]?=some (.lst (prs (Zbr (ch.take (i + 1)))))) h1 ⟨⟨_,_,rfl⟩,K1,r1⟩ (fun i ρ M' hI=>hI.2.1.get h) ?_ ?_
 ·rintro i ρ M2 hi ⟨⟨x2,x3,rfl⟩,K2,r2⟩
  rw[CC.ZbD hi]
  rw[Zy] at hi
  obtain ⟨c1,c2⟩:=cut i hi
  have hch:ch=ch.take i ++ cy rs i :: cy rs (i + 1) :: ch.drop (i + 2):=by
   have:=List.take_append_drop (i + 2) ch
   rw[c1] at this
   simpa using this.symm
  have hW:Wg (cy rs i) (cy rs (i + 1)):=Zif (ch.take i) (R:=ch.drop (i + 2)) (by rw[<- hch];exact hw)
  have hX:X (cy rs i) (cy rs (i + 1))<=90000:=xl (ch.take i) _ _ (ch.drop (i + 2)) hch
  have sl:(Zbr (ch.take (i + 1))).length<=90001 * 62:=by
   have w1:Wgs (ch.take (i + 1)):=by
    have: ∀ (L R:List Pt),Wgs (L ++ R)->Wgs L:=by
     intro L
     induction L with
     |nil=>intro R _;exact trivial
     |cons x L ih=>
      intro R h
      cases L with
      |nil=>exact trivial
      |cons y L=>exact ⟨h.1,ih R h.2⟩
    exact this _ (ch.drop (i + 1)) (by rw[List.take_append_drop];exact hw)
   have:=Zih _ w1 (fun A x y R e=>xl A x y (R ++ ch.drop (i + 1)) (by
    have t:=List.take_append_drop (i + 1) ch
    rw[e] at t
    exact t.symm.trans (by simp)))
   have l2:(ch.take (i + 1)).length<=62:=by rw[List.length_take];omega
   have:=Nat.mul_le_mul_left 90001 l2
   omega
  have lr2:=Zw r2
  have fol: ∀ {Q:D->Sto->Prop} {M':Sto},M'[n]?=some (.lst (prs rs))->wO (CC.F_following [.ref n,.int i] M') Q E=Q (pr (cy rs (i + 1)).1 (cy rs (i + 1)).2) M':=fun h'=>CC.Zbm h' (by omega)
  generalize hsg:Zbr (ch.take (i + 1))=sg at *
  simp![Z8,r2,Zy]
  refine ⟨by omega,?_⟩
  have K3:Kp M (M2.set M.length (SO.lst (prs (sg ++ [((cy rs i).1,(cy rs i).2)])))):=K2.set (Nat.le_refl _)
  have r3:(M2.set M.length (SO.lst (prs (sg ++ [((cy rs i).1,(cy rs i).2)]))))[M.length]?=some (.lst (prs (sg ++ [((cy rs i).1,(cy rs i).2)]))):=List.getElem?_set_self lr2
  generalize M2.set M.length (SO.lst (prs (sg ++ [((cy rs i).1,(cy rs i).2)])))=M3 at *
  have lr3:=Zw r3
  rw[fol (K3.get h)]
  simp![Zn]
  refine Zib hW (Zdl hW) hX ?_
  have bl:(btw (cy rs i) (fbv (cy rs i) (cy rs (i + 1))) (hj (X (cy rs i) (cy rs (i + 1))) (X (fbv (cy rs i) (cy rs (i + 1))) (cy rs (i + 1))))).length<=90001:=by
   have:=Zig hW hX
   unfold seg at this
   rw[List.length_cons] at this
   omega
  simp![r3,Zy]
  refine ⟨by omega,⟨_,_,rfl⟩,(K3.trans Kp.app).set (Nat.le_refl _),?_⟩
  rw[List.getElem?_set_self (by simp;omega),show i + 1 + 1=i + 2 from rfl,c1,Zes,<- c2,hsg]
  simp[seg]
 ·rintro ρ M2 ⟨⟨x2,x3,rfl⟩,K2,r2⟩
  simp![Zn]
  rw[Zy,List.take_of_length_le (by omega)] at r2
  exact q _ K2 r2
end
end CL
end
section
namespace TW
open DL
noncomputable def nx (b:Int) (p q:Pt):Pt:=(0 - b * q.1 - p.1,0 - b * q.2 - p.2)
noncomputable def ng (p:Pt):Pt:=(0 - p.1,0 - p.2)
noncomputable def run (p q:Pt):List Int->Pt × Pt
 | []=>(p,q)
 |b :: bs=>run q (nx b p q) bs
noncomputable def ew (p q:Pt):Nat:=in1 (1,0) p q + in1 (-1,0) p q
noncomputable def tot (p q:Pt):List Int->Int
 | []=>0
 |b :: bs=>6 * (ew p q:Int) - b - 3 + tot q (nx b p q) bs
theorem ZjA {p q:Pt} {b:Int} (h:X p q=1):X q (nx b p q)=1:=by unfold X nx at *;simp only;grind
theorem ZlZ: ∀ (bs:List Int) {p q:Pt},X p q=1->X (run p q bs).1 (run p q bs).2=1
 | [],_,_,h=>h
 |b :: bs,_,_,h=>ZlZ bs (ZjA h)
theorem Zah: ∀ (xs ys:List Int) (p q:Pt),run p q (xs ++ ys)=run (run p q xs).1 (run p q xs).2 ys
 | [],_,_,_=>rfl
 |b :: xs,ys,p,q=>Zah xs ys q (nx b p q)
theorem Zap: ∀ (xs ys:List Int) (p q:Pt),tot p q (xs ++ ys)=tot p q xs + tot (run p q xs).1 (run p q xs).2 ys
 | [],_,_,_=>by simp[tot,run]
 |b :: xs,ys,p,q=>by
  have:=Zap xs ys q (nx b p q)
  simp only[List.cons_append,tot,run] at *
  omega
theorem Zo9 {b:Int} {p q:Pt}:nx b (ng p) (ng q)=ng (nx b p q):=by unfold nx ng;simp only[Prod.mk.injEq];constructor<;>grind
theorem Zl0 {p:Pt}:ng (ng p)=p:=by unfold ng;ext<;>simp
theorem ZrP {p q:Pt}:ew (ng p) (ng q)=ew p q:=by
 have e: ∀ (w a b:Pt),in1 w (ng a) (ng b)=in1 (ng w) a b:=by
  intro w a b
  have h1:X (ng a) w=X a (ng w):=by unfold X ng;simp only;grind
  have h2:X w (ng b)=X (ng w) b:=by unfold X ng;simp only;grind
  unfold in1
  rw[h1,h2]
 unfold ew
 rw[e,e,show ng (1,0)=(-1,0) from rfl,show ng (-1,0)=(1,0) from rfl,Nat.add_comm]
theorem ZfK: ∀ (bs:List Int) (p q:Pt),run (ng p) (ng q) bs=(ng (run p q bs).1,ng (run p q bs).2)
 | [],_,_=>rfl
 |b :: bs,p,q=>by rw[run,run,Zo9,ZfK bs]
theorem ZfL: ∀ (bs:List Int) (p q:Pt),tot (ng p) (ng q) bs=tot p q bs
 | [],_,_=>rfl
 |b :: bs,p,q=>by rw[tot,tot,Zo9,ZfL bs,ZrP]
noncomputable def Sg (s:Bool) (p:Pt):Pt:=if s=true then ng p else p
theorem Zpa {s:Bool} {bs:List Int} {p q:Pt}:run (Sg s p) (Sg s q) bs=(Sg s (run p q bs).1,Sg s (run p q bs).2):=by
 cases s
 ·rfl
 ·exact ZfK bs p q
theorem Zpb {s:Bool} {bs:List Int} {p q:Pt}:tot (Sg s p) (Sg s q) bs=tot p q bs:=by
 cases s
 ·rfl
 ·exact ZfL bs p q
theorem Ze8 {a m:Pt} (h:0 < X a m):ew a m + ew m (ng a)=1:=by
 have z: ¬ (a.2=0/\m.2=0):=by
  intro z
  unfold X at h
  rw[z.1,z.2] at h
  simp at h
 have f: ∀ (w p q:Pt) (x y:Int),X p w=x->X w q=y->in1 w p q=if 0<=x/\0 < y then 1 else 0:=by
  intro w p q x y h1 h2
  unfold in1
  rw[h1,h2]
 unfold ew
 rw[f (1,0) a m (0 - a.2) m.2 (by unfold X;simp) (by unfold X;simp),f (-1,0) a m a.2 (0 - m.2) (by unfold X;simp) (by unfold X;simp),f (1,0) m (ng a) (0 - m.2) (0 - a.2) (by unfold X;simp) (by unfold X ng;simp),f (-1,0) m (ng a) m.2 a.2 (by unfold X;simp) (by unfold X ng;simp)]
 generalize a.2=x at *
 generalize m.2=y at *
 repeat' split
 all_goals omega
theorem Zkl {a b p:Pt} (h1:0 < X a p) (h2:0 < X p b) (h:0 < X a b):ew a b=ew a p + ew p b:=by
 have m1:=(CB.mid (w:=(1,0)) h1 h2 h).1
 have m2:=(CB.mid (w:=(-1,0)) h1 h2 h).1
 unfold ew
 omega
theorem ZrQ {p q:Pt} {c d:Int} (h:X p q=1):run p q [c,-1,d]=run p q [c + 1,d + 1]/\tot p q [c,-1,d]=tot p q [c + 1,d + 1]:=by
 have e1:nx (-1) q (nx c p q)=nx (c + 1) p q:=by unfold nx;simp only[Prod.mk.injEq];constructor<;>grind
 have e2:nx d (nx c p q) (nx (-1) q (nx c p q))=nx (d + 1) q (nx (c + 1) p q):=by unfold nx;simp only[Prod.mk.injEq];constructor<;>grind
 have x1:X q (nx c p q)=1:=ZjA h
 have x2:X (nx c p q) (nx (c + 1) p q)=1:=by rw[<- e1];exact ZjA x1
 have x3:X q (nx (c + 1) p q)=1:=ZjA h
 have k:=Zkl (a:=q) (b:=nx (c + 1) p q) (p:=nx c p q) (by omega) (by omega) (by omega)
 constructor
 ·simp only[run]
  rw[e2,e1]
 ·simp only[tot]
  rw[e1]
  omega
theorem ZrR {p q:Pt} {c d:Int} (h:X p q=1):run p q [c,0,d]=(ng (run p q [c + d]).1,ng (run p q [c + d]).2)/\tot p q [c,0,d]=tot p q [c + d]:=by
 have e1:nx 0 q (nx c p q)=ng q:=by unfold nx ng;simp only[Prod.mk.injEq];constructor<;>grind
 have e2:nx d (nx c p q) (ng q)=ng (nx (c + d) p q):=by unfold nx ng;simp only[Prod.mk.injEq];constructor<;>grind
 have x1:X q (nx c p q)=1:=ZjA h
 have k:=Ze8 (a:=q) (m:=nx c p q) (by omega)
 constructor
 ·simp only[run]
  rw[e1,e2]
 ·simp only[tot]
  rw[e1]
  omega
theorem ZrS {p q:Pt} {c d:Int} (h:X p q=1):run p q [c,1,d]=(ng (run p q [c - 1,d - 1]).1,ng (run p q [c - 1,d - 1]).2)/\tot p q [c,1,d]=tot p q [c - 1,d - 1]:=by
 have e1:nx 1 q (nx c p q)=ng (nx (c - 1) p q):=by unfold nx ng;simp only[Prod.mk.injEq];constructor<;>grind
 have e2:nx d (nx c p q) (ng (nx (c - 1) p q))=ng (nx (d - 1) q (nx (c - 1) p q)):=by unfold nx ng;simp only[Prod.mk.injEq];constructor<;>grind
 have x1:X q (nx c p q)=1:=ZjA h
 have x3:X q (nx (c - 1) p q)=1:=ZjA h
 have x2:X (nx (c - 1) p q) (nx c p q)=1:=by
  have:X (nx (c - 1) p q) (nx c p q)=X q (nx c p q):=by unfold X nx;simp only;grind
  omega
 have k1:=Zkl (a:=q) (b:=nx c p q) (p:=nx (c - 1) p q) (by omega) (by omega) (by omega)
 have k2:=Ze8 (a:=nx (c - 1) p q) (m:=nx c p q) (by omega)
 constructor
 ·simp only[run]
  rw[e1,e2]
 ·simp only[tot]
  rw[e1]
  omega
theorem Zte {p:Pt}: ∀ (bs:List Int) (u v:Pt),(∀ b∈bs,2<=b\/b<= -2)->(X p u).natAbs < (X p v).natAbs->(X p (run u v bs).1).natAbs < (X p (run u v bs).2).natAbs
 | [],_,_,_,h=>h
 |b :: bs,u,v,hb,h=>by
  refine Zte bs v (nx b u v) (fun c hc=>hb c (by simp[hc])) ?_
  have e:X p (nx b u v)= -(b * X p v) - X p u:=by unfold X nx;simp only;grind
  have hb':=hb b (by simp)
  have m:2 * (X p v).natAbs<=(b * X p v).natAbs:=by
   rw[Int.natAbs_mul]
   exact Nat.mul_le_mul_right _ (by omega)
  rw[e]
  omega
theorem red {n:Nat} (ih: ∀ m,m < n-> ∀ (bs:List Int) (p q:Pt) (s:Bool),bs.length=m->X p q=1->run p q bs=(Sg s p,Sg s q)->tot p q bs=0) {xs Y:List Int} {c b d:Int} {p q:Pt} {s:Bool} (hn:(xs ++ ([c,b,d] ++ Y)).length=n) (hb: ¬ (2<=b\/b<= -2)) (hX:X p q=1) (hr:run p q (xs ++ ([c,b,d] ++ Y))=(Sg s p,Sg s q)):tot p q (xs ++ ([c,b,d] ++ Y))=0:=by
 simp at hn
 rw[Zah] at hr
 rw[Zap]
 have hx:=ZlZ xs hX
 have flip: ∀ (R:Pt × Pt),(ng R.1,ng R.2)=(Sg s p,Sg s q)->R=(Sg (!s) p,Sg (!s) q):=by
  intro R h
  have a1:=congrArg (fun x=>ng x.1) h
  have a2:=congrArg (fun x=>ng x.2) h
  simp only[Zl0] at a1 a2
  apply Prod.ext
  ·simp only[a1];cases s<;>simp[Sg,Zl0]
  ·simp only[a2];cases s<;>simp[Sg,Zl0]
 have:b= -1\/b=0\/b=1:=by omega
 rcases this with rfl | rfl | rfl
 ·obtain ⟨c1,c2⟩:=ZrQ (c:=c) (d:=d) hx
  rw[Zah,c1,<- Zah,<- Zah] at hr
  rw[Zap,c1,c2,<- Zap,<- Zap]
  exact ih (xs ++ ([c + 1,d + 1] ++ Y)).length (by simp;omega) _ _ _ s rfl hX hr
 ·obtain ⟨c1,c2⟩:=ZrR (c:=c) (d:=d) hx
  rw[Zah,c1,ZfK,<- Zah,<- Zah] at hr
  rw[Zap,c1,c2,ZfL,<- Zap,<- Zap]
  exact ih (xs ++ ([c + d] ++ Y)).length (by simp;omega) _ _ _ (!s) rfl hX (flip _ hr)
 ·obtain ⟨c1,c2⟩:=ZrS (c:=c) (d:=d) hx
  rw[Zah,c1,ZfK,<- Zah,<- Zah] at hr
  rw[Zap,c1,c2,ZfL,<- Zap,<- Zap]
  exact ih (xs ++ ([c - 1,d - 1] ++ Y)).length (by simp;omega) _ _ _ (!s) rfl hX (flip _ hr)
theorem Zpc: ∀ (n:Nat) (bs:List Int) (p q:Pt) (s:Bool),bs.length=n->X p q=1->run p q bs=(Sg s p,Sg s q)->tot p q bs=0:=by
 intro n
 induction n using Nat.strongRecOn with
 |ind n ih=>
  intro bs p q s hn hX hr
  rcases List.eq_nil_or_concat bs with rfl | ⟨L,z,rfl⟩
  ·rfl
  rw[List.concat_eq_append] at hn hr ⊢
  have hr0:=hr
  rw[Zah] at hr
  have hq:(run p q L).2=Sg s p:=congrArg Prod.fst hr
  have hX':=ZlZ L hX
  have xp:X p p=0:=by unfold X;grind
  have key: ∃ b∈L,¬ (2<=b\/b<= -2):=by
   apply Classical.byContradiction
   intro c
   have:=Zte (p:=p) L p q (fun b hb=>Classical.byContradiction fun d=>c ⟨b,hb,d⟩) (by rw[hX,xp];decide)
   rw[hq] at this
   have z:X p (Sg s p)=0:=by
    cases s
    ·exact xp
    ·have:X p (ng p)= -X p p:=by unfold X ng;simp only;grind
     show X p (ng p)=0
     omega
   rw[z] at this
   simp at this
  obtain ⟨b,hbL,hb⟩:=key
  obtain ⟨A,B,rfl⟩:=List.append_of_mem hbL
  rcases List.eq_nil_or_concat A with rfl | ⟨xs,c,rfl⟩
  ·cases B with
   |cons d B=>
    have e1:run (run p q ([] ++ b :: d :: B)).1 (run p q ([] ++ b :: d :: B)).2 ([z] ++ (b :: d :: B))=(Sg s (run p q ([] ++ b :: d :: B)).1,Sg s (run p q ([] ++ b :: d :: B)).2):=by
     rw[Zah,hr,Zpa,List.nil_append]
    have e2:tot (run p q ([] ++ b :: d :: B)).1 (run p q ([] ++ b :: d :: B)).2 ([z] ++ (b :: d :: B))=tot p q (([] ++ b :: d :: B) ++ [z]):=by
     rw[Zap,hr,Zpb,Zap,List.nil_append]
     omega
    rw[<- e2]
    exact red ih (xs:=[]) (c:=z) (b:=b) (d:=d) (Y:=B) (by simp at hn ⊢;omega) hb hX' e1
   |nil=>
    have h1:=congrArg Prod.fst hr0
    have h2:=congrArg Prod.snd hr0
    simp only[List.nil_append,List.cons_append,run] at h1 h2
    have b0:b=0:=by
     have:=congrArg (X p) h1
     have e:X p (nx b p q)= -b * X p q:=by unfold X nx;simp only;grind
     have z:X p (Sg s p)=0:=by
      cases s
      ·exact xp
      ·have:X p (ng p)= -X p p:=by unfold X ng;simp only;grind
       show X p (ng p)=0
       omega
     rw[e,z,hX] at this
     omega
    subst b0
    have n1:nx 0 p q=ng p:=by unfold nx ng;simp only[Prod.mk.injEq];constructor<;>grind
    rw[n1] at h1 h2
    have z0:z=0:=by
     cases s
     ·exfalso
      have:X p q=X (ng p) q:=by rw[h1];rfl
      have e:X (ng p) q= -X p q:=by unfold X ng;simp only;grind
      omega
     ·have:=congrArg (X q) h2
      have e:X q (nx z q (ng p))= -z * X q (ng p):=by unfold X nx;simp only;grind
      have e2:X q (ng p)=X p q:=by unfold X ng;simp only;grind
      have e3:X q (Sg true q)=0:=by
       show X q (ng q)=0
       unfold X ng;simp only;grind
      rw[e,e2,e3,hX] at this
      omega
    subst z0
    have k:=Ze8 (a:=p) (m:=q) (by omega)
    simp only[List.nil_append,List.cons_append,tot]
    rw[n1]
    omega
  ·rw[List.concat_eq_append] at hn hr0 ⊢
   obtain ⟨d,Y,hd⟩: ∃ d Y,B ++ [z]=d :: Y:=by cases B with | nil=>exact ⟨_,_,rfl⟩ | cons d B=>exact ⟨_,_,rfl⟩
   have er:(xs ++ [c] ++ b :: B) ++ [z]=xs ++ ([c,b,d] ++ Y):=by
    have:(xs ++ [c] ++ b :: B) ++ [z]=xs ++ c :: b :: (B ++ [z]):=by simp
    rw[this,hd]
    simp
   rw[er] at hn hr0 ⊢
   exact red ih hn hb hX hr0
noncomputable def st (a:Pt):Int:=if 0 < a.2\/(a.2=0/\a.1 < 0) then 1 else 0
theorem alt {a b:Pt} (h:0 < X a b):(in1 (1,0) a b:Int) - in1 (-1,0) a b=st b - st a:=by
 have f: ∀ (w p q:Pt) (x y:Int),X p w=x->X w q=y->in1 w p q=if 0<=x/\0 < y then 1 else 0:=by
  intro w p q x y h1 h2
  unfold in1
  rw[h1,h2]
 rw[f (1,0) a b (0 - a.2) b.2 (by unfold X;simp) (by unfold X;simp),f (-1,0) a b a.2 (0 - b.2) (by unfold X;simp) (by unfold X;simp)]
 unfold st
 have h':=h
 unfold X at h'
 have k1:a.2=0->0 < a.1->0 < b.2:=fun z p=>by
  rw[z] at h'
  apply Classical.byContradiction
  intro c
  have:=Int.mul_nonpos_of_nonneg_of_nonpos (a:=a.1) (b:=b.2) (by omega) (by omega)
  omega
 have k2:a.2=0->a.1 < 0->b.2 < 0:=fun z p=>by
  rw[z] at h'
  apply Classical.byContradiction
  intro c
  have:=Int.mul_nonpos_of_nonpos_of_nonneg (a:=a.1) (b:=b.2) (by omega) (by omega)
  omega
 have k3:b.2=0->0 < b.1->a.2 < 0:=fun z p=>by
  rw[z] at h'
  apply Classical.byContradiction
  intro c
  have:=Int.mul_nonneg (a:=a.2) (b:=b.1) (by omega) (by omega)
  omega
 have k4:b.2=0->b.1 < 0->0 < a.2:=fun z p=>by
  rw[z] at h'
  apply Classical.byContradiction
  intro c
  have:=Int.mul_nonneg_of_nonpos_of_nonpos (a:=a.2) (b:=b.1) (by omega) (by omega)
  omega
 have z1: ¬ (a.1=0/\a.2=0):=fun z=>by rw[z.1,z.2] at h';simp at h'
 have z2: ¬ (b.1=0/\b.2=0):=fun z=>by rw[z.1,z.2] at h';simp at h'
 generalize a.1=a1 at *
 generalize a.2=a2 at *
 generalize b.1=b1 at *
 generalize b.2=b2 at *
 clear h h'
 have o1:0 < a1\/a1 < 0\/a1=0:=by omega
 have o2:0 < b1\/b1 < 0\/b1=0:=by omega
 repeat' split
 all_goals omega
noncomputable def Zii (p q:Pt):List Int->Nat
 | []=>0
 |b :: bs=>in1 (1,0) p q + Zii q (nx b p q) bs
noncomputable def Zf4 (bs:List Int):Int:=bs.foldr (· + ·) 0
theorem Zkm: ∀ (bs:List Int) {p q:Pt},X p q=1->tot p q bs=12 * (Zii p q bs:Int) - Zf4 bs - 3 * bs.length - 6 * (st (run p q bs).1 - st p)
 | [],p,q,_=>by simp[tot,Zii,Zf4,run]
 |b :: bs,p,q,h=>by
  have ih:=Zkm bs (ZjA (b:=b) h)
  have a:=alt (a:=p) (b:=q) (by omega)
  simp only[tot,Zii,run,Zf4,List.foldr_cons,List.length_cons] at *
  unfold ew
  rw[ih]
  omega
theorem Zpd {bs:List Int} {p q:Pt} (h:X p q=1) (hr:run p q bs=(p,q)):12 * (Zii p q bs:Int)=Zf4 bs + 3 * bs.length:=by
 have t:=Zpc _ bs p q false rfl h hr
 have e:=Zkm bs h
 rw[t,hr] at e
 simp only at e
 omega
end TW
end
section
namespace TW
open DL
section
variable {rs:List Pt}
noncomputable def ZuB (rs:List Pt):Int->Nat->List Int
 |_,0=>[]
 |i,k + 1=>T rs (i + 1) :: ZuB rs (i + 1) k
noncomputable def sf (f:Pt->Pt->Nat) (rs:List Pt):Int->Nat->Nat
 |_,0=>0
 |i,k + 1=>f (cy rs i) (cy rs (i + 1)) + sf f rs (i + 1) k
theorem ZrT {f:Pt->Pt->Nat} (hn:rs≠[]): ∀ (k i:Nat),i + k=rs.length->cc f ((rs ++ rs.take 1).drop i)=sf f rs i k:=by
 have l0:0 < rs.length:=List.length_pos_iff.mpr hn
 have ga: ∀ i:Nat,i<=rs.length->(rs ++ rs.take 1)[i]?=some (cy rs i):=by
  intro i hi
  by_cases c:i < rs.length
  ·rw[List.getElem?_append_left c,Za5 (by omega),ZaK (by omega),List.getElem?_eq_getElem c]
   simp
  ·have:i=rs.length:=by omega
   subst this
   rw[List.getElem?_append_right (Nat.le_refl _),Nat.sub_self,<- Zcr,Int.sub_self,Za5 (by omega),ZaK (by omega)]
   rw[List.getElem?_take_of_lt (by decide),List.getElem?_eq_getElem (by omega)]
   simp
 have lch:(rs ++ rs.take 1).length=rs.length + 1:=by simp;omega
 have dr: ∀ i:Nat,i<=rs.length->(rs ++ rs.take 1).drop i=cy rs i :: (rs ++ rs.take 1).drop (i + 1):=by
  intro i hi
  rw[List.drop_eq_getElem_cons (by omega)]
  have:=ga i hi
  rw[List.getElem?_eq_getElem (by omega)] at this
  rw[Option.some.inj this]
 intro k
 induction k with
 |zero=>
  intro i hi
  rw[dr i (by omega),List.drop_eq_nil_of_le (by omega)]
  rfl
 |succ k ih=>
  intro i hi
  have:=ih (i + 1) (by omega)
  rw[dr i (by omega)]
  rw[dr (i + 1) (by omega)] at this ⊢
  rw[cc,this,sf]
  rfl
theorem Zkn {f:Pt->Pt->Nat} (hn:rs≠[]):cyc f rs=sf f rs 0 rs.length:=by
 have:=ZrT (f:=f) hn rs.length 0 (by omega)
 exact this
end
end TW
end
section
end
section
namespace CT
open PySem PySem.Spec L2 DL
noncomputable def ZX:Sv:=(Zu (ZeI 3 4 (Zc (e2 dIx (Zd 1) (Zcm (eC (.int 2)))) (Zc (e2 dIx (Zd 1) (Zcm (eC (.int 1)))) aNil)))
 (ZaJ (ZcF mApp (Zd 1) (Zc (Zal (Zc (e2 dSub (e2 dMul (Zcm (Zd 2)) (e2 dIx (Zd 4) (eC (.int 0)))) (e2 dIx (Zd 3) (eC (.int 0)))) (Zc (e2 dSub (e2 dMul (Zcm (Zd 2)) (e2 dIx (Zd 4) (eC (.int 1)))) (e2 dIx (Zd 3) (eC (.int 1)))) aNil))) aNil))))
noncomputable def Zaz:Sv:=(Zu (ZD (gNm 1) (Zc5 (Zc (Zal (Zc (eC (.int 1)) (Zc (eC (.int 0)) aNil))) (Zc (Zal (Zc (eC (.int 0)) (Zc (eC (.int 1)) aNil))) aNil))))
 (Zu (Zgw (gNm 2) (Zd 0) ZX)
 (Zaf (Zd 1))))
noncomputable def F_gone_through:List D->Sto->Out D:=fnF Zaz 1 4
noncomputable def ZaQ:Sv:=(Zu (sIf (tv (e2 dNe (eSl (Zj F_gone_through (Zc (Zd 0) aNil)) (oSo (Zcm (eC (.int 2)))) oNo) (Zc5 (Zc (Zal (Zc (eC (.int 1)) (Zc (eC (.int 0)) aNil))) (Zc (Zal (Zc (eC (.int 0)) (Zc (eC (.int 1)) aNil))) aNil))))) (Zaf (eC (.int 0))) sNil)
 (Zaf (e2 dDiv (e2 dAdd (Zj (Zch Zf4) (Zc (Zd 0) aNil)) (e2 dMul (eC (.int 3)) (Zj bLen (Zc (Zd 0) aNil)))) (eC (.int 12)))))
noncomputable def F_times_round:List D->Sto->Out D:=fnF ZaQ 1 0
end CT
end
section
namespace CT
open PySem PySem.Spec L2 DL
open CV TW
noncomputable def rl0 (p q:Pt):List Int->List Pt
 | []=>[]
 |b :: bs=>p :: rl0 q (nx b p q) bs
noncomputable def rl (p q:Pt) (bs:List Int):List Pt:=rl0 p q bs ++ [(run p q bs).1,(run p q bs).2]
theorem ZdM: ∀ {bs:List Int} {p q:Pt},(rl0 p q bs).length=bs.length
 | [],_,_=>rfl
 |b :: bs,p,q=>by simp[rl0,ZdM (bs:=bs)]
theorem ZfM: ∀ {xs:List Int} {b:Int} {p q:Pt},rl0 p q (xs ++ [b])=rl0 p q xs ++ [(run p q xs).1]
 | [],b,p,q=>rfl
 |x :: xs,b,p,q=>by simp[rl0,TW.run,ZfM (xs:=xs)]
theorem Zl1 {xs:List Int} {b:Int} {p q:Pt}:rl p q (xs ++ [b])=rl p q xs ++ [nx b (run p q xs).1 (run p q xs).2]:=by
 unfold rl
 rw[ZfM,Zah]
 simp[TW.run]
theorem Zpe {bs:List Int} {p q:Pt}:(rl p q bs).length=bs.length + 2:=by simp[rl,ZdM]
theorem Ztf {R:List Pt} {a b:Pt}:atI (prs (R ++ [a,b])) (-1)=some (pr b.1 b.2)/\atI (prs (R ++ [a,b])) (-2)=some (pr a.1 a.2):=by
 have l:(R ++ [a,b]).length=R.length + 2:=by simp
 constructor
 ·rw[ZcU (by rw[l];omega),<- Z2,l,show (-1:Int) + ((R.length + 2:Nat):Int)=R.length + 1 by omega,Zjv]
 ·rw[ZcU (by rw[l];omega),<- Z2,l,show (-2:Int) + ((R.length + 2:Nat):Int)=R.length by omega,ZdI]
theorem Zko {R:List Pt} {a b:Pt}:Zdy (prs (R ++ [a,b])) (some (-2)) none=prs [a,b]/\Zdy (prs (R ++ [a,b])) none (some (-2))=prs R:=by
 have l:(prs (R ++ [a,b])).length=R.length + 2:=by rw[Zy];simp
 unfold Zdy
 simp only[HT.sIx]
 rw[l]
 constructor
 ·rw[if_pos (by decide),show (-2 + ((R.length + 2:Nat):Int)).toNat=R.length by omega,ZfE]
  simp[prs]
 ·rw[if_pos (by decide),show (-2 + ((R.length + 2:Nat):Int)).toNat=R.length by omega]
  simp[prs]
noncomputable def Sm (L:List Int):Prop:= ∀ b∈L,-(1152921504606846976)<=b/\b<=1152921504606846976
section
variable {Q:D->Sto->Prop} {E:Str->Sto->Prop} {M:Sto} {n m:Nat} {L:List Int}
theorem Zkp (h:M[n]?=some (.lst (nts L))) (hb:Sm L) (hl:L.length<=1000) (q: ∀ M',Kp M M'->M'[M.length]?=some (.lst (prs (rl (1,0) (0,1) L)))->Q (.ref M.length) M'):wO (F_gone_through [.ref n] M) Q E:=by
 simp![F_gone_through,Zaz]
 have K1:Kp M (M ++ [SO.lst [D.tup [D.int 1,D.int 0],D.tup [D.int 0,D.int 1]]]):=Kp.app
 have r1:(M ++ [SO.lst [D.tup [D.int 1,D.int 0],D.tup [D.int 0,D.int 1]]])[M.length]?=some (.lst (prs (rl (1,0) (0,1) (L.take 0)))):=by rw[ZdF];rfl
 generalize M ++ [SO.lst [D.tup [D.int 1,D.int 0],D.tup [D.int 0,D.int 1]]]=M1 at *
 refine ZdD (fun i ρ M'=>(∃ x2 x3 x4,ρ=[some (.ref n),some (.ref M.length),x2,x3,x4])/\Kp M M'/\M'[M.length]?=some (.lst (prs (rl (1,0) (0,1) (L.take i))))) (K1.get h) ⟨⟨_,_,_,rfl⟩,K1,r1⟩ (fun i ρ M' hI=>hI.2.1.get h) ?_ ?_
 ·rintro i ρ M2 hi ⟨⟨x2,x3,x4,rfl⟩,K2,r2⟩
  rw[CN.ZlV]
  rw[Zam] at hi
  rw[ZfF hi]
  have bd:=hb _ (List.getElem_mem hi)
  have st:L.take (i + 1)=L.take i ++ [L[i]]:=by rw[List.take_add_one,List.getElem?_eq_getElem hi];rfl
  have lr:=Zw r2
  have ll:(rl (1,0) (0,1) (L.take i)).length=i + 2:=by rw[Zpe,List.length_take];omega
  have e:=Zl1 (xs:=L.take i) (b:=L[i]) (p:=(1,0)) (q:=(0,1))
  rw[st,e]
  have er:rl (1,0) (0,1) (L.take i)=rl0 (1,0) (0,1) (L.take i) ++ [(run (1,0) (0,1) (L.take i)).1,(run (1,0) (0,1) (L.take i)).2]:=rfl
  rw[er] at r2 ll ⊢
  generalize (run (1,0) (0,1) (L.take i)).1=a at *
  generalize (run (1,0) (0,1) (L.take i)).2=b at *
  generalize rl0 (1,0) (0,1) (L.take i)=R at *
  generalize L[i]=c at *
  simp![ZX,r2,Ztf.1,Ztf.2,Zy,ll]
  refine ⟨by omega,⟨_,_,_,rfl⟩,K2.set (Nat.le_refl _),?_⟩
  unfold nx
  rw[Int.neg_mul,Int.neg_mul,Int.zero_sub,Int.zero_sub]
 ·rintro ρ M2 ⟨⟨x2,x3,x4,rfl⟩,K2,r2⟩
  simp![Zn]
  rw[Zam,List.take_of_length_le (Nat.le_refl _)] at r2
  exact q _ K2 r2
noncomputable def Zgg (L:List Int):Prop:= ∀ b∈L,-1000000<=b/\b<=1000000
theorem Zet: ∀ {L:List Int},Zgg L-> -(1000000 * (L.length:Int))<=L.sum/\L.sum<=1000000 * (L.length:Int)
 | [],_=>by simp
 |b :: L,h=>by
  have ih:=Zet (L:=L) fun c hc=>h c (by simp[hc])
  have hb:=h b (by simp)
  simp only[List.sum_cons,List.length_cons]
  omega
theorem Zl2 (h:Zgg L) (hl:L.length<=1000):DL.Zf4 L=some L.sum:=by
 unfold DL.Zf4
 rw[if_pos]
 intro j hj
 have hm:L.getD j 0=L[j]:=by rw[List.getD_eq_getElem?_getD,List.getElem?_eq_getElem hj];rfl
 have h1:=h _ (List.getElem_mem hj)
 have h2:=Zet (L:=L.take (j + 1)) fun b hb=>h b (List.mem_of_mem_take hb)
 have h3:((L.take (j + 1)).length:Int)<=1000:=by rw[List.length_take];omega
 rw[hm]
 refine ⟨by omega,by omega,by omega⟩
theorem Zij: ∀ {L:List Int},TW.Zf4 L=L.sum
 | []=>rfl
 |b :: L=>by
  have:=Zij (L:=L)
  unfold TW.Zf4 at *
  rw[List.foldr_cons,List.sum_cons,this]
theorem Zgg.sm (h:Zgg L):Sm L:=fun b hb=>by have:=h b hb;omega
noncomputable def Cl (L:List Int):Prop:=run (1,0) (0,1) L=((1,0),(0,1))
noncomputable instance (L:List Int):Decidable (Cl L):=by unfold Cl;infer_instance
theorem Zkq {L:List Int}:Cl L ↔ [(run (1,0) (0,1) L).1,(run (1,0) (0,1) L).2]=[(1,0),(0,1)]:=by
 unfold Cl
 constructor
 ·intro h;rw[h]
 ·intro h
  simp only[List.cons.injEq,and_true] at h
  exact Prod.ext h.1 h.2
theorem Zik {L:List Int} (h:Cl L):(L.sum + 3 * (L.length:Int))=12 * (Zii (1,0) (0,1) L:Int):=by
 have:=Zpd (bs:=L) (p:=(1,0)) (q:=(0,1)) rfl h
 rw[Zij] at this
 omega
theorem Zl3 (h:M[n]?=some (.lst (nts L))) (hb:Zgg L) (hl:L.length<=1000) (q: ∀ M',Kp M M'->Q (.int (if Cl L then (Zii (1,0) (0,1) L:Int) else 0)) M'):wO (F_times_round [.ref n] M) Q E:=by
 simp![F_times_round,ZaQ]
 refine Zkp h hb.sm hl fun M1 K1 r1=> ?_
 have er:rl (1,0) (0,1) L=rl0 (1,0) (0,1) L ++ [(run (1,0) (0,1) L).1,(run (1,0) (0,1) L).2]:=rfl
 rw[er] at r1
 have lr:=Zw r1
 simp![r1,Zko.1]
 have K2:Kp M1 (M1 ++ [SO.lst (prs [(run (1,0) (0,1) L).1,(run (1,0) (0,1) L).2]),SO.lst [D.tup [D.int 1,D.int 0],D.tup [D.int 0,D.int 1]]]):=Kp.app
 have q2:eqF 12 (M1 ++ [SO.lst (prs [(run (1,0) (0,1) L).1,(run (1,0) (0,1) L).2]),SO.lst [D.tup [D.int 1,D.int 0],D.tup [D.int 0,D.int 1]]]) (.ref M1.length) (.ref (M1.length + 1))=some (decide ([(run (1,0) (0,1) L).1,(run (1,0) (0,1) L).2]=[(1,0),(0,1)])):=DL.ZlH (by rw[ZdF];rfl) (by rw[Zj8];rfl)
 rw[q2]
 generalize M1 ++ [SO.lst (prs [(run (1,0) (0,1) L).1,(run (1,0) (0,1) L).2]),SO.lst [D.tup [D.int 1,D.int 0],D.tup [D.int 0,D.int 1]]]=M2 at *
 have K02:=K1.trans K2
 have h2:=K02.get h
 simp![Zn]
 refine Zuh (fun z=> ?_) (fun z=> ?_)
 ·simp![Zn]
  have:=q M2 K02
  rw[if_neg (fun c=>z (Zkq.mp c))] at this
  exact this
 ·have c:=Zkq.mpr z
  simp![h2,CC.Zb4,Zl2 hb hl,Zam]
  have:=q M2 K02
  rw[if_pos c] at this
  rw[Zik c,Int.mul_comm,Int.mul_ediv_cancel _ (by decide)]
  exact this
end
end CT
end
section
namespace CT
open PySem PySem.Spec L2 DL
open CV
open TW (nx Zii ZjA)
section
variable {Q:D->Sto->Prop} {E:Str->Sto->Prop} {M:Sto} {n m:Nat} {L:List Int}
end
end CT
end
section
namespace DL
open CB (mid Wg Wgs Bd)
section
variable {rs:List Pt} {k:Nat}
theorem ZjB {f:Pt->Pt->Nat} (hl:rs≠[]) (h:cyc f rs=0) (i:Int):f (cy rs i) (cy rs (i + 1))=0:=by
 have l0:rs.length≠0:=fun z=>hl (List.length_eq_zero_iff.mp z)
 refine Zcj (P:=fun a b=>f a b=0) l0 ?_ i
 intro i h0 h1
 rw[TW.Zkn hl] at h
 have: ∀ (k:Nat) (j:Int),TW.sf f rs j k=0-> ∀ m:Nat,m < k->f (cy rs (j + m)) (cy rs (j + m + 1))=0:=by
  intro k
  induction k with
  |zero=>intro j _ m hm;omega
  |succ k ih=>
   intro j h m hm
   rw[TW.sf] at h
   cases m with
   |zero=>
    rw[show j + ((0:Nat):Int)=j by omega]
    omega
   |succ m=>
    have:=ih (j + 1) (by omega) m (by omega)
    rw[show j + ((m + 1:Nat):Int)=j + 1 + m by omega]
    exact this
 have:=this rs.length 0 h i.toNat (by omega)
 rw[show (0:Int) + (i.toNat:Nat)=i by omega] at this
 exact this
theorem Ze9 {f:Pt->Pt->Nat} (hl:rs≠[]) (h: ∀ i:Int,f (cy rs i) (cy rs (i + 1))=0):cyc f rs=0:=by
 rw[TW.Zkn hl]
 have: ∀ (k:Nat) (j:Int),TW.sf f rs j k=0:=by
  intro k
  induction k with
  |zero=>intro j;rfl
  |succ k ih=>intro j;rw[TW.sf,h,ih]
 exact this _ _
noncomputable def nxp (a b:Pt):Nat:=if 0 < X a b then 0 else 1
theorem Zpf {a b:Pt} (h:nxp a b=0):0 < X a b:=by
 unfold nxp at h
 split at h
 ·assumption
 ·omega
theorem Zpg {a b:Pt} (h:0 < X a b):nxp a b=0:=by unfold nxp;rw[if_pos h]
structure Rn (rs:List Pt):Prop where
 len:3<=rs.length
 ps:cyc nxp rs=0
 gc: ∀ p∈rs,Int.gcd p.1 p.2=1
 fan:Fan rs
theorem Rn.ne (h:Rn rs):rs≠[]:=by
 intro z
 have:=h.len
 rw[z] at this
 simp at this
theorem Rn.pos (h:Rn rs) (i:Int):0 < X (cy rs i) (cy rs (i + 1)):=Zpf (ZjB h.ne h.ps i)
theorem ZrU {a b:Pt} (h:X a b=1):Int.gcd a.1 a.2=1/\Int.gcd b.1 b.2=1:=by
 unfold X at h
 constructor
 ·have d1:((Int.gcd a.1 a.2:Nat):Int) ∣ a.1 * b.2 - a.2 * b.1:=Int.dvd_sub (Int.dvd_mul_of_dvd_left (Int.gcd_dvd_left _ _)) (Int.dvd_mul_of_dvd_left (Int.gcd_dvd_right _ _))
  rw[h] at d1
  exact Nat.eq_one_of_dvd_one (Int.natCast_dvd_natCast.mp d1)
 ·have d1:((Int.gcd b.1 b.2:Nat):Int) ∣ a.1 * b.2 - a.2 * b.1:=Int.dvd_sub (Int.dvd_mul_of_dvd_right (Int.gcd_dvd_right _ _)) (Int.dvd_mul_of_dvd_right (Int.gcd_dvd_left _ _))
  rw[h] at d1
  exact Nat.eq_one_of_dvd_one (Int.natCast_dvd_natCast.mp d1)
theorem Zph {p:Pt} (h:p∈rs): ∃ i:Int,p=cy rs i:=by
 obtain ⟨L,R,rfl⟩:=List.append_of_mem h
 exact ⟨L.length,ZdI.symm⟩
theorem Smo.rn (h:Smo rs):Rn rs:=by
 refine ⟨h.len,Ze9 h.ne fun i=>Zpg (by rw[h.one i];decide),fun p hp=> ?_,h.fan⟩
 obtain ⟨i,rfl⟩:=Zph hp
 exact (ZrU (h.one i)).1
theorem Rn.wgs (h:Rn rs) (hb:Nr 200 rs):Wgs (rs ++ rs.take 1):=by
 have key: ∀ (L:List Pt),(∀ A a b R,L=A ++ a :: b :: R->0 < X a b)->(∀ p∈L,Int.gcd p.1 p.2=1/\Bd 1000 p)->Wgs L:=by
  intro L
  induction L with
  |nil=>intro _ _;exact trivial
  |cons a L ih=>
   intro hp hg
   cases L with
   |nil=>exact trivial
   |cons b L=>
    refine ⟨⟨(hg a (by simp)).1,(hg b (by simp)).1,(hg a (by simp)).2,(hg b (by simp)).2,hp [] a b L rfl⟩,ih (fun A x y R e=>hp (a :: A) x y R (by rw[e];rfl)) fun p hp'=>hg p (by simp at hp' ⊢;simp[hp'])⟩
 refine key _ ?_ ?_
 ·intro A a b R e
  have hz:=h.ps
  unfold cyc at hz
  rw[e] at hz
  have:=Zh3 (f:=nxp) (L:=A) (a:=a) (b:=b) (R:=R)
  exact Zpf (by omega)
 ·intro p hp
  have hp':p∈rs:=by
   rcases List.mem_append.mp hp with hp | hp
   ·exact hp
   ·exact List.mem_of_mem_take hp
  have:=hb p hp'
  exact ⟨h.gc p hp',by unfold Bd;omega⟩
theorem Rn.least (h:Rn rs) (hb:Nr 200 rs):Smo (CB.lrd rs):=by
 obtain ⟨a,r,rfl⟩:=List.exists_cons_of_ne_nil h.ne
 exact CB.ZlX (by have:=h.len;simp at this;omega) (by have:=h.wgs hb;simpa using this) h.fan
end
end DL
end
section
end
section
namespace DL
open TW
open CT (rl0 Cl)
section
variable {rs us:List Pt}
theorem Zl4:(List.range us.length).map (fun (j:Nat)=>cy us j)=us:=by
 apply List.ext_getElem
 ·simp
 ·intro i h1 h2
  simp[Zcs h2]
end
end DL
end
section
namespace CB
open DL
section
variable {u v w:Pt}
noncomputable def kl:List Pt->List Int
 |a :: b :: d :: r=>X a d :: kl (b :: d :: r)
 |_=>[]
theorem Xvv (p:Pt):X p p=0:=by unfold X;grind
theorem ZrV: ∀ (r:List Pt) (a b:Pt) (v:Pt),Ch (a :: b :: r)->Cv (a :: b :: r)->(b :: r).getLast (by simp)=v->0<=X b v/\X b v < X a v
 | [],a,b,v,h,_,e=>by
  have:b=v:=e
  subst this
  rw[Xvv,h.1]
  omega
 |c :: r,a,b,v,h,k,e=>by
  have ih:=ZrV r b c v h.2 k.2 (by rw[<- e];simp[List.getLast_cons])
  obtain ⟨m,m2,e1,e2⟩:=k.1
  have ex:X a v + X c v=m * X b v:=by unfold X;grind
  have:2 * X b v<=m * X b v:=Int.mul_le_mul_of_nonneg_right m2 (by omega)
  omega
theorem Zl5 {t b k c:Int} (hb:0 < b) (h0:0<=c) (h1:c < b) (e:t + c=k * b): -((-t) / b)=k:=by
 have: -t=c + b * (-k):=by grind
 rw[this,Int.add_mul_ediv_left _ _ (by omega),Int.ediv_eq_zero_of_lt h0 h1]
 omega
theorem only: ∀ (ws:List Pt) (u v w:Pt),Ch (u :: (ws ++ [v]))->Cv (u :: (ws ++ [v]))->Fb u v w->ws=btw u w (hj (X u v) (X w v))/\kl (u :: (ws ++ [v]))=hj (X u v) (X w v)
 | [],u,v,w,h,k,f=>by
  have h1:X u v=1:=h.1
  have l:=f.lo
  have l2:=f.hi
  have w0:X w v=0:=by omega
  rw[w0]
  unfold hj
  rw[dif_neg (by decide)]
  exact ⟨rfl,rfl⟩
 |x :: ws,u,v,w,h,k,f=>by
  have hl:(x :: (ws ++ [v])).getLast (by simp)=v:=by simp[List.getLast_cons]
  have d:=ZrV (ws ++ [v]) u x v h k hl
  have fx:Fb u v x:=⟨h.1,d.1,d.2⟩
  have ew:=fx.uniq f
  subst ew
  obtain ⟨y,R,eR⟩: ∃ y R,ws ++ [v]=y :: R:=by
   cases ws with
   |nil=>exact ⟨v,[],rfl⟩
   |cons y R=>exact ⟨y,R ++ [v],rfl⟩
  have h':Ch (x :: y :: R):=by rw[<- eR];exact h.2
  have kk:Cv (u :: x :: y :: R):=by rw[<- eR];exact k
  have hl2:(y :: R).getLast (by simp)=v:=by
   have:(ws ++ [v]).getLast (by simp)=v:=by simp
   simpa [eR] using this
  have d2:=ZrV R x y v h' kk.2 hl2
  obtain ⟨m,m2,e1,e2⟩:=kk.1
  have ex:X u v + X y v=m * X x v:=by unfold X;grind
  have hc:=Zl5 (by omega) d2.1 d2.2 ex
  have ey:(m * x.1 - u.1,m * x.2 - u.2)=y:=by apply Prod.ext<;>simp only<;>omega
  have m3:X u y=m:=by
   have:=h.1
   rw[<- ey]
   unfold X at *
   simp only
   grind
  have fy:Fb x v y:=⟨h'.1,d2.1,d2.2⟩
  have ih:=only ws x v y (by rw[eR];exact h') (by rw[eR];exact kk.2) fy
  have ej:hj (X u v) (X x v)=m :: hj (X x v) (X y v):=by
   rw[hj,dif_pos (by omega),hc]
   congr 2
   omega
  rw[ej]
  constructor
  ·rw[btw,ey,<- ih.1]
  ·show kl (u :: x :: (ws ++ [v]))=_
   rw[eR,kl,m3,<- eR,ih.2]
theorem Zpi: ∀ (l:List Pt),(∀ L a b R,l=L ++ a :: b :: R->X a b=1)->Ch l
 | [],_=>trivial
 | [_],_=>trivial
 |a :: b :: r,h=>⟨h [] a b r rfl,Zpi (b :: r) fun L x y R e=>h (a :: L) x y R (by rw[e];rfl)⟩
end
end CB
end
section
namespace CD
open PySem PySem.Spec L2 DL
open CC (F_ask_smooth)
end CD
end
section
namespace CD
open PySem PySem.Spec L2 DL
open CV
open CB (Bd)
open CR (rt)
section
variable {Q:D->Sto->Prop} {E:Str->Sto->Prop} {M:Sto} {n m p:Nat} {rs:List Pt} {a b c d:Int} {ρ:Ro} {k:Nat} {xs:List D} {tg:Tg} {f:Ev}
end
end CD
end
section
namespace CD
open PySem PySem.Spec L2 DL
open CV
open CB (Bd)
open CR (rt)
noncomputable def gg (a b c d:Int) (p:Pt):Pt:=(a * p.1 + b * p.2,c * p.1 + d * p.2)
theorem Zkr {a b c d:Int} (u v:Pt):X (gg a b c d u) (gg a b c d v)=(a * d - b * c) * X u v:=by unfold X gg;simp only;grind
noncomputable def sg {α:Type} (neg:Bool) (k:Nat) (L:List α):List α:=(if neg then L.reverse else L).drop k ++ (if neg then L.reverse else L).take k
section
variable {Q:D->Sto->Prop} {E:Str->Sto->Prop} {M:Sto} {n m p:Nat} {rs:List Pt} {a b c d:Int} {ρ:Ro} {k:Nat} {xs:List D} {tg:Tg} {f:Ev}
end
end CD
end
section
end
section
end
section
end
section
end
section
end
section
end
section
end
section
end
section
end
section
namespace CQ
open PySem PySem.Spec L2 DL
end CQ
end
section
namespace CQ
open PySem PySem.Spec L2 DL
open CV
open CB (Bd)
open CD (gg Zkr sg)
section
variable {Q:D->Sto->Prop} {E:Str->Sto->Prop} {M:Sto} {n m p:Nat} {rs:List Pt} {a b c d:Int}
end
end CQ
end
section
namespace CQ
open PySem PySem.Spec L2 DL
open CV
open CB (Bd)
open CD (gg Zkr sg)
section
variable {Q:D->Sto->Prop} {E:Str->Sto->Prop} {M:Sto} {n m p:Nat} {rs:List Pt} {a b c d:Int}
end
end CQ
end
section
namespace CQ
open PySem PySem.Spec L2 DL
open CV
open CB (Bd)
open CD (gg Zkr sg)
section
variable {Q:D->Sto->Prop} {E:Str->Sto->Prop} {M:Sto} {n m p:Nat} {rs:List Pt} {a b c d:Int}
end
end CQ
end
section
namespace CQ
open PySem PySem.Spec L2 DL
open CV
open CB (Bd)
open CD (gg Zkr sg)
section
variable {Q:D->Sto->Prop} {E:Str->Sto->Prop} {M:Sto} {n m p:Nat} {rs:List Pt} {a b c d:Int}
end
end CQ
end
section
namespace CB
open PySem PySem.Spec L2 DL
open CD (gg Zkr sg)
section
variable {a b c d:Int} {u v w:Pt} {rs:List Pt}
end
end CB
end
section
namespace CX
open PySem PySem.Spec L2 DL
open CE (F_numbers)
open CC (F_following)
open CL (F_least_round)
noncomputable def Za9:Sv:=(Zu (ZD (gNm 2) (Zdj (iSq (Zd 0)) 1 [] (gNm 0) (fun _ M=> .ok true M) (Zd 0) (eC (.bl true))))
 (Zaf (Za0 (iZp (Zc (Zj F_numbers (Zc (Zd 1) aNil)) (Zc (Zd 1) aNil))) 2 [2] (gTp (gCs (gNm 0) (gCs (gNm 1) gNl))) (fun _ M=> .ok true M) (Zal (Zc (Zd 0) (Zc (eIf (tv (e2 (Zli false) (Zd 1) (Zd 2))) (eC (.int 1)) (eC (.int 0))) aNil))))))
noncomputable def F_marked_row:List D->Sto->Out D:=fnF Za9 2 1
noncomputable def ZB:Sv:=(sIf (ZiW (tv (e2 dIs (Zd 3) (eC .non))) (tv (e2 dLtL (Zd 9) (Zd 3)))) (Zu (ZD (gNm 3) (Zd 9))
 (ZD (gNm 4) (Zal (Zc (Zd 6) (Zc (Zd 10) aNil))))) sNil)
noncomputable def ZT:Sv:=(Zu (ZD (gNm 7) (e2 dAdd (eSl (Zd 2) (oSo (Zd 5)) oNo) (eSl (Zd 2) oNo (oSo (Zd 5)))))
 (Zu (ZD (gNm 8) (e2 dAdd (eSl (Zd 7) oNo (oSo (eC (.int 1)))) (eR0 (Zd 7))))
 (Zgw (gTp (gCs (gNm 9) (gCs (gNm 10) gNl))) (Zc5 (Zc (Zal (Zc (Zd 7) (Zc (Zj F_following (Zc (Zd 1) (Zc (Zd 5) aNil))) aNil))) (Zc (Zal (Zc (Zd 8) (Zc (e2 dIx (Zd 1) (e2 dSub (Zd 5) (eC (.int 1)))) aNil))) aNil))) ZB)))
noncomputable def Zai:Sv:=(Zu (ZD (gNm 1) (Zj F_least_round (Zc (Zd 0) aNil)))
 (Zu (ZD (gNm 2) (Zj F_marked_row (Zc (Zd 0) (Zc (Zd 1) aNil))))
 (Zu (ZD (gNm 3) (eC .non))
 (Zu (ZD (gNm 4) (eC .non))
 (Zu (Zc6 (gTp (gCs (gNm 5) (gCs (gNm 6) gNl))) (iEn (Zc (Zd 1) aNil)) ZT)
 (Zaf (Zal (Zc (Zd 3) (Zc (Zd 4) aNil)))))))))
noncomputable def F_first_reading:List D->Sto->Out D:=fnF Zai 1 10
noncomputable def Zbo:Sv:=(Zaf (e2 dIx (Zj F_first_reading (Zc (Zd 0) aNil)) (eC (.int 0))))
noncomputable def F_least_row:List D->Sto->Out D:=fnF Zbo 1 0
end CX
end
section
namespace CX
open PySem PySem.Spec L2 DL
open CV
open CB (Bd lrd)
noncomputable def ltP:List Pt->List Pt->Bool
 | [],[]=>false
 | [],_ :: _=>true
 |_ :: _,[]=>false
 |x :: xs,y :: ys=>if x=y then ltP xs ys else HT.Zbu [x.1,x.2] [y.1,y.2]
theorem ZjC {x y:Pt} {xs ys:List Pt}:ltP (x :: xs) (y :: ys)=if x=y then ltP xs ys else HT.Zbu [x.1,x.2] [y.1,y.2]:=rfl
theorem ZpU {x y:Pt}:HT.Zbu [x.1,x.2] [y.1,y.2]=decide (x.1 < y.1\/(x.1=y.1/\x.2 < y.2)):=by
 rw[HT.Zce,HT.Zce,HT.ZbX]
 by_cases c1:x.1=y.1
 ·rw[if_pos c1]
  by_cases c2:x.2=y.2
  ·rw[if_pos c2]
   exact (decide_eq_false (by omega)).symm
  ·rw[if_neg c2]
   exact decide_eq_decide.mpr (by omega)
 ·rw[if_neg c1]
  exact decide_eq_decide.mpr (by omega)
theorem ZrW {x y:Pt} (h:x≠y):x.1≠y.1\/x.2≠y.2:=by
 by_cases c:x.1=y.1
 ·exact .inr fun z=>h (Prod.ext c z)
 ·exact .inl c
theorem Zeu: ∀ {xs ys zs:List Pt},ltP xs ys=true->ltP ys zs=true->ltP xs zs=true
 | [],[],_,h,_=>by cases h
 | [],_ :: _,[],_,h=>by cases h
 | [],_ :: _,_ :: _,_,_=>rfl
 |_ :: _,[],_,h,_=>by cases h
 |_ :: _,_ :: _,[],_,h=>by cases h
 |x :: xs,y :: ys,z :: zs,h1,h2=>by
  unfold ltP at h1 h2 ⊢
  by_cases c1:x=y
  ·subst c1
   rw[if_pos rfl] at h1
   by_cases c2:x=z
   ·subst c2
    rw[if_pos rfl] at h2 ⊢
    exact Zeu h1 h2
   ·rw[if_neg c2] at h2 ⊢
    exact h2
  ·rw[if_neg c1,ZpU] at h1
   have h1:=of_decide_eq_true h1
   by_cases c2:y=z
   ·subst c2
    rw[if_neg c1,ZpU]
    exact decide_eq_true h1
   ·rw[if_neg c2,ZpU] at h2
    have h2:=of_decide_eq_true h2
    have c3:x≠z:=fun e=>by subst e;omega
    rw[if_neg c3,ZpU]
    exact decide_eq_true (by omega)
theorem Zfa: ∀ {xs:List Pt},ltP xs xs=false
 | []=>rfl
 |x :: xs=>by
  unfold ltP
  rw[if_pos rfl]
  exact Zfa
theorem tI (x:Pt):Zbl [D.int x.1,D.int x.2]=some [x.1,x.2]:=rfl
theorem Zks {x y:Pt}:ltE (pr x.1 x.2) (pr y.1 y.2)=some (HT.Zbu [x.1,x.2] [y.1,y.2]):=rfl
theorem Zpj {x y:Pt}:ltL.eqX (pr x.1 x.2) (pr y.1 y.2)=decide (x=y):=by
 show (Zbl [D.int x.1,D.int x.2] == Zbl [D.int y.1,D.int y.2])=_
 rw[tI,tI]
 by_cases c:x=y
 ·subst c;simp
 ·rw[decide_eq_false c]
  have:=ZrW c
  simp
  omega
theorem Zil: ∀ {xs ys:List Pt},ltL (prs xs) (prs ys)=some (ltP xs ys)
 | [],[]=>rfl
 | [],_ :: _=>rfl
 |_ :: _,[]=>rfl
 |x :: xs,y :: ys=>by
  show (match ltE (pr x.1 x.2) (pr y.1 y.2) with | none=>none | some b=>if ltL.eqX (pr x.1 x.2) (pr y.1 y.2)=true then ltL (prs xs) (prs ys) else some b)=_
  rw[Zks,Zpj,Zil,ZjC]
  by_cases c:x=y
  ·simp[c]
  ·simp[c]
theorem Zim: ∀ {xs ys:List Pt},Za6 (prs xs) (prs ys)=true
 | [],[]=>rfl
 | [],_ :: _=>rfl
 |_ :: _,[]=>rfl
 |x :: xs,y :: ys=>by
  show ((ltE (pr x.1 x.2) (pr y.1 y.2)).isSome && Za6 (prs xs) (prs ys))=true
  rw[Zim,Zks]
  rfl
section
variable {Q:D->Sto->Prop} {E:Str->Sto->Prop} {M:Sto} {n m p:Nat} {rs ls:List Pt}
theorem ZrX {xs ys:List Pt} (h1:M[n]?=some (.lst (prs xs))) (h2:M[m]?=some (.lst (prs ys))):wO (dLtL (.ref n) (.ref m) M) Q E=Q (.bl (ltP xs ys)) M:=by
 have:dLtL (.ref n) (.ref m) M= .ok (.bl (ltP xs ys)) M:=by
  simp only[dLtL,h1,h2,Zim,if_true,Zil]
 rw[this]
 rfl
theorem ZuC {f:Ev} {ρ:Ro}:wO (eR0 f ρ M) Q E=wO (f ρ M) (fun x M1=>wR x fun n=>wL M1[n]? fun xs=>Q (.ref M1.length) (M1 ++ [.lst (xs.drop 1).reverse])) E:=by
 unfold eR0
 rw[Zt]
 congr 1
 funext x M1
 cases x with
 |ref n=>
  show wO (match M1[n]? with | some (.lst xs)=> .ok (.ref M1.length) (M1 ++ [.lst (xs.drop 1).reverse]) | none=> .bad) Q E=wL M1[n]? _
  cases M1[n]? with
  |none=>rfl
  |some o=>cases o with | lst xs=>rfl
 |_=>rfl
theorem ZfN {κ:Type} [DecidableEq κ] {dec:D->Option κ} {k k0:κ} {v:D}: ∀ (ds:List D),(ZcG dec k (Zj3 dec k0 v ds)).isSome=(ZcG dec k ds).isSome
 | []=>rfl
 |e :: r=>by
  have ih:=ZfN (dec:=dec) (k:=k) (k0:=k0) (v:=v) r
  cases e with
  |tup l=>
   rcases l with _ | ⟨a,_ | ⟨w,_ | ⟨z,l⟩⟩⟩
   ·exact ih
   ·exact ih
   ·show (ZcG dec k ((if dec a=some k0 then .tup [a,v] else .tup [a,w]) :: Zj3 dec k0 v r)).isSome=_
    split
    ·simp only[ZcG]
     split
     ·rfl
     ·exact ih
    ·simp only[ZcG]
     split
     ·rfl
     ·exact ih
   ·exact ih
  |_=>exact ih
theorem Zev {κ:Type} [DecidableEq κ] {dec:D->Option κ} {k:κ} {a v:D}: ∀ (ds:List D),(ZcG dec k (ds ++ [.tup [a,v]])).isSome=((ZcG dec k ds).isSome || decide (dec a=some k))
 | []=>by
  simp only[List.nil_append,ZcG]
  by_cases c:dec a=some k
  ·simp[c]
  ·simp[c]
 |e :: r=>by
  have ih:=Zev (dec:=dec) (k:=k) (a:=a) (v:=v) r
  cases e with
  |tup l=>
   rcases l with _ | ⟨x,_ | ⟨w,_ | ⟨z,l⟩⟩⟩
   ·exact ih
   ·exact ih
   ·simp only[List.cons_append,ZcG]
    split
    ·simp
    ·exact ih
   ·exact ih
  |_=>exact ih
theorem ZjD {κ:Type} [DecidableEq κ] {dec:D->Option κ} {k k0:κ} {kd v:D} (h:dec kd=some k0) (ds:List D):(ZcG dec k (Zix dec k0 kd v ds)).isSome=((ZcG dec k ds).isSome || decide (k0=k)):=by
 unfold Zix
 split
 ·rename_i c
  rw[ZfN]
  by_cases e:k0=k
  ·subst e;rw[c];simp
  ·simp[e]
 ·rw[Zev,h]
  simp
noncomputable abbrev ky (p:Pt):List Key:=[.inl p.1,.inl p.2]
theorem Zpk {p q:Pt}:ky p=ky q ↔ p=q:=by
 constructor
 ·intro h
  simp[ky] at h
  exact Prod.ext h.1 h.2
 ·rintro rfl;rfl
theorem Zl6 {κ:Type} [DecidableEq κ] {dec:D->Option κ} {k0:κ} {kd v:D} (ds:List D):(Zix dec k0 kd v ds).length<=ds.length + 1:=by
 unfold Zix
 split
 ·unfold Zj3;rw[List.length_map];omega
 ·simp
theorem dcl (h:M[n]?=some (.lst (prs rs))) (hl:rs.length<=1000): ∀ (fuel i:Nat) (ds:List D) (x:Option D),i<=rs.length->rs.length<=fuel + i->ds.length<=i->
  ∃ ds',ZbT (.sto n) (gNm 0) (fun _ M=> .ok true M) (Zd 0) (eC (.bl true)) M.length fuel i [x] (M ++ [.lst ds])= .ok () (M ++ [.lst ds'])/\ ∀ p,(ZcG kT (ky p) ds').isSome=((ZcG kT (ky p) ds).isSome || decide (p∈rs.drop i)):=by
 have hn:=Zw h
 intro fuel
 induction fuel with
 |zero=>
  intro i ds x hi hf hd
  have e:i=rs.length:=by omega
  have nx:nxt (.sto n) i (M ++ [.lst ds])=some none:=by
   rw[Zem (xs:=prs rs) (by rw[Zci hn];exact h),List.getElem?_eq_none (by rw[Zy];omega)]
  refine ⟨ds,?_,fun p=> ?_⟩
  ·unfold ZbT
   rw[nx]
  ·rw[List.drop_eq_nil_of_le (by omega)]
   simp
 |succ f ih=>
  intro i ds x hi hf hd
  by_cases e:i=rs.length
  ·have nx:nxt (.sto n) i (M ++ [.lst ds])=some none:=by
    rw[Zem (xs:=prs rs) (by rw[Zci hn];exact h),List.getElem?_eq_none (by rw[Zy];omega)]
   refine ⟨ds,?_,fun p=> ?_⟩
   ·unfold ZbT
    rw[nx]
   ·rw[List.drop_eq_nil_of_le (by omega)]
    simp
  ·have hi':i < rs.length:=by omega
   have nx:nxt (.sto n) i (M ++ [.lst ds])=some (some (pr rs[i].1 rs[i].2)):=by
    rw[Zem (xs:=prs rs) (by rw[Zci hn];exact h)]
    congr 1
    unfold prs
    rw[List.getElem?_map,List.getElem?_eq_getElem hi']
    rfl
   have pt:Znu (M ++ [.lst ds]) (.dt M.length) (pr rs[i].1 rs[i].2) (.bl true)=some (M ++ [.lst (Zix kT (ky rs[i]) (pr rs[i].1 rs[i].2) (.bl true) ds)]):=by
    have e1:kT (pr rs[i].1 rs[i].2)=some (ky rs[i]):=rfl
    have e2:(M ++ [SO.lst ds])[M.length]?=some (.lst ds):=by simp
    simp only[Znu,e1,e2]
    rw[if_pos (by omega)]
    simp
   obtain ⟨ds',h1,h2⟩:=ih (i + 1) (Zix kT (ky rs[i]) (pr rs[i].1 rs[i].2) (.bl true) ds) (some (pr rs[i].1 rs[i].2)) (by omega) (by omega) (by have:=Zl6 (dec:=kT) (k0:=ky rs[i]) (kd:=pr rs[i].1 rs[i].2) (v:= .bl true) ds;omega)
   refine ⟨ds',?_,fun p=> ?_⟩
   ·unfold ZbT
    rw[nx]
    show (match Znu (M ++ [.lst ds]) (.dt M.length) (pr rs[i].1 rs[i].2) (.bl true) with | some M4=>ZbT (.sto n) (gNm 0) (fun _ M=> .ok true M) (Zd 0) (eC (.bl true)) M.length f (i + 1) [some (pr rs[i].1 rs[i].2)] M4 | none=> .bad)=_
    rw[pt]
    exact h1
   ·rw[h2,ZjD (dec:=kT) (show kT (pr rs[i].1 rs[i].2)=some (ky rs[i]) from rfl),List.drop_eq_getElem_cons hi']
    simp only[List.mem_cons,Zpk,Bool.or_assoc,Bool.decide_or]
    congr 2
    exact decide_eq_decide.mpr ⟨Eq.symm,Eq.symm⟩
end
end CX
end
section
namespace CX
open PySem PySem.Spec L2 DL
open CV
open CB (Bd lrd)
section
variable {Q:D->Sto->Prop} {E:Str->Sto->Prop} {M:Sto} {n m p:Nat} {rs ls:List Pt}
theorem Zl7 {r:Ro} (h:M[n]?=some (.lst (prs rs))) (hl:rs.length<=1000) (q: ∀ ds,(∀ p,(ZcG kT (ky p) ds).isSome=decide (p∈rs))->Q (.dt M.length) (M ++ [.lst ds])):wO (Zdj (iSq (Zd 0)) 1 [] (gNm 0) (fun _ M=> .ok true M) (Zd 0) (eC (.bl true)) (some (.ref n) :: r) M) Q E:=by
 obtain ⟨ds,h1,h2⟩:=dcl h hl (cnt (.sto n) M) 0 [] none (by omega) (by rw[Ze1 h,Zy];omega) (by simp)
 have e:Zdj (iSq (Zd 0)) 1 [] (gNm 0) (fun _ M=> .ok true M) (Zd 0) (eC (.bl true)) (some (.ref n) :: r) M= .ok (.dt M.length) (M ++ [.lst ds]):=by
  show (match ZbT (.sto n) (gNm 0) (fun _ M=> .ok true M) (Zd 0) (eC (.bl true)) M.length (cnt (.sto n) M) 0 [none] (M ++ [.lst []]) with | .ok _ M2=>Out.ok (D.dt M.length) M2 | _=> .bad)=_
  rw[h1]
 rw[e]
 refine q ds fun p=> ?_
 rw[h2 p]
 simp[ZcG]
theorem ZrY {ds:List D} {x:Pt} (h:M[n]?=some (.lst ds)) (hd: ∀ p,(ZcG kT (ky p) ds).isSome=decide (p∈rs)):wO (Zli false (pr x.1 x.2) (.dt n) M) Q E=Q (.bl (decide (x∈rs))) M:=by
 have e1:kT (pr x.1 x.2)=some (ky x):=rfl
 have:Zli false (pr x.1 x.2) (.dt n) M= .ok (.bl (decide (x∈rs))) M:=by
  simp only[Zli,Zf6,e1,h,hd]
  simp
 rw[this]
 rfl
noncomputable def mkr (rs ls:List Pt):List Pt:=(List.range ls.length).map fun (i:Nat)=>(T ls i,if cy ls i∈rs then 1 else 0)
theorem Zl8:(mkr rs ls).length=ls.length:=by unfold mkr;simp
theorem ZjE (h1:M[n]?=some (.lst (prs rs))) (h2:M[m]?=some (.lst (prs ls))) (hs:Smo ls) (hl1:rs.length<=1000) (hl2:ls.length<=1000000) (hb:Nr 18446744073709551615 ls) (q: ∀ o M',Kp M M'->M.length<=o->M'[o]?=some (.lst (prs (mkr rs ls)))->Q (.ref o) M'):wO (F_marked_row [.ref n,.ref m] M) Q E:=by
 have hn:=Zw h1
 have hm:=Zw h2
 simp![F_marked_row,Za9]
 refine Zl7 h1 hl1 fun ds hds=> ?_
 have h2':(M ++ [SO.lst ds])[m]?=some (.lst (prs ls)):=by rw[Zci hm];exact h2
 have rd:(M ++ [SO.lst ds])[M.length]?=some (.lst ds):=by simp
 have K1:Kp M (M ++ [SO.lst ds]):=Kp.app
 have l1:(M ++ [SO.lst ds]).length=M.length + 1:=by simp
 generalize M ++ [SO.lst ds]=M1 at *
 simp![Zn]
 refine CE.Zer h2' hs hl2 hb ?_
 have h3:(M1 ++ [SO.lst (nts (Zo ls))])[m]?=some (.lst (prs ls)):=by rw[Zci (Zw h2')];exact h2'
 have r3:(M1 ++ [SO.lst (nts (Zo ls))])[M1.length]?=some (.lst (nts (Zo ls))):=by simp
 have rd3:(M1 ++ [SO.lst (nts (Zo ls))])[M.length]?=some (.lst ds):=by rw[Zci (Zw rd)];exact rd
 have K3:Kp M (M1 ++ [SO.lst (nts (Zo ls))]):=K1.trans Kp.app
 generalize M1 ++ [SO.lst (nts (Zo ls))]=M3 at *
 have tl:(Zo ls).length=ls.length:=by unfold Zo;simp
 have zl:(List.zipWith (fun a b=>D.tup [a,b]) (nts (Zo ls)) (prs ls)).length=ls.length:=by simp[Zy,Zam,tl]
 have hm3:=Zw h3
 have hr3:=Zw r3
 have hd3:=Zw rd3
 simp![Zn]
 refine ZpS (xs:=List.zipWith (fun a b=>D.tup [a,b]) (nts (Zo ls)) (prs ls)) (fun ρ=> ∃ x y,ρ=[x,y,some (.dt M.length)]) (fun (i:Nat)=>pr (T ls i) (if cy ls i∈rs then 1 else 0)) (by omega) (by rw[ZlK r3,zl,Zam,tl];omega) ⟨_,_,rfl⟩ (fun L i hi=> ?_) ?_ ?_
 ·rw[Zot (by rw[Zci hr3];exact r3) (by rw[Zci hm3];exact h3)]
 ·rintro i hi ρ L ⟨x,y,rfl⟩
  rw[zl] at hi
  have hp':(M3 ++ L)[M.length]?=some (.lst ds):=by rw[Zci hd3];exact rd3
  have en:(nts (Zo ls))[i]'(by rw[Zam,tl];exact hi)=D.int (T ls i):=by simp[nts,Zo]
  rw[List.getElem_zipWith,CC.ZbD,en]
  simp![ZrY hp' hds]
  refine ⟨⟨_,_,rfl⟩,brO (fun z=> ?_) (fun z=> ?_)⟩
  ·simp![Zn]
   rw[if_pos z]
  ·simp![Zn]
   rw[if_neg z]
 have en:((List.range (List.zipWith (fun a b=>D.tup [a,b]) (nts (Zo ls)) (prs ls)).length).map fun (i:Nat)=>pr (T ls i) (if cy ls i∈rs then 1 else 0))=prs (mkr rs ls):=by
  rw[zl]
  unfold mkr prs
  rw[List.map_map]
  rfl
 rw[en]
 exact q _ _ (K3.trans Kp.app) (by have:=K3.1;omega) (by simp)
end
end CX
end
section
namespace CX
open PySem PySem.Spec L2 DL
open CV
open CB (Bd lrd)
noncomputable def onw (L:List Pt) (i:Nat):List Pt:=L.drop i ++ L.take i
noncomputable def rdg (L:List Pt) (i:Nat) (b:Bool):List Pt:=if b then (onw L i).take 1 ++ ((onw L i).drop 1).reverse else onw L i
noncomputable def bsd (ls:List Pt) (i:Nat) (b:Bool):Pt:=if b then cy ls ((i:Int) - 1) else cy ls ((i:Int) + 1)
noncomputable def Bst (lo:Nat) (L ls:List Pt) (S:Nat->Bool->Prop) (v3 v4:D) (M:Sto):Prop:=(v3= .non/\v4= .non/\ ∀ i b,¬ S i b)\/ ∃ i b o,(S i b/\lo<=o)/\v3= .ref o/\v4= .tup [pr (cy ls (i:Nat)).1 (cy ls (i:Nat)).2,pr (bsd ls i b).1 (bsd ls i b).2]/\M[o]?=some (.lst (prs (rdg L i b)))/\ ∀ i' b',S i' b'->ltP (rdg L i' b') (rdg L i b)=false
theorem Bst.congr {lo:Nat} {L ls:List Pt} {S S':Nat->Bool->Prop} {v3 v4:D} {M:Sto} (h: ∀ i b,S i b ↔ S' i b) (k:Bst lo L ls S v3 v4 M):Bst lo L ls S' v3 v4 M:=by
 rcases k with ⟨h1,h2,h3⟩ | ⟨i,b,o,h1,h2,h3,h4,h5⟩
 ·exact .inl ⟨h1,h2,fun i b k=>h3 i b ((h i b).mpr k)⟩
 ·exact .inr ⟨i,b,o,⟨(h i b).mp h1.1,h1.2⟩,h2,h3,h4,fun i' b' k=>h5 i' b' ((h i' b').mpr k)⟩
theorem Bst.kp {lo:Nat} {L ls:List Pt} {S:Nat->Bool->Prop} {v3 v4:D} {M M':Sto} (k:Bst lo L ls S v3 v4 M) (K:Kp M M'):Bst lo L ls S v3 v4 M':=by
 rcases k with h | ⟨i,b,o,h1,h2,h3,h4,h5⟩
 ·exact .inl h
 ·exact .inr ⟨i,b,o,h1,h2,h3,K.get h4,h5⟩
section
variable {Q:D->Sto->Prop} {E:Str->Sto->Prop} {M:Sto} {n m p:Nat} {rs ls L:List Pt} {N B C:Ro->Sto->Prop} {R:D->Sto->Prop}
theorem Zpl:isP D.non D.non=some true:=rfl
theorem Zpm {o:Nat}:isP (D.ref o) D.non=some false:=rfl
theorem Ztg {lo i:Nat} {bk:Bool} {S:Nat->Bool->Prop} {v3 v4:D} {r:Nat} {a0 a1 a2 a5 a7 a8:Option D} (hr:M[r]?=some (.lst (prs (rdg L i bk)))) (hlo:lo<=r) (hB:Bst lo L ls S v3 v4 M)
  (hN: ∀ v3 v4,Bst lo L ls (fun i' b'=>S i' b'\/(i'=i/\b'=bk)) v3 v4 M->N [a0,a1,a2,some v3,some v4,a5,some (pr (cy ls i).1 (cy ls i).2),a7,a8,some (.ref r),some (pr (bsd ls i bk).1 (bsd ls i bk).2)] M):
  wS (ZB [a0,a1,a2,some v3,some v4,a5,some (pr (cy ls i).1 (cy ls i).2),a7,a8,some (.ref r),some (pr (bsd ls i bk).1 (bsd ls i bk).2)] M) N R B C E:=by
 rcases hB with ⟨rfl,rfl,h0⟩ | ⟨i0,b0,o,s0,rfl,rfl,ro,hb⟩
 ·simp![ZB,Zpl]
  refine hN _ _ (.inr ⟨i,bk,r,⟨.inr ⟨rfl,rfl⟩,hlo⟩,rfl,rfl,hr,fun i' b' h=> ?_⟩)
  rcases h with h | ⟨rfl,rfl⟩
  ·exact absurd h (h0 i' b')
  ·exact Zfa
 ·simp![ZB,Zpm,ZrX hr ro]
  refine Zsv (fun z=> ?_) (fun z=> ?_)
  ·simp![Zn]
   refine hN _ _ (.inr ⟨i,bk,r,⟨.inr ⟨rfl,rfl⟩,hlo⟩,rfl,rfl,hr,fun i' b' h=> ?_⟩)
   rcases h with h | ⟨rfl,rfl⟩
   ·have:=hb i' b' h
    cases e:ltP (rdg L i' b') (rdg L i bk) with
    |false=>rfl
    |true=>rw[Zeu e z] at this;cases this
   ·exact Zfa
  ·simp![Zn]
   refine hN _ _ (.inr ⟨i0,b0,o,⟨.inl s0.1,s0.2⟩,rfl,rfl,ro,fun i' b' h=> ?_⟩)
   rcases h with h | ⟨rfl,rfl⟩
   ·exact hb i' b' h
   ·exact z
noncomputable def St (i t:Nat) (i':Nat) (b':Bool):Prop:=i' < i\/(i'=i/\((b'=false/\0 < t)\/(b'=true/\1 < t)))
theorem Zin (h:M[n]?=some (.lst (prs rs))) (hr:Rn rs) (hb:Nr 200 rs) (hl:rs.length<=61) (hll:(lrd rs).length<=1000000)
  (q: ∀ i b o M',Kp M M'->i < (lrd rs).length->(∀ i' b',i' < (lrd rs).length->ltP (rdg (mkr rs (lrd rs)) i' b') (rdg (mkr rs (lrd rs)) i b)=false)->M.length<=o->M'[o]?=some (.lst (prs (rdg (mkr rs (lrd rs)) i b)))->Q (.tup [.ref o,.tup [pr (cy (lrd rs) (i:Nat)).1 (cy (lrd rs) (i:Nat)).2,pr (bsd (lrd rs) i b).1 (bsd (lrd rs) i b).2]]) M'):wO (F_first_reading [.ref n] M) Q E:=by
 have hn:=Zw h
 have hs:=hr.least hb
 have W:=hr.wgs hb
 have lb:Nr 18446744073709551615 (lrd rs):=fun x hx=>by
  have:=CB.Zie (B:=200) (by decide) _ W (fun y hy=>hb y (by
   rcases List.mem_append.mp hy with hy | hy
   ·exact hy
   ·exact List.mem_of_mem_take hy)) x hx
  obtain ⟨⟨a1,a2⟩,a3,a4⟩:=this
  omega
 simp![F_first_reading,Zai]
 refine CL.ZdL h hr.ne W hl (fun x hx=>hb x hx) fun M1 K1 r1=> ?_
 generalize hls:lrd rs=ls at *
 have l1:=Zw r1
 generalize hm1:M.length=m1 at *
 simp![Zn]
 refine ZjE (K1.get h) r1 hs (by omega) hll lb fun k M2 K2 k2 r2=> ?_
 generalize hL:mkr rs ls=L at *
 have Ll:L.length=ls.length:=by rw[<- hL,Zl8]
 have r12:=K2.get r1
 have K12:=K1.trans K2
 simp![Zn]
 refine ZhT (fun i ρ M'=>Kp M2 M'/\ ∃ v3 v4 x5 x6 x7 x8 x9 x10,ρ=[some (.ref n),some (.ref m1),some (.ref k),some v3,some v4,x5,x6,x7,x8,x9,x10]/\Bst m1 L ls (St i 0) v3 v4 M') r12 ⟨Kp.refl,_,_,_,_,_,_,_,_,rfl,.inl ⟨rfl,rfl,fun i b z=>by unfold St at z;omega⟩⟩ (fun i ρ M' hI=>hI.1.get r12) ?_ ?_
 ·rintro i ρ M3 hi ⟨K3,v3,v4,x5,x6,x7,x8,x9,x10,rfl,hB⟩
  rw[Zy] at hi
  rw[CC.ZbD]
  have r3:=K3.get r2
  have s3:=K3.get r12
  have hk3:=Zw r3
  have hm3:=Zw s3
  have ei:((i:Nat):Int).toNat=i:=by omega
  simp![ZT,r3,ZuC]
  refine ⟨by rw[List.length_take,List.length_drop];omega,?_⟩
  rw[ei]
  refine ⟨by rw[List.length_reverse,Zy,List.length_take,List.length_drop,List.length_append,List.length_take,List.length_drop];omega,?_⟩
  generalize hM4:M3 ++ [SO.lst (prs (L.drop i)),SO.lst (prs (L.take i)),SO.lst (prs (L.drop i ++ L.take i)),SO.lst (prs ((L.drop i ++ L.take i).take 1)),SO.lst (prs ((L.drop i ++ L.take i).drop 1)).reverse,SO.lst (prs ((L.drop i ++ L.take i).take 1) ++ (prs ((L.drop i ++ L.take i).drop 1)).reverse)]=M4
  have K4:Kp M3 M4:=by rw[<- hM4];exact Kp.app
  have s4:=K4.get s3
  have ro:M4[M3.length + 2]?=some (.lst (prs (rdg L i false))):=by rw[<- hM4,Zj8];rfl
  have rb:M4[M3.length + 5]?=some (.lst (prs (rdg L i true))):=by
   rw[<- hM4,Zj8]
   simp[rdg,onw,prs]
  have hB4:=hB.kp K4
  have KK:=K3.trans K4
  clear hM4
  have kl:=(K12.trans K3).1
  have g1:m1<=M3.length + 2:=by omega
  have g2:m1<=M3.length + 5:=by omega
  generalize M3.length + 2=o1 at *
  generalize M3.length + 5=o2 at *
  have hm4:=Zw s4
  rw[CC.Zbm s4 (by omega)]
  simp![s4,ZcU]
  have K5:Kp M4 (M4 ++ [SO.lst [D.tup [D.ref o1,pr (cy ls ((i:Int) + 1)).1 (cy ls ((i:Int) + 1)).2],D.tup [D.ref o2,pr (cy ls ((i:Int) - 1)).1 (cy ls ((i:Int) - 1)).2]]]):=Kp.app
  have r5:(M4 ++ [SO.lst [D.tup [D.ref o1,pr (cy ls ((i:Int) + 1)).1 (cy ls ((i:Int) + 1)).2],D.tup [D.ref o2,pr (cy ls ((i:Int) - 1)).1 (cy ls ((i:Int) - 1)).2]]])[M4.length]?=some (.lst [D.tup [D.ref o1,pr (cy ls ((i:Int) + 1)).1 (cy ls ((i:Int) + 1)).2],D.tup [D.ref o2,pr (cy ls ((i:Int) - 1)).1 (cy ls ((i:Int) - 1)).2]]):=by simp
  generalize M4 ++ [SO.lst [D.tup [D.ref o1,pr (cy ls ((i:Int) + 1)).1 (cy ls ((i:Int) + 1)).2],D.tup [D.ref o2,pr (cy ls ((i:Int) - 1)).1 (cy ls ((i:Int) - 1)).2]]]=M5 at *
  have ro5:=K5.get ro
  have rb5:=K5.get rb
  have hB5:=hB4.kp K5
  refine ZdD (fun t ρ M'=>M'=M5/\ ∃ v3 v4 x9 x10,ρ=[some (.ref n),some (.ref m1),some (.ref k),some v3,some v4,some (.int i),some (pr (cy ls i).1 (cy ls i).2),some (.ref o1),some (.ref o2),x9,x10]/\Bst m1 L ls (St i t) v3 v4 M5) r5 ⟨rfl,_,_,_,_,rfl,hB5⟩ (fun t ρ M' hI=>by rw[hI.1];exact r5) ?_ ?_
  ·rintro t ρ M' ht ⟨rfl,v3,v4,x9,x10,rfl,hB⟩
   have:t=0\/t=1:=by simp at ht;omega
   rcases this with rfl | rfl
   ·simp only[List.getElem_cons_zero]
    simp![Zn]
    refine Ztg (i:=i) (bk:=false) ro5 (by omega) hB fun v3 v4 k=>⟨rfl,v3,v4,_,_,rfl,k.congr fun i' b'=> ?_⟩
    unfold St
    cases b'<;>simp
   ·simp only[List.getElem_cons_succ,List.getElem_cons_zero]
    simp![Zn]
    refine Ztg (i:=i) (bk:=true) rb5 (by omega) hB fun v3 v4 k=>⟨rfl,v3,v4,_,_,rfl,k.congr fun i' b'=> ?_⟩
    unfold St
    cases b'<;>simp
  ·rintro ρ M' ⟨rfl,v3,v4,x9,x10,rfl,hB⟩
   refine ⟨KK.trans K5,v3,v4,_,_,_,_,_,_,rfl,hB.congr fun i' b'=> ?_⟩
   unfold St
   cases b'<;>simp<;>omega
 ·rintro ρ M3 ⟨K3,v3,v4,x5,x6,x7,x8,x9,x10,rfl,hB⟩
  have sl:=hs.len
  rcases hB with ⟨h1,h2,h3⟩ | ⟨i,b,o,h1,rfl,rfl,h4,h5⟩
  ·exact absurd (.inl (by rw[Zy];omega)) (h3 0 false)
  ·simp![Zn]
   unfold St at h1 h5
   rw[Zy] at h1 h5
   exact q i b o M3 (K12.trans K3) (by omega) (fun i' b' hi'=>h5 i' b' (.inl hi')) h1.2 h4
end
end CX
end
section
namespace CX
open PySem PySem.Spec L2 DL
open CB (Bd lrd Zbr seg)
open CD (gg Zkr sg)
section
variable {rs ls L L' O:List Pt}
theorem Zpn (i d:Int):cy rs (i % rs.length + d)=cy rs (i + d):=by
 unfold cy
 rw[Int.emod_add_emod]
noncomputable def sn (b:Bool):Int:=if b then -1 else 1
end
end CX
end
section
end
section
namespace RT
open PySem PySem.Spec L2 DL
section
variable {rs:List Pt}
noncomputable def pre (rs:List Pt) (k:Nat):Nat:=if k=0 then rs.length - 1 else k - 1
noncomputable def ZjF (rs:List Pt) (k:Nat):List Int:=
 ((Zo rs).set (pre rs k) (T rs (pre rs k:Nat) + 1)).set ((k + 1) % rs.length) (T rs ((k + 1) % rs.length:Nat) + 1)
theorem Zkt {k:Nat} (hs:Smo rs) (hk:k < rs.length) (h4:4<=rs.length) (ht:T rs k= -1):Zo (del rs k)=(ZjF rs k).take k ++ (ZjF rs k).drop (k + 1):=by
 have hL:=Zck hk
 have hm:(k + 1) % rs.length=if k + 1=rs.length then 0 else k + 1:=by
  by_cases c:k + 1=rs.length
  ·rw[if_pos c,c,Nat.mod_self]
  ·rw[if_neg c,Nat.mod_eq_of_lt (by omega)]
 have dl:(ZjF rs k).length=rs.length:=by simp[ZjF,ZL]
 have pl:pre rs k < rs.length:=by unfold pre;split<;>omega
 have pn:pre rs k≠(k + 1) % rs.length:=by rw[hm];unfold pre;split<;>split<;>omega
 have dg: ∀ i,i < rs.length->(ZjF rs k)[i]?=some (T rs i + (if i=pre rs k then 1 else 0) + (if i=(k + 1) % rs.length then 1 else 0)):=by
  intro i hi
  unfold ZjF
  by_cases c1:i=(k + 1) % rs.length
  ·rw[<- c1,List.getElem?_set_self (by simp[ZL];exact hi),if_pos rfl,if_neg (by omega)]
   congr 1
   omega
  ·rw[List.getElem?_set_ne (Ne.symm c1),if_neg c1]
   by_cases c2:i=pre rs k
   ·rw[<- c2,List.getElem?_set_self (by simp[ZL];exact hi),if_pos rfl]
    congr 1
    omega
   ·rw[List.getElem?_set_ne (Ne.symm c2),if_neg c2,Zb5 hi]
    congr 1
    omega
 apply List.ext_getElem?
 intro j
 by_cases hj:j < rs.length - 1
 ·rw[Zb5 (by rw[hL];exact hj),ZrI hs hk h4 ht (by omega) (by omega)]
  by_cases c1:j < k
  ·rw[List.getElem?_append_left (by simp[dl];omega),List.getElem?_take_of_lt (by omega),dg j (by omega),hm]
   rw[if_pos (by omega)]
   congr 2
   ·congr 1
    have:pre rs k=k - 1:=by unfold pre;rw[if_neg (by omega)]
    rw[this]
    by_cases c:j=k - 1
    ·rw[if_pos (by omega),if_pos c]
    ·rw[if_neg (by omega),if_neg c]
   ·by_cases c:k + 1=rs.length
    ·rw[if_pos c]
     by_cases c0:j=0
     ·rw[if_pos (by omega),if_pos c0]
     ·rw[if_neg (by omega),if_neg c0]
    ·rw[if_neg c,if_neg (by omega),if_neg (by omega)]
  ·rw[List.getElem?_append_right (by simp[dl];omega)]
   have tl:((ZjF rs k).take k).length=k:=by simp[dl];omega
   rw[tl,if_neg (by omega),List.getElem?_drop,dg _ (by omega),hm]
   rw[if_neg (by omega: ¬ k + 1=rs.length),show k + 1 + (j - k)=j + 1 by omega]
   have e:((j + 1:Nat):Int)=(j:Int) + 1:=by omega
   rw[e]
   congr 1
   have:(if (j:Int)=rs.length - 2/\k=0 then (1:Int) else 0)=if j + 1=pre rs k then 1 else 0:=by
    unfold pre
    by_cases c0:k=0
    ·rw[if_pos c0]
     by_cases c:(j:Int)=rs.length - 2
     ·rw[if_pos ⟨c,c0⟩,if_pos (by omega)]
     ·rw[if_neg (fun z=>c z.1),if_neg (by omega)]
    ·rw[if_neg c0,if_neg (fun z=>c0 z.2),if_neg (by omega)]
   rw[this]
   have:(if (j:Int)=k then (1:Int) else 0)=if j + 1=k + 1 then 1 else 0:=by
    by_cases c:j=k
    ·rw[if_pos (by omega),if_pos (by omega)]
    ·rw[if_neg (by omega),if_neg (by omega)]
   rw[this]
   omega
 ·rw[List.getElem?_eq_none (by rw[ZL,hL];omega),List.getElem?_eq_none (by simp[dl];omega)]
noncomputable def sl (s:Int) (k:Nat):List Int:=([0,s,0,0 - s,0,s,0,0 - s].drop k).take 4
theorem ZuD (hs:Smo rs) (h4:rs.length=4): ∃ s:Int,0<=s/\(Zo rs).max?=some s/\ ∃ k:Nat,k < 4/\Zo rs=sl s k:=by
 have o0:=hs.one 0
 have o1:=hs.one 1
 have o2:=hs.one 2
 have o3:=hs.one 3
 have w4:cy rs 4=cy rs 0:=by have:=Z2 (rs:=rs) (i:=0);rw[h4] at this;exact this
 have w3:cy rs (-1)=cy rs 3:=by have:=Z2 (rs:=rs) (i:= -1);rw[h4] at this;exact this.symm
 simp only[show (0:Int) + 1=1 from rfl,show (1:Int) + 1=2 from rfl,show (2:Int) + 1=3 from rfl,show (3:Int) + 1=4 from rfl,w4] at o0 o1 o2 o3
 have et:Zo rs=[0 - X (cy rs 3) (cy rs 1),0 - X (cy rs 0) (cy rs 2),0 - X (cy rs 1) (cy rs 3),0 - X (cy rs 2) (cy rs 0)]:=by
  unfold Zo
  rw[h4]
  simp only[T,List.range_succ,List.range_zero,List.nil_append,List.cons_append,List.map_cons,List.map_nil,Int.natCast_zero]
  rw[show (0:Int) - 1= -1 from rfl,w3]
  simp only[show (0:Int) + 1=1 from rfl,show ((1:Nat):Int) - 1=0 from rfl,show ((1:Nat):Int) + 1=2 from rfl,show ((2:Nat):Int) - 1=1 from rfl,show ((2:Nat):Int) + 1=3 from rfl,show ((3:Nat):Int) - 1=2 from rfl,show ((3:Nat):Int) + 1=4 from rfl,w4]
 have e1:=Zcx (p:=cy rs 3) (q:=cy rs 1)
 have e2:=Zcx (p:=cy rs 2) (q:=cy rs 0)
 have z:X (cy rs 0) (cy rs 2) * X (cy rs 1) (cy rs 3)=0:=by unfold X at *;grind
 rw[et,e1,e2]
 generalize X (cy rs 0) (cy rs 2)=c at *
 generalize X (cy rs 1) (cy rs 3)=a at *
 rcases Int.mul_eq_zero.mp z with rfl | rfl
 ·rcases Int.le_total 0 a with h | h
  ·refine ⟨a,h,?_,1,by decide,?_⟩
   ·simp[List.max?_cons'];omega
   ·simp[sl]
  ·refine ⟨-a,by omega,?_,3,by decide,?_⟩
   ·simp[List.max?_cons'];omega
   ·simp[sl]
 ·rcases Int.le_total 0 c with h | h
  ·refine ⟨c,h,?_,2,by decide,?_⟩
   ·simp[List.max?_cons'];omega
   ·simp[sl]
  ·refine ⟨-c,by omega,?_,0,by decide,?_⟩
   ·simp[List.max?_cons'];omega
   ·simp[sl]
noncomputable def pv (n k:Nat):Nat:=if k=0 then n - 1 else k - 1
noncomputable def dn (L:List Int) (k:Nat):List Int:=(L.set (pv L.length k) (L.getD (pv L.length k) 0 + 1)).set ((k + 1) % L.length) (L.getD ((k + 1) % L.length) 0 + 1)
noncomputable def up (A:List Int) (k:Nat):List Int:=
 let B:=A.take k ++ -1 :: A.drop k
 (B.set (pv B.length k) (B.getD (pv B.length k) 0 - 1)).set ((k + 1) % B.length) (B.getD ((k + 1) % B.length) 0 - 1)
theorem ZrZ {L:List Int} {k:Nat} (h4:4<=L.length) (hk:k < L.length) (h1:L[k]?=some (-1)):up ((dn L k).take k ++ (dn L k).drop (k + 1)) k=L:=by
 have hm:(k + 1) % L.length=if k + 1=L.length then 0 else k + 1:=by
  by_cases c:k + 1=L.length
  ·rw[if_pos c,c,Nat.mod_self]
  ·rw[if_neg c,Nat.mod_eq_of_lt (by omega)]
 have pl:pv L.length k < L.length:=by unfold pv;split<;>omega
 have ml:(k + 1) % L.length < L.length:=Nat.mod_lt _ (by omega)
 have pn:pv L.length k≠(k + 1) % L.length:=by rw[hm];unfold pv;split<;>split<;>omega
 have pk:pv L.length k≠k:=by unfold pv;split<;>omega
 have mk:(k + 1) % L.length≠k:=by rw[hm];split<;>omega
 have dl:(dn L k).length=L.length:=by simp[dn]
 have dk:(dn L k)[k]?=some (-1):=by
  unfold dn
  rw[List.getElem?_set_ne mk,List.getElem?_set_ne pk]
  exact h1
 have eB:((dn L k).take k ++ (dn L k).drop (k + 1)).take k ++ -1 :: ((dn L k).take k ++ (dn L k).drop (k + 1)).drop k=dn L k:=by
  have tl:((dn L k).take k).length=k:=by rw[List.length_take];omega
  rw[List.take_append_of_le_length (by omega),List.take_of_length_le (by omega),List.drop_append_of_le_length (by omega),List.drop_of_length_le (by omega),List.nil_append]
  have:(dn L k)[k]'(by omega)= -1:=by
   rw[List.getElem?_eq_getElem (by omega)] at dk
   exact Option.some.inj dk
  rw[<- this,<- List.drop_eq_getElem_cons (by omega),List.take_append_drop]
 unfold up
 simp only[eB,dl]
 apply List.ext_getElem?
 intro i
 generalize hp:pv L.length k=p at *
 generalize hq:(k + 1) % L.length=q at *
 have dp:(dn L k).getD p 0=L.getD p 0 + 1:=by
  unfold dn
  rw[hp,hq,List.getD_eq_getElem?_getD,List.getElem?_set_ne (Ne.symm pn),List.getElem?_set_self pl]
  rfl
 have dq:(dn L k).getD q 0=L.getD q 0 + 1:=by
  unfold dn
  rw[hp,hq,List.getD_eq_getElem?_getD,List.getElem?_set_self (by simp;exact ml)]
  rfl
 rw[dp,dq]
 by_cases c1:i=q
 ·subst c1
  rw[List.getElem?_set_self (by simp[dl];exact ml),List.getD_eq_getElem?_getD,List.getElem?_eq_getElem ml]
  simp
 ·rw[List.getElem?_set_ne (Ne.symm c1)]
  by_cases c2:i=p
  ·subst c2
   rw[List.getElem?_set_self (by rw[dl];exact pl),List.getD_eq_getElem?_getD,List.getElem?_eq_getElem pl]
   simp
  ·rw[List.getElem?_set_ne (Ne.symm c2)]
   unfold dn
   rw[hp,hq,List.getElem?_set_ne (Ne.symm c1),List.getElem?_set_ne (Ne.symm c2)]
theorem Zth {i:Nat} (h:i < rs.length):(Zo rs).getD i 0=T rs i:=by
 rw[List.getD_eq_getElem?_getD,Zb5 h]
 rfl
theorem Zku {k:Nat} (h:0 < rs.length) (hk:k < rs.length):ZjF rs k=dn (Zo rs) k:=by
 have pl:pre rs k < rs.length:=by unfold pre;split<;>omega
 have ml:(k + 1) % rs.length < rs.length:=Nat.mod_lt _ h
 unfold ZjF dn
 rw[ZL]
 have e:pv rs.length k=pre rs k:=rfl
 rw[e,Zth pl,Zth ml]
theorem Zl9 {k:Nat} (hs:Smo rs) (hk:k < rs.length) (h4:4<=rs.length) (ht:T rs k= -1):Zo rs=up (Zo (del rs k)) k:=by
 rw[Zkt hs hk h4 ht,Zku (by omega) hk]
 exact (ZrZ (by rw[ZL];exact h4) (by rw[ZL];exact hk) (by rw[Zb5 hk,ht])).symm
noncomputable def ZuE:List (List Int):=[[1,1,1],[-2,0,2,0],[-1,0,1,0],[0,0,0,0],[-2,-1,-1,1,0],[-1,-1,-1,0,0],[-2,-2,-1,-2,1,0],[-2,-1,-2,-1,0,0],[-2,-1,-1,0,-1,-1],[-1,-1,-1,-1,-1,-1],[-2,-2,-1,-2,0,-1,-1],[-2,-1,-2,-1,-1,-1,-1],[-2,-2,-2,-1,-2,0,-2,-1],[-2,-2,-1,-2,-1,-1,-2,-1],[-2,-1,-2,-1,-2,-1,-2,-1],[-2,-2,-1,-2,-2,-1,-2,-2,-1]]
noncomputable def rdI (L:List Int) (i:Nat):List (List Int):=[L.drop i ++ L.take i,L.reverse.drop i ++ L.reverse.take i]
noncomputable def al (n:Nat):List (List Int):=(ZuE.filter fun R=>R.length == n).flatMap fun R=>(List.range n).flatMap fun i=>rdI R i
noncomputable def ge2 (L:List Int):Bool:=L.all fun t=>decide (-2<=t)
noncomputable def clo (m:Nat):Bool:=(al m).all fun A=>(List.range (m + 1)).all fun k=> !ge2 (up A k) || (al (m + 1)).contains (up A k)
theorem ZuF:clo 4=true:=by decide +kernel
theorem ZuG:clo 5=true:=by decide +kernel
theorem ZuH:clo 6=true:=by decide +kernel
theorem ZuI:clo 7=true:=by decide +kernel
theorem ZuJ:clo 8=true:=by decide +kernel
theorem al3:[1,1,1]∈al 3:=by decide +kernel
theorem al4: ∀ s:Fin 3,∀ k:Fin 4,sl (s:Nat) k∈al 4:=by decide +kernel
theorem Zma {m k:Nat} {A:List Int} (h:clo m=true) (hA:A∈al m) (hk:k < m + 1) (hg:ge2 (up A k)=true):up A k∈al (m + 1):=by
 unfold clo at h
 rw[List.all_eq_true] at h
 have:=h A hA
 rw[List.all_eq_true] at this
 have:=this k (List.mem_range.mpr hk)
 rw[hg] at this
 simpa using this
theorem Zcl {L:List Int}:ge2 L=true ↔ ∀ t∈L,-2<=t:=by unfold ge2;simp
theorem Zr0 {L:List Int} {k:Nat} (h4:4<=L.length) (hg: ∀ t∈L,-2<=t): ∀ t∈dn L k,-2<=t:=by
 intro t ht
 have gD: ∀ i,i < L.length-> -2<=L.getD i 0:=fun i hi=>by
  rw[List.getD_eq_getElem?_getD,List.getElem?_eq_getElem hi]
  exact hg _ (List.getElem_mem hi)
 unfold dn at ht
 rcases List.mem_or_eq_of_mem_set ht with h | h
 ·rcases List.mem_or_eq_of_mem_set h with h | h
  ·exact hg t h
  ·rw[h]
   by_cases c:pv L.length k < L.length
   ·have:=gD _ c;omega
   ·rw[List.getD_eq_getElem?_getD,List.getElem?_eq_none (by omega)];decide
 ·rw[h]
  have:=gD _ (Nat.mod_lt (k + 1) (show 0 < L.length by omega))
  omega
theorem Zpo (hs:Smo rs) (h3:rs.length=3):Zo rs=[1,1,1]:=by
 have w: ∀ i:Int,T rs i=1:=fun i=>by
  have h:=hs.one (i + 1)
  have e:cy rs (i - 1)=cy rs (i + 1 + 1):=by
   have:=Z2 (rs:=rs) (i:=i - 1)
   rw[h3] at this
   rw[<- this]
   congr 1
   omega
  unfold T
  rw[e,Zcx,h]
  rfl
 unfold Zo
 rw[h3]
 simp[List.range_succ,w]
theorem cls: ∀ (n:Nat) {rs:List Pt},rs.length=n->n<=9->Smo rs->ge2 (Zo rs)=true->Zo rs∈al n:=by
 intro n
 induction n with
 |zero=>intro rs hl _ hs;have:=hs.len;omega
 |succ m ih=>
  intro rs hl h9 hs hg
  have l3:=hs.len
  by_cases c3:m=2
  ·subst c3
   rw[Zpo hs hl]
   exact al3
  ·by_cases c4:m=3
   ·subst c4
    obtain ⟨s,s0,-,k,hk,e⟩:=ZuD hs hl
    have g:=Zcl.mp hg
    rw[e] at g
    have s2:s<=2:=by
     have:=g (0 - s) (by
      have:k=0\/k=1\/k=2\/k=3:=by omega
      rcases this with rfl | rfl | rfl | rfl<;>simp[sl])
     omega
    obtain ⟨t,ht⟩: ∃ t:Nat,s=t:=⟨s.toNat,by omega⟩
    have:=al4 ⟨t,by omega⟩ ⟨k,hk⟩
    rw[e,ht]
    exact this
   ·obtain ⟨k,hk,ht⟩:=Zh4 hs (by omega)
    have h4:4<=rs.length:=by omega
    have eu:=Zl9 hs hk h4 ht
    have hd:=hs.del hk h4 ht
    have dl:=Zck hk
    have g':ge2 (Zo (del rs k))=true:=by
     rw[Zkt hs hk h4 ht,Zku (by omega) hk,Zcl]
     intro t ht'
     refine Zr0 (L:=Zo rs) (k:=k) (by rw[ZL];exact h4) (Zcl.mp hg) t ?_
     rcases List.mem_append.mp ht' with h | h
     ·exact List.mem_of_mem_take h
     ·exact List.mem_of_mem_drop h
    have im:=ih (rs:=del rs k) (by omega) (by omega) hd g'
    rw[eu] at hg ⊢
    have cl:clo m=true:=by
     have:m=4\/m=5\/m=6\/m=7\/m=8:=by omega
     rcases this with rfl | rfl | rfl | rfl | rfl
     ·exact ZuF
     ·exact ZuG
     ·exact ZuH
     ·exact ZuI
     ·exact ZuJ
    exact Zma cl im (by omega) hg
end
end RT
end
section
namespace K64
open PySem PySem.Spec L2 DL
noncomputable def top (i:Nat):Stmt:=PySem.Challenge.pw_rayround_k64_kinds_of_ones.main.body.getD i (.Pass ⟨0,0,0,0⟩)
noncomputable def Za2:List (List Int):=[[1,1,1],[-2,0,2,0],[-1,0,1,0],[0,0,0,0],[-2,-1,-1,1,0],[-1,-1,-1,0,0],[-2,-2,-1,-2,1,0],[-2,-1,-2,-1,0,0],[-2,-1,-1,0,-1,-1],[-1,-1,-1,-1,-1,-1],[-2,-2,-1,-2,0,-1,-1],[-2,-1,-2,-1,-1,-1,-1],[-2,-2,-2,-1,-2,0,-2,-1],[-2,-2,-1,-2,-1,-1,-2,-1],[-2,-1,-2,-1,-2,-1,-2,-1],[-2,-2,-1,-2,-2,-1,-2,-2,-1]]
structure Txt (K:PySem.W.Frag) (mg:Str->Option Value):Prop where
 gl: ∀ c v,PySem.W.nsIn K mainGlobals c=some (some v)->mg c=some v
 b_len:mg "len"=none
 b_enumerate:mg "enumerate"=none
 b_range:mg "range"=none
 b_sum:mg "sum"=none
 b_zip:mg "zip"=none
 b_min:mg "min"=none
 b_list:mg "list"=none
 b_tuple:mg "tuple"=none
 b_abs:mg "abs"=none
 b_max:mg "max"=none
 b_reversed:mg "reversed"=none
 b_isinstance:mg "isinstance"=none
 b_int:mg "int"=none
 b_bool:mg "bool"=none
 ex_NotSmooth:Zhl K "NotSmooth"=true
 ex_NoRow:Zhl K "NoRow"=true
 ex_NoWedge:Zhl K "NoWedge"=true
 ex_NoOne:Zhl K "NoOne"=true
 co_ROWS:Zji K "ROWS" Za2=true
section
variable {P:Program} {w:World} {K:PySem.W.Frag} {mg:Str->Option Value} {base:Heap}
noncomputable abbrev Zbe:Stmt:=top 7
noncomputable def Z6:Sv:=(Zaf (e2 dSub (e2 dMul (e2 dIx (Zd 0) (eC (.int 0))) (e2 dIx (Zd 1) (eC (.int 1)))) (e2 dMul (e2 dIx (Zd 0) (eC (.int 1))) (e2 dIx (Zd 1) (eC (.int 0))))))
noncomputable def F_crossed:List D->Sto->Out D:=fnF Z6 2 0
theorem Zgh:FnScope ["one","other"] ["one","other"] (Zh Zbe):=⟨rfl,rfl,rfl,by decide +kernel,rfl,by decide +kernel,by decide +kernel⟩
theorem Zgi {f:Addr} {fd:FuncData} (F:Fun K "crossed" "crossed" Zbe f fd) (T:Txt K mg):FnOk P w K mg base (CXE P w) 1 f fd ["one","other"] (spD K F_crossed):=
 Zak F Zgh rfl rfl fun cdv A outer s H E hr θ=>(Zi (ZG (Z5 (Z1 (ZH (Za 0) Ze) (ZH (Za 1) Ze)) (Z1 (ZH (Za 0) Ze) (ZH (Za 1) Ze)))))
noncomputable abbrev Zaq:Stmt:=top 9
noncomputable def Zan:Sv:=(Zaf (e2 dIx (Zd 0) (e2 dMod (e2 dAdd (Zd 1) (eC (.int 1))) (Zj bLen (Zc (Zd 0) aNil)))))
noncomputable def F_following:List D->Sto->Out D:=fnF Zan 2 0
theorem Zew:FnScope ["things","at"] ["things","at"] (Zh Zaq):=⟨rfl,rfl,rfl,by decide +kernel,rfl,by decide +kernel,by decide +kernel⟩
theorem Zex {f:Addr} {fd:FuncData} (F:Fun K "following" "following" Zaq f fd) (T:Txt K mg):FnOk P w K mg base (CXE P w) 1 f fd ["things","at"] (spD K F_following):=
 Zak F Zew rfl rfl fun cdv A outer s H E hr θ=>(Zi (ZG (ZH (Za 0) (ZaB (Zab (Za 1) Ze) (ZA Zz Zbw T.b_len PySem.boot_len (Zb (Za 0) Zf))))))
noncomputable abbrev Zar:Stmt:=top 10
noncomputable def ZP:Sv:=(sIf (tv (e2 dNe (Zj F_crossed (Zc (Zd 2) (Zc (Zj F_following (Zc (Zd 0) (Zc (Zd 1) aNil))) aNil))) (eC (.int 1)))) (Zaf (Zd 1)) sNil)
noncomputable def Zao:Sv:=(Zu (Zc6 (gTp (gCs (gNm 1) (gCs (gNm 2) gNl))) (iEn (Zc (Zd 0) aNil)) ZP)
 (Zaf (eC .non)))
noncomputable def F_unspanned:List D->Sto->Out D:=fnF Zao 1 2
theorem ZbE:FnScope ["rays","at","ray"] ["rays"] (Zh Zar):=⟨rfl,rfl,rfl,by decide +kernel,rfl,by decide +kernel,by decide +kernel⟩
theorem Zey {f:Addr} {fd:FuncData} (F:Fun K "unspanned" "unspanned" Zar f fd) (T:Txt K mg) (C_following:Cal P w K mg base "following" 1 2 F_following) (C_crossed:Cal P w K mg base "crossed" 1 2 F_crossed):FnOk P w K mg base (CXE P w) 101 f fd ["rays"] (spD K F_unspanned):=
 Zak F ZbE rfl rfl fun cdv A outer s H E hr θ=>(Zg (ZeU θ.own (ZeV (hr.hd (by decide)) T.b_enumerate (Zb (Za 0) Zf)) (Zbq (ZC hr (by decide)) (Zx (Zp 1 ZbE.nd) (Zx (Zp 2 ZbE.nd) ZaG)) (hlen:=(ZE (ZE (fun _ _ _ h=>ZaH h))))) (Zi (Zbk (ZO (Zcn hr.units) Zd8 (Zk C_crossed θ (hr.mono (by decide)) (Zb (Za 2) (Zb (Zk C_following θ (hr.mono (by decide)) (Zb (Za 0) (Zb (Za 1) Zf))) Zf))) Ze) (Zi (ZG (Za 1))) Z4)))
  (Zi (ZG Zd6)))
noncomputable abbrev Zad:Stmt:=top 11
noncomputable def Zac:Sv:=(Zu (ZD (gNm 1) (Zj F_unspanned (Zc (Zd 0) aNil)))
 (sIf (tv (e2 dIsNot (Zd 1) (eC .non))) (ZbA (PySem.Str.ofString "NotSmooth") (Zc (eFs (Zc7 (eC (.str (PySem.Str.ofString "ray "))) (Zc7 (eFm (Zd 1)) (Zc7 (eC (.str (PySem.Str.ofString " does not cross the next one in 1"))) jNil)))) aNil)) sNil))
noncomputable def F_ask_smooth:List D->Sto->Out D:=fnF Zac 1 1
theorem Zb9:FnScope ["rays","at"] ["rays"] (Zh Zad):=⟨rfl,rfl,rfl,by decide +kernel,rfl,by decide +kernel,by decide +kernel⟩
theorem ZdN {f:Addr} {fd:FuncData} (F:Fun K "ask_smooth" "ask_smooth" Zad f fd) (T:Txt K mg) (C_unspanned:Cal P w K mg base "unspanned" 101 1 F_unspanned):FnOk P w K mg base (CXE P w) 102 f fd ["rays"] (spD K F_ask_smooth):=
 Zak F Zb9 rfl rfl fun cdv A outer s H E hr θ=>(Zg (Zm 1 Zb9.nd (Zk C_unspanned θ (hr.mono (by decide)) (Zb (Za 0) Zf)))
  (Zi (Zbk (ZO Zhd ZiZ (Za 1) Zd6) (Zi (ZcE θ T.ex_NotSmooth T.gl (hr.hd (by decide)) (Zb (Zql (ZeX Zd7 (ZeX (Zqk (Za 1)) (ZeX Zd7 Znx)))) Zf))) Z4)))
noncomputable abbrev Za3:Stmt:=top 13
noncomputable def Zb6:Sv:=(Zu (ZaJ (Zj F_ask_smooth (Zc (Zd 0) aNil)))
 (Zaf (Za0 (iR1 (Zc (Zj bLen (Zc (Zd 0) aNil)) aNil)) 1 [0] (gNm 0) (fun _ M=> .ok true M) (Zj F_crossed (Zc (Zj F_following (Zc (Zd 1) (Zc (Zd 0) aNil))) (Zc (e2 dIx (Zd 1) (e2 dSub (Zd 0) (eC (.int 1)))) aNil))))))
noncomputable def F_numbers:List D->Sto->Out D:=fnF Zb6 1 0
theorem Zgj:FnScope ["rays"] ["rays"] (Zh Za3):=⟨rfl,rfl,rfl,by decide +kernel,rfl,by decide +kernel,by decide +kernel⟩
theorem Zgk {f:Addr} {fd:FuncData} (F:Fun K "numbers" "numbers" Za3 f fd) (T:Txt K mg) (C_ask_smooth:Cal P w K mg base "ask_smooth" 102 1 F_ask_smooth) (C_following:Cal P w K mg base "following" 1 2 F_following) (C_crossed:Cal P w K mg base "crossed" 1 2 F_crossed):FnOk P w K mg base (CXE P w) 103 f fd ["rays"] (spD K F_numbers):=
 Zak F Zgj rfl rfl fun cdv A outer s H E hr θ=>(Zg (ZaZ (Zk C_ask_smooth θ (hr.mono (by decide)) (Zb (Za 0) Zf)))
  (Zi (ZG (Zby (Zqh (XN:=["rays"]) (dn:=(Zh Za3).names) (N:=["at","rays"]) (k:=1) (fr:=[0]) rfl rfl rfl rfl (by decide +kernel)) (Zec T.b_range (Zb (ZA Zz Zbw T.b_len PySem.boot_len (Zb (Za 0) Zf)) Zf)) (fun _ _ _ _=>(Zp 0 (show List.Nodup (["at","rays"]:List Str) by decide +kernel))) (fun _ _ _ _=>(Or.inl ⟨rfl,rfl⟩)) (fun _ _ _ _=>(Zk C_crossed Zcg (hr.mono (by decide)) (Zb (Zk C_following Zcg (hr.mono (by decide)) (Zb (Za 1) (Zb (Za 0) Zf))) (Zb (ZH (Za 1) (Z5 (Za 0) Ze)) Zf))))))))
noncomputable abbrev ZQ:Stmt:=top 14
noncomputable def ZX:Sv:=(Zu (ZeI 3 4 (Zc (e2 dIx (Zd 1) (Zcm (eC (.int 2)))) (Zc (e2 dIx (Zd 1) (Zcm (eC (.int 1)))) aNil)))
 (ZaJ (ZcF mApp (Zd 1) (Zc (Zal (Zc (e2 dSub (e2 dMul (Zcm (Zd 2)) (e2 dIx (Zd 4) (eC (.int 0)))) (e2 dIx (Zd 3) (eC (.int 0)))) (Zc (e2 dSub (e2 dMul (Zcm (Zd 2)) (e2 dIx (Zd 4) (eC (.int 1)))) (e2 dIx (Zd 3) (eC (.int 1)))) aNil))) aNil))))
noncomputable def Zaz:Sv:=(Zu (ZD (gNm 1) (Zc5 (Zc (Zal (Zc (eC (.int 1)) (Zc (eC (.int 0)) aNil))) (Zc (Zal (Zc (eC (.int 0)) (Zc (eC (.int 1)) aNil))) aNil))))
 (Zu (Zgw (gNm 2) (Zd 0) ZX)
 (Zaf (Zd 1))))
noncomputable def F_gone_through:List D->Sto->Out D:=fnF Zaz 1 4
theorem Zaj:FnScope ["numbers","pairs","number","ahead","pair"] ["numbers"] (Zh ZQ):=⟨rfl,rfl,rfl,by decide +kernel,rfl,by decide +kernel,by decide +kernel⟩
theorem ZcX {f:Addr} {fd:FuncData} (F:Fun K "gone_through" "gone_through" ZQ f fd) (T:Txt K mg):FnOk P w K mg base (CXE P w) 101 f fd ["numbers"] (spD K F_gone_through):=
 Zak F Zaj rfl rfl fun cdv A outer s H E hr θ=>(Zg (Zm 1 Zaj.nd (ZbO (Zb (ZF (Zb Ze (Zb Ze Zf))) (Zb (ZF (Zb Ze (Zb Ze Zf))) Zf))))
  (Zg (Zea θ.own (Za 0) (Zp 2 Zaj.nd) (Zg (Zdg 3 4 (ZC hr (by decide)) Zaj.nd (Zb (ZH (Za 1) (ZaX Ze)) (Zb (ZH (Za 1) (ZaX Ze)) Zf)))
  (Zi (ZaZ (ZaC (Za 1) (ZF (Zb (Z5 (Z1 (ZaX (Za 2)) (ZH (Za 4) Ze)) (ZH (Za 3) Ze)) (Zb (Z5 (Z1 (ZaX (Za 2)) (ZH (Za 4) Ze)) (ZH (Za 3) Ze)) Zf))))))))
  (Zi (ZG (Za 1)))))
noncomputable abbrev ZY:Stmt:=top 15
noncomputable def ZaQ:Sv:=(Zu (sIf (tv (e2 dNe (eSl (Zj F_gone_through (Zc (Zd 0) aNil)) (oSo (Zcm (eC (.int 2)))) oNo) (Zc5 (Zc (Zal (Zc (eC (.int 1)) (Zc (eC (.int 0)) aNil))) (Zc (Zal (Zc (eC (.int 0)) (Zc (eC (.int 1)) aNil))) aNil))))) (Zaf (eC (.int 0))) sNil)
 (Zaf (e2 dDiv (e2 dAdd (Zj (Zch Zf4) (Zc (Zd 0) aNil)) (e2 dMul (eC (.int 3)) (Zj bLen (Zc (Zd 0) aNil)))) (eC (.int 12)))))
noncomputable def F_times_round:List D->Sto->Out D:=fnF ZaQ 1 0
theorem Zc8:FnScope ["numbers"] ["numbers"] (Zh ZY):=⟨rfl,rfl,rfl,by decide +kernel,rfl,by decide +kernel,by decide +kernel⟩
theorem Zc9 {f:Addr} {fd:FuncData} (F:Fun K "times_round" "times_round" ZY f fd) (T:Txt K mg) (C_gone_through:Cal P w K mg base "gone_through" 101 1 F_gone_through):FnOk P w K mg base (CXE P w) 102 f fd ["numbers"] (spD K F_times_round):=
 Zak F Zc8 rfl rfl fun cdv A outer s H E hr θ=>(Zg (Zbk (ZO (Zcn hr.units) Zd8 (ZcN (Zk C_gone_through θ (hr.mono (by decide)) (Zb (Za 0) Zf)) (ZcM (ZaX Ze)) ZcL) (ZbO (Zb (ZF (Zb Ze (Zb Ze Zf))) (Zb (ZF (Zb Ze (Zb Ze Zf))) Zf)))) (Zi (ZG Ze)) Z4)
  (Zi (ZG (ZaW (Zab (ZA (Zhv (ZC hr (by decide))) Zno T.b_sum Znp (Zb (Za 0) Zf)) (Z1 Ze (ZA Zz Zbw T.b_len PySem.boot_len (Zb (Za 0) Zf)))) Ze))))
noncomputable abbrev ZaR:Stmt:=top 16
noncomputable def Zdm:Sv:=(Zu (sIf (tv (e2 dNe (Zj F_times_round (Zc (Zd 0) aNil)) (eC (.int 1)))) (ZbA (PySem.Str.ofString "NoRow") (Zc (eC (.str (PySem.Str.ofString "the row of numbers does not close once"))) aNil)) sNil)
 (Zaf (eSl (Zj F_gone_through (Zc (Zd 0) aNil)) oNo (oSo (Zcm (eC (.int 2)))))))
noncomputable def F_round_by:List D->Sto->Out D:=fnF Zdm 1 0
theorem Zfb:FnScope ["numbers"] ["numbers"] (Zh ZaR):=⟨rfl,rfl,rfl,by decide +kernel,rfl,by decide +kernel,by decide +kernel⟩
theorem Zfc {f:Addr} {fd:FuncData} (F:Fun K "round_by" "round_by" ZaR f fd) (T:Txt K mg) (C_times_round:Cal P w K mg base "times_round" 102 1 F_times_round) (C_gone_through:Cal P w K mg base "gone_through" 101 1 F_gone_through):FnOk P w K mg base (CXE P w) 103 f fd ["numbers"] (spD K F_round_by):=
 Zak F Zfb rfl rfl fun cdv A outer s H E hr θ=>(Zg (Zbk (ZO (Zcn hr.units) Zd8 (Zk C_times_round θ (hr.mono (by decide)) (Zb (Za 0) Zf)) Ze) (Zi (ZcE θ T.ex_NoRow T.gl (hr.hd (by decide)) (Zb Zd7 Zf))) Z4)
  (Zi (ZG (ZcN (Zk C_gone_through θ (hr.mono (by decide)) (Zb (Za 0) Zf)) ZcL (ZcM (ZaX Ze))))))
noncomputable abbrev Zbf:Stmt:=top 18
noncomputable def Za7:Sv:=(Zu (ZD (gNm 5) (e2 dDiv (Zd 1) (Zd 2)))
 (Zu (ZeI 1 2 (Zc (Zd 2) (Zc (e2 dSub (Zd 1) (e2 dMul (Zd 5) (Zd 2))) aNil)))
 (ZeI 3 4 (Zc (Zd 4) (Zc (Zal (Zc (e2 dSub (e2 dIx (Zd 3) (eC (.int 0))) (e2 dMul (Zd 5) (e2 dIx (Zd 4) (eC (.int 0))))) (Zc (e2 dSub (e2 dIx (Zd 3) (eC (.int 1))) (e2 dMul (Zd 5) (e2 dIx (Zd 4) (eC (.int 1))))) aNil))) aNil)))))
noncomputable def Zb7:Sv:=(Zu (ZD (gTp (gCs (gNm 1) (gCs (gNm 2) gNl))) (Zd 0))
 (Zu (ZD (gTp (gCs (gNm 3) (gCs (gNm 4) gNl))) (Zal (Zc (Zal (Zc (eC (.int 0)) (Zc (eC (.int 1)) aNil))) (Zc (Zal (Zc (Zcm (eC (.int 1))) (Zc (eC (.int 0)) aNil))) aNil))))
 (Zu (sWh (tv (e2 dNe (Zd 2) (eC (.int 0)))) Za7)
 (Zaf (Zal (Zc (e2 dMul (Zd 1) (e2 dIx (Zd 3) (eC (.int 0)))) (Zc (e2 dMul (Zd 1) (e2 dIx (Zd 3) (eC (.int 1)))) aNil)))))))
noncomputable def F_partner:List D->Sto->Out D:=fnF Zb7 1 5
theorem Zae:FnScope ["ray","high","low","first","second","many"] ["ray"] (Zh Zbf):=⟨rfl,rfl,rfl,by decide +kernel,rfl,by decide +kernel,by decide +kernel⟩
theorem Zgl {f:Addr} {fd:FuncData} (F:Fun K "partner" "partner" Zbf f fd) (T:Txt K mg):FnOk P w K mg base (CXE P w) 101 f fd ["ray"] (spD K F_partner):=
 Zak F Zae rfl rfl fun cdv A outer s H E hr θ=>(Zg (ZjW (Za 0) (Zbq (ZC hr (by decide)) (Zx (Zp 1 Zae.nd) (Zx (Zp 2 Zae.nd) ZaG)) (hlen:=(ZE (ZE (fun _ _ _ h=>ZaH h))))))
  (Zg (ZjW (ZF (Zb (ZF (Zb Ze (Zb Ze Zf))) (Zb (ZF (Zb (ZaX Ze) (Zb Ze Zf))) Zf))) (Zbq (ZC hr (by decide)) (Zx (Zp 3 Zae.nd) (Zx (Zp 4 Zae.nd) ZaG)) (hlen:=(ZE (ZE (fun _ _ _ h=>ZaH h))))))
  (Zg (Zfr θ.own (ZO (Zcn hr.units) Zd8 (Za 2) Ze) (Zg (Zm 5 Zae.nd (ZaW (Za 1) (Za 2)))
  (Zg (Zdg 1 2 (ZC hr (by decide)) Zae.nd (Zb (Za 2) (Zb (Z5 (Za 1) (Z1 (Za 5) (Za 2))) Zf)))
  (Zi (Zdg 3 4 (ZC hr (by decide)) Zae.nd (Zb (Za 4) (Zb (ZF (Zb (Z5 (ZH (Za 3) Ze) (Z1 (Za 5) (ZH (Za 4) Ze))) (Zb (Z5 (ZH (Za 3) Ze) (Z1 (Za 5) (ZH (Za 4) Ze))) Zf))) Zf)))))))
  (Zi (ZG (ZF (Zb (Z1 (Za 1) (ZH (Za 3) Ze)) (Zb (Z1 (Za 1) (ZH (Za 3) Ze)) Zf))))))))
noncomputable abbrev ZR:Stmt:=top 19
noncomputable def Zay:Sv:=(Zu (ZD (gNm 2) (Zj F_partner (Zc (Zd 0) aNil)))
 (Zu (ZD (gNm 3) (e2 dDiv (Zj F_crossed (Zc (Zd 2) (Zc (Zd 1) aNil))) (Zj F_crossed (Zc (Zd 0) (Zc (Zd 1) aNil)))))
 (Zaf (Zal (Zc (e2 dSub (e2 dIx (Zd 2) (eC (.int 0))) (e2 dMul (Zd 3) (e2 dIx (Zd 0) (eC (.int 0))))) (Zc (e2 dSub (e2 dIx (Zd 2) (eC (.int 1))) (e2 dMul (Zd 3) (e2 dIx (Zd 0) (eC (.int 1))))) aNil))))))
noncomputable def F_first_behind:List D->Sto->Out D:=fnF Zay 2 2
theorem Za4:FnScope ["u","v","w","many"] ["u","v"] (Zh ZR):=⟨rfl,rfl,rfl,by decide +kernel,rfl,by decide +kernel,by decide +kernel⟩
theorem ZcY {f:Addr} {fd:FuncData} (F:Fun K "first_behind" "first_behind" ZR f fd) (T:Txt K mg) (C_partner:Cal P w K mg base "partner" 101 1 F_partner) (C_crossed:Cal P w K mg base "crossed" 1 2 F_crossed):FnOk P w K mg base (CXE P w) 102 f fd ["u","v"] (spD K F_first_behind):=
 Zak F Za4 rfl rfl fun cdv A outer s H E hr θ=>(Zg (Zm 2 Za4.nd (Zk C_partner θ (hr.mono (by decide)) (Zb (Za 0) Zf)))
  (Zg (Zm 3 Za4.nd (ZaW (Zk C_crossed θ (hr.mono (by decide)) (Zb (Za 2) (Zb (Za 1) Zf))) (Zk C_crossed θ (hr.mono (by decide)) (Zb (Za 0) (Zb (Za 1) Zf)))))
  (Zi (ZG (ZF (Zb (Z5 (ZH (Za 2) Ze) (Z1 (Za 3) (ZH (Za 0) Ze))) (Zb (Z5 (ZH (Za 2) Ze) (Z1 (Za 3) (ZH (Za 0) Ze))) Zf)))))))
noncomputable abbrev ZaS:Stmt:=top 20
noncomputable def ZaO:Sv:=(Zu (ZD (gNm 3) (Zcm (e2 dDiv (Zcm (Zd 0)) (Zd 1))))
 (Zu (ZaJ (ZcF mApp (Zd 2) (Zc (Zd 3) aNil)))
 (ZeI 0 1 (Zc (Zd 1) (Zc (e2 dSub (e2 dMul (Zd 3) (Zd 1)) (Zd 0)) aNil)))))
noncomputable def ZbJ:Sv:=(Zu (ZD (gNm 2) (Zc5 aNil))
 (Zu (sWh (tv (e2 dNe (Zd 1) (eC (.int 0)))) ZaO)
 (Zaf (Zd 2))))
noncomputable def F_expanded:List D->Sto->Out D:=fnF ZbJ 2 2
theorem Zbp:FnScope ["top","bottom","numbers","number"] ["top","bottom"] (Zh ZaS):=⟨rfl,rfl,rfl,by decide +kernel,rfl,by decide +kernel,by decide +kernel⟩
theorem Zfd {f:Addr} {fd:FuncData} (F:Fun K "expanded" "expanded" ZaS f fd) (T:Txt K mg):FnOk P w K mg base (CXE P w) 101 f fd ["top","bottom"] (spD K F_expanded):=
 Zak F Zbp rfl rfl fun cdv A outer s H E hr θ=>(Zg (Zm 2 Zbp.nd (ZbO Zf))
  (Zg (Zfr θ.own (ZO (Zcn hr.units) Zd8 (Za 1) Ze) (Zg (Zm 3 Zbp.nd (ZaX (ZaW (ZaX (Za 0)) (Za 1))))
  (Zg (ZaZ (ZaC (Za 2) (Za 3)))
  (Zi (Zdg 0 1 (ZC hr (by decide)) Zbp.nd (Zb (Za 1) (Zb (Z5 (Z1 (Za 3) (Za 1)) (Za 0)) Zf)))))))
  (Zi (ZG (Za 2)))))
noncomputable abbrev Zgm:Stmt:=top 21
noncomputable def Zjy:Sv:=(Zu (sIf (tv (e2 dLe (Zj F_crossed (Zc (Zd 0) (Zc (Zd 1) aNil))) (eC (.int 0)))) (ZbA (PySem.Str.ofString "NoWedge") (Zc (eC (.str (PySem.Str.ofString "the two rays of a wedge, crossed, come to more than 0"))) aNil)) sNil)
 (Zaf (Zj F_expanded (Zc (Zj F_crossed (Zc (Zd 0) (Zc (Zd 1) aNil))) (Zc (Zj F_crossed (Zc (Zj F_first_behind (Zc (Zd 0) (Zc (Zd 1) aNil))) (Zc (Zd 1) aNil))) aNil)))))
noncomputable def F_row:List D->Sto->Out D:=fnF Zjy 2 0
theorem Zpp:FnScope ["u","v"] ["u","v"] (Zh Zgm):=⟨rfl,rfl,rfl,by decide +kernel,rfl,by decide +kernel,by decide +kernel⟩
theorem Zpq {f:Addr} {fd:FuncData} (F:Fun K "row" "row" Zgm f fd) (T:Txt K mg) (C_crossed:Cal P w K mg base "crossed" 1 2 F_crossed) (C_first_behind:Cal P w K mg base "first_behind" 102 2 F_first_behind) (C_expanded:Cal P w K mg base "expanded" 101 2 F_expanded):FnOk P w K mg base (CXE P w) 103 f fd ["u","v"] (spD K F_row):=
 Zak F Zpp rfl rfl fun cdv A outer s H E hr θ=>(Zg (Zbk (ZO ZkH Zk1 (Zk C_crossed θ (hr.mono (by decide)) (Zb (Za 0) (Zb (Za 1) Zf))) Ze) (Zi (ZcE θ T.ex_NoWedge T.gl (hr.hd (by decide)) (Zb Zd7 Zf))) Z4)
  (Zi (ZG (Zk C_expanded θ (hr.mono (by decide)) (Zb (Zk C_crossed θ (hr.mono (by decide)) (Zb (Za 0) (Zb (Za 1) Zf))) (Zb (Zk C_crossed θ (hr.mono (by decide)) (Zb (Zk C_first_behind θ (hr.mono (by decide)) (Zb (Za 0) (Zb (Za 1) Zf))) (Zb (Za 1) Zf))) Zf))))))
noncomputable abbrev Zbg:Stmt:=top 22
noncomputable def Za8:Sv:=(Zu (ZaJ (ZcF mApp (Zd 3) (Zc (Zd 5) aNil)))
 (ZeI 4 5 (Zc (Zd 5) (Zc (Zal (Zc (e2 dSub (e2 dMul (Zd 6) (e2 dIx (Zd 5) (eC (.int 0)))) (e2 dIx (Zd 4) (eC (.int 0)))) (Zc (e2 dSub (e2 dMul (Zd 6) (e2 dIx (Zd 5) (eC (.int 1)))) (e2 dIx (Zd 4) (eC (.int 1)))) aNil))) aNil))))
noncomputable def Zb8:Sv:=(Zu (ZD (gNm 2) (Zj F_row (Zc (Zd 0) (Zc (Zd 1) aNil))))
 (Zu (ZD (gNm 3) (Zc5 aNil))
 (Zu (ZeI 4 5 (Zc (Zd 0) (Zc (Zj F_first_behind (Zc (Zd 0) (Zc (Zd 1) aNil))) aNil)))
 (Zu (Zgw (gNm 6) (Zd 2) Za8)
 (Zaf (Zd 3))))))
noncomputable def F_between:List D->Sto->Out D:=fnF Zb8 2 5
theorem ZaT:FnScope ["u","v","numbers","rays","ahead","ray","number"] ["u","v"] (Zh Zbg):=⟨rfl,rfl,rfl,by decide +kernel,rfl,by decide +kernel,by decide +kernel⟩
theorem Zgn {f:Addr} {fd:FuncData} (F:Fun K "between" "between" Zbg f fd) (T:Txt K mg) (C_row:Cal P w K mg base "row" 103 2 F_row) (C_first_behind:Cal P w K mg base "first_behind" 102 2 F_first_behind):FnOk P w K mg base (CXE P w) 104 f fd ["u","v"] (spD K F_between):=
 Zak F ZaT rfl rfl fun cdv A outer s H E hr θ=>(Zg (Zm 2 ZaT.nd (Zk C_row θ (hr.mono (by decide)) (Zb (Za 0) (Zb (Za 1) Zf))))
  (Zg (Zm 3 ZaT.nd (ZbO Zf))
  (Zg (Zdg 4 5 (ZC hr (by decide)) ZaT.nd (Zb (Za 0) (Zb (Zk C_first_behind θ (hr.mono (by decide)) (Zb (Za 0) (Zb (Za 1) Zf))) Zf)))
  (Zg (Zea θ.own (Za 2) (Zp 6 ZaT.nd) (Zg (ZaZ (ZaC (Za 3) (Za 5)))
  (Zi (Zdg 4 5 (ZC hr (by decide)) ZaT.nd (Zb (Za 5) (Zb (ZF (Zb (Z5 (Z1 (Za 6) (ZH (Za 5) Ze)) (ZH (Za 4) Ze)) (Zb (Z5 (Z1 (Za 6) (ZH (Za 5) Ze)) (ZH (Za 4) Ze)) Zf))) Zf))))))
  (Zi (ZG (Za 3)))))))
noncomputable abbrev ZZ:Stmt:=top 24
noncomputable def Z8:Sv:=(Zu (ZaJ (ZcF mApp (Zd 1) (Zc (Zd 3) aNil)))
 (ZaJ (ZcF mExt (Zd 1) (Zc (Zj F_between (Zc (Zd 3) (Zc (Zj F_following (Zc (Zd 0) (Zc (Zd 2) aNil))) aNil))) aNil))))
noncomputable def ZaP:Sv:=(Zu (ZD (gNm 1) (Zc5 aNil))
 (Zu (Zc6 (gTp (gCs (gNm 2) (gCs (gNm 3) gNl))) (iEn (Zc (Zd 0) aNil)) Z8)
 (Zaf (Zd 1))))
noncomputable def F_least_round:List D->Sto->Out D:=fnF ZaP 1 3
theorem ZaA:FnScope ["rays","least","at","ray"] ["rays"] (Zh ZZ):=⟨rfl,rfl,rfl,by decide +kernel,rfl,by decide +kernel,by decide +kernel⟩
theorem Zda {f:Addr} {fd:FuncData} (F:Fun K "least_round" "least_round" ZZ f fd) (T:Txt K mg) (C_following:Cal P w K mg base "following" 1 2 F_following) (C_between:Cal P w K mg base "between" 104 2 F_between):FnOk P w K mg base (CXE P w) 105 f fd ["rays"] (spD K F_least_round):=
 Zak F ZaA rfl rfl fun cdv A outer s H E hr θ=>(Zg (Zm 1 ZaA.nd (ZbO Zf))
  (Zg (ZeU θ.own (ZeV (hr.hd (by decide)) T.b_enumerate (Zb (Za 0) Zf)) (Zbq (ZC hr (by decide)) (Zx (Zp 2 ZaA.nd) (Zx (Zp 3 ZaA.nd) ZaG)) (hlen:=(ZE (ZE (fun _ _ _ h=>ZaH h))))) (Zg (ZaZ (ZaC (Za 1) (Za 3)))
  (Zi (ZaZ (Zle PySem.F.slot_list_extend PySem.F.type_list_extend ZgU Zne (Za 1) (Zb (Zk C_between θ (hr.mono (by decide)) (Zb (Za 3) (Zb (Zk C_following θ (hr.mono (by decide)) (Zb (Za 0) (Zb (Za 2) Zf))) Zf))) Zf))))))
  (Zi (ZG (Za 1)))))
noncomputable abbrev ZV:Stmt:=top 26
noncomputable def Za9:Sv:=(Zu (ZD (gNm 2) (Zdj (iSq (Zd 0)) 1 [] (gNm 0) (fun _ M=> .ok true M) (Zd 0) (eC (.bl true))))
 (Zaf (Za0 (iZp (Zc (Zj F_numbers (Zc (Zd 1) aNil)) (Zc (Zd 1) aNil))) 2 [2] (gTp (gCs (gNm 0) (gCs (gNm 1) gNl))) (fun _ M=> .ok true M) (Zal (Zc (Zd 0) (Zc (eIf (tv (e2 (Zli false) (Zd 1) (Zd 2))) (eC (.int 1)) (eC (.int 0))) aNil))))))
noncomputable def F_marked_row:List D->Sto->Out D:=fnF Za9 2 1
theorem Zca:FnScope ["rays","least","own"] ["rays","least"] (Zh ZV):=⟨rfl,rfl,rfl,by decide +kernel,rfl,by decide +kernel,by decide +kernel⟩
theorem ZdO {f:Addr} {fd:FuncData} (F:Fun K "marked_row" "marked_row" ZV f fd) (T:Txt K mg) (C_numbers:Cal P w K mg base "numbers" 103 1 F_numbers):FnOk P w K mg base (CXE P w) 104 f fd ["rays","least"] (spD K F_marked_row):=
 Zak F Zca rfl rfl fun cdv A outer s H E hr θ=>(Zg (Zm 2 Zca.nd (Zjh hr.units (Zk8 (N:=["ray"]) (k:=1) (by decide +kernel) rfl (by decide +kernel) rfl) (Zdh (Za 0)) (fun _ _ _ _=>(Zp 0 (show List.Nodup (["ray"]:List Str) by decide +kernel))) (fun _ _ _ _=>(Or.inl ⟨rfl,rfl⟩)) (fun _ _ _ _=>(Za 0)) (fun _ _ _ _=>ZkX)))
  (Zi (ZG (Zby (Zqh (XN:=["rays","least","own"]) (dn:=(Zh ZV).names) (N:=["number","ray","own"]) (k:=2) (fr:=[2]) rfl rfl rfl rfl (by decide +kernel)) (Znj (hr.hd (by decide)) T.b_zip (Zb (Zk C_numbers θ (hr.mono (by decide)) (Zb (Za 1) Zf)) (Zb (Za 1) Zf))) (fun _ _ _ _=>(Zbq (ZC hr (by decide)) (Zx (Zp 0 (show List.Nodup (["number","ray","own"]:List Str) by decide +kernel)) (Zx (Zp 1 (show List.Nodup (["number","ray","own"]:List Str) by decide +kernel)) ZaG)) (hlen:=(ZE (ZE (fun _ _ _ h=>ZaH h)))))) (fun _ _ _ _=>(Or.inl ⟨rfl,rfl⟩)) (fun _ _ _ _=>(ZF (Zb (Za 0) (Zb (Zqa (ZO (Zns hr.units) Znt (Za 1) (Za 2)) Ze Ze) Zf))))))))
noncomputable abbrev ZM:Stmt:=top 27
noncomputable def ZB:Sv:=(sIf (ZiW (tv (e2 dIs (Zd 3) (eC .non))) (tv (e2 dLtL (Zd 9) (Zd 3)))) (Zu (ZD (gNm 3) (Zd 9))
 (ZD (gNm 4) (Zal (Zc (Zd 6) (Zc (Zd 10) aNil))))) sNil)
noncomputable def ZT:Sv:=(Zu (ZD (gNm 7) (e2 dAdd (eSl (Zd 2) (oSo (Zd 5)) oNo) (eSl (Zd 2) oNo (oSo (Zd 5)))))
 (Zu (ZD (gNm 8) (e2 dAdd (eSl (Zd 7) oNo (oSo (eC (.int 1)))) (eR0 (Zd 7))))
 (Zgw (gTp (gCs (gNm 9) (gCs (gNm 10) gNl))) (Zc5 (Zc (Zal (Zc (Zd 7) (Zc (Zj F_following (Zc (Zd 1) (Zc (Zd 5) aNil))) aNil))) (Zc (Zal (Zc (Zd 8) (Zc (e2 dIx (Zd 1) (e2 dSub (Zd 5) (eC (.int 1)))) aNil))) aNil))) ZB)))
noncomputable def Zai:Sv:=(Zu (ZD (gNm 1) (Zj F_least_round (Zc (Zd 0) aNil)))
 (Zu (ZD (gNm 2) (Zj F_marked_row (Zc (Zd 0) (Zc (Zd 1) aNil))))
 (Zu (ZD (gNm 3) (eC .non))
 (Zu (ZD (gNm 4) (eC .non))
 (Zu (Zc6 (gTp (gCs (gNm 5) (gCs (gNm 6) gNl))) (iEn (Zc (Zd 1) aNil)) ZT)
 (Zaf (Zal (Zc (Zd 3) (Zc (Zd 4) aNil)))))))))
noncomputable def F_first_reading:List D->Sto->Out D:=fnF Zai 1 10
theorem Zl:FnScope ["rays","least","marked","best","two","at","ray","onward","backward","reading","beside"] ["rays"] (Zh ZM):=⟨rfl,rfl,rfl,by decide +kernel,rfl,by decide +kernel,by decide +kernel⟩
theorem Zcy {f:Addr} {fd:FuncData} (F:Fun K "first_reading" "first_reading" ZM f fd) (T:Txt K mg) (C_least_round:Cal P w K mg base "least_round" 105 1 F_least_round) (C_marked_row:Cal P w K mg base "marked_row" 104 2 F_marked_row) (C_following:Cal P w K mg base "following" 1 2 F_following):FnOk P w K mg base (CXE P w) 106 f fd ["rays"] (spD K F_first_reading):=
 Zak F Zl rfl rfl fun cdv A outer s H E hr θ=>(Zg (Zm 1 Zl.nd (Zk C_least_round θ (hr.mono (by decide)) (Zb (Za 0) Zf)))
  (Zg (Zm 2 Zl.nd (Zk C_marked_row θ (hr.mono (by decide)) (Zb (Za 0) (Zb (Za 1) Zf))))
  (Zg (Zm 3 Zl.nd Zd6)
  (Zg (Zm 4 Zl.nd Zd6)
  (Zg (ZeU θ.own (ZeV (hr.hd (by decide)) T.b_enumerate (Zb (Za 1) Zf)) (Zbq (ZC hr (by decide)) (Zx (Zp 5 Zl.nd) (Zx (Zp 6 Zl.nd) ZaG)) (hlen:=(ZE (ZE (fun _ _ _ h=>ZaH h))))) (Zg (Zm 7 Zl.nd (Zab (ZcN (Za 2) (ZcM (Za 5)) ZcL) (ZcN (Za 2) ZcL (ZcM (Za 5)))))
  (Zg (Zm 8 Zl.nd (Zab (ZcN (Za 7) ZcL (ZcM Ze)) (Zqr (Za 7))))
  (Zi (Zea θ.own (ZbO (Zb (ZF (Zb (Za 7) (Zb (Zk C_following θ (hr.mono (by decide)) (Zb (Za 1) (Zb (Za 5) Zf))) Zf))) (Zb (ZF (Zb (Za 8) (Zb (ZH (Za 1) (Z5 (Za 5) Ze)) Zf))) Zf))) (Zbq (ZC hr (by decide)) (Zx (Zp 9 Zl.nd) (Zx (Zp 10 Zl.nd) ZaG)) (hlen:=(ZE (ZE (fun _ _ _ h=>ZaH h))))) (Zi (Zbk (ZpJ (Zg8 (ZO Zm2 Zqe (Za 3) Zd6) (Zg7 (ZO (Znz hr.units) ZnA (Za 9) (Za 3))))) (Zg (Zm 3 Zl.nd (Za 9))
  (Zi (Zm 4 Zl.nd (ZF (Zb (Za 6) (Zb (Za 10) Zf)))))) Z4)))))))
  (Zi (ZG (ZF (Zb (Za 3) (Zb (Za 4) Zf))))))))))
noncomputable abbrev Zas:Stmt:=top 28
noncomputable def Zbo:Sv:=(Zaf (e2 dIx (Zj F_first_reading (Zc (Zd 0) aNil)) (eC (.int 0))))
noncomputable def F_least_row:List D->Sto->Out D:=fnF Zbo 1 0
theorem Zez:FnScope ["rays"] ["rays"] (Zh Zas):=⟨rfl,rfl,rfl,by decide +kernel,rfl,by decide +kernel,by decide +kernel⟩
theorem ZeA {f:Addr} {fd:FuncData} (F:Fun K "least_row" "least_row" Zas f fd) (T:Txt K mg) (C_first_reading:Cal P w K mg base "first_reading" 106 1 F_first_reading):FnOk P w K mg base (CXE P w) 107 f fd ["rays"] (spD K F_least_row):=
 Zak F Zez rfl rfl fun cdv A outer s H E hr θ=>(Zi (ZG (ZH (Zk C_first_reading θ (hr.mono (by decide)) (Zb (Za 0) Zf)) Ze)))
noncomputable abbrev Zbh:Stmt:=top 31
noncomputable def ZeB:Sv:=(sIf (tv (e2 dLt (Zj (Zch List.min?) (Zc (Zj F_numbers (Zc (Zd 0) aNil)) aNil)) (Zcm (eC (.int 2))))) (ZbA (PySem.Str.ofString "NoOne") (Zc (eC (.str (PySem.Str.ofString "a one has no number below -2"))) aNil)) sNil)
noncomputable def F_ask_one:List D->Sto->Out D:=fnF ZeB 1 0
theorem Zgo:FnScope ["rays"] ["rays"] (Zh Zbh):=⟨rfl,rfl,rfl,by decide +kernel,rfl,by decide +kernel,by decide +kernel⟩
theorem Zgp {f:Addr} {fd:FuncData} (F:Fun K "ask_one" "ask_one" Zbh f fd) (T:Txt K mg) (C_numbers:Cal P w K mg base "numbers" 103 1 F_numbers):FnOk P w K mg base (CXE P w) 104 f fd ["rays"] (spD K F_ask_one):=
 Zak F Zgo rfl rfl fun cdv A outer s H E hr θ=>(Zi (Zbk (ZO ZgK Zg9 (ZA (Zef (ZC hr (by decide))) Zhx T.b_min Zft (Zb (Zk C_numbers θ (hr.mono (by decide)) (Zb (Za 0) Zf)) Zf)) (ZaX Ze)) (Zi (ZcE θ T.ex_NoOne T.gl (hr.hd (by decide)) (Zb Zd7 Zf))) Z4))
noncomputable abbrev Zbi:Stmt:=top 32
noncomputable def ZeC:Sv:=(Zaf (Za0 (iSq (eC (ZnH Za2))) 1 [] (gNm 0) (fun _ M=> .ok true M) (Zj F_round_by (Zc (Zj bList (Zc (Zd 0) aNil)) aNil))))
noncomputable def F_sixteen:List D->Sto->Out D:=fnF ZeC 0 0
theorem Zgq:FnScope [] [] (Zh Zbi):=⟨rfl,rfl,rfl,by decide +kernel,rfl,by decide +kernel,by decide +kernel⟩
theorem Zgr {f:Addr} {fd:FuncData} (F:Fun K "sixteen" "sixteen" Zbi f fd) (T:Txt K mg) (C_round_by:Cal P w K mg base "round_by" 103 1 F_round_by):FnOk P w K mg base (CXE P w) 104 f fd [] (spD K F_sixteen):=
 Zak F Zgq rfl rfl fun cdv A outer s H E hr θ=>(Zi (ZG (Zby (Zk8 (N:=["row"]) (k:=1) (by decide +kernel) rfl (by decide +kernel) rfl) (Zdh (Zj6 T.co_ROWS T.gl)) (fun _ _ _ _=>(Zp 0 (show List.Nodup (["row"]:List Str) by decide +kernel))) (fun _ _ _ _=>(Or.inl ⟨rfl,rfl⟩)) (fun _ _ _ _=>(Zk C_round_by Zcg (hr.mono (by decide)) (Zb (ZbZ Zbv ZeQ T.b_list Zdw (Zb (Za 0) Zf)) Zf))))))
noncomputable abbrev Zbj:Stmt:=top 33
noncomputable def ZeD:Sv:=(Zu (ZaJ (Zj F_ask_one (Zc (Zd 0) aNil)))
 (Zaf (Zqu ZcT (eC (ZnH Za2)) (Zc (Zj bTup (Zc (Za0 (iSq (Zj F_least_row (Zc (Zd 0) aNil))) 2 [] (gTp (gCs (gNm 0) (gCs (gNm 1) gNl))) (fun _ M=> .ok true M) (Zd 0)) aNil)) aNil))))
noncomputable def F_kind_of:List D->Sto->Out D:=fnF ZeD 1 0
theorem Zgs:FnScope ["rays"] ["rays"] (Zh Zbj):=⟨rfl,rfl,rfl,by decide +kernel,rfl,by decide +kernel,by decide +kernel⟩
theorem Zgt {f:Addr} {fd:FuncData} (F:Fun K "kind_of" "kind_of" Zbj f fd) (T:Txt K mg) (C_ask_one:Cal P w K mg base "ask_one" 104 1 F_ask_one) (C_least_row:Cal P w K mg base "least_row" 107 1 F_least_row):FnOk P w K mg base (CXE P w) 108 f fd ["rays"] (spD K F_kind_of):=
 Zak F Zgs rfl rfl fun cdv A outer s H E hr θ=>(Zg (ZaZ (Zk C_ask_one θ (hr.mono (by decide)) (Zb (Za 0) Zf)))
  (Zi (ZG (Zlo hr.units (Zj6 T.co_ROWS T.gl) (ZbZ Zdt Znf T.b_tuple Zi6 (Zb (Zby (Zk8 (N:=["number","mark"]) (k:=2) (by decide +kernel) rfl (by decide +kernel) rfl) (Zdh (Zk C_least_row θ (hr.mono (by decide)) (Zb (Za 0) Zf))) (fun _ _ _ _=>(Zbq (ZC hr (by decide)) (Zx (Zp 0 (show List.Nodup (["number","mark"]:List Str) by decide +kernel)) (Zx (Zp 1 (show List.Nodup (["number","mark"]:List Str) by decide +kernel)) ZaG)) (hlen:=(ZE (ZE (fun _ _ _ h=>ZaH h)))))) (fun _ _ _ _=>(Or.inl ⟨rfl,rfl⟩)) (fun _ _ _ _=>(Za 0))) Zf))))))
noncomputable abbrev Z0:Stmt:=top 35
noncomputable def ZaL:Sv:=(Zu (ZD (gNm 2) (eC (.int 0)))
 (Zu (sIf (tv (e2 dLt (Zd 1) (Zj bLen (Zc (Zd 0) aNil)))) (ZD (gNm 2) (e2 dMod (e2 dIx (Zd 0) (Zd 1)) (e2 dPow (eC (.int 10)) (eC (.int 60))))) sNil)
 (Zu (sIf (tv (e2 dLt (Zd 2) (e2 dPow (eC (.int 10)) (eC (.int 18))))) (Zu (ZD (gNm 3) (e2 dMod (e2 dMul (e2 dAdd (Zd 2) (e2 dMul (eC (.int 1442695040888963407)) (e2 dAdd (Zd 1) (eC (.int 1))))) (eC (.int 6364136223846793005))) (e2 dPow (eC (.int 10)) (eC (.int 37)))))
 (ZD (gNm 2) (e2 dMod (e2 dDiv (e2 dMul (Zd 3) (Zd 3)) (e2 dPow (eC (.int 10)) (eC (.int 17)))) (e2 dPow (eC (.int 10)) (eC (.int 56)))))) sNil)
 (Zaf (Zd 2)))))
noncomputable def F_law_cell_at:List D->Sto->Out D:=fnF ZaL 2 2
theorem Z7:FnScope ["_law_script","_law_k","_law_cell","_law_one"] ["_law_script","_law_k"] (Zh Z0):=⟨rfl,rfl,rfl,by decide +kernel,rfl,by decide +kernel,by decide +kernel⟩
theorem Zdb {f:Addr} {fd:FuncData} (F:Fun K "_law_cell_at" "_law_cell_at" Z0 f fd) (T:Txt K mg):FnOk P w K mg base (CXE P w) 1 f fd ["_law_script","_law_k"] (spD K F_law_cell_at):=
 Zak F Z7 rfl rfl fun cdv A outer s H E hr θ=>(Zg (Zm 2 Z7.nd Ze)
  (Zg (Zbk (ZO ZgK Zg9 (Za 1) (ZA Zz Zbw T.b_len PySem.boot_len (Zb (Za 0) Zf))) (Zi (Zm 2 Z7.nd (ZaB (ZH (Za 0) (Za 1)) (Zde Ze Ze)))) Z4)
  (Zg (Zbk (ZO ZgK Zg9 (Za 2) (Zde Ze Ze)) (Zg (Zm 3 Z7.nd (ZaB (Z1 (Zab (Za 2) (Z1 Ze (Zab (Za 1) Ze))) Ze) (Zde Ze Ze)))
  (Zi (Zm 2 Z7.nd (ZaB (ZaW (Z1 (Za 3) (Za 3)) (Zde Ze Ze)) (Zde Ze Ze))))) Z4)
  (Zi (ZG (Za 2))))))
noncomputable abbrev Zat:Stmt:=top 36
noncomputable def ZbV:Sv:=(Zaf (e2 dSub (e2 dMul (e2 dIx (Zd 0) (eC (.int 0))) (e2 dIx (Zd 1) (eC (.int 1)))) (e2 dMul (e2 dIx (Zd 0) (eC (.int 1))) (e2 dIx (Zd 1) (eC (.int 0))))))
noncomputable def F_law_cross:List D->Sto->Out D:=fnF ZbV 2 0
theorem ZeE:FnScope ["_law_one","_law_other"] ["_law_one","_law_other"] (Zh Zat):=⟨rfl,rfl,rfl,by decide +kernel,rfl,by decide +kernel,by decide +kernel⟩
theorem ZeF {f:Addr} {fd:FuncData} (F:Fun K "_law_cross" "_law_cross" Zat f fd) (T:Txt K mg):FnOk P w K mg base (CXE P w) 1 f fd ["_law_one","_law_other"] (spD K F_law_cross):=
 Zak F ZeE rfl rfl fun cdv A outer s H E hr θ=>(Zi (ZG (Z5 (Z1 (ZH (Za 0) Ze) (ZH (Za 1) Ze)) (Z1 (ZH (Za 0) Ze) (ZH (Za 1) Ze)))))
noncomputable abbrev ZaU:Stmt:=top 37
noncomputable def ZaM:Sv:=(sIf (tv (e2 dEq (Zd 4) (eC (.int 0)))) (ZaJ (ZcF mApp (Zd 5) (Zc (Zal (Zc (e2 dAdd (Zd 6) (e2 dMul (Zd 3) (Zd 7))) (Zc (Zd 7) aNil))) aNil))) (sIf (tv (e2 dEq (Zd 4) (eC (.int 1)))) (ZaJ (ZcF mApp (Zd 5) (Zc (Zal (Zc (Zd 6) (Zc (e2 dAdd (Zd 7) (e2 dMul (Zd 3) (Zd 6))) aNil))) aNil))) (sIf (tv (e2 dEq (Zd 4) (eC (.int 2)))) (ZaJ (ZcF mApp (Zd 5) (Zc (Zal (Zc (e2 dSub (eC (.int 0)) (Zd 7)) (Zc (Zd 6) aNil))) aNil))) (ZaJ (ZcF mApp (Zd 5) (Zc (Zal (Zc (Zd 6) (Zc (Zd 7) aNil))) aNil))))))
noncomputable def ZaN:Sv:=(Zu (ZD (gNm 3) (e2 dSub (e2 dMod (e2 dDiv (Zd 1) (eC (.int 4))) (eC (.int 5))) (eC (.int 2))))
 (Zu (sIf (tv (e2 dEq (e2 dMod (e2 dDiv (Zd 1) (eC (.int 20))) (eC (.int 8))) (eC (.int 0)))) (ZD (gNm 3) (e2 dSub (e2 dMod (e2 dDiv (Zd 1) (eC (.int 160))) (eC (.int 19))) (eC (.int 9)))) sNil)
 (Zu (ZD (gNm 4) (e2 dMod (Zd 1) (eC (.int 4))))
 (Zu (ZD (gNm 1) (e2 dDiv (Zd 1) (eC (.int 3040))))
 (Zu (ZD (gNm 5) (Zc5 aNil))
 (Zu (Zgw (gTp (gCs (gNm 6) (gCs (gNm 7) gNl))) (Zd 0) ZaM)
 (sIf (tv (e2 dLe (Zj (Zch List.max?) (Zc (e2 dAdd (Za0 (iSq (Zd 5)) 2 [] (gTp (gCs (gNm 0) (gCs (gNm 1) gNl))) (fun _ M=> .ok true M) (Zj bAbs (Zc (Zd 0) aNil))) (Za0 (iSq (Zd 5)) 2 [] (gTp (gCs (gNm 0) (gCs (gNm 1) gNl))) (fun _ M=> .ok true M) (Zj bAbs (Zc (Zd 1) aNil)))) aNil)) (eC (.int 200)))) (ZD (gNm 0) (Zd 5)) sNil)))))))
noncomputable def ZbH:Sv:=(Zu (Zb0 (gNm 2) (Zc (eC (.int 3)) aNil) ZaN)
 (Zaf (Zd 0)))
noncomputable def F_law_turn:List D->Sto->Out D:=fnF ZbH 2 6
theorem ZI:FnScope ["_law_rays","_law_cell","_law_k","_law_much","_law_way","_law_new","_law_x","_law_y"] ["_law_rays","_law_cell"] (Zh ZaU):=⟨rfl,rfl,rfl,by decide +kernel,rfl,by decide +kernel,by decide +kernel⟩
theorem Zfe {f:Addr} {fd:FuncData} (F:Fun K "_law_turn" "_law_turn" ZaU f fd) (T:Txt K mg):FnOk P w K mg base (CXE P w) 101 f fd ["_law_rays","_law_cell"] (spD K F_law_turn):=
 Zak F ZI rfl rfl fun cdv A outer s H E hr θ=>(Zg (ZcD θ.own T.b_range (Zb Ze Zf) (Zp 2 ZI.nd) (Zg (Zm 3 ZI.nd (Z5 (ZaB (ZaW (Za 1) Ze) Ze) Ze))
  (Zg (Zbk (ZO (Zdf hr.units) Zf2 (ZaB (ZaW (Za 1) Ze) Ze) Ze) (Zi (Zm 3 ZI.nd (Z5 (ZaB (ZaW (Za 1) Ze) Ze) Ze))) Z4)
  (Zg (Zm 4 ZI.nd (ZaB (Za 1) Ze))
  (Zg (Zm 1 ZI.nd (ZaW (Za 1) Ze))
  (Zg (Zm 5 ZI.nd (ZbO Zf))
  (Zg (Zea θ.own (Za 0) (Zbq (ZC hr (by decide)) (Zx (Zp 6 ZI.nd) (Zx (Zp 7 ZI.nd) ZaG)) (hlen:=(ZE (ZE (fun _ _ _ h=>ZaH h))))) (Zi (Zbk (ZO (Zdf hr.units) Zf2 (Za 4) Ze) (Zi (ZaZ (ZaC (Za 5) (ZF (Zb (Zab (Za 6) (Z1 (Za 3) (Za 7))) (Zb (Za 7) Zf)))))) (Zi (Zbk (ZO (Zdf hr.units) Zf2 (Za 4) Ze) (Zi (ZaZ (ZaC (Za 5) (ZF (Zb (Za 6) (Zb (Zab (Za 7) (Z1 (Za 3) (Za 6))) Zf)))))) (Zi (Zbk (ZO (Zdf hr.units) Zf2 (Za 4) Ze) (Zi (ZaZ (ZaC (Za 5) (ZF (Zb (Z5 Ze (Za 7)) (Zb (Za 6) Zf)))))) (Zi (ZaZ (ZaC (Za 5) (ZF (Zb (Za 6) (Zb (Za 7) Zf)))))))))))))
  (Zi (Zbk (ZO ZkH Zk1 (ZA (Zhw (ZC hr (by decide))) Zlg T.b_max Zj0 (Zb (Zab (Zby (Zk8 (N:=["_law_x","_law_y"]) (k:=2) (by decide +kernel) rfl (by decide +kernel) rfl) (Zdh (Za 5)) (fun _ _ _ _=>(Zbq (ZC hr (by decide)) (Zx (Zp 0 (show List.Nodup (["_law_x","_law_y"]:List Str) by decide +kernel)) (Zx (Zp 1 (show List.Nodup (["_law_x","_law_y"]:List Str) by decide +kernel)) ZaG)) (hlen:=(ZE (ZE (fun _ _ _ h=>ZaH h)))))) (fun _ _ _ _=>(Or.inl ⟨rfl,rfl⟩)) (fun _ _ _ _=>(ZA Zfj ZjS T.b_abs ZjZ (Zb (Za 0) Zf)))) (Zby (Zk8 (N:=["_law_x","_law_y"]) (k:=2) (by decide +kernel) rfl (by decide +kernel) rfl) (Zdh (Za 5)) (fun _ _ _ _=>(Zbq (ZC hr (by decide)) (Zx (Zp 0 (show List.Nodup (["_law_x","_law_y"]:List Str) by decide +kernel)) (Zx (Zp 1 (show List.Nodup (["_law_x","_law_y"]:List Str) by decide +kernel)) ZaG)) (hlen:=(ZE (ZE (fun _ _ _ h=>ZaH h)))))) (fun _ _ _ _=>(Or.inl ⟨rfl,rfl⟩)) (fun _ _ _ _=>(ZA Zfj ZjS T.b_abs ZjZ (Zb (Za 1) Zf))))) Zf)) Ze) (Zi (Zm 0 ZI.nd (Za 5))) Z4)))))))))
  (Zi (ZG (Za 0))))
noncomputable abbrev Zau:Stmt:=top 38
noncomputable def ZbI:Sv:=(Zu (ZD (gNm 1) (Zj bLen (Zc (Zd 0) aNil)))
 (Zaf (Za0 (iR1 (Zc (Zd 1) aNil)) 1 [0,1] (gNm 0) (fun _ M=> .ok true M) (e2 dSub (eC (.int 0)) (Zj F_law_cross (Zc (e2 dIx (Zd 1) (e2 dSub (Zd 0) (eC (.int 1)))) (Zc (e2 dIx (Zd 1) (e2 dMod (e2 dAdd (Zd 0) (eC (.int 1))) (Zd 2))) aNil)))))))
noncomputable def F_law_tags:List D->Sto->Out D:=fnF ZbI 1 1
theorem ZcZ:FnScope ["_law_rays","_law_many"] ["_law_rays"] (Zh Zau):=⟨rfl,rfl,rfl,by decide +kernel,rfl,by decide +kernel,by decide +kernel⟩
theorem Zff {f:Addr} {fd:FuncData} (F:Fun K "_law_tags" "_law_tags" Zau f fd) (T:Txt K mg) (C_law_cross:Cal P w K mg base "_law_cross" 1 2 F_law_cross):FnOk P w K mg base (CXE P w) 2 f fd ["_law_rays"] (spD K F_law_tags):=
 Zak F ZcZ rfl rfl fun cdv A outer s H E hr θ=>(Zg (Zm 1 ZcZ.nd (ZA Zz Zbw T.b_len PySem.boot_len (Zb (Za 0) Zf)))
  (Zi (ZG (Zby (Zqh (XN:=["_law_rays","_law_many"]) (dn:=(Zh Zau).names) (N:=["_law_k","_law_rays","_law_many"]) (k:=1) (fr:=[0,1]) rfl rfl rfl rfl (by decide +kernel)) (Zec T.b_range (Zb (Za 1) Zf)) (fun _ _ _ _=>(Zp 0 (show List.Nodup (["_law_k","_law_rays","_law_many"]:List Str) by decide +kernel))) (fun _ _ _ _=>(Or.inl ⟨rfl,rfl⟩)) (fun _ _ _ _=>(Z5 Ze (Zk C_law_cross Zcg (hr.mono (by decide)) (Zb (ZH (Za 1) (Z5 (Za 0) Ze)) (Zb (ZH (Za 1) (ZaB (Zab (Za 0) Ze) (Za 2))) Zf)))))))))
noncomputable abbrev ZaV:Stmt:=top 39
noncomputable def Zcb:Sv:=(Zu (ZD (gNm 4) (e2 dMod (Zd 0) (Zj bLen (Zc (Zd 2) aNil))))
 (Zu (ZD (gNm 0) (e2 dDiv (Zd 0) (eC (.int 9))))
 (Zu (ZD (gNm 5) (e2 dIx (Zd 2) (Zd 4)))
 (Zu (ZD (gNm 6) (e2 dIx (Zd 2) (e2 dMod (e2 dAdd (Zd 4) (eC (.int 1))) (Zj bLen (Zc (Zd 2) aNil)))))
 (Zu (ZD (gNm 7) (Zal (Zc (e2 dAdd (e2 dIx (Zd 5) (eC (.int 0))) (e2 dIx (Zd 6) (eC (.int 0)))) (Zc (e2 dAdd (e2 dIx (Zd 5) (eC (.int 1))) (e2 dIx (Zd 6) (eC (.int 1)))) aNil))))
 (Zu (ZD (gNm 8) (e2 dAdd (e2 dAdd (eSl (Zd 2) oNo (oSo (e2 dAdd (Zd 4) (eC (.int 1))))) (Zc5 (Zc (Zd 7) aNil))) (eSl (Zd 2) (oSo (e2 dAdd (Zd 4) (eC (.int 1)))) oNo)))
 (sIf (ZiV (tv (e2 dLt (Zj bLen (Zc (Zd 2) aNil)) (Zd 1))) (tv (e2 dGe (Zj (Zch List.min?) (Zc (Zj F_law_tags (Zc (Zd 8) aNil)) aNil)) (Zcm (eC (.int 2)))))) (ZD (gNm 2) (Zd 8)) sNil)))))))
noncomputable def Zdn:Sv:=(Zu (ZD (gNm 1) (e2 dAdd (eC (.int 3)) (e2 dMod (Zd 0) (eC (.int 7)))))
 (Zu (ZD (gNm 2) (Zc5 (Zc (Zal (Zc (eC (.int 1)) (Zc (eC (.int 0)) aNil))) (Zc (Zal (Zc (eC (.int 0)) (Zc (eC (.int 1)) aNil))) (Zc (Zal (Zc (Zcm (eC (.int 1))) (Zc (Zcm (eC (.int 1))) aNil))) aNil)))))
 (Zu (sIf (tv (e2 dGt (e2 dMod (e2 dDiv (Zd 0) (eC (.int 7))) (eC (.int 4))) (eC (.int 0)))) (ZD (gNm 2) (Zc5 (Zc (Zal (Zc (eC (.int 1)) (Zc (eC (.int 0)) aNil))) (Zc (Zal (Zc (eC (.int 0)) (Zc (eC (.int 1)) aNil))) (Zc (Zal (Zc (Zcm (eC (.int 1))) (Zc (e2 dSub (e2 dMod (e2 dDiv (Zd 0) (eC (.int 7))) (eC (.int 4))) (eC (.int 1))) aNil))) (Zc (Zal (Zc (eC (.int 0)) (Zc (Zcm (eC (.int 1))) aNil))) aNil)))))) sNil)
 (Zu (ZD (gNm 0) (e2 dDiv (Zd 0) (eC (.int 28))))
 (Zu (Zb0 (gNm 3) (Zc (eC (.int 24)) aNil) Zcb)
 (Zu (ZD (gNm 2) (Zj F_law_turn (Zc (Zd 2) (Zc (Zd 0) aNil))))
 (Zu (ZD (gNm 4) (e2 dMod (e2 dDiv (Zd 0) (e2 dPow (eC (.int 10)) (eC (.int 12)))) (Zj bLen (Zc (Zd 2) aNil))))
 (Zaf (e2 dAdd (eSl (Zd 2) (oSo (Zd 4)) oNo) (eSl (Zd 2) oNo (oSo (Zd 4))))))))))))
noncomputable def F_law_ones:List D->Sto->Out D:=fnF Zdn 1 8
theorem Zv:FnScope ["_law_cell","_law_count","_law_rays","_law_k","_law_at","_law_one","_law_other","_law_new","_law_more"] ["_law_cell"] (Zh ZaV):=⟨rfl,rfl,rfl,by decide +kernel,rfl,by decide +kernel,by decide +kernel⟩
theorem Zfg {f:Addr} {fd:FuncData} (F:Fun K "_law_ones" "_law_ones" ZaV f fd) (T:Txt K mg) (C_law_tags:Cal P w K mg base "_law_tags" 2 1 F_law_tags) (C_law_turn:Cal P w K mg base "_law_turn" 101 2 F_law_turn):FnOk P w K mg base (CXE P w) 102 f fd ["_law_cell"] (spD K F_law_ones):=
 Zak F Zv rfl rfl fun cdv A outer s H E hr θ=>(Zg (Zm 1 Zv.nd (Zab Ze (ZaB (Za 0) Ze)))
  (Zg (Zm 2 Zv.nd (ZbO (Zb (ZF (Zb Ze (Zb Ze Zf))) (Zb (ZF (Zb Ze (Zb Ze Zf))) (Zb (ZF (Zb (ZaX Ze) (Zb (ZaX Ze) Zf))) Zf)))))
  (Zg (Zbk (ZO Zp3 Zqb (ZaB (ZaW (Za 0) Ze) Ze) Ze) (Zi (Zm 2 Zv.nd (ZbO (Zb (ZF (Zb Ze (Zb Ze Zf))) (Zb (ZF (Zb Ze (Zb Ze Zf))) (Zb (ZF (Zb (ZaX Ze) (Zb (Z5 (ZaB (ZaW (Za 0) Ze) Ze) Ze) Zf))) (Zb (ZF (Zb Ze (Zb (ZaX Ze) Zf))) Zf))))))) Z4)
  (Zg (Zm 0 Zv.nd (ZaW (Za 0) Ze))
  (Zg (ZcD θ.own T.b_range (Zb Ze Zf) (Zp 3 Zv.nd) (Zg (Zm 4 Zv.nd (ZaB (Za 0) (ZA Zz Zbw T.b_len PySem.boot_len (Zb (Za 2) Zf))))
  (Zg (Zm 0 Zv.nd (ZaW (Za 0) Ze))
  (Zg (Zm 5 Zv.nd (ZH (Za 2) (Za 4)))
  (Zg (Zm 6 Zv.nd (ZH (Za 2) (ZaB (Zab (Za 4) Ze) (ZA Zz Zbw T.b_len PySem.boot_len (Zb (Za 2) Zf)))))
  (Zg (Zm 7 Zv.nd (ZF (Zb (Zab (ZH (Za 5) Ze) (ZH (Za 6) Ze)) (Zb (Zab (ZH (Za 5) Ze) (ZH (Za 6) Ze)) Zf))))
  (Zg (Zm 8 Zv.nd (Zab (Zab (ZcN (Za 2) ZcL (ZcM (Zab (Za 4) Ze))) (ZbO (Zb (Za 7) Zf))) (ZcN (Za 2) (ZcM (Zab (Za 4) Ze)) ZcL)))
  (Zi (Zbk (ZpJ (ZmT (ZO ZgK Zg9 (ZA Zz Zbw T.b_len PySem.boot_len (Zb (Za 2) Zf)) (Za 1)) (ZkY (ZO Zp4 Zqc (ZA (Zef (ZC hr (by decide))) Zhx T.b_min Zft (Zb (Zk C_law_tags θ (hr.mono (by decide)) (Zb (Za 8) Zf)) Zf)) (ZaX Ze))))) (Zi (Zm 2 Zv.nd (Za 8))) Z4)))))))))
  (Zg (Zm 2 Zv.nd (Zk C_law_turn θ (hr.mono (by decide)) (Zb (Za 2) (Zb (Za 0) Zf))))
  (Zg (Zm 4 Zv.nd (ZaB (ZaW (Za 0) (Zde Ze Ze)) (ZA Zz Zbw T.b_len PySem.boot_len (Zb (Za 2) Zf))))
  (Zi (ZG (Zab (ZcN (Za 2) (ZcM (Za 4)) ZcL) (ZcN (Za 2) ZcL (ZcM (Za 4)))))))))))))
noncomputable abbrev Zav:Stmt:=top 40
noncomputable def Zbc:Sv:=(ZD (gNm 1) (Zj bMinL (Zc (Zd 1) (Zc (e2 dAdd (eSl (Zd 2) (oSo (Zd 3)) oNo) (eSl (Zd 2) oNo (oSo (Zd 3)))) aNil))))
noncomputable def Zbd:Sv:=(Zb0 (gNm 3) (Zc (Zj bLen (Zc (Zd 2) aNil)) aNil) Zbc)
noncomputable def Zc0:Sv:=(Zu (ZD (gNm 1) (Zd 0))
 (Zu (Zgw (gNm 2) (Zal (Zc (Zd 0) (Zc (Zj bLR (Zc (Zd 0) aNil)) aNil))) Zbd)
 (Zaf (Zd 1))))
noncomputable def F_law_least:List D->Sto->Out D:=fnF Zc0 1 3
theorem ZaE:FnScope ["_law_tags_here","_law_best","_law_some","_law_k"] ["_law_tags_here"] (Zh Zav):=⟨rfl,rfl,rfl,by decide +kernel,rfl,by decide +kernel,by decide +kernel⟩
theorem ZeG {f:Addr} {fd:FuncData} (F:Fun K "_law_least" "_law_least" Zav f fd) (T:Txt K mg):FnOk P w K mg base (CXE P w) 101 f fd ["_law_tags_here"] (spD K F_law_least):=
 Zak F ZaE rfl rfl fun cdv A outer s H E hr θ=>(Zg (Zm 1 ZaE.nd (Za 0))
  (Zg (Zea θ.own (ZF (Zb (Za 0) (Zb (Zqn (hr.hd (by decide)) T.b_list T.b_reversed (Zb (Za 0) Zf)) Zf))) (Zp 2 ZaE.nd) (Zi (ZcD θ.own T.b_range (Zb (ZA Zz Zbw T.b_len PySem.boot_len (Zb (Za 2) Zf)) Zf) (Zp 3 ZaE.nd) (Zi (Zm 1 ZaE.nd (ZA (Zgb (ZC hr (by decide)) hr.units) Zjg T.b_min Zft (Zb (Za 1) (Zb (Zab (ZcN (Za 2) (ZcM (Za 3)) ZcL) (ZcN (Za 2) ZcL (ZcM (Za 3)))) Zf))))))))
  (Zi (ZG (Za 1)))))
noncomputable abbrev ZS:Stmt:=top 41
noncomputable def ZbQ:Sv:=(Zaf (Za0 (iRv (Zc (Zd 0) aNil)) 2 [] (gTp (gCs (gNm 0) (gCs (gNm 1) gNl))) (fun _ M=> .ok true M) (Zal (Zc (Zd 0) (Zc (e2 dSub (eC (.int 0)) (Zd 1)) aNil)))))
noncomputable def F_law_mirrored:List D->Sto->Out D:=fnF ZbQ 1 0
theorem Zc1:FnScope ["_law_rays"] ["_law_rays"] (Zh ZS):=⟨rfl,rfl,rfl,by decide +kernel,rfl,by decide +kernel,by decide +kernel⟩
theorem Zc2 {f:Addr} {fd:FuncData} (F:Fun K "_law_mirrored" "_law_mirrored" ZS f fd) (T:Txt K mg):FnOk P w K mg base (CXE P w) 101 f fd ["_law_rays"] (spD K F_law_mirrored):=
 Zak F Zc1 rfl rfl fun cdv A outer s H E hr θ=>(Zi (ZG (Zby (Zk8 (N:=["_law_x","_law_y"]) (k:=2) (by decide +kernel) rfl (by decide +kernel) rfl) (Znw (hr.hd (by decide)) T.b_reversed (Zb (Za 0) Zf)) (fun _ _ _ _=>(Zbq (ZC hr (by decide)) (Zx (Zp 0 (show List.Nodup (["_law_x","_law_y"]:List Str) by decide +kernel)) (Zx (Zp 1 (show List.Nodup (["_law_x","_law_y"]:List Str) by decide +kernel)) ZaG)) (hlen:=(ZE (ZE (fun _ _ _ h=>ZaH h)))))) (fun _ _ _ _=>(Or.inl ⟨rfl,rfl⟩)) (fun _ _ _ _=>(ZF (Zb (Za 0) (Zb (Z5 Ze (Za 1)) Zf)))))))
noncomputable abbrev ZdP:Stmt:=top 42
noncomputable def ZdQ:Sv:=(Zu (ZD (gNm 4) (Zj F_law_cell_at (Zc (Zd 0) (Zc (Zd 3) aNil))))
 (Zu (ZD (gNm 5) (Zj F_law_ones (Zc (e2 dDiv (Zd 4) (eC (.int 2))) aNil)))
 (Zu (sIf (tv (e2 dEq (e2 dMod (Zd 4) (eC (.int 2))) (eC (.int 1)))) (ZD (gNm 5) (Zj F_law_mirrored (Zc (Zd 5) aNil))) sNil)
 (Zu (ZD (gNm 6) (Zj bList (Zc (Zd 5) aNil)))
 (Zu (ZD (gNm 7) (Zj F_kind_of (Zc (Zd 6) aNil)))
 (Zu (sIf (ZiW (ZfZ (tv (Zm6 "int" (Zd 7)))) (ZiW (tv (Zm6 "bool" (Zd 7))) (ZiW (ZfZ (tv (Zf0 (e2 dLe (eC (.int 0)) (Zd 7)) (e2 dLt (Zd 7) (eC (.int 16)))))) (tv (e2 dNe (Zd 6) (Zd 5)))))) (Zaf (eC (.bl false))) sNil)
 (Zu (ZD (gNm 8) (Zj F_law_least (Zc (Zj F_law_tags (Zc (Zd 5) aNil)) aNil)))
 (sIf (ZiW (tv (e2 dNe (e2 dIx (Zd 2) (Zd 7)) (Zd 8))) (tv (e2 dNe (ZcF mCnt (Zd 2) (Zc (Zd 8) aNil)) (eC (.int 1))))) (Zaf (eC (.bl false))) sNil))))))))
noncomputable def Zpr:Sv:=(Zu (ZD (gNm 1) (Zj F_sixteen aNil))
 (Zu (ZD (gNm 2) (Za0 (iSq (Zd 1)) 1 [] (gNm 0) (fun _ M=> .ok true M) (Zj F_law_least (Zc (Zj F_law_tags (Zc (Zd 0) aNil)) aNil))))
 (Zu (Zb0 (gNm 3) (Zc (Zj bMax (Zc (eC (.int 2)) (Zc (Zj bMin (Zc (Zj bLen (Zc (Zd 0) aNil)) (Zc (eC (.int 3)) aNil))) aNil))) aNil) ZdQ)
 (Zu (ZD (gNm 9) (e2 dMod (Zj F_law_cell_at (Zc (Zd 0) (Zc (eC (.int 2)) aNil))) (eC (.int 16))))
 (Zaf (e2 dEq (Zj F_kind_of (Zc (Zj bList (Zc (e2 dIx (Zd 1) (Zd 9)) aNil)) aNil)) (Zd 9)))))))
noncomputable def ZdR:List D->Sto->Out D:=fnF Zpr 1 9
theorem ZbF:FnScope ["_law_script","_law_all_ones","_law_rows","_law_place","_law_cell","_law_rays","_law_lent","_law_found","_law_line","_law_at"] ["_law_script"] (Zh ZdP):=⟨rfl,rfl,rfl,by decide +kernel,rfl,by decide +kernel,by decide +kernel⟩
theorem Zps {f:Addr} {fd:FuncData} (F:Fun K "law" "law" ZdP f fd) (T:Txt K mg) (C_sixteen:Cal P w K mg base "sixteen" 104 0 F_sixteen) (C_law_tags:Cal P w K mg base "_law_tags" 2 1 F_law_tags) (C_law_least:Cal P w K mg base "_law_least" 101 1 F_law_least) (C_law_cell_at:Cal P w K mg base "_law_cell_at" 1 2 F_law_cell_at) (C_law_ones:Cal P w K mg base "_law_ones" 102 1 F_law_ones) (C_law_mirrored:Cal P w K mg base "_law_mirrored" 101 1 F_law_mirrored) (C_kind_of:Cal P w K mg base "kind_of" 108 1 F_kind_of):FnOk P w K mg base (CXE P w) 109 f fd ["_law_script"] (spD K ZdR):=
 Zak F ZbF rfl rfl fun cdv A outer s H E hr θ=>(Zg (Zm 1 ZbF.nd (ZhK C_sixteen θ (hr.mono (by decide))))
  (Zg (Zlj 2 ZbF.nd (Zk8 (N:=["_law_rays"]) (k:=1) (by decide +kernel) rfl (by decide +kernel) rfl) (Zdh (Za 1)) (fun _ _ _ _=>(Zp 0 (show List.Nodup (["_law_rays"]:List Str) by decide +kernel))) (fun _ _ _ _=>(Or.inl ⟨rfl,rfl⟩)) (fun _ _ _ _=>(Zk C_law_least Zcg (hr.mono (by decide)) (Zb (Zk C_law_tags Zcg (hr.mono (by decide)) (Zb (Za 0) Zf)) Zf))))
  (Zg (ZcD θ.own T.b_range (Zb (ZA (ZgN (ZC hr (by decide))) Zm4 T.b_max Zj0 (Zb Ze (Zb (ZA (ZgO (ZC hr (by decide))) Zm5 T.b_min Zft (Zb (ZA Zz Zbw T.b_len PySem.boot_len (Zb (Za 0) Zf)) (Zb Ze Zf))) Zf))) Zf) (Zp 3 ZbF.nd) (Zg (Zm 4 ZbF.nd (Zk C_law_cell_at θ (hr.mono (by decide)) (Zb (Za 0) (Zb (Za 3) Zf))))
  (Zg (Zm 5 ZbF.nd (Zk C_law_ones θ (hr.mono (by decide)) (Zb (ZaW (Za 4) Ze) Zf)))
  (Zg (Zbk (ZO (Zdf hr.units) Zf2 (ZaB (Za 4) Ze) Ze) (Zi (Zm 5 ZbF.nd (Zk C_law_mirrored θ (hr.mono (by decide)) (Zb (Za 5) Zf)))) Z4)
  (Zg (Zm 6 ZbF.nd (ZbZ Zbv ZeQ T.b_list Zdw (Zb (Za 5) Zf)))
  (Zg (Zm 7 ZbF.nd (Zk C_kind_of θ (hr.mono (by decide)) (Zb (Za 6) Zf)))
  (Zg (Zbk (ZpJ (Zg8 (ZjQ (ZjP (ZjU Zk3 T.b_isinstance T.b_int Zm9 (Za 7)))) (Zg8 (ZjP (ZjU Zi1 T.b_isinstance T.b_bool Zk5 (Za 7))) (Zg8 (ZjQ (ZnG ZkH Zk1 ZgK Zg9 ZnF Ze (Za 7) Ze)) (Zg7 (ZO (Zcn hr.units) Zd8 (Za 6) (Za 5))))))) (Zi (ZG ZkX)) Z4)
  (Zg (Zm 8 ZbF.nd (Zk C_law_least θ (hr.mono (by decide)) (Zb (Zk C_law_tags θ (hr.mono (by decide)) (Zb (Za 5) Zf)) Zf)))
  (Zi (Zbk (ZpJ (Zg8 (ZO (Zcn hr.units) Zd8 (ZH (Za 2) (Za 7)) (Za 8)) (Zg7 (ZO (Zcn hr.units) Zd8 (Zle PySem.F.slot_list_count PySem.F.type_list_count (Znm hr.units) Znn (Za 2) (Zb (Za 8) Zf)) Ze)))) (Zi (ZG ZkX)) Z4))))))))))
  (Zg (Zm 9 ZbF.nd (ZaB (Zk C_law_cell_at θ (hr.mono (by decide)) (Zb (Za 0) (Zb Ze Zf))) Ze))
  (Zi (ZG (ZmS (Zdf hr.units) Zf2 (Zk C_kind_of θ (hr.mono (by decide)) (Zb (ZbZ Zbv ZeQ T.b_list Zdw (Zb (ZH (Za 1) (Za 9)) Zf)) Zf)) (Za 9))))))))
end
theorem Zpt {l:PySem.W.OpenLaw} {w:World} {K:PySem.W.Frag} {h:Heap} {mg:Str->Option Value} {fa f1 f2 f3 f4 f5 f6 f7 f8 f9 f10 f11 f12 f13 f14 f15 f16 f17 f18 f19 f20 f21 f22 f23 f24 f25 f26 f27 f28:Addr} (X:K.In h) (G:h.Ns mainGlobals mg) (hfa:mg "law"=some (.ref fa))
  {od1 an1 od2 an2 od3 an3 od4 an4 od5 an5 od6 an6 od7 an7 od8 an8 od9 an9 od10 an10 od11 an11 od12 an12 od13 an13 od14 an14 od15 an15 od16 an16 od17 an17 od18 an18 od19 an19 od20 an20 od21 an21 od22 an22 od23 an23 od24 an24 od25 an25 od26 an26 od27 an27 od28 an28:Option Addr} {sl1 sl2 sl3 sl4 sl5 sl6 sl7 sl8 sl9 sl10 sl11 sl12 sl13 sl14 sl15 sl16 sl17 sl18 sl19 sl20 sl21 sl22 sl23 sl24 sl25 sl26 sl27 sl28:Array (Option Value)} {oc1 kV1 dc1 pm1 cd1 ct1 oc2 kV2 dc2 pm2 cd2 ct2 oc3 kV3 dc3 pm3 cd3 ct3 oc4 kV4 dc4 pm4 cd4 ct4 oc5 kV5 dc5 pm5 cd5 ct5 oc6 kV6 dc6 pm6 cd6 ct6 oc7 kV7 dc7 pm7 cd7 ct7 oc8 kV8 dc8 pm8 cd8 ct8 oc9 kV9 dc9 pm9 cd9 ct9 oc10 kV10 dc10 pm10 cd10 ct10 oc11 kV11 dc11 pm11 cd11 ct11 oc12 kV12 dc12 pm12 cd12 ct12 oc13 kV13 dc13 pm13 cd13 ct13 oc14 kV14 dc14 pm14 cd14 ct14 oc15 kV15 dc15 pm15 cd15 ct15 oc16 kV16 dc16 pm16 cd16 ct16 oc17 kV17 dc17 pm17 cd17 ct17 oc18 kV18 dc18 pm18 cd18 ct18 oc19 kV19 dc19 pm19 cd19 ct19 oc20 kV20 dc20 pm20 cd20 ct20 oc21 kV21 dc21 pm21 cd21 ct21 oc22 kV22 dc22 pm22 cd22 ct22 oc23 kV23 dc23 pm23 cd23 ct23 oc24 kV24 dc24 pm24 cd24 ct24 oc25 kV25 dc25 pm25 cd25 ct25 oc26 kV26 dc26 pm26 cd26 ct26 oc27 kV27 dc27 pm27 cd27 ct27 oc28 kV28 dc28 pm28 cd28 ct28:Value}
  (a1:PySem.W.nsIn K mainGlobals "crossed"=some (some (.ref f1))) (l1:K.lookup f1=some ⟨oc1,od1,.func (PySem.W.fnOf "crossed" "crossed" (Zs Zbe) (Zq Zbe) (Zh Zbe) .none kV1 dc1 pm1 an1 cd1 ct1),sl1⟩) (c1:PySem.W.codeIn K cd1 "crossed"=true) (k1:PySem.W.keepIn K (.ref f1)=true)
  (a2:PySem.W.nsIn K mainGlobals "following"=some (some (.ref f2))) (l2:K.lookup f2=some ⟨oc2,od2,.func (PySem.W.fnOf "following" "following" (Zs Zaq) (Zq Zaq) (Zh Zaq) .none kV2 dc2 pm2 an2 cd2 ct2),sl2⟩) (c2:PySem.W.codeIn K cd2 "following"=true) (k2:PySem.W.keepIn K (.ref f2)=true)
  (a3:PySem.W.nsIn K mainGlobals "unspanned"=some (some (.ref f3))) (l3:K.lookup f3=some ⟨oc3,od3,.func (PySem.W.fnOf "unspanned" "unspanned" (Zs Zar) (Zq Zar) (Zh Zar) .none kV3 dc3 pm3 an3 cd3 ct3),sl3⟩) (c3:PySem.W.codeIn K cd3 "unspanned"=true) (k3:PySem.W.keepIn K (.ref f3)=true)
  (a4:PySem.W.nsIn K mainGlobals "ask_smooth"=some (some (.ref f4))) (l4:K.lookup f4=some ⟨oc4,od4,.func (PySem.W.fnOf "ask_smooth" "ask_smooth" (Zs Zad) (Zq Zad) (Zh Zad) .none kV4 dc4 pm4 an4 cd4 ct4),sl4⟩) (c4:PySem.W.codeIn K cd4 "ask_smooth"=true) (k4:PySem.W.keepIn K (.ref f4)=true)
  (a5:PySem.W.nsIn K mainGlobals "numbers"=some (some (.ref f5))) (l5:K.lookup f5=some ⟨oc5,od5,.func (PySem.W.fnOf "numbers" "numbers" (Zs Za3) (Zq Za3) (Zh Za3) .none kV5 dc5 pm5 an5 cd5 ct5),sl5⟩) (c5:PySem.W.codeIn K cd5 "numbers"=true) (k5:PySem.W.keepIn K (.ref f5)=true)
  (a6:PySem.W.nsIn K mainGlobals "gone_through"=some (some (.ref f6))) (l6:K.lookup f6=some ⟨oc6,od6,.func (PySem.W.fnOf "gone_through" "gone_through" (Zs ZQ) (Zq ZQ) (Zh ZQ) .none kV6 dc6 pm6 an6 cd6 ct6),sl6⟩) (c6:PySem.W.codeIn K cd6 "gone_through"=true) (k6:PySem.W.keepIn K (.ref f6)=true)
  (a7:PySem.W.nsIn K mainGlobals "times_round"=some (some (.ref f7))) (l7:K.lookup f7=some ⟨oc7,od7,.func (PySem.W.fnOf "times_round" "times_round" (Zs ZY) (Zq ZY) (Zh ZY) .none kV7 dc7 pm7 an7 cd7 ct7),sl7⟩) (c7:PySem.W.codeIn K cd7 "times_round"=true) (k7:PySem.W.keepIn K (.ref f7)=true)
  (a8:PySem.W.nsIn K mainGlobals "round_by"=some (some (.ref f8))) (l8:K.lookup f8=some ⟨oc8,od8,.func (PySem.W.fnOf "round_by" "round_by" (Zs ZaR) (Zq ZaR) (Zh ZaR) .none kV8 dc8 pm8 an8 cd8 ct8),sl8⟩) (c8:PySem.W.codeIn K cd8 "round_by"=true) (k8:PySem.W.keepIn K (.ref f8)=true)
  (a9:PySem.W.nsIn K mainGlobals "partner"=some (some (.ref f9))) (l9:K.lookup f9=some ⟨oc9,od9,.func (PySem.W.fnOf "partner" "partner" (Zs Zbf) (Zq Zbf) (Zh Zbf) .none kV9 dc9 pm9 an9 cd9 ct9),sl9⟩) (c9:PySem.W.codeIn K cd9 "partner"=true) (k9:PySem.W.keepIn K (.ref f9)=true)
  (a10:PySem.W.nsIn K mainGlobals "first_behind"=some (some (.ref f10))) (l10:K.lookup f10=some ⟨oc10,od10,.func (PySem.W.fnOf "first_behind" "first_behind" (Zs ZR) (Zq ZR) (Zh ZR) .none kV10 dc10 pm10 an10 cd10 ct10),sl10⟩) (c10:PySem.W.codeIn K cd10 "first_behind"=true) (k10:PySem.W.keepIn K (.ref f10)=true)
  (a11:PySem.W.nsIn K mainGlobals "expanded"=some (some (.ref f11))) (l11:K.lookup f11=some ⟨oc11,od11,.func (PySem.W.fnOf "expanded" "expanded" (Zs ZaS) (Zq ZaS) (Zh ZaS) .none kV11 dc11 pm11 an11 cd11 ct11),sl11⟩) (c11:PySem.W.codeIn K cd11 "expanded"=true) (k11:PySem.W.keepIn K (.ref f11)=true)
  (a12:PySem.W.nsIn K mainGlobals "row"=some (some (.ref f12))) (l12:K.lookup f12=some ⟨oc12,od12,.func (PySem.W.fnOf "row" "row" (Zs Zgm) (Zq Zgm) (Zh Zgm) .none kV12 dc12 pm12 an12 cd12 ct12),sl12⟩) (c12:PySem.W.codeIn K cd12 "row"=true) (k12:PySem.W.keepIn K (.ref f12)=true)
  (a13:PySem.W.nsIn K mainGlobals "between"=some (some (.ref f13))) (l13:K.lookup f13=some ⟨oc13,od13,.func (PySem.W.fnOf "between" "between" (Zs Zbg) (Zq Zbg) (Zh Zbg) .none kV13 dc13 pm13 an13 cd13 ct13),sl13⟩) (c13:PySem.W.codeIn K cd13 "between"=true) (k13:PySem.W.keepIn K (.ref f13)=true)
  (a14:PySem.W.nsIn K mainGlobals "least_round"=some (some (.ref f14))) (l14:K.lookup f14=some ⟨oc14,od14,.func (PySem.W.fnOf "least_round" "least_round" (Zs ZZ) (Zq ZZ) (Zh ZZ) .none kV14 dc14 pm14 an14 cd14 ct14),sl14⟩) (c14:PySem.W.codeIn K cd14 "least_round"=true) (k14:PySem.W.keepIn K (.ref f14)=true)
  (a15:PySem.W.nsIn K mainGlobals "marked_row"=some (some (.ref f15))) (l15:K.lookup f15=some ⟨oc15,od15,.func (PySem.W.fnOf "marked_row" "marked_row" (Zs ZV) (Zq ZV) (Zh ZV) .none kV15 dc15 pm15 an15 cd15 ct15),sl15⟩) (c15:PySem.W.codeIn K cd15 "marked_row"=true) (k15:PySem.W.keepIn K (.ref f15)=true)
  (a16:PySem.W.nsIn K mainGlobals "first_reading"=some (some (.ref f16))) (l16:K.lookup f16=some ⟨oc16,od16,.func (PySem.W.fnOf "first_reading" "first_reading" (Zs ZM) (Zq ZM) (Zh ZM) .none kV16 dc16 pm16 an16 cd16 ct16),sl16⟩) (c16:PySem.W.codeIn K cd16 "first_reading"=true) (k16:PySem.W.keepIn K (.ref f16)=true)
  (a17:PySem.W.nsIn K mainGlobals "least_row"=some (some (.ref f17))) (l17:K.lookup f17=some ⟨oc17,od17,.func (PySem.W.fnOf "least_row" "least_row" (Zs Zas) (Zq Zas) (Zh Zas) .none kV17 dc17 pm17 an17 cd17 ct17),sl17⟩) (c17:PySem.W.codeIn K cd17 "least_row"=true) (k17:PySem.W.keepIn K (.ref f17)=true)
  (a18:PySem.W.nsIn K mainGlobals "ask_one"=some (some (.ref f18))) (l18:K.lookup f18=some ⟨oc18,od18,.func (PySem.W.fnOf "ask_one" "ask_one" (Zs Zbh) (Zq Zbh) (Zh Zbh) .none kV18 dc18 pm18 an18 cd18 ct18),sl18⟩) (c18:PySem.W.codeIn K cd18 "ask_one"=true) (k18:PySem.W.keepIn K (.ref f18)=true)
  (a19:PySem.W.nsIn K mainGlobals "sixteen"=some (some (.ref f19))) (l19:K.lookup f19=some ⟨oc19,od19,.func (PySem.W.fnOf "sixteen" "sixteen" (Zs Zbi) (Zq Zbi) (Zh Zbi) .none kV19 dc19 pm19 an19 cd19 ct19),sl19⟩) (c19:PySem.W.codeIn K cd19 "sixteen"=true) (k19:PySem.W.keepIn K (.ref f19)=true)
  (a20:PySem.W.nsIn K mainGlobals "kind_of"=some (some (.ref f20))) (l20:K.lookup f20=some ⟨oc20,od20,.func (PySem.W.fnOf "kind_of" "kind_of" (Zs Zbj) (Zq Zbj) (Zh Zbj) .none kV20 dc20 pm20 an20 cd20 ct20),sl20⟩) (c20:PySem.W.codeIn K cd20 "kind_of"=true) (k20:PySem.W.keepIn K (.ref f20)=true)
  (a21:PySem.W.nsIn K mainGlobals "_law_cell_at"=some (some (.ref f21))) (l21:K.lookup f21=some ⟨oc21,od21,.func (PySem.W.fnOf "_law_cell_at" "_law_cell_at" (Zs Z0) (Zq Z0) (Zh Z0) .none kV21 dc21 pm21 an21 cd21 ct21),sl21⟩) (c21:PySem.W.codeIn K cd21 "_law_cell_at"=true) (k21:PySem.W.keepIn K (.ref f21)=true)
  (a22:PySem.W.nsIn K mainGlobals "_law_cross"=some (some (.ref f22))) (l22:K.lookup f22=some ⟨oc22,od22,.func (PySem.W.fnOf "_law_cross" "_law_cross" (Zs Zat) (Zq Zat) (Zh Zat) .none kV22 dc22 pm22 an22 cd22 ct22),sl22⟩) (c22:PySem.W.codeIn K cd22 "_law_cross"=true) (k22:PySem.W.keepIn K (.ref f22)=true)
  (a23:PySem.W.nsIn K mainGlobals "_law_turn"=some (some (.ref f23))) (l23:K.lookup f23=some ⟨oc23,od23,.func (PySem.W.fnOf "_law_turn" "_law_turn" (Zs ZaU) (Zq ZaU) (Zh ZaU) .none kV23 dc23 pm23 an23 cd23 ct23),sl23⟩) (c23:PySem.W.codeIn K cd23 "_law_turn"=true) (k23:PySem.W.keepIn K (.ref f23)=true)
  (a24:PySem.W.nsIn K mainGlobals "_law_tags"=some (some (.ref f24))) (l24:K.lookup f24=some ⟨oc24,od24,.func (PySem.W.fnOf "_law_tags" "_law_tags" (Zs Zau) (Zq Zau) (Zh Zau) .none kV24 dc24 pm24 an24 cd24 ct24),sl24⟩) (c24:PySem.W.codeIn K cd24 "_law_tags"=true) (k24:PySem.W.keepIn K (.ref f24)=true)
  (a25:PySem.W.nsIn K mainGlobals "_law_ones"=some (some (.ref f25))) (l25:K.lookup f25=some ⟨oc25,od25,.func (PySem.W.fnOf "_law_ones" "_law_ones" (Zs ZaV) (Zq ZaV) (Zh ZaV) .none kV25 dc25 pm25 an25 cd25 ct25),sl25⟩) (c25:PySem.W.codeIn K cd25 "_law_ones"=true) (k25:PySem.W.keepIn K (.ref f25)=true)
  (a26:PySem.W.nsIn K mainGlobals "_law_least"=some (some (.ref f26))) (l26:K.lookup f26=some ⟨oc26,od26,.func (PySem.W.fnOf "_law_least" "_law_least" (Zs Zav) (Zq Zav) (Zh Zav) .none kV26 dc26 pm26 an26 cd26 ct26),sl26⟩) (c26:PySem.W.codeIn K cd26 "_law_least"=true) (k26:PySem.W.keepIn K (.ref f26)=true)
  (a27:PySem.W.nsIn K mainGlobals "_law_mirrored"=some (some (.ref f27))) (l27:K.lookup f27=some ⟨oc27,od27,.func (PySem.W.fnOf "_law_mirrored" "_law_mirrored" (Zs ZS) (Zq ZS) (Zh ZS) .none kV27 dc27 pm27 an27 cd27 ct27),sl27⟩) (c27:PySem.W.codeIn K cd27 "_law_mirrored"=true) (k27:PySem.W.keepIn K (.ref f27)=true)
  (a28:PySem.W.nsIn K mainGlobals "law"=some (some (.ref f28))) (l28:K.lookup f28=some ⟨oc28,od28,.func (PySem.W.fnOf "law" "law" (Zs ZdP) (Zq ZdP) (Zh ZdP) .none kV28 dc28 pm28 an28 cd28 ct28),sl28⟩) (c28:PySem.W.codeIn K cd28 "law"=true) (k28:PySem.W.keepIn K (.ref f28)=true)
  (z_len:PySem.W.nsIn K mainGlobals "len"=some none)
  (z_enumerate:PySem.W.nsIn K mainGlobals "enumerate"=some none)
  (z_range:PySem.W.nsIn K mainGlobals "range"=some none)
  (z_sum:PySem.W.nsIn K mainGlobals "sum"=some none)
  (z_zip:PySem.W.nsIn K mainGlobals "zip"=some none)
  (z_min:PySem.W.nsIn K mainGlobals "min"=some none)
  (z_list:PySem.W.nsIn K mainGlobals "list"=some none)
  (z_tuple:PySem.W.nsIn K mainGlobals "tuple"=some none)
  (z_abs:PySem.W.nsIn K mainGlobals "abs"=some none)
  (z_max:PySem.W.nsIn K mainGlobals "max"=some none)
  (z_reversed:PySem.W.nsIn K mainGlobals "reversed"=some none)
  (z_isinstance:PySem.W.nsIn K mainGlobals "isinstance"=some none)
  (z_int:PySem.W.nsIn K mainGlobals "int"=some none)
  (z_bool:PySem.W.nsIn K mainGlobals "bool"=some none)
  (q_ex_NotSmooth:Zhl K "NotSmooth"=true)
  (q_ex_NoRow:Zhl K "NoRow"=true)
  (q_ex_NoWedge:Zhl K "NoWedge"=true)
  (q_ex_NoOne:Zhl K "NoOne"=true)
  (q_co_ROWS:Zji K "ROWS" Za2=true)
  : ∃ fd:FuncData,(∀ (s:Shared) (v:Value),BindsTo s fd ⟨[v],[]⟩ [("_law_script",v)])/\ ∀ base:Heap,K.In base->base.Ns mainGlobals mg->FnOk l.prog w K mg base (CXE l.prog w) 109 fa fd ["_law_script"] (spD K ZdR):=by
 have e:=hfa.symm.trans (PySem.W.mg_of X G a28)
 cases e
 have T:Txt K mg:=⟨fun c v e=>PySem.W.mg_of X G e,PySem.W.mg_none_of X G z_len,PySem.W.mg_none_of X G z_enumerate,PySem.W.mg_none_of X G z_range,PySem.W.mg_none_of X G z_sum,PySem.W.mg_none_of X G z_zip,PySem.W.mg_none_of X G z_min,PySem.W.mg_none_of X G z_list,PySem.W.mg_none_of X G z_tuple,PySem.W.mg_none_of X G z_abs,PySem.W.mg_none_of X G z_max,PySem.W.mg_none_of X G z_reversed,PySem.W.mg_none_of X G z_isinstance,PySem.W.mg_none_of X G z_int,PySem.W.mg_none_of X G z_bool,q_ex_NotSmooth,q_ex_NoRow,q_ex_NoWedge,q_ex_NoOne,q_co_ROWS⟩
 have R1:=ZK (st:=Zbe) l1 c1 k1
 have R2:=ZK (st:=Zaq) l2 c2 k2
 have R3:=ZK (st:=Zar) l3 c3 k3
 have R4:=ZK (st:=Zad) l4 c4 k4
 have R5:=ZK (st:=Za3) l5 c5 k5
 have R6:=ZK (st:=ZQ) l6 c6 k6
 have R7:=ZK (st:=ZY) l7 c7 k7
 have R8:=ZK (st:=ZaR) l8 c8 k8
 have R9:=ZK (st:=Zbf) l9 c9 k9
 have R10:=ZK (st:=ZR) l10 c10 k10
 have R11:=ZK (st:=ZaS) l11 c11 k11
 have R12:=ZK (st:=Zgm) l12 c12 k12
 have R13:=ZK (st:=Zbg) l13 c13 k13
 have R14:=ZK (st:=ZZ) l14 c14 k14
 have R15:=ZK (st:=ZV) l15 c15 k15
 have R16:=ZK (st:=ZM) l16 c16 k16
 have R17:=ZK (st:=Zas) l17 c17 k17
 have R18:=ZK (st:=Zbh) l18 c18 k18
 have R19:=ZK (st:=Zbi) l19 c19 k19
 have R20:=ZK (st:=Zbj) l20 c20 k20
 have R21:=ZK (st:=Z0) l21 c21 k21
 have R22:=ZK (st:=Zat) l22 c22 k22
 have R23:=ZK (st:=ZaU) l23 c23 k23
 have R24:=ZK (st:=Zau) l24 c24 k24
 have R25:=ZK (st:=ZaV) l25 c25 k25
 have R26:=ZK (st:=Zav) l26 c26 k26
 have R27:=ZK (st:=ZS) l27 c27 k27
 have R28:=ZK (st:=ZdP) l28 c28 k28
 refine ⟨PySem.W.fnOf "law" "law" (Zs ZdP) (Zq ZdP) (Zh ZdP) .none kV28 dc28 pm28 an28 cd28 ct28,fun s v=> .of_eq rfl,fun base _ _=> ?_⟩
 have C1:Cal l.prog w K mg base "crossed" 1 2 F_crossed:=⟨f1,_,["one","other"],Zgi R1 T,PySem.W.mg_of X G a1,k1,rfl,R1.binds (ps:=["one","other"]) fun _ _ _ _ _ _ us hl=>match us,hl with | [_,_],_=>rfl⟩
 have C2:Cal l.prog w K mg base "following" 1 2 F_following:=⟨f2,_,["things","at"],Zex R2 T,PySem.W.mg_of X G a2,k2,rfl,R2.binds (ps:=["things","at"]) fun _ _ _ _ _ _ us hl=>match us,hl with | [_,_],_=>rfl⟩
 have C3:Cal l.prog w K mg base "unspanned" 101 1 F_unspanned:=⟨f3,_,["rays"],Zey R3 T C2 C1,PySem.W.mg_of X G a3,k3,rfl,R3.binds (ps:=["rays"]) fun _ _ _ _ _ _ us hl=>match us,hl with | [_],_=>rfl⟩
 have C4:Cal l.prog w K mg base "ask_smooth" 102 1 F_ask_smooth:=⟨f4,_,["rays"],ZdN R4 T C3,PySem.W.mg_of X G a4,k4,rfl,R4.binds (ps:=["rays"]) fun _ _ _ _ _ _ us hl=>match us,hl with | [_],_=>rfl⟩
 have C5:Cal l.prog w K mg base "numbers" 103 1 F_numbers:=⟨f5,_,["rays"],Zgk R5 T C4 C2 C1,PySem.W.mg_of X G a5,k5,rfl,R5.binds (ps:=["rays"]) fun _ _ _ _ _ _ us hl=>match us,hl with | [_],_=>rfl⟩
 have C6:Cal l.prog w K mg base "gone_through" 101 1 F_gone_through:=⟨f6,_,["numbers"],ZcX R6 T,PySem.W.mg_of X G a6,k6,rfl,R6.binds (ps:=["numbers"]) fun _ _ _ _ _ _ us hl=>match us,hl with | [_],_=>rfl⟩
 have C7:Cal l.prog w K mg base "times_round" 102 1 F_times_round:=⟨f7,_,["numbers"],Zc9 R7 T C6,PySem.W.mg_of X G a7,k7,rfl,R7.binds (ps:=["numbers"]) fun _ _ _ _ _ _ us hl=>match us,hl with | [_],_=>rfl⟩
 have C8:Cal l.prog w K mg base "round_by" 103 1 F_round_by:=⟨f8,_,["numbers"],Zfc R8 T C7 C6,PySem.W.mg_of X G a8,k8,rfl,R8.binds (ps:=["numbers"]) fun _ _ _ _ _ _ us hl=>match us,hl with | [_],_=>rfl⟩
 have C9:Cal l.prog w K mg base "partner" 101 1 F_partner:=⟨f9,_,["ray"],Zgl R9 T,PySem.W.mg_of X G a9,k9,rfl,R9.binds (ps:=["ray"]) fun _ _ _ _ _ _ us hl=>match us,hl with | [_],_=>rfl⟩
 have C10:Cal l.prog w K mg base "first_behind" 102 2 F_first_behind:=⟨f10,_,["u","v"],ZcY R10 T C9 C1,PySem.W.mg_of X G a10,k10,rfl,R10.binds (ps:=["u","v"]) fun _ _ _ _ _ _ us hl=>match us,hl with | [_,_],_=>rfl⟩
 have C11:Cal l.prog w K mg base "expanded" 101 2 F_expanded:=⟨f11,_,["top","bottom"],Zfd R11 T,PySem.W.mg_of X G a11,k11,rfl,R11.binds (ps:=["top","bottom"]) fun _ _ _ _ _ _ us hl=>match us,hl with | [_,_],_=>rfl⟩
 have C12:Cal l.prog w K mg base "row" 103 2 F_row:=⟨f12,_,["u","v"],Zpq R12 T C1 C10 C11,PySem.W.mg_of X G a12,k12,rfl,R12.binds (ps:=["u","v"]) fun _ _ _ _ _ _ us hl=>match us,hl with | [_,_],_=>rfl⟩
 have C13:Cal l.prog w K mg base "between" 104 2 F_between:=⟨f13,_,["u","v"],Zgn R13 T C12 C10,PySem.W.mg_of X G a13,k13,rfl,R13.binds (ps:=["u","v"]) fun _ _ _ _ _ _ us hl=>match us,hl with | [_,_],_=>rfl⟩
 have C14:Cal l.prog w K mg base "least_round" 105 1 F_least_round:=⟨f14,_,["rays"],Zda R14 T C2 C13,PySem.W.mg_of X G a14,k14,rfl,R14.binds (ps:=["rays"]) fun _ _ _ _ _ _ us hl=>match us,hl with | [_],_=>rfl⟩
 have C15:Cal l.prog w K mg base "marked_row" 104 2 F_marked_row:=⟨f15,_,["rays","least"],ZdO R15 T C5,PySem.W.mg_of X G a15,k15,rfl,R15.binds (ps:=["rays","least"]) fun _ _ _ _ _ _ us hl=>match us,hl with | [_,_],_=>rfl⟩
 have C16:Cal l.prog w K mg base "first_reading" 106 1 F_first_reading:=⟨f16,_,["rays"],Zcy R16 T C14 C15 C2,PySem.W.mg_of X G a16,k16,rfl,R16.binds (ps:=["rays"]) fun _ _ _ _ _ _ us hl=>match us,hl with | [_],_=>rfl⟩
 have C17:Cal l.prog w K mg base "least_row" 107 1 F_least_row:=⟨f17,_,["rays"],ZeA R17 T C16,PySem.W.mg_of X G a17,k17,rfl,R17.binds (ps:=["rays"]) fun _ _ _ _ _ _ us hl=>match us,hl with | [_],_=>rfl⟩
 have C18:Cal l.prog w K mg base "ask_one" 104 1 F_ask_one:=⟨f18,_,["rays"],Zgp R18 T C5,PySem.W.mg_of X G a18,k18,rfl,R18.binds (ps:=["rays"]) fun _ _ _ _ _ _ us hl=>match us,hl with | [_],_=>rfl⟩
 have C19:Cal l.prog w K mg base "sixteen" 104 0 F_sixteen:=⟨f19,_,[],Zgr R19 T C8,PySem.W.mg_of X G a19,k19,rfl,R19.binds (ps:=[]) fun _ _ _ _ _ _ us hl=>match us,hl with | [],_=>rfl⟩
 have C20:Cal l.prog w K mg base "kind_of" 108 1 F_kind_of:=⟨f20,_,["rays"],Zgt R20 T C18 C17,PySem.W.mg_of X G a20,k20,rfl,R20.binds (ps:=["rays"]) fun _ _ _ _ _ _ us hl=>match us,hl with | [_],_=>rfl⟩
 have C21:Cal l.prog w K mg base "_law_cell_at" 1 2 F_law_cell_at:=⟨f21,_,["_law_script","_law_k"],Zdb R21 T,PySem.W.mg_of X G a21,k21,rfl,R21.binds (ps:=["_law_script","_law_k"]) fun _ _ _ _ _ _ us hl=>match us,hl with | [_,_],_=>rfl⟩
 have C22:Cal l.prog w K mg base "_law_cross" 1 2 F_law_cross:=⟨f22,_,["_law_one","_law_other"],ZeF R22 T,PySem.W.mg_of X G a22,k22,rfl,R22.binds (ps:=["_law_one","_law_other"]) fun _ _ _ _ _ _ us hl=>match us,hl with | [_,_],_=>rfl⟩
 have C23:Cal l.prog w K mg base "_law_turn" 101 2 F_law_turn:=⟨f23,_,["_law_rays","_law_cell"],Zfe R23 T,PySem.W.mg_of X G a23,k23,rfl,R23.binds (ps:=["_law_rays","_law_cell"]) fun _ _ _ _ _ _ us hl=>match us,hl with | [_,_],_=>rfl⟩
 have C24:Cal l.prog w K mg base "_law_tags" 2 1 F_law_tags:=⟨f24,_,["_law_rays"],Zff R24 T C22,PySem.W.mg_of X G a24,k24,rfl,R24.binds (ps:=["_law_rays"]) fun _ _ _ _ _ _ us hl=>match us,hl with | [_],_=>rfl⟩
 have C25:Cal l.prog w K mg base "_law_ones" 102 1 F_law_ones:=⟨f25,_,["_law_cell"],Zfg R25 T C24 C23,PySem.W.mg_of X G a25,k25,rfl,R25.binds (ps:=["_law_cell"]) fun _ _ _ _ _ _ us hl=>match us,hl with | [_],_=>rfl⟩
 have C26:Cal l.prog w K mg base "_law_least" 101 1 F_law_least:=⟨f26,_,["_law_tags_here"],ZeG R26 T,PySem.W.mg_of X G a26,k26,rfl,R26.binds (ps:=["_law_tags_here"]) fun _ _ _ _ _ _ us hl=>match us,hl with | [_],_=>rfl⟩
 have C27:Cal l.prog w K mg base "_law_mirrored" 101 1 F_law_mirrored:=⟨f27,_,["_law_rays"],Zc2 R27 T,PySem.W.mg_of X G a27,k27,rfl,R27.binds (ps:=["_law_rays"]) fun _ _ _ _ _ _ us hl=>match us,hl with | [_],_=>rfl⟩
 exact Zps R28 T C19 C24 C26 C21 C25 C27 C20
end K64
end
section
namespace K64
open PySem PySem.Spec L2 DL
open CV CX
open CB (Bd lrd Zbr seg Wgs Wg Ch)
open CT (rl rl0 Cl)
open TW (run Zii)
theorem Zmb:F_times_round=CT.F_times_round:=rfl
theorem Zpu:F_gone_through=CT.F_gone_through:=rfl
theorem Zkv:F_law_cell_at=CC.F_law_cell_at:=rfl
theorem Zio:F_law_tags=CC.F_law_tags:=rfl
theorem Zpv:F_law_turn=CC.F_law_turn:=rfl
theorem Zr1:F_numbers=CE.F_numbers:=rfl
theorem Zpw:F_least_row=CX.F_least_row:=rfl
noncomputable def rnd (L:List Int):List Pt:=rl0 (1,0) (0,1) L
structure Rw (L:List Int):Prop where
 sm: ∀ b∈L,-2<=b/\b<=2
 cl:run (1,0) (0,1) L=((1,0),(0,1))
 ea:Zii (1,0) (0,1) L=1
 l3:3<=L.length/\L.length<=9
 nr: ∀ p∈rnd L,(-10<=p.1/\p.1<=10)/\ -10<=p.2/\p.2<=10
theorem Zmc: ∀ L∈Za2,Rw L:=by
 have: ∀ L∈Za2,(∀ b∈L,-2<=b/\b<=2)/\run (1,0) (0,1) L=((1,0),(0,1))/\Zii (1,0) (0,1) L=1/\(3<=L.length/\L.length<=9)/\ ∀ p∈rnd L,(-10<=p.1/\p.1<=10)/\ -10<=p.2/\p.2<=10:=by decide +kernel
 intro L hL
 obtain ⟨a,b,c,d,e⟩:=this L hL
 exact ⟨a,b,c,d,e⟩
section
variable {Q:D->Sto->Prop} {E:Str->Sto->Prop} {M:Sto} {n m p:Nat} {L:List Int} {N B C:Ro->Sto->Prop} {R:D->Sto->Prop}
theorem ZuK (hL:Rw L) (h:M[n]?=some (.lst (nts L))) (q: ∀ o M',Kp M M'->M.length<=o->M'[o]?=some (.lst (prs (rnd L)))->Q (.ref o) M'):wO (F_round_by [.ref n] M) Q E:=by
 have sm:CT.Zgg L:=fun b hb=>by have:=hL.sm b hb;omega
 have l9:=hL.l3
 simp![F_round_by,Zdm,Zmb]
 refine CT.Zl3 h sm (by omega) fun M1 K1=> ?_
 rw[if_pos (show Cl L from hL.cl),hL.ea]
 simp![Zpu]
 refine CT.Zkp (K1.get h) sm.sm (by omega) fun M2 K2 r2=> ?_
 have l2:=Zw r2
 have K12:=K1.trans K2
 have k1:=K1.1
 simp![r2]
 have e:Zdy (prs (rl (1,0) (0,1) L)) none (some (-2))=prs (rnd L):=CT.Zko.2
 rw[e]
 have k2:=K12.1
 exact q _ _ (K12.trans Kp.app) k2 (by simp)
noncomputable def ra (j:Nat):List Int:=Za2.getD j []
theorem ZjG {j:Nat} (h:j < 16):Rw (ra j):=Zmc _ (by
 have l:Za2.length=16:=rfl
 unfold ra
 rw[List.getD_eq_getElem?_getD,List.getElem?_eq_getElem (by omega)]
 exact List.getElem_mem _)
noncomputable def Six (r:Nat) (os:List Nat) (M:Sto):Prop:=M[r]?=some (.lst (os.map D.ref))/\ ∀ (j o:Nat),os[j]?=some o->M[o]?=some (SO.lst (prs (rnd (ra j))))
theorem wF0 {g:Sv}:wO (fnF g 0 0 [] M) Q E=wS (g [] M) (Zmj Q) Q (fun _ _=>False) (fun _ _=>False) E:=wF rfl
theorem Zr2 {xs:List D} {QS:Src->Sto->Prop}:wO (oSq (.con xs) M) QS E=QS (.pur xs) M:=rfl
theorem Zmd {xs:List D}:wO (bList [.con xs] M) Q E=Q (.ref M.length) (M ++ [.lst xs]):=rfl
theorem Zip (q: ∀ os M',Kp M M'->os.length=16->(∀ o∈os,M.length < o)->Six M.length os M'->Q (.ref M.length) M'):wO (F_sixteen [] M) Q E:=by
 simp![F_sixteen,ZeC,wF0,ZnH,Zr2]
 have cl:Za2.length=16:=rfl
 refine ZhQ (xs:=Za2.map fun r=>D.con (r.map D.int)) (Q:=fun M2=>Q (.ref M.length) M2) (fun i ρ M'=>(∃ x,ρ=[x])/\ ∃ os:List Nat,os.length=i/\Kp M M'/\(∀ o∈os,M.length < o)/\Six M.length os M') _ 0 _ _ (by simp) (by simp[cnt]) ⟨⟨_,rfl⟩,[],rfl,Kp.app,by simp,by simp,fun j o z=>by simp at z⟩ (fun i ρ M' hi hI=>rfl) ?_ ?_
 ·rintro i ρ M' hi ⟨⟨x,rfl⟩,os,hl,K,ho,r0,hs⟩
  have ei:(Za2.map fun r=>D.con (r.map D.int))[i]'hi=D.con (nts (ra i)):=by
   rw[List.getElem_map]
   unfold ra nts
   rw[List.getD_eq_getElem?_getD,List.getElem?_eq_getElem (by simpa using hi)]
   rfl
  have hi16:i < 16:=by simpa [cl] using hi
  have lr:=Zw r0
  rw[ei]
  simp![Zmd]
  have r1:(M' ++ [SO.lst (nts (ra i))])[M'.length]?=some (.lst (nts (ra i))):=by simp
  have K1:Kp M' (M' ++ [SO.lst (nts (ra i))]):=Kp.app
  generalize M' ++ [SO.lst (nts (ra i))]=M1 at *
  rw[ZnN]
  refine ZuK (ZjG hi16) r1 fun o M2 K2 lo r2=> ?_
  have K12:=K1.trans K2
  have k1:=K1.1
  have r02:=K12.get r0
  have l02:=Zw r02
  rw[r02]
  refine ⟨by simp;omega,⟨_,rfl⟩,os ++ [o],by simp[hl],(K.trans K12).set (Nat.le_refl _),fun z hz=> ?_,?_,fun j z hz=> ?_⟩
  ·rcases List.mem_append.mp hz with hz | hz
   ·exact ho z hz
   ·simp at hz;omega
  ·rw[List.getElem?_set_self l02];simp
  ·by_cases c:j < os.length
   ·rw[List.getElem?_append_left c] at hz
    have:=ho z (List.mem_of_getElem? hz)
    rw[List.getElem?_set_ne (by omega)]
    exact K12.get (hs j z hz)
   ·have:j=os.length:=by
     have:=(List.getElem?_eq_some_iff.mp hz).1
     simp at this
     omega
    subst this
    simp at hz
    subst hz
    rw[List.getElem?_set_ne (by omega),hl]
    exact r2
 ·rintro ρ M' ⟨-,os,hl,K,ho,hs⟩
  exact q os M' K (by simpa [cl] using hl) ho hs
noncomputable def ltI (xs ys:List Int):Bool:=(ltL (nts xs) (nts ys)).getD false
noncomputable def mnI (a b:List Int):List Int:=if ltI b a=true then b else a
noncomputable def rot (L:List Int) (k:Nat):List Int:=L.drop k ++ L.take k
noncomputable def fld (L:List Int) (b:List Int) (k:Nat):List Int:=(List.range k).foldl (fun b i=>mnI b (rot L i)) b
noncomputable def lsI (L:List Int):List Int:=fld L.reverse (fld L L L.length) L.length
theorem Ziq: ∀ {xs ys:List Int},∃ b,ltL (nts xs) (nts ys)=some b
 | [],[]=>⟨_,rfl⟩
 | [],_ :: _=>⟨_,rfl⟩
 |_ :: _,[]=>⟨_,rfl⟩
 |x :: xs,y :: ys=>by
  obtain ⟨b,hb⟩:=Ziq (xs:=xs) (ys:=ys)
  show ∃ b,(match ltE (.int x) (.int y) with | none=>none | some b=>if ltL.eqX (.int x) (.int y)=true then ltL (nts xs) (nts ys) else some b)=some b
  rw[hb]
  simp only[ltE]
  split<;>exact ⟨_,rfl⟩
theorem Zir: ∀ {xs ys:List Int},Za6 (nts xs) (nts ys)=true
 | [],[]=>rfl
 | [],_ :: _=>rfl
 |_ :: _,[]=>rfl
 |x :: xs,y :: ys=>by
  show ((ltE (.int x) (.int y)).isSome && Za6 (nts xs) (nts ys))=true
  rw[Zir]
  rfl
theorem Zpx {xs ys:List Int} (h1:M[n]?=some (.lst (nts xs))) (h2:M[m]?=some (.lst (nts ys))):wO (bMinL [.ref n,.ref m] M) Q E=Q (if ltI ys xs=true then .ref m else .ref n) M:=by
 have:bMinL [.ref n,.ref m] M= .ok (if ltI ys xs=true then .ref m else .ref n) M:=by
  obtain ⟨b,hb⟩:=Ziq (xs:=ys) (ys:=xs)
  simp only[bMinL,h1,h2,Zir,if_true,hb,ltI,Option.getD_some]
 rw[this]
 rfl
theorem ZfO {b:List Int} {k:Nat}:fld L b (k + 1)=mnI (fld L b k) (rot L k):=by
 unfold fld
 rw[List.range_succ,List.foldl_append]
 rfl
theorem Zis {A b0:List Int} {k r:Nat} {o:Nat} {x0:Option D} (hA:A.length<=1000) (hk:k < A.length) (hr:M[r]?=some (.lst (nts A))) (ho:M[o]?=some (.lst (nts (fld A b0 k))))
  (hN: ∀ o' M',Kp M M'->(o'=o\/M.length<=o')->M'[o']?=some (.lst (nts (fld A b0 (k + 1))))->N [x0,some (.ref o'),some (.ref r),some (.int k)] M'):wS (Zbc [x0,some (.ref o),some (.ref r),some (.int k)] M) N R B C E:=by
 have hrn:=Zw hr
 have hon:=Zw ho
 have ek:((k:Nat):Int).toNat=k:=by omega
 simp![Zbc,hr]
 rw[ek]
 refine ⟨by rw[List.length_drop,List.length_take];omega,?_⟩
 have K1:Kp M (M ++ [SO.lst (nts (A.drop k)),SO.lst (nts (A.take k)),SO.lst (nts (A.drop k ++ A.take k))]):=Kp.app
 have r1:(M ++ [SO.lst (nts (A.drop k)),SO.lst (nts (A.take k)),SO.lst (nts (A.drop k ++ A.take k))])[M.length + 2]?=some (.lst (nts (rot A k))):=by rw[Zj8];rfl
 generalize M ++ [SO.lst (nts (A.drop k)),SO.lst (nts (A.take k)),SO.lst (nts (A.drop k ++ A.take k))]=M1 at *
 have o1:=K1.get ho
 rw[Zpx o1 r1]
 by_cases c:ltI (rot A k) (fld A b0 k)=true
 ·rw[if_pos c]
  simp![Zn]
  exact hN _ _ K1 (.inr (by omega)) (by rw[r1,ZfO,mnI,if_pos c])
 ·rw[if_neg c]
  simp![Zn]
  exact hN _ _ K1 (.inl rfl) (by rw[o1,ZfO,mnI,if_neg c])
theorem ZdL (h:M[m]?=some (.lst (nts L))) (hl:L.length<=1000) (q: ∀ o M',Kp M M'->m<=o->M'[o]?=some (.lst (nts (lsI L)))->Q (.ref o) M'):wO (F_law_least [.ref m] M) Q E:=by
 have hm:=Zw h
 simp![F_law_least,Zc0,ZrG,h,ZpR]
 have K1:Kp M (M ++ [SO.lst (nts L).reverse]):=Kp.app
 have r1:(M ++ [SO.lst (nts L).reverse])[M.length]?=some (.lst (nts L.reverse)):=by rw[ZdF];unfold nts;rw[List.map_reverse];rfl
 have m1:=K1.get h
 generalize M ++ [SO.lst (nts L).reverse]=M1 at *
 generalize M.length=rv at *
 refine Ze0 (fun t ρ M'=>Kp M1 M'/\ ∃ o x2 x3,ρ=[some (.ref m),some (.ref o),x2,x3]/\m<=o/\M'[o]?=some (.lst (nts (if t=0 then L else if t=1 then fld L L L.length else lsI L)))) _ 0 _ M1 ⟨Kp.refl,m,_,_,rfl,Nat.le_refl _,m1⟩ ?_ ?_
 ·rintro t ρ M2 ht ⟨K2,o,x2,x3,rfl,mo,ho⟩
  have:t=0\/t=1:=by simp at ht;omega
  rcases this with rfl | rfl
  ·have m2:=K2.get m1
   simp only[List.getElem_cons_zero]
   simp![Zbd,m2]
   refine ⟨by omega,?_⟩
   refine Zej (fun k ρ M'=>Kp M1 M'/\ ∃ o x3,ρ=[some (.ref m),some (.ref o),some (.ref m),x3]/\m<=o/\M'[o]?=some (.lst (nts (fld L L k)))) ⟨K2,o,_,rfl,mo,ho⟩ ?_ ?_
   ·rintro k ρ M3 hk ⟨K3,o,x3,rfl,mo,ho⟩
    rw[show (0:Int) + (k:Int)=k by omega]
    simp![Zn]
    exact Zis hl (by omega) (K3.get m1) ho fun o M4 K4 no ho=>⟨K3.trans K4,o,_,rfl,by have:=Zw m1;have:=K3.1;omega,ho⟩
   ·rintro ρ M3 ⟨K3,o,x3,rfl,mo,ho⟩
    exact ⟨K3,o,_,_,rfl,mo,ho⟩
  ·have m2:=K2.get r1
   simp only[List.getElem_cons_succ,List.getElem_cons_zero]
   simp![Zbd,m2]
   refine ⟨by rw[List.length_reverse];omega,?_⟩
   refine Zej (fun k ρ M'=>Kp M1 M'/\ ∃ o x3,ρ=[some (.ref m),some (.ref o),some (.ref rv),x3]/\m<=o/\M'[o]?=some (.lst (nts (fld L.reverse (fld L L L.length) k)))) ⟨K2,o,_,rfl,mo,ho⟩ ?_ ?_
   ·rintro k ρ M3 hk ⟨K3,o,x3,rfl,mo,ho⟩
    rw[show (0:Int) + (k:Int)=k by omega]
    simp![Zn]
    exact Zis (by rw[List.length_reverse];exact hl) (by omega) (K3.get r1) ho fun o M4 K4 no ho=>⟨K3.trans K4,o,_,rfl,by have:=Zw m1;have:=K3.1;omega,ho⟩
   ·rintro ρ M3 ⟨K3,o,x3,rfl,mo,ho⟩
    rw[List.length_reverse] at ho
    exact ⟨K3,o,_,_,rfl,mo,ho⟩
 ·rintro ρ M2 ⟨K2,o,x2,x3,rfl,mo,ho⟩
  simp![Zn]
  exact q o M2 (K1.trans K2) mo ho
theorem ZfP {d:Nat} {g:List Int} (hd:M[d]?=some (.lst (nts g))): ∀ (ps:List Nat) (fs:List (List Int)),ps.length=fs.length->(∀ (j p:Nat),ps[j]?=some p->M[p]?=some (SO.lst (nts (fs.getD j []))))->eqs M (.ref d) (ps.map D.ref)=some (fs.map fun f=>decide (f=g))
 | [],[],_,_=>rfl
 | [],_ :: _,h,_=>by simp at h
 |_ :: _,[],h,_=>by simp at h
 |p :: ps,f :: fs,h,hp=>by
  have e1:eqF 12 M (.ref p) (.ref d)=some (decide (f=g)):=Zoc (hp 0 p rfl) hd
  have e2:=ZfP hd ps fs (by simpa using h) fun j p hj=>hp (j + 1) p (by simpa using hj)
  show (match eqF 12 M (.ref p) (.ref d) with | some b=>(match eqs M (.ref d) (ps.map D.ref) with | some bs=>some (b :: bs) | none=>none) | none=>none)=_
  rw[e1,e2]
  rfl
theorem Zti {u v:Pt} (h:Wg u v) (e:X u v=1):seg u v=[u]:=by
 have f:=CB.Zdl h
 obtain ⟨f1,f2,f3⟩:=f
 have:X (CB.fbv u v) v=0:=by omega
 unfold CB.seg
 rw[this]
 unfold hj
 rw[dif_neg (by omega)]
 rfl
theorem ZfQ: ∀ (L:List Pt) (z:Pt),Wgs (L ++ [z])->Ch (L ++ [z])->Zbr (L ++ [z])=L
 | [],_,_,_=>rfl
 | [a],z,hw,hc=>by
  show seg a z ++ []=[a]
  rw[Zti hw.1 hc.1]
  rfl
 |a :: b :: l,z,hw,hc=>by
  show seg a b ++ Zbr ((b :: l) ++ [z])=_
  rw[Zti hw.1 hc.1,ZfQ (b :: l) z hw.2 hc.2]
  rfl
theorem ZjH {rs:List Pt} (hs:Smo rs) (hb:Nr 200 rs):lrd rs=rs:=by
 have w:=hs.rn.wgs hb
 obtain ⟨r0,r,rfl⟩:=List.exists_cons_of_ne_nil hs.ne
 refine ZfQ (r0 :: r) r0 w (CB.Zpi _ fun L a b R e=> ?_)
 have e':(r0 :: r) ++ [r0]=L ++ a :: b :: R:=e
 have ll:L.length < (r0 :: r).length:=by
  have:=congrArg List.length e'
  simp at this ⊢
  omega
 have ha:cy (r0 :: r) L.length=a:=by
  rw[Zcs ll]
  have:((r0 :: r) ++ [r0])[L.length]?=some a:=by rw[e'];simp
  rw[List.getElem?_append_left ll,List.getElem?_eq_getElem ll] at this
  exact Option.some.inj this
 have hb':cy (r0 :: r) (L.length + 1)=b:=by
  have g:((r0 :: r) ++ [r0])[L.length + 1]?=some b:=by rw[e'];simp
  by_cases c:L.length + 1 < (r0 :: r).length
  ·rw[show ((L.length:Int) + 1)=(L.length + 1:Nat) by omega,Zcs c]
   rw[List.getElem?_append_left c,List.getElem?_eq_getElem c] at g
   exact Option.some.inj g
  ·have c2:L.length + 1=(r0 :: r).length:=by omega
   rw[show ((L.length:Int) + 1)=((0:Nat):Int) + (r0 :: r).length by omega,Z2,Zcs (by simp)]
   rw[List.getElem?_append_right (by omega),c2] at g
   simpa using g
 rw[<- ha,<- hb']
 exact hs.one _
noncomputable def pz (L:List Int):List Pt:=L.map fun t=>(t,1)
theorem ZjI {rs:List Pt} (hs:Smo rs):mkr rs rs=pz (Zo rs):=by
 unfold mkr pz Zo
 rw[List.map_map]
 refine List.map_congr_left fun i hi=> ?_
 rw[if_pos (Zkc hs.ne)]
 rfl
noncomputable def mnk (L:List Int):Bool:=(List.range L.length).all fun i=>[false,true].all fun b=> !((List.range L.length).all fun i'=>[false,true].all fun b'=> !ltP (rdg (pz L) i' b') (rdg (pz L) i b)) || (rdg (pz L) i b).map (·.1) == lsI L
noncomputable def fnd (L:List Int):Bool:=(List.range 16).any fun j=>lsI L == ra j
theorem Zr3:([3,4,5,6,7,8,9].all fun n=>(RT.al n).all fun L=>mnk L && fnd L)=true:=by decide +kernel
theorem Zpy: ∀ k:Nat,k < 16->((List.range 16).map fun j=>decide (ra j=ra k)).findIdx? id=some k:=by decide +kernel
theorem Zpz: ∀ k:Nat,k < 16->((List.range 16).map fun j=>decide (ra j=ra k)).countP id=1:=by decide +kernel
theorem ZpA: ∀ k:Nat,k < 16->lsI (Zo (rnd (ra k)))=ra k:=by decide +kernel
structure One (rs:List Pt):Prop where
 sm:Smo rs
 nr:Nr 200 rs
 l9:rs.length<=9
 ge:RT.ge2 (Zo rs)=true
theorem One.row {rs:List Pt} (h:One rs):(∃ j,j < 16/\lsI (Zo rs)=ra j)/\ ∀ i b,i < rs.length->(∀ i' b',i' < rs.length->ltP (rdg (pz (Zo rs)) i' b') (rdg (pz (Zo rs)) i b)=false)->(rdg (pz (Zo rs)) i b).map (·.1)=lsI (Zo rs):=by
 have m:=RT.cls rs.length rfl h.l9 h.sm h.ge
 have l3:=h.sm.len
 have l9:=h.l9
 have e:=List.all_eq_true.mp Zr3 rs.length (by simp;omega)
 have e:=List.all_eq_true.mp e _ m
 rw[Bool.and_eq_true] at e
 obtain ⟨e1,e2⟩:=e
 have tl:(Zo rs).length=rs.length:=ZL
 refine ⟨?_,fun i b hi hm=> ?_⟩
 ·unfold fnd at e2
  obtain ⟨j,hj,e⟩:=List.any_eq_true.mp e2
  exact ⟨j,List.mem_range.mp hj,by simpa using e⟩
 ·unfold mnk at e1
  have e:=List.all_eq_true.mp e1 i (by rw[List.mem_range,tl];exact hi)
  have e:=List.all_eq_true.mp e b (by cases b<;>simp)
  have al:((List.range (Zo rs).length).all fun i'=>[false,true].all fun b'=> !ltP (rdg (pz (Zo rs)) i' b') (rdg (pz (Zo rs)) i b))=true:=by
   rw[List.all_eq_true]
   intro i' hi'
   rw[List.mem_range,tl] at hi'
   rw[List.all_eq_true]
   intro b' _
   rw[hm i' b' hi']
   rfl
  rw[al] at e
  simpa using e
variable {rs:List Pt}
theorem ZpB (h:M[n]?=some (.lst (prs rs))) (hr:Rn rs) (hb:Nr 200 rs) (hl:rs.length<=61) (hll:(lrd rs).length<=1000000)
  (q: ∀ i b o M',Kp M M'->i < (lrd rs).length->(∀ i' b',i' < (lrd rs).length->ltP (rdg (mkr rs (lrd rs)) i' b') (rdg (mkr rs (lrd rs)) i b)=false)->M'[o]?=some (.lst (prs (rdg (mkr rs (lrd rs)) i b)))->Q (.ref o) M'):wO (CX.F_least_row [.ref n] M) Q E:=by
 simp![CX.F_least_row,CX.Zbo]
 refine Zin h hr hb hl hll fun i b o M' K hi hm _ r=> ?_
 simp![Zn]
 exact q i b o M' K hi hm r
theorem Zr4 {xs:List D} {fs:Av} {ρ:Ro}:wO (Zqu ZcT (eC (.con xs)) fs ρ M) Q E=wO (fs ρ M) (kU (ZcT (.con xs)) Q E) E:=by
 show wO ((fs ρ M).bind fun ds M2=>ZcT (.con xs) ds M2) Q E=_
 exact Zt
theorem Zit {F:List Int}: ∀ (rows:List (List Int)),eqs M (.tup (nts F)) (rows.map fun r=>D.con (r.map D.int))=some (rows.map fun r=>decide (r=F))
 | []=>rfl
 |r :: rows=>by
  have e1:eqF 12 M (.con (r.map D.int)) (.tup (nts F))=some (decide (r=F)):=by
   show eqL (eqF 11 M) (nts r) (nts F)=_
   exact Zkb
  show (match eqF 12 M (.con (r.map D.int)) (.tup (nts F)) with | some b=>(match eqs M (.tup (nts F)) (rows.map fun (r:List Int)=>D.con (r.map D.int)) with | some bs=>some (b :: bs) | none=>none) | none=>none)=_
  rw[e1,Zit rows]
  rfl
theorem ZuL:Za2=(List.range 16).map ra:=by decide +kernel
theorem ZpC {j:Nat} (hj:j < 16):wO (ZcT (.con (Za2.map fun r=>D.con (r.map D.int))) [.tup (nts (ra j))] M) Q E=Q (.int j) M:=by
 have e:ZcT (.con (Za2.map fun r=>D.con (r.map D.int))) [.tup (nts (ra j))] M= .ok (.int (j:Nat)) M:=by
  have f:(Za2.map fun r=>decide (r=ra j)).findIdx? id=some j:=by
   rw[ZuL,List.map_map]
   exact Zpy j hj
  simp only[ZcT,Zit,f]
 rw[e]
 rfl
theorem Zkw {j:Nat} (h:M[n]?=some (.lst (prs rs))) (o:One rs) (hj:j < 16) (ej:lsI (Zo rs)=ra j) (q: ∀ M',Kp M M'->Q (.int j) M'):wO (F_kind_of [.ref n] M) Q E:=by
 have hn:=Zw h
 have l3:=o.sm.len
 have l9:=o.l9
 obtain ⟨mi,hmi,mg⟩: ∃ mi,(Zo rs).min?=some mi/\ -2<=mi:=by
  cases e:(Zo rs).min? with
  |none=>
   rw[List.min?_eq_none_iff] at e
   have z:(Zo rs).length=0:=by rw[e];rfl
   rw[ZL] at z
   omega
  |some v=>exact ⟨v,rfl,RT.Zcl.mp o.ge v (List.min?_mem e)⟩
 simp![F_kind_of,ZeD,F_ask_one,ZeB,Zr1]
 refine CE.Zer h o.sm (by omega) (fun x hx=>by have:=o.nr x hx;omega) ?_
 have K1:Kp M (M ++ [SO.lst (nts (Zo rs))]):=Kp.app
 simp![CC.Zb4,hmi]
 have h1:=K1.get h
 generalize M ++ [SO.lst (nts (Zo rs))]=M1 at *
 unfold ZnH
 rw[Zr4]
 have ls:=ZjH o.sm o.nr
 have mk:=ZjI o.sm
 simp![Zpw]
 refine ZpB h1 o.sm.rn o.nr (by omega) (by rw[ls];omega) fun i b ol M2 K2 hi hm r2=> ?_
 rw[ls] at hi hm r2
 rw[mk] at hm r2
 have fst:=o.row.2 i b hi hm
 rw[ej] at fst
 generalize rdg (pz (Zo rs)) i b=R at *
 have rl:R.length=(ra j).length:=by rw[<- fst,List.length_map]
 have r9:=(ZjG hj).l3
 simp![Zn]
 refine Zta (fun ρ=> ∃ x y,ρ=[x,y]) (fun i=> .int (cn (ra j) i)) r2 (by rw[Zy];omega) ⟨_,_,rfl⟩ ?_ ?_
 ·rintro k hk ρ Lx ⟨x,y,rfl⟩
  rw[Zy] at hk
  rw[CC.ZbD]
  have e:(cy R k).1=cn (ra j) k:=by
   rw[Zcs hk,ZfF (by omega)]
   simp only[<- fst,List.getElem_map]
  simp![Zn]
  exact ⟨⟨_,_,rfl⟩,by rw[e]⟩
 have er:(List.range (prs R).length).map (fun (i:Nat)=>D.int (cn (ra j) i))=nts (ra j):=by
  rw[Zy,rl]
  apply List.ext_getElem?
  intro k
  unfold nts
  by_cases c:k < (ra j).length
  ·rw[List.getElem?_map,List.getElem?_range c,List.getElem?_map,List.getElem?_eq_getElem c]
   simp[ZfF c]
  ·rw[List.getElem?_eq_none (by simp;omega),List.getElem?_eq_none (by simp;omega)]
 rw[er]
 have K3:Kp M2 (M2 ++ [SO.lst (nts (ra j))]):=Kp.app
 have r3:(M2 ++ [SO.lst (nts (ra j))])[M2.length]?=some (.lst (nts (ra j))):=by simp
 generalize M2 ++ [SO.lst (nts (ra j))]=M3 at *
 simp![CU.Zuy r3]
 rw[ZpC hj]
 exact q _ (K1.trans (K2.trans K3))
theorem Zr5 (i:Int):T rs (i % rs.length)=T rs i:=by
 unfold T
 have e1:cy rs (i % rs.length - 1)=cy rs (i - 1):=by
  rw[show i % (rs.length:Int) - 1=i % rs.length + -1 by omega,show i - 1=i + -1 by omega]
  exact Zpn i (-1)
 rw[e1,Zpn i 1]
theorem Zdo (ne:rs≠[]):RT.ge2 (Zo rs)=true ↔ ∀ i:Int,-2<=T rs i:=by
 rw[RT.Zcl]
 constructor
 ·intro h i
  have e:=Za1 (i:=i) (m:=rs.length) (by have:=List.length_pos_iff.mpr ne;omega)
  have:=h (T rs ((i % rs.length).toNat:Nat)) (by unfold Zo;exact List.mem_map.mpr ⟨(i % rs.length).toNat,List.mem_range.mpr e.1,rfl⟩)
  rw[Int.toNat_of_nonneg e.2,Zr5] at this
  exact this
 ·intro h t ht
  unfold Zo at ht
  obtain ⟨i,-,rfl⟩:=List.mem_map.mp ht
  exact h i
theorem One.rot {k:Nat} (h:One rs) (hk:k<=rs.length):One (rs.drop k ++ rs.take k):=by
 have s:=h.sm.rot (k:=k) hk
 refine ⟨s,h.nr.rot,by rw[List.length_append,List.length_drop,List.length_take];have:=h.l9;omega,(Zdo s.ne).mpr fun i=> ?_⟩
 unfold T
 rw[Zct hk,Zct hk]
 have:=(Zdo h.sm.ne).mp h.ge (i + k)
 unfold T at this
 rw[show i - 1 + (k:Int)=i + k - 1 by omega,show i + 1 + (k:Int)=i + k + 1 by omega]
 exact this
noncomputable def mi (p:Pt):Pt:=(p.1,0 - p.2)
theorem Zr6 (p q:Pt):X (mi p) (mi q)= -1 * X p q:=by unfold X mi;simp only;grind
theorem One.mir (h:One rs):One (rs.map mi).reverse:=by
 have ne:=h.sm.ne
 have ne':rs.map mi≠[]:=by simpa using ne
 have s:Smo (rs.map mi).reverse:=CA.ZlU (by rw[List.length_map];exact h.sm.len) (fun i=>by rw[Zb3 ne,Zb3 ne,Zr6,h.sm.one];rfl) (h.sm.fan.flip Zr6)
 refine ⟨s,fun p hp=> ?_,by rw[List.length_reverse,List.length_map];exact h.l9,(Zdo s.ne).mpr fun i=> ?_⟩
 ·obtain ⟨x,hx,rfl⟩:=List.mem_map.mp (List.mem_reverse.mp hp)
  have:=h.nr x hx
  unfold mi
  simp only
  omega
 ·have:=(Zdo ne).mp h.ge (-1 - i)
  unfold T at this ⊢
  rw[CA.ZfI ne',CA.ZfI ne',Zb3 ne,Zb3 ne,Zr6]
  rw[show -1 - (i - 1)= -1 - i + 1 by omega,show -1 - (i + 1)= -1 - i - 1 by omega]
  have:=Zcx (p:=cy rs (-1 - i + 1)) (q:=cy rs (-1 - i - 1))
  omega
theorem One.turn {ss:List Pt} (h:One rs) (hx: ∀ i j:Int,X (cy ss i) (cy ss j)=X (cy rs i) (cy rs j)) (s1:Smo ss) (s2:Nr 200 ss) (s3:ss.length=rs.length):One ss:=by
 refine ⟨s1,s2,by rw[s3];exact h.l9,(Zdo s1.ne).mpr fun i=> ?_⟩
 have:=(Zdo h.sm.ne).mp h.ge i
 unfold T at this ⊢
 rw[hx]
 exact this
theorem Zgu (h:M[n]?=some (.lst (prs rs))) (ne:rs≠[]) (hl:rs.length<=1000) (q: ∀ M',Kp M M'->M'[M.length]?=some (.lst (prs (rs.map mi).reverse))->Q (.ref M.length) M'):wO (F_law_mirrored [.ref n] M) Q E:=by
 have hn:=Zw h
 simp![F_law_mirrored,ZbQ,h]
 have rl:(prs rs).reverse.length=rs.length:=by rw[List.length_reverse,Zy]
 have re:(prs rs).reverse=prs rs.reverse:=by unfold prs;rw[List.map_reverse]
 refine ZpS (xs:=(prs rs).reverse) (fun ρ=> ∃ x y,ρ=[x,y]) (fun (i:Nat)=>pr (cy (rs.map mi).reverse i).1 (cy (rs.map mi).reverse i).2) (by omega) (by simp[cnt,Zy]) ⟨_,_,rfl⟩ (fun L i hi=> ?_) ?_ ?_
 ·rw[<- Zy]
  exact Zou (by rw[Zci hn];exact h) (by simpa using hi)
 ·rintro i hi ρ L ⟨x,y,rfl⟩
  have ei:(prs rs).reverse[i]=pr (cy rs.reverse i).1 (cy rs.reverse i).2:=by
   simp only[re]
   exact CC.ZbD (by rw[<- re];exact hi)
  have nr:rs.reverse≠[]:=by simpa using ne
  have e2:(rs.map mi).reverse=rs.reverse.map mi:=by rw[List.map_reverse]
  have e3:cy (rs.reverse.map mi) i=mi (cy rs.reverse i):=Zb3 nr
  rw[ei]
  simp![Zn]
  refine ⟨⟨_,_,rfl⟩,?_⟩
  rw[e2,e3]
  rfl
 have en:((List.range (prs rs).reverse.length).map fun (i:Nat)=>pr (cy (rs.map mi).reverse i).1 (cy (rs.map mi).reverse i).2)=prs (rs.map mi).reverse:=by
  rw[rl]
  conv=>rhs;rw[<- Zl4 (us:=(rs.map mi).reverse)]
  rw[List.length_reverse,List.length_map]
  unfold prs
  rw[List.map_map]
  rfl
 rw[en]
 exact q _ Kp.app (by simp)
noncomputable def bn (n:Nat):Int:=2 ^ (n - 3)
theorem Zme {n:Nat} (h:n<=10):bn n<=128/\1<=bn n:=by
 unfold bn
 have:n - 3=0\/n - 3=1\/n - 3=2\/n - 3=3\/n - 3=4\/n - 3=5\/n - 3=6\/n - 3=7:=by omega
 rcases this with e | e | e | e | e | e | e | e<;>rw[e]<;>decide
theorem Zmf {n:Nat} (h:3<=n):bn (n + 1)=2 * bn n:=by
 unfold bn
 rw[show n + 1 - 3=(n - 3) + 1 by omega,Int.pow_succ]
 omega
structure Gr1 (rs:List Pt):Prop where
 sm:Smo rs
 nr:Nr (bn rs.length) rs
 l9:rs.length<=9
 ge:RT.ge2 (Zo rs)=true
theorem Gr1.one (h:Gr1 rs):One rs:=⟨h.sm,fun x hx=>by have:=h.nr x hx;have:=Zme (n:=rs.length) (by have:=h.l9;omega);omega,h.l9,h.ge⟩
theorem gr3:Gr1 [(1,0),(0,1),(-1,-1)]:=⟨CC.ZrH,fun x hx=>by simp at hx;rcases hx with rfl | rfl | rfl<;>decide,by decide,by rw[RT.Zpo CC.ZrH rfl];decide⟩
theorem gr4 {t:Int} (h:0<=t/\t<=2):Gr1 [(1,0),(0,1),(-1,t),(0,-1)]:=by
 refine ⟨CC.ZpT t,fun x hx=> ?_,by simp,?_⟩
 ·have:bn [((1:Int),(0:Int)),(0,1),(-1,t),(0,-1)].length=2:=rfl
  rw[this]
  simp at hx
  rcases hx with rfl | rfl | rfl | rfl<;>simp<;>omega
 ·have:t=0\/t=1\/t=2:=by omega
  rcases this with rfl | rfl | rfl<;>decide +kernel
theorem Gr1.ins {k:Nat} (h:Gr1 rs) (hk:k < rs.length) (hl:rs.length < 9) (hg:RT.ge2 (Zo (ins rs k ((cy rs k).1 + (cy rs (k + 1)).1,(cy rs k).2 + (cy rs (k + 1)).2)))=true):Gr1 (ins rs k ((cy rs k).1 + (cy rs (k + 1)).1,(cy rs k).2 + (cy rs (k + 1)).2)):=by
 have l:=ZdG (rs:=rs) (p:=((cy rs k).1 + (cy rs (k + 1)).1,(cy rs k).2 + (cy rs (k + 1)).2)) hk
 refine ⟨h.sm.ins hk,?_,by omega,hg⟩
 rw[l,Zmf h.sm.len]
 have b:=Zme (n:=rs.length) (by omega)
 have b1:=Nr.cy h.nr h.sm.ne k
 have b2:=Nr.cy h.nr h.sm.ne (k + 1)
 exact Nr.ins (fun x hx=>by have:=h.nr x hx;omega) (by simp only;omega)
theorem ZpD {c:Int} (hc:0<=c) (q: ∀ ss m M',One ss->M'[m]?=some (.lst (prs ss))->Kp M M'->Q (.ref m) M'):wO (F_law_ones [.int c] M) Q E:=by
 simp![F_law_ones,Zdn]
 have m7:=Int.emod_nonneg c (show (7:Int)≠0 by decide)
 have m7':=Int.emod_lt_of_pos c (show (0:Int) < 7 by decide)
 have m4':=Int.emod_lt_of_pos (c / 7) (show (0:Int) < 4 by decide)
 refine Zre (fun ρ M'=> ∃ ss m,ρ=[some (.int c),some (.int (3 + c % 7)),some (.ref m),none,none,none,none,none,none]/\Gr1 ss/\M'[m]?=some (.lst (prs ss))/\Kp M M') ?_ ?_
 ·refine brS (fun z=> ?_) (fun z=> ?_)
  ·simp![Zn]
   exact ⟨_,_,rfl,gr4 (t:=c / 7 % 4 - 1) (by omega),by rw[Zj8];rfl,Kp.app⟩
  ·simp![Zn]
   exact ⟨_,_,rfl,gr3,by rw[ZdF];rfl,Kp.app⟩
 rintro _ M1 ⟨ss,m,rfl,g1,r1,K1⟩
 have d28:=Int.ediv_nonneg hc (show (0:Int)<=28 by decide)
 simp![Zn]
 have hct:3 + c % 7<=9:=by omega
 generalize c / 28=c1 at *
 generalize 3 + c % 7=ct at *
 refine Zej (fun i ρ M'=> ∃ ss m c1 x3 x4 x5 x6 x7 x8,ρ=[some (.int c1),some (.int ct),some (.ref m),x3,x4,x5,x6,x7,x8]/\0<=c1/\Gr1 ss/\M'[m]?=some (.lst (prs ss))/\Kp M M') ⟨ss,m,c1,_,_,_,_,_,_,rfl,d28,g1,r1,K1⟩ ?_ ?_
 ·rintro i ρ M2 hi ⟨ss,m,c1,x3,x4,x5,x6,x7,x8,rfl,hc1,g,r,K⟩
  have hm:=Zw r
  have l3:=g.sm.len
  have l9:=g.l9
  have a0:=Int.emod_nonneg c1 (show (ss.length:Int)≠0 by omega)
  have a1:=Int.emod_lt_of_pos c1 (show (0:Int) < (ss.length:Int) by omega)
  have d9:=Int.ediv_nonneg hc1 (show (0:Int)<=9 by decide)
  obtain ⟨kk,hkk⟩: ∃ kk:Nat,c1 % (ss.length:Int)=kk:=⟨(c1 % (ss.length:Int)).toNat,by omega⟩
  have e1:=Za1 (i:=(kk:Int) + 1) (m:=ss.length) (by omega)
  have le:((kk:Int) + 1).toNat=kk + 1:=by omega
  simp![Zcb,r,hkk,ZcU,Zdk,le]
  refine ⟨by rw[List.length_take];omega,by rw[List.length_take,List.length_drop];omega,?_⟩
  have gi:=fun hl hg=>Gr1.ins (k:=kk) g (by omega) hl hg
  have li:=ZdG (rs:=ss) (k:=kk) (p:=((cy ss kk).1 + (cy ss (kk + 1)).1,(cy ss kk).2 + (cy ss (kk + 1)).2)) (by omega)
  have bi:Nr 18446744073709551615 (ins ss kk ((cy ss kk).1 + (cy ss (kk + 1)).1,(cy ss kk).2 + (cy ss (kk + 1)).2)):=by
   have b:=Zme (n:=ss.length) (by omega)
   have b1:=Nr.cy g.nr g.sm.ne kk
   have b2:=Nr.cy g.nr g.sm.ne (kk + 1)
   exact Nr.ins (fun x hx=>by have:=g.nr x hx;omega) (by simp only;omega)
  generalize hA:M2 ++ [SO.lst (prs (ss.take (kk + 1))),SO.lst [D.tup [D.int ((cy ss kk).1 + (cy ss (kk + 1)).1),D.int ((cy ss kk).2 + (cy ss (kk + 1)).2)]],SO.lst (prs (ss.take (kk + 1) ++ [((cy ss kk).1 + (cy ss (kk + 1)).1,(cy ss kk).2 + (cy ss (kk + 1)).2)])),SO.lst (prs (ss.drop (kk + 1))),SO.lst (prs (ss.take (kk + 1) ++ ((cy ss kk).1 + (cy ss (kk + 1)).1,(cy ss kk).2 + (cy ss (kk + 1)).2) :: ss.drop (kk + 1)))]=M3
  have K3:Kp M2 M3:=by rw[<- hA];exact Kp.app
  have rn:M3[M2.length + 4]?=some (.lst (prs (ins ss kk ((cy ss kk).1 + (cy ss (kk + 1)).1,(cy ss kk).2 + (cy ss (kk + 1)).2)))):=by rw[<- hA,Zj8];rfl
  clear hA
  generalize M2.length + 4=on at *
  generalize ins ss kk ((cy ss kk).1 + (cy ss (kk + 1)).1,(cy ss kk).2 + (cy ss (kk + 1)).2)=ms at *
  refine Zua (fun b M'=>Kp M3 M'/\(b=true->(ss.length:Int) < ct/\RT.ge2 (Zo ms)=true)) ?_ ?_
  ·refine brO (fun z=> ?_) (fun z=> ?_)
   ·simp![Zio]
    refine CC.ZhY rn (by omega) (by omega) bi ?_
    have K4:Kp M3 (M3 ++ [SO.lst (nts (Zo ms))]):=Kp.app
    obtain ⟨v,hv⟩: ∃ v,(Zo ms).min?=some v:=by
     cases e:(Zo ms).min? with
     |some v=>exact ⟨v,rfl⟩
     |none=>
      rw[List.min?_eq_none_iff] at e
      have z:(Zo ms).length=0:=by rw[e];rfl
      rw[ZL] at z
      omega
    simp![CC.Zb4,hv]
    refine ⟨K4,fun u=>⟨z,?_⟩⟩
    have u:=of_decide_eq_true u
    rw[RT.Zcl]
    intro t ht
    have:=(List.min?_eq_some_iff.mp hv).2 t ht
    omega
   ·simp![Zn]
    exact ⟨Kp.refl,fun u=>by cases u⟩
  rintro b M4 ⟨K4,hb⟩
  simp![Zn]
  refine Zsv (fun z=> ?_) (fun z=> ?_)
  ·obtain ⟨z1,z2⟩:=hb z
   simp![Zn]
   exact ⟨ms,on,_,_,_,_,_,_,_,rfl,d9,gi (by omega) z2,K4.get rn,K.trans (K3.trans K4)⟩
  ·simp![Zn]
   exact ⟨ss,m,_,_,_,_,_,_,_,rfl,d9,g,(K3.trans K4).get r,K.trans (K3.trans K4)⟩
 ·rintro ρ M2 ⟨ss,m,c1,x3,x4,x5,x6,x7,x8,rfl,hc1,g,r,K⟩
  have o:=g.one
  simp![Zpv]
  refine CC.ZlR r o.sm o.nr (by have:=o.l9;omega) fun ts mt M3 hx t1 t2 t3 t4 t5 t6=> ?_
  have ot:=o.turn hx t1 t2 t3
  have K3:Kp M2 M3:=⟨t5,t6⟩
  have l3:=t1.len
  have l9:=ot.l9
  have d12:=Int.ediv_nonneg hc1 (show (0:Int)<=1000000000000 by decide)
  have a0:=Int.emod_nonneg (c1 / 1000000000000) (show (ts.length:Int)≠0 by omega)
  have a1:=Int.emod_lt_of_pos (c1 / 1000000000000) (show (0:Int) < (ts.length:Int) by omega)
  obtain ⟨kk,hkk⟩: ∃ kk:Nat,c1 / 1000000000000 % (ts.length:Int)=kk:=⟨(c1 / 1000000000000 % (ts.length:Int)).toNat,by omega⟩
  have le:((kk:Nat):Int).toNat=kk:=by omega
  have hm3:=Zw t4
  simp![t4,hkk,le]
  refine ⟨by rw[List.length_drop,List.length_take];omega,q _ _ _ (ot.rot (k:=kk) (by omega)) (by rw[Zj8];rfl) (K.trans (K3.trans Kp.app))⟩
noncomputable def bs (k:Nat) (t:Int):List Pt:=
 if k=0 then [(1,0),(0,1),(-1,-1)] else if k=1 then [(1,0),(0,1),(-1,t),(0,-1)]
 else if k=2 then ([(1,0),(0,1),(-1,t),(0,-1)].map (CD.gg 0 (-1) 1 0)).drop 3 ++ ([(1,0),(0,1),(-1,t),(0,-1)].map (CD.gg 0 (-1) 1 0)).take 3
 else [(1,0),(0,1),(-1,t),(0,-1)].map (CD.gg 1 (-1) 0 1)
theorem ZpE (k:Nat) (t:Int):Smo (bs k t):=by
 unfold bs
 split
 ·exact CC.ZrH
 ·split
  ·exact CC.ZpT t
  ·split
   ·exact ((CC.ZpT t).map fun p q=>by rw[CD.Zkr];omega).rot (by simp)
   ·exact (CC.ZpT t).map fun p q=>by rw[CD.Zkr];omega
noncomputable def bld:List Pt->List Nat->Option (List Pt)
 |rs,[]=>some rs
 |rs,k :: ks=>if k < rs.length then bld (ins rs k ((cy rs k).1 + (cy rs (k + 1)).1,(cy rs k).2 + (cy rs (k + 1)).2)) ks else none
theorem Ziu: ∀ (ks:List Nat) {rs ss:List Pt},Smo rs->bld rs ks=some ss->Smo ss
 | [],_,_,h,e=>by cases e;exact h
 |k :: ks,rs,ss,h,e=>by
  unfold bld at e
  by_cases c:k < rs.length
  ·rw[if_pos c] at e
   exact Ziu ks (h.ins c) e
  ·rw[if_neg c] at e;cases e
noncomputable def tb:List (Nat × Int × List Nat):=[(0,0,[]),(1,2,[]),(1,1,[]),(1,0,[]),(1,1,[1]),(1,0,[1]),(1,1,[1,2]),(1,0,[1,1]),(1,1,[3,1]),(2,-1,[2,1]),(1,1,[3,1,2]),(2,-1,[2,1,1]),(3,-2,[0,1,2,3]),(1,1,[3,3,1,2]),(2,-1,[2,3,1,1]),(1,1,[3,3,3,1,2])]
theorem Zr7: ∀ j:Nat,j < 16->bld (bs (tb.getD j (0,0,[])).1 (tb.getD j (0,0,[])).2.1) (tb.getD j (0,0,[])).2.2=some (rnd (ra j)):=by decide +kernel
theorem ZpF: ∀ j:Nat,j < 16->RT.ge2 (Zo (rnd (ra j)))=true:=by decide +kernel
theorem Zmg {j:Nat} (hj:j < 16):One (rnd (ra j)):=by
 have ok:=ZjG hj
 have l:(rnd (ra j)).length=(ra j).length:=CT.ZdM
 exact ⟨Ziu _ (ZpE _ _) (Zr7 j hj),fun x hx=>by have:=ok.nr x hx;omega,by rw[l];exact ok.l3.2,ZpF j hj⟩
theorem Zmh {ns:List Int} {i r rr:Nat} {os ps:List Nat} {x4 x5 x6 x7 x8 x9:Option D} (hps:ps.length=16) (h0:M[rr]?=some (.lst (ps.map D.ref))) (hp: ∀ (j p:Nat),ps[j]?=some p->M[p]?=some (SO.lst (nts (ra j))))
  (hN: ∀ x4 x5 x6 x7 x8 M',Kp M M'->N [some (.rol (ns.map D.int)),some (.ref r),some (.ref rr),some (.int i),x4,x5,x6,x7,x8,x9] M'):wS (ZdQ [some (.rol (ns.map D.int)),some (.ref r),some (.ref rr),some (.int i),x4,x5,x6,x7,x8,x9] M) N R B C E:=by
 have l0:=Zw h0
 simp![ZdQ,Zkv]
 refine CC.Zeo (k:=i) fun c hc=> ?_
 have d2:=Int.ediv_nonneg hc (show (0:Int)<=2 by decide)
 simp![Zn]
 refine ZpD d2 fun ss m M1 o1 r1 K1=> ?_
 simp![Zn]
 refine Zre (fun ρ M'=> ∃ ss m,ρ=[some (.rol (ns.map D.int)),some (.ref r),some (.ref rr),some (.int i),some (.int c),some (.ref m),x6,x7,x8,x9]/\One ss/\M'[m]?=some (.lst (prs ss))/\Kp M M') ?_ ?_
 ·refine brS (fun z=> ?_) (fun z=> ?_)
  ·simp![Zn]
   refine Zgu r1 o1.sm.ne (by have:=o1.l9;omega) fun M2 K2 r2=> ?_
   simp![Zn]
   exact ⟨_,_,rfl,o1.mir,r2,K1.trans K2⟩
  ·simp![Zn]
   exact ⟨ss,m,rfl,o1,r1,K1⟩
 clear o1 r1 K1
 rintro _ M2 ⟨ss,m,rfl,o,r2,K2⟩
 have hm:=Zw r2
 obtain ⟨⟨j,hj,ej⟩,-⟩:=o.row
 have l9:=o.l9
 have l3:=o.sm.len
 simp![r2]
 have K3:Kp M2 (M2 ++ [SO.lst (prs ss)]):=Kp.app
 have r3:(M2 ++ [SO.lst (prs ss)])[M2.length]?=some (.lst (prs ss)):=by simp
 generalize M2 ++ [SO.lst (prs ss)]=M3 at *
 generalize M2.length=lt at *
 refine Zkw r3 o hj ej fun M4 K4=> ?_
 have r4:=K4.get r3
 have v4:=K4.get (K3.get r2)
 have e4:eqF 12 M4 (.ref lt) (.ref m)=some (decide (ss=ss)):=CU.ZlH (k:=9) r4 v4
 rw[decide_eq_true rfl] at e4
 simp![e4,Zio]
 refine CC.ZhY v4 (by omega) (by omega) (fun x hx=>by have:=o.nr x hx;omega) ?_
 have K5:Kp M4 (M4 ++ [SO.lst (nts (Zo ss))]):=Kp.app
 have r5:(M4 ++ [SO.lst (nts (Zo ss))])[M4.length]?=some (.lst (nts (Zo ss))):=by simp
 generalize M4 ++ [SO.lst (nts (Zo ss))]=M5 at *
 simp![Zn]
 refine ZdL r5 (by rw[ZL];omega) fun ol M6 K6 lo r6=> ?_
 rw[ej] at r6
 have KK:=(K2.trans K3).trans ((K4.trans K5).trans K6)
 have h6:=KK.get h0
 have p6: ∀ (j p:Nat),ps[j]?=some p->M6[p]?=some (SO.lst (nts (ra j))):=fun j p hj=>KK.get (hp j p hj)
 have pj:ps[j]?=some (ps[j]'(by omega)):=List.getElem?_eq_getElem (by omega)
 have at1:atI (ps.map D.ref) (j:Int)=some (D.ref (ps[j]'(by omega))):=ZeN (by rw[List.getElem?_map,pj];rfl)
 have e6:eqF 12 M6 (.ref (ps[j]'(by omega))) (.ref ol)=some (decide (ra j=ra j)):=Zoc (p6 j _ pj) r6
 rw[decide_eq_true rfl] at e6
 have es:=ZfP (M:=M6) (d:=ol) (g:=ra j) r6 ps ((List.range 16).map ra) (by simp[hps]) (fun k p hk=>by
  have:k < 16:=by have:=(List.getElem?_eq_some_iff.mp hk).1;omega
  rw[p6 k p hk]
  simp[this])
 have cj:(((List.range 16).map ra).map fun f=>decide (f=ra j)).countP id=1:=by
  rw[List.map_map]
  exact Zpz j hj
 simp![h6,at1,e6,es,cj]
 exact hN _ _ _ _ _ _ KK
theorem Zr8 {ns:List Int} (hns:ns.length<=63) (q: ∀ M',Q (.bl true) M'):wO (ZdR [.rol (ns.map D.int)] M) Q E:=by
 simp![ZdR,Zpr]
 refine Zip fun os M1 K1 hl ho hs=> ?_
 generalize M.length=r at *
 obtain ⟨g0,gs0⟩:=hs
 have ol:(os.map D.ref).length=16:=by simp[hl]
 have at': ∀ {i:Nat} (hi:i < (os.map D.ref).length),(os.map D.ref)[i]=D.ref (os[i]'(by simpa using hi)):=fun hi=>by simp
 have gs: ∀ {i:Nat} (hi:i < os.length),M1[os[i]]?=some (.lst (prs (rnd (ra i)))):=fun hi=>gs0 _ _ (by rw[List.getElem?_eq_getElem hi])
 simp![Zn]
 refine ZhQ (xs:=os.map D.ref) (Q:=fun M2=>_) (fun i ρ M'=>(∃ x,ρ=[x])/\ ∃ ps:List Nat,ps.length=i/\Kp M1 M'/\M'[M1.length]?=some (.lst (ps.map D.ref))/\(∀ p∈ps,M1.length < p)/\ ∀ (j p:Nat),ps[j]?=some p->M'[p]?=some (SO.lst (nts (ra j)))) _ 0 _ _ (by simp) (by rw[Ze1 g0];simp) ⟨⟨_,rfl⟩,[],rfl,Kp.app,by simp,by simp,fun j o z=>by simp at z⟩ (fun i ρ M' hi hI=> ?_) ?_ ?_
 ·obtain ⟨-,ps,-,K,-,-,-⟩:=hI
  exact Zem (K.get g0)
 ·rintro i ρ M' hi ⟨⟨x,rfl⟩,ps,hl',K,r0,ho,hp⟩
  have hi16:i < 16:=by omega
  have ri:=K.get (gs (i:=i) (by omega))
  have ok:=ZjG hi16
  have f5:(rnd (ra i)).length=(ra i).length:=CT.ZdM
  have lq:=ok.l3
  have lr0:=Zw r0
  rw[at' hi]
  simp![Zio]
  rw[ZnN]
  refine CC.ZhY ri (by omega) (by omega) (fun x hx=>by have:=ok.nr x hx;omega) ?_
  simp![Zn]
  have K2:Kp M' (M' ++ [SO.lst (nts (Zo (rnd (ra i))))]):=Kp.app
  have r1:(M' ++ [SO.lst (nts (Zo (rnd (ra i))))])[M'.length]?=some (.lst (nts (Zo (rnd (ra i))))):=by simp
  generalize M' ++ [SO.lst (nts (Zo (rnd (ra i))))]=M4 at *
  refine ZdL r1 (by rw[ZL];omega) fun o M5 K5 lo r5=> ?_
  rw[ZpA i hi16] at r5
  have K15:=K2.trans K5
  have r05:=K15.get r0
  have l05:=Zw r05
  rw[r05]
  refine ⟨by simp;omega,⟨_,rfl⟩,ps ++ [o],by simp[hl'],(K.trans K15).set (Nat.le_refl _),?_,fun z hz=> ?_,fun j z hz=> ?_⟩
  ·rw[List.getElem?_set_self l05];simp
  ·rcases List.mem_append.mp hz with hz | hz
   ·exact ho z hz
   ·simp at hz;omega
  ·by_cases c:j < ps.length
   ·rw[List.getElem?_append_left c] at hz
    have:=ho z (List.mem_of_getElem? hz)
    rw[List.getElem?_set_ne (by omega)]
    exact K15.get (hp j z hz)
   ·have:j=ps.length:=by
     have:=(List.getElem?_eq_some_iff.mp hz).1
     simp at this
     omega
    subst this
    simp at hz
    subst hz
    rw[List.getElem?_set_ne (by omega),hl']
    exact r5
 rintro ρ M4 ⟨-,ps,hl',K4,r0,-,hp⟩
 have pl:ps.length=16:=by omega
 have g4:=K4.get g0
 have gs4: ∀ {i:Nat} (hi:i < os.length),M4[os[i]]?=some (.lst (prs (rnd (ra i)))):=fun hi=>K4.get (gs hi)
 generalize M1.length=rr at *
 simp![Zn]
 refine ⟨by omega,?_⟩
 refine Zej (fun _ ρ M'=>Kp M4 M'/\ ∃ x3 x4 x5 x6 x7 x8 x9,ρ=[some (.rol (ns.map D.int)),some (.ref r),some (.ref rr),x3,x4,x5,x6,x7,x8,x9]) ⟨Kp.refl,_,_,_,_,_,_,_,rfl⟩ ?_ ?_
 ·rintro i ρ M5 hi ⟨K5,x3,x4,x5,x6,x7,x8,x9,rfl⟩
  rw[show (0:Int) + (i:Int)=i by omega]
  simp![Zn]
  exact Zmh (ps:=ps) (os:=os) pl (K5.get r0) (fun j p hj=>K5.get (hp j p hj)) fun _ _ _ _ _ M6 K6=>⟨K5.trans K6,_,_,_,_,_,_,_,rfl⟩
 rintro ρ M5 ⟨K5,x3,x4,x5,x6,x7,x8,x9,rfl⟩
 simp![Zkv]
 refine CC.Zeo (k:=2) fun c hc=> ?_
 have m1:=Int.emod_nonneg c (show (16:Int)≠0 by decide)
 have m2:=Int.emod_lt_of_pos c (show (0:Int) < 16 by decide)
 obtain ⟨a,ha⟩: ∃ a:Nat,c % 16=a:=⟨(c % 16).toNat,by omega⟩
 have pa:os[a]?=some (os[a]'(by omega)):=List.getElem?_eq_getElem (by omega)
 have at1:atI (os.map D.ref) (a:Int)=some (D.ref (os[a]'(by omega))):=ZeN (by rw[List.getElem?_map,pa];rfl)
 have g5:=K5.get g4
 have l5:=Zw g5
 have oa:=K5.get (gs4 (i:=a) (by omega))
 have la:=Zw oa
 generalize os[a]'(by omega)=oo at *
 simp![ha,g5,at1,oa]
 have r6:(M5 ++ [SO.lst (prs (rnd (ra a)))])[M5.length]?=some (.lst (prs (rnd (ra a)))):=by simp
 generalize M5 ++ [SO.lst (prs (rnd (ra a)))]=M6 at *
 refine Zkw r6 (Zmg (by omega)) (j:=a) (by omega) (ZpA a (by omega)) fun M7 K7=> ?_
 simp![Zn]
 exact q _
theorem law_true (ns:List Int) (h:ns.length<=63): ∃ M',ZdR [.rol (ns.map D.int)] []= .ok (.bl true) M':=by
 have w: ∀ M:Sto,∃ M',ZdR [.rol (ns.map D.int)] M= .ok (.bl true) M':=by
  intro M
  have w:wO (ZdR [.rol (ns.map D.int)] M) (fun d _=>d= .bl true) (fun _ _=>False):=Zr8 h fun _=>rfl
  obtain ⟨d,M',e,rfl⟩:=ZhO w
  exact ⟨M',e⟩
 exact w []
end
end K64
end
namespace K64
open PySem PySem.Spec L2 DL
noncomputable abbrev zz1 (P:Params) (s:String) (n:Nat) (v:Value):DictEntry:={ hash:=PyData.keyHash P (Str.ofString s),key:=Value.str (Str.ofString s) n,val:=v }
noncomputable abbrev zz2 (x:Array Value):Obj:={ cls:=Value.type "code",data:=Data.fields x }
noncomputable abbrev zz3 (s:String) (n:Nat):Value:=Value.str (Str.ofString s) n
noncomputable abbrev zz4 (n:Int):Value:=Value.int n 0
noncomputable def fO (n:Str) (st:Stmt) (cd:Nat) (m:Str) (t:Nat):Obj:=⟨.type "function",none,.func (PySem.W.fnOf n n (Zs st) (Zq st) (Zh st) .none .none .none (.str m t) none (.ref cd) .none),#[]⟩
noncomputable def Zcc (p:Program) (i:Nat):Stmt:=p.main.body.getD i (.Pass ⟨0,0,0,0⟩)
noncomputable def Kf (p:Program) (P:Params):PySem.W.Frag:=[(3,{ cls:=Value.type "dict",data:=Data.dict #[zz1 P "__name__" 165 (zz3 "law_rayround_k64_kinds_of_ones" 630),zz1 P "__doc__" 166 (Value.none),zz1 P "__package__" 167 (Value.none),zz1 P "__loader__" 168 (Value.builtin "__main__.__loader__#opaque"),zz1 P "__spec__" 169 (Value.none),zz1 P "__annotations__" 170 (Value.ref 6),zz1 P "__builtins__" 171 (Value.ref 4),zz1 P "__file__" 173 (zz3 "/claim/cut.py" 172),zz1 P "__cached__" 174 (Value.none),zz1 P "RayError" 206 (Value.ref 24),zz1 P "NotSmooth" 222 (Value.ref 37),zz1 P "NoWedge" 238 (Value.ref 49),zz1 P "NoRow" 254 (Value.ref 61),zz1 P "NoOne" 270 (Value.ref 73),zz1 P "crossed" 280 (Value.ref 82),zz1 P "following" 290 (Value.ref 89),zz1 P "unspanned" 299 (Value.ref 96),zz1 P "ask_smooth" 307 (Value.ref 103),zz1 P "numbers" 315 (Value.ref 108),zz1 P "gone_through" 326 (Value.ref 115),zz1 P "times_round" 333 (Value.ref 122),zz1 P "round_by" 340 (Value.ref 129),zz1 P "partner" 354 (Value.ref 136),zz1 P "first_behind" 364 (Value.ref 143),zz1 P "expanded" 374 (Value.ref 150),zz1 P "row" 382 (Value.ref 157),zz1 P "between" 395 (Value.ref 164),zz1 P "least_round" 407 (Value.ref 171),zz1 P "marked_row" 415 (Value.ref 176),zz1 P "first_reading" 432 (Value.ref 183),zz1 P "least_row" 439 (Value.ref 190),zz1 P "ROWS" 610 (Value.ref 207),zz1 P "ask_one" 617 (Value.ref 214),zz1 P "sixteen" 623 (Value.ref 219),zz1 P "kind_of" 629 (Value.ref 224),zz1 P "_law_cell_at" 641 (Value.ref 231),zz1 P "_law_cross" 649 (Value.ref 238),zz1 P "_law_turn" 655 (Value.ref 243),zz1 P "_law_tags" 661 (Value.ref 248),zz1 P "_law_ones" 676 (Value.ref 255),zz1 P "_law_least" 686 (Value.ref 262),zz1 P "_law_mirrored" 692 (Value.ref 267),zz1 P "law" 698 (Value.ref 272)] 43 }),
 (82,fO "crossed" (Zcc p 7) 81 "rayround.pairs" 271),
 (81,zz2 #[zz3 "crossed" 273,zz3 "crossed" 274,zz3 "/claim/cut.py" 275,zz4 13,zz4 2,zz4 0,zz4 0,zz4 3,Value.ref 76,Value.bool true,zz4 181,Value.ref 77,Value.none,Value.ref 78,Value.ref 79,Value.ref 80,zz4 278,zz4 13,zz3 "/claim/cut.py" 279]),
 (89,fO "following" (Zcc p 9) 88 "rayround.rounds" 281),
 (88,zz2 #[zz3 "following" 283,zz3 "following" 284,zz3 "/claim/cut.py" 285,zz4 16,zz4 2,zz4 0,zz4 0,zz4 3,Value.ref 83,Value.bool true,zz4 181,Value.ref 84,Value.none,Value.ref 85,Value.ref 86,Value.ref 87,zz4 288,zz4 16,zz3 "/claim/cut.py" 289]),
 (96,fO "unspanned" (Zcc p 10) 95 "rayround.rounds" 281),
 (95,zz2 #[zz3 "unspanned" 291,zz3 "unspanned" 292,zz3 "/claim/cut.py" 293,zz4 18,zz4 1,zz4 0,zz4 0,zz4 3,Value.ref 90,Value.bool true,zz4 181,Value.ref 91,Value.none,Value.ref 92,Value.ref 93,Value.ref 94,zz4 297,zz4 18,zz3 "/claim/cut.py" 298]),
 (103,fO "ask_smooth" (Zcc p 11) 102 "rayround.rounds" 281),
 (102,zz2 #[zz3 "ask_smooth" 300,zz3 "ask_smooth" 301,zz3 "/claim/cut.py" 302,zz4 23,zz4 1,zz4 0,zz4 0,zz4 3,Value.ref 97,Value.bool true,zz4 181,Value.ref 98,Value.none,Value.ref 99,Value.ref 100,Value.ref 101,zz4 305,zz4 23,zz3 "/claim/cut.py" 306]),
 (108,fO "numbers" (Zcc p 13) 107 "rayround.numbers" 308),
 (107,zz2 #[zz3 "numbers" 310,zz3 "numbers" 311,zz3 "/claim/cut.py" 312,zz4 28,zz4 1,zz4 0,zz4 0,zz4 3,Value.ref 104,Value.bool true,zz4 181,Value.ref 105,Value.none,Value.none,Value.none,Value.ref 106,zz4 313,zz4 28,zz3 "/claim/cut.py" 314]),
 (115,fO "gone_through" (Zcc p 14) 114 "rayround.numbers" 308),
 (114,zz2 #[zz3 "gone_through" 316,zz3 "gone_through" 317,zz3 "/claim/cut.py" 318,zz4 31,zz4 1,zz4 0,zz4 0,zz4 3,Value.ref 109,Value.bool true,zz4 181,Value.ref 110,Value.none,Value.ref 111,Value.ref 112,Value.ref 113,zz4 324,zz4 31,zz3 "/claim/cut.py" 325]),
 (122,fO "times_round" (Zcc p 15) 121 "rayround.numbers" 308),
 (121,zz2 #[zz3 "times_round" 327,zz3 "times_round" 328,zz3 "/claim/cut.py" 329,zz4 37,zz4 1,zz4 0,zz4 0,zz4 3,Value.ref 116,Value.bool true,zz4 181,Value.ref 117,Value.none,Value.ref 118,Value.ref 119,Value.ref 120,zz4 331,zz4 37,zz3 "/claim/cut.py" 332]),
 (129,fO "round_by" (Zcc p 16) 128 "rayround.numbers" 308),
 (128,zz2 #[zz3 "round_by" 334,zz3 "round_by" 335,zz3 "/claim/cut.py" 336,zz4 41,zz4 1,zz4 0,zz4 0,zz4 3,Value.ref 123,Value.bool true,zz4 181,Value.ref 124,Value.none,Value.ref 125,Value.ref 126,Value.ref 127,zz4 338,zz4 41,zz3 "/claim/cut.py" 339]),
 (136,fO "partner" (Zcc p 18) 135 "rayround.wedges" 341),
 (135,zz2 #[zz3 "partner" 343,zz3 "partner" 344,zz3 "/claim/cut.py" 345,zz4 46,zz4 1,zz4 0,zz4 0,zz4 3,Value.ref 130,Value.bool true,zz4 181,Value.ref 131,Value.none,Value.ref 132,Value.ref 133,Value.ref 134,zz4 352,zz4 46,zz3 "/claim/cut.py" 353]),
 (143,fO "first_behind" (Zcc p 19) 142 "rayround.wedges" 341),
 (142,zz2 #[zz3 "first_behind" 355,zz3 "first_behind" 356,zz3 "/claim/cut.py" 357,zz4 54,zz4 2,zz4 0,zz4 0,zz4 3,Value.ref 137,Value.bool true,zz4 181,Value.ref 138,Value.none,Value.ref 139,Value.ref 140,Value.ref 141,zz4 362,zz4 54,zz3 "/claim/cut.py" 363]),
 (150,fO "expanded" (Zcc p 20) 149 "rayround.wedges" 341),
 (149,zz2 #[zz3 "expanded" 365,zz3 "expanded" 366,zz3 "/claim/cut.py" 367,zz4 58,zz4 2,zz4 0,zz4 0,zz4 3,Value.ref 144,Value.bool true,zz4 181,Value.ref 145,Value.none,Value.ref 146,Value.ref 147,Value.ref 148,zz4 372,zz4 58,zz3 "/claim/cut.py" 373]),
 (157,fO "row" (Zcc p 21) 156 "rayround.wedges" 341),
 (156,zz2 #[zz3 "row" 375,zz3 "row" 376,zz3 "/claim/cut.py" 377,zz4 65,zz4 2,zz4 0,zz4 0,zz4 3,Value.ref 151,Value.bool true,zz4 181,Value.ref 152,Value.none,Value.ref 153,Value.ref 154,Value.ref 155,zz4 380,zz4 65,zz3 "/claim/cut.py" 381]),
 (164,fO "between" (Zcc p 22) 163 "rayround.wedges" 341),
 (163,zz2 #[zz3 "between" 383,zz3 "between" 384,zz3 "/claim/cut.py" 385,zz4 69,zz4 2,zz4 0,zz4 0,zz4 3,Value.ref 158,Value.bool true,zz4 181,Value.ref 159,Value.none,Value.ref 160,Value.ref 161,Value.ref 162,zz4 393,zz4 69,zz3 "/claim/cut.py" 394]),
 (171,fO "least_round" (Zcc p 24) 170 "rayround.leastrounds" 396),
 (170,zz2 #[zz3 "least_round" 398,zz3 "least_round" 399,zz3 "/claim/cut.py" 400,zz4 78,zz4 1,zz4 0,zz4 0,zz4 3,Value.ref 165,Value.bool true,zz4 181,Value.ref 166,Value.none,Value.ref 167,Value.ref 168,Value.ref 169,zz4 405,zz4 78,zz3 "/claim/cut.py" 406]),
 (176,fO "marked_row" (Zcc p 26) 175 "rayround.likeness" 408),
 (175,zz2 #[zz3 "marked_row" 410,zz3 "marked_row" 411,zz3 "/claim/cut.py" 412,zz4 85,zz4 2,zz4 0,zz4 0,zz4 3,Value.ref 172,Value.bool true,zz4 181,Value.ref 173,Value.none,Value.none,Value.none,Value.ref 174,zz4 413,zz4 85,zz3 "/claim/cut.py" 414]),
 (183,fO "first_reading" (Zcc p 27) 182 "rayround.likeness" 408),
 (182,zz2 #[zz3 "first_reading" 416,zz3 "first_reading" 417,zz3 "/claim/cut.py" 418,zz4 88,zz4 1,zz4 0,zz4 0,zz4 3,Value.ref 177,Value.bool true,zz4 181,Value.ref 178,Value.none,Value.ref 179,Value.ref 180,Value.ref 181,zz4 430,zz4 88,zz3 "/claim/cut.py" 431]),
 (190,fO "least_row" (Zcc p 28) 189 "rayround.likeness" 408),
 (189,zz2 #[zz3 "least_row" 433,zz3 "least_row" 434,zz3 "/claim/cut.py" 435,zz4 101,zz4 1,zz4 0,zz4 0,zz4 3,Value.ref 184,Value.bool true,zz4 181,Value.ref 185,Value.none,Value.ref 186,Value.ref 187,Value.ref 188,zz4 437,zz4 101,zz3 "/claim/cut.py" 438]),
 (214,fO "ask_one" (Zcc p 31) 213 "rayround.sixteen" 440),
 (213,zz2 #[zz3 "ask_one" 611,zz3 "ask_one" 612,zz3 "/claim/cut.py" 613,zz4 105,zz4 1,zz4 0,zz4 0,zz4 3,Value.ref 208,Value.bool true,zz4 181,Value.ref 209,Value.none,Value.ref 210,Value.ref 211,Value.ref 212,zz4 615,zz4 105,zz3 "/claim/cut.py" 616]),
 (219,fO "sixteen" (Zcc p 32) 218 "rayround.sixteen" 440),
 (218,zz2 #[zz3 "sixteen" 618,zz3 "sixteen" 619,zz3 "/claim/cut.py" 620,zz4 108,zz4 0,zz4 0,zz4 0,zz4 3,Value.ref 215,Value.bool true,zz4 181,Value.ref 216,Value.none,Value.none,Value.none,Value.ref 217,zz4 621,zz4 108,zz3 "/claim/cut.py" 622]),
 (224,fO "kind_of" (Zcc p 33) 223 "rayround.sixteen" 440),
 (223,zz2 #[zz3 "kind_of" 624,zz3 "kind_of" 625,zz3 "/claim/cut.py" 626,zz4 110,zz4 1,zz4 0,zz4 0,zz4 3,Value.ref 220,Value.bool true,zz4 181,Value.ref 221,Value.none,Value.none,Value.none,Value.ref 222,zz4 627,zz4 110,zz3 "/claim/cut.py" 628]),
 (231,fO "_law_cell_at" (Zcc p 35) 230 "law_rayround_k64_kinds_of_ones" 630),
 (230,zz2 #[zz3 "_law_cell_at" 632,zz3 "_law_cell_at" 633,zz3 "/claim/cut.py" 634,zz4 114,zz4 2,zz4 0,zz4 0,zz4 3,Value.ref 225,Value.bool true,zz4 181,Value.ref 226,Value.none,Value.ref 227,Value.ref 228,Value.ref 229,zz4 639,zz4 114,zz3 "/claim/cut.py" 640]),
 (238,fO "_law_cross" (Zcc p 36) 237 "law_rayround_k64_kinds_of_ones" 630),
 (237,zz2 #[zz3 "_law_cross" 642,zz3 "_law_cross" 643,zz3 "/claim/cut.py" 644,zz4 122,zz4 2,zz4 0,zz4 0,zz4 3,Value.ref 232,Value.bool true,zz4 181,Value.ref 233,Value.none,Value.ref 234,Value.ref 235,Value.ref 236,zz4 647,zz4 122,zz3 "/claim/cut.py" 648]),
 (243,fO "_law_turn" (Zcc p 37) 242 "law_rayround_k64_kinds_of_ones" 630),
 (242,zz2 #[zz3 "_law_turn" 650,zz3 "_law_turn" 651,zz3 "/claim/cut.py" 652,zz4 124,zz4 2,zz4 0,zz4 0,zz4 3,Value.ref 239,Value.bool true,zz4 181,Value.ref 240,Value.none,Value.none,Value.none,Value.ref 241,zz4 653,zz4 124,zz3 "/claim/cut.py" 654]),
 (248,fO "_law_tags" (Zcc p 38) 247 "law_rayround_k64_kinds_of_ones" 630),
 (247,zz2 #[zz3 "_law_tags" 656,zz3 "_law_tags" 657,zz3 "/claim/cut.py" 658,zz4 144,zz4 1,zz4 0,zz4 0,zz4 3,Value.ref 244,Value.bool true,zz4 181,Value.ref 245,Value.none,Value.none,Value.none,Value.ref 246,zz4 659,zz4 144,zz3 "/claim/cut.py" 660]),
 (255,fO "_law_ones" (Zcc p 39) 254 "law_rayround_k64_kinds_of_ones" 630),
 (254,zz2 #[zz3 "_law_ones" 662,zz3 "_law_ones" 663,zz3 "/claim/cut.py" 664,zz4 147,zz4 1,zz4 0,zz4 0,zz4 3,Value.ref 249,Value.bool true,zz4 181,Value.ref 250,Value.none,Value.ref 251,Value.ref 252,Value.ref 253,zz4 674,zz4 147,zz3 "/claim/cut.py" 675]),
 (262,fO "_law_least" (Zcc p 40) 261 "law_rayround_k64_kinds_of_ones" 630),
 (261,zz2 #[zz3 "_law_least" 677,zz3 "_law_least" 678,zz3 "/claim/cut.py" 679,zz4 165,zz4 1,zz4 0,zz4 0,zz4 3,Value.ref 256,Value.bool true,zz4 181,Value.ref 257,Value.none,Value.ref 258,Value.ref 259,Value.ref 260,zz4 684,zz4 165,zz3 "/claim/cut.py" 685]),
 (267,fO "_law_mirrored" (Zcc p 41) 266 "law_rayround_k64_kinds_of_ones" 630),
 (266,zz2 #[zz3 "_law_mirrored" 687,zz3 "_law_mirrored" 688,zz3 "/claim/cut.py" 689,zz4 171,zz4 1,zz4 0,zz4 0,zz4 3,Value.ref 263,Value.bool true,zz4 181,Value.ref 264,Value.none,Value.none,Value.none,Value.ref 265,zz4 690,zz4 171,zz3 "/claim/cut.py" 691]),
 (272,fO "law" (Zcc p 42) 271 "law_rayround_k64_kinds_of_ones" 630),
 (271,zz2 #[zz3 "law" 693,zz3 "law" 694,zz3 "/claim/cut.py" 695,zz4 173,zz4 1,zz4 0,zz4 0,zz4 3,Value.ref 268,Value.bool true,zz4 181,Value.ref 269,Value.none,Value.none,Value.none,Value.ref 270,zz4 696,zz4 173,zz3 "/claim/cut.py" 697]),
 (23,{ cls:=Value.type "dict",data:=Data.dict #[zz1 P "__module__" 196 (zz3 "rayround.errors" 187),zz1 P "__firstlineno__" 200 (Value.int 2 199),zz1 P "__static_attributes__" 201 (Value.ref 22),zz1 P "__weakref__" 203 (Value.ref 25),zz1 P "__doc__" 204 (Value.none)] 3 }),
 (24,{ cls:=Value.type "type",data:=Data.cls { name:=Str.ofString "RayError",bases:=[Value.type "ValueError"],mro:=[Value.ref 24,Value.type "ValueError",Value.type "Exception",Value.type "BaseException",Value.type "object"],ns:=23,qualname:=Str.ofString "RayError",subclasses:=[Value.ref 37,Value.ref 49,Value.ref 61,Value.ref 73] },slots:= #[some (Value.ref 15),none,some (zz3 "RayError" 189),some (zz3 "RayError" 197),some (Value.builtin "ValueError.__new__"),some (Value.bool true)] }),
 (36,{ cls:=Value.type "dict",data:=Data.dict #[zz1 P "__module__" 214 (zz3 "rayround.errors" 187),zz1 P "__firstlineno__" 218 (Value.int 4 217),zz1 P "__static_attributes__" 219 (Value.ref 35),zz1 P "__doc__" 220 (Value.none)] 2 }),
 (37,{ cls:=Value.type "type",data:=Data.cls { name:=Str.ofString "NotSmooth",bases:=[Value.ref 24],mro:=[Value.ref 37,Value.ref 24,Value.type "ValueError",Value.type "Exception",Value.type "BaseException",Value.type "object"],ns:=36,qualname:=Str.ofString "NotSmooth" },slots:= #[some (Value.ref 28),none,some (zz3 "NotSmooth" 207),some (zz3 "NotSmooth" 215),some (Value.builtin "ValueError.__new__"),some (Value.bool true)] }),
 (48,{ cls:=Value.type "dict",data:=Data.dict #[zz1 P "__module__" 230 (zz3 "rayround.errors" 187),zz1 P "__firstlineno__" 234 (Value.int 6 233),zz1 P "__static_attributes__" 235 (Value.ref 47),zz1 P "__doc__" 236 (Value.none)] 2 }),
 (49,{ cls:=Value.type "type",data:=Data.cls { name:=Str.ofString "NoWedge",bases:=[Value.ref 24],mro:=[Value.ref 49,Value.ref 24,Value.type "ValueError",Value.type "Exception",Value.type "BaseException",Value.type "object"],ns:=48,qualname:=Str.ofString "NoWedge" },slots:= #[some (Value.ref 40),none,some (zz3 "NoWedge" 223),some (zz3 "NoWedge" 231),some (Value.builtin "ValueError.__new__"),some (Value.bool true)] }),
 (60,{ cls:=Value.type "dict",data:=Data.dict #[zz1 P "__module__" 246 (zz3 "rayround.errors" 187),zz1 P "__firstlineno__" 250 (Value.int 8 249),zz1 P "__static_attributes__" 251 (Value.ref 59),zz1 P "__doc__" 252 (Value.none)] 2 }),
 (61,{ cls:=Value.type "type",data:=Data.cls { name:=Str.ofString "NoRow",bases:=[Value.ref 24],mro:=[Value.ref 61,Value.ref 24,Value.type "ValueError",Value.type "Exception",Value.type "BaseException",Value.type "object"],ns:=60,qualname:=Str.ofString "NoRow" },slots:= #[some (Value.ref 52),none,some (zz3 "NoRow" 239),some (zz3 "NoRow" 247),some (Value.builtin "ValueError.__new__"),some (Value.bool true)] }),
 (72,{ cls:=Value.type "dict",data:=Data.dict #[zz1 P "__module__" 262 (zz3 "rayround.errors" 187),zz1 P "__firstlineno__" 266 (Value.int 10 265),zz1 P "__static_attributes__" 267 (Value.ref 71),zz1 P "__doc__" 268 (Value.none)] 2 }),
 (73,{ cls:=Value.type "type",data:=Data.cls { name:=Str.ofString "NoOne",bases:=[Value.ref 24],mro:=[Value.ref 73,Value.ref 24,Value.type "ValueError",Value.type "Exception",Value.type "BaseException",Value.type "object"],ns:=72,qualname:=Str.ofString "NoOne" },slots:= #[some (Value.ref 64),none,some (zz3 "NoOne" 255),some (zz3 "NoOne" 263),some (Value.builtin "ValueError.__new__"),some (Value.bool true)] }),
 (191,{ cls:=Value.type "tuple",data:=Data.seq #[Value.int 1 442,Value.int 1 443,Value.int 1 444] }),
 (192,{ cls:=Value.type "tuple",data:=Data.seq #[Value.int (-2) 446,Value.int 0 447,Value.int 2 448,Value.int 0 449] }),
 (193,{ cls:=Value.type "tuple",data:=Data.seq #[Value.int (-1) 451,Value.int 0 452,Value.int 1 453,Value.int 0 454] }),
 (194,{ cls:=Value.type "tuple",data:=Data.seq #[Value.int 0 455,Value.int 0 456,Value.int 0 457,Value.int 0 458] }),
 (195,{ cls:=Value.type "tuple",data:=Data.seq #[Value.int (-2) 460,Value.int (-1) 462,Value.int (-1) 464,Value.int 1 465,Value.int 0 466] }),
 (196,{ cls:=Value.type "tuple",data:=Data.seq #[Value.int (-1) 468,Value.int (-1) 470,Value.int (-1) 472,Value.int 0 473,Value.int 0 474] }),
 (197,{ cls:=Value.type "tuple",data:=Data.seq #[Value.int (-2) 476,Value.int (-2) 478,Value.int (-1) 480,Value.int (-2) 482,Value.int 1 483,Value.int 0 484] }),
 (198,{ cls:=Value.type "tuple",data:=Data.seq #[Value.int (-2) 486,Value.int (-1) 488,Value.int (-2) 490,Value.int (-1) 492,Value.int 0 493,Value.int 0 494] }),
 (199,{ cls:=Value.type "tuple",data:=Data.seq #[Value.int (-2) 496,Value.int (-1) 498,Value.int (-1) 500,Value.int 0 501,Value.int (-1) 503,Value.int (-1) 505] }),
 (200,{ cls:=Value.type "tuple",data:=Data.seq #[Value.int (-1) 507,Value.int (-1) 509,Value.int (-1) 511,Value.int (-1) 513,Value.int (-1) 515,Value.int (-1) 517] }),
 (201,{ cls:=Value.type "tuple",data:=Data.seq #[Value.int (-2) 519,Value.int (-2) 521,Value.int (-1) 523,Value.int (-2) 525,Value.int 0 526,Value.int (-1) 528,Value.int (-1) 530] }),
 (202,{ cls:=Value.type "tuple",data:=Data.seq #[Value.int (-2) 532,Value.int (-1) 534,Value.int (-2) 536,Value.int (-1) 538,Value.int (-1) 540,Value.int (-1) 542,Value.int (-1) 544] }),
 (203,{ cls:=Value.type "tuple",data:=Data.seq #[Value.int (-2) 546,Value.int (-2) 548,Value.int (-2) 550,Value.int (-1) 552,Value.int (-2) 554,Value.int 0 555,Value.int (-2) 557,Value.int (-1) 559] }),
 (204,{ cls:=Value.type "tuple",data:=Data.seq #[Value.int (-2) 561,Value.int (-2) 563,Value.int (-1) 565,Value.int (-2) 567,Value.int (-1) 569,Value.int (-1) 571,Value.int (-2) 573,Value.int (-1) 575] }),
 (205,{ cls:=Value.type "tuple",data:=Data.seq #[Value.int (-2) 577,Value.int (-1) 579,Value.int (-2) 581,Value.int (-1) 583,Value.int (-2) 585,Value.int (-1) 587,Value.int (-2) 589,Value.int (-1) 591] }),
 (206,{ cls:=Value.type "tuple",data:=Data.seq #[Value.int (-2) 593,Value.int (-2) 595,Value.int (-1) 597,Value.int (-2) 599,Value.int (-2) 601,Value.int (-1) 603,Value.int (-2) 605,Value.int (-2) 607,Value.int (-1) 609] }),
 (207,{ cls:=Value.type "tuple",data:=Data.seq #[Value.ref 191,Value.ref 192,Value.ref 193,Value.ref 194,Value.ref 195,Value.ref 196,Value.ref 197,Value.ref 198,Value.ref 199,Value.ref 200,Value.ref 201,Value.ref 202,Value.ref 203,Value.ref 204,Value.ref 205,Value.ref 206] })]
noncomputable def asK:List Addr:=[3,82,81,89,88,96,95,103,102,108,107,115,114,122,121,129,128,136,135,143,142,150,149,157,156,164,163,171,170,176,175,183,182,190,189,214,213,219,218,224,223,231,230,238,237,243,242,248,247,255,254,262,261,267,266,272,271,23,24,36,37,48,49,60,61,72,73,191,192,193,194,195,196,197,198,199,200,201,202,203,204,205,206,207]
theorem ZpG (p:Program) (P:Params):asK=(Kf p P).map (·.1):=rfl
noncomputable def qf (p:Program):Program:={ p with main:={ p.main with body:=[Zcc p 42] } }
noncomputable def lo:List Str:=[("__name__":Str),("RayError":Str),("NotSmooth":Str),("NoWedge":Str),("NoRow":Str),("NoOne":Str),("crossed":Str),("following":Str),("unspanned":Str),("ask_smooth":Str),("numbers":Str),("gone_through":Str),("times_round":Str),("round_by":Str),("partner":Str),("first_behind":Str),("expanded":Str),("row":Str),("between":Str),("least_round":Str),("marked_row":Str),("first_reading":Str),("least_row":Str),("ROWS":Str),("ask_one":Str),("sixteen":Str),("kind_of":Str),("_law_cell_at":Str),("_law_cross":Str),("_law_turn":Str),("_law_tags":Str),("_law_ones":Str),("_law_least":Str),("_law_mirrored":Str)]
theorem ZuM {l:PySem.W.OpenLaw} {q:Program} {loose:List Str} {XP:(Str->Option Value)->Heap->Prop} {YP:World->Heap->Prop} {d:DefRec} {K:Params->PySem.W.Frag} (hn:l.most=some 63) (hdf:d.params.defaults=[])
  (hY: ∀ (w:World) (h:Heap),YP w h->(K w.params).In h)
  (F: ∀ (w:World) (mg:Str->Option Value) (fa:Addr) (h:Heap),(K w.params).In h->h.Ns mainGlobals mg->mg d.name=some (.ref fa)->
   ∃ fd:FuncData,(∀ (s:Shared) (u:Value),BindsTo s fd ⟨[u],[]⟩ [("_law_script",u)])/\ ∀ base:Heap,(K w.params).In base->base.Ns mainGlobals mg->FnOk l.prog w (K w.params) mg base (CXE l.prog w) 109 fa fd ["_law_script"] (spD (K w.params) ZdR)):
  PySem.W.WalkO q loose XP YP l.row.toRowW d [] (fun f vs=>PySem.call f vs):=
 L2.ZkU (n:=63) (k:=109) (x:="_law_script") (CX:=fun w=>CXE l.prog w) (sp:=fun w=>spD (K w.params) ZdR) hn (by decide) hdf ⟨fun _=>rfl,by decide,by decide⟩ hY F (fun _ _ a ns hl hO hS=>DL.Zna hl hO hS (law_true ns hl)) fun _ _ _ _ _ ⟨_,_,_,_,_,_,_,_,_,_,_,_,_,q⟩=>q
end K64
open PySem PySem.W PyProof.Rows
lay_quick PySem.Challenge.pw_rayround_k64_kinds_of_ones
namespace K64
noncomputable abbrev Hk:Hook:=kHook (Kf PySem.Challenge.pw_rayround_k64_kinds_of_ones) asK (ZpG PySem.Challenge.pw_rayround_k64_kinds_of_ones)
noncomputable def Xs (s:Shared):Bool:=xlAt (qf PySem.Challenge.pw_rayround_k64_kinds_of_ones) [] s && recOk (RowW.records (OpenRow.toRowW (OpenLaw.row PySem.Challenge.rw_rayround_k64_kinds_of_ones))) s
set_option maxRecDepth 1000000 in
set_option maxHeartbeats 0 in
theorem Zqv (w:World) (os:OsState):(HD.ZpP through (HD.Zjk (stepOk 11 (some (.ref 6))) (stepT (denote treeTable) PySem.Challenge.pw_rayround_k64_kinds_of_ones w)) 2503 (HD.T0 w os) (topStub PySem.Challenge.pw_rayround_k64_kinds_of_ones)).map (fun s=>((staticsOk (importedModules PySem.Challenge.pw_rayround_k64_kinds_of_ones.main.body) (boot_heap w.params) s.abs.heap && namesBound PySem.Challenge.pw_rayround_k64_kinds_of_ones s.abs.heap && gensDone s.abs && laidKept (boot_heap w.params) s.abs.heap),
  openSeen (qf PySem.Challenge.pw_rayround_k64_kinds_of_ones) lo (importedModules PySem.Challenge.pw_rayround_k64_kinds_of_ones.main.body) (fun s=>xlAt (qf PySem.Challenge.pw_rayround_k64_kinds_of_ones) [] s && recOk [] s) true s.abs,asK.map s.abs.heap.get?))=some (true,openGood (qf PySem.Challenge.pw_rayround_k64_kinds_of_ones) lo,(Kf PySem.Challenge.pw_rayround_k64_kinds_of_ones w.params).map fun x=>some x.2):=by
 rw[HD.Zqw,HD.Zlr,HD.ZnJ,HD.ZnK,HD.Zls,HD.ZnL,PySem.W.Fast.te18103308850333231139]
 kernel_rfl
end K64
set_option maxRecDepth 1000000 in
set_option maxHeartbeats 0 in
theorem PySem.Challenge.cw_rayround_k64_kinds_of_ones_holds : PySem.Challenge.rw_rayround_k64_kinds_of_ones.Holds := by
 w_on;o_law
 refine holds_open (q:=K64.qf PySem.Challenge.pw_rayround_k64_kinds_of_ones) (loose:=K64.lo) (Xt:=fun s=>xlAt (K64.qf PySem.Challenge.pw_rayround_k64_kinds_of_ones) [] s && recOk [] s) (XP:=XL (K64.qf PySem.Challenge.pw_rayround_k64_kinds_of_ones) []) (Yf:=Hook.obs K64.Hk) (Ya:=Hook.val K64.Hk) (YP:=Hook.says K64.Hk) (N:=3103) ?hl (Hook.of K64.Hk) (Hook.keeps K64.Hk) (fun s e=>xl_of s (Bool.and_eq_true_iff.mp e).1) XL.keeps (by rfl) (by rfl) (by rfl) (fun s e=>recFacts_of (Bool.and_eq_true_iff.mp e).2) (by rfl) (by first | assumption | decide +kernel) (by decide +kernel) ⟨rfl,rfl,rfl,rfl,rfl,by decide +kernel⟩ ?hw ?hc
 case hl=>exact HD.ZhN rfl (by decide) (fun s=>rfl) (by decide) K64.Zqv
 case hw=>w_witness2
 case hc=>
  refine K64.ZuM (l:=PySem.Challenge.rw_rayround_k64_kinds_of_ones) rfl rfl (fun w h Y=>PySem.W.kIn_of Y) ?F
  intro w mg fa h KX G hmg
  refine K64.Zpt (f1:=82) (od1:=none) (an1:=none) (sl1:= #[]) (oc1:= .type "function") (kV1:= .none) (dc1:= .none) (pm1:= .str "rayround.pairs" 271) (cd1:= .ref 81) (ct1:= .none) (f2:=89) (od2:=none) (an2:=none) (sl2:= #[]) (oc2:= .type "function") (kV2:= .none) (dc2:= .none) (pm2:= .str "rayround.rounds" 281) (cd2:= .ref 88) (ct2:= .none) (f3:=96) (od3:=none) (an3:=none) (sl3:= #[]) (oc3:= .type "function") (kV3:= .none) (dc3:= .none) (pm3:= .str "rayround.rounds" 281) (cd3:= .ref 95) (ct3:= .none) (f4:=103) (od4:=none) (an4:=none) (sl4:= #[]) (oc4:= .type "function") (kV4:= .none) (dc4:= .none) (pm4:= .str "rayround.rounds" 281) (cd4:= .ref 102) (ct4:= .none) (f5:=108) (od5:=none) (an5:=none) (sl5:= #[]) (oc5:= .type "function") (kV5:= .none) (dc5:= .none) (pm5:= .str "rayround.numbers" 308) (cd5:= .ref 107) (ct5:= .none) (f6:=115) (od6:=none) (an6:=none) (sl6:= #[]) (oc6:= .type "function") (kV6:= .none) (dc6:= .none) (pm6:= .str "rayround.numbers" 308) (cd6:= .ref 114) (ct6:= .none) (f7:=122) (od7:=none) (an7:=none) (sl7:= #[]) (oc7:= .type "function") (kV7:= .none) (dc7:= .none) (pm7:= .str "rayround.numbers" 308) (cd7:= .ref 121) (ct7:= .none) (f8:=129) (od8:=none) (an8:=none) (sl8:= #[]) (oc8:= .type "function") (kV8:= .none) (dc8:= .none) (pm8:= .str "rayround.numbers" 308) (cd8:= .ref 128) (ct8:= .none) (f9:=136) (od9:=none) (an9:=none) (sl9:= #[]) (oc9:= .type "function") (kV9:= .none) (dc9:= .none) (pm9:= .str "rayround.wedges" 341) (cd9:= .ref 135) (ct9:= .none) (f10:=143) (od10:=none) (an10:=none) (sl10:= #[]) (oc10:= .type "function") (kV10:= .none) (dc10:= .none) (pm10:= .str "rayround.wedges" 341) (cd10:= .ref 142) (ct10:= .none) (f11:=150) (od11:=none) (an11:=none) (sl11:= #[]) (oc11:= .type "function") (kV11:= .none) (dc11:= .none) (pm11:= .str "rayround.wedges" 341) (cd11:= .ref 149) (ct11:= .none) (f12:=157) (od12:=none) (an12:=none) (sl12:= #[]) (oc12:= .type "function") (kV12:= .none) (dc12:= .none) (pm12:= .str "rayround.wedges" 341) (cd12:= .ref 156) (ct12:= .none) (f13:=164) (od13:=none) (an13:=none) (sl13:= #[]) (oc13:= .type "function") (kV13:= .none) (dc13:= .none) (pm13:= .str "rayround.wedges" 341) (cd13:= .ref 163) (ct13:= .none) (f14:=171) (od14:=none) (an14:=none) (sl14:= #[]) (oc14:= .type "function") (kV14:= .none) (dc14:= .none) (pm14:= .str "rayround.leastrounds" 396) (cd14:= .ref 170) (ct14:= .none) (f15:=176) (od15:=none) (an15:=none) (sl15:= #[]) (oc15:= .type "function") (kV15:= .none) (dc15:= .none) (pm15:= .str "rayround.likeness" 408) (cd15:= .ref 175) (ct15:= .none) (f16:=183) (od16:=none) (an16:=none) (sl16:= #[]) (oc16:= .type "function") (kV16:= .none) (dc16:= .none) (pm16:= .str "rayround.likeness" 408) (cd16:= .ref 182) (ct16:= .none) (f17:=190) (od17:=none) (an17:=none) (sl17:= #[]) (oc17:= .type "function") (kV17:= .none) (dc17:= .none) (pm17:= .str "rayround.likeness" 408) (cd17:= .ref 189) (ct17:= .none) (f18:=214) (od18:=none) (an18:=none) (sl18:= #[]) (oc18:= .type "function") (kV18:= .none) (dc18:= .none) (pm18:= .str "rayround.sixteen" 440) (cd18:= .ref 213) (ct18:= .none) (f19:=219) (od19:=none) (an19:=none) (sl19:= #[]) (oc19:= .type "function") (kV19:= .none) (dc19:= .none) (pm19:= .str "rayround.sixteen" 440) (cd19:= .ref 218) (ct19:= .none) (f20:=224) (od20:=none) (an20:=none) (sl20:= #[]) (oc20:= .type "function") (kV20:= .none) (dc20:= .none) (pm20:= .str "rayround.sixteen" 440) (cd20:= .ref 223) (ct20:= .none) (f21:=231) (od21:=none) (an21:=none) (sl21:= #[]) (oc21:= .type "function") (kV21:= .none) (dc21:= .none) (pm21:= .str "law_rayround_k64_kinds_of_ones" 630) (cd21:= .ref 230) (ct21:= .none) (f22:=238) (od22:=none) (an22:=none) (sl22:= #[]) (oc22:= .type "function") (kV22:= .none) (dc22:= .none) (pm22:= .str "law_rayround_k64_kinds_of_ones" 630) (cd22:= .ref 237) (ct22:= .none) (f23:=243) (od23:=none) (an23:=none) (sl23:= #[]) (oc23:= .type "function") (kV23:= .none) (dc23:= .none) (pm23:= .str "law_rayround_k64_kinds_of_ones" 630) (cd23:= .ref 242) (ct23:= .none) (f24:=248) (od24:=none) (an24:=none) (sl24:= #[]) (oc24:= .type "function") (kV24:= .none) (dc24:= .none) (pm24:= .str "law_rayround_k64_kinds_of_ones" 630) (cd24:= .ref 247) (ct24:= .none) (f25:=255) (od25:=none) (an25:=none) (sl25:= #[]) (oc25:= .type "function") (kV25:= .none) (dc25:= .none) (pm25:= .str "law_rayround_k64_kinds_of_ones" 630) (cd25:= .ref 254) (ct25:= .none) (f26:=262) (od26:=none) (an26:=none) (sl26:= #[]) (oc26:= .type "function") (kV26:= .none) (dc26:= .none) (pm26:= .str "law_rayround_k64_kinds_of_ones" 630) (cd26:= .ref 261) (ct26:= .none) (f27:=267) (od27:=none) (an27:=none) (sl27:= #[]) (oc27:= .type "function") (kV27:= .none) (dc27:= .none) (pm27:= .str "law_rayround_k64_kinds_of_ones" 630) (cd27:= .ref 266) (ct27:= .none) (f28:=272) (od28:=none) (an28:=none) (sl28:= #[]) (oc28:= .type "function") (kV28:= .none) (dc28:= .none) (pm28:= .str "law_rayround_k64_kinds_of_ones" 630) (cd28:= .ref 271) (ct28:= .none) KX G hmg ?a1 ?l1 ?c1 ?k1 ?a2 ?l2 ?c2 ?k2 ?a3 ?l3 ?c3 ?k3 ?a4 ?l4 ?c4 ?k4 ?a5 ?l5 ?c5 ?k5 ?a6 ?l6 ?c6 ?k6 ?a7 ?l7 ?c7 ?k7 ?a8 ?l8 ?c8 ?k8 ?a9 ?l9 ?c9 ?k9 ?a10 ?l10 ?c10 ?k10 ?a11 ?l11 ?c11 ?k11 ?a12 ?l12 ?c12 ?k12 ?a13 ?l13 ?c13 ?k13 ?a14 ?l14 ?c14 ?k14 ?a15 ?l15 ?c15 ?k15 ?a16 ?l16 ?c16 ?k16 ?a17 ?l17 ?c17 ?k17 ?a18 ?l18 ?c18 ?k18 ?a19 ?l19 ?c19 ?k19 ?a20 ?l20 ?c20 ?k20 ?a21 ?l21 ?c21 ?k21 ?a22 ?l22 ?c22 ?k22 ?a23 ?l23 ?c23 ?k23 ?a24 ?l24 ?c24 ?k24 ?a25 ?l25 ?c25 ?k25 ?a26 ?l26 ?c26 ?k26 ?a27 ?l27 ?c27 ?k27 ?a28 ?l28 ?c28 ?k28 ?z_len ?z_enumerate ?z_range ?z_sum ?z_zip ?z_min ?z_list ?z_tuple ?z_abs ?z_max ?z_reversed ?z_isinstance ?z_int ?z_bool ?q_ex_NotSmooth ?q_ex_NoRow ?q_ex_NoWedge ?q_ex_NoOne ?q_co_ROWS
  all_goals kernel_rfl
