import PyProof.Rows.All
import Wide.All
import OpenK.AllK
import Wide.FinOn
import Lean
import PyProof.EqAt
import PyProof.EqKinds
import PyProof.TupleCall
import PySem.Challenge.RW_rayround_k63_sixteen
set_option maxRecDepth 100000
set_option linter.all false
set_option Elab.async false
set_option maxHeartbeats 4000000
noncomputable section
section
namespace DQ
open PySem PySem.Spec PyProof.Rows
noncomputable def Zak (A:Around) (h:Heap):Prop:=A.handled=none\/ ∃ ea oe vs,A.handled=some (.ref ea)/\h.get? ea=some oe/\oe.data= .fields vs/\vs[2]?=some .none
theorem Zak.keeps {A:Around} {h h':Heap} (q:Zak A h) (k: ∀ b o,h.get? b=some o->h'.get? b=some o):Zak A h':=by
 rcases q with q | ⟨ea,oe,vs,e1,e2,e3,e4⟩
 ·exact .inl q
 ·exact .inr ⟨ea,oe,vs,e1,k _ _ e2,e3,e4⟩
theorem Zbn:entryFor table "proto.unchain"=some Builtin.«proto.unchain» :=entryFor_of_fast (by kernel_rfl)
section
variable {prog:Program} {w:World} {A:Around} {E:Value->Shared->Prop} {s:Shared}
theorem Zcn {α:Type} {Q:α->Shared->Prop} {e:Addr} {oe:Obj} {vs:Array Value} (q:Zak A s.heap) (he:s.heap.get? e=some oe) (hd:oe.data= .fields vs) (hz:2 < vs.size)
  (h: ∀ h',(∀ b o,b≠e->s.heap.get? b=some o->h'.get? b=some o)->(∃ o,h'.get? e=some o/\o.cls=oe.cls)->E (.ref e) { s with heap:=h' }):wpAny (model prog w) A (raiseNew (.ref e):Sem α) Q E s:=by
 have same:E (.ref e) s:=h s.heap (fun _ _ _ x=>x) ⟨oe,he,rfl⟩
 unfold raiseNew
 refine wpAny_bind (wpAny_handled ?_)
 rcases q with q | ⟨ea,oa,ws,q1,q2,q3,q4⟩
 ·rw[q]
  exact wpAny_bind (wpAny_pure (wpAny_throw same))
 ·rw[q1]
  dsimp only
  by_cases c:(Value.ref ea != Value.ref e)=true
  ·rw[if_pos c]
   refine wpAny_bind (wpAny_holding (wpAny_runValue (codeAny_builtin Zbn ?_)))
   unfold Builtin.«proto.unchain»
   refine wpAny_bind (wpAny_field q2 q3 q4 ?_)
   refine wpAny_bind (wpAny_pure ?_)
   have sf:wpAny (model prog w) A (setField (.ref e) 2 (.ref ea)) (fun _ s'=>wpAny (model prog w) A (throw (Value.ref e):Sem α) Q E s') E s:=by
    refine wpAny_setField he hd hz (wpAny_throw (h _ (fun b o hb x=> ?_) ⟨_,Heap.get?_update_self _ he (Obj.isFreed_of_fields (Obj.data_mapFields hd _)),Obj.cls_mapFields _ _⟩))
    rw[Heap.get?_update_other _ _ (Ne.symm hb)]
    exact x
   exact wpAny_pure (wpAny_bind sf)
  ·rw[if_neg c]
   exact wpAny_throw same
theorem ZaB {α:Type} {Q:α->Shared->Prop} (q:Zak A s.heap)
  (h: ∀ h' e,(∀ b o,s.heap.get? b=some o->h'.get? b=some o)->(∃ o,h'.get? e=some o/\o.cls= .type "StopIteration")->E (.ref e) { s with heap:=h' }):
  wpAny (model prog w) A (newExc (.type "StopIteration") [] >>= fun x=>(raiseNew x:Sem α)) Q E s:=by
 refine wpAny_bind ?_
 simp only[newExc,newTuple]
 refine wpAny_bind (wpAny_newObj_type ?_ (by size_fits))
 refine wpAny_bind (m:=firstArgMember _ _) (wpAny_of_eq (a:=Value.none) (by first | rfl | (simp only[firstArgMember];rfl)) ?_)
 refine wpAny_newObj_type ?_ (by size_fits)
 refine Zcn (q.keeps fun b o x=>Heap.get?_push_of_some _ (Heap.get?_push_of_some _ x)) (Heap.get?_push_size _ rfl) rfl (by rw[Array.size_append];exact Nat.lt_of_lt_of_le (by decide:2 < 6) (Nat.le_add_right _ _)) fun h' k he=> ?_
 exact h h' _ (fun b o x=>k b o (Nat.ne_of_lt (Nat.lt_of_lt_of_le (Heap.lt_size x) (by rw[Heap.size_push];exact Nat.le_succ _))) (Heap.get?_push_of_some _ (Heap.get?_push_of_some _ x))) he
theorem Zgh {e:Addr} {Q:Bool->Shared->Prop} (he: ∃ o,s.heap.get? e=some o/\o.cls= .type "StopIteration") (h:Q true s):wpAny (model prog w) A (isInstance (.ref e) (.type "StopIteration")) Q E s:=
 let ⟨o,e1,e2⟩:=he
 wpAny_isInstance (T:="StopIteration") (b:=true) ⟨o,e1,e2⟩ isSubtype_stop h
theorem Zak.in1 {h:Heap} (q:Zak A h):Zak A.in1 h:=q
noncomputable def ZdD (it:Addr) (s:Shared) (e:Value) (s':Shared):Prop:= ∃ a,e= .ref a/\(∃ o,s'.heap.get? a=some o/\o.cls= .type "StopIteration")/\ ∃ h',Heap.ExtBut it s.heap h'/\s'={ s with heap:=h' }
theorem ZdE {it:Addr} {T id:String} {b:Builtin} {Q:Option Value->Shared->Prop} (hT:s.TypeIs (.ref it) T) (sl:Slot T (Str.ofString "__next__") id) (hb:entryFor table id=some b) (ha:argsOk id ⟨[.ref it],[]⟩)
  (h:wpAny (model prog w) A.in1 (b ⟨[.ref it],[]⟩) (fun _ _=>False) (ZdD it s) s) (hQ: ∀ h',Heap.ExtBut it s.heap h'->Q none { s with heap:=h' }):wpAny (model prog w) A (pyNext (.ref it)) Q E s:=by
 unfold pyNext
 refine wpAny_bind (wpAny_attempt (wpAny_callSpecial?_slot (name:=Str.ofString "__next__") hT sl (wpAny_call_entry sl hT hb (wpAny_mono h (fun _ _ z=>z.elim) fun e s' z=> ?_) ha)))
 obtain ⟨a,rfl,ho,h',eb,rfl⟩:=z
 exact wpAny_bind (Zgh ho (wpAny_pure (hQ h' eb)))
theorem ZdF {it:Addr} {x left step:Int} {Q:Option Value->Shared->Prop} (q:Zak A s.heap) (hit:IsRangeIter s.heap it x left step) (hl:left<=0)
  (hQ: ∀ h',Heap.ExtBut it s.heap h'->Q none { s with heap:=h' }):wpAny (model prog w) A (pyNext (.ref it)) Q E s:=by
 refine ZdE ⟨_,hit,rfl⟩ F.slot_range_iterator_next F.entry_range_iterator_next (F.args_range_iterator_next_1 _) ?_ hQ
 refine wpAny_bind (m:=field (.ref it) 0) (wpAny_field hit rfl (x:=rawInt x) rfl ?_)
 refine wpAny_bind (m:=field (.ref it) 1) (wpAny_field hit rfl (x:=rawInt left) rfl ?_)
 refine wpAny_bind (m:=field (.ref it) 2) (wpAny_field hit rfl (x:=rawInt step) rfl ?_)
 dsimp only[rawInt]
 rw[if_pos hl]
 refine wpAny_bind (wpAny_rule (wpAny_bind ?_))
 exact ZaB q.in1 fun h' e k ho=>⟨e,rfl,ho,h',fun b o _ z=>k b o z,rfl⟩
theorem ZhI {it l:Addr} {i:Nat} {o ol:Obj} {items:Array Value} {n:Nat} (q:Zak A s.heap) (ho:s.heap.get? it=some o) (hd:o.data= .fields #[.ref l,.int i 0]) (hol:s.heap.get? l=some ol) (hdl:ol.data= .seq items n) (hx:items[i]?=none):
  wpAny (model prog w) A.in1 (Builtin.«list_iterator.__next__» ⟨[.ref it],[]⟩) (fun _ _=>False) (ZdD it s) s:=by
 refine wpAny_bind (m:=field (.ref it) 0) (wpAny_field ho hd (x:= .ref l) rfl ?_)
 dsimp only
 rw[if_neg (show ¬ ((Value.ref l == Value.none)=true) from Bool.false_ne_true)]
 refine wpAny_bind (m:=field (.ref it) 1) (wpAny_field ho hd (x:= .int i 0) rfl ?_)
 refine wpAny_bind (m:=seqItems? (.ref l)) (wpAny_seqItems hol hdl ?_)
 simp only[Int.toNat_natCast,hx]
 refine wpAny_bind (wpAny_rule (wpAny_bind (wpAny_setField ho hd (by simp) ?_)))
 have q2:Zak A.in1 (s.heap.update it (Obj.mapFields (·.setIfInBounds 0 Value.none))):=by
  rcases q with q | ⟨ea,oe,vs,e1,e2,e3,e4⟩
  ·exact .inl q
  ·refine .inr ⟨ea,oe,vs,e1,?_,e3,e4⟩
   rw[Heap.get?_update_other _ _ (fun z=> ?_)]
   ·exact e2
   ·rw[<- z,ho] at e2
    cases e2
    rw[hd] at e3
    cases e3
    simp at e4
 refine ZaB q2 fun h' e k ho=>⟨e,rfl,ho,h',fun b o hb z=>k b o ?_,rfl⟩
 rw[Heap.get?_update_other _ _ (Ne.symm hb)]
 exact z
theorem ZhJ {it l:Addr} {i:Nat} {o ol:Obj} {items:Array Value} {n:Nat} (q:Zak A s.heap) (ho:s.heap.get? it=some o) (hd:o.data= .fields #[.ref l,.int i 0]) (hol:s.heap.get? l=some ol) (hdl:ol.data= .seq items n) (hx:items[i]?=none):
  wpAny (model prog w) A.in1 (Builtin.«tuple_iterator.__next__» ⟨[.ref it],[]⟩) (fun _ _=>False) (ZdD it s) s:=by
 refine wpAny_bind (m:=field (.ref it) 0) (wpAny_field ho hd (x:= .ref l) rfl ?_)
 dsimp only
 rw[if_neg (show ¬ ((Value.ref l == Value.none)=true) from Bool.false_ne_true)]
 refine wpAny_bind (m:=field (.ref it) 1) (wpAny_field ho hd (x:= .int i 0) rfl ?_)
 refine wpAny_bind (m:=seqItems? (.ref l)) (wpAny_seqItems hol hdl ?_)
 simp only[Int.toNat_natCast,hx]
 refine wpAny_bind (wpAny_rule (wpAny_bind (wpAny_setField ho hd (by simp) ?_)))
 have q2:Zak A.in1 (s.heap.update it (Obj.mapFields (·.setIfInBounds 0 Value.none))):=by
  rcases q with q | ⟨ea,oe,vs,e1,e2,e3,e4⟩
  ·exact .inl q
  ·refine .inr ⟨ea,oe,vs,e1,?_,e3,e4⟩
   rw[Heap.get?_update_other _ _ (fun z=> ?_)]
   ·exact e2
   ·rw[<- z,ho] at e2
    cases e2
    rw[hd] at e3
    cases e3
    simp at e4
 refine ZaB q2 fun h' e k ho=>⟨e,rfl,ho,h',fun b o hb z=>k b o ?_,rfl⟩
 rw[Heap.get?_update_other _ _ (Ne.symm hb)]
 exact z
theorem ZeP {it l:Addr} {i:Nat} {items} {Q:Option Value->Shared->Prop} (q:Zak A s.heap) (hit:s.heap.IsListIter it l i) (hl:s.heap.IsList l items) (hx:items[i]?=none)
  (hQ: ∀ h',Heap.ExtBut it s.heap h'->Q none { s with heap:=h' }):wpAny (model prog w) A (pyNext (.ref it)) Q E s:=by
 obtain ⟨o,ho,hc,hd⟩:=id hit
 obtain ⟨ol,hol,_,nl,hdl⟩:=hl
 exact ZdE hit.typeIs slot_listiter_next entry_listiter_next (args_listiter_next _) (ZhI q ho hd hol hdl hx) hQ
theorem ZdG {it l:Addr} {i:Nat} {items} {Q:Option Value->Shared->Prop} (q:Zak A s.heap) (hit:s.heap.IsTupleIter it l i) (hl:s.heap.IsTuple l items) (hx:items[i]?=none)
  (hQ: ∀ h',Heap.ExtBut it s.heap h'->Q none { s with heap:=h' }):wpAny (model prog w) A (pyNext (.ref it)) Q E s:=by
 obtain ⟨o,ho,hc,hd⟩:=id hit
 obtain ⟨ol,hol,_,nl,hdl⟩:=hl
 exact ZdE hit.typeIs F.slot_tuple_iterator_next F.entry_tuple_iterator_next (F.args_tuple_iterator_next_1 _) (ZhJ q ho hd hol hdl hx) hQ
end
end DQ
end
section
namespace L2
open PySem PySem.Spec PyProof.Rows
noncomputable abbrev Key:=Sum Int Str
noncomputable def ZhK:Key->Value->Bool
 | .inl k,v=>Value.isInt k v
 | .inr x,v=>Value.isStrOf x v
noncomputable def Znr (w:World):Key->Int
 | .inl k=>hashInt k
 | .inr x=>hashStr w x
theorem Zo: ∀ {k:Key} {v:Value},ZhK k v=true->(∃ i t,k=Sum.inl i/\v=Value.int i t)\/(∃ x t,k=Sum.inr x/\v=Value.str x t)
 | .inl i,v,h=>by
  obtain ⟨t,e⟩:=Value.isInt_shape (k:=i) (v:=v) h
  exact .inl ⟨i,t,rfl,e⟩
 | .inr x,v,h=>by
  obtain ⟨t,e⟩:=Value.isStrOf_shape (x:=x) (v:=v) h
  exact .inr ⟨x,t,rfl,e⟩
theorem ZhL (a b:Int):decide ((Sum.inl a:Key)=Sum.inl b)=(a == b):=by
 by_cases e:a=b
 ·subst e;simp
 ·have h: ¬ (Sum.inl a:Key)=Sum.inl b:=fun q=>e (Sum.inl.inj q)
  rw[decide_eq_false h]
  exact (beq_eq_false_iff_ne.mpr e).symm
theorem ZhM (a b:Str):decide ((Sum.inr a:Key)=Sum.inr b)=decide (a=b):=by
 by_cases e:a=b
 ·subst e;simp
 ·have h: ¬ (Sum.inr a:Key)=Sum.inr b:=fun q=>e (Sum.inr.inj q)
  rw[decide_eq_false h,decide_eq_false e]
theorem ZhN (a:Int) (b:Str):decide ((Sum.inl a:Key)=Sum.inr b)=false:=decide_eq_false (fun q=>nomatch q)
theorem ZhO (a:Str) (b:Int):decide ((Sum.inr a:Key)=Sum.inl b)=false:=decide_eq_false (fun q=>nomatch q)
noncomputable def ZdH (prog:Program) (w:World):PySem.KeyKind prog w Key where
 is:=ZhK
 hash:=Znr w
 inj:=fun v a b ha hb=>by
  rcases Zo ha with ⟨i,t,rfl,rfl⟩ | ⟨x,t,rfl,rfl⟩
  ·rcases Zo hb with ⟨j,u,rfl,e⟩ | ⟨y,u,rfl,e⟩
   ·injection e with e1 _;rw[e1]
   ·exact nomatch e
  ·rcases Zo hb with ⟨j,u,rfl,e⟩ | ⟨y,u,rfl,e⟩
   ·exact nomatch e
   ·injection e with e1 _;rw[e1]
 byValue:=fun k v h=>by
  rcases Zo h with ⟨i,t,rfl,rfl⟩ | ⟨x,t,rfl,rfl⟩<;>rfl
 pyHash:=fun hv h=>by
  rcases Zo hv with ⟨i,t,rfl,rfl⟩ | ⟨x,t,rfl,rfl⟩
  ·exact wpAny_pyHash_int h
  ·exact wpAny_pyHash_str h
 eqBool:=fun hu hv h=>by
  rcases Zo hu with ⟨i,t,rfl,rfl⟩ | ⟨x,t,rfl,rfl⟩
  ·rcases Zo hv with ⟨j,u,rfl,rfl⟩ | ⟨y,u,rfl,rfl⟩
   ·rw[ZhL] at h;exact wpAny_eqBool_int h
   ·rw[ZhN] at h;exact SeqAt.EqAt.int_str i t y u _ _ _ _ h
  ·rcases Zo hv with ⟨j,u,rfl,rfl⟩ | ⟨y,u,rfl,rfl⟩
   ·rw[ZhO] at h;exact SeqAt.EqAt.str_int x t j u _ _ _ _ h
   ·rw[ZhM] at h;exact wpAny_eqBool_str h
 «strs» :=fun k x t v h=>by
  rcases Zo h with ⟨i,u,rfl,e⟩ | ⟨y,u,rfl,e⟩
  ·exact nomatch e
  ·injection e with e1 _
   subst e1
   cases v<;>rfl
end L2
namespace L2
open PySem PySem.Spec PyProof.Rows
inductive V where
 |non | bl (b:Bool) | int (i:Int) | str (x:Str) | byt (b:Array UInt8) | flt (b:UInt64) | ref (a:Addr) | ty (n:String)
 deriving DecidableEq
noncomputable def ZG:V->Value->Prop
 | .non,u=>u=Value.none
 | .bl b,u=>u=Value.bool b
 | .int i,u=> ∃ t,u=Value.int i t
 | .str x,u=> ∃ t,u=Value.str x t
 | .byt b,u=> ∃ t,u=Value.bytes b t
 | .flt b,u=> ∃ t,u=Value.float b t
 | .ref a,u=>u=Value.ref a
 | .ty n,u=>u=Value.type n
noncomputable abbrev Zu:List V->List Value->Prop:=Paired ZG
theorem Zu.length {xs:List V} {us:List Value} (r:Zu xs us):xs.length=us.length:=Paired.length r
theorem Zu.get: ∀ {xs:List V} {us:List Value} {i:Nat} {x:V},Zu xs us->xs[i]?=some x-> ∃ u,us[i]?=some u/\ZG x u
 |_,_,_,_,.nil,e=>by simp at e
 |_,_,0,_,.cons r _,e=>by simp at e;subst e;exact ⟨_,rfl,r⟩
 |_,_,i + 1,x,.cons _ t,e=>by
  obtain ⟨u,h1,h2⟩:=Zu.get (i:=i) (x:=x) t (by simpa using e)
  exact ⟨u,by simpa using h1,h2⟩
theorem Zu.set {x:V} {u:Value} (r:ZG x u): ∀ {xs:List V} {us:List Value} (i:Nat),Zu xs us->Zu (xs.set i x) (us.set i u)
 |_,_,_,.nil=> .nil
 |_,_,0,.cons _ t=> .cons r t
 |_,_,i + 1,.cons q t=> .cons q (Zu.set r i t)
theorem Zu.append: ∀ {xs ys:List V} {us ws:List Value},Zu xs us->Zu ys ws->Zu (xs ++ ys) (us ++ ws)
 |_,_,_,_,.nil,s=>s
 |_,_,_,_,.cons r t,s=> .cons r (Zu.append t s)
theorem Zu.take: ∀ {xs:List V} {us:List Value} (n:Nat),Zu xs us->Zu (xs.take n) (us.take n)
 |_,_,0,_=> .nil
 |_,_,_ + 1,.nil=> .nil
 |_,_,n + 1,.cons r t=> .cons r (Zu.take n t)
theorem Zu.drop: ∀ {xs:List V} {us:List Value} (n:Nat),Zu xs us->Zu (xs.drop n) (us.drop n)
 |_,_,0,r=>r
 |_,_,_ + 1,.nil=> .nil
 |_,_,n + 1,.cons _ t=>Zu.drop n t
noncomputable def Zko:Option V->Option Value->Prop
 |some v,some u=>ZG v u
 |none,none=>True
 |_,_=>False
noncomputable def KV {κ:Type}:List (κ × V)->List (κ × Value)->Prop:=Paired fun (p:κ × V) (q:κ × Value)=>p.1=q.1/\ZG p.2 q.2
noncomputable def kV:Key->V
 | .inl i=> .int i
 | .inr x=> .str x
inductive HO where
 |lst (xs:List V)
 |tup (xs:List V)
 |dK (kvs:List (Key × V)) | dT (kvs:List (List Key × V))
 |set (S:Int->Bool) (n:Nat)
 |ins (C dx:Addr) (fs:List (Str × V))
 |own (x:Addr)
 |xd (fs:List (Str × V))
 |met (f x:Addr)
 |rng (lo hi:Int)
 |frz (o:Obj) (u:HO)
 |tbl (ps:Array Value)
 |ext (φ:Heap->Prop)
noncomputable abbrev Hp:=Addr->Option HO
noncomputable def upd (H:Hp) (a:Addr) (o:HO):Hp:=fun b=>if b=a then some o else H b
theorem Zm {H:Hp} {a:Addr} {o:HO}:upd H a o a=some o:=by unfold upd;rw[if_pos rfl]
theorem Zw {H:Hp} {a b:Addr} {o:HO} (h:b≠a):upd H a o b=H b:=by unfold upd;rw[if_neg h]
theorem ZI {H:Hp} {a b:Addr} {o:HO} (h:H a=some o) (h':H b=none):a≠b:=by
 intro e;subst e;rw[h] at h';cases h'
section
variable (P:Program) (w:World)
noncomputable def Zav (H:Hp) (h:Heap) (a:Addr):HO->Prop
 | .lst xs=>xs.length<=sizeLine/\ ∃ (its:List Value) (n:Nat),Zu xs its/\h.get? a=some { cls:= .type "list",data:= .seq its.toArray n }
 | .tup xs=>xs.length<=sizeLine/\ ∃ its:List Value,Zu xs its/\IsTup h a its.toArray
 | .dK kvs=>kvs.length<=sizeLine/\(a == sysModules)=false/\ ∃ vs,KV kvs vs/\h.DictOf (ZdH P w) a vs
 | .dT kvs=>kvs.length<=sizeLine/\(a == sysModules)=false/\ ∃ xs:List (List Key × Addr × Value),
   Paired (fun (p:List Key × V) (q:List Key × Addr × Value)=>p.1=q.1/\H q.2.1=some (.tup (p.1.map kV))/\ZG p.2 q.2.2) kvs xs/\
   ∃ o es ep,h.get? a=some o/\o.ExactDict/\o.data= .dict es ep/\es.toList=xs.map (entryOfKey (tupleKind (ZdH P w)))/\(xs.map (·.1)).Nodup
 | .set S n=>h.SetOf (intKind P w) a S n
 | .ins C dx fs=>H dx=some (.own a)/\fs.length<=1000/\dx≠a/\h.get? a=some (PySem.W.instObj C dx)/\
   ∃ mA,h.Ns1 dx mA/\(∀ f,Zko (fs.lookup f) (mA f))/\PySem.Within mA (fs.map (·.1))
 | .own _=> ∃ o,h.get? a=some o
 | .xd fs=> ∃ mA,h.Ns1 a mA/\ ∀ f,Zko (fs.lookup f) (mA f)
 | .rng lo hi=> ∃ t u v,h.get? a=some { cls:= .type "range",data:= .fields #[.int lo t,.int hi u,.int 1 v] }
 | .frz o u=>h.get? a=some o/\Zav H h a u
 | .tbl ps=>h.get? a=some { cls:= .none,data:= .fields ps }
 | .met f x=>h.get? a=some (PySem.W.methodObj (.ref f) (.ref x))
 | .ext φ=>φ h/\(∃ o,h.get? a=some o)/\ ∀ h1 h2:Heap,φ h1->(∀ o,h1.get? a=some o->h2.get? a=some o)->φ h2
noncomputable def HOk (H:Hp) (h:Heap):Prop:= ∀ a o,H a=some o->Zav P w H h a o
end
section
variable {P:Program} {w:World} {H H':Hp} {h h':Heap} {a:Addr} {o:HO}
theorem Zav.lt (x:Zav P w H h a o):a < h.objs.size:=by
 cases o with
 |lst xs=>obtain ⟨_,_,_,_,e⟩:=x;exact Heap.lt_size e
 |tup xs=>obtain ⟨_,_,_,p⟩:=x;exact p.lt
 |dK kvs=>obtain ⟨_,_,_,_,o,_,_,e,_⟩:=x;exact Heap.lt_size e
 |dT kvs=>obtain ⟨_,_,_,_,o,_,_,e,_⟩:=x;exact Heap.lt_size e
 |set S n=>obtain ⟨o,_,_,_,e,_⟩:=x;exact Heap.lt_size e
 |ins C dx fs=>obtain ⟨_,_,_,e,_⟩:=x;exact Heap.lt_size e
 |own y=>obtain ⟨_,e⟩:=x;exact Heap.lt_size e
 |xd fs=>obtain ⟨_,⟨_,_,_,e,_⟩,_⟩:=x;exact Heap.lt_size e
 |rng lo hi=>obtain ⟨_,_,_,e⟩:=x;exact Heap.lt_size e
 |frz ob u=>obtain ⟨e,_⟩:=x;exact Heap.lt_size e
 |tbl ps=>exact Heap.lt_size (show h.get? a=some _ from x)
 |met f y=>exact Heap.lt_size (show h.get? a=some _ from x)
 |ext φ=>obtain ⟨_,⟨_,e⟩,_⟩:=x;exact Heap.lt_size e
theorem Paired.mapP {α β:Type} {F G:α->β->Prop}: ∀ {l₁:List α} {l₂:List β},Paired F l₁ l₂->(∀ a b,F a b->G a b)->Paired G l₁ l₂
 |_,_,.nil,_=> .nil
 |_,_,.cons r t,f=> .cons (f _ _ r) (Paired.mapP t f)
theorem Zav.stay (x:Zav P w H h a o) (k: ∀ b u,(b=a\/H b=some (.own a))->h.get? b=some u->h'.get? b=some u)
  (ho: ∀ b,H b=some (.own a)->H' b=some (.own a)) (ht: ∀ b xs,H b=some (.tup xs)->H' b=some (.tup xs)):Zav P w H' h' a o:=by
 induction o with
 |lst xs=>obtain ⟨z,its,n,r,e⟩:=x;exact ⟨z,its,n,r,k _ _ (.inl rfl) e⟩
 |tup xs=>obtain ⟨z,its,r,ob,e,c⟩:=x;exact ⟨z,its,r,ob,k _ _ (.inl rfl) e,c⟩
 |dK kvs=>obtain ⟨z,y,vs,r,ob,es,ep,e,c⟩:=x;exact ⟨z,y,vs,r,ob,es,ep,k _ _ (.inl rfl) e,c⟩
 |dT kvs=>
  obtain ⟨z,y,xs,r,ob,es,ep,e,c⟩:=x
  exact ⟨z,y,xs,Paired.mapP r fun p q z=>⟨z.1,ht _ _ z.2.1,z.2.2⟩,ob,es,ep,k _ _ (.inl rfl) e,c⟩
 |set S n=>obtain ⟨ob,es,ep,t,e,c⟩:=x;exact ⟨ob,es,ep,t,k _ _ (.inl rfl) e,c⟩
 |ins C dx fs=>
  obtain ⟨d,z,ne,e,mA,⟨od,es,ep,e2,c⟩,r⟩:=x
  exact ⟨ho _ d,z,ne,k _ _ (.inl rfl) e,mA,⟨od,es,ep,k _ _ (.inr d) e2,c⟩,r⟩
 |own y=>obtain ⟨ob,e⟩:=x;exact ⟨ob,k _ _ (.inl rfl) e⟩
 |xd fs=>obtain ⟨mA,⟨od,es,ep,e,c⟩,r⟩:=x;exact ⟨mA,⟨od,es,ep,k _ _ (.inl rfl) e,c⟩,r⟩
 |rng lo hi=>obtain ⟨t,u,v,e⟩:=x;exact ⟨t,u,v,k _ _ (.inl rfl) e⟩
 |frz ob u ih=>obtain ⟨e,q⟩:=x;exact ⟨k _ _ (.inl rfl) e,ih q⟩
 |tbl ps=>
  have e:h.get? a=some { cls:= .none,data:= .fields ps }:=x
  show h'.get? a=some { cls:= .none,data:= .fields ps }
  exact k a _ (.inl rfl) e
 |met f y=>
  have e:h.get? a=some (PySem.W.methodObj (.ref f) (.ref y)):=x
  show h'.get? a=some (PySem.W.methodObj (.ref f) (.ref y))
  exact k a _ (.inl rfl) e
 |ext φ=>obtain ⟨p,⟨o,e⟩,st⟩:=x;exact ⟨st _ _ p fun o q=>k _ _ (.inl rfl) q,⟨o,k _ _ (.inl rfl) e⟩,st⟩
theorem HOk.lt (x:HOk P w H h) (e:H a=some o):a < h.objs.size:=(x a o e).lt
theorem HOk.fresh (x:HOk P w H h) (e:h.objs.size<=a):H a=none:=by
 cases q:H a with
 |none=>rfl
 |some u=>exact absurd (Nat.lt_of_lt_of_le (x.lt q) e) (Nat.lt_irrefl _)
theorem HOk.kept (x:HOk P w H h) (k: ∀ b u,h.get? b=some u->h'.get? b=some u):HOk P w H h':=fun a o e=>
 (x a o e).stay (fun b u _ q=>k b u q) (fun _ q=>q) fun _ _ q=>q
theorem HOk.laid (x:HOk P w H h) (k: ∀ b u,h.get? b=some u->h'.get? b=some u) (hp:h.objs.size<=a) (new:Zav P w (upd H a o) h' a o):HOk P w (upd H a o) h':=fun b u e=>by
 have hn:=x.fresh hp
 by_cases hb:b=a
 ·subst hb;rw[Zm] at e;cases e;exact new
 ·rw[Zw hb] at e
  exact (x b u e).stay (fun c v _ q=>k c v q) (fun c q=>by rw[Zw (ZI q hn)];exact q) fun c xs q=>by rw[Zw (ZI q hn)];exact q
end
noncomputable def Rd (H:Hp) (a:Addr) (u:HO):Prop:=H a=some u\/ ∃ o,H a=some (.frz o u)
theorem Rd.ok {P:Program} {w:World} {H:Hp} {h:Heap} {a:Addr} {u:HO} (r:Rd H a u) (x:HOk P w H h):Zav P w H h a u:=by
 rcases r with r | ⟨o,r⟩
 ·exact x a u r
 ·obtain ⟨_,q⟩:=x a _ r
  exact q
noncomputable def Mut:Option HO->Prop
 |some (.lst _)=>True
 |some (.dK _)=>True
 |some (.dT _)=>True
 |some (.set _ _)=>True
 |some (.ins _ _ _)=>True
 |some (.ext _)=>True
 |_=>False
section
variable {P:Program} {w:World} {H:Hp} {h h':Heap} {x e:Addr} {o':HO}
theorem HOk.write (ok:HOk P w H h) (mu:Mut (H x)) (he:e=x\/H e=some (.own x)) (k: ∀ b u,b≠e->h.get? b=some u->h'.get? b=some u) (heo: ∃ u,h'.get? e=some u)
  (new:Zav P w (upd H x o') h' x o'):HOk P w (upd H x o') h':=fun b u q=>by
 have nown: ∀ c y,H c=some (.own y)->c≠x:=fun c y r z=>by subst z;rw[r] at mu;exact mu
 have ntup: ∀ c xs,H c=some (.tup xs)->c≠x:=fun c xs r z=>by subst z;rw[r] at mu;exact mu
 by_cases hb:b=x
 ·subst hb;rw[Zm] at q;cases q;exact new
 ·rw[Zw hb] at q
  by_cases hbe:b=e
  ·have q':H b=some (.own x):=by
    rcases he with z | z
    ·exact absurd (hbe.trans z) hb
    ·rw[hbe];exact z
   rw[q] at q';cases q'
   obtain ⟨v,hv⟩:=heo
   exact ⟨v,by rw[hbe];exact hv⟩
  ·refine (ok b u q).stay (fun c v hc r=>k c v ?_ r) (fun c r=>by rw[Zw (nown c b r)];exact r) fun c xs r=>by rw[Zw (ntup c xs r)];exact r
   rcases hc with rfl | hc
   ·exact hbe
   ·rintro rfl
    rcases he with z | z
    ·exact nown c b hc z
    ·rw[hc] at z;cases z;exact hb rfl
end
structure Un (fs ex:List Addr) (H H':Hp) (h h':Heap):Prop where
 keep: ∀ b o,h.get? b=some o->H b=none->b ∉ fs->b ∉ ex->h'.get? b=some o
 slot: ∀ b o,h.get? b=some o->H b=none->b∈fs->b ∉ ex-> ∃ sl,h'.get? b=some { o with slots:=sl }
 free: ∀ b o,h.get? b=some o->H b=none->b ∉ ex->H' b=none
 there: ∀ b o,h.get? b=some o->b ∉ ex-> ∃ o',h'.get? b=some o'
 tups: ∀ b xs,H b=some (.tup xs)->H' b=some (.tup xs)
 frzs: ∀ b o u,H b=some (.frz o u)->H' b=some (.frz o u)
 tbls: ∀ b ps,H b=some (.tbl ps)-> ∃ more,H' b=some (.tbl (ps ++ more))
section
variable {fs fs' ex ex':List Addr} {H H1 H2:Hp} {h h1 h2 h':Heap} {a x e:Addr} {o:HO}
theorem Un.any (u:Un fs ex H H1 h h1) {b:Addr} {ob:Obj} (q:h.get? b=some ob) (n:H b=none) (hx:b ∉ ex): ∃ sl,h1.get? b=some { ob with slots:=sl }:=by
 by_cases hb:b∈fs
 ·exact u.slot b ob q n hb hx
 ·exact ⟨ob.slots,u.keep b ob q n hb hx⟩
theorem Un.kept (k: ∀ b u,h.get? b=some u->h'.get? b=some u):Un fs ex H H h h':=
 ⟨fun b ob q _ _ _=>k b ob q,fun b ob q _ _ _=>⟨ob.slots,k b ob q⟩,fun _ _ _ n _=>n,fun b ob q _=>⟨ob,k b ob q⟩,fun _ _ q=>q,fun _ _ _ q=>q,fun _ ps q=>⟨#[],by rw[q];simp⟩⟩
theorem Un.refl:Un fs ex H H h h:=Un.kept fun _ _ q=>q
theorem Un.laid (k: ∀ b u,h.get? b=some u->h'.get? b=some u) (hp:h.objs.size<=a) (hn:H a=none):Un fs ex H (upd H a o) h h' where
 keep:=fun b u q _ _ _=>k b u q
 slot:=fun b u q _ _ _=>⟨u.slots,k b u q⟩
 free:=fun b u q n _=>by rw[Zw (Nat.ne_of_lt (Nat.lt_of_lt_of_le (Heap.lt_size q) hp))];exact n
 there:=fun b u q _=>⟨u,k b u q⟩
 tups:=fun b xs q=>by rw[Zw (ZI q hn)];exact q
 frzs:=fun b u xs q=>by rw[Zw (ZI q hn)];exact q
 tbls:=fun b ps q=>⟨#[],by rw[Zw (ZI q hn),q];simp⟩
theorem Un.write (mu:Mut (H x)) (he:e=x\/H e=some (.own x)) (k: ∀ b u,b≠e->h.get? b=some u->h'.get? b=some u) (heo: ∃ u,h'.get? e=some u):Un fs ex H (upd H x o) h h':=by
 have hx: ∀ b,H b=none->b≠x:=fun b n z=>by subst z;rw[n] at mu;exact mu
 have hb: ∀ b,H b=none->b≠e:=fun b n z=>by
  subst z
  rcases he with r | r
  ·exact hx b n r
  ·rw[n] at r;cases r
 have hm: ∀ b u,H b=some u-> ¬ Mut (some u)->b≠x:=fun b u q nm z=>by subst z;rw[q] at mu;exact nm mu
 refine ⟨fun b u q n _ _=>k b u (hb b n) q,fun b u q n _ _=>⟨u.slots,k b u (hb b n) q⟩,fun b u q n _=>by rw[Zw (hx b n)];exact n,fun b u q _=> ?_,
  fun b xs q=>by rw[Zw (hm b _ q fun z=>z)];exact q,fun b u xs q=>by rw[Zw (hm b _ q fun z=>z)];exact q,fun b ps q=>⟨#[],by rw[Zw (hm b _ q fun z=>z),q];simp⟩⟩
 by_cases hbe:b=e
 ·subst hbe;exact heo
 ·exact ⟨u,k b u hbe q⟩
end
noncomputable def trk (h:Heap) (H:Hp):List Addr:=(List.range h.objs.size).filter fun a=>(H a).isSome
noncomputable def ZeN (h:Heap) (H:Hp):Heap:=PySem.W.hideAll h (trk h H)
theorem ZdI (h:Heap) (H:Hp):(ZeN h H).objs.size=h.objs.size:=PySem.W.hideAll_size _ _
theorem ZcH {h:Heap} {H:Hp} {b:Addr} {o:Obj} (e:h.get? b=some o) (n:H b=none):(ZeN h H).get? b=some o:=
 PySem.W.hideAll_get _ e fun hm=>by
  have q:(H b).isSome=true:=(List.mem_filter.mp hm).2
  rw[n] at q;simp at q
theorem ZdJ {h:Heap} {H:Hp} {b:Addr} {o:Obj} (e:(ZeN h H).get? b=some o):h.get? b=some o/\H b=none:=by
 have e':h.get? b=some o:=PySem.W.of_hideAll (trk h H) e
 refine ⟨e',?_⟩
 cases q:H b with
 |none=>rfl
 |some x=>
  have hm:b∈trk h H:=List.mem_filter.mpr ⟨List.mem_range.mpr (Heap.lt_size e'),by simp[q]⟩
  have z:(ZeN h H).get? b=none:=PySem.W.hideAll_none (trk h H) hm
  rw[z] at e;cases e
end L2
namespace L2
open PySem PySem.Spec PyProof.Rows
structure Mod (K:PySem.W.Frag) (mg:Str->Option Value) (base:Heap):Prop where
 kin:K.In base
 glob:base.Ns mainGlobals mg
 blt: ∃ mb,base.Ns builtinsNs mb/\ ∀ x:Str,x≠"__name__"->mb x=bootBuiltins x
 nolimit:base.NoLimit
structure Cx where
 prog:Program
 w:World
 K:PySem.W.Frag
 mg:Str->Option Value
 base:Heap
 A:Around
 N:List Str
 s₀:Shared
 H₀:Hp
 env:Env
 outer:List Env
 stack:List Env
 ex:List Addr
 fn:Str->Bool
 calm:Bool
 pn:List (Addr × Obj)
 xe:Value->Shared->Prop
noncomputable def frs (l:List Env):List Addr:=l.filterMap (·.frame)
noncomputable abbrev Cx.fs (X:Cx):List Addr:=frs X.outer
noncomputable def Vis (sc:Scope) (x:Str):Prop:=sc.names.lookup x=some .local\/sc.names.lookup x=some .cell\/sc.names.lookup x=some .free
noncomputable def Loc (sc:Scope) (x:Str):Prop:=sc.names.lookup x=some .local\/sc.names.lookup x=some .cell
noncomputable def Zns (env:Env) (h:Heap) (m:Str->Option Value) (x:Str) (u:Value):Prop:=
 (env.kindOf x=some .local/\m x=some u)\/((env.kindOf x=some .cell\/env.kindOf x=some .free)/\ ∃ c,env.cells.lookup x=some c/\h.IsCell c (some u))
structure Cx.Ok (X:Cx):Prop where
 mod:Mod X.K X.mg X.base
 kind:X.env.scope.kind= .function
 glob:X.env.globals=mainGlobals
 blt:X.env.builtins=builtinsNs
 above:X.s₀.heap.objs.size<=X.env.locals
 inj: ∀ x y c,X.env.cells.lookup x=some c->X.env.cells.lookup y=some c->x=y
 has: ∀ x,(X.env.kindOf x=some .cell\/X.env.kindOf x=some .free)-> ∃ c,X.env.cells.lookup x=some c
 cab: ∀ x c,X.fn x=true->X.env.cells.lookup x=some c->X.s₀.heap.objs.size<=c
 hd:X.calm=true->X.A.handled=none
 frames:X.A.frames=some X.stack
 stk:X.stack=X.outer\/(X.stack=X.env :: X.outer/\X.env.frame=some X.env.locals)
 exf: ∀ b∈X.ex,b≠X.env.locals/\ ∀ x c,X.env.cells.lookup x=some c->c≠b
 bs: ∀ b o,X.base.get? b=some o->X.s₀.heap.get? b=some o/\X.H₀ b=none
 bsz:X.base.objs.size<=X.s₀.heap.objs.size
 noex: ∀ b o,X.base.get? b=some o->b ∉ X.ex
 exfs: ∀ b∈X.ex,b ∉ X.fs
 funs:X.s₀.heap.FunFrames X.base X.outer
 frf: ∀ b∈X.fs,X.H₀ b=none
noncomputable def Qd (A:Around) (H:Hp):Prop:=A.handled=none\/ ∃ ea oe u vs,A.handled=some (.ref ea)/\H ea=some (.frz oe u)/\oe.data= .fields vs/\vs[2]?=some .none
theorem Qd.mono {A:Around} {H H':Hp} (q:Qd A H) (k: ∀ b o u,H b=some (.frz o u)->H' b=some (.frz o u)):Qd A H':=by
 rcases q with q | ⟨ea,oe,u,vs,e1,e2,e3,e4⟩
 ·exact .inl q
 ·exact .inr ⟨ea,oe,u,vs,e1,k _ _ _ e2,e3,e4⟩
structure Inv (X:Cx) (pins:List (Addr × Obj)) (σ:List (Option V)) (H:Hp) (s:Shared):Prop where
 ok:X.Ok
 os:s.os=X.s₀.os
 bare:AllBare s.gens
 base:Un X.fs X.ex X.H₀ H X.s₀.heap s.heap
 loc: ∃ m,s.heap.Ns X.env.locals m/\ ∀ (i:Nat) (x:Str) (v:V),X.N[i]?=some x->σ[i]?=some (some v)->Vis X.env.scope x-> ∃ u,ZG v u/\Zns X.env s.heap m x u
 cell: ∀ x c,X.env.cells.lookup x=some c-> ∃ v,s.heap.IsCell c v
 free:H X.env.locals=none
 freeC: ∀ x c,X.env.cells.lookup x=some c->H c=none
 pin: ∀ p∈X.pn ++ pins,s.heap.get? p.1=some p.2/\H p.1=none/\p.1≠X.env.locals/\p.1 ∉ X.fs/\ ∀ v,p.2.data≠ .cell v
 hok:HOk X.prog X.w H s.heap
 len:σ.length=X.N.length
 qd:Qd X.A H
section
variable {X:Cx} {pins:List (Addr × Obj)} {σ:List (Option V)} {H H':Hp} {s:Shared} {h':Heap}
theorem Cx.Ok.nofr (ok:X.Ok) {b:Addr} {o:Obj} (e:X.base.get? b=some o):b ∉ X.fs:=fun hb=>by
 have:=(ok.funs.mem hb).1
 rw[e] at this;cases this
theorem Inv.bs (I:Inv X pins σ H s): ∀ b o,X.base.get? b=some o->s.heap.get? b=some o/\H b=none:=fun b o e=>
 ⟨I.base.keep b o (I.ok.bs b o e).1 (I.ok.bs b o e).2 (I.ok.nofr e) (I.ok.noex b o e),I.base.free b o (I.ok.bs b o e).1 (I.ok.bs b o e).2 (I.ok.noex b o e)⟩
theorem Inv.qh (I:Inv X pins σ H s):DQ.Zak X.A s.heap:=by
 rcases I.qd with q | ⟨ea,oe,u,vs,e1,e2,e3,e4⟩
 ·exact .inl q
 ·exact .inr ⟨ea,oe,vs,e1,(I.hok _ _ e2).1,e3,e4⟩
theorem Inv.bk (I:Inv X pins σ H s): ∀ b o,X.base.get? b=some o->s.heap.get? b=some o:=fun b o e=>(I.bs b o e).1
theorem Inv.mod (I:Inv X pins σ H s):Mod X.K X.mg X.base:=I.ok.mod
theorem Inv.kIn (I:Inv X pins σ H s):X.K.In s.heap:=I.ok.mod.kin.keeps I.bk
theorem Inv.fr (I:Inv X pins σ H s): ∃ m,Fr X.base X.env.locals s.heap m:=
 let ⟨m,hn,_⟩:=I.loc
 ⟨m,hn,I.bk,Nat.le_trans I.ok.bsz I.ok.above⟩
theorem Inv.lt (I:Inv X pins σ H s):X.env.locals < s.heap.objs.size:=let ⟨_,hn,_⟩:=I.loc;hn.lt
theorem Inv.sz (I:Inv X pins σ H s):X.s₀.heap.objs.size<=s.heap.objs.size:=Nat.le_trans I.ok.above (Nat.le_of_lt I.lt)
theorem Inv.nofs (I:Inv X pins σ H s) {a:Addr} (h:s.heap.objs.size<=a):a ∉ X.fs:=fun hb=>by
 obtain ⟨_,o,ho,_⟩:=I.ok.funs.mem hb
 exact absurd (Nat.lt_of_lt_of_le (Heap.lt_size ho) (Nat.le_trans I.sz h)) (Nat.lt_irrefl _)
theorem Inv.cne (I:Inv X pins σ H s): ∀ x c,X.env.cells.lookup x=some c->c≠X.env.locals:=fun x c e z=>by
 obtain ⟨v,o,ho,hd⟩:=I.cell x c e
 obtain ⟨m,⟨o',es,ep,ho',hd',_⟩,_⟩:=I.loc
 rw[z,ho'] at ho;cases ho;rw[hd'] at hd;cases hd
theorem Inv.funs (I:Inv X pins σ H s):s.heap.FunFrames X.base X.outer:=by
 have all: ∀ (l:List Env),(∀ b∈frs l,b∈X.fs)->X.s₀.heap.FunFrames X.base l->s.heap.FunFrames X.base l:=by
  intro l
  induction l with
  |nil=>intro _ _;trivial
  |cons env r ih=>
   intro hs hl
   obtain ⟨hk,⟨L,o,hf,hn,ho,hd⟩,hr⟩:=hl
   have hL:L∈X.fs:=hs L (by unfold frs;rw[List.filterMap_cons,hf];exact List.mem_cons_self)
   obtain ⟨sl,e⟩:=I.base.slot L o ho (I.ok.frf L hL) hL fun z=>I.ok.exfs L z hL
   exact ⟨hk,⟨L,_,hf,hn,e,hd⟩,ih (fun b hb=>hs b (by unfold frs;rw[List.filterMap_cons,hf];exact List.mem_cons_of_mem _ hb)) hr⟩
 exact all X.outer (fun _ hb=>hb) I.ok.funs
theorem Inv.stack (I:Inv X pins σ H s):s.heap.FunFrames X.base X.stack:=by
 rcases I.ok.stk with e | ⟨e,hf⟩
 ·rw[e];exact I.funs
 ·rw[e]
  obtain ⟨m,hn,_⟩:=I.loc
  refine .cons (by rw[I.ok.kind];decide) hf hn ?_ I.funs
  exact Heap.get?_none_of_le (Nat.le_trans I.ok.bsz I.ok.above)
theorem Inv.stkSub (I:Inv X pins σ H s): ∀ b∈frs X.stack,b∈X.env.locals :: X.fs:=fun b hb=>by
 rcases I.ok.stk with e | ⟨e,hf⟩
 ·rw[e] at hb;exact List.mem_cons_of_mem _ hb
 ·rw[e] at hb
  unfold frs at hb
  rw[List.filterMap_cons,hf] at hb
  exact hb
theorem Inv.stkFree (I:Inv X pins σ H s): ∀ b∈frs X.stack,H b=none:=fun b hb=>by
 rcases List.mem_cons.mp (I.stkSub b hb) with e | hb
 ·rw[e];exact I.free
 ·obtain ⟨_,o,ho,_⟩:=I.ok.funs.mem hb
  exact I.base.free b o ho (I.ok.frf b hb) fun z=>I.ok.exfs b z hb
theorem Inv.step {g':Array GenState} {t':Nat} {d':Drawn} {ch:List Addr} (I:Inv X pins σ H s)
  (hch: ∀ b∈ch,(b∈X.ex\/X.s₀.heap.objs.size<=b)/\b≠X.env.locals/\(∀ x c,X.env.cells.lookup x=some c->c≠b)/\ ∀ p∈X.pn ++ pins,p.1≠b)
  (keep: ∀ b o,b≠X.env.locals->b ∉ X.fs->b ∉ ch->s.heap.get? b=some o->H b=none->h'.get? b=some o)
  (slot: ∀ b o,b≠X.env.locals->b∈X.fs->b ∉ ch->s.heap.get? b=some o->H b=none-> ∃ sl,h'.get? b=some { o with slots:=sl }) (free: ∀ b o,b ∉ ch->s.heap.get? b=some o->H b=none->H' b=none)
  (there: ∀ b o,b ∉ ch->s.heap.get? b=some o-> ∃ o',h'.get? b=some o')
  (tups: ∀ b xs,H b=some (.tup xs)->H' b=some (.tup xs)) (frzs: ∀ b o u,H b=some (.frz o u)->H' b=some (.frz o u)) (tbls: ∀ b ps,H b=some (.tbl ps)-> ∃ more,H' b=some (.tbl (ps ++ more)))
  (ns: ∀ m,s.heap.Ns X.env.locals m->h'.Ns X.env.locals m) (hok:HOk X.prog X.w H' h') (hg:AllBare g'):
  Inv X pins σ H' { s with heap:=h',gens:=g',drawn:=d',toks:=t' }:=by
 have neL: ∀ b o,X.s₀.heap.get? b=some o->b≠X.env.locals:=fun b o e=>Nat.ne_of_lt (Nat.lt_of_lt_of_le (Heap.lt_size e) I.ok.above)
 have neC: ∀ b o,X.s₀.heap.get? b=some o->b ∉ X.ex->b ∉ ch:=fun b o e hx hb=>by
  rcases (hch b hb).1 with z | z
  ·exact hx z
  ·exact absurd (Nat.lt_of_lt_of_le (Heap.lt_size e) z) (Nat.lt_irrefl _)
 have cellK: ∀ x c,X.env.cells.lookup x=some c-> ∀ v,s.heap.IsCell c v->h'.IsCell c v:=fun x c e v ⟨o,ho,hd⟩=>by
  have nch:c ∉ ch:=fun z=>(hch c z).2.2.1 x c e rfl
  by_cases hc:c∈X.fs
  ·obtain ⟨sl,q⟩:=slot c o (I.cne x c e) hc nch ho (I.freeC x c e)
   exact ⟨_,q,hd⟩
  ·exact ⟨o,keep c o (I.cne x c e) hc nch ho (I.freeC x c e),hd⟩
 refine ⟨I.ok,I.os,hg,⟨fun b o e n hb hx=> ?_,fun b o e n hb hx=> ?_,fun b o e n hx=> ?_,fun b o e hx=> ?_,fun b xs e=>tups b xs (I.base.tups b xs e),fun b o xs e=>frzs b o xs (I.base.frzs b o xs e),fun b ps e=> ?_⟩,?_,fun x c e=> ?_,?_,fun x c e=> ?_,fun p hp=> ?_,hok,I.len,I.qd.mono frzs⟩
 ·exact keep b o (neL b o e) hb (neC b o e hx) (I.base.keep b o e n hb hx) (I.base.free b o e n hx)
 ·obtain ⟨sl,e1⟩:=I.base.slot b o e n hb hx
  obtain ⟨sl',e2⟩:=slot b _ (neL b o e) hb (neC b o e hx) e1 (I.base.free b o e n hx)
  exact ⟨sl',e2⟩
 ·obtain ⟨o',e1⟩:=I.base.there b o e hx
  exact free b o' (neC b o e hx) e1 (I.base.free b o e n hx)
 ·obtain ⟨o',e1⟩:=I.base.there b o e hx
  exact there b o' (neC b o e hx) e1
 ·obtain ⟨m1,e1⟩:=I.base.tbls b ps e
  obtain ⟨m2,e2⟩:=tbls b _ e1
  exact ⟨m1 ++ m2,by rw[e2,Array.append_assoc]⟩
 ·obtain ⟨m,hn,hl⟩:=I.loc
  refine ⟨m,ns m hn,fun i x v e1 e2 e3=> ?_⟩
  obtain ⟨u,r,l⟩:=hl i x v e1 e2 e3
  refine ⟨u,r,?_⟩
  rcases l with l | ⟨k,c,e,z⟩
  ·exact .inl l
  ·exact .inr ⟨k,c,e,cellK x c e _ z⟩
 ·obtain ⟨v,z⟩:=I.cell x c e
  exact ⟨v,cellK x c e v z⟩
 ·obtain ⟨m,⟨o,_,_,ho,_⟩,_⟩:=I.loc
  exact free _ o (fun z=>(hch _ z).2.1 rfl) ho I.free
 ·obtain ⟨v,o,ho,hd⟩:=I.cell x c e
  exact free c o (fun z=>(hch c z).2.2.1 x c e rfl) ho (I.freeC x c e)
 ·obtain ⟨e,n,ne,nf,d⟩:=I.pin p hp
  have nch:p.1 ∉ ch:=fun z=>(hch p.1 z).2.2.2 p hp rfl
  exact ⟨keep p.1 p.2 ne nf nch e n,free p.1 p.2 nch e n,ne,nf,d⟩
theorem Inv.un {t':Nat} (I:Inv X pins σ H s) (u:Un X.fs [] H H' s.heap h') (hok:HOk X.prog X.w H' h'):Inv X pins σ H' { s with heap:=h',toks:=t' }:=by
 obtain ⟨m,⟨o,es,ep,ho,r⟩,_⟩:=id I.loc
 obtain ⟨sl,hL⟩:=u.any ho I.free (by simp)
 exact I.step (g':=s.gens) (d':=s.drawn) (ch:=[]) (fun _ z=>nomatch z) (fun b o _ hb _ e n=>u.keep b o e n hb (by simp)) (fun b o _ hb _ e n=>u.slot b o e n hb (by simp)) (fun b o _ e n=>u.free b o e n (by simp)) (fun b o _ e=>u.there b o e (by simp)) u.tups u.frzs u.tbls (fun m' hm=>by
  obtain ⟨o',es',ep',ho',r'⟩:=hm
  rw[ho] at ho';cases ho'
  exact ⟨_,es',ep',hL,r'⟩) hok I.bare
theorem Inv.call {g':Array GenState} {t':Nat} {d':Drawn} {ch:List Addr} (I:Inv X pins σ H s) (u:Un (frs X.stack) ch H H' s.heap h') (hok:HOk X.prog X.w H' h') (hg:AllBare g')
  (hch: ∀ b∈ch,(b∈X.ex\/X.s₀.heap.objs.size<=b)/\b≠X.env.locals/\(∀ x c,X.env.cells.lookup x=some c->c≠b)/\ ∀ p∈X.pn ++ pins,p.1≠b):
  Inv X pins σ H' { s with heap:=h',gens:=g',drawn:=d',toks:=t' }:=by
 obtain ⟨m,⟨o,es,ep,ho,r⟩,_⟩:=id I.loc
 obtain ⟨sl,hL⟩:=u.any ho I.free fun z=>(hch _ z).2.1 rfl
 exact I.step (ch:=ch) hch (fun b o hL hb hc e n=>u.keep b o e n (fun z=>(List.mem_cons.mp (I.stkSub b z)).elim hL hb) hc) (fun b o _ _ hc e n=>u.any e n hc) (fun b o hc e n=>u.free b o e n hc) (fun b o hc e=>u.there b o e hc) u.tups u.frzs u.tbls (fun m' hm=>by
  obtain ⟨o',es',ep',ho',r'⟩:=hm
  rw[ho] at ho';cases ho'
  exact ⟨_,es',ep',hL,r'⟩) hok hg
theorem Inv.turned {t':Nat} {it:Addr} (I:Inv X pins σ H s) (k: ∀ b o,b≠it->s.heap.get? b=some o->h'.get? b=some o) (hn:H it=none) (hL:it≠X.env.locals)
  (h1:it∈X.ex\/X.s₀.heap.objs.size<=it) (h2: ∀ x c,X.env.cells.lookup x=some c->c≠it) (h3: ∀ p∈X.pn ++ pins,p.1≠it):Inv X pins σ H { s with heap:=h',toks:=t' }:=by
 have nit: ∀ b u,H b=some u->b≠it:=fun b u e z=>by rw[z,hn] at e;cases e
 refine I.step (g':=s.gens) (d':=s.drawn) (ch:=[it]) (fun b hb=> ?_) (fun b o _ _ hc e _=>k b o (fun z=>hc (by simp[z])) e) (fun b o _ _ hc e _=>⟨o.slots,k b o (fun z=>hc (by simp[z])) e⟩) (fun _ _ _ _ n=>n)
  (fun b o hc e=>⟨o,k b o (fun z=>hc (by simp[z])) e⟩) (fun _ _ e=>e) (fun _ _ _ e=>e) (fun b ps e=>⟨#[],by rw[e];simp⟩) (fun m hm=> ?_) (fun b u e=> ?_) I.bare
 ·have e:b=it:=by simpa using hb
  subst e
  exact ⟨h1,hL,h2,h3⟩
 ·obtain ⟨o,es,ep,ho,r⟩:=hm
  exact ⟨o,es,ep,k _ o (Ne.symm hL) ho,r⟩
 ·refine (I.hok b u e).stay (fun c v hc q=>k c v ?_ q) (fun _ q=>q) fun _ _ q=>q
  rcases hc with z | z
  ·rw[z];exact nit b u e
  ·exact nit c _ z
theorem Inv.tok (I:Inv X pins σ H s) (t:Nat):Inv X pins σ H { s with toks:=t }:=I.un (h':=s.heap) (t':=t) Un.refl I.hok
theorem Inv.kept {t':Nat} (I:Inv X pins σ H s) (k: ∀ b u,s.heap.get? b=some u->h'.get? b=some u):Inv X pins σ H { s with heap:=h',toks:=t' }:=I.un (Un.kept k) (I.hok.kept k)
theorem Inv.laid {a:Addr} {o:HO} {t':Nat} (I:Inv X pins σ H s) (k: ∀ b u,s.heap.get? b=some u->h'.get? b=some u) (hp:s.heap.objs.size<=a) (new:Zav X.prog X.w (upd H a o) h' a o):
  Inv X pins σ (upd H a o) { s with heap:=h',toks:=t' }:=I.un (Un.laid k hp (I.hok.fresh hp)) (I.hok.laid k hp new)
theorem Inv.write {x e:Addr} {o:HO} {t':Nat} (I:Inv X pins σ H s) (mu:Mut (H x)) (he:e=x\/H e=some (.own x)) (k: ∀ b u,b≠e->s.heap.get? b=some u->h'.get? b=some u) (heo: ∃ u,h'.get? e=some u)
  (new:Zav X.prog X.w (upd H x o) h' x o):Inv X pins σ (upd H x o) { s with heap:=h',toks:=t' }:=I.un (Un.write mu he k heo) (I.hok.write mu he k heo new)
theorem Inv.pins_of {pins':List (Addr × Obj)} (I:Inv X pins σ H s) (h: ∀ p∈pins',s.heap.get? p.1=some p.2/\H p.1=none/\p.1≠X.env.locals/\p.1 ∉ X.fs/\ ∀ v,p.2.data≠ .cell v):Inv X pins' σ H s:=
 ⟨I.ok,I.os,I.bare,I.base,I.loc,I.cell,I.free,I.freeC,fun p hp=>(List.mem_append.mp hp).elim (fun z=>I.pin p (List.mem_append_left _ z)) (h p),I.hok,I.len,I.qd⟩
theorem ZcI {N:List Str} (hN:N.Nodup) {i j:Nat} {x:Str} (a:N[i]?=some x) (b:N[j]?=some x):i=j:=by
 obtain ⟨h1,e1⟩:=List.getElem?_eq_some_iff.mp a
 obtain ⟨h2,e2⟩:=List.getElem?_eq_some_iff.mp b
 exact (List.getElem_inj hN).mp (e1.trans e2.symm)
theorem ZdK {M:Model} {A:Around} {E:Value->Shared->Prop} {i:Nat} {x:Str} {v:V} {u:Value} {Q:Unit->Shared->Prop} (I:Inv X pins σ H s) (hN:X.N.Nodup) (hi:X.N[i]?=some x) (hx:Loc X.env.scope x) (r:ZG v u)
  (h: ∀ s',Inv X pins (σ.set i (some v)) H s'->(∃ a,Heap.SameBut a s.heap s'.heap/\(a=X.env.locals\/X.env.cells.lookup x=some a))->Q () s') (hf:X.fn x=true\/X.env.scope.names.lookup x=some .local:=by first | exact .inl rfl | exact .inr rfl | assumption):wpAny M A (storeName X.env x u) Q E s:=by
 obtain ⟨m,hn,hl⟩:=id I.loc
 have hcls:(X.env.scope.kind == .class || (X.env.scope.kind == .module && X.env.locals != X.env.globals))=false:=by rw[I.ok.kind];rfl
 have hiσ:i < σ.length:=by rw[I.len];exact (List.getElem?_eq_some_iff.mp hi).1
 have cne:=I.cne
 have tracked: ∀ {a:Addr} {h':Heap},(∃ o,s.heap.get? a=some o/\H a=none)->Heap.SameBut a s.heap h'->HOk X.prog X.w H h':=fun {a h'} ha hs b ob e=>by
  obtain ⟨_,_,hfree⟩:=ha
  refine (I.hok b ob e).stay (fun c w' hc q=>(hs.2 c ?_).trans q) (fun _ q=>q) fun _ _ q=>q
  rintro rfl
  rcases hc with rfl | hc
  ·rw[hfree] at e;cases e
  ·rw[hfree] at hc;cases hc
 rcases hx with hk | hk
 ·refine wpAny_storeName_local hk hn (fun h' hn' hs=> ?_) hcls
  obtain ⟨oL,_,_,hoL,_⟩:=id hn
  refine h _ ⟨I.ok,I.os,I.bare,⟨fun b o e n hb hx=> ?_,fun b o e n hb hx=> ?_,I.base.free,fun b o e hx=> ?_,I.base.tups,I.base.frzs,I.base.tbls⟩,⟨_,hn',fun j y v' e1 e2 e3=> ?_⟩,fun y c e=> ?_,I.free,I.freeC,fun p hp=> ?_,tracked ⟨oL,hoL,I.free⟩ hs,by simpa using I.len,I.qd⟩ ⟨_,hs,.inl rfl⟩
  ·exact (hs.2 b (Nat.ne_of_lt (Nat.lt_of_lt_of_le (Heap.lt_size e) I.ok.above))).trans (I.base.keep b o e n hb hx)
  ·obtain ⟨sl,e1⟩:=I.base.slot b o e n hb hx
   exact ⟨sl,(hs.2 b (Nat.ne_of_lt (Nat.lt_of_lt_of_le (Heap.lt_size e) I.ok.above))).trans e1⟩
  ·obtain ⟨o',e1⟩:=I.base.there b o e hx
   exact ⟨o',(hs.2 b (Nat.ne_of_lt (Nat.lt_of_lt_of_le (Heap.lt_size e) I.ok.above))).trans e1⟩
  ·by_cases hj:j=i
   ·subst hj
    rw[hi] at e1;cases e1
    rw[List.getElem?_set_self hiσ] at e2
    cases e2
    exact ⟨u,r,.inl ⟨hk,by simp⟩⟩
   ·rw[List.getElem?_set_ne (Ne.symm hj)] at e2
    obtain ⟨u',r',q⟩:=hl j y v' e1 e2 e3
    refine ⟨u',r',?_⟩
    rcases q with ⟨k,e⟩ | ⟨k,c,e,z⟩
    ·refine .inl ⟨k,?_⟩
     have:y≠x:=fun e=>hj (ZcI hN e1 (e ▸ hi))
     simp[this,e]
    ·exact .inr ⟨k,c,e,z.sameBut hs (cne y c e)⟩
  ·obtain ⟨w',z⟩:=I.cell y c e
   exact ⟨w',z.sameBut hs (cne y c e)⟩
  ·obtain ⟨e,n,ne,nf,d⟩:=I.pin p hp
   exact ⟨(hs.2 p.1 ne).trans e,n,ne,nf,d⟩
 ·have hfn:X.fn x=true:=by
   rcases hf with z | z
   ·exact z
   ·rw[z] at hk;cases hk
  obtain ⟨c,hc⟩:=I.ok.has x (.inl hk)
  obtain ⟨w',z⟩:=I.cell x c hc
  refine wpAny_storeName_cell I.ok.kind hk hc z (fun h' hc' hs=> ?_)
  obtain ⟨oc,hoc,hocd⟩:=id z
  refine h { s with heap:=h' } ⟨I.ok,I.os,I.bare,⟨fun b o e n hb hx=> ?_,fun b o e n hb hx=> ?_,I.base.free,fun b o e hx=> ?_,I.base.tups,I.base.frzs,I.base.tbls⟩,⟨m,hn.sameBut hs (Ne.symm (cne x c hc)),fun j y v' e1 e2 e3=> ?_⟩,fun y c' e=> ?_,I.free,I.freeC,fun p hp=> ?_,tracked ⟨oc,hoc,I.freeC x c hc⟩ hs,by simpa using I.len,I.qd⟩ ⟨c,hs,.inr hc⟩
  ·exact (hs.2 b (Nat.ne_of_lt (Nat.lt_of_lt_of_le (Heap.lt_size e) (I.ok.cab x c hfn hc)))).trans (I.base.keep b o e n hb hx)
  ·obtain ⟨sl,e1⟩:=I.base.slot b o e n hb hx
   exact ⟨sl,(hs.2 b (Nat.ne_of_lt (Nat.lt_of_lt_of_le (Heap.lt_size e) (I.ok.cab x c hfn hc)))).trans e1⟩
  ·obtain ⟨o',e1⟩:=I.base.there b o e hx
   exact ⟨o',(hs.2 b (Nat.ne_of_lt (Nat.lt_of_lt_of_le (Heap.lt_size e) (I.ok.cab x c hfn hc)))).trans e1⟩
  ·by_cases hj:j=i
   ·subst hj
    rw[hi] at e1;cases e1
    rw[List.getElem?_set_self hiσ] at e2
    cases e2
    exact ⟨u,r,.inr ⟨.inl hk,c,hc,hc'⟩⟩
   ·rw[List.getElem?_set_ne (Ne.symm hj)] at e2
    obtain ⟨u',r',q⟩:=hl j y v' e1 e2 e3
    refine ⟨u',r',?_⟩
    rcases q with q | ⟨k,c',e,z'⟩
    ·exact .inl q
    ·refine .inr ⟨k,c',e,z'.sameBut hs ?_⟩
     rintro rfl
     exact hj (ZcI hN e1 (I.ok.inj _ _ _ e hc ▸ hi))
  ·by_cases hcc:c'=c
   ·subst hcc;exact ⟨_,hc'⟩
   ·obtain ⟨w2,z2⟩:=I.cell y c' e
    exact ⟨w2,z2.sameBut hs hcc⟩
  ·obtain ⟨e,n,ne,nf,d⟩:=I.pin p hp
   refine ⟨(hs.2 p.1 ?_).trans e,n,ne,nf,d⟩
   intro q
   rw[q,hoc] at e
   have q':oc=p.2:=Option.some.inj e
   exact d w' (by rw[<- q'];exact hocd)
theorem ZaO {M:Model} {A:Around} {E:Value->Shared->Prop} {i:Nat} {x:Str} {v:V} {u:Value} {Q:Unit->Shared->Prop} (I:Inv X pins σ H s) (hN:X.N.Nodup) (hi:X.N[i]?=some x) (hx:Loc X.env.scope x) (r:ZG v u)
  (h: ∀ s',Inv X pins (σ.set i (some v)) H s'->Q () s') (hf:X.fn x=true\/X.env.scope.names.lookup x=some .local:=by first | exact .inl rfl | exact .inr rfl | assumption):wpAny M A (storeName X.env x u) Q E s:=
 ZdK I hN hi hx r (fun s' I' _=>h s' I') hf
theorem Inv.call' {s':Shared} {ch:List Addr} (I:Inv X pins σ H s) (ho:s'.os=s.os) (u:Un (frs X.stack) ch H H' s.heap s'.heap) (hok:HOk X.prog X.w H' s'.heap) (hg:AllBare s'.gens)
  (hch: ∀ b∈ch,(b∈X.ex\/X.s₀.heap.objs.size<=b)/\b≠X.env.locals/\(∀ x c,X.env.cells.lookup x=some c->c≠b)/\ ∀ p∈X.pn ++ pins,p.1≠b):Inv X pins σ H' s':=by
 obtain ⟨h',g',d',t',o'⟩:=s'
 have e:o'=s.os:=ho
 subst e
 exact I.call (g':=g') (t':=t') (d':=d') u hok hg hch
end
noncomputable abbrev XK:=Value->Option Addr->Hp->Prop
noncomputable abbrev St:=List (Option V)
noncomputable abbrev VK:=V->Hp->Prop
noncomputable abbrev TE:=St->Hp->VK->Prop
noncomputable abbrev TT:=St->Hp->(Bool->Hp->Prop)->Prop
noncomputable abbrev TA:=St->Hp->(List V->Hp->Prop)->Prop
structure Ends where
 nx:St->Hp->Prop
 rt:VK
 bk:St->Hp->Prop:=fun _ _=>False
 ct:St->Hp->Prop:=fun _ _=>False
noncomputable abbrev TS:=Ends->St->Hp->Prop
noncomputable def EP (X:Cx) (pins:List (Addr × Obj)) (σ:St) (Q:VK) (u:Value) (s':Shared):Prop:= ∃ v H',Inv X pins σ H' s'/\ZG v u/\Q v H'
noncomputable def TP (X:Cx) (pins:List (Addr × Obj)) (σ:St) (Q:Bool->Hp->Prop) (b:Bool) (s':Shared):Prop:= ∃ H',Inv X pins σ H' s'/\Q b H'
noncomputable def AP (X:Cx) (pins:List (Addr × Obj)) (σ:St) (Q:List V->Hp->Prop) (us:List Value) (s':Shared):Prop:= ∃ vs H',Inv X pins σ H' s'/\Zu vs us/\Q vs H'
noncomputable def SP (X:Cx) (pins:List (Addr × Obj)) (D:Ends) (f:Flow) (s':Shared):Prop:=
 match f with
 | .next=> ∃ σ' H',Inv X pins σ' H' s'/\D.nx σ' H'
 | .brk=> ∃ σ' H',Inv X pins σ' H' s'/\D.bk σ' H'
 | .cont=> ∃ σ' H',Inv X pins σ' H' s'/\D.ct σ' H'
 | .ret u=> ∃ v σ' H',Inv X pins σ' H' s'/\ZG v u/\D.rt v H'
noncomputable def PE (X:Cx) (e:Expr) (t:TE):Prop:=
 ∀ (pins:List (Addr × Obj)) (s:Shared) (σ:St) (H:Hp) (Q:VK),Inv X pins σ H s->t σ H Q->wpAny (model X.prog X.w) X.A (eval e X.env) (EP X pins σ Q) X.xe s
noncomputable def PT (X:Cx) (e:Expr) (t:TT):Prop:=
 ∀ (pins:List (Addr × Obj)) (s:Shared) (σ:St) (H:Hp) (Q:Bool->Hp->Prop),Inv X pins σ H s->t σ H Q->wpAny (model X.prog X.w) X.A (isTrue e X.env (eval e X.env)) (TP X pins σ Q) X.xe s
noncomputable def PW (X:Cx) (e:Expr) (t:TT):Prop:=
 ∀ (whole:Sem Value) (pins:List (Addr × Obj)) (s:Shared) (σ:St) (H:Hp) (Q:Bool->Hp->Prop),Inv X pins σ H s->t σ H Q->wpAny (model X.prog X.w) X.A (isTrue e X.env whole) (TP X pins σ Q) X.xe s
theorem PW.pt {X:Cx} {e:Expr} {t:TT} (h:PW X e t):PT X e t:=h _
noncomputable def PA (X:Cx) (es:List Expr) (t:TA):Prop:=
 ∀ (pos:Pos) (pins:List (Addr × Obj)) (s:Shared) (σ:St) (H:Hp) (Q:List V->Hp->Prop),Inv X pins σ H s->t σ H Q->wpAny (model X.prog X.w) X.A (spliced (backTo pos (starEach es X.env))) (AP X pins σ Q) X.xe s
noncomputable def PS (X:Cx) (st:Stmt) (t:TS):Prop:=
 ∀ (pins:List (Addr × Obj)) (s:Shared) (σ:St) (H:Hp) (D:Ends),Inv X pins σ H s->t D σ H->wpAny (model X.prog X.w) X.A (exec st X.env) (SP X pins D) X.xe s
noncomputable def PSs (X:Cx) (st:List Stmt) (t:TS):Prop:=
 ∀ (pins:List (Addr × Obj)) (s:Shared) (σ:St) (H:Hp) (D:Ends),Inv X pins σ H s->t D σ H->wpAny (model X.prog X.w) X.A (execs st X.env) (SP X pins D) X.xe s
theorem thn {α:Type} {t:Sem α} {Q Q':α->Shared->Prop} {M:Model} {A:Around} {E:Value->Shared->Prop} {s:Shared} (h:wpAny M A t Q E s) (hQ: ∀ a s,Q a s->Q' a s):wpAny M A t Q' E s:=wpAny_mono h hQ fun _ _ x=>x
end L2
namespace L2
open PySem PySem.Spec PyProof.Rows
section
variable {X:Cx}
theorem bin {a b:Expr} {ta tb:TE} (ha:PE X a ta) (hb:PE X b tb) {pins:List (Addr × Obj)} {s:Shared} {σ:St} {H:Hp} {R:V->V->Hp->Prop} (I:Inv X pins σ H s) (h:ta σ H fun x H1=>tb σ H1 fun y H2=>R x y H2)
  {α:Type} {Q:α->Shared->Prop} {f:Value->Value->Sem α}
  (hf: ∀ v u s2 x y H2,Inv X pins σ H2 s2->ZG x v->ZG y u->R x y H2->wpAny (model X.prog X.w) X.A (f v u) Q X.xe s2):
  wpAny (model X.prog X.w) X.A (eval a X.env) (fun v s₁=>wpAny (model X.prog X.w) X.A (eval b X.env) (fun u s₂=>wpAny (model X.prog X.w) X.A (f v u) Q X.xe s₂) X.xe s₁) X.xe s:=by
 refine thn (ha pins s σ H _ I h) fun v s1 ⟨x,H1,I1,r1,q1⟩=> ?_
 refine thn (hb pins s1 σ H1 _ I1 q1) fun u s2 ⟨y,H2,I2,r2,q2⟩=> ?_
 exact hf v u s2 x y H2 I2 r1 r2 q2
noncomputable def Znt (i:Nat):TE:=fun σ H Q=> ∃ v,σ[i]?=some (some v)/\Q v H
noncomputable def tC (v:V):TE:=fun _ H Q=>Q v H
theorem ZhP {i:Nat} {x:Str} {pos:Pos} (hN:X.N[i]?=some x) (hv:Vis X.env.scope x) (hd:(x == ("__debug__":Str))=false:=by decide) (hcd:(x == ("__classdict__":Str))=false:=by decide):PE X (.Name x pos) (Znt i):=by
 intro pins s σ H Q I h
 obtain ⟨v,e,h⟩:=h
 obtain ⟨m,hn,hl⟩:=I.loc
 obtain ⟨u,r,l⟩:=hl i x v hN e hv
 have fin:EP X pins σ Q u s:=⟨v,H,I,r,h⟩
 rcases l with ⟨hk,hm⟩ | ⟨hk,c,hc,hcell⟩
 ·exact wpAny_Name (wpAny_loadName_local I.ok.kind hk hn hm fin) hd
 ·rcases hk with hk | hk
  ·exact wpAny_Name (wpAny_loadName_cell I.ok.kind hk hc hcell fin) hd
  ·exact wpAny_Name (wpAny_loadName_free I.ok.kind hk hc hcell fin hcd) hd
theorem ZhQ {i j pos}:PE X (.Constant (.int i) j pos) (tC (.int i)):=fun _ _ _ H _ I h=>wpAny_Constant_int ⟨.int i,H,I.tok _,⟨_,rfl⟩,h⟩
theorem Zkx {b j pos}:PE X (.Constant (.bool b) j pos) (tC (.bl b)):=fun _ _ _ H _ I h=>Constant_bool ⟨.bl b,H,I,rfl,h⟩
theorem ZhR {x j pos}:PE X (.Constant (.str x) j pos) (tC (.str x)):=fun _ _ _ H _ I h=>Calls.Constant_str ⟨.str x,H,I.tok _,⟨_,rfl⟩,h⟩
noncomputable def Gl (X:Cx) (x:Str):Prop:=X.env.kindOf x=some .globalImplicit
theorem Zbo {E:Value->Shared->Prop} {pins:List (Addr × Obj)} {s:Shared} {σ:St} {H:Hp} {x:Str} {u:Value} {pos:Pos} {Q:Value->Shared->Prop} (I:Inv X pins σ H s) (hg:Gl X x) (hm:X.mg x=some u) (h:Q u s)
  (hd:(x == ("__debug__":Str))=false:=by decide):wpAny (model X.prog X.w) X.A (eval (.Name x pos) X.env) Q E s:=
 Calls.Name_function_global I.ok.kind hg (Calls.loadGlobal_global (by rw[I.ok.glob];exact I.mod.glob.keeps I.bk) hm h) hd
theorem Zbf {E:Value->Shared->Prop} {pins:List (Addr × Obj)} {s:Shared} {σ:St} {H:Hp} {x:Str} {u:Value} {pos:Pos} {Q:Value->Shared->Prop} (I:Inv X pins σ H s) (hg:Gl X x) (hm:X.mg x=none) (hv:bootBuiltins x=some u) (h:Q u s)
  (hn:x≠"__name__":=by decide) (hd:(x == ("__debug__":Str))=false:=by decide):wpAny (model X.prog X.w) X.A (eval (.Name x pos) X.env) Q E s:=by
 obtain ⟨mb,h1,h2⟩:=I.mod.blt
 exact Calls.Name_function_global I.ok.kind hg (Calls.loadGlobal_builtin (by rw[I.ok.glob];exact I.mod.glob.keeps I.bk) hm (by rw[I.ok.blt];exact h1.keeps I.bk) ((h2 x hn).trans hv) h) hd
theorem Zgi {x:Str} {v:V} {u:Value} {pos:Pos} (hg:Gl X x) (hm:X.mg x=some u) (r:ZG v u) (hd:(x == ("__debug__":Str))=false:=by decide):PE X (.Name x pos) (tC v):=
 fun _ _ _ H _ I h=>Zbo I hg hm ⟨v,H,I,r,h⟩ hd
theorem Zgj {x:Str} {v:V} {u:Value} {pos:Pos} (hg:Gl X x) (hm:X.mg x=none) (hv:bootBuiltins x=some u) (r:ZG v u) (hn:x≠"__name__":=by decide) (hd:(x == ("__debug__":Str))=false:=by decide):PE X (.Name x pos) (tC v):=
 fun _ _ _ H _ I h=>Zbf I hg hm hv ⟨v,H,I,r,h⟩ hn hd
variable {a b:Expr} {ta tb:TE} {pos:Pos}
noncomputable def PC (X:Cx) (op:CmpOp) (a b:Expr) (t:TE):Prop:=
 ∀ (pins:List (Addr × Obj)) (s:Shared) (σ:St) (H:Hp) (Q:VK),Inv X pins σ H s->t σ H Q->
  wpAny (model X.prog X.w) X.A (eval a X.env) (fun v s₁=>wpAny (model X.prog X.w) X.A (eval b X.env) (fun u s₂=>wpAny (model X.prog X.w) X.A (compareOp op v u) (EP X pins σ Q) X.xe s₂) X.xe s₁) X.xe s
theorem ZeQ (b:Expr) {op:CmpOp} (h:op≠ .In) (h2:op≠ .NotIn):behindInMarks op b=false:=by
 have e1:(op == CmpOp.In)=false:=by cases op<;>first | rfl | exact absurd rfl h
 have e2:(op == CmpOp.NotIn)=false:=by cases op<;>first | rfl | exact absurd rfl h2
 cases b<;>simp[behindInMarks,e1,e2]
noncomputable def tB (t:TE):TT:=fun σ H Q=>t σ H fun x H1=> ∃ c,x= .bl c/\Q c H1
theorem Zmo {op:CmpOp} {t:TE} (h:PC X op a b t) (h1:behindInMarks op b=false:=by first | exact ZeQ _ (by decide) (by decide) | rfl):PT X (.Compare a [op] [b] pos) (tB t):=by
 intro pins s σ H Q I hw
 refine wpAny_isTrue_Compare1 (thn (h pins s σ H _ I hw) fun v s1 h1=>thn h1 fun u s2 h2=>thn h2 fun c s3 ⟨x,H1,I1,r1,q1⟩=> ?_) h1
 obtain ⟨d,rfl,q⟩:=q1
 cases r1
 exact wpAny_truthy_bool ⟨H1,I1,q⟩
theorem ZhS {e:Expr} {t:TE} (h:PE X e t) (he: ∀ whole,isTrue e X.env whole=(do let v <- whole;standAt e.pos;holding [v] (truthy v)):=by intro _;rfl):PT X e (tB t):=by
 intro pins s σ H Q I hw
 refine isTrue_plain (thn (h pins s σ H _ I hw) fun v s1 ⟨x,H1,I1,r1,q1⟩=> ?_) (he _)
 obtain ⟨d,rfl,q⟩:=q1
 cases r1
 exact wpAny_truthy_bool ⟨H1,I1,q⟩
variable {tA tB':TT} {rest:List Expr}
noncomputable def Znu (t u:TT):TT:=fun σ H Q=>t σ H fun c H1=>if c=true then u σ H1 Q else Q false H1
noncomputable def tOr (t u:TT):TT:=fun σ H Q=>t σ H fun c H1=>if c=true then Q true H1 else u σ H1 Q
noncomputable def Znv (t:TT):TT:=fun σ H Q=>t σ H fun c H1=>Q (!c) H1
theorem pw_and1 (ha:PT X a tA):PW X (.BoolOp .And [a] pos) tA:=by
 intro wh pins s σ H Q I h
 refine isTrue_and (thn (ha pins s σ H Q I h) fun c s1 e=> ?_)
 cases c with
 |true=>exact isTrue_and_nil e
 |false=>exact e
theorem pw_or1 (ha:PT X a tA):PW X (.BoolOp .Or [a] pos) tA:=by
 intro wh pins s σ H Q I h
 refine isTrue_or (thn (ha pins s σ H Q I h) fun c s1 e=> ?_)
 cases c with
 |false=>exact isTrue_or_nil e
 |true=>exact e
theorem pw_and (ha:PT X a tA) (hb:PW X (.BoolOp .And (b :: rest) pos) tB'):PW X (.BoolOp .And (a :: b :: rest) pos) (Znu tA tB'):=by
 intro wh pins s σ H Q I h
 refine isTrue_and (thn (ha pins s σ H _ I h) fun c s1 ⟨H1,I1,q1⟩=> ?_)
 cases c with
 |true=>exact hb wh pins s1 σ H1 Q I1 q1
 |false=>exact ⟨H1,I1,q1⟩
theorem pw_or (ha:PT X a tA) (hb:PW X (.BoolOp .Or (b :: rest) pos) tB'):PW X (.BoolOp .Or (a :: b :: rest) pos) (tOr tA tB'):=by
 intro wh pins s σ H Q I h
 refine isTrue_or (thn (ha pins s σ H _ I h) fun c s1 ⟨H1,I1,q1⟩=> ?_)
 cases c with
 |true=>exact ⟨H1,I1,q1⟩
 |false=>exact hb wh pins s1 σ H1 Q I1 q1
theorem ZhT (ha:PT X a tA):PT X (.UnaryOp .Not a pos) (Znv tA):=by
 intro pins s σ H Q I h
 exact isTrue_not (ha pins s σ H (fun c H1=>Q (!c) H1) I h)
noncomputable def Zky (ta tb:TE):TE:=fun σ H Q=>ta σ H fun x H1=> ∃ c,x= .bl c/\if c=true then tb σ H1 Q else Q (.bl false) H1
theorem ZhU {op} {t:TE} (h:PE X a t):PE X (.BoolOp op [a] pos) t:=fun pins s σ H Q I hw=>BoolOp_one (h pins s σ H Q I hw)
theorem ZhV (ha:PE X a ta) (hb:PE X (.BoolOp .And (b :: rest) pos) tb):PE X (.BoolOp .And (a :: b :: rest) pos) (Zky ta tb):=by
 intro pins s σ H Q I h
 refine BoolOp_and (thn (ha pins s σ H _ I h) fun v s1 ⟨x,H1,I1,r1,q1⟩=> ?_)
 obtain ⟨c,rfl,q1⟩:=q1
 cases r1
 refine wpAny_truthy_bool ?_
 cases c with
 |true=>exact hb pins s1 σ H1 Q I1 q1
 |false=>exact ⟨.bl false,H1,I1,rfl,q1⟩
end
end L2
namespace L2
open PySem PySem.Spec PyProof.Rows
noncomputable def SqL (K:PySem.W.Frag) (H:Hp) (a:Addr) (xs:List V):Prop:=
 Rd H a (.lst xs)\/
  ∃ (o:Obj) (its:Array Value) (n:Nat),K.lookup a=some o/\o.cls= .type "list"/\o.dict=none/\o.data= .seq its n/\its.size<=sizeLine/\Zu xs its.toList
noncomputable def SqT (K:PySem.W.Frag) (H:Hp) (a:Addr) (xs:List V):Prop:=
 Rd H a (.tup xs)\/
  ∃ (o:Obj) (its:Array Value) (n:Nat),K.lookup a=some o/\o.cls= .type "tuple"/\o.data= .seq its n/\its.size<=sizeLine/\Zu xs its.toList
noncomputable def Znw:Value->Option V
 | .none=>some .non
 | .bool b=>some (.bl b)
 | .int i _=>some (.int i)
 | .str x _=>some (.str x)
 | .bytes b _=>some (.byt b)
 | .float b _=>some (.flt b)
 | .ref a=>some (.ref a)
 | .type n=>some (.ty n)
 |_=>none
theorem ZG.abs {x:V} {u:Value} (r:ZG x u):Znw u=some x:=by
 cases x with
 |non=>cases r;rfl
 |bl _=>cases r;rfl
 |int _=>obtain ⟨t,rfl⟩:=r;rfl
 |str _=>obtain ⟨t,rfl⟩:=r;rfl
 |byt _=>obtain ⟨t,rfl⟩:=r;rfl
 |flt _=>obtain ⟨t,rfl⟩:=r;rfl
 |ref _=>cases r;rfl
 |ty _=>cases r;rfl
theorem ZG.inj {x y:V} {u:Value} (r:ZG x u) (q:ZG y u):x=y:=Option.some.inj (r.abs.symm.trans q.abs)
theorem Zu.inj: ∀ {xs ys:List V} {us:List Value},Zu xs us->Zu ys us->xs=ys
 |_,_,_,.nil,.nil=>rfl
 |_,_,_,.cons r t,.cons r' t'=>by rw[r.inj r',Zu.inj t t']
section
variable {X:Cx} {pins:List (Addr × Obj)} {σ:St} {H:Hp} {s:Shared} {a:Addr} {xs ys:List V}
theorem SqL.of {K:PySem.W.Frag} (h:H a=some (.lst xs)):SqL K H a xs:= .inl (.inl h)
theorem SqT.of {K:PySem.W.Frag} (h:H a=some (.tup xs)):SqT K H a xs:= .inl (.inl h)
theorem Inv.list (I:Inv X pins σ H s) (h:SqL X.K H a xs): ∃ its:List Value,Zu xs its/\PlainL s.heap a its.toArray/\xs.length<=sizeLine:=by
 rcases h with h | ⟨o,its,n,hk,hc,hd,hs,hz,r⟩
 ·obtain ⟨z,its,n,r,e⟩:=h.ok I.hok
  exact ⟨its,r,⟨_,n,e,rfl,rfl,rfl⟩,z⟩
 ·refine ⟨its.toList,r,⟨o,n,I.kIn a o hk,hc,hd,by simpa using hs⟩,?_⟩
  have e:=r.length
  simp only[Array.length_toList] at e
  omega
theorem Inv.tuple (I:Inv X pins σ H s) (h:SqT X.K H a xs): ∃ its:List Value,Zu xs its/\IsTup s.heap a its.toArray/\xs.length<=sizeLine:=by
 rcases h with h | ⟨o,its,n,hk,hc,hs,hz,r⟩
 ·obtain ⟨z,its,r,p⟩:=h.ok I.hok
  exact ⟨its,r,p,z⟩
 ·refine ⟨its.toList,r,⟨o,I.kIn a o hk,hc,n,by simpa using hs⟩,?_⟩
  have e:=r.length
  simp only[Array.length_toList] at e
  omega
theorem Inv.list_inj (I:Inv X pins σ H s) (h:SqL X.K H a xs) (h':SqL X.K H a ys):xs=ys:=by
 obtain ⟨its,r,⟨o,n,e,_,_,d⟩,_⟩:=I.list h
 obtain ⟨its',r',⟨o',n',e',_,_,d'⟩,_⟩:=I.list h'
 rw[e] at e';cases e'
 rw[d] at d'
 injection d' with d1 _
 have:its=its':=by simpa using congrArg Array.toList d1
 subst this
 exact r.inj r'
theorem Inv.tuple_inj (I:Inv X pins σ H s) (h:SqT X.K H a xs) (h':SqT X.K H a ys):xs=ys:=by
 obtain ⟨its,r,⟨o,e,_,n,d⟩,_⟩:=I.tuple h
 obtain ⟨its',r',⟨o',e',_,n',d'⟩,_⟩:=I.tuple h'
 rw[e] at e';cases e'
 rw[d] at d'
 injection d' with d1 _
 have:its=its':=by simpa using congrArg Array.toList d1
 subst this
 exact r.inj r'
end
section
variable {X:Cx} {pins:List (Addr × Obj)} {σ:St} {H:Hp} {s:Shared} {E:Value->Shared->Prop}
end
section
variable {X:Cx} {st:Stmt} {rest:List Stmt} {t u:TS} {e:Expr} {te:TE} {pos:Pos}
noncomputable def tNext:TS:=fun D σ H=>D.nx σ H
noncomputable def Znx (t u:TS):TS:=fun D σ H=>t { D with nx:=u D } σ H
theorem Zgk:PSs X [] tNext:=fun _ _ σ H _ I h=>wpAny_execs_nil ⟨σ,H,I,h⟩
theorem ZeR (h1:PS X st t) (h2:PSs X rest u):PSs X (st :: rest) (Znx t u):=by
 intro pins s σ H D I h
 refine wpAny_execs_cons (thn (h1 pins s σ H { D with nx:=u D } I h) fun f s1 q=> ?_)
 cases f with
 |next=>
  obtain ⟨σ',H',I',q⟩:=q
  exact h2 pins s1 σ' H' D I' q
 |ret v=>exact q
 |brk=>exact q
 |cont=>exact q
theorem Zgl (h1:PS X st t):PSs X [st] t:=by
 intro pins s σ H D I h
 refine wpAny_execs_cons (thn (h1 pins s σ H D I h) fun f s1 q=> ?_)
 cases f with
 |next=>exact wpAny_execs_nil q
 |ret v=>exact q
 |brk=>exact q
 |cont=>exact q
theorem Inv.quiet {pins:List (Addr × Obj)} {σ:St} {H:Hp} {s:Shared} (I:Inv X pins σ H s):interactive X.env=false:=by simp[interactive,I.ok.kind]
noncomputable def Zkz (te:TE):TS:=fun D σ H=>te σ H fun _ H1=>D.nx σ H1
theorem Zgm (he:PE X e te) (hs:swapsWith e none pos.line X.env=pure false:=by rfl):PS X (.Expr e pos) (Zkz te):=by
 intro pins s σ H D I h
 exact wpAny_Expr_any (thn (he pins s σ H _ I h) fun v s1 ⟨x,H1,I1,r1,q1⟩=>⟨σ,H1,I1,q1⟩) I.quiet hs
noncomputable def Zny (te:TE):TS:=fun D σ H=>te σ H D.rt
theorem ZhW (he:PE X e te):PS X (.Return (some e) pos) (Zny te):=by
 intro pins s σ H D I h
 exact wpAny_Return_some (thn (he pins s σ H _ I h) fun v s1 ⟨x,H1,I1,r1,q1⟩=>⟨x,σ,H1,I1,r1,q1⟩)
noncomputable def Znz (c:TT) (t u:TS):TS:=fun D σ H=>c σ H fun b H1=>if b=true then t D σ H1 else u D σ H1
theorem ZkA {c:Expr} {a b:List Stmt} {tc:TT} (hc:PT X c tc) (ha:PSs X a t) (hb:PSs X b u):PS X (.If c a b pos) (Znz tc t u):=by
 intro pins s σ H D I h
 refine wpAny_If (thn (hc pins s σ H _ I h) fun d s1 ⟨H1,I1,q1⟩=> ?_)
 cases d with
 |true=>exact ha pins s1 σ H1 D I1 q1
 |false=>exact hb pins s1 σ H1 D I1 q1
end
noncomputable abbrev TG:=V->St->Hp->(St->Hp->Prop)->Prop
noncomputable def PG (X:Cx) (target:Expr) (t:TG):Prop:=
 ∀ (pins:List (Addr × Obj)) (s:Shared) (σ:St) (H:Hp) (v:V) (u:Value) (Q:St->Hp->Prop),Inv X pins σ H s->ZG v u->t v σ H Q->
  wpAny (model X.prog X.w) X.A (assign target X.env u) (fun _ s'=> ∃ σ' H',Inv X pins σ' H' s'/\Q σ' H') X.xe s
section
variable {X:Cx} {pos:Pos}
noncomputable def ZhX (i:Nat):TG:=fun v σ H Q=>Q (σ.set i (some v)) H
theorem Zgn {i:Nat} {x:Str} (hN:X.N.Nodup) (hi:X.N[i]?=some x) (hx:Loc X.env.scope x) (hf:X.fn x=true\/X.env.scope.names.lookup x=some .local:=by first | exact .inl rfl | exact .inr rfl | assumption):PG X (.Name x pos) (ZhX i):=by
 intro pins s σ H v u Q I r h
 exact wpAny_assign_Name (ZaO I hN hi hx r (fun s' I'=>⟨_,H,I',h⟩) hf)
noncomputable def ZnA (te:TE) (g:TG):TS:=fun D σ H=>te σ H fun x H1=>g x σ H1 D.nx
theorem ZhY {i:Nat} {x:Str} {e:Expr} {te:TE} {pos':Pos} (hN:X.N.Nodup) (hi:X.N[i]?=some x) (hx:Loc X.env.scope x) (he:PE X e te) (hs:swapsWith e (some (.Name x pos')) pos.line X.env=pure false:=by rfl) (hf:X.fn x=true\/X.env.scope.names.lookup x=some .local:=by first | exact .inl rfl | exact .inr rfl | assumption):
  PS X (.Assign [.Name x pos'] e pos) (ZnA te (ZhX i)):=by
 intro pins s σ H D I h
 refine wpAny_Assign_Name (thn (he pins s σ H _ I h) fun v s1 ⟨y,H1,I1,r1,q1⟩=> ?_) hs
 exact ZaO I1 hN hi hx r1 (fun s2 I2=>⟨_,H1,I2,q1⟩) hf
noncomputable def ZnB (i j:Nat) (ta:TA):TS:=fun D σ H=>ta σ H fun vs H1=> ∃ v w,vs=[v,w]/\D.nx ((σ.set i (some v)).set j (some w)) H1
theorem ZhZ {i j:Nat} {x y:Str} {a b:Expr} {ta:TA} {px py pt:Pos} {kt k2 pt2} (hc:X.calm=true) (hN:X.N.Nodup) (hi:X.N[i]?=some x) (hj:X.N[j]?=some y) (hij:i≠j)
  (hx:X.env.scope.names.lookup x=some .local) (hy:X.env.scope.names.lookup y=some .local) (ha:PA X [a,b] ta)
  (hw:swappedStores [.Tuple [.Name x px,.Name y py] kt pt] (.Tuple [a,b] k2 pt2) X.env=pure (some [x,y]))
  (hs:swapsWithSole [.Tuple [.Name x px,.Name y py] kt pt] (.Tuple [a,b] k2 pt2) pos.line X.env=pure false:=by rfl):
  PS X (.Assign [.Tuple [.Name x px,.Name y py] kt pt] (.Tuple [a,b] k2 pt2) pos) (ZnB i j ta):=by
 intro pins s σ H D I h
 rw[exec_Assign_arm]
 refine wpAny_bind (wpAny_standAt ?_)
 rw[hs]
 refine wpAny_bind (wpAny_pure ?_)
 rw[if_neg (by decide)]
 refine wpAny_bind (Tuple_ (thn (ha _ pins s σ H _ I h) fun us s1 ⟨vs,H1,I1,r1,q1⟩=> ?_))
 obtain ⟨v,w,e1,q1⟩:=q1
 subst e1
 obtain ⟨u1,u2,rfl,rv,rw'⟩: ∃ u1 u2,us=[u1,u2]/\ZG v u1/\ZG w u2:=by
  cases r1 with
  |cons p q=>
   cases q with
   |cons p' q'=>
    cases q'
    exact ⟨_,_,rfl,p,p'⟩
 refine wpAny_newObj_type ?_ (by show 2<=sizeLine;decide)
 have I2:Inv X pins σ H1 { s1 with heap:=s1.heap.push { cls:= .type "tuple",data:= .seq [u1,u2].toArray } }:=I1.kept (t':=s1.toks) fun b o e=>Heap.get?_push_of_some _ e
 rw[hw]
 refine wpAny_bind (wpAny_pure ?_)
 show wpAny (model X.prog X.w) X.A (do rule "assign.swapped-stores";let items <- unpackItems (.ref s1.heap.objs.size) 2 none;assignInOrder [fun v=>bindName X.env y v,fun v=>bindName X.env x v] items.reverse;pure Flow.next) _ _ _
 refine wpAny_bind (wpAny_rule (wpAny_bind (unpackItems_tuple (items:= #[u1,u2]) (I.ok.hd hc) (IsTup.new s1.heap _) fun h' hx'=> ?_)))
 have I3:=I2.kept (h':=h') (t':=s1.toks) fun b o e=>hx' b o (Nat.ne_of_lt (Heap.lt_size e)) e
 show wpAny _ _ (assignInOrder [fun v=>bindName X.env y v,fun v=>bindName X.env x v] [u2,u1] >>= fun _=>pure Flow.next) _ _ _
 refine wpAny_bind (assignInOrder_cons (wpAny_bindName (ZaO I3 hN hj (.inl hy) rw' (fun s2 I4=> ?_) (.inr hy))))
 refine assignInOrder_cons (wpAny_bindName (ZaO I4 hN hi (.inl hx) rv (fun s3 I5=>assignInOrder_nil (wpAny_pure ?_)) (.inr hx)))
 rw[List.set_comm _ _ (Ne.symm hij)] at I5
 exact ⟨_,H1,I5,q1⟩
end
section
variable {X:Cx} {pos:Pos}
end
structure It where
 go:Nat->Hp->Prop
 yld:Nat->Hp->V->Hp->Prop
 stop:Nat->Hp->Prop
noncomputable def ZdL (X:Cx) (pins:List (Addr × Obj)) (H:Hp) (b:Addr):Prop:=
 H b=none/\b≠X.env.locals/\b ∉ X.fs/\(b∈X.ex\/X.s₀.heap.objs.size<=b)/\(∀ x c,X.env.cells.lookup x=some c->c≠b)/\ ∀ p∈X.pn ++ pins,p.1≠b
theorem Inv.fpOk {X:Cx} {pins:List (Addr × Obj)} {σ:St} {H H':Hp} {s:Shared} {b:Addr} (I:Inv X pins σ H s) (hb:s.heap.objs.size<=b) (hn:H' b=none):ZdL X pins H' b:=by
 refine ⟨hn,Nat.ne_of_gt (Nat.lt_of_lt_of_le I.lt hb),I.nofs hb,.inr (Nat.le_trans I.sz hb),fun x c e z=> ?_,fun p hp z=> ?_⟩
 ·obtain ⟨v,q⟩:=I.cell x c e
  exact absurd (Nat.lt_of_lt_of_le q.lt (by rw[z];exact hb)) (Nat.lt_irrefl _)
 ·exact absurd (Nat.lt_of_lt_of_le (Heap.lt_size (I.pin p hp).1) (by rw[z];exact hb)) (Nat.lt_irrefl _)
structure Turn (P:Program) (w:World) (K:PySem.W.Frag) (B:Around) (tg:Expr) (J:It) (fp:List Addr) (it:Addr) (tn:Nat->Heap->Prop):Prop where
 mem:it∈fp
 obj: ∀ i h,tn i h-> ∀ b∈fp,∃ o,h.get? b=some o/\ ∀ v,o.data≠ .cell v
 keep: ∀ i h h',tn i h->(∀ b∈fp,∀ o,h.get? b=some o->h'.get? b=some o)->tn i h'
 item: ∀ (X:Cx),X.prog=P->X.w=w->X.K=K->X.A=B-> ∀ (i:Nat) (pins:List (Addr × Obj)) (s:Shared) (σ:St) (H:Hp) (E:Value->Shared->Prop),Inv X pins σ H s->(∀ b∈fp,ZdL X pins H b)->tn i s.heap->J.go i H->
  wpAny (model P w) X.A (pyNext (.ref it)) (fun r s1=> ∃ u,r=some u/\
   wpAny (model P w) X.A (letOwnedTupleGo tg (.ref it) u) (fun _ s2=> ∃ x H',Inv X pins σ H' s2/\ZG x u/\J.yld i H x H'/\tn (i + 1) s2.heap/\ ∀ b∈fp,H' b=none) E s1) E s
 done: ∀ (X:Cx),X.prog=P->X.w=w->X.K=K->X.A=B-> ∀ (i:Nat) (pins:List (Addr × Obj)) (s:Shared) (σ:St) (H:Hp) (E:Value->Shared->Prop),Inv X pins σ H s->(∀ b∈fp,ZdL X pins H b)->tn i s.heap->J.stop i H->
  wpAny (model P w) X.A (pyNext (.ref it)) (fun r s1=>r=none/\Inv X pins σ H s1) E s
 self: ∀ (A:Around) (i:Nat) (s:Shared) (Q:Value->Shared->Prop) (E:Value->Shared->Prop),tn i s.heap->Q (.ref it) s->wpAny (model P w) A (pyIter (.ref it)) Q E s
noncomputable abbrev TI:=St->Hp->(It->Hp->Prop)->Prop
noncomputable def PIE (X:Cx) (pins:List (Addr × Obj)) (σ:St) (tg:Expr) (R:It->Hp->Prop) (itv:Value) (s2:Shared):Prop:=
 ∃ (it:Addr) (fp:List Addr) (tn:Nat->Heap->Prop) (J:It) (H':Hp),itv= .ref it/\Inv X pins σ H' s2/\Turn X.prog X.w X.K X.A tg J fp it tn/\tn 0 s2.heap/\(∀ b∈fp,ZdL X pins H' b)/\R J H'
noncomputable def PI (X:Cx) (tg iter:Expr) (wi:TI):Prop:=
 ∀ (pins:List (Addr × Obj)) (s:Shared) (σ:St) (H:Hp) (R:It->Hp->Prop),Inv X pins σ H s->wi σ H R->
  wpAny (model X.prog X.w) X.A (eval iter X.env) (fun v s1=>wpAny (model X.prog X.w) X.A (pyIter v) (PIE X pins σ tg R) X.xe s1) X.xe s
theorem Zgo {M:Model} {A:Around} {E:Value->Shared->Prop} {s:Shared} {tg:Expr} {it:Addr} {u:Value} {o:Obj} {n:String} {vs:Array Value} {Q:Unit->Shared->Prop} (ho:s.heap.get? it=some o) (hc:o.cls= .type n) (hd:o.data= .fields vs)
  (hn:["enumerate","zip","dict_itemiterator","dict_reverseitemiterator","odict_iterator","itertools.zip_longest","itertools.pairwise"].contains n=false) (hQ:Q () s):wpAny M A (letOwnedTupleGo tg (.ref it) u) Q E s:=by
 unfold letOwnedTupleGo
 cases tg<;>first
  |exact wpAny_pure hQ
  | (cases u<;>first
    |exact wpAny_pure hQ
    | (refine wpAny_bind (wpAny_load ho ?_)
       rw[hc,hd]
       show wpAny M A (if (["enumerate","zip","dict_itemiterator","dict_reverseitemiterator","odict_iterator","itertools.zip_longest","itertools.pairwise"].contains n && vs[0]? == some (rawInt _))=true then _ else _) Q E s
       rw[if_neg (by intro h;rw[hn,Bool.false_and] at h;cases h)]
       exact wpAny_pure hQ))
noncomputable def Itl (K:PySem.W.Frag) (a:Addr):It:=
 ⟨fun i H=> ∃ xs x,SqL K H a xs/\xs[i]?=some x,fun i H x H'=>H'=H/\ ∀ xs,SqL K H a xs->xs[i]?=some x,fun i H=> ∃ xs,SqL K H a xs/\xs.length<=i⟩
noncomputable def Itt (K:PySem.W.Frag) (a:Addr):It:=
 ⟨fun i H=> ∃ xs x,SqT K H a xs/\xs[i]?=some x,fun i H x H'=>H'=H/\ ∀ xs,SqT K H a xs->xs[i]?=some x,fun i H=> ∃ xs,SqT K H a xs/\xs.length<=i⟩
noncomputable def Itr (lo:Int) (n:Nat):It:=⟨fun i _=>i < n,fun i H x H'=>H'=H/\x= .int (lo + i),fun i _=>n<=i⟩
theorem ZdM {P:Program} {w:World} {K:PySem.W.Frag} {B:Around} {tg:Expr} (a it:Addr):Turn P w K B tg (Itl K a) [it] it (fun i h=>h.IsListIter it a i) where
 mem:=by simp
 obj:=fun i h st b hb=>by
  have e:b=it:=by simpa using hb
  subst e
  obtain ⟨o,e,c,d⟩:=st
  exact ⟨o,e,fun v z=>by rw[d] at z;cases z⟩
 keep:=fun i h h' st k=>st.at fun o e=>k it (by simp) o e
 item:=by
  intro X hP hw hK hB i pins s σ H E I hf st hg
  subst hP hw hK
  obtain ⟨xs,x,hq,hx⟩:=hg
  obtain ⟨its,rv,p,hz⟩:=I.list hq
  obtain ⟨u,hu,ru⟩:=rv.get hx
  obtain ⟨f0,f1,f2,f3,f4,f5⟩:=hf it (by simp)
  refine wpAny_pyNext_list_item st p.isList (x:=u) (by simpa using hu) fun h' st' sb=> ?_
  have I1:Inv X pins σ H { s with heap:=h' }:=I.turned (t':=s.toks) (fun b o hb e=>(sb.2 b hb).trans e) f0 f1 f3 f4 f5
  obtain ⟨o,e,c,d⟩:=id st'
  exact ⟨u,rfl,Zgo (s:={ s with heap:=h' }) e c d (by decide) ⟨x,H,I1,ru,⟨rfl,fun ys hy=>by rw[I.list_inj hy hq];exact hx⟩,st',fun b hb=>(hf b hb).1⟩⟩
 done:=by
  intro X hP hw hK hB i pins s σ H E I hf st hg
  subst hP hw hK
  obtain ⟨xs,hq,hx⟩:=hg
  obtain ⟨its,rv,p,hz⟩:=I.list hq
  obtain ⟨f0,f1,f2,f3,f4,f5⟩:=hf it (by simp)
  have hl:=rv.length
  exact DQ.ZeP I.qh st p.isList (by simp;omega) fun h' eb=>⟨rfl,I.turned (t':=s.toks) (fun b o hb e=>eb b o hb e) f0 f1 f3 f4 f5⟩
 self:=fun _ _ _ _ _ st h=>wpAny_pyIter_listiter st h
theorem Zc8 {P:Program} {w:World} {K:PySem.W.Frag} {B:Around} {tg:Expr} (a it:Addr):Turn P w K B tg (Itt K a) [it] it (fun i h=>h.IsTupleIter it a i) where
 mem:=by simp
 obj:=fun i h st b hb=>by
  have e:b=it:=by simpa using hb
  subst e
  obtain ⟨o,e,c,d⟩:=st
  exact ⟨o,e,fun v z=>by rw[d] at z;cases z⟩
 keep:=fun i h h' st k=>st.at fun o e=>k it (by simp) o e
 item:=by
  intro X hP hw hK hB i pins s σ H E I hf st hg
  subst hP hw hK
  obtain ⟨xs,x,hq,hx⟩:=hg
  obtain ⟨its,rv,p,hz⟩:=I.tuple hq
  obtain ⟨u,hu,ru⟩:=rv.get hx
  obtain ⟨f0,f1,f2,f3,f4,f5⟩:=hf it (by simp)
  refine wpAny_pyNext_tuple_item st (show s.heap.IsTuple a its.toArray from p) (x:=u) (by simpa using hu) fun h' st' sb=> ?_
  have I1:Inv X pins σ H { s with heap:=h' }:=I.turned (t':=s.toks) (fun b o hb e=>(sb.2 b hb).trans e) f0 f1 f3 f4 f5
  obtain ⟨o,e,c,d⟩:=id st'
  exact ⟨u,rfl,Zgo (s:={ s with heap:=h' }) e c d (by decide) ⟨x,H,I1,ru,⟨rfl,fun ys hy=>by rw[I.tuple_inj hy hq];exact hx⟩,st',fun b hb=>(hf b hb).1⟩⟩
 done:=by
  intro X hP hw hK hB i pins s σ H E I hf st hg
  subst hP hw hK
  obtain ⟨xs,hq,hx⟩:=hg
  obtain ⟨its,rv,p,hz⟩:=I.tuple hq
  obtain ⟨f0,f1,f2,f3,f4,f5⟩:=hf it (by simp)
  have hl:=rv.length
  exact DQ.ZdG I.qh st (show s.heap.IsTuple a its.toArray from p) (by simp;omega) fun h' eb=>⟨rfl,I.turned (t':=s.toks) (fun b o hb e=>eb b o hb e) f0 f1 f3 f4 f5⟩
 self:=fun _ _ _ _ _ st h=>wpAny_pyIter_tupleiter st h
theorem Zc9 {P:Program} {w:World} {K:PySem.W.Frag} {B:Around} {tg:Expr} (it:Addr) (lo:Int) (n:Nat):Turn P w K B tg (Itr lo n) [it] it (fun i h=>IsRangeIter h it (lo + (i:Nat) * 1) ((n:Int) - (i:Nat)) 1) where
 mem:=by simp
 obj:=fun i h st b hb=>by
  have e:b=it:=by simpa using hb
  subst e
  exact ⟨_,st,fun v z=>by
   have z':Data.fields _=Data.cell v:=z
   cases z'⟩
 keep:=fun i h h' st k=>k it (by simp) _ st
 item:=by
  intro X hP hw hK hB i pins s σ H E I hf st hg
  subst hP hw hK
  obtain ⟨f0,f1,f2,f3,f4,f5⟩:=hf it (by simp)
  have hlt:i < n:=hg
  refine wpAny_pyNext_range_item st (by omega) fun h' st' sb=> ?_
  have I1:Inv X pins σ H { s with heap:=h',toks:=s.toks + 1 }:=I.turned (fun b o hb e=>(sb.2 b hb).trans e) f0 f1 f3 f4 f5
  have st2:IsRangeIter h' it (lo + ((i + 1:Nat):Int) * 1) ((n:Int) - ((i + 1:Nat):Int)) 1:=by
   have e1:lo + ((i + 1:Nat):Int) * 1=lo + (i:Nat) * 1 + 1:=by omega
   have e2:(n:Int) - ((i + 1:Nat):Int)=(n:Int) - (i:Nat) - 1:=by omega
   rw[e1,e2]
   exact st'
  refine ⟨_,rfl,Zgo (s:={ s with heap:=h',toks:=s.toks + 1 }) (n:="range_iterator") st2 rfl rfl (by decide) ⟨.int (lo + i),H,I1,⟨s.toks,?_⟩,⟨rfl,rfl⟩,st2,fun b hb=>(hf b hb).1⟩⟩
  rw[Int.mul_one]
 done:=by
  intro X hP hw hK hB i pins s σ H E I hf st hg
  subst hP hw hK
  obtain ⟨f0,f1,f2,f3,f4,f5⟩:=hf it (by simp)
  exact DQ.ZdF I.qh st (by have:n<=i:=hg;omega) fun h' eb=>⟨rfl,I.turned (t':=s.toks) (fun b o hb e=>eb b o hb e) f0 f1 f3 f4 f5⟩
 self:=fun _ _ _ _ _ st h=>wpAny_pyIter_rangeiter st h
end L2
namespace L2
open PySem PySem.Spec PyProof.Rows
section
variable {X:Cx} {tg:Expr}
theorem ZeS {pins:List (Addr × Obj)} {σ:St} {H:Hp} {s:Shared} {R:It->Hp->Prop} {E:Value->Shared->Prop} {lo hi:Int} {t u v:Tok} {tk:Nat} (I:Inv X pins σ H s) (h1: -(2 ^ 62)<=lo) (h2:lo < 2 ^ 62) (h3: -(2 ^ 62)<=hi) (h4:hi < 2 ^ 62)
  (q:R (Itr lo (hi - lo).toNat) H):wpAny (model X.prog X.w) X.A (pyIter (.ref s.heap.objs.size)) (PIE X pins σ tg R) E { s with heap:=s.heap.push { cls:= .type "range",data:= .fields #[.int lo t,.int hi u,.int 1 v] },toks:=tk }:=by
 refine wpAny_pyIter_range (IsRange.new ..) (small_one h1 h2 h3 h4) ?_
 have I1:Inv X pins σ H { s with heap:=s.heap.push { cls:= .type "range",data:= .fields #[.int lo t,.int hi u,.int 1 v] },toks:=tk }:=I.kept fun b o e=>Heap.get?_push_of_some _ e
 refine ⟨(s.heap.push { cls:= .type "range",data:= .fields #[.int lo t,.int hi u,.int 1 v] }).objs.size,[(s.heap.push { cls:= .type "range",data:= .fields #[.int lo t,.int hi u,.int 1 v] }).objs.size],_,_,H,rfl,
  I1.kept (t':=tk) fun b o e=>Heap.get?_push_of_some _ e,Zc9 _ lo (hi - lo).toNat,?_,fun b hb=> ?_,q⟩
 ·have e1:lo + ((0:Nat):Int) * 1=lo:=by simp
  have e2:(((hi - lo).toNat:Nat):Int) - ((0:Nat):Int)=Builtin.Range.rangeSize lo hi 1:=by rw[rangeSize_one];split<;>omega
  show IsRangeIter _ _ (lo + ((0:Nat):Int) * 1) ((((hi - lo).toNat:Nat):Int) - ((0:Nat):Int)) 1
  rw[e1,e2]
  exact Heap.get?_push_size _ rfl
 ·have e:b=(s.heap.push { cls:= .type "range",data:= .fields #[.int lo t,.int hi u,.int 1 v] }).objs.size:=by simpa using hb
  subst e
  exact I1.fpOk (Nat.le_refl _) (I1.hok.fresh (Nat.le_refl _))
noncomputable def ZkB (ta:TA):TI:=fun σ H R=>ta σ H fun vs H1=> ∃ j:Int,vs=[.int j]/\ -(2 ^ 62)<=j/\j < 2 ^ 62/\R (Itr 0 j.toNat) H1
theorem ZbH {a:Expr} {ta:TA} {p pos:Pos} (hg:Gl X "range") (hm:X.mg "range"=none) (ha:PA X [a] ta) (hs:starEach [a] X.env=[(false,eval a X.env)]:=by rfl):PI X tg (.Call (.Name "range" p) [a] [] pos) (ZkB ta):=by
 intro pins s σ H R I h
 refine Call_ (Zbf I hg hm boot_range (PyProof.Rows.callWith_type1 (thn (ha pos pins s σ H _ I h) fun us s1 ⟨vs,H1,I1,r1,q1⟩=> ?_) hs rfl))
 obtain ⟨j,e,q1,q2,q⟩:=q1
 subst e
 cases r1 with
 |cons r rr=>
  cases rr
  obtain ⟨t,rfl⟩:=r
  exact call_range_1 (ZeS I1 (by omega) (by omega) q1 q2 (by simpa using q))
noncomputable def ZnC (wi:TI) (g:TG) (tb:TS):TS:=fun D σ H=>wi σ H fun J H1=> ∃ W:Nat->Nat->St->Hp->Prop,(∃ m,W 0 m σ H1)/\ ∀ i m σ H,W i m σ H->
 (J.stop i H/\D.nx σ H)\/(J.go i H/\ ∃ N:St->Hp->Prop,(∀ σ' H',N σ' H'-> ∃ m',m' < m/\W (i + 1) m' σ' H')/\ ∀ x H',J.yld i H x H'->g x σ H' fun σ2 H2=>tb { D with nx:=N,ct:=N,bk:=D.nx } σ2 H2)
noncomputable def Zbg (fp:List Addr) (h:Heap):List (Addr × Obj):=fp.filterMap fun b=>(h.get? b).map fun o=>(b,o)
theorem Zai {fp:List Addr} {h:Heap} {b:Addr} {o:Obj} (hb:b∈fp) (e:h.get? b=some o):(b,o)∈Zbg fp h:=List.mem_filterMap.mpr ⟨b,hb,by rw[e];rfl⟩
theorem ZdN {fp:List Addr} {h:Heap} {p:Addr × Obj} (hp:p∈Zbg fp h):p.1∈fp/\h.get? p.1=some p.2:=by
 obtain ⟨b,hb,e⟩:=List.mem_filterMap.mp hp
 cases q:h.get? b with
 |none=>rw[q] at e;cases e
 |some o=>
  rw[q] at e
  have e':(b,o)=p:=Option.some.inj e
  subst e'
  exact ⟨hb,q⟩
theorem Inv.pinned {pins:List (Addr × Obj)} {σ:St} {H:Hp} {s:Shared} {fp:List Addr} (I:Inv X pins σ H s) (hf: ∀ b∈fp,ZdL X pins H b) (ho: ∀ b∈fp,∃ o,s.heap.get? b=some o/\ ∀ v,o.data≠ .cell v):Inv X (pins ++ Zbg fp s.heap) σ H s:=
 I.pins_of fun p hp=>(List.mem_append.mp hp).elim (fun z=>I.pin p (List.mem_append_right _ z)) fun z=>by
  obtain ⟨hb,e⟩:=ZdN z
  obtain ⟨f0,f1,f2,_⟩:=hf p.1 hb
  obtain ⟨o,e',d⟩:=ho p.1 hb
  rw[e] at e';cases e'
  exact ⟨e,f0,f1,f2,d⟩
theorem Inv.unpinned {pins pl:List (Addr × Obj)} {σ:St} {H:Hp} {s:Shared} (I:Inv X (pins ++ pl) σ H s):Inv X pins σ H s:=I.pins_of fun p hp=>I.pin p (List.mem_append_right _ (List.mem_append_left _ hp))
theorem ZfJ {iter:Expr} {body:List Stmt} {wi:TI} {g:TG} {tb:TS} {pos:Pos} (hp:PassesOwn (model X.prog X.w) X.A X.env X.xe) (hi:PI X tg iter wi) (hg:PG X tg g) (hb:PSs X body tb)
  (hs: ∀ x,foldedSetIterable iter X.env x=pure x:=by intro _;rfl):PS X (.For tg iter body [] pos) (ZnC wi g tb):=by
 intro pins s σ H D I h
 refine wpAny_For (thn (hi pins s σ H _ I h) fun v s1 h1=>thn h1 fun itv s2 h2=> ?_) hs
 obtain ⟨it,fp,tn,J,H2,e,I2,T,st2,f2,W,⟨m0,w0⟩,turn⟩:=h2
 subst e
 have stat: ∀ {H':Hp},(∀ b∈fp,H' b=none)-> ∀ b∈fp,ZdL X pins H' b:=fun hn b hb=>⟨hn b hb,(f2 b hb).2⟩
 refine codeAny_forLoop_any (fun n s'=> ∃ i σ' H',Inv X pins σ' H' s'/\tn i s'.heap/\(∀ b∈fp,H' b=none)/\W i n σ' H') ?_ m0 ⟨0,σ,H2,I2,st2,fun b hb=>(f2 b hb).1,w0⟩
 rintro n s3 ⟨i,σ3,H3,I3,st3,fr3,w3⟩
 rcases turn i n σ3 H3 w3 with ⟨stop,qn⟩ | ⟨go,N,hN,step⟩
 ·refine wpAny_passesOwn hp (thn (T.done X rfl rfl rfl rfl i pins s3 σ3 H3 X.xe I3 (stat fr3) st3 stop) fun r s4 ⟨hr,I4⟩=> ?_)
  subst hr
  exact wpAny_execs_nil ⟨σ3,H3,I4,qn⟩
 ·refine wpAny_passesOwn hp (thn (T.item X rfl rfl rfl rfl i pins s3 σ3 H3 X.xe I3 (stat fr3) st3 go) fun r s4 ⟨u,hr,h4⟩=> ?_)
  subst hr
  refine wpAny_passesOwn hp (thn h4 fun _ s5 ⟨x,H5,I5,r5,y5,st5,fr5⟩=> ?_)
  have I5':=I5.pinned (stat fr5) (T.obj _ _ st5)
  refine wpAny_passesOwn hp (thn (hg _ s5 σ3 H5 x u _ I5' r5 (step x H5 y5)) fun _ s6 ⟨σ6,H6,I6,q6⟩=> ?_)
  refine wpAny_passesOwn hp (thn (hb _ s6 σ6 H6 _ I6 q6) fun f s7 q7=> ?_)
  have again: ∀ {σ7:St} {H7:Hp},Inv X (pins ++ Zbg fp s5.heap) σ7 H7 s7->N σ7 H7-> ∃ m,m < n/\ ∃ i σ' H',Inv X pins σ' H' s7/\tn i s7.heap/\(∀ b∈fp,H' b=none)/\W i m σ' H':=fun {σ7 H7} I7 n7=>by
   obtain ⟨m',hm,w7⟩:=hN σ7 H7 n7
   refine ⟨m',hm,i + 1,σ7,H7,I7.unpinned,T.keep _ _ _ st5 fun b hb o e=>(I7.pin (b,o) (List.mem_append_right _ (List.mem_append_right _ (Zai hb e)))).1,fun b hb=> ?_,w7⟩
   obtain ⟨o,e,d⟩:=T.obj _ _ st5 b hb
   exact (I7.pin (b,o) (List.mem_append_right _ (List.mem_append_right _ (Zai hb e)))).2.1
  cases f with
  |next=>obtain ⟨σ7,H7,I7,n7⟩:=q7;exact again I7 n7
  |cont=>obtain ⟨σ7,H7,I7,n7⟩:=q7;exact again I7 n7
  |brk=>obtain ⟨σ7,H7,I7,q7⟩:=q7;exact ⟨σ7,H7,I7.unpinned,q7⟩
  |ret v=>obtain ⟨x7,σ7,H7,I7,r7,q7⟩:=q7;exact ⟨x7,σ7,H7,I7.unpinned,r7,q7⟩
end
theorem ZeT {K:PySem.W.Frag} {a:Addr} {xs:List V} {g:TG} {tb:TS} {D:Ends} {σ:St} {H:Hp} (Pv:Nat->St->Hp->Prop) (h0:Pv 0 σ H) (hl: ∀ i σ H,i<=xs.length->Pv i σ H->SqL K H a xs)
  (hs: ∀ i x σ H,xs[i]?=some x->Pv i σ H->g x σ H fun σ2 H2=>tb { D with nx:=Pv (i + 1),ct:=Pv (i + 1),bk:=D.nx } σ2 H2) (hd: ∀ σ H,Pv xs.length σ H->D.nx σ H):
  ∃ W:Nat->Nat->St->Hp->Prop,(∃ m,W 0 m σ H)/\ ∀ i m σ H,W i m σ H->
   ((Itl K a).stop i H/\D.nx σ H)\/((Itl K a).go i H/\ ∃ N:St->Hp->Prop,(∀ σ' H',N σ' H'-> ∃ m',m' < m/\W (i + 1) m' σ' H')/\ ∀ x H',(Itl K a).yld i H x H'->g x σ H' fun σ2 H2=>tb { D with nx:=N,ct:=N,bk:=D.nx } σ2 H2):=by
 refine ⟨fun i m σ H=>m=xs.length - i/\i<=xs.length/\Pv i σ H,⟨xs.length,by simp,Nat.zero_le _,h0⟩,?_⟩
 rintro i m σ H ⟨rfl,hi,p⟩
 have q:=hl i σ H hi p
 by_cases hlt:i < xs.length
 ·refine .inr ⟨⟨xs,xs[i],q,by simp[hlt]⟩,Pv (i + 1),fun σ' H' p'=>⟨xs.length - (i + 1),by omega,rfl,hlt,p'⟩,fun x H' y=> ?_⟩
  obtain ⟨e,y⟩:=y
  subst e
  exact hs i x σ _ (y xs q) p
 ·have e:i=xs.length:=by omega
  subst e
  exact .inl ⟨⟨xs,q,Nat.le_refl _⟩,hd σ H p⟩
theorem Zgp {K:PySem.W.Frag} {a:Addr} {xs:List V} {g:TG} {tb:TS} {D:Ends} {σ:St} {H:Hp} (Pv:Nat->St->Hp->Prop) (h0:Pv 0 σ H) (hl: ∀ i σ H,i<=xs.length->Pv i σ H->SqT K H a xs)
  (hs: ∀ i x σ H,xs[i]?=some x->Pv i σ H->g x σ H fun σ2 H2=>tb { D with nx:=Pv (i + 1),ct:=Pv (i + 1),bk:=D.nx } σ2 H2) (hd: ∀ σ H,Pv xs.length σ H->D.nx σ H):
  ∃ W:Nat->Nat->St->Hp->Prop,(∃ m,W 0 m σ H)/\ ∀ i m σ H,W i m σ H->
   ((Itt K a).stop i H/\D.nx σ H)\/((Itt K a).go i H/\ ∃ N:St->Hp->Prop,(∀ σ' H',N σ' H'-> ∃ m',m' < m/\W (i + 1) m' σ' H')/\ ∀ x H',(Itt K a).yld i H x H'->g x σ H' fun σ2 H2=>tb { D with nx:=N,ct:=N,bk:=D.nx } σ2 H2):=by
 refine ⟨fun i m σ H=>m=xs.length - i/\i<=xs.length/\Pv i σ H,⟨xs.length,by simp,Nat.zero_le _,h0⟩,?_⟩
 rintro i m σ H ⟨rfl,hi,p⟩
 have q:=hl i σ H hi p
 by_cases hlt:i < xs.length
 ·refine .inr ⟨⟨xs,xs[i],q,by simp[hlt]⟩,Pv (i + 1),fun σ' H' p'=>⟨xs.length - (i + 1),by omega,rfl,hlt,p'⟩,fun x H' y=> ?_⟩
  obtain ⟨e,y⟩:=y
  subst e
  exact hs i x σ _ (y xs q) p
 ·have e:i=xs.length:=by omega
  subst e
  exact .inl ⟨⟨xs,q,Nat.le_refl _⟩,hd σ H p⟩
theorem ZdO {lo:Int} {n:Nat} {g:TG} {tb:TS} {D:Ends} {σ:St} {H:Hp} (Pv:Nat->St->Hp->Prop) (h0:Pv 0 σ H)
  (hs: ∀ i σ H,i < n->Pv i σ H->g (.int (lo + i)) σ H fun σ2 H2=>tb { D with nx:=Pv (i + 1),ct:=Pv (i + 1),bk:=D.nx } σ2 H2) (hd: ∀ σ H,Pv n σ H->D.nx σ H):
  ∃ W:Nat->Nat->St->Hp->Prop,(∃ m,W 0 m σ H)/\ ∀ i m σ H,W i m σ H->
   ((Itr lo n).stop i H/\D.nx σ H)\/((Itr lo n).go i H/\ ∃ N:St->Hp->Prop,(∀ σ' H',N σ' H'-> ∃ m',m' < m/\W (i + 1) m' σ' H')/\ ∀ x H',(Itr lo n).yld i H x H'->g x σ H' fun σ2 H2=>tb { D with nx:=N,ct:=N,bk:=D.nx } σ2 H2):=by
 refine ⟨fun i m σ H=>m=n - i/\i<=n/\Pv i σ H,⟨n,by simp,Nat.zero_le _,h0⟩,?_⟩
 rintro i m σ H ⟨rfl,hi,p⟩
 by_cases hlt:i < n
 ·refine .inr ⟨hlt,Pv (i + 1),fun σ' H' p'=>⟨n - (i + 1),by omega,rfl,hlt,p'⟩,fun x H' y=> ?_⟩
  obtain ⟨e,y⟩:=y
  subst e y
  exact hs i σ _ hlt p
 ·have e:i=n:=by omega
  subst e
  exact .inl ⟨Nat.le_refl _,hd σ H p⟩
end L2
namespace L2
open PySem PySem.Spec PyProof.Rows
noncomputable abbrev R2:=V->V->Hp->VK->Prop
noncomputable def OpR (X:Cx) (f:Value->Value->Sem Value) (r:R2):Prop:=
 ∀ (pins:List (Addr × Obj)) (s:Shared) (σ:St) (H:Hp) (x y:V) (v u:Value) (Q:VK),Inv X pins σ H s->ZG x v->ZG y u->r x y H Q->
  wpAny (model X.prog X.w) X.A (f v u) (EP X pins σ Q) X.xe s
noncomputable def UnR (X:Cx) (f:Value->Sem Value) (r:V->Hp->VK->Prop):Prop:=
 ∀ (pins:List (Addr × Obj)) (s:Shared) (σ:St) (H:Hp) (x:V) (v:Value) (Q:VK),Inv X pins σ H s->ZG x v->r x H Q->
  wpAny (model X.prog X.w) X.A (f v) (EP X pins σ Q) X.xe s
noncomputable def Za9 (X:Cx) (f:Value) (r:List V->Hp->VK->Prop):Prop:=
 ∀ (pins:List (Addr × Obj)) (s:Shared) (σ:St) (H:Hp) (xs:List V) (us:List Value) (Q:VK),Inv X pins σ H s->Zu xs us->r xs H Q->
  wpAny (model X.prog X.w) X.A (call f us) (EP X pins σ Q) X.xe s
noncomputable def tOp (r:R2) (ta tb:TE):TE:=fun σ H Q=>ta σ H fun x H1=>tb σ H1 fun y H2=>r x y H2 Q
noncomputable def tUn (r:V->Hp->VK->Prop) (ta:TE):TE:=fun σ H Q=>ta σ H fun x H1=>r x H1 Q
noncomputable def rI (C:Int->Int->Prop) (g:Int->Int->V):R2:=fun x y H Q=> ∃ i j,x= .int i/\y= .int j/\C i j/\Q (g i j) H
noncomputable def rI0 (g:Int->Int->V):R2:=fun x y H Q=> ∃ i j,x= .int i/\y= .int j/\Q (g i j) H
noncomputable def rU (g:Int->V):V->Hp->VK->Prop:=fun x H Q=> ∃ i,x= .int i/\Q (g i) H
section
variable {X:Cx} {a b c:Expr} {ta tb tc:TE} {pos:Pos}
theorem ZkC (ha:PE X a ta) (hb:PE X b tb) {pins:List (Addr × Obj)} {s:Shared} {σ:St} {H:Hp} {R:V->V->Hp->Prop} (I:Inv X pins σ H s)
  (h:ta σ H fun x H1=>tb σ H1 fun y H2=>R x y H2) {Q:Value->Shared->Prop} {f:Value->Value->Sem Value}
  (hf: ∀ v u s2 x y H2,Inv X pins σ H2 s2->ZG x v->ZG y u->R x y H2->wpAny (model X.prog X.w) X.A (f v u) Q X.xe s2):
  wpAny (model X.prog X.w) X.A (eval a X.env) (fun v s₁=>wpAny (model X.prog X.w) X.A (eval b X.env) (fun u s₂=>wpAny (model X.prog X.w) X.A (f v u) Q X.xe s₂) X.xe s₁) X.xe s:=by
 refine thn (ha pins s σ H _ I h) fun v s1 ⟨x,H1,I1,r1,q1⟩=> ?_
 refine thn (hb pins s1 σ H1 _ I1 q1) fun u s2 ⟨y,H2,I2,r2,q2⟩=> ?_
 exact hf v u s2 x y H2 I2 r1 r2 q2
theorem ZkD {op:Operator} {r:R2} (ho:OpR X (binaryOp op) r) (ha:PE X a ta) (hb:PE X b tb):PE X (.BinOp a op b pos) (tOp r ta tb):=by
 intro pins s σ H Q I h
 exact wpAny_BinOp (ZkC ha hb I h fun v u s2 x y H2 I2 rx ry q=>ho pins s2 σ H2 x y v u Q I2 rx ry q)
theorem ZkE {op:UnaryOp} {r:V->Hp->VK->Prop} (ho:UnR X (unaryOp op) r) (ha:PE X a ta):PE X (.UnaryOp op a pos) (tUn r ta):=by
 intro pins s σ H Q I h
 exact UnaryOp_ (thn (ha pins s σ H _ I h) fun v s1 ⟨x,H1,I1,r1,q1⟩=>ho pins s1 σ H1 x v Q I1 r1 q1)
theorem opI {f:Value->Value->Sem Value} {C:Int->Int->Prop} {g:Int->Int->Int}
  (rule: ∀ (i j:Int) (t u:Tok) (s:Shared) (Q:Value->Shared->Prop) (E:Value->Shared->Prop),C i j->Q (.int (g i j) s.toks) { s with toks:=s.toks + 1 }->wpAny (model X.prog X.w) X.A (f (.int i t) (.int j u)) Q E s):
  OpR X f (rI C fun i j=> .int (g i j)):=by
 intro pins s σ H x y v u Q I rx ry h
 obtain ⟨i,j,rfl,rfl,hc,q⟩:=h
 obtain ⟨t,rfl⟩:=rx
 obtain ⟨t',rfl⟩:=ry
 exact rule i j t t' s _ _ hc ⟨.int (g i j),H,I.tok _,⟨_,rfl⟩,q⟩
theorem Zmp {f:Value->Value->Sem Value} {g:Int->Int->Int}
  (rule: ∀ (i j:Int) (t u:Tok) (s:Shared) (Q:Value->Shared->Prop) (E:Value->Shared->Prop),Q (.int (g i j) s.toks) { s with toks:=s.toks + 1 }->wpAny (model X.prog X.w) X.A (f (.int i t) (.int j u)) Q E s):
  OpR X f (rI0 fun i j=> .int (g i j)):=by
 intro pins s σ H x y v u Q I rx ry h
 obtain ⟨i,j,rfl,rfl,q⟩:=h
 obtain ⟨t,rfl⟩:=rx
 obtain ⟨t',rfl⟩:=ry
 exact rule i j t t' s _ _ ⟨.int (g i j),H,I.tok _,⟨_,rfl⟩,q⟩
theorem ZkF {f:Value->Value->Sem Value} {g:Int->Int->Bool}
  (rule: ∀ (i j:Int) (t u:Tok) (s:Shared) (Q:Value->Shared->Prop) (E:Value->Shared->Prop),Q (.bool (g i j)) s->wpAny (model X.prog X.w) X.A (f (.int i t) (.int j u)) Q E s):
  OpR X f (rI0 fun i j=> .bl (g i j)):=by
 intro pins s σ H x y v u Q I rx ry h
 obtain ⟨i,j,rfl,rfl,q⟩:=h
 obtain ⟨t,rfl⟩:=rx
 obtain ⟨t',rfl⟩:=ry
 exact rule i j t t' s _ _ ⟨.bl (g i j),H,I,rfl,q⟩
noncomputable def Zmq (i j:Int):Prop:=0<=j/\j<=1000000/\i.natAbs < 2 ^ 64
theorem Zh0:OpR X (binaryOp .Add) (rI0 fun i j=> .int (i + j)):=Zmp fun _ _ _ _ _ _ _ q=>add_int q
theorem Zh1:OpR X (binaryOp .Sub) (rI0 fun i j=> .int (i - j)):=Zmp fun _ _ _ _ _ _ _ q=>sub_int q
theorem Zgq:OpR X (binaryOp .Mod) (rI (fun _ j=>j≠0) fun i j=> .int (i.fmod j)):=opI fun _ _ _ _ _ _ _ hc q=>mod_int' hc q
theorem Zh2:OpR X (binaryOp .Pow) (rI Zmq fun i j=> .int (i ^ j.toNat)):=opI fun _ _ _ _ _ _ _ hc q=>pow_int_small hc.1 hc.2.1 hc.2.2 q
theorem unI {f:Value->Sem Value} {g:Int->Int}
  (rule: ∀ (i:Int) (t:Tok) (s:Shared) (Q:Value->Shared->Prop) (E:Value->Shared->Prop),Q (.int (g i) s.toks) { s with toks:=s.toks + 1 }->wpAny (model X.prog X.w) X.A (f (.int i t)) Q E s):
  UnR X f (rU fun i=> .int (g i)):=by
 intro pins s σ H x v Q I rx h
 obtain ⟨i,rfl,q⟩:=h
 obtain ⟨t,rfl⟩:=rx
 exact rule i t s _ _ ⟨.int (g i),H,I.tok _,⟨_,rfl⟩,q⟩
theorem Zh3:UnR X (unaryOp .USub) (rU fun i=> .int (-i)):=unI fun _ _ _ _ _ q=>neg_int q
end
section
variable {X:Cx} {a b c:Expr} {ta tb tc:TE} {pos:Pos}
theorem ZeU:OpR X (compareOp .Lt) (rI0 fun i j=> .bl (decide (i < j))):=ZkF fun _ _ _ _ _ _ _ q=>lt_int q
theorem Zh4:OpR X (compareOp .Gt) (rI0 fun i j=> .bl (decide (j < i))):=ZkF fun _ _ _ _ _ _ _ q=>gt_int q
theorem ZkG:OpR X (compareOp .GtE) (rI0 fun i j=> .bl (decide (j<=i))):=ZkF fun _ _ _ _ _ _ _ q=>ge_int q
theorem OpR.or {f:Value->Value->Sem Value} {r r':R2} (h:OpR X f r) (h':OpR X f r'):OpR X f (fun x y H Q=>r x y H Q\/r' x y H Q):=by
 intro pins s σ H x y v u Q I rx ry q
 rcases q with q | q
 ·exact h pins s σ H x y v u Q I rx ry q
 ·exact h' pins s σ H x y v u Q I rx ry q
theorem ZfK (b:Expr) {op:CmpOp} (h:op≠ .In:=by decide) (h2:op≠ .NotIn:=by decide):behindInMarks op b=false:=by
 have e1:(op == CmpOp.In)=false:=by cases op<;>first | rfl | exact absurd rfl h
 have e2:(op == CmpOp.NotIn)=false:=by cases op<;>first | rfl | exact absurd rfl h2
 cases b<;>simp[behindInMarks,e1,e2]
theorem Zgr {op:CmpOp} {r:R2} (ho:OpR X (compareOp op) r) (ha:PE X a ta) (hb:PE X b tb) (hm:behindInMarks op b=false):PE X (.Compare a [op] [b] pos) (tOp r ta tb):=by
 intro pins s σ H Q I h
 exact wpAny_Compare1 (ZkC ha hb I h fun v u s2 x y H2 I2 rx ry q=>ho pins s2 σ H2 x y v u Q I2 rx ry q) hm
noncomputable def Zh5 (t:TE):TT:=fun σ H Q=>t σ H fun x H'=> ∃ k,x= .bl k/\Q k H'
theorem Zgs {op:CmpOp} {r:R2} (ho:OpR X (compareOp op) r) (ha:PE X a ta) (hb:PE X b tb) (hm:behindInMarks op b=false):PT X (.Compare a [op] [b] pos) (Zh5 (tOp r ta tb)):=by
 intro pins s σ H Q I h
 refine wpAny_isTrue_Compare1 (thn (ha pins s σ H _ I h) fun v s1 ⟨x,H1,I1,r1,q1⟩=>thn (hb pins s1 σ H1 _ I1 q1) fun u s2 ⟨y,H2,I2,r2,q2⟩=>
  thn (ho pins s2 σ H2 x y v u _ I2 r1 r2 q2) fun c s3 ⟨z,H3,I3,r3,k,e,q3⟩=> ?_) hm
 subst e
 cases r3
 exact wpAny_truthy_bool ⟨H3,I3,q3⟩
theorem ZdP:(sizeLine:Nat) < 2 ^ 63:=by rw[sizeLine_eq];decide
theorem Zda:OpR X (binaryOp .Add) (fun x y H Q=> ∃ i j,x= .str i/\y= .str j/\i.length + j.length<=sizeLine/\Q (.str (i ++ j)) H):=by
 intro pins s σ H x y v u Q I rx ry h
 obtain ⟨i,j,rfl,rfl,hz,q⟩:=h
 obtain ⟨t,rfl⟩:=rx
 obtain ⟨t',rfl⟩:=ry
 exact add_str (fun t' tk=>⟨.str (i ++ j),H,I.tok _,⟨_,rfl⟩,q⟩) hz
theorem Zdb {x:V} {us:List Value} (r:Zu [x] us): ∃ u,us=[u]/\ZG x u:=by
 cases r with
 |cons r1 r2=>cases r2;exact ⟨_,rfl,r1⟩
theorem Zh6 {x y:V} {us:List Value} (r:Zu [x,y] us): ∃ u w',us=[u,w']/\ZG x u/\ZG y w':=by
 cases r with
 |cons r1 r2=>
  cases r2 with
  |cons r3 r4=>cases r4;exact ⟨_,_,rfl,r1,r3⟩
end
end L2
namespace L2
open PySem PySem.Spec PyProof.Rows
section
variable {prog:Program} {w:World} {A:Around} {E:Value->Shared->Prop} {s:Shared} {K:PySem.W.Frag} {x dx C f:Addr} {mA:Str->Option Value} {name:Str} {v:Value}
end
section
variable {P:Program} {w:World} {H H':Hp} {h h':Heap} {a C dx:Addr} {fs fs':List (Str × V)}
end
section
variable {X:Cx} {pins:List (Addr × Obj)} {σ:St} {H:Hp} {s:Shared} {a C dx:Addr} {fs:List (Str × V)} {f:Str} {v:V} {A:Around} {E:Value->Shared->Prop}
end
section
variable {X:Cx} {o e value:Expr} {f:Str} {pos pos' tpos:Pos} {ta tv:TE}
end
section
variable {X:Cx} {pins:List (Addr × Obj)} {σ:St} {H:Hp} {s:Shared} {A:Around} {E:Value->Shared->Prop} {Q:Value->Shared->Prop} {c:Value} {b:Bool}
end
end L2
namespace L2
open PySem PySem.Spec PyProof.Rows
structure Room (k:Nat) (A:Around):Prop where
 hd:100<=k->A.handled=none
 dp:A.depth + 3 * k + 5 < recursionLimit
 un:A.units + 16 * k + 200 < cLine
theorem Room.mono {j k:Nat} {A:Around} (r:Room k A) (h:j<=k):Room j A:=⟨fun z=>r.hd (Nat.le_trans z h),by have:=r.dp;omega,by have:=r.un;omega⟩
theorem Room.deeper {k:Nat} {A:Around} (r:Room (k + 1) A) (env:Env):Room k (A.deeper env):=
 ⟨fun z=>r.hd (Nat.le_succ_of_le z),by have:=r.dp;show A.depth + 1 + 3 * k + 5 < _;omega,by have:=r.un;show A.units + 3 + 16 * k + 200 < _;omega⟩
theorem Room.depth {k:Nat} {A:Around} (r:Room k A):A.depth < recursionLimit:=by have:=r.dp;omega
theorem Room.units {k:Nat} {A:Around} (r:Room k A):A.units + 64 < cLine:=by have:=r.un;omega
noncomputable def tNil:TA:=fun _ H Q=>Q [] H
noncomputable def ZkH (ta:TE) (tr:TA):TA:=fun σ H Q=>ta σ H fun x H1=>tr σ H1 fun xs H2=>Q (x :: xs) H2
section
variable {X:Cx} {e:Expr} {es:List Expr} {te:TE} {t:TA} {pos:Pos}
theorem ZfL:PA X [] tNil:=fun _ _ _ _ H Q I h=>Calls.spliced_nil ⟨[],H,I,.nil,h⟩
theorem Zco (ha:PE X e te) (hr:PA X es t) (hs:starEach (e :: es) X.env=(false,eval e X.env) :: starEach es X.env:=by rfl):PA X (e :: es) (ZkH te t):=by
 intro pos pins s σ H Q I h
 rw[hs]
 show wpAny _ _ (spliced ((false,eval e X.env) :: backTo pos (starEach es X.env))) _ _ s
 refine Calls.spliced_cons (thn (ha pins s σ H _ I h) fun u s1 ⟨x,H1,I1,r1,q1⟩=> ?_)
 exact thn (hr pos pins s1 σ H1 _ I1 q1) fun us s2 ⟨xs,H2,I2,r2,q2⟩=>⟨x :: xs,H2,I2,.cons r1 r2,q2⟩
noncomputable def ZnD (t:TA):TE:=fun σ H Q=>t σ H fun xs H1=>xs.length<=sizeLine/\ ∀ p,H1 p=none->Q (.ref p) (upd H1 p (.tup xs))
noncomputable def ZnE (t:TA):TE:=fun σ H Q=>t σ H fun xs H1=>xs.length<=sizeLine/\ ∀ p,H1 p=none->Q (.ref p) (upd H1 p (.lst xs))
theorem Zh7 {x1} (h:PA X es t):PE X (.Tuple es x1 pos) (ZnD t):=by
 intro pins s σ H Q I hq
 refine wpAny_Tuple_spliced (thn (h pos pins s σ H _ I hq) fun us s1 ⟨xs,H1,I1,r,z,q⟩=>⟨by rw[<- r.length];exact z,?_⟩)
 have hf:H1 s1.heap.objs.size=none:=I1.hok.fresh (Nat.le_refl _)
 refine ⟨.ref s1.heap.objs.size,upd H1 s1.heap.objs.size (.tup xs),I1.laid (t':=s1.toks) (fun b u e=>Heap.get?_push_of_some _ e) (Nat.le_refl _) ?_,rfl,q _ hf⟩
 exact ⟨z,us,r,⟨_,Heap.get?_push_size _ rfl,rfl,_,rfl⟩⟩
theorem Zh8 (h:PA X es t):PE X (.List es pos) (ZnE t):=by
 intro pins s σ H Q I hq
 refine wpAny_List_spliced (thn (h pos pins s σ H _ I hq) fun us s1 ⟨xs,H1,I1,r,z,q⟩=>⟨by rw[<- r.length];exact z,?_⟩)
 have hf:H1 s1.heap.objs.size=none:=I1.hok.fresh (Nat.le_refl _)
 refine ⟨.ref s1.heap.objs.size,upd H1 s1.heap.objs.size (.lst xs),I1.laid (t':=s1.toks) (fun b u e=>Heap.get?_push_of_some _ e) (Nat.le_refl _) ?_,rfl,q _ hf⟩
 exact ⟨z,us,0,r,Heap.get?_push_size _ rfl⟩
end
noncomputable abbrev Sp:=List V->Hp->VK->XK->Prop
noncomputable abbrev CXT:=List Env->Hp->Shared->XK->Value->Shared->Prop
structure Env0 (P:Program) (w:World) (K:PySem.W.Frag) (mg:Str->Option Value) (base:Heap) (A:Around) (outer:List Env) (s:Shared) (H:Hp):Prop where
 frames:A.frames=some outer
 mod:Mod K mg base
 bs: ∀ b o,base.get? b=some o->s.heap.get? b=some o/\H b=none
 bsz:base.objs.size<=s.heap.objs.size
 funs:s.heap.FunFrames base outer
 frf: ∀ b∈frs outer,H b=none
 hok:HOk P w H s.heap
 bare:AllBare s.gens
 qd:Qd A H
noncomputable def CE (outer:List Env) (P:Program) (w:World) (H:Hp) (s:Shared) (Q:VK) (u:Value) (s':Shared):Prop:=
 ∃ v H',s'.os=s.os/\AllBare s'.gens/\Un (frs outer) [] H H' s.heap s'.heap/\HOk P w H' s'.heap/\ZG v u/\Q v H'
noncomputable def CR (CX:CXT) (outer:List Env) (P:Program) (w:World) (H:Hp) (s:Shared) (Q:VK) (E:XK) (r:Result) (s':Shared):Prop:=
 match r with
 | .ok (.ret u)=>CE outer P w H s Q u s'
 | .ok _=>False
 | .error e=>CX outer H s E e s'
structure FnOk (P:Program) (w:World) (K:PySem.W.Frag) (mg:Str->Option Value) (base:Heap) (CX:CXT) (k:Nat) (f:Addr) (fd:FuncData) (ps:List Str) (sp:Sp):Prop where
 len: ∀ vs H Q E,sp vs H Q E->vs.length=ps.length
 run: ∀ (A:Around) (outer:List Env) (s:Shared) (H:Hp) (args:Args) (us:List Value) (vs:List V) (Q:VK) (E:XK),Room k A->Env0 P w K mg base A outer s H->BindsTo s fd args (ps.zip us)->Zu vs us->sp vs H Q E->
  codeAny (model P w) A (.call (.ref f) args) (CR CX outer P w H s Q E) s
section
variable {X:Cx} {pins:List (Addr × Obj)} {σ:St} {H:Hp} {s s':Shared}
theorem Inv.env0 (I:Inv X pins σ H s):Env0 X.prog X.w X.K X.mg X.base X.A X.stack s H:=
 ⟨I.ok.frames,I.ok.mod,I.bs,Nat.le_trans I.ok.bsz I.sz,I.stack,I.stkFree,I.hok,I.bare,I.qd⟩
theorem Inv.after {Q:VK} {u:Value} (I:Inv X pins σ H s) (h:CE X.stack X.prog X.w H s Q u s'):EP X pins σ Q u s':=by
 obtain ⟨v,H',os,bare,un,hok,r,q⟩:=h
 obtain ⟨hh,g,d,t,os'⟩:=s'
 obtain rfl:os'=s.os:=os
 exact ⟨v,H',I.call (h':=hh) (g':=g) (d':=d) (t':=t) (ch:=[]) un hok bare (fun b z=>absurd z (by simp)),r,q⟩
end
noncomputable def Zh9 (sp:Sp) (dvs:List V) (E:XK) (t:TA):TE:=fun σ H Q=>t σ H fun vs H1=>sp (vs ++ dvs) H1 Q E
noncomputable def ZbI (K:PySem.W.Frag) (fd:FuncData) (ps:List Str) (ds:List Value):Prop:=
 ∀ (s:Shared) (us:List Value),K.In s.heap->(us ++ ds).length=ps.length->BindsTo s fd ⟨us,[]⟩ (ps.zip (us ++ ds))
theorem ZbI.all {K:PySem.W.Frag} {fd:FuncData} {ps:List Str} (h: ∀ us:List Value,us.length=ps.length->bindArgs fd ⟨us,[]⟩=pure (ps.zip us)):ZbI K fd ps []:=fun s us _ hl=>by
 rw[List.append_nil] at hl ⊢
 exact .of_eq (h us hl)
noncomputable def ZcJ (CX:CXT) (X:Cx) (E:XK):Prop:= ∀ (pins:List (Addr × Obj)) (σ:St) (H:Hp) (s:Shared) (e:Value) (s':Shared),Inv X pins σ H s->CX X.stack H s E e s'->X.xe e s'
section
variable {X:Cx} {CX:CXT} {k:Nat} {f C:Addr} {fd:FuncData} {ps:List Str} {sp:Sp} {dvs:List V} {ds:List Value} {E:XK} {x m:Str} {p pos apos:Pos} {e o:Expr} {es:List Expr} {ta:TE} {t:TA}
theorem ZfM {pins:List (Addr × Obj)} {σ:St} {H:Hp} {s:Shared} {Q:VK} {us:List Value} {vs:List V} (F:FnOk X.prog X.w X.K X.mg X.base CX k f fd ps sp) (hr:Room k X.A) (hb:ZbI X.K fd ps ds) (hd:Zu dvs ds) (hx:ZcJ CX X E)
  (I:Inv X pins σ H s) (r:Zu vs us) (h:sp (vs ++ dvs) H Q E):wpAny (model X.prog X.w) X.A (call (.ref f) us) (EP X pins σ Q) X.xe s:=by
 have r2:Zu (vs ++ dvs) (us ++ ds):=r.append hd
 have hl:(us ++ ds).length=ps.length:=by rw[<- r2.length];exact F.len _ _ _ _ h
 refine wpAny_call (codeAny_mono (F.run X.A X.stack s H ⟨us,[]⟩ (us ++ ds) (vs ++ dvs) Q E hr I.env0 (hb s us I.kIn hl) r2 h) fun r s' hq=> ?_)
 cases r with
 |error e=>exact hx pins σ H s e s' I hq
 |ok fl=>
  cases fl with
  |ret u=>exact I.after hq
  |next=>exact False.elim hq
  |brk=>exact False.elim hq
  |cont=>exact False.elim hq
theorem Zgt (F:FnOk X.prog X.w X.K X.mg X.base CX k f fd ps sp) (hr:Room k X.A) (hg:Gl X x) (hm:X.mg x=some (.ref f)) (hk:PySem.W.keepIn X.K (.ref f)=true) (hb:ZbI X.K fd ps ds) (hd:Zu dvs ds) (hx:ZcJ CX X E)
  (ha:PA X (e :: es) t) (hdb:(x == ("__debug__":Str))=false:=by decide) (he:starEach (e :: es) X.env=(false,eval e X.env) :: starEach es X.env:=by rfl) (hpl:(backTo pos (starEach es X.env)).any (·.1)=false:=by rfl):
  PE X (.Call (.Name x p) (e :: es) [] pos) (Zh9 sp dvs E t):=by
 intro pins s σ H Q I h
 refine wpAny_Call_Name_kw (Zbo I hg hm ?_ hdb)
 refine PySem.W.callWith_K (h₀:=X.base) I.ok.mod.kin hk (thn (ha pos pins s σ H _ I h) fun us s1 ⟨vs,H1,I1,r,q⟩=>⟨I1.kIn,?_⟩) he hpl
 exact ZfM F hr hb hd hx I1 r q
theorem ZeV (F:FnOk X.prog X.w X.K X.mg X.base CX k f fd ps sp) (hr:Room k X.A) (hg:Gl X x) (hm:X.mg x=some (.ref f)) (hk:PySem.W.keepIn X.K (.ref f)=true) (hb:ZbI X.K fd ps ds) (hd:Zu dvs ds) (hx:ZcJ CX X E)
  (hdb:(x == ("__debug__":Str))=false:=by decide):PE X (.Call (.Name x p) [] [] pos) (Zh9 sp dvs E tNil):=by
 intro pins s σ H Q I h
 refine wpAny_Call_Name_kw (Zbo I hg hm ?_ hdb)
 exact PySem.W.callWith_K0 I.kIn hk (ZfM (us:=[]) F hr hb hd hx I .nil h)
end
section
variable {X:Cx} {CX:CXT} {k:Nat} {f C:Addr} {fd:FuncData} {ps ks:List Str} {sp:Sp} {E:XK} {x m:Str} {p pos apos kpos:Pos} {e o:Expr} {es:List Expr} {kws:List Keyword} {te ta:TE} {t tk:TA} {nm:Option Str}
variable {g:List Value->List Value->List Value} {gV:List V->List V->List V}
end
structure FnScope (N P:List Str) (sc:Scope):Prop where
 kind:sc.kind= .function
 co:sc.isCoroutine=false
 gen:sc.isGenerator=false
 nd:N.Nodup
 pre:N.take P.length=P
 par: ∀ x∈P,sc.names.lookup x=some .local\/sc.names.lookup x=some .cell
 nofree: ∀ y∈sc.names,y.2≠ .free
theorem ZbJ {kindOf:Str->Option NameKind} {x:Str}: ∀ {binds:List (Str × Value)} {m:Str->Option Value},(∀ v,(x,v) ∉ binds)->bindL kindOf binds m x=m x
 | [],_,_=>rfl
 | (n,v) :: r,m,h=>by
  unfold bindL
  rw[ZbJ fun w hw=>h w (List.mem_cons_of_mem _ hw)]
  split
  ·have:x≠n:=by rintro rfl;exact h v List.mem_cons_self
   simp[this]
  ·rfl
theorem ZbK {kindOf:Str->Option NameKind} {x:Str}: ∀ {binds:List (Str × Value)} {m:Str->Option Value},(∀ v,(x,v) ∉ binds)->bindC kindOf binds m x=m x
 | [],_,_=>rfl
 | (n,v) :: r,m,h=>by
  unfold bindC
  rw[ZbK fun w hw=>h w (List.mem_cons_of_mem _ hw)]
  split
  ·rfl
  ·have:x≠n:=by rintro rfl;exact h v List.mem_cons_self
   simp[this]
theorem ZbL {kindOf:Str->Option NameKind} {x:Str} {v:Value}: ∀ {P:List Str} {vs:List Value} {i:Nat} {m:Str->Option Value},P.Nodup->P[i]?=some x->vs[i]?=some v->kindOf x=some .local->
  bindL kindOf (P.zip vs) m x=some v
 | [],_,_,_,_,h,_,_=>by simp at h
 |_ :: _,[],_,_,_,_,h,_=>by simp at h
 |p :: P,w :: vs,0,m,nd,h1,h2,hk=>by
  simp at h1 h2;subst h1;subst h2
  show bindL kindOf ((p,w) :: P.zip vs) m p=_
  unfold bindL
  rw[ZbJ fun v hv=>(List.nodup_cons.mp nd).1 (List.of_mem_zip hv).1,if_pos hk]
  simp
 |p :: P,w :: vs,i + 1,m,nd,h1,h2,hk=>by
  show bindL kindOf ((p,w) :: P.zip vs) m x=_
  unfold bindL
  exact ZbL (i:=i) (List.nodup_cons.mp nd).2 (by simpa using h1) (by simpa using h2) hk
theorem ZbM {kindOf:Str->Option NameKind} {x:Str} {v:Value}: ∀ {P:List Str} {vs:List Value} {i:Nat} {m:Str->Option Value},P.Nodup->P[i]?=some x->vs[i]?=some v->kindOf x≠some .local->
  bindC kindOf (P.zip vs) m x=some v
 | [],_,_,_,_,h,_,_=>by simp at h
 |_ :: _,[],_,_,_,_,h,_=>by simp at h
 |p :: P,w :: vs,0,m,nd,h1,h2,hk=>by
  simp at h1 h2;subst h1;subst h2
  show bindC kindOf ((p,w) :: P.zip vs) m p=_
  unfold bindC
  rw[ZbK fun v hv=>(List.nodup_cons.mp nd).1 (List.of_mem_zip hv).1,if_neg hk]
  simp
 |p :: P,w :: vs,i + 1,m,nd,h1,h2,hk=>by
  show bindC kindOf ((p,w) :: P.zip vs) m x=_
  unfold bindC
  exact ZbM (i:=i) (List.nodup_cons.mp nd).2 (by simpa using h1) (by simpa using h2) hk
noncomputable def start (N:List Str) (vs:List V):St:=vs.map some ++ List.replicate (N.length - vs.length) none
noncomputable def Zcl (CX:CXT) (P:Program) (w:World) (K:PySem.W.Frag) (mg:Str->Option Value) (base:Heap) (N:List Str) (qual:Str) (scope:Scope) (f:Addr) (cd:Value) (A:Around) (outer:List Env) (s:Shared) (H:Hp) (E:XK):Cx where
 prog:=P
 w:=w
 K:=K
 mg:=mg
 base:=base
 A:=A.deeper (envOfC qual scope s.heap.objs.size f cd)
 N:=N
 s₀:=s
 H₀:=H
 env:=envOfC qual scope s.heap.objs.size f cd
 outer:=outer
 stack:=envOfC qual scope s.heap.objs.size f cd :: outer
 ex:=[]
 calm:=A.handled.isNone
 fn:=fun _=>true
 pn:=[]
 xe:=fun e s'=>wpAny (model P w) (A.deeper (envOfC qual scope s.heap.objs.size f cd)) (leaving (envOfC qual scope s.heap.objs.size f cd) e) (fun _ s''=>CX outer H s E e s'') (fun e' s''=>CX outer H s E e' s'') s'
theorem ZcK {sc:Scope} {n:Nat} {x:Str} (h:sc.names.lookup x=some .cell): ∃ c,(cellsFrom n sc.names []).lookup x=some c:=by
 have q:=PySem.W.cellsFrom_some sc.names n [] (.inl h)
 exact Option.isSome_iff_exists.mp q
theorem ZdQ {CX:CXT} {P:Program} {w:World} {K:PySem.W.Frag} {mg:Str->Option Value} {base:Heap} {N ps:List Str} {qual:Str} {scope:Scope} {f:Addr} {cd:Value} {A:Around} {outer:List Env} {s s1:Shared} {H:Hp} {E:XK} {us:List Value} {vs:List V}
  (S:FnScope N ps scope) (e0:Env0 P w K mg base A outer s H) (hl:vs.length=ps.length) (r:Zu vs us)
  (x:InCallC s s.heap.objs.size (bindL (envOfC qual scope s.heap.objs.size f cd).kindOf (ps.zip us) fun _=>none) (cellsFrom (s.heap.objs.size + 1) scope.names []) (bindC (envOfC qual scope s.heap.objs.size f cd).kindOf (ps.zip us) fun _=>none) s1):
  Inv (Zcl CX P w K mg base N qual scope f cd A outer s H E) [] (start N vs) H s1:=by
 have hpl:ps.length<=N.length:=by have:=congrArg List.length S.pre;rw[List.length_take] at this;omega
 obtain ⟨h1,tk,rfl,hk⟩:=x.done
 have noA: ∀ b:Addr,b ∉ (Zcl CX P w K mg base N qual scope f cd A outer s H E).ex:=fun b z=>absurd (show b∈([]:List Addr) from z) (by simp)
 refine ⟨⟨e0.mod,S.kind,rfl,rfl,Nat.le_refl _,fun y z c h1 h2=> ?_,fun y hy=> ?_,fun y c _ h=> ?_,fun z=>Option.isNone_iff_eq_none.mp z,Around.frames_deeper e0.frames,.inr ⟨rfl,rfl⟩,fun b z=>absurd z (noA b),e0.bs,e0.bsz,fun b _ _=>noA b,fun b z=>absurd z (noA b),e0.funs,e0.frf⟩,
  rfl,e0.bare,Un.kept hk,⟨_,x.toInCall.ns,fun i y v h1 h2 h3=> ?_⟩,fun y c h=>⟨_,x.cell y c h⟩,e0.hok.fresh (Nat.le_refl _),fun y c h=> ?_,fun p hp=>absurd (show p∈([]:List (Addr × Obj)) from hp) (by simp),e0.hok.kept hk,?_,e0.qd⟩
 ·exact name_of_addr x.apart (PySem.mem_of_lookup h1) (PySem.mem_of_lookup h2)
 ·have hy:scope.names.lookup y=some .cell\/scope.names.lookup y=some .free:=hy
  rcases hy with hy | hy
  ·exact ZcK hy
  ·exact absurd rfl (S.nofree _ (PySem.mem_of_lookup hy))
 ·exact Nat.le_of_lt (x.above y c (PySem.mem_of_lookup h))
 ·have hi:i < vs.length:=by
   unfold start at h2
   by_cases hi:i < vs.length
   ·exact hi
   ·rw[List.getElem?_append_right (by simpa using hi)] at h2
    rw[List.getElem?_replicate] at h2
    split at h2<;>cases h2
  have ha:vs[i]?=some v:=by
   unfold start at h2
   rw[List.getElem?_append_left (by simpa using hi),List.getElem?_map] at h2
   cases e:vs[i]? with
   |none=>rw[e] at h2;cases h2
   |some a=>rw[e] at h2;cases h2;rfl
  obtain ⟨u,hu,rv⟩:=r.get ha
  have hp:ps[i]?=some y:=by
   rw[<- S.pre,List.getElem?_take_of_lt (by omega)];exact h1
  have ndP:ps.Nodup:=by rw[<- S.pre];exact S.nd.sublist (List.take_sublist _ _)
  refine ⟨u,rv,?_⟩
  rcases S.par y (List.mem_of_getElem? hp) with k | k
  ·exact .inl ⟨k,ZbL ndP hp hu k⟩
  ·obtain ⟨c,e⟩:=ZcK (n:=s.heap.objs.size + 1) k
   refine .inr ⟨.inl k,c,e,?_⟩
   have q:=x.cell y c e
   rw[ZbM ndP hp hu (by show scope.names.lookup y≠_;rw[k];decide)] at q
   exact q
 ·exact e0.hok.fresh (Nat.le_of_lt (x.above y c (PySem.mem_of_lookup h)))
 ·unfold start
  show _=N.length
  rw[List.length_append,List.length_map,List.length_replicate]
  omega
theorem ZkI {CX:CXT} {P:Program} {w:World} {K:PySem.W.Frag} {mg:Str->Option Value} {base:Heap} {k:Nat} {f:Addr} {name qual:Str} {params:Arguments} {body:List Stmt} {scope:Scope} {dV kV doc pm cdv ct oc:Value} {an od:Option Addr}
  {osl:Array (Option Value)} {N ps:List Str} {sp:Sp} (lk:K.lookup f=some ⟨oc,od,.func (PySem.W.fnOf name qual params body scope dV kV doc pm an cdv ct),osl⟩) (hcd:PySem.W.codeIn K cdv qual=true) (S:FnScope N ps scope)
  (len: ∀ vs H Q E,sp vs H Q E->vs.length=ps.length)
  (hbody: ∀ (A:Around) (outer:List Env) (s:Shared) (H:Hp) (vs:List V) (Q:VK) (E:XK),Room k (A.deeper (envOfC qual scope s.heap.objs.size f cdv))->sp vs H Q E->
   ∃ t,PSs (Zcl CX P w K mg base N qual scope f cdv A outer s H E) body t/\t { nx:=fun _ H'=>Q .non H',rt:=Q } (start N vs) H):
  FnOk P w K mg base CX (k + 1) f (PySem.W.fnOf name qual params body scope dV kV doc pm an cdv ct) ps sp:=by
 refine ⟨len,fun A outer s H args us vs Q E hr e0 hb r hsp=> ?_⟩
 have hl:=len _ _ _ _ hsp
 have KX:K.In s.heap:=e0.mod.kin.keeps fun b o e=>(e0.bs b o e).1
 have lim:s.heap.NoLimit:=e0.mod.nolimit.keeps fun b o e=>(e0.bs b o e).1
 have hkind: ∀ y∈ps.zip us,scope.names.lookup y.1=some .local\/(scope.names.lookup y.1=some .cell/\((cellsFrom (s.heap.objs.size + 1) scope.names []).lookup y.1).isSome=true):=fun ⟨n,v⟩ hy=>by
  rcases S.par n (List.of_mem_zip hy).1 with q | q
  ·exact .inl q
  ·exact .inr ⟨q,PySem.W.cellsFrom_some _ _ _ (.inl q)⟩
 refine codeAny_call_function hr.depth (KX _ _ lk) rfl S.co S.gen rfl (PySem.W.codeRec_of KX hcd) (hb _ _ _ _ ?_)
 refine wpAny_newFunctionEnv_cells S.kind hkind fun env he s1 x=> ?_
 subst he
 refine ⟨lim.keeps x.toInCall.keep,codeAny_func ?_⟩
 obtain ⟨t,ht,hq⟩:=hbody A outer s H vs Q E (hr.deeper _) hsp
 have I:Inv (Zcl CX P w K mg base N qual scope f cdv A outer s H E) [] (start N vs) H s1:=ZdQ S e0 hl r x
 refine wpAny_mono (ht [] s1 (start N vs) H _ I hq) (fun fl s' hs=> ?_) fun e s' hs=>hs
 have fin: ∀ {σ':St} {H':Hp} {v:V} {u:Value},Inv (Zcl CX P w K mg base N qual scope f cdv A outer s H E) [] σ' H' s'->ZG v u->Q v H'->CE outer P w H s Q u s':=
  fun {σ' H' v u} J rv q=>⟨v,H',J.os,J.bare,J.base,J.hok,rv,q⟩
 cases fl with
 |ret u=>
  obtain ⟨v,σ',H',J,rv,q⟩:=hs
  exact fin J rv q
 |next=>
  obtain ⟨σ',H',J,q⟩:=hs
  exact fin (v:=V.non) (u:=Value.none) J rfl q
 |brk=>
  obtain ⟨_,_,_,q⟩:=hs
  exact False.elim q
 |cont=>
  obtain ⟨_,_,_,q⟩:=hs
  exact False.elim q
end L2
namespace L2
open PySem PySem.Spec PyProof.Rows
section
variable {X:Cx} {x:Str} {p pos:Pos} {e:Expr} {es:List Expr} {t:TA} {id T:String} {r:List V->Hp->VK->Prop}
noncomputable def tCB (r:List V->Hp->VK->Prop) (t:TA):TE:=fun σ H Q=>t σ H fun vs H1=>r vs H1 Q
theorem ZcL (hc:Za9 X (.builtin id) r) (hg:Gl X x) (hm:X.mg x=none) (hv:bootBuiltins x=some (.builtin id)) (ha:PA X (e :: es) t) (hn:x≠"__name__":=by decide) (hdb:(x == ("__debug__":Str))=false:=by decide)
  (he:starEach (e :: es) X.env=(false,eval e X.env) :: starEach es X.env:=by rfl) (hpl:(backTo pos (starEach es X.env)).any (·.1)=false:=by rfl):PE X (.Call (.Name x p) (e :: es) [] pos) (tCB r t):=by
 intro pins s σ H Q I h
 refine wpAny_Call_Name_kw (Zbf I hg hm hv ?_ hn hdb)
 exact PyProof.Rows.callWith_builtin1 (thn (ha pos pins s σ H _ I h) fun us s1 ⟨vs,H1,I1,r1,q1⟩=>hc pins s1 σ H1 vs us Q I1 r1 q1) he hpl
theorem ZdR (hc:Za9 X (.type T) r) (hg:Gl X x) (hm:X.mg x=none) (hv:bootBuiltins x=some (.type T)) (ha:PA X (e :: es) t) (hn:x≠"__name__":=by decide) (hdb:(x == ("__debug__":Str))=false:=by decide)
  (he:starEach (e :: es) X.env=(false,eval e X.env) :: starEach es X.env:=by rfl) (hpl:(backTo pos (starEach es X.env)).any (·.1)=false:=by rfl):PE X (.Call (.Name x p) (e :: es) [] pos) (tCB r t):=by
 intro pins s σ H Q I h
 refine wpAny_Call_Name_kw (Zbf I hg hm hv ?_ hn hdb)
 exact PyProof.Rows.callWith_type1 (thn (ha pos pins s σ H _ I h) fun us s1 ⟨vs,H1,I1,r1,q1⟩=>hc pins s1 σ H1 vs us Q I1 r1 q1) he hpl
end
end L2
namespace HT
open PySem PyProof.Rows
noncomputable def Zaw:List Int->List Int->Bool
 | [],[]=>false
 | [],_ :: _=>true
 |_ :: _,[]=>false
 |x :: xs,y :: ys=>if x=y then Zaw xs ys else decide (x < y)
theorem Zdc (x y:Int) (xs ys:List Int):Zaw (x :: xs) (y :: ys)=if x=y then Zaw xs ys else decide (x < y):=rfl
theorem Zbp:Zaw [] []=false:=rfl
theorem Zba (y:Int) (ys:List Int):Zaw [] (y :: ys)=true:=rfl
theorem Zbb (x:Int) (xs:List Int):Zaw (x :: xs) []=false:=rfl
theorem ZeW (A:Around) (s:Shared) (a:Int) (t:Tok) (c:Int) (u:Tok): ∃ e,SeqAt.EqAt A s (.int a t) (.int c u) e/\(e=true ↔ a=c):=
 ⟨(a == c),SeqAt.EqAt.int_int a t c u,by simp⟩
theorem ZeX (A:Around) (s:Shared) (a:Int) (t:Tok) (c:Int) (u:Tok) (prog:Program) (w:World) (E:Value->Shared->Prop) (Q:Value->Shared->Prop) (h:Q (.bool (decide (a < c))) s):
  wpAny (model prog w) A (richCompare .Lt (.int a t) (.int c u)) Q E s:=
 (PyProof.Rows.lt_int h:wpAny (model prog w) A (compareOp .Lt (.int a t) (.int c u)) Q E s)
section
open PySem.SeqAt
open PySem.AutoSeq1 (wpAny_loadPart')
open PySem.MeetsSeq PySem.MeetsSeq2 PySem.MeetsSeq3
theorem Zbq (l b:Addr) (items items2:Array Value) (n n2:Nat) (dd dd2:Option Addr) (sl sl2:Array (Option Value)) (ns ms:List Int) (hi:IntsAre items.toList ns) (hj:IntsAre items2.toList ms):
  Meets (Builtin.«tuple.__lt__» ⟨[.ref l,.ref b],[]⟩)
   (fun _ R s=>s.heap.get? l=some { cls:= .type "tuple",dict:=dd,data:= .seq items n,slots:=sl }/\s.heap.get? b=some { cls:= .type "tuple",dict:=dd2,data:= .seq items2 n2,slots:=sl2 }/\
    R (.ok (.ret (.bool (Zaw ns ms)))) s):=
 .of_wp fun prog w A R s h=>by
  obtain ⟨hp,g,d,tk,os⟩:=s;obtain ⟨hl,hb,h⟩:=h
  have f2:=AutoSeq1.sub_tuple_tuple
  have z1:items.size=ns.length:=by rw[<- hi.length];simp
  have z2:items2.size=ms.length:=by rw[<- hj.length];simp
  wp_walk using wpAny_loadPart' hl,wpAny_loadPart' hb,wpAny_forIn_list _ (fun rest b s'=>b.1=none/\s'=⟨hp,g,d,tk,os⟩/\ ∃ (vs ws:List Value) (ns' ms':List Int),rest=vs.zip ws/\
   IntsAre vs ns'/\IntsAre ws ms'/\ns'.length + items2.size=ms'.length + items.size/\R (.ok (.ret (.bool (Zaw ns' ms')))) ⟨hp,g,d,tk,os⟩) _
  case turn=>
   rintro ⟨y,x⟩ rest b s' ⟨hb',rfl,vs,ws,ns',ms',hz,hvi,hwi,hlen,hR⟩
   cases hvi with
   |nil=>rw[List.zip_nil_left] at hz;cases hz
   |cons a t hvi'=>
    cases hwi with
    |nil=>rw[List.zip_nil_right] at hz;cases hz
    |cons c u hwi'=>
     rw[List.zip_cons_cons] at hz
     injection hz with hyx hrest
     injection hyx with hy hx
     subst hy hx
     rw[Zdc] at hR
     simp only[List.length_cons] at hlen
     obtain ⟨e,he,hiff⟩:=ZeW A.in1 ⟨hp,g,d,tk,os⟩ a t c u
     refine wpAny_bind (he prog w _ _ ?_)
     cases e with
     |true=>
      rw[if_pos (hiff.mp rfl)] at hR
      wp_walk
      exact ⟨rfl,rfl,_,_,_,_,hrest,hvi',hwi',by omega,hR⟩
     |false=>
      rw[if_neg (fun q=>absurd (hiff.mpr q) Bool.false_ne_true)] at hR
      have hri:=ZeX A.in1 ⟨hp,g,d,tk,os⟩ a t c u prog w
      wp_walk using hri
      exact ⟨_,rfl,by simpa using hR⟩
  case fin=>
   rintro ⟨b1,b2⟩ s' ⟨hb',rfl,vs,ws,ns',ms',hz,hvi,hwi,hlen,hR⟩
   simp only at hb'
   subst hb'
   have hv:Zaw ns' ms'=decide (items.size < items2.size):=by
    cases hvi with
    |nil=>
     cases hwi with
     |nil=>
      simp only[List.length_nil] at hlen
      rw[Zbp]
      exact (decide_eq_false (by omega)).symm
     |cons c u hw=>
      simp only[List.length_nil,List.length_cons] at hlen
      rw[Zba]
      exact (decide_eq_true (by omega)).symm
    |cons a t hv=>
     cases hwi with
     |nil=>
      simp only[List.length_nil,List.length_cons] at hlen
      rw[Zbb]
      exact (decide_eq_false (by omega)).symm
     |cons c u hw=>
      rw[List.zip_cons_cons] at hz
      cases hz
   rw[hv] at hR
   wp_walk
   exact ⟨_,rfl,by simpa [Builtin.Tuple.tupleCompareSizes] using hR⟩
  case h=>
   exact ⟨rfl,rfl,items.toList,items2.toList,ns,ms,rfl,hi,hj,by omega,h⟩
end
section
variable {prog:Program} {w:World} {A:Around} {E:Value->Shared->Prop} {s:Shared}
theorem Zdd {l b:Addr} {items items2:Array Value} {ns ms:List Int} {Q:Value->Shared->Prop} (hl:IsTup s.heap l items) (hb:IsTup s.heap b items2) (hi:IntsAre items.toList ns) (hj:IntsAre items2.toList ms)
  (hu:A.units < cLine) (h:Q (.bool (Zaw ns ms)) s):wpAny (model prog w) A (compareOp .Lt (.ref l) (.ref b)) Q E s:=by
 obtain ⟨⟨cls,dd,data,sl⟩,ho,hc,n,hd⟩:=id hl
 obtain ⟨⟨cls2,dd2,data2,sl2⟩,ho2,hc2,n2,hd2⟩:=id hb
 simp only at hc hd hc2 hd2
 subst hc hd hc2 hd2
 exact richCompare_meets_room (op:= .Lt) ⟨_,ho,rfl⟩ ⟨_,ho2,rfl⟩ PySem.F.slot_tuple_lt PySem.F.entry_tuple_lt (PySem.F.args_tuple_lt_2 _ _) (Zbq l b items items2 n n2 dd dd2 sl sl2 ns ms hi hj)
  ⟨ho,ho2,show Value.bool (Zaw ns ms)≠Value.notImplemented/\Q (.bool (Zaw ns ms)) s from ⟨(fun x=>nomatch x),h⟩⟩ hu
theorem Zgu {t b:Addr} {vs ws:List Value} {Q:Value->Shared->Prop} (ht:IsTup s.heap t vs.toArray) (hb:IsTup s.heap b ws.toArray) (hv:vs≠[])
  (h1:ws=[]->Q (.ref t) s) (h2:ws≠[]->Q (.ref s.heap.objs.size) { s with heap:=s.heap.push { cls:= .type "tuple",data:= .seq (vs ++ ws).toArray } })
  (hsz:vs.length + ws.length<=sizeLine):wpAny (model prog w) A (binaryOp .Add (.ref t) (.ref b)) Q E s:=by
 obtain ⟨⟨cls,dd,data,sl⟩,ho,hc,n,hd⟩:=id ht
 obtain ⟨⟨cls2,dd2,data2,sl2⟩,ho2,hc2,n2,hd2⟩:=id hb
 simp only at hc hd hc2 hd2
 subst hc hd hc2 hd2
 have e:vs.toArray ++ ws.toArray=(vs ++ ws).toArray:=by simp
 by_cases hw:ws=[]
 ·exact concat_meets ⟨_,ho,rfl⟩ ⟨_,ho2,rfl⟩ noFill_tuple_add seq_tuple_add PySem.F.slot_tuple_add PySem.F.entry_tuple_add (PySem.F.args_tuple_add_2 _ _)
   (tuple_addW1 t b vs.toArray ws.toArray n n2 dd dd2 sl sl2 (by simpa using hv) (by simp[hw])) ⟨ho,ho2,h1 hw⟩
 ·refine concat_meets ⟨_,ho,rfl⟩ ⟨_,ho2,rfl⟩ noFill_tuple_add seq_tuple_add PySem.F.slot_tuple_add PySem.F.entry_tuple_add (PySem.F.args_tuple_add_2 _ _)
   (tuple_addW2 t b vs.toArray ws.toArray n n2 dd dd2 sl sl2 (by simpa using hv) (by simpa using hw) (by rw[List.size_toArray,List.size_toArray];exact hsz)) ⟨ho,ho2,?_⟩
  rw[e]
  exact h2 hw
noncomputable def sIx (n d:Nat):Option Int->Nat
 |none=>d
 |some v=>if v < 0 then (v + (n:Int)).toNat else min v.toNat n
theorem Zia (n d:Nat) (hd:d<=n) (o:Option Int):sIx n d o<=n:=by
 cases o with
 |none=>exact hd
 |some v=>
  show (if v < 0 then (v + (n:Int)).toNat else min v.toNat n)<=n
  by_cases hv:v < 0
  ·rw[if_pos hv];omega
  ·rw[if_neg hv];exact Nat.min_le_right _ _
theorem ZdS (v:Int) (n d:Nat):(if v < 0 then max (v + (n:Int)) 0 else min v (n:Int))=((sIx n d (some v):Nat):Int):=by
 show (if v < 0 then max (v + (n:Int)) 0 else min v (n:Int))=(((if v < 0 then (v + (n:Int)).toNat else min v.toNat n):Nat):Int)
 by_cases hv:v < 0
 ·simp only[if_pos hv];omega
 ·simp only[if_neg hv];omega
theorem Zde (lo hi:Option Int) (n:Nat):Builtin.Slice.sliceAdjust lo hi 1 (n:Int)=(((sIx n 0 lo:Nat):Int),((sIx n n hi:Nat):Int)):=by
 have h1: ¬ ((1:Int) < 0):=by omega
 unfold Builtin.Slice.sliceAdjust
 simp only[h1,if_false]
 refine Prod.ext ?_ ?_
 ·cases lo with
  |none=>rfl
  |some v=>exact ZdS v n 0
 ·cases hi with
  |none=>rfl
  |some v=>exact ZdS v n n
theorem Zdf (i j:Nat):Builtin.Slice.slicePlaces (i:Int) (j:Int) 1=j - i:=by
 unfold Builtin.Slice.slicePlaces
 have h1:(1:Int) > 0:=by omega
 simp only[h1,if_true,Int.ediv_one]
 split<;>omega
theorem Zbh {v:Value} {o:Option Int} {Q:Option Int->Shared->Prop} (p:IsPart v o) (h:Q o s):wpAny (model prog w) A (Builtin.Slice.slicePartIndex v) Q E s:=by
 cases p with
 |none=>exact slicePart_none h
 |int i t=>exact slicePart_int h
theorem ZaL {sl:Addr} {vl vu:Value} {lo hi:Option Int} {n:Nat} {Q:Int × Int × Nat->Shared->Prop} (hs:s.heap.IsSliceOf sl vl vu .none) (pl:IsPart vl lo) (pu:IsPart vu hi)
  (h:Q (((sIx n 0 lo:Nat):Int),1,sIx n n hi - sIx n 0 lo) s):wpAny (model prog w) A (Builtin.Slice.sliceApplied (.ref sl) (pure (n:Int))) Q E s:=by
 obtain ⟨os,hos,hcs,hds⟩:=id hs
 unfold Builtin.Slice.sliceApplied Builtin.Slice.sliceFields
 refine wpAny_bind (wpAny_bind (wpAny_field hos hds (x:=vl) rfl (wpAny_bind (wpAny_field hos hds (x:=vu) rfl (wpAny_bind (wpAny_field hos hds (x:= .none) rfl (wpAny_pure ?_)))))))
 refine wpAny_bind (slicePart_none ?_)
 show wpAny _ _ (if ((1:Int) == 0)=true then _ else _) _ _ s
 rw[if_neg (by decide)]
 refine wpAny_bind (Zbh pl (wpAny_bind (Zbh pu (wpAny_bind (wpAny_pure ?_)))))
 show wpAny _ _ (match Builtin.Slice.sliceAdjust lo hi 1 (n:Int) with | (lo,hi)=>pure (lo,(1:Int),Builtin.Slice.slicePlaces lo hi 1)) _ _ s
 rw[Zde lo hi n]
 show wpAny _ _ (pure (((sIx n 0 lo:Nat):Int),(1:Int),Builtin.Slice.slicePlaces ((sIx n 0 lo:Nat):Int) ((sIx n n hi:Nat):Int) 1)) _ _ s
 rw[Zdf]
 exact wpAny_pure h
theorem ZeY (xs:Array Value) (i k:Nat):((List.range k).filterMap fun (m:Nat)=>xs[((i:Int) + (m:Int) * 1).toNat]?).toArray=((xs.toList.drop i).take k).toArray:=by
 have e:(fun (m:Nat)=>xs[((i:Int) + (m:Int) * 1).toNat]?)=fun m=>xs[i + m]?:=by
  funext m
  have:((i:Int) + (m:Int) * 1).toNat=i + m:=by omega
  rw[this]
 rw[e]
 have:=pick_run xs i k
 rw[List.filterMap_map] at this
 have e2:((fun x=>xs[x]?) ∘ fun x=>i + x)=fun m=>xs[i + m]?:=rfl
 rw[e2] at this
 rw[this]
theorem ZaC {t sl:Addr} {items:Array Value} {vl vu:Value} {lo hi:Option Int} {Q:Value->Shared->Prop} (ht:IsTup s.heap t items) (hs:s.heap.IsSliceOf sl vl vu .none) (pl:IsPart vl lo) (pu:IsPart vu hi)
  (hw: ¬ (sIx items.size 0 lo=0/\sIx items.size items.size hi=items.size))
  (h:Q (.ref s.heap.objs.size) { s with heap:=s.heap.push { cls:= .type "tuple",data:= .seq ((items.toList.drop (sIx items.size 0 lo)).take (sIx items.size items.size hi - sIx items.size 0 lo)).toArray } })
  (hsz:items.size<=sizeLine):wpAny (model prog w) A (getItem (.ref t) (.ref sl)) Q E s:=by
 have htake:sizeOk (.seq ((items.toList.drop (sIx items.size 0 lo)).take (sIx items.size items.size hi - sIx items.size 0 lo)).toArray):=by
  show ((items.toList.drop (sIx items.size 0 lo)).take (sIx items.size items.size hi - sIx items.size 0 lo)).toArray.size<=sizeLine
  rw[List.size_toArray,List.length_take,List.length_drop,Array.length_toList]
  omega
 have hj:sIx items.size items.size hi<=items.size:=Zia _ _ (Nat.le_refl _) hi
 obtain ⟨os,hos,hcs,hds⟩:=id hs
 have hTs:s.TypeIs (.ref sl) "slice":=⟨os,hos,hcs⟩
 unfold getItem
 try with_reducible refine wpAny_holding ?_
 first | refine wpAny_bind (wpAny_pure ?_) | skip
 refine wpAny_bind (wpAny_sequenceKey ht.typeIs (by decide) ?_)
 refine wpAny_bind (wpAny_callSpecial?_slot (name:=Str.ofString "__getitem__") ht.typeIs PyProof.Rows.slot_tuple_getitem
  (wpAny_call_entry PyProof.Rows.slot_tuple_getitem ht.typeIs entry_tuple_getitem ?_ (args_tuple_getitem _ _)))
 show wpAny _ _ (Builtin.Tuple.tupleItemsOf (.ref t) >>= _) _ _ s
 refine wpAny_bind (tupleItemsOf_ ht ?_)
 refine wpAny_bind (wpAny_typeOf hTs ?_)
 rw[if_pos (by decide)]
 refine wpAny_bind (ZaL hs pl pu ?_)
 have hno: ¬ ((((sIx items.size 0 lo:Nat):Int) == 0 && (1:Int) == 1 && (sIx items.size items.size hi - sIx items.size 0 lo) == items.size)=true):=by
  intro q
  rw[Bool.and_eq_true,Bool.and_eq_true] at q
  have q1:((sIx items.size 0 lo:Nat):Int)=0:=eq_of_beq q.1.1
  have q2:sIx items.size items.size hi - sIx items.size 0 lo=items.size:=eq_of_beq q.2
  exact hw ⟨by omega,by omega⟩
 show wpAny _ _ (if (((sIx items.size 0 lo:Nat):Int) == 0 && (1:Int) == 1 && (sIx items.size items.size hi - sIx items.size 0 lo) == items.size)=true then _ else _) _ _ s
 rw[if_neg hno,ZeY]
 first
  |exact wpAny_bind (m:=Builtin.Tuple.tupleExact _) (wpAny_newObj_type (wpAny_pure ⟨_,rfl,wpAny_pure h⟩) htake)
  |exact wpAny_bind (m:=Builtin.Tuple.tupleExact _) (wpAny_newObj_type (wpAny_bind (wpAny_pure (wpAny_pure ⟨_,rfl,wpAny_pure h⟩))) htake)
  |exact wpAny_bind (wpAny_bind (m:=Builtin.Tuple.tupleExact _) (wpAny_newObj_type (wpAny_pure (wpAny_pure ⟨_,rfl,wpAny_pure h⟩)) htake))
  |exact wpAny_bind (wpAny_bind (m:=Builtin.Tuple.tupleExact _) (wpAny_newObj_type (wpAny_pure ⟨_,rfl,wpAny_pure h⟩) htake))
end
end HT
namespace L2
open PySem PySem.Spec PyProof.Rows
noncomputable abbrev TO:=St->Hp->(Option Int->Hp->Prop)->Prop
noncomputable def PO (X:Cx) (e:Option Expr) (t:TO):Prop:=
 ∀ (pins:List (Addr × Obj)) (s:Shared) (σ:St) (H:Hp) (Q:Option Int->Hp->Prop),Inv X pins σ H s->t σ H Q->
  wpAny (model X.prog X.w) X.A (evalPart e X.env) (fun u s'=> ∃ o H',Inv X pins σ H' s'/\IsPart u o/\Q o H') X.xe s
noncomputable def tNoPart:TO:=fun _ H Q=>Q none H
noncomputable def ZkJ (t:TE):TO:=fun σ H Q=>t σ H fun x H1=> ∃ i,x= .int i/\Q (some i) H1
theorem Zbi {ns:List Int}: ∀ {us:List Value},Zu (ns.map V.int) us->IntsAre us ns:=by
 induction ns with
 |nil=>intro us r;rw[List.map_nil] at r;cases r;exact .nil
 |cons n ns ih=>
  intro us r
  rw[List.map_cons] at r
  cases r with
  |cons r1 r2=>
   obtain ⟨t,e⟩:=r1
   subst e
   exact .cons n t (ih r2)
section
variable {X:Cx} {e:Expr} {te:TE} {lo hi:Option Expr} {tl th:TO} {pos p2:Pos}
theorem Zgv:PO X none tNoPart:=by
 intro pins s σ H Q I h
 rw[evalPart_none]
 exact wpAny_pure ⟨none,H,I,.none,h⟩
theorem Zgw (h:PE X e te):PO X (some e) (ZkJ te):=by
 intro pins s σ H Q I hw
 rw[evalPart_some]
 refine thn (h pins s σ H _ I hw) fun u s1 ⟨x,H1,I1,r1,q1⟩=> ?_
 obtain ⟨i,rfl,q⟩:=q1
 obtain ⟨t,rfl⟩:=r1
 exact ⟨some i,H1,I1,.int i t,q⟩
noncomputable def SlR (X:Cx) (r:V->Option Int->Option Int->Hp->VK->Prop):Prop:=
 ∀ (pins:List (Addr × Obj)) (s:Shared) (σ:St) (H:Hp) (x:V) (v vl vu:Value) (lo hi:Option Int) (sl:Addr) (Q:VK),Inv X pins σ H s->ZG x v->s.heap.IsSliceOf sl vl vu .none->IsPart vl lo->IsPart vu hi->r x lo hi H Q->
  ∃ T id,typeLookup (.type T) "__getitem__"=pure (some (.builtin id))/\s.TypeIs v T/\wpAny (model X.prog X.w) X.A (getItem v (.ref sl)) (EP X pins σ Q) X.xe s
theorem SlR.or {r r':V->Option Int->Option Int->Hp->VK->Prop} (h:SlR X r) (h':SlR X r'):SlR X (fun x lo hi H Q=>r x lo hi H Q\/r' x lo hi H Q):=by
 intro pins s σ H x v vl vu lo hi sl Q I rx hs pl pu q
 rcases q with q | q
 ·exact h pins s σ H x v vl vu lo hi sl Q I rx hs pl pu q
 ·exact h' pins s σ H x v vl vu lo hi sl Q I rx hs pl pu q
noncomputable def tSl (r:V->Option Int->Option Int->Hp->VK->Prop) (te:TE) (tl th:TO):TE:=fun σ H Q=>te σ H fun x H1=>tl σ H1 fun l H2=>th σ H2 fun u H3=>r x l u H3 Q
theorem ZeZ {r:V->Option Int->Option Int->Hp->VK->Prop} (hr:SlR X r) (he:PE X e te) (hl:PO X lo tl) (hu:PO X hi th):PE X (.Subscript e (.Slice lo hi none p2) pos) (tSl r te tl th):=by
 intro pins s σ H Q I h
 refine Subscript_ (thn (he pins s σ H _ I h) fun v s1 ⟨x,H1,I1,r1,q1⟩=> ?_)
 refine wpAny_Slice (thn (hl pins s1 σ H1 _ I1 q1) fun vl s2 ⟨l,H2,I2,pl,q2⟩=>thn (hu pins s2 σ H2 _ I2 q2) fun vu s3 ⟨u,H3,I3,pu,q3⟩=> ?_)
 rw[evalPart_none]
 refine wpAny_pure ?_
 have I4:Inv X pins σ H3 { s3 with heap:=s3.heap.push { cls:= .type "slice",data:= .fields #[vl,vu,.none] } }:=I3.kept (t':=s3.toks) fun b ob q=>Heap.get?_push_of_some _ q
 obtain ⟨T,id,hT,ht,hg⟩:=hr pins { s3 with heap:=s3.heap.push { cls:= .type "slice",data:= .fields #[vl,vu,.none] } } σ H3 x v vl vu l u s3.heap.objs.size Q I4 r1 (Heap.IsSliceOf.new ..) pl pu q3
 show wpAny (model X.prog X.w) X.A (subscriptTail e (.Slice lo hi none p2) v (.ref s3.heap.objs.size)) (EP X pins σ Q) X.xe { s3 with heap:=s3.heap.push { cls:= .type "slice",data:= .fields #[vl,vu,.none] } }
 exact tail_any (ops:=[.ref s3.heap.objs.size,v]) ht hT hg (by with_unfolding_all rfl)
noncomputable def ZfN (xs:List V) (lo hi:Option Int):List V:=(xs.drop (HT.sIx xs.length 0 lo)).take (HT.sIx xs.length xs.length hi - HT.sIx xs.length 0 lo)
theorem ZaR (xs:List V) (lo hi:Option Int):(ZfN xs lo hi).length<=xs.length:=by
 unfold ZfN
 rw[List.length_take,List.length_drop]
 omega
noncomputable def ZnF (K:PySem.W.Frag):V->Option Int->Option Int->Hp->VK->Prop:=fun x lo hi H Q=> ∃ a xs,x= .ref a/\SqT K H a xs/\
 ¬ (HT.sIx xs.length 0 lo=0/\HT.sIx xs.length xs.length hi=xs.length)/\ ∀ p,H p=none->Q (.ref p) (upd H p (.tup (ZfN xs lo hi)))
theorem Zib:SlR X (ZnF X.K):=by
 intro pins s σ H x v vl vu lo hi sl Q I rx hs pl pu h
 obtain ⟨a,xs,rfl,hx,hw,q⟩:=h
 cases rx
 obtain ⟨its,r,ht,hz⟩:=I.tuple hx
 have hlen:its.toArray.size=xs.length:=by rw[List.size_toArray];exact r.length.symm
 refine ⟨"tuple",_,PyProof.Rows.slot_tuple_getitem.lookup,ht.typeIs,?_⟩
 refine HT.ZaC ht hs pl pu (by rw[hlen];exact hw) ?_ (by rw[hlen];exact hz)
 rw[hlen]
 refine ⟨.ref s.heap.objs.size,_,I.laid (t':=s.toks) (o:= .tup (ZfN xs lo hi)) (fun b ob q=>Heap.get?_push_of_some _ q) (Nat.le_refl _) ?_,rfl,q _ (I.hok.fresh (Nat.le_refl _))⟩
 exact ⟨Nat.le_trans (ZaR xs lo hi) hz,_,(r.drop (HT.sIx xs.length 0 lo)).take (HT.sIx xs.length xs.length hi - HT.sIx xs.length 0 lo),IsTup.new _ _⟩
noncomputable def Zgx (K:PySem.W.Frag):R2:=fun x y H Q=> ∃ a b xs ys,x= .ref a/\y= .ref b/\SqT K H a xs/\SqT K H b ys/\xs≠[]/\xs.length + ys.length<=sizeLine/\
 (ys=[]->Q (.ref a) H)/\(ys≠[]-> ∀ p,H p=none->Q (.ref p) (upd H p (.tup (xs ++ ys))))
theorem Zu.nil_iff {xs:List V} {us:List Value} (r:Zu xs us):us=[] ↔ xs=[]:=by
 cases r with
 |nil=>simp
 |cons _ _=>simp
theorem Zgy:OpR X (binaryOp .Add) (Zgx X.K):=by
 intro pins s σ H x y v u Q I rx ry h
 obtain ⟨a,b,xs,ys,rfl,rfl,ha,hb,hx,hz,q1,q2⟩:=h
 cases rx
 cases ry
 obtain ⟨its,r1,p1,_⟩:=I.tuple ha
 obtain ⟨its2,r2,p2,_⟩:=I.tuple hb
 refine HT.Zgu p1 p2 (fun z=>hx (r1.nil_iff.mp z)) (fun z=>⟨.ref a,H,I,rfl,q1 (r2.nil_iff.mp z)⟩) (fun z=> ?_) (by rw[<- r1.length,<- r2.length];exact hz)
 refine ⟨.ref s.heap.objs.size,_,I.laid (t':=s.toks) (o:= .tup (xs ++ ys)) (fun b ob q=>Heap.get?_push_of_some _ q) (Nat.le_refl _) ?_,rfl,q2 (fun w=>z (r2.nil_iff.mpr w)) _ (I.hok.fresh (Nat.le_refl _))⟩
 exact ⟨by rw[List.length_append];exact hz,_,r1.append r2,IsTup.new _ _⟩
end
end L2
namespace L2
open PySem PySem.Spec PyProof.Rows
noncomputable def ixN (n:Nat) (i:Int):Option Nat:=if 0<=i then (if i < n then some i.toNat else none) else if -(n:Int)<=i then some (i + n).toNat else none
noncomputable def atI {α:Type} (xs:List α) (i:Int):Option α:=(ixN xs.length i).bind fun j=>xs[j]?
theorem Zgz {n:Nat} {i:Int} {j:Nat} (h:ixN n i=some j):seqIndex? i n=some j/\j < n/\ -(n:Int)<=i/\i < n:=by
 unfold ixN at h
 by_cases h0:0<=i
 ·rw[if_pos h0] at h
  by_cases h1:i < n
  ·rw[if_pos h1] at h
   have e:i.toNat=j:=Option.some.inj h
   exact ⟨by rw[seqIndex_of h0 h1,e],by omega,by omega,h1⟩
  ·rw[if_neg h1] at h;cases h
 ·rw[if_neg h0] at h
  by_cases h1: -(n:Int)<=i
  ·rw[if_pos h1] at h
   have e:(i + n).toNat=j:=Option.some.inj h
   exact ⟨by rw[seqIndex_neg (by omega) h1,e],by omega,h1,by omega⟩
  ·rw[if_neg h1] at h;cases h
theorem ZdT {α:Type} {xs:List α} {i:Int} {v:α} (h:atI xs i=some v): ∃ j,seqIndex? i xs.length=some j/\xs[j]?=some v/\j < xs.length/\ -(xs.length:Int)<=i/\i < xs.length:=by
 unfold atI at h
 cases e:ixN xs.length i with
 |none=>rw[e] at h;cases h
 |some j=>
  rw[e] at h
  obtain ⟨h1,h2,h3,h4⟩:=Zgz e
  exact ⟨j,h1,h,h2,h3,h4⟩
theorem Zcp {α:Type} {xs:List α} {j:Nat} {v:α} (h:xs[j]?=some v):atI xs (j:Int)=some v:=by
 have hj:j < xs.length:=(List.getElem?_eq_some_iff.mp h).1
 have e:ixN xs.length (j:Int)=some j:=by
  unfold ixN
  rw[if_pos (by omega),if_pos (by omega)];simp
 unfold atI;rw[e];exact h
noncomputable def ZdU (b:Expr):Prop:= ∀ o i,subscripted b false o i=operate [o,i] (getItem o i)
noncomputable def IxR (X:Cx) (r:R2):Prop:=
 ∀ (value slice:Expr) (pins:List (Addr × Obj)) (s:Shared) (σ:St) (H:Hp) (x y:V) (v u:Value) (Q:VK),Inv X pins σ H s->ZG x v->ZG y u->r x y H Q->
  subscripted slice false v u=operate [v,u] (getItem v u)->wpAny (model X.prog X.w) X.A (subscriptTail value slice v u) (EP X pins σ Q) X.xe s
noncomputable def MtR (X:Cx) (id:String) (r:V->List V->Hp->VK->Prop):Prop:=
 ∀ (pins:List (Addr × Obj)) (s:Shared) (σ:St) (H:Hp) (x:V) (xs:List V) (v:Value) (us:List Value) (Q:VK),Inv X pins σ H s->ZG x v->Zu xs us->r x xs H Q->
  wpAny (model X.prog X.w) X.A (call (.builtin id) (v :: us)) (EP X pins σ Q) X.xe s
section
variable {X:Cx} {a b:Expr} {ta tb:TE} {pos:Pos}
theorem IxR.or {r r':R2} (h:IxR X r) (h':IxR X r'):IxR X (fun x y H Q=>r x y H Q\/r' x y H Q):=by
 intro value slice pins s σ H x y v u Q I rx ry q hs
 rcases q with q | q
 ·exact h value slice pins s σ H x y v u Q I rx ry q hs
 ·exact h' value slice pins s σ H x y v u Q I rx ry q hs
theorem ZkK {r:R2} (hr:IxR X r) (ha:PE X a ta) (hb:PE X b tb) (hs:ZdU b):PE X (.Subscript a b pos) (tOp r ta tb):=by
 intro pins s σ H Q I h
 exact Subscript_ (ZkC ha hb I h fun v u s2 x y H2 I2 rx ry q=>hr a b pins s2 σ H2 x y v u Q I2 rx ry q (hs _ _))
noncomputable def Zmr (K:PySem.W.Frag):R2:=fun x y H Q=> ∃ p xs i v,x= .ref p/\y= .int i/\SqL K H p xs/\atI xs i=some v/\Q v H
noncomputable def Zms (K:PySem.W.Frag):R2:=fun x y H Q=> ∃ p xs i v,x= .ref p/\y= .int i/\SqT K H p xs/\atI xs i=some v/\Q v H
theorem ZgA:IxR X (Zmr X.K):=by
 intro value slice pins s σ H x y v u Q I rx ry h hs
 obtain ⟨p,xs,i,z,rfl,rfl,hq,he,q⟩:=h
 cases rx
 obtain ⟨t,rfl⟩:=ry
 obtain ⟨its,r,pl,hz⟩:=I.list hq
 obtain ⟨j,h1,h2,h3,h4,h5⟩:=ZdT he
 obtain ⟨w,ew,rw'⟩:=r.get h2
 have hl:=r.length
 have hn:=ZdP
 have fin:EP X pins σ Q w s:=⟨z,H,I,rw',q⟩
 by_cases h0:0<=i
 ·have hj:i.toNat=j:=by
   rw[seqIndex_of h0 h5] at h1
   exact Option.some.inj h1
  exact item_listR pl.isList h0 (by omega) (by rw[hj];simpa using ew) fin hs
 ·have hj:(i + (its.toArray.size:Int)).toNat=j:=by
   rw[seqIndex_neg (by omega) h4] at h1
   rw[List.size_toArray,<- hl]
   exact Option.some.inj h1
  exact subscriptTail_builtinR (x:=w) pl.isList.typeIs slot_list_getitem.lookup
   (wpAny_getItem_list_neg (Q:=fun r s'=>r=w/\EP X pins σ Q r s') pl.isList (by omega) (by rw[List.size_toArray]<;>omega) (by omega) (by rw[hj];simpa using ew) ⟨rfl,fin⟩) hs
theorem Zic:IxR X (Zms X.K):=by
 intro value slice pins s σ H x y v u Q I rx ry h hs
 obtain ⟨p,xs,i,z,rfl,rfl,hq,he,q⟩:=h
 cases rx
 obtain ⟨t,rfl⟩:=ry
 obtain ⟨its,r,pl,hz⟩:=I.tuple hq
 obtain ⟨j,h1,h2,h3,h4,h5⟩:=ZdT he
 obtain ⟨w,ew,rw'⟩:=r.get h2
 have hl:=r.length
 have hn:=ZdP
 have fin:EP X pins σ Q w s:=⟨z,H,I,rw',q⟩
 exact subscriptTail_builtinR (x:=w) pl.typeIs slot_tuple_getitem.lookup
  (getItem_tuple (j:=j) (Q:=fun r s'=>r=w/\EP X pins σ Q r s') pl (by omega) (by omega) (by rw[List.size_toArray,<- hl];exact h1) (by simpa using ew) ⟨rfl,fin⟩) hs
theorem ZbN (lo hi:Option Int) (n:Nat):(sliceBounds lo hi none n).1=((HT.sIx n 0 lo:Nat):Int)/\(sliceBounds lo hi none n).2.1=((HT.sIx n n hi:Nat):Int)/\(sliceBounds lo hi none n).2.2=1:=by
 refine ⟨?_,?_,rfl⟩
 ·cases lo with
  |none=>simp[sliceBounds,HT.sIx]
  |some i=>
   simp only[sliceBounds,HT.sIx,Option.getD_none,show (1:Int) > 0 by decide,if_true]
   by_cases h:i < 0
   ·simp only[h,if_true]<;>omega
   ·simp only[h,if_false]<;>omega
 ·cases hi with
  |none=>simp[sliceBounds,HT.sIx]
  |some i=>
   simp only[sliceBounds,HT.sIx,Option.getD_none,show (1:Int) > 0 by decide,if_true]
   by_cases h:i < 0
   ·simp only[h,if_true]<;>omega
   ·simp only[h,if_false]<;>omega
theorem Zbr (its:List Value) (lo hi:Option Int):slicePick its.toArray lo hi none=((its.drop (HT.sIx its.length 0 lo)).take (HT.sIx its.length its.length hi - HT.sIx its.length 0 lo)).toArray:=by
 obtain ⟨h1,h2,h3⟩:=ZbN lo hi its.toArray.size
 unfold slicePick
 rw[h1,h2,h3]
 simp only[sliceRange_one,pick_run,List.size_toArray]<;>rfl
noncomputable def ZnG (K:PySem.W.Frag):V->Option Int->Option Int->Hp->VK->Prop:=fun x lo hi H Q=> ∃ a xs,x= .ref a/\SqL K H a xs/\ ∀ p,H p=none->Q (.ref p) (upd H p (.lst (ZfN xs lo hi)))
theorem ZgB:SlR X (ZnG X.K):=by
 intro pins s σ H x v vl vu lo hi sl Q I rx hs pl pu h
 obtain ⟨a,xs,rfl,hx,q⟩:=h
 cases rx
 obtain ⟨its,r,ht,hz⟩:=I.list hx
 have hlen:=r.length
 refine ⟨"list",_,slot_list_getitem.lookup,ht.isList.typeIs,?_⟩
 refine wpAny_getItem_list_slice ht.isList hs pl pu .none (by simp) ?_ (by rw[List.size_toArray]<;>omega)
 rw[Zbr,<- hlen]
 refine ⟨.ref s.heap.objs.size,_,I.laid (t':=s.toks) (o:= .lst (ZfN xs lo hi)) (fun b ob q=>Heap.get?_push_of_some _ q) (Nat.le_refl _) ?_,rfl,q _ (I.hok.fresh (Nat.le_refl _))⟩
 exact ⟨Nat.le_trans (ZaR xs lo hi) hz,_,0,(r.drop (HT.sIx xs.length 0 lo)).take (HT.sIx xs.length xs.length hi - HT.sIx xs.length 0 lo),Heap.get?_push_size _ rfl⟩
theorem Zk:Za9 X (.builtin "len") (fun xs H Q=> ∃ p ys,xs=[.ref p]/\(SqL X.K H p ys\/SqT X.K H p ys)/\Q (.int ys.length) H):=by
 intro pins s σ H xs us Q I r h
 obtain ⟨p,ys,rfl,hq,q⟩:=h
 obtain ⟨u,rfl,rx⟩:=Zdb r
 cases rx
 have hn:=ZdP
 rcases hq with hq | hq
 ·obtain ⟨its,r',pl,hz⟩:=I.list hq
  have hlen:=r'.length
  exact Calls.call_len_list pl.isList (by simp only[List.size_toArray]<;>omega) ⟨.int ys.length,H,I.tok _,⟨s.toks + 1,by rw[List.size_toArray,hlen]⟩,q⟩
 ·obtain ⟨its,r',pl,hz⟩:=I.tuple hq
  have hlen:=r'.length
  exact len_tuple pl (by simp only[List.size_toArray]<;>omega) ⟨.int ys.length,H,I.tok _,⟨s.toks + 1,by rw[List.size_toArray,hlen]⟩,q⟩
theorem ZbO:Za9 X (.type "list") (fun xs H Q=> ∃ p ys,xs=[.ref p]/\(SqL X.K H p ys\/SqT X.K H p ys)/\ ∀ l,H l=none->Q (.ref l) (upd H l (.lst ys))):=by
 intro pins s σ H xs us Q I r h
 obtain ⟨p,ys,rfl,hq,q⟩:=h
 obtain ⟨u,rfl,rx⟩:=Zdb r
 cases rx
 have fin: ∀ (its:List Value),Zu ys its->ys.length<=sizeLine-> ∀ (h':Heap) (c':Nat),(∀ b o',s.heap.get? b=some o'->h'.get? b=some o')->
   h'.get? s.heap.objs.size=some { cls:= .type "list",dict:=none,data:= .seq its.toArray c',slots:= #[] }->EP X pins σ Q (.ref s.heap.objs.size) { s with heap:=h' }:=fun its r' hz h' c' kp e=>
  ⟨.ref s.heap.objs.size,_,I.laid (t':=s.toks) kp (Nat.le_refl _) (show Zav X.prog X.w _ h' _ (.lst ys) from ⟨hz,its,c',r',e⟩),rfl,q _ (I.hok.fresh (Nat.le_refl _))⟩
 rcases hq with hq | hq
 ·obtain ⟨its,r',pl,hz⟩:=I.list hq
  have hlen:=r'.length
  obtain ⟨o,ho,hc,n,hd⟩:=pl.isList
  exact call_list_seq p (.inl rfl) ho hc hd (fun h' c' kp e=>fin its r' hz h' c' kp e) (by simp only[List.size_toArray]<;>omega)
 ·obtain ⟨its,r',pl,hz⟩:=I.tuple hq
  have hlen:=r'.length
  obtain ⟨o,ho,hc,n,hd⟩:=pl
  exact call_list_seq p (.inr rfl) ho hc hd (fun h' c' kp e=>fin its r' hz h' c' kp e) (by simp only[List.size_toArray]<;>omega)
noncomputable def tyV (K:PySem.W.Frag) (T:String) (x:V) (H:Hp):Prop:=match x with
 | .str _=>T="str"
 | .int _=>T="int"
 | .ref p=>(T="list"/\ ∃ xs,SqL K H p xs)\/(T="tuple"/\ ∃ o,K.lookup p=some o/\o.cls= .type "tuple"/\o.dict=none)\/
   (T="dict"/\((∃ kvs,H p=some (.dK kvs))\/ ∃ kvs,H p=some (.dT kvs)))\/(T="set"/\ ∃ S n,H p=some (.set S n))
 |_=>False
theorem Zid {pins:List (Addr × Obj)} {σ:St} {H:Hp} {s:Shared} {T:String} {x:V} {v:Value} (I:Inv X pins σ H s) (r:ZG x v) (ty:tyV X.K T x H):
  s.TypeIs v T/\ ∀ a,v= .ref a-> ∃ ob,s.heap.get? a=some ob/\ob.dict=none:=by
 cases x with
 |str z=>
  obtain ⟨t,rfl⟩:=r
  cases (show T="str" from ty)
  exact ⟨typeIs_str s z t,fun _ e=>nomatch e⟩
 |int i=>
  obtain ⟨t,rfl⟩:=r
  cases (show T="int" from ty)
  exact ⟨typeIs_int s i t,fun _ e=>nomatch e⟩
 |ref p=>
  cases r
  rcases ty with ⟨rfl,xs,hq⟩ | ⟨rfl,o,hk,hc,hd⟩ | ⟨rfl,hk⟩ | ⟨rfl,S,n,hk⟩
  ·obtain ⟨its,_,pl,_⟩:=I.list hq
   refine ⟨pl.isList.typeIs,fun a e=> ?_⟩
   cases e
   obtain ⟨o,n,e,c,hd,_⟩:=pl
   exact ⟨o,e,hd⟩
  ·refine ⟨⟨o,I.kIn p o hk,hc⟩,fun a e=> ?_⟩
   cases e
   exact ⟨o,I.kIn _ o hk,hd⟩
  ·have z: ∃ o,s.heap.get? p=some o/\o.ExactDict:=by
    rcases hk with ⟨kvs,hk⟩ | ⟨kvs,hk⟩
    ·obtain ⟨_,_,_,_,o,_,_,e,ex,_⟩:=I.hok p _ hk
     exact ⟨o,e,ex⟩
    ·obtain ⟨_,_,_,_,o,_,_,e,ex,_⟩:=I.hok p _ hk
     exact ⟨o,e,ex⟩
   obtain ⟨o,e,ex⟩:=z
   refine ⟨⟨o,e,ex.1⟩,fun a e2=> ?_⟩
   cases e2
   exact ⟨o,e,ex.2.1⟩
  ·obtain ⟨o,_,_,_,e,ex,_⟩:=I.hok p _ hk
   refine ⟨⟨o,e,ex.1⟩,fun a e2=> ?_⟩
   cases e2
   exact ⟨o,e,ex.2.1⟩
 |_=>exact False.elim ty
noncomputable def tBM (K:PySem.W.Frag) (T:String) (r:V->List V->Hp->VK->Prop) (to:TE) (t:TA):TE:=fun σ H Q=>to σ H fun x H1=>tyV K T x H1/\t σ H1 fun xs H2=>r x xs H2 Q
variable {o e:Expr} {es:List Expr} {to:TE} {t:TA} {name:Str} {apos cpos:Pos} {T id:String} {r:V->List V->Hp->VK->Prop}
theorem ZkL (pa:PlainAttrs T) (slot:Slot T name id) (hty:typeOf (.builtin id)=pure (.type "method_descriptor")) (hm:MtR X id r) (ho:PE X o to) (ha:PA X (e :: es) t)
  (hbase:attributeBase o name X.env (eval o X.env)=eval o X.env:=by rfl)
  (hfew:((backTo cpos (starEach (e :: es) X.env)).all (fun x=> !x.1) && (backToKw cpos (keywordEach [] X.env)).all (fun x=>x.1.isSome)
   && decide ((e :: es).length + ([]:List Keyword).length + (if ([]:List Keyword).isEmpty then 0 else 1) < 30))=true:=by rfl)
  (hline:(apos.endLine == cpos.line)=true:=by rfl) (hs:starEach (e :: es) X.env=(false,eval e X.env) :: starEach es X.env:=by rfl) (hplain:(backTo cpos (starEach es X.env)).any (·.1)=false:=by rfl):
  PE X (.Call (.Attribute o name apos) (e :: es) [] cpos) (tBM X.K T r to t):=by
 intro pins s σ H Q I h
 refine wpAny_Call_method_late hbase hfew hline rfl (thn (ho pins s σ H _ I h) fun v s1 ⟨x,H1,I1,r1,ty,q1⟩=> ?_)
 obtain ⟨h1,h2⟩:=Zid I1 r1 ty
 refine ⟨T,id,pa,slot,hty,h1,h2,?_⟩
 have hA:=ha cpos pins s1 σ H1 _ I1 q1
 rw[hs] at hA ⊢
 refine Calls.callWith_builtin (by show (false || (backTo cpos (starEach es X.env)).any (·.1))=false;rw[hplain]<;>rfl) (Calls.evalArgs_plain ?_)
 exact thn hA fun us s2 ⟨vs,H2,I2,r2,q2⟩=>hm pins s2 σ H2 x vs v us Q I2 r1 r2 q2
end
end L2
namespace L2
open PySem PySem.Spec PyProof.Rows
noncomputable def MtM (X:Cx) (id:String) (r:V->List V->Hp->VK->Prop):Prop:=
 ∀ (pins:List (Addr × Obj)) (s:Shared) (σ:St) (H:Hp) (x:V) (xs:List V) (v:Value) (us:List Value) (Q:VK),Inv X pins σ H s->ZG x v->Zu xs us->r x xs H Q->
  wpAny (model X.prog X.w) X.A (call (.builtin id) (v :: us)) (EP X pins σ Q) X.xe s
theorem Zu.one: ∀ {x:V} {us:List Value},Zu [x] us-> ∃ u,us=[u]/\ZG x u
 |_,_,.cons r .nil=>⟨_,rfl,r⟩
theorem Zu.eraseIdx: ∀ {xs:List V} {us:List Value} (i:Nat),Zu xs us->Zu (xs.eraseIdx i) (us.eraseIdx i)
 |_,_,_,.nil=> .nil
 |_,_,0,.cons _ t=>t
 |_,_,i + 1,.cons r t=> .cons r (Zu.eraseIdx i t)
theorem Zu.reverse {xs:List V} {us:List Value} (h:Zu xs us):Zu xs.reverse us.reverse:=by
 induction h with
 |nil=>exact .nil
 |cons r t ih=>rw[List.reverse_cons,List.reverse_cons];exact Zu.append ih (.cons r .nil)
theorem ZbP {α:Type}: ∀ (l:List α) (i:Nat),(l.eraseIdx i).length<=l.length
 | [],_=>Nat.le_refl _
 |_ :: _,0=>Nat.le_succ _
 |_ :: r,i + 1=>Nat.succ_le_succ (ZbP r i)
section
variable {X:Cx} {pins:List (Addr × Obj)} {σ:St} {H:Hp} {s:Shared} {l b:Addr} {xs ys zs:List V}
theorem Inv.lset {its its':List Value} {n:Nat} {f:Array Value->Array Value} {t':Nat} (I:Inv X pins σ H s) (hH:H l=some (.lst xs))
  (e:s.heap.get? l=some { cls:= .type "list",data:= .seq its.toArray n }) (hf:f its.toArray=its'.toArray) (hv:Zu ys its') (hz:ys.length<=sizeLine):
  Inv X pins σ (upd H l (.lst ys)) { s with heap:=s.heap.update l (Obj.mapSeq f),toks:=t' }:=by
 have q:=PySem.IsL.update e f
 rw[hf] at q
 refine I.write (x:=l) (e:=l) (by rw[hH];exact trivial) (.inl rfl) (fun b' u hb hu=>(Heap.get?_update_other s.heap (Obj.mapSeq f) (Ne.symm hb)).trans hu) ⟨_,q⟩ ?_
 exact ⟨hz,its',_,hv,q⟩
theorem Inv.lnew {its:List Value} {t':Nat} (I:Inv X pins σ H s) (hv:Zu ys its) (hz:ys.length<=sizeLine):
  Inv X pins σ (upd H s.heap.objs.size (.lst ys)) { s with heap:=s.heap.push { cls:= .type "list",data:= .seq its.toArray },toks:=t' }:=
 I.laid (fun _ _ q=>Heap.get?_push_of_some _ q) (Nat.le_refl _) ⟨hz,its,0,hv,Heap.get?_push_size _ rfl⟩
theorem Inv.fresh (I:Inv X pins σ H s):H s.heap.objs.size=none:=I.hok.fresh (Nat.le_refl _)
theorem Inv.lstM (I:Inv X pins σ H s) (hH:H l=some (.lst xs)):xs.length<=sizeLine/\ ∃ (its:List Value) (n:Nat),Zu xs its/\xs.length=its.length/\s.heap.get? l=some { cls:= .type "list",data:= .seq its.toArray n }:=by
 obtain ⟨z,its,n,r,e⟩:=I.hok l _ hH
 exact ⟨z,its,n,r,r.length,e⟩
theorem Ze0 {n:Nat} (h:n<=sizeLine):Builtin.List.listTooLong n=false:=by
 unfold Builtin.List.listTooLong
 exact decide_eq_false (by omega)
end
section
variable {X:Cx}
noncomputable def rAppend:V->List V->Hp->VK->Prop:=fun x vs H Q=> ∃ l xs y,x= .ref l/\vs=[y]/\H l=some (.lst xs)/\xs.length < sizeLine/\Q .non (upd H l (.lst (xs ++ [y])))
theorem ZbQ:MtM X "list.append" rAppend:=by
 intro pins s σ H x vs v us Q I rx rv h
 obtain ⟨l,xs,y,rfl,rfl,hH,hz,q⟩:=h
 cases rx
 obtain ⟨u,rfl,ru⟩:=rv.one
 obtain ⟨z,its,n,r,hl,e⟩:=I.lstM hH
 refine call_meets F.slot_list_append ⟨_,e,rfl⟩ F.entry_list_append (F.args_list_append_2 _ _) (PySem.list_append l its.toArray n u (by rw[List.size_toArray];omega)) ⟨e,?_⟩
 refine ⟨.non,_,I.lset (its':=its ++ [u]) hH e (by simp) (r.append (.cons ru .nil)) ?_,rfl,q⟩
 rw[List.length_append,List.length_singleton]
 omega
noncomputable def rExtend:V->List V->Hp->VK->Prop:=fun x vs H Q=> ∃ l b xs zs,x= .ref l/\vs=[.ref b]/\H l=some (.lst xs)/\H b=some (.lst zs)/\xs.length + zs.length<=sizeLine/\Q .non (upd H l (.lst (xs ++ zs)))
theorem Zie:MtM X "list.extend" rExtend:=by
 intro pins s σ H x vs v us Q I rx rv h
 obtain ⟨l,b,xs,zs,rfl,rfl,hH,hB,hz,q⟩:=h
 cases rx
 obtain ⟨u,rfl,ru⟩:=rv.one
 cases ru
 obtain ⟨z,its,n,r,hl,e⟩:=I.lstM hH
 obtain ⟨z2,its2,n2,r2,hl2,e2⟩:=I.lstM hB
 have hsz:its.toArray.size + its2.toArray.size<=sizeLine:=by rw[List.size_toArray,List.size_toArray];omega
 have hlong: ¬ (!its.toArray.isEmpty && Builtin.List.listTooLong (its.toArray.size + its2.toArray.size))=true:=by
  rw[Ze0 hsz,Bool.and_false]
  exact Bool.false_ne_true
 refine call_meets F.slot_list_extend ⟨_,e,rfl⟩ F.entry_list_extend (F.args_list_extend_2 _ _)
  (AutoSeq1.list_extend_list_list_0 l its.toArray n b its2.toArray n2 hlong (by rw[List.size_toArray];omega) (by omega)) ⟨e,e2,?_⟩
 refine ⟨.non,_,I.lset (its':=its ++ its2) hH e (by simp) (r.append r2) ?_,rfl,q⟩
 rw[List.length_append]
 omega
noncomputable def rPopAt:V->List V->Hp->VK->Prop:=fun x vs H Q=> ∃ l xs i k y,x= .ref l/\vs=[.int i]/\H l=some (.lst xs)/\ -(2 ^ 63)<=i/\i < 2 ^ 63/\seqIndex? i xs.length=some k/\xs[k]?=some y/\Q y (upd H l (.lst (xs.eraseIdx k)))
theorem Ze1:MtM X "list.pop" rPopAt:=by
 intro pins s σ H x vs v us Q I rx rv h
 obtain ⟨l,xs,i,k,y,rfl,rfl,hH,h1,h2,hk,hy,q⟩:=h
 cases rx
 obtain ⟨u,rfl,ru⟩:=rv.one
 obtain ⟨t,rfl⟩:=ru
 obtain ⟨z,its,n,r,hl,e⟩:=I.lstM hH
 obtain ⟨w,hw,rw'⟩:=r.get hy
 refine call_meets F.slot_list_pop ⟨_,e,rfl⟩ F.entry_list_pop (F.args_list_pop_2 _ _)
  (MeetsSeq.list_pop_at l its.toArray n i t k w (fitsIndex_both h1 h2) (by rw[List.size_toArray,<- hl];exact hk) (by rw[<- Array.getElem?_toList];exact hw) (by rw[List.size_toArray];omega)) ⟨e,?_⟩
 refine ⟨y,_,I.lset (its':=its.eraseIdx k) hH e ?_ (r.eraseIdx k) ?_,rw',q⟩
 ·show its.toArray.eraseIdxIfInBounds k=(its.eraseIdx k).toArray
  rw[List.eraseIdxIfInBounds_toArray]
 ·have:=ZbP xs k
  omega
noncomputable def rCat:R2:=fun x y H Q=> ∃ l b xs zs,x= .ref l/\y= .ref b/\H l=some (.lst xs)/\H b=some (.lst zs)/\xs.length + zs.length<=sizeLine/\ ∀ p,H p=none->Q (.ref p) (upd H p (.lst (xs ++ zs)))
theorem Zif:OpR X (binaryOp .Add) rCat:=by
 intro pins s σ H x y v u Q I rx ry h
 obtain ⟨l,b,xs,zs,rfl,rfl,hH,hB,hz,q⟩:=h
 cases rx
 cases ry
 obtain ⟨z,its,n,r,hl,e⟩:=I.lstM hH
 obtain ⟨z2,its2,n2,r2,hl2,e2⟩:=I.lstM hB
 refine PySem.P.add_list e e2 ?_ (by rw[List.size_toArray,List.size_toArray];omega)
 have ea:its.toArray ++ its2.toArray=(its ++ its2).toArray:=by simp
 rw[ea]
 exact ⟨.ref _,_,I.lnew (t':=s.toks) (r.append r2) (by rw[List.length_append];omega),rfl,q _ I.fresh⟩
end
section
variable {prog:Program} {w:World} {A:Around} {E:Value->Shared->Prop} {s:Shared}
end
section
variable {X:Cx}
end
end L2
namespace Att
open PySem PySem.W PySem.Calls PyProof.Rows
theorem ZaS {P:Params} {h:Heap}: ∀ (ns:List Int) (vs:List Value),WellAll P h vs (ns.map WData.int)->IntsAre vs ns:=by
 intro ns
 induction ns with
 |nil=>
  intro vs w
  rw[List.map_nil] at w
  cases w
  exact .nil
 |cons n ns ih=>
  intro vs w
  rw[List.map_cons] at w
  cases w with
  |cons a b=>
   cases a
   exact .cons _ _ (ih _ b)
theorem ZdV {l:OpenLaw} {n:Nat} (hn:l.most=some n) {P:Params} {h:Heap} {args:List WData} {vals:List Value}
  (hpre:l.row.toRowW.claim.pre args=true) (hwl:WellAll P h vals args):
  ∃ a vs ns,vals=[Value.ref a]/\args=[WData.list (ns.map WData.int)]/\h.get? a=some { cls:= .type "list",data:= .seq vs.toArray }/\IntsAre vs ns/\ns.length<=n:=by
 have hsh:WShape.hasAll [] args [.list .int]=true:=(pre_splitW hpre).1
 have hc:l.pre.holds [] { args:=args }=true:=(pre_splitW hpre).2
 obtain ⟨d,r,rfl,h1,h2⟩:=hasAllW_cons hsh
 obtain rfl:=hasAllW_nil h2
 obtain ⟨xs,rfl,h3⟩:=hasW_list h1
 obtain ⟨ns,rfl⟩:=items_int h3
 have hlen:ns.length<=n:=by
  unfold OpenLaw.pre at hc
  have h4:(WTm.not (.lt (.lit (.int (n:Int))) (.len (.arg 0)))).holds [] { args:=[.list (ns.map .int)] }=true:=by
   have h4:=(holds_andW hc).1
   rw[hn] at h4
   exact h4
  have h5:=condW_of h4 (w_not (w_lt w_lit (w_len_list (w_arg rfl))))
  rw[List.length_map] at h5
  refine Nat.le_of_not_lt fun q=> ?_
  have q':(n:Int) < ((ns.length:Nat):Int):=by omega
  first
   | (rw[decide_eq_true q'] at h5;exact absurd h5 (by decide))
   | (simp at h5;omega)
 cases hwl with
 |cons w1 w2=>
  cases w2
  cases w1 with
  |list ho hall=>exact ⟨_,_,ns,rfl,rfl,ho,ZaS ns _ hall,hlen⟩
theorem ZdW (l:OpenLaw) (args:List WData):l.row.toRowW.claim.post args (.bool true) args=true:=
 postW_of (r:=l.row.toRowW) (X:=(true == true))
  (show WShape.has [] (.bool true) .bool=true by first | rfl | decide | simp[WShape.has,WShape.arms,WShape.armsAll])
  (show (WTm.eq .res (.lit (.bool true))).value [] { args:=args,res:=some (.bool true),after:=args }=some (.bool (true == true)) from w_eq_bool (w_res rfl) w_lit) rfl
theorem Zcq {l:OpenLaw} {n:Nat} {q:Program} {loose:List Str} {XP:(Str->Option Value)->Heap->Prop} {YP:World->Heap->Prop} {d:DefRec}
  (hn:l.most=some n) (hdf:d.params.defaults=[])
  (call: ∀ (w:World) (s₀ s₁:Shared) (mg mb:Str->Option Value) (fa:Addr) (o:Obj) (pm cd doc:Value) (a:Addr) (vs:List Value) (ns:List Int),
   Ground q loose [] XP w s₀ mg mb s₁.heap->YP w s₁.heap->
   s₁.heap.get? fa=some o->o.data= .func (docDef d.name d.params d.body d.scope pm cd doc)->s₁.heap.CodeRec cd d.name->mg d.name=some (.ref fa)->
   s₁.heap.get? a=some { cls:= .type "list",data:= .seq vs.toArray }->IntsAre vs ns->ns.length<=n->s₁.gens= #[]->
   codeAny (model l.prog w) callerA (.call (.ref fa) ⟨[.ref a],[]⟩) (fun r s'=>r= .ok (.ret (.bool true))/\OldK s₁.heap s'.heap/\s'.os=s₁.os/\AllBare s'.gens) s₁):
  WalkO q loose XP YP l.row.toRowW d [] (fun f vs=>PySem.call f vs):=by
 intro w s₀ s₁ mg mb G Y fa o pm cd doc dV kV ho hd hcd hD hmg hg args vals as hpre hlay hrd hwl hlo
 obtain rfl:dV= .none:=Dflts.none hD hdf
 obtain rfl:kV= .none:=Dflts.noKw hD
 obtain ⟨a,vs,ns,rfl,rfl,hobj,hints,hlen⟩:=ZdV hn hpre hwl
 refine enter_call (codeAny_mono (call w s₀ s₁ mg mb fa o pm cd doc a vs ns G Y ho (fd_plain hd) hcd hmg hobj hints hlen hg) fun r s' hq=> ?_)
 obtain ⟨rfl,h2,h3,h4⟩:=hq
 exact ⟨.inl ⟨.bool true,.bool true,[],rfl,fun _=>rfl,.bool true,ZdW l _,fun _=>⟨List.Pairwise.nil,fun _ hm=>(nomatch hm)⟩⟩,h2,h3,h4⟩
section
variable {prog:Program} {w:World} {A:Around} {E:Value->Shared->Prop} {s:Shared} {K:Frag}
end
end Att
namespace L2
open PySem PySem.Spec PyProof.Rows
theorem ZbR: ∀ {vs:List Value} {ns:List Int},IntsAre vs ns->Zu (ns.map V.int) vs
 |_,_,.nil=> .nil
 |_,_,.cons n t h=> .cons ⟨t,rfl⟩ (ZbR h)
noncomputable def Zkp (H:Hp):Prop:= ∀ b,H b=none\/ ∃ o xs,H b=some (.frz o (.lst xs))
theorem Ze2 {P:Program} {w:World} {K:PySem.W.Frag} {mg mb:Str->Option Value} {CX:CXT} {k:Nat} {fa a:Addr} {fd:FuncData} {x:Str} {sp:Sp} {s₁:Shared} {vs:List Value} {ns:List Int}
  (KX:K.In s₁.heap) (hns:s₁.heap.Ns mainGlobals mg) (hb:s₁.heap.Ns builtinsNs mb) (hbb: ∀ x:Str,x≠"__name__"->mb x=bootBuiltins x) (hlim:s₁.heap.NoLimit) (hg:s₁.gens= #[])
  (ha:s₁.heap.get? a=some { cls:= .type "list",data:= .seq vs.toArray }) (hi:IntsAre vs ns) (hl:ns.length<=sizeLine) (hr:Room k callerA)
  (F: ∀ base:Heap,K.In base->base.Ns mainGlobals mg->FnOk P w K mg base CX k fa fd [x] sp) (hbind: ∀ (s:Shared) (u:Value),BindsTo s fd ⟨[u],[]⟩ [(x,u)])
  (hsp: ∀ H:Hp,Zkp H->SqL K H a (ns.map V.int)->sp [.ref a] H (fun v _=>v= .bl true) fun _ _ _=>False)
  (hCX: ∀ H e s',CX [] H s₁ (fun _ _ _=>False) e s'->False):
  codeAny (model P w) callerA (.call (.ref fa) ⟨[.ref a],[]⟩) (fun r s'=>r= .ok (.ret (.bool true))/\OldK s₁.heap s'.heap/\s'.os=s₁.os/\AllBare s'.gens) s₁:=by
 have rv:=ZbR hi
 have lenV:=hi.length
 have core: ∀ H:Hp,Zkp H->SqL K H a (ns.map V.int)->HOk P w H s₁.heap->(∀ b,H b≠none->b=a)->(H a≠none->K.lookup a=none)->
   codeAny (model P w) callerA (.call (.ref fa) ⟨[.ref a],[]⟩) (fun r s'=>r= .ok (.ret (.bool true))/\OldK s₁.heap s'.heap/\s'.os=s₁.os/\AllBare s'.gens) s₁:=by
  intro H hO hS hok hA hK
  have base_of: ∀ {b:Addr} {o:Obj},s₁.heap.get? b=some o->H b=none->(ZeN s₁.heap H).get? b=some o:=fun e n=>ZcH e n
  have noA: ∀ {b:Addr} {o:Obj} {es:Array DictEntry} {ep:Nat},s₁.heap.get? b=some o->o.data= .dict es ep->H b=none:=fun {b o es ep} e d=>by
   cases q:H b with
   |none=>rfl
   |some u=>
    have e':b=a:=hA b (by rw[q];simp)
    subst e'
    rw[ha] at e;cases e
    have d':Data.seq vs.toArray _=Data.dict es ep:=d
    cases d'
  have nsK: ∀ {b:Addr} {m:Str->Option Value},s₁.heap.Ns b m->(ZeN s₁.heap H).Ns b m:=fun {b m} ⟨o,es,ep,e,d,r⟩=>⟨o,es,ep,base_of e (noA e d),d,r⟩
  have hKb:K.In (ZeN s₁.heap H):=fun b o e=>base_of (KX b o e) (by
   cases q:H b with
   |none=>rfl
   |some u=>
    have e':b=a:=hA b (by rw[q];simp)
    subst e'
    rw[hK (by rw[q];simp)] at e;cases e)
  have hM:Mod K mg (ZeN s₁.heap H):=⟨hKb,nsK hns,⟨mb,nsK hb,hbb⟩,let ⟨mc,h1,h2⟩:=hlim;⟨mc,nsK h1,h2⟩⟩
  have e0:Env0 P w K mg (ZeN s₁.heap H) callerA [] s₁ H:=⟨rfl,hM,fun b o e=>ZdJ e,Nat.le_of_eq (ZdI _ _),trivial,fun b hb=>absurd (show b∈([]:List Addr) from hb) (by simp),hok,.of_eq hg,.inl rfl⟩
  refine codeAny_mono ((F _ hKb (nsK hns)).run callerA [] s₁ H ⟨[.ref a],[]⟩ [.ref a] [.ref a] _ _ hr e0 (hbind s₁ (.ref a)) (.cons rfl .nil) (hsp H hO hS)) fun r s' h=> ?_
  cases r with
  |error e=>exact (hCX H e s' h).elim
  |ok fl=>
   cases fl with
   |next=>exact False.elim h
   |brk=>exact False.elim h
   |cont=>exact False.elim h
   |ret u=>
    obtain ⟨v,H',os,bare,un,hok',r',q⟩:=h
    have q':v= .bl true:=q
    subst q'
    obtain rfl:u=Value.bool true:=r'
    refine ⟨rfl,OldK.of_keep fun b o e=> ?_,os,bare⟩
    cases q:H b with
    |none=>exact un.keep b o e q (by intro z;exact absurd (show b∈([]:List Addr) from z) (by simp)) (by simp)
    |some u=>
     rcases hO b with z | ⟨ob,xs,z⟩
     ·rw[q] at z;cases z
     ·have z2:=un.frzs b ob _ z
      obtain ⟨e1,_⟩:=hok b _ z
      obtain ⟨e2,_⟩:=hok' b _ z2
      rw[e] at e1;cases e1
      exact e2
 cases hk:K.lookup a with
 |some o=>
  have e:=KX a o hk
  rw[ha] at e
  cases e
  refine core (fun _=>none) (fun _=> .inl rfl) (.inr ⟨_,vs.toArray,_,hk,rfl,rfl,rfl,by rw[List.size_toArray,lenV];exact hl,by simpa using rv⟩) (fun b u z=>by have z':(none:Option HO)=some u:=z;cases z') (fun b z=>absurd rfl z) fun z=>absurd rfl z
 |none=>
  refine core (fun b=>if b=a then some (.frz { cls:= .type "list",data:= .seq vs.toArray } (.lst (ns.map V.int))) else none) (fun b=> ?_) (.inl (.inr ⟨{ cls:= .type "list",data:= .seq vs.toArray },if_pos rfl⟩)) (fun b u z=> ?_) (fun b z=> ?_) fun _=>hk
  ·by_cases hb:b=a
   ·exact .inr ⟨_,_,if_pos hb⟩
   ·exact .inl (if_neg hb)
  ·by_cases hb:b=a
   ·have z':=(if_pos hb).symm.trans z
    cases z'
    subst hb
    exact ⟨ha,by rw[List.length_map];exact hl,vs,_,rv,ha⟩
   ·have z':=(if_neg hb).symm.trans z
    cases z'
  ·by_cases hb:b=a
   ·exact hb
   ·exact absurd (if_neg hb) z
end L2
namespace L2
open PySem PySem.Spec PyProof.Rows
theorem ZgC {l:PySem.W.OpenLaw} {n k:Nat} {q:Program} {loose:List Str} {XP:(Str->Option Value)->Heap->Prop} {YP:World->Heap->Prop} {d:DefRec} {K:Params->PySem.W.Frag} {CX:World->CXT} {sp:World->Sp} {x:Str}
  (hn:l.most=some n) (hn2:n<=sizeLine) (hdf:d.params.defaults=[]) (hr:Room k callerA)
  (hY: ∀ (w:World) (h:Heap),YP w h->(K w.params).In h)
  (F: ∀ (w:World) (mg:Str->Option Value) (fa:Addr) (h:Heap),(K w.params).In h->h.Ns mainGlobals mg->mg d.name=some (.ref fa)->
   ∃ fd:FuncData,(∀ (s:Shared) (u:Value),BindsTo s fd ⟨[u],[]⟩ [(x,u)])/\
    ∀ base:Heap,(K w.params).In base->base.Ns mainGlobals mg->FnOk l.prog w (K w.params) mg base (CX w) k fa fd [x] (sp w))
  (hsp: ∀ (w:World) (H:Hp) (a:Addr) (ns:List Int),ns.length<=n->Zkp H->SqL (K w.params) H a (ns.map V.int)->sp w [.ref a] H (fun v _=>v= .bl true) fun _ _ _=>False)
  (hCX: ∀ (w:World) (H:Hp) (s:Shared) (e:Value) (s':Shared),CX w [] H s (fun _ _ _=>False) e s'->False):
  PySem.W.WalkO q loose XP YP l.row.toRowW d [] (fun f vs=>PySem.call f vs):=by
 refine Att.Zcq hn hdf fun w s₀ s₁ mg mb fa o pm cd doc a vs ns G Y ho hd hcd hmg hobj hints hlen hg=> ?_
 have KX:=hY w _ Y
 obtain ⟨fd,hb,hF⟩:=F w mg fa _ KX G.T.g hmg
 exact Ze2 KX G.T.g G.T.b G.T.builtins G.T.nolimit hg hobj hints (Nat.le_trans hlen hn2) hr hF hb (fun H hO hS=>hsp w H a ns hlen hO hS) fun H e s'=>hCX w H s₁ e s'
end L2
namespace L2
open PySem PySem.Spec PyProof.Rows
noncomputable def Zv (s:Stmt):Arguments:=match s with
 | .FunctionDef _ a _ _ _ _ _ _ _ _=>a
 |_=>{ posonlyargs:=[],args:=[],vararg:=none,kwonlyargs:=[],kw_defaults:=[],kwarg:=none,defaults:=[] }
noncomputable def Zp (s:Stmt):List Stmt:=match s with
 | .FunctionDef _ _ b _ _ _ _ _ _ _=>b
 |_=>[]
noncomputable def Ze (s:Stmt):Scope:=match s with
 | .FunctionDef _ _ _ _ _ _ sc _ _ _=>sc
 |_=>{ kind:= .function,names:=[],isGenerator:=false,isCoroutine:=false }
noncomputable abbrev E0:XK:=fun _ _ _=>False
structure Fun (K:PySem.W.Frag) (x qual:Str) (st:Stmt) (f:Addr) (fd:FuncData):Prop where
 ex: ∃ (oc:Value) (od:Option Addr) (kV doc pm:Value) (an:Option Addr) (cdv ct:Value) (osl:Array (Option Value)),
  fd=PySem.W.fnOf x qual (Zv st) (Zp st) (Ze st) .none kV doc pm an cdv ct/\K.lookup f=some ⟨oc,od,.func fd,osl⟩/\PySem.W.codeIn K cdv qual=true
 kp:PySem.W.keepIn K (.ref f)=true
section
variable {P:Program} {w:World} {K:PySem.W.Frag} {mg:Str->Option Value} {base:Heap}
theorem Fun.binds {x qual:Str} {st:Stmt} {f:Addr} {fd:FuncData} {ps:List Str} (F:Fun K x qual st f fd)
  (h: ∀ (kV doc pm:Value) (an:Option Addr) (cdv ct:Value) (us:List Value),us.length=ps.length->bindArgs (PySem.W.fnOf x qual (Zv st) (Zp st) (Ze st) .none kV doc pm an cdv ct) ⟨us,[]⟩=pure (ps.zip us)):ZbI K fd ps []:=by
 obtain ⟨oc,od,kV,doc,pm,an,cdv,ct,osl,rfl,lk,hcd⟩:=F.ex
 exact .all (h kV doc pm an cdv ct)
theorem Zaa {x qual:Str} {st:Stmt} {f:Addr} {oc:Value} {od an:Option Addr} {osl:Array (Option Value)} {kV doc pm cdv ct:Value} (l:K.lookup f=some ⟨oc,od,.func (PySem.W.fnOf x qual (Zv st) (Zp st) (Ze st) .none kV doc pm an cdv ct),osl⟩)
  (c:PySem.W.codeIn K cdv qual=true) (k:PySem.W.keepIn K (.ref f)=true):Fun K x qual st f (PySem.W.fnOf x qual (Zv st) (Zp st) (Ze st) .none kV doc pm an cdv ct):=⟨⟨oc,od,kV,doc,pm,an,cdv,ct,osl,rfl,l,c⟩,k⟩
end
theorem ZdX {n:Nat} (h:n<=1000):n < sizeLine:=Nat.lt_of_le_of_lt h (by decide)
section
variable {X:Cx}
end
theorem Zig {A B:Prop} (h:B):if false=true then A else B:=by
 rw[if_neg Bool.false_ne_true]
 exact h
theorem Zih {A B:Prop} (h:A):if true=true then A else B:=by
 rw[if_pos rfl]
 exact h
noncomputable def Zmt (H H':Hp):Prop:= ∀ b o,H b=some o->H' b=some o
theorem Zmt.free {H H':Hp} (e:Zmt H H') {l:Addr} (h:H' l=Option.none):H l=Option.none:=by
 cases q:H l with
 |none=>rfl
 |some o=>
  rw[e l o q] at h
  cases h
end L2
end
section
namespace L2
open PySem PySem.Spec PyProof.Rows
end L2
namespace L2
open PySem PySem.Spec PyProof.Rows
section
variable (P:Program) (w:World)
end
section
variable {P:Program} {w:World} {H H':Hp} {h h':Heap} {a:Addr} {o:HO}
end
section
variable {P:Program} {w:World} {H:Hp} {h h':Heap} {x e:Addr} {o':HO}
end
section
variable {fs fs' ex ex':List Addr} {H H1 H2:Hp} {h h1 h2 h':Heap} {a x e:Addr} {o:HO}
end
end L2
namespace L2
open PySem PySem.Spec PyProof.Rows
section
variable {X:Cx} {pins:List (Addr × Obj)} {σ:List (Option V)} {H H':Hp} {s:Shared} {h':Heap}
end
end L2
namespace L2
open PySem PySem.Spec PyProof.Rows
section
variable {X:Cx}
variable {a b:Expr} {ta tb:TE} {pos:Pos}
variable {tA tB':TT} {rest:List Expr}
end
end L2
namespace L2
open PySem PySem.Spec PyProof.Rows
section
variable {X:Cx} {pins:List (Addr × Obj)} {σ:St} {H:Hp} {s:Shared} {a:Addr} {xs ys:List V}
end
section
variable {X:Cx} {pins:List (Addr × Obj)} {σ:St} {H:Hp} {s:Shared} {E:Value->Shared->Prop}
end
section
variable {X:Cx} {st:Stmt} {rest:List Stmt} {t u:TS} {e:Expr} {te:TE} {pos:Pos}
end
section
variable {X:Cx} {pos:Pos}
end
section
variable {X:Cx} {pos:Pos}
end
end L2
namespace L2
open PySem PySem.Spec PyProof.Rows
section
variable {X:Cx} {tg:Expr}
end
end L2
namespace L2
open PySem PySem.Spec PyProof.Rows
section
variable {X:Cx} {a b c:Expr} {ta tb tc:TE} {pos:Pos}
end
section
variable {X:Cx} {a b c:Expr} {ta tb tc:TE} {pos:Pos}
end
end L2
namespace L2
open PySem PySem.Spec PyProof.Rows
section
variable {prog:Program} {w:World} {A:Around} {E:Value->Shared->Prop} {s:Shared} {K:PySem.W.Frag} {x dx C f:Addr} {mA:Str->Option Value} {name:Str} {v:Value}
end
section
variable {P:Program} {w:World} {H H':Hp} {h h':Heap} {a C dx:Addr} {fs fs':List (Str × V)}
end
section
variable {X:Cx} {pins:List (Addr × Obj)} {σ:St} {H:Hp} {s:Shared} {a C dx:Addr} {fs:List (Str × V)} {f:Str} {v:V} {A:Around} {E:Value->Shared->Prop}
end
section
variable {X:Cx} {o e value:Expr} {f:Str} {pos pos' tpos:Pos} {ta tv:TE}
end
section
variable {X:Cx} {pins:List (Addr × Obj)} {σ:St} {H:Hp} {s:Shared} {A:Around} {E:Value->Shared->Prop} {Q:Value->Shared->Prop} {c:Value} {b:Bool}
end
end L2
namespace L2
open PySem PySem.Spec PyProof.Rows
section
variable {X:Cx} {e:Expr} {es:List Expr} {te:TE} {t:TA} {pos:Pos}
end
section
variable {X:Cx} {pins:List (Addr × Obj)} {σ:St} {H:Hp} {s s':Shared}
end
section
variable {X:Cx} {CX:CXT} {k:Nat} {f C:Addr} {fd:FuncData} {ps:List Str} {sp:Sp} {dvs:List V} {ds:List Value} {E:XK} {x m:Str} {p pos apos:Pos} {e o:Expr} {es:List Expr} {ta:TE} {t:TA}
end
section
variable {X:Cx} {CX:CXT} {k:Nat} {f C:Addr} {fd:FuncData} {ps ks:List Str} {sp:Sp} {E:XK} {x m:Str} {p pos apos kpos:Pos} {e o:Expr} {es:List Expr} {kws:List Keyword} {te ta:TE} {t tk:TA} {nm:Option Str}
variable {g:List Value->List Value->List Value} {gV:List V->List V->List V}
end
end L2
namespace L2
open PySem PySem.Spec PyProof.Rows
section
variable {X:Cx} {x:Str} {p pos:Pos} {e:Expr} {es:List Expr} {t:TA} {id T:String} {r:List V->Hp->VK->Prop}
end
end L2
namespace L2
open PySem PySem.Spec PyProof.Rows
section
variable {κ:Type} [DecidableEq κ]
noncomputable def ZgD (kvs:List (κ × V)) (k:κ):Option V:=(kvs.find? fun kv=>decide (kv.1=k)).map (·.2)
theorem ZcM {p:κ × V} {r:List (κ × V)} {k:κ} (e:p.1=k):ZgD (p :: r) k=some p.2:=by simp[ZgD,List.find?_cons,e]
theorem ZcN {p:κ × V} {r:List (κ × V)} {k:κ} (e: ¬ p.1=k):ZgD (p :: r) k=ZgD r k:=by simp[ZgD,List.find?_cons,e]
theorem KV.val {kvs:List (κ × V)} {vs:List (κ × Value)} (r:KV kvs vs) (k:κ):Zko (ZgD kvs k) (valueAt vs k):=by
 unfold KV at r
 induction r with
 |nil=>exact True.intro
 | @cons p q ps qs h t ih=>
  obtain ⟨h1,h2⟩:=h
  by_cases e:p.1=k
  ·have e':q.1=k:=h1.symm.trans e
   have b:valueAt (q :: qs) k=some q.2:=by simp[valueAt,List.find?_cons,e']
   rw[ZcM e,b];exact h2
  ·have e': ¬ q.1=k:=fun z=>e (h1.trans z)
   have b:valueAt (q :: qs) k=valueAt qs k:=by simp[valueAt,List.find?_cons,e']
   rw[ZcN e,b];exact ih
end
noncomputable abbrev KT (H:Hp):List (List Key × V)->List (List Key × Addr × Value)->Prop:=Paired fun p q=>p.1=q.1/\H q.2.1=some (.tup (p.1.map kV))/\ZG p.2 q.2.2
theorem KT.val {H:Hp} {kvs:List (List Key × V)} {xs:List (List Key × Addr × Value)} (r:KT H kvs xs) (k:List Key):Zko (ZgD kvs k) ((atKey xs k).map (·.2)):=by
 induction r with
 |nil=>exact True.intro
 | @cons p q ps qs h t ih=>
  obtain ⟨h1,_,h2⟩:=h
  by_cases e:p.1=k
  ·have e':q.1=k:=h1.symm.trans e
   have b:atKey (q :: qs) k=some q.2:=by simp[atKey,List.find?_cons,e']
   rw[ZcM e,b];exact h2
  ·have e': ¬ q.1=k:=fun z=>e (h1.trans z)
   have b:atKey (q :: qs) k=atKey qs k:=by simp[atKey,List.find?_cons,e']
   rw[ZcN e,b];exact ih
section
variable {P:Program} {w:World} {H:Hp} {h:Heap} {a:Addr}
end
section
variable {X:Cx} {pins:List (Addr × Obj)} {σ:St} {H:Hp} {s:Shared} {a:Addr} {y v:V} {u r:Value} {o:Option V} {A:Around} {E:Value->Shared->Prop}
end
section
variable {X:Cx} {pins:List (Addr × Obj)} {σ:St} {H:Hp} {s:Shared} {a:Addr} {kvs:List (Key × V)} {k:Key} {u:Value} {A:Around} {E:Value->Shared->Prop}
end
section
variable {X:Cx} {o i e value:Expr} {pos pos' tpos:Pos} {td ty tv:TE}
end
section
variable {X:Cx} {pos:Pos}
end
structure M1 (X:Cx) (o:Expr) (m:Str) (apos:Pos) (e:Expr) (cpos:Pos):Prop where
 base:attributeBase o m X.env (eval o X.env)=eval o X.env
 few:((backTo cpos (starEach [e] X.env)).all (fun x=> !x.1) && (backToKw cpos (keywordEach [] X.env)).all (fun x=>x.1.isSome)
  && decide (([e]:List Expr).length + ([]:List Keyword).length + (if ([]:List Keyword).isEmpty then 0 else 1) < 30))=true
 line:(apos.endLine == cpos.line)=true
 trees:backTo cpos (starEach [e] X.env)=[(false,eval e X.env)]
structure M2 (X:Cx) (o:Expr) (m:Str) (apos:Pos) (e f:Expr) (cpos:Pos):Prop where
 base:attributeBase o m X.env (eval o X.env)=eval o X.env
 few:((backTo cpos (starEach [e,f] X.env)).all (fun x=> !x.1) && (backToKw cpos (keywordEach [] X.env)).all (fun x=>x.1.isSome)
  && decide (([e,f]:List Expr).length + ([]:List Keyword).length + (if ([]:List Keyword).isEmpty then 0 else 1) < 30))=true
 line:(apos.endLine == cpos.line)=true
 trees:backTo cpos (starEach [e,f] X.env)=[(false,eval e X.env),(false,eval f X.env)]
section
variable {X:Cx} {pins:List (Addr × Obj)} {σ:St} {H:Hp} {s:Shared} {a:Addr} {y d:V} {u r:Value} {o:Option V} {A:Around} {E:Value->Shared->Prop}
end
section
variable {X:Cx} {o e f:Expr} {apos cpos:Pos} {td ty tx:TE}
end
section
variable {X:Cx} {pins:List (Addr × Obj)} {σ:St} {H:Hp} {s:Shared} {a:Addr} {kvs:List (Key × V)} {A:Around} {E:Value->Shared->Prop}
end
section
variable {X:Cx} {pins:List (Addr × Obj)} {σ:St} {H:Hp} {s:Shared} {a:Addr} {y:V} {u:Value} {A:Around} {E:Value->Shared->Prop}
end
end L2
namespace Att
open PySem PySem.W PySem.Calls PyProof.Rows
section
variable {prog:Program} {w:World} {A:Around} {E:Value->Shared->Prop} {s:Shared} {K:Frag}
end
end Att
namespace L2
open PySem PySem.Spec PyProof.Rows
end L2
namespace L2
open PySem PySem.Spec PyProof.Rows
end L2
namespace L2
open PySem PySem.Spec PyProof.Rows
section
variable {P:Program} {w:World} {K:PySem.W.Frag} {mg:Str->Option Value} {base:Heap}
end
section
variable {X:Cx}
end
section
variable {κ:Type} [DecidableEq κ]
end
end L2
end
section
namespace DQ
open PySem PySem.Spec PyProof.Rows
structure Fly (B:Heap) (l:List Env) (e:Addr) (cls:Value) (dct:Option Addr) (fl:Value) (h:Heap):Prop where
 stay:B.StaysIn h
 new:B.get? e=none
 frames:h.FunFrames B l
 obj: ∃ oe vs T oT ts,h.get? e=some oe/\oe.cls=cls/\oe.dict=dct/\oe.data= .fields vs/\vs[2]?=some .none/\vs[1]?=some (.ref T)/\B.get? T=none/\T≠e/\h.get? T=some oT/\oT.data= .fields ts/\ts[3]?=some fl
theorem Fly.tail {B:Heap} {env:Env} {l:List Env} {e:Addr} {cls:Value} {dct:Option Addr} {fl:Value} {h:Heap} (f:Fly B (env :: l) e cls dct fl h):Fly B l e cls dct fl h:=⟨f.stay,f.new,f.frames.2.2,f.obj⟩
section
variable {M:Model} {A:Around} {E:Value->Shared->Prop} {s:Shared} {B:Heap} {env:Env} {outer l:List Env} {L e:Addr} {cls:Value} {dct:Option Addr} {fl:Value}
theorem apart {h:Heap} {oe:Obj} {vs:Array Value} (hl:h.FunFrames B l) (he:h.get? e=some oe) (hd:oe.data= .fields vs):e ∉ l.filterMap (·.frame):=fun z=>by
 obtain ⟨_,o,h1,h2⟩:=hl.mem z
 rw[he] at h1
 cases h1
 exact h2 vs hd
theorem ZbS {oe:Obj} {vs:Array Value} {head:Value} {hn:Bool} {Q:Unit->Shared->Prop} (hfr:A.frames=some (env :: outer)) (hl:s.heap.FunFrames B (env :: outer)) (hf:env.frame=some L)
  (he:s.heap.get? e=some oe) (hs:B.StaysIn s.heap) (hb:B.get? e=none) (hd:oe.data= .fields vs) (hz:2 < vs.size) (h2:vs[2]?=some .none)
  (h: ∀ h',Fly B (env :: outer) e oe.cls oe.dict (rawInt L) h'->s.heap.UpToSlots h'->Q () { s with heap:=h' }):
  wpAny M A (frameOf env >>= fun a=>entryPlaceOf L hn >>= fun pl=>EntryCells.newEntry head a .none (rawInt L) .none pl >>= fun b=>setField (.ref e) 1 b) Q E s:=by
 have ne:=apart hl he hd
 refine wpAny_bind (wpAny_frameOf_fun hfr hl hf fun h1 k1=>wpAny_bind (wpAny_entryPlaceOf fun pl hpl=>wpAny_bind ?_))
 unfold EntryCells.newEntry newFields
 refine wpAny_newObj_type ?_ (hpl.sizeOk5 _ _ _ _ _)
 generalize hT:([head,Value.ref L,Value.none,rawInt L,Value.none] ++ (if pl.isEmpty then List.replicate 6 Value.none else pl)).toArray=ts
 have h3:ts[3]?=some (rawInt L):=by
  rw[<- hT]
  rcases hpl with rfl | ⟨_,_,_,_,_,_,_,rfl⟩<;>simp
 have e1:h1.get? e=some oe:=(k1.2.1 e ne).trans he
 have s1:B.StaysIn h1:=fun b o hbo=>(k1.2.1 b fun z=>by rw[(hl.mem z).1] at hbo;cases hbo).trans (hs b o hbo)
 generalize hoT:({ cls:= .type "traceback",dict:=none,data:= .fields ts }:Obj)=oT
 have dT:oT.data= .fields ts:=by rw[<- hoT]
 have fT:oT.isFreed=false:=Obj.isFreed_of_fields dT
 have e2:(h1.push oT).get? e=some oe:=Heap.get?_push_of_some _ e1
 have nT:h1.objs.size≠e:=Nat.ne_of_gt (Heap.lt_size e1)
 refine wpAny_setField e2 hd (Nat.lt_trans (by decide) hz) (h _ ?_ ?_)
 ·have d3:=Obj.data_mapFields hd (·.setIfInBounds 1 (Value.ref h1.objs.size))
  have e3:=Heap.get?_update_self (Obj.mapFields (·.setIfInBounds 1 (Value.ref h1.objs.size))) e2 (Obj.isFreed_of_fields d3)
  have keep: ∀ b o,b≠e->h1.get? b=some o->((h1.push oT).update e (Obj.mapFields (·.setIfInBounds 1 (Value.ref h1.objs.size)))).get? b=some o:=fun b o hbe x=>by
   rw[Heap.get?_update_other _ _ (Ne.symm hbe)]
   exact Heap.get?_push_of_some _ x
  have gT:(h1.push oT).get? h1.objs.size=some oT:=Heap.get?_push_size _ fT
  refine ⟨fun b o x=>keep b o (fun z=>by rw[z,hb] at x;cases x) (s1 b o x),hb,hl.of_keeps fun b o x y=> ?_,_,_,h1.objs.size,oT,ts,e3,Obj.cls_mapFields _ _,?_,d3,?_,?_,s1.fresh,nT,?_,dT,h3⟩
  ·obtain ⟨sl,z⟩:=k1.2.2 b o x
   exact ⟨_,keep b _ (fun w=>y vs (by rw[w,he] at x;cases x;exact hd)) z,rfl⟩
  ·obtain ⟨c,d,dd,sl⟩:=oe
   cases hd
   rfl
  ·rw[Array.getElem?_setIfInBounds_ne (by decide)]
   exact h2
  ·rw[Array.getElem?_setIfInBounds_self_of_lt (Nat.lt_trans (by decide) hz)]
  ·rw[Heap.get?_update_other _ _ (Ne.symm nT)]
   exact gT
 ·intro b o x y
  obtain ⟨sl,z⟩:=k1.2.2 b o x
  refine ⟨sl,?_⟩
  rw[Heap.get?_update_other _ _ (fun w=>y vs (by rw[<- w,he] at x;cases x;exact hd))]
  exact Heap.get?_push_of_some _ z
theorem ZcO {Q:Unit->Shared->Prop} (f:Fly B l e cls dct fl s.heap) (h: ∀ h',Fly B l e cls dct .none h'->s.heap.UpToSlots h'->Q () { s with heap:=h' }):wpAny M A (setFlight (.ref e) none) Q E s:=by
 obtain ⟨st,nw,fr,oe,vs,T,oT,ts,g1,g2,g3,g4,g5,g6,g7,g8,g9,g10,g11⟩:=f
 have hz:3 < ts.size:=(Array.getElem?_eq_some_iff.mp g11).1
 unfold setFlight
 refine wpAny_bind (wpAny_field g1 g4 g6 ?_)
 rw[if_pos (by simp)]
 have oth: ∀ b o,b≠T->s.heap.get? b=some o->(s.heap.update T (Obj.mapFields (·.setIfInBounds 3 Value.none))).get? b=some o:=fun b o hb x=>by
  rw[Heap.get?_update_other _ _ (Ne.symm hb)]
  exact x
 have nr: ∀ b o,s.heap.get? b=some o->(∀ vs,o.data≠ .fields vs)->b≠T:=fun b o x y z=>by
  rw[z,g9] at x
  cases x
  exact y ts g10
 refine wpAny_setField g9 g10 hz (h _ ⟨fun b o x=>oth b o (fun z=>by rw[z,g7] at x;cases x) (st b o x),nw,fr.of_keeps fun b o x y=>⟨o,oth b o (nr b o x y) x,rfl⟩,?_⟩ fun b o x y=>⟨o.slots,oth b o (nr b o x y) x⟩)
 exact ⟨oe,vs,T,_,_,oth e oe (Ne.symm g8) g1,g2,g3,g4,g5,g6,g7,g8,Heap.get?_update_self _ g9 (Obj.isFreed_of_fields (Obj.data_mapFields g10 _)),Obj.data_mapFields g10 _,by rw[Array.getElem?_setIfInBounds_self_of_lt hz];rfl⟩
theorem Ze3 {Q:Unit->Shared->Prop} (hfr:A.frames=some (env :: outer)) (hf:env.frame=some L) (f:Fly B (env :: outer) e cls dct .none s.heap)
  (h: ∀ h',Fly B (env :: outer) e cls dct (rawInt L) h'->s.heap.UpToSlots h'->Q () { s with heap:=h' }):wpAny M A (noteFrame (.ref e) env) Q E s:=by
 obtain ⟨st,nw,fr,oe,vs,T,oT,ts,g1,g2,g3,g4,g5,g6,g7,g8,g9,g10,g11⟩:=f
 unfold noteFrame
 simp only[hf]
 refine wpAny_bind (wpAny_field g1 g4 g6 ?_)
 rw[if_pos (by simp)]
 refine wpAny_bind (wpAny_field g9 g10 g11 ?_)
 rw[if_neg (by simp[rawInt])]
 have oth: ∀ b o,b≠T->s.heap.get? b=some o->(s.heap.update T (Obj.mapFields (·.setIfInBounds 3 Value.none))).get? b=some o:=fun b o hb x=>by
  rw[Heap.get?_update_other _ _ (Ne.symm hb)]
  exact x
 have nr: ∀ b o,s.heap.get? b=some o->(∀ vs,o.data≠ .fields vs)->b≠T:=fun b o x y z=>by
  rw[z,g9] at x
  cases x
  exact y ts g10
 refine wpAny_bind (wpAny_setField g9 g10 (Array.getElem?_eq_some_iff.mp g11).1 ?_)
 refine ZbS hfr (fr.of_keeps fun b o x y=>⟨o,oth b o (nr b o x y) x,rfl⟩) hf (oth e oe (Ne.symm g8) g1) (fun b o x=>oth b o (fun z=>by rw[z,g7] at x;cases x) (st b o x)) nw g4 (Array.getElem?_eq_some_iff.mp g5).1 g5 fun h' k1 k2=>h h' (g2 ▸ g3 ▸ k1) ?_
 intro b o x y
 exact k2 b o (oth b o (nr b o x y) x) y
theorem ZdY {Q:Unit->Shared->Prop} (hfr:A.frames=some (env :: outer)) (hf:env.frame=some L) (f:Fly B (env :: outer) e cls dct .none s.heap)
  (h: ∀ h',Fly B outer e cls dct .none h'->s.heap.UpToSlots h'->Q () { s with heap:=h' }):wpAny M A (leaving env (.ref e)) Q E s:=by
 unfold leaving
 refine wpAny_bind (Ze3 hfr hf f fun h1 k1 u1=> ?_)
 exact ZcO (s:={ s with heap:=h1 }) k1 fun h2 k2 u2=>h h2 k2.tail (u1.trans u2)
theorem ZdZ {oe:Obj} {vs:Array Value} {Q:Unit->Shared->Prop} (hfr:A.frames=some (env :: outer)) (hf:env.frame=some L) (hl:s.heap.FunFrames B (env :: outer)) (he:s.heap.get? e=some oe) (hs:B.StaysIn s.heap) (hb:B.get? e=none) (hd:oe.data= .fields vs) (h1:vs[1]?=some .none) (h2:vs[2]?=some .none)
  (h: ∀ h',Fly B outer e oe.cls oe.dict .none h'->s.heap.UpToSlots h'->Q () { s with heap:=h' }):wpAny M A (leaving env (.ref e)) Q E s:=by
 unfold leaving noteFrame
 simp only[hf]
 refine wpAny_bind (wpAny_bind (wpAny_field he hd h1 ?_))
 rw[if_neg (by decide)]
 refine ZbS hfr hl hf he hs hb hd (Array.getElem?_eq_some_iff.mp h2).1 h2 fun h' k1 u1=> ?_
 exact ZcO (s:={ s with heap:=h' }) k1 fun h2 k2 u2=>h h2 k2.tail (u1.trans u2)
end
end DQ
end
section
namespace DQ
open PySem PySem.Spec PyProof.Rows
open PySem.W (Looks findIn mroIn specialIn takesIn clsIn looks_findIn looks_mroIn looks_find findObj KitX)
structure ExcC (K:PySem.W.Frag) (C:Addr):Prop where
 ga:findIn K (.ref C) "__getattribute__"=some (some (.builtin "BaseException.__getattribute__"))
 gt:findIn K (.ref C) "__getattr__"=some none
 cl:findIn K (.ref C) "__class__"=some (some (.builtin "object.__class__"))
 gs:specialIn K (.builtin "object.__class__") "__get__"=some (some (.builtin "getset_descriptor.__get__"))
 tk:takesIn K (.builtin "object.__class__")=some true
 bx:mroIn K C (.type "BaseException")=some true
 ob:mroIn K C (.type "object")=some true
 is:(clsIn K C).isSome=true
section
variable {prog:Program} {w:World} {A:Around} {E:Value->Shared->Prop} {s:Shared} {K:PySem.W.Frag} {e C:Addr} {oe:Obj} {od:Option Obj}
end
end DQ
end
section
namespace DL
open PySem PySem.Spec PyProof.Rows L2
inductive D where
 |non
 |bl (b:Bool)
 |int (i:Int)
 |str (x:Str)
 |tup (xs:List D)
 |rol (xs:List D)
 |con (xs:List D)
 |ref (n:Nat)
 |err (c:Str) (xs:List D)
 |dk (n:Nat)
 |dt (n:Nat)
inductive SO where
 |lst (xs:List D)
noncomputable abbrev Sto:=List SO
noncomputable abbrev Ro:=List (Option D)
noncomputable def SqF (K:PySem.W.Frag) (H:Hp) (a:Addr) (xs:List V):Prop:=
 (∃ o,H a=some (.frz o (.lst xs)))\/ ∃ (o:Obj) (its:Array Value) (n:Nat),K.lookup a=some o/\o.cls= .type "list"/\o.dict=none/\o.data= .seq its n/\its.size<=sizeLine/\Zu xs its.toList
theorem SqF.sq {K:PySem.W.Frag} {H:Hp} {a:Addr} {xs:List V} (h:SqF K H a xs):SqL K H a xs:=by
 rcases h with ⟨o,h⟩ | h
 ·exact .inl (.inr ⟨o,h⟩)
 ·exact .inr h
noncomputable def SqK (K:PySem.W.Frag) (a:Addr) (xs:List V):Prop:= ∃ (o:Obj) (its:Array Value) (n:Nat),K.lookup a=some o/\o.cls= .type "tuple"/\o.data= .seq its n/\its.size<=sizeLine/\Zu xs its.toList
theorem SqK.sq {K:PySem.W.Frag} {H:Hp} {a:Addr} {xs:List V} (h:SqK K a xs):SqT K H a xs:= .inr h
noncomputable def EOk (H:Hp) (p C:Addr) (xs:List V):Prop:= ∃ oe u vs,H p=some (.frz oe u)/\oe.cls= .ref C/\oe.data= .fields vs/\vs[2]?=some .none/\((xs=[]/\oe.dict=none)\/ ∃ dx fs,oe.dict=some dx/\H dx=some (.xd fs)/\fs.map (·.2)=xs)
noncomputable def Kn (H:Hp) (p:Addr):Option Nat:=match H p with | some (.lst _)=>some 0 | some (.dK _)=>some 1 | some (.dT _)=>some 2 | _=>none
structure RefK (H:Hp) (α:List Addr) (j n:Nat) (p:Addr):Prop where
 at':α[n]?=some p
 kn:Kn H p=some j
theorem Kn.lst {H:Hp} {p:Addr} {xs:List V} (h:H p=some (.lst xs)):Kn H p=some 0:=by unfold Kn;rw[h]
theorem Kn.ne {H:Hp} {p q:Addr} {j:Nat} {o:HO} (h:Kn H p=some j) (hq:H q=none):Kn (upd H q o) p=some j:=by
 have:p≠q:=by
  intro z
  unfold Kn at h
  rw[z,hq] at h
  cases h
 unfold Kn
 rw[Zw this]
 exact h
mutual
inductive Rep (K:PySem.W.Frag) (H:Hp) (α:List Addr):V->D->Prop where
 |non:Rep K H α .non .non
 |bl (b:Bool):Rep K H α (.bl b) (.bl b)
 |int (i:Int):Rep K H α (.int i) (.int i)
 |str (x:Str):Rep K H α (.str x) (.str x)
 |tup {p:Addr} {xs:List V} {ds:List D}:H p=some (.tup xs)->Reps K H α xs ds->Rep K H α (.ref p) (.tup ds)
 |rol {p:Addr} {xs:List V} {ds:List D}:SqF K H p xs->Reps K H α xs ds->Rep K H α (.ref p) (.rol ds)
 |con {p:Addr} {xs:List V} {ds:List D}:SqK K p xs->Reps K H α xs ds->Rep K H α (.ref p) (.con ds)
 |ref {p:Addr} {n:Nat}:RefK H α 0 n p->Rep K H α (.ref p) (.ref n)
 |dk {p:Addr} {n:Nat}:RefK H α 1 n p->Rep K H α (.ref p) (.dk n)
 |dt {p:Addr} {n:Nat}:RefK H α 2 n p->Rep K H α (.ref p) (.dt n)
 |err {p C:Addr} {c:Str} {xs:List V} {ds:List D}:PySem.W.nsIn K mainGlobals c=some (some (.ref C))->EOk H p C xs->Reps K H α xs ds->Rep K H α (.ref p) (.err c ds)
inductive Reps (K:PySem.W.Frag) (H:Hp) (α:List Addr):List V->List D->Prop where
 |nil:Reps K H α [] []
 |cons {v:V} {d:D} {vs:List V} {ds:List D}:Rep K H α v d->Reps K H α vs ds->Reps K H α (v :: vs) (d :: ds)
end
structure Ext (K:PySem.W.Frag) (H H':Hp) (α α':List Addr):Prop where
 tup: ∀ p xs,H p=some (.tup xs)->H' p=some (.tup xs)
 rol: ∀ p xs,SqF K H p xs->SqF K H' p xs
 err: ∀ p C xs,EOk H p C xs->EOk H' p C xs
 kn: ∀ p j,Kn H p=some j->Kn H' p=some j
 al: ∃ β,α'=α ++ β
section
variable {K:PySem.W.Frag} {H H1 H2 H':Hp} {α α1 α2 α':List Addr}
theorem Ext.refl:Ext K H H α α:=⟨fun _ _ h=>h,fun _ _ h=>h,fun _ _ _ h=>h,fun _ _ h=>h,[],(List.append_nil _).symm⟩
theorem Ext.trans (a:Ext K H H1 α α1) (b:Ext K H1 H2 α1 α2):Ext K H H2 α α2:=by
 obtain ⟨b1,e1⟩:=a.al
 obtain ⟨b2,e2⟩:=b.al
 exact ⟨fun p xs h=>b.tup p xs (a.tup p xs h),fun p xs h=>b.rol p xs (a.rol p xs h),fun p C xs h=>b.err p C xs (a.err p C xs h),fun p j h=>b.kn p j (a.kn p j h),b1 ++ b2,by rw[e2,e1,List.append_assoc]⟩
theorem Ext.get0 (e:Ext K H H' α α') {n:Nat} {p:Addr} (h:α[n]?=some p):α'[n]?=some p:=by
 obtain ⟨β,e1⟩:=e.al
 have hl:n < α.length:=(List.getElem?_eq_some_iff.mp h).1
 rw[e1,List.getElem?_append_left hl]
 exact h
theorem Ext.get (e:Ext K H H' α α') {j n:Nat} {p:Addr} (h:RefK H α j n p):RefK H' α' j n p:=⟨e.get0 h.at',e.kn _ _ h.kn⟩
mutual
theorem Rep.mono (e:Ext K H H' α α'): ∀ {v:V} {d:D},Rep K H α v d->Rep K H' α' v d
 |_,_,.non=> .non
 |_,_,.bl b=> .bl b
 |_,_,.int i=> .int i
 |_,_,.str x=> .str x
 |_,_,.tup h r=> .tup (e.tup _ _ h) (Reps.mono e r)
 |_,_,.rol h r=> .rol (e.rol _ _ h) (Reps.mono e r)
 |_,_,.con h r=> .con h (Reps.mono e r)
 |_,_,.ref h=> .ref (e.get h)
 |_,_,.dk h=> .dk (e.get h)
 |_,_,.dt h=> .dt (e.get h)
 |_,_,.err n h r=> .err n (e.err _ _ _ h) (Reps.mono e r)
theorem Reps.mono (e:Ext K H H' α α'): ∀ {vs:List V} {ds:List D},Reps K H α vs ds->Reps K H' α' vs ds
 |_,_,.nil=> .nil
 |_,_,.cons r t=> .cons (Rep.mono e r) (Reps.mono e t)
end
theorem Reps.length: ∀ {vs:List V} {ds:List D},Reps K H α vs ds->vs.length=ds.length
 |_,_,.nil=>rfl
 |_,_,.cons _ t=>by rw[List.length_cons,List.length_cons,Reps.length t]
theorem Reps.get: ∀ {vs:List V} {ds:List D} {i:Nat} {d:D},Reps K H α vs ds->ds[i]?=some d-> ∃ v,vs[i]?=some v/\Rep K H α v d
 |_,_,_,_,.nil,e=>by simp at e
 |_,_,0,_,.cons r _,e=>by simp at e;subst e;exact ⟨_,rfl,r⟩
 |_,_,i + 1,d,.cons _ t,e=>by
  obtain ⟨u,h1,h2⟩:=Reps.get (i:=i) (d:=d) t (by simpa using e)
  exact ⟨u,by simpa using h1,h2⟩
theorem Reps.append: ∀ {vs ws:List V} {ds es:List D},Reps K H α vs ds->Reps K H α ws es->Reps K H α (vs ++ ws) (ds ++ es)
 |_,_,_,_,.nil,s=>s
 |_,_,_,_,.cons r t,s=> .cons r (Reps.append t s)
theorem Reps.ints: ∀ (ns:List Int),Reps K H α (ns.map V.int) (ns.map D.int)
 | []=> .nil
 |n :: r=> .cons (.int n) (Reps.ints r)
theorem Zd0 {p q:Addr} {xs:List V} {o:HO} (h:H q=some (.tup xs)) (hp: ∀ u,H p=some u->(∀ ys,u≠ .tup ys)/\ ∀ ob w,u≠ .frz ob w):upd H p o q=some (.tup xs):=by
 rw[Zw (fun e=>(hp _ (e ▸ h)).1 _ rfl)]
 exact h
theorem Zd1 {p q:Addr} {xs:List V} {o:HO} (h:SqF K H q xs) (hp: ∀ u,H p=some u-> ∀ ob w,u≠ .frz ob w):SqF K (upd H p o) q xs:=by
 rcases h with ⟨ob,h⟩ | h
 ·refine .inl ⟨ob,?_⟩
  rw[Zw (fun e=>hp _ (e ▸ h) _ _ rfl)]
  exact h
 ·exact .inr h
theorem Zd2 {p q C:Addr} {xs:List V} {o:HO} (h:EOk H q C xs) (hp: ∀ u,H p=some u->(∀ ob w,u≠ .frz ob w)/\ ∀ fs,u≠ .xd fs):EOk (upd H p o) q C xs:=by
 obtain ⟨oe,u,vs,h1,h2,h3,h4,h5⟩:=h
 refine ⟨oe,u,vs,?_,h2,h3,h4,?_⟩
 ·rw[Zw (fun e=>(hp _ (e ▸ h1)).1 _ _ rfl)]
  exact h1
 ·rcases h5 with h5 | ⟨dx,fs,k1,k2,k3⟩
  ·exact .inl h5
  ·refine .inr ⟨dx,fs,k1,?_,k3⟩
   rw[Zw (fun e=>(hp _ (e ▸ k2)).2 _ rfl)]
   exact k2
theorem Ext.new {p:Addr} {o:HO} (h:H p=none) {β:List Addr}:Ext K H (upd H p o) α (α ++ β):=
 ⟨fun q xs z=>Zd0 z (fun u e=>(by rw[h] at e;cases e)),fun q xs z=>Zd1 z (fun u e=>(by rw[h] at e;cases e)),fun q C xs z=>Zd2 z (fun u e=>(by rw[h] at e;cases e)),fun q j z=>Kn.ne z h,β,rfl⟩
theorem Ext.new0 {p:Addr} {o:HO} (h:H p=none):Ext K H (upd H p o) α α:=by
 have e:=Ext.new (K:=K) (H:=H) (α:=α) (o:=o) h (β:=[])
 rw[List.append_nil] at e
 exact e
theorem Ext.wrK {p:Addr} {o:HO} {j:Nat} (h:Kn H p=some j) (h':Kn (upd H p o) p=some j):Ext K H (upd H p o) α α:=by
 have ne (u:HO) (e:H p=some u):(∀ ys,u≠ .tup ys)/\(∀ ob w,u≠ .frz ob w)/\ ∀ fs,u≠ .xd fs:=by
  unfold Kn at h
  rw[e] at h
  refine ⟨fun ys z=> ?_,fun ob w z=> ?_,fun fs z=> ?_⟩<;>subst z<;>cases h
 refine ⟨fun q xs z=>Zd0 z fun u e=>⟨(ne u e).1,(ne u e).2.1⟩,fun q xs z=>Zd1 z fun u e=>(ne u e).2.1,fun q C xs z=>Zd2 z fun u e=>⟨(ne u e).2.1,(ne u e).2.2⟩,fun q i z=> ?_,[],(List.append_nil _).symm⟩
 by_cases c:q=p
 ·subst c
  rw[h] at z
  cases z
  exact h'
 ·unfold Kn
  rw[Zw c]
  exact z
theorem Ext.wr {p:Addr} {xs ys:List V} (h:H p=some (.lst xs)):Ext K H (upd H p (.lst ys)) α α:=Ext.wrK (Kn.lst h) (Kn.lst Zm)
noncomputable def Zmu:Key->D
 | .inl i=> .int i
 | .inr x=> .str x
noncomputable def ZkM (ks:List Key):D:= .tup (ks.map Zmu)
noncomputable def ZfO (K:PySem.W.Frag) (H:Hp) (α:List Addr) {κ:Type} (key:κ->D) (kvs:List (κ × V)) (ds:List D):Prop:=
 ∃ es:List D,ds=List.zipWith (fun kv e=>D.tup [key kv.1,e]) kvs es/\Reps K H α (kvs.map (·.2)) es
noncomputable def SOk (K:PySem.W.Frag) (H:Hp) (α:List Addr) (p:Addr):SO->Prop
 | .lst ds=>(∃ xs,H p=some (.lst xs)/\Reps K H α xs ds)\/(∃ kvs,H p=some (.dK kvs)/\ZfO K H α Zmu kvs ds)\/(∃ kvs,H p=some (.dT kvs)/\ZfO K H α ZkM kvs ds)
theorem SOk.there {p:Addr} {o:SO} (h:SOk K H α p o): ∃ u,H p=some u:=by
 cases o with
 |lst ds=>rcases h with ⟨_,e,_⟩ | ⟨_,e,_⟩ | ⟨_,e,_⟩<;>exact ⟨_,e⟩
theorem SOk.mono {p:Addr} {o:SO} (h:SOk K H α p o) (ex:Ext K H H' α α') (e:H' p=H p):SOk K H' α' p o:=by
 cases o with
 |lst ds=>
  rcases h with ⟨xs,h1,h2⟩ | ⟨kvs,h1,es,h2,h3⟩ | ⟨kvs,h1,es,h2,h3⟩
  ·exact .inl ⟨xs,e.trans h1,Reps.mono ex h2⟩
  ·exact .inr (.inl ⟨kvs,e.trans h1,es,h2,Reps.mono ex h3⟩)
  ·exact .inr (.inr ⟨kvs,e.trans h1,es,h2,Reps.mono ex h3⟩)
structure HR (K:PySem.W.Frag) (H:Hp) (α:List Addr) (M:Sto):Prop where
 len:α.length=M.length
 nd:α.Nodup
 ob: ∀ (n:Nat) (p:Addr) (o:SO),α[n]?=some p->M[n]?=some o->SOk K H α p o
theorem HR.nil:HR K H [] []:=⟨rfl,List.nodup_nil,fun n p o h=>by simp at h⟩
theorem HR.at (h:HR K H α M) {n:Nat} {p:Addr} {ds:List D} (e:RefK H α 0 n p) (m:M[n]?=some (.lst ds)): ∃ xs,H p=some (.lst xs)/\Reps K H α xs ds:=by
 rcases h.ob n p _ e.at' m with h1 | ⟨_,h1,_⟩ | ⟨_,h1,_⟩
 ·exact h1
 ·have:=e.kn;unfold Kn at this;rw[h1] at this;cases this
 ·have:=e.kn;unfold Kn at this;rw[h1] at this;cases this
theorem RefK.lst {n:Nat} {p:Addr} (e:RefK H α 0 n p): ∃ xs,H p=some (.lst xs):=by
 have:=e.kn
 unfold Kn at this
 split at this
 ·rename_i xs h;exact ⟨xs,h⟩
 ·cases this
 ·cases this
 ·cases this
theorem HR.some_at {M:Sto} (h:HR K H α M) {n:Nat} {p:Addr} (e:RefK H α 0 n p): ∃ xs,H p=some (.lst xs):=e.lst
theorem HR.there {M:Sto} (h:HR K H α M) {n:Nat} {p:Addr} (e:α[n]?=some p): ∃ u,H p=some u:=by
 have hl:n < α.length:=(List.getElem?_eq_some_iff.mp e).1
 have hm:n < M.length:=by rw[<- h.len];exact hl
 exact (h.ob n p M[n] e (List.getElem?_eq_getElem hm)).there
theorem HR.tup {M:Sto} {p:Addr} {o:HO} (h:HR K H α M) (hp:H p=none):HR K (upd H p o) α M:=
 ⟨h.len,h.nd,fun n q so e m=>by
  obtain ⟨u,hu⟩:=h.there e
  exact (h.ob n q so e m).mono (Ext.new0 hp) (Zw (ZI hu hp))⟩
theorem HR.newO {M:Sto} {p:Addr} {o:HO} {so:SO} (h:HR K H α M) (hp:H p=none) (r:SOk K (upd H p o) (α ++ [p]) p so):HR K (upd H p o) (α ++ [p]) (M ++ [so]):=by
 have ex:Ext K H (upd H p o) α (α ++ [p]):=Ext.new hp
 refine ⟨by rw[List.length_append,List.length_append,h.len];rfl,?_,fun n q so' e m=> ?_⟩
 ·refine List.nodup_append.mpr ⟨h.nd,by simp,fun a ha b hb=> ?_⟩
  have hb':b=p:=by simpa using hb
  obtain ⟨n,hn,e⟩:=List.getElem_of_mem ha
  obtain ⟨u,z⟩:=h.there (n:=n) (p:=a) (by rw[List.getElem?_eq_getElem hn,e])
  rw[hb']
  exact ZI z hp
 ·by_cases hn:n < α.length
  ·rw[List.getElem?_append_left hn] at e
   rw[List.getElem?_append_left (by rw[<- h.len];exact hn)] at m
   obtain ⟨u,hu⟩:=h.there e
   exact (h.ob n q so' e m).mono ex (Zw (ZI hu hp))
  ·have en:n=α.length:=by
    have:n < (α ++ [p]).length:=(List.getElem?_eq_some_iff.mp e).1
    rw[List.length_append,List.length_singleton] at this
    omega
   subst en
   rw[List.getElem?_append_right (Nat.le_refl _),Nat.sub_self] at e
   rw[h.len,List.getElem?_append_right (Nat.le_refl _),Nat.sub_self] at m
   cases e
   cases m
   exact r
theorem HR.new {M:Sto} {p:Addr} {xs:List V} {ds:List D} (h:HR K H α M) (hp:H p=none) (r:Reps K H α xs ds):HR K (upd H p (.lst xs)) (α ++ [p]) (M ++ [.lst ds]):=
 h.newO hp (.inl ⟨xs,Zm,Reps.mono (Ext.new hp) r⟩)
theorem Ze4 {n m:Nat} {p:Addr} (h:α.Nodup) (a:α[n]?=some p) (b:α[m]?=some p):n=m:=by
 obtain ⟨h1,e1⟩:=List.getElem?_eq_some_iff.mp a
 obtain ⟨h2,e2⟩:=List.getElem?_eq_some_iff.mp b
 exact (List.getElem_inj h).mp (e1.trans e2.symm)
theorem HR.wrO {M:Sto} {n:Nat} {p:Addr} {o:HO} {so:SO} (h:HR K H α M) (e:α[n]?=some p) (ex:Ext K H (upd H p o) α α) (r:SOk K (upd H p o) α p so):HR K (upd H p o) α (M.set n so):=by
 have hn:n < M.length:=by rw[<- h.len];exact (List.getElem?_eq_some_iff.mp e).1
 refine ⟨by rw[List.length_set];exact h.len,h.nd,fun k q so' e' m=> ?_⟩
 by_cases hk:k=n
 ·subst hk
  rw[e] at e'
  cases e'
  rw[List.getElem?_set_self hn] at m
  cases m
  exact r
 ·rw[List.getElem?_set_ne (Ne.symm hk)] at m
  have hq:q≠p:=fun z=>hk (Ze4 h.nd (z ▸ e') e)
  exact (h.ob k q so' e' m).mono ex (Zw hq)
theorem HR.wr {M:Sto} {n:Nat} {p:Addr} {xs ys:List V} {ds:List D} (h:HR K H α M) (e:RefK H α 0 n p) (hp:H p=some (.lst ys)) (r:Reps K H α xs ds):HR K (upd H p (.lst xs)) α (M.set n (.lst ds)):=
 h.wrO e.at' (Ext.wr hp) (.inl ⟨xs,Zm,Reps.mono (Ext.wr hp) r⟩)
end
inductive Out (β:Type) where
 |ok (a:β) (M:Sto)
 |exc (c:Str) (M:Sto)
 |bad
noncomputable def Out.bind {β γ:Type} (o:Out β) (f:β->Sto->Out γ):Out γ:=match o with
 | .ok a M=>f a M
 | .exc c M=> .exc c M
 | .bad=> .bad
inductive Fl where
 |nx (ρ:Ro) (M:Sto)
 |ret (d:D) (M:Sto)
 |brk (ρ:Ro) (M:Sto)
 |cnt (ρ:Ro) (M:Sto)
 |exc (c:Str) (M:Sto)
 |bad
noncomputable def OG {β γ:Type} (K:PySem.W.Frag) (R:Hp->List Addr->γ->β->Prop) (H:Hp) (α:List Addr) (ξ:XK) (Q:γ->Hp->Prop):Out β->Prop
 | .ok d M'=> ∀ v H' α',Ext K H H' α α'->HR K H' α' M'->R H' α' v d->Q v H'
 | .exc c M'=> ∀ C H' α',PySem.W.nsIn K mainGlobals c=some (some (.ref C))->Ext K H H' α α'->HR K H' α' M'->ξ (.ref C) none H'
 | .bad=>False
theorem OG.ext {β γ:Type} {K:PySem.W.Frag} {R:Hp->List Addr->γ->β->Prop} {H H1:Hp} {α α1:List Addr} {ξ:XK} {Q:γ->Hp->Prop} {o:Out β} (h:OG K R H α ξ Q o) (e:Ext K H H1 α α1):OG K R H1 α1 ξ Q o:=by
 cases o with
 |ok d M'=>exact fun v H' α' e'=>h v H' α' (e.trans e')
 |exc c M'=>exact fun C H' α' n e'=>h C H' α' n (e.trans e')
 |bad=>exact h
noncomputable abbrev OP (K:PySem.W.Frag):=OG K (Rep K)
noncomputable abbrev OT (K:PySem.W.Frag):=OG (β:=Bool) (γ:=Bool) K (fun _ _ v d=>v=d)
noncomputable abbrev OA (K:PySem.W.Frag):=OG K (Reps K)
noncomputable def SR (K:PySem.W.Frag) (H:Hp) (α:List Addr) (σ:L2.St) (ρ:Ro):Prop:=σ.length=ρ.length/\ ∀ (i:Nat) (d:D),ρ[i]?=some (some d)-> ∃ v,σ[i]?=some (some v)/\Rep K H α v d
theorem SR.mono {K:PySem.W.Frag} {H H':Hp} {α α':List Addr} {σ:L2.St} {ρ:Ro} (h:SR K H α σ ρ) (e:Ext K H H' α α'):SR K H' α' σ ρ:=
 ⟨h.1,fun i d q=>let ⟨v,a,b⟩:=h.2 i d q;⟨v,a,Rep.mono e b⟩⟩
theorem SR.set {K:PySem.W.Frag} {H:Hp} {α:List Addr} {σ:L2.St} {ρ:Ro} {v:V} {d:D} (h:SR K H α σ ρ) (i:Nat) (r:Rep K H α v d):SR K H α (σ.set i (some v)) (ρ.set i (some d)):=by
 refine ⟨by rw[List.length_set,List.length_set];exact h.1,fun j e q=> ?_⟩
 by_cases hj:j=i
 ·subst hj
  have hl:j < ρ.length:=by
   have:=(List.getElem?_eq_some_iff.mp q).1
   rw[List.length_set] at this
   exact this
  rw[List.getElem?_set_self hl] at q
  cases q
  exact ⟨v,by rw[List.getElem?_set_self (by rw[h.1];exact hl)],r⟩
 ·rw[List.getElem?_set_ne (Ne.symm hj)] at q
  rw[List.getElem?_set_ne (Ne.symm hj)]
  exact h.2 j e q
noncomputable abbrev Ev:=Ro->Sto->Out D
noncomputable abbrev Tv:=Ro->Sto->Out Bool
noncomputable abbrev Av:=Ro->Sto->Out (List D)
noncomputable abbrev Sv:=Ro->Sto->Fl
noncomputable def DE (X:Cx) (ξ:XK) (e:Expr) (f:Ev):Prop:= ∃ t:TE,PE X e t/\ ∀ σ ρ H α M Q,SR X.K H α σ ρ->HR X.K H α M->OP X.K H α ξ Q (f ρ M)->t σ H Q
noncomputable def DT (X:Cx) (ξ:XK) (e:Expr) (f:Tv):Prop:= ∃ t:TT,PT X e t/\ ∀ σ ρ H α M Q,SR X.K H α σ ρ->HR X.K H α M->OT X.K H α ξ Q (f ρ M)->t σ H Q
noncomputable def DW (X:Cx) (ξ:XK) (e:Expr) (f:Tv):Prop:= ∃ t:TT,PW X e t/\ ∀ σ ρ H α M Q,SR X.K H α σ ρ->HR X.K H α M->OT X.K H α ξ Q (f ρ M)->t σ H Q
noncomputable def DA (X:Cx) (ξ:XK) (es:List Expr) (f:Av):Prop:= ∃ t:TA,PA X es t/\ ∀ σ ρ H α M Q,SR X.K H α σ ρ->HR X.K H α M->OA X.K H α ξ Q (f ρ M)->t σ H Q
theorem OG.seq {β γ β' γ':Type} {K:PySem.W.Frag} {R:Hp->List Addr->γ->β->Prop} {R':Hp->List Addr->γ'->β'->Prop} {H:Hp} {α:List Addr} {ξ:XK} {Q:γ'->Hp->Prop} {Q1:γ->Hp->Prop} {o:Out β} {f:β->Sto->Out β'}
  (h:OG K R' H α ξ Q (o.bind f)) (k: ∀ d M' v H' α',Ext K H H' α α'->HR K H' α' M'->R H' α' v d->OG K R' H' α' ξ Q (f d M')->Q1 v H'):OG K R H α ξ Q1 o:=by
 cases o with
 |ok d M'=>exact fun v H' α' e hr r=>k d M' v H' α' e hr r (OG.ext (o:=f d M') h e)
 |exc c M'=>exact h
 |bad=>exact h
section
variable {X:Cx} {ξ:XK} {a b e:Expr} {fa fb:Ev} {pos:Pos}
noncomputable def Zg (i:Nat):Ev:=fun ρ M=>match ρ[i]? with | some (some d)=> .ok d M | _=> .bad
noncomputable def eC (d:D):Ev:=fun _ M=> .ok d M
theorem Zb (i:Nat) {x:Str} (hN:X.N[i]?=some x:=by rfl) (hv:Vis X.env.scope x:=by first | exact Or.inl rfl | exact Or.inr (Or.inl rfl) | exact Or.inr (Or.inr rfl)) (hd:(x == ("__debug__":Str))=false:=by decide)
  (hcd:(x == ("__classdict__":Str))=false:=by decide):DE X ξ (.Name x pos) (Zg i):=by
 refine ⟨_,ZhP hN hv hd hcd,fun σ ρ H α M Q s h q=> ?_⟩
 unfold Zg at q
 cases e:ρ[i]? with
 |none=>rw[e] at q;exact q.elim
 |some o=>
  cases o with
  |none=>rw[e] at q;exact q.elim
  |some d=>
   rw[e] at q
   obtain ⟨v,h1,h2⟩:=s.2 i d e
   exact ⟨v,h1,q v H α Ext.refl h h2⟩
theorem Zc {i:Int} {j pos}:DE X ξ (.Constant (.int i) j pos) (eC (.int i)):=⟨_,ZhQ,fun _ _ H α M _ _ h q=>q _ H α Ext.refl h (.int i)⟩
theorem Zbs {i:Bool} {j pos}:DE X ξ (.Constant (.bool i) j pos) (eC (.bl i)):=⟨_,Zkx,fun _ _ H α M _ _ h q=>q _ H α Ext.refl h (.bl i)⟩
theorem Zii {x:Str} {j pos}:DE X ξ (.Constant (.str x) j pos) (eC (.str x)):=⟨_,ZhR,fun _ _ H α M _ _ h q=>q _ H α Ext.refl h (.str x)⟩
noncomputable abbrev Bo:=D->D->Sto->Out D
noncomputable def e2 (f:Bo) (fa fb:Ev):Ev:=fun ρ M=>(fa ρ M).bind fun x M1=>(fb ρ M1).bind fun y M2=>f x y M2
noncomputable def BO (X:Cx) (ξ:XK) (r:R2) (f:Bo):Prop:= ∀ H α M v w x y Q,HR X.K H α M->Rep X.K H α v x->Rep X.K H α w y->OP X.K H α ξ Q (f x y M)->r v w H Q
theorem two {r:R2} {f:Bo} (hb:BO X ξ r f) {ta tb:TE} (qa: ∀ σ ρ H α M Q,SR X.K H α σ ρ->HR X.K H α M->OP X.K H α ξ Q (fa ρ M)->ta σ H Q)
  (qb: ∀ σ ρ H α M Q,SR X.K H α σ ρ->HR X.K H α M->OP X.K H α ξ Q (fb ρ M)->tb σ H Q): ∀ σ ρ H α M Q,SR X.K H α σ ρ->HR X.K H α M->OP X.K H α ξ Q (e2 f fa fb ρ M)->tOp r ta tb σ H Q:=by
 intro σ ρ H α M Q s h q
 refine qa σ ρ H α M _ s h (OG.seq q fun x M1 v H1 α1 e1 h1 r1 q1=> ?_)
 refine qb σ ρ H1 α1 M1 _ (s.mono e1) h1 (OG.seq q1 fun y M2 w H2 α2 e2 h2 r2 q2=> ?_)
 exact hb H2 α2 M2 v w x y Q h2 (Rep.mono e2 r1) r2 q2
theorem Zdg {op:Operator} {r:R2} {f:Bo} (ho:OpR X (binaryOp op) r) (hf:BO X ξ r f) (ha:DE X ξ a fa) (hb:DE X ξ b fb):DE X ξ (.BinOp a op b pos) (e2 f fa fb):=by
 obtain ⟨ta,ha,qa⟩:=ha
 obtain ⟨tb,hb,qb⟩:=hb
 exact ⟨_,ZkD ho ha hb,two hf qa qb⟩
theorem Zd3 {op:CmpOp} {r:R2} {f:Bo} (ho:OpR X (compareOp op) r) (hf:BO X ξ r f) (ha:DE X ξ a fa) (hb:DE X ξ b fb) (hm:behindInMarks op b=false:=by first | exact ZfK _ | with_unfolding_all rfl):DE X ξ (.Compare a [op] [b] pos) (e2 f fa fb):=by
 obtain ⟨ta,ha,qa⟩:=ha
 obtain ⟨tb,hb,qb⟩:=hb
 exact ⟨_,Zgr ho ha hb hm,two hf qa qb⟩
noncomputable def tv (f:Ev):Tv:=fun ρ M=>(f ρ M).bind fun x M1=>match x with | .bl k=> .ok k M1 | _=> .bad
theorem Zij {t:TE} {f:Ev} (qa: ∀ σ ρ H α M Q,SR X.K H α σ ρ->HR X.K H α M->OP X.K H α ξ Q (f ρ M)->t σ H Q): ∀ σ ρ H α M Q,SR X.K H α σ ρ->HR X.K H α M->OT X.K H α ξ Q (tv f ρ M)->Zh5 t σ H Q:=by
 intro σ ρ H α M Q s h q
 refine qa σ ρ H α M _ s h (OG.seq q fun x M1 v H1 α1 e1 h1 r1 q1=> ?_)
 cases r1 with
 |bl k=>exact ⟨k,rfl,q1 k H1 α1 Ext.refl h1 rfl⟩
 |_=>exact q1.elim
theorem Z4 {op:CmpOp} {r:R2} {f:Bo} (ho:OpR X (compareOp op) r) (hf:BO X ξ r f) (ha:DE X ξ a fa) (hb:DE X ξ b fb) (hm:behindInMarks op b=false:=by first | exact ZfK _ | with_unfolding_all rfl):DT X ξ (.Compare a [op] [b] pos) (tv (e2 f fa fb)):=by
 obtain ⟨ta,ha,qa⟩:=ha
 obtain ⟨tb,hb,qb⟩:=hb
 exact ⟨_,Zgs ho ha hb hm,Zij (two hf qa qb)⟩
theorem ZaF (h:DE X ξ e fa) (he: ∀ whole,isTrue e X.env whole=(do let v <- whole;standAt e.pos;holding [v] (truthy v)):=by intro _;rfl):DT X ξ e (tv fa):=by
 obtain ⟨ta,ha,qa⟩:=h
 exact ⟨_,ZhS ha he,Zij qa⟩
variable {ga gb:Tv} {rest:List Expr}
noncomputable def Zd4 (f g:Tv):Tv:=fun ρ M=>(f ρ M).bind fun k M1=>if k=true then g ρ M1 else .ok false M1
noncomputable def Zd5 (f g:Tv):Tv:=fun ρ M=>(f ρ M).bind fun k M1=>if k=true then .ok true M1 else g ρ M1
noncomputable def Zax (f:Tv):Tv:=fun ρ M=>(f ρ M).bind fun k M1=> .ok (!k) M1
theorem Zd6 (ha:DT X ξ a ga):DW X ξ (.BoolOp .And [a] pos) ga:=let ⟨_,h,q⟩:=ha;⟨_,pw_and1 h,q⟩
theorem ZbT (ha:DT X ξ a ga):DW X ξ (.BoolOp .Or [a] pos) ga:=let ⟨_,h,q⟩:=ha;⟨_,pw_or1 h,q⟩
theorem ZfP (ha:DT X ξ a ga) (hb:DW X ξ (.BoolOp .And (b :: rest) pos) gb):DW X ξ (.BoolOp .And (a :: b :: rest) pos) (Zd4 ga gb):=by
 obtain ⟨ta,ha,qa⟩:=ha
 obtain ⟨tb,hb,qb⟩:=hb
 refine ⟨_,pw_and ha hb,fun σ ρ H α M Q s h q=> ?_⟩
 refine qa σ ρ H α M _ s h (OG.seq q fun k M1 v H1 α1 e1 h1 r1 q1=> ?_)
 cases r1
 cases k with
 |true=>exact Zih (qb σ ρ H1 α1 M1 Q (s.mono e1) h1 q1)
 |false=>exact Zig (q1 false H1 α1 Ext.refl h1 rfl)
theorem Zdh (ha:DT X ξ a ga) (hb:DW X ξ (.BoolOp .Or (b :: rest) pos) gb):DW X ξ (.BoolOp .Or (a :: b :: rest) pos) (Zd5 ga gb):=by
 obtain ⟨ta,ha,qa⟩:=ha
 obtain ⟨tb,hb,qb⟩:=hb
 refine ⟨_,pw_or ha hb,fun σ ρ H α M Q s h q=> ?_⟩
 refine qa σ ρ H α M _ s h (OG.seq q fun k M1 v H1 α1 e1 h1 r1 q1=> ?_)
 cases r1
 cases k with
 |true=>exact Zih (q1 true H1 α1 Ext.refl h1 rfl)
 |false=>exact Zig (qb σ ρ H1 α1 M1 Q (s.mono e1) h1 q1)
theorem ZgE (h:DW X ξ e ga):DT X ξ e ga:=let ⟨_,h,q⟩:=h;⟨_,h.pt,q⟩
theorem ZaT (ha:DT X ξ a ga):DT X ξ (.UnaryOp .Not a pos) (Zax ga):=by
 obtain ⟨ta,ha,qa⟩:=ha
 refine ⟨_,ZhT ha,fun σ ρ H α M Q s h q=> ?_⟩
 refine qa σ ρ H α M _ s h (OG.seq q fun k M1 v H1 α1 e1 h1 r1 q1=> ?_)
 cases r1
 exact q1 (!k) H1 α1 Ext.refl h1 rfl
noncomputable def Ze5 (f g:Ev):Ev:=fun ρ M=>(f ρ M).bind fun x M1=>match x with | .bl k=>if k=true then g ρ M1 else .ok (.bl false) M1 | _=> .bad
noncomputable def Zmv (f g:Ev):Ev:=fun ρ M=>(f ρ M).bind fun x M1=>match x with | .bl k=>if k=true then .ok (.bl true) M1 else g ρ M1 | _=> .bad
noncomputable def Zik (f:Ev):Ev:=fun ρ M=>(f ρ M).bind fun x M1=>match x with | .bl k=> .ok (.bl (!k)) M1 | _=> .bad
theorem Zil {op} (ha:DE X ξ a fa):DE X ξ (.BoolOp op [a] pos) fa:=let ⟨_,h,q⟩:=ha;⟨_,ZhU h,q⟩
theorem Zim (ha:DE X ξ a fa) (hb:DE X ξ (.BoolOp .And (b :: rest) pos) fb):DE X ξ (.BoolOp .And (a :: b :: rest) pos) (Ze5 fa fb):=by
 obtain ⟨ta,ha,qa⟩:=ha
 obtain ⟨tb,hb,qb⟩:=hb
 refine ⟨_,ZhV ha hb,fun σ ρ H α M Q s h q=> ?_⟩
 refine qa σ ρ H α M _ s h (OG.seq q fun x M1 v H1 α1 e1 h1 r1 q1=> ?_)
 cases r1 with
 |bl k=>
  refine ⟨k,rfl,?_⟩
  cases k with
  |true=>exact Zih (qb σ ρ H1 α1 M1 Q (s.mono e1) h1 q1)
  |false=>exact Zig (q1 _ H1 α1 Ext.refl h1 (.bl false))
 |_=>exact q1.elim
noncomputable def eIf (c:Tv) (f g:Ev):Ev:=fun ρ M=>(c ρ M).bind fun k M1=>if k=true then f ρ M1 else g ρ M1
variable {es:List Expr} {fs:Av}
noncomputable def aNil:Av:=fun _ M=> .ok [] M
noncomputable def Zd (f:Ev) (g:Av):Av:=fun ρ M=>(f ρ M).bind fun x M1=>(g ρ M1).bind fun xs M2=> .ok (x :: xs) M2
theorem Zf:DA X ξ [] aNil:=⟨_,ZfL,fun _ _ H α M _ _ h q=>q _ H α Ext.refl h .nil⟩
theorem Za (ha:DE X ξ e fa) (hr:DA X ξ es fs) (hs:starEach (e :: es) X.env=(false,eval e X.env) :: starEach es X.env:=by rfl):DA X ξ (e :: es) (Zd fa fs):=by
 obtain ⟨ta,ha,qa⟩:=ha
 obtain ⟨tb,hb,qb⟩:=hr
 refine ⟨_,Zco ha hb hs,fun σ ρ H α M Q s h q=> ?_⟩
 refine qa σ ρ H α M _ s h (OG.seq q fun x M1 v H1 α1 e1 h1 r1 q1=> ?_)
 refine qb σ ρ H1 α1 M1 _ (s.mono e1) h1 (OG.seq q1 fun y M2 w H2 α2 e2 h2 r2 q2=> ?_)
 exact q2 _ H2 α2 Ext.refl h2 (.cons (Rep.mono e2 r1) r2)
noncomputable def Zcm (f:Av):Ev:=fun ρ M=>(f ρ M).bind fun xs M1=>if xs.length<=1000 then .ok (.tup xs) M1 else .bad
noncomputable def Ze6 (f:Av):Ev:=fun ρ M=>(f ρ M).bind fun xs M1=>if xs.length<=1000 then .ok (.ref M1.length) (M1 ++ [.lst xs]) else .bad
theorem ZgF {n:Nat} (h:n<=1000):n<=sizeLine:=Nat.le_of_lt (ZdX h)
theorem ZaU {x1} (ha:DA X ξ es fs):DE X ξ (.Tuple es x1 pos) (Zcm fs):=by
 obtain ⟨ta,ha,qa⟩:=ha
 refine ⟨_,Zh7 ha,fun σ ρ H α M Q s h q=> ?_⟩
 refine qa σ ρ H α M _ s h (OG.seq q fun xs M1 vs H1 α1 e1 h1 r1 q1=> ?_)
 by_cases hl:xs.length<=1000
 ·rw[if_pos hl] at q1
  refine ⟨by rw[r1.length];exact ZgF hl,fun p hp=>q1 _ _ α1 (Ext.new0 hp) (h1.tup hp) (.tup Zm (Reps.mono (Ext.new0 hp) r1))⟩
 ·rw[if_neg hl] at q1
  exact q1.elim
theorem HR.last {K:PySem.W.Frag} {H:Hp} {α:List Addr} {M:Sto} (h:HR K H α M) (p:Addr):(α ++ [p])[M.length]?=some p:=by
 rw[<- h.len,List.getElem?_append_right (Nat.le_refl _),Nat.sub_self]
 rfl
theorem Zd7 (ha:DA X ξ es fs):DE X ξ (.List es pos) (Ze6 fs):=by
 obtain ⟨ta,ha,qa⟩:=ha
 refine ⟨_,Zh8 ha,fun σ ρ H α M Q s h q=> ?_⟩
 refine qa σ ρ H α M _ s h (OG.seq q fun xs M1 vs H1 α1 e1 h1 r1 q1=> ?_)
 by_cases hl:xs.length<=1000
 ·rw[if_pos hl] at q1
  refine ⟨by rw[r1.length];exact ZgF hl,fun p hp=>q1 _ _ (α1 ++ [p]) (Ext.new hp) (h1.new hp r1) (.ref ⟨h1.last p,Kn.lst Zm⟩)⟩
 ·rw[if_neg hl] at q1
  exact q1.elim
end
end DL
end
section
namespace DL
open PySem PySem.Spec PyProof.Rows L2
open PySem.SeqAt (EqAt RcAt RcNeAt)
noncomputable def ZD (i j:Int):Prop:=Builtin.Int.intBits i<=64\/Builtin.Int.intBits j<=64\/(Builtin.Int.intBits i<=60000000/\Builtin.Int.intBits j<=60000000)
noncomputable instance (i j:Int):Decidable (ZD i j):=by unfold ZD;infer_instance
theorem ZD.ok {i j:Int} (h:ZD i j):IntMulOk i j:=by
 rcases h with h | h | ⟨h1,h2⟩
 ·exact .of_left h
 ·exact .of_right h
 ·exact .of_le h1 h2 (by decide)
theorem Zdi {i j:Int} (m n:Nat) (h1:i.natAbs < 2 ^ m) (h2:j.natAbs < 2 ^ n) (hm:m<=60000000:=by decide) (hn:n<=60000000:=by decide):ZD i j:=
 .inr (.inr ⟨Nat.le_trans (intBits_le_iff.mpr h1) hm,Nat.le_trans (intBits_le_iff.mpr h2) hn⟩)
noncomputable def Zac (j:Int):Prop:=j≠0/\j.natAbs.log2 < 9000
noncomputable instance (j:Int):Decidable (Zac j):=by unfold Zac;infer_instance
section
variable {X:Cx}
theorem ZgG:OpR X (binaryOp .Mult) (rI ZD fun i j=> .int (i * j)):=opI fun _ _ _ _ _ _ _ hc q=>mul_int q hc.ok
theorem Ze7:OpR X (binaryOp .FloorDiv) (rI (fun _ j=>Zac j) fun i j=> .int (i.fdiv j)):=opI fun _ _ _ _ _ _ _ hc q=>floordiv_int hc.1 q (.inl (PyProof.noPylong_of_log2 hc.2))
end
noncomputable def dAdd:Bo:=fun x y M=>match x,y with
 | .int i,.int j=> .ok (.int (i + j)) M
 | .str i,.str j=>if i.length + j.length<=100000 then .ok (.str (i ++ j)) M else .bad
 | .ref n,.ref m=>match M[n]?,M[m]? with
  |some (.lst xs),some (.lst ys)=>if xs.length + ys.length<=10000000 then .ok (.ref M.length) (M ++ [.lst (xs ++ ys)]) else .bad
  |_,_=> .bad
 | .tup xs,.tup ys=>if xs.length + ys.length<=100000/\xs≠[] then .ok (.tup (xs ++ ys)) M else .bad
 |_,_=> .bad
noncomputable def dSub:Bo:=fun x y M=>match x,y with | .int i,.int j=> .ok (.int (i - j)) M | _,_=> .bad
noncomputable def dMul:Bo:=fun x y M=>match x,y with | .int i,.int j=>if ZD i j then .ok (.int (i * j)) M else .bad | _,_=> .bad
noncomputable def dDiv:Bo:=fun x y M=>match x,y with | .int i,.int j=>if Zac j then .ok (.int (i.fdiv j)) M else .bad | _,_=> .bad
noncomputable def dMod:Bo:=fun x y M=>match x,y with | .int i,.int j=>if j≠0 then .ok (.int (i.fmod j)) M else .bad | _,_=> .bad
noncomputable def dPow:Bo:=fun x y M=>match x,y with | .int i,.int j=>if 0<=j/\j<=1000000/\i.natAbs < 2 ^ 64 then .ok (.int (i ^ j.toNat)) M else .bad | _,_=> .bad
noncomputable def dLt:Bo:=fun x y M=>match x,y with | .int i,.int j=> .ok (.bl (decide (i < j))) M | _,_=> .bad
noncomputable def dLe:Bo:=fun x y M=>match x,y with | .int i,.int j=> .ok (.bl (decide (i<=j))) M | _,_=> .bad
noncomputable def dGt:Bo:=fun x y M=>match x,y with | .int i,.int j=> .ok (.bl (decide (j < i))) M | _,_=> .bad
noncomputable def dGe:Bo:=fun x y M=>match x,y with | .int i,.int j=> .ok (.bl (decide (j<=i))) M | _,_=> .bad
theorem Zin {n:Nat} (h:n<=100000):n<=sizeLine:=Nat.le_trans h (by decide)
section
variable {X:Cx} {ξ:XK}
theorem ZaG {r:R2} {f:Bo} {C:Int->Int->Prop} [∀ i j,Decidable (C i j)] {g:Int->Int->D} {gV:Int->Int->V} (hg: ∀ H α i j,Rep X.K H α (gV i j) (g i j))
  (hf: ∀ x y M,f x y M=match x,y with | .int i,.int j=>if C i j then .ok (g i j) M else .bad | _,_=> .bad) (hr: ∀ i j H Q,C i j->Q (gV i j) H->r (.int i) (.int j) H Q):BO X ξ r f:=by
 intro H α M v w x y Q h rv rw' q
 rw[hf] at q
 cases rv<;>first | exact q.elim | skip
 cases rw'<;>first | exact q.elim | skip
 rename_i i j
 by_cases c:C i j
 ·simp only[if_pos c] at q
  exact hr i j H Q c (q _ H α Ext.refl h (hg H α i j))
 ·simp only[if_neg c] at q
  exact q.elim
theorem Zio:BO X ξ (rI0 fun i j=> .int (i - j)) dSub:=ZaG (C:=fun _ _=>True) (fun _ _ i j=> .int (i - j)) (fun x y M=>by cases x<;>cases y<;>simp[dSub]) fun i j H Q _ q=>⟨i,j,rfl,rfl,q⟩
theorem Zip:BO X ξ (rI ZD fun i j=> .int (i * j)) dMul:=ZaG (C:=ZD) (fun _ _ i j=> .int (i * j)) (fun x y M=>by cases x<;>cases y<;>rfl) fun i j H Q c q=>⟨i,j,rfl,rfl,c,q⟩
theorem Ziq:BO X ξ (rI (fun _ j=>Zac j) fun i j=> .int (i.fdiv j)) dDiv:=ZaG (C:=fun _ j=>Zac j) (fun _ _ i j=> .int (i.fdiv j)) (fun x y M=>by cases x<;>cases y<;>rfl) fun i j H Q c q=>⟨i,j,rfl,rfl,c,q⟩
theorem Zir:BO X ξ (rI (fun _ j=>j≠0) fun i j=> .int (i.fmod j)) dMod:=ZaG (C:=fun _ j=>j≠0) (fun _ _ i j=> .int (i.fmod j)) (fun x y M=>by cases x<;>cases y<;>rfl) fun i j H Q c q=>⟨i,j,rfl,rfl,c,q⟩
theorem Zis:BO X ξ (rI Zmq fun i j=> .int (i ^ j.toNat)) dPow:=ZaG (C:=fun i j=>0<=j/\j<=1000000/\i.natAbs < 2 ^ 64) (fun _ _ i j=> .int (i ^ j.toNat)) (fun x y M=>by cases x<;>cases y<;>rfl) fun i j H Q c q=>⟨i,j,rfl,rfl,c,q⟩
theorem Ze8:BO X ξ (rI0 fun i j=> .bl (decide (i < j))) dLt:=ZaG (C:=fun _ _=>True) (fun _ _ i j=> .bl _) (fun x y M=>by cases x<;>cases y<;>simp[dLt]) fun i j H Q _ q=>⟨i,j,rfl,rfl,q⟩
theorem Zit:BO X ξ (rI0 fun i j=> .bl (decide (j < i))) dGt:=ZaG (C:=fun _ _=>True) (fun _ _ i j=> .bl _) (fun x y M=>by cases x<;>cases y<;>simp[dGt]) fun i j H Q _ q=>⟨i,j,rfl,rfl,q⟩
theorem ZkN:BO X ξ (rI0 fun i j=> .bl (decide (j<=i))) dGe:=ZaG (C:=fun _ _=>True) (fun _ _ i j=> .bl _) (fun x y M=>by cases x<;>cases y<;>simp[dGe]) fun i j H Q _ q=>⟨i,j,rfl,rfl,q⟩
theorem ZgH:OpR X (binaryOp .Add) (fun x y H Q=>(rI0 (fun i j=> .int (i + j)) x y H Q\/(∃ i j,x= .str i/\y= .str j/\i.length + j.length<=sizeLine/\Q (.str (i ++ j)) H))\/(rCat x y H Q\/Zgx X.K x y H Q)):=
 OpR.or (OpR.or Zh0 Zda) (OpR.or Zif Zgy)
theorem Ziu:BO X ξ (fun x y H Q=>(rI0 (fun i j=> .int (i + j)) x y H Q\/(∃ i j,x= .str i/\y= .str j/\i.length + j.length<=sizeLine/\Q (.str (i ++ j)) H))\/(rCat x y H Q\/Zgx X.K x y H Q)) dAdd:=by
 intro H α M v w x y Q h rv rw' q
 unfold dAdd at q
 split at q
 ·rename_i i j
  cases rv
  cases rw'
  exact .inl (.inl ⟨i,j,rfl,rfl,q _ H α Ext.refl h (.int (i + j))⟩)
 ·rename_i i j
  cases rv
  cases rw'
  split at q
  ·rename_i c
   exact .inl (.inr ⟨i,j,rfl,rfl,Zin c,q _ H α Ext.refl h (.str _)⟩)
  ·exact q.elim
 ·rename_i n m
  cases rv with
  | @ref p _ hp=>
   cases rw' with
   | @ref p2 _ hp2=>
    split at q
    ·rename_i ds ds2 e1 e2
     split at q
     ·rename_i c
      obtain ⟨xs,g1,r1⟩:=h.at hp e1
      obtain ⟨ys,g2,r2⟩:=h.at hp2 e2
      refine .inr (.inl ⟨p,p2,xs,ys,rfl,rfl,g1,g2,by rw[r1.length,r2.length];exact Nat.le_trans c (by decide),fun l hl=> ?_⟩)
      exact q _ _ (α ++ [l]) (Ext.new hl) (h.new hl (r1.append r2)) (.ref ⟨h.last l,Kn.lst Zm⟩)
     ·exact q.elim
    ·exact q.elim
 ·rename_i ds ds2
  cases rv with
  | @tup p xs _ hp rp=>
   cases rw' with
   | @tup p2 xs2 _ hp2 rp2=>
    split at q
    ·rename_i c
     have nx:xs≠[]:=fun z=>c.2 (by have:=rp.length;rw[z] at this;exact List.eq_nil_of_length_eq_zero this.symm)
     refine .inr (.inr ⟨p,p2,xs,xs2,rfl,rfl,(SqT.of hp),(SqT.of hp2),nx,by rw[rp.length,rp2.length];exact Zin c.1,fun z=> ?_,fun _ l hl=> ?_⟩)
     ·subst z
      cases rp2
      rw[List.append_nil] at q
      exact q _ H α Ext.refl h (.tup hp rp)
     ·exact q _ _ α (Ext.new0 hl) (h.tup hl) (.tup Zm (Reps.mono (Ext.new0 hl) (rp.append rp2)))
    ·exact q.elim
 ·exact q.elim
variable {a b e:Expr} {fa fb:Ev} {pos:Pos}
theorem ZaV (ha:DE X ξ a fa) (hb:DE X ξ b fb):DE X ξ (.BinOp a .Add b pos) (e2 dAdd fa fb):=Zdg ZgH Ziu ha hb
theorem ZbU (ha:DE X ξ a fa) (hb:DE X ξ b fb):DE X ξ (.BinOp a .Sub b pos) (e2 dSub fa fb):=Zdg Zh1 Zio ha hb
theorem ZaH (ha:DE X ξ a fa) (hb:DE X ξ b fb):DE X ξ (.BinOp a .Mult b pos) (e2 dMul fa fb):=Zdg ZgG Zip ha hb
theorem ZfQ (ha:DE X ξ a fa) (hb:DE X ξ b fb):DE X ξ (.BinOp a .FloorDiv b pos) (e2 dDiv fa fb):=Zdg Ze7 Ziq ha hb
theorem ZaW (ha:DE X ξ a fa) (hb:DE X ξ b fb):DE X ξ (.BinOp a .Mod b pos) (e2 dMod fa fb):=Zdg Zgq Zir ha hb
theorem ZbV (ha:DE X ξ a fa) (hb:DE X ξ b fb):DE X ξ (.BinOp a .Pow b pos) (e2 dPow fa fb):=Zdg Zh2 Zis ha hb
noncomputable def Zcr (f:Ev):Ev:=fun ρ M=>(f ρ M).bind fun x M1=>match x with | .int i=> .ok (.int (-i)) M1 | _=> .bad
theorem ZaX (ha:DE X ξ a fa):DE X ξ (.UnaryOp .USub a pos) (Zcr fa):=by
 obtain ⟨ta,ha,qa⟩:=ha
 refine ⟨_,ZkE Zh3 ha,fun σ ρ H α M Q s h q=> ?_⟩
 refine qa σ ρ H α M _ s h (OG.seq q fun x M1 v H1 α1 e1 h1 r1 q1=> ?_)
 cases r1 with
 |int i=>exact ⟨i,rfl,q1 _ H1 α1 Ext.refl h1 (.int (-i))⟩
 |_=>exact q1.elim
noncomputable def atD (xs:List D) (i:Int) (M:Sto):Out D:=match atI xs i with | some d=> .ok d M | none=> .bad
noncomputable def dIx:Bo:=fun x y M=>match x,y with
 | .tup xs,.int i=>atD xs i M
 | .rol xs,.int i=>atD xs i M
 | .ref n,.int i=>match M[n]? with | some (.lst xs)=>atD xs i M | _=> .bad
 |_,_=> .bad
theorem Reps.atI {K:PySem.W.Frag} {H:Hp} {α:List Addr} {vs:List V} {ds:List D} {i:Int} {d:D} (r:Reps K H α vs ds) (h:L2.atI ds i=some d): ∃ v,L2.atI vs i=some v/\Rep K H α v d:=by
 unfold L2.atI at h ⊢
 rw[r.length]
 cases e:ixN ds.length i with
 |none=>rw[e] at h;cases h
 |some j=>
  rw[e] at h
  exact r.get h
theorem ZkO:BO X ξ (fun x y H Q=>Zmr X.K x y H Q\/Zms X.K x y H Q) dIx:=by
 intro H α M v w x y Q h rv rw' q
 have at': ∀ {ds:List D} {i:Int},OP X.K H α ξ Q (atD ds i M)-> ∃ d,L2.atI ds i=some d/\OP X.K H α ξ Q (.ok d M):=fun {ds i} q=>by
  unfold atD at q
  cases e:L2.atI ds i with
  |none=>rw[e] at q;exact q.elim
  |some d=>rw[e] at q;exact ⟨d,rfl,q⟩
 unfold dIx at q
 split at q
 ·rename_i ds i
  cases rw'
  cases rv with
  | @tup p xs _ hp rp=>
   obtain ⟨d,e,q⟩:=at' q
   obtain ⟨v,h1,h2⟩:=rp.atI e
   exact .inr ⟨p,xs,i,v,rfl,rfl,(SqT.of hp),h1,q v H α Ext.refl h h2⟩
 ·rename_i ds i
  cases rw'
  cases rv with
  | @rol p xs _ hp rp=>
   obtain ⟨d,e,q⟩:=at' q
   obtain ⟨v,h1,h2⟩:=rp.atI e
   exact .inl ⟨p,xs,i,v,rfl,rfl,hp.sq,h1,q v H α Ext.refl h h2⟩
 ·rename_i n i
  cases rw'
  cases rv with
  | @ref p _ hp=>
   split at q
   ·rename_i ds e1
    obtain ⟨d,e,q⟩:=at' q
    obtain ⟨xs,g1,r1⟩:=h.at hp e1
    obtain ⟨v,h1,h2⟩:=r1.atI e
    exact .inl ⟨p,xs,i,v,rfl,rfl,SqL.of g1,h1,q v H α Ext.refl h h2⟩
   ·exact q.elim
 ·exact q.elim
theorem ZY (ha:DE X ξ a fa) (hb:DE X ξ b fb) (hs:ZdU b:=by exact fun _ _=>rfl):DE X ξ (.Subscript a b pos) (e2 dIx fa fb):=by
 obtain ⟨ta,ha,qa⟩:=ha
 obtain ⟨tb,hb,qb⟩:=hb
 exact ⟨_,ZkK (IxR.or ZgA Zic) ha hb hs,two ZkO qa qb⟩
end
inductive Kd where
 |non | bl (b:Bool) | int (i:Int) | str (x:Str) | tup (xs:List D) | lst (xs:List D)
noncomputable def kd (M:Sto):D->Option Kd
 | .non=>some .non
 | .bl b=>some (.bl b)
 | .int i=>some (.int i)
 | .str x=>some (.str x)
 | .tup xs=>some (.tup xs)
 | .rol xs=>some (.lst xs)
 | .con xs=>some (.tup xs)
 | .ref n=>match M[n]? with | some (.lst xs)=>some (.lst xs) | _=>none
 | .err _ _=>none
 | .dk _=>none
 | .dt _=>none
noncomputable def eqL (f:D->D->Option Bool):List D->List D->Option Bool
 | [],[]=>some true
 |x :: xs,y :: ys=>match f x y with | some a=>(match eqL f xs ys with | some b=>some (a && b) | none=>none) | none=>none
 |_,_=>some false
noncomputable def eqK (f:D->D->Option Bool):Kd->Kd->Option Bool
 | .non,.non=>some true
 | .bl a,.bl b=>some (a == b)
 | .bl a,.int b=>some ((if a then 1 else 0) == b)
 | .int a,.bl b=>some (a == (if b then 1 else 0))
 | .int a,.int b=>some (a == b)
 | .str a,.str b=>some (a == b)
 | .tup xs,.tup ys=>eqL f xs ys
 | .lst xs,.lst ys=>if xs.length=ys.length then eqL f xs ys else some false
 |_,_=>some false
noncomputable def eqF:Nat->Sto->D->D->Option Bool
 |0,_,_,_=>none
 |n + 1,M,x,y=>match kd M x,kd M y with | some a,some b=>eqK (eqF n M) a b | _,_=>none
inductive Vw (X:Cx) (H:Hp) (α:List Addr) (s:Shared):Kd->Value->Prop where
 |non:Vw X H α s .non .none
 |bl (b:Bool):Vw X H α s (.bl b) (.bool b)
 |int (i:Int) (t:Tok):Vw X H α s (.int i) (.int i t)
 |str (x:Str) (t:Tok):Vw X H α s (.str x) (.str x t)
 |tup {p:Addr} {xs:List V} {ds:List D} {its:List Value}:s.heap.IsTuple p its.toArray->Zu xs its->Reps X.K H α xs ds->Vw X H α s (.tup ds) (.ref p)
 |lst {p:Addr} {xs:List V} {ds:List D} {its:List Value}:s.heap.IsList p its.toArray->Zu xs its->Reps X.K H α xs ds->Vw X H α s (.lst ds) (.ref p)
section
variable {X:Cx} {ξ:XK} {pins:List (Addr × Obj)} {σ:L2.St} {H:Hp} {s:Shared} {α:List Addr} {M:Sto}
theorem vw (I:Inv X pins σ H s) (h:HR X.K H α M) {v:V} {x:D} {u:Value} {k:Kd} (r:Rep X.K H α v x) (ru:ZG v u) (e:kd M x=some k):Vw X H α s k u:=by
 cases r with
 |non=>cases e;cases ru;exact .non
 |bl b=>cases e;cases ru;exact .bl b
 |int i=>cases e;obtain ⟨t,rfl⟩:=ru;exact .int i t
 |str x=>cases e;obtain ⟨t,rfl⟩:=ru;exact .str x t
 |err _ _ _=>cases e
 |dk _=>cases e
 |dt _=>cases e
 | @tup p xs ds hp rp=>
  cases e;cases ru
  obtain ⟨its,h1,h2,_⟩:=I.tuple (SqT.of hp)
  exact .tup h2 h1 rp
 | @con p xs ds hp rp=>
  cases e;cases ru
  obtain ⟨its,h1,h2,_⟩:=I.tuple hp.sq
  exact .tup h2 h1 rp
 | @rol p xs ds hp rp=>
  cases e;cases ru
  obtain ⟨its,h1,h2,_⟩:=I.list hp.sq
  exact .lst h2.isList h1 rp
 | @ref p n hp=>
  cases ru
  cases e1:M[n]? with
  |none=>simp only[kd,e1] at e;cases e
  |some o=>
   cases o with
   |lst ds=>
    simp only[kd,e1] at e
    cases e
    obtain ⟨xs,g1,r1⟩:=h.at hp e1
    obtain ⟨its,h1,h2,_⟩:=I.list (SqL.of g1)
    exact .lst h2.isList h1 r1
noncomputable def Eq3 (A:Around) (s:Shared) (u z:Value) (b:Bool):Prop:=EqAt A s u z b/\RcAt A s u z b/\RcNeAt A s u z (!b)
theorem Zd8 {f:D->D->Option Bool}: ∀ {xs ys:List D} {b:Bool},eqL f xs ys=some b->
  (∀ (j:Nat) x y,xs[j]?=some x->ys[j]?=some y-> ∃ c,f x y=some c)/\
  b=((List.range (min xs.length ys.length)).all (fun j=>match xs[j]?,ys[j]? with | some x,some y=>(f x y).getD false | _,_=>false) && xs.length == ys.length)
 | [],[],b,e=>by
  simp only[eqL,Option.some.injEq] at e
  subst e
  exact ⟨fun j x y h=>(by simp at h),(by simp)⟩
 |x :: xs,[],b,e=>by
  simp only[eqL,Option.some.injEq] at e
  subst e
  exact ⟨fun j x y h1 h2=>(by simp at h2),(by simp)⟩
 | [],y :: ys,b,e=>by
  simp only[eqL,Option.some.injEq] at e
  subst e
  exact ⟨fun j x y h1 h2=>(by simp at h1),(by simp)⟩
 |x :: xs,y :: ys,b,e=>by
  cases e1:f x y with
  |none=>simp only[eqL,e1] at e;cases e
  |some a=>
   cases e2:eqL f xs ys with
   |none=>simp only[eqL,e1,e2] at e;cases e
   |some c=>
    simp only[eqL,e1,e2,Option.some.injEq] at e
    subst e
    obtain ⟨h1,h2⟩:=Zd8 e2
    refine ⟨fun j x' y' g1 g2=> ?_,?_⟩
    ·cases j with
     |zero=>
      simp at g1 g2
      subst g1 g2
      exact ⟨a,e1⟩
     |succ j=>
      simp at g1 g2
      exact h1 j x' y' g1 g2
    ·have em:min (x :: xs).length (y :: ys).length=min xs.length ys.length + 1:=by simp only[List.length_cons];omega
     rw[em,List.range_succ_eq_map,List.all_cons,List.all_map,h2]
     simp[e1,Bool.and_assoc,Function.comp_def]
theorem Ze9 (I:Inv X pins σ H s) (h:HR X.K H α M): ∀ (n:Nat) {v:V} {x y:D} {b:Bool},Rep X.K H α v x->Rep X.K H α v y->eqF n M x y=some b->b=true:=by
 intro n
 induction n with
 |zero=>intro v x y b _ _ e;simp only[eqF] at e;cases e
 |succ n ih=>
  have lists: ∀ (vs:List V) (xs ys:List D) (b:Bool),Reps X.K H α vs xs->Reps X.K H α vs ys->eqL (eqF n M) xs ys=some b->b=true:=by
   intro vs
   induction vs with
   |nil=>
    intro xs ys b r1 r2 e
    cases r1;cases r2
    simp only[eqL,Option.some.injEq] at e
    exact e.symm
   |cons v vs iv=>
    intro xs ys b r1 r2 e
    cases r1 with
    |cons p1 t1=>
     cases r2 with
     |cons p2 t2=>
      rename_i d1 ds1 d2 ds2
      cases e1:eqF n M d1 d2 with
      |none=>simp only[eqL,e1] at e;cases e
      |some a=>
       cases e2:eqL (eqF n M) ds1 ds2 with
       |none=>simp only[eqL,e1,e2] at e;cases e
       |some c=>
        simp only[eqL,e1,e2,Option.some.injEq] at e
        rw[<- e,ih p1 p2 e1,iv _ _ _ t1 t2 e2]
        rfl
  intro v x y b r1 r2 e
  have nl: ∀ {p:Addr} {xs ys:List V},SqT X.K H p xs->SqL X.K H p ys->False:=fun {p xs ys} a c=>by
   obtain ⟨i1,_,⟨o1,g1,c1,_⟩,_⟩:=I.tuple a
   obtain ⟨i2,_,⟨o2,_,g2,c2,_⟩,_⟩:=I.list c
   rw[g1] at g2
   cases g2
   rw[c1] at c2
   exact absurd c2 (by decide)
  have ll: ∀ {p:Addr} {n:Nat} {ds:List D},RefK H α 0 n p->M[n]?=some (.lst ds)-> ∃ vs,SqL X.K H p vs/\Reps X.K H α vs ds:=fun {p n ds} a c=>by
   obtain ⟨xs,g1,r1⟩:=h.at a c
   exact ⟨xs,SqL.of g1,r1⟩
  cases r1 with
  |non=>cases r2;simp only[eqF,kd,eqK,Option.some.injEq] at e;exact e.symm
  |bl c=>cases r2;simp only[eqF,kd,eqK,Option.some.injEq,beq_self_eq_true] at e;exact e.symm
  |int c=>cases r2;simp only[eqF,kd,eqK,Option.some.injEq,beq_self_eq_true] at e;exact e.symm
  |str c=>cases r2;simp only[eqF,kd,eqK,Option.some.injEq,beq_self_eq_true] at e;exact e.symm
  |err _ _ _=>simp[eqF,kd] at e
  |dk _=>simp[eqF,kd] at e
  |dt _=>simp[eqF,kd] at e
  | @tup p xs ds hp rp=>
   cases r2 with
   | @tup _ xs2 ds2 hp2 rp2=>
    cases I.tuple_inj (SqT.of hp) (SqT.of hp2)
    simp only[eqF,kd,eqK] at e
    exact lists _ _ _ _ rp rp2 e
   | @con _ xs2 ds2 hp2 rp2=>
    cases I.tuple_inj (SqT.of hp) hp2.sq
    simp only[eqF,kd,eqK] at e
    exact lists _ _ _ _ rp rp2 e
   | @rol _ xs2 ds2 hp2 rp2=>exact (nl (SqT.of hp) hp2.sq).elim
   |err _ _ _=>simp[eqF,kd] at e
   |dk _=>simp[eqF,kd] at e
   |dt _=>simp[eqF,kd] at e
   | @ref _ n2 hp2=>
    obtain ⟨ys,g⟩:=h.some_at hp2
    exact (nl (SqT.of hp) (SqL.of g)).elim
  | @con p xs ds hp rp=>
   cases r2 with
   | @tup _ xs2 ds2 hp2 rp2=>
    cases I.tuple_inj hp.sq (SqT.of hp2)
    simp only[eqF,kd,eqK] at e
    exact lists _ _ _ _ rp rp2 e
   | @con _ xs2 ds2 hp2 rp2=>
    cases I.tuple_inj hp.sq hp2.sq
    simp only[eqF,kd,eqK] at e
    exact lists _ _ _ _ rp rp2 e
   | @rol _ xs2 ds2 hp2 rp2=>exact (nl hp.sq hp2.sq).elim
   |err _ _ _=>simp[eqF,kd] at e
   |dk _=>simp[eqF,kd] at e
   |dt _=>simp[eqF,kd] at e
   | @ref _ n2 hp2=>
    obtain ⟨ys,g⟩:=h.some_at hp2
    exact (nl hp.sq (SqL.of g)).elim
  | @rol p xs ds hp rp=>
   cases r2 with
   | @tup _ xs2 ds2 hp2 rp2=>exact (nl (SqT.of hp2) hp.sq).elim
   | @con _ xs2 ds2 hp2 rp2=>exact (nl hp2.sq hp.sq).elim
   |err _ _ _=>simp[eqF,kd] at e
   |dk _=>simp[eqF,kd] at e
   |dt _=>simp[eqF,kd] at e
   | @rol _ xs2 ds2 hp2 rp2=>
    cases I.list_inj hp.sq hp2.sq
    simp only[eqF,kd,eqK,if_pos (rp.length.symm.trans rp2.length)] at e
    exact lists _ _ _ _ rp rp2 e
   | @ref _ n2 hp2=>
    cases e1:M[n2]? with
    |none=>simp only[eqF,kd,e1] at e;cases e
    |some o=>
     cases o with
     |lst ds2=>
      obtain ⟨ys,g,r⟩:=ll hp2 e1
      cases I.list_inj hp.sq g
      simp only[eqF,kd,e1,eqK,if_pos (rp.length.symm.trans r.length)] at e
      exact lists _ _ _ _ rp r e
  | @ref p n1 hp=>
   cases e0:M[n1]? with
   |none=>simp only[eqF,kd,e0] at e;cases e
   |some o0=>
    cases o0 with
    |lst ds=>
     obtain ⟨xs,g0,rp⟩:=ll hp e0
     cases r2 with
     | @tup _ xs2 ds2 hp2 rp2=>exact (nl (SqT.of hp2) g0).elim
     | @con _ xs2 ds2 hp2 rp2=>exact (nl hp2.sq g0).elim
     |err _ _ _=>simp[eqF,kd,e0] at e
     |dk _=>simp[eqF,kd,e0] at e
     |dt _=>simp[eqF,kd,e0] at e
     | @rol _ xs2 ds2 hp2 rp2=>
      cases I.list_inj g0 hp2.sq
      simp only[eqF,kd,e0,eqK,if_pos (rp.length.symm.trans rp2.length)] at e
      exact lists _ _ _ _ rp rp2 e
     | @ref _ n2 hp2=>
      cases e1:M[n2]? with
      |none=>simp only[eqF,kd,e0,e1] at e;cases e
      |some o=>
       cases o with
       |lst ds2=>
        obtain ⟨ys,g,r⟩:=ll hp2 e1
        cases I.list_inj g0 g
        simp only[eqF,kd,e0,e1,eqK,if_pos (rp.length.symm.trans r.length)] at e
        exact lists _ _ _ _ rp r e
end
end DL
end
section
namespace DL
open PySem PySem.Spec PyProof.Rows L2
open PySem.SeqAt (EqAt RcAt RcNeAt)
section
variable {X:Cx} {ξ:XK} {pins:List (Addr × Obj)} {σ:L2.St} {H:Hp} {s:Shared} {α:List Addr} {M:Sto}
theorem ZcP {A:Around} {n:Nat} {xs1 xs2:List V} {ds1 ds2:List D} {i1 i2:List Value} {b:Bool} (v1:Zu xs1 i1) (v2:Zu xs2 i2) (r1:Reps X.K H α xs1 ds1) (r2:Reps X.K H α xs2 ds2)
  (ih: ∀ (x y:D) (v w:V) (u z:Value) (b:Bool),eqF n M x y=some b->Rep X.K H α v x->Rep X.K H α w y->ZG v u->ZG w z->EqAt A s u z b) (e:eqL (eqF n M) ds1 ds2=some b):
  ∃ f:Nat->Bool,(∀ (j:Nat) (h1:j < i1.toArray.size) (h2:j < i2.toArray.size),EqAt A s i1.toArray[j] i2.toArray[j] (f j))/\b=((List.range (min i1.toArray.size i2.toArray.size)).all f && i1.toArray.size == i2.toArray.size):=by
 obtain ⟨g1,g2⟩:=Zd8 e
 have l1:i1.toArray.size=ds1.length:=by rw[List.size_toArray,<- v1.length,r1.length]
 have l2:i2.toArray.size=ds2.length:=by rw[List.size_toArray,<- v2.length,r2.length]
 refine ⟨_,fun j h1 h2=> ?_,by rw[l1,l2];exact g2⟩
 have k1:j < ds1.length:=by rw[<- l1];exact h1
 have k2:j < ds2.length:=by rw[<- l2];exact h2
 obtain ⟨c,hc⟩:=g1 j _ _ (List.getElem?_eq_getElem k1) (List.getElem?_eq_getElem k2)
 obtain ⟨v,a1,a2⟩:=r1.get (List.getElem?_eq_getElem k1)
 obtain ⟨w,b1,b2⟩:=r2.get (List.getElem?_eq_getElem k2)
 obtain ⟨u,a3,a4⟩:=v1.get a1
 obtain ⟨z,b3,b4⟩:=v2.get b1
 have q:=ih _ _ v w u z c hc a2 b2 a4 b4
 simp only[List.getElem?_eq_getElem k1,List.getElem?_eq_getElem k2,hc,Option.getD_some]
 have e1:i1.toArray[j]=u:=by
  have:=List.getElem?_eq_some_iff.mp a3
  obtain ⟨_,z⟩:=this
  simpa using z
 have e2:i2.toArray[j]=z:=by
  have:=List.getElem?_eq_some_iff.mp b3
  obtain ⟨_,z⟩:=this
  simpa using z
 rw[e1,e2]
 exact q
theorem Zd9 (I:Inv X pins σ H s) (h:HR X.K H α M) {n:Nat} {x y:D} {v w:V} {p q:Addr} {b:Bool} {A:Around} (e:eqF n M x y=some b) (rx:Rep X.K H α v x) (ry:Rep X.K H α w y) (rv:ZG v (.ref p)) (rw':ZG w (.ref q))
  (k:RcAt A s (.ref p) (.ref q) b) (k':RcNeAt A s (.ref p) (.ref q) (!b)):Eq3 A s (.ref p) (.ref q) b:=by
 refine ⟨?_,k,k'⟩
 by_cases c:p=q
 ·subst c
  cases ZG.inj rv rw'
  rw[Ze9 I h n rx ry e]
  exact EqAt.same _
 ·exact EqAt.of_refs c k
theorem eq3 (I:Inv X pins σ H s) (h:HR X.K H α M): ∀ (n:Nat) (x y:D) (v w:V) (u z:Value) (b:Bool) (A:Around),A.units + n < cLine->eqF n M x y=some b->Rep X.K H α v x->Rep X.K H α w y->ZG v u->ZG w z->Eq3 A s u z b:=by
 intro n
 induction n with
 |zero=>intro x y v w u z b A _ e;simp only[eqF] at e;cases e
 |succ n ih=>
  intro x y v w u z b A hn e rx ry rv rw'
  have hu:A.units < cLine:=by omega
  have e0:=e
  unfold eqF at e
  cases ka:kd M x with
  |none=>rw[ka] at e;cases e
  |some ka'=>
   cases kb:kd M y with
   |none=>rw[ka,kb] at e;cases e
   |some kb'=>
    rw[ka,kb] at e
    have va:=vw I h rx rv ka
    have vb:=vw I h ry rw' kb
    have deep: ∀ (x y:D) (v w:V) (u z:Value) (b:Bool),eqF n M x y=some b->Rep X.K H α v x->Rep X.K H α w y->ZG v u->ZG w z->EqAt A.in1 s u z b:=fun x y v w u z b e a1 a2 a3 a4=>
     (ih x y v w u z b A.in1 (by rw[Around.in1_units];omega) e a1 a2 a3 a4).1
    cases va with
    |non=>
     cases vb<;>simp only[eqK,Option.some.injEq] at e<;>subst e
     ·exact ⟨EqAt.same _,.none_none,.none_none⟩
     ·exact ⟨.none_bool _,.none_bool _,.none_bool _⟩
     ·exact ⟨.none_int _ _,.none_int _ _,.none_int _ _⟩
     ·exact ⟨.none_str _ _,.none_str _ _,.none_str _ _⟩
     ·rename_i g _ _;exact ⟨.none_tuple g hu,.none_tuple g hu,.none_tuple g hu⟩
     ·rename_i g _ _;exact ⟨.none_list g hu,.none_list g hu,.none_list g hu⟩
    |bl c=>
     cases vb<;>simp only[eqK,Option.some.injEq] at e<;>subst e
     ·exact ⟨.bool_none _,.bool_none _,.bool_none _⟩
     ·exact ⟨.bool_bool _ _,.bool_bool _ _,.bool_bool _ _⟩
     ·exact ⟨.bool_int _ _ _,.bool_int _ _ _,.bool_int _ _ _⟩
     ·exact ⟨.bool_str _ _ _,.bool_str _ _ _,.bool_str _ _ _⟩
     ·rename_i g _ _;exact ⟨.bool_tuple _ g hu,.bool_tuple _ g hu,.bool_tuple _ g hu⟩
     ·rename_i g _ _;exact ⟨.bool_list _ g hu,.bool_list _ g hu,.bool_list _ g hu⟩
    |int c t=>
     cases vb<;>simp only[eqK,Option.some.injEq] at e<;>subst e
     ·exact ⟨.int_none _ _,.int_none _ _,.int_none _ _⟩
     ·exact ⟨.int_bool _ _ _,.int_bool _ _ _,.int_bool _ _ _⟩
     ·exact ⟨.int_int _ _ _ _,.int_int _ _ _ _,.int_int _ _ _ _⟩
     ·exact ⟨.int_str _ _ _ _,.int_str _ _ _ _,.int_str _ _ _ _⟩
     ·rename_i g _ _;exact ⟨.int_tuple _ _ g hu,.int_tuple _ _ g hu,.int_tuple _ _ g hu⟩
     ·rename_i g _ _;exact ⟨.int_list _ _ g hu,.int_list _ _ g hu,.int_list _ _ g hu⟩
    |str c t=>
     cases vb<;>simp only[eqK,Option.some.injEq] at e<;>subst e
     ·exact ⟨.str_none _ _,.str_none _ _,.str_none _ _⟩
     ·exact ⟨.str_bool _ _ _,.str_bool _ _ _,.str_bool _ _ _⟩
     ·exact ⟨.str_int _ _ _ _,.str_int _ _ _ _,.str_int _ _ _ _⟩
     ·exact ⟨.str_str _ _ _ _,.str_str _ _ _ _,.str_str _ _ _ _⟩
     ·rename_i g _ _;exact ⟨.str_tuple _ _ g hu,.str_tuple _ _ g hu,.str_tuple _ _ g hu⟩
     ·rename_i g _ _;exact ⟨.str_list _ _ g hu,.str_list _ _ g hu,.str_list _ _ g hu⟩
    | @tup p xs ds its g1 w1 q1=>
     cases vb with
     | @tup p2 xs2 ds2 its2 g2 w2 q2=>
      simp only[eqK] at e
      obtain ⟨f,hf,hb⟩:=ZcP w1 w2 q1 q2 deep e
      subst hb
      exact Zd9 I h e0 rx ry rv rw' (.tuples g1 g2 hu hf) (.tuples g1 g2 hu hf)
     | @lst p2 xs2 ds2 its2 g2 w2 q2=>
      simp only[eqK,Option.some.injEq] at e
      subst e
      exact Zd9 I h e0 rx ry rv rw' (.tuple_list g1 g2 hu) (.tuple_list g1 g2 hu)
     |non=>simp only[eqK,Option.some.injEq] at e;subst e;exact ⟨.tuple_none g1 hu,.tuple_none g1 hu,.tuple_none g1 hu⟩
     |bl c=>simp only[eqK,Option.some.injEq] at e;subst e;exact ⟨.tuple_bool _ g1 hu,.tuple_bool _ g1 hu,.tuple_bool _ g1 hu⟩
     |int c t=>simp only[eqK,Option.some.injEq] at e;subst e;exact ⟨.tuple_int _ _ g1 hu,.tuple_int _ _ g1 hu,.tuple_int _ _ g1 hu⟩
     |str c t=>simp only[eqK,Option.some.injEq] at e;subst e;exact ⟨.tuple_str _ _ g1 hu,.tuple_str _ _ g1 hu,.tuple_str _ _ g1 hu⟩
    | @lst p xs ds its g1 w1 q1=>
     cases vb with
     | @lst p2 xs2 ds2 its2 g2 w2 q2=>
      simp only[eqK] at e
      have l1:its.toArray.size=ds.length:=by rw[List.size_toArray,<- w1.length,q1.length]
      have l2:its2.toArray.size=ds2.length:=by rw[List.size_toArray,<- w2.length,q2.length]
      by_cases c:ds.length=ds2.length
      ·rw[if_pos c] at e
       have hs:its.toArray.size=its2.toArray.size:=by rw[l1,l2,c]
       obtain ⟨f,hf,hb⟩:=ZcP w1 w2 q1 q2 deep e
       rw[hs,Nat.min_self,beq_self_eq_true,Bool.and_true,<- hs] at hb
       subst hb
       exact Zd9 I h e0 rx ry rv rw' (.lists g1 g2 hs hu hf) (.lists g1 g2 hs hu hf)
      ·rw[if_neg c] at e
       have e':false=b:=Option.some.inj e
       subst e'
       have hs:(its.toArray.size != its2.toArray.size)=true:=by rw[l1,l2];simpa using c
       exact Zd9 I h e0 rx ry rv rw' (.lists_lengths g1 g2 hs hu) (.lists_lengths g1 g2 hs hu)
     | @tup p2 xs2 ds2 its2 g2 w2 q2=>
      simp only[eqK,Option.some.injEq] at e
      subst e
      exact Zd9 I h e0 rx ry rv rw' (.list_tuple g1 g2 hu) (.list_tuple g1 g2 hu)
     |non=>simp only[eqK,Option.some.injEq] at e;subst e;exact ⟨.list_none g1 hu,.list_none g1 hu,.list_none g1 hu⟩
     |bl c=>simp only[eqK,Option.some.injEq] at e;subst e;exact ⟨.list_bool _ g1 hu,.list_bool _ g1 hu,.list_bool _ g1 hu⟩
     |int c t=>simp only[eqK,Option.some.injEq] at e;subst e;exact ⟨.list_int _ _ g1 hu,.list_int _ _ g1 hu,.list_int _ _ g1 hu⟩
     |str c t=>simp only[eqK,Option.some.injEq] at e;subst e;exact ⟨.list_str _ _ g1 hu,.list_str _ _ g1 hu,.list_str _ _ g1 hu⟩
end
section
variable {X:Cx} {ξ:XK}
noncomputable def Zkq (X:Cx) (neg:Bool):R2:=fun v w H Q=> ∃ α M x y b,HR X.K H α M/\Rep X.K H α v x/\Rep X.K H α w y/\eqF 12 M x y=some b/\Q (.bl (neg ^^ b)) H
theorem ZcQ (hu:X.A.units + 64 < cLine):OpR X (compareOp .Eq) (Zkq X false):=by
 intro pins s σ H v w u z Q I rv rw' ⟨α,M,x,y,b,h,rx,ry,e,q⟩
 refine (eq3 I h 12 x y v w u z b X.A (by omega) e rx ry rv rw').2.1 _ _ _ _ ⟨.bl b,H,I,rfl,?_⟩
 simpa using q
theorem Zbj (hu:X.A.units + 64 < cLine):OpR X (compareOp .NotEq) (Zkq X true):=by
 intro pins s σ H v w u z Q I rv rw' ⟨α,M,x,y,b,h,rx,ry,e,q⟩
 refine (eq3 I h 12 x y v w u z b X.A (by omega) e rx ry rv rw').2.2 _ _ _ _ ⟨.bl (!b),H,I,rfl,?_⟩
 simpa using q
noncomputable def dEq:Bo:=fun x y M=>match eqF 12 M x y with | some b=> .ok (.bl b) M | none=> .bad
noncomputable def dNe:Bo:=fun x y M=>match eqF 12 M x y with | some b=> .ok (.bl (!b)) M | none=> .bad
theorem Zfa:BO X ξ (Zkq X false) dEq:=by
 intro H α M v w x y Q h rv rw' q
 unfold dEq at q
 cases e:eqF 12 M x y with
 |none=>rw[e] at q;exact q.elim
 |some b=>rw[e] at q;exact ⟨α,M,x,y,b,h,rv,rw',e,by simpa using q _ H α Ext.refl h (.bl b)⟩
theorem Zdj:BO X ξ (Zkq X true) dNe:=by
 intro H α M v w x y Q h rv rw' q
 unfold dNe at q
 cases e:eqF 12 M x y with
 |none=>rw[e] at q;exact q.elim
 |some b=>rw[e] at q;exact ⟨α,M,x,y,b,h,rv,rw',e,by simpa using q _ H α Ext.refl h (.bl (!b))⟩
noncomputable def isP:D->D->Option Bool
 | .non,.non=>some true
 | .bl a,.bl b=>some (a == b)
 |_,.non=>some false
 |_,.bl _=>some false
 |_,_=>none
noncomputable def dIs:Bo:=fun x y M=>match isP x y with | some b=> .ok (.bl b) M | none=> .bad
noncomputable def ZfR:Bo:=fun x y M=>match isP x y with | some b=> .ok (.bl (!b)) M | none=> .bad
noncomputable def Ziv:D->Bool
 | .non=>true
 | .bl _=>true
 | .int _=>true
 | .str _=>true
 |_=>false
noncomputable def ZnH:D->D->Bool
 | .non,.non=>true
 | .bl a,.bl b=>a == b
 | .bl a,.int b=>(if a then 1 else 0) == b
 | .int a,.bl b=>a == (if b then 1 else 0)
 | .int a,.int b=>a == b
 | .str a,.str b=>a == b
 |_,_=>false
noncomputable def ZdA (M:Sto):D->Option (List D)
 | .tup xs=>some xs
 | .rol xs=>some xs
 | .con xs=>some xs
 | .ref n=>match M[n]? with | some (.lst xs)=>some xs | _=>none
 |_=>none
theorem Zea {K:PySem.W.Frag} {H:Hp} {α:List Addr} {M:Sto} (h:HR K H α M) {v:V} {x:D} {ds:List D} (r:Rep K H α v x) (e:ZdA M x=some ds): ∃ p xs,v= .ref p/\(SqL K H p xs\/SqT K H p xs)/\Reps K H α xs ds:=by
 cases r with
 | @tup p xs ds hp rp=>cases e;exact ⟨p,xs,rfl,.inr (SqT.of hp),rp⟩
 | @con p xs ds hp rp=>cases e;exact ⟨p,xs,rfl,.inr hp.sq,rp⟩
 | @rol p xs ds hp rp=>cases e;exact ⟨p,xs,rfl,.inl hp.sq,rp⟩
 | @ref p n hp=>
  cases e1:M[n]? with
  |none=>simp only[ZdA,e1] at e;cases e
  |some o=>
   cases o with
   |lst es=>
    simp only[ZdA,e1] at e
    cases e
    obtain ⟨xs,g1,r1⟩:=h.at hp e1
    exact ⟨p,xs,rfl,.inl (SqL.of g1),r1⟩
 |_=>cases e
noncomputable def inD (x y:D) (M:Sto):Option Bool:=match ZdA M y with | some ds=>if Ziv x=true/\ds.all Ziv=true then some (ds.any fun y=>ZnH y x) else none | none=>none
variable {e:Expr} {es:List Expr} {fs:Av} {fa:Ev} {p pos:Pos} {x:Str} {id T:String} {r:List V->Hp->VK->Prop} {f:List D->Sto->Out D}
noncomputable def Zl (f:List D->Sto->Out D) (fs:Av):Ev:=fun ρ M=>(fs ρ M).bind f
noncomputable def CO (X:Cx) (ξ:XK) (r:List V->Hp->VK->Prop) (f:List D->Sto->Out D):Prop:= ∀ H α M vs ds Q,HR X.K H α M->Reps X.K H α vs ds->OP X.K H α ξ Q (f ds M)->r vs H Q
theorem Zx (hc:Za9 X (.builtin id) r) (hf:CO X ξ r f) (hm:X.mg x=none) (hv:bootBuiltins x=some (.builtin id)) (ha:DA X ξ (e :: es) fs) (hg:Gl X x:=by rfl) (hn:x≠"__name__":=by decide) (hdb:(x == ("__debug__":Str))=false:=by decide)
  (he:starEach (e :: es) X.env=(false,eval e X.env) :: starEach es X.env:=by rfl) (hpl:(backTo pos (starEach es X.env)).any (·.1)=false:=by rfl):DE X ξ (.Call (.Name x p) (e :: es) [] pos) (Zl f fs):=by
 obtain ⟨ta,ha,qa⟩:=ha
 refine ⟨_,ZcL hc hg hm hv ha hn hdb he hpl,fun σ ρ H α M Q s h q=> ?_⟩
 exact qa σ ρ H α M _ s h (OG.seq q fun ds M1 vs H1 α1 e1 h1 r1 q1=>hf H1 α1 M1 vs ds Q h1 r1 q1)
theorem Zeb (hc:Za9 X (.type T) r) (hf:CO X ξ r f) (hm:X.mg x=none) (hv:bootBuiltins x=some (.type T)) (ha:DA X ξ (e :: es) fs) (hg:Gl X x:=by rfl) (hn:x≠"__name__":=by decide) (hdb:(x == ("__debug__":Str))=false:=by decide)
  (he:starEach (e :: es) X.env=(false,eval e X.env) :: starEach es X.env:=by rfl) (hpl:(backTo pos (starEach es X.env)).any (·.1)=false:=by rfl):DE X ξ (.Call (.Name x p) (e :: es) [] pos) (Zl f fs):=by
 obtain ⟨ta,ha,qa⟩:=ha
 refine ⟨_,ZdR hc hg hm hv ha hn hdb he hpl,fun σ ρ H α M Q s h q=> ?_⟩
 exact qa σ ρ H α M _ s h (OG.seq q fun ds M1 vs H1 α1 e1 h1 r1 q1=>hf H1 α1 M1 vs ds Q h1 r1 q1)
noncomputable def bLen:List D->Sto->Out D:=fun ds M=>match ds with
 | [x]=>match ZdA M x with | some xs=> .ok (.int xs.length) M | none=> .bad
 |_=> .bad
theorem Zad:CO X ξ (fun xs H Q=> ∃ p ys,xs=[.ref p]/\(SqL X.K H p ys\/SqT X.K H p ys)/\Q (.int ys.length) H) bLen:=by
 intro H α M vs ds Q h rs q
 unfold bLen at q
 cases rs with
 |nil=>exact q.elim
 | @cons v x vs ds r t=>
  cases t with
  |cons _ _=>exact q.elim
  |nil=>
  cases e:ZdA M x with
  |none=>simp only[e] at q;exact q.elim
  |some ys=>
   simp only[e] at q
   obtain ⟨p,xs,rfl,h2,h3⟩:=Zea h r e
   exact ⟨p,xs,rfl,h2,by rw[h3.length];exact q _ H α Ext.refl h (.int _)⟩
noncomputable def ZnI:List D->Sto->Out D:=fun ds M=>match ds with | [.int i]=> .ok (.int (if i < 0 then -i else i)) M | _=> .bad
noncomputable def ZnJ:List D->Sto->Out D:=fun ds M=>match ds with | [.int i,.int j]=> .ok (.int (if j > i then j else i)) M | _=> .bad
noncomputable def ZnK:List D->Sto->Out D:=fun ds M=>match ds with | [.int i,.int j]=> .ok (.int (if j < i then j else i)) M | _=> .bad
noncomputable def Zmw:List D->Sto->Out D:=fun ds M=>match ds with | [.int i]=> .ok (.int i) M | [.bl k]=> .ok (.int (if k then 1 else 0)) M | _=> .bad
noncomputable def bList:List D->Sto->Out D:=fun ds M=>match ds with
 | [x]=>match ZdA M x with | some xs=> .ok (.ref M.length) (M ++ [.lst xs]) | none=> .bad
 |_=> .bad
theorem ZgI:CO X ξ (fun xs H Q=> ∃ p ys,xs=[.ref p]/\(SqL X.K H p ys\/SqT X.K H p ys)/\ ∀ l,H l=none->Q (.ref l) (upd H l (.lst ys))) bList:=by
 intro H α M vs ds Q h rs q
 unfold bList at q
 cases rs with
 |nil=>exact q.elim
 | @cons v x vs ds r t=>
  cases t with
  |cons _ _=>exact q.elim
  |nil=>
  cases e:ZdA M x with
  |none=>simp only[e] at q;exact q.elim
  |some ys=>
   simp only[e] at q
   obtain ⟨p,xs,rfl,h2,h3⟩:=Zea h r e
   exact ⟨p,xs,rfl,h2,fun l hl=>q _ _ (α ++ [l]) (Ext.new hl) (h.new hl h3) (.ref ⟨h.last l,Kn.lst Zm⟩)⟩
noncomputable def Zab (M:Sto) (x:D):Option String:=match kd M x with
 |some .non=>some "NoneType"
 |some (.bl _)=>some "bool"
 |some (.int _)=>some "int"
 |some (.str _)=>some "str"
 |some (.tup _)=>some "tuple"
 |some (.lst _)=>some "list"
 |none=>none
noncomputable def ZaY (t T:String):Bool:=t == T || (t == "bool" && T == "int")
noncomputable def ZdB (T:String) (f:Ev):Ev:=fun ρ M=>(f ρ M).bind fun x M1=>match Zab M1 x with | some t=> .ok (.bl (ZaY t T)) M1 | none=> .bad
noncomputable def ZnL (X:Cx) (T:String):List V->Hp->VK->Prop:=fun vs H Q=> ∃ v α M x t,vs=[v,.ty T]/\HR X.K H α M/\Rep X.K H α v x/\Zab M x=some t/\Q (.bl (ZaY t T)) H
structure Kit (K:PySem.W.Frag) (T:String):Prop where
 non:PySem.W.kitOne K (.type "NoneType") (.type T)=some (ZaY "NoneType" T)
 bl:PySem.W.kitOne K (.type "bool") (.type T)=some (ZaY "bool" T)
 int:PySem.W.kitOne K (.type "int") (.type T)=some (ZaY "int" T)
 str:PySem.W.kitOne K (.type "str") (.type T)=some (ZaY "str" T)
 tup:PySem.W.kitOne K (.type "tuple") (.type T)=some (ZaY "tuple" T)
 lst:PySem.W.kitOne K (.type "list") (.type T)=some (ZaY "list" T)
theorem ZgJ {K:PySem.W.Frag}:Kit K "int":=⟨rfl,rfl,rfl,rfl,rfl,rfl⟩
theorem Zfb {K:PySem.W.Frag}:Kit K "bool":=⟨rfl,rfl,rfl,rfl,rfl,rfl⟩
theorem Zec {K:PySem.W.Frag}:Kit K "tuple":=⟨rfl,rfl,rfl,rfl,rfl,rfl⟩
theorem ZcR {K:PySem.W.Frag}:Kit K "list":=⟨rfl,rfl,rfl,rfl,rfl,rfl⟩
theorem Zfc (kt:Kit X.K T):Za9 X (.builtin "isinstance") (ZnL X T):=by
 intro pins s σ H vs us Q I rs ⟨v,α,M,x,t,e1,h,rx,et,q⟩
 subst e1
 obtain ⟨u,w,rfl,ru,rw'⟩:=Zh6 rs
 cases rw'
 unfold Zab at et
 cases ek:kd M x with
 |none=>rw[ek] at et;cases et
 |some k=>
  rw[ek] at et
  have va:=vw I h rx ru ek
  have fin: ∀ tk,EP X pins σ Q (.bool (ZaY t T)) { s with toks:=tk }:=fun tk=>⟨.bl _,H,I.tok tk,rfl,q⟩
  cases va with
  |non=>cases et;exact PySem.W.kia_one PySem.W.kitx_none I.kIn True.intro kt.non (fun z=>nomatch z) fin
  |bl b=>cases et;exact PySem.W.kia_one PySem.W.kitx_bool I.kIn True.intro kt.bl (fun z=>nomatch z) fin
  |int i t=>cases et;exact PySem.W.kia_one PySem.W.kitx_int I.kIn True.intro kt.int (fun z=>nomatch z) fin
  |str i t=>cases et;exact PySem.W.kia_one PySem.W.kitx_str I.kIn True.intro kt.str (fun z=>nomatch z) fin
  |tup g _ _=>cases et;obtain ⟨o,h1,h2,_⟩:=g;exact PySem.W.kia_one PySem.W.kitx_tuple I.kIn ⟨o,h1,h2⟩ kt.tup (fun z=>nomatch z) fin
  |lst g _ _=>cases et;obtain ⟨o,h1,h2,_⟩:=g;exact PySem.W.kia_one PySem.W.kitx_list I.kIn ⟨o,h1,h2⟩ kt.lst (fun z=>nomatch z) fin
theorem ZbW {y:Str} {p2:Pos} (kt:Kit X.K T) (hm:X.mg "isinstance"=none) (hmT:X.mg y=none) (hvT:bootBuiltins y=some (.type T)) (ha:DE X ξ e fa) (hg:Gl X "isinstance":=by rfl) (hgT:Gl X y:=by rfl) (hn:y≠"__name__":=by decide) (hdb:(y == ("__debug__":Str))=false:=by decide)
  (he:starEach [e,.Name y p2] X.env=(false,eval e X.env) :: starEach [.Name y p2] X.env:=by rfl) (he2:starEach [.Name y p2] X.env=(false,eval (.Name y p2) X.env) :: starEach [] X.env:=by rfl) (hpl:(backTo pos (starEach [.Name y p2] X.env)).any (·.1)=false:=by rfl):DE X ξ (.Call (.Name "isinstance" p) [e,.Name y p2] [] pos) (ZdB T fa):=by
 obtain ⟨ta,ha,qa⟩:=ha
 refine ⟨_,ZcL (Zfc kt) hg hm (by with_unfolding_all rfl) (Zco ha (Zco (Zgj hgT hmT hvT (v:= .ty T) rfl hn hdb) ZfL he2) he) (by decide) (by decide) he hpl,fun σ ρ H α M Q s h q=> ?_⟩
 refine qa σ ρ H α M _ s h (OG.seq q fun x M1 v H1 α1 e1 h1 r1 q1=> ?_)
 cases et:Zab M1 x with
 |none=>simp only[et] at q1;exact q1.elim
 |some t=>
  simp only[et] at q1
  exact ⟨v,α1,M1,x,t,rfl,h1,r1,et,q1 _ H1 α1 Ext.refl h1 (.bl _)⟩
end
end DL
end
section
namespace DL
open PySem PySem.Spec PyProof.Rows L2
noncomputable def CXE (P:Program) (w:World):CXT:=fun outer H s E e s'=> ∃ (ea C:Addr) (dct:Option Addr) (B:Heap) (H':Hp),e= .ref ea/\s'.os=s.os/\AllBare s'.gens/\Un (frs outer) [] H H' s.heap s'.heap/\HOk P w H' s'.heap/\
 DQ.Fly B outer ea (.ref C) dct .none s'.heap/\(∀ b u,H' b=some u-> ∃ o,B.get? b=some o)/\(∀ b o,s.heap.get? b=some o->b ∉ frs outer-> ∃ o',B.get? b=some o')/\E (.ref C) dct H'
structure Thr (X:Cx) (ξ:XK):Prop where
 own:PassesOwn (model X.prog X.w) X.A X.env X.xe
 ps:ZcJ (CXE X.prog X.w) X ξ
 mak: ∀ (pins:List (Addr × Obj)) (σ:L2.St) (H:Hp) (s:Shared) (h':Heap) (e:Addr) (oe:Obj) (vs:Array Value) (C:Addr),Inv X pins σ H s->(∀ b o,s.heap.get? b=some o->h'.get? b=some o)->s.heap.get? e=none->h'.get? e=some oe->oe.cls= .ref C->oe.dict=none->
  oe.data= .fields vs->vs[1]?=some .none->vs[2]?=some .none->ξ (.ref C) none H->X.xe (.ref e) { s with heap:=h' }
theorem ZbX {h b1 b2:Heap}: ∀ {l:List Env},h.FunFrames b1 l->(∀ b∈frs l,b2.get? b=none)->h.FunFrames b2 l
 | [],_,_=>trivial
 |env :: r,⟨h1,⟨L,o,h2,h3,h4,h5⟩,h6⟩,k=>⟨h1,⟨L,o,h2,k L (by unfold frs;rw[List.filterMap_cons,h2];exact List.mem_cons_self),h4,h5⟩,ZbX h6 fun b hb=>k b (by
   unfold frs
   rw[List.filterMap_cons,h2]
   exact List.mem_cons_of_mem _ hb)⟩
section
variable {X:Cx} {pins:List (Addr × Obj)} {σ:L2.St} {H H':Hp} {s:Shared} {h1 h2 B:Heap}
theorem ZfS (hx:X.ex=[]) (I:Inv X pins σ H s) (u:Un (frs X.stack) [] H H' s.heap h1) (hok:HOk X.prog X.w H' h1) (t1: ∀ b q,H' b=some q-> ∃ o,B.get? b=some o) (t2: ∀ b o,s.heap.get? b=some o->b ∉ frs X.stack-> ∃ o',B.get? b=some o')
  (st1:B.StaysIn h1) (st2:B.StaysIn h2) (up:h1.UpToSlots h2):Un X.fs [] X.H₀ H' X.s₀.heap h2/\HOk X.prog X.w H' h2/\ ∀ b o,X.s₀.heap.get? b=some o->b ∉ X.fs-> ∃ o',B.get? b=some o':=by
 have kB: ∀ b ob o,B.get? b=some ob->h1.get? b=some o->h2.get? b=some o:=fun b ob o e x=>by
  have z:=st1 b ob e
  rw[x] at z
  cases z
  exact st2 b _ e
 have nx: ∀ b,b ∉ X.ex:=fun b=>by rw[hx];simp
 have nL: ∀ b o,X.s₀.heap.get? b=some o->b ∉ X.fs->b ∉ frs X.stack:=fun b o e n z=>by
  rcases List.mem_cons.mp (I.stkSub b z) with q | q
  ·exact absurd (Heap.lt_size e) (by rw[q];exact Nat.not_lt_of_le I.ok.above)
  ·exact n q
 have th: ∀ b o,X.s₀.heap.get? b=some o->b ∉ X.fs-> ∃ o',B.get? b=some o':=fun b o e n=>by
  obtain ⟨o',e'⟩:=I.base.there b o e (nx b)
  exact t2 b o' e' (nL b o e n)
 have sl: ∀ b o,X.s₀.heap.get? b=some o->X.H₀ b=none->b∈X.fs-> ∃ sl,h2.get? b=some { o with slots:=sl }:=fun b o e n hb=>by
  obtain ⟨s1,e1⟩:=I.base.slot b o e n hb (nx b)
  obtain ⟨s2,e2⟩:=u.any e1 (I.base.free b o e n (nx b)) (by simp)
  obtain ⟨_,o',g1,g2⟩:=I.ok.funs.mem hb
  rw[e] at g1
  cases g1
  obtain ⟨s3,e3⟩:=up b _ e2 g2
  exact ⟨s3,e3⟩
 refine ⟨⟨fun b o e n hb _=> ?_,fun b o e n hb _=>sl b o e n hb,fun b o e n _=> ?_,fun b o e _=> ?_,fun b xs e=>u.tups b xs (I.base.tups b xs e),fun b o xs e=>u.frzs b o xs (I.base.frzs b o xs e),fun b ps e=> ?_⟩,fun a o e=> ?_,th⟩
 ·obtain ⟨ob,g⟩:=th b o e hb
  exact kB b ob o g (u.keep b o (I.base.keep b o e n hb (nx b)) (I.base.free b o e n (nx b)) (nL b o e hb) (by simp))
 ·obtain ⟨o',e'⟩:=I.base.there b o e (nx b)
  exact u.free b o' e' (I.base.free b o e n (nx b)) (by simp)
 ·by_cases hb:b∈X.fs
  ·obtain ⟨s1,e1⟩:=sl b o e (I.ok.frf b hb) hb
   exact ⟨_,e1⟩
  ·obtain ⟨ob,g⟩:=th b o e hb
   exact ⟨ob,st2 b ob g⟩
 ·obtain ⟨m1,e1⟩:=I.base.tbls b ps e
  obtain ⟨m2,e2⟩:=u.tbls b _ e1
  exact ⟨m1 ++ m2,by rw[e2,Array.append_assoc]⟩
 ·refine (hok a o e).stay (fun b q hb x=> ?_) (fun _ q=>q) fun _ _ q=>q
  have tr: ∃ q,H' b=some q:=by
   rcases hb with z | z
   ·exact ⟨o,z ▸ e⟩
   ·exact ⟨_,z⟩
  obtain ⟨q',z⟩:=tr
  obtain ⟨ob,g⟩:=t1 b q' z
  exact kB b ob q g x
end
theorem Zfd {P:Program} {w:World} {H:Hp} {h:Heap} {a:Addr} {o:HO} (x:Zav P w H h a o): ∃ ob,h.get? a=some ob:=by
 cases o with
 |lst xs=>obtain ⟨_,_,_,_,e⟩:=x;exact ⟨_,e⟩
 |tup xs=>obtain ⟨_,_,_,ob,e,_⟩:=x;exact ⟨_,e⟩
 |dK kvs=>obtain ⟨_,_,_,_,o,_,_,e,_⟩:=x;exact ⟨_,e⟩
 |dT kvs=>obtain ⟨_,_,_,_,o,_,_,e,_⟩:=x;exact ⟨_,e⟩
 |set S n=>obtain ⟨o,_,_,_,e,_⟩:=x;exact ⟨_,e⟩
 |ins C dx fs=>obtain ⟨_,_,_,e,_⟩:=x;exact ⟨_,e⟩
 |own y=>exact x
 |xd fs=>obtain ⟨_,⟨_,_,_,e,_⟩,_⟩:=x;exact ⟨_,e⟩
 |rng lo hi=>obtain ⟨_,_,_,e⟩:=x;exact ⟨_,e⟩
 |frz ob u=>obtain ⟨e,_⟩:=x;exact ⟨_,e⟩
 |tbl ps=>exact ⟨_,(show h.get? a=some _ from x)⟩
 |met f y=>exact ⟨_,(show h.get? a=some _ from x)⟩
 |ext φ=>obtain ⟨_,e,_⟩:=x;exact e
noncomputable def ZeO (h:Heap) (l:List Addr):Heap:=ZeN h fun b=>if b∈l then some (.own 0) else none
theorem ZcS {h:Heap} {l:List Addr} {b:Addr} {o:Obj} (e:h.get? b=some o) (n:b ∉ l):(ZeO h l).get? b=some o:=ZcH e (if_neg n)
theorem Zcs {h:Heap} {l:List Addr} {b:Addr} {o:Obj} (e:(ZeO h l).get? b=some o):h.get? b=some o/\b ∉ l:=by
 obtain ⟨a,n⟩:=ZdJ e
 refine ⟨a,fun z=> ?_⟩
 simp only[if_pos z] at n
 cases n
theorem Zed {h:Heap} {l:List Addr} {b:Addr} (n:b∈l):(ZeO h l).get? b=none:=by
 cases q:(ZeO h l).get? b with
 |none=>rfl
 |some o=>exact absurd n (Zcs q).2
theorem Ziw {P:Program} {w:World} {K:PySem.W.Frag} {mg:Str->Option Value} {base:Heap} {N:List Str} {qual:Str} {scope:Scope} {f:Addr} {cd:Value} {A:Around} {outer:List Env} {s:Shared} {H:Hp} {E:XK}:
  Thr (Zcl (CXE P w) P w K mg base N qual scope f cd A outer s H E) E:=by
 refine ⟨PassesOwn.leaving,fun pins σ H1 s1 e s2 I h=> ?_,fun pins σ H1 s1 h' e oe vs C I k hn he hc hdi hd v1 v2 q=> ?_⟩
 ·obtain ⟨ea,C,dct,B,H2,rfl,os,bare,un,hok,fl,t1,t2,q⟩:=h
  refine DQ.ZdY (outer:=outer) I.ok.frames rfl fl fun h3 f3 up=> ?_
  obtain ⟨a1,a2,a3⟩:=ZfS rfl I un hok t1 t2 fl.stay f3.stay up
  exact ⟨ea,C,dct,B,H2,rfl,os.trans I.os,bare,a1,a2,f3,t1,a3,q⟩
 ·have st:=I.stack
  have t2: ∀ b o,s1.heap.get? b=some o->b ∉ frs (Zcl (CXE P w) P w K mg base N qual scope f cd A outer s H E).stack-> ∃ o',(ZeO s1.heap (frs (Zcl (CXE P w) P w K mg base N qual scope f cd A outer s H E).stack)).get? b=some o':=fun b o x n=>⟨o,ZcS x n⟩
  have hs:(ZeO s1.heap (frs (Zcl (CXE P w) P w K mg base N qual scope f cd A outer s H E).stack)).StaysIn h':=fun b o x=>k b o (Zcs x).1
  have hl:h'.FunFrames (ZeO s1.heap (frs (Zcl (CXE P w) P w K mg base N qual scope f cd A outer s H E).stack)) (Zcl (CXE P w) P w K mg base N qual scope f cd A outer s H E).stack:=
   (ZbX st fun b hb=>Zed hb).of_keeps fun b o x _=>⟨o,k b o x,rfl⟩
  have hb:(ZeO s1.heap (frs (Zcl (CXE P w) P w K mg base N qual scope f cd A outer s H E).stack)).get? e=none:=by
   cases z:(ZeO s1.heap (frs (Zcl (CXE P w) P w K mg base N qual scope f cd A outer s H E).stack)).get? e with
   |none=>rfl
   |some o=>
    have:=(Zcs z).1
    rw[hn] at this
    cases this
  have t1: ∀ b u,H1 b=some u-> ∃ o,(ZeO s1.heap (frs (Zcl (CXE P w) P w K mg base N qual scope f cd A outer s H E).stack)).get? b=some o:=fun b u x=>by
   obtain ⟨o,g⟩:=Zfd (I.hok b u x)
   exact ⟨o,ZcS g fun z=>by rw[I.stkFree b z] at x;cases x⟩
  refine DQ.ZdZ (s:={ s1 with heap:=h' }) (outer:=outer) I.ok.frames rfl hl he hs hb hd v1 v2 fun h3 f3 up=> ?_
  obtain ⟨a1,a2,a3⟩:=ZfS rfl I (Un.kept k) (I.hok.kept k) t1 t2 hs f3.stay up
  rw[hc,hdi] at f3
  exact ⟨e,C,none,_,H1,rfl,I.os,I.bare,a1,a2,f3,t1,a3,q⟩
end DL
end
section
namespace DL
open PySem PySem.Spec PyProof.Rows L2
noncomputable def FP (K:PySem.W.Frag) (H:Hp) (α:List Addr) (ξ:XK) (Dn:Ends):Fl->Prop
 | .nx ρ' M'=> ∀ σ' H' α',Ext K H H' α α'->HR K H' α' M'->SR K H' α' σ' ρ'->Dn.nx σ' H'
 | .brk ρ' M'=> ∀ σ' H' α',Ext K H H' α α'->HR K H' α' M'->SR K H' α' σ' ρ'->Dn.bk σ' H'
 | .cnt ρ' M'=> ∀ σ' H' α',Ext K H H' α α'->HR K H' α' M'->SR K H' α' σ' ρ'->Dn.ct σ' H'
 | .ret d M'=> ∀ v H' α',Ext K H H' α α'->HR K H' α' M'->Rep K H' α' v d->Dn.rt v H'
 | .exc c M'=> ∀ C H' α',PySem.W.nsIn K mainGlobals c=some (some (.ref C))->Ext K H H' α α'->HR K H' α' M'->ξ (.ref C) none H'
 | .bad=>False
theorem FP.ext {K:PySem.W.Frag} {H H1:Hp} {α α1:List Addr} {ξ:XK} {Dn:Ends} {o:Fl} (h:FP K H α ξ Dn o) (e:Ext K H H1 α α1):FP K H1 α1 ξ Dn o:=by
 cases o with
 |nx ρ M=>exact fun σ' H' α' e'=>h σ' H' α' (e.trans e')
 |brk ρ M=>exact fun σ' H' α' e'=>h σ' H' α' (e.trans e')
 |cnt ρ M=>exact fun σ' H' α' e'=>h σ' H' α' (e.trans e')
 |ret d M=>exact fun v H' α' e'=>h v H' α' (e.trans e')
 |exc c M=>exact fun C H' α' n e'=>h C H' α' n (e.trans e')
 |bad=>exact h
noncomputable def DS (X:Cx) (ξ:XK) (st:Stmt) (g:Sv):Prop:= ∃ t:TS,PS X st t/\ ∀ σ ρ H α M Dn,SR X.K H α σ ρ->HR X.K H α M->FP X.K H α ξ Dn (g ρ M)->t Dn σ H
noncomputable def DSs (X:Cx) (ξ:XK) (st:List Stmt) (g:Sv):Prop:= ∃ t:TS,PSs X st t/\ ∀ σ ρ H α M Dn,SR X.K H α σ ρ->HR X.K H α M->FP X.K H α ξ Dn (g ρ M)->t Dn σ H
noncomputable def Zaq {β:Type} (o:Out β) (k:β->Sto->Fl):Fl:=match o with
 | .ok a M=>k a M
 | .exc c M=> .exc c M
 | .bad=> .bad
theorem FP.seq {β γ:Type} {K:PySem.W.Frag} {R:Hp->List Addr->γ->β->Prop} {H:Hp} {α:List Addr} {ξ:XK} {Dn:Ends} {Q1:γ->Hp->Prop} {o:Out β} {f:β->Sto->Fl}
  (h:FP K H α ξ Dn (Zaq o f)) (k: ∀ d M' v H' α',Ext K H H' α α'->HR K H' α' M'->R H' α' v d->FP K H' α' ξ Dn (f d M')->Q1 v H'):OG K R H α ξ Q1 o:=by
 cases o with
 |ok d M'=>exact fun v H' α' e hr r=>k d M' v H' α' e hr r (FP.ext (o:=f d M') h e)
 |exc c M'=>exact h
 |bad=>exact h
noncomputable def Z3 (g h:Sv):Sv:=fun ρ M=>match g ρ M with
 | .nx ρ1 M1=>h ρ1 M1
 |o=>o
noncomputable def sNil:Sv:=fun ρ M=> .nx ρ M
noncomputable def Zae (f:Ev):Sv:=fun ρ M=>Zaq (f ρ M) fun d M1=> .ret d M1
noncomputable def ZkP:Sv:=fun _ M=> .ret .non M
noncomputable def Zct (f:Ev):Sv:=fun ρ M=>Zaq (f ρ M) fun _ M1=> .nx ρ M1
noncomputable def sIf (c:Tv) (g h:Sv):Sv:=fun ρ M=>Zaq (c ρ M) fun k M1=>if k=true then g ρ M1 else h ρ M1
noncomputable def ZnM:Sv:=fun ρ M=> .brk ρ M
noncomputable def ZnN:Sv:=fun ρ M=> .cnt ρ M
noncomputable abbrev Tg:=D->Ro->Option Ro
noncomputable abbrev Tgs:=List D->Ro->Option Ro
noncomputable def gNm (i:Nat):Tg:=fun d ρ=>some (ρ.set i (some d))
noncomputable def gNl:Tgs:=fun ds ρ=>match ds with | []=>some ρ | _=>none
noncomputable def gCs (g:Tg) (gs:Tgs):Tgs:=fun ds ρ=>match ds with | d :: r=>(match g d ρ with | some ρ1=>gs r ρ1 | none=>none) | []=>none
noncomputable def gTp (gs:Tgs):Tg:=fun d ρ=>match d with | .tup ds=>gs ds ρ | _=>none
noncomputable def ZaI (g:Tg) (f:Ev):Sv:=fun ρ M=>Zaq (f ρ M) fun d M1=>match g d ρ with | some ρ1=> .nx ρ1 M1 | none=> .bad
noncomputable def ZhG (i j:Nat) (fs:Av):Sv:=fun ρ M=>Zaq (fs ρ M) fun ds M1=>match ds with | [v,w]=> .nx ((ρ.set i (some v)).set j (some w)) M1 | _=> .bad
noncomputable def ZkQ (fo fi fe:Ev):Sv:=fun ρ M=>Zaq (fe ρ M) fun d M1=>Zaq (fo ρ M1) fun o M2=>Zaq (fi ρ M2) fun i M3=>match o,i with
 | .ref n,.int k=>(match M3[n]? with
  |some (.lst xs)=>(match ixN xs.length k with | some j=> .nx ρ (M3.set n (.lst (xs.set j d))) | none=> .bad)
  |_=> .bad)
 |_,_=> .bad
section
variable {X:Cx} {ξ:XK} {st:Stmt} {sts:List Stmt} {g h:Sv} {e:Expr} {f:Ev} {pos:Pos} {c:Expr} {fc:Tv}
theorem ZO:DSs X ξ [] sNil:=⟨_,Zgk,fun σ ρ H α M Dn s h q=>q σ H α Ext.refl h s⟩
theorem Zh (h1:DS X ξ st g) (h2:DSs X ξ sts h):DSs X ξ (st :: sts) (Z3 g h):=by
 obtain ⟨t1,p1,q1⟩:=h1
 obtain ⟨t2,p2,q2⟩:=h2
 refine ⟨_,ZeR p1 p2,fun σ ρ H α M Dn s hh q=>q1 σ ρ H α M { Dn with nx:=t2 Dn } s hh ?_⟩
 unfold Z3 at q
 cases e:g ρ M with
 |nx ρ1 M1=>rw[e] at q;exact fun σ' H' α' ex hr sr=>q2 σ' ρ1 H' α' M1 Dn sr hr (FP.ext q ex)
 |brk ρ1 M1=>rw[e] at q;exact q
 |cnt ρ1 M1=>rw[e] at q;exact q
 |ret d M1=>rw[e] at q;exact q
 |exc c M1=>rw[e] at q;exact q
 |bad=>rw[e] at q;exact q
theorem Zi (h1:DS X ξ st g):DSs X ξ [st] g:=let ⟨_,p,q⟩:=h1;⟨_,Zgl p,q⟩
theorem ZE (he:DE X ξ e f):DS X ξ (.Return (some e) pos) (Zae f):=by
 obtain ⟨t,p,q⟩:=he
 exact ⟨_,ZhW p,fun σ ρ H α M Dn s hh w=>q σ ρ H α M _ s hh (FP.seq w fun d M1 v H1 α1 e1 h1 r1 w1=>w1 v H1 α1 Ext.refl h1 r1)⟩
theorem Zcu (he:DE X ξ e f) (hs:swapsWith e none pos.line X.env=pure false:=by rfl):DS X ξ (.Expr e pos) (Zct f):=by
 obtain ⟨t,p,q⟩:=he
 exact ⟨_,Zgm p hs,fun σ ρ H α M Dn s hh w=>q σ ρ H α M _ s hh (FP.seq w fun d M1 v H1 α1 e1 h1 r1 w1=>w1 σ H1 α1 Ext.refl h1 (s.mono e1))⟩
theorem ZaD {a b:List Stmt} (hc:DT X ξ c fc) (ha:DSs X ξ a g) (hb:DSs X ξ b h):DS X ξ (.If c a b pos) (sIf fc g h):=by
 obtain ⟨tc,pc,qc⟩:=hc
 obtain ⟨ta,pa,qa⟩:=ha
 obtain ⟨tb,pb,qb⟩:=hb
 refine ⟨_,ZkA pc pa pb,fun σ ρ H α M Dn s hh w=>qc σ ρ H α M _ s hh (FP.seq w fun k M1 v H1 α1 e1 h1 r1 w1=> ?_)⟩
 cases r1
 cases k with
 |true=>exact Zih (qa σ ρ H1 α1 M1 Dn (s.mono e1) h1 w1)
 |false=>exact Zig (qb σ ρ H1 α1 M1 Dn (s.mono e1) h1 w1)
noncomputable def DG (X:Cx) (tg:Expr) (g:Tg):Prop:= ∃ t:TG,PG X tg t/\ ∀ v d σ ρ H α ρ' Q,SR X.K H α σ ρ->Rep X.K H α v d->g d ρ=some ρ'->(∀ σ',SR X.K H α σ' ρ'->Q σ' H)->t v σ H Q
theorem ZX (i:Nat) {x:Str} (hN:X.N.Nodup) (hi:X.N[i]?=some x:=by rfl) (hx:Loc X.env.scope x:=by first | exact Or.inl rfl | exact Or.inr rfl) (hf:X.fn x=true\/X.env.scope.names.lookup x=some .local:=by first | exact .inl rfl | exact .inr rfl | assumption):DG X (.Name x pos) (gNm i):=by
 refine ⟨_,Zgn hN hi hx hf,fun v d σ ρ H α ρ' Q s r e k=> ?_⟩
 cases e
 exact k _ (s.set i r)
theorem Z5 (i:Nat) {x:Str} {pos':Pos} (hN:X.N.Nodup) (he:DE X ξ e f) (hi:X.N[i]?=some x:=by rfl) (hx:Loc X.env.scope x:=by first | exact Or.inl rfl | exact Or.inr rfl) (hs:swapsWith e (some (.Name x pos')) pos.line X.env=pure false:=by rfl) (hf:X.fn x=true\/X.env.scope.names.lookup x=some .local:=by first | exact .inl rfl | exact .inr rfl | assumption):
  DS X ξ (.Assign [.Name x pos'] e pos) (ZaI (gNm i) f):=by
 obtain ⟨t,p,q⟩:=he
 exact ⟨_,ZhY hN hi hx p hs hf,fun σ ρ H α M Dn s hh w=>q σ ρ H α M _ s hh (FP.seq w fun d M1 v H1 α1 e1 h1 r1 w1=>w1 _ H1 α1 Ext.refl h1 ((s.mono e1).set i r1))⟩
theorem Zix (i j:Nat) {x y:Str} {a b:Expr} {fs:Av} {px py pt:Pos} {kt k2 pt2} (hc:X.calm=true) (hN:X.N.Nodup) (ha:DA X ξ [a,b] fs) (hi:X.N[i]?=some x:=by rfl) (hj:X.N[j]?=some y:=by rfl) (hij:i≠j:=by decide)
  (hx:X.env.scope.names.lookup x=some .local:=by rfl) (hy:X.env.scope.names.lookup y=some .local:=by rfl)
  (hw:swappedStores [.Tuple [.Name x px,.Name y py] kt pt] (.Tuple [a,b] k2 pt2) X.env=pure (some [x,y]):=by rfl)
  (hs:swapsWithSole [.Tuple [.Name x px,.Name y py] kt pt] (.Tuple [a,b] k2 pt2) pos.line X.env=pure false:=by rfl):
  DS X ξ (.Assign [.Tuple [.Name x px,.Name y py] kt pt] (.Tuple [a,b] k2 pt2) pos) (ZhG i j fs):=by
 obtain ⟨t,p,q⟩:=ha
 refine ⟨_,ZhZ hc hN hi hj hij hx hy p hw hs,fun σ ρ H α M Dn s hh w=>q σ ρ H α M _ s hh (FP.seq w fun ds M1 vs H1 α1 e1 h1 r1 w1=> ?_)⟩
 match r1 with
 | .nil=>exact w1.elim
 | .cons _ .nil=>exact w1.elim
 | .cons _ (.cons _ (.cons _ _))=>exact w1.elim
 | .cons r (.cons r' .nil)=>exact ⟨_,_,rfl,w1 _ H1 α1 Ext.refl h1 (((s.mono e1).set i r).set j r')⟩
noncomputable def whN (c:Tv) (g:Sv):Nat->Ro->Sto->Option Fl
 |0,_,_=>none
 |n + 1,ρ,M=>match c ρ M with
  | .ok true M1=>(match g ρ M1 with
   | .nx ρ2 M2=>whN c g n ρ2 M2
   | .cnt ρ2 M2=>whN c g n ρ2 M2
   | .brk ρ2 M2=>some (.nx ρ2 M2)
   |o=>some o)
  | .ok false M1=>some (.nx ρ M1)
  | .exc e M1=>some (.exc e M1)
  | .bad=>some .bad
noncomputable def Zal (tg:Tg) (g:Sv):List D->Ro->Sto->Fl
 | [],ρ,M=> .nx ρ M
 |d :: r,ρ,M=>match tg d ρ with
  |none=> .bad
  |some ρ1=>(match g ρ1 M with
   | .nx ρ2 M2=>Zal tg g r ρ2 M2
   | .cnt ρ2 M2=>Zal tg g r ρ2 M2
   | .brk ρ2 M2=> .nx ρ2 M2
   |o=>o)
noncomputable def ZdC (tg:Tg) (g:Sv) (n:Nat):Nat->Nat->Ro->Sto->Fl
 |f,i,ρ,M=>match M[n]? with
  |some (.lst xs)=>(match xs[i]? with
   |none=> .nx ρ M
   |some d=>(match f with
    |0=> .bad
    |f + 1=>(match tg d ρ with
     |none=> .bad
     |some ρ1=>(match g ρ1 M with
      | .nx ρ2 M2=>ZdC tg g n f (i + 1) ρ2 M2
      | .cnt ρ2 M2=>ZdC tg g n f (i + 1) ρ2 M2
      | .brk ρ2 M2=> .nx ρ2 M2
      |o=>o))))
  |none=> .bad
noncomputable def Z8 (lo:Int) (n:Nat):List D:=(List.range n).map fun (i:Nat)=>D.int (lo + i)
noncomputable def ZfT (tg:Tg) (g:Sv) (d:D) (ρ:Ro) (M:Sto):Fl:=match d with
 | .tup xs=>Zal tg g xs ρ M
 | .rol xs=>Zal tg g xs ρ M
 | .ref n=>(match M[n]? with | some (.lst xs)=>ZdC tg g n xs.length 0 ρ M | none=> .bad)
 |_=> .bad
noncomputable def Zee (tg:Tg) (f:Ev) (g:Sv):Sv:=fun ρ M=>Zaq (f ρ M) fun d M1=>ZfT tg g d ρ M1
noncomputable def Zbk (tg:Tg) (fs:Av) (g:Sv):Sv:=fun ρ M=>Zaq (fs ρ M) fun ds M1=>match ds with
 | [.int j]=>if -(2 ^ 62)<=j/\j < 2 ^ 62 then Zal tg g (Z8 0 j.toNat) ρ M1 else .bad
 |_=> .bad
noncomputable def Zef (tg:Tg) (fs:Av) (g:Sv):Sv:=fun ρ M=>Zaq (fs ρ M) fun ds M1=>match ds with
 | [.int i,.int j]=>if -(2 ^ 62)<=i/\i < 2 ^ 62/\ -(2 ^ 62)<=j/\j < 2 ^ 62 then Zal tg g (Z8 i (j - i).toNat) ρ M1 else .bad
 |_=> .bad
theorem ZcT {lo:Int} {n i:Nat} (h:i < n):(Z8 lo n)[i]?=some (.int (lo + i)):=by
 unfold Z8
 rw[List.getElem?_map,List.getElem?_range h]
 rfl
theorem Zbt {lo:Int} {n:Nat}:(Z8 lo n).length=n:=by unfold Z8;rw[List.length_map,List.length_range]
theorem Zeg {lo:Int} {n i:Nat} (h:i < n):(Z8 lo n).drop i= .int (lo + i) :: (Z8 lo n).drop (i + 1):=by
 have hl:i < (Z8 lo n).length:=by rw[Zbt];exact h
 have e:=ZcT (lo:=lo) h
 rw[List.getElem?_eq_getElem hl] at e
 rw[List.drop_eq_getElem_cons hl,Option.some.inj e]
theorem ZgK {tg:Expr} {gt:Tg} {tt:TG} {tb:TS} {Dn:Ends} {H H1:Hp} {α α1:List Addr} {o:Fl} {k:Ro->Sto->Fl} (w:FP X.K H α ξ Dn o)
  (qt: ∀ v d σ ρ H α ρ' Q,SR X.K H α σ ρ->Rep X.K H α v d->gt d ρ=some ρ'->(∀ σ',SR X.K H α σ' ρ'->Q σ' H)->tt v σ H Q) (qb: ∀ σ ρ H α M Dn,SR X.K H α σ ρ->HR X.K H α M->FP X.K H α ξ Dn (g ρ M)->tb Dn σ H)
  {v:V} {d:D} {σ1:L2.St} {ρ1:Ro} {M1:Sto} (e1:Ext X.K H H1 α α1) (s1:SR X.K H1 α1 σ1 ρ1) (h1:HR X.K H1 α1 M1) (r:Rep X.K H1 α1 v d)
  (en:(match gt d ρ1 with | none=>Fl.bad | some ρ2=>(match g ρ2 M1 with | .nx ρ3 M3=>k ρ3 M3 | .cnt ρ3 M3=>k ρ3 M3 | .brk ρ3 M3=> .nx ρ3 M3 | o=>o))=o)
  {N:L2.St->Hp->Prop} (hN: ∀ σ' H',(∃ ρ' α' M',Ext X.K H H' α α'/\SR X.K H' α' σ' ρ'/\HR X.K H' α' M'/\k ρ' M'=o)->N σ' H'):tt v σ1 H1 fun σ2 H2=>tb { Dn with nx:=N,ct:=N,bk:=Dn.nx } σ2 H2:=by
 cases eg:gt d ρ1 with
 |none=>rw[eg] at en;cases en;exact w.elim
 |some ρ2=>
  simp only[eg] at en
  refine qt v d σ1 ρ1 H1 α1 ρ2 _ s1 r eg fun σ2 s2=>qb σ2 ρ2 H1 α1 M1 _ s2 h1 ?_
  cases ex:g ρ2 M1 with
  |nx ρ3 M3=>simp only[ex] at en;exact fun σ' H' α' e2 hr sr=>hN _ _ ⟨ρ3,α',M3,e1.trans e2,sr,hr,en⟩
  |cnt ρ3 M3=>simp only[ex] at en;exact fun σ' H' α' e2 hr sr=>hN _ _ ⟨ρ3,α',M3,e1.trans e2,sr,hr,en⟩
  |brk ρ3 M3=>simp only[ex] at en;cases en;exact fun σ' H' α' e2 hr sr=>w σ' H' α' (e1.trans e2) hr sr
  |ret d M3=>simp only[ex] at en;cases en;exact fun v H' α' e2 hr sr=>w v H' α' (e1.trans e2) hr sr
  |exc x M3=>simp only[ex] at en;cases en;exact fun C H' α' nn e2 hr=>w C H' α' nn (e1.trans e2) hr
  |bad=>simp only[ex] at en;cases en;exact w.elim
theorem Ziy {tg:Expr} {gt:Tg} {tt:TG} {tb:TS} {Dn:Ends} {H:Hp} {α:List Addr} {lo:Int} {n:Nat} {σ:L2.St} {ρ:Ro} {M:Sto}
  (qt: ∀ v d σ ρ H α ρ' Q,SR X.K H α σ ρ->Rep X.K H α v d->gt d ρ=some ρ'->(∀ σ',SR X.K H α σ' ρ'->Q σ' H)->tt v σ H Q) (qb: ∀ σ ρ H α M Dn,SR X.K H α σ ρ->HR X.K H α M->FP X.K H α ξ Dn (g ρ M)->tb Dn σ H)
  (s:SR X.K H α σ ρ) (hh:HR X.K H α M) (w:FP X.K H α ξ Dn (Zal gt g (Z8 lo n) ρ M)):
  ∃ W:Nat->Nat->L2.St->Hp->Prop,(∃ m,W 0 m σ H)/\ ∀ i m σ H,W i m σ H->
   ((Itr lo n).stop i H/\Dn.nx σ H)\/((Itr lo n).go i H/\ ∃ N:L2.St->Hp->Prop,(∀ σ' H',N σ' H'-> ∃ m',m' < m/\W (i + 1) m' σ' H')/\ ∀ x H',(Itr lo n).yld i H x H'->tt x σ H' fun σ2 H2=>tb { Dn with nx:=N,ct:=N,bk:=Dn.nx } σ2 H2):=by
 generalize ho:Zal gt g (Z8 lo n) ρ M=o at w
 refine ZdO (fun i σ' H'=> ∃ ρ' α' M',Ext X.K H H' α α'/\SR X.K H' α' σ' ρ'/\HR X.K H' α' M'/\Zal gt g ((Z8 lo n).drop i) ρ' M'=o) ⟨ρ,α,M,Ext.refl,s,hh,ho⟩ ?_ ?_
 ·rintro i σ1 H1 hi ⟨ρ1,α1,M1,e1,s1,h1,en⟩
  rw[Zeg hi] at en
  exact ZgK (tg:=tg) w qt qb e1 s1 h1 (.int (lo + i)) en (fun σ' H' z=>z)
 ·rintro σ1 H1 ⟨ρ1,α1,M1,e1,s1,h1,en⟩
  rw[List.drop_eq_nil_of_le (by rw[Zbt];exact Nat.le_refl _)] at en
  cases en
  exact w σ1 H1 α1 e1 h1 s1
theorem ZcU {tg a:Expr} {gt:Tg} {fs:Av} {body:List Stmt} {p p2:Pos} (hp:PassesOwn (model X.prog X.w) X.A X.env X.xe) (hm:X.mg "range"=none) (ha:DA X ξ [a] fs) (hg:DG X tg gt) (hb:DSs X ξ body g)
  (hgl:Gl X "range":=by rfl) (hs:starEach [a] X.env=[(false,eval a X.env)]:=by rfl) (hf: ∀ x,foldedSetIterable (.Call (.Name "range" p) [a] [] p2) X.env x=pure x:=by intro _;rfl):DS X ξ (.For tg (.Call (.Name "range" p) [a] [] p2) body [] pos) (Zbk gt fs g):=by
 obtain ⟨ta,pa,qa⟩:=ha
 obtain ⟨tt,pt,qt⟩:=hg
 obtain ⟨tb,pb,qb⟩:=hb
 refine ⟨_,ZfJ hp (ZbH hgl hm pa hs) pt pb hf,fun σ ρ H α M Dn s hh w=>qa σ ρ H α M _ s hh (FP.seq w fun ds M1 vs H1 α1 e1 h1 r1 w1=> ?_)⟩
 match r1 with
 | .nil=>exact w1.elim
 | .cons r (.cons _ _)=>cases r<;>exact w1.elim
 | .cons r .nil=>
  cases r with
  |int j=>
   by_cases c: -(2 ^ 62)<=j/\j < 2 ^ 62
   ·simp only[if_pos c] at w1
    exact ⟨j,rfl,c.1,c.2,Ziy (tg:=tg) qt qb (s.mono e1) h1 w1⟩
   ·simp only[if_neg c] at w1
    exact w1.elim
  |_=>exact w1.elim
noncomputable def ZnO (K:PySem.W.Frag) (tl:TE):TI:=fun σ H R=>tl σ H fun x H1=> ∃ a,x= .ref a/\(((∃ xs,SqL K H1 a xs)/\R (Itl K a) H1)\/((∃ xs,SqT K H1 a xs)/\R (Itt K a) H1))
theorem ZfU {tg l:Expr} {tl:TE} (hl:PE X l tl):PI X tg l (ZnO X.K tl):=by
 intro pins s σ H R I h
 refine thn (hl pins s σ H _ I h) fun v s1 ⟨x,H1,I1,r1,q1⟩=> ?_
 obtain ⟨a,e,q⟩:=q1
 subst e
 cases r1
 have fp: ∀ b∈[s1.heap.objs.size],ZdL X pins H1 b:=fun b hb=>by
  have e:b=s1.heap.objs.size:=by simpa using hb
  subst e
  exact I1.fpOk (Nat.le_refl _) (I1.hok.fresh (Nat.le_refl _))
 rcases q with ⟨⟨xs,hq⟩,q⟩ | ⟨⟨xs,hq⟩,q⟩
 ·obtain ⟨its,rv,p,hz⟩:=I1.list hq
  refine wpAny_pyIter_list p.isList ?_
  exact ⟨s1.heap.objs.size,[s1.heap.objs.size],_,_,H1,rfl,I1.kept (t':=s1.toks) fun b o e=>Heap.get?_push_of_some _ e,ZdM a _,⟨_,Heap.get?_push_size _ rfl,rfl,rfl⟩,fp,q⟩
 ·obtain ⟨its,rv,p,hz⟩:=I1.tuple hq
  refine wpAny_pyIter_tuple (show s1.heap.IsTuple a its.toArray from p) ?_
  exact ⟨s1.heap.objs.size,[s1.heap.objs.size],_,_,H1,rfl,I1.kept (t':=s1.toks) fun b o e=>Heap.get?_push_of_some _ e,Zc8 a _,⟨_,Heap.get?_push_size _ rfl,rfl,rfl⟩,fp,q⟩
theorem ZbY {tg l:Expr} {gt:Tg} {f:Ev} {body:List Stmt} (hp:PassesOwn (model X.prog X.w) X.A X.env X.xe) (hl:DE X ξ l f) (hg:DG X tg gt) (hb:DSs X ξ body g)
  (hf: ∀ x,foldedSetIterable l X.env x=pure x:=by intro _;rfl):DS X ξ (.For tg l body [] pos) (Zee gt f g):=by
 obtain ⟨ta,pa,qa⟩:=hl
 obtain ⟨tt,pt,qt⟩:=hg
 obtain ⟨tb,pb,qb⟩:=hb
 refine ⟨_,ZfJ hp (ZfU pa) pt pb hf,fun σ ρ H α M Dn s hh w=>qa σ ρ H α M _ s hh (FP.seq w fun d M1 v H1 α1 e1 h1 r1 w1=> ?_)⟩
 have s1:=s.mono e1
 have pure_: ∀ (ds:List D) (xs:List V),Reps X.K H1 α1 xs ds->FP X.K H1 α1 ξ Dn (Zal gt g ds ρ M1)-> ∀ (i:Nat) σ' H',(∃ ρ' α' M',Ext X.K H1 H' α1 α'/\SR X.K H' α' σ' ρ'/\HR X.K H' α' M'/\Zal gt g (ds.drop i) ρ' M'=Zal gt g ds ρ M1)->
   (∀ x,xs[i]?=some x->tt x σ' H' fun σ2 H2=>tb { Dn with nx:=fun σ H=> ∃ ρ' α' M',Ext X.K H1 H α1 α'/\SR X.K H α' σ ρ'/\HR X.K H α' M'/\Zal gt g (ds.drop (i + 1)) ρ' M'=Zal gt g ds ρ M1,ct:=fun σ H=> ∃ ρ' α' M',Ext X.K H1 H α1 α'/\SR X.K H α' σ ρ'/\HR X.K H α' M'/\Zal gt g (ds.drop (i + 1)) ρ' M'=Zal gt g ds ρ M1,bk:=Dn.nx } σ2 H2)/\
   (i=xs.length->Dn.nx σ' H'):=by
  intro ds xs r w1 i σ' H' ⟨ρ',α',M',ex,sr,hr,en⟩
  refine ⟨fun x hx=> ?_,fun hi=> ?_⟩
  ·have hi:i < ds.length:=by rw[<- r.length];exact (List.getElem?_eq_some_iff.mp hx).1
   obtain ⟨v,g1,g2⟩:=r.get (List.getElem?_eq_getElem hi)
   rw[hx] at g1
   cases g1
   rw[List.drop_eq_getElem_cons hi] at en
   exact ZgK (tg:=tg) w1 qt qb ex sr hr (Rep.mono ex g2) en (fun σ' H' z=>z)
  ·rw[hi,r.length,List.drop_length] at en
   have en':Fl.nx ρ' M'=Zal gt g ds ρ M1:=en
   rw[<- en'] at w1
   exact w1 σ' H' α' ex hr sr
 cases r1 with
 | @tup p xs ds hp rp=>
  have w2:FP X.K H1 α1 ξ Dn (Zal gt g ds ρ M1):=w1
  refine ⟨p,rfl,.inr ⟨⟨xs,(SqT.of hp)⟩,Zgp (K:=X.K) (a:=p) (xs:=xs) (fun i σ' H'=> ∃ ρ' α' M',Ext X.K H1 H' α1 α'/\SR X.K H' α' σ' ρ'/\HR X.K H' α' M'/\Zal gt g (ds.drop i) ρ' M'=Zal gt g ds ρ M1) ⟨ρ,α1,M1,Ext.refl,s1,h1,rfl⟩ ?_ ?_ ?_⟩⟩
  ·rintro i σ' H' _ ⟨ρ',α',M',ex,_⟩
   exact SqT.of (ex.tup _ _ hp)
  ·intro i x σ' H' hx z
   exact (pure_ ds xs rp w2 i σ' H' z).1 x hx
  ·intro σ' H' z
   exact (pure_ ds xs rp w2 _ σ' H' z).2 rfl
 | @rol p xs ds hp rp=>
  have w2:FP X.K H1 α1 ξ Dn (Zal gt g ds ρ M1):=w1
  refine ⟨p,rfl,.inl ⟨⟨xs,hp.sq⟩,ZeT (K:=X.K) (a:=p) (xs:=xs) (fun i σ' H'=> ∃ ρ' α' M',Ext X.K H1 H' α1 α'/\SR X.K H' α' σ' ρ'/\HR X.K H' α' M'/\Zal gt g (ds.drop i) ρ' M'=Zal gt g ds ρ M1) ⟨ρ,α1,M1,Ext.refl,s1,h1,rfl⟩ ?_ ?_ ?_⟩⟩
  ·rintro i σ' H' _ ⟨ρ',α',M',ex,_⟩
   exact (ex.rol _ _ hp).sq
  ·intro i x σ' H' hx z
   exact (pure_ ds xs rp w2 i σ' H' z).1 x hx
  ·intro σ' H' z
   exact (pure_ ds xs rp w2 _ σ' H' z).2 rfl
 | @ref p n hp=>
  cases em:M1[n]? with
  |none=>simp only[ZfT,em] at w1;exact w1.elim
  |some so=>
   cases so with
   |lst ds=>
    simp only[ZfT,em] at w1
    obtain ⟨xs0,g0,r0⟩:=h1.at hp em
    generalize eo:ZdC gt g n ds.length 0 ρ M1=o at w1
    refine ⟨p,rfl,.inl ⟨⟨xs0,SqL.of g0⟩,fun i m σ' H'=> ∃ ρ' α' M',Ext X.K H1 H' α1 α'/\SR X.K H' α' σ' ρ'/\HR X.K H' α' M'/\ZdC gt g n m i ρ' M'=o,⟨ds.length,ρ,α1,M1,Ext.refl,s1,h1,eo⟩,?_⟩⟩
    rintro i m σ' H' ⟨ρ',α',M',ex,sr,hr,en⟩
    unfold ZdC at en
    cases em2:M'[n]? with
    |none=>simp only[em2] at en;cases en;exact w1.elim
    |some so2=>
     cases so2 with
     |lst ds2=>
      simp only[em2] at en
      obtain ⟨xs,g1,g2⟩:=hr.at (ex.get hp) em2
      cases ei:ds2[i]? with
      |none=>
       simp only[ei] at en
       cases en
       refine .inl ⟨⟨xs,SqL.of g1,?_⟩,w1 σ' H' α' ex hr sr⟩
       rw[g2.length]
       exact List.getElem?_eq_none_iff.mp ei
      |some d=>
       simp only[ei] at en
       obtain ⟨v,k1,k2⟩:=g2.get ei
       cases m with
       |zero=>cases en;exact w1.elim
       |succ m=>
        refine .inr ⟨⟨xs,v,SqL.of g1,k1⟩,fun σ2 H2=> ∃ ρ' α' M',Ext X.K H1 H2 α1 α'/\SR X.K H2 α' σ2 ρ'/\HR X.K H2 α' M'/\ZdC gt g n m (i + 1) ρ' M'=o,fun σ2 H2 z=>⟨m,Nat.lt_succ_self m,z⟩,fun x H2 y=> ?_⟩
        obtain ⟨ey,y⟩:=y
        subst ey
        have ev:=y xs (SqL.of g1)
        rw[k1] at ev
        cases ev
        exact ZgK (tg:=tg) w1 qt qb ex sr hr k2 en (fun σ' H' z=>z)
 |_=>exact w1.elim
end
noncomputable def fnF (g:Sv) (n k:Nat):List D->Sto->Out D:=fun ds M=>if ds.length=n then (match g (ds.map some ++ List.replicate k none) M with
 | .ret d M'=> .ok d M'
 | .nx _ M'=> .ok .non M'
 | .exc c M'=> .exc c M'
 |_=> .bad) else .bad
noncomputable def spD (K:PySem.W.Frag) (F:List D->Sto->Out D):Sp:=fun vs H Q E=> ∃ ds α M,Reps K H α vs ds/\HR K H α M/\OP K H α E Q (F ds M)
theorem ZbZ: ∀ {ds:List D} {k i:Nat} {d:D},(ds.map some ++ List.replicate k none)[i]?=some (some d)->ds[i]?=some d
 | [],k,i,d,h=>by
  rw[List.map_nil,List.nil_append] at h
  have:=List.mem_of_getElem? h
  rw[List.mem_replicate] at this
  cases this.2
 |x :: r,k,0,d,h=>by simpa using h
 |x :: r,k,i + 1,d,h=>by
  rw[List.map_cons,List.cons_append,List.getElem?_cons_succ] at h
  rw[List.getElem?_cons_succ]
  exact ZbZ h
theorem SR.start {K:PySem.W.Frag} {H:Hp} {α:List Addr} {N:List Str} {vs:List V} {ds:List D} {k:Nat} (r:Reps K H α vs ds) (hk:k=N.length - ds.length):SR K H α (start N vs) (ds.map some ++ List.replicate k none):=by
 unfold L2.start
 refine ⟨by simp only[List.length_append,List.length_map,List.length_replicate,r.length,hk],fun i d h=> ?_⟩
 obtain ⟨v,h1,h2⟩:=r.get (ZbZ h)
 refine ⟨v,?_,h2⟩
 have hl:i < vs.length:=(List.getElem?_eq_some_iff.mp h1).1
 rw[List.getElem?_append_left (by rw[List.length_map];exact hl),List.getElem?_map,h1]
 rfl
section
variable {P:Program} {w:World} {K:PySem.W.Frag} {mg:Str->Option Value} {base:Heap}
theorem ZaM {x qual:Str} {st:Stmt} {f:Addr} {fd:FuncData} {N ps:List Str} {k n m:Nat} {g:Sv} (F:Fun K x qual st f fd) (S:FnScope N ps (Ze st)) (hn:n=ps.length) (hm:m=N.length - n)
  (hb: ∀ (cdv:Value) (A:Around) (outer:List Env) (s:Shared) (H:Hp) (E:XK),Room k (A.deeper (envOfC qual (Ze st) s.heap.objs.size f cdv))->Thr (Zcl (CXE P w) P w K mg base N qual (Ze st) f cdv A outer s H E) E->DSs (Zcl (CXE P w) P w K mg base N qual (Ze st) f cdv A outer s H E) E (Zp st) g):
  FnOk P w K mg base (CXE P w) (k + 1) f fd ps (spD K (fnF g n m)):=by
 obtain ⟨oc,od,kV,doc,pm,an,cdv,ct,osl,rfl,lk,hcd⟩:=F.ex
 refine ZkI lk hcd S (fun vs H Q E h=> ?_) (fun A outer s H vs Q E hr h=> ?_)
 ·obtain ⟨ds,α,M,r,_,q⟩:=h
  by_cases c:ds.length=n
  ·rw[r.length,c,hn]
  ·simp only[fnF,if_neg c] at q
   exact q.elim
 ·obtain ⟨ds,α,M,r,hh,q⟩:=h
  obtain ⟨t,p,w'⟩:=hb cdv A outer s H E hr Ziw
  by_cases c:ds.length=n
  ·simp only[fnF,if_pos c] at q
   refine ⟨t,p,w' _ _ H α M _ (SR.start (N:=N) r (k:=m) (by rw[hm,c])) hh ?_⟩
   cases e:g (ds.map some ++ List.replicate m none) M with
   |nx ρ' M'=>simp only[e] at q;exact fun σ' H' α' ex hr sr=>q _ H' α' ex hr .non
   |ret d M'=>simp only[e] at q;exact q
   |exc x M'=>simp only[e] at q;exact q
   |brk ρ' M'=>simp only[e] at q;exact q.elim
   |cnt ρ' M'=>simp only[e] at q;exact q.elim
   |bad=>simp only[e] at q;exact q.elim
  ·simp only[fnF,if_neg c] at q
   exact q.elim
end
section
variable {X:Cx} {ξ:XK} {k:Nat} {f:Addr} {fd:FuncData} {ps:List Str} {F:List D->Sto->Out D} {x:Str} {p pos:Pos} {e:Expr} {es:List Expr} {fs:Av}
theorem ZgL (G:FnOk X.prog X.w X.K X.mg X.base (CXE X.prog X.w) k f fd ps (spD X.K F)) (T:Thr X ξ) (hr:Room k X.A) (hm:X.mg x=some (.ref f)) (hk:PySem.W.keepIn X.K (.ref f)=true) (hb:ZbI X.K fd ps []) (ha:DA X ξ (e :: es) fs) (hg:Gl X x:=by rfl)
  (hdb:(x == ("__debug__":Str))=false:=by decide) (he:starEach (e :: es) X.env=(false,eval e X.env) :: starEach es X.env:=by rfl) (hpl:(backTo pos (starEach es X.env)).any (·.1)=false:=by rfl):DE X ξ (.Call (.Name x p) (e :: es) [] pos) (Zl F fs):=by
 obtain ⟨t,pa,qa⟩:=ha
 refine ⟨_,Zgt G hr hg hm hk hb .nil T.ps pa hdb he hpl,fun σ ρ H α M Q s hh q=>qa σ ρ H α M _ s hh (OG.seq q fun ds M1 vs H1 α1 e1 h1 r1 q1=> ?_)⟩
 rw[List.append_nil]
 exact ⟨ds,α1,M1,r1,h1,q1⟩
end
end DL
end
section
namespace DL
open PySem PySem.Spec PyProof.Rows L2
theorem Ziz:bootBuiltins "int"=some (.type "int"):=by decide +kernel
theorem ZgM:bootBuiltins "bool"=some (.type "bool"):=by decide +kernel
theorem Zbu:bootBuiltins "list"=some (.type "list"):=by decide +kernel
theorem Zfe:bootBuiltins "tuple"=some (.type "tuple"):=by decide +kernel
theorem ZfV:bootBuiltins "min"=some (.builtin "min"):=by decide +kernel
noncomputable def Cal (P:Program) (w:World) (K:PySem.W.Frag) (mg:Str->Option Value) (base:Heap) (x:Str) (k n:Nat) (F:List D->Sto->Out D):Prop:=
 ∃ (f:Addr) (fd:FuncData) (ps:List Str),FnOk P w K mg base (CXE P w) k f fd ps (spD K F)/\mg x=some (.ref f)/\PySem.W.keepIn K (.ref f)=true/\ps.length=n/\ZbI K fd ps []
theorem Zq {X:Cx} {ξ:XK} {k n:Nat} {F:List D->Sto->Out D} {x:Str} {p pos:Pos} {e:Expr} {es:List Expr} {fs:Av} (C:Cal X.prog X.w X.K X.mg X.base x k n F) (T:Thr X ξ) (hr:Room k X.A) (ha:DA X ξ (e :: es) fs) (hg:Gl X x:=by rfl)
  (hdb:(x == ("__debug__":Str))=false:=by decide) (he:starEach (e :: es) X.env=(false,eval e X.env) :: starEach es X.env:=by rfl) (hpl:(backTo pos (starEach es X.env)).any (·.1)=false:=by rfl):DE X ξ (.Call (.Name x p) (e :: es) [] pos) (Zl F fs):=by
 obtain ⟨f,fd,ps,G,hm,hk,_,hb⟩:=C
 exact ZgL G T hr hm hk hb ha hg hdb he hpl
theorem ZiA {K:PySem.W.Frag} {H:Hp} {a:Addr} {ns:List Int} {n:Nat} {F:List D->Sto->Out D} (hl:ns.length<=n) (hO:Zkp H) (hS:SqL K H a (ns.map V.int)) (h: ∃ M',F [.rol (ns.map D.int)] []= .ok (.bl true) M'):
  spD K F [.ref a] H (fun v _=>v= .bl true) (fun _ _ _=>False):=by
 obtain ⟨M',e⟩:=h
 have hF:SqF K H a (ns.map V.int):=by
  rcases hS with (h | ⟨o,h⟩) | h
  ·rcases hO a with z | ⟨o,xs,z⟩
   ·rw[h] at z;cases z
   ·rw[h] at z;cases z
  ·exact .inl ⟨o,h⟩
  ·exact .inr h
 refine ⟨[.rol (ns.map D.int)],[],[],.cons (.rol hF (Reps.ints ns)) .nil,HR.nil,?_⟩
 rw[e]
 intro v H' α' _ _ r
 cases r
 rfl
end DL
end
section
namespace DL
open PySem PySem.Spec PyProof.Rows L2
inductive Src where
 |pur (ds:List D)
 |sto (n:Nat)
 |zip (n m:Nat)
 |enu (n:Nat)
 |rev (n l:Nat)
 |zips (ns:List Nat)
noncomputable def Zeh (M:Sto) (i:Nat):List Nat->Option (Option (List D))
 | []=>some (some [])
 |n :: ns=>match M[n]? with
  |none=>none
  |some (.lst xs)=>match Zeh M i ns with
   |none=>none
   |some r=>match xs[i]?,r with | some x,some ds=>some (some (x :: ds)) | _,_=>some none
noncomputable def nxt (src:Src) (i:Nat) (M:Sto):Option (Option D):=match src with
 | .pur ds=>some ds[i]?
 | .sto n=>match M[n]? with | some (.lst xs)=>some xs[i]? | none=>none
 | .zip n m=>match M[n]?,M[m]? with
  |some (.lst xs),some (.lst ys)=>(match xs[i]?,ys[i]? with | some x,some y=>some (some (.tup [x,y])) | _,_=>some none)
  |_,_=>none
 | .enu n=>match M[n]? with | some (.lst xs)=>(match xs[i]? with | some x=>some (some (.tup [.int i,x])) | none=>some none) | none=>none
 | .zips ns=>match Zeh M i ns with | some (some ds)=>some (some (.tup ds)) | some none=>some none | none=>none
 | .rev n l=>match M[n]? with | some (.lst xs)=>if i < l then (match xs[l - 1 - i]? with | some x=>some (some x) | none=>none) else (if i=l then some none else none) | none=>none
noncomputable def cnt (src:Src) (M:Sto):Nat:=match src with
 | .pur ds=>ds.length
 | .sto n=>match M[n]? with | some (.lst xs)=>xs.length | none=>0
 | .zip n _=>match M[n]? with | some (.lst xs)=>xs.length | none=>0
 | .enu n=>match M[n]? with | some (.lst xs)=>xs.length | none=>0
 | .rev _ l=>l
 | .zips ns=>match ns with | n :: _=>(match M[n]? with | some (.lst xs)=>xs.length | none=>0) | []=>0
noncomputable def Ats (H:Hp) (α:List Addr):List Nat->List Addr->Prop
 | [],[]=>True
 |n :: ns,l :: ls=>RefK H α 0 n l/\Ats H α ns ls
 |_,_=>False
noncomputable def ZkR (K:PySem.W.Frag) (H:Hp) (α:List Addr) (J:It) (src:Src):Prop:= ∀ (i:Nat) H' α' M',Ext K H H' α α'->HR K H' α' M'->match nxt src i M' with
 |some none=>J.stop i H'
 |some (some d)=>J.go i H'/\ ∀ x H'',J.yld i H' x H''->Ext K H' H'' α' α'/\HR K H'' α' M'/\Rep K H'' α' x d
 |none=>True
noncomputable def DI (X:Cx) (ξ:XK) (tg iter:Expr) (f:Ro->Sto->Out Src):Prop:= ∃ wi:TI,PI X tg iter wi/\ ∀ σ ρ H α M R,SR X.K H α σ ρ->HR X.K H α M->OG X.K (ZkR X.K) H α ξ R (f ρ M)->wi σ H R
section
variable {X:Cx} {ξ:XK} {tg iter a b:Expr} {fs:Av} {f:Ev} {p pos:Pos}
noncomputable def iR1 (fs:Av):Ro->Sto->Out Src:=fun ρ M=>(fs ρ M).bind fun ds M1=>match ds with
 | [.int j]=>if -(2 ^ 62)<=j/\j < 2 ^ 62 then .ok (.pur (Z8 0 j.toNat)) M1 else .bad
 |_=> .bad
theorem Zdk {K:PySem.W.Frag} {H:Hp} {α:List Addr} {lo:Int} {n:Nat}:ZkR K H α (Itr lo n) (.pur (Z8 lo n)):=by
 intro i H' α' M' ex hr
 show match some (Z8 lo n)[i]? with | some none=>_ | some (some d)=>_ | none=>True
 by_cases h:i < n
 ·rw[ZcT h]
  refine ⟨h,fun x H'' y=> ?_⟩
  obtain ⟨e1,e2⟩:=y
  subst e1 e2
  exact ⟨Ext.refl,hr,.int _⟩
 ·rw[List.getElem?_eq_none (by rw[Zbt];omega)]
  exact Nat.le_of_not_lt h
theorem Zb0 (hm:X.mg "range"=none) (ha:DA X ξ [a] fs) (hgl:Gl X "range":=by rfl) (hs:starEach [a] X.env=[(false,eval a X.env)]:=by rfl):DI X ξ tg (.Call (.Name "range" p) [a] [] pos) (iR1 fs):=by
 obtain ⟨ta,pa,qa⟩:=ha
 refine ⟨_,ZbH hgl hm pa hs,fun σ ρ H α M R s hh q=>qa σ ρ H α M _ s hh (OG.seq q fun ds M1 vs H1 α1 e1 h1 r1 w1=> ?_)⟩
 match r1 with
 | .nil=>exact w1.elim
 | .cons r (.cons _ _)=>cases r<;>exact w1.elim
 | .cons r .nil=>
  cases r with
  |int j=>
   by_cases c: -(2 ^ 62)<=j/\j < 2 ^ 62
   ·simp only[if_pos c] at w1
    exact ⟨j,rfl,c.1,c.2,w1 _ H1 α1 Ext.refl h1 Zdk⟩
   ·simp only[if_neg c] at w1
    exact w1.elim
  |_=>exact w1.elim
noncomputable def iSq (f:Ev):Ro->Sto->Out Src:=fun ρ M=>(f ρ M).bind fun d M1=>match d with
 | .tup ds=> .ok (.pur ds) M1
 | .rol ds=> .ok (.pur ds) M1
 | .con ds=> .ok (.pur ds) M1
 | .ref n=> .ok (.sto n) M1
 |_=> .bad
theorem Zei (ha:DE X ξ a f):DI X ξ tg a (iSq f):=by
 obtain ⟨ta,pa,qa⟩:=ha
 refine ⟨_,ZfU pa,fun σ ρ H α M R s hh q=>qa σ ρ H α M _ s hh (OG.seq q fun d M1 v H1 α1 e1 h1 r1 w1=> ?_)⟩
 cases r1 with
 | @tup p xs ds hp rp=>
  refine ⟨p,rfl,.inr ⟨⟨xs,(SqT.of hp)⟩,w1 (Itt X.K p) H1 α1 Ext.refl h1 ?_⟩⟩
  intro i H' α' M' ex hr
  show match some ds[i]? with | some none=>_ | some (some d)=>_ | none=>True
  cases ei:ds[i]? with
  |none=>exact ⟨xs,SqT.of (ex.tup _ _ hp),by rw[rp.length];exact List.getElem?_eq_none_iff.mp ei⟩
  |some d=>
   obtain ⟨v,k1,k2⟩:=rp.get ei
   refine ⟨⟨xs,v,SqT.of (ex.tup _ _ hp),k1⟩,fun x H'' y=> ?_⟩
   obtain ⟨ey,y⟩:=y
   have z:=y xs (SqT.of (ex.tup _ _ hp))
   rw[k1] at z
   cases z
   subst ey
   exact ⟨Ext.refl,hr,Rep.mono ex k2⟩
 | @con p xs ds hp rp=>
  refine ⟨p,rfl,.inr ⟨⟨xs,hp.sq⟩,w1 (Itt X.K p) H1 α1 Ext.refl h1 ?_⟩⟩
  intro i H' α' M' ex hr
  show match some ds[i]? with | some none=>_ | some (some d)=>_ | none=>True
  cases ei:ds[i]? with
  |none=>exact ⟨xs,hp.sq,by rw[rp.length];exact List.getElem?_eq_none_iff.mp ei⟩
  |some d=>
   obtain ⟨v,k1,k2⟩:=rp.get ei
   refine ⟨⟨xs,v,hp.sq,k1⟩,fun x H'' y=> ?_⟩
   obtain ⟨ey,y⟩:=y
   have z:=y xs hp.sq
   rw[k1] at z
   cases z
   subst ey
   exact ⟨Ext.refl,hr,Rep.mono ex k2⟩
 | @rol p xs ds hp rp=>
  refine ⟨p,rfl,.inl ⟨⟨xs,hp.sq⟩,w1 (Itl X.K p) H1 α1 Ext.refl h1 ?_⟩⟩
  intro i H' α' M' ex hr
  show match some ds[i]? with | some none=>_ | some (some d)=>_ | none=>True
  have hq:=(ex.rol _ _ hp).sq
  cases ei:ds[i]? with
  |none=>exact ⟨xs,hq,by rw[rp.length];exact List.getElem?_eq_none_iff.mp ei⟩
  |some d=>
   obtain ⟨v,k1,k2⟩:=rp.get ei
   refine ⟨⟨xs,v,hq,k1⟩,fun x H'' y=> ?_⟩
   obtain ⟨ey,y⟩:=y
   have z:=y xs hq
   rw[k1] at z
   cases z
   subst ey
   exact ⟨Ext.refl,hr,Rep.mono ex k2⟩
 | @ref p n hp=>
  obtain ⟨xs0,g0⟩:=h1.some_at hp
  refine ⟨p,rfl,.inl ⟨⟨xs0,SqL.of g0⟩,w1 (Itl X.K p) H1 α1 Ext.refl h1 ?_⟩⟩
  intro i H' α' M' ex hr
  show match (match M'[n]? with | some (.lst xs)=>some xs[i]? | none=>none) with | some none=>_ | some (some d)=>_ | none=>True
  cases em:M'[n]? with
  |none=>exact True.intro
  |some so=>
   cases so with
   |lst ds=>
    obtain ⟨xs,g1,g2⟩:=hr.at (ex.get hp) em
    show match some ds[i]? with | some none=>_ | some (some d)=>_ | none=>True
    cases ei:ds[i]? with
    |none=>exact ⟨xs,SqL.of g1,by rw[g2.length];exact List.getElem?_eq_none_iff.mp ei⟩
    |some d=>
     obtain ⟨v,k1,k2⟩:=g2.get ei
     refine ⟨⟨xs,v,SqL.of g1,k1⟩,fun x H'' y=> ?_⟩
     obtain ⟨ey,y⟩:=y
     have z:=y xs (SqL.of g1)
     rw[k1] at z
     cases z
     subst ey
     exact ⟨Ext.refl,hr,k2⟩
 |_=>exact w1.elim
end
noncomputable def blk (X:Cx) (scope:Scope) (cl:List (Str × Addr)) (N:List Str) (C:Addr) (fp:List Addr) (s:Shared) (H:Hp):Cx:=
 { X with N:=N,s₀:=s,H₀:=H,env:=compEnvC scope cl C X.env,outer:=X.stack,stack:=X.stack,ex:=fp,fn:=fun _=>false,pn:=[],xe:=fun _ _=>False }
theorem Zbv {X:Cx} {scope:Scope} {cl:List (Str × Addr)} {N:List Str} {C:Addr} {fp:List Addr} {s:Shared} {H:Hp}:Thr (blk X scope cl N C fp s H) E0:=
 ⟨PassesOwn.never,fun _ _ _ _ _ _ _ ⟨_,_,_,_,_,_,_,_,_,_,_,_,_,q⟩=>q,fun _ _ _ _ _ _ _ _ _ _ _ _ _ _ _ _ _ _ q=>q⟩
noncomputable def Zb1 (src:Src) (tg:Tg) (c:Tv) (f:Ev) (n:Nat):Nat->Nat->Ro->Sto->Out Unit
 |fuel,i,ρ,M=>match nxt src i M with
  |none=> .bad
  |some none=> .ok () M
  |some (some d)=>(match fuel with
   |0=> .bad
   |fuel + 1=>(match tg d ρ with
    |none=> .bad
    |some ρ1=>(match c ρ1 M with
     | .ok true M1=>(match f ρ1 M1 with
      | .ok x M2=>(match M2[n]? with
       |some (.lst xs)=>if xs.length < 10000000 then Zb1 src tg c f n fuel (i + 1) ρ1 (M2.set n (.lst (xs ++ [x]))) else .bad
       |none=> .bad)
      |_=> .bad)
     | .ok false M1=>Zb1 src tg c f n fuel (i + 1) ρ1 M1
     |_=> .bad)))
noncomputable def roB (k:Nat) (fr:List Nat) (ρ:Ro):Ro:=List.replicate k none ++ fr.map fun i=>(ρ[i]?).join
noncomputable def ZaZ (fi:Ro->Sto->Out Src) (k:Nat) (fr:List Nat) (tg:Tg) (c:Tv) (f:Ev):Ev:=fun ρ M=>(fi ρ M).bind fun src M1=>match Zb1 src tg c f M1.length (cnt src M1) 0 (roB k fr ρ) (M1 ++ [.lst []]) with
 | .ok _ M2=> .ok (.ref M1.length) M2
 |_=> .bad
structure Blk (X:Cx) (scope:Scope) (cl:List (Str × Addr)) (N:List Str) (k:Nat) (fr:List Nat):Prop where
 clos:closureFor scope X.env=pure cl
 kind:scope.kind= .function
 cell: ∀ y∈scope.names,y.2≠ .cell
 names: ∀ y∈scope.names,y.2= .local->scope.names.lookup y.1=some .local
 sub: ∀ x c,cl.lookup x=some c->X.env.cells.lookup x=some c
 has: ∀ x,((relabel scope X.env).names.lookup x=some .cell\/(relabel scope X.env).names.lookup x=some .free)-> ∃ c,cl.lookup x=some c
 len:N.length=k + fr.length
 at_: ∀ (j i:Nat),fr[j]?=some i-> ∃ x,N[k + j]?=some x/\X.N[i]?=some x/\X.env.kindOf x=some .cell/\((relabel scope X.env).names.lookup x=some .cell\/(relabel scope X.env).names.lookup x=some .free)/\cl.lookup x=X.env.cells.lookup x
theorem Zb2 {prog:Program} {w:World} {A:Around} {R:Result->Shared->Prop} {s:Shared} {elt target iter:Expr} {ifs:List Expr} {scope:Scope} {pos:Pos} {it acc:Value} {env:Env} (I:Nat->Shared->Prop)
  (turn: ∀ n s,I n s->wpAny (model prog w) A (pyNext it) (fun r s₁=>match r with
   |none=>R (.ok .next) s₁
   |some v=>wpAny (model prog w) A (letOwnedTupleGo target it v) (fun _ s₁=>wpAny (model prog w) A (assign target env v) (fun _ s₂=>
     wpAny (model prog w) A (forIn ifs true fun c r=>if r=true then do let ok <- isTrue c env (eval c env);pure (ForInStep.yield ok) else pure (ForInStep.yield r)) (fun ok s₃=>
      if ok=true then wpAny (model prog w) A (eval elt env) (fun x s₄=>
       wpAny (model prog w) A (call (.builtin "list.append") [acc,x]) (fun _ s₅=> ∃ m,m < n/\I m s₅) (fun _ _=>False) s₄) (fun _ _=>False) s₃
      else ∃ m,m < n/\I m s₃) (fun _ _=>False) s₂) (fun _ _=>False) s₁) (fun _ _=>False) s₁) (fun _ _=>False) s)
  (n:Nat) (h:I n s):
  codeAny (model prog w) A (.compLoop (.ListComp elt [⟨target,iter,ifs,0⟩] scope pos) 0 it acc env) R s:=by
 refine codeAny_loop rfl I (fun n s hI=> ?_) n h
 show wpAny _ A ((compTurn (.ListComp elt [⟨target,iter,ifs,0⟩] scope pos) 0 it acc env).onRaise (fun x=>do noteFrame x env;theTreesLotGoes x)) _ _ s
 refine wpAny_noted ?_
 rw[compTurn_list]
 refine wpAny_bind (wpAny_standAt (wpAny_bind (wpAny_mono (turn n s hI) (fun r s₁ h₁=> ?_) fun _ _ h'=>h'.elim)))
 cases r with
 |none=>exact wpAny_pure h₁
 |some v=>
  refine wpAny_bind (wpAny_mono h₁ (fun _ s₁ h₁=> ?_) fun _ _ h'=>h'.elim)
  refine wpAny_bind (wpAny_mono h₁ (fun _ s₂ h₂=>wpAny_bind (wpAny_mono h₂ (fun ok s₃ h₃=> ?_) fun _ _ h'=>h'.elim)) fun _ _ h'=>h'.elim)
  cases ok with
  |false=>exact wpAny_pure ⟨rfl,h₃⟩
  |true=>
   exact wpAny_bind (wpAny_bind (wpAny_mono h₃ (fun x s₄ h₄=>wpAny_bind (wpAny_mono h₄ (fun _ s₅ h₅=>wpAny_pure (wpAny_pure ⟨rfl,h₅⟩)) fun _ _ h'=>h'.elim)) fun _ _ h'=>h'.elim))
noncomputable def DC (X:Cx) (ifs:List Expr) (c:Tv):Prop:=(ifs=[]/\c=fun _ M=> .ok true M)\/ ∃ e,ifs=[e]/\DT X E0 e c
section
variable {X:Cx} {ξ:XK} {tg iter elt:Expr} {ifs:List Expr} {scope:Scope} {cl:List (Str × Addr)} {N:List Str} {k:Nat} {fr:List Nat} {fi:Ro->Sto->Out Src} {gt:Tg} {c:Tv} {f:Ev} {pos:Pos}
theorem ZfW (B:Blk X scope cl N k fr) {pins:List (Addr × Obj)} {σ:L2.St} {H:Hp} {s:Shared} {fp:List Addr} (I:Inv X pins σ H s) (hf: ∀ b∈fp,ZdL X pins H b) (hlt: ∀ b∈fp,b < s.heap.objs.size):(blk X scope cl N s.heap.objs.size fp s H).Ok where
 mod:=I.ok.mod
 kind:=B.kind
 glob:=I.ok.glob
 blt:=I.ok.blt
 above:=Nat.le_refl _
 inj:=fun x y c h1 h2=>I.ok.inj x y c (B.sub x c h1) (B.sub y c h2)
 has:=fun x h=>B.has x h
 cab:=fun x c h=>(by cases h)
 hd:=I.ok.hd
 frames:=I.ok.frames
 stk:= .inl rfl
 exf:=fun b hb=>⟨Nat.ne_of_lt (hlt b hb),fun x c h=>(hf b hb).2.2.2.2.1 x c (B.sub x c h)⟩
 bs:=I.bs
 bsz:=Nat.le_trans I.ok.bsz I.sz
 noex:=fun b o e hb=>by
  rcases (hf b hb).2.2.2.1 with z | z
  ·exact I.ok.noex b o e z
  ·exact absurd (Nat.lt_of_lt_of_le (Heap.lt_size (I.ok.bs b o e).1) z) (Nat.lt_irrefl _)
 exfs:=fun b hb z=>by
  rcases List.mem_cons.mp (I.stkSub b z) with e | e
  ·exact (hf b hb).2.1 e
  ·exact (hf b hb).2.2.1 e
 funs:=I.stack
 frf:=I.stkFree
theorem join_some {α:Type} {o:Option (Option α)} {v:α} (h:o.join=some v):o=some (some v):=by
 cases o with
 |none=>cases h
 |some x=>cases x with
  |none=>cases h
  |some y=>cases h;rfl
theorem ZgN {ρ:Ro} {i:Nat} {d:D} (h:(roB k fr ρ)[i]?=some (some d)): ∃ j r,i=k + j/\fr[j]?=some r/\ρ[r]?=some (some d):=by
 unfold roB at h
 by_cases hi:i < k
 ·rw[List.getElem?_append_left (by rw[List.length_replicate];exact hi)] at h
  have:=List.mem_of_getElem? h
  rw[List.mem_replicate] at this
  cases this.2
 ·rw[List.getElem?_append_right (by rw[List.length_replicate];omega),List.length_replicate,List.getElem?_map] at h
  cases e:fr[i - k]? with
  |none=>rw[e] at h;cases h
  |some r=>
   rw[e] at h
   exact ⟨i - k,r,by omega,e,join_some (Option.some.inj h)⟩
noncomputable def stB (k:Nat) (fr:List Nat) (σ:L2.St):L2.St:=List.replicate k none ++ fr.map fun i=>(σ[i]?).join
theorem ZgO {σ:L2.St} {i:Nat} {d:V} (h:(stB k fr σ)[i]?=some (some d)): ∃ j r,i=k + j/\fr[j]?=some r/\σ[r]?=some (some d):=by
 unfold stB at h
 by_cases hi:i < k
 ·rw[List.getElem?_append_left (by rw[List.length_replicate];exact hi)] at h
  have:=List.mem_of_getElem? h
  rw[List.mem_replicate] at this
  cases this.2
 ·rw[List.getElem?_append_right (by rw[List.length_replicate];omega),List.length_replicate,List.getElem?_map] at h
  cases e:fr[i - k]? with
  |none=>rw[e] at h;cases h
  |some r=>
   rw[e] at h
   exact ⟨i - k,r,by omega,e,join_some (Option.some.inj h)⟩
theorem SR.blk {K:PySem.W.Frag} {H:Hp} {α:List Addr} {σ:L2.St} {ρ:Ro} (h:SR K H α σ ρ):SR K H α (stB k fr σ) (roB k fr ρ):=by
 refine ⟨by simp[stB,roB],fun i d e=> ?_⟩
 obtain ⟨j,r,rfl,e1,e2⟩:=ZgN e
 obtain ⟨v,e3,e4⟩:=h.2 r d e2
 refine ⟨v,?_,e4⟩
 unfold stB
 rw[List.getElem?_append_right (by rw[List.length_replicate];omega),List.length_replicate,List.getElem?_map,Nat.add_sub_cancel_left,e1]
 show some (σ[r]?).join=_
 rw[e3]
 rfl
theorem ZgP (B:Blk X scope cl N k fr) {pins:List (Addr × Obj)} {σ:L2.St} {H:Hp} {s:Shared} {fp:List Addr} {h1:Heap} {tk:Nat} {m:Str->Option Value} (I:Inv X pins σ H s) (hf: ∀ b∈fp,ZdL X pins H b) (hlt: ∀ b∈fp,b < s.heap.objs.size)
  (hn:h1.Ns s.heap.objs.size m) (hk: ∀ b o,s.heap.get? b=some o->h1.get? b=some o):Inv (blk X scope cl N s.heap.objs.size fp s H) [] (stB k fr σ) H { s with heap:=h1,toks:=tk } where
 ok:=ZfW B I hf hlt
 os:=rfl
 bare:=I.bare
 base:=Un.kept hk
 loc:=by
  refine ⟨m,hn,fun i x v e1 e2 e3=> ?_⟩
  obtain ⟨j,r,rfl,g1,g2⟩:=ZgO e2
  obtain ⟨y,k1,k2,k3,k4,k5⟩:=B.at_ j r g1
  have exy:x=y:=Option.some.inj (e1.symm.trans k1)
  subst exy
  obtain ⟨m0,hm0,hl⟩:=I.loc
  obtain ⟨u,ru,lk⟩:=hl r x v k2 g2 (.inr (.inl k3))
  refine ⟨u,ru,?_⟩
  rcases lk with ⟨z,_⟩ | ⟨_,c,z1,⟨o,z2,z3⟩⟩
  ·rw[k3] at z;cases z
  ·exact .inr ⟨k4,c,k5.trans z1,⟨o,hk _ _ z2,z3⟩⟩
 cell:=fun x c h=>by
  obtain ⟨v,o,e1,e2⟩:=I.cell x c (B.sub x c h)
  exact ⟨v,o,hk _ _ e1,e2⟩
 free:=I.fresh
 freeC:=fun x c h=>I.freeC x c (B.sub x c h)
 pin:=fun p hp=>(by simp[blk] at hp)
 hok:=I.hok.kept hk
 len:=by
  show (stB k fr σ).length=N.length
  rw[B.len]
  simp[stB]
 qd:=I.qd
theorem Za0 (B:Blk X scope cl N k fr) (hi:DI X ξ tg iter fi) (hg: ∀ C fp s H,DG (blk X scope cl N C fp s H) tg gt) (ht: ∀ C fp s H,DC (blk X scope cl N C fp s H) ifs c) (he: ∀ C fp s H,DE (blk X scope cl N C fp s H) E0 elt f)
  (hs: ∀ x,foldedSetIterable iter X.env x=pure x:=by intro _;rfl):DE X ξ (.ListComp elt [⟨tg,iter,ifs,0⟩] scope pos) (ZaZ fi k fr gt c f):=by
 obtain ⟨wi,pi,qi⟩:=hi
 refine ⟨fun σ H Q=> ∃ ρ α M,SR X.K H α σ ρ/\HR X.K H α M/\OP X.K H α ξ Q (ZaZ fi k fr gt c f ρ M),?_,fun σ ρ H α M Q s h q=>⟨ρ,α,M,s,h,q⟩⟩
 rintro pins s σ H Q I ⟨ρ,α,M,sr,hr,op⟩
 rw[eval_ListComp]
 refine wpAny_comprehension_free (use:=none) rfl hs B.clos B.kind B.names ?_
 refine thn (pi pins s σ H (fun J H2=> ∃ α2 M2 src,Ext X.K H H2 α α2/\HR X.K H2 α2 M2/\ZkR X.K H2 α2 J src/\OP X.K H2 α2 ξ Q (match Zb1 src gt c f M2.length (cnt src M2) 0 (roB k fr ρ) (M2 ++ [.lst []]) with | .ok _ M2'=> .ok (.ref M2.length) M2' | _=> .bad)) I
  (qi σ ρ H α M _ sr hr (OG.seq op fun src M1 J H1 α1 e1 h1 r1 q1=>⟨α1,M1,src,e1,h1,r1,q1⟩))) fun v s1 w1=>thn w1 fun itv s2 w2=> ?_
 obtain ⟨it,fp,tn,J,H2,rfl,I2,T,st2,f2,α2,M2,src,e2,h2,sc,op2⟩:=w2
 have srI:=sr.mono e2
 refine wpAny_newObj_type ?_
 have I3:Inv X pins σ (upd H2 s2.heap.objs.size (.lst [])) { s2 with heap:=s2.heap.push { cls:= .type "list",data:= .seq ([]:List Value).toArray } }:=I2.lnew (its:=[]) (t':=s2.toks) .nil (Nat.zero_le _)
 have fD:H2 s2.heap.objs.size=none:=I2.fresh
 generalize hD:s2.heap.objs.size=D at I3 fD
 generalize hs3:({ s2 with heap:=s2.heap.push { cls:= .type "list",data:= .seq ([]:List Value).toArray } }:Shared)=s3 at I3
 generalize hH3:upd H2 D (.lst [])=H3 at I3
 have h3:HR X.K H3 (α2 ++ [D]) (M2 ++ [.lst []]):=by rw[<- hH3];exact h2.new fD .nil
 have e3:Ext X.K H2 H3 α2 (α2 ++ [D]):=by rw[<- hH3];exact Ext.new fD
 have aD:RefK H3 (α2 ++ [D]) 0 M2.length D:=⟨h2.last D,by first | exact Kn.lst Zm | (rw[<- hH3];exact Kn.lst Zm)⟩
 have lt2: ∀ b∈fp,b < s2.heap.objs.size:=fun b hb=>let ⟨o,e,_⟩:=T.obj _ _ st2 b hb;Heap.lt_size e
 have keep3: ∀ b o,s2.heap.get? b=some o->s3.heap.get? b=some o:=fun b o e=>by rw[<- hs3];exact Heap.get?_push_of_some _ e
 have f3: ∀ b∈fp,ZdL X pins H3 b:=fun b hb=>⟨by rw[<- hH3,Zw (by rw[<- hD];exact Nat.ne_of_lt (lt2 b hb))];exact (f2 b hb).1,(f2 b hb).2⟩
 have lt3: ∀ b∈fp,b < s3.heap.objs.size:=fun b hb=>let ⟨o,e,_⟩:=T.obj _ _ st2 b hb;Heap.lt_size (keep3 b o e)
 have st3:tn 0 s3.heap:=T.keep _ _ _ st2 fun b _ o e=>keep3 b o e
 refine wpAny_newFunctionEnv B.cell (by intro y hy;simp at hy) (fun h₁ hns₁ hsb₁=> ?_) B.kind
 have keep4: ∀ b o,s3.heap.get? b=some o->h₁.get? b=some o:=fun b o e=>hsb₁.extBut b o (Nat.ne_of_lt (Heap.lt_size e)) (Heap.get?_push_of_some _ e)
 have I4:=ZgP (tk:=s3.toks + ([]:List (Str × Value)).length) B I3 f3 lt3 hns₁ keep4
 have st4:tn 0 h₁:=T.keep _ _ _ st3 fun b _ o e=>keep4 b o e
 generalize hX:blk X scope cl N s3.heap.objs.size fp s3 H3=Y at I4
 have YK:Y.K=X.K:=by rw[<- hX];rfl
 have Yp:Y.prog=X.prog:=by rw[<- hX];rfl
 have Yw:Y.w=X.w:=by rw[<- hX];rfl
 have YA:Y.A=X.A:=by rw[<- hX];rfl
 have Ye:Y.env=compEnvC scope cl s3.heap.objs.size X.env:=by rw[<- hX];rfl
 obtain ⟨tt,pt,qt⟩:=hg s3.heap.objs.size fp s3 H3
 obtain ⟨te,pe,qe⟩:=he s3.heap.objs.size fp s3 H3
 have tst:=ht s3.heap.objs.size fp s3 H3
 rw[hX] at pt qt pe qe tst
 cases er:Zb1 src gt c f M2.length (cnt src M2) 0 (roB k fr ρ) (M2 ++ [.lst []]) with
 |exc x M9=>rw[er] at op2;exact op2.elim
 |bad=>rw[er] at op2;exact op2.elim
 |ok u9 M9=>
  rw[er] at op2
  have loop:codeAny (model X.prog X.w) X.A (.compLoop (.ListComp elt [⟨tg,iter,ifs,0⟩] scope pos) 0 (.ref it) (.ref D) (compEnvC scope cl s3.heap.objs.size X.env)) (compPost (model X.prog X.w) X.A X.xe none (EP X pins σ Q) (.ref D) s3.heap.objs.size) { s3 with heap:=h₁,toks:=s3.toks + ([]:List (Str × Value)).length }:=by
   refine Zb2 (fun n s'=> ∃ i σ' ρ' H' α' M',Inv Y [] σ' H' s'/\tn i s'.heap/\(∀ b∈fp,H' b=none)/\SR X.K H' α' σ' ρ'/\HR X.K H' α' M'/\Ext X.K H3 H' (α2 ++ [D]) α'/\Zb1 src gt c f M2.length n i ρ' M'= .ok u9 M9) ?_ (cnt src M2)
    ⟨0,stB k fr σ,roB k fr ρ,H3,α2 ++ [D],M2 ++ [.lst []],I4,st4,fun b hb=>(f3 b hb).1,(srI.blk).mono e3,h3,Ext.refl,er⟩
   rintro n s5 ⟨i,σ5,ρ5,H5,α5,M5,I5,st5,fr5,sr5,hr5,ex5,en⟩
   have fp5: ∀ {H':Hp},(∀ b∈fp,H' b=none)-> ∀ b∈fp,ZdL Y [] H' b:=fun hn b hb=>⟨hn b hb,by rw[Ye];exact Nat.ne_of_lt (lt3 b hb),by
    have:=(ZfW B I3 f3 lt3).exfs b hb
    rw[hX] at this;exact this,.inl (by rw[<- hX];exact hb),fun x c h=>(by rw[Ye] at h;exact (f3 b hb).2.2.2.2.1 x c (B.sub x c h)),fun p hp=>(by rw[<- hX] at hp;simp[blk] at hp)⟩
   have src5:=sc i H5 α5 M5 (e3.trans ex5) hr5
   rw[Zb1] at en
   cases ex:nxt src i M5 with
   |none=>rw[ex] at en;cases en
   |some od=>
    rw[ex] at src5 en
    cases od with
    |none=>
     cases en
     have fin:=T.done Y Yp Yw YK YA i [] s5 σ5 H5 (fun _ _=>False) I5 (fp5 fr5) st5 src5
     rw[YA] at fin
     refine thn fin fun r s6 ⟨hr6,I6⟩=> ?_
     subst hr6
     obtain ⟨m6,hm6,_⟩:=id I6.loc
     rw[Ye] at hm6
     refine ⟨m6,hm6,fun h' sb=> ?_⟩
     have un:=I6.base
     have hok6:=I6.hok
     have I7:Inv X pins σ H5 s6:=by
      refine I3.call' (s':=s6) (ch:=fp) ?_ ?_ ?_ I6.bare fun b hb=> ?_
      ·have:=I6.os
       rw[this,<- hX];rfl
      ·rw[<- hX] at un
       exact un
      ·rw[Yp,Yw] at hok6
       exact hok6
      ·obtain ⟨_,z1,z2,z3,z4,z5⟩:=f3 b hb
       exact ⟨z3,z1,z4,z5⟩
     have hC:H5 s3.heap.objs.size=none:=by have:=I6.free;rw[Ye] at this;exact this
     have I8:Inv X pins σ H5 { s6 with heap:=h',toks:=s6.toks }:=I7.turned (it:=s3.heap.objs.size) (fun b o hb e=>(sb.2 b hb).trans e) hC (Nat.ne_of_gt I3.lt) (.inr I3.sz)
      (fun x c h z=>by
       obtain ⟨v,o,e,_⟩:=I3.cell x c h
       exact absurd (Heap.lt_size e) (by rw[z];exact Nat.lt_irrefl _)) (fun p hp z=>by
       have:=(I3.pin p hp).1
       exact absurd (Heap.lt_size this) (by rw[z];exact Nat.lt_irrefl _))
     exact ⟨.ref D,H5,I8,rfl,op2 _ H5 α5 (e3.trans ex5) hr5 (.ref (ex5.get aD))⟩
    |some d=>
     obtain ⟨go,yl⟩:=src5
     cases n with
     |zero=>cases en
     |succ n=>
      simp only at en
      have itm:=T.item Y Yp Yw YK YA i [] s5 σ5 H5 (fun _ _=>False) I5 (fp5 fr5) st5 go
      rw[YA] at itm
      refine thn itm fun r s6 ⟨u,hr6,w6⟩=> ?_
      subst hr6
      refine thn w6 fun _ s7 ⟨x,H7,I7,r7,y7,st7,fr7⟩=> ?_
      obtain ⟨ex7,hr7,rp7⟩:=yl x H7 y7
      have sr5:=sr5.mono ex7
      have hr5:=hr7
      have ex5:=ex5.trans ex7
      have I7':=I7.pinned (fp5 fr7) (T.obj _ _ st7)
      cases eg:gt d ρ5 with
      |none=>rw[eg] at en;cases en
      |some ρ6=>
       rw[eg] at en
       simp only at en
       have asg:=pt _ s7 σ5 H7 x u _ I7' r7 (qt x d σ5 ρ5 H7 α5 ρ6 (fun σ' H'=>H'=H7/\SR X.K H7 α5 σ' ρ6) (by rw[YK];exact sr5) (by rw[YK];exact rp7) eg fun σ' s'=>⟨rfl,by rw[YK] at s';exact s'⟩)
       rw[Yp,Yw,YA,Ye] at asg
       refine wpAny_mono asg (fun _ s8 ⟨σ8,H8,I8,z8,sr8⟩=> ?_) (fun _ _ z=>by rw[<- hX] at z;exact z)
       subst z8
       have again: ∀ {σ9:L2.St} {H9:Hp} {s9:Shared},Inv Y ([] ++ Zbg fp s7.heap) σ9 H9 s9->Inv Y [] σ9 H9 s9/\tn (i + 1) s9.heap/\ ∀ b∈fp,H9 b=none:=fun {σ9 H9 s9} I9=>by
        refine ⟨I9.unpinned,T.keep _ _ _ st7 fun b hb o e=>(I9.pin (b,o) (List.mem_append_right _ (List.mem_append_right _ (Zai hb e)))).1,fun b hb=> ?_⟩
        obtain ⟨o,e,_⟩:=T.obj _ _ st7 b hb
        exact (I9.pin (b,o) (List.mem_append_right _ (List.mem_append_right _ (Zai hb e)))).2.1
       have after: ∀ (kk:Bool) (M8:Sto) (H9:Hp) (α9:List Addr) (s9:Shared),Inv Y ([] ++ Zbg fp s7.heap) σ8 H9 s9->Ext X.K H8 H9 α5 α9->HR X.K H9 α9 M8->c ρ6 M5= .ok kk M8->
         (if kk=true then wpAny (model X.prog X.w) X.A (eval elt (compEnvC scope cl s3.heap.objs.size X.env)) (fun x s₄=>wpAny (model X.prog X.w) X.A (call (.builtin "list.append") [.ref D,x]) (fun _ s₅=> ∃ m,m < n + 1/\ ∃ i σ' ρ' H' α' M',Inv Y [] σ' H' s₅/\tn i s₅.heap/\(∀ b∈fp,H' b=none)/\SR X.K H' α' σ' ρ'/\HR X.K H' α' M'/\Ext X.K H3 H' (α2 ++ [D]) α'/\Zb1 src gt c f M2.length m i ρ' M'= .ok u9 M9) (fun _ _=>False) s₄) (fun _ _=>False) s9
          else ∃ m,m < n + 1/\ ∃ i σ' ρ' H' α' M',Inv Y [] σ' H' s9/\tn i s9.heap/\(∀ b∈fp,H' b=none)/\SR X.K H' α' σ' ρ'/\HR X.K H' α' M'/\Ext X.K H3 H' (α2 ++ [D]) α'/\Zb1 src gt c f M2.length m i ρ' M'= .ok u9 M9):=by
        intro kk M8 H9 α9 s9 I9 ex9 hr9 ec
        rw[ec] at en
        cases kk with
        |false=>
         obtain ⟨a1,a2,a3⟩:=again I9
         exact Zig ⟨n,Nat.lt_succ_self n,i + 1,σ8,ρ6,H9,α9,M8,a1,a2,a3,sr8.mono ex9,hr9,ex5.trans ex9,en⟩
        |true=>
         simp only at en
         refine Zih ?_
         cases ef:f ρ6 M8 with
         |exc x9 M10=>rw[ef] at en;cases en
         |bad=>rw[ef] at en;cases en
         |ok y M10=>
          rw[ef] at en
          simp only at en
          have ev:=pe _ s9 σ8 H9 (fun v H'=> ∃ α',Ext X.K H9 H' α9 α'/\HR X.K H' α' M10/\Rep X.K H' α' v y) I9 (qe σ8 ρ6 H9 α9 M8 _ (by rw[YK];exact sr8.mono ex9) (by rw[YK];exact hr9) (by
           rw[ef,YK]
           exact fun v H' α' e h r=>⟨α',e,h,r⟩))
          rw[Yp,Yw,YA,Ye] at ev
          refine wpAny_mono ev (fun yv s10 ⟨v,H10,I10,r10,α10,ex10,hr10,rp10⟩=> ?_) (fun _ _ z=>by rw[<- hX] at z;exact z)
          cases em:M10[M2.length]? with
          |none=>rw[em] at en;cases en
          |some so=>
           cases so with
           |lst ds=>
            rw[em] at en
            simp only at en
            by_cases cz:ds.length < 10000000
            ·rw[if_pos cz] at en
             have aD10:=ex10.get (ex9.get (ex5.get aD))
             obtain ⟨xs,g1,g2⟩:=hr10.at aD10 em
             have ap:=ZbQ (X:=Y) _ s10 σ8 H10 (.ref D) [v] (.ref D) [yv] (fun _ H'=>H'=upd H10 D (.lst (xs ++ [v]))) I10 rfl (.cons r10 .nil) ⟨D,xs,v,rfl,rfl,g1,by rw[g2.length];exact Nat.lt_of_lt_of_le cz (by decide),rfl⟩
             rw[Yp,Yw,YA] at ap
             refine wpAny_mono ap (fun _ s11 ⟨v11,H11,I11,_,z11⟩=> ?_) (fun _ _ z=>by rw[<- hX] at z;exact z)
             subst z11
             obtain ⟨a1,a2,a3⟩:=again I11
             have exw:Ext X.K H10 (upd H10 D (.lst (xs ++ [v]))) α10 α10:=Ext.wr g1
             exact ⟨n,Nat.lt_succ_self n,i + 1,σ8,ρ6,_,α10,_,a1,a2,a3,((sr8.mono ex9).mono ex10).mono exw,hr10.wr aD10 g1 (g2.append (.cons rp10 .nil)),((ex5.trans ex9).trans ex10).trans exw,en⟩
            ·rw[if_neg cz] at en
             cases en
       rcases tst with ⟨rfl,ec⟩ | ⟨e,rfl,tt',ptt,qtt⟩
       ·refine wpAny_tests_nil ?_
        exact after true M5 H8 α5 s8 I8 Ext.refl hr5 (by rw[ec])
       ·refine wpAny_tests_one ?_
        cases ec:c ρ6 M5 with
        |exc x9 M10=>rw[ec] at en;cases en
        |bad=>rw[ec] at en;cases en
        |ok kk M8=>
         have tv':=ptt _ s8 σ8 H8 (fun b H'=>b=kk/\ ∃ α',Ext X.K H8 H' α5 α'/\HR X.K H' α' M8) I8 (qtt σ8 ρ6 H8 α5 M5 _ (by rw[YK];exact sr8) (by rw[YK];exact hr5) (by
          rw[ec,YK]
          exact fun v H' α' e h r=>⟨r,α',e,h⟩))
         rw[Yp,Yw,YA,Ye] at tv'
         refine wpAny_mono tv' (fun b s9 ⟨H9,I9,zb,α9,ex9,hr9⟩=> ?_) (fun _ _ z=>by rw[<- hX] at z;exact z)
         subst zb
         exact after b M8 H9 α9 s9 I9 ex9 hr9 ec
  exact codeAny_compStart_list loop (T.self X.A 0 _ _ _ st4 loop)
end
end DL
end
section
namespace DL
open PySem PySem.Spec PyProof.Rows L2
theorem ZiB {names:List (Str × NameKind)} (h:names.all (fun y=>y.2 != .cell && y.2 != .free)=true) (x:Str): ¬ (names.lookup x=some .cell\/names.lookup x=some .free):=by
 induction names with
 |nil=>intro z;rcases z with z | z<;>simp at z
 |cons y r ih=>
  rw[List.all_cons,Bool.and_eq_true] at h
  obtain ⟨n,kd⟩:=y
  rw[List.lookup_cons]
  cases e:x == n with
  |true=>
   simp only
   intro z
   have h1:=h.1
   rcases z with z | z<;>(cases z;simp at h1)
  |false=>exact ih h.2
theorem Zff {names:List (Str × NameKind)} {env:Env} (h:names.all (fun y=>y.2 != .cell && y.2 != .free)=true):
  (names.map fun (n,k)=>if (k == NameKind.free && env.scope.kind == .function && env.kindOf n == some .cell) then (n,NameKind.cell) else (n,k))=names:=by
 induction names with
 |nil=>rfl
 |cons y r ih=>
  rw[List.all_cons,Bool.and_eq_true] at h
  obtain ⟨n,kd⟩:=y
  have hk:(kd == NameKind.free)=false:=by
   have h1:=h.1
   rw[Bool.and_eq_true] at h1
   have h2:=h1.2
   cases kd<;>first | rfl | simp at h2
  rw[List.map_cons,ih h.2]
  simp[hk]
theorem ZkS {X:Cx} {scope:Scope} {N:List Str} {k:Nat} (h:scope.names.all (fun y=>y.2 != .cell && y.2 != .free)=true) (hk:scope.kind= .function) (hn: ∀ y∈scope.names,y.2= .local->scope.names.lookup y.1=some .local) (hl:N.length=k):Blk X scope [] N k [] where
 clos:=closureFor_none fun y hy z=>by
  have:=List.all_eq_true.mp h y hy
  rw[z] at this
  simp at this
 kind:=hk
 cell:=fun y hy z=>by
  have:=List.all_eq_true.mp h y hy
  rw[z] at this
  simp at this
 names:=hn
 sub:=fun x c z=>(by cases z)
 has:=fun x z=>by
  have e:(relabel scope X.env).names=scope.names:=Zff h
  rw[e] at z
  exact absurd z (ZiB h x)
 len:=hl
 at_:=fun j i z=>(by simp at z)
theorem Zcv {env:Env}: ∀ (names:List (Str × NameKind)) (acc:List (Str × Addr)),(∀ y∈names,y.2= .free-> ∃ c,env.cells.lookup y.1=some c)->
  (forIn names acc fun (x:Str × NameKind) (cs:List (Str × Addr))=>if x.2 == NameKind.free then (do let a <- cellOf env x.1;pure (ForInStep.yield ((x.1,a) :: cs))) else (pure (ForInStep.yield cs):Sem _))=
   (pure (((names.filter fun y=>y.2 == .free).map fun y=>(y.1,(env.cells.lookup y.1).getD 0)).reverse ++ acc):Sem (List (Str × Addr)))
 | [],acc,_=>by simp
 | (n,kd) :: r,acc,h=>by
  rw[List.forIn_cons]
  by_cases hk:(kd == NameKind.free)=true
  ·obtain ⟨c,hc⟩:=h (n,kd) List.mem_cons_self (by simpa using hk)
   have e1:cellOf env n=pure c:=by unfold cellOf;rw[hc]
   have ih:=Zcv r ((n,c) :: acc) fun y hy=>h y (List.mem_cons_of_mem _ hy)
   simp only[hk,if_true,e1,pure_bind]
   refine Eq.trans ih ?_
   simp[List.filter_cons,hk,hc]
  ·have ih:=Zcv r acc fun y hy=>h y (List.mem_cons_of_mem _ hy)
   simp only[hk,if_false,pure_bind]
   refine Eq.trans ih ?_
   simp[List.filter_cons,hk]
noncomputable def clF (scope:Scope) (env:Env):List (Str × Addr):=((scope.names.filter fun y=>y.2 == .free).map fun y=>(y.1,(env.cells.lookup y.1).getD 0)).reverse
theorem Zbl {env:Env}: ∀ {l:List (Str × NameKind)} {x:Str} {c:Addr},(l.map fun y=>(y.1,(env.cells.lookup y.1).getD 0)).lookup x=some c->c=(env.cells.lookup x).getD 0/\ ∃ y∈l,y.1=x
 | [],x,c,h=>by simp at h
 |y :: r,x,c,h=>by
  rw[List.map_cons,List.lookup_cons] at h
  cases e:x == y.1 with
  |true=>
   rw[e] at h
   have ex:x=y.1:=by simpa using e
   cases h
   exact ⟨by rw[ex],y,List.mem_cons_self,ex.symm⟩
  |false=>
   rw[e] at h
   obtain ⟨h1,z,h2,h3⟩:=Zbl h
   exact ⟨h1,z,List.mem_cons_of_mem _ h2,h3⟩
theorem Zay {α:Type}: ∀ {l:List (Str × α)} {x:Str},(∃ y∈l,y.1=x)-> ∃ c,l.lookup x=some c
 | [],x,h=>by obtain ⟨y,h1,_⟩:=h;simp at h1
 |z :: r,x,h=>by
  rw[List.lookup_cons]
  cases e:x == z.1 with
  |true=>exact ⟨_,rfl⟩
  |false=>
   obtain ⟨y,h1,h2⟩:=h
   rcases List.mem_cons.mp h1 with q | q
   ·subst q;rw[h2] at e;simp at e
   ·exact Zay ⟨y,q,h2⟩
theorem ZT {env:Env} (nc: ∀ n,env.scope.names.lookup n=env.kindOf n): ∀ {names:List (Str × NameKind)} {x:Str} {kd:NameKind},(names.map fun (n,k)=>if (k == NameKind.free && env.scope.kind == .function && env.kindOf n == some .cell) then (n,NameKind.cell) else (n,k)).lookup x=some kd->
  names.lookup x=some kd\/(names.lookup x=some .free/\kd= .cell)
 | [],x,kd,h=>by simp at h
 | (n,q) :: r,x,kd,h=>by
  rw[List.map_cons,List.lookup_cons] at h
  rw[List.lookup_cons]
  dsimp only at h ⊢
  by_cases c:(q == NameKind.free && env.scope.kind == .function && env.kindOf n == some .cell)=true
  ·rw[if_pos c] at h
   dsimp only at h
   cases e:x == n with
   |true=>
    rw[e] at h
    cases h
    simp only[Bool.and_eq_true,beq_iff_eq] at c
    exact .inr ⟨by rw[c.1.1],rfl⟩
   |false=>rw[e] at h;exact ZT nc h
  ·rw[if_neg c] at h
   dsimp only at h
   cases e:x == n with
   |true=>rw[e] at h;exact .inl h
   |false=>rw[e] at h;exact ZT nc h
theorem Zaf {env:Env}: ∀ {names:List (Str × NameKind)} {x:Str},names.lookup x=some .free->(∃ kd,(kd=NameKind.cell\/kd=NameKind.free)/\(names.map fun (n,k)=>if (k == NameKind.free && env.scope.kind == .function && env.kindOf n == some .cell) then (n,NameKind.cell) else (n,k)).lookup x=some kd)
 | [],x,h=>by simp at h
 | (n,q) :: r,x,h=>by
  rw[List.lookup_cons] at h
  rw[List.map_cons,List.lookup_cons]
  by_cases c:(q == NameKind.free && env.scope.kind == .function && env.kindOf n == some .cell)=true
  ·dsimp only
   rw[if_pos c]
   cases e:x == n with
   |true=>exact ⟨_,.inl rfl,rfl⟩
   |false=>rw[e] at h;exact Zaf h
  ·dsimp only
   rw[if_neg c]
   cases e:x == n with
   |true=>rw[e] at h;exact ⟨q,.inr (Option.some.inj h),rfl⟩
   |false=>rw[e] at h;exact Zaf h
noncomputable def Zmx (XN N:List Str) (dn sn:List (Str × NameKind)) (k:Nat) (fr:List Nat):Bool:=
 (sn.all fun y=>y.2 != .cell && (y.2 != .free || dn.lookup y.1 == some .cell) && (y.2 != .local || sn.lookup y.1 == some .local)) && N.length == k + fr.length &&
  (List.range fr.length).all fun j=>match fr[j]? with
   |some i=>(match N[k + j]?,XN[i]? with | some x,some y=>x == y && dn.lookup x == some .cell && sn.lookup x == some .free | _,_=>false)
   |none=>false
theorem Zmy {X:Cx} {scope:Scope} {N:List Str} {k n:Nat} {fr:List Nat} {XN:List Str} {dn:List (Str × NameKind)} (hN:X.N=XN) (hd:X.env.scope.names=dn) (hc:X.env.cells=cellsFrom n dn []) (hk:scope.kind= .function) (h:Zmx XN N dn scope.names k fr=true):Blk X scope (clF scope X.env) N k fr:=by
 unfold Zmx at h
 simp only[Bool.and_eq_true,List.all_eq_true,bne_iff_ne,ne_eq,Bool.or_eq_true,beq_iff_eq] at h
 obtain ⟨⟨h1,h2⟩,h3⟩:=h
 have kind: ∀ x,X.env.kindOf x=dn.lookup x:=fun x=>by rw[<- hd];rfl
 have cel: ∀ x,dn.lookup x=some .cell-> ∃ c,X.env.cells.lookup x=some c:=fun x e=>by
  have:=PySem.W.cellsFrom_some dn n [] (.inl e)
  rw[hc]
  exact Option.isSome_iff_exists.mp this
 have frc: ∀ y∈scope.names,y.2= .free-> ∃ c,X.env.cells.lookup y.1=some c:=fun y hy e=>by
  rcases (h1 y hy).1.2 with z | z
  ·exact absurd e z
  ·exact cel _ z
 have sub: ∀ x c,(clF scope X.env).lookup x=some c->X.env.cells.lookup x=some c:=fun x c e=>by
  unfold clF at e
  rw[<- List.map_reverse] at e
  obtain ⟨e1,y,e2,e3⟩:=Zbl e
  have e4:=List.mem_filter.mp (List.mem_reverse.mp e2)
  obtain ⟨c',g⟩:=frc y e4.1 (by simpa using e4.2)
  rw[e3] at g
  rw[g] at e1 ⊢
  rw[e1]
  rfl
 have has: ∀ x,scope.names.lookup x=some .free-> ∃ c,(clF scope X.env).lookup x=some c:=fun x e=>by
  refine Zay ?_
  have m:=PySem.mem_of_lookup e
  exact ⟨(x,(X.env.cells.lookup x).getD 0),List.mem_reverse.mpr (List.mem_map.mpr ⟨(x,.free),List.mem_filter.mpr ⟨m,by simp⟩,rfl⟩),rfl⟩
 refine ⟨?_,hk,fun y hy=>(h1 y hy).1.1,fun y hy e=> ?_,sub,fun x z=> ?_,h2,fun j i e=> ?_⟩
 ·have:=Zcv (env:=X.env) scope.names [] frc
  rw[List.append_nil] at this
  unfold closureFor
  exact (congrArg (fun (m:Sem (List (Str × Addr)))=>m >>= fun cs=>(pure cs:Sem (List (Str × Addr)))) this).trans (pure_bind _ _)
 ·rcases (h1 y hy).2 with z | z
  ·exact absurd e z
  ·exact z
 ·have nc: ∀ m,X.env.scope.names.lookup m=X.env.kindOf m:=fun m=>rfl
  refine has x ?_
  rcases z with z | z
  ·rcases ZT nc z with q | q
   ·exact absurd rfl (h1 _ (PySem.mem_of_lookup q)).1.1
   ·exact q.1
  ·rcases ZT nc z with q | q
   ·exact q
   ·cases q.2
 ·have hj:j < fr.length:=(List.getElem?_eq_some_iff.mp e).1
  have q:=h3 j (List.mem_range.mpr hj)
  rw[e] at q
  dsimp only at q
  cases e1:N[k + j]? with
  |none=>rw[e1] at q;cases q
  |some x=>
   cases e2:XN[i]? with
   |none=>rw[e1,e2] at q;cases q
   |some y=>
    rw[e1,e2] at q
    simp only[Bool.and_eq_true,beq_iff_eq] at q
    obtain ⟨⟨q1,q2⟩,q3⟩:=q
    subst q1
    obtain ⟨kd,r1,r2⟩:=Zaf (env:=X.env) q3
    obtain ⟨c,r3⟩:=has x q3
    refine ⟨x,rfl,by rw[hN];exact e2,by rw[kind];exact q2,?_,r3.trans (sub x c r3).symm⟩
    rcases r1 with r1 | r1
    ·exact .inl (r1 ▸ r2)
    ·exact .inr (r1 ▸ r2)
section
variable {X:Cx} {ξ:XK}
noncomputable def ZaJ:List D->Option (List Bool)
 | []=>some []
 | .bl b :: r=>match ZaJ r with | some bs=>some (b :: bs) | none=>none
 |_ :: _=>none
noncomputable def Zmz:List D->Sto->Out D:=fun ds M=>match ds with
 | [.ref n]=>(match M[n]? with | some (.lst xs)=>(match ZaJ xs with | some bs=> .ok (.bl (bs.all id)) M | none=> .bad) | none=> .bad)
 |_=> .bad
end
section
variable {prog:Program} {w:World} {A:Around} {E:Value->Shared->Prop} {s:Shared}
end
section
variable {X:Cx} {ξ:XK} {e:Expr} {f:Ev} {p2 p3 p4 pos:Pos} {j:Nat}
theorem Reps.rev {K:PySem.W.Frag} {H:Hp} {α:List Addr}: ∀ {vs:List V} {ds:List D},Reps K H α vs ds->Reps K H α vs.reverse ds.reverse
 |_,_,.nil=> .nil
 |_,_,.cons r t=>by
  rw[List.reverse_cons,List.reverse_cons]
  exact (Reps.rev t).append (.cons r .nil)
end
end DL
end
section
namespace DL
open PySem PySem.Spec PyProof.Rows L2
section
variable {X:Cx} {ξ:XK}
end
end DL
end
section
namespace DL
open PySem PySem.Spec PyProof.Rows L2
section
variable {M:Model} {A:Around} {E:Value->Shared->Prop} {s:Shared}
end
section
variable {X:Cx} {ξ:XK} {tg iter elt:Expr} {ifs:List Expr} {scope:Scope} {cl:List (Str × Addr)} {N:List Str} {k:Nat} {fr:List Nat} {fi:Ro->Sto->Out Src} {gt:Tg} {c:Tv} {f:Ev} {pos:Pos}
end
section
variable {X:Cx} {scope0:Scope} {cl0:List (Str × Addr)} {N0:List Str} {k0:Nat} {fr0:List Nat} {C:Addr} {fp:List Addr} {s:Shared} {H:Hp} {scope:Scope} {N:List Str} {k:Nat} {fr:List Nat} {dn:List (Str × NameKind)}
end
end DL
end
section
namespace DL
open PySem PySem.Spec PyProof.Rows L2
open PySem.W (nsIn excIn tailIn nsOkIn mroIn clsIn typeIn findIn specialIn takesIn kitOne Looks)
noncomputable abbrev bmV:List Value:=[.type "ValueError",.type "Exception",.type "BaseException",.type "object"]
noncomputable def ZgQ (K:PySem.W.Frag) (c:Str):Option Addr:=match nsIn K mainGlobals c with | some (some (.ref C))=>some C | _=>none
theorem Zfg {K:PySem.W.Frag} {c:Str} {C:Addr} (h:ZgQ K c=some C):nsIn K mainGlobals c=some (some (.ref C)):=by
 unfold ZgQ at h
 split at h
 ·rename_i C' e;cases h;exact e
 ·cases h
noncomputable def ZiC (K:PySem.W.Frag) (c:Str):Bool:=match ZgQ K c with
 |some C=>excIn K C bmV "ValueError.__new__" && findIn K (.ref C) "__getattribute__" == some (some (.builtin "BaseException.__getattribute__")) && findIn K (.ref C) "__getattr__" == some none && findIn K (.ref C) "__class__" == some (some (.builtin "object.__class__")) &&
  specialIn K (.builtin "object.__class__") "__get__" == some (some (.builtin "getset_descriptor.__get__")) && takesIn K (.builtin "object.__class__") == some true && mroIn K C (.type "BaseException") == some true && mroIn K C (.type "object") == some true && (clsIn K C).isSome
 |none=>false
theorem ZgR {K:PySem.W.Frag} {c:Str} (h:ZiC K c=true): ∃ C,nsIn K mainGlobals c=some (some (.ref C))/\excIn K C bmV "ValueError.__new__"=true/\DQ.ExcC K C:=by
 unfold ZiC at h
 split at h
 ·rename_i C e
  simp only[Bool.and_eq_true,beq_iff_eq] at h
  obtain ⟨⟨⟨⟨⟨⟨⟨⟨h1,h2⟩,h3⟩,h4⟩,h5⟩,h6⟩,h7⟩,h8⟩,h9⟩:=h
  exact ⟨C,Zfg e,h1,h2,h3,h4,h5,h6,h7,h8,h9⟩
 ·cases h
theorem ZgS {K:PySem.W.Frag} {h:Heap} {C:Addr} {bmB:List Value} {newId:String} (X:K.In h) (q:excIn K C bmB newId=true):
  ∃ bm N nm q bs hdct sn sub ab col dd k0 k1 k2 k3 k5 mN,h.get? C=some (excClassObj nm q C N bs bm hdct sn sub ab col dd k0 k1 k2 k3 k5 newId)/\h.Ns N mN/\mN "__init__"=none/\OwnTail h bmB bm:=by
 unfold excIn at q
 split at q
 ·rename_i dd cd sl ho
  split at q
  ·rename_i C' bm k0 k1 k2 k3 n k5 hm hs
   simp only[Bool.and_eq_true,beq_iff_eq,Bool.not_eq_true'] at q
   obtain ⟨⟨⟨⟨⟨rfl,rfl⟩,hdel⟩,ht⟩,hok⟩,hni⟩:=q
   obtain ⟨nm,bs,mro,ns,qn,hd,sn,sub,ab,col,del⟩:=cd
   dsimp only at hm hdel hok hni
   subst hm hdel
   obtain ⟨l⟩:=sl
   simp only at hs
   subst hs
   exact ⟨bm,ns,nm,qn,bs,hd,sn,sub,ab,col,dd,k0,k1,k2,k3,k5,_,X _ _ ho,.of_isNs (PySem.W.isNs_of_in X hok),PySem.W.nsMap_none_of_in X hok hni,PySem.W.tail_of_in X ht⟩
  ·cases q
 ·cases q
noncomputable def ZmA (tab:List (Str × Bool)) (f:Ev):Ev:=fun ρ M=>(f ρ M).bind fun x M1=>match x with | .err c _=>(match tab.lookup c with | some b=> .ok (.bl b) M1 | none=> .bad) | _=> .bad
section
variable {X:Cx} {ξ:XK} {e:Expr} {fa:Ev} {p pos:Pos} {tab:List (Str × Bool)}
noncomputable def Zb3 (c:Str) (fs:Av):Sv:=fun ρ M=>Zaq (fs ρ M) fun ds M1=>if ds.length<=1000 then .exc c M1 else .bad
theorem Zfh {x:Str} {np cpos:Pos} {a:Expr} {as:List Expr} {fs:Av} (T:Thr X ξ) (hx:ZiC X.K x=true) (gl: ∀ c v,nsIn X.K mainGlobals c=some (some v)->X.mg c=some v) (hh:X.A.handled=none) (ha:DA X ξ (a :: as) fs) (hg:Gl X x:=by rfl) (hdb:(x == ("__debug__":Str))=false:=by decide)
  (he:starEach (a :: as) X.env=(false,eval a X.env) :: starEach as X.env:=by rfl) (hpl:(backTo cpos (starEach as X.env)).any (·.1)=false:=by rfl):DS X ξ (.Raise (some (.Call (.Name x np) (a :: as) [] cpos)) none pos) (Zb3 x fs):=by
 obtain ⟨ta,pa,qa⟩:=ha
 obtain ⟨C,hC,hq,_⟩:=ZgR hx
 refine ⟨fun Dn σ H=>ta σ H fun vs H1=>vs.length<=sizeLine/\ξ (.ref C) none H1,fun pins s σ H Dn I h=> ?_,fun σ ρ H α M Dn s h q=> ?_⟩
 ·obtain ⟨tl,N,nm,q,bs,hdct,sn,sub,ab,col,dd,k0,k1,k2,k3,k5,mN,gC,hN,hni,TL⟩:=ZgS I.ok.mod.kin hq
  refine wpAny_Raise_call_subT (C:=C) (nm:=nm) (q:=q) (N:=N) (bs:=bs) (bm:=tl) (hdct:=hdct) (sn:=sn) (sub:=sub) (ab:=ab) (col:=col) (dd:=dd) (k0:=k0) (k1:=k1) (k2:=k2) (k3:=k3) (k5:=k5) F.excBase_ValueError (mN:=mN)
   (TL.hasType F.excBase_ValueError.hasBase) hh (by rw[he];show (false || (backTo cpos (starEach as X.env)).any (·.1))=false;rw[hpl];rfl) hni (Zbo I hg (gl x _ hC) ⟨rfl,?_⟩ hdb)
  have hs:=pa cpos pins s σ H _ I h
  rw[he] at hs ⊢
  refine Calls.evalArgs_plain (wpAny_mono hs (fun us s2 ⟨vs,H1,I1,r1,z1,z2⟩=>⟨rfl,by rw[<- r1.length];exact z1,I1.bk _ _ gC,hN.keeps I1.bk,TL.keeps I1.bk,fun h' e m=> ?_⟩) fun _ _ y=>y)
  obtain ⟨t,g1,g2,g3⟩:=m.there
  exact T.mak pins σ H1 s2 h' e _ _ C I1 m.keeps m.new g1 rfl rfl rfl rfl rfl z2
 ·refine qa σ ρ H α M _ s h (FP.seq q fun ds M1 vs H1 α1 e1 h1 r1 w1=> ?_)
  by_cases hl:ds.length<=1000
  ·rw[if_pos hl] at w1
   exact ⟨by rw[r1.length];exact ZgF hl,w1 C H1 α1 hC Ext.refl h1⟩
  ·rw[if_neg hl] at w1
   exact w1.elim
end
end DL
end
section
namespace DL
open PySem PySem.Spec PyProof.Rows L2
open PySem.W (nsIn excIn tailIn nsOkIn mroIn clsIn typeIn findIn specialIn takesIn kitOne Looks looks_mroIn looks_typeIn)
section
variable {X:Cx} {pins pins' pn:List (Addr × Obj)} {σ:L2.St} {H H':Hp} {s:Shared} {xe:Value->Shared->Prop} {e:Addr}
end
noncomputable def ZmB (gb:Sv) (cs:List Str) (i:Nat) (gh:Sv):Sv:=fun ρ M=>match gb ρ M with
 | .exc c M1=>if cs.contains c=true then (match gh ((List.replicate ρ.length none).set i (some (.err c []))) M1 with
  | .ret d M2=> .ret d M2
  | .nx _ M2=> .nx (List.replicate ρ.length none) M2
  |_=> .bad) else .bad
 |o=>o
section
variable {X:Cx} {ξ:XK} {d n:Str} {cs:List Str} {i:Nat} {body suite:List Stmt} {b0:Stmt} {gb gh:Sv} {pos hpos np:Pos}
end
theorem Zbw {k:Nat} {A:Around} {env:Env} (hr:Room k (A.deeper env)) (h:100<=k):A.handled.isNone=true:=by
 have e:A.handled=none:=hr.hd h
 rw[e]
 rfl
end DL
end
section
namespace DL
open PySem PySem.Spec PyProof.Rows L2
noncomputable abbrev Me:=D->List D->Sto->Out D
noncomputable def MO (X:Cx) (ξ:XK) (r:V->List V->Hp->VK->Prop) (g:Me):Prop:= ∀ H α M v vs x ds Q,HR X.K H α M->Rep X.K H α v x->Reps X.K H α vs ds->OP X.K H α ξ Q (g x ds M)->r v vs H Q
theorem HR.wrE {K:PySem.W.Frag} {H:Hp} {α:List Addr} {M:Sto} {n:Nat} {p:Addr} {xs ys:List V} {ds:List D} (h:HR K H α M) (e:RefK H α 0 n p) (hp:H p=some (.lst ys)) (r:Reps K H α xs ds):Ext K H (upd H p (.lst xs)) α α/\HR K (upd H p (.lst xs)) α (M.set n (.lst ds)):=
 ⟨Ext.wr hp,h.wr e hp r⟩
section
variable {X:Cx} {ξ:XK} {o e:Expr} {es:List Expr} {fo fa:Ev} {fs:Av} {name:Str} {apos cpos pos:Pos} {T id:String} {r:V->List V->Hp->VK->Prop} {g:Me}
noncomputable def ZgT (x:D) (M:Sto):Bool:=match x with | .ref n=>M[n]?.isSome | _=>false
noncomputable def Zej (g:Me) (fo:Ev) (fs:Av):Ev:=fun ρ M=>(fo ρ M).bind fun x M1=>if ZgT x M1=true then (fs ρ M1).bind fun ds M2=>g x ds M2 else .bad
theorem ZgU {K:PySem.W.Frag} {H:Hp} {α:List Addr} {M:Sto} {v:V} {x:D} (h:HR K H α M) (rx:Rep K H α v x) (k:ZgT x M=true):tyV K "list" v H:=by
 cases rx with
 | @ref p n hp=>
  obtain ⟨xs,g⟩:=h.some_at hp
  exact .inl ⟨rfl,_,SqL.of g⟩
 |_=>cases k
theorem ZgV (slot:Slot "list" name id) (hty:typeOf (.builtin id)=pure (.type "method_descriptor")) (hm:MtR X id r) (hf:MO X ξ r g) (ho:DE X ξ o fo) (ha:DA X ξ (e :: es) fs)
  (hbase:attributeBase o name X.env (eval o X.env)=eval o X.env:=by rfl)
  (hfew:((backTo cpos (starEach (e :: es) X.env)).all (fun x=> !x.1) && (backToKw cpos (keywordEach [] X.env)).all (fun x=>x.1.isSome)
   && decide ((e :: es).length + ([]:List Keyword).length + (if ([]:List Keyword).isEmpty then 0 else 1) < 30))=true:=by rfl)
  (hline:(apos.endLine == cpos.line)=true:=by rfl) (hs:starEach (e :: es) X.env=(false,eval e X.env) :: starEach es X.env:=by rfl) (hplain:(backTo cpos (starEach es X.env)).any (·.1)=false:=by rfl):
  DE X ξ (.Call (.Attribute o name apos) (e :: es) [] cpos) (Zej g fo fs):=by
 obtain ⟨to,po,qo⟩:=ho
 obtain ⟨ta,pa,qa⟩:=ha
 refine ⟨_,ZkL PySem.F.plainAttrs_list slot hty hm po pa hbase hfew hline hs hplain,fun σ ρ H α M Q s h q=> ?_⟩
 refine qo σ ρ H α M _ s h (OG.seq q fun x M1 v H1 α1 e1 h1 r1 q1=> ?_)
 by_cases k:ZgT x M1=true
 ·rw[if_pos k] at q1
  exact ⟨ZgU h1 r1 k,qa σ ρ H1 α1 M1 _ (s.mono e1) h1 (OG.seq q1 fun ds M2 vs H2 α2 e2 h2 r2 q2=>hf H2 α2 M2 v vs x ds Q h2 (Rep.mono e2 r1) r2 q2)⟩
 ·rw[if_neg k] at q1
  exact q1.elim
noncomputable def mApp:Me:=fun x ds M=>match x,ds with
 | .ref n,[d]=>(match M[n]? with | some (.lst xs)=>if xs.length < 10000000 then .ok .non (M.set n (.lst (xs ++ [d]))) else .bad | none=> .bad)
 |_,_=> .bad
theorem ZiD:MO X ξ rAppend mApp:=by
 intro H α M v vs x ds Q h rx rs q
 cases rx with
 | @ref p n hp=>
  match rs with
  | .nil=>exact q.elim
  | .cons _ (.cons _ _)=>exact q.elim
  | .cons (v:=u) (d:=d) ru .nil=>
   cases em:M[n]? with
   |none=>simp only[mApp,em] at q;exact q.elim
   |some so=>
    cases so with
    |lst es=>
     obtain ⟨xs,g1,g2⟩:=h.at hp em
     by_cases c:es.length < 10000000
     ·simp only[mApp,em,if_pos c] at q
      obtain ⟨k1,k2⟩:=h.wrE hp g1 (g2.append (.cons ru .nil))
      exact ⟨p,xs,u,rfl,rfl,g1,by rw[g2.length];exact Nat.lt_of_lt_of_le c (by decide),q _ _ α k1 k2 .non⟩
     ·simp only[mApp,em,if_neg c] at q
      exact q.elim
 |_=>cases rs<;>exact q.elim
noncomputable def ZmC:Me:=fun x ds M=>match x,ds with
 | .ref n,[]=>(match M[n]? with | some (.lst _)=> .ok .non (M.set n (.lst [])) | none=> .bad)
 |_,_=> .bad
noncomputable def ZmD:Me:=fun x ds M=>match x,ds with
 | .ref n,[.ref m]=>(match M[n]?,M[m]? with | some (.lst xs),some (.lst ys)=>if xs.length + ys.length<=10000000 then .ok .non (M.set n (.lst (xs ++ ys))) else .bad | _,_=> .bad)
 |_,_=> .bad
theorem Zb4 (ho:DE X ξ o fo) (ha:DE X ξ e fa) (hbase:attributeBase o "append" X.env (eval o X.env)=eval o X.env:=by rfl)
  (hfew:((backTo cpos (starEach [e] X.env)).all (fun x=> !x.1) && (backToKw cpos (keywordEach [] X.env)).all (fun x=>x.1.isSome)
   && decide ([e].length + ([]:List Keyword).length + (if ([]:List Keyword).isEmpty then 0 else 1) < 30))=true:=by rfl)
  (hline:(apos.endLine == cpos.line)=true:=by rfl) (hs:starEach [e] X.env=(false,eval e X.env) :: starEach [] X.env:=by rfl) (hplain:(backTo cpos (starEach [] X.env)).any (·.1)=false:=by rfl):
  DE X ξ (.Call (.Attribute o "append" apos) [e] [] cpos) (Zej mApp fo (Zd fa aNil)):=ZgV PySem.F.slot_list_append PySem.F.type_list_append ZbQ ZiD ho (Za ha Zf hs) hbase hfew hline hs hplain
noncomputable def DO (X:Cx) (ξ:XK) (e:Option Expr) (f:Ro->Sto->Out (Option Int)):Prop:= ∃ t:TO,PO X e t/\ ∀ σ ρ H α M (Q:Option Int->Hp->Prop),SR X.K H α σ ρ->HR X.K H α M->OG X.K (fun _ _ v d=>v=d) H α ξ Q (f ρ M)->t σ H Q
noncomputable def oNo:Ro->Sto->Out (Option Int):=fun _ M=> .ok none M
noncomputable def oSo (f:Ev):Ro->Sto->Out (Option Int):=fun ρ M=>(f ρ M).bind fun x M1=>match x with | .int i=> .ok (some i) M1 | _=> .bad
theorem Zfi:DO X ξ none oNo:=⟨_,Zgv,fun σ ρ H α M Q s h q=>q none H α Ext.refl h rfl⟩
theorem Zfj (ha:DE X ξ e fa):DO X ξ (some e) (oSo fa):=by
 obtain ⟨ta,pa,qa⟩:=ha
 refine ⟨_,Zgw pa,fun σ ρ H α M Q s h q=> ?_⟩
 refine qa σ ρ H α M _ s h (OG.seq q fun x M1 v H1 α1 e1 h1 r1 q1=> ?_)
 cases r1 with
 |int i=>exact ⟨i,rfl,q1 (some i) H1 α1 Ext.refl h1 rfl⟩
 |_=>exact q1.elim
noncomputable def Zbx (xs:List D) (lo hi:Option Int):List D:=(xs.drop (HT.sIx xs.length 0 lo)).take (HT.sIx xs.length xs.length hi - HT.sIx xs.length 0 lo)
theorem Reps.drop {K:PySem.W.Frag} {H:Hp} {α:List Addr}: ∀ (n:Nat) {vs:List V} {ds:List D},Reps K H α vs ds->Reps K H α (vs.drop n) (ds.drop n)
 |0,_,_,h=>h
 |_ + 1,_,_,.nil=> .nil
 |n + 1,_,_,.cons _ t=>Reps.drop n t
theorem Reps.take {K:PySem.W.Frag} {H:Hp} {α:List Addr}: ∀ (n:Nat) {vs:List V} {ds:List D},Reps K H α vs ds->Reps K H α (vs.take n) (ds.take n)
 |0,_,_,_=> .nil
 |_ + 1,_,_,.nil=> .nil
 |n + 1,_,_,.cons r t=> .cons r (Reps.take n t)
theorem Reps.cut {K:PySem.W.Frag} {H:Hp} {α:List Addr} {vs:List V} {ds:List D} (r:Reps K H α vs ds) (lo hi:Option Int):Reps K H α (ZfN vs lo hi) (Zbx ds lo hi):=by
 unfold ZfN Zbx
 rw[r.length]
 exact (r.drop _).take _
noncomputable def eSl (f:Ev) (lo hi:Ro->Sto->Out (Option Int)):Ev:=fun ρ M=>(f ρ M).bind fun x M1=>(lo ρ M1).bind fun l M2=>(hi ρ M2).bind fun u M3=>match x with
 | .ref n=>(match M3[n]? with | some (.lst xs)=> .ok (.ref M3.length) (M3 ++ [.lst (Zbx xs l u)]) | none=> .bad)
 | .rol xs=> .ok (.ref M3.length) (M3 ++ [.lst (Zbx xs l u)])
 | .tup xs=>if HT.sIx xs.length 0 l=0/\HT.sIx xs.length xs.length u=xs.length then .bad else .ok (.tup (Zbx xs l u)) M3
 |_=> .bad
theorem Zfk {lo hi:Option Expr} {fl fh:Ro->Sto->Out (Option Int)} {p2:Pos} (he:DE X ξ e fa) (hl:DO X ξ lo fl) (hh:DO X ξ hi fh):DE X ξ (.Subscript e (.Slice lo hi none p2) pos) (eSl fa fl fh):=by
 obtain ⟨ta,pa,qa⟩:=he
 obtain ⟨tl,pl,ql⟩:=hl
 obtain ⟨th,ph,qh⟩:=hh
 refine ⟨_,ZeZ (SlR.or ZgB Zib) pa pl ph,fun σ ρ H α M Q s h q=> ?_⟩
 refine qa σ ρ H α M _ s h (OG.seq q fun x M1 v H1 α1 e1 h1 r1 q1=> ?_)
 refine ql σ ρ H1 α1 M1 _ (s.mono e1) h1 (OG.seq q1 fun l M2 l' H2 α2 e2 h2 r2 q2=> ?_)
 refine qh σ ρ H2 α2 M2 _ ((s.mono e1).mono e2) h2 (OG.seq q2 fun u M3 u' H3 α3 e3 h3 r3 q3=> ?_)
 cases r2
 cases r3
 cases Rep.mono e3 (Rep.mono e2 r1) with
 | @ref p n hp=>
  cases em:M3[n]? with
  |none=>simp only[em] at q3;exact q3.elim
  |some so=>
   cases so with
   |lst es=>
    simp only[em] at q3
    obtain ⟨xs,g1,g2⟩:=h3.at hp em
    exact .inl ⟨p,xs,rfl,SqL.of g1,fun a ha=>q3 _ _ (α3 ++ [a]) (Ext.new ha) (h3.new ha (g2.cut l u)) (.ref ⟨h3.last a,Kn.lst Zm⟩)⟩
 | @rol p xs ds hp rp=>
  have q4:OP X.K H3 α3 ξ Q (.ok (.ref M3.length) (M3 ++ [.lst (Zbx ds l u)])):=q3
  exact .inl ⟨p,xs,rfl,hp.sq,fun a ha=>q4 _ _ (α3 ++ [a]) (Ext.new ha) (h3.new ha (rp.cut l u)) (.ref ⟨h3.last a,Kn.lst Zm⟩)⟩
 | @tup p xs ds hp rp=>
  by_cases c:HT.sIx ds.length 0 l=0/\HT.sIx ds.length ds.length u=ds.length
  ·simp only[if_pos c] at q3
   exact q3.elim
  ·simp only[if_neg c] at q3
   exact .inr ⟨p,xs,rfl,(SqT.of hp),by rw[rp.length];exact c,fun a ha=>q3 _ _ α3 (Ext.new0 ha) (h3.tup ha) (.tup Zm (Reps.mono (Ext.new0 ha) (rp.cut l u)))⟩
 |_=>exact q3.elim
noncomputable def iR2 (fs:Av):Ro->Sto->Out Src:=fun ρ M=>(fs ρ M).bind fun ds M1=>match ds with
 | [.int i,.int j]=>if -(2 ^ 62)<=i/\i < 2 ^ 62/\ -(2 ^ 62)<=j/\j < 2 ^ 62 then .ok (.pur (Z8 i (j - i).toNat)) M1 else .bad
 |_=> .bad
end
noncomputable def eRv (f:Ev):Ev:=fun ρ M=>(f ρ M).bind fun x M1=>match x with
 | .tup xs=> .ok (.tup xs.reverse) M1
 | .ref n=>(match M1[n]? with | some (.lst xs)=> .ok (.ref M1.length) (M1 ++ [.lst xs.reverse]) | none=> .bad)
 | .rol xs=> .ok (.ref M1.length) (M1 ++ [.lst xs.reverse])
 |_=> .bad
end DL
end
section
namespace DL
open PySem PySem.Spec PyProof.Rows L2
noncomputable def Zfl (tg:Tg) (g:Sv) (src:Src):Nat->Nat->Ro->Sto->Fl
 |f,i,ρ,M=>match nxt src i M with
  |none=> .bad
  |some none=> .nx ρ M
  |some (some d)=>(match f with
   |0=> .bad
   |f + 1=>(match tg d ρ with
    |none=> .bad
    |some ρ1=>(match g ρ1 M with
     | .nx ρ2 M2=>Zfl tg g src f (i + 1) ρ2 M2
     | .cnt ρ2 M2=>Zfl tg g src f (i + 1) ρ2 M2
     | .brk ρ2 M2=> .nx ρ2 M2
     |o=>o)))
noncomputable def ZiE (tg:Tg) (fi:Ro->Sto->Out Src) (g:Sv):Sv:=fun ρ M=>Zaq (fi ρ M) fun src M1=>Zfl tg g src (cnt src M1) 0 ρ M1
section
variable {X:Cx} {ξ:XK} {tg iter a b:Expr} {gt:Tg} {fi:Ro->Sto->Out Src} {g:Sv} {body:List Stmt} {f fa fb:Ev} {fs:Av} {p pos:Pos}
end
section
variable {X:Cx} {ξ:XK} {a b:Expr} {elts:List Expr} {k0:Nat} {tp:Pos} {fa:Ev} {fs:Av} {p pos:Pos} {ta:TA}
noncomputable def iEn (fs:Av):Ro->Sto->Out Src:=fun ρ M=>(fs ρ M).bind fun ds M1=>match ds with | [.ref n]=> .ok (.enu n) M1 | _=> .bad
noncomputable def iZp (fs:Av):Ro->Sto->Out Src:=fun ρ M=>(fs ρ M).bind fun ds M1=>match ds with | [.ref n,.ref m]=> .ok (.zip n m) M1 | _=> .bad
end
end DL
end
section
namespace DL
open PySem PySem.Spec PyProof.Rows L2
open PySem.SeqAt (EqAt RcAt RcNeAt)
inductive Ks (X:Cx) (H:Hp) (α:List Addr):Kd->Kd->Prop where
 |non:Ks X H α .non .non
 |bl (b:Bool):Ks X H α (.bl b) (.bl b)
 |int (i:Int):Ks X H α (.int i) (.int i)
 |str (x:Str):Ks X H α (.str x) (.str x)
 |tup {vs:List V} {ds es:List D}:Reps X.K H α vs ds->Reps X.K H α vs es->Ks X H α (.tup ds) (.tup es)
 |lst {vs:List V} {ds es:List D}:Reps X.K H α vs ds->Reps X.K H α vs es->Ks X H α (.lst ds) (.lst es)
section
variable {X:Cx} {ξ:XK} {pins:List (Addr × Obj)} {σ:L2.St} {H:Hp} {s:Shared} {α:List Addr} {M:Sto}
theorem ZiF (h:HR X.K H α M) {v:V} {x:D} {k:Kd} (r:Rep X.K H α v x) (e:kd M x=some k):
  (match k with | .tup ds=> ∃ p vs,v= .ref p/\SqT X.K H p vs/\Reps X.K H α vs ds | .lst ds=> ∃ p vs,v= .ref p/\SqL X.K H p vs/\Reps X.K H α vs ds | .non=>v= .non | .bl b=>v= .bl b | .int i=>v= .int i | .str x=>v= .str x):=by
 cases r with
 |non=>cases e;rfl
 |bl b=>cases e;rfl
 |int i=>cases e;rfl
 |str x=>cases e;rfl
 |err _ _ _=>cases e
 |dk _=>cases e
 |dt _=>cases e
 | @tup p xs ds hp rp=>cases e;exact ⟨p,xs,rfl,(SqT.of hp),rp⟩
 | @con p xs ds hp rp=>cases e;exact ⟨p,xs,rfl,hp.sq,rp⟩
 | @rol p xs ds hp rp=>cases e;exact ⟨p,xs,rfl,hp.sq,rp⟩
 | @ref p n hp=>
  cases e1:M[n]? with
  |none=>simp only[kd,e1] at e;cases e
  |some o=>
   cases o with
   |lst ds=>
    simp only[kd,e1] at e
    cases e
    obtain ⟨xs,g1,r1⟩:=h.at hp e1
    exact ⟨p,xs,rfl,SqL.of g1,r1⟩
theorem Zek (I:Inv X pins σ H s) (h:HR X.K H α M) {v:V} {x y:D} {k l:Kd} (rx:Rep X.K H α v x) (ry:Rep X.K H α v y) (ex:kd M x=some k) (ey:kd M y=some l):Ks X H α k l:=by
 have a:=ZiF h rx ex
 have b:=ZiF h ry ey
 have nl: ∀ {p:Addr} {xs ys:List V},SqT X.K H p xs->SqL X.K H p ys->False:=fun {p xs ys} a c=>by
  obtain ⟨i1,_,⟨o1,g1,c1,_⟩,_⟩:=I.tuple a
  obtain ⟨i2,_,⟨o2,_,g2,c2,_⟩,_⟩:=I.list c
  rw[g1] at g2
  cases g2
  rw[c1] at c2
  exact absurd c2 (by decide)
 cases k with
 |non=>cases a;cases l<;>first | (cases b;done) | exact .non | (obtain ⟨_,_,q,_⟩:=b;cases q)
 |bl c=>cases a;cases l<;>first | (cases b;done) | (cases b;exact .bl c) | (obtain ⟨_,_,q,_⟩:=b;cases q)
 |int c=>cases a;cases l<;>first | (cases b;done) | (cases b;exact .int c) | (obtain ⟨_,_,q,_⟩:=b;cases q)
 |str c=>cases a;cases l<;>first | (cases b;done) | (cases b;exact .str c) | (obtain ⟨_,_,q,_⟩:=b;cases q)
 |tup ds=>
  obtain ⟨p,vs,rfl,q1,q2⟩:=a
  cases l with
  |tup es=>
   obtain ⟨p2,vs2,e2,q3,q4⟩:=b
   cases e2
   cases I.tuple_inj q1 q3
   exact .tup q2 q4
  |lst es=>
   obtain ⟨p2,vs2,e2,q3,q4⟩:=b
   cases e2
   exact (nl q1 q3).elim
  |_=>cases b
 |lst ds=>
  obtain ⟨p,vs,rfl,q1,q2⟩:=a
  cases l with
  |lst es=>
   obtain ⟨p2,vs2,e2,q3,q4⟩:=b
   cases e2
   cases I.list_inj q1 q3
   exact .lst q2 q4
  |tup es=>
   obtain ⟨p2,vs2,e2,q3,q4⟩:=b
   cases e2
   exact (nl q3 q1).elim
  |_=>cases b
theorem ZfX (I:Inv X pins σ H s) (h:HR X.K H α M): ∀ (n:Nat) {v w:V} {x x' y y':D} {b b':Bool},Rep X.K H α v x->Rep X.K H α v x'->Rep X.K H α w y->Rep X.K H α w y'->eqF n M x y=some b->eqF n M x' y'=some b'->b=b':=by
 intro n
 induction n with
 |zero=>intro v w x x' y y' b b' _ _ _ _ e;simp only[eqF] at e;cases e
 |succ n ih=>
  have lists: ∀ (vs ws:List V) (xs xs' ys ys':List D) (b b':Bool),Reps X.K H α vs xs->Reps X.K H α vs xs'->Reps X.K H α ws ys->Reps X.K H α ws ys'->eqL (eqF n M) xs ys=some b->eqL (eqF n M) xs' ys'=some b'->b=b':=by
   intro vs
   induction vs with
   |nil=>
    intro ws xs xs' ys ys' b b' r1 r2 r3 r4 e e'
    cases r1;cases r2
    cases r3 with
    |nil=>cases r4;simp only[eqL,Option.some.injEq] at e e';rw[<- e,<- e']
    |cons _ _=>cases r4;simp only[eqL,Option.some.injEq] at e e';rw[<- e,<- e']
   |cons v vs iv=>
    intro ws xs xs' ys ys' b b' r1 r2 r3 r4 e e'
    cases r1 with
    |cons p1 t1=>
     cases r2 with
     |cons p2 t2=>
      cases r3 with
      |nil=>cases r4;simp only[eqL,Option.some.injEq] at e e';rw[<- e,<- e']
      |cons p3 t3=>
       cases r4 with
       |cons p4 t4=>
        rename_i d1 ds1 d2 ds2 w d3 ws ds3 d4 ds4
        cases a1:eqF n M d1 d3 with
        |none=>simp only[eqL,a1] at e;cases e
        |some a=>
         cases a2:eqF n M d2 d4 with
         |none=>simp only[eqL,a2] at e';cases e'
         |some a'=>
          cases c1:eqL (eqF n M) ds1 ds3 with
          |none=>simp only[eqL,a1,c1] at e;cases e
          |some c=>
           cases c2:eqL (eqF n M) ds2 ds4 with
           |none=>simp only[eqL,a2,c2] at e';cases e'
           |some c'=>
            simp only[eqL,a1,c1,Option.some.injEq] at e
            simp only[eqL,a2,c2,Option.some.injEq] at e'
            rw[<- e,<- e',ih p1 p2 p3 p4 a1 a2,iv _ _ _ _ _ _ _ t1 t2 t3 t4 c1 c2]
  intro v w x x' y y' b b' rx rx' ry ry' e e'
  unfold eqF at e e'
  cases k1:kd M x with
  |none=>rw[k1] at e;cases e
  |some ka=>
   cases k2:kd M y with
   |none=>rw[k1,k2] at e;cases e
   |some kb=>
    cases k3:kd M x' with
    |none=>rw[k3] at e';cases e'
    |some ka'=>
     cases k4:kd M y' with
     |none=>rw[k3,k4] at e';cases e'
     |some kb'=>
      rw[k1,k2] at e
      rw[k3,k4] at e'
      have s1:=Zek I h rx rx' k1 k3
      have s2:=Zek I h ry ry' k2 k4
      cases s1 with
      |tup a1 a2=>
       cases s2 with
       |tup b1 b2=>simp only[eqK] at e e';exact lists _ _ _ _ _ _ _ _ a1 a2 b1 b2 e e'
       |_=>simp only[eqK,Option.some.injEq] at e e';rw[<- e,<- e']
      |lst a1 a2=>
       cases s2 with
       |lst b1 b2=>
        simp only[eqK] at e e'
        rw[<- a1.length,<- b1.length] at e
        rw[<- a2.length,<- b2.length] at e'
        split at e
        ·rename_i c
         rw[if_pos c] at e'
         exact lists _ _ _ _ _ _ _ _ a1 a2 b1 b2 e e'
        ·rename_i c
         rw[if_neg c] at e'
         cases e;cases e';rfl
       |_=>simp only[eqK,Option.some.injEq] at e e';rw[<- e,<- e']
      |_=>cases s2<;>(simp only[eqK,Option.some.injEq] at e e';rw[<- e,<- e'])
noncomputable def eqs (M:Sto) (d:D):List D->Option (List Bool)
 | []=>some []
 |x :: r=>match eqF 12 M x d with | some b=>(match eqs M d r with | some bs=>some (b :: bs) | none=>none) | none=>none
theorem Zel: ∀ {M:Sto} {d:D} {xs:List D} {bs:List Bool},eqs M d xs=some bs->bs.length=xs.length
 |_,_,[],_,e=>by cases e;rfl
 |M,d,x :: r,bs,e=>by
  cases e1:eqF 12 M x d with
  |none=>simp only[eqs,e1] at e;cases e
  |some b=>
   cases e2:eqs M d r with
   |none=>simp only[eqs,e1,e2] at e;cases e
   |some cs=>simp only[eqs,e1,e2,Option.some.injEq] at e;subst e;rw[List.length_cons,List.length_cons,Zel e2]
theorem Zem: ∀ {M:Sto} {d:D} {xs:List D} {bs:List Bool} {i:Nat} {x:D},eqs M d xs=some bs->xs[i]?=some x-> ∃ b,bs[i]?=some b/\eqF 12 M x d=some b
 |_,_,[],_,i,x,e,hx=>by simp at hx
 |M,d,y :: r,bs,i,x,e,hx=>by
  cases e1:eqF 12 M y d with
  |none=>simp only[eqs,e1] at e;cases e
  |some b=>
   cases e2:eqs M d r with
   |none=>simp only[eqs,e1,e2] at e;cases e
   |some cs=>
    simp only[eqs,e1,e2,Option.some.injEq] at e
    subst e
    cases i with
    |zero=>simp at hx;subst hx;exact ⟨b,rfl,e1⟩
    |succ i=>simp at hx;obtain ⟨b',q1,q2⟩:=Zem e2 hx;exact ⟨b',by simpa using q1,q2⟩
open Classical in
theorem ZgW {A:Around} (hu:A.units + 64 < cLine) (I:Inv X pins σ H s) (h:HR X.K H α M) {vs:List V} {ds:List D} {us:List Value} {v:V} {d:D} {u:Value} {bs:List Bool} (rv:Zu vs us) (rp:Reps X.K H α vs ds) (ru:ZG v u) (rd:Rep X.K H α v d) (e:eqs M d ds=some bs):
  ∃ f:Value->Bool,(∀ y,y∈us.toArray->EqAt A.in1 s y u (f y))/\us.map f=bs:=by
 have ll:us.length=ds.length:=by rw[<- rv.length,rp.length]
 have at_: ∀ (i:Nat) y,us[i]?=some y-> ∃ w x b,ZG w y/\Rep X.K H α w x/\bs[i]?=some b/\eqF 12 M x d=some b:=fun i y hy=>by
  have hi:i < ds.length:=by rw[<- ll];exact (List.getElem?_eq_some_iff.mp hy).1
  obtain ⟨w,a1,a2⟩:=rp.get (List.getElem?_eq_getElem hi)
  obtain ⟨y',a3,a4⟩:=rv.get a1
  rw[hy] at a3
  cases a3
  obtain ⟨b,a5,a6⟩:=Zem e (List.getElem?_eq_getElem hi)
  exact ⟨w,_,b,a4,a2,a5,a6⟩
 refine ⟨fun y=>decide (∃ w x,ZG w y/\Rep X.K H α w x/\eqF 12 M x d=some true),fun y hy=> ?_,?_⟩
 ·obtain ⟨i,hi,ey⟩:=List.getElem_of_mem (by simpa using hy)
  obtain ⟨w,x,b,q1,q2,q3,q4⟩:=at_ i y (by rw[List.getElem?_eq_getElem hi,ey])
  have hb:decide (∃ w x,ZG w y/\Rep X.K H α w x/\eqF 12 M x d=some true)=b:=by
   cases b with
   |true=>exact decide_eq_true ⟨w,x,q1,q2,q4⟩
   |false=>
    refine decide_eq_false fun ⟨w',x',z1,z2,z3⟩=> ?_
    cases ZG.inj z1 q1
    have:=ZfX I h 12 z2 q2 rd rd z3 q4
    cases this
  show EqAt A.in1 s y u (decide (∃ w x,ZG w y/\Rep X.K H α w x/\eqF 12 M x d=some true))
  rw[hb]
  exact (eq3 I h 12 x d w v y u b A.in1 (by rw[Around.in1_units];omega) q4 q2 rd q1 ru).1
 ·apply List.ext_getElem?
  intro i
  rw[List.getElem?_map]
  cases hy:us[i]? with
  |none=>
   have:bs[i]?=none:=List.getElem?_eq_none (by rw[Zel e,<- ll];exact List.getElem?_eq_none_iff.mp hy)
   rw[this]
   rfl
  |some y=>
   obtain ⟨w,x,b,q1,q2,q3,q4⟩:=at_ i y hy
   rw[q3]
   show some _=some b
   congr 1
   cases b with
   |true=>exact decide_eq_true ⟨w,x,q1,q2,q4⟩
   |false=>
    refine decide_eq_false fun ⟨w',x',z1,z2,z3⟩=> ?_
    cases ZG.inj z1 q1
    have:=ZfX I h 12 z2 q2 rd rd z3 q4
    cases this
end
section
variable {X:Cx} {ξ:XK}
noncomputable def inE (x y:D) (M:Sto):Option Bool:=match ZdA M y with | some ds=>(match eqs M x ds with | some bs=>some (bs.any id) | none=>none) | none=>none
noncomputable def ZmE:Bo:=fun x y M=>match inE x y M with | some b=> .ok (.bl b) M | none=> .bad
noncomputable def Zen:Bo:=fun x y M=>match inE x y M with | some b=> .ok (.bl (!b)) M | none=> .bad
noncomputable def ZiG (X:Cx):V->List V->Hp->VK->Prop:=fun v vs H Q=> ∃ α M d ds bs p xs u j,HR X.K H α M/\v= .ref p/\vs=[u]/\Rep X.K H α u d/\SqL X.K H p xs/\Reps X.K H α xs ds/\eqs M d ds=some bs/\bs.findIdx? id=some j/\Q (.int (j:Nat)) H
theorem ZiH (hu:X.A.units + 64 < cLine):MtR X "list.index" (ZiG X):=by
 intro pins s σ H x vs v us Q I rx rv ⟨α,M,d,ds,bs,p,xs,u,j,h,e1,e2,rd,hq,rp,e,ej,q⟩
 subst e1 e2
 cases rx
 obtain ⟨uv,rfl,ru⟩:=Zdb rv
 obtain ⟨its,r,pl,hz⟩:=I.list hq
 obtain ⟨f,f1,f2⟩:=ZgW (A:=X.A) hu I h r rp ru rd e
 obtain ⟨⟨cls,dd,data,sl⟩,ho,hc,n,hd⟩:=pl.isList
 simp only at hc hd
 subst hc hd
 obtain ⟨jl,j1,j2⟩:=List.findIdx?_eq_some_iff_getElem.mp ej
 have lb:bs.length=its.length:=by rw[<- f2,List.length_map]
 have at_: ∀ (m:Nat) (hm:m < its.length),bs[m]?=some (f its[m]):=fun m hm=>by rw[<- f2,List.getElem?_map,List.getElem?_eq_getElem hm];rfl
 have hj:j < its.toArray.size:=by rw[List.size_toArray,<- lb];exact jl
 have hit:f its.toArray[j]=true:=by
  have:=at_ j (by rw[<- lb];exact jl)
  rw[List.getElem?_eq_getElem jl] at this
  have:=Option.some.inj this
  simp only[List.getElem_toArray]
  rw[<- this]
  exact j1
 have hno: ∀ m (hm:m < its.toArray.size),m < j->f its.toArray[m]=false:=fun m hm hmj=>by
  have hm':m < its.length:=by simpa using hm
  have:=at_ m hm'
  rw[List.getElem?_eq_getElem (by omega)] at this
  have:=Option.some.inj this
  simp only[List.getElem_toArray]
  rw[<- this]
  simpa using j2 m hmj
 have hs:(j:Int) < 2 ^ 63 - 1:=by
  have h1:j < its.length:=by rw[<- lb];exact jl
  have h2:its.length<=sizeLine:=by rw[<- r.length];exact hz
  have h3:sizeLine < 2 ^ 62:=by decide
  omega
 refine call_meets F.slot_list_index ⟨_,ho,rfl⟩ F.entry_list_index (F.args_list_index_2 _ _) (SeqAt.list_indexAt p its.toArray n dd sl uv f j hj hs hit hno) ⟨ho,f1,?_⟩
 exact ⟨.int (j:Nat),H,I.tok _,⟨_,rfl⟩,q⟩
noncomputable def mIdx:Me:=fun x ds M=>match x,ds with
 | .ref n,[d]=>(match M[n]? with | some (.lst xs)=>(match eqs M d xs with | some bs=>(match bs.findIdx? id with | some j=> .ok (.int (j:Nat)) M | none=> .bad) | none=> .bad) | none=> .bad)
 |_,_=> .bad
noncomputable def ZnP:Me:=fun x ds M=>match x,ds with
 | .ref n,[d]=>(match M[n]? with | some (.lst xs)=>(match eqs M d xs with | some bs=> .ok (.int (bs.countP id:Nat)) M | none=> .bad) | none=> .bad)
 |_,_=> .bad
theorem ZiI:MO X ξ (ZiG X) mIdx:=by
 intro H α M v vs x ds Q h rx rs q
 cases rx with
 | @ref p n hp=>
  match rs with
  | .nil=>exact q.elim
  | .cons _ (.cons _ _)=>exact q.elim
  | .cons (v:=u) (d:=d) ru .nil=>
   cases em:M[n]? with
   |none=>simp only[mIdx,em] at q;exact q.elim
   |some so=>
    cases so with
    |lst es=>
     cases e2:eqs M d es with
     |none=>simp only[mIdx,em,e2] at q;exact q.elim
     |some bs=>
      cases e3:bs.findIdx? id with
      |none=>simp only[mIdx,em,e2,e3] at q;exact q.elim
      |some j=>
       simp only[mIdx,em,e2,e3] at q
       obtain ⟨xs,g1,g2⟩:=h.at hp em
       exact ⟨α,M,d,es,bs,p,xs,u,j,h,rfl,rfl,ru,SqL.of g1,g2,e2,e3,q _ H α Ext.refl h (.int _)⟩
 |_=>cases rs<;>exact q.elim
noncomputable def Zam:List D->Option (List Int)
 | []=>some []
 | .int b :: r=>match Zam r with | some bs=>some (b :: bs) | none=>none
 |_ :: _=>none
theorem ZcV {K:PySem.W.Frag} {H:Hp} {α:List Addr}: ∀ {vs:List V} {ds:List D} {bs:List Int},Reps K H α vs ds->Zam ds=some bs->vs=bs.map V.int
 |_,_,_,.nil,e=>by cases e;rfl
 |_,_,bs,.cons (d:=d) (ds:=ds) r t,e=>by
  cases r with
  |int b=>
   cases e1:Zam ds with
   |none=>simp only[Zam,e1] at e;cases e
   |some cs=>
    simp only[Zam,e1,Option.some.injEq] at e
    subst e
    rw[ZcV t e1]
    rfl
  |_=>cases e
noncomputable def Zdl (X:Cx) (g:List Int->Option V):List V->Hp->VK->Prop:=fun vs H Q=> ∃ (p:Addr) (ns:List Int) (v:V),vs=[.ref p]/\SqL X.K H p (ns.map V.int)/\g ns=some v/\Q v H
theorem ZaP: ∀ {ns:List Int} {us:List Value} {i:Nat} {u:Value},Zu (ns.map V.int) us->us[i]?=some u-> ∃ t,u= .int (ns.getD i 0) t
 | [],us,i,u,h,e=>by cases h;simp at e
 |b :: r,us,i,u,h,e=>by
  cases h with
  |cons h1 h2=>
   cases i with
   |zero=>simp at e;subst e;exact h1
   |succ i=>simp at e;obtain ⟨t,g⟩:=ZaP h2 e;exact ⟨t,by simpa using g⟩
theorem Zb5 (hc:X.calm=true) {pins:List (Addr × Obj)} {σ:L2.St} {H:Hp} {s:Shared} {p:Addr} {ns:List Int} (I:Inv X pins σ H s) (hl:SqL X.K H p (ns.map V.int)) {Q:Value->Shared->Prop} {E:Value->Shared->Prop}
  (q: ∀ (its:List Value) (it:Addr),Zu (ns.map V.int) its->its.length=ns.length->it=s.heap.objs.size->Walks X.prog X.w X.A.in1 it [it,p] [it] its.toArray.size (fun i v=>its.toArray[i]?=some v) (fun i h=>h.IsListIter it p i/\h.IsList p its.toArray)->
   (∀ b∈[it,p],b < (s.heap.push { cls:= .type "list_iterator",data:= .fields #[.ref p,.int 0 0] }).objs.size)->((s.heap.push { cls:= .type "list_iterator",data:= .fields #[.ref p,.int 0 0] }).IsListIter it p 0/\(s.heap.push { cls:= .type "list_iterator",data:= .fields #[.ref p,.int 0 0] }).IsList p its.toArray)->
   (∀ h' tk,(∀ b o,b ∉ [it]->(s.heap.push { cls:= .type "list_iterator",data:= .fields #[.ref p,.int 0 0] }).get? b=some o->h'.get? b=some o)->Inv X pins σ H { s with heap:=h',toks:=tk })->Q (.ref it) { s with heap:=s.heap.push { cls:= .type "list_iterator",data:= .fields #[.ref p,.int 0 0] } }):
  wpAny (model X.prog X.w) X.A.in1 (pyIter (.ref p)) Q E s:=by
 obtain ⟨its,hv,hp,hz⟩:=I.list hl
 have hlt:p < s.heap.objs.size:=by obtain ⟨_,e,_⟩:=hp.isList;exact Heap.lt_size e
 refine wpAny_pyIter_list hp.isList ?_
 refine q its s.heap.objs.size hv (by rw[<- hv.length,List.length_map]) rfl (Walks.list (A:=X.A.in1) (I.ok.hd hc) _ p (Nat.ne_of_lt hlt) its.toArray) (fun b hb=> ?_) ⟨⟨_,Heap.get?_push_size _ rfl,rfl,rfl⟩,hp.isList.push _⟩ fun h' tk hk=> ?_
 ·rw[Heap.size_push]
  simp only[List.mem_cons,List.not_mem_nil,or_false] at hb
  rcases hb with rfl | rfl
  ·exact Nat.lt_succ_self _
  ·exact Nat.lt_succ_of_lt hlt
 ·exact I.kept fun b o e=>hk b o (fun hm=>by rw[List.mem_singleton.mp hm] at e;exact Nat.lt_irrefl _ (Heap.lt_size e)) (Heap.get?_push_of_some _ e)
noncomputable def Zkr (ns:List Int):Option V:=if ∀ j,j < ns.length->(-(2 ^ 63)<=ns.getD j 0/\ns.getD j 0 < 2 ^ 63)/\ -(2 ^ 63)<=(ns.take (j + 1)).sum/\(ns.take (j + 1)).sum < 2 ^ 63 then some (.int ns.sum) else none
theorem Zar (ns:List Int): ∀ j,preSum (fun i=>ns.getD i 0) j=(ns.take j).sum
 |0=>rfl
 |j + 1=>by
  show preSum (fun i=>ns.getD i 0) j + ns.getD j 0=_
  rw[Zar ns j]
  by_cases h:j < ns.length
  ·rw[List.take_succ_eq_append_getElem h,List.sum_append_int]
   simp[h]
  ·rw[List.take_of_length_le (by omega),List.take_of_length_le (by omega)]
   simp[h]
theorem Zeo (hc:X.calm=true):Za9 X (.builtin "sum") (Zdl X Zkr):=by
 intro pins s σ H vs us Q I rs ⟨p,ns,v,e,hl,hg,q⟩
 subst e
 obtain ⟨u,rfl,ru⟩:=Zdb rs
 cases ru
 unfold Zkr at hg
 split at hg
 case isFalse=>cases hg
 rename_i fit
 cases hg
 refine call_sum_walk (Zb5 hc I hl fun its it hv hlen ei W hfp st back=> ?_)
 refine ⟨it,_,_,_,_,_,fun i=>ns.getD i 0,rfl,W,st,hfp,fun i v hP=>ZaP hv (by simpa using hP),fun j hj=> ?_,fun h' tk t' hk=>⟨.int ns.sum,H,back h' tk hk,⟨t',?_⟩,q⟩⟩
 ·have hj':j < ns.length:=by rw[List.size_toArray,hlen] at hj;exact hj
  obtain ⟨a,b⟩:=fit j hj'
  exact ⟨a,by rw[Zar];exact b⟩
 ·rw[Zar,List.size_toArray,hlen,List.take_length]
theorem Zks {ns:List Int} (h:0 < ns.length):ns.max?=some (ns.getD (argBest (fun i j=>decide (ns.getD i 0 > ns.getD j 0)) (ns.length - 1)) 0):=by
 obtain ⟨h1,h2⟩:=argBest_gt (fun i=>ns.getD i 0) (ns.length - 1)
 refine List.max?_eq_some_iff.mpr ⟨?_,fun b hb=> ?_⟩
 ·have hl:argBest (fun i j=>decide (ns.getD i 0 > ns.getD j 0)) (ns.length - 1) < ns.length:=by omega
  rw[List.getD_eq_getElem?_getD,List.getElem?_eq_getElem hl]
  exact List.getElem_mem hl
 ·obtain ⟨j,hj,rfl⟩:=List.getElem_of_mem hb
  have:=h2 j (by omega)
  rwa [show ns.getD j 0=ns[j] by rw[List.getD_eq_getElem?_getD,List.getElem?_eq_getElem hj];rfl] at this
theorem Zfm {ns:List Int} (h:0 < ns.length):ns.min?=some (ns.getD (argBest (fun i j=>decide (ns.getD i 0 < ns.getD j 0)) (ns.length - 1)) 0):=by
 obtain ⟨h1,h2⟩:=argBest_lt (fun i=>ns.getD i 0) (ns.length - 1)
 refine List.min?_eq_some_iff.mpr ⟨?_,fun b hb=> ?_⟩
 ·have hl:argBest (fun i j=>decide (ns.getD i 0 < ns.getD j 0)) (ns.length - 1) < ns.length:=by omega
  rw[List.getD_eq_getElem?_getD,List.getElem?_eq_getElem hl]
  exact List.getElem_mem hl
 ·obtain ⟨j,hj,rfl⟩:=List.getElem_of_mem hb
  have:=h2 j (by omega)
  rwa [show ns.getD j 0=ns[j] by rw[List.getD_eq_getElem?_getD,List.getElem?_eq_getElem hj];rfl] at this
noncomputable def Zkt (ns:List Int):Option V:=ns.min?.map V.int
theorem Zep (hc:X.calm=true):Za9 X (.builtin "min") (Zdl X Zkt):=by
 intro pins s σ H vs us Q I rs ⟨p,ns,v,e,hl,hg,q⟩
 subst e
 obtain ⟨u,rfl,ru⟩:=Zdb rs
 cases ru
 have hn:0 < ns.length:=by cases ns with | nil=>cases hg | cons _ _=>simp
 unfold Zkt at hg
 rw[Zfm hn] at hg
 cases hg
 refine call_min_walk (Zb5 hc I hl fun its it hv hlen ei W hfp st back=> ?_)
 refine ⟨it,_,_,_,_,_,_,rfl,W,st,hfp,by rw[List.size_toArray,hlen];exact hn,CmpOf.ints_lt (fun i=>ns.getD i 0) (fun i v hP=>ZaP hv (by simpa using hP)),fun v h' tk hP hk=>⟨_,H,back h' tk hk,?_,q⟩⟩
 rw[List.size_toArray,hlen] at hP
 exact ZaP hv (by simpa using hP)
noncomputable def Zby (g:List Int->Option Int):List D->Sto->Out D:=fun ds M=>match ds with
 | [x]=>(match ZdA M x with | some xs=>(match x with | .con _=> .bad | .tup _=> .bad | _=>(match Zam xs with | some ns=>(match g ns with | some i=> .ok (.int i) M | none=> .bad) | none=> .bad)) | none=> .bad)
 |_=> .bad
theorem Zeq {g:List Int->Option Int} {gV:List Int->Option V} (hg: ∀ ns i,g ns=some i->gV ns=some (.int i)):CO X ξ (Zdl X gV) (Zby g):=by
 intro H α M vs ds Q h rs q
 unfold Zby at q
 match rs with
 | .nil=>exact q.elim
 | .cons _ (.cons _ _)=>exact q.elim
 | .cons (d:=x) r .nil=>
  have fin: ∀ (p:Addr) (xs:List V) (ys:List D),SqL X.K H p xs->Reps X.K H α xs ys->OP X.K H α ξ Q (match Zam ys with | some ns=>(match g ns with | some i=> .ok (.int i) M | none=> .bad) | none=> .bad)->Zdl X gV [.ref p] H Q:=fun p xs ys k1 k2 q=>by
   cases e1:Zam ys with
   |none=>rw[e1] at q;exact q.elim
   |some ns=>
    cases e2:g ns with
    |none=>simp only[e1,e2] at q;exact q.elim
    |some i=>
     simp only[e1,e2] at q
     have:=ZcV k2 e1
     subst this
     exact ⟨p,ns,.int i,rfl,k1,hg _ _ e2,q _ H α Ext.refl h (.int i)⟩
  cases r with
  | @rol p xs ds hp rp=>exact fin p xs ds hp.sq rp q
  | @ref p n hp=>
   cases em:M[n]? with
   |none=>simp only[ZdA,em] at q;exact q.elim
   |some so=>
    cases so with
    |lst es=>
     simp only[ZdA,em] at q
     obtain ⟨xs,g1,g2⟩:=h.at hp em
     exact fin p xs es (SqL.of g1) g2 q
  |tup _ _=>exact q.elim
  |con _ _=>exact q.elim
  |_=>exact q.elim
noncomputable def Zdm (ns:List Int):Option Int:=if ∀ j,j < ns.length->(-(2 ^ 63)<=ns.getD j 0/\ns.getD j 0 < 2 ^ 63)/\ -(2 ^ 63)<=(ns.take (j + 1)).sum/\(ns.take (j + 1)).sum < 2 ^ 63 then some ns.sum else none
theorem ZiJ:CO X ξ (Zdl X Zkr) (Zby Zdm):=Zeq fun ns i e=>by
 unfold Zdm at e
 unfold Zkr
 split at e
 ·rename_i c;rw[if_pos c];cases e;rfl
 ·cases e
theorem ZgX:CO X ξ (Zdl X Zkt) (Zby List.min?):=Zeq fun ns i e=>by unfold Zkt;rw[e];rfl
theorem ZiK:bootBuiltins "sum"=some (.builtin "sum"):=by decide +kernel
end
end DL
end
section
namespace DL
open PySem PySem.Spec PyProof.Rows L2
section
variable {κ:Type} [DecidableEq κ]
variable {K:PySem.W.Frag} {H H':Hp} {α α':List Addr} {key:κ->D} {dec:D->Option κ}
end
section
variable {X:Cx} {ξ:XK} {H:Hp} {α:List Addr} {M:Sto}
end
section
variable {X:Cx} {ξ:XK} {o i e:Expr} {fo fi f:Ev} {pos pos':Pos}
end
end DL
end
section
namespace DL
open PySem PySem.Spec PyProof.Rows L2
theorem Zcw:bootBuiltins "reversed"=some (.type "reversed"):=by decide +kernel
section
variable {X:Cx} {ξ:XK} {tg a:Expr} {fs:Av} {p pos:Pos} {ta:TA}
noncomputable def iRv (fs:Av):Ro->Sto->Out Src:=fun ρ M=>(fs ρ M).bind fun ds M1=>match ds with | [.ref n]=>(match M1[n]? with | some (.lst xs)=> .ok (.rev n xs.length) M1 | none=> .bad) | _=> .bad
end
end DL
end
section
namespace DL
open PySem PySem.Spec PyProof.Rows L2
section
variable {X:Cx} {ξ:XK} {e e1 e2:Expr} {es:List Expr} {f:Ev} {pos:Pos}
end
end DL
end
section
namespace DL
open PySem PySem.Spec PyProof.Rows L2
section
variable {X:Cx} {ξ:XK} {tg iter elt:Expr} {ifs:List Expr} {scope:Scope} {cl:List (Str × Addr)} {N:List Str} {k:Nat} {fr:List Nat} {fi:Ro->Sto->Out Src} {gt:Tg} {c:Tv} {f:Ev} {pos:Pos}
end
end DL
end
section
namespace DL
open PySem PySem.Spec PyProof.Rows L2
noncomputable def ZnQ:Bo:=fun x y M=>match x,y with
 | .ref n,.int k=>match M[n]? with
  |some (.lst xs)=>if (-9223372036854775808<=k/\k < 9223372036854775808)/\xs.length * k.toNat<=100000 then .ok (.ref M.length) (M ++ [.lst (List.replicate k.toNat xs).flatten]) else .bad
  |none=> .bad
 |_,_=> .bad
section
variable {X:Cx} {ξ:XK} {a b:Expr} {fa fb:Ev} {pos:Pos}
end
end DL
end
namespace DL
open PySem PySem.Spec L2
open PySem.W
theorem Zdn:typeLookup (.type "list_reverseiterator") "__len__"=pure none:=by rw[typeLookup_type,builtinLookup_eq_fast];kernel_rfl
theorem Zfn:typeLookup (.type "list_reverseiterator") "__length_hint__"=pure (some (.builtin "list_reverseiterator.__length_hint__")):=by rw[typeLookup_type,builtinLookup_eq_fast];kernel_rfl
theorem ZgY:isSubtype (.type "list_reverseiterator") (.type "list_reverseiterator")=pure true:=by rw[isSubtype_type];kernel_rfl
theorem Zer:splitId "list_reverseiterator.__length_hint__"=some ("list_reverseiterator","__length_hint__"):=by decide +kernel
section
variable {prog:Program} {w:World} {A:Around} {E:Value->Shared->Prop} {s:Shared}
theorem Zfo {I:Addr} {Q:Bool->Shared->Prop} (hT:s.TypeIs (.ref I) "list_reverseiterator") (h:Q false s):wpAny (model prog w) A (Builtin.List.listLengthHint (.ref I)) Q E s:=by
 unfold Builtin.List.listLengthHint
 refine wpAny_bind (wpAny_specialOf hT Zdn ?_)
 show wpAny _ A (specialOf (Value.ref I) (Str.ofString "__length_hint__") >>= _) _ _ _
 refine wpAny_bind (wpAny_specialOf hT Zfn ?_)
 simp only[Zer]
 refine wpAny_bind (wpAny_isInstance hT ZgY ?_)
 exact wpAny_pure h
end
section
variable {prog:Program} {w:World} {A:Around} {s:Shared} {R:Result->Shared->Prop}
variable {I:Addr} {fp wr:List Addr} {G:Array GenState->Array GenState->Prop} {n:Nat} {P:Nat->Value->Prop} {St:Nat->Shared->Prop}
theorem Zdo (W:WalksS prog w A.in1 I fp wr G n P St) (hT: ∀ i s,St i s->s.TypeIs (.ref I) "list_reverseiterator") (S:Addr) (res:Value) (c₀:Nat) (hst:St 0 s) (hSf:S ∉ fp) (hI:I∈fp)
  (hS:s.heap.get? S=some { cls:= .type "list",data:= .seq #[] c₀ })
  (hR: ∀ s' acc' c',Moved (S :: wr) G s s'->s'.heap.get? S=some { cls:= .type "list",dict:=none,data:= .seq acc' c',slots:= #[] }->ItemsOf P acc' n->R (.ok (.ret res)) s') (hn:n<=sizeLine):
  wpAny (model prog w) A.in1 (Builtin.List.listExtendWith (.ref S) (.ref I) res)
   (fun fin s'=>match fin with | .done f=>R (.ok f) s' | .again c'=>c'.quiet=true/\codeAny (model prog w) A c' R s') (fun e s'=>R (.error e) s') s:=by
 have hSI:S≠I:=fun e=>hSf (e ▸ hI)
 unfold Builtin.List.listExtendWith
 refine wpAny_bind (wpAny_typeOf (hT 0 _ hst) ?_)
 have h1:Builtin.List.listSameRef (.ref S) (.ref I)=false:=by simp[Builtin.List.listSameRef,hSI]
 have h2:(Value.type "list_reverseiterator" == Value.type "list")=false:=by decide
 have h3:(Value.type "list_reverseiterator" == Value.type "tuple")=false:=by decide
 simp only[h1,h2,h3,Bool.or_false,Bool.false_eq_true,if_false]
 refine wpAny_bind (W.self 0 _ _ _ hst ?_)
 refine wpAny_bind (wpAny_holding ?_)
 refine Zfo (hT 0 _ hst) ?_
 refine wpAny_pure ⟨plainId_quiet F.plain_extend_loop _,codeAny_extend_loopS W hn _ hSf _ n 0 _ _ _ rfl (Nat.zero_le _) hst hS (ItemsOf.nil P) fun s' acc' c' hm hS' hacc=> ?_⟩
 exact hR s' acc' c' hm hS' hacc
theorem Zbz (W:WalksS prog w A.in1 I fp wr G n P St) (hT: ∀ i s,St i s->s.TypeIs (.ref I) "list_reverseiterator") (S:Addr) (hst:St 0 s) (hSf:S ∉ fp) (hI:I∈fp)
  (hS:s.heap.get? S=some { cls:= .type "list",data:= .seq #[] })
  (hR: ∀ s' acc' c',Moved (S :: wr) G s s'->s'.heap.get? S=some { cls:= .type "list",dict:=none,data:= .seq acc' c',slots:= #[] }->ItemsOf P acc' n->R (.ok (.ret .none)) s') (hn:n<=sizeLine):
  wpAny (model prog w) A.in1 (Builtin.«list.__init__» ⟨[.ref S,.ref I],[]⟩)
   (fun fin s'=>match fin with | .done f=>R (.ok f) s' | .again c'=>c'.quiet=true/\codeAny (model prog w) A c' R s') (fun e s'=>R (.error e) s') s:=by
 show wpAny _ A.in1 (do let old <- Builtin.List.listItems (.ref S);Builtin.List.listUpdate (.ref S) (fun _=> #[]);letGo old.toList.reverse;Builtin.List.listExtendWith (.ref S) (.ref I) .none) _ _ s
 refine wpAny_bind ?_
 unfold Builtin.List.listItems
 refine wpAny_bind (wpAny_seqItems hS rfl (wpAny_pure ?_))
 show wpAny _ A.in1 (updateSeq S (fun _=> #[]) >>= fun _=>letGo (#[]:Array Value).toList.reverse >>= fun _=>Builtin.List.listExtendWith (.ref S) (.ref I) .none) _ _ s
 refine wpAny_bind (wpAny_updateSeq hS rfl ?_)
 have hS₂:=Heap.get?_update_self (Obj.mapSeq (fun _=>(#[]:Array Value))) hS rfl
 have oth: ∀ b o,b≠S->s.heap.get? b=some o->(s.heap.update S (Obj.mapSeq (fun _=>(#[]:Array Value)))).get? b=some o:=
  fun b o hb e=>(Heap.get?_update_other _ _ (Ne.symm hb)).trans e
 refine wpAny_bind (wpAny_letGo ?_)
 refine Zdo W hT S .none _ (W.frame 0 s _ s.toks hst (Nat.le_refl _) fun b hb o e=>oth b o (fun h=>hSf (h ▸ hb)) e) hSf hI hS₂ (fun s' acc' c' hm hS' hacc=> ?_) hn
 exact hR s' acc' c' (Moved.trans W.gtrans ((Moved.refl W.grefl).then_heap (Nat.le_refl _) fun b o hb e=>oth b o (fun h=>hb (h ▸ List.mem_cons_self)) e) hm) hS' hacc
end
section
variable {prog:Program} {w:World} {A:Around} {E:Value->Shared->Prop} {s:Shared}
variable {I:Addr} {fp wr:List Addr} {G:Array GenState->Array GenState->Prop} {n:Nat} {P:Nat->Value->Prop} {St:Nat->Shared->Prop}
theorem ZbA {Q:Value->Shared->Prop} (W:WalksS prog w A.in1.in1 I fp wr G n P St) (hT: ∀ i s,St i s->s.TypeIs (.ref I) "list_reverseiterator") (hst:St 0 s) (hfp: ∀ b∈fp,b < s.heap.objs.size) (hI:I∈fp)
  (hQ: ∀ s' acc' c',Moved (s.heap.objs.size :: wr) G { s with heap:=s.heap.push { cls:= .type "list",data:= .seq #[] } } s'->
   s'.heap.get? s.heap.objs.size=some { cls:= .type "list",dict:=none,data:= .seq acc' c',slots:= #[] }->ItemsOf P acc' n->Q (.ref s.heap.objs.size) s') (hn:n<=sizeLine):
  wpAny (model prog w) A (call (.type "list") [.ref I]) Q E s:=by
 have hSf:s.heap.objs.size ∉ fp:=fun hm=>Nat.lt_irrefl _ (hfp _ hm)
 refine callType_codes (Q₁:=fun obj s₁=>obj= .ref s.heap.objs.size/\s₁={ s with heap:=s.heap.push { cls:= .type "list",data:= .seq #[] } }) F.called_list (F.typeCall_list_1 _) F.entry_list_init
  (code_list_new _ ⟨rfl,rfl⟩) fun obj s₁ h₁=> ?_
 obtain ⟨rfl,rfl⟩:=h₁
 have hS:(s.heap.push { cls:= .type "list",data:= .seq #[] }).get? s.heap.objs.size=some { cls:= .type "list",data:= .seq #[] }:=Heap.get?_push_size _ rfl
 refine ⟨⟨_,hS,rfl⟩,F.args_list_init_2 _ _,Zbz W hT _ (W.frame 0 s _ s.toks hst (Nat.le_refl _) fun b _ o e=>Heap.get?_push_of_some _ e) hSf hI hS (fun s' acc' c' hm hS' hacc=> ?_) hn⟩
 exact ⟨rfl,hQ s' acc' c' hm hS' hacc⟩
end
section
variable {X:Cx} {ξ:XK} {a:Expr} {fs:Av} {p1 p2 p3 pos:Pos} {ta:TA}
noncomputable def tLR (K:PySem.W.Frag) (t:TA):TE:=fun σ H Q=>t σ H fun vs H1=> ∃ l xs,vs=[.ref l]/\SqL K H1 l xs/\ ∀ p,H1 p=none->Q (.ref p) (upd H1 p (.lst xs.reverse))
theorem Zes {its:List Value} {acc:Array Value} (h:ItemsOf (fun i v=>its.toArray[its.toArray.size - 1 - i]?=some v) acc its.toArray.size):acc=its.reverse.toArray:=by
 obtain ⟨hz,hv⟩:=h
 apply Array.ext'
 apply List.ext_getElem?
 intro i
 rw[List.toList_toArray]
 by_cases hi:i < acc.size
 ·have e:acc.toList[i]?=some acc[i]:=by rw[Array.getElem?_toList];exact Array.getElem?_eq_getElem hi
  have:=hv i _ (Array.getElem?_eq_getElem hi)
  rw[e,<- this,List.getElem?_toArray,List.size_toArray,List.getElem?_reverse (by rw[hz,List.size_toArray] at hi;exact hi)]
 ·rw[List.getElem?_eq_none (by rw[Array.length_toList];omega),List.getElem?_eq_none (by rw[hz,List.size_toArray] at hi;rw[List.length_reverse];omega)]
theorem ZkT (hc:X.A.handled=none) (hgl:Gl X "list") (hml:X.mg "list"=none) (hg:Gl X "reversed") (hm:X.mg "reversed"=none) (ha:PA X [a] ta) (hs:starEach [a] X.env=(false,eval a X.env) :: starEach [] X.env:=by rfl) (hpl:(backTo p3 (starEach [] X.env)).any (·.1)=false:=by rfl) (hs1:starEach [.Call (.Name "reversed" p2) [a] [] p3] X.env=(false,eval (.Call (.Name "reversed" p2) [a] [] p3) X.env) :: starEach [] X.env:=by rfl) (hpl1:(backTo pos (starEach [] X.env)).any (·.1)=false:=by rfl):
  PE X (.Call (.Name "list" p1) [.Call (.Name "reversed" p2) [a] [] p3] [] pos) (tLR X.K ta):=by
 intro pins s σ H Q I h
 refine wpAny_Call_Name_kw (Zbf I hgl hml Zbu (PyProof.Rows.callWith_type1 ?_ hs1 hpl1) (by decide) (by decide))
 rw[hs1]
 show wpAny _ _ (spliced ((false,eval (.Call (.Name "reversed" p2) [a] [] p3) X.env) :: backTo pos (starEach [] X.env))) _ _ s
 refine Calls.spliced_cons ?_
 refine wpAny_Call_Name_kw (Zbf I hg hm Zcw (PyProof.Rows.callWith_type1 (thn (ha p3 pins s σ H _ I h) fun us s1 ⟨vs,H1,I1,r1,q1⟩=> ?_) hs hpl) (by decide) (by decide))
 obtain ⟨l,xs,rfl,hq,q⟩:=q1
 obtain ⟨u,rfl,ru⟩:=Zdb r1
 cases ru
 obtain ⟨its,rv,pl,hz⟩:=I1.list hq
 have hll:l < s1.heap.objs.size:=by
  obtain ⟨o,ho,_⟩:=pl.isList
  exact Heap.lt_size ho
 refine call_reversed_list pl.isList (Calls.spliced_nil ?_)
 have W:=(PySem.Walks.listRev (prog:=X.prog) (w:=X.w) (A:=X.A.in1.in1) hc s1.heap.objs.size l (Nat.ne_of_lt hll) its.toArray).toS
 have hsz:its.toArray.size<=sizeLine:=by rw[List.size_toArray,<- rv.length];exact hz
 refine ZbA W (fun i s x=>x.2.1.typeIs) ⟨Nat.zero_le _,⟨_,Heap.get?_push_size _ rfl,rfl,?_⟩,?_⟩ ?_ (by simp) (fun s' acc c hmv hS hit=> ?_) hsz
 ·show Data.fields #[.ref l,rawInt ((its.toArray.size:Int) - 1)]=_
  rw[show (its.toArray.size:Int) - 1 - ((0:Nat):Int)=(its.toArray.size:Int) - 1 by omega]
 ·exact pl.isList.at fun o e=>Heap.get?_push_of_some _ e
 ·intro b hb
  have:b=s1.heap.objs.size\/b=l:=by simpa using hb
  have hz2:(s1.heap.push (revObj l ((its.toArray.size:Int) - 1))).objs.size=s1.heap.objs.size + 1:=by simp[Heap.push]
  show b < (s1.heap.push (revObj l ((its.toArray.size:Int) - 1))).objs.size
  rw[hz2]
  rcases this with rfl | rfl
  ·exact Nat.lt_succ_self _
  ·exact Nat.lt_succ_of_lt hll
 ·have ea:=Zes hit
  subst ea
  have hz2:(s1.heap.push (revObj l ((its.toArray.size:Int) - 1))).objs.size=s1.heap.objs.size + 1:=by simp[Heap.push]
  have K: ∀ b u,s1.heap.get? b=some u->s'.heap.get? b=some u:=by
   intro b u hb
   have hlt:=Heap.lt_size hb
   refine hmv.heap b u ?_ (Heap.get?_push_of_some _ (Heap.get?_push_of_some _ hb))
   intro hmem
   have:b=s1.heap.objs.size + 1\/b=s1.heap.objs.size:=by
    simp only[List.mem_cons,List.not_mem_nil,or_false] at hmem
    rcases hmem with e | e
    ·exact .inl (e.trans hz2)
    ·exact .inr e
   rcases this with e | e
   ·exact absurd (e ▸ hlt) (Nat.not_lt.mpr (Nat.le_succ _))
   ·exact absurd (e ▸ hlt) (Nat.lt_irrefl _)
  have es:s'={ s1 with heap:=s'.heap,toks:=s'.toks }:=by
   obtain ⟨h1,g1,d1,t1,o1⟩:=s1
   obtain ⟨h2,g2,d2,t2,o2⟩:=s'
   have e1:g2=g1:=hmv.gens
   have e2:d2=d1:=hmv.drawn
   have e3:o2=o1:=hmv.os
   subst e1 e2 e3
   rfl
  have hS':s'.heap.get? (s1.heap.objs.size + 1)=some { cls:= .type "list",dict:=none,data:= .seq its.reverse.toArray c,slots:= #[] }:=by
   rw[<- hz2];exact hS
  show EP X pins σ Q (.ref (s1.heap.push (revObj l ((its.toArray.size:Int) - 1))).objs.size) s'
  rw[hz2,es]
  refine ⟨.ref _,_,I1.laid (t':=s'.toks) (o:= .lst xs.reverse) K (Nat.le_succ _) ?_,rfl,q _ (I1.hok.fresh (Nat.le_succ _))⟩
  exact ⟨by rw[List.length_reverse];exact hz,its.reverse,c,rv.reverse,hS'⟩
noncomputable def bLR:List D->Sto->Out D:=fun ds M1=>match ds with
 | [.ref n]=>(match M1[n]? with | some (.lst xs)=> .ok (.ref M1.length) (M1 ++ [.lst xs.reverse]) | none=> .bad)
 | [.rol xs]=> .ok (.ref M1.length) (M1 ++ [.lst xs.reverse])
 |_=> .bad
theorem ZkU (hc:X.A.handled=none) (hml:X.mg "list"=none) (hm:X.mg "reversed"=none) (ha:DA X ξ [a] fs) (hgl:Gl X "list":=by rfl) (hg:Gl X "reversed":=by rfl) (hs:starEach [a] X.env=(false,eval a X.env) :: starEach [] X.env:=by rfl) (hpl:(backTo p3 (starEach [] X.env)).any (·.1)=false:=by rfl) (hs1:starEach [.Call (.Name "reversed" p2) [a] [] p3] X.env=(false,eval (.Call (.Name "reversed" p2) [a] [] p3) X.env) :: starEach [] X.env:=by rfl) (hpl1:(backTo pos (starEach [] X.env)).any (·.1)=false:=by rfl):
  DE X ξ (.Call (.Name "list" p1) [.Call (.Name "reversed" p2) [a] [] p3] [] pos) (Zl bLR fs):=by
 obtain ⟨ta,pa,qa⟩:=ha
 refine ⟨_,ZkT hc hgl hml hg hm pa hs hpl hs1 hpl1,fun σ ρ H α M Q s hh w=>qa σ ρ H α M _ s hh (OG.seq w fun ds M1 vs H1 α1 e1 h1 r1 w1=> ?_)⟩
 match r1 with
 | .nil=>exact w1.elim
 | .cons r (.cons _ _)=>cases r<;>exact w1.elim
 | .cons r .nil=>
  cases r with
  | @rol a xs ds hp rp=>
   have w2:OP X.K H1 α1 ξ Q (.ok (.ref M1.length) (M1 ++ [.lst ds.reverse])):=w1
   exact ⟨a,xs,rfl,hp.sq,fun l hl=>w2 _ _ (α1 ++ [l]) (Ext.new hl) (h1.new hl rp.rev) (.ref ⟨h1.last l,Kn.lst Zm⟩)⟩
  | @ref a n hp=>
   cases em:M1[n]? with
   |none=>simp only[bLR,em] at w1;exact w1.elim
   |some so=>
    cases so with
    |lst es=>
     simp only[bLR,em] at w1
     obtain ⟨xs,g1,g2⟩:=h1.at hp em
     exact ⟨a,xs,rfl,SqL.of g1,fun l hl=>w1 _ _ (α1 ++ [l]) (Ext.new hl) (h1.new hl g2.rev) (.ref ⟨h1.last l,Kn.lst Zm⟩)⟩
  |_=>exact w1.elim
end
end DL
section
namespace DL3
open PySem PySem.Spec PyProof.Rows L2 DL
open Sem (wp)
section
variable {prog:Program} {w:World} {A:Around} {E:Value->Shared->Prop} {s:Shared}
end
section
variable {prog:Program} {w:World} {A:Around} {E:Value->Shared->Prop} {s:Shared}
end
section
variable {X:Cx} {ξ:XK} {y1 y2 y3:Expr} {elts:List Expr} {k0:Nat} {tp:Pos} {fs:Av} {p pos:Pos} {ta:TA}
end
end DL3
end
section
namespace DL4
open PySem PySem.Spec PyProof.Rows L2 DL
open Sem (wp)
section
variable {prog:Program} {w:World} {A:Around} {E:Value->Shared->Prop} {s:Shared}
end
section
variable {prog:Program} {w:World} {A:Around} {E:Value->Shared->Prop} {s:Shared}
end
section
variable {X:Cx} {ξ:XK} {y1 y2 y3 y4:Expr} {elts:List Expr} {k0:Nat} {tp:Pos} {fs:Av} {p pos:Pos} {ta:TA}
end
end DL4
end
section
namespace PySem.SeqAt
open AutoSeq1 (wpAny_loadPart')
open MeetsSeq MeetsSeq2 MeetsSeq3 SeqRoads2
noncomputable def ZkV (A:Around) (s:Shared) (y x:Value) (b:Bool):Prop:=
 ∀ (prog:Program) (w:World) (E:Value->Shared->Prop) (Q:Value->Shared->Prop),Q (.bool b) s->wpAny (model prog w) A (richCompare .Lt y x) Q E s
noncomputable def lxI (e f:Nat->Bool) (m n:Nat):Nat->Nat->Bool
 |0,_=>decide (m < n)
 |k + 1,i=>if e i=true then lxI e f m n k (i + 1) else f i
theorem Zet (l b:Addr) (items items2:Array Value) (n n2:Nat) (dd dd2:Option Addr) (sl sl2:Array (Option Value)) (e f:Nat->Bool) (k:Nat):
  ∀ i:Nat,min items.size items2.size - i=k->Meets (Builtin.«list.__eq__.loop» ⟨[.ref l,.ref b,rawInt i,rawInt 0],[]⟩)
   (fun A R s=>s.heap.get? l=some { cls:= .type "list",dict:=dd,data:= .seq items n,slots:=sl }/\s.heap.get? b=some { cls:= .type "list",dict:=dd2,data:= .seq items2 n2,slots:=sl2 }/\
    (∀ j (h1:j < items.size) (h2:j < items2.size),EqAt A.in1 s items[j] items2[j] (e j))/\(∀ j (h1:j < items.size) (h2:j < items2.size),e j=false->ZkV A.in1 s items[j] items2[j] (f j))/\
    R (.ok (.ret (.bool (lxI e f items.size items2.size k i)))) s):=by
 induction k with
 |zero=>
  intro i hk prog w A R s h
  obtain ⟨hp,g,d,tk,os⟩:=s;obtain ⟨hl,hb,he,hf,h⟩:=h
  wp_walk using wpAny_loadPart' hl,wpAny_loadPart' hb
  have hor:items[((i:Nat):Int).toNat]?=none\/items2[((i:Nat):Int).toNat]?=none:=by
   rcases Nat.lt_or_ge i items.size with c | c
   ·exact .inr (by simp;omega)
   ·exact .inl (by simp;omega)
  rcases hor with hi1 | hi2
  ·rw[hi1]
   wp_walk using wpAny_loadPart' hl,wpAny_loadPart' hb
   exact h
  ·rw[hi2]
   cases hi1:items[((i:Nat):Int).toNat]? with
   |none=>
    wp_walk using wpAny_loadPart' hl,wpAny_loadPart' hb
    exact h
   |some x=>
    wp_walk using wpAny_loadPart' hl,wpAny_loadPart' hb
    exact h
 |succ k ih=>
  intro i hk prog w A R s h
  obtain ⟨hp,g,d,tk,os⟩:=s;obtain ⟨hl,hb,he,hf,h⟩:=h
  wp_walk using wpAny_loadPart' hl,wpAny_loadPart' hb
  have hlt:i < items.size:=by omega
  have hlt2:i < items2.size:=by omega
  have hi1:items[((i:Nat):Int).toNat]?=some items[i]:=by simp[hlt]
  have hi2:items2[((i:Nat):Int).toNat]?=some items2[i]:=by simp[hlt2]
  have hc:((i:Int) + 1)=((i + 1:Nat):Int):=by push_cast;rfl
  rw[lxI] at h
  rw[hi1,hi2]
  refine wpAny_bind (he i hlt hlt2 prog w _ _ ?_)
  cases hb':e i with
  |true=>
   rw[if_pos hb'] at h
   wp_walk
   rw[hc]
   exact ⟨plainId_quiet plain_eq_loop _,codeAny_builtin entry_eq_loop (by
    rw[Around.under_plainId plain_eq_loop _]
    exact ih (i + 1) (by omega) prog w A R _ ⟨hl,hb,he,hf,h⟩)⟩
  |false=>
   rw[if_neg (by rw[hb'];decide)] at h
   wp_walk using wpAny_loadPart' hl,wpAny_loadPart' hb
   rw[hi1,hi2]
   refine wpAny_bind (hf i hlt hlt2 hb' prog w _ _ ?_)
   wp_walk
   exact h
theorem Zeu (l b:Addr) (items items2:Array Value) (n n2:Nat) (dd dd2:Option Addr) (sl sl2:Array (Option Value)) (e f:Nat->Bool):
  Meets (Builtin.«list.__lt__» ⟨[.ref l,.ref b],[]⟩)
   (fun A R s=>s.heap.get? l=some { cls:= .type "list",dict:=dd,data:= .seq items n,slots:=sl }/\s.heap.get? b=some { cls:= .type "list",dict:=dd2,data:= .seq items2 n2,slots:=sl2 }/\
    (∀ j (h1:j < items.size) (h2:j < items2.size),EqAt A.in1 s items[j] items2[j] (e j))/\(∀ j (h1:j < items.size) (h2:j < items2.size),e j=false->ZkV A.in1 s items[j] items2[j] (f j))/\
    R (.ok (.ret (.bool (lxI e f items.size items2.size (min items.size items2.size) 0)))) s):=by
 intro prog w A R s h
 obtain ⟨hp,g,d,tk,os⟩:=s;obtain ⟨hl,hb,he,hf,h⟩:=h
 have f3:=AutoSeq1.sub_list_list
 wp_walk using wpAny_loadPart' hl,wpAny_loadPart' hb
 exact ⟨plainId_quiet plain_eq_loop _,codeAny_builtin entry_eq_loop (by
  rw[Around.under_plainId plain_eq_loop _]
  exact Zet l b items items2 n n2 dd dd2 sl sl2 e f _ 0 rfl prog w A R _ ⟨hl,hb,he,hf,h⟩)⟩
end PySem.SeqAt
namespace DL
open PySem PySem.Spec PyProof.Rows L2
open PySem.SeqAt
noncomputable def Zan:List D->Option (List Int)
 | []=>some []
 | .int i :: r=>match Zan r with | some is=>some (i :: is) | none=>none
 |_ :: _=>none
noncomputable def ltE:D->D->Option Bool
 | .int a,.int b=>some (decide (a < b))
 | .tup xs,.tup ys=>(match Zan xs,Zan ys with | some a,some b=>some (HT.Zaw a b) | _,_=>none)
 |_,_=>none
noncomputable def ltL:List D->List D->Option Bool
 | [],[]=>some false
 | [],_ :: _=>some true
 |_ :: _,[]=>some false
 |x :: xs,y :: ys=>match ltE x y with
  |none=>none
  |some b=>if eqX x y=true then ltL xs ys else some b
where eqX:D->D->Bool
 | .int a,.int b=>a == b
 | .tup xs,.tup ys=>Zan xs == Zan ys
 |_,_=>false
theorem Zb6 {M:Sto} {n:Nat}: ∀ {xs ys:List D} {a b:List Int},Zan xs=some a->Zan ys=some b->eqL (eqF (n + 1) M) xs ys=some (a == b)
 | [],[],a,b,h1,h2=>by cases h1;cases h2;rfl
 | [],y :: ys,a,b,h1,h2=>by
  cases h1
  cases y with
  |int i=>
   unfold Zan at h2
   split at h2
   ·cases h2;rfl
   ·cases h2
  |_=>cases h2
 |x :: xs,[],a,b,h1,h2=>by
  cases h2
  cases x with
  |int i=>
   unfold Zan at h1
   split at h1
   ·cases h1;rfl
   ·cases h1
  |_=>cases h1
 |x :: xs,y :: ys,a,b,h1,h2=>by
  cases x with
  |int i=>
   cases y with
   |int j=>
    unfold Zan at h1 h2
    split at h1
    ·rename_i is e1
     split at h2
     ·rename_i js e2
      cases h1
      cases h2
      rw[eqL,Zb6 e1 e2]
      show some ((i == j) && (is == js))=_
      rfl
     ·cases h2
    ·cases h1
   |_=>cases h2
  |_=>cases h1
theorem ZiL {M:Sto} {n:Nat} {x y:D} {b:Bool} (h:ltE x y=some b):eqF (n + 2) M x y=some (ltL.eqX x y):=by
 cases x with
 |int i=>
  cases y with
  |int j=>rfl
  |_=>cases h
 |tup xs=>
  cases y with
  |tup ys=>
   cases e1:Zan xs with
   |none=>simp only[ltE,e1] at h;cases h
   |some a=>
    cases e2:Zan ys with
    |none=>simp only[ltE,e1,e2] at h;cases h
    |some c=>
     show eqL (eqF (n + 1) M) xs ys=_
     rw[Zb6 e1 e2]
     simp only[ltL.eqX,e1,e2]
     rfl
  |_=>cases h
 |_=>cases h
theorem Za1 {K:PySem.W.Frag} {H:Hp} {α:List Addr}: ∀ {vs:List V} {ds:List D} {a:List Int},Reps K H α vs ds->Zan ds=some a->vs=a.map V.int
 |_,_,a,.nil,e=>by cases e;rfl
 |_,_,a,.cons (d:=d) (ds:=ds) r t,e=>by
  cases r with
  |int i=>
   unfold Zan at e
   split at e
   ·rename_i is e1
    cases e
    rw[Za1 t e1]
    rfl
   ·cases e
  |_=>cases e
section
variable {X:Cx} {pins:List (Addr × Obj)} {σ:L2.St} {H:Hp} {s:Shared} {α:List Addr} {M:Sto}
theorem ZkW (I:Inv X pins σ H s) {A:Around} (hu:A.units < cLine) {x y:D} {v w:V} {u z:Value} {b:Bool} (h:ltE x y=some b) (r1:Rep X.K H α v x) (r2:Rep X.K H α w y) (ru:ZG v u) (rz:ZG w z):ZkV A s u z b:=by
 intro prog w' E Q q
 cases r1 with
 |int i=>
  cases r2 with
  |int j=>
   cases h
   obtain ⟨t,rfl⟩:=ru
   obtain ⟨t',rfl⟩:=rz
   exact lt_int q
  |_=>cases h
 | @tup p xs ds hp rp=>
  cases r2 with
  | @tup p2 xs2 ds2 hp2 rp2=>
   cases e1:Zan ds with
   |none=>simp only[ltE,e1] at h;cases h
   |some a=>
    cases e2:Zan ds2 with
    |none=>simp only[ltE,e1,e2] at h;cases h
    |some c=>
     simp only[ltE,e1,e2,Option.some.injEq] at h
     subst h
     cases ru
     cases rz
     have h1:=Za1 rp e1
     have h2:=Za1 rp2 e2
     subst h1 h2
     obtain ⟨its,q1,p1,_⟩:=I.tuple (SqT.of hp)
     obtain ⟨its2,q2,p2',_⟩:=I.tuple (SqT.of hp2)
     exact HT.Zdd p1 p2' (Zbi q1) (Zbi q2) hu q
  |_=>cases h
 |_=>cases h
theorem ZfY: ∀ {xs ys:List D} {b:Bool},ltL xs ys=some b-> ∀ (e f:Nat->Bool) (i m n:Nat),(∀ j x y,xs[j]?=some x->ys[j]?=some y->(ltE x y).isSome=true->e (i + j)=ltL.eqX x y/\(ltL.eqX x y=false->ltE x y=some (f (i + j))))->m=i + xs.length->n=i + ys.length->lxI e f m n (min xs.length ys.length) i=b
 | [],[],b,h,e,f,i,m,n,hh,hm,hn=>by cases h;simp[lxI,hm,hn]
 | [],y :: ys,b,h,e,f,i,m,n,hh,hm,hn=>by cases h;simp[lxI,hm,hn]
 |x :: xs,[],b,h,e,f,i,m,n,hh,hm,hn=>by cases h;simp[lxI,hm,hn]
 |x :: xs,y :: ys,b,h,e,f,i,m,n,hh,hm,hn=>by
  rw[ltL] at h
  cases el:ltE x y with
  |none=>rw[el] at h;cases h
  |some c=>
   rw[el] at h
   simp only at h
   obtain ⟨h1,h2⟩:=hh 0 x y rfl rfl (by rw[el];rfl)
   rw[Nat.add_zero] at h1 h2
   rw[List.length_cons,List.length_cons,Nat.succ_min_succ,lxI,h1]
   by_cases q:ltL.eqX x y=true
   ·rw[if_pos q] at h ⊢
    exact ZfY h e f (i + 1) m n (fun j a b' ha hb hs=>by
     have:=hh (j + 1) a b' (by simpa using ha) (by simpa using hb) hs
     rw[show i + (j + 1)=i + 1 + j by omega] at this
     exact this) (by rw[hm,List.length_cons];omega) (by rw[hn,List.length_cons];omega)
   ·rw[if_neg q] at h ⊢
    cases h
    have:=h2 (by simpa using q)
    rw[el] at this
    exact (Option.some.inj this).symm
noncomputable def Zaz:List D->List D->Bool
 |x :: xs,y :: ys=>(ltE x y).isSome && Zaz xs ys
 |_,_=>true
theorem Za2: ∀ {xs ys:List D},Zaz xs ys=true-> ∀ (j:Nat) x y,xs[j]?=some x->ys[j]?=some y->(ltE x y).isSome=true
 | [],_,_,j,x,y,hx,_=>by simp at hx
 |_ :: _,[],_,j,x,y,_,hy=>by simp at hy
 |x0 :: xs,y0 :: ys,h,j,x,y,hx,hy=>by
  rw[Zaz,Bool.and_eq_true] at h
  cases j with
  |zero=>simp at hx hy;subst hx hy;exact h.1
  |succ j=>exact Za2 h.2 j x y (by simpa using hx) (by simpa using hy)
theorem Zcx: ∀ {xs:List V} {us:List Value} {j:Nat} {u:Value},Zu xs us->us[j]?=some u-> ∃ x,xs[j]?=some x/\ZG x u
 | [],us,j,u,h,e=>by cases h;simp at e
 |x :: xs,us,j,u,h,e=>by
  cases h with
  |cons h1 h2=>
   cases j with
   |zero=>simp at e;subst e;exact ⟨x,rfl,h1⟩
   |succ j=>simp at e;obtain ⟨y,g1,g2⟩:=Zcx h2 e;exact ⟨y,by simpa using g1,g2⟩
theorem Zcy {K:PySem.W.Frag}: ∀ {xs:List V} {ds:List D} {j:Nat} {x:V},Reps K H α xs ds->xs[j]?=some x-> ∃ d,ds[j]?=some d/\Rep K H α x d
 |_,_,j,x,.nil,e=>by simp at e
 |_,_,0,x,.cons r _,e=>by simp at e;subst e;exact ⟨_,rfl,r⟩
 |_,_,j + 1,x,.cons _ t,e=>by
  obtain ⟨d,g1,g2⟩:=Zcy (j:=j) t (by simpa using e)
  exact ⟨d,by simpa using g1,g2⟩
end
end DL
end
section
namespace PySem
open Sem (wp)
section
variable {prog:Program} {w:World} {A:Around} {R:Result->Shared->Prop} {I:Addr} {fp wr:List Addr} {P:Nat->Value->Prop} {St:Nat->Heap->Prop}
theorem ZfZ (W:Walks prog w A.in1 I fp wr 2 P St) (S:Addr) (hSf:S ∉ fp) {s:Shared} {vb:Value} {c:Nat} (hst:St 2 s.heap)
  (hS:s.heap.get? S=some { cls:= .type "list",dict:=none,data:= .seq #[vb,vb] c,slots:= #[] })
  (hR: ∀ h' tk,(∀ b o,b ∉ wr->b≠S->s.heap.get? b=some o->h'.get? b=some o)->R (.ok (.ret vb)) { s with heap:=h',toks:=tk }):
  codeAny (model prog w) A (.builtin "min.loop" ⟨[.ref I,.none,.ref S],[]⟩) R s:=by
 have hSw:S ∉ wr:=fun h=>hSf (W.sub _ h)
 refine codeAny_builtin F.entry_min_loop ?_
 rw[Around.under_plainId F.plain_min_loop _]
 show wpAny _ A.in1 (seqItems? (.ref S) >>= _) _ _ s
 refine wpAny_bind (wpAny_seqItems hS rfl ?_)
 show wpAny _ A.in1 (tryCatch (pyNext (.ref I)) _ >>= _) _ _ s
 refine wpAny_bind (wpAny_tryCatch (W.done s _ _ hst fun h' tk hk'=> ?_))
 have hS':=hk' S _ hSw hS
 show wpAny _ A.in1 (updateSeq S (fun _=> #[]) >>= _) _ _ _
 refine wpAny_bind ?_
 refine wpAny_updateSeq hS' rfl (wpAny_bind (wpAny_letGo (wpAny_pure ?_)))
 exact hR _ tk fun b o hbw hbS e=>(Heap.get?_update_other _ _ (Ne.symm hbS)).trans (hk' b o hbw e)
theorem ZiM (W:Walks prog w A.in1 I fp wr 2 P St) (S:Addr) (hSf:S ∉ fp) {s:Shared} {v0 v1:Value} {bt:Bool} {c:Nat} (hst:St 1 s.heap) (hP1: ∀ v,P 1 v->v=v1)
  (hS:s.heap.get? S=some { cls:= .type "list",dict:=none,data:= .seq #[v0,v0] c,slots:= #[] })
  (hcmp: ∀ (h':Heap) (tk:Nat) (Q E:Value->Shared->Prop),(∀ b o,b ∉ wr->b≠S->s.heap.get? b=some o->h'.get? b=some o)->Q (.bool bt) { s with heap:=h',toks:=tk }->wpAny (model prog w) A.in1 (richCompare .Lt v1 v0) Q E { s with heap:=h',toks:=tk })
  (hR: ∀ h' tk,(∀ b o,b ∉ wr->b≠S->s.heap.get? b=some o->h'.get? b=some o)->R (.ok (.ret (if bt then v1 else v0))) { s with heap:=h',toks:=tk }):
  codeAny (model prog w) A (.builtin "min.loop" ⟨[.ref I,.none,.ref S],[]⟩) R s:=by
 have hSw:S ∉ wr:=fun h=>hSf (W.sub _ h)
 have hname:(toString "min" ++ toString ".loop":String)="min.loop":=by decide
 refine codeAny_builtin F.entry_min_loop ?_
 rw[Around.under_plainId F.plain_min_loop _]
 show wpAny _ A.in1 (seqItems? (.ref S) >>= _) _ _ s
 refine wpAny_bind (wpAny_seqItems hS rfl ?_)
 show wpAny _ A.in1 (tryCatch (pyNext (.ref I)) _ >>= _) _ _ s
 refine wpAny_bind (wpAny_tryCatch (W.item 1 s _ _ (by decide) hst fun v h' tk hP hst' hk'=> ?_))
 have hS':=hk' S _ hSw hS
 have e1:=hP1 v hP
 subst e1
 show wpAny _ A.in1 (tryCatch (holding [v,v] (richCompare .Lt v v0 >>= _)) _ >>= _) _ _ _
 refine wpAny_bind (wpAny_tryCatch (wpAny_holding (wpAny_bind (hcmp h' tk _ _ (fun b o hb _ e=>hk' b o hb e) ?_))))
 refine wpAny_bind (wpAny_holding (wpAny_truthy_bool ?_))
 refine wpAny_bind (wpAny_letGo (wpAny_pure ?_))
 cases bt with
 |true=>
  simp only[if_true]
  refine wpAny_bind ?_
  refine wpAny_updateSeq hS' rfl (wpAny_bind (wpAny_letGo ?_))
  rw[hname]
  refine wpAny_pure ⟨plainId_quiet F.plain_min_loop _,ZfZ W S hSf (W.frame _ _ _ hst' fun b hbf o e=> ?_) (Heap.get?_update_self _ hS' rfl) fun h'' tk'' hk''=> ?_⟩
  ·exact (Heap.get?_update_other _ _ (fun h:S=b=>hSf (by rw[h];exact hbf))).trans e
  ·exact hR h'' tk'' fun b o hbw hbS e=>hk'' b o hbw hbS ((Heap.get?_update_other _ _ (Ne.symm hbS)).trans (hk' b o hbw e))
 |false=>
  simp only[Bool.false_eq_true,if_false]
  refine wpAny_bind (wpAny_letGo ?_)
  rw[hname]
  refine wpAny_pure ⟨plainId_quiet F.plain_min_loop _,ZfZ W S hSf hst' hS' fun h'' tk'' hk''=> ?_⟩
  exact hR h'' tk'' fun b o hbw hbS e=>hk'' b o hbw hbS (hk' b o hbw e)
theorem ZgZ (W:Walks prog w A.in1 I fp wr 2 P St) (S:Addr) (hSf:S ∉ fp) {s:Shared} {v0 v1:Value} {bt:Bool} {c:Nat} (hst:St 0 s.heap) (hP0: ∀ v,P 0 v->v=v0) (hP1: ∀ v,P 1 v->v=v1)
  (hS:s.heap.get? S=some { cls:= .type "list",dict:=none,data:= .seq #[] c,slots:= #[] })
  (hcmp: ∀ (h':Heap) (tk:Nat) (Q E:Value->Shared->Prop),(∀ b o,b ∉ wr->b≠S->s.heap.get? b=some o->h'.get? b=some o)->Q (.bool bt) { s with heap:=h',toks:=tk }->wpAny (model prog w) A.in1 (richCompare .Lt v1 v0) Q E { s with heap:=h',toks:=tk })
  (hR: ∀ h' tk,(∀ b o,b ∉ wr->b≠S->s.heap.get? b=some o->h'.get? b=some o)->R (.ok (.ret (if bt then v1 else v0))) { s with heap:=h',toks:=tk }):
  codeAny (model prog w) A (.builtin "min.loop" ⟨[.ref I,.none,.ref S],[]⟩) R s:=by
 have hSw:S ∉ wr:=fun h=>hSf (W.sub _ h)
 have hname:(toString "min" ++ toString ".loop":String)="min.loop":=by decide
 refine codeAny_builtin F.entry_min_loop ?_
 rw[Around.under_plainId F.plain_min_loop _]
 show wpAny _ A.in1 (seqItems? (.ref S) >>= _) _ _ s
 refine wpAny_bind (wpAny_seqItems hS rfl ?_)
 show wpAny _ A.in1 (tryCatch (pyNext (.ref I)) _ >>= _) _ _ s
 refine wpAny_bind (wpAny_tryCatch (W.item 0 s _ _ (by decide) hst fun v h' tk hP hst' hk'=> ?_))
 have hS':=hk' S _ hSw hS
 have e0:=hP0 v hP
 subst e0
 show wpAny _ A.in1 (updateSeq S (fun _=> #[v,v]) >>= _) _ _ _
 refine wpAny_bind ?_
 refine wpAny_updateSeq hS' rfl ?_
 rw[hname]
 refine wpAny_pure ⟨plainId_quiet F.plain_min_loop _,ZiM W S hSf (W.frame _ _ _ hst' fun b hbf o e=> ?_) hP1 (Heap.get?_update_self _ hS' rfl) (fun h2 tk2 Q E hk'' hq=>hcmp h2 tk2 Q E (fun b o hbw hbS e=>hk'' b o hbw hbS ((Heap.get?_update_other _ _ (Ne.symm hbS)).trans (hk' b o hbw e))) hq) fun h'' tk'' hk''=> ?_⟩
 ·exact (Heap.get?_update_other _ _ (fun h:S=b=>hSf (by rw[h];exact hbf))).trans e
 ·exact hR h'' tk'' fun b o hbw hbS e=>hk'' b o hbw hbS ((Heap.get?_update_other _ _ (Ne.symm hbS)).trans (hk' b o hbw e))
end
section
variable {prog:Program} {w:World} {A:Around} {E:Value->Shared->Prop} {s:Shared}
theorem Zdp {v0 v1:Value} {bt:Bool} {Q:Value->Shared->Prop} (hh:A.handled=none)
  (hcmp: ∀ (h':Heap) (tk:Nat) (Q E:Value->Shared->Prop),(∀ b o,s.heap.get? b=some o->h'.get? b=some o)->Q (.bool bt) { s with heap:=h',toks:=tk }->wpAny (model prog w) A.in1 (richCompare .Lt v1 v0) Q E { s with heap:=h',toks:=tk })
  (h: ∀ h' tk,(∀ c o,s.heap.get? c=some o->h'.get? c=some o)->Q (if bt then v1 else v0) { s with heap:=h',toks:=tk }):
  wpAny (model prog w) A (call (.builtin "min") [v0,v1]) Q E s:=by
 have hname:(toString "min" ++ toString ".loop":String)="min.loop":=by decide
 refine call_function_tree F.kind_min F.plain_min F.entry_min (F.args_min2 _ _) ?_
 show wpAny _ A.in1 (Builtin.Builtins.bindParams "min" ["key","default"] 0 ⟨[],[]⟩ >>= _) _ _ s
 refine wpAny_bind (wpAny_of_eq (show Builtin.Builtins.bindParams "min" ["key","default"] 0 ⟨[],[]⟩=pure [none,none] from rfl) ?_)
 show wpAny _ A.in1 (newTuple [v0,v1] >>= _) _ _ s
 refine wpAny_bind (wpAny_newObj_type ?_)
 have hT:(s.heap.push { cls:= .type "tuple",data:= .seq #[v0,v1] }).IsTuple s.heap.objs.size #[v0,v1]:=⟨_,Heap.get?_push_size _ rfl,rfl,0,rfl⟩
 refine wpAny_bind (wpAny_pyIter_tuple hT ?_)
 have hsz:(s.heap.push { cls:= .type "tuple",data:= .seq #[v0,v1] }).objs.size=s.heap.objs.size + 1:=Heap.size_push ..
 refine wpAny_bind (wpAny_newObj_type ?_)
 rw[hname]
 have W:=Walks.tuple (prog:=prog) (w:=w) (A:=A.in1) hh (s.heap.push { cls:= .type "tuple",data:= .seq #[v0,v1] }).objs.size s.heap.objs.size (by rw[hsz];exact Nat.ne_of_lt (Nat.lt_succ_self _)) #[v0,v1]
 have hI:((s.heap.push { cls:= .type "tuple",data:= .seq #[v0,v1] }).push { cls:= .type "tuple_iterator",data:= .fields #[.ref s.heap.objs.size,.int 0 0] }).objs.size=s.heap.objs.size + 2:=by rw[Heap.size_push,hsz]
 have old: ∀ (x:Obj) b o,s.heap.get? b=some o->(((s.heap.push { cls:= .type "tuple",data:= .seq #[v0,v1] }).push { cls:= .type "tuple_iterator",data:= .fields #[.ref s.heap.objs.size,.int 0 0] }).push x).get? b=some o:=fun x b o e=>Heap.get?_push_of_some _ (Heap.get?_push_of_some _ (Heap.get?_push_of_some _ e))
 have lt: ∀ b o,s.heap.get? b=some o->b < s.heap.objs.size:=fun b o e=>Heap.lt_size e
 refine wpAny_pure ⟨plainId_quiet F.plain_min_loop _,ZgZ W _ ?_ (v0:=v0) (v1:=v1) (bt:=bt) (W.frame _ _ _ ⟨⟨_,Heap.get?_push_size _ rfl,rfl,rfl⟩,hT.push _⟩ fun b _ o e=>Heap.get?_push_of_some _ e) (fun v h=> ?_) (fun v h=> ?_) (Heap.get?_push_size _ rfl) (fun h2 tk2 Q E hk hq=>hcmp h2 tk2 Q E (fun b o e=>hk b o ?_ ?_ (old _ b o e)) hq) fun h' tk hk=>h h' tk fun b o e=>hk b o ?_ ?_ (old _ b o e)⟩
 ·intro hm
  change ((s.heap.push { cls:= .type "tuple",data:= .seq #[v0,v1] }).push { cls:= .type "tuple_iterator",data:= .fields #[.ref s.heap.objs.size,.int 0 0] }).objs.size∈[(s.heap.push { cls:= .type "tuple",data:= .seq #[v0,v1] }).objs.size,s.heap.objs.size] at hm
  rw[hI,hsz] at hm
  simp at hm
 ·exact (Option.some.inj h).symm
 ·exact (Option.some.inj h).symm
 ·intro hm
  rw[hsz] at hm
  have l:=lt b o e
  simp at hm
  rw[hm] at l
  exact Nat.lt_irrefl _ (Nat.lt_of_succ_lt l)
 ·intro hm
  change b=((s.heap.push { cls:= .type "tuple",data:= .seq #[v0,v1] }).push { cls:= .type "tuple_iterator",data:= .fields #[.ref s.heap.objs.size,.int 0 0] }).objs.size at hm
  rw[hI] at hm
  have l:=lt b o e
  rw[hm] at l
  exact Nat.lt_irrefl _ (Nat.lt_of_succ_lt (Nat.lt_of_succ_lt l))
 ·intro hm
  rw[hsz] at hm
  have l:=lt b o e
  simp at hm
  rw[hm] at l
  exact Nat.lt_irrefl _ (Nat.lt_of_succ_lt l)
 ·intro hm
  change b=((s.heap.push { cls:= .type "tuple",data:= .seq #[v0,v1] }).push { cls:= .type "tuple_iterator",data:= .fields #[.ref s.heap.objs.size,.int 0 0] }).objs.size at hm
  rw[hI] at hm
  have l:=lt b o e
  rw[hm] at l
  exact Nat.lt_irrefl _ (Nat.lt_of_succ_lt (Nat.lt_of_succ_lt l))
end
end PySem
namespace DL
open PySem PySem.Spec PyProof.Rows L2
open PySem.SeqAt
section
variable {X:Cx} {pins:List (Addr × Obj)} {σ:L2.St} {H:Hp} {s:Shared} {α:List Addr} {M:Sto}
theorem ZiN {A:Around} {p q:Addr} {xs ys:List V} {ds es:List D} {b:Bool} {Q E:Value->Shared->Prop} (hu:A.units + 63 < cLine) (I:Inv X pins σ H s) (hr:HR X.K H α M) (hp:H p=some (.lst xs)) (hq:H q=some (.lst ys)) (r1:Reps X.K H α xs ds) (r2:Reps X.K H α ys es) (hc:Zaz ds es=true) (hl:ltL ds es=some b) (k:Q (.bool b) s):wpAny (model X.prog X.w) A (richCompare .Lt (.ref p) (.ref q)) Q E s:=by
 obtain ⟨its,v1,p1,_⟩:=I.list (SqL.of hp)
 obtain ⟨its2,v2,p2,_⟩:=I.list (SqL.of hq)
 obtain ⟨⟨cls,dd,data,sl⟩,ho,hcl,n,hd⟩:=id p1.isList
 obtain ⟨⟨cls2,dd2,data2,sl2⟩,ho2,hcl2,n2,hd2⟩:=id p2.isList
 simp only at hcl hd hcl2 hd2
 subst hcl hd hcl2 hd2
 let e:Nat->Bool:=fun j=>match ds[j]?,es[j]? with | some a,some c=>ltL.eqX a c | _,_=>false
 let f:Nat->Bool:=fun j=>match ds[j]?,es[j]? with | some a,some c=>(ltE a c).getD false | _,_=>false
 have both: ∀ j (h1:j < its.toArray.size) (h2:j < its2.toArray.size),∃ a c vx vy,ds[j]?=some a/\es[j]?=some c/\Rep X.K H α vx a/\Rep X.K H α vy c/\ZG vx its.toArray[j]/\ZG vy its2.toArray[j]:=by
  intro j h1 h2
  obtain ⟨vx,g1,g2⟩:=Zcx (j:=j) (u:=its.toArray[j]) v1 (by simp at h1;simp[h1])
  obtain ⟨vy,g3,g4⟩:=Zcx (j:=j) (u:=its2.toArray[j]) v2 (by simp at h2;simp[h2])
  obtain ⟨a,g5,g6⟩:=Zcy r1 g1
  obtain ⟨c,g7,g8⟩:=Zcy r2 g3
  exact ⟨a,c,vx,vy,g5,g7,g6,g8,g2,g4⟩
 have lx:lxI e f its.toArray.size its2.toArray.size (min its.toArray.size its2.toArray.size) 0=b:=by
  have l1:its.toArray.size=ds.length:=by rw[List.size_toArray,<- v1.length,r1.length]
  have l2:its2.toArray.size=es.length:=by rw[List.size_toArray,<- v2.length,r2.length]
  rw[l1,l2]
  refine ZfY hl e f 0 _ _ (fun j a c ha hb hs=> ?_) (by omega) (by omega)
  rw[Nat.zero_add]
  refine ⟨by show (match ds[j]?,es[j]? with | some a,some c=>ltL.eqX a c | _,_=>false)=_;rw[ha,hb],fun _=> ?_⟩
  show _=some (match ds[j]?,es[j]? with | some a,some c=>(ltE a c).getD false | _,_=>false)
  obtain ⟨b',hb'⟩:=Option.isSome_iff_exists.mp hs
  simp[ha,hb,hb']
 refine richCompare_meets_room (op:= .Lt) ⟨_,ho,rfl⟩ ⟨_,ho2,rfl⟩ F.slot_list_lt F.entry_list_lt (F.args_list_lt_2 _ _) (Zeu p q its.toArray its2.toArray n n2 dd dd2 sl sl2 e f)
  ⟨ho,ho2,fun j h1 h2=> ?_,fun j h1 h2 ej=> ?_,?_⟩ (by omega)
 ·obtain ⟨a,c,vx,vy,g1,g2,g3,g4,g5,g6⟩:=both j h1 h2
  have hs:=Za2 hc j a c g1 g2
  obtain ⟨b',hb'⟩:=Option.isSome_iff_exists.mp hs
  have ee:e j=ltL.eqX a c:=by show (match ds[j]?,es[j]? with | some a,some c=>ltL.eqX a c | _,_=>false)=_;rw[g1,g2]
  rw[ee]
  exact (eq3 I hr 12 a c vx vy _ _ _ _ (by rw[Around.in1_units];omega) (ZiL (n:=10) hb') g3 g4 g5 g6).1
 ·obtain ⟨a,c,vx,vy,g1,g2,g3,g4,g5,g6⟩:=both j h1 h2
  have hs:=Za2 hc j a c g1 g2
  obtain ⟨b',hb'⟩:=Option.isSome_iff_exists.mp hs
  have ff:f j=b':=by show (match ds[j]?,es[j]? with | some a,some c=>(ltE a c).getD false | _,_=>false)=_;rw[g1,g2];simp only;rw[hb'];rfl
  rw[ff]
  exact ZkW I (by rw[Around.in1_units];omega) hb' g3 g4 g5 g6
 ·rw[lx]
  show Value.bool b≠Value.notImplemented/\Q (.bool b) s
  exact ⟨(fun z=>nomatch z),k⟩
noncomputable def ZiO (X:Cx):List V->Hp->VK->Prop:=fun l H Q=> ∃ α M p q xs ys ds es b,HR X.K H α M/\l=[.ref q,.ref p]/\H p=some (.lst xs)/\H q=some (.lst ys)/\Reps X.K H α xs ds/\Reps X.K H α ys es/\Zaz ds es=true/\ltL ds es=some b/\Q (if b=true then .ref p else .ref q) H
theorem Zdq (hc:X.calm=true) (hu:X.A.units + 64 < cLine):Za9 X (.builtin "min") (ZiO X):=by
 intro pins s σ H xs us Q I r h
 obtain ⟨α,M,p,q,xs,ys,ds,es,b,hr,rfl,hp,hq,r1,r2,hcm,hl,k⟩:=h
 obtain ⟨u,w',rfl,ru,rw'⟩:=Zh6 r
 cases (show u=Value.ref q from ru)
 cases (show w'=Value.ref p from rw')
 refine Zdp (bt:=b) (I.ok.hd hc) (fun h' tk Q E kp hq'=>ZiN (by rw[Around.in1_units];omega) (I.kept kp) hr hp hq r1 r2 hcm hl hq') fun h' tk kp=>⟨if b=true then .ref p else .ref q,H,I.kept kp,?_,k⟩
 cases b<;>exact rfl
noncomputable def bMinL:List D->Sto->Out D:=fun l M=>match l with
 | [.ref n,.ref m]=>(match M[m]?,M[n]? with | some (.lst ds),some (.lst es)=>if Zaz ds es=true then (match ltL ds es with | some b=> .ok (if b=true then .ref m else .ref n) M | none=> .bad) else .bad | _,_=> .bad)
 |_=> .bad
theorem Zfp {ξ:XK}:CO X ξ (ZiO X) bMinL:=by
 intro H α M vs ds0 Q h rs q
 match rs with
 | .nil=>exact q.elim
 | .cons r .nil=>cases r<;>exact q.elim
 | .cons r (.cons r' (.cons _ _))=>cases r<;>cases r'<;>exact q.elim
 | .cons r (.cons r' .nil)=>
  cases r with
  | @ref p2 n hp2=>
   cases r' with
   | @ref p m hp=>
    simp only[bMinL] at q
    cases e1:M[m]? with
    |none=>simp only[e1] at q;exact q.elim
    |some so=>
     cases e2:M[n]? with
     |none=>cases so;simp only[e1,e2] at q;exact q.elim
     |some so2=>
      cases so with
      |lst ds=>
       cases so2 with
       |lst es=>
        simp only[e1,e2] at q
        by_cases hc:Zaz ds es=true
        ·rw[if_pos hc] at q
         cases hl:ltL ds es with
         |none=>simp only[hl] at q;exact q.elim
         |some b=>
          simp only[hl] at q
          obtain ⟨xs,g1,g2⟩:=h.at hp e1
          obtain ⟨ys,g3,g4⟩:=h.at hp2 e2
          refine ⟨α,M,p,p2,xs,ys,ds,es,b,h,rfl,g1,g3,g2,g4,hc,hl,q _ H α Ext.refl h ?_⟩
          cases b
          ·exact .ref hp2
          ·exact .ref hp
        ·rw[if_neg hc] at q
         exact q.elim
   |_=>exact q.elim
  |_=>cases r'<;>exact q.elim
end
end DL
end
section
namespace HT
open PySem PyProof.Rows
section
open PySem.SeqAt
open PySem.AutoSeq1 (wpAny_loadPart')
open PySem.MeetsSeq PySem.MeetsSeq2 PySem.MeetsSeq3
end
section
variable {prog:Program} {w:World} {A:Around} {E:Value->Shared->Prop} {s:Shared}
end
end HT
namespace DL
open PySem PySem.Spec PyProof.Rows L2
section
variable {X:Cx} {ξ:XK}
end
end DL
end
section
namespace DL
open PySem PySem.Spec PyProof.Rows L2
end DL
end
section
namespace DL
open PySem PySem.Spec PyProof.Rows L2
section
variable {X:Cx} {pins:List (Addr × Obj)} {σ:L2.St} {H:Hp} {s:Shared} {a b:Addr} {v:V} {r:Value} {A:Around} {E:Value->Shared->Prop}
end
section
variable {X:Cx} {ξ:XK} {tg iter kx vx:Expr} {ifs:List Expr} {scope:Scope} {cl:List (Str × Addr)} {N:List Str} {k:Nat} {fr:List Nat} {fi:Ro->Sto->Out Src} {gt:Tg} {c:Tv} {fk fv:Ev} {pos:Pos}
end
end DL
end
namespace DL
open PySem PySem.Spec L2
section
variable {X:Cx} {ξ:XK} {a b c:Expr} {fa fb fc:Ev} {pos:Pos}
end
end DL
section
namespace DL
open PySem PySem.Spec PyProof.Rows L2 PySem.W
noncomputable def Zdr:List Value->List Int->Bool
 | [],[]=>true
 | .int i _ :: r,j :: s=>i == j && Zdr r s
 |_,_=>false
noncomputable def Zds (K:PySem.W.Frag) (v:Value):Option (Addr × List Value):=match v with
 | .ref p=>(match K.lookup p with
  |some o=>if o.cls == .type "tuple" then (match o.data with | .seq its _=>if its.size<=1000 then some (p,its.toList) else none | _=>none) else none
  |none=>none)
 |_=>none
noncomputable def Zdt (K:PySem.W.Frag):List Value->List (List Int)->Bool
 | [],[]=>true
 |v :: r,js :: s=>(match Zds K v with | some (_,us)=>Zdr us js | none=>false) && Zdt K r s
 |_,_=>false
noncomputable def Zfq (K:PySem.W.Frag) (x:Str) (rows:List (List Int)):Bool:=match nsIn K mainGlobals x with
 |some (some v)=>(match Zds K v with | some (_,us)=>Zdt K us rows | none=>false)
 |_=>false
noncomputable def ZkX (rows:List (List Int)):D:= .con (rows.map fun r=> .con (r.map D.int))
section
variable {K:PySem.W.Frag} {H:Hp} {α:List Addr}
theorem ZcW: ∀ {us:List Value} {js:List Int},Zdr us js=true-> ∃ xs,Zu xs us/\Reps K H α xs (js.map D.int)
 | [],[],_=>⟨[],.nil,.nil⟩
 | .int i t :: r,j :: s,h=>by
  simp only[Zdr,Bool.and_eq_true,beq_iff_eq] at h
  obtain ⟨xs,h1,h2⟩:=ZcW h.2
  obtain ⟨rfl,-⟩:=h
  exact ⟨.int i :: xs,.cons ⟨t,rfl⟩ h1,.cons (.int i) h2⟩
 | [],_ :: _,h=>by simp[Zdr] at h
 | .int _ _ :: _,[],h=>by simp[Zdr] at h
theorem ZcX {v:Value} {p:Addr} {us:List Value} (h:Zds K v=some (p,us)):v= .ref p/\ ∃ (o:Obj) (its:Array Value) (n:Nat),K.lookup p=some o/\o.cls= .type "tuple"/\o.data= .seq its n/\its.size<=sizeLine/\its.toList=us:=by
 unfold Zds at h
 split at h
 ·rename_i p'
  split at h
  ·rename_i o ho
   split at h
   ·rename_i hc
    split at h
    ·rename_i its n hd
     split at h
     ·rename_i hz
      cases h
      exact ⟨rfl,o,its,n,ho,by simpa using hc,hd,Nat.le_trans hz (by decide),rfl⟩
     ·cases h
    ·cases h
   ·cases h
  ·cases h
 ·cases h
theorem ZcY: ∀ {us:List Value} {rows:List (List Int)},Zdt K us rows=true-> ∃ xs,Zu xs us/\Reps K H α xs (rows.map fun r=>D.con (r.map D.int))
 | [],[],_=>⟨[],.nil,.nil⟩
 |v :: r,js :: s,h=>by
  simp only[Zdt,Bool.and_eq_true] at h
  obtain ⟨h1,h2⟩:=h
  obtain ⟨xs,k1,k2⟩:=ZcY h2
  cases e:Zds K v with
  |none=>rw[e] at h1;cases h1
  |some q=>
   obtain ⟨p,us⟩:=q
   rw[e] at h1
   obtain ⟨rfl,o,its,n,a1,a2,a3,a4,a5⟩:=ZcX e
   obtain ⟨ys,b1,b2⟩:=ZcW (K:=K) (H:=H) (α:=α) h1
   exact ⟨.ref p :: xs,.cons rfl k1,.cons (.con ⟨o,its,n,a1,a2,a3,a4,by rw[a5];exact b1⟩ b2) k2⟩
 | [],_ :: _,h=>by simp[Zdt] at h
 |_ :: _,[],h=>by simp[Zdt] at h
end
section
variable {X:Cx} {ξ:XK} {pos:Pos}
theorem ZiP {x:Str} {rows:List (List Int)} (hx:Zfq X.K x rows=true) (gl: ∀ c v,nsIn X.K mainGlobals c=some (some v)->X.mg c=some v) (hg:Gl X x:=by rfl) (hdb:(x == ("__debug__":Str))=false:=by decide):DE X ξ (.Name x pos) (eC (ZkX rows)):=by
 unfold Zfq at hx
 split at hx
 ·rename_i v hv
  cases e:Zds X.K v with
  |none=>rw[e] at hx;cases hx
  |some q=>
   obtain ⟨p,us⟩:=q
   rw[e] at hx
   obtain ⟨rfl,o,its,n,a1,a2,a3,a4,a5⟩:=ZcX e
   refine ⟨_,Zgi (v:= .ref p) hg (gl x _ hv) rfl hdb,fun σ ρ H α M Q s h q=> ?_⟩
   obtain ⟨ys,b1,b2⟩:=ZcY (K:=X.K) (H:=H) (α:=α) hx
   exact q _ H α Ext.refl h (.con ⟨o,its,n,a1,a2,a3,a4,by rw[a5];exact b1⟩ b2)
 ·cases hx
theorem Zb7 {k:Nat} {F:List D->Sto->Out D} {x:Str} {p:Pos} (C:Cal X.prog X.w X.K X.mg X.base x k 0 F) (T:Thr X ξ) (hr:Room k X.A) (hg:Gl X x:=by rfl) (hdb:(x == ("__debug__":Str))=false:=by decide):DE X ξ (.Call (.Name x p) [] [] pos) (Zl F aNil):=by
 obtain ⟨f,fd,ps,G,hm,hk,_,hb⟩:=C
 refine ⟨_,ZeV G hr hg hm hk hb .nil T.ps hdb,fun σ ρ H α M Q s hh q=> ?_⟩
 exact ⟨[],α,M,.nil,hh,q⟩
variable {o e:Expr} {fo fa:Ev} {apos cpos:Pos}
theorem Reps.erase {K:PySem.W.Frag} {H:Hp} {α:List Addr}: ∀ {vs:List V} {ds:List D} (i:Nat),Reps K H α vs ds->Reps K H α (vs.eraseIdx i) (ds.eraseIdx i)
 |_,_,_,.nil=> .nil
 |_,_,0,.cons _ t=>t
 |_,_,i + 1,.cons r t=> .cons r (Reps.erase i t)
noncomputable def mPop:Me:=fun x ds M=>match x,ds with
 | .ref n,[.int i]=>(match M[n]? with | some (.lst xs)=>(match xs[i.toNat]? with | some d=>if 0<=i/\i < 1000000000 then .ok d (M.set n (.lst (xs.eraseIdx i.toNat))) else .bad | none=> .bad) | none=> .bad)
 |_,_=> .bad
theorem ZiQ:MO X ξ rPopAt mPop:=by
 intro H α M v vs x ds Q h rx rs q
 cases rx with
 | @ref p n hp=>
  match rs with
  | .nil=>exact q.elim
  | .cons ru (.cons _ _)=>cases ru<;>exact q.elim
  | .cons ru .nil=>
   cases ru with
   |int i=>
    cases em:M[n]? with
    |none=>simp only[mPop,em] at q;exact q.elim
    |some so=>
     cases so with
     |lst es=>
      obtain ⟨xs,g1,g2⟩:=h.at hp em
      cases ed:es[i.toNat]? with
      |none=>simp only[mPop,em,ed] at q;exact q.elim
      |some d=>
       by_cases c:0<=i/\i < 1000000000
       ·simp only[mPop,em,ed,if_pos c] at q
        obtain ⟨y,y1,y2⟩:=g2.get ed
        have il:i.toNat < xs.length:=(List.getElem?_eq_some_iff.mp y1).1
        obtain ⟨k1,k2⟩:=h.wrE hp g1 (g2.erase i.toNat)
        refine ⟨p,xs,i,i.toNat,y,rfl,rfl,g1,by omega,by omega,?_,y1,q _ _ α k1 k2 (Rep.mono k1 y2)⟩
        unfold seqIndex?
        simp
        omega
       ·simp only[mPop,em,ed,if_neg c] at q
        exact q.elim
   |_=>exact q.elim
 |_=>cases rs with
  |nil=>exact q.elim
  |cons ru rt=>cases ru<;>cases rt<;>exact q.elim
theorem ZiR (ho:DE X ξ o fo) (ha:DE X ξ e fa) (hbase:attributeBase o "pop" X.env (eval o X.env)=eval o X.env:=by rfl)
  (hfew:((backTo cpos (starEach [e] X.env)).all (fun x=> !x.1) && (backToKw cpos (keywordEach [] X.env)).all (fun x=>x.1.isSome)
   && decide ([e].length + ([]:List Keyword).length + (if ([]:List Keyword).isEmpty then 0 else 1) < 30))=true:=by rfl)
  (hline:(apos.endLine == cpos.line)=true:=by rfl) (hs:starEach [e] X.env=(false,eval e X.env) :: starEach [] X.env:=by rfl) (hplain:(backTo cpos (starEach [] X.env)).any (·.1)=false:=by rfl):
  DE X ξ (.Call (.Attribute o "pop" apos) [e] [] cpos) (Zej mPop fo (Zd fa aNil)):=ZgV PySem.F.slot_list_pop PySem.F.type_list_pop Ze1 ZiQ ho (Za ha Zf hs) hbase hfew hline hs hplain
end
end DL
end
section
namespace DL
open PySem PySem.Spec PyProof.Rows L2
noncomputable def Bag (n:Nat) (M:Sto):Prop:= ∃ a b:Int,0<=a/\M[n]?=some (.lst [.int a,.int b])
structure Gr (n:Nat) (M M':Sto):Prop where
 len:M.length<=M'.length
 bag:Bag n M'
 keep: ∀ k,k≠n->k < M.length->M'[k]?=M[k]?
theorem Zev {i j:Int} (h1: -(2 ^ 64) < j) (h2:j < 2 ^ 64):ZD i j:= .inr (.inl (intBits_le_64 h1 h2))
theorem Zew {i j:Int} (h1: -(2 ^ 64) < i) (h2:i < 2 ^ 64):ZD i j:= .inl (intBits_le_64 h1 h2)
theorem at0 {x:D} {r:List D}:atI (x :: r) 0=some x:=by
 show (ixN (r.length + 1) 0).bind _=_
 unfold ixN
 rw[if_pos (by decide),if_pos (by omega)]
 rfl
theorem at1 {x y:D} {r:List D}:atI (x :: y :: r) 1=some y:=by
 show (ixN (r.length + 2) 1).bind _=_
 unfold ixN
 rw[if_pos (by decide),if_pos (by omega)]
 rfl
theorem Zfr {ns:List Int} {k:Nat} (h:k < ns.length):atI (ns.map D.int) (k:Int)=some (.int ns[k]):=Zcp (by rw[List.getElem?_map,List.getElem?_eq_getElem h];rfl)
theorem Zg0 (a:Int):(if a < 0 then -a else a)=(a.natAbs:Int):=by split<;>omega
end DL
end
section
end
section
namespace HD
open PySem PySem.W PyProof.Rows
noncomputable def Zku (thr:Thread->Bool) (stp:SharedT->Thread->Option (SharedT × Thread)) (n:Nat):SharedT->Thread->Option SharedT:=
 Nat.rec (motive:=fun _=>SharedT->Thread->Option SharedT) (fun _ _=>none) (fun _ ih s t=>Bool.rec (motive:=fun _=>Option SharedT) (Option.rec (motive:=fun _=>Option SharedT) none (fun r=>ih r.1 r.2) (stp s t)) (some s) (thr t)) n
noncomputable def Zfs (ok:Thread->Bool) (stp:SharedT->Thread->Option (SharedT × Thread)) (s:SharedT) (t:Thread):Option (SharedT × Thread):=Bool.rec (motive:=fun _=>Option (SharedT × Thread)) none (stp s t) (ok t)
section
variable {tb:String->Option Builtin} {p:Program} {w:World} {n₀:Nat} {ann:Option Value}
theorem Zf0: ∀ {n:Nat} {s s':SharedT} {t:Thread},Zku through (Zfs (stepOk n₀ ann) (stepT (denote tb) p w)) n s t=some s'->topRun tb p w n₀ ann n s.abs t=some s'.abs
 |0,s,s',t,h=>by cases h
 |n + 1,s,s',t,h=>by
  unfold topRun
  change Bool.rec (motive:=fun _=>Option SharedT) (Option.rec (motive:=fun _=>Option SharedT) none (fun r=>Zku through (Zfs (stepOk n₀ ann) (stepT (denote tb) p w)) n r.1 r.2) (Zfs (stepOk n₀ ann) (stepT (denote tb) p w) s t)) (some s) (through t)=some s' at h
  cases ht:through t with
  |true=>
   rw[ht] at h
   have h':some s=some s':=h
   cases h'
   rfl
  |false=>
   rw[ht] at h
   cases hk:stepOk n₀ ann t with
   |false=>
    have e:Zfs (stepOk n₀ ann) (stepT (denote tb) p w) s t=none:=by unfold Zfs;rw[hk]
    rw[e] at h
    cases h
   |true=>
    have e:Zfs (stepOk n₀ ann) (stepT (denote tb) p w) s t=stepT (denote tb) p w s t:=by unfold Zfs;rw[hk]
    rw[e] at h
    cases hs:stepT (denote tb) p w s t with
    |none=>rw[hs] at h;cases h
    |some r=>
     obtain ⟨s2,t2⟩:=r
     rw[hs] at h
     have:=stepT_spec hs
     rw[this]
     exact Zf0 (n:=n) h
end
noncomputable def T0 (w:World) (os:OsState):SharedT:=
 ⟨[boot_o_0,boot_o_1,boot_o_2,boot_o_3,boot_o_4,boot_o_5,boot_o_6,boot_o_7,boot_o_8,boot_o_9,boot_o_10].foldl (fun (r:Nat × BT) o=>(r.1 + 1,r.2.ins r.1 (o w.params))) (0,.nil) |>.2,11,(boot_heap w.params).life,#[],boot_drawn,boot_toks,os⟩
theorem ZiS (w:World) (os:OsState):(T0 w os).abs=⟨boot_heap w.params,#[],boot_drawn,boot_toks,os⟩:=by kernel_rfl
theorem Zg1:Str.ofString "__annotations__"=⟨#[95,95,97,110,110,111,116,97,116,105,111,110,115,95,95]⟩:=by decide +kernel
theorem Zex {p q:Program} {loose:List Str} {Xt:Shared->Bool} {α:Type} {Yf:Shared->α} {Ya:World->α} {N M:Nat} (e:opening p=plainProg p.main.scope.names) (hN:Nat.ble 600 N=true) (f: ∀ s,fenceModules? p s=some s) (le:Nat.ble M N=true)
  (ZkY: ∀ (w:World) (os:OsState),(Zku through (Zfs (stepOk 11 (some (.ref 6))) (stepT (denote treeTable) p w)) M (T0 w os) (topStub p)).map (fun s=>((staticsOk (importedModules p.main.body) (boot_heap w.params) s.abs.heap && namesBound p s.abs.heap && gensDone s.abs && laidKept (boot_heap w.params) s.abs.heap),
    openSeen q loose (importedModules p.main.body) Xt true s.abs,Yf s.abs))=some (true,openGood q loose,Ya w)):LeftO p q loose Xt Yf Ya N:=fun w=>by
 obtain ⟨⟨h,gs,d,k,os⟩,e1,e2⟩:=Option.map_eq_some_iff.mp (boot_open e hN f w)
 obtain ⟨rfl,rfl,rfl,rfl⟩:h=boot_heap w.params/\gs=Array.mk []/\d=boot_drawn/\k=boot_toks:=by simpa using e2
 obtain ⟨s',r1,r2⟩:=Option.map_eq_some_iff.mp (ZkY w os)
 obtain ⟨l1,l2,l3⟩:_/\_/\_:=by simpa only[Prod.mk.injEq] using r2
 have r:=Zf0 r1
 rw[ZiS] at r
 have r:=topRun_mono (N - M) _ _ _ _ r
 rw[show M + (N - M)=N by have:=Nat.le_of_ble_eq_true le;omega] at r
 have z1:((boot_heap w.params).isNs mainGlobals && (Array.mk []:Array GenState).size == 0)=true:=by kernel_rfl
 have z2:(boot_heap w.params).objs.size=11:=rfl
 have z3:(boot_heap w.params).nsMap mainGlobals "__annotations__"=some (.ref 6):=by
  rw[Zg1]
  kernel_rfl
 have t:topFrom treeTable p w N ⟨boot_heap w.params,Array.mk [],boot_drawn,boot_toks,os⟩=some s'.abs:=by
  unfold topFrom
  dsimp only
  rw[z1,z2,z3,r]
  show (match staticsOk (importedModules p.main.body) (boot_heap w.params) s'.abs.heap && namesBound p s'.abs.heap && gensDone s'.abs && laidKept (boot_heap w.params) s'.abs.heap with | true=>_ | false=>_)=_
  rw[l1]
 unfold openEnds
 rw[e1]
 show (topFrom treeTable p w N _).map _=_
 rw[t]
 exact congrArg some (Prod.ext l2 l3)
end HD
namespace HD
open PySem PySem.W
theorem ZkZ: @stepOk= @PySem.W.Fast.tw6613529449190102663:=PySem.W.Fast.te6613529449190102663
theorem Zg2: @stepT= @PySem.W.Fast.tw10156331382660048174:=PySem.W.Fast.te10156331382660048174
theorem ZiT: @denote= @PySem.W.Fast.tw11892475500146522536:=PySem.W.Fast.te11892475500146522536
theorem ZiU: @treeTable= @PySem.W.Fast.tw14364793385576792824:=PySem.W.Fast.te14364793385576792824
theorem Zg3: @openSeen= @PySem.W.Fast.tw4187177175401517315:=PySem.W.Fast.te4187177175401517315
theorem ZiV: @importedModules= @PySem.W.Fast.tw5923862056798008813:=PySem.W.Fast.te5923862056798008813
end HD
end
section
namespace DL
open PySem PySem.Spec PyProof.Rows L2
noncomputable def wO {β:Type} (o:Out β) (Q:β->Sto->Prop) (E:Str->Sto->Prop):Prop:=match o with
 | .ok a M=>Q a M
 | .exc c M=>E c M
 | .bad=>False
noncomputable def wS (f:Fl) (N:Ro->Sto->Prop) (R:D->Sto->Prop) (B C:Ro->Sto->Prop) (E:Str->Sto->Prop):Prop:=match f with
 | .nx ρ M=>N ρ M
 | .ret d M=>R d M
 | .brk ρ M=>B ρ M
 | .cnt ρ M=>C ρ M
 | .exc c M=>E c M
 | .bad=>False
noncomputable def Br (k:Bool) (A B:Prop):Prop:=(k=true->A)/\(k=false->B)
noncomputable def wG {β:Type} (o:Option β) (N:β->Prop):Prop:=match o with | some ρ=>N ρ | none=>False
noncomputable def wV (o:Option (Option D)) (Q:D->Prop):Prop:=match o with | some (some d)=>Q d | _=>False
noncomputable def wI (x:D) (Q:Int->Prop):Prop:=match x with | .int i=>Q i | _=>False
noncomputable def wB (x:D) (Q:Bool->Prop):Prop:=match x with | .bl i=>Q i | _=>False
noncomputable def wR (x:D) (Q:Nat->Prop):Prop:=match x with | .ref i=>Q i | _=>False
noncomputable def w1 (x:List D) (Q:D->Prop):Prop:=match x with | [v]=>Q v | _=>False
noncomputable def w2 (x:List D) (Q:D->D->Prop):Prop:=match x with | [v,w]=>Q v w | _=>False
noncomputable def wL (o:Option SO) (Q:List D->Prop):Prop:=match o with | some (.lst xs)=>Q xs | none=>False
section
variable {β:Type} {o o':Option (Option D)} {x x':D} {Q:D->Prop} {QI:Int->Prop} {QB:Bool->Prop} {QR:Nat->Prop} {QL:List D->Prop} {l l':Option SO} {d:D} {i:Int} {k:Bool} {n:Nat} {xs:List D} {g g':Option β} {QG:β->Prop} {y:β}
theorem ZnR:w1 [d] Q=Q d:=rfl
theorem ZnS {Q2:D->D->Prop}:w2 [d,x] Q2=Q2 d x:=rfl
theorem ZnT:wV (some (some d)) Q=Q d:=rfl
theorem ZnU:wI (.int i) QI=QI i:=rfl
theorem ZnV:wB (.bl k) QB=QB k:=rfl
theorem ZnW:wR (.ref n) QR=QR n:=rfl
theorem ZnX:wL (some (.lst xs)) QL=QL xs:=rfl
theorem ZnY:wG (some y) QG=QG y:=rfl
end
section
variable {β:Type} {Q:β->Sto->Prop} {E:Str->Sto->Prop} {N B C:Ro->Sto->Prop} {R:D->Sto->Prop} {ρ:Ro} {M:Sto} {A A':Prop}
theorem Zr {d:β}:wO (.ok d M) Q E=Q d M:=rfl
theorem ZiW {c:Str}:wO (.exc c M:Out β) Q E=E c M:=rfl
theorem ZiX:Br true A A'=A:=by simp[Br]
theorem ZnZ:Br false A A'=A':=by simp[Br]
theorem Zcz {o:Out β} {Q':β->Sto->Prop} {E':Str->Sto->Prop} (h:wO o Q E) (hq: ∀ d M,Q d M->Q' d M) (he: ∀ c M,E c M->E' c M):wO o Q' E':=by
 cases o with
 |ok d M=>exact hq d M h
 |exc c M=>exact he c M h
 |bad=>exact h
theorem ZiY {o:Out β} (h:wO o Q (fun _ _=>False)): ∃ d M',o= .ok d M'/\Q d M':=by
 cases o with
 |ok d M=>exact ⟨d,M,rfl,h⟩
 |exc c M=>exact h.elim
 |bad=>exact h.elim
theorem Zj {γ:Type} {o:Out γ} {f:γ->Sto->Out β}:wO (o.bind f) Q E=wO o (fun x M1=>wO (f x M1) Q E) E:=by cases o<;>rfl
end
section
variable {Q:D->Sto->Prop} {E:Str->Sto->Prop} {N B C:Ro->Sto->Prop} {R:D->Sto->Prop} {ρ:Ro} {M:Sto} {e f g:Ev} {fs:Av}
theorem Zk0 {op:Bo}:wO (e2 op f g ρ M) Q E=wO (f ρ M) (fun x M1=>wO (g ρ M1) (fun y M2=>wO (op x y M2) Q E) E) E:=by
 unfold e2
 rw[Zj]
 congr 1
 funext x M1
 rw[Zj]
theorem Zn0 {i:Nat}:wO (Zg i ρ M) Q E=wV ρ[i]? (fun d=>Q d M):=by
 unfold Zg
 cases ρ[i]? with
 |none=>rfl
 |some o=>cases o<;>rfl
theorem Zg4 {F:List D->Sto->Out D}:wO (Zl F fs ρ M) Q E=wO (fs ρ M) (fun ds M1=>wO (F ds M1) Q E) E:=Zj
theorem Zg5 {Q:List D->Sto->Prop}:wO (Zd f fs ρ M) Q E=wO (f ρ M) (fun x M1=>wO (fs ρ M1) (fun xs M2=>Q (x :: xs) M2) E) E:=by
 unfold Zd
 rw[Zj]
 congr 1
 funext x M1
 rw[Zj]
 congr 1
theorem ZiZ:wO (Zcm fs ρ M) Q E=wO (fs ρ M) (fun xs M1=>xs.length<=1000/\Q (.tup xs) M1) E:=by
 unfold Zcm
 rw[Zj]
 congr 1
 funext x M1
 by_cases h:x.length<=1000
 ·rw[if_pos h];simp[h,wO]
 ·rw[if_neg h];simp[h,wO]
theorem Zi0:wO (Ze6 fs ρ M) Q E=wO (fs ρ M) (fun xs M1=>xs.length<=1000/\Q (.ref M1.length) (M1 ++ [.lst xs])) E:=by
 unfold Ze6
 rw[Zj]
 congr 1
 funext x M1
 by_cases h:x.length<=1000
 ·rw[if_pos h];simp[h,wO]
 ·rw[if_neg h];simp[h,wO]
variable {t u:Tv}
theorem Zi1 {Q:Bool->Sto->Prop}:wO (Zax t ρ M) Q E=wO (t ρ M) (fun k M1=>Q (!k) M1) E:=by
 unfold Zax
 rw[Zj]
 congr 1
variable {a b:Sv}
theorem Zi2:wS (Z3 a b ρ M) N R B C E=wS (a ρ M) (fun ρ1 M1=>wS (b ρ1 M1) N R B C E) R B C E:=by
 unfold Z3
 cases a ρ M<;>rfl
theorem ZK {β:Type} {o:Out β} {k:β->Sto->Fl}:wS (Zaq o k) N R B C E=wO o (fun x M1=>wS (k x M1) N R B C E) E:=by cases o<;>rfl
theorem Zi3:wS (Zae f ρ M) N R B C E=wO (f ρ M) R E:=ZK
theorem Zg6:wS (Zct f ρ M) N R B C E=wO (f ρ M) (fun _ M1=>N ρ M1) E:=ZK
theorem Zi4 {i:Nat}:wS (ZaI (gNm i) f ρ M) N R B C E=wO (f ρ M) (fun d M1=>N (ρ.set i (some d)) M1) E:=ZK
theorem Zg7 {gs:Tgs}:wS (ZaI (gTp gs) f ρ M) N R B C E=wO (f ρ M) (fun d M1=>wG (gTp gs d ρ) (fun r=>N r M1)) E:=by
 unfold ZaI
 rw[ZK]
 congr 1
 funext d M1
 cases gTp gs d ρ<;>rfl
theorem Zi5 {i j:Nat}:wS (ZhG i j fs ρ M) N R B C E=wO (fs ρ M) (fun ds M1=>w2 ds fun v w=>N ((ρ.set i (some v)).set j (some w)) M1) E:=by
 unfold ZhG
 rw[ZK]
 congr 1
 funext ds M1
 rcases ds with _ | ⟨v,_ | ⟨w,_ | ⟨z,r⟩⟩⟩<;>rfl
theorem Zi6 {fo fi:Ev}:wS (ZkQ fo fi f ρ M) N R B C E=wO (f ρ M) (fun d M1=>wO (fo ρ M1) (fun o M2=>wO (fi ρ M2) (fun i M3=>wR o fun n=>wI i fun k=>wL M3[n]? fun xs=>wG (ixN xs.length k) fun j=>N ρ (M3.set n (.lst (xs.set j d)))) E) E) E:=by
 unfold ZkQ
 rw[ZK]
 congr 1
 funext d M1
 rw[ZK]
 congr 1
 funext o M2
 rw[ZK]
 congr 1
 funext i M3
 cases o<;>cases i<;>try rfl
 rename_i n k
 cases e:M3[n]? with
 |none=>simp only[e,wR,wI,wL,wS]
 |some s=>
  cases s with
  |lst xs=>
   cases e2:ixN xs.length k<;>simp only[e,e2,wR,wI,wL,wG,wS]
theorem Zft {c:Str}:wS (Zb3 c fs ρ M) N R B C E=wO (fs ρ M) (fun ds M1=>ds.length<=1000/\E c M1) E:=by
 unfold Zb3
 rw[ZK]
 congr 1
 funext ds M1
 by_cases h:ds.length<=1000
 ·rw[if_pos h];simp[h,wS]
 ·rw[if_neg h];simp[h,wS]
theorem wF {n k:Nat} {ds:List D} (hl:ds.length=n):wO (fnF a n k ds M) Q E=wS (a (ds.map some ++ List.replicate k none) M) (fun _ M1=>Q .non M1) Q (fun _ _=>False) (fun _ _=>False) E:=by
 unfold fnF
 rw[if_pos hl]
 cases a (ds.map some ++ List.replicate k none) M<;>rfl
variable {tg:Tg} {bd:Sv} {fi:Ro->Sto->Out Src}
theorem ZbB (I:Nat->Ro->Sto->Prop): ∀ (xs:List D) (k:Nat) (ρ:Ro) (M:Sto),I k ρ M->(∀ i ρ M (h:i < xs.length),I (k + i) ρ M->wG (tg xs[i] ρ) fun r=>wS (bd r M) (I (k + i + 1)) R N (I (k + i + 1)) E)->(∀ ρ M,I (k + xs.length) ρ M->N ρ M)->wS (Zal tg bd xs ρ M) N R B C E
 | [],k,ρ,M,h,_,hn=>hn ρ M h
 |x :: xs,k,ρ,M,h,st,hn=>by
  have s:=st 0 ρ M (by simp) h
  unfold Zal
  simp only[List.getElem_cons_zero,Nat.add_zero] at s
  cases e:tg x ρ with
  |none=>rw[e] at s;exact s.elim
  |some ρ1=>
   rw[e] at s
   simp only[wG] at s
   have rc: ∀ ρ2 M2,I (k + 1) ρ2 M2->wS (Zal tg bd xs ρ2 M2) N R B C E:=fun ρ2 M2 h2=>ZbB I xs (k + 1) ρ2 M2 h2 (fun i ρ M hi hI=>by
    have z:=st (i + 1) ρ M (by simp;omega) (by rw[show k + (i + 1)=k + 1 + i by omega];exact hI)
    simp only[List.getElem_cons_succ] at z
    rw[show k + (i + 1) + 1=k + 1 + i + 1 by omega] at z
    exact z) (fun ρ M hI=>hn ρ M (by rw[show k + (x :: xs).length=k + 1 + xs.length by simp;omega];exact hI))
   cases eg:bd ρ1 M<;>rw[eg] at s<;>simp only[eg]
   ·exact rc _ _ s
   ·exact s
   ·exact s
   ·exact rc _ _ s
   ·exact s
   ·exact s
theorem Zg8:wS (Zbk tg fs bd ρ M) N R B C E=wO (fs ρ M) (fun ds M1=>w1 ds fun d=>wI d fun j=>(-(2 ^ 62)<=j/\j < 2 ^ 62)/\wS (Zal tg bd (Z8 0 j.toNat) ρ M1) N R B C E) E:=by
 unfold Zbk
 rw[ZK]
 congr 1
 funext ds M1
 rcases ds with _ | ⟨v,_ | ⟨w,r⟩⟩
 ·rfl
 ·cases v<;>try rfl
  rename_i j
  by_cases h: -(2 ^ 62)<=j/\j < 2 ^ 62
  ·simp only[w1,wI,eq_true h,true_and,if_true]
  ·simp only[w1,wI,eq_false h,false_and,if_false]
   rfl
 ·cases v<;>rfl
theorem Zey (I:Nat->Ro->Sto->Prop) {n:Nat} {lo:Int} (h0:I 0 ρ M) (st: ∀ i ρ M,i < n->I i ρ M->wG (tg (.int (lo + i)) ρ) fun r=>wS (bd r M) (I (i + 1)) R N (I (i + 1)) E) (hn: ∀ ρ M,I n ρ M->N ρ M):wS (Zal tg bd (Z8 lo n) ρ M) N R B C E:=by
 have hl:(Z8 lo n).length=n:=by simp[Z8]
 refine ZbB I _ 0 ρ M h0 (fun i ρ M h hI=> ?_) (fun ρ M hI=>hn ρ M (by rw[hl,Nat.zero_add] at hI;exact hI))
 have:(Z8 lo n)[i]= .int (lo + i):=by simp[Z8]
 rw[this]
 rw[Nat.zero_add] at *
 exact st i ρ M (by rw[hl] at h;exact h) hI
theorem Zi7:wS (Zee tg f bd ρ M) N R B C E=wO (f ρ M) (fun d M1=>wS (ZfT tg bd d ρ M1) N R B C E) E:=ZK
theorem Zg9 (I:Nat->Ro->Sto->Prop) {n:Nat} {xs:List D}: ∀ (f i:Nat) (ρ:Ro) (M:Sto),i + f=xs.length->I i ρ M->(∀ i ρ M,I i ρ M->M[n]?=some (.lst xs))->(∀ i ρ M (h:i < xs.length),I i ρ M->wG (tg xs[i] ρ) fun r=>wS (bd r M) (I (i + 1)) R N (I (i + 1)) E)->(∀ ρ M,I xs.length ρ M->N ρ M)->wS (ZdC tg bd n f i ρ M) N R B C E:=by
  intro f
  induction f with
  |zero=>
   intro i ρ M e h hm st hn
   have hx:=hm _ _ _ h
   unfold ZdC
   rw[hx]
   have:xs[i]?=none:=List.getElem?_eq_none (by omega)
   simp only[this]
   exact hn ρ M (by rw[show xs.length=i by omega];exact h)
  |succ f ih=>
   intro i ρ M e h hm st hn
   have hx:=hm _ _ _ h
   unfold ZdC
   rw[hx]
   have hi:i < xs.length:=by omega
   have:xs[i]?=some xs[i]:=List.getElem?_eq_getElem hi
   simp only[this]
   have s:=st i ρ M hi h
   cases e:tg xs[i] ρ with
   |none=>rw[e] at s;exact s.elim
   |some ρ1=>
    rw[e] at s
    simp only[wG] at s
    have rc: ∀ ρ2 M2,I (i + 1) ρ2 M2->wS (ZdC tg bd n f (i + 1) ρ2 M2) N R B C E:=fun ρ2 M2 h2=>ih (i + 1) ρ2 M2 (by omega) h2 hm st hn
    cases eg:bd ρ1 M<;>rw[eg] at s<;>simp only[eg]
    ·exact rc _ _ s
    ·exact s
    ·exact s
    ·exact rc _ _ s
    ·exact s
    ·exact s
theorem ZcA (I:Nat->Ro->Sto->Prop) {n:Nat} {xs:List D} (hM:M[n]?=some (.lst xs)) (h0:I 0 ρ M) (hm: ∀ i ρ M,I i ρ M->M[n]?=some (.lst xs)) (st: ∀ i ρ M (h:i < xs.length),I i ρ M->wG (tg xs[i] ρ) fun r=>wS (bd r M) (I (i + 1)) R N (I (i + 1)) E) (hn: ∀ ρ M,I xs.length ρ M->N ρ M):wS (ZfT tg bd (.ref n) ρ M) N R B C E:=by
 show wS (match M[n]? with | some (.lst xs)=>ZdC tg bd n xs.length 0 ρ M | none=> .bad) N R B C E
 rw[hM]
 exact Zg9 I xs.length 0 ρ M (by omega) h0 hm st hn
theorem Zha:wS (ZiE tg fi bd ρ M) N R B C E=wO (fi ρ M) (fun src M1=>wS (Zfl tg bd src (cnt src M1) 0 ρ M1) N R B C E) E:=ZK
theorem ZmF (I:Nat->Ro->Sto->Prop) {src:Src} {xs:List D}: ∀ (f i:Nat) (ρ:Ro) (M:Sto),i<=xs.length->xs.length<=i + f->I i ρ M->(∀ i ρ M,i<=xs.length->I i ρ M->nxt src i M=some xs[i]?)->(∀ i ρ M (h:i < xs.length),I i ρ M->wG (tg xs[i] ρ) fun r=>wS (bd r M) (I (i + 1)) R N (I (i + 1)) E)->(∀ ρ M,I xs.length ρ M->N ρ M)->wS (Zfl tg bd src f i ρ M) N R B C E:=by
  intro f
  induction f with
  |zero=>
   intro i ρ M le e h hm st hn
   have hx:=hm _ _ _ le h
   unfold Zfl
   rw[hx]
   have hi: ¬ i < xs.length:=by omega
   have:xs[i]?=none:=List.getElem?_eq_none (by omega)
   simp only[this]
   exact hn ρ M (by rw[show xs.length=i by omega];exact h)
  |succ f ih=>
   intro i ρ M le e h hm st hn
   have hx:=hm _ _ _ le h
   unfold Zfl
   rw[hx]
   by_cases hi:i < xs.length
   ·have:xs[i]?=some xs[i]:=List.getElem?_eq_getElem hi
    simp only[this]
    have s:=st i ρ M hi h
    cases e:tg xs[i] ρ with
    |none=>rw[e] at s;exact s.elim
    |some ρ1=>
     rw[e] at s
     simp only[wG] at s
     have rc: ∀ ρ2 M2,I (i + 1) ρ2 M2->wS (Zfl tg bd src f (i + 1) ρ2 M2) N R B C E:=fun ρ2 M2 h2=>ih (i + 1) ρ2 M2 (by omega) (by omega) h2 hm st hn
     cases eg:bd ρ1 M<;>rw[eg] at s<;>simp only[eg]
     ·exact rc _ _ s
     ·exact s
     ·exact s
     ·exact rc _ _ s
     ·exact s
     ·exact s
   ·have:xs[i]?=none:=List.getElem?_eq_none (by omega)
    simp only[this]
    exact hn ρ M (by rw[show xs.length=i by omega];exact h)
theorem Zhb {fi:Ro->Sto->Out Src} {k:Nat} {fr:List Nat} {c:Tv}:wO (ZaZ fi k fr tg c f ρ M) Q E=wO (fi ρ M) (fun src M1=>wO (Zb1 src tg c f M1.length (cnt src M1) 0 (roB k fr ρ) (M1 ++ [.lst []])) (fun _ M2=>Q (.ref M1.length) M2) (fun _ _=>False)) E:=by
 unfold ZaZ
 rw[Zj]
 congr 1
 funext src M1
 cases Zb1 src tg c f M1.length (cnt src M1) 0 (roB k fr ρ) (M1 ++ [.lst []])<;>rfl
theorem ZcZ (I:Nat->Ro->Sto->Prop) {src:Src} {xs:List D} {c:Tv} {m:Nat} {Q:Sto->Prop}: ∀ (fu i:Nat) (ρ:Ro) (M:Sto),i<=xs.length->xs.length<=i + fu->I i ρ M->(∀ i ρ M,i<=xs.length->I i ρ M->nxt src i M=some xs[i]?)->
  (∀ i ρ M (h:i < xs.length),I i ρ M->wG (tg xs[i] ρ) fun r=>wO (c r M) (fun k M1=>Br k (wO (f r M1) (fun y M2=>wL M2[m]? fun ys=>ys.length < 10000000/\I (i + 1) r (M2.set m (.lst (ys ++ [y])))) (fun _ _=>False)) (I (i + 1) r M1)) (fun _ _=>False))->
  (∀ ρ M,I xs.length ρ M->Q M)->wO (Zb1 src tg c f m fu i ρ M) (fun _ M2=>Q M2) (fun _ _=>False):=by
  intro fu
  induction fu with
  |zero=>
   intro i ρ M le e h hm st hn
   have hx:=hm _ _ _ le h
   unfold Zb1
   rw[hx]
   have hi: ¬ i < xs.length:=by omega
   have:xs[i]?=none:=List.getElem?_eq_none (by omega)
   simp only[this]
   exact hn ρ M (by rw[show xs.length=i by omega];exact h)
  |succ fu ih=>
   intro i ρ M le e h hm st hn
   have hx:=hm _ _ _ le h
   unfold Zb1
   rw[hx]
   by_cases hi:i < xs.length
   ·have:xs[i]?=some xs[i]:=List.getElem?_eq_getElem hi
    simp only[this]
    have s:=st i ρ M hi h
    cases e:tg xs[i] ρ with
    |none=>rw[e] at s;exact s.elim
    |some ρ1=>
     rw[e] at s
     simp only[wG] at s
     have rc: ∀ ρ2 M2,I (i + 1) ρ2 M2->wO (Zb1 src tg c f m fu (i + 1) ρ2 M2) (fun _ M2=>Q M2) (fun _ _=>False):=fun ρ2 M2 h2=>ih (i + 1) ρ2 M2 (by omega) (by omega) h2 hm st hn
     cases ec:c ρ1 M with
     |bad=>rw[ec] at s;exact s.elim
     |exc _ _=>rw[ec] at s;exact s.elim
     |ok k M1=>
      rw[ec] at s
      rw[Zr] at s
      cases k with
      |false=>
       rw[ZnZ] at s
       simp only[ec]
       exact rc _ _ s
      |true=>
       rw[ZiX] at s
       simp only[ec]
       cases ef:f ρ1 M1 with
       |bad=>rw[ef] at s;exact s.elim
       |exc _ _=>rw[ef] at s;exact s.elim
       |ok y M2=>
        rw[ef,Zr] at s
        simp only[ef]
        cases ey:M2[m]? with
        |none=>rw[ey] at s;exact s.elim
        |some o=>
         cases o with
         |lst ys=>
          rw[ey] at s
          simp only[wL,ey] at s ⊢
          rw[if_pos s.1]
          exact rc _ _ s.2
   ·have:xs[i]?=none:=List.getElem?_eq_none (by omega)
    simp only[this]
    exact hn ρ M (by rw[show xs.length=i by omega];exact h)
end
end DL
end
section
namespace DL
open PySem PySem.Spec PyProof.Rows L2
section
variable {Q:D->Sto->Prop} {E:Str->Sto->Prop} {N B C:Ro->Sto->Prop} {R:D->Sto->Prop} {ρ:Ro} {M:Sto} {f:Ev} {fs:Av} {i j:Int} {n m k:Nat} {x y d:D} {xs ys ds:List D} {lo hi:Ro->Sto->Out (Option Int)}
theorem Zb8 (h: -(18446744073709551616) < i/\i < 18446744073709551616):ZD i j:=Zew h.1 h.2
theorem ZbC (h: -(18446744073709551616) < j/\j < 18446744073709551616):ZD i j:=Zev h.1 h.2
theorem Zb9 (h:0 < j/\j < 18446744073709551616):Zac j:=by
 refine ⟨by omega,?_⟩
 have:j.natAbs.log2 < 64:=(Nat.log2_lt (by omega)).mpr (by omega)
 omega
theorem Zk1:wO (dAdd (.int i) (.int j) M) Q E=Q (.int (i + j)) M:=rfl
theorem Zk2:wO (dSub (.int i) (.int j) M) Q E=Q (.int (i - j)) M:=rfl
theorem Zc0 (h:ZD i j):wO (dMul (.int i) (.int j) M) Q E=Q (.int (i * j)) M:=by
 show wO (if ZD i j then _ else _) Q E=_
 rw[if_pos h];rfl
theorem Zk3 (h: -(18446744073709551616) < i/\i < 18446744073709551616):wO (dMul (.int i) (.int j) M) Q E=Q (.int (i * j)) M:=Zc0 (Zb8 h)
theorem Zi8 (h: -(18446744073709551616) < j/\j < 18446744073709551616):wO (dMul (.int i) (.int j) M) Q E=Q (.int (i * j)) M:=Zc0 (ZbC h)
theorem Zk4 (h:0 < j/\j < 18446744073709551616):wO (dDiv (.int i) (.int j) M) Q E=Q (.int (i / j)) M:=by
 show wO (if Zac j then _ else _) Q E=_
 rw[if_pos (Zb9 h),Int.fdiv_eq_ediv_of_nonneg _ (by omega)];rfl
theorem Zk5 (h:0 < j):wO (dMod (.int i) (.int j) M) Q E=Q (.int (i % j)) M:=by
 show wO (if j≠0 then _ else _) Q E=_
 rw[if_pos (by omega),Int.fmod_eq_emod_of_nonneg _ (by omega)];rfl
theorem Zk6 (h:0<=j/\j<=1000000/\i.natAbs < 18446744073709551616):wO (dPow (.int i) (.int j) M) Q E=Q (.int (i ^ j.toNat)) M:=by
 show wO (if 0<=j/\j<=1000000/\i.natAbs < 2 ^ 64 then _ else _) Q E=_
 rw[if_pos ⟨h.1,h.2.1,by omega⟩];rfl
theorem Zn1:wO (dLt (.int i) (.int j) M) Q E=Q (.bl (decide (i < j))) M:=rfl
theorem Zn2:wO (dLe (.int i) (.int j) M) Q E=Q (.bl (decide (i<=j))) M:=rfl
theorem Zn3:wO (dGt (.int i) (.int j) M) Q E=Q (.bl (decide (j < i))) M:=rfl
theorem Zn4:wO (dGe (.int i) (.int j) M) Q E=Q (.bl (decide (j<=i))) M:=rfl
theorem Zk7:wO (dAdd (.ref n) (.ref m) M) Q E=wL M[n]? fun xs=>wL M[m]? fun ys=>xs.length + ys.length<=10000000/\Q (.ref M.length) (M ++ [.lst (xs ++ ys)]):=by
 show wO (match M[n]?,M[m]? with | some (.lst xs),some (.lst ys)=>_ | _,_=>_) Q E=_
 cases e1:M[n]? with
 |none=>rfl
 |some o=>
  cases o with
  |lst xs=>
   cases e2:M[m]? with
   |none=>rfl
   |some p=>
    cases p with
    |lst ys=>
     by_cases h:xs.length + ys.length<=10000000
     ·simp[wL,h,wO]
     ·simp[wL,h,wO]
theorem Zi9 (h:xs.length + ys.length<=100000/\xs≠[]):wO (dAdd (.tup xs) (.tup ys) M) Q E=Q (.tup (xs ++ ys)) M:=by
 show wO (if xs.length + ys.length<=100000/\xs≠[] then _ else _) Q E=_
 rw[if_pos h];rfl
theorem Zn5:wO (dEq x y M) Q E=wG (eqF 12 M x y) fun b=>Q (.bl b) M:=by
 show wO (match eqF 12 M x y with | some b=>_ | none=>_) Q E=_
 cases eqF 12 M x y<;>rfl
theorem Zn6:wO (dNe x y M) Q E=wG (eqF 12 M x y) fun b=>Q (.bl (!b)) M:=by
 show wO (match eqF 12 M x y with | some b=>_ | none=>_) Q E=_
 cases eqF 12 M x y<;>rfl
theorem Zn7:wO (dIs x y M) Q E=wG (isP x y) fun b=>Q (.bl b) M:=by
 show wO (match isP x y with | some b=>_ | none=>_) Q E=_
 cases isP x y<;>rfl
theorem Zk8:wO (ZfR x y M) Q E=wG (isP x y) fun b=>Q (.bl (!b)) M:=by
 show wO (match isP x y with | some b=>_ | none=>_) Q E=_
 cases isP x y<;>rfl
theorem Zhc:wO (atD xs i M) Q E=wG (atI xs i) fun d=>Q d M:=by
 unfold atD
 cases atI xs i<;>rfl
theorem Zk9:wO (dIx (.tup xs) (.int i) M) Q E=wG (atI xs i) fun d=>Q d M:=Zhc
theorem Zla:wO (dIx (.rol xs) (.int i) M) Q E=wG (atI xs i) fun d=>Q d M:=Zhc
theorem Zlb:wO (dIx (.ref n) (.int i) M) Q E=wL M[n]? fun xs=>wG (atI xs i) fun d=>Q d M:=by
 show wO (match M[n]? with | some (.lst xs)=>atD xs i M | _=> .bad) Q E=_
 cases e1:M[n]? with
 |none=>rfl
 |some o=>cases o with | lst xs=>exact Zhc
theorem Zja:wO (bLen [.ref n] M) Q E=wL M[n]? fun xs=>Q (.int xs.length) M:=by
 show wO (match (match M[n]? with | some (.lst xs)=>some xs | _=>none) with | some xs=>_ | none=>_) Q E=_
 cases e1:M[n]? with
 |none=>rfl
 |some o=>cases o with | lst xs=>rfl
theorem Zjb:wO (bLen [.tup xs] M) Q E=Q (.int xs.length) M:=rfl
theorem Zjc:wO (bLen [.rol xs] M) Q E=Q (.int xs.length) M:=rfl
theorem Zlc:wO (ZnI [.int i] M) Q E=Q (.int (i.natAbs:Int)) M:=by rw[<- Zg0];rfl
theorem Zld:wO (ZnJ [.int i,.int j] M) Q E=Q (.int (max i j)) M:=by
 have:max i j=if j > i then j else i:=by split<;>omega
 rw[this];rfl
theorem Zle:wO (ZnK [.int i,.int j] M) Q E=Q (.int (min i j)) M:=by
 have:min i j=if j < i then j else i:=by split<;>omega
 rw[this];rfl
theorem Zjd {k:Bool}:wO (Zmw [.bl k] M) Q E=Q (.int (if k then 1 else 0)) M:=rfl
theorem Zje:wO (Zmw [.int i] M) Q E=Q (.int i) M:=rfl
theorem Zhd:wO (bList [.ref n] M) Q E=wL M[n]? fun xs=>Q (.ref M.length) (M ++ [.lst xs]):=by
 show wO (match (match M[n]? with | some (.lst xs)=>some xs | _=>none) with | some xs=>_ | none=>_) Q E=_
 cases e1:M[n]? with
 |none=>rfl
 |some o=>cases o with | lst xs=>rfl
theorem Zhe:wO (bList [.tup xs] M) Q E=Q (.ref M.length) (M ++ [.lst xs]):=rfl
theorem Zlf:wO (Zmz [.ref n] M) Q E=wL M[n]? fun xs=>wG (ZaJ xs) fun bs=>Q (.bl (bs.all id)) M:=by
 show wO (match M[n]? with | some (.lst xs)=>(match ZaJ xs with | some bs=>Out.ok (.bl (bs.all id)) M | none=> .bad) | none=> .bad) Q E=_
 cases e1:M[n]? with
 |none=>rfl
 |some o=>
  cases o with
  |lst xs=>
   show wO (match ZaJ xs with | some bs=>Out.ok (.bl (bs.all id)) M | none=> .bad) Q E=wG (ZaJ xs) _
   cases ZaJ xs<;>rfl
theorem Zjf {g:List Int->Option Int}:wO (Zby g [.ref n] M) Q E=wL M[n]? fun xs=>wG (Zam xs) fun ns=>wG (g ns) fun i=>Q (.int i) M:=by
 show wO (match (match M[n]? with | some (.lst xs)=>some xs | _=>none) with | some xs=>(match Zam xs with | some ns=>(match g ns with | some i=>Out.ok (.int i) M | none=> .bad) | none=> .bad) | none=> .bad) Q E=_
 cases e1:M[n]? with
 |none=>rfl
 |some o=>
  cases o with
  |lst xs=>
   show wO (match Zam xs with | some ns=>(match g ns with | some i=>Out.ok (.int i) M | none=> .bad) | none=> .bad) Q E=wG (Zam xs) _
   cases Zam xs with
   |none=>rfl
   |some ns=>
    show wO (match g ns with | some i=>Out.ok (.int i) M | none=> .bad) Q E=wG (g ns) _
    cases g ns<;>rfl
theorem Zn8 {g:Me} {fo:Ev}:wO (Zej g fo fs ρ M) Q E=wO (fo ρ M) (fun x M1=>ZgT x M1=true/\wO (fs ρ M1) (fun ds M2=>wO (g x ds M2) Q E) E) E:=by
 unfold Zej
 rw[Zj]
 congr 1
 funext x M1
 by_cases h:ZgT x M1=true
 ·simp only[h,if_true,true_and];rw[Zj]
 ·simp[h,wO]
theorem Zjg:ZgT (.ref n) M=M[n]?.isSome:=rfl
theorem Zlg:wO (mApp (.ref n) [d] M) Q E=wL M[n]? fun xs=>xs.length < 10000000/\Q .non (M.set n (.lst (xs ++ [d]))):=by
 show wO (match M[n]? with | some (.lst xs)=>if xs.length < 10000000 then _ else _ | none=>_) Q E=_
 cases e1:M[n]? with
 |none=>rfl
 |some o=>
  cases o with
  |lst xs=>
   by_cases h:xs.length < 10000000
   ·simp[wL,h,wO]
   ·simp[wL,h,wO]
theorem Zlh:wO (ZmC (.ref n) [] M) Q E=wL M[n]? fun xs=>Q .non (M.set n (.lst [])):=by
 show wO (match M[n]? with | some (.lst xs)=>_ | none=>_) Q E=_
 cases e1:M[n]? with
 |none=>rfl
 |some o=>cases o with | lst xs=>rfl
theorem Zli:wO (ZmD (.ref n) [.ref m] M) Q E=wL M[n]? fun xs=>wL M[m]? fun ys=>xs.length + ys.length<=10000000/\Q .non (M.set n (.lst (xs ++ ys))):=by
 show wO (match M[n]?,M[m]? with | some (.lst xs),some (.lst ys)=>if xs.length + ys.length<=10000000 then _ else _ | _,_=>_) Q E=_
 cases e1:M[n]? with
 |none=>rfl
 |some o=>
  cases o with
  |lst xs=>
   cases e2:M[m]? with
   |none=>rfl
   |some p=>
    cases p with
    |lst ys=>
     by_cases h:xs.length + ys.length<=10000000
     ·simp[wL,h,wO]
     ·simp[wL,h,wO]
noncomputable def slR (x:D) (l u:Option Int) (M3:Sto):Out D:=match x with
 | .ref n=>(match M3[n]? with | some (.lst xs)=> .ok (.ref M3.length) (M3 ++ [.lst (Zbx xs l u)]) | none=> .bad)
 | .rol xs=> .ok (.ref M3.length) (M3 ++ [.lst (Zbx xs l u)])
 | .tup xs=>if HT.sIx xs.length 0 l=0/\HT.sIx xs.length xs.length u=xs.length then .bad else .ok (.tup (Zbx xs l u)) M3
 |_=> .bad
theorem Zlj:wO (eSl f lo hi ρ M) Q E=wO (f ρ M) (fun x M1=>wO (lo ρ M1) (fun l M2=>wO (hi ρ M2) (fun u M3=>wO (slR x l u M3) Q E) E) E) E:=by
 unfold eSl
 rw[Zj]
 congr 1
 funext x M1
 rw[Zj]
 congr 1
 funext l M2
 rw[Zj]
 congr 1
theorem Zlk {l u:Option Int}:wO (slR (.ref n) l u M) Q E=wL M[n]? fun xs=>Q (.ref M.length) (M ++ [.lst (Zbx xs l u)]):=by
 unfold slR
 cases e1:M[n]? with
 |none=>simp only[e1];rfl
 |some o=>cases o with | lst xs=>simp only[e1];rfl
theorem Zll {Q:Option Int->Sto->Prop}:wO (oSo f ρ M) Q E=wO (f ρ M) (fun x M1=>wI x fun i=>Q (some i) M1) E:=by
 unfold oSo
 rw[Zj]
 congr 1
 funext x M1
 cases x<;>rfl
theorem Zjh (h:0<=i):Zbx xs none (some i)=xs.take i.toNat:=by
 unfold Zbx
 simp only[HT.sIx]
 rw[if_neg (by omega),List.drop_zero,Nat.sub_zero]
 by_cases c:i.toNat<=xs.length
 ·rw[Nat.min_eq_left c]
 ·rw[Nat.min_eq_right (by omega),List.take_of_length_le (Nat.le_refl _),List.take_of_length_le (by omega)]
theorem Zfu (h:0<=i):Zbx xs (some i) none=xs.drop i.toNat:=by
 unfold Zbx
 simp only[HT.sIx]
 rw[if_neg (by omega)]
 by_cases c:i.toNat<=xs.length
 ·rw[Nat.min_eq_left c,List.take_of_length_le (by simp)]
 ·rw[Nat.min_eq_right (by omega),List.drop_eq_nil_of_le (Nat.le_refl _),List.drop_eq_nil_of_le (by omega),List.take_nil]
theorem Zez {L:Sto}:(M ++ L)[M.length]?=L[0]?:=by rw[List.getElem?_append_right (Nat.le_refl _),Nat.sub_self]
theorem Zlm {L:Sto} {i:Nat}:(M ++ L)[M.length + i]?=L[i]?:=by rw[List.getElem?_append_right (by omega)];congr 1;omega
theorem Zdu {L:Sto} (h:n < M.length):(M ++ L)[n]?=M[n]?:=List.getElem?_append_left h
theorem Zf1 {L:Sto} {o:SO}:(M ++ L).set M.length o=M ++ L.set 0 o:=by rw[List.set_append_right _ _ (Nat.le_refl _),Nat.sub_self]
theorem Zln {L:Sto} {o:SO} {i:Nat}:(M ++ L).set (M.length + i) o=M ++ L.set i o:=by rw[List.set_append_right _ _ (by omega)];congr 2;omega
theorem Zji {o:SO} (h:k≠n):(M.set n o)[k]?=M[k]?:=List.getElem?_set_ne (Ne.symm h)
theorem Zjj {o:SO} (h:n < M.length):(M.set n o)[n]?=some o:=List.getElem?_set_self h
theorem Zy {o:SO} (h:M[n]?=some o):n < M.length:=(List.getElem?_eq_some_iff.mp h).1
noncomputable abbrev pr (x y:Int):D:= .tup [.int x,.int y]
noncomputable def prs (rs:List (Int × Int)):List D:=rs.map fun p=>pr p.1 p.2
noncomputable def nts (ns:List Int):List D:=ns.map D.int
theorem Zas {rs:List (Int × Int)}:(prs rs).length=rs.length:=List.length_map _
theorem Zat {rs:List Int}:(nts rs).length=rs.length:=List.length_map _
theorem Zhf {a b:List (Int × Int)}:prs a ++ prs b=prs (a ++ b):=(List.map_append).symm
theorem Zhg {a b:List Int}:nts a ++ nts b=nts (a ++ b):=(List.map_append).symm
theorem Zfv {a:List (Int × Int)}:(prs a).take n=prs (a.take n):=List.map_take.symm
theorem Zc1 {a:List (Int × Int)}:(prs a).drop n=prs (a.drop n):=List.map_drop.symm
theorem Zfw {a:List Int}:(nts a).take n=nts (a.take n):=List.map_take.symm
theorem Zfx {a:List Int}:(nts a).drop n=nts (a.drop n):=List.map_drop.symm
theorem Zfy {a b:Int} {r:List (Int × Int)}:pr a b :: prs r=prs ((a,b) :: r):=rfl
theorem Zhh {a:List (Int × Int)} {b c:Int}:(prs a).set n (pr b c)=prs (a.set n (b,c)):=by unfold prs;rw[List.map_set]
theorem Zhi {a:List Int} {b:Int}:(nts a).set n (.int b)=nts (a.set n b):=by unfold nts;rw[List.map_set]
noncomputable def cy (rs:List (Int × Int)) (i:Int):Int × Int:=rs.getD (i % rs.length).toNat (0,0)
noncomputable def cn (rs:List Int) (i:Int):Int:=rs.getD (i % rs.length).toNat 0
theorem Zjk {i:Int} {n:Nat} (h: -(n:Int)<=i/\i < n):ixN n i=some (i % n).toNat:=by
 unfold ixN
 by_cases c:0<=i
 ·rw[if_pos c,if_pos h.2,Int.emod_eq_of_lt c h.2]
 ·rw[if_neg c,if_pos h.1]
  have:i % n=i + n:=by
   rw[<- Int.add_emod_right,Int.emod_eq_of_lt (by omega) (by omega)]
  rw[this]
theorem Za3 {rs:List (Int × Int)} (h: -(rs.length:Int)<=i/\i < rs.length):atI (prs rs) i=some (pr (cy rs i).1 (cy rs i).2):=by
 unfold atI
 rw[Zas,Zjk h]
 have hp:(i % rs.length).toNat < rs.length:=by
  have:=Int.emod_lt_of_pos i (show (0:Int) < rs.length by omega)
  have:=Int.emod_nonneg i (show (rs.length:Int)≠0 by omega)
  omega
 simp[prs,cy,List.getElem?_eq_getElem hp]
theorem ZeA {rs:List (Int × Int)}:cy rs (i % rs.length)=cy rs i:=by unfold cy;rw[Int.emod_emod_of_dvd _ (Int.dvd_refl _)]
theorem Zf2 {rs:List (Int × Int)}:cy rs (i + rs.length)=cy rs i:=by unfold cy;rw[Int.add_emod_right]
theorem Zjl {rs:List (Int × Int)}:cy rs (i - rs.length)=cy rs i:=by unfold cy;rw[Int.sub_emod_right]
theorem Zjm {rs:List (Int × Int)} {k:Nat} (h:k < rs.length):cy rs k=rs[k]:=by
 unfold cy
 rw[Int.emod_eq_of_lt (by omega) (by omega)]
 simp[List.getElem?_eq_getElem h]
theorem Zf3 {rs:List Int} {k:Nat} (h:k < rs.length):cn rs k=rs[k]:=by
 unfold cn
 rw[Int.emod_eq_of_lt (by omega) (by omega)]
 simp[List.getElem?_eq_getElem h]
theorem Zjn {a b:Int}:eqF (n + 1) M (.int a) (.int b)=some (decide (a=b)):=rfl
theorem Zn9 {a b:Bool}:eqF (n + 1) M (.bl a) (.bl b)=some (a == b):=rfl
theorem ZmG {a b c d:Int}:eqF (n + 2) M (pr a b) (pr c d)=some (decide ((a,b)=(c,d))):=by
 show some ((a == c) && ((b == d) && true))=_
 congr 1
 rw[Bool.eq_iff_iff]
 simp
theorem Zjo {rs ss:List (Int × Int)}:eqL (eqF (n + 2) M) (prs rs) (prs ss)=some (decide (rs=ss)):=by
 induction rs generalizing ss with
 |nil=>cases ss<;>rfl
 |cons r rs ih=>
  cases ss with
  |nil=>rfl
  |cons s ss=>
   show (match eqF (n + 2) M (pr r.1 r.2) (pr s.1 s.2) with | some a=>(match eqL _ (prs rs) (prs ss) with | some b=>some (a && b) | none=>none) | none=>none)=_
   rw[ZmG,ih]
   simp only[]
   congr 1
   rw[Bool.eq_iff_iff]
   obtain ⟨r1,r2⟩:=r
   obtain ⟨s1,s2⟩:=s
   simp
theorem Zjp {rs ss:List Int}:eqL (eqF (n + 1) M) (nts rs) (nts ss)=some (decide (rs=ss)):=by
 induction rs generalizing ss with
 |nil=>cases ss<;>rfl
 |cons r rs ih=>
  cases ss with
  |nil=>rfl
  |cons s ss=>
   show (match eqF (n + 1) M (.int r) (.int s) with | some a=>(match eqL _ (nts rs) (nts ss) with | some b=>some (a && b) | none=>none) | none=>none)=_
   rw[Zjn,ih]
   simp only[]
   congr 1
   rw[Bool.eq_iff_iff]
   simp
theorem Zjq {xs ys:List D} (h1:M[n]?=some (.lst xs)) (h2:M[m]?=some (.lst ys)):eqF (k + 1) M (.ref n) (.ref m)=if xs.length=ys.length then eqL (eqF k M) xs ys else some false:=by
 show (match kd M (.ref n),kd M (.ref m) with | some a,some b=>eqK (eqF k M) a b | _,_=>none)=_
 have e1:kd M (.ref n)=some (.lst xs):=by show (match M[n]? with | some (.lst xs)=>some (Kd.lst xs) | _=>none)=_;rw[h1]
 have e2:kd M (.ref m)=some (.lst ys):=by show (match M[m]? with | some (.lst xs)=>some (Kd.lst xs) | _=>none)=_;rw[h2]
 rw[e1,e2]
 rfl
theorem Zlo {rs ss:List (Int × Int)} (h1:M[n]?=some (.lst (prs rs))) (h2:M[m]?=some (.lst (prs ss))):eqF 12 M (.ref n) (.ref m)=some (decide (rs=ss)):=by
 rw[Zjq h1 h2,Zas,Zas]
 by_cases c:rs.length=ss.length
 ·rw[if_pos c,Zjo]
 ·rw[if_neg c]
  congr 1
  symm
  exact decide_eq_false fun z=>c (by rw[z])
theorem Zjr {rs ss:List Int} (h1:M[n]?=some (.lst (nts rs))) (h2:M[m]?=some (.lst (nts ss))):eqF 12 M (.ref n) (.ref m)=some (decide (rs=ss)):=by
 rw[Zjq h1 h2,Zat,Zat]
 by_cases c:rs.length=ss.length
 ·rw[if_pos c,Zjp]
 ·rw[if_neg c]
  congr 1
  symm
  exact decide_eq_false fun z=>c (by rw[z])
theorem Zjs:Zab M (.int i)=some "int":=rfl
theorem Zlp {b:Bool}:Zab M (.bl b)=some "bool":=rfl
theorem Zjt:Zab M (.tup xs)=some "tuple":=rfl
theorem Zju:Zab M .non=some "NoneType":=rfl
theorem Zf4 (h:M[n]?=some (.lst xs)):Zab M (.ref n)=some "list":=by
 show (match (match M[n]? with | some (.lst xs)=>some (Kd.lst xs) | _=>none) with | some .non=>_ | some (.bl _)=>_ | some (.int _)=>_ | some (.str _)=>_ | some (.tup _)=>_ | some (.lst _)=>_ | none=>_)=_
 rw[h]
end
end DL
end
section
namespace DL
open PySem PySem.Spec PyProof.Rows L2
section
variable {Q:D->Sto->Prop} {E:Str->Sto->Prop} {N B C:Ro->Sto->Prop} {R:D->Sto->Prop} {ρ:Ro} {M:Sto} {f:Ev} {fs:Av} {i j:Int} {n m k:Nat} {x y z d:D} {xs ys ds:List D} {QS:Src->Sto->Prop} {tg:Tg} {bd:Sv} {b:Bool}
theorem Zhj:wS (Zef tg fs bd ρ M) N R B C E=wO (fs ρ M) (fun ds M1=>w2 ds fun x y=>wI x fun i=>wI y fun j=>(-(2 ^ 62)<=i/\i < 2 ^ 62/\ -(2 ^ 62)<=j/\j < 2 ^ 62)/\wS (Zal tg bd (Z8 i (j - i).toNat) ρ M1) N R B C E) E:=by
 unfold Zef
 rw[ZK]
 congr 1
 funext ds M1
 rcases ds with _ | ⟨v,_ | ⟨w,_ | ⟨w',r⟩⟩⟩
 ·rfl
 ·cases v<;>rfl
 ·cases v<;>try rfl
  cases w<;>try rfl
  rename_i i j
  by_cases h: -(2 ^ 62)<=i/\i < 2 ^ 62/\ -(2 ^ 62)<=j/\j < 2 ^ 62
  ·simp only[w2,wI,eq_true h,true_and,if_true]
  ·simp only[w2,wI,eq_false h,false_and,if_false]
   rfl
 ·cases v<;>cases w<;>rfl
theorem Zoa:wO (iR1 fs ρ M) QS E=wO (fs ρ M) (fun ds M1=>w1 ds fun d=>wI d fun j=>(-(2 ^ 62)<=j/\j < 2 ^ 62)/\QS (.pur (Z8 0 j.toNat)) M1) E:=by
 unfold iR1
 rw[Zj]
 congr 1
 funext ds M1
 rcases ds with _ | ⟨v,_ | ⟨w,r⟩⟩
 ·rfl
 ·cases v<;>try rfl
  rename_i j
  by_cases h: -(2 ^ 62)<=j/\j < 2 ^ 62
  ·simp only[w1,wI,eq_true h,true_and,if_true,Zr]
  ·simp only[w1,wI,eq_false h,false_and,if_false]
   rfl
 ·cases v<;>rfl
theorem Zob:wO (iR2 fs ρ M) QS E=wO (fs ρ M) (fun ds M1=>w2 ds fun x y=>wI x fun i=>wI y fun j=>(-(2 ^ 62)<=i/\i < 2 ^ 62/\ -(2 ^ 62)<=j/\j < 2 ^ 62)/\QS (.pur (Z8 i (j - i).toNat)) M1) E:=by
 unfold iR2
 rw[Zj]
 congr 1
 funext ds M1
 rcases ds with _ | ⟨v,_ | ⟨w,_ | ⟨w',r⟩⟩⟩
 ·rfl
 ·cases v<;>rfl
 ·cases v<;>try rfl
  cases w<;>try rfl
  rename_i i j
  by_cases h: -(2 ^ 62)<=i/\i < 2 ^ 62/\ -(2 ^ 62)<=j/\j < 2 ^ 62
  ·simp only[w2,wI,eq_true h,true_and,if_true,Zr]
  ·simp only[w2,wI,eq_false h,false_and,if_false]
   rfl
 ·cases v<;>cases w<;>rfl
theorem Zoc:wO (iEn fs ρ M) QS E=wO (fs ρ M) (fun ds M1=>w1 ds fun d=>wR d fun n=>QS (.enu n) M1) E:=by
 unfold iEn
 rw[Zj]
 congr 1
 funext ds M1
 rcases ds with _ | ⟨v,_ | ⟨w,r⟩⟩<;>try rfl
 ·cases v<;>rfl
 ·cases v<;>rfl
theorem Zod:wO (iZp fs ρ M) QS E=wO (fs ρ M) (fun ds M1=>w2 ds fun x y=>wR x fun n=>wR y fun m=>QS (.zip n m) M1) E:=by
 unfold iZp
 rw[Zj]
 congr 1
 funext ds M1
 rcases ds with _ | ⟨v,_ | ⟨w,_ | ⟨w',r⟩⟩⟩<;>try rfl
 ·cases v<;>rfl
 ·cases v<;>cases w<;>rfl
 ·cases v<;>cases w<;>rfl
theorem Zoe:wO (iRv fs ρ M) QS E=wO (fs ρ M) (fun ds M1=>w1 ds fun d=>wR d fun n=>wL M1[n]? fun xs=>QS (.rev n xs.length) M1) E:=by
 unfold iRv
 rw[Zj]
 congr 1
 funext ds M1
 rcases ds with _ | ⟨v,_ | ⟨w,r⟩⟩<;>try rfl
 ·cases v<;>try rfl
  rename_i n
  cases e:M1[n]? with
  |none=>simp only[e];simp only[w1,wR,e];rfl
  |some o=>cases o with | lst xs=>simp only[e,w1,wR];rfl
 ·cases v<;>rfl
noncomputable def ZhH (Q:D->Sto->Prop) (ρ:Ro) (M:Sto):Prop:=Q .non M
theorem wF1:wO (fnF bd 1 k [x] M) Q E=wS (bd (some x :: List.replicate k none) M) (ZhH Q) Q (fun _ _=>False) (fun _ _=>False) E:=wF rfl
theorem wF2:wO (fnF bd 2 k [x,y] M) Q E=wS (bd (some x :: some y :: List.replicate k none) M) (ZhH Q) Q (fun _ _=>False) (fun _ _=>False) E:=wF rfl
theorem wF3:wO (fnF bd 3 k [x,y,z] M) Q E=wS (bd (some x :: some y :: some z :: List.replicate k none) M) (ZhH Q) Q (fun _ _=>False) (fun _ _=>False) E:=wF rfl
theorem wF4:wO (fnF bd 4 k [x,y,z,d] M) Q E=wS (bd (some x :: some y :: some z :: some d :: List.replicate k none) M) (ZhH Q) Q (fun _ _=>False) (fun _ _=>False) E:=wF rfl
theorem Zfz {a:List (Int × Int)} {b c:Int}:prs a ++ [pr b c]=prs (a ++ [(b,c)]):=by simp[prs]
theorem ZfA {a:List Int} {b:Int}:nts a ++ [D.int b]=nts (a ++ [b]):=by simp[nts]
theorem ZfB {b:Int} {r:List Int}:D.int b :: nts r=nts (b :: r):=rfl
theorem Zlq:isP .non .non=some true:=rfl
theorem Zlr:isP (.int i) .non=some false:=rfl
theorem Zls:isP (.tup xs) .non=some false:=rfl
theorem Zlt:isP (.ref n) .non=some false:=rfl
theorem ZeB (h:M[n]?=some (.lst xs)):cnt (.sto n) M=xs.length:=by show (match M[n]? with | some (.lst xs)=>xs.length | none=>0)=_;rw[h]
theorem at2 {r:List D}:atI (x :: y :: z :: r) 2=some z:=by
 show (ixN (r.length + 3) 2).bind _=_
 unfold ixN
 rw[if_pos (by decide),if_pos (by omega)]
 rfl
theorem at3 {r:List D}:atI (x :: y :: z :: d :: r) 3=some d:=by
 show (ixN (r.length + 4) 3).bind _=_
 unfold ixN
 rw[if_pos (by decide),if_pos (by omega)]
 rfl
theorem Zjv:ZaY "int" "int"=true:=rfl
theorem Zjw:ZaY "int" "bool"=false:=rfl
theorem Zjx:ZaY "bool" "int"=true:=rfl
theorem Zjy:ZaY "bool" "bool"=true:=rfl
theorem Zjz:ZaY "tuple" "tuple"=true:=rfl
theorem ZjA:ZaY "list" "list"=true:=rfl
theorem ZjB:ZaY "tuple" "int"=false:=rfl
theorem ZjC:ZaY "tuple" "list"=false:=rfl
theorem ZjD:ZaY "list" "tuple"=false:=rfl
theorem ZjE:ZaY "list" "int"=false:=rfl
theorem ZjF:ZaY "NoneType" "tuple"=false:=rfl
theorem ZjG:ZaY "NoneType" "list"=false:=rfl
theorem Zf5 (h:M[n]?=some (.lst xs)):nxt (.sto n) k M=some xs[k]?:=by
 show (match M[n]? with | some (.lst xs)=>some xs[k]? | none=>none)=_
 rw[h]
section
variable {g:Jv} {bb:Nat}
end
theorem Zhk {src:Src} (Inv:Ro->Prop) (F:Nat->D) {Q:Sto->Prop} (hl:xs.length < 10000000) (hcnt:xs.length<=cnt src M) (h0:Inv ρ) (hs: ∀ (L:Sto) (i:Nat),i<=xs.length->nxt src i (M ++ L)=some xs[i]?)
  (st: ∀ (i:Nat) (h:i < xs.length) (ρ:Ro) (L:Sto),Inv ρ->wG (tg xs[i] ρ) fun r=>Inv r/\wO (f r (M ++ L)) (fun y M2=>y=F i/\M2=M ++ L) (fun _ _=>False)) (hq:Q (M ++ [.lst ((List.range xs.length).map F)])):
  wO (Zb1 src tg (fun _ M=> .ok true M) f M.length (cnt src M) 0 ρ (M ++ [.lst []])) (fun _ M2=>Q M2) (fun _ _=>False):=by
 refine ZcZ (fun i ρ M'=>Inv ρ/\M'=M ++ [.lst ((List.range i).map F)]) (xs:=xs) _ 0 ρ _ (by simp) (by omega) ⟨h0,rfl⟩ (fun i ρ M' hi hI=>by rw[hI.2];exact hs _ i hi) (fun i ρ M' h hI=> ?_) (fun ρ M' hI=>by rw[hI.2];exact hq)
 obtain ⟨hI,rfl⟩:=hI
 have s:=st i h ρ [.lst ((List.range i).map F)] hI
 cases e:tg xs[i] ρ with
 |none=>rw[e] at s;exact s.elim
 |some r=>
  rw[e] at s
  obtain ⟨hr,s⟩:=s
  show Br true _ _
  rw[ZiX]
  refine Zcz s (fun y M2 ⟨h1,h2⟩=> ?_) (fun _ _ z=>z)
  subst h1 h2
  rw[Zez]
  refine ⟨by simp;omega,hr,?_⟩
  rw[Zf1,List.range_succ,List.map_append]
  rfl
theorem ZcB {lo:Int}:(Z8 lo n).length=n:=by simp[Z8]
theorem Zhl {lo:Int} (h:k < (Z8 lo n).length):(Z8 lo n)[k]= .int (lo + k):=by simp[Z8]
theorem Zhm {F:Nat->Int}:(List.range n).map (fun i=>D.int (F i))=nts ((List.range n).map F):=by simp[nts]
end
end DL
end
section
namespace DL
open PySem PySem.Spec PyProof.Rows L2
section
variable {Q:D->Sto->Prop} {E:Str->Sto->Prop} {N B C:Ro->Sto->Prop} {R:D->Sto->Prop} {ρ:Ro} {M:Sto} {f g:Ev} {fs:Av} {i j:Int} {n m k:Nat} {x y z d:D} {xs ys ds:List D} {QL:List D->Sto->Prop} {QB:Bool->Sto->Prop} {QS:Src->Sto->Prop} {tg:Tg} {a bd:Sv} {b:Bool} {t u:Tv}
noncomputable def kU {β γ:Type} (u:β->Sto->Out γ) (Q:γ->Sto->Prop) (E:Str->Sto->Prop) (x:β) (M:Sto):Prop:=wO (u x M) Q E
noncomputable def kQ {β γ:Type} (Q:γ->Sto->Prop) (c:β->γ) (M:Sto) (x:β):Prop:=Q (c x) M
noncomputable def kB2 (op:Bo) (x:D) (Q:D->Sto->Prop) (E:Str->Sto->Prop) (y:D) (M:Sto):Prop:=wO (op x y M) Q E
noncomputable def kB1 (op:Bo) (g:Ev) (ρ:Ro) (Q:D->Sto->Prop) (E:Str->Sto->Prop) (x:D) (M:Sto):Prop:=wO (g ρ M) (kB2 op x Q E) E
theorem Zof {op:Bo}:wO (e2 op f g ρ M) Q E=wO (f ρ M) (kB1 op g ρ Q E) E:=Zk0
theorem y_c:wO (eC d ρ M) Q E=Q d M:=rfl
theorem y_v:wO (Zg k ρ M) Q E=wV ρ[k]? (kQ Q id M):=Zn0
theorem ZjH {F:List D->Sto->Out D}:wO (Zl F fs ρ M) Q E=wO (fs ρ M) (kU F Q E) E:=Zg4
noncomputable def kA2 (x:D) (Q:List D->Sto->Prop) (xs:List D) (M:Sto):Prop:=Q (x :: xs) M
noncomputable def kA1 (fs:Av) (ρ:Ro) (Q:List D->Sto->Prop) (E:Str->Sto->Prop) (x:D) (M:Sto):Prop:=wO (fs ρ M) (kA2 x Q) E
theorem Zlu:wO (aNil ρ M) QL E=QL [] M:=rfl
theorem ZjI:wO (Zd f fs ρ M) QL E=wO (f ρ M) (kA1 fs ρ QL E) E:=Zg5
noncomputable def kTu (Q:D->Sto->Prop) (xs:List D) (M:Sto):Prop:=xs.length<=1000/\Q (.tup xs) M
noncomputable def kLs (Q:D->Sto->Prop) (xs:List D) (M:Sto):Prop:=xs.length<=1000/\Q (.ref M.length) (M ++ [.lst xs])
theorem Zlv:wO (Zcm fs ρ M) Q E=wO (fs ρ M) (kTu Q) E:=ZiZ
theorem Zlw:wO (Ze6 fs ρ M) Q E=wO (fs ρ M) (kLs Q) E:=Zi0
noncomputable def ZmH (x:D) (M:Sto):Out D:=match x with | .int i=> .ok (.int (-i)) M | _=> .bad
theorem Zlx:wO (Zcr f ρ M) Q E=wO (f ρ M) (kU ZmH Q E) E:=by unfold Zcr;exact Zj
theorem ZjJ:wO (ZmH (.int i) M) Q E=Q (.int (-i)) M:=rfl
noncomputable def Zly (T:String) (x:D) (M:Sto):Out D:=match Zab M x with | some t=> .ok (.bl (ZaY t T)) M | none=> .bad
theorem Zlz {T:String}:wO (ZdB T f ρ M) Q E=wO (f ρ M) (kU (Zly T) Q E) E:=by unfold ZdB;exact Zj
noncomputable def kTy (T:String) (Q:D->Sto->Prop) (M:Sto) (t:String):Prop:=Q (.bl (ZaY t T)) M
theorem ZjK {T:String}:wO (Zly T x M) Q E=wG (Zab M x) (kTy T Q M):=by unfold Zly;cases Zab M x<;>rfl
noncomputable def tC (b:Bool):Tv:=fun _ M=> .ok b M
noncomputable def BrO {β:Type} (k:Bool) (f g:Ro->Sto->Out β) (ρ:Ro) (M:Sto) (Q:β->Sto->Prop) (E:Str->Sto->Prop):Prop:=wO ((if k=true then f else g) ρ M) Q E
theorem Zog {β:Type} {fO gO:Ro->Sto->Out β} {QO:β->Sto->Prop}:BrO true fO gO ρ M QO E=wO (fO ρ M) QO E:=rfl
theorem Zoh {β:Type} {fO gO:Ro->Sto->Out β} {QO:β->Sto->Prop}:BrO false fO gO ρ M QO E=wO (gO ρ M) QO E:=rfl
theorem brO {β:Type} {fO gO:Ro->Sto->Out β} {QO:β->Sto->Prop} {p:Prop} [Decidable p] (h1:p->wO (fO ρ M) QO E) (h2: ¬ p->wO (gO ρ M) QO E):BrO (decide p) fO gO ρ M QO E:=by
 by_cases h:p
 ·rw[decide_eq_true h];exact h1 h
 ·rw[decide_eq_false h];exact h2 h
theorem ZmI {β:Type} {fO gO:Ro->Sto->Out β} {QO:β->Sto->Prop} (P:β->Sto->Prop) (h:BrO b fO gO ρ M P E) (hn: ∀ x M,P x M->QO x M):BrO b fO gO ρ M QO E:=by
 cases b
 ·exact Zcz h hn (fun _ _ z=>z)
 ·exact Zcz h hn (fun _ _ z=>z)
noncomputable def kIf (f g:Ev) (ρ:Ro) (Q:D->Sto->Prop) (E:Str->Sto->Prop) (k:Bool) (M:Sto):Prop:=BrO k f g ρ M Q E
theorem Zoi:wO (eIf t f g ρ M) Q E=wO (t ρ M) (kIf f g ρ Q E) E:=by unfold eIf;rw[Zj];congr 1;funext k M1;cases k<;>rfl
noncomputable def ZmJ (g:Ev) (ρ:Ro) (x:D) (M:Sto):Out D:=match x with | .bl k=>if k=true then g ρ M else .ok (.bl false) M | _=> .bad
noncomputable def oOr (g:Ev) (ρ:Ro) (x:D) (M:Sto):Out D:=match x with | .bl k=>if k=true then .ok (.bl true) M else g ρ M | _=> .bad
noncomputable def ZmK (x:D) (M:Sto):Out D:=match x with | .bl k=> .ok (.bl (!k)) M | _=> .bad
noncomputable def oTv (x:D) (M:Sto):Out Bool:=match x with | .bl k=> .ok k M | _=> .bad
theorem ZlA:wO (Ze5 f g ρ M) Q E=wO (f ρ M) (kU (ZmJ g ρ) Q E) E:=by unfold Ze5;exact Zj
theorem Zoj:wO (Zmv f g ρ M) Q E=wO (f ρ M) (kU (oOr g ρ) Q E) E:=by unfold Zmv;exact Zj
theorem ZlB:wO (Zik f ρ M) Q E=wO (f ρ M) (kU ZmK Q E) E:=by unfold Zik;exact Zj
theorem ZjL:wO (ZmJ g ρ (.bl b) M) Q E=BrO b g (eC (.bl false)) ρ M Q E:=by cases b<;>rfl
theorem ZlC:wO (oOr g ρ (.bl b) M) Q E=BrO b (eC (.bl true)) g ρ M Q E:=by cases b<;>rfl
theorem ZjM:wO (ZmK (.bl b) M) Q E=Q (.bl (!b)) M:=rfl
theorem Zok:wO (tv f ρ M) QB E=wO (f ρ M) (kU oTv QB E) E:=by unfold tv;exact Zj
theorem ZlD:wO (oTv (.bl b) M) QB E=QB b M:=rfl
noncomputable def kTA (u:Tv) (ρ:Ro) (Q:Bool->Sto->Prop) (E:Str->Sto->Prop) (k:Bool) (M:Sto):Prop:=BrO k u (tC false) ρ M Q E
noncomputable def kTO (u:Tv) (ρ:Ro) (Q:Bool->Sto->Prop) (E:Str->Sto->Prop) (k:Bool) (M:Sto):Prop:=BrO k (tC true) u ρ M Q E
noncomputable def kTN (Q:Bool->Sto->Prop) (k:Bool) (M:Sto):Prop:=Q (!k) M
theorem Zol:wO (tC b ρ M) QB E=QB b M:=rfl
theorem ZjN:wO (Zd4 t u ρ M) QB E=wO (t ρ M) (kTA u ρ QB E) E:=by unfold Zd4;rw[Zj];congr 1;funext k M1;cases k<;>rfl
theorem ZlE:wO (Zd5 t u ρ M) QB E=wO (t ρ M) (kTO u ρ QB E) E:=by unfold Zd5;rw[Zj];congr 1;funext k M1;cases k<;>rfl
theorem ZjO:wO (Zax t ρ M) QB E=wO (t ρ M) (kTN QB) E:=Zi1
noncomputable def kSq (b:Sv) (N:Ro->Sto->Prop) (R:D->Sto->Prop) (B C:Ro->Sto->Prop) (E:Str->Sto->Prop) (ρ:Ro) (M:Sto):Prop:=wS (b ρ M) N R B C E
theorem ZlF:wS (Z3 a bd ρ M) N R B C E=wS (a ρ M) (kSq bd N R B C E) R B C E:=Zi2
theorem ZjP:wS (sNil ρ M) N R B C E=N ρ M:=rfl
theorem ZlG:wS (ZnM ρ M) N R B C E=B ρ M:=rfl
theorem ZlH:wS (ZnN ρ M) N R B C E=C ρ M:=rfl
theorem ZlI:wS (Zae f ρ M) N R B C E=wO (f ρ M) R E:=Zi3
theorem ZjQ:wS (ZkP ρ M) N R B C E=R .non M:=rfl
noncomputable def kDr (ρ:Ro) (N:Ro->Sto->Prop) (d:D) (M:Sto):Prop:=N ρ M
theorem ZjR:wS (Zct f ρ M) N R B C E=wO (f ρ M) (kDr ρ N) E:=Zg6
noncomputable def BrS (k:Bool) (a b:Sv) (ρ:Ro) (M:Sto) (N:Ro->Sto->Prop) (R:D->Sto->Prop) (B C:Ro->Sto->Prop) (E:Str->Sto->Prop):Prop:=wS ((if k=true then a else b) ρ M) N R B C E
theorem Zom:BrS true a bd ρ M N R B C E=wS (a ρ M) N R B C E:=rfl
theorem Zon:BrS false a bd ρ M N R B C E=wS (bd ρ M) N R B C E:=rfl
theorem brS {p:Prop} [Decidable p] (h1:p->wS (a ρ M) N R B C E) (h2: ¬ p->wS (bd ρ M) N R B C E):BrS (decide p) a bd ρ M N R B C E:=by
 by_cases h:p
 ·rw[decide_eq_true h];exact h1 h
 ·rw[decide_eq_false h];exact h2 h
theorem Zoo {p:Prop} [Decidable p] (h1: ¬ p->wS (a ρ M) N R B C E) (h2:p->wS (bd ρ M) N R B C E):BrS (!decide p) a bd ρ M N R B C E:=by
 by_cases h:p
 ·rw[decide_eq_true h];exact h2 h
 ·rw[decide_eq_false h];exact h1 h
theorem Zop (h1:b=true->wS (a ρ M) N R B C E) (h2:b=false->wS (bd ρ M) N R B C E):BrS b a bd ρ M N R B C E:=by
 cases b
 ·exact h2 rfl
 ·exact h1 rfl
noncomputable def kSi (a b:Sv) (ρ:Ro) (N:Ro->Sto->Prop) (R:D->Sto->Prop) (B C:Ro->Sto->Prop) (E:Str->Sto->Prop) (k:Bool) (M:Sto):Prop:=BrS k a b ρ M N R B C E
theorem ZlJ:wS (sIf t a bd ρ M) N R B C E=wO (t ρ M) (kSi a bd ρ N R B C E) E:=by unfold sIf;rw[ZK];congr 1;funext k M1;cases k<;>rfl
noncomputable def kAs (i:Nat) (ρ:Ro) (N:Ro->Sto->Prop) (d:D) (M:Sto):Prop:=N (ρ.set i (some d)) M
theorem ZlK:wS (ZaI (gNm k) f ρ M) N R B C E=wO (f ρ M) (kAs k ρ N) E:=Zi4
noncomputable def kAt (gs:Tgs) (ρ:Ro) (N:Ro->Sto->Prop) (d:D) (M:Sto):Prop:=wG (gTp gs d ρ) (kQ N id M)
theorem ZjS {gs:Tgs}:wS (ZaI (gTp gs) f ρ M) N R B C E=wO (f ρ M) (kAt gs ρ N) E:=Zg7
noncomputable def ZmL (i j:Nat) (ρ:Ro) (N:Ro->Sto->Prop) (M:Sto) (v w:D):Prop:=N ((ρ.set i (some v)).set j (some w)) M
noncomputable def kPa (i j:Nat) (ρ:Ro) (N:Ro->Sto->Prop) (ds:List D) (M:Sto):Prop:=w2 ds (ZmL i j ρ N M)
theorem ZlL:wS (ZhG k m fs ρ M) N R B C E=wO (fs ρ M) (kPa k m ρ N) E:=Zi5
noncomputable def ZmM (n:Nat) (d:D) (xs:List D) (ρ:Ro) (N:Ro->Sto->Prop) (M:Sto) (j:Nat):Prop:=N ρ (M.set n (.lst (xs.set j d)))
noncomputable def ZmN (n:Nat) (k:Int) (d:D) (ρ:Ro) (N:Ro->Sto->Prop) (M:Sto) (xs:List D):Prop:=wG (ixN xs.length k) (ZmM n d xs ρ N M)
noncomputable def ZmO (n:Nat) (d:D) (ρ:Ro) (N:Ro->Sto->Prop) (M:Sto) (k:Int):Prop:=wL M[n]? (ZmN n k d ρ N M)
noncomputable def ZmP (i:D) (d:D) (ρ:Ro) (N:Ro->Sto->Prop) (M:Sto) (n:Nat):Prop:=wI i (ZmO n d ρ N M)
noncomputable def ZmQ (o:D) (d:D) (ρ:Ro) (N:Ro->Sto->Prop) (i:D) (M:Sto):Prop:=wR o (ZmP i d ρ N M)
noncomputable def ZmR (fi:Ev) (d:D) (ρ:Ro) (N:Ro->Sto->Prop) (E:Str->Sto->Prop) (o:D) (M:Sto):Prop:=wO (fi ρ M) (ZmQ o d ρ N) E
noncomputable def kPu (fo fi:Ev) (ρ:Ro) (N:Ro->Sto->Prop) (E:Str->Sto->Prop) (d:D) (M:Sto):Prop:=wO (fo ρ M) (ZmR fi d ρ N E) E
theorem ZlM {fo fi:Ev}:wS (ZkQ fo fi f ρ M) N R B C E=wO (f ρ M) (kPu fo fi ρ N E) E:=Zi6
noncomputable def kRa (c:Str) (E:Str->Sto->Prop) (ds:List D) (M:Sto):Prop:=ds.length<=1000/\E c M
theorem Zhn {c:Str}:wS (Zb3 c fs ρ M) N R B C E=wO (fs ρ M) (kRa c E) E:=Zft
noncomputable def ZmS (tg:Tg) (bd:Sv) (ρ:Ro) (N:Ro->Sto->Prop) (R:D->Sto->Prop) (B C:Ro->Sto->Prop) (E:Str->Sto->Prop) (M:Sto) (j:Int):Prop:=(-(2 ^ 62)<=j/\j < 2 ^ 62)/\wS (Zal tg bd (Z8 0 j.toNat) ρ M) N R B C E
noncomputable def ZmT (tg:Tg) (bd:Sv) (ρ:Ro) (N:Ro->Sto->Prop) (R:D->Sto->Prop) (B C:Ro->Sto->Prop) (E:Str->Sto->Prop) (M:Sto) (d:D):Prop:=wI d (ZmS tg bd ρ N R B C E M)
noncomputable def kR1 (tg:Tg) (bd:Sv) (ρ:Ro) (N:Ro->Sto->Prop) (R:D->Sto->Prop) (B C:Ro->Sto->Prop) (E:Str->Sto->Prop) (ds:List D) (M:Sto):Prop:=w1 ds (ZmT tg bd ρ N R B C E M)
theorem ZjT:wS (Zbk tg fs bd ρ M) N R B C E=wO (fs ρ M) (kR1 tg bd ρ N R B C E) E:=Zg8
noncomputable def ZmU (tg:Tg) (bd:Sv) (ρ:Ro) (N:Ro->Sto->Prop) (R:D->Sto->Prop) (B C:Ro->Sto->Prop) (E:Str->Sto->Prop) (M:Sto) (i:Int) (j:Int):Prop:=(-(2 ^ 62)<=i/\i < 2 ^ 62/\ -(2 ^ 62)<=j/\j < 2 ^ 62)/\wS (Zal tg bd (Z8 i (j - i).toNat) ρ M) N R B C E
noncomputable def ZmV (tg:Tg) (bd:Sv) (ρ:Ro) (N:Ro->Sto->Prop) (R:D->Sto->Prop) (B C:Ro->Sto->Prop) (E:Str->Sto->Prop) (M:Sto) (y:D) (i:Int):Prop:=wI y (ZmU tg bd ρ N R B C E M i)
noncomputable def ZmW (tg:Tg) (bd:Sv) (ρ:Ro) (N:Ro->Sto->Prop) (R:D->Sto->Prop) (B C:Ro->Sto->Prop) (E:Str->Sto->Prop) (M:Sto) (x y:D):Prop:=wI x (ZmV tg bd ρ N R B C E M y)
noncomputable def kR2 (tg:Tg) (bd:Sv) (ρ:Ro) (N:Ro->Sto->Prop) (R:D->Sto->Prop) (B C:Ro->Sto->Prop) (E:Str->Sto->Prop) (ds:List D) (M:Sto):Prop:=w2 ds (ZmW tg bd ρ N R B C E M)
theorem ZjU:wS (Zef tg fs bd ρ M) N R B C E=wO (fs ρ M) (kR2 tg bd ρ N R B C E) E:=Zhj
noncomputable def kFo (tg:Tg) (bd:Sv) (ρ:Ro) (N:Ro->Sto->Prop) (R:D->Sto->Prop) (B C:Ro->Sto->Prop) (E:Str->Sto->Prop) (d:D) (M:Sto):Prop:=wS (ZfT tg bd d ρ M) N R B C E
theorem ZlN:wS (Zee tg f bd ρ M) N R B C E=wO (f ρ M) (kFo tg bd ρ N R B C E) E:=Zi7
theorem ZjV:wS (ZfT tg bd (.tup xs) ρ M) N R B C E=wS (Zal tg bd xs ρ M) N R B C E:=rfl
theorem ZjW:wS (ZfT tg bd (.rol xs) ρ M) N R B C E=wS (Zal tg bd xs ρ M) N R B C E:=rfl
noncomputable def kFs (tg:Tg) (bd:Sv) (ρ:Ro) (N:Ro->Sto->Prop) (R:D->Sto->Prop) (B C:Ro->Sto->Prop) (E:Str->Sto->Prop) (src:Src) (M:Sto):Prop:=wS (Zfl tg bd src (cnt src M) 0 ρ M) N R B C E
theorem ZjX {fi:Ro->Sto->Out Src}:wS (ZiE tg fi bd ρ M) N R B C E=wO (fi ρ M) (kFs tg bd ρ N R B C E) E:=Zha
noncomputable def hT (cs:List Str) (gh:Sv) (i:Nat) (ρ:Ro) (c:Str) (M:Sto):Fl:=if cs.contains c=true then (match gh ((List.replicate ρ.length none).set i (some (.err c []))) M with | .ret d M2=> .ret d M2 | .nx _ M2=> .nx (List.replicate ρ.length none) M2 | _=> .bad) else .bad
noncomputable def kTr (cs:List Str) (gh:Sv) (i:Nat) (ρ:Ro) (N:Ro->Sto->Prop) (R:D->Sto->Prop) (B C:Ro->Sto->Prop) (E:Str->Sto->Prop) (c:Str) (M:Sto):Prop:=cs.contains c=true/\wS (gh ((List.replicate ρ.length none).set i (some (.err c []))) M) (fun _ M2=>N (List.replicate ρ.length none) M2) R (fun _ _=>False) (fun _ _=>False) (fun _ _=>False)
theorem ZlO {cs:List Str} {gh:Sv}:wS (ZmB a cs k gh ρ M) N R B C E=wS (a ρ M) N R B C (kTr cs gh k ρ N R B C E):=by
 unfold ZmB
 cases e:a ρ M<;>try rfl
 rename_i c M1
 show wS (if cs.contains c=true then _ else _) N R B C E=kTr cs gh k ρ N R B C E c M1
 unfold kTr
 by_cases h:cs.contains c=true
 ·rw[if_pos h]
  simp only[h,true_and]
  cases gh ((List.replicate ρ.length none).set k (some (.err c []))) M1<;>rfl
 ·rw[if_neg h]
  simp only[h,Bool.false_eq_true,false_and]
  rfl
noncomputable def Zoq (Q:D->Sto->Prop) (M1:Sto) (u:Unit) (M:Sto):Prop:=Q (.ref M1.length) M
noncomputable def kCo (tg:Tg) (c:Tv) (f:Ev) (k:Nat) (fr:List Nat) (ρ:Ro) (Q:D->Sto->Prop) (src:Src) (M:Sto):Prop:=wO (Zb1 src tg c f M.length (cnt src M) 0 (roB k fr ρ) (M ++ [.lst []])) (Zoq Q M) (fun _ _=>False)
theorem ZjY {fi:Ro->Sto->Out Src} {fr:List Nat}:wO (ZaZ fi k fr tg t f ρ M) Q E=wO (fi ρ M) (kCo tg t f k fr ρ Q) E:=Zhb
noncomputable def ZmX (QS:Src->Sto->Prop) (M:Sto) (j:Int):Prop:=(-(2 ^ 62)<=j/\j < 2 ^ 62)/\QS (.pur (Z8 0 j.toNat)) M
noncomputable def ZmY (QS:Src->Sto->Prop) (M:Sto) (d:D):Prop:=wI d (ZmX QS M)
noncomputable def kS1 (QS:Src->Sto->Prop) (ds:List D) (M:Sto):Prop:=w1 ds (ZmY QS M)
theorem Zor:wO (iR1 fs ρ M) QS E=wO (fs ρ M) (kS1 QS) E:=Zoa
noncomputable def ZmZ (QS:Src->Sto->Prop) (M:Sto) (i:Int) (j:Int):Prop:=(-(2 ^ 62)<=i/\i < 2 ^ 62/\ -(2 ^ 62)<=j/\j < 2 ^ 62)/\QS (.pur (Z8 i (j - i).toNat)) M
noncomputable def Zm0 (QS:Src->Sto->Prop) (M:Sto) (y:D) (i:Int):Prop:=wI y (ZmZ QS M i)
noncomputable def Zm1 (QS:Src->Sto->Prop) (M:Sto) (x y:D):Prop:=wI x (Zm0 QS M y)
noncomputable def kS2 (QS:Src->Sto->Prop) (ds:List D) (M:Sto):Prop:=w2 ds (Zm1 QS M)
theorem Zos:wO (iR2 fs ρ M) QS E=wO (fs ρ M) (kS2 QS) E:=Zob
noncomputable def oSq (d:D) (M:Sto):Out Src:=match d with | .tup ds=> .ok (.pur ds) M | .rol ds=> .ok (.pur ds) M | .con ds=> .ok (.pur ds) M | .ref n=> .ok (.sto n) M | _=> .bad
theorem Zot:wO (iSq f ρ M) QS E=wO (f ρ M) (kU oSq QS E) E:=by unfold iSq;exact Zj
theorem ZlP:wO (oSq (.tup xs) M) QS E=QS (.pur xs) M:=rfl
theorem ZlQ:wO (oSq (.rol xs) M) QS E=QS (.pur xs) M:=rfl
theorem ZlR:wO (oSq (.ref n) M) QS E=QS (.sto n) M:=rfl
noncomputable def Zm2 (QS:Src->Sto->Prop) (M:Sto) (d:D):Prop:=wR d (kQ QS .enu M)
noncomputable def kEn (QS:Src->Sto->Prop) (ds:List D) (M:Sto):Prop:=w1 ds (Zm2 QS M)
theorem Zou:wO (iEn fs ρ M) QS E=wO (fs ρ M) (kEn QS) E:=Zoc
noncomputable def Zm3 (QS:Src->Sto->Prop) (M:Sto) (y:D) (n:Nat):Prop:=wR y (kQ QS (.zip n) M)
noncomputable def Zm4 (QS:Src->Sto->Prop) (M:Sto) (x y:D):Prop:=wR x (Zm3 QS M y)
noncomputable def kZp (QS:Src->Sto->Prop) (ds:List D) (M:Sto):Prop:=w2 ds (Zm4 QS M)
theorem Zov:wO (iZp fs ρ M) QS E=wO (fs ρ M) (kZp QS) E:=Zod
noncomputable def Zm5 (QS:Src->Sto->Prop) (n:Nat) (M:Sto) (xs:List D):Prop:=QS (.rev n xs.length) M
noncomputable def Zm6 (QS:Src->Sto->Prop) (M:Sto) (n:Nat):Prop:=wL M[n]? (Zm5 QS n M)
noncomputable def Zm7 (QS:Src->Sto->Prop) (M:Sto) (d:D):Prop:=wR d (Zm6 QS M)
noncomputable def kRv (QS:Src->Sto->Prop) (ds:List D) (M:Sto):Prop:=w1 ds (Zm7 QS M)
theorem Zow:wO (iRv fs ρ M) QS E=wO (fs ρ M) (kRv QS) E:=Zoe
noncomputable def ZjZ (xs:List D) (M:Sto) (Q:D->Sto->Prop) (ys:List D):Prop:=xs.length + ys.length<=10000000/\Q (.ref M.length) (M ++ [.lst (xs ++ ys)])
noncomputable def Zm8 (m:Nat) (M:Sto) (Q:D->Sto->Prop) (xs:List D):Prop:=wL M[m]? (ZjZ xs M Q)
theorem ZlS:wO (dAdd (.ref n) (.ref m) M) Q E=wL M[n]? (Zm8 m M Q):=Zk7
noncomputable def Zkv (i:Int) (M:Sto) (Q:D->Sto->Prop) (xs:List D):Prop:=((-9223372036854775808<=i/\i < 9223372036854775808)/\xs.length * i.toNat<=100000)/\Q (.ref M.length) (M ++ [.lst (List.replicate i.toNat xs).flatten])
theorem ZlT:wO (ZnQ (.ref n) (.int i) M) Q E=wL M[n]? (Zkv i M Q):=by
 show wO (match M[n]? with | some (.lst xs)=>if (-9223372036854775808<=i/\i < 9223372036854775808)/\xs.length * i.toNat<=100000 then Out.ok (.ref M.length) (M ++ [.lst (List.replicate i.toNat xs).flatten]) else .bad | none=> .bad) Q E=_
 cases e1:M[n]? with
 |none=>rfl
 |some o=>
  cases o with
  |lst xs=>
   show wO (if (-9223372036854775808<=i/\i < 9223372036854775808)/\xs.length * i.toNat<=100000 then Out.ok (.ref M.length) (M ++ [.lst (List.replicate i.toNat xs).flatten]) else .bad) Q E=Zkv i M Q xs
   unfold Zkv
   by_cases h:(-9223372036854775808<=i/\i < 9223372036854775808)/\xs.length * i.toNat<=100000
   ·rw[if_pos h];simp only[eq_true h,true_and];rfl
   ·rw[if_neg h];simp only[eq_false h,false_and];rfl
noncomputable def kEq (Q:D->Sto->Prop) (M:Sto) (b:Bool):Prop:=Q (.bl b) M
noncomputable def kNe (Q:D->Sto->Prop) (M:Sto) (b:Bool):Prop:=Q (.bl (!b)) M
theorem Zox:wO (dEq x y M) Q E=wG (eqF 12 M x y) (kEq Q M):=Zn5
theorem Zoy:wO (dNe x y M) Q E=wG (eqF 12 M x y) (kNe Q M):=Zn6
theorem Zoz:wO (dIs x y M) Q E=wG (isP x y) (kEq Q M):=Zn7
theorem ZlU:wO (ZfR x y M) Q E=wG (isP x y) (kNe Q M):=Zk8
theorem ZlV:wO (ZmE x y M) Q E=wG (inE x y M) (kEq Q M):=by unfold ZmE;cases inE x y M<;>rfl
theorem ZfC:wO (Zen x y M) Q E=wG (inE x y M) (kNe Q M):=by unfold Zen;cases inE x y M<;>rfl
theorem ZlW:wO (dIx (.tup xs) (.int i) M) Q E=wG (atI xs i) (kQ Q id M):=Zk9
theorem ZlX:wO (dIx (.rol xs) (.int i) M) Q E=wG (atI xs i) (kQ Q id M):=Zla
noncomputable def kIx (i:Int) (Q:D->Sto->Prop) (M:Sto) (xs:List D):Prop:=wG (atI xs i) (kQ Q id M)
theorem ZlY:wO (dIx (.ref n) (.int i) M) Q E=wL M[n]? (kIx i Q M):=Zlb
noncomputable def Zm9 (Q:D->Sto->Prop) (M:Sto) (xs:List D):Prop:=Q (.int xs.length) M
theorem Zj0:wO (bLen [.ref n] M) Q E=wL M[n]? (Zm9 Q M):=Zja
noncomputable def kLi (Q:D->Sto->Prop) (M:Sto) (xs:List D):Prop:=Q (.ref M.length) (M ++ [.lst xs])
theorem Zho:wO (bList [.ref n] M) Q E=wL M[n]? (kLi Q M):=Zhd
noncomputable def Zna (Q:D->Sto->Prop) (M:Sto) (bs:List Bool):Prop:=Q (.bl (bs.all id)) M
noncomputable def kAl (Q:D->Sto->Prop) (M:Sto) (xs:List D):Prop:=wG (ZaJ xs) (Zna Q M)
theorem ZlZ:wO (Zmz [.ref n] M) Q E=wL M[n]? (kAl Q M):=Zlf
noncomputable def Znb (g:List Int->Option Int) (Q:D->Sto->Prop) (M:Sto) (ns:List Int):Prop:=wG (g ns) (kQ Q .int M)
noncomputable def Znc (g:List Int->Option Int) (Q:D->Sto->Prop) (M:Sto) (xs:List D):Prop:=wG (Zam xs) (Znb g Q M)
theorem Zj1 {gi:List Int->Option Int}:wO (Zby gi [.ref n] M) Q E=wL M[n]? (Znc gi Q M):=Zjf
noncomputable def kMt (g:Me) (fs:Av) (ρ:Ro) (Q:D->Sto->Prop) (E:Str->Sto->Prop) (x:D) (M:Sto):Prop:=ZgT x M=true/\wO (fs ρ M) (kU (g x) Q E) E
theorem ZoA {me:Me} {fo:Ev}:wO (Zej me fo fs ρ M) Q E=wO (fo ρ M) (kMt me fs ρ Q E) E:=Zn8
noncomputable def Znd (n:Nat) (d:D) (Q:D->Sto->Prop) (M:Sto) (xs:List D):Prop:=xs.length < 10000000/\Q .non (M.set n (.lst (xs ++ [d])))
theorem Zl0:wO (mApp (.ref n) [d] M) Q E=wL M[n]? (Znd n d Q M):=Zlg
noncomputable def Zne (n:Nat) (Q:D->Sto->Prop) (M:Sto) (xs:List D):Prop:=Q .non (M.set n (.lst []))
theorem Zl1:wO (ZmC (.ref n) [] M) Q E=wL M[n]? (Zne n Q M):=Zlh
noncomputable def Zj2 (n:Nat) (xs:List D) (Q:D->Sto->Prop) (M:Sto) (ys:List D):Prop:=xs.length + ys.length<=10000000/\Q .non (M.set n (.lst (xs ++ ys)))
noncomputable def Znf (n m:Nat) (Q:D->Sto->Prop) (M:Sto) (xs:List D):Prop:=wL M[m]? (Zj2 n xs Q M)
theorem Zl2:wO (ZmD (.ref n) [.ref m] M) Q E=wL M[n]? (Znf n m Q M):=Zli
noncomputable def Zhp (Q:D->Sto->Prop) (M:Sto) (bs:List Bool):Prop:=wG (bs.findIdx? id) (kQ Q (fun (j:Nat)=> .int j) M)
noncomputable def Zng (d:D) (Q:D->Sto->Prop) (M:Sto) (xs:List D):Prop:=wG (eqs M d xs) (Zhp Q M)
theorem Zl3:wO (mIdx (.ref n) [d] M) Q E=wL M[n]? (Zng d Q M):=by
 show wO (match M[n]? with | some (.lst xs)=>(match eqs M d xs with | some bs=>(match bs.findIdx? id with | some j=>Out.ok (.int (j:Nat)) M | none=> .bad) | none=> .bad) | none=> .bad) Q E=_
 cases e1:M[n]? with
 |none=>rfl
 |some o=>
  cases o with
  |lst xs=>
   show wO (match eqs M d xs with | some bs=>(match bs.findIdx? id with | some j=>Out.ok (.int (j:Nat)) M | none=> .bad) | none=> .bad) Q E=wG (eqs M d xs) (Zhp Q M)
   cases eqs M d xs with
   |none=>rfl
   |some bs=>
    show wO (match bs.findIdx? id with | some j=>Out.ok (.int (j:Nat)) M | none=> .bad) Q E=wG (bs.findIdx? id) _
    cases bs.findIdx? id<;>rfl
noncomputable def kCn (Q:D->Sto->Prop) (M:Sto) (bs:List Bool):Prop:=Q (.int (bs.countP id:Nat)) M
noncomputable def Znh (d:D) (Q:D->Sto->Prop) (M:Sto) (xs:List D):Prop:=wG (eqs M d xs) (kCn Q M)
theorem Zj3:wO (ZnP (.ref n) [d] M) Q E=wL M[n]? (Znh d Q M):=by
 show wO (match M[n]? with | some (.lst xs)=>(match eqs M d xs with | some bs=>Out.ok (.int (bs.countP id:Nat)) M | none=> .bad) | none=> .bad) Q E=_
 cases e1:M[n]? with
 |none=>rfl
 |some o=>
  cases o with
  |lst xs=>
   show wO (match eqs M d xs with | some bs=>Out.ok (.int (bs.countP id:Nat)) M | none=> .bad) Q E=wG (eqs M d xs) (kCn Q M)
   cases eqs M d xs<;>rfl
noncomputable def Zni (l u:Option Int) (Q:D->Sto->Prop) (M:Sto) (xs:List D):Prop:=Q (.ref M.length) (M ++ [.lst (Zbx xs l u)])
noncomputable def Znj (x:D) (l:Option Int) (Q:D->Sto->Prop) (E:Str->Sto->Prop) (u:Option Int) (M:Sto):Prop:=wO (slR x l u M) Q E
noncomputable def Znk (x:D) (hi:Ro->Sto->Out (Option Int)) (ρ:Ro) (Q:D->Sto->Prop) (E:Str->Sto->Prop) (l:Option Int) (M:Sto):Prop:=wO (hi ρ M) (Znj x l Q E) E
noncomputable def Znl (lo hi:Ro->Sto->Out (Option Int)) (ρ:Ro) (Q:D->Sto->Prop) (E:Str->Sto->Prop) (x:D) (M:Sto):Prop:=wO (lo ρ M) (Znk x hi ρ Q E) E
theorem ZoB {lo hi:Ro->Sto->Out (Option Int)}:wO (eSl f lo hi ρ M) Q E=wO (f ρ M) (Znl lo hi ρ Q E) E:=Zlj
theorem Zl4 {l u':Option Int}:wO (slR (.ref n) l u' M) Q E=wL M[n]? (Zni l u' Q M):=Zlk
theorem Zl5 {QI:Option Int->Sto->Prop}:wO (oNo ρ M) QI E=QI none M:=rfl
noncomputable def Znm (Q:Option Int->Sto->Prop) (x:D) (M:Sto):Prop:=wI x (kQ Q some M)
theorem Zl6 {QI:Option Int->Sto->Prop}:wO (oSo f ρ M) QI E=wO (f ρ M) (Znm QI) E:=Zll
noncomputable def oRv (x:D) (M1:Sto):Out D:=match x with | .tup xs=> .ok (.tup xs.reverse) M1 | .ref n=>(match M1[n]? with | some (.lst xs)=> .ok (.ref M1.length) (M1 ++ [.lst xs.reverse]) | none=> .bad) | .rol xs=> .ok (.ref M1.length) (M1 ++ [.lst xs.reverse]) | _=> .bad
theorem ZoC:wO (eRv f ρ M) Q E=wO (f ρ M) (kU oRv Q E) E:=by unfold eRv;exact Zj
noncomputable def Zkw (Q:D->Sto->Prop) (M:Sto) (xs:List D):Prop:=Q (.ref M.length) (M ++ [.lst xs.reverse])
theorem Zl7:wO (oRv (.ref n) M) Q E=wL M[n]? (Zkw Q M):=by show wO (match M[n]? with | some (.lst xs)=>Out.ok (.ref M.length) (M ++ [.lst xs.reverse]) | none=> .bad) Q E=_;cases M[n]? with | none=>rfl | some o=>cases o with | lst xs=>rfl
theorem Zl8:wO (oRv (.tup xs) M) Q E=Q (.tup xs.reverse) M:=rfl
noncomputable def Znn (tab:List (Str × Bool)) (x:D) (M:Sto):Out D:=match x with | .err c _=>(match tab.lookup c with | some b=> .ok (.bl b) M | none=> .bad) | _=> .bad
theorem Zl9 {tab:List (Str × Bool)}:wO (ZmA tab f ρ M) Q E=wO (f ρ M) (kU (Znn tab) Q E) E:=by unfold ZmA;exact Zj
theorem Zj4 {tab:List (Str × Bool)} {c:Str}:wO (Znn tab (.err c xs) M) Q E=wG (tab.lookup c) (kEq Q M):=by show wO (match tab.lookup c with | some b=>Out.ok (.bl b) M | none=> .bad) Q E=_;cases tab.lookup c<;>rfl
theorem Zno {src:Src} {fr:List Nat} (Inv:Ro->Prop) (F:Nat->D) (hl:xs.length < 10000000) (hcnt:xs.length<=cnt src M) (h0:Inv (roB k fr ρ)) (hs: ∀ (L:Sto) (i:Nat),i<=xs.length->nxt src i (M ++ L)=some xs[i]?)
  (st: ∀ (i:Nat) (h:i < xs.length) (ρ:Ro) (L:Sto),Inv ρ->wG (tg xs[i] ρ) fun r=>Inv r/\wO (f r (M ++ L)) (fun y M2=>y=F i/\M2=M ++ L) (fun _ _=>False)) (hq:Q (.ref M.length) (M ++ [.lst ((List.range xs.length).map F)])):
  kCo tg (fun _ M=> .ok true M) f k fr ρ Q src M:=Zhk (Q:=fun M2=>Q (.ref M.length) M2) Inv F hl hcnt h0 hs st hq
theorem ZoD {fr:List Nat} (Inv:Ro->Prop) (F:Nat->D) (hl:n < 10000000) (h0:Inv (roB k fr ρ))
  (st: ∀ (i:Nat) (h:i < n) (ρ:Ro) (L:Sto),Inv ρ->wG (tg (.int i) ρ) fun r=>Inv r/\wO (f r (M ++ L)) (fun y M2=>y=F i/\M2=M ++ L) (fun _ _=>False)) (hq:Q (.ref M.length) (M ++ [.lst ((List.range n).map F)])):
  kCo tg (fun _ M=> .ok true M) f k fr ρ Q (.pur (Z8 0 n)) M:=by
 refine Zno (xs:=Z8 0 n) Inv F (by rw[ZcB];exact hl) (by simp[cnt]) h0 (fun L i hi=>rfl) (fun i hi ρ L hI=> ?_) (by rw[ZcB];exact hq)
 rw[Zhl]
 have:=st i (by rw[ZcB] at hi;exact hi) ρ L hI
 rw[show (0:Int) + (i:Nat)=i by omega]
 exact this
theorem ZoE {fr:List Nat} (Inv:Ro->Prop) (F:Nat->D) (hM:M[n]?=some (.lst xs)) (hl:xs.length < 10000000) (h0:Inv (roB k fr ρ))
  (st: ∀ (i:Nat) (h:i < xs.length) (ρ:Ro) (L:Sto),Inv ρ->wG (tg xs[i] ρ) fun r=>Inv r/\wO (f r (M ++ L)) (fun y M2=>y=F i/\M2=M ++ L) (fun _ _=>False)) (hq:Q (.ref M.length) (M ++ [.lst ((List.range xs.length).map F)])):
  kCo tg (fun _ M=> .ok true M) f k fr ρ Q (.sto n) M:=
 Zno (xs:=xs) Inv F hl (by rw[ZeB hM];exact Nat.le_refl _) h0 (fun L i hi=>by rw[Zf5];rw[List.getElem?_append_left (Zy hM)];exact hM) st hq
end
end DL
end
namespace DL
open PySem PySem.Spec L2
section
variable {Q:D->Sto->Prop} {E:Str->Sto->Prop} {M:Sto} {n:Nat}
theorem Zma:wO (bLR [.ref n] M) Q E=wL M[n]? (Zkw Q M):=by
 show wO (match M[n]? with | some (.lst xs)=>Out.ok (.ref M.length) (M ++ [.lst xs.reverse]) | none=> .bad) Q E=_
 cases M[n]? with
 |none=>rfl
 |some o=>cases o with | lst xs=>rfl
end
end DL
namespace DL
open PySem PySem.Spec L2
section
variable {E:Str->Sto->Prop} {N B C:Ro->Sto->Prop} {R:D->Sto->Prop} {ρ:Ro} {M:Sto} {fs:Av} {a b c d:Nat} {QS:Src->Sto->Prop} {tg:Tg} {bd:Sv} {xs ys zs ws:List D}
noncomputable def z3 (xs ys zs:List D) (L:Nat):List D:=(List.range L).map fun i=>D.tup [xs.getD i .non,ys.getD i .non,zs.getD i .non]
end
end DL
section
namespace DL
noncomputable abbrev Pt:=Int × Int
noncomputable def X (p q:Pt):Int:=p.1 * q.2 - p.2 * q.1
section
variable {rs:List Pt} {i j:Int} {k n:Nat} {p:Pt}
theorem ZaA {α:Type} {l:List α} {n:Nat} {d:α} (h:n < l.length):l.getD n d=l[n]:=by simp[List.getElem?_eq_getElem h]
theorem ZfD (h:0<=i/\i < rs.length):cy rs i=rs.getD i.toNat (0,0):=by
 unfold cy
 rw[Int.emod_eq_of_lt h.1 h.2]
theorem ZaE {m:Nat} (h:m≠0):(i % m).toNat < m/\0<=i % m:=by
 have:=Int.emod_lt_of_pos i (show (0:Int) < m by omega)
 have:=Int.emod_nonneg i (show (m:Int)≠0 by omega)
 omega
theorem Zj5 (h:rs≠[]):cy rs i∈rs:=by
 have hl:rs.length≠0:=by simpa using h
 unfold cy
 rw[ZaA (ZaE hl).1]
 exact List.getElem_mem _
theorem Zf6 {f:Pt->Pt} (h:rs≠[]):cy (rs.map f) i=f (cy rs i):=by
 have hl:rs.length≠0:=by simpa using h
 unfold cy
 rw[List.length_map,ZaA (by rw[List.length_map];exact (ZaE hl).1),ZaA (ZaE hl).1,List.getElem_map]
theorem Zhq {P:Pt->Pt->Prop} (hn:rs.length≠0) (h: ∀ i:Int,0<=i->i < rs.length->P (cy rs i) (cy rs (i + 1))) (i:Int):P (cy rs i) (cy rs (i + 1)):=by
 have e1:cy rs i=cy rs (i % rs.length):=ZeA.symm
 have e2:cy rs (i + 1)=cy rs (i % rs.length + 1):=by
  unfold cy
  rw[Int.emod_add_emod]
 rw[e1,e2]
 obtain ⟨a,b⟩:=ZaE (i:=i) hn
 exact h _ b (by omega)
noncomputable def cc (f:Pt->Pt->Nat):List Pt->Nat
 |a :: b :: r=>f a b + cc f (b :: r)
 |_=>0
noncomputable def cyc (f:Pt->Pt->Nat) (rs:List Pt):Nat:=cc f (rs ++ rs.take 1)
theorem Zc2 {f:Pt->Pt->Nat}: ∀ (L:List Pt) (a:Pt) (R:List Pt),cc f (L ++ a :: R)=cc f (L ++ [a]) + cc f (a :: R)
 | [],a,R=>by simp[cc]
 | [b],a,R=>by simp[cc]
 |b :: c :: L,a,R=>by
  have:=Zc2 (f:=f) (c :: L) a R
  simp only[List.cons_append,cc] at this ⊢
  omega
theorem Zf7 {f:Pt->Pt->Nat} {g:Pt->Pt}: ∀ (L:List Pt),cc f (L.map g)=cc (fun a b=>f (g a) (g b)) L
 | []=>rfl
 | [_]=>rfl
 |a :: b :: L=>by
  have:=Zf7 (f:=f) (g:=g) (b :: L)
  simp only[List.map_cons,cc] at this ⊢
  omega
theorem Zf8 {f:Pt->Pt->Nat}: ∀ (L:List Pt),cc f L.reverse=cc (fun a b=>f b a) L
 | []=>rfl
 | [_]=>rfl
 |a :: b :: L=>by
  have:=Zf8 (f:=f) (b :: L)
  rw[List.reverse_cons,List.reverse_cons,List.append_assoc,List.singleton_append,Zc2]
  rw[List.reverse_cons] at this
  simp only[cc] at this ⊢
  omega
theorem ZaQ {f:Pt->Pt->Nat} {a:Pt} {r:List Pt}:cyc f (a :: r)=cc f (a :: (r ++ [a])):=by simp[cyc]
theorem Zhr {f:Pt->Pt->Nat} (A B:List Pt):cyc f (A ++ B)=cyc f (B ++ A):=by
 cases A with
 |nil=>simp
 |cons a A=>
  cases B with
  |nil=>simp
  |cons b B=>
   rw[List.cons_append,ZaQ,List.cons_append,ZaQ]
   have e1:a :: (A ++ b :: B ++ [a])=(a :: A) ++ b :: (B ++ [a]):=by simp
   have e2:b :: (B ++ a :: A ++ [b])=(b :: B) ++ a :: (A ++ [b]):=by simp
   rw[e1,e2,Zc2 (a :: A) b,Zc2 (b :: B) a]
   simp only[List.cons_append]
   omega
theorem ZbD {f:Pt->Pt->Nat} {g:Pt->Pt} (L:List Pt):cyc f (L.map g)=cyc (fun a b=>f (g a) (g b)) L:=by
 unfold cyc
 rw[<- List.map_take,<- List.map_append,Zf7]
theorem ZeC {f:Pt->Pt->Nat} (L:List Pt):cyc f L.reverse=cyc (fun a b=>f b a) L:=by
 cases L with
 |nil=>rfl
 |cons a L=>
  rw[List.reverse_cons,Zhr,List.singleton_append,ZaQ,ZaQ,<- Zf8]
  congr 1
  simp
noncomputable def in1 (w a b:Pt):Nat:=if 0<=X a w/\0 < X w b then 1 else 0
noncomputable def in2 (w a b:Pt):Nat:=if 0 < X a w/\0<=X w b then 1 else 0
noncomputable def Fan (rs:List Pt):Prop:= ∀ w:Pt,w≠(0,0)->cyc (in1 w) rs=1/\cyc (in2 w) rs=1
theorem ZfE {p q:Pt}:X p q=0 - X q p:=by unfold X;grind
theorem Zmb {L R:List Pt} {a:Pt}:cy (L ++ a :: R) L.length=a:=by
 rw[ZfD (by simp;omega)]
 simp
theorem Zmc {L R:List Pt} {a b:Pt}:cy (L ++ a :: b :: R) (L.length + 1)=b:=by
 rw[ZfD (by simp;omega)]
 rw[show ((L.length:Int) + 1).toNat=L.length + 1 by omega]
 simp
theorem Zf9 {f:Pt->Pt} {s:Int} (hs:s=1\/s= -1) (hf: ∀ p q,X (f p) (f q)=s * X p q) (w:Pt) (hw:w≠(0,0)): ∃ w':Pt,w'≠(0,0)/\ ∀ a,X (f a) w=s * X a w':=by
 have d:=hf (1,0) (0,1)
 have d1:X (f (1,0)) (f (0,1))=s:=by rw[d];simp[X]
 have lin: ∀ a,(f a).1=a.1 * (f (1,0)).1 + a.2 * (f (0,1)).1/\(f a).2=a.1 * (f (1,0)).2 + a.2 * (f (0,1)).2:=by
  intro a
  have h1:=hf a (1,0)
  have h2:=hf a (0,1)
  generalize f a=u at *
  generalize f (1,0)=e1 at *
  generalize f (0,1)=e2 at *
  unfold X at *
  rcases hs with rfl | rfl<;>constructor<;>grind
 refine ⟨(X w (f (0,1)) * s,X (f (1,0)) w * s),?_,?_⟩
 ·intro z
  apply hw
  have z1:=congrArg Prod.fst z
  have z2:=congrArg Prod.snd z
  simp only at z1 z2
  generalize f (1,0)=e1 at *
  generalize f (0,1)=e2 at *
  unfold X at *
  apply Prod.ext
  ·rcases hs with rfl | rfl<;>simp only[]<;>grind
  ·rcases hs with rfl | rfl<;>simp only[]<;>grind
 ·intro a
  obtain ⟨l1,l2⟩:=lin a
  unfold X
  rw[l1,l2]
  rcases hs with rfl | rfl<;>simp only[]<;>grind
theorem Fan.map (h:Fan rs) {f:Pt->Pt} (hf: ∀ p q,X (f p) (f q)=X p q):Fan (rs.map f):=fun w hw=>by
 obtain ⟨w',hw',e⟩:=Zf9 (s:=1) (.inl rfl) (fun p q=>by rw[hf,Int.one_mul]) w hw
 have e2: ∀ a,X w (f a)=X w' a:=fun a=>by rw[ZfE,e,ZfE (p:=w')];omega
 have c1: ∀ a b,in1 w (f a) (f b)=in1 w' a b:=fun a b=>by unfold in1;rw[e,e2,Int.one_mul]
 have c2: ∀ a b,in2 w (f a) (f b)=in2 w' a b:=fun a b=>by unfold in2;rw[e,e2,Int.one_mul]
 rw[ZbD,ZbD,show (fun a b=>in1 w (f a) (f b))=in1 w' from funext fun a=>funext fun b=>c1 a b,show (fun a b=>in2 w (f a) (f b))=in2 w' from funext fun a=>funext fun b=>c2 a b]
 exact h w' hw'
theorem Fan.flip (h:Fan rs) {f:Pt->Pt} (hf: ∀ p q,X (f p) (f q)= -1 * X p q):Fan (rs.map f).reverse:=fun w hw=>by
 obtain ⟨w',hw',e⟩:=Zf9 (s:= -1) (.inr rfl) hf w hw
 have e2: ∀ a,X w (f a)= -1 * X w' a:=fun a=>by rw[ZfE,e,ZfE (p:=w')];omega
 have c1: ∀ a b,in1 w (f b) (f a)=in2 w' a b:=fun a b=>by
  unfold in1 in2
  rw[e,e2,ZfE (p:=b)]
  have:=ZfE (p:=a) (q:=w')
  simp only[show (0<= -1 * (0 - X w' b)/\0 < -1 * X w' a)=(0 < X a w'/\0<=X w' b) from propext ⟨fun _=>by omega,fun _=>by omega⟩]
 have c2: ∀ a b,in2 w (f b) (f a)=in1 w' a b:=fun a b=>by
  unfold in1 in2
  rw[e,e2,ZfE (p:=b)]
  have:=ZfE (p:=a) (q:=w')
  simp only[show (0 < -1 * (0 - X w' b)/\0<= -1 * X w' a)=(0<=X a w'/\0 < X w' b) from propext ⟨fun _=>by omega,fun _=>by omega⟩]
 rw[ZeC,ZeC,ZbD,ZbD,show (fun a b=>in1 w (f b) (f a))=in2 w' from funext fun a=>funext fun b=>c1 a b,show (fun a b=>in2 w (f b) (f a))=in1 w' from funext fun a=>funext fun b=>c2 a b]
 exact ⟨(h w' hw').2,(h w' hw').1⟩
structure Smo (rs:List Pt):Prop where
 len:3<=rs.length
 one: ∀ i:Int,X (cy rs i) (cy rs (i + 1))=1
 fan:Fan rs
noncomputable def Nr (b:Int) (rs:List Pt):Prop:= ∀ p∈rs,(-b<=p.1/\p.1<=b)/\ -b<=p.2/\p.2<=b
theorem Smo.ne (h:Smo rs):rs≠[]:=by
 intro z
 have:=h.len
 rw[z] at this
 simp at this
theorem Nr.cy {b:Int} (h:Nr b rs) (hn:rs≠[]) (i:Int):(-b<=(cy rs i).1/\(cy rs i).1<=b)/\ -b<=(cy rs i).2/\(cy rs i).2<=b:=h _ (Zj5 hn)
theorem Smo.map (h:Smo rs) {f:Pt->Pt} (hf: ∀ p q,X (f p) (f q)=X p q):Smo (rs.map f):=by
 refine ⟨by have:=h.len;simp;omega,fun i=> ?_,h.fan.map hf⟩
 rw[Zf6 h.ne,Zf6 h.ne,hf]
 exact h.one i
end
end DL
end
section
namespace CC
open PySem PySem.Spec L2 DL
noncomputable def Zca:Sv:=(Zae (e2 dSub (e2 dMul (e2 dIx (Zg 0) (eC (.int 0))) (e2 dIx (Zg 1) (eC (.int 1)))) (e2 dMul (e2 dIx (Zg 0) (eC (.int 1))) (e2 dIx (Zg 1) (eC (.int 0))))))
noncomputable def Zcb:List D->Sto->Out D:=fnF Zca 2 0
noncomputable def ZZ:Sv:=(Z3 (ZaI (gNm 2) (eC (.int 0)))
 (Z3 (sIf (tv (e2 dLt (Zg 1) (Zl bLen (Zd (Zg 0) aNil)))) (ZaI (gNm 2) (e2 dMod (e2 dIx (Zg 0) (Zg 1)) (e2 dPow (eC (.int 10)) (eC (.int 60))))) sNil)
 (Z3 (sIf (tv (e2 dLt (Zg 2) (e2 dPow (eC (.int 10)) (eC (.int 18))))) (Z3 (ZaI (gNm 3) (e2 dMod (e2 dMul (e2 dAdd (Zg 2) (e2 dMul (eC (.int 1442695040888963407)) (e2 dAdd (Zg 1) (eC (.int 1))))) (eC (.int 6364136223846793005))) (e2 dPow (eC (.int 10)) (eC (.int 37)))))
 (ZaI (gNm 2) (e2 dMod (e2 dDiv (e2 dMul (Zg 3) (Zg 3)) (e2 dPow (eC (.int 10)) (eC (.int 17)))) (e2 dPow (eC (.int 10)) (eC (.int 56)))))) sNil)
 (Zae (Zg 2)))))
noncomputable def F_law_cell_at:List D->Sto->Out D:=fnF ZZ 2 2
noncomputable def Zau:Sv:=(Zae (e2 dSub (e2 dMul (e2 dIx (Zg 0) (eC (.int 0))) (e2 dIx (Zg 1) (eC (.int 1)))) (e2 dMul (e2 dIx (Zg 0) (eC (.int 1))) (e2 dIx (Zg 1) (eC (.int 0))))))
noncomputable def F_law_cross:List D->Sto->Out D:=fnF Zau 2 0
noncomputable def Zaj:Sv:=(Z3 (ZaI (gNm 1) (Zl bLen (Zd (Zg 0) aNil)))
 (Zae (ZaZ (iR1 (Zd (Zg 1) aNil)) 1 [0,1] (gNm 0) (fun _ M=> .ok true M) (e2 dSub (eC (.int 0)) (Zl F_law_cross (Zd (e2 dIx (Zg 1) (e2 dSub (Zg 0) (eC (.int 1)))) (Zd (e2 dIx (Zg 1) (e2 dMod (e2 dAdd (Zg 0) (eC (.int 1))) (Zg 2))) aNil)))))))
noncomputable def F_law_tags:List D->Sto->Out D:=fnF Zaj 1 1
noncomputable def Zn:Sv:=(sIf (Zd5 (Zax (tv (ZdB "int" (Zg 2)))) (tv (ZdB "bool" (Zg 2)))) (Zae (eC (.bl false))) sNil)
noncomputable def Zz:Sv:=(Z3 (sIf (Zd5 (Zax (tv (ZdB "tuple" (Zg 1)))) (tv (e2 dNe (Zl bLen (Zd (Zg 1) aNil)) (eC (.int 2))))) (Zae (eC (.bl false))) sNil)
 (Zee (gNm 2) (Zg 1) Zn))
noncomputable def ZU:Sv:=(Z3 (sIf (Zax (tv (ZdB "list" (Zg 0)))) (Zae (eC (.bl false))) sNil)
 (Z3 (Zee (gNm 1) (Zg 0) Zz)
 (Zae (eC (.bl true)))))
noncomputable def F_law_are_rays:List D->Sto->Out D:=fnF ZU 1 2
end CC
end
open PySem PySem.Spec L2 DL
set_option hygiene false
set_option compiler.extract_closed false
local macro_rules | `(tactic| simp! [$ls,*]) => `(tactic| simp (implicitDefEqProofs := false) (disch := omega) only [Zof, y_c, y_v, ZjH, Zlu, ZjI, Zlv, Zlw, Zlx, ZjJ, Zlz, ZjK, Zog, Zoh, Zoi, ZlA, Zoj, ZlB, ZjL, ZlC, ZjM, Zok, ZlD, Zol, ZjN, ZlE, ZjO, ZlF, ZjP, ZlG, ZlH, ZlI, ZjQ, ZjR, Zom, Zon, ZlJ, ZlK, ZjS, ZlL, ZlM, Zhn, ZjT, ZjU, ZlN, ZjV, ZjW, ZjX, ZlO, ZjY, Zor, Zos, Zot, ZlP, ZlQ, ZlR, Zou, Zov, Zow, ZlS, ZlT, Zox, Zoy, Zoz, ZlU, ZlV, ZfC, ZlW, ZlX, ZlY, Zj0, Zho, ZlZ, Zj1, ZoA, Zl0, Zl1, Zl2, Zl3, Zj3, ZoB, Zl4, Zl5, Zl6, ZoC, Zl7, Zl8, Zl9, Zj4, kU, kQ, kB2, kB1, kA2, kA1, kTu, kLs, kTy, kIf, kTA, kTO, kTN, kSq, kDr, kSi, kAs, kAt, ZmL, kPa, ZmM, ZmN, ZmO, ZmP, ZmQ, ZmR, kPu, kRa, ZmS, ZmT, kR1, ZmU, ZmV, ZmW, kR2, kFo, kFs, kTr, ZmX, ZmY, kS1, ZmZ, Zm0, Zm1, kS2, Zm2, kEn, Zm3, Zm4, kZp, Zm5, Zm6, Zm7, kRv, ZjZ, Zm8, Zkv, kEq, kNe, kIx, Zm9, kLi, Zna, kAl, Znb, Znc, kMt, Znd, Zne, Zj2, Znf, Zhp, Zng, kCn, Znh, Zni, Znj, Znk, Znl, Znm, Zkw, Zfv, Zc1, Zhf, Zfy, Zfz, Zfw, Zfx, Zhg, ZfB, ZfA, Zhi, Zhh, ZhH, decide_eq_true, decide_eq_false, wF1, wF2, wF3, wF4, Zr, ZiW, ZnT, ZnU, ZnV, ZnW, ZnX, ZnY, ZnR, ZnS, Zk1, Zk2, Zk3, Zi8, Zk4, Zk5, Zk6, Zn1, Zn2, Zn3, Zn4, Zi9, Zjb, Zjc, Zlc, Zld, Zle, Zjd, Zje, Zhe, Zjg, Zjh, Zfu, Zlq, Zlr, Zls, Zlt, id, roB, at0, at1, at2, at3, gTp, gCs, gNl, gNm, List.set_cons_zero, List.set_cons_succ, List.getElem?_cons_zero, List.getElem?_cons_succ, List.length_cons, List.length_nil, List.length_append, List.length_map, List.map_cons, List.map_nil, List.cons_append, List.nil_append, List.append_assoc, List.append_nil, List.replicate_succ, List.replicate_zero, Option.join_some, Option.isSome_some, Zez, Zlm, Zdu, Zf1, Zln, Zji, Zjj, Zas, Zat, Zjn, Zn9, ZmG, Zjs, Zlp, Zjt, Zju, Zjv, Zjw, Zjx, Zjy, Zjz, ZjA, ZjB, ZjC, ZjD, ZjE, ZjF, ZjG, true_and, and_true, Bool.not_true, Bool.not_false, decide_true, decide_false, Nat.reduceAdd, Nat.reduceLeDiff, Nat.reduceLT, Nat.add_zero, Nat.zero_add, Int.reducePow, Int.reduceToNat, Int.reduceNeg, Int.reduceMod, Int.reduceDiv, Int.reduceAdd, Int.reduceSub, Int.reduceMul, Int.cast_ofNat_Int, Int.reduceEq, Int.reduceLT, Int.reduceLE, $ls,*])
set_option hygiene true
section
namespace CC
open PySem PySem.Spec L2 DL
section
variable {Q:D->Sto->Prop} {E:Str->Sto->Prop} {M:Sto} {a b c d i:Int} {n:Nat} {rs:List Pt}
theorem ZeD (ha: -(18446744073709551616) < a/\a < 18446744073709551616) (hb: -(18446744073709551616) < b/\b < 18446744073709551616):wO (Zcb [pr a b,pr c d] M) Q E=Q (.int (a * d - b * c)) M:=by
 simp![Zcb,Zca]
theorem ZeE (ha: -(18446744073709551616) < a/\a < 18446744073709551616) (hb: -(18446744073709551616) < b/\b < 18446744073709551616):wO (F_law_cross [pr a b,pr c d] M) Q E=Q (.int (a * d - b * c)) M:=ZeD ha hb
theorem Zhs {rs:List Pt} {i:Nat} (h:i < (prs rs).length):(prs rs)[i]=pr (cy rs i).1 (cy rs i).2:=by
 have h':i < rs.length:=by rw[Zas] at h;exact h
 rw[Zjm h']
 simp[prs]
theorem Nr.big {b:Int} {rs:List Pt} (h:Nr b rs) (hb:b<=18446744073709551615) (hn:rs≠[]) (i:Int):(-(18446744073709551616) < (cy rs i).1/\(cy rs i).1 < 18446744073709551616)/\(-(18446744073709551616) < (cy rs i).2/\(cy rs i).2 < 18446744073709551616):=by
 have:=Nr.cy h hn i
 omega
theorem Zj6 {i j:Int} (hi:0<=i/\i < 10 ^ 60) (hj:0<=j/\j < 10 ^ 60):ZD i j:=Zdi 200 200 (show i.natAbs < 2 ^ 200 by omega) (show j.natAbs < 2 ^ 200 by omega) (by decide) (by decide)
theorem Zcc {ns:List Int} {k:Nat} (q: ∀ c:Int,0<=c->Q (.int c) M):wO (F_law_cell_at [.rol (ns.map D.int),.int k] M) Q E:=by
 have tail: ∀ v:Int,0<=v->Q (.int v) M:=q
 simp![F_law_cell_at,ZZ]
 refine brS (fun h1=> ?_) (fun h1=> ?_)
 ·have h2:k < ns.length:=by simpa using h1
  simp![Zfr h2]
  obtain ⟨c,hc,c0⟩: ∃ c:Int,ns[k] % 1000000000000000000000000000000000000000000000000000000000000=c/\0<=c:=⟨_,rfl,by omega⟩
  rw[hc]
  refine brS (fun h1=> ?_) (fun h1=> ?_)
  ·simp![Zr]
   rw[Zc0 (Zj6 (by omega) (by omega))]
   simp![Zr]
   exact q _ (by omega)
  ·simp![Zr]
   exact q _ c0
 ·obtain ⟨c,hc,c0⟩: ∃ c:Int,0=c/\0<=c:=⟨_,rfl,by omega⟩
  rw[hc]
  simp![Zr]
  rw[Zc0 (Zj6 (by omega) (by omega))]
  simp![Zr]
  exact q _ (by omega)
theorem Zcd {xs:List Int}:Zam (nts xs)=some xs:=by
 induction xs with
 |nil=>rfl
 |cons x r ih=>show (match Zam (nts r) with | some bs=>some (x :: bs) | none=>none)=_;rw[ih]
end
end CC
end
section
namespace DL
noncomputable def T (rs:List Pt) (i:Int):Int:=0 - X (cy rs (i - 1)) (cy rs (i + 1))
noncomputable def ZaN (rs:List Pt):List Int:=(List.range rs.length).map fun (i:Nat)=>T rs i
section
variable {rs:List Pt} {k:Nat} {p:Pt} {j:Int}
end
end DL
namespace CC
open PySem PySem.Spec L2 DL
section
variable {Q:D->Sto->Prop} {E:Str->Sto->Prop} {M:Sto} {a b c d i:Int} {n:Nat} {rs:List Pt}
theorem Zga (h:M[n]?=some (.lst (prs rs))) (hn:0 < rs.length) (hl:rs.length<=1000) (hb:Nr 18446744073709551615 rs) (q:Q (.ref M.length) (M ++ [.lst (nts (ZaN rs))])):wO (F_law_tags [.ref n] M) Q E:=by
 have ne:rs≠[]:=by intro z;rw[z] at hn;simp at hn
 have hm:=Zy h
 simp![F_law_tags,Zaj,h]
 refine ⟨by omega,?_⟩
 rw[show ((rs.length:Int)).toNat=rs.length by omega]
 refine ZoD (fun ρ=> ∃ x,ρ=[x,some (.ref n),some (.int rs.length)]) (fun (i:Nat)=> .int (T rs i)) (by omega) ⟨_,rfl⟩ ?_ (by rw[Zhm];exact q)
 rintro i hi ρ L ⟨x,rfl⟩
 have e1:=ZaE (i:=(i:Int) + 1) (m:=rs.length) (by omega)
 have b1:=Nr.big hb (by decide) ne (i - 1)
 simp![h,Za3,ZeA,ZeE]
 exact ⟨⟨_,rfl⟩,rfl⟩
theorem Zdv (h:M[n]?=some (.lst (prs rs))) (q:Q (.bl true) M):wO (F_law_are_rays [.ref n] M) Q E:=by
 simp![F_law_are_rays,ZU,Zf4 h]
 refine ZcA (fun i ρ M'=>M'=M/\ ∃ x y,ρ=[some (.ref n),x,y]) h ⟨rfl,_,_,rfl⟩ (fun i ρ M' hI=>by rw[hI.1];exact h) ?_ ?_
 ·rintro i ρ M hi ⟨rfl,x,y,rfl⟩
  rw[Zhs]
  simp![Zz]
  generalize (cy rs i).1=u
  generalize (cy rs i).2=v
  refine ZbB (fun i ρ M'=>M'=M/\ ∃ y,ρ=[some (.ref n),some (pr u v),y]) [.int u,.int v] 0 _ _ ⟨rfl,_,rfl⟩ ?_ ?_
  ·rintro j ρ M hj ⟨rfl,y,rfl⟩
   have:j=0\/j=1:=by simp at hj;omega
   rcases this with rfl | rfl
   ·simp![Zn,List.getElem_cons_zero]
    exact ⟨_,rfl⟩
   ·simp![Zn,List.getElem_cons_succ,List.getElem_cons_zero]
    exact ⟨_,rfl⟩
  ·rintro ρ M ⟨rfl,y,rfl⟩
   exact ⟨rfl,_,_,rfl⟩
 ·rintro ρ M ⟨rfl,x,y,rfl⟩
  simp![Zr]
  exact q
end
end CC
end
section
namespace DL
section
variable {rs:List Pt} {k:Nat} {p:Pt} {j:Int}
end
end DL
end
section
namespace DL
noncomputable def nm (p:Pt):Int:=p.1 * p.1 + p.2 * p.2
end DL
namespace DL
section
variable {rs:List Pt} {k:Nat}
end
end DL
end
section
namespace CE
open PySem PySem.Spec L2 DL
end CE
end
section
namespace CE
open PySem PySem.Spec L2 DL
section
variable {Q:D->Sto->Prop} {E:Str->Sto->Prop} {M:Sto} {a b c d i:Int} {n:Nat} {rs:List Pt}
end
end CE
end
section
namespace CF
open PySem PySem.Spec L2 DL CC
end CF
end
section
namespace CF
open PySem PySem.Spec L2 DL
section
variable {Q:D->Sto->Prop} {E:Str->Sto->Prop} {M:Sto} {a b c d i:Int} {n:Nat} {rs:List Pt}
end
end CF
end
section
namespace DL
open PySem PySem.Spec L2 DL
section
variable {M:Sto}
end
end DL
end
section
namespace CB
open PySem PySem.Spec L2 DL
end CB
end
section
namespace DL
noncomputable def hj (t b:Int):List Int:=if h:0 < b then -((-t) / b) :: hj b (-((-t) / b) * b - t) else []
termination_by b.toNat
decreasing_by
 have h1:=Int.emod_nonneg (-t) (show b≠0 by omega)
 have h2:=Int.emod_lt_of_pos (-t) h
 have h3:=Int.emod_add_mul_ediv (-t) b
 rw[Int.neg_mul,Int.mul_comm]
 omega
end DL
namespace CB
open PySem PySem.Spec L2 DL
section
variable {Q:D->Sto->Prop} {E:Str->Sto->Prop} {M:Sto} {a b c d i:Int} {n m:Nat} {u v w:Pt}
noncomputable abbrev Bd (b:Int) (p:Pt):Prop:=(-b<=p.1/\p.1<=b)/\ -b<=p.2/\p.2<=b
structure Wg (u v:Pt):Prop where
 gu:Int.gcd u.1 u.2=1
 gv:Int.gcd v.1 v.2=1
 bu:Bd 1000 u
 bv:Bd 1000 v
 pos:0 < X u v
theorem Wg.le (h:Wg u v):X u v<=2000000:=by
 obtain ⟨_,_,⟨⟨a1,a2⟩,a3,a4⟩,⟨⟨b1,b2⟩,b3,b4⟩,_⟩:=h
 have m: ∀ x y:Int,-1000<=x->x<=1000-> -1000<=y->y<=1000->(x * y).natAbs<=1000 * 1000:=by
  intro x y _ _ _ _
  rw[Int.natAbs_mul]
  exact Nat.mul_le_mul (by omega) (by omega)
 have p1:=m u.1 v.2 a1 a2 b3 b4
 have p2:=m u.2 v.1 a3 a4 b1 b2
 unfold X
 omega
structure Fb (u v w:Pt):Prop where
 one:X u w=1
 lo:0<=X w v
 hi:X w v < X u v
theorem Fb.uniq {w w':Pt} (h:Fb u v w) (k:Fb u v w'):w=w':=by
 obtain ⟨h1,a1,a2⟩:=h
 obtain ⟨h2,b1,b2⟩:=k
 have e1:w'.1=X w' w * u.1 + w.1/\w'.2=X w' w * u.2 + w.2:=by unfold X at *;constructor<;>grind
 have e2:X w' v=X w' w * X u v + X w v:=by
  have:X w' v=X (X w' w * u.1 + w.1,X w' w * u.2 + w.2) v:=by rw[<- e1.1,<- e1.2]
  rw[this]
  unfold X
  simp only
  grind
 generalize X w' w=k at *
 have k0:k=0:=by
  apply Classical.byContradiction
  intro c
  by_cases p:1<=k
  ·have:1 * X u v<=k * X u v:=Int.mul_le_mul_of_nonneg_right p (by omega)
   omega
  ·have:k * X u v<=(-1) * X u v:=Int.mul_le_mul_of_nonneg_right (by omega) (by omega)
   omega
 rw[k0] at e1
 apply Prod.ext<;>omega
noncomputable def btw:Pt->Pt->List Int->List Pt
 |_,_,[]=>[]
 |a,r,k :: ks=>r :: btw r (k * r.1 - a.1,k * r.2 - a.2) ks
end
end CB
end
section
namespace CB
open PySem PySem.Spec L2 DL
section
variable {Q:D->Sto->Prop} {E:Str->Sto->Prop} {M:Sto} {a b c d i:Int} {n m:Nat} {u v w:Pt}
noncomputable def Ch:List Pt->Prop
 |a :: b :: r=>X a b=1/\Ch (b :: r)
 |_=>True
noncomputable def Tr (a b d:Pt):Prop:= ∃ k:Int,2<=k/\a.1 + d.1=k * b.1/\a.2 + d.2=k * b.2
noncomputable def Cv:List Pt->Prop
 |a :: b :: d :: r=>Tr a b d/\Cv (b :: d :: r)
 |_=>True
end
section
variable {u v w:Pt}
end
end CB
end
section
namespace CA
open PySem PySem.Spec L2 DL
end CA
end
section
namespace CA
open PySem PySem.Spec L2 DL
section
variable {Q:D->Sto->Prop} {E:Str->Sto->Prop} {M:Sto} {a b c d i:Int} {n m:Nat} {rs:List Pt}
theorem Gr.up {k:Nat} {M M1:Sto} {o:SO} (h:M[k]?=some o) (g:Gr n M M1) (hk:k≠n):M1[k]?=some o:=by
 rw[g.keep k hk (Zy h)]
 exact h
end
end CA
end
section
namespace CY
open PySem PySem.Spec L2 DL CA
end CY
end
section
namespace CY
open PySem PySem.Spec L2 DL
section
variable {Q:D->Sto->Prop} {E:Str->Sto->Prop} {M:Sto} {n m:Nat} {rs:List Pt}
end
end CY
end
section
namespace CR
open PySem PySem.Spec L2 DL
end CR
end
section
namespace CR
open PySem PySem.Spec L2 DL
noncomputable abbrev rt (q:Rat):D:=pr q.num (q.den:Int)
section
variable {Q:D->Sto->Prop} {E:Str->Sto->Prop} {M:Sto} {k l:Nat} {p q:Rat}
end
end CR
end
section
namespace CH
open PySem PySem.Spec L2 DL CA CR
end CH
end
section
namespace CH
open PySem PySem.Spec L2 DL
open CR (rt)
section
variable {Q:D->Sto->Prop} {E:Str->Sto->Prop} {M:Sto} {n:Nat}
end
end CH
end
section
namespace CS
open PySem PySem.Spec L2 DL CC CR
end CS
end
section
namespace CS
open PySem PySem.Spec L2 DL
open CR (rt)
section
variable {Q:D->Sto->Prop} {E:Str->Sto->Prop} {M:Sto} {k l:Nat} {p q:Rat}
end
end CS
end
section
namespace CN
open PySem PySem.Spec L2 DL
end CN
end
section
namespace CN
open PySem PySem.Spec L2 DL
open CR (rt)
noncomputable def cq (hs:List Rat) (i:Int):Rat:=hs.getD (i % hs.length).toNat 0
section
variable {Q:D->Sto->Prop} {E:Str->Sto->Prop} {M:Sto} {k l:Nat} {p q:Rat} {n m:Nat} {rs:List Pt} {hs:List Rat} {i:Int}
end
end CN
end
section
namespace CN
open PySem PySem.Spec L2 DL
open CR (rt)
section
variable {Q:D->Sto->Prop} {E:Str->Sto->Prop} {M:Sto} {k l:Nat} {p q:Rat} {n m:Nat} {rs:List Pt} {hs:List Rat} {i:Int}
theorem Zht {ts:List Int} {i:Nat} (h:i < (nts ts).length):(nts ts)[i]= .int (cn ts i):=by
 rw[Zat] at h
 rw[Zf3 h]
 simp[nts]
end
end CN
end
section
namespace CN
open PySem PySem.Spec L2 DL
open CR (rt)
end CN
end
section
namespace CU
open PySem PySem.Spec L2 DL
end CU
end
section
namespace CU
open PySem PySem.Spec L2 DL
open CR (rt)
open CN CS
noncomputable def thr (rs:List Pt) (hs:List Rat):Rat × Rat:=(cq hs 0 * (cy rs 1).2 - cq hs 1 * (cy rs 0).2,cq hs 1 * (cy rs 0).1 - cq hs 0 * (cy rs 1).1)
noncomputable abbrev rp (m:Rat × Rat):D:= .tup [rt m.1,rt m.2]
section
variable {Q:D->Sto->Prop} {E:Str->Sto->Prop} {M:Sto} {k l:Nat} {p q:Rat} {n m o:Nat} {rs:List Pt} {hs xs ys:List Rat} {i:Int}
end
end CU
end
section
namespace CV
open PySem PySem.Spec L2 DL
open CR (rt)
open CN CU CS
noncomputable def Kp (M M':Sto):Prop:=M.length<=M'.length/\ ∀ j < M.length,M'[j]?=M[j]?
section
variable {M M' M1 M2:Sto} {o:SO} {j:Nat}
theorem Kp.get (k:Kp M M') (h:M[j]?=some o):M'[j]?=some o:=(k.2 _ (Zy h)).trans h
theorem Kp.refl:Kp M M:=⟨Nat.le_refl _,fun _ _=>rfl⟩
theorem Kp.trans (a:Kp M M1) (b:Kp M1 M2):Kp M M2:=⟨Nat.le_trans a.1 b.1,fun j h=>(b.2 j (Nat.lt_of_lt_of_le h a.1)).trans (a.2 j h)⟩
theorem Kp.app {L:Sto}:Kp M (M ++ L):=⟨by simp,fun j h=>Zdu h⟩
theorem Kp.set (a:Kp M M1) (h:M.length<=j):Kp M (M1.set j o):=⟨by rw[List.length_set];exact a.1,fun i hi=>by rw[List.getElem?_set_ne (by omega)];exact a.2 i hi⟩
end
section
variable {Q:D->Sto->Prop} {E:Str->Sto->Prop} {M:Sto} {k l:Nat} {p q:Rat} {n m o:Nat} {rs:List Pt} {hs xs ys zs u v:List Rat} {i:Int} {f:Ev} {ρ:Ro} {mu mv N:Nat}
end
end CV
end
section
namespace CW
open PySem PySem.Spec L2 DL
open CC (F_law_tags F_law_are_rays)
end CW
end
section
namespace CW
open PySem PySem.Spec L2 DL
open CV
section
variable {Q:D->Sto->Prop} {E:Str->Sto->Prop} {M:Sto} {n m:Nat} {rs:List Pt}
end
end CW
end
section
namespace CB
open PySem PySem.Spec L2 DL
theorem mid {a b p w:Pt} (h1:0 < X a p) (h2:0 < X p b) (h:0 < X a b):in1 w a b=in1 w a p + in1 w p b/\in2 w a b=in2 w a p + in2 w p b:=by
 have e:X a b * X p w=X p b * X a w - X a p * X w b:=by unfold X;grind
 have s:=ZfE (p:=w) (q:=p)
 have k1:0<=X a w->0<=X p b * X a w:=fun z=>Int.mul_nonneg (by omega) z
 have k2:0 < X a w->0 < X p b * X a w:=fun z=>Int.mul_pos h2 z
 have k3:X a w<=0->X p b * X a w<=0:=fun z=>Int.mul_nonpos_of_nonneg_of_nonpos (by omega) z
 have k3':X a w < 0->X p b * X a w < 0:=fun z=>Int.mul_neg_of_pos_of_neg h2 z
 have l1:0<=X w b->0<=X a p * X w b:=fun z=>Int.mul_nonneg (by omega) z
 have l2:0 < X w b->0 < X a p * X w b:=fun z=>Int.mul_pos h1 z
 have l3:X w b<=0->X a p * X w b<=0:=fun z=>Int.mul_nonpos_of_nonneg_of_nonpos (by omega) z
 have l3':X w b < 0->X a p * X w b < 0:=fun z=>Int.mul_neg_of_pos_of_neg h1 z
 have m1:0<=X p w->0<=X a b * X p w:=fun z=>Int.mul_nonneg (by omega) z
 have m2:0 < X p w->0 < X a b * X p w:=fun z=>Int.mul_pos h z
 have m3:X p w<=0->X a b * X p w<=0:=fun z=>Int.mul_nonpos_of_nonneg_of_nonpos (by omega) z
 have m3':X p w < 0->X a b * X p w < 0:=fun z=>Int.mul_neg_of_pos_of_neg h z
 unfold in1 in2
 rw[s]
 generalize X a b * X p w=z at *
 generalize X p b * X a w=y at *
 generalize X a p * X w b=x at *
 generalize X a w=aw at *
 generalize X w b=wb at *
 generalize X p w=pw at *
 constructor
 all_goals
  repeat' split
  all_goals omega
end CB
end
section
namespace CL
open PySem PySem.Spec L2 DL
end CL
end
section
namespace CL
open PySem PySem.Spec L2 DL
open CV CB
section
variable {Q:D->Sto->Prop} {E:Str->Sto->Prop} {M:Sto} {n:Nat}
end
end CL
end
section
namespace TW
open DL
noncomputable def nx (b:Int) (p q:Pt):Pt:=(0 - b * q.1 - p.1,0 - b * q.2 - p.2)
noncomputable def ng (p:Pt):Pt:=(0 - p.1,0 - p.2)
noncomputable def run (p q:Pt):List Int->Pt × Pt
 | []=>(p,q)
 |b :: bs=>run q (nx b p q) bs
noncomputable def ew (p q:Pt):Nat:=in1 (1,0) p q + in1 (-1,0) p q
noncomputable def tot (p q:Pt):List Int->Int
 | []=>0
 |b :: bs=>6 * (ew p q:Int) - b - 3 + tot q (nx b p q) bs
theorem ZfF {p q:Pt} {b:Int} (h:X p q=1):X q (nx b p q)=1:=by unfold X nx at *;simp only;grind
theorem Zhu: ∀ (bs:List Int) {p q:Pt},X p q=1->X (run p q bs).1 (run p q bs).2=1
 | [],_,_,h=>h
 |b :: bs,_,_,h=>Zhu bs (ZfF h)
theorem ZL: ∀ (xs ys:List Int) (p q:Pt),run p q (xs ++ ys)=run (run p q xs).1 (run p q xs).2 ys
 | [],_,_,_=>rfl
 |b :: xs,ys,p,q=>ZL xs ys q (nx b p q)
theorem ZP: ∀ (xs ys:List Int) (p q:Pt),tot p q (xs ++ ys)=tot p q xs + tot (run p q xs).1 (run p q xs).2 ys
 | [],_,_,_=>by simp[tot,run]
 |b :: xs,ys,p,q=>by
  have:=ZP xs ys q (nx b p q)
  simp only[List.cons_append,tot,run] at *
  omega
theorem Zj7 {b:Int} {p q:Pt}:nx b (ng p) (ng q)=ng (nx b p q):=by unfold nx ng;simp only[Prod.mk.injEq];constructor<;>grind
theorem Zhv {p:Pt}:ng (ng p)=p:=by unfold ng;ext<;>simp
theorem Zmd {p q:Pt}:ew (ng p) (ng q)=ew p q:=by
 have e: ∀ (w a b:Pt),in1 w (ng a) (ng b)=in1 (ng w) a b:=by
  intro w a b
  have h1:X (ng a) w=X a (ng w):=by unfold X ng;simp only;grind
  have h2:X w (ng b)=X (ng w) b:=by unfold X ng;simp only;grind
  unfold in1
  rw[h1,h2]
 unfold ew
 rw[e,e,show ng (1,0)=(-1,0) from rfl,show ng (-1,0)=(1,0) from rfl,Nat.add_comm]
theorem Zc3: ∀ (bs:List Int) (p q:Pt),run (ng p) (ng q) bs=(ng (run p q bs).1,ng (run p q bs).2)
 | [],_,_=>rfl
 |b :: bs,p,q=>by rw[run,run,Zj7,Zc3 bs]
theorem Zc4: ∀ (bs:List Int) (p q:Pt),tot (ng p) (ng q) bs=tot p q bs
 | [],_,_=>rfl
 |b :: bs,p,q=>by rw[tot,tot,Zj7,Zc4 bs,Zmd]
noncomputable def Sg (s:Bool) (p:Pt):Pt:=if s=true then ng p else p
theorem Zj8 {s:Bool} {bs:List Int} {p q:Pt}:run (Sg s p) (Sg s q) bs=(Sg s (run p q bs).1,Sg s (run p q bs).2):=by
 cases s
 ·rfl
 ·exact Zc3 bs p q
theorem Zj9 {s:Bool} {bs:List Int} {p q:Pt}:tot (Sg s p) (Sg s q) bs=tot p q bs:=by
 cases s
 ·rfl
 ·exact Zc4 bs p q
theorem ZcC {a m:Pt} (h:0 < X a m):ew a m + ew m (ng a)=1:=by
 have z: ¬ (a.2=0/\m.2=0):=by
  intro z
  unfold X at h
  rw[z.1,z.2] at h
  simp at h
 have f: ∀ (w p q:Pt) (x y:Int),X p w=x->X w q=y->in1 w p q=if 0<=x/\0 < y then 1 else 0:=by
  intro w p q x y h1 h2
  unfold in1
  rw[h1,h2]
 unfold ew
 rw[f (1,0) a m (0 - a.2) m.2 (by unfold X;simp) (by unfold X;simp),f (-1,0) a m a.2 (0 - m.2) (by unfold X;simp) (by unfold X;simp),f (1,0) m (ng a) (0 - m.2) (0 - a.2) (by unfold X;simp) (by unfold X ng;simp),f (-1,0) m (ng a) m.2 a.2 (by unfold X;simp) (by unfold X ng;simp)]
 generalize a.2=x at *
 generalize m.2=y at *
 repeat' split
 all_goals omega
theorem Zgb {a b p:Pt} (h1:0 < X a p) (h2:0 < X p b) (h:0 < X a b):ew a b=ew a p + ew p b:=by
 have m1:=(CB.mid (w:=(1,0)) h1 h2 h).1
 have m2:=(CB.mid (w:=(-1,0)) h1 h2 h).1
 unfold ew
 omega
theorem Zme {p q:Pt} {c d:Int} (h:X p q=1):run p q [c,-1,d]=run p q [c + 1,d + 1]/\tot p q [c,-1,d]=tot p q [c + 1,d + 1]:=by
 have e1:nx (-1) q (nx c p q)=nx (c + 1) p q:=by unfold nx;simp only[Prod.mk.injEq];constructor<;>grind
 have e2:nx d (nx c p q) (nx (-1) q (nx c p q))=nx (d + 1) q (nx (c + 1) p q):=by unfold nx;simp only[Prod.mk.injEq];constructor<;>grind
 have x1:X q (nx c p q)=1:=ZfF h
 have x2:X (nx c p q) (nx (c + 1) p q)=1:=by rw[<- e1];exact ZfF x1
 have x3:X q (nx (c + 1) p q)=1:=ZfF h
 have k:=Zgb (a:=q) (b:=nx (c + 1) p q) (p:=nx c p q) (by omega) (by omega) (by omega)
 constructor
 ·simp only[run]
  rw[e2,e1]
 ·simp only[tot]
  rw[e1]
  omega
theorem Zmf {p q:Pt} {c d:Int} (h:X p q=1):run p q [c,0,d]=(ng (run p q [c + d]).1,ng (run p q [c + d]).2)/\tot p q [c,0,d]=tot p q [c + d]:=by
 have e1:nx 0 q (nx c p q)=ng q:=by unfold nx ng;simp only[Prod.mk.injEq];constructor<;>grind
 have e2:nx d (nx c p q) (ng q)=ng (nx (c + d) p q):=by unfold nx ng;simp only[Prod.mk.injEq];constructor<;>grind
 have x1:X q (nx c p q)=1:=ZfF h
 have k:=ZcC (a:=q) (m:=nx c p q) (by omega)
 constructor
 ·simp only[run]
  rw[e1,e2]
 ·simp only[tot]
  rw[e1]
  omega
theorem Zmg {p q:Pt} {c d:Int} (h:X p q=1):run p q [c,1,d]=(ng (run p q [c - 1,d - 1]).1,ng (run p q [c - 1,d - 1]).2)/\tot p q [c,1,d]=tot p q [c - 1,d - 1]:=by
 have e1:nx 1 q (nx c p q)=ng (nx (c - 1) p q):=by unfold nx ng;simp only[Prod.mk.injEq];constructor<;>grind
 have e2:nx d (nx c p q) (ng (nx (c - 1) p q))=ng (nx (d - 1) q (nx (c - 1) p q)):=by unfold nx ng;simp only[Prod.mk.injEq];constructor<;>grind
 have x1:X q (nx c p q)=1:=ZfF h
 have x3:X q (nx (c - 1) p q)=1:=ZfF h
 have x2:X (nx (c - 1) p q) (nx c p q)=1:=by
  have:X (nx (c - 1) p q) (nx c p q)=X q (nx c p q):=by unfold X nx;simp only;grind
  omega
 have k1:=Zgb (a:=q) (b:=nx c p q) (p:=nx (c - 1) p q) (by omega) (by omega) (by omega)
 have k2:=ZcC (a:=nx (c - 1) p q) (m:=nx c p q) (by omega)
 constructor
 ·simp only[run]
  rw[e1,e2]
 ·simp only[tot]
  rw[e1]
  omega
theorem Znp {p:Pt}: ∀ (bs:List Int) (u v:Pt),(∀ b∈bs,2<=b\/b<= -2)->(X p u).natAbs < (X p v).natAbs->(X p (run u v bs).1).natAbs < (X p (run u v bs).2).natAbs
 | [],_,_,_,h=>h
 |b :: bs,u,v,hb,h=>by
  refine Znp bs v (nx b u v) (fun c hc=>hb c (by simp[hc])) ?_
  have e:X p (nx b u v)= -(b * X p v) - X p u:=by unfold X nx;simp only;grind
  have hb':=hb b (by simp)
  have m:2 * (X p v).natAbs<=(b * X p v).natAbs:=by
   rw[Int.natAbs_mul]
   exact Nat.mul_le_mul_right _ (by omega)
  rw[e]
  omega
theorem red {n:Nat} (ih: ∀ m,m < n-> ∀ (bs:List Int) (p q:Pt) (s:Bool),bs.length=m->X p q=1->run p q bs=(Sg s p,Sg s q)->tot p q bs=0) {xs Y:List Int} {c b d:Int} {p q:Pt} {s:Bool} (hn:(xs ++ ([c,b,d] ++ Y)).length=n) (hb: ¬ (2<=b\/b<= -2)) (hX:X p q=1) (hr:run p q (xs ++ ([c,b,d] ++ Y))=(Sg s p,Sg s q)):tot p q (xs ++ ([c,b,d] ++ Y))=0:=by
 simp at hn
 rw[ZL] at hr
 rw[ZP]
 have hx:=Zhu xs hX
 have flip: ∀ (R:Pt × Pt),(ng R.1,ng R.2)=(Sg s p,Sg s q)->R=(Sg (!s) p,Sg (!s) q):=by
  intro R h
  have a1:=congrArg (fun x=>ng x.1) h
  have a2:=congrArg (fun x=>ng x.2) h
  simp only[Zhv] at a1 a2
  apply Prod.ext
  ·simp only[a1];cases s<;>simp[Sg,Zhv]
  ·simp only[a2];cases s<;>simp[Sg,Zhv]
 have:b= -1\/b=0\/b=1:=by omega
 rcases this with rfl | rfl | rfl
 ·obtain ⟨c1,c2⟩:=Zme (c:=c) (d:=d) hx
  rw[ZL,c1,<- ZL,<- ZL] at hr
  rw[ZP,c1,c2,<- ZP,<- ZP]
  exact ih (xs ++ ([c + 1,d + 1] ++ Y)).length (by simp;omega) _ _ _ s rfl hX hr
 ·obtain ⟨c1,c2⟩:=Zmf (c:=c) (d:=d) hx
  rw[ZL,c1,Zc3,<- ZL,<- ZL] at hr
  rw[ZP,c1,c2,Zc4,<- ZP,<- ZP]
  exact ih (xs ++ ([c + d] ++ Y)).length (by simp;omega) _ _ _ (!s) rfl hX (flip _ hr)
 ·obtain ⟨c1,c2⟩:=Zmg (c:=c) (d:=d) hx
  rw[ZL,c1,Zc3,<- ZL,<- ZL] at hr
  rw[ZP,c1,c2,Zc4,<- ZP,<- ZP]
  exact ih (xs ++ ([c - 1,d - 1] ++ Y)).length (by simp;omega) _ _ _ (!s) rfl hX (flip _ hr)
theorem Zka: ∀ (n:Nat) (bs:List Int) (p q:Pt) (s:Bool),bs.length=n->X p q=1->run p q bs=(Sg s p,Sg s q)->tot p q bs=0:=by
 intro n
 induction n using Nat.strongRecOn with
 |ind n ih=>
  intro bs p q s hn hX hr
  rcases List.eq_nil_or_concat bs with rfl | ⟨L,z,rfl⟩
  ·rfl
  rw[List.concat_eq_append] at hn hr ⊢
  have hr0:=hr
  rw[ZL] at hr
  have hq:(run p q L).2=Sg s p:=congrArg Prod.fst hr
  have hX':=Zhu L hX
  have xp:X p p=0:=by unfold X;grind
  have key: ∃ b∈L,¬ (2<=b\/b<= -2):=by
   apply Classical.byContradiction
   intro c
   have:=Znp (p:=p) L p q (fun b hb=>Classical.byContradiction fun d=>c ⟨b,hb,d⟩) (by rw[hX,xp];decide)
   rw[hq] at this
   have z:X p (Sg s p)=0:=by
    cases s
    ·exact xp
    ·have:X p (ng p)= -X p p:=by unfold X ng;simp only;grind
     show X p (ng p)=0
     omega
   rw[z] at this
   simp at this
  obtain ⟨b,hbL,hb⟩:=key
  obtain ⟨A,B,rfl⟩:=List.append_of_mem hbL
  rcases List.eq_nil_or_concat A with rfl | ⟨xs,c,rfl⟩
  ·cases B with
   |cons d B=>
    have e1:run (run p q ([] ++ b :: d :: B)).1 (run p q ([] ++ b :: d :: B)).2 ([z] ++ (b :: d :: B))=(Sg s (run p q ([] ++ b :: d :: B)).1,Sg s (run p q ([] ++ b :: d :: B)).2):=by
     rw[ZL,hr,Zj8,List.nil_append]
    have e2:tot (run p q ([] ++ b :: d :: B)).1 (run p q ([] ++ b :: d :: B)).2 ([z] ++ (b :: d :: B))=tot p q (([] ++ b :: d :: B) ++ [z]):=by
     rw[ZP,hr,Zj9,ZP,List.nil_append]
     omega
    rw[<- e2]
    exact red ih (xs:=[]) (c:=z) (b:=b) (d:=d) (Y:=B) (by simp at hn ⊢;omega) hb hX' e1
   |nil=>
    have h1:=congrArg Prod.fst hr0
    have h2:=congrArg Prod.snd hr0
    simp only[List.nil_append,List.cons_append,run] at h1 h2
    have b0:b=0:=by
     have:=congrArg (X p) h1
     have e:X p (nx b p q)= -b * X p q:=by unfold X nx;simp only;grind
     have z:X p (Sg s p)=0:=by
      cases s
      ·exact xp
      ·have:X p (ng p)= -X p p:=by unfold X ng;simp only;grind
       show X p (ng p)=0
       omega
     rw[e,z,hX] at this
     omega
    subst b0
    have n1:nx 0 p q=ng p:=by unfold nx ng;simp only[Prod.mk.injEq];constructor<;>grind
    rw[n1] at h1 h2
    have z0:z=0:=by
     cases s
     ·exfalso
      have:X p q=X (ng p) q:=by rw[h1];rfl
      have e:X (ng p) q= -X p q:=by unfold X ng;simp only;grind
      omega
     ·have:=congrArg (X q) h2
      have e:X q (nx z q (ng p))= -z * X q (ng p):=by unfold X nx;simp only;grind
      have e2:X q (ng p)=X p q:=by unfold X ng;simp only;grind
      have e3:X q (Sg true q)=0:=by
       show X q (ng q)=0
       unfold X ng;simp only;grind
      rw[e,e2,e3,hX] at this
      omega
    subst z0
    have k:=ZcC (a:=p) (m:=q) (by omega)
    simp only[List.nil_append,List.cons_append,tot]
    rw[n1]
    omega
  ·rw[List.concat_eq_append] at hn hr0 ⊢
   obtain ⟨d,Y,hd⟩: ∃ d Y,B ++ [z]=d :: Y:=by cases B with | nil=>exact ⟨_,_,rfl⟩ | cons d B=>exact ⟨_,_,rfl⟩
   have er:(xs ++ [c] ++ b :: B) ++ [z]=xs ++ ([c,b,d] ++ Y):=by
    have:(xs ++ [c] ++ b :: B) ++ [z]=xs ++ c :: b :: (B ++ [z]):=by simp
    rw[this,hd]
    simp
   rw[er] at hn hr0 ⊢
   exact red ih hn hb hX hr0
noncomputable def st (a:Pt):Int:=if 0 < a.2\/(a.2=0/\a.1 < 0) then 1 else 0
theorem alt {a b:Pt} (h:0 < X a b):(in1 (1,0) a b:Int) - in1 (-1,0) a b=st b - st a:=by
 have f: ∀ (w p q:Pt) (x y:Int),X p w=x->X w q=y->in1 w p q=if 0<=x/\0 < y then 1 else 0:=by
  intro w p q x y h1 h2
  unfold in1
  rw[h1,h2]
 rw[f (1,0) a b (0 - a.2) b.2 (by unfold X;simp) (by unfold X;simp),f (-1,0) a b a.2 (0 - b.2) (by unfold X;simp) (by unfold X;simp)]
 unfold st
 have h':=h
 unfold X at h'
 have k1:a.2=0->0 < a.1->0 < b.2:=fun z p=>by
  rw[z] at h'
  apply Classical.byContradiction
  intro c
  have:=Int.mul_nonpos_of_nonneg_of_nonpos (a:=a.1) (b:=b.2) (by omega) (by omega)
  omega
 have k2:a.2=0->a.1 < 0->b.2 < 0:=fun z p=>by
  rw[z] at h'
  apply Classical.byContradiction
  intro c
  have:=Int.mul_nonpos_of_nonpos_of_nonneg (a:=a.1) (b:=b.2) (by omega) (by omega)
  omega
 have k3:b.2=0->0 < b.1->a.2 < 0:=fun z p=>by
  rw[z] at h'
  apply Classical.byContradiction
  intro c
  have:=Int.mul_nonneg (a:=a.2) (b:=b.1) (by omega) (by omega)
  omega
 have k4:b.2=0->b.1 < 0->0 < a.2:=fun z p=>by
  rw[z] at h'
  apply Classical.byContradiction
  intro c
  have:=Int.mul_nonneg_of_nonpos_of_nonpos (a:=a.2) (b:=b.1) (by omega) (by omega)
  omega
 have z1: ¬ (a.1=0/\a.2=0):=fun z=>by rw[z.1,z.2] at h';simp at h'
 have z2: ¬ (b.1=0/\b.2=0):=fun z=>by rw[z.1,z.2] at h';simp at h'
 generalize a.1=a1 at *
 generalize a.2=a2 at *
 generalize b.1=b1 at *
 generalize b.2=b2 at *
 clear h h'
 have o1:0 < a1\/a1 < 0\/a1=0:=by omega
 have o2:0 < b1\/b1 < 0\/b1=0:=by omega
 repeat' split
 all_goals omega
noncomputable def ZeF (p q:Pt):List Int->Nat
 | []=>0
 |b :: bs=>in1 (1,0) p q + ZeF q (nx b p q) bs
noncomputable def Zdm (bs:List Int):Int:=bs.foldr (· + ·) 0
theorem Zgc: ∀ (bs:List Int) {p q:Pt},X p q=1->tot p q bs=12 * (ZeF p q bs:Int) - Zdm bs - 3 * bs.length - 6 * (st (run p q bs).1 - st p)
 | [],p,q,_=>by simp[tot,ZeF,Zdm,run]
 |b :: bs,p,q,h=>by
  have ih:=Zgc bs (ZfF (b:=b) h)
  have a:=alt (a:=p) (b:=q) (by omega)
  simp only[tot,ZeF,run,Zdm,List.foldr_cons,List.length_cons] at *
  unfold ew
  rw[ih]
  omega
theorem Zkb {bs:List Int} {p q:Pt} (h:X p q=1) (hr:run p q bs=(p,q)):12 * (ZeF p q bs:Int)=Zdm bs + 3 * bs.length:=by
 have t:=Zka _ bs p q false rfl h hr
 have e:=Zgc bs h
 rw[t,hr] at e
 simp only at e
 omega
end TW
end
section
namespace TW
open DL
section
variable {rs:List Pt}
noncomputable def ZoF (rs:List Pt):Int->Nat->List Int
 |_,0=>[]
 |i,k + 1=>T rs (i + 1) :: ZoF rs (i + 1) k
noncomputable def sf (f:Pt->Pt->Nat) (rs:List Pt):Int->Nat->Nat
 |_,0=>0
 |i,k + 1=>f (cy rs i) (cy rs (i + 1)) + sf f rs (i + 1) k
theorem Zmh {f:Pt->Pt->Nat} (hn:rs≠[]): ∀ (k i:Nat),i + k=rs.length->cc f ((rs ++ rs.take 1).drop i)=sf f rs i k:=by
 have l0:0 < rs.length:=List.length_pos_iff.mpr hn
 have ga: ∀ i:Nat,i<=rs.length->(rs ++ rs.take 1)[i]?=some (cy rs i):=by
  intro i hi
  by_cases c:i < rs.length
  ·rw[List.getElem?_append_left c,ZfD (by omega),ZaA (by omega),List.getElem?_eq_getElem c]
   simp
  ·have:i=rs.length:=by omega
   subst this
   rw[List.getElem?_append_right (Nat.le_refl _),Nat.sub_self,<- Zjl,Int.sub_self,ZfD (by omega),ZaA (by omega)]
   rw[List.getElem?_take_of_lt (by decide),List.getElem?_eq_getElem (by omega)]
   simp
 have lch:(rs ++ rs.take 1).length=rs.length + 1:=by simp;omega
 have dr: ∀ i:Nat,i<=rs.length->(rs ++ rs.take 1).drop i=cy rs i :: (rs ++ rs.take 1).drop (i + 1):=by
  intro i hi
  rw[List.drop_eq_getElem_cons (by omega)]
  have:=ga i hi
  rw[List.getElem?_eq_getElem (by omega)] at this
  rw[Option.some.inj this]
 intro k
 induction k with
 |zero=>
  intro i hi
  rw[dr i (by omega),List.drop_eq_nil_of_le (by omega)]
  rfl
 |succ k ih=>
  intro i hi
  have:=ih (i + 1) (by omega)
  rw[dr i (by omega)]
  rw[dr (i + 1) (by omega)] at this ⊢
  rw[cc,this,sf]
  rfl
theorem Zkc {f:Pt->Pt->Nat} (hn:rs≠[]):cyc f rs=sf f rs 0 rs.length:=by
 have:=Zmh (f:=f) hn rs.length 0 (by omega)
 exact this
end
end TW
end
section
end
section
namespace CT
open PySem PySem.Spec L2 DL
noncomputable def ZA:Sv:=(Z3 (ZhG 3 4 (Zd (e2 dIx (Zg 1) (Zcr (eC (.int 2)))) (Zd (e2 dIx (Zg 1) (Zcr (eC (.int 1)))) aNil)))
 (Zct (Zej mApp (Zg 1) (Zd (Zcm (Zd (e2 dSub (e2 dMul (Zcr (Zg 2)) (e2 dIx (Zg 4) (eC (.int 0)))) (e2 dIx (Zg 3) (eC (.int 0)))) (Zd (e2 dSub (e2 dMul (Zcr (Zg 2)) (e2 dIx (Zg 4) (eC (.int 1)))) (e2 dIx (Zg 3) (eC (.int 1)))) aNil))) aNil))))
noncomputable def ZV:Sv:=(Z3 (ZaI (gNm 1) (Ze6 (Zd (Zcm (Zd (eC (.int 1)) (Zd (eC (.int 0)) aNil))) (Zd (Zcm (Zd (eC (.int 0)) (Zd (eC (.int 1)) aNil))) aNil))))
 (Z3 (Zee (gNm 2) (Zg 0) ZA)
 (Zae (Zg 1))))
noncomputable def F_gone_through:List D->Sto->Out D:=fnF ZV 1 4
noncomputable def Z0:Sv:=(Z3 (sIf (tv (e2 dNe (eSl (Zl F_gone_through (Zd (Zg 0) aNil)) (oSo (Zcr (eC (.int 2)))) oNo) (Ze6 (Zd (Zcm (Zd (eC (.int 1)) (Zd (eC (.int 0)) aNil))) (Zd (Zcm (Zd (eC (.int 0)) (Zd (eC (.int 1)) aNil))) aNil))))) (Zae (eC (.int 0))) sNil)
 (Zae (e2 dDiv (e2 dAdd (Zl (Zby Zdm) (Zd (Zg 0) aNil)) (e2 dMul (eC (.int 3)) (Zl bLen (Zd (Zg 0) aNil)))) (eC (.int 12)))))
noncomputable def F_times_round:List D->Sto->Out D:=fnF Z0 1 0
end CT
end
section
namespace CT
open PySem PySem.Spec L2 DL
open CV TW
noncomputable def rl0 (p q:Pt):List Int->List Pt
 | []=>[]
 |b :: bs=>p :: rl0 q (nx b p q) bs
noncomputable def rl (p q:Pt) (bs:List Int):List Pt:=rl0 p q bs ++ [(run p q bs).1,(run p q bs).2]
theorem ZcD: ∀ {bs:List Int} {p q:Pt},(rl0 p q bs).length=bs.length
 | [],_,_=>rfl
 |b :: bs,p,q=>by simp[rl0,ZcD (bs:=bs)]
theorem Zc5: ∀ {xs:List Int} {b:Int} {p q:Pt},rl0 p q (xs ++ [b])=rl0 p q xs ++ [(run p q xs).1]
 | [],b,p,q=>rfl
 |x :: xs,b,p,q=>by simp[rl0,TW.run,Zc5 (xs:=xs)]
theorem Zhw {xs:List Int} {b:Int} {p q:Pt}:rl p q (xs ++ [b])=rl p q xs ++ [nx b (run p q xs).1 (run p q xs).2]:=by
 unfold rl
 rw[Zc5,ZL]
 simp[TW.run]
theorem Zkd {bs:List Int} {p q:Pt}:(rl p q bs).length=bs.length + 2:=by simp[rl,ZcD]
theorem Znq {R:List Pt} {a b:Pt}:atI (prs (R ++ [a,b])) (-1)=some (pr b.1 b.2)/\atI (prs (R ++ [a,b])) (-2)=some (pr a.1 a.2):=by
 have l:(R ++ [a,b]).length=R.length + 2:=by simp
 constructor
 ·rw[Za3 (by rw[l];omega),<- Zf2,l,show (-1:Int) + ((R.length + 2:Nat):Int)=R.length + 1 by omega,Zmc]
 ·rw[Za3 (by rw[l];omega),<- Zf2,l,show (-2:Int) + ((R.length + 2:Nat):Int)=R.length by omega,Zmb]
theorem Zgd {R:List Pt} {a b:Pt}:Zbx (prs (R ++ [a,b])) (some (-2)) none=prs [a,b]/\Zbx (prs (R ++ [a,b])) none (some (-2))=prs R:=by
 have l:(prs (R ++ [a,b])).length=R.length + 2:=by rw[Zas];simp
 unfold Zbx
 simp only[HT.sIx]
 rw[l]
 constructor
 ·rw[if_pos (by decide),show (-2 + ((R.length + 2:Nat):Int)).toNat=R.length by omega,Zc1]
  simp[prs]
 ·rw[if_pos (by decide),show (-2 + ((R.length + 2:Nat):Int)).toNat=R.length by omega]
  simp[prs]
noncomputable def Sm (L:List Int):Prop:= ∀ b∈L,-(1152921504606846976)<=b/\b<=1152921504606846976
section
variable {Q:D->Sto->Prop} {E:Str->Sto->Prop} {M:Sto} {n m:Nat} {L:List Int}
theorem Zge (h:M[n]?=some (.lst (nts L))) (hb:Sm L) (hl:L.length<=1000) (q: ∀ M',Kp M M'->M'[M.length]?=some (.lst (prs (rl (1,0) (0,1) L)))->Q (.ref M.length) M'):wO (F_gone_through [.ref n] M) Q E:=by
 simp![F_gone_through,ZV]
 have K1:Kp M (M ++ [SO.lst [D.tup [D.int 1,D.int 0],D.tup [D.int 0,D.int 1]]]):=Kp.app
 have r1:(M ++ [SO.lst [D.tup [D.int 1,D.int 0],D.tup [D.int 0,D.int 1]]])[M.length]?=some (.lst (prs (rl (1,0) (0,1) (L.take 0)))):=by rw[Zez];rfl
 generalize M ++ [SO.lst [D.tup [D.int 1,D.int 0],D.tup [D.int 0,D.int 1]]]=M1 at *
 refine ZcA (fun i ρ M'=>(∃ x2 x3 x4,ρ=[some (.ref n),some (.ref M.length),x2,x3,x4])/\Kp M M'/\M'[M.length]?=some (.lst (prs (rl (1,0) (0,1) (L.take i))))) (K1.get h) ⟨⟨_,_,_,rfl⟩,K1,r1⟩ (fun i ρ M' hI=>hI.2.1.get h) ?_ ?_
 ·rintro i ρ M2 hi ⟨⟨x2,x3,x4,rfl⟩,K2,r2⟩
  rw[CN.Zht]
  rw[Zat] at hi
  rw[Zf3 hi]
  have bd:=hb _ (List.getElem_mem hi)
  have st:L.take (i + 1)=L.take i ++ [L[i]]:=by rw[List.take_add_one,List.getElem?_eq_getElem hi];rfl
  have lr:=Zy r2
  have ll:(rl (1,0) (0,1) (L.take i)).length=i + 2:=by rw[Zkd,List.length_take];omega
  have e:=Zhw (xs:=L.take i) (b:=L[i]) (p:=(1,0)) (q:=(0,1))
  rw[st,e]
  have er:rl (1,0) (0,1) (L.take i)=rl0 (1,0) (0,1) (L.take i) ++ [(run (1,0) (0,1) (L.take i)).1,(run (1,0) (0,1) (L.take i)).2]:=rfl
  rw[er] at r2 ll ⊢
  generalize (run (1,0) (0,1) (L.take i)).1=a at *
  generalize (run (1,0) (0,1) (L.take i)).2=b at *
  generalize rl0 (1,0) (0,1) (L.take i)=R at *
  generalize L[i]=c at *
  simp![ZA,r2,Znq.1,Znq.2,Zas,ll]
  refine ⟨by omega,⟨_,_,_,rfl⟩,K2.set (Nat.le_refl _),?_⟩
  unfold nx
  rw[Int.neg_mul,Int.neg_mul,Int.zero_sub,Int.zero_sub]
 ·rintro ρ M2 ⟨⟨x2,x3,x4,rfl⟩,K2,r2⟩
  simp![Zr]
  rw[Zat,List.take_of_length_le (Nat.le_refl _)] at r2
  exact q _ K2 r2
noncomputable def Zdw (L:List Int):Prop:= ∀ b∈L,-1000000<=b/\b<=1000000
theorem Zce: ∀ {L:List Int},Zdw L-> -(1000000 * (L.length:Int))<=L.sum/\L.sum<=1000000 * (L.length:Int)
 | [],_=>by simp
 |b :: L,h=>by
  have ih:=Zce (L:=L) fun c hc=>h c (by simp[hc])
  have hb:=h b (by simp)
  simp only[List.sum_cons,List.length_cons]
  omega
theorem Zhx (h:Zdw L) (hl:L.length<=1000):DL.Zdm L=some L.sum:=by
 unfold DL.Zdm
 rw[if_pos]
 intro j hj
 have hm:L.getD j 0=L[j]:=by rw[List.getD_eq_getElem?_getD,List.getElem?_eq_getElem hj];rfl
 have h1:=h _ (List.getElem_mem hj)
 have h2:=Zce (L:=L.take (j + 1)) fun b hb=>h b (List.mem_of_mem_take hb)
 have h3:((L.take (j + 1)).length:Int)<=1000:=by rw[List.length_take];omega
 rw[hm]
 refine ⟨by omega,by omega,by omega⟩
theorem ZeG: ∀ {L:List Int},TW.Zdm L=L.sum
 | []=>rfl
 |b :: L=>by
  have:=ZeG (L:=L)
  unfold TW.Zdm at *
  rw[List.foldr_cons,List.sum_cons,this]
theorem Zdw.sm (h:Zdw L):Sm L:=fun b hb=>by have:=h b hb;omega
noncomputable def Cl (L:List Int):Prop:=run (1,0) (0,1) L=((1,0),(0,1))
noncomputable instance (L:List Int):Decidable (Cl L):=by unfold Cl;infer_instance
theorem Zgf {L:List Int}:Cl L ↔ [(run (1,0) (0,1) L).1,(run (1,0) (0,1) L).2]=[(1,0),(0,1)]:=by
 unfold Cl
 constructor
 ·intro h;rw[h]
 ·intro h
  simp only[List.cons.injEq,and_true] at h
  exact Prod.ext h.1 h.2
theorem ZeH {L:List Int} (h:Cl L):(L.sum + 3 * (L.length:Int))=12 * (ZeF (1,0) (0,1) L:Int):=by
 have:=Zkb (bs:=L) (p:=(1,0)) (q:=(0,1)) rfl h
 rw[ZeG] at this
 omega
theorem Zhy (h:M[n]?=some (.lst (nts L))) (hb:Zdw L) (hl:L.length<=1000) (q: ∀ M',Kp M M'->Q (.int (if Cl L then (ZeF (1,0) (0,1) L:Int) else 0)) M'):wO (F_times_round [.ref n] M) Q E:=by
 simp![F_times_round,Z0]
 refine Zge h hb.sm hl fun M1 K1 r1=> ?_
 have er:rl (1,0) (0,1) L=rl0 (1,0) (0,1) L ++ [(run (1,0) (0,1) L).1,(run (1,0) (0,1) L).2]:=rfl
 rw[er] at r1
 have lr:=Zy r1
 simp![r1,Zgd.1]
 have K2:Kp M1 (M1 ++ [SO.lst (prs [(run (1,0) (0,1) L).1,(run (1,0) (0,1) L).2]),SO.lst [D.tup [D.int 1,D.int 0],D.tup [D.int 0,D.int 1]]]):=Kp.app
 have q2:eqF 12 (M1 ++ [SO.lst (prs [(run (1,0) (0,1) L).1,(run (1,0) (0,1) L).2]),SO.lst [D.tup [D.int 1,D.int 0],D.tup [D.int 0,D.int 1]]]) (.ref M1.length) (.ref (M1.length + 1))=some (decide ([(run (1,0) (0,1) L).1,(run (1,0) (0,1) L).2]=[(1,0),(0,1)])):=DL.Zlo (by rw[Zez];rfl) (by rw[Zlm];rfl)
 rw[q2]
 generalize M1 ++ [SO.lst (prs [(run (1,0) (0,1) L).1,(run (1,0) (0,1) L).2]),SO.lst [D.tup [D.int 1,D.int 0],D.tup [D.int 0,D.int 1]]]=M2 at *
 have K02:=K1.trans K2
 have h2:=K02.get h
 simp![Zr]
 refine Zoo (fun z=> ?_) (fun z=> ?_)
 ·simp![Zr]
  have:=q M2 K02
  rw[if_neg (fun c=>z (Zgf.mp c))] at this
  exact this
 ·have c:=Zgf.mpr z
  simp![h2,CC.Zcd,Zhx hb hl,Zat]
  have:=q M2 K02
  rw[if_pos c] at this
  rw[ZeH c,Int.mul_comm,Int.mul_ediv_cancel _ (by decide)]
  exact this
end
end CT
end
section
namespace CT
open PySem PySem.Spec L2 DL
open CV
open TW (nx ZeF ZfF)
section
variable {Q:D->Sto->Prop} {E:Str->Sto->Prop} {M:Sto} {n m:Nat} {L:List Int}
noncomputable def Bg (k:Nat) (p:Pt):Prop:=p.1.natAbs < 2 ^ k/\p.2.natAbs < 2 ^ k
theorem Bg.up {k l:Nat} {p:Pt} (h:Bg k p) (hl:k<=l):Bg l p:=⟨Nat.lt_of_lt_of_le h.1 (Nat.pow_le_pow_right (by decide) hl),Nat.lt_of_lt_of_le h.2 (Nat.pow_le_pow_right (by decide) hl)⟩
end
end CT
end
section
namespace DL
open CB (mid Wg Bd)
section
variable {rs:List Pt} {k:Nat}
theorem ZfG {f:Pt->Pt->Nat} (hl:rs≠[]) (h:cyc f rs=0) (i:Int):f (cy rs i) (cy rs (i + 1))=0:=by
 have l0:rs.length≠0:=fun z=>hl (List.length_eq_zero_iff.mp z)
 refine Zhq (P:=fun a b=>f a b=0) l0 ?_ i
 intro i h0 h1
 rw[TW.Zkc hl] at h
 have: ∀ (k:Nat) (j:Int),TW.sf f rs j k=0-> ∀ m:Nat,m < k->f (cy rs (j + m)) (cy rs (j + m + 1))=0:=by
  intro k
  induction k with
  |zero=>intro j _ m hm;omega
  |succ k ih=>
   intro j h m hm
   rw[TW.sf] at h
   cases m with
   |zero=>
    rw[show j + ((0:Nat):Int)=j by omega]
    omega
   |succ m=>
    have:=ih (j + 1) (by omega) m (by omega)
    rw[show j + ((m + 1:Nat):Int)=j + 1 + m by omega]
    exact this
 have:=this rs.length 0 h i.toNat (by omega)
 rw[show (0:Int) + (i.toNat:Nat)=i by omega] at this
 exact this
noncomputable def nxp (a b:Pt):Nat:=if 0 < X a b then 0 else 1
theorem Zmi {a b:Pt} (h:nxp a b=0):0 < X a b:=by
 unfold nxp at h
 split at h
 ·assumption
 ·omega
structure Rn (rs:List Pt):Prop where
 len:3<=rs.length
 ps:cyc nxp rs=0
 gc: ∀ p∈rs,Int.gcd p.1 p.2=1
 fan:Fan rs
theorem Rn.ne (h:Rn rs):rs≠[]:=by
 intro z
 have:=h.len
 rw[z] at this
 simp at this
theorem Rn.pos (h:Rn rs) (i:Int):0 < X (cy rs i) (cy rs (i + 1)):=Zmi (ZfG h.ne h.ps i)
end
end DL
end
section
end
section
namespace DL
open TW
open CT (rl0 Cl)
section
variable {rs us:List Pt}
end
end DL
end
section
namespace CB
open DL
section
variable {u v w:Pt}
noncomputable def kl:List Pt->List Int
 |a :: b :: d :: r=>X a d :: kl (b :: d :: r)
 |_=>[]
theorem Xvv (p:Pt):X p p=0:=by unfold X;grind
theorem Zmj: ∀ (r:List Pt) (a b:Pt) (v:Pt),Ch (a :: b :: r)->Cv (a :: b :: r)->(b :: r).getLast (by simp)=v->0<=X b v/\X b v < X a v
 | [],a,b,v,h,_,e=>by
  have:b=v:=e
  subst this
  rw[Xvv,h.1]
  omega
 |c :: r,a,b,v,h,k,e=>by
  have ih:=Zmj r b c v h.2 k.2 (by rw[<- e];simp[List.getLast_cons])
  obtain ⟨m,m2,e1,e2⟩:=k.1
  have ex:X a v + X c v=m * X b v:=by unfold X;grind
  have:2 * X b v<=m * X b v:=Int.mul_le_mul_of_nonneg_right m2 (by omega)
  omega
theorem Zhz {t b k c:Int} (hb:0 < b) (h0:0<=c) (h1:c < b) (e:t + c=k * b): -((-t) / b)=k:=by
 have: -t=c + b * (-k):=by grind
 rw[this,Int.add_mul_ediv_left _ _ (by omega),Int.ediv_eq_zero_of_lt h0 h1]
 omega
theorem only: ∀ (ws:List Pt) (u v w:Pt),Ch (u :: (ws ++ [v]))->Cv (u :: (ws ++ [v]))->Fb u v w->ws=btw u w (hj (X u v) (X w v))/\kl (u :: (ws ++ [v]))=hj (X u v) (X w v)
 | [],u,v,w,h,k,f=>by
  have h1:X u v=1:=h.1
  have l:=f.lo
  have l2:=f.hi
  have w0:X w v=0:=by omega
  rw[w0]
  unfold hj
  rw[dif_neg (by decide)]
  exact ⟨rfl,rfl⟩
 |x :: ws,u,v,w,h,k,f=>by
  have hl:(x :: (ws ++ [v])).getLast (by simp)=v:=by simp[List.getLast_cons]
  have d:=Zmj (ws ++ [v]) u x v h k hl
  have fx:Fb u v x:=⟨h.1,d.1,d.2⟩
  have ew:=fx.uniq f
  subst ew
  obtain ⟨y,R,eR⟩: ∃ y R,ws ++ [v]=y :: R:=by
   cases ws with
   |nil=>exact ⟨v,[],rfl⟩
   |cons y R=>exact ⟨y,R ++ [v],rfl⟩
  have h':Ch (x :: y :: R):=by rw[<- eR];exact h.2
  have kk:Cv (u :: x :: y :: R):=by rw[<- eR];exact k
  have hl2:(y :: R).getLast (by simp)=v:=by
   have:(ws ++ [v]).getLast (by simp)=v:=by simp
   simpa [eR] using this
  have d2:=Zmj R x y v h' kk.2 hl2
  obtain ⟨m,m2,e1,e2⟩:=kk.1
  have ex:X u v + X y v=m * X x v:=by unfold X;grind
  have hc:=Zhz (by omega) d2.1 d2.2 ex
  have ey:(m * x.1 - u.1,m * x.2 - u.2)=y:=by apply Prod.ext<;>simp only<;>omega
  have m3:X u y=m:=by
   have:=h.1
   rw[<- ey]
   unfold X at *
   simp only
   grind
  have fy:Fb x v y:=⟨h'.1,d2.1,d2.2⟩
  have ih:=only ws x v y (by rw[eR];exact h') (by rw[eR];exact kk.2) fy
  have ej:hj (X u v) (X x v)=m :: hj (X x v) (X y v):=by
   rw[hj,dif_pos (by omega),hc]
   congr 2
   omega
  rw[ej]
  constructor
  ·rw[btw,ey,<- ih.1]
  ·show kl (u :: x :: (ws ++ [v]))=_
   rw[eR,kl,m3,<- eR,ih.2]
end
end CB
end
section
namespace CD
open PySem PySem.Spec L2 DL
end CD
end
section
namespace CD
open PySem PySem.Spec L2 DL
open CV
open CB (Bd)
open CR (rt)
section
variable {Q:D->Sto->Prop} {E:Str->Sto->Prop} {M:Sto} {n m p:Nat} {rs:List Pt} {a b c d:Int} {ρ:Ro} {k:Nat} {xs:List D} {tg:Tg} {f:Ev}
noncomputable abbrev tb (a b c d:Int):SO:= .lst [.int a,.int b,.int c,.int d]
end
end CD
end
section
namespace CD
open PySem PySem.Spec L2 DL
open CV
open CB (Bd)
open CR (rt)
section
variable {Q:D->Sto->Prop} {E:Str->Sto->Prop} {M:Sto} {n m p:Nat} {rs:List Pt} {a b c d:Int} {ρ:Ro} {k:Nat} {xs:List D} {tg:Tg} {f:Ev}
end
end CD
end
section
end
section
end
section
end
section
end
section
end
section
end
section
end
section
end
section
end
section
namespace CQ
open PySem PySem.Spec L2 DL
end CQ
end
section
namespace CQ
open PySem PySem.Spec L2 DL
open CV
open CB (Bd)
open CD (tb)
section
variable {Q:D->Sto->Prop} {E:Str->Sto->Prop} {M:Sto} {n m p:Nat} {rs:List Pt} {a b c d:Int}
end
end CQ
end
section
namespace CQ
open PySem PySem.Spec L2 DL
open CV
open CB (Bd)
open CD (tb)
section
variable {Q:D->Sto->Prop} {E:Str->Sto->Prop} {M:Sto} {n m p:Nat} {rs:List Pt} {a b c d:Int}
end
end CQ
end
section
namespace CQ
open PySem PySem.Spec L2 DL
open CV
open CB (Bd)
open CD (tb)
section
variable {Q:D->Sto->Prop} {E:Str->Sto->Prop} {M:Sto} {n m p:Nat} {rs:List Pt} {a b c d:Int}
end
end CQ
end
section
namespace CQ
open PySem PySem.Spec L2 DL
open CV
open CB (Bd)
open CD (tb)
section
variable {Q:D->Sto->Prop} {E:Str->Sto->Prop} {M:Sto} {n m p:Nat} {rs:List Pt} {a b c d:Int}
end
end CQ
end
section
namespace CB
open PySem PySem.Spec L2 DL
section
variable {a b c d:Int} {u v w:Pt} {rs:List Pt}
end
end CB
end
section
namespace CX
open PySem PySem.Spec L2 DL
end CX
end
section
namespace CX
open PySem PySem.Spec L2 DL
open CV
open CB (Bd)
noncomputable def ltP:List Pt->List Pt->Bool
 | [],[]=>false
 | [],_ :: _=>true
 |_ :: _,[]=>false
 |x :: xs,y :: ys=>if x=y then ltP xs ys else HT.Zaw [x.1,x.2] [y.1,y.2]
section
variable {Q:D->Sto->Prop} {E:Str->Sto->Prop} {M:Sto} {n m p:Nat} {rs ls:List Pt}
end
end CX
end
section
namespace CX
open PySem PySem.Spec L2 DL
open CV
open CB (Bd)
section
variable {Q:D->Sto->Prop} {E:Str->Sto->Prop} {M:Sto} {n m p:Nat} {rs ls:List Pt}
end
end CX
end
section
namespace CX
open PySem PySem.Spec L2 DL
open CV
open CB (Bd)
noncomputable def onw (L:List Pt) (i:Nat):List Pt:=L.drop i ++ L.take i
noncomputable def rdg (L:List Pt) (i:Nat) (b:Bool):List Pt:=if b then (onw L i).take 1 ++ ((onw L i).drop 1).reverse else onw L i
noncomputable def bsd (ls:List Pt) (i:Nat) (b:Bool):Pt:=if b then cy ls ((i:Int) - 1) else cy ls ((i:Int) + 1)
noncomputable def Bst (lo:Nat) (L ls:List Pt) (S:Nat->Bool->Prop) (v3 v4:D) (M:Sto):Prop:=(v3= .non/\v4= .non/\ ∀ i b,¬ S i b)\/ ∃ i b o,(S i b/\lo<=o)/\v3= .ref o/\v4= .tup [pr (cy ls (i:Nat)).1 (cy ls (i:Nat)).2,pr (bsd ls i b).1 (bsd ls i b).2]/\M[o]?=some (.lst (prs (rdg L i b)))/\ ∀ i' b',S i' b'->ltP (rdg L i' b') (rdg L i b)=false
theorem Bst.congr {lo:Nat} {L ls:List Pt} {S S':Nat->Bool->Prop} {v3 v4:D} {M:Sto} (h: ∀ i b,S i b ↔ S' i b) (k:Bst lo L ls S v3 v4 M):Bst lo L ls S' v3 v4 M:=by
 rcases k with ⟨h1,h2,h3⟩ | ⟨i,b,o,h1,h2,h3,h4,h5⟩
 ·exact .inl ⟨h1,h2,fun i b k=>h3 i b ((h i b).mpr k)⟩
 ·exact .inr ⟨i,b,o,⟨(h i b).mp h1.1,h1.2⟩,h2,h3,h4,fun i' b' k=>h5 i' b' ((h i' b').mpr k)⟩
section
variable {Q:D->Sto->Prop} {E:Str->Sto->Prop} {M:Sto} {n m p:Nat} {rs ls L:List Pt} {N B C:Ro->Sto->Prop} {R:D->Sto->Prop}
end
end CX
end
section
namespace CX
open PySem PySem.Spec L2 DL
open CB (Bd)
section
variable {rs ls L L' O:List Pt}
noncomputable def sn (b:Bool):Int:=if b then -1 else 1
end
end CX
end
section
end
section
namespace K63
open PySem PySem.Spec L2 DL
noncomputable def top (i:Nat):Stmt:=PySem.Challenge.pw_rayround_k63_sixteen.main.body.getD i (.Pass ⟨0,0,0,0⟩)
noncomputable def Zao:List (List Int):=[[1,1,1],[-2,0,2,0],[-1,0,1,0],[0,0,0,0],[-2,-1,-1,1,0],[-1,-1,-1,0,0],[-2,-2,-1,-2,1,0],[-2,-1,-2,-1,0,0],[-2,-1,-1,0,-1,-1],[-1,-1,-1,-1,-1,-1],[-2,-2,-1,-2,0,-1,-1],[-2,-1,-2,-1,-1,-1,-1],[-2,-2,-2,-1,-2,0,-2,-1],[-2,-2,-1,-2,-1,-1,-2,-1],[-2,-1,-2,-1,-2,-1,-2,-1],[-2,-2,-1,-2,-2,-1,-2,-2,-1]]
structure Txt (K:PySem.W.Frag) (mg:Str->Option Value):Prop where
 gl: ∀ c v,PySem.W.nsIn K mainGlobals c=some (some v)->mg c=some v
 b_sum:mg "sum"=none
 b_len:mg "len"=none
 b_list:mg "list"=none
 b_range:mg "range"=none
 b_isinstance:mg "isinstance"=none
 b_tuple:mg "tuple"=none
 b_int:mg "int"=none
 b_bool:mg "bool"=none
 b_reversed:mg "reversed"=none
 b_min:mg "min"=none
 ex_NoRow:ZiC K "NoRow"=true
 co_ROWS:Zfq K "ROWS" Zao=true
section
variable {P:Program} {w:World} {K:PySem.W.Frag} {mg:Str->Option Value} {base:Heap}
noncomputable abbrev Zs:Stmt:=top 4
noncomputable def ZA:Sv:=(Z3 (ZhG 3 4 (Zd (e2 dIx (Zg 1) (Zcr (eC (.int 2)))) (Zd (e2 dIx (Zg 1) (Zcr (eC (.int 1)))) aNil)))
 (Zct (Zej mApp (Zg 1) (Zd (Zcm (Zd (e2 dSub (e2 dMul (Zcr (Zg 2)) (e2 dIx (Zg 4) (eC (.int 0)))) (e2 dIx (Zg 3) (eC (.int 0)))) (Zd (e2 dSub (e2 dMul (Zcr (Zg 2)) (e2 dIx (Zg 4) (eC (.int 1)))) (e2 dIx (Zg 3) (eC (.int 1)))) aNil))) aNil))))
noncomputable def ZV:Sv:=(Z3 (ZaI (gNm 1) (Ze6 (Zd (Zcm (Zd (eC (.int 1)) (Zd (eC (.int 0)) aNil))) (Zd (Zcm (Zd (eC (.int 0)) (Zd (eC (.int 1)) aNil))) aNil))))
 (Z3 (Zee (gNm 2) (Zg 0) ZA)
 (Zae (Zg 1))))
noncomputable def F_gone_through:List D->Sto->Out D:=fnF ZV 1 4
theorem ZM:FnScope ["numbers","pairs","number","ahead","pair"] ["numbers"] (Ze Zs):=⟨rfl,rfl,rfl,by decide +kernel,rfl,by decide +kernel,by decide +kernel⟩
theorem Za4 {f:Addr} {fd:FuncData} (F:Fun K "gone_through" "gone_through" Zs f fd) (T:Txt K mg):FnOk P w K mg base (CXE P w) 101 f fd ["numbers"] (spD K F_gone_through):=
 ZaM F ZM rfl rfl fun cdv A outer s H E hr θ=>(Zh (Z5 1 ZM.nd (Zd7 (Za (ZaU (Za Zc (Za Zc Zf))) (Za (ZaU (Za Zc (Za Zc Zf))) Zf))))
  (Zh (ZbY θ.own (Zb 0) (ZX 2 ZM.nd) (Zh (Zix 3 4 (Zbw hr (by decide)) ZM.nd (Za (ZY (Zb 1) (ZaX Zc)) (Za (ZY (Zb 1) (ZaX Zc)) Zf)))
  (Zi (Zcu (Zb4 (Zb 1) (ZaU (Za (ZbU (ZaH (ZaX (Zb 2)) (ZY (Zb 4) Zc)) (ZY (Zb 3) Zc)) (Za (ZbU (ZaH (ZaX (Zb 2)) (ZY (Zb 4) Zc)) (ZY (Zb 3) Zc)) Zf))))))))
  (Zi (ZE (Zb 1)))))
noncomputable abbrev ZB:Stmt:=top 5
noncomputable def Z0:Sv:=(Z3 (sIf (tv (e2 dNe (eSl (Zl F_gone_through (Zd (Zg 0) aNil)) (oSo (Zcr (eC (.int 2)))) oNo) (Ze6 (Zd (Zcm (Zd (eC (.int 1)) (Zd (eC (.int 0)) aNil))) (Zd (Zcm (Zd (eC (.int 0)) (Zd (eC (.int 1)) aNil))) aNil))))) (Zae (eC (.int 0))) sNil)
 (Zae (e2 dDiv (e2 dAdd (Zl (Zby Zdm) (Zd (Zg 0) aNil)) (e2 dMul (eC (.int 3)) (Zl bLen (Zd (Zg 0) aNil)))) (eC (.int 12)))))
noncomputable def F_times_round:List D->Sto->Out D:=fnF Z0 1 0
theorem Zbc:FnScope ["numbers"] ["numbers"] (Ze ZB):=⟨rfl,rfl,rfl,by decide +kernel,rfl,by decide +kernel,by decide +kernel⟩
theorem Zbd {f:Addr} {fd:FuncData} (F:Fun K "times_round" "times_round" ZB f fd) (T:Txt K mg) (C_gone_through:Cal P w K mg base "gone_through" 101 1 F_gone_through):FnOk P w K mg base (CXE P w) 102 f fd ["numbers"] (spD K F_times_round):=
 ZaM F Zbc rfl rfl fun cdv A outer s H E hr θ=>(Zh (ZaD (Z4 (Zbj hr.units) Zdj (Zfk (Zq C_gone_through θ (hr.mono (by decide)) (Za (Zb 0) Zf)) (Zfj (ZaX Zc)) Zfi) (Zd7 (Za (ZaU (Za Zc (Za Zc Zf))) (Za (ZaU (Za Zc (Za Zc Zf))) Zf)))) (Zi (ZE Zc)) ZO)
  (Zi (ZE (ZfQ (ZaV (Zx (Zeo (Zbw hr (by decide))) ZiJ T.b_sum ZiK (Za (Zb 0) Zf)) (ZaH Zc (Zx Zk Zad T.b_len PySem.boot_len (Za (Zb 0) Zf)))) Zc))))
noncomputable abbrev Z1:Stmt:=top 6
noncomputable def Zbm:Sv:=(Z3 (sIf (tv (e2 dNe (Zl F_times_round (Zd (Zg 0) aNil)) (eC (.int 1)))) (Zb3 (PySem.Str.ofString "NoRow") (Zd (eC (.str (PySem.Str.ofString "the row of numbers does not close once"))) aNil)) sNil)
 (Zae (eSl (Zl F_gone_through (Zd (Zg 0) aNil)) oNo (oSo (Zcr (eC (.int 2)))))))
noncomputable def F_round_by:List D->Sto->Out D:=fnF Zbm 1 0
theorem ZcE:FnScope ["numbers"] ["numbers"] (Ze Z1):=⟨rfl,rfl,rfl,by decide +kernel,rfl,by decide +kernel,by decide +kernel⟩
theorem ZcF {f:Addr} {fd:FuncData} (F:Fun K "round_by" "round_by" Z1 f fd) (T:Txt K mg) (C_times_round:Cal P w K mg base "times_round" 102 1 F_times_round) (C_gone_through:Cal P w K mg base "gone_through" 101 1 F_gone_through):FnOk P w K mg base (CXE P w) 103 f fd ["numbers"] (spD K F_round_by):=
 ZaM F ZcE rfl rfl fun cdv A outer s H E hr θ=>(Zh (ZaD (Z4 (Zbj hr.units) Zdj (Zq C_times_round θ (hr.mono (by decide)) (Za (Zb 0) Zf)) Zc) (Zi (Zfh θ T.ex_NoRow T.gl (hr.hd (by decide)) (Za Zii Zf))) ZO)
  (Zi (ZE (Zfk (Zq C_gone_through θ (hr.mono (by decide)) (Za (Zb 0) Zf)) Zfi (Zfj (ZaX Zc))))))
noncomputable abbrev Z9:Stmt:=top 9
noncomputable def Zcf:Sv:=(Zae (ZaZ (iSq (eC (ZkX Zao))) 1 [] (gNm 0) (fun _ M=> .ok true M) (Zl F_round_by (Zd (Zl bList (Zd (Zg 0) aNil)) aNil))))
noncomputable def F_sixteen:List D->Sto->Out D:=fnF Zcf 0 0
theorem Zdx:FnScope [] [] (Ze Z9):=⟨rfl,rfl,rfl,by decide +kernel,rfl,by decide +kernel,by decide +kernel⟩
theorem Zdy {f:Addr} {fd:FuncData} (F:Fun K "sixteen" "sixteen" Z9 f fd) (T:Txt K mg) (C_round_by:Cal P w K mg base "round_by" 103 1 F_round_by):FnOk P w K mg base (CXE P w) 104 f fd [] (spD K F_sixteen):=
 ZaM F Zdx rfl rfl fun cdv A outer s H E hr θ=>(Zi (ZE (Za0 (ZkS (N:=["row"]) (k:=1) (by decide +kernel) rfl (by decide +kernel) rfl) (Zei (ZiP T.co_ROWS T.gl)) (fun _ _ _ _=>(ZX 0 (show List.Nodup (["row"]:List Str) by decide +kernel))) (fun _ _ _ _=>(Or.inl ⟨rfl,rfl⟩)) (fun _ _ _ _=>(Zq C_round_by Zbv (hr.mono (by decide)) (Za (Zeb ZbO ZgI T.b_list Zbu (Za (Zb 0) Zf)) Zf))))))
noncomputable abbrev ZC:Stmt:=top 11
noncomputable def ZZ:Sv:=(Z3 (ZaI (gNm 2) (eC (.int 0)))
 (Z3 (sIf (tv (e2 dLt (Zg 1) (Zl bLen (Zd (Zg 0) aNil)))) (ZaI (gNm 2) (e2 dMod (e2 dIx (Zg 0) (Zg 1)) (e2 dPow (eC (.int 10)) (eC (.int 60))))) sNil)
 (Z3 (sIf (tv (e2 dLt (Zg 2) (e2 dPow (eC (.int 10)) (eC (.int 18))))) (Z3 (ZaI (gNm 3) (e2 dMod (e2 dMul (e2 dAdd (Zg 2) (e2 dMul (eC (.int 1442695040888963407)) (e2 dAdd (Zg 1) (eC (.int 1))))) (eC (.int 6364136223846793005))) (e2 dPow (eC (.int 10)) (eC (.int 37)))))
 (ZaI (gNm 2) (e2 dMod (e2 dDiv (e2 dMul (Zg 3) (Zg 3)) (e2 dPow (eC (.int 10)) (eC (.int 17)))) (e2 dPow (eC (.int 10)) (eC (.int 56)))))) sNil)
 (Zae (Zg 2)))))
noncomputable def F_law_cell_at:List D->Sto->Out D:=fnF ZZ 2 2
theorem ZF:FnScope ["_law_script","_law_k","_law_cell","_law_one"] ["_law_script","_law_k"] (Ze ZC):=⟨rfl,rfl,rfl,by decide +kernel,rfl,by decide +kernel,by decide +kernel⟩
theorem Zbe {f:Addr} {fd:FuncData} (F:Fun K "_law_cell_at" "_law_cell_at" ZC f fd) (T:Txt K mg):FnOk P w K mg base (CXE P w) 1 f fd ["_law_script","_law_k"] (spD K F_law_cell_at):=
 ZaM F ZF rfl rfl fun cdv A outer s H E hr θ=>(Zh (Z5 2 ZF.nd Zc)
  (Zh (ZaD (Z4 ZeU Ze8 (Zb 1) (Zx Zk Zad T.b_len PySem.boot_len (Za (Zb 0) Zf))) (Zi (Z5 2 ZF.nd (ZaW (ZY (Zb 0) (Zb 1)) (ZbV Zc Zc)))) ZO)
  (Zh (ZaD (Z4 ZeU Ze8 (Zb 2) (ZbV Zc Zc)) (Zh (Z5 3 ZF.nd (ZaW (ZaH (ZaV (Zb 2) (ZaH Zc (ZaV (Zb 1) Zc))) Zc) (ZbV Zc Zc)))
  (Zi (Z5 2 ZF.nd (ZaW (ZfQ (ZaH (Zb 3) (Zb 3)) (ZbV Zc Zc)) (ZbV Zc Zc))))) ZO)
  (Zi (ZE (Zb 2))))))
noncomputable abbrev ZQ:Stmt:=top 12
noncomputable def Zau:Sv:=(Zae (e2 dSub (e2 dMul (e2 dIx (Zg 0) (eC (.int 0))) (e2 dIx (Zg 1) (eC (.int 1)))) (e2 dMul (e2 dIx (Zg 0) (eC (.int 1))) (e2 dIx (Zg 1) (eC (.int 0))))))
noncomputable def F_law_cross:List D->Sto->Out D:=fnF Zau 2 0
theorem Zcg:FnScope ["_law_one","_law_other"] ["_law_one","_law_other"] (Ze ZQ):=⟨rfl,rfl,rfl,by decide +kernel,rfl,by decide +kernel,by decide +kernel⟩
theorem Zch {f:Addr} {fd:FuncData} (F:Fun K "_law_cross" "_law_cross" ZQ f fd) (T:Txt K mg):FnOk P w K mg base (CXE P w) 1 f fd ["_law_one","_law_other"] (spD K F_law_cross):=
 ZaM F Zcg rfl rfl fun cdv A outer s H E hr θ=>(Zi (ZE (ZbU (ZaH (ZY (Zb 0) Zc) (ZY (Zb 1) Zc)) (ZaH (ZY (Zb 0) Zc) (ZY (Zb 1) Zc)))))
noncomputable abbrev ZR:Stmt:=top 13
noncomputable def Zaj:Sv:=(Z3 (ZaI (gNm 1) (Zl bLen (Zd (Zg 0) aNil)))
 (Zae (ZaZ (iR1 (Zd (Zg 1) aNil)) 1 [0,1] (gNm 0) (fun _ M=> .ok true M) (e2 dSub (eC (.int 0)) (Zl F_law_cross (Zd (e2 dIx (Zg 1) (e2 dSub (Zg 0) (eC (.int 1)))) (Zd (e2 dIx (Zg 1) (e2 dMod (e2 dAdd (Zg 0) (eC (.int 1))) (Zg 2))) aNil)))))))
noncomputable def F_law_tags:List D->Sto->Out D:=fnF Zaj 1 1
theorem Za5:FnScope ["_law_rays","_law_many"] ["_law_rays"] (Ze ZR):=⟨rfl,rfl,rfl,by decide +kernel,rfl,by decide +kernel,by decide +kernel⟩
theorem ZcG {f:Addr} {fd:FuncData} (F:Fun K "_law_tags" "_law_tags" ZR f fd) (T:Txt K mg) (C_law_cross:Cal P w K mg base "_law_cross" 1 2 F_law_cross):FnOk P w K mg base (CXE P w) 2 f fd ["_law_rays"] (spD K F_law_tags):=
 ZaM F Za5 rfl rfl fun cdv A outer s H E hr θ=>(Zh (Z5 1 Za5.nd (Zx Zk Zad T.b_len PySem.boot_len (Za (Zb 0) Zf)))
  (Zi (ZE (Za0 (Zmy (XN:=["_law_rays","_law_many"]) (dn:=(Ze ZR).names) (N:=["_law_k","_law_rays","_law_many"]) (k:=1) (fr:=[0,1]) rfl rfl rfl rfl (by decide +kernel)) (Zb0 T.b_range (Za (Zb 1) Zf)) (fun _ _ _ _=>(ZX 0 (show List.Nodup (["_law_k","_law_rays","_law_many"]:List Str) by decide +kernel))) (fun _ _ _ _=>(Or.inl ⟨rfl,rfl⟩)) (fun _ _ _ _=>(ZbU Zc (Zq C_law_cross Zbv (hr.mono (by decide)) (Za (ZY (Zb 1) (ZbU (Zb 0) Zc)) (Za (ZY (Zb 1) (ZaW (ZaV (Zb 0) Zc) (Zb 2))) Zf)))))))))
noncomputable abbrev Zt:Stmt:=top 14
noncomputable def Zn:Sv:=(sIf (Zd5 (Zax (tv (ZdB "int" (Zg 2)))) (tv (ZdB "bool" (Zg 2)))) (Zae (eC (.bl false))) sNil)
noncomputable def Zz:Sv:=(Z3 (sIf (Zd5 (Zax (tv (ZdB "tuple" (Zg 1)))) (tv (e2 dNe (Zl bLen (Zd (Zg 1) aNil)) (eC (.int 2))))) (Zae (eC (.bl false))) sNil)
 (Zee (gNm 2) (Zg 1) Zn))
noncomputable def ZU:Sv:=(Z3 (sIf (Zax (tv (ZdB "list" (Zg 0)))) (Zae (eC (.bl false))) sNil)
 (Z3 (Zee (gNm 1) (Zg 0) Zz)
 (Zae (eC (.bl true)))))
noncomputable def F_law_are_rays:List D->Sto->Out D:=fnF ZU 1 2
theorem Z2:FnScope ["_law_found","_law_ray","_law_x"] ["_law_found"] (Ze Zt):=⟨rfl,rfl,rfl,by decide +kernel,rfl,by decide +kernel,by decide +kernel⟩
theorem Za6 {f:Addr} {fd:FuncData} (F:Fun K "_law_are_rays" "_law_are_rays" Zt f fd) (T:Txt K mg):FnOk P w K mg base (CXE P w) 1 f fd ["_law_found"] (spD K F_law_are_rays):=
 ZaM F Z2 rfl rfl fun cdv A outer s H E hr θ=>(Zh (ZaD (ZaT (ZaF (ZbW ZcR T.b_isinstance T.b_list Zbu (Zb 0)))) (Zi (ZE Zbs)) ZO)
  (Zh (ZbY θ.own (Zb 0) (ZX 1 Z2.nd) (Zh (ZaD (ZgE (Zdh (ZaT (ZaF (ZbW Zec T.b_isinstance T.b_tuple Zfe (Zb 1)))) (ZbT (Z4 (Zbj hr.units) Zdj (Zx Zk Zad T.b_len PySem.boot_len (Za (Zb 1) Zf)) Zc)))) (Zi (ZE Zbs)) ZO)
  (Zi (ZbY θ.own (Zb 1) (ZX 2 Z2.nd) (Zi (ZaD (ZgE (Zdh (ZaT (ZaF (ZbW ZgJ T.b_isinstance T.b_int Ziz (Zb 2)))) (ZbT (ZaF (ZbW Zfb T.b_isinstance T.b_bool ZgM (Zb 2)))))) (Zi (ZE Zbs)) ZO))))))
  (Zi (ZE Zbs))))
noncomputable abbrev ZS:Stmt:=top 15
noncomputable def Z6:Sv:=(ZaI (gNm 1) (Zl bMinL (Zd (Zg 1) (Zd (e2 dAdd (eSl (Zg 2) (oSo (Zg 3)) oNo) (eSl (Zg 2) oNo (oSo (Zg 3)))) aNil))))
noncomputable def Z7:Sv:=(Zbk (gNm 3) (Zd (Zl bLen (Zd (Zg 2) aNil)) aNil) Z6)
noncomputable def Za7:Sv:=(Z3 (ZaI (gNm 1) (Zg 0))
 (Z3 (Zee (gNm 2) (Zcm (Zd (Zg 0) (Zd (Zl bLR (Zd (Zg 0) aNil)) aNil))) Z7)
 (Zae (Zg 1))))
noncomputable def F_law_least:List D->Sto->Out D:=fnF Za7 1 3
theorem ZW:FnScope ["_law_tags_here","_law_best","_law_some","_law_k"] ["_law_tags_here"] (Ze ZS):=⟨rfl,rfl,rfl,by decide +kernel,rfl,by decide +kernel,by decide +kernel⟩
theorem Zci {f:Addr} {fd:FuncData} (F:Fun K "_law_least" "_law_least" ZS f fd) (T:Txt K mg):FnOk P w K mg base (CXE P w) 101 f fd ["_law_tags_here"] (spD K F_law_least):=
 ZaM F ZW rfl rfl fun cdv A outer s H E hr θ=>(Zh (Z5 1 ZW.nd (Zb 0))
  (Zh (ZbY θ.own (ZaU (Za (Zb 0) (Za (ZkU (hr.hd (by decide)) T.b_list T.b_reversed (Za (Zb 0) Zf)) Zf))) (ZX 2 ZW.nd) (Zi (ZcU θ.own T.b_range (Za (Zx Zk Zad T.b_len PySem.boot_len (Za (Zb 2) Zf)) Zf) (ZX 3 ZW.nd) (Zi (Z5 1 ZW.nd (Zx (Zdq (Zbw hr (by decide)) hr.units) Zfp T.b_min ZfV (Za (Zb 1) (Za (ZaV (Zfk (Zb 2) (Zfj (Zb 3)) Zfi) (Zfk (Zb 2) Zfi (Zfj (Zb 3)))) Zf))))))))
  (Zi (ZE (Zb 1)))))
noncomputable abbrev ZJ:Stmt:=top 16
noncomputable def Zag:Sv:=(Z3 (ZaI (gNm 3) (e2 dIx (Zg 0) (e2 dMod (e2 dAdd (Zg 2) (eC (.int 1))) (Zl bLen (Zd (Zg 0) aNil)))))
 (Z3 (sIf (tv (e2 dNe (Zl F_law_cross (Zd (e2 dIx (Zg 0) (Zg 2)) (Zd (Zg 3) aNil))) (eC (.int 1)))) (Zae (eC (.bl false))) sNil)
 (sIf (Zd5 (Zd4 (tv (e2 dLt (e2 dIx (e2 dIx (Zg 0) (Zg 2)) (eC (.int 1))) (eC (.int 0)))) (tv (e2 dGt (e2 dIx (Zg 3) (eC (.int 1))) (eC (.int 0))))) (Zd4 (tv (e2 dEq (e2 dIx (e2 dIx (Zg 0) (Zg 2)) (eC (.int 1))) (eC (.int 0)))) (tv (e2 dGt (e2 dIx (e2 dIx (Zg 0) (Zg 2)) (eC (.int 0))) (eC (.int 0)))))) (ZaI (gNm 1) (e2 dAdd (Zg 1) (eC (.int 1)))) sNil)))
noncomputable def ZaK:Sv:=(Z3 (ZaI (gNm 1) (eC (.int 0)))
 (Z3 (Zbk (gNm 2) (Zd (Zl bLen (Zd (Zg 0) aNil)) aNil) Zag)
 (Zae (Ze5 (e2 dEq (Zg 1) (eC (.int 1))) (e2 dGe (Zl (Zby List.min?) (Zd (Zl F_law_tags (Zd (Zg 0) aNil)) aNil)) (Zcr (eC (.int 2))))))))
noncomputable def F_law_is_one:List D->Sto->Out D:=fnF ZaK 1 3
theorem ZN:FnScope ["_law_rays","_law_passed","_law_k","_law_behind"] ["_law_rays"] (Ze ZJ):=⟨rfl,rfl,rfl,by decide +kernel,rfl,by decide +kernel,by decide +kernel⟩
theorem ZbE {f:Addr} {fd:FuncData} (F:Fun K "_law_is_one" "_law_is_one" ZJ f fd) (T:Txt K mg) (C_law_cross:Cal P w K mg base "_law_cross" 1 2 F_law_cross) (C_law_tags:Cal P w K mg base "_law_tags" 2 1 F_law_tags):FnOk P w K mg base (CXE P w) 101 f fd ["_law_rays"] (spD K F_law_is_one):=
 ZaM F ZN rfl rfl fun cdv A outer s H E hr θ=>(Zh (Z5 1 ZN.nd Zc)
  (Zh (ZcU θ.own T.b_range (Za (Zx Zk Zad T.b_len PySem.boot_len (Za (Zb 0) Zf)) Zf) (ZX 2 ZN.nd) (Zh (Z5 3 ZN.nd (ZY (Zb 0) (ZaW (ZaV (Zb 2) Zc) (Zx Zk Zad T.b_len PySem.boot_len (Za (Zb 0) Zf)))))
  (Zh (ZaD (Z4 (Zbj hr.units) Zdj (Zq C_law_cross θ (hr.mono (by decide)) (Za (ZY (Zb 0) (Zb 2)) (Za (Zb 3) Zf))) Zc) (Zi (ZE Zbs)) ZO)
  (Zi (ZaD (ZgE (Zdh (ZgE (ZfP (Z4 ZeU Ze8 (ZY (ZY (Zb 0) (Zb 2)) Zc) Zc) (Zd6 (Z4 Zh4 Zit (ZY (Zb 3) Zc) Zc)))) (ZbT (ZgE (ZfP (Z4 (ZcQ hr.units) Zfa (ZY (ZY (Zb 0) (Zb 2)) Zc) Zc) (Zd6 (Z4 Zh4 Zit (ZY (ZY (Zb 0) (Zb 2)) Zc) Zc))))))) (Zi (Z5 1 ZN.nd (ZaV (Zb 1) Zc))) ZO)))))
  (Zi (ZE (Zim (Zd3 (ZcQ hr.units) Zfa (Zb 1) Zc) (Zil (Zd3 ZkG ZkN (Zx (Zep (Zbw hr (by decide))) ZgX T.b_min ZfV (Za (Zq C_law_tags θ (hr.mono (by decide)) (Za (Zb 0) Zf)) Zf)) (ZaX Zc))))))))
noncomputable abbrev ZH:Stmt:=top 17
noncomputable def Zap:Sv:=(sIf (Zd5 (Zax (tv (Zl F_law_are_rays (Zd (Zg 1) aNil)))) (Zd5 (tv (e2 dLt (Zl bLen (Zd (Zg 1) aNil)) (eC (.int 3)))) (Zax (tv (Zl F_law_is_one (Zd (Zg 1) aNil)))))) (Zae (eC (.bl false))) sNil)
noncomputable def Za8:Sv:=(Z3 (sIf (Zd5 (Zax (tv (ZdB "list" (Zg 0)))) (tv (e2 dNe (Zl bLen (Zd (Zg 0) aNil)) (eC (.int 16))))) (Zae (eC (.bl false))) sNil)
 (Z3 (Zee (gNm 1) (Zg 0) Zap)
 (Z3 (sIf (tv (e2 dNe (ZaZ (iSq (Zg 0)) 1 [] (gNm 0) (fun _ M=> .ok true M) (Zl bLen (Zd (Zg 0) aNil))) (Ze6 (Zd (eC (.int 3)) (Zd (eC (.int 4)) (Zd (eC (.int 4)) (Zd (eC (.int 4)) (Zd (eC (.int 5)) (Zd (eC (.int 5)) (Zd (eC (.int 6)) (Zd (eC (.int 6)) (Zd (eC (.int 6)) (Zd (eC (.int 6)) (Zd (eC (.int 7)) (Zd (eC (.int 7)) (Zd (eC (.int 8)) (Zd (eC (.int 8)) (Zd (eC (.int 8)) (Zd (eC (.int 9)) aNil))))))))))))))))))) (Zae (eC (.bl false))) sNil)
 (Z3 (ZaI (gNm 2) (ZaZ (iSq (Zg 0)) 1 [] (gNm 0) (fun _ M=> .ok true M) (Zl F_law_least (Zd (Zl F_law_tags (Zd (Zg 0) aNil)) aNil))))
 (Zae (e2 dEq (Zl bLen (Zd (ZaZ (iR1 (Zd (eC (.int 16)) aNil)) 1 [2] (gNm 0) (tv (e2 dEq (Zej mIdx (Zg 1) (Zd (e2 dIx (Zg 1) (Zg 0)) aNil)) (Zg 0))) (Zg 0)) aNil)) (eC (.int 16))))))))
noncomputable def F_law_right:List D->Sto->Out D:=fnF Za8 1 2
theorem Zah:FnScope ["_law_found","_law_rays","_law_rows"] ["_law_found"] (Ze ZH):=⟨rfl,rfl,rfl,by decide +kernel,rfl,by decide +kernel,by decide +kernel⟩
theorem Zcj {f:Addr} {fd:FuncData} (F:Fun K "_law_right" "_law_right" ZH f fd) (T:Txt K mg) (C_law_are_rays:Cal P w K mg base "_law_are_rays" 1 1 F_law_are_rays) (C_law_is_one:Cal P w K mg base "_law_is_one" 101 1 F_law_is_one) (C_law_tags:Cal P w K mg base "_law_tags" 2 1 F_law_tags) (C_law_least:Cal P w K mg base "_law_least" 101 1 F_law_least):FnOk P w K mg base (CXE P w) 102 f fd ["_law_found"] (spD K F_law_right):=
 ZaM F Zah rfl rfl fun cdv A outer s H E hr θ=>(Zh (ZaD (ZgE (Zdh (ZaT (ZaF (ZbW ZcR T.b_isinstance T.b_list Zbu (Zb 0)))) (ZbT (Z4 (Zbj hr.units) Zdj (Zx Zk Zad T.b_len PySem.boot_len (Za (Zb 0) Zf)) Zc)))) (Zi (ZE Zbs)) ZO)
  (Zh (ZbY θ.own (Zb 0) (ZX 1 Zah.nd) (Zi (ZaD (ZgE (Zdh (ZaT (ZaF (Zq C_law_are_rays θ (hr.mono (by decide)) (Za (Zb 1) Zf)))) (Zdh (Z4 ZeU Ze8 (Zx Zk Zad T.b_len PySem.boot_len (Za (Zb 1) Zf)) Zc) (ZbT (ZaT (ZaF (Zq C_law_is_one θ (hr.mono (by decide)) (Za (Zb 1) Zf)))))))) (Zi (ZE Zbs)) ZO)))
  (Zh (ZaD (Z4 (Zbj hr.units) Zdj (Za0 (ZkS (N:=["_law_rays"]) (k:=1) (by decide +kernel) rfl (by decide +kernel) rfl) (Zei (Zb 0)) (fun _ _ _ _=>(ZX 0 (show List.Nodup (["_law_rays"]:List Str) by decide +kernel))) (fun _ _ _ _=>(Or.inl ⟨rfl,rfl⟩)) (fun _ _ _ _=>(Zx Zk Zad T.b_len PySem.boot_len (Za (Zb 0) Zf)))) (Zd7 (Za Zc (Za Zc (Za Zc (Za Zc (Za Zc (Za Zc (Za Zc (Za Zc (Za Zc (Za Zc (Za Zc (Za Zc (Za Zc (Za Zc (Za Zc (Za Zc Zf)))))))))))))))))) (Zi (ZE Zbs)) ZO)
  (Zh (Z5 2 Zah.nd (Za0 (ZkS (N:=["_law_rays"]) (k:=1) (by decide +kernel) rfl (by decide +kernel) rfl) (Zei (Zb 0)) (fun _ _ _ _=>(ZX 0 (show List.Nodup (["_law_rays"]:List Str) by decide +kernel))) (fun _ _ _ _=>(Or.inl ⟨rfl,rfl⟩)) (fun _ _ _ _=>(Zq C_law_least Zbv (hr.mono (by decide)) (Za (Zq C_law_tags Zbv (hr.mono (by decide)) (Za (Zb 0) Zf)) Zf)))))
  (Zi (ZE (Zd3 (ZcQ hr.units) Zfa (Zx Zk Zad T.b_len PySem.boot_len (Za (Za0 (Zmy (XN:=["_law_found","_law_rays","_law_rows"]) (dn:=(Ze ZH).names) (N:=["_law_k","_law_rows"]) (k:=1) (fr:=[2]) rfl rfl rfl rfl (by decide +kernel)) (Zb0 T.b_range (Za Zc Zf)) (fun _ _ _ _=>(ZX 0 (show List.Nodup (["_law_k","_law_rows"]:List Str) by decide +kernel))) (fun _ _ _ _=>(Or.inr ⟨_,rfl,(Z4 (ZcQ hr.units) Zfa (ZgV PySem.F.slot_list_index PySem.F.type_list_index (ZiH hr.units) ZiI (Zb 1) (Za (ZY (Zb 1) (Zb 0)) Zf)) (Zb 0))⟩)) (fun _ _ _ _=>(Zb 0))) Zf)) Zc)))))))
noncomputable abbrev ZbF:Stmt:=top 18
noncomputable def Zke:Sv:=(Z3 (ZaI (gNm 1) (Zl F_sixteen aNil))
 (Z3 (sIf (Zax (tv (Zl F_law_right (Zd (Zg 1) aNil)))) (Zae (eC (.bl false))) sNil)
 (Z3 (ZaI (gNm 2) (e2 dMod (Zl F_law_cell_at (Zd (Zg 0) (Zd (eC (.int 0)) aNil))) (eC (.int 16))))
 (Z3 (Zct (Zej mApp (e2 dIx (Zg 1) (Zg 2)) (Zd (Zcm (Zd (eC (.int 0)) (Zd (eC (.int 0)) aNil))) aNil)))
 (Z3 (Zct (Zej mPop (Zg 1) (Zd (e2 dMod (Zl F_law_cell_at (Zd (Zg 0) (Zd (eC (.int 1)) aNil))) (eC (.int 16))) aNil)))
 (Zae (Zl F_law_right (Zd (Zl F_sixteen aNil) aNil))))))))
noncomputable def ZbG:List D->Sto->Out D:=fnF Zke 1 2
theorem ZeI:FnScope ["_law_script","_law_found","_law_at"] ["_law_script"] (Ze ZbF):=⟨rfl,rfl,rfl,by decide +kernel,rfl,by decide +kernel,by decide +kernel⟩
theorem Zkf {f:Addr} {fd:FuncData} (F:Fun K "law" "law" ZbF f fd) (T:Txt K mg) (C_sixteen:Cal P w K mg base "sixteen" 104 0 F_sixteen) (C_law_right:Cal P w K mg base "_law_right" 102 1 F_law_right) (C_law_cell_at:Cal P w K mg base "_law_cell_at" 1 2 F_law_cell_at):FnOk P w K mg base (CXE P w) 105 f fd ["_law_script"] (spD K ZbG):=
 ZaM F ZeI rfl rfl fun cdv A outer s H E hr θ=>(Zh (Z5 1 ZeI.nd (Zb7 C_sixteen θ (hr.mono (by decide))))
  (Zh (ZaD (ZaT (ZaF (Zq C_law_right θ (hr.mono (by decide)) (Za (Zb 1) Zf)))) (Zi (ZE Zbs)) ZO)
  (Zh (Z5 2 ZeI.nd (ZaW (Zq C_law_cell_at θ (hr.mono (by decide)) (Za (Zb 0) (Za Zc Zf))) Zc))
  (Zh (Zcu (Zb4 (ZY (Zb 1) (Zb 2)) (ZaU (Za Zc (Za Zc Zf)))))
  (Zh (Zcu (ZiR (Zb 1) (ZaW (Zq C_law_cell_at θ (hr.mono (by decide)) (Za (Zb 0) (Za Zc Zf))) Zc)))
  (Zi (ZE (Zq C_law_right θ (hr.mono (by decide)) (Za (Zb7 C_sixteen θ (hr.mono (by decide))) Zf)))))))))
end
theorem Zkg {l:PySem.W.OpenLaw} {w:World} {K:PySem.W.Frag} {h:Heap} {mg:Str->Option Value} {fa f1 f2 f3 f4 f5 f6 f7 f8 f9 f10 f11 f12:Addr} (X:K.In h) (G:h.Ns mainGlobals mg) (hfa:mg "law"=some (.ref fa))
  {od1 an1 od2 an2 od3 an3 od4 an4 od5 an5 od6 an6 od7 an7 od8 an8 od9 an9 od10 an10 od11 an11 od12 an12:Option Addr} {sl1 sl2 sl3 sl4 sl5 sl6 sl7 sl8 sl9 sl10 sl11 sl12:Array (Option Value)} {oc1 kV1 dc1 pm1 cd1 ct1 oc2 kV2 dc2 pm2 cd2 ct2 oc3 kV3 dc3 pm3 cd3 ct3 oc4 kV4 dc4 pm4 cd4 ct4 oc5 kV5 dc5 pm5 cd5 ct5 oc6 kV6 dc6 pm6 cd6 ct6 oc7 kV7 dc7 pm7 cd7 ct7 oc8 kV8 dc8 pm8 cd8 ct8 oc9 kV9 dc9 pm9 cd9 ct9 oc10 kV10 dc10 pm10 cd10 ct10 oc11 kV11 dc11 pm11 cd11 ct11 oc12 kV12 dc12 pm12 cd12 ct12:Value}
  (a1:PySem.W.nsIn K mainGlobals "gone_through"=some (some (.ref f1))) (l1:K.lookup f1=some ⟨oc1,od1,.func (PySem.W.fnOf "gone_through" "gone_through" (Zv Zs) (Zp Zs) (Ze Zs) .none kV1 dc1 pm1 an1 cd1 ct1),sl1⟩) (c1:PySem.W.codeIn K cd1 "gone_through"=true) (k1:PySem.W.keepIn K (.ref f1)=true)
  (a2:PySem.W.nsIn K mainGlobals "times_round"=some (some (.ref f2))) (l2:K.lookup f2=some ⟨oc2,od2,.func (PySem.W.fnOf "times_round" "times_round" (Zv ZB) (Zp ZB) (Ze ZB) .none kV2 dc2 pm2 an2 cd2 ct2),sl2⟩) (c2:PySem.W.codeIn K cd2 "times_round"=true) (k2:PySem.W.keepIn K (.ref f2)=true)
  (a3:PySem.W.nsIn K mainGlobals "round_by"=some (some (.ref f3))) (l3:K.lookup f3=some ⟨oc3,od3,.func (PySem.W.fnOf "round_by" "round_by" (Zv Z1) (Zp Z1) (Ze Z1) .none kV3 dc3 pm3 an3 cd3 ct3),sl3⟩) (c3:PySem.W.codeIn K cd3 "round_by"=true) (k3:PySem.W.keepIn K (.ref f3)=true)
  (a4:PySem.W.nsIn K mainGlobals "sixteen"=some (some (.ref f4))) (l4:K.lookup f4=some ⟨oc4,od4,.func (PySem.W.fnOf "sixteen" "sixteen" (Zv Z9) (Zp Z9) (Ze Z9) .none kV4 dc4 pm4 an4 cd4 ct4),sl4⟩) (c4:PySem.W.codeIn K cd4 "sixteen"=true) (k4:PySem.W.keepIn K (.ref f4)=true)
  (a5:PySem.W.nsIn K mainGlobals "_law_cell_at"=some (some (.ref f5))) (l5:K.lookup f5=some ⟨oc5,od5,.func (PySem.W.fnOf "_law_cell_at" "_law_cell_at" (Zv ZC) (Zp ZC) (Ze ZC) .none kV5 dc5 pm5 an5 cd5 ct5),sl5⟩) (c5:PySem.W.codeIn K cd5 "_law_cell_at"=true) (k5:PySem.W.keepIn K (.ref f5)=true)
  (a6:PySem.W.nsIn K mainGlobals "_law_cross"=some (some (.ref f6))) (l6:K.lookup f6=some ⟨oc6,od6,.func (PySem.W.fnOf "_law_cross" "_law_cross" (Zv ZQ) (Zp ZQ) (Ze ZQ) .none kV6 dc6 pm6 an6 cd6 ct6),sl6⟩) (c6:PySem.W.codeIn K cd6 "_law_cross"=true) (k6:PySem.W.keepIn K (.ref f6)=true)
  (a7:PySem.W.nsIn K mainGlobals "_law_tags"=some (some (.ref f7))) (l7:K.lookup f7=some ⟨oc7,od7,.func (PySem.W.fnOf "_law_tags" "_law_tags" (Zv ZR) (Zp ZR) (Ze ZR) .none kV7 dc7 pm7 an7 cd7 ct7),sl7⟩) (c7:PySem.W.codeIn K cd7 "_law_tags"=true) (k7:PySem.W.keepIn K (.ref f7)=true)
  (a8:PySem.W.nsIn K mainGlobals "_law_are_rays"=some (some (.ref f8))) (l8:K.lookup f8=some ⟨oc8,od8,.func (PySem.W.fnOf "_law_are_rays" "_law_are_rays" (Zv Zt) (Zp Zt) (Ze Zt) .none kV8 dc8 pm8 an8 cd8 ct8),sl8⟩) (c8:PySem.W.codeIn K cd8 "_law_are_rays"=true) (k8:PySem.W.keepIn K (.ref f8)=true)
  (a9:PySem.W.nsIn K mainGlobals "_law_least"=some (some (.ref f9))) (l9:K.lookup f9=some ⟨oc9,od9,.func (PySem.W.fnOf "_law_least" "_law_least" (Zv ZS) (Zp ZS) (Ze ZS) .none kV9 dc9 pm9 an9 cd9 ct9),sl9⟩) (c9:PySem.W.codeIn K cd9 "_law_least"=true) (k9:PySem.W.keepIn K (.ref f9)=true)
  (a10:PySem.W.nsIn K mainGlobals "_law_is_one"=some (some (.ref f10))) (l10:K.lookup f10=some ⟨oc10,od10,.func (PySem.W.fnOf "_law_is_one" "_law_is_one" (Zv ZJ) (Zp ZJ) (Ze ZJ) .none kV10 dc10 pm10 an10 cd10 ct10),sl10⟩) (c10:PySem.W.codeIn K cd10 "_law_is_one"=true) (k10:PySem.W.keepIn K (.ref f10)=true)
  (a11:PySem.W.nsIn K mainGlobals "_law_right"=some (some (.ref f11))) (l11:K.lookup f11=some ⟨oc11,od11,.func (PySem.W.fnOf "_law_right" "_law_right" (Zv ZH) (Zp ZH) (Ze ZH) .none kV11 dc11 pm11 an11 cd11 ct11),sl11⟩) (c11:PySem.W.codeIn K cd11 "_law_right"=true) (k11:PySem.W.keepIn K (.ref f11)=true)
  (a12:PySem.W.nsIn K mainGlobals "law"=some (some (.ref f12))) (l12:K.lookup f12=some ⟨oc12,od12,.func (PySem.W.fnOf "law" "law" (Zv ZbF) (Zp ZbF) (Ze ZbF) .none kV12 dc12 pm12 an12 cd12 ct12),sl12⟩) (c12:PySem.W.codeIn K cd12 "law"=true) (k12:PySem.W.keepIn K (.ref f12)=true)
  (z_sum:PySem.W.nsIn K mainGlobals "sum"=some none)
  (z_len:PySem.W.nsIn K mainGlobals "len"=some none)
  (z_list:PySem.W.nsIn K mainGlobals "list"=some none)
  (z_range:PySem.W.nsIn K mainGlobals "range"=some none)
  (z_isinstance:PySem.W.nsIn K mainGlobals "isinstance"=some none)
  (z_tuple:PySem.W.nsIn K mainGlobals "tuple"=some none)
  (z_int:PySem.W.nsIn K mainGlobals "int"=some none)
  (z_bool:PySem.W.nsIn K mainGlobals "bool"=some none)
  (z_reversed:PySem.W.nsIn K mainGlobals "reversed"=some none)
  (z_min:PySem.W.nsIn K mainGlobals "min"=some none)
  (q_ex_NoRow:ZiC K "NoRow"=true)
  (q_co_ROWS:Zfq K "ROWS" Zao=true)
  : ∃ fd:FuncData,(∀ (s:Shared) (v:Value),BindsTo s fd ⟨[v],[]⟩ [("_law_script",v)])/\ ∀ base:Heap,K.In base->base.Ns mainGlobals mg->FnOk l.prog w K mg base (CXE l.prog w) 105 fa fd ["_law_script"] (spD K ZbG):=by
 have e:=hfa.symm.trans (PySem.W.mg_of X G a12)
 cases e
 have T:Txt K mg:=⟨fun c v e=>PySem.W.mg_of X G e,PySem.W.mg_none_of X G z_sum,PySem.W.mg_none_of X G z_len,PySem.W.mg_none_of X G z_list,PySem.W.mg_none_of X G z_range,PySem.W.mg_none_of X G z_isinstance,PySem.W.mg_none_of X G z_tuple,PySem.W.mg_none_of X G z_int,PySem.W.mg_none_of X G z_bool,PySem.W.mg_none_of X G z_reversed,PySem.W.mg_none_of X G z_min,q_ex_NoRow,q_co_ROWS⟩
 have R1:=Zaa (st:=Zs) l1 c1 k1
 have R2:=Zaa (st:=ZB) l2 c2 k2
 have R3:=Zaa (st:=Z1) l3 c3 k3
 have R4:=Zaa (st:=Z9) l4 c4 k4
 have R5:=Zaa (st:=ZC) l5 c5 k5
 have R6:=Zaa (st:=ZQ) l6 c6 k6
 have R7:=Zaa (st:=ZR) l7 c7 k7
 have R8:=Zaa (st:=Zt) l8 c8 k8
 have R9:=Zaa (st:=ZS) l9 c9 k9
 have R10:=Zaa (st:=ZJ) l10 c10 k10
 have R11:=Zaa (st:=ZH) l11 c11 k11
 have R12:=Zaa (st:=ZbF) l12 c12 k12
 refine ⟨PySem.W.fnOf "law" "law" (Zv ZbF) (Zp ZbF) (Ze ZbF) .none kV12 dc12 pm12 an12 cd12 ct12,fun s v=> .of_eq rfl,fun base _ _=> ?_⟩
 have C1:Cal l.prog w K mg base "gone_through" 101 1 F_gone_through:=⟨f1,_,["numbers"],Za4 R1 T,PySem.W.mg_of X G a1,k1,rfl,R1.binds (ps:=["numbers"]) fun _ _ _ _ _ _ us hl=>match us,hl with | [_],_=>rfl⟩
 have C2:Cal l.prog w K mg base "times_round" 102 1 F_times_round:=⟨f2,_,["numbers"],Zbd R2 T C1,PySem.W.mg_of X G a2,k2,rfl,R2.binds (ps:=["numbers"]) fun _ _ _ _ _ _ us hl=>match us,hl with | [_],_=>rfl⟩
 have C3:Cal l.prog w K mg base "round_by" 103 1 F_round_by:=⟨f3,_,["numbers"],ZcF R3 T C2 C1,PySem.W.mg_of X G a3,k3,rfl,R3.binds (ps:=["numbers"]) fun _ _ _ _ _ _ us hl=>match us,hl with | [_],_=>rfl⟩
 have C4:Cal l.prog w K mg base "sixteen" 104 0 F_sixteen:=⟨f4,_,[],Zdy R4 T C3,PySem.W.mg_of X G a4,k4,rfl,R4.binds (ps:=[]) fun _ _ _ _ _ _ us hl=>match us,hl with | [],_=>rfl⟩
 have C5:Cal l.prog w K mg base "_law_cell_at" 1 2 F_law_cell_at:=⟨f5,_,["_law_script","_law_k"],Zbe R5 T,PySem.W.mg_of X G a5,k5,rfl,R5.binds (ps:=["_law_script","_law_k"]) fun _ _ _ _ _ _ us hl=>match us,hl with | [_,_],_=>rfl⟩
 have C6:Cal l.prog w K mg base "_law_cross" 1 2 F_law_cross:=⟨f6,_,["_law_one","_law_other"],Zch R6 T,PySem.W.mg_of X G a6,k6,rfl,R6.binds (ps:=["_law_one","_law_other"]) fun _ _ _ _ _ _ us hl=>match us,hl with | [_,_],_=>rfl⟩
 have C7:Cal l.prog w K mg base "_law_tags" 2 1 F_law_tags:=⟨f7,_,["_law_rays"],ZcG R7 T C6,PySem.W.mg_of X G a7,k7,rfl,R7.binds (ps:=["_law_rays"]) fun _ _ _ _ _ _ us hl=>match us,hl with | [_],_=>rfl⟩
 have C8:Cal l.prog w K mg base "_law_are_rays" 1 1 F_law_are_rays:=⟨f8,_,["_law_found"],Za6 R8 T,PySem.W.mg_of X G a8,k8,rfl,R8.binds (ps:=["_law_found"]) fun _ _ _ _ _ _ us hl=>match us,hl with | [_],_=>rfl⟩
 have C9:Cal l.prog w K mg base "_law_least" 101 1 F_law_least:=⟨f9,_,["_law_tags_here"],Zci R9 T,PySem.W.mg_of X G a9,k9,rfl,R9.binds (ps:=["_law_tags_here"]) fun _ _ _ _ _ _ us hl=>match us,hl with | [_],_=>rfl⟩
 have C10:Cal l.prog w K mg base "_law_is_one" 101 1 F_law_is_one:=⟨f10,_,["_law_rays"],ZbE R10 T C6 C7,PySem.W.mg_of X G a10,k10,rfl,R10.binds (ps:=["_law_rays"]) fun _ _ _ _ _ _ us hl=>match us,hl with | [_],_=>rfl⟩
 have C11:Cal l.prog w K mg base "_law_right" 102 1 F_law_right:=⟨f11,_,["_law_found"],Zcj R11 T C8 C10 C7 C9,PySem.W.mg_of X G a11,k11,rfl,R11.binds (ps:=["_law_found"]) fun _ _ _ _ _ _ us hl=>match us,hl with | [_],_=>rfl⟩
 exact Zkf R12 T C4 C11 C5
end K63
end
section
namespace K63
open PySem PySem.Spec L2 DL
open CV
open CT (rl rl0 Cl)
open TW (run ZeF)
theorem ZhA:F_times_round=CT.F_times_round:=rfl
theorem Zkh:F_gone_through=CT.F_gone_through:=rfl
theorem Zki:F_law_cell_at=CC.F_law_cell_at:=rfl
theorem ZhB:F_law_cross=CC.F_law_cross:=rfl
theorem Zgg:F_law_tags=CC.F_law_tags:=rfl
theorem Zkj:F_law_are_rays=CC.F_law_are_rays:=rfl
noncomputable def rnd (L:List Int):List Pt:=rl0 (1,0) (0,1) L
structure Rw (L:List Int):Prop where
 sm: ∀ b∈L,-2<=b/\b<=2
 cl:run (1,0) (0,1) L=((1,0),(0,1))
 ea:ZeF (1,0) (0,1) L=1
 l3:3<=L.length/\L.length<=9
 nr: ∀ p∈rnd L,(-10<=p.1/\p.1<=10)/\ -10<=p.2/\p.2<=10
theorem ZhC: ∀ L∈Zao,Rw L:=by
 have: ∀ L∈Zao,(∀ b∈L,-2<=b/\b<=2)/\run (1,0) (0,1) L=((1,0),(0,1))/\ZeF (1,0) (0,1) L=1/\(3<=L.length/\L.length<=9)/\ ∀ p∈rnd L,(-10<=p.1/\p.1<=10)/\ -10<=p.2/\p.2<=10:=by decide +kernel
 intro L hL
 obtain ⟨a,b,c,d,e⟩:=this L hL
 exact ⟨a,b,c,d,e⟩
section
variable {Q:D->Sto->Prop} {E:Str->Sto->Prop} {M:Sto} {n m p:Nat} {L:List Int} {N B C:Ro->Sto->Prop} {R:D->Sto->Prop}
theorem ZoG (hL:Rw L) (h:M[n]?=some (.lst (nts L))) (q: ∀ o M',Kp M M'->M.length<=o->M'[o]?=some (.lst (prs (rnd L)))->Q (.ref o) M'):wO (F_round_by [.ref n] M) Q E:=by
 have sm:CT.Zdw L:=fun b hb=>by have:=hL.sm b hb;omega
 have l9:=hL.l3
 simp![F_round_by,Zbm,ZhA]
 refine CT.Zhy h sm (by omega) fun M1 K1=> ?_
 rw[if_pos (show Cl L from hL.cl),hL.ea]
 simp![Zkh]
 refine CT.Zge (K1.get h) sm.sm (by omega) fun M2 K2 r2=> ?_
 have l2:=Zy r2
 have K12:=K1.trans K2
 have k1:=K1.1
 simp![r2]
 have e:Zbx (prs (rl (1,0) (0,1) L)) none (some (-2))=prs (rnd L):=CT.Zgd.2
 rw[e]
 have k2:=K12.1
 exact q _ _ (K12.trans Kp.app) k2 (by simp)
noncomputable def ra (j:Nat):List Int:=Zao.getD j []
theorem ZfH {j:Nat} (h:j < 16):Rw (ra j):=ZhC _ (by
 have l:Zao.length=16:=rfl
 unfold ra
 rw[List.getD_eq_getElem?_getD,List.getElem?_eq_getElem (by omega)]
 exact List.getElem_mem _)
noncomputable def Six (r:Nat) (os:List Nat) (M:Sto):Prop:=M[r]?=some (.lst (os.map D.ref))/\ ∀ (j o:Nat),os[j]?=some o->M[o]?=some (SO.lst (prs (rnd (ra j))))
theorem wF0 {g:Sv}:wO (fnF g 0 0 [] M) Q E=wS (g [] M) (ZhH Q) Q (fun _ _=>False) (fun _ _=>False) E:=wF rfl
theorem Zmk {xs:List D} {QS:Src->Sto->Prop}:wO (oSq (.con xs) M) QS E=QS (.pur xs) M:=rfl
theorem ZhD {xs:List D}:wO (bList [.con xs] M) Q E=Q (.ref M.length) (M ++ [.lst xs]):=rfl
theorem Zck (q: ∀ os M',Kp M M'->os.length=16->(∀ o∈os,M.length < o)->Six M.length os M'->Q (.ref M.length) M'):wO (F_sixteen [] M) Q E:=by
 simp![F_sixteen,Zcf,wF0,ZkX,Zmk]
 have cl:Zao.length=16:=rfl
 refine ZcZ (xs:=Zao.map fun r=>D.con (r.map D.int)) (Q:=fun M2=>Q (.ref M.length) M2) (fun i ρ M'=>(∃ x,ρ=[x])/\ ∃ os:List Nat,os.length=i/\Kp M M'/\(∀ o∈os,M.length < o)/\Six M.length os M') _ 0 _ _ (by simp) (by simp[cnt]) ⟨⟨_,rfl⟩,[],rfl,Kp.app,by simp,by simp,fun j o z=>by simp at z⟩ (fun i ρ M' hi hI=>rfl) ?_ ?_
 ·rintro i ρ M' hi ⟨⟨x,rfl⟩,os,hl,K,ho,r0,hs⟩
  have ei:(Zao.map fun r=>D.con (r.map D.int))[i]'hi=D.con (nts (ra i)):=by
   rw[List.getElem_map]
   unfold ra nts
   rw[List.getD_eq_getElem?_getD,List.getElem?_eq_getElem (by simpa using hi)]
   rfl
  have hi16:i < 16:=by simpa [cl] using hi
  have lr:=Zy r0
  rw[ei]
  simp![ZhD]
  have r1:(M' ++ [SO.lst (nts (ra i))])[M'.length]?=some (.lst (nts (ra i))):=by simp
  have K1:Kp M' (M' ++ [SO.lst (nts (ra i))]):=Kp.app
  generalize M' ++ [SO.lst (nts (ra i))]=M1 at *
  rw[ZiX]
  refine ZoG (ZfH hi16) r1 fun o M2 K2 lo r2=> ?_
  have K12:=K1.trans K2
  have k1:=K1.1
  have r02:=K12.get r0
  have l02:=Zy r02
  rw[r02]
  refine ⟨by simp;omega,⟨_,rfl⟩,os ++ [o],by simp[hl],(K.trans K12).set (Nat.le_refl _),fun z hz=> ?_,?_,fun j z hz=> ?_⟩
  ·rcases List.mem_append.mp hz with hz | hz
   ·exact ho z hz
   ·simp at hz;omega
  ·rw[List.getElem?_set_self l02];simp
  ·by_cases c:j < os.length
   ·rw[List.getElem?_append_left c] at hz
    have:=ho z (List.mem_of_getElem? hz)
    rw[List.getElem?_set_ne (by omega)]
    exact K12.get (hs j z hz)
   ·have:j=os.length:=by
     have:=(List.getElem?_eq_some_iff.mp hz).1
     simp at this
     omega
    subst this
    simp at hz
    subst hz
    rw[List.getElem?_set_ne (by omega),hl]
    exact r2
 ·rintro ρ M' ⟨-,os,hl,K,ho,hs⟩
  exact q os M' K (by simpa [cl] using hl) ho hs
noncomputable def ltI (xs ys:List Int):Bool:=(ltL (nts xs) (nts ys)).getD false
noncomputable def mnI (a b:List Int):List Int:=if ltI b a=true then b else a
noncomputable def rot (L:List Int) (k:Nat):List Int:=L.drop k ++ L.take k
noncomputable def fld (L:List Int) (b:List Int) (k:Nat):List Int:=(List.range k).foldl (fun b i=>mnI b (rot L i)) b
noncomputable def lsI (L:List Int):List Int:=fld L.reverse (fld L L L.length) L.length
theorem ZeJ: ∀ {xs ys:List Int},∃ b,ltL (nts xs) (nts ys)=some b
 | [],[]=>⟨_,rfl⟩
 | [],_ :: _=>⟨_,rfl⟩
 |_ :: _,[]=>⟨_,rfl⟩
 |x :: xs,y :: ys=>by
  obtain ⟨b,hb⟩:=ZeJ (xs:=xs) (ys:=ys)
  show ∃ b,(match ltE (.int x) (.int y) with | none=>none | some b=>if ltL.eqX (.int x) (.int y)=true then ltL (nts xs) (nts ys) else some b)=some b
  rw[hb]
  simp only[ltE]
  split<;>exact ⟨_,rfl⟩
theorem ZeK: ∀ {xs ys:List Int},Zaz (nts xs) (nts ys)=true
 | [],[]=>rfl
 | [],_ :: _=>rfl
 |_ :: _,[]=>rfl
 |x :: xs,y :: ys=>by
  show ((ltE (.int x) (.int y)).isSome && Zaz (nts xs) (nts ys))=true
  rw[ZeK]
  rfl
theorem Zkk {xs ys:List Int} (h1:M[n]?=some (.lst (nts xs))) (h2:M[m]?=some (.lst (nts ys))):wO (bMinL [.ref n,.ref m] M) Q E=Q (if ltI ys xs=true then .ref m else .ref n) M:=by
 have:bMinL [.ref n,.ref m] M= .ok (if ltI ys xs=true then .ref m else .ref n) M:=by
  obtain ⟨b,hb⟩:=ZeJ (xs:=ys) (ys:=xs)
  simp only[bMinL,h1,h2,ZeK,if_true,hb,ltI,Option.getD_some]
 rw[this]
 rfl
theorem Zc6 {b:List Int} {k:Nat}:fld L b (k + 1)=mnI (fld L b k) (rot L k):=by
 unfold fld
 rw[List.range_succ,List.foldl_append]
 rfl
theorem ZeL {A b0:List Int} {k r:Nat} {o:Nat} {x0:Option D} (hA:A.length<=1000) (hk:k < A.length) (hr:M[r]?=some (.lst (nts A))) (ho:M[o]?=some (.lst (nts (fld A b0 k))))
  (hN: ∀ o' M',Kp M M'->(o'=o\/M.length<=o')->M'[o']?=some (.lst (nts (fld A b0 (k + 1))))->N [x0,some (.ref o'),some (.ref r),some (.int k)] M'):wS (Z6 [x0,some (.ref o),some (.ref r),some (.int k)] M) N R B C E:=by
 have hrn:=Zy hr
 have hon:=Zy ho
 have ek:((k:Nat):Int).toNat=k:=by omega
 simp![Z6,hr]
 rw[ek]
 refine ⟨by rw[List.length_drop,List.length_take];omega,?_⟩
 have K1:Kp M (M ++ [SO.lst (nts (A.drop k)),SO.lst (nts (A.take k)),SO.lst (nts (A.drop k ++ A.take k))]):=Kp.app
 have r1:(M ++ [SO.lst (nts (A.drop k)),SO.lst (nts (A.take k)),SO.lst (nts (A.drop k ++ A.take k))])[M.length + 2]?=some (.lst (nts (rot A k))):=by rw[Zlm];rfl
 generalize M ++ [SO.lst (nts (A.drop k)),SO.lst (nts (A.take k)),SO.lst (nts (A.drop k ++ A.take k))]=M1 at *
 have o1:=K1.get ho
 rw[Zkk o1 r1]
 by_cases c:ltI (rot A k) (fld A b0 k)=true
 ·rw[if_pos c]
  simp![Zr]
  exact hN _ _ K1 (.inr (by omega)) (by rw[r1,Zc6,mnI,if_pos c])
 ·rw[if_neg c]
  simp![Zr]
  exact hN _ _ K1 (.inl rfl) (by rw[o1,Zc6,mnI,if_neg c])
theorem ZhE (h:M[m]?=some (.lst (nts L))) (hl:L.length<=1000) (q: ∀ o M',Kp M M'->m<=o->M'[o]?=some (.lst (nts (lsI L)))->Q (.ref o) M'):wO (F_law_least [.ref m] M) Q E:=by
 have hm:=Zy h
 simp![F_law_least,Za7,Zma,h,Zkw]
 have K1:Kp M (M ++ [SO.lst (nts L).reverse]):=Kp.app
 have r1:(M ++ [SO.lst (nts L).reverse])[M.length]?=some (.lst (nts L.reverse)):=by rw[Zez];unfold nts;rw[List.map_reverse];rfl
 have m1:=K1.get h
 generalize M ++ [SO.lst (nts L).reverse]=M1 at *
 generalize M.length=rv at *
 refine ZbB (fun t ρ M'=>Kp M1 M'/\ ∃ o x2 x3,ρ=[some (.ref m),some (.ref o),x2,x3]/\m<=o/\M'[o]?=some (.lst (nts (if t=0 then L else if t=1 then fld L L L.length else lsI L)))) _ 0 _ M1 ⟨Kp.refl,m,_,_,rfl,Nat.le_refl _,m1⟩ ?_ ?_
 ·rintro t ρ M2 ht ⟨K2,o,x2,x3,rfl,mo,ho⟩
  have:t=0\/t=1:=by simp at ht;omega
  rcases this with rfl | rfl
  ·have m2:=K2.get m1
   simp only[List.getElem_cons_zero]
   simp![Z7,m2]
   refine ⟨by omega,?_⟩
   refine Zey (fun k ρ M'=>Kp M1 M'/\ ∃ o x3,ρ=[some (.ref m),some (.ref o),some (.ref m),x3]/\m<=o/\M'[o]?=some (.lst (nts (fld L L k)))) ⟨K2,o,_,rfl,mo,ho⟩ ?_ ?_
   ·rintro k ρ M3 hk ⟨K3,o,x3,rfl,mo,ho⟩
    rw[show (0:Int) + (k:Int)=k by omega]
    simp![Zr]
    exact ZeL hl (by omega) (K3.get m1) ho fun o M4 K4 no ho=>⟨K3.trans K4,o,_,rfl,by have:=Zy m1;have:=K3.1;omega,ho⟩
   ·rintro ρ M3 ⟨K3,o,x3,rfl,mo,ho⟩
    exact ⟨K3,o,_,_,rfl,mo,ho⟩
  ·have m2:=K2.get r1
   simp only[List.getElem_cons_succ,List.getElem_cons_zero]
   simp![Z7,m2]
   refine ⟨by rw[List.length_reverse];omega,?_⟩
   refine Zey (fun k ρ M'=>Kp M1 M'/\ ∃ o x3,ρ=[some (.ref m),some (.ref o),some (.ref rv),x3]/\m<=o/\M'[o]?=some (.lst (nts (fld L.reverse (fld L L L.length) k)))) ⟨K2,o,_,rfl,mo,ho⟩ ?_ ?_
   ·rintro k ρ M3 hk ⟨K3,o,x3,rfl,mo,ho⟩
    rw[show (0:Int) + (k:Int)=k by omega]
    simp![Zr]
    exact ZeL (by rw[List.length_reverse];exact hl) (by omega) (K3.get r1) ho fun o M4 K4 no ho=>⟨K3.trans K4,o,_,rfl,by have:=Zy m1;have:=K3.1;omega,ho⟩
   ·rintro ρ M3 ⟨K3,o,x3,rfl,mo,ho⟩
    rw[List.length_reverse] at ho
    exact ⟨K3,o,_,_,rfl,mo,ho⟩
 ·rintro ρ M2 ⟨K2,o,x2,x3,rfl,mo,ho⟩
  simp![Zr]
  exact q o M2 (K1.trans K2) mo ho
noncomputable def pas (rs:List Pt) (k:Nat):Bool:=decide ((cy rs k).2 < 0/\0 < (cy rs (k + 1)).2) || decide ((cy rs k).2=0/\0 < (cy rs k).1)
noncomputable def ZhF (rs:List Pt) (k:Nat):Nat:=(List.range k).countP (pas rs)
theorem Zml {rs:List Pt} (h:M[n]?=some (.lst (prs rs))) (h3:3<=rs.length) (hl:rs.length<=1000) (hb:Nr 10 rs) (hx: ∀ i:Nat,i < rs.length->X (cy rs i) (cy rs (i + 1))=1) (hc:ZhF rs rs.length=1) {mi:Int} (hm:(ZaN rs).min?=some mi) (hmi: -2<=mi) (q: ∀ M',Kp M M'->Q (.bl true) M'):wO (F_law_is_one [.ref n] M) Q E:=by
 have hn:=Zy h
 have ne:rs≠[]:=fun z=>by rw[z] at h3;simp at h3
 simp![F_law_is_one,ZaK,h]
 refine ⟨by omega,?_⟩
 refine Zey (fun k ρ M'=>M'=M/\ ∃ x2 x3,ρ=[some (.ref n),some (.int (ZhF rs k)),x2,x3]) ⟨rfl,_,_,rfl⟩ ?_ ?_
 ·rintro k ρ M' hk ⟨rfl,x2,x3,rfl⟩
  have hk':k < rs.length:=by omega
  have e1:=ZaE (i:=(k:Int) + 1) (m:=rs.length) (by omega)
  have b1:=Nr.cy hb ne k
  have xx:=hx k hk'
  unfold X at xx
  have nx:ZhF rs (k + 1)=ZhF rs k + if pas rs k=true then 1 else 0:=by
   unfold ZhF
   rw[List.range_succ,List.countP_append,List.countP_singleton]
  rw[show (0:Int) + (k:Int)=k by omega]
  simp![Zag,h,Za3,ZeA,ZhB]
  rw[CC.ZeE (by omega) (by omega),xx]
  simp![h,Za3]
  refine ZmI (fun b M1=>b=decide ((cy rs k).2 < 0/\0 < (cy rs (k + 1)).2)/\M1=M') ?_ ?_
  ·refine brO (fun z=> ?_) (fun z=> ?_)
   ·simp![Zr]
    rw[decide_eq_decide]
    omega
   ·simp![Zr]
  intro b1 M1 hb1
  obtain ⟨rfl,hM⟩:=hb1
  rw[hM]
  simp![Zr]
  refine ZmI (fun b M1=>b=pas rs k/\M1=M') ?_ ?_
  ·refine brO (fun z=> ?_) (fun z=> ?_)
   ·simp![Zr]
    unfold pas
    rw[decide_eq_true z]
    rfl
   ·simp![h,Za3]
    refine brO (fun z2=> ?_) (fun z2=> ?_)
    ·simp![h,Za3]
     unfold pas
     rw[decide_eq_false z,Bool.false_or,decide_eq_decide]
     omega
    ·simp![Zr]
     unfold pas
     rw[decide_eq_false z,Bool.false_or,decide_eq_false (by omega)]
  intro b1 M1 hb1
  obtain ⟨rfl,hM⟩:=hb1
  rw[hM]
  simp![Zr]
  refine Zop (fun z=> ?_) (fun z=> ?_)
  ·simp![Zr]
   rw[nx,if_pos z]
   exact ⟨_,_,rfl⟩
  ·simp![Zr]
   rw[nx,if_neg (by rw[z];decide)]
   exact ⟨_,_,rfl⟩
 ·rintro ρ M' ⟨rfl,x2,x3,rfl⟩
  rw[show ((rs.length:Nat):Int).toNat=rs.length by omega,hc]
  simp![Zgg]
  refine CC.Zga h (by omega) hl (fun x hx=>by have:=hb x hx;omega) ?_
  have K1:Kp M' (M' ++ [SO.lst (nts (ZaN rs))]):=Kp.app
  simp![CC.Zcd,hm]
  exact q _ K1
theorem ZfI {j:Nat} (h:j < 16):(∀ i:Nat,i < (rnd (ra j)).length->X (cy (rnd (ra j)) i) (cy (rnd (ra j)) (i + 1))=1)/\ZhF (rnd (ra j)) (rnd (ra j)).length=1/\(∃ mi:Int,(ZaN (rnd (ra j))).min?=some mi/\ -2<=mi)/\(rnd (ra j)).length=(ra j).length:=by
 have a: ∀ j:Fin 16,(∀ i:Fin (rnd (ra j)).length,X (cy (rnd (ra j)) (i:Nat)) (cy (rnd (ra j)) ((i:Nat) + 1))=1)/\ZhF (rnd (ra j)) (rnd (ra j)).length=1/\((ZaN (rnd (ra j))).min?.any fun m=>decide (-2<=m))=true:=by decide +kernel
 obtain ⟨a1,a2,a3⟩:=a ⟨j,h⟩
 refine ⟨fun i hi=>a1 ⟨i,hi⟩,a2,?_,CT.ZcD⟩
 cases e:(ZaN (rnd (ra j))).min? with
 |none=>rw[e] at a3;cases a3
 |some m=>rw[e] at a3;exact ⟨m,rfl,by simpa using a3⟩
noncomputable def lns:List Int:=[3,4,4,4,5,5,6,6,6,6,7,7,8,8,8,9]
theorem Zkl: ∀ j,j < 16->((ra j).length:Int)=lns.getD j 0:=by decide +kernel
noncomputable def lr (j:Nat):List Int:=lsI (ZaN (rnd (ra j)))
theorem Zkm: ∀ k:Nat,k < 16->((List.range 16).map fun j=>decide (lr j=lr k)).findIdx? id=some k:=by decide +kernel
theorem Zc7 {d:Nat} {g:List Int} (hd:M[d]?=some (.lst (nts g))): ∀ (ps:List Nat) (fs:List (List Int)),ps.length=fs.length->(∀ (j p:Nat),ps[j]?=some p->M[p]?=some (SO.lst (nts (fs.getD j []))))->eqs M (.ref d) (ps.map D.ref)=some (fs.map fun f=>decide (f=g))
 | [],[],_,_=>rfl
 | [],_ :: _,h,_=>by simp at h
 |_ :: _,[],h,_=>by simp at h
 |p :: ps,f :: fs,h,hp=>by
  have e1:eqF 12 M (.ref p) (.ref d)=some (decide (f=g)):=Zjr (hp 0 p rfl) hd
  have e2:=Zc7 hd ps fs (by simpa using h) fun j p hj=>hp (j + 1) p (by simpa using hj)
  show (match eqF 12 M (.ref p) (.ref d) with | some b=>(match eqs M (.ref d) (ps.map D.ref) with | some bs=>some (b :: bs) | none=>none) | none=>none)=_
  rw[e1,e2]
  rfl
theorem ZeM {r:Nat} {os:List Nat} (h:Six r os M) (hl:os.length=16) (q: ∀ M',Kp M M'->Q (.bl true) M'):wO (F_law_right [.ref r] M) Q E:=by
 obtain ⟨h0,hs⟩:=h
 have hr:=Zy h0
 have ol:(os.map D.ref).length=16:=by simp[hl]
 have at': ∀ {i:Nat} (hi:i < (os.map D.ref).length),(os.map D.ref)[i]=D.ref (os[i]'(by simpa using hi)):=fun hi=>by simp
 have hs': ∀ {i:Nat} (hi:i < os.length),M[os[i]]?=some (.lst (prs (rnd (ra i)))):=fun hi=>hs _ _ (by rw[List.getElem?_eq_getElem hi])
 simp![F_law_right,Za8,Zf4 h0,h0,ol]
 refine ZcA (fun i ρ M'=>Kp M M'/\ ∃ x2 x3,ρ=[some (.ref r),x2,x3]) h0 ⟨Kp.refl,_,_,rfl⟩ (fun i ρ M' hI=>hI.1.get h0) ?_ ?_
 ·rintro i ρ M1 hi ⟨K1,x2,x3,rfl⟩
  have hi16:i < 16:=by omega
  have ri:=K1.get (hs' (i:=i) (by omega))
  have ok:=ZfH hi16
  obtain ⟨f1,f2,⟨mi,f3,f4⟩,f5⟩:=ZfI hi16
  have l3:=ok.l3
  rw[at' hi]
  simp![Zap,Zkj]
  refine CC.Zdv ri ?_
  simp![ri]
  refine Zml ri (by omega) (by omega) ok.nr f1 f2 f3 f4 fun M2 K2=> ?_
  simp![Zr]
  exact ⟨K1.trans K2,_,_,rfl⟩
 rintro ρ M1 ⟨K1,x2,x3,rfl⟩
 have g0:=K1.get h0
 have gs: ∀ {i:Nat} (hi:i < os.length),M1[os[i]]?=some (.lst (prs (rnd (ra i)))):=fun hi=>K1.get (hs' hi)
 simp![Zr]
 refine ZoE (fun ρ=> ∃ x,ρ=[x]) (fun i=> .int (lns.getD i 0)) g0 (by omega) ⟨_,rfl⟩ ?_ ?_
 ·rintro i hi ρ Lx ⟨x,rfl⟩
  have ho:os[i]'(by omega) < M1.length:=Zy (gs (by omega))
  have gi:(M1 ++ Lx)[os[i]'(by omega)]?=some (.lst (prs (rnd (ra i)))):=by rw[Zdu ho];exact gs (by omega)
  have e:=Zkl i (by omega)
  have f5:=(ZfI (j:=i) (by omega)).2.2.2
  rw[at' hi]
  simp![gi]
  refine ⟨⟨_,rfl⟩,?_⟩
  rw[f5,e]
 rw[ol]
 have el:(List.range 16).map (fun i=>D.int (lns.getD i 0))=nts lns:=rfl
 rw[el]
 have K2:Kp M1 (M1 ++ [SO.lst (nts lns)]):=Kp.app
 have l2:(M1 ++ [SO.lst (nts lns)])[M1.length]?=some (.lst (nts lns)):=by simp
 generalize M1 ++ [SO.lst (nts lns)]=M2 at *
 simp![Zr]
 change wG (eqF 12 (M2 ++ [SO.lst (nts lns)]) (D.ref M1.length) (D.ref M2.length)) _
 change wG _ (kNe _ (M2 ++ [SO.lst (nts lns)]))
 have K3:Kp M2 (M2 ++ [SO.lst (nts lns)]):=Kp.app
 have l3:(M2 ++ [SO.lst (nts lns)])[M2.length]?=some (.lst (nts lns)):=by simp
 generalize M2 ++ [SO.lst (nts lns)]=M3 at *
 have e3:eqF 12 M3 (.ref M1.length) (.ref M2.length)=some (decide (lns=lns)):=Zjr (K3.get l2) l3
 rw[decide_eq_true rfl] at e3
 rw[e3]
 have K13:=K2.trans K3
 have g3:=K13.get g0
 have gs3: ∀ {i:Nat} (hi:i < os.length),M3[os[i]]?=some (.lst (prs (rnd (ra i)))):=fun hi=>K13.get (gs hi)
 have K03:=K1.trans K13
 simp![Zr]
 refine ZcZ (xs:=os.map D.ref) (Q:=fun M2=>_) (fun i ρ M'=>(∃ x,ρ=[x])/\ ∃ ps:List Nat,ps.length=i/\Kp M3 M'/\M'[M3.length]?=some (.lst (ps.map D.ref))/\(∀ p∈ps,M3.length < p)/\ ∀ (j p:Nat),ps[j]?=some p->M'[p]?=some (SO.lst (nts (lr j)))) _ 0 _ _ (by simp) (by rw[ZeB g3];simp) ⟨⟨_,rfl⟩,[],rfl,Kp.app,by simp,by simp,fun j o z=>by simp at z⟩ (fun i ρ M' hi hI=> ?_) ?_ ?_
 ·obtain ⟨-,ps,-,K,-,-,-⟩:=hI
  exact Zf5 (K.get g3)
 ·rintro i ρ M' hi ⟨⟨x,rfl⟩,ps,hl',K,r0,ho,hp⟩
  have hi16:i < 16:=by omega
  have ri:=K.get (gs3 (i:=i) (by omega))
  have ok:=ZfH hi16
  have f5:=(ZfI hi16).2.2.2
  have lq:=ok.l3
  have lr0:=Zy r0
  rw[at' hi]
  simp![Zgg]
  rw[ZiX]
  refine CC.Zga ri (by omega) (by omega) (fun x hx=>by have:=ok.nr x hx;omega) ?_
  simp![Zr]
  have K1:Kp M' (M' ++ [SO.lst (nts (ZaN (rnd (ra i))))]):=Kp.app
  have r1:(M' ++ [SO.lst (nts (ZaN (rnd (ra i))))])[M'.length]?=some (.lst (nts (ZaN (rnd (ra i))))):=by simp
  generalize M' ++ [SO.lst (nts (ZaN (rnd (ra i))))]=M4 at *
  refine ZhE r1 (by unfold ZaN;simp;omega) fun o M5 K5 lo r5=> ?_
  have K15:=K1.trans K5
  have r05:=K15.get r0
  have l05:=Zy r05
  have r5':M5[o]?=some (.lst (nts (lr i))):=r5
  rw[r05]
  refine ⟨by simp;omega,⟨_,rfl⟩,ps ++ [o],by simp[hl'],(K.trans K15).set (Nat.le_refl _),?_,fun z hz=> ?_,fun j z hz=> ?_⟩
  ·rw[List.getElem?_set_self l05];simp
  ·rcases List.mem_append.mp hz with hz | hz
   ·exact ho z hz
   ·simp at hz;omega
  ·by_cases c:j < ps.length
   ·rw[List.getElem?_append_left c] at hz
    have:=ho z (List.mem_of_getElem? hz)
    rw[List.getElem?_set_ne (by omega)]
    exact K15.get (hp j z hz)
   ·have:j=ps.length:=by
     have:=(List.getElem?_eq_some_iff.mp hz).1
     simp at this
     omega
    subst this
    simp at hz
    subst hz
    rw[List.getElem?_set_ne (by omega),hl']
    exact r5'
 rintro ρ M4 ⟨-,ps,hl',K4,r0,ho,hp⟩
 have pl:ps.length=16:=by omega
 generalize M3.length=rl' at *
 have lr0:=Zy r0
 simp![Zr]
 refine ZcZ (xs:=Z8 0 16) (Q:=fun M2=>_) (fun i ρ M'=>(∃ x,ρ=[x,some (.ref rl')])/\ ∃ ys:List D,ys.length=i/\M'=M4 ++ [.lst ys]) _ 0 _ _ (by simp) (by simp[cnt]) ⟨⟨_,rfl⟩,[],rfl,rfl⟩ (fun i ρ M' hi hI=>rfl) ?_ ?_
 ·rintro i ρ M' hi ⟨⟨x,rfl⟩,ys,hy,rfl⟩
  have hi16:i < 16:=by simpa [Z8] using hi
  have r1:(M4 ++ [SO.lst ys])[rl']?=some (.lst (ps.map D.ref)):=by rw[Zdu lr0];exact r0
  have hp1: ∀ (j p:Nat),ps[j]?=some p->(M4 ++ [SO.lst ys])[p]?=some (SO.lst (nts (((List.range 16).map lr).getD j []))):=fun j p hj=>by
   have hj16:j < 16:=by have:=(List.getElem?_eq_some_iff.mp hj).1;omega
   have:=hp j p hj
   rw[Zdu (Zy this),this]
   simp[hj16]
  have pi:ps[i]?=some (ps[i]'(by omega)):=List.getElem?_eq_getElem (by omega)
  have es:=Zc7 (M:=M4 ++ [SO.lst ys]) (d:=ps[i]'(by omega)) (g:=lr i) (by
   have:=hp i _ pi
   rw[Zdu (Zy this)];exact this) ps ((List.range 16).map lr) (by simp[pl]) hp1
  have fi:(((List.range 16).map lr).map fun f=>decide (f=lr i)).findIdx? id=some i:=by
   rw[List.map_map]
   exact Zkm i hi16
  have at1:atI (ps.map D.ref) (i:Int)=some (D.ref (ps[i]'(by omega))):=Zcp (by rw[List.getElem?_map,pi];rfl)
  have er:(Z8 0 16)[i]'hi=D.int i:=by simp[Z8]
  rw[er]
  simp![r1,at1,es]
  rw[fi]
  simp![Zr]
  rw[ZiX]
  simp![Zr]
  exact ⟨by omega,hy⟩
 ·rintro ρ M' ⟨-,ys,hy,rfl⟩
  have yl:ys.length=16:=by simpa [Z8] using hy
  simp![yl]
  exact q _ (K03.trans (K4.trans Kp.app))
theorem Zmm {xs:List D} {i:Nat} {d:D} (h:M[n]?=some (.lst xs)) (hd:xs[i]?=some d) (hi:i < 1000):wO (mPop (.ref n) [.int i] M) Q E=Q d (M.set n (.lst (xs.eraseIdx i))):=by
 have e:mPop (.ref n) [.int i] M= .ok d (M.set n (.lst (xs.eraseIdx i))):=by
  have ei:((i:Nat):Int).toNat=i:=by omega
  simp only[mPop,h,ei,hd]
  rw[if_pos (by omega)]
 rw[e]
 rfl
set_option maxHeartbeats 400000 in
theorem Zmn {ns:List Int} (q: ∀ M',Q (.bl true) M'):wO (ZbG [.rol (ns.map D.int)] M) Q E:=by
 simp![ZbG,Zke]
 refine Zck fun os M1 K1 hl ho hs=> ?_
 generalize M.length=r at *
 simp![Zr]
 refine ZeM hs hl fun M2 K2=> ?_
 have h0:=K2.get hs.1
 have hs2: ∀ (j o:Nat),os[j]?=some o->M2[o]?=some (SO.lst (prs (rnd (ra j)))):=fun j o hj=>K2.get (hs.2 j o hj)
 have l0:=Zy h0
 simp![Zki]
 refine CC.Zcc (k:=0) fun c hc=> ?_
 have m1:=Int.emod_nonneg c (show (16:Int)≠0 by decide)
 have m2:=Int.emod_lt_of_pos c (show (0:Int) < 16 by decide)
 obtain ⟨a,ha⟩: ∃ a:Nat,c % 16=a:=⟨(c % 16).toNat,by omega⟩
 have pa:os[a]?=some (os[a]'(by omega)):=List.getElem?_eq_getElem (by omega)
 have at1:atI (os.map D.ref) (a:Int)=some (D.ref (os[a]'(by omega))):=Zcp (by rw[List.getElem?_map,pa];rfl)
 have ra':=hs2 a _ pa
 have la:=Zy ra'
 have no:=ho _ (List.getElem_mem (show a < os.length by omega))
 generalize os[a]'(by omega)=oa at *
 simp![ha,h0,at1,ra']
 have l9:=(ZfH (j:=a) (by omega)).l3
 have f5:=(ZfI (j:=a) (by omega)).2.2.2
 refine ⟨by omega,?_⟩
 have h3:(List.set M2 oa (SO.lst (prs (rnd (ra a) ++ [(0,0)]))))[r]?=some (.lst (os.map D.ref)):=by rw[List.getElem?_set_ne (by omega)];exact h0
 generalize List.set M2 oa (SO.lst (prs (rnd (ra a) ++ [(0,0)])))=M3 at *
 refine CC.Zcc (k:=1) fun c2 hc2=> ?_
 have n1:=Int.emod_nonneg c2 (show (16:Int)≠0 by decide)
 have n2:=Int.emod_lt_of_pos c2 (show (0:Int) < 16 by decide)
 obtain ⟨b,hb⟩: ∃ b:Nat,c2 % 16=b:=⟨(c2 % 16).toNat,by omega⟩
 have pb:(os.map D.ref)[b]?=some (D.ref (os[b]'(by omega))):=by rw[List.getElem?_map,List.getElem?_eq_getElem (by omega)];rfl
 simp![hb]
 rw[Zmm h3 pb (by omega)]
 generalize M3.set r (.lst ((os.map D.ref).eraseIdx b))=M4 at *
 simp![Zr]
 refine Zck fun os5 M5 K5 hl5 ho5 hs5=> ?_
 simp![Zr]
 exact ZeM hs5 hl5 fun M6 K6=>q M6
theorem law_true (ns:List Int) (h:ns.length<=63): ∃ M',ZbG [.rol (ns.map D.int)] []= .ok (.bl true) M':=by
 have w: ∀ M:Sto,∃ M',ZbG [.rol (ns.map D.int)] M= .ok (.bl true) M':=by
  intro M
  have w:wO (ZbG [.rol (ns.map D.int)] M) (fun d _=>d= .bl true) (fun _ _=>False):=Zmn fun _=>rfl
  obtain ⟨d,M',e,rfl⟩:=ZiY w
  exact ⟨M',e⟩
 exact w []
end
end K63
end
namespace K63
open PySem PySem.Spec L2 DL
noncomputable abbrev zz1 (P:Params) (s:String) (n:Nat) (v:Value):DictEntry:={ hash:=PyData.keyHash P (Str.ofString s),key:=Value.str (Str.ofString s) n,val:=v }
noncomputable abbrev zz2 (x:Array Value):Obj:={ cls:=Value.type "code",data:=Data.fields x }
noncomputable abbrev zz3 (s:String) (n:Nat):Value:=Value.str (Str.ofString s) n
noncomputable abbrev zz4 (n:Int):Value:=Value.int n 0
noncomputable def fO (n:Str) (st:Stmt) (cd:Nat) (m:Str) (t:Nat):Obj:=⟨.type "function",none,.func (PySem.W.fnOf n n (Zv st) (Zp st) (Ze st) .none .none .none (.str m t) none (.ref cd) .none),#[]⟩
noncomputable def Zdz (p:Program) (i:Nat):Stmt:=p.main.body.getD i (.Pass ⟨0,0,0,0⟩)
noncomputable def Kf (p:Program) (P:Params):PySem.W.Frag:=[(3,{ cls:=Value.type "dict",data:=Data.dict #[zz1 P "__name__" 165 (zz3 "law_rayround_k63_sixteen" 427),zz1 P "__doc__" 166 (Value.none),zz1 P "__package__" 167 (Value.none),zz1 P "__loader__" 168 (Value.builtin "__main__.__loader__#opaque"),zz1 P "__spec__" 169 (Value.none),zz1 P "__annotations__" 170 (Value.ref 6),zz1 P "__builtins__" 171 (Value.ref 4),zz1 P "__file__" 173 (zz3 "/claim/cut.py" 172),zz1 P "__cached__" 174 (Value.none),zz1 P "RayError" 206 (Value.ref 24),zz1 P "NoRow" 222 (Value.ref 37),zz1 P "gone_through" 235 (Value.ref 46),zz1 P "times_round" 242 (Value.ref 53),zz1 P "round_by" 249 (Value.ref 60),zz1 P "ROWS" 420 (Value.ref 77),zz1 P "sixteen" 426 (Value.ref 82),zz1 P "_law_cell_at" 438 (Value.ref 89),zz1 P "_law_cross" 446 (Value.ref 96),zz1 P "_law_tags" 452 (Value.ref 101),zz1 P "_law_are_rays" 461 (Value.ref 108),zz1 P "_law_least" 471 (Value.ref 115),zz1 P "_law_is_one" 481 (Value.ref 122),zz1 P "_law_right" 487 (Value.ref 127),zz1 P "law" 496 (Value.ref 134)] 24 }),
 (46,fO "gone_through" (Zdz p 4) 45 "rayround.numbers" 223),
 (45,zz2 #[zz3 "gone_through" 225,zz3 "gone_through" 226,zz3 "/claim/cut.py" 227,zz4 7,zz4 1,zz4 0,zz4 0,zz4 3,Value.ref 40,Value.bool true,zz4 181,Value.ref 41,Value.none,Value.ref 42,Value.ref 43,Value.ref 44,zz4 233,zz4 7,zz3 "/claim/cut.py" 234]),
 (53,fO "times_round" (Zdz p 5) 52 "rayround.numbers" 223),
 (52,zz2 #[zz3 "times_round" 236,zz3 "times_round" 237,zz3 "/claim/cut.py" 238,zz4 13,zz4 1,zz4 0,zz4 0,zz4 3,Value.ref 47,Value.bool true,zz4 181,Value.ref 48,Value.none,Value.ref 49,Value.ref 50,Value.ref 51,zz4 240,zz4 13,zz3 "/claim/cut.py" 241]),
 (60,fO "round_by" (Zdz p 6) 59 "rayround.numbers" 223),
 (59,zz2 #[zz3 "round_by" 243,zz3 "round_by" 244,zz3 "/claim/cut.py" 245,zz4 17,zz4 1,zz4 0,zz4 0,zz4 3,Value.ref 54,Value.bool true,zz4 181,Value.ref 55,Value.none,Value.ref 56,Value.ref 57,Value.ref 58,zz4 247,zz4 17,zz3 "/claim/cut.py" 248]),
 (82,fO "sixteen" (Zdz p 9) 81 "rayround.sixteen" 250),
 (81,zz2 #[zz3 "sixteen" 421,zz3 "sixteen" 422,zz3 "/claim/cut.py" 423,zz4 23,zz4 0,zz4 0,zz4 0,zz4 3,Value.ref 78,Value.bool true,zz4 181,Value.ref 79,Value.none,Value.none,Value.none,Value.ref 80,zz4 424,zz4 23,zz3 "/claim/cut.py" 425]),
 (89,fO "_law_cell_at" (Zdz p 11) 88 "law_rayround_k63_sixteen" 427),
 (88,zz2 #[zz3 "_law_cell_at" 429,zz3 "_law_cell_at" 430,zz3 "/claim/cut.py" 431,zz4 26,zz4 2,zz4 0,zz4 0,zz4 3,Value.ref 83,Value.bool true,zz4 181,Value.ref 84,Value.none,Value.ref 85,Value.ref 86,Value.ref 87,zz4 436,zz4 26,zz3 "/claim/cut.py" 437]),
 (96,fO "_law_cross" (Zdz p 12) 95 "law_rayround_k63_sixteen" 427),
 (95,zz2 #[zz3 "_law_cross" 439,zz3 "_law_cross" 440,zz3 "/claim/cut.py" 441,zz4 34,zz4 2,zz4 0,zz4 0,zz4 3,Value.ref 90,Value.bool true,zz4 181,Value.ref 91,Value.none,Value.ref 92,Value.ref 93,Value.ref 94,zz4 444,zz4 34,zz3 "/claim/cut.py" 445]),
 (101,fO "_law_tags" (Zdz p 13) 100 "law_rayround_k63_sixteen" 427),
 (100,zz2 #[zz3 "_law_tags" 447,zz3 "_law_tags" 448,zz3 "/claim/cut.py" 449,zz4 36,zz4 1,zz4 0,zz4 0,zz4 3,Value.ref 97,Value.bool true,zz4 181,Value.ref 98,Value.none,Value.none,Value.none,Value.ref 99,zz4 450,zz4 36,zz3 "/claim/cut.py" 451]),
 (108,fO "_law_are_rays" (Zdz p 14) 107 "law_rayround_k63_sixteen" 427),
 (107,zz2 #[zz3 "_law_are_rays" 453,zz3 "_law_are_rays" 454,zz3 "/claim/cut.py" 455,zz4 39,zz4 1,zz4 0,zz4 0,zz4 3,Value.ref 102,Value.bool true,zz4 181,Value.ref 103,Value.none,Value.ref 104,Value.ref 105,Value.ref 106,zz4 459,zz4 39,zz3 "/claim/cut.py" 460]),
 (115,fO "_law_least" (Zdz p 15) 114 "law_rayround_k63_sixteen" 427),
 (114,zz2 #[zz3 "_law_least" 462,zz3 "_law_least" 463,zz3 "/claim/cut.py" 464,zz4 49,zz4 1,zz4 0,zz4 0,zz4 3,Value.ref 109,Value.bool true,zz4 181,Value.ref 110,Value.none,Value.ref 111,Value.ref 112,Value.ref 113,zz4 469,zz4 49,zz3 "/claim/cut.py" 470]),
 (122,fO "_law_is_one" (Zdz p 16) 121 "law_rayround_k63_sixteen" 427),
 (121,zz2 #[zz3 "_law_is_one" 472,zz3 "_law_is_one" 473,zz3 "/claim/cut.py" 474,zz4 55,zz4 1,zz4 0,zz4 0,zz4 3,Value.ref 116,Value.bool true,zz4 181,Value.ref 117,Value.none,Value.ref 118,Value.ref 119,Value.ref 120,zz4 479,zz4 55,zz3 "/claim/cut.py" 480]),
 (127,fO "_law_right" (Zdz p 17) 126 "law_rayround_k63_sixteen" 427),
 (126,zz2 #[zz3 "_law_right" 482,zz3 "_law_right" 483,zz3 "/claim/cut.py" 484,zz4 64,zz4 1,zz4 0,zz4 0,zz4 3,Value.ref 123,Value.bool true,zz4 181,Value.ref 124,Value.none,Value.none,Value.none,Value.ref 125,zz4 485,zz4 64,zz3 "/claim/cut.py" 486]),
 (134,fO "law" (Zdz p 18) 133 "law_rayround_k63_sixteen" 427),
 (133,zz2 #[zz3 "law" 488,zz3 "law" 489,zz3 "/claim/cut.py" 490,zz4 74,zz4 1,zz4 0,zz4 0,zz4 3,Value.ref 128,Value.bool true,zz4 181,Value.ref 129,Value.none,Value.ref 130,Value.ref 131,Value.ref 132,zz4 494,zz4 74,zz3 "/claim/cut.py" 495]),
 (23,{ cls:=Value.type "dict",data:=Data.dict #[zz1 P "__module__" 196 (zz3 "rayround.errors" 187),zz1 P "__firstlineno__" 200 (Value.int 2 199),zz1 P "__static_attributes__" 201 (Value.ref 22),zz1 P "__weakref__" 203 (Value.ref 25),zz1 P "__doc__" 204 (Value.none)] 3 }),
 (24,{ cls:=Value.type "type",data:=Data.cls { name:=Str.ofString "RayError",bases:=[Value.type "ValueError"],mro:=[Value.ref 24,Value.type "ValueError",Value.type "Exception",Value.type "BaseException",Value.type "object"],ns:=23,qualname:=Str.ofString "RayError",subclasses:=[Value.ref 37] },slots:= #[some (Value.ref 15),none,some (zz3 "RayError" 189),some (zz3 "RayError" 197),some (Value.builtin "ValueError.__new__"),some (Value.bool true)] }),
 (36,{ cls:=Value.type "dict",data:=Data.dict #[zz1 P "__module__" 214 (zz3 "rayround.errors" 187),zz1 P "__firstlineno__" 218 (Value.int 4 217),zz1 P "__static_attributes__" 219 (Value.ref 35),zz1 P "__doc__" 220 (Value.none)] 2 }),
 (37,{ cls:=Value.type "type",data:=Data.cls { name:=Str.ofString "NoRow",bases:=[Value.ref 24],mro:=[Value.ref 37,Value.ref 24,Value.type "ValueError",Value.type "Exception",Value.type "BaseException",Value.type "object"],ns:=36,qualname:=Str.ofString "NoRow" },slots:= #[some (Value.ref 28),none,some (zz3 "NoRow" 207),some (zz3 "NoRow" 215),some (Value.builtin "ValueError.__new__"),some (Value.bool true)] }),
 (61,{ cls:=Value.type "tuple",data:=Data.seq #[Value.int 1 252,Value.int 1 253,Value.int 1 254] }),
 (62,{ cls:=Value.type "tuple",data:=Data.seq #[Value.int (-2) 256,Value.int 0 257,Value.int 2 258,Value.int 0 259] }),
 (63,{ cls:=Value.type "tuple",data:=Data.seq #[Value.int (-1) 261,Value.int 0 262,Value.int 1 263,Value.int 0 264] }),
 (64,{ cls:=Value.type "tuple",data:=Data.seq #[Value.int 0 265,Value.int 0 266,Value.int 0 267,Value.int 0 268] }),
 (65,{ cls:=Value.type "tuple",data:=Data.seq #[Value.int (-2) 270,Value.int (-1) 272,Value.int (-1) 274,Value.int 1 275,Value.int 0 276] }),
 (66,{ cls:=Value.type "tuple",data:=Data.seq #[Value.int (-1) 278,Value.int (-1) 280,Value.int (-1) 282,Value.int 0 283,Value.int 0 284] }),
 (67,{ cls:=Value.type "tuple",data:=Data.seq #[Value.int (-2) 286,Value.int (-2) 288,Value.int (-1) 290,Value.int (-2) 292,Value.int 1 293,Value.int 0 294] }),
 (68,{ cls:=Value.type "tuple",data:=Data.seq #[Value.int (-2) 296,Value.int (-1) 298,Value.int (-2) 300,Value.int (-1) 302,Value.int 0 303,Value.int 0 304] }),
 (69,{ cls:=Value.type "tuple",data:=Data.seq #[Value.int (-2) 306,Value.int (-1) 308,Value.int (-1) 310,Value.int 0 311,Value.int (-1) 313,Value.int (-1) 315] }),
 (70,{ cls:=Value.type "tuple",data:=Data.seq #[Value.int (-1) 317,Value.int (-1) 319,Value.int (-1) 321,Value.int (-1) 323,Value.int (-1) 325,Value.int (-1) 327] }),
 (71,{ cls:=Value.type "tuple",data:=Data.seq #[Value.int (-2) 329,Value.int (-2) 331,Value.int (-1) 333,Value.int (-2) 335,Value.int 0 336,Value.int (-1) 338,Value.int (-1) 340] }),
 (72,{ cls:=Value.type "tuple",data:=Data.seq #[Value.int (-2) 342,Value.int (-1) 344,Value.int (-2) 346,Value.int (-1) 348,Value.int (-1) 350,Value.int (-1) 352,Value.int (-1) 354] }),
 (73,{ cls:=Value.type "tuple",data:=Data.seq #[Value.int (-2) 356,Value.int (-2) 358,Value.int (-2) 360,Value.int (-1) 362,Value.int (-2) 364,Value.int 0 365,Value.int (-2) 367,Value.int (-1) 369] }),
 (74,{ cls:=Value.type "tuple",data:=Data.seq #[Value.int (-2) 371,Value.int (-2) 373,Value.int (-1) 375,Value.int (-2) 377,Value.int (-1) 379,Value.int (-1) 381,Value.int (-2) 383,Value.int (-1) 385] }),
 (75,{ cls:=Value.type "tuple",data:=Data.seq #[Value.int (-2) 387,Value.int (-1) 389,Value.int (-2) 391,Value.int (-1) 393,Value.int (-2) 395,Value.int (-1) 397,Value.int (-2) 399,Value.int (-1) 401] }),
 (76,{ cls:=Value.type "tuple",data:=Data.seq #[Value.int (-2) 403,Value.int (-2) 405,Value.int (-1) 407,Value.int (-2) 409,Value.int (-2) 411,Value.int (-1) 413,Value.int (-2) 415,Value.int (-2) 417,Value.int (-1) 419] }),
 (77,{ cls:=Value.type "tuple",data:=Data.seq #[Value.ref 61,Value.ref 62,Value.ref 63,Value.ref 64,Value.ref 65,Value.ref 66,Value.ref 67,Value.ref 68,Value.ref 69,Value.ref 70,Value.ref 71,Value.ref 72,Value.ref 73,Value.ref 74,Value.ref 75,Value.ref 76] })]
noncomputable def asK:List Addr:=[3,46,45,53,52,60,59,82,81,89,88,96,95,101,100,108,107,115,114,122,121,127,126,134,133,23,24,36,37,61,62,63,64,65,66,67,68,69,70,71,72,73,74,75,76,77]
theorem Zkn (p:Program) (P:Params):asK=(Kf p P).map (·.1):=rfl
noncomputable def qf (p:Program):Program:={ p with main:={ p.main with body:=[Zdz p 18] } }
noncomputable def lo:List Str:=[("__name__":Str),("RayError":Str),("NoRow":Str),("gone_through":Str),("times_round":Str),("round_by":Str),("ROWS":Str),("sixteen":Str),("_law_cell_at":Str),("_law_cross":Str),("_law_tags":Str),("_law_are_rays":Str),("_law_least":Str),("_law_is_one":Str),("_law_right":Str)]
theorem ZoH {l:PySem.W.OpenLaw} {q:Program} {loose:List Str} {XP:(Str->Option Value)->Heap->Prop} {YP:World->Heap->Prop} {d:DefRec} {K:Params->PySem.W.Frag} (hn:l.most=some 63) (hdf:d.params.defaults=[])
  (hY: ∀ (w:World) (h:Heap),YP w h->(K w.params).In h)
  (F: ∀ (w:World) (mg:Str->Option Value) (fa:Addr) (h:Heap),(K w.params).In h->h.Ns mainGlobals mg->mg d.name=some (.ref fa)->
   ∃ fd:FuncData,(∀ (s:Shared) (u:Value),BindsTo s fd ⟨[u],[]⟩ [("_law_script",u)])/\ ∀ base:Heap,(K w.params).In base->base.Ns mainGlobals mg->FnOk l.prog w (K w.params) mg base (CXE l.prog w) 105 fa fd ["_law_script"] (spD (K w.params) ZbG)):
  PySem.W.WalkO q loose XP YP l.row.toRowW d [] (fun f vs=>PySem.call f vs):=
 L2.ZgC (n:=63) (k:=105) (x:="_law_script") (CX:=fun w=>CXE l.prog w) (sp:=fun w=>spD (K w.params) ZbG) hn (by decide) hdf ⟨fun _=>rfl,by decide,by decide⟩ hY F (fun _ _ a ns hl hO hS=>DL.ZiA hl hO hS (law_true ns hl)) fun _ _ _ _ _ ⟨_,_,_,_,_,_,_,_,_,_,_,_,_,q⟩=>q
end K63
open PySem PySem.W PyProof.Rows
lay_quick PySem.Challenge.pw_rayround_k63_sixteen
namespace K63
noncomputable abbrev Hk:Hook:=kHook (Kf PySem.Challenge.pw_rayround_k63_sixteen) asK (Zkn PySem.Challenge.pw_rayround_k63_sixteen)
noncomputable def Xs (s:Shared):Bool:=xlAt (qf PySem.Challenge.pw_rayround_k63_sixteen) [] s && recOk (RowW.records (OpenRow.toRowW (OpenLaw.row PySem.Challenge.rw_rayround_k63_sixteen))) s
set_option maxRecDepth 1000000 in
set_option maxHeartbeats 0 in
theorem ZkY (w:World) (os:OsState):(HD.Zku through (HD.Zfs (stepOk 11 (some (.ref 6))) (stepT (denote treeTable) PySem.Challenge.pw_rayround_k63_sixteen w)) 1333 (HD.T0 w os) (topStub PySem.Challenge.pw_rayround_k63_sixteen)).map (fun s=>((staticsOk (importedModules PySem.Challenge.pw_rayround_k63_sixteen.main.body) (boot_heap w.params) s.abs.heap && namesBound PySem.Challenge.pw_rayround_k63_sixteen s.abs.heap && gensDone s.abs && laidKept (boot_heap w.params) s.abs.heap),
  openSeen (qf PySem.Challenge.pw_rayround_k63_sixteen) lo (importedModules PySem.Challenge.pw_rayround_k63_sixteen.main.body) (fun s=>xlAt (qf PySem.Challenge.pw_rayround_k63_sixteen) [] s && recOk [] s) true s.abs,asK.map s.abs.heap.get?))=some (true,openGood (qf PySem.Challenge.pw_rayround_k63_sixteen) lo,(Kf PySem.Challenge.pw_rayround_k63_sixteen w.params).map fun x=>some x.2):=by
 rw[HD.ZkZ,HD.Zg2,HD.ZiT,HD.ZiU,HD.Zg3,HD.ZiV,PySem.W.Fast.te17250351552054804923]
 kernel_rfl
end K63
set_option maxRecDepth 1000000 in
set_option maxHeartbeats 0 in
theorem PySem.Challenge.cw_rayround_k63_sixteen_holds : PySem.Challenge.rw_rayround_k63_sixteen.Holds := by
 w_on;o_law
 refine holds_open (q:=K63.qf PySem.Challenge.pw_rayround_k63_sixteen) (loose:=K63.lo) (Xt:=fun s=>xlAt (K63.qf PySem.Challenge.pw_rayround_k63_sixteen) [] s && recOk [] s) (XP:=XL (K63.qf PySem.Challenge.pw_rayround_k63_sixteen) []) (Yf:=Hook.obs K63.Hk) (Ya:=Hook.val K63.Hk) (YP:=Hook.says K63.Hk) (N:=1933) ?hl (Hook.of K63.Hk) (Hook.keeps K63.Hk) (fun s e=>xl_of s (Bool.and_eq_true_iff.mp e).1) XL.keeps (by rfl) (by rfl) (by rfl) (fun s e=>recFacts_of (Bool.and_eq_true_iff.mp e).2) (by rfl) (by first | assumption | decide +kernel) (by decide +kernel) ⟨rfl,rfl,rfl,rfl,rfl,by decide +kernel⟩ ?hw ?hc
 case hl=>exact HD.Zex rfl (by decide) (fun s=>rfl) (by decide) K63.ZkY
 case hw=>w_witness2
 case hc=>
  refine K63.ZoH (l:=PySem.Challenge.rw_rayround_k63_sixteen) rfl rfl (fun w h Y=>PySem.W.kIn_of Y) ?F
  intro w mg fa h KX G hmg
  refine K63.Zkg (f1:=46) (od1:=none) (an1:=none) (sl1:= #[]) (oc1:= .type "function") (kV1:= .none) (dc1:= .none) (pm1:= .str "rayround.numbers" 223) (cd1:= .ref 45) (ct1:= .none) (f2:=53) (od2:=none) (an2:=none) (sl2:= #[]) (oc2:= .type "function") (kV2:= .none) (dc2:= .none) (pm2:= .str "rayround.numbers" 223) (cd2:= .ref 52) (ct2:= .none) (f3:=60) (od3:=none) (an3:=none) (sl3:= #[]) (oc3:= .type "function") (kV3:= .none) (dc3:= .none) (pm3:= .str "rayround.numbers" 223) (cd3:= .ref 59) (ct3:= .none) (f4:=82) (od4:=none) (an4:=none) (sl4:= #[]) (oc4:= .type "function") (kV4:= .none) (dc4:= .none) (pm4:= .str "rayround.sixteen" 250) (cd4:= .ref 81) (ct4:= .none) (f5:=89) (od5:=none) (an5:=none) (sl5:= #[]) (oc5:= .type "function") (kV5:= .none) (dc5:= .none) (pm5:= .str "law_rayround_k63_sixteen" 427) (cd5:= .ref 88) (ct5:= .none) (f6:=96) (od6:=none) (an6:=none) (sl6:= #[]) (oc6:= .type "function") (kV6:= .none) (dc6:= .none) (pm6:= .str "law_rayround_k63_sixteen" 427) (cd6:= .ref 95) (ct6:= .none) (f7:=101) (od7:=none) (an7:=none) (sl7:= #[]) (oc7:= .type "function") (kV7:= .none) (dc7:= .none) (pm7:= .str "law_rayround_k63_sixteen" 427) (cd7:= .ref 100) (ct7:= .none) (f8:=108) (od8:=none) (an8:=none) (sl8:= #[]) (oc8:= .type "function") (kV8:= .none) (dc8:= .none) (pm8:= .str "law_rayround_k63_sixteen" 427) (cd8:= .ref 107) (ct8:= .none) (f9:=115) (od9:=none) (an9:=none) (sl9:= #[]) (oc9:= .type "function") (kV9:= .none) (dc9:= .none) (pm9:= .str "law_rayround_k63_sixteen" 427) (cd9:= .ref 114) (ct9:= .none) (f10:=122) (od10:=none) (an10:=none) (sl10:= #[]) (oc10:= .type "function") (kV10:= .none) (dc10:= .none) (pm10:= .str "law_rayround_k63_sixteen" 427) (cd10:= .ref 121) (ct10:= .none) (f11:=127) (od11:=none) (an11:=none) (sl11:= #[]) (oc11:= .type "function") (kV11:= .none) (dc11:= .none) (pm11:= .str "law_rayround_k63_sixteen" 427) (cd11:= .ref 126) (ct11:= .none) (f12:=134) (od12:=none) (an12:=none) (sl12:= #[]) (oc12:= .type "function") (kV12:= .none) (dc12:= .none) (pm12:= .str "law_rayround_k63_sixteen" 427) (cd12:= .ref 133) (ct12:= .none) KX G hmg ?a1 ?l1 ?c1 ?k1 ?a2 ?l2 ?c2 ?k2 ?a3 ?l3 ?c3 ?k3 ?a4 ?l4 ?c4 ?k4 ?a5 ?l5 ?c5 ?k5 ?a6 ?l6 ?c6 ?k6 ?a7 ?l7 ?c7 ?k7 ?a8 ?l8 ?c8 ?k8 ?a9 ?l9 ?c9 ?k9 ?a10 ?l10 ?c10 ?k10 ?a11 ?l11 ?c11 ?k11 ?a12 ?l12 ?c12 ?k12 ?z_sum ?z_len ?z_list ?z_range ?z_isinstance ?z_tuple ?z_int ?z_bool ?z_reversed ?z_min ?q_ex_NoRow ?q_co_ROWS
  all_goals kernel_rfl
